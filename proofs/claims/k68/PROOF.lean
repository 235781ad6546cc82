import PyProof.Rows.All
import Wide.All
import OpenK.AllK
import Wide.FinOn
import Lean
import PyProof.EqAt
import PyProof.EqKinds
import PyProof.TupleCall
import PyProof.AttrMissHeap
import PyProof.DictRoadsH
import KE.KDictOf
import PyProof.P3In
import PySem.Challenge.RW_stayprice_k68_at_most_twelve_rules
open PySem renaming PyData->Aa,Value->Ab,Shared->Ac,Addr->Ad,starEach->Af,model->Ag,Program->Ah,mainGlobals->Ai,wpAny->Aj,World->Ak,Around->Al,Expr->Am,Heap->An,FuncData->Ao,Stmt->Ap,Scope->Aq,Env->Ar
open PySem.W renaming Frag->Ae
set_option maxHeartbeats 0
set_option linter.all false
set_option Elab.async false
def zK0:=@PySem.wpAny_bind
def zK1:=@PySem.Heap.get?_push_of_some
def zK2:=@PySem.wpAny_pure
def zK3:=@List.length_map
def zK4:=@List.getElem?_eq_getElem
def zK5:=@Nat.lt_of_lt_of_le
def zK6:=@Nat.le_refl
def zK7:=@List.getElem?_eq_some_iff
def zK8:=@List.mem_cons
def zK9:=@PyProof.Rows.wpS_bind
def zL0:=@PySem.Heap.lt_size
def zL1:=@List.mem_cons_of_mem
def zL2:=@PySem.Heap.get?_push_size
def zL3:=@Nat.le_of_ble_eq_true
def zL4:=@List.getD_eq_getElem?_getD
def zL5:=@PyProof.Rows.wpS_pure
def zL6:=@Nat.zero_le
def zL7:=@List.mem_cons_self
def zL8:=@Nat.le_trans
def zL9:=@Nat.ne_of_lt
def zM0:=@PySem.Heap.get?_update_other
def zM1:=@List.size_toArray
def zM2:=@decide_eq_false
def zM3:=@List.getElem?_map
def zM4:=@List.mem_append_right
def zM5:=@List.not_mem_nil
def zM6:=@Nat.lt_of_le_of_lt
def zM7:=@Bool.false_ne_true
def zM8:=@List.length_append
def zM9:=@Nat.le_of_eq
def zN0:=@List.length_cons
def zN1:=@List.mem_singleton
def zN2:=@List.append_assoc
def zN3:=@Nat.le_add_right
def zN4:=@List.getElem?_append_left
def zN5:=@decide_eq_true
def zN6:=@List.mem_append
def zN7:=@List.take_append_drop
def zN8:=@PySem.W.mg_none_of
def zN9:=@List.getElem?_append_right
def zO0:=@List.mem_append_left
def zO1:=@PySem.W.mg_of
def zO2:=@Option.some.inj
def zO3:=@Array.toList_append
def zO4:=@List.pairwise_append
def zO5:=@Option.map_eq_some_iff
def zO6:=@Bool.and_eq_true
def zO7:=@Nat.add_lt_add_left
def zO8:=@getElem?_pos
def zO9:=@PySem.wpAny_mono
def zP0:=@List.length_set
def zP1:=@PySem.wpAny_ite_split
def zP2:=@Ne.symm
def zP3:=@PySem.wpAny_holding
def zP4:=@List.map_cons
def zP5:=@List.getElem?_set_ne
def zP6:=@List.append_nil
def zP7:=@List.drop_eq_getElem_cons
def zP8:=@or_false
def zP9:=@PySem.sizeLine_eq
def zQ0:=@Nat.le_of_lt
def zQ1:=@Nat.lt_or_ge
def zQ2:=@List.Perm.append_left
def zQ3:=@List.mem_of_getElem?
def zQ4:=@PySem.Heap.get?_update_self
def zQ5:=@List.find?_cons
def zQ6:=@Nat.lt_irrefl
def zQ7:=@Nat.lt_succ_self
def zQ8:=@List.lookup_cons
def zQ9:=@PyProof.Rows.wpS_forRange
def zR0:=@PySem.mem_of_lookup
def zR1:=@PyProof.Rows.callWith_type1
def zR2:=@PySem.W.kia_one
def zR3:=@PySem.wpAny_setField_rec
def zR4:=@List.length_take
def zR5:=@PySem.wpAny_call_entry
def zR6:=@Array.length_toList
def zR7:=@Int.toNat_natCast
def zR8:=@Nat.lt_succ_of_lt
def zR9:=@PySem.Heap.size_push
def zS0:=@Classical.choose_spec
def zS1:=@PySem.wpAny_Call_Name_kw
def zS2:=@Nat.lt_add_of_pos_right
def zS3:=@PySem.wpAny_callSpecial?_slot
def zS4:=@List.getElem?_set_self
def zS5:=@PySem.wpAny_field
def zS6:=@PySem.wpAny_truthy_bool
def zS7:=@PySem.wpAny_newObj_type
def zS8:=@List.pairwise_iff_getElem
def zS9:=@Array.getElem?_eq_getElem
def zT0:=@PySem.F.slot_zip_next
def zT1:=@List.perm_append_comm
def zT2:=@Nat.ne_of_gt
def zT3:=@List.take_length
def zT4:=@Nat.le_succ
def zT5:=@PySem.strLen_append
def zT6:=@PySem.wpAny_attempt
def zT7:=@Int.le_refl
def zT8:=@Bool.false_and
def zT9:=@PySem.wpAny_rule
def zU0:=@PySem.wpAny_seqItems
def zU1:=@PySem.Around.under_plainId
def zU2:=@List.mem_of_mem_take
def zU3:=@List.getElem?_replicate
def zU4:=@decide_eq_false_iff_not
def zU5:=@Nat.le_of_lt_succ
def zU6:=@PySem.wpAny_loadPart_at
def zU7:=@Array.Perm.refl
def zU8:=@List.replicate_succ
def zU9:=@PySem.wpAny_nextOf_list_item
def zV0:=@PySem.F.excBase_ValueError
def zV1:=@PySem.W.callWith_K
def zV2:=@Bool.false_eq_true
def zV3:=@PySem.F.plain_extend_loop
def zV4:=@beq_iff_eq
def zV5:=@List.nil_append
def zV6:=@Nat.le_antisymm
def zV7:=@PyProof.Rows.get?_update_seq
def zV8:=@PySem.codeAny_builtin
def zV9:=@Nat.sub_self
def zW0:=@List.mem_of_mem_drop
def zW1:=@PyProof.Rows.wpS_mono
def zW2:=@Bool.and_eq_true_iff
def zW3:=@List.take_sublist
def zW4:=@decide_eq_true_eq
def zW5:=@List.take_add_one
def zW6:=@List.drop_sublist
def zW7:=@PySem.wpAny_setState_of
def zW8:=@Array.toList_push
def zW9:=@of_decide_eq_true
def zX0:=@PySem.Heap.SameBut.update
def zX1:=@Nat.le_of_not_lt
def zX2:=@List.getElem_mem
def zX3:=@PySem.wpAny_askSetting
def zX4:=@PySem.wpAny_call
def zX5:=@List.Perm.append_right
def zX6:=@PySem.codeAny_mono
def zX7:=@PySem.Obj.data_mapFields
def zX8:=@Int.le_trans
def zX9:=@PySem.wpAny_passesOwn
def zY0:=@PySem.wpAny_updateSeq
def zY1:=@List.getElem?_eq_none
def zY2:=@PySem.Obj.isFreed_of_fields
def zY3:=@Array.getElem?_toList
def zY4:=@Array.getElem?_eq_some_iff
def zY5:=@List.flatten_cons
def zY6:=@List.mem_iff_getElem
def zY7:=@List.extract_eq_take_drop
def zY8:=@PyProof.Rows.wpS_modify
def zY9:=@Array.toList_reverse
def zZ0:=@PySem.wpAny_of_eq
def zZ1:=@Int.le_of_lt
def zZ2:=@List.drop_length
def zZ3:=@List.filter_cons
def zZ4:=@PySem.F.called_set
def zZ5:=@beq_eq_false_iff_ne
def zZ6:=@PySem.wpAny_setEntries_of
def zZ7:=@List.reverse_append
def zZ8:=@List.length_eq_zero_iff
def zZ9:=@PySem.plainId_quiet
def z00:=@Bool.or_eq_true
def z01:=@PySem.Code.quiet_builtin
def z02:=@List.map_append
def z03:=@PySem.wpAny_pyIter_list
def z04:=@List.length_replicate
def z05:=@List.length_singleton
def z06:=@PySem.builtinLookup_eq_fast
def z07:=@List.all_eq_true
def z08:=@List.cons_append
def z09:=@Option.bind_some
def z22:=@Array.toList_extract
def z23:=@PySem.wpAny_standAt
def z24:=@Array.perm_iff_toList_perm
def z25:=@PyProof.Rows.listUpdate_at
def z26:=@if_true
def z27:=@List.filterMap_cons
def z28:=@List.length_reverse
def z29:=@List.getElem_of_mem
def z30:=@List.mem_filter
def z31:=@PySem.wpAny_execs_nil
def z32:=@List.nodup_cons
def z33:=@List.forIn_cons
def z34:=@Nat.div_add_mod
def z35:=@PySem.PassesOwn.never
def z36:=@Nat.min_eq_left
def z37:=@Nat.lt_trans
def z38:=@if_false
def z39:=@Nat.succ_pos
def z40:=@List.mem_map
def z41:=@Int.emod_lt_of_pos
def z42:=@PySem.wpAny_newTuple
def z43:=@Int.eq_ofNat_of_zero_le
def z44:=@PySem.F.args_zip_next_1
def z45:=@List.pairwise_singleton
def z46:=@PySem.Heap.get?_push_ne
def z47:=@Bool.not_eq_true'
def z48:=@PySem.fits_of_scanBound
def z49:=@PySem.F.entry_zip_next
def z50:=@List.take_of_length_le
def z51:=@List.any_cons
def z52:=@PySem.Heap.size_update
def z53:=@PySem.wpAny_isInstance
def z54:=@PySem.W.methodCall_KW
def z55:=@List.set_append_right
def z56:=@Bool.eq_iff_iff
def z57:=@Int.not_le
def z58:=@PySem.wpAny_specialOf
def z59:=@PySem.typeLookup_type
def z60:=@Nat.not_lt_zero
def z61:=@PySem.codeAny_of_tree
def z62:=@Int.emod_nonneg
def z63:=@PySem.W.plainGet_of
def z64:=@List.mem_range
def z65:=@Bool.and_false
def z66:=@List.forIn_nil
def z67:=@List.take_take
def z68:=@Int.natCast_nonneg
def z69:=@Int.lt_of_lt_of_le
def z70:=@List.forIn_toArray
def z71:=@List.all_cons
section
variable {a b c d e f g A B C D E F G H I J K L:Nat}{p q r s t u v w P Q R S T U V W:Int}
def om0 (h:a<b):b-(a+1)<b-a:=by lia
def om5 (h:0=a-b)(i:b<=a):b=a:=by lia
def om6 (h:a+1=b-c):c<b:=by omega
def om7 (h:a+b=c-d):a=c-(d+b):=by omega
def om9 (h:(a:Int)<(b:Int)):a<b:=by omega
def zH3 (h:a+64<b):a+1<b:=(z37 (zO7 (by decide) a) h)
def zG0 (h:a<=1000):((min b a:Nat):Int)<=1000:=by lia
def iG (h:a<64):a<=16777216:=(zQ0 (z37 h (by decide:(64:Nat)<(16777216:Nat))))
def zJ7 (h:p<=q)(i:r<=s):p+r<=s+q:=by lia
def zB0 (h:a<=b)(i:c<=b):max a c<=b:=by lia
def zg0 (h:a<=7):a+1<=8:=(zM6 h (by decide:(7:Nat)<(8:Nat)))
def zk2 (h:a+b<=c)(i:d<=e+b)(j:e<=a):d<=c:=by lia
def zF3 (h:a+1+1<2):False:=by lia
def zg4 (h:2<=a)(i:a=b):0<b:=(zK5 (by decide:(0:Nat)<(2:Nat)) (zL8 h (zM9 i)))
def kZ (h:a+(b+c)<=d):a+c+b<=d:=by lia
def cu (h:a<b+1)(i:¬a=b):a<b:=by lia
def zD5 :a+(b+c)=a+c+b:=by lia
def zC2 (h:p<=q):p+(((q-p).toNat:Nat):Int)=q:=by omega
def zi8 (h:(a:Int)=(b:Int)):b=a:=by lia
def zw7 (h:a-b=0)(i:b<=a):b=a:=by omega
def zx4 (h:a-b=c+1):b<a:=by omega
def zx0 (h:a-b=c+d):a-(b+d)=c:=by omega
def pR (h:a<b):b-1<b:=by lia
def zz7 (h:a<=b):(a:Int)-(b:Int)<=0:=by lia
def zA8 (h:a=16777216)(i:b<=a):¬(b:Int)≥2^63:=by lia
def zy3 (h:a=16777216)(i:b<=a):b<=1099511627776:=(zQ0 (zM6 i (zM6 (zM9 h) (by decide:(16777216:Nat)<(1099511627776:Nat)))))
def cy (h:a=16777216)(i:b=c)(j:b<=a):(c:Int)<2^63:=by lia
def zd6 (h:a+3*(b+c)+d<e):a+c+3*b+d<e:=by lia
def ze5 (h:a+16*(b+c)+200<d):a+c+16*b+200<d:=by lia
def zw2 (h:a=b)(i:b<=c):a+(c-a)=c:=by lia
def fL (h:a<2^63)(i:p<(b:Int))(j:b<=a):p<2^63:=by lia
def cp (h:(-(a:Int))<=p)(i:a<=b)(j:b<2^63):(-(2^63))<=p:=by lia
def zf3 (h:p<0):max 0 (min (p+q) q)=(((p+q).toNat:Nat):Int):=by lia
def zd4 :max 0 (min p (a:Int))=((min p.toNat a:Nat):Int):=by lia
def zf5 (h:a<2^63)(i:b=c)(j:b<=a):(c:Int)<2^63:=by lia
def zc8 (h:a+b<=c)(i:a=d)(j:b=e):d+e<=c:=by lia
def zd7 (h:a<=b)(i:¬a=b):a<=b-1:=by lia
def zj0 (h:a<1)(i:b<=a):b=0:=by lia
def ze4 (h:a<1):a=0:=by lia
def kW (h:a<=b+c+d):a<=b+(d+c):=by lia
def zk1 (h:a<b):b<=b-c+b-1-a+c:=by omega
def zh8 (h:a<b)(i:c<=a):c+b-1-a<b:=by omega
def zg2 (h:a-b<=c):a<=c+b:=by lia
def zj7 :¬(a<=b/\b<b):=by lia
def rT (h:a+1<=b+(0+1))(i:b<a+1):b=a:=by omega
def zd5 (h:a+b<=c+(d+b)):a<=c+d:=by lia
def zi4 :a<=a-b+(c+b):=by omega
def ze8 (h:a<b):0+b-1-c<b:=by omega
def gu (h:a<=b+(c-b))(i:b<=c):a<=c:=by omega
def zj1 (h:a<b):a<=b-1:=by omega
def zj5 (h:a>1):a-1<a:=by lia
def jc (h:a<b)(i:b<=c)(j:d<=1+(b-1)):d<=c:=by lia
def zd0 (h:a<b+1)(i:c<a):a-1<b:=by lia
def zx2 (h:a<=1000):a<=16777216:=(zQ0 (zM6 h (by decide:(1000:Nat)<(16777216:Nat))))
def zi6 (h:a=b)(i:a<=100):b<=16777216:=(zQ0 (zM6 (zM9 h.symm) (zM6 i (by decide:(100:Nat)<(16777216:Nat)))))
def dG :a<a+5\/a+5<a:=(.inl (zS2 (by decide)))
def zi1 :a+4<a\/a<a+4:=(.inr (zS2 (by decide)))
def gZ :a+4<a+5\/a+5<a+4:=(.inl (zO7 (by decide) a))
def gp :a+1<a+5\/a+5<a+1:=(.inl (zO7 (by decide) a))
def cx :a+1<a+4\/a+4<a+1:=(.inl (zO7 (by decide) a))
def zj9 :a+4<a+1\/a+1<a+4:=(.inr (zO7 (by decide) a))
def hU :a+2<a+5\/a+5<a+2:=(.inl (zO7 (by decide) a))
def ze9 :a+2<a\/a<a+2:=(.inr (zS2 (by decide)))
def gf :a+2<a+4\/a+4<a+2:=(.inl (zO7 (by decide) a))
def zi5 :a+2<a+1\/a+1<a+2:=(.inr (zO7 (by decide) a))
def zh7 :a+4<a+2\/a+2<a+4:=(.inr (zO7 (by decide) a))
def eU :a+5<a+4\/a+4<a+5:=(.inr (zO7 (by decide) a))
def zh2 :a+5<a+2\/a+2<a+5:=(.inr (zO7 (by decide) a))
def zk0 :a+5<a+1\/a+1<a+5:=(.inr (zO7 (by decide) a))
def zk4 :a+5<a\/a<a+5:=(.inr (zS2 (by decide)))
def gC :a<a+4\/a+4<a:=(.inl (zS2 (by decide)))
def zf4 :a<a+2\/a+2<a:=(.inl (zS2 (by decide)))
def zi9 :a+1<a+2\/a+2<a+1:=(.inl (zO7 (by decide) a))
def gH :a+3<a+5\/a+5<a+3:=(.inl (zO7 (by decide) a))
def ze0 :a+3<a\/a<a+3:=(.inr (zS2 (by decide)))
def zj4 :a+3<a+1\/a+1<a+3:=(.inr (zO7 (by decide) a))
def zg9 :a+3<a+2\/a+2<a+3:=(.inr (zO7 (by decide) a))
def zg5 (h:(-(2^62))<=p):(-(2^63))<=p:=by lia
def zf7 (h:p<2^62):p<2^63:=by lia
end
set_option maxRecDepth 100000
namespace L2
open PySem PySem.Spec PyProof.Rows
abbrev Key :=Sum Int Str
def rH :Key->Ab->Bool
 |.inl k,v=>Value.isInt k v
 |.inr x,v=>Value.isStrOf x v
def zI1 (w:Ak):Key->Int
 |.inl k=>hashInt k
 |.inr x=>hashStr w x
theorem zL :∀{k:Key}{v:Ab},rH k v=true->(∃i t,k=Sum.inl i/\v=Value.int i t)\/(∃x t,k=Sum.inr x/\v=Value.str x t)
 |.inl i,v,h=>by
  obtain⟨t,e⟩:=Value.isInt_shape h;exact .inl ⟨i,t,rfl,e⟩
 |.inr x,v,h=>by
  obtain⟨t,e⟩:=Value.isStrOf_shape h;exact .inr ⟨x,t,rfl,e⟩
def jA (i:Int)(t:Tok):rH (.inl i) (.int i t)=true:=by simp[rH,Value.isInt]
def jx (x:Str)(t:Tok):rH (.inr x) (.str x t)=true:=by simp[rH,Value.isStrOf]
def zp7 (a b:Int):decide ((Sum.inl a:Key)=Sum.inl b)=(a == b):=by
 by_cases e:a=b
 .subst e;simp
 .have h:¬(Sum.inl a:Key)=Sum.inl b:=λq=>e (Sum.inl.inj q);rw[zM2 h];exact(zZ5.mpr e).symm
def zv7 (a b:Str):decide ((Sum.inr a:Key)=Sum.inr b)=decide (a=b):=by
 by_cases e:a=b
 .subst e;simp
 .have h:¬(Sum.inr a:Key)=Sum.inr b:=λq=>e (Sum.inr.inj q);rw[zM2 h,zM2 e]
def zl6 (a:Int)(b:Str):decide ((Sum.inl a:Key)=Sum.inr b)=false:=zM2 (λq=>nomatch q)
def zo9 (a:Str)(b:Int):decide ((Sum.inr a:Key)=Sum.inl b)=false:=zM2 (λq=>nomatch q)
def yH (prog:Ah)(w:Ak):PySem.KeyKind prog w Key where
 is:=rH
 hash:=zI1 w
 inj:=λv a b ha hb=>by
  rcases zL ha with⟨i,t,rfl,rfl⟩|⟨x,t,rfl,rfl⟩
  .rcases zL hb with⟨j,u,rfl,e⟩|⟨y,u,rfl,e⟩
   .injection e with e1 _;rw[e1]
   .exact nomatch e
  .rcases zL hb with⟨j,u,rfl,e⟩|⟨y,u,rfl,e⟩
   .exact nomatch e
   .injection e with e1 _;rw[e1]
 byValue:=λk v h=>by
  rcases zL h with⟨i,t,rfl,rfl⟩|⟨x,t,rfl,rfl⟩<;>rfl
 pyHash:=λc h=>by
  rcases zL c with⟨i,t,rfl,rfl⟩|⟨x,t,rfl,rfl⟩
  .exact wpAny_pyHash_int h
  .exact wpAny_pyHash_str h
 eqBool:=λd c h=>by
  rcases zL d with⟨i,t,rfl,rfl⟩|⟨x,t,rfl,rfl⟩
  .rcases zL c with⟨j,u,rfl,rfl⟩|⟨y,u,rfl,rfl⟩
   .rw[zp7]at h;exact wpAny_eqBool_int h
   .rw[zl6]at h;exact SeqAt.EqAt.int_str i t y u _ _ _ _ h
  .rcases zL c with⟨j,u,rfl,rfl⟩|⟨y,u,rfl,rfl⟩
   .rw[zo9]at h;exact SeqAt.EqAt.str_int x t j u _ _ _ _ h
   .rw[zv7]at h;exact wpAny_eqBool_str h
 «strs»:=λk x t v h=>by
  rcases zL h with⟨i,u,rfl,e⟩|⟨y,u,rfl,e⟩
  .exact nomatch e
  .injection e with e1 _;subst e1;cases v<;>rfl
def oG (prog:Ah)(w:Ak)(i:Int)(t:Tok):(yH prog w).is (.inl i) (.int i t)=true:=jA i t
def og (prog:Ah)(w:Ak)(x:Str)(t:Tok):(yH prog w).is (.inr x) (.str x t)=true:=jx x t
inductive V where
 |non|bl (b:Bool)|int (i:Int)|str (x:Str)|byt (b:Array UInt8)|flt (b:UInt64)|ref (a:Ad)|ty (n:String)
 deriving DecidableEq
def RelV :V->Ab->Prop
 |.non,u=>u=Value.none
 |.bl b,u=>u=Value.bool b
 |.int i,u=>∃t,u=Value.int i t
 |.str x,u=>∃t,u=Value.str x t
 |.byt b,u=>∃t,u=Value.bytes b t
 |.flt b,u=>∃t,u=Value.float b t
 |.ref a,u=>u=Value.ref a
 |.ty n,u=>u=Value.type n
abbrev Vals :List V->List Ab->Prop:=Paired RelV
theorem Vals.length {xs:List V}{us:List Ab}(r:Vals xs us):xs.length=us.length:=Paired.length r
theorem Vals.get :∀{xs:List V}{us:List Ab}{i:Nat}{x:V},Vals xs us->xs[i]?=some x->∃u,us[i]?=some u/\RelV x u
 |_,_,_,_,.nil,e=>by simp at e
 |_,_,0,_,.cons r _,e=>by simp at e;subst e;exact⟨_,rfl,r⟩
 |_,_,i+1,x,.cons _ t,e=>by
  obtain⟨u,a,b⟩:=Vals.get t (by simpa using e);exact⟨u,by simpa using a,b⟩
theorem Vals.set {x:V}{u:Ab}(r:RelV x u):∀{xs:List V}{us:List Ab} (i:Nat),Vals xs us->Vals (xs.set i x) (us.set i u)
 |_,_,_,.nil=>.nil
 |_,_,0,.cons _ t=>.cons r t
 |_,_,i+1,.cons q t=>.cons q (Vals.set r i t)
theorem Vals.append {xs ys:List V}{us ws:List Ab}(h:Vals xs us)(s:Vals ys ws):Vals (xs++ys) (us++ws):=by
 induction h with
 |nil=>exact s
 |cons r _ a=>exact .cons r a
theorem Vals.take :∀{xs:List V}{us:List Ab} (n:Nat),Vals xs us->Vals (xs.take n) (us.take n)
 |_,_,0,_=>.nil
 |_,_,_+1,.nil=>.nil
 |_,_,n+1,.cons r t=>.cons r (Vals.take n t)
theorem Vals.drop :∀{xs:List V}{us:List Ab} (n:Nat),Vals xs us->Vals (xs.drop n) (us.drop n)
 |_,_,0,r=>r
 |_,_,_+1,.nil=>.nil
 |_,_,n+1,.cons _ t=>Vals.drop n t
def vP :Option V->Option Ab->Prop
 |some v,some u=>RelV v u
 |none,none=>True
 |_,_=>False
def KV {a:Type}:List (a×V)->List (a×Ab)->Prop:=Paired λ(p:a×V) (q:a×Ab)=>p.1=q.1/\RelV p.2 q.2
def kV :Key->V
 |.inl i=>.int i
 |.inr x=>.str x
inductive HO where
  |lst (xs:List V)
  |tup (xs:List V)
  |dK (kvs:List (Key×V))|dT (kvs:List (List Key×V))
  |set (S:Int->Bool) (n:Nat)
  |ins (C dx:Ad) (fs:List (Str×V))
  |own (x:Ad)
  |xd (fs:List (Str×V))
  |met (f x:Ad)
  |rng (lo hi:Int)
  |frz (o:Obj) (u:HO)
  |tbl (ps:Array Ab)
  |ext (φ:An->Prop)
abbrev Hp :=Ad->Option HO
def upd (H:Hp)(a:Ad)(o:HO):Hp:=λb=>if b=a then some o else H b
def zl {H:Hp}{a:Ad}{o:HO}:upd H a o a=some o:=by unfold upd;rw[if_pos rfl]
def zj {H:Hp}{a b:Ad}{o:HO}(h:b≠a):upd H a o b=H b:=by unfold upd;rw[if_neg h]
def uY {H:Hp}{a:Ad}{o u:HO}:upd (upd H a o) a u=upd H a u:=by funext b;unfold upd;split<;>rfl
def zm {H:Hp}{a b:Ad}{o:HO}(h:H a=some o)(h':H b=none):a≠b:=by intro e;subst e;rw[h]at h';cases h'
section
variable (P:Ah)(w:Ak)
def yr (H:Hp)(h:An)(a:Ad):HO->Prop
 |.lst xs=>xs.length<=sizeLine/\∃(b:List Ab) (n:Nat),Vals xs b/\h.get? a=some {cls:=.type "list",data:=.seq b.toArray n}
 |.tup xs=>xs.length<=sizeLine/\∃b:List Ab,Vals xs b/\IsTup h a b.toArray
 |.dK kvs=>kvs.length<=sizeLine/\(a == sysModules)=false/\∃vs,KV kvs vs/\h.DictOf (yH P w) a vs
 |.dT kvs=>kvs.length<=sizeLine/\(a == sysModules)=false/\∃xs:List (List Key×Ad×Ab),
   Paired (λ(p:List Key×V) (q:List Key×Ad×Ab)=>p.1=q.1/\H q.2.1=some (.tup (p.1.map kV))/\RelV p.2 q.2.2) kvs xs/\
   ∃o es ep,h.get? a=some o/\o.ExactDict/\o.data=.dict es ep/\es.toList=xs.map (entryOfKey (tupleKind (yH P w)))/\(xs.map (·.1)).Nodup
 |.set S n=>h.SetOf (intKind P w) a S n
 |.ins C dx fs=>H dx=some (.own a)/\fs.length<=1000/\dx≠a/\h.get? a=some (PySem.W.instObj C dx)/\
   ∃mA,h.Ns1 dx mA/\(∀f,vP (fs.lookup f) (mA f))/\PySem.Within mA (fs.map (·.1))
 |.own _=>∃o,h.get? a=some o
 |.xd fs=>∃mA,h.Ns1 a mA/\∀f,vP (fs.lookup f) (mA f)
 |.rng lo hi=>∃t u v,h.get? a=some {cls:=.type "range",data:=.fields #[.int lo t,.int hi u,.int 1 v]}
 |.frz o u=>h.get? a=some o/\yr H h a u
 |.tbl ps=>h.get? a=some {cls:=.none,data:=.fields ps}
 |.met f x=>h.get? a=some (PySem.W.methodObj (.ref f) (.ref x))
 |.ext φ=>φ h/\(∃o,h.get? a=some o)/\∀c d:An,φ c->(∀o,c.get? a=some o->d.get? a=some o)->φ d
def HOk (H:Hp)(h:An):Prop:=∀a o,H a=some o->yr P w H h a o
end
section
variable {P:Ah}{w:Ak}{H H':Hp}{h h':An}{a:Ad}{o:HO}
theorem yr.lt (x:yr P w H h a o):a<h.objs.size:=by
 cases o with
 |lst xs=>obtain⟨_,_,_,_,e⟩:=x;exact zL0 e
 |tup xs=>obtain⟨_,_,_,p⟩:=x;exact p.lt
 |dK kvs=>obtain⟨_,_,_,_,o,_,_,e,_⟩:=x;exact zL0 e
 |dT kvs=>obtain⟨_,_,_,_,o,_,_,e,_⟩:=x;exact zL0 e
 |set S n=>obtain⟨o,_,_,_,e,_⟩:=x;exact zL0 e
 |ins C dx fs=>obtain⟨_,_,_,e,_⟩:=x;exact zL0 e
 |own y=>obtain⟨_,e⟩:=x;exact zL0 e
 |xd fs=>obtain⟨_,⟨_,_,_,e,_⟩,_⟩:=x;exact zL0 e
 |rng lo hi=>obtain⟨_,_,_,e⟩:=x;exact zL0 e
 |frz ob u=>obtain⟨e,_⟩:=x;exact zL0 e
 |tbl ps=>exact zL0 (x)
 |met f y=>exact zL0 (x)
 |ext φ=>obtain⟨_,⟨_,e⟩,_⟩:=x;exact zL0 e
theorem Paired.mapP {O β:Type}{F G:O->β->Prop}{c:List O}{d:List β}(h:Paired F c d)(f:∀a b,F a b->G a b):Paired G c d:=by
 induction h with
 |nil=>exact .nil
 |cons r _ e=>exact .cons (f _ _ r) e
theorem yr.stay (x:yr P w H h a o)(k:∀b u,(b=a\/H b=some (.own a))->h.get? b=some u->h'.get? b=some u)
  (i:∀b,H b=some (.own a)->H' b=some (.own a)) (m:∀b xs,H b=some (.tup xs)->H' b=some (.tup xs)):yr P w H' h' a o:=by
 induction o with
 |lst xs=>obtain⟨z,g,n,r,e⟩:=x;exact⟨z,g,n,r,k _ _ (.inl rfl) e⟩
 |tup xs=>obtain⟨z,g,r,ob,e,c⟩:=x;exact⟨z,g,r,ob,k _ _ (.inl rfl) e,c⟩
 |dK kvs=>obtain⟨z,y,vs,r,ob,es,ep,e,c⟩:=x;exact⟨z,y,vs,r,ob,es,ep,k _ _ (.inl rfl) e,c⟩
 |dT kvs=>
  obtain⟨z,y,xs,r,ob,es,ep,e,c⟩:=x;exact⟨z,y,xs,Paired.mapP r λp q z=>⟨z.1,m _ _ z.2.1,z.2.2⟩,ob,es,ep,k _ _ (.inl rfl) e,c⟩
 |set S n=>obtain⟨ob,es,ep,t,e,c⟩:=x;exact⟨ob,es,ep,t,k _ _ (.inl rfl) e,c⟩
 |ins C dx fs=>
  obtain⟨d,z,ne,e,mA,⟨od,es,ep,j,c⟩,r⟩:=x;exact⟨i _ d,z,ne,k _ _ (.inl rfl) e,mA,⟨od,es,ep,k _ _ (.inr d) j,c⟩,r⟩
 |own y=>obtain⟨ob,e⟩:=x;exact⟨ob,k _ _ (.inl rfl) e⟩
 |xd fs=>obtain⟨mA,⟨od,es,ep,e,c⟩,r⟩:=x;exact⟨mA,⟨od,es,ep,k _ _ (.inl rfl) e,c⟩,r⟩
 |rng lo hi=>obtain⟨t,u,v,e⟩:=x;exact⟨t,u,v,k _ _ (.inl rfl) e⟩
 |frz ob u l=>obtain⟨e,q⟩:=x;exact⟨k _ _ (.inl rfl) e,l q⟩
 |tbl ps=>
  exact k a _ (.inl rfl) x
 |met f y=>
  exact k a _ (.inl rfl) x
 |ext φ=>obtain⟨p,⟨o,e⟩,st⟩:=x;exact⟨st _ _ p λo q=>k _ _ (.inl rfl) q,⟨o,k _ _ (.inl rfl) e⟩,st⟩
theorem HOk.lt (x:HOk P w H h)(e:H a=some o):a<h.objs.size:=(x a o e).lt
theorem HOk.fresh (x:HOk P w H h)(e:h.objs.size<=a):H a=none:=by
 cases q:H a with
 |none=>rfl
 |some u=>exact absurd (zK5 (x.lt q) e) (zQ6 _)
def HOk.kept (x:HOk P w H h)(k:∀b u,h.get? b=some u->h'.get? b=some u):HOk P w H h':=λa o e=>
 (x a o e).stay (λb u _ q=>k b u q) (λ_ q=>q) λ_ _ q=>q
def HOk.laid (x:HOk P w H h)(k:∀b u,h.get? b=some u->h'.get? b=some u)(d:h.objs.size<=a)(new:yr P w (upd H a o) h' a o):HOk P w (upd H a o) h':=λb u e=>by
 have hn:=x.fresh d;by_cases hb:b=a
 .subst hb;rw[zl]at e;cases e;exact new
 .rw[zj hb]at e;exact(x b u e).stay (λc v _ q=>k c v q) (λc q=>by rw[zj (zm q hn)];exact q) λc xs q=>by rw[zj (zm q hn)];exact q
end
def Rd (H:Hp)(a:Ad)(u:HO):Prop:=H a=some u\/∃o,H a=some (.frz o u)
def Rd.ok {P:Ah}{w:Ak}{H:Hp}{h:An}{a:Ad}{u:HO}(r:Rd H a u)(x:HOk P w H h):yr P w H h a u:=by
 rcases r with r|⟨o,r⟩
 .exact x a u r
 .obtain⟨_,q⟩:=x a _ r;exact q
def Mut :Option HO->Prop
 |some (.lst _)=>True
 |some (.dK _)=>True
 |some (.dT _)=>True
 |some (.set _ _)=>True
 |some (.ins _ _ _)=>True
 |some (.ext _)=>True
 |_=>False
section
variable {P:Ah}{w:Ak}{H:Hp}{h h':An}{x e:Ad}{o':HO}
def HOk.write (ok:HOk P w H h)(g:Mut (H x))(he:e=x\/H e=some (.own x))(k:∀b u,b≠e->h.get? b=some u->h'.get? b=some u)(j:∃u,h'.get? e=some u)
  (new:yr P w (upd H x o') h' x o'):HOk P w (upd H x o') h':=λb u q=>by
 have d:∀c y,H c=some (.own y)->c≠x:=λc y r z=>by subst z;rw[r]at g;exact g
 have f:∀c xs,H c=some (.tup xs)->c≠x:=λc xs r z=>by subst z;rw[r]at g;exact g
 by_cases hb:b=x
 .subst hb;rw[zl]at q;cases q;exact new
 .rw[zj hb]at q;by_cases a:b=e
  .have l:H b=some (.own x):=by
    rcases he with z|z
    .exact absurd (a.trans z) hb
    .rw[a];exact z
   rw[q]at l;cases l;obtain⟨v,m⟩:=j;exact⟨v,by rw[a];exact m⟩
  .refine(ok b u q).stay (λc v i r=>k c v ?_ r) (λc r=>by rw[zj (d c b r)];exact r) λc xs r=>by rw[zj (f c xs r)];exact r
   rcases i with rfl|i
   .exact a
   .rintro rfl;rcases he with z|z
    .exact d c b i z
    .rw[i]at z;cases z;exact hb rfl
end
structure Un (fs ex:List Ad)(H H':Hp)(h h':An):Prop where
 keep:∀b o,h.get? b=some o->H b=none->b∉fs->b∉ex->h'.get? b=some o
 slot:∀b o,h.get? b=some o->H b=none->b∈fs->b∉ex->∃sl,h'.get? b=some {o with slots:=sl}
 free:∀b o,h.get? b=some o->H b=none->b∉ex->H' b=none
 there:∀b o,h.get? b=some o->b∉ex->∃o',h'.get? b=some o'
 tups:∀b xs,H b=some (.tup xs)->H' b=some (.tup xs)
 frzs:∀b o u,H b=some (.frz o u)->H' b=some (.frz o u)
 tbls:∀b ps,H b=some (.tbl ps)->∃more,H' b=some (.tbl (ps++more))
section
variable {fs fs' ex ex':List Ad}{H H1 H2:Hp}{h h1 h2 h':An}{a x e:Ad}{o:HO}
def Un.any (u:Un fs ex H H1 h h1){b:Ad}{ob:Obj}(q:h.get? b=some ob)(n:H b=none)(c:b∉ex):∃sl,h1.get? b=some {ob with slots:=sl}:=by
 by_cases hb:b∈fs
 .exact u.slot b ob q n hb c
 .exact⟨ob.slots,u.keep b ob q n hb c⟩
def Un.kept (k:∀b u,h.get? b=some u->h'.get? b=some u):Un fs ex H H h h':=
 ⟨λb ob q _ _ _=>k b ob q,λb ob q _ _ _=>⟨ob.slots,k b ob q⟩,λ_ _ _ n _=>n,λb ob q _=>⟨ob,k b ob q⟩,λ_ _ q=>q,λ_ _ _ q=>q,λ_ ps q=>⟨#[],by rw[q];simp⟩⟩
def Un.refl :Un fs ex H H h h:=Un.kept λ_ _ q=>q
def Un.laid (k:∀b u,h.get? b=some u->h'.get? b=some u)(c:h.objs.size<=a)(hn:H a=none):Un fs ex H (upd H a o) h h' where
 keep:=λb u q _ _ _=>k b u q
 slot:=λb u q _ _ _=>⟨u.slots,k b u q⟩
 free:=λb u q n _=>by rw[zj (zL9 (zK5 (zL0 q) c))];exact n
 there:=λb u q _=>⟨u,k b u q⟩
 tups:=λb xs q=>by rw[zj (zm q hn)];exact q
 frzs:=λb u xs q=>by rw[zj (zm q hn)];exact q
 tbls:=λb ps q=>⟨#[],by rw[zj (zm q hn),q];simp⟩
def Un.write (d:Mut (H x))(he:e=x\/H e=some (.own x))(k:∀b u,b≠e->h.get? b=some u->h'.get? b=some u)(f:∃u,h'.get? e=some u):Un fs ex H (upd H x o) h h':=by
 have g:∀b,H b=none->b≠x:=λb n z=>by subst z;rw[n]at d;exact d
 have hb:∀b,H b=none->b≠e:=λb n z=>by
  subst z;rcases he with r|r
  .exact g b n r
  .rw[n]at r;cases r
 have hm:∀b u,H b=some u->¬Mut (some u)->b≠x:=λb u q nm z=>by subst z;rw[q]at d;exact nm d
 refine⟨λb u q n _ _=>k b u (hb b n) q,λb u q n _ _=>⟨u.slots,k b u (hb b n) q⟩,λb u q n _=>by rw[zj (g b n)];exact n,λb u q _=>?_,
  λb xs q=>by rw[zj (hm b _ q λz=>z)];exact q,λb u xs q=>by rw[zj (hm b _ q λz=>z)];exact q,λb ps q=>⟨#[],by rw[zj (hm b _ q λz=>z),q];simp⟩⟩
 by_cases c:b=e
 .subst c;exact f
 .exact⟨u,k b u c q⟩
end
def trk (h:An)(H:Hp):List Ad:=(List.range h.objs.size).filter λa=>(H a).isSome
def rp (h:An)(H:Hp):An:=PySem.W.hideAll h (trk h H)
def iX (h:An)(H:Hp):(rp h H).objs.size=h.objs.size:=PySem.W.hideAll_size _ _
def dm {h:An}{H:Hp}{b:Ad}{o:Obj}(e:h.get? b=some o)(n:H b=none):(rp h H).get? b=some o:=
 PySem.W.hideAll_get _ e λhm=>by
  have q:=(z30.mp hm).2;rw[n]at q;simp at q
theorem bV {h:An}{H:Hp}{b:Ad}{o:Obj}(e:(rp h H).get? b=some o):h.get? b=some o/\H b=none:=by
 have a:=PySem.W.of_hideAll (trk h H) e;refine⟨a,?_⟩;cases q:H b with
 |none=>rfl
 |some x=>
  have hm:b∈trk h H:=z30.mpr ⟨z64.mpr (zL0 a),by simp[q]⟩;have z:(rp h H).get? b=none:=PySem.W.hideAll_none (trk h H) hm;rw[z]at e;cases e
structure Mod (K:Ae)(mg:Str->Option Ab)(base:An):Prop where
 kin:K.In base
 glob:base.Ns Ai mg
 blt:∃mb,base.Ns builtinsNs mb/\∀x:Str,x≠"__name__"->mb x=bootBuiltins x
 nolimit:base.NoLimit
structure Cx where
 prog:Ah
 w:Ak
 K:Ae
 mg:Str->Option Ab
 base:An
 A:Al
 N:List Str
 s₀:Ac
 H₀:Hp
 env:Ar
 outer:List Ar
 stack:List Ar
 ex:List Ad
 fn:Str->Bool
 calm:Bool
 pn:List (Ad×Obj)
 xe:Ab->Ac->Prop
def frs (l:List Ar):List Ad:=l.filterMap (·.frame)
abbrev Cx.fs (X:Cx):List Ad:=frs X.outer
def Vis (sc:Aq)(x:Str):Prop:=sc.names.lookup x=some .local\/sc.names.lookup x=some .cell\/sc.names.lookup x=some .free
def Loc (sc:Aq)(x:Str):Prop:=sc.names.lookup x=some .local\/sc.names.lookup x=some .cell
def Look (env:Ar)(h:An)(m:Str->Option Ab)(x:Str)(u:Ab):Prop:=
 (env.kindOf x=some .local/\m x=some u)\/((env.kindOf x=some .cell\/env.kindOf x=some .free)/\∃c,env.cells.lookup x=some c/\h.IsCell c (some u))
structure Cx.Ok (X:Cx):Prop where
 mod:Mod X.K X.mg X.base
 kind:X.env.scope.kind=.function
 glob:X.env.globals=Ai
 blt:X.env.builtins=builtinsNs
 above:X.s₀.heap.objs.size<=X.env.locals
 inj:∀x y c,X.env.cells.lookup x=some c->X.env.cells.lookup y=some c->x=y
 has:∀x,(X.env.kindOf x=some .cell\/X.env.kindOf x=some .free)->∃c,X.env.cells.lookup x=some c
 cab:∀x c,X.fn x=true->X.env.cells.lookup x=some c->X.s₀.heap.objs.size<=c
 hd:X.calm=true->X.A.handled=none
 frames:X.A.frames=some X.stack
 stk:X.stack=X.outer\/(X.stack=X.env::X.outer/\X.env.frame=some X.env.locals)
 exf:∀b∈X.ex,b≠X.env.locals/\∀x c,X.env.cells.lookup x=some c->c≠b
 bs:∀b o,X.base.get? b=some o->X.s₀.heap.get? b=some o/\X.H₀ b=none
 bsz:X.base.objs.size<=X.s₀.heap.objs.size
 noex:∀b o,X.base.get? b=some o->b∉X.ex
 exfs:∀b∈X.ex,b∉X.fs
 funs:X.s₀.heap.FunFrames X.base X.outer
 frf:∀b∈X.fs,X.H₀ b=none
structure Inv (X:Cx)(pins:List (Ad×Obj))(σ:List (Option V))(H:Hp)(s:Ac):Prop where
 ok:X.Ok
 os:s.os=X.s₀.os
 bare:AllBare s.gens
 base:Un X.fs X.ex X.H₀ H X.s₀.heap s.heap
 loc:∃m,s.heap.Ns X.env.locals m/\∀(i:Nat) (x:Str) (v:V),X.N[i]?=some x->σ[i]?=some (some v)->Vis X.env.scope x->∃u,RelV v u/\Look X.env s.heap m x u
 cell:∀x c,X.env.cells.lookup x=some c->∃v,s.heap.IsCell c v
 free:H X.env.locals=none
 freeC:∀x c,X.env.cells.lookup x=some c->H c=none
 pin:∀p∈X.pn++pins,s.heap.get? p.1=some p.2/\H p.1=none/\p.1≠X.env.locals/\p.1∉X.fs/\∀v,p.2.data≠.cell v
 hok:HOk X.prog X.w H s.heap
 len:σ.length=X.N.length
section
variable {X:Cx}{pins:List (Ad×Obj)}{σ:List (Option V)}{H H':Hp}{s:Ac}{h':An}
def Cx.Ok.nofr (ok:X.Ok){b:Ad}{o:Obj}(e:X.base.get? b=some o):b∉X.fs:=λhb=>by
 have:=(ok.funs.mem hb).1;rw[e]at this;cases this
theorem Inv.bs (I:Inv X pins σ H s):∀b o,X.base.get? b=some o->s.heap.get? b=some o/\H b=none:=λb o e=>
 ⟨I.base.keep b o (I.ok.bs b o e).1 (I.ok.bs b o e).2 (I.ok.nofr e) (I.ok.noex b o e),I.base.free b o (I.ok.bs b o e).1 (I.ok.bs b o e).2 (I.ok.noex b o e)⟩
def Inv.bk (I:Inv X pins σ H s):∀b o,X.base.get? b=some o->s.heap.get? b=some o:=λb o e=>(I.bs b o e).1
theorem Inv.mod (I:Inv X pins σ H s):Mod X.K X.mg X.base:=I.ok.mod
def Inv.kIn (I:Inv X pins σ H s):X.K.In s.heap:=I.ok.mod.kin.keeps I.bk
theorem Inv.lt (I:Inv X pins σ H s):X.env.locals<s.heap.objs.size:=let⟨_,hn,_⟩:=I.loc;hn.lt
def Inv.sz (I:Inv X pins σ H s):X.s₀.heap.objs.size<=s.heap.objs.size:=zL8 I.ok.above (zQ0 I.lt)
def Inv.nofs (I:Inv X pins σ H s){a:Ad}(h:s.heap.objs.size<=a):a∉X.fs:=λhb=>by
 obtain⟨_,o,b,_⟩:=I.ok.funs.mem hb;exact absurd (zK5 (zL0 b) (zL8 I.sz h)) (zQ6 _)
def Inv.cne (I:Inv X pins σ H s):∀x c,X.env.cells.lookup x=some c->c≠X.env.locals:=λx c e z=>by
 obtain⟨v,o,d,hd⟩:=I.cell x c e;obtain⟨m,⟨o',es,ep,a,b,_⟩,_⟩:=I.loc;rw[z,a]at d;cases d;rw[b]at hd;cases hd
theorem Inv.funs (I:Inv X pins σ H s):s.heap.FunFrames X.base X.outer:=by
 have all:∀l,(∀b∈frs l,b∈X.fs)->X.s₀.heap.FunFrames X.base l->s.heap.FunFrames X.base l:=by
  intro l
  induction l with
  |nil=>intro _ _;trivial
  |cons env r g=>
   intro c f;obtain⟨hk,⟨L,o,hf,hn,d,hd⟩,hr⟩:=f;have a:=c L (by unfold frs;rw[z27,hf];exact zL7);obtain⟨sl,e⟩:=I.base.slot L o d (I.ok.frf L a) a λz=>I.ok.exfs L z a;exact⟨hk,⟨L,_,hf,hn,e,hd⟩,g (λb hb=>c b (by unfold frs;rw[z27,hf];exact zL1 _ hb)) hr⟩
 exact all X.outer (λ_ hb=>hb) I.ok.funs
theorem Inv.stack (I:Inv X pins σ H s):s.heap.FunFrames X.base X.stack:=by
 rcases I.ok.stk with e|⟨e,hf⟩
 .rw[e];exact I.funs
 .rw[e];obtain⟨m,hn,_⟩:=I.loc;refine .cons (by rw[I.ok.kind];decide) hf hn ?_ I.funs;exact Heap.get?_none_of_le (zL8 I.ok.bsz I.ok.above)
def Inv.stkSub (I:Inv X pins σ H s):∀b∈frs X.stack,b∈X.env.locals::X.fs:=λb hb=>by
 rcases I.ok.stk with e|⟨e,hf⟩
 .rw[e]at hb;exact zL1 _ hb
 .rw[e]at hb;unfold frs at hb;rw[z27,hf]at hb;exact hb
def Inv.stkFree (I:Inv X pins σ H s):∀b∈frs X.stack,H b=none:=λb hb=>by
 rcases zK8.mp (I.stkSub b hb)with e|hb
 .rw[e];exact I.free
 .obtain⟨_,o,a,_⟩:=I.ok.funs.mem hb;exact I.base.free b o a (I.ok.frf b hb) λz=>I.ok.exfs b z hb
def Inv.step {C:Array GenState}{t':Nat}{d':Drawn}{ch:List Ad}(I:Inv X pins σ H s)
  (g:∀b∈ch,(b∈X.ex\/X.s₀.heap.objs.size<=b)/\b≠X.env.locals/\(∀x c,X.env.cells.lookup x=some c->c≠b)/\∀p∈X.pn++pins,p.1≠b)
  (keep:∀b o,b≠X.env.locals->b∉X.fs->b∉ch->s.heap.get? b=some o->H b=none->h'.get? b=some o)
  (slot:∀b o,b≠X.env.locals->b∈X.fs->b∉ch->s.heap.get? b=some o->H b=none->∃sl,h'.get? b=some {o with slots:=sl}) (free:∀b o,b∉ch->s.heap.get? b=some o->H b=none->H' b=none)
  (there:∀b o,b∉ch->s.heap.get? b=some o->∃o',h'.get? b=some o')
  (tups:∀b xs,H b=some (.tup xs)->H' b=some (.tup xs)) (frzs:∀b o u,H b=some (.frz o u)->H' b=some (.frz o u)) (tbls:∀b ps,H b=some (.tbl ps)->∃more,H' b=some (.tbl (ps++more)))
  (ns:∀m,s.heap.Ns X.env.locals m->h'.Ns X.env.locals m) (hok:HOk X.prog X.w H' h') (hg:AllBare C):
  Inv X pins σ H' {s with heap:=h',gens:=C,drawn:=d',toks:=t'}:=by
 have y:∀b o,X.s₀.heap.get? b=some o->b≠X.env.locals:=λb o e=>zL9 (zK5 (zL0 e) I.ok.above);have h:∀b o,X.s₀.heap.get? b=some o->b∉X.ex->b∉ch:=λb o e a hb=>by
  rcases(g b hb).1 with z|z
  .exact a z
  .exact absurd (zK5 (zL0 e) z) (zQ6 _)
 have cellK:∀x c,X.env.cells.lookup x=some c->∀v,s.heap.IsCell c v->h'.IsCell c v:=λx c e v B=>by
  obtain⟨o,j,hd⟩:=B;have f:c∉ch:=λz=>(g c z).2.2.1 x c e rfl;by_cases E:c∈X.fs
  .obtain⟨sl,q⟩:=slot c o (I.cne x c e) E f j (I.freeC x c e);exact⟨_,q,hd⟩
  .exact⟨o,keep c o (I.cne x c e) E f j (I.freeC x c e),hd⟩
 refine⟨I.ok,I.os,hg,⟨λb o e n hb a=>?_,λb o e n hb a=>?_,λb o e n a=>?_,λb o e a=>?_,λb xs e=>tups b xs (I.base.tups b xs e),λb o xs e=>frzs b o xs (I.base.frzs b o xs e),λb ps e=>?_⟩,?_,λx c e=>?_,?_,λx c e=>?_,λp D=>?_,hok,I.len⟩
 .exact keep b o (y b o e) hb (h b o e a) (I.base.keep b o e n hb a) (I.base.free b o e n a)
 .obtain⟨sl,e1⟩:=I.base.slot b o e n hb a;obtain⟨A,t⟩:=slot b _ (y b o e) hb (h b o e a) e1 (I.base.free b o e n a);exact⟨A,t⟩
 .obtain⟨o',e1⟩:=I.base.there b o e a;exact free b o' (h b o e a) e1 (I.base.free b o e n a)
 .obtain⟨o',e1⟩:=I.base.there b o e a;exact there b o' (h b o e a) e1
 .obtain⟨m1,e1⟩:=I.base.tbls b ps e;obtain⟨m2,t⟩:=tbls b _ e1;exact⟨m1++m2,by rw[t,Array.append_assoc]⟩
 .obtain⟨m,hn,F⟩:=I.loc;refine⟨m,ns m hn,λi x v e1 t G=>?_⟩;obtain⟨u,r,l⟩:=F i x v e1 t G;refine⟨u,r,?_⟩;rcases l with l|⟨k,c,e,z⟩
  .exact .inl l
  .exact .inr ⟨k,c,e,cellK x c e _ z⟩
 .obtain⟨v,z⟩:=I.cell x c e;exact⟨v,cellK x c e v z⟩
 .obtain⟨m,⟨o,_,_,j,_⟩,_⟩:=I.loc;exact free _ o (λz=>(g _ z).2.1 rfl) j I.free
 .obtain⟨v,o,j,hd⟩:=I.cell x c e;exact free c o (λz=>(g c z).2.2.1 x c e rfl) j (I.freeC x c e)
 .obtain⟨e,n,ne,nf,d⟩:=I.pin p D;have f:p.1∉ch:=λz=>(g p.1 z).2.2.2 p D rfl;exact⟨keep p.1 p.2 ne nf f e n,free p.1 p.2 f e n,ne,nf,d⟩
def Inv.un {t':Nat}(I:Inv X pins σ H s)(u:Un X.fs [] H H' s.heap h')(hok:HOk X.prog X.w H' h'):Inv X pins σ H' {s with heap:=h',toks:=t'}:=by
 obtain⟨m,⟨o,es,ep,f,r⟩,_⟩:=id I.loc;obtain⟨sl,g⟩:=u.any f I.free (by simp);exact I.step (ch:=[]) (λ_ z=>nomatch z) (λb o _ hb _ e n=>u.keep b o e n hb (by simp)) (λb o _ hb _ e n=>u.slot b o e n hb (by simp)) (λb o _ e n=>u.free b o e n (by simp)) (λb o _ e=>u.there b o e (by simp)) u.tups u.frzs u.tbls (λi hm=>by
  obtain⟨o',d,c,a,h⟩:=hm;rw[f]at a;cases a;exact⟨_,d,c,g,h⟩) hok I.bare
def Inv.call {j:Array GenState}{t':Nat}{d':Drawn}{ch:List Ad}(I:Inv X pins σ H s)(u:Un (frs X.stack) ch H H' s.heap h')(hok:HOk X.prog X.w H' h')(hg:AllBare j)
  (d:∀b∈ch,(b∈X.ex\/X.s₀.heap.objs.size<=b)/\b≠X.env.locals/\(∀x c,X.env.cells.lookup x=some c->c≠b)/\∀p∈X.pn++pins,p.1≠b):
  Inv X pins σ H' {s with heap:=h',gens:=j,drawn:=d',toks:=t'}:=by
 obtain⟨m,⟨o,es,ep,k,r⟩,_⟩:=id I.loc;obtain⟨sl,g⟩:=u.any k I.free λz=>(d _ z).2.1 rfl;exact I.step d (λb o g hb a e n=>u.keep b o e n (λz=>(zK8.mp (I.stkSub b z)).elim g hb) a) (λb o _ _ a e n=>u.any e n a) (λb o a e n=>u.free b o e n a) (λb o a e=>u.there b o e a) u.tups u.frzs u.tbls (λq hm=>by
  obtain⟨o',i,h,f,l⟩:=hm;rw[k]at f;cases f;exact⟨_,i,h,g,l⟩) hok hg
def Inv.turned {t':Nat}{it:Ad}(I:Inv X pins σ H s)(k:∀b o,b≠it->s.heap.get? b=some o->h'.get? b=some o)(hn:H it=none)(f:it≠X.env.locals)
  (h:it∈X.ex\/X.s₀.heap.objs.size<=it) (i:∀x c,X.env.cells.lookup x=some c->c≠it) (j:∀p∈X.pn++pins,p.1≠it):Inv X pins σ H {s with heap:=h',toks:=t'}:=by
 have d:∀b u,H b=some u->b≠it:=λb u e z=>by rw[z,hn]at e;cases e
 refine I.step (ch:=[it]) (λb hb=>?_) (λb o _ _ a e _=>k b o (λz=>a (by simp[z])) e) (λb o _ _ a e _=>⟨o.slots,k b o (λz=>a (by simp[z])) e⟩) (λ_ _ _ _ n=>n)
  (λb o a e=>⟨o,k b o (λz=>a (by simp[z])) e⟩) (λ_ _ e=>e) (λ_ _ _ e=>e) (λb ps e=>⟨#[],by rw[e];simp⟩) (λm hm=>?_) (λb u e=>?_) I.bare
 .have e:b=it:=by simpa using hb
  subst e;exact⟨h,f,i,j⟩
 .obtain⟨o,es,ep,g,r⟩:=hm;exact⟨o,es,ep,k _ o (zP2 f) g,r⟩
 .refine(I.hok b u e).stay (λc v a q=>k c v ?_ q) (λ_ q=>q) λ_ _ q=>q;rcases a with z|z
  .rw[z];exact d b u e
  .exact d c _ z
def Inv.tok (I:Inv X pins σ H s)(t:Nat):Inv X pins σ H {s with toks:=t}:=I.un Un.refl I.hok
theorem Inv.kept {t':Nat}(I:Inv X pins σ H s)(k:∀b u,s.heap.get? b=some u->h'.get? b=some u):Inv X pins σ H {s with heap:=h',toks:=t'}:=I.un (Un.kept k) (I.hok.kept k)
theorem Inv.laid {a:Ad}{o:HO}{t':Nat}(I:Inv X pins σ H s)(k:∀b u,s.heap.get? b=some u->h'.get? b=some u)(c:s.heap.objs.size<=a)(new:yr X.prog X.w (upd H a o) h' a o):
  Inv X pins σ (upd H a o) {s with heap:=h',toks:=t'}:=I.un (Un.laid k c (I.hok.fresh c)) (I.hok.laid k c new)
theorem Inv.write {x e:Ad}{o:HO}{t':Nat}(I:Inv X pins σ H s)(c:Mut (H x))(he:e=x\/H e=some (.own x))(k:∀b u,b≠e->s.heap.get? b=some u->h'.get? b=some u)(a:∃u,h'.get? e=some u)
  (new:yr X.prog X.w (upd H x o) h' x o):Inv X pins σ (upd H x o) {s with heap:=h',toks:=t'}:=I.un (Un.write c he k a) (I.hok.write c he k a new)
def Inv.pins_of {a:List (Ad×Obj)}(I:Inv X pins σ H s)(h:∀p∈a,s.heap.get? p.1=some p.2/\H p.1=none/\p.1≠X.env.locals/\p.1∉X.fs/\∀v,p.2.data≠.cell v):Inv X a σ H s:=
 ⟨I.ok,I.os,I.bare,I.base,I.loc,I.cell,I.free,I.freeC,λp b=>(zN6.mp b).elim (λz=>I.pin p (zO0 _ z)) (h p),I.hok,I.len⟩
def sM {N:List Str}(c:N.Nodup){i j:Nat}{x:Str}(a:N[i]?=some x)(b:N[j]?=some x):i=j:=by
 obtain⟨e,e1⟩:=zK7.mp a;obtain⟨f,d⟩:=zK7.mp b;exact(List.getElem_inj c).mp (e1.trans d.symm)
def rC {M:Model}{A:Al}{E:Ab->Ac->Prop}{i:Nat}{x:Str}{v:V}{u:Ab}{Q:Unit->Ac->Prop}(I:Inv X pins σ H s)(hN:X.N.Nodup)(hi:X.N[i]?=some x)(l:Loc X.env.scope x)(r:RelV v u)
  (h:∀s',Inv X pins (σ.set i (some v)) H s'->(∃a,Heap.SameBut a s.heap s'.heap/\(a=X.env.locals\/X.env.cells.lookup x=some a))->Q () s') (hf:X.fn x=true\/X.env.scope.names.lookup x=some .local:=by first|exact .inl rfl|exact .inr rfl|assumption):Aj M A (storeName X.env x u) Q E s:=by
 obtain⟨m,hn,hl⟩:=id I.loc;have J:(X.env.scope.kind == .class||(X.env.scope.kind == .module&&X.env.locals != X.env.globals))=false:=by rw[I.ok.kind];rfl
 have C:i<σ.length:=by rw[I.len];exact(zK7.mp hi).1
 have cne:=I.cne;have tracked:∀{a:Ad} {h':An},(∃o,s.heap.get? a=some o/\H a=none)->Heap.SameBut a s.heap h'->HOk X.prog X.w H h':=λ{a h'} ha f b ob e=>by
  obtain⟨_,_,t⟩:=ha;refine(I.hok b ob e).stay (λc P g q=>(f.2 c ?_).trans q) (λ_ q=>q) λ_ _ q=>q;rintro rfl;rcases g with rfl|g
  .rw[t]at e;cases e
  .rw[t]at g;cases g
 rcases l with hk|hk
 .refine wpAny_storeName_local hk hn (λh' Z f=>?_) J;obtain⟨oL,_,_,Y,_⟩:=id hn;refine h _ ⟨I.ok,I.os,I.bare,⟨λb o e n hb l=>?_,λb o e n hb l=>?_,I.base.free,λb o e l=>?_,I.base.tups,I.base.frzs,I.base.tbls⟩,⟨_,Z,λj y U e1 B T=>?_⟩,λy c e=>?_,I.free,I.freeC,λp S=>?_,tracked ⟨oL,Y,I.free⟩ f,by simpa using I.len⟩ ⟨_,f,.inl rfl⟩
  .exact(f.2 b (zL9 (zK5 (zL0 e) I.ok.above))).trans (I.base.keep b o e n hb l)
  .obtain⟨sl,e1⟩:=I.base.slot b o e n hb l;exact⟨sl,(f.2 b (zL9 (zK5 (zL0 e) I.ok.above))).trans e1⟩
  .obtain⟨o',e1⟩:=I.base.there b o e l;exact⟨o',(f.2 b (zL9 (zK5 (zL0 e) I.ok.above))).trans e1⟩
  .by_cases D:j=i
   .subst D;rw[hi]at e1;cases e1;rw[zS4 C]at B;cases B;exact⟨u,r,.inl ⟨hk,by simp⟩⟩
   .rw[zP5 (zP2 D)]at B;obtain⟨R,W,q⟩:=hl j y U e1 B T;refine⟨R,W,?_⟩;rcases q with⟨k,e⟩|⟨k,c,e,z⟩
    .refine .inl ⟨k,?_⟩;have:y≠x:=λe=>D (sM hN e1 (e▸hi));simp[this,e]
    .exact .inr ⟨k,c,e,z.sameBut f (cne y c e)⟩
  .obtain⟨P,z⟩:=I.cell y c e;exact⟨P,z.sameBut f (cne y c e)⟩
  .obtain⟨e,n,ne,nf,d⟩:=I.pin p S;exact⟨(f.2 p.1 ne).trans e,n,ne,nf,d⟩
 .have F:X.fn x=true:=by
   rcases hf with z|z
   .exact z
   .rw[z]at hk;cases hk
  obtain⟨c,g⟩:=I.ok.has x (.inl hk);obtain⟨P,z⟩:=I.cell x c g;refine wpAny_storeName_cell I.ok.kind hk g z (λh' O f=>?_);obtain⟨oc,L,K⟩:=id z;refine h {s with heap:=h'} ⟨I.ok,I.os,I.bare,⟨λb o e n hb l=>?_,λb o e n hb l=>?_,I.base.free,λb o e l=>?_,I.base.tups,I.base.frzs,I.base.tbls⟩,⟨m,hn.sameBut f (zP2 (cne x c g)),λj y U e1 B T=>?_⟩,λy c' e=>?_,I.free,I.freeC,λp S=>?_,tracked ⟨oc,L,I.freeC x c g⟩ f,by simpa using I.len⟩ ⟨c,f,.inr g⟩
  .exact(f.2 b (zL9 (zK5 (zL0 e) (I.ok.cab x c F g)))).trans (I.base.keep b o e n hb l)
  .obtain⟨sl,e1⟩:=I.base.slot b o e n hb l;exact⟨sl,(f.2 b (zL9 (zK5 (zL0 e) (I.ok.cab x c F g)))).trans e1⟩
  .obtain⟨o',e1⟩:=I.base.there b o e l;exact⟨o',(f.2 b (zL9 (zK5 (zL0 e) (I.ok.cab x c F g)))).trans e1⟩
  .by_cases D:j=i
   .subst D;rw[hi]at e1;cases e1;rw[zS4 C]at B;cases B;exact⟨u,r,.inr ⟨.inl hk,c,g,O⟩⟩
   .rw[zP5 (zP2 D)]at B;obtain⟨R,W,q⟩:=hl j y U e1 B T;refine⟨R,W,?_⟩;rcases q with q|⟨k,c',e,z'⟩
    .exact .inl q
    .refine .inr ⟨k,c',e,z'.sameBut f ?_⟩;rintro rfl;exact D (sM hN e1 (I.ok.inj _ _ _ e g▸hi))
  .by_cases G:c'=c
   .subst G;exact⟨_,O⟩
   .obtain⟨w2,z2⟩:=I.cell y c' e;exact⟨w2,z2.sameBut f G⟩
  .obtain⟨e,n,ne,nf,d⟩:=I.pin p S;refine⟨(f.2 p.1 ?_).trans e,n,ne,nf,d⟩;intro q;rw[q,L]at e;exact d P (by rw[<-(zO2 e)];exact K)
def tE {M:Model}{A:Al}{E:Ab->Ac->Prop}{i:Nat}{x:Str}{v:V}{u:Ab}{Q:Unit->Ac->Prop}(I:Inv X pins σ H s)(a:X.N.Nodup)(hi:X.N[i]?=some x)(b:Loc X.env.scope x)(r:RelV v u)
  (h:∀s',Inv X pins (σ.set i (some v)) H s'->Q () s') (hf:X.fn x=true\/X.env.scope.names.lookup x=some .local:=by first|exact .inl rfl|exact .inr rfl|assumption):Aj M A (storeName X.env x u) Q E s:=
 rC I a hi b r (λs' c _=>h s' c) hf
def Inv.call' {s':Ac}{ch:List Ad}(I:Inv X pins σ H s)(d:s'.os=s.os)(u:Un (frs X.stack) ch H H' s.heap s'.heap)(hok:HOk X.prog X.w H' s'.heap)(hg:AllBare s'.gens)
  (a:∀b∈ch,(b∈X.ex\/X.s₀.heap.objs.size<=b)/\b≠X.env.locals/\(∀x c,X.env.cells.lookup x=some c->c≠b)/\∀p∈X.pn++pins,p.1≠b):Inv X pins σ H' s':=by
 obtain⟨h',f,d',t',o'⟩:=s';have e:=d;subst e;exact I.call u hok hg a
end
abbrev XK :=Ab->Option Ad->Hp->Prop
abbrev St :=List (Option V)
abbrev VK :=V->Hp->Prop
abbrev TE :=St->Hp->VK->Prop
abbrev TT :=St->Hp->(Bool->Hp->Prop)->Prop
abbrev TA :=St->Hp->(List V->Hp->Prop)->Prop
structure Ends where
 nx:St->Hp->Prop
 rt:VK
 bk:St->Hp->Prop:=λ_ _=>False
 ct:St->Hp->Prop:=λ_ _=>False
abbrev TS :=Ends->St->Hp->Prop
def EP (X:Cx)(pins:List (Ad×Obj))(σ:St)(Q:VK)(u:Ab)(s':Ac):Prop:=∃v H',Inv X pins σ H' s'/\RelV v u/\Q v H'
def TP (X:Cx)(pins:List (Ad×Obj))(σ:St)(Q:Bool->Hp->Prop)(b:Bool)(s':Ac):Prop:=∃H',Inv X pins σ H' s'/\Q b H'
def AP (X:Cx)(pins:List (Ad×Obj))(σ:St)(Q:List V->Hp->Prop)(us:List Ab)(s':Ac):Prop:=∃vs H',Inv X pins σ H' s'/\Vals vs us/\Q vs H'
def SP (X:Cx)(pins:List (Ad×Obj))(D:Ends)(f:Flow)(s':Ac):Prop:=
 match f with
 |.next=>∃a H',Inv X pins a H' s'/\D.nx a H'
 |.brk=>∃a H',Inv X pins a H' s'/\D.bk a H'
 |.cont=>∃a H',Inv X pins a H' s'/\D.ct a H'
 |.ret u=>∃v a H',Inv X pins a H' s'/\RelV v u/\D.rt v H'
def PE (X:Cx)(e:Am)(t:TE):Prop:=
 ∀(pins:List (Ad×Obj)) (s:Ac) (σ:St) (H:Hp) (Q:VK),Inv X pins σ H s->t σ H Q->Aj (Ag X.prog X.w) X.A (eval e X.env) (EP X pins σ Q) X.xe s
def PT (X:Cx)(e:Am)(t:TT):Prop:=
 ∀(pins:List (Ad×Obj)) (s:Ac) (σ:St) (H:Hp) (Q:Bool->Hp->Prop),Inv X pins σ H s->t σ H Q->Aj (Ag X.prog X.w) X.A (isTrue e X.env (eval e X.env)) (TP X pins σ Q) X.xe s
def PW (X:Cx)(e:Am)(t:TT):Prop:=
 ∀(whole:Sem Ab) (pins:List (Ad×Obj)) (s:Ac) (σ:St) (H:Hp) (Q:Bool->Hp->Prop),Inv X pins σ H s->t σ H Q->Aj (Ag X.prog X.w) X.A (isTrue e X.env whole) (TP X pins σ Q) X.xe s
def PW.pt {X:Cx}{e:Am}{t:TT}(h:PW X e t):PT X e t:=h _
def PA (X:Cx)(es:List Am)(t:TA):Prop:=
 ∀(pos:Pos) (pins:List (Ad×Obj)) (s:Ac) (σ:St) (H:Hp) (Q:List V->Hp->Prop),Inv X pins σ H s->t σ H Q->Aj (Ag X.prog X.w) X.A (spliced (backTo pos (Af es X.env))) (AP X pins σ Q) X.xe s
def PS (X:Cx)(st:Ap)(t:TS):Prop:=
 ∀(pins:List (Ad×Obj)) (s:Ac) (σ:St) (H:Hp) (D:Ends),Inv X pins σ H s->t D σ H->Aj (Ag X.prog X.w) X.A (exec st X.env) (SP X pins D) X.xe s
def PSs (X:Cx)(st:List Ap)(t:TS):Prop:=
 ∀(pins:List (Ad×Obj)) (s:Ac) (σ:St) (H:Hp) (D:Ends),Inv X pins σ H s->t D σ H->Aj (Ag X.prog X.w) X.A (execs st X.env) (SP X pins D) X.xe s
def thn {O:Type}{t:Sem O}{Q b:O->Ac->Prop}{M:Model}{A:Al}{E:Ab->Ac->Prop}{s:Ac}(h:Aj M A t Q E s)(c:∀a s,Q a s->b a s):Aj M A t b E s:=zO9 h c λ_ _ x=>x
section
variable {X:Cx}
def zl9 (i:Nat):TE:=λσ H Q=>∃v,σ[i]?=some (some v)/\Q v H
def tC (v:V):TE:=λ_ H Q=>Q v H
def yu {i:Nat}{x:Str}{pos:Pos}(g:X.N[i]?=some x)(f:Vis X.env.scope x)(hd:(x == ("__debug__":Str))=false:=by decide)(b:(x == ("__classdict__":Str))=false:=by decide):PE X (.Name x pos) (zl9 i):=by
 intro pins s σ H Q I h;obtain⟨v,e,h⟩:=h;obtain⟨m,hn,j⟩:=I.loc;obtain⟨u,r,l⟩:=j i x v g e f;have fin:EP X pins σ Q u s:=⟨v,H,I,r,h⟩;rcases l with⟨hk,hm⟩|⟨hk,c,d,a⟩
 .exact wpAny_Name (wpAny_loadName_local I.ok.kind hk hn hm fin) hd
 .rcases hk with hk|hk
  .exact wpAny_Name (wpAny_loadName_cell I.ok.kind hk d a fin) hd
  .exact wpAny_Name (wpAny_loadName_free I.ok.kind hk d a fin b) hd
def zU {i j pos}:PE X (.Constant (.int i) j pos) (tC (.int i)):=λ_ _ _ H _ I h=>wpAny_Constant_int ⟨.int i,H,I.tok _,⟨_,rfl⟩,h⟩
def zB1 {b j pos}:PE X (.Constant (.bool b) j pos) (tC (.bl b)):=λ_ _ _ H _ I h=>Constant_bool ⟨.bl b,H,I,rfl,h⟩
def gI {j pos}:PE X (.Constant .none j pos) (tC .non):=λ_ _ _ H _ I h=>Constant_none ⟨.non,H,I,rfl,h⟩
def mK {x j pos}:PE X (.Constant (.str x) j pos) (tC (.str x)):=λ_ _ _ H _ I h=>Calls.Constant_str ⟨.str x,H,I.tok _,⟨_,rfl⟩,h⟩
def Gl (X:Cx)(x:Str):Prop:=X.env.kindOf x=some .globalImplicit
def yV {E:Ab->Ac->Prop}{pins:List (Ad×Obj)}{s:Ac}{σ:St}{H:Hp}{x:Str}{u:Ab}{pos:Pos}{Q:Ab->Ac->Prop}(I:Inv X pins σ H s)(hg:Gl X x)(hm:X.mg x=some u)(h:Q u s)
  (hd:(x == ("__debug__":Str))=false:=by decide):Aj (Ag X.prog X.w) X.A (eval (.Name x pos) X.env) Q E s:=
 Calls.Name_function_global I.ok.kind hg (Calls.loadGlobal_global (by rw[I.ok.glob];exact I.mod.glob.keeps I.bk) hm h) hd
def xw {E:Ab->Ac->Prop}{pins:List (Ad×Obj)}{s:Ac}{σ:St}{H:Hp}{x:Str}{u:Ab}{pos:Pos}{Q:Ab->Ac->Prop}(I:Inv X pins σ H s)(hg:Gl X x)(hm:X.mg x=none)(a:bootBuiltins x=some u)(h:Q u s)
  (hn:x≠"__name__":=by decide) (hd:(x == ("__debug__":Str))=false:=by decide):Aj (Ag X.prog X.w) X.A (eval (.Name x pos) X.env) Q E s:=by
 obtain⟨mb,b,c⟩:=I.mod.blt;exact Calls.Name_function_global I.ok.kind hg (Calls.loadGlobal_builtin (by rw[I.ok.glob];exact I.mod.glob.keeps I.bk) hm (by rw[I.ok.blt];exact b.keeps I.bk) ((c x hn).trans a) h) hd
def jn {x:Str}{v:V}{u:Ab}{pos:Pos}(hg:Gl X x)(hm:X.mg x=some u)(r:RelV v u)(hd:(x == ("__debug__":Str))=false:=by decide):PE X (.Name x pos) (tC v):=
 λ_ _ _ H _ I h=>yV I hg hm ⟨v,H,I,r,h⟩ hd
def kN {x:Str}{v:V}{u:Ab}{pos:Pos}(hg:Gl X x)(hm:X.mg x=none)(a:bootBuiltins x=some u)(r:RelV v u)(hn:x≠"__name__":=by decide)(hd:(x == ("__debug__":Str))=false:=by decide):PE X (.Name x pos) (tC v):=
 λ_ _ _ H _ I h=>xw I hg hm a ⟨v,H,I,r,h⟩ hn hd
variable {a b:Am}{ta tb:TE}{pos:Pos}
def tB (t:TE):TT:=λσ H Q=>t σ H λx H1=>∃c,x=.bl c/\Q c H1
def zn2 {e:Am}{t:TE}(h:PE X e t)(he:∀whole,isTrue e X.env whole=(do let v <-whole;standAt e.pos;holding [v] (truthy v)):=by intro _;rfl):PT X e (tB t):=by
 intro pins s σ H Q I hw;refine isTrue_plain (thn (h pins s σ H _ I hw) λv s1 c=>?_) (he _);obtain⟨x,H1,g,f,i⟩:=c;obtain⟨d,rfl,q⟩:=i;cases f;exact zS6 ⟨H1,g,q⟩
variable {tA tB':TT}{rest:List Am}
def zI8 (t u:TT):TT:=λσ H Q=>t σ H λc H1=>if c=true then u σ H1 Q else Q false H1
def tOr (t u:TT):TT:=λσ H Q=>t σ H λc H1=>if c=true then Q true H1 else u σ H1 Q
def zH8 (t:TT):TT:=λσ H Q=>t σ H λc H1=>Q (!c) H1
theorem bw (ha:PT X a tA):PW X (.BoolOp .And [a] pos) tA:=by
 intro d pins s σ H Q I h;refine isTrue_and (thn (ha pins s σ H Q I h) λc s1 e=>?_);cases c with
 |true=>exact isTrue_and_nil e
 |false=>exact e
theorem zn6 (ha:PT X a tA):PW X (.BoolOp .Or [a] pos) tA:=by
 intro d pins s σ H Q I h;refine isTrue_or (thn (ha pins s σ H Q I h) λc s1 e=>?_);cases c with
 |false=>exact isTrue_or_nil e
 |true=>exact e
theorem zo7 (ha:PT X a tA)(hb:PW X (.BoolOp .And (b::rest) pos) tB'):PW X (.BoolOp .And (a::b::rest) pos) (zI8 tA tB'):=by
 intro g pins s σ H Q I h;refine isTrue_and (thn (ha pins s σ H _ I h) λc s1 d=>?_);obtain⟨H1,e,f⟩:=d;cases c with
 |true=>exact hb g pins s1 σ H1 Q e f
 |false=>exact⟨H1,e,f⟩
theorem zD3 (ha:PT X a tA)(hb:PW X (.BoolOp .Or (b::rest) pos) tB'):PW X (.BoolOp .Or (a::b::rest) pos) (tOr tA tB'):=by
 intro g pins s σ H Q I h;refine isTrue_or (thn (ha pins s σ H _ I h) λc s1 d=>?_);obtain⟨H1,e,f⟩:=d;cases c with
 |true=>exact⟨H1,e,f⟩
 |false=>exact hb g pins s1 σ H1 Q e f
def zu2 (ha:PT X a tA):PT X (.UnaryOp .Not a pos) (zH8 tA):=by
 intro pins s σ H Q I h;exact isTrue_not (ha pins s σ H (λc H1=>Q (!c) H1) I h)
def zy9 (ta tb:TE):TE:=λσ H Q=>ta σ H λx H1=>∃c,x=.bl c/\if c=true then tb σ H1 Q else Q (.bl false) H1
def zI5 (ta tb:TE):TE:=λσ H Q=>ta σ H λx H1=>∃c,x=.bl c/\if c=true then Q (.bl true) H1 else tb σ H1 Q
def zC7 (ta:TE):TE:=λσ H Q=>ta σ H λx H1=>∃c,x=.bl c/\Q (.bl (!c)) H1
def zl8 {op}{t:TE}(h:PE X a t):PE X (.BoolOp op [a] pos) t:=λpins s σ H Q I hw=>BoolOp_one (h pins s σ H Q I hw)
theorem zv8 (ha:PE X a ta)(hb:PE X (.BoolOp .And (b::rest) pos) tb):PE X (.BoolOp .And (a::b::rest) pos) (zy9 ta tb):=by
 intro pins s σ H Q I h;refine BoolOp_and (thn (ha pins s σ H _ I h) λv s1 d=>?_);obtain⟨x,H1,f,g,e⟩:=d;obtain⟨c,rfl,e⟩:=e;cases g;refine zS6 ?_;cases c with
 |true=>exact hb pins s1 σ H1 Q f e
 |false=>exact⟨.bl false,H1,f,rfl,e⟩
theorem zE6 (ha:PE X a ta)(hb:PE X (.BoolOp .Or (b::rest) pos) tb):PE X (.BoolOp .Or (a::b::rest) pos) (zI5 ta tb):=by
 intro pins s σ H Q I h;refine BoolOp_or (thn (ha pins s σ H _ I h) λv s1 d=>?_);obtain⟨x,H1,f,g,e⟩:=d;obtain⟨c,rfl,e⟩:=e;cases g;refine zS6 ?_;cases c with
 |false=>exact hb pins s1 σ H1 Q f e
 |true=>exact⟨.bl true,H1,f,rfl,e⟩
def zo8 (ha:PE X a ta):PE X (.UnaryOp .Not a pos) (zC7 ta):=by
 intro pins s σ H Q I h;refine UnaryOp_ (thn (ha pins s σ H _ I h) λv s1 d=>?_);obtain⟨x,H1,g,f,e⟩:=d;obtain⟨c,rfl,e⟩:=e;cases f;exact not_of (zS6 ⟨.bl (!c),H1,g,rfl,e⟩)
def tIf (t:TT)(ta tb:TE):TE:=λσ H Q=>t σ H λc H1=>if c=true then ta σ H1 Q else tb σ H1 Q
theorem dq {c:Am}(i:PT X c tA)(ha:PE X a ta)(hb:PE X b tb):PE X (.IfExp c a b pos) (tIf tA ta tb):=by
 intro pins s σ H Q I h;refine wpAny_IfExp (thn (i pins s σ H _ I h) λd s1 e=>?_);obtain⟨H1,f,g⟩:=e;cases d with
 |true=>exact ha pins s1 σ H1 Q f g
 |false=>exact hb pins s1 σ H1 Q f g
end
def SqL (K:Ae)(H:Hp)(a:Ad)(xs:List V):Prop:=
 Rd H a (.lst xs)\/
  ∃(o:Obj) (b:Array Ab) (n:Nat),K.lookup a=some o/\o.cls=.type "list"/\o.dict=none/\o.data=.seq b n/\b.size<=sizeLine/\Vals xs b.toList
def SqT (K:Ae)(H:Hp)(a:Ad)(xs:List V):Prop:=
 Rd H a (.tup xs)\/
  ∃(o:Obj) (b:Array Ab) (n:Nat),K.lookup a=some o/\o.cls=.type "tuple"/\o.data=.seq b n/\b.size<=sizeLine/\Vals xs b.toList
def zI3 :Ab->Option V
 |.none=>some .non
 |.bool b=>some (.bl b)
 |.int i _=>some (.int i)
 |.str x _=>some (.str x)
 |.bytes b _=>some (.byt b)
 |.float b _=>some (.flt b)
 |.ref a=>some (.ref a)
 |.type n=>some (.ty n)
 |_=>none
theorem RelV.abs {x:V}{u:Ab}(r:RelV x u):zI3 u=some x:=by
 cases x with
 |non=>cases r;rfl
 |bl _=>cases r;rfl
 |int _=>obtain⟨t,rfl⟩:=r;rfl
 |str _=>obtain⟨t,rfl⟩:=r;rfl
 |byt _=>obtain⟨t,rfl⟩:=r;rfl
 |flt _=>obtain⟨t,rfl⟩:=r;rfl
 |ref _=>cases r;rfl
 |ty _=>cases r;rfl
def RelV.inj {x y:V}{u:Ab}(r:RelV x u)(q:RelV y u):x=y:=zO2 (r.abs.symm.trans q.abs)
theorem Vals.inj {xs ys:List V}{us:List Ab}(h:Vals xs us)(k:Vals ys us):xs=ys:=by
 induction h generalizing ys with
 |nil=>cases k;rfl
 |cons r _ b=>cases k with
  |cons a t'=>rw[r.inj a,b t']
section
variable {X:Cx}{pins:List (Ad×Obj)}{σ:St}{H:Hp}{s:Ac}{a:Ad}{xs ys:List V}
def SqL.of {K:Ae}(h:H a=some (.lst xs)):SqL K H a xs:=.inl (.inl h)
def SqT.of {K:Ae}(h:H a=some (.tup xs)):SqT K H a xs:=.inl (.inl h)
def Inv.list (I:Inv X pins σ H s)(h:SqL X.K H a xs):∃b:List Ab,Vals xs b/\PlainL s.heap a b.toArray/\xs.length<=sizeLine:=by
 rcases h with h|⟨o,b,n,hk,d,hd,f,c,r⟩
 .obtain⟨z,b,n,r,e⟩:=h.ok I.hok;exact⟨b,r,⟨_,n,e,rfl,rfl,rfl⟩,z⟩
 .refine⟨b.toList,r,⟨o,n,I.kIn a o hk,d,hd,by simpa using f⟩,?_⟩;have e:=r.length;simp only[zR6]at e;exact zL8 (zM9 e) c
def Inv.tuple (I:Inv X pins σ H s)(h:SqT X.K H a xs):∃b:List Ab,Vals xs b/\IsTup s.heap a b.toArray/\xs.length<=sizeLine:=by
 rcases h with h|⟨o,b,n,hk,d,f,c,r⟩
 .obtain⟨z,b,r,p⟩:=h.ok I.hok;exact⟨b,r,p,z⟩
 .refine⟨b.toList,r,⟨o,I.kIn a o hk,d,n,by simpa using f⟩,?_⟩;have e:=r.length;simp only[zR6]at e;exact zL8 (zM9 e) c
def Inv.list_inj (I:Inv X pins σ H s)(h:SqL X.K H a xs)(h':SqL X.K H a ys):xs=ys:=by
 obtain⟨c,r,⟨o,n,e,_,_,d⟩,_⟩:=I.list h;obtain⟨b,g,⟨o',j,f,_,_,d'⟩,_⟩:=I.list h';rw[e]at f;cases f;rw[d]at d';injection d' with i _;have:c=b:=by simpa using congrArg Array.toList i
 subst this;exact r.inj g
end
abbrev Cx.wish (X:Cx)(E:Ab->Ac->Prop):Cx:={X with xe:=E}
abbrev Cx.nox (X:Cx):Cx:=X.wish λ_ _=>False
theorem Cx.Ok.wish {X:Cx}(ok:X.Ok)(E:Ab->Ac->Prop):(X.wish E).Ok:=
 ⟨ok.mod,ok.kind,ok.glob,ok.blt,ok.above,ok.inj,ok.has,ok.cab,ok.hd,ok.frames,ok.stk,ok.exf,ok.bs,ok.bsz,ok.noex,ok.exfs,ok.funs,ok.frf⟩
def Cx.Ok.unwish {X:Cx}{E:Ab->Ac->Prop}(ok:(X.wish E).Ok):X.Ok:=
 ⟨ok.mod,ok.kind,ok.glob,ok.blt,ok.above,ok.inj,ok.has,ok.cab,ok.hd,ok.frames,ok.stk,ok.exf,ok.bs,ok.bsz,ok.noex,ok.exfs,ok.funs,ok.frf⟩
section
variable {X:Cx}{pins:List (Ad×Obj)}{σ:St}{H:Hp}{s:Ac}{E:Ab->Ac->Prop}
theorem Inv.wish (I:Inv X pins σ H s)(E:Ab->Ac->Prop):Inv (X.wish E) pins σ H s:=⟨I.ok.wish E,I.os,I.bare,I.base,I.loc,I.cell,I.free,I.freeC,I.pin,I.hok,I.len⟩
theorem Inv.unwish (I:Inv (X.wish E) pins σ H s):Inv X pins σ H s:=⟨I.ok.unwish,I.os,I.bare,I.base,I.loc,I.cell,I.free,I.freeC,I.pin,I.hok,I.len⟩
theorem SP.unwish {D:Ends}{f:Flow}{s':Ac}(h:SP (X.wish E) pins D f s'):SP X pins D f s':=by
 cases f with
 |next=>obtain⟨a,H',I,q⟩:=h;exact⟨a,H',I.unwish,q⟩
 |brk=>obtain⟨a,H',I,q⟩:=h;exact⟨a,H',I.unwish,q⟩
 |cont=>obtain⟨a,H',I,q⟩:=h;exact⟨a,H',I.unwish,q⟩
 |ret u=>obtain⟨v,a,H',I,r,q⟩:=h;exact⟨v,a,H',I.unwish,r,q⟩
theorem PSs.nox {st:List Ap}{t:TS}(h:PSs X.nox st t):PSs X st t:=λpins s σ H D I hw=>
 zO9 (h pins s σ H D (I.wish _) hw) (λ_ _ q=>q.unwish) λ_ _ z=>False.elim z
end
section
variable {X:Cx}{st:Ap}{rest:List Ap}{t u:TS}{e:Am}{te:TE}{pos:Pos}
def zw0 :TS:=λD σ H=>D.nx σ H
def zw3 (t u:TS):TS:=λD σ H=>t {D with nx:=u D} σ H
def kR :PSs X [] zw0:=λ_ _ σ H _ I h=>z31 ⟨σ,H,I,h⟩
theorem zC (b:PS X st t)(c:PSs X rest u):PSs X (st::rest) (zw3 t u):=by
 intro pins s σ H D I h;refine wpAny_execs_cons (thn (b pins s σ H {D with nx:=u D} I h) λf s1 q=>?_);cases f with
 |next=>
  obtain⟨a,H',d,q⟩:=q;exact c pins s1 a H' D d q
 |ret v=>exact q
 |brk=>exact q
 |cont=>exact q
theorem uS (a:PS X st t):PSs X [st] t:=by
 intro pins s σ H D I h;refine wpAny_execs_cons (thn (a pins s σ H D I h) λf s1 q=>?_);cases f with
 |next=>exact z31 q
 |ret v=>exact q
 |brk=>exact q
 |cont=>exact q
def Inv.quiet {pins:List (Ad×Obj)}{σ:St}{H:Hp}{s:Ac}(I:Inv X pins σ H s):interactive X.env=false:=by simp[interactive,I.ok.kind]
def zA0 (te:TE):TS:=λD σ H=>te σ H λ_ H1=>D.nx σ H1
def kD (he:PE X e te)(b:swapsWith e none pos.line X.env=pure false:=by rfl):PS X (.Expr e pos) (zA0 te):=by
 intro pins s σ H D I h;exact wpAny_Expr_any (thn (he pins s σ H _ I h) λv s1 a=>by obtain⟨x,H1,c,f,d⟩:=a;exact⟨σ,H1,c,d⟩) I.quiet b
def zJ2 (te:TE):TS:=λD σ H=>te σ H D.rt
def sQ (he:PE X e te):PS X (.Return (some e) pos) (zJ2 te):=by
 intro pins s σ H D I h;exact wpAny_Return_some (thn (he pins s σ H _ I h) λv s1 a=>by obtain⟨x,H1,c,b,d⟩:=a;exact⟨x,σ,H1,c,b,d⟩)
def zG7 (c:TT)(t u:TS):TS:=λD σ H=>c σ H λb H1=>if b=true then t D σ H1 else u D σ H1
theorem zf6 {c:Am}{a b:List Ap}{i:TT}(k:PT X c i)(ha:PSs X a t)(hb:PSs X b u):PS X (.If c a b pos) (zG7 i t u):=by
 intro pins s σ H D I h;refine wpAny_If (thn (k pins s σ H _ I h) λd s1 f=>?_);obtain⟨H1,g,j⟩:=f;cases d with
 |true=>exact ha pins s1 σ H1 D g j
 |false=>exact hb pins s1 σ H1 D g j
end
abbrev TG :=V->St->Hp->(St->Hp->Prop)->Prop
abbrev TGs :=List V->St->Hp->(St->Hp->Prop)->Prop
def PG (X:Cx)(target:Am)(t:TG):Prop:=
 ∀(pins:List (Ad×Obj)) (s:Ac) (σ:St) (H:Hp) (v:V) (u:Ab) (Q:St->Hp->Prop),Inv X pins σ H s->RelV v u->t v σ H Q->
  Aj (Ag X.prog X.w) X.A (assign target X.env u) (λ_ s'=>∃a H',Inv X pins a H' s'/\Q a H') X.xe s
def PGs (X:Cx)(ts:List Am)(t:TGs):Prop:=
 ∀(pins:List (Ad×Obj)) (s:Ac) (σ:St) (H:Hp) (vs:List V) (us:List Ab) (Q:St->Hp->Prop),Inv X pins σ H s->Vals vs us->t vs σ H Q->
  Aj (Ag X.prog X.w) X.A (assignInOrder ((assignEach ts X.env).map (·.2)) us) (λ_ s'=>∃a H',Inv X pins a H' s'/\Q a H') X.xe s
abbrev zs9 :=V->V->V->Hp->(Hp->Prop)->Prop
def zB6 (X:Cx)(t:zs9):Prop:=
 ∀(pins:List (Ad×Obj)) (s:Ac) (σ:St) (H:Hp) (o i v:V) (a b u:Ab) (Q:Hp->Prop),Inv X pins σ H s->RelV o a->RelV i b->RelV v u->t o i v H Q->
  Aj (Ag X.prog X.w) X.A (setItem a b u) (λ_ s'=>∃H',Inv X pins σ H' s'/\Q H') X.xe s
section
variable {X:Cx}{pos:Pos}
def rR (i:Nat):TG:=λv σ H Q=>Q (σ.set i (some v)) H
def zV {i:Nat}{x:Str}(b:X.N.Nodup)(hi:X.N[i]?=some x)(c:Loc X.env.scope x)(hf:X.fn x=true\/X.env.scope.names.lookup x=some .local:=by first|exact .inl rfl|exact .inr rfl|assumption):PG X (.Name x pos) (rR i):=by
 intro pins s σ H v u Q I r h;exact wpAny_assign_Name (tE I b hi c r (λs' a=>⟨_,H,a,h⟩) hf)
def zr9 :TGs:=λvs σ H Q=>vs=[]/\Q σ H
def kF (t:TG)(u:TGs):TGs:=λvs σ H Q=>∃v r,vs=v::r/\t v σ H λa H'=>u r a H' Q
def qu :PGs X [] zr9:=by
 intro pins s σ H vs us Q I r h;obtain⟨e,h⟩:=h;subst e;cases r;exact assignInOrder_nil ⟨σ,H,I,h⟩
theorem vn {e:Am}{es:List Am}{t:TG}{u:TGs}(f:PG X e t)(g:PGs X es u)
  (d:(assignEach (e::es) X.env).map (·.2)=assign e X.env::(assignEach es X.env).map (·.2):=by rfl):PGs X (e::es) (kF t u):=by
 intro pins s σ H vs us Q I r h;obtain⟨v,k,e1,h⟩:=h;subst e1;cases r with
 |cons r i=>
  rw[d];refine assignInOrder_cons (thn (f pins s σ H _ _ _ I r h) λ_ s1 a=>?_);obtain⟨b,H1,c,j⟩:=a;exact g pins s1 b H1 _ _ Q c i j
def fF (K:Ae)(n:Nat)(t:TGs):TG:=λv σ H Q=>∃a xs,v=.ref a/\SqT K H a xs/\xs.length=n/\t xs σ H Q
def zs4 {es:List Am}{k:Nat}{t:TGs}{n:Nat}(l:X.calm=true)(h:PGs X es t)
  (hn:(assignEach es X.env).length=n:=by rfl) (c:(assignEach es X.env).findIdx? (·.1)=none:=by rfl):PG X (.Tuple es k pos) (fF X.K n t):=by
 intro pins s σ H v u Q I r hw;obtain⟨a,xs,e1,hq,i,hw⟩:=hw;subst e1;cases r;obtain⟨f,d,j,m⟩:=I.tuple hq;refine assign_Tuple_tuple (I.ok.hd l) j (by simp[hn,<-i,d.length]) c λh' g=>?_;exact h pins _ σ H xs _ Q (I.kept λb o e=>g b o (zL9 (zL0 e)) e) (by simpa using d) hw
def zy7 (to ti:TE)(t:zs9):TG:=λv σ H Q=>to σ H λo H1=>ti σ H1 λi b=>t o i v b λa=>Q σ a
def me {o i:Am}{to ti:TE}{t:zs9}(g:PE X o to)(hi:PE X i ti)(j:zB6 X t)
  (ha:∀v,assign (.Subscript o i pos) X.env v=(do
   let a <-holding [v] (eval o X.env)
   let e <-holding [v,a] (eval i X.env)
   standAt pos
   holding [v,a,e] (setItem a e v)
   release [v,a,e] []):=by intro _;rfl):PG X (.Subscript o i pos) (zy7 to ti t):=by
 intro pins s σ H v u Q I r h;rw[ha];refine zK0 (zP3 (thn (g pins s σ H _ I h) λa s1 d=>?_));obtain⟨x,H1,k,p,m⟩:=d;refine zK0 (zP3 (thn (hi pins s1 σ H1 _ k m) λe s2 b=>?_));obtain⟨y,z,l,q,w⟩:=b;refine zK0 (z23 (zK0 (zP3 (thn (j pins s2 σ z x y v a e u _ l p q r w) λ_ s3 c=>?_))));obtain⟨A,f,n⟩:=c;exact wpAny_release ⟨σ,A,f,n⟩
def zu8 (a:TE)(g:TG):TS:=λD σ H=>a σ H λx H1=>g x σ H1 D.nx
def nJ {tg e:Am}{b:TE}{g:TG}(he:PE X e b)(hg:PG X tg g)(d:swapsWithSole [tg] e pos.line X.env=pure false:=by rfl)(hw:swappedStores [tg] e X.env=pure none:=by rfl)
  (i:(assignEach [tg] X.env).map (·.2)=[assign tg X.env]:=by rfl):PS X (.Assign [tg] e pos) (zu8 b g):=by
 intro pins s σ H D I h;refine wpAny_Assign_stores (thn (he pins s σ H _ I h) λv s1 a=>?_) d hw;obtain⟨x,H1,f,c,j⟩:=a;rw[i];exact thn (hg pins s1 σ H1 x v _ f c j) λ_ s2 q=>q
def qI {i:Nat}{x:Str}{e:Am}{b:TE}{pos':Pos}(c:X.N.Nodup)(hi:X.N[i]?=some x)(j:Loc X.env.scope x)(he:PE X e b)(f:swapsWith e (some (.Name x pos')) pos.line X.env=pure false:=by rfl)(hf:X.fn x=true\/X.env.scope.names.lookup x=some .local:=by first|exact .inl rfl|exact .inr rfl|assumption):
  PS X (.Assign [.Name x pos'] e pos) (zu8 b (rR i)):=by
 intro pins s σ H D I h;refine wpAny_Assign_Name (thn (he pins s σ H _ I h) λv s1 a=>?_) f;obtain⟨y,H1,g,d,l⟩:=a;exact tE g c hi j d (λs2 k=>⟨_,H1,k,l⟩) hf
end
section
variable {X:Cx}{pos:Pos}
def zo2 (c:TT)(e:TS):TS:=λD σ H=>∃W:Nat->St->Hp->Prop,(∃m,W m σ H)/\∀m σ H,W m σ H->
 c σ H λb H1=>if b=true then ∃N:St->Hp->Prop,(∀a H',N a H'->∃d,d<m/\W d a H')/\e {D with nx:=N,ct:=N,bk:=D.nx} σ H1 else D.nx σ H1
theorem dy {c:Am}{body:List Ap}{r:TT}{q:TS}(y:PassesOwn (Ag X.prog X.w) X.A X.env X.xe)(E:PT X c r)(hb:PSs X body q):PS X (.While c body [] pos) (zo2 r q):=by
 intro pins s σ H D I h;obtain⟨W,⟨m0,B⟩,turn⟩:=h;refine wpAny_While (codeAny_whileLoop (λn s'=>∃e H',Inv X pins e H' s'/\W n e H') ?_ m0 ⟨σ,H,I,B⟩);rintro n s1 ⟨d,H1,z,C⟩;refine zX9 y (thn (E pins s1 d H1 _ z (turn n d H1 C)) λb s2 g=>?_);obtain⟨x,t,k⟩:=g;cases b with
 |true=>
  obtain⟨N,u,k⟩:=k;rw[if_pos rfl];refine zX9 y (thn (hb pins s2 d x _ t k) λf s3 j=>?_);cases f with
  |next=>
   obtain⟨a,i,l,p⟩:=j;obtain⟨m,hm,o⟩:=u a i p;exact⟨m,hm,a,i,l,o⟩
  |cont=>
   obtain⟨a,i,l,p⟩:=j;obtain⟨m,hm,o⟩:=u a i p;exact⟨m,hm,a,i,l,o⟩
  |brk=>exact j
  |ret v=>exact j
 |false=>
  rw[if_neg zM7];exact z31 ⟨d,x,t,k⟩
end
structure It where
 go:Nat->Hp->Prop
 yld:Nat->Hp->V->Hp->Prop
 stop:Nat->Hp->Prop
def yO (X:Cx)(pins:List (Ad×Obj))(H:Hp)(b:Ad):Prop:=
 H b=none/\b≠X.env.locals/\b∉X.fs/\(b∈X.ex\/X.s₀.heap.objs.size<=b)/\(∀x c,X.env.cells.lookup x=some c->c≠b)/\∀p∈X.pn++pins,p.1≠b
def Inv.fpOk {X:Cx}{pins:List (Ad×Obj)}{σ:St}{H H':Hp}{s:Ac}{b:Ad}(I:Inv X pins σ H s)(hb:s.heap.objs.size<=b)(hn:H' b=none):yO X pins H' b:=by
 refine⟨hn,zT2 (zK5 I.lt hb),I.nofs hb,.inr (zL8 I.sz hb),λx c e z=>?_,λp a z=>?_⟩
 .obtain⟨v,q⟩:=I.cell x c e;exact absurd (zK5 q.lt (by rw[z];exact hb)) (zQ6 _)
 .exact absurd (zK5 (zL0 (I.pin p a).1) (by rw[z];exact hb)) (zQ6 _)
structure Turn (P:Ah)(w:Ak)(K:Ae)(tg:Am)(J:It)(fp:List Ad)(it:Ad)(tn:Nat->An->Prop):Prop where
 mem:it∈fp
 obj:∀i h,tn i h->∀b∈fp,∃o,h.get? b=some o/\∀v,o.data≠.cell v
 keep:∀i h h',tn i h->(∀b∈fp,∀o,h.get? b=some o->h'.get? b=some o)->tn i h'
 item:∀(X:Cx),X.prog=P->X.w=w->X.K=K->X.calm=true->∀(i:Nat) (pins:List (Ad×Obj)) (s:Ac) (σ:St) (H:Hp) (E:Ab->Ac->Prop),Inv X pins σ H s->(∀b∈fp,yO X pins H b)->tn i s.heap->J.go i H->
  Aj (Ag P w) X.A (pyNext (.ref it)) (λr s1=>∃u,r=some u/\
   Aj (Ag P w) X.A (letOwnedTupleGo tg (.ref it) u) (λ_ s2=>∃x H',Inv X pins σ H' s2/\RelV x u/\J.yld i H x H'/\tn (i+1) s2.heap/\∀b∈fp,H' b=none) E s1) E s
 done:∀(X:Cx),X.prog=P->X.w=w->X.K=K->X.calm=true->∀(i:Nat) (pins:List (Ad×Obj)) (s:Ac) (σ:St) (H:Hp) (E:Ab->Ac->Prop),Inv X pins σ H s->(∀b∈fp,yO X pins H b)->tn i s.heap->J.stop i H->
  Aj (Ag P w) X.A (pyNext (.ref it)) (λr s1=>r=none/\Inv X pins σ H s1) E s
 self:∀(A:Al) (i:Nat) (s:Ac) (Q:Ab->Ac->Prop) (E:Ab->Ac->Prop),tn i s.heap->Q (.ref it) s->Aj (Ag P w) A (pyIter (.ref it)) Q E s
abbrev TI :=St->Hp->(It->Hp->Prop)->Prop
def PIE (X:Cx)(pins:List (Ad×Obj))(σ:St)(tg:Am)(R:It->Hp->Prop)(a:Ab)(s2:Ac):Prop:=
 ∃(it:Ad) (fp:List Ad) (tn:Nat->An->Prop) (J:It) (H':Hp),a=.ref it/\Inv X pins σ H' s2/\Turn X.prog X.w X.K tg J fp it tn/\tn 0 s2.heap/\(∀b∈fp,yO X pins H' b)/\R J H'
def PI (X:Cx)(tg iter:Am)(a:TI):Prop:=
 ∀(pins:List (Ad×Obj)) (s:Ac) (σ:St) (H:Hp) (R:It->Hp->Prop),Inv X pins σ H s->a σ H R->
  Aj (Ag X.prog X.w) X.A (eval iter X.env) (λv s1=>Aj (Ag X.prog X.w) X.A (pyIter v) (PIE X pins σ tg R) X.xe s1) X.xe s
def fi {M:Model}{A:Al}{E:Ab->Ac->Prop}{s:Ac}{tg:Am}{it:Ad}{u:Ab}{o:Obj}{n:String}{vs:Array Ab}{Q:Unit->Ac->Prop}(b:s.heap.get? it=some o)(c:o.cls=.type n)(hd:o.data=.fields vs)
  (hn:["enumerate","zip","dict_itemiterator","dict_reverseitemiterator","odict_iterator","itertools.zip_longest","itertools.pairwise"].contains n=false) (a:Q () s):Aj M A (letOwnedTupleGo tg (.ref it) u) Q E s:=by
 unfold letOwnedTupleGo;cases tg<;>first
  |exact zK2 a
  |(cases u<;>first
    |exact zK2 a
    |(refine zK0 (wpAny_load b ?_)
      rw[c,hd];show Aj M A (if(["enumerate","zip","dict_itemiterator","dict_reverseitemiterator","odict_iterator","itertools.zip_longest","itertools.pairwise"].contains n&&vs[0]? == some (rawInt _))=true then _ else _) Q E s;rw[if_neg (by intro h;rw[hn,zT8]at h;cases h)];exact zK2 a))
def Itl (K:Ae)(a:Ad):It:=
 ⟨λi H=>∃xs x,SqL K H a xs/\xs[i]?=some x,λi H x H'=>H'=H/\∀xs,SqL K H a xs->xs[i]?=some x,λi H=>∃xs,SqL K H a xs/\xs.length<=i⟩
def Itr (lo:Int)(n:Nat):It:=⟨λi _=>i<n,λi H x H'=>H'=H/\x=.int (lo+i),λi _=>n<=i⟩
def iu {P:Ah}{w:Ak}{K:Ae}{tg:Am}(a it:Ad):Turn P w K tg (Itl K a) [it] it (λi h=>h.IsListIter it a i) where
 mem:=by simp
 obj:=λi h st b hb=>by
  have e:b=it:=by simpa using hb
  subst e;obtain⟨o,e,c,d⟩:=st;exact⟨o,e,λv z=>by rw[d]at z;cases z⟩
 keep:=λi h h' st k=>st.at λo e=>k it (by simp) o e
 item:=by
  intro X g hw n r i pins s σ H E I hf st hg;subst g hw n;obtain⟨xs,x,hq,f⟩:=hg;obtain⟨j,l,p,B⟩:=I.list hq;obtain⟨u,y,A⟩:=l.get f;obtain⟨f0,f1,f2,m,f4,q⟩:=hf it (by simp);refine wpAny_pyNext_list_item st p.isList (by simpa using y) λh' st' sb=>?_;obtain⟨o,e,c,d⟩:=id st';exact⟨u,rfl,fi e c d (by decide) ⟨x,H,(I.turned (λb o hb e=>(sb.2 b hb).trans e) f0 f1 m f4 q),A,⟨rfl,λys hy=>by rw[I.list_inj hy hq];exact f⟩,st',λb hb=>(hf b hb).1⟩⟩
 done:=by
  intro X g hw n r i pins s σ H E I hf st hg;subst g hw n;obtain⟨xs,hq,f⟩:=hg;obtain⟨j,l,p,B⟩:=I.list hq;obtain⟨f0,f1,f2,m,f4,q⟩:=hf it (by simp);exact wpAny_pyNext_list_end (I.ok.hd r) st p.isList (by simp;exact zL8 (zM9 l.length.symm) f) λh' t=>⟨rfl,I.turned (λb o hb e=>t b o hb e) f0 f1 m f4 q⟩
 self:=λ_ _ _ _ _ st h=>wpAny_pyIter_listiter st h
def nV {P:Ah}{w:Ak}{K:Ae}{tg:Am}(it:Ad)(lo:Int)(n:Nat):Turn P w K tg (Itr lo n) [it] it (λi h=>IsRangeIter h it (lo+(i:Nat)*1) ((n:Int)-(i:Nat)) 1) where
 mem:=by simp
 obj:=λi h st b hb=>by
  have e:b=it:=by simpa using hb
  subst e;exact⟨_,st,λv z=>by
   have r:=z;cases r⟩
 keep:=λi h h' st k=>k it (by simp) _ st
 item:=by
  intro X a hw d f i pins s σ H E I hf st hg;subst a hw d;obtain⟨f0,f1,f2,c,f4,g⟩:=hf it (by simp);refine(Walks.range (I.ok.hd f) it lo 1 n).item i s _ _ hg st λv h' q j st' p=>?_;obtain⟨t,rfl⟩:=j;have m:Inv X pins σ H {s with heap:=h',toks:=q}:=I.turned (λb o hb e=>p b o (by simpa using hb) e) f0 f1 c f4 g;refine⟨_,rfl,fi st' rfl rfl (by decide) ⟨.int (lo+i),H,m,⟨t,?_⟩,⟨rfl,rfl⟩,st',λb hb=>(hf b hb).1⟩⟩;rw[Int.mul_one]
 done:=by
  intro X a hw d f i pins s σ H E I hf st hg;subst a hw d;obtain⟨f0,f1,f2,c,f4,g⟩:=hf it (by simp);exact wpAny_pyNext_range_end (I.ok.hd f) st (by have:n<=i:=hg;exact zz7 this) λh' l=>⟨rfl,I.turned (λb o hb e=>l b o hb e) f0 f1 c f4 g⟩
 self:=λ_ _ _ _ _ st h=>wpAny_pyIter_rangeiter st h
section
variable {X:Cx}{tg:Am}
def zD2 (K:Ae)(b:TE):TI:=λσ H R=>b σ H λx H1=>∃a,x=.ref a/\(∃xs,SqL K H1 a xs)/\R (Itl K a) H1
def aD {l:Am}{f:TE}(j:PE X l f):PI X tg l (zD2 X.K f):=by
 intro pins s σ H R I h;refine thn (j pins s σ H _ I h) λv s1 c=>?_;obtain⟨x,H1,d,g,k⟩:=c;obtain⟨a,e,⟨xs,hq⟩,q⟩:=k;subst e;cases g;obtain⟨i,n,p,m⟩:=d.list hq;refine z03 p.isList ⟨s1.heap.objs.size,[s1.heap.objs.size],_,_,H1,rfl,d.kept λb o e=>zK1 _ e,iu a _,⟨_,zL2 _ rfl,rfl,rfl⟩,λb hb=>?_,q⟩;have e:b=s1.heap.objs.size:=by simpa using hb
 subst e;exact d.fpOk (zK6 _) (d.hok.fresh (zK6 _))
def pW {pins:List (Ad×Obj)}{σ:St}{H:Hp}{s:Ac}{R:It->Hp->Prop}{E:Ab->Ac->Prop}{lo hi:Int}{t u v:Tok}{c:Nat}(I:Inv X pins σ H s)(d:-(2 ^ 62)<=lo)(f:lo<2 ^ 62)(i:-(2 ^ 62)<=hi)(g:hi<2 ^ 62)
  (q:R (Itr lo (hi-lo).toNat) H):Aj (Ag X.prog X.w) X.A (pyIter (.ref s.heap.objs.size)) (PIE X pins σ tg R) E {s with heap:=s.heap.push {cls:=.type "range",data:=.fields #[.int lo t,.int hi u,.int 1 v]},toks:=c}:=by
 refine wpAny_pyIter_range (IsRange.new ..) (small_one d f i g) ?_;have a:Inv X pins σ H {s with heap:=s.heap.push {cls:=.type "range",data:=.fields #[.int lo t,.int hi u,.int 1 v]},toks:=c}:=I.kept λb o e=>zK1 _ e;refine⟨(s.heap.push {cls:=.type "range",data:=.fields #[.int lo t,.int hi u,.int 1 v]}).objs.size,[(s.heap.push {cls:=.type "range",data:=.fields #[.int lo t,.int hi u,.int 1 v]}).objs.size],_,_,H,rfl,
  a.kept λb o e=>zK1 _ e,nV _ lo (hi-lo).toNat,?_,λb hb=>?_,q⟩
 .have e1:lo+((0:Nat):Int)*1=lo:=by simp
  have h:(((hi-lo).toNat:Nat):Int)-((0:Nat):Int)=Builtin.Range.rangeSize lo hi 1:=by rw[rangeSize_one];split<;>lia
  rw[e1,h];exact zL2 _ rfl
 .have e:b=(s.heap.push {cls:=.type "range",data:=.fields #[.int lo t,.int hi u,.int 1 v]}).objs.size:=by simpa using hb
  subst e;exact a.fpOk (zK6 _) (a.hok.fresh (zK6 _))
def zy2 (a:TA):TI:=λσ H R=>a σ H λvs H1=>∃j:Int,vs=[.int j]/\-(2 ^ 62)<=j/\j<2 ^ 62/\R (Itr 0 j.toNat) H1
def zD4 (a:TA):TI:=λσ H R=>a σ H λvs H1=>∃i j:Int,vs=[.int i,.int j]/\(-(2 ^ 62)<=i/\i<2 ^ 62/\-(2 ^ 62)<=j/\j<2 ^ 62)/\R (Itr i (j-i).toNat) H1
theorem iZ {a:Am}{d:TA}{p pos:Pos}(hg:Gl X "range")(hm:X.mg "range"=none)(ha:PA X [a] d)(k:Af [a] X.env=[(false,eval a X.env)]:=by rfl):PI X tg (.Call (.Name "range" p) [a] [] pos) (zy2 d):=by
 intro pins s σ H R I h;refine Call_ (xw I hg hm boot_range (zR1 (thn (ha pos pins s σ H _ I h) λus s1 b=>?_) k rfl));obtain⟨vs,H1,g,f,c⟩:=b;obtain⟨j,e,c,i,q⟩:=c;subst e;cases f with
 |cons r l=>
  cases l;obtain⟨t,rfl⟩:=r;exact call_range_1 (pW g (by decide) (by decide) c i (by simpa using q))
theorem jR {a b:Am}{g:TA}{p pos:Pos}(hg:Gl X "range")(hm:X.mg "range"=none)(ha:PA X [a,b] g)(k:Af [a,b] X.env=[(false,eval a X.env),(false,eval b X.env)]:=by rfl)(c:Af [b] X.env=[(false,eval b X.env)]:=by rfl):
  PI X tg (.Call (.Name "range" p) [a,b] [] pos) (zD4 g):=by
 intro pins s σ H R I h;refine Call_ (xw I hg hm boot_range (zR1 (thn (ha pos pins s σ H _ I h) λus s1 ⟨vs,H1,l,o,f⟩=>?_) (by rw[k,c]) (by rw[c];rfl)));obtain⟨i,j,e,⟨f,u,n,m⟩,q⟩:=f;subst e;cases o with
 |cons r d=>
  cases d with
  |cons v d=>
   cases d;obtain⟨t,rfl⟩:=r;obtain⟨t',rfl⟩:=v;exact call_range_2 (pW l f u n m q)
def zG6 (e:TI)(g:TG)(c:TS):TS:=λD σ H=>e σ H λJ H1=>∃W:Nat->Nat->St->Hp->Prop,(∃m,W 0 m σ H1)/\∀i m σ H,W i m σ H->
 (J.stop i H/\D.nx σ H)\/(J.go i H/\∃N:St->Hp->Prop,(∀a H',N a H'->∃b,b<m/\W (i+1) b a H')/\∀x H',J.yld i H x H'->g x σ H' λσ2 d=>c {D with nx:=N,ct:=N,bk:=D.nx} σ2 d)
def sD (fp:List Ad)(h:An):List (Ad×Obj):=fp.filterMap λb=>(h.get? b).map λo=>(b,o)
def xM {fp:List Ad}{h:An}{b:Ad}{o:Obj}(hb:b∈fp)(e:h.get? b=some o):(b,o)∈sD fp h:=List.mem_filterMap.mpr ⟨b,hb,by rw[e];rfl⟩
theorem iK {fp:List Ad}{h:An}{p:Ad×Obj}(a:p∈sD fp h):p.1∈fp/\h.get? p.1=some p.2:=by
 obtain⟨b,hb,e⟩:=List.mem_filterMap.mp a;cases q:h.get? b with
 |none=>rw[q]at e;cases e
 |some o=>
  rw[q]at e;have c:=zO2 e;subst c;exact⟨hb,q⟩
def Inv.pinned {pins:List (Ad×Obj)}{σ:St}{H:Hp}{s:Ac}{fp:List Ad}(I:Inv X pins σ H s)(hf:∀b∈fp,yO X pins H b)(c:∀b∈fp,∃o,s.heap.get? b=some o/\∀v,o.data≠.cell v):Inv X (pins++sD fp s.heap) σ H s:=
 I.pins_of λp f=>(zN6.mp f).elim (λz=>I.pin p (zM4 _ z)) λz=>by
  obtain⟨hb,e⟩:=iK z;obtain⟨f0,f1,f2,_⟩:=hf p.1 hb;obtain⟨o,a,d⟩:=c p.1 hb;rw[e]at a;cases a;exact⟨e,f0,f1,f2,d⟩
def Inv.unpinned {pins b:List (Ad×Obj)}{σ:St}{H:Hp}{s:Ac}(I:Inv X (pins++b) σ H s):Inv X pins σ H s:=I.pins_of λp a=>I.pin p (zM4 _ (zO0 _ a))
def zt2 {iter:Am}{body:List Ap}{U:TI}{g:TG}{V:TS}{pos:Pos}(E:PassesOwn (Ag X.prog X.w) X.A X.env X.xe)(Y:X.calm=true)(hi:PI X tg iter U)(hg:PG X tg g)(hb:PSs X body V)
  (hs:∀x,foldedSetIterable iter X.env x=pure x:=by intro _;rfl):PS X (.For tg iter body [] pos) (zG6 U g V):=by
 intro pins s σ H D I h;refine wpAny_For (thn (hi pins s σ H _ I h) λv s1 h1=>thn h1 λa0 s2 h2=>?_) hs;obtain⟨it,fp,tn,J,H2,e,I2,T,Q,f2,W,⟨m0,w0⟩,turn⟩:=h2;subst e
 -- what stays true of the iterator's objects through the loop
 have p:∀{H':Hp},(∀b∈fp,H' b=none)->∀b∈fp,yO X pins H' b:=λhn b hb=>⟨hn b hb,(f2 b hb).2⟩;refine codeAny_forLoop_any (λn s'=>∃i l H',Inv X pins l H' s'/\tn i s'.heap/\(∀b∈fp,H' b=none)/\W i n l H') ?_ m0 ⟨0,σ,H2,I2,Q,λb hb=>(f2 b hb).1,w0⟩;rintro n s3 ⟨i,j,L,R,G,C,w3⟩;rcases turn i n j L w3 with⟨stop,qn⟩|⟨go,N,hN,step⟩
 .refine zX9 E (thn (T.done X rfl rfl rfl Y i pins s3 j L X.xe R (p C) G stop) λr s4 y=>?_);obtain⟨hr,I4⟩:=y;subst hr;exact z31 ⟨j,L,I4,qn⟩
 .refine zX9 E (thn (T.item X rfl rfl rfl Y i pins s3 j L X.xe R (p C) G go) λr s4 K=>?_);obtain⟨u,hr,Z⟩:=K;subst hr;refine zX9 E (thn Z λ_ s5 B=>?_);obtain⟨x,S,I5,r5,y5,t,M⟩:=B;refine zX9 E (thn (hg _ s5 j S x u _ (I5.pinned (p M) (T.obj _ _ t)) r5 (step x S y5)) λ_ s6 z=>?_);obtain⟨O,H6,I6,q6⟩:=z;refine zX9 E (thn (hb _ s6 O H6 _ I6 q6) λf P q=>?_);have again:∀{a:St} {c:Hp},Inv X (pins++sD fp s5.heap) a c P->N a c->∃m,m<n/\∃i l H',Inv X pins l H' P/\tn i P.heap/\(∀b∈fp,H' b=none)/\W i m l H':=λ{a c} k F=>by
   obtain⟨m',hm,w7⟩:=hN a c F;refine⟨m',hm,i+1,a,c,k.unpinned,T.keep _ _ _ t λb hb o e=>(k.pin (b,o) (zM4 _ (zM4 _ (xM hb e)))).1,λb hb=>?_,w7⟩;obtain⟨o,e,d⟩:=T.obj _ _ t b hb;exact(k.pin (b,o) (zM4 _ (zM4 _ (xM hb e)))).2.1
  cases f with
  |next=>obtain⟨a,c,k,F⟩:=q;exact again k F
  |cont=>obtain⟨a,c,k,F⟩:=q;exact again k F
  |brk=>obtain⟨a,c,k,q⟩:=q;exact⟨a,c,k.unpinned,q⟩
  |ret v=>obtain⟨x7,a,c,k,r7,q⟩:=q;exact⟨x7,a,c,k.unpinned,r7,q⟩
end
abbrev R2 :=V->V->Hp->VK->Prop
def OpR (X:Cx)(f:Ab->Ab->Sem Ab)(r:R2):Prop:=
 ∀(pins:List (Ad×Obj)) (s:Ac) (σ:St) (H:Hp) (x y:V) (v u:Ab) (Q:VK),Inv X pins σ H s->RelV x v->RelV y u->r x y H Q->
  Aj (Ag X.prog X.w) X.A (f v u) (EP X pins σ Q) X.xe s
def UnR (X:Cx)(f:Ab->Sem Ab)(r:V->Hp->VK->Prop):Prop:=
 ∀(pins:List (Ad×Obj)) (s:Ac) (σ:St) (H:Hp) (x:V) (v:Ab) (Q:VK),Inv X pins σ H s->RelV x v->r x H Q->
  Aj (Ag X.prog X.w) X.A (f v) (EP X pins σ Q) X.xe s
def xj (X:Cx)(f:Ab)(r:List V->Hp->VK->Prop):Prop:=
 ∀(pins:List (Ad×Obj)) (s:Ac) (σ:St) (H:Hp) (xs:List V) (us:List Ab) (Q:VK),Inv X pins σ H s->Vals xs us->r xs H Q->
  Aj (Ag X.prog X.w) X.A (call f us) (EP X pins σ Q) X.xe s
def zJ3 (X:Cx)(r:V->Hp->(Bool->Hp->Prop)->Prop):Prop:=
 ∀(pins:List (Ad×Obj)) (s:Ac) (σ:St) (H:Hp) (x:V) (v:Ab) (Q:Bool->Hp->Prop),Inv X pins σ H s->RelV x v->r x H Q->
  Aj (Ag X.prog X.w) X.A (truthy v) (TP X pins σ Q) X.xe s
def tOp (r:R2)(a b:TE):TE:=λσ H Q=>a σ H λx H1=>b σ H1 λy c=>r x y c Q
def tUn (r:V->Hp->VK->Prop)(a:TE):TE:=λσ H Q=>a σ H λx H1=>r x H1 Q
def rI (C:Int->Int->Prop)(g:Int->Int->V):R2:=λx y H Q=>∃i j,x=.int i/\y=.int j/\C i j/\Q (g i j) H
def rI0 (g:Int->Int->V):R2:=λx y H Q=>∃i j,x=.int i/\y=.int j/\Q (g i j) H
def rU (g:Int->V):V->Hp->VK->Prop:=λx H Q=>∃i,x=.int i/\Q (g i) H
section
variable {X:Cx}{a b c:Am}{ta tb tc:TE}{pos:Pos}
def zp8 (ha:PE X a ta)(hb:PE X b tb){pins:List (Ad×Obj)}{s:Ac}{σ:St}{H:Hp}{R:V->V->Hp->Prop}(I:Inv X pins σ H s)
  (h:ta σ H λx H1=>tb σ H1 λy d=>R x y d) {Q:Ab->Ac->Prop} {f:Ab->Ab->Sem Ab}
  (hf:∀v u s2 x y d,Inv X pins σ d s2->RelV x v->RelV y u->R x y d->Aj (Ag X.prog X.w) X.A (f v u) Q X.xe s2):
  Aj (Ag X.prog X.w) X.A (eval a X.env) (λv g=>Aj (Ag X.prog X.w) X.A (eval b X.env) (λu i=>Aj (Ag X.prog X.w) X.A (f v u) Q X.xe i) X.xe g) X.xe s:=by
 refine thn (ha pins s σ H _ I h) λv s1 j=>?_;obtain⟨x,H1,l,k,p⟩:=j;refine thn (hb pins s1 σ H1 _ l p) λu s2 e=>?_;obtain⟨y,d,o,m,n⟩:=e;exact hf v u s2 x y d o k m n
def yT {op:Operator}{r:R2}(d:OpR X (binaryOp op) r)(ha:PE X a ta)(hb:PE X b tb):PE X (.BinOp a op b pos) (tOp r ta tb):=by
 intro pins s σ H Q I h;exact wpAny_BinOp (zp8 ha hb I h λv u s2 x y e f g i q=>d pins s2 σ e x y v u Q f g i q)
def zC9 {op:UnaryOp}{r:V->Hp->VK->Prop}(e:UnR X (unaryOp op) r)(ha:PE X a ta):PE X (.UnaryOp op a pos) (tUn r ta):=by
 intro pins s σ H Q I h;exact UnaryOp_ (thn (ha pins s σ H _ I h) λv s1 d=>by obtain⟨x,H1,g,f,i⟩:=d;exact e pins s1 σ H1 x v Q g f i)
def opI {f:Ab->Ab->Sem Ab}{C:Int->Int->Prop}{g:Int->Int->Int}
  (rule:∀(i j:Int) (t u:Tok) (s:Ac) (Q:Ab->Ac->Prop) (E:Ab->Ac->Prop),C i j->Q (.int (g i j) s.toks) {s with toks:=s.toks+1}->Aj (Ag X.prog X.w) X.A (f (.int i t) (.int j u)) Q E s):
  OpR X f (rI C λi j=>.int (g i j)):=by
 intro pins s σ H x y v u Q I e k h;obtain⟨i,j,rfl,rfl,d,q⟩:=h;obtain⟨t,rfl⟩:=e;obtain⟨t',rfl⟩:=k;exact rule i j t t' s _ _ d ⟨.int (g i j),H,I.tok _,⟨_,rfl⟩,q⟩
def zA6 {f:Ab->Ab->Sem Ab}{g:Int->Int->Int}
  (rule:∀(i j:Int) (t u:Tok) (s:Ac) (Q:Ab->Ac->Prop) (E:Ab->Ac->Prop),Q (.int (g i j) s.toks) {s with toks:=s.toks+1}->Aj (Ag X.prog X.w) X.A (f (.int i t) (.int j u)) Q E s):
  OpR X f (rI0 λi j=>.int (g i j)):=by
 intro pins s σ H x y v u Q I d e h;obtain⟨i,j,rfl,rfl,q⟩:=h;obtain⟨t,rfl⟩:=d;obtain⟨t',rfl⟩:=e;exact rule i j t t' s _ _ ⟨.int (g i j),H,I.tok _,⟨_,rfl⟩,q⟩
def aN {f:Ab->Ab->Sem Ab}{g:Int->Int->Bool}
  (rule:∀(i j:Int) (t u:Tok) (s:Ac) (Q:Ab->Ac->Prop) (E:Ab->Ac->Prop),Q (.bool (g i j)) s->Aj (Ag X.prog X.w) X.A (f (.int i t) (.int j u)) Q E s):
  OpR X f (rI0 λi j=>.bl (g i j)):=by
 intro pins s σ H x y v u Q I d e h;obtain⟨i,j,rfl,rfl,q⟩:=h;obtain⟨t,rfl⟩:=d;obtain⟨t',rfl⟩:=e;exact rule i j t t' s _ _ ⟨.bl (g i j),H,I,rfl,q⟩
def zm5 (i j:Int):Prop:=0<=j/\j<=1000000/\i.natAbs<2 ^ 64
def bX (i j:Int):Prop:=(-(2 ^ 64)<i/\i<2 ^ 64)\/(-(2 ^ 64)<j/\j<2 ^ 64)
def bX.ok {i j:Int}(h:bX i j):IntMulOk i j:=by
 rcases h with⟨d,e⟩|⟨d,e⟩
 .exact .of_left (intBits_le_64 d e)
 .exact .of_right (intBits_le_64 d e)
def qR :OpR X (binaryOp .Add) (rI0 λi j=>.int (i+j)):=zA6 λ_ _ _ _ _ _ _ q=>add_int q
def zn9 :OpR X (binaryOp .Sub) (rI0 λi j=>.int (i-j)):=zA6 λ_ _ _ _ _ _ _ q=>sub_int q
def qr :OpR X (binaryOp .Mult) (rI bX λi j=>.int (i*j)):=opI λ_ _ _ _ _ _ _ d q=>mul_int q d.ok
def sF :OpR X (binaryOp .Mod) (rI (λ_ j=>0<j) λi j=>.int (i % j)):=opI λi j _ _ _ _ _ d q=>by exact mod_int' (Int.ne_of_gt d) (by rw[Int.fmod_eq_emod_of_nonneg i (zZ1 d)];exact q)
def zm8 :OpR X (binaryOp .Pow) (rI zm5 λi j=>.int (i ^ j.toNat)):=opI λ_ _ _ _ _ _ _ d q=>pow_int_small d.1 d.2.1 d.2.2 q
def unI {f:Ab->Sem Ab}{g:Int->Int}
  (rule:∀(i:Int) (t:Tok) (s:Ac) (Q:Ab->Ac->Prop) (E:Ab->Ac->Prop),Q (.int (g i) s.toks) {s with toks:=s.toks+1}->Aj (Ag X.prog X.w) X.A (f (.int i t)) Q E s):
  UnR X f (rU λi=>.int (g i)):=by
 intro pins s σ H x v Q I d h;obtain⟨i,rfl,q⟩:=h;obtain⟨t,rfl⟩:=d;exact rule i t s _ _ ⟨.int (g i),H,I.tok _,⟨_,rfl⟩,q⟩
def zm7 :UnR X (unaryOp .USub) (rU λi=>.int (-i)):=unI λ_ _ _ _ _ q=>neg_int q
end
def zx5 :V->V->Bool
 |.non,.non=>true|.non,.int _=>true|.int _,.non=>true|.non,.bl _=>true|.bl _,.non=>true|.non,.str _=>true|.str _,.non=>true
 |.int _,.int _=>true|.bl _,.bl _=>true|.str _,.str _=>true|.byt _,.byt _=>true
 |.int _,.str _=>true|.str _,.int _=>true|.bl _,.str _=>true|.str _,.bl _=>true
 |_,_=>false
def rEq :R2:=λx y H Q=>zx5 x y=true/\Q (.bl (decide (x=y))) H
def rNe :R2:=λx y H Q=>zx5 x y=true/\Q (.bl (!decide (x=y))) H
def lY {i j:Int}:decide (V.int i=V.int j)=(i == j):=by
 rw[z56];simp
def cc {i j:Bool}:decide (V.bl i=V.bl j)=(i == j):=by
 rw[z56];simp
def lQ {i j:Str}:decide (V.str i=V.str j)=(i == j):=by
 rw[z56];simp
def ku {i j:Array UInt8}:decide (V.byt i=V.byt j)=(i.toList == j.toList):=by
 rw[z56];cases i;cases j;simp
section
variable {X:Cx}{a b c:Am}{ta tb tc:TE}{pos:Pos}
def zx {pins:List (Ad×Obj)}{σ:St}{H:Hp}{s:Ac}{Q:VK}{k d:Bool}(I:Inv X pins σ H s)(q:Q (.bl k) H)(e:k=d):EP X pins σ Q (.bool d) s:=by
 subst e;exact⟨.bl k,H,I,rfl,q⟩
theorem eu :OpR X (compareOp .Eq) rEq:=by
 intro pins s σ H x y v u Q I f d h;obtain⟨e,q⟩:=h;cases x with
 |non=>
  cases f;cases y with
  |non=>cases d;exact PySem.EqNone.eq_none_none (zx I q (by simp))
  |bl j=>cases d;exact PySem.EqNone.eq_none_bool (zx I q (by simp))
  |int j=>obtain⟨t',rfl⟩:=d;exact PySem.EqNone.eq_none_int (zx I q (by simp))
  |str j=>obtain⟨t',rfl⟩:=d;exact PySem.EqNone.eq_none_str (zx I q (by simp))
  |_=>exact absurd (e) zM7
 |bl i=>
  cases f;cases y with
  |non=>cases d;exact PySem.EqNone.eq_bool_none (zx I q (by simp))
  |bl j=>cases d;exact eq_bool (zx I q cc)
  |str j=>obtain⟨t',rfl⟩:=d;exact PySem.EqMixed.eq_bool_str (zx I q (by simp))
  |_=>exact absurd (e) zM7
 |int i=>
  obtain⟨t,rfl⟩:=f;cases y with
  |non=>cases d;exact PySem.EqNone.eq_int_none (zx I q (by simp))
  |int j=>obtain⟨t',rfl⟩:=d;exact eq_int (zx I q lY)
  |str j=>obtain⟨t',rfl⟩:=d;exact PySem.EqMixed.eq_int_str (zx I q (by simp))
  |_=>exact absurd (e) zM7
 |str i=>
  obtain⟨t,rfl⟩:=f;cases y with
  |non=>cases d;exact PySem.EqNone.eq_str_none (zx I q (by simp))
  |bl j=>cases d;exact PySem.EqMixed.eq_str_bool (zx I q (by simp))
  |int j=>obtain⟨t',rfl⟩:=d;exact PySem.EqMixed.eq_str_int (zx I q (by simp))
  |str j=>obtain⟨t',rfl⟩:=d;exact eq_str (zx I q lQ)
  |_=>exact absurd (e) zM7
 |byt i=>
  obtain⟨t,rfl⟩:=f;cases y with
  |byt j=>obtain⟨t',rfl⟩:=d;exact PySem.W.eq_bytes (zx I q ku)
  |_=>exact absurd (e) zM7
 |_=>cases y<;>exact absurd (e) zM7
theorem zF6 :OpR X (compareOp .NotEq) rNe:=by
 intro pins s σ H x y v u Q I f d h;obtain⟨e,q⟩:=h;cases x with
 |non=>
  cases f;cases y with
  |non=>cases d;exact PySem.EqNone.ne_none_none (zx I q (by simp))
  |bl j=>cases d;exact PySem.EqNone.ne_none_bool (zx I q (by simp))
  |int j=>obtain⟨t',rfl⟩:=d;exact PySem.EqNone.ne_none_int (zx I q (by simp))
  |str j=>obtain⟨t',rfl⟩:=d;exact PySem.EqNone.ne_none_str (zx I q (by simp))
  |_=>exact absurd (e) zM7
 |bl i=>
  cases f;cases y with
  |non=>cases d;exact PySem.EqNone.ne_bool_none (zx I q (by simp))
  |bl j=>cases d;exact ne_bool (zx I q (congrArg not cc))
  |str j=>obtain⟨t',rfl⟩:=d;exact PySem.EqMixed.ne_bool_str (zx I q (by simp))
  |_=>exact absurd (e) zM7
 |int i=>
  obtain⟨t,rfl⟩:=f;cases y with
  |non=>cases d;exact PySem.EqNone.ne_int_none (zx I q (by simp))
  |int j=>obtain⟨t',rfl⟩:=d;exact ne_int (zx I q (congrArg not lY))
  |str j=>obtain⟨t',rfl⟩:=d;exact PySem.EqMixed.ne_int_str (zx I q (by simp))
  |_=>exact absurd (e) zM7
 |str i=>
  obtain⟨t,rfl⟩:=f;cases y with
  |non=>cases d;exact PySem.EqNone.ne_str_none (zx I q (by simp))
  |bl j=>cases d;exact PySem.EqMixed.ne_str_bool (zx I q (by simp))
  |int j=>obtain⟨t',rfl⟩:=d;exact PySem.EqMixed.ne_str_int (zx I q (by simp))
  |str j=>obtain⟨t',rfl⟩:=d;exact ne_str (zx I q (congrArg not lQ))
  |_=>exact absurd (e) zM7
 |byt i=>
  obtain⟨t,rfl⟩:=f;cases y with
  |byt j=>obtain⟨t',rfl⟩:=d;exact PySem.W.ne_bytes (zx I q (congrArg not ku))
  |_=>exact absurd (e) zM7
 |_=>cases y<;>exact absurd (e) zM7
def zh1 :OpR X (compareOp .Lt) (rI0 λi j=>.bl (decide (i<j))):=aN λ_ _ _ _ _ _ _ q=>lt_int q
def pK :OpR X (compareOp .LtE) (rI0 λi j=>.bl (decide (i<=j))):=aN λ_ _ _ _ _ _ _ q=>le_int q
def cJ :OpR X (compareOp .Gt) (rI0 λi j=>.bl (decide (j<i))):=aN λ_ _ _ _ _ _ _ q=>gt_int q
def zx7 :OpR X (compareOp .GtE) (rI0 λi j=>.bl (decide (j<=i))):=aN λ_ _ _ _ _ _ _ q=>ge_int q
def cN :OpR X (compareOp .Is) (λx y H Q=>y=.non/\Q (.bl (decide (x=.non))) H):=by
 intro pins s σ H x y v u Q I d e h;obtain⟨rfl,q⟩:=h;cases e;refine is_none_gen (zx I q ?_);cases x<;>first
  |(cases d;rfl)
  |(obtain⟨t,rfl⟩:=d;rfl)
def aQ :OpR X (compareOp .IsNot) (λx y H Q=>y=.non/\Q (.bl (!decide (x=.non))) H):=by
 intro pins s σ H x y v u Q I d e h;obtain⟨rfl,q⟩:=h;cases e;refine isnot_none_gen (zx I q ?_);cases x<;>first
  |(cases d;rfl)
  |(obtain⟨t,rfl⟩:=d;rfl)
def yo (b:Am){op:CmpOp}(h:op≠.In:=by decide)(e:op≠.NotIn:=by decide):behindInMarks op b=false:=by
 have e1:(op == CmpOp.In)=false:=by cases op<;>first|rfl|exact absurd rfl h
 have d:(op == CmpOp.NotIn)=false:=by cases op<;>first|rfl|exact absurd rfl e
 cases b<;>simp[behindInMarks,e1,d]
def qt {op:CmpOp}{r:R2}(d:OpR X (compareOp op) r)(ha:PE X a ta)(hb:PE X b tb)(hm:behindInMarks op b=false):PE X (.Compare a [op] [b] pos) (tOp r ta tb):=by
 intro pins s σ H Q I h;exact wpAny_Compare1 (zp8 ha hb I h λv u s2 x y e f g i q=>d pins s2 σ e x y v u Q f g i q) hm
def zg6 (t:TE):TT:=λσ H Q=>t σ H λx H'=>∃k,x=.bl k/\Q k H'
def lM {op:CmpOp}{r:R2}(g:OpR X (compareOp op) r)(ha:PE X a ta)(hb:PE X b tb)(hm:behindInMarks op b=false):PT X (.Compare a [op] [b] pos) (zg6 (tOp r ta tb)):=by
 intro pins s σ H Q I h;refine wpAny_isTrue_Compare1 (thn (ha pins s σ H _ I h) λv s1 ⟨x,H1,l,i,t⟩=>thn (hb pins s1 σ H1 _ l t) λu s2 ⟨y,n,p,j,m⟩=>
  thn (g pins s2 σ n x y v u _ p i j m) λc s3 ⟨z,q,d,o,k,e,f⟩=>?_) hm
 subst e;cases o;exact zS6 ⟨q,d,f⟩
def eS (r f:R2)(ta tb tc:TE):TE:=λσ H Q=>ta σ H λx H1=>tb σ H1 λy h=>r x y h λz d=>∃k,z=.bl k/\
 (if k=true then tc σ d λg e=>f y g e Q else Q (.bl false) d)
theorem di {op f:CmpOp}{r m:R2}(p:OpR X (compareOp op) r)(g:OpR X (compareOp f) m)(ha:PE X a ta)(hb:PE X b tb)(L:PE X c tc)
  (hm:lastMarks [op,f] [b,c]=false:=by with_unfolding_all rfl):PE X (.Compare a [op,f] [b,c] pos) (eS r m ta tb tc):=by
 intro pins s σ H Q I h;refine Compare_chain (thn (ha pins s σ H _ I h) λv s1 ⟨x,H1,q,E,D⟩=>chain_link (thn (hb pins s1 σ H1 _ q D) λu s2 ⟨y,G,A,l,F⟩=>
  thn (p pins s2 σ G x y v u _ A E l F) λd s3 ⟨z,n,i,w,k,e,j⟩=>?_)) hm
 subst e;cases w;refine zS6 ?_;cases k with
 |false=>exact ite_ff ⟨.bl false,n,i,rfl,j⟩
 |true=>exact ite_tt (chain_last (thn (L pins s3 σ n _ i j) λB s4 ⟨K,o,J,C,t⟩=>g pins s4 σ o y K u B Q J l C t))
theorem fB {op f:CmpOp}{r m:R2}(p:OpR X (compareOp op) r)(g:OpR X (compareOp f) m)(ha:PE X a ta)(hb:PE X b tb)(S:PE X c tc)
  (hm:lastMarks [op,f] [b,c]=false:=by with_unfolding_all rfl):PT X (.Compare a [op,f] [b,c] pos) (zg6 (eS r m ta tb tc)):=by
 intro pins s σ H Q I h;refine isTrue_chain (thn (ha pins s σ H _ I h) λv s1 ⟨x,H1,t,J,G⟩=>test_link (thn (hb pins s1 σ H1 _ t G) λu s2 ⟨y,M,B,l,L⟩=>
  thn (p pins s2 σ M x y v u _ B J l L) λd s3 ⟨z,n,i,A,k,e,j⟩=>?_)) hm
 subst e;cases A;refine zS6 ?_;cases k with
 |false=>
  obtain⟨V,O,P⟩:=j;cases O;exact ite_ff ⟨n,i,P⟩
 |true=>
  refine ite_tt (test_last (thn (S pins s3 σ n _ i j) λC s4 ⟨R,o,N,E,w⟩=>thn (g pins s4 σ o y R u C _ N l E w) λd' s5 ⟨U,q,K,T,k2,D,F⟩=>?_));subst D;cases T;exact zS6 ⟨q,K,F⟩
def zw8 (K:Ae)(x:V)(H:Hp)(k:Bool):Prop:=
 match x with
 |.non=>k=false
 |.bl b=>k=b
 |.int i=>k=(i != 0)
 |.str y=>y.length<=sizeLine/\k=((y.length:Int) != 0)
 |.byt y=>y.size<=sizeLine/\k=((y.size:Int) != 0)
 |.ref p=>(∃xs,SqL K H p xs/\k=!xs.isEmpty)\/(∃xs,SqT K H p xs/\k=!xs.isEmpty)\/∃kvs,H p=some (.dK kvs)/\k=!kvs.isEmpty
 |_=>False
def nL {d:Type}{kvs:List (d×V)}{vs:List (d×Ab)}(r:KV kvs vs):(!vs.isEmpty)=!kvs.isEmpty:=by
 cases r<;>rfl
def tQ {xs:List V}{d:List Ab}(r:Vals xs d):(!d.toArray.isEmpty)=!xs.isEmpty:=by
 cases r<;>simp
def si :(sizeLine:Nat)<2 ^ 63:=by rw[zP9];decide
theorem zl0 :zJ3 X (λx H Q=>∃k,zw8 X.K x H k/\Q k H):=by
 intro pins s σ H x v Q I f h;obtain⟨k,e,q⟩:=h;have g:=zP9;cases x with
 |non=>
  cases f;have d:=e;subst d;exact truthy_none ⟨H,I,q⟩
 |bl b=>
  cases f;have d:=e;subst d;exact zS6 ⟨H,I,q⟩
 |int i=>
  obtain⟨t,rfl⟩:=f;have d:=e;subst d;exact PySem.P.truthy_int ⟨H,I,q⟩
 |str y=>
  obtain⟨t,rfl⟩:=f;obtain⟨hy,d⟩:=e;subst d;exact PySem.P.truthy_str (zA8 g hy) ⟨H,I.tok _,q⟩
 |byt y=>
  obtain⟨t,rfl⟩:=f;obtain⟨hy,d⟩:=e;subst d;exact PySem.W.truthy_bytes (zy3 g hy) ⟨H,I.tok _,q⟩
 |ref p=>
  cases f;have d:=e;rcases d with⟨xs,l,d⟩|⟨xs,l,d⟩|⟨kvs,l,d⟩
  .subst d;obtain⟨n,r,o,j⟩:=I.list l;exact wpAny_truthy_list o.isList (by simp only[zM1];exact cy g r.length j) ⟨H,I.tok _,by rw[tQ r];exact q⟩
  .subst d;obtain⟨n,r,o,j⟩:=I.tuple l;exact truthy_tuple o (by simp only[zM1];exact cy g r.length j) ⟨H,I.tok _,by rw[tQ r];exact q⟩
  .subst d;obtain⟨j,u,vs,r,m⟩:=I.hok p _ l;exact wpAny_truthy_dict u m (cy g (Paired.length r) j) ⟨H,I.tok _,by rw[nL r];exact q⟩
 |_=>exact(e).elim
def dO (ha:PE X a ta)(he:∀whole,isTrue a X.env whole=(do let v <-whole;standAt a.pos;holding [v] (truthy v))):
  PT X a (λσ H Q=>ta σ H λx H'=>∃k,zw8 X.K x H' k/\Q k H'):=by
 intro pins s σ H Q I h;exact isTrue_plain (thn (ha pins s σ H _ I h) λv s1 d=>by obtain⟨x,H1,f,e,g⟩:=d;exact zl0 pins s1 σ H1 x v Q f e g) (he _)
theorem vals1 {x:V}{us:List Ab}(r:Vals [x] us):∃u,us=[u]/\RelV x u:=by
 cases r with
 |cons d e=>cases e;exact⟨_,rfl,d⟩
theorem vals2 {x y:V}{us:List Ab}(r:Vals [x,y] us):∃u d,us=[u,d]/\RelV x u/\RelV y d:=by
 cases r with
 |cons g f=>
  cases f with
  |cons e h=>cases h;exact⟨_,_,rfl,g,e⟩
def jI (e:X.calm=true):xj X (.builtin "max") (λxs H Q=>∃i j,xs=[.int i,.int j]/\Q (.int (if j > i then j else i)) H):=by
 intro pins s σ H xs us Q I r h;obtain⟨i,j,rfl,q⟩:=h;obtain⟨u,g,rfl,⟨t,rfl⟩,⟨t',rfl⟩⟩:=vals2 r;refine max_two_ints (I.ok.hd e) λh' f k=>⟨_,H,I.kept k,?_,q⟩;by_cases d:j > i
 .rw[if_pos d,if_pos d];exact⟨_,rfl⟩
 .rw[if_neg d,if_neg d];exact⟨_,rfl⟩
end
structure lB (h:An)(x dx C:Ad)(mA:Str->Option Ab):Prop where
 obj:h.get? x=some (PySem.W.instObj C dx)
 ns:h.Ns1 dx mA
 ne:dx≠x
def iW {h:An}{dx:Ad}{mA:Str->Option Ab}(n:h.Ns1 dx mA):∃od,h.get? dx=some od/\∀name,PySem.W.lookIn name od=some (mA name):=by
 obtain⟨o,es,ep,d,hd,hk,_,hm⟩:=n;refine⟨o,d,λname=>?_⟩;have e:=hm name;unfold nsFind findBy at e;rw[<-Array.find?_toList]at e;unfold PySem.W.lookIn;rw[hd];dsimp only;split
 .rename_i y q;rw[q]at e;exact congrArg some e
 .rename_i q;rw[q]at e;have a:es.toList.any (·.refKey)=false:=by
   rw[List.any_eq_false];intro y hy;obtain⟨z,t,b⟩:=hk y (Array.mem_toList_iff.mp hy);simp[DictEntry.refKey,b]
  have c:¬es.toList.any (·.refKey)=true:=by rw[a];exact zM7
  rw[if_neg c];exact congrArg some e
def lB.look {h:An}{x dx C:Ad}{mA:Str->Option Ab}(I:lB h x dx C mA):∃od,PySem.W.InstAt h x (PySem.W.instObj C dx) C (some od)/\∀name,PySem.W.lookIn name od=some (mA name):=
 let⟨od,ho,hl⟩:=iW I.ns
 ⟨od,⟨I.obj,rfl,rfl,ho⟩,hl⟩
section
variable {prog:Ah}{w:Ak}{A:Al}{E:Ab->Ac->Prop}{s:Ac}{K:Ae}{x dx C f:Ad}{mA:Str->Option Ab}{name:Str}{v:Ab}
def get_map {expr:Bool}{Q:Ab->Ac->Prop}(X:K.In s.heap)(I:lB s.heap x dx C mA)(hg:PySem.W.plainGet K C name=true)(b:PySem.W.hasDictIn K C=true)
  (ha:PySem.W.findIn K (.ref C) name=some none) (c:mA name=some v) (a:PySem.W.handedIn v=true) (h:Q v {s with toks:=s.toks+1}):
  Aj (Ag prog w) A (getAttr (.ref x) name expr) Q E s:=by
 obtain⟨od,J,d⟩:=I.look;exact PySem.W.get_value X J (z63 hg).1 (PySem.W.findObj_own b ha rfl (by rw[d,c])) a h
def gF {c:Sem Bool}{Q:Ab×List Ab->Ac->Prop}(X:K.In s.heap)(I:lB s.heap x dx C mA)(hg:PySem.W.plainGet K C name=true)
  (hf:PySem.W.findIn K (.ref C) name=some (some (.ref f))) (b:PySem.W.isFn K (.ref f)=true) (a:mA name=none) (h:Q (.ref f,[.ref x]) s):
  Aj (Ag prog w) A (getMethod (.ref x) name c) Q E s:=by
 obtain⟨od,J,d⟩:=I.look;exact PySem.W.method_fn X J (z63 hg).1 (z63 hg).2 hf (zV4.mp b) (by show(PySem.W.lookIn name od).map (·.isSome)=some false;rw[d,a];rfl) h
def aE {ns:List Str}{Q:Unit->Ac->Prop}(X:K.In s.heap)(I:lB s.heap x dx C mA)
  (k:PySem.W.findIn K (.ref C) "__setattr__"=some (some (.builtin "object.__setattr__"))) (m:PySem.W.plainOver K C=true) (p:PySem.W.takerIn K C name=some none) (n:PySem.W.hasDictIn K C=true)
  (hw:PySem.Within mA ns) (g:ns.length<=sizeLine)
  (h:∀h',lB h' x dx C (λy=>if y=name then some v else mA y)->Heap.SameBut dx s.heap h'->Q () {s with heap:=h',toks:=s.toks+2}):
  Aj (Ag prog w) A (setAttr (.ref x) name v) Q E s:=by
 obtain⟨od,J,r⟩:=I.look;refine PySem.W.set_plain X J k (PySem.W.osa_open X J m p λb=>?_);obtain⟨cd,q,j⟩:=PySem.W.any_some n;refine zK0 (zK2 (zK0 (zK0 (wpAny_loadPart I.obj (zK0 (PySem.W.Looks.here (PySem.W.looks_clsIn X q) ?_))))));rw[j];refine zK2 (zK0 (zK2 (zK0 (wpAny_nsSet1 I.ns λh' a c=>?_))));obtain⟨oD,l,o,e,i,d⟩:=a.count (PySem.Within.cons name v hw);refine zK0 (wpAny_lookBehind e (by rw[i];exact pastItsLine_dict (zL8 d (by rw[zN0];exact Nat.add_le_add g (zK6 _)))) ?_);exact zK2 (h _ ⟨(c.2 _ (zP2 I.ne)).trans I.obj,a,I.ne⟩ c)
def cM {R:Result->Ac->Prop}{vs:List Ab}{kw:List (Str×Ab)}(X:K.In s.heap)(hm:PySem.W.makesIn K C=true)
  (hi:PySem.W.findIn K (.ref C) "__init__"=some (some (.ref f))) (hf:PySem.W.typeIn K (.ref f)=some (.type "function"))
  (h:codeAny (Ag prog w) (A.under (.builtin "type.__call__" ⟨.ref C::vs,kw⟩)) (.call (.ref f) ⟨.ref (s.heap.objs.size+1)::vs,kw⟩) (PySem.W.InitBack (s.heap.objs.size+1) R)
   {s with heap:=(s.heap.push PySem.W.emptyDict).push (PySem.W.instObj C s.heap.objs.size)}):
  codeAny (Ag prog w) A (.call (.ref C) ⟨vs,kw⟩) R s:=by
 obtain⟨a,g,d,t,os⟩:=s;exact PySem.W.make_core (PySem.W.makes_of X hm) (PySem.W.looks_findIn X hi) (λself=>PySem.W.bind_fn X self hf) (.inl rfl) h
end
def xF (f:Str)(v:V):List (Str×V)->List (Str×V)
 |[]=>[(f,v)]
 |(g,x)::r=>if g=f then(g,v)::r else(g,x)::xF f v r
theorem uC (f g:Str)(v:V):∀fs:List (Str×V),(xF f v fs).lookup g=if g=f then some v else fs.lookup g
 |[]=>by
  show List.lookup g [(f,v)]=_;by_cases h:g=f
  .have hb:(g == f)=true:=zV4.mpr h;simp only[List.lookup,hb,if_pos h]
  .have hb:=zZ5.mpr h;simp only[List.lookup,hb,if_neg h]
 |(k,x)::r=>by
  rw[show xF f v ((k,x)::r)=(if k=f then(k,v)::r else(k,x)::xF f v r)from rfl];by_cases hk:k=f
  .rw[if_pos hk];by_cases h:g=k
   .have hb:=zV4.mpr h;simp only[List.lookup,hb,if_pos (h.trans hk)]
   .have hb:=zZ5.mpr h;simp only[List.lookup,hb,if_neg (λe:g=f=>h (e.trans hk.symm))]
  .rw[if_neg hk];by_cases h:g=k
   .have hb:=zV4.mpr h;simp only[List.lookup,hb,if_neg (λe:g=f=>hk (h.symm.trans e))]
   .have hb:=zZ5.mpr h;simp only[List.lookup,hb];exact(uC f g v r)
theorem vW (f:Str)(v:V):∀fs:List (Str×V),f∈(xF f v fs).map (·.1)/\∀g,g∈fs.map (·.1)->g∈(xF f v fs).map (·.1)
 |[]=>⟨by simp[xF],λg h=>by simp at h⟩
 |(k,x)::r=>by
  obtain⟨i1,i2⟩:=vW f v r;rw[show xF f v ((k,x)::r)=(if k=f then(k,v)::r else(k,x)::xF f v r)from rfl];by_cases hk:k=f
  .rw[if_pos hk];subst hk;exact⟨by simp,λg h=>by simpa using h⟩
  .rw[if_neg hk];refine⟨?_,λg h=>?_⟩
   .rw[zP4];exact zL1 _ i1
   .rw[zP4]at h ⊢;rcases zK8.mp h with e|e
    .exact zK8.mpr (.inl e)
    .exact zL1 _ (i2 g e)
theorem uF (f:Str)(v:V):∀fs:List (Str×V),(xF f v fs).length<=fs.length+1
 |[]=>by simp[xF]
 |(k,x)::r=>by
  have a:=uF f v r;rw[show xF f v ((k,x)::r)=(if k=f then(k,v)::r else(k,x)::xF f v r)from rfl];by_cases hk:k=f
  .rw[if_pos hk,zN0,zN0];exact zN3 _ _
  .rw[if_neg hk,zN0,zN0];exact Nat.add_le_add a (zK6 _)
theorem vP.some_of {v:V}{o:Option Ab}(r:vP (some v) o):∃u,o=some u/\RelV v u:=by
 cases o with
 |none=>exact(r).elim
 |some u=>exact⟨u,rfl,r⟩
theorem vP.none_of {o:Option Ab}(r:vP none o):o=none:=by
 cases o with
 |none=>rfl
 |some u=>exact(r).elim
theorem jz {v:V}{u:Ab}(r:RelV v u):PySem.W.handedIn u=true:=by
 cases v with
 |non=>cases(r);rfl
 |bl b=>cases(r);rfl
 |int i=>obtain⟨t,e⟩:=(r);cases e;rfl
 |str x=>obtain⟨t,e⟩:=(r);cases e;rfl
 |byt b=>obtain⟨t,e⟩:=(r);cases e;rfl
 |flt b=>obtain⟨t,e⟩:=(r);cases e;rfl
 |ref a=>cases(r);rfl
 |ty n=>cases(r);rfl
section
variable {P:Ah}{w:Ak}{H H':Hp}{h h':An}{a C dx:Ad}{fs fs':List (Str×V)}
def tm (hok:HOk P w H h)(e:H a=some (.ins C dx fs)):∃mA,lB h a dx C mA/\(∀f,vP (fs.lookup f) (mA f))/\PySem.Within mA (fs.map (·.1))/\fs.length<=1000/\H dx=some (.own a):=by
 obtain⟨d,z,ne,ob,mA,n,r,q⟩:=(hok a _ e);exact⟨mA,⟨ob,n,ne⟩,r,q,z,d⟩
end
structure Cls (K:Ae)(C:Ad):Prop where
 pg:PySem.W.plainGet K C Str.empty=true
 hd:PySem.W.hasDictIn K C=true
 po:PySem.W.plainOver K C=true
 sa:PySem.W.findIn K (.ref C) "__setattr__"=some (some (.builtin "object.__setattr__"))
def Cls.get {K:Ae}{C:Ad}(c:Cls K C)(f:Str):PySem.W.plainGet K C f=true:=c.pg
def yg (K:Ae)(C:Ad)(f:Str):Prop:=PySem.W.findIn K (.ref C) f=some none
def yg.taker {K:Ae}{C:Ad}{f:Str}(n:yg K C f):PySem.W.takerIn K C f=some none:=by
 unfold PySem.W.takerIn;rw[show PySem.W.findIn K (.ref C) f=some none from n];rfl
structure Meth (K:Ae)(C:Ad)(m:Str)(f:Ad):Prop where
 at_:PySem.W.findIn K (.ref C) m=some (some (.ref f))
 fn:PySem.W.isFn K (.ref f)=true
 kp:PySem.W.keepIn K (.ref f)=true
section
variable {X:Cx}{pins:List (Ad×Obj)}{σ:St}{H:Hp}{s:Ac}{a C dx:Ad}{fs:List (Str×V)}{f:Str}{v:V}{A:Al}{E:Ab->Ac->Prop}
def nB {b:Bool}{Q:Ab->Ac->Prop}(I:Inv X pins σ H s)(e:H a=some (.ins C dx fs))(c:Cls X.K C)(n:yg X.K C f)(l:fs.lookup f=some v)
  (h:∀u s',Inv X pins σ H s'->RelV v u->Q u s'):Aj (Ag X.prog X.w) A (getAttr (.ref a) f b) Q E s:=by
 obtain⟨mA,O,r,_,_,_⟩:=tm I.hok e;obtain⟨u,g,d⟩:=vP.some_of (by rw[<-l];exact r f);exact get_map I.kIn O (c.get f) c.hd n g (jz d) (h u _ (I.tok _) d)
def vd {m:Str}{g:Ad}{b:Sem Bool}{Q:Ab×List Ab->Ac->Prop}(I:Inv X pins σ H s)(e:H a=some (.ins C dx fs))(c:Cls X.K C)(k:Meth X.K C m g)(l:fs.lookup m=none)
  (h:Q (.ref g,[.ref a]) s):Aj (Ag X.prog X.w) A (getMethod (.ref a) m b) Q E s:=by
 obtain⟨mA,O,r,_,_,_⟩:=tm I.hok e;have hn:=vP.none_of (by rw[<-l];exact r m);exact gF I.kIn O (c.get m) k.at_ k.fn hn h
def mG {y:V}{u:Ab}{Q:Unit->Ac->Prop}(I:Inv X pins σ H s)(e:H a=some (.ins C dx fs))(c:Cls X.K C)(n:yg X.K C f)(l:fs.length<1000)(m:RelV y u)
  (h:∀s',Inv X pins σ (upd H a (.ins C dx (xF f y fs))) s'->Q () s'):Aj (Ag X.prog X.w) A (setAttr (.ref a) f u) Q E s:=by
 obtain⟨mA,O,r,j,_,i⟩:=tm I.hok e;have k:(fs.map (·.1)).length<=sizeLine:=by rw[zK3,zP9];lia
 refine aE I.kIn O c.sa c.po n.taker c.hd j k λh' d sb=>h _ ?_;have hd:∃o,h'.get? dx=some o:=let⟨o,_,_,e',_⟩:=d.ns;⟨o,e'⟩;refine I.write (by rw[e];exact True.intro) (.inr i) (λb q hb z=>(sb.2 b hb).trans z) hd ?_;refine⟨by rw[zj O.ne];exact i,?_,O.ne,d.obj,_,d.ns,λg=>?_,λg hg=>?_⟩
 .have:=uF f y fs;exact zL8 this l
 .rw[uC];by_cases q:g=f
  .rw[if_pos q,if_pos q];exact m
  .rw[if_neg q,if_neg q];exact r g
 .by_cases q:g=f
  .rw[q];exact(vW f y fs).1
  .refine(vW f y fs).2 g (j g λz=>hg ?_);show(if g=f then some u else mA g)=none;rw[if_neg q];exact z
def Inv.made (I:Inv X pins σ H s):Inv X pins σ (upd (upd H s.heap.objs.size (.own (s.heap.objs.size+1))) (s.heap.objs.size+1) (.ins C s.heap.objs.size []))
  {s with heap:=(s.heap.push PySem.W.emptyDict).push (PySem.W.instObj C s.heap.objs.size)}:=by
 have e1:(s.heap.push PySem.W.emptyDict).get? s.heap.objs.size=some PySem.W.emptyDict:=zL2 s.heap rfl;have d:((s.heap.push PySem.W.emptyDict).push (PySem.W.instObj C s.heap.objs.size)).get? (s.heap.objs.size+1)=some (PySem.W.instObj C s.heap.objs.size):=by
  have:=zL2 (s.heap.push PySem.W.emptyDict) (o:=PySem.W.instObj C s.heap.objs.size) rfl
  rwa [zR9]at this
 have c:(s.heap.push PySem.W.emptyDict).Ns s.heap.objs.size (λ_=>none):=⟨PySem.W.emptyDict,#[],_,e1,rfl,(λe he=>absurd he (by simp)),λ_=>rfl⟩;refine(I.laid (o:=.own (s.heap.objs.size+1)) (t':=s.toks) (λb u q=>zK1 _ q) (zK6 _) ⟨_,e1⟩).laid (λb u q=>zK1 _ q) (zM9 (zR9 _ _)) ?_;have ne:s.heap.objs.size≠s.heap.objs.size+1:=zL9 (zQ7 _);refine⟨by rw[zj ne,zl],zL6 _,ne,d,λ_=>none,(Heap.Ns1.of_empty c).at λo q=>zK1 _ q,λ_=>True.intro,λy hy=>absurd rfl hy⟩
def aV {prog:Ah}{w:Ak}{env:Ar}{e:Am}{f:Str}{pos:Pos}{s:Ac}{Q:Ab->Ac->Prop}(hb:attributeBase e f env (eval e env)=eval e env)
  (h:Aj (Ag prog w) A (eval e env) (λo b=>Aj (Ag prog w) A (getAttr o f true) Q E b) E s):Aj (Ag prog w) A (eval (.Attribute e f pos) env) Q E s:=
 Attribute_any_ h (by rw[arm_eval_Attribute,hb])
end
def zJ8 (K:Ae)(b:TE)(f:Str):TE:=λσ H Q=>b σ H λx H1=>∃a C dx fs v,x=.ref a/\H1 a=some (.ins C dx fs)/\Cls K C/\yg K C f/\fs.lookup f=some v/\Q v H1
def zH5 (K:Ae)(c d:TE)(f:Str):TS:=λD σ H=>d σ H λy H1=>c σ H1 λx b=>∃a C dx fs,x=.ref a/\b a=some (.ins C dx fs)/\Cls K C/\yg K C f/\fs.length<1000/\
 D.nx σ (upd b a (.ins C dx (xF f y fs)))
section
variable {X:Cx}{o e value:Am}{f:Str}{pos pos' tpos:Pos}{ta tv:TE}
def zv0 (he:PE X e ta)(hb:attributeBase e f X.env (eval e X.env)=eval e X.env):PE X (.Attribute e f pos) (zJ8 X.K ta f):=by
 intro pins s σ H Q I h;refine aV hb (thn (he pins s σ H _ I h) λu s1 b=>?_);obtain⟨x,H1,d,i,a,C,dx,fs,v,ex,g,c,n,l,q⟩:=b;subst ex;obtain rfl:u=Value.ref a:=i;exact nB d g c n l λm s2 k j=>⟨v,H1,k,j,q⟩
def qS (ha:PE X o ta)(b:PE X value tv)(j:swapsWith value (some (.Attribute o f pos')) pos.line X.env=pure false):PS X (.Assign [.Attribute o f pos'] value pos) (zH5 X.K ta tv f):=by
 intro pins s σ H D I h;refine plainObj_wpAny_Assign_Attribute (thn (b pins s σ H _ I h) λu s1 ⟨y,H1,g,t,q⟩=>thn (ha pins s1 σ H1 _ g q) λp s2 ⟨x,v,r,m,a,C,dx,fs,ex,k,c,n,l,i⟩=>?_) j;subst ex;obtain rfl:p=Value.ref a:=m;exact mG r k c n l t λs3 d=>⟨σ,_,d,i⟩
def zf8 {n:Sem Bool}{m:Str}{apos:Pos}{args:List Am}{pins:List (Ad×Obj)}{s:Ac}{σ:St}{H:Hp}{Q:Ab->Ac->Prop}{i:TE}(he:PE X e i)(I:Inv X pins σ H s)
  (h:i σ H λx H1=>∃a C dx fs g,x=.ref a/\H1 a=some (.ins C dx fs)/\Cls X.K C/\Meth X.K C m g/\fs.lookup m=none/\
   ∀s1,Inv X pins σ H1 s1->Aj (Ag X.prog X.w) X.A (callWith pos (.ref g) [.ref a] (backTo pos (Af args X.env)) (backToKw pos (keywordEach [] X.env))) Q X.xe s1)
  (p:eval (.Call (.Attribute e m apos) args [] pos) X.env=(do
   let ov <-eval e X.env
   standAt apos.atName
   let(f,first) <-holding [ov] (getMethod ov m n)
   callWith pos f first (backTo pos (Af args X.env)) (backToKw pos (keywordEach [] X.env)))):
  Aj (Ag X.prog X.w) X.A (eval (.Call (.Attribute e m apos) args [] pos) X.env) Q X.xe s:=by
 refine z54 (thn (he pins s σ H _ I h) λu s1 b=>?_) p;obtain⟨x,H1,d,r,a,C,dx,fs,g,ex,j,c,k,l,q⟩:=b;subst ex;obtain rfl:u=Value.ref a:=r;exact vd d j c k l (q s1 d)
end
section
variable {X:Cx}{pins:List (Ad×Obj)}{σ:St}{H:Hp}{s:Ac}{A:Al}{E:Ab->Ac->Prop}{Q:Ab->Ac->Prop}{c:Ab}{b:Bool}
inductive vm (K:Ae)(H:Hp):V->Ab->Prop where
 |non:vm K H .non (.type "NoneType")
 |bl (x:Bool):vm K H (.bl x) (.type "bool")
 |int (i:Int):vm K H (.int i) (.type "int")
 |str (x:Str):vm K H (.str x) (.type "str")
 |flt (x:UInt64):vm K H (.flt x) (.type "float")
 |lst {a:Ad}{xs:List V} (e:H a=some (.lst xs)):vm K H (.ref a) (.type "list")
 |frz {a:Ad}{o:Obj}{xs:List V} (e:H a=some (.frz o (.lst xs))):vm K H (.ref a) (.type "list")
 |tup {a:Ad}{xs:List V} (e:H a=some (.tup xs)):vm K H (.ref a) (.type "tuple")
 |dK {a:Ad}{kvs:List (Key×V)} (e:H a=some (.dK kvs)):vm K H (.ref a) (.type "dict")
 |dT {a:Ad}{kvs:List (List Key×V)} (e:H a=some (.dT kvs)):vm K H (.ref a) (.type "dict")
 |ins {a C dx:Ad}{fs:List (Str×V)} (e:H a=some (.ins C dx fs)) (cl:Cls K C) (ha:PySem.W.findIn K (.ref C) "__class__"=some (some (.builtin "object.__class__")))
   (hn:PySem.W.specialIn K (.builtin "object.__class__") "__get__"=some (some (.builtin "getset_descriptor.__get__"))) (htk:PySem.W.takesIn K (.builtin "object.__class__")=some true)
   (hm:PySem.W.mroIn K C (.type "object")=some true):vm K H (.ref a) (.ref C)
theorem jr {x:V}{u t:Ab}(I:Inv X pins σ H s)(d:RelV x u)(ty:vm X.K H x t)(e:PySem.W.kitOne X.K t c=some b)(h:∀j,Q (.bool b) {s with toks:=j}):
  Aj (Ag X.prog X.w) A (call (.builtin "isinstance") [u,c]) Q E s:=by
 cases ty with
 |non=>cases(d);exact zR2 PySem.W.kitx_none I.kIn True.intro e (λz=>nomatch z) h
 |bl y=>cases(d);exact zR2 PySem.W.kitx_bool I.kIn True.intro e (λz=>nomatch z) h
 |int i=>obtain⟨t,q⟩:=(d);cases q;exact zR2 PySem.W.kitx_int I.kIn True.intro e (λz=>nomatch z) h
 |str y=>obtain⟨t,q⟩:=(d);cases q;exact zR2 PySem.W.kitx_str I.kIn True.intro e (λz=>nomatch z) h
 |flt y=>obtain⟨t,q⟩:=(d);cases q;exact zR2 PySem.W.kitx_float I.kIn True.intro e (λz=>nomatch z) h
 |@lst a xs ea=>
  cases(d);obtain⟨_,_,n,_,f⟩:=(I.hok a _ ea);exact zR2 PySem.W.kitx_list I.kIn ⟨_,f,rfl⟩ e (λz=>nomatch z) h
 |@frz a ob xs ea=>
  cases(d);obtain⟨_,_,_,n,_,f⟩:=(I.hok a _ ea);exact zR2 PySem.W.kitx_list I.kIn ⟨_,f,rfl⟩ e (λz=>nomatch z) h
 |@tup a xs ea=>
  cases(d);obtain⟨_,_,_,p⟩:=(I.hok a _ ea);obtain⟨o,f,g,_⟩:=p;exact zR2 PySem.W.kitx_tuple I.kIn ⟨o,f,g⟩ e (λz=>nomatch z) h
 |@dK a kvs ea=>
  cases(d);obtain⟨_,_,vs,_,p⟩:=(I.hok a _ ea);obtain⟨o,es,ep,f,g,_⟩:=p;exact zR2 PySem.W.kitx_dict I.kIn ⟨o,f,g.1⟩ e (λz=>nomatch z) h
 |@dT a kvs ea=>
  cases(d);obtain⟨_,_,xs,_,o,es,ep,f,g,_⟩:=(I.hok a _ ea);exact zR2 PySem.W.kitx_dict I.kIn ⟨o,f,g.1⟩ e (λz=>nomatch z) h
 |@ins a C dx fs ea cl ha hn htk hm=>
  cases(d);obtain⟨mA,O,_⟩:=tm I.hok ea;obtain⟨od,J,_⟩:=O.look;exact zR2 (PySem.W.kitx_own (cl.get _) cl.hd ha hn htk hm) I.kIn J e (λz=>nomatch z) h
end
structure zB (k:Nat)(A:Al):Prop where
 hd:A.handled=none
 dp:A.depth+3*k+5<recursionLimit
 un:A.units+16*k+200<cLine
 gd:A.guards=some []
def zB.mono {j k:Nat}{A:Al}(r:zB k A)(h:j<=k):zB j A:=⟨r.hd,by have:=r.dp;lia,by have:=r.un;lia,r.gd⟩
theorem zB.deeper {k:Nat}{A:Al}(r:zB (k+1) A)(env:Ar):zB k (A.deeper env):=
 ⟨r.hd,by have:=r.dp;show A.depth+1+3*k+5<_;exact zd6 this,by have:=r.un;show A.units+3+16*k+200<_;lia,r.gd⟩
theorem zB.in1 {k:Nat}{A:Al}(r:zB (k+1) A):zB k A.in1:=
 ⟨r.hd,by have:=r.dp;show A.depth+3*k+5<_;lia,by have:=r.un;show A.units+1+16*k+200<_;exact ze5 this,r.gd⟩
def mH {A:Al}{C:Ad}{us:List Ab}{kw:List (Str×Ab)}:(A.under (.builtin "type.__call__" ⟨.ref C::us,kw⟩)).depth=A.depth+1:=by
 first|rfl|simp[Around.under,Code.weight,Code.isCreation,Code.isGuard,Code.isCaller,Code.frames,Code.isFrame,guardIds]
def nW {A:Al}{C:Ad}{us:List Ab}{kw:List (Str×Ab)}:(A.under (.builtin "type.__call__" ⟨.ref C::us,kw⟩)).units=A.units+1:=by
 first|rfl|simp[Around.under,Code.cUnits,Code.frames,Code.isFrame]
def pM {A:Al}{C:Ad}{us:List Ab}{kw:List (Str×Ab)}:(A.under (.builtin "type.__call__" ⟨.ref C::us,kw⟩)).guards=A.guards:=by
 first|rfl|simp[Around.under,Code.guards,Code.isGuard,guardIds,pushGuards]
def zB.make {k:Nat}{A:Al}(r:zB (k+1) A)(C:Ad)(us:List Ab)(kw:List (Str×Ab)):zB k (A.under (.builtin "type.__call__" ⟨.ref C::us,kw⟩)):=
 ⟨r.hd,by have:=r.dp;rw[mH];exact zd6 this,by have:=r.un;rw[nW];exact ze5 this,(pM).trans r.gd⟩
theorem zB.depth {k:Nat}{A:Al}(r:zB k A):A.depth<recursionLimit:=by have:=r.dp;exact zM6 (zN3 _ _) (zM6 (zN3 _ _) this)
theorem zB.units {k:Nat}{A:Al}(r:zB k A):A.units+64<cLine:=by have:=r.un;lia
def zB9 :TA:=λ_ H Q=>Q [] H
def zy0 (a:TE)(tr:TA):TA:=λσ H Q=>a σ H λx H1=>tr σ H1 λxs b=>Q (x::xs) b
section
variable {X:Cx}{e:Am}{es:List Am}{te:TE}{t:TA}{pos:Pos}
def zQ :PA X [] zB9:=λ_ _ _ _ H Q I h=>Calls.spliced_nil ⟨[],H,I,.nil,h⟩
def zw (ha:PE X e te)(hr:PA X es t)(j:Af (e::es) X.env=(false,eval e X.env)::Af es X.env:=by rfl):PA X (e::es) (zy0 te t):=by
 intro pos pins s σ H Q I h;rw[j];refine Calls.spliced_cons (thn (ha pins s σ H _ I h) λu s1 a=>?_);obtain⟨x,H1,d,c,l⟩:=a;exact thn (hr pos pins s1 σ H1 _ d l) λus s2 b=>by obtain⟨xs,i,k,f,g⟩:=b;exact⟨x::xs,i,k,.cons c f,g⟩
def zG3 (t:TA):TE:=λσ H Q=>t σ H λxs H1=>xs.length<=sizeLine/\∀p,H1 p=none->Q (.ref p) (upd H1 p (.tup xs))
def zG8 (t:TA):TE:=λσ H Q=>t σ H λxs H1=>xs.length<=sizeLine/\∀p,H1 p=none->Q (.ref p) (upd H1 p (.lst xs))
def gj {x1}(h:PA X es t):PE X (.Tuple es x1 pos) (zG3 t):=by
 intro pins s σ H Q I hq;refine wpAny_Tuple_spliced (thn (h pos pins s σ H _ I hq) λus s1 ⟨xs,H1,a,r,z,q⟩=>⟨by rw[<-r.length];exact z,?_⟩);refine⟨.ref s1.heap.objs.size,upd H1 s1.heap.objs.size (.tup xs),a.laid (λb u e=>zK1 _ e) (zK6 _) ?_,rfl,q _ (a.hok.fresh (zK6 _))⟩;exact⟨z,us,r,⟨_,zL2 _ rfl,rfl,_,rfl⟩⟩
def zm6 (h:PA X es t):PE X (.List es pos) (zG8 t):=by
 intro pins s σ H Q I hq;refine wpAny_List_spliced (thn (h pos pins s σ H _ I hq) λus s1 ⟨xs,H1,a,r,z,q⟩=>⟨by rw[<-r.length];exact z,?_⟩);refine⟨.ref s1.heap.objs.size,upd H1 s1.heap.objs.size (.lst xs),a.laid (λb u e=>zK1 _ e) (zK6 _) ?_,rfl,q _ (a.hok.fresh (zK6 _))⟩;exact⟨z,us,0,r,zL2 _ rfl⟩
end
abbrev Sp :=List V->Hp->VK->XK->Prop
abbrev CXT :=List Ar->Hp->Ac->XK->Ab->Ac->Prop
structure vR (P:Ah)(w:Ak)(K:Ae)(mg:Str->Option Ab)(base:An)(A:Al)(outer:List Ar)(s:Ac)(H:Hp):Prop where
 frames:A.frames=some outer
 mod:Mod K mg base
 bs:∀b o,base.get? b=some o->s.heap.get? b=some o/\H b=none
 bsz:base.objs.size<=s.heap.objs.size
 funs:s.heap.FunFrames base outer
 frf:∀b∈frs outer,H b=none
 hok:HOk P w H s.heap
 bare:AllBare s.gens
def CE (outer:List Ar)(P:Ah)(w:Ak)(H:Hp)(s:Ac)(Q:VK)(u:Ab)(s':Ac):Prop:=
 ∃v H',s'.os=s.os/\AllBare s'.gens/\Un (frs outer) [] H H' s.heap s'.heap/\HOk P w H' s'.heap/\RelV v u/\Q v H'
def CR (CX:CXT)(outer:List Ar)(P:Ah)(w:Ak)(H:Hp)(s:Ac)(Q:VK)(E:XK)(r:Result)(s':Ac):Prop:=
 match r with
 |.ok (.ret u)=>CE outer P w H s Q u s'
 |.ok _=>False
 |.error e=>CX outer H s E e s'
structure zS (P:Ah)(w:Ak)(K:Ae)(mg:Str->Option Ab)(base:An)(CX:CXT)(k:Nat)(f:Ad)(fd:Ao)(ps:List Str)(sp:Sp):Prop where
 len:∀vs H Q E,sp vs H Q E->vs.length=ps.length
 run:∀(A:Al) (outer:List Ar) (s:Ac) (H:Hp) (args:Args) (us:List Ab) (vs:List V) (Q:VK) (E:XK),zB k A->vR P w K mg base A outer s H->BindsTo s fd args (ps.zip us)->Vals vs us->sp vs H Q E->
  codeAny (Ag P w) A (.call (.ref f) args) (CR CX outer P w H s Q E) s
def zS.imp {P:Ah}{w:Ak}{K:Ae}{mg:Str->Option Ab}{base:An}{CX:CXT}{k:Nat}{f:Ad}{fd:Ao}{ps:List Str}{sp a:Sp}(F:zS P w K mg base CX k f fd ps sp)
  (h:∀vs H Q E,a vs H Q E->sp vs H Q E):zS P w K mg base CX k f fd ps a:=
 ⟨λvs H Q E q=>F.len vs H Q E (h _ _ _ _ q),λA outer s H args us vs Q E hr he hb b c=>F.run A outer s H args us vs Q E hr he hb b (h _ _ _ _ c)⟩
def vR.make {P:Ah}{w:Ak}{K:Ae}{mg:Str->Option Ab}{base:An}{A:Al}{outer:List Ar}{s:Ac}{H:Hp}(e:vR P w K mg base A outer s H)(C:Ad)(us:List Ab)(kw:List (Str×Ab)):
  vR P w K mg base (A.under (.builtin "type.__call__" ⟨.ref C::us,kw⟩)) outer s H:=⟨by first|exact e.frames|(simpa[Around.under,Code.envs,Code.isFrame,pushEnvs]using e.frames),e.mod,e.bs,e.bsz,e.funs,e.frf,e.hok,e.bare⟩
theorem vR.in1 {P:Ah}{w:Ak}{K:Ae}{mg:Str->Option Ab}{base:An}{A:Al}{outer:List Ar}{s:Ac}{H:Hp}(e:vR P w K mg base A outer s H):
  vR P w K mg base A.in1 outer s H:=⟨e.frames,e.mod,e.bs,e.bsz,e.funs,e.frf,e.hok,e.bare⟩
section
variable {X:Cx}{pins:List (Ad×Obj)}{σ:St}{H:Hp}{s s':Ac}
def Inv.env0 (I:Inv X pins σ H s):vR X.prog X.w X.K X.mg X.base X.A X.stack s H:=
 ⟨I.ok.frames,I.ok.mod,I.bs,zL8 I.ok.bsz I.sz,I.stack,I.stkFree,I.hok,I.bare⟩
def Inv.after {Q:VK}{u:Ab}(I:Inv X pins σ H s)(h:CE X.stack X.prog X.w H s Q u s'):EP X pins σ Q u s':=by
 obtain⟨v,H',os,bare,un,hok,r,q⟩:=h;obtain⟨c,g,d,t,a⟩:=s';obtain rfl:a=s.os:=os;exact⟨v,H',I.call un hok bare (λb z=>absurd z (by simp)),r,q⟩
end
def zw9 (sp:Sp)(dvs:List V)(E:XK)(t:TA):TE:=λσ H Q=>t σ H λvs H1=>sp (vs++dvs) H1 Q E
def zh9 (C:Ad)(m:Str)(sp:Sp)(dvs:List V)(E:XK)(b:TE)(t:TA):TE:=λσ H Q=>b σ H λx H1=>∃a dx fs,x=.ref a/\H1 a=some (.ins C dx fs)/\fs.lookup m=none/\
 t σ H1 λvs c=>sp (x::(vs++dvs)) c Q E
def zy5 (C:Ad)(sp:Sp)(dvs:List V)(E:XK)(t:TA):TE:=λσ H Q=>t σ H λvs H1=>∀x dx,H1 x=none->H1 dx=none->dx≠x->
 sp (.ref x::(vs++dvs)) (upd (upd H1 dx (.own x)) x (.ins C dx [])) (λv a=>v=.non/\Q (.ref x) a) E
def Binds (K:Ae)(fd:Ao)(ps:List Str)(ds:List Ab):Prop:=
 ∀(s:Ac) (us:List Ab),K.In s.heap->(us++ds).length=ps.length->BindsTo s fd ⟨us,[]⟩ (ps.zip (us++ds))
def Binds.all {K:Ae}{fd:Ao}{ps:List Str}(h:∀us:List Ab,us.length=ps.length->bindArgs fd ⟨us,[]⟩=pure (ps.zip us)):Binds K fd ps []:=λs us _ a=>by
 rw[zP6]at a ⊢;exact .of_eq (h us a)
def Passes (CX:CXT)(X:Cx)(E:XK):Prop:=∀(pins:List (Ad×Obj)) (σ:St) (H:Hp) (s:Ac) (e:Ab) (s':Ac),Inv X pins σ H s->CX X.stack H s E e s'->X.xe e s'
section
variable {X:Cx}{CX:CXT}{k:Nat}{f C:Ad}{fd:Ao}{ps:List Str}{sp:Sp}{dvs:List V}{ds:List Ab}{E:XK}{x m:Str}{p pos apos:Pos}{e o:Am}{es:List Am}{ta:TE}{t:TA}
theorem qY {pins:List (Ad×Obj)}{σ:St}{H:Hp}{s:Ac}{Q:VK}{us:List Ab}{vs:List V}(F:zS X.prog X.w X.K X.mg X.base CX k f fd ps sp)(hr:zB k X.A)(hb:Binds X.K fd ps ds)(hd:Vals dvs ds)(b:Passes CX X E)
  (I:Inv X pins σ H s) (r:Vals vs us) (h:sp (vs++dvs) H Q E):Aj (Ag X.prog X.w) X.A (call (.ref f) us) (EP X pins σ Q) X.xe s:=by
 have a:=r.append hd;have c:(us++ds).length=ps.length:=by rw[<-a.length];exact F.len _ _ _ _ h
 refine zX4 (zX6 (F.run X.A X.stack s H ⟨us,[]⟩ (us++ds) (vs++dvs) Q E hr I.env0 (hb s us I.kIn c) a h) λr s' hq=>?_);cases r with
 |error e=>exact b pins σ H s e s' I hq
 |ok d=>
  cases d with
  |ret u=>exact I.after hq
  |next=>exact False.elim hq
  |brk=>exact False.elim hq
  |cont=>exact False.elim hq
def kP (F:zS X.prog X.w X.K X.mg X.base CX k f fd ps sp)(hr:zB k X.A)(hg:Gl X x)(hm:X.mg x=some (.ref f))(hk:PySem.W.keepIn X.K (.ref f)=true)(hb:Binds X.K fd ps ds)(hd:Vals dvs ds)(d:Passes CX X E)
  (ha:PA X (e::es) t) (b:(x == ("__debug__":Str))=false:=by decide) (he:Af (e::es) X.env=(false,eval e X.env)::Af es X.env:=by rfl) (hpl:(backTo pos (Af es X.env)).any (·.1)=false:=by rfl):
  PE X (.Call (.Name x p) (e::es) [] pos) (zw9 sp dvs E t):=by
 intro pins s σ H Q I h;refine zS1 (yV I hg hm (zV1 I.ok.mod.kin hk (thn (ha pos pins s σ H _ I h) λus s1 a=>?_) he hpl) b);obtain⟨vs,H1,c,r,q⟩:=a;exact⟨c.kIn,qY F hr hb hd d c r q⟩
def aw {y:Sem Bool}(he:PE X o ta)(c:Cls X.K C)(hm:Meth X.K C m f)(F:zS X.prog X.w X.K X.mg X.base CX k f fd ps sp)(hr:zB k X.A)(hb:Binds X.K fd ps ds)(hd:Vals dvs ds)(B:Passes CX X E)(ha:PA X (e::es) t)
  (g:Af (e::es) X.env=(false,eval e X.env)::Af es X.env:=by rfl) (hpl:(backTo pos (Af es X.env)).any (·.1)=false:=by rfl)
  (D:eval (.Call (.Attribute o m apos) (e::es) [] pos) X.env=(do
   let ov <-eval o X.env
   standAt apos.atName
   let(f,first) <-holding [ov] (getMethod ov m y)
   callWith pos f first (backTo pos (Af (e::es) X.env)) (backToKw pos (keywordEach [] X.env))):=by rfl):
  PE X (.Call (.Attribute o m apos) (e::es) [] pos) (zh9 C m sp dvs E ta t):=by
 intro pins s σ H Q I h;refine z54 (thn (he pins s σ H _ I h) λu s1 d=>?_) D;obtain⟨x,H1,i,v,a,dx,fs,ex,n,l,q⟩:=d;subst ex;obtain rfl:u=Value.ref a:=v;refine vd i n c hm l ?_;refine zV1 I.ok.mod.kin hm.kp (thn (ha pos pins s1 σ H1 _ i q) λus s2 b=>?_) g hpl;obtain⟨vs,G,j,r,z⟩:=b;exact⟨j.kIn,qY (vs:=.ref a::vs) F hr hb hd B j (.cons rfl r) z⟩
def cL {g:Sem Bool}(he:PE X o ta)(c:Cls X.K C)(hm:Meth X.K C m f)(F:zS X.prog X.w X.K X.mg X.base CX k f fd ps sp)(hr:zB k X.A)(hb:Binds X.K fd ps ds)(hd:Vals dvs ds)(i:Passes CX X E)
  (n:eval (.Call (.Attribute o m apos) [] [] pos) X.env=(do
   let ov <-eval o X.env
   standAt apos.atName
   let(f,first) <-holding [ov] (getMethod ov m g)
   callWith pos f first (backTo pos (Af [] X.env)) (backToKw pos (keywordEach [] X.env))):=by rfl):
  PE X (.Call (.Attribute o m apos) [] [] pos) (zh9 C m sp dvs E ta zB9):=by
 intro pins s σ H Q I h;refine z54 (thn (he pins s σ H _ I h) λu s1 b=>?_) n;obtain⟨x,H1,d,r,a,dx,fs,ex,j,l,q⟩:=b;subst ex;obtain rfl:u=Value.ref a:=r;refine vd d j c hm l ?_;exact PySem.W.callWith_K0 d.kIn hm.kp (qY (vs:=[.ref a]) F hr hb hd i d (.cons rfl .nil) q)
structure Mk (K:Ae)(C f:Ad):Prop where
 makes:PySem.W.makesIn K C=true
 init:PySem.W.findIn K (.ref C) "__init__"=some (some (.ref f))
 fn:PySem.W.isFn K (.ref f)=true
 kp:PySem.W.keepIn K (.ref C)=true
theorem gX {pins:List (Ad×Obj)}{σ:St}{H:Hp}{s:Ac}{Q:VK}{us:List Ab}{vs:List V}(M:Mk X.K C f)(F:zS X.prog X.w X.K X.mg X.base CX k f fd ps sp)(hr:zB (k+1) X.A)(hb:Binds X.K fd ps ds)(hd:Vals dvs ds)
  (q:Passes CX X E) (I:Inv X pins σ H s) (r:Vals vs us)
  (h:∀x dx,H x=none->H dx=none->dx≠x->sp (.ref x::(vs++dvs)) (upd (upd H dx (.own x)) x (.ins C dx [])) (λv n=>v=.non/\Q (.ref x) n) E):
  Aj (Ag X.prog X.w) X.A (call (.ref C) us) (EP X pins σ Q) X.xe s:=by
 have hq:=h (s.heap.objs.size+1) s.heap.objs.size (I.hok.fresh (zT4 _)) (I.hok.fresh (zK6 _)) (zL9 (zQ7 _));have b:=Inv.made (C:=C) I;have c:Vals (V.ref (s.heap.objs.size+1)::(vs++dvs)) (Value.ref (s.heap.objs.size+1)::(us++ds)):=.cons rfl (r.append hd);have g:(Value.ref (s.heap.objs.size+1)::us++ds).length=ps.length:=by
  have e:=c.length;rw[F.len _ _ _ _ hq]at e;exact e.symm
 refine zX4 (cM I.kIn M.makes M.init (zV4.mp M.fn) (zX6 (F.run _ X.stack _ _ ⟨Value.ref (s.heap.objs.size+1)::us,[]⟩ (Value.ref (s.heap.objs.size+1)::(us++ds)) _ _ E (hr.make C us [])
  (b.env0.make C us []) (hb _ (Value.ref (s.heap.objs.size+1)::us) b.kIn g) c hq) λr s' a=>?_))
 cases r with
 |error e=>exact q pins σ _ _ e s' b a
 |ok i=>
  cases i with
  |ret u=>
   obtain⟨v,H',d,j,ev,l⟩:=b.after a;subst ev;exact⟨j,⟨V.ref (s.heap.objs.size+1),H',d,rfl,l⟩⟩
  |next=>exact False.elim a
  |brk=>exact False.elim a
  |cont=>exact False.elim a
def bh (M:Mk X.K C f)(F:zS X.prog X.w X.K X.mg X.base CX k f fd ps sp)(hr:zB (k+1) X.A)(hg:Gl X x)(hm:X.mg x=some (.ref C))(hb:Binds X.K fd ps ds)(hd:Vals dvs ds)(d:Passes CX X E)
  (ha:PA X (e::es) t) (b:(x == ("__debug__":Str))=false:=by decide) (he:Af (e::es) X.env=(false,eval e X.env)::Af es X.env:=by rfl) (hpl:(backTo pos (Af es X.env)).any (·.1)=false:=by rfl):
  PE X (.Call (.Name x p) (e::es) [] pos) (zy5 C sp dvs E t):=by
 intro pins s σ H Q I h;refine zS1 (yV I hg hm (zV1 I.ok.mod.kin M.kp (thn (ha pos pins s σ H _ I h) λus s1 a=>?_) he hpl) b);obtain⟨vs,H1,c,r,q⟩:=a;exact⟨c.kIn,gX M F hr hb hd d c r q⟩
end
section
variable {X:Cx}{CX:CXT}{k:Nat}{f C:Ad}{fd:Ao}{ps ks:List Str}{sp:Sp}{E:XK}{x m:Str}{p pos apos kpos:Pos}{e o:Am}{es:List Am}{kws:List Keyword}{te ta:TE}{t tk:TA}{nm:Option Str}
variable {g:List Ab->List Ab->List Ab}{gV:List V->List V->List V}
end
structure zA (N P:List Str)(sc:Aq):Prop where
 kind:sc.kind=.function
 co:sc.isCoroutine=false
 gen:sc.isGenerator=false
 nd:N.Nodup
 pre:N.take P.length=P
 par:∀x∈P,sc.names.lookup x=some .local\/sc.names.lookup x=some .cell
 nofree:∀y∈sc.names,y.2≠.free
theorem rB {kindOf:Str->Option NameKind}{x:Str}:∀{binds:List (Str×Ab)}{m:Str->Option Ab},(∀v,(x,v)∉binds)->bindL kindOf binds m x=m x
 |[],_,_=>rfl
 |(n,v)::r,m,h=>by
  unfold bindL;rw[rB λw hw=>h w (zL1 _ hw)];split
  .have:x≠n:=by rintro rfl;exact h v zL7
   simp[this]
  .rfl
theorem rN {kindOf:Str->Option NameKind}{x:Str}:∀{binds:List (Str×Ab)}{m:Str->Option Ab},(∀v,(x,v)∉binds)->bindC kindOf binds m x=m x
 |[],_,_=>rfl
 |(n,v)::r,m,h=>by
  unfold bindC;rw[rN λw hw=>h w (zL1 _ hw)];split
  .rfl
  .have:x≠n:=by rintro rfl;exact h v zL7
   simp[this]
theorem rS {kindOf:Str->Option NameKind}{x:Str}{v:Ab}:∀{P:List Str}{vs:List Ab}{i:Nat}{m:Str->Option Ab},P.Nodup->P[i]?=some x->vs[i]?=some v->kindOf x=some .local->
  bindL kindOf (P.zip vs) m x=some v
 |[],_,_,_,_,h,_,_=>by simp at h
 |_::_,[],_,_,_,_,h,_=>by simp at h
 |p::P,w::vs,0,m,nd,a,b,hk=>by
  simp at a b;subst a;subst b;show bindL kindOf ((p,w)::P.zip vs) m p=_;unfold bindL;rw[rB λv c=>(z32.mp nd).1 (List.of_mem_zip c).1,if_pos hk];simp
 |p::P,w::vs,i+1,m,nd,a,b,hk=>by
  show bindL kindOf ((p,w)::P.zip vs) m x=_;unfold bindL;exact rS (i:=i) (z32.mp nd).2 (by simpa using a) (by simpa using b) hk
theorem rX {kindOf:Str->Option NameKind}{x:Str}{v:Ab}:∀{P:List Str}{vs:List Ab}{i:Nat}{m:Str->Option Ab},P.Nodup->P[i]?=some x->vs[i]?=some v->kindOf x≠some .local->
  bindC kindOf (P.zip vs) m x=some v
 |[],_,_,_,_,h,_,_=>by simp at h
 |_::_,[],_,_,_,_,h,_=>by simp at h
 |p::P,w::vs,0,m,nd,a,b,hk=>by
  simp at a b;subst a;subst b;show bindC kindOf ((p,w)::P.zip vs) m p=_;unfold bindC;rw[rN λv c=>(z32.mp nd).1 (List.of_mem_zip c).1,if_neg hk];simp
 |p::P,w::vs,i+1,m,nd,a,b,hk=>by
  show bindC kindOf ((p,w)::P.zip vs) m x=_;unfold bindC;exact rX (i:=i) (z32.mp nd).2 (by simpa using a) (by simpa using b) hk
def start (N:List Str)(vs:List V):St:=vs.map some++List.replicate (N.length-vs.length) none
def yS (CX:CXT)(P:Ah)(w:Ak)(K:Ae)(mg:Str->Option Ab)(base:An)(N:List Str)(qual:Str)(scope:Aq)(f:Ad)(cd:Ab)(A:Al)(outer:List Ar)(s:Ac)(H:Hp)(E:XK):Cx where
 prog:=P
 w:=w
 K:=K
 mg:=mg
 base:=base
 A:=A.deeper (envOfC qual scope s.heap.objs.size f cd)
 N:=N
 s₀:=s
 H₀:=H
 env:=envOfC qual scope s.heap.objs.size f cd
 outer:=outer
 stack:=envOfC qual scope s.heap.objs.size f cd::outer
 ex:=[]
 calm:=true
 fn:=λ_=>true
 pn:=[]
 xe:=λe s'=>Aj (Ag P w) (A.deeper (envOfC qual scope s.heap.objs.size f cd)) (leaving (envOfC qual scope s.heap.objs.size f cd) e) (λ_ a=>CX outer H s E e a) (λb a=>CX outer H s E b a) s'
def nk {sc:Aq}{n:Nat}{x:Str}(h:sc.names.lookup x=some .cell):∃c,(cellsFrom n sc.names []).lookup x=some c:=Option.isSome_iff_exists.mp (PySem.W.cellsFrom_some sc.names n [] (.inl h))
def jt {CX:CXT}{P:Ah}{w:Ak}{K:Ae}{mg:Str->Option Ab}{base:An}{N ps:List Str}{qual:Str}{scope:Aq}{f:Ad}{cd:Ab}{A:Al}{outer:List Ar}{s s1:Ac}{H:Hp}{E:XK}{us:List Ab}{vs:List V}
  (S:zA N ps scope) (hd:A.handled=none) (g:vR P w K mg base A outer s H) (t:vs.length=ps.length) (r:Vals vs us)
  (x:InCallC s s.heap.objs.size (bindL (envOfC qual scope s.heap.objs.size f cd).kindOf (ps.zip us) λ_=>none) (cellsFrom (s.heap.objs.size+1) scope.names []) (bindC (envOfC qual scope s.heap.objs.size f cd).kindOf (ps.zip us) λ_=>none) s1):
  Inv (yS CX P w K mg base N qual scope f cd A outer s H E) [] (start N vs) H s1:=by
 have hpl:ps.length<=N.length:=by have:=congrArg List.length S.pre;rw[zR4]at this;exact zL8 (zM9 this.symm) (Nat.min_le_right _ _)
 obtain⟨n,C,rfl,hk⟩:=x.done;have j:∀b:Ad,b∉(yS CX P w K mg base N qual scope f cd A outer s H E).ex:=λb z=>absurd (show b∈([]:List Ad)from z) (by simp);refine⟨⟨g.mod,S.kind,rfl,rfl,zK6 _,λy z c n d=>?_,λy hy=>?_,λy c _ h=>?_,λ_=>hd,Around.frames_deeper g.frames,.inr ⟨rfl,rfl⟩,λb z=>absurd z (j b),g.bs,g.bsz,λb _ _=>j b,λb z=>absurd z (j b),g.funs,g.frf⟩,
  rfl,g.bare,Un.kept hk,⟨_,x.toInCall.ns,λi y v n d D=>?_⟩,λy c h=>⟨_,x.cell y c h⟩,g.hok.fresh (zK6 _),λy c h=>?_,λp m=>absurd (show p∈([]:List (Ad×Obj))from m) (by simp),g.hok.kept hk,?_⟩
 .exact name_of_addr x.apart (zR0 n) (zR0 d)
 .have hy:=hy;rcases hy with hy|hy
  .exact nk hy
  .exact absurd rfl (S.nofree _ (zR0 hy))
 .exact zQ0 (x.above y c (zR0 h))
 .have hi:i<vs.length:=by
   unfold start at d;by_cases hi:i<vs.length
   .exact hi
   .rw[zN9 (by simpa using hi)]at d;rw[zU3]at d;split at d<;>cases d
  have ha:vs[i]?=some v:=by
   unfold start at d;rw[zN4 (by simpa using hi),zM3]at d;cases e:vs[i]? with
   |none=>rw[e]at d;cases d
   |some a=>rw[e]at d;cases d;rfl
  obtain⟨u,o,B⟩:=r.get ha;have m:ps[i]?=some y:=by rw[<-S.pre,List.getElem?_take_of_lt (zK5 hi (zM9 t))];exact n
  have l:ps.Nodup:=by rw[<-S.pre];exact S.nd.sublist (zW3 _ _)
  refine⟨u,B,?_⟩;rcases S.par y (zQ3 m)with k|k
  .exact .inl ⟨k,rS l m o k⟩
  .obtain⟨c,e⟩:=nk k;refine .inr ⟨.inl k,c,e,?_⟩;have q:=x.cell y c e;rw[rX l m o (by show scope.names.lookup y≠_;rw[k];decide)]at q;exact q
 .exact g.hok.fresh (zQ0 (x.above y c (zR0 h)))
 .unfold start;rw[zM8,zK3,z04];exact zw2 t hpl
theorem kO {CX:CXT}{P:Ah}{w:Ak}{K:Ae}{mg:Str->Option Ab}{base:An}{k:Nat}{f:Ad}{name qual:Str}{params:Arguments}{body:List Ap}{scope:Aq}{dV kV doc pm cdv ct oc:Ab}{an od:Option Ad}
  {osl:Array (Option Ab)} {N ps:List Str} {sp:Sp} (z:K.lookup f=some ⟨oc,od,.func (PySem.W.fnOf name qual params body scope dV kV doc pm an cdv ct),osl⟩) (l:PySem.W.codeIn K cdv qual=true) (S:zA N ps scope)
  (len:∀vs H Q E,sp vs H Q E->vs.length=ps.length)
  (c:∀(A:Al) (outer:List Ar) (s:Ac) (H:Hp) (vs:List V) (Q:VK) (E:XK),zB k (A.deeper (envOfC qual scope s.heap.objs.size f cdv))->sp vs H Q E->
   ∃t,PSs (yS CX P w K mg base N qual scope f cdv A outer s H E) body t/\t {nx:=λ_ H'=>Q .non H',rt:=Q} (start N vs) H):
  zS P w K mg base CX (k+1) f (PySem.W.fnOf name qual params body scope dV kV doc pm an cdv ct) ps sp:=by
 refine⟨len,λA outer s H args us vs Q E hr j hb r i=>?_⟩;have p:=j.mod.kin.keeps λb o e=>(j.bs b o e).1;have d:∀y∈ps.zip us,scope.names.lookup y.1=some .local\/(scope.names.lookup y.1=some .cell/\((cellsFrom (s.heap.objs.size+1) scope.names []).lookup y.1).isSome=true):=λh hy=>by
  obtain⟨n,v⟩:=h;rcases S.par n (List.of_mem_zip hy).1 with q|q
  .exact .inl q
  .exact .inr ⟨q,PySem.W.cellsFrom_some _ _ _ (.inl q)⟩
 refine codeAny_call_function hr.depth (p _ _ z) rfl S.co S.gen rfl (PySem.W.codeRec_of p l) (hb _ _ _ _ (wpAny_newFunctionEnv_cells S.kind d λenv he s1 x=>?_));subst he;refine⟨(j.mod.nolimit.keeps λb o e=>(j.bs b o e).1).keeps x.toInCall.keep,codeAny_func ?_⟩;obtain⟨t,C,hq⟩:=c A outer s H vs Q E (hr.deeper _) i;have I:Inv (yS CX P w K mg base N qual scope f cdv A outer s H E) [] (start N vs) H s1:=jt S hr.hd j (len _ _ _ _ i) r x;refine zO9 (C [] s1 (start N vs) H _ I hq) (λB s' g=>?_) λe s' g=>g;have fin:∀{a:St} {H':Hp} {v:V} {u:Ab},Inv (yS CX P w K mg base N qual scope f cdv A outer s H E) [] a H' s'->RelV v u->Q v H'->CE outer P w H s Q u s':=
  λ{a H' v u} J m q=>⟨v,H',J.os,J.bare,J.base,J.hok,m,q⟩
 cases B with
 |ret u=>
  obtain⟨v,a,H',J,m,q⟩:=g;exact fin J m q
 |next=>
  obtain⟨a,H',J,q⟩:=g;exact fin (v:=V.non) J rfl q
 |brk=>
  obtain⟨_,_,_,q⟩:=g;exact False.elim q
 |cont=>
  obtain⟨_,_,_,q⟩:=g;exact False.elim q
section
variable {X:Cx}{x:Str}{p pos:Pos}{e:Am}{es:List Am}{t:TA}{id T:String}{r:List V->Hp->VK->Prop}
def tCB (r:List V->Hp->VK->Prop)(t:TA):TE:=λσ H Q=>t σ H λvs H1=>r vs H1 Q
def xC (g:xj X (.builtin id) r)(hg:Gl X x)(hm:X.mg x=none)(c:bootBuiltins x=some (.builtin id))(ha:PA X (e::es) t)(hn:x≠"__name__":=by decide)(b:(x == ("__debug__":Str))=false:=by decide)
  (he:Af (e::es) X.env=(false,eval e X.env)::Af es X.env:=by rfl) (hpl:(backTo pos (Af es X.env)).any (·.1)=false:=by rfl):PE X (.Call (.Name x p) (e::es) [] pos) (tCB r t):=by
 intro pins s σ H Q I h;refine zS1 (xw I hg hm c ?_ hn b);exact PyProof.Rows.callWith_builtin1 (thn (ha pos pins s σ H _ I h) λus s1 a=>by obtain⟨vs,H1,f,d,i⟩:=a;exact g pins s1 σ H1 vs us Q f d i) he hpl
def uj (g:xj X (.type T) r)(hg:Gl X x)(hm:X.mg x=none)(c:bootBuiltins x=some (.type T))(ha:PA X (e::es) t)(hn:x≠"__name__":=by decide)(b:(x == ("__debug__":Str))=false:=by decide)
  (he:Af (e::es) X.env=(false,eval e X.env)::Af es X.env:=by rfl) (hpl:(backTo pos (Af es X.env)).any (·.1)=false:=by rfl):PE X (.Call (.Name x p) (e::es) [] pos) (tCB r t):=by
 intro pins s σ H Q I h;refine zS1 (xw I hg hm c ?_ hn b);exact zR1 (thn (ha pos pins s σ H _ I h) λus s1 a=>by obtain⟨vs,H1,f,d,i⟩:=a;exact g pins s1 σ H1 vs us Q f d i) he hpl
end
end L2
namespace HT
open PySem PyProof.Rows
section
open PySem.SeqAt
open PySem.AutoSeq1 (wpAny_loadPart')
open PySem.MeetsSeq PySem.MeetsSeq2 PySem.MeetsSeq3
end
section
variable {prog:Ah}{w:Ak}{A:Al}{E:Ab->Ac->Prop}{s:Ac}
def sIx (n d:Nat):Option Int->Nat
 |none=>d
 |some v=>if v<0 then(v+(n:Int)).toNat else min v.toNat n
def fZ (n d:Nat):sIx n d none=d:=rfl
def zc0 (n d k:Nat):sIx n d (some (k:Int))=min k n:=by
 show(if(k:Int)<0 then((k:Int)+n).toNat else min (k:Int).toNat n)=min k n;rw[if_neg (Int.not_lt.2 (z68 _)),zR7]
end
end HT
namespace L2
open PySem PySem.Spec PyProof.Rows
abbrev TO :=St->Hp->(Option Int->Hp->Prop)->Prop
def PO (X:Cx)(e:Option Am)(t:TO):Prop:=
 ∀(pins:List (Ad×Obj)) (s:Ac) (σ:St) (H:Hp) (Q:Option Int->Hp->Prop),Inv X pins σ H s->t σ H Q->
  Aj (Ag X.prog X.w) X.A (evalPart e X.env) (λu s'=>∃o H',Inv X pins σ H' s'/\IsPart u o/\Q o H') X.xe s
def za1 :TO:=λ_ H Q=>Q none H
def zA1 (t:TE):TO:=λσ H Q=>t σ H λx H1=>∃i,x=.int i/\Q (some i) H1
theorem intsAre_of {ns:List Int}:∀{us:List Ab},Vals (ns.map V.int) us->IntsAre us ns:=by
 induction ns with
 |nil=>intro us r;rw[List.map_nil]at r;cases r;exact .nil
 |cons n ns c=>
  intro us r;rw[zP4]at r;cases r with
  |cons b a=>
   obtain⟨t,e⟩:=b;subst e;exact .cons n t (c a)
section
variable {X:Cx}{e:Am}{te:TE}{lo hi:Option Am}{tl th:TO}{pos p2:Pos}
def aB :PO X none za1:=by
 intro pins s σ H Q I h;rw[evalPart_none];exact zK2 ⟨none,H,I,.none,h⟩
def bD (h:PE X e te):PO X (some e) (zA1 te):=by
 intro pins s σ H Q I hw;rw[evalPart_some];refine thn (h pins s σ H _ I hw) λu s1 a=>?_;obtain⟨x,H1,c,b,d⟩:=a;obtain⟨i,rfl,q⟩:=d;obtain⟨t,rfl⟩:=b;exact⟨some i,H1,c,.int i t,q⟩
def SlR (X:Cx)(r:V->Option Int->Option Int->Hp->VK->Prop):Prop:=
 ∀(pins:List (Ad×Obj)) (s:Ac) (σ:St) (H:Hp) (x:V) (v b a:Ab) (lo hi:Option Int) (sl:Ad) (Q:VK),Inv X pins σ H s->RelV x v->s.heap.IsSliceOf sl b a .none->IsPart b lo->IsPart a hi->r x lo hi H Q->
  ∃T id,typeLookup (.type T) "__getitem__"=pure (some (.builtin id))/\s.TypeIs v T/\Aj (Ag X.prog X.w) X.A (getItem v (.ref sl)) (EP X pins σ Q) X.xe s
def tSl (r:V->Option Int->Option Int->Hp->VK->Prop)(te:TE)(tl th:TO):TE:=λσ H Q=>te σ H λx H1=>tl σ H1 λl b=>th σ b λu a=>r x l u a Q
def gP {r:V->Option Int->Option Int->Hp->VK->Prop}(hr:SlR X r)(he:PE X e te)(j:PO X lo tl)(g:PO X hi th):PE X (.Subscript e (.Slice lo hi none p2) pos) (tSl r te tl th):=by
 intro pins s σ H Q I h;refine Subscript_ (thn (he pins s σ H _ I h) λv s1 ⟨x,H1,i,o,m⟩=>wpAny_Slice (thn (j pins s1 σ H1 _ i m) λc s2 ⟨l,w,k,p,t⟩=>thn (g pins s2 σ w _ k t) λa s3 ⟨u,d,f,pu,n⟩=>?_));rw[evalPart_none];refine zK2 ?_;have y:Inv X pins σ d {s3 with heap:=s3.heap.push {cls:=.type "slice",data:=.fields #[c,a,.none]}}:=f.kept λb ob q=>zK1 _ q;obtain⟨T,id,A,z,hg⟩:=hr pins {s3 with heap:=s3.heap.push {cls:=.type "slice",data:=.fields #[c,a,.none]}} σ d x v c a l u s3.heap.objs.size Q y o (Heap.IsSliceOf.new ..) p pu n;exact tail_any z A hg (by with_unfolding_all rfl)
def dJ (xs:List V)(lo hi:Option Int):List V:=(xs.drop (HT.sIx xs.length 0 lo)).take (HT.sIx xs.length xs.length hi-HT.sIx xs.length 0 lo)
def om (xs:List V)(lo hi:Option Int):(dJ xs lo hi).length<=xs.length:=by
 unfold dJ;rw[zR4,List.length_drop];exact zL8 (Nat.min_le_right _ _) (Nat.sub_le _ _)
end
def ixN (n:Nat)(i:Int):Option Nat:=if 0<=i then(if i<n then some i.toNat else none)else if -(n:Int)<=i then some (i+n).toNat else none
def atI {O:Type}(xs:List O)(i:Int):Option O:=(ixN xs.length i).bind λj=>xs[j]?
def ja {n:Nat}{i:Int}{j:Nat}(h:ixN n i=some j):seqIndex? i n=some j/\j<n/\-(n:Int)<=i/\i<n:=by
 unfold ixN at h;by_cases h0:0<=i
 .rw[if_pos h0]at h;by_cases a:i<n
  .rw[if_pos a]at h;exact⟨by rw[seqIndex_of h0 a,(zO2 h)],by lia,by lia,a⟩
  .rw[if_neg a]at h;cases h
 .rw[if_neg h0]at h;by_cases a:-(n:Int)<=i
  .rw[if_pos a]at h;exact⟨by rw[seqIndex_neg (z57.1 h0) a,(zO2 h)],by lia,a,(z69 (z57.1 h0) (z68 _))⟩
  .rw[if_neg a]at h;cases h
theorem qD {O:Type}{xs:List O}{i:Int}{v:O}(h:atI xs i=some v):∃j,seqIndex? i xs.length=some j/\xs[j]?=some v/\j<xs.length/\-(xs.length:Int)<=i/\i<xs.length:=by
 unfold atI at h;cases e:ixN xs.length i with
 |none=>rw[e]at h;cases h
 |some j=>
  rw[e]at h;obtain⟨c,d,b,a⟩:=ja e;exact⟨j,c,h,d,b,a⟩
def vJ {O:Type}{xs:List O}{j:Nat}{v:O}(h:xs[j]?=some v):atI xs (j:Int)=some v:=by
 have e:ixN xs.length j=some j:=by
  unfold ixN;rw[if_pos (z68 _),if_pos (Int.ofNat_lt.2 ((zK7.mp h).1))];simp
 unfold atI;rw[e];exact h
def uR (b:Am):Prop:=∀o i,subscripted b false o i=operate [o,i] (getItem o i)
def IxR (X:Cx)(r:R2):Prop:=
 ∀(value slice:Am) (pins:List (Ad×Obj)) (s:Ac) (σ:St) (H:Hp) (x y:V) (v u:Ab) (Q:VK),Inv X pins σ H s->RelV x v->RelV y u->r x y H Q->
  subscripted slice false v u=operate [v,u] (getItem v u)->Aj (Ag X.prog X.w) X.A (subscriptTail value slice v u) (EP X pins σ Q) X.xe s
def MtR (X:Cx)(id:String)(r:V->List V->Hp->VK->Prop):Prop:=
 ∀(pins:List (Ad×Obj)) (s:Ac) (σ:St) (H:Hp) (x:V) (xs:List V) (v:Ab) (us:List Ab) (Q:VK),Inv X pins σ H s->RelV x v->Vals xs us->r x xs H Q->
  Aj (Ag X.prog X.w) X.A (call (.builtin id) (v::us)) (EP X pins σ Q) X.xe s
section
variable {X:Cx}{a b:Am}{ta tb:TE}{pos:Pos}
def IxR.or {r d:R2}(h:IxR X r)(h':IxR X d):IxR X (λx y H Q=>r x y H Q\/d x y H Q):=by
 intro value slice pins s σ H x y v u Q I e f q c;rcases q with q|q
 .exact h value slice pins s σ H x y v u Q I e f q c
 .exact h' value slice pins s σ H x y v u Q I e f q c
def wx {r:R2}(hr:IxR X r)(ha:PE X a ta)(hb:PE X b tb)(c:uR b):PE X (.Subscript a b pos) (tOp r ta tb):=by
 intro pins s σ H Q I h;exact Subscript_ (zp8 ha hb I h λv u s2 x y d e f g q=>hr a b pins s2 σ d x y v u Q e f g q (c _ _))
def zF0 (K:Ae):R2:=λx y H Q=>∃p xs i v,x=.ref p/\y=.int i/\SqL K H p xs/\atI xs i=some v/\Q v H
def zx9 (K:Ae):R2:=λx y H Q=>∃p xs i v,x=.ref p/\y=.int i/\SqT K H p xs/\atI xs i=some v/\Q v H
def zE4 :R2:=λx y H Q=>∃z i c,x=.str z/\y=.int i/\z.length<=sizeLine/\atI z.cps.toList i=some c/\Q (.str ⟨#[c]⟩) H
def yF :IxR X (zF0 X.K):=by
 intro value slice pins s σ H x y v u Q I D C h k;obtain⟨p,xs,i,z,rfl,rfl,hq,he,q⟩:=h;cases D;obtain⟨t,rfl⟩:=C;obtain⟨e,r,g,m⟩:=I.list hq;obtain⟨j,c,B,E,l,n⟩:=qD he;obtain⟨w,o,d⟩:=r.get B;have A:=r.length;have hn:=si;have fin:EP X pins σ Q w s:=⟨z,H,I,d,q⟩;by_cases h0:0<=i
 .have f:i.toNat=j:=by
   rw[seqIndex_of h0 n]at c;exact zO2 c
  exact item_listR g.isList h0 (fL hn n m) (by rw[f];simpa using o) fin k
 .have f:(i+(e.toArray.size:Int)).toNat=j:=by
   rw[seqIndex_neg (z57.1 h0) l]at c;rw[zM1,<-A];exact zO2 c
  exact subscriptTail_builtinR g.isList.typeIs slot_list_getitem.lookup
   (wpAny_getItem_list_neg g.isList (z57.1 h0) (by rw[zM1]<;>lia) (cp l m hn) (by rw[f];simpa using o) ⟨rfl,fin⟩) k
def dN :IxR X (zx9 X.K):=by
 intro value slice pins s σ H x y v u Q I B n h f;obtain⟨p,xs,i,z,rfl,rfl,hq,he,q⟩:=h;cases B;obtain⟨t,rfl⟩:=n;obtain⟨g,r,e,d⟩:=I.tuple hq;obtain⟨j,k,l,C,m,o⟩:=qD he;obtain⟨w,A,c⟩:=r.get l;have hn:=si;have fin:EP X pins σ Q w s:=⟨z,H,I,c,q⟩;exact subscriptTail_builtinR e.typeIs slot_tuple_getitem.lookup
  (getItem_tuple e (cp m d hn) (fL hn o d) (by rw[zM1,<-r.length];exact k) (by simpa using A) ⟨rfl,fin⟩) f
def zt7 :IxR X zE4:=by
 intro value slice pins s σ H x y v u Q I n o h f;obtain⟨z,i,c,rfl,rfl,p,he,q⟩:=h;obtain⟨t,rfl⟩:=n;obtain⟨t',rfl⟩:=o;obtain⟨j,d,k,r,l,e⟩:=qD he;have g:z.cps.toList.length=z.length:=by simp[Str.length]
 rw[g]at d l e;have hn:=si;exact tail_any (typeIs_str s z t) slot_str_getitem.lookup (getItem_str (by
  have e1:decide (i < -(2 ^ 63:Int))=false:=zM2 (by lia);have m:decide (i≥2 ^ 63)=false:=zM2 (by lia);rw[e1,m,Bool.or_false]) (by rw[d];simpa using k) ⟨.str ⟨#[c]⟩,H,I.tok _,⟨_,rfl⟩,q⟩) f
def rIx (K:Ae):R2:=λx y H Q=>zF0 K x y H Q\/zx9 K x y H Q\/zE4 x y H Q
def zv4 :IxR X (rIx X.K):=yF.or (dN.or zt7)
def mw (c:List Ab)(n j:Nat)(u:Ab):Obj.mapSeq (·.setIfInBounds j u) {cls:=.type "list",data:=.seq c.toArray n}={cls:=.type "list",data:=.seq (c.set j u).toArray n}:=by simp[Obj.mapSeq]
theorem Inv.lst {pins:List (Ad×Obj)}{σ:St}{H:Hp}{s:Ac}{p:Ad}{xs:List V}(I:Inv X pins σ H s)(h:H p=some (.lst xs)):
  ∃(c:List Ab) (n:Nat),Vals xs c/\s.heap.get? p=some {cls:=.type "list",data:=.seq c.toArray n}/\xs.length<=sizeLine:=by
 obtain⟨z,c,n,r,e⟩:=I.hok p _ h;exact⟨c,n,r,e,z⟩
def Inv.lstUpd {pins:List (Ad×Obj)}{σ:St}{H:Hp}{s:Ac}{p:Ad}{xs ys:List V}{d c:List Ab}{n g:Nat}{f:Obj->Obj}(I:Inv X pins σ H s)(h:H p=some (.lst xs))
  (j:s.heap.get? p=some {cls:=.type "list",data:=.seq d.toArray n}) (hf:f {cls:=.type "list",data:=.seq d.toArray n}={cls:=.type "list",data:=.seq c.toArray g}) (r:Vals ys c) (i:ys.length<=sizeLine) (t:Nat):
  Inv X pins σ (upd H p (.lst ys)) {s with heap:=s.heap.update p f,toks:=t}:=by
 have e:(s.heap.update p f).get? p=some {cls:=.type "list",data:=.seq c.toArray g}:=by rw[zQ4 f j (by rw[hf]<;>rfl),hf]
 refine I.write (by rw[h];trivial) (.inl rfl) (λb u hb q=>(zM0 _ _ (zP2 hb)).trans q) ⟨_,e⟩ ?_;exact⟨i,c,g,r,e⟩
def zj3 :V->V->V->Hp->(Hp->Prop)->Prop:=λo i v H Q=>∃p xs k j,o=.ref p/\i=.int k/\H p=some (.lst xs)/\ixN xs.length k=some j/\Q (upd H p (.lst (xs.set j v)))
def set_list :zB6 X zj3:=by
 intro pins s σ H o i v D E u Q I y B z h;obtain⟨p,xs,k,j,rfl,rfl,w,A,q⟩:=h;cases y;obtain⟨t,rfl⟩:=B;obtain⟨c,n,r,e,l⟩:=I.lst w;obtain⟨d,C,m,g⟩:=ja A;have f:=r.length;have hn:=si;have x:Inv X pins σ (upd H p (.lst (xs.set j v))) {s with heap:=s.heap.update p (Obj.mapSeq (·.setIfInBounds j u))}:=
  I.lstUpd w e (mw c n j u) (r.set z j) (by rw[zP0];exact l) s.toks
 by_cases h0:0<=k
 .have hk:k.toNat=j:=by
   rw[seqIndex_of h0 g]at d;exact zO2 d
  exact PySem.W.ki_setAt e h0 (fL hn g l) (by rw[zM1,<-f];exact g) (by rw[hk];exact⟨_,x,q⟩)
 .have hk:(k+(c.toArray.size:Int)).toNat=j:=by
   rw[seqIndex_neg (z57.1 h0) m]at d;rw[zM1,<-f];exact zO2 d
  exact PySem.W.ki_setBack e (z57.1 h0) (by rw[zM1,<-f];exact m) (cp m l hn) (by rw[hk];exact⟨_,x,q⟩)
def qK (lo hi:Option Int)(n:Nat):(sliceBounds lo hi none n).1=((HT.sIx n 0 lo:Nat):Int)/\(sliceBounds lo hi none n).2.1=((HT.sIx n n hi:Nat):Int)/\(sliceBounds lo hi none n).2.2=1:=by
 refine⟨?_,?_,rfl⟩
 .cases lo with
  |none=>simp[sliceBounds,HT.sIx]
  |some i=>
   simp only[sliceBounds,HT.sIx,Option.getD_none,show 1 > 0 by decide,z26];by_cases h:i<0
   .simp only[h,z26]<;>exact zf3 h
   .simp only[h,z38]<;>exact zd4
 .cases hi with
  |none=>simp[sliceBounds,HT.sIx]
  |some i=>
   simp only[sliceBounds,HT.sIx,Option.getD_none,show 1 > 0 by decide,z26];by_cases h:i<0
   .simp only[h,z26]<;>exact zf3 h
   .simp only[h,z38]<;>exact zd4
def rA (c:List Ab)(lo hi:Option Int):slicePick c.toArray lo hi none=((c.drop (HT.sIx c.length 0 lo)).take (HT.sIx c.length c.length hi-HT.sIx c.length 0 lo)).toArray:=by
 obtain⟨d,e,f⟩:=qK lo hi c.toArray.size;unfold slicePick;rw[d,e,f];simp only[sliceRange_one,pick_run,zM1]<;>rfl
def zI7 (K:Ae):V->Option Int->Option Int->Hp->VK->Prop:=λx lo hi H Q=>∃a xs,x=.ref a/\SqL K H a xs/\∀p,H p=none->Q (.ref p) (upd H p (.lst (dJ xs lo hi)))
def bT :SlR X (zI7 X.K):=by
 intro pins s σ H x v l k lo hi sl Q I j f e pu h;obtain⟨a,xs,rfl,i,q⟩:=h;cases j;obtain⟨g,r,d,c⟩:=I.list i;have hlen:=r.length;refine⟨"list",_,slot_list_getitem.lookup,d.isList.typeIs,?_⟩;refine wpAny_getItem_list_slice d.isList f e pu .none (by simp) ?_ (by rw[zM1]<;>exact zL8 (zM9 hlen.symm) c);rw[rA,<-hlen];refine⟨.ref s.heap.objs.size,_,I.laid (λb ob q=>zK1 _ q) (zK6 _) ?_,rfl,q _ (I.hok.fresh (zK6 _))⟩;exact⟨zL8 (om xs lo hi) c,_,0,(r.drop (HT.sIx xs.length 0 lo)).take (HT.sIx xs.length xs.length hi-HT.sIx xs.length 0 lo),zL2 _ rfl⟩
def wU :V->Bool
 |.non=>true
 |.bl _=>true
 |.int _=>true
 |.str _=>true
 |_=>false
def eqV :V->V->Bool
 |.non,.non=>true
 |.bl a,.bl b=>a == b
 |.bl a,.int b=>(if a then 1 else 0)==b
 |.int a,.bl b=>a == (if b then 1 else 0)
 |.int a,.int b=>a == b
 |.str a,.str b=>a == b
 |_,_=>false
theorem zu9 {A:Al}{s:Ac}{y x:V}{u v:Ab}(d:RelV y u)(c:RelV x v)(f:wU y=true)(e:wU x=true):SeqAt.EqAt A s u v (eqV y x):=by
 cases y with
 |non=>
  cases d;cases x with
  |non=>cases c;exact SeqAt.EqAt.same _
  |bl b=>cases c;exact SeqAt.EqAt.none_bool b
  |int b=>obtain⟨t,rfl⟩:=c;exact SeqAt.EqAt.none_int b t
  |str b=>obtain⟨t,rfl⟩:=c;exact SeqAt.EqAt.none_str b t
  |_=>exact absurd (e) zM7
 |bl a=>
  cases d;cases x with
  |non=>cases c;exact SeqAt.EqAt.bool_none a
  |bl b=>cases c;exact SeqAt.EqAt.bool_bool a b
  |int b=>obtain⟨t,rfl⟩:=c;exact SeqAt.EqAt.bool_int a b t
  |str b=>obtain⟨t,rfl⟩:=c;exact SeqAt.EqAt.bool_str a b t
  |_=>exact absurd (e) zM7
 |int a=>
  obtain⟨t',rfl⟩:=d;cases x with
  |non=>cases c;exact SeqAt.EqAt.int_none a t'
  |bl b=>cases c;exact SeqAt.EqAt.int_bool a t' b
  |int b=>obtain⟨t,rfl⟩:=c;exact SeqAt.EqAt.int_int a t' b t
  |str b=>obtain⟨t,rfl⟩:=c;exact SeqAt.EqAt.int_str a t' b t
  |_=>exact absurd (e) zM7
 |str a=>
  obtain⟨t',rfl⟩:=d;cases x with
  |non=>cases c;exact SeqAt.EqAt.str_none a t'
  |bl b=>cases c;exact SeqAt.EqAt.str_bool a t' b
  |int b=>obtain⟨t,rfl⟩:=c;exact SeqAt.EqAt.str_int a t' b t
  |str b=>obtain⟨t,rfl⟩:=c;exact SeqAt.EqAt.str_str a t' b t
  |_=>exact absurd (e) zM7
 |_=>exact absurd (f) zM7
def eqU (x:V)(u:Ab):Bool:=match u with
 |.none=>eqV .non x
 |.bool b=>eqV (.bl b) x
 |.int i _=>eqV (.int i) x
 |.str z _=>eqV (.str z) x
 |_=>false
theorem cz {x y:V}{u:Ab}(r:RelV y u)(f:wU y=true):eqU x u=eqV y x:=by
 cases y with
 |non=>cases r;rfl
 |bl b=>cases r;rfl
 |int i=>obtain⟨t,rfl⟩:=r;rfl
 |str z=>obtain⟨t,rfl⟩:=r;rfl
 |_=>exact absurd (f) zM7
theorem kf {x:V}{xs:List V}{us:List Ab}(h:Vals xs us)(f:xs.all wU=true):us.any (eqU x)=xs.any λy=>eqV y x:=by
 induction h with
 |nil=>rfl
 |cons r _ c=>
  rw[z71,zO6]at f;rw[z51,z51,cz r f.1,c f.2]
theorem tX {A:Al}{s:Ac}{x:V}{v:Ab}(d:RelV x v)(e:wU x=true):∀{xs:List V}{us:List Ab},Vals xs us->xs.all wU=true->∀u∈us,SeqAt.EqAt A s u v (eqU x u)
 |_,_,.nil,_=>λu c=>by cases c
 |y::xs,u::us,.cons r t,f=>λg c=>by
  rw[z71,zO6]at f;rcases zK8.mp c with rfl|c
  .rw[cz r f.1];exact zu9 r d f.1 e
  .exact tX d e t f.2 g c
def inV (x:V)(xs:List V):Bool:=xs.any λy=>eqV y x
def rIn (K:Ae)(neg:Bool):R2:=λx y H Q=>∃p xs,y=.ref p/\(SqL K H p xs\/SqT K H p xs)/\wU x=true/\xs.all wU=true/\Q (.bl (if neg then !inV x xs else inV x xs)) H
def qC :OpR X (compareOp .NotIn) (rIn X.K true):=by
 intro pins s σ H x y v u Q I f i h;obtain⟨p,xs,rfl,hq,e,fs,q⟩:=h;cases i;rcases hq with hq|hq
 .obtain⟨c,r,d,g⟩:=I.list hq;refine SeqAt.notIn_listAt (eqU x) d.isList (λw hw=>tX f e r fs w (by simpa using hw)) ⟨.bl _,H,I,rfl,?_⟩;rw[show c.toArray.any (eqU x)=c.any (eqU x) by simp,kf r fs];exact q
 .obtain⟨c,r,d,g⟩:=I.tuple hq;refine SeqAt.notIn_tupleAt (eqU x) d (λw hw=>tX f e r fs w (by simpa using hw)) ⟨.bl _,H,I,rfl,?_⟩;rw[show c.toArray.any (eqU x)=c.any (eqU x) by simp,kf r fs];exact q
def vF :xj X (.builtin "len") (λxs H Q=>∃p ys,xs=[.ref p]/\(SqL X.K H p ys\/SqT X.K H p ys)/\Q (.int ys.length) H):=by
 intro pins s σ H xs us Q I r h;obtain⟨p,ys,rfl,hq,q⟩:=h;obtain⟨u,rfl,g⟩:=vals1 r;cases g;have hn:=si;rcases hq with hq|hq
 .obtain⟨e,f,d,c⟩:=I.list hq;have hlen:=f.length;exact Calls.call_len_list d.isList (by simp only[zM1]<;>exact zf5 hn hlen c) ⟨.int ys.length,H,I.tok _,⟨s.toks+1,by rw[zM1,hlen]⟩,q⟩
 .obtain⟨e,f,d,c⟩:=I.tuple hq;have hlen:=f.length;exact len_tuple d (by simp only[zM1]<;>exact zf5 hn hlen c) ⟨.int ys.length,H,I.tok _,⟨s.toks+1,by rw[zM1,hlen]⟩,q⟩
def tyV (K:Ae)(T:String)(x:V)(H:Hp):Prop:=match x with
 |.str _=>T="str"
 |.int _=>T="int"
 |.ref p=>(T="list"/\∃xs,SqL K H p xs)\/(T="tuple"/\∃o,K.lookup p=some o/\o.cls=.type "tuple"/\o.dict=none)\/
   (T="dict"/\((∃kvs,H p=some (.dK kvs))\/∃kvs,H p=some (.dT kvs)))\/(T="set"/\∃S n,H p=some (.set S n))
 |_=>False
theorem zr8 {pins:List (Ad×Obj)}{σ:St}{H:Hp}{s:Ac}{T:String}{x:V}{v:Ab}(I:Inv X pins σ H s)(r:RelV x v)(ty:tyV X.K T x H):
  s.TypeIs v T/\∀a,v=.ref a->∃ob,s.heap.get? a=some ob/\ob.dict=none:=by
 cases x with
 |str z=>
  obtain⟨t,rfl⟩:=r;cases(ty);exact⟨typeIs_str s z t,λ_ e=>nomatch e⟩
 |int i=>
  obtain⟨t,rfl⟩:=r;cases(ty);exact⟨typeIs_int s i t,λ_ e=>nomatch e⟩
 |ref p=>
  cases r;rcases ty with⟨rfl,xs,hq⟩|⟨rfl,o,hk,h,hd⟩|⟨rfl,hk⟩|⟨rfl,S,n,hk⟩
  .obtain⟨g,_,f,_⟩:=I.list hq;refine⟨f.isList.typeIs,λa e=>?_⟩;cases e;obtain⟨o,n,e,c,hd,_⟩:=f;exact⟨o,e,hd⟩
  .refine⟨⟨o,I.kIn p o hk,h⟩,λa e=>?_⟩;cases e;exact⟨o,I.kIn _ o hk,hd⟩
  .have z:∃o,s.heap.get? p=some o/\o.ExactDict:=by
    rcases hk with⟨kvs,hk⟩|⟨kvs,hk⟩
    .obtain⟨_,_,_,_,o,_,_,e,ex,_⟩:=I.hok p _ hk;exact⟨o,e,ex⟩
    .obtain⟨_,_,_,_,o,_,_,e,ex,_⟩:=I.hok p _ hk;exact⟨o,e,ex⟩
   obtain⟨o,e,ex⟩:=z;refine⟨⟨o,e,ex.1⟩,λa d=>?_⟩;cases d;exact⟨o,e,ex.2.1⟩
  .obtain⟨o,_,_,_,e,ex,_⟩:=I.hok p _ hk;refine⟨⟨o,e,ex.1⟩,λa d=>?_⟩;cases d;exact⟨o,e,ex.2.1⟩
 |_=>exact False.elim ty
def tBM (K:Ae)(T:String)(r:V->List V->Hp->VK->Prop)(to:TE)(t:TA):TE:=λσ H Q=>to σ H λx H1=>tyV K T x H1/\t σ H1 λxs c=>r x xs c Q
variable {o e:Am}{es:List Am}{to:TE}{t:TA}{name:Str}{apos cpos:Pos}{T id:String}{r:V->List V->Hp->VK->Prop}
def zj6 (p:PlainAttrs T)(slot:Slot T name id)(k:typeOf (.builtin id)=pure (.type "method_descriptor"))(hm:MtR X id r)(q:PE X o to)(ha:PA X (e::es) t)
  (d:attributeBase o name X.env (eval o X.env)=eval o X.env:=by rfl)
  (j:((backTo cpos (Af (e::es) X.env)).all (λx=>!x.1)&&(backToKw cpos (keywordEach [] X.env)).all (λx=>x.1.isSome)
   &&decide ((e::es).length+([]:List Keyword).length+(if([]:List Keyword).isEmpty then 0 else 1)<30))=true:=by rfl)
  (f:(apos.endLine == cpos.line)=true:=by rfl) (u:Af (e::es) X.env=(false,eval e X.env)::Af es X.env:=by rfl) (c:(backTo cpos (Af es X.env)).any (·.1)=false:=by rfl):
  PE X (.Call (.Attribute o name apos) (e::es) [] cpos) (tBM X.K T r to t):=by
 intro pins s σ H Q I h;refine wpAny_Call_method_late d j f rfl (thn (q pins s σ H _ I h) λv s1 g=>?_);obtain⟨x,H1,l,m,ty,A⟩:=g;obtain⟨w,y⟩:=zr8 l m ty;refine⟨T,id,p,slot,k,w,y,?_⟩;have n:=ha cpos pins s1 σ H1 _ l A;rw[u]at n ⊢;refine Calls.callWith_builtin (by show(false||(backTo cpos (Af es X.env)).any (·.1))=false;rw[c]<;>rfl) (Calls.evalArgs_plain ?_);exact thn n λus s2 i=>by obtain⟨vs,D,z,B,C⟩:=i;exact hm pins s2 σ D x vs v us Q z m B C
/- xs.append(e),list.index on a module's tuple .. are MtR facts of 06m -/
end
def MtM (X:Cx)(id:String)(r:V->List V->Hp->VK->Prop):Prop:=
 ∀(pins:List (Ad×Obj)) (s:Ac) (σ:St) (H:Hp) (x:V) (xs:List V) (v:Ab) (us:List Ab) (Q:VK),Inv X pins σ H s->RelV x v->Vals xs us->r x xs H Q->
  Aj (Ag X.prog X.w) X.A (call (.builtin id) (v::us)) (EP X pins σ Q) X.xe s
theorem Vals.one {x:V}{us:List Ab}(h:Vals [x] us):∃u,us=[u]/\RelV x u:=by
 cases h with
 |cons r q=>cases q;exact⟨_,rfl,r⟩
theorem Vals.two {x y:V}{us:List Ab}(h:Vals [x,y] us):∃u v,us=[u,v]/\RelV x u/\RelV y v:=by
 cases h with
 |cons r q=>
  cases q with
  |cons q z=>cases z;exact⟨_,_,rfl,r,q⟩
theorem Vals.rep {xs:List V}{us:List Ab}(h:Vals xs us):∀k:Nat,Vals (List.replicate k xs).flatten (List.replicate k us).flatten
 |0=>.nil
 |k+1=>by
  rw[zU8,zU8,zY5,zY5];exact Vals.append h (Vals.rep h k)
theorem foldl_rep (a:List Ab):∀(k:Nat) (acc:List Ab),
  List.foldl (λc b=>c++b) acc.toArray (List.replicate k a.toArray)=(acc++(List.replicate k a).flatten).toArray
 |0,acc=>by simp
 |k+1,acc=>by
  have e:acc.toArray++a.toArray=(acc++a).toArray:=by simp
  have d:(acc++a)++(List.replicate k a).flatten=acc++(List.replicate (k+1) a).flatten:=by rw[zU8,zY5,zN2]
  rw[<-d,<-foldl_rep a k (acc++a),<-e,zU8,List.foldl_cons]
section
variable {X:Cx}{pins:List (Ad×Obj)}{σ:St}{H:Hp}{s:Ac}{l b:Ad}{xs ys zs:List V}
def Inv.lset {c a:List Ab}{n:Nat}{f:Array Ab->Array Ab}{t':Nat}(I:Inv X pins σ H s)(i:H l=some (.lst xs))
  (e:s.heap.get? l=some {cls:=.type "list",data:=.seq c.toArray n}) (hf:f c.toArray=a.toArray) (g:Vals ys a) (d:ys.length<=sizeLine):
  Inv X pins σ (upd H l (.lst ys)) {s with heap:=s.heap.update l (Obj.mapSeq f),toks:=t'}:=by
 have q:=PySem.IsL.update e f;rw[hf]at q;refine I.write (by rw[i];trivial) (.inl rfl) (λj u hb h=>(zM0 s.heap (Obj.mapSeq f) (zP2 hb)).trans h) ⟨_,q⟩ ?_;exact⟨d,a,_,g,q⟩
def Inv.lnew {a:List Ab}{t':Nat}(I:Inv X pins σ H s)(c:Vals ys a)(d:ys.length<=sizeLine):
  Inv X pins σ (upd H s.heap.objs.size (.lst ys)) {s with heap:=s.heap.push {cls:=.type "list",data:=.seq a.toArray},toks:=t'}:=
 I.laid (λ_ _ q=>zK1 _ q) (zK6 _) ⟨d,a,0,c,zL2 _ rfl⟩
theorem Inv.fresh (I:Inv X pins σ H s):H s.heap.objs.size=none:=I.hok.fresh (zK6 _)
def Inv.lstM (I:Inv X pins σ H s)(c:H l=some (.lst xs)):xs.length<=sizeLine/\∃(a:List Ab) (n:Nat),Vals xs a/\xs.length=a.length/\s.heap.get? l=some {cls:=.type "list",data:=.seq a.toArray n}:=by
 obtain⟨z,a,n,r,e⟩:=I.hok l _ c;exact⟨z,a,n,r,r.length,e⟩
def oB {n:Nat}(h:n<=sizeLine):Builtin.List.listTooLong n=false:=by
 unfold Builtin.List.listTooLong;exact zM2 (Nat.not_lt_of_le h)
end
section
variable {X:Cx}
def zb7 :V->List V->Hp->VK->Prop:=λx vs H Q=>∃l xs y,x=.ref l/\vs=[y]/\H l=some (.lst xs)/\xs.length<sizeLine/\Q .non (upd H l (.lst (xs++[y])))
def rO :MtM X "list.append" zb7:=by
 intro pins s σ H x vs v us Q I i g h;obtain⟨l,xs,y,rfl,rfl,c,b,q⟩:=h;cases i;obtain⟨u,rfl,f⟩:=g.one;obtain⟨z,a,n,r,d,e⟩:=I.lstM c;refine call_meets F.slot_list_append ⟨_,e,rfl⟩ F.entry_list_append (F.args_list_append_2 _ _) (PySem.list_append l a.toArray n u (by rw[zM1];exact zQ0 (zM6 (zM9 d.symm) b))) ⟨e,?_⟩;refine⟨.non,_,I.lset c e (by simp) (r.append (.cons f .nil)) ?_,rfl,q⟩;rw[zM8,z05];exact b
def aI :V->List V->Hp->VK->Prop:=λx vs H Q=>∃l b xs zs,x=.ref l/\vs=[.ref b]/\H l=some (.lst xs)/\H b=some (.lst zs)/\xs.length+zs.length<=sizeLine/\Q .non (upd H l (.lst (xs++zs)))
def jT :MtM X "list.extend" aI:=by
 intro pins s σ H x vs v us Q I y o h;obtain⟨l,b,xs,zs,rfl,rfl,k,w,j,q⟩:=h;cases y;obtain⟨u,rfl,m⟩:=o.one;cases m;obtain⟨z,c,n,r,i,e⟩:=I.lstM k;obtain⟨A,a,n2,t,g,p⟩:=I.lstM w;have f:c.toArray.size+a.toArray.size<=sizeLine:=by rw[zM1,zM1];exact zc8 j i g
 have d:¬(!c.toArray.isEmpty&&Builtin.List.listTooLong (c.toArray.size+a.toArray.size))=true:=by
  rw[oB f,z65];exact zM7
 refine call_meets F.slot_list_extend ⟨_,e,rfl⟩ F.entry_list_extend (F.args_list_extend_2 _ _)
  (AutoSeq1.list_extend_list_list_0 l c.toArray n b a.toArray n2 d (by rw[zM1];exact zL8 (zM9 i.symm) z) (zL8 f (zN3 _ _))) ⟨e,p,?_⟩
 refine⟨.non,_,I.lset k e (by simp) (r.append t) ?_,rfl,q⟩;rw[zM8];exact j
def zI9 :R2:=λx y H Q=>∃l b xs zs,x=.ref l/\y=.ref b/\H l=some (.lst xs)/\H b=some (.lst zs)/\xs.length+zs.length<=sizeLine/\∀p,H p=none->Q (.ref p) (upd H p (.lst (xs++zs)))
def zk9 :OpR X (binaryOp .Add) zI9:=by
 intro pins s σ H x y v u Q I p t h;obtain⟨l,b,xs,zs,rfl,rfl,g,m,f,q⟩:=h;cases p;cases t;obtain⟨z,c,n,r,j,e⟩:=I.lstM g;obtain⟨w,a,n2,i,d,o⟩:=I.lstM m;refine PySem.P.add_list e o ?_ (by rw[zM1,zM1];exact zc8 f j d);have k:c.toArray++a.toArray=(c++a).toArray:=by simp
 rw[k];exact⟨.ref _,_,I.lnew (r.append i) (by rw[zM8];exact f),rfl,q _ I.fresh⟩
def zJ5 :R2:=λx y H Q=>∃l k xs,x=.ref l/\y=.int k/\H l=some (.lst xs)/\-(2 ^ 63)<=k/\k<2 ^ 63/\xs.length*k.toNat<=sizeLine/\
 ∀p,H p=none->Q (.ref p) (upd H p (.lst (List.replicate k.toNat xs).flatten))
theorem len_rep {O:Type}(xs:List O)(k:Nat):(List.replicate k xs).flatten.length=k*xs.length:=by
 induction k with
 |zero=>simp
 |succ k a=>rw[zU8,zY5,zM8,a,Nat.succ_mul,Nat.add_comm]
def zt3 :OpR X (binaryOp .Mult) zJ5:=by
 intro pins s σ H x y v u Q I D B h;obtain⟨l,k,xs,rfl,rfl,C,p,A,o,q⟩:=h;cases D;obtain⟨t,rfl⟩:=B;obtain⟨z,b,n,r,w,e⟩:=I.lstM C;have hlen:b.toArray.size*k.toNat<=sizeLine:=by rw[zM1,<-w];exact o
 have g:¬b.toArray.size*k.toNat > (2 ^ 63-1) / 8:=by
  have:(sizeLine:Nat)<=(2 ^ 63-1) / 8:=by decide
  exact Nat.not_lt_of_le (zL8 hlen this)
 have f:¬(!Builtin.List.listFitsIndex k)=true:=by
  rw[fitsIndex_both p A];exact zM7
 have c:¬Builtin.List.listTooLong (b.toArray.size*k.toNat)=true:=by
  rw[oB hlen];exact zM7
 have d:List.foldl (λi j=>i++j) #[] (List.replicate (if b.toArray.isEmpty=true then 0 else k.toNat) b.toArray)=(List.replicate k.toNat b).flatten.toArray:=by
  have f0:∀m:Nat,List.foldl (λi j=>i++j) #[] (List.replicate m b.toArray)=(List.replicate m b).flatten.toArray:=λm=>by
   have:=foldl_rep b m [];rw[zV5]at this;exact this
  rw[f0];cases b with
  |nil=>simp
  |cons a E=>rw[if_neg (by simp)]
 refine wpAny_binaryOp_repeat_ref (T:="list") (U:="int") (by decide) ⟨_,e,rfl⟩ (λs'=>typeIs_int s' k t) noFill_list_mul F.fills_int_mul F.slot_int_rmul repeat_list F.slot_int_index.lookup
  (call_meets F.slot_int_rmul (typeIs_int s k t) F.entry_int_rmul (F.args_int_rmul_2 _ _) (int___rmul___int_list k t l b.toArray n)
   ⟨e,rfl,⟨_,e,rfl⟩,call_meets F.slot_list_mul ⟨_,e,rfl⟩ F.entry_list_mul (F.args_list_mul_2 _ _) (AutoListH.list___mul___list_int_3 l b.toArray n k t f g c) ⟨e,?_⟩⟩)
 rw[d];exact⟨.ref _,_,I.lnew (t':=s.toks) (r.rep k.toNat) (by rw[len_rep,Nat.mul_comm];exact o),rfl,q _ I.fresh⟩
end
section
variable {prog:Ah}{w:Ak}{A:Al}{E:Ab->Ac->Prop}{s:Ac}
end
section
variable {X:Cx}
end
end L2
namespace Att
open PySem PySem.W PySem.Calls PyProof.Rows
theorem uP {P:Params}{h:An}:∀(ns:List Int) (vs:List Ab),WellAll P h vs (ns.map WData.int)->IntsAre vs ns:=by
 intro ns
 induction ns with
 |nil=>
  intro vs w;rw[List.map_nil]at w;cases w;exact .nil
 |cons n ns c=>
  intro vs w;rw[zP4]at w;cases w with
  |cons a b=>
   cases a;exact .cons _ _ (c _ b)
theorem jD {l:OpenLaw}{n:Nat}(hn:l.most=some n){P:Params}{h:An}{args:List WData}{vals:List Ab}
  (b:l.row.toRowW.claim.pre args=true) (g:WellAll P h vals args):
  ∃a vs ns,vals=[Value.ref a]/\args=[WData.list (ns.map WData.int)]/\h.get? a=some {cls:=.type "list",data:=.seq vs.toArray}/\IntsAre vs ns/\ns.length<=n:=by
 have i:l.pre.holds [] {args:=args}=true:=(pre_splitW b).2;obtain⟨d,r,rfl,k,o⟩:=hasAllW_cons ((pre_splitW b).1);obtain rfl:=hasAllW_nil o;obtain⟨xs,rfl,s⟩:=hasW_list k;obtain⟨ns,rfl⟩:=items_int s;have hlen:ns.length<=n:=by
  unfold OpenLaw.pre at i;have f:(WTm.not (.lt (.lit (.int n)) (.len (.arg 0)))).holds [] {args:=[.list (ns.map .int)]}=true:=by
   have f:=(holds_andW i).1;rw[hn]at f;exact f
  have e:=condW_of f (w_not (w_lt w_lit (w_len_list (w_arg rfl))));rw[zK3]at e;refine zX1 λq=>?_
  first
   |(rw[zN5 ((Int.ofNat_lt.2 q))]at e;exact absurd e (by decide))
   |(simp at e;omega)
 cases g with
 |cons m p=>
  cases p;cases m with
  |list j c=>exact⟨_,_,ns,rfl,rfl,j,uP ns _ c,hlen⟩
def ir (l:OpenLaw)(args:List WData):l.row.toRowW.claim.post args (.bool true) args=true:=
 postW_of
  (show WShape.has [] (.bool true) .bool=true by first|rfl|decide|simp[WShape.has,WShape.arms,WShape.armsAll])
  (w_eq_bool (w_res rfl) w_lit) rfl
def attach_call {l:OpenLaw}{n:Nat}{q:Ah}{loose:List Str}{p:(Str->Option Ab)->An->Prop}{s:Ak->An->Prop}{d:DefRec}
  (hn:l.most=some n) (hdf:d.params.defaults=[])
  (call:∀(w:Ak) (s₀ b:Ac) (mg mb:Str->Option Ab) (g:Ad) (o:Obj) (pm cd doc:Ab) (a:Ad) (vs:List Ab) (ns:List Int),
   Ground q loose [] p w s₀ mg mb b.heap->s w b.heap->
   b.heap.get? g=some o->o.data=.func (docDef d.name d.params d.body d.scope pm cd doc)->b.heap.CodeRec cd d.name->mg d.name=some (.ref g)->
   b.heap.get? a=some {cls:=.type "list",data:=.seq vs.toArray}->IntsAre vs ns->ns.length<=n->b.gens=#[]->
   codeAny (Ag l.prog w) callerA (.call (.ref g) ⟨[.ref a],[]⟩) (λr s'=>r=.ok (.ret (.bool true))/\OldK b.heap s'.heap/\s'.os=b.os/\AllBare s'.gens) b):
  WalkO q loose p s l.row.toRowW d [] (λf vs=>PySem.call f vs):=by
 intro w s₀ b mg mb G Y g o pm cd doc dV kV t hd h k j hg args vals as e m y i v;obtain rfl:dV=.none:=Dflts.none k hdf;obtain rfl:kV=.none:=Dflts.noKw k;obtain⟨a,vs,ns,rfl,rfl,c,hints,hlen⟩:=jD hn e i;refine enter_call (zX6 (call w s₀ b mg mb g o pm cd doc a vs ns G Y t (fd_plain hd) h j c hints hlen hg) λr s' hq=>?_);obtain⟨rfl,u,z,x⟩:=hq;exact⟨.inl ⟨.bool true,.bool true,[],rfl,λ_=>rfl,.bool true,ir l _,λ_=>⟨List.Pairwise.nil,λ_ hm=>(nomatch hm)⟩⟩,u,z,x⟩
section
variable {prog:Ah}{w:Ak}{A:Al}{E:Ab->Ac->Prop}{s:Ac}{K:Frag}
end
end Att
namespace L2
open PySem PySem.Spec PyProof.Rows
theorem jW {vs:List Ab}{ns:List Int}(h:IntsAre vs ns):Vals (ns.map V.int) vs:=by
 induction h with
 |nil=>exact .nil
 |cons n t _ a=>exact .cons ⟨t,rfl⟩ a
def inClass (s:Ap)(j:Nat):Ap:=match s with
 |.ClassDef _ _ _ body _ _ _ _ _ _ _=>body.getD j (.Pass ⟨0,0,0,0⟩)
 |_=>.Pass ⟨0,0,0,0⟩
def zI (s:Ap):Arguments:=match s with
 |.FunctionDef _ a _ _ _ _ _ _ _ _=>a
 |_=>{posonlyargs:=[],args:=[],vararg:=none,kwonlyargs:=[],kw_defaults:=[],kwarg:=none,defaults:=[]}
def zt (s:Ap):List Ap:=match s with
 |.FunctionDef _ _ b _ _ _ _ _ _ _=>b
 |_=>[]
def zb (s:Ap):Aq:=match s with
 |.FunctionDef _ _ _ _ _ _ sc _ _ _=>sc
 |_=>{kind:=.function,names:=[],isGenerator:=false,isCoroutine:=false}
abbrev CX0 :CXT:=λ_ _ _ _ _ _=>False
abbrev E0 :XK:=λ_ _ _=>False
def rW {X:Cx}:Passes CX0 X E0:=λ_ _ _ _ _ _ _ h=>h.elim
structure Fun (K:Ae)(x qual:Str)(st:Ap)(f:Ad)(fd:Ao):Prop where
 ex:∃(oc:Ab) (od:Option Ad) (kV doc pm:Ab) (an:Option Ad) (cdv ct:Ab) (osl:Array (Option Ab)),
  fd=PySem.W.fnOf x qual (zI st) (zt st) (zb st) .none kV doc pm an cdv ct/\K.lookup f=some ⟨oc,od,.func fd,osl⟩/\PySem.W.codeIn K cdv qual=true
 kp:PySem.W.keepIn K (.ref f)=true
section
variable {P:Ah}{w:Ak}{K:Ae}{mg:Str->Option Ab}{base:An}
def Fun.ok {x qual:Str}{st:Ap}{f:Ad}{fd:Ao}{N ps:List Str}{k:Nat}{sp:Sp}(F:Fun K x qual st f fd)(S:zA N ps (zb st))(len:∀vs H Q E,sp vs H Q E->vs.length=ps.length)
  (a:∀(cdv:Ab) (A:Al) (outer:List Ar) (s:Ac) (H:Hp) (vs:List V) (Q:VK) (E:XK),zB k (A.deeper (envOfC qual (zb st) s.heap.objs.size f cdv))->sp vs H Q E->
   ∃t,PSs (yS CX0 P w K mg base N qual (zb st) f cdv A outer s H E).nox (zt st) t/\t {nx:=λ_ H'=>Q .non H',rt:=Q} (start N vs) H):zS P w K mg base CX0 (k+1) f fd ps sp:=by
 obtain⟨oc,od,kV,doc,pm,an,cdv,ct,osl,rfl,d,b⟩:=F.ex;refine kO d b S len λA outer s H vs Q E hr c=>?_;obtain⟨t,h,q⟩:=a cdv A outer s H vs Q E hr c;exact⟨t,h.nox,q⟩
def Fun.binds {x qual:Str}{st:Ap}{f:Ad}{fd:Ao}{ps:List Str}(F:Fun K x qual st f fd)
  (h:∀(kV doc pm:Ab) (an:Option Ad) (cdv ct:Ab) (us:List Ab),us.length=ps.length->bindArgs (PySem.W.fnOf x qual (zI st) (zt st) (zb st) .none kV doc pm an cdv ct) ⟨us,[]⟩=pure (ps.zip us)):Binds K fd ps []:=by
 obtain⟨oc,od,kV,doc,pm,an,cdv,ct,osl,rfl,b,a⟩:=F.ex;exact .all (h kV doc pm an cdv ct)
def qW {x qual:Str}{st:Ap}{f:Ad}{oc:Ab}{od an:Option Ad}{osl:Array (Option Ab)}{kV doc pm cdv ct:Ab}(l:K.lookup f=some ⟨oc,od,.func (PySem.W.fnOf x qual (zI st) (zt st) (zb st) .none kV doc pm an cdv ct),osl⟩)
  (c:PySem.W.codeIn K cdv qual=true) (k:PySem.W.keepIn K (.ref f)=true):Fun K x qual st f (PySem.W.fnOf x qual (zI st) (zt st) (zb st) .none kV doc pm an cdv ct):=⟨⟨oc,od,kV,doc,pm,an,cdv,ct,osl,rfl,l,c⟩,k⟩
end
def yt {n:Nat}(h:n<=1000):n<sizeLine:=zM6 h (by decide)
section
variable {X:Cx}
def pv (i:Nat){x:Str}{pos:Pos}(c:X.N[i]?=some x:=by rfl)(b:Vis X.env.scope x:=by first|exact Or.inl rfl|exact Or.inr (Or.inl rfl)|exact Or.inr (Or.inr rfl))(hd:(x == ("__debug__":Str))=false:=by decide)
  (a:(x == ("__classdict__":Str))=false:=by decide):PE X (.Name x pos) (zl9 i):=yu c b hd a
end
def rq {A B:Prop}(h:B):if false=true then A else B:=by
 rw[if_neg zM7];exact h
def rh {A B:Prop}(h:A):if true=true then A else B:=by
 rw[if_pos rfl];exact h
def zF9 {c A B:Prop}[Decidable c](a:c->A)(b:¬c->B):if c then A else B:=by
 by_cases h:c
 .rw[if_pos h];exact a h
 .rw[if_neg h];exact b h
def zr (H H':Hp):Prop:=∀b o,H b=some o->H' b=some o
def zr.refl (H:Hp):zr H H:=λ_ _ h=>h
def zr.trans {H H1 d:Hp}(a:zr H H1)(b:zr H1 d):zr H d:=λc o h=>b c o (a c o h)
def vo (cells:List (Str×Ad)):List (Str×NameKind)->List (Str×Ad)->List (Str×Ad)
 |[],acc=>acc
 |(n,k)::r,acc=>vo cells r (if k=.free then(n,(cells.lookup n).getD 0)::acc else acc)
def wR {env:Ar}{scope:Aq}(h:∀y∈scope.names,y.2=.free->∃c,env.cells.lookup y.1=some c):
  closureFor scope env=pure (vo env.cells scope.names []):=by
 have key:∀ns acc,(∀y∈ns,y.2=.free->∃c,env.cells.lookup y.1=some c)->
   (forIn ns acc λx r=>(if(x.2 == NameKind.free)=true then(do let a <-cellOf env x.1;pure (ForInStep.yield ((x.1,a)::r)))else pure (ForInStep.yield r):Sem (ForInStep (List (Str×Ad)))))=pure (vo env.cells ns acc):=by
  intro ns
  induction ns with
  |nil=>intro acc _;rfl
  |cons y r d=>
   intro acc hy;obtain⟨n,k⟩:=y;rw[z33];have hr:∀z∈r,z.2=.free->∃c,env.cells.lookup z.1=some c:=λz f=>hy z (zL1 _ f);by_cases hk:k=.free
   .subst hk;obtain⟨c,e⟩:=hy (n,.free) zL7 rfl;have e1:cellOf env n=pure c:=by
     unfold cellOf;rw[e]
    have b:((NameKind.free == NameKind.free)=true):=rfl;simp only[b,z26,e1,pure_bind];rw[d _ hr];show _=pure (vo env.cells r (if NameKind.free=NameKind.free then(n,(env.cells.lookup n).getD 0)::acc else acc));rw[if_pos rfl,e];rfl
   .have b:(k == NameKind.free)=false:=by simpa using hk
    simp only[b,zV2,z38,pure_bind];rw[d _ hr];show _=pure (vo env.cells r (if k=NameKind.free then(n,(env.cells.lookup n).getD 0)::acc else acc));rw[if_neg hk]
 have q:=key scope.names [] h;unfold closureFor;simp only[]at q ⊢;rw[show(forIn scope.names ([]:List (Str×Ad)) λx r=>_)=_ from q];rfl
theorem ny {cells:List (Str×Ad)}:∀(ns:List (Str×NameKind)) (acc:List (Str×Ad)),(∀y∈ns,y.2=.free->∃c,cells.lookup y.1=some c)->
  ∀x c,(x,c)∈vo cells ns acc->(x,c)∈acc\/((x,NameKind.free)∈ns/\cells.lookup x=some c)
 |[],acc,_,x,c,h=>.inl h
 |(n,k)::r,acc,hy,x,c,h=>by
  have hr:∀z∈r,z.2=.free->∃c,cells.lookup z.1=some c:=λz d=>hy z (zL1 _ d);have h':=h;rcases ny r _ hr x c h' with q|⟨j,f⟩
  .by_cases hk:k=.free
   .rw[if_pos hk]at q;rcases zK8.mp q with e|q
    .obtain⟨c',i⟩:=hy (n,k) zL7 hk;have e1:=congrArg Prod.fst e;have b:=congrArg Prod.snd e;have a:=i;rw[a]at b;have g:=b;subst e1 g hk;exact .inr ⟨zL7,a⟩
    .exact .inl q
   .rw[if_neg hk]at q;exact .inl q
  .exact .inr ⟨zL1 _ j,f⟩
theorem ou {cells:List (Str×Ad)}:∀(ns:List (Str×NameKind)) (acc:List (Str×Ad)) (p:Str×Ad),p∈acc->p∈vo cells ns acc
 |[],_,_,h=>h
 |(n,k)::r,acc,p,h=>by
  show p∈vo cells r (if k=.free then(n,(cells.lookup n).getD 0)::acc else acc);refine ou r _ p ?_;split
  .exact zL1 _ h
  .exact h
theorem oU {cells:List (Str×Ad)}:∀(ns:List (Str×NameKind)) (acc:List (Str×Ad)) (x:Str),(x,NameKind.free)∈ns->∃c,(x,c)∈vo cells ns acc
 |[],_,_,h=>by simp at h
 |(n,k)::r,acc,x,h=>by
  show ∃c,(x,c)∈vo cells r (if k=.free then(n,(cells.lookup n).getD 0)::acc else acc);rcases zK8.mp h with e|h
  .have e1:x=n:=congrArg Prod.fst e;have a:=congrArg Prod.snd e;subst e1 a;rw[if_pos rfl];exact⟨_,ou r _ _ zL7⟩
  .exact oU r _ x h
theorem mem_lookup {x:Str}{c:Ad}:∀{l:List (Str×Ad)},(x,c)∈l->∃d,l.lookup x=some d
 |[],h=>by simp at h
 |(n,a)::r,h=>by
  rw[zQ8];cases e:x == n with
  |true=>exact⟨a,rfl⟩
  |false=>
   rcases zK8.mp h with q|q
   .have e1:x=n:=congrArg Prod.fst q;rw[e1]at e;simp at e
   .exact mem_lookup q
structure zG (XN:List Str)(xs:Aq)(N:List Str)(imp:List (Option Nat))(scope:Aq):Prop where
 kind:scope.kind=.function
 nd:N.Nodup
 nocell:∀y∈scope.names,y.2≠.cell
 locs:∀y∈scope.names,y.2=.local->scope.names.lookup y.1=some .local
 frees:∀y∈scope.names,y.2=.free->xs.names.lookup y.1=some .cell\/xs.names.lookup y.1=some .free
 len:imp.length=N.length
 impsB:((imp.zip N).all λp=>match p.1 with|none=>true|some j=>XN[j]? == some p.2&&scope.names.lookup p.2 == some .free)=true
def zG.imps {XN N:List Str}{xs scope:Aq}{imp:List (Option Nat)}(S:zG XN xs N imp scope):∀(i j:Nat),imp[i]?=some (some j)->∃x,N[i]?=some x/\XN[j]?=some x/\scope.names.lookup x=some .free:=by
 intro i j h;have hn:i<N.length:=by rw[<-S.len];exact((zK7.mp h).1)
 have b:=zK4 hn;have hm:(some j,N[i])∈imp.zip N:=by
  have c:(imp.zip N)[i]?=some (some j,N[i]):=by
   rw[List.getElem?_zip_eq_some];exact⟨h,b⟩
  exact zQ3 c
 have a:=(z07.mp S.impsB _ hm);rw[zO6]at a;exact⟨N[i],b,eq_of_beq a.1,eq_of_beq a.2⟩
def xU (imp:List (Option Nat))(σ:St):St:=imp.map λo=>o.bind λj=>(σ[j]?).bind id
theorem iJ {imp:List (Option Nat)}{σ:St}{i:Nat}{v:V}(h:(xU imp σ)[i]?=some (some v)):∃j,imp[i]?=some (some j)/\σ[j]?=some (some v):=by
 unfold xU at h;rw[zM3]at h;cases e:imp[i]? with
 |none=>rw[e]at h;cases h
 |some o=>
  rw[e]at h;have h':=zO2 h;cases o with
  |none=>cases h'
  |some j=>
   have a:(σ[j]?).bind id=some v:=h';cases e2:σ[j]? with
   |none=>rw[e2]at a;cases a
   |some w=>
    rw[e2]at a;have b:w=some v:=a;exact⟨j,rfl,by rw[e2,b]⟩
def Cx.comp (X:Cx)(N:List Str)(scope:Aq)(C:Ad)(s2:Ac)(a:Hp)(fp:List Ad):Cx where
 prog:=X.prog
 w:=X.w
 K:=X.K
 mg:=X.mg
 base:=X.base
 A:=X.A
 N:=N
 s₀:=s2
 H₀:=a
 env:=compEnvC scope (vo X.env.cells scope.names []) C X.env
 outer:=X.stack
 stack:=X.stack
 ex:=fp
 fn:=λ_=>false
 calm:=X.calm
 pn:=[]
 xe:=λ_ _=>False
theorem vH {env:Ar}:∀{names:List (Str×NameKind)}{x:Str},
  (names.map λ(n,k)=>if(k == NameKind.free&&env.scope.kind == .function&&env.kindOf n == some .cell)then(n,NameKind.cell)else(n,k)).lookup x=some .cell\/
  (names.map λ(n,k)=>if(k == NameKind.free&&env.scope.kind == .function&&env.kindOf n == some .cell)then(n,NameKind.cell)else(n,k)).lookup x=some .free->
  (∀y∈names,y.2≠.cell)->(x,NameKind.free)∈names
 |[],x,h,_=>by simp at h
 |(n,k)::r,x,h,hc=>by
  have f:=@vH env r x;rw[zP4]at h;dsimp only at h;by_cases d:x=n
  .subst d;by_cases hk:k=.free
   .subst hk;exact zL7
   .have c:(k == NameKind.free)=false:=by simpa using hk
    simp only[c,zT8,zV2,z38,zQ8,beq_self_eq_true,z26]at h;rcases h with h|h
    .have e:=zO2 h;exact absurd e (hc (x,k) zL7)
    .have e:=zO2 h;exact absurd e hk
  .have a:(x == n)=false:=by simpa using d
   have step:∀b l,List.lookup x ((if b=true then(n,NameKind.cell)else(n,k))::l)=l.lookup x:=λb l=>by
    cases b<;>simp[zQ8,a]
   rw[step]at h;exact zL1 _ (f h λy hy=>hc y (zL1 _ hy))
theorem uu {env:Ar}:∀{names:List (Str×NameKind)}{x:Str},names.lookup x=some .free->
  (names.map λ(n,k)=>if(k == NameKind.free&&env.scope.kind == .function&&env.kindOf n == some .cell)then(n,NameKind.cell)else(n,k)).lookup x=some .cell\/
  (names.map λ(n,k)=>if(k == NameKind.free&&env.scope.kind == .function&&env.kindOf n == some .cell)then(n,NameKind.cell)else(n,k)).lookup x=some .free
 |[],x,h=>by simp at h
 |(n,k)::r,x,h=>by
  have a:=@uu env r x;rw[zP4];dsimp only;rw[zQ8]at h;cases hx:x == n with
  |true=>
   rw[hx]at h;have e:=zO2 h;subst e;by_cases hb:(NameKind.free == NameKind.free&&env.scope.kind == .function&&env.kindOf n == some .cell)=true
   .left;rw[if_pos hb];simp[zQ8,hx]
   .right;rw[if_neg hb];simp[zQ8,hx]
  |false=>
   rw[hx]at h;have step:∀b l,List.lookup x ((if b=true then(n,NameKind.cell)else(n,k))::l)=l.lookup x:=λb l=>by
    cases b<;>simp[zQ8,hx]
   rw[step];exact a h
section
variable {X:Cx}{pins:List (Ad×Obj)}{σ:St}{H2 H':Hp}{s2 s':Ac}{fp:List Ad}{N:List Str}{imp:List (Option Nat)}{scope:Aq}{C acc:Ad}
def ve (I:Inv X pins σ H2 s2)(S:zG X.N X.env.scope N imp scope):∀y∈scope.names,y.2=.free->∃c,X.env.cells.lookup y.1=some c:=λy hy hk=>I.ok.has y.1 (S.frees y hy hk)
def yY (I:Inv X pins σ H2 s2)(S:zG X.N X.env.scope N imp scope){x:Str}{c:Ad}(h:(vo X.env.cells scope.names []).lookup x=some c):(x,NameKind.free)∈scope.names/\X.env.cells.lookup x=some c:=by
 rcases ny scope.names [] (ve I S) x c (zR0 h)with q|q
 .exact absurd q (by simp)
 .exact q
def vD (I:Inv X pins σ H2 s2)(S:zG X.N X.env.scope N imp scope){x:Str}(h:(x,NameKind.free)∈scope.names):∃c,(vo X.env.cells scope.names []).lookup x=some c:=by
 obtain⟨c,a⟩:=oU scope.names [] x h;exact mem_lookup a
def eR {f:An}{V:Nat}{m:Str->Option Ab}{H:Nat}(I:Inv X pins σ H2 s2)(S:zG X.N X.env.scope N imp scope)(hf:∀b∈fp,yO X pins H2 b)(L:∀b∈fp,∃o,s2.heap.get? b=some o)
  (a:acc=s2.heap.objs.size) (s:C=s2.heap.objs.size+1) (old:∀b o,s2.heap.get? b=some o->f.get? b=some o) (hn:f.Ns C m)
  (M:f.get? acc=some {cls:=.type "list",data:=.seq ([]:List Ab).toArray H}):
  Inv (X.comp N scope C s2 H2 fp) [] (xU imp σ) (upd H2 acc (.lst [])) {s2 with heap:=f,toks:=V}:=by
 have Z:H2 acc=none:=I.hok.fresh (by rw[a];exact zK6 _);have B:C≠acc:=by rw[s,a];exact Nat.succ_ne_self _
 have F:∀x c,X.env.cells.lookup x=some c->c<s2.heap.objs.size:=λx c e=>by
  obtain⟨v,q⟩:=I.cell x c e;exact q.lt
 refine⟨⟨I.ok.mod,S.kind,I.ok.glob,I.ok.blt,?above,?inj,?has,?cab,I.ok.hd,I.ok.frames,.inl rfl,?exf,λb o e=>I.bs b o e,zL8 I.ok.bsz I.sz,?noex,?exfs,I.stack,I.stkFree⟩,
  rfl,I.bare,Un.laid old (by rw[a];exact zK6 _) Z,⟨m,hn,?loc⟩,?cell,?free,?freeC,λp Y=>absurd (show p∈([]:List (Ad×Obj))from Y) (by simp),I.hok.laid old (by rw[a];exact zK6 _) ⟨zL6 _,[],H,.nil,M⟩,?len⟩
 case above=>show s2.heap.objs.size<=C;rw[s];exact zT4 _
 case inj=>exact λx y c f P=>I.ok.inj x y c (yY I S f).2 (yY I S P).2
 case has=>exact λx W=>vD I S (vH W S.nocell)
 case cab=>exact λx c h _=>absurd h (by show ¬(false=true);simp)
 case exf=>
  intro b hb;obtain⟨o,A⟩:=L b hb;refine⟨?_,λx c e=>(hf b hb).2.2.2.2.1 x c (yY I S e).2⟩;rw[s];exact zL9 (zR8 (zL0 A))
 case noex=>
  intro b o e hb;rcases(hf b hb).2.2.2.1 with z|z
  .exact I.ok.noex b o e z
  .exact absurd (zK5 (zL0 e) (zL8 I.ok.bsz z)) (zQ6 _)
 case exfs=>
  intro b hb T;rcases zK8.mp (I.stkSub b T)with e|e
  .exact(hf b hb).2.1 e
  .exact(hf b hb).2.2.1 e
 case loc=>
  intro i x v e1 Q e3;obtain⟨j,R,U⟩:=iJ Q;obtain⟨y,n1,n2,D⟩:=S.imps i j R;have t:(X.comp N scope C s2 H2 fp).N[i]?=some y:=n1;rw[t]at e1;have E:=zO2 e1;subst E;have g:=S.frees (y,.free) (zR0 D) rfl;obtain⟨mX,O,w⟩:=I.loc;obtain⟨u,r,l⟩:=w j y v n2 U (.inr g);refine⟨u,r,?_⟩;rcases l with⟨k,_⟩|⟨k,c,e,z⟩
  .have J:X.env.scope.names.lookup y=some .local:=k;rcases g with z|z
   .have n:=z;rw[J]at n;cases n
   .have n:=z;rw[J]at n;cases n
  .obtain⟨d,hd⟩:=vD I S (zR0 D);have hd2:=(yY I S hd).2;rw[e]at hd2;have G:=zO2 hd2;subst G;exact .inr ⟨uu D,c,hd,z.keeps old⟩
 case cell=>
  intro x c e;obtain⟨v,q⟩:=I.cell x c (yY I S e).2;exact⟨v,q.keeps old⟩
 case free=>
  show upd H2 acc _ C=none;rw[zj B];exact I.hok.fresh (by rw[s];exact zT4 _)
 case freeC=>
  intro x c e;have K:=(yY I S e).2;rw[zj (by rw[a];exact zL9 (F x c K))];exact I.freeC x c K
 case len=>
  unfold xU;rw[zK3];exact S.len
def iQ {c:List (Ad×Obj)}{a:St}(I:Inv X pins σ H2 s2)(hf:∀b∈fp,yO X pins H2 b)(J:Inv (X.comp N scope C s2 H2 fp) c a H' s'):Inv X pins σ H' s':=
 I.call' J.os J.base J.hok J.bare λb hb=>⟨(hf b hb).2.2.2.1,(hf b hb).2.1,(hf b hb).2.2.2.2.1,(hf b hb).2.2.2.2.2⟩
end
section
variable {prog:Ah}{w:Ak}{A:Al}{R:Result->Ac->Prop}{s:Ac}
theorem qv {elt target iter:Am}{ifs:List Am}{scope:Aq}{pos:Pos}{it acc:Ab}{env:Ar}(I:Nat->Ac->Prop)
  (turn:∀n s,I n s->Aj (Ag prog w) A (pyNext it) (λr s1=>match r with
   |none=>R (.ok .next) s1
   |some v=>Aj (Ag prog w) A (letOwnedTupleGo target it v) (λ_ s2=>Aj (Ag prog w) A (assign target env v) (λ_ s3=>
     Aj (Ag prog w) A (forIn ifs true λc r=>if r=true then do let ok <-isTrue c env (eval c env);pure (ForInStep.yield ok)else pure (ForInStep.yield r)) (λok s4=>
      if ok=true then Aj (Ag prog w) A (eval elt env) (λx s5=>
       Aj (Ag prog w) A (call (.builtin "list.append") [acc,x]) (λ_ b=>∃m,m<n/\I m b) (λ_ _=>False) s5) (λ_ _=>False) s4
      else ∃m,m<n/\I m s4) (λ_ _=>False) s3) (λ_ _=>False) s2) (λ_ _=>False) s1) (λ_ _=>False) s)
  (n:Nat) (h:I n s):codeAny (Ag prog w) A (.compLoop (.ListComp elt [⟨target,iter,ifs,0⟩] scope pos) 0 it acc env) R s:=by
 refine codeAny_loop rfl I (λn s i=>?_) n h;show Aj _ A ((compTurn (.ListComp elt [⟨target,iter,ifs,0⟩] scope pos) 0 it acc env).onRaise (λx=>do noteFrame x env;theTreesLotGoes x)) _ _ s;refine wpAny_noted ?_;rw[compTurn_list];refine zK0 (z23 (zK0 (zO9 (turn n s i) (λr s1 a=>?_) λ_ _ h'=>False.elim h')));cases r with
 |none=>exact zK2 a
 |some v=>
  refine zK0 (zO9 a (λ_ s2 e=>zK0 (zO9 e (λ_ s3 j=>zK0 (zO9 j (λok s4 d=>?_) λ_ _ h'=>False.elim h')) λ_ _ h'=>False.elim h')) λ_ _ h'=>False.elim h');cases ok with
  |false=>exact zK2 ⟨rfl,d⟩
  |true=>
   exact zK0 (zK0 (zO9 d (λx s5 f=>zK0 (zO9 f (λ_ b g=>zK2 (zK2 ⟨rfl,g⟩)) λ_ _ h'=>False.elim h')) λ_ _ h'=>False.elim h'))
end
def wy (Y:Cx)(ifs:List Am)(t:TT):Prop:=
 ∀(pins:List (Ad×Obj)) (s:Ac) (σ:St) (H:Hp) (Q:Bool->Hp->Prop),Inv Y pins σ H s->t σ H Q->
  Aj (Ag Y.prog Y.w) Y.A (forIn ifs true λc r=>if r=true then do let ok <-isTrue c Y.env (eval c Y.env);pure (ForInStep.yield ok)else pure (ForInStep.yield r)) (TP Y pins σ Q) Y.xe s
def zH4 :TT:=λ_ H Q=>Q true H
def zc6 {Y:Cx}:wy Y [] zH4:=λ_ _ _ H _ I h=>wpAny_tests_nil ⟨H,I,h⟩
def bB {Y:Cx}{c:Am}{t:TT}(h:PT Y c t):wy Y [c] t:=λpins s σ H Q I q=>wpAny_tests_one (h pins s σ H Q I q)
def lL (J:It)(acc:Ad)(g:TG)(tt:TT)(o:TE)(e:St)(H0:Hp)(Q:VK):Prop:=
 ∃W:Nat->Nat->List V->St->Hp->Prop,(∃m,W 0 m [] e H0)/\∀i m ys h d,W i m ys h d->
  (J.stop i d/\Q (.ref acc) d)\/(J.go i d/\∃N:List V->St->Hp->Prop,(∀b a H',N b a H'->∃k,k<m/\W (i+1) k b a H')/\
   ∀x j,J.yld i d x j->g x h j λτ2 n=>tt τ2 n λc f=>
    if c=true then o τ2 f λy l=>l acc=some (.lst ys)/\ys.length<sizeLine/\N (ys++[y]) τ2 (upd l acc (.lst (ys++[y])))else N ys τ2 f)
def cK (a:TI)(imp:List (Option Nat))(g:TG)(tt:TT)(b:TE):TE:=λσ H Q=>a σ H λJ H1=>∀acc,H1 acc=none->lL J acc g tt b (xU imp σ) (upd H1 acc (.lst [])) Q
section
variable {X:Cx}{pins:List (Ad×Obj)}{σ:St}{elt iter tg:Am}{ifs:List Am}{scope:Aq}{pos:Pos}{wi:TI}{g:TG}{tt:TT}{te:TE}{N:List Str}{imp:List (Option Nat)}
def sA {c:Hp}{s2:Ac}{it:Ad}{fp:List Ad}{tn:Nat->An->Prop}{J:It}{RR:Ab->Ad->Result->Ac->Prop}{E:Ab->Ac->Prop}{Q:VK}
  (hc:X.calm=true) (S:zG X.N X.env.scope N imp scope) (hg:∀C s2 c fp,PG (X.comp N scope C s2 c fp) tg g) (ht:∀C s2 c fp,wy (X.comp N scope C s2 c fp) ifs tt) (he:∀C s2 c fp,PE (X.comp N scope C s2 c fp) elt te)
  (Z:Inv X pins σ c s2) (T:Turn X.prog X.w X.K tg J fp it tn) (F:tn 0 s2.heap) (f2:∀b∈fp,yO X pins c b)
  (hW:∀acc,c acc=none->lL J acc g tt te (xU imp σ) (upd c acc (.lst [])) Q)
  (a5:∀a C H' s' m,Inv X pins σ H' s'->s'.heap.Ns C m->yO X pins H' C->Q (.ref a) H'->RR (.ref a) C (.ok .next) s'):
  Aj (Ag X.prog X.w) X.A (newList []) (λacc s3=>Aj (Ag X.prog X.w) X.A (newFunctionEnv scope X.env.globals (vo X.env.cells scope.names []) [] X.env.qual none .none (some X.env)) (λB s4=>
   codeAny (Ag X.prog X.w) X.A (.compStart (.ListComp elt [⟨tg,iter,ifs,0⟩] scope pos) 0 (.ref it) acc {B with scope:=relabel scope X.env}) (RR acc B.locals) s4) E s3) E s2:=by
 refine zS7 (wpAny_newFunctionEnv S.nocell (by intro y hy;simp at hy) (λh1 k j=>?_) S.kind);dsimp only at k j ⊢;generalize D:s2.heap.push {cls:=.type "list",dict:=none,data:=.seq ([]:List Ab).toArray}=HH at k j ⊢;have O:HH.objs.size=s2.heap.objs.size+1:=by rw[<-D,zR9]
 have I:s2.heap.objs.size≠HH.objs.size:=by rw[O];exact zL9 (zQ7 _)
 have old:∀b o,s2.heap.get? b=some o->h1.get? b=some o:=λb o e=>j.extBut b o (by rw[O];exact zL9 (zR8 (zL0 e))) (zK1 _ (D▸zK1 _ e));have P:=j.extBut _ _ I (zK1 _ (D▸zL2 _ rfl));obtain⟨W,⟨m0,w0⟩,turn⟩:=hW s2.heap.objs.size Z.fresh;generalize b6:HH.objs.size=C at k j O I ⊢;have ho:∀b∈fp,∃o,s2.heap.get? b=some o:=λb hb=>let⟨o,e,_⟩:=T.obj 0 _ F b hb;⟨o,e⟩;generalize f:s2.heap.objs.size=acc at *;have loop:∀s3:Ac,s3={s2 with heap:=h1,toks:=s2.toks+([]:List (Str×Ab)).length}->
   codeAny (Ag X.prog X.w) X.A (.compLoop (.ListComp elt [⟨tg,iter,ifs,0⟩] scope pos) 0 (.ref it) (.ref acc) (X.comp N scope C s2 c fp).env) (RR (.ref acc) C) s3:=by
  rintro s3 rfl;have I3:Inv (X.comp N scope C s2 c fp) [] (xU imp σ) (upd c acc (.lst [])) {s2 with heap:=h1,toks:=s2.toks+([]:List (Str×Ab)).length}:=
   eR Z S f2 ho f.symm (by rw[O,f]) old k P
  have a2:∀b∈fp,upd c acc (.lst []) b=none:=λb hb=>by
   obtain⟨o,e⟩:=ho b hb;rw[zj (by rw[<-f];exact zL9 (zL0 e))];exact(f2 b hb).1
  have l:∀{H':Hp},(∀b∈fp,H' b=none)->∀b∈fp,yO (X.comp N scope C s2 c fp) [] H' b:=λhn b hb=>by
   obtain⟨e1,e2⟩:=I3.ok.exf b hb;exact⟨hn b hb,e1,I3.ok.exfs b hb,.inl hb,e2,λp hp=>absurd (show p∈([]:List (Ad×Obj))from hp) (by simp)⟩
  refine qv (λn s'=>∃i ys q H',Inv (X.comp N scope C s2 c fp) [] q H' s'/\tn i s'.heap/\(∀b∈fp,H' b=none)/\W i n ys q H') ?_ m0
   ⟨0,[],_,_,I3,T.keep _ _ _ F λb _ o e=>old b o e,a2,w0⟩
  rintro n s4 ⟨i,ys,q,Y,I4,U,M,w4⟩;rcases turn i n ys q Y w4 with⟨stop,qn⟩|⟨go,NN,hN,step⟩
  .refine zO9 (T.done (X.comp N scope C s2 c fp) rfl rfl rfl hc i [] s4 q Y (λ_ _=>False) I4 (l M) U stop) (λr s5 b3=>?_) λ_ _ z=>z;obtain⟨hr,I5⟩:=b3;subst hr;obtain⟨m5,a3,_⟩:=id I5.loc;exact a5 acc C Y s5 m5 (iQ Z f2 I5) a3 (Z.fpOk (by rw[O,f];exact zT4 _) I5.free) qn
  .refine zO9 (T.item (X.comp N scope C s2 c fp) rfl rfl rfl hc i [] s4 q Y (λ_ _=>False) I4 (l M) U go) (λr s5 b2=>?_) λ_ _ z=>z;obtain⟨u,hr,h5⟩:=b2;subst hr;refine zO9 h5 (λ_ s6 a1=>?_) λ_ _ z=>z;obtain⟨x,H6,I6,r6,y6,G,a7⟩:=a1;refine zO9 (hg C s2 c fp _ s6 q H6 x u _ (I6.pinned (l a7) (T.obj _ _ G)) r6 (step x H6 y6)) (λ_ s7 b0=>?_) λ_ _ z=>z;obtain⟨h,H7,I7,q7⟩:=b0;refine zO9 (ht C s2 c fp _ s7 h H7 _ I7 q7) (λok s8 a8=>?_) λ_ _ z=>z;obtain⟨H8,I8,q8⟩:=a8;have again:∀{s:List V} {t:Hp} {H:Ac},Inv (X.comp N scope C s2 c fp) ([]++sD fp s6.heap) h t H->NN s h t->∃m,m<n/\∃i ys q H',Inv (X.comp N scope C s2 c fp) [] q H' H/\tn i H.heap/\(∀b∈fp,H' b=none)/\W i m ys q H':=λ{s t H} L n9=>by
    obtain⟨m',hm,w9⟩:=hN s h t n9;refine⟨m',hm,i+1,s,h,t,L.unpinned,T.keep _ _ _ G λb hb o e=>(L.pin (b,o) (zM4 _ (zM4 _ (xM hb e)))).1,λb hb=>?_,w9⟩;obtain⟨o,e,d⟩:=T.obj _ _ G b hb;exact(L.pin (b,o) (zM4 _ (zM4 _ (xM hb e)))).2.1
   cases ok with
   |false=>
    have a4:NN ys h H8:=by
     have z:=q8;rw[if_neg zM7]at z;exact z
    rw[if_neg zM7];exact again I8 a4
   |true=>
    rw[if_pos rfl]at q8 ⊢;refine zO9 (he C s2 c fp _ s8 h H8 _ I8 q8) (λv H a0=>?_) λ_ _ z=>z;obtain⟨y,t,L,r9,a9,z9,q9⟩:=a0;refine zO9 (rO (X:=X.comp N scope C s2 c fp) _ H h t (.ref acc) [y] (.ref acc) [v] (λ_ R=>R=upd t acc (.lst (ys++[y]))) L rfl (.cons r9 .nil) ⟨acc,ys,y,rfl,rfl,a9,z9,rfl⟩) (λ_ b5 b4=>?_) λ_ _ z=>z;obtain⟨_,R,a6,_,b1⟩:=b4;subst b1;exact again a6 q9
 exact codeAny_compStart_list (loop _ rfl) (T.self X.A 0 _ _ _ (T.keep _ _ _ F λb _ o e=>old b o e) (loop _ rfl))
def zE8 (z:X.calm=true)(S:zG X.N X.env.scope N imp scope)(hi:PI X tg iter wi)(hg:∀C s2 c fp,PG (X.comp N scope C s2 c fp) tg g)(y:∀C s2 c fp,wy (X.comp N scope C s2 c fp) ifs tt)
  (he:∀C s2 c fp,PE (X.comp N scope C s2 c fp) elt te) (k:∀x,foldedSetIterable iter X.env x=pure x:=by intro _;rfl):
  PE X (.ListComp elt [⟨tg,iter,ifs,0⟩] scope pos) (cK wi imp g tt te):=by
 intro pins s σ H Q I h;rw[eval_ListComp];refine wpAny_comprehension_free rfl k (wR (ve I S)) S.kind S.locs (thn (hi pins s σ H _ I h) λv s1 l=>thn l λt s2 n=>?_);obtain⟨it,fp,tn,J,c,e,p,T,d,f2,u⟩:=n;subst e;refine sA z S hg y he p T d f2 u λa C H' s' m w hn f q=>⟨m,hn,λh' sb=>?_⟩;obtain⟨r,g1,g2,g3,i,j⟩:=f;exact⟨.ref a,H',w.turned (λb o hb e=>(sb.2 b hb).trans e) r g1 g3 i j,rfl,q⟩
def eY {i:Nat}{x:Str}{px:Pos}{c:Pos}(P:X.calm=true)(S:zG X.N X.env.scope N imp scope)(hi:PI X tg iter wi)(hg:∀C s2 d fp,PG (X.comp N scope C s2 d fp) tg g)(Q:∀C s2 d fp,wy (X.comp N scope C s2 d fp) ifs tt)
  (he:∀C s2 d fp,PE (X.comp N scope C s2 d fp) elt te) (K:X.N.Nodup) (L:X.N[i]?=some x) (z:Loc X.env.scope x) (p:swapsWith (.ListComp elt [⟨tg,iter,ifs,0⟩] scope pos) (some (.Name x px)) c.line X.env=pure true:=by rfl)
  (hf:X.fn x=true\/X.env.scope.names.lookup x=some .local:=by first|exact .inl rfl|exact .inr rfl|assumption) (w:∀x,foldedSetIterable iter X.env x=pure x:=by intro _;rfl):
  PS X (.Assign [.Name x px] (.ListComp elt [⟨tg,iter,ifs,0⟩] scope pos) c) (zu8 (cK wi imp g tt te) (rR i)):=by
 intro pins s σ H D I h;rw[exec_Assign_Name_used _ _ _ _ p];refine zK0 (z23 (zK0 ?_));refine zK0 (zO9 (wpAny_comprehension_free rfl w (wR (ve I S)) S.kind S.locs (thn (hi pins s σ H _ I h) λv s1 y=>thn y λF s2 A=>?_))
  (λ_ s' hq=>zK2 (zK2 hq)) λ_ _ e=>e)
 obtain⟨it,fp,tn,J,d,e,B,T,r,f2,G⟩:=A;subst e;refine sA P S hg Q he B T r f2 G λa C H' s' m O hn f q=>?_;obtain⟨E,g1,g2,g3,t,u⟩:=f;refine wpAny_assign_Name (rC O K L z (show RelV (.ref a) (.ref a)from rfl) (λs4 M k=>?_) hf);obtain⟨ad,sb,j⟩:=k;have l:C≠ad:=by
  rcases j with e|e
  .rw[e];exact g1
  .exact(t x ad e).symm
 exact⟨m,hn.sameBut sb l,λh' n=>⟨_,H',M.turned (λb o hb e=>(n.2 b hb).trans e) E g1 g3 t u,q⟩⟩
end
mutual
inductive DV (H:Hp):V->Aa->Prop where
 |non:DV H .non .none
 |bl (b:Bool):DV H (.bl b) (.bool b)
 |int (i:Int):DV H (.int i) (.int i)
 |str (x:Str):DV H (.str x) (.str x)
 |lst {a:Ad}{xs:List V}{ds:List Aa}:H a=some (.lst xs)->DVs H xs ds->DV H (.ref a) (.list ds)
 |tup {a:Ad}{xs:List V}{ds:List Aa}:H a=some (.tup xs)->DVs H xs ds->DV H (.ref a) (.tuple ds)
inductive DVs (H:Hp):List V->List Aa->Prop where
 |nil:DVs H [] []
 |cons {x:V}{xs:List V}{d:Aa}{ds:List Aa}:DV H x d->DVs H xs ds->DVs H (x::xs) (d::ds)
end
def zC4 {H:Hp}{m1:V->Aa->Prop}{m2:List V->List Aa->Prop}(m:m1 .non .none)(c:∀b,m1 (.bl b) (.bool b))(g:∀i,m1 (.int i) (.int i))(e:∀x,m1 (.str x) (.str x))
  (n:∀{a:Ad} {xs:List V} {ds:List Aa},H a=some (.lst xs)->m2 xs ds->m1 (.ref a) (.list ds)) (o:∀{a:Ad} {xs:List V} {ds:List Aa},H a=some (.tup xs)->m2 xs ds->m1 (.ref a) (.tuple ds)) (n2:m2 [] []) (k2:∀{x:V} {xs:List V} {d:Aa} {ds:List Aa},m1 x d->m2 xs ds->m2 (x::xs) (d::ds)):
  (∀x d,DV H x d->m1 x d)/\∀xs ds,DVs H xs ds->m2 xs ds:=by
 let k:=λx d (_:DV H x d)=>m1 x d
 let M2:=λx d (_:DVs H x d)=>m2 x d
 have l:=λ{a} {xs} {ds} (q:H a=some (.lst xs)) (_:DVs H xs ds) (z:m2 xs ds)=>n q z;have f:=λ{a} {xs} {ds} (q:H a=some (.tup xs)) (_:DVs H xs ds) (z:m2 xs ds)=>o q z;have j:=λ{x} {xs} {d} {ds} (_:DV H x d) (_:DVs H xs ds) (y:m1 x d) (z:m2 xs ds)=>k2 y z;exact⟨λ_ _ h=>@DV.rec H k M2 m c g e l f n2 j _ _ h,λ_ _ h=>@DVs.rec H k M2 m c g e l f n2 j _ _ h⟩
section
variable {X:Cx}{pins:List (Ad×Obj)}{σ:St}{H:Hp}{s:Ac}
def aX (I:Inv X pins σ H s):(∀x d,DV H x d->∀u,RelV x u->∃as,Reads s.heap u d as)/\∀xs ds,DVs H xs ds->∀us,Vals xs us->∃as,ReadsAll s.heap us ds as:=by
 refine zC4 ?_ ?_ ?_ ?_ ?_ ?_ ?_ ?_
 .intro u r;cases(r);exact⟨_,.none⟩
 .intro b u r;cases(r);exact⟨_,.bool b⟩
 .intro i u r;obtain⟨t,rfl⟩:=(r);exact⟨_,.int i t⟩
 .intro x u r;obtain⟨t,rfl⟩:=(r);exact⟨_,.str x t⟩
 .intro a xs ds hq c u r;cases(r);obtain⟨g,j,p,l⟩:=I.list (SqL.of hq);obtain⟨o,f,k,n,hd⟩:=p.isList;obtain⟨as,e⟩:=c _ j;exact⟨_,.list f k hd (by simpa using e)⟩
 .intro a xs ds hq c u r;cases(r);obtain⟨g,j,p,l⟩:=I.tuple (SqT.of hq);obtain⟨o,f,k,n,hd⟩:=p;obtain⟨as,e⟩:=c _ j;exact⟨_,.tuple f k hd (by simpa using e)⟩
 .intro us r;cases r;exact⟨_,.nil⟩
 .intro x xs d ds h c us r;cases r with
  |cons r rs=>
   obtain⟨as,e⟩:=h _ r;obtain⟨bs,m⟩:=c _ rs;exact⟨_,.cons e m⟩
def DV.reads (I:Inv X pins σ H s){x:V}{d:Aa}{u:Ab}(h:DV H x d)(r:RelV x u):∃as,Reads s.heap u d as:=(aX I).1 _ _ h _ r
end
def zs7 {H H':Hp}(e:zr H H'):(∀x d,DV H x d->DV H' x d)/\∀xs ds,DVs H xs ds->DVs H' xs ds:=zC4 .non .bl .int .str (λq=>.lst (e _ _ q)) (λq=>.tup (e _ _ q)) .nil .cons
def DV.same {H H':Hp}(e:zr H H'){x:V}{d:Aa}(h:DV H x d):DV H' x d:=(zs7 e).1 _ _ h
def tyD :Aa->String
 |.none=>"NoneType"
 |.bool _=>"bool"
 |.int _=>"int"
 |.str _=>"str"
 |.list _=>"list"
 |.tuple _=>"tuple"
 |.dict _=>"dict"
theorem DV.ty {K:Ae}{H:Hp}{x:V}{d:Aa}(h:DV H x d):vm K H x (.type (tyD d)):=by
 cases h with
 |non=>exact .non
 |bl b=>exact .bl b
 |int i=>exact .int i
 |str x=>exact .str x
 |lst e _=>exact .lst e
 |tup e _=>exact .tup e
def isInt :Aa->Bool
 |.int _=>true
 |.bool _=>true
 |_=>false
def isBool :Aa->Bool
 |.bool _=>true
 |_=>false
def isStr :Aa->Bool
 |.str _=>true
 |_=>false
def isList :Aa->Bool
 |.list _=>true
 |_=>false
def aY :Aa->Bool
 |.tuple _=>true
 |_=>false
def af (T:String)(d:Aa):Option Bool:=
 if T="int" then some (isInt d)else if T="bool" then some (isBool d)else if T="str" then some (isStr d)else if T="list" then some (isList d)else if T="tuple" then some (aY d)else none
def zp6 (t T:String):Option Bool:=if(Value.type t == Value.type T)=true then some true else if PySem.W.kitMeta T=true then(fastBuiltinMro t).map (·.contains (Value.type T))else none
def cX (K:Ae)(t T:String):PySem.W.kitOne K (.type t) (.type T)=zp6 t T:=rfl
def cY :(["NoneType","bool","int","str","list","tuple"].all λt=>["int","bool","str","list","tuple"].all λT=>
  zp6 t T == some (if T="int" then t == "int"||t == "bool" else t == T))=true:=by decide +kernel
def zw1 (K:Ae){H:Hp}{x:V}{d:Aa}(h:DV H x d){T:String}{b:Bool}(e:af T d=some b):PySem.W.kitOne K (.type (tyD d)) (.type T)=some b:=by
 rw[cX];have key:∀t∈["NoneType","bool","int","str","list","tuple"],∀T∈["int","bool","str","list","tuple"],zp6 t T=some (if T="int" then t == "int"||t == "bool" else t == T):=λt c T f=>
  eq_of_beq (z07.mp (z07.mp cY t c) T f)
 have hd:tyD d∈["NoneType","bool","int","str","list","tuple"]:=by cases h<;>simp[tyD]
 unfold af at e;split at e
 .rename_i a;subst a;rw[key _ hd "int" (by decide)];cases e;cases h<;>rfl
 .split at e
  .rename_i a;subst a;rw[key _ hd "bool" (by decide)];cases e;cases h<;>rfl
  .split at e
   .rename_i a;subst a;rw[key _ hd "str" (by decide)];cases e;cases h<;>rfl
   .split at e
    .rename_i a;subst a;rw[key _ hd "list" (by decide)];cases e;cases h<;>rfl
    .split at e
     .rename_i a;subst a;rw[key _ hd "tuple" (by decide)];cases e;cases h<;>rfl
     .cases e
section
variable {X:Cx}
def zx1 :R2:=λx y H Q=>∃d e,DV H x d/\DV H y e/\SeqAt.shaped d=true/\SeqAt.shaped e=true/\Q (.bl (PyData.eqv d e)) H
def zD7 :R2:=λx y H Q=>∃d e,DV H x d/\DV H y e/\SeqAt.shaped d=true/\SeqAt.shaped e=true/\Q (.bl (!PyData.eqv d e)) H
def zn4 (b:X.A.units+64<cLine):OpR X (compareOp .Eq) zx1:=by
 intro pins s σ H x y v u Q I g j h;obtain⟨d,e,hd,he,a,f,q⟩:=h;obtain⟨as,c⟩:=hd.reads I g;obtain⟨bs,i⟩:=he.reads I j;exact SeqAt.compareEq_shaped c i a f b ⟨.bl _,H,I,rfl,q⟩
def zk7 (b:X.A.units+64<cLine):OpR X (compareOp .NotEq) zD7:=by
 intro pins s σ H x y v u Q I g j h;obtain⟨d,e,hd,he,a,f,q⟩:=h;obtain⟨as,c⟩:=hd.reads I g;obtain⟨bs,i⟩:=he.reads I j;exact SeqAt.compareNe_shaped c i a f b ⟨.bl _,H,I,rfl,q⟩
def cD :xj X (.builtin "isinstance") (λxs H Q=>∃x T t b,xs=[x,.ty T]/\vm X.K H x t/\PySem.W.kitOne X.K t (.type T)=some b/\Q (.bl b) H):=by
 intro pins s σ H xs us Q I r h;obtain⟨x,T,t,b,rfl,ty,e,q⟩:=h;obtain⟨u,v,rfl,c,d⟩:=Vals.two r;cases(d);exact jr I c ty e λa=>⟨.bl b,H,I.tok a,rfl,q⟩
def iL :xj X (.builtin "isinstance") (λxs H Q=>∃x T d b,xs=[x,.ty T]/\DV H x d/\af T d=some b/\Q (.bl b) H):=by
 intro pins s σ H xs us Q I r h;obtain⟨x,T,d,b,e,hd,a,q⟩:=h;exact cD pins s σ H xs us Q I r ⟨x,T,_,b,e,hd.ty,zw1 X.K hd a,q⟩
def zB2 (i j:Int):Prop:=0<j/\j.natAbs.log2<9000
def pN :OpR X (binaryOp .FloorDiv) (rI zB2 λi j=>.int (i / j)):=opI λi j _ _ _ _ _ b q=>by
 have a:=b.1;refine floordiv_int (Int.ne_of_gt a) ?_ (.inl (PyProof.noPylong_of_log2 b.2));rw[Int.fdiv_eq_ediv_of_nonneg _ (zZ1 a)];exact q
abbrev big :Int:=115792089237316195423570985008687907853269984665640564039457584007913129639936
def log2_small {j:Int}(h0:0<j)(h:j<big):j.natAbs.log2<9000:=by
 have hn:j.natAbs≠0:=by lia
 have a:j.natAbs<2 ^ 256:=by
  have e:2 ^ 256=115792089237316195423570985008687907853269984665640564039457584007913129639936:=by decide +kernel
  rw[e];unfold big at h
  lia
 have b:=(Nat.log2_lt hn).mpr a
 lia
def pD :xj X (.type "range") (λxs H Q=>∃i j:Int,xs=[.int i,.int j]/\∀p,H p=none->Q (.ref p) (upd H p (.rng i j))):=by
 intro pins s σ H xs us Q I r h;obtain⟨i,j,rfl,q⟩:=h;obtain⟨u,v,rfl,⟨t,rfl⟩,⟨t',rfl⟩⟩:=Vals.two r;refine call_range_2 ⟨.ref s.heap.objs.size,_,I.laid (o:=.rng i j) (λb u e=>zK1 _ e) (zK6 _) ⟨t,t',s.toks,zL2 _ rfl⟩,rfl,q _ (I.hok.fresh (zK6 _))⟩
def zq (lo:Int)(n:Nat):List Int:=(List.range n).map λi=>lo+(i:Nat)
def zf (lo:Int)(n:Nat):(zq lo n).length=n:=by simp[zq]
def yE {lo:Int}{n i:Nat}(h:i<n):(zq lo n)[i]?=some (lo+(i:Nat)):=by simp[zq,h]
def rj {lo:Int}{n:Nat}{acc:Array Ab}(h:ItemsOf (λi v=>∃t,v=.int (lo+i*1) t) acc n):Vals ((zq lo n).map V.int) acc.toList:=by
 obtain⟨d,g⟩:=h;have key:∀xs us,xs.length=us.length->(∀(i:Nat) x u,xs[i]?=some x->us[i]?=some u->RelV x u)->Vals xs us:=by
  intro xs
  induction xs with
  |nil=>intro us a _;cases us with|nil=>exact .nil|cons _ _=>simp at a
  |cons x xs j=>
   intro us a hr;cases us with
   |nil=>simp at a
   |cons u us=>exact .cons (hr 0 x u rfl rfl) (j us (by simpa using a) λi e f e1 b=>hr (i+1) e f (by simpa using e1) (by simpa using b))
 refine key _ _ ?_ λi x u e1 b=>?_
 .rw[zK3,zf];simp[d]
 .rw[zM3]at e1;have hi:i<n:=by
   have:=(zK7.mp b).1;simp[d]at this;exact this
  rw[yE hi]at e1;have c:=zO2 e1;subst c;obtain⟨t,k⟩:=g i u (by simpa using b);refine⟨t,?_⟩;rw[k,Int.mul_one]
def rf (m:X.calm=true):xj X (.type "list") (λxs H Q=>∃(p:Ad) (lo hi:Int),xs=[.ref p]/\H p=some (.rng lo hi)/\(-(2 ^ 62)<=lo/\lo<2 ^ 62/\-(2 ^ 62)<=hi/\hi<2 ^ 62)/\(hi-lo).toNat<=sizeLine/\(hi-lo).toNat<=2 ^ 24/\
  ∀l,H l=none->Q (.ref l) (upd H l (.lst ((zq lo (hi-lo).toNat).map V.int)))):=by
 intro pins s σ H xs us Q I r h;obtain⟨p,lo,hi,rfl,k,⟨j,n,d,g⟩,i,b,q⟩:=h;obtain⟨u,rfl,v⟩:=Vals.one r;cases(v);obtain⟨t,t',f,e⟩:=(I.hok p _ k);refine call_list_range (I.ok.hd m) e (small_one j n d g) (by rw[rangeSize_one];split<;>lia) b λh' w a c' hk c hit=>?_;refine⟨.ref s.heap.objs.size,_,I.laid (o:=.lst ((zq lo (hi-lo).toNat).map V.int)) hk (zK6 _) ⟨by rw[zK3,zf];exact i,a.toList,c',rj hit,by simpa using c⟩,rfl,q _ (I.hok.fresh (zK6 _))⟩
end
def jP (X:Cx)(body:List Ap):TS:=λD σ H=>∃t,PSs X body t/\t D σ H
def zJ {X:Cx}{body:List Ap}:PSs X body (jP X body):=λpins s σ H D I ⟨t,p,q⟩=>p pins s σ H D I q
def uZ {X:Cx}{st:Ap}{rest:List Ap}{D:Ends}{σ:St}{H:Hp}(M:St->Hp->Prop)(f:∃t,PS X st t/\t {D with nx:=M} σ H)(g:∀a H',M a H'->∃t,PSs X rest t/\t D a H'):
  ∃t,PSs X (st::rest) t/\t D σ H:=by
 obtain⟨t1,p1,k⟩:=f;refine⟨λc a H'=>c=D/\a=σ/\H'=H,?_,rfl,rfl,rfl⟩;intro pins s a H' c I h;obtain⟨e1,j,n⟩:=h;subst e1 j n;have step:PSs X (st::rest) (zw3 t1 λd σ2 b=>d=c/\M σ2 b):=zC p1 λpins s σ2 b d i ⟨e,m⟩=>by
  subst e;obtain⟨o,p2,l⟩:=g σ2 b m;exact p2 pins s σ2 b _ i l
 refine step pins s _ _ _ I ?_;show t1 {c with nx:=λσ2 b=>c=c/\M σ2 b} _ _;have e:(λ(σ2:St) (b:Hp)=>c=c/\M σ2 b)=M:=by
  funext σ2 b
  exact propext ⟨λz=>z.2,λz=>⟨rfl,z⟩⟩
 rw[e];exact k
def at0 {O:Type}{x:O}{xs:List O}:atI (x::xs) 0=some x:=vJ (j:=0) rfl
def zD1 (bs:List Int):Prop:=∃x y:Int,bs=[x,y]/\0<=y/\y<4294967296
structure yC (H:Hp)(t b c:Ad):Prop where
 ex:∃(n:Int) (bs cs:List Int),(b=t/\c=t)/\H t=some (.lst (bs.map V.int))/\H b=some (.lst (bs.map V.int))/\H c=some (.lst (cs.map V.int))/\zD1 bs/\n=0
def zm1 (t b:Ad)(H H':Hp):Prop:=∀a,a≠t->a≠b->H' a=H a
def fc :Sp:=λvs H Q _=>∃(t b c:Ad) (many:Int),vs=[.ref t,.int many]/\yC H t b c/\0<many/\many<big/\
 ∀(v:Int) (H':Hp),0<=v->v<many->yC H' t b c->zm1 t b H H'->Q (.int v) H'
def yC.free {H:Hp}{t b c l:Ad}(T:yC H t b c)(h:H l=none):l≠t/\l≠b/\l≠c:=by
 obtain⟨n,bs,cs,n1,e1,d,a,l1,l2⟩:=T.ex;exact⟨(zm e1 h).symm,(zm d h).symm,(zm a h).symm⟩
def yC.off {H H':Hp}{t b c:Ad}(T:yC H t b c)(h:∀a,a=t\/a=b\/a=c->H' a=H a):yC H' t b c:=by
 obtain⟨n,bs,cs,n1,e1,e,d,l1,l2⟩:=T.ex;exact⟨n,bs,cs,n1,by rw[h t (.inl rfl)];exact e1,by rw[h b (.inr (.inl rfl))];exact e,by rw[h c (.inr (.inr rfl))];exact d,l1,l2⟩
def cW {H:Hp}{t b c l:Ad}{o:HO}(T:yC H t b c)(h:l≠t/\l≠b/\l≠c):yC (upd H l o) t b c:=
 T.off λa ha=>zj (ha.elim (λe=>e▸h.1.symm) λha=>ha.elim (λe=>e▸h.2.1.symm) λe=>e▸h.2.2.symm)
def iP {H H':Hp}{t b c:Ad}(T:yC H t b c)(s:zr H H'):yC H' t b c:=by
 obtain⟨n,bs,cs,n1,e1,d,a,l1,l2⟩:=T.ex;exact⟨n,bs,cs,n1,s _ _ e1,s _ _ d,s _ _ a,l1,l2⟩
def yi {H:Hp}{p:Ad}{o:HO}(h:H p=none):zr H (upd H p o):=λb u e=>by rw[zj (zm e h)];exact e
def zZ :Ad:=(159:Nat)
def xS :Str:="cheapest_first.<locals>.<lambda>"
def vA (x:Ad):Prop:=x=zZ
def uB (c:Ad):HO:=.ext λh=>h.CodeRec (.ref c) xS
structure TabAt (H:Hp):Prop where
 ex:∃ps:Array Ab,H zZ=some (.tbl ps)/\TriplesOk ps.toList/\∀pos cv,codeAmong pos ps.toList=some cv->∃c,cv=.ref c/\H c=some (uB c)
def tG {H H':Hp}(T:TabAt H)(h:∀a o,(∀xs,o≠.lst xs)->H a=some o->H' a=some o):TabAt H':=by
 obtain⟨ps,e1,e,b⟩:=T.ex;refine⟨ps,h _ _ (λxs z=>nomatch z) e1,e,λpos cv f=>?_⟩;obtain⟨c,rfl,d⟩:=b pos cv f;exact⟨c,rfl,h _ _ (λxs z=>nomatch z) d⟩
def Plain (H:Hp)(l:Ad):Prop:=∀o,H l=some o->o≠uB l/\∀ps,o≠.tbl ps
def bS {H:Hp}{l:Ad}{o:HO}(T:TabAt H)(h:Plain H l):TabAt (upd H l o):=by
 obtain⟨ps,e1,d,b⟩:=T.ex;have n1:zZ≠l:=λz=>by rw[z]at e1;exact(h _ e1).2 ps rfl
 refine⟨ps,by rw[zj n1];exact e1,d,λpos cv e=>?_⟩;obtain⟨c,rfl,a⟩:=b pos cv e;have n2:c≠l:=λz=>by subst z;exact(h _ a).1 rfl
 exact⟨c,rfl,by rw[zj n2];exact a⟩
def iw {ps:Array Ab}:∀ts,HO.tbl ps≠HO.tup ts:=λ_ z=>by cases z
def tj {H:Hp}{x:Ad}(T:TabAt H)(h:vA x):∃o,H x=some o/\(∀ts,o≠.tup ts)/\∀xs,o≠.lst xs:=by
 obtain⟨ps,e1,_⟩:=T.ex;exact⟨_,by rw[h];exact e1,iw,λ_ z=>by cases z⟩
def rJ {H:Hp}{l:Ad}{xs:List V}(h:H l=some (.lst xs)):Plain H l:=λo e=>by
 rw[h]at e;cases e;exact⟨(λz=>by cases z),λps z=>by cases z⟩
def cQ {H:Hp}{l:Ad}{xs:List (Key×V)}(h:H l=some (.dK xs)):Plain H l:=λo e=>by
 rw[h]at e;cases e;exact⟨(λz=>by cases z),λps z=>by cases z⟩
def ic {H:Hp}{l C dx:Ad}{fs:List (Str×V)}(h:H l=some (.ins C dx fs)):Plain H l:=λo e=>by
 rw[h]at e;cases e;exact⟨(λz=>by cases z),λps z=>by cases z⟩
def oW {H:Hp}{l:Ad}(T:TabAt H)(h:H l=none):¬vA l:=λz=>by
 obtain⟨o,e,_⟩:=tj T z;rw[h]at e;cases e
def ak {H H':Hp}{t b:Ad}{xs ys:List V}(T:TabAt H)(c:H t=some (.lst xs))(hb:H b=some (.lst ys))(off:zm1 t b H H'):TabAt H':=tG T λa o no e=>by
 have n1:a≠t:=λz=>by rw[z,c]at e;cases e;exact no _ rfl
 have n2:a≠b:=λz=>by rw[z,hb]at e;cases e;exact no _ rfl
 rw[off a n1 n2];exact e
def zp1 {H H':Hp}(T:TabAt H)(h:zr H H'):TabAt H':=tG T λa o _ e=>h a o e
structure yp (n:Nat)(d:Aa):Prop where
 shw:d.showable=true
 nod:d.hasDict=false
 dep:d.depth<=8
 len:d.shown.length<=n
 lay:d.canLay0=true
def yp.mono {m n:Nat}{d:Aa}(h:yp m d)(e:m<=n):yp n d:=⟨h.shw,h.nod,h.dep,zL8 h.len e,h.lay⟩
theorem uD :∀(ts:List Str) (k:Nat) (acc:Str),(textFrom k acc ts).length<=acc.length+piled ts
 |[],_,acc=>by rw[piled_nil];exact zK6 _
 |t::r,k,acc=>by
  have h:=uD r (k+1) (acc++(if k > 0 then ", " else "":String)++t);rw[piled_cons];have c:(Str.ofString (if k > 0 then ", " else "":String)).length<=2:=by
   split
   .exact zM9 rfl
   .exact zL6 _
  have a:=zT5 (acc++Str.ofString (if k > 0 then ", " else "":String)) t;have b:=zT5 acc (Str.ofString (if k > 0 then ", " else "":String));show(textFrom (k+1) (acc++Str.ofString (if k > 0 then ", " else "":String)++t) r).length<=_
  lia
def pG (ts:List Str):(listText ts).length<=piled ts+2:=by
 unfold listText;rw[zT5];have h:=uD ts 0 (Str.ofString "[");have e1:(Str.ofString "[").length=1:=rfl;have a:(Str.ofString "]").length=1:=rfl
 lia
theorem qJ (ts:List Str):(tupleText ts).length<=piled ts+3:=by
 cases ts with
 |nil=>decide +kernel
 |cons t r=>
  have h:=join_length_add (t::r) (by simp);unfold tupleText;rw[zT5,zT5];have e1:(Str.ofString "(").length=1:=rfl;have a:(Str.ofString (if(t::r).length == 1 then ",)" else ")":String)).length<=2:=by
   split
   .exact zM9 rfl
   .exact zQ0 (show 1<2 by decide)
  lia
theorem wj {n:Nat}:∀(ds:List Aa),(∀d∈ds,yp n d)->piled (PyData.shownAll ds)<=ds.length*(n+2)
 |[],_=>zL6 _
 |d::r,h=>by
  have a:=(h d zL7).len;have b:=wj r λe he=>h e (zL1 _ he);show piled (d.shown::PyData.shownAll r)<=_;rw[piled_cons,zN0,Nat.succ_mul]
  lia
structure zR (n:Nat)(ds:List Aa):Prop where
 all:∀d∈ds,yp n d
 dep:∀d∈ds,d.depth<=7
theorem zR.parts {n:Nat}:∀{ds:List Aa},zR n ds->PyData.showableAll ds=true/\PyData.hasDictAll ds=false/\PyData.depthAll ds<=7/\PyData.canLayAll0 ds=true
 |[],_=>⟨rfl,rfl,zL6 _,rfl⟩
 |d::r,h=>by
  obtain⟨a,b,c,e⟩:=zR.parts ⟨λx f=>h.all x (zL1 _ f),λx f=>h.dep x (zL1 _ f)⟩;have hd:=h.all d zL7;refine⟨?_,?_,?_,?_⟩
  .simp only[PyData.showableAll,hd.shw,a,Bool.and_self]
  .simp only[PyData.hasDictAll,hd.nod,b,Bool.or_self]
  .simp only[PyData.depthAll];exact zB0 (h.dep d zL7) c
  .simp only[PyData.canLayAll0,hd.lay,e,Bool.and_self]
theorem yp.list {n m:Nat}{ds:List Aa}(h:zR n ds)(e:ds.length*(n+2)+2<=m):yp m (.list ds):=by
 obtain⟨a,b,c,f⟩:=h.parts;refine⟨by simp only[PyData.showable,a],by simp only[PyData.hasDict,b],by simp only[PyData.depth];exact zg0 c,?_,by simp only[PyData.canLay0,f]⟩;exact zk2 e (pG (PyData.shownAll ds)) (wj ds h.all)
theorem yp.tuple {n m:Nat}{ds:List Aa}(h:zR n ds)(e:ds.length*(n+2)+3<=m):yp m (.tuple ds):=by
 obtain⟨a,b,c,f⟩:=h.parts;refine⟨by simp only[PyData.showable,a],by simp only[PyData.hasDict,b],by simp only[PyData.depth];exact zg0 c,?_,by simp only[PyData.canLay0,f]⟩;exact zk2 e (qJ (PyData.shownAll ds)) (wj ds h.all)
def cT {i:Int}(h0:-big<i)(a:i<big):i.natAbs.log2<1920:=by
 by_cases hn:i.natAbs=0
 .rw[hn];decide
 .have b:i.natAbs<2 ^ 256:=by
   have e:2 ^ 256=115792089237316195423570985008687907853269984665640564039457584007913129639936:=by decide +kernel
   rw[e];unfold big at h0 a
   lia
  have c:=(Nat.log2_lt hn).mpr b
  lia
theorem yp.int {i:Int}(h0:-big<i)(b:i<big):yp 2000 (.int i):=by
 have a:=cT h0 b;refine⟨by simp only[PyData.showable,zW4];exact a,rfl,zL6 _,?_,rfl⟩;have:=int_text_len_1921 a;show(Str.ofString (toString i)).length<=2000
 lia
theorem yp.shaped {n:Nat}{d:Aa}(h:yp n d):SeqAt.shaped d=true:=by
 unfold SeqAt.shaped;rw[h.lay,Bool.true_and,zW4];have:=h.dep
 lia
section
variable {X:Cx}
end
def zJ0 :Aa->Bool
 |.int _=>true
 |_=>false
def yW (lo hi:Int):Aa->Bool
 |.int i=>decide (lo<=i)&&decide (i<=hi)
 |_=>false
def pairD :Aa->Bool
 |.tuple ds=>decide ((ds.length:Int)=2)
 |_=>false
abbrev iH :Aa->Bool:=yW 0 1000000
def zJ9 :Aa->Bool
 |.tuple [a,b]=>iH a&&iH b
 |_=>false
def zt5 :Aa->Option Int
 |.tuple [.int a,.int b]=>if iH (.int a)&&iH (.int b)then some (b-a)else none
 |_=>none
def we (d:Aa):Bool:=match zt5 d with
 |some k=>decide (0<=k)
 |none=>false
noncomputable def sub (p:Ad->Prop)(H:Hp):Hp:=λa=>open Classical in if p a then H a else none
def zi {p:Ad->Prop}{H:Hp}{a:Ad}{o:HO}(h:sub p H a=some o):p a/\H a=some o:=by
 unfold sub at h;split at h
 .rename_i b;exact⟨b,h⟩
 .cases h
def zD {p:Ad->Prop}{H:Hp}{a:Ad}{o:HO}(b:p a)(h:H a=some o):sub p H a=some o:=by
 unfold sub;rw[if_pos b];exact h
def zo {p q:Ad->Prop}{H H':Hp}(h:∀a o,p a->H a=some o->q a/\H' a=some o):zr (sub p H) (sub q H'):=λa o e=>by
 obtain⟨c,he⟩:=zi e;obtain⟨hq,b⟩:=h a o c he;exact zD hq b
def wo {p:Ad->Prop}{H:Hp}:zr (sub p H) H:=λ_ _ e=>(zi e).2
def zR.snoc {n:Nat}{ds:List Aa}{d:Aa}(h:zR n ds)(hd:yp n d)(a:d.depth<=7):zR n (ds++[d]):=
 ⟨λe he=>(zN6.mp he).elim (h.all e) λz=>by rw[zN1.mp z];exact hd,λe he=>(zN6.mp he).elim (h.dep e) λz=>by rw[zN1.mp z];exact a⟩
def zR.nil {n:Nat}:zR n []:=⟨λd hd=>by simp at hd,λd hd=>by simp at hd⟩
def zR.two {n:Nat}{d e:Aa}(hd:yp n d)(he:yp n e)(a:d.depth<=7)(b:e.depth<=7):zR n [d,e]:=(zR.nil.snoc hd a).snoc he b
section
variable {X:Cx}{e:Am}{es:List Am}
def uJ (X:Cx)(e:Am):TE:=λσ H Q=>∃t,PE X e t/\t σ H Q
def zh :PE X e (uJ X e):=λpins s σ H Q I a=>by obtain⟨t,p,q⟩:=a;exact p pins s σ H Q I q
def zw5 (X:Cx)(e:Am):TT:=λσ H Q=>∃t,PT X e t/\t σ H Q
def yU :PT X e (zw5 X e):=λpins s σ H Q I a=>by obtain⟨t,p,q⟩:=a;exact p pins s σ H Q I q
def zB5 (X:Cx)(es:List Am):TA:=λσ H Q=>∃t,PA X es t/\t σ H Q
def yv :PA X es (zB5 X es):=λpos pins s σ H Q I a=>by obtain⟨t,p,q⟩:=a;exact p pos pins s σ H Q I q
end
def oH :Key->Aa
 |.inl i=>.int i
 |.inr x=>.str x
def xcO (a C:Ad)(d:Option Ad):HO:=.ext λh=>∃o vs,h.get? a=some o/\o.cls=.ref C/\o.dict=d/\o.data=.fields vs
mutual
inductive AV (H:Hp):V->Aa->Prop where
 |non:AV H .non .none
 |bl (b:Bool):AV H (.bl b) (.bool b)
 |int (i:Int):AV H (.int i) (.int i)
 |str (x:Str):AV H (.str x) (.str x)
 |lst {a:Ad}{xs:List V}{ds:List Aa}:H a=some (.lst xs)->AVs H xs ds->AV H (.ref a) (.list ds)
 |tup {a:Ad}{xs:List V}{ds:List Aa}:H a=some (.tup xs)->AVs H xs ds->AV H (.ref a) (.tuple ds)
 |ins {a C dx:Ad}{fs:List (Str×V)}{ds:List (Aa×Aa)}:H a=some (.ins C dx fs)->AVf H fs ds->AV H (.ref a) (.dict ((.int (C:Nat),.none)::ds))
 |dk {a:Ad}{o:Obj}{kvs:List (Key×V)}{ds:List (Aa×Aa)}:H a=some (.frz o (.dK kvs))->AVk H kvs ds->AV H (.ref a) (.dict ((.none,.none)::ds))
 |dt {a:Ad}{o:Obj}{kvs:List (List Key×V)}{ds:List (Aa×Aa)}:H a=some (.frz o (.dT kvs))->AVt H kvs ds->AV H (.ref a) (.dict ((.none,.bool true)::ds))
 |xc {a C dx:Ad}{fs:List (Str×V)}{ds:List (Aa×Aa)}:H a=some (xcO a C (some dx))->H dx=some (.xd fs)->AVf H fs ds->AV H (.ref a) (.dict ((.int (C:Nat),.bool true)::ds))
 |xn {a C:Ad}:H a=some (xcO a C none)->AV H (.ref a) (.dict [(.int (C:Nat),.bool false)])
inductive AVs (H:Hp):List V->List Aa->Prop where
 |nil:AVs H [] []
 |cons {x:V}{xs:List V}{d:Aa}{ds:List Aa}:AV H x d->AVs H xs ds->AVs H (x::xs) (d::ds)
inductive AVf (H:Hp):List (Str×V)->List (Aa×Aa)->Prop where
 |nil:AVf H [] []
 |cons {f:Str}{x:V}{fs:List (Str×V)}{d:Aa}{ds:List (Aa×Aa)}:AV H x d->AVf H fs ds->AVf H ((f,x)::fs) ((.str f,d)::ds)
inductive AVk (H:Hp):List (Key×V)->List (Aa×Aa)->Prop where
 |nil:AVk H [] []
 |cons {k:Key}{x:V}{fs:List (Key×V)}{d:Aa}{ds:List (Aa×Aa)}:AV H x d->AVk H fs ds->AVk H ((k,x)::fs) ((oH k,d)::ds)
inductive AVt (H:Hp):List (List Key×V)->List (Aa×Aa)->Prop where
 |nil:AVt H [] []
 |cons {k:List Key}{x:V}{fs:List (List Key×V)}{d:Aa}{ds:List (Aa×Aa)}:AV H x d->AVt H fs ds->AVt H ((k,x)::fs) ((.tuple (k.map oH),d)::ds)
end
def cG {H:Hp}{m1:V->Aa->Prop}{m2:List V->List Aa->Prop}{m3:List (Str×V)->List (Aa×Aa)->Prop}{m4:List (Key×V)->List (Aa×Aa)->Prop}{m5:List (List Key×V)->List (Aa×Aa)->Prop}
  (u:m1 .non .none) (g:∀b,m1 (.bl b) (.bool b)) (l:∀i,m1 (.int i) (.int i)) (j:∀x,m1 (.str x) (.str x))
  (O:∀{a xs ds},H a=some (.lst xs)->m2 xs ds->m1 (.ref a) (.list ds)) (Q:∀{a xs ds},H a=some (.tup xs)->m2 xs ds->m1 (.ref a) (.tuple ds))
  (P:∀{a C dx fs ds},H a=some (.ins C dx fs)->m3 fs ds->m1 (.ref a) (.dict ((.int (C:Nat),.none)::ds))) (N:∀{a o kvs ds},H a=some (.frz o (.dK kvs))->m4 kvs ds->m1 (.ref a) (.dict ((.none,.none)::ds)))
  (L:∀{a o kvs ds},H a=some (.frz o (.dT kvs))->m5 kvs ds->m1 (.ref a) (.dict ((.none,.bool true)::ds))) (K:∀{a C dx fs ds},H a=some (xcO a C (some dx))->H dx=some (.xd fs)->m3 fs ds->m1 (.ref a) (.dict ((.int (C:Nat),.bool true)::ds)))
  (c:∀{a C},H a=some (xcO a C none)->m1 (.ref a) (.dict [(.int (C:Nat),.bool false)]))
  (n2:m2 [] []) (k2:∀{x xs d ds},m1 x d->m2 xs ds->m2 (x::xs) (d::ds)) (G:m3 [] []) (k3:∀{f x fs d ds},m1 x d->m3 fs ds->m3 ((f,x)::fs) ((.str f,d)::ds))
  (v:m4 [] []) (k4:∀{k x fs d ds},m1 x d->m4 fs ds->m4 ((k,x)::fs) ((oH k,d)::ds)) (B:m5 [] []) (k5:∀{k x fs d ds},m1 x d->m5 fs ds->m5 ((k,x)::fs) ((.tuple (k.map oH),d)::ds)):
  (∀x d,AV H x d->m1 x d)/\(∀x d,AVs H x d->m2 x d)/\(∀x d,AVf H x d->m3 x d)/\(∀x d,AVk H x d->m4 x d)/\∀x d,AVt H x d->m5 x d:=by
 have I:=λ{a} {xs} {ds} (q:H a=some (.lst xs)) (_:AVs H xs ds) (z:m2 xs ds)=>O q z;have D:=λ{a} {xs} {ds} (q:H a=some (.tup xs)) (_:AVs H xs ds) (z:m2 xs ds)=>Q q z;have F:=λ{a C dx} {fs} {ds} (q:H a=some (.ins C dx fs)) (_:AVf H fs ds) (z:m3 fs ds)=>P q z;have A:=λ{a o} {fs} {ds} (q:H a=some (.frz o (.dK fs))) (_:AVk H fs ds) (z:m4 fs ds)=>N q z;have w:=λ{a o} {fs} {ds} (q:H a=some (.frz o (.dT fs))) (_:AVt H fs ds) (z:m5 fs ds)=>L q z;have e:=λ{a C dx} {fs} {ds} (q:H a=some (xcO a C (some dx))) (M:H dx=some (.xd fs)) (_:AVf H fs ds) (z:m3 fs ds)=>K q M z;have n:=λ{x} {xs} {d} {ds} (_:AV H x d) (_:AVs H xs ds) (y:m1 x d) (z:m2 xs ds)=>k2 y z;have p:=λ{f} {x} {fs} {d} {ds} (_:AV H x d) (_:AVf H fs ds) (y:m1 x d) (z:m3 fs ds)=>k3 (f:=f) y z;have r:=λ{k} {x} {fs} {d} {ds} (_:AV H x d) (_:AVk H fs ds) (y:m1 x d) (z:m4 fs ds)=>k4 (k:=k) y z;have t:=λ{k} {x} {fs} {d} {ds} (_:AV H x d) (_:AVt H fs ds) (y:m1 x d) (z:m5 fs ds)=>k5 (k:=k) y z
 let s:=λx d (_:AV H x d)=>m1 x d
 let M2:=λx d (_:AVs H x d)=>m2 x d
 let J:=λx d (_:AVf H x d)=>m3 x d
 let E:=λx d (_:AVk H x d)=>m4 x d
 let m:=λx d (_:AVt H x d)=>m5 x d
 exact⟨λ_ _ h=>@AV.rec H s M2 J E m u g l j I D F A w e c n2 n G p v r B t _ _ h,λ_ _ h=>@AVs.rec H s M2 J E m u g l j I D F A w e c n2 n G p v r B t _ _ h,λ_ _ h=>@AVf.rec H s M2 J E m u g l j I D F A w e c n2 n G p v r B t _ _ h,λ_ _ h=>@AVk.rec H s M2 J E m u g l j I D F A w e c n2 n G p v r B t _ _ h,λ_ _ h=>@AVt.rec H s M2 J E m u g l j I D F A w e c n2 n G p v r B t _ _ h⟩
def AVs.ind {H:Hp}{motive:(xs:List V)->(ds:List Aa)->AVs H xs ds->Prop}(nil:motive [] [] .nil)(cons:∀{x:V}{xs:List V}{d:Aa}{ds:List Aa} (a:AV H x d) (r:AVs H xs ds),motive xs ds r->motive (x::xs) (d::ds) (.cons a r)){xs:List V}{ds:List Aa}(h:AVs H xs ds):motive xs ds h:=
 ((cG (m2:=λxs ds=>∃h:AVs H xs ds,motive xs ds h) .non .bl .int .str (λq z=>.lst q z.1) (λq z=>.tup q z.1) .ins .dk .dt .xc .xn ⟨.nil,nil⟩ (λa z=>⟨.cons a z.1,cons a z.1 z.2⟩) .nil .cons .nil .cons .nil .cons).2.1 _ _ h).2
def AVf.ind {H:Hp}{motive:(xs:List (Str×V))->(ds:List (Aa×Aa))->AVf H xs ds->Prop}(nil:motive [] [] .nil)(cons:∀{f:Str}{x:V}{fs:List (Str×V)}{d:Aa}{ds:List (Aa×Aa)} (a:AV H x d) (r:AVf H fs ds),motive fs ds r->motive ((f,x)::fs) ((.str f,d)::ds) (.cons a r)){xs:List (Str×V)}{ds:List (Aa×Aa)}(h:AVf H xs ds):motive xs ds h:=
 ((cG (m3:=λxs ds=>∃h:AVf H xs ds,motive xs ds h) .non .bl .int .str .lst .tup (λq z=>.ins q z.1) .dk .dt (λq s z=>.xc q s z.1) .xn .nil .cons ⟨.nil,nil⟩ (λa z=>⟨.cons a z.1,cons a z.1 z.2⟩) .nil .cons .nil .cons).2.2.1 _ _ h).2
def fq {H H':Hp}(e:zr H H'):(∀x d,AV H x d->AV H' x d)/\(∀x d,AVs H x d->AVs H' x d)/\(∀x d,AVf H x d->AVf H' x d)/\(∀x d,AVk H x d->AVk H' x d)/\∀x d,AVt H x d->AVt H' x d:=by refine cG .non .bl .int .str (λhq a=>.lst (e _ _ hq) a) (λhq a=>.tup (e _ _ hq) a) (λhq a=>.ins (e _ _ hq) a) (λhq a=>.dk (e _ _ hq) a) (λhq a=>.dt (e _ _ hq) a) (λhq hd a=>.xc (e _ _ hq) (e _ _ hd) a) (λhq=>.xn (e _ _ hq)) .nil .cons .nil .cons .nil .cons .nil .cons
def AV.same {H H':Hp}(e:zr H H'){x:V}{d:Aa}(h:AV H x d):AV H' x d:=(fq e).1 _ _ h
def AVs.same {H H':Hp}(e:zr H H'){xs:List V}{ds:List Aa}(h:AVs H xs ds):AVs H' xs ds:=(fq e).2.1 _ _ h
def AVk.same {H H':Hp}(e:zr H H'){fs:List (Key×V)}{ds:List (Aa×Aa)}(h:AVk H fs ds):AVk H' fs ds:=(fq e).2.2.2.1 _ _ h
def dv5 {H:Hp}:(∀x d,AV H x d->d.hasDict=false->DV H x d)/\(∀x d,AVs H x d->PyData.hasDictAll d=false->DVs H x d):=by
 have r:=cG (m1:=λx d=>d.hasDict=false->DV H x d) (m2:=λx d=>PyData.hasDictAll d=false->DVs H x d) (m3:=λ_ _=>True) (m4:=λ_ _=>True) (m5:=λ_ _=>True) (λ_=>.non) (λb _=>.bl b) (λi _=>.int i) (λx _=>.str x) (λhq a h=>.lst hq (a (by simpa only[PyData.hasDict]using h))) (λhq a h=>.tup hq (a (by simpa only[PyData.hasDict]using h))) (λ_ _ h=>by simp[PyData.hasDict]at h) (λ_ _ h=>by simp[PyData.hasDict]at h) (λ_ _ h=>by simp[PyData.hasDict]at h) (λ_ _ _ h=>by simp[PyData.hasDict]at h) (λ_ h=>by simp[PyData.hasDict]at h) (λ_=>.nil)
  (λh a e=>by
   simp only[PyData.hasDictAll,Bool.or_eq_false_iff]at e;exact .cons (h e.1) (a e.2)) trivial (λ_ _=>trivial) trivial (λ_ _=>trivial) trivial (λ_ _=>trivial)
 exact⟨r.1,r.2.1⟩
def AV.dv {H:Hp}{x:V}{d:Aa}(h:AV H x d)(e:d.hasDict=false):DV H x d:=dv5.1 _ _ h e
theorem AVs.length {H:Hp}{xs:List V}{ds:List Aa}(h:AVs H xs ds):xs.length=ds.length:=h.ind (motive:=λxs ds _=>xs.length=ds.length) rfl λ_ _ z=>congrArg (·+1) z
def AVs.append {H:Hp}{xs ys:List V}{ds es:List Aa}(h:AVs H xs ds)(k:AVs H ys es):AVs H (xs++ys) (ds++es):=h.ind (motive:=λxs ds _=>AVs H (xs++ys) (ds++es)) k λa _ z=>.cons a z
theorem AVs.get {H:Hp}{xs:List V}{ds:List Aa}{i:Nat}{d:Aa}(h:AVs H xs ds)(e:ds[i]?=some d):∃x,xs[i]?=some x/\AV H x d:=by
 induction h using AVs.ind generalizing i with
 |nil=>simp at e
 |cons a _ b=>
  cases i with
  |zero=>exact⟨_,rfl,zO2 e▸a⟩
  |succ i=>exact b e
theorem AVs.take {H:Hp}{xs:List V}{ds:List Aa}(n:Nat)(h:AVs H xs ds):AVs H (xs.take n) (ds.take n):=by
 induction h using AVs.ind generalizing n with
 |nil=>cases n<;>exact .nil
 |cons a _ b=>
  cases n with
  |zero=>exact .nil
  |succ n=>exact .cons a (b n)
theorem AVs.drop {H:Hp}{xs:List V}{ds:List Aa}(n:Nat)(h:AVs H xs ds):AVs H (xs.drop n) (ds.drop n):=by
 induction h using AVs.ind generalizing n with
 |nil=>cases n<;>exact .nil
 |cons a r b=>
  cases n with
  |zero=>exact .cons a r
  |succ n=>exact b n
theorem AVs.set {H:Hp}{x:V}{d:Aa}(a:AV H x d){xs:List V}{ds:List Aa}(i:Nat)(h:AVs H xs ds):AVs H (xs.set i x) (ds.set i d):=by
 induction h using AVs.ind generalizing i with
 |nil=>exact .nil
 |cons q r b=>
  cases i with
  |zero=>exact .cons a r
  |succ i=>exact .cons q (b i)
theorem AVs.atI {H:Hp}{xs:List V}{ds:List Aa}{i:Int}{d:Aa}(h:AVs H xs ds)(e:atI ds i=some d):∃x,L2.atI xs i=some x/\AV H x d:=by
 unfold L2.atI at e ⊢;rw[h.length];cases q:ixN ds.length i with
 |none=>rw[q]at e;cases e
 |some j=>
  rw[q]at e;exact h.get e
def cutD (ds:List Aa)(lo hi:Option Int):List Aa:=(ds.drop (HT.sIx ds.length 0 lo)).take (HT.sIx ds.length ds.length hi-HT.sIx ds.length 0 lo)
def AVs.cut {H:Hp}{xs:List V}{ds:List Aa}(h:AVs H xs ds)(lo hi:Option Int):AVs H (dJ xs lo hi) (cutD ds lo hi):=by
 unfold dJ cutD;rw[h.length];exact(h.drop _).take _
mutual
def noL :Aa->Bool
 |.list _=>false
 |.dict ((.none,_)::_)=>false
 |.dict kvs=>sN kvs
 |.tuple ds=>uh ds
 |_=>true
def uh :List Aa->Bool
 |[]=>true
 |d::r=>noL d&&uh r
def sN :List (Aa×Aa)->Bool
 |[]=>true
 |(_,d)::r=>noL d&&sN r
end
def Ob :HO->Prop
 |.lst _=>True
 |.dK _=>True
 |.frz _ _=>True
 |_=>False
def zD0 {H H':Hp}(e:∀a o,¬Ob o->H a=some o->H' a=some o):(∀x d,AV H x d->noL d=true->AV H' x d)/\(∀x d,AVs H x d->uh d=true->AVs H' x d)/\(∀x d,AVf H x d->sN d=true->AVf H' x d)/\(∀x d,AVk H x d->sN d=true->AVk H' x d):=by
 have r:=cG (m1:=λx d=>noL d=true->AV H' x d) (m2:=λx d=>uh d=true->AVs H' x d) (m3:=λx d=>sN d=true->AVf H' x d) (m4:=λx d=>sN d=true->AVk H' x d) (m5:=λ_ _=>True) (λ_=>.non) (λb _=>.bl b) (λi _=>.int i) (λx _=>.str x) (λ_ _ h=>by simp[L2.noL]at h) (λhq c h=>.tup (e _ _ (λz=>z) hq) (c (by simpa only[L2.noL]using h))) (λhq c h=>.ins (e _ _ (λz=>z) hq) (c (by simpa[L2.noL,L2.sN]using h))) (λ_ _ h=>by simp[L2.noL]at h) (λ_ _ h=>by simp[L2.noL]at h) (λhq hd c h=>.xc (e _ _ (λz=>z) hq) (e _ _ (λz=>z) hd) (c (by simpa[L2.noL,L2.sN]using h))) (λhq _=>.xn (e _ _ (λz=>z) hq)) (λ_=>.nil)
  (λh c q=>by
   simp only[L2.uh,zO6]at q;exact .cons (h q.1) (c q.2)) (λ_=>.nil)
  (λh c q=>by
   simp only[L2.sN,zO6]at q;exact .cons (h q.1) (c q.2)) (λ_=>.nil)
  (λh c q=>by
   simp only[L2.sN,zO6]at q;exact .cons (h q.1) (c q.2)) trivial (λ_ _=>trivial)
 exact⟨r.1,r.2.1,r.2.2.1,r.2.2.2.1⟩
theorem AV.noL {H H':Hp}(e:∀a o,¬Ob o->H a=some o->H' a=some o){x:V}{d:Aa}(h:AV H x d)(q:L2.noL d=true):AV H' x d:=(zD0 e).1 _ _ h q
def AVs.noL {H H':Hp}(e:∀a o,¬Ob o->H a=some o->H' a=some o){xs:List V}{ds:List Aa}(h:AVs H xs ds)(q:uh ds=true):AVs H' xs ds:=(zD0 e).2.1 _ _ h q
structure Fr where
 H0:Hp
 O0:Ad->Prop
 tp:Option (Ad×Ad×Ad)
inductive A where
 |dat (d:Aa)
 |ow (c:Aa)
 |deep (d:Aa) (S:Ad->Prop)
 |tape
 |at(l:Ad)
 |exc (r:Fr) (q:Aa->Prop)
 |pin (l:Ad) (vs:List V) (ds:List Aa)
 |nst (l:Ad) (ls:List Ad) (dss:List (List Aa))
@[reducible] def A.own (ds:List Aa):A:=.ow (.list ds)
abbrev bI (ds:List (Aa×Aa)):Aa:=.dict ((.none,.none)::ds)
abbrev Ev :=List (Option A)
def xV (o:HO):Prop:=∀ts,o≠.tup ts
def xE {xs:List V}:xV (.lst xs):=λ_ z=>by cases z
def Ob.notup {o:HO}(h:Ob o):xV o:=λts z=>by subst z;exact h
def NT (F:Fr)(x:Ad):Prop:=(∀t b c,F.tp=some (t,b,c)->x≠t/\x≠b)/\¬vA x
def Kz (F:Fr)(H H':Hp):Prop:=∀x o,H x=some o->NT F x->H' x=some o
structure zy (F:Fr)(H:Hp):Prop where
 tab:TabAt H
 ot:∀x,vA x->F.O0 x
 all:∀t b c,F.tp=some (t,b,c)->yC H t b c/\F.O0 t/\F.O0 b/\F.O0 c
instance {F:Fr} {H:Hp}:CoeFun (zy F H) (λ_=>∀t b c,F.tp=some (t,b,c)->yC H t b c/\F.O0 t/\F.O0 b/\F.O0 c):=⟨zy.all⟩
def zy.to {F F':Fr}{H:Hp}(t:zy F H)(f:F'.tp=F.tp)(d:∀x,F.O0 x->F'.O0 x):zy F' H:=⟨t.tab,λx h=>d x (t.ot x h),λa b c e=>by
 obtain⟨j,k,i,g⟩:=t a b c (f▸e);exact⟨j,d _ k,d _ i,d _ g⟩⟩
def zy.re {F F':Fr}{H H':Hp}(t:zy F H)(t':zy F' H')(d:F'.tp=F.tp):zy F H':=⟨t'.tab,t.ot,λa b c e=>⟨(t' a b c (d▸e)).1,(t a b c e).2⟩⟩
theorem zy.upd {F:Fr}{H:Hp}{l:Ad}{o:HO}(t:zy F H)(h:∀a b c,F.tp=some (a,b,c)->l≠a/\l≠b/\l≠c)(d:Plain H l):zy F (upd H l o):=⟨bS t.tab d,t.ot,λa b c e=>⟨cW (t a b c e).1 (h a b c e),(t a b c e).2⟩⟩
def zy.updO {F:Fr}{H:Hp}{l:Ad}{o:HO}(t:zy F H)(h:¬F.O0 l)(d:Plain H l):zy F (L2.upd H l o):=t.upd (λa b c e=>⟨λz=>h (by rw[z];exact(t a b c e).2.1),λz=>h (by rw[z];exact(t a b c e).2.2.1),λz=>h (by rw[z];exact(t a b c e).2.2.2)⟩) d
def foot (s:Option V):A->Ad->Prop
 |.ow _,x=>s=some (.ref x)
 |.deep _ S,x=>S x
 |.nst l ls _,x=>x∈l::ls
 |_,_=>False
def Ow (F:Fr)(O:Ev)(σ:St)(x:Ad):Prop:=F.O0 x\/∃(i:Nat) (a:A) (s:Option V),O[i]?=some (some a)/\σ[i]?=some s/\foot s a x
noncomputable abbrev Gz (F:Fr)(O:Ev)(σ:St)(H:Hp):Hp:=sub (λx=>¬Ow F O σ x) H
noncomputable def uL (S:Ad->Prop)(G H:Hp):Hp:=λx=>open Classical in if S x then H x else match G x with
 |some (.lst _)=>none
 |o=>o
def wK {S:Ad->Prop}{G a H H':Hp}(h:zr G a)(b:∀x o,S x->H x=some o->H' x=some o):zr (uL S G H) (uL S a H'):=λx o e=>by
 unfold uL at e ⊢;by_cases z:S x
 .rw[if_pos z]at e ⊢;exact b x o z e
 .rw[if_neg z]at e ⊢;cases q:G x with
  |none=>rw[q]at e;cases e
  |some u=>
   rw[h _ _ q];rw[q]at e;exact e
def sk {S:Ad->Prop}{G H:Hp}{x:Ad}{o:HO}(h:uL S G H x=some o):(S x/\H x=some o)\/(¬S x/\G x=some o):=by
 unfold uL at h;by_cases z:S x
 .rw[if_pos z]at h;exact .inl ⟨z,h⟩
 .rw[if_neg z]at h;split at h
  .cases h
  .exact .inr ⟨z,h⟩
inductive yN (G:Hp):HO->Aa->Prop where
 |lst {xs:List V}{ds:List Aa}:AVs G xs ds->yN G (.lst xs) (.list ds)
 |dk {kvs:List (Key×V)}{ds:List (Aa×Aa)}:AVk G kvs ds->yN G (.dK kvs) (bI ds)
def yN.ob {G:Hp}{o:HO}{c:Aa}(h:yN G o c):Ob o:=by cases h<;>trivial
theorem yN.same {G a:Hp}{o:HO}{c:Aa}(h:yN G o c)(s:zr G a):yN a o c:=by
 cases h with
 |lst h=>exact .lst (h.same s)
 |dk h=>exact .dk (h.same s)
theorem yN.av {G:Hp}{o:HO}{ds:List Aa}{l:Ad}(h:yN G o (.list ds))(e:G l=some o):AV G (.ref l) (.list ds):=by
 cases h with
 |lst h=>exact .lst e h
def yN.lst_inv {G:Hp}{o:HO}{ds:List Aa}(h:yN G o (.list ds)):∃xs,o=.lst xs/\AVs G xs ds:=by cases h;exact⟨_,rfl,by assumption⟩
theorem yN.plain {G H:Hp}{o:HO}{c:Aa}{l:Ad}(h:yN G o c)(e:H l=some o):Plain H l:=by
 cases h with
 |lst h=>exact rJ e
 |dk h=>exact cQ e
structure Lnk (r F:Fr)(H:Hp):Prop where
 tp:r.tp=F.tp
 o:∀x,r.O0 x->F.O0 x
 ok:zy r H
 k:Kz r r.H0 H
def xG (G H:Hp):List Ad->List (List Aa)->Prop
 |[],[]=>True
 |a::ls,ds::dss=>(∃xs,H a=some (.lst xs)/\AVs G xs ds)/\xG G H ls dss
 |_,_=>False
theorem xG.same {G c H H':Hp}(g:zr G c):∀{ls:List Ad}{dss:List (List Aa)},(∀a∈ls,∀o,H a=some o->H' a=some o)->xG G H ls dss->xG c H' ls dss
 |[],[],_,_=>trivial
 |a::ls,ds::dss,h,⟨⟨xs,e,av⟩,r⟩=>⟨⟨xs,h a zL7 _ e,av.same g⟩,xG.same g (λb hb=>h b (zL1 _ hb)) r⟩
 |[],_::_,_,z=>z.elim
 |_::_,[],_,z=>z.elim
theorem xG.obj {G H:Hp}:∀{ls:List Ad}{dss:List (List Aa)},xG G H ls dss->∀a∈ls,∃xs,H a=some (.lst xs)
 |[],_,_,_,h=>by cases h
 |b::ls,ds::dss,⟨⟨xs,e,_⟩,r⟩,a,h=>by
  rcases zK8.mp h with z|z
  .exact⟨xs,z▸e⟩
  .exact xG.obj r a z
 |_::_,[],z,_,_=>z.elim
theorem xG.avs {G H:Hp}{p:Ad->Prop}(g:zr G (sub p H)):∀{ls:List Ad}{dss:List (List Aa)},(∀a∈ls,p a)->xG G H ls dss->AVs (sub p H) (ls.map .ref) (dss.map .list)
 |[],[],_,_=>.nil
 |a::ls,ds::dss,h,⟨⟨xs,e,av⟩,r⟩=>.cons (.lst (zD (h a zL7) e) (av.same g)) (xG.avs g (λb hb=>h b (zL1 _ hb)) r)
 |[],_::_,_,z=>z.elim
 |_::_,[],_,z=>z.elim
def yQ (G:Hp)(F:Fr)(H:Hp)(s:Option V):A->Prop
 |.dat d=>∃v,s=some v/\AV G v d
 |.ow c=>∃l o,s=some (.ref l)/\H l=some o/\yN G o c/\¬F.O0 l/\F.H0 l=none
 |.deep d S=>∃v,s=some v/\AV (uL S G H) v d/\∀x,S x->¬F.O0 x/\F.H0 x=none/\∃xs,H x=some (.lst xs)
 |.tape=>∃t b c,F.tp=some (t,b,c)/\s=some (.ref t)
 |.at l=>s=some (.ref l)
 |.exc r _=>Lnk r F H
 |.pin l vs ds=>s=some (.ref l)/\G l=some (.lst vs)/\AVs G vs ds
 |.nst l ls dss=>s=some (.ref l)/\H l=some (.lst (ls.map .ref))/\xG G H ls dss/\(l::ls).Nodup/\∀x∈l::ls,¬F.O0 x/\F.H0 x=none
structure M (F:Fr)(O:Ev)(σ:St)(H:Hp):Prop where
 len:O.length=σ.length
 ok:∀(i:Nat) (a:A) (s:Option V),O[i]?=some (some a)->σ[i]?=some s->yQ (Gz F O σ H) F H s a
 dj:∀(i j:Nat) (a b:A) (s t:Option V) (x:Ad),O[i]?=some (some a)->O[j]?=some (some b)->σ[i]?=some s->σ[j]?=some t->foot s a x->foot t b x->i=j
 xd:∀(i:Nat) (r:Fr) (q:Aa->Prop),O[i]?=some (some (.exc r q))->∀(j:Nat) (a:A) (s:Option V) (x:Ad),O[j]?=some (some a)->σ[j]?=some s->foot s a x->r.H0 x=none
 tp:zy F H
 keep:Kz F F.H0 H
 oex:∀x,F.O0 x->∃o,H x=some o/\xV o
def M.at' {F:Fr}{O:Ev}{σ:St}{H:Hp}(m:M F O σ H){i:Nat}{a:Option A}(e:O[i]?=some a):∃s,σ[i]?=some s:=by
 have:i<σ.length:=by rw[<-m.len];exact(zK7.mp e).1
 exact⟨_,zK4 this⟩
theorem uX {G:Hp}{F:Fr}{H:Hp}{s:Option V}{a:A}{x:Ad}(h:yQ G F H s a)(f:foot s a x):¬F.O0 x/\F.H0 x=none/\∃o,H x=some o/\Ob o:=by
 cases a with
 |ow c=>
  obtain⟨l,o,g,i,b,m,j⟩:=h;rw[f]at g;cases g;exact⟨m,j,o,i,b.ob⟩
 |deep d S=>
  obtain⟨v,g,i,b⟩:=h;obtain⟨p,n,xs,z3⟩:=b x f;exact⟨p,n,_,z3,trivial⟩
 |dat d=>exact f.elim
 |tape=>exact f.elim
 |«at» l=>exact f.elim
 |exc r q=>exact f.elim
 |pin l vs ds=>exact f.elim
 |nst l ls dss=>
  obtain⟨g,i,b,m,j⟩:=h;have k:=f;refine⟨(j x k).1,(j x k).2,?_⟩;rcases zK8.mp k with z|z
  .exact⟨.lst (ls.map .ref),z▸i,trivial⟩
  .obtain⟨xs,e⟩:=b.obj x z;exact⟨.lst xs,e,trivial⟩
def Lnk.kz {r F:Fr}{H H':Hp}(l:Lnk r F H)(k:Kz F H H')(t:zy F H'):Lnk r F H':=⟨l.tp,l.o,l.ok.re t l.tp.symm,λx o e n=>k x o (l.k x o e n) ⟨λa b c z=>n.1 a b c (l.tp.trans z),n.2⟩⟩
theorem Lnk.none {r F:Fr}{H:Hp}(l:Lnk r F H){x:Ad}(h:H x=Option.none):r.H0 x=Option.none:=by
 cases q:r.H0 x with
 |none=>rfl
 |some o=>rw[l.k x o q ⟨λa b c e=>⟨((l.ok a b c e).1.free h).1,((l.ok a b c e).1.free h).2.1⟩,oW l.ok.tab h⟩]at h;cases h
def noX :A->Prop
 |.exc _ _=>False
 |_=>True
theorem yQ.stay {G u:Hp}{F F':Fr}{H H':Hp}{s:Option V}{a:A}(h:yQ G F H s a)(g:zr G u)(hf:∀x o,foot s a x->H x=some o->H' x=some o/\¬F'.O0 x/\F'.H0 x=none)(B:F'.tp=F.tp)(w:∀r q,a=.exc r q->Lnk r F H->Lnk r F' H'):yQ u F' H' s a:=by
 cases a with
 |dat d=>obtain⟨v,f,i⟩:=h;exact⟨v,f,i.same g⟩
 |ow c=>
  obtain⟨l,o,f,i,j,p,y⟩:=h;obtain⟨n,k,z3⟩:=hf l o f i;exact⟨l,o,f,n,j.same g,k,z3⟩
 |deep d S=>
  obtain⟨v,f,i,j⟩:=h;refine⟨v,f,i.same (wK g λx o z e=>(hf x o z e).1),λx z=>?_⟩;obtain⟨_,_,xs,e⟩:=j x z;obtain⟨n,k,z3⟩:=hf x _ z e;exact⟨k,z3,xs,n⟩
 |tape=>obtain⟨t,b,c,e,z⟩:=h;exact⟨t,b,c,B.trans e,z⟩
 |«at» l=>exact h
 |exc r q=>exact w r q rfl h
 |pin l vs ds=>exact⟨h.1,g _ _ h.2.1,h.2.2.same g⟩
 |nst l ls dss=>
  obtain⟨f,i,j,p,y⟩:=h;refine⟨f,(hf l _ zL7 i).1,j.same g λa ha o e=>(hf a o (zL1 _ ha) e).1,p,λx m=>?_⟩;rcases zK8.mp m with z|z
  .exact(hf x _ m (z▸i)).2
  .obtain⟨xs,e⟩:=j.obj x z;exact(hf x _ m e).2
section
variable {F:Fr}{O:Ev}{σ:St}{H H' H'':Hp}
theorem M.dat (m:M F O σ H)(i:Nat)(d:Aa)(e:O[i]?=some (some (.dat d))):∃v,σ[i]?=some (some v)/\AV (Gz F O σ H) v d:=by
 obtain⟨s,a⟩:=m.at' e;obtain⟨v,rfl,h⟩:=m.ok i _ s e a;exact⟨v,a,h⟩
def M.owc (m:M F O σ H)(i:Nat)(c:Aa)(e:O[i]?=some (some (.ow c))):∃l o,σ[i]?=some (some (.ref l))/\H l=some o/\yN (Gz F O σ H) o c/\¬F.O0 l/\F.H0 l=none:=by
 obtain⟨s,a⟩:=m.at' e;obtain⟨l,o,rfl,h⟩:=m.ok i _ s e a;exact⟨l,o,a,h⟩
theorem M.own (m:M F O σ H)(i:Nat)(ds:List Aa)(e:O[i]?=some (some (.own ds))):∃l xs,σ[i]?=some (some (.ref l))/\H l=some (.lst xs)/\AVs (Gz F O σ H) xs ds/\¬F.O0 l/\F.H0 l=none:=by
 obtain⟨l,o,c,f,d,a⟩:=m.owc i _ e;obtain⟨xs,rfl,b⟩:=d.lst_inv;exact⟨l,xs,c,f,b,a⟩
theorem M.deep (m:M F O σ H)(i:Nat)(d:Aa)(S:Ad->Prop)(e:O[i]?=some (some (.deep d S))):∃v,σ[i]?=some (some v)/\AV (uL S (Gz F O σ H) H) v d/\∀x,S x->¬F.O0 x/\F.H0 x=none/\∃xs,H x=some (.lst xs):=by
 obtain⟨s,a⟩:=m.at' e;obtain⟨v,rfl,h⟩:=m.ok i _ s e a;exact⟨v,a,h⟩
def M.tvar (m:M F O σ H)(i:Nat)(e:O[i]?=some (some .tape)):∃t b c,F.tp=some (t,b,c)/\σ[i]?=some (some (.ref t)):=by
 obtain⟨s,a⟩:=m.at' e;obtain⟨t,b,c,h,rfl⟩:=m.ok i _ s e a;exact⟨t,b,c,h,a⟩
def M.lnk (m:M F O σ H){i:Nat}{r:Fr}{q:Aa->Prop}(e:O[i]?=some (some (.exc r q))):Lnk r F H:=by
 obtain⟨s,a⟩:=m.at' e;exact m.ok i _ s e a
def Kz.refl :Kz F H H:=λ_ _ e _=>e
def Kz.trans (h:Kz F H H')(k:Kz F H' H''):Kz F H H'':=λx o e n=>k x o (h x o e n) n
def Kz.of_same (h:zr H H'):Kz F H H':=λx o e _=>h x o e
def zy.same (t:zy F H)(h:zr H H'):zy F H':=⟨zp1 t.tab h,t.ot,λa b c e=>⟨iP (t a b c e).1 h,(t a b c e).2⟩⟩
def zy.nt (t:zy F H){x:Ad}(h:¬F.O0 x):NT F x:=⟨λa b c e=>⟨λz=>h (z▸(t a b c e).2.1),λz=>h (z▸(t a b c e).2.2.1)⟩,λz=>h (t.ot x z)⟩
def ow0 {x:Ad}(h:¬Ow F O σ x):¬F.O0 x:=λz=>h (.inl z)
def Kz.gz (k:Kz F H H')(t:zy F H):zr (Gz F O σ H) (Gz F O σ H'):=zo λa o h e=>⟨h,k a o e (t.nt (ow0 h))⟩
def M.oex' (t:zy F H')(k:Kz F H H')(h:∀x,F.O0 x->∃o,H x=some o/\xV o):∀x,F.O0 x->∃o,H' x=some o/\xV o:=λx i=>by
 by_cases n:NT F x
 .obtain⟨o,d,hn⟩:=h x i;exact⟨o,k _ _ d n,hn⟩
 .by_cases z:vA x
  .obtain⟨o,d,hn,_⟩:=tj t.tab z;exact⟨o,d,hn⟩
  .have:∃a b c,F.tp=some (a,b,c)/\¬(x≠a/\x≠b):=by exact Classical.byContradiction λq=>n ⟨λa b c e=>(Classical.byContradiction λw=>q ⟨a,b,c,e,w⟩),z⟩
   obtain⟨a,b,c,e,w⟩:=this;obtain⟨n,bs,cs,_,e1,j,l,_⟩:=(t a b c e).1.ex;by_cases f:x=a
   .exact⟨_,f▸e1,xE⟩
   .by_cases g:x=b
    .exact⟨_,g▸j,xE⟩
    .exact absurd ⟨f,g⟩ w
theorem M.kz (m:M F O σ H)(k:Kz F H H')(t:zy F H'):M F O σ H' where
 len:=m.len
 ok:=λi a s e1 b=>(m.ok i a s e1 b).stay (k.gz m.tp) (λx o hf e=>by
  obtain⟨c,d,_⟩:=uX (m.ok i a s e1 b) hf;exact⟨k x o e (m.tp.nt c),c,d⟩) rfl λr _ _ l=>l.kz k t
 dj:=m.dj
 xd:=m.xd
 tp:=t
 keep:=m.keep.trans k
 oex:=M.oex' t k m.oex
def M.ft (m:M F O σ H){i:Nat}{a:A}{s:Option V}{x:Ad}(e1:O[i]?=some (some a))(b:σ[i]?=some s)(f:foot s a x):¬F.O0 x/\F.H0 x=none/\∃o,H x=some o/\Ob o:=uX (m.ok i a s e1 b) f
def M.owEx (m:M F O σ H){x:Ad}(h:Ow F O σ x):∃o,H x=some o/\xV o:=by
 rcases h with z|⟨i,a,s,e1,c,f⟩
 .exact m.oex x z
 .obtain⟨_,_,o,b,hb⟩:=m.ft e1 c f;exact⟨o,b,hb.notup⟩
def M.fresh (m:M F O σ H){l:Ad}(h:H l=none):¬Ow F O σ l:=λz=>by
 obtain⟨o,a,_⟩:=m.owEx z;rw[h]at a;cases a
theorem M.fresh0 (m:M F O σ H){l:Ad}(h:H l=none):F.H0 l=none:=by
 cases q:F.H0 l with
 |none=>rfl
 |some o=>rw[m.keep l o q (m.tp.nt λz=>m.fresh h (.inl z))]at h;cases h
def M.old (m:M F O σ H):zr (sub (λx=>¬F.O0 x) F.H0) (Gz F O σ H):=λa o e=>by
 obtain⟨c,d⟩:=zi e;refine zD ?_ (m.keep a o d (m.tp.nt c));rintro(z|⟨i,b,s,e1,g,f⟩)
 .exact c z
 .obtain⟨_,z,_⟩:=m.ft e1 g f;rw[d]at z;cases z
noncomputable def Fr.up (F:Fr)(G:Hp):Fr:={F with H0:=λx=>(F.H0 x).or (G x)}
def qL {G:Hp}{x:Ad}{o:HO}(h:F.H0 x=some o):(F.up G).H0 x=some o:=by show(F.H0 x).or (G x)=some o;rw[h];rfl
theorem lR {G:Hp}{x:Ad}(h:(F.up G).H0 x=none):F.H0 x=none:=by
 cases q:F.H0 x with
 |none=>rfl
 |some o=>rw[qL q]at h;cases h
theorem M.up (m:M F O σ H):M (F.up (Gz F O σ H)) O σ H where
 len:=m.len
 ok:=λi a s e1 c=>(m.ok i a s e1 c).stay (λ_ _ e=>e) (λx o hf e=>by
  obtain⟨d,f,_⟩:=m.ft e1 c hf;refine⟨e,d,?_⟩;show(F.H0 x).or (Gz F O σ H x)=none;rw[f];cases q:Gz F O σ H x with
  |none=>rfl
  |some o=>exact absurd (.inr ⟨i,a,s,e1,c,hf⟩) (zi q).1) rfl λr _ _ l=>⟨l.tp,l.o,l.ok,l.k⟩
 dj:=m.dj
 xd:=m.xd
 tp:=m.tp.to rfl λ_ z=>z
 keep:=λx o e n=>by
  have b:(F.H0 x).or (Gz F O σ H x)=some o:=e;cases q:F.H0 x with
  |none=>rw[q,Option.none_or]at b;exact(zi b).2
  |some o'=>rw[q]at b;cases b;exact m.keep x _ q n
 oex:=m.oex
def M.down {G:Hp}(m:M (F.up G) O σ H):M F O σ H where
 len:=m.len
 ok:=λi a s e1 b=>(m.ok i a s e1 b).stay (λ_ _ e=>e) (λx o hf e=>by
  obtain⟨c,d,_⟩:=m.ft e1 b hf;exact⟨e,c,lR d⟩) rfl λr _ _ l=>⟨l.tp,l.o,l.ok,l.k⟩
 dj:=m.dj
 xd:=m.xd
 tp:=m.tp.to rfl λ_ z=>z
 keep:=λx o e n=>m.keep x o (qL e) n
 oex:=m.oex
def M.upold {c:Ev}{b:St}{H1:Hp}(m0:M F c b H1)(m:M (F.up (Gz F c b H1)) O σ H):zr (Gz F c b H1) (Gz F O σ H):=λa o e=>by
 obtain⟨d,g⟩:=zi e;have f:(F.up (Gz F c b H1)).H0 a=some o:=by
  show(F.H0 a).or (Gz F c b H1 a)=some o;cases q:F.H0 a with
  |none=>exact e
  |some o'=>
   have:=m0.keep a o' q (m0.tp.nt (ow0 d));rw[g]at this;cases this;rfl
 exact m.old a o (zD (ow0 d) f)
end
def yz (F:Fr)(O:Ev)(σ:St)(H:Hp)(v:V)(H':Hp)(ds:List Aa):Prop:=
 ∃l xs,v=.ref l/\H l=none/\H' l=some (.lst xs)/\AVs (sub (λx=>¬Ow F O σ x/\x≠l) H') xs ds
def dI (F:Fr)(O:Ev)(σ:St)(H:Hp)(v:V)(H':Hp)(c:Aa):Prop:=
 ∃l o,v=.ref l/\H l=none/\H' l=some o/\yN (sub (λx=>¬Ow F O σ x/\x≠l) H') o c
def yz.c {F:Fr}{O:Ev}{σ:St}{H H':Hp}{v:V}{ds:List Aa}(h:yz F O σ H v H' ds):dI F O σ H v H' (.list ds):=by
 obtain⟨l,xs,b,e,d,a⟩:=h;exact⟨l,_,b,e,d,.lst a⟩
def yz.av {F:Fr}{O:Ev}{σ:St}{H H':Hp}{v:V}{ds:List Aa}(m:M F O σ H)(h:yz F O σ H v H' ds):AV (Gz F O σ H') v (.list ds):=by
 obtain⟨l,xs,rfl,b,c,d⟩:=h;exact .lst (zD (m.fresh b) c) (d.same (zo λa o h e=>⟨h.1,e⟩))
section
variable (X:Cx)(O:Ev)
def EvD (e:Am)(Q:Aa->Prop):Prop:=∀(F:Fr) (σ:St) (H:Hp) (R:VK),M F O σ H->(∀d v H',Q d->zy F H'->Kz F H H'->AV (Gz F O σ H') v d->R v H')->uJ X e σ H R
def EvL (e:Am)(Q:List Aa->Prop):Prop:=∀(F:Fr) (σ:St) (H:Hp) (R:VK),M F O σ H->(∀ds v H',Q ds->zy F H'->Kz F H H'->yz F O σ H v H' ds->R v H')->uJ X e σ H R
def EvT (e:Am)(Q:Bool->Prop):Prop:=∀(F:Fr) (σ:St) (H:Hp) (R:Bool->Hp->Prop),M F O σ H->(∀b H',Q b->zy F H'->Kz F H H'->R b H')->zw5 X e σ H R
def jE (F:Fr)(G:Hp)(v:V):A->Prop
 |.dat d=>AV G v d
 |.tape=>∃t b c,F.tp=some (t,b,c)/\v=.ref t
 |_=>False
inductive zK (F:Fr)(G:Hp):List V->List A->Prop where
 |nil:zK F G [] []
 |cons {v:V}{vs:List V}{a:A}{as:List A}:jE F G v a->zK F G vs as->zK F G (v::vs) (a::as)
def EvA (es:List Am)(Q:List A->Prop):Prop:=∀(F:Fr) (σ:St) (H:Hp) (R:List V->Hp->Prop),M F O σ H->(∀as vs H',Q as->zy F H'->Kz F H H'->zK F (Gz F O σ H') vs as->R vs H')->zB5 X es σ H R
end
theorem jE.to {F F':Fr}{G d:Hp}(s:zr G d)(f:F'.tp=F.tp){v:V}:∀{a:A},jE F G v a->jE F' d v a
 |.dat _,h=>AV.same s h
 |.tape,⟨t,b,c,e,z⟩=>⟨t,b,c,f.trans e,z⟩
 |.ow _,h=>h
 |.deep _ _,h=>h
 |.at _,h=>h
 |.exc _ _,h=>h
 |.pin _ _ _,h=>h
 |.nst _ _ _,h=>h
theorem zK.to {F F':Fr}{G a:Hp}(s:zr G a)(b:F'.tp=F.tp){vs:List V}{as:List A}(h:zK F G vs as):zK F' a vs as:=by
 induction h with
 |nil=>exact .nil
 |cons h _ c=>exact .cons (h.to s b) c
theorem zK.length {F:Fr}{G:Hp}:∀{vs:List V}{as:List A},zK F G vs as->vs.length=as.length
 |_,_,.nil=>rfl
 |_,_,.cons _ r=>by rw[zN0,zN0,zK.length r]
def A.d :A->Aa
 |.dat d=>d
 |.ow c=>c
 |.deep d _=>d
 |.nst _ _ dss=>.list (dss.map .list)
 |_=>.none
def gE (F:Fr)(v:V)(H':Hp):A->Prop
 |.dat d=>AV (sub (λx=>¬F.O0 x) H') v d
 |.ow c=>∃l xs ds,v=.ref l/\c=.list ds/\F.H0 l=none/\¬F.O0 l/\H' l=some (.lst xs)/\AVs (sub (λx=>¬F.O0 x/\x≠l) H') xs ds
 |.deep d S=>AV (uL S (sub (λx=>¬F.O0 x) H') H') v d/\∀x,S x->¬F.O0 x/\F.H0 x=none/\∃xs,H' x=some (.lst xs)
 |.nst l ls dss=>v=.ref l/\H' l=some (.lst (ls.map .ref))/\xG (sub (λx=>¬F.O0 x/\x∉l::ls) H') H' ls dss/\(l::ls).Nodup/\∀x∈l::ls,¬F.O0 x/\F.H0 x=none
 |_=>False
def xm (F:Fr)(v:V)(H':Hp)(a:A):Prop:=zy F H'/\Kz F F.H0 H'/\gE F v H' a
def spA (φ:List A->(A->Prop)->Prop):Sp:=λvs H b _=>∃(F:Fr) (as:List A) (Q:A->Prop),F.H0=H/\zy F H/\(∀x,F.O0 x->∃o,H x=some o/\xV o)/\zK F (sub (λx=>¬F.O0 x) H) vs as/\φ as Q/\∀a v H',Q a->xm F v H' a->b v H'
theorem gE.to {F F':Fr}{v:V}{H':Hp}{a:A}(r:gE F v H' a)(b:∀x,F'.O0 x->F.O0 x)(h0:∀x,F.H0 x=none->F'.H0 x=none):gE F' v H' a:=by
 have s:zr (sub (λx=>¬F.O0 x) H') (sub (λx=>¬F'.O0 x) H'):=zo λa o h e=>⟨λz=>h (b _ z),e⟩;cases a with
 |dat d=>exact AV.same s r
 |ow c=>
  obtain⟨l,xs,ds,f,q,g,k,j,i⟩:=r;exact⟨l,xs,ds,f,q,h0 _ g,λz=>k (b _ z),j,i.same (zo λa o h e=>⟨⟨λz=>h.1 (b _ z),h.2⟩,e⟩)⟩
 |deep d S=>
  obtain⟨f,g⟩:=r;refine⟨f.same (wK s λ_ _ _ e=>e),λx z=>?_⟩;obtain⟨p,n,z3⟩:=g x z;exact⟨λw=>p (b _ w),h0 _ n,z3⟩
 |tape=>exact r
 |«at» _=>exact r
 |exc _ _=>exact r
 |pin _ _ _=>exact r
 |nst l ls dss=>
  obtain⟨f,g,k,j,i⟩:=r;exact⟨f,g,k.same (zo λa o h e=>⟨⟨λz=>h.1 (b _ z),h.2⟩,e⟩) (λ_ _ _ e=>e),j,λx m=>⟨λz=>(i x m).1 (b _ z),h0 _ (i x m).2⟩⟩
structure ya where
 nx:Ev->Prop
 rt:A->Prop
 bk:Ev->Prop:=λ_=>False
 ct:Ev->Prop:=λ_=>False
structure oX (F:Fr)(E:ya)(D:Ends):Prop where
 nx:∀O σ H,M F O σ H->E.nx O->D.nx σ H
 rt:∀a v H,xm F v H a->E.rt a->D.rt v H
 bk:∀O σ H,M F O σ H->E.bk O->D.bk σ H
 ct:∀O σ H,M F O σ H->E.ct O->D.ct σ H
def SvS (X:Cx)(O:Ev)(a:List Ap)(E:ya):Prop:=∀(F:Fr) (σ:St) (H:Hp) (D:Ends),M F O σ H->oX F E D->jP X a D σ H
theorem oX.up {F:Fr}{G:Hp}{E:ya}{D:Ends}(e:oX F E D):oX (F.up G) E D where
 nx:=λO σ H m q=>e.nx O σ H m.down q
 bk:=λO σ H m q=>e.bk O σ H m.down q
 ct:=λO σ H m q=>e.ct O σ H m.down q
 rt:=λa v H r q=>e.rt a v H (by
  obtain⟨t,k,r⟩:=r;exact⟨t.to rfl λ_ z=>z,λx o e n=>k x o (qL e) n,r.to (λ_ z=>z) λx z=>lR z⟩) q
section
variable {X:Cx}{O:Ev}{e a b c:Am}{es:List Am}{pos p q:Pos}{Q:Aa->Prop}
def EvL.d (h:EvL X O e (λds=>Q (.list ds))):EvD X O e Q:=λF σ H R m k=>h F σ H R m λds v H' q t z f=>k _ v H' q t z (f.av m)
def EvD.imp {f:Aa->Prop}(h:EvD X O e f)(k:∀d,f d->Q d):EvD X O e Q:=λF σ H R m r=>h F σ H R m λd v H' q=>r d v H' (k d q)
def zc (i:Nat){x:Str}{d:Aa}(hi:O[i]?=some (some (.dat d)))(q:Q d)(h:X.N[i]?=some x:=by rfl)(g:Vis X.env.scope x:=by first|exact Or.inl rfl|exact Or.inr (Or.inl rfl)|exact Or.inr (Or.inr rfl))
  (hd:(x == ("__debug__":Str))=false:=by decide) (f:(x == ("__classdict__":Str))=false:=by decide):EvD X O (.Name x pos) Q:=λF σ H R m k=>by
 obtain⟨v,j,l⟩:=m.dat i d hi;exact⟨_,yu h g hd f,v,j,k d v H q m.tp Kz.refl l⟩
def zN {i:Int}{j:Nat}(q:Q (.int i)):EvD X O (.Constant (.int i) j pos) Q:=λF σ H R m k=>⟨_,zU,k _ _ H q m.tp Kz.refl (.int i)⟩
def eO {i:Bool}{j:Nat}(q:Q (.bool i)):EvD X O (.Constant (.bool i) j pos) Q:=λF σ H R m k=>⟨_,zB1,k _ _ H q m.tp Kz.refl (.bl i)⟩
def nZ {j:Nat}(q:Q .none):EvD X O (.Constant .none j pos) Q:=λF σ H R m k=>⟨_,gI,k _ _ H q m.tp Kz.refl .non⟩
def wZ {x:Str}{j:Nat}(q:Q (.str x)):EvD X O (.Constant (.str x) j pos) Q:=λF σ H R m k=>⟨_,mK,k _ _ H q m.tp Kz.refl (.str x)⟩
def zY {x:Str}{i:Int}(hg:Gl X x)(hm:∃t,X.mg x=some (.int i t))(q:Q (.int i))(hd:(x == ("__debug__":Str))=false:=by decide):EvD X O (.Name x pos) Q:=λF σ H R m k=>by
 obtain⟨t,hm⟩:=hm;exact⟨_,jn hg hm (show RelV (.int i) (.int i t)from⟨t,rfl⟩) hd,k _ _ H q m.tp Kz.refl (.int i)⟩
def sS {f:TE->TE->TE}(hf:PE X e (f (uJ X a) (uJ X b)))(hr:∀σ H R,f (uJ X a) (uJ X b) σ H R↔uJ X a σ H (λx H1=>uJ X b σ H1 λy j=>f (tC x) (tC y) σ j R))
  (h:EvD X O a λx=>EvD X O b λy=>∀(F:Fr) (σ:St) (H:Hp) (g i:V) (R:VK),M F O σ H->AV (Gz F O σ H) g x->AV (Gz F O σ H) i y->(∀d v H',Q d->zy F H'->Kz F H H'->AV (Gz F O σ H') v d->R v H')->f (tC g) (tC i) σ H R):
  EvD X O e Q:=λF σ H R m k=>by
 refine⟨_,hf,(hr σ H R).mpr ?_⟩;refine h F σ H _ m λx g H1 t t1 k1 n=>?_;have m1:=m.kz k1 t1;exact t F σ H1 _ m1 λy i j r l k2 o=>r F σ j g i R (m1.kz k2 l) (n.same (k2.gz m1.tp)) o λd v H' u t3 k3 s=>k d v H' u t3 ((k1.trans k2).trans k3) s
def AV.int_inv {H:Hp}{v:V}{i:Int}(h:AV H v (.int i)):v=.int i:=by cases h;rfl
def AV.bl_inv {H:Hp}{v:V}{i:Bool}(h:AV H v (.bool i)):v=.bl i:=by cases h;rfl
def AV.str_inv {H:Hp}{v:V}{i:Str}(h:AV H v (.str i)):v=.str i:=by cases h;rfl
def AV.tup_inv {H:Hp}{v:V}{ds:List Aa}(h:AV H v (.tuple ds)):∃a xs,v=.ref a/\H a=some (.tup xs)/\AVs H xs ds:=by cases h;exact⟨_,_,rfl,by assumption,by assumption⟩
def AV.lst_inv {H:Hp}{v:V}{ds:List Aa}(h:AV H v (.list ds)):∃a xs,v=.ref a/\H a=some (.lst xs)/\AVs H xs ds:=by cases h;exact⟨_,_,rfl,by assumption,by assumption⟩
def AV.non_inv {H:Hp}{v:V}(h:AV H v .none):v=.non:=by cases h;rfl
def AV.isnon {H:Hp}{v:V}{d:Aa}(h:AV H v d):decide (v=.non)=(match d with|.none=>true|_=>false):=by cases h<;>simp
def lu {op:Operator}{C:Int->Int->Prop}{g:Int->Int->V}{gd:Int->Int->Aa}(f:OpR X (binaryOp op) (rI C g))(hg:∀H i j,AV H (g i j) (gd i j))
  (h:EvD X O a λx=>EvD X O b λy=>∃i j,x=.int i/\y=.int j/\C i j/\Q (gd i j)):EvD X O (.BinOp a op b pos) Q:=by
 refine sS (yT f zh zh) (λ_ _ _=>Iff.rfl) (h.imp λx h=>h.imp λy d=>?_);obtain⟨i,j,e1,l,n,hq⟩:=d;subst e1 l;intro F σ H s t R m o r k;cases o.int_inv;cases r.int_inv;exact⟨i,j,rfl,rfl,n,k _ _ H hq m.tp Kz.refl (hg _ i j)⟩
def kA {op:Operator}{g:Int->Int->V}{gd:Int->Int->Aa}(f:OpR X (binaryOp op) (rI0 g))(hg:∀H i j,AV H (g i j) (gd i j))
  (h:EvD X O a λx=>EvD X O b λy=>∃i j,x=.int i/\y=.int j/\Q (gd i j)):EvD X O (.BinOp a op b pos) Q:=by
 refine sS (yT f zh zh) (λ_ _ _=>Iff.rfl) (h.imp λx h=>h.imp λy d=>?_);obtain⟨i,j,e1,l,hq⟩:=d;subst e1 l;intro F σ H r s R m n o k;cases n.int_inv;cases o.int_inv;exact⟨i,j,rfl,rfl,k _ _ H hq m.tp Kz.refl (hg _ i j)⟩
def qN (h:EvD X O a λx=>EvD X O b λy=>∃i j,x=.int i/\y=.int j/\Q (.int (i+j))):EvD X O (.BinOp a .Add b pos) Q:=kA qR (λ_ _ _=>.int _) h
def nY (h:EvD X O a λx=>EvD X O b λy=>∃i j,x=.int i/\y=.int j/\Q (.int (i-j))):EvD X O (.BinOp a .Sub b pos) Q:=kA zn9 (λ_ _ _=>.int _) h
def zt4 (h:EvD X O a λx=>EvD X O b λy=>∃i j,x=.int i/\y=.int j/\bX i j/\Q (.int (i*j))):EvD X O (.BinOp a .Mult b pos) Q:=lu (gd:=λi j=>.int (i*j)) qr (λ_ _ _=>.int _) h
def zp5 (h:EvD X O a λx=>EvD X O b λy=>∃i j,x=.int i/\y=.int j/\zm5 i j/\Q (.int (i ^ j.toNat))):EvD X O (.BinOp a .Pow b pos) Q:=lu zm8 (λ_ _ _=>.int _) h
def cR (h:EvD X O a λx=>EvD X O b λy=>∃i j,x=.int i/\y=.int j/\0<j/\Q (.int (i % j))):EvD X O (.BinOp a .Mod b pos) Q:=lu (gd:=λi j=>.int (i % j)) sF (λ_ _ _=>.int _) h
def vO {i j r:Int}{p1 p2:Pos}{n1 n2:Nat}(d:zm5 i j)(hr:i ^ j.toNat=r)(q:Q (.int r)):EvD X O (.BinOp (.Constant (.int i) n1 p1) .Pow (.Constant (.int j) n2 p2) pos) Q:=
 zp5 (zN (zN ⟨i,j,rfl,rfl,d,hr▸q⟩))
def qV {op:CmpOp}{g:Int->Int->Bool}(f:OpR X (compareOp op) (rI0 λi j=>.bl (g i j)))(hm:behindInMarks op b=false)
  (h:EvD X O a λx=>EvD X O b λy=>∃i j,x=.int i/\y=.int j/\Q (.bool (g i j))):EvD X O (.Compare a [op] [b] pos) Q:=by
 refine sS (qt f zh zh hm) (λ_ _ _=>Iff.rfl) (h.imp λx h=>h.imp λy d=>?_);obtain⟨i,j,e1,l,hq⟩:=d;subst e1 l;intro F σ H r s R m n o k;cases n.int_inv;cases o.int_inv;exact⟨i,j,rfl,rfl,k _ _ H hq m.tp Kz.refl (.bl _)⟩
def zd3 (h:EvD X O a λx=>EvD X O b λy=>∃i j,x=.int i/\y=.int j/\Q (.bool (decide (i<j)))):EvD X O (.Compare a [.Lt] [b] pos) Q:=qV zh1 (yo _) h
def zF1 (h:EvD X O a λx=>EvD X O b λy=>∃i j,x=.int i/\y=.int j/\Q (.bool (decide (i<=j)))):EvD X O (.Compare a [.LtE] [b] pos) Q:=qV pK (yo _) h
def zA2 (h:EvD X O a λx=>EvD X O b λy=>∃i j,x=.int i/\y=.int j/\Q (.bool (decide (j<i)))):EvD X O (.Compare a [.Gt] [b] pos) Q:=qV cJ (yo _) h
def xu :Aa->Bool
 |.none=>true
 |_=>false
def AV.non_iff {H:Hp}{v:V}{d:Aa}(h:AV H v d):decide (v=.non)=xu d:=by cases h<;>simp[xu]
def zo4 {j:Nat}(h:EvD X O a λx=>Q (.bool (xu x))):EvD X O (.Compare a [.Is] [.Constant .none j p] pos) Q:=λF σ H R m k=>by
 refine⟨_,qt cN zh gI (yo _),h F σ H _ m λx g H1 f t1 k1 d=>⟨rfl,?_⟩⟩;rw[d.non_iff];exact k _ _ H1 f t1 k1 (.bl _)
theorem dZ {op d:CmpOp}{g o:Int->Int->Bool}(s:OpR X (compareOp op) (rI0 λi j=>.bl (g i j)))(f:OpR X (compareOp d) (rI0 λi j=>.bl (o i j)))(hm:lastMarks [op,d] [b,c]=false)
  (h:EvD X O a λx=>EvD X O b λy=>∃i j,x=.int i/\y=.int j/\(if g i j=true then EvD X O c λz=>∃k,z=.int k/\Q (.bool (o j k))else Q (.bool false))):EvD X O (.Compare a [op,d] [b,c] pos) Q:=λF σ H R m k=>by
 refine⟨_,di s f zh zh zh hm,h F σ H _ m λx I H1 w t1 k1 B=>?_⟩;have m1:=m.kz k1 t1;refine w F σ H1 _ m1 λy G r D n k2 C=>?_;obtain⟨i,j,e1,v,hq⟩:=D;subst e1 v;cases B.int_inv;cases C.int_inv;refine⟨i,j,rfl,rfl,_,rfl,?_⟩;cases hg:g i j with
 |true=>
  rw[hg]at hq;refine rh ?_;refine(by simpa using hq:EvD X O c _) F σ r _ (m1.kz k2 n) λz J E A t3 k3 u=>?_;obtain⟨t,rfl,l⟩:=A;cases u.int_inv;exact⟨j,t,rfl,rfl,k _ _ E l t3 ((k1.trans k2).trans k3) (.bl _)⟩
 |false=>
  rw[hg]at hq;exact rq (k _ _ r (by simpa using hq) n (k1.trans k2) (.bl _))
def qT {Q:Bool->Prop}(h:EvD X O e λx=>∃k,x=.bool k/\Q k)(he:∀whole,isTrue e X.env whole=(do let v <-whole;standAt e.pos;holding [v] (truthy v)):=by intro _;rfl):EvT X O e Q:=λF σ H R m k=>by
 refine⟨_,zn2 zh he,h F σ H _ m λx g H1 f t1 k1 d=>?_⟩;obtain⟨b,rfl,q⟩:=f;cases d.bl_inv;exact⟨b,rfl,k b H1 q t1 k1⟩
def Cmp (r:R2)(x y:Aa)(k:Bool):Prop:=∀(p:Ad->Prop) (H:Hp) (d f:V) (R:VK),AV (sub p H) d x->AV (sub p H) f y->R (.bl k) H->r d f H R
def wt {op:CmpOp}{r:R2}{Q:Bool->Prop}(i:OpR X (compareOp op) r)(hm:behindInMarks op b=false)(h:EvD X O a λx=>EvD X O b λy=>∃k,Cmp r x y k/\Q k):EvT X O (.Compare a [op] [b] pos) Q:=λF σ H R m k=>by
 refine⟨_,lM i zh zh hm,h F σ H _ m λx f H1 t t1 k1 j=>?_⟩;have m1:=m.kz k1 t1;refine t F σ H1 _ m1 λy s d n g k2 l=>?_;obtain⟨b,o,q⟩:=n;exact o _ d f s _ (j.same (k2.gz m1.tp)) l ⟨b,rfl,k b d q g (k1.trans k2)⟩
def zc7 {g:Int->Int->Bool}{i j:Int}:Cmp (rI0 λi j=>.bl (g i j)) (.int i) (.int j) (g i j):=λp H k l R d f h=>by
 cases d.int_inv;cases f.int_inv;exact⟨i,j,rfl,rfl,h⟩
def qp {op:CmpOp}{g:Int->Int->Bool}{Q:Bool->Prop}(k:OpR X (compareOp op) (rI0 λi j=>.bl (g i j)))(hm:behindInMarks op b=false)
  (h:EvD X O a λx=>EvD X O b λy=>∃i j,x=.int i/\y=.int j/\Q (g i j)):EvT X O (.Compare a [op] [b] pos) Q:=
 wt k hm (h.imp λx h=>h.imp λy d=>by obtain⟨i,j,e1,f,q⟩:=d;exact⟨_,by subst e1 f;exact zc7,q⟩)
def zf1 {Q:Bool->Prop}(h:EvD X O a λx=>EvD X O b λy=>∃i j,x=.int i/\y=.int j/\Q (decide (i<j))):EvT X O (.Compare a [.Lt] [b] pos) Q:=qp zh1 (yo _) h
def zi3 {Q:Bool->Prop}(h:EvD X O a λx=>EvD X O b λy=>∃i j,x=.int i/\y=.int j/\Q (decide (j<i))):EvT X O (.Compare a [.Gt] [b] pos) Q:=qp cJ (yo _) h
def ze1 {Q:Bool->Prop}(h:EvD X O a λx=>EvD X O b λy=>∃i j,x=.int i/\y=.int j/\Q (decide (j<=i))):EvT X O (.Compare a [.GtE] [b] pos) Q:=qp zx7 (yo _) h
def wY {j:Nat}{Q:Bool->Prop}(h:EvD X O a λx=>Q (xu x)):EvT X O (.Compare a [.Is] [.Constant .none j p] pos) Q:=
 wt cN (yo _) (h.imp λx h=>nZ ⟨_,λp H g i R d f z=>⟨f.non_inv,by rw[d.non_iff];exact z⟩,h⟩)
def ag {j:Nat}{Q:Bool->Prop}(h:EvD X O a λx=>Q (!xu x)):EvT X O (.Compare a [.IsNot] [.Constant .none j p] pos) Q:=
 wt aQ (yo _) (h.imp λx h=>nZ ⟨_,λp H g i R d f z=>⟨f.non_inv,by rw[d.non_iff];exact z⟩,h⟩)
def zJ4 :Aa->Option Bool
 |.none=>some false
 |.bool b=>some b
 |.int i=>some (i != 0)
 |.list ds=>some (!ds.isEmpty)
 |.tuple ds=>some (!ds.isEmpty)
 |_=>none
theorem AVs.isEmpty {H:Hp}{xs:List V}{ds:List Aa}(h:AVs H xs ds):xs.isEmpty=ds.isEmpty:=by cases h<;>rfl
theorem ff {Q:Bool->Prop}(h:EvD X O e λx=>∃k,zJ4 x=some k/\Q k)(he:∀whole,isTrue e X.env whole=(do let v <-whole;standAt e.pos;holding [v] (truthy v)):=by intro _;rfl):EvT X O e Q:=λF σ H R m k=>by
 refine⟨_,dO zh he,h F σ H _ m λx l H1 g t1 k1 j=>?_⟩;obtain⟨b,hb,q⟩:=g;refine⟨b,?_,k b H1 q t1 k1⟩;cases j with
 |non=>cases hb;rfl
 |bl z=>cases hb;rfl
 |int i=>cases hb;rfl
 |str s=>cases hb
 |lst d f=>cases hb;exact .inl ⟨_,SqL.of (zi d).2,by rw[f.isEmpty]⟩
 |tup d f=>cases hb;exact .inr (.inl ⟨_,SqT.of (zi d).2,by rw[f.isEmpty]⟩)
 |ins _ _=>cases hb
 |dk _ _=>cases hb
 |dt _ _=>cases hb
 |xc _ _ _=>cases hb
 |xn _=>cases hb
def fN {Q:Bool->Prop}(h:EvT X O a λk=>Q (!k)):EvT X O (.UnaryOp .Not a pos) Q:=λF σ H R m k=>by exact⟨_,zu2 yU,h F σ H _ m λb H1 d t1 k1=>k _ H1 d t1 k1⟩
def EvW (X:Cx)(O:Ev)(e:Am)(Q:Bool->Prop):Prop:=∀(F:Fr) (σ:St) (H:Hp) (R:Bool->Hp->Prop),M F O σ H->(∀b H',Q b->zy F H'->Kz F H H'->R b H')->∃t,PW X e t/\t σ H R
def zH6 (X:Cx)(e:Am):TT:=λσ H Q=>∃t,PW X e t/\t σ H Q
def kI :PW X e (zH6 X e):=λw pins s σ H Q I d=>by obtain⟨t,p,q⟩:=d;exact p w pins s σ H Q I q
theorem EvW.t {Q:Bool->Prop}(h:EvW X O e Q):EvT X O e Q:=λF σ H R m k=>by
 obtain⟨t,p,q⟩:=h F σ H R m k;exact⟨t,p.pt,q⟩
variable {rest:List Am}
def uU {Q:Bool->Prop}(h:EvT X O a Q):EvW X O (.BoolOp .And [a] pos) Q:=λF σ H R m k=>⟨_,bw yU,h F σ H R m k⟩
def mD {Q:Bool->Prop}(h:EvT X O a Q):EvW X O (.BoolOp .Or [a] pos) Q:=λF σ H R m k=>⟨_,zn6 yU,h F σ H R m k⟩
theorem vS {Q:Bool->Prop}(h:EvT X O a λk=>if k=true then EvW X O (.BoolOp .And (b::rest) pos) Q else Q false):EvW X O (.BoolOp .And (a::b::rest) pos) Q:=λF σ H R m k=>by
 refine⟨_,zo7 yU kI,h F σ H _ m λc H1 d t1 k1=>?_⟩;cases c with
 |true=>exact rh ((by simpa using d:EvW X O _ Q) F σ H1 R (m.kz k1 t1) λb i g f k2=>k b i g f (k1.trans k2))
 |false=>exact rq (k _ H1 (by simpa using d) t1 k1)
theorem zB7 {Q:Bool->Prop}(h:EvT X O a λk=>if k=true then Q true else EvW X O (.BoolOp .Or (b::rest) pos) Q):EvW X O (.BoolOp .Or (a::b::rest) pos) Q:=λF σ H R m k=>by
 refine⟨_,zD3 yU kI,h F σ H _ m λc H1 d t1 k1=>?_⟩;cases c with
 |false=>exact rq ((by simpa using d:EvW X O _ Q) F σ H1 R (m.kz k1 t1) λb i g f k2=>k b i g f (k1.trans k2))
 |true=>exact rh (k _ H1 (by simpa using d) t1 k1)
def zr0 {op}(h:EvD X O a Q):EvD X O (.BoolOp op [a] pos) Q:=λF σ H R m k=>⟨_,zl8 zh,h F σ H R m k⟩
theorem zp0 (h:EvD X O a λx=>∃k,x=.bool k/\if k=true then EvD X O (.BoolOp .And (b::rest) pos) Q else Q (.bool false)):EvD X O (.BoolOp .And (a::b::rest) pos) Q:=λF σ H R m k=>by
 refine⟨_,zv8 zh zh,h F σ H _ m λx o H1 f t1 k1 i=>?_⟩;obtain⟨c,rfl,f⟩:=f;cases i.bl_inv;refine⟨c,rfl,?_⟩;cases c with
 |true=>exact rh (by simpa using f F σ H1 R (m.kz k1 t1) λd v n l g k2 j=>k d v n l g (k1.trans k2) j)
 |false=>exact rq (k _ _ H1 (by simpa using f) t1 k1 (.bl _))
theorem zE7 (h:EvD X O a λx=>∃k,x=.bool k/\if k=true then Q (.bool true)else EvD X O (.BoolOp .Or (b::rest) pos) Q):EvD X O (.BoolOp .Or (a::b::rest) pos) Q:=λF σ H R m k=>by
 refine⟨_,zE6 zh zh,h F σ H _ m λx o H1 f t1 k1 i=>?_⟩;obtain⟨c,rfl,f⟩:=f;cases i.bl_inv;refine⟨c,rfl,?_⟩;cases c with
 |false=>exact rq (by simpa using f F σ H1 R (m.kz k1 t1) λd v n l g k2 j=>k d v n l g (k1.trans k2) j)
 |true=>exact rh (k _ _ H1 (by simpa using f) t1 k1 (.bl _))
def zm4 (h:EvD X O a λx=>∃k,x=.bool k/\Q (.bool (!k))):EvD X O (.UnaryOp .Not a pos) Q:=λF σ H R m k=>by
 refine⟨_,zo8 zh,h F σ H _ m λx g H1 f t1 k1 d=>?_⟩;obtain⟨c,rfl,q⟩:=f;cases d.bl_inv;exact⟨c,rfl,k _ _ H1 q t1 k1 (.bl _)⟩
theorem mJ (h:EvT X O c λk=>if k=true then EvD X O a Q else EvD X O b Q):EvD X O (.IfExp c a b pos) Q:=λF σ H R m k=>by
 refine⟨_,dq yU zh zh,h F σ H _ m λx H1 l t1 k1=>?_⟩;cases x with
 |true=>exact rh (by simpa using l F σ H1 R (m.kz k1 t1) λd v j i f k2 g=>k d v j i f (k1.trans k2) g)
 |false=>exact rq (by simpa using l F σ H1 R (m.kz k1 t1) λd v j i f k2 g=>k d v j i f (k1.trans k2) g)
def xy (l:uR b)(h:EvD X O a λx=>EvD X O b λy=>∃ds i d,x=.tuple ds/\y=.int i/\atI ds i=some d/\Q d):EvD X O (.Subscript a b pos) Q:=by
 refine sS (wx dN zh zh l) (λ_ _ _=>Iff.rfl) (h.imp λx h=>h.imp λy f=>?_);obtain⟨ds,i,d,e1,r,g,hq⟩:=f;subst e1 r;intro F σ H u w R m s t k;obtain⟨a,xs,rfl,n,o⟩:=s.tup_inv;cases t.int_inv;obtain⟨v,j,av⟩:=o.atI g;exact⟨a,xs,i,v,rfl,rfl,SqT.of (zi n).2,j,k d v H hq m.tp Kz.refl av⟩
def EvO (X:Cx)(O:Ev)(e:Option Am)(Q:Option Int->Prop):Prop:=∀(F:Fr) (σ:St) (H:Hp) (R:Option Int->Hp->Prop),M F O σ H->(∀i H',Q i->zy F H'->Kz F H H'->R i H')->∃t,PO X e t/\t σ H R
def zH7 (X:Cx)(e:Option Am):TO:=λσ H Q=>∃t,PO X e t/\t σ H Q
def ji {e:Option Am}:PO X e (zH7 X e):=λpins s σ H Q I d=>by obtain⟨t,p,q⟩:=d;exact p pins s σ H Q I q
def bQ {Q:Option Int->Prop}(q:Q none):EvO X O none Q:=λF σ H R m k=>⟨_,aB,k _ H q m.tp Kz.refl⟩
def ah {Q:Option Int->Prop}(h:EvD X O a λx=>∃i,x=.int i/\Q (some i)):EvO X O (some a) Q:=λF σ H R m k=>by
 refine⟨_,bD zh,h F σ H _ m λx g H1 f t1 k1 d=>?_⟩;obtain⟨i,rfl,q⟩:=f;cases d.int_inv;exact⟨i,rfl,k _ H1 q t1 k1⟩
def M.lay {F:Fr}{σ:St}{H:Hp}{l:Ad}{xs:List V}{ds:List Aa}(m:M F O σ H)(d:H l=none)(h:AVs (Gz F O σ H) xs ds):zy F (upd H l (.lst xs))/\Kz F H (upd H l (.lst xs))/\yz F O σ H (.ref l) (upd H l (.lst xs)) ds:=by
 refine⟨m.tp.same (yi d),Kz.of_same (yi d),l,xs,rfl,d,zl,h.same (zo λa o ha e=>?_)⟩;have:=zm e d;exact⟨⟨ha,this⟩,by rw[zj this];exact e⟩
theorem zj2 {lo hi:Option Am}{Q:List Aa->Prop}(h:EvD X O a λx=>EvO X O lo λl=>EvO X O hi λu=>∃ds,x=.list ds/\Q (cutD ds l u)):EvL X O (.Subscript a (.Slice lo hi none p) pos) Q:=λF σ H R m k=>by
 refine⟨_,gP bT zh ji ji,h F σ H _ m λx D H1 t t1 k1 w=>?_⟩;have m1:=m.kz k1 t1;refine t F σ H1 _ m1 λl A y j k2=>?_;have m2:=m1.kz k2 j;refine y F σ A _ m2 λu E v t3 k3=>?_;have m3:=m2.kz k3 t3;obtain⟨ds,rfl,q⟩:=v;obtain⟨a,xs,rfl,n,r⟩:=(w.same ((k2.gz m1.tp).trans (k3.gz m2.tp))).lst_inv;refine⟨a,xs,rfl,SqL.of (zi n).2,λp B=>?_⟩;obtain⟨g1,g2,g3⟩:=m3.lay B (r.cut l u);have i:=(k1.trans k2).trans k3;obtain⟨g,f,e1,d,C,s⟩:=g3;refine k _ _ _ q g1 (i.trans g2) ⟨g,f,e1,?_,C,s⟩;cases z:H g with
 |none=>rfl
 |some o=>rw[i g o z (m.tp.nt (ow0 (m3.fresh d)))]at d;cases d
theorem yz.back {F:Fr}{σ:St}{H H1 H':Hp}{v:V}{ds:List Aa}(m:M F O σ H)(k:Kz F H H1)(t1:zy F H1)(h:yz F O σ H1 v H' ds):yz F O σ H v H' ds:=by
 obtain⟨f,d,e1,g,i,j⟩:=h;refine⟨f,d,e1,?_,i,j⟩;cases z:H f with
 |none=>rfl
 |some o=>rw[k f o z (m.tp.nt (ow0 ((m.kz k t1).fresh g)))]at g;cases g
def zu {Q:List A->Prop}(q:Q []):EvA X O [] Q:=λF σ H R m k=>⟨_,zQ,k _ _ H q m.tp Kz.refl .nil⟩
def zk {Q:List A->Prop}(h:EvD X O e λd=>EvA X O es λas=>Q (.dat d::as))(j:Af (e::es) X.env=(false,eval e X.env)::Af es X.env:=by rfl):EvA X O (e::es) Q:=λF σ H R m k=>by
 refine⟨_,zw zh yv j,h F σ H _ m λd v H1 o t1 k1 g=>?_⟩;have m1:=m.kz k1 t1;exact o F σ H1 _ m1 λas vs n l f k2 i=>k _ _ n l f (k1.trans k2) (.cons (g.same (k2.gz m1.tp)) i)
def aC {Q:List A->Prop}(i:Nat){x:Str}(hi:O[i]?=some (some .tape))(h:EvA X O es λas=>Q (.tape::as))(j:X.N[i]?=some x:=by rfl)(f:Vis X.env.scope x:=by first|exact Or.inl rfl|exact Or.inr (Or.inl rfl)|exact Or.inr (Or.inr rfl))
  (hd:(x == ("__debug__":Str))=false:=by decide) (d:(x == ("__classdict__":Str))=false:=by decide) (n:Af (.Name x pos::es) X.env=(false,eval (.Name x pos) X.env)::Af es X.env:=by rfl):EvA X O (.Name x pos::es) Q:=λF σ H R m k=>by
 obtain⟨t,b,c,s,u⟩:=m.tvar i hi;exact⟨_,zw (yu j f hd d) yv n,.ref t,u,h F σ H _ m λas vs r o g k2 l=>k _ _ r o g k2 (.cons ⟨t,b,c,s,rfl⟩ l)⟩
def datas :List A->Option (List Aa)
 |[]=>some []
 |.dat d::r=>(datas r).map (d::·)
 |_::_=>none
theorem zK.datas {F:Fr}{G:Hp}{vs:List V}{as:List A}{ds:List Aa}(h:zK F G vs as)(e:L2.datas as=some ds):AVs G vs ds:=by
 induction h generalizing ds with
 |nil=>cases e;exact .nil
 |@cons _ _ a as h _ ih=>
  cases a with
  |dat d=>
   obtain⟨es,e1,rfl⟩:=zO5.mp e;exact .cons h (ih e1)
  |tape=>cases e
  |_=>exact h.elim
def lh {n:Nat}(h:EvA X O es λas=>∃ds,datas as=some ds/\ds.length<=1000/\Q (.tuple ds)):EvD X O (.Tuple es n pos) Q:=λF σ H R m k=>by
 refine⟨_,gj yv,h F σ H _ m λas vs H1 i t1 k1 f=>?_⟩;obtain⟨ds,e,g,q⟩:=i;have r:=f.datas e;refine⟨by rw[r.length];exact zQ0 (yt g),λp d=>?_⟩;refine k _ _ _ q (t1.same (yi d)) (k1.trans (Kz.of_same (yi d))) (.tup (zD ((m.kz k1 t1).fresh d) zl) (r.same (zo λa o ha e=>⟨ha,by rw[zj (zm e d)];exact e⟩)))
def xR {Q:List Aa->Prop}(h:EvA X O es λas=>∃ds,datas as=some ds/\ds.length<=1000/\Q ds):EvL X O (.List es pos) Q:=λF σ H R m k=>by
 refine⟨_,zm6 yv,h F σ H _ m λas vs H1 i t1 k1 d=>?_⟩;obtain⟨ds,e,f,q⟩:=i;have r:=d.datas e;refine⟨by rw[r.length];exact zQ0 (yt f),λp g=>?_⟩;obtain⟨g1,g2,g3⟩:=(m.kz k1 t1).lay g r;exact k _ _ _ q g1 (k1.trans g2) (g3.back m k1 t1)
def wu {Q:List Aa->Prop}(h:EvD X O a λx=>EvD X O b λy=>∃ds es,x=.list ds/\y=.list es/\ds.length+es.length<=1000/\Q (ds++es)):EvL X O (.BinOp a .Add b pos) Q:=λF σ H R m k=>by
 refine⟨_,yT zk9 zh zh,h F σ H _ m λx v H1 l t1 k1 n=>?_⟩;have m1:=m.kz k1 t1;refine l F σ H1 _ m1 λy u w r d k2 o=>?_;obtain⟨ds,es,rfl,rfl,i,q⟩:=r;obtain⟨a,xs,rfl,j,f⟩:=(n.same (k2.gz m1.tp)).lst_inv;obtain⟨b,ys,rfl,t,g⟩:=o.lst_inv;refine⟨a,b,xs,ys,rfl,rfl,(zi j).2,(zi t).2,by rw[f.length,g.length];exact zQ0 (yt i),λp s=>?_⟩;obtain⟨g1,g2,g3⟩:=(m1.kz k2 d).lay s (f.append g);exact k _ _ _ q g1 ((k1.trans k2).trans g2) (g3.back m (k1.trans k2) d)
def tw {id:String}{x:Str}{r:List V->Hp->VK->Prop}(n:xj X (.builtin id) r)(hg:Gl X x)(hm:X.mg x=none)(g:bootBuiltins x=some (.builtin id))
  (h:EvA X O (e::es) λas=>∀(F:Fr) (σ:St) (H:Hp) (vs:List V) (R:VK),M F O σ H->zK F (Gz F O σ H) vs as->(∀d v H',Q d->zy F H'->Kz F H H'->AV (Gz F O σ H') v d->R v H')->r vs H R)
  (hn:x≠"__name__":=by decide) (f:(x == ("__debug__":Str))=false:=by decide) (he:Af (e::es) X.env=(false,eval e X.env)::Af es X.env:=by rfl) (hpl:(backTo pos (Af es X.env)).any (·.1)=false:=by rfl):
  EvD X O (.Call (.Name x p) (e::es) [] pos) Q:=λF σ H R m k=>by
 refine⟨_,xC n hg hm g yv hn f he hpl,h F σ H _ m λas vs H1 o t1 k1 j=>?_⟩;exact o F σ H1 vs R (m.kz k1 t1) j λd v H' s i k2 l=>k d v H' s i (k1.trans k2) l
end
section
variable {X:Cx}{O:Ev}{e a b c:Am}{es:List Am}{pos p q:Pos}{Q:Aa->Prop}
def zK.one {F:Fr}{G:Hp}{vs:List V}{d:Aa}(h:zK F G vs [.dat d]):∃v,vs=[v]/\AV G v d:=by
 cases h with|cons h r=>cases r;exact⟨_,rfl,h⟩
def zK.two {F:Fr}{G:Hp}{vs:List V}{d e:Aa}(h:zK F G vs [.dat d,.dat e]):∃v u,vs=[v,u]/\AV G v d/\AV G u e:=by
 cases h with|cons h r=>obtain⟨u,rfl,f⟩:=r.one;exact⟨_,u,rfl,h,f⟩
def zH9 :Aa->Option Int
 |.list ds=>some ds.length
 |.tuple ds=>some ds.length
 |_=>none
theorem qB (hg:Gl X "len")(hm:X.mg "len"=none)(h:EvD X O e λx=>∃n,zH9 x=some n/\Q (.int n))(he:Af [e] X.env=(false,eval e X.env)::Af [] X.env:=by rfl):
  EvD X O (.Call (.Name "len" p) [e] [] pos) Q:=by
 refine tw vF hg hm PySem.boot_len (zk (h.imp λx g=>?_) he) (he:=he);obtain⟨n,e1,q⟩:=g;refine zu ?_;intro F σ H vs R m i k;obtain⟨v,rfl,av⟩:=i.one;cases av with
 |lst d f=>cases e1;rw[<-f.length]at q;exact⟨_,_,rfl,.inl (SqL.of (zi d).2),k _ _ H q m.tp Kz.refl (.int _)⟩
 |tup d f=>cases e1;rw[<-f.length]at q;exact⟨_,_,rfl,.inr (SqT.of (zi d).2),k _ _ H q m.tp Kz.refl (.int _)⟩
 |_=>cases e1
def zo6 (n:X.calm=true)(hg:Gl X "max")(hm:X.mg "max"=none)(h:EvD X O a λx=>EvD X O b λy=>∃i j,x=.int i/\y=.int j/\Q (.int (if j > i then j else i)))
  (he:Af [a,b] X.env=(false,eval a X.env)::Af [b] X.env:=by rfl) (f:Af [b] X.env=(false,eval b X.env)::Af [] X.env:=by rfl) (hpl:(backTo pos (Af [b] X.env)).any (·.1)=false:=by rfl):
  EvD X O (.Call (.Name "max" p) [a,b] [] pos) Q:=by
 refine tw (jI n) hg hm boot_max (zk (h.imp λx h=>zk (h.imp λy d=>?_) f) he) (he:=he) (hpl:=hpl);obtain⟨i,j,e1,l,q⟩:=d;refine zu ?_;intro F σ H vs R m g k;subst e1 l;obtain⟨v,u,rfl,av,o⟩:=g.two;cases av.int_inv;cases o.int_inv;exact⟨i,j,rfl,k _ _ H q m.tp Kz.refl (.int _)⟩
def sr {T:String}{x:Str}{p1:Pos}(hg:Gl X "isinstance")(hm:X.mg "isinstance"=none)(g:Gl X x)(d:X.mg x=none)(n:bootBuiltins x=some (.type T))
  (h:EvD X O a λx=>∃k,x.hasDict=false/\af T x=some k/\Q (.bool k)) (f:x≠"__name__":=by decide) (hdx:(x == ("__debug__":Str))=false:=by decide)
  (he:Af [a,.Name x p1] X.env=(false,eval a X.env)::Af [.Name x p1] X.env:=by rfl) (i:Af [.Name x p1] X.env=(false,eval (.Name x p1) X.env)::Af [] X.env:=by rfl) (hpl:(backTo pos (Af [.Name x p1] X.env)).any (·.1)=false:=by rfl):
  EvD X O (.Call (.Name "isinstance" p) [a,.Name x p1] [] pos) Q:=λF σ H R m k=>by
 refine⟨_,xC iL hg hm boot_isinstance (zw zh (zw (kN g d n (show RelV (.ty T) (.type T)from rfl) f hdx) zQ i) he) (he:=he),h F σ H _ m λx j H1 o t1 k1 l=>?_⟩;obtain⟨b,hd,e,q⟩:=o;exact⟨j,T,x,b,rfl,(l.dv hd).same wo,e,k _ _ H1 q t1 k1 (.bl b)⟩
def fk :Aa->Option (List Aa)
 |.list ds=>some ds
 |.tuple ds=>some ds
 |_=>none
section
variable {k:Nat}{f:Ad}{fd:Ao}{ps:List Str}{φ:List A->(A->Prop)->Prop}{x:Str}
def xQ {F:Fr}{σ:St}{H:Hp}{vs:List V}{as:List A}{d:A->Prop}{R:VK}(m:M F O σ H)(i:zK F (Gz F O σ H) vs as)(g:φ as d)
  (h:∀a v H',d a->xm ⟨H,Ow F O σ,F.tp⟩ v H' a->R v H') {E:XK}:spA φ (vs++[]) H R E:=by
 refine⟨⟨H,Ow F O σ,F.tp⟩,as,d,rfl,?_,?_,?_,g,h⟩
 .exact m.tp.to rfl λ_ z=>.inl z
 .exact λy z=>m.owEx z
 .rw[zP6];exact zK.to (F:=F) (F':=⟨H,Ow F O σ,F.tp⟩) (λ_ _ e=>e) rfl i
theorem xm.back {F:Fr}{σ:St}{H H':Hp}{v:V}{a:A}(m:M F O σ H)(h:xm ⟨H,Ow F O σ,F.tp⟩ v H' a):zy F H'/\Kz F H H'/\AV (Gz F O σ H') v a.d:=by
 obtain⟨t,kz,r⟩:=h;refine⟨m.tp.re t rfl,kz,?_⟩;cases a with
 |dat d=>exact r
 |ow c=>
  obtain⟨l,xs,ds,rfl,rfl,n,g,j,s⟩:=r;exact .lst (zD g j) (s.same (zo λa o h e=>⟨h.1,e⟩))
 |deep d S=>
  obtain⟨n,g⟩:=r;refine n.same λx o e=>?_;rcases sk e with⟨w,i⟩|⟨_,i⟩
  .exact zD (g x w).1 i
  .exact i
 |tape=>exact r.elim
 |«at» _=>exact r.elim
 |exc _ _=>exact r.elim
 |pin _ _ _=>exact r.elim
 |nst l ls dss=>
  obtain⟨rfl,g,j,s,u⟩:=r;exact .lst (zD (u l zL7).1 g) (j.avs (zo λa o h e=>⟨h.1,e⟩) λa ha=>(u a (zL1 _ ha)).1)
def bj (G:zS X.prog X.w X.K X.mg X.base CX0 k f fd ps (spA φ))(hr:zB k X.A)(hg:Gl X x)(hm:X.mg x=some (.ref f))(hk:PySem.W.keepIn X.K (.ref f)=true)(hb:Binds X.K fd ps [])
  (h:EvA X O (e::es) λas=>φ as λa=>Q a.d) (g:(x == ("__debug__":Str))=false:=by decide) (he:Af (e::es) X.env=(false,eval e X.env)::Af es X.env:=by rfl) (hpl:(backTo pos (Af es X.env)).any (·.1)=false:=by rfl):
  EvD X O (.Call (.Name x p) (e::es) [] pos) Q:=λF σ H R m l=>by
 refine⟨_,kP G hr hg hm hk hb .nil rW yv g he hpl,h F σ H _ m λas vs H1 o t1 k1 i=>?_⟩;have m1:=m.kz k1 t1;refine xQ m1 i o λa v H' n j=>?_;obtain⟨g1,g2,g3⟩:=j.back m1;exact l _ v H' n g1 (k1.trans g2) g3
def zb5 {Q:List Aa->Prop}(G:zS X.prog X.w X.K X.mg X.base CX0 k f fd ps (spA φ))(hr:zB k X.A)(hg:Gl X x)(hm:X.mg x=some (.ref f))(hk:PySem.W.keepIn X.K (.ref f)=true)(hb:Binds X.K fd ps [])
  (h:EvA X O (e::es) λas=>φ as λa=>∃ds,a=.own ds/\Q ds) (d:(x == ("__debug__":Str))=false:=by decide) (he:Af (e::es) X.env=(false,eval e X.env)::Af es X.env:=by rfl) (hpl:(backTo pos (Af es X.env)).any (·.1)=false:=by rfl):
  EvL X O (.Call (.Name x p) (e::es) [] pos) Q:=λF σ H R m n=>by
 refine⟨_,kP G hr hg hm hk hb .nil rW yv d he hpl,h F σ H _ m λas vs H1 s t1 k1 t=>?_⟩;have m1:=m.kz k1 t1;refine xQ m1 t s λa v H' r g=>?_;obtain⟨ds,rfl,q⟩:=r;obtain⟨g1,g2,_⟩:=g.back m1;obtain⟨_,_,l,xs,j,rfl,u,i,z,y,o⟩:=g;cases u;exact n ds _ H' q g1 (k1.trans g2) (yz.back m k1 t1 ⟨l,xs,rfl,i,y,o⟩)
end
def nR {i j:Nat}{x:Option A}(h:i≠j):(O.set i x)[j]?=O[j]?:=zP5 h
def zv {i:Nat}{x:Option A}{j:Nat}{y:Option A}(h:(O.set i x)[j]?=some y):(i=j/\x=y)\/(i≠j/\O[j]?=some y):=by
 by_cases d:i=j
 .subst d;left;have f:i<O.length:=by
   have:=(zK7.mp h).1
   rwa [zP0]at this
  rw[zS4 f]at h;exact⟨rfl,zO2 h⟩
 .right;rw[zP5 d]at h;exact⟨d,h⟩
def M.put {F:Fr}{σ:St}{H:Hp}{i:Nat}{b:Option A}(m:M F O σ H)(hf:∀s c x,σ[i]?=some s->b=some c->foot s c x->∃a,O[i]?=some (some a)/\foot s a x)
  (hok:∀s c,i<O.length->σ[i]?=some s->b=some c->yQ (Gz F (O.set i b) σ H) F H s c) (G:∀c,b=some c->noX c:=by intro c z;cases z;trivial):zr (Gz F O σ H) (Gz F (O.set i b) σ H)/\M F (O.set i b) σ H:=by
 have B:zr (Gz F O σ H) (Gz F (O.set i b) σ H):=zo λa o h e=>⟨λz=>h (by
  rcases z with z|⟨j,c,s,e1,n,f⟩
  .exact .inl z
  .rcases zv e1 with⟨rfl,z⟩|⟨y,g⟩
   .obtain⟨u,v,w⟩:=hf s c a n z f;exact .inr ⟨i,u,s,v,n,w⟩
   .exact .inr ⟨j,c,s,g,n,f⟩),e⟩
 have old:∀{j:Nat} {c:A} {s:Option V} {x:Ad},(O.set i b)[j]?=some (some c)->σ[j]?=some s->foot s c x->∃a,O[j]?=some (some a)/\foot s a x:=λ{j c s x} e1 n f=>by
  rcases zv e1 with⟨rfl,z⟩|⟨y,g⟩
  .exact hf s c x n z f
  .exact⟨c,g,f⟩
 refine⟨B,by rw[zP0];exact m.len,λj c s e1 n=>?_,λj k c d s t x e1 n v w f1 f2=>?_,λj r q e D c s x e1 n f=>?_,m.tp,m.keep,m.oex⟩
 .rcases zv e1 with⟨rfl,z⟩|⟨y,g⟩
  .refine hok s c ?_ n z;have:=(zK7.mp e1).1
   rwa [zP0]at this
  .exact(m.ok j c s g n).stay B (λx o f e=>⟨e,(m.ft g n f).1,(m.ft g n f).2.1⟩) rfl λ_ _ _ l=>l
 .obtain⟨u,g1,g2⟩:=old e1 v f1;obtain⟨E,g3,C⟩:=old n w f2;exact m.dj j k u E s t x g1 g3 v w g2 C
 .obtain⟨u,g1,g2⟩:=old e1 n f;rcases zv e with⟨rfl,z⟩|⟨_,I⟩
  .exact(G _ z).elim
  .exact m.xd j r q I D u s x g1 n g2
def M.gave {F:Fr}{σ:St}{H:Hp}{i:Nat}{a:A}{s:Option V}{b:Option A}{x:Ad}(m:M F O σ H)(e1:O[i]?=some (some a))(k:σ[i]?=some s)(f:foot s a x)(hb:∀c,b=some c->¬foot s c x):¬Ow F (O.set i b) σ x:=by
 rintro(z|⟨j,c,t,l,h,g⟩)
 .exact(m.ft e1 k f).1 z
 .rcases zv l with⟨rfl,z⟩|⟨n,d⟩
  .rw[k]at h;cases h;exact hb c z g
  .exact n (m.dj i j a c s t x e1 d k h f g)
def dP {F:Fr}{σ:St}{H:Hp}{i:Nat}{b:A}(hb:∀s x,¬foot s b x):zr (Gz F O σ H) (Gz F (O.set i (some b)) σ H):=zo λa o h e=>⟨λz=>h (by
 rcases z with z|⟨j,c,s,e1,g,f⟩
 .exact .inl z
 .rcases zv e1 with⟨rfl,z⟩|⟨k,d⟩
  .cases z;exact(hb _ _ f).elim
  .exact .inr ⟨j,c,s,d,g,f⟩),e⟩
def M.frz {F:Fr}{σ:St}{H:Hp}{i:Nat}{ds:List Aa}(m:M F O σ H)(hi:O[i]?=some (some (.own ds))):M F (O.set i (some (.dat (.list ds)))) σ H:=
 (m.put (λs c' x _ z f=>by cases z;exact f.elim) λs c' _ g z=>by
  cases z;obtain⟨l,o,d,h,j,n,k⟩:=m.owc i _ hi;rw[d]at g;cases g;exact⟨.ref l,rfl,(j.same (dP (b:=.dat (.list ds)) λ_ _ f=>f)).av (zD (m.gave hi d rfl λc z=>by cases z;exact id) h)⟩).2
def M.frzd {F:Fr}{σ:St}{H:Hp}{i:Nat}{d:Aa}{S:Ad->Prop}(m:M F O σ H)(hi:O[i]?=some (some (.deep d S))):M F (O.set i (some (.dat d))) σ H:=
 (m.put (b:=some (.dat d)) (λs c' x _ z f=>by cases z;exact f.elim) λs c' _ g z=>by
  cases z;obtain⟨v,l,r,w⟩:=m.deep i d S hi;rw[l]at g;cases g;refine⟨v,rfl,r.same λx o e=>?_⟩;rcases sk e with⟨u,h⟩|⟨_,h⟩
  .exact zD (m.gave hi l u λc z=>by cases z;exact id) h
  .obtain⟨n,t⟩:=zi h;refine zD (λq=>n ?_) t;rcases q with z|⟨j,c,s,e1,g,f⟩
   .exact .inl z
   .rcases zv e1 with⟨rfl,z⟩|⟨y,k⟩
    .cases z;exact f.elim
    .exact .inr ⟨j,c,s,k,g,f⟩).2
def gB {F:Fr}{σ:St}{H H':Hp}{i:Nat}{a:A}{b:Option A}(m:M F O σ H)(k:Kz F H H')(hi:O[i]?=some (some a))(x:Ad)(o:HO)(t:¬Ob o)(h:Gz F (O.set i b) σ H' x=some o):Gz F O σ H' x=some o:=by
 obtain⟨g,d⟩:=zi h;refine zD ?_ d;rintro(z|⟨j,c,s,e1,l,f⟩)
 .exact g (.inl z)
 .by_cases n:i=j
  .subst n;obtain⟨g1,g2,o',g3,r⟩:=m.ft e1 l f;rw[k _ _ g3 (m.tp.nt g1)]at d;cases d;exact t r
  .exact g (.inr ⟨j,c,s,by rw[nR n];exact e1,l,f⟩)
def lj {Q:List Aa->Prop}{i:Nat}{a:A}{b:Option A}(hi:O[i]?=some (some a))(hm:∀F σ H,M F O σ H->M F (O.set i b) σ H)(h:EvL X (O.set i b) e λd=>uh d=true/\Q d):EvL X O e Q:=λF σ H R m k=>
 h F σ H R (hm F σ H m) λd v H' q t kz r=>by
  obtain⟨l,xs,j,n,w,s⟩:=r;refine k d v H' q.2 t kz ⟨l,xs,j,n,w,s.noL (λa ys hno z=>?_) q.1⟩;obtain⟨f,g⟩:=zi z;obtain⟨o,u⟩:=zi (gB m kz hi a ys hno (zD f.1 g));exact zD ⟨o,f.2⟩ u
def ae (i:Nat){ds:List Aa}(hi:O[i]?=some (some (.own ds)))(h:EvD X (O.set i (some (.dat (.list ds)))) e λd=>noL d=true/\Q d):EvD X O e Q:=λF σ H R m k=>
 h F σ H R (m.frz hi) λd v H' q t kz r=>k d v H' q.2 t kz (r.noL (gB m kz hi) q.1)
def qE {Q:Bool->Prop}(i:Nat){ds:List Aa}(hi:O[i]?=some (some (.own ds)))(h:EvT X (O.set i (some (.dat (.list ds)))) e Q):EvT X O e Q:=λF σ H R m k=>h F σ H R (m.frz hi) k
def bp {Q:List Aa->Prop}(i:Nat){ds:List Aa}(hi:O[i]?=some (some (.own ds)))(h:EvL X (O.set i (some (.dat (.list ds)))) e λd=>uh d=true/\Q d):EvL X O e Q:=lj hi (λ_ _ _ m=>m.frz hi) h
def ItW (p:Ad->Prop)(J:It)(ds:List Aa)(G:Hp):Prop:=∀(i:Nat) (f:Hp) (q:Ad->Prop),zr G (sub q f)->
 (∀d,ds[i]?=some d->J.go i f/\∀x g,J.yld i f x g->zr f g/\((∀a o,g a=some o->f a=none->q a)->AV (sub q g) x d))/\(ds.length<=i->J.stop i f)
def zu7 (X:Cx)(tg e:Am):TI:=λσ H R=>∃t,PI X tg e t/\t σ H R
def ph {tg e:Am}:PI X tg e (zu7 X tg e):=λpins s σ H R I d=>by obtain⟨t,p,q⟩:=d;exact p pins s σ H R I q
def EvI (X:Cx)(O:Ev)(tg e:Am)(Q:List Aa->Prop):Prop:=∀(F:Fr) (σ:St) (H:Hp) (R:It->Hp->Prop),M F O σ H->
 (∀ds J H',Q ds->zy F H'->Kz F H H'->ItW (λx=>¬Ow F O σ x) J ds (Gz F O σ H')->R J H')->zu7 X tg e σ H R
def yG {tg:Am}{Q:List Aa->Prop}(h:EvD X O e λx=>∃ds,x=.list ds/\Q ds):EvI X O tg e Q:=λF σ H R m k=>by
 refine⟨_,aD zh,h F σ H _ m λx r H1 n t1 k1 o=>?_⟩;obtain⟨ds,rfl,q⟩:=n;obtain⟨a,xs,rfl,f,g⟩:=o.lst_inv;refine⟨a,rfl,⟨xs,SqL.of (zi f).2⟩,k ds _ H1 q t1 k1 λi u p s=>⟨λd hd=>?_,λl=>?_⟩⟩
 .obtain⟨x,j,av⟩:=g.get hd;have ha:=SqL.of (K:=X.K) (zi (s _ _ f)).2;refine⟨⟨xs,x,ha,j⟩,λt v y=>?_⟩;obtain⟨e,y⟩:=y;subst e;have:=y xs ha;rw[j]at this;cases this;exact⟨zr.refl _,λ_=>av.same s⟩
 .exact⟨xs,SqL.of (zi (s _ _ f)).2,by rw[g.length];exact l⟩
def rV {p:Ad->Prop}{lo:Int}{n:Nat}{G:Hp}:ItW p (Itr lo n) ((zq lo n).map .int) G:=λi h q s=>⟨λd hd=>by
  rw[zM3,zO5]at hd;obtain⟨z,f,rfl⟩:=hd;have hi:i<n:=by
   have:=(zK7.mp f).1
   rwa [zf]at this
  rw[yE hi]at f;cases f;refine⟨hi,λx j y=>?_⟩;obtain⟨rfl,rfl⟩:=y;exact⟨zr.refl _,λ_=>.int _⟩,λg=>by
  rw[zK3,zf]at g;exact g⟩
def jJ {tg:Am}{Q:List Aa->Prop}(hg:Gl X "range")(hm:X.mg "range"=none)(h:EvD X O a λx=>∃j,x=.int j/\-(2 ^ 62)<=j/\j<2 ^ 62/\Q ((zq 0 j.toNat).map .int))(d:Af [a] X.env=[(false,eval a X.env)]:=by rfl):
  EvI X O tg (.Call (.Name "range" p) [a] [] pos) Q:=λF σ H R m k=>by
 refine⟨_,iZ hg hm (zw zh zQ d) d,h F σ H _ m λx n H1 l t1 k1 f=>?_⟩;obtain⟨j,rfl,g,i,q⟩:=l;cases f.int_inv;exact⟨j,rfl,g,i,k _ _ H1 q t1 k1 rV⟩
def jZ {tg:Am}{Q:List Aa->Prop}(hg:Gl X "range")(hm:X.mg "range"=none)(h:EvD X O a λx=>EvD X O b λy=>∃i j,x=.int i/\y=.int j/\(-(2 ^ 62)<=i/\i<2 ^ 62/\-(2 ^ 62)<=j/\j<2 ^ 62)/\Q ((zq i (j-i).toNat).map .int))
  (r:Af [a,b] X.env=[(false,eval a X.env),(false,eval b X.env)]:=by rfl) (d:Af [b] X.env=[(false,eval b X.env)]:=by rfl) (f:Af [a,b] X.env=(false,eval a X.env)::Af [b] X.env:=by rfl):
  EvI X O tg (.Call (.Name "range" p) [a,b] [] pos) Q:=λF σ H R m k=>by
 refine⟨_,jR hg hm (zw zh (zw zh zQ d) f) r d,h F σ H _ m λx v H1 u t1 k1 n=>?_⟩;refine u F σ H1 _ (m.kz k1 t1) λy w t s l k2 o=>?_;obtain⟨i,j,rfl,rfl,g,q⟩:=s;cases n.int_inv;cases o.int_inv;exact⟨i,j,rfl,g,k _ _ t q l (k1.trans k2) rV⟩
end
inductive Pat where
 |one (i:Nat)
 |many (is:List Nat)
 |nest (i:Nat) (is:List Nat)
def xx :List Nat->List Aa->Ev->Option Ev
 |[],[],O=>some O
 |i::is,d::ds,O=>xx is ds (O.set i (some (.dat d)))
 |_,_,_=>none
def Pat.bind :Pat->Aa->Ev->Option Ev
 |.one i,d,O=>some (O.set i (some (.dat d)))
 |.many is,.tuple ds,O=>xx is ds O
 |.nest i is,.tuple [d,.tuple ds],O=>xx is ds (O.set i (some (.dat d)))
 |_,_,_=>none
def gIs :List Nat->TGs
 |[]=>zr9
 |i::is=>kF (rR i) (gIs is)
def nC (K:Ae):Pat->TG
 |.one i=>rR i
 |.many is=>fF K is.length (gIs is)
 |.nest i is=>fF K 2 (kF (rR i) (kF (fF K is.length (gIs is)) zr9))
def Pat.slots :Pat->List Nat
 |.one i=>[i]
 |.many is=>is
 |.nest i is=>i::is
def isFree (O:Ev)(i:Nat):Bool:=match O[i]? with
 |some none=>true
 |_=>false
def Pat.free (p:Pat)(O:Ev):Bool:=p.slots.all (isFree O)
section
variable {X:Cx}{O α':Ev}{F:Fr}{σ:St}{H:Hp}
def M.store {i:Nat}{v:V}{b:A}{H':Hp}(m:M F O σ H)(t:zy F H')(k:Kz F H H')(hn:∀x,foot (some v) b x->H x=none)(hok:yQ (sub (λx=>¬Ow F O σ x/\¬foot (some v) b x) H') F H' (some v) b)(Q:noX b:=by trivial):M F (O.set i (some b)) (σ.set i (some v)) H':=by
 have D:∀{j:Nat} {c:A} {s:Option V},(O.set i (some b))[j]?=some (some c)->(σ.set i (some v))[j]?=some s->(i=j/\c=b/\s=some v)\/(i≠j/\O[j]?=some (some c)/\σ[j]?=some s):=λ{j c s} e1 n=>by
  rcases zv e1 with⟨rfl,z⟩|⟨J,G⟩
  .cases z;have N:i<σ.length:=by
    have:=(zK7.mp n).1
    rwa [zP0]at this
   rw[zS4 N]at n;cases n;exact .inl ⟨rfl,rfl,rfl⟩
  .rw[zP5 J]at n;exact .inr ⟨J,G,n⟩
 have ow:∀{y:Ad},Ow F (O.set i (some b)) (σ.set i (some v)) y->Ow F O σ y\/foot (some v) b y:=λ{y} h=>by
  rcases h with z|⟨j,c,s,e1,n,f⟩
  .exact .inl (.inl z)
  .rcases D e1 n with⟨_,rfl,rfl⟩|⟨_,g1,g2⟩
   .exact .inr f
   .exact .inl (.inr ⟨j,c,s,g1,g2,f⟩)
 have g1:zr (sub (λx=>¬Ow F O σ x/\¬foot (some v) b x) H') (Gz F (O.set i (some b)) (σ.set i (some v)) H'):=zo λa o h e=>⟨λz=>(ow z).elim h.1 h.2,e⟩;have P:zr (Gz F O σ H) (sub (λx=>¬Ow F O σ x/\¬foot (some v) b x) H'):=zo λa o h e=>⟨⟨h,λz=>by rw[hn a z]at e;cases e⟩,k a o e (m.tp.nt (ow0 h))⟩;refine⟨by rw[zP0,zP0];exact m.len,λj c s e1 n=>?_,λj E c d s s' x e1 n L I f1 f2=>?_,λj r q e E c s x e1 n f=>?_,t,m.keep.trans k,(m.kz k t).oex⟩
 .rcases D e1 n with⟨rfl,rfl,rfl⟩|⟨_,u,p⟩
  .exact hok.stay g1 (λx o f e=>by
    obtain⟨B,C,_⟩:=uX hok f;exact⟨e,B,C⟩) rfl λ_ _ _ l=>l
  .exact(m.ok j c s u p).stay (P.trans g1) (λx o f e=>by
    obtain⟨B,C,_⟩:=m.ft u p f;exact⟨k x o e (m.tp.nt B),B,C⟩) rfl λ_ _ _ l=>l.kz k t
 .have nn:∀{j:Nat} {c:A} {s:Option V},O[j]?=some (some c)->σ[j]?=some s->foot s c x->¬foot (some v) b x:=λ{j c s} u p f g=>by
   obtain⟨_,_,o,w,_⟩:=m.ft u p f;rw[hn x g]at w;cases w
  rcases D e1 L with⟨rfl,rfl,rfl⟩|⟨_,u,p⟩
  .rcases D n I with⟨rfl,_⟩|⟨_,B,C⟩
   .rfl
   .exact absurd f1 (nn B C f2)
  .rcases D n I with⟨rfl,rfl,rfl⟩|⟨_,B,C⟩
   .exact absurd f2 (nn u p f1)
   .exact m.dj j E c d s s' x u B p C f1 f2
 .rcases zv e with⟨rfl,z⟩|⟨_,K⟩
  .cases z;exact Q.elim
  .rcases D e1 n with⟨rfl,rfl,rfl⟩|⟨_,u,p⟩
   .exact(m.lnk K).none (hn x f)
   .exact m.xd j r q K E c s x u p f
theorem M.set {i:Nat}{v:V}{d:Aa}(m:M F O σ H)(av:AV (Gz F O σ H) v d):M F (O.set i (some (.dat d))) (σ.set i (some v)) H:=
 m.store m.tp Kz.refl (λx z=>z.elim) ⟨v,rfl,av.same (zo λa o h e=>⟨⟨h,λz=>z⟩,e⟩)⟩
def M.setC {i:Nat}{v:V}{c:Aa}{H':Hp}(m:M F O σ H)(t:zy F H')(k:Kz F H H')(f:dI F O σ H v H' c):M F (O.set i (some (.ow c))) (σ.set i (some v)) H':=by
 obtain⟨l,o,rfl,b,d,j⟩:=f;have nl:=m.fresh b;refine m.store t k (λx z=>?_) ⟨l,o,rfl,d,j.same (zo λa o h e=>⟨⟨h.1,λz=>h.2 (by cases z;rfl)⟩,e⟩),ow0 nl,m.fresh0 b⟩;have g:=z;cases g;exact b
def M.setOwn {i:Nat}{v:V}{ds:List Aa}{H':Hp}(m:M F O σ H)(t:zy F H')(k:Kz F H H')(a:yz F O σ H v H' ds):M F (O.set i (some (.own ds))) (σ.set i (some v)) H':=m.setC t k a.c
def M.wr {x:Ad}{o:HO}(m:M F O σ H)(hno:xV o)(d:F.O0 x)(p:∀t b c,F.tp=some (t,b,c)->x≠t/\x≠b/\x≠c)(h0:F.H0 x=none)(hpl:Plain H x)(A:∀(i:Nat) r q,O[i]?=some (some (.exc r q))->r.H0 x=none):M F O σ (upd H x o):=by
 have B:zr (Gz F O σ H) (Gz F O σ (upd H x o)):=zo λa u h e=>⟨h,by rw[zj (λz=>h (.inl (by rw[z];exact d)))];exact e⟩;refine⟨m.len,λj c s e1 v=>?_,m.dj,m.xd,m.tp.upd p hpl,λy u e n=>?_,λy hy=>?_⟩
 .have:=m.ok j c s e1 v;cases c with
  |exc r q=>
   have l:=this;exact⟨l.tp,l.o,l.ok.upd (λa b c e=>p a b c (l.tp▸e)) hpl,λy u e n=>by rw[zj (zm e (A j r q e1))];exact l.k y u e n⟩
  |_=>exact this.stay B (λy u f e=>by
    obtain⟨g,C,_⟩:=m.ft e1 v f;exact⟨by rw[zj (λz=>g (by rw[z];exact d))];exact e,g,C⟩) rfl λ_ _ z=>by cases z
 .rw[zj (zm e h0)];exact m.keep y u e n
 .by_cases z:y=x
  .exact⟨o,by rw[z];exact zl,hno⟩
  .obtain⟨u,w,hn⟩:=m.oex y hy;exact⟨u,by rw[zj z];exact w,hn⟩
def M.forget {b:Ev}(m:M F O σ H)(n:b.length=O.length)(le:∀(i:Nat) a,b[i]?=some (some a)->O[i]?=some (some a)):M F b σ H:=by
 have ow:∀{y:Ad},Ow F b σ y->Ow F O σ y:=λ{y} h=>by
  rcases h with z|⟨j,c,s,e1,g,f⟩
  .exact .inl z
  .exact .inr ⟨j,c,s,le _ _ e1,g,f⟩
 have p:zr (Gz F O σ H) (Gz F b σ H):=zo λa o h e=>⟨λz=>h (ow z),e⟩;exact⟨n.trans m.len,λj c s e1 g=>(m.ok j c s (le _ _ e1) g).stay p (λx o f e=>⟨e,(m.ft (le _ _ e1) g f).1,(m.ft (le _ _ e1) g f).2.1⟩) rfl λ_ _ _ l=>l,λj k c d s s' x e1 g=>m.dj j k c d s s' x (le _ _ e1) (le _ _ g),λj r q e k c s x e1=>m.xd j r q (le _ _ e) k c s x (le _ _ e1),m.tp,m.keep,m.oex⟩
theorem vN {H:Hp}:∀{is:List Nat}{ds:List Aa}{O α':Ev}{σ:St}{xs:List V}{R:St->Hp->Prop},xx is ds O=some α'->M F O σ H->(∀G,zr (Gz F O σ H) G->AVs G xs ds)->(∀b,M F α' b H->R b H)->gIs is xs σ H R
 |[],[],O,α',σ,xs,R,e,m,av,k=>by
  cases e;cases av _ (zr.refl _);exact⟨rfl,k σ m⟩
 |i::is,d::ds,O,α',σ,xs,R,e,m,av,k=>by
  cases h:av _ (zr.refl _)with
  |@cons x xs _ _ h1 h2=>
   refine⟨x,xs,rfl,?_⟩;have p:zr (Gz F O σ H) (Gz F (O.set i (some (.dat d))) (σ.set i (some x)) H):=zo λa o h e=>⟨λz=>h (by
    rcases z with z|⟨j,c,s,e1,l,f⟩
    .exact .inl z
    .rcases zv e1 with⟨_,z⟩|⟨n,g⟩
     .cases z;exact f.elim
     .rw[zP5 n]at l;exact .inr ⟨j,c,s,g,l,f⟩),e⟩
   exact vN e (m.set h1) (λG s=>h2.same (p.trans s)) k
 |[],_::_,_,_,_,_,_,e,_,_,_=>by cases e
 |_::_,[],_,_,_,_,_,e,_,_,_=>by cases e
theorem Pat.nest_inv {i:Nat}{is:List Nat}{d:Aa}(e:(Pat.nest i is).bind d O=some α'):∃a ds,d=.tuple [a,.tuple ds]/\xx is ds (O.set i (some (.dat a)))=some α':=by
 cases d with
 |tuple xs=>
  cases xs with
  |nil=>cases e
  |cons a r=>
   cases r with
   |nil=>cases e
   |cons b r=>
    cases r with
    |nil=>
     cases b with
     |tuple ds=>exact⟨_,_,rfl,e⟩
     |_=>cases e
    |cons _ _=>cases b<;>cases e
 |_=>cases e
theorem rG :∀{is:List Nat}{ds:List Aa}{O α':Ev},xx is ds O=some α'->ds.length=is.length:=by
 intro is
 induction is with
 |nil=>intro ds O α' h;cases ds with|nil=>rfl|cons _ _=>cases h
 |cons i is a=>intro ds O α' h;cases ds with|nil=>cases h|cons d ds=>rw[zN0,zN0,a h]
theorem kb {K:Ae}{pat:Pat}{d:Aa}{v:V}{R:St->Hp->Prop}(e:pat.bind d O=some α')(m:M F O σ H)(av:AV (Gz F O σ H) v d)(k:∀g,M F α' g H->R g H):nC K pat v σ H R:=by
 cases pat with
 |one i=>cases e;exact k _ (m.set av)
 |many is=>
  cases d with
  |tuple ds=>
   obtain⟨a,xs,rfl,p,l⟩:=av.tup_inv;exact⟨a,xs,rfl,SqT.of (zi p).2,by rw[l.length];exact rG e,vN e m (λG s=>l.same s) k⟩
  |_=>cases e
 |nest i is=>
  obtain⟨u,ds,rfl,e⟩:=Pat.nest_inv e;obtain⟨a,xs,rfl,p,l⟩:=av.tup_inv;cases l with
  |@cons x0 r _ _ z1 z2=>
   cases z2 with
   |@cons x1 r _ _ z3 z4=>
    cases z4;have A:zr (Gz F O σ H) (Gz F (O.set i (some (.dat u))) (σ.set i (some x0)) H):=zo λa o h e=>⟨λz=>h (by
     rcases z with z|⟨j,c,s,e1,q,f⟩
     .exact .inl z
     .rcases zv e1 with⟨_,z⟩|⟨x,n⟩
      .cases z;exact f.elim
      .rw[zP5 x]at q;exact .inr ⟨j,c,s,n,q,f⟩),e⟩
    obtain⟨b,ys,rfl,y,t⟩:=(z3.same A).tup_inv;exact⟨a,_,rfl,SqT.of (zi p).2,rfl,_,_,rfl,_,_,rfl,⟨b,ys,rfl,SqT.of (zi y).2,by rw[t.length];exact rG e,vN e (m.set z1) (λG s=>t.same s) λg w=>⟨rfl,k g w⟩⟩⟩
theorem sW :∀{is:List Nat}{ds:List Aa}{O α':Ev},xx is ds O=some α'->α'.length=O.length
 |[],[],_,_,e=>by cases e;rfl
 |i::is,d::ds,O,α',e=>by
  have:=sW (is:=is) e
  rwa [zP0]at this
 |[],_::_,_,_,e=>by cases e
 |_::_,[],_,_,e=>by cases e
theorem sH :∀{is:List Nat}{ds:List Aa}{O α':Ev}{j:Nat},xx is ds O=some α'->j∉is->α'[j]?=O[j]?
 |[],[],_,_,_,e,_=>by cases e;rfl
 |i::is,d::ds,O,α',j,e,h=>by
  rw[sH (is:=is) (ds:=ds) e λz=>h (zL1 _ z)];exact zP5 λ(z:i=j)=>h (by rw[<-z];exact zL7)
 |[],_::_,_,_,_,e,_=>by cases e
 |_::_,[],_,_,_,e,_=>by cases e
theorem tS :∀{is:List Nat}{ds:List Aa}{O α':Ev}{j:Nat}{a:A},xx is ds O=some α'->α'[j]?=some (some a)->(∀d,a≠.dat d)->O[j]?=some (some a)
 |[],[],_,_,_,_,e,h,_=>by cases e;exact h
 |i::is,d::ds,O,α',j,a,e,h,hn=>by
  rcases zv (tS (is:=is) (ds:=ds) e h hn)with⟨_,z⟩|⟨_,z⟩
  .cases z;exact absurd rfl (hn d)
  .exact z
 |[],_::_,_,_,_,_,e,_,_=>by cases e
 |_::_,[],_,_,_,_,e,_,_=>by cases e
theorem Pat.is_ok {pat:Pat}{d:Aa}(e:pat.bind d O=some α'):∃is ds,pat.slots=is/\xx is ds O=some α':=by
 cases pat with
 |one i=>cases e;exact⟨_,[d],rfl,rfl⟩
 |many is=>
  cases d with
  |tuple ds=>exact⟨_,ds,rfl,e⟩
  |_=>cases e
 |nest i is=>
  obtain⟨a,ds,rfl,e⟩:=Pat.nest_inv e;exact⟨_,a::ds,rfl,e⟩
def Pat.back {pat:Pat}{d:Aa}(e:pat.bind d O=some α')(fr:pat.free O=true)(m:M F α' σ H):M F O σ H:=by
 obtain⟨is,ds,rfl,e⟩:=Pat.is_ok e;refine m.forget (sW e).symm λj a h=>?_;by_cases b:j∈pat.slots
 .have:=z07.mp fr j b;unfold isFree at this;rw[h]at this;cases this
 .rw[sH e b];exact h
end
section
variable {X:Cx}{O:Ev}
def ie (X:Cx)(O:Ev)(ifs:List Am)(Q:Bool->Prop):Prop:=∀(F:Fr) (σ:St) (H:Hp) (R:Bool->Hp->Prop),M F O σ H->(∀b H',Q b->zy F H'->Kz F H H'->R b H')->∃t,wy X ifs t/\t σ H R
def zh0 (X:Cx)(ifs:List Am):TT:=λσ H R=>∃t,wy X ifs t/\t σ H R
def jd {ifs:List Am}:wy X ifs (zh0 X ifs):=λpins s σ H Q I a=>by obtain⟨t,p,q⟩:=a;exact p pins s σ H Q I q
def mM {Q:Bool->Prop}(q:Q true):ie X O [] Q:=λF σ H R m k=>⟨_,zc6,k _ H q m.tp Kz.refl⟩
def lH {c:Am}{Q:Bool->Prop}(h:EvT X O c Q):ie X O [c] Q:=λF σ H R m k=>⟨_,bB yU,h F σ H R m k⟩
def seen :Option A->Option A
 |some (.dat d)=>some (.dat d)
 |some .tape=>some .tape
 |_=>none
def yI (imp:List (Option Nat))(O:Ev):Ev:=imp.map λo=>o.bind λj=>(O[j]?).bind seen
theorem oJ {imp:List (Option Nat)}{i:Nat}{a:A}(h:(yI imp O)[i]?=some (some a)):∃j,imp[i]?=some (some j)/\O[j]?=some (some a)/\((∃d,a=.dat d)\/a=.tape):=by
 unfold yI at h;rw[zM3,zO5]at h;obtain⟨o,e,f⟩:=h;cases o with
 |none=>cases f
 |some j=>
  have c:(O[j]?).bind seen=some a:=f;cases q:O[j]? with
  |none=>rw[q]at c;cases c
  |some b=>
   rw[q]at c;cases b with
   |none=>cases c
   |some b=>
    cases b with
    |dat d=>cases c;exact⟨j,e,q,.inl ⟨d,rfl⟩⟩
    |tape=>cases c;exact⟨j,e,q,.inr rfl⟩
    |_=>cases c
def nu {imp:List (Option Nat)}{σ:St}{i j:Nat}{v:V}(a:imp[i]?=some (some j))(b:σ[j]?=some (some v)):(xU imp σ)[i]?=some (some v):=by
 unfold xU;rw[zM3,a];show some ((σ[j]?).bind id)=_;rw[b];rfl
def yZ (Y:Ad->Ac->Hp->List Ad->Cx)(pat:Pat)(ifs:List Am)(elt:Am)(a:Ev):List Aa->List Aa->(List Aa->Prop)->Prop
 |[],acc,Q=>Q acc
 |d::ds,acc,Q=>∃b,pat.bind d a=some b/\∀C s2 c fp,ie (Y C s2 c fp) b ifs λk=>if k=true then ∀C s2 c fp,EvD (Y C s2 c fp) b elt λy=>yZ Y pat ifs elt a ds (acc++[y]) Q else yZ Y pat ifs elt a ds acc Q
def eC (Y:Ad->Ac->Hp->List Ad->Cx)(e:Am):TE:=λσ H Q=>∀C s2 a fp,uJ (Y C s2 a fp) e σ H Q
def tsC (Y:Ad->Ac->Hp->List Ad->Cx)(ifs:List Am):TT:=λσ H Q=>∀C s2 a fp,zh0 (Y C s2 a fp) ifs σ H Q
def kQ {N:List Str}{imp:List (Option Nat)}{scope:Aq}{tg iter elt:Am}{ifs:List Am}{pat:Pat}{Q:List Aa->Prop}(E:pat.free (yI imp O)=true)
  (h:EvI X O tg iter λds=>ds.length<=1000/\yZ (λC s2 p fp=>X.comp N scope C s2 p fp) pat ifs elt (yI imp O) ds [] Q)
  (F:Fr) (σ:St) (H:Hp) (R:VK) (m:M F O σ H) (k:∀ds v H',Q ds->zy F H'->Kz F H H'->yz F O σ H v H' ds->R v H'):
  ∃Y:Ad->Ac->Hp->List Ad->Cx,Y=(λC s2 p fp=>X.comp N scope C s2 p fp)/\cK (zu7 X tg iter) imp (nC X.K pat) (tsC Y ifs) (eC Y elt) σ H R:=by
 refine⟨_,rfl,h F σ H _ m λds J H1 b3 t1 k1 b2 acc g=>?_⟩;obtain⟨hl,q1⟩:=b3;have m1:=m.kz k1 t1
 let A:Fr:=⟨H1,λx=>Ow F O σ x\/x=acc,F.tp⟩
 let Nd:Ev->Prop:=λl=>∀(j:Nat) a,l[j]?=some (some a)->(∃d,a=.dat d)\/a=.tape
 have u:Nd (yI imp O):=λj a z=>by
  obtain⟨_,_,_,n⟩:=oJ z;exact n
 have owc:∀{l:Ev} {S:St} {x:Ad},Nd l->(Ow A l S x↔A.O0 x):=λ{l S x} hh=>⟨λz=>z.elim id λa5=>by
  obtain⟨j,a,s,e1,Z,f⟩:=a5;rcases hh j a e1 with⟨d,rfl⟩|rfl
  .exact f.elim
  .exact f.elim,.inl⟩
 have gz:∀{l a0:Ev} {B τ2:St} {H:Hp},Nd l->Nd a0->zr (Gz A l B H) (Gz A a0 τ2 H):=λh1 h2=>zo λa o h e=>⟨λz=>h ((owc h1).mpr ((owc h2).mp z)),e⟩;have b1:∀{p:Hp},zy F p->zy A p:=λt=>t.to rfl λx z=>.inl (.inl z);have V:zr H1 (upd H1 acc (.lst [])):=yi g;have a7:M A (yI imp O) (xU imp σ) (upd H1 acc (.lst [])):=by
  have g1:zr (Gz F O σ H1) (Gz A (yI imp O) (xU imp σ) (upd H1 acc (.lst []))):=λa o e=>by
   obtain⟨z1,z2⟩:=zi e;have na:=zm z2 g;exact zD (λz=>((owc u).mp z).elim z1 na) (by rw[zj na];exact z2)
  refine⟨by unfold yI xU;rw[zK3,zK3],λi a s e1 Z=>?_,λi j a b s t x e1 Z _ _ f=>?_,λi r q e=>(by rcases u i _ e with⟨d,w⟩|w<;>cases w),b1 (t1.same V),λx o e _=>V x o e,?_⟩
  .obtain⟨j,w1,w2,w3⟩:=oJ e1;rcases w3 with⟨d,rfl⟩|rfl
   .obtain⟨v,g2,g3⟩:=m1.dat j d w2;rw[nu w1 g2]at Z;cases Z;exact⟨v,rfl,g3.same g1⟩
   .obtain⟨t,b,c,g2,g3⟩:=m1.tvar j w2;rw[nu w1 g3]at Z;cases Z;exact⟨t,b,c,g2,rfl⟩
  .rcases u i a e1 with⟨d,rfl⟩|rfl
   .exact f.elim
   .exact f.elim
  .rintro x (z|z)
   .have:∃o,H1 x=some o/\xV o:=m1.owEx z;obtain⟨o,ho,hn⟩:=this;exact⟨o,V _ _ ho,hn⟩
   .exact⟨_,by rw[z];exact zl,xE⟩
 refine⟨λi n ys S p=>n=ds.length-i/\i<=ds.length/\∃ad:List Aa,M A (yI imp O) S p/\p acc=some (.lst ys)/\AVs (Gz A (yI imp O) S p) ys ad/\ad.length<=i/\yZ (λC s2 p fp=>X.comp N scope C s2 p fp) pat ifs elt (yI imp O) (ds.drop i) ad Q,
  ⟨ds.length,by simp,zL6 _,[],a7,zl,.nil,zK6 _,q1⟩,?_⟩
 rintro i n ys S p ⟨rfl,hi,ad,m2,ha,av,T,cw⟩;have sG:zr (Gz F O σ H1) (Gz A (yI imp O) S p):=λa o e=>by
  obtain⟨z1,z2⟩:=zi e;exact m2.old a o (zD (λz=>z.elim z1 (zm z2 g)) z2)
 obtain⟨w1,w2⟩:=b2 i p _ sG;by_cases G:i<ds.length
 .have hd:=zK4 G;rw[(zP7 G)]at cw;obtain⟨l,eb,body⟩:=cw;obtain⟨go,yl⟩:=w1 _ hd;have D:Nd l:=λj a z=>by
   obtain⟨is,b6,_,e⟩:=Pat.is_ok eb;by_cases hn:∀d,a≠.dat d
   .exact u j a (tS e z hn)
   .simp only[Classical.not_forall,Classical.not_not]at hn;exact .inl hn
  refine .inr ⟨go,λU W H'=>∃ad:List Aa,M A (yI imp O) W H'/\H' acc=some (.lst U)/\AVs (Gz A (yI imp O) W H') U ad/\ad.length<=i+1/\yZ (λC s2 p fp=>X.comp N scope C s2 p fp) pat ifs elt (yI imp O) (ds.drop (i+1)) ad Q,
   λU W H' a8=>by obtain⟨a6,r1,r2,r3,r4,r5⟩:=a8;exact⟨ds.length-(i+1),(om0 G),rfl,G,a6,r1,r2,r3,r4,r5⟩,λx H3 y=>?_⟩
  obtain⟨I,b5⟩:=yl x H3 y;refine kb eb (m2.kz (Kz.of_same I) (m2.tp.same I)) (b5 λa o _ e=>m2.fresh e) λB m4 C s2 a9 fp=>body C s2 a9 fp A B H3 _ m4 λb H5 qb t5 k5=>?_;have m5:=m4.kz k5 t5;have a3:AVs (Gz A (yI imp O) B H5) ys ad:=av.same ((Kz.of_same I).gz m2.tp |>.trans ((gz (τ2:=B) u D).trans ((k5.gz m4.tp).trans (gz D u))));have accN:NT A acc:=⟨λt b c e=>by
   have:=(t1 t b c e).1.free g;exact⟨this.1,this.2.1⟩,oW t1.tab g⟩
  have a2:=k5 _ _ (I _ _ ha) accN;cases b with
  |false=>
   have b4:yZ (λC s2 p fp=>X.comp N scope C s2 p fp) pat ifs elt (yI imp O) (ds.drop (i+1)) ad Q:=by simpa using qb
   exact rq ⟨ad,Pat.back eb E m5,a2,a3,(zL8 T (zN3 _ _)),b4⟩
  |true=>
   refine rh λC s2 P fp=>?_;have qe:EvD (X.comp N scope C s2 P fp) l elt λy=>yZ (λC s2 p fp=>X.comp N scope C s2 p fp) pat ifs elt (yI imp O) (ds.drop (i+1)) (ad++[y]) Q:=by
    have z:=qb;rw[if_pos rfl]at z;exact z C s2 P fp
   refine qe A B H5 _ m5 λy v H6 qy t6 k6 r6=>?_;have a4:=k6 _ _ a2 accN;have hlen:ys.length<=i:=by rw[av.length];exact T
   have L:A.O0 acc:=.inr rfl;have a1:∀t b c,A.tp=some (t,b,c)->acc≠t/\acc≠b/\acc≠c:=λt b c e=>(t1 t b c e).1.free g;have m7:=(Pat.back eb E (m5.kz k6 t6)).wr (o:=.lst (ys++[v])) xE L a1 g (rJ a4) (λi r q z=>by rcases u i _ z with⟨d,w⟩|w<;>cases w);refine⟨a4,yt (by lia),ad++[y],m7,zl,?_,by simp;exact T,qy⟩;have b0:zr (Gz A (yI imp O) B H6) (Gz A (yI imp O) B (upd H6 acc (.lst (ys++[v])))):=zo λa o h e=>⟨h,by rw[zj (λz=>h (.inl (by rw[z];exact L)))];exact e⟩;exact((a3.same ((gz (τ2:=B) u D).trans ((k6.gz m5.tp).trans (gz D u)))).append (.cons (r6.same (gz D u)) .nil)).same b0
 .have e:=(zV6 hi (zX1 G));subst e;rw[zZ2]at cw;exact .inl ⟨w2 (zK6 _),k ad _ p cw (m.tp.re m2.tp rfl) (k1.trans m2.keep) (yz.back m k1 t1 ⟨acc,ys,rfl,g,ha,av.same (zo λa o h e=>⟨⟨λz=>h (.inl (.inl z)),λz=>h (.inl (.inr z))⟩,e⟩)⟩)⟩
def gR {N:List Str}{imp:List (Option Nat)}{scope:Aq}{tg iter elt:Am}{ifs:List Am}{pat:Pat}{Q:List Aa->Prop}{pos:Pos}(d:X.calm=true)(S:zG X.N X.env.scope N imp scope)(a:pat.free (yI imp O)=true)
  (hg:∀C s2 b fp,PG (X.comp N scope C s2 b fp) tg (nC X.K pat))
  (h:EvI X O tg iter λds=>ds.length<=1000/\yZ (λC s2 b fp=>X.comp N scope C s2 b fp) pat ifs elt (yI imp O) ds [] Q) (c:∀x,foldedSetIterable iter X.env x=pure x:=by intro _;rfl):
  EvL X O (.ListComp elt [⟨tg,iter,ifs,0⟩] scope pos) Q:=λF σ H R m k=>by
 obtain⟨Y,rfl,h⟩:=kQ a h F σ H R m k;exact⟨_,zE8 d S ph hg (λC s2 b fp pins s σ H Q I h=>jd pins s σ H Q I (h C s2 b fp)) (λC s2 b fp pins s σ H Q I h=>zh pins s σ H Q I (h C s2 b fp)) c,h⟩
section
variable {E:ya}{rest body:List Ap}{e c tg iter:Am}{pos p:Pos}
def oX.then {F:Fr}{D:Ends}(h:oX F E D):oX F {E with nx:=λa=>SvS X a rest E} {D with nx:=jP X rest D}:=
 ⟨λa b H' m q=>q F b H' D m h,h.rt,h.bk,h.ct⟩
def zE (q:E.nx O):SvS X O [] E:=λF σ H D m h=>⟨_,kR,h.nx _ _ _ m q⟩
def SvS.imp {d:List Ap}{b:ya}(h:SvS X O d b)(hn:∀O,b.nx O->E.nx O)(hr:∀a,b.rt a->E.rt a)(hb:∀O,b.bk O->E.bk O)(f:∀O,b.ct O->E.ct O):SvS X O d E:=λF σ H D m r=>
 h F σ H D m ⟨λO σ H m q=>r.nx O σ H m (hn _ q),λa v H m q=>r.rt a v H m (hr _ q),λO σ H m q=>r.bk O σ H m (hb _ q),λO σ H m q=>r.ct O σ H m (f _ q)⟩
def yq (i:Nat){x:Str}{pos':Pos}(a:X.N.Nodup)(h:EvD X O e λd=>SvS X (O.set i (some (.dat d))) rest E)(hi:X.N[i]?=some x:=by rfl)(g:Loc X.env.scope x:=by first|exact Or.inl rfl|exact Or.inr rfl)
  (f:swapsWith e (some (.Name x pos')) pos.line X.env=pure false:=by rfl) (hf:X.fn x=true\/X.env.scope.names.lookup x=some .local:=by first|exact .inl rfl|exact .inr rfl|assumption):SvS X O (.Assign [.Name x pos'] e pos::rest) E:=λF σ H D m r=>by exact⟨_,zC (qI a hi g zh f hf) zJ,h F σ H _ m λd v H1 j t1 k1 b=>j F _ H1 D ((m.kz k1 t1).set b) r⟩
def xt (i:Nat){x:Str}{pos':Pos}(a:X.N.Nodup)(h:EvL X O e λds=>SvS X (O.set i (some (.own ds))) rest E)(hi:X.N[i]?=some x:=by rfl)(g:Loc X.env.scope x:=by first|exact Or.inl rfl|exact Or.inr rfl)
  (f:swapsWith e (some (.Name x pos')) pos.line X.env=pure false:=by rfl) (hf:X.fn x=true\/X.env.scope.names.lookup x=some .local:=by first|exact .inl rfl|exact .inr rfl|assumption):SvS X O (.Assign [.Name x pos'] e pos::rest) E:=λF σ H D m r=>by exact⟨_,zC (qI a hi g zh f hf) zJ,h F σ H _ m λd v H1 j t1 k1 b=>j F _ H1 D (m.setOwn t1 k1 b) r⟩
def zk3 (i:Nat){x:Str}{pos' a:Pos}{N:List Str}{imp:List (Option Nat)}{scope:Aq}{elt:Am}{ifs:List Am}{pat:Pat}(l:X.N.Nodup)(o:X.calm=true)(S:zG X.N X.env.scope N imp scope)(b:pat.free (yI imp O)=true)
  (hg:∀C s2 d fp,PG (X.comp N scope C s2 d fp) tg (nC X.K pat))
  (h:EvI X O tg iter λds=>ds.length<=1000/\yZ (λC s2 d fp=>X.comp N scope C s2 d fp) pat ifs elt (yI imp O) ds [] λds=>SvS X (O.set i (some (.own ds))) rest E)
  (hi:X.N[i]?=some x:=by rfl) (n:Loc X.env.scope x:=by first|exact Or.inl rfl|exact Or.inr rfl) (f:swapsWith (.ListComp elt [⟨tg,iter,ifs,0⟩] scope a) (some (.Name x pos')) pos.line X.env=pure true:=by rfl)
  (hf:X.fn x=true\/X.env.scope.names.lookup x=some .local:=by first|exact .inl rfl|exact .inr rfl|assumption) (g:∀x,foldedSetIterable iter X.env x=pure x:=by intro _;rfl):
  SvS X O (.Assign [.Name x pos'] (.ListComp elt [⟨tg,iter,ifs,0⟩] scope a) pos::rest) E:=λF σ H D m r=>by
 obtain⟨Y,rfl,h⟩:=kQ b h F σ H (λv H'=>jP X rest D (σ.set i (some v)) H') m λds v H' q t k j=>q F _ H' D (m.setOwn t k j) r;exact⟨_,zC (eY o S ph hg (λC s2 d fp pins s σ H Q I h=>jd pins s σ H Q I (h C s2 d fp)) (λC s2 d fp pins s σ H Q I h=>zh pins s σ H Q I (h C s2 d fp)) l hi n f hf g) zJ,h⟩
theorem xm.dat {F:Fr}{σ:St}{H:Hp}{v:V}{d:Aa}(m:M F O σ H)(r:AV (Gz F O σ H) v d):xm F v H (.dat d):=
 ⟨m.tp,m.keep,r.same (zo λa o h e=>⟨ow0 h,e⟩)⟩
def yP (h:EvD X O e λd=>E.rt (.dat d)):SvS X O (.Return (some e) pos::rest) E:=λF σ H D m r=>by exact⟨_,zC (sQ zh) zJ,h F σ H _ m λd v H1 b t1 k1 a=>r.rt _ _ _ (xm.dat (m.kz k1 t1) a) b⟩
def vC (h:EvL X O e λds=>E.rt (.own ds)):SvS X O (.Return (some e) pos::rest) E:=λF σ H D m r=>by
 refine⟨_,zC (sQ zh) zJ,h F σ H _ m λd v H1 j t1 k1 f=>r.rt _ _ _ ?_ j⟩;obtain⟨l,xs,g,b,k,i⟩:=f;exact⟨t1,m.keep.trans k1,l,xs,_,g,rfl,m.fresh0 b,ow0 (m.fresh b),k,i.same (zo λa o h e=>⟨⟨ow0 h.1,h.2⟩,e⟩)⟩
def wF (i:Nat){x:Str}{ds:List Aa}(hi:O[i]?=some (some (.own ds)))(q:E.rt (.own ds))(g:X.N[i]?=some x:=by rfl)(f:Vis X.env.scope x:=by first|exact Or.inl rfl|exact Or.inr (Or.inl rfl)|exact Or.inr (Or.inr rfl))
  (hd:(x == ("__debug__":Str))=false:=by decide) (b:(x == ("__classdict__":Str))=false:=by decide):SvS X O (.Return (some (.Name x p)) pos::rest) E:=λF σ H D m r=>by
 obtain⟨l,xs,d,k,s,n,j⟩:=m.own i ds hi;refine⟨_,zC (sQ (yu g f hd b)) zJ,.ref l,d,r.rt (.own ds) _ _ ⟨m.tp,m.keep,l,xs,_,rfl,rfl,j,n,k,s.same (zo λa o h e=>⟨⟨ow0 h,λz=>h (by rw[z];exact .inr ⟨i,_,_,hi,d,rfl⟩)⟩,e⟩)⟩ q⟩
theorem wW {a b:List Ap}(h:EvT X O c λk=>SvS X O (if k=true then a else b) {E with nx:=λd=>SvS X d rest E}):SvS X O (.If c a b pos::rest) E:=λF σ H D m r=>by
 refine⟨_,zC (zf6 yU zJ zJ) zJ,h F σ H _ m λk H1 f t1 k1=>?_⟩;cases k with
 |true=>exact rh (by simpa using f F σ H1 _ (m.kz k1 t1) r.then)
 |false=>exact rq (by simpa using f F σ H1 _ (m.kz k1 t1) r.then)
def aZ (i:Nat){c:Aa}{S:Ad->Prop}{a:List Ap}(hi:O[i]?=some (some (.deep c S)))(h:SvS X (O.set i (some (.dat c))) a E):SvS X O a E:=λF σ H D m r=>h F σ H D (m.frzd hi) r
def cj (i:Nat){ds:List Aa}{a:List Ap}(hi:O[i]?=some (some (.own ds)))(h:SvS X (O.set i (some (.dat (.list ds)))) a E):SvS X O a E:=λF σ H D m r=>h F σ H D (m.frz hi) r
def M.wrC {F:Fr}{σ:St}{H:Hp}{i:Nat}{c c':Aa}{l:Ad}{o':HO}(m:M F O σ H)(hi:O[i]?=some (some (.ow c)))(v:σ[i]?=some (some (.ref l)))(av:yN (Gz F O σ H) o' c'):
  M F (O.set i (some (.ow c'))) σ (upd H l o'):=by
 obtain⟨Z,o,N,P,T,G,Q⟩:=m.owc i c hi;rw[v]at N;cases N;have B:∀{j:Nat} {a:A} {s:Option V},(O.set i (some (.ow c')))[j]?=some (some a)->σ[j]?=some s->(i=j/\a=.ow c'/\s=some (.ref l))\/(i≠j/\O[j]?=some (some a)):=λ{j a s} e1 g=>by
  rcases zv e1 with⟨rfl,z⟩|⟨C,d⟩
  .cases z;rw[v]at g;cases g;exact .inl ⟨rfl,rfl,rfl⟩
  .exact .inr ⟨C,d⟩
 have J:∀{y:Ad},Ow F (O.set i (some (.ow c'))) σ y->Ow F O σ y:=λ{y} h=>by
  rcases h with z|⟨j,a,s,e1,g,f⟩
  .exact .inl z
  .rcases B e1 g with⟨rfl,rfl,rfl⟩|⟨C,d⟩
   .exact .inr ⟨i,_,_,hi,v,f⟩
   .exact .inr ⟨j,a,s,d,g,f⟩
 have ol:Ow F O σ l:=.inr ⟨i,_,_,hi,v,rfl⟩;have S:zr (Gz F O σ H) (Gz F (O.set i (some (.ow c'))) σ (upd H l o')):=zo λa o h e=>⟨λz=>h (J z),by rw[zj (λz=>h (by rw[z];exact ol))];exact e⟩;refine⟨by rw[zP0];exact m.len,λj a s e1 g=>?_,λj D a b s t x e1 g K I f1 f2=>?_,λj r q e D a s x e1 g f=>?_,m.tp.updO G (T.plain P),λy o e n=>?_,λy hy=>?_⟩
 .rcases B e1 g with⟨rfl,rfl,rfl⟩|⟨C,d⟩
  .exact⟨l,o',rfl,zl,av.same S,G,Q⟩
  .refine(m.ok j a s d g).stay S (λy u f e=>?_) rfl λr q U k=>⟨k.tp,k.o,k.ok.updO (λz=>G (k.o _ z)) (T.plain P),λy u e n=>?_⟩
   .obtain⟨W,Y,_⟩:=m.ft d g f;refine⟨?_,W,Y⟩;rw[zj λz=>C (m.dj i j _ a _ s l hi d v g rfl (by rw[<-z];exact f))];exact e
   .rw[zj (zm e (m.xd j r q (by rw[<-U];exact d) i _ _ l hi v rfl))];exact k.k y u e n
 .rcases B e1 K with⟨rfl,rfl,rfl⟩|⟨C,d⟩
  .rcases B g I with⟨rfl,_⟩|⟨L,w⟩
   .rfl
   .exact m.dj i D _ b _ t x hi w v I f1 f2
  .rcases B g I with⟨rfl,rfl,rfl⟩|⟨L,w⟩
   .exact m.dj j i a _ s _ x d hi K v f1 f2
   .exact m.dj j D a b s t x d w K I f1 f2
 .rcases zv e with⟨_,z⟩|⟨_,R⟩
  .cases z
  .rcases B e1 g with⟨rfl,rfl,rfl⟩|⟨_,d⟩
   .exact m.xd j r q R i _ _ x hi v f
   .exact m.xd j r q R D a s x d g f
 .rw[zj (zm e Q)];exact m.keep y o e n
 .rw[zj (λz=>G (by rw[<-z];exact hy))];exact m.oex y hy
def M.wrOwn {F:Fr}{σ:St}{H:Hp}{i:Nat}{ds es:List Aa}{l:Ad}{ys:List V}(m:M F O σ H)(hi:O[i]?=some (some (.own ds)))(a:σ[i]?=some (some (.ref l)))(av:AVs (Gz F O σ H) ys es):
  M F (O.set i (some (.own es))) σ (upd H l (.lst ys)):=m.wrC hi a (.lst av)
def vQ (i:Nat){x:Str}{ds:List Aa}{p1 p2 p3:Pos}(hi:O[i]?=some (some (.own ds)))(h:EvD X O e λd=>ds.length<1000/\SvS X (O.set i (some (.own (ds++[d])))) rest E)
  (t:X.N[i]?=some x:=by rfl) (s:Vis X.env.scope x:=by first|exact Or.inl rfl|exact Or.inr (Or.inl rfl)|exact Or.inr (Or.inr rfl)) (hd:(x == ("__debug__":Str))=false:=by decide) (f:(x == ("__classdict__":Str))=false:=by decide)
  (a:attributeBase (.Name x p1) "append" X.env (eval (.Name x p1) X.env)=eval (.Name x p1) X.env:=by rfl) (j:Af [e] X.env=(false,eval e X.env)::Af [] X.env:=by rfl)
  (hpl:((((backTo p3 (Af [e] X.env)).all λx=>!x.fst)&&(backToKw p3 (keywordEach [] X.env)).all λx=>x.fst.isSome)&&decide (([e].length+([]:List Keyword).length+if([]:List Keyword).isEmpty=true then 0 else 1)<30))=true:=by rfl)
  (b:(p2.endLine == p3.line)=true:=by rfl) (g:swapsWith (.Call (.Attribute (.Name x p1) "append" p2) [e] [] p3) none pos.line X.env=pure false:=by rfl):SvS X O (.Expr (.Call (.Attribute (.Name x p1) "append" p2) [e] [] p3) pos::rest) E:=λF σ H D m r=>by
 obtain⟨l,xs,k,n,q,w,y⟩:=m.own i ds hi;refine⟨_,zC (kD (zj6 PySem.F.plainAttrs_list PySem.F.slot_list_append PySem.F.type_list_append rO (yu t s hd f) (zw zh zQ j) a hpl b j) g) zJ,⟨.ref l,k,.inl ⟨rfl,_,SqL.of n⟩,?_⟩⟩;refine h F σ H _ m λd v H1 o t1 k1 u=>?_;refine⟨l,xs,v,rfl,rfl,k1 _ _ n (m.tp.nt w),by rw[q.length];exact yt (zQ0 o.1),?_⟩;exact o.2 F σ _ D ((m.kz k1 t1).wrOwn hi k ((q.same (k1.gz m.tp)).append (.cons u .nil))) r
def rL (i:Nat){x:Str}{ds:List Aa}{p1 p2 p3:Pos}(hi:O[i]?=some (some (.own ds)))(h:EvD X O e λd=>∃es,d=.list es/\ds.length+es.length<=1000/\SvS X (O.set i (some (.own (ds++es)))) rest E)
  (z:X.N[i]?=some x:=by rfl) (t:Vis X.env.scope x:=by first|exact Or.inl rfl|exact Or.inr (Or.inl rfl)|exact Or.inr (Or.inr rfl)) (hd:(x == ("__debug__":Str))=false:=by decide) (g:(x == ("__classdict__":Str))=false:=by decide)
  (a:attributeBase (.Name x p1) "extend" X.env (eval (.Name x p1) X.env)=eval (.Name x p1) X.env:=by rfl) (k:Af [e] X.env=(false,eval e X.env)::Af [] X.env:=by rfl)
  (hpl:((((backTo p3 (Af [e] X.env)).all λx=>!x.fst)&&(backToKw p3 (keywordEach [] X.env)).all λx=>x.fst.isSome)&&decide (([e].length+([]:List Keyword).length+if([]:List Keyword).isEmpty=true then 0 else 1)<30))=true:=by rfl)
  (f:(p2.endLine == p3.line)=true:=by rfl) (j:swapsWith (.Call (.Attribute (.Name x p1) "extend" p2) [e] [] p3) none pos.line X.env=pure false:=by rfl):SvS X O (.Expr (.Call (.Attribute (.Name x p1) "extend" p2) [e] [] p3) pos::rest) E:=λF σ H D m r=>by
 obtain⟨l,xs,n,o,s,w,B⟩:=m.own i ds hi;refine⟨_,zC (kD (zj6 PySem.F.plainAttrs_list PySem.F.slot_list_extend PySem.F.type_list_extend jT (yu z t hd g) (zw zh zQ k) a hpl f k) j) zJ,⟨.ref l,n,.inl ⟨rfl,_,SqL.of o⟩,?_⟩⟩;refine h F σ H _ m λd v H1 y t1 k1 A=>?_;obtain⟨es,rfl,u,q⟩:=y;obtain⟨b,ys,rfl,g1,g2⟩:=A.lst_inv;refine⟨l,b,xs,ys,rfl,rfl,k1 _ _ o (m.tp.nt w),(zi g1).2,by rw[s.length,g2.length];exact zQ0 (yt u),?_⟩;exact q F σ _ D ((m.kz k1 t1).wrOwn hi n ((s.same (k1.gz m.tp)).append g2)) r
def zp3 (i:Nat){x:Str}{a:Am}{ds:List Aa}{p1 p2:Pos}(hi:O[i]?=some (some (.own ds)))(h:EvD X O e λd=>EvD X O a λy=>∃k j,y=.int k/\ixN ds.length k=some j/\SvS X (O.set i (some (.own (ds.set j d)))) rest E)
  (K:X.N[i]?=some x:=by rfl) (G:Vis X.env.scope x:=by first|exact Or.inl rfl|exact Or.inr (Or.inl rfl)|exact Or.inr (Or.inr rfl)) (hd:(x == ("__debug__":Str))=false:=by decide) (z:(x == ("__classdict__":Str))=false:=by decide)
  (s:swapsWithSole [.Subscript (.Name x p1) a p2] e pos.line X.env=pure false:=by rfl) (hw:swappedStores [.Subscript (.Name x p1) a p2] e X.env=pure none:=by rfl)
  (ha:(assignEach [.Subscript (.Name x p1) a p2] X.env).map (·.2)=[assign (.Subscript (.Name x p1) a p2) X.env]:=by rfl) (b:PG X (.Subscript (.Name x p1) a p2) (zy7 (zl9 i) (uJ X a) zj3):=by exact me (yu rfl (by first|exact Or.inl rfl|exact Or.inr (Or.inl rfl)|exact Or.inr (Or.inr rfl))) zh set_list):
  SvS X O (.Assign [.Subscript (.Name x p1) a p2] e pos::rest) E:=λF σ H D m r=>by
 obtain⟨l,xs,f,t,n,g,J⟩:=m.own i ds hi;refine⟨_,zC (nJ zh b s hw ha) zJ,h F σ H _ m λd v H1 u t1 k1 A=>?_⟩;have m1:=m.kz k1 t1;refine⟨.ref l,f,u F σ H1 _ m1 λy I L C o k2 B=>?_⟩;obtain⟨k,j,rfl,w,q⟩:=C;cases B.int_inv;refine⟨l,xs,k,j,rfl,rfl,k2 _ _ (k1 _ _ t (m.tp.nt g)) (m.tp.nt g),by rw[n.length];exact w,?_⟩;exact q F σ _ D ((m1.kz k2 o).wrOwn hi f (((n.same (k1.gz m.tp)).same (k2.gz m1.tp)).set (A.same (k2.gz m1.tp)) j)) r
def ur (X:Cx)(pat:Pat)(body rest:List Ap)(E:ya):List Aa->Ev->Prop
 |[],O=>SvS X O rest E
 |d::ds,O=>∃a,pat.bind d O=some a/\SvS X a body {nx:=ur X pat body rest E ds,ct:=ur X pat body rest E ds,bk:=λb=>SvS X b rest E,rt:=E.rt}
def qj {pat:Pat}(U:PassesOwn (Ag X.prog X.w) X.A X.env X.xe)(W:X.calm=true)(hg:PG X tg (nC X.K pat))(h:EvI X O tg iter λds=>ur X pat body rest E ds O)
  (L:∀x,foldedSetIterable iter X.env x=pure x:=by intro _;rfl):SvS X O (.For tg iter body [] pos::rest) E:=λF σ H D m r=>by
 refine⟨_,zC (zt2 U W ph hg zJ L) zJ,h F σ H _ m λds J H1 P t1 k1 z=>?_⟩;have m1:=m.kz k1 t1;have v:oX (F.up (Gz F O σ H1)) E D:=r.up;refine⟨λi n j H'=>n=ds.length-i/\i<=ds.length/\∃b,M (F.up (Gz F O σ H1)) b j H'/\ur X pat body rest E (ds.drop i) b,⟨ds.length,by simp,zL6 _,O,m1.up,P⟩,?_⟩;rintro i n j H' ⟨rfl,hi,b,s,lw⟩;obtain⟨S,V⟩:=z i H' _ (m1.upold s);by_cases d:i<ds.length
 .have hd:=zK4 d;rw[zP7 d]at lw;obtain⟨N,I,body⟩:=lw;obtain⟨go,T⟩:=S _ hd;refine .inr ⟨go,λg k=>∃b,M (F.up (Gz F O σ H1)) b g k/\ur X pat _ rest E (ds.drop (i+1)) b,λg k ⟨t,R,Q⟩=>⟨ds.length-(i+1),(om0 d),rfl,d,t,R,Q⟩,λx G y=>?_⟩;obtain⟨l,C⟩:=T x G y;exact kb I (s.kz (Kz.of_same l) (s.tp.same l)) (C λa o _ e=>s.fresh e) λu m4=>body _ u G _ m4 ⟨λf σ2 B m2 q=>⟨f,m2,q⟩,v.rt,λf σ2 B m2 q=>q _ σ2 B D m2 v,λf σ2 B m2 q=>⟨f,m2,q⟩⟩
 .have e:=(zV6 hi (zX1 d));subst e;rw[zZ2]at lw;exact .inl ⟨V (zK6 _),lw _ j H' D s v⟩
def yx {pat:Pat}{ds:List Aa}(P:Nat->Ev->Prop)(h0:P 0 O)(j:∀i d O,ds[i]?=some d->P i O->∃f,pat.bind d O=some f/\SvS X f body {nx:=P (i+1),ct:=P (i+1),bk:=λg=>SvS X g rest E,rt:=E.rt})
  (hd:∀O,P ds.length O->SvS X O rest E):ur X pat body rest E ds O:=by
 have key:∀n i O,n=ds.length-i->i<=ds.length->P i O->ur X pat body rest E (ds.drop i) O:=by
  intro n
  induction n with
  |zero=>
   intro i O hn hi p;have e:=(om5 hn hi);subst e;rw[zZ2];exact hd O p
  |succ n h=>
   intro i O hn hi p;have a:=(om6 hn);rw[zP7 a];obtain⟨f,e,b⟩:=j i ds[i] O (zK4 a) p;exact⟨f,e,b.imp (λO p=>h (i+1) O (om7 hn) a p) (λ_ z=>z) (λ_ z=>z) (λO p=>h (i+1) O (om7 hn) a p)⟩
 exact key _ 0 O rfl (zL6 _) h0
end
end
section
variable {P:Ah}{w:Ak}{K:Ae}{mg:Str->Option Ab}{base:An}
theorem M.start {F:Fr}{N:List Str}{vs:List V}{as:List A}{H:Hp}(e:F.H0=H)(t:zy F H)(o:∀x,F.O0 x->∃u,H x=some u/\xV u)(n:zK F (sub (λx=>¬F.O0 x) H) vs as):
  M F (as.map some++List.replicate (N.length-as.length) none) (L2.start N vs) H:=by
 have g:∀{i:Nat} {a:A},(as.map some++List.replicate (N.length-as.length) none)[i]?=some (some a)->as[i]?=some a:=λ{i a} h=>by
  rcases zQ1 i as.length with z|z
  .rw[zN4 (by rw[zK3];exact z),zM3,zO5]at h;obtain⟨b,l,k⟩:=h;cases k;exact l
  .rw[zN9 (by rw[zK3];exact z),zU3]at h;split at h<;>cases h
 have at':∀{vs:List V} {as:List A} {i:Nat} {a:A},zK F (sub (λx=>¬F.O0 x) H) vs as->as[i]?=some a->∃v,vs[i]?=some v/\jE F (sub (λx=>¬F.O0 x) H) v a:=by
  intro vs as i a h
  induction h generalizing i with
  |nil=>intro e;simp at e
  |cons h r B=>
   intro e;cases i with
   |zero=>simp at e;subst e;exact⟨_,rfl,h⟩
   |succ i=>obtain⟨v,l,k⟩:=B (by simpa using e);exact⟨v,by simpa using l,k⟩
 have y:∀{i:Nat} {v:V},vs[i]?=some v->(L2.start N vs)[i]?=some (some v):=λ{i v} h=>by
  unfold L2.start;rw[zN4 (by rw[zK3];exact((zK7.mp h).1)),zM3,h];rfl
 have no:∀(i:Nat) a,(as.map some++List.replicate (N.length-as.length) none)[i]?=some (some a)->(∃d,a=.dat d)\/a=.tape:=λi a z=>by
  obtain⟨v,_,h⟩:=at' n (g z);cases a with
  |dat d=>exact .inl ⟨d,rfl⟩
  |tape=>exact .inr rfl
  |_=>exact h.elim
 have C:zr (sub (λx=>¬F.O0 x) H) (Gz F (as.map some++List.replicate (N.length-as.length) none) (L2.start N vs) H):=zo λa o h e=>⟨λz=>z.elim h λm=>by
  obtain⟨i,b,s,e1,_,f⟩:=m;rcases no i b e1 with⟨d,rfl⟩|rfl
  .exact f.elim
  .exact f.elim,e⟩
 refine⟨by unfold L2.start;simp[n.length],λi a s e1 p=>?_,λi j a b s t x e1 _ _ _ f=>?_,λi r q z=>(by rcases no i _ z with⟨d,w⟩|w<;>cases w),t,λx o' h _=>by rw[<-e];exact h,o⟩
 .obtain⟨v,l,k⟩:=at' n (g e1);rw[y l]at p;cases p;rcases no i a e1 with⟨d,rfl⟩|rfl
  .exact⟨v,rfl,AV.same C k⟩
  .obtain⟨t',b,c,D,rfl⟩:=k;exact⟨t',b,c,D,rfl⟩
 .rcases no i a e1 with⟨d,rfl⟩|rfl
  .exact f.elim
  .exact f.elim
def fnA {x qual:Str}{st:Ap}{f:Ad}{fd:Ao}{N ps:List Str}{k:Nat}{φ:List A->(A->Prop)->Prop}(G:Fun K x qual st f fd)(S:zA N ps (zb st))(hlen:∀as Q,φ as Q->as.length=ps.length)
  (b:∀(cdv:Ab) (d:Al) (outer:List Ar) (s:Ac) (H:Hp) (E:XK) (as:List A) (Q:A->Prop),zB k (d.deeper (envOfC qual (zb st) s.heap.objs.size f cdv))->φ as Q->
   SvS (yS CX0 P w K mg base N qual (zb st) f cdv d outer s H E).nox (as.map some++List.replicate (N.length-as.length) none) (zt st) {nx:=λ_=>Q (.dat .none),rt:=Q}):zS P w K mg base CX0 (k+1) f fd ps (spA φ):=by
 refine G.ok S (λvs H Q E h=>?_) (λcdv d outer s H vs l E hr h=>?_)
 .obtain⟨F,as,j,_,_,_,g,c,_⟩:=h;rw[g.length,hlen as _ c]
 .obtain⟨F,as,j,e,t,o,g,c,i⟩:=h;exact b cdv d outer s H E as j hr c F _ H _ (M.start e t o g) ⟨λO σ H' m q=>i _ _ _ q ⟨m.tp,m.keep,.non⟩,λa v H' r q=>i a v H' q r,λ_ _ _ _ z=>z.elim,λ_ _ _ _ z=>z.elim⟩
end
section
variable {X:Cx}{pins:List (Ad×Obj)}{σ:St}{H:Hp}{s:Ac}{h':An}
def Inv.turnL {t':Nat}{ch:List Ad}(I:Inv X pins σ H s)(k:∀b o,b∉ch->s.heap.get? b=some o->h'.get? b=some o)(hf:∀b∈ch,yO X pins H b):Inv X pins σ H {s with heap:=h',toks:=t'}:=by
 have d:∀b u,H b=some u->b∉ch:=λb u e z=>by rw[(hf b z).1]at e;cases e
 refine I.step (λb hb=>?_) (λb o _ _ a e _=>k b o a e) (λb o _ _ a e _=>⟨o.slots,k b o a e⟩) (λ_ _ _ _ n=>n)
  (λb o a e=>⟨o,k b o a e⟩) (λ_ _ e=>e) (λ_ _ _ e=>e) (λb ps e=>⟨#[],by rw[e];simp⟩) (λm hm=>?_) (λb u e=>?_) I.bare
 .obtain⟨_,f1,_,h,f4,g⟩:=hf b hb;exact⟨h,f1,f4,g⟩
 .obtain⟨o,es,ep,f,r⟩:=hm;exact⟨o,es,ep,k _ o (λz=>(hf _ z).2.1 rfl) f,r⟩
 .refine(I.hok b u e).stay (λc v a q=>k c v ?_ q) (λ_ q=>q) λ_ _ q=>q;rcases a with z|z
  .rw[z];exact d b u e
  .exact d c _ z
def Inv.turnLay {t':Nat}{ch:List Ad}{T:Ad}{o:HO}(I:Inv X pins σ H s)(k:∀b o,b∉ch->s.heap.get? b=some o->h'.get? b=some o)(hf:∀b∈ch,yO X pins H b)(f:s.heap.objs.size<=T)(new:yr X.prog X.w (upd H T o) h' T o):
  Inv X pins σ (upd H T o) {s with heap:=h',toks:=t'}:=by
 have d:∀b u,H b=some u->b∉ch:=λb u e z=>by rw[(hf b z).1]at e;cases e
 have hn:=I.hok.fresh f;have lt:∀{b:Ad} {u:Obj},s.heap.get? b=some u->b≠T:=λe=>zL9 (zK5 (zL0 e) f);refine I.step (λb hb=>?_) (λb o _ _ a e _=>k b o a e) (λb o _ _ a e _=>⟨o.slots,k b o a e⟩) (λb u _ e n=>by rw[zj (lt e)];exact n)
  (λb o a e=>⟨o,k b o a e⟩) (λb xs e=>by rw[zj (zm e hn)];exact e) (λb u xs e=>by rw[zj (zm e hn)];exact e) (λb ps e=>⟨#[],by rw[zj (zm e hn),e];simp⟩) (λm hm=>?_) (λb u e=>?_) I.bare
 .obtain⟨_,f1,_,i,f4,h⟩:=hf b hb;exact⟨i,f1,f4,h⟩
 .obtain⟨o,es,ep,g,r⟩:=hm;exact⟨o,es,ep,k _ o (λz=>(hf _ z).2.1 rfl) g,r⟩
 .by_cases hb:b=T
  .subst hb;rw[zl]at e;cases e;exact new
  .rw[zj hb]at e;refine(I.hok b u e).stay (λc v a q=>k c v ?_ q) (λc q=>by rw[zj (zm q hn)];exact q) λc xs q=>by rw[zj (zm q hn)];exact q
   rcases a with z|z
   .rw[z];exact d b u e
   .exact d c _ z
end
def zI4 {a b:Nat}(h:b<a):(a:Ad)≠b:=zT2 h
def Itz (K:Ae)(l1 l2:Ad):It:=
 ⟨λi H=>∃xs ys x y,SqL K H l1 xs/\SqL K H l2 ys/\xs[i]?=some x/\ys[i]?=some y,
  λi H v H'=>∃T x y,v=.ref T/\H T=none/\H'=upd H T (.tup [x,y])/\(∀xs,SqL K H l1 xs->xs[i]?=some x)/\∀ys,SqL K H l2 ys->ys[i]?=some y,
  λi H=>∃xs ys,SqL K H l1 xs/\SqL K H l2 ys/\(xs.length<=i\/ys.length<=i)⟩
def Ite (K:Ae)(l:Ad):It:=
 ⟨λi H=>∃xs x,SqL K H l xs/\xs[i]?=some x,
  λi H v H'=>∃T x,v=.ref T/\H T=none/\H'=upd H T (.tup [.int i,x])/\∀xs,SqL K H l xs->xs[i]?=some x,
  λi H=>∃xs,SqL K H l xs/\xs.length<=i⟩
def zD6 {P:Ah}{w:Ak}{K:Ae}{elts:List Am}{kk:Nat}{pos:Pos}{z TI TO i1 i2 l1 l2:Ad}(D:ZipApart z TI TO i1 i2 l1 l2):
  Turn P w K (.Tuple elts kk pos) (Itz K l1 l2) [z,TI,TO,i1,i2] z (λi h=>IsZip h z TI TO .none/\IsPair h TI (.ref i1) (.ref i2)/\(∃a b,IsPair h TO a b)/\h.IsListIter i1 l1 i/\h.IsListIter i2 l2 i) where
 mem:=by simp
 obj:=λi h st b hb=>by
  obtain⟨f,g,⟨a,c,l⟩,⟨S,e1,_,d1⟩,⟨T,M,_,d2⟩⟩:=st;simp only[zK8,zM5,zP8]at hb;rcases hb with rfl|rfl|rfl|rfl|rfl
  .exact⟨_,f,λv z=>by cases(z)⟩
  .exact⟨_,g,λv z=>by cases(z)⟩
  .exact⟨_,l,λv z=>by cases(z)⟩
  .exact⟨S,e1,λv z=>by rw[d1]at z;cases z⟩
  .exact⟨T,M,λv z=>by rw[d2]at z;cases z⟩
 keep:=λi h h' st k=>by
  obtain⟨f,g,⟨a,c,l⟩,p,q⟩:=st;exact⟨k z (by simp) _ f,k TI (by simp) _ g,⟨a,c,k TO (by simp) _ l⟩,p.at λo e=>k i1 (by simp) o e,q.at λo e=>k i2 (by simp) o e⟩
 item:=by
  intro X L hw O V i pins s σ H E I hf st hg;subst L hw O;obtain⟨xs,ys,x,y,d,j,U,hy⟩:=hg;obtain⟨t,m,p1,C⟩:=I.list d;obtain⟨B,n,p2,F⟩:=I.list j;obtain⟨u,hu,ru⟩:=m.get U;obtain⟨v,Y,rv⟩:=n.get hy;obtain⟨f,g,⟨a,c,l⟩,p,q⟩:=st;refine wpAny_pyNext_zip_item D f g l p q p1.isList p2.isList (by simpa using hu) (by simpa using Y) λh' a1 a2 a3 Z a5 a6 hk=>⟨_,rfl,wpAny_letOwnedTupleGo_zip a1 λG b1 r=>?_⟩;have R:∀b o,b∉[z,TI,TO,i1,i2]->s.heap.get? b=some o->G.get? b=some o:=λb o hb e=>by
   simp only[zK8,zM5,zP8,not_or]at hb;exact r.extBut _ _ hb.1 (hk b o hb.1 hb.2.2.1 hb.2.2.2.1 hb.2.2.2.2 e)
  have gT:=r.extBut _ _ (zT2 (zL0 f)) a5;have J:=I.turnLay (t':=s.toks) (o:=.tup [x,y]) R hf (zK6 _) ⟨by show 2<=sizeLine;decide,[u,v],.cons ru (.cons rv .nil),_,gT,rfl,0,rfl⟩;refine⟨.ref s.heap.objs.size,_,J,rfl,⟨_,x,y,rfl,I.hok.fresh (zK6 _),rfl,λzs N=>by rw[I.list_inj N d];exact U,λzs N=>by rw[I.list_inj N j];exact hy⟩,⟨b1,r.extBut _ _ D.TIz (hk _ _ D.TIz D.TITO D.TIi1 D.TIi2 g),⟨u,v,r.extBut _ _ D.TOz a2⟩,a3.extBut r.extBut D.i1z,Z.extBut r.extBut D.i2z⟩,λb hb=>?_⟩;rw[zj]
  .exact(hf b hb).1
  .obtain⟨o,e,_⟩:=(show ∃o,s.heap.get? b=some o/\True from by
    simp only[zK8,zM5,zP8]at hb;obtain⟨S,e1,_⟩:=p;obtain⟨T,M,_⟩:=q;rcases hb with rfl|rfl|rfl|rfl|rfl
    .exact⟨_,f,trivial⟩
    .exact⟨_,g,trivial⟩
    .exact⟨_,l,trivial⟩
    .exact⟨_,e1,trivial⟩
    .exact⟨_,M,trivial⟩)
   exact zL9 (zL0 e)
 done:=by
  intro X L hw O V i pins s σ H E I hf st hg;subst L hw O;obtain⟨xs,ys,d,j,hl⟩:=hg;obtain⟨t,m,p1,C⟩:=I.list d;obtain⟨B,n,p2,F⟩:=I.list j;obtain⟨f,g,⟨a,c,l⟩,p,q⟩:=st;refine wpAny_pyNext_zip_end (I.ok.hd V) D f g l p q p1.isList p2.isList (hl.imp (λz=>by simp;exact zL8 (zM9 m.length.symm) z) λz=>by simp;exact zL8 (zM9 n.length.symm) z) λh' hk=>⟨rfl,?_⟩;exact I.turnL (λb o hb e=>by
   simp only[zK8,zM5,zP8,not_or]at hb;exact hk b o hb.1 hb.2.2.1 hb.2.2.2.1 hb.2.2.2.2 e) hf
 self:=λA i s Q E st h=>wpAny_pyIter_zip st.1 h
def iR {P:Ah}{w:Ak}{K:Ae}{elts:List Am}{G:Nat}{pos:Pos}{e it l:Ad}(hne:e≠it):
  Turn P w K (.Tuple elts G pos) (Ite K l) [e,it] e (λi h=>(∃old,IsEnum h e it i old)/\h.IsListIter it l i) where
 mem:=by simp
 obj:=λi h st b hb=>by
  obtain⟨⟨old,a⟩,⟨y,e1,_,M⟩⟩:=st;simp only[zK8,zM5,zP8]at hb;rcases hb with rfl|rfl
  .exact⟨_,a,λv z=>by cases(z)⟩
  .exact⟨y,e1,λv z=>by rw[M]at z;cases z⟩
 keep:=λi h h' st k=>by
  obtain⟨⟨old,a⟩,f⟩:=st;exact⟨⟨old,k e (by simp) _ a⟩,f.at λo q=>k it (by simp) o q⟩
 item:=by
  intro X j hw p C i pins s σ H E I hf st hg;subst j hw p;obtain⟨xs,x,c,B⟩:=hg;obtain⟨g,d,p1,m⟩:=I.list c;obtain⟨u,D,L⟩:=d.get B;obtain⟨⟨old,a⟩,f⟩:=st;refine wpAny_pyNext_enum_item a f p1.isList (by simpa using D) hne λh' a1 S O U hk=>⟨_,rfl,wpAny_letOwnedTupleGo_enum a1 λn T t=>?_⟩;have r:∀b o,b∉[e,it]->s.heap.get? b=some o->n.get? b=some o:=λb o hb q=>by
   simp only[zK8,zM5,zP8,not_or]at hb;exact t.extBut _ _ hb.1 (hk b o hb.1 hb.2 q)
  have N:=t.extBut _ _ (zT2 (zL0 a)) O;have J:=I.turnLay (t':=s.toks+1) (o:=.tup [.int i,x]) r hf (zK6 _) ⟨by show 2<=sizeLine;decide,[.int i s.toks,u],.cons ⟨_,rfl⟩ (.cons L .nil),_,N,rfl,0,rfl⟩;refine⟨.ref s.heap.objs.size,_,J,rfl,⟨_,x,rfl,I.hok.fresh (zK6 _),rfl,λzs R=>by rw[I.list_inj R c];exact B⟩,⟨⟨u,by simpa using T⟩,S.extBut t.extBut hne.symm⟩,λb hb=>?_⟩;rw[zj]
  .exact(hf b hb).1
  .obtain⟨o,q,_⟩:=(show ∃o,s.heap.get? b=some o/\True from by
    simp only[zK8,zM5,zP8]at hb;obtain⟨y,e1,_⟩:=f;rcases hb with rfl|rfl
    .exact⟨_,a,trivial⟩
    .exact⟨_,e1,trivial⟩)
   exact zL9 (zL0 q)
 done:=by
  intro X j hw p C i pins s σ H E I hf st hg;subst j hw p;obtain⟨xs,c,F⟩:=hg;obtain⟨g,d,p1,m⟩:=I.list c;obtain⟨⟨old,a⟩,f⟩:=st;refine wpAny_pyNext_enum_end (I.ok.hd C) a f p1.isList (by simp;exact zL8 (zM9 d.length.symm) F) λh' hk=>⟨rfl,?_⟩;exact I.turnL (λb o hb q=>by
   simp only[zK8,zM5,zP8,not_or]at hb;exact hk b o hb.2 q) hf
 self:=λA i s Q E st h=>by
  obtain⟨⟨old,a⟩,f⟩:=st;exact wpAny_pyIter_enum a h
section
variable {X:Cx}{O:Ev}{elts:List Am}{kk:Nat}{tp p pos:Pos}{a b:Am}
def zE3 (K:Ae)(c:TA):TI:=λσ H R=>c σ H λvs H1=>∃l,vs=[.ref l]/\(∃xs,SqL K H1 l xs)/\R (Ite K l) H1
def aP {i:TA}(hg:Gl X "enumerate")(hm:X.mg "enumerate"=none)(ha:PA X [a] i)(m:Af [a] X.env=[(false,eval a X.env)]:=by rfl):
  PI X (.Tuple elts kk tp) (.Call (.Name "enumerate" p) [a] [] pos) (zE3 X.K i):=by
 intro pins s σ H R I h;refine Call_ (xw I hg hm boot_enumerate (zR1 (thn (ha pos pins s σ H _ I h) λus s1 g=>?_) m rfl));obtain⟨vs,H1,d,w,v⟩:=g;obtain⟨l1,e,⟨xs,f⟩,q⟩:=v;subst e;obtain⟨u,rfl,t⟩:=Vals.one w;cases(t);obtain⟨j,l,p1,r⟩:=d.list f;refine call_enumerate_list p1.isList λh' k x y hk=>wpAny_pyIter_enum k ?_;refine⟨_,_,_,_,H1,rfl,d.kept λb o e=>hk b o e,iR (zI4 (zQ7 _)),⟨⟨_,k⟩,x⟩,λb hb=>?_,q⟩;simp only[zK8,zM5,zP8]at hb;have c:s1.heap.objs.size<=b:=by
  have key:∀n b:Nat,n=s1.heap.objs.size->(b=n+1\/b=n)->n<=b:=λn b _ h=>by lia
  exact key _ _ rfl hb
 exact d.fpOk c (d.hok.fresh c)
def uH (n:Nat):List Aa->List Aa
 |[]=>[]
 |d::ds=>.tuple [.int n,d]::uH (n+1) ds
theorem wH :∀{ds:List Aa}{n i:Nat}{d:Aa},(uH n ds)[i]?=some d->∃e,ds[i]?=some e/\d=.tuple [.int ((n+i:Nat):Int),e]
 |[],n,i,d,h=>by simp[uH]at h
 |e::ds,n,0,d,h=>by simp[uH]at h;exact⟨e,rfl,by simp[<-h]⟩
 |e::ds,n,i+1,d,h=>by
  simp only[uH,List.getElem?_cons_succ]at h;obtain⟨c,f,g⟩:=wH h;exact⟨c,by simpa using f,by rw[g,Nat.add_assoc,Nat.add_comm 1 i]⟩
theorem wL :∀(ds:List Aa) (n:Nat),(uH n ds).length=ds.length
 |[],_=>rfl
 |_::ds,n=>by simp[uH,wL ds (n+1)]
def kT {Q:List Aa->Prop}(hg:Gl X "enumerate")(hm:X.mg "enumerate"=none)(h:EvD X O a λx=>∃ds,x=.list ds/\Q (uH 0 ds))(n:Af [a] X.env=[(false,eval a X.env)]:=by rfl):
  EvI X O (.Tuple elts kk tp) (.Call (.Name "enumerate" p) [a] [] pos) Q:=λF σ H R m k=>by
 refine⟨_,aP hg hm (zw zh zQ n) n,h F σ H _ m λx D H1 u t1 k1 w=>?_⟩;obtain⟨ds,rfl,q⟩:=u;obtain⟨l1,xs,rfl,g1,g2⟩:=w.lst_inv;refine⟨l1,rfl,⟨xs,SqL.of (zi g1).2⟩,k _ _ H1 q t1 k1 λi A p s=>⟨λd hd=>?_,λr=>?_⟩⟩
 .have s1:=SqL.of (K:=X.K) (zi (s _ _ g1)).2;obtain⟨e,he,rfl⟩:=wH hd;obtain⟨t,c,g⟩:=g2.get he;refine⟨⟨xs,t,s1,c⟩,λv C y=>?_⟩;obtain⟨T,x,rfl,j,rfl,f⟩:=y;have f:=f _ s1;rw[c]at f;cases f;refine⟨yi j,λfr=>?_⟩;have z:zr (Gz F O σ H1) (sub p (upd A T (.tup [.int i,t]))):=λa o e=>by
   obtain⟨B,l⟩:=zi (s a o e);exact zD B (by rw[zj (zm l j)];exact l)
  refine .tup (zD (fr T _ zl j) zl) (.cons ?_ (.cons (g.same z) .nil));rw[Nat.zero_add];exact .int _
 .refine⟨xs,SqL.of (zi (s _ _ g1)).2,?_⟩;rw[wL,<-g2.length]at r;exact r
end
structure Cal (P:Ah)(w:Ak)(K:Ae)(mg:Str->Option Ab)(base:An)(x:Str)(k:Nat)(φ:List A->(A->Prop)->Prop):Prop where
 ex:∃f fd ps,mg x=some (.ref f)/\PySem.W.keepIn K (.ref f)=true/\Binds K fd ps []/\zS P w K mg base CX0 k f fd ps (spA φ)
section
variable {X:Cx}{O:Ev}{e a b:Am}{es:List Am}{pos p:Pos}{Q:Aa->Prop}{k:Nat}{φ:List A->(A->Prop)->Prop}{x:Str}
def qP (C:Cal X.prog X.w X.K X.mg X.base x k φ)(hr:zB k X.A)(hg:Gl X x)(h:EvA X O (e::es) λas=>φ as λa=>Q a.d)
  (c:(x == ("__debug__":Str))=false:=by decide) (he:Af (e::es) X.env=(false,eval e X.env)::Af es X.env:=by rfl) (hpl:(backTo pos (Af es X.env)).any (·.1)=false:=by rfl):EvD X O (.Call (.Name x p) (e::es) [] pos) Q:=by
 obtain⟨f,fd,ps,i,l,j,g⟩:=C.ex;exact bj g hr hg i l j h c he hpl
def xP {Q:List Aa->Prop}(C:Cal X.prog X.w X.K X.mg X.base x k φ)(hr:zB k X.A)(hg:Gl X x)(h:EvA X O (e::es) λas=>φ as λa=>∃ds,a=.own ds/\Q ds)
  (c:(x == ("__debug__":Str))=false:=by decide) (he:Af (e::es) X.env=(false,eval e X.env)::Af es X.env:=by rfl) (hpl:(backTo pos (Af es X.env)).any (·.1)=false:=by rfl):EvL X O (.Call (.Name x p) (e::es) [] pos) Q:=by
 obtain⟨f,fd,ps,d,g,j,i⟩:=C.ex;exact zb5 i hr hg d g j h c he hpl
end
section
variable {P:Ah}{w:Ak}{K:Ae}{mg:Str->Option Ab}{base:An}
def zC0 {x qual:Str}{st:Ap}{f:Ad}{fd:Ao}{N ps:List Str}{k:Nat}{φ:List A->(A->Prop)->Prop}(G:Fun K x qual st f fd)(hm:mg x=some (.ref f))(hb:Binds K fd ps [])(S:zA N ps (zb st))(hlen:∀as Q,φ as Q->as.length=ps.length)
  (a:∀(cdv:Ab) (b:Al) (outer:List Ar) (s:Ac) (H:Hp) (E:XK) (as:List A) (Q:A->Prop),zB k (b.deeper (envOfC qual (zb st) s.heap.objs.size f cdv))->φ as Q->
   SvS (yS CX0 P w K mg base N qual (zb st) f cdv b outer s H E).nox (as.map some++List.replicate (N.length-as.length) none) (zt st) {nx:=λ_=>Q (.dat .none),rt:=Q}):Cal P w K mg base x (k+1) φ:=
 ⟨f,fd,ps,hm,G.kp,hb,fnA G S hlen a⟩
theorem Cal.imp {x:Str}{k:Nat}{φ i:List A->(A->Prop)->Prop}(C:Cal P w K mg base x k φ)(h:∀as Q,i as Q->φ as Q):Cal P w K mg base x k i:=by
 obtain⟨f,fd,ps,m,n,p,o⟩:=C.ex;exact⟨f,fd,ps,m,n,p,o.imp λvs H Q E j=>by obtain⟨F,as,l,a,b,c,d,e,g⟩:=j;exact⟨F,as,l,a,b,c,d,h _ _ e,g⟩⟩
def sg :List A->(A->Prop)->Prop:=λas Q=>∃n:Int,as=[.tape,.dat (.int n)]/\0<n/\n<big/\∀v,0<=v->v<n->Q (.dat (.int v))
end
section
variable {Y:Ad->Ac->Hp->List Ad->Cx}{pat:Pat}{ifs:List Am}{elt:Am}{α0:Ev}
def ig {ds acc:List Aa}{Q:List Aa->Prop}(P:Nat->List Aa->Prop)(h0:P 0 acc)
  (h:∀i d acc,ds[i]?=some d->P i acc->∃a,pat.bind d α0=some a/\∀C s2 f fp,ie (Y C s2 f fp) a ifs λk=>if k=true then ∀C s2 f fp,EvD (Y C s2 f fp) a elt λy=>P (i+1) (acc++[y])else P (i+1) acc)
  (hd:∀acc,P ds.length acc->Q acc):yZ Y pat ifs elt α0 ds acc Q:=by
 have key:∀n i acc,n=ds.length-i->i<=ds.length->P i acc->yZ Y pat ifs elt α0 (ds.drop i) acc Q:=by
  intro n
  induction n with
  |zero=>
   intro i acc hn hi p;have e:=(om5 hn hi);subst e;rw[zZ2];exact hd acc p
  |succ n g=>
   intro i acc hn hi p;have c:=(om6 hn);rw[zP7 c];obtain⟨a,e,b⟩:=h i ds[i] acc (zK4 c) p;refine⟨a,e,λC s2 f fp F σ H R m j=>b C s2 f fp F σ H R m λk H' q=>j k H' ?_⟩;cases k with
   |true=>
    rw[if_pos rfl]at q ⊢;exact λC s2 f fp=>(q C s2 f fp).imp λy p=>g (i+1) _ (om7 hn) c p
   |false=>
    rw[if_neg (by decide)]at q ⊢;exact g (i+1) _ (om7 hn) c q
 exact key _ 0 acc rfl (zL6 _) h0
theorem vk {ds acc:List Aa}{Q:List Aa->Prop}(p:Aa->Bool)(f:Aa->Aa)
  (g:∀d∈ds,∃a,pat.bind d α0=some a/\(∀C s2 b fp (Q:Bool->Prop),Q (p d)->ie (Y C s2 b fp) a ifs Q)/\(p d=true->∀C s2 b fp (Q:Aa->Prop),Q (f d)->EvD (Y C s2 b fp) a elt Q))
  (hd:Q (acc++(ds.filter p).map f)):yZ Y pat ifs elt α0 ds acc Q:=by
 induction ds generalizing acc with
 |nil=>
  show Q acc;simpa using hd
 |cons d ds j=>
  obtain⟨a,e,h,i⟩:=g d zL7;refine⟨a,e,λC s2 b fp=>h C s2 b fp _ ?_⟩;have c:=λacc=>j (acc:=acc) λd hd=>g d (zL1 _ hd);cases hp:p d with
  |true=>
   rw[if_pos rfl];refine λC s2 b fp=>i hp C s2 b fp _ (c _ ?_);simpa[zZ3,hp]using hd
  |false=>
   rw[if_neg (by decide)];refine c _ ?_;simpa[zZ3,hp]using hd
end
def nE (st:Ap)(env:Ar):execs [st] env=exec st env:=by
 rw[PySem.execs_cons];have:(λf:Flow=>(match f with|.next=>execs [] env|f=>pure f:Sem Flow))=pure:=by
  funext f
  cases f<;>rfl
 exact(congrArg (λg=>exec st env >>= g) this).trans (bind_pure _)
section
variable {X:Cx}{O:Ev}{e a b c:Am}{es rest:List Am}{pos p:Pos}{Q:Aa->Prop}{E:ya}{st:Ap}{sts sts':List Ap}
def xg (P:Ev->Prop)(i:SvS X O [st] {E with nx:=P})(j:∀d,P d->SvS X d sts E):SvS X O (st::sts) E:=λF σ H D m r=>by
 refine uZ (λf H'=>∃d,M F d f H'/\P d) ?_ ?_
 .obtain⟨t,p,q⟩:=i F σ H {D with nx:=λf H'=>∃d,M F d f H'/\P d} m ⟨λd f H' g z=>⟨d,g,z⟩,r.rt,r.bk,r.ct⟩;exact⟨t,λpins s σ H D I h=>(by
   have:=p pins s σ H D I h;rw[nE]at this;exact this),q⟩
 .rintro f H' ⟨d,g,z⟩;exact j d z F f H' D g r
def eW {c:Prop}[Decidable c]{a b:List Ap}(d:c->SvS X O a E)(f:¬c->SvS X O b E):SvS X O (if decide c=true then a else b) E:=by
 by_cases h:c
 .rw[zN5 h];exact d h
 .rw[zM2 h];exact f h
theorem wQ {k:Bool}{a b:List Ap}(d:k=true->SvS X O a E)(f:k=false->SvS X O b E):SvS X O (if k=true then a else b) E:=by
 cases k with
 |true=>exact d rfl
 |false=>exact f rfl
def jj {i j:Int}:Cmp rEq (.int i) (.int j) (decide (i=j)):=λp H g k R d f h=>by
 cases d.int_inv;cases f.int_inv;refine⟨rfl,?_⟩;rw[show decide (V.int i=V.int j)=decide (i=j) by simp];exact h
def bJ {i j:Int}:Cmp rNe (.int i) (.int j) (!decide (i=j)):=λp H g k R d f h=>by
 cases d.int_inv;cases f.int_inv;refine⟨rfl,?_⟩;rw[show decide (V.int i=V.int j)=decide (i=j) by simp];exact h
def kY {i j:Str}:Cmp rEq (.str i) (.str j) (decide (i=j)):=λp H g k R d f h=>by
 cases d.str_inv;cases f.str_inv;refine⟨rfl,?_⟩;rw[show decide (V.str i=V.str j)=decide (i=j) by simp];exact h
def zk8 {op:CmpOp}{r:R2}(i:OpR X (compareOp op) r)(hm:behindInMarks op b=false)(h:EvD X O a λx=>EvD X O b λy=>∃k,Cmp r x y k/\Q (.bool k)):EvD X O (.Compare a [op] [b] pos) Q:=λF σ H R m k=>by
 refine⟨_,qt i zh zh hm,h F σ H _ m λx f H1 t t1 k1 j=>?_⟩;have m1:=m.kz k1 t1;refine t F σ H1 _ m1 λy s d n g k2 l=>?_;obtain⟨b,o,q⟩:=n;exact o _ d f s _ (j.same (k2.gz m1.tp)) l (k _ _ d q g (k1.trans k2) (.bl b))
def zv9 {Q:Bool->Prop}(h:EvD X O a λx=>EvD X O b λy=>∃i j,x=.int i/\y=.int j/\Q (decide (i=j))):EvT X O (.Compare a [.Eq] [b] pos) Q:=
 wt eu (yo _) (h.imp λx h=>h.imp λy d=>by obtain⟨i,j,e1,f,q⟩:=d;exact⟨_,by subst e1 f;exact jj,q⟩)
def zr1 {Q:Bool->Prop}(h:EvD X O a λx=>EvD X O b λy=>∃i j,x=.str i/\y=.str j/\Q (decide (i=j))):EvT X O (.Compare a [.Eq] [b] pos) Q:=
 wt eu (yo _) (h.imp λx h=>h.imp λy d=>by obtain⟨i,j,e1,f,q⟩:=d;exact⟨_,by subst e1 f;exact kY,q⟩)
theorem bt {p q:Bool}{Q:Bool->Prop}(ha:∀Q:Bool->Prop,Q p->EvT X O a Q)(hb:p=true->∀Q:Bool->Prop,Q q->EvW X O (.BoolOp .And (b::rest) pos) Q)(k:Q (p&&q)):EvW X O (.BoolOp .And (a::b::rest) pos) Q:=by
 refine vS (ha _ ?_);cases p with
 |true=>rw[if_pos rfl];exact hb rfl _ (by simpa using k)
 |false=>rw[if_neg (by decide)];simpa using k
end
structure NbT (mg:Str->Option Ab):Prop where
 abs:mg "abs"=none
 list:mg "list"=none
 len:mg "len"=none
 range:mg "range"=none
 min:mg "min"=none
 max:mg "max"=none
 sorted:mg "sorted"=none
 isinstance:mg "isinstance"=none
 int:mg "int"=none
 bool:mg "bool"=none
 str:mg "str"=none
 tuple:mg "tuple"=none
 all:mg "all"=none
 any:mg "any"=none
 repr:mg "repr"=none
 zip:mg "zip"=none
 enumerate:mg "enumerate"=none
 reversed:mg "reversed"=none
 sum:mg "sum"=none
def tO {X:Cx}{K:Ae}{es:List Am}{k:Nat}{t:TGs}{n:Nat}{pos:Pos}(c:X.K=K)(b:X.calm=true)(h:PGs X es t)
  (hn:(assignEach es X.env).length=n:=by rfl) (a:(assignEach es X.env).findIdx? (·.1)=none:=by rfl):PG X (.Tuple es k pos) (fF K n t):=by
 subst c;exact zs4 b h hn a
end L2
namespace SortA
open PySem PySem.W PyProof.Rows
def run {O:Type}(lt:Nat->Nat->Bool):KasT O->O
 |.ret a=>a
 |.ask i j k=>run lt (k (lt i j))
theorem run_bind {O β:Type}(lt:Nat->Nat->Bool)(f:O->KasT β):∀t:KasT O,run lt (t.bind f)=run lt (f (run lt t))
 |.ret _=>rfl
 |.ask i j k=>run_bind lt f (k (lt i j))
structure Ord (lt:Nat->Nat->Bool):Prop where
 irr:∀a,lt a a=false
 tr:∀a b c,lt b a=false->lt c b=false->lt c a=false
 asy:∀a b,lt a b=true->lt b a=false
abbrev g (p:Array Nat)(i:Nat):Nat:=p.getD i 0
def Up (lt:Nat->Nat->Bool)(p:Array Nat)(m:Nat):Prop:=∀i j,i<=j->j<m->lt (g p j) (g p i)=false
def Down (lt:Nat->Nat->Bool)(p:Array Nat)(m:Nat):Prop:=∀i j,i<=j->j<m->lt (g p i) (g p j)=false
def gh {p q:Array Nat}{i j:Nat}(h:p[i]?=q[j]?):g p i=g q j:=by
 unfold g;rw[Array.getD_eq_getD_getElem?,Array.getD_eq_getD_getElem?,h]
variable {lt:Nat->Nat->Bool}
def Up.succ (O:Ord lt){p:Array Nat}{m:Nat}(h:Up lt p m)(hm:0<m)(e:lt (g p m) (g p (m-1))=false):Up lt p (m+1):=λi j a d=>by
 by_cases e1:j<m
 .exact h i j a e1
 .have c:=(zV6 (zU5 d) (zX1 e1));subst c;by_cases b:i=j
  .subst b;exact O.irr _
  .exact O.tr _ _ _ (h i (j-1) (zd7 a b) (pR hm)) e
def Down.succ (O:Ord lt){p:Array Nat}{m:Nat}(h:Down lt p m)(hm:0<m)(e:lt (g p (m-1)) (g p m)=false):Down lt p (m+1):=λi j a d=>by
 by_cases e1:j<m
 .exact h i j a e1
 .have c:=(zV6 (zU5 d) (zX1 e1));subst c;by_cases b:i=j
  .subst b;exact O.irr _
  .exact O.tr _ _ _ e (h i (j-1) (zd7 a b) (pR hm))
def zm9 (O:Ord lt)(p:Array Nat):Up lt p 1:=λi j a b=>by rw[((zj0 b a)),((ze4 b))];exact O.irr _
theorem vT (O:Ord lt)(p:Array Nat):∀(f n:Nat),0<n->Up lt p n->n<=run lt (kas_asc p f n)/\run lt (kas_asc p f n)<=n+f/\Up lt p (run lt (kas_asc p f n))/\
  (run lt (kas_asc p f n)<n+f->lt (g p (run lt (kas_asc p f n))) (g p (run lt (kas_asc p f n)-1))=true)
 |0,n,_,h=>⟨zK6 _,zK6 _,h,λz=>absurd z (zQ6 _)⟩
 |f+1,n,hn,h=>by
  show n<=run lt ((λc=>if c=true then KasT.ret n else kas_asc p f (n+1)) (lt (p.getD n 0) (p.getD (n-1) 0)))/\_;cases e:lt (p.getD n 0) (p.getD (n-1) 0)with
  |true=>
   have i:run lt (kas_asc p (f+1) n)=n:=by
    show run lt ((λc=>if c=true then KasT.ret n else kas_asc p f (n+1)) (lt (p.getD n 0) (p.getD (n-1) 0)))=n;rw[e];rfl
   rw[i];exact⟨zK6 _,(zN3 _ _),h,λ_=>e⟩
  |false=>
   have i:run lt (kas_asc p (f+1) n)=run lt (kas_asc p f (n+1)):=by
    show run lt ((λc=>if c=true then KasT.ret n else kas_asc p f (n+1)) (lt (p.getD n 0) (p.getD (n-1) 0)))=_;rw[e];rfl
   rw[i];obtain⟨a,b,c,d⟩:=vT O p f (n+1) (z39 _) (h.succ O hn e);exact⟨by show n<=run lt (kas_asc p f (n+1));exact zL8 (zN3 _ _) a,(kW b),c,λz=>d (by lia)⟩
def uG {p:Array Nat}{i j:Nat}(a:j<=p.size)(k:Nat):g (kas_rev p i j) k=if i<=k/\k<j then g p (i+j-1-k)else g p k:=by
 have h:=getElem?_mirror_all (i:=i) a k;split
 .rename_i c;rw[if_pos c]at h;exact gh h
 .rename_i c;rw[if_neg c]at h;exact gh h
def xi (p:Array Nat)(i j:Nat):(kas_rev p i j).size=p.size:=mirror_size _ _ _ _
def yw (p:Array Nat)(i j:Nat):(kas_rev p i j).Perm p:=mirror_perm _ _ _ _
def Eqv (lt:Nat->Nat->Bool)(a b:Nat):Prop:=lt a b=false/\lt b a=false
def Down.eqv (O:Ord lt){p q:Array Nat}{n:Nat}(h:Down lt p n)(e:∀k,k<n->Eqv lt (g q k) (g p k)):Down lt q n:=λi j a b=>
 O.tr _ _ _ (O.tr _ _ _ (e j b).2 (h i j a b)) (e i (zM6 a b)).1
def Last (lt:Nat->Nat->Bool)(p:Array Nat)(n q:Nat):Prop:=∀a b,n<=a+(q+1)->a<n->n<=b+(q+1)->b<n->lt (g p a) (g p b)=false
def rev_last (O:Ord lt){p:Array Nat}{n q:Nat}(hn:n<=p.size)(hq:q<n)(L:Last lt p n q):∀k,k<n->Eqv lt (g (kas_rev p (n-(q+1)) n) k) (g p k):=λk hk=>by
 rw[uG hn];split
 .rename_i c;exact⟨L _ _ (zk1 hk) (zh8 c.2 c.1) (zg2 c.1) hk,L _ _ (zg2 c.1) hk (zk1 hk) (zh8 c.2 c.1)⟩
 .exact⟨O.irr _,O.irr _⟩
theorem uT (O:Ord lt):∀(f:Nat) (p:Array Nat) (n q:Nat),q<n->n+f<=p.size->Down lt p n->Last lt p n q->
  ∃i m j,run lt (kas_desc f p n q)=(i,m,j)/\n<=m/\m<=n+f/\i.size=p.size/\i.Perm p/\j<m/\Down lt i m/\Last lt i m j
 |0,p,n,q,hq,r,h,L=>⟨p,n,q,rfl,zK6 _,zK6 _,rfl,zU7 _,hq,h,L⟩
 |f+1,p,n,q,hq,r,h,L=>by
  cases e:lt (p.getD n 0) (p.getD (n-1) 0)with
  |true=>
   by_cases t:q > 0
   .have o:run lt (kas_desc (f+1) p n q)=run lt (kas_desc f (kas_rev p (n-(q+1)) n) (n+1) 0):=by
     show run lt ((λc=>if c=true then(if q > 0 then kas_desc f (kas_rev p (n-(q+1)) n) (n+1) 0 else kas_desc f p (n+1) 0)
      else .ask (p.getD (n-1) 0) (p.getD n 0) λd=>if d=true then .ret (p,n,q)else kas_desc f p (n+1) (q+1)) (lt (p.getD n 0) (p.getD (n-1) 0)))=_
     rw[e];show run lt (if q > 0 then _ else _)=_;rw[if_pos t]
    have ev:=rev_last O ((zL8 (zN3 _ _) r):n<=p.size) hq L;have k:=h.eqv O ev;have hn:g (kas_rev p (n-(q+1)) n) n=g p n:=by rw[uG (zL8 (zN3 _ _) r),if_neg (zj7)]
    have l:=k.succ O (zM6 (zL6 _) hq) (by
     rw[hn];exact O.tr _ _ _ (O.asy _ _ e) (ev (n-1) (pR hq)).1)
    obtain⟨i,m,j,a,b,c,v,u,w,x,z⟩:=uT O f (kas_rev p (n-(q+1)) n) (n+1) 0 (z39 _) (by rw[xi];exact kZ r) l (λa b k l y s=>by rw[((rT k l)),((rT y s))];exact O.irr _);exact⟨i,m,j,o.trans a,(zL8 (zN3 _ _) b),(kW c),by rw[v,xi],u.trans (yw _ _ _),w,x,z⟩
   .have o:run lt (kas_desc (f+1) p n q)=run lt (kas_desc f p (n+1) 0):=by
     show run lt ((λc=>if c=true then(if q > 0 then kas_desc f (kas_rev p (n-(q+1)) n) (n+1) 0 else kas_desc f p (n+1) 0)
      else .ask (p.getD (n-1) 0) (p.getD n 0) λd=>if d=true then .ret (p,n,q)else kas_desc f p (n+1) (q+1)) (lt (p.getD n 0) (p.getD (n-1) 0)))=_
     rw[e];show run lt (if q > 0 then _ else _)=_;rw[if_neg t]
    obtain⟨i,m,j,a,b,c,v,u,w,x,z⟩:=uT O f p (n+1) 0 (z39 _) (kZ r) (h.succ O (zM6 (zL6 _) hq) (O.asy _ _ e)) (λa b k l y s=>by rw[((rT k l)),((rT y s))];exact O.irr _);exact⟨i,m,j,o.trans a,(zL8 (zN3 _ _) b),(kW c),v,u,w,x,z⟩
  |false=>
   cases e2:lt (p.getD (n-1) 0) (p.getD n 0)with
   |true=>
    have o:run lt (kas_desc (f+1) p n q)=(p,n,q):=by
     show run lt ((λc=>if c=true then(if q > 0 then kas_desc f (kas_rev p (n-(q+1)) n) (n+1) 0 else kas_desc f p (n+1) 0)
      else .ask (p.getD (n-1) 0) (p.getD n 0) λd=>if d=true then .ret (p,n,q)else kas_desc f p (n+1) (q+1)) (lt (p.getD n 0) (p.getD (n-1) 0)))=_
     rw[e];show run lt ((λd=>if d=true then KasT.ret (p,n,q)else kas_desc f p (n+1) (q+1)) (lt (p.getD (n-1) 0) (p.getD n 0)))=_;rw[e2];rfl
    exact⟨p,n,q,o,zK6 _,(zN3 _ _),rfl,zU7 _,hq,h,L⟩
   |false=>
    have o:run lt (kas_desc (f+1) p n q)=run lt (kas_desc f p (n+1) (q+1)):=by
     show run lt ((λc=>if c=true then(if q > 0 then kas_desc f (kas_rev p (n-(q+1)) n) (n+1) 0 else kas_desc f p (n+1) 0)
      else .ask (p.getD (n-1) 0) (p.getD n 0) λd=>if d=true then .ret (p,n,q)else kas_desc f p (n+1) (q+1)) (lt (p.getD n 0) (p.getD (n-1) 0)))=_
     rw[e];show run lt ((λd=>if d=true then KasT.ret (p,n,q)else kas_desc f p (n+1) (q+1)) (lt (p.getD (n-1) 0) (p.getD n 0)))=_;rw[e2];rfl
    have D:Last lt p (n+1) (q+1):=λa b k l y s=>by
     have two:∀a,n+1<=a+(q+1+1)->a<n+1->Eqv lt (g p a) (g p (n-1)):=λa B C=>by
      by_cases A:a=n
      .rw[A];exact⟨e,e2⟩
      .exact⟨L a (n-1) (zd5 B) (cu C A) (zi4) (pR hq),L (n-1) a (zi4) (pR hq) (zd5 B) (cu C A)⟩
     exact O.tr _ _ _ (two b y s).2 (two a k l).1
    obtain⟨i,m,j,a,b,c,v,u,w,x,z⟩:=uT O f p (n+1) (q+1) (Nat.add_lt_add_right hq _) (kZ r) (h.succ O (zM6 (zL6 _) hq) e2) D;exact⟨i,m,j,o.trans a,(zL8 (zN3 _ _) b),(kW c),v,u,w,x,z⟩
def zp9 {p:Array Nat}{n:Nat}(hn:n<=p.size)(h:Down lt p n):Up lt (kas_rev p 0 n) n:=λi j a b=>by
 rw[uG hn,uG hn,if_pos (⟨(zL6 _),b⟩),if_pos (⟨(zL6 _),(zM6 a b)⟩)];exact h _ _ (by lia) (ze8 b)
def nh (O:Ord lt){p:Array Nat}{n nrem:Nat}(h0:0<n)(hn:n<=nrem)(e:nrem<=p.size)(h:Down lt p n):
  ∃d m,run lt (kas_tail3 n nrem p)=(m,d)/\1<=m/\m<=nrem/\d.size=p.size/\d.Perm p/\Up lt d m:=by
 obtain⟨a,b,c,_⟩:=vT O (kas_rev p 0 n) (nrem-n) n h0 (zp9 (zL8 hn e) h);refine⟨kas_rev p 0 n,run lt (kas_asc (kas_rev p 0 n) (nrem-n) n),?_,by lia,(gu b hn),xi _ _ _,yw _ _ _,c⟩;unfold kas_tail3;rw[run_bind];rfl
def uA (O:Ord lt){p:Array Nat}{n nrem:Nat}(h0:0<n)(hn:n+1<=nrem)(q:nrem<=p.size)(h:Down lt p (n+1)):
  ∃c m,run lt (kas_descPart n nrem p)=(m,c)/\1<=m/\m<=nrem/\c.size=p.size/\c.Perm p/\Up lt c m:=by
 obtain⟨p1,m1,y,e,a1,a2,d,s,o,r,t⟩:=uT O (nrem-(n+1)) p (n+1) 0 (z39 _) (by lia) h (λa b u v x w=>by rw[((rT u v)),((rT x w))];exact O.irr _);unfold kas_descPart;rw[run_bind,e];dsimp only;split
 .obtain⟨c,m,f,k,i,j,l,g⟩:=nh O (zM6 (zL6 _) o) (gu a2 hn) (by rw[xi];exact zL8 q (zM9 d.symm)) (r.eqv O (rev_last O (by lia) o t));exact⟨c,m,f,k,i,by rw[j,xi,d],(l.trans (yw _ _ _)).trans s,g⟩
 .obtain⟨c,m,f,k,i,j,l,g⟩:=nh O (zM6 (zL6 _) o) (gu a2 hn) (zL8 q (zM9 d.symm)) r;exact⟨c,m,f,k,i,by rw[j,d],l.trans s,g⟩
def cA (O:Ord lt){p:Array Nat}{nrem:Nat}(h0:0<nrem)(l:nrem<=p.size):
  ∃o m,run lt (kas_count nrem p)=(m,o)/\1<=m/\m<=nrem/\o.size=p.size/\o.Perm p/\Up lt o m:=by
 obtain⟨a,b,c,d⟩:=vT O p (nrem-1) 1 (by decide) (zm9 O p);unfold kas_count;rw[run_bind];generalize run lt (kas_asc p (nrem-1) 1)=n at a b c d;by_cases r:n=nrem
 .rw[if_pos (by rw[r];simp)];exact⟨p,n,rfl,a,(zM9 r),rfl,zU7 _,c⟩
 .rw[if_neg (by simpa using r)];have hd:=d (by lia);by_cases h:n > 1
  .rw[if_pos h];cases e:lt (p.getD 0 0) (p.getD (n-1) 0)with
   |true=>
    refine⟨p,n,?_,a,by lia,rfl,zU7 _,c⟩;show run lt ((λc=>if c=true then KasT.ret (n,p)else kas_descPart n nrem (kas_rev p 0 n)) (lt (p.getD 0 0) (p.getD (n-1) 0)))=_;rw[e];rfl
   |false=>
    have all:∀k,k<n->Eqv lt (g p k) (g p 0):=λk hk=>⟨c 0 k (zL6 _) hk,O.tr _ _ _ (c k (n-1) (zj1 hk) (zj5 h)) e⟩;have w:Down lt (kas_rev p 0 n) (n+1):=by
     have v:Down lt (kas_rev p 0 n) n:=λi j f q=>by
      rw[uG (jc h0 l b),uG (jc h0 l b),if_pos (⟨(zL6 _),(zM6 f q)⟩),if_pos (⟨(zL6 _),q⟩)];exact O.tr _ _ _ (all _ (by lia)).2 (all _ (ze8 q)).1
     refine v.succ O (zM6 (zL6 _) h) ?_;rw[uG (jc h0 l b),uG (jc h0 l b),if_pos (by lia),if_neg (zj7)];exact O.tr _ _ _ (O.asy _ _ hd) (O.tr _ _ _ (all (n-1) (zj5 h)).2 (all _ (by lia)).1)
    obtain⟨o,m,s,z,t,y,A,u⟩:=uA O (nrem:=nrem) (zM6 (zL6 _) h) (by lia) (by rw[xi];exact l) w;refine⟨o,m,?_,z,t,by rw[y,xi],A.trans (yw _ _ _),u⟩;rw[<-s];show run lt ((λc=>if c=true then KasT.ret (n,p)else kas_descPart n nrem (kas_rev p 0 n)) (lt (p.getD 0 0) (p.getD (n-1) 0)))=_;rw[e];rfl
  .rw[if_neg h];have e1:=(zV6 (zX1 h) a);subst e1;refine uA O (by decide) (by lia) l ?_;have x:Down lt p 1:=λi j f q=>by rw[((zj0 q f)),((ze4 q))];exact O.irr _
   exact x.succ O (by decide) (O.asy _ _ hd)
theorem sC (O:Ord lt){p:Array Nat}{k:Nat}(U:Up lt p k):∀(f l r:Nat),r<=l+f->l<=r->r<=k->(∀i,i<l->lt (g p k) (g p i)=false)->(∀i,r<=i->i<k->lt (g p k) (g p i)=true)->
  run lt (kas_place p k f l r)<=k/\(∀i,i<run lt (kas_place p k f l r)->lt (g p k) (g p i)=false)/\(∀i,run lt (kas_place p k f l r)<=i->i<k->lt (g p k) (g p i)=true)
 |0,l,r,m,h,d,ha,hb=>by
  show l<=k/\_;exact⟨(zL8 h d),ha,λi x y=>hb i (by have:l<=i:=x;lia) y⟩
 |f+1,l,r,m,h,d,ha,hb=>by
  by_cases a:l≥r
  .have b:run lt (kas_place p k (f+1) l r)=l:=by
    show run lt (if l≥r then _ else _)=_;rw[if_pos a];rfl
   rw[b];exact⟨(zL8 h d),ha,λi x y=>hb i (zL8 a x) y⟩
  .cases e:lt (p.getD k 0) (p.getD ((l+r) / 2) 0)with
   |true=>
    have b:run lt (kas_place p k (f+1) l r)=run lt (kas_place p k f l ((l+r) / 2)):=by
     show run lt (if l≥r then _ else _)=_;rw[if_neg a];show run lt ((λc=>if c=true then kas_place p k f l ((l+r) / 2)else kas_place p k f ((l+r) / 2+1) r) (lt (p.getD k 0) (p.getD ((l+r) / 2) 0)))=_;rw[e];rfl
    rw[b];refine sC O U f l ((l+r) / 2) (by lia) (by lia) (by lia) ha λi x y=>?_;cases e3:lt (g p k) (g p i)with
    |true=>rfl
    |false=>
     have j:=e;rw[(O.tr _ _ _ (U ((l+r) / 2) i x y) e3)]at j;cases j
   |false=>
    have b:run lt (kas_place p k (f+1) l r)=run lt (kas_place p k f ((l+r) / 2+1) r):=by
     show run lt (if l≥r then _ else _)=_;rw[if_neg a];show run lt ((λc=>if c=true then kas_place p k f l ((l+r) / 2)else kas_place p k f ((l+r) / 2+1) r) (lt (p.getD k 0) (p.getD ((l+r) / 2) 0)))=_;rw[e];rfl
    rw[b];exact sC O U f ((l+r) / 2+1) r (by lia) (by lia) d (λi hi=>O.tr _ _ _ (U i ((l+r) / 2) (zU5 hi) (by lia)) e) hb
def jX (O:Ord lt){p:Array Nat}{k l:Nat}(hk:k<p.size)(m:l<=k)(U:Up lt p k)(ha:∀i,i<l->lt (g p k) (g p i)=false)(hb:∀i,l<=i->i<k->lt (g p k) (g p i)=true):Up lt (bubble p k (k-l)) (k+1):=by
 have gb:∀i,g (bubble p k (k-l)) i=if i=l then g p k else if l<i/\i<=k then g p (i-1)else g p i:=λi=>by
  have h:=getElem?_bubble hk (k-l) (Nat.sub_le _ _) i;have el:k-(k-l)=l:=by lia
  rw[el]at h;by_cases c:i=l
  .rw[if_pos c]at h ⊢;exact gh h
  .rw[if_neg c]at h ⊢;by_cases e:l<i/\i<=k
   .rw[if_pos e]at h ⊢;exact gh h
   .rw[if_neg e]at h ⊢;exact gh h
 intro i j a b;have gl:g (bubble p k (k-l)) l=g p k:=by rw[gb,if_pos rfl]
 have d:∀i,l<i->i<=k->g (bubble p k (k-l)) i=g p (i-1):=λi x y=>by rw[gb,if_neg (zT2 x),if_pos ⟨x,y⟩]
 have f:∀i,i<l->g (bubble p k (k-l)) i=g p i:=λi x=>by rw[gb,if_neg (zL9 x),if_neg (by lia)]
 rcases Nat.lt_trichotomy i l with hi|hi|hi
 .rw[f i hi];rcases Nat.lt_trichotomy j l with h|h|h
  .rw[f j h];exact U _ _ (a) (zK5 h m)
  .rw[h,gl];exact ha i hi
  .rw[d j h (zU5 b)];exact U _ _ (by lia) (zd0 b h)
 .rw[hi,gl];rcases Nat.lt_trichotomy j l with h|h|h
  .exact(zQ6 _ (zK5 h (zL8 (zM9 hi.symm) a))).elim
  .rw[h,gl];exact O.irr _
  .rw[d j h (zU5 b)];exact O.asy _ _ (hb (j-1) (zj1 h) (zd0 b h))
 .rw[d i hi (zU5 (zM6 a b)),d j (zK5 hi a) (zU5 b)];exact U _ _ (by lia) (by lia)
theorem cn (O:Ord lt):∀(f:Nat) (p:Array Nat) (k:Nat),0<k->k+f<=p.size->Up lt p k->(run lt (kas_bin f p k)).size=p.size/\(run lt (kas_bin f p k)).Perm p/\Up lt (run lt (kas_bin f p k)) (k+f)
 |0,p,k,_,_,U=>⟨rfl,zU7 _,U⟩
 |f+1,p,k,hk,hs,U=>by
  obtain⟨a,b,c⟩:=sC O U k 0 k (Nat.le_add_left _ _) (zL6 _) (zK6 _) (λi hi=>(zQ6 _ (zM6 (zL6 _) hi)).elim) (λi x y=>(zQ6 _ (zK5 y x)).elim);have d:run lt (kas_bin (f+1) p k)=run lt (kas_bin f (bubble p k (k-run lt (kas_place p k k 0 k))) (k+1)):=by
   show run lt ((kas_place p k k 0 k).bind _)=_;rw[run_bind]
  rw[d];obtain⟨x,y,z⟩:=cn O f (bubble p k (k-run lt (kas_place p k k 0 k))) (k+1) (z39 _) (by rw[bubble_size];exact kZ hs) (jX O (by lia) a U b c);have e:k+(f+1)=k+1+f:=zD5;rw[e];exact⟨by rw[x,bubble_size],y.trans (bubble_perm _ _ _),z⟩
def aO (O:Ord lt){n:Nat}(h:0<n):(run lt (kas_sort n)).size=n/\(run lt (kas_sort n)).Perm (List.range n).toArray/\Up lt (run lt (kas_sort n)) n:=by
 obtain⟨p,m,e,a,b,c,d,u⟩:=cA O (p:=(List.range n).toArray) h (by simp);unfold kas_sort;rw[run_bind,e];dsimp only;have f:p.size=n:=by rw[c];simp
 by_cases hm:m<n
 .rw[if_pos hm];have em:max m 1=m:=by lia
  rw[em];obtain⟨x,y,z⟩:=cn O (n-m) p m (by lia) (by lia) u;refine⟨by rw[x,f],y.trans d,?_⟩;have e:m+(n-m)=n:=by lia
  rw[e]at z;exact z
 .rw[if_neg hm];have e:=(zV6 b (zX1 hm));subst e;exact⟨f,d,u⟩
end SortA
namespace SortA
open PySem PySem.W PyProof.Rows
def xr {O:Type}(n:Nat)(P:O->Prop):KasT O->Prop
 |.ret a=>P a
 |.ask i j k=>i<n/\j<n/\∀b,xr n P (k b)
theorem xr.bind {O β:Type}{n:Nat}{P:O->Prop}{e:β->Prop}{f:O->KasT β}(d:∀a,P a->xr n e (f a)):∀t:KasT O,xr n P t->xr n e (t.bind f)
 |.ret a,h=>d a h
 |.ask i j k,⟨a,b,c⟩=>⟨a,b,λx=>xr.bind d (k x) (c x)⟩
def Bd (n:Nat)(p:Array Nat):Prop:=∀x∈p,x<n
def Bd.get {n:Nat}{p:Array Nat}(h:Bd n p)(hn:0<n)(i:Nat):p.getD i 0<n:=by
 by_cases hi:i<p.size
 .have e:p.getD i 0=p[i]:=by simp[Array.getD,hi]
  rw[e];exact h _ (Array.getElem_mem hi)
 .have e:p.getD i 0=0:=by simp[Array.getD,hi]
  rw[e];exact hn
def Bd.perm {n:Nat}{p q:Array Nat}(h:Bd n p)(e:q.Perm p):Bd n q:=λx a=>h x (e.mem_iff.mp a)
theorem sf {n:Nat}{p:Array Nat}(B:Bd n p)(hn:0<n):∀f k,xr n (λ_=>True) (kas_asc p f k)
 |0,_=>trivial
 |f+1,k=>⟨B.get hn _,B.get hn _,λb=>by
  cases b with
  |true=>exact trivial
  |false=>exact sf B hn f (k+1)⟩
theorem wD {n:Nat}(hn:0<n):∀f (p:Array Nat) k q,Bd n p->xr n (λr:Array Nat×Nat×Nat=>Bd n r.1) (kas_desc f p k q)
 |0,_,_,_,B=>B
 |f+1,p,k,q,B=>⟨B.get hn _,B.get hn _,λb=>by
  cases b with
  |true=>
   show xr n _ (if q > 0 then _ else _);split
   .exact wD hn f _ _ _ (B.perm (yw _ _ _))
   .exact wD hn f _ _ _ B
  |false=>
   refine⟨B.get hn _,B.get hn _,λb=>?_⟩;cases b with
   |true=>exact B
   |false=>exact wD hn f _ _ _ B⟩
def tT {n:Nat}{p:Array Nat}(B:Bd n p)(hn:0<n)(m r:Nat):xr n (λr:Nat×Array Nat=>Bd n r.2) (kas_tail3 m r p):=by
 unfold kas_tail3;refine xr.bind (λa _=>?_) _ (sf (B.perm (yw _ _ _)) hn _ _);exact B.perm (yw _ _ _)
def wV {n:Nat}{p:Array Nat}(B:Bd n p)(hn:0<n)(m r:Nat):xr n (λr:Nat×Array Nat=>Bd n r.2) (kas_descPart m r p):=
 xr.bind (λa ha=>by
  split
  .exact tT (Bd.perm ha (yw _ _ _)) hn _ _
  .exact tT ha hn _ _) _ (wD hn _ _ _ _ B)
def nN {n:Nat}{p:Array Nat}(B:Bd n p)(hn:0<n)(r:Nat):xr n (λr:Nat×Array Nat=>Bd n r.2) (kas_count r p):=
 xr.bind (λa _=>by
  split
  .exact B
  .split
   .refine⟨B.get hn _,B.get hn _,λb=>?_⟩;cases b with
    |true=>exact B
    |false=>exact wV (B.perm (yw _ _ _)) hn _ _
   .exact wV B hn _ _) _ (sf B hn _ _)
theorem vc {n:Nat}{p:Array Nat}(B:Bd n p)(hn:0<n)(k:Nat):∀f l r,xr n (λ_=>True) (kas_place p k f l r)
 |0,_,_=>trivial
 |f+1,l,r=>by
  show xr n _ (if l≥r then _ else _);split
  .exact trivial
  .refine⟨B.get hn _,B.get hn _,λb=>?_⟩;cases b with
   |true=>exact vc B hn k f _ _
   |false=>exact vc B hn k f _ _
theorem oV {n:Nat}(hn:0<n):∀f (p:Array Nat) k,Bd n p->xr n (λ_=>True) (kas_bin f p k)
 |0,_,_,_=>trivial
 |f+1,p,k,B=>xr.bind (λl _=>oV hn f _ _ (B.perm (bubble_perm _ _ _))) _ (vc B hn k _ _ _)
def iB {n:Nat}(hn:0<n):xr n (λ_=>True) (kas_sort n):=
 xr.bind (λa ha=>by
  split
  .exact oV hn _ _ _ ha
  .trivial) _ (nN (λx b=>by simpa using b) hn n)
theorem wp_run {O:Type}{n:Nat}{P:O->Prop}{cmp:Nat->Nat->(Bool->Ac->Prop)->Ac->Prop}{lt:Nat->Nat->Bool}{Q:O->Ac->Prop}{s:Ac}(d:∀i j C,i<n->j<n->C (lt i j) s->cmp i j C s):
  ∀t:KasT O,xr n P t->Q (run lt t) s->t.kasWp cmp Q s
 |.ret _,_,h=>h
 |.ask i j k,⟨a,b,c⟩,h=>d i j _ a b (wp_run d (k (lt i j)) (c _) h)
def lx (p q:Int×Int):Bool:=decide (p.1<q.1\/(p.1=q.1/\p.2<q.2))
def at2 (ps:List (Int×Int))(i:Nat):Int×Int:=ps.getD i (0,0)
def zo1 (ps:List (Int×Int)):Ord λi j=>lx (at2 ps i) (at2 ps j) where
 irr:=λa=>by simp[lx]
 tr:=λa b c=>by
  unfold lx;generalize at2 ps a=x;generalize at2 ps b=y;generalize at2 ps c=z;simp only[zU4]
  lia
 asy:=λa b=>by
  unfold lx;generalize at2 ps a=x;generalize at2 ps b=y;simp only[zU4,zW4]
  lia
def nH (ps:List (Int×Int))(h:0<ps.length):∃d:List Nat,run (λi j=>lx (at2 ps i) (at2 ps j)) (kas_sort ps.length)=d.toArray/\d.length=ps.length/\(∀i∈d,i<ps.length)/\(d.map (at2 ps)).Perm ps/\(d.map (at2 ps)).Pairwise (λp q=>lx q p=false):=by
 obtain⟨a,b,c⟩:=aO (zo1 ps) h;generalize run (λi j=>lx (at2 ps i) (at2 ps j)) (kas_sort ps.length)=r at a b c;have e:(List.range ps.length).map (at2 ps)=ps:=by
  apply List.ext_getElem
  .simp
  .intro i k o;simp[at2,o]
 have l:r.toList.Perm (List.range ps.length):=by
  have:=z24.mp b;simpa using this
 refine⟨r.toList,by simp,by simpa using a,λi hi=>by simpa using l.mem_iff.mp hi,?_,?_⟩
 .have:=l.map (at2 ps);rw[e]at this;exact this
 .rw[List.pairwise_map,zS8];intro i j hi s f;have k:j<r.size:=by simpa using s
  have:=c i j (zQ0 f) (by rw[<-a];exact k);have m:g r i=r.toList[i]:=by
   have:i<r.size:=by lia
   simp[g,Array.getD,this]
  have n:g r j=r.toList[j]:=by simp[g,Array.getD,k]
  rw[m,n]at this;exact this
end SortA
namespace L2
open PySem PySem.Spec PySem.Calls PySem.W PyProof.Rows SortA
section
variable {prog:Ah}{w:Ak}{A:Al}{E:Ab->Ac->Prop}{s:Ac}
def Prs (h:An):List Ab->List (Int×Int)->Prop
 |[],[]=>True
 |v::vs,p::ps=>(∃a o t u n,v=.ref a/\h.get? a=some o/\o.cls=.type "tuple"/\o.data=.seq #[.int p.1 t,.int p.2 u] n)/\Prs h vs ps
 |_,_=>False
theorem Prs.len {h:An}:∀{vs:List Ab}{ps:List (Int×Int)},Prs h vs ps->vs.length=ps.length
 |[],[],_=>rfl
 |[],_::_,h=>h.elim
 |_::_,[],h=>h.elim
 |_::_,_::_,⟨_,h⟩=>by simp[Prs.len h]
theorem Prs.at {h:An}:∀{vs:List Ab}{ps:List (Int×Int)} (i:Nat),Prs h vs ps->i<ps.length->∃a o t u n,vs.getD i Value.none=.ref a/\h.get? a=some o/\o.cls=.type "tuple"/\o.data=.seq #[.int (at2 ps i).1 t,.int (at2 ps i).2 u] n
 |[],[],_,_,hi=>by simp at hi
 |[],_::_,_,h,_=>h.elim
 |_::_,[],_,h,_=>h.elim
 |_::_,_::_,0,⟨x,_⟩,_=>x
 |_::_,_::_,i+1,⟨_,r⟩,hi=>by
  obtain⟨a,o,t,u,n,e,q⟩:=Prs.at i r (by simpa using hi);exact⟨a,o,t,u,n,by simpa using e,q⟩
theorem Prs.tups {h:An}:∀{vs:List Ab}{ps:List (Int×Int)},Prs h vs ps->∃fs:List Ab,KatTups h vs fs/\fs.length=ps.length/\∀v∈fs,∃i t,v=.int i t
 |[],[],_=>⟨[],trivial,rfl,λ_ h=>by simp at h⟩
 |[],_::_,h=>h.elim
 |_::_,[],h=>h.elim
 |_::_,p::_,⟨⟨a,o,t,u,n,e,c,d,hd⟩,r⟩=>by
  obtain⟨fs,x,y,z⟩:=Prs.tups r;subst e;refine⟨.int p.1 t::fs,KatTups.cons c d hd (by simp) x,by simp[y],λv b=>?_⟩;rcases zK8.mp b with rfl|b
  .exact⟨_,_,rfl⟩
  .exact z v b
def dD {a b:Ad}{f ob:Obj}{p q:Int×Int}{t u t' g:Tok}{n k:Nat}{Q:Bool->Ac->Prop}(ha:s.heap.get? a=some f)(i:f.data=.seq #[.int p.1 t,.int p.2 u] n)(hb:s.heap.get? b=some ob)(db:ob.data=.seq #[.int q.1 t',.int q.2 g] k)
  (h:Q (lx p q) s):Aj (Ag prog w) A (keyLt' (tuples' true) (.ref a) (.ref b)) Q E s:=by
 refine kat_lt ha i hb db (kat_cons (wpAny_eqBool_int ?_));by_cases e:p.1=q.1
 .have e1:(p.1 == q.1)=true:=by simp[e]
  rw[e1];refine kat_yes (kat_cons (wpAny_eqBool_int ?_));by_cases d:p.2=q.2
  .have c:(p.2 == q.2)=true:=by simp[d]
   rw[c];refine kat_yes (kat_nil ?_);have:lx p q=false:=by simp[lx,e,d]
   rw[this]at h;simpa using h
  .have c:(p.2 == q.2)=false:=by simp[d]
   rw[c];refine kat_no (kat_one _ _ (wpAny_lt_int ?_));have:lx p q=decide (p.2<q.2):=by simp[lx,e]
   rw[this]at h;exact h
 .have e1:(p.1 == q.1)=false:=by simp[e]
  rw[e1];refine kat_no (oneLt_int ?_);have:lx p q=decide (p.1<q.1):=by simp[lx,e]
  rw[this]at h;exact h
def mR {vs:List Ab}{ps:List (Int×Int)}(d:2<=vs.length)(P:Prs s.heap vs ps){R:Array Nat->Ac->Prop}(hr:∀c:List Nat,c.length=ps.length->(∀i∈c,i<ps.length)->(c.map (at2 ps)).Perm ps->(c.map (at2 ps)).Pairwise (λp q=>lx q p=false)->R c.toArray s):
  Aj (Ag prog w) A (keyKind' vs.toArray) (λB s'=>(kas_sort vs.length).kasWp (kas_ask prog w A B vs) R s') (λ_ _=>False) s:=by
 obtain⟨fs,t,D,hi⟩:=P.tups;have hlen:=P.len;refine kat_kind (T:=.type "int") t (by lia) (λv f=>?_) (by decide) ?_
 .obtain⟨i,t,rfl⟩:=hi v f;exact .now
 .have e:(Value.type "int" != Value.type "tuple")=true:=by decide
  rw[e];obtain⟨c,e1,m,z,k,y⟩:=nH ps (zg4 d hlen);rw[hlen];refine wp_run (lt:=λi j=>lx (at2 ps i) (at2 ps j)) (λi j C hi x l=>?_) _ (iB (zg4 d hlen)) ?_
  .obtain⟨a,o,t,u,n,h,ha,_,r⟩:=P.at i hi;obtain⟨b,o',t',G,F,g,hb,_,db⟩:=P.at j x;unfold kas_ask;rw[h,g];exact dD ha r hb db l
  .rw[e1];exact hr c m z k y
def Srt (vs:List Ab)(ps:List (Int×Int))(out:List Ab):Prop:=
 ∃a:List Nat,out=a.map (λi=>vs.getD i Value.none)/\a.length=ps.length/\(∀i∈a,i<ps.length)/\(a.map (at2 ps)).Perm ps/\(a.map (at2 ps)).Pairwise (λp q=>lx q p=false)
def Srt.len {vs:List Ab}{ps:List (Int×Int)}{out:List Ab}(h:Srt vs ps out):out.length=ps.length:=by
 obtain⟨a,rfl,e,_⟩:=h;simp[e]
end
inductive PrV (H:Hp):List V->List (Int×Int)->Prop where
 |nil:PrV H [] []
 |cons {a:Ad}{xs:List V}{p:Int×Int}{ps:List (Int×Int)}:H a=some (.tup [.int p.1,.int p.2])->PrV H xs ps->PrV H (.ref a::xs) (p::ps)
section
variable {X:Cx}{pins:List (Ad×Obj)}{σ:St}{H H':Hp}{s:Ac}
theorem PrV.len {xs:List V}{ps:List (Int×Int)}(h:PrV H xs ps):xs.length=ps.length:=by
 induction h with
 |nil=>rfl
 |cons _ _ a=>simp[a]
theorem PrV.keep {xs:List V}{ps:List (Int×Int)}(k:∀a p q,H a=some (.tup [.int p,.int q])->H' a=some (.tup [.int p,.int q]))(h:PrV H xs ps):PrV H' xs ps:=by
 induction h with
 |nil=>exact .nil
 |cons e _ b=>exact .cons (k _ _ _ e) b
theorem PrV.app {xs ys:List V}{ps a:List (Int×Int)}(h:PrV H xs ps)(h':PrV H ys a):PrV H (xs++ys) (ps++a):=by
 induction h with
 |nil=>exact h'
 |cons e _ b=>exact .cons e b
theorem PrV.prs (I:Inv X pins σ H s):∀{xs:List V}{ps:List (Int×Int)}{us:List Ab},PrV H xs ps->Vals xs us->Prs s.heap us ps:=by
 intro xs ps us h
 induction h generalizing us with
 |nil=>intro r;cases r;trivial
 |@cons a xs p ps e _ ih=>
  intro r;cases r with
  |cons r f=>
   cases(r);obtain⟨_,d,b,o,c,g,n,hd⟩:=(I.hok a _ e);obtain⟨u,v,rfl,⟨t,rfl⟩,⟨t',rfl⟩⟩:=Vals.two b;exact⟨⟨a,o,t,t',n,rfl,c,g,hd⟩,ih f⟩
theorem oq {xs:List V}{us:List Ab}(r:Vals xs us):∀i x,xs[i]?=some x->RelV x (us.getD i Value.none):=by
 induction r with
 |nil=>intro i x h;simp at h
 |cons e _ a=>
  intro i x h;cases i with
  |zero=>have h':=zO2 (by simpa using h);subst h';exact e
  |succ i=>exact a i x (by simpa using h)
end
end L2
namespace Days
end Days
namespace L2
open PySem PySem.Spec PyProof.Rows Days
section
variable {X:Cx}{O:Ev}{e a b c tg:Am}{pos p:Pos}{Q:Aa->Prop}{E:ya}{sts:List Ap}
end
def gN (ds:List Aa):ds.filter (λ_=>true)=ds:=List.filter_eq_self.mpr λ_ _=>rfl
section
variable {X:Cx}{O:Ev}{tg:Am}{pos p:Pos}{E:ya}{sts body:List Ap}
end
def isNone :Aa->Bool
 |.none=>true
 |_=>false
abbrev eqS (d:Aa)(s:Str):Bool:=PyData.eqv d (.str s)
abbrev sJ :Aa->Bool:=yW 0 1000000000000
def tW :Aa->Bool
 |.tuple [.int m,f]=>yW 2 14 (.int m)&&yW 1 (m-1) f
 |_=>false
def zT (w v:Aa):Bool:=
 if eqS w "price"=true then isNone v||sJ v
 else if(eqS w "come"||eqS w "go")=true then isBool v
 else if(eqS w "least"||eqS w "most")=true then yW 1 14 v
 else if eqS w "deal"=true then isNone v||tW v
 else eqS w "fee"&&sJ v
def yf :Aa->Bool
 |.tuple [w,a,b,v]=>we (.tuple [a,b])&&zT w v
 |_=>false
abbrev words :List Str:=["price","come","go","least","most","deal","fee"]
def zy6 (x y z:V):List (Str×V):=xF "worth" z (xF "last" y (xF "first" x []))
structure Cs where
 price:Ad
 come:Ad
 go:Ad
 least:Ad
 most:Ad
 deal:Ad
 fee:Ad
def Cs.of (c:Cs)(w:Str):Ad:=
 if w="price" then c.price else if w="come" then c.come else if w="go" then c.go else if w="least" then c.least else if w="most" then c.most else if w="deal" then c.deal else c.fee
structure uN (K:Ae)(C fI fT fE fW:Ad):Prop where
 cl:Cls K C
 nf:yg K C "first"
 nl:yg K C "last"
 nw:yg K C "worth"
 makes:Mk K C fI
 told:Meth K C "told" fT
 tells:Meth K C "tells" fE
 word:Meth K C "word" fW
theorem xN {d:Aa}{s:Str}(h:eqS d s=true):d=.str s:=by
 cases d with
 |str x=>
  rw[eq_of_beq h]
 |_=>simp[PyData.eqv]at h
def pq {w v:Aa}(h:zT w v=true):∃s∈words,w=.str s:=by
 unfold zT at h;split at h
 .rename_i e;exact⟨"price",by simp[words],xN e⟩
 .split at h
  .rename_i e;rcases(z00 _ _).mp e with e|e
   .exact⟨"come",by simp[words],xN e⟩
   .exact⟨"go",by simp[words],xN e⟩
  .split at h
   .rename_i e;rcases(z00 _ _).mp e with e|e
    .exact⟨"least",by simp[words],xN e⟩
    .exact⟨"most",by simp[words],xN e⟩
   .split at h
    .rename_i e;exact⟨"deal",by simp[words],xN e⟩
    .rw[zO6]at h;exact⟨"fee",by simp[words],xN h.1⟩
def uq {d:Aa}(h:yf d=true):∃(s:Str) (a b v:Aa),s∈words/\d=.tuple [.str s,a,b,v]:=by
 unfold yf at h;split at h
 .rename_i w a b v;rw[zO6]at h;obtain⟨s,c,rfl⟩:=pq h.2;exact⟨s,a,b,v,c,rfl⟩
 .cases h
section
variable {X:Cx}
end
abbrev xY (C:Ad)(fs:List (Aa×Aa)):Aa:=.dict ((.int (C:Nat),.none)::fs)
def tL :List (Aa×Aa)->Str->Option Aa
 |[],_=>none
 |(.str g,d)::r,f=>if f=g then some d else tL r f
 |_::r,f=>tL r f
theorem AVf.get {H:Hp}:∀{fs:List (Str×V)}{ds:List (Aa×Aa)}{f:Str}{d:Aa},AVf H fs ds->tL ds f=some d->∃v,fs.lookup f=some v/\AV H v d
 |_,_,f,d,.nil,e=>by cases e
 |_,_,f,d,.cons (f:=g) h r,e=>by
  rw[zQ8];unfold tL at e;by_cases z:f=g
  .subst z;rw[if_pos rfl]at e;cases e;exact⟨_,by simp,h⟩
  .rw[if_neg z]at e;have a:(f == g)=false:=by simpa using z
   rw[a];exact AVf.get r e
theorem AVf.none {H:Hp}{fs:List (Str×V)}{ds:List (Aa×Aa)}{f:Str}(h:AVf H fs ds)(e:tL ds f=Option.none):fs.lookup f=Option.none:=by
 induction h using AVf.ind with
 |nil=>rfl
 |@cons g _ _ _ _ h r ih=>
  rw[zQ8];unfold tL at e;by_cases z:f=g
  .subst z;rw[if_pos rfl]at e;cases e
  .rw[if_neg z]at e;have a:(f == g)=false:=by simpa using z
   rw[a];exact ih e
theorem AV.ins_inv {H:Hp}{v:V}{C:Ad}{ds:List (Aa×Aa)}(h:AV H v (xY C ds)):∃a dx fs,v=.ref a/\H a=some (.ins C dx fs)/\AVf H fs ds:=by
 generalize e:xY C ds=d at h;cases h with
 |@ins a C' dx fs ds' h1 h2=>
  injection e with e;injection e with e1 f;have b:(C:Int)=C':=by
   have:=congrArg Prod.fst e1;injection this
  have c:=Int.ofNat.inj b;subst c f;exact⟨a,dx,fs,rfl,h1,h2⟩
 |_=>cases e
section
variable {X:Cx}{O:Ev}{o e:Am}{es:List Am}{pos apos p:Pos}{Q:Aa->Prop}{C:Ad}{f m:Str}
def wg (c:Cls X.K C)(na:yg X.K C f)(h:EvD X O o λx=>∃fs d,x=xY C fs/\tL fs f=some d/\Q d)(hb:attributeBase o f X.env (eval o X.env)=eval o X.env:=by rfl):EvD X O (.Attribute o f pos) Q:=λF σ H R m k=>by
 refine⟨_,zv0 zh hb,h F σ H _ m λx r H1 n t1 k1 g=>?_⟩;obtain⟨fs,d,rfl,hf,q⟩:=n;obtain⟨a,dx,l,rfl,i,j⟩:=g.ins_inv;obtain⟨v,b,av⟩:=j.get hf;exact⟨a,C,dx,l,v,rfl,(zi i).2,c,na,b,k d v H1 q t1 k1 av⟩
structure xq (P:Ah)(w:Ak)(K:Ae)(mg:Str->Option Ab)(base:An)(C:Ad)(m:Str)(k:Nat)(φ:List A->(A->Prop)->Prop):Prop where
 ex:∃f fd ps,Cls K C/\Meth K C m f/\Binds K fd ps []/\zS P w K mg base CX0 k f fd ps (spA φ)
def wB {k:Nat}{φ:List A->(A->Prop)->Prop}{I:Sem Bool}(u:xq X.prog X.w X.K X.mg X.base C m k φ)(hr:zB k X.A)(h:EvD X O o λx=>∃fs,x=xY C fs/\tL fs m=none/\EvA X O (e::es) λas=>φ (.dat (xY C fs)::as) λa=>Q a.d)
  (b:Af (e::es) X.env=(false,eval e X.env)::Af es X.env:=by rfl) (hpl:(backTo pos (Af es X.env)).any (·.1)=false:=by rfl)
  (M:eval (.Call (.Attribute o m apos) (e::es) [] pos) X.env=(do
   let ov <-eval o X.env
   standAt apos.atName
   let(f,first) <-holding [ov] (getMethod ov m I)
   callWith pos f first (backTo pos (Af (e::es) X.env)) (backToKw pos (keywordEach [] X.env))):=by rfl):EvD X O (.Call (.Attribute o m apos) (e::es) [] pos) Q:=λF σ H R g t=>by
 obtain⟨f,fd,ps,c,hm,hb,G⟩:=u.ex;refine⟨_,aw zh c hm G hr hb .nil rW yv b hpl M,h F σ H _ g λx N H1 B t1 k1 i=>?_⟩;obtain⟨fs,rfl,hf,q⟩:=B;have m1:=g.kz k1 t1;obtain⟨a,dx,L,rfl,r,s⟩:=i.ins_inv;refine⟨a,dx,L,rfl,(zi r).2,s.none hf,q F σ H1 _ m1 λas vs P J j k2 D=>?_⟩;have m2:=m1.kz k2 j;have l:=xQ (as:=.dat (xY C fs)::as) (E:=E0) m2 (.cons (i.same (k2.gz m1.tp)) D) J λz v H' y n=>by
  obtain⟨g1,g2,g3⟩:=n.back m2;exact t _ v H' y g1 ((k1.trans k2).trans g2) g3
 exact l
def sX {k:Nat}{φ:List A->(A->Prop)->Prop}{y:Sem Bool}(s:xq X.prog X.w X.K X.mg X.base C m k φ)(hr:zB k X.A)(h:EvD X O o λx=>∃fs,x=xY C fs/\tL fs m=none/\φ [.dat (xY C fs)] λa=>Q a.d)
  (D:eval (.Call (.Attribute o m apos) [] [] pos) X.env=(do
   let ov <-eval o X.env
   standAt apos.atName
   let(f,first) <-holding [ov] (getMethod ov m y)
   callWith pos f first (backTo pos (Af [] X.env)) (backToKw pos (keywordEach [] X.env))):=by rfl):EvD X O (.Call (.Attribute o m apos) [] [] pos) Q:=λF σ H R b r=>by
 obtain⟨f,fd,ps,c,hm,hb,G⟩:=s.ex;refine⟨_,cL zh c hm G hr hb .nil rW D,h F σ H _ b λx I H1 u t1 k1 g=>?_⟩;obtain⟨fs,rfl,hf,q⟩:=u;have m1:=b.kz k1 t1;obtain⟨a,dx,B,rfl,l,n⟩:=g.ins_inv;refine⟨a,dx,B,rfl,(zi l).2,n.none hf,?_⟩;have i:=xQ (as:=[.dat (xY C fs)]) (E:=E0) m1 (.cons g .nil) q λz v H' t j=>by
  obtain⟨g1,g2,g3⟩:=j.back m1;exact r _ v H' t g1 (k1.trans g2) g3
 exact i
def aJ (F:Fr)(v:V)(H':Hp)(d:Aa):Prop:=zy F H'/\Kz F F.H0 H'/\AV (sub (λx=>¬F.O0 x/\∀xs,F.H0 x≠some (.lst xs)) H') v d
def EvN (X:Cx)(O:Ev)(e:Am)(Q:Aa->Prop):Prop:=∀(F:Fr) (σ:St) (H:Hp) (R:VK),M F O σ H->(∀d v H',Q d->zy F H'->Kz F H H'->AV (sub (λx=>¬Ow F O σ x/\∀xs,H x≠some (.lst xs)) H') v d->R v H')->uJ X e σ H R
theorem EvN.d (h:EvN X O e Q):EvD X O e Q:=λF σ H R m k=>h F σ H R m λd v H' q t z r=>k d v H' q t z (r.same (zo λa o h e=>⟨h.1,e⟩))
def spI (C:Ad)(φ:List A->(A->Prop)->Prop):Sp:=λvs H a _=>∃(F:Fr) (as:List A) (Q:A->Prop) (x dx:Ad) (vs':List V) (H1:Hp),vs=.ref x::vs'/\H1 x=none/\H1 dx=none/\dx≠x/\H=upd (upd H1 dx (.own x)) x (.ins C dx [])/\
 F.H0=H1/\zy F H1/\(∀y,F.O0 y->∃u,H1 y=some u/\xV u)/\zK F (sub (λy=>¬F.O0 y) H1) vs' as/\φ as Q/\∀d H',Q (.dat d)->aJ F (.ref x) H' d->a .non H'
structure um (P:Ah)(w:Ak)(K:Ae)(mg:Str->Option Ab)(base:An)(x:Str)(k:Nat)(dvs:List V)(φ:List A->(A->Prop)->Prop):Prop where
 ex:∃C f fd ps ds,mg x=some (.ref C)/\Mk K C f/\Binds K fd ps ds/\Vals dvs ds/\zS P w K mg base CX0 k f fd ps (spI C φ)
def mQ {F:Fr}{σ:St}{H:Hp}{vs:List V}{as:List A}{a:A->Prop}{R:VK}{φ:List A->(A->Prop)->Prop}(m:M F O σ H)(j:zK F (Gz F O σ H) vs as)(b:φ as a)
  (i:∀d v H',a (.dat d)->aJ ⟨H,Ow F O σ,F.tp⟩ v H' d->R v H') {E:XK} (x dx:Ad) (h:H x=none) (hdx:H dx=none) (hne:dx≠x):spI C φ (.ref x::vs) (upd (upd H dx (.own x)) x (.ins C dx [])) (λv g=>v=.non/\R (.ref x) g) E:=by
 refine⟨⟨H,Ow F O σ,F.tp⟩,as,a,x,dx,vs,H,rfl,h,hdx,hne,rfl,rfl,?_,?_,?_,b,λd H' k c=>⟨rfl,i d _ H' k c⟩⟩
 .exact m.tp.to rfl λ_ z=>.inl z
 .exact λy z=>m.owEx z
 .exact zK.to (F:=F) (F':=⟨H,Ow F O σ,F.tp⟩) (λ_ _ e=>e) rfl j
def aJ.back {F:Fr}{σ:St}{H H1 H':Hp}{v:V}{d:Aa}(m:M F O σ H)(k1:Kz F H H1)(h:aJ ⟨H1,Ow F O σ,F.tp⟩ v H' d):zy F H'/\Kz F H1 H'/\AV (sub (λx=>¬Ow F O σ x/\∀xs,H x≠some (.lst xs)) H') v d:=by
 obtain⟨t,kz,r⟩:=h;refine⟨m.tp.re t rfl,kz,r.same (zo λa o h e=>⟨⟨h.1,λxs z=>h.2 xs (k1 _ _ z (m.tp.nt (ow0 h.1)))⟩,e⟩)⟩
def vq {k:Nat}{φ:List A->(A->Prop)->Prop}{x:Str}(i:um X.prog X.w X.K X.mg X.base x k [] φ)(hr:zB (k+1) X.A)(hg:Gl X x)(h:EvA X O (e::es) λas=>φ as λa=>Q a.d)
  (b:(x == ("__debug__":Str))=false:=by decide) (he:Af (e::es) X.env=(false,eval e X.env)::Af es X.env:=by rfl) (hpl:(backTo pos (Af es X.env)).any (·.1)=false:=by rfl):EvN X O (.Call (.Name x p) (e::es) [] pos) Q:=λF σ H R m g=>by
 obtain⟨C,f,fd,ps,ds,hm,hk,hb,hd,G⟩:=i.ex;cases hd;refine⟨_,bh hk G hr hg hm hb .nil rW yv b he hpl,h F σ H _ m λas vs H1 l t1 k1 n=>?_⟩;intro y dx hy hdx hne;rw[zP6];refine mQ (m.kz k1 t1) n l (λd v H' j c=>?_) y dx hy hdx hne;obtain⟨g1,g2,g3⟩:=c.back m k1;exact g d v H' j g1 (k1.trans g2) g3
end
structure zt8 (K:Ae)(x qual:Str)(st:Ap)(dV:Ab)(f:Ad)(fd:Ao):Prop where
 ex:∃(oc:Ab) (od:Option Ad) (kV doc pm:Ab) (an:Option Ad) (cdv ct:Ab) (osl:Array (Option Ab)),
  fd=PySem.W.fnOf x qual (zI st) (zt st) (zb st) dV kV doc pm an cdv ct/\K.lookup f=some ⟨oc,od,.func fd,osl⟩/\PySem.W.codeIn K cdv qual=true
 kp:PySem.W.keepIn K (.ref f)=true
def za8 {K:Ae}{x qual:Str}{st:Ap}{f:Ad}{oc:Ab}{od an:Option Ad}{osl:Array (Option Ab)}{dV kV doc pm cdv ct:Ab}(l:K.lookup f=some ⟨oc,od,.func (PySem.W.fnOf x qual (zI st) (zt st) (zb st) dV kV doc pm an cdv ct),osl⟩)
  (c:PySem.W.codeIn K cdv qual=true) (k:PySem.W.keepIn K (.ref f)=true):zt8 K x qual st dV f (PySem.W.fnOf x qual (zI st) (zt st) (zb st) dV kV doc pm an cdv ct):=⟨⟨oc,od,kV,doc,pm,an,cdv,ct,osl,rfl,l,c⟩,k⟩
section
variable {P:Ah}{w:Ak}{K:Ae}{mg:Str->Option Ab}{base:An}
def zw4 {qual:Str}{st:Ap}{f C:Ad}{dV:Ab}{fd:Ao}{N:List Str}{x:Str}{k:Nat}{φ:List A->(A->Prop)->Prop}{fl:Str}{e:Am}{p1 p2 p3:Pos}(G:zt8 K "__init__" qual st dV f fd)(S:zA ("self"::x::N) ["self",x] (zb st))(c:Cls K C)(na:yg K C fl)
  (hb:zt st=[.Assign [.Attribute (.Name "self" p1) fl p2] e p3]) (hlen:∀as Q,φ as Q->as.length=1)
  (J:∀(cdv:Ab) (L:Al) (outer:List Ar) (s:Ac) (H:Hp) (E:XK) (as:List A) (Q:A->Prop),zB k (L.deeper (envOfC qual (zb st) s.heap.objs.size f cdv))->φ as Q->
   EvL (yS CX0 P w K mg base ("self"::x::N) qual (zb st) f cdv L outer s H E).nox (none::as.map some++List.replicate N.length none) e λds=>uh ds=true/\Q (.dat (xY C [(.str fl,.list ds)])))
  (a3:∀(cdv:Ab) (L:Al) (outer:List Ar) (s:Ac) (H:Hp) (E:XK),swapsWith e (some (.Attribute (.Name "self" p1) fl p2)) p3.line (yS CX0 P w K mg base ("self"::x::N) qual (zb st) f cdv L outer s H E).nox.env=pure false)
  (hv:Vis (zb st) "self"):zS P w K mg base CX0 (k+1) f fd ["self",x] (spI C φ):=by
 obtain⟨oc,od,kV,doc,pm,an,cdv,ct,osl,rfl,lk,a1⟩:=G.ex;refine kO lk a1 S (λvs H Q E h=>?_) λL outer s H vs Qc E hr h=>?_
 .obtain⟨F,as,Q',y,dx,vs',H1,rfl,_,_,_,_,_,_,_,Y,p,_⟩:=h;rw[zN0,Y.length,hlen as _ p];rfl
 .obtain⟨F,as,Q',y,dx,vs',H1,rfl,hy,hdx,hne,rfl,rfl,t,o,Y,p,kk⟩:=h;rw[hb];refine⟨_,((uS (qS (yu (i:=0) rfl hv) zh (a3 cdv L outer s _ E))).nox),?_⟩
  let F2:Fr:=⟨F.H0,λz=>F.O0 z\/z=y\/z=dx,F.tp⟩
  have s1:zr F.H0 (upd (upd F.H0 dx (.own y)) y (.ins C dx [])):=λa u q=>by rw[zj (zm q hy),zj (zm q hdx)];exact q
  have I:¬F.O0 y:=λz=>by obtain⟨u,O,_⟩:=o y z;rw[hy]at O;cases O
  have t2:zy F2 (upd (upd F.H0 dx (.own y)) y (.ins C dx [])):=(t.same s1).to rfl λ_ z=>.inl z
  -- the names of the body
  have g:∀{i:Nat} {a:A},(none::as.map some++List.replicate N.length none:Ev)[i]?=some (some a)->∃j,i=j+1/\as[j]?=some a:=λ{i a} h=>by
   cases i with
   |zero=>simp at h
   |succ j=>
    refine⟨j,rfl,?_⟩;have h':(as.map some++List.replicate N.length none:Ev)[j]?=some (some a):=by simpa using h
    rcases zQ1 j as.length with z|z
    .rw[zN4 (by rw[zK3];exact z),zM3,zO5]at h';obtain⟨b,X,R⟩:=h';cases R;exact X
    .rw[zN9 (by rw[zK3];exact z),zU3]at h';split at h'<;>cases h'
  have at':∀{vs:List V} {as:List A} {i:Nat} {a:A},zK F (sub (λx=>¬F.O0 x) F.H0) vs as->as[i]?=some a->∃v,vs[i]?=some v/\jE F (sub (λx=>¬F.O0 x) F.H0) v a:=by
   intro vs as i a h
   induction h generalizing i with
   |nil=>intro e;simp at e
   |cons h r ih=>
    intro e;cases i with
    |zero=>simp at e;subst e;exact⟨_,rfl,h⟩
    |succ i=>obtain⟨v,X,R⟩:=ih (by simpa using e);exact⟨v,by simpa using X,R⟩
  have gv:∀{j:Nat} {v:V},vs'[j]?=some v->(L2.start ("self"::x::N) (.ref y::vs'))[j+1]?=some (some v):=λ{j v} h=>by
   unfold L2.start;rw[zN4 (by rw[zK3,zN0];exact Nat.add_lt_add_right ((zK7.mp h).1) _),zM3,List.getElem?_cons_succ,h];rfl
  have no:∀(i:Nat) a,(none::as.map some++List.replicate N.length none:Ev)[i]?=some (some a)->(∃d,a=.dat d)\/a=.tape:=λi a z=>by
   obtain⟨j,_,hj⟩:=g z;obtain⟨v,_,h⟩:=at' Y hj;cases a with
   |dat d=>exact .inl ⟨d,rfl⟩
   |tape=>exact .inr rfl
   |_=>exact h.elim
  have gs:zr (sub (λx=>¬F.O0 x) F.H0) (Gz F2 (none::as.map some++List.replicate N.length none) (L2.start ("self"::x::N) (.ref y::vs')) (upd (upd F.H0 dx (.own y)) y (.ins C dx []))):=λa u q=>by
   obtain⟨z1,B⟩:=zi q;refine zD ?_ (s1 _ _ B);rintro((z|z|z)|⟨i,b,s,e,_,f⟩)
   .exact z1 z
   .rw[z,hy]at B;cases B
   .rw[z,hdx]at B;cases B
   .rcases no i b e with⟨d,rfl⟩|rfl
    .exact f.elim
    .exact f.elim
  have m2:M F2 (none::as.map some++List.replicate N.length none) (L2.start ("self"::x::N) (.ref y::vs')) (upd (upd F.H0 dx (.own y)) y (.ins C dx [])):=by
   refine⟨by unfold L2.start;simp[Y.length,(hlen as _ p)],λi a s e1 e2=>?_,λi j a b s t x e1 _ _ _ f=>?_,λi r q z=>(by rcases no i _ z with⟨d,w⟩|w<;>cases w),t2,λz u h _=>s1 z u h,λz hz=>?_⟩
   .obtain⟨j,rfl,hj⟩:=g e1;obtain⟨v,X,R⟩:=at' Y hj;rw[gv X]at e2;cases e2;rcases no _ a e1 with⟨d,rfl⟩|rfl
    .exact⟨v,rfl,AV.same gs R⟩
    .obtain⟨t',b,c,h3,rfl⟩:=R;exact⟨t',b,c,h3,rfl⟩
   .rcases no i a e1 with⟨d,rfl⟩|rfl
    .exact f.elim
    .exact f.elim
   .rcases hz with q|q|q
    .obtain⟨u,O,hn⟩:=o z q;exact⟨u,s1 _ _ O,hn⟩
    .exact⟨_,by rw[q];exact zl,λ_ q=>by cases q⟩
    .exact⟨_,by rw[q,zj hne];exact zl,λ_ q=>by cases q⟩
  refine J cdv L outer s _ E as Q' hr p F2 _ _ _ m2 λd v H2 qd t3 k3 r3=>?_;obtain⟨l,xs,rfl,m,a5,a4⟩:=r3;obtain⟨a2,qd⟩:=qd;have Z:l≠y:=λz=>by rw[z,zl]at m;cases m
  have U:l≠dx:=λz=>by rw[z,zj hne,zl]at m;cases m
  have D:F.H0 l=none:=by rw[zj Z,zj U]at m;exact m
  have a0:¬F.O0 l:=λz=>by obtain⟨u,O,_⟩:=o l z;rw[D]at O;cases O
  have T:=k3 _ _ zl (t.nt I);refine⟨.ref y,rfl,y,C,dx,[],rfl,T,c,na,by show 0<1000;decide,?_⟩;refine kk _ _ qd ⟨(t.re t3 rfl).updO I (ic T),λz u h n=>?_,?_⟩
  .rw[zj (zm h hy)];exact k3 _ _ (s1 _ _ h) n
  .refine AV.ins (zD ⟨I,λxs z=>by rw[hy]at z;cases z⟩ zl) (.cons (.lst (zD ⟨a0,λxs z=>by rw[D]at z;cases z⟩ (by rw[zj Z];exact a5)) ?_) .nil);refine a4.noL (λa u hno z=>?_) a2;obtain⟨z1,B⟩:=zi z;have na:a≠y:=λw=>z1.1 (.inl (.inr (.inl w)));refine zD ⟨λw=>z1.1 (.inl (.inl w)),λxs w=>?_⟩ (by rw[zj na];exact B);have:H2 a=some (.lst xs):=k3 _ _ (s1 _ _ w) (t.nt λw=>z1.1 (.inl (.inl w)));rw[B]at this;cases this;exact hno trivial
end
section
variable {X:Cx}{O:Ev}{e e':Am}{pos:Pos}{E:ya}{sts:List Ap}
end
def Itv (K:Ae)(a:Ad)(n:Nat):It:=
 ⟨λi H=>∃xs x,SqL K H a xs/\xs.length=n/\i<n/\xs[n-1-i]?=some x,λi H x H'=>H'=H/\∀xs,SqL K H a xs->xs[n-1-i]?=some x,λi H=>n<=i⟩
def dX {P:Ah}{w:Ak}{K:Ae}{tg:Am}(a it:Ad)(n:Nat):Turn P w K tg (Itv K a n) [it] it (λi h=>i<=n/\h.IsRevIter it a ((n:Int)-1-(i:Int))) where
 mem:=by simp
 obj:=λi h st b hb=>by
  have e:b=it:=by simpa using hb
  subst e;obtain⟨_,o,e,c,d⟩:=st;exact⟨o,e,λv z=>by rw[d]at z;cases z⟩
 keep:=λi h h' st k=>⟨st.1,st.2.at λo e=>k it (by simp) o e⟩
 item:=by
  intro X g hw l r i pins s σ H E I hf st hg;subst g hw l;obtain⟨xs,x,hq,G,hi,q⟩:=hg;obtain⟨y,D,p,J⟩:=I.list hq;obtain⟨u,B,C⟩:=D.get q;obtain⟨f0,f1,f2,j,f4,m⟩:=hf it (by simp);have e1:(n-1-i)=((n-1-i:Nat):Int):=by lia
  have st':=st.2;rw[e1]at st';refine wpAny_pyNext_rev_item st' p.isList (by simpa using B) λh' f sb=>?_;obtain⟨o,e,c,d⟩:=id f;have F:(((n-1-i:Nat):Int)-1)=n-1-((i+1:Nat):Int):=by lia
  rw[F]at f;exact⟨u,rfl,fi e c d (by decide) ⟨x,H,(I.turned (λb o hb e=>(sb.2 b hb).trans e) f0 f1 j f4 m),C,⟨rfl,λys hy=>by rw[I.list_inj hy hq];exact q⟩,⟨hi,f⟩,λb hb=>(hf b hb).1⟩⟩
 done:=by
  intro X g hw l r i pins s σ H E I hf st hg;subst g hw l;have hi:=zV6 st.1 hg;obtain⟨f0,f1,f2,j,f4,m⟩:=hf it (by simp);have st':=st.2;rw[show((n:Int)-1-i)=-1 by lia]at st';exact wpAny_pyNext_rev_end (I.ok.hd r) st' λh' t=>⟨rfl,I.turned (λb o hb e=>t b o hb e) f0 f1 j f4 m⟩
 self:=λA i s Q E st h=>wpAny_pyIter_revIter st.2 h
section
variable {X:Cx}{O:Ev}{tg:Am}{p pos:Pos}{a:Am}
def zH0 (K:Ae)(b:TA):TI:=λσ H R=>b σ H λvs H1=>∃l xs,vs=[.ref l]/\SqL K H1 l xs/\R (Itv K l xs.length) H1
def zv6 {k:TA}(hg:Gl X "reversed")(hm:X.mg "reversed"=none)(ha:PA X [a] k)(l:Af [a] X.env=[(false,eval a X.env)]:=by rfl):PI X tg (.Call (.Name "reversed" p) [a] [] pos) (zH0 X.K k):=by
 intro pins s σ H R I h;refine Call_ (xw I hg hm boot_reversed (zR1 (thn (ha pos pins s σ H _ I h) λus s1 j=>?_) l rfl));obtain⟨vs,H1,f,t,r⟩:=j;obtain⟨l1,xs,e,i,q⟩:=r;subst e;obtain⟨u,rfl,n⟩:=Vals.one t;cases(n);obtain⟨c,g,p1,m⟩:=f.list i;refine call_reversed_list p1.isList ?_;have d:({s1 with heap:=s1.heap.push (revObj l1 ((c.toArray.size:Int)-1))}:Ac).heap.IsRevIter s1.heap.objs.size l1 ((xs.length:Int)-1-(0:Int)):=by
  refine⟨_,zL2 _ rfl,rfl,?_⟩;show Data.fields _=_;rw[zM1,g.length];simp
 refine wpAny_pyIter_revIter d ⟨_,_,_,_,H1,rfl,f.kept λb o e=>zK1 _ e,dX l1 _ xs.length,⟨zL6 _,d⟩,λb hb=>?_,q⟩;have e:b=s1.heap.objs.size:=by simpa using hb
 subst e;exact f.fpOk (zK6 _) (f.hok.fresh (zK6 _))
def zn0 {Q:List Aa->Prop}(hg:Gl X "reversed")(hm:X.mg "reversed"=none)(h:EvD X O a λx=>∃ds,x=.list ds/\Q ds.reverse)(e:Af [a] X.env=[(false,eval a X.env)]:=by rfl):
  EvI X O tg (.Call (.Name "reversed" p) [a] [] pos) Q:=λF σ H R m k=>by
 refine⟨_,zv6 hg hm (zw zh zQ e) e,h F σ H _ m λx o H1 g t1 k1 l=>?_⟩;obtain⟨ds,rfl,q⟩:=g;obtain⟨l1,xs,rfl,g1,g2⟩:=l.lst_inv;refine⟨l1,xs,rfl,SqL.of (zi g1).2,k _ _ H1 q t1 k1 λi r p s=>⟨λd hd=>?_,λf=>?_⟩⟩
 .have s1:=SqL.of (K:=X.K) (zi (s _ _ g1)).2;have hi:i<ds.length:=by
   have:=(zK7.mp hd).1
   rwa [z28]at this
  rw[List.getElem?_reverse hi]at hd;obtain⟨j,b,c⟩:=g2.get hd;rw[<-g2.length]at b;refine⟨⟨xs,j,s1,rfl,by rw[g2.length];exact hi,b⟩,λv n y=>?_⟩;obtain⟨rfl,hy⟩:=y;have:=hy _ s1;rw[b]at this;cases this;exact⟨zr.refl _,λ_=>c.same s⟩
 .rw[z28,<-g2.length]at f;exact f
end
def EnS (w:Ak):List DictEntry->List (Str×V)->Prop:=Paired λe p=>e.hash=hashStr w p.1/\(∃t,e.key=.str p.1 t)/\RelV p.2 e.val
def jf (K:Ae)(w:Ak)(d:Ad)(a:List (Str×V)):Prop:=
 ∃es n,K.lookup d=some ⟨.type "dict",none,.dict es n,#[]⟩/\EnS w es.toList a/\(a.map (·.1)).Nodup
theorem jU {P:Ah}{w:Ak}{es:List DictEntry}{a:List (Str×V)}(h:EnS w es a):Pairs (PySem.strKind P w) es (List.zipWith (λe (p:Str×V)=>(p.1,e.val)) es a):=by
 induction h with
 |nil=>exact .nil
 |cons q _ b=>
  obtain⟨_,⟨t,c⟩,_⟩:=q;exact .cons (by rw[c];simp[PySem.strKind,Value.isStrOf]) rfl b
theorem bO {w:Ak}{es:List DictEntry}{a:List (Str×V)}(h:EnS w es a):(List.zipWith (λe (p:Str×V)=>(p.1,e.val)) es a).map (·.1)=a.map (·.1):=by
 induction h with
 |nil=>rfl
 |cons _ _ b=>simp only[List.zipWith_cons_cons,zP4,b]
theorem cS {P:Ah}{w:Ak}{es:List DictEntry}{a:List (Str×V)}(h:EnS w es a):∀e∈es,∃k,(PySem.strKind P w).is k e.key=true/\e.hash=(PySem.strKind P w).hash k:=by
 induction h with
 |nil=>intro e he;simp at he
 |@cons _ p _ _ q _ ih=>
  obtain⟨c,⟨t,b⟩,_⟩:=q;intro e he;rcases zK8.mp he with rfl|he
  .exact⟨p.1,by rw[b];simp[PySem.strKind,Value.isStrOf],c⟩
  .exact ih e he
theorem zb9 {w:Ak}{x:Str}{v:V}{es:List DictEntry}{a:List (Str×V)}(b:EnS w es a)(h:a.lookup x=some v):∃u,valueAt (List.zipWith (λe (p:Str×V)=>(p.1,e.val)) es a) x=some u/\RelV v u:=by
 induction b with
 |nil=>simp at h
 |@cons e p _ _ k _ ih=>
  obtain⟨y,z⟩:=p;by_cases q:x=y
  .subst q;simp only[List.lookup_cons_self,Option.some.injEq]at h;subst h;exact⟨e.val,by simp[valueAt],k.2.2⟩
  .rw[zQ8,zZ5.mpr q]at h;obtain⟨u,c,d⟩:=ih h;refine⟨u,?_,d⟩;rw[<-c];simp[valueAt,zQ5,zP2 q]
section
variable {X:Cx}{O:Ev}{p pos:Pos}{a:Am}{g:Str}{Q:Aa->Prop}
def zp4 (i:Am):Prop:=∀b c,subscripted i false b c=operate [b,c] (getItem b c)
def zG1 {prog:Ah}{w:Ak}{A:Al}{E:Ab->Ac->Prop}{s:Ac}{env:Ar}{value slice:Am}{pos:Pos}{T id:String}{Q:Ab->Ac->Prop}
  (m:typeLookup (.type T) "__getitem__"=pure (some (.builtin id))) (l:zp4 slice)
  (h:Aj (Ag prog w) A (eval value env) (λo e=>Aj (Ag prog w) A (eval slice env) (λi b=>b.TypeIs o T/\Aj (Ag prog w) A (getItem o i) Q E b) E e) E s):
  Aj (Ag prog w) A (eval (.Subscript value slice pos) env) Q E s:=by
 refine Subscript_ (thn h λo e j=>thn j λi b c=>?_);obtain⟨k,c⟩:=c;unfold subscriptTail;refine zK0 ?_;rw[getitemInPython_of_ne k.not_modules];refine zK0 (z58 k m ?_);have fin:Aj (Ag prog w) A (subscripted slice false o i) (λr d=>Aj (Ag prog w) A (letTemporaryGo value o r >>= λ_=>pure r) Q E d) E b:=by
  rw[l o i];exact wpAny_operating (thn c λr d f=>zK0 (wpAny_letTemporaryGo (zK2 f)))
 first
  |exact zK2 (zK0 fin)
  |exact zK0 (zK2 (zK0 fin))
  |exact zK0 fin
def dn {d:Ad}{b:List (Str×V)}{ty:TE}(hg:Gl X g)(hm:X.mg g=some (.ref d))(hd:jf X.K X.w d b)(hi:PE X a ty)(k:zp4 a)(hb:(g == ("__debug__":Str))=false:=by decide):
  PE X (.Subscript (.Name g p) a pos) (λσ H Q=>ty σ H λy H1=>∃x v,y=.str x/\b.lookup x=some v/\Q v H1):=by
 intro pins s σ H Q I h;refine zG1 PySem.F.slot_dict_getitem.lookup k (yV I hg hm (thn (hi pins s σ H _ I h) λA s2 f=>?_) hb);obtain⟨y,z,i,q,x,v,j,ex,r⟩:=f;subst j;obtain⟨t,rfl⟩:=q;obtain⟨es,n,l,he,hn⟩:=hd;have dd:s2.heap.DictOf (PySem.strKind X.prog X.w) d (List.zipWith (λe p=>(p.1,e.val)) es.toList b):=
  ⟨_,es,n,i.kIn _ _ l,⟨rfl,rfl,rfl⟩,rfl,λe c=>cS he e (by simpa using c),jU he,by rw[bO he];exact hn⟩
 obtain⟨u,m,o⟩:=zb9 he ex;exact⟨dd.typeIs,wpAny_getItem_of (show(PySem.strKind X.prog X.w).is x (.str x t)=true by simp[PySem.strKind,Value.isStrOf]) dd.mapOf m ⟨v,z,i.tok _,o,r⟩⟩
def scV :Aa->Option V
 |.none=>some .non
 |.bool b=>some (.bl b)
 |.int i=>some (.int i)
 |.str x=>some (.str x)
 |_=>Option.none
def zn8 {H:Hp}{d:Aa}{v:V}(h:scV d=some v):AV H v d:=by
 cases d<;>simp[scV]at h<;>subst h<;>constructor
def fM {d:Ad}{b:List (Str×V)}(hg:Gl X g)(hm:X.mg g=some (.ref d))(hd:jf X.K X.w d b)(h:EvD X O a λy=>∃x d v,y=.str x/\b.lookup x=some v/\scV d=some v/\Q d)(e:zp4 a:=by exact λ_ _=>rfl)
  (hb:(g == ("__debug__":Str))=false:=by decide):EvD X O (.Subscript (.Name g p) a pos) Q:=λF σ H R m k=>by
 refine⟨_,dn hg hm hd zh e hb,h F σ H _ m λy l H1 j t1 k1 c=>?_⟩;obtain⟨x,d',v,rfl,f,i,q⟩:=j;cases c.str_inv;exact⟨x,v,rfl,f,k _ _ H1 q t1 k1 (zn8 i)⟩
end
section
variable {X:Cx}{O:Ev}{p pos:Pos}{a b:Am}{g:Str}{Q:Aa->Prop}
def uI :Aa->Bool
 |.none=>true
 |.bool _=>true
 |.int _=>true
 |.str _=>true
 |_=>false
def qm {H:Hp}{v:V}{d:Aa}(h:AV H v d)(f:uI d=true):wU v=true/\scV d=some v:=by
 cases h<;>first|exact⟨rfl,rfl⟩|cases f
theorem pL {H:Hp}{xs:List V}{ds:List Aa}(h:AVs H xs ds)(f:ds.all uI=true):xs.all wU=true/\ds.map scV=xs.map some:=by
 induction h using AVs.ind with
 |nil=>exact⟨rfl,rfl⟩
 |cons h _ c=>
  rw[z71,zO6]at f;obtain⟨i,j⟩:=qm h f.1;obtain⟨e,d⟩:=c f.2;exact⟨by rw[z71,i,e];rfl,by rw[zP4,zP4,j,d]⟩
def inD (x:Aa)(ds:List Aa):Bool:=ds.any λy=>match scV y,scV x with
 |some u,some v=>eqV u v
 |_,_=>false
theorem qq {v:V}{x:Aa}(c:scV x=some v):∀{xs:List V}{ds:List Aa},ds.map scV=xs.map some->inV v xs=inD x ds
 |[],[],_=>rfl
 |[],_::_,e=>by cases e
 |_::_,[],e=>by cases e
 |u::xs,d::ds,e=>by
  rw[zP4,zP4]at e;injection e with e1 h;have f:=qq c h;unfold inV inD at f ⊢;rw[z51,z51,f,e1,c]
def zu6 {neg:Bool}{x:Aa}{ds:List Aa}(c:uI x=true)(fs:ds.all uI=true):Cmp (rIn X.K neg) x (.list ds) (if neg then !inD x ds else inD x ds):=λp H f i R d e h=>by
 obtain⟨ad,xs,rfl,g1,g2⟩:=e.lst_inv;obtain⟨f1,s1⟩:=qm d c;obtain⟨f2,s2⟩:=pL g2 fs;refine⟨ad,xs,rfl,.inl (SqL.of (zi g1).2),f1,f2,?_⟩;rw[qq s1 s2];exact h
def aM {neg:Bool}{x:Aa}{ds:List Aa}(c:uI x=true)(fs:ds.all uI=true):Cmp (rIn X.K neg) x (.tuple ds) (if neg then !inD x ds else inD x ds):=λp H f i R d e h=>by
 obtain⟨ad,xs,rfl,g1,g2⟩:=e.tup_inv;obtain⟨f1,s1⟩:=qm d c;obtain⟨f2,s2⟩:=pL g2 fs;refine⟨ad,xs,rfl,.inr (SqT.of (zi g1).2),f1,f2,?_⟩;rw[qq s1 s2];exact h
def gK {Q:Bool->Prop}(h:EvD X O a λx=>EvD X O b λy=>∃ds,(y=.list ds\/y=.tuple ds)/\uI x=true/\ds.all uI=true/\Q (!inD x ds))(hm:behindInMarks .NotIn b=false:=by rfl):EvT X O (.Compare a [.NotIn] [b] pos) Q:=
 wt qC hm (h.imp λx h=>h.imp λy c=>by obtain⟨ds,e,f1,f2,q⟩:=c;exact⟨!inD x ds,by rcases e with rfl|rfl;exact zu6 (neg:=true) f1 f2;exact aM (neg:=true) f1 f2,q⟩)
end
section
variable {X:Cx}{O:Ev}{p pos:Pos}{a b:Am}{Q:Aa->Prop}
end
section
variable {X:Cx}{O:Ev}{a e:Am}{pos p2 p3 p4:Pos}{n1:Nat}{te:TE}
end
def kd (T:Ad)(H:Hp):Prop:=∀b:Ad,H b=none\/b=T\/∃o xs,H b=some (.frz o (.lst xs))
theorem iE {P:Ah}{w:Ak}{K:Ae}{mg mb:Str->Option Ab}{CX:CXT}{k:Nat}{L a T:Ad}{fd:Ao}{x:Str}{sp:Sp}{c:Ac}{vs:List Ab}{ns:List Int}{ps:Array Ab}
  (Z:K.In c.heap) (p:c.heap.Ns Ai mg) (hb:c.heap.Ns builtinsNs mb) (U:∀x:Str,x≠"__name__"->mb x=bootBuiltins x) (B:c.heap.NoLimit) (hg:c.gens=#[])
  (ha:c.heap.get? a=some {cls:=.type "list",data:=.seq vs.toArray}) (hi:IntsAre vs ns) (hl:ns.length<=sizeLine) (hr:zB k callerA)
  (A:c.heap.get? T=some (PySem.W.tabObj ps)) (I:K.lookup T=none) (N:isCodeTable c.heap T)
  (X:∃bm ob,mg "__builtins__"=some (.ref bm)/\bm≠builtinsNs/\c.heap.get? bm=some ob/\ob.cls=.type "module"/\ob.dict=some builtinsNs/\ob.data=.plain)
  (F:∀base:An,K.In base->base.Ns Ai mg->base.BuiltinsAt mg T->zS P w K mg base CX k L fd [x] sp) (t:∀(s:Ac) (u:Ab),BindsTo s fd ⟨[u],[]⟩ [(x,u)])
  (O:∀H:Hp,kd T H->H T=some (.tbl ps)->SqL K H a (ns.map V.int)->sp [.ref a] H (λv _=>v=.bl true) λ_ _ _=>False)
  (R:∀H e s',CX [] H c (λ_ _ _=>False) e s'->False):
  codeAny (Ag P w) callerA (.call (.ref L) ⟨[.ref a],[]⟩) (λr s'=>r=.ok (.ret (.bool true))/\OldK c.heap s'.heap/\s'.os=c.os/\AllBare s'.gens) c:=by
 have rv:=jW hi;have D:a≠T:=λz=>by rw[z,A]at ha;cases ha
 have core:∀H:Hp,kd T H->H T=some (.tbl ps)->SqL K H a (ns.map V.int)->HOk P w H c.heap->(∀b,H b≠none->b=a\/b=T)->(H a≠none->K.lookup a=none)->
   codeAny (Ag P w) callerA (.call (.ref L) ⟨[.ref a],[]⟩) (λr s'=>r=.ok (.ret (.bool true))/\OldK c.heap s'.heap/\s'.os=c.os/\AllBare s'.gens) c:=by
  intro H hO C hS hok M hK;have f:∀{b:Ad} {o:Obj},c.heap.get? b=some o->H b=none->(rp c.heap H).get? b=some o:=λe n=>dm e n;have J:∀{b:Ad} {o:Obj} {es:Array DictEntry} {ep:Nat},c.heap.get? b=some o->o.data=.dict es ep->H b=none:=λ{b o es ep} e d=>by
   cases q:H b with
   |none=>rfl
   |some u=>
    rcases M b (by rw[q];simp)with g|g
    .subst g;rw[ha]at e;cases e;have d':=d;cases d'
    .subst g;rw[A]at e;cases e;have d':=d;cases d'
  have j:∀{b:Ad} {m:Str->Option Ab},c.heap.Ns b m->(rp c.heap H).Ns b m:=λ{b m} Q=>by obtain⟨o,es,ep,e,d,r⟩:=Q;exact⟨o,es,ep,f e (J e d),d,r⟩
  have E:K.In (rp c.heap H):=λb o e=>f (Z b o e) (by
   cases q:H b with
   |none=>rfl
   |some u=>
    rcases M b (by rw[q];simp)with g|g
    .subst g;rw[hK (by rw[q];simp)]at e;cases e
    .subst g;rw[I]at e;cases e)
  have hM:Mod K mg (rp c.heap H):=⟨E,j p,⟨mb,j hb,U⟩,let⟨mc,h1,h2⟩:=B;⟨mc,j h1,h2⟩⟩;have S:(rp c.heap H).BuiltinsAt mg T:=by
   obtain⟨bm,ob,b1,b2,y,Y,b5,G⟩:=X;have n1:bm≠T:=λz=>by rw[z,A]at y;cases y;cases Y
   have n2:bm≠a:=λz=>by rw[z,ha]at y;cases y;cases G
   have n3:bm≠Ai:=λz=>by
    obtain⟨o,es,ep,e,d,_⟩:=p;rw[z,e]at y;cases y;rw[d]at G;cases G
   exact⟨bm,ob,b1,b2,n3,n1,f y (by
    cases q:H bm with
    |none=>rfl
    |some u=>
          rcases M bm (by rw[q];simp)with g|g
          .exact absurd g n2
          .exact absurd g n1),Y,b5,G⟩
  have e0:vR P w K mg (rp c.heap H) callerA [] c H:=⟨rfl,hM,λb o e=>bV e,zM9 (iX _ _),trivial,λb hb=>absurd (show b∈([]:List Ad)from hb) (by simp),hok,.of_eq hg⟩;refine zX6 ((F _ E (j p) S).run callerA [] c H ⟨[.ref a],[]⟩ [.ref a] [.ref a] _ _ hr e0 (t c (.ref a)) (.cons rfl .nil) (O H hO C hS)) λr s' h=>?_;cases r with
  |error e=>exact(R H e s' h).elim
  |ok fl=>
   cases fl with
   |next=>exact False.elim h
   |brk=>exact False.elim h
   |cont=>exact False.elim h
   |ret u=>
    obtain⟨v,H',os,bare,un,l,r',q⟩:=h;have q':=q;subst q';obtain rfl:u=Value.bool true:=r';have old:∀b o,c.heap.get? b=some o->asItWas c.heap s'.heap b o:=λb o e=>by
     cases q:H b with
     |none=>exact .inl (un.keep b o e q (by intro z;exact absurd (show b∈([]:List Ad)from z) (by simp)) (by simp))
     |some u=>
      rcases hO b with z|z|⟨ob,xs,z⟩
      .rw[q]at z;cases z
      .subst z;obtain⟨more,hm⟩:=un.tbls _ _ C;rw[A]at e;cases e;exact .inr (.inl ⟨N,rfl,ps,more,rfl,(l _ _ hm)⟩)
      .have z2:=un.frzs b ob _ z;obtain⟨e1,_⟩:=hok b _ z;obtain⟨e2,_⟩:=l b _ z2;rw[e]at e1;cases e1;exact .inl e2
    refine⟨rfl,⟨old,λb o e=>?_⟩,os,bare⟩;rcases old b o e with z|⟨_,_,_,_,_,z⟩|⟨_,_,⟨o',_,_,z,_⟩,_⟩
    .exact⟨_,z⟩
    .exact⟨_,z⟩
    .exact⟨_,z⟩
 cases hk:K.lookup a with
 |some o=>
  have e:=Z a o hk;rw[ha]at e;cases e;refine core (λb=>if b=T then some (.tbl ps)else none) (λb=>?_) (if_pos rfl) (.inr ⟨_,vs.toArray,_,hk,rfl,rfl,rfl,by rw[zM1,hi.length];exact hl,by simpa using rv⟩) (λb u z=>?_) (λb z=>?_) λz=>absurd (if_neg D) z
  .by_cases h:b=T
   .exact .inr (.inl h)
   .exact .inl (if_neg h)
  .by_cases h:b=T
   .have i:=(if_pos h).symm.trans z;cases i;subst h;exact A
   .have i:=(if_neg h).symm.trans z;cases i
  .by_cases h:b=T
   .exact .inr h
   .exact absurd (if_neg h) z
 |none=>
  refine core (λb=>if b=T then some (.tbl ps)else if b=a then some (.frz {cls:=.type "list",data:=.seq vs.toArray} (.lst (ns.map V.int)))else none) (λb=>?_) (if_pos rfl) (.inl (.inr ⟨{cls:=.type "list",data:=.seq vs.toArray},(if_neg D).trans (if_pos rfl)⟩)) (λb u z=>?_) (λb z=>?_) λ_=>hk
  .by_cases h:b=T
   .exact .inr (.inl h)
   .by_cases hb:b=a
    .exact .inr (.inr ⟨_,_,(if_neg h).trans (if_pos hb)⟩)
    .exact .inl ((if_neg h).trans (if_neg hb))
  .by_cases h:b=T
   .have i:=(if_pos h).symm.trans z;cases i;subst h;exact A
   .have z:=(if_neg h).symm.trans z;by_cases hb:b=a
    .have i:=(if_pos hb).symm.trans z;cases i;subst hb;exact⟨ha,by rw[zK3];exact hl,vs,_,rv,ha⟩
    .have i:=(if_neg hb).symm.trans z;cases i
  .by_cases h:b=T
   .exact .inr h
   .by_cases hb:b=a
    .exact .inl hb
    .exact absurd ((if_neg h).trans (if_neg hb)) z
def hG {l:PySem.W.OpenLaw}{n k:Nat}{q:Ah}{loose:List Str}{J:(Str->Option Ab)->An->Prop}{A:Ak->An->Prop}{d:DefRec}{K:Params->Ae}{CX:Ak->CXT}{sp:Ak->Sp}{x:Str}{T c:Ad}{ps:Array Ab}
  (hn:l.most=some n) (y:n<=sizeLine) (hdf:d.params.defaults=[]) (hr:zB k callerA)
  (M:∀(w:Ak) (h:An),A w h->(K w.params).In h) (D:∀(w:Ak) (h:An),A w h->h.get? T=some (PySem.W.tabObj ps))
  (r:∀w:Ak,(K w.params).lookup T=none) (m:∀w:Ak,∃o vs,(K w.params).lookup c=some o/\o.cls=.type "code"/\o.data=.fields vs/\vs[11]?=some (.ref T))
  (F:∀(w:Ak) (mg:Str->Option Ab) (p:Ad) (h:An),(K w.params).In h->h.Ns Ai mg->mg d.name=some (.ref p)->
   ∃fd:Ao,(∀(s:Ac) (u:Ab),BindsTo s fd ⟨[u],[]⟩ [(x,u)])/\
    ∀base:An,(K w.params).In base->base.Ns Ai mg->base.BuiltinsAt mg T->zS l.prog w (K w.params) mg base (CX w) k p fd [x] (sp w))
  (z:∀(w:Ak) (H:Hp) (a:Ad) (ns:List Int),ns.length<=n->kd T H->H T=some (.tbl ps)->SqL (K w.params) H a (ns.map V.int)->sp w [.ref a] H (λv _=>v=.bl true) λ_ _ _=>False)
  (C:∀(w:Ak) (H:Hp) (s:Ac) (e:Ab) (s':Ac),CX w [] H s (λ_ _ _=>False) e s'->False):
  PySem.W.WalkO q loose J A l.row.toRowW d [] (λf vs=>PySem.call f vs):=by
 refine Att.attach_call hn hdf λw s₀ i mg mb p o pm cd doc a vs ns G Y R hd I B j hints hlen hg=>?_;have t:=M w _ Y;obtain⟨oc,cv,E,t3,O,N⟩:=m w;obtain⟨fd,hb,hF⟩:=F w mg p _ t G.T.g B;exact iE t G.T.g G.T.b G.T.builtins G.T.nolimit hg j hints (zL8 hlen y) hr (D w _ Y) (r w) ⟨c,oc,cv,t _ _ E,t3,O,N⟩ G.T.bmain hF hb (λH L Q P=>z w H a ns hlen L Q P) λH e s'=>C w H i e s'
def TabAt.same {H H':Hp}(T:TabAt H)(h:∀a o,(∀xs,o≠.lst xs)->H a=some o->H' a=some o):TabAt H':=tG T h
section
variable {X:Cx}{pins:List (Ad×Obj)}{σ:St}{H:Hp}{s:Ac}{h':An}
def Inv.tblMore {t':Nat}{p:Ad}{ps more:Array Ab}{H':Hp}(I:Inv X pins σ H s)(h:H p=some (.tbl ps))(k:∀b u,b≠p->s.heap.get? b=some u->h'.get? b=some u)(e:h'.get? p=some (PySem.W.tabObj (ps++more)))
  (g:H' p=some (.tbl (ps++more))) (a:∀b,b≠p->b<s.heap.objs.size->H' b=H b) (new:∀b o,s.heap.objs.size<=b->H' b=some o->yr X.prog X.w H' h' b o):
  Inv X pins σ H' {s with heap:=h',toks:=t'}:=by
 have ne:∀b,H b=none->b≠p:=λb n z=>by rw[z,h]at n;cases n
 have nt:∀b o,H b=some o->(∀d,o≠.tbl d)->b≠p:=λb o q n z=>by rw[z,h]at q;cases q;exact n _ rfl
 have lt:∀b o,H b=some o->b<s.heap.objs.size:=λb o q=>by
  rcases zQ1 b s.heap.objs.size with z|z
  .exact z
  .rw[I.hok.fresh z]at q;cases q
 have st:∀b o,H b=some o->(∀d,o≠.tbl d)->H' b=some o:=λb o q n=>by rw[a b (nt b o q n) (lt b o q)];exact q
 refine I.un ⟨λb o q n _ _=>k b o (ne b n) q,λb o q n _ _=>⟨o.slots,k b o (ne b n) q⟩,λb o q n _=>by rw[a b (ne b n) (zL0 q)];exact n,λb o q _=>?_,λb xs q=>st b _ q (λ_ z=>by cases z),λb o u q=>st b _ q (λ_ z=>by cases z),λb d q=>?_⟩ λb u q=>?_
 .by_cases z:b=p
  .exact⟨_,by rw[z];exact e⟩
  .exact⟨o,k b o z q⟩
 .by_cases z:b=p
  .subst z;rw[h]at q;cases q;exact⟨more,g⟩
  .exact⟨#[],by rw[a b z (lt b _ q),q];simp⟩
 .by_cases z:b=p
  .subst z;rw[g]at q;cases q;exact e
  .rcases zQ1 b s.heap.objs.size with l|l
   .rw[a b z l]at q;refine(I.hok b u q).stay (λc v f r=>k c v (λw=>?_) r) (λc r=>st c _ r λ_ z=>by cases z) λc xs r=>st c _ r λ_ z=>by cases z
    subst w;rcases f with rfl|f
    .exact z rfl
    .rw[h]at f;cases f
   .exact new b u l q
def ip (f c:Ad)(qual:Str)(params:Arguments)(body:Am)(scope:Aq)(a:List (Str×Ad)):HO:=
 .ext λh=>∃(pm ctv:Ab),h.get? f=some (PySem.W.kla_obj "<lambda>" qual params body scope a pm c ctv)
def br {P:Ah}{w:Ak}{H:Hp}{h:An}{c:Ad}(r:h.CodeRec (.ref c) xS):yr P w H h c (uB c):=by
 refine⟨r,?_,λd e p k=>?_⟩
 .obtain⟨c',o,vs,t,e1,a,_⟩:=r;cases e1;exact⟨o,a⟩
 .obtain⟨c',o,vs,t,e1,a,b⟩:=p;cases e1;exact⟨c,o,vs,t,rfl,k _ a,b⟩
def gg {P:Ah}{w:Ak}{H:Hp}{h:An}{f c:Ad}{qual:Str}{params:Arguments}{body:Am}{scope:Aq}{a:List (Str×Ad)}{pm ctv:Ab}(r:h.get? f=some (PySem.W.kla_obj "<lambda>" qual params body scope a pm c ctv)):yr P w H h f (ip f c qual params body scope a):=
 ⟨⟨pm,ctv,r⟩,⟨_,r⟩,λg i e k=>by obtain⟨d,b,p⟩:=e;exact⟨d,b,k _ p⟩⟩
theorem nP {pos:Pos}{a b:Int}{c cv:Ab}(l:List Ab):TriplesOk l->codeAmong pos (l++[rawInt a,rawInt b,c])=some cv->codeAmong pos l=some cv\/cv=c:=by
 induction l using TriplesOk.induct with
 |case1=>
  intro _ h;rw[zV5,rawInt,rawInt,codeAmong.eq_1]at h;split at h
  .cases h;exact .inr rfl
  .rw[codeAmong.eq_2 _ _ (by intro _ _ _ _ _ _ z;cases z)]at h;cases h
 |case2 i t j u d rest g=>
  intro ok h;rw[TriplesOk.eq_2]at ok;rw[z08,z08,z08,codeAmong.eq_1]at h;rw[codeAmong.eq_1];split at h
  .rename_i z;rw[if_pos z];exact .inl h
  .rename_i z;rw[if_neg z];exact g ok h
 |case3 t e f=>
  intro ok;rw[TriplesOk.eq_3 t e f]at ok;exact ok.elim
theorem de {params:Arguments}{body:Am}{scope:Aq}{i:Pos}{g:List (Str×Ad)}{c:Ad}(I:Inv X pins σ H s)(hcl:closureFor scope X.env=pure g)(hgl:X.env.globals=Ai)(hco:X.env.code=.ref c)(hhd:PySem.W.CodeHd X.base c zZ)
  (hbi:X.base.BuiltinsAt X.mg zZ) (hdf:defaultsOf params X.env=([],[])) (hq:X.env.qual++("<lambda>":Str)=xS) (hne:Ai≠zZ) (T:TabAt H) {Q:Ab->Ac->Prop}
  (h:∀(f c':Ad) (H':Hp) (s':Ac),Inv X pins σ H' s'->TabAt H'->(∀a o,a≠zZ->H a=some o->H' a=some o)->(∀a ps,H a=some (.tbl ps)->∃y,H' a=some (.tbl y))->H f=none->H' f=some (ip f c' xS params body scope g)->H' c'=some (uB c')->Q (.ref f) s'):
  Aj (Ag X.prog X.w) X.A (eval (.Lambda params body scope i) X.env) Q X.xe s:=by
 refine PySem.W.kla_eval hdf ?_;rw[hq];obtain⟨ps,t1,C,t3⟩:=T.ex;have D:=I.hok _ _ t1;have hb:∀b o,X.base.get? b=some o->s.heap.get? b=some o:=λb o e=>(I.bs b o e).1;have n:PySem.W.CodeHd s.heap c zZ:=by
  obtain⟨o,vs,f1,f2,U,f4,f5,f6,S,e1,j⟩:=hhd;exact⟨o,vs,f1,f2,U,f4,f5,f6,S,hb _ _ e1,j⟩
 have m:s.heap.BuiltinsAt X.mg zZ:=by
  obtain⟨bm,o,e1,j,F,e4,Y,P⟩:=hbi;exact⟨bm,o,e1,j,F,e4,hb _ _ Y,P⟩
 have v:s.heap.Ns Ai X.mg:=by
  obtain⟨o,es,ep,e,d,r⟩:=I.ok.mod.glob;exact⟨o,es,ep,hb _ _ e,d,r⟩
 cases hc:codeAmong i ps.toList with
 |none=>
  refine PySem.W.kla_makeFunction hcl hgl v hco n D C hc hne m λc' ctv h' M ex l1 l2 cr Z=>?_;have q:=zL0 D;have lf:=zQ0 (zM6 l1 l2)
  let p:Hp:=upd (upd (upd H h'.objs.size (ip h'.objs.size c' xS params body scope g)) c' (uB c')) zZ (.tbl (ps++#[rawInt ↑i.line,rawInt ↑i.col,Value.ref c']))
  have E:p zZ=some (.tbl (ps++#[rawInt ↑i.line,rawInt ↑i.col,Value.ref c'])):=zl;have eC:p c'=some (uB c'):=by show upd _ _ _ _=_;rw[zj (zT2 (zK5 q l1)),zl]
  have O:p h'.objs.size=some (ip h'.objs.size c' xS params body scope g):=by show upd _ _ _ _=_;rw[zj (zT2 (zK5 q lf)),zj (zL9 l2).symm,zl]
  have old:∀b,b≠zZ->b<s.heap.objs.size->p b=H b:=λb nb B=>by
   show upd _ _ _ _=_;rw[zj nb,zj (zL9 (zK5 B l1)),zj (zL9 (zK5 B lf))]
  have R:Inv X pins σ p {s with heap:=h'.push (PySem.W.kla_obj "<lambda>" xS params body scope g ((X.mg "__name__").getD Value.none) c' ctv),toks:=M}:=by
   refine I.tblMore t1 (λb u nb e=>zK1 _ (ex b u nb e)) (zK1 _ Z) E old λb o B e=>?_;by_cases N:b=h'.objs.size
   .subst N;rw[O]at e;cases e;exact gg (zL2 _ rfl)
   .by_cases G:b=c'
    .subst G;rw[eC]at e;cases e;obtain⟨J,o,vs,t,e1,j,F⟩:=cr;cases e1;exact br ⟨_,o,vs,t,rfl,zK1 _ j,F⟩
    .have nb:b≠zZ:=λz=>absurd B (Nat.not_le_of_lt (z▸q));have e':p b=H b:=by show upd _ _ _ _=_;rw[zj nb,zj G,zj N]
     rw[e',I.hok.fresh B]at e;cases e
  have stay:∀a o,a≠zZ->H a=some o->p a=some o:=λa o no e=>by
   have V:a<s.heap.objs.size:=by
    rcases zQ1 a s.heap.objs.size with z|z
    .exact z
    .rw[I.hok.fresh z]at e;cases e
   rw[old a no V];exact e
  refine h _ c' p _ R ⟨_,E,?_,λpos cv x=>?_⟩ stay (λa y e=>?_) (I.hok.fresh lf) O eC
  .rw[zO3];exact TriplesOk_snoc _ _ _ _ C
  .rw[zO3]at x;rcases nP _ C x with z|z
   .obtain⟨J,rfl,j⟩:=t3 _ _ z;exact⟨J,rfl,stay _ _ (λz=>by rw[z,t1]at j;cases j) j⟩
   .exact⟨c',z,eC⟩
  .by_cases L:a=zZ
   .exact⟨_,by rw[L];exact E⟩
   .refine⟨y,?_⟩;rw[old a L (by
     rcases zQ1 a s.heap.objs.size with z|z
     .exact z
     .rw[I.hok.fresh z]at e;cases e)]
    exact e
 |some cv=>
  obtain⟨c',rfl,K⟩:=t3 _ _ hc;refine PySem.W.kla_makeFunctionHit hcl hgl v hco n D C hc m λctv h' M k l=>?_;have hf:=I.hok.fresh l;have k2:∀b u,s.heap.get? b=some u->(h'.push (PySem.W.kla_obj "<lambda>" xS params body scope g ((X.mg "__name__").getD Value.none) c' ctv)).get? b=some u:=λb u e=>zK1 _ (k b u e);have n1:∀a o,H a=some o->a≠h'.objs.size:=λa o e z=>by rw[z,hf]at e;cases e
  refine h _ c' _ _ (I.laid k2 l (gg (zL2 _ rfl))) (T.same λa o _ e=>by rw[zj (n1 a o e)];exact e) (λa o _ e=>by rw[zj (n1 a o e)];exact e) (λa y e=>⟨y,by rw[zj (n1 a _ e)];exact e⟩) hf zl ?_;rw[zj (n1 _ _ K)];exact K
end
structure xJ (x y:Str)(params:Arguments)(scope:Aq):Prop where
 kind:scope.kind=.function
 co:scope.isCoroutine=false
 gen:scope.isGenerator=false
 px:scope.names.lookup x=some .local
 py:scope.names.lookup y=some .free
 nocell:∀z∈scope.names,z.2≠NameKind.cell
 only:∀z∈scope.names,z.2=NameKind.free->z.1=y
 ne:x≠y
def oK (P:Ah)(w:Ak)(K:Ae)(mg:Str->Option Ab)(base:An)(x y:Str)(scope:Aq)(f c cl:Ad)(A:Al)(outer:List Ar)(s:Ac)(H:Hp):Cx where
 prog:=P
 w:=w
 K:=K
 mg:=mg
 base:=base
 A:=A.deeper (PySem.W.envX xS scope s.heap.objs.size f (.ref c) [(y,cl)])
 N:=[x,y]
 s₀:=s
 H₀:=H
 env:=PySem.W.envX xS scope s.heap.objs.size f (.ref c) [(y,cl)]
 outer:=outer
 stack:=PySem.W.envX xS scope s.heap.objs.size f (.ref c) [(y,cl)]::outer
 ex:=[]
 calm:=true
 fn:=λ_=>false
 pn:=[]
 xe:=λ_ _=>False
def iO {P:Ah}{w:Ak}{K:Ae}{mg:Str->Option Ab}{base:An}{x y:Str}{params:Arguments}{scope:Aq}{f c cl:Ad}{A:Al}{outer:List Ar}{s:Ac}{H:Hp}{h':An}{D:Nat}{v l:V}{u ul:Ab}
  (S:xJ x y params scope) (hd:A.handled=none) (m:vR P w K mg base A outer s H) (B:RelV v u) (F:RelV l ul) (hcl:s.heap.IsCell cl (some ul)) (t:H cl=none)
  (ns:h'.Ns s.heap.objs.size λz=>[(x,u)].reverse.lookup z) (k:∀b o,s.heap.get? b=some o->h'.get? b=some o):
  Inv (oK P w K mg base x y scope f c cl A outer s H) [] [some v,some l] H {s with heap:=h',toks:=D}:=by
 have r:∀b:Ad,b∉(oK P w K mg base x y scope f c cl A outer s H).ex:=λb z=>absurd (show b∈([]:List Ad)from z) (by simp);have one:∀z d,(oK P w K mg base x y scope f c cl A outer s H).env.cells.lookup z=some d->z=y/\d=cl:=λz d h=>by
  have h:List.lookup z [(y,cl)]=some d:=h;rw[zQ8]at h;split at h
  .rename_i e;cases h;exact⟨eq_of_beq e,rfl⟩
  .cases h
 have hit:(oK P w K mg base x y scope f c cl A outer s H).env.cells.lookup y=some cl:=by
  show List.lookup y [(y,cl)]=some cl;simp[zQ8]
 have j:h'.IsCell cl (some ul):=by
  obtain⟨o,e1,C⟩:=hcl;exact⟨o,k _ _ e1,C⟩
 refine⟨⟨m.mod,S.kind,rfl,rfl,zK6 _,λa b d g n=>(one a d g).1.trans (one b d n).1.symm,λz q=>?_,λz d hf _=>?_,λ_=>hd,Around.frames_deeper m.frames,.inr ⟨rfl,rfl⟩,λb z=>absurd z (r b),m.bs,m.bsz,λb _ _=>r b,λb z=>absurd z (r b),m.funs,m.frf⟩,
  rfl,m.bare,Un.kept k,⟨_,ns,λi z G g n I=>?_⟩,λz d h=>?_,m.hok.fresh (zK6 _),λz d h=>?_,λp E=>absurd (show p∈([]:List (Ad×Obj))from E) (by simp),m.hok.kept k,rfl⟩
 .have q:=q;rcases q with q|q
  .exact absurd rfl (S.nocell _ (zR0 q))
  .have:z=y:=S.only _ (zR0 q) rfl;subst this;exact⟨cl,hit⟩
 .exact absurd (hf) zM7
 .have g:([x,y]:List Str)[i]?=some z:=g
  match i,g,n with
  |0,g,n=>
   cases g;cases n;exact⟨u,B,.inl ⟨S.px,by simp[zQ8]⟩⟩
  |1,g,n=>
   cases g;cases n;exact⟨ul,F,.inr ⟨.inr S.py,cl,hit,j⟩⟩
  |i+2,g,n=>simp at g
 .obtain⟨rfl,rfl⟩:=one z d h;exact⟨_,j⟩
 .obtain⟨rfl,rfl⟩:=one z d h;exact t
def aW {P:Ah}{w:Ak}{K:Ae}{mg:Str->Option Ab}{base:An}{x y:Str}{params:Arguments}{body:Am}{scope:Aq}{f c cl:Ad}{A:Al}{outer:List Ar}{s:Ac}{H:Hp}{v l:V}{u ul:Ab}{k:Nat}{Q:VK}{t:TE}
  (S:xJ x y params scope) (hr:zB k A) (a:vR P w K mg base A outer s H) (hf:H f=some (ip f c xS params body scope [(y,cl)])) (r:H c=some (uB c)) (hcl:s.heap.IsCell cl (some ul)) (g:H cl=none) (j:RelV v u) (C:RelV l ul)
  (hb:∀pm ctv,bindArgs (PySem.W.kla_fn "<lambda>" xS params body scope [(y,cl)] pm (.ref c) ctv) ⟨[u],[]⟩=pure [(x,u)])
  (p:PE (oK P w K mg base x y scope f c cl A outer s H) body t) (hq:t [some v,some l] H Q):
  codeAny (Ag P w) A (.call (.ref f) ⟨[u],[]⟩) (CR CX0 outer P w H s Q E0) s:=by
 obtain⟨⟨pm,ctv,i⟩,_,_⟩:=a.hok _ _ hf;refine PySem.W.kla_callFunE hr.depth i rfl S.co S.gen rfl ((a.hok _ _ r).1) ?_;rw[hb];refine zK2 ?_;refine wpAny_newFunctionEnv S.nocell (λz m=>?_) (λh' ns sb=>?_) S.kind
 .rw[zN1.mp m];exact S.px
 .have h:∀b o,s.heap.get? b=some o->h'.get? b=some o:=λb o e=>sb.extBut b o (zL9 (zL0 e)) (zK1 _ e);refine⟨(a.mod.nolimit.keeps λb o e=>(a.bs b o e).1).keeps h,PySem.W.kla_codeExpr ?_⟩;refine zO9 (p [] _ _ H _ (iO S hr.hd a j C hcl g ns h) hq) (λD s' d=>?_) λe s' d=>d.elim;obtain⟨B,H',J,n,q⟩:=d;exact⟨B,H',J.os,J.bare,J.base,J.hok,n,q⟩
open PySem.W SortA
section
variable {X:Cx}{pins:List (Ad×Obj)}{σ:St}{H:Hp}{s:Ac}
def dE (X:Cx)(H1 a:Hp)(s1 s2:Ac):Prop:=∀b o,s1.heap.get? b=some o->H1 b=none->b∉frs X.stack->s2.heap.get? b=some o/\a b=none
structure dC (X:Cx)(pins:List (Ad×Obj))(σ:St)(H:Hp)(D kS:Ad)(e1:Nat)(ps:List (Int×Int))(i:Nat)(s':Ac):Prop where
 ex:∃(H':Hp) (ks:List Ab) (xs:List V) (e:Nat),Inv X pins σ H' s'/\(∀a o,H a=some o->H' a=some o)/\s'.heap.get? D=some (seqObj "list" #[] e1)/\s'.heap.get? kS=some (seqObj "list" ks.toArray e)/\H' D=none/\H' kS=none/\Vals xs ks/\PrV H' xs (ps.take i)
def jo {A:Al}{E:Ab->Ac->Prop}{vs:List Ab}{ps:List (Int×Int)}{f D kS:Ad}{e1:Nat}{Q:PUnit->Ac->Prop}(hlen:vs.length=ps.length)(U:vs.length<64)(Z:D∉frs X.stack)(O:kS∉frs X.stack)(hne:D≠kS)
  (R:∀H',H' kS=none->yO X pins H' kS)
  (d:∀i v,vs[i]?=some v->∀H1 s1,Inv X pins σ H1 s1->(∀a o,H a=some o->H1 a=some o)->
   Aj (Ag X.prog X.w) A (call (.ref f) [v]) (λu s2=>∃t c,u=.ref t/\Inv X pins σ c s2/\(∀a o,H1 a=some o->c a=some o)/\c t=some (.tup [.int (at2 ps i).1,.int (at2 ps i).2])/\dE X H1 c s1 s2) (λ_ _=>False) s1)
  (h0:dC X pins σ H D kS e1 ps 0 s) (T:∀s',dC X pins σ H D kS e1 ps vs.length s'->Q PUnit.unit s'):
  Aj (Ag X.prog X.w) A (forIn vs PUnit.unit λx __s=>do
   let __do_lift <-(call (.ref f) [x]).attempt
   match __do_lift with
    |Except.ok k=>do
     Builtin.List.listUpdate (.ref kS) λx=>x.push k
     pure (ForInStep.yield PUnit.unit)
    |Except.error e=>do
     rule "list.sort.key-raised"
     let made <-Builtin.List.listItems (.ref kS)
     Builtin.List.listUpdate (.ref kS) λx=>#[]
     letGo made.toList.reverse [e]
     Builtin.List.listUpdate (Value.ref D) λx=>vs.toArray
     throw e
     pure (ForInStep.yield PUnit.unit)) Q E s:=by
 refine ksk_fold (dC X pins σ H D kS e1 ps) vs 0 s h0 (λj x s' J C=>?_) (λs' C=>T s' (by simpa using C));obtain⟨H1,ks,xs,e,M,st,N,Y,W,y,I,pr⟩:=C.ex;rw[Nat.zero_add]at pr ⊢;have g:j<ps.length:=by rw[<-hlen];exact(zK7.mp J).1
 have h:ks.length=j:=by rw[<-I.length,pr.len,zR4];lia
 refine zK0 (zT6 (zO9 (d j x J H1 s' M st) (λu s2 L=>?_) λ_ _ z=>z.elim));obtain⟨t,c,rfl,S,n,K,kp⟩:=L;obtain⟨F,r⟩:=kp D _ N W Z;obtain⟨m,l⟩:=kp kS _ Y y O;refine zK0 (z25 m rfl (zK2 ⟨rfl,?_⟩) (by rw[zM1,h,zP9];lia) (by rw[Array.size_push,zM1,h,zP9];lia));obtain⟨B,hk⟩:∃B,(s2.heap.update kS (Obj.mapSeq λx=>x.push (Value.ref t))).get? kS=some (seqObj "list" (ks++[Value.ref t]).toArray B):=by
  have:=zV7 m λx=>x.push (Value.ref t);rw[List.push_toArray]at this;exact⟨_,this⟩
 have G:∀b o,b∉[kS]->s2.heap.get? b=some o->(s2.heap.update kS (Obj.mapSeq λx=>x.push (Value.ref t))).get? b=some o:=λb o nb q=>(zM0 _ _ (zP2 (by simpa using nb))).trans q;refine⟨c,ks++[Value.ref t],xs++[V.ref t],B,S.turnL G (λb hb=>by rw[zN1.mp hb];exact R c l),λa o q=>n a o (st a o q),G D _ (by simpa using hne) F,hk,r,l,I.append (.cons rfl .nil),?_⟩;rw[zW5,zK4 g];refine PrV.app (pr.keep λa p q z=>n _ _ z) ?_;have P:at2 ps j=ps[j]:=by unfold at2;rw[zL4,zK4 g];rfl
 rw[P]at K;exact .cons K .nil
def mW {A:Al}{E:Ab->Ac->Prop}{vs:List Ab}{ps:List (Int×Int)}{f D:Ad}{n:Nat}{W:PySem.Fin->Ac->Prop}(I:Inv X pins σ H s)(P:s.heap.get? D=some (seqObj "list" vs.toArray n))(hlen:vs.length=ps.length)(k:vs.length<64)(fD:H D=none)
  (nD:D∉frs X.stack) (G:∀H',H' D=none->yO X pins H' D)
  (C:∀i v,vs[i]?=some v->∀H1 s1,Inv X pins σ H1 s1->(∀a o,H a=some o->H1 a=some o)->
   Aj (Ag X.prog X.w) A (call (.ref f) [v]) (λu s2=>∃t O,u=.ref t/\Inv X pins σ O s2/\(∀a o,H1 a=some o->O a=some o)/\O t=some (.tup [.int (at2 ps i).1,.int (at2 ps i).2])/\dE X H1 O s1 s2) (λ_ _=>False) s1)
  (h:∀out H' s' c,Srt vs ps out->Inv X pins σ H' s'->(∀a o,H a=some o->H' a=some o)->s'.heap.get? D=some (seqObj "list" out.toArray c)->H' D=none->W (.done (.ret .none)) s'):
  Aj (Ag X.prog X.w) A (ksk_tree D (.ref f) false) W E s:=by
 have s1:=zX0 s.heap D (Obj.mapSeq λ_=>(#[]:Array Ab));obtain⟨e1,B⟩:∃e1,(s.heap.update D (Obj.mapSeq λ_=>(#[]:Array Ab))).get? D=some (seqObj "list" #[] e1):=⟨_,zV7 P λ_=>#[]⟩;have r:(s.heap.update D (Obj.mapSeq λ_=>(#[]:Array Ab))).objs.size=s.heap.objs.size:=z52 _ _ _;unfold ksk_tree;refine zK0 (listItems_at P rfl ?_);refine zK0 (z25 P rfl ?_ (by rw[zM1,zP9];exact iG k) (zL6 _));generalize a5:s.heap.update D (Obj.mapSeq λ_=>(#[]:Array Ab))=h1 at s1 B r;refine zK0 (seqEpoch_at B rfl ?_);refine zK0 (z42 ?_ (by show vs.length<=_;rw[zP9];exact iG k));refine zK0 (wpAny_newList (zP3 ?_) (zL6 _));have F:(h1.push (seqObj "tuple" vs.toArray 0)).objs.size=s.heap.objs.size+1:=by rw[size_push',r]
 have y:((h1.push (seqObj "tuple" vs.toArray 0)).push (seqObj "list" #[] 0)).get? (h1.push (seqObj "tuple" vs.toArray 0)).objs.size=some (seqObj "list" #[] 0):=zL2 _ rfl;have M:((h1.push (seqObj "tuple" vs.toArray 0)).push (seqObj "list" #[] 0)).get? D=some (seqObj "list" #[] e1):=zK1 _ (zK1 _ B);have k1:∀b o,b∉[D]->s.heap.get? b=some o->((h1.push (seqObj "tuple" vs.toArray 0)).push (seqObj "list" #[] 0)).get? b=some o:=λb o hb e=>
  zK1 _ (zK1 _ ((s1.2 b (by simpa using hb)).trans e))
 have I0:Inv X pins σ H {s with heap:=(h1.push (seqObj "tuple" vs.toArray 0)).push (seqObj "list" #[] 0),toks:=s.toks}:=I.turnL k1 λb hb=>by rw[zN1.mp hb];exact G H fD
 generalize (h1.push (seqObj "tuple" vs.toArray 0)).push (seqObj "list" #[] 0)=S at y M k1 I0;generalize a0:(h1.push (seqObj "tuple" vs.toArray 0)).objs.size=kS at F y;have J:s.heap.objs.size<=kS:=by rw[F];exact zT4 _
 have fK:∀H',H' kS=none->yO X pins H' kS:=λH' hn=>I.fpOk J hn;have nK:(kS:Ad)∉frs X.stack:=λz=>by
  rcases zK8.mp (I.stkSub _ z)with q|q
  .exact(I.fpOk (H':=λ_=>none) J rfl).2.1 q
  .exact(I.fpOk (H':=λ_=>none) J rfl).2.2.1 q
 have hne:=zL9 (zK5 (zL0 P) J);unfold ksk_rest;refine zK0 (zT9 ?_);rw[z70];refine zK0 (jo (s:={s with heap:=S}) hlen k nD nK hne fK C ⟨H,[],[],0,I0,λ_ _ q=>q,M,y,fD,(I.hok.fresh J),.nil,.nil⟩ λs' hI=>?_);obtain⟨H1,ks,xs,e,I1,st,eD,eK,K,V,rv,pr⟩:=hI.ex;rw[hlen,zT3]at pr;have j:ks.length=vs.length:=by rw[<-rv.length,pr.len,hlen]
 refine zK0 (listItems_at eK rfl ?_);unfold ksk_end;dsimp only;rw[if_neg (by decide)];have tail:∀(st':SortSt) (out:List Ab),out.length<=64->Srt vs ps out->failedOf st'=none->(arrOf st').map (·.2)=out.toArray->Aj (Ag X.prog X.w) A (ksk_tail D false e1 (.ref kS) st') W E s':=by
  intro st' out lo so hf L;unfold ksk_tail;dsimp only;rw[L,hf];refine zK0 (z25 eK rfl ?_ (by rw[zM1,j,zP9];exact iG k) (zL6 _));have s3:=zX0 s'.heap kS (Obj.mapSeq λ_=>(#[]:Array Ab));have m:=(s3.2 D hne).trans eD;have Z:Inv X pins σ H1 {s' with heap:=s'.heap.update kS (Obj.mapSeq λ_=>(#[]:Array Ab)),toks:=s'.toks}:=I1.turnL (ch:=[kS]) (λb o hb q=>(s3.2 b (by simpa using hb)).trans q) λb hb=>by rw[zN1.mp hb];exact fK H1 V
  generalize s'.heap.update kS (Obj.mapSeq λ_=>(#[]:Array Ab))=h3 at m Z;refine zK0 (wpAny_letGo (zK0 (seqEpoch_at m rfl ?_)));rw[if_neg (by decide)];refine zK0 (z25 m rfl ?_ (zL6 _) (by rw[zM1,zP9];lia));obtain⟨Y,T⟩:∃Y,(h3.update D (Obj.mapSeq λ_=>out.toArray)).get? D=some (seqObj "list" out.toArray Y):=⟨_,zV7 m λ_=>out.toArray⟩;simp only[bne_self_eq_false,zV2,z38];have I4:=Z.turnL (ch:=[D]) (t':=s'.toks) (λb o hb q=>((zX0 h3 D (Obj.mapSeq λ_=>out.toArray)).2 b (by simpa using hb)).trans q) λb hb=>by rw[zN1.mp hb];exact G H1 K
  exact zK2 (h out H1 _ Y so I4 st T K)
 by_cases g:vs.toArray.size<2
 .rw[if_pos g,if_pos g];have N:vs.length<2:=by simpa using g
  refine zK0 (zK2 (zK0 (zK2 ?_)));dsimp only;have so:Srt vs ps vs:=by
   match vs,ps,N,hlen with
   |[],[],_,_=>exact⟨[],rfl,rfl,λ_ h=>by simp at h,.refl _,.nil⟩
   |[v],[p],_,_=>exact⟨[0],rfl,rfl,λi h=>by simp at h;subst h;simp,.refl _,by simp⟩
   |_::_::_,_,N,_=>simp only[zN0]at N;exact(zF3 N).elim
  refine tail _ vs (by lia) so rfl ?_;rw[if_neg (by decide)];apply Array.toList_inj.mp;rw[Array.toList_map,Array.toList_zip];exact List.map_snd_zip (zM9 j.symm)
 .rw[if_neg g,if_neg g,if_neg (by decide)];have S:2<=vs.length:=by simp at g;exact g
  have ask:=mR (prog:=X.prog) (w:=X.w) (A:=A) (by rw[j];exact S) (pr.prs I1 rv)
   (R:=λp l=>Srt vs ps (p.toList.map λi=>vs.getD i Value.none)/\l=s') (λix a b c d=>⟨⟨ix,by simp,a,b,c,d⟩,rfl⟩)
  refine zK0 (zO9 ask (λκ s0 hk=>?_) λ_ _ x=>x.elim);rw[j]at hk;refine zK0 (zO9 (kat_run (Q:=λst' l=>∃p:Array Nat,p.size=vs.length/\arrOf st'=p.map (kas_item (ks.toArray.zip vs.toArray))/\failedOf st'=none/\Srt vs ps (p.toList.map λi=>vs.getD i Value.none)/\l=s')
   j S k (λp' st' l a1 a2 a3 a4=>⟨p',a1,a2,a3,a4⟩) hk) ?_ λ_ _ e=>e)
  rintro⟨⟨⟩,st'⟩ l ⟨p,hp,U,hf,so,rfl⟩;dsimp only;exact tail st' _ (by rw[so.len,<-hlen];exact zQ0 k) so hf (kat_snds j U)
end
section
variable {X:Cx}{pins:List (Ad×Obj)}{σ:St}{H:Hp}{s:Ac}
def Inv.adopt {D:Ad}{o:HO}(I:Inv X pins σ H s)(fp:yO X pins H D)(new:yr X.prog X.w (upd H D o) s.heap D o):Inv X pins σ (upd H D o) s:=by
 have st:∀b u,H b=some u->upd H D o b=some u:=λb u e=>by rw[zj (zm e fp.1)];exact e
 have:=I.step (t':=s.toks) (d':=s.drawn) (λb hb=>by rw[zN1.mp hb];exact⟨fp.2.2.2.1,fp.2.1,fp.2.2.2.2.1,fp.2.2.2.2.2⟩) (λb u _ _ _ e _=>e) (λb u _ _ _ e _=>⟨u.slots,e⟩) (λb u hb e n=>by rw[zj (by simpa using hb)];exact n)
  (λb u _ e=>⟨u,e⟩) (λb xs e=>st b _ e) (λb u xs e=>st b _ e) (λb ps e=>⟨#[],by rw[st b _ e];simp⟩) (λm hm=>hm) (λb u e=>?_) I.bare
 .exact this
 .by_cases hb:b=D
  .subst hb;rw[zl]at e;cases e;exact new
  .rw[zj hb]at e;exact(I.hok b u e).stay (λc v _ q=>q) (λc q=>st c _ q) λc xs q=>st c _ q
def qQ {A:Al}{E:Ab->Ac->Prop}{l f:Ad}{vs:List Ab}{ps:List (Int×Int)}{Q:Ab->Ac->Prop}(I:Inv X pins σ H s)(y:s.heap.IsList l vs.toArray)(hlen:vs.length=ps.length)(d:vs.length<64)
  (k:∀i v,vs[i]?=some v->∀H1 s1,Inv X pins σ H1 s1->(∀a o,H a=some o->H1 a=some o)->
   Aj (Ag X.prog X.w) A.in1.in1 (call (.ref f) [v]) (λu s2=>∃t p,u=.ref t/\Inv X pins σ p s2/\(∀a o,H1 a=some o->p a=some o)/\p t=some (.tup [.int (at2 ps i).1,.int (at2 ps i).2])/\dE X H1 p s1 s2) (λ_ _=>False) s1)
  (h:∀D out H' s' c,s.heap.objs.size<=D->Srt vs ps out->Inv X pins σ H' s'->(∀a o,H a=some o->H' a=some o)->s'.heap.get? D=some (seqObj "list" out.toArray c)->H' D=none->yO X pins H' D->Q (.ref D) s'):
  Aj (Ag X.prog X.w) A (call (.builtin "sorted") [.ref l] [("key",.ref f)]) Q E s:=by
 refine call_function_entry_kw kind_sorted plain_sorted entry_sorted (ksk_s1 _ _) ?_;unfold Builtin.«sorted»;refine zK0 (zK2 ?_);refine zK0 (collect_list y ?_ (by rw[zP9];exact iG d));refine zK0 (wpAny_newList ?_ (by rw[zP9];exact iG d));have g:((s.heap.push (seqObj "list" #[] 0)).update s.heap.objs.size (Obj.mapSeq (·++vs.toArray))).objs.size=s.heap.objs.size+1:=by rw[z52,size_push']
 have n:(((s.heap.push (seqObj "list" #[] 0)).update s.heap.objs.size (Obj.mapSeq (·++vs.toArray))).push (seqObj "list" vs.toArray 0)).get? (s.heap.objs.size+1)=some (seqObj "list" vs.toArray 0):=by rw[<-g];exact zL2 _ rfl
 have keep:∀b o,s.heap.get? b=some o->(((s.heap.push (seqObj "list" #[] 0)).update s.heap.objs.size (Obj.mapSeq (·++vs.toArray))).push (seqObj "list" vs.toArray 0)).get? b=some o:=λb o q=>by
  have j:=zL0 q;rw[z46 _ _ _ (by rw[g];exact zL9 (zR8 j)),Heap.get?_update_ne _ _ _ _ (zL9 j),z46 _ _ _ (zL9 j)];exact q
 rw[g];have x:Inv X pins σ H {s with heap:=((s.heap.push (seqObj "list" #[] 0)).update s.heap.objs.size (Obj.mapSeq (·++vs.toArray))).push (seqObj "list" vs.toArray 0),toks:=s.toks}:=I.kept keep;have m:s.heap.objs.size<=s.heap.objs.size+1:=zT4 _;refine zK0 (zP3 (wpAny_call_entry_kw slot_list_sort ⟨_,n,rfl⟩ entry_list_sort ?body (ksk_l1 _ _)))
 case body=>
  rw[ksk_t1];refine mW x n hlen d (I.hok.fresh m) (λz=>?_) (λH' hn=>I.fpOk m hn) k λout H' s' c so B st e r=>?_
  .rcases zK8.mp (I.stkSub _ z)with q|q
   .exact(I.fpOk (H':=λ_=>none) m rfl).2.1 q
   .exact(I.fpOk (H':=λ_=>none) m rfl).2.2.1 q
  .exact⟨_,rfl,zK2 ⟨_,rfl,h _ out H' s' c m so B st e r (I.fpOk m r)⟩⟩
end
section
variable {X:Cx}{a:Am}{p pos kpos lpos p1 p2 p3 p4 p5 p6:Pos}{n1:Nat}{x y:Str}{params:Arguments}{scope:Aq}
abbrev pairE (x y:Str)(n1:Nat)(p1 p2 p3 p4 p5 p6:Pos):Am:=.Tuple [.Subscript (.Name y p1) (.Name x p2) p3,.UnaryOp .USub (.Name x p4) p5] n1 p6
def keyOf (zs:List Int)(n:Int):Int×Int:=(zs.getD n.toNat 0,-n)
def za4 {P:Ah}{w:Ak}{K:Ae}{mg:Str->Option Ab}{base:An}{f c cl l:Ad}{A:Al}{outer:List Ar}{s:Ac}{H:Hp}{u ul:Ab}{k:Nat}{n:Int}{zs:List Int}
  (S:xJ x y params scope) (hr:zB k A) (m:vR P w K mg base A outer s H) (hf:H f=some (ip f c xS params (pairE x y n1 p1 p2 p3 p4 p5 p6) scope [(y,cl)])) (q:H c=some (uB c)) (hcl:s.heap.IsCell cl (some ul)) (b:H cl=none) (h:RelV (.int n) u) (r:RelV (.ref l) ul)
  (hb:∀pm ctv,bindArgs (PySem.W.kla_fn "<lambda>" xS params (pairE x y n1 p1 p2 p3 p4 p5 p6) scope [(y,cl)] pm (.ref c) ctv) ⟨[u],[]⟩=pure [(x,u)])
  (hdx:(x == ("__debug__":Str))=false) (hdy:(y == ("__debug__":Str))=false) (hcx:(x == ("__classdict__":Str))=false) (hcy:(y == ("__classdict__":Str))=false)
  (e:SqL K H l (zs.map V.int)) (h0:0<=n) (g:n<zs.length):
  codeAny (Ag P w) A (.call (.ref f) ⟨[u],[]⟩) (CR CX0 outer P w H s (λv H'=>∃t,v=.ref t/\H t=none/\H'=upd H t (.tup [.int (keyOf zs n).1,.int (keyOf zs n).2])) E0) s:=by
 obtain⟨j,rfl⟩:=z43 h0;have d:=(om9 g);refine aW S hr m hf q hcl b h r hb (gj (zw (wx yF (yu (i:=1) rfl (Or.inr (Or.inr S.py)) hdy hcy) (yu (i:=0) rfl (Or.inl S.px) hdx hcx) (λ_ _=>rfl)) (zw (zC9 zm7 (yu (i:=0) rfl (Or.inl S.px) hdx hcx)) zQ))) ?_;refine⟨_,rfl,_,rfl,l,_,_,.int (zs.getD j 0),rfl,rfl,e,vJ ?_,_,rfl,_,rfl,(by show 2<=sizeLine;decide),λt o=>⟨t,rfl,o,?_⟩⟩
 .rw[zM3,zK4 d,zL4,zK4 d];rfl
 .simp[keyOf]
def uQ (ns zs ms:List Int):Prop:=ms.Perm ns/\ms.Pairwise λm k=>lx (keyOf zs k) (keyOf zs m)=false
def cV {ns zs:List Int}{vs out:List Ab}(r:Vals (ns.map V.int) vs)(h:Srt vs (ns.map (keyOf zs)) out):∃ms,uQ ns zs ms/\Vals (ms.map V.int) out:=by
 obtain⟨b,rfl,d,hb,c,hw⟩:=h;have at_:∀i∈b,at2 (ns.map (keyOf zs)) i=keyOf zs (ns.getD i 0):=λi hi=>by
  have:=hb i hi;rw[zK3]at this;unfold at2;rw[zL4,zM3,zK4 this,zL4,zK4 this];rfl
 have em:b.map (at2 (ns.map (keyOf zs)))=(b.map λi=>ns.getD i 0).map (keyOf zs):=by
  rw[List.map_map];exact List.map_congr_left at_
 rw[em]at c hw;have inv:∀l:List Int,(l.map (keyOf zs)).map (λq=>-q.2)=l:=λl=>by
  rw[List.map_map];have:((λq:Int×Int=>-q.2)∘keyOf zs)=id:=by funext n;simp[keyOf]
  rw[this,List.map_id]
 refine⟨b.map λi=>ns.getD i 0,⟨?_,List.pairwise_map.mp hw⟩,?_⟩
 .have:=c.map (λq=>-q.2)
  rwa [inv,inv]at this
 .clear em c hw d
  induction b with
  |nil=>exact .nil
  |cons i b e=>
   refine .cons ?_ (e (λk hk=>hb k (zL1 _ hk)) λk hk=>at_ k (zL1 _ hk));have hi:=hb i zL7;rw[zK3]at hi;refine oq r i _ ?_;show _=some (V.int (ns.getD i 0));rw[zM3,zK4 hi,zL4,zK4 hi];rfl
def xO {K:Ae}{H H':Hp}{a:Ad}{xs:List V}(h:SqL K H a xs)(k:∀a o,(∀ps,o≠.tbl ps)->H a=some o->H' a=some o):SqL K H' a xs:=by
 rcases h with(h|⟨o,h⟩)|h
 .exact .inl (.inl (k _ _ (λ_ z=>by cases z) h))
 .exact .inl (.inr ⟨o,k _ _ (λ_ z=>by cases z) h⟩)
 .exact .inr h
theorem ml {ta:TE}{j k:Nat}{c:Ad}(S:xJ x y params scope)(hr:zB (k+2) X.A)(hg:Gl X "sorted")(hm:X.mg "sorted"=none)(hN:X.N[j]?=some y)(hy:X.env.scope.names.lookup y=some .cell)
  (hcl:∀cl,X.env.cells.lookup y=some cl->closureFor scope X.env=pure [(y,cl)]) (hgl:X.env.globals=Ai) (hco:X.env.code=.ref c) (hhd:PySem.W.CodeHd X.base c zZ) (hbi:X.base.BuiltinsAt X.mg zZ) (hdf:defaultsOf params X.env=([],[])) (hq:X.env.qual++("<lambda>":Str)=xS) (hne:Ai≠zZ)
  (hb:∀u cl c' pm ctv,bindArgs (PySem.W.kla_fn "<lambda>" xS params (pairE x y n1 p1 p2 p3 p4 p5 p6) scope [(y,cl)] pm (.ref c') ctv) ⟨[u],[]⟩=pure [(x,u)])
  (hdx:(x == ("__debug__":Str))=false) (hdy:(y == ("__debug__":Str))=false) (hcx:(x == ("__classdict__":Str))=false) (hcy:(y == ("__classdict__":Str))=false) (ha:PE X a ta)
  (he:Af [a] X.env=(false,eval a X.env)::Af [] X.env:=by rfl) (b0:backTo pos (Af [a] X.env)=(false,eval a X.env)::backTo pos (Af [] X.env):=by rfl) (hpl:((backTo pos (Af [a] X.env)).any λx=>x.1)=false:=by rfl):
  PE X (.Call (.Name "sorted" p) [a] [⟨some "key",.Lambda params (pairE x y n1 p1 p2 p3 p4 p5 p6) scope lpos,kpos⟩] pos)
   (λσ H Q=>ta σ H λv H1=>∃l ns L zs,v=.ref l/\SqL X.K H1 l (ns.map V.int)/\σ[j]?=some (some (.ref L))/\SqL X.K H1 L (zs.map V.int)/\ns.length<64/\(∀n∈ns,0<=n/\n<zs.length)/\TabAt H1/\
    ∀D H' ms,H1 D=none->H' D=some (.lst (ms.map V.int))->uQ ns zs ms->TabAt H'->(∀a o,a≠zZ->H1 a=some o->H' a=some o)->Q (.ref D) H'):=by
 intro pins s σ H Q I h;refine zS1 (xw I hg hm boot_sorted ?_)
 let Pd:V->Hp->Prop:=λv H1=>∃l ns L zs,v=.ref l/\SqL X.K H1 l (ns.map V.int)/\σ[j]?=some (some (.ref L))/\SqL X.K H1 L (zs.map V.int)/\ns.length<64/\(∀n∈ns,0<=n/\n<zs.length)/\TabAt H1/\
    ∀D H' ms,H1 D=none->H' D=some (.lst (ms.map V.int))->uQ ns zs ms->TabAt H'->(∀a o,a≠zZ->H1 a=some o->H' a=some o)->Q (.ref D) H'
 refine callWith_kw (thn (zw ha zQ he pos pins s σ H (λvs H1=>match vs with|[v]=>Pd v H1|_=>False) I h) λus s1 a4=>?_) b0 hpl;obtain⟨vs,H1,I1,r1,q1⟩:=a4
 match vs,r1,q1 with
 |[v],r1,q1=>
  obtain⟨u,rfl,ru⟩:=vals1 r1;obtain⟨l,ns,L,zs,rfl,hS,U,hZ,P,b1,T,q⟩:=(q1);obtain⟨m,hn,hl⟩:=id I1.loc;obtain⟨ul,rl,lk⟩:=hl j y _ hN U (.inr (.inl hy));obtain⟨cl,J,a2⟩:∃cl,X.env.cells.lookup y=some cl/\s1.heap.IsCell cl (some ul):=by
   rcases lk with⟨z,_⟩|⟨_,cl,z1,z2⟩
   .have z:X.env.scope.names.lookup y=some .local:=z;rw[hy]at z;cases z
   .exact⟨cl,z1,z2⟩
  show Aj _ _ (evalAll ((do let v <-eval (.Lambda params (pairE x y n1 p1 p2 p3 p4 p5 p6) scope lpos) X.env;standAt pos;pure v)::[])) _ _ s1;refine wpAny_evalAll_cons (zK0 (de I1 (hcl cl J) hgl hco hhd hbi hdf hq hne T λf c' H2 s2 I2 T2 Z a3 hf M F=>zK0 (z23 (zK2 (wpAny_evalAll_nil ?_)))));cases ru;have w:∀a o,(∀ps,o≠.tbl ps)->H1 a=some o->H2 a=some o:=λa o no e=>Z a o (λz=>by
   obtain⟨ps,t1,_⟩:=T.ex;rw[z,t1]at e;cases e;exact no _ rfl) e
  have Z2:=xO hZ w;obtain⟨a6,r,ht,hz⟩:=I2.list (xO hS w);have C:a6.length=ns.length:=by rw[<-r.length,zK3]
  refine qQ (ps:=ns.map (keyOf zs)) I2 ht.isList (by rw[zK3];exact C) (zM6 (zM9 C) P) (λi v hv H3 s3 I3 w=>?_) λD out H' s' c0 lD so I' st e fD fp=>?_
  .have hi:i<ns.length:=by rw[<-C];exact(zK7.mp hv).1
   have rv:RelV (.int ns[i]) v:=by
    have:=oq r i (.int ns[i]) (by rw[zM3,zK4 hi];rfl)
    rwa [zL4,hv]at this
   obtain⟨m3,b2,a5⟩:=id I3.loc;obtain⟨a9,a8,a0⟩:=a5 j y _ hN U (.inr (.inl hy));have G:s3.heap.IsCell cl (some a9):=by
    rcases a0 with⟨z,_⟩|⟨_,b4,z1,z2⟩
    .have z:X.env.scope.names.lookup y=some .local:=z;rw[hy]at z;cases z
    .rw[J]at z1;cases z1;exact z2
   have Y:=b1 ns[i] (zX2 hi);have ek:at2 (ns.map (keyOf zs)) i=keyOf zs ns[i]:=by
    unfold at2;rw[zL4,zM3,zK4 hi];rfl
   rw[ek];have Z3:=xO Z2 λa o _ e=>w a o e;refine zX4 (zX6 (za4 S hr.in1.in1 I3.env0.in1.in1 (w _ _ M) (w _ _ F) G (I3.freeC y cl J) rv a8 (λpm ctv=>hb _ _ _ pm ctv) hdx hdy hcx hcy Z3 Y.1 Y.2) λrr s4 B=>?_);cases rr with
   |error e=>exact False.elim B
   |ok fl=>
    cases fl with
    |next=>exact False.elim B
    |brk=>exact False.elim B
    |cont=>exact False.elim B
    |ret u4=>
     obtain⟨v4,H4,os,bare,un,hok,r4,t,rfl,a7,R⟩:=B;cases r4;obtain⟨hh,g,d,tk,a1⟩:=s4;obtain rfl:a1=s3.os:=os;refine⟨t,H4,rfl,I3.call un hok bare (λb z=>absurd z (by simp)),λa o e=>?_,by rw[R];exact zl,λb o e n nf=>⟨un.keep b o e n nf (by simp),un.free b o e n (by simp)⟩⟩;rw[R,zj (zm e a7)];exact e
  .obtain⟨ms,sm,rm⟩:=cV r so;have nD:∀a o,H' a=some o->a≠D:=λa o e z=>by rw[z,fD]at e;cases e
   have E:=I2.hok.fresh lD;have O:∀a o,H2 a=some o->upd H' D (.lst (ms.map V.int)) a=some o:=λa o e=>by rw[zj (nD a o (st a o e))];exact st a o e
   refine⟨.ref D,upd H' D (.lst (ms.map V.int)),I'.adopt fp ⟨?_,out,c0,rm,e⟩,rfl,q D _ ms ?_ zl sm (T2.same λa o _ e=>O a o e) λa o no e=>O a o (Z a o no e)⟩
   .rw[zK3,sm.1.length_eq,zP9];exact iG P
   .cases z:H1 D with
    |none=>rfl
    |some o=>
     by_cases nt:∀ps,o≠.tbl ps
     .rw[w D o nt z]at E;cases E
     .simp only[Classical.not_forall,Classical.not_not]at nt;obtain⟨qs,rfl⟩:=nt;obtain⟨b3,w'⟩:=a3 D qs z;rw[w']at E;cases E
end
section
variable {X:Cx}{O:Ev}{p q pos:Pos}{a b:Am}
theorem sU {G:Hp}:∀ns:List Int,AVs G (ns.map V.int) (ns.map .int)
 |[]=>.nil
 |n::ns=>.cons (.int n) (sU ns)
theorem oy {Q:List Aa->Prop}(K:X.calm=true)(hg:Gl X "list")(hm:X.mg "list"=none)(g:Gl X "range")(t:X.mg "range"=none)(h:EvD X O a λx=>EvD X O b λy=>∃i j,x=.int i/\y=.int j/\(-(2 ^ 62)<=i/\i<2 ^ 62/\-(2 ^ 62)<=j/\j<2 ^ 62)/\(j-i).toNat<=1000/\Q ((zq i (j-i).toNat).map .int))
  (he:Af [.Call (.Name "range" q) [a,b] [] p] X.env=(false,eval (.Call (.Name "range" q) [a,b] [] p) X.env)::Af [] X.env:=by rfl) (e:Af [a,b] X.env=(false,eval a X.env)::Af [b] X.env:=by rfl) (n:Af [b] X.env=(false,eval b X.env)::Af [] X.env:=by rfl)
  (hpl:(backTo p (Af [b] X.env)).any (·.1)=false:=by rfl) {D:Pos}:EvL X O (.Call (.Name "list" D) [.Call (.Name "range" q) [a,b] [] p] [] pos) Q:=λF σ H R m k=>by
 refine⟨_,uj (rf K) hg hm boot_list (zw (uj pD g t boot_range (zw zh (zw zh zQ n) e) (he:=e) (hpl:=hpl)) zQ he),h F σ H _ m λx N H1 B t1 k1 E=>?_⟩;have m1:=m.kz k1 t1;refine B F σ H1 _ m1 λy M s I u k2 G=>?_;obtain⟨i,j,rfl,rfl,⟨J,L,w,A⟩,C,q⟩:=I;cases E.int_inv;cases G.int_inv;refine⟨i,j,rfl,λr hr=>⟨r,i,j,rfl,zl,⟨J,L,w,A⟩,zQ0 (yt C),by lia,λl d=>?_⟩⟩;have f:l≠r:=λz=>by rw[z,zl]at d;cases d
 have c:s l=none:=by rw[zj f]at d;exact d
 have v:=k1.trans k2;have s1:zr s (upd (upd s r (.rng i j)) l (.lst ((zq i (j-i).toNat).map V.int))):=(yi hr).trans (yi d);refine k _ _ _ q (u.same s1) (v.trans (Kz.of_same s1)) ⟨l,_,rfl,?_,zl,sU _⟩;cases z:H l with
 |none=>rfl
 |some o=>rw[v l o z (m.tp.nt (ow0 ((m1.kz k2 u).fresh c)))]at c;cases c
end
section
variable {X:Cx}{O:Ev}{p pos:Pos}{a b:Am}{Q:Aa->Prop}
end
theorem AVs.ints {H:Hp}{xs:List V}{ns:List Int}(h:AVs H xs (ns.map .int)):xs=ns.map V.int:=by
 induction ns generalizing xs with
 |nil=>cases h;rfl
 |cons n ns a=>cases h with
  |cons h b=>rw[zP4,a b,h.int_inv]
section
variable {X:Cx}{O:Ev}{a:Am}{p pos kpos lpos p1 p2 p3 p4 p5 p6:Pos}{n1:Nat}{x y:Str}{params:Arguments}{scope:Aq}
structure gL (X:Cx)(c:Ad)(x y:Str)(n1:Nat)(p1 p2 p3 p4 p5 p6:Pos)(params:Arguments)(scope:Aq):Prop where
 S:xJ x y params scope
 hy:X.env.scope.names.lookup y=some .cell
 hcl:∀cl,X.env.cells.lookup y=some cl->closureFor scope X.env=pure [(y,cl)]
 hgl:X.env.globals=Ai
 hco:X.env.code=.ref c
 hhd:PySem.W.CodeHd X.base c zZ
 hbi:X.base.BuiltinsAt X.mg zZ
 hdf:defaultsOf params X.env=([],[])
 hq:X.env.qual++("<lambda>":Str)=xS
 hne:Ai≠zZ
 hb:∀u cl c' pm ctv,bindArgs (PySem.W.kla_fn "<lambda>" xS params (pairE x y n1 p1 p2 p3 p4 p5 p6) scope [(y,cl)] pm (.ref c') ctv) ⟨[u],[]⟩=pure [(x,u)]
 hdx:(x == ("__debug__":Str))=false
 hdy:(y == ("__debug__":Str))=false
 hcx:(x == ("__classdict__":Str))=false
 hcy:(y == ("__classdict__":Str))=false
def nQ {j k:Nat}{c:Ad}{Q:List Aa->Prop}(T:gL X c x y n1 p1 p2 p3 p4 p5 p6 params scope)(hr:zB (k+2) X.A)(hg:Gl X "sorted")(hm:X.mg "sorted"=none)(J:X.N[j]?=some y)
  (h:EvD X O a λd=>∃ns zs:List Int,d=.list (ns.map .int)/\O[j]?=some (some (.dat (.list (zs.map .int))))/\ns.length<64/\(∀n∈ns,0<=n/\n<zs.length)/\∀ms,uQ ns zs ms->Q (ms.map .int))
  (he:Af [a] X.env=(false,eval a X.env)::Af [] X.env:=by rfl) (s:backTo pos (Af [a] X.env)=(false,eval a X.env)::backTo pos (Af [] X.env):=by rfl) (hpl:((backTo pos (Af [a] X.env)).any λx=>x.1)=false:=by rfl):
  EvL X O (.Call (.Name "sorted" p) [a] [⟨some "key",.Lambda params (pairE x y n1 p1 p2 p3 p4 p5 p6) scope lpos,kpos⟩] pos) Q:=λF σ H R m k=>by
 refine⟨_,ml T.S hr hg hm J T.hy T.hcl T.hgl T.hco T.hhd T.hbi T.hdf T.hq T.hne T.hb T.hdx T.hdy T.hcx T.hcy zh he s hpl,h F σ H _ m λd P H1 G t1 k1 K=>?_⟩;have m1:=m.kz k1 t1;obtain⟨ns,zs,rfl,I,i,u,q⟩:=G;obtain⟨l,xs,rfl,g1,g2⟩:=K.lst_inv;obtain⟨v,s1,s2⟩:=m1.dat j _ I;obtain⟨L,ys,rfl,g3,w⟩:=s2.lst_inv;cases g2.ints;cases w.ints;refine⟨l,ns,L,zs,rfl,SqL.of (zi g1).2,s1,SqL.of (zi g3).2,i,u,t1.tab,λD H' ms g r E B kp=>?_⟩;have f:∀a xs,H1 a=some (.lst xs)->H' a=some (.lst xs):=λa xs e=>kp a _ (λz=>by
  obtain⟨ps,e1,_⟩:=t1.tab.ex;rw[z,e1]at e;cases e) e
 have kz:Kz F H1 H':=λx o e n=>kp x o n.2 e;refine k _ _ H' (q ms E) ⟨B,t1.ot,λt b c e=>⟨?_,(t1 t b c e).2⟩⟩ (k1.trans kz) ⟨D,_,rfl,?_,r,sU _⟩
 .obtain⟨n,bs,cs,n1,e1,C,M,l1,l2⟩:=(t1 t b c e).1.ex;exact⟨n,bs,cs,n1,f _ _ e1,f _ _ C,f _ _ M,l1,l2⟩
 .cases z:H D with
  |none=>rfl
  |some o=>rw[k1 D o z (m.tp.nt (ow0 (m1.fresh g)))]at g;cases g
end
section
variable {P:Ah}{w:Ak}{K:Ae}{mg:Str->Option Ab}{base:An}
def zI0 {x qual:Str}{st:Ap}{f:Ad}{N ps:List Str}{k:Nat}{φ:List A->(A->Prop)->Prop}{oc:Ab}{od an:Option Ad}{osl:Array (Option Ab)}{kV doc pm cdv ct:Ab}
  (p:K.lookup f=some ⟨oc,od,.func (PySem.W.fnOf x qual (zI st) (zt st) (zb st) .none kV doc pm an cdv ct),osl⟩) (i:PySem.W.codeIn K cdv qual=true) (S:zA N ps (zb st)) (hlen:∀as Q,φ as Q->as.length=ps.length)
  (b:∀(d:Al) (outer:List Ar) (s:Ac) (H:Hp) (E:XK) (as:List A) (Q:A->Prop),zB k (d.deeper (envOfC qual (zb st) s.heap.objs.size f cdv))->φ as Q->
   SvS (yS CX0 P w K mg base N qual (zb st) f cdv d outer s H E).nox (as.map some++List.replicate (N.length-as.length) none) (zt st) {nx:=λ_=>Q (.dat .none),rt:=Q}):zS P w K mg base CX0 (k+1) f (PySem.W.fnOf x qual (zI st) (zt st) (zb st) .none kV doc pm an cdv ct) ps (spA φ):=by
 refine kO p i S (λvs H Q E h=>?_) (λd outer s H vs l E hr h=>?_)
 .obtain⟨F,as,n,_,_,_,g,c,_⟩:=h;rw[g.length,hlen as _ c]
 .obtain⟨F,as,n,e,t,o,g,c,j⟩:=h;have:=b d outer s H E as n hr c F _ H {nx:=λ_ H'=>l .non H',rt:=l} (M.start e t o g) ⟨λO σ H' m q=>?_,λa v H' r q=>j a v H' q r,λ_ _ _ _ z=>z.elim,λ_ _ _ _ z=>z.elim⟩
  .obtain⟨t,h,q⟩:=this;exact⟨t,h.nox,q⟩
  .exact j _ _ _ q ⟨m.tp,m.keep,.non⟩
end
section
variable {X:Cx}{O:Ev}{Q:Aa->Prop}{a b:Am}{pos:Pos}
end
def pU (c:Int)(n:Nat):zq c (n+1)=zq c n++[c+(n:Nat)]:=by simp[zq,List.range_succ]
def zP {c m:Int}{n:Nat}:m∈zq c n↔c<=m/\m<c+n:=by
 simp only[zq,z40,z64]
 constructor
 .rintro⟨i,hi,rfl⟩;lia
 .rintro⟨a,b⟩;exact⟨(m-c).toNat,by lia,(zC2 a)⟩
theorem rF (c:Int):∀n:Nat,(zq c n).Nodup
 |0=>by simp[zq]
 |n+1=>by
  rw[pU,List.nodup_append];refine⟨rF c n,by simp,?_⟩;intro a ha b hb;rw[zP]at ha;simp at hb;exact Int.ne_of_lt (z69 ha.2 (Int.le_of_eq hb.symm))
def uK (zs:List Int)(many free i:Nat)(bs:List Bool):Prop:=
 bs.length=zs.length/\(∀j,i / many*many<=j->bs.getD j false=false)/\∀k,k<i / many->∃ms:List Int,uQ (zq ((k*many:Nat):Int) many) zs ms/\∀q,q<many->bs.getD (ms.getD q 0).toNat false=decide (q<free)
def jY (zs:List Int){many:Nat}(free:Nat):uK zs many free 0 (List.replicate zs.length false):=by
 refine⟨by simp,λj _=>?_,λk hk=>?_⟩
 .rw[zL4,zU3];split<;>rfl
 .rw[Nat.zero_div]at hk;exact(zQ6 _ (zM6 (zL6 _) hk)).elim
def sL {i many:Nat}(h:0<many)(a:i % many+1<many):(i+1) / many=i / many/\(i+1) % many=i % many+1:=by
 have e:=z34 i many;have b:i+1=(i % many+1)+many*(i / many):=by lia
 constructor
 .rw[b,Nat.add_mul_div_left _ _ h,Nat.div_eq_of_lt a,Nat.zero_add]
 .rw[b,Nat.add_mul_mod_self_left,Nat.mod_eq_of_lt a]
def nc {i many:Nat}(h:0<many)(b:i % many+1=many):(i+1) / many=i / many+1/\(i+1) % many=0/\(i / many+1)*many=i+1:=by
 have e:=z34 i many;have a:many*(i / many+1)=i+1:=by rw[Nat.mul_add,Nat.mul_one];lia
 refine⟨?_,?_,?_⟩
 .rw[<-a,Nat.mul_div_cancel_left _ h]
 .rw[<-a,Nat.mul_mod_right]
 .rw[Nat.mul_comm];exact a
def iz {zs:List Int}{many free i:Nat}{bs:List Bool}(h:0<many)(a:i % many+1<many)(m:uK zs many free i bs):uK zs many free (i+1) bs:=by
 unfold uK at *;rw[(sL h a).1];exact m
def vI {lo:Int}{n:Nat}{zs ms:List Int}(s:uQ (zq lo n) zs ms){q:Nat}(h:q<n):lo<=ms.getD q 0/\ms.getD q 0<lo+n:=by
 have a:ms.length=n:=by rw[s.1.length_eq,zf]
 have:ms.getD q 0∈ms:=by
  rw[zL4,zK4 (zK5 h (zM9 a.symm))];exact zX2 _
 exact zP.mp (s.1.mem_iff.mp this)
def iq {zs ms:List Int}{many free i:Nat}{bs a:List Bool}(h:0<many)(g:i % many+1=many)(m:uK zs many free i bs)(s:uQ (zq ((i / many*many:Nat):Int) many) zs ms)
  (l:a.length=bs.length) (e1:∀q,q<many->a.getD (ms.getD q 0).toNat false=decide (q<free)) (e:∀j,(∀q,q<many->(ms.getD q 0).toNat≠j)->a.getD j false=bs.getD j false):uK zs many free (i+1) a:=by
 obtain⟨f,r,n⟩:=nc h g;obtain⟨m1,m2,m3⟩:=m;refine⟨by rw[l,m1],λj o=>?_,λk hk=>?_⟩
 .rw[f,n]at o;rw[e j λq hq=>?_,m2 j (by lia)];have:=vI s hq
  lia
 .rw[f]at hk;by_cases b:k=i / many
  .subst b;exact⟨ms,s,e1⟩
  .obtain⟨d,s2,f2⟩:=m3 k (cu hk b);refine⟨d,s2,λq hq=>?_⟩;rw[e _ λp c=>?_,f2 q hq];have a1:=vI s c;have a2:=vI s2 hq;have:(k+1)*many<=i / many*many:=Nat.mul_le_mul_right _ (by lia);rw[Nat.add_mul,Nat.one_mul]at this
   lia
def zq0 {lo:Int}{n:Nat}{zs ms:List Int}(s:uQ (zq lo n) zs ms){m:Int}(b:lo<=m)(c:m<lo+n):∃q,q<n/\ms.getD q 0=m:=by
 have a:ms.length=n:=by rw[s.1.length_eq,zf]
 obtain⟨q,hq,e⟩:=zY6.mp (s.1.mem_iff.mpr (zP.mpr ⟨b,c⟩));exact⟨q,(zK5 hq (zM9 a)),by rw[zL4,zK4 hq];exact e⟩
open PySem (IsZip)
section
variable {prog:Ah}{w:Ak}{A:Al}{E:Ab->Ac->Prop}{s:Ac}
def pX {M:Model}{a:Ad}{Q:Option Obj->Ac->Prop}(h:Q (s.heap.get? a) s):Aj M A (loadIfAlive a) Q E s:=λc p b=>by
 show Sem.wp M c (.loadIfAlive a .pure) _ _ p s;rw[Sem.wp_loadIfAlive];exact h
abbrev zO (f0 f1:Ab)(TI TO:Ad):Obj:={cls:=.type "zip",dict:=none,data:=.fields #[f0,f1,.bool false,.ref TI,.ref TO],slots:=#[]}
abbrev tO3 (a b c:Ab):Obj:={cls:=.type "tuple",data:=.seq #[a,b,c]}
def xA {T:Ad}{a b c x:Ab}{k:Nat}{Q:Unit->Ac->Prop}(d:s.heap.get? T=some (tO3 a b c))
  (h:∀h',h'.get? T=some {cls:=.type "tuple",data:=.seq ((#[a,b,c]:Array Ab).setIfInBounds k x)}->Heap.SameBut T s.heap h'->Q () {s with heap:=h'}):
  Aj (Ag prog w) A (updateSeq T (·.setIfInBounds k x)) Q E s:=by
 refine zY0 d rfl (h _ ?_ (zX0 ..));rw[zQ4 _ d rfl];simp[Obj.mapSeq]
structure xW (h:An)(n:Nat)(l1 l2 l3:Ad)(k:Nat)(f0 f1 a b c:Ab):Prop where
 z:h.get? (n+5:Nat)=some (zO f0 f1 (n+3:Nat) (n+4:Nat))
 ti:h.get? (n+3:Nat)=some (tO3 (.ref (n:Nat)) (.ref (n+1:Nat)) (.ref (n+2:Nat)))
 to:h.get? (n+4:Nat)=some (tO3 a b c)
 i1:h.IsListIter (n:Nat) l1 k
 i2:h.IsListIter (n+1:Nat) l2 k
 i3:h.IsListIter (n+2:Nat) l3 k
abbrev z3 (n:Nat):List Ad:=[(n:Nat),(n+1:Nat),(n+2:Nat),(n+3:Nat),(n+4:Nat),(n+5:Nat)]
def zp (a b:Nat)(h:a<b\/b<a):@Ne Ad a b:=λe=>by lia
def mI {n l1 l2 l3:Nat}{k:Nat}{f1 a b c x y z:Ab}{xs ys zs:Array Ab}{Q:Ab->Ac->Prop}(h1:l1<n)(h2:l2<n)(h3:l3<n)(Z:xW s.heap n l1 l2 l3 k .none f1 a b c)
  (a5:s.heap.IsList l1 xs) (a7:s.heap.IsList l2 ys) (a4:s.heap.IsList l3 zs) (hx:xs[k]?=some x) (hy:ys[k]?=some y) (hz:zs[k]?=some z)
  (hQ:∀h',xW h' n l1 l2 l3 (k+1) (rawInt s.heap.objs.size) (.bool false) x y z->h'.get? s.heap.objs.size=some (tO3 x y z)->
   (∀c o,c∉z3 n->s.heap.get? c=some o->h'.get? c=some o)->Q (.ref s.heap.objs.size) {s with heap:=h'}):
  Aj (Ag prog w) A (Builtin.«zip.__next__» ⟨[.ref (n+5:Nat)],[]⟩) (λfin s'=>∃v,fin=.done (.ret v)/\Q v s') E s:=by
 obtain⟨F,a0,a6,g1,g2,g3⟩:=Z;show Aj _ _ (field (.ref _) 2 >>= _) _ _ _;refine zK0 (zS5 F rfl rfl ?_);refine zK0 (zS5 F rfl rfl (zK0 (zU0 a0 rfl ?_)));refine zK0 ?_;unfold Builtin.SmallTypes.ownedTupleIsFree;refine zK0 (zS5 F rfl rfl (zK2 ?_));simp only[z26];refine zK0 (zT9 (zK0 (zS5 F rfl rfl ?_)));refine zK0 (zR3 F (by simp) λV t d=>?_)
 replace t:V.get? (n+5:Nat)=some (zO .ellipsis f1 (n+3:Nat) (n+4:Nat)):=t
 refine zK0 ?_;simp only[List.zipIdx_cons,List.zipIdx_nil,z33,z66];refine zK0 (zK0 (wpAny_onRaise ?_));refine zK0 (zU9 (g1.extBut d.extBut (by refine zp _ _ ?_;exact dG)) (a5.extBut d.extBut (by refine zp _ _ ?_;exact .inl (zK5 h1 (zN3 _ _)))) hx λa8 O g=>zK2 ?_);have D:=g.extBut _ _ (by refine zp _ _ ?_;exact zi1) (d.extBut _ _ (by refine zp _ _ ?_;exact gZ) a6);refine zK0 (zU0 D rfl (zK0 (xA D λU r f=>?_)))
 replace r:U.get? (n+4:Nat)=some (tO3 x b c):=r
 refine zK0 (wpAny_letGo (zK2 (zK0 (zK0 (wpAny_onRaise ?_)))));refine zK0 (zU9 (((g2.extBut d.extBut (by refine zp _ _ ?_;exact gp)).extBut g.extBut (by refine zp _ _ ?_;exact .inr (zQ7 _))).extBut f.extBut (by refine zp _ _ ?_;exact cx))
  (((a7.extBut d.extBut (by refine zp _ _ ?_;exact .inl (zK5 h2 (zN3 _ _)))).extBut g.extBut (by refine zp _ _ ?_;exact .inl h2)).extBut f.extBut (by refine zp _ _ ?_;exact .inl (zK5 h2 (zN3 _ _)))) hy λb0 P h=>zK2 ?_)
 have B:=h.extBut _ _ (by refine zp _ _ ?_;exact zj9) r;refine zK0 (zU0 B rfl (zK0 (xA B λa1 q i=>?_)))
 replace q:a1.get? (n+4:Nat)=some (tO3 x y c):=q
 refine zK0 (wpAny_letGo (zK2 (zK0 (zK0 (wpAny_onRaise ?_)))));refine zK0 (zU9 (((((g3.extBut d.extBut (by refine zp _ _ ?_;exact hU)).extBut g.extBut (by refine zp _ _ ?_;exact ze9)).extBut f.extBut (by refine zp _ _ ?_;exact gf)).extBut h.extBut (by refine zp _ _ ?_;exact zi5)).extBut i.extBut (by refine zp _ _ ?_;exact gf))
  (((((a4.extBut d.extBut (by refine zp _ _ ?_;exact .inl (zK5 h3 (zN3 _ _)))).extBut g.extBut (by refine zp _ _ ?_;exact .inl h3)).extBut f.extBut (by refine zp _ _ ?_;exact .inl (zK5 h3 (zN3 _ _)))).extBut h.extBut (by refine zp _ _ ?_;exact .inl (zK5 h3 (zN3 _ _)))).extBut i.extBut (by refine zp _ _ ?_;exact .inl (zK5 h3 (zN3 _ _)))) hz λa9 T l=>zK2 ?_)
 have C:=l.extBut _ _ (by refine zp _ _ ?_;exact zh7) q;refine zK0 (zU0 C rfl (zK0 (xA C λp m j=>?_)))
 replace m:p.get? (n+4:Nat)=some (tO3 x y z):=m
 refine zK0 (wpAny_letGo (zK2 (zK2 (zK0 (zU0 m rfl ?_)))));refine zK0 (z42 ?_);have W:p.objs.size=s.heap.objs.size:=by rw[j.1,l.1,i.1,h.1,f.1,g.1,d.1]
 have X:∀c o,c≠(n+5:Nat)->c≠n->c≠(n+4:Nat)->c≠(n+1:Nat)->c≠(n+2:Nat)->s.heap.get? c=some o->p.get? c=some o:=λc o c1 c2 c3 c4 c5 e=>
  j.extBut _ _ c3 (l.extBut _ _ c5 (i.extBut _ _ c3 (h.extBut _ _ c4 (f.extBut _ _ c3 (g.extBut _ _ c2 (d.extBut _ _ c1 e))))))
 have H:=j.extBut _ _ (by refine zp _ _ ?_;exact eU) (l.extBut _ _ (by refine zp _ _ ?_;exact zh2) (i.extBut _ _ (by refine zp _ _ ?_;exact eU) (h.extBut _ _ (by refine zp _ _ ?_;exact zk0) (f.extBut _ _ (by refine zp _ _ ?_;exact eU) (g.extBut _ _ (by refine zp _ _ ?_;exact zk4) t)))));have N:=((((O.extBut f.extBut (by refine zp _ _ ?_;exact gC)).extBut h.extBut (by refine zp _ _ ?_;exact .inl (zQ7 _))).extBut i.extBut (by refine zp _ _ ?_;exact gC)).extBut l.extBut (by refine zp _ _ ?_;exact zf4)).extBut j.extBut (by refine zp _ _ ?_;exact gC);have M:=((P.extBut i.extBut (by refine zp _ _ ?_;exact cx)).extBut l.extBut (by refine zp _ _ ?_;exact zi9)).extBut j.extBut (by refine zp _ _ ?_;exact cx);have L:=T.extBut j.extBut (by refine zp _ _ ?_;exact gf);have I:=X _ _ (by refine zp _ _ ?_;exact gH) (by refine zp _ _ ?_;exact ze0) (by refine zp _ _ ?_;lia) (by refine zp _ _ ?_;exact zj4) (by refine zp _ _ ?_;exact zg9) a0;have K:=zL0 H;refine zK0 ?_;unfold Builtin.SmallTypes.ownedTupleHandOut;have S:(p.push {cls:=.type "tuple",data:=.seq #[x,y,z]}).get? (n+5:Nat)=some (zO .ellipsis f1 (n+3:Nat) (n+4:Nat)):=zK1 _ H;refine zK0 (zR3 S (by simp) λa2 u G=>?_)
 replace u:a2.get? (n+5:Nat)=some (zO (rawInt p.objs.size) f1 (n+3:Nat) (n+4:Nat)):=u
 refine zR3 u (by simp) λhA J a3=>?_
 replace J:hA.get? (n+5:Nat)=some (zO (rawInt p.objs.size) (.bool false) (n+3:Nat) (n+4:Nat)):=J
 have up:∀c o,c≠(n+5:Nat)->p.get? c=some o->hA.get? c=some o:=λc o c1 e=>a3.extBut _ _ c1 (G.extBut _ _ c1 (zK1 _ e));have Y:=a3.extBut _ _ (zT2 K) (G.extBut _ _ (zT2 K) (zL2 _ rfl));rw[W]at J Y;refine zK2 ⟨_,rfl,?_⟩;rw[W];refine hQ hA ⟨J,up _ _ (by refine zp _ _ ?_;exact gH) I,up _ _ (by refine zp _ _ ?_;exact gZ) m,N.at λo e=>up _ o (by refine zp _ _ ?_;exact dG) e,M.at λo e=>up _ o (by refine zp _ _ ?_;exact gp) e,L.at λo e=>up _ o (by refine zp _ _ ?_;exact hU) e⟩ Y λc o R e=>?_;simp only[z3,zK8,zM5,zP8,not_or]at R;exact up c o R.2.2.2.2.2 (X c o R.2.2.2.2.2 R.1 R.2.2.2.2.1 R.2.1 R.2.2.1 e)
def rE {n l1 l2 l3 k T:Nat}{f1 a b c:Ab}{ot:Obj}{Q:Bool->Ac->Prop}(r:l1<n)(t:l2<n)(u:l3<n)(Z:xW s.heap n l1 l2 l3 k (rawInt (T:Nat)) f1 a b c)(p:s.heap.get? T=some ot)
  (m:∀h' l,xW h' n l1 l2 l3 k (rawInt (T:Nat)) l a b c->h'.objs.size=s.heap.objs.size->(∀c o,c≠(n+5:Nat)->s.heap.get? c=some o->h'.get? c=some o)->Q false {s with heap:=h'}):
  Aj (Ag prog w) A (Builtin.SmallTypes.ownedTupleIsFree (.ref (n+5:Nat))) Q E s:=by
 obtain⟨g,j,i,g1,g2,g3⟩:=Z;unfold Builtin.SmallTypes.ownedTupleIsFree;refine zK0 (zS5 g rfl rfl ?_);refine zK0 (pX ?_);rw[show((T:Int).toNat)=T from zR7 T,p];refine zK0 (zS5 g rfl rfl (zP1 (λ_=>?_) (λ_=>?_)))
 .refine zK0 (zR3 g (by simp) λh f d=>zK2 ?_)
  replace f:h.get? (n+5:Nat)=some (zO (rawInt T) (.bool true) (n+3:Nat) (n+4:Nat)):=f
  exact m h _ ⟨f,d.extBut _ _ (by refine zp _ _ ?_;exact gH) j,d.extBut _ _ (by refine zp _ _ ?_;exact gZ) i,g1.extBut d.extBut (by refine zp _ _ ?_;exact dG),g2.extBut d.extBut (by refine zp _ _ ?_;exact gp),g3.extBut d.extBut (by refine zp _ _ ?_;exact hU)⟩ d.1 λc o q e=>d.extBut _ _ q e
 .exact zK2 (m s.heap f1 ⟨g,j,i,g1,g2,g3⟩ rfl λ_ _ _ e=>e)
def jy {n l1 l2 l3 k T:Nat}{f1 a b c x y z:Ab}{ot:Obj}{xs ys zs:Array Ab}{Q:Ab->Ac->Prop}(O:l1<n)(L:l2<n)(H:l3<n)(Z:xW s.heap n l1 l2 l3 k (rawInt (T:Nat)) f1 a b c)(Y:s.heap.get? T=some ot)
  (p:s.heap.IsList l1 xs) (B:s.heap.IsList l2 ys) (j:s.heap.IsList l3 zs) (X:xs[k]?=some x) (hy:ys[k]?=some y) (W:zs[k]?=some z)
  (U:∀h' r,xW h' n l1 l2 l3 (k+1) (rawInt (T:Nat)) r a b c->h'.get? s.heap.objs.size=some (tO3 x y z)->
   (∀c o,c∉z3 n->s.heap.get? c=some o->h'.get? c=some o)->Q (.ref s.heap.objs.size) {s with heap:=h'}):
  Aj (Ag prog w) A (Builtin.«zip.__next__» ⟨[.ref (n+5:Nat)],[]⟩) (λfin s'=>∃v,fin=.done (.ret v)/\Q v s') E s:=by
 show Aj _ _ (field (.ref _) 2 >>= _) _ _ _;refine zK0 (zS5 Z.z rfl rfl ?_);refine zK0 (zS5 Z.z rfl rfl (zK0 (zU0 Z.ti rfl ?_)));refine zK0 (rE O L H Z Y λG r ZB K F=>?_);obtain⟨I,M,J,g1,g2,g3⟩:=ZB
 replace p:G.IsList l1 xs:=p.at λo e=>F _ o (by refine zp _ _ ?_;exact .inl (zK5 O (zN3 _ _))) e
 replace B:G.IsList l2 ys:=B.at λo e=>F _ o (by refine zp _ _ ?_;exact .inl (zK5 L (zN3 _ _))) e
 replace j:G.IsList l3 zs:=j.at λo e=>F _ o (by refine zp _ _ ?_;exact .inl (zK5 H (zN3 _ _))) e
 simp only[zV2,z38];rw[z70];simp only[z33,z66];refine zK0 (zK0 (zK0 (zP3 ?_)));refine zK0 (zU9 g1 p X λN l d=>zK2 (zK2 (zK0 (zK0 (zP3 ?_)))));refine zK0 (zU9 (g2.extBut d.extBut (by refine zp _ _ ?_;exact .inr (zQ7 _))) (B.extBut d.extBut (by refine zp _ _ ?_;exact .inl L)) hy λP q f=>zK2 (zK2 ?_));refine zK0 (zK0 (zP3 ?_));refine zK0 (zU9 ((g3.extBut d.extBut (by refine zp _ _ ?_;exact ze9)).extBut f.extBut (by refine zp _ _ ?_;exact zi5)) ((j.extBut d.extBut (by refine zp _ _ ?_;exact .inl H)).extBut f.extBut (by refine zp _ _ ?_;exact .inl (zK5 H (zN3 _ _)))) W λh u g=>zK2 (zK2 (zK2 ?_)));refine zK0 (z42 ?_ (by show 3<=sizeLine;decide));have C:h.objs.size=s.heap.objs.size:=by rw[g.1,f.1,d.1];exact K
 have i:∀c o,c≠n->c≠(n+1:Nat)->c≠(n+2:Nat)->G.get? c=some o->h.get? c=some o:=λc o V R S e=>g.extBut _ _ S (f.extBut _ _ R (d.extBut _ _ V e));have up:∀c o,h.get? c=some o->(h.push {cls:=.type "tuple",data:=.seq #[x,y,z]}).get? c=some o:=λc o e=>zK1 _ e;have m:=(l.extBut f.extBut (by refine zp _ _ ?_;exact .inl (zQ7 _))).extBut g.extBut (by refine zp _ _ ?_;exact zf4);have t:=q.extBut g.extBut (by refine zp _ _ ?_;exact zi9);refine zK2 ⟨_,rfl,?_⟩;rw[C];refine U _ r ⟨up _ _ (i _ _ (by refine zp _ _ ?_;exact zk4) (by refine zp _ _ ?_;exact zk0) (by refine zp _ _ ?_;exact zh2) I),up _ _ (i _ _ (by refine zp _ _ ?_;exact ze0) (by refine zp _ _ ?_;exact zj4) (by refine zp _ _ ?_;exact zg9) M),up _ _ (i _ _ (by refine zp _ _ ?_;exact zi1) (by refine zp _ _ ?_;exact zj9) (by refine zp _ _ ?_;exact zh7) J),m.at λo e=>up _ o e,t.at λo e=>up _ o e,u.at λo e=>up _ o e⟩ ?_ λc o D e=>?_
 .rw[<-C];exact zL2 _ rfl
 .simp only[z3,zK8,zM5,zP8,not_or]at D;exact up c o (i c o D.1 D.2.1 D.2.2.1 (F c o D.2.2.2.2.2 e))
def fH {n l1 l2 l3 k T:Nat}{f1 a b c:Ab}{ot:Obj}{xs:Array Ab}{Q:PySem.Fin->Ac->Prop}(p:A.handled=none)(i:l1<n)(m:l2<n)(x:l3<n)(Z:xW s.heap n l1 l2 l3 k (rawInt (T:Nat)) f1 a b c)(v:s.heap.get? T=some ot)
  (f:s.heap.IsList l1 xs) (t:xs[k]?=none)
  (y:∀h' e,(∀c o,c∉z3 n->s.heap.get? c=some o->h'.get? c=some o)->(∃o,h'.get? e=some o/\o.cls=.type "StopIteration")->E (.ref e) {s with heap:=h'}):
  Aj (Ag prog w) A (Builtin.«zip.__next__» ⟨[.ref (n+5:Nat)],[]⟩) Q E s:=by
 show Aj _ _ (field (.ref _) 2 >>= _) _ _ _;refine zK0 (zS5 Z.z rfl rfl ?_);refine zK0 (zS5 Z.z rfl rfl (zK0 (zU0 Z.ti rfl ?_)));refine zK0 (rE i m x Z v λu r ZB l j=>?_)
 replace f:u.IsList l1 xs:=f.at λo e=>j _ o (by refine zp _ _ ?_;exact .inl (zK5 i (zN3 _ _))) e
 simp only[zV2,z38];rw[z70];simp only[z33,z66];refine zK0 (zK0 (zK0 (zP3 ?_)));refine zK0 (wpAny_nextOf_list_end p ZB.i1 f t λg e d he=>y g e (λc o h q=>?_) he);simp only[z3,zK8,zM5,zP8,not_or]at h;exact d _ _ h.1 (j _ _ h.2.2.2.2.2 q)
def oE {n l1 l2 l3 k:Nat}{f1 a b c x y z:Ab}{xs ys zs:Array Ab}{Q:Option Ab->Ac->Prop}(j:l1<n)(m:l2<n)(p:l3<n)(Z:xW s.heap n l1 l2 l3 k .none f1 a b c)
  (e:s.heap.IsList l1 xs) (f:s.heap.IsList l2 ys) (d:s.heap.IsList l3 zs) (l:xs[k]?=some x) (hy:ys[k]?=some y) (h:zs[k]?=some z)
  (q:∀h',xW h' n l1 l2 l3 (k+1) (rawInt s.heap.objs.size) (.bool false) x y z->h'.get? s.heap.objs.size=some (tO3 x y z)->
   (∀c o,c∉z3 n->s.heap.get? c=some o->h'.get? c=some o)->Q (some (.ref s.heap.objs.size)) {s with heap:=h'}):
  Aj (Ag prog w) A (pyNext (.ref (n+5:Nat))) Q E s:=by
 have g:s.TypeIs (.ref (n+5:Nat)) "zip":=⟨_,Z.z,rfl⟩;unfold pyNext;exact zK0 (zT6 (zS3 g zT0
  (zR5 zT0 g z49
   (mI j m p Z e f d l hy h λh' a1 a2 i=>zK2 (q h' a1 a2 i)) (z44 _))))
def mO {n l1 l2 l3 k T:Nat}{f1 a b c x y z:Ab}{ot:Obj}{xs ys zs:Array Ab}{Q:Option Ab->Ac->Prop}(i:l1<n)(j:l2<n)(t:l3<n)(Z:xW s.heap n l1 l2 l3 k (rawInt (T:Nat)) f1 a b c)(r:s.heap.get? T=some ot)
  (g:s.heap.IsList l1 xs) (h:s.heap.IsList l2 ys) (f:s.heap.IsList l3 zs) (q:xs[k]?=some x) (hy:ys[k]?=some y) (m:zs[k]?=some z)
  (l:∀h' d,xW h' n l1 l2 l3 (k+1) (rawInt (T:Nat)) d a b c->h'.get? s.heap.objs.size=some (tO3 x y z)->
   (∀c o,c∉z3 n->s.heap.get? c=some o->h'.get? c=some o)->Q (some (.ref s.heap.objs.size)) {s with heap:=h'}):
  Aj (Ag prog w) A (pyNext (.ref (n+5:Nat))) Q E s:=by
 have e:s.TypeIs (.ref (n+5:Nat)) "zip":=⟨_,Z.z,rfl⟩;unfold pyNext;exact zK0 (zT6 (zS3 e zT0
  (zR5 zT0 e z49
   (jy i j t Z r g h f q hy m λh' d a1 a2 p=>zK2 (l h' d a1 a2 p)) (z44 _))))
def iS {n l1 l2 l3 k T:Nat}{f1 a b c:Ab}{ot:Obj}{xs:Array Ab}{Q:Option Ab->Ac->Prop}(l:A.handled=none)(h:l1<n)(j:l2<n)(q:l3<n)(Z:xW s.heap n l1 l2 l3 k (rawInt (T:Nat)) f1 a b c)(m:s.heap.get? T=some ot)
  (f:s.heap.IsList l1 xs) (i:xs[k]?=none)
  (r:∀h',(∀c o,c∉z3 n->s.heap.get? c=some o->h'.get? c=some o)->Q none {s with heap:=h'}):
  Aj (Ag prog w) A (pyNext (.ref (n+5:Nat))) Q E s:=by
 have d:s.TypeIs (.ref (n+5:Nat)) "zip":=⟨_,Z.z,rfl⟩;unfold pyNext;refine zK0 (zT6 (zS3 d zT0
  (zR5 zT0 d z49 (fH l h j q Z m f i λh' e hk he=>?_) (z44 _))))
 obtain⟨o,g,p⟩:=he;exact zK0 (z53 ⟨o,g,p⟩ isSubtype_stop (zK2 (r _ hk)))
end
section
variable {X:Cx}{pins:List (Ad×Obj)}{σ:St}{H:Hp}{s:Ac}
def Tri (H0 H:Hp)(xs ys zs vs:List V)(i:Nat):Prop:=vs.length=i/\∀j,j<i->∃t x y z,vs[j]?=some (.ref t)/\xs[j]?=some x/\ys[j]?=some y/\zs[j]?=some z/\H t=some (.tup [x,y,z])/\H0 t=none
structure ZAt (X:Cx)(pins:List (Ad×Obj))(σ:St)(H:Hp)(n l1 l2 l3:Nat)(S:Ad)(xs ys zs:List V)(i:Nat)(s':Ac):Prop where
 ex:∃(H':Hp) (acc:List Ab) (vs:List V) (e:Nat) (f0 f1 a b c:Ab),Inv X pins σ H' s'/\(∀a o,H a=some o->H' a=some o)/\s'.heap.get? S=some {cls:=.type "list",dict:=none,data:=.seq acc.toArray e,slots:=#[]}/\H' S=none/\(∀b∈z3 n,H' b=none)/\
  xW s'.heap n l1 l2 l3 i f0 f1 a b c/\(i=0/\f0=.none\/∃(T:Nat) (ot:Obj),f0=rawInt (T:Nat)/\s'.heap.get? T=some ot/\T∉S::z3 n)/\Vals vs acc/\Tri H H' xs ys zs vs i
structure zu0 (X:Cx)(pins:List (Ad×Obj))(σ:St)(H:Hp)(S:Ad)(xs ys zs:List V)(s':Ac):Prop where
 ex:∃(H':Hp) (acc:List Ab) (vs:List V) (e:Nat),Inv X pins σ H' s'/\(∀a o,H a=some o->H' a=some o)/\s'.heap.get? S=some {cls:=.type "list",dict:=none,data:=.seq acc.toArray e,slots:=#[]}/\H' S=none/\Vals vs acc/\Tri H H' xs ys zs vs xs.length
def Tri.snoc {H0 H H':Hp}{xs ys zs vs:List V}{i:Nat}{t:Ad}{x y z:V}(h:Tri H0 H xs ys zs vs i)(k:∀a o,H a=some o->H' a=some o)(l:xs[i]?=some x)(hy:ys[i]?=some y)(d:zs[i]?=some z)(q:H' t=some (.tup [x,y,z]))(hn:H0 t=none):Tri H0 H' xs ys zs (vs++[.ref t]) (i+1):=by
 refine⟨by rw[zM8,h.1];rfl,λj u=>?_⟩;rcases zQ1 j i with b|b
 .obtain⟨t',g,c,e,e1,r,n,p,m,f⟩:=h.2 j b;exact⟨t',g,c,e,by rw[zN4 (by rw[h.1];exact b)];exact e1,r,n,p,k _ _ m,f⟩
 .have:j=i:=(zV6 (zU5 u) b);subst this;exact⟨t,x,y,z,by rw[zN9 (by rw[h.1];exact zK6 _),h.1];simp,l,hy,d,q,hn⟩
theorem iT {A:Al}{R:Result->Ac->Prop}{n l1 l2 l3:Nat}{S:Ad}{xs ys zs:List V}(hh:A.handled=none)(h1:l1<n)(h2:l2<n)(h3:l3<n)(fS:∀H',H' S=none->yO X pins H' S)(fz:∀b∈z3 n,∀H',H' b=none->yO X pins H' b)(m:S∉z3 n)
  (U:SqL X.K H l1 xs) (q2:SqL X.K H l2 ys) (q3:SqL X.K H l3 zs) (e2:ys.length=xs.length) (e3:zs.length=xs.length) (h0:0<xs.length) (hN:xs.length<=1000)
  (hR:∀s',zu0 X pins σ H S xs ys zs s'->R (.ok (.ret .none)) s'):
  ∀(k i:Nat) (s:Ac),xs.length-i=k->i<=xs.length->ZAt X pins σ H n l1 l2 l3 S xs ys zs i s->codeAny (Ag X.prog X.w) A (.builtin "list.extend.loop" ⟨[.ref S,.ref (n+5:Nat),.none],[]⟩) R s:=by
 intro k
 induction k with
 |zero=>
  intro i s hk hi B;have a6:=(zw7 hk hi);subst a6;obtain⟨H',acc,vs,e,f0,f1,a,b,c,I,st,L,nS,P,Z,fr,Q,tr⟩:=B.ex;refine zV8 PySem.F.entry_extend_loop ?_;rw[zU1 zV3 _];rcases fr with⟨z,_⟩|⟨T,ot,rfl,C,d⟩
  .exact(zQ6 _ (zK5 h0 (zM9 z))).elim
  obtain⟨G,y,p1,a0⟩:=I.list (xO U λa o _ e=>st a o e);refine zK0 (iS hh h1 h2 h3 Z C p1.isList (by rw[List.getElem?_toArray,zY1];rw[y.length];exact zK6 _) λh' j=>?_);refine zK2 (hR _ ⟨H',acc,vs,e,I.turnL (λb o hb q=>j b o hb q) (λb hb=>fz b hb H' (P b hb)),st,j _ _ m L,nS,Q,tr⟩)
 |succ k ih=>
  intro i s hk hi B;have r:=(zx4 hk);obtain⟨H',acc,vs,e,f0,f1,a,b,c,I,st,L,nS,P,Z,fr,Q,tr⟩:=B.ex;refine zV8 PySem.F.entry_extend_loop ?_;rw[zU1 zV3 _];obtain⟨G,y,p1,a0⟩:=I.list (xO U λa o _ e=>st a o e);obtain⟨a7,a2,p2,a9⟩:=I.list (xO q2 λa o _ e=>st a o e);obtain⟨a8,Y,p3,b0⟩:=I.list (xO q3 λa o _ e=>st a o e);have gx:=zK4 r;have gy:=zK4 (zK5 r (zM9 e2.symm));have gz:=zK4 (zK5 r (zM9 e3.symm));obtain⟨u,hu,ru⟩:=y.get gx;obtain⟨v,hv,a5⟩:=a2.get gy;obtain⟨w,hw,a1⟩:=Y.get gz;have t:acc.length=i:=by rw[<-Q.length,tr.1]
  have O:∀b∈z3 n,b<s.heap.objs.size:=λb hb=>by
   have:∃o,s.heap.get? b=some o:=by
    simp only[z3,zK8,zM5,zP8]at hb;obtain⟨o1,U,_⟩:=Z.i1;obtain⟨o2,q2,_⟩:=Z.i2;obtain⟨o3,q3,_⟩:=Z.i3;rcases hb with rfl|rfl|rfl|rfl|rfl|rfl
    .exact⟨_,U⟩
    .exact⟨_,q2⟩
    .exact⟨_,q3⟩
    .exact⟨_,Z.ti⟩
    .exact⟨_,Z.to⟩
    .exact⟨_,Z.z⟩
   obtain⟨o,q⟩:=this;exact zL0 q
  have main:∀h' l p W b' c',xW h' n l1 l2 l3 (i+1) l p W b' c'->(∃(T:Nat) (ot:Obj),l=rawInt T/\h'.get? T=some ot/\T∉S::z3 n)->h'.get? s.heap.objs.size=some (tO3 u v w)->
    (∀c o,c∉z3 n->s.heap.get? c=some o->h'.get? c=some o)->Aj (Ag X.prog X.w) A.in1 (updateSeq S (·.push (.ref s.heap.objs.size)) >>= λ_=>again (.builtin "list.extend.loop" ⟨[.ref S,.ref (n+5:Nat),.none],[]⟩))
     (λfin s'=>match fin with|.done f=>R (.ok f) s'|.again c'=>c'.quiet=true/\codeAny (Ag X.prog X.w) A c' R s') (λe s'=>R (.error e) s') {s with heap:=h'}:=by
   intro h' l p W b' c' h ⟨T,ot,hf,C,d⟩ D j;have nT:=I.hok.fresh (zK6 _);have a4:H s.heap.objs.size=none:=by
    cases q:H s.heap.objs.size with
    |none=>rfl
    |some o=>rw[st _ _ q]at nT;cases nT
   have E:∀a o,H' a=some o->upd H' s.heap.objs.size (.tup [xs[i],ys[i],zs[i]]) a=some o:=λa o q=>by rw[zj (zm q nT)];exact q
   have J:=I.turnLay (t':=s.toks) (o:=.tup [xs[i],ys[i],zs[i]]) j (λb hb=>fz b hb H' (P b hb)) (zK6 _) ⟨by show 3<=sizeLine;decide,[u,v,w],.cons ru (.cons a5 (.cons a1 .nil)),_,D,rfl,0,rfl⟩;have M:=j _ _ m L;have N:upd H' s.heap.objs.size (.tup [xs[i],ys[i],zs[i]]) S=none:=by rw[zj (zL9 (zL0 L))];exact nS
   obtain⟨e',a3⟩:∃e',(h'.update S (Obj.mapSeq (·.push (Value.ref s.heap.objs.size)))).get? S=some {cls:=.type "list",dict:=none,data:=.seq (acc++[Value.ref s.heap.objs.size]).toArray e',slots:=#[]}:=by
    have:=zV7 M λx=>x.push (Value.ref s.heap.objs.size);rw[List.push_toArray]at this;exact⟨_,this⟩
   refine zK0 ?_;refine zY0 M rfl (zK2 ⟨zZ9 zV3 _,ih (i+1) _ (zx0 hk) r ⟨_,acc++[.ref s.heap.objs.size],vs++[.ref s.heap.objs.size],e',l,p,W,b',c',
    J.turnL (ch:=[S]) (λb o hb q=>(zM0 _ _ (zP2 (by simpa using hb))).trans q) (λb hb=>by rw[zN1.mp hb];exact fS _ N),λa o q=>E _ _ (st a o q),a3,N,λb hb=>?_,?_,.inr ⟨T,ot,hf,?_,d⟩,Q.append (.cons (show RelV (.ref s.heap.objs.size) (.ref s.heap.objs.size)from rfl) .nil),tr.snoc E gx gy gz zl a4⟩⟩)
    (by rw[zM1,t,zP9];lia) (by show(acc.toArray.push _).size<=sizeLine+1;rw[Array.size_push,zM1,t,zP9];lia)
   .rw[zj]
    .exact P b hb
    .exact zL9 (O b hb)
   .have g:∀b o,b≠S->h'.get? b=some o->(h'.update S (Obj.mapSeq (·.push (Value.ref s.heap.objs.size)))).get? b=some o:=λb o hb q=>(zM0 _ _ (zP2 hb)).trans q;simp only[z3,zK8,zM5,zP8,not_or]at m;obtain⟨d1,d2,d3,d4,d5,d6⟩:=m;exact⟨g _ _ (zP2 d6) h.z,g _ _ (zP2 d4) h.ti,g _ _ (zP2 d5) h.to,h.i1.at λo q=>g _ o (zP2 d1) q,h.i2.at λo q=>g _ o (zP2 d2) q,h.i3.at λo q=>g _ o (zP2 d3) q⟩
   .exact(zM0 _ _ (λz=>d (by rw[<-z];exact zL7))).trans C
  rcases fr with⟨_,rfl⟩|⟨T,ot,rfl,C,d⟩
  .refine zK0 (oE h1 h2 h3 Z p1.isList p2.isList p3.isList (by simpa using hu) (by simpa using hv) (by simpa using hw) λh' h D j=>main h' _ _ _ _ _ h ⟨s.heap.objs.size,_,rfl,D,?_⟩ D j);intro z;rcases zK8.mp z with z|z
   .exact absurd (zL0 L) (by rw[<-z];exact zQ6 _)
   .exact absurd (O _ z) (zQ6 _)
  .exact zK0 (mO h1 h2 h3 Z C p1.isList p2.isList p3.isList (by simpa using hu) (by simpa using hv) (by simpa using hw) λh' p h D j=>main h' _ _ _ _ _ h ⟨T,ot,rfl,j _ _ (λz=>d (zL1 _ z)) C,d⟩ D j)
end
def sP (a b c:Ab):checkTypeCall "zip" ⟨[a,b,c],[]⟩=pure ():=by kernel_rfl
def sY (a b c:Ab):checkBuiltinCall "zip.__new__" ⟨[.type "zip",a,b,c],[]⟩=pure ():=by kernel_rfl
def vb (a b c d:Ab):argsOk "object.__init__" ⟨[a,b,c,d],[]⟩:=by unfold argsOk;rw[signature?_of (n:=['_','_','t','i','n','i','_','_']) (by kernel_rfl) PySem.F.owner_object];kernel_rfl
def mY :typeLookup (.type "zip") "__len__"=pure none:=by rw[z59,z06];kernel_rfl
def pQ :typeLookup (.type "zip") "__length_hint__"=pure none:=by rw[z59,z06];kernel_rfl
abbrev itO (l:Ad):Obj:={cls:=.type "list_iterator",data:=.fields #[.ref l,.int 0 0]}
abbrev zh3 (h:An)(l1 l2 l3:Ad):An:=((h.push (itO l1)).push (itO l2)).push (itO l3)
abbrev zh4 (h:An)(l1 l2 l3:Ad):An:=(zh3 h l1 l2 l3).push (tO3 (.ref h.objs.size) (.ref (h.push (itO l1)).objs.size) (.ref ((h.push (itO l1)).push (itO l2)).objs.size))
abbrev zh5 (h:An)(l1 l2 l3:Ad):An:=(zh4 h l1 l2 l3).push (tO3 .none .none .none)
abbrev zh6 (h:An)(l1 l2 l3:Ad):An:=(zh5 h l1 l2 l3).push (zO .none (.bool false) (zh3 h l1 l2 l3).objs.size (zh4 h l1 l2 l3).objs.size)
def tR (l1 l2 l3:Ad)(xs ys zs:Array Ab):
  Meets (Builtin.«zip.__new__» ⟨[.type "zip",.ref l1,.ref l2,.ref l3],[]⟩) (λ_ R s=>s.heap.IsList l1 xs/\s.heap.IsList l2 ys/\s.heap.IsList l3 zs/\
   R (.ok (.ret (.ref (zh5 s.heap l1 l2 l3).objs.size))) {s with heap:=zh6 s.heap l1 l2 l3}):=
 .of_wp λprog w A R s h=>by
  obtain⟨j,g,d,i,os⟩:=s;obtain⟨b,f,a,h⟩:=h;have k:=sub_zip;have e:Heap.IsList (Shared.heap ⟨j.push {cls:=.type "list_iterator",data:=.fields #[.ref l1,.int 0 0]},g,d,i,os⟩) l2 ys:=Heap.IsList.push f _;have c:Heap.IsList (Shared.heap ⟨(j.push {cls:=.type "list_iterator",data:=.fields #[.ref l1,.int 0 0]}).push {cls:=.type "list_iterator",data:=.fields #[.ref l2,.int 0 0]},g,d,i,os⟩) l3 zs:=Heap.IsList.push (Heap.IsList.push a _) _
  wp_walk using z03 b,z03 e,z03 c
  exact⟨_,rfl,h⟩
section
variable {prog:Ah}{w:Ak}{A:Al}{E:Ab->Ac->Prop}{s:Ac}
def mT {l1 l2 l3:Ad}{xs ys zs:Array Ab}{Q:Ab->Ac->Prop}(j:s.heap.IsList l1 xs)(k:s.heap.IsList l2 ys)(e:s.heap.IsList l3 zs)
  (h:∀h',xW h' s.heap.objs.size l1 l2 l3 0 .none (.bool false) .none .none .none->h'.objs.size=s.heap.objs.size+6->(∀c o,s.heap.get? c=some o->h'.get? c=some o)->Q (.ref (s.heap.objs.size+5)) {s with heap:=h'}):
  Aj (Ag prog w) A (call (.type "zip") [.ref l1,.ref l2,.ref l3]) Q E s:=by
 refine callType_new PySem.F.called_zip (by decide) (sP _ _ _) (sY _ _ _) (λobj=>vb obj _ _ _) PySem.F.entry_zip_new
  (tR l1 l2 l3 xs ys zs) ⟨j,k,e,?_⟩
 have i:(s.heap.push (itO l1)).objs.size=s.heap.objs.size+1:=zR9 ..;have b:((s.heap.push (itO l1)).push (itO l2)).objs.size=s.heap.objs.size+2:=by rw[zR9,i]
 have a:(zh3 s.heap l1 l2 l3).objs.size=s.heap.objs.size+3:=by rw[zR9,b]
 have g:(zh4 s.heap l1 l2 l3).objs.size=s.heap.objs.size+4:=by rw[zR9,a]
 have d:(zh5 s.heap l1 l2 l3).objs.size=s.heap.objs.size+5:=by rw[zR9,g]
 have n:(zh6 s.heap l1 l2 l3).objs.size=s.heap.objs.size+6:=by rw[zR9,d]
 have f:(zh6 s.heap l1 l2 l3).get? (zh5 s.heap l1 l2 l3).objs.size=some _:=zL2 _ rfl;have m:(zh6 s.heap l1 l2 l3).get? (zh4 s.heap l1 l2 l3).objs.size=some _:=zK1 _ (zL2 _ rfl);have l:(zh6 s.heap l1 l2 l3).get? (zh3 s.heap l1 l2 l3).objs.size=some _:=zK1 _ (zK1 _ (zL2 _ rfl));have g3:(zh6 s.heap l1 l2 l3).get? ((s.heap.push (itO l1)).push (itO l2)).objs.size=some _:=zK1 _ (zK1 _ (zK1 _ (zL2 _ rfl)));have g2:(zh6 s.heap l1 l2 l3).get? (s.heap.push (itO l1)).objs.size=some _:=zK1 _ (zK1 _ (zK1 _ (zK1 _ (zL2 _ rfl))));have g1:(zh6 s.heap l1 l2 l3).get? s.heap.objs.size=some _:=zK1 _ (zK1 _ (zK1 _ (zK1 _ (zK1 _ (zL2 _ rfl)))));rw[d,g,a]at f;rw[g]at m;rw[a,b,i]at l;rw[b]at g3;rw[i]at g2;rw[d];exact⟨⟨_,f,rfl⟩,h _ ⟨f,l,m,⟨_,g1,rfl,rfl⟩,⟨_,g2,rfl,rfl⟩,⟨_,g3,rfl,rfl⟩⟩ n λc o x=>
  zK1 _ (zK1 _ (zK1 _ (zK1 _ (zK1 _ (zK1 _ x)))))⟩
end
section
variable {X:Cx}{pins:List (Ad×Obj)}{σ:St}{H:Hp}{s:Ac}
def iU {A:Al}{R:Result->Ac->Prop}{n l1 l2 l3:Nat}{S:Ad}{xs ys zs:List V}(P:A.handled=none)(M:l1<n)(N:l2<n)(L:l3<n)(I:Inv X pins σ H s)(Z:xW s.heap n l1 l2 l3 0 .none (.bool false) .none .none .none)(u:s.heap.get? S=some {cls:=.type "list",data:=.seq #[]})
  (G:H S=none) (nz:∀b∈z3 n,H b=none) (y:∀H',H' S=none->yO X pins H' S) (fz:∀b∈z3 n,∀H',H' b=none->yO X pins H' b) (p:S∉z3 n)
  (U:SqL X.K H l1 xs) (q2:SqL X.K H l2 ys) (q3:SqL X.K H l3 zs) (Q:ys.length=xs.length) (e3:zs.length=xs.length) (h0:0<xs.length) (hN:xs.length<=1000)
  (T:∀s',zu0 X pins σ H S xs ys zs s'->R (.ok (.ret .none)) s'):
  Aj (Ag X.prog X.w) A.in1 (Builtin.«list.__init__» ⟨[.ref S,.ref (n+5:Nat)],[]⟩)
   (λfin s'=>match fin with|.done f=>R (.ok f) s'|.again c'=>c'.quiet=true/\codeAny (Ag X.prog X.w) A c' R s') (λe s'=>R (.error e) s') s:=by
 have i:=p;simp only[z3,zK8,zM5,zP8,not_or]at i;obtain⟨B,J,C,D,E,t⟩:=i;show Aj _ _ (do let old <-Builtin.List.listItems (.ref S);Builtin.List.listUpdate (.ref S) (λ_=>#[]);letGo old.toList.reverse;Builtin.List.listExtendWith (.ref S) (.ref (n+5:Nat)) .none) _ _ s;refine zK0 ?_;unfold Builtin.List.listItems;refine zK0 (zU0 u rfl (zK2 ?_));refine zK0 (zY0 u rfl ?_);obtain⟨l,d⟩:∃l,(s.heap.update S (Obj.mapSeq (λ_=>(#[]:Array Ab)))).get? S=some {cls:=.type "list",dict:=none,data:=.seq #[] l,slots:=#[]}:=⟨_,zV7 u λ_=>#[]⟩;have c:∀b o,b≠S->s.heap.get? b=some o->(s.heap.update S (Obj.mapSeq (λ_=>(#[]:Array Ab)))).get? b=some o:=
  λb o hb e=>(zM0 _ _ (zP2 hb)).trans e
 have r:xW (s.heap.update S (Obj.mapSeq (λ_=>(#[]:Array Ab)))) n l1 l2 l3 0 .none (.bool false) .none .none .none:=⟨c _ _ (zP2 t) Z.z,c _ _ (zP2 D) Z.ti,c _ _ (zP2 E) Z.to,Z.i1.at λo q=>c _ o (zP2 B) q,Z.i2.at λo q=>c _ o (zP2 J) q,Z.i3.at λo q=>c _ o (zP2 C) q⟩;refine zK0 (wpAny_letGo ?_);have m:({s with heap:=s.heap.update S (Obj.mapSeq (λ_=>(#[]:Array Ab)))}:Ac).TypeIs (.ref (n+5:Nat)) "zip":=⟨_,r.z,rfl⟩;unfold Builtin.List.listExtendWith;refine zK0 (wpAny_typeOf m ?_);have b1:Builtin.List.listSameRef (.ref S) (.ref (n+5:Nat))=false:=by simp[Builtin.List.listSameRef];exact t
 have b2:(Value.type "zip" == Value.type "list")=false:=by decide
 have O:(Value.type "zip" == Value.type "tuple")=false:=by decide
 simp only[b1,b2,O,Bool.or_false,zV2,z38];refine zK0 (wpAny_pyIter_slot m PySem.F.slot_zip_iter (zR5 PySem.F.slot_zip_iter m PySem.F.entry_zip_iter ?_ (PySem.F.args_zip_iter_1 _)));refine zK2 ⟨_,rfl,"zip",_,m,zT0.lookup,zK0 (zP3 ?_)⟩;unfold Builtin.List.listLengthHint;refine zK0 (z58 m mY ?_);refine zK0 (z58 m pQ (zK2 ?_));have key:∀(h:An) (e:Nat),h.get? S=some {cls:=.type "list",dict:=none,data:=.seq #[] e,slots:=#[]}->(∀b o,b≠S->s.heap.get? b=some o->h.get? b=some o)->codeAny (Ag X.prog X.w) A (.builtin "list.extend.loop" ⟨[.ref S,.ref (n+5:Nat),.none],[]⟩) R {s with heap:=h}:=by
  intro h e v a;refine iT P M N L y fz p U q2 q3 Q e3 h0 hN T xs.length 0 _ (by lia) (zL6 _) ⟨H,[],[],e,.none,.bool false,.none,.none,.none,I.turnL (ch:=[S]) (λb o hb q=>a b o (by simpa using hb) q) (λb hb=>by rw[zN1.mp hb];exact y H G),λ_ _ e=>e,v,G,nz,?_,.inl ⟨rfl,rfl⟩,.nil,rfl,λj W=>absurd W (z60 _)⟩;exact⟨a _ _ (zP2 t) Z.z,a _ _ (zP2 D) Z.ti,a _ _ (zP2 E) Z.to,Z.i1.at λo q=>a _ o (zP2 B) q,Z.i2.at λo q=>a _ o (zP2 J) q,Z.i3.at λo q=>a _ o (zP2 C) q⟩
 refine zP1 (λ_=>zK0 (zT9 ?_)) (λ_=>zK2 ⟨zZ9 zV3 _,key _ _ d c⟩);refine zK0 ?_;refine zK0 (zY0 d rfl ?_);obtain⟨a0,g⟩:∃l,((s.heap.update S (Obj.mapSeq (λ_=>(#[]:Array Ab)))).update S (Obj.mapSeq (·.push Value.none))).get? S=some {cls:=.type "list",dict:=none,data:=.seq #[.none] l,slots:=#[]}:=⟨_,zV7 d λx=>x.push Value.none⟩;refine zY0 g rfl ?_;obtain⟨Y,k⟩:∃l,(((s.heap.update S (Obj.mapSeq (λ_=>(#[]:Array Ab)))).update S (Obj.mapSeq (·.push Value.none))).update S (Obj.mapSeq (·.pop))).get? S=some {cls:=.type "list",dict:=none,data:=.seq #[] l,slots:=#[]}:=⟨_,zV7 g λx=>x.pop⟩;exact zK2 ⟨zZ9 zV3 _,key _ _ k λb o hb e=>(zM0 _ _ (zP2 hb)).trans ((zM0 _ _ (zP2 hb)).trans (c b o hb e))⟩
end
section
variable {X:Cx}{pins:List (Ad×Obj)}{σ:St}{H:Hp}{s:Ac}
def tI {A:Al}{E:Ab->Ac->Prop}{Q:Ab->Ac->Prop}{n l1 l2 l3:Nat}{xs ys zs:List V}(r:A.handled=none)(m:l1<n)(p:l2<n)(C:l3<n)(I:Inv X pins σ H s)(Z:xW s.heap n l1 l2 l3 0 .none (.bool false) .none .none .none)
  (x:∀b∈z3 n,H b=none) (B:∀b∈z3 n,∀H',H' b=none->yO X pins H' b)
  (f:SqL X.K H l1 xs) (i:SqL X.K H l2 ys) (g:SqL X.K H l3 zs) (t:ys.length=xs.length) (y:zs.length=xs.length) (h0:0<xs.length) (v:xs.length<=1000)
  (u:∀D s',s.heap.objs.size<=D->zu0 X pins σ H D xs ys zs s'->(∀H',H' D=none->yO X pins H' D)->Q (.ref D) s'):
  Aj (Ag X.prog X.w) A (call (.type "list") [.ref (n+5:Nat)]) Q E s:=by
 refine callType_codes (Q₁:=λobj a=>obj=.ref s.heap.objs.size/\a={s with heap:=s.heap.push {cls:=.type "list",data:=.seq #[]}}) PySem.F.called_list (PySem.F.typeCall_list_1 _) PySem.F.entry_list_init
  (code_list_new _ ⟨rfl,rfl⟩) λobj a c=>?_
 obtain⟨rfl,rfl⟩:=c;have k:(s.heap.push {cls:=.type "list",data:=.seq #[]}).get? s.heap.objs.size=some {cls:=.type "list",data:=.seq #[]}:=zL2 _ rfl;have up:∀b o,s.heap.get? b=some o->(s.heap.push {cls:=.type "list",data:=.seq #[]}).get? b=some o:=λb o e=>zK1 _ e;have j:∀H':Hp,H' s.heap.objs.size=none->yO X pins H' s.heap.objs.size:=λH' h=>I.fpOk (zK6 _) h;have d:s.heap.objs.size∉z3 n:=λhb=>by
  have:∃o,s.heap.get? s.heap.objs.size=some o:=by
   simp only[z3,zK8,zM5,zP8]at hb;obtain⟨J,f,_⟩:=Z.i1;obtain⟨L,i,_⟩:=Z.i2;obtain⟨G,g,_⟩:=Z.i3;rcases hb with z|z|z|z|z|z<;>rw[z]
   .exact⟨_,f⟩
   .exact⟨_,i⟩
   .exact⟨_,g⟩
   .exact⟨_,Z.ti⟩
   .exact⟨_,Z.to⟩
   .exact⟨_,Z.z⟩
  obtain⟨o,q⟩:=this;exact absurd (zL0 q) (zQ6 _)
 refine⟨⟨_,k,rfl⟩,PySem.F.args_list_init_2 _ _,iU r m p C (I.kept up) ⟨up _ _ Z.z,up _ _ Z.ti,up _ _ Z.to,Z.i1.at λo q=>up _ o q,Z.i2.at λo q=>up _ o q,Z.i3.at λo q=>up _ o q⟩ k (I.hok.fresh (zK6 _)) x j B d f i g t y h0 v λs' l=>⟨rfl,u _ s' (zK6 _) l j⟩⟩
variable {a b c:Am}{p p0 pos pos2:Pos}
def oM {N:TA}(hc:X.calm=true)(hgl:Gl X "list")(A:X.mg "list"=none)(hg:Gl X "zip")(hm:X.mg "zip"=none)(ha:PA X [a,b,c] N)
  (t:Af [.Call (.Name "zip" p) [a,b,c] [] pos2] X.env=[(false,eval (.Call (.Name "zip" p) [a,b,c] [] pos2) X.env)]:=by rfl)
  (hs:Af [a,b,c] X.env=(false,eval a X.env)::Af [b,c] X.env:=by rfl) (hpl:(backTo pos2 (Af [b,c] X.env)).any (·.1)=false:=by rfl):
  PE X (.Call (.Name "list" p0) [.Call (.Name "zip" p) [a,b,c] [] pos2] [] pos) (λσ H Q=>N σ H λvs H1=>∃(l1 l2 l3:Ad) (xs ys zs:List V),vs=[.ref l1,.ref l2,.ref l3]/\SqL X.K H1 l1 xs/\SqL X.K H1 l2 ys/\SqL X.K H1 l3 zs/\ys.length=xs.length/\zs.length=xs.length/\0<xs.length/\xs.length<=1000/\
   ∀D H' vs,H1 D=none->(∀a o,H1 a=some o->H' a=some o)->H' D=some (.lst vs)->(∃g,(∀a o,g a=some o->a≠D/\H' a=some o)/\Tri H1 g xs ys zs vs xs.length)->Q (.ref D) H'):=by
 intro pins s σ H Q I h;refine Call_ (xw I hgl A boot_list (zR1 ?_ t rfl));rw[t];refine Calls.spliced_cons ?_;refine Call_ (xw I hg hm boot_zip (zR1 (thn (ha pos2 pins s σ H _ I h) λus s1 F=>?_) hs hpl));obtain⟨vs,H1,f,d,q1⟩:=F;obtain⟨l1,l2,l3,xs,ys,zs,e,j,r,m,e2,e3,h0,G,q⟩:=q1;subst e;obtain⟨u,v,w,rfl,ru,rv,C⟩:∃u v w,us=[u,v,w]/\RelV (.ref l1) u/\RelV (.ref l2) v/\RelV (.ref l3) w:=by
  cases d with
  |cons a d=>
   cases d with
   |cons b d=>
    cases d with
    |cons c d=>
     cases d;exact⟨_,_,_,rfl,a,b,c⟩
 cases(ru);cases(rv);cases(C);obtain⟨J,S,p1,U⟩:=f.list j;obtain⟨L,a1,p2,Y⟩:=f.list r;obtain⟨M,T,p3,a0⟩:=f.list m;refine mT p1.isList p2.isList p3.isList λh' Z sz hk=>?_;have E:l1<s1.heap.objs.size:=by obtain⟨o,e,_⟩:=p1.isList;exact zL0 e
 have y:l2<s1.heap.objs.size:=by obtain⟨o,e,_⟩:=p2.isList;exact zL0 e
 have B:l3<s1.heap.objs.size:=by obtain⟨o,e,_⟩:=p3.isList;exact zL0 e
 have le:∀b∈z3 s1.heap.objs.size,s1.heap.objs.size<=b:=λb hb=>by
  simp only[z3,zK8,zM5,zP8]at hb;have key:∀n b:Nat,(b=n\/b=n+1\/b=n+2\/b=n+3\/b=n+4\/b=n+5)->n<=b:=λn b h=>by lia
  exact key _ _ hb
 have O:Inv X pins σ H1 {s1 with heap:=h',toks:=s1.toks}:=f.kept λb o e=>hk b o e;refine zO9 (show Aj _ _ (spliced []) (λvs l=>vs=[]/\l={s1 with heap:=h'}) X.xe {s1 with heap:=h'}from zK2 ⟨rfl,rfl⟩) (λvs s2 R=>?_) λ_ _ z=>z;obtain⟨rfl,rfl⟩:=R;refine tI (I.ok.hd hc) E y B O Z (λb hb=>f.hok.fresh (le b hb)) (λb hb H' hn=>f.fpOk (le b hb) hn) j r m e2 e3 h0 G λD s' lD ze fD=>?_;obtain⟨H',acc,vs,e,I',st,W,P,x,i⟩:=ze.ex;have k:∀a o,H' a=some o->a≠D/\upd H' D (.lst vs) a=some o:=λa o q=>by
  have n:a≠D:=λz=>by rw[z,P]at q;cases q
  exact⟨n,by rw[zj n];exact q⟩
 refine⟨.ref D,upd H' D (.lst vs),I'.adopt (fD H' P) ⟨?_,acc,e,x,W⟩,rfl,q D _ vs (O.hok.fresh lD) (λa o q=>(k a o (st a o q)).2) zl ⟨H',k,i⟩⟩;rw[i.1,zP9];exact zx2 G
end
def za5 (a b c:Aa):Aa:=.tuple [a,b,c]
def xI :List Aa->List Aa->List Aa->List Aa
 |a::as,b::bs,c::cs=>za5 a b c::xI as bs cs
 |_,_,_=>[]
theorem vZ :∀{as bs cs:List Aa},bs.length=as.length->cs.length=as.length->(xI as bs cs).length=as.length
 |[],_,_,_,_=>rfl
 |a::as,b::bs,c::cs,d,e=>by rw[xI,zN0,zN0,vZ (by simpa using d) (by simpa using e)]
theorem uf :∀{as bs cs:List Aa}{j:Nat}{d:Aa},(xI as bs cs)[j]?=some d->∃a b c,as[j]?=some a/\bs[j]?=some b/\cs[j]?=some c/\d=za5 a b c
 |[],_,_,j,d,h=>by simp[xI]at h
 |a::as,[],_,j,d,h=>by simp[xI]at h
 |a::as,b::bs,[],j,d,h=>by simp[xI]at h
 |a::as,b::bs,c::cs,0,d,h=>by simp[xI]at h;exact⟨a,b,c,rfl,rfl,rfl,h.symm⟩
 |a::as,b::bs,c::cs,j+1,d,h=>by
  obtain⟨x,y,z,e1,g,e,f⟩:=uf (by simpa[xI]using h);exact⟨x,y,z,by simpa using e1,by simpa using g,by simpa using e,f⟩
theorem kh {G:Hp}:∀{vs:List V}{ds:List Aa},vs.length=ds.length->(∀(j:Nat) d,ds[j]?=some d->∃v,vs[j]?=some v/\AV G v d)->AVs G vs ds
 |[],[],_,_=>.nil
 |v::vs,d::ds,b,h=>by
  obtain⟨c,e,a⟩:=h 0 d rfl;cases e;exact .cons a (kh (by simpa using b) λj d' hd=>h (j+1) d' (by simpa using hd))
section
variable {X:Cx}{O:Ev}{a b c:Am}{p p0 pos pos2:Pos}
theorem pz {Q:List Aa->Prop}(hc:X.calm=true)(hgl:Gl X "list")(n:X.mg "list"=none)(hg:Gl X "zip")(hm:X.mg "zip"=none)
  (h:EvA X O [a,b,c] λas=>∃ds es fs,as=[.dat (.list ds),.dat (.list es),.dat (.list fs)]/\es.length=ds.length/\fs.length=ds.length/\0<ds.length/\ds.length<=1000/\Q (xI ds es fs))
  (s:Af [.Call (.Name "zip" p) [a,b,c] [] pos2] X.env=[(false,eval (.Call (.Name "zip" p) [a,b,c] [] pos2) X.env)]:=by rfl)
  (N:Af [a,b,c] X.env=(false,eval a X.env)::Af [b,c] X.env:=by rfl) (hpl:(backTo pos2 (Af [b,c] X.env)).any (·.1)=false:=by rfl):
  EvL X O (.Call (.Name "list" p0) [.Call (.Name "zip" p) [a,b,c] [] pos2] [] pos) Q:=λF σ H R m k=>by
 refine⟨_,oM hc hgl n hg hm yv s N hpl,h F σ H _ m λas vs H1 U t1 k1 f=>?_⟩;have m1:=m.kz k1 t1;obtain⟨ds,es,fs,rfl,l2,l3,L,K,q⟩:=U;cases f with
 |cons Z f=>
  cases f with
  |cons r2 f=>
   cases f with
   |cons P f=>
    cases f;obtain⟨a1,xs,rfl,g1,w⟩:=AV.lst_inv Z;obtain⟨a2,ys,rfl,g2,B⟩:=AV.lst_inv r2;obtain⟨Y,zs,rfl,g3,E⟩:=AV.lst_inv P;have g:=w.length;refine⟨a1,a2,Y,xs,ys,zs,rfl,SqL.of (zi g1).2,SqL.of (zi g2).2,SqL.of (zi g3).2,(B.length.trans (l2.trans g.symm)),(E.length.trans (l3.trans g.symm)),(zK5 L (zM9 g.symm)),(zL8 (zM9 g) K),λD H' vs l st r tr=>?_⟩;obtain⟨G,sb,i⟩:=tr;have A:zr H1 H':=λa o e=>st a o e;refine k _ _ H' q (t1.same A) (k1.trans (Kz.of_same A)) ⟨D,vs,rfl,?_,r,?_⟩
    .cases z:H D with
     |none=>rfl
     |some o=>rw[k1 D o z (m.tp.nt (ow0 (m1.fresh l)))]at l;cases l
    .have u:zr (Gz F O σ H1) (sub (λx=>¬Ow F O σ x/\x≠D) H'):=zo λa o h e=>⟨⟨h,zm e l⟩,st a o e⟩;refine kh (by rw[i.1,vZ l2 l3];exact g) λj d hd=>?_;obtain⟨d1,d2,d3,e1,S,e3,rfl⟩:=uf hd;have V:j<xs.length:=by rw[g];exact(zK7.mp e1).1
     obtain⟨t,x,y,z,f1,f2,J,f4,f5,f6⟩:=i.2 j V;obtain⟨x',ex,W⟩:=w.get e1;obtain⟨y',v,I⟩:=B.get S;obtain⟨z',C,T⟩:=E.get e3;rw[f2]at ex;cases ex;rw[J]at v;cases v;rw[f4]at C;cases C;obtain⟨nt,M⟩:=sb t _ f5;exact⟨_,f1,.tup (zD ⟨m1.fresh f6,nt⟩ M) (.cons (W.same u) (.cons (I.same u) (.cons (T.same u) .nil)))⟩
theorem nI {ns:List Int}{d:List Ab}(h:Vals (ns.map V.int) d):∃ps:List (Int×Tok),d=ps.map (λp=>Value.int p.1 p.2)/\ps.map (·.1)=ns:=by
 induction ns generalizing d with
 |nil=>cases h;exact⟨[],rfl,rfl⟩
 |cons n ns g=>cases h with
  |cons h f=>
   obtain⟨ps,e1,e⟩:=g f;obtain⟨t,rfl⟩:=h;exact⟨(n,t)::ps,by rw[e1];rfl,by rw[<-e];rfl⟩
def sT (ps:List (Int×Tok))(k:Nat):numAt ps.toArray k=(ps.map (·.1)).getD k 0:=by
 unfold numAt;rw[List.getElem?_toArray,zL4,zM3]
theorem wq (ps:List (Int×Tok)):∀k,k<=ps.length->preSum (numAt ps.toArray) k=((ps.map (·.1)).take k).sum
 |0,_=>by simp[preSum]
 |k+1,h=>by
  have hk:k<(ps.map (·.1)).length:=by rw[zK3];exact zK5 (zQ7 _) h
  rw[preSum,wq ps k (zL8 (zN3 _ _) h),sT,zW5,zK4 hk,List.sum_append,zL4,zK4 hk];simp
def Fits (ns:List Int):Prop:=∀k,k<=ns.length->-(2 ^ 62)<=(ns.take k).sum/\(ns.take k).sum<2 ^ 62
def iD (o:X.calm=true):xj X (.builtin "sum") (λxs H Q=>∃(l:Ad) (ns:List Int),xs=[.ref l]/\SqL X.K H l (ns.map V.int)/\(∀n∈ns,-(2 ^ 62)<=n/\n<2 ^ 62)/\Fits ns/\Q (.int ns.sum) H):=by
 intro pins s σ H xs us Q I r h;obtain⟨l,ns,rfl,k,hb,hf,q⟩:=h;obtain⟨u,rfl,t⟩:=Vals.one r;cases(t);obtain⟨g,m,p,w⟩:=I.list k;obtain⟨ps,rfl,rfl⟩:=nI m;have i:s.heap.IsList l (intItems ps.toArray):=by
  have:=p.isList
  rwa [show intItems ps.toArray=(ps.map λp=>Value.int p.1 p.2).toArray by simp[intItems]]
 refine sum_intList (I.ok.hd o) i (λj v=>?_) λh' x t' hk=>?_
 .have d:j<ps.length:=by simpa using v
  have hk:j<(ps.map (·.1)).length:=by rw[zK3];exact d
  rw[wq ps (j+1) (d),sT,zL4,zK4 hk];have e:=hb _ (zX2 hk);have f:=hf (j+1) (hk);refine⟨⟨?_,?_⟩,?_,?_⟩
  .show -(2 ^ 63)<=(ps.map (·.1))[j];exact zg5 e.1
  .show(ps.map (·.1))[j]<2 ^ 63;exact zf7 e.2
  .exact zg5 f.1
  .exact zf7 f.2
 .rw[show preSum (numAt ps.toArray) ps.toArray.size=(ps.map (·.1)).sum by rw[zM1,wq ps ps.length (zK6 _),<-zK3,zT3]];exact⟨.int _,H,I.kept hk,⟨_,rfl⟩,q⟩
def ai {Q:Aa->Prop}{e:Am}(j:X.calm=true)(hg:Gl X "sum")(hm:X.mg "sum"=none)(h:EvD X O e λx=>∃ns:List Int,x=.list (ns.map .int)/\(∀n∈ns,-(2 ^ 62)<=n/\n<2 ^ 62)/\Fits ns/\Q (.int ns.sum))(he:Af [e] X.env=(false,eval e X.env)::Af [] X.env:=by rfl):
  EvD X O (.Call (.Name "sum" p) [e] [] pos) Q:=by
 refine tw (iD j) hg hm boot_sum (zk (h.imp λx d=>?_) he) (he:=he);obtain⟨ns,e1,hb,hf,q⟩:=d;refine zu ?_;intro F σ H vs R m i k;subst e1;obtain⟨v,rfl,av⟩:=i.one;obtain⟨a,xs,rfl,f,g⟩:=av.lst_inv;cases g.ints;exact⟨a,ns,rfl,SqL.of (zi f).2,hb,hf,k _ _ H q m.tp Kz.refl (.int _)⟩
end
def yJ :List Int->List Bool->List Int
 |z::zs,b::bs=>if b=true then yJ zs bs else z::yJ zs bs
 |_,_=>[]
theorem ug :∀{zs:List Int}{bs:List Bool}{z:Int},z∈yJ zs bs->z∈zs
 |[],_,z,h=>by simp[yJ]at h
 |y::zs,[],z,h=>by simp[yJ]at h
 |y::zs,b::bs,z,h=>by
  rw[yJ]at h;split at h
  .exact zL1 _ (ug h)
  .rcases zK8.mp h with e|h
   .rw[e];exact zL7
   .exact zL1 _ (ug h)
theorem qg :∀(zs:List Int) (bs:List Bool),(yJ zs bs).length<=zs.length
 |[],_=>by simp[yJ]
 |y::zs,[]=>by simp[yJ]
 |y::zs,b::bs=>by
  rw[yJ];have:=qg zs bs;split
  .rw[zN0];exact zL8 this (zN3 _ _)
  .rw[zN0,zN0];exact Nat.add_le_add this (zK6 _)
theorem sum_bound :∀{ns:List Int}{m:Int},0<=m->(∀n∈ns,0<=n/\n<=m)->0<=ns.sum/\ns.sum<=ns.length*m
 |[],m,_,_=>by simp
 |n::ns,m,h0,h=>by
  obtain⟨a,b⟩:=sum_bound h0 λx c=>h x (zL1 _ c);have:=h n zL7;rw[List.sum_cons,zN0,Int.natCast_add,Int.add_mul]
  constructor
  .exact Int.add_nonneg this.1 a
  .simp;exact zJ7 this.2 b
def mi {ns:List Int}(h:∀n∈ns,0<=n/\n<=1000000000000)(c:ns.length<=1000):Fits ns:=λk hk=>by
 obtain⟨a,b⟩:=sum_bound (ns:=ns.take k) (by decide) λn hn=>h n (zU2 hn);have:((ns.take k).length:Int)*1000000000000<=1000*1000000000000:=by
  apply Int.mul_le_mul_of_nonneg_right _ (by decide);rw[zR4];exact zG0 c
 lia
def zr4 (p:Nat):Aa->Aa
 |.tuple [a,b,c]=>if p=1 then b else c
 |_=>.none
def tu :Aa->Bool
 |.tuple [_,_,.bool b]=>b
 |_=>false
theorem tK :∀{ds:List Aa}{zs:List Int}{bs:List Bool},zs.length=ds.length->bs.length=ds.length->((xI ds (zs.map .int) (bs.map .bool)).filter λd=>!tu d).map (zr4 1)=(yJ zs bs).map .int
 |[],[],[],_,_=>rfl
 |d::ds,z::zs,b::bs,c,e=>by
  have a:=tK (by simpa using c) (by simpa using e);rw[zP4,zP4,xI,yJ,zZ3];cases b with
  |true=>simpa[tu,za5]using a
  |false=>simp[tu,za5,zr4];exact a
def xT (d:Aa)(zs:List Int)(bs:List Bool):Prop:=(d=.none/\bs=List.replicate zs.length false)\/∃many free:Nat,d=.tuple [.int many,.int free]/\uK zs many free zs.length bs
def xT.len {d:Aa}{zs:List Int}{bs:List Bool}(h:xT d zs bs):bs.length=zs.length:=by
 rcases h with⟨_,rfl⟩|⟨_,_,_,h⟩
 .simp
 .exact h.1
def gQ (d:Aa):Prop:=d=.none\/∃many free:Nat,d=.tuple [.int many,.int free]/\0<free/\free<many/\many<64
def pS {many free:Nat}{zs:List Int}{bs:List Bool}(h:xT (.tuple [.int many,.int free]) zs bs):uK zs many free zs.length bs:=by
 rcases h with⟨h,_⟩|⟨d,c,h,mk⟩
 .cases h
 .injection h with h;injection h with b a;injection a with a _;injection b with b;injection a with a;rw[((zi8 b)),((zi8 a))]at mk;exact mk
section
variable {κ:Type}[DecidableEq κ]
def sZ (kvs:List (κ×V))(k:κ):Option V:=(kvs.find? λa=>decide (a.1=k)).map (·.2)
def tU {p:κ×V}{r:List (κ×V)}{k:κ}(e:p.1=k):sZ (p::r) k=some p.2:=by simp[sZ,zQ5,e]
def tY {p:κ×V}{r:List (κ×V)}{k:κ}(e:¬p.1=k):sZ (p::r) k=sZ r k:=by simp[sZ,zQ5,e]
theorem KV.val {kvs:List (κ×V)}{vs:List (κ×Ab)}(r:KV kvs vs)(k:κ):vP (sZ kvs k) (valueAt vs k):=by
 unfold KV at r
 induction r with
 |nil=>exact True.intro
 |@cons p q ps qs h t ih=>
  obtain⟨c,d⟩:=h;by_cases e:p.1=k
  .have a:=c.symm.trans e;have b:valueAt (q::qs) k=some q.2:=by simp[valueAt,zQ5,a]
   rw[tU e,b];exact d
  .have a:¬q.1=k:=λz=>e (c.trans z);have b:valueAt (q::qs) k=valueAt qs k:=by simp[valueAt,zQ5,a]
   rw[tY e,b];exact ih
end
theorem ze7 {P:Ah}{w:Ak}{k:Key}{u:Ab}(r:RelV (kV k) u):(yH P w).is k u=true:=by
 cases k with
 |inl i=>obtain⟨t,e⟩:=(r);subst e;exact oG P w i t
 |inr x=>obtain⟨t,e⟩:=(r);subst e;exact og P w x t
theorem rK {P:Ah}{w:Ak}:∀{ks:List Key}{us:List Ab},Vals (ks.map kV) us->ItemsAre (yH P w) ks us
 |[],_,r=>by rw[List.map_nil]at r;cases r;exact .nil
 |k::ks,_,r=>by
  rw[zP4]at r;cases r with
  |cons h t=>exact .cons (ze7 h) (rK t)
abbrev KT (H:Hp):List (List Key×V)->List (List Key×Ad×Ab)->Prop:=Paired λp q=>p.1=q.1/\H q.2.1=some (.tup (p.1.map kV))/\RelV p.2 q.2.2
theorem KT.val {H:Hp}{kvs:List (List Key×V)}{xs:List (List Key×Ad×Ab)}(r:KT H kvs xs)(k:List Key):vP (sZ kvs k) ((atKey xs k).map (·.2)):=by
 induction r with
 |nil=>exact True.intro
 |@cons p q ps qs h t ih=>
  obtain⟨c,_,d⟩:=h;by_cases e:p.1=k
  .have a:=c.symm.trans e;have b:atKey (q::qs) k=some q.2:=by simp[atKey,zQ5,a]
   rw[tU e,b];exact d
  .have a:¬q.1=k:=λz=>e (c.trans z);have b:atKey (q::qs) k=atKey qs k:=by simp[atKey,zQ5,a]
   rw[tY e,b];exact ih
section
variable {P:Ah}{w:Ak}{H:Hp}{h:An}{a:Ad}
def zg3 {u:HO}(ok:HOk P w H h)(e:Rd H a u):yr P w H h a u:=e.ok ok
def zf0 {kvs:List (Key×V)}(ok:HOk P w H h)(e:Rd H a (.dK kvs)):kvs.length<=sizeLine/\(a == sysModules)=false/\∃vs,KV kvs vs/\h.DictOf (yH P w) a vs:=
 show yr P w H h a (.dK kvs)from zg3 ok e
def fO {ks:List Key}(ok:HOk P w H h)(e:H a=some (.tup (ks.map kV))):(tupleKind (yH P w)).is h ks a:=by
 obtain⟨_,b,r,o,d,f,n,c⟩:=(ok a _ e);exact⟨o,b.toArray,n,d,f,c,by simpa using rK r⟩
def zg7 {kvs:List (List Key×V)}(ok:HOk P w H h)(e:Rd H a (.dT kvs)):kvs.length<=sizeLine/\(a == sysModules)=false/\
  ∃xs,KT H kvs xs/\h.DictOfH (tupleKind (yH P w)) a xs:=by
 obtain⟨z,y,xs,r,o,es,ep,d,f,i,g,c⟩:=(zg3 ok e);refine⟨z,y,xs,r,o,es,ep,d,f,i,g,λx b=>?_,c⟩;have all:∀{l:List (List Key×V)} {m:List (List Key×Ad×Ab)},KT H l m->∀x∈m,(tupleKind (yH P w)).is h x.1 x.2.1:=by
  intro l m q
  induction q with
  |nil=>intro x b;exact nomatch b
  |@cons p q ps qs hq t ih=>
   intro x b;rcases zK8.mp b with e|b
   .subst e;exact fO ok (by rw[<-hq.1];exact hq.2.1)
   .exact ih x b
 exact all r x b
end
def zr6 (H:Hp)(a:Ad)(y:V)(r:Option V):Prop:=
 (∃kvs k,Rd H a (.dK kvs)/\y=kV k/\r=sZ kvs k)\/∃kvs k b,Rd H a (.dT kvs)/\y=.ref b/\H b=some (.tup (k.map kV))/\r=sZ kvs k
section
variable {X:Cx}{pins:List (Ad×Obj)}{σ:St}{H:Hp}{s:Ac}{a:Ad}{y v:V}{u r:Ab}{o:Option V}{A:Al}{E:Ab->Ac->Prop}
def jN {Q:Ab->Ac->Prop}(n:A.units+1<cLine)(I:Inv X pins σ H s)(g:zr6 H a y (some v))(j:RelV y u)(h:∀d s',Inv X pins σ H s'->RelV v d->Q d s'):
  Aj (Ag X.prog X.w) A (getItem (.ref a) u) Q E s:=by
 rcases g with⟨kvs,k,e,f,l⟩|⟨kvs,k,b,e,f,m,l⟩
 .subst f;obtain⟨z,hd,vs,rel,dd⟩:=zf0 I.hok e;obtain⟨d,hw,c⟩:=vP.some_of (by rw[l];exact rel.val k);exact wpAny_getItem_of (ze7 j) dd.mapOf hw (h d _ (I.tok _) c)
 .subst f;cases(j);obtain⟨z,hd,xs,rel,dd⟩:=zg7 I.hok e;obtain⟨d,hw,c⟩:=vP.some_of (by rw[l];exact rel.val k);obtain⟨p,q,i⟩:=zO5.mp hw;refine wpAny_getItem_heap (tupleKind_room_in1 n) (fO I.hok m) dd q ?_;rw[i];exact h d _ (I.tok _) c
end
section
variable {X:Cx}{pins:List (Ad×Obj)}{σ:St}{H:Hp}{s:Ac}{a:Ad}{kvs:List (Key×V)}{k:Key}{u:Ab}{A:Al}{E:Ab->Ac->Prop}
end
def pY {X:Cx}{pins:List (Ad×Obj)}{σ:St}{H:Hp}{s:Ac}{a:Ad}{y:V}{o:Option V}(I:Inv X pins σ H s)(g:zr6 H a y o):s.TypeIs (.ref a) "dict":=by
 rcases g with⟨kvs,k,e,_,_⟩|⟨kvs,k,b,e,_,_,_⟩
 .obtain⟨_,_,vs,_,dd⟩:=zf0 I.hok e;exact dd.typeIs
 .obtain⟨_,_,xs,_,dd⟩:=zg7 I.hok e;exact dd.typeIs
section
variable {X:Cx}{o i e value:Am}{pos pos' tpos:Pos}{td ty tv:TE}
end
section
variable {X:Cx}{pos:Pos}
end
section
variable {X:Cx}{pins:List (Ad×Obj)}{σ:St}{H:Hp}{s:Ac}{a:Ad}{y d:V}{u r:Ab}{o:Option V}{A:Al}{E:Ab->Ac->Prop}
end
section
variable {X:Cx}{o e f:Am}{apos cpos:Pos}{td ty tx:TE}
end
section
variable {X:Cx}{pins:List (Ad×Obj)}{σ:St}{H:Hp}{s:Ac}{a:Ad}{kvs:List (Key×V)}{A:Al}{E:Ab->Ac->Prop}
end
section
variable {X:Cx}{pins:List (Ad×Obj)}{σ:St}{H:Hp}{s:Ac}{a:Ad}{y:V}{u:Ab}{A:Al}{E:Ab->Ac->Prop}
end
def kEq :Aa->Key->Bool
 |.int i,.inl j=>decide (i=j)
 |.str x,.inr y=>decide (x=y)
 |_,_=>false
def eL (k j:Key):kEq (oH k) j=decide (k=j):=by
 cases k<;>cases j<;>simp[kEq,oH]
def aR :List (Aa×Aa)->Key->Option Aa
 |[],_=>none
 |(p,d)::r,k=>if kEq p k=true then some d else aR r k
theorem AVk.get {H:Hp}:∀{kvs:List (Key×V)}{ds:List (Aa×Aa)}{k:Key}{d:Aa},AVk H kvs ds->aR ds k=some d->∃v,sZ kvs k=some v/\AV H v d
 |_,_,k,d,.nil,e=>by cases e
 |_,_,k,d,.cons (k:=j) h r,e=>by
  unfold aR at e;rw[eL]at e;by_cases z:j=k
  .rw[zN5 z,if_pos rfl]at e;cases e;exact⟨_,tU z,h⟩
  .rw[zM2 z,if_neg (by decide)]at e;rw[tY z];exact AVk.get r e
theorem bo {H:Hp}{v:V}{k:Key}(h:AV H v (oH k)):v=kV k:=by
 cases k with
 |inl i=>exact h.int_inv
 |inr x=>exact h.str_inv
theorem AV.dk_inv {H:Hp}{v:V}{ds:List (Aa×Aa)}(h:AV H v (bI ds)):∃a o kvs,v=.ref a/\H a=some (.frz o (.dK kvs))/\AVk H kvs ds:=by
 generalize e:bI ds=d at h;cases h with
 |dk b c=>cases e;exact⟨_,_,_,rfl,b,c⟩
 |_=>cases e
section
variable {X:Cx}{pins:List (Ad×Obj)}{σ:St}{H:Hp}{s:Ac}{l:Ad}{kvs:List (Key×V)}
end
section
variable {X:Cx}{e:Am}{sts:List Ap}
end
section
variable {X:Cx}{O:Ev}{e a b:Am}{pos p:Pos}{Q:Aa->Prop}
end
section
variable {X:Cx}{O:Ev}{e a b:Am}{pos p:Pos}{Q:Aa->Prop}
end
section
variable {X:Cx}{tg:Am}
end
section
variable {X:Cx}{O:Ev}{e a b tg:Am}{pos p:Pos}{Q:List Aa->Prop}
end
mutual
def ltD :Aa->Aa->Option Bool
 |.int a,.int b=>some (decide (a<b))
 |.str a,.str b=>some (decide (a.cps.toList<b.cps.toList))
 |.tuple xs,.tuple ys=>zF2 xs ys
 |_,_=>none
def zF2 :List Aa->List Aa->Option Bool
 |[],[]=>some false
 |[],_::_=>some true
 |_::_,[]=>some false
 |x::xs,y::ys=>if PyData.eqv x y=true then zF2 xs ys else ltD x y
end
section
open PySem.SeqAt
open PySem.AutoSeq1 (wpAny_loadPart')
open PySem.MeetsSeq PySem.MeetsSeq2 PySem.MeetsSeq3
end
section
variable {prog:Ah}{w:Ak}{A:Al}{R:Result->Ac->Prop}{it:Ad}{fp wr:List Ad}{m:Nat}{P:Nat->Ab->Prop}{St:Nat->An->Prop}
end
section
variable {prog:Ah}{w:Ak}{A:Al}{E:Ab->Ac->Prop}{s:Ac}
end
section
variable {X:Cx}{O:Ev}{e:Am}{pos p:Pos}{Q:Aa->Prop}
theorem AVs.intsV {H:Hp}{xs:List V}{zs:List Int}(h:AVs H xs (zs.map .int)):xs=zs.map V.int:=by
 induction zs generalizing xs with
 |nil=>cases h;rfl
 |cons n ns a=>cases h with
  |cons h b=>rw[zP4,a b,h.int_inv]
end
section
variable {prog:Ah}{w:Ak}{A:Al}{E:Ab->Ac->Prop}{s:Ac}{it l:Ad}{items:Array Ab}
end
section
variable {X:Cx}{O:Ev}{a e c:Am}{p p0 pos pos2:Pos}{Q:List Aa->Prop}
theorem gO {body rest:List Ap}{E:ya}(C:PassesOwn (Ag X.prog X.w) X.A X.env X.xe)(P:Nat->Ev->Prop)(x:Nat)(h0:P x O)
  (y:∀n O,P n O->EvT X O c λb=>if b=true then SvS X O body {nx:=λd=>∃f,f<n/\P f d,ct:=λd=>∃f,f<n/\P f d,bk:=λd=>SvS X d rest E,rt:=E.rt}else SvS X O rest E):
  SvS X O (.While c body [] pos::rest) E:=λF σ H D m r=>by
 refine⟨_,zC (dy C yU zJ) zJ,⟨λn g H'=>∃d,M F d g H'/\P n d,⟨x,O,m,h0⟩,?_⟩⟩;rintro n g H' ⟨d,v,z⟩;refine y n d z F g H' _ v λb H1 q t1 k1=>?_;have m1:=v.kz k1 t1;cases b with
 |true=>
  rw[if_pos rfl]at q ⊢;refine⟨λi k=>∃f,f<n/\∃j,M F j i k/\P f j,λi k ⟨f,l,o⟩=>⟨f,l,o⟩,?_⟩;exact q F g H1 _ m1 ⟨λh σ2 u m2 t=>by obtain⟨f,l,o⟩:=t;exact⟨f,l,h,m2,o⟩,r.rt,λh σ2 u m2 B=>B F σ2 u D m2 r,λh σ2 u m2 s=>by obtain⟨f,l,o⟩:=s;exact⟨f,l,h,m2,o⟩⟩
 |false=>
  rw[if_neg (by decide)]at q ⊢;exact q F g H1 D m1 r
end
theorem gk {k:Bool}{p q:Prop}(a:k=true->p)(b:k=false->q):if k=true then p else q:=by
 cases k with
 |true=>exact a rfl
 |false=>exact b rfl
section
variable {X:Cx}{O:Ev}{e a b:Am}{pos p:Pos}{E:ya}{rest:List Ap}
end
def zw6 :R2:=λx y H R=>rEq x y H R\/zx1 x y H R
def zE9 :R2:=λx y H R=>rNe x y H R\/zD7 x y H R
def fU {X:Cx}(c:X.A.units+64<cLine):OpR X (compareOp .Eq) zw6:=λpins s σ H x y v u Q I a b h=>h.elim (λh=>eu _ _ _ _ _ _ _ _ _ I a b h) λh=>zn4 c _ _ _ _ _ _ _ _ _ I a b h
def zs8 {X:Cx}(c:X.A.units+64<cLine):OpR X (compareOp .NotEq) zE9:=λpins s σ H x y v u Q I a b h=>h.elim (λh=>zF6 _ _ _ _ _ _ _ _ _ I a b h) λh=>zk7 c _ _ _ _ _ _ _ _ _ I a b h
def aS {i j:Str}:Cmp rNe (.str i) (.str j) (!decide (i=j)):=λp H c d R a b h=>by
 cases a.str_inv;cases b.str_inv;refine⟨rfl,?_⟩;rw[show decide (V.str i=V.str j)=decide (i=j) by simp];exact h
def qX (x y:Aa)(Q:Bool->Prop):Prop:=∃k,Cmp zw6 x y k/\Cmp zE9 x y (!k)/\Q k
def ao {i j:Int}{Q:Bool->Prop}(h:Q (decide (i=j))):qX (.int i) (.int j) Q:=⟨_,λp H a b R c d z=>.inl (jj p H a b R c d z),λp H a b R c d z=>.inl (bJ p H a b R c d z),h⟩
def tq {i j:Str}{Q:Bool->Prop}(h:Q (decide (i=j))):qX (.str i) (.str j) Q:=⟨_,λp H a b R c d z=>.inl (kY p H a b R c d z),λp H a b R c d z=>.inl (aS p H a b R c d z),h⟩
def eqk {x y:Aa}{Q:Bool->Prop}(s1:SeqAt.shaped x=true)(s2:SeqAt.shaped y=true)(c:x.hasDict=false)(d:y.hasDict=false)(h:Q (PyData.eqv x y)):qX x y Q:=
 ⟨_,λp H e f R a b z=>.inr ⟨x,y,(a.dv c).same wo,(b.dv d).same wo,s1,s2,z⟩,λp H e f R a b z=>.inr ⟨x,y,(a.dv c).same wo,(b.dv d).same wo,s1,s2,z⟩,h⟩
def nA {i j:Bool}{Q:Bool->Prop}(h:Q (i == j)):qX (.bool i) (.bool j) Q:=eqk rfl rfl rfl rfl (by simpa[PyData.eqv]using h)
section
variable {X:Cx}{O:Ev}{a b:Am}{pos:Pos}{Q:Aa->Prop}{T:Bool->Prop}
def zr3 (d:X.A.units+64<cLine)(h:EvD X O a λx=>EvD X O b λy=>qX x y λk=>Q (.bool k)):EvD X O (.Compare a [.Eq] [b] pos) Q:=zk8 (fU d) (yo _) (h.imp λx h=>h.imp λy c=>by obtain⟨k,e,_,q⟩:=c;exact⟨k,e,q⟩)
def zr5 (d:X.A.units+64<cLine)(h:EvD X O a λx=>EvD X O b λy=>qX x y T):EvT X O (.Compare a [.Eq] [b] pos) T:=wt (fU d) (yo _) (h.imp λx h=>h.imp λy c=>by obtain⟨k,e,_,q⟩:=c;exact⟨k,e,q⟩)
def zs6 (d:X.A.units+64<cLine)(h:EvD X O a λx=>EvD X O b λy=>qX x y λk=>T (!k)):EvT X O (.Compare a [.NotEq] [b] pos) T:=wt (zs8 d) (yo _) (h.imp λx h=>h.imp λy c=>by obtain⟨k,_,e,q⟩:=c;exact⟨!k,e,q⟩)
def uE {k:Bool}{p q:Prop}(e:k=true)(h:p):if k=true then p else q:=by rw[if_pos e];exact h
def vt {k:Bool}{p q:Prop}(e:k=false)(h:q):if k=true then p else q:=by rw[if_neg (by rw[e];decide)];exact h
variable {E:ya}{s t:List Ap}
def qk {k:Bool}(e:k=true)(h:SvS X O s E):SvS X O (if k=true then s else t) E:=by rw[if_pos e];exact h
def xK {k:Bool}(e:k=false)(h:SvS X O t E):SvS X O (if k=true then s else t) E:=by rw[if_neg (by rw[e];decide)];exact h
end
section
variable {X:Cx}{O:Ev}{a b:Am}{pos:Pos}{Q:Aa->Prop}{T:Bool->Prop}
def zJ1 :R2:=λx y H Q=>∃a v,x=.ref a/\zr6 H a y (some v)/\Q v H
def bU (d:X.A.units+1<cLine):IxR X zJ1:=λvalue slice pins s σ H x y v u Q I i j h c=>by
 obtain⟨a,z,rfl,g,q⟩:=h;cases i;exact tail_any (pY I g) PySem.F.slot_dict_getitem.lookup (jN d I g j λk s' f e=>⟨z,H,f,e,q⟩) c
def zl3 (x y:Aa)(Q:Aa->Prop):Prop:=(∃ds i d,fk x=some ds/\y=.int i/\atI ds i=some d/\Q d)\/∃ds k d,x=bI ds/\y=oH k/\aR ds k=some d/\Q d
def ixk {x y:Aa}{ds:List Aa}{i:Int}{d:Aa}(e:fk x=some ds)(f:y=.int i)(c:atI ds i=some d)(h:Q d):zl3 x y Q:=.inl ⟨ds,i,d,e,f,c,h⟩
def zm0 (p:X.A.units+1<cLine)(q:uR b)(h:EvD X O a λx=>EvD X O b λy=>zl3 x y Q):EvD X O (.Subscript a b pos) Q:=by
 refine sS (wx (zv4.or (bU p)) zh zh q) (λ_ _ _=>Iff.rfl) (h.imp λx h=>h.imp λy h=>?_);intro F σ H w u R m l n k;rcases h with⟨ds,i,d,e1,rfl,e,hq⟩|⟨ds,r,d,rfl,rfl,c,hq⟩
 .cases n.int_inv;cases x with
  |list j=>
   cases e1;obtain⟨a,xs,rfl,f,g⟩:=l.lst_inv;obtain⟨v,c,av⟩:=g.atI e;exact .inl (.inl ⟨a,xs,i,v,rfl,rfl,SqL.of (zi f).2,c,k d v H hq m.tp Kz.refl av⟩)
  |tuple j=>
   cases e1;obtain⟨a,xs,rfl,f,g⟩:=l.tup_inv;obtain⟨v,c,av⟩:=g.atI e;exact .inl (.inr (.inl ⟨a,xs,i,v,rfl,rfl,SqT.of (zi f).2,c,k d v H hq m.tp Kz.refl av⟩))
  |_=>cases e1
 .obtain⟨a,o,kvs,rfl,g1,g2⟩:=l.dk_inv;obtain⟨v,s,t⟩:=g2.get c;cases bo n;exact .inr ⟨a,v,rfl,.inl ⟨kvs,r,.inr ⟨o,(zi g1).2⟩,rfl,s.symm⟩,k d v H hq m.tp Kz.refl t⟩
end
def zB.one {k:Nat}{A:Al}(h:zB k A):A.units+1<cLine:=by have:=h.units;exact zH3 this
section
variable {X:Cx}{O:Ev}{E:ya}{rest body:List Ap}{e c tg iter:Am}{pos p:Pos}
def wO (pat:Pat)(h:EvI X O tg iter λds=>ur X pat body rest E ds O)(f:X.N.Nodup:=by assumption)(a:PassesOwn (Ag X.prog X.w) X.A X.env X.xe:=by exact z35)(b:X.calm=true:=by rfl)
  (hg:PG X tg (nC X.K pat):=by first|exact zV (by assumption) rfl (Or.inl rfl)|exact zV (by assumption) rfl (Or.inr rfl)|exact tO rfl rfl (by repeat (first|exact qu|refine vn (by first|exact zV (by assumption) rfl (Or.inl rfl)|exact zV (by assumption) rfl (Or.inr rfl)) ?_)))
  (d:∀x,foldedSetIterable iter X.env x=pure x:=by intro _;rfl):SvS X O (.For tg iter body [] pos::rest) E:=qj a b hg h d
def freeOk (xs:Aq)(y:Str×NameKind):Bool:=match y.2 with
 |.free=>match xs.names.lookup y.1 with
  |some .cell=>true
  |some .free=>true
  |_=>false
 |_=>true
theorem dw {xs scope:Aq}(h:scope.names.all (freeOk xs)=true):∀y∈scope.names,y.2=.free->xs.names.lookup y.1=some .cell\/xs.names.lookup y.1=some .free:=λy hy e=>by
 have:=z07.mp h y hy;unfold freeOk at this;rw[e]at this;cases z:xs.names.lookup y.1 with
 |none=>rw[z]at this;cases this
 |some k=>
  rw[z]at this;cases k<;>first|exact .inl rfl|exact .inr rfl|cases this
def fu (N:List Str)(imp:List (Option Nat))(pat:Pat){scope:Aq}{elt:Am}{ifs:List Am}{Q:List Aa->Prop}(h:EvI X O tg iter λds=>ds.length<=1000/\yZ (λC s2 b fp=>X.comp N scope C s2 b fp) pat ifs elt (yI imp O) ds [] Q)
  (nd:N.Nodup:=by decide +kernel) (i:scope.kind=.function:=by rfl) (k:∀y∈scope.names,y.2≠.cell:=by decide +kernel) (o:∀y∈scope.names,y.2=.local->scope.names.lookup y.1=some .local:=by decide +kernel) (m:scope.names.all (freeOk X.env.scope)=true:=by rfl) (f:imp.length=N.length:=by rfl)
  (l:((imp.zip N).all λp=>match p.1 with|none=>true|some j=>X.N[j]? == some p.2&&scope.names.lookup p.2 == some .free)=true:=by rfl) (a:pat.free (yI imp O)=true:=by rfl)
  (hg:∀C s2 b fp,N.Nodup->PG (X.comp N scope C s2 b fp) tg (nC X.K pat):=by intro _ _ _ _ d;first|exact zV d rfl (Or.inl rfl)|exact tO rfl rfl (by repeat (first|exact qu|refine vn (zV d rfl (Or.inl rfl)) ?_)))
  (n:X.calm=true:=by rfl) (g:∀x,foldedSetIterable iter X.env x=pure x:=by intro _;rfl):EvL X O (.ListComp elt [⟨tg,iter,ifs,0⟩] scope pos) Q:=gR n ⟨i,nd,k,o,dw m,f,l⟩ a (λC s2 b fp=>hg C s2 b fp nd) h g
end
section
variable {Y:Ad->Ac->Hp->List Ad->Cx}{pat:Pat}{ifs:List Am}{elt:Am}{α0:Ev}{ι:Type}{g f:ι->Aa}{l:List ι}{acc:List Aa}{Q:List Aa->Prop}
theorem pP (p:ι->Bool)(f:ι->Aa)(h:∀x∈l,∃a,pat.bind (g x) α0=some a/\(∀C s2 b fp (Q:Bool->Prop),Q (p x)->ie (Y C s2 b fp) a ifs Q)/\(p x=true->∀C s2 b fp (Q:Aa->Prop),Q (f x)->EvD (Y C s2 b fp) a elt Q))
  (hd:Q (acc++(l.filter p).map f)):yZ Y pat ifs elt α0 (l.map g) acc Q:=by
 induction l generalizing acc with
 |nil=>
  show Q acc;simpa using hd
 |cons d ds k=>
  obtain⟨a,e,i,j⟩:=h d zL7;refine⟨a,e,λC s2 b fp=>i C s2 b fp _ ?_⟩;have c:=λacc=>k (acc:=acc) λd hd=>h d (zL1 _ hd);cases hp:p d with
  |true=>
   rw[if_pos rfl];refine λC s2 b fp=>j hp C s2 b fp _ (c _ ?_);simpa[zZ3,hp]using hd
  |false=>
   rw[if_neg (by decide)];refine c _ ?_;simpa[zZ3,hp]using hd
def iI (f:ι->Aa)(c:∀x∈l,∃a,pat.bind (g x) α0=some a/\∀C s2 d fp (Q:Aa->Prop),Q (f x)->EvD (Y C s2 d fp) a elt Q)(hd:Q (acc++l.map f)):yZ Y pat [] elt α0 (l.map g) acc Q:=
 pP (λ_=>true) f (λx b=>by
  obtain⟨a,e,h⟩:=c x b;exact⟨a,e,λ_ _ _ _ _ k=>mM k,λ_=>h⟩) (by rw[List.filter_eq_self.mpr λ_ _=>rfl];exact hd)
end
section
variable {co:Co}{N:Nat}
end
def bM (ds:List Aa){a:Int}(h:0<=a):cutD ds none (some a)=ds.take a.toNat:=by
 obtain⟨n,rfl⟩:=z43 h;unfold cutD;rw[HT.zc0,HT.fZ,zR7,List.drop_zero,Nat.sub_zero];rcases Nat.le_total n ds.length with z|z
 .rw[z36 z]
 .rw[Nat.min_eq_right z,z50 (zK6 _),z50 z]
section
variable {co:Co}{N:Nat}
end
section
variable {X:Cx}{O:Ev}{a b e:Am}{pos p:Pos}{Q:Aa->Prop}
end
section
variable {X:Cx}{O:Ev}{a b c e:Am}{pos p:Pos}{Q:Aa->Prop}{T:Bool->Prop}
theorem dM {op d:CmpOp}{g o:Int->Int->Bool}(r:OpR X (compareOp op) (rI0 λi j=>.bl (g i j)))(f:OpR X (compareOp d) (rI0 λi j=>.bl (o i j)))(hm:lastMarks [op,d] [b,c]=false)
  (h:EvD X O a λx=>EvD X O b λy=>∃i j,x=.int i/\y=.int j/\(if g i j=true then EvD X O c λz=>∃k,z=.int k/\T (o j k)else T false)):EvT X O (.Compare a [op,d] [b,c] pos) T:=λF σ H R m k=>by
 refine⟨_,fB r f zh zh zh hm,h F σ H _ m λx G H1 v t1 k1 A=>?_⟩;have m1:=m.kz k1 t1;refine v F σ H1 _ m1 λy E q C n k2 B=>?_;obtain⟨i,j,e1,u,hq⟩:=C;subst e1 u;cases A.int_inv;cases B.int_inv;refine⟨i,j,rfl,rfl,_,rfl,?_⟩;cases hg:g i j with
 |true=>
  rw[hg]at hq;refine rh ?_;refine(by simpa using hq:EvD X O c _) F σ q _ (m1.kz k2 n) λz I D w t3 k3 t=>?_;obtain⟨s,rfl,l⟩:=w;cases t.int_inv;exact⟨j,s,rfl,rfl,_,rfl,k _ D l t3 ((k1.trans k2).trans k3)⟩
 |false=>
  rw[hg]at hq;exact rq ⟨_,rfl,k _ q (by simpa using hq) n (k1.trans k2)⟩
def dQ (h:EvD X O a λx=>EvD X O b λy=>∃i j,x=.int i/\y=.int j/\(if decide (i<=j)=true then EvD X O c λz=>∃k,z=.int k/\T (decide (j<=k))else T false))(hm:lastMarks [.LtE,.LtE] [b,c]=false:=by rfl):EvT X O (.Compare a [.LtE,.LtE] [b,c] pos) T:=dM pK pK hm h
def dH (h:EvD X O a λx=>EvD X O b λy=>∃i j,x=.int i/\y=.int j/\(if decide (i<=j)=true then EvD X O c λz=>∃k,z=.int k/\Q (.bool (decide (j<=k)))else Q (.bool false)))(hm:lastMarks [.LtE,.LtE] [b,c]=false:=by rfl):EvD X O (.Compare a [.LtE,.LtE] [b,c] pos) Q:=dZ pK pK hm h
end
section
variable {X:Cx}{O:Ev}{a b c e:Am}{pos p p2 pos2:Pos}{Q:Aa->Prop}{T:Bool->Prop}
theorem qF {us:List Ab}{ns:List Int}(h:IntsAre us ns):Vals (ns.map V.int) us:=by
 induction h with
 |nil=>exact .nil
 |cons n t _ d=>exact .cons ⟨t,rfl⟩ d
end
section
variable {X:Cx}{O:Ev}{a b c d e:Am}{pos p:Pos}{ta tb tc td:TE}{T:Bool->Prop}
end
def zJ6 (ns zs:List Int):∃ms,uQ ns zs ms:=by
 refine⟨ns.mergeSort λm k=>!lx (keyOf zs k) (keyOf zs m),List.mergeSort_perm ..,?_⟩;have h:=List.pairwise_mergeSort (le:=λm k=>!lx (keyOf zs k) (keyOf zs m)) (λa b c d e=>?_) (λa b=>?_) ns
 .exact h.imp λ{a b} h=>by simpa using h
 .simp only[z47]at d e ⊢;unfold lx at *;simp only[zU4]at *
  lia
 .unfold lx;simp only[z00,z47,zU4]
  lia
def dB {ns zs ms ks:List Int}(h:uQ ns zs ms)(h':uQ ns zs ks):ms=ks:=by
 refine List.Perm.eq_of_pairwise (λa b _ _ c d=>?_) h.2 h'.2 (h.1.trans h'.1.symm);unfold lx keyOf at c d;simp only[zU4]at c d
 lia
def zc4 {zs:List Int}{many free:Nat}{bs cs:List Bool}(h:0<many)(m:uK zs many free zs.length bs)(f:uK zs many free zs.length cs):bs=cs:=by
 have e:∀j,bs.getD j false=cs.getD j false:=λj=>by
  by_cases g:zs.length / many*many<=j
  .rw[m.2.1 j g,f.2.1 j g]
  .have hk:j / many<zs.length / many:=by
    have:=Nat.div_lt_iff_lt_mul (x:=j) (y:=zs.length / many) h;exact this.mpr (Nat.lt_of_not_le g)
   obtain⟨ms,s,i⟩:=m.2.2 _ hk;obtain⟨ks,s',c⟩:=f.2.2 _ hk;cases dB s s';have d:=z34 j many;have l:=Nat.mod_lt j h;obtain⟨q,hq,eq⟩:=zq0 s (m:=j) (by lia) (by lia);have a:=i q hq;have b:=c q hq;rw[eq,zR7]at a b;rw[a,b]
 refine List.ext_getElem (by rw[m.1,f.1]) λj a b=>?_;have:=e j;rw[zL4,zL4,zK4 a,zK4 b]at this;exact this
def eA {d:Aa}(hd:gQ d){zs:List Int}{bs cs:List Bool}(h:xT d zs bs)(h':xT d zs cs):bs=cs:=by
 rcases hd with rfl|⟨many,free,rfl,f0,a,_⟩
 .rcases h with⟨_,rfl⟩|⟨_,_,h,_⟩
  .rcases h' with⟨_,rfl⟩|⟨_,_,h,_⟩
   .rfl
   .cases h
  .cases h
 .exact zc4 (zM6 (zL6 _) a) (pS h) (pS h')
section
variable {X:Cx}{O:Ev}{a b c d e:Am}{pos p:Pos}{T:Bool->Prop}
end
abbrev kK (X:Cx)(P:Ah)(w:Ak)(K:Ae)(mg:Str->Option Ab)(base:An):Prop:=X.prog=P/\X.w=w/\X.K=K/\X.mg=mg/\X.base=base
section
variable {X:Cx}{O:Ev}{e o:Am}{es:List Am}{pos p apos:Pos}{Q:Aa->Prop}{k:Nat}{φ:List A->(A->Prop)->Prop}{x m:Str}{C:Ad}{pl:Sem Bool}{P:Ah}{w:Ak}{K:Ae}{mg:Str->Option Ab}{base:An}
def bG (D:Cal P w K mg base x k φ)(c:kK X P w K mg base)(hr:zB k X.A)(hg:Gl X x)(h:EvA X O (e::es) λas=>φ as λa=>Q a.d)
  (b:(x == ("__debug__":Str))=false:=by decide) (he:Af (e::es) X.env=(false,eval e X.env)::Af es X.env:=by rfl) (hpl:(backTo pos (Af es X.env)).any (·.1)=false:=by rfl):EvD X O (.Call (.Name x p) (e::es) [] pos) Q:=by
 obtain⟨rfl,rfl,rfl,rfl,rfl⟩:=c;exact qP D hr hg h b he hpl
def cE (D:um P w K mg base x k [] φ)(c:kK X P w K mg base)(hr:zB (k+1) X.A)(hg:Gl X x)(h:EvA X O (e::es) λas=>φ as λa=>Q a.d)
  (b:(x == ("__debug__":Str))=false:=by decide) (he:Af (e::es) X.env=(false,eval e X.env)::Af es X.env:=by rfl) (hpl:(backTo pos (Af es X.env)).any (·.1)=false:=by rfl):EvN X O (.Call (.Name x p) (e::es) [] pos) Q:=by
 obtain⟨rfl,rfl,rfl,rfl,rfl⟩:=c;exact vq D hr hg h b he hpl
def gJ (D:xq P w K mg base C m k φ)(c:kK X P w K mg base)(hr:zB k X.A)(h:EvD X O o λx=>∃fs,x=xY C fs/\tL fs m=none/\EvA X O (e::es) λas=>φ (.dat (xY C fs)::as) λa=>Q a.d)
  (b:Af (e::es) X.env=(false,eval e X.env)::Af es X.env:=by rfl) (hpl:(backTo pos (Af es X.env)).any (·.1)=false:=by rfl)
  (g:eval (.Call (.Attribute o m apos) (e::es) [] pos) X.env=(do
   let ov <-eval o X.env
   standAt apos.atName
   let(f,first) <-holding [ov] (getMethod ov m pl)
   callWith pos f first (backTo pos (Af (e::es) X.env)) (backToKw pos (keywordEach [] X.env))):=by rfl):EvD X O (.Call (.Attribute o m apos) (e::es) [] pos) Q:=by
 obtain⟨rfl,rfl,rfl,rfl,rfl⟩:=c;exact wB D hr h b hpl g
def iV (D:xq P w K mg base C m k φ)(b:kK X P w K mg base)(hr:zB k X.A)(h:EvD X O o λx=>∃fs,x=xY C fs/\tL fs m=none/\φ [.dat (xY C fs)] λa=>Q a.d)
  (c:eval (.Call (.Attribute o m apos) [] [] pos) X.env=(do
   let ov <-eval o X.env
   standAt apos.atName
   let(f,first) <-holding [ov] (getMethod ov m pl)
   callWith pos f first (backTo pos (Af [] X.env)) (backToKw pos (keywordEach [] X.env))):=by rfl):EvD X O (.Call (.Attribute o m apos) [] [] pos) Q:=by
 obtain⟨rfl,rfl,rfl,rfl,rfl⟩:=b;exact sX D hr h c
end
section
variable {X:Cx}{O:Ev}{pos:Pos}{Q:Aa->Prop}
end
section
variable {X:Cx}{O:Ev}{e ix:Am}{pos:Pos}{rest:List Ap}{E:ya}
end
section
variable {X:Cx}{tg:Am}
variable {O:Ev}{a b c:Am}{p pos:Pos}
end
section
variable {prog:Ah}{w:Ak}{K:Type}[DecidableEq K](knd:KeyKind prog w K)
variable {knd}
end
section
variable {X:Cx}
end
section
variable {X:Cx}{O:Ev}{e a b:Am}{p pos:Pos}{Q:Aa->Prop}
end
structure Moved (fs:List Ad)(e:Ad)(ts:List Ad)(h h':An):Prop where
 keep:∀b o,b≠e->b∉ts->b∉fs->h.get? b=some o->h'.get? b=some o
 slot:∀b o,b∈fs->h.get? b=some o->∃sl,h'.get? b=some {o with slots:=sl}
 exc:∀o vs,h.get? e=some o->o.data=.fields vs->∃o' vs',h'.get? e=some o'/\o'.cls=o.cls/\o'.dict=o.dict/\o'.data=.fields vs'
 there:∀b o,h.get? b=some o->∃o',h'.get? b=some o'
def Ent (h base:An)(e T:Ad)(c:Ab):Prop:=
 ∃oe vs a b,h.get? e=some oe/\oe.data=.fields vs/\vs[1]?=some (.ref T)/\T≠e/\base.get? T=none/\h.get? T=some a/\a.data=.fields b/\b[3]?=some c
def Beg (h base:An)(e:Ad)(ts:List Ad):Prop:=
 (ts=[]/\∃oe vs,h.get? e=some oe/\oe.data=.fields vs/\vs[1]?=some .none)\/∃T,ts=[T]/\Ent h base e T .none
def uW {base h:An}{l:List Ar}{b:Ad}(a:h.FunFrames base l)(hb:b∈frs l):base.get? b=none/\∃o,h.get? b=some o/\∀vs,o.data≠.fields vs:=a.mem hb
section
variable {M:Model}{A:Al}{E:Ab->Ac->Prop}{s:Ac}
def wN (o:Obj)(f:Array Ab->Array Ab):(o.mapFields f).cls=o.cls/\(o.mapFields f).dict=o.dict:=by
 obtain⟨c,d,dt,sl⟩:=o;cases dt<;>exact⟨rfl,rfl⟩
def rM {fs:List Ad}{e T:Ad}{h:An}{g:Obj}{i:Array Ab}{f:Array Ab->Array Ab}(c:h.get? T=some g)(hd:g.data=.fields i)(a:∀b∈fs,b≠T):Moved fs e [T] h (h.update T (Obj.mapFields f)) where
 keep:=λb o _ hb _ q=>by
  rw[zM0 _ _ (λz=>hb (by rw[<-z];exact zN1.mpr rfl))];exact q
 slot:=λb o hb q=>⟨o.slots,by rw[zM0 _ _ (zP2 (a b hb))];exact q⟩
 exc:=λo vs q d=>by
  by_cases z:T=e
  .subst z;rw[c]at q;cases q;refine⟨_,_,zQ4 _ c (zY2 (zX7 hd _)),(wN _ _).1,(wN _ _).2,zX7 hd _⟩
  .exact⟨o,vs,by rw[zM0 _ _ z];exact q,rfl,rfl,d⟩
 there:=λb o q=>by
  by_cases z:T=b
  .subst z;exact⟨_,zQ4 _ c (zY2 (zX7 hd _))⟩
  .exact⟨o,by rw[zM0 _ _ z];exact q⟩
def bH {base:An}{l:List Ar}{e T:Ad}{m:Ab}{fo:Option Ad}{Q:Unit->Ac->Prop}(k:s.heap.FunFrames base l)(hk:base.StaysIn s.heap)(x:Ent s.heap base e T m)
  (h:∀h',Moved (frs l) e [T] s.heap h'->Ent h' base e T (fo.elim .none λf=>rawInt f)->h'.FunFrames base l->base.StaysIn h'->h'.objs.size=s.heap.objs.size->Q () {s with heap:=h'}):Aj M A (setFlight (.ref e) fo) Q E s:=by
 obtain⟨oe,vs,r,n,he,hd,j,hne,hb,g,a,p⟩:=x;have d:3<n.size:=(zY4.mp p).1;unfold setFlight;refine zK0 (zS5 he hd j ?_);rw[if_pos (show(Value.ref T != Value.none)=true from by simp)];refine wpAny_setField g a d (h _ (rM g a λb c z=>?_) ?_ ?_ ?_ (by simp))
 .obtain⟨_,o,i,hn⟩:=uW k c;rw[z,g]at i;cases i;exact hn _ a
 .exact⟨oe,vs,_,_,by rw[zM0 _ _ hne];exact he,hd,j,hne,hb,zQ4 _ g (zY2 (zX7 a _)),zX7 a _,by simp[d]⟩
 .refine k.of_keeps λb o c hn=>⟨o,?_,rfl⟩;rw[zM0 _ _ (λz=>by subst z;rw[g]at c;cases c;exact hn _ a)];exact c
 .intro b o q;rw[zM0 _ _ (λz=>by subst z;rw[hb]at q;cases q)];exact hk b o q
def gG {base:An}{env:Ar}{outer:List Ar}{L e:Ad}{oe:Obj}{vs:Array Ab}{head:Ab}{l:Bool}{Q:Unit->Ac->Prop}
  (C:A.frames=some (env::outer)) (B:s.heap.FunFrames base (env::outer)) (hf:env.frame=some L) (he:s.heap.get? e=some oe) (F:base.StaysIn s.heap) (D:base.get? e=none) (hd:oe.data=.fields vs) (x:1<vs.size)
  (h:∀h' T,Moved (frs (env::outer)) e [] s.heap h'->s.heap.objs.size<=T->Ent h' base e T (rawInt L)->h'.FunFrames base (env::outer)->base.StaysIn h'->Q () {s with heap:=h'}):
  Aj M A (do let a <-frameOf env;let t <-entryPlaceOf L l;let b <-EntryCells.newEntry head a .none (rawInt L) .none t;setField (.ref e) 1 b) Q E s:=by
 have n:e∉frs (env::outer):=λhm=>by
  obtain⟨_,o,y,H⟩:=uW B hm;rw[he]at y;injection y with y;subst y;exact H vs hd
 refine zK0 (wpAny_frameOf_fun C B hf λc f=>?_);refine zK0 (wpAny_entryPlaceOf λt hpl=>?_);unfold EntryCells.newEntry newFields;refine zK0 (zS7 ?_ (hpl.sizeOk5 _ _ _ _ _));have m:c.get? e=some oe:=(f.2.1 e n).trans he;have j:base.StaysIn c:=λb o p=>(f.2.1 b λhm=>by rw[(uW B hm).1]at p;cases p).trans (F b o p);generalize G:({cls:=.type "traceback",dict:=none,data:=.fields ([head,.ref L,.none,rawInt L,.none]++(if t.isEmpty then List.replicate 6 Value.none else t)).toArray}:Obj)=ob;have w:ob.data=.fields ([head,.ref L,.none,rawInt L,.none]++(if t.isEmpty then List.replicate 6 Value.none else t)).toArray:=by rw[<-G]
 have k:=zK1 (h:=c) ob m;refine wpAny_setField k hd x ?_;have v:c.objs.size≠e:=zT2 (zL0 m);have g:=zX7 hd (·.setIfInBounds 1 (Value.ref c.objs.size));have i:=zQ4 (Obj.mapFields (·.setIfInBounds 1 (Value.ref c.objs.size))) k (zY2 g);have r:((c.push ob).update e (Obj.mapFields (·.setIfInBounds 1 (Value.ref c.objs.size)))).get? c.objs.size=some ob:=
  (zM0 (c.push ob) (Obj.mapFields (·.setIfInBounds 1 (Value.ref c.objs.size))) (zP2 v)).trans (zL2 c (zY2 w))
 have keep:∀b o,b≠e->c.get? b=some o->((c.push ob).update e (Obj.mapFields (·.setIfInBounds 1 (Value.ref c.objs.size)))).get? b=some o:=λb o I hb=>by
  rw[zM0 _ _ (zP2 I)];exact zK1 _ hb
 refine h _ c.objs.size ⟨λb o hb _ hf q=>keep b o hb ((f.2.1 b hf).trans q),λb o hb q=>?_,λo vs' q d=>?_,λb o q=>?_⟩ (by rw[f.1];exact zK6 _) ⟨_,_,ob,_,i,g,by simp[x],v,j.fresh,r,w,by simp⟩ ?_ (λb o q=>keep b o (λz=>by rw[z,D]at q;cases q) (j b o q))
 .obtain⟨sl,u⟩:=f.2.2 b o q;exact⟨sl,keep b _ (λz=>n (z▸hb)) u⟩
 .rw[he]at q;cases q;exact⟨_,_,i,(wN _ _).1,(wN _ _).2,g⟩
 .by_cases z:b=e
  .subst z;exact⟨_,i⟩
  .obtain⟨sl,u⟩:=f.2.2 b o q;exact⟨_,keep b _ z u⟩
 .refine B.of_keeps λb o hb hn=>?_;obtain⟨sl,u⟩:=f.2.2 b o hb;exact⟨_,keep b _ (λz=>by subst z;rw[he]at hb;cases hb;exact hn _ hd) u,rfl⟩
def zx3 {base:An}{env:Ar}{outer:List Ar}{L e:Ad}{ts:List Ad}{Q:Unit->Ac->Prop}
  (f:A.frames=some (env::outer)) (r:s.heap.FunFrames base (env::outer)) (hf:env.frame=some L) (k:base.StaysIn s.heap) (j:base.get? e=none) (x:Beg s.heap base e ts)
  (h:∀h' T,Moved (frs (env::outer)) e ts s.heap h'->s.heap.objs.size<=T->Ent h' base e T (rawInt L)->h'.FunFrames base (env::outer)->base.StaysIn h'->Q () {s with heap:=h'}):Aj M A (noteFrame (.ref e) env) Q E s:=by
 rcases x with⟨rfl,oe,vs,he,hd,g⟩|⟨T,rfl,oe,vs,N,O,he,hd,g,hne,hb,l,c,B⟩
 .unfold noteFrame;simp only[hf];refine zK0 (zS5 he hd g ?_);rw[if_neg (by decide)];exact gG f r hf he k j hd (zY4.mp g).1 h
 .unfold noteFrame;simp only[hf];refine zK0 (zS5 he hd g ?_);rw[if_pos (show(Value.ref T != Value.none)=true from by simp)];refine zK0 (zS5 l c B ?_);rw[if_neg (show ¬((Value.none == rawInt L)=true)from by simp[rawInt])];refine zK0 (wpAny_setField l c (zY4.mp B).1 ?_);have n:∀b∈frs (env::outer),b≠T:=λb a z=>by
   obtain⟨_,o,y,hn⟩:=uW r a;rw[z,l]at y;cases y;exact hn _ c
  have m:Moved (frs (env::outer)) e [T] s.heap (s.heap.update T (Obj.mapFields (·.setIfInBounds 3 Value.none))):=rM l c n;refine gG (s:={s with heap:=s.heap.update T (Obj.mapFields (·.setIfInBounds 3 Value.none))}) f ?_ hf (show(s.heap.update T (Obj.mapFields (·.setIfInBounds 3 Value.none))).get? e=some oe by rw[zM0 _ _ hne];exact he) ?_ j hd (zY4.mp g).1 λh' C m1 m2 m3 m4 m5=>?_
  .refine r.of_keeps λb o a hn=>⟨o,?_,rfl⟩;rw[zM0 _ _ (λz=>by subst z;rw[l]at a;cases a;exact hn _ c)];exact a
  .intro b o q;show(s.heap.update T _).get? b=some o;rw[zM0 _ _ (λz=>by subst z;rw[hb]at q;cases q)];exact k b o q
  .refine h h' C ⟨λb o i J D q=>m1.keep b o i (by simp) D (m.keep b o i J D q),λb o i q=>?_,λo vs' q d=>?_,λb o q=>?_⟩ (by have m2:(s.heap.update T _).objs.size<=C:=m2;simpa using m2) m3 m4 m5
   .obtain⟨sl,e1⟩:=m.slot b o i q;obtain⟨w,t⟩:=m1.slot b _ i e1;exact⟨w,t⟩
   .obtain⟨u,v,e1,H,G,f1⟩:=m.exc o vs' q d;obtain⟨I,p,t,F,K,f2⟩:=m1.exc u v e1 f1;exact⟨I,p,t,F.trans H,K.trans G,f2⟩
   .obtain⟨u,e1⟩:=m.there b o q;exact m1.there b u e1
def eQ {base:An}{env:Ar}{L e T:Ad}{Q:Unit->Ac->Prop}(hf:env.frame=some L)(x:Ent s.heap base e T (rawInt L))(h:Q () s):Aj M A (noteFrame (.ref e) env) Q E s:=by
 obtain⟨oe,vs,f,g,he,hd,b,hne,hb,c,a,d⟩:=x;exact wpAny_noteFrame_inFlight hf he hd b c a d h
end
section
variable {P:Ah}{w:Ak}{H H0:Hp}{h h' h0:An}{fs fs' ts:List Ad}{e:Ad}
def HOk.moved (x:HOk P w H h)(m:Moved fs e ts h h')(c:∀b∈fs,H b=none)(f:∀b∈ts,H b=none)(he:∃C d,H e=some (xcO e C d)):HOk P w H h':=λa o q=>by
 obtain⟨C,d,he⟩:=he;by_cases z:a=e
 .subst z;rw[he]at q;cases q;obtain⟨⟨o,vs,i,j,l,k⟩,_,st⟩:=x _ _ he;obtain⟨o',vs',g1,g2,g3,g⟩:=m.exc o vs i k;exact⟨⟨o',vs',g1,g2.trans j,g3.trans l,g⟩,⟨o',g1⟩,st⟩
 .have nf:∀{b:Ad} {u:HO},H b=some u->b∉fs:=λ{b u} hb q=>by rw[c b q]at hb;cases hb
  have nt:∀{b:Ad} {u:HO},H b=some u->b∉ts:=λ{b u} hb q=>by rw[f b q]at hb;cases hb
  refine(x a o q).stay (λb u hb e1=>?_) (λ_ q=>q) λ_ _ q=>q;rcases hb with rfl|hb
  .exact m.keep _ _ z (nt q) (nf q) e1
  .refine m.keep _ _ (λz=>?_) (nt hb) (nf hb) e1;rw[z,he]at hb;cases hb
end
def CX1 (P:Ah)(w:Ak)(base:An):CXT:=λouter H s E e s'=>∃a T H',e=.ref a/\s'.os=s.os/\AllBare s'.gens/\Un (frs outer) [] H H' s.heap s'.heap/\HOk P w H' s'.heap/\(∃C d,H' a=some (xcO a C d))/\H' T=none/\s.heap.get? T=none/\Ent s'.heap base a T .none/\E (.ref a) none H'
inductive Fl (X:Cx)(H:Hp)(h:An)(a:Ad):Prop where
 |new {oe:Obj}{vs:Array Ab}:h.get? a=some oe->oe.data=.fields vs->vs[1]?=some .none->Fl X H h a
 |old {T:Ad}:H T=none->X.s₀.heap.get? T=none->(∀p∈X.pn,p.1≠T)->Ent h X.base a T .none->Fl X H h a
 |here {T:Ad}:H T=none->X.s₀.heap.get? T=none->(∀p∈X.pn,p.1≠T)->Ent h X.base a T (rawInt X.env.locals)->Fl X H h a
def XE (X:Cx)(R:St->Ad->Hp->Prop):Ab->Ac->Prop:=λe s=>∃σ H a,e=.ref a/\Inv X [] σ H s/\(∃C d,H a=some (xcO a C d))/\Fl X H s.heap a/\R σ a H
section
variable {X:Cx}{pins:List (Ad×Obj)}{σ:St}{H H':Hp}{s s':Ac}{a:Ad}
def Inv.nopins (I:Inv X pins σ H s):Inv X [] σ H s:=I.pins_of λp b=>by cases b
theorem Inv.basex (I:Inv X pins σ H s)(h:H a≠none):X.base.get? a=none:=by
 cases q:X.base.get? a with
 |none=>rfl
 |some o=>exact absurd (I.bs a o q).2 h
theorem Inv.moved {ts:List Ad}{h':An}(I:Inv X pins σ H s)(h:X.stack=X.env::X.outer)(m:Moved (frs X.stack) a ts s.heap h')(ha:∃C d,H a=some (xcO a C d))(g:∀T∈ts,H T=none/\X.s₀.heap.get? T=none/\(∀p∈X.pn++pins,p.1≠T)/\∃o vs,s.heap.get? T=some o/\o.data=.fields vs):Inv X pins σ H {s with heap:=h'}:=by
 have j:H a≠none:=by obtain⟨C,d,z⟩:=ha;rw[z];simp
 have hf:X.env.frame=some X.env.locals:=by
  rcases I.ok.stk with z|⟨_,z⟩
  .rw[h]at z;exact absurd (congrArg List.length z) (by simp)
  .exact z
 have mem:∀b∈frs X.stack,b=X.env.locals\/b∈X.fs:=λb hb=>by
  rw[h]at hb;unfold frs at hb;rw[List.filterMap_cons_some hf]at hb;rcases zK8.mp hb with z|z
  .exact .inl z
  .exact .inr z
 have dat:∀{b:Ad} {o:Obj},s.heap.get? b=some o->(∀vs,o.data≠.fields vs)->b∉ts:=λ{b o} q n z=>by
  obtain⟨_,_,_,o',vs,J,d⟩:=g b z;rw[q]at J;cases J;exact n vs d
 obtain⟨K,hn,L⟩:=id I.loc;obtain⟨M,es,ep,E,A,D⟩:=id hn;have y:∃sl,h'.get? X.env.locals=some {M with slots:=sl}:=m.slot _ _ (by rw[h];unfold frs;rw[List.filterMap_cons_some hf];exact zL7) E;have F:h'.Ns X.env.locals K:=by obtain⟨sl,z⟩:=y;exact⟨_,es,ep,z,A,D⟩
 have cells:∀{x:Str} {c:Ad} {v:Option Ab},X.env.cells.lookup x=some c->s.heap.IsCell c v->h'.IsCell c v:=λ{x c v} e B=>by
  obtain⟨oc,l,hd⟩:=B;by_cases z:c∈frs X.stack
  .obtain⟨sl,O⟩:=m.slot c oc z l;exact⟨_,O,hd⟩
  .exact⟨oc,m.keep c oc (λz=>j (z▸I.freeC x c e)) (dat l λvs q=>by rw[hd]at q;cases q) z l,hd⟩
 have un:Un X.fs X.ex X.H₀ H X.s₀.heap h':=by
  have u:=I.base;have ne:∀{b:Ad} {o:Obj},X.s₀.heap.get? b=some o->X.H₀ b=none->b∉X.ex->b≠a:=λ{b o} q n f z=>j (z▸u.free b o q n f);have nt:∀{b:Ad} {o:Obj},X.s₀.heap.get? b=some o->b∉ts:=λ{b o} q z=>by rw[(g b z).2.1]at q;cases q
  have nl:∀{b:Ad} {o:Obj},X.s₀.heap.get? b=some o->b≠X.env.locals:=λ{b o} q=>zL9 (zK5 (zL0 q) I.ok.above);refine⟨λb o q n hb f=>m.keep b o (ne q n f) (nt q) (λz=>(mem b z).elim (nl q) hb) (u.keep b o q n hb f),λb o q n hb f=>?_,u.free,λb o q f=>?_,u.tups,u.frzs,u.tbls⟩
  .obtain⟨sl,e1⟩:=u.slot b o q n hb f;by_cases z:b∈frs X.stack
   .obtain⟨w,t⟩:=m.slot b _ z e1;exact⟨w,t⟩
   .exact⟨sl,m.keep b _ (ne q n f) (nt q) z e1⟩
  .obtain⟨o',e1⟩:=u.there b o q f;exact m.there b o' e1
 refine⟨I.ok,I.os,I.bare,un,⟨K,F,λi x v e1 t N=>?_⟩,λx c e=>?_,I.free,I.freeC,λp G=>?_,I.hok.moved m I.stkFree (λb hb=>(g b hb).1) ha,I.len⟩
 .obtain⟨u,r,q⟩:=L i x v e1 t N;refine⟨u,r,?_⟩;rcases q with q|⟨k,c,e,z⟩
  .exact .inl q
  .exact .inr ⟨k,c,e,cells e z⟩
 .obtain⟨v,z⟩:=I.cell x c e;exact⟨v,cells e z⟩
 .obtain⟨e,n,ne,nf,d⟩:=I.pin p G;exact⟨m.keep _ _ (λz=>j (z▸n)) (λz=>(g _ z).2.2.1 p G rfl) (λz=>(mem _ z).elim ne nf) e,n,ne,nf,d⟩
theorem Fl.beg (f:Fl X H s.heap a):(∃ts,Beg s.heap X.base a ts/\∀T∈ts,H T=none/\X.s₀.heap.get? T=none/\(∀p∈X.pn,p.1≠T)/\∃o vs,s.heap.get? T=some o/\o.data=.fields vs)\/∃T,H T=none/\X.s₀.heap.get? T=none/\(∀p∈X.pn,p.1≠T)/\Ent s.heap X.base a T (rawInt X.env.locals):=by
 cases f with
 |new d e c=>exact .inl ⟨[],.inl ⟨rfl,_,_,d,e,c⟩,λT b=>by cases b⟩
 |@old T d e c h4=>
  refine .inl ⟨[T],.inr ⟨T,rfl,h4⟩,λj b=>?_⟩;rw[zN1]at b;subst b;obtain⟨_,_,h,i,_,_,_,_,_,b,g,_⟩:=h4;exact⟨d,e,c,h,i,b,g⟩
 |@here T d e c h4=>exact .inr ⟨T,d,e,c,h4⟩
def Inv.stkf (I:Inv X pins σ H s)(b:X.stack=X.env::X.outer):X.env.frame=some X.env.locals:=by
 rcases I.ok.stk with z|⟨_,z⟩
 .rw[b]at z;exact absurd (congrArg List.length z) (by simp)
 .exact z
def Inv.stays (I:Inv X pins σ H s):X.base.StaysIn s.heap:=I.bk
def Inv.note {M:Model}{Q:Unit->Ac->Prop}{E:Ab->Ac->Prop}(I:Inv X [] σ H s)(b:X.stack=X.env::X.outer)(ha:∃C d,H a=some (xcO a C d))(f:Fl X H s.heap a)
  (h:∀h' T,Inv X [] σ H {s with heap:=h'}->H T=none->X.s₀.heap.get? T=none->(∀p∈X.pn,p.1≠T)->Ent h' X.base a T (rawInt X.env.locals)->Q () {s with heap:=h'}):Aj M X.A (noteFrame (.ref a) X.env) Q E s:=by
 have c:H a≠none:=by obtain⟨C,d,z⟩:=ha;rw[z];simp
 have hf:=I.stkf b;rcases f.beg with⟨ts,j,o⟩|⟨T,m,n,u,g⟩
 .refine zx3 (by rw[<-b];exact I.ok.frames) (by rw[<-b];exact I.stack) hf I.stays (I.basex c) j λh' T m1 m2 m3 _ _=>?_;have q:Inv X [] σ H {s with heap:=h'}:=I.moved b (by rw[b];exact m1) ha λT r=>by
   obtain⟨t,k,i,l⟩:=o T r;exact⟨t,k,λp e=>i p (by simpa using e),l⟩
  refine h h' T q (I.hok.fresh m2) (Heap.get?_none_of_le (zL8 I.sz m2)) (λp e z=>?_) m3;have:=zL0 (I.pin p (by simpa using e)).1;rw[z]at this;exact absurd this (Nat.not_lt.mpr m2)
 .exact eQ hf g (by have:=h s.heap T I m n u g;exact this)
def Inv.flight {M:Model}{Q:Unit->Ac->Prop}{E:Ab->Ac->Prop}{A:Al}{T:Ad}{k:Ab}{fo:Option Ad}(I:Inv X pins σ H s)(e:X.stack=X.env::X.outer)(ha:∃C d,H a=some (xcO a C d))(i:H T=none)(j:X.s₀.heap.get? T=none)(n:∀p∈X.pn++pins,p.1≠T)(x:Ent s.heap X.base a T k)
  (h:∀h',Inv X pins σ H {s with heap:=h'}->Ent h' X.base a T (fo.elim .none λf=>rawInt f)->Q () {s with heap:=h'}):Aj M A (setFlight (.ref a) fo) Q E s:=by
 refine bH (l:=X.stack) I.stack I.stays x λh' m1 m2 _ _ _=>h h' (I.moved e m1 ha λo b=>?_) m2;rw[zN1]at b;subst b;obtain⟨_,_,g,m,_,_,_,_,_,b,c,_⟩:=x;exact⟨i,j,n,g,m,b,c⟩
def zc1 {R:St->Ad->Hp->Prop}{E:XK}{e:Ab}(hex:X.ex=[])(I:Inv X pins σ H s)(h:CX1 X.prog X.w X.base X.stack H s E e s')(l:∀a H',E (.ref a) none H'->R σ a H'):XE X R e s':=by
 obtain⟨a,T,H',rfl,f,hg,u,hok,ha,g,d,k,c⟩:=h;have j:Inv X pins σ H' s':=I.call' (ch:=[]) f u hok hg λb hb=>by cases hb
 refine⟨σ,H',a,rfl,j.nopins,ha,.old g ?_ (λp i z=>?_) k,l a H' c⟩
 .cases q:X.s₀.heap.get? T with
  |none=>rfl
  |some o=>
   exfalso
   obtain⟨o',e1⟩:=I.base.there T o q (by rw[hex];simp);rw[d]at e1;cases e1
 .have:=(I.pin p (zO0 _ i)).1;rw[z,d]at this;cases this
end
section
variable {X:Cx}{E':Ab->Ac->Prop}
def PSs.wishx {st:List Ap}{t:TS}(h:PSs (X.wish E') st t)(k:∀e s,E' e s->X.xe e s):PSs X st t:=λpins s σ H D I hw=>
 zO9 (h pins s σ H D (I.wish _) hw) (λ_ _ q=>q.unwish) λe s z=>k e s z
end
section
variable {P:Ah}{w:Ak}{K:Ae}{mg:Str->Option Ab}{base:An}
def aq {N:List Str}{qual:Str}{scope:Aq}{f:Ad}{cd:Ab}{A:Al}{outer:List Ar}{s₀ s:Ac}{H₀:Hp}{E:XK}{e:Ab}
  (h:XE (yS (CX1 P w base) P w K mg base N qual scope f cd A outer s₀ H₀ E) (λ_ a H=>E (.ref a) none H) e s):(yS (CX1 P w base) P w K mg base N qual scope f cd A outer s₀ H₀ E).xe e s:=by
 obtain⟨σ,H,a,rfl,I,ha,l,r⟩:=h;show Aj _ _ (leaving _ _) _ _ _;unfold leaving;refine zK0 (I.note rfl ha l λh' T j d g m k=>?_);refine j.flight (fo:=none) rfl ha d g (by simpa using m) k λi b c=>?_;exact⟨a,T,H,rfl,b.os,b.bare,b.base,b.hok,ha,d,g,c,r⟩
def Fun.okX {x qual:Str}{st:Ap}{f:Ad}{fd:Ao}{N ps:List Str}{k:Nat}{sp:Sp}(F:Fun K x qual st f fd)(S:zA N ps (zb st))(len:∀vs H Q E,sp vs H Q E->vs.length=ps.length)
  (b:∀(cdv:Ab) (A:Al) (outer:List Ar) (s:Ac) (H:Hp) (vs:List V) (Q:VK) (E:XK),zB k (A.deeper (envOfC qual (zb st) s.heap.objs.size f cdv))->sp vs H Q E->
   ∃t,PSs ((yS (CX1 P w base) P w K mg base N qual (zb st) f cdv A outer s H E).wish (XE (yS (CX1 P w base) P w K mg base N qual (zb st) f cdv A outer s H E) λ_ a H=>E (.ref a) none H)) (zt st) t/\t {nx:=λ_ H'=>Q .non H',rt:=Q} (start N vs) H):zS P w K mg base (CX1 P w base) (k+1) f fd ps sp:=by
 obtain⟨oc,od,kV,doc,pm,an,cdv,ct,osl,rfl,g,c⟩:=F.ex;refine kO g c S len λA outer s H vs Q E hr d=>?_;obtain⟨t,h,q⟩:=b cdv A outer s H vs Q E hr d;exact⟨t,h.wishx λe s z=>aq z,q⟩
end
section
variable {prog:Ah}{w:Ak}{A:Al}{E:Ab->Ac->Prop}{h:An}{g:Array GenState}{d:Drawn}{t:Nat}{os:OsState}
variable {nm q:Str}{C N:Ad}{bs bm bmB:List Ab}{hdct:Bool}{sn:List Str}{sub:List Ab}{ab:Bool}{col:Option Bool}{dd:Option Ad}{k0 k1 k2 k3 k5:Option Ab}{B Bn newId nid initId inN:String}{bmN:List Ab}
abbrev tN (C t:Ad)(d:Option Ad):Obj:={cls:=.ref C,dict:=d,data:=.fields #[.ref t,.none,.none,.none,.bool false,.none]}
def yM (h:An)(C:Ad)(rest:List Ab):An:=(h.push {cls:=.type "tuple",data:=.seq rest.toArray}).push (tN C h.objs.size none)
def mj (u:ExcBaseFacts Bn newId inN bmN)(j:bmB.contains (.type Bn)=true)(F:ExcBaseFacts B nid initId bmB)(T:OwnTail h bmB bm){s:Str->Option Ab}{rest:List Ab}{fI:Ad}{y:Obj}{Q:Fin->Ac->Prop}
  (l:h.get? C=some (excClassObj nm q C N bs bm hdct sn sub ab col dd k0 k1 k2 k3 k5 newId)) (hn:h.Ns N s) (hi:s "__init__"=some (.ref fI))
  (v:h.get? fI=some y) (n:y.cls=.type "function")
  (hq:Aj (Ag prog w) A (call (.ref fI) (.ref (h.objs.size+1)::rest)) (λr s'=>r=.none/\Q (.done (.ret (.ref (h.objs.size+1)))) s') E ⟨yM h C rest,g,d,t,os⟩) (f:rest.length<=sizeLine):
  Aj (Ag prog w) A (Builtin.«type.__call__» ⟨.ref C::rest,[]⟩) Q E ⟨h,g,d,t,os⟩:=by
 repeat (first|with_reducible refine zU6 l ?_|with_reducible refine wpAny_madeBy_exc l ?_|wp_step)
 refine codeAny_call_builtin_code (z01 _ u.quiet) (wpAny_check_new_subU u j T l ?_);refine codeAny_exc_new_subU u j F T l ?_ f;show Aj _ _ _ _ _ ⟨yM h C rest,g,d,t,os⟩;have keep:∀b o,h.get? b=some o->(yM h C rest).get? b=some o:=λb o e=>zK1 _ (zK1 _ e);have a:=keep _ _ l;have c:=keep _ _ v;have i:(yM h C rest).Ns N s:=let⟨o,es,ep,e,r⟩:=hn;⟨o,es,ep,keep _ _ e,r⟩;have m:(yM h C rest).get? (h.objs.size+1)=some (tN C h.objs.size none):=by unfold yM;heap_get
 have p:(Value.ref C::bm).contains (.ref C)=true:=by simp
 have k:=T.keeps keep;unfold isInstance
 repeat (first|with_reducible refine zU6 m ?_|(with_reducible refine wpAny_isSubtype_exc a ?_;rw[p])|wp_step)
 show Aj _ _ (typeLookup (.ref C) _) _ _ _;refine wpAny_typeLookup_tail a i k F.mroIs F.init.lookup ?_;rw[hi];refine zP3 (zK0 ?_);unfold bindSpecial;refine zK0 (wpAny_typeOf (T:="function") ⟨_,c,n⟩ ?_);rw[if_pos (by decide)];refine zK2 (zK0 (zO9 hq (λr s' hr=>?_) λ_ _ x=>x));obtain⟨rfl,z⟩:=hr
 wp_walk
 exact z
def zz1 (k:ExcBaseFacts Bn newId inN bmN)(c:bmB.contains (.type Bn)=true)(F:ExcBaseFacts B nid initId bmB)(T:OwnTail h bmB bm){i:Str->Option Ab}{rest:List Ab}{fI:Ad}{j:Obj}{Q:Ab->Ac->Prop}
  (b:h.get? C=some (excClassObj nm q C N bs bm hdct sn sub ab col dd k0 k1 k2 k3 k5 newId)) (hn:h.Ns N i) (hi:i "__init__"=some (.ref fI))
  (f:h.get? fI=some j) (e:j.cls=.type "function")
  (hq:Aj (Ag prog w) (A.under (.builtin "type.__call__" ⟨.ref C::rest,[]⟩)) (call (.ref fI) (.ref (h.objs.size+1)::rest)) (λr s'=>r=.none/\Q (.ref (h.objs.size+1)) s') E ⟨yM h C rest,g,d,t,os⟩) (a:rest.length<=sizeLine):
  Aj (Ag prog w) A (call (.ref C) rest) Q E ⟨h,g,d,t,os⟩:=by
 have f1:=tc_lookup;have f2:=tc_bind (.ref C);have l:(⟨h,g,d,t,os⟩:Ac).TypeIs (.ref C) "type":=⟨_,b,rfl⟩;refine zX4 (z61 ?_);show Aj _ _ (callAny (.ref C) _) _ _ _
 repeat (any_goals (first|assumption|with_reducible refine zU6 b ?_|wp_step))
 refine⟨rfl,?_⟩;exact codeAny_call_builtin_at (z01 _ (by decide +kernel)) entry_typeCall (wpAny_check_type_call_sub b (mj k c F T b hn hi f e hq a))
def zv3 {M:Model}{s:Ac}{env:Ar}{x:Sem Ab}{Q:Flow->Ac->Prop}(b:bm.contains (.type "BaseException")=true)(j:A.handled=none)
  (h:Aj M A x (λv a=>∃e t d,v=.ref e/\a.heap.get? C=some (excClassObj nm q C N bs bm hdct sn sub ab col dd k0 k1 k2 k3 k5 newId)/\a.heap.get? e=some (tN C t d)/\E (.ref e) a) E s):
  Aj M A (raiseStmt env (some x) none) Q E s:=by
 have f:(Value.ref C::bm).contains (.type "BaseException")=true:=by rw[List.contains_cons,b,Bool.or_true]
 unfold raiseStmt;refine zK0 (zO9 h (λv a c=>?_) λ_ _ x=>x);obtain⟨e,t,d,rfl,i,he,k⟩:=c;obtain⟨m,g,d,l,os⟩:=a
 repeat (first|with_reducible refine zU6 he ?_|with_reducible refine zU6 i ?_|(with_reducible refine wpAny_isSubtype_exc i ?_;rw[f])|wp_step)
 exact wpAny_raiseNew_none j k
end
open Builtin Builtin.ObjectAttr
def bmV :List Ab:=[.type "ValueError",.type "Exception",.type "BaseException",.type "object"]
def xZ (K:Frag)(C S:Ad)(init:Option Ab):Bool:=match K.lookup C with
 |some ⟨.type "type",_,.cls cd,sl⟩=>(match sl.toList with
  |[_,_,_,_,some (.builtin n),_]=>cd.mro == .ref C::.ref S::bmV&&n == "ValueError.__new__"&&!cd.hasDel&&cd.hasDict&&tailIn K bmV (.ref S::bmV)&&nsOkIn K cd.ns&&nsIn K cd.ns "__init__" == some init
  |_=>false)
 |_=>false
theorem gD {K:Frag}{h:An}{N:Ad}{mg:Str->Option Ab}{n:Str}{v:Option Ab}(X:K.In h)(G:h.Ns N mg)(e:nsIn K N n=some v):mg n=v:=by
 cases v with
 |none=>exact ns_none_of X G e
 |some v=>
  obtain⟨o,es,ep,b,hd,_,hf⟩:=G;unfold nsIn at e;split at e
  .rename_i c d a f sl q;have:=X _ _ q;rw[b]at this;cases this;cases hd;split at e
   .rename_i g he;cases e;rw[<-hf];unfold nsFind findBy;rw[<-Array.find?_toList,he];rfl
   .split at e<;>cases e
  .cases e
def xk {K:Frag}{h:An}{C S:Ad}{init:Option Ab}(X:K.In h)(q:xZ K C S init=true):
  ∃nm d N bs sn sub ab col dd k0 k1 k2 k3 k5 i,h.get? C=some (excClassObj nm d C N bs (.ref S::bmV) true sn sub ab col dd k0 k1 k2 k3 k5 "ValueError.__new__")/\h.Ns N i/\i "__init__"=init/\OwnTail h bmV (.ref S::bmV)/\∃cd,clsIn K C=some cd/\cd.hasDict=true/\cd.mro=.ref C::.ref S::bmV/\K.lookup C=some (excClassObj nm d C N bs (.ref S::bmV) true sn sub ab col dd k0 k1 k2 k3 k5 "ValueError.__new__"):=by
 unfold xZ at q;split at q
 .rename_i dd cd sl e;split at q
  .rename_i k0 k1 k2 k3 n k5 g;simp only[zO6,zV4,z47]at q;obtain⟨⟨⟨⟨⟨⟨hm,hn⟩,a⟩,c⟩,j⟩,hok⟩,b⟩:=q;obtain⟨nm,bs,mro,ns,d,hd,sn,sub,ab,col,del⟩:=cd;dsimp only at hm a hok b c;subst hm a hn c;have f:sl=#[k0,k1,k2,k3,some (.builtin "ValueError.__new__"),k5]:=by
    obtain⟨l⟩:=sl;simp only at g;rw[g]
   subst f;have N:=Heap.Ns.of_isNs (isNs_of_in X hok);exact⟨nm,d,ns,bs,sn,sub,ab,col,dd,k0,k1,k2,k3,k5,_,X _ _ e,N,gD X N b,tail_of_in X j,_,by unfold clsIn;rw[e],rfl,rfl,e⟩
  .cases q
 .cases q
section
variable {prog:Ah}{w:Ak}{A:Al}{E:Ab->Ac->Prop}{h:An}{g:Array GenState}{d:Drawn}{t:Nat}{os:OsState}{K:Frag}{C S e t0:Ad}{dx:Option Ad}{init:Option Ab}
def zd9 {ox:Obj}(he:h.get? e=some ox)(a:ox.cls=.ref C)(hd:∃vs,ox.data=.fields vs){od:Option Obj}(hdx:match ox.dict,od with
  |some dx,some o=>h.get? dx=some o
  |none,none=>True
  |_,_=>False):InstAt h e ox C od:=⟨he,a,by obtain⟨vs,hd⟩:=hd;unfold notCls;rw[hd],hdx⟩
end
structure XC (K:Frag)(C S:Ad)(init:Option Ab):Prop where
 ok:xZ K C S init=true
 sa:findIn K (.ref C) "__setattr__"=some (some (.builtin "object.__setattr__"))
 ga:findIn K (.ref C) "__getattribute__"=some (some (.builtin "BaseException.__getattribute__"))
 gt:findIn K (.ref C) "__getattr__"=some none
 cl:findIn K (.ref C) "__class__"=some (some (.builtin "object.__class__"))
 cg:specialIn K (.builtin "object.__class__") "__get__"=some (some (.builtin "getset_descriptor.__get__"))
 ct:takesIn K (.builtin "object.__class__")=some true
section
variable {prog:Ah}{w:Ak}{A:Al}{E:Ab->Ac->Prop}{h:An}{g:Array GenState}{d:Drawn}{t:Nat}{os:OsState}{K:Frag}{C S e t0:Ad}{init:Option Ab}
def fQ {name:Str}{b:Tok}{fill expr:Bool}{ox:Obj}{od:Option Obj}{Q:Ab->Ac->Prop}(X:K.In h)(c:XC K C S init)(I:InstAt h e ox C od)
  (hq:Aj (Ag prog w) A.in1 (Builtin.«object.__getattribute__» ⟨[.ref e,.str name b],[]⟩) (λfin s'=>match fin with|.done (.ret v)=>Aj (Ag prog w) A (handedOut v) Q E s'|_=>False) (λ_ _=>False) ⟨h,g,d,t,os⟩):
  Aj (Ag prog w) A (getAttrBy (.ref e) (.str name b) fill expr) Q E ⟨h,g,d,t,os⟩:=by
 obtain⟨nm,o,N,bs,sn,sub,ab,col,dd,k0,k1,k2,k3,k5,l,m,n,hi,T,cd,j,f,a,_⟩:=xk X c.ok;have k:=PySem.F.attr_ValueError;unfold getAttrBy;refine zP3 (zK0 (I.type.at (zK0 ((looks_findIn X c.ga).at ?_))));have i:(Value.builtin "BaseException.__getattribute__" == Value.builtin "object.__getattribute__")=false:=by decide +kernel
 dsimp only;rw[i,z65,if_neg (by decide)];have hb:Looks (Ag prog w) h (hookBefore (.ref C)) none:=looks_hook X (by rw[if_pos (show onTheHeap (.ref C)=true from rfl)];exact c.gt);refine zK0 (hb.at (zK0 (zT6 (zP3 ?_))));unfold callGetattribute;rw[show(expr&&onTheHeap (Value.builtin "BaseException.__getattribute__"))=false from z65 _,if_neg (by decide)];unfold boundAndCalled;rw[k.ga.bind];refine zK0 (zK2 ?_);have sub:Looks (Ag prog w) h (isInstance (.ref e) (.type "BaseException")) true:=I.type.andThen (looks_mroIn X (by unfold mroIn;rw[j,z09,a]<;>rfl));show Aj _ _ (call (.builtin "BaseException.__getattribute__") [.ref e,.str name b]) _ _ _;refine zX4 (codeAny_call_builtin k.ga.plain PySem.F.entry_bexc_ga (@check_slot (Ag prog w) _ _ ⟨h,g,d,t,os⟩ "BaseException.__getattribute__" "BaseException" "__getattribute__" (.ref e) [.str name b] [] _ (by decide +kernel) (by decide +kernel) sub (PySem.F.args_bexc_ga (.ref e) (.str name b)) ?_));refine zO9 hq (λfin s' z=>?_) λ_ _ z=>z.elim;rcases fin with(_|_|_|_)|_<;>first|exact z|exact z.elim
def zo0 {ox:Obj}{od:Option Obj}{Q:Option Ab->Ac->Prop}(X:K.In h)(c:XC K C S init)(I:InstAt h e ox C od)(hq:Q (some (.ref C)) ⟨h,g,d,t+1,os⟩):Aj (Ag prog w) A (getAttr? (.ref e) "__class__") Q E ⟨h,g,d,t,os⟩:=by
 obtain⟨nm,j,N,bs,sn,sub,ab,col,dd,k0,k1,k2,k3,k5,k,l,i,hi,T,cd,b,f,a,_⟩:=xk X c.ok;have hf:findObj K C od "__class__"=some (.bind (.builtin "getset_descriptor.__get__") (.builtin "object.__class__")):=by
  unfold findObj;rw[b,z09,c.cl,z09];dsimp only;rw[c.cg,z09];dsimp only;rw[c.ct];rfl
 unfold getAttr? getAttrBy?;refine zK0 (wpAny_mkText (zK0 (zT6 (fQ X c I ?_))));unfold Builtin.«object.__getattribute__»;refine zK0 (zK2 (zK0 (zK2 (zK0 (I.type.at (zK0 ((looks_find X I hf).at ?_)))))));show Aj _ _ (bindTo _ _ _ _) _ _ _;have hm:mroIn K C (.type "object")=some true:=by unfold mroIn;rw[b,z09,a]<;>rfl
 refine zK0 (zP3 (zX4 (class_get (s:=⟨h,g,d,t+1,os⟩) (ox:=ox) (od:=od) X I hm ?_)));refine zK2 ?_;exact handed_on rfl (zK2 hq)
def gA {ox:Obj}{od:Option Obj}(c:XC K C S init):KitX K (.ref e) (.ref C) (λh=>InstAt h e ox C od) where
 ty:=λ_ _ _ I=>I.type
 it:=λ_ _ X _=>by
  obtain⟨nm,j,N,bs,sn,sub,ab,col,dd,k0,k1,k2,k3,k5,i,b,_⟩:=xk X c.ok;intro l o m s' k q;unfold isType loadHead;exact zK0 (wpAny_loadPart (k _ _ b) (zK2 q))
 ne:=λh tp dd f n sl X a=>by
  obtain⟨nm,j,N,bs,sn,sub,ab,col,dd,k0,k1,k2,k3,k5,i,b,_⟩:=xk X c.ok;refine Bool.eq_false_iff.mpr λq=>?_;have e:C=tp:=Value.ref.inj (zV4.mp q);subst e;cases(show Data.cls _=Data.seq _ _ from congrArg Obj.data (zO2 (b.symm.trans a)))
 ca:=λ{_ _ _ _ _ s} X I k=>by obtain⟨h,g,d,t,os⟩:=s;exact zo0 X c I k
structure XB (K:Frag)(C B:Ad):Prop where
 ty:typeIn K (.ref B)=some (.type "type")
 be:mroIn K B (.type "BaseException")=some true
 sub:mroIn K C (.ref B)=some true
def zl5 {B:Ad}{ox:Obj}{od:Option Obj}{Q:Bool->Ac->Prop}(X:K.In h)(b:XB K C B)(I:InstAt h e ox C od)(hq:Q true ⟨h,g,d,t,os⟩):Aj (Ag prog w) A (excMatches (.ref e) (.ref B)) Q E ⟨h,g,d,t,os⟩:=by
 have l1:Looks (Ag prog w) h (isType (.ref B)) true:=by
  obtain⟨cd,a,_⟩:=Option.bind_eq_some_iff.mp b.be;unfold clsIn at a;split at a
  .rename_i c' d' l i f;intro n m o s' k q;unfold isType loadHead;exact zK0 (wpAny_loadPart (k _ _ (X _ _ f)) (zK2 q))
  .cases a
 have l2:Looks (Ag prog w) h (isExcClass (.ref B)) true:=l1.andThen (by rw[if_pos rfl];exact looks_mroIn X b.be);have l3:Looks (Ag prog w) h (isInstance (.ref B) (.type "tuple")) false:=(looks_typeIn X b.ty).andThen (Looks.of_pure tc_notTuple);have c:=looks_mroIn (M:=Ag prog w) X b.sub;have j:=I.type (M:=Ag prog w);unfold excMatches;refine zK0 (l3.at ?_);rw[if_neg (by decide)];refine zK0 (zK2 ?_);simp only[z33,z66];refine zK0 (zK0 (zK0 (l2.at ?_)));refine zK2 (zK2 (zK0 (j.at (zK0 (zK0 (zK0 (c.at ?_)))))));exact zK2 (zK2 (zK2 hq))
end
def xcF (a C:Ad)(d:Option Ad):HO:=.ext λh=>∃t,h.get? a=some (tN C t d)
section
variable {X:Cx}{pins:List (Ad×Obj)}{σ:St}{H:Hp}{s:Ac}{a C:Ad}{d:Option Ad}{pos:Pos}
def zt6 {P:Ah}{w:Ak}{H':Hp}{h:An}{t:Ad}(e:h.get? a=some (tN C t d)):yr P w H' h a (xcF a C d):=⟨⟨t,e⟩,⟨_,e⟩,λ_ _ b k=>by obtain⟨t,e⟩:=b;exact⟨t,k _ e⟩⟩
def Inv.xat (I:Inv X pins σ H s)(e:H a=some (xcF a C d)):∃t,s.heap.get? a=some (tN C t d):=(I.hok a _ e).1
def Inv.xthaw (I:Inv X pins σ H s)(e:H a=some (xcF a C d)):Inv X pins σ (upd H a (xcO a C d)) s:=by
 obtain⟨t,h⟩:=I.xat e;have:=I.write (x:=a) (e:=a) (o:=xcO a C d) (h':=s.heap) (t':=s.toks) (by rw[e];exact True.intro) (.inl rfl) (λ_ _ _ q=>q) ⟨_,h⟩ ⟨⟨_,_,h,rfl,rfl,rfl⟩,⟨_,h⟩,λ_ _ b k=>by obtain⟨o,vs,c,f⟩:=b;exact⟨o,vs,k _ c,f⟩⟩;exact this
def zn1 {e:Am}{c:TE}(he:PE X e c):PE X (.FormattedValue e (-1) none pos) (λσ H Q=>c σ H λx H1=>∃i:Int,x=.int i/\i.natAbs.log2<1920/\Q (.str (toString i)) H1):=by
 intro pins s σ H Q I h;refine FormattedValue_plain (thn (he pins s σ H _ I h) λu s1 b=>?_);obtain⟨x,H1,f,g,i,ex,hi,q⟩:=b;subst ex;obtain⟨t,rfl⟩:=(show ∃t,u=Value.int i t from g);exact formatField_int_small hi ⟨.str (toString i),H1,f.tok _,⟨_,rfl⟩,q⟩
def tJ (t:TE)(k:Str->TE):TE:=λσ H Q=>t σ H λx H1=>∃a,x=.str a/\a.length<=10000/\k a σ H1 Q
def ba {a b c:Am}{j k m:TE}(ha:PE X a j)(hb:PE X b k)(F:PE X c m):PE X (.JoinedStr [a,b,c] pos) (tJ j λx=>tJ k λy=>tJ m λz=>λ_ H Q=>Q (.str (Str.empty++x++y++z)) H):=by
 intro pins s σ H Q I h;refine PyProof.Rows.JoinedStr_many (joinParts_cons (thn (ha pins s σ H _ I h) λu s1 e=>?_));obtain⟨x,H1,q,G,g,ex,lx,r⟩:=e;subst ex;obtain⟨t1,rfl⟩:=(show ∃t,u=Value.str g t from G);have N:Str.empty.length=0:=rfl;refine⟨by rw[zT5,zP9];lia,joinParts_cons (thn (hb pins s1 σ H1 _ q r) λu s2 ⟨y,D,w,B,f,o,M,v⟩=>?_)⟩;subst o;obtain⟨K,rfl⟩:=(show ∃t,u=Value.str f t from B);refine⟨by rw[zT5,zT5,zP9];lia,joinParts_cons (thn (F pins s2 σ D _ w v) λu s3 ⟨z,E,n,A,i,p,L,J⟩=>?_)⟩;subst p;obtain⟨t3,rfl⟩:=(show ∃t,u=Value.str i t from A);have l:(Str.empty++g++f++i).length<=sizeLine:=by rw[zT5,zT5,zT5,zP9];lia
 exact⟨l,joinParts_nil ⟨.str (Str.empty++g++f++i),E,n.tok _,⟨_,rfl⟩,J⟩ l⟩
def za7 {i:Int}(h:i.natAbs.log2<1920):(Str.ofString (toString i)).length<=10000:=by
 have e:=int_text_length_le (k:=1920) (by decide) h;rw[PySem.ofString_length];lia
end
section
variable {prog:Ah}{w:Ak}{A:Al}{E:Ab->Ac->Prop}{h:An}{g:Array GenState}{d:Drawn}{t:Nat}{os:OsState}
variable {nm q:Str}{C N:Ad}{bs bm bmB:List Ab}{hdct:Bool}{sn:List Str}{sub:List Ab}{ab:Bool}{col:Option Bool}{dd:Option Ad}{k0 k1 k2 k3 k5:Option Ab}{B Bn newId nid initId inN:String}{bmN:List Ab}
def ng (s:ExcBaseFacts Bn newId inN bmN)(k:bmB.contains (.type Bn)=true)(F:ExcBaseFacts B nid initId bmB)(T:OwnTail h bmB bm){n:Str->Option Ab}{rest:List Ab}{Q:Fin->Ac->Prop}
  (l:h.get? C=some (excClassObj nm q C N bs bm hdct sn sub ab col dd k0 k1 k2 k3 k5 newId)) (hn:h.Ns N n) (p:n "__init__"=none)
  (hq:∀h' t',(∀b o,h.get? b=some o->h'.get? b=some o)->h'.get? (h.objs.size+1)=some (tN C t' none)->Q (.done (.ret (.ref (h.objs.size+1)))) ⟨h',g,d,t,os⟩) (i:rest.length<=sizeLine):
  Aj (Ag prog w) A (Builtin.«type.__call__» ⟨.ref C::rest,[]⟩) Q E ⟨h,g,d,t,os⟩:=by
 repeat (first|with_reducible refine zU6 l ?_|with_reducible refine wpAny_madeBy_exc l ?_|wp_step)
 refine codeAny_call_builtin_code (z01 _ s.quiet) (wpAny_check_new_subU s k T l ?_);refine codeAny_exc_new_subU s k F T l ?_ i;show Aj _ _ _ _ _ ⟨yM h C rest,g,d,t,os⟩;have keep:∀b o,h.get? b=some o->(yM h C rest).get? b=some o:=λb o e=>zK1 _ (zK1 _ e);have a:=keep _ _ l;have j:(yM h C rest).Ns N n:=let⟨o,es,ep,e,r⟩:=hn;⟨o,es,ep,keep _ _ e,r⟩;have c:(yM h C rest).get? (h.objs.size+1)=some (tN C h.objs.size none):=by unfold yM;heap_get
 have m:(Value.ref C::bm).contains (.ref C)=true:=by simp
 have f:=T.keeps keep;unfold isInstance
 repeat (first|with_reducible refine zU6 c ?_|(with_reducible refine wpAny_isSubtype_exc a ?_;rw[m])|wp_step)
 show Aj _ _ (typeLookup (.ref C) _) _ _ _;refine wpAny_typeLookup_tail a j f F.mroIs F.init.lookup ?_;rw[p];refine zP3 (zK0 (zZ0 (F.init.bind _) ?_));refine zK0 (zX4 (codeAny_call_builtin F.init.plain F.initEntry (wpAny_check_init_subU F f a c rfl ?_)))
 wp_walk
 refine hq _ (yM h C rest).objs.size (λb o hb=>?_) ?_
 .rw[zM0 _ _ (zT2 (zR8 (zL0 hb)))];exact zK1 _ (keep _ _ hb)
 .rw[zQ4 _ (zK1 _ c) rfl];rfl
def zs0 (j:ExcBaseFacts Bn newId inN bmN)(e:bmB.contains (.type Bn)=true)(F:ExcBaseFacts B nid initId bmB)(T:OwnTail h bmB bm){i:Str->Option Ab}{rest:List Ab}{Q:Ab->Ac->Prop}
  (c:h.get? C=some (excClassObj nm q C N bs bm hdct sn sub ab col dd k0 k1 k2 k3 k5 newId)) (hn:h.Ns N i) (f:i "__init__"=none)
  (hq:∀h' t',(∀b o,h.get? b=some o->h'.get? b=some o)->h'.get? (h.objs.size+1)=some (tN C t' none)->Q (.ref (h.objs.size+1)) ⟨h',g,d,t,os⟩) (a:rest.length<=sizeLine):
  Aj (Ag prog w) A (call (.ref C) rest) Q E ⟨h,g,d,t,os⟩:=by
 have f1:=tc_lookup;have f2:=tc_bind (.ref C);have k:(⟨h,g,d,t,os⟩:Ac).TypeIs (.ref C) "type":=⟨_,c,rfl⟩;refine zX4 (z61 ?_);show Aj _ _ (callAny (.ref C) _) _ _ _
 repeat (any_goals (first|assumption|with_reducible refine zU6 c ?_|wp_step))
 refine⟨rfl,?_⟩;exact codeAny_call_builtin_at (z01 _ (by decide +kernel)) entry_typeCall (wpAny_check_type_call_sub c (ng j e F T c hn f hq a))
end
section
variable {X:Cx}{pins:List (Ad×Obj)}{σ:St}{H:Hp}{s:Ac}{k:Nat}{f C S:Ad}{fd:Ao}{ps:List Str}{sp:Sp}{x:Str}{p pos:Pos}{e:Am}{es:List Am}{t:TA}
def Inv.xmade {h':An}{t':Ad}(I:Inv X pins σ H s)(hk:∀b o,s.heap.get? b=some o->h'.get? b=some o)(he:h'.get? (s.heap.objs.size+1)=some (tN C t' none)):Inv X pins σ (upd H (s.heap.objs.size+1) (xcF (s.heap.objs.size+1) C none)) {s with heap:=h'}:=
 I.laid (t':=s.toks) hk (zT4 _) (zt6 he)
theorem zA5 (c:xZ X.K C S (some (.ref f))=true)(B:PySem.W.typeIn X.K (.ref f)=some (.type "function"))(kp:PySem.W.keepIn X.K (.ref C)=true)(F:zS X.prog X.w X.K X.mg X.base CX0 k f fd ps sp)(hr:zB (k+1) X.A)(hg:Gl X x)(hm:X.mg x=some (.ref C))(hb:Binds X.K fd ps [])
  (ha:PA X (e::es) t) (n:(x == ("__debug__":Str))=false:=by decide) (he:Af (e::es) X.env=(false,eval e X.env)::Af es X.env:=by rfl) (hpl:(backTo pos (Af es X.env)).any (·.1)=false:=by rfl):
  PE X (.Call (.Name x p) (e::es) [] pos) (λσ H Q=>t σ H λvs H1=>vs.length<=100/\∀a,H1 a=none->sp (.ref a::vs) (upd H1 a (xcF a C none)) (λv R=>v=.non/\Q (.ref a) R) E0):=by
 intro pins s σ H Q I h;refine zS1 (yV I hg hm ?_ n);refine zV1 (h₀:=X.base) I.ok.mod.kin kp (thn (ha pos pins s σ H _ I h) λus s1 D=>?_) he hpl;obtain⟨vs,H1,j,r,lv,q⟩:=D;refine⟨j.kIn,?_⟩;obtain⟨nm,qn,N,bs,sn,sub,ab,col,dd,k0,k1,k2,k3,k5,mN,Y,P,hi,T,_⟩:=xk j.kIn c;obtain⟨oI,M,cI⟩:=zO5.mp B;have E:=j.kIn _ _ M;have U:=r.length;have hq:=q (s1.heap.objs.size+1) (j.hok.fresh (zT4 _));obtain⟨h0,g,d,tk,os⟩:=s1;refine zz1 zV0 (by decide +kernel) zV0 T Y P hi E cI ?_ (by show us.length<=_;rw[zP9];exact zi6 U lv);have keep:∀b o,h0.get? b=some o->(yM h0 C us).get? b=some o:=λb o e=>zK1 _ (zK1 _ e);have l:(yM h0 C us).get? (h0.objs.size+1)=some (tN C h0.objs.size none):=by unfold yM;heap_get
 have z:=j.xmade (h':=yM h0 C us) keep l;have G:Vals (V.ref (h0.objs.size+1)::vs) (Value.ref (h0.objs.size+1)::us):=.cons rfl r;have y:(Value.ref (h0.objs.size+1)::us++[]).length=ps.length:=by
  have e:=G.length;rw[F.len _ _ _ _ hq]at e;rw[zP6];exact e.symm
 have m:=hb _ (Value.ref (h0.objs.size+1)::us) z.kIn y;rw[zP6]at m;refine zX4 (zX6 (F.run _ X.stack _ _ ⟨Value.ref (h0.objs.size+1)::us,[]⟩ _ _ _ E0 (hr.make C us []) (z.env0.make C us []) m G hq) λr s' i=>?_);cases r with
 |error e=>exact(i:False).elim
 |ok L=>
  cases L with
  |ret u=>
   obtain⟨v,H',J,Z,ev,O⟩:=z.after i;subst ev;exact⟨Z,⟨V.ref (h0.objs.size+1),H',J,rfl,O⟩⟩
  |next=>exact False.elim i
  |brk=>exact False.elim i
  |cont=>exact False.elim i
def jB (c:xZ X.K C S none=true)(kp:PySem.W.keepIn X.K (.ref C)=true)(hg:Gl X x)(hm:X.mg x=some (.ref C))
  (ha:PA X (e::es) t) (i:(x == ("__debug__":Str))=false:=by decide) (he:Af (e::es) X.env=(false,eval e X.env)::Af es X.env:=by rfl) (hpl:(backTo pos (Af es X.env)).any (·.1)=false:=by rfl):
  PE X (.Call (.Name x p) (e::es) [] pos) (λσ H Q=>t σ H λvs H1=>vs.length<=100/\∀a,H1 a=none->Q (.ref a) (upd H1 a (xcF a C none))):=by
 intro pins s σ H Q I h;refine zS1 (yV I hg hm ?_ i);refine zV1 (h₀:=X.base) I.ok.mod.kin kp (thn (ha pos pins s σ H _ I h) λus s1 j=>?_) he hpl;obtain⟨vs,H1,b,r,lv,q⟩:=j;refine⟨b.kIn,?_⟩;obtain⟨nm,v,N,bs,sn,sub,ab,col,dd,k0,k1,k2,k3,k5,o,m,n,hi,T,_⟩:=xk b.kIn c;have l:=r.length;have hq:=q (s1.heap.objs.size+1) (b.hok.fresh (zT4 _));obtain⟨h0,g,d,u,os⟩:=s1;refine zs0 zV0 (by decide +kernel) zV0 T m n hi (λh' t' hk he=>?_) (by show us.length<=_;rw[zP9];exact zi6 l lv);exact⟨.ref (h0.objs.size+1),_,b.xmade hk he,rfl,hq⟩
def hV {X0:Cx}{R:St->Ad->Hp->Prop}{j:TE}{init:Option Ab}(c:xZ X0.K C S init=true)(n:X0.calm=true)(he:PE (X0.wish (XE X0 R)) e j):
  PS (X0.wish (XE X0 R)) (.Raise (some e) none pos) (λD σ H=>j σ H λx H1=>∃a d,x=.ref a/\H1 a=some (xcF a C d)/\R σ a (upd H1 a (xcO a C d))):=by
 intro pins s σ H D I h;show Aj _ _ (do standAt pos;raiseStmt X0.env (some (do let v <-eval e X0.env;standAt pos;pure v)) none) _ _ _;obtain⟨nm,m,N,bs,sn,sub,ab,col,dd,k0,k1,k2,k3,k5,u,w,y,hi,T,_,_,_,_,l⟩:=xk I.kIn c;refine zK0 (z23 (zv3 (C:=C) (nm:=nm) (q:=m) (N:=N) (bs:=bs) (bm:=.ref S::bmV) (hdct:=true) (sn:=sn) (sub:=sub) (ab:=ab) (col:=col) (dd:=dd) (k0:=k0) (k1:=k1) (k2:=k2) (k3:=k3) (k5:=k5) (newId:="ValueError.__new__") (T.hasType zV0.hasBase) (I.ok.hd n) (zK0 (thn (he pins s σ H _ I h) λv s1 g=>?_))));obtain⟨x,H1,b,o,a,d,ex,i,r⟩:=g;refine zK0 (z23 (zK2 ?_));subst ex;obtain rfl:v=Value.ref a:=o;obtain⟨t',ha⟩:=b.xat i;exact⟨a,t',d,rfl,b.kIn _ _ l,ha,⟨σ,_,a,rfl,(b.xthaw i).unwish.nopins,⟨C,d,zl⟩,.new ha rfl rfl,r⟩⟩
end
abbrev Cx.held (X:Cx)(pins:List (Ad×Obj)):Cx:={X with pn:=X.pn++pins}
abbrev Cx.suite (X:Cx)(a:Ad):Cx:={X with A:=X.A.mark (some (.ref a)),calm:=false,xe:=λ_ _=>False}
section
variable {X:Cx}{pins:List (Ad×Obj)}{σ:St}{H:Hp}{s:Ac}{a:Ad}{D:Ends}{f:Flow}
theorem Inv.held (I:Inv X pins σ H s):Inv (X.held pins) [] σ H s:=
 ⟨⟨I.ok.mod,I.ok.kind,I.ok.glob,I.ok.blt,I.ok.above,I.ok.inj,I.ok.has,I.ok.cab,I.ok.hd,I.ok.frames,I.ok.stk,I.ok.exf,I.ok.bs,I.ok.bsz,I.ok.noex,I.ok.exfs,I.ok.funs,I.ok.frf⟩,I.os,I.bare,I.base,I.loc,I.cell,I.free,I.freeC,λp b=>I.pin p (by simpa using b),I.hok,I.len⟩
def Inv.unheld (I:Inv (X.held pins) [] σ H s):Inv X pins σ H s:=
 ⟨⟨I.ok.mod,I.ok.kind,I.ok.glob,I.ok.blt,I.ok.above,I.ok.inj,I.ok.has,I.ok.cab,I.ok.hd,I.ok.frames,I.ok.stk,I.ok.exf,I.ok.bs,I.ok.bsz,I.ok.noex,I.ok.exfs,I.ok.funs,I.ok.frf⟩,I.os,I.bare,I.base,I.loc,I.cell,I.free,I.freeC,λp b=>I.pin p (by simpa using b),I.hok,I.len⟩
theorem Inv.suite (I:Inv X pins σ H s):Inv (X.suite a) pins σ H s:=
 ⟨⟨I.ok.mod,I.ok.kind,I.ok.glob,I.ok.blt,I.ok.above,I.ok.inj,I.ok.has,I.ok.cab,(λz=>nomatch z),I.ok.frames,I.ok.stk,I.ok.exf,I.ok.bs,I.ok.bsz,I.ok.noex,I.ok.exfs,I.ok.funs,I.ok.frf⟩,I.os,I.bare,I.base,I.loc,I.cell,I.free,I.freeC,I.pin,I.hok,I.len⟩
def Inv.unsuite (J:Inv X [] σ H s){b:St}{H':Hp}{s':Ac}(I:Inv (X.suite a) pins b H' s'):Inv X pins b H' s':=
 ⟨J.ok,I.os,I.bare,I.base,I.loc,I.cell,I.free,I.freeC,I.pin,I.hok,I.len⟩
theorem SP.held {E:Ab->Ac->Prop}(h:SP ((X.held pins).wish E) [] D f s):SP X pins D f s:=by
 cases f with
 |next=>obtain⟨b,H',I,q⟩:=h;exact⟨b,H',I.unwish.unheld,q⟩
 |brk=>obtain⟨b,H',I,q⟩:=h;exact⟨b,H',I.unwish.unheld,q⟩
 |cont=>obtain⟨b,H',I,q⟩:=h;exact⟨b,H',I.unwish.unheld,q⟩
 |ret u=>obtain⟨v,b,H',I,r,q⟩:=h;exact⟨v,b,H',I.unwish.unheld,r,q⟩
def Inv.gone {M:Model}{A:Al}{E:Ab->Ac->Prop}{Q:Unit->Ac->Prop}{i:Nat}{n:Str}{pos:Pos}(I:Inv X pins σ H s)(J:X.N.Nodup)(hi:X.N[i]?=some n)(G:X.env.scope.names.lookup n=some .local)
  (h:∀s',Inv X pins (σ.set i none) H s'->Q () s'):Aj M A (do bindName X.env n .none;unbindBehindTheSuite X.env n pos) Q E s:=by
 obtain⟨m,hn,x⟩:=id I.loc;have t:(X.env.scope.kind == .class||(X.env.scope.kind == .module&&X.env.locals != X.env.globals))=false:=by rw[I.ok.kind];rfl
 have l:i<σ.length:=by rw[I.len];exact(zK7.mp hi).1
 have cne:=I.cne;refine wpAny_nameGoes_keeps G hn t λh' v C g=>?_;obtain⟨T,_,_,R,_⟩:=id hn;have nl:∀{b:Ad} {o:Obj},X.s₀.heap.get? b=some o->b≠X.env.locals:=λ{b o} e=>zL9 (zK5 (zL0 e) I.ok.above);refine h _ ⟨I.ok,I.os,I.bare,⟨λb o e n hb r=>(g.2 b (nl e)).trans (I.base.keep b o e n hb r),λb o e n hb r=>?_,I.base.free,λb o e r=>?_,I.base.tups,I.base.frzs,I.base.tbls⟩,⟨_,C,λj y S e1 u O=>?_⟩,λy c e=>?_,I.free,I.freeC,λp L=>?_,λb ob e=>?_,by simpa using I.len⟩
 .obtain⟨sl,e1⟩:=I.base.slot b o e n hb r;exact⟨sl,(g.2 b (nl e)).trans e1⟩
 .obtain⟨o',e1⟩:=I.base.there b o e r;exact⟨o',(g.2 b (nl e)).trans e1⟩
 .by_cases B:j=i
  .subst B;rw[zS4 l]at u;cases u
  .rw[zP5 (zP2 B)]at u;obtain⟨K,P,q⟩:=x j y S e1 u O;refine⟨K,P,?_⟩;rcases q with⟨k,e⟩|⟨k,c,e,z⟩
   .refine .inl ⟨k,?_⟩;have:y≠n:=λe=>B (sM J e1 (e▸hi));simp[this,e]
   .exact .inr ⟨k,c,e,z.sameBut g (cne y c e)⟩
 .obtain⟨F,z⟩:=I.cell y c e;exact⟨F,z.sameBut g (cne y c e)⟩
 .obtain⟨e,n,ne,nf,d⟩:=I.pin p L;exact⟨(g.2 p.1 ne).trans e,n,ne,nf,d⟩
 .refine(I.hok b ob e).stay (λc F w q=>(g.2 c ?_).trans q) (λ_ q=>q) λ_ _ q=>q;rintro rfl;rcases w with rfl|w
  .rw[I.free]at e;cases e
  .rw[I.free]at w;cases w
def Inv.caught {R:St->Ad->Hp->Prop}{i:Ab->Ac->Prop}{Q:Flow->Ac->Prop}{e:Ab}{m:List ExceptHandler}(c:X.stack=X.env::X.outer)(h:XE X R e s)
  (k:∀σ H a T s',Inv X [] σ H s'->(∃C d,H a=some (xcO a C d))->R σ a H->H T=none->X.s₀.heap.get? T=none->(∀p∈X.pn,p.1≠T)->Ent s'.heap X.base a T .none->Aj (Ag X.prog X.w) X.A (handleBy (.ref a) X.env m) Q i s'):
  Aj (Ag X.prog X.w) X.A (noteFrame e X.env) (λ_ g=>Aj (Ag X.prog X.w) X.A (setFlight e none) (λ_ b=>Aj (Ag X.prog X.w) X.A (handleBy e X.env m) Q i b) i g) i s:=by
 obtain⟨σ,H,a,rfl,I,ha,f,r⟩:=h;refine I.note c ha f λh' T u n o q v=>?_;refine u.flight (fo:=none) c ha n o (by simpa using q) v λt l j=>?_;exact k σ H a T _ l ha r n o q j
theorem lJ {P:Ah}{w:Ak}{h:An}{C:Ad}{d:Option Ad}(hok:HOk P w H h)(e:H a=some (xcO a C d))(hd:∀dx,d=some dx->∃fs,H dx=some (.xd fs)):∃ox od,PySem.W.InstAt h a ox C od/\od.isSome=d.isSome:=by
 obtain⟨⟨o,vs,b,c,i,g⟩,_⟩:=hok a _ e;cases d with
 |none=>exact⟨o,none,zd9 b c ⟨vs,g⟩ (by rw[i];trivial),rfl⟩
 |some dx=>
  obtain⟨fs,j⟩:=hd dx rfl;obtain⟨mA,⟨od,es,ep,e1,_⟩,_⟩:=hok dx _ j;exact⟨o,some od,zd9 b c ⟨vs,g⟩ (by rw[i];exact e1),rfl⟩
end
section
variable {X:Cx}{body suite:List Ap}{b0:Ap}{x n:Str}{np hpos pos:Pos}{B:Ad}
def lS (K:Ae)(B:Ad)(R:St->Ad->Hp->Prop):Prop:=∀σ a H,R σ a H->∃C d,H a=some (xcO a C d)/\(∀dx,d=some dx->∃fs,H dx=some (.xd fs))/\XB K C B
def eZ {R:St->Ad->Hp->Prop}{i:Nat}(t:X.stack=X.env::X.outer)(w:X.N.Nodup)(hi:X.N[i]?=some n)(p:X.env.scope.names.lookup n=some .local)(hg:Gl X x)(hm:X.mg x=some (.ref B))(W:lS X.K B R)(A:(x == ("__debug__":Str))=false:=by decide):
  PS X (.Try body [.ExceptHandler (some (.Name x np)) (some n) (b0::suite) hpos] [] [] pos) (λD σ H=>(∀pins,jP ((X.held pins).wish (XE (X.held pins) R)) body D σ H)/\
   ∀pins a h H',R h a H'->jP ((X.held pins).suite a) (b0::suite) {nx:=λb c=>D.nx (b.set i none) c,rt:=D.rt,bk:=λb c=>D.bk (b.set i none) c,ct:=λb c=>D.ct (b.set i none) c} (h.set i (some (.ref a))) H'):=by
 rintro pins s σ H D I ⟨P,Q⟩;obtain⟨tb,M,Y⟩:=P pins;refine wpAny_Try_except (zO9 (M [] s σ H D (I.held.wish _) Y) (λf s1 hf=>?_) λe s1 G=>?_)
 .have hf:=SP.held hf;cases f with
  |next=>exact z31 hf
  |brk=>exact hf
  |cont=>exact hf
  |ret u=>exact hf
 .refine Inv.caught (X:=X.held pins) t G λh H' a T s' y ha r t1 L t3 ent=>?_;obtain⟨C,d,Z,hd,xb⟩:=W h a H' r;refine wpAny_handleBy_cons (codeAny_handlers_test (yV (y.suite (a:=a)) hg hm ?_ A)) (by intro q;cases q);obtain⟨ox,od,J,_⟩:=lJ y.hok Z hd;obtain⟨h',g',d',O,S⟩:=s';refine zl5 y.kIn xb J (codeAny_handlers_suite_as ?_);refine y.flight (fo:=none) t ha t1 L (by simpa using t3) ent λE g _=>?_;refine tE g w hi (Or.inl p) (v:=.ref a) rfl (λs2 V=>?_) (.inr p);obtain⟨ts,p2,F⟩:=Q pins a h H' r;refine zO9 (p2 [] s2 _ H' _ V.suite F) (λf s3 hf=>?_) λ_ _ z=>(z:False).elim;cases f with
  |next=>
   obtain⟨k,o,j,l⟩:=hf;exact(g.unsuite j).gone w hi p λs4 m=>⟨_,o,m.unheld,l⟩
  |brk=>
   obtain⟨k,o,j,l⟩:=hf;exact(g.unsuite j).gone w hi p λs4 m=>⟨_,o,m.unheld,l⟩
  |cont=>
   obtain⟨k,o,j,l⟩:=hf;exact(g.unsuite j).gone w hi p λs4 m=>⟨_,o,m.unheld,l⟩
  |ret u=>
   obtain⟨v,k,o,j,U,l⟩:=hf;exact(g.unsuite j).gone w hi p λs4 m=>⟨v,_,o,m.unheld,U,l⟩
end
def xD (C:Ad)(fs:List (Aa×Aa)):Aa:=.dict ((.int (C:Nat),.bool true)::fs)
def xD0 (C:Ad):Aa:=.dict [(.int (C:Nat),.bool false)]
section
variable {G:Hp}{v:V}{C:Ad}{ds:List (Aa×Aa)}
theorem AV.xc_inv (h:AV G v (xD C ds)):∃a dx fs,v=.ref a/\G a=some (xcO a C (some dx))/\G dx=some (.xd fs)/\AVf G fs ds:=by
 generalize e:xD C ds=d at h;cases h with
 |@xc a C' dx fs ds' h1 h2 h3=>
  unfold xD at e;injection e with e;injection e with e1 b;injection e1 with e1 _;injection e1 with e1;have:C=C':=by exact_mod_cast e1
  subst this;subst b;exact⟨a,dx,fs,rfl,h1,h2,h3⟩
 |_=>simp[xD]at e
theorem AV.xn_inv (h:AV G v (xD0 C)):∃a,v=.ref a/\G a=some (xcO a C none):=by
 generalize e:xD0 C=d at h;cases h with
 |@xn a C' h1=>
  unfold xD0 at e;injection e with e;injection e with e1 b;injection e1 with e1 _;injection e1 with e1;have:C=C':=by exact_mod_cast e1
  subst this;exact⟨a,rfl,h1⟩
 |_=>simp[xD0]at e
end
def isX (C:Ad)(d:Aa):Prop:=(∃fs,d=xD C fs)\/d=xD0 C
def isX.at {G:Hp}{v:V}{C:Ad}{d:Aa}(x:isX C d)(h:AV G v d):∃a dx,v=.ref a/\G a=some (xcO a C dx)/\∀y,dx=some y->∃fs,G y=some (.xd fs):=by
 rcases x with⟨fs,rfl⟩|rfl
 .obtain⟨a,dx,c,rfl,b,f,_⟩:=h.xc_inv;exact⟨a,some dx,rfl,b,λy e=>by cases e;exact⟨c,f⟩⟩
 .obtain⟨a,rfl,b⟩:=h.xn_inv;exact⟨a,none,rfl,b,λy e=>by cases e⟩
def M.reidx {F:Fr}{O b:Ev}{σ g:St}{H:Hp}(m:M F O σ H)(f:Nat->Nat)(t:b.length=g.length)(hf:∀(k:Nat) a s,b[k]?=some (some a)->g[k]?=some s->O[f k]?=some (some a)/\σ[f k]?=some s)(inj:∀(k p:Nat) a a',b[k]?=some (some a)->b[p]?=some (some a')->f k=f p->k=p):M F b g H:=by
 have ow:∀{y:Ad},Ow F b g y->Ow F O σ y:=λ{y} h=>by
  rcases h with z|⟨i,c,s,e1,j,fo⟩
  .exact .inl z
  .obtain⟨g1,g2⟩:=hf i c s e1 j;exact .inr ⟨_,c,s,g1,g2,fo⟩
 have w:zr (Gz F O σ H) (Gz F b g H):=zo λa o h e=>⟨λz=>h (ow z),e⟩;refine⟨t,λi c s e1 j=>?_,λi n c d s s' x e1 j u v f1 f2=>?_,λi r q e n c s x e1 j fo=>?_,m.tp,m.keep,m.oex⟩
 .obtain⟨g1,g2⟩:=hf i c s e1 j;exact(m.ok _ c s g1 g2).stay w (λx o fo e=>⟨e,(m.ft g1 g2 fo).1,(m.ft g1 g2 fo).2.1⟩) rfl λ_ _ _ l=>l
 .obtain⟨g1,g2⟩:=hf i c s e1 u;obtain⟨k1,k2⟩:=hf n d s' j v;exact inj i n c d e1 j (m.dj _ _ c d s s' x g1 k1 g2 k2 f1 f2)
 .have:i<g.length:=by rw[<-t];exact(zK7.mp e).1
  obtain⟨g1,_⟩:=hf i _ _ e (zK4 this);obtain⟨k1,k2⟩:=hf n c s e1 j;exact m.xd _ r q g1 _ c s x k1 k2 fo
def sV {β:Ev}{b:Option A}{k:Nat}{a:A}(h:(β++[b])[k]?=some (some a)):(k<β.length/\β[k]?=some (some a))\/(k=β.length/\b=some a):=by
 rcases zQ1 k β.length with z|z
 .rw[zN4 z]at h;exact .inl ⟨z,h⟩
 .rw[zN9 z]at h;obtain⟨j,c⟩:∃j,k-β.length=j:=⟨_,rfl⟩;rw[c]at h;cases j with
  |zero=>simp at h;exact .inr ⟨by lia,h⟩
  |succ j=>simp at h
section
variable {F:Fr}{O αh:Ev}{σ:St}{H:Hp}
def M.grow (m:M F O σ H):M F (O++[none]) (σ++[none]) H:=by
 have c:=m.len;refine m.reidx id (by rw[zM8,zM8,c];rfl) (λk a s e1 b=>?_) λ_ _ _ _ _ _ e=>e;rcases sV e1 with⟨z,e⟩|⟨_,e⟩
 .exact⟨e,by rw[zN4 (zK5 z (zM9 c))]at b;exact b⟩
 .cases e
def M.snoc {v:V}{b:A}{H':Hp}(m:M F O σ H)(t:zy F H')(k:Kz F H H')(hn:∀x,foot (some v) b x->H x=none)(hok:yQ (sub (λx=>¬Ow F O σ x/\¬foot (some v) b x) H') F H' (some v) b)(j:noX b:=by trivial):M F (O++[some b]) (σ++[some v]) H':=by
 have g:=m.len;have mg:=m.grow;have ow:∀{y:Ad},Ow F (O++[none]) (σ++[none]) y->Ow F O σ y:=λ{y} h=>by
  rcases h with z|⟨i,c,s,e1,d,fo⟩
  .exact .inl z
  .rcases sV e1 with⟨z,e⟩|⟨_,e⟩
   .exact .inr ⟨i,c,s,e,by rw[zN4 (zK5 z (zM9 g))]at d;exact d,fo⟩
   .cases e
 have m2:=mg.store (i:=O.length) (v:=v) (b:=b) t k hn (hok.stay (zo λa o h e=>⟨⟨λz=>h.1 (ow z),h.2⟩,e⟩) (λx o f e=>by
  obtain⟨n,p,_⟩:=uX hok f;exact⟨e,n,p⟩) rfl λ_ _ _ l=>l) j
 have e1:(O++[none]).set O.length (some b)=O++[some b]:=by rw[z55 _ _ (zK6 _),zV9]<;>rfl
 have d:(σ++[none]).set O.length (some v)=σ++[some v]:=by rw[z55 _ _ (zM9 g.symm),g,zV9]<;>rfl
 rw[e1,d]at m2;exact m2
def M.len' {b:Option A}{s:Option V}(m:M F (O++[b]) (σ++[s]) H):O.length=σ.length:=by
 have:=m.len;rw[zM8,zM8]at this;exact Nat.add_right_cancel this
def M.lastAt {b:A}{v:V}{i:Nat}(m:M F (O++[some b]) (σ++[some v]) H):M F (O.set i (some b)) (σ.set i (some v)) H:=by
 have f:=m.len';have key:∀{k:Nat} {a:A},(O.set i (some b))[k]?=some (some a)->k<O.length/\((k=i/\a=b)\/(k≠i/\O[k]?=some (some a))):=λ{k a} e=>by
  have hk:=(zK7.mp e).1;rw[zP0]at hk;rcases zv e with⟨rfl,z⟩|⟨d,c⟩
  .cases z;exact⟨hk,.inl ⟨rfl,rfl⟩⟩
  .exact⟨hk,.inr ⟨λw=>d w.symm,c⟩⟩
 refine m.reidx (λk=>if k=i then O.length else k) (by rw[zP0,zP0];exact f) (λk a s e1 g=>?_) λk h a l e j z=>?_
 .obtain⟨hk,⟨rfl,rfl⟩|⟨hne,e⟩⟩:=key e1
  .rw[if_pos rfl];rw[zS4 (zK5 hk (zM9 f))]at g;cases g;exact⟨by rw[zN9 (zK6 _),zV9]<;>rfl,by rw[zN9 (zM9 f.symm),f,zV9]<;>rfl⟩
  .rw[if_neg hne];rw[zP5 (λw=>hne w.symm)]at g;exact⟨by rw[zN4 hk];exact e,by rw[zN4 (zK5 hk (zM9 f))];exact g⟩
 .have n:=(key e).1;have o:=(key j).1;by_cases d:k=i
  .by_cases c:h=i
   .exact d.trans c.symm
   .rw[if_pos d,if_neg c]at z;lia
  .by_cases c:h=i
   .rw[if_neg d,if_pos c]at z;lia
   .rw[if_neg d,if_neg c]at z;exact z
def aA {S:Ad->Prop}{G H:Hp}{x:Ad}{o:HO}(h:G x=some o)(a:¬S x)(hn:∀xs,o≠.lst xs):uL S G H x=some o:=by
 unfold uL;rw[if_neg a,h];cases o<;>first|rfl|exact absurd rfl (hn _)
def fv {S:Ad->Prop}{p:Ad->Prop}{H:Hp}{x:Ad}{o:HO}(h:uL S (sub p H) H x=some o):H x=some o:=by
 rcases sk h with⟨_,z⟩|⟨_,z⟩
 .exact z
 .exact(zi z).2
end
structure Xok (X:Cx)(r:Fr)(αh:Ev)(q:Aa->Prop):Prop where
 ex:∃(X0:Cx) (R:St->Ad->Hp->Prop),X=X0.wish (XE X0 R)/\X0.stack=X0.env::X0.outer/\X0.ex=[]/\∀σ d S a H',M r (αh++[some (.deep d S)]) (σ++[some (.ref a)]) H'->q d->R σ a H'
section
variable {F:Fr}{O αh:Ev}{σ:St}{H:Hp}
theorem M.exc {j:Nat}{q:Aa->Prop}(m:M F O σ H)(v:O[j]?=some none):M F (O.set j (some (.exc F q))) σ H:=by
 have d:∀{i:Nat} {c:A},(O.set j (some (.exc F q)))[i]?=some (some c)->(i=j/\c=.exc F q)\/O[i]?=some (some c):=λ{i c} e=>by
  rcases zv e with⟨rfl,z⟩|⟨_,t⟩
  .cases z;exact .inl ⟨rfl,rfl⟩
  .exact .inr t
 have ow:∀{y:Ad},Ow F (O.set j (some (.exc F q))) σ y->Ow F O σ y:=λ{y} h=>by
  rcases h with z|⟨i,c,s,e1,b,f⟩
  .exact .inl z
  .rcases d e1 with⟨_,rfl⟩|e1
   .exact f.elim
   .exact .inr ⟨i,c,s,e1,b,f⟩
 have p:zr (Gz F O σ H) (Gz F (O.set j (some (.exc F q))) σ H):=zo λa o h e=>⟨λz=>h (ow z),e⟩;refine⟨by rw[zP0];exact m.len,λi c s e1 b=>?_,λi g c c' s s' x e1 b k n f1 f2=>?_,λi u r e g c s x e1 b f=>?_,m.tp,m.keep,m.oex⟩
 .rcases d e1 with⟨_,rfl⟩|e1
  .exact⟨rfl,λ_ z=>z,m.tp,m.keep⟩
  .exact(m.ok i c s e1 b).stay p (λx o f e=>⟨e,(m.ft e1 b f).1,(m.ft e1 b f).2.1⟩) rfl λ_ _ _ l=>l
 .rcases d e1 with⟨_,rfl⟩|e1
  .exact f1.elim
  .rcases d b with⟨_,rfl⟩|b
   .exact f2.elim
   .exact m.dj i g c c' s s' x e1 b k n f1 f2
 .rcases d e1 with⟨_,rfl⟩|e1
  .exact f.elim
  .rcases d e with⟨_,z⟩|e
   .cases z;exact(m.ft e1 b f).2.1
   .exact m.xd i u r e g c s x e1 b f
def M.back {j:Nat}{r:Fr}{q:Aa->Prop}(m:M F O σ H)(g:O[j]?=some (some (.exc r q)))(t:αh.length=O.length)(le:∀(i:Nat) a,αh[i]?=some (some a)->O[i]?=some (some a)/\noX a):M r αh σ H:=by
 have l:=m.lnk g;have ow:∀{y:Ad},Ow r αh σ y->Ow F O σ y:=λ{y} h=>by
  rcases h with z|⟨i,c,s,e1,b,f⟩
  .exact .inl (l.o y z)
  .exact .inr ⟨i,c,s,(le _ _ e1).1,b,f⟩
 have u:zr (Gz F O σ H) (Gz r αh σ H):=zo λa o h e=>⟨λz=>h (ow z),e⟩;refine⟨t.trans m.len,λi c s e1 b=>?_,λi n c d s s' x e1 b=>m.dj i n c d s s' x (le _ _ e1).1 (le _ _ b).1,λi w v e=>((le _ _ e).2:False).elim,l.ok,l.k,λx p=>m.oex x (l.o x p)⟩;refine(m.ok i c s (le _ _ e1).1 b).stay u (λx o f e=>⟨e,λz=>(m.ft (le _ _ e1).1 b f).1 (l.o x z),m.xd j r q g i c s x (le _ _ e1).1 b f⟩) l.tp λw v z=>?_;subst z;exact((le _ _ e1).2:False).elim
end
def leX :Ev->Ev->Prop:=λαh O=>αh.length=O.length/\∀(i:Nat) a,αh[i]?=some (some a)->O[i]?=some (some a)/\noX a
def leX.nil {n:Nat}{O:Ev}(h:n=O.length):leX (List.replicate n none) O:=⟨by rw[z04];exact h,λi a e=>by
 rw[zU3]at e;split at e<;>cases e⟩
theorem leX.cons {x y:Option A}{αh O:Ev}(h:x=none\/(x=y/\∀a,x=some a->noX a))(r:leX αh O):leX (x::αh) (y::O):=⟨by rw[zN0,zN0,r.1],λi a e=>by
 cases i with
 |zero=>
  simp at e;rcases h with h|⟨b,c⟩
  .rw[h]at e;cases e
  .subst b;subst e;exact⟨rfl,c _ rfl⟩
 |succ i=>simpa using r.2 i a (by simpa using e)⟩
def leX.nil' :leX [] []:=⟨rfl,λi a e=>by simp at e⟩
def leX.snoc {αh O:Ev}{b:A}(h:leX αh O)(hb:noX b):leX (αh++[some b]) (O++[some b]):=⟨by rw[zM8,zM8,h.1],λi a e=>by
 rcases sV e with⟨z,e⟩|⟨z,e⟩
 .rw[zN4 (by rw[<-h.1];exact z)];exact h.2 i a e
 .cases e;rw[z,h.1,zN9 (zK6 _),zV9];exact⟨rfl,hb⟩⟩
def M.backS {F:Fr}{O αh:Ev}{σ:St}{H:Hp}{j:Nat}{r:Fr}{q:Aa->Prop}{b:A}{v:V}(m:M F (O++[some b]) (σ++[some v]) H)(c:O[j]?=some (some (.exc r q)))(le:leX αh O)(hb:noX b):M r (αh++[some b]) (σ++[some v]) H:=by
 have a:(O++[some b])[j]?=some (some (.exc r q)):=by rw[zN4 (zK7.mp c).1];exact c
 exact m.back a (le.snoc hb).1 (le.snoc hb).2
def rQ {r:Fr}{αh:Ev}{σ:St}{H':Hp}{d:Aa}{S:Ad->Prop}{a:Ad}(m:M r (αh++[some (.deep d S)]) (σ++[some (.ref a)]) H'):gE r (.ref a) H' (.deep d S):=by
 obtain⟨v,b,f,c⟩:=m.deep αh.length d S (by rw[zN9 (zK6 _),zV9]<;>rfl);rw[m.len',zN9 (zK6 _),zV9]at b;cases b;exact⟨f.same (wK (zo λa o h e=>⟨ow0 h,e⟩) λ_ _ _ e=>e),c⟩
def spX (φ:List A->(A->Prop)->(Aa->Prop)->Prop):Sp:=λvs H b E=>∃(F:Fr) (as:List A) (Q:A->Prop) (q:Aa->Prop),F.H0=H/\zy F H/\(∀x,F.O0 x->∃o,H x=some o/\xV o)/\zK F (sub (λx=>¬F.O0 x) H) vs as/\φ as Q q/\(∀a v H',Q a->xm F v H' a->b v H')/\∀d S a H',q d->xm F (.ref a) H' (.deep d S)->E (.ref a) none H'
section
variable {P:Ah}{w:Ak}{K:Ae}{mg:Str->Option Ab}{base:An}
def fnX {x qual:Str}{st:Ap}{f:Ad}{fd:Ao}{N ps:List Str}{z:Str}{k:Nat}{φ:List A->(A->Prop)->(Aa->Prop)->Prop}(G:Fun K x qual st f fd)(S:zA (N++[z]) ps (zb st))(C:ps.length<=N.length)(hlen:∀as Q q,φ as Q q->as.length=ps.length)
  (c:∀(cdv:Ab) (g:Al) (outer:List Ar) (s:Ac) (H:Hp) (E:XK) (as:List A) (Q:A->Prop) (q:Aa->Prop) (r:Fr) (xe:Ab->Ac->Prop),zB k (g.deeper (envOfC qual (zb st) s.heap.objs.size f cdv))->φ as Q q->Xok ((yS (CX1 P w base) P w K mg base (N++[z]) qual (zb st) f cdv g outer s H E).wish xe) r (List.replicate (N.length+1) none) q->
   SvS ((yS (CX1 P w base) P w K mg base (N++[z]) qual (zb st) f cdv g outer s H E).wish xe) ((as.map some++List.replicate (N.length-as.length) none)++[some (.exc r λ_=>True)]) (zt st) {nx:=λ_=>Q (.dat .none),rt:=Q}):zS P w K mg base (CX1 P w base) (k+1) f fd ps (spX φ):=by
 refine G.okX S (λvs H Q E h=>?_) (λcdv g outer s H vs J E hr h=>?_)
 .obtain⟨F,as,u,q,_,_,_,i,b,_⟩:=h;rw[i.length,hlen as _ _ b]
 .obtain⟨F,as,u,q,e,t,o,i,b,n,D⟩:=h;have I:=hlen as _ _ b;have m:=M.start (N:=N++[z]) e t o i;have y:as.map some++List.replicate ((N++[z]).length-as.length) none=(as.map some++List.replicate (N.length-as.length) none)++[none]:=by rw[zM8,z05,show N.length+1-as.length=(N.length-as.length)+1 by omega,List.replicate_succ',zN2]
  rw[y]at m;have el:(as.map some++List.replicate (N.length-as.length) (none:Option A)).length=N.length:=by rw[zM8,zK3,z04];lia
  have p:=m.exc (j:=N.length) (q:=λ_=>True) (by rw[zN9 (by lia),el,zV9]<;>rfl);have es:((as.map some++List.replicate (N.length-as.length) (none:Option A))++[none]).set N.length (some (A.exc F λ_=>True))=(as.map some++List.replicate (N.length-as.length) none)++[some (.exc F λ_=>True)]:=by rw[z55 _ _ (by lia),el,zV9]<;>rfl
  rw[es]at p;refine c cdv g outer s H E as u q F _ hr b ⟨_,_,rfl,rfl,rfl,λσ d S a H' l B=>D d S a H' B ⟨l.tp,l.keep,rQ l⟩⟩ F _ H _ p ⟨λO σ H' m q=>?_,λa v H' r q=>n a v H' q r,λ_ _ _ _ z=>z.elim,λ_ _ _ _ z=>z.elim⟩;exact n _ _ _ q ⟨m.tp,m.keep,.non⟩
end
structure bu (P:Ah)(w:Ak)(K:Ae)(mg:Str->Option Ab)(base:An)(x:Str)(k:Nat)(φ:List A->(A->Prop)->(Aa->Prop)->Prop):Prop where
 ex:∃f fd ps,mg x=some (.ref f)/\PySem.W.keepIn K (.ref f)=true/\Binds K fd ps []/\zS P w K mg base (CX1 P w base) k f fd ps (spX φ)
structure zo5 (K:Ae)(mg:Str->Option Ab)(x:Str)(C:Ad):Prop where
 m:mg x=some (.ref C)
 kp:PySem.W.keepIn K (.ref C)=true
 ex:∃S,xZ K C S none=true
section
variable {X:Cx}{O αh:Ev}{r:Fr}{q q0:Aa->Prop}{j k:Nat}{x fl:Str}{C:Ad}{e:Am}{es:List Am}{p pos pos':Pos}{rest:List Ap}{E:ya}
def iY (l:Xok X r αh q)(t:X.calm=true)(g:zo5 X.K X.mg x C)(hg:Gl X x)(s:O[j]?=some (some (.exc r q0)))(le:leX αh O)(h:EvD X O e λ_=>q (xD0 C))
  (f:(x == ("__debug__":Str))=false:=by decide) (he:Af [e] X.env=(false,eval e X.env)::Af [] X.env:=by rfl):SvS X O (.Raise (some (.Call (.Name x p) [e] [] pos)) none pos'::rest) E:=λF σ H D m B=>by
 obtain⟨X0,R,rfl,w,A,u⟩:=l.ex;obtain⟨S,c⟩:=g.ex;refine⟨_,zC (hV c t (jB (X:=X0.wish (XE X0 R)) c g.kp hg g.m (zw zh zQ he) f he)) zJ,?_⟩;refine h F σ H _ m λd v H1 n t1 k1 G=>?_;refine⟨zL3 rfl,λa ha=>⟨a,none,rfl,zl,?_⟩⟩;have m1:=m.kz k1 t1;rw[uY];have i:zr H1 (upd H1 a (xcO a C none)):=λy o e=>by rw[zj (λz=>by rw[z,ha]at e;cases e)];exact e
 have m3:=m1.snoc (v:=.ref a) (b:=.deep (xD0 C) λ_=>False) (H':=upd H1 a (xcO a C none)) (m1.tp.same i) (Kz.of_same i) (λx z=>z.elim) ⟨_,rfl,.xn (aA (zD ⟨m1.fresh ha,λz=>z⟩ zl) (λz=>z) λxs z=>by cases z),λx z=>z.elim⟩;exact u σ _ _ a _ (m3.backS s le trivial) n
theorem cH {X0:Cx}{R:St->Ad->Hp->Prop}{f:Ad}{fd:Ao}{ps:List Str}{sp:Sp}{t:TA}(hex:X0.ex=[])(F:zS X0.prog X0.w X0.K X0.mg X0.base (CX1 X0.prog X0.w X0.base) k f fd ps sp)(hr:zB k X0.A)(hg:Gl X0 x)(hm:X0.mg x=some (.ref f))(hk:PySem.W.keepIn X0.K (.ref f)=true)(hb:Binds X0.K fd ps [])
  (ha:PA (X0.wish (XE X0 R)) (e::es) t) (d:(x == ("__debug__":Str))=false:=by decide) (he:Af (e::es) X0.env=(false,eval e X0.env)::Af es X0.env:=by rfl) (hpl:(backTo pos (Af es X0.env)).any (·.1)=false:=by rfl):
  PE (X0.wish (XE X0 R)) (.Call (.Name x p) (e::es) [] pos) (λσ H Q=>t σ H λvs H1=>∃E:XK,(∀a H',E (.ref a) none H'->R σ a H')/\sp vs H1 Q E):=by
 intro pins s σ H Q I h;refine zS1 (yV I hg hm ?_ d);refine zV1 (h₀:=X0.base) I.ok.mod.kin hk (thn (ha pos pins s σ H _ I h) λus s1 g=>?_) he hpl;obtain⟨vs,H1,b,r,E,l,q⟩:=g;refine⟨b.kIn,?_⟩;have i:(us++[]).length=ps.length:=by rw[zP6,<-r.length];exact F.len _ _ _ _ q
 have c:=hb s1 us b.kIn i;rw[zP6]at c;refine zX4 (zX6 (F.run X0.A X0.stack s1 H1 ⟨us,[]⟩ us vs Q E hr b.env0 c r q) λr s' hq=>?_);cases r with
 |error e=>exact zc1 hex b.unwish hq l
 |ok fl=>
  cases fl with
  |ret u=>exact b.after hq
  |next=>exact False.elim hq
  |brk=>exact False.elim hq
  |cont=>exact False.elim hq
variable {φ:List A->(A->Prop)->(Aa->Prop)->Prop}{Q:Aa->Prop}
def oF {F:Fr}{σ:St}{H:Hp}{vs:List V}{as:List A}{g:A->Prop}{n:VK}{R:St->Ad->Hp->Prop}(m:M F O σ H)(w:O[j]?=some (some (.exc r q0)))(le:leX αh O)(G:∀σ d S a H',M r (αh++[some (.deep d S)]) (σ++[some (.ref a)]) H'->q d->R σ a H')(t:zK F (Gz F O σ H) vs as)(l:φ as g q)
  (s:∀a v H',g a->xm ⟨H,Ow F O σ,F.tp⟩ v H' a->n v H'):∃E:XK,(∀a H',E (.ref a) none H'->R σ a H')/\spX φ vs H n E:=by
 refine⟨λv _ H'=>∃a,v=.ref a/\∃d S,q d/\xm ⟨H,Ow F O σ,F.tp⟩ (.ref a) H' (.deep d S),λa H' i=>?_,⟨⟨H,Ow F O σ,F.tp⟩,as,g,q,rfl,m.tp.to rfl λ_ z=>.inl z,λy z=>m.owEx z,zK.to (F:=F) (F':=⟨H,Ow F O σ,F.tp⟩) (λ_ _ e=>e) rfl t,l,s,λd S a H' h f=>⟨a,rfl,d,S,h,f⟩⟩⟩;obtain⟨I,e,d,S,h,f⟩:=i;cases e;obtain⟨g1,g2,_⟩:=f.back m;obtain⟨_,_,g3,c⟩:=f;have m3:=m.snoc (v:=.ref a) (b:=.deep d S) (H':=H') g1 g2 (λx z=>(c x z).2.1) ⟨_,rfl,g3.same λx o e=>?_,λx z=>⟨ow0 (c x z).1,m.fresh0 (c x z).2.1,(c x z).2.2⟩⟩
 .exact G σ d S a H' (m3.backS w le trivial) h
 .unfold uL at e ⊢;by_cases z:S x
  .rw[if_pos z]at e ⊢;exact e
  .rw[if_neg z]at e ⊢;cases q:sub (λx=>¬Ow F O σ x) H' x with
   |none=>rw[q]at e;cases e
   |some u=>
    obtain⟨B,D⟩:=zi q;rw[zD (p:=λx=>¬Ow F O σ x/\¬foot (some (V.ref a)) (.deep d S) x) ⟨B,z⟩ D];rw[q]at e;exact e
def zb8 (c:Xok X r αh q)(y:O[j]?=some (some (.exc r q0)))(le:leX αh O)(C:bu X.prog X.w X.K X.mg X.base x k φ)(hr:zB k X.A)(hg:Gl X x)(h:EvA X O (e::es) λas=>φ as (λa=>Q a.d) q)
  (b:(x == ("__debug__":Str))=false:=by decide) (he:Af (e::es) X.env=(false,eval e X.env)::Af es X.env:=by rfl) (hpl:(backTo pos (Af es X.env)).any (·.1)=false:=by rfl):EvD X O (.Call (.Name x p) (e::es) [] pos) Q:=λF σ H G m s=>by
 obtain⟨X0,R,rfl,I,n,D⟩:=c.ex;obtain⟨f,fd,ps,z,i,o,l⟩:=C.ex;refine⟨_,cH n l hr hg z i o yv b he hpl,?_⟩;refine h F σ H _ m λas vs H1 u t1 k1 B=>?_;have m1:=m.kz k1 t1;refine oF m1 y le D B u λa v H' t g=>?_;obtain⟨g1,g2,g3⟩:=g.back m1;exact s _ v H' t g1 (k1.trans g2) g3
end
section
variable {P:Ah}{w:Ak}{K:Ae}{mg:Str->Option Ab}{base:An}
def zH2 {x qual:Str}{st:Ap}{f:Ad}{fd:Ao}{N ps:List Str}{z:Str}{k:Nat}{φ:List A->(A->Prop)->(Aa->Prop)->Prop}(G:Fun K x qual st f fd)(hm:mg x=some (.ref f))(hb:Binds K fd ps [])(S:zA (N++[z]) ps (zb st))(c:ps.length<=N.length)(hlen:∀as Q q,φ as Q q->as.length=ps.length)
  (a:∀(cdv:Ab) (b:Al) (outer:List Ar) (s:Ac) (H:Hp) (E:XK) (as:List A) (Q:A->Prop) (q:Aa->Prop) (r:Fr) (xe:Ab->Ac->Prop),zB k (b.deeper (envOfC qual (zb st) s.heap.objs.size f cdv))->φ as Q q->Xok ((yS (CX1 P w base) P w K mg base (N++[z]) qual (zb st) f cdv b outer s H E).wish xe) r (List.replicate (N.length+1) none) q->
   SvS ((yS (CX1 P w base) P w K mg base (N++[z]) qual (zb st) f cdv b outer s H E).wish xe) ((as.map some++List.replicate (N.length-as.length) none)++[some (.exc r λ_=>True)]) (zt st) {nx:=λ_=>Q (.dat .none),rt:=Q}):bu P w K mg base x (k+1) φ:=
 ⟨f,fd,ps,hm,G.kp,hb,fnX G S c hlen a⟩
end
section
variable {X:Cx}{O αh:Ev}{q:Aa->Prop}{i j:Nat}{x n:Str}{B:Ad}{body suite rest:List Ap}{b0:Ap}{np hpos pos:Pos}{E:ya}
def mn {K:Ae}{r:Fr}{αh:Ev}(hq:∀d,q d->∃C,isX C d/\XB K C B):lS K B (λσ a H=>∃d S,M r (αh++[some (.deep d S)]) (σ++[some (.ref a)]) H/\q d):=λσ a H c=>by
 obtain⟨d,S,m,k⟩:=c;obtain⟨C,x,b⟩:=hq d k;obtain⟨av,_⟩:=rQ m;obtain⟨l,dx,e,f,g⟩:=x.at av;cases e;exact⟨C,dx,fv f,λy e=>by obtain⟨fs,h⟩:=g y e;exact⟨fs,fv h⟩,b⟩
def qG {β:Ev}{j:Nat}{a:A}{i:Nat}(e:(β.set j none)[i]?=some (some a)):β[i]?=some (some a):=by
 rcases zv e with⟨_,z⟩|⟨_,z⟩
 .cases z
 .exact z
def M.drop {F:Fr}{β:Ev}{σ:St}{H:Hp}{j:Nat}(m:M F β σ H):M F (β.set j none) σ H:=m.forget (by rw[zP0]) λi a e=>qG e
def M.dropS {F:Fr}{β:Ev}{σ:St}{H:Hp}{j:Nat}(m:M F β σ H):M F (β.set j none) (σ.set j none) H:=by
 have g:=m.drop (j:=j);have k:∀{i:Nat} {a:A} {s:Option V},(β.set j none)[i]?=some (some a)->(σ.set j none)[i]?=some s->σ[i]?=some s:=λ{i a s} e1 b=>by
  by_cases z:j=i
  .subst z;rcases zv e1 with⟨_,z⟩|⟨z,_⟩
   .cases z
   .exact absurd rfl z
  .rw[zP5 z]at b;exact b
 have ow:∀{y:Ad},Ow F (β.set j none) (σ.set j none) y->Ow F (β.set j none) σ y:=λ{y} h=>by
  rcases h with z|⟨i,c,s,e1,b,f⟩
  .exact .inl z
  .exact .inr ⟨i,c,s,e1,k e1 b,f⟩
 have gz:zr (Gz F (β.set j none) σ H) (Gz F (β.set j none) (σ.set j none) H):=zo λa o h e=>⟨λz=>h (ow z),e⟩;exact⟨by rw[zP0,zP0];exact m.len,λi c s e1 b=>(g.ok i c s e1 (k e1 b)).stay gz (λx o f e=>⟨e,(g.ft e1 (k e1 b) f).1,(g.ft e1 (k e1 b) f).2.1⟩) rfl λ_ _ _ l=>l,λi p c d s s' x e1 b r t=>g.dj i p c d s s' x e1 b (k e1 r) (k b t),λi v u e p c s x e1 b=>g.xd i v u e p c s x e1 (k e1 b),g.tp,g.keep,g.oex⟩
def oZ (i j:Nat)(αh:Ev)(q:Aa->Prop)(g:X.stack=X.env::X.outer)(hex:X.ex=[])(v:X.N.Nodup)(u:O[j]?=some none)(le:leX αh O)(hg:Gl X x)(hm:X.mg x=some (.ref B))(hq:∀d,q d->∃C,isX C d/\XB X.K C B)
  (o:∀(pins:List (Ad×Obj)) (xe:Ab->Ac->Prop) (r:Fr),Xok ((X.held pins).wish xe) r αh q->SvS ((X.held pins).wish xe) (O.set j (some (.exc r λ_=>True))) body {nx:=λb=>SvS X (b.set j none) rest E,rt:=E.rt,bk:=λb=>E.bk (b.set j none),ct:=λb=>E.ct (b.set j none)})
  (s:∀(pins:List (Ad×Obj)) (a:Ad) d S,q d->SvS ((X.held pins).suite a) (αh.set i (some (.deep d S))) (b0::suite) {nx:=λb=>SvS X (b.set i none) rest E,rt:=E.rt,bk:=λb=>E.bk (b.set i none),ct:=λb=>E.ct (b.set i none)})
  (hi:X.N[i]?=some n:=by rfl) (p:X.env.scope.names.lookup n=some .local:=by rfl) (h:(x == ("__debug__":Str))=false:=by decide):
  SvS X O (.Try body [.ExceptHandler (some (.Name x np)) (some n) (b0::suite) hpos] [] [] pos::rest) E:=λF σ H D m f=>by
 refine⟨_,zC (eZ (R:=λσ a H=>∃d S,M F (αh++[some (.deep d S)]) (σ++[some (.ref a)]) H/\q d) g v hi p hg hm (mn hq) h) zJ,λpins=>?_,λpins a c H' t=>?_⟩
 .refine o pins _ F ⟨_,_,rfl,g,hex,λσ d S a H' k l=>⟨d,S,k,l⟩⟩ F σ H _ (m.exc u) ⟨λb c H' e z=>?_,f.rt,λb c H' e z=>f.bk _ _ _ e.drop z,λb c H' e z=>f.ct _ _ _ e.drop z⟩;exact z F c H' D e.drop f
 .obtain⟨d,S,k,l⟩:=t;refine s pins a d S l F _ H' _ k.lastAt ⟨λb c H' e z=>?_,f.rt,λb c H' e z=>f.bk _ _ _ e.dropS z,λb c H' e z=>f.ct _ _ _ e.dropS z⟩;exact z F _ H' D e.dropS f
end
section
variable {X:Cx}{O:Ev}{p p1 pos:Pos}{a:Am}{Q:Aa->Prop}{C S:Ad}{init:Option Ab}
inductive TyX (K:Ae)(H:Hp):V->Ad->Prop where
 |mk {a C S:Ad}{d:Option Ad}{init:Option Ab} (e:H a=some (xcO a C d)) (hd:∀dx,d=some dx->∃fs,H dx=some (.xd fs)) (c:XC K C S init):TyX K H (.ref a) C
theorem tM {pins:List (Ad×Obj)}{σ:St}{H:Hp}{s:Ac}{A:Al}{E:Ab->Ac->Prop}{Q:Ab->Ac->Prop}{c:Ab}{b:Bool}{x:V}{u:Ab}(I:Inv X pins σ H s)(g:RelV x u)(ty:TyX X.K H x C)(e:PySem.W.kitOne X.K (.ref C) c=some b)(h:∀f,Q (.bool b) {s with toks:=f}):
  Aj (Ag X.prog X.w) A (call (.builtin "isinstance") [u,c]) Q E s:=by
 cases ty with
 |@mk a C S d init ea hd xc=>
  cases(show u=Value.ref a from g);obtain⟨ox,od,J,_⟩:=lJ I.hok ea hd;exact zR2 (gA xc) I.kIn J e (λz=>nomatch z) h
def iC :xj X (.builtin "isinstance") (λxs H Q=>∃x B C b,xs=[x,.ref B]/\TyX X.K H x C/\PySem.W.kitOne X.K (.ref C) (.ref B)=some b/\Q (.bl b) H):=by
 intro pins s σ H xs us Q I r h;obtain⟨x,B,C,b,rfl,ty,e,q⟩:=h;obtain⟨u,v,rfl,d,f⟩:=Vals.two r;cases(show v=Value.ref B from f);exact tM I d ty e λc=>⟨.bl b,H,I.tok c,rfl,q⟩
def nX :xj X (.builtin "isinstance") (λxs H Q=>∃x T C b,xs=[x,.ty T]/\TyX X.K H x C/\PySem.W.kitOne X.K (.ref C) (.type T)=some b/\Q (.bl b) H):=by
 intro pins s σ H xs us Q I r h;obtain⟨x,T,C,b,rfl,ty,e,q⟩:=h;obtain⟨u,v,rfl,d,f⟩:=Vals.two r;cases(show v=Value.type T from f);exact tM I d ty e λc=>⟨.bl b,H,I.tok c,rfl,q⟩
def fA {G H:Hp}{pr:Ad->Prop}{v:V}{d:Aa}(x:isX C d)(c:XC X.K C S init)(h:AV (sub pr H) v d):TyX X.K H v C:=by
 obtain⟨a,dx,rfl,b,f⟩:=x.at h;exact .mk (zi b).2 (λy e=>by obtain⟨fs,z⟩:=f y e;exact⟨fs,(zi z).2⟩) c
def vM {B:Ad}{x:Str}(hg:Gl X "isinstance")(hm:X.mg "isinstance"=none)(i:Gl X x)(f:X.mg x=some (.ref B))(h:EvD X O a λd=>∃C S init b,isX C d/\XC X.K C S init/\PySem.W.kitOne X.K (.ref C) (.ref B)=some b/\Q (.bool b))
  (hdx:(x == ("__debug__":Str))=false:=by decide) (he:Af [a,.Name x p1] X.env=(false,eval a X.env)::Af [.Name x p1] X.env:=by rfl) (g:Af [.Name x p1] X.env=(false,eval (.Name x p1) X.env)::Af [] X.env:=by rfl) (hpl:(backTo pos (Af [.Name x p1] X.env)).any (·.1)=false:=by rfl):
  EvD X O (.Call (.Name "isinstance" p) [a,.Name x p1] [] pos) Q:=λF σ H R m k=>by
 refine⟨_,xC iC hg hm boot_isinstance (zw zh (zw (jn (v:=.ref B) i f rfl hdx) zQ g) he) (he:=he) (hpl:=hpl),?_⟩;refine h F σ H _ m λd j H1 n t1 k1 l=>?_;obtain⟨C,S,init,b,x,c,e,q⟩:=n;exact⟨j,B,C,b,rfl,fA (G:=H1) x c l,e,k _ _ H1 q t1 k1 (.bl b)⟩
def dz {T:String}{x:Str}(hg:Gl X "isinstance")(hm:X.mg "isinstance"=none)(i:Gl X x)(f:X.mg x=none)(l:bootBuiltins x=some (.type T))(h:EvD X O a λd=>∃C S init b,isX C d/\XC X.K C S init/\PySem.W.kitOne X.K (.ref C) (.type T)=some b/\Q (.bool b))(hn:x≠"__name__":=by decide)
  (hdx:(x == ("__debug__":Str))=false:=by decide) (he:Af [a,.Name x p1] X.env=(false,eval a X.env)::Af [.Name x p1] X.env:=by rfl) (g:Af [.Name x p1] X.env=(false,eval (.Name x p1) X.env)::Af [] X.env:=by rfl) (hpl:(backTo pos (Af [.Name x p1] X.env)).any (·.1)=false:=by rfl):
  EvD X O (.Call (.Name "isinstance" p) [a,.Name x p1] [] pos) Q:=λF σ H R m k=>by
 refine⟨_,xC nX hg hm boot_isinstance (zw zh (zw (kN i f l (show RelV (.ty T) (.type T)from rfl) hn hdx) zQ g) he) (he:=he) (hpl:=hpl),?_⟩;refine h F σ H _ m λd j H1 o t1 k1 n=>?_;obtain⟨C,S,init,b,x,c,e,q⟩:=o;exact⟨j,T,C,b,rfl,fA (G:=H1) x c n,e,k _ _ H1 q t1 k1 (.bl b)⟩
end
section
variable {X:Cx}{O:Ev}{pos:Pos}{o:Am}{f:Str}{Q:Aa->Prop}{C S:Ad}{init:Option Ab}
end
section
variable {P:Ah}{w:Ak}{K:Ae}{mg:Str->Option Ab}{base:An}
end
section
variable {X:Cx}{O αh:Ev}{r:Fr}{q q0:Aa->Prop}{j k:Nat}{x fl:Str}{C:Ad}{e:Am}{es:List Am}{p pos pos':Pos}{rest:List Ap}{E:ya}
end
section
variable {P:Ah}{w:Ak}{K:Ae}{mg:Str->Option Ab}{base:An}
end
def mq (K:Frag)(C S:Ad)(init:Option Ab):Bool:=xZ K C S init&&findIn K (.ref C) "__setattr__" == some (some (.builtin "object.__setattr__"))&&findIn K (.ref C) "__getattribute__" == some (some (.builtin "BaseException.__getattribute__"))&&findIn K (.ref C) "__getattr__" == some none&&findIn K (.ref C) "__class__" == some (some (.builtin "object.__class__"))&&specialIn K (.builtin "object.__class__") "__get__" == some (some (.builtin "getset_descriptor.__get__"))&&takesIn K (.builtin "object.__class__")==some true
def XC.of {K:Frag}{C S:Ad}{init:Option Ab}(h:mq K C S init=true):XC K C S init:=by
 simp only[mq,zO6,zV4]at h;obtain⟨⟨⟨⟨⟨⟨d,g⟩,e⟩,c⟩,b⟩,f⟩,a⟩:=h;exact⟨d,g,e,c,b,f,a⟩
def fe (K:Frag)(C B:Ad):Bool:=typeIn K (.ref B)==some (.type "type")&&mroIn K B (.type "BaseException")==some true&&mroIn K C (.ref B)==some true
def XB.of {K:Frag}{C B:Ad}(h:fe K C B=true):XB K C B:=by
 simp only[fe,zO6,zV4]at h;exact⟨h.1.1,h.1.2,h.2⟩
section
variable {P:Ah}{w:Ak}{K:Ae}{mg:Str->Option Ab}{base:An}
end
section
variable {X:Cx}{O αh:Ev}{r:Fr}{q q0:Aa->Prop}{j k:Nat}{x fl:Str}{C:Ad}{e:Am}{es:List Am}{p pos pos':Pos}{rest:List Ap}{E:ya}{Q:Aa->Prop}{φ:List A->(Aa->Prop)->Prop}
def eV {a b:Str}{u l:Nat}{p4 p6 s c:Pos}(f:a.length<=10000)(n:b.length<=10000)(h:EvD X O e λd=>∃i:Int,d=.int i/\i.natAbs.log2<1920/\∀t:Str,Q (.str t)):EvD X O (.JoinedStr [.Constant (.str a) u p4,.FormattedValue e (-1) none p6,.Constant (.str b) l s] c) Q:=λF σ H R m k=>by
 refine⟨_,ba mK (zn1 zh) mK,?_⟩;refine⟨a,rfl,f,?_⟩;refine h F σ H _ m λd v H1 o t1 k1 g=>?_;obtain⟨i,rfl,hi,q⟩:=o;cases g.int_inv;exact⟨i,rfl,hi,_,rfl,za7 hi,b,rfl,n,k _ _ H1 (q _) t1 k1 (.str _)⟩
end
def zy4 :Option A->Option A
 |some .tape=>none
 |some (.exc _ _)=>none
 |a=>a
def xp (O:Ev):Ev:=O.map zy4
def fY :A->Prop
 |.tape=>False
 |.exc _ _=>False
 |_=>True
theorem yX {O:Ev}{i:Nat}{a:A}(h:(xp O)[i]?=some (some a)):O[i]?=some (some a)/\fY a:=by
 unfold xp at h;rw[zM3,zO5]at h;obtain⟨b,d,c⟩:=h;cases b with
 |none=>cases c
 |some b=>cases b<;>cases c<;>exact⟨d,trivial⟩
theorem yQ.to {G t:Hp}{F F':Fr}{H H':Hp}{s:Option V}{a:A}(p:fY a)(h:yQ G F H s a)(g:zr G t)(hf:∀x o,foot s a x->H x=some o->H' x=some o/\¬F'.O0 x/\F'.H0 x=none):yQ t F' H' s a:=by
 cases a with
 |dat d=>obtain⟨v,b,f⟩:=h;exact⟨v,b,f.same g⟩
 |ow c=>
  obtain⟨l,o,b,f,i,n,u⟩:=h;obtain⟨m,j,z3⟩:=hf l o b f;exact⟨l,o,b,m,i.same g,j,z3⟩
 |deep d S=>
  obtain⟨v,b,f,i⟩:=h;refine⟨v,b,f.same (wK g λx o z e=>(hf x o z e).1),λx z=>?_⟩;obtain⟨_,_,xs,e⟩:=i x z;obtain⟨m,j,z3⟩:=hf x _ z e;exact⟨j,z3,xs,m⟩
 |tape=>exact p.elim
 |«at» l=>exact h
 |exc r q=>exact p.elim
 |pin l vs ds=>exact⟨h.1,g _ _ h.2.1,h.2.2.same g⟩
 |nst l ls dss=>
  obtain⟨b,f,i,n,u⟩:=h;refine⟨b,(hf l _ zL7 f).1,i.same g λa ha o e=>(hf a o (zL1 _ ha) e).1,n,λx k=>?_⟩;rcases zK8.mp k with z|z
  .exact(hf x _ k (z▸f)).2
  .obtain⟨xs,e⟩:=i.obj x z;exact(hf x _ k e).2
def Tp (F:Fr)(x:Ad):Prop:=∃t b c,F.tp=some (t,b,c)/\(x=t\/x=b\/x=c)
noncomputable instance tpDec (F:Fr)(x:Ad):Decidable (Tp F x):=Classical.propDecidable _
noncomputable def Fr.row (F:Fr)(H:Hp)(l:Ad):Fr:=⟨λx=>if Tp F x then H x else F.H0 x,λx=>F.O0 x\/x=l,some (l,l,l)⟩
section
variable {F:Fr}{O α':Ev}{σ σ':St}{H H':Hp}{l:Ad}
def Tp.own (t:zy F H){x:Ad}(h:Tp F x):F.O0 x:=by
 obtain⟨a,b,c,e,z⟩:=h;obtain⟨_,f,g,d⟩:=t a b c e;rcases z with z|z|z
 .rw[z];exact f
 .rw[z];exact g
 .rw[z];exact d
theorem Tp.lst (t:zy F H){x:Ad}(h:Tp F x):∃xs,H x=some (.lst xs):=by
 obtain⟨a,b,c,e,z⟩:=h;obtain⟨n,bs,cs,n1,e1,f,d,_⟩:=(t a b c e).1.ex;rcases z with z|z|z
 .rw[z];exact⟨_,e1⟩
 .rw[z];exact⟨_,f⟩
 .rw[z];exact⟨_,d⟩
def Tp.noTab (t:zy F H){x:Ad}(h:Tp F x):¬vA x:=λz=>by
 obtain⟨o,e,_,n⟩:=tj t.tab z;obtain⟨xs,a⟩:=Tp.lst t h;rw[e]at a;cases a;exact n _ rfl
def pV (t:zy F H){x:Ad}(h:(F.row H l).H0 x=none):F.H0 x=none:=by
 have h':(if Tp F x then H x else F.H0 x)=none:=h;split at h'
 .rename_i q;obtain⟨xs,e⟩:=Tp.lst t q;rw[e]at h';cases h'
 .exact h'
theorem M.row {i:Nat}{x y:Int}(m:M F O σ H)(hi:O[i]?=some (some (.own [.int x,.int y])))(h0:0<=y)(G:y<4294967296):∃l,F.H0 l=none/\¬F.O0 l/\M (F.row H l) ((xp O).set i (some .tape)) σ H:=by
 obtain⟨l,xs,e1,p,Q,I,N⟩:=m.own i _ hi;have ex:xs=[.int x,.int y]:=by
  cases Q with
  |cons a r=>
   cases r with
   |cons b r=>
    cases r;rw[a.int_inv,b.int_inv]
 subst ex;have old:∀{j:Nat} {a:A},((xp O).set i (some .tape))[j]?=some (some a)->(i=j/\a=.tape)\/(i≠j/\O[j]?=some (some a)/\fY a):=λ{j a} e=>by
  rcases zv e with⟨z,w⟩|⟨z,w⟩
  .cases w;exact .inl ⟨z,rfl⟩
  .obtain⟨g,k⟩:=yX w;exact .inr ⟨z,g,k⟩
 have ow:∀{z:Ad},Ow (F.row H l) ((xp O).set i (some .tape)) σ z->Ow F O σ z:=λ{z} h=>by
  rcases h with(h|h)|⟨j,a,s,g,k,C⟩
  .exact .inl h
  .rw[h];exact .inr ⟨i,_,_,hi,e1,rfl⟩
  .rcases old g with⟨_,q⟩|⟨_,q,_⟩
   .subst q;exact C.elim
   .exact .inr ⟨j,a,s,q,k,C⟩
 have P:zr (Gz F O σ H) (Gz (F.row H l) ((xp O).set i (some .tape)) σ H):=zo λa o h e=>⟨λz=>h (ow z),e⟩;refine⟨l,N,I,?_,λj a s u d=>?_,λj D a b s t z u d L E f1 f2=>?_,λj r q e=>?_,⟨m.tp.tab,λx h=>.inl (m.tp.ot x h),λt b c e=>?_⟩,λz o e n=>?_,λz K=>?_⟩
 .rw[zP0];unfold xp;rw[zK3];exact m.len
 .rcases old u with⟨z,q⟩|⟨J,q,v⟩
  .subst z q;rw[e1]at d;cases d;exact⟨l,l,l,rfl,rfl⟩
  .refine(m.ok j a s q d).to v P λx o f e=>?_;obtain⟨g1,g2,_⟩:=m.ft q d f;refine⟨e,λz=>z.elim g1 λz=>J (m.dj i j _ _ _ _ x hi q e1 d (by rw[z];exact rfl) f),?_⟩;show(if Tp F x then H x else F.H0 x)=none;rw[if_neg λz=>g1 (Tp.own m.tp z)];exact g2
 .rcases old u with⟨_,q⟩|⟨_,g,_⟩
  .subst q;exact f1.elim
  .rcases old d with⟨_,q⟩|⟨_,k,_⟩
   .subst q;exact f2.elim
   .exact m.dj j D a b s t z g k L E f1 f2
 .rcases old e with⟨_,q⟩|⟨_,_,v⟩
  .cases q
  .exact v.elim
 .cases e;exact⟨⟨0,[x,y],[x,y],⟨rfl,rfl⟩,p,p,p,⟨x,y,rfl,h0,G⟩,rfl⟩,.inr rfl,.inr rfl,.inr rfl⟩
 .have B:(if Tp F z then H z else F.H0 z)=some o:=e;split at B
  .exact B
  .rename_i q;exact m.keep z o B ⟨λt b c w=>⟨λy=>q ⟨t,b,c,w,.inl y⟩,λy=>q ⟨t,b,c,w,.inr (.inl y)⟩⟩,n.2⟩
 .rcases K with z|z
  .exact m.oex _ z
  .exact⟨_,by rw[z];exact p,xE⟩
def zy.unrow (t:zy F H)(i:¬F.O0 l)(g:TabAt H')(k:Kz (F.row H l) (F.row H l).H0 H'):zy F H':=⟨g,t.ot,λa b c e=>by
 obtain⟨h,j,o,n⟩:=t a b c e;refine⟨h.off λz f=>?_,j,o,n⟩;have tz:Tp F z:=⟨a,b,c,e,f⟩;have m:F.O0 z:=Tp.own t tz;have nl:z≠l:=λq=>i (by rw[<-q];exact m);obtain⟨xs,d⟩:=Tp.lst t tz;rw[d];refine k z _ ?_ ⟨λt' p c' w=>by cases w;exact⟨nl,nl⟩,Tp.noTab t tz⟩;show(if Tp F z then H z else F.H0 z)=some _;rw[if_pos tz];exact d⟩
def Kz.unrow (m:M F O σ H)(h0:F.H0 l=none)(k:Kz (F.row H l) (F.row H l).H0 H'):Kz F F.H0 H':=λx o e n=>by
 have nl:x≠l:=λq=>by rw[q,h0]at e;cases e
 refine k x o ?_ ⟨λt' a c' w=>by cases w;exact⟨nl,nl⟩,n.2⟩;show(if Tp F x then H x else F.H0 x)=some o;split
 .exact m.keep x o e n
 .exact e
theorem M.unrow (m:M F O σ H)(h0:F.H0 l=none)(v:¬F.O0 l)(c:M (F.row H l) α' σ' H'):M F (xp α') σ' H':=by
 have ow:∀{z:Ad},Ow F (xp α') σ' z->Ow (F.row H l) α' σ' z:=λ{z} h=>by
  rcases h with h|⟨j,a,s,g,y,n⟩
  .exact .inl (.inl h)
  .exact .inr ⟨j,a,s,(yX g).1,y,n⟩
 have w:zr (Gz (F.row H l) α' σ' H') (Gz F (xp α') σ' H'):=zo λa o h e=>⟨λz=>h (ow z),e⟩;refine⟨?_,λj a s i d=>?_,λj p a b s t z i d=>c.dj j p a b s t z (yX i).1 (yX d).1,λj r q e=>?_,m.tp.unrow v c.tp.tab c.keep,Kz.unrow m h0 c.keep,λz k=>c.oex z (.inl k)⟩
 .unfold xp;rw[zK3];exact c.len
 .obtain⟨g,u⟩:=yX i;refine(c.ok j a s g d).to u w λx o f e=>?_;obtain⟨g1,g2,_⟩:=c.ft g d f;exact⟨e,λz=>g1 (.inl z),pV m.tp g2⟩
 .exact(yX e).2.elim
theorem xm.unrow {v:V}{a:A}(m:M F O σ H)(h0:F.H0 l=none)(b:¬F.O0 l)(r:xm (F.row H l) v H' a):xm F v H' a:=by
 obtain⟨t,k,r⟩:=r;exact⟨m.tp.unrow b t.tab k,Kz.unrow m h0 k,r.to (λ_ z=>.inl z) λx z=>pV m.tp z⟩
end
section
variable {X:Cx}{O:Ev}{E:ya}{sts rest body:List Ap}{tg iter:Am}{pos:Pos}
def fR (i:Nat){x y:Int}(hi:O[i]?=some (some (.own [.int x,.int y])))(h0:0<=y)(g:y<4294967296)
  (h:SvS X ((xp O).set i (some .tape)) sts {nx:=λb=>E.nx (xp b),rt:=E.rt,bk:=λb=>E.bk (xp b),ct:=λb=>E.ct (xp b)}):SvS X O sts E:=λF σ H D m r=>by
 obtain⟨l,e,f,j⟩:=m.row hi h0 g;refine h _ σ H D j ⟨λb c H' d q=>r.nx _ _ _ (m.unrow e f d) q,λa v H' z q=>r.rt a v H' (z.unrow m e f) q,λb c H' d q=>r.bk _ _ _ (m.unrow e f d) q,λb c H' d q=>r.ct _ _ _ (m.unrow e f d) q⟩
end
section
variable {P:Ah}{w:Ak}{K:Ae}{mg:Str->Option Ab}{base:An}
def fr0 (H:Hp):Fr:=⟨H,vA,none⟩
def M.zero {H:Hp}{σ:St}{n:Nat}(d:TabAt H)(k:n=σ.length):M (fr0 H) (List.replicate n none) σ H:=by
 have no:∀(i:Nat) a,(List.replicate n (none:Option A))[i]?≠some (some a):=λi a z=>by
  rw[zU3]at z;split at z<;>cases z
 exact⟨by rw[z04];exact k,λi a s e=>absurd e (no i _),λi j a b s t l e=>absurd e (no i _),λi r q e=>absurd e (no i _),⟨d,λ_ h=>h,λt b c e=>by (cases e)⟩,λ_ _ e _=>e,λx g=>by
  obtain⟨o,f,hn,_⟩:=tj d g;exact⟨o,f,hn⟩⟩
end
section
variable {X:Cx}{O:Ev}{p pos ap:Pos}{a b c:Am}{Q:Aa->Prop}
end
section
variable {X:Cx}{O:Ev}{E:ya}{rest:List Ap}{tg iter:Am}{pos:Pos}
end
end L2
namespace SetW
open PySem PyProof.Rows
abbrev Up (xs:Array Nat):Prop:=xs.toList.Pairwise (·<·)
def Ris (t:SetTable):Prop:=t.plain=true->Up t.place
def Up.lt {xs:Array Nat}(h:Up xs){i j:Nat}(a:i<j)(b:j<xs.size):xs[i]'(z37 a b)<xs[j]:=by
 have:=zS8.mp h i j (by simpa using z37 a b) (by simpa using b) a;simpa using this
theorem tP {xs:Array Nat}(h:Up xs)(j:Nat):∀f lo up,up-lo<=f->lo<=up->up<=xs.size->(∀i (hi:i<xs.size),i<lo->xs[i]<j)->(∀i (hi:i<xs.size),up<=i->j<=xs[i])->
  SetTable.below.go xs j f lo up<=xs.size/\(∀i (hi:i<xs.size),i<SetTable.below.go xs j f lo up->xs[i]<j)/\(∀i (hi:i<xs.size),SetTable.below.go xs j f lo up<=i->j<=xs[i])
 |0,lo,up,hf,hle,c,d,g=>by
  have e:lo=up:=by lia
  subst e;exact⟨c,d,g⟩
 |f+1,lo,up,hf,hle,c,d,g=>by
  unfold SetTable.below.go;by_cases a:lo<up
  .rw[if_pos a];have hm:(lo+up) / 2<xs.size:=by lia
   have m:xs.getD ((lo+up) / 2) j=xs[(lo+up) / 2]:=by simp[Array.getD,hm]
   dsimp only;rw[m];by_cases k:xs[(lo+up) / 2]<j
   .rw[if_pos k];refine tP h j f ((lo+up) / 2+1) up (by lia) (by lia) c (λi b l=>?_) g;rcases zQ1 i ((lo+up) / 2)with z|z
    .exact z37 (h.lt z hm) k
    .have e:i=(lo+up) / 2:=by lia
     subst e;exact k
   .rw[if_neg k];refine tP h j f lo ((lo+up) / 2) (by lia) (by lia) (by lia) d (λi b l=>?_);rcases zQ1 ((lo+up) / 2) i with z|z
    .have:=h.lt z b
     lia
    .have e:i=(lo+up) / 2:=by lia
     subst e
     lia
  .rw[if_neg a];have e:lo=up:=by lia
   subst e;exact⟨c,d,g⟩
def vK {xs:Array Nat}(h:Up xs)(j:Nat):SetTable.below xs j<=xs.size/\(∀i (hi:i<xs.size),i<SetTable.below xs j->xs[i]<j)/\(∀i (hi:i<xs.size),SetTable.below xs j<=i->j<=xs[i]):=
 tP h j xs.size 0 xs.size (by lia) (zL6 _) (zK6 _) (λi _ z=>absurd z (z60 _)) (λi hi z=>absurd hi (by lia))
def iF {xs:Array Nat}(h:Up xs){i:Nat}(hi:i<xs.size):SetTable.below xs xs[i]=i:=by
 obtain⟨a,b,c⟩:=vK h xs[i];rcases zQ1 i (SetTable.below xs xs[i])with z|z
 .have:=b i hi z
  lia
 .rcases zQ1 (SetTable.below xs xs[i]) i with y|y
  .have d:=c _ (by lia) (zK6 _);have e:=h.lt y hi
   lia
  .lia
def mB {xs:Array Nat}(h:Up xs){i:Nat}(hi:i<xs.size):SetTable.below xs (xs[i]+1)=i+1:=by
 obtain⟨a,b,c⟩:=vK h (xs[i]+1);rcases zQ1 i (SetTable.below xs (xs[i]+1))with z|z
 .rcases zQ1 (i+1) (SetTable.below xs (xs[i]+1))with y|y
  .have d:=b (i+1) (by lia) y;have e:=h.lt (zQ7 i) (show i+1<xs.size by lia)
   lia
  .lia
 .have:=c i hi z
  lia
def lG {xs:Array Nat}(h:Up xs):SetTable.below xs 0=0:=by
 obtain⟨a,b,c⟩:=vK h 0;rcases zQ1 0 (SetTable.below xs 0)with z|z
 .have:=b 0 (by lia) z
  lia
 .lia
def Off (t:SetTable)(j:Nat):Prop:=t.place[SetTable.below t.place j]?≠some j
def Off.notin {t:SetTable}{j:Nat}(h:Off t j)(u:Up t.place):j∉t.place.toList:=λz=>by
 obtain⟨i,hi,e⟩:=z29 z;have a:i<t.place.size:=by simpa using hi
 have b:t.place[i]=j:=by simpa using e
 have:=iF u a;rw[b]at this;exact h (by rw[this,zS9 a,b])
def nv {t:SetTable}{j:Nat}(h:∀i,t.slot j≠.live i):Off t j:=λz=>by
 refine h (SetTable.below t.place j) ?_;unfold SetTable.slot;simp only[z,beq_self_eq_true,z26]
theorem vV {t:SetTable}{ha:Nat->Int}{c:Int}:∀f (p:SetTable.Probe) {j:Nat}{d:Option Nat},(∀x,p.dummy=some x->Off t x)->SetTable.probe.go t ha c f p=some (.empty j d)->Off t j/\∀x,d=some x->Off t x
 |0,p,j,d,_,e=>by cases e
 |f+1,p,j,d,h,e=>by
  unfold SetTable.probe.go at e;split at e
  .rename_i b;cases e;exact⟨nv (λi z=>by rw[b]at z;cases z),h⟩
  .rename_i b;refine vV f _ (λx a=>?_) e;have:∀q:SetTable.Probe,(t.advance q).dummy=q.dummy:=λq=>by unfold SetTable.advance;split<;>rfl
   rw[this]at a;cases a;exact nv λi z=>by rw[b]at z;cases z
  .rename_i i b;have:∀q:SetTable.Probe,(t.advance q).dummy=q.dummy:=λq=>by unfold SetTable.advance;split<;>rfl
   split at e
   .cases e
   .exact vV f _ (λx a=>by rw[this]at a;exact h x a) e
def gn {t:SetTable}{h:Int}{j:Nat}{b:Bool}(e:t.freeSlot h=some (j,b)):Off t j:=by
 unfold SetTable.freeSlot at e;split at e
 .rename_i i d f;cases e;obtain⟨c,g⟩:=vV _ _ (λx a=>by unfold SetTable.probeStart at a;cases a) f;cases d with
  |none=>exact c
  |some x=>exact g x rfl
 .cases e
def jw {xs:Array Nat}{j:Nat}(h:Up xs)(k:j∉xs.toList):Up (SetTable.insertAt xs (SetTable.below xs j) j):=by
 obtain⟨a,b,c⟩:=vK h j;have e1:∀y∈xs.toList.take (SetTable.below xs j),y<j:=λy hy=>by
  obtain⟨i,hi,e⟩:=z29 hy;rw[zR4]at hi;rw[List.getElem_take]at e;have:=b i (by simp at hi;lia) (by lia);simp at e
  lia
 have f:∀y∈xs.toList.drop (SetTable.below xs j),j<y:=λy hy=>by
  have hne:y≠j:=λz=>k (z▸zW0 hy);obtain⟨i,hi,e⟩:=z29 hy;rw[List.length_drop]at hi;rw[List.getElem_drop]at e;have g:i<xs.size-SetTable.below xs j:=by simpa using hi
  have:=c (SetTable.below xs j+i) (by lia) (by lia);simp at e
  lia
 unfold Up;rw[SetTable.toList_insertAt,zO4];refine⟨h.sublist (zW3 _ _),List.pairwise_cons.mpr ⟨f,h.sublist (zW6 _ _)⟩,λy hy z d=>?_⟩;rcases zK8.mp d with rfl|d
 .exact e1 y hy
 .exact z37 (e1 y hy) (f z d)
def za9 {t:SetTable}(es:Array (Int×Ab))(h:Int)(x:Ab)(r:Ris t):Ris (layNew t es h x).2.1/\(layNew t es h x).2.1.led=t.led:=by
 unfold layNew;split
 .rename_i j b hf;dsimp only;unfold SetTable.orStandIn;split
  .exact⟨λa=>jw (r a) ((gn hf).notin (r a)),rfl⟩
  .exact⟨λa=>Bool.noConfusion (a),rfl⟩
 .exact⟨λa=>Bool.noConfusion (a),rfl⟩
def iM {t:SetTable}(es:Array (Int×Ab))(n:Nat):Ris (relayAll t es n).2.1/\(relayAll t es n).2.1.led=t.led:=by
 unfold relayAll;split
 .rename_i t' order hr;unfold SetTable.relaid SetTable.laid at hr;cases ho:SetTable.layClean (SetTable.sizeAbove n-1) (es.map (·.1))with
  |none=>rw[ho]at hr;cases hr
  |some owner=>
   rw[ho]at hr;cases hr;dsimp only;split
   .refine⟨λ_=>?_,rfl⟩;show(List.toArray _).toList.Pairwise (·<·);rw[List.toList_toArray];have key:∀(l:List Nat),l.Pairwise (·<·)->((l.filterMap λj=>(owner.getD j none).map λy=>(j,y)).map (·.1)).Pairwise (·<·):=by
     intro l d;rw[List.map_filterMap];refine List.Pairwise.sublist ?_ d;have:∀l:List Nat,(l.filterMap λj=>Option.map (λx:Nat×Nat=>x.1) ((owner.getD j none).map λy=>(j,y))).Sublist l:=by
      intro l
      induction l with
      |nil=>exact .slnil
      |cons a l c=>
       rw[z27];cases owner.getD a none with
       |none=>exact c.cons _
       |some y=>exact c.cons_cons _
     exact this l
    exact key _ List.pairwise_lt_range
   .exact⟨λb=>Bool.noConfusion (b),rfl⟩
 .exact⟨λb=>Bool.noConfusion (b),rfl⟩
section
variable {prog:Ah}{w:Ak}{A:Al}{E:Ab->Ac->Prop}{s:Ac}
structure WkO (prog:Ah)(w:Ak)(o:Obj)(S:Int->Bool)(n:Nat)(b:Bool)(es:Array (Int×Ab))(ep:Nat)(t:SetTable):Prop where
 ex:o.ExactSet
 dt:o.data=.set es ep t
 el:ElemsOf (intKind prog w) es.toList
 mem:∀k,S k=true↔∃e∈es.toList,(intKind prog w).is k e.2=true
 sb:es.size<scanBound
 fit:t.fits es.size=true
 sz:es.size=n
 led:t.led=b
 ris:Ris t
def Wk (prog:Ah)(w:Ak)(h:An)(a:Ad)(S:Int->Bool)(n:Nat)(b:Bool):Prop:=∃o es ep t,h.get? a=some o/\WkO prog w o S n b es ep t
def Wk.keep {h h':An}{a:Ad}{S:Int->Bool}{n:Nat}{b:Bool}(k:∀o,h.get? a=some o->h'.get? a=some o)(x:Wk prog w h a S n b):Wk prog w h' a S n b:=by
 obtain⟨o,es,ep,t,c,r⟩:=x;exact⟨o,es,ep,t,k o c,r⟩
def Wk.congr {h:An}{a:Ad}{S c:Int->Bool}{n d:Nat}{b:Bool}(x:Wk prog w h a S n b)(e:∀k,S k=c k)(f:n=d):Wk prog w h a c d b:=by
 have:S=c:=funext e;subst this f;exact x
def WkO.put {h:An}{a:Ad}{o:Obj}{S f:Int->Bool}{n:Nat}{b d:Bool}{es c:Array (Int×Ab)}{ep:Nat}{t t':SetTable}(g:h.get? a=some o)(x:WkO prog w o S n b es ep t)
  (el:ElemsOf (intKind prog w) c.toList) (mem:∀k,f k=true↔∃e∈c.toList,(intKind prog w).is k e.2=true) (sb:c.size<scanBound) (fit:t'.fits c.size=true) (led:t'.led=d) (ris:Ris t'):
  ∃o',(h.update a (Obj.putSet c t')).get? a=some o'/\WkO prog w o' f c.size d c (ep+1) t':=by
 refine⟨{o with data:=.set c (ep+1) t'},?_,x.ex,rfl,el,mem,sb,fit,rfl,led,ris⟩;have:=zQ4 (Obj.putSet c t') g (by rw[putSet_of c t' x.dt];rfl)
 rwa [putSet_of c t' x.dt]at this
def kM {g:Bool->Sem Unit}(hg:∀(d:Bool) (i:Ac) (y:Unit->Ac->Prop),y () i->Aj (Ag prog w) A (g d) y E i){a:Ad}{o:Obj}{S B:Int->Bool}{n:Nat}{b:Bool}{es c:Array (Int×Ab)}{ep:Nat}{t f:SetTable}
  (v:s.heap.get? a=some o) (x:WkO prog w o S n b es ep t) (el:ElemsOf (intKind prog w) c.toList) (mem:∀k,B k=true↔∃e∈c.toList,(intKind prog w).is k e.2=true) (sb:c.size<scanBound) (fit:f.fits c.size=true) (led:f.led=b) (ris:Ris f)
  {D:Bool} {R:Option Bool->Ac->Prop} (h:∀h',Heap.SameBut a s.heap h'->Wk prog w h' a B c.size b->R (some true) {s with heap:=h'}):
  Aj (Ag prog w) A (storeSet a c f >>= λ_=>if(!D&&f.tooFull)=true then(g (relayAll f c (SetTable.grown c.size)).2.2 >>= λ_=>storeSet a (relayAll f c (SetTable.grown c.size)).1 (relayAll f c (SetTable.grown c.size)).2.1 >>= λ_=>pure (some true))else pure (some true)) R E s:=by
 refine zK0 (wpAny_storeSet_of v x.dt ?_ (z48 sb));obtain⟨C,j,r⟩:=x.put v el mem sb fit led ris;have same:=zX0 s.heap a (Obj.putSet c f);split
 .obtain⟨p,u⟩:=iM c (SetTable.grown c.size);have pm:=relayAll_perm f c (SetTable.grown c.size);have ft:=relayAll_fits f c (SetTable.grown c.size);generalize relayAll f c (SetTable.grown c.size)=Z at p u pm ft;obtain⟨l,t3,G⟩:=Z;dsimp only at p u pm ft ⊢;have sz:l.size=c.size:=by rw[<-zR6,pm.length_eq,zR6]
  refine zK0 (hg _ _ _ (zK0 (wpAny_storeSet_of j r.dt ?_ (z48 (by lia)))));obtain⟨F,m,z⟩:=r.put j (el.perm pm) (λk=>(mem k).trans ⟨λ⟨e,he,q⟩=>⟨e,pm.mem_iff.mpr he,q⟩,λ⟨e,he,q⟩=>⟨e,pm.mem_iff.mp he,q⟩⟩) (by lia) ft (u.trans led) p;rw[sz]at z;exact zK2 (h _ (same.trans (zX0 _ a _)) ⟨F,l,_,t3,m,z⟩)
 .exact zK2 (h _ same ⟨C,c,_,f,j,r⟩)
theorem zo3 {a:Ad}{S:Int->Bool}{n:Nat}{b:Bool}{k:Int}{l:Tok}{Q:Bool->Ac->Prop}(x:Wk prog w s.heap a S n b)(F:n+1<scanBound)
  (h:∀h',Heap.SameBut a s.heap h'->Wk prog w h' a (λj=>S j||decide (j=k)) (if S k then n else n+1) b->∀r,Q r {s with heap:=h'}):
  Aj (Ag prog w) A (setAddHashed a (.int k l) ((intKind prog w).hash k)) Q E s:=by
 obtain⟨o,es,ep,t,p,x⟩:=x;have f:(intKind prog w).is k (.int k l)=true:=intKind_is _ _ _ _;have C:(Value.int k l).scannable=true:=rfl;unfold setAddHashed setAddHashedIn;refine zP3 (zK0 (zW7 p x.dt x.fit ?_));dsimp only;rw[byScan_of C x.sb x.el,if_pos rfl];unfold setAddByScan;refine zK0 (zK0 (zT9 (zK0 (wpAny_setScan_of f p x.dt x.fit x.el ?_))));cases hr:List.findIdx? (λe=>(intKind prog w).is k e.2) es.toList with
 |some j=>
  obtain⟨K,G,_⟩:=List.findIdx?_eq_some_iff_getElem.mp hr;have g:=(x.mem k).mpr ⟨_,zX2 K,G⟩;refine zK2 (zK2 ?_);have q:=h s.heap (Heap.SameBut.refl a s.heap) ⟨o,es,ep,t,p,x.ex,x.dt,x.el,λJ=>by
   rw[z00,zW4,<-x.mem J];exact⟨λz=>z.elim id λe=>e▸g,.inl⟩,x.sb,x.fit,by rw[g];exact x.sz,x.led,x.ris⟩
  cases s;exact q _
 |none=>
  have g:S k=false:=by
   cases hk:S k with
   |false=>rfl
   |true=>
    obtain⟨e,he,M⟩:=(x.mem k).mp hk;have:=List.findIdx?_eq_none_iff.mp hr e he;rw[M]at this;cases this
  obtain⟨D,nl⟩:=za9 es ((intKind prog w).hash k) (.int k l) x.ris;have pm:=layNew_perm t es ((intKind prog w).hash k) (.int k l);have ft:=layNew_fits t es ((intKind prog w).hash k) (.int k l);dsimp only;generalize layNew t es ((intKind prog w).hash k) (.int k l)=L at D nl pm ft;obtain⟨m,t1,O,N⟩:=L;dsimp only at D nl pm ft ⊢;rw[zW8]at pm;have H:m.size=n+1:=by rw[<-zR6,pm.length_eq,zM8,zR6,x.sz];rfl
  have v:=(x.el.push f C).perm pm;have i:=mem_push_iff f x.mem pm;have fin:∀h',Heap.SameBut a s.heap h'->Wk prog w h' a (λj=>S j||decide (j=k)) m.size b->∀r,Q r {s with heap:=h'}:=λh' sb y=>by
   have:=h h' sb;rw[g]at this;exact this (y.congr (λ_=>rfl) H)
  refine zK0 ?_;have I:∀d c B,B () c->Aj (Ag prog w) A (match d with|true=>rule "set.scan.the-table-gave-way"|false=>pure ()) B E c:=λd c B hq=>by
   cases d
   .exact zK2 hq
   .exact zT9 hq
  refine I _ _ _ ?_;have u:m.size<scanBound:=by lia
  split
  .rw[show hashByValue 8 (Value.int k l)=pure true from rfl];refine zK0 (zK2 ?_);simp only[z26];refine kM ?_ p x v i u ft (nl.trans x.led) D λh' sb y=>zK2 (fin h' sb y _);intro d c B hq;cases d<;>first|exact zK2 hq|exact zT9 hq
  .refine zK0 (zK2 ?_);simp only[z26];refine kM ?_ p x v i u ft (nl.trans x.led) D λh' sb y=>zK2 (fin h' sb y _);intro d c B hq;cases d<;>first|exact zK2 hq|exact zT9 hq
end
def yK (w:Ak):Bool:=!w.params.followText "set-order"
abbrev uO (w:Ak):Obj:={cls:=.type "set",dict:=none,data:=.set #[] 0 (.fresh 0 0 (yK w))}
def zc3 {prog:Ah}{w:Ak}:WkO prog w (uO w) (λ_=>false) 0 (yK w) #[] 0 (.fresh 0 0 (yK w)):=
 ⟨⟨rfl,rfl,rfl⟩,rfl,λe he=>by simp at he,λk=>by simp,by decide,by rfl,rfl,rfl,λ_=>.nil⟩
section
variable {prog:Ah}{w:Ak}{A:Al}{E:Ab->Ac->Prop}{s:Ac}
def zl4 (v:Ab){Q₁:Ab->Ac->Prop}(h:Q₁ (.ref s.heap.objs.size) {s with heap:=s.heap.push (uO w)}):codeAny (Ag prog w) A (.call (.builtin "set.__new__") ⟨[.type "set",v],[]⟩) (wants Q₁ E) s:=by
 refine z61 ?_;refine zK0 (zZ0 (F.newCall_set_1 v) (zK2 ⟨zZ9 F.plain_set_new _,zV8 F.entry_set_new ?_⟩));rw[zU1 F.plain_set_new _];unfold Builtin.«set.__new__» Builtin.Frozenset.newClass;have a:=sub_set_self;obtain⟨b,g,d,c,os⟩:=s;dsimp only
 wp_walk
 refine zX3 (zK2 ?_);simp only[newObj];exact zK0 (wpAny_alloc (zK2 (zK2 h)))
end
section
variable {prog:Ah}{w:Ak}{A:Al}{R:Result->Ac->Prop}{I:Ad}{fp wr:List Ad}{G:Array GenState->Array GenState->Prop}{n:Nat}{P:Nat->Ab->Prop}{St:Nat->Ac->Prop}{b:Bool}
theorem zb3 (W:WalksS prog w A.in1 I fp wr G n P St)(S:Ad)(q:S∉fp)(val:Nat->Int)(p:∀i v,P i v->∃t,v=.int (val i) t)(hb:n+1<scanBound):
  ∀(k i:Nat) (s:Ac),n-i=k->i<=n->St i s->Wk prog w s.heap S (λj=>(firstMet val i).any (· == j)) (firstMet val i).length b->
   (∀s',Moved (S::wr) G s s'->Wk prog w s'.heap S (λj=>(firstMet val n).any (· == j)) (firstMet val n).length b->R (.ok (.ret .none)) s')->
   codeAny (Ag prog w) A (.builtin "set.update.loop" ⟨[.ref S,.ref I],[]⟩) R s:=by
 have y:S∉wr:=λh=>q (W.sub _ h);have a:∀c∈wr,c∈S::wr:=λc u=>zL1 _ u;intro k
 induction k with
 |zero=>
  intro i s hk hi d x D;have e:i=n:=by lia
  subst e;refine zV8 F.entry_set_update_loop ?_;rw[zU1 F.plain_set_update_loop _];exact zK0 (W.done s _ _ d λs' hm=>zK2 (D s' (hm.mono a) (x.keep λo C=>hm.heap S _ y C)))
 |succ k K=>
  intro i s hk hi d x D;have m:i<n:=by lia
  refine zV8 F.entry_set_update_loop ?_;rw[zU1 F.plain_set_update_loop _];refine zK0 (W.item i s _ _ m d λv s' E f hm=>?_);obtain⟨t,rfl⟩:=p i v E;refine zK0 (zP3 ?_);unfold setAdd;refine zP3 (zK0 ((intKind prog w).pyHash (intKind_is _ _ _ _) ?_));have room:(firstMet val i).length+1<scanBound:=by have:=firstMet_length_le val i;lia
  refine zo3 (x.keep λo C=>hm.heap S _ y C) room λh' l J r=>?_;have L:Wk prog w h' S (λj=>(firstMet val (i+1)).any (· == j)) (firstMet val (i+1)).length b:=J.congr (λj=>by rw[firstMet_succ,step_any]) (by rw[firstMet_succ,step_length]);refine zK2 ⟨zZ9 F.plain_set_update_loop _,K (i+1) _ (by lia) m (W.frame _ s' _ _ f (zT4 _) λc u o e=>?_) L λB g H=>?_⟩
  .rw[l.2 c λz=>q (by rw[<-z];exact u)];exact e
  .refine D B (Moved.trans W.gtrans ((hm.mono a).then_heap (zT4 _) λc o u e=>?_) g) H;rw[l.2 c λz=>u (by rw[z];exact zL7)];exact e
end
section
variable {prog:Ah}{w:Ak}{A:Al}{E:Ab->Ac->Prop}{s:Ac}
theorem zr2 {l:Ad}{a:Array Ab}{ns:List Int}{Q:Ab->Ac->Prop}(Y:A.handled=none)(V:s.heap.IsList l a)(hi:IntsAre a.toList ns)(hb:a.size+1<scanBound)
  (h:∀(h':An) (B:Nat),Wk prog w h' s.heap.objs.size (λj=>(firstMet (λi=>ns.getD i 0) a.size).any (· == j)) (firstMet (λi=>ns.getD i 0) a.size).length (yK w)->
   (∀c o,c<s.heap.objs.size->s.heap.get? c=some o->h'.get? c=some o)->Q (.ref s.heap.objs.size) {s with heap:=h',toks:=B}):Aj (Ag prog w) A (call (.type "set") [.ref l]) Q E s:=by
 obtain⟨c,tl,K⟩:=zZ4.mro;have I:=zZ4.made;have N:=zZ4.sub;refine zX4 (z61 ?_);show Aj _ _ (callAny (.type "set") _) _ _ _;refine zK2 ⟨z01 _ (by decide +kernel),zV8 F.entry_type_call ?_⟩;rw[Around.under_plain (weight_type_call_type "set" [.ref l] []) rfl];have h1:=zZ4.notType;have h2:=zZ4.canCreate;have X:=F.typeCall_set_1 (.ref l)
 repeat (any_goals (first|assumption|wp_step))
 refine zX6 (zl4 (.ref l) (E:=E) (Q₁:=λob f=>ob=.ref s.heap.objs.size/\f={s with heap:=s.heap.push (uO w)}) ⟨rfl,rfl⟩) λr f hr=>?_;cases r with
 |error e=>exact hr
 |ok Z=>
  cases Z with
  |ret ob=>
   obtain⟨rfl,rfl⟩:=hr;have P:(s.heap.push (uO w)).get? s.heap.objs.size=some (uO w):=zL2 _ rfl;have hT:Shared.TypeIs {s with heap:=s.heap.push (uO w)} (.ref s.heap.objs.size) "set":=⟨_,P,rfl⟩;have a0:=zZ4.init.lookup;have hbi:=zZ4.init.bind (.ref s.heap.objs.size)
   repeat (any_goals (first|assumption|wp_step))
   refine zX6 (codeAny_call_builtin (R:=wants (λr g=>r=.none/\∃h' B,g={s with heap:=h',toks:=B}/\Wk prog w h' s.heap.objs.size (λj=>(firstMet (λi=>ns.getD i 0) a.size).any (· == j)) (firstMet (λi=>ns.getD i 0) a.size).length (yK w)/\
     (∀c o,c<s.heap.objs.size->s.heap.get? c=some o->h'.get? c=some o)) E) zZ4.init.plain F.entry_set_init (check_set_init_1 hT ?_)) λy g b=>?_
   .obtain⟨ol,n,hcl,nl,t⟩:=V;obtain⟨L,m,C,d⟩:=ol;simp only at hcl t;subst hcl t;have u:(s.heap.push (uO w)).get? l=some {cls:=.type "list",dict:=m,data:=.seq a nl,slots:=d}:=zK1 _ n;have O:=F.sub_list_set;have M:=F.sub_list_frozenset;have hne:(Value.type "list" == Value.type "dict")=false:=by decide
    have q:(s.heap.push (uO w)).IsList l a:=⟨_,u,rfl,nl,rfl⟩;unfold Builtin.«set.__init__» noKeywords Builtin.Frozenset.updateFrom;generalize H:pyIter=PI
    wp_walk
    subst H;refine z03 q (zK0 (wpAny_runValue ?_));have p:l<s.heap.objs.size:=zL0 n;have sz:(s.heap.push (uO w)).objs.size=s.heap.objs.size+1:=zR9 _ _;have z:l≠(s.heap.push (uO w)).objs.size:=by rw[sz];exact zL9 (zR8 p)
    have J:s.heap.objs.size∉[(s.heap.push (uO w)).objs.size,l]:=by
     rw[sz];simp only[zK8,zM5,zP8,not_or];exact⟨zL9 (zQ7 _),zT2 p⟩
    refine zb3 ((Walks.list (by simp[Y]) _ l z a).toS) s.heap.objs.size J (λi=>ns.getD i 0) (λi v T=>IntsAre.int_at hi i v (by rw[zY3];exact T)) hb (a.size-0) 0 _ (by lia) (zL6 _)
     ⟨⟨_,zL2 _ rfl,rfl,rfl⟩,q.push _⟩ ⟨uO w,_,_,_,zK1 _ P,zc3⟩ λs' hm x=>?_
    obtain⟨h',U,d',D,G⟩:=s';have eg:U=s.gens:=hm.gens;have W:d'=s.drawn:=hm.drawn;have eo:G=s.os:=hm.os;subst eg W eo;refine zK2 (zK2 ⟨rfl,h',D,rfl,x,λc o S e=>?_⟩);refine hm.heap c o ?_ (zK1 _ (zK1 _ e));rw[sz];simp only[zK8,zM5,zP8,not_or];exact⟨zL9 S,zL9 (zR8 S)⟩
   .cases y with
    |error e=>exact b
    |ok k=>
     cases k with
     |ret r=>
      obtain⟨rfl,h',B,rfl,x,hk⟩:=b
      repeat (any_goals (first|assumption|wp_step))
      exact h _ _ x hk
     |_=>exact b.elim
  |_=>exact hr.elim
end
theorem vh {O:Type}:∀(l:List O) (i:Nat) (x:O),l[i]?=some x->(x::l.eraseIdx i).Perm l
 |[],i,x,h=>by simp at h
 |a::l,0,x,h=>by simp at h;subst h;exact .refl _
 |a::l,i+1,x,h=>by
  have h':l[i]?=some x:=by simpa using h
  exact(List.Perm.swap a x (l.eraseIdx i)).trans ((vh l i x h').cons a)
theorem jk {O:Type}(next:Nat->Nat):∀(f k:Nat) (left:List O) (out:Array O),left.length=f->(pickOrder.go next f k left out).toList.Perm (out.toList++left)
 |0,k,left,out,e=>by
  rw[zZ8.mp e,zP6];exact .refl _
 |f+1,k,left,out,e=>by
  unfold pickOrder.go;have a:next k % left.length<left.length:=Nat.mod_lt _ (by lia)
  rw[zK4 a];dsimp only;refine(jk next f (k+1) _ _ (by rw[List.length_eraseIdx];split<;>lia)).trans ?_;rw[zW8,zN2];exact zQ2 _ (vh left _ _ (zK4 a))
def vY {O:Type}(next:Nat->Nat)(xs:Array O):(pickOrder next xs).toList.Perm xs.toList:=by
 have:=jk next xs.size 0 xs.toList #[] (by simp)
 simpa[pickOrder]using this
section
variable {prog:Ah}{w:Ak}{A:Al}{E:Ab->Ac->Prop}
def jv {M:Model}{src:Source}{n:Nat}{s:Ac}{Q:Nat->Ac->Prop}(hn:n≠0)(h:∀i d,i<n->Q i {s with drawn:=d}):Aj M A (choose src n) Q E s:=λ_ _ _=>⟨hn,h _ _ (Nat.mod_lt _ (Nat.pos_of_ne_zero hn))⟩
theorem jg {O:Type}:∀(n:Nat) (xs:List O) {s:Ac}{Q:List O->Ac->Prop},xs.length=n->(∀ys d,ys.Perm xs->Q ys {s with drawn:=d})->Aj (Ag prog w) A (drawOrder n xs) Q E s
 |0,xs,s,Q,e,h=>by
  rw[zZ8.mp e]at h;cases s;exact zK2 (h [] _ (.refl _))
 |n+1,[],s,Q,e,h=>by cases e
 |n+1,x::xs,s,Q,e,h=>by
  unfold drawOrder;refine zK0 (jv (by simp) λi b a=>?_);rw[zK4 a];dsimp only;refine zK0 (jg n _ (by rw[List.length_eraseIdx,if_pos a];simp at e ⊢;lia) λys d hy=>zK2 ?_);exact h _ d ((hy.cons _).trans (vh _ _ _ (zK4 a)))
end
def zW :Slot "set_iterator" "__next__" "set_iterator.__next__":=
 .of (owner:="set_iterator") (n:="__next__") (by rw[z59,z06];kernel_rfl) (by decide +kernel) (by decide +kernel) (by decide +kernel) (by first|exact .inl (by decide +kernel)|exact .inr (by decide +kernel)) (by rw[isSubtype_type];kernel_rfl)
def wJ :entryFor table "set_iterator.__next__"=some Builtin.«set_iterator.__next__»:=entryFor_of_fast (by kernel_rfl)
def vw (a:Ab):argsOk "set_iterator.__next__" ⟨[a],[]⟩:=by unfold argsOk;kernel_rfl
def jL :entryFor table "set.__iter__"=some Builtin.«frozenset.__iter__»:=entryFor_alias (id':="frozenset.__iter__") (by kernel_rfl) rfl (by decide +kernel) (by kernel_rfl)
abbrev itO (f:Ab)(i:Nat)(a:Ad)(n ep:Nat):Obj:={cls:=.type "set_iterator",data:=.fields #[f,.int i 0,.ref a,.int n 0,.int ep 0]}
section
variable {prog:Ah}{w:Ak}{A:Al}{E:Ab->Ac->Prop}{s:Ac}{I a:Ad}{i n ep:Nat}{o:Obj}{es:Array (Int×Ab)}{S:Int->Bool}{m:Nat}{b:Bool}{t:SetTable}{Q:Option Ab->Ac->Prop}
def aj {sl c:Nat}{v:Ab}(d:s.heap.get? I=some (itO (.int sl 0) i a n ep))(e:s.heap.get? a=some o)(x:WkO prog w o S m b es ep t)(hn:es.size=n)
  (j:∀(h:Al) (E:Ab->Ac->Prop) (f:Option (Ab×Nat)->Ac->Prop),f (some (v,c)) s->Aj (Ag prog w) h (setNext a sl i ep) f E s)
  (p:∀h',h'.get? I=some (itO (.int c 0) (i+1) a n ep)->Heap.SameBut I s.heap h'->Q (some v) {s with heap:=h'}):Aj (Ag prog w) A (pyNext (.ref I)) Q E s:=by
 have g:s.TypeIs (.ref I) "set_iterator":=⟨_,d,rfl⟩;unfold pyNext;refine zK0 (zT6 (zS3 g zW (zR5 zW g wJ ?_ (vw _))));unfold Builtin.«set_iterator.__next__»;refine zK0 (zZ0 (by rfl) (zK0 (wpAny_fieldsOf d rfl (zK0 (zZ6 e x.dt x.fit ?_)))));rw[hn];refine zP1 (λz=>absurd z (by simp)) (λ_=>zK0 (j _ _ _ ?_));refine zK0 (zR3 d (by simp) λq e1 s1=>zK0 (zR3 e1 (by simp) λk l s2=>?_));exact zK2 ⟨v,rfl,zK2 (p k l (s1.trans s2))⟩
def zu1 {sl:Nat}(j:A.handled=none)(c:s.heap.get? I=some (itO (.int sl 0) i a n ep))(d:s.heap.get? a=some o)(x:WkO prog w o S m b es ep t)(hn:es.size=n)
  (h:∀(g:Al) (E:Ab->Ac->Prop) (e:Option (Ab×Nat)->Ac->Prop),e none s->Aj (Ag prog w) g (setNext a sl i ep) e E s)
  (k:∀h',Heap.ExtBut I s.heap h'->Q none {s with heap:=h'}):Aj (Ag prog w) A (pyNext (.ref I)) Q E s:=by
 have f:s.TypeIs (.ref I) "set_iterator":=⟨_,c,rfl⟩;unfold pyNext;refine zK0 (zT6 (zS3 f zW (zR5 zW f wJ ?_ (vw _))));unfold Builtin.«set_iterator.__next__»;refine zK0 (zZ0 (by rfl) (zK0 (wpAny_fieldsOf c rfl (zK0 (zZ6 d x.dt x.fit ?_)))));rw[hn];refine zP1 (λz=>absurd z (by simp)) (λ_=>zK0 (h _ _ _ ?_));refine zK0 (zR3 c (by simp) λl e1 s1=>zK0 ?_);simp only[newExc,newTuple];refine zK0 (zS7 ?_ (by size_fits));refine zK0 (zZ0 (by first|rfl|(simp only[firstArgMember];rfl)) ?_);refine zS7 ?_ (by size_fits);simp only[raiseNew];refine zK0 (wpAny_handled ?_);rw[show A.in1.handled=none from j];refine zK0 (zK2 (wpAny_throw ?_));refine zK0 (z53 ⟨_,zL2 _ rfl,rfl⟩ isSubtype_stop ?_);exact zK2 (k _ ((s1.extBut.push _).push _))
def dA {tp:Ad}{ot:Obj}{places:Array Ab}{c:Nat}{k:Nat}{u:Tok}{e:Int×Ab}(f:s.heap.get? I=some (itO (.ref tp) i a n ep))(g:s.heap.get? tp=some ot)(h:ot.data=.seq places c)(d:s.heap.get? a=some o)(x:WkO prog w o S m b es ep t)(hn:es.size=n)
  (p:places[i]?=some (.int k u)) (he:es[k]?=some e)
  (r:∀h',h'.get? I=some (itO (.ref tp) (i+1) a n ep)->Heap.SameBut I s.heap h'->Q (some e.2) {s with heap:=h'}):Aj (Ag prog w) A (pyNext (.ref I)) Q E s:=by
 have j:s.TypeIs (.ref I) "set_iterator":=⟨_,f,rfl⟩;unfold pyNext;refine zK0 (zT6 (zS3 j zW (zR5 zW j wJ ?_ (vw _))));unfold Builtin.«set_iterator.__next__»;refine zK0 (zZ0 (by rfl) (zK0 (wpAny_fieldsOf f rfl (zK0 (zZ6 d x.dt x.fit ?_)))));rw[hn];refine zP1 (λz=>absurd z (by simp)) (λ_=>zK0 (zU0 g h ?_));dsimp only;rw[zR7,p];dsimp only;unfold setNextDrawn;refine zK0 (zK0 (zW7 d x.dt x.fit ?_));dsimp only;rw[zR7,zR7];refine zP1 (λz=>absurd z (by simp)) (λ_=>?_);rw[he];refine zK2 ?_;refine zK0 (zR3 f (by simp) λl q s2=>?_);exact zK2 ⟨e.2,rfl,zK2 (r l q s2)⟩
def bN {tp:Ad}{ot:Obj}{places:Array Ab}{c:Nat}(k:A.handled=none)(d:s.heap.get? I=some (itO (.ref tp) i a n ep))(e:s.heap.get? tp=some ot)(g:ot.data=.seq places c)(f:s.heap.get? a=some o)(x:WkO prog w o S m b es ep t)(hn:es.size=n)
  (l:places[i]?=none) (p:∀h',Heap.ExtBut I s.heap h'->Q none {s with heap:=h'}):Aj (Ag prog w) A (pyNext (.ref I)) Q E s:=by
 have h:s.TypeIs (.ref I) "set_iterator":=⟨_,d,rfl⟩;unfold pyNext;refine zK0 (zT6 (zS3 h zW (zR5 zW h wJ ?_ (vw _))));unfold Builtin.«set_iterator.__next__»;refine zK0 (zZ0 (by rfl) (zK0 (wpAny_fieldsOf d rfl (zK0 (zZ6 f x.dt x.fit ?_)))));rw[hn];refine zP1 (λz=>absurd z (by simp)) (λ_=>zK0 (zU0 e g ?_));dsimp only;rw[zR7,l];refine zK0 (zR3 d (by simp) λh0 j s0=>zK0 (zR3 j (by simp) λq e1 s1=>?_));refine zK0 ?_;simp only[newExc,newTuple];refine zK0 (zS7 ?_ (by size_fits));refine zK0 (zZ0 (by first|rfl|(simp only[firstArgMember];rfl)) ?_);refine zS7 ?_ (by size_fits);simp only[raiseNew];refine zK0 (wpAny_handled ?_);rw[show A.in1.handled=none from k];refine zK0 (zK2 (wpAny_throw ?_));refine zK0 (z53 ⟨_,zL2 _ rfl,rfl⟩ isSubtype_stop ?_);exact zK2 (p _ (((s0.trans s1).extBut.push _).push _))
def nO (c:s.heap.get? a=some o)(x:WkO prog w o S m b es ep t)(j:yK w=true)(hb:b=true)(f:(!t.plain&&decide (es.size > 1))=false)(hi:i<es.size)(e:Al)(E:Ab->Ac->Prop)(d:Option (Ab×Nat)->Ac->Prop){sl:Nat}(h:SetTable.below t.place sl=i)
  (q:∀(k:i<t.place.size),d (some (es[i].2,t.place[i]+1)) s):Aj (Ag prog w) e (setNext a sl i ep) d E s:=by
 have g:w.params.followText "set-order"=false:=by simpa[yK]using j
 have hpl:t.place.size=es.size:=by
  have:=x.fit;simp only[SetTable.fits,zO6,zV4]at this;exact this.1
 unfold setNext;refine zK0 (zW7 c x.dt x.fit ?_);dsimp only;unfold setsByText;refine zK0 (zK0 (zX3 (zK2 ?_)));refine zP1 (λz=>absurd z (by show ¬(w.params.followText "set-order"=true);rw[g];decide)) (λ_=>?_);refine zP1 (λz=>absurd (show(!t.plain&&decide (es.size > 1))=true from z) (by rw[f];decide)) (λ_=>?_);refine zK0 ((?_:Aj (Ag prog w) e (if(!t.led&&!es.isEmpty)=true then unsupported "set:maker-not-led" else pure ()) _ E s));rw[(x.led.trans hb)];refine zK2 ?_;rw[h,zS9 hi,zS9 (show i<t.place.size by lia)];exact zK2 (q (by lia))
def jG (c:s.heap.get? a=some o)(x:WkO prog w o S m b es ep t)(j:yK w=true)(hb:b=true)(f:(!t.plain&&decide (es.size > 1))=false)(e:Al)(E:Ab->Ac->Prop)(d:Option (Ab×Nat)->Ac->Prop){sl:Nat}(h:SetTable.below t.place sl=es.size)
  (q:d none s):Aj (Ag prog w) e (setNext a sl i ep) d E s:=by
 have g:w.params.followText "set-order"=false:=by simpa[yK]using j
 unfold setNext;refine zK0 (zW7 c x.dt x.fit ?_);dsimp only;unfold setsByText;refine zK0 (zK0 (zX3 (zK2 ?_)));refine zP1 (λz=>absurd z (by show ¬(w.params.followText "set-order"=true);rw[g];decide)) (λ_=>?_);refine zP1 (λz=>absurd (show(!t.plain&&decide (es.size > 1))=true from z) (by rw[f];decide)) (λ_=>?_);refine zK0 ((?_:Aj (Ag prog w) e (if(!t.led&&!es.isEmpty)=true then unsupported "set:maker-not-led" else pure ()) _ E s));rw[(x.led.trans hb)];refine zK2 ?_;rw[h,Array.getElem?_eq_none (zK6 _)];exact zK2 q
def qh (c:s.heap.get? a=some o)(x:WkO prog w o S m b es ep t)(h:yK w=false)(g:Al)(E:Ab->Ac->Prop)(d:Option (Ab×Nat)->Ac->Prop){sl:Nat}
  (q:d (((pickOrder (w.params.setOrder a ep) es)[i]?).map λe=>(e.2,sl)) s):Aj (Ag prog w) g (setNext a sl i ep) d E s:=by
 have f:w.params.followText "set-order"=true:=by simpa[yK]using h
 unfold setNext;refine zK0 (zW7 c x.dt x.fit ?_);dsimp only;unfold setsByText;refine zK0 (zK0 (zX3 (zK2 (zP1 (λ_=>?_) (λz=>absurd f z)))));refine zP1 (λz=>absurd z (by simp)) (λ_=>?_);unfold setWalk;refine zK0 (zK0 (zW7 c x.dt x.fit ?_));dsimp only;unfold setsByText;refine zK0 (zK0 (zX3 (zK2 (zP1 (λ_=>?_) (λz=>absurd f z)))));exact zK0 (zX3 (zK2 (zK2 q)))
end
def pO :Slot "set_iterator" "__iter__" "set_iterator.__iter__":=
 .of (owner:="set_iterator") (n:="__iter__") (by rw[z59,z06];kernel_rfl) (by decide +kernel) (by decide +kernel) (by decide +kernel) (by first|exact .inl (by decide +kernel)|exact .inr (by decide +kernel)) (by rw[isSubtype_type];kernel_rfl)
def jO :entryFor table "set_iterator.__iter__"=some Builtin.«dict_keyiterator.__iter__»:=entryFor_alias (id':="dict_keyiterator.__iter__") (by kernel_rfl) rfl (by decide +kernel) (by kernel_rfl)
def fj (a:Ab):argsOk "set_iterator.__iter__" ⟨[a],[]⟩:=by unfold argsOk;kernel_rfl
section
variable {prog:Ah}{w:Ak}{A:Al}{I a:Ad}{n ep:Nat}{o:Obj}{es:Array (Int×Ab)}{S:Int->Bool}{m:Nat}{b:Bool}{t:SetTable}{ord:List Ab}
def kJ {E:Ab->Ac->Prop}{s:Ac}{f:Ab}{i:Nat}{Q:Ab->Ac->Prop}(d:s.heap.get? I=some (itO f i a n ep))(q:Q (.ref I) s):Aj (Ag prog w) A (pyIter (.ref I)) Q E s:=by
 have c:s.TypeIs (.ref I) "set_iterator":=⟨_,d,rfl⟩;refine wpAny_pyIter_slot c pO (zR5 pO c jO ?_ (fj _));exact zK2 ⟨_,rfl,"set_iterator",_,c,zW.lookup,q⟩
def zf9 (y:A.handled=none)(hne:a≠I)(x:WkO prog w o S m b es ep t)(hn:es.size=n)(C:ord.length=n)(f:Nat->Nat)
  (p:∀(i:Nat) (s:Ac) (g:Al) (E:Ab->Ac->Prop) (d:Option (Ab×Nat)->Ac->Prop),s.heap.get? a=some o->(hi:i<ord.length)->d (some (ord[i],f (i+1))) s->Aj (Ag prog w) g (setNext a (f i) i ep) d E s)
  (B:∀(s:Ac) (g:Al) (E:Ab->Ac->Prop) (d:Option (Ab×Nat)->Ac->Prop),s.heap.get? a=some o->d none s->Aj (Ag prog w) g (setNext a (f n) n ep) d E s):
  Walks prog w A I [I,a] [I] n (λi v=>ord[i]?=some v) (λi h=>h.get? I=some (itO (.int (f i) 0) i a n ep)/\h.get? a=some o) where
 sub:=λc j=>by simp at j;simp[j]
 frame:=λi h h' st k=>⟨k I (by simp) _ st.1,k a (by simp) _ st.2⟩
 item:=λi s Q E hi st l=>aj st.1 st.2 x hn (λg E d q=>p i s g E d st.2 (by lia) q) λh' e sb=>by
  cases s;exact l _ h' _ (zK4 (by lia)) ⟨e,by rw[sb.2 a hne];exact st.2⟩ λc u j e=>by rw[sb.2 c λz=>j (by simp[z])];exact e
 done:=λs Q E st l=>zu1 y st.1 st.2 x hn (λg E d q=>B s g E d st.2 q) λh' e=>by
  cases s;exact l h' _ λc u j r=>e c u (λz=>j (by simp[z])) r
 self:=λi s Q E st q=>kJ st.1 q
def zz2 {tp:Ad}{ot:Obj}{ks:List Nat}{c:Nat}(B:A.handled=none)(hne:a≠I)(l:tp≠I)(x:WkO prog w o S m b es ep t)(hn:es.size=n)(r:ks.length=n)(hk:∀k∈ks,k<n)(j:ot.data=.seq (ks.map λk=>Value.int (k:Nat) 0).toArray c):
  Walks prog w A I [I,a,tp] [I] n (λi v=>(ks.map λk=>(es.getD k (0,.none)).2)[i]?=some v) (λi h=>h.get? I=some (itO (.ref tp) i a n ep)/\h.get? a=some o/\h.get? tp=some ot) where
 sub:=λc f=>by simp at f;simp[f]
 frame:=λi h h' st k=>⟨k I (by simp) _ st.1,k a (by simp) _ st.2.1,k tp (by simp) _ st.2.2⟩
 item:=λi s Q E hi st p=>by
  have d:i<ks.length:=by lia
  have g:ks[i]<es.size:=by rw[hn];exact hk _ (zX2 d)
  refine dA (u:=0) st.1 st.2.2 j st.2.1 x hn (by simp[d]) (zS9 g) λh' e sb=>?_;cases s;refine p _ h' _ ?_ ⟨e,by rw[sb.2 a hne];exact st.2.1,by rw[sb.2 tp l];exact st.2.2⟩ λc u f e=>by rw[sb.2 c λz=>f (by simp[z])];exact e
  rw[zM3,zK4 d];simp[Array.getD,g]
 done:=λs Q E st p=>bN B st.1 st.2.2 j st.2.1 x hn (by simp[r]) λh' e=>by
  cases s;exact p h' _ λc u f y=>e c u (λz=>f (by simp[z])) y
 self:=λi s Q E st q=>kJ st.1 q
def jV (t:SetTable):Nat->Nat
 |0=>0
 |i+1=>t.place.getD i 0+1
def Wkd (prog:Ah)(w:Ak)(h:An)(I a:Ad)(N n:Nat)(ord:List Ab):Prop:=∀A:Al,A.handled=none->∃fp St,Walks prog w A I fp [I] n (λi v=>ord[i]?=some v) St/\St 0 h/\(∀c∈fp,c=a\/N<=c)/\I∈fp
def aF {E:Ab->Ac->Prop}{s:Ac}{Q:Ab->Ac->Prop}(f:s.heap.get? a=some o)(x:WkO prog w o S m (yK w) es ep t)
  (h:∀(I:Ad) (h':An) d (ord:List Ab),(∀c u,s.heap.get? c=some u->h'.get? c=some u)->s.heap.objs.size<=I->ord.Perm (es.toList.map (·.2))->Wkd prog w h' I a s.heap.objs.size es.size ord->Q (.ref I) {s with heap:=h',drawn:=d}):Aj (Ag prog w) A (pyIter (.ref a)) Q E s:=by
 have J:s.TypeIs (.ref a) "set":=⟨_,f,x.ex.1⟩;have alt:=zL0 f;refine wpAny_pyIter_slot J F.slot_set_iter (zR5 F.slot_set_iter J jL ?_ (F.args_set_iter_1 _));unfold Builtin.«frozenset.__iter__»;refine zK0 (zZ0 (by rfl) (zK0 ?_));unfold Builtin.Frozenset.sizeOf;refine zK0 (zZ6 f x.dt x.fit (zK2 (zK0 ?_)));unfold setDrawn;refine zK0 (zW7 f x.dt x.fit ?_);dsimp only;unfold setsByText;refine zK0 (zK0 (zX3 (zK2 (zK2 ?_))));have sz:=z48 x.sb;refine zP1 (λhd=>?_) (λhd=>?_)
 .refine zK0 (jg _ _ (by simp) λks d D=>?_);have K:ks.length=es.size:=by rw[D.length_eq,List.length_range]
  refine zK0 (z42 ?_ (by rw[zK3];lia));generalize G:(s.heap.push {cls:=.type "tuple",data:=.seq (ks.map λ(i:Nat)=>rawInt i).toArray}).objs.size=I;have B:I=s.heap.objs.size+1:=by rw[<-G];exact zR9 _ _
  have k1:∀c u,s.heap.get? c=some u->(s.heap.push {cls:=.type "tuple",data:=.seq (ks.map λ(i:Nat)=>rawInt i).toArray}).get? c=some u:=λc u e=>zK1 _ e;refine zK0 (wpAny_setEpoch_of (k1 _ _ f) x.dt x.fit (zK0 (zS7 (zK2 ⟨_,rfl,"set_iterator",_,⟨_,zL2 _ rfl,rfl⟩,zW.lookup,?_⟩))));dsimp only;rw[G];have k2:∀c u,s.heap.get? c=some u->((s.heap.push {cls:=.type "tuple",data:=.seq (ks.map λ(i:Nat)=>rawInt i).toArray}).push (itO (.ref s.heap.objs.size) 0 a es.size ep)).get? c=some u:=λc u e=>zK1 _ (k1 c u e);refine h I _ d (ks.map λk=>(es.getD k (0,.none)).2) k2 (by rw[B];exact zT4 _) ?_ (λA v=>⟨_,_,zz2 v (by rw[B];exact zL9 (zR8 alt)) (by rw[B];exact zL9 (zQ7 _)) x rfl K (λk hk=>z64.mp (D.mem_iff.mp hk)) rfl,⟨by rw[<-G];exact zL2 _ rfl,k2 _ _ f,zK1 _ (zL2 _ rfl)⟩,λc z=>?_,by simp⟩)
  .have e:es.toList.map (·.2)=(List.range es.size).map λk=>(es.getD k (0,.none)).2:=by
    refine List.ext_getElem (by simp) λi C M=>?_;have:i<es.size:=by simpa using C
    simp[Array.getD,this]
   rw[e];exact D.map _
  .simp only[zK8,zM5,zP8]at z;rcases z with rfl|rfl|rfl
   .rw[B];exact .inr (zT4 _)
   .exact .inl rfl
   .exact .inr (zK6 _)
 .refine zK0 (zK2 (zK0 (wpAny_setEpoch_of f x.dt x.fit (zK0 (zS7 (zK2 ⟨_,rfl,"set_iterator",_,⟨_,zL2 _ rfl,rfl⟩,zW.lookup,?_⟩))))));have k2:∀c u,s.heap.get? c=some u->(s.heap.push (itO (.int 0 0) 0 a es.size ep)).get? c=some u:=λc u e=>zK1 _ e;have r:∀c∈[s.heap.objs.size,a],c=a\/s.heap.objs.size<=c:=λc z=>by
   simp only[zK8,zM5,zP8]at z;rcases z with rfl|rfl
   .exact .inr (zK6 _)
   .exact .inl rfl
  cases hw:yK w with
  |false=>
   have q:=h s.heap.objs.size _ s.drawn ((pickOrder (w.params.setOrder a ep) es).toList.map (·.2)) k2 (zK6 _) ((vY _ _).map _) (λA v=>⟨_,_,zf9 v (zL9 alt) x rfl (by rw[zK3,(vY _ es).length_eq];simp) (λ_=>0) (λi s l E p e hi q=>qh e x hw l E p ?_) (λs l E p e q=>qh e x hw l E p ?_),⟨zL2 _ rfl,k2 _ _ f⟩,r,by simp⟩)
   .exact q
   .have g:i<(pickOrder (w.params.setOrder a ep) es).size:=by simpa using hi
    rw[zS9 g];simpa using q
   .rw[Array.getElem?_eq_none (by
     have:=(vY (w.params.setOrder a ep) es).length_eq;simp at this
     lia)]
    exact q
  |true=>
   have L:w.params.followText "set-order"=false:=by simpa[yK]using hw
   have H:¬((!w.params.followText "set-order"&&(!t.plain&&decide (es.size > 1)))=true):=hd;rw[L]at H;have j:(!t.plain&&decide (es.size > 1))=false:=by simpa using H
   have hpl:t.place.size=es.size:=by
    have:=x.fit;simp only[SetTable.fits,zO6,zV4]at this;exact this.1
   have up:Up t.place:=by
    cases hp:t.plain with
    |true=>exact x.ris hp
    |false=>
     rw[hp]at j;have:es.size<=1:=by simpa using j
     unfold Up;have C:t.place.toList.length<=1:=by simp;lia
     match N:t.place.toList,C with
     |[],_=>exact .nil
     |[y],_=>exact z45 _ _
   have st:∀i (hi:i<=es.size),SetTable.below t.place (jV t i)=i:=λi hi=>by
    cases i with
    |zero=>exact lG up
    |succ i=>
     have g:i<t.place.size:=by lia
     have e:jV t (i+1)=t.place[i]+1:=by simp[jV,Array.getD,g]
     rw[e];exact mB up g
   have q:=h s.heap.objs.size _ s.drawn (es.toList.map (·.2)) k2 (zK6 _) (.refl _) (λA v=>⟨_,_,zf9 v (zL9 alt) x rfl (by simp) (jV t) (λi s l E p e hi q=>nO e x hw hw j (by simpa using hi) l E p (st i (by simp at hi;lia)) λg=>?_) (λs l E p e q=>jG e x hw hw j l E p (st _ (zK6 _)) q),⟨zL2 _ rfl,k2 _ _ f⟩,r,by simp⟩)
   .exact q
   .have e:jV t (i+1)=t.place[i]+1:=by simp[jV,Array.getD,g]
    rw[e]at q;simpa using q
end
section
variable {prog:Ah}{w:Ak}{A:Al}{E:Ab->Ac->Prop}{s:Ac}{a:Ad}{ep:Nat}{o:Obj}{es:Array (Int×Ab)}{S:Int->Bool}{m:Nat}{t:SetTable}
def fP {Q:Bool->Ac->Prop}(d:s.TypeIs (.ref a) "set")(h:Q false s):Aj (Ag prog w) A (Builtin.List.listLengthHint (.ref a)) Q E s:=by
 unfold Builtin.List.listLengthHint;refine zK0 (z58 d F.slot_set_len.lookup ?_);generalize c:("set.__len__":String)=id0
 wp_delta
 rw[show splitId id0=some ("set","__len__")from by subst c;decide +kernel];subst c;refine zK0 (z53 (b:=true) d (by rw[isSubtype_type];kernel_rfl) ?_);refine zP1 (λq=>absurd q (by decide)) λ_=>zP1 (λ_=>?_) λq=>absurd (by decide +kernel) q;exact zK0 (wpAny_typeOf d (zK2 h))
def pC {Q:List Ab->Ac->Prop}(P:A.handled=none)(f:s.heap.get? a=some o)(x:WkO prog w o S m (yK w) es ep t)
  (h:∀(h':An) d (J:Nat) (ord:List Ab),s.heap.objs.size<h'.objs.size->(∀c u,s.heap.get? c=some u->h'.get? c=some u)->ord.Perm (es.toList.map (·.2))->Q ord {s with heap:=h',drawn:=d,toks:=J}):Aj (Ag prog w) A (collect (.ref a)) Q E s:=by
 unfold collect;refine zK0 (wpAny_runValue (zV8 F.entry_proto_collect ?_));rw[zU1 F.plain_proto_collect _];refine zK0 (zS7 (zK2 ⟨zZ9 F.plain_list_iadd _,zV8 F.entry_list_iadd ?_⟩));rw[zU1 F.plain_list_iadd _];show Aj _ A.in1 (Builtin.List.listExtendWith (.ref s.heap.objs.size) (.ref a) (.ref s.heap.objs.size)) _ _ _;generalize n:s.heap.objs.size=L;have k1:∀c u,s.heap.get? c=some u->(s.heap.push {cls:=.type "list",data:=.seq ([]:List Ab).toArray}).get? c=some u:=λc u e=>zK1 _ e;have v:(s.heap.push {cls:=.type "list",data:=.seq ([]:List Ab).toArray}).get? L=some {cls:=.type "list",data:=.seq ([]:List Ab).toArray}:=by rw[<-n];exact zL2 _ rfl
 have j:(s.heap.push {cls:=.type "list",data:=.seq ([]:List Ab).toArray}).objs.size=L+1:=by rw[<-n];exact zR9 _ _
 generalize M:s.heap.push {cls:=.type "list",data:=.seq ([]:List Ab).toArray}=D at k1 v j;have H:a≠L:=by rw[<-n];exact zL9 (zL0 f)
 unfold Builtin.List.listExtendWith;refine zK0 (wpAny_typeOf ⟨_,k1 _ _ f,x.ex.1⟩ ?_);have T:Builtin.List.listSameRef (.ref L) (.ref a)=false:=by simp[Builtin.List.listSameRef,zP2 H]
 refine zP1 (λz=>absurd z (by rw[T];decide)) λ_=>?_;refine zK0 (aF (k1 _ _ f) x λI G d ord k2 V pm U=>zK0 (zP3 (fP ⟨_,k2 _ _ (k1 _ _ f),x.ex.1⟩ ?_)));refine zP1 (λ_=>zK0 (zT9 ?_)) λq=>absurd (by decide +kernel) q;refine zK0 ?_;have B:=k2 _ _ v;refine zK0 (zY0 B rfl ?_);have y:=zQ4 (Obj.mapSeq (·.push Value.none)) B rfl;refine zY0 y rfl ?_;have k:∀c u,c≠L->G.get? c=some u->((G.update L (Obj.mapSeq (·.push Value.none))).update L (Obj.mapSeq (·.pop))).get? c=some u:=λc u C e=>(zM0 _ _ (zP2 C)).trans ((zM0 _ _ (zP2 C)).trans e);obtain⟨fp,St,W,O,wf,Y⟩:=U A.in1 (by simp[P]);have p:L∉fp:=λz=>by
  rcases wf L z with e|e
  .exact H e.symm
  .have K:=e;rw[j]at K;exact absurd K (Nat.not_succ_le_self _)
 refine zK2 ⟨zZ9 F.plain_extend_loop _,codeAny_extend_loopS W.toS (z48 x.sb) _ p _ es.size 0 _ _ _ rfl (zL6 _) (W.frame 0 _ _ O λc C u e=>k c u (λz=>p (z▸C)) e) (zQ4 (Obj.mapSeq (·.pop)) y rfl) (ItemsOf.nil _) λs' acc c' hm r b=>?_⟩;refine zK0 (wpAny_load r ?_);have lo:ord.length=es.size:=by rw[pm.length_eq];simp
 have N:acc.toList=ord:=by
  refine List.ext_getElem? λi=>?_;rcases zQ1 i es.size with hi|hi
  .have D:i<acc.size:=by rw[b.1];exact hi
   have:=b.2 i acc[i] (zS9 D);rw[this];simp[D]
  .rw[zY1 (by simp[b.1];exact hi),zY1 (by lia)]
 have cl:∀{c:Ad} {u:Obj},s.heap.get? c=some u->c<L:=λe=>by rw[<-n];exact zL0 e
 have q:=h s'.heap s'.drawn s'.toks ord (by rw[n];exact zL0 r) (λc u e=>hm.heap c u (λz=>?_) (k c u (zL9 (cl e)) (k2 _ _ (k1 _ _ e)))) pm
 .refine zK2 ?_;rw[N];obtain⟨hp,g,Z,J,os⟩:=s';have X:=hm.gens;have R:=hm.os;subst X R;exact q
 .simp only[zK8,zM5,zP8]at z;rcases z with z|z
  .exact zL9 (cl e) z
  .have l:=V;rw[j]at l;have:=cl e;rw[z]at this;exact absurd (zK5 (zR8 this) l) (zQ6 _)
theorem pA :∀{F ms:List Int},F.Nodup->(∀k∈F,k∈ms)->ms.length=F.length->ms.Perm F
 |[],ms,_,_,e=>by rw[zZ8.mp e]
 |k::F,ms,nd,sb,e=>by
  have hk:=sb k zL7;have p1:=List.perm_cons_erase hk;obtain⟨n1,n2⟩:=z32.mp nd;have p2:=pA n2 (λj b=>(List.mem_erase_of_ne (λz:j=k=>n1 (z▸b))).mpr (sb j (zL1 _ b))) (by
   have:=p1.length_eq;simp only[zN0]at this e
   lia)
  exact p1.trans (p2.cons k)
theorem wM (val:Nat->Int):∀n,(firstMet val n).Nodup
 |0=>.nil
 |n+1=>by
  rw[firstMet_succ];unfold step_dedup;split
  .exact wM val n
  .rename_i h;rw[List.nodup_append];refine⟨wM val n,by simp,λx b y hy e=>?_⟩;rw[zN1.mp hy]at e;exact h (List.any_eq_true.mpr ⟨x,b,by simp[e]⟩)
theorem kg :∀(l:List (Int×Ab)),(∀e∈l,∃k,(intKind prog w).is k e.2=true)->∃ms:List Int,IntsAre (l.map (·.2)) ms/\∀k,k∈ms↔∃e∈l,(intKind prog w).is k e.2=true
 |[],_=>⟨[],.nil,λk=>by simp⟩
 |e::l,h=>by
  obtain⟨ms,d,f⟩:=kg l λx b=>h x (zL1 _ b);obtain⟨k,hk⟩:=h e zL7;obtain⟨t,c⟩:=Value.isInt_shape hk;refine⟨k::ms,?_,λj=>?_⟩
  .rw[zP4,c];exact .cons k t d
  .rw[zK8,f]
   constructor
   .rintro(rfl|⟨x,b,q⟩)
    .exact⟨e,zL7,hk⟩
    .exact⟨x,zL1 _ b,q⟩
   .rintro⟨x,b,q⟩;rcases zK8.mp b with rfl|b
    .exact .inl ((intKind prog w).inj _ _ _ q hk)
    .exact .inr ⟨x,b,q⟩
theorem jK :∀{vs us:List Ab}{ms:List Int},us.Perm vs->IntsAre vs ms->∃ns,IntsAre us ns/\ns.Perm ms:=by
 intro vs us ms p
 induction p generalizing ms with
 |nil=>intro h;exact⟨ms,h,.refl _⟩
 |cons x p i=>
  intro h;cases h with
  |cons k t h=>
   obtain⟨ns,c,d⟩:=i h;exact⟨k::ns,.cons k t c,d.cons k⟩
 |swap x y l=>
  intro h;cases h with
  |cons k t h=>
   cases h with
   |cons b t' h=>exact⟨b::k::_,.cons b t' (.cons k t h),.swap k b _⟩
 |trans p1 p2 e g=>
  intro h;obtain⟨ns,c,d⟩:=g h;obtain⟨f,n,j⟩:=e c;exact⟨f,n,j.trans d⟩
end
end SetW
namespace L2
open PySem PySem.Spec PyProof.Rows SetW
section
variable {X:Cx}{O:Ev}{e:Am}{pos p p2 pos2:Pos}
abbrev vf (zs:List Int):List Int:=firstMet (λi=>zs.getD i 0) zs.length
def Inv.drw {pins:List (Ad×Obj)}{σ:List (Option V)}{H:Hp}{s:Ac}(I:Inv X pins σ H s)(d:Drawn):Inv X pins σ H {s with drawn:=d}:=⟨I.ok,I.os,I.bare,I.base,I.loc,I.cell,I.free,I.freeC,I.pin,I.hok,I.len⟩
def SW (P:Ah)(w:Ak)(o:Obj)(zs:List Int):Prop:=∃es ep t,WkO P w o (λk=>(vf zs).any (· == k)) (vf zs).length (yK w) es ep t
def jH (n:X.calm=true):xj X (.type "set") (λxs H Q=>∃(l:Ad) (zs:List Int),xs=[.ref l]/\H l=some (.lst (zs.map V.int))/\zs.length<1000/\∀(c:Ad) (o:Obj),H c=none->SW X.prog X.w o zs->Q (.ref c) (upd H c (.frz o (.set (λk=>(vf zs).any (· == k)) (vf zs).length)))):=by
 intro pins s σ H xs us Q I r h;obtain⟨l,zs,rfl,i,j,q⟩:=h;obtain⟨u,rfl,v⟩:=vals1 r;cases v;obtain⟨a,f,m,y⟩:=I.list (SqL.of i);have l1:=f.length;rw[zK3]at l1;have sz:a.toArray.size=zs.length:=by simp[l1]
 refine zr2 (I.ok.hd n) m.isList (by simpa using intsAre_of f) (by rw[sz];unfold scanBound;lia) λh' z g hk=>?_;rw[sz]at g;obtain⟨o,es,ep,t,d,x⟩:=g;exact⟨.ref s.heap.objs.size,_,I.laid (o:=.frz o (.set _ _)) (λb u e=>hk b u (zL0 e) e) (zK6 _) ⟨d,o,es,ep,t,d,x.ex,x.dt,x.el,x.mem,x.sb,x.fit,x.sz⟩,rfl,q _ o (I.hok.fresh (zK6 _)) ⟨es,ep,t,x⟩⟩
def bZ {zs:List Int}{k:Int}:k∈vf zs↔k∈zs:=by
 have a:k∈vf zs↔(vf zs).any (· == k)=true:=by simp
 rw[a,firstMet_any];simp only[List.any_eq_true,z40,z64,zV4]
 constructor
 .rintro⟨x,⟨i,hi,rfl⟩,rfl⟩;rw[zL4,zK4 hi];exact zX2 hi
 .intro hk;obtain⟨i,hi,e⟩:=z29 hk;exact⟨k,⟨i,hi,by rw[zL4,zK4 hi];exact e⟩,rfl⟩
end
section
variable {X:Cx}{tg:Am}
end
section
variable {X:Cx}{O:Ev}{e1 e2 e3 e4 e5 b:Am}{pos p p1 p2 p3 p4 p5:Pos}{n1 n2 n3 n4 n5:Nat}{k1 k2 k3 k4 k5:Str}{Q:Aa->Prop}
end
end L2
namespace Tim
open PySem PyProof.Rows
def gal :Bool->Keyed->Array Keyed->Nat->Nat->Nat->StateT SortSt Sem (Option Nat):=sortPriv% PySem.Builtin.gallop
abbrev bey (left:Bool)(key:Keyed)(arr:Array Keyed)(base i:Nat):StateT SortSt Sem (Option Bool):=do
 let x <-elem' arr (base+i)
 if left then lt' x key else return (<-lt' key x).map (!·)
structure GB (a₀:Array Keyed)(st:SortSt):Prop where
 perm:(arrOf st).Perm a₀
 kind:kindOf st=oneType'
 failed:failedOf st=none
section
variable {prog:Ah}{w:Ak}{A:Al}{E:Ab->Ac->Prop}{s:Ac}
def lX {st:SortSt}{x y:Keyed}{a b:Int}{t u:Tok}{Q:Option Bool->SortSt->Prop}(hk:kindOf st=oneType')(c:x.1=.int a t)(hy:y.1=.int b u)(h:Q (some (decide (a<b))) st):wpS (Ag prog w) A E s (lt' x y) Q st:=by
 rw[lt'_eq];refine zK9 (wpS_get ?_);rw[hk,keyLt'_oneType,c,hy];exact zK9 (wpS_lift (zT6 (oneLt_int ⟨rfl,zL5 h⟩)))
def zH {st:SortSt}{xs:Array Keyed}{i:Nat}{p:Keyed}{Q:Keyed->SortSt->Prop}(h:xs[i]?=some p)(q:Q p st):wpS (Ag prog w) A E s (elem' xs i) Q st:=by
 rw[elem'_eq,h];exact zL5 q
def ye {xs:Array Keyed}(h:IntKeys xs){i:Nat}(hi:i<xs.size):∃t,xs[i].1=.int (K xs i) t:=by
 obtain⟨n,t,e⟩:=h xs[i] (by simp);refine⟨t,?_⟩;have:K xs i=n:=by
  unfold K;rw[zO8 xs i hi];show numOf xs[i].1=n;rw[e];rfl
 rw[e,this]
def uM (left:Bool)(key:Int)(arr:Array Keyed)(base i:Nat):Bool:=if left then decide (K arr (base+i)<key)else !decide (key<K arr (base+i))
theorem zv5 {st:SortSt}{left:Bool}{key:Keyed}{kz:Int}{kt:Tok}{arr:Array Keyed}{base i:Nat}{Q:Option Bool->SortSt->Prop}(hk:kindOf st=oneType')(a:key.1=.int kz kt)(ia:IntKeys arr)(hi:base+i<arr.size)(h:Q (some (uM left kz arr base i)) st):
  wpS (Ag prog w) A E s (bey left key arr base i) Q st:=by
 obtain⟨t,e⟩:=ye ia hi;refine zK9 (zH (zO8 arr _ hi) ?_);cases left with
 |true=>exact lX hk e a h
 |false=>exact zK9 (lX hk a e (zL5 h))
structure Cut (p:Nat->Bool)(n r:Nat):Prop where
 le:r<=n
 lo:∀i,i<r->p i=true
 hi:∀i,r<=i->i<n->p i=false
abbrev TS :=Option (Option Nat)×Nat×Nat
def el2 {b a d:Type}{t₀:SortSt}{F:b->a->d}{R:b->a->Prop}{G:d->SortSt->Prop}{c:d}{t:SortSt}(h:t=t₀/\∃p q,c=F p q/\R p q)(k:∀p q,R p q->G (F p q) t₀):G c t:=by
 obtain⟨rfl,p,q,rfl,h⟩:=h;exact k p q h
def mid {lo hi:Nat}(h:¬lo≥hi):lo<=lo+(hi-lo) / 2/\lo+(hi-lo) / 2<hi:=by lia
def qc {st:SortSt}{p:Nat->Bool}{b:Nat->StateT SortSt Sem (Option Bool)}{n:Nat}{Q:Option Nat->SortSt->Prop}(B:∀{i:Nat}{Q:Option Bool->SortSt->Prop},i<n->Q (some (p i)) st->wpS (Ag prog w) A E s (b i) Q st)(mono:∀i j,i<=j->j<n->p j=true->p i=true)(h:∀r,Cut p n r->Q (some r) st)
  {f:Nat->TS->StateT SortSt Sem (ForInStep TS)} {F:TS->StateT SortSt Sem (Option Nat)} (f1:∀x lo hi,lo≥hi->f x (none,lo,hi)=pure (.done (none,lo,hi)))
  (f2:∀x lo hi,¬lo≥hi->∃g,f x (none,lo,hi)=b (lo+(hi-lo) / 2) >>= g/\g (some true)=pure (.yield (none,lo+(hi-lo) / 2+1,hi))/\g (some false)=pure (.yield (none,lo,lo+(hi-lo) / 2))) (hF:∀r,F (none,r,r)=pure (some r))
  {lo hi:Nat} (q:lo<=hi) (d:hi<=n) (o:∀i,i<lo->p i=true) (l:∀i,hi<=i->i<n->p i=false):wpS (Ag prog w) A E s (forIn [0:n] ((none,lo,hi):TS) f >>= F) Q st:=by
 refine zK9 (zW1 (zQ9 (I:=λx c st'=>st'=st/\∃lo hi,c=(none,lo,hi)/\lo<=hi/\hi<=n/\hi+x<=lo+n/\(∀i,i<lo->p i=true)/\∀i,hi<=i->i<n->p i=false)
  (Q:=λc st'=>st'=st/\∃r,c=(none,r,r)/\Cut p n r) ?_ ?_ ⟨rfl,lo,hi,rfl,q,d,by lia,o,l⟩) ?_)
 .intro x c st' _ H u;apply el2 (c:=c) (t:=st') u;intro lo hi k;have q:=k.1;have d:=k.2.1;have v:=k.2.2.1;have o:=k.2.2.2.1;have l:=k.2.2.2.2;clear k u c;by_cases a:lo≥hi
  .rw[f1 x lo hi a];have e:lo=hi:=by lia
   subst e;exact zL5 ⟨rfl,lo,rfl,d,o,l⟩
  .obtain⟨g,e,g1,g2⟩:=f2 x lo hi a;rw[e];have hm:=mid a;generalize lo+(hi-lo) / 2=m at g1 g2 hm;refine zK9 (B (by lia) ?_);cases z:p m with
   |true=>
    rw[g1];exact zL5 ⟨rfl,_,_,rfl,by lia,d,by lia,λi G=>mono i _ (by lia) (by lia) z,l⟩
   |false=>
    rw[g2];refine zL5 ⟨rfl,_,_,rfl,by lia,by lia,by lia,o,λi C D=>?_⟩;cases y:p i with
    |false=>rfl
    |true=>rw[mono _ i C D y]at z;cases z
 .rintro c st' ⟨rfl,lo,hi,rfl,q,d,v,o,l⟩;have e:lo=hi:=by lia
  subst e;exact⟨rfl,lo,rfl,d,o,l⟩
 .rintro c st' ⟨rfl,r,rfl,ct⟩;rw[hF];exact zL5 (h r ct)
theorem ui {st:SortSt}{left:Bool}{key:Keyed}{kz:Int}{kt:Tok}{arr:Array Keyed}{base n hint:Nat}{Q:Option Nat->SortSt->Prop}(hk:kindOf st=oneType')(l:key.1=.int kz kt)(ia:IntKeys arr)(hb:base+n<=arr.size)(hn:hint<n)
  (mono:∀i j,i<=j->j<n->uM left kz arr base j=true->uM left kz arr base i=true) (h:∀r,Cut (uM left kz arr base) n r->Q (some r) st):wpS (Ag prog w) A E s (gal left key arr base n hint) Q st:=by
 generalize D:uM left kz arr base=p at mono h;have B:∀{i:Nat} {Q:Option Bool->SortSt->Prop},i<n->Q (some (p i)) st->wpS (Ag prog w) A E s (bey left key arr base i) Q st:=λ{i Q} hi q=>zv5 hk l ia (by lia) (by rw[D];exact q);refine zK9 (B hn ?_);dsimp only;cases z0:p hint with
 |true=>
  rw[if_pos rfl];refine zK9 (zW1 (zQ9 (I:=λx c st'=>st'=st/\∃a of,c=(none,a,of)/\a<of/\x+1<=of/\hint+a<n/\p (hint+a)=true)
   (Q:=λc st'=>st'=st/\∃a of,c=(none,a,of)/\a<of/\hint+a<n/\p (hint+a)=true/\(of≥n-hint\/p (hint+of)=false)) ?_ ?_ ⟨rfl,0,1,rfl,by lia,by lia,by lia,z0⟩) ?_)
  .intro x c st' _ v m;apply el2 (c:=c) (t:=st') m;intro a of g;have f:=g.1;have o:=g.2.1;have e:=g.2.2.1;have d:=g.2.2.2;clear g m c;dsimp only;by_cases b:of≥n-hint
   .rw[if_pos b];exact zL5 ⟨rfl,a,of,rfl,f,e,d,.inl b⟩
   .rw[if_neg b];refine zK9 (B (by lia) ?_);cases z:p (hint+of)with
    |true=>exact zL5 ⟨rfl,of,2*of+1,rfl,by lia,by lia,by lia,z⟩
    |false=>exact zL5 ⟨rfl,a,of,rfl,f,e,d,.inr z⟩
  .rintro c st' ⟨rfl,a,of,rfl,f,o,e,d⟩;exact⟨rfl,a,of,rfl,f,e,d,.inl (by lia)⟩
  .rintro c st' ⟨rfl,a,of,rfl,f,e,d,k⟩;refine qc B mono h (λx lo hi z=>if_pos z) (λx lo hi z=>⟨_,if_neg z,rfl,rfl⟩) (λ_=>rfl) (by lia) (by lia) (λi hi=>mono i _ (by lia) e d) (λi C u=>?_);rcases k with k|k
   .lia
   .cases y:p i with
    |false=>rfl
    |true=>rw[mono _ i (by lia) u y]at k;cases k
 |false=>
  rw[if_neg (by decide)];refine zK9 (zW1 (zQ9 (I:=λx c st'=>st'=st/\∃a of,c=(none,a,of)/\a<of/\x+1<=of/\a<=hint/\p (hint-a)=false)
   (Q:=λc st'=>st'=st/\∃a of,c=(none,a,of)/\a<of/\a<=hint/\p (hint-a)=false/\(of≥hint+1\/p (hint-of)=true)) ?_ ?_ ⟨rfl,0,1,rfl,by lia,by lia,by lia,z0⟩) ?_)
  .intro x c st' _ v m;apply el2 (c:=c) (t:=st') m;intro a of g;have f:=g.1;have o:=g.2.1;have e:=g.2.2.1;have d:=g.2.2.2;clear g m c;dsimp only;by_cases b:of≥hint+1
   .rw[if_pos b];exact zL5 ⟨rfl,a,of,rfl,f,e,d,.inl b⟩
   .rw[if_neg b];refine zK9 (B (by lia) ?_);cases z:p (hint-of)with
    |true=>exact zL5 ⟨rfl,a,of,rfl,f,e,d,.inr z⟩
    |false=>exact zL5 ⟨rfl,of,2*of+1,rfl,by lia,by lia,by lia,z⟩
  .rintro c st' ⟨rfl,a,of,rfl,f,o,e,d⟩;exact⟨rfl,a,of,rfl,f,e,d,.inl (by lia)⟩
  .rintro c st' ⟨rfl,a,of,rfl,f,e,d,k⟩;refine qc B mono h (λx lo hi z=>if_pos z) (λx lo hi z=>⟨_,if_neg z,rfl,rfl⟩) (λ_=>rfl) (by lia) (by lia) (λi hi=>?_) (λi C u=>?_)
   .rcases k with k|k
    .lia
    .exact mono i _ (by lia) (by lia) k
   .cases y:p i with
    |false=>rfl
    |true=>rw[mono _ i (by lia) u y]at d;cases d
end
def mlo :Array Keyed->Array Keyed->StateT SortSt Sem (Array Keyed):=sortPriv% PySem.Builtin.mergeLo
abbrev ky (p:Keyed):Int:=numOf p.1
abbrev Up (l:List Keyed):Prop:=l.Pairwise λx y=>ky x<=ky y
structure Good (a b r:List Keyed):Prop where
 pm:r.Perm (a++b)
 up:Up r
structure MI (a b L:List Keyed)(i j:Nat):Prop where
 ia:i<=a.length
 jb:j<=b.length
 pm:L.Perm (a.take i++b.take j)
 up:Up L
 le:∀x∈L,∀y∈a.drop i++b.drop j,ky x<=ky y
section
variable {a b L:List Keyed}{i j k:Nat}
def MI.doneB (h:MI a b L i j)(c:Up a)(e:j=b.length):Good a b (L++a.drop i++b.drop j):=by
 subst e;have e1:b.drop b.length=[]:=zZ2;rw[e1,zP6];have pm:=h.pm;rw[zT3]at pm;refine⟨(pm.append_right _).trans ?_,zO4.mpr ⟨h.up,c.sublist (zW6 _ _),λx d y hy=>h.le x d y (zO0 _ hy)⟩⟩;have:(a.take i++b++a.drop i).Perm (a.take i++a.drop i++b):=by
  rw[zN2,zN2];exact zQ2 _ zT1
 rwa [zN7]at this
def MI.doneA (h:MI a b L i j)(c:Up b)(e:i=a.length):Good a b (L++a.drop i++b.drop j):=by
 subst e;have e1:a.drop a.length=[]:=zZ2;rw[e1,zP6];have pm:=h.pm;rw[zT3]at pm;refine⟨(pm.append_right _).trans ?_,zO4.mpr ⟨h.up,c.sublist (zW6 _ _),λx d y hy=>h.le x d y (zM4 _ hy)⟩⟩;rw[zN2,zN7]
def MI.last (h:MI a b L i j)(d:Up b)(e:i+1=a.length)(f:∀y∈b,∀x∈a.drop i,ky y<=ky x):Good a b (L++b.drop j++a.drop i):=by
 have ha:a.drop i=[a[i]]:=by rw[zP7 (by lia),List.drop_of_length_le (by lia)]
 refine⟨?_,?_⟩
 .refine((h.pm.append_right _).append_right _).trans ?_;have:(a.take i++b.take j++b.drop j++a.drop i).Perm (a.take i++a.drop i++b):=by
   rw[zN2 (a.take i) (b.take j),zN7,zN2,zN2];exact zQ2 _ zT1
  rwa [zN7]at this
 .refine zO4.mpr ⟨zO4.mpr ⟨h.up,d.sublist (zW6 _ _),λx c y hy=>h.le x c y (zM4 _ hy)⟩,by rw[ha];exact z45 _ _,λx c y hy=>?_⟩;rcases zN6.mp c with c|c
  .exact h.le x c y (zO0 _ hy)
  .exact f x (zW0 c) y hy
def MI.appA (h:MI a b L i j)(l:Up a)(hk:i+k<=a.length)(g:∀x∈(a.drop i).take k,∀y∈b.drop j,ky x<=ky y):MI a b (L++(a.drop i).take k) (i+k) j:=by
 have sp:a.drop i=(a.drop i).take k++a.drop (i+k):=by rw[<-List.drop_drop,zN7]
 have d:Up (a.drop i):=l.sublist (zW6 _ _);rw[sp]at d;obtain⟨e,m,f⟩:=zO4.mp d;refine⟨hk,h.jb,?_,zO4.mpr ⟨h.up,e,λx c y hy=>h.le x c y (zO0 _ (zU2 hy))⟩,λx c y hy=>?_⟩
 .refine(h.pm.append_right _).trans ?_;have:a.take (i+k)=a.take i++(a.drop i).take k:=by rw[List.take_add]
  rw[this,zN2,zN2];exact zQ2 _ zT1
 .rcases zN6.mp c with c|c
  .refine h.le x c y ?_;rcases zN6.mp hy with hy|hy
   .rw[sp];exact zO0 _ (zM4 _ hy)
   .exact zM4 _ hy
  .rcases zN6.mp hy with hy|hy
   .exact f x c y hy
   .exact g x c y hy
def MI.appB (h:MI a b L i j)(e:Up b)(hk:j+k<=b.length)(l:∀x∈(b.drop j).take k,∀y∈a.drop i,ky x<=ky y):MI a b (L++(b.drop j).take k) i (j+k):=by
 have sp:b.drop j=(b.drop j).take k++b.drop (j+k):=by rw[<-List.drop_drop,zN7]
 have d:Up (b.drop j):=e.sublist (zW6 _ _);rw[sp]at d;obtain⟨f,m,g⟩:=zO4.mp d;refine⟨h.ia,hk,?_,zO4.mpr ⟨h.up,f,λx c y hy=>h.le x c y (zM4 _ (zU2 hy))⟩,λx c y hy=>?_⟩
 .refine(h.pm.append_right _).trans ?_;have:b.take (j+k)=b.take j++(b.drop j).take k:=by rw[List.take_add]
  rw[this,zN2]
 .rcases zN6.mp c with c|c
  .refine h.le x c y ?_;rcases zN6.mp hy with hy|hy
   .exact zO0 _ hy
   .rw[sp];exact zM4 _ (zM4 _ hy)
  .rcases zN6.mp hy with hy|hy
   .exact l x c y hy
   .exact g x c y hy
def take1 (l:List Keyed){i:Nat}(h:i<l.length):(l.drop i).take 1=[l[i]]:=by rw[zP7 h];rfl
end
abbrev MA (a b out:Array Keyed)(i j:Nat):Prop:=MI a.toList b.toList out.toList i j
section
variable {a b out:Array Keyed}{i j k:Nat}
def wG (a:Array Keyed)(i:Nat):(a.extract i).toList=a.toList.drop i:=by rw[z22,zY7,z50 (by simp)]
def gW (a:Array Keyed)(i k:Nat):(a.extract i (i+k)).toList=(a.toList.drop i).take k:=by rw[z22,zY7,Nat.add_sub_cancel_left]
def MA.extA (h:MA a b out i j)(c:Up a.toList)(hk:i+k<=a.size)(d:∀x∈(a.toList.drop i).take k,∀y∈b.toList.drop j,ky x<=ky y):MA a b (out++a.extract i (i+k)) (i+k) j:=by
 have:=h.appA c (by simpa using hk) d;unfold MA
 rwa [zO3,gW]
def MA.extB (h:MA a b out i j)(c:Up b.toList)(hk:j+k<=b.size)(d:∀x∈(b.toList.drop j).take k,∀y∈a.toList.drop i,ky x<=ky y):MA a b (out++b.extract j (j+k)) i (j+k):=by
 have:=h.appB c (by simpa using hk) d;unfold MA
 rwa [zO3,gW]
def MA.pushA (h:MA a b out i j)(c:Up a.toList)(hi:i<a.size)(f:∀y∈b.toList.drop j,ky a[i]<=ky y):MA a b (out.push a[i]) (i+1) j:=by
 have e:(a.toList.drop i).take 1=[a[i]]:=by rw[take1 _ (by simpa using hi)];simp
 have:=h.appA (k:=1) c (by simp;lia) (by rw[e];intro x d;rw[zN1.mp d];exact f);unfold MA
 rwa [e,<-zW8]at this
def MA.pushB (h:MA a b out i j)(c:Up b.toList)(f:j<b.size)(g:∀y∈a.toList.drop i,ky b[j]<=ky y):MA a b (out.push b[j]) i (j+1):=by
 have e:(b.toList.drop j).take 1=[b[j]]:=by rw[take1 _ (by simpa using f)];simp
 have:=h.appB (k:=1) c (by simp;lia) (by rw[e];intro x d;rw[zN1.mp d];exact g);unfold MA
 rwa [e,<-zW8]at this
def MA.finB (h:MA a b out i j)(c:Up a.toList)(e:(j == b.size)=true):Good a.toList b.toList (out++a.extract i++b.extract j).toList:=by
 rw[zO3,zO3,wG,wG];exact h.doneB c (by simpa using e)
def MA.finA (h:MA a b out i j)(c:Up b.toList)(e:(i == a.size)=true):Good a.toList b.toList (out++a.extract i++b.extract j).toList:=by
 rw[zO3,zO3,wG,wG];exact h.doneA c (by simpa using e)
def MA.finL (h:MA a b out i j)(d:Up b.toList)(e:(i+1 == a.size)=true)(na:0<a.size)(f:∀y∈b.toList,ky y<=ky a[a.size-1]):Good a.toList b.toList (out++b.extract j++a.extract i).toList:=by
 rw[zO3,zO3,wG,wG];have g:i+1=a.size:=by simpa using e
 refine h.last d (by simpa using g) λy hy x c=>?_;have ha:a.toList.drop i=[a[a.size-1]]:=by
  rw[zP7 (by simp;lia),List.drop_of_length_le (by simp;lia)];have:i=a.size-1:=by lia
  subst this;simp
 rw[ha]at c;rw[zN1.mp c];exact f y hy
def bK {l:List Keyed}(u:Up l){i:Nat}(hi:i<l.length):∀y∈l.drop i,ky l[i]<=ky y:=λy hy=>by
 have:=u.sublist (zW6 i l);rw[zP7 hi]at this hy;rcases zK8.mp hy with rfl|hy
 .exact zT7 _
 .exact(List.pairwise_cons.mp this).1 y hy
def wm {a:Array Keyed}(u:Up a.toList){i:Nat}(hi:i<a.size):∀y∈a.toList.drop i,ky a[i]<=ky y:=by
 have:=bK u (by simpa using hi);simpa using this
def xX {a:Array Keyed}{i:Nat}(hi:i<a.size):K a i=ky a[i]:=by unfold K;rw[zO8 a i hi]
def sv {a:Array Keyed}(u:Up a.toList){i j:Nat}(c:i<=j)(d:j<a.size):K a i<=K a j:=by
 rw[xX (show i<a.size by lia),xX d];have:=wm u (show i<a.size by lia) a[j] (by
  rw[zY6];exact⟨j-i,by simp;lia,by simp[show i+(j-i)=j by lia]⟩)
 exact this
theorem xH {a:Array Keyed}{left:Bool}{kz:Int}{base n:Nat}(up:∀i j,base<=i->i<=j->j<base+n->K a i<=K a j):∀i j,i<=j->j<n->uM left kz a base j=true->uM left kz a base i=true:=λi j c d h=>by
 have:=up (base+i) (base+j) (by lia) (by lia) (by lia);unfold uM at h ⊢;cases left with
 |true=>simp at h ⊢;lia
 |false=>simp at h ⊢;lia
theorem vX {a:Array Keyed}{left:Bool}{kz:Int}{base n k:Nat}(c:Cut (uM left kz a base) n k){i:Nat}(d:base<=i)(e:i<base+k):K a i<=kz:=by
 have:=c.lo (i-base) (by lia);unfold uM at this;rw[show base+(i-base)=i by lia]at this;cases left with
 |true=>simp at this;lia
 |false=>simp at this;lia
theorem uo {a:Array Keyed}{left:Bool}{kz:Int}{base n k:Nat}(c:Cut (uM left kz a base) n k){i:Nat}(d:base+k<=i)(e:i<base+n):kz<=K a i:=by
 have:=c.hi (i-base) (by lia) (by lia);unfold uM at this;rw[show base+(i-base)=i by lia]at this;cases left with
 |true=>simp at this;lia
 |false=>simp at this;lia
def vv {a:Array Keyed}{P:Int->Prop}{i k:Nat}(h:∀t,i<=t->t<i+k->t<a.size->P (K a t)):∀x∈(a.toList.drop i).take k,P (ky x):=λx d=>by
 obtain⟨t,c,rfl⟩:=zY6.mp d;simp at c;have:=h (i+t) (by lia) (by lia) (by lia);rw[xX (show i+t<a.size by lia)]at this;simpa using this
def pE {a:Array Keyed}{P:Int->Prop}{i:Nat}(h:∀t,i<=t->t<a.size->P (K a t)):∀x∈a.toList.drop i,P (ky x):=λx d=>by
 obtain⟨t,c,rfl⟩:=zY6.mp d;simp at c;have:=h (i+t) (by lia) (by lia);rw[xX (show i+t<a.size by lia)]at this;simpa using this
end
section
variable {prog:Ah}{w:Ak}{A:Al}{E:Ab->Ac->Prop}{s:Ac}{a₀:Array Keyed}
abbrev SG (st:SortSt)(g:Nat):SortSt:=SortSt.mk' (kindOf st) (arrOf st) (pendingOf st) g (failedOf st)
def ifc {β:Type}{c:Prop}[Decidable c]{X Y:StateT SortSt Sem β}{Q:β->SortSt->Prop}{st:SortSt}(a:c->wpS (Ag prog w) A E s X Q st)(hy:¬c->wpS (Ag prog w) A E s Y Q st):wpS (Ag prog w) A E s (if c then X else Y) Q st:=by
 split
 .rename_i h;exact a h
 .rename_i h;exact hy h
def el4 {O b a e d f:Type}{mk:O->SortSt}{F:b->a->e->d->f}{R:b->a->e->d->Prop}{G:f->SortSt->Prop}{c:f}{t:SortSt}(h:(∃g,t=mk g)/\∃p q r u,c=F p q r u/\R p q r u)(k:∀g p q r u,R p q r u->G (F p q r u) (mk g)):G c t:=by
 obtain⟨⟨g,rfl⟩,p,q,r,u,rfl,h⟩:=h;exact k g p q r u h
def el5 {b a e d f g:Type}{t₀:SortSt}{F:b->a->e->d->f->g}{R:b->a->e->d->f->Prop}{G:g->SortSt->Prop}{c:g}{t:SortSt}(h:t=t₀/\∃p q r u v,c=F p q r u v/\R p q r u v)(k:∀p q r u v,R p q r u v->G (F p q r u v) t₀):G c t:=by
 obtain⟨rfl,p,q,r,u,v,rfl,h⟩:=h;exact k p q r u v h
def zz4 {e a d b g i j:Type}{t₀:SortSt}{f:i->Option j}{P:j->Prop}{F:e->a->d->b->g->i}{R:e->a->d->b->g->Prop}{G:i->SortSt->Prop}{c:i}{t:SortSt}(h:t=t₀/\((∃r,f c=some r/\P r)\/∃p q r u v,c=F p q r u v/\R p q r u v))(k₁:∀r,f c=some r->P r->G c t₀)(k:∀p q r u v,R p q r u v->G (F p q r u v) t₀):G c t:=by
 obtain⟨rfl,⟨r,hr,l⟩|⟨p,q,r,u,v,rfl,h⟩⟩:=h
 .exact k₁ r hr l
 .exact k p q r u v h
def el6 {O f a e d i b j:Type}{mk:O->SortSt}{F:f->a->e->d->i->b->j}{R:f->a->e->d->i->b->Prop}{G:j->SortSt->Prop}{c:j}{t:SortSt}(h:(∃g,t=mk g)/\∃p q r u v w,c=F p q r u v w/\R p q r u v w)(k:∀g p q r u v w,R p q r u v w->G (F p q r u v w) (mk g)):G c t:=by
 obtain⟨⟨g,rfl⟩,p,q,r,u,v,w,rfl,h⟩:=h;exact k g p q r u v w h
def zC1 {O i a e d j b l m:Type}{mk:O->SortSt}{f:l->Option m}{P:m->Prop}{F:i->a->e->d->j->b->l}{R:i->a->e->d->j->b->Prop}{G:l->SortSt->Prop}{c:l}{t:SortSt}(h:(∃g,t=mk g)/\((∃r,f c=some r/\P r)\/∃p q r u v w,c=F p q r u v w/\R p q r u v w))(k₁:∀g r,f c=some r->P r->G c (mk g))(k:∀g p q r u v w,R p q r u v w->G (F p q r u v w) (mk g)):G c t:=by
 obtain⟨⟨g,rfl⟩,⟨r,hr,n⟩|⟨p,q,r,u,v,w,rfl,h⟩⟩:=h
 .exact k₁ g r hr n
 .exact k g p q r u v w h
def share {β:Type}{X Y:Nat->StateT SortSt Sem β}{Q:β->SortSt->Prop}{st:SortSt}{P:Nat->Prop}(hb:∀m,P m->wpS (Ag prog w) A E s (Y m) Q st)(ha:∀m,P (m-1)->wpS (Ag prog w) A E s (X m) Q st)(h:∀m,P m)(m:Nat):wpS (Ag prog w) A E s (if m > 1 then X m else Y m) Q st:=by
 split
 .exact ha m (h _)
 .exact hb m (h m)
def qM {β:Type}{c:Prop}[Decidable c]{X Y:Array Keyed->Nat->StateT SortSt Sem β}{Q:β->SortSt->Prop}{st:SortSt}{P a:Array Keyed->Nat->Prop}(R:Array Keyed->Nat->Prop)(e:∀o n,P o n->wpS (Ag prog w) A E s (Y o n) Q st)(hr:∀o n,a o n->¬c->R o n)(key:∀o n,R o n->P o n)(d:∀o n,a o n->c->(∀o n,R o n->P o n)->wpS (Ag prog w) A E s (X o n) Q st):∀o n,a o n->wpS (Ag prog w) A E s (if c then X o n else Y o n) Q st:=by
 intro o n b;split
 .rename_i h;exact d o n b h key
 .rename_i h;exact e o n (key o n (hr o n b h))
def zp2 {st:SortSt}{a b:Array Keyed}{Q:Array Keyed->SortSt->Prop}(hk:kindOf st=oneType')(ia:IntKeys a)(ib:IntKeys b)(R:Up a.toList)(J:Up b.toList)(na:0<a.size)(nb:0<b.size)
  (h1:∀x∈a.toList,ky b[0]<=ky x) (h2:∀y∈b.toList,ky y<=ky a[a.size-1])
  (h:∀r g,Good a.toList b.toList r.toList->Q r (SG st g)):wpS (Ag prog w) A E s (mlo a b) Q st:=by
 have m0:MA a b #[b[0]] 0 1:=by
  have:MA a b #[] 0 0:=⟨zL6 _,zL6 _,by simp,.nil,λx X=>by simp at X⟩;have:=this.pushB J nb (λy hy=>h1 y (by simpa using hy));simpa using this
 refine zK9 (wpS_lift (zT9 ⟨rfl,zK9 (zH (zO8 b 0 nb) ?_)⟩));dsimp only;refine ifc (λc1=>?_) λc1=>?_
 .exact zL5 (h _ (gallopOf st) (m0.finB R c1))
 refine ifc (λc2=>?_) λc2=>?_
 .exact zL5 (h _ (gallopOf st) (m0.finL J c2 na h2))
 refine zK9 (wpS_get ?_);have b1:1<b.size:=by
  have:¬1=b.size:=by simpa using c1
  lia
 have a8:0+1<a.size:=by
  have:¬0+1=a.size:=by simpa using c2
  lia
 refine zK9 (zW1 (zQ9 (I:=λx c st'=>(∃g,st'=SG st g)/\∃out i j mg,c=(none,out,i,j,mg)/\MA a b out i j/\i+1<a.size/\j<b.size/\x+1<=i+j)
  (Q:=λc st'=>(∃g,st'=SG st g)/\∃r,c.1=some r/\Good a.toList b.toList r.toList) ?_ ?_ ⟨⟨_,rfl⟩,_,0,1,_,rfl,m0,a8,b1,by lia⟩) ?_)
 .intro x c st' _ X F;apply el4 (c:=c) (t:=st') F;intro g out i j mg l;have m:=l.1;have hi:=l.2.1;have u:=l.2.2.1;have b0:=l.2.2.2;clear l F c;dsimp only;refine zK9 (zW1 (zQ9 (I:=λx c st'=>st'=SG st g/\∃k e d ac D,c=(none,k,e,d,ac,D)/\MA a b k e d/\e+1<a.size/\d<b.size/\i+j+x<=e+d)
   (Q:=λc st'=>st'=SG st g/\((∃r,c.1=some r/\Good a.toList b.toList r.toList)\/∃k e d ac D,c=(none,k,e,d,ac,D)/\MA a b k e d/\e+1<a.size/\d<b.size/\i+j+1<=e+d)) ?_ ?_ ⟨rfl,out,i,j,0,0,rfl,m,hi,u,by lia⟩) ?_)
  .intro x c st' _ X F;apply el5 (c:=c) (t:=st') F;intro out e d ac D l;have m:=l.1;have hi:=l.2.1;have u:=l.2.2.1;have G:=l.2.2.2;clear l F c;dsimp only;have e1:=zS0 (ye ib u);have e2:=zS0 (ye ia (show e<a.size by lia));have k1:=xX u;have k2:=xX (show e<a.size by lia);refine zK9 (zH (zO8 b d u) (zK9 (zH (zO8 a e (by lia)) (zK9 (lX hk e1 e2 ?_)))));by_cases hw:K b d<K a e
   .rw[zN5 hw];dsimp only;rw[if_pos rfl];refine zK9 (zH (zO8 b d u) ?_);have Z:=m.pushB J u λy hy=>by have:=wm R (show e<a.size by lia) y hy;lia
    refine ifc (λL=>?_) λL=>?_
    .exact zL5 ⟨rfl,.inl ⟨_,rfl,Z.finB R L⟩⟩
    .have v:d+1<b.size:=by
                      have:¬d+1=b.size:=by simpa using L
                      lia
     refine ifc (λY=>?_) λY=>?_
     .exact zL5 ⟨rfl,.inr ⟨_,_,_,_,_,rfl,Z,hi,v,by lia⟩⟩
     .exact zL5 ⟨rfl,_,_,_,_,_,rfl,Z,hi,v,by lia⟩
   .rw[zM2 hw];dsimp only;rw[if_neg (by decide)];refine zK9 (zH (zO8 a e (by lia)) ?_);have Z:=m.pushA R (show e<a.size by lia) λy hy=>by have:=wm J u y hy;lia
    refine ifc (λL=>?_) λL=>?_
    .exact zL5 ⟨rfl,.inl ⟨_,rfl,Z.finL J L na h2⟩⟩
    .have v:e+1+1<a.size:=by
                        have:¬e+1+1=a.size:=by simpa using L
                        lia
     refine ifc (λY=>?_) λY=>?_
     .exact zL5 ⟨rfl,.inr ⟨_,_,_,_,_,rfl,Z,v,u,by lia⟩⟩
     .exact zL5 ⟨rfl,_,_,_,_,_,rfl,Z,v,u,by lia⟩
  .rintro c st' ⟨rfl,out,e,d,ac,D,rfl,m,hi,u,G⟩;exact⟨rfl,.inr ⟨_,_,_,_,_,rfl,m,hi,u,by lia⟩⟩
  intro c st' F;apply zz4 (c:=c) (t:=st') (f:=(·.1)) F
  .intro r hr gd;rw[hr];exact zL5 ⟨⟨g,rfl⟩,r,rfl,gd⟩
  intro out e d ac D l;have m:=l.1;have hi:=l.2.1;have u:=l.2.2.1;have G:=l.2.2.2;clear l F c;dsimp only;refine zK9 (wpS_lift (zT9 ⟨rfl,?_⟩));clear m0;refine zK9 (zW1 (zQ9 (I:=λ_ c st'=>(∃g,st'=SG st g)/\∃k e d mg ac D,c=(none,k,e,d,mg,ac,D)/\MA a b k e d/\e+1<a.size/\d<b.size/\i+j+1<=e+d)
   (Q:=λc st'=>(∃g,st'=SG st g)/\((∃r,c.1=some r/\Good a.toList b.toList r.toList)\/∃k e d mg ac D,c=(none,k,e,d,mg,ac,D)/\MA a b k e d/\e+1<a.size/\d<b.size/\i+j+1<=e+d)) ?_ ?_ ⟨⟨g,rfl⟩,out,e,d,mg+1,ac,D,rfl,m,hi,u,G⟩) ?_)
  .clear m hi u G;intro y c st' _ hy F;apply el6 (c:=c) (t:=st') F;intro g out e d mg ac D l;have m:=l.1;have hi:=l.2.1;have u:=l.2.2.1;have G:=l.2.2.2;clear l F c;dsimp only;have e1:=zS0 (ye ib u);have a1:=xX u
   revert mg
   refine share (λ_ z=>z) (λ_ z=>z) λmg=>zK9 (zY8 ?_);refine zK9 (zH (zO8 b d u) ?_);refine zK9 (ui hk e1 ia (by lia) (by lia) (xH λp q _ N h7=>sv R N (by lia)) λk1 V=>?_);have b2:=V.le;have C:=pE (P:=λz=>ky b[d]<=z) λt N h7=>by rw[<-a1];exact uo V N (by lia)
   have S:=vv (P:=λz=>z<=ky b[d]) λt N h7 _=>by rw[<-a1];exact vX V N h7
   dsimp only;have H0:MA a b out e d/\e+1<a.size/\e+k1<=a.size/\(∀y∈a.toList.drop (e+k1),ky b[d]<=ky y)/\(∀x∈(a.toList.drop e).take k1,ky x<=ky b[d])/\i+j+1<=e+d:=⟨m,hi,by lia,C,S,G⟩;clear m hi G C S V b2
   revert out e H0
   refine qM (λo n=>MA a b o n d/\n+1<a.size/\(∀y∈a.toList.drop n,ky b[d]<=ky y)/\i+j+1<=n+d) (λ_ _ z=>z) ?_ ?_ ?_
   .intro out e H z;have m:=H.1;have hi:=H.2.1;have C:=H.2.2.2.1;have G:=H.2.2.2.2.2;have a6:k1=0:=by lia
    subst a6;exact⟨m,hi,C,G⟩
   .intro W i1 H;have m1:=H.1;have a7:=H.2.1;have C:=H.2.2.1;have b3:=H.2.2.2;have m2:=m1.pushB J u C;refine zK9 (zH (zO8 b d u) ?_);refine ifc (λL=>?_) λL=>?_
    .exact zL5 ⟨⟨_,rfl⟩,.inl ⟨_,rfl,m2.finB R L⟩⟩
    have v:d+1<b.size:=by
     have:¬d+1=b.size:=by simpa using L
     lia
    have B:i1<a.size:=by lia
    have e2:=zS0 (ye ia B);refine zK9 (zH (zO8 a i1 B) ?_);refine zK9 (ui hk e2 ib (by lia) (by lia) (xH λp q _ N h7=>sv J N (by lia)) λk2 T=>?_);have a9:=T.le;have a4:=xX B;have H1:MA a b (W.push b[d]) i1 (d+1)/\d+1<b.size/\d+1+k2<=b.size/\(∀y∈b.toList.drop (d+1+k2),ky a[i1]<=ky y)/\(∀x∈(b.toList.drop (d+1)).take k2,ky x<=ky a[i1])/\i+j+1<=i1+(d+1):=
     ⟨m2,v,by lia,pE λt N h7=>by rw[<-a4];exact uo T N (by lia),vv (P:=λz=>z<=ky a[i1]) λt N h7 _=>by rw[<-a4];exact vX T N h7,by lia⟩
    dsimp only;clear T a9 m2 v L m1 C b3;generalize W.push b[d]=M at H1 ⊢;generalize d+1=j1 at H1 ⊢
    revert M j1 H1
    refine qM (λo n=>MA a b o i1 n/\n<b.size/\(∀y∈b.toList.drop n,ky a[i1]<=ky y)/\i+j+1<=i1+n) (λ_ _ z=>z) ?_ ?_ ?_
    .intro M j1 H z;have m2:=H.1;have v:=H.2.1;have O:=H.2.2.2.1;have a2:=H.2.2.2.2.2;have a3:k2=0:=by lia
     subst a3;exact⟨m2,v,O,a2⟩
    .intro b5 j3 H;have m3:=H.1;have U:=H.2.1;have O:=H.2.2.1;have b6:=H.2.2.2;have m4:=m3.pushA R B O;refine zK9 (zH (zO8 a i1 B) ?_);refine ifc (λd3=>?_) λd3=>?_
     .exact zL5 ⟨⟨_,rfl⟩,.inl ⟨_,rfl,m4.finL J d3 na h2⟩⟩
     have a5:i1+1+1<a.size:=by
      have:¬i1+1+1=a.size:=by simpa using d3
      lia
     have a0:i+j+1<=i1+1+j3:=by lia
     split
     .exact zL5 ⟨⟨_,rfl⟩,.inr ⟨_,_,_,_,_,_,rfl,m4,a5,U,a0⟩⟩
     .exact zL5 ⟨⟨_,rfl⟩,_,_,_,_,_,_,rfl,m4,a5,U,a0⟩
    .intro M j1 H b8 key;have m2:=H.1;have v:=H.2.1;have lk:=H.2.2.1;have O:=H.2.2.2.1;have b4:=H.2.2.2.2.1;have a2:=H.2.2.2.2.2;have m3:=m2.extB J lk λx X y hy=>zX8 (b4 x X) (wm R B y hy);refine ifc (λY=>?_) λY=>?_
     .exact zL5 ⟨⟨_,rfl⟩,.inl ⟨_,rfl,m3.finB R Y⟩⟩
     have U:j1+k2<b.size:=by
      have:¬j1+k2=b.size:=by simpa using Y
      lia
     exact key _ _ ⟨m3,U,O,by lia⟩
   .intro out e H b7 key;have m:=H.1;have hi:=H.2.1;have lk:=H.2.2.1;have C:=H.2.2.2.1;have S:=H.2.2.2.2.1;have G:=H.2.2.2.2.2;have m1:=m.extA R lk λx X y hy=>zX8 (S x X) (wm J u y hy);refine ifc (λd4=>?_) λd4=>?_
    .exact zL5 ⟨⟨_,rfl⟩,.inl ⟨_,rfl,m1.finL J d4 na h2⟩⟩
    refine ifc (λd5=>?_) λd5=>?_
    .exact zL5 ⟨⟨_,rfl⟩,.inl ⟨_,rfl,m1.finA J d5⟩⟩
    have a7:e+k1+1<a.size:=by
     have:¬e+k1+1=a.size:=by simpa using d4
     have:¬e+k1=a.size:=by simpa using d5
     lia
    exact key _ _ ⟨m1,a7,C,by lia⟩
  .rintro c st' ⟨⟨g,rfl⟩,k,e,d,mg,ac,D,rfl,m,hi,u,G⟩;exact⟨⟨g,rfl⟩,.inr ⟨_,_,_,_,_,_,rfl,m,hi,u,G⟩⟩
  .intro c st' F;apply zC1 (c:=c) (t:=st') (f:=(·.1)) F
   .intro g r hr gd;rw[hr];exact zL5 ⟨⟨g,rfl⟩,r,rfl,gd⟩
   .intro g out e d mg ac D l;have m:=l.1;have hi:=l.2.1;have u:=l.2.2.1;have G:=l.2.2.2;clear l F c;dsimp only;exact zK9 (zY8 (zL5 ⟨⟨_,rfl⟩,_,_,_,_,rfl,m,hi,u,by lia⟩))
 .rintro c st' ⟨_,out,i,j,mg,rfl,m,hi,u,b0⟩
  lia
 .rintro c st' ⟨⟨g,rfl⟩,r,hr,gd⟩;rw[hr];exact zL5 (h r g gd)
end
def mhi :Array Keyed->Array Keyed->StateT SortSt Sem (Array Keyed):=sortPriv% PySem.Builtin.mergeHi
structure MJ (a b L:List Keyed)(n m:Nat):Prop where
 na:n<=a.length
 mb:m<=b.length
 pm:L.Perm (a.drop n++b.drop m)
 up:Up L
 le:∀x∈a.take n++b.take m,∀y∈L,ky x<=ky y
section
variable {a b L:List Keyed}{n m k:Nat}
def MJ.doneA (h:MJ a b L 0 m)(c:Up b):Good a b (b.take m++L):=by
 refine⟨(zQ2 _ h.pm).trans ?_,zO4.mpr ⟨c.sublist (zW3 _ _),h.up,λx d y hy=>h.le x (zM4 _ d) y hy⟩⟩;have:(b.take m++(a++b.drop m)).Perm (a++(b.take m++b.drop m)):=by
  rw[<-zN2,<-zN2];exact zX5 _ zT1
 rwa [zN7]at this
def MJ.doneB (h:MJ a b L n 0)(c:Up a):Good a b (a.take n++L):=by
 refine⟨(zQ2 _ h.pm).trans ?_,zO4.mpr ⟨c.sublist (zW3 _ _),h.up,λx d y hy=>h.le x (zO0 _ d) y hy⟩⟩;rw[<-zN2,zN7];exact List.Perm.refl _
def MJ.first (h:MJ a b L n 1)(d:Up a)(hb:0<b.length)(f:∀x∈a,ky b[0]<=ky x):Good a b (b.take 1++a.take n++L):=by
 have e:b.take 1=[b[0]]:=by
  match b,hb with
  |y::ys,_=>rfl
 refine⟨?_,?_⟩
 .refine(zQ2 _ h.pm).trans ?_;have:(b.take 1++a.take n++(a.drop n++b.drop 1)).Perm (a.take n++a.drop n++(b.take 1++b.drop 1)):=by
   rw[zN2 (a.take n)];rw[<-zN2 (a.drop n)];refine(zX5 _ zT1).trans ?_;rw[zN2];refine zQ2 _ ?_;rw[<-zN2];exact zX5 _ zT1
  rwa [zN7,zN7]at this
 .refine zO4.mpr ⟨zO4.mpr ⟨by rw[e];exact z45 _ _,d.sublist (zW3 _ _),λx c y hy=>?_⟩,h.up,λx c y hy=>?_⟩
  .rw[e]at c;rw[zN1.mp c];exact f y (zU2 hy)
  .refine h.le x ?_ y hy;rcases zN6.mp c with c|c
   .exact zM4 _ c
   .exact zO0 _ c
def MJ.preA (h:MJ a b L n m)(l:Up a)(hk:k<=n)(i:∀x∈(a.take n).drop k,∀y∈b.take m,ky y<=ky x):MJ a b ((a.take n).drop k++L) k m:=by
 have j:(a.take n).take k=a.take k:=by rw[z67,z36 hk]
 have sp:a.take n=a.take k++(a.take n).drop k:=by rw[<-j,zN7]
 have f:Up (a.take n):=l.sublist (zW3 _ _);have d:=f;rw[sp]at d;obtain⟨o,e,g⟩:=zO4.mp d;refine⟨zL8 hk h.na,h.mb,?_,zO4.mpr ⟨e,h.up,λx c y hy=>h.le x (zO0 _ (zW0 c)) y hy⟩,λx c y hy=>?_⟩
 .refine(zQ2 _ h.pm).trans ?_;have:a.drop k=(a.take n).drop k++a.drop n:=by
   conv=>lhs;rw[<-zN7 n a]
   rw[List.drop_append_of_le_length (by have:=h.na;rw[zR4];lia)]
  rw[this,zN2]
 .rcases zN6.mp hy with hy|hy
  .rcases zN6.mp c with c|c
   .exact g x c y hy
   .exact i y hy x c
  .refine h.le x ?_ y hy;rcases zN6.mp c with c|c
   .rw[sp];exact zO0 _ (zO0 _ c)
   .exact zM4 _ c
def MJ.preB (h:MJ a b L n m)(e:Up b)(hk:k<=m)(i:∀x∈(b.take m).drop k,∀y∈a.take n,ky y<=ky x):MJ a b ((b.take m).drop k++L) n k:=by
 have j:(b.take m).take k=b.take k:=by rw[z67,z36 hk]
 have sp:b.take m=b.take k++(b.take m).drop k:=by rw[<-j,zN7]
 have d:Up (b.take m):=e.sublist (zW3 _ _);rw[sp]at d;obtain⟨l,f,g⟩:=zO4.mp d;refine⟨h.na,zL8 hk h.mb,?_,zO4.mpr ⟨f,h.up,λx c y hy=>h.le x (zM4 _ (zW0 c)) y hy⟩,λx c y hy=>?_⟩
 .refine(zQ2 _ h.pm).trans ?_;have:b.drop k=(b.take m).drop k++b.drop m:=by
   conv=>lhs;rw[<-zN7 m b]
   rw[List.drop_append_of_le_length (by have:=h.mb;rw[zR4];lia)]
  rw[this,<-zN2,<-zN2];exact zX5 _ zT1
 .rcases zN6.mp hy with hy|hy
  .rcases zN6.mp c with c|c
   .exact i y hy x c
   .exact g x c y hy
  .refine h.le x ?_ y hy;rcases zN6.mp c with c|c
   .exact zO0 _ c
   .rw[sp];exact zM4 _ (zO0 _ c)
end
abbrev MB (a b out:Array Keyed)(n m:Nat):Prop:=MJ a.toList b.toList out.toList.reverse n m
section
variable {a b out:Array Keyed}{n m k:Nat}
def qf (a:Array Keyed)(n:Nat):(a.extract 0 n).toList=a.toList.take n:=by rw[z22,zY7];simp
def wC (a:Array Keyed)(k n:Nat):(a.extract k n).toList=(a.toList.take n).drop k:=by rw[z22,zY7,List.drop_take]
def MB.extA (h:MB a b out n m)(c:Up a.toList)(hk:k<=n)(d:∀x∈(a.toList.take n).drop k,∀y∈b.toList.take m,ky y<=ky x):MB a b (out++(a.extract k n).reverse) k m:=by
 have:=h.preA c hk d;unfold MB
 rwa [zO3,zY9,zZ7,List.reverse_reverse,wC]
def MB.extB (h:MB a b out n m)(c:Up b.toList)(hk:k<=m)(d:∀x∈(b.toList.take m).drop k,∀y∈a.toList.take n,ky y<=ky x):MB a b (out++(b.extract k m).reverse) n k:=by
 have:=h.preB c hk d;unfold MB
 rwa [zO3,zY9,zZ7,List.reverse_reverse,wC]
def rD {a:Array Keyed}{n:Nat}(h:n-1<a.size)(h0:0<n):(a.toList.take n).drop (n-1)=[a[n-1]]:=by
 have:n-(n-1)=1:=by lia
 rw[List.drop_take,this,take1 _ (by simpa using h)];simp
def MB.pushA (h:MB a b out n m)(d:Up a.toList)(h0:0<n)(hn:n-1<a.size)(c:∀y∈b.toList.take m,ky y<=ky a[n-1]):MB a b (out.push a[n-1]) (n-1) m:=by
 have e:=rD hn h0;have:=h.preA (k:=n-1) d (by lia) (by rw[e];intro x f;rw[zN1.mp f];exact c);unfold MB;rw[e]at this
 rwa [zW8,zZ7]
def MB.pushB (h:MB a b out n m)(c:Up b.toList)(h0:0<m)(hm:m-1<b.size)(d:∀y∈a.toList.take n,ky y<=ky b[m-1]):MB a b (out.push b[m-1]) n (m-1):=by
 have e:=rD hm h0;have:=h.preB (k:=m-1) c (by lia) (by rw[e];intro x f;rw[zN1.mp f];exact d);unfold MB;rw[e]at this
 rwa [zW8,zZ7]
def MB.finA (h:MB a b out n m)(c:Up b.toList)(e:(n == 0)=true):Good a.toList b.toList (a.extract 0 n++b.extract 0 m++out.reverse).toList:=by
 have d:n=0:=by simpa using e
 subst d;rw[zO3,zO3,qf,qf,zY9];exact h.doneA c
def MB.finB (h:MB a b out n m)(d:Up a.toList)(e:(m == 0)=true):Good a.toList b.toList (a.extract 0 n++b.extract 0 m++out.reverse).toList:=by
 have c:m=0:=by simpa using e
 subst c;rw[zO3,zO3,qf,qf,zY9,List.take_zero,zP6];exact h.doneB d
def MB.finF (h:MB a b out n m)(d:Up a.toList)(e:(m == 1)=true)(hb:0<b.size)(f:∀x∈a.toList,ky b[0]<=ky x):Good a.toList b.toList (b.extract 0 m++a.extract 0 n++out.reverse).toList:=by
 have c:m=1:=by simpa using e
 subst c;rw[zO3,zO3,qf,qf,zY9];exact h.first d (by simpa using hb) (by simpa using f)
def uc {a:Array Keyed}{P:Int->Prop}{n:Nat}(h:∀t,t<n->t<a.size->P (K a t)):∀x∈a.toList.take n,P (ky x):=λx c=>by
 have:=vv (i:=0) (k:=n) (λt _ e d=>h t (by lia) d) x;exact this (by simpa using c)
def jm {a:Array Keyed}{P:Int->Prop}{k n:Nat}(h:∀t,k<=t->t<n->t<a.size->P (K a t)):∀x∈(a.toList.take n).drop k,P (ky x):=λx c=>by
 rw[List.drop_take]at c;exact vv (λt h0 e d=>h t h0 (by lia) d) x c
def vE {a:Array Keyed}(u:Up a.toList){n:Nat}(hn:n-1<a.size):∀y∈a.toList.take n,ky y<=ky a[n-1]:=by
 rw[<-xX hn];exact uc (P:=λz=>z<=K a (n-1)) λt c d=>sv u (by lia) hn
end
section
variable {prog:Ah}{w:Ak}{A:Al}{E:Ab->Ac->Prop}{s:Ac}{a₀:Array Keyed}
def zu5 {st:SortSt}{a b:Array Keyed}{Q:Array Keyed->SortSt->Prop}(hk:kindOf st=oneType')(ia:IntKeys a)(ib:IntKeys b)(J:Up a.toList)(S:Up b.toList)(na:0<a.size)(nb:0<b.size)
  (h1:∀x∈a.toList,ky b[0]<=ky x) (h2:∀y∈b.toList,ky y<=ky a[a.size-1])
  (h:∀r g,Good a.toList b.toList r.toList->Q r (SG st g)):wpS (Ag prog w) A E s (mhi a b) Q st:=by
 have m0:MB a b #[a[a.size-1]] (a.size-1) b.size:=by
  have:MB a b #[] a.size b.size:=⟨by simp,by simp,by simp,.nil,λx hx y hy=>by simp at hy⟩;have:=this.pushA J na (by lia) (λy hy=>h2 y (zU2 hy));simpa using this
 refine zK9 (wpS_lift (zT9 ⟨rfl,zK9 (zH (zO8 a (a.size-1) (by lia)) ?_)⟩));dsimp only;refine ifc (λc1=>?_) λc1=>?_
 .exact zL5 (h _ (gallopOf st) (m0.finA S c1))
 refine ifc (λc2=>?_) λc2=>?_
 .exact zL5 (h _ (gallopOf st) (m0.finF J c2 nb h1))
 refine zK9 (wpS_get ?_);have b0:0<a.size-1:=by
  have:¬a.size-1=0:=by simpa using c1
  lia
 have a7:1<b.size:=by
  have:¬b.size=1:=by simpa using c2
  lia
 refine zK9 (zW1 (zQ9 (I:=λx c st'=>(∃g,st'=SG st g)/\∃out n m mg,c=(none,n,m,out,mg)/\MB a b out n m/\0<n/\1<m/\n<a.size/\m<=b.size/\x+1+n+m<=a.size+b.size)
  (Q:=λc st'=>(∃g,st'=SG st g)/\∃r,c.1=some r/\Good a.toList b.toList r.toList) ?_ ?_ ⟨⟨_,rfl⟩,_,_,_,_,rfl,m0,b0,a7,by lia,by lia,by lia⟩) ?_)
 .clear m0;intro x c st' _ hx F;apply el4 (c:=c) (t:=st') F;intro g out n m mg i;have m0:=i.1;have hn:=i.2.1;have hm:=i.2.2.1;have a0:=i.2.2.2.1;have v:=i.2.2.2.2.1;have a9:=i.2.2.2.2.2;clear i F c;dsimp only;refine zK9 (zW1 (zQ9 (I:=λx c st'=>st'=SG st g/\∃j e d ac D,c=(none,e,d,j,ac,D)/\MB a b j e d/\0<e/\1<d/\e<a.size/\d<=b.size/\x+e+d<=n+m)
   (Q:=λc st'=>st'=SG st g/\((∃r,c.1=some r/\Good a.toList b.toList r.toList)\/∃j e d ac D,c=(none,e,d,j,ac,D)/\MB a b j e d/\0<e/\1<d/\e<a.size/\d<=b.size/\1+e+d<=n+m)) ?_ ?_ ⟨rfl,out,n,m,0,0,rfl,m0,hn,hm,a0,v,by lia⟩) ?_)
  .clear m0 a0 v hn hm;intro x c st' _ hx F;apply el5 (c:=c) (t:=st') F;intro out e d ac D i;have m0:=i.1;have hn:=i.2.1;have hm:=i.2.2.1;have k:=i.2.2.2.1;have u:=i.2.2.2.2.1;have C:=i.2.2.2.2.2;clear i F c;dsimp only;have hj:d-1<b.size:=by lia
   have hi:e-1<a.size:=by lia
   have e1:=zS0 (ye ib hj);have e2:=zS0 (ye ia hi);have k1:=xX hj;have k2:=xX hi;refine zK9 (zH (zO8 b _ hj) (zK9 (zH (zO8 a _ hi) (zK9 (lX hk e1 e2 ?_)))));by_cases hw:K b (d-1)<K a (e-1)
   .rw[zN5 hw];dsimp only;rw[if_pos rfl];refine zK9 (zH (zO8 a _ hi) ?_);have m1:=m0.pushA J hn hi λy hy=>by have:=vE S hj y hy;lia
    refine ifc (λL=>?_) λL=>?_
    .exact zL5 ⟨rfl,.inl ⟨_,rfl,m1.finA S L⟩⟩
    .have l:0<e-1:=by
                   have:¬e-1=0:=by simpa using L
                   lia
     refine ifc (λd2=>?_) λd2=>?_
     .exact zL5 ⟨rfl,.inr ⟨_,_,_,_,_,rfl,m1,l,hm,by lia,u,by lia⟩⟩
     .exact zL5 ⟨rfl,_,_,_,_,_,rfl,m1,l,hm,by lia,u,by lia⟩
   .rw[zM2 hw];dsimp only;rw[if_neg (by decide)];refine zK9 (zH (zO8 b _ hj) ?_);have m1:=m0.pushB S (by lia) hj λy hy=>by have:=vE J hi y hy;lia
    refine ifc (λL=>?_) λL=>?_
    .exact zL5 ⟨rfl,.inl ⟨_,rfl,m1.finF J L nb h1⟩⟩
    .have l:1<d-1:=by
                   have:¬d-1=1:=by simpa using L
                   lia
     refine ifc (λd2=>?_) λd2=>?_
     .exact zL5 ⟨rfl,.inr ⟨_,_,_,_,_,rfl,m1,hn,l,by lia,by lia,by lia⟩⟩
     .exact zL5 ⟨rfl,_,_,_,_,_,rfl,m1,hn,l,by lia,by lia,by lia⟩
  .rintro c st' ⟨rfl,out,e,d,ac,D,rfl,m0,hn,hm,k,u,C⟩;exact⟨rfl,.inr ⟨_,_,_,_,_,rfl,m0,hn,hm,k,u,by lia⟩⟩
  intro c st' F;apply zz4 (c:=c) (t:=st') (f:=(·.1)) F
  .intro r hr gd;rw[hr];exact zL5 ⟨⟨g,rfl⟩,r,rfl,gd⟩
  intro out e d ac D i;have m0:=i.1;have hn:=i.2.1;have hm:=i.2.2.1;have k:=i.2.2.2.1;have u:=i.2.2.2.2.1;have C:=i.2.2.2.2.2;clear i F c;dsimp only;refine zK9 (wpS_lift (zT9 ⟨rfl,?_⟩));refine zK9 (zW1 (zQ9 (I:=λ_ c st'=>(∃g,st'=SG st g)/\∃j e d mg ac D,c=(none,e,d,j,mg,ac,D)/\MB a b j e d/\0<e/\1<d/\e<a.size/\d<=b.size/\1+e+d<=n+m)
   (Q:=λc st'=>(∃g,st'=SG st g)/\((∃r,c.1=some r/\Good a.toList b.toList r.toList)\/∃j e d mg ac D,c=(none,e,d,j,mg,ac,D)/\MB a b j e d/\0<e/\1<d/\e<a.size/\d<=b.size/\1+e+d<=n+m)) ?_ ?_ ⟨⟨g,rfl⟩,out,e,d,mg+1,ac,D,rfl,m0,hn,hm,k,u,C⟩) ?_)
  .clear m0 hn hm k u C a0 v;intro y c st' _ hy F;apply el6 (c:=c) (t:=st') F;intro g out e d mg ac D i;have m0:=i.1;have hn:=i.2.1;have hm:=i.2.2.1;have k:=i.2.2.2.1;have u:=i.2.2.2.2.1;have C:=i.2.2.2.2.2;clear i F c;dsimp only;have v:d-1<b.size:=by lia
   have e1:=zS0 (ye ib v);have a2:=xX v
   revert mg
   refine share (λ_ z=>z) (λ_ z=>z) λmg=>zK9 (zY8 ?_);refine zK9 (zH (zO8 b (d-1) v) ?_);refine zK9 (ui hk e1 ia (by lia) (by lia) (xH λp q _ Z h7=>sv J Z (by lia)) λk1 X=>?_);have O:=X.le;dsimp only;generalize W:e-k1=ac1;have H0:MB a b out e d/\0<e/\e<a.size/\(k1<=e/\e-k1=ac1)/\(∀y∈a.toList.take k1,ky y<=ky b[d-1])/\(∀x∈(a.toList.take e).drop k1,ky b[d-1]<=ky x)/\1+e+d<=n+m:=
    ⟨m0,hn,k,⟨O,W⟩,uc (P:=λz=>z<=ky b[d-1]) λt Z h7=>by rw[<-a2];exact vX X (by lia) (by lia),jm λt Z h7 _=>by rw[<-a2];exact uo X (by lia) (by lia),C⟩
   clear m0 hn k C X O W
   revert out e H0
   refine qM (λo n1=>MB a b o n1 d/\0<n1/\n1<a.size/\(∀y∈a.toList.take n1,ky y<=ky b[d-1])/\1+n1+d<=n+m) (λ_ _ z=>z) ?_ ?_ ?_
   .intro out e H z;have m0:=H.1;have hn:=H.2.1;have k:=H.2.2.1;have O:=H.2.2.2.1.1;have W:=H.2.2.2.1.2;have G:=H.2.2.2.2.1;have C:=H.2.2.2.2.2.2;clear H;have a6:k1=e:=by lia
    subst a6;exact⟨m0,hn,k,G,C⟩
   .intro Y n1 H;have m1:=H.1;have hn:=H.2.1;have k:=H.2.2.1;have G:=H.2.2.2.1;have C:=H.2.2.2.2;clear H;have m2:=m1.pushB S (by lia) v G;refine zK9 (zH (zO8 b (d-1) v) ?_);refine ifc (λL=>?_) λL=>?_
    .exact zL5 ⟨⟨_,rfl⟩,.inl ⟨_,rfl,m2.finF J L nb h1⟩⟩
    have l:1<d-1:=by
     have:¬d-1=1:=by simpa using L
     lia
    have B:n1-1<a.size:=by lia
    have e2:=zS0 (ye ia B);refine zK9 (zH (zO8 a (n1-1) B) ?_);refine zK9 (ui hk e2 ib (by lia) (by lia) (xH λp q _ Z h7=>sv S Z (by lia)) λk2 U=>?_);have M:=U.le;have a4:=xX B;dsimp only;generalize T:d-1-k2=bc1;have H1:MB a b (Y.push b[d-1]) n1 (d-1)/\1<d-1/\d-1<=b.size/\(k2<=d-1/\d-1-k2=bc1)/\(∀y∈b.toList.take k2,ky y<=ky a[n1-1])/\(∀x∈(b.toList.take (d-1)).drop k2,ky a[n1-1]<=ky x)/\1+n1+(d-1)<=n+m:=
     ⟨m2,l,by lia,⟨M,T⟩,uc (P:=λz=>z<=ky a[n1-1]) λt Z h7=>by rw[<-a4];exact vX U (by lia) (by lia),jm λt Z h7 _=>by rw[<-a4];exact uo U (by lia) (by lia),by lia⟩
    clear U M m2 l L m1 G C T;generalize Y.push b[d-1]=N at H1 ⊢;generalize d-1=m2 at H1 ⊢
    revert N m2 H1
    refine qM (λo n2=>MB a b o n1 n2/\1<n2/\n2<=b.size/\(∀y∈b.toList.take n2,ky y<=ky a[n1-1])/\1+n1+n2<=n+m) (λ_ _ z=>z) ?_ ?_ ?_
    .intro N m2 H z;have mm:=H.1;have l:=H.2.1;have lb:=H.2.2.1;have M:=H.2.2.2.1.1;have T:=H.2.2.2.1.2;have R:=H.2.2.2.2.1;have C:=H.2.2.2.2.2.2;clear H;have a3:k2=m2:=by lia
     subst a3;exact⟨mm,l,lb,R,C⟩
    .intro b3 m3 H;have mm:=H.1;have V:=H.2.1;have lb:=H.2.2.1;have R:=H.2.2.2.1;have C:=H.2.2.2.2;clear H;have m4:=mm.pushA J (by lia) B R;refine zK9 (zH (zO8 a (n1-1) B) ?_);refine ifc (λd3=>?_) λd3=>?_
     .exact zL5 ⟨⟨_,rfl⟩,.inl ⟨_,rfl,m4.finA S d3⟩⟩
     have a5:0<n1-1:=by
      have:¬n1-1=0:=by simpa using d3
      lia
     have a1:1+(n1-1)+m3<=n+m:=by lia
     split
     .exact zL5 ⟨⟨_,rfl⟩,.inr ⟨_,_,_,_,_,_,rfl,m4,a5,V,by lia,lb,a1⟩⟩
     .exact zL5 ⟨⟨_,rfl⟩,_,_,_,_,_,_,rfl,m4,a5,V,by lia,lb,a1⟩
    .intro N m2 H b5 key;have mm:=H.1;have l:=H.2.1;have lb:=H.2.2.1;have M:=H.2.2.2.1.1;have T:=H.2.2.2.1.2;have R:=H.2.2.2.2.1;have b1:=H.2.2.2.2.2.1;have C:=H.2.2.2.2.2.2;clear H;have m3:=mm.extB S M λx hx y hy=>zX8 (vE J B y hy) (b1 x hx);refine ifc (λd2=>?_) λd2=>?_
     .exact zL5 ⟨⟨_,rfl⟩,.inl ⟨_,rfl,m3.finF J d2 nb h1⟩⟩
     refine ifc (λd5=>?_) λd5=>?_
     .exact zL5 ⟨⟨_,rfl⟩,.inl ⟨_,rfl,m3.finB J d5⟩⟩
     have V:1<k2:=by
      have:¬k2=1:=by simpa using d2
      have:¬k2=0:=by simpa using d5
      lia
     exact key _ _ ⟨m3,V,by lia,R,by lia⟩
   .intro out e H b4 key;have m0:=H.1;have hn:=H.2.1;have k:=H.2.2.1;have O:=H.2.2.2.1.1;have W:=H.2.2.2.1.2;have G:=H.2.2.2.2.1;have a8:=H.2.2.2.2.2.1;have C:=H.2.2.2.2.2.2;clear H;have m1:=m0.extA J O λx hx y hy=>zX8 (vE S v y hy) (a8 x hx);refine ifc (λd4=>?_) λd4=>?_
    .exact zL5 ⟨⟨_,rfl⟩,.inl ⟨_,rfl,m1.finA S d4⟩⟩
    have b2:0<k1:=by
     have:¬k1=0:=by simpa using d4
     lia
    exact key _ _ ⟨m1,b2,by lia,G,by lia⟩
  .rintro c st' ⟨⟨g,rfl⟩,j,e,d,mg,ac,D,rfl,m0,r⟩;exact⟨⟨g,rfl⟩,.inr ⟨_,_,_,_,_,_,rfl,m0,r⟩⟩
  .intro c st' F;apply zC1 (c:=c) (t:=st') (f:=(·.1)) F
   .intro g r hr gd;rw[hr];exact zL5 ⟨⟨g,rfl⟩,r,rfl,gd⟩
   .intro g out e d mg ac D i;have m0:=i.1;have hn:=i.2.1;have hm:=i.2.2.1;have k:=i.2.2.2.1;have u:=i.2.2.2.2.1;have C:=i.2.2.2.2.2;clear i F c;dsimp only;exact zK9 (zY8 (zL5 ⟨⟨_,rfl⟩,_,_,_,_,rfl,m0,hn,hm,k,u,by lia⟩))
 .rintro c st' ⟨_,out,n,m,mg,rfl,m0,hn,hm,_,_,a9⟩
  lia
 .rintro c st' ⟨⟨g,rfl⟩,r,hr,gd⟩;rw[hr];exact zL5 (h r g gd)
end
def zM (xs:Array Keyed)(l u:Nat):Prop:=∀i j,l<=i->i<=j->j<u->K xs i<=K xs j
def zc5 {M:Model}{A:Al}{E:Ab->Ac->Prop}{s:Ac}{σ:Type}{x:σ}{Q:PUnit->σ->Prop}{st:σ}(h:Q ⟨⟩ x):wpS M A E s (set x:StateT σ Sem PUnit) Q st:=by unfold wpS;rw[StateT.run_set];exact zK2 ⟨rfl,h⟩
theorem zd8 (o:Nat):∀(M:List Keyed) (k:Nat) (P Z S:List Keyed) (arr:Array Keyed),arr.toList=P++Z++S->P.length=o+k->Z.length=M.length->
  ((M.zipIdx k).foldl (λa (d:Keyed×Nat)=>a.setIfInBounds (o+d.2) d.1) arr).toList=P++M++S
 |[],k,P,Z,S,arr,h,_,b=>by
  have:Z=[]:=zZ8.mp b;subst this;exact h
 |p::M,k,P,[],S,arr,h,c,b=>by cases b
 |p::M,k,P,z::Z,S,arr,h,c,b=>by
  rw[List.zipIdx_cons,List.foldl_cons];have:=zd8 o M (k+1) (P++[p]) Z S (arr.setIfInBounds (o+k) p) (by
   rw[Array.toList_setIfInBounds,h,<-c];simp) (by simp;lia) (by simpa using b)
  rw[this];simp
def vg {xs ys:Array Keyed}(h:IntKeys ys)(b:∀p∈xs.toList,p∈ys.toList):IntKeys xs:=λp a=>h p (b p a)
def lA (xs:Array Keyed)(P M S:List Keyed)(e:xs.toList=P++M++S){t:Nat}(h:t<M.length):K xs (P.length+t)=ky M[t]:=by
 have a:P.length+t<xs.size:=by
  have:=congrArg List.length e;simp at this;lia
 rw[xX a];have:xs[P.length+t]=xs.toList[P.length+t]'(by simpa using a):=by simp
 rw[this];simp only[e];rw[List.getElem_append_left (by simp;lia),List.getElem_append_right (by lia)];simp
def zy8 {xs ys:Array Keyed}{P M Z S:List Keyed}(e:xs.toList=P++M++S)(f:ys.toList=P++Z++S)(a:M.length=Z.length){t:Nat}(h:t<P.length\/P.length+M.length<=t):K xs t=K ys t:=by
 refine K_congr ?_;rw[<-zY3,<-zY3,e,f];rcases h with h|h
 .rw[zN2,zN2,zN4 h,zN4 h]
 .rw[zN9 (by simp;lia),zN9 (by simp;lia)];simp only[zM8,a]
section
variable {prog:Ah}{w:Ak}{A:Al}{E:Ab->Ac->Prop}{s:Ac}
def eJ {xs:Array Keyed}{l u:Nat}(h:zM xs l u)(c:u<=xs.size):Up (xs.extract l u).toList:=by
 refine zS8.mpr λi j hi b a=>?_;simp at hi b;have:=h (l+i) (l+j) (by lia) (by lia) (by lia);rw[xX (show l+i<xs.size by lia),xX (show l+j<xs.size by lia)]at this;simpa using this
def ext_mem {xs:Array Keyed}{l u:Nat}(b:u<=xs.size){e:Keyed}(h:e∈(xs.extract l u).toList):∃t,l<=t/\t<u/\ky e=K xs t:=by
 obtain⟨t,a,rfl⟩:=zY6.mp h;simp at a;refine⟨l+t,by lia,by lia,?_⟩;rw[xX (show l+t<xs.size by lia)];simp
def gc {xs:Array Keyed}{l u t:Nat}(a:u<=xs.size)(h:t<(xs.extract l u).size):ky (xs.extract l u)[t]=K xs (l+t):=by
 have h':l+t<xs.size:=by simp at h;lia
 rw[xX h'];simp
def mL {st:SortSt}{i sa na pw sb nb C:Nat}{Q:Bool->SortSt->Prop}(hk:kindOf st=oneType')(hf:failedOf st=none)(B:IntKeys (arrOf st))
  (e1:(pendingOf st)[i]?=some (sa,na,pw)) (e2:(pendingOf st)[i+1]?=some (sb,nb,C)) (a5:sa+na=sb) (O:0<na) (a6:0<nb) (a4:sb+nb<=(arrOf st).size)
  (y:zM (arrOf st) sa sb) (x:zM (arrOf st) sb (sb+nb))
  (h:∀b g,b.Perm (arrOf st)->(∀t,t<sa\/sb+nb<=t->K b t=K (arrOf st) t)->zM b sa (sb+nb)->
   Q true (SortSt.mk' (kindOf st) b (((pendingOf st).setIfInBounds i (sa,na+nb,pw)).eraseIdxIfInBounds (i+1)) g (failedOf st))):
  wpS (Ag prog w) A E s (mergeAt' i) Q st:=by
 refine zK9 (wpS_get ?_);rw[show(pendingOf st)[i]?=some (sa,na,pw)from e1];rw[show(pendingOf st)[i+1]?=some (sb,nb,C)from e2];dsimp only;refine zK9 (zc5 ?_);have n:∀p,kindOf (setPending st p)=oneType':=λ_=>hk;have G:sb<(arrOf st).size:=by lia
 obtain⟨t1,f1⟩:=ye B G;refine zK9 (zH (zO8 (arrOf st) sb G) ?_);refine zK9 (ui (n _) f1 B (show sa+na<=(arrOf st).size by lia) O (xH λp q c j o=>y p q c j (by lia)) λk ct=>?_);dsimp only;have v:∀t,sa<=t->t<sa+k->∀q,sb<=q->q<sb+nb->K (arrOf st) t<=K (arrOf st) q:=λt d f q c j=>zX8 (vX ct d f) (x sb q (by lia) c j);have z:∀t,sa+k<=t->t<sb->K (arrOf st) sb<=K (arrOf st) t:=λt d f=>uo ct d (by lia);by_cases V:(na-k == 0)=true
 .rw[if_pos V];refine zL5 (h (arrOf st) (gallopOf st) (zU7 _) (λ_ _=>rfl) λp q d f c=>?_);by_cases L:q<sb
  .exact y p q d f L
  .by_cases N:p<sb
   .exact v p d (by lia) q (by lia) c
   .exact x p q (by lia) f c
 rw[if_neg V];have a0:k<na:=by
  have:¬na-k=0:=by simpa using V
  lia
 have J:sa+k+(na-k)-1<(arrOf st).size:=by lia
 obtain⟨t2,f2⟩:=ye B J;refine zK9 (zH (zO8 (arrOf st) _ J) ?_);refine zK9 (ui (n _) f2 B (show sb+nb<=(arrOf st).size by lia) (by lia) (xH λp q c j o=>x p q c j (by lia)) λn2 m=>?_);have Y:=m.le;have P:sa+k+(na-k)-1=sb-1:=by lia
 rw[P]at m;dsimp only;have F:∀t,sb<=t->t<sb+n2->K (arrOf st) t<=K (arrOf st) (sb-1):=λt d f=>vX m d f;have l:∀q,sb+n2<=q->q<sb+nb->∀t,sa<=t->t<sb->K (arrOf st) t<=K (arrOf st) q:=λq c j t d f=>zX8 (y t (sb-1) d (by lia) (by lia)) (uo m c j);by_cases M:(n2 == 0)=true
 .rw[if_pos M];refine zL5 (h (arrOf st) (gallopOf st) (zU7 _) (λ_ _=>rfl) λp q d f c=>?_);by_cases L:q<sb
  .exact y p q d f L
  .by_cases N:p<sb
   .exact l q (by lia) c p d N
   .exact x p q (by lia) f c
 rw[if_neg M];have a3:0<n2:=by
  have:¬n2=0:=by simpa using M
  lia
 have W:IntKeys ((arrOf st).extract (sa+k) sb):=vg B λp H=>by
  rw[wC]at H;exact zU2 (zW0 H)
 have iy:IntKeys ((arrOf st).extract sb (sb+n2)):=vg B λp H=>by
  rw[wC]at H;exact zU2 (zW0 H)
 have Z:Up ((arrOf st).extract (sa+k) sb).toList:=eJ (λp q d f c=>y p q (by lia) f c) (by lia);have uy:Up ((arrOf st).extract sb (sb+n2)).toList:=eJ (λp q d f c=>x p q d f (by lia)) (by lia);have sx:((arrOf st).extract (sa+k) sb).size=na-k:=by simp;lia
 have sy:((arrOf st).extract sb (sb+n2)).size=n2:=by simp;lia
 have px:0<((arrOf st).extract (sa+k) sb).size:=by lia
 have py:0<((arrOf st).extract sb (sb+n2)).size:=by lia
 have q1:∀e∈((arrOf st).extract (sa+k) sb).toList,ky (((arrOf st).extract sb (sb+n2))[0]'(by lia))<=ky e:=λe he=>by
  obtain⟨t,d,f,c⟩:=ext_mem (by lia) he;rw[c,gc (by lia)];exact z t d f
 have q2:∀e∈((arrOf st).extract sb (sb+n2)).toList,ky e<=ky (((arrOf st).extract (sa+k) sb)[((arrOf st).extract (sa+k) sb).size-1]'(by lia)):=λe he=>by
  obtain⟨t,d,f,c⟩:=ext_mem (by lia) he;rw[c,gc (by lia),sx,show sa+k+(na-k-1)=sb-1 by lia];exact F t d f
 have fin:∀{st':SortSt} (r:Array Keyed) (g:Nat),Good ((arrOf st).extract (sa+k) sb).toList ((arrOf st).extract sb (sb+n2)).toList r.toList->
   ∃b:Array Keyed,(r.toList.zipIdx.foldl (λa D=>a.setIfInBounds (sa+k+D.2) D.1) (arrOf st))=b/\b.Perm (arrOf st)/\(∀t,t<sa\/sb+nb<=t->K b t=K (arrOf st) t)/\zM b sa (sb+nb):=λ{st'} r g gd=>by
  refine⟨_,rfl,?_⟩;have lr:r.toList.length=na-k+n2:=by rw[gd.pm.length_eq,zM8,zR6,zR6,sx,sy]
  have sp:(arrOf st).toList=(arrOf st).toList.take (sa+k)++(((arrOf st).extract (sa+k) sb).toList++((arrOf st).extract sb (sb+n2)).toList)++(arrOf st).toList.drop (sb+n2):=by
   rw[wC,wC];have a1:(arrOf st).toList.take (sa+k)++((arrOf st).toList.take sb).drop (sa+k)=(arrOf st).toList.take sb:=by
    have:=zN7 (sa+k) ((arrOf st).toList.take sb)
    rwa [z67,z36 (by lia)]at this
   have a2:(arrOf st).toList.take sb++((arrOf st).toList.take (sb+n2)).drop sb=(arrOf st).toList.take (sb+n2):=by
    have:=zN7 sb ((arrOf st).toList.take (sb+n2))
    rwa [z67,z36 (by lia)]at this
   rw[<-zN2,a1,a2,zN7]
  have I:((arrOf st).toList.take (sa+k)).length=sa+k:=by simp;lia
  have lZ:(((arrOf st).extract (sa+k) sb).toList++((arrOf st).extract sb (sb+n2)).toList).length=r.toList.length:=by rw[gd.pm.length_eq]
  have wr:=zd8 (sa+k) r.toList 0 _ _ _ (arrOf st) sp (by rw[I];rfl) lZ;generalize r.toList.zipIdx.foldl (λa D=>a.setIfInBounds (sa+k+D.2) D.1) (arrOf st)=b at wr;have u:∀t,t<sa+k\/sb+n2<=t->K b t=K (arrOf st) t:=λt ht=>zy8 wr sp lZ.symm (by rw[I];lia);have X:∀t,sa+k<=t->t<sb+n2->∃q,sa+k<=q/\q<sb+n2/\K b t=K (arrOf st) q:=λt d f=>by
   have:=lA b _ _ _ wr (t:=t-(sa+k)) (by lia);rw[I,show sa+k+(t-(sa+k))=t by lia]at this;have hm:=gd.pm.mem_iff.mp (zX2 (show t-(sa+k)<r.toList.length by lia));rcases zN6.mp hm with hm|hm
   .obtain⟨q,c,j,o⟩:=ext_mem (by lia) hm;exact⟨q,c,by lia,by rw[this];exact o⟩
   .obtain⟨q,c,j,o⟩:=ext_mem (by lia) hm;exact⟨q,by lia,j,by rw[this];exact o⟩
  refine⟨?_,λt ht=>u t (by lia),λp q d f c=>?_⟩
  .rw[z24,wr];exact List.Perm.trans (zX5 _ (zQ2 _ gd.pm)) (List.Perm.of_eq sp.symm)
  .by_cases L:q<sa+k
   .rw[u p (by lia),u q (by lia)];exact y p q d f (by lia)
   by_cases N:sb+n2<=p
   .rw[u p (by lia),u q (by lia)];exact x p q (by lia) f c
   by_cases c3:p<sa+k
   .rw[u p (by lia)];have g1:∀t,sa+k<=t->t<sb+nb->K (arrOf st) p<=K (arrOf st) t:=λt j o=>by
     by_cases R:t<sb
     .exact y p t d (by lia) R
     .exact v p d c3 t (by lia) o
    by_cases c5:sb+n2<=q
    .rw[u q (by lia)];exact g1 q (by lia) c
    .obtain⟨t,j,o,U⟩:=X q (by lia) (by lia);rw[U];exact g1 t j (by lia)
   .by_cases c5:sb+n2<=q
    .rw[u q (by lia)];obtain⟨t,j,o,U⟩:=X p (by lia) (by lia);rw[U];by_cases R:t<sb
     .exact l q c5 c t (by lia) R
     .exact x t q (by lia) (by lia) c
    .have r1:=lA b _ _ _ wr (t:=p-(sa+k)) (by lia);have r2:=lA b _ _ _ wr (t:=q-(sa+k)) (by lia);rw[I,show sa+k+(p-(sa+k))=p by lia]at r1;rw[I,show sa+k+(q-(sa+k))=q by lia]at r2;rw[r1,r2];by_cases c6:p=q
     .subst c6;exact zT7 _
     .exact zS8.mp gd.up _ _ _ _ (by lia)
 split
 .refine zK9 (zp2 (n _) W iy Z uy px py q1 q2 λr g gd=>?_);obtain⟨b,T,g1,g2,g3⟩:=fin (st':=st) r g gd;refine zK9 (zY8 (zK9 (wpS_get (zL5 ?_))));have:=h b g g1 g2 g3;subst T;have S:(failedOf st).isNone=true:=by rw[hf];rfl
  rw[<-S]at this;exact this
 .refine zK9 (zu5 (n _) W iy Z uy px py q1 q2 λr g gd=>?_);obtain⟨b,T,g1,g2,g3⟩:=fin (st':=st) r g gd;refine zK9 (zY8 (zK9 (wpS_get (zL5 ?_))));have:=h b g g1 g2 g3;subst T;have S:(failedOf st).isNone=true:=by rw[hf];rfl
  rw[<-S]at this;exact this
end
def wa (xs:Array Keyed)(l u:Nat):Prop:=∀i j,l<=i->i<=j->j<u->K xs j<=K xs i
structure zr (lo:Nat)(xs ys:Array Keyed):Prop where
 perm:xs.Perm ys
 low:∀t,t<lo->K xs t=K ys t
def zr.refl (lo:Nat)(xs:Array Keyed):zr lo xs xs:=⟨zU7 _,λ_ _=>rfl⟩
theorem zr.trans {lo:Nat}{xs ys zs:Array Keyed}(h:zr lo xs ys)(g:zr lo ys zs):zr lo xs zs:=⟨h.perm.trans g.perm,λt a=>(h.low t a).trans (g.low t a)⟩
theorem zr.mirror {lo i j:Nat}{xs:Array Keyed}(hi:lo<=i)(a:j<=xs.size):zr lo (PyProof.Rows.mirror xs i j ((j-i) / 2)) xs:=⟨mirror_perm _ _ _ _,λt b=>by rw[K_mirror a,if_neg (by lia)]⟩
def yc {xs ys:Array Keyed}(h:IntKeys ys)(a:xs.Perm ys):IntKeys xs:=vg h λp=>(z24.mp a).mem_iff.mp
def zM.more {xs:Array Keyed}{lo n:Nat}(h:zM xs lo (lo+n))(f:1<=n)(hn:¬K xs (lo+n)<K xs (lo+n-1)):zM xs lo (lo+(n+1)):=λi j a b e=>by
 by_cases c:j<lo+n
 .exact h i j a b c
 .have:j=lo+n:=by lia
  subst this;by_cases d:i=lo+n
  .subst d;exact zT7 _
  .exact zX8 (h i (lo+n-1) a (by lia) (by lia)) (Int.not_lt.mp hn)
def wa.more {xs:Array Keyed}{lo n:Nat}(h:wa xs lo (lo+n))(f:1<=n)(hn:K xs (lo+n)<=K xs (lo+n-1)):wa xs lo (lo+(n+1)):=λi j a b e=>by
 by_cases c:j<lo+n
 .exact h i j a b c
 .have:j=lo+n:=by lia
  subst this;by_cases d:i=lo+n
  .subst d;exact zT7 _
  .exact zX8 hn (h i (lo+n-1) a (by lia) (by lia))
def wa.flip {xs:Array Keyed}{lo n:Nat}(h:wa xs lo (lo+n))(hn:lo+n<=xs.size):zM (PyProof.Rows.mirror xs lo (lo+n) ((lo+n-lo) / 2)) lo (lo+n):=λi j c b a=>by
 rw[K_mirror hn,K_mirror hn,if_pos (by lia),if_pos (by lia)];exact h _ _ (by lia) (by lia) (by lia)
section
variable {prog:Ah}{w:Ak}{A:Al}{E:Ab->Ac->Prop}{s:Ac}
def ltK {st:SortSt}{i j:Nat}{Q:Option Bool->SortSt->Prop}(hk:kindOf st=oneType')(a:IntKeys (arrOf st))(hi:i<(arrOf st).size)(b:j<(arrOf st).size)
  (h:Q (some (decide (K (arrOf st) i<K (arrOf st) j))) st):wpS (Ag prog w) A E s (ltAt' i j) Q st:=by
 obtain⟨t,e1⟩:=ye a hi;obtain⟨u,c⟩:=ye a b;have f1:(arrOf st)[i]?=some (.int (K (arrOf st) i) t,(arrOf st)[i].2):=by rw[zO8 (arrOf st) i hi,<-e1]
 have f2:(arrOf st)[j]?=some (.int (K (arrOf st) j) u,(arrOf st)[j].2):=by rw[zO8 (arrOf st) j b,<-c]
 exact wpS_ltAt hk f1 f2 h
def vT {st:SortSt}{lo a nrem:Nat}{Q:AscSt->SortSt->Prop}{f:Nat->AscSt->StateT SortSt Sem (ForInStep AscSt)}(hf:∀x n,∃g,f x (none,n)=ltAt' (lo+n) (lo+n-1) >>= g/\g (some true)=pure (.done (none,n))/\g (some false)=pure (.yield (none,n+1)))
  (hk:kindOf st=oneType') (m:IntKeys (arrOf st)) (hn:lo+nrem<=(arrOf st).size) (ha:1<=a) (i:a<=nrem) (l:zM (arrOf st) lo (lo+a))
  (h:∀n,a<=n->n<=nrem->zM (arrOf st) lo (lo+n)->(n=nrem\/K (arrOf st) (lo+n)<K (arrOf st) (lo+n-1))->Q (none,n) st):wpS (Ag prog w) A E s (forIn [a:nrem] ((none,a):AscSt) f) Q st:=by
 refine zQ9 (I:=λx c st'=>st'=st/\c=(none,x)/\zM (arrOf st) lo (lo+x)) ?_ ?_ ⟨rfl,rfl,l⟩
 .rintro x c st' j k ⟨rfl,rfl,b⟩;obtain⟨g,e,g1,g2⟩:=hf x x;rw[e];refine zK9 (ltK hk m (by lia) (by lia) ?_);by_cases d:K (arrOf st') (lo+x)<K (arrOf st') (lo+x-1)
  .rw[zN5 d,g1];exact zL5 (h x j (by lia) b (.inr d))
  .rw[zM2 d,g2];exact zL5 ⟨rfl,rfl,b.more (by lia) d⟩
 .rintro c st' ⟨rfl,rfl,b⟩;rw[show max a nrem=nrem by lia]at b ⊢;exact h nrem i (zK6 _) b (.inl rfl)
def eB {β:Type}{c:Prop}[Decidable c]{X Y:StateT SortSt Sem β}{Q:β->SortSt->Prop}{st:SortSt}(R:Array Keyed->Prop)(hr:¬c->R (arrOf st))(key:∀arr,R arr->wpS (Ag prog w) A E s Y Q (setArr st arr))(a:c->(∀arr,R arr->wpS (Ag prog w) A E s Y Q (setArr st arr))->wpS (Ag prog w) A E s X Q st):wpS (Ag prog w) A E s (if c then X else Y) Q st:=by
 split
 .rename_i h;exact a h key
 .rename_i h;exact key _ (hr h)
def oP {st:SortSt}{lo nrem:Nat}{Q:Option Nat->SortSt->Prop}(hk:kindOf st=oneType')(L:IntKeys (arrOf st))(U:1<=nrem)(hn:lo+nrem<=(arrOf st).size)
  (h:∀m arr,1<=m->m<=nrem->zr lo arr (arrOf st)->zM arr lo (lo+m)->Q (some m) (setArr st arr)):wpS (Ag prog w) A E s (countRun' lo nrem) Q st:=by
 refine zK9 (vT (λx n=>⟨_,rfl,rfl,rfl⟩) hk L hn (zK6 1) U (λi j f d v=>by
                                                       have:i=j:=by lia
                                                       subst this;exact zT7 _) λn H D t N=>?_)
 dsimp only;by_cases y:(n == nrem)=true
 .rw[if_pos y];exact zL5 (h n (arrOf st) H D (zr.refl _ _) t)
 rw[if_neg y];have F:¬n=nrem:=by simpa using y
 have G:=N.resolve_left F;refine eB (λb=>zr lo b (arrOf st)/\wa b lo (lo+(n+1))) (λP=>?_) (λb z=>?_) (λP key=>?_)
 .have e:n=1:=by lia
  exact⟨zr.refl lo (arrOf st),wa.more (λi j f d v=>by
   have:i=j:=by lia
   subst this;exact zT7 _) (by lia) (zZ1 G)⟩
 .obtain⟨M,R⟩:=z;refine zK9 (wpS_lift (zT9 ⟨rfl,?_⟩));refine zK9 (zW1 (zQ9 (I:=λx c st'=>∃arr a,st'=setArr st arr/\c=(none,x,a)/\zr lo arr (arrOf st)/\wa arr lo (lo+x)/\a+1<=x/\∀i,lo+x-(a+1)<=i->i<lo+x->K arr i=K arr (lo+x-1))
   (Q:=λc st'=>∃arr m a,st'=setArr st arr/\c=(none,m,a)/\zr lo arr (arrOf st)/\n+1<=m/\m<=nrem/\wa arr lo (lo+m)/\a+1<=m/\∀i,lo+m-(a+1)<=i->i<lo+m->K arr i=K arr (lo+m-1)) ?_ ?_ ⟨b,0,rfl,rfl,M,R,by lia,λi f d=>by congr 1;lia⟩) ?_)
  .rintro x c st' T X ⟨arr,a,rfl,rfl,u,hd,hq,he⟩;dsimp only;have sz:=u.perm.size_eq;have C:=yc L u.perm;refine zK9 (ltK hk C (show _<arr.size by lia) (show _<arr.size by lia) ?_);by_cases J:K arr (lo+x)<K arr (lo+x-1)
   .rw[show decide (K (arrOf (setArr st arr)) (lo+x)<K (arrOf (setArr st arr)) (lo+x-1))=true from zN5 J];dsimp only;rw[if_pos rfl];by_cases O:a > 0
    .rw[if_pos O];refine zK9 (wpS_reverse ?_);have q:=K_mirror_equal (show lo+x<=arr.size by lia) he;refine zL5 ⟨_,0,rfl,rfl,(zr.mirror (by lia) (show lo+x<=arr.size by lia)).trans u,?_,by lia,λi f d=>by congr 1;lia⟩;intro i j f d v;rw[q,q];exact hd.more (by lia) (zZ1 J) i j f d v
    .rw[if_neg O];exact zL5 ⟨_,0,rfl,rfl,u,hd.more (by lia) (zZ1 J),by lia,λi f d=>by congr 1;lia⟩
   .rw[show decide (K (arrOf (setArr st arr)) (lo+x)<K (arrOf (setArr st arr)) (lo+x-1))=false from zM2 J];dsimp only;rw[if_neg (by decide)];refine zK9 (ltK hk C (show _<arr.size by lia) (show _<arr.size by lia) ?_);by_cases hg:K arr (lo+x-1)<K arr (lo+x)
    .rw[show decide (K (arrOf (setArr st arr)) (lo+x-1)<K (arrOf (setArr st arr)) (lo+x))=true from zN5 hg];exact zL5 ⟨arr,x,a,rfl,rfl,u,T,by lia,hd,hq,he⟩
    .rw[show decide (K (arrOf (setArr st arr)) (lo+x-1)<K (arrOf (setArr st arr)) (lo+x))=false from zM2 hg];refine zL5 ⟨arr,a+1,rfl,rfl,u,hd.more (by lia) (by lia),by lia,λi f d=>?_⟩;rw[show lo+(x+1)-1=lo+x by lia];by_cases c:i=lo+x
     .subst c;rfl
     .rw[he i (by lia) (by lia)];lia
  .rintro c st' ⟨arr,a,rfl,rfl,u,hd,hq,he⟩;rw[show max (n+1) nrem=nrem by lia]at hd hq he ⊢;exact⟨arr,nrem,a,rfl,rfl,u,by lia,zK6 _,hd,hq,he⟩
  .rintro c st' ⟨arr,m,a,rfl,rfl,g,V,S,r,hq,he⟩;dsimp only;have sz:=g.perm.size_eq;refine eB (λo=>zr lo o (arrOf st)/\wa o lo (lo+m)) (λ_=>⟨g,r⟩) (λo z=>?_) (λO key=>?_)
   .obtain⟨g,r⟩:=z;have W:=g.perm.size_eq;refine zK9 (wpS_reverse ?_);have B:=(zr.mirror (j:=lo+m) (zK6 _) (by lia)).trans g;exact zK9 (vT (λx n=>⟨_,rfl,rfl,rfl⟩) hk (yc L B.perm) (zL8 hn (zM9 B.perm.size_eq.symm)) (by lia) S (r.flip (by lia)) λn2 f d v _=>zL5 (h n2 _ (by lia) d B v))
   .refine zK9 (wpS_reverse ?_);have q:=K_mirror_equal (show lo+m<=arr.size by lia) he;refine key _ ⟨(zr.mirror (by lia) (by lia)).trans g,λi j f d v=>?_⟩;rw[q,q];exact r i j f d v
 .refine zK9 (ltK hk L (by lia) (by lia) ?_);by_cases p:K (arrOf st) lo<K (arrOf st) (lo+n-1)
  .rw[zN5 p];exact zL5 (h n (arrOf st) H D (zr.refl _ _) t)
  .rw[zM2 p];dsimp only;rw[if_neg (by decide)];have l:∀k,lo<=k->k<lo+n->K (arrOf st) k=K (arrOf st) (lo+n-1):=λk f d=>by
    have a1:=t lo k (by lia) f d;have a2:=t k (lo+n-1) f (by lia) (by lia)
    lia
   refine zK9 (wpS_reverse ?_);have q:=K_mirror_equal (show lo+n<=(arrOf st).size by lia) l;refine key _ ⟨zr.mirror (zK6 _) (by lia),wa.more (λi j f d v=>?_) (by lia) ?_⟩
   .rw[q,q,l i (by lia) (by lia),l j (by lia) (by lia)];exact zT7 _
   .rw[q,q];exact zZ1 G
theorem zr.bubble {lo src d:Nat}{xs:Array Keyed}(a:src<xs.size)(hd:lo+d<=src):zr lo (PyProof.Rows.bubble xs src d) xs:=⟨bubble_perm _ _ _,λt b=>by rw[K_bubble a (by lia),if_neg (by lia),if_neg (by lia)]⟩
def rk {st:SortSt}{lo n ok:Nat}{Q:Bool->SortSt->Prop}(hk:kindOf st=oneType')(H:IntKeys (arrOf st))(hn:lo+n<=(arrOf st).size)(hok:ok<=n)(D:zM (arrOf st) lo (lo+ok))
  (h:∀arr,zr lo arr (arrOf st)->zM arr lo (lo+n)->Q true (setArr st arr)):wpS (Ag prog w) A E s (binarySort' lo n ok) Q st:=by
 refine zK9 (zW1 (zQ9 (I:=λk c st'=>c=(none,())/\∃arr,st'=setArr st arr/\zr lo arr (arrOf st)/\zM arr lo (lo+min k n))
  (Q:=λc st'=>c=(none,())/\∃arr,st'=setArr st arr/\zr lo arr (arrOf st)/\zM arr lo (lo+n)) ?_ ?_ ⟨rfl,arrOf st,rfl,zr.refl _ _,λi j u t z=>?_⟩) ?_)
 .rintro k c st' F G ⟨rfl,arr,rfl,f,b⟩;rw[show min k n=k by lia]at b;have sz:=f.perm.size_eq;refine zK9 (zW1 (zQ9 (I:=λx c a=>a=setArr st arr/\∃l r,c=(none,l,r)/\l<=r/\r<=k/\r-l<=k-x/\
    (∀i,lo<=i->i<lo+l->K arr i<=K arr (lo+k))/\(∀i,lo+r<=i->i<lo+k->K arr (lo+k)<K arr i))
   (Q:=λc a=>a=setArr st arr/\∃l r,c=(none,l,r)/\l<=k/\
    (∀i,lo<=i->i<lo+l->K arr i<=K arr (lo+k))/\(∀i,lo+l<=i->i<lo+k->K arr (lo+k)<K arr i)) ?_ ?_ ⟨rfl,0,k,rfl,by lia,by lia,by lia,λi u t=>by lia,λi u t=>by lia⟩) ?_)
  .rintro x c a _ B ⟨rfl,l,r,rfl,v,m,hm,d,e⟩;dsimp only;by_cases o:l≥r
   .rw[if_pos o];have:l=r:=by lia
    subst this;exact zL5 ⟨rfl,l,l,rfl,m,d,e⟩
   .rw[if_neg o];refine zK9 (ltK hk (yc H f.perm) (show _<arr.size by lia) (show _<arr.size by lia) ?_);by_cases q:K arr (lo+k)<K arr (lo+(l+r) / 2)
    .rw[show decide (K (arrOf (setArr st arr)) (lo+k)<K (arrOf (setArr st arr)) (lo+(l+r) / 2))=true from zN5 q];exact zL5 ⟨rfl,l,(l+r) / 2,rfl,by lia,by lia,by lia,d,λi p y=>z69 q (b _ _ (by lia) p y)⟩
    .rw[show decide (K (arrOf (setArr st arr)) (lo+k)<K (arrOf (setArr st arr)) (lo+(l+r) / 2))=false from zM2 q];exact zL5 ⟨rfl,(l+r) / 2+1,r,rfl,by lia,by lia,by lia,λi p y=>zX8 (b i (lo+(l+r) / 2) p (by lia) (by lia)) (Int.not_lt.mp q),e⟩
  .rintro c a ⟨rfl,l,r,rfl,v,m,hm,d,e⟩;have:l=r:=by lia
   subst this;exact⟨rfl,l,l,rfl,m,d,e⟩
  .rintro c a ⟨rfl,l,r,rfl,C,d,e⟩;dsimp only;have g:lo+k<arr.size:=by lia
   refine zK9 (zY8 (zL5 ⟨rfl,bubble arr (lo+k) (lo+k-(lo+l)),rfl,(zr.bubble g (by lia)).trans f,λi j u t z=>?_⟩));rw[show min (k+1) n=k+1 by lia]at z;rw[K_bubble g (by lia),K_bubble g (by lia),show lo+k-(lo+k-(lo+l))=lo+l by lia]
   repeat' split
   all_goals first
    |(exfalso;lia)
    |exact zT7 _
    |exact d _ (by lia) (by lia)
    |exact zZ1 (e _ (by lia) (by lia))
    |exact b _ _ (by lia) (by lia) (by lia)
 .rintro c st' ⟨J,arr,rfl,f,b⟩;rw[show min (max (max ok 1) n) n=n by lia]at b;exact⟨J,arr,rfl,f,b⟩
 .by_cases p:ok=0
  .have:i=j:=by lia
   subst this;exact zT7 _
  .exact D i j u t (by lia)
 .rintro c st' ⟨rfl,arr,rfl,f,b⟩;exact zL5 (h arr f b)
end
abbrev qO :=Nat×Nat×Nat
def Runs (xs:Array Keyed):List qO->Nat->Nat->Prop
 |[],l,u=>l=u
 |r::L,l,u=>r.1=l/\0<r.2.1/\zM xs l (l+r.2.1)/\Runs xs L (l+r.2.1) u
theorem Runs.le {xs:Array Keyed}:∀{L:List qO}{l u:Nat},Runs xs L l u->l+L.length<=u
 |[],l,u,h=>zM9 h
 |r::L,l,u,⟨_,h0,_,h⟩=>by
  have:=Runs.le h;simp;lia
theorem wb {xs:Array Keyed}:∀{L R:List qO}{l u:Nat},Runs xs (L++R) l u↔∃m,Runs xs L l m/\Runs xs R m u
 |[],R,l,u=>⟨λh=>⟨l,rfl,h⟩,λ⟨m,d,e⟩=>by cases d;exact e⟩
 |r::L,R,l,u=>⟨λ⟨a,b,c,h⟩=>by
   obtain⟨m,d,e⟩:=wb.mp h;exact⟨m,⟨a,b,c,d⟩,e⟩,λ⟨m,⟨a,b,c,d⟩,e⟩=>⟨a,b,c,wb.mpr ⟨m,d,e⟩⟩⟩
theorem Runs.congr {xs ys:Array Keyed}:∀{L:List qO}{l u:Nat},Runs xs L l u->(∀t,l<=t->t<u->K ys t=K xs t)->Runs ys L l u
 |[],l,u,h,_=>h
 |r::L,l,u,⟨a,b,c,h⟩,e=>by
  have:=Runs.le h;refine⟨a,b,λi j f d g=>?_,Runs.congr h λt f d=>e t (by lia) d⟩;rw[e i f (by lia),e j (by lia) (by lia)];exact c i j f d g
theorem Runs.pow {xs:Array Keyed}{pw:Nat}:∀{L:List qO}{l u:Nat} (k:Nat),Runs xs L l u->Runs xs (L.modify k λr=>(r.1,r.2.1,pw)) l u
 |[],l,u,k,h=>by simpa using h
 |r::L,l,u,0,⟨a,b,c,h⟩=>by simp;exact⟨a,b,c,h⟩
 |r::L,l,u,k+1,⟨a,b,c,h⟩=>by simp;exact⟨a,b,c,Runs.pow k h⟩
theorem Runs.all {xs:Array Keyed}:∀{L:List qO}{u:Nat},Runs xs L 0 u->L.length<=1->zM xs 0 u
 |[],u,h,_=>λi j _ _ a=>by cases h;lia
 |[r],u,⟨_,_,c,h⟩,_=>by cases h;simpa using c
 |_::_::_,_,_,h=>by simp at h
def fg (c:Prop)[Decidable c](a:Nat):(if c then a-1 else a)<=a:=by split<;>lia
def merged (P R:List qO)(x y z:qO)(p:Array qO)(h:p.toList=P++x::y::R):((p.setIfInBounds P.length z).eraseIdxIfInBounds (P.length+1)).toList=P++z::R:=by
 have e1:(p.setIfInBounds P.length z).toList=P++z::y::R:=by rw[Array.toList_setIfInBounds,h];simp
 have a:P.length+1<(p.setIfInBounds P.length z).size:=by
  have:=congrArg List.length e1;simp at this ⊢;lia
 rw[Array.eraseIdxIfInBounds,dif_pos a,Array.toList_eraseIdx,e1];rw[List.eraseIdx_append_of_length_le (by lia)];simp
section
variable {prog:Ah}{w:Ak}{A:Al}{E:Ab->Ac->Prop}{s:Ac}{a₀:Array Keyed}
def su {st:SortSt}{i u:Nat}{Q:Bool->SortSt->Prop}(x:IntKeys a₀)(gb:GB a₀ st)(hr:Runs (arrOf st) (pendingOf st).toList 0 u)(z:u<=a₀.size)(hi:i+1<(pendingOf st).size)
  (h:∀st',GB a₀ st'->Runs (arrOf st') (pendingOf st').toList 0 u->(pendingOf st').size+1=(pendingOf st).size->(∀t,u<=t->K (arrOf st') t=K (arrOf st) t)->Q true st'):wpS (Ag prog w) A E s (mergeAt' i) Q st:=by
 have f:i+1<(pendingOf st).toList.length:=by simpa using hi
 have sp:(pendingOf st).toList=(pendingOf st).toList.take i++(pendingOf st).toList[i]::(pendingOf st).toList[i+1]::(pendingOf st).toList.drop (i+2):=by rw[<-zP7 f,<-zP7 (by lia),zN7]
 rcases hx:(pendingOf st).toList[i]with⟨sa,na,pw⟩;rcases hy:(pendingOf st).toList[i+1]with⟨sb,nb,c⟩;rw[hx,hy]at sp;have e1:(pendingOf st)[i]?=some (sa,na,pw):=by rw[<-zY3,zK4 (by lia),hx]
 have q:(pendingOf st)[i+1]?=some (sb,nb,c):=by rw[<-zY3,zK4 f,hy]
 have k:((pendingOf st).toList.take i).length=i:=by rw[zR4];lia
 generalize (pendingOf st).toList.take i=P at sp k;generalize (pendingOf st).toList.drop (i+2)=R at sp;rw[sp]at hr;obtain⟨m,l,⟨f1,a,o,f2,b,n,d⟩⟩:=wb.mp hr;dsimp only at f1 f2 a b o n d;subst f1;have:=Runs.le d;have:=Runs.le l;have sz:=gb.perm.size_eq;refine mL gb.kind gb.failed (yc x gb.perm) e1 q f2.symm a b (by lia) (by rw[f2];exact o) (by rw[f2];exact n) λj g g1 g2 g3=>?_;have e:=merged P R _ _ (sa,na+nb,pw) (pendingOf st) sp;rw[k]at e;refine h _ ⟨g1.trans gb.perm,gb.kind,gb.failed⟩ ?_ ?_ λt B=>g2 t (by lia)
 .rw[e];refine wb.mpr ⟨sa,l.congr λt y p=>g2 t (by lia),rfl,by show 0<na+nb;lia,?_,?_⟩
  .rw[<-Nat.add_assoc,<-f2];exact g3
  .rw[<-Nat.add_assoc];exact d.congr λt y p=>g2 t (by lia)
 .have r:=congrArg List.length e;have v:=congrArg List.length sp;simp only[zR6,zM8,zN0]at r v
  lia
structure Mid (a₀:Array Keyed)(lo n:Nat)(st:SortSt):Prop where
 gb:GB a₀ st
 rn:Runs (arrOf st) (pendingOf st).toList 0 lo
 so:zM (arrOf st) lo (lo+n)
def Mid.put {lo n:Nat}{st:SortSt}(h:Mid a₀ lo n st)(a:0<n):GB a₀ (setPending st ((pendingOf st).push (lo,n,0)))/\Runs (arrOf st) ((pendingOf st).push (lo,n,0)).toList 0 (lo+n):=by
 refine⟨⟨h.gb.perm,h.gb.kind,h.gb.failed⟩,?_⟩;rw[zW8];exact wb.mpr ⟨lo,h.rn,rfl,a,h.so,rfl⟩
theorem Mid.pow {lo n k pw:Nat}{st:SortSt}(h:Mid a₀ lo n st):Mid a₀ lo n (setPending st ((pendingOf st).modify k λx=>(x.fst,x.2.fst,pw))):=by
 refine⟨⟨h.gb.perm,h.gb.kind,h.gb.failed⟩,?_,h.so⟩;rw[Array.toList_modify];exact h.rn.pow k
def zl1 {β:Type}{a:Nat}{X Y:Nat->StateT SortSt Sem β}{Q:β->SortSt->Prop}{st:SortSt}{b:Nat->Prop}(R:Nat->Array Keyed->Prop)(hr:∀n,b n->¬n<a->R n (arrOf st))(key:∀n arr,R n arr->wpS (Ag prog w) A E s (Y n) Q (setArr st arr))(d:∀n,b n->n<a->(∀n arr,R n arr->wpS (Ag prog w) A E s (Y n) Q (setArr st arr))->wpS (Ag prog w) A E s (X n) Q st):∀n,b n->wpS (Ag prog w) A E s (if n<a then X n else Y n) Q st:=by
 intro n c;split
 .rename_i h;exact d n c h key
 .rename_i h;exact key _ _ (hr n c h)
def pI {st:SortSt}{Q:Unit->SortSt->Prop}(C:IntKeys a₀)(z:SBase a₀ st)
  (h:∀st',(arrOf st').Perm a₀->failedOf st'=none->SortedTo (arrOf st') a₀.size->Q () st'):wpS (Ag prog w) A E s sortRuns' Q st:=by
 rw[sortRuns'_eq];refine zK9 (wpS_get ?_);dsimp only;rw[z.size];generalize P:minRun' a₀.size a₀.size 0=mr;refine zK9 (zW1 (zQ9 (I:=λx c st'=>∃lo,c=(none,lo)/\GB a₀ st'/\Runs (arrOf st') (pendingOf st').toList 0 lo/\lo<=a₀.size/\x<=lo)
  (Q:=λc st'=>c=(none,a₀.size)/\GB a₀ st'/\Runs (arrOf st') (pendingOf st').toList 0 a₀.size) ?_ ?_ ⟨0,rfl,⟨z.perm,z.kind,z.failed⟩,by rw[z.pend];rfl,by lia,by lia⟩) ?_)
 .rintro x c st' _ T ⟨lo,rfl,gb,hr,O,J⟩;dsimp only;by_cases v:lo≥a₀.size
  .rw[if_pos v];have:lo=a₀.size:=by lia
   subst this;exact zL5 ⟨rfl,gb,hr⟩
  rw[if_neg v];have sz:=gb.perm.size_eq;refine zK9 (oP gb.kind (yc C gb.perm) (by lia) (show lo+(a₀.size-lo)<=(arrOf st').size by lia) λm arr m1 m2 H so=>?_);dsimp only;have V:=H.perm.size_eq;have d:GB a₀ (setArr st' arr):=⟨H.perm.trans gb.perm,gb.kind,gb.failed⟩;have r:=hr.congr λt _ f=>H.low t f;have H0:0<m/\m<=a₀.size-lo/\zM arr lo (lo+m):=⟨m1,m2,so⟩;clear m1 m2 so
  revert m H0
  refine zl1 (λn M=>Mid a₀ lo n (setArr st' M)/\0<n/\n<=a₀.size-lo) ?_ ?_ ?_
  .rintro m ⟨m1,m2,so⟩ _;exact⟨⟨d,r,so⟩,m1,m2⟩
  .rintro n M ⟨b,L,nl⟩;refine zK9 (wpS_get ?_);split
   .refine zK9 (zW1 (zQ9 (I:=λ_ c a=>c=(none,())/\Mid a₀ lo n a) (Q:=λc a=>c=(none,())/\Mid a₀ lo n a) ?_ ?_ ⟨rfl,b⟩) ?_)
    .rintro y c a _ _ ⟨rfl,b⟩;refine zK9 (wpS_get ?_);split
     .rename_i heq;have N:(pendingOf a).size > 1:=by
       by_cases c:(pendingOf a).size > 1
       .exact c
       .have e:(if(pendingOf a).size > 1 then(pendingOf a)[(pendingOf a).size-2]? else none)=none:=if_neg c;exact absurd (e.symm.trans heq) (by simp)
      split
      .exact zL5 ⟨rfl,b⟩
      .refine zK9 (su C b.gb b.rn (by lia) (show(pendingOf a).size-2+1<(pendingOf a).size by lia) λG g o _ B=>zL5 ⟨rfl,g,o,λi j D f S=>?_⟩);rw[B i D,B j (by lia)];exact b.so i j D f S
     .exact zL5 ⟨rfl,b⟩
    .rintro c a q;exact q
    .rintro c a ⟨rfl,b⟩;dsimp only;refine zK9 (zY8 (zK9 (zY8 (zL5 ?_))));have:=λpw=>(b.pow (k:=(pendingOf a).size-1) (pw:=pw)).put L;exact⟨_,rfl,(this _).1,(this _).2,by lia,by lia⟩
   .refine zK9 (zY8 (zL5 ?_));have:=b.put L;exact⟨_,rfl,this.1,this.2,by lia,by lia⟩
  .rintro m ⟨m1,m2,so⟩ R key;refine zK9 (wpS_lift (zT9 ⟨rfl,zK9 (rk d.kind (yc C d.perm) (show lo+min (a₀.size-lo) mr<=arr.size by lia) (by lia) so λu p F=>?_)⟩));rw[if_neg (by decide)];exact key _ u ⟨⟨⟨p.perm.trans d.perm,gb.kind,gb.failed⟩,r.congr λt _ f=>p.low t f,F⟩,by lia,by lia⟩
 .rintro c st' ⟨lo,rfl,gb,hr,O,J⟩;have:lo=a₀.size:=by lia
  subst this;exact⟨rfl,gb,hr⟩
 .rintro c st' ⟨rfl,gb,hr⟩;dsimp only;refine zK9 (zW1 (zQ9 (I:=λx c st'=>c=(none,())/\GB a₀ st'/\Runs (arrOf st') (pendingOf st').toList 0 a₀.size/\(pendingOf st').size<=a₀.size-x)
   (Q:=λc st'=>c=(none,())/\GB a₀ st'/\Runs (arrOf st') (pendingOf st').toList 0 a₀.size/\(pendingOf st').size<=1) ?_ ?_ ⟨rfl,gb,hr,by have:=hr.le;simpa using this⟩) ?_)
  .rintro x c st' _ T ⟨rfl,gb,hr,l⟩;refine zK9 (wpS_get ?_);by_cases K:(pendingOf st').size<=1
   .rw[if_pos K];exact zL5 ⟨rfl,gb,hr,K⟩
   .rw[if_neg K];refine zK9 (su C gb hr (zK6 _) ?_ λG g o U _=>?_)
    .exact zM6 (Nat.succ_le_succ (fg _ _)) (show(pendingOf st').size-2+1<(pendingOf st').size by lia)
    .exact zL5 ⟨rfl,g,o,by lia⟩
  .rintro c st' ⟨rfl,gb,hr,l⟩;exact⟨rfl,gb,hr,by lia⟩
  .rintro c st' ⟨rfl,gb,hr,l⟩;dsimp only;exact zL5 (h st' gb.perm gb.failed λi j D f=>hr.all (by simpa using l) i j (zL6 _) D f)
end
open PyProof
section
variable {prog:Ah}{w:Ak}{A:Al}{E:Ab->Ac->Prop}{s:Ac}
def tree_ok {a:Ad}{vs:List Ab}{ns:List Int}{n:Nat}{P:Fin->Ac->Prop}(f:s.heap.get? a=some (seqObj "list" vs.toArray n))(l:IntsAre vs ns)(u:vs.length<=1000)
  (h:∀(out:Array Ab) (d:List Int),IntsAre out.toList d->d.Perm ns->d.Pairwise (·<=·)->P (.done (.ret .none)) {s with heap:=sortedHeap s.heap a vs out}):Aj (Ag prog w) A (Builtin.«list.sort» ⟨[.ref a],[]⟩) P E s:=by
 by_cases g:vs.length<64
 .exact list_sort_tree f l g h
 have ha:=zL0 f;obtain⟨e1,k⟩:∃e1,(s.heap.update a (Obj.mapSeq λ_=>#[])).get? a=some (seqObj "list" #[] e1):=⟨_,zV7 f (λ_=>#[])⟩;have j:(((s.heap.update a (Obj.mapSeq λ_=>#[])).push (seqObj "tuple" vs.toArray 0)).push (seqObj "list" #[] 0)).get? a=some (seqObj "list" #[] e1):=by
  have n1:a≠(s.heap.update a (Obj.mapSeq λ_=>#[])).objs.size:=by rw[z52];exact zL9 ha
  have n2:a≠((s.heap.update a (Obj.mapSeq λ_=>#[])).push (seqObj "tuple" vs.toArray 0)).objs.size:=by rw[size_push',z52];exact zL9 (zR8 ha)
  rw[z46 _ _ _ n2,z46 _ _ _ n1,k]
 have i:¬vs.toArray.size<2:=by simp;lia
 obtain⟨b,c,rest,rfl⟩:∃b c rest,vs=b::c::rest:=by
  match vs,g with
  |b::c::rest,_=>exact⟨b,c,rest,rfl⟩
  |[],h=>simp at h
  |[_],h=>simp at h
 rw[list_sort_plain];refine zK0 (listItems_at f rfl (zK0 (z25 f rfl ?_)));refine zK0 (seqEpoch_at k rfl (zK0 (z42 ?_)));refine zK0 (wpAny_newList (zP3 ?_));dsimp only;rw[if_neg i,if_neg i,keyKind_ints l];refine zK0 (zK2 (zK0 (zO9 (pI (Q:=λ_ st'=>(arrOf st').Perm (pairsOf (b::c::rest))/\failedOf st'=none/\SortedTo (arrOf st') (pairsOf (b::c::rest)).size)
  l.intKeys ⟨zU7 _,rfl,rfl,rfl⟩ λst' a1 a2 r=>⟨a1,a2,r⟩) ?_ λ_ _ e=>e)))
 rintro⟨⟨⟩,st'⟩ s' ⟨rfl,m,hf,o⟩;obtain⟨d,p,q,t⟩:=sorted_out l m o;refine zK0 (seqEpoch_at j rfl (zK0 (z25 j rfl ?_ (hsz2:=by refine zL8 (zM9 ((Array.size_map ..).trans (m.size_eq.trans (pairsOf_size _)))) ?_;rw[zP9];lia))));rw[hf];simp only[bne_self_eq_false,zV2,z38];exact zK2 (h _ d p q t)
end
end Tim
namespace SetW
open PySem PyProof.Rows
section
variable {prog:Ah}{w:Ak}{A:Al}{E:Ab->Ac->Prop}{s:Ac}{a:Ad}{ep:Nat}{o:Obj}{es:Array (Int×Ab)}{S:Int->Bool}{m:Nat}{t:SetTable}
def oj {F:List Int}{Q:Ab->Ac->Prop}(q:A.handled=none)(g:s.heap.get? a=some o)(x:WkO prog w o S m (yK w) es ep t)(hF:F.Nodup)(D:∀k,S k=F.any (· == k))(hm:m=F.length)(y:F.length<=1000)
  (h:∀(h':An) d (j:Nat) (L:Ad) (out:Array Ab) (c:Nat) (ns:List Int),s.heap.objs.size<=L->(∀c u,s.heap.get? c=some u->h'.get? c=some u)->h'.get? L=some (seqObj "list" out c)->IntsAre out.toList ns->ns.Perm F->ns.Pairwise (·<=·)->Q (.ref L) {s with heap:=h',drawn:=d,toks:=j}):
  Aj (Ag prog w) A (call (.builtin "sorted") [.ref a]) Q E s:=by
 obtain⟨ms,im,C⟩:=kg es.toList x.el.keys;have lm:ms.length=es.size:=by have:=IntsAre.length im;simp at this;lia
 have p:=pA hF (λk hk=>(C k).mpr ((x.mem k).mp (by rw[D];exact List.any_eq_true.mpr ⟨k,hk,by simp⟩))) (by rw[lm,x.sz,hm]);refine Calls.call_function_entry kind_sorted plain_sorted entry_sorted (args_sorted1 _) ?_;unfold Builtin.«sorted»;refine zK0 (zK2 (zK0 (pC (by simp[q]) g x λi d j ord sz k1 po=>?_)));obtain⟨H,r,v⟩:=jK po im;have B:ord.length<=1000:=by
  have:=po.length_eq;have:=p.length_eq;simp at *
  lia
 refine zK0 (wpAny_newList ?_);have b:(i.push (seqObj "list" ord.toArray 0)).get? i.objs.size=some (seqObj "list" ord.toArray 0):=zL2 _ rfl;refine zK0 (zP3 (zR5 slot_list_sort ⟨_,b,rfl⟩ entry_list_sort (Tim.tree_ok b r B λout l a1 a2 z=>⟨_,rfl,?_⟩) (args_list_sort _)));obtain⟨e,he⟩:=sortedHeap_at b;refine zK2 ⟨_,rfl,h _ d j i.objs.size out e l (zQ0 sz) (λc u G=>?_) he a1 (a2.trans (v.trans p)) z⟩;have n:=k1 c u G;have f:=zL0 n;rw[sortedHeap_old (zL9 f) (by rw[size_push'];exact zR8 f)];exact zK1 _ n
end
end SetW
namespace L2
open PySem PySem.Spec PyProof.Rows SetW
section
variable {X:Cx}{O:Ev}{e:Am}{pos p p2 pos2:Pos}
def rg (n:X.calm=true):xj X (.builtin "sorted") (λxs H Q=>∃(l:Ad) (o:Obj) (u:HO) (zs:List Int),xs=[.ref l]/\H l=some (.frz o u)/\SW X.prog X.w o zs/\zs.length<=1000/\∀(a:Ad) (ys:List Int),H a=none->ys.Perm (vf zs)->ys.Pairwise (·<=·)->Q (.ref a) (upd H a (.lst (ys.map V.int)))):=by
 intro pins s σ H xs us Q I r h;obtain⟨l,o,u,zs,rfl,b,⟨es,ep,t,x⟩,g,q⟩:=h;obtain⟨v,rfl,f⟩:=vals1 r;cases f;have lm:(vf zs).length<=zs.length:=firstMet_length_le _ _;refine oj (I.ok.hd n) ((I.hok l _ b).1) x (wM _ _) (λ_=>rfl) rfl (by lia) λh' d j L out c ns sz kp k a1 a2 i=>?_;have m:=I.laid (o:=.lst (ns.map V.int)) (t':=j) kp sz ⟨by rw[zK3,a2.length_eq,zP9];lia,out.toList,c,qF a1,by simpa using k⟩;exact⟨.ref L,_,m.drw d,rfl,q _ ns (I.hok.fresh sz) a2 i⟩
def oN {Q:List Aa->Prop}(v:X.calm=true)(f:Gl X "sorted")(d:X.mg "sorted"=none)(hg:Gl X "set")(hm:X.mg "set"=none)(h:EvD X O e λx=>∃zs:List Int,x=.list (zs.map .int)/\zs.length<1000/\∀ys:List Int,(∀k,k∈ys↔k∈zs)->ys.Pairwise (·<·)->ys.length<=zs.length->Q (ys.map .int))
  (he:Af [e] X.env=(false,eval e X.env)::Af [] X.env:=by rfl) (g:Af [.Call (.Name "set" p) [e] [] pos] X.env=(false,eval (.Call (.Name "set" p) [e] [] pos) X.env)::Af [] X.env:=by rfl):
  EvL X O (.Call (.Name "sorted" p2) [.Call (.Name "set" p) [e] [] pos] [] pos2) Q:=λF σ H R m k=>by
 refine⟨_,xC (rg v) f d boot_sorted (zw (uj (jH v) hg hm PyProof.Rows.boot_set (zw zh zQ he) (he:=he)) zQ g),h F σ H _ m λx G H1 B t1 k1 D=>?_⟩;obtain⟨zs,rfl,C,q⟩:=B;obtain⟨l,xs,rfl,w,A⟩:=D.lst_inv;have r:=(zi w).2;rw[A.intsV]at r;refine⟨l,zs,rfl,r,by lia,λu o c sw=>?_⟩;have n:=t1.same (yi (o:=.frz o (.set (λk=>(vf zs).any (· == k)) (vf zs).length)) c);have k2:=k1.trans (Kz.of_same (yi (o:=.frz o (.set (λk=>(vf zs).any (· == k)) (vf zs).length)) c));refine⟨u,o,_,zs,rfl,zl,sw,by lia,λl2 ys i pm pw=>?_⟩;have s:ys.length<=zs.length:=by rw[pm.length_eq];exact firstMet_length_le _ _
 have nd:=pm.nodup_iff.mpr (wM _ _);have t:ys.Pairwise (·<·):=by
  have:=pw.and nd;exact this.imp λ{a b} z=>by lia
 have av:AVs (Gz F O σ (upd H1 u (.frz o (.set (λk=>(vf zs).any (· == k)) (vf zs).length)))) (ys.map V.int) (ys.map .int):=by
  clear pm pw nd t s
  induction ys with
  |nil=>exact .nil
  |cons y ys E=>exact .cons (.int y) E
 obtain⟨g1,g2,g3⟩:=(m.kz k2 n).lay i av;exact k _ _ _ (q ys (λj=>pm.mem_iff.trans bZ) t s) g1 (k2.trans g2) (g3.back m k2 n)
end
section
variable {X:Cx}{O:Ev}{a b:Am}{pos:Pos}
theorem AVs.rep {H:Hp}{xs:List V}{ds:List Aa}(h:AVs H xs ds):∀k:Nat,AVs H (List.replicate k xs).flatten (List.replicate k ds).flatten
 |0=>.nil
 |k+1=>by
  rw[zU8,zU8,zY5,zY5];exact h.append (h.rep k)
def zr7 {Q:List Aa->Prop}(h:EvD X O a λx=>EvD X O b λy=>∃ds n,x=.list ds/\y=.int n/\0<=n/\n<=1000/\ds.length*n.toNat<=1000/\Q (List.replicate n.toNat ds).flatten):EvL X O (.BinOp a .Mult b pos) Q:=λF σ H R m k=>by
 refine⟨_,yT zt3 zh zh,?_⟩;refine h F σ H _ m λx u H1 g t1 k1 i=>?_;have m1:=m.kz k1 t1;refine g F σ H1 _ m1 λy s v o c k2 j=>?_;have m2:=m1.kz k2 c;obtain⟨ds,n,rfl,rfl,t,n1,e,q⟩:=o;obtain⟨l,xs,rfl,f,d⟩:=(i.same (k2.gz m1.tp)).lst_inv;cases j.int_inv;refine⟨l,n,xs,rfl,rfl,(zi f).2,by lia,by lia,by rw[d.length];exact zQ0 (yt e),λp r=>?_⟩;obtain⟨g1,g2,g3⟩:=m2.lay r (d.rep n.toNat);exact k _ _ _ q g1 ((k1.trans k2).trans g2) (g3.back m (k1.trans k2) c)
end
section
variable {X:Cx}{O:Ev}{e:Am}{kk:Nat}{p pos:Pos}{rest:List Ap}{E:ya}
end
def zG9 (K:Ae)(a:Ad)(xs:List V):Prop:=∃(o:Obj) (b:Array Ab) (n:Nat),K.lookup a=some o/\o.cls=.type "list"/\o.dict=none/\o.data=.seq b n/\b.size<=sizeLine/\Vals xs b.toList
def ScH (K:Ae)(H:Hp)(a:Ad)(xs:List V):Prop:=(∃o,H a=some (.frz o (.lst xs)))\/zG9 K a xs
def ScH.sq {K:Ae}{H:Hp}{a:Ad}{xs:List V}(h:ScH K H a xs):SqL K H a xs:=h.elim (λ⟨o,e⟩=>.inl (.inr ⟨o,e⟩)) .inr
def sj (K:Ae):Sp:=λvs H Q _=>∃(a:Ad) (ns:List Int),vs=[.ref a]/\ScH K H a (ns.map V.int)/\ns.length<=63/\TabAt H/\∀H',Q (.bl true) H'
def qA (K:Ae):Sp:=λvs H Q _=>∃(a:Ad) (ns:List Int) (k:Int),vs=[.ref a,.int k]/\ScH K H a (ns.map V.int)/\0<=k/\ns.length<=63/\TabAt H/\∀z H',(∀x o,H x=some o->¬vA x->H' x=some o)->TabAt H'->Q (.int z) H'
section
variable {X:Cx}{O:Ev}{a:Ad}{xs:List V}{pins:List (Ad×Obj)}{σ:St}{H:Hp}{s:Ac}
def Inv.sc (I:Inv X pins σ H s)(h:ScH X.K X.H₀ a xs):ScH X.K H a xs:=h.imp (λ⟨o,e⟩=>⟨o,I.base.frzs _ _ _ e⟩) id
def bz (sc:ScH X.K X.H₀ a xs):xj X (.builtin "len") (λvs H Q=>vs=[.ref a]/\Q (.int xs.length) H):=by
 intro pins s σ H vs us Q I r h;exact vF pins s σ H vs us Q I r ⟨a,xs,h.1,.inl (Inv.sc I sc).sq,h.2⟩
def zB3 (sc:ScH X.K X.H₀ a xs):IxR X (λx y H Q=>∃i v,x=.ref a/\y=.int i/\atI xs i=some v/\Q v H):=by
 intro value slice pins s σ H x y v u Q I e f h b;obtain⟨i,z,e1,d,c,q⟩:=h;exact yF value slice pins s σ H x y v u Q I e f ⟨a,xs,i,z,e1,d,(Inv.sc I sc).sq,c,q⟩ b
end
section
variable {F:Fr}{O:Ev}{σ:St}{H:Hp}
def M.note {i:Nat}{b:A}(m:M F O σ H)(hb:∀s x,¬foot s b x)(v:noX b)(hok:∀s,σ[i]?=some s->yQ (Gz F (O.set i (some b)) σ H) F H s b):M F (O.set i (some b)) σ H:=by
 have B:zr (Gz F O σ H) (Gz F (O.set i (some b)) σ H):=dP hb;refine⟨by rw[zP0];exact m.len,λj c s e1 g=>?_,λj l c d s t x e1 g C p f1 f2=>?_,λj r q e l c s x e1 g f=>?_,m.tp,m.keep,m.oex⟩
 .rcases zv e1 with⟨rfl,z⟩|⟨o,a⟩
  .cases z;exact hok s g
  .exact(m.ok j c s a g).stay B (λy u f e=>⟨e,(m.ft a g f).1,(m.ft a g f).2.1⟩) rfl λr q _ k=>k
 .rcases zv e1 with⟨rfl,z⟩|⟨o,a⟩
  .cases z;exact(hb _ _ f1).elim
  .rcases zv g with⟨rfl,z⟩|⟨n,h⟩
   .cases z;exact(hb _ _ f2).elim
   .exact m.dj j l c d s t x a h C p f1 f2
 .rcases zv e with⟨rfl,z⟩|⟨o,w⟩
  .cases z;exact v.elim
  .rcases zv e1 with⟨rfl,z⟩|⟨n,a⟩
   .cases z;exact(hb _ _ f).elim
   .exact m.xd j r q w l c s x a g f
end
def zy.offT {F:Fr}{H H':Hp}(t:zy F H)(g:TabAt H')(k:∀x o,H x=some o->¬vA x->H' x=some o):zy F H':=⟨g,t.ot,λa b c e=>by
 obtain⟨h,i,l,j⟩:=t a b c e;refine⟨h.off λz f=>?_,i,l,j⟩;have tz:Tp F z:=⟨a,b,c,e,f⟩;obtain⟨xs,d⟩:=Tp.lst t tz;rw[d];exact k z _ d (Tp.noTab t tz)⟩
section
variable {X:Cx}{O:Ev}{E:ya}{sts rest:List Ap}{e:Am}{pos p p':Pos}{Q:Aa->Prop}{a:Ad}{ns:List Int}
def cq (i:Nat){n:Str}(hi:O[i]?=some (some (.at a)))(sc:ScH X.K X.H₀ a (ns.map V.int))(hg:Gl X "len")(hm:X.mg "len"=none)(h:Q (.int ns.length))(f:X.N[i]?=some n:=by rfl)(d:Vis X.env.scope n:=by first|exact Or.inl rfl|exact Or.inr (Or.inl rfl)|exact Or.inr (Or.inr rfl))
  (hd:(n == ("__debug__":Str))=false:=by decide) (b:(n == ("__classdict__":Str))=false:=by decide) (he:Af [.Name n p'] X.env=(false,eval (.Name n p') X.env)::Af [] X.env:=by rfl):EvD X O (.Call (.Name "len" p) [.Name n p'] [] pos) Q:=λF σ H R m k=>by
 refine⟨_,xC (bz sc) hg hm PySem.boot_len (zw (yu f d hd b) zQ he) (he:=he),?_⟩;obtain⟨s,c⟩:=m.at' hi;have e1:s=some (.ref a):=m.ok i _ s hi c;subst e1;refine⟨.ref a,c,rfl,?_⟩;rw[zK3];exact k _ _ H h m.tp Kz.refl (.int _)
def zb4 (i:Nat){n:Str}(hi:O[i]?=some (some (.at a)))(sc:ScH X.K X.H₀ a (ns.map V.int))(b:uR e)(h:EvD X O e λy=>∃k:Int,y=.int k/\0<=k/\k<ns.length/\∀z,Q (.int z))(g:X.N[i]?=some n:=by rfl)(f:Vis X.env.scope n:=by first|exact Or.inl rfl|exact Or.inr (Or.inl rfl)|exact Or.inr (Or.inr rfl))
  (hd:(n == ("__debug__":Str))=false:=by decide) (d:(n == ("__classdict__":Str))=false:=by decide):EvD X O (.Subscript (.Name n p') e pos) Q:=λF σ H R m k=>by
 refine⟨_,wx (zB3 sc) (yu g f hd d) zh b,?_⟩;obtain⟨s,b⟩:=m.at' hi;have e1:s=some (.ref a):=m.ok i _ s hi b;subst e1;refine⟨.ref a,b,?_⟩;refine h F σ H _ m λy r H1 o t1 k1 j=>?_;obtain⟨c,rfl,k0,l,q⟩:=o;cases j.int_inv;have lt:c.toNat<ns.length:=by omega
 refine⟨c,.int ns[c.toNat],rfl,rfl,?_,k _ _ H1 (q _) t1 k1 (.int _)⟩;unfold atI ixN;rw[if_pos k0,zK3,if_pos l];show(ns.map V.int)[c.toNat]?=_;rw[zM3,zK4 lt];rfl
end
section
variable {X:Cx}{e:Am}{es:List Am}{x:Str}{p pos:Pos}{f:Ad}{fd:Ao}{ps:List Str}{sp:Sp}{k:Nat}{CX:CXT}{E:XK}{t:TA}
def gU (F:zS X.prog X.w X.K X.mg X.base CX k f fd ps sp)(hr:zB k X.A)(hg:Gl X x)(hm:X.mg x=some (.ref f))(hk:PySem.W.keepIn X.K (.ref f)=true)(hb:Binds X.K fd ps [])(c:Passes CX X E)
  (ha:PA X (e::es) t) (b:(x == ("__debug__":Str))=false:=by decide) (he:Af (e::es) X.env=(false,eval e X.env)::Af es X.env:=by rfl) (hpl:(backTo pos (Af es X.env)).any (·.1)=false:=by rfl):
  PE X (.Call (.Name x p) (e::es) [] pos) (λσ H Q=>t σ H λvs H1=>∀pins s,Inv X pins σ H1 s->sp (vs++[]) H1 Q E):=by
 intro pins s σ H Q I h;refine zS1 (yV I hg hm ?_ b);refine zV1 (h₀:=X.base) I.ok.mod.kin hk (thn (ha pos pins s σ H _ I h) λus s1 ⟨vs,H1,a,r,q⟩=>⟨a.kIn,?_⟩) he hpl;exact qY F hr hb .nil c a r (q pins s1 a)
end
section
variable {X:Cx}{O:Ev}{e:Am}{pos p p':Pos}{Q:Aa->Prop}{a:Ad}{ns:List Int}{f:Ad}{fd:Ao}{ps:List Str}{x n:Str}
def kr (i:Nat)(G:zS X.prog X.w X.K X.mg X.base CX0 1 f fd ps (qA X.K))(hr:zB 1 X.A)(hg:Gl X x)(hm:X.mg x=some (.ref f))(hk:PySem.W.keepIn X.K (.ref f)=true)(hb:Binds X.K fd ps [])(hi:O[i]?=some (some (.at a)))(sc:ScH X.K X.H₀ a (ns.map V.int))(t:ns.length<=63)
  (h:EvD X O e λy=>∃k:Int,y=.int k/\0<=k/\∀z,Q (.int z)) (B:X.N[i]?=some n:=by rfl) (l:Vis X.env.scope n:=by first|exact Or.inl rfl|exact Or.inr (Or.inl rfl)|exact Or.inr (Or.inr rfl))
  (hd:(n == ("__debug__":Str))=false:=by decide) (c:(n == ("__classdict__":Str))=false:=by decide) (b:(x == ("__debug__":Str))=false:=by decide) (he:Af [.Name n p',e] X.env=(false,eval (.Name n p') X.env)::Af [e] X.env:=by rfl) (d:Af [e] X.env=(false,eval e X.env)::Af [] X.env:=by rfl) (hpl:(backTo pos (Af [e] X.env)).any (·.1)=false:=by rfl):
  EvD X O (.Call (.Name x p) [.Name n p',e] [] pos) Q:=λF σ H R m k=>by
 refine⟨_,gU G hr hg hm hk hb rW (zw (yu B l hd c) (zw zh zQ d) he) b he hpl,?_⟩;obtain⟨s,g⟩:=m.at' hi;have e1:s=some (.ref a):=m.ok i _ s hi g;subst e1;refine⟨.ref a,g,?_⟩;refine h F σ H _ m λy D H1 v t1 k1 C=>?_;obtain⟨u,rfl,k0,q⟩:=v;cases C.int_inv;intro pins s I;exact⟨a,ns,u,rfl,Inv.sc I sc,k0,t,t1.tab,λz H' j r=>k _ _ H' (q z) (t1.offT r j) (k1.trans λx o e n=>j x o e n.2) (.int _)⟩
end
section
variable {P:Ah}{w:Ak}{K:Ae}{mg:Str->Option Ab}{base:An}
def zG4 {st:Ap}{f:Ad}{fd:Ao}{d:List Str}{k:Nat}(G:Fun K "law" "law" st f fd)(S:zA ("_law_script"::d) ["_law_script"] (zb st))
  (c:∀(cdv:Ab) (g:Al) (outer:List Ar) (s:Ac) (H:Hp) (E:XK) (a:Ad) (ns:List Int),zB k (g.deeper (envOfC "law" (zb st) s.heap.objs.size f cdv))->ns.length<=63->ScH K H a (ns.map V.int)->
   SvS (yS CX0 P w K mg base ("_law_script"::d) "law" (zb st) f cdv g outer s H E).nox (some (.at a)::List.replicate d.length none) (zt st) {nx:=λ_=>False,rt:=λa=>a=.dat (.bool true)}):
  zS P w K mg base CX0 (k+1) f fd ["_law_script"] (sj K):=by
 refine G.ok S (λvs H Q E h=>?_) (λcdv g outer s H vs o E hr h=>?_)
 .obtain⟨a,ns,rfl,_⟩:=h;rfl
 .obtain⟨a,ns,rfl,m,hn,j,l⟩:=h;have n:M (fr0 H) (List.replicate (d.length+1) none) (L2.start ("_law_script"::d) [.ref a]) H:=M.zero j (by unfold L2.start;simp);have m1:=n.note (i:=0) (b:=.at a) (λs x z=>z) trivial (λs e=>(zO2 e).symm);refine c cdv g outer s H E a ns hr hn m (fr0 H) _ H _ m1 ⟨λ_ _ _ _ z=>z.elim,λz v H' r e=>?_,λ_ _ _ _ z=>z.elim,λ_ _ _ _ z=>z.elim⟩;cases e;obtain⟨_,_,r⟩:=r;rw[AV.bl_inv r];exact l H'
def zD8 {st:Ap}{f:Ad}{fd:Ao}{x:Str}(G:Fun K x x st f fd)(S:zA ["_law_script","_law_k"] ["_law_script","_law_k"] (zb st))
  (d:∀(cdv:Ab) (g:Al) (outer:List Ar) (s:Ac) (H:Hp) (E:XK) (a:Ad) (ns:List Int) (i:Int),zB 0 (g.deeper (envOfC x (zb st) s.heap.objs.size f cdv))->ns.length<=63->ScH K H a (ns.map V.int)->0<=i->
   SvS (yS CX0 P w K mg base ["_law_script","_law_k"] x (zb st) f cdv g outer s H E).nox [some (.at a),some (.dat (.int i))] (zt st) {nx:=λ_=>False,rt:=λb=>∃z,b=.dat (.int z)}):
  zS P w K mg base CX0 1 f fd ["_law_script","_law_k"] (qA K):=by
 refine G.ok S (λvs H Q E h=>?_) (λcdv g outer s H vs y E hr h=>?_)
 .obtain⟨a,ns,k,rfl,_⟩:=h;rfl
 .obtain⟨a,ns,i,rfl,q,p,hn,l,m⟩:=h;have u:M (fr0 H) (List.replicate 2 none) (L2.start ["_law_script","_law_k"] [.ref a,.int i]) H:=M.zero l (by unfold L2.start;simp);have m1:=(u.note (i:=0) (b:=.at a) (λs x z=>z) trivial (λs e=>(zO2 e).symm)).note (i:=1) (b:=.dat (.int i)) (λs x z=>z) trivial (λs e=>⟨.int i,(zO2 e).symm,.int _⟩);refine d cdv g outer s H E a ns i hr hn q p (fr0 H) _ H _ m1 ⟨λ_ _ _ _ z=>z.elim,λz v H' r e=>?_,λ_ _ _ _ z=>z.elim,λ_ _ _ _ z=>z.elim⟩;obtain⟨z,rfl⟩:=e;obtain⟨j,kz,r⟩:=r;cases AV.int_inv r;exact m z H' (λx o e n=>kz x o e ⟨(λt b c w=>by cases w),n⟩) j.tab
end
def zA.o {N P:List Str}{sc:Aq}(d:sc.kind=.function:=by rfl)(g:sc.isCoroutine=false:=by rfl)(e:sc.isGenerator=false:=by rfl)(c:N.Nodup:=by decide +kernel)(b:N.take P.length=P:=by rfl)(f:∀x∈P,sc.names.lookup x=some .local\/sc.names.lookup x=some .cell:=by decide +kernel)(a:∀y∈sc.names,y.2≠.free:=by decide +kernel):zA N P sc:=⟨d,g,e,c,b,f,a⟩
abbrev Ph :=List A->(A->Prop)->Prop
section
variable {P:Ah}{w:Ak}{K:Ae}{mg:Str->Option Ab}{base:An}
def FnD (K:Ae)(mg:Str->Option Ab)(x:Str)(st:Ap)(ps:List Str):Prop:=∃f fd,Fun K x x st f fd/\mg x=some (.ref f)/\Binds K fd ps []
def yL {x:Str}{st:Ap}{ps:List Str}{k:Nat}{φ:List A->(A->Prop)->Prop}(N:List Str)(G:FnD K mg x st ps)
  (a:∀(f:Ad) (cdv:Ab) (b:Al) (outer:List Ar) (s:Ac) (H:Hp) (E:XK) (as:List A) (Q:A->Prop),N.Nodup->zB k (b.deeper (envOfC x (zb st) s.heap.objs.size f cdv))->φ as Q->
   SvS (yS CX0 P w K mg base N x (zb st) f cdv b outer s H E).nox (as.map some++List.replicate (N.length-as.length) none) (zt st) {nx:=λ_=>Q (.dat .none),rt:=Q})
  (S:zA N ps (zb st):=by exact .o) (hlen:∀as Q,φ as Q->as.length=ps.length:=by intro _ _ h;repeat first|(obtain⟨rfl,_⟩:=h;rfl)|obtain⟨_,h⟩:=h):Cal P w K mg base x (k+1) φ:=by
 obtain⟨f,fd,F,hm,hb⟩:=G;exact zC0 F hm hb S hlen λcdv b outer s H E as Q hr h=>a f cdv b outer s H E as Q S.nd hr h
def pJ {C f:Ad}{fd:Ao}{m d:Str}{st:Ap}{ps:List Str}{k:Nat}{φ:List A->(A->Prop)->Prop}(N:List Str)(c:Cls K C)(e:Meth K C m f)(F:Fun K m d st f fd)(hb:Binds K fd ps [])
  (a:∀(cdv:Ab) (b:Al) (outer:List Ar) (s:Ac) (H:Hp) (E:XK) (as:List A) (Q:A->Prop),N.Nodup->zB k (b.deeper (envOfC d (zb st) s.heap.objs.size f cdv))->φ as Q->
   SvS (yS CX0 P w K mg base N d (zb st) f cdv b outer s H E).nox (as.map some++List.replicate (N.length-as.length) none) (zt st) {nx:=λ_=>Q (.dat .none),rt:=Q})
  (S:zA N ps (zb st):=by exact .o) (hlen:∀as Q,φ as Q->as.length=ps.length:=by intro _ _ h;repeat first|(obtain⟨rfl,_⟩:=h;rfl)|obtain⟨_,h⟩:=h):xq P w K mg base C m (k+1) φ:=
 ⟨f,fd,ps,c,e,hb,fnA F S hlen λcdv b outer s H E as Q hr h=>a cdv b outer s H E as Q S.nd hr h⟩
end
end L2
set_option maxHeartbeats 4000000
namespace K68
open PySem PySem.Spec PyProof.Rows L2
def top (i:Nat):Ap:=PySem.Challenge.pw_stayprice_k68_at_most_twelve_rules.main.body.getD i (.Pass ⟨0,0,0,0⟩)
abbrev eE :Ap:=top 56
abbrev eH :Ap:=top 55
def kn :Ph:=λas Q=>∃c:Int,as=[.dat (.int c)]/\∀x y:Int,0<=y->y<4294967296->Q (.own [.int x,.int y])
section
variable {P:Ah}{w:Ak}{K:Ae}{mg:Str->Option Ab}{base:An}
def mh :zA ["_law_row","_law_base","_law_found","_law_number"] ["_law_row","_law_base"] (zb eE):=.o
def zb1 {f:Ad}{fd:Ao}(F:Fun K "_law_take" "_law_take" eE f fd):zS P w K mg base CX0 1 f fd ["_law_row","_law_base"] fc:=by
 refine F.ok mh (λvs H Q E h=>?_) (λcdv A outer s H vs Q E hr h=>?_)
 .obtain⟨t,b,c,many,rfl,_⟩:=h;rfl
 .obtain⟨t,b,c,many,rfl,⟨n,bs,cs,⟨r,C⟩,g,hb,J,⟨x,y,rfl,D,B⟩,hn⟩,d,o,k⟩:=h;rw[r,C]at k;have l:many.natAbs.log2<9000:=log2_small d o;have g:H t=some (.lst [.int x,.int y]):=g;refine uZ (λσ q=>σ=[some (.ref t),some (.int many),none,none]/\H=q)
   ⟨_,zf6 (lM cJ (wx yF (pv 0) zU (λ_ _=>rfl)) zU (yo _))
    (zC (qI (i:=2) mh.nd rfl (Or.inl rfl) (yT sF (wx yF (pv 0) zU (λ_ _=>rfl)) (pv 1)))
    (zC (nJ (yT pN (wx yF (pv 0) zU (λ_ _=>rfl)) (pv 1)) (me (pv 0) zU set_list))
    (uS (sQ (pv 2))))) kR,?_⟩ ?_
  .refine⟨_,rfl,t,_,0,_,rfl,rfl,SqL.of g,rfl,_,_,rfl,rfl,_,rfl,?_⟩;refine zF9 (λ_=>?_) (λ_=>⟨rfl,rfl⟩);refine⟨_,rfl,t,_,0,_,rfl,rfl,SqL.of g,rfl,_,rfl,_,_,rfl,rfl,d,?_⟩;refine⟨_,rfl,t,_,0,_,rfl,rfl,SqL.of g,rfl,_,rfl,_,_,rfl,rfl,⟨d,l⟩,?_⟩;refine⟨_,rfl,t,_,0,0,rfl,rfl,g,rfl,_,rfl,?_⟩;refine k _ _ (z62 _ (Int.ne_of_gt d)) (z41 _ d) ⟨0,[x / many,y],[x / many,y],⟨rfl,rfl⟩,zl,zl,zl,⟨_,_,rfl,D,B⟩,rfl⟩ λa m G=>by rw[zj m]
  rintro σ q ⟨rfl,rfl⟩;refine uZ (λσ H1=>∃z:Int,0<=z/\z<2147483647/\σ=[some (.ref t),some (.int many),none,none]/\H1=upd H t (.lst [.int x,.int z]))
   ⟨_,nJ (yT sF (yT qR (yT qr (wx yF (pv 0) zU (λ_ _=>rfl)) zU) zU) zU) (me (pv 0) zU set_list),?_⟩ ?_
  .refine⟨_,rfl,t,_,1,_,rfl,rfl,SqL.of g,rfl,_,_,rfl,rfl,.inl ⟨by omega,by omega⟩,_,_,rfl,rfl,_,_,rfl,rfl,(by show(0:Int)<2147483647;decide),?_⟩;exact⟨_,rfl,t,_,1,1,rfl,rfl,g,rfl,_,z62 _ (by decide),z41 _ (by decide),rfl,rfl⟩
  rintro σ H1 ⟨z,v,I,rfl,j⟩;have e:H1 t=some (.lst [.int x,.int z]):=by rw[j];exact zl
  have off:zm1 t t H H1:=λa m _=>by rw[j,zj m]
  clear j;refine uZ (λσ p=>∃u:Int,σ=[some (.ref t),some (.int many),none,some (.int u)]/\H1=p)
   ⟨_,qI (i:=3) mh.nd rfl (Or.inl rfl) (yT sF (yT qR (yT qR (yT qr (wx yF (pv 0) zU (λ_ _=>rfl)) (wx yF (pv 0) zU (λ_ _=>rfl))) (yT qr zU (wx yF (pv 0) zU (λ_ _=>rfl)))) zU) zU),?_⟩ ?_
  .exact⟨_,rfl,t,_,1,_,rfl,rfl,SqL.of e,rfl,_,rfl,t,_,1,_,rfl,rfl,SqL.of e,rfl,_,_,rfl,rfl,.inl ⟨by omega,by omega⟩,_,rfl,t,_,1,_,rfl,rfl,SqL.of e,rfl,_,_,rfl,rfl,.inl ⟨by decide,by decide⟩,_,_,rfl,rfl,_,_,rfl,rfl,_,_,rfl,rfl,(by show(0:Int)<2147483629;decide),_,rfl,rfl⟩
  rintro σ p ⟨u,rfl,rfl⟩;refine⟨_,uS (sQ (yT sF (yT pN (pv 3) zU) (pv 1))),?_⟩;refine⟨_,rfl,_,_,rfl,rfl,⟨by decide,by decide +kernel⟩,_,rfl,_,_,rfl,rfl,d,?_⟩;exact k _ _ (z62 _ (Int.ne_of_gt d)) (z41 _ d) ⟨0,[x,z],[x,z],⟨rfl,rfl⟩,e,e,e,⟨_,_,rfl,v,by omega⟩,rfl⟩ off
theorem df {f:Ad}{fd:Ao}(hm:mg "_law_take"=some (.ref f))(hk:PySem.W.keepIn K (.ref f)=true)(hb:Binds K fd ["_law_row","_law_base"] [])(G:zS P w K mg base CX0 1 f fd ["_law_row","_law_base"] fc):Cal P w K mg base "_law_take" 1 sg:=by
 refine⟨f,fd,_,hm,hk,hb,G.imp λvs H Q E h=>?_⟩;obtain⟨F,as,p,rfl,t,o,k,⟨n,rfl,h0,i,hq⟩,j⟩:=h;cases k with
 |cons a1 r=>
  obtain⟨a,b,c,e,rfl⟩:=a1;obtain⟨v,rfl,av⟩:=r.one;cases av.int_inv;refine⟨a,b,c,n,rfl,(t a b c e).1,h0,i,λz H' g m TA off=>j _ _ _ (hq z g m) ⟨⟨(by
   obtain⟨_,_,_,_,e1,l,_⟩:=(t a b c e).1.ex;exact ak t.tab e1 l off),t.ot,λt' q c' d=>?_⟩,λy u hy n=>?_,.int z⟩⟩
  .rw[e]at d;cases d;exact⟨TA,(t a b c e).2⟩
  .rw[off y (n.1 _ _ _ e).1 (n.1 _ _ _ e).2];exact hy
def iA (F:FnD K mg "_law_begin" eH ["_law_cell"]):Cal P w K mg base "_law_begin" 1 kn:=by
 refine yL ["_law_cell"] F λ_ _ _ _ _ _ _ _ Q nd hr h=>?_;obtain⟨c,rfl,q⟩:=h;refine wW (ze1 (zc 0 rfl (vO (r:=1000000000000000000) ⟨by decide,by decide,by decide⟩ (by decide) ⟨_,_,rfl,rfl,?_⟩)));refine eW (λ_=>?_) (λ_=>zE ?_)
 .exact vC (xR (zk (nY (zc 0 rfl (vO (r:=1000000000000000000) ⟨by decide,by decide,by decide⟩ (by decide) ⟨_,_,rfl,rfl,zk (zN (zu ⟨_,rfl,zL3 rfl,q _ _ (by decide) (by decide)⟩))⟩)))))
 .refine vC (xR (zk (zN (zk (qN (cR (zc 0 rfl (zN ⟨_,_,rfl,rfl,by decide,zN ⟨_,_,rfl,rfl,zu ⟨_,rfl,zL3 rfl,?_⟩⟩⟩))))))));have a:=z62 c (show(2147483629:Int)≠0 by decide);have b:=z41 c (show(0:Int)<2147483629 by decide);exact q _ _ (by omega) (by omega)
end
end K68
set_option compiler.extract_closed false
set_option hygiene false in
local macro_rules
 |`(tactic| exists $f,$a)=>`(tactic| first|refine $f 0 $a ?_|refine $f 1 $a ?_|refine $f 2 $a ?_|refine $f 3 $a ?_|refine $f 4 $a ?_|refine $f 5 $a ?_|refine $f 6 $a ?_|refine $f 7 $a ?_|refine $f 8 $a ?_|refine $f 9 $a ?_|refine $f 10 $a ?_|refine $f 11 $a ?_|refine $f 12 $a ?_|refine $f 13 $a ?_|refine $f 14 $a ?_|refine $f 15 $a ?_|refine $f 16 $a ?_|refine $f 17 $a ?_)
 |`(tactic| exists $f)=>`(tactic| with_reducible refine $f ?_)
 |`(tactic| specialize $p)=>`(tactic| with_reducible show $p)
set_option hygiene false in
local macro_rules
 |`(tactic| and_intros)=>`(tactic| repeat (first
  |((specialize EvD _ _ _ _);first
   |((specialize EvD _ _ (.Name _ _) _);exists zc,rfl)
   |((specialize EvD _ _ (.Constant _ _ _) _);first|exists zN|exists wZ|exists eO|exists nZ)
   |((specialize EvD _ _ (.BinOp (.Constant (.int 10) _ _) .Pow (.Constant (.int 6) _ _) _) _);refine vO (r:=1000000) ⟨by decide,by decide,by decide⟩ (by decide) ?_)
   |((specialize EvD _ _ (.BinOp (.Constant (.int 10) _ _) .Pow (.Constant (.int 12) _ _) _) _);refine vO (r:=1000000000000) ⟨by decide,by decide,by decide⟩ (by decide) ?_)
   |((specialize EvD _ _ (.BinOp (.Constant (.int 10) _ _) .Pow (.Constant (.int 9) _ _) _) _);refine vO (r:=1000000000) ⟨by decide,by decide,by decide⟩ (by decide) ?_)
   |((specialize EvD _ _ (.BinOp (.Constant (.int 10) _ _) .Pow (.Constant (.int 11) _ _) _) _);refine vO (r:=100000000000) ⟨by decide,by decide,by decide⟩ (by decide) ?_)
   |((specialize EvD _ _ (.BinOp _ .Add (.List _ _) _) _);refine EvL.d (wu ?_))
   |((specialize EvD _ _ (.BinOp (.List _ _) .Add _ _) _);refine EvL.d (wu ?_))
   |((specialize EvD _ _ (.BinOp (.Subscript _ (.Slice _ _ none _) _) .Add _ _) _);refine EvL.d (wu ?_))
   |((specialize EvD _ _ (.BinOp _ .Add (.Subscript _ (.Slice _ _ none _) _) _) _);refine EvL.d (wu ?_))
   |((specialize EvD _ _ (.BinOp (.Call (.Attribute _ "rules" _) _ _ _) .Add _ _) _);refine EvL.d (wu ?_))
   |exists qN
   |exists nY
   |exists cR
   |exists ev_fdiv
   |exists zt4
   |exists ev_shl
   |exists ev_neg
   |exists zm4
   |exists lh
   |((specialize EvD _ _ (.Subscript _ (.Slice _ _ none _) _) _);refine EvL.d (zj2 ?_))
   |((specialize EvD _ _ (.Subscript _ _ _) _);refine zm0 hr.one (fun _ _=>rfl) ?_)
   |((specialize EvD _ _ (.List _ _) _);refine EvL.d (xR ?_))
   |((specialize EvD _ _ (.Call (.Name "len" _) [.Call (.Name "set" _) _ _ _] _ _) _);refine ev_lenSet rfl (by rfl) nb.len (by rfl) (by assumption) ?_)
   |((specialize EvD _ _ (.Call (.Name "len" _) _ _ _) _);refine qB (by rfl) nb.len ?_)
   |((specialize EvD _ _ (.Call (.Name "min" _) [_,_] _ _) _);refine ev_min rfl (by rfl) nb.min ?_)
   |((specialize EvD _ _ (.Call (.Name "max" _) [_,_] _ _) _);refine zo6 rfl (by rfl) nb.max ?_)
   |((specialize EvD _ _ (.Call (.Name "list" _) _ _ _) _);refine EvL.d (el_list (by rfl) nb.list ?_))
   |((specialize EvD _ _ (.Call (.Name "repr" _) _ _ _) _);refine ev_repr hr.gd hr.units (by rfl) nb.repr ?_)
   |((specialize EvD _ _ (.Call (.Name "min" _) [_] _ _) _);refine ev_minI rfl hr.few (by rfl) nb.min ?_)
   |((specialize EvD _ _ (.Call (.Name "isinstance" _) _ _ _) _);first|refine sr (by rfl) nb.isinstance (by rfl) nb.int boot_int ?_|refine sr (by rfl) nb.isinstance (by rfl) nb.bool boot_bool ?_|refine sr (by rfl) nb.isinstance (by rfl) nb.str boot_str ?_|refine sr (by rfl) nb.isinstance (by rfl) nb.list boot_list ?_|refine sr (by rfl) nb.isinstance (by rfl) nb.tuple boot_tuple ?_)
   |((specialize EvD _ _ (.Call (.Name "int" _) _ _ _) _);refine ev_intB (by rfl) nb.int ?_)
   |((specialize EvD _ _ (.Call (.Name _ _) _ _ _) _);first|refine bG (by with_reducible assumption) (by exact⟨rfl,rfl,rfl,rfl,rfl⟩) (hr.mono (by decide)) (by rfl) ?_|refine EvN.d (cE (by with_reducible assumption) (by exact⟨rfl,rfl,rfl,rfl,rfl⟩) (hr.mono (by decide)) (by rfl) ?_))
   |((specialize EvD _ _ (.Call (.Attribute _ _ _) (_::_) _ _) _);refine gJ (by with_reducible assumption) (by exact⟨rfl,rfl,rfl,rfl,rfl⟩) (hr.mono (by decide)) ?_)
   |((specialize EvD _ _ (.Call (.Attribute _ _ _) [] _ _) _);refine iV (by with_reducible assumption) (by exact⟨rfl,rfl,rfl,rfl,rfl⟩) (hr.mono (by decide)) ?_)
   |((specialize EvD _ _ (.Compare _ [_] _ _) _);first|exists zd3|exists zF1|exists zA2|exists ev_ge|exists zo4|exists ev_notN|((specialize EvD _ _ (.Compare _ [.Eq] _ _) _);refine zr3 hr.units ?_)|((specialize EvD _ _ (.Compare _ [.NotEq] _ _) _);refine ev_nek hr.units ?_)|((specialize EvD _ _ (.Compare _ [.In] _ _) _);refine ev_ink hr.one ?_)|((specialize EvD _ _ (.Compare _ [.NotIn] _ _) _);refine ev_nink hr.one ?_)|((specialize EvD _ _ (.Compare _ [.Is] [.Constant (.bool _) _ _] _) _);refine ev_isB ?_))
   |((specialize EvD _ _ (.Compare _ [_,_] _ _) _);first|refine ev_lelt ?_|refine ev_ltle ?_|refine dH ?_)
   |((specialize EvD _ _ (.BoolOp _ _ _) _);first|exists zp0|exists zE7|exists zr0)
   |exists mJ)
  |((specialize EvA _ _ _ _);first
   |exists zu
   |((specialize EvA _ _ (.Name "_law_row" _::_) _);exists aC,rfl)
   |refine zk ?_)
  |((specialize EvT _ _ _ _);first
   |((specialize EvT _ _ (.Compare _ [_] _ _) _);first|exists zf1|exists et_le|exists zi3|exists ze1|exists wY|exists ag|((specialize EvT _ _ (.Compare _ [.Eq] _ _) _);refine zr5 hr.units ?_)|((specialize EvT _ _ (.Compare _ [.NotEq] _ _) _);refine zs6 hr.units ?_)|((specialize EvT _ _ (.Compare _ [.In] _ _) _);refine et_ink hr.one ?_)|((specialize EvT _ _ (.Compare _ [.NotIn] _ _) _);refine et_nink hr.one ?_)|((specialize EvT _ _ (.Compare _ [.Is] [.Constant (.bool _) _ _] _) _);refine et_isB ?_)|((specialize EvT _ _ (.Compare _ [.IsNot] [.Constant (.bool _) _ _] _) _);refine et_isntB ?_))
   |((specialize EvT _ _ (.Compare _ [_,_] _ _) _);first|refine et_lelt ?_|refine et_ltle ?_|refine dQ ?_)
   |exists fN
   |((specialize EvT _ _ (.BoolOp _ _ _) _);exists EvW.t)
   |refine ff ?_)
  |((specialize EvL _ _ _ _);first
   |exists xR
   |((specialize EvL _ _ (.Call (.Name "list" _) _ _ _) _);refine el_list (by rfl) nb.list ?_)
   |((specialize EvL _ _ (.Call (.Name _ _) _ _ _) _);refine el_calR (by with_reducible assumption) (by exact⟨rfl,rfl,rfl,rfl,rfl⟩) (hr.mono (by decide)) (by rfl) ?_)
   |((specialize EvL _ _ (.Call (.Attribute _ _ _) [] _ _) _);refine el_meth0R (by with_reducible assumption) (by exact⟨rfl,rfl,rfl,rfl,rfl⟩) (hr.mono (by decide)) ?_)
   |((specialize EvL _ _ (.Subscript _ (.Slice _ _ none _) _) _);refine zj2 ?_)
   |((specialize EvL _ _ (.BinOp _ .Add _ _) _);refine wu ?_))
  |((specialize EvW _ _ _ _);first
   |exists vS
   |exists zB7
   |exists uU
   |exists mD)
  |((specialize EvO _ _ _ _);first
   |exists bQ
   |exists ah)
  |((specialize zl3 _ _ _);first
   |refine ixk rfl rfl rfl ?_
   |refine ixk_0 ?_
   |refine ixk_1 ?_)
  |((specialize InOk _ _ _ _);first
   |refine ink rfl rfl ?_
   |refine ink_hind ?_
   |refine inkT rfl rfl ?_)
  |((specialize qX _ _ _);first
   |exists ao
   |exists tq
   |exists nA
   |refine eqk rfl rfl rfl rfl ?_)
  |((specialize SvS _ _ _ _);first
   |((specialize SvS _ (List.set _ _ _) _ _);dsimp only[List.set])
   |((specialize SvS _ _ (zt _) _);show SvS _ _ (_::_) _)
   |((specialize SvS _ _ (.Assign [.Name _ _] (.List [] _) _::_) _);exists xt,nd)
   |((specialize SvS _ _ (.Assign [.Name _ _] _ _::_) _);exists yq,nd)
   |((specialize SvS _ _ (.Expr (.Call (.Attribute _ "append" _) _ _ _) _::_) _);exists vQ,rfl)
   |((specialize SvS _ _ (.Return (some (.Name _ _)) _::_) _);exists wF,rfl)
   |exists yP
   |exists sv_cont
   |exists sv_pass
   |exists wW
   |exists zE
   |((with_reducible refine qk ?hk ?_);case hk=>first|rfl|decide +kernel)
   |((with_reducible refine xK ?hk ?_);case hk=>first|rfl|decide +kernel))
  |((specialize sg _ _);refine⟨_,rfl,by first|decide|omega,by first|decide|(show _<big;unfold big;omega),fun _ _ _=>?_⟩)
  |((with_reducible refine uE ?hk ?_);case hk=>first|rfl|decide +kernel)
  |((with_reducible refine vt ?hk ?_);case hk=>first|rfl|decide +kernel)
  |refine⟨_,_,rfl,rfl,?_⟩
  |refine⟨_,_,_,rfl,rfl,rfl,?_⟩
  |refine⟨_,rfl,zL3 rfl,?_⟩
  |refine⟨_,rfl,rfl,?_⟩
  |refine⟨_,rfl,?_⟩))
namespace K68
open PySem PySem.Spec PyProof.Rows L2
abbrev fJ :Ap:=top 3
abbrev lW :Ap:=top 4
abbrev zf2 :Ap:=top 5
abbrev zB4 :Ap:=top 6
abbrev ze6 :Ap:=top 7
abbrev pT :Ap:=top 8
abbrev zd1 :Ap:=inClass (top 34) 0
abbrev zd2 :Ap:=inClass (top 34) 2
abbrev gr :Ap:=inClass (top 34) 3
abbrev za3 :Ap:=inClass (top 35) 0
abbrev zt0 :Ap:=inClass (top 36) 0
abbrev zI6 :Ap:=inClass (top 37) 0
abbrev aG :Ap:=inClass (top 38) 0
abbrev zn7 :Ap:=inClass (top 39) 0
abbrev zt9 :Ap:=inClass (top 40) 0
abbrev zE0 :Ap:=inClass (top 41) 0
abbrev cF :Ap:=top 43
abbrev kE :Ap:=top 44
abbrev gS :Ap:=top 45
abbrev kL :Ap:=top 46
abbrev zg8 :Ap:=top 47
abbrev ki :Ap:=top 48
def oQ (d:Aa):zT (.str "price") d=(isNone d||sJ d):=rfl
def lq (d:Aa):zT (.str "come") d=isBool d:=rfl
def fh (d:Aa):zT (.str "go") d=isBool d:=rfl
def ni (d:Aa):zT (.str "least") d=yW 1 14 d:=rfl
def nM (d:Aa):zT (.str "most") d=yW 1 14 d:=rfl
def lC (d:Aa):zT (.str "deal") d=(isNone d||tW d):=rfl
def rP (d:Aa):zT (.str "fee") d=sJ d:=rfl
theorem zz {lo hi:Int}{d:Aa}(h:yW lo hi d=true):∃i,d=.int i/\lo<=i/\i<=hi:=by
 cases d with
 |int i=>exact⟨i,rfl,zW9 (zW2.mp h).1,zW9 (zW2.mp h).2⟩
 |_=>cases h
theorem bool_inv {d:Aa}(h:isBool d=true):∃b,d=.bool b:=by
 cases d with
 |bool b=>exact⟨b,rfl⟩
 |_=>cases h
def uk {d:Aa}(h:tW d=true):∃m f:Int,d=.tuple [.int m,.int f]/\2<=m/\m<=14/\1<=f/\f<=m-1:=by
 unfold tW at h;split at h
 .obtain⟨g,i⟩:=zW2.mp h;obtain⟨_,rfl,b,a⟩:=zz i;obtain⟨_,e,c,j⟩:=zz g;cases e;exact⟨_,_,rfl,c,j,b,a⟩
 .cases h
theorem none_or {d:Aa}{p:Bool}(h:(isNone d||p)=true):d=.none\/p=true:=by
 cases d with
 |none=>exact .inl rfl
 |_=>exact .inr h
def yn {d:Aa}(h:yf d=true):∃(s:Str) (i j:Int) (v:Aa),s∈words/\d=.tuple [.str s,.int i,.int j,v]/\0<=i/\i<=j/\j<=1000000/\zT (.str s) v=true:=by
 obtain⟨s,a,b,v,f,rfl⟩:=uq h;obtain⟨c,l⟩:=zW2.mp (show(we (.tuple [a,b])&&zT (.str s) v)=true from h);unfold we zt5 at c;split at c
 .rename_i k e;split at e
  .rename_i z;cases z;split at e
   .rename_i q;cases e;obtain⟨n,o⟩:=zW2.mp q;obtain⟨_,e1,p,a1⟩:=zz n;obtain⟨_,m,r,g⟩:=zz o;cases e1;cases m;have:=zW9 c;exact⟨s,_,_,v,f,rfl,p,by omega,g,l⟩
   .cases e
  .cases e
 .cases c
def wX {s:Str}{v:Aa}(a:s∈words)(h:zT (.str s) v=true):v.hasDict=false/\noL v=true:=by
 have w:∀{lo hi:Int},yW lo hi v=true->v.hasDict=false/\noL v=true:=λz=>by obtain⟨_,rfl,_⟩:=zz z;exact⟨rfl,rfl⟩
 have b:isBool v=true->v.hasDict=false/\noL v=true:=λz=>by obtain⟨_,rfl⟩:=bool_inv z;exact⟨rfl,rfl⟩
 simp only[words,zK8,zM5,zP8]at a;rcases a with rfl|rfl|rfl|rfl|rfl|rfl|rfl
 .rcases none_or h with rfl|h
  .exact⟨rfl,rfl⟩
  .exact w h
 .exact b h
 .exact b h
 .exact w h
 .exact w h
 .rcases none_or h with rfl|h
  .exact⟨rfl,rfl⟩
  .obtain⟨_,_,rfl,_⟩:=uk h;exact⟨rfl,rfl⟩
 .exact w h
def zk5 :Ph:=λas Q=>∃i:Int,as=[.dat (.int i)]/\Q (.dat (.bool true))
def dY :Ph:=λas Q=>∃i lo hi:Int,as=[.dat (.int i),.dat (.int lo),.dat (.int hi)]/\lo<=i/\i<=hi/\Q (.dat (.bool true))
def zt1 :Ph:=λas Q=>∃i j:Int,as=[.dat (.tuple [.int i,.int j])]/\Q (.dat (.bool true))
def zF7 :Ph:=λas Q=>∃i:Int,as=[.dat (.int i)]/\0<=i/\i<=1000000/\Q (.dat (.bool true))
def bL :Ph:=λas Q=>∃i j:Int,as=[.dat (.tuple [.int i,.int j])]/\0<=i/\i<=j/\j<=1000000/\Q (.dat (.bool true))
def zF4 :Ph:=λas Q=>∃d,as=[.dat d]/\sJ d=true/\Q (.dat (.bool true))
def zz0 :Ph:=λas Q=>∃d,as=[.dat d]/\tW d=true/\Q (.dat (.bool true))
def zA4 :Ph:=λas Q=>∃s d,as=[.dat (.str s),.dat d]/\s∈words/\zT (.str s) d=true/\Q (.dat (.bool true))
def zy1 :Ph:=λas Q=>∃d,as=[.dat d]/\yf d=true/\Q (.dat (.bool true))
section
variable {P:Ah}{w:Ak}{K:Ae}{mg:Str->Option Ab}{base:An}{cs:Cs}
def bE (F:FnD K mg "is_whole" fJ ["thing"])(nb:NbT mg):Cal P w K mg base "is_whole" 1 zk5:=by
 refine yL ["thing"] F λ_ _ _ _ _ _ _ _ Q nd hr h=>?_;obtain⟨i,rfl,q⟩:=h;and_intros;exact q
def lg (F:FnD K mg "is_whole_within" lW ["thing","lowest","highest"])(c:Cal P w K mg base "is_whole" 1 zk5):Cal P w K mg base "is_whole_within" 2 dY:=by
 refine yL ["thing","lowest","highest"] F λ_ _ _ _ _ _ _ _ Q nd hr h=>?_;obtain⟨i,lo,hi,rfl,a,b,q⟩:=h;and_intros;refine uE (zN5 a) ?_;and_intros;rw[zN5 b];exact q
def du (F:FnD K mg "is_pair" zf2 ["thing"])(nb:NbT mg):Cal P w K mg base "is_pair" 1 zt1:=by
 refine yL ["thing"] F λ_ _ _ _ _ _ _ _ Q nd hr h=>?_;obtain⟨i,j,rfl,q⟩:=h;and_intros;exact q
def jM (F:FnD K mg "is_day" zB4 ["thing"])(gl:∃t,mg "LAST_DAY"=some (.int 1000000 t))(c:Cal P w K mg base "is_whole_within" 2 dY):Cal P w K mg base "is_day" 3 zF7:=by
 refine yL ["thing"] F λ_ _ _ _ _ _ _ _ Q nd hr h=>?_;obtain⟨i,rfl,a,b,q⟩:=h;and_intros;exact zY (by rfl) gl (zu ⟨_,_,_,rfl,a,b,q⟩)
def cO (F:FnD K mg "is_pair_of_days" ze6 ["thing"])(c:Cal P w K mg base "is_pair" 1 zt1)(d:Cal P w K mg base "is_day" 3 zF7):Cal P w K mg base "is_pair_of_days" 4 bL:=by
 refine yL ["thing"] F λ_ _ _ _ _ _ _ _ Q nd hr h=>?_;obtain⟨i,j,rfl,a,e,b,q⟩:=h;and_intros;refine⟨_,_,rfl,?_⟩;and_intros;refine⟨a,by omega,?_⟩;and_intros;exact⟨by omega,b,q⟩
def pH (F:FnD K mg "is_stretch" pT ["thing"])(d:Cal P w K mg base "is_pair_of_days" 4 bL):Cal P w K mg base "is_stretch" 5 bL:=by
 refine yL ["thing"] F λ_ _ _ _ _ _ _ _ Q nd hr h=>?_;obtain⟨i,j,rfl,b,a,c,q⟩:=h;and_intros;refine⟨_,_,rfl,b,a,c,?_⟩;and_intros;rw[zN5 a];exact q
def pZ (F:FnD K mg "is_coins" cF ["thing"])(gl:∃t,mg "MOST_COINS"=some (.int 1000000000000 t))(c:Cal P w K mg base "is_whole_within" 2 dY):Cal P w K mg base "is_coins" 3 zF4:=by
 refine yL ["thing"] F λ_ _ _ _ _ _ _ _ Q nd hr h=>?_;obtain⟨d,rfl,h,q⟩:=h;obtain⟨i,rfl,a,b⟩:=zz h;and_intros;exact zY (by rfl) gl (zu ⟨_,_,_,rfl,a,b,q⟩)
def mP (F:FnD K mg "is_deal" kE ["thing"])(gl:∃t,mg "MOST_NIGHTS"=some (.int 14 t))(g:Cal P w K mg base "is_pair" 1 zt1)(i:Cal P w K mg base "is_whole_within" 2 dY):Cal P w K mg base "is_deal" 3 zz0:=by
 refine yL ["thing"] F λ_ _ _ _ _ _ _ _ Q nd hr h=>?_;obtain⟨d,rfl,h,q⟩:=h;obtain⟨m,f,rfl,a,b,e,c⟩:=uk h;and_intros;refine⟨_,_,rfl,?_⟩;and_intros;refine zY (by rfl) gl (zu ⟨_,_,_,rfl,a,b,?_⟩);and_intros;exact⟨_,_,_,rfl,e,c,q⟩
def nq (F:FnD K mg "is_worth" gS ["word","thing"])(nb:NbT mg)(gl:∃t,mg "MOST_NIGHTS"=some (.int 14 t))(k:Cal P w K mg base "is_whole_within" 2 dY)(j:Cal P w K mg base "is_coins" 3 zF4)(g:Cal P w K mg base "is_deal" 3 zz0):Cal P w K mg base "is_worth" 4 zA4:=by
 refine yL ["word","thing"] F λ_ _ _ _ _ _ _ _ Q nd hr h=>?_;obtain⟨s,d,rfl,e,h,q⟩:=h;simp only[words,zK8,zM5,zP8]at e;rcases e with rfl|rfl|rfl|rfl|rfl|rfl|rfl
 .rcases none_or h with rfl|h
  .and_intros;exact q
  .obtain⟨i,rfl,_⟩:=zz h;and_intros;exact⟨h,q⟩
 .obtain⟨b,rfl⟩:=bool_inv h;and_intros;exact q
 .obtain⟨b,rfl⟩:=bool_inv h;and_intros;exact q
 .obtain⟨i,rfl,a,c⟩:=zz h;and_intros;exact zY (by rfl) gl (zu ⟨_,_,_,rfl,a,c,q⟩)
 .obtain⟨i,rfl,a,c⟩:=zz h;and_intros;exact zY (by rfl) gl (zu ⟨_,_,_,rfl,a,c,q⟩)
 .rcases none_or h with rfl|h
  .and_intros;exact q
  .obtain⟨m,f,rfl,_⟩:=uk h;and_intros;exact⟨h,q⟩
 .and_intros;exact⟨h,q⟩
def mZ (F:FnD K mg "is_rule" kL ["thing"])(nb:NbT mg)(k:Cal P w K mg base "is_stretch" 5 bL)(g:Cal P w K mg base "is_worth" 4 zA4):Cal P w K mg base "is_rule" 6 zy1:=by
 refine yL ["thing"] F λ_ _ _ _ _ _ _ _ Q nd hr h=>?_;obtain⟨d,rfl,h,q⟩:=h;obtain⟨s,i,j,v,a,rfl,c,e,f,b⟩:=yn h;have hf:=(wX a b).1;and_intros;refine⟨true,by simp[PyData.hasDict,PyData.hasDictAll,hf],rfl,?_⟩;and_intros;refine⟨_,_,rfl,c,e,f,?_⟩;and_intros;exact⟨_,_,rfl,a,b,q⟩
def uv (C:Ad)(a b v:Aa):Aa:=xY C [(.str "first",a),(.str "last",b),(.str "worth",v)]
def vG (cs:Cs):Aa->Aa
 |.tuple [.str w,a,b,v]=>uv (cs.of w) a b v
 |_=>.none
def oY (C:Ad):Ph:=λas Q=>∃a b v,as=[.dat a,.dat b,.dat v]/\noL a=true/\noL b=true/\noL v=true/\Q (.dat (uv C a b v))
def zA9 (cs:Cs):Ph:=λas Q=>∃s a b v,as=[.dat (.str s),.dat a,.dat b,.dat v]/\s∈words/\noL a=true/\noL b=true/\noL v=true/\Q (.dat (uv (cs.of s) a b v))
def oO (cs:Cs):Ph:=λas Q=>∃d,as=[.dat d]/\yf d=true/\Q (.dat (vG cs d))
def lE (C:Ad)(w:Str):Ph:=λas Q=>∃a b v,as=[.dat (uv C a b v)]/\Q (.dat (.tuple [.str w,a,b,v]))
def qx (C:Ad)(w:Str):Ph:=λas Q=>∃a b v,as=[.dat (uv C a b v)]/\Q (.dat (.str w))
def tV (C:Ad):Ph:=λas Q=>∃(a b day:Int) (v:Aa),as=[.dat (uv C (.int a) (.int b) v),.dat (.int day)]/\Q (.dat (.bool (decide (a<=day)&&decide (day<=b))))
def cU (F:FnD K mg "made" zg8 ["word","first","last","worth"])(k:um P w K mg base "Price" 1 [] (oY cs.price))(g:um P w K mg base "Come" 1 [] (oY cs.come))(l:um P w K mg base "Go" 1 [] (oY cs.go))(e:um P w K mg base "Least" 1 [] (oY cs.least))(f:um P w K mg base "Most" 1 [] (oY cs.most))(j:um P w K mg base "Deal" 1 [] (oY cs.deal))(i:um P w K mg base "Fee" 1 [] (oY cs.fee)):Cal P w K mg base "made" 3 (zA9 cs):=by
 refine yL ["word","first","last","worth"] F λ_ _ _ _ _ _ _ _ Q nd hr h=>?_;obtain⟨s,a,b,v,rfl,c,ha,hb,d,q⟩:=h;simp only[words,zK8,zM5,zP8]at c;rcases c with rfl|rfl|rfl|rfl|rfl|rfl|rfl<;>and_intros<;>exact⟨_,_,_,rfl,ha,hb,d,q⟩
def nG (F:FnD K mg "rule_of" ki ["thing"])(CR:Cal P w K mg base "is_rule" 6 zy1)(c:Cal P w K mg base "made" 3 (zA9 cs)):Cal P w K mg base "rule_of" 7 (oO cs):=by
 refine yL ["thing"] F λ_ _ _ _ _ _ _ _ Q nd hr h=>?_;obtain⟨d,rfl,h,q⟩:=h;obtain⟨s,i,j,v,a,rfl,e,f,g,b⟩:=yn h;and_intros;refine⟨h,?_⟩;and_intros;exact⟨_,_,_,_,rfl,a,rfl,rfl,(wX a b).2,q⟩
def yA {x:Str}{C f fT fE fW:Ad}{fd:Ao}(R:uN K C f fT fE fW)(hm:mg x=some (.ref C))(F:Fun K "__init__" "Rule.__init__" zd1 f fd)(hb:Binds K fd ["self","first","last","worth"] []):um P w K mg base x 1 [] (oY C):=by
 refine⟨C,f,fd,_,[],hm,R.makes,hb,.nil,F.ok (N:=["self","first","last","worth"]) .o (λvs H Q E h=>?_) (λcdv A outer s H vs Q E hr h=>?_)⟩
 .obtain⟨_,as,_,_,_,_,_,rfl,_,_,_,_,_,_,_,c,⟨a,b,v,rfl,_⟩,_⟩:=h;exact congrArg (·+1) c.length
 .obtain⟨G,as,O,p,dx,vs',H1,rfl,i,L,hn,rfl,rfl,t,o,c,⟨a,b,v,rfl,n1,n2,M,q⟩,B⟩:=h;cases c with
  |cons I c=>cases c with
   |cons J c=>cases c with
    |cons D c=>
     cases c;rename_i x y z;refine⟨_,zC (qS (pv 0) (pv 1) rfl) (zC (qS (pv 0) (pv 2) rfl) (uS (qS (pv 0) (pv 3) rfl))),_,rfl,_,rfl,p,C,dx,[],rfl,zl,R.cl,R.nf,(by decide:0<1000),_,rfl,_,rfl,p,C,dx,_,rfl,zl,R.cl,R.nl,(show 1<1000 by decide),_,rfl,_,rfl,p,C,dx,xF "last" y (xF "first" x []),rfl,zl,R.cl,R.nw,(show 2<1000 by decide),?_⟩;show Q .non _;rw[uY,uY,uY];have g:zr G.H0 (upd (upd G.H0 dx (.own p)) p (.ins C dx (zy6 x y z))):=λa o e=>by rw[zj (zm e i),zj (zm e L)];exact e
     have k:∀{u:V} {d:Aa},AV (sub (λy=>¬G.O0 y) G.H0) u d->noL d=true->AV (sub (λy=>¬G.O0 y/\∀xs,G.H0 y≠some (.lst xs)) (upd (upd G.H0 dx (.own p)) p (.ins C dx (zy6 x y z)))) u d:=λh n=>h.noL (λa o r e=>by
      obtain⟨e1,l⟩:=zi e;exact zD ⟨e1,λxs m=>by rw[l]at m;cases m;exact r trivial⟩ (g _ _ l)) n
     refine B _ _ q ⟨t.same g,Kz.of_same g,.ins (zD ⟨λe=>?_,λxs e=>by rw[i]at e;cases e⟩ zl) (.cons (k I n1) (.cons (k J n2) (.cons (k D M) .nil)))⟩;obtain⟨u,j,_⟩:=o p e;rw[i]at j;cases j
def yB {C f fI fT fE:Ad}{fd:Ao}{c d:Str}{st:Ap}{j:Nat}{p1 p2:Pos}(R:uN K C fI fT fE f)(F:Fun K "word" d st f fd)(hb:Binds K fd ["self"] [])(S:zA ["self"] ["self"] (zb st))(e:zt st=[.Return (some (.Constant (.str c) j p1)) p2]):xq P w K mg base C "word" 1 (qx C c):=by
 refine pJ ["self"] R.cl R.word F hb (λ_ _ _ _ _ _ _ Q nd hr h=>?_) S;obtain⟨a,b,v,rfl,q⟩:=h;rw[e];exact yP (wZ q)
def yD {C f fI fE fW:Ad}{fd:Ao}{c:Str}(R:uN K C fI f fE fW)(F:Fun K "told" "Rule.told" zd2 f fd)(hb:Binds K fd ["self"] [])(W:xq P w K mg base C "word" 1 (qx C c)):xq P w K mg base C "told" 2 (lE C c):=by
 refine pJ ["self"] R.cl R.told F hb λ_ _ _ _ _ _ _ Q nd hr h=>?_;obtain⟨a,b,v,rfl,q⟩:=h;and_intros;exact⟨_,_,_,rfl,zk (wg R.cl R.nf (zc 0 rfl ⟨_,_,rfl,rfl,zk (wg R.cl R.nl (zc 0 rfl ⟨_,_,rfl,rfl,zk (wg R.cl R.nw (zc 0 rfl ⟨_,_,rfl,rfl,zu ⟨_,rfl,zL3 rfl,q⟩⟩))⟩))⟩))⟩
def yb {C f fI fT fW:Ad}{fd:Ao}(R:uN K C fI fT f fW)(F:Fun K "tells" "Rule.tells" gr f fd)(hb:Binds K fd ["self","day"] []):xq P w K mg base C "tells" 1 (tV C):=by
 refine pJ ["self","day"] R.cl R.tells F hb λ_ _ _ _ _ _ _ Q nd hr h=>?_;obtain⟨a,b,day,v,rfl,q⟩:=h;and_intros;refine wg R.cl R.nf (zc 0 rfl ⟨_,_,rfl,rfl,?_⟩);and_intros;refine gk (λz=>?_) (λz=>?_)
 .rw[z,Bool.true_and]at q;exact wg R.cl R.nl (zc 0 rfl ⟨_,_,rfl,rfl,_,rfl,q⟩)
 .rw[z,zT8]at q;exact q
end
abbrev ze2 :Ap:=top 52
abbrev yR :Ap:=inClass (top 51) 0
abbrev vB :Ap:=inClass (top 51) 1
abbrev kU :Ap:=inClass (top 51) 2
abbrev dh :Ap:=top 42
def yh (C:Ad)(cs:Cs)(ds:List Aa):Aa:=xY C [(.str "kept",.list (ds.map (vG cs)))]
def Rules (ds:List Aa):Prop:=∀d∈ds,yf d=true/\SeqAt.shaped d=true/\d.hasDict=false
def fX (cs:Cs):Ph:=λas Q=>∃ds,as=[.dat (.list ds)]/\Rules ds/\ds.length<=24/\Q (.own (ds.map (vG cs)))
def pf (C:Ad)(cs:Cs):Ph:=λas Q=>∃ds,(as=[.dat (.list ds)]\/(as=[.dat .none]/\ds=[]))/\Rules ds/\ds.length<=24/\Q (.dat (yh C cs ds))
def qU (C:Ad)(cs:Cs):Ph:=λas Q=>∃ds,as=[.dat (yh C cs ds)]/\Rules ds/\ds.length<=1000/\Q (.own ds)
def va {cs:Cs}{d:Aa}(h:yf d=true):∃(s:Str) (a b v:Aa),s∈words/\d=.tuple [.str s,a,b,v]/\vG cs d=uv (cs.of s) a b v:=by
 obtain⟨s,a,b,v,c,rfl⟩:=uq h;exact⟨s,a,b,v,c,rfl,rfl⟩
def dg :Aq:=match zt vB with
 |[.Return (some (.ListComp _ _ sc _)) _]=>sc
 |_=>zb vB
def tbU :List (Str×V):=[("price",.non),("come",.bl true),("go",.bl true),("least",.int 1),("most",.int 14),("deal",.non),("fee",.int 0)]
def ee (x:Str):Aa:=if x="price"\/x="deal" then .none else if x="come"\/x="go" then .bool true else if x="least" then .int 1 else if x="most" then .int 14 else .int 0
def zs3 {x:Str}(h:x∈words):∃v,tbU.lookup x=some v/\scV (ee x)=some v:=by
 simp only[words,zK8,zM5,zP8]at h;rcases h with rfl|rfl|rfl|rfl|rfl|rfl|rfl
 .exact⟨.non,by decide +kernel,by decide +kernel⟩
 .exact⟨.bl true,by decide +kernel,by decide +kernel⟩
 .exact⟨.bl true,by decide +kernel,by decide +kernel⟩
 .exact⟨.int 1,by decide +kernel,by decide +kernel⟩
 .exact⟨.int 14,by decide +kernel,by decide +kernel⟩
 .exact⟨.non,by decide +kernel,by decide +kernel⟩
 .exact⟨.int 0,by decide +kernel,by decide +kernel⟩
def yy (w:Str)(day:Int):Aa->Bool
 |.tuple [.str x,.int a,.int b,_]=>decide (x=w)&&(decide (a<=day)&&decide (day<=b))
 |_=>false
def pd :Aa->Aa
 |.tuple [_,_,_,v]=>v
 |_=>.none
def zg (ds:List Aa)(w:Str)(day:Int):Aa:=match ds.reverse.find? (yy w day)with
 |some d=>pd d
 |none=>ee w
def oo (ds:List Aa)(d:Aa)(w:Str)(day:Int):zg (ds++[d]) w day=if yy w day d=true then pd d else zg ds w day:=by
 unfold zg;rw[zZ7,List.reverse_singleton,List.singleton_append,zQ5];cases yy w day d<;>simp
theorem sE {p:Aa->Bool}{e:Aa}:∀{l:List Aa}{i:Nat},(∀j<i,∀d,l[j]?=some d->p d=false)->l[i]?=some e->p e=true->l.find? p=some e
 |[],i,_,h,_=>by simp at h
 |d::l,0,_,h,q=>by
  simp at h;subst h;simp[zQ5,q]
 |d::l,i+1,a,h,q=>by
  have hd:=a 0 (z39 _) d rfl;rw[zQ5,hd];exact sE (i:=i) (λj c x b=>a (j+1) (Nat.succ_lt_succ c) x (by simpa using b)) (by simpa using h) q
def aK {p:Aa->Bool}{l:List Aa}(h:∀(j:Nat) d,l[j]?=some d->p d=false):l.find? p=none:=by
 rw[List.find?_eq_none];intro x b;obtain⟨j,a⟩:=List.mem_iff_getElem?.mp b;rw[h j x a];simp
def lO :List A->(A->Prop)->Prop:=λas Q=>∃x,as=[.dat (.str x)]/\x∈words/\Q (.dat (ee x))
def tf (C:Ad)(cs:Cs):List A->(A->Prop)->Prop:=λas Q=>∃ds x day,as=[.dat (yh C cs ds),.dat (.str x),.dat (.int day)]/\Rules ds/\x∈words/\Q (.dat (zg ds x day))
section
variable {P:Ah}{w:Ak}{K:Ae}{mg:Str->Option Ab}{base:An}{cs:Cs}
def dF (F:FnD K mg "kept_rules" ze2 ["things"])(nb:NbT mg)(g:∃t,mg "MOST_RULES"=some (.int 24 t))(j:Cal P w K mg base "rule_of" 7 (oO cs)):Cal P w K mg base "kept_rules" 8 (fX cs):=by
 refine yL ["things","kept","number","thing","rule"] F λ_ _ _ _ _ _ _ _ Q nd hr h=>?_;obtain⟨ds,rfl,k,n,q⟩:=h;and_intros;refine wO (.many [2,3]) (kT (by rfl) nb.enumerate (zc 0 rfl (⟨_,rfl,?_⟩)));refine yx (λi O=>∃v2 c v4,O=[some (.dat (.list ds)),some (.own ((ds.take i).map (vG cs))),v2,c,v4]) ⟨none,none,none,rfl⟩ ?_ ?_
 .rintro i d O hd ⟨v2,c,v4,rfl⟩;obtain⟨e,he,rfl⟩:=wH hd;have f:=(k e (zQ3 he)).1;have hi:=(zK7.mp he).1;obtain⟨s',a,b,v,m,rfl,l⟩:=va (cs:=cs) f;have e:(ds.take (i+1)).map (vG cs)=(ds.take i).map (vG cs)++[vG cs (.tuple [.str s',a,b,v])]:=by
   rw[zW5,he,z02];rfl
  rw[e];refine⟨_,rfl,?_⟩;and_intros;refine⟨f,?_⟩;and_intros;refine⟨by rw[zK3,zR4];omega,?_⟩;and_intros;exact⟨_,_,_,rfl⟩
 .rintro O ⟨v2,c,v4,rfl⟩;rw[wL,zT3];refine wW (qE 1 rfl (zi3 (qB (by rfl) nb.len (zc 1 rfl ⟨_,rfl,zY (by rfl) g ⟨_,_,rfl,rfl,?_⟩⟩))));refine xK (zM2 ?_) ?_
  .rw[zK3];omega
  .and_intros;exact q
theorem oi {ds:List Aa}(g:Rules ds):uh (ds.map (vG cs))=true:=by
 induction ds with
 |nil=>rfl
 |cons d r j=>
  have e:=j λx i=>g x (zL1 _ i);have f:=(g d zL7).1;obtain⟨s',a,b,v,l,rfl,h⟩:=va (cs:=cs) f;obtain⟨_,_,_,_,c,k,_,_,_,hw⟩:=yn f;cases k;have z3:=(wX c hw).2;rw[zP4,h];simp only[uh,e,Bool.and_true];simp[uv,xY,noL,sN,z3]
def zG5 :zA ["self","rules"] ["self","rules"] (zb yR):=.o
def eG {f C:Ad}{dV:Ab}{fd:Ao}(F:zt8 K "__init__" "Book.__init__" yR dV f fd)(c:Cls K C)(na:yg K C "kept")(e:Cal P w K mg base "kept_rules" 8 (fX cs)):zS P w K mg base CX0 9 f fd ["self","rules"] (spI C (pf C cs)):=by
 refine zw4 (N:=[]) F zG5 c na rfl (λas Q h=>?_) (λcdv i outer s H E as Q hr h=>?_) (λ_ _ _ _ _ _=>rfl) (Or.inl rfl)
 .obtain⟨ds,h|⟨h,_⟩,_⟩:=h<;>rw[h]<;>rfl
 .obtain⟨ds,h|⟨h,g⟩,a,b,q⟩:=h
  .subst h;exact xP e hr (by rfl) (zk (mJ (wY (zc 1 rfl (rq (zc 1 rfl (zu ⟨_,rfl,a,b,_,rfl,oi a,q⟩)))))))
  .subst h g;exact xP e hr (by rfl) (zk (mJ (wY (zc 1 rfl (rh (EvL.d (xR (zu ⟨_,rfl,zL3 rfl,zu ⟨[],rfl,a,b,_,rfl,oi a,q⟩⟩))))))))
def zF5 :zG ["self"] (zb vB) ["rule"] [none] dg:=⟨rfl,by decide +kernel,by decide +kernel,by decide +kernel,by decide +kernel,rfl,by decide +kernel⟩
def nF {f C:Ad}{fd:Ao}(c:Cls K C)(na:yg K C "kept")(j:Meth K C "rules" f)(F:Fun K "rules" "Book.rules" vB f fd)(hb:Binds K fd ["self"] [])(O:∀g∈words,xq P w K mg base (cs.of g) "told" 2 (lE (cs.of g) g)):xq P w K mg base C "rules" 3 (qU C cs):=by
 refine pJ ["self"] c j F hb λ_ _ _ _ _ _ _ Q nd hr h=>?_;obtain⟨ds,rfl,n,m,q⟩:=h;refine vC (gR (pat:=.one 0) rfl zF5 rfl (λ_ _ _ _=>zV (i:=0) zF5.nd rfl (Or.inl rfl)) (yG (wg c na (zc 0 rfl ⟨_,_,rfl,rfl,⟨_,rfl,by rw[zK3];exact m,?comp⟩⟩))))
 case comp=>
  refine ig (λi acc=>acc=ds.take i) rfl ?_ (λacc h=>?_)
  .rintro i d acc hd rfl;rw[zM3,zO5]at hd;obtain⟨e,he,rfl⟩:=hd;obtain⟨s',a,b,v,k,rfl,o⟩:=va (cs:=cs) (n e (zQ3 he)).1;refine⟨_,rfl,λC s2 l fp=>mM ?_⟩;rw[if_pos rfl];refine λC s2 l fp=>sX (O s' k) hr (zc 0 rfl ⟨_,rfl,rfl,_,_,_,rfl,?_⟩);show ds.take i++[_]=ds.take (i+1);rw[zW5,he];rfl
  .rw[zK3,zT3]at h;rw[h];exact q
def jQ {a:Ad}(F:FnD K mg "usual" dh ["word"])(d:mg "USUAL"=some (.ref a))(c:jf K w a tbU):Cal P w K mg base "usual" 1 lO:=by
 refine yL ["word"] F λ_ _ _ _ _ _ _ _ Q nd hr h=>?_;obtain⟨x,rfl,e,q⟩:=h;obtain⟨v,b,f⟩:=zs3 e;exact yP (fM (by rfl) d c (zc 0 rfl ⟨x,ee x,v,rfl,b,f,q⟩))
def mE {f C:Ad}{fd:Ao}(c:Cls K C)(na:yg K C "kept")(r:Meth K C "tells_of" f)(F:Fun K "tells_of" "Book.tells_of" kU f fd)(hb:Binds K fd ["self","word","day"] [])(nb:NbT mg)(D:Cal P w K mg base "usual" 1 lO)(B:∀u∈words,xq P w K mg base (cs.of u) "word" 1 (qx (cs.of u) u))(s:∀u∈words,xq P w K mg base (cs.of u) "tells" 1 (tV (cs.of u)))
  (p:∀u∈words,Cls K (cs.of u)/\yg K (cs.of u) "worth"):xq P w K mg base C "tells_of" 2 (tf C cs):=by
 refine pJ ["self","word","day","rule"] c r F hb λ_ _ _ _ _ _ _ Q nd hr h=>?_;obtain⟨ds,x,day,rfl,y,A,q⟩:=h;refine wO (.one 3) (zn0 (by rfl) nb.reversed (wg c na (zc 0 rfl ⟨_,_,rfl,rfl,⟨_,rfl,?_⟩⟩)));refine yx (λi O=>(∃m,O=[some (.dat (yh C cs ds)),some (.dat (.str x)),some (.dat (.int day)),m])/\∀j<i,∀d,ds.reverse[j]?=some d->yy x day d=false) ⟨⟨none,rfl⟩,λj o=>absurd o (z60 _)⟩ ?_ ?_
 .rintro i d O hd ⟨⟨m,rfl⟩,hno⟩;rw[<-List.map_reverse,zM3,zO5]at hd;obtain⟨e,he,rfl⟩:=hd;have n:e∈ds:=List.mem_reverse.mp (zQ3 he);obtain⟨u,a,b,v,l,rfl,_,_,_,_⟩:=yn (y e n).1;refine⟨_,rfl,?_⟩;refine wW (EvW.t (bt (λ_ k=>zr1 (sX (B u l) hr (zc 3 rfl ⟨_,rfl,rfl,_,_,_,rfl,zc 1 rfl ⟨_,_,rfl,rfl,k⟩⟩)))
   (λE _ k=>uU (qT (wB (s u l) hr (zc 3 rfl ⟨_,rfl,rfl,zk (zc 2 rfl (zu ⟨_,_,_,_,rfl,_,rfl,k⟩))⟩)))) ?_))
  refine wQ (λh=>?_) (λh=>?_)
  .refine yP (wg (p u l).1 (p u l).2 (zc 3 rfl ⟨_,_,rfl,rfl,?_⟩));have e1:ds.reverse.find? (yy x day)=some (.tuple [.str u,.int a,.int b,v]):=sE hno he h;unfold zg at q;rw[e1]at q;exact q
  .refine zE (zE ⟨⟨_,rfl⟩,λj o d' g=>?_⟩);rcases zQ1 j i with z|z
   .exact hno j z d' g
   .have:j=i:=by omega
    subst this;rw[he]at g;cases g;exact h
 .rintro O ⟨⟨m,rfl⟩,hno⟩;refine yP (qP D (hr.mono (by decide)) (by rfl) (zk (zc 1 rfl (zu ⟨x,rfl,A,?_⟩))));have e1:ds.reverse.find? (yy x day)=none:=aK λj d hd=>hno j (by
   have:=(zK7.mp hd).1;rw[z28,zK3]
   rwa [z28]at this) d hd
  unfold zg at q;rw[e1]at q;exact q
end
structure xl (d:Aa):Prop where
 rule:yf d=true
 nice:yp 20011 d
 dep:d.depth<=2
 wn:yp 5000 (pd d)
def zF (ds:List Aa):Prop:=∀d∈ds,xl d
def rY {s:Str}(h:s∈words):yp 2000 (.str s):=by
 simp only[words,zK8,zM5,zP8]at h;rcases h with rfl|rfl|rfl|rfl|rfl|rfl|rfl<;>exact⟨rfl,rfl,zL6 _,by decide +kernel,by decide +kernel⟩
def xl.of {s:Str}{i j:Int}{d:Aa}(f:s∈words)(h:0<=i)(k:i<=j)(g:j<=1000000)(hw:zT (.str s) d=true)(hn:yp 5000 d)(hd:d.depth<=1):xl (.tuple [.str s,.int i,.int j,d]):=by
 have c:(1000001:Int)<big:=by decide
 have b:-big<(0:Int):=by decide
 have na:zR 5000 [.str s,.int i,.int j,d]:=by
  constructor
  .intro x a;simp only[zK8,zM5,zP8]at a;rcases a with rfl|rfl|rfl|rfl
   .exact(rY f).mono (by decide)
   .exact(yp.int (by omega) (by omega)).mono (by decide)
   .exact(yp.int (by omega) (by omega)).mono (by decide)
   .exact hn
  .intro x a;simp only[zK8,zM5,zP8]at a;rcases a with rfl|rfl|rfl|rfl
   .exact zL6 _
   .exact zL6 _
   .exact zL6 _
   .omega
 refine⟨?_,yp.tuple na (by show 4*(5000+2)+3<=20011;decide),?_,hn⟩
 .show(we (.tuple [.int i,.int j])&&zT (.str s) d)=true;rw[hw,Bool.and_true];unfold we zt5;have e:(iH (.int i)&&iH (.int j))=true:=by
   show((decide (0<=i)&&decide (i<=1000000))&&(decide (0<=j)&&decide (j<=1000000)))=true;simp only[zO6,zW4];omega
  simp only[e,z26,zW4];omega
 .simp only[PyData.depth,PyData.depthAll];omega
def zF.rules {ds:List Aa}(h:zF ds):Rules ds:=λd hd=>⟨(h d hd).rule,(h d hd).nice.shaped,(h d hd).nice.nod⟩
abbrev kX :Ap:=top 9
def tH :Ph:=λas Q=>∃c g:Int,as=[.dat (.tuple [.int c,.int g])]/\-100<=c/\c<g/\g<=c+500/\c<=1000100/\Q (.own ((zq c (g-c).toNat).map .int))
section
variable {P:Ah}{w:Ak}{K:Ae}{mg:Str->Option Ab}{base:An}{cs:Cs}
def mF (F:FnD K mg "nights_of" kX ["stay"])(nb:NbT mg):Cal P w K mg base "nights_of" 1 tH:=by
 refine yL ["stay"] F λ_ _ _ _ _ _ _ _ Q nd hr h=>?_;obtain⟨c,g,rfl,b,e,d,a,q⟩:=h;exact vC (oy rfl (by rfl) nb.list (by rfl) nb.range (xy (λ_ _=>rfl) (zc 0 rfl (zN (⟨_,_,_,rfl,rfl,rfl,xy (λ_ _=>rfl) (zc 0 rfl (zN (⟨_,_,_,rfl,rfl,rfl,⟨_,_,rfl,rfl,⟨by omega,by omega,by omega,by omega⟩,by omega,q⟩⟩)))⟩)))))
end
abbrev yk :Ap:=top 18
def rZ :Arguments×Aq:=match zt yk with
 |[.Return (some (.Call _ _ [⟨_,.Lambda ps _ sc _,_⟩] _)) _]=>(ps,sc)
 |_=>(zI yk,zb yk)
section
variable {P:Ah}{w:Ak}{K:Ae}{mg:Str->Option Ab}{base:An}
def bq :zA ["prices","places"] ["prices","places"] (zb yk):=.o
def zz3 :xJ "place" "prices" rZ.1 rZ.2:=⟨rfl,rfl,rfl,rfl,rfl,by decide +kernel,by decide +kernel,by decide⟩
def zn3 {f c:Ad}{a:Al}{outer:List Ar}{s:Ac}{H:Hp}{E:XK}{n1:Nat}{p1 p2 p3 p4 p5 p6:Pos}(hhd:PySem.W.codeHdIn K c zZ=true)(b:K.In base)(hbi:base.BuiltinsAt mg zZ):
  gL (yS CX0 P w K mg base ["prices","places"] "cheapest_first" (zb yk) f (.ref c) a outer s H E).nox c "place" "prices" n1 p1 p2 p3 p4 p5 p6 rZ.1 rZ.2 where
 S:=zz3
 hy:=rfl
 hcl:=λcl h=>by
  have e:rZ.2.names=[(("prices":Str),NameKind.free),(("place":Str),NameKind.local)]\/rZ.2.names=[(("place":Str),NameKind.local),(("prices":Str),NameKind.free)]:=by decide +kernel
  unfold closureFor;rcases e with e|e<;>rw[e]<;>simp[cellOf,h]
 hgl:=rfl
 hco:=rfl
 hhd:=PySem.W.codeHd_of_K b hhd
 hbi:=hbi
 hdf:=rfl
 hq:=rfl
 hne:=by decide
 hb:=λu cl c' pm ctv=>rfl
 hdx:=by decide
 hdy:=by decide
 hcx:=by decide
 hcy:=by decide
def pe :Ph:=λas Q=>∃ns zs:List Int,as=[.dat (.list (zs.map .int)),.dat (.list (ns.map .int))]/\ns.length<64/\(∀n∈ns,0<=n/\n<zs.length)/\∀ms,uQ ns zs ms->Q (.own (ms.map .int))
def jF {f c:Ad}{oc:Ab}{od an:Option Ad}{osl:Array (Option Ab)}{kV doc pm ct:Ab}(e:K.lookup f=some ⟨oc,od,.func (PySem.W.fnOf "cheapest_first" "cheapest_first" (zI yk) (zt yk) (zb yk) .none kV doc pm an (.ref c) ct),osl⟩)(d:PySem.W.codeIn K (.ref c) "cheapest_first"=true)(kp:PySem.W.keepIn K (.ref f)=true)
  (hm:mg "cheapest_first"=some (.ref f)) (hb:Binds K (PySem.W.fnOf "cheapest_first" "cheapest_first" (zI yk) (zt yk) (zb yk) .none kV doc pm an (.ref c) ct) ["prices","places"] []) (nb:NbT mg) (hhd:PySem.W.codeHdIn K c zZ=true) (i:K.In base) (hbi:base.BuiltinsAt mg zZ):Cal P w K mg base "cheapest_first" 3 pe:=by
 refine⟨f,_,_,hm,kp,hb,zI0 e d bq (λas Q h=>by obtain⟨ns,zs,rfl,_⟩:=h;rfl) λl outer s H E as Q hr h=>?_⟩;obtain⟨ns,zs,rfl,a,b,q⟩:=h;exact vC (nQ (j:=0) (k:=0) (zn3 hhd i hbi) hr (by rfl) nb.sorted rfl (zc 1 rfl ⟨ns,zs,rfl,rfl,a,b,λms g=>q ms g⟩))
end
abbrev vp :Ap:=top 19
def zE5 :Aq:=match zt vp with
 |.Assign _ (.ListComp _ _ sc _) _::_=>sc
 |_=>zb vp
def tZ :Ph:=λas Q=>∃(zs:List Int) (d:Aa),as=[.dat (.list (zs.map .int)),.dat d]/\zs.length<=500/\
 ((d=.none/\Q (.own ((List.replicate zs.length false).map .bool)))\/∃many free:Nat,d=.tuple [.int many,.int free]/\0<many/\many<64/\∀bs,uK zs many free zs.length bs->Q (.own (bs.map .bool)))
theorem jS (ns:List Int):uh (ns.map .int)=true:=by
 induction ns with
 |nil=>rfl
 |cons n ns a=>rw[zP4,uh,a];rfl
section
variable {P:Ah}{w:Ak}{K:Ae}{mg:Str->Option Ab}{base:An}
def zA3 :zG ["prices","deal","marks","bundle","place","rank","other"] (zb vp) ["price"] [none] zE5:=⟨rfl,by decide +kernel,by decide +kernel,by decide +kernel,by decide +kernel,rfl,by decide +kernel⟩
def ma (F:FnD K mg "marked" vp ["prices","deal"])(nb:NbT mg)(J:Cal P w K mg base "cheapest_first" 3 pe):Cal P w K mg base "marked" 4 tZ:=by
 refine yL ["prices","deal","marks","bundle","place","rank","other"] F λ_ _ S _ _ _ _ _ Q nd hr h=>?_;obtain⟨zs,d,rfl,hlen,h⟩:=h;refine zk3 2 (pat:=.one 0) nd rfl zA3 rfl (λ_ _ _ _=>zV (i:=0) zA3.nd rfl (Or.inl rfl)) (yG (zc 0 rfl ⟨_,rfl,?_,?comp⟩))
 .rw[zK3];omega
 refine vk (λ_=>true) (λ_=>.bool false) (λd hd=>⟨_,rfl,λ_ _ _ _ _ k=>mM k,λ_ _ _ _ _ _ k=>eO k⟩) ?_;have N:([]:List Aa)++List.map (λ_=>PyData.bool false) (List.filter (λ_=>true) (List.map PyData.int zs))=(List.replicate zs.length false).map .bool:=by
  rw[zV5,gN,List.map_map,List.map_replicate];exact List.eq_replicate_iff.mpr ⟨by simp,by simp⟩
 rw[N];rcases h with⟨rfl,q⟩|⟨many,free,rfl,g,u,q⟩
 .refine wW (wY (zc 1 rfl ?_));exact wF 2 rfl q
 refine wW (wY (zc 1 rfl (zE ?_)));refine xt 3 nd (xR (zu ⟨_,rfl,zL6 _,?_⟩));refine qj (pat:=.one 4) z35 rfl (zV (i:=4) nd rfl (Or.inl rfl)) (jJ (by rfl) nb.range (qB (by rfl) nb.len (zc 0 rfl ⟨_,rfl,⟨_,rfl,by omega,by rw[zK3];omega,?_⟩⟩)));refine yx (λi O=>∃(bs:List Bool) (C m p:Option A),uK zs many free i bs/\O=[some (.dat (.list (zs.map .int))),some (.dat (.tuple [.int many,.int free])),some (.own (bs.map .bool)),some (.own ((zq ((i / many*many:Nat):Int) (i % many)).map .int)),C,m,p]) ?_ ?_ ?_
 .refine⟨_,none,none,none,jY zs free,?_⟩;rw[Nat.zero_mod,Nat.zero_div];rfl
 .rintro i d O hd ⟨bs,C,m,p,mk,rfl⟩;have hi:i<zs.length:=by
   have:=(zK7.mp hd).1;simpa[zf]using this
  obtain rfl:d=.int (i:Int):=by
   rw[zM3,yE (by simpa using hi)]at hd;simpa using hd.symm
  refine⟨_,rfl,?_⟩;have G:=Nat.mod_lt i g;refine vQ 3 rfl (zc 4 rfl ⟨by rw[zK3,zf];omega,?_⟩);have I:List.map PyData.int (zq ((i / many*many:Nat):Int) (i % many))++[PyData.int (i:Int)]=(zq ((i / many*many:Nat):Int) (i % many+1)).map .int:=by
   have e:=z34 i many;have M:i / many*many=many*(i / many):=Nat.mul_comm _ _;rw[pU,z02]
   congr 1
   simp only[zP4,List.map_nil]
   congr 2
   omega
  rw[I];refine wW (qE 3 rfl (zv9 (qB (by rfl) nb.len (zc 3 rfl ⟨_,rfl,xy (λ_ _=>rfl) (zc 1 rfl (zN ⟨_,_,_,rfl,rfl,at0,_,_,rfl,rfl,?_⟩))⟩))));refine eW (λD=>?_) (λD=>zE ?_)
  .have c:i % many+1=many:=by
    rw[zK3,zf]at D;omega
   rw[c];have s:∀n∈zq ((i / many*many:Nat):Int) many,0<=n/\n<zs.length:=λn hn=>by
    rw[zP]at hn;have e:=z34 i many;have M:i / many*many=many*(i / many):=Nat.mul_comm _ _;omega
   refine qj (pat:=.many [5,6]) z35 rfl (tO (n:=2) (K:=K) rfl rfl (vn (zV (i:=5) nd rfl (Or.inl rfl)) (vn (zV (i:=6) nd rfl (Or.inl rfl)) (qu))))
    (kT (by rfl) nb.enumerate (EvL.d (bp 3 rfl (xP J hr (by rfl) (zk (zc 0 rfl (zk (zc 3 rfl (zu ⟨_,zs,rfl,by rw[zf];exact u,s,λms o=>⟨_,rfl,jS ms,_,rfl,?_⟩⟩)))))))))
   have y:ms.length=many:=by rw[o.1.length_eq,zf]
   refine yx (λr O=>∃(a:List Bool) (p5 p6:Option A),(a.length=bs.length/\(∀q,q<r->a.getD (ms.getD q 0).toNat false=decide (q<free))/\∀j,(∀q,q<r->(ms.getD q 0).toNat≠j)->a.getD j false=bs.getD j false)/\
    O=[some (.dat (.list (zs.map .int))),some (.dat (.tuple [.int many,.int free])),some (.own (a.map .bool)),some (.own ((zq ((i / many*many:Nat):Int) many).map .int)),some (.dat (.int i)),p5,p6]) ?_ ?_ ?_
   .exact⟨bs,m,p,⟨rfl,λq h=>absurd h (z60 _),λ_ _=>rfl⟩,rfl⟩
   .rintro r d O hd ⟨a,p5,p6,⟨f0,f1,f2⟩,rfl⟩;obtain⟨e,he,rfl⟩:=wH hd;have f:r<ms.length:=by
     have:=(zK7.mp he).1;simpa using this
    obtain rfl:e=.int (ms.getD r 0):=by
     rw[zM3,zK4 f]at he;rw[zL4,zK4 f];simpa using he.symm
    refine⟨_,rfl,?_⟩;have t:=vI o (q:=r) (by omega);have x:=s (ms.getD r 0) (zP.mpr t);obtain⟨j,v⟩:=z43 x.1;rw[v];have R:j<a.length:=by rw[f0,mk.1];omega
    refine zp3 2 rfl (zd3 (zc 5 rfl (xy (λ_ _=>rfl) (zc 1 rfl (zN ⟨_,_,_,rfl,rfl,vJ (j:=1) rfl,_,_,rfl,rfl,zc 6 rfl ⟨_,j,rfl,?_,zE ?_⟩⟩)))))
    .unfold ixN;rw[if_pos (by omega),if_pos (by rw[zK3];omega)];simp
    .refine⟨a.set j (decide (r<free)),some (.dat (.int ((0+r:Nat):Int))),some (.dat (.int (j:Int))),⟨?_,λq hq=>?_,λl H=>?_⟩,?_⟩
     .rw[zP0,f0]
     .by_cases B:q=r
      .subst B;rw[v,zR7,zL4,zS4 R];rfl
      .have hne:(ms.getD q 0).toNat≠j:=λz=>by
        have nd:ms.Nodup:=o.1.nodup_iff.mpr (rF _ _);have a1:=(vI o (q:=q) (by omega)).1;have E:ms.getD q 0=ms.getD r 0:=by rw[v];omega
        rw[zL4,zL4,zK4 (by omega),zK4 f]at E;exact(zS8.mp nd q r (by omega) f (by omega)) E
       rw[zL4,zP5 hne.symm,<-zL4,f1 q (by omega)]
     .have hne:j≠l:=λz=>H r (zQ7 _) (by rw[v];omega);rw[zL4,zP5 hne,<-zL4,f2 l λq hq=>H q (by omega)]
     .have L:decide (((0+r:Nat):Int)<(free:Int))=decide (r<free):=by rw[decide_eq_decide];omega
      rw[L,List.map_set];rfl
   .rintro O ⟨a,p5,p6,⟨f0,f1,f2⟩,rfl⟩;refine xt 3 nd (xR (zu ⟨_,rfl,zL6 _,zE ?_⟩));rw[wL,zK3,y]at f1 f2;refine zE ?_;refine⟨a,some (.dat (.int i)),p5,p6,iq g c mk o f0 f1 f2,?_⟩;rw[(nc g c).2.1];rfl
  .have b:i % many+1<many:=by
    rw[zK3,zf]at D;omega
   refine zE ?_;refine⟨bs,some (.dat (.int i)),m,p,iz g b mk,?_⟩;rw[(sL g b).1,(sL g b).2];rfl
 .rintro O ⟨bs,C,m,p,mk,rfl⟩;have el:(List.map PyData.int (zq 0 ((List.map PyData.int zs).length:Int).toNat)).length=zs.length:=by simp[zf]
  rw[el]at mk;exact wF 2 rfl (q bs mk)
end
abbrev sNP :Ap:=top 20
abbrev tD :Ap:=top 21
def bR :Aq:=match (zt tD).getD 5 (.Pass ⟨0,0,0,0⟩)with
 |.Assign _ (.Call _ [.ListComp _ _ sc _] _ _) _=>sc
 |_=>zb tD
def zC5 (C:Ad)(cs:Cs):Ph:=λas Q=>∃(ds:List Aa) (ns:List Int) (pr:Int->Int),as=[.dat (yh C cs ds),.dat (.list (ns.map .int))]/\Rules ds/\ns.length<=900/\(∀z∈ns,zg ds "price" z=.int (pr z))/\Q (.own ((ns.map pr).map .int))
def dR (C:Ad)(cs:Cs):Ph:=λas Q=>∃(ds:List Aa) (c g fee:Int) (pr:Int->Int),as=[.dat (yh C cs ds),.dat (.tuple [.int c,.int g])]/\Rules ds/\0<=c/\c<g/\g<=c+400/\c<=1000000/\(∀z,c<=z->z<g->zg ds "price" z=.int (pr z)/\0<=pr z/\pr z<=1000000000000)/\
 (zg ds "deal" c=.none\/∃many free:Nat,zg ds "deal" c=.tuple [.int many,.int free]/\0<many/\many<64)/\zg ds "fee" c=.int fee/\
 ∀bs,xT (zg ds "deal" c) ((zq c (g-c).toNat).map pr) bs->Q (.dat (.tuple [.int ((yJ ((zq c (g-c).toNat).map pr) bs).sum+fee),.list (xI ((zq c (g-c).toNat).map .int) (((zq c (g-c).toNat).map pr).map .int) (bs.map .bool)),.int fee]))
section
variable {P:Ah}{w:Ak}{K:Ae}{mg:Str->Option Ab}{base:An}{cs:Cs}
def zs2 {C:Ad}(F:FnD K mg "night_prices" sNP ["book","nights"])(j:xq P w K mg base C "tells_of" 2 (tf C cs)):Cal P w K mg base "night_prices" 3 (zC5 C cs):=by
 refine yL ["book","nights","prices","night","price"] F λ_ _ k _ _ _ _ _ Q nd hr h=>?_;obtain⟨ds,ns,pr,rfl,g,l,f,q⟩:=h;refine xt 2 nd (xR (zu ⟨_,rfl,zL6 _,?_⟩));refine qj (pat:=.one 3) z35 rfl (zV (i:=3) nd rfl (Or.inl rfl)) (yG (zc 1 rfl ⟨_,rfl,?_⟩));refine yx (λi O=>∃b c:Option A,O=[some (.dat (yh C cs ds)),some (.dat (.list (ns.map .int))),some (.own (((ns.take i).map pr).map .int)),b,c]) ⟨none,none,rfl⟩ ?_ ?_
 .rintro i d O hd ⟨b,c,rfl⟩;rw[zM3,zO5]at hd;obtain⟨z,a,rfl⟩:=hd;have hi:i<ns.length:=(zK7.mp a).1;have e:=f z (zQ3 a);refine⟨_,rfl,?_⟩;refine yq 4 nd (wB j hr (zc 0 rfl ⟨_,rfl,rfl,zk (wZ (zk (zc 3 rfl (zu ⟨ds,_,_,rfl,g,by simp[words],?_⟩))))⟩));show SvS _ (List.set _ _ (some (.dat (zg ds "price" z)))) _ _;rw[e];refine wW (wY (zc 4 rfl ?_));refine wQ (λh=>by cases h) (λ_=>zE ?_);refine vQ 2 rfl (zc 4 rfl ⟨by rw[zK3,zK3,zR4];omega,zE ⟨some (.dat (.int z)),some (.dat (.int (pr z))),?_⟩⟩);rw[zW5,a,z02,z02];rfl
 .rintro O ⟨b,c,rfl⟩;rw[zK3,zT3];exact wF 2 rfl q
def zx6 :zG ["book","stay","nights","prices","marks","fee","rows","paid"] (zb tD) ["row"] [none] bR:=⟨rfl,by decide +kernel,by decide +kernel,by decide +kernel,by decide +kernel,rfl,by decide +kernel⟩
def eM {C:Ad}(F:FnD K mg "bill" tD ["book","stay"])(nb:NbT mg)(v:xq P w K mg base C "tells_of" 2 (tf C cs))(D:Cal P w K mg base "nights_of" 1 tH)(L:Cal P w K mg base "night_prices" 3 (zC5 C cs))(J:Cal P w K mg base "marked" 4 tZ):
  Cal P w K mg base "bill" 5 (dR C cs):=by
 refine yL ["book","stay","nights","prices","marks","fee","rows","paid"] F λf cdv B outer s H E _ Q nd hr h=>?_;obtain⟨ds,c,g,fee,pr,rfl,p,O,cg,gl,N,m,a,l,q⟩:=h;generalize hn:(g-c).toNat=n at q;have G:0<n:=by omega
 have A:n<=400:=by omega
 refine yq 2 nd (EvL.d (xP D (hr.mono (by decide)) (by rfl) (zk (zc 1 rfl (zu ⟨c,g,rfl,by omega,cg,by omega,by omega,_,rfl,?_⟩)))));rw[hn];refine yq 3 nd (EvL.d (xP L (hr.mono (by decide)) (by rfl) (zk (zc 0 rfl (zk (zc 2 rfl (zu ⟨ds,zq c n,pr,rfl,p,by rw[zf];omega,λz e=>(m z (zP.mp e).1 (by have:=(zP.mp e).2;omega)).1,_,rfl,?_⟩)))))));have o:((zq c n).map pr).length=n:=by rw[zK3,zf]
 refine yq 4 nd (EvL.d (xP J hr (by rfl) (zk (zc 3 rfl (zk (wB v (hr.mono (by decide)) (zc 0 rfl ⟨_,rfl,rfl,zk (wZ (zk (xy (λ_ _=>rfl) (zc 1 rfl (zN ⟨_,_,_,rfl,rfl,at0,zu ⟨ds,_,_,rfl,p,by simp[words],zu ⟨_,_,rfl,by omega,?_⟩⟩⟩)))))⟩)))))));have key:∀bs,xT (zg ds "deal" c) ((zq c n).map pr) bs->SvS (yS CX0 P w K mg base ["book","stay","nights","prices","marks","fee","rows","paid"] "bill" (zb tD) f cdv B outer s H E).nox
   [some (.dat (yh C cs ds)),some (.dat (.tuple [.int c,.int g])),some (.dat (.list ((zq c n).map .int))),some (.dat (.list (((zq c n).map pr).map .int))),some (.dat (.list (bs.map .bool))),none,none,none] ((zt tD).drop 3) {nx:=λ_=>Q (.dat .none),rt:=Q}:=by
  intro bs mk;have r:=mk.len;refine yq 5 nd (wB v (hr.mono (by decide)) (zc 0 rfl ⟨_,rfl,rfl,zk (wZ (zk (xy (λ_ _=>rfl) (zc 1 rfl (zN ⟨_,_,_,rfl,rfl,at0,zu ⟨ds,_,_,rfl,p,by simp[words],?_⟩⟩)))))⟩));show SvS _ (List.set _ _ (some (.dat (zg ds "fee" c)))) _ _;rw[l];refine yq 6 nd (EvL.d (pz rfl (by rfl) nb.list (by rfl) nb.zip (zk (zc 2 rfl (zk (zc 3 rfl (zk (zc 4 rfl (zu ⟨_,_,_,rfl,?_,?_,?_,?_,?_⟩)))))))))
  .rw[zK3,zK3,zK3]
  .rw[zK3,zK3,r,o,zf]
  .rw[zK3,zf];omega
  .rw[zK3,zf];omega
  have pm:∀z∈yJ ((zq c n).map pr) bs,0<=z/\z<=1000000000000:=λz e=>by
   obtain⟨y,hy,rfl⟩:=z40.mp (ug e);have hy:=zP.mp hy;exact(m y hy.1 (by omega)).2
  refine yq 7 nd (ai rfl (by rfl) nb.sum (EvL.d (gR (pat:=.one 0) rfl zx6 rfl (λ_ _ _ _=>zV (i:=0) zx6.nd rfl (Or.inl rfl)) (yG (zc 6 rfl ⟨_,rfl,?_,?comp⟩)))))
  .rw[vZ (by rw[zK3,zK3,zK3]) (by rw[zK3,zK3,r,o,zf]),zK3,zf];omega
  refine vk (λd=>!tu d) (zr4 1) (λd hd=>?_) ?_
  .obtain⟨j,I⟩:=List.mem_iff_getElem?.mp hd;obtain⟨x,y,z,e1,M,u,rfl⟩:=uf I;rw[zM3,zO5]at u;obtain⟨b,_,rfl⟩:=u;exact⟨_,rfl,λ_ _ _ _ _ k=>lH (fN (qT (xy (λ_ _=>rfl) (zc 0 rfl (zN ⟨_,_,_,rfl,rfl,vJ (j:=2) rfl,⟨_,rfl,k⟩⟩))))),λ_ _ _ _ _ _ k=>xy (λ_ _=>rfl) (zc 0 rfl (zN ⟨_,_,_,rfl,rfl,vJ (j:=1) rfl,k⟩))⟩
  .rw[zV5,tK (by rw[o,zK3,zf]) (by rw[r,o,zK3,zf])];refine⟨_,rfl,λz e=>by have:=pm z e;omega,mi pm (zL8 (qg _ _) (by omega)),?_⟩;exact yP (lh (zk (qN (zc 7 rfl (zc 5 rfl ⟨_,_,rfl,rfl,zk (zc 6 rfl (zk (zc 5 rfl (zu ⟨_,rfl,zL3 rfl,q bs mk⟩))))⟩)))))
 rcases a with hd|⟨many,free,hd,m0,t⟩
 .exact .inl ⟨hd,⟨_,rfl,key _ (.inl ⟨hd,rfl⟩)⟩⟩
 .exact .inr ⟨many,free,hd,m0,t,λbs mk=>⟨_,rfl,key bs (.inr ⟨many,free,hd,mk⟩)⟩⟩
end
abbrev oS :Ap:=top 23
abbrev zz5 :Ap:=top 24
abbrev zC8 :Ap:=top 25
def ju {x:Str}(h:x∈words):zT (.str x) (ee x)=true:=by
 simp only[words,zK8,zM5,zP8]at h;rcases h with rfl|rfl|rfl|rfl|rfl|rfl|rfl<;>decide +kernel
def zX {ds:List Aa}(h:∀d∈ds,yf d=true){x:Str}(b:x∈words)(day:Int):zT (.str x) (zg ds x day)=true:=by
 unfold zg;split
 .rename_i d e;obtain⟨u,i,j,v,c,rfl,_,_,_,hw⟩:=yn (h d (List.mem_reverse.mp (List.mem_of_find?_eq_some e)));have:=List.find?_some e;have a:(decide (u=x)&&(decide (i<=day)&&decide (day<=j)))=true:=this;rw[zO6,zW4]at a;rw[<-a.1];exact hw
 .exact ju b
def isF :Aa->Bool
 |.bool b=>!b
 |_=>false
def intOf :Aa->Int
 |.int i=>i
 |_=>0
section
variable {ds:List Aa}(h:∀d∈ds,yf d=true)(day:Int)
include h
def zl7 :∃b,zg ds "come" day=.bool b:=bool_inv (by rw[<-lq];exact zX h (by simp[words]) day)
def zI2 :∃b,zg ds "go" day=.bool b:=bool_inv (by rw[<-fh];exact zX h (by simp[words]) day)
def bx :∃i,zg ds "least" day=.int i/\1<=i/\i<=14:=zz (by rw[<-ni];exact zX h (by simp[words]) day)
def zv1 :∃i,zg ds "most" day=.int i/\1<=i/\i<=14:=zz (by rw[<-nM];exact zX h (by simp[words]) day)
def zz9 :∃i,zg ds "fee" day=.int i/\0<=i/\i<=1000000000000:=zz (by
 have:=zX h (x:="fee") (by simp[words]) day;rw[rP]at this;exact this)
def za2 :zg ds "price" day=.none\/∃i,zg ds "price" day=.int i/\0<=i/\i<=1000000000000:=by
 have:=zX h (x:="price") (by simp[words]) day;rw[oQ,z00]at this;rcases this with z|z
 .left;cases e:zg ds "price" day with
  |none=>rfl
  |_=>rw[e]at z;cases z
 .exact .inr (zz z)
end
def pB (x:Str)(d:Int):Aa:=.tuple [.str x,.int d]
def yj (ds:List Aa)(c:Int)(n:Nat):List Aa:=((zq c n).filter λz=>xu (zg ds "price" z)).map (pB "price")
def opt (b:Bool)(d:Aa):List Aa:=if b=true then [d]else []
def xh (ds:List Aa)(c g:Int):List Aa:=yj ds c (g-c).toNat++opt (isF (zg ds "come" c)) (pB "come" c)++opt (isF (zg ds "go" g)) (pB "go" g)++opt (decide (g-c<intOf (zg ds "least" c))) (pB "least" c)++opt (decide (intOf (zg ds "most" c)<g-c)) (pB "most" c)
def vL (b:Bool)(d:Aa):(opt b d).length<=1:=by unfold opt;split<;>simp
def uz (ds:List Aa)(c:Int)(n:Nat):(yj ds c n).length<=n:=by
 unfold yj;rw[zK3];have:=List.length_filter_le (λz=>xu (zg ds "price" z)) (zq c n);rw[zf]at this;exact this
def gq (C:Ad)(cs:Cs):Ph:=λas Q=>∃ds c g,as=[.dat (yh C cs ds),.dat (.tuple [.int c,.int g])]/\Rules ds/\-100<=c/\c<g/\g<=c+100/\c<=1000100/\Q (.own (xh ds c g))
def zb0 :Aq:=match zt oS with
 |[_,_,.Assign _ (.ListComp _ _ sc _) _,_,_,_,_,_]=>sc
 |_=>zb oS
section
variable {P:Ah}{w:Ak}{K:Ae}{mg:Str->Option Ab}{base:An}{cs:Cs}
def zA7 :zG ["book","stay","come","go","told"] (zb oS) ["night","book"] [none,some 0] zb0:=⟨rfl,by decide +kernel,by decide +kernel,by decide +kernel,by decide +kernel,rfl,by decide +kernel⟩
def oA (ds:List Aa)(ns:List Int)(f:Aa->Bool)(hf:∀z,f (.int z)=xu (zg ds "price" z))(g:Aa->Aa)(hg:∀z,g (.int z)=pB "price" z):((ns.map PyData.int).filter f).map g=(ns.filter λz=>xu (zg ds "price" z)).map (pB "price"):=by
 rw[List.filter_map,List.map_map];have e1:(f∘PyData.int)=λz=>xu (zg ds "price" z):=funext hf;have a:(g∘PyData.int)=pB "price":=funext hg;rw[e1,a]
def zC6 :Aa->Int
 |.int z=>z
 |_=>0
abbrev qo (C:Ad)(cs:Cs)(ds:List Aa)(c g:Int)(l:List Aa):List (Option A):=[some (.dat (yh C cs ds)),some (.dat (.tuple [.int c,.int g])),some (.dat (.int c)),some (.dat (.int g)),some (.own l)]
def dW {C:Ad}(F:FnD K mg "bars" oS ["book","stay"])(p:Cal P w K mg base "nights_of" 1 tH)(t:xq P w K mg base C "tells_of" 2 (tf C cs)):Cal P w K mg base "bars" 3 (gq C cs):=by
 refine yL ["book","stay","come","go","told"] F λ_ _ _ _ _ _ _ _ Q nd hr h=>?_;obtain⟨ds,c,g,rfl,e,v,cg,g1,u,q⟩:=h;have m:∀d∈ds,yf d=true:=λd hd=>(e d hd).1;refine yq 2 nd (xy (λ_ _=>rfl) (zc 1 rfl (zN (⟨_,_,_,rfl,rfl,rfl,?_⟩))));refine yq 3 nd (xy (λ_ _=>rfl) (zc 1 rfl (zN (⟨_,_,_,rfl,rfl,rfl,?_⟩))));refine xg (·=qo C cs ds c g (yj ds c (g-c).toNat)) ?_ ?_
 .refine zk3 4 (pat:=.one 0) nd rfl zA7 rfl (λ_ _ _ _=>zV (i:=0) zA7.nd rfl (by first|exact Or.inl rfl|exact Or.inr rfl)) (yG (EvL.d (xP p (hr.mono (by decide)) (by rfl) (zk (zc 1 rfl (zu (⟨c,g,rfl,by omega,by omega,by omega,by omega,⟨_,rfl,⟨_,rfl,⟨by rw[zK3,zf];omega,?comp⟩⟩⟩⟩)))))))
  case comp=>
   refine vk (λd=>xu (zg ds "price" (zC6 d))) (λd=>pB "price" (zC6 d)) (λd hd=>?_) ?_
   .obtain⟨z,_,rfl⟩:=z40.mp hd;refine⟨_,rfl,λC s2 s fp Q k=>lH (wY (wB t hr (zc 1 rfl ⟨_,rfl,rfl,zk (wZ (zk (zc 0 rfl (zu ⟨ds,_,_,rfl,e,by simp[words],k⟩))))⟩))),λ_ C s2 s fp Q k=>lh (zk (wZ (zk (zc 0 rfl (zu (⟨_,rfl,zL3 rfl,k⟩))))))⟩
   .refine zE ?_;rw[zV5,oA ds _ _ (λ_=>rfl) _ (λ_=>rfl)];rfl
 rintro O rfl;have r:=uz ds c (g-c).toNat;obtain⟨n,f⟩:=zl7 m c;obtain⟨j,o⟩:=zI2 m g;obtain⟨a,el,_,_⟩:=bx m c;obtain⟨im,em,_,_⟩:=zv1 m c;have B:∀(l:List Aa) (b:Bool) (d:Aa) (k:Nat),l.length<=k->(l++opt b d).length<=k+1:=λl b d k h=>by have:=vL b d;rw[zM8];omega
 have l1:=B _ (isF (zg ds "come" c)) (pB "come" c) _ r;have l2:=B _ (isF (zg ds "go" g)) (pB "go" g) _ l1;have l3:=B _ (decide (g-c<intOf (zg ds "least" c))) (pB "least" c) _ l2;unfold xh at q;rw[f,o,el,em]at q;rw[f,o,el]at l3;rw[f,o]at l2;rw[f]at l1;refine xg (·=qo C cs ds c g (yj ds c (g-c).toNat++opt (isF (.bool n)) (pB "come" c))) ?_ ?_
 .and_intros;refine⟨ds,_,_,rfl,e,by simp[words],⟨n,by rw[f];rfl,?_⟩⟩;cases n<;>and_intros
  .exact⟨by omega,zE (zE rfl)⟩
  .exact congrArg (qo C cs ds c g) (zP6 _).symm
 rintro O rfl;generalize yj ds c (g-c).toNat++opt (isF (.bool n)) (pB "come" c)=acc at *;refine xg (·=qo C cs ds c g (acc++opt (isF (.bool j)) (pB "go" g))) ?_ ?_
 .and_intros;refine⟨ds,_,_,rfl,e,by simp[words],⟨j,by rw[o];rfl,?_⟩⟩;cases j<;>and_intros
  .exact⟨by omega,zE (zE rfl)⟩
  .exact congrArg (qo C cs ds c g) (zP6 _).symm
 rintro O rfl;generalize acc++opt (isF (.bool j)) (pB "go" g)=acc at *;refine xg (·=qo C cs ds c g (acc++opt (decide (g-c<a)) (pB "least" c))) ?_ ?_
 .and_intros;refine⟨ds,_,_,rfl,e,by simp[words],⟨_,a,rfl,el,?_⟩⟩;generalize decide (g-c<a)=b;cases b<;>and_intros
  .exact congrArg (qo C cs ds c g) (zP6 _).symm
  .exact⟨by omega,zE (zE rfl)⟩
 rintro O rfl
 change (acc++opt (decide (g-c<a)) (pB "least" c)).length<=_ at l3
 change Q (.own (acc++opt (decide (g-c<a)) (pB "least" c)++_))at q
 generalize acc++opt (decide (g-c<a)) (pB "least" c)=acc at *;refine xg (·=qo C cs ds c g (acc++opt (decide (im<g-c)) (pB "most" c))) ?_ ?_
 .and_intros;refine⟨ds,_,_,rfl,e,by simp[words],⟨_,im,rfl,em,?_⟩⟩;generalize decide (im<g-c)=b;cases b<;>and_intros
  .exact congrArg (qo C cs ds c g) (zP6 _).symm
  .exact⟨by omega,zE (zE rfl)⟩
 rintro O rfl;exact wF 4 rfl q
end
def eN {d:Aa}(h:tW d=true):∃many free:Nat,d=.tuple [.int many,.int free]/\0<free/\free<many/\many<64:=by
 unfold tW at h;split at h
 .rename_i m r;rw[zO6]at h;obtain⟨i,e,f,i1⟩:=zz h.1;obtain⟨j,a,b,c⟩:=zz h.2;subst a;injection e with e;subst e;refine⟨m.toNat,j.toNat,?_,by omega,by omega,by omega⟩;rw[show((m.toNat:Nat):Int)=m by omega,show((j.toNat:Nat):Int)=j by omega]
 .cases h
def cb {ds:List Aa}(h:∀d∈ds,yf d=true)(day:Int):gQ (zg ds "deal" day):=by
 have:=zX h (x:="deal") (by simp[words]) day;rw[lC,z00]at this;rcases this with z|z
 .left;cases e:zg ds "deal" day with
  |none=>rfl
  |_=>rw[e]at z;cases z
 .exact .inr (eN z)
def zF.all {ds:List Aa}(h:zF ds):∀d∈ds,yf d=true:=λd hd=>(h d hd).rule
def oh (ds:List Aa)(c g:Int):Prop:=∀z,c<=z->z<g->xu (zg ds "price" z)=false
def prs (ds:List Aa)(c g:Int):List Int:=(zq c (g-c).toNat).map λz=>intOf (zg ds "price" z)
def wc (ds:List Aa)(c:Int):Int:=intOf (zg ds "fee" c)
def sO {ds:List Aa}{c g z:Int}(h:zF ds)(s:oh ds c g)(h0:c<=z)(a:z<g):zg ds "price" z=.int (intOf (zg ds "price" z))/\0<=intOf (zg ds "price" z)/\intOf (zg ds "price" z)<=1000000000000:=by
 rcases za2 h.all z with e|⟨i,e,b,i1⟩
 .have:=s z h0 a;rw[e]at this;cases this
 .rw[e];exact⟨rfl,b,i1⟩
def bA {ds:List Aa}(h:zF ds)(c:Int):zg ds "fee" c=.int (wc ds c)/\0<=wc ds c/\wc ds c<=1000000000000:=by
 obtain⟨i,e,a,i1⟩:=zz9 h.all c;unfold wc;rw[e];exact⟨rfl,a,i1⟩
def sI (c g:Int):Prop:=0<=c/\c<g/\g<=c+14/\g<=1000000
def je (C:Ad)(cs:Cs):Ph:=λas Q=>∃(ds:List Aa) (c g:Int),as=[.dat (yh C cs ds),.dat (.tuple [.int c,.int g])]/\zF ds/\sI c g/\oh ds c g/\
 ∀bs rows,xT (zg ds "deal" c) (prs ds c g) bs->Q (.dat (.tuple [.int ((yJ (prs ds c g) bs).sum+wc ds c),rows,.int (wc ds c)]))
def sR (ds:List Aa)(c g:Int):Bool:=(xh ds c g).isEmpty
noncomputable def zc2 (ds:List Aa)(c g:Int):List Bool:=Classical.epsilon λbs=>xT (zg ds "deal" c) (prs ds c g) bs
noncomputable def coD (ds:List Aa)(c g:Int):Int:=(yJ (prs ds c g) (zc2 ds c g)).sum+wc ds c
noncomputable def coO (ds:List Aa)(c g:Int):Option Int:=if sR ds c g=true then some (coD ds c g)else none
def oD :Option Int->Aa
 |some z=>.int z
 |none=>.none
def zF8 {ds:List Aa}{c g y:Int}(b:zF ds)(so:oh ds c g)(h:y∈prs ds c g):0<=y/\y<=1000000000000:=by
 obtain⟨z,a,rfl⟩:=z40.mp h;have a:=zP.mp a;exact(sO b so a.1 (by omega)).2
def ze3 {ds:List Aa}{c g:Int}{bs:List Bool}(a:zF ds)(so:oh ds c g)(mk:xT (zg ds "deal" c) (prs ds c g) bs):(yJ (prs ds c g) bs).sum+wc ds c=coD ds c g:=by
 have b:xT (zg ds "deal" c) (prs ds c g) (zc2 ds c g):=Classical.epsilon_spec (p:=λbs=>xT (zg ds "deal" c) (prs ds c g) bs) ⟨bs,mk⟩;unfold coD;rw[eA (cb a.all c) mk b]
def xv {O:Type}{a b:List O}:(a++b).isEmpty=(a.isEmpty&&b.isEmpty):=by cases a<;>rfl
def uV {b:Bool}{d:Aa}:(opt b d).isEmpty=!b:=by cases b<;>rfl
def za6 {ds:List Aa}{c g:Int}:sR ds c g=true↔oh ds c g/\isF (zg ds "come" c)=false/\isF (zg ds "go" g)=false/\¬g-c<intOf (zg ds "least" c)/\¬intOf (zg ds "most" c)<g-c:=by
 unfold sR xh;rw[xv,xv,xv,xv,uV,uV,uV,uV];have:(yj ds c (g-c).toNat).isEmpty=true↔oh ds c g:=by
  unfold yj oh;rw[List.isEmpty_iff,List.map_eq_nil_iff,List.filter_eq_nil_iff];refine⟨λh z b d=>?_,λh z a=>?_⟩
  .have:=h z (zP.mpr ⟨b,by omega⟩);simpa using this
  .have a:=zP.mp a;rw[h z a.1 (by omega)];decide
 simp only[zO6,this,z47,zU4,and_assoc]
def tF {ds:List Aa}{c g:Int}(h:sR ds c g=true):oh ds c g:=(za6.mp h).1
def oR {ds:List Aa}{c g:Int}(cg:c<=g){d:Aa}(h:d∈xh ds c g):∃(x:Str) (z:Int),d=pB x z/\x∈words/\c<=z/\z<=g:=by
 unfold xh at h;simp only[zN6]at h;have a:∀{b:Bool} {x:Str} {z:Int},d∈opt b (pB x z)->d=pB x z:=λ{b x z} h=>by
  cases b
  .simp[opt]at h
  .simpa[opt]using h
 rcases h with(((h|h)|h)|h)|h
 .obtain⟨z,e,rfl⟩:=z40.mp h;have e:=zP.mp (z30.mp e).1;exact⟨_,z,rfl,by simp[words],e.1,by omega⟩
 .exact⟨_,c,a h,by simp[words],by omega,by omega⟩
 .exact⟨_,g,a h,by simp[words],by omega,by omega⟩
 .exact⟨_,c,a h,by simp[words],by omega,by omega⟩
 .exact⟨_,c,a h,by simp[words],by omega,by omega⟩
def kH {x:Str}{z:Int}(c:x∈words)(h0:-100<=z)(d:z<=2000000):yp 5000 (pB x z)/\(pB x z).depth<=1:=by
 have a:(2000001:Int)<big:=by decide
 have b:-big<(-100:Int):=by decide
 exact⟨yp.tuple (n:=2000) (zR.two (rY c) (yp.int (by omega) (by omega)) (zL6 _) (zL6 _)) (by show 2*(2000+2)+3<=5000;decide),by simp[pB,PyData.depth,PyData.depthAll]⟩
def fG {ds:List Aa}{c g:Int}:(xh ds c g).length<=(g-c).toNat+4:=by
 unfold xh;simp only[zM8];have h0:=uz ds c (g-c).toNat;have a:=vL (isF (zg ds "come" c)) (pB "come" c);have b:=vL (isF (zg ds "go" g)) (pB "go" g);have e:=vL (decide (g-c<intOf (zg ds "least" c))) (pB "least" c);have d:=vL (decide (intOf (zg ds "most" c)<g-c)) (pB "most" c);omega
def qi {ds:List Aa}{c g:Int}(sb:sI c g):yp sizeLine (.list (xh ds c g)):=by
 obtain⟨h,cg,g1,g2⟩:=sb;refine yp.list (n:=5000) ⟨λd hd=>?_,λd hd=>?_⟩ ?_
 .obtain⟨x,z,rfl,e,a,b⟩:=oR (by omega) hd;exact(kH e (by omega) (by omega)).1
 .obtain⟨x,z,rfl,e,a,b⟩:=oR (by omega) hd;have:=(kH e (z:=z) (by omega) (by omega)).2;omega
 .have i:(xh ds c g).length*(5000+2)<=18*(5000+2):=Nat.mul_le_mul_right _ (by have:=fG (ds:=ds) (c:=c) (g:=g);omega);have f:18*(5000+2)+2<=sizeLine:=by decide
  omega
def bY {ds:List Aa}:PyData.eqv (.list ds) (.list [])=ds.isEmpty:=by
 cases ds<;>rfl
def zi7 (C:Ad)(cs:Cs):Ph:=λas Q=>∃(ds:List Aa) (c g:Int),as=[.dat (yh C cs ds),.dat (.tuple [.int c,.int g])]/\zF ds/\sI c g/\Q (.dat (.bool (sR ds c g)))
def zi2 (C:Ad)(cs:Cs):Ph:=λas Q=>∃(ds:List Aa) (c g:Int),as=[.dat (yh C cs ds),.dat (.tuple [.int c,.int g])]/\zF ds/\sI c g/\Q (.dat (oD (coO ds c g)))
section
variable {P:Ah}{w:Ak}{K:Ae}{mg:Str->Option Ab}{base:An}{cs:Cs}
def js {C:Ad}(d:Cal P w K mg base "bill" 5 (dR C cs)):Cal P w K mg base "bill" 5 (je C cs):=by
 refine d.imp λas Q h=>?_;obtain⟨ds,c,g,rfl,a,⟨k,cg,g1,g2⟩,so,q⟩:=h;refine⟨ds,c,g,wc ds c,λz=>intOf (zg ds "price" z),rfl,a.rules,k,cg,by omega,by omega,λz i j=>sO a so i j,?_,(bA a c).1,λbs mk=>q bs _ mk⟩;rcases cb a.all c with e|⟨m,f,e,f0,l,b⟩
 .exact .inl e
 .exact .inr ⟨m,f,e,by omega,b⟩
def aa {C:Ad}(F:FnD K mg "can_be_had" zz5 ["book","stay"])(e:Cal P w K mg base "bars" 3 (gq C cs)):Cal P w K mg base "can_be_had" 4 (zi7 C cs):=by
 refine yL ["book","stay"] F λ_ _ b _ _ _ _ _ Q nd hr h=>?_;obtain⟨ds,c,g,rfl,a,sb,q⟩:=h;obtain⟨f,cg,g1,g2⟩:=id sb;and_intros;refine⟨ds,c,g,rfl,a.rules,by omega,by omega,by omega,by omega,?_⟩;and_intros;exact eqk (qi sb).shaped rfl (qi sb).nod rfl (by rw[show PyData.eqv (A.own (xh ds c g)).d (.list [])=sR ds c g from bY];exact q)
def bf {C:Ad}(F:FnD K mg "cost_or_none" zC8 ["book","stay"])(b:Cal P w K mg base "can_be_had" 4 (zi7 C cs))(d:Cal P w K mg base "bill" 5 (je C cs)):Cal P w K mg base "cost_or_none" 6 (zi2 C cs):=by
 refine yL ["book","stay"] F λ_ _ _ _ _ _ _ _ Q nd hr h=>?_;obtain⟨ds,c,g,rfl,a,sb,q⟩:=h;and_intros;refine⟨ds,c,g,rfl,a,sb,?_⟩;and_intros;refine gk (λe=>?_) (λe=>?_)
 .and_intros;refine⟨ds,c,g,rfl,a,sb,tF e,λbs rows mk=>?_⟩;and_intros;show Q _;rw[ze3 a (tF e) mk];unfold coO at q;rw[if_pos e]at q;exact q
 .and_intros;unfold coO at q;rw[if_neg (by rw[e];decide)]at q;exact q
end
def take_snoc {β:Type}{l:List β}{i:Nat}{d:β}(h:l[i]?=some d):l.take (i+1)=l.take i++[d]:=by rw[zW5,h];rfl
def vj {ds:List Aa}{x:Str}{d e:Int}(h:∀r∈ds,yy x d r=yy x e r):zg ds x d=zg ds x e:=by
 unfold zg;have:ds.reverse.find? (yy x d)=ds.reverse.find? (yy x e):=by
  have key:∀l:List Aa,(∀r∈l,yy x d r=yy x e r)->l.find? (yy x d)=l.find? (yy x e):=by
   intro l
   induction l with
   |nil=>intro _;rfl
   |cons a l c=>
    intro b;rw[zQ5,zQ5,b a zL7,c λr hr=>b r (zL1 _ hr)]
  exact key _ λr hr=>h r (List.mem_reverse.mp hr)
 rw[this]
theorem lV {d:Int}:∀(ys:List Int),(∃y∈ys,y<=d)->∃e∈ys,e<=d/\∀y∈ys,y<=d->y<=e
 |[],h=>by obtain⟨y,hy,_⟩:=h;simp at hy
 |a::ys,h=>by
  by_cases f:∃y∈ys,y<=d
  .obtain⟨e,he,hd,hm⟩:=lV ys f;by_cases ha:a<=d/\e<a
   .exact⟨a,zL7,ha.1,λy hy b=>by
     rcases zK8.mp hy with rfl|hy
     .exact zT7 _
     .have:=hm y hy b;omega⟩
   .exact⟨e,zL1 _ he,hd,λy hy b=>by
     rcases zK8.mp hy with rfl|hy
     .omega
     .exact hm y hy b⟩
  .obtain⟨y,hy,b⟩:=h;rcases zK8.mp hy with rfl|hy
   .exact⟨y,zL7,b,λz c g=>by
     rcases zK8.mp c with rfl|c
     .exact zT7 _
     .exact absurd ⟨z,c,g⟩ f⟩
   .exact absurd ⟨y,hy,b⟩ f
def sh {x:Str}{r:Aa}{p q:Int}(hr:yf r=true)(d:p<=q)(h:∀a b v,r=.tuple [.str x,.int a,.int b,v]->¬(p<a/\a<=q)/\¬(p<b+1/\b+1<=q)):yy x q r=yy x p r:=by
 obtain⟨u,a,b,v,f,rfl,k,ab,g,hw⟩:=yn hr;show(decide (u=x)&&(decide (a<=q)&&decide (q<=b)))=(decide (u=x)&&(decide (a<=p)&&decide (p<=b)));by_cases c:u=x
 .subst c;obtain⟨i,j⟩:=h a b v rfl;have e1:decide (a<=q)=decide (a<=p):=by
   by_cases z:a<=q
   .rw[zN5 z,zN5 (by omega)]
   .rw[zM2 z,zM2 (by omega)]
  have e:decide (q<=b)=decide (p<=b):=by
   by_cases z:q<=b
   .rw[zN5 z,zN5 (by omega)]
   .rw[zM2 z,zM2 (by omega)]
  rw[e1,e]
 .rw[zM2 c,zT8,zT8]
def hJ {β:Type}{f:Int->β}{c e:Int}:∀{n:Nat},(∀i:Nat,i<n->f (c+i)=f (e+i))->(zq c n).map f=(zq e n).map f:=λ{n} h=>by
 refine List.ext_getElem? λi=>?_;rw[zM3,zM3];rcases zQ1 i n with z|z
 .rw[yE z,yE z];exact congrArg some (h i z)
 .rw[zY1 (by rw[zf];exact z),zY1 (by rw[zf];exact z)]
theorem za0 {l:List Int}{f:Int->Bool}:(l.filter f).isEmpty=!(l.map f).any id:=by
 induction l with
 |nil=>rfl
 |cons a l b=>
  rw[zZ3,zP4,z51];cases h:f a with
  |true=>simp
  |false=>simpa using b
def aH {β:Type}(a b:List β):(a++b).isEmpty=(a.isEmpty&&b.isEmpty):=by cases a<;>rfl
def bP (b:Bool)(d:Aa):(opt b d).isEmpty=!b:=by cases b<;>rfl
def bW {β b:Type}(f:β->b)(a:List β):(a.map f).isEmpty=a.isEmpty:=by cases a<;>rfl
def iN {ds:List Aa}{c e:Int}{n:Nat}(a:∀i:Nat,i<n->zg ds "price" (c+i)=zg ds "price" (e+i))(g:zg ds "come" c=zg ds "come" e)(h:zg ds "least" c=zg ds "least" e)(m:zg ds "most" c=zg ds "most" e)(l:zg ds "deal" c=zg ds "deal" e)(d:zg ds "fee" c=zg ds "fee" e)(j:zg ds "go" (c+n)=zg ds "go" (e+n)):coO ds c (c+n)=coO ds e (e+n):=by
 have n1:(c+n-c).toNat=n:=by omega
 have n2:(e+n-e).toNat=n:=by omega
 have k:c+n-c=(n:Int):=by omega
 have b:e+n-e=(n:Int):=by omega
 have o:sR ds c (c+n)=sR ds e (e+n):=by
  unfold sR xh yj;simp only[aH,bP,bW,za0,n1,n2,k,b,g,h,m,j,zR7];rw[hJ (c:=c) (e:=e) (f:=λz=>xu (zg ds "price" z)) λi hi=>congrArg xu (a i hi)]
 have ep:prs ds c (c+n)=prs ds e (e+n):=by
  unfold prs;rw[n1,n2];exact hJ λi hi=>congrArg intOf (a i hi)
 unfold coO coD zc2 wc;rw[o,ep,l,d]
structure Trn (ds:List Aa)(n:Nat)(ys:List Int):Prop where
 zero:0∈ys
 lo:∀y∈ys,0<=y
 hi:∀y∈ys,y+n<=1000000
 at':∀(x:Str) (a b:Int) (v:Aa),.tuple [.str x,.int a,.int b,v]∈ds->∀d:Int,0<=d->d+n<=1000000->(x="go"->d+n=a\/d+n=b+1->d∈ys)/\(x≠"go"->x≠"price"->d=a\/d=b+1->d∈ys)/\(x="price"->∀i:Nat,i<n->d+i=a\/d+i=b+1->d∈ys)
def Trn.same {ds es:List Aa}{n:Nat}{ys:List Int}(p:∀d∈ds,yf d=true)(re:∀d∈es,yf d=true)(T:Trn (ds++es) n ys){c:Int}(q:0<=c)(t:c+n<=1000000):∃e∈ys,e<=c/\coO ds c (c+n)=coO ds e (e+n)/\coO es c (c+n)=coO es e (e+n):=by
 obtain⟨e,he,o,hm⟩:=lV ys ⟨0,T.zero,q⟩;have s:=T.lo e he;have key:∀h:List Aa,(∀r∈h,r∈ds++es/\yf r=true)->coO h c (c+n)=coO h e (e+n):=λh hg=>by
  have j:∀x:Str,x≠"go"->x≠"price"->zg h x c=zg h x e:=λx l m=>vj λr hr=>sh (hg r hr).2 o λa b v f=>by
   subst f;exact⟨λ⟨k,g⟩=>by have:=hm a ((T.at' x a b v (hg _ hr).1 a (by omega) (by omega)).2.1 l m (.inl rfl)) g;omega,λ⟨k,g⟩=>by have:=hm (b+1) ((T.at' x a b v (hg _ hr).1 (b+1) (by omega) (by omega)).2.1 l m (.inr rfl)) g;omega⟩
  refine iN (λi hi=>?_) (j _ (by decide) (by decide)) (j _ (by decide) (by decide)) (j _ (by decide) (by decide)) (j _ (by decide) (by decide)) (j _ (by decide) (by decide)) ?_
  .refine vj λr hr=>sh (hg r hr).2 (by omega) λa b v f=>?_;subst f;exact⟨λ⟨k,g⟩=>by have:=hm (a-i) ((T.at' _ a b v (hg _ hr).1 (a-i) (by omega) (by omega)).2.2 rfl i hi (.inl (by omega))) (by omega);omega,λ⟨k,g⟩=>by have:=hm (b+1-i) ((T.at' _ a b v (hg _ hr).1 (b+1-i) (by omega) (by omega)).2.2 rfl i hi (.inr (by omega))) (by omega);omega⟩
  .refine vj λr hr=>sh (hg r hr).2 (by omega) λa b v f=>?_;subst f;exact⟨λ⟨k,g⟩=>by have:=hm (a-n) ((T.at' _ a b v (hg _ hr).1 (a-n) (by omega) (by omega)).1 rfl (.inl (by omega))) (by omega);omega,λ⟨k,g⟩=>by have:=hm (b+1-n) ((T.at' _ a b v (hg _ hr).1 (b+1-n) (by omega) (by omega)).1 rfl (.inr (by omega))) (by omega);omega⟩
 exact⟨e,he,o,key ds λr hr=>⟨zO0 _ hr,p r hr⟩,key es λr hr=>⟨zM4 _ hr,re r hr⟩⟩
def nj (ds es:List Aa)(n:Nat):Prop:=∀c:Int,0<=c->c+n<=1000000->coO ds c (c+n)=coO es c (c+n)
def Trn.all {ds es:List Aa}{n:Nat}{ys:List Int}(a:∀d∈ds,yf d=true)(re:∀d∈es,yf d=true)(T:Trn (ds++es) n ys)(h:∀y∈ys,coO ds y (y+n)=coO es y (y+n)):nj ds es n:=λc b i=>by
 obtain⟨e,he,_,f,g⟩:=T.same a re b i;rw[f,g];exact h e he
structure ef (ds es:List Aa)(n:Nat)(c:Int):Prop where
 n1:1<=n
 n2:n<=14
 lo:0<=c
 hi:c+n<=1000000
 ne:coO ds c (c+n)≠coO es c (c+n)
 bef:∀m:Nat,1<=m->m<n->nj ds es m
 least:∀e:Int,0<=e->e<c->coO ds e (e+n)=coO es e (e+n)
def Apt (ds es:List Aa):Option (Nat×Int)->Prop
 |none=>∀m:Nat,1<=m->m<=14->nj ds es m
 |some q=>ef ds es q.1 q.2
noncomputable def cP (ds es:List Aa):Option (Nat×Int)->Aa
 |none=>.none
 |some q=>.tuple [.tuple [.int q.2,.int (q.2+q.1)],oD (coO ds q.2 (q.2+q.1)),oD (coO es q.2 (q.2+q.1))]
theorem jh {ds es:List Aa}{q r:Option (Nat×Int)}(h:Apt ds es q)(g:Apt ds es r):q=r:=by
 cases q with
 |none=>cases r with
  |none=>rfl
  |some r=>exact absurd (h r.1 g.n1 g.n2 r.2 g.lo g.hi) g.ne
 |some q=>cases r with
  |none=>exact absurd (g q.1 h.n1 h.n2 q.2 h.lo h.hi) h.ne
  |some r=>
   obtain⟨n,c⟩:=q;obtain⟨m,d⟩:=r;have h:ef ds es n c:=h;have g:ef ds es m d:=g;have a1:¬n<m:=λz=>h.ne (g.bef n h.n1 z c h.lo h.hi);have a2:¬m<n:=λz=>g.ne (h.bef m g.n1 z d g.lo g.hi);have e:n=m:=by omega
   subst e;have a:¬c<d:=λz=>h.ne (g.least c h.lo z);have b:¬d<c:=λz=>g.ne (h.least d g.lo z);have e:c=d:=by omega
   subst e;rfl
def Trn.fst {ds es:List Aa}{n:Nat}{ys:List Int}(p:∀d∈ds,yf d=true)(re:∀d∈es,yf d=true)(T:Trn (ds++es) n ys)(up:ys.Pairwise (·<=·))(n1:1<=n)(n2:n<=14)(al:∀m:Nat,1<=m->m<n->nj ds es m){j:Nat}{y:Int}(hy:ys[j]?=some y)(o:∀z∈ys.take j,coO ds z (z+n)=coO es z (z+n))(ne:coO ds y (y+n)≠coO es y (y+n)):ef ds es n y:=by
 have a:=zQ3 hy;refine⟨n1,n2,T.lo y a,T.hi y a,ne,al,λe h e1=>?_⟩;obtain⟨u,f,q,g,l⟩:=T.same p re h (by have:=T.hi y a;omega);rw[g,l];obtain⟨k,hk⟩:=List.getElem?_of_mem f;have c:k<j:=by
  rcases zQ1 k j with z|z
  .exact z
  .obtain⟨p1,p2⟩:=zK7.mp hy;obtain⟨p3,p4⟩:=zK7.mp hk;rcases zQ1 j k with b|b
   .have:=zS8.mp up j k p1 p3 b;omega
   .have:j=k:=by omega
    subst this;omega
 exact o u (zQ3 (i:=k) (by rw[List.getElem?_take_of_lt c,hk]))
abbrev sTb :Ap:=top 28
abbrev sTn :Ap:=top 29
abbrev zb6 :Ap:=top 30
def tbL (u:Str)(a b:Int)(n:Nat):List Int:=if u="go" then [a-n,b+1-n]else if u="price" then zq (a-n+1) n++zq (b+1-n+1) n else [a,b+1]
def zl2 (u:Str)(a b:Int){n:Nat}(h:n<=14):(tbL u a b n).length<=28:=by
 unfold tbL;split
 .simp
 .split
  .rw[zM8,zf,zf];omega
  .simp
def zE2 :Ph:=λas Q=>∃(u:Str) (a b:Int) (v:Aa) (n:Nat),as=[.dat (.tuple [.str u,.int a,.int b,v]),.dat (.int n)]/\0<=a/\a<=b/\b<=1000000/\n<=14/\Q (.dat (.list ((tbL u a b n).map .int)))
def zC3 :Ph:=λas Q=>∃(ds:List Aa) (n:Nat),as=[.dat (.list ds),.dat (.int n)]/\(∀d∈ds,yf d=true)/\ds.length<=24/\1<=n/\n<=14/\∀ys:List Int,Trn ds n ys->ys.Pairwise (·<=·)->ys.length<=1000->Q (.dat (.list (ys.map .int)))
def zi0 (C:Ad)(cs:Cs):Ph:=λas Q=>∃ds es:List Aa,as=[.dat (yh C cs ds),.dat (yh C cs es)]/\zF ds/\zF es/\ds.length<=12/\es.length<=12/\∀q,Apt ds es q->Q (.dat (cP ds es q))
def wz (x:Option Int):SeqAt.shaped (oD x)=true/\(oD x).hasDict=false:=by cases x<;>exact⟨rfl,rfl⟩
def zm3 (x y:Option Int):PyData.eqv (oD x) (oD y)=decide (x=y):=by
 cases x<;>cases y<;>simp[oD,PyData.eqv]<;>rfl
section
variable {P:Ah}{w:Ak}{K:Ae}{mg:Str->Option Ab}{base:An}{cs:Cs}
def zu4 (F:FnD K mg "turns_by" sTb ["rule","many"])(nb:NbT mg):Cal P w K mg base "turns_by" 1 zE2:=by
 refine yL ["rule","many","edges","found","edge"] F λ_ _ _ _ _ _ _ _ Q nd hr h=>?_;obtain⟨u,a,b,v,n,rfl,o,ab,m,n2,q⟩:=h;unfold tbL at q;and_intros;refine wQ (λh=>?_) λh=>?_
 .rw[if_pos (zW9 h)]at q;refine yP (EvL.d (fu ["edge","many"] [none,some 1] (.one 0) (yG (zc 2 rfl ⟨_,rfl,by simp,?_⟩))));refine iI (l:=[a,b+1]) (g:=PyData.int) (λe=>.int (e-n)) (λe _=>⟨_,rfl,λ_ _ _ _ _ k=>?_⟩) q;and_intros;exact k
 rw[if_neg (of_decide_eq_false h)]at q;and_intros;refine wQ (λh=>?_) λh=>?_
 .rw[if_neg (by simpa using h)]at q;and_intros;exact q
 rw[if_pos (by simpa using h)]at q;and_intros;refine wO (.one 4) (yG (zc 2 rfl ⟨_,rfl,?_⟩));refine yx (λi O=>∃c:Option A,O=[some (.dat (.tuple [.str u,.int a,.int b,v])),some (.dat (.int n)),some (.dat (.list [.int a,.int (b+1)])),some (.own (((([a,b+1]:List Int).take i).flatMap λe=>zq (e-n+1) n).map .int)),c]) ⟨none,rfl⟩ ?_ ?_
 .rintro i d O hd ⟨c,rfl⟩;have hd:(([a,b+1]:List Int).map PyData.int)[i]?=some d:=hd;rw[zM3,zO5]at hd;obtain⟨e,he,rfl⟩:=hd;have hi:=(zK7.mp he).1;have j:0<=e/\e<=1000001:=by
   have:=zQ3 he;simp at this;omega
  refine⟨_,rfl,rL 3 rfl (EvL.d (oy rfl (by rfl) nb.list (by rfl) nb.range ?_))⟩;and_intros;refine⟨⟨by omega,by omega,by omega,by omega⟩,by omega,_,rfl,?_,zE ⟨some (.dat (.int e)),?_⟩⟩
  .have l:∀l:List Int,(l.flatMap λe=>zq (e-n+1) n).length=l.length*n:=λl=>by
    induction l with
    |nil=>simp
    |cons a l f=>rw[List.flatMap_cons,zM8,f,zf,zN0,Nat.add_mul];omega
   rw[zK3,zK3,zf,l,zR4];have:min i ([a,b+1]:List Int).length*n<=2*14:=Nat.mul_le_mul (by simp;omega) n2;omega
  .rw[zW5,he,List.flatMap_append,z02,show(e+1-(e-n+1)).toNat=n by omega];simp
 .rintro O ⟨c,rfl⟩;refine cj 3 rfl (yP (zc 3 rfl ?_));simpa using q
def zs1 (F:FnD K mg "turns" sTn ["rules","many"])(nb:NbT mg)(f:mg "set"=none)(gl:∃t,mg "LAST_DAY"=some (.int 1000000 t))(CT:Cal P w K mg base "turns_by" 1 zE2):Cal P w K mg base "turns" 2 zC3:=by
 refine yL ["rules","many","found","rule"] F λ_ _ _ _ _ _ _ _ Q nd hr h=>?_;obtain⟨ds,n,rfl,C,ld,n1,n2,q⟩:=h;refine xt 2 nd ?_;and_intros;refine wO (.one 3) (yG (zc 0 rfl ⟨_,rfl,?_⟩));refine yx (λi O=>∃(fs:List Int) (o:Option A),0∈fs/\(∀u a b v,.tuple [.str u,.int a,.int b,v]∈ds.take i->∀y∈tbL u a b n,y∈fs)/\fs.length<=1+28*i/\O=[some (.dat (.list ds)),some (.dat (.int n)),some (.own (fs.map .int)),o]) ⟨[0],none,by simp,λu a b v h=>by simp at h,by simp,rfl⟩ ?_ ?_
 .rintro i d O hd ⟨fs,o,m,hf,lf,rfl⟩;have hi:=(zK7.mp hd).1;obtain⟨u,a,b,v,J,rfl,I,ab,E,hw⟩:=yn (C d (zQ3 hd));have L:=zl2 u a b n2;refine⟨_,rfl,rL 2 rfl ?_⟩;and_intros;refine⟨u,a,b,v,n,rfl,I,ab,E,n2,_,rfl,by rw[zK3,zK3];omega,zE ⟨fs++tbL u a b n,_,zO0 _ m,λG s D H h y hy=>?_,by rw[zM8];omega,by rw[z02]<;>rfl⟩⟩;rw[take_snoc hd]at h;rcases zN6.mp h with h|h
  .exact zO0 _ (hf G s D H h y hy)
  .have h:=zN1.mp h;injection h with h;injection h with c h;injection h with g h;injection h with l h;injection c with c;injection g with g;injection l with l;subst c g l;exact zM4 _ hy
 .rintro O ⟨fs,o,m,hf,lf,rfl⟩;rw[zT3]at hf;refine cj 2 rfl (yP (EvL.d (fu ["day","many"] [none,some 1] (.one 0) (yG (EvL.d (oN rfl (by rfl) nb.sorted (by rfl) f (zc 2 rfl ⟨fs,rfl,by omega,λys z up M=>⟨_,rfl,by rw[zK3];omega,?_⟩⟩)))))));refine pP (λd:Int=>decide (0<=d)&&decide (d<=1000000-(n:Int))) .int (λd hd=>⟨_,rfl,λ_ _ _ _ _ k=>lH ?_,λ_ _ _ _ _ _ k=>?_⟩) ?_
  .and_intros;refine gk (λh=>?_) λh=>?_
   .refine nY (zY (by rfl) gl ?_);and_intros;rw[h]at k;exact k
   .rw[h]at k;exact k
  .and_intros;exact k
  rw[zV5];have j:∀{y:Int},y∈fs->0<=y->y+n<=1000000->y∈ys.filter λd:Int=>decide (0<=d)&&decide (d<=1000000-(n:Int)):=λ{y} c g l=>z30.mpr ⟨(z y).mpr c,by simp;omega⟩;have mb:∀y∈ys.filter λd:Int=>decide (0<=d)&&decide (d<=1000000-(n:Int)),0<=y/\y+n<=1000000:=λy hy=>by
   have:=(z30.mp hy).2;simp at this;omega
  refine q _ ⟨j m (zT7 _) (by omega),λy hy=>(mb y hy).1,λy hy=>(mb y hy).2,λx a b v hm d p r=>?_⟩ ((up.imp λh=>zZ1 h).filter _) (by have:=List.length_filter_le (λd:Int=>decide (0<=d)&&decide (d<=1000000-(n:Int))) ys;omega);have hf:=hf x a b v hm;unfold tbL at hf;refine⟨λe h=>?_,λe1 B h=>?_,λe i hi h=>?_⟩
  .rw[if_pos e]at hf;exact j (hf d (by simp;omega)) p r
  .rw[if_neg e1,if_neg B]at hf;exact j (hf d (by simp;omega)) p r
  .subst e;rw[if_neg (by decide),if_pos rfl]at hf;refine j (hf d (zN6.mpr ?_)) p r;rw[zP,zP];omega
def zb2 {C:Ad}(F:FnD K mg "apart" zb6 ["one","other"])(nb:NbT mg)(v:∃t,mg "MOST_NIGHTS"=some (.int 14 t))(ga:∃t,mg "MOST_RULES_APART"=some (.int 12 t))(D:xq P w K mg base C "rules" 3 (qU C cs))(CT:Cal P w K mg base "turns" 2 zC3)(B:Cal P w K mg base "cost_or_none" 6 (zi2 C cs)):Cal P w K mg base "apart" 7 (zi0 C cs):=by
 refine yL ["one","other","rules","others","many","come","stay","coins","others_coins"] F λ_ _ x _ _ _ _ _ Q nd hr h=>?_;obtain⟨ds,es,rfl,r,re,ld,le,q⟩:=h;and_intros;refine⟨r.rules,by omega,?_⟩;and_intros;refine⟨re.rules,by omega,?_⟩;and_intros;refine zY (by rfl) ga ?_;and_intros;refine xK (zM2 (by split<;>omega)) (zE ?_);refine wO (.one 4) (jZ (by rfl) nb.range (zN (qN (zY (by rfl) v ?_))));and_intros;refine⟨⟨by decide,by decide,by decide,by decide⟩,?_⟩;refine yx (λi O=>∃s f l k g:Option A,(∀m:Nat,1<=m->m<1+i->nj ds es m)/\O=[some (.dat (yh C cs ds)),some (.dat (yh C cs es)),some (.dat (.list ds)),some (.dat (.list es)),s,f,l,k,g]) ⟨none,none,none,none,none,λm a b=>by omega,rfl⟩ ?_ ?_
 .rintro i d O hd ⟨s,f,l,k,g,o,rfl⟩;rw[zM3,zO5]at hd;obtain⟨z,c,rfl⟩:=hd;have hi:=(zK7.mp c).1;rw[zf]at hi;have hi:i<14:=hi;obtain rfl:z=((1+i:Nat):Int):=by rw[yE (by exact hi)]at c;cases c;omega
  have n1:1<=1+i:=by omega
  have n2:1+i<=14:=by omega
  generalize hn:1+i=n at o n1 n2;refine⟨_,rfl,wO (.one 5) (yG (qP CT (hr.mono (by decide)) (by rfl) (zk (EvL.d (wu (zc 2 rfl (zc 3 rfl ⟨_,_,rfl,rfl,by omega,zk (zc 4 rfl (zu ⟨ds++es,n,rfl,λd hd=>(zN6.mp hd).elim (r.all d) (re.all d),by simp;omega,n1,n2,λys T up E=>⟨_,rfl,?_⟩⟩))⟩)))))))⟩;refine yx (λj O=>∃f l k g:Option A,(∀z∈ys.take j,coO ds z (z+n)=coO es z (z+n))/\O=[some (.dat (yh C cs ds)),some (.dat (yh C cs es)),some (.dat (.list ds)),some (.dat (.list es)),some (.dat (.int n)),f,l,k,g]) ⟨f,l,k,g,λz h=>by simp at h,rfl⟩ ?_ ?_
  .rintro j d O hd ⟨f,l,k,g,p,rfl⟩;rw[zM3,zO5]at hd;obtain⟨y,hy,rfl⟩:=hd;have u:=zQ3 hy;have sb:sI y (y+n):=⟨T.lo y u,by omega,by omega,T.hi y u⟩;refine⟨_,rfl,?_⟩;and_intros;refine⟨ds,y,y+n,rfl,r,sb,?_⟩;and_intros;refine⟨es,y,y+n,rfl,re,sb,?_⟩;and_intros;refine eqk (wz _).1 (wz _).1 (wz _).2 (wz _).2 ?_;rw[show PyData.eqv (A.dat (oD (coO ds y (y+n)))).d (A.dat (oD (coO es y (y+n)))).d=decide (coO ds y (y+n)=coO es y (y+n))from zm3 _ _];refine wQ (λh=>?_) λh=>?_
   .and_intros;exact q (some (n,y)) (T.fst r.all re.all up n1 n2 o hy p (by simpa using h))
   .and_intros;refine⟨_,_,_,_,λz c=>?_,rfl⟩;rw[take_snoc hy]at c;rcases zN6.mp c with c|c
    .exact p z c
    .rw[zN1.mp c];simpa using h
  .rintro O ⟨f,l,k,g,p,rfl⟩;rw[zK3,zT3]at p;and_intros;refine⟨_,_,_,_,_,λm m1 m2=>?_,rfl⟩;by_cases e:m<n
   .exact o m m1 e
   .obtain rfl:m=n:=by omega
    exact T.all r.all re.all p
 .rintro O ⟨s,f,l,k,g,o,rfl⟩;and_intros;exact q none λm m1 m2=>o m m1 (by rw[zK3,zf];show m<1+14;omega)
end
def Alike (ds es:List Aa):Prop:=∀x∈words,∀day:Int,0<=day->day<=1000000->zg ds x day=zg es x day
def lF {ds es:List Aa}(h:Alike ds es){c g:Int}(sb:sI c g):xh ds c g=xh es c g:=by
 obtain⟨d,cg,g1,g2⟩:=sb;have e:∀x∈words,zg ds x c=zg es x c:=λx f=>h x f c d (by omega);have b:yj ds c (g-c).toNat=yj es c (g-c).toNat:=by
  unfold yj;refine congrArg _ (List.filter_congr λz a=>?_);have a:=zP.mp a;rw[h "price" (by simp[words]) z (by omega) (by omega)]
 unfold xh;rw[b,e "come" (by simp[words]),h "go" (by simp[words]) g (by omega) g2,e "least" (by simp[words]),e "most" (by simp[words])]
def cm {ds es:List Aa}(h:Alike ds es){c g:Int}(sb:sI c g):coO ds c g=coO es c g:=by
 have hb:=lF h sb;obtain⟨b,cg,g1,g2⟩:=sb;have d:prs ds c g=prs es c g:=by
  unfold prs;refine List.map_congr_left λz a=>?_;have a:=zP.mp a;rw[h "price" (by simp[words]) z (by omega) (by omega)]
 unfold coO coD zc2 wc sR;rw[hb,d,h "deal" (by simp[words]) c b (by omega),h "fee" (by simp[words]) c b (by omega)]
def xB {ds es:List Aa}(h:Alike ds es){q:Option (Nat×Int)}(a:Apt ds es q):cP ds es q=.none:=by
 rw[jh a (show Apt ds es none from λm m1 m2 c b d=>cm h ⟨b,by omega,by omega,d⟩)];rfl
def p68 :Aa:=.tuple [.str "price",.int 0,.int 40,.int 5]
def vU (k:Nat)(e v:Int):Aa:=.tuple [.str "fee",.int (3*k),.int (3*k+e),.int v]
def uw :Aa:=.tuple [.str "most",.int 5,.int 6,.int 14]
def wA {x:Str}{day e v:Int}{k:Nat}:yy x day (vU k e v)=(decide (("fee":Str)=x)&&(decide (3*(k:Int)<=day)&&decide (day<=3*k+e))):=rfl
def zB8 {x:Str}{day:Int}:yy x day uw=(decide (("most":Str)=x)&&(decide (5<=day)&&decide (day<=6))):=rfl
structure Few (f1 f2:Aa):Prop where
 a:∃e v:Int,f1=vU 1 e v/\0<=e/\e<=1/\0<=v/\v<=2
 b:∃e v:Int,f2=vU 2 e v/\0<=e/\e<=1/\0<=v/\v<=2
def zD9 {f1 f2:Aa}(h:Few f1 f2):Alike [p68,f1,f2] [p68,f1,f2,p68,f1]:=λx k day m n=>by
 obtain⟨e,v,rfl,l,e1,_⟩:=h.a;obtain⟨f,g,rfl,j,i,_⟩:=h.b;unfold zg;simp only[List.reverse_cons,List.reverse_nil,zV5,z08,zQ5,List.find?_nil];by_cases d:("fee":Str)=x
 .subst d;rw[show yy "fee" day p68=false from rfl];cases c:yy "fee" day (vU 1 e v)with
  |false=>rfl
  |true=>
   rw[wA,zO6,zO6]at c;have c:=c.2.2;have c:day<=3*((1:Nat):Int)+e:=zW9 c;rw[show yy "fee" day (vU 2 f g)=false from by rw[wA,zM2 (show ¬3*((2:Nat):Int)<=day by omega),zT8,z65]]
 .rw[show yy x day (vU 1 e v)=false by rw[wA,zM2 d,zT8],show yy x day (vU 2 f g)=false by rw[wA,zM2 d,zT8]];cases yy x day p68<;>rfl
def zx8 {f1 f2:Aa}(h:Few f1 f2):Alike [f1,f2,p68] [p68,f1,f2]:=λx j day l m=>by
 obtain⟨e,v,rfl,k,e1,_⟩:=h.a;obtain⟨g,i,rfl,f,d,_⟩:=h.b;unfold zg;simp only[List.reverse_cons,List.reverse_nil,zV5,z08,zQ5,List.find?_nil];by_cases c:("fee":Str)=x
 .subst c;rw[show yy "fee" day p68=false from rfl]
 .rw[show yy x day (vU 1 e v)=false by rw[wA,zM2 c,zT8],show yy x day (vU 2 g i)=false by rw[wA,zM2 c,zT8]]
theorem zk6 {f1 f2:Aa}(h:Few f1 f2):∀n,Alike [p68,f1,f2] ([p68,f1,f2]++List.replicate n uw)
 |0=>λx c day d f=>by rw[List.replicate_zero,zP6]
 |n+1=>λx c day d f=>by
  have j:=zk6 h n x c day d f;obtain⟨e,v,rfl,k,e1,_⟩:=h.a;obtain⟨l,m,rfl,i,g,_⟩:=h.b;rw[List.replicate_succ',<-zN2,oo];by_cases hm:yy x day uw=true
  .rw[if_pos hm];rw[zB8]at hm;have hm:=zW9 (zW2.mp hm).1;subst hm;rfl
  .rw[if_neg hm];exact j
def dS :coO [] 0 ((0:Int)+(1:Nat))=none:=by decide +kernel
def zu3 :xl p68:=xl.of (by simp[words]) (by omega) (by omega) (by omega) rfl ((yp.int (by unfold big;omega) (by unfold big;omega)).mono (by decide)) (zL6 _)
def zz6 :coO [p68] 0 ((0:Int)+(1:Nat))=some 5:=by
 have a:sR [p68] 0 ((0:Int)+(1:Nat))=true:=by decide +kernel
 unfold coO;rw[if_pos a,<-ze3 (bs:=[false]) (λd hd=>by rw[zN1.mp hd];exact zu3) (tF a) (.inl ⟨rfl,rfl⟩)]
 decide +kernel
def zz8 :Apt [] [p68] (some (1,0)):=(⟨zK6 _,by decide,zT7 _,by decide,by show coO [] 0 ((0:Int)+(1:Nat))≠coO [p68] 0 ((0:Int)+(1:Nat));rw[dS,zz6];decide,λm m1 m2=>by omega,λe a e1=>by omega⟩:ef [] [p68] 1 0)
def zm2 {q:Option (Nat×Int)}(a:Apt [] [p68] q):cP [] [p68] q=.tuple [.tuple [.int 0,.int 1],.none,.int 5]:=by
 rw[jh a zz8];show PyData.tuple [.tuple [.int 0,.int _],oD (coO [] 0 ((0:Int)+(1:Nat))),oD (coO [p68] 0 ((0:Int)+(1:Nat)))]=_;rw[dS,zz6];rfl
abbrev eX :Ap:=top 54
abbrev zj8 :Ap:=top 57
abbrev qH :Ap:=top 58
def qw (fs:List Aa):Prop:=∀(i:Nat) d,fs[i]?=some d->∃e v:Int,d=vU (i+1) e v/\0<=e/\e<=1/\0<=v/\v<=2
def qw.nil :qw []:=λi d h=>by simp at h
def qw.snoc {fs:List Aa}(h:qw fs){e v:Int}(a:0<=e)(e1:e<=1)(v0:0<=v)(v1:v<=2):qw (fs++[vU (fs.length+1) e v]):=λi d hd=>by
 by_cases hi:i<fs.length
 .rw[zN4 hi]at hd;exact h i d hd
 .have:=(zK7.mp hd).1;rw[zM8]at this;obtain rfl:i=fs.length:=by have:i<fs.length+1:=this;omega
  rw[zN9 (zK6 _),zV9]at hd;cases hd;exact⟨e,v,rfl,a,e1,v0,v1⟩
def zv2 {k:Nat}{e v:Int}(hk:k<=20)(a:0<=e)(e1:e<=1)(v0:0<=v)(v1:v<=2):xl (vU k e v):=xl.of (by simp[words]) (by omega) (by omega) (by omega) (by rw[rP];show(decide _&&decide _)=true;rw[zN5 (by omega),zN5 (by omega)];rfl) ((yp.int (by unfold big;omega) (by unfold big;omega)).mono (by decide)) (zL6 _)
def zG2 :xl uw:=xl.of (by simp[words]) (by omega) (by omega) (by omega) rfl ((yp.int (by unfold big;omega) (by unfold big;omega)).mono (by decide)) (zL6 _)
def qw.ok {fs:List Aa}(h:qw fs)(b:fs.length<=14):zF (p68::fs):=λd hd=>by
 rcases zK8.mp hd with rfl|hd
 .exact zu3
 .obtain⟨i,hi⟩:=List.getElem?_of_mem hd;obtain⟨e,v,rfl,a,e1,v0,v1⟩:=h i d hi;have:=(zK7.mp hi).1;exact zv2 (by omega) a e1 v0 v1
def cZ :Ph:=λas Q=>∃m:Int,as=[.tape,.dat (.int m)]/\10<=m/\m<=15/\∀fs,qw fs->(fs.length:Int)+1=m->Q (.own (p68::fs))
def fb (C:Ad)(cs:Cs)(CT:Ad):List A->(A->Prop)->(Aa->Prop)->Prop:=λas _ q=>∃ds es,as=[.dat (yh C cs ds),.dat (yh C cs es)]/\zF ds/\zF es/\ds.length<=24/\es.length<=24/\(12<ds.length\/12<es.length)/\q (xD0 CT)
def oC :Ph:=λas Q=>∃ds es,as=[.dat (.list ds),.dat (.list es)]/\zF ds/\zF es/\ds.length<=24/\es.length<=24/\((ds.length<=12/\es.length<=12/\∀q,Apt ds es q->Q (.dat (cP ds es q)))\/((12<ds.length\/12<es.length)/\Q (.dat (.str "many"))))
def Kit (K:Ae)(mg:Str->Option Ab)(C:Ad)(x:Str)(b:Bool):Prop:=∃B,mg x=some (.ref B)/\PySem.W.kitOne K (.ref C) (.ref B)=some b
structure XT (K:Ae)(mg:Str->Option Ab)(CT S:Ad):Prop where
 mS:mg "StayError"=some (.ref S)
 b:XB K CT S
 xc:∃init,XC K CT S init
 k1:Kit K mg CT "Barred" false
 k2:Kit K mg CT "Had" false
 k3:Kit K mg CT "NoRule" false
 k4:Kit K mg CT "NotSold" false
 k5:Kit K mg CT "TooMany" true
 mV:mg "ValueError"=none
 v:PySem.W.kitOne K (.ref CT) (.type "ValueError")=some true
section
variable {P:Ah}{w:Ak}{K:Ae}{mg:Str->Option Ab}{base:An}{cs:Cs}
def zH1 :zA ["_law_script","_law_k"] ["_law_script","_law_k"] (zb eX):=.o
def aT {f:Ad}{fd:Ao}(F:Fun K "_law_cell_at" "_law_cell_at" eX f fd)(nb:NbT mg):zS P w K mg base CX0 1 f fd ["_law_script","_law_k"] (qA K):=by
 refine zD8 F zH1 (λcdv c outer s H E a ns i hr d sc b=>?_);refine wW (zf1 (zc 1 rfl (cq 0 rfl sc (by rfl) nb.len ⟨_,_,rfl,rfl,?_⟩)));refine wQ (λh=>?_) (λh=>zE ?_)
 .exact yP (zb4 0 rfl sc (λ_ _=>rfl) (zc 1 rfl ⟨i,rfl,b,zW9 h,λz=>⟨z,rfl⟩⟩))
 .exact yP (zN ⟨_,rfl⟩)
def zs5 (F:FnD K mg "_law_rules" zj8 ["_law_row","_law_many"])(nb:NbT mg)(c:Cal P w K mg base "_law_take" 1 sg):Cal P w K mg base "_law_rules" 2 cZ:=by
 refine yL ["_law_row","_law_many","_law_rules_here","_law_k"] F λ_ _ _ _ _ _ _ _ Q nd hr h=>?_;obtain⟨m,rfl,m0,m1,q⟩:=h;refine xt 2 nd ?_;and_intros;refine gO z35 (λk O=>∃(fs:List Aa) (a:Option A),O=[some .tape,some (.dat (.int m)),some (.own (p68::fs)),a]/\qw fs/\k=(m-(fs.length+1)).toNat/\(fs.length:Int)+1<=m) (m-1).toNat ⟨[],none,rfl,.nil,by simp,by simp;omega⟩ ?_;rintro k O ⟨fs,a,rfl,hf,rfl,d⟩;refine qE 2 rfl ?_;and_intros;by_cases hd:((p68::fs).length:Int)<m
 .refine uE (zN5 hd) ?_;refine yq 3 nd (ae 2 rfl ?_);and_intros;refine⟨.inl ⟨by decide,by decide⟩,?_⟩;and_intros;refine⟨.inl ⟨by decide,by decide⟩,?_⟩;and_intros;rename_i e b e1 v v0 v1;rw[zN0]at hd;refine⟨by rw[zN0];omega,zE ⟨_,?_,fs++[vU (fs.length+1) e v],_,rfl,hf.snoc b (by omega) v0 (by omega),rfl,?_⟩⟩
  .rw[zM8,z05];omega
  .rw[zM8,z05];omega
 .refine vt (zM2 hd) ?_;exact wF 2 rfl (q fs hf (by have:((fs.length+1:Nat):Int)=fs.length+1:=rfl;rw[zN0]at hd;omega))
def zg1 :zA ((["one","other","rules","others","many","come","stay","coins","others_coins"]:List Str)++[("":Str)]) ["one","other"] (zb zb6):=.o
def gY {f C CT:Ad}{fd:Ao}(F:Fun K "apart" "apart" zb6 f fd)(hm:mg "apart"=some (.ref f))(hb:Binds K fd ["one","other"] [])(nb:NbT mg)(ga:∃t,mg "MOST_RULES_APART"=some (.int 12 t))(g:xq P w K mg base C "rules" 3 (qU C cs))(XT:zo5 K mg "TooMany" CT):bu P w K mg base "apart" 7 (fb C cs CT):=by
 refine zH2 F hm hb zg1 (by decide) (λas Q q h=>?_) (λcdv d outer s H E as Q q r xe hr h a=>?_)
 .obtain⟨ds,es,rfl,_⟩:=h;rfl
 .obtain⟨ds,es,rfl,c,re,l1,l2,e,b⟩:=h;have nd:=zg1.nd;and_intros;refine⟨c.rules,by omega,?_⟩;and_intros;refine⟨re.rules,by omega,?_⟩;and_intros;refine zY (by rfl) ga ?_;and_intros;refine qk (zN5 (by split<;>omega)) ?_;exact iY (j:=9) a rfl XT (by rfl) rfl (leX.nil rfl) (eV (by decide +kernel) (by decide +kernel) (zY (by rfl) ga ⟨12,rfl,by decide,λ_=>b⟩))
def zc9 :zA ((["_law_one","_law_other","_law_found","e","_law_kinds"]:List Str)++[("":Str)]) ["_law_one","_law_other"] (zb qH):=.o
def ll {f C CT S:Ad}{fd:Ao}(F:Fun K "_law_told" "_law_told" qH f fd)(hm:mg "_law_told"=some (.ref f))(hb:Binds K fd ["_law_one","_law_other"] [])(nb:NbT mg)(c:XT K mg CT S)(k:um P w K mg base "Book" 9 [] (pf C cs))(m:Cal P w K mg base "apart" 7 (zi0 C cs))(CX:bu P w K mg base "apart" 7 (fb C cs CT)):Cal P w K mg base "_law_told" 11 oC:=by
 refine zC0 F hm hb zc9 (λas Q h=>?_) (λcdv D outer s H E as Q hr h=>?_)
 .obtain⟨ds,es,rfl,_⟩:=h;rfl
 .obtain⟨ds,es,rfl,i,re,l1,l2,hq⟩:=h;have nd:=zc9.nd;obtain⟨init,xc⟩:=c.xc;have lx:leX [some (.dat (.list ds)),some (.dat (.list es)),none,none,none,none] [some (.dat (.list ds)),some (.dat (.list es)),none,none,none,none]:=leX.cons (.inr ⟨rfl,λa e=>by cases e;trivial⟩) (leX.cons (.inr ⟨rfl,λa e=>by cases e;trivial⟩) (leX.cons (.inl rfl) (leX.cons (.inl rfl) (leX.cons (.inl rfl) (leX.cons (.inl rfl) leX.nil')))));rcases hq with⟨n,o,q⟩|⟨u,q⟩
  .refine oZ 3 5 [some (.dat (.list ds)),some (.dat (.list es)),none,none,none,none] (λ_=>False) rfl rfl nd rfl lx (by rfl) c.mS (λ_ z=>z.elim) (λpins xe r l=>?_) (λpins a d S z=>z.elim);refine yq 2 nd (qP m (hr.mono (by decide)) (by rfl) (zk (EvN.d (vq k (hr.mono (by decide)) (by rfl) (zk (zc 0 rfl (zu ⟨ds,.inl rfl,i.rules,by omega,zk (EvN.d (vq k (hr.mono (by decide)) (by rfl) (zk (zc 1 rfl (zu ⟨es,.inl rfl,re.rules,by omega,zu ⟨ds,es,rfl,i,re,n,o,λp ap=>zE ?_⟩⟩)))))⟩)))))));exact yP (zc 2 rfl (q p ap))
  .refine oZ 3 5 [some (.dat (.list ds)),some (.dat (.list es)),none,none,none,none] (λd=>d=xD0 CT) rfl rfl nd rfl lx (by rfl) c.mS (λd e=>⟨CT,.inr e,c.b⟩) (λpins xe r l=>?_) (λpins a d S e=>?_)
   .refine yq 2 nd (zb8 (j:=5) l rfl (leX.cons (.inr ⟨rfl,λa e=>by cases e;trivial⟩) (leX.cons (.inr ⟨rfl,λa e=>by cases e;trivial⟩) (leX.cons (.inl rfl) (leX.cons (.inl rfl) (leX.cons (.inl rfl) (leX.cons (.inl rfl) leX.nil')))))) CX (hr.mono (by decide)) (by rfl) (zk (EvN.d (vq k (hr.mono (by decide)) (by rfl) (zk (zc 0 rfl (zu ⟨ds,.inl rfl,i.rules,by omega,zk (EvN.d (vq k (hr.mono (by decide)) (by rfl) (zk (zc 1 rfl (zu ⟨es,.inl rfl,re.rules,by omega,zu ⟨ds,es,rfl,i,re,l1,l2,u,rfl⟩⟩)))))⟩)))))))
   .subst e;have g:isX CT (xD0 CT):=.inr rfl;obtain⟨I,m1,e1⟩:=c.k1;obtain⟨J,m2,y⟩:=c.k2;obtain⟨G,m3,B⟩:=c.k3;obtain⟨L,m4,x⟩:=c.k4;obtain⟨M,m5,A⟩:=c.k5;refine aZ 3 rfl ?_;refine yq 4 nd (EvL.d (xR (zk (vM (by rfl) nb.isinstance (by rfl) m1 (zc 3 rfl ⟨CT,_,init,false,g,xc,e1,?_⟩)))));refine zk (vM (by rfl) nb.isinstance (by rfl) m2 (zc 3 rfl ⟨CT,_,init,false,g,xc,y,?_⟩));refine zk (vM (by rfl) nb.isinstance (by rfl) m3 (zc 3 rfl ⟨CT,_,init,false,g,xc,B,?_⟩));refine zk (vM (by rfl) nb.isinstance (by rfl) m4 (zc 3 rfl ⟨CT,_,init,false,g,xc,x,?_⟩));refine zu ⟨_,rfl,zL3 rfl,?_⟩;refine wW (EvW.t (vS (qT (vM (by rfl) nb.isinstance (by rfl) m5 (zc 3 rfl ⟨CT,_,init,true,g,xc,A,⟨_,rfl,?_⟩⟩)))));refine uE rfl (vS (qT (dz (by rfl) nb.isinstance (by rfl) c.mV PyProof.Rows.Boot.«ValueError» (zc 3 rfl ⟨CT,_,init,true,g,xc,c.v,⟨_,rfl,?_⟩⟩))));refine uE rfl (uU (gK (eO (zc 4 rfl ⟨_,.inl rfl,rfl,rfl,?_⟩))));refine qk rfl ?_;and_intros;exact q
end
abbrev qZ :Ap:=top 59
abbrev nL' :List Str:=["_law_row","_law_one","_law_other","_law_few","_law_long"]
def zE1 :zA ("_law_script"::nL') ["_law_script"] (zb qZ):=.o
abbrev stL (a:Ad)(ds es:List Aa)(c b:Option A):Ev:=[some (.at a),some .tape,some (.dat (.list ds)),some (.dat (.list es)),c,b]
theorem kG {ds es:List Aa}{q:Option (Nat×Int)}{Q:Bool->Prop}(h:Q false):qX (cP ds es q) (.str "many") Q:=by
 have k:∀(a b:Int) (x y:Option Int),SeqAt.shaped (.tuple [.tuple [.int a,.int b],oD x,oD y])=true/\(PyData.tuple [.tuple [.int a,.int b],oD x,oD y]).hasDict=false:=λa b x y=>by
  cases x<;>cases y<;>exact⟨rfl,rfl⟩
 cases q with
 |none=>exact eqk rfl (by decide +kernel) rfl rfl h
 |some q=>
  have k:=k q.2 (q.2+q.1) (coO ds q.2 (q.2+q.1)) (coO es q.2 (q.2+q.1));exact eqk k.1 (by decide +kernel) k.2 rfl h
def fV {K:Ae}{H:Hp}{a:Ad}{xs:List V}{ps:Array Ab}(d:kd zZ H)(c:H zZ=some (.tbl ps))(b:SqL K H a xs):ScH K H a xs:=by
 rcases b with(h|h)|h
 .rcases d a with z|z|⟨o,ys,z⟩
  .rw[z]at h;cases h
  .rw[z,c]at h;cases h
  .rw[z]at h;cases h
 .exact .inl h
 .exact .inr h
section
variable {P:Ah}{w:Ak}{K:Ae}{mg:Str->Option Ab}{base:An}{cs:Cs}
def zn5 {f m:Ad}{fd j:Ao}(F:Fun K "law" "law" qZ f fd)(nb:NbT mg)(B:zS P w K mg base CX0 1 m j ["_law_script","_law_k"] (qA K))(D:mg "_law_cell_at"=some (.ref m))(G:PySem.W.keepIn K (.ref m)=true)(r:Binds K j ["_law_script","_law_k"] [])
  (u:Cal P w K mg base "_law_begin" 1 kn) (Q:Cal P w K mg base "_law_take" 1 sg) (CR:Cal P w K mg base "_law_rules" 2 cZ) (CT:Cal P w K mg base "_law_told" 11 oC):zS P w K mg base CX0 13 f fd ["_law_script"] (sj K):=by
 refine zG4 (k:=12) F zE1 (λcdv L outer s H E a ns hr v sc=>?_);have nd:=zE1.nd;refine xt 1 nd (xP u (hr.mono (by decide)) (by rfl) (zk (kr 0 B (hr.mono (by decide)) (by rfl) D G r rfl sc v (zN ⟨0,rfl,by decide,λz=>zu ⟨z,rfl,λx y p n=>⟨_,rfl,?_⟩⟩⟩))));refine fR 1 rfl p n ?_;and_intros;refine⟨by omega,by omega,λfs hf lf=>?_⟩;refine xt 1 nd (xP u (hr.mono (by decide)) (by rfl) (zk (kr 0 B (hr.mono (by decide)) (by rfl) D G r rfl sc v (zN ⟨1,rfl,by decide,λz=>zu ⟨z,rfl,λx y p n=>⟨_,rfl,?_⟩⟩⟩))));refine fR 1 rfl p n ?_;and_intros;refine⟨by omega,by omega,λes he le=>?_⟩;have l1:(p68::fs).length<=15:=by rw[zN0];omega
 have l2:(p68::es).length<=15:=by rw[zN0];omega
 have e:=hf.ok (by omega);have J:=he.ok (by omega);obtain⟨f1,f2,c,rfl⟩:∃f1 f2 c,fs=f1::f2::c:=by
  rcases fs with _|⟨f1,_|⟨f2,c⟩⟩
  .exact absurd lf (by show ¬(0:Int)+1=_;omega)
  .exact absurd lf (by show ¬(1:Int)+1=_;omega)
  .exact⟨_,_,_,rfl⟩
 have o:Few f1 f2:=⟨hf 0 f1 rfl,hf 1 f2 rfl⟩;refine xg (λO=>O=stL a (p68::f1::f2::c) (p68::es) none none) ?_ ?_
 .and_intros;refine⟨p68::f1::f2::c,p68::es,rfl,e,J,by omega,by omega,?_⟩;by_cases i:(p68::f1::f2::c).length<=12/\(p68::es).length<=12
  .refine .inl ⟨i.1,i.2,λq ap=>?_⟩;and_intros;refine kG ?_;and_intros;refine vt (zM2 (by omega)) ?_;and_intros;refine xK (by rw[zM2 (show ¬(12:Int)<((p68::es).length:Nat) by omega)];rfl) ?_;and_intros;rfl
  .refine .inr ⟨by omega,?_⟩;and_intros;refine tq ?_;rw[zN5 (rfl:("many":Str)="many")];and_intros;by_cases M:12<(p68::f1::f2::c).length
   .refine uE (zN5 (by omega)) ?_;refine nA (xK rfl ?_);and_intros;rfl
   .refine vt (zM2 (by omega)) ?_;and_intros;refine xK (by rw[zN5 (show(12:Int)<((p68::es).length:Nat) by omega)];rfl) ?_;and_intros;rfl
 rintro O rfl;refine xg (λO=>O=stL a (p68::f1::f2::c) (p68::es) none none) ?_ ?_
 .and_intros;refine⟨_,_,rfl,e,e,by omega,by omega,?_⟩;by_cases i:(p68::f1::f2::c).length<=12
  .refine .inl ⟨i,i,λq ap=>?_⟩;and_intros;refine kG ?_;and_intros;refine vt (by rw[zM2 (show ¬(12:Int)<((p68::f1::f2::c).length:Nat) by omega)];rfl) (mD (EvW.t (vS ?_)));and_intros;refine uE (zN5 (by omega)) (uU ?_);and_intros;refine⟨_,_,rfl,e,e,by omega,by omega,.inl ⟨i,i,λq ap=>?_⟩⟩;rw[xB (λx _ d _ _=>rfl) ap];and_intros;rfl
  .refine .inr ⟨by omega,?_⟩;and_intros;refine tq ?_;rw[zN5 (rfl:("many":Str)="many")];and_intros;refine vt (by rw[zN5 (show(12:Int)<((p68::f1::f2::c).length:Nat) by omega)];rfl) (mD (EvW.t (vS ?_)));and_intros;refine vt (zM2 (by omega)) ?_;and_intros;rfl
 rintro O rfl;refine xg (λO=>O=stL a (p68::f1::f2::c) (p68::es) (some (.dat (.list [p68,f1,f2]))) none) ?_ ?_
 .and_intros;rw[show L2.cutD (p68::f1::f2::c) none (some 3)=[p68,f1,f2] by rw[bM _ (by decide)];rfl]
 rintro O rfl;have N:xl f1:=e f1 (by simp);have R:xl f2:=e f2 (by simp);have g:zF [p68,f1,f2]:=λd hd=>e d (by simp at hd ⊢;rcases hd with h|h|h<;>simp[h]);have C:zF [p68]:=λd hd=>by rw[zN1.mp hd];exact zu3
 have l:zF []:=λd hd=>by cases hd
 have I:zF ([p68,f1,f2]++List.replicate 9 uw):=λd hd=>(zN6.mp hd).elim (g d) λh=>by rw[(List.mem_replicate.mp h).2];exact zG2
 refine xg (λO=>O=stL a (p68::f1::f2::c) (p68::es) (some (.dat (.list [p68,f1,f2]))) none) ?_ ?_
 .and_intros;refine⟨zL3 rfl,?_⟩;and_intros;refine⟨zL3 rfl,zu ?_⟩;refine⟨_,[p68,f1,f2,p68,f1],rfl,g,λd hd=>g d (by simp at hd ⊢;rcases hd with h|h|h|h|h<;>simp[h]),zL3 rfl,zL3 rfl,.inl ⟨zL3 rfl,zL3 rfl,λq ap=>?_⟩⟩;rw[xB (zD9 o) ap];refine vt rfl ?_;and_intros;refine⟨zL3 rfl,?_⟩;and_intros;refine⟨[f1,f2,p68],_,rfl,λd hd=>g d (by simp at hd ⊢;rcases hd with h|h|h<;>simp[h]),g,zL3 rfl,zL3 rfl,.inl ⟨zL3 rfl,zL3 rfl,λq ap=>?_⟩⟩;rw[xB (zx8 o) ap];refine xK rfl ?_;and_intros;rfl
 rintro O rfl;refine xg (λO=>O=stL a (p68::f1::f2::c) (p68::es) (some (.dat (.list [p68,f1,f2]))) (some (.dat (.list ([p68,f1,f2]++List.replicate 9 uw))))) ?_ ?_
 .refine yq 5 nd (EvL.d (wu (zc 4 rfl (EvL.d (zr7 ?_)))));and_intros;refine⟨by decide,by decide,zL3 rfl,_,_,rfl,rfl,zL3 rfl,zE rfl⟩
 rintro O rfl;refine xg (λO=>O=stL a (p68::f1::f2::c) (p68::es) (some (.dat (.list [p68,f1,f2]))) (some (.dat (.list ([p68,f1,f2]++List.replicate 9 uw))))) ?_ ?_
 .and_intros;refine⟨_,_,rfl,g,I,zL3 rfl,zL3 rfl,.inl ⟨zL3 rfl,zL3 rfl,λq ap=>?_⟩⟩;rw[xB (zk6 o 9) ap];refine vt rfl ?_;and_intros;refine⟨zL3 rfl,?_⟩;and_intros;refine⟨[p68,f1,f2]++List.replicate 9 uw++[p68],_,rfl,λd hd=>(zN6.mp hd).elim (I d) (C d),g,zL3 rfl,zL3 rfl,.inr ⟨.inl (zL3 rfl),?_⟩⟩;and_intros;refine tq ?_;rw[zN5 (rfl:("many":Str)="many")];and_intros;rfl
 rintro O rfl;and_intros;refine⟨[],[],rfl,l,l,zL6 _,zL6 _,.inl ⟨zL6 _,zL6 _,λq ap=>?_⟩⟩;rw[xB (λx _ d _ _=>rfl) ap];refine⟨true,rfl,uE rfl ?_⟩;and_intros;refine⟨[],[p68],rfl,l,C,zL6 _,zL3 rfl,.inl ⟨zL6 _,zL3 rfl,λq ap=>?_⟩⟩;rw[zm2 ap];and_intros;exact congrArg (λb=>A.dat (.bool b)) (SeqAt.eqv_refl (.tuple [.tuple [.int 0,.int 1],.none,.int 5]) rfl)
end
def us1 {O:Type}{p:List O->Prop}(h:∀a,p [a])(us:List O)(b:us.length=1):p us:=by
 obtain⟨a,rfl⟩:=List.length_eq_one_iff.mp b;exact h a
theorem us2 {O:Type}{p:List O->Prop}(h:∀a b,p [a,b])(us:List O)(c:us.length=2):p us:=by
 cases us with
 |nil=>cases c
 |cons a us=>exact us1 (p:=λus=>p (a::us)) (h a) us (Nat.succ.inj c)
theorem us3 {O:Type}{p:List O->Prop}(h:∀a b c,p [a,b,c])(us:List O)(d:us.length=3):p us:=by
 cases us with
 |nil=>cases d
 |cons a us=>exact us2 (p:=λus=>p (a::us)) (h a) us (Nat.succ.inj d)
theorem us4 {O:Type}{p:List O->Prop}(h:∀a b c d,p [a,b,c,d])(us:List O)(e:us.length=4):p us:=by
 cases us with
 |nil=>cases e
 |cons a us=>exact us3 (p:=λus=>p (a::us)) (h a) us (Nat.succ.inj e)
def FnF (K:Ae)(f:Ad)(nm a:Str)(st:Ap)(ps:List Str):Prop:=∃fd,Fun K nm a st f fd/\Binds K fd ps []
section
variable {K:Ae}{h0:An}{mg:Str->Option Ab}{f:Ad}{nm ql:Str}{st:Ap}{ps:List Str}{oc kV dc pm cd ct:Ab}{od an:Option Ad}{sl:Array (Option Ab)}
def mkF (l:K.lookup f=some ⟨oc,od,.func (PySem.W.fnOf nm ql (zI st) (zt st) (zb st) .none kV dc pm an cd ct),sl⟩)(c:PySem.W.codeIn K cd ql=true)(k:PySem.W.keepIn K (.ref f)=true)
  (hb:∀(kV doc pm:Ab) (an:Option Ad) (cdv ct:Ab) (us:List Ab),us.length=ps.length->bindArgs (PySem.W.fnOf nm ql (zI st) (zt st) (zb st) .none kV doc pm an cdv ct) ⟨us,[]⟩=pure (ps.zip us):=by intro _ _ _ _ _ _;first|exact K68.us1 λ_=>rfl|exact K68.us2 λ_ _=>rfl|exact K68.us3 λ_ _ _=>rfl|exact K68.us4 λ_ _ _ _=>rfl):FnF K f nm ql st ps:=⟨_,qW l c k,(qW l c k).binds hb⟩
def mkG (X:K.In h0)(G:h0.Ns Ai mg)(a:PySem.W.nsIn K Ai nm=some (some (.ref f)))(q:FnF K f nm nm st ps):FnD K mg nm st ps:=by
 obtain⟨_,F,b⟩:=q;exact⟨f,_,F,zO1 X G a,b⟩
end
def mkR {K:Ae}{C b gt ge a:Ad}(pg:PySem.W.plainGet K C Str.empty=true)(hd:PySem.W.hasDictIn K C=true)(po:PySem.W.plainOver K C=true)(sa:PySem.W.findIn K (.ref C) "__setattr__"=some (some (.builtin "object.__setattr__")))(n1:PySem.W.findIn K (.ref C) "first"=some none)(n2:PySem.W.findIn K (.ref C) "last"=some none)(c:PySem.W.findIn K (.ref C) "worth"=some none)(mk:PySem.W.makesIn K C=true)(f1:PySem.W.findIn K (.ref C) "__init__"=some (some (.ref b)))(i1:PySem.W.isFn K (.ref b)=true)(f:PySem.W.keepIn K (.ref C)=true)(f2:PySem.W.findIn K (.ref C) "told"=some (some (.ref gt)))(i2:PySem.W.isFn K (.ref gt)=true)(k2:PySem.W.keepIn K (.ref gt)=true)(e:PySem.W.findIn K (.ref C) "tells"=some (some (.ref ge)))(i3:PySem.W.isFn K (.ref ge)=true)(k3:PySem.W.keepIn K (.ref ge)=true)(f4:PySem.W.findIn K (.ref C) "word"=some (some (.ref a)))(d:PySem.W.isFn K (.ref a)=true)(k4:PySem.W.keepIn K (.ref a)=true):uN K C b gt ge a:=⟨⟨pg,hd,po,sa⟩,n1,n2,c,⟨mk,f1,i1,f⟩,⟨f2,i2,k2⟩,⟨e,i3,k3⟩,⟨f4,d,k4⟩⟩
theorem jC {K:Ae}{dT:Ad}{oc kV doc pm cdv ct:Ab}{od an:Option Ad}{n:Nat}{sl:Array (Option Ab)}(b:K.lookup dT=some ⟨oc,od,.seq #[.none] n,sl⟩):
  Binds K (PySem.W.fnOf "__init__" "Book.__init__" (zI yR) (zt yR) (zb yR) (.ref dT) kV doc pm an cdv ct) ["self","rules"] [.none]:=λs us hk a=>by
 match us,(show us.length=1 by rw[zM8]at a;simpa using a)with
 |[u],_=>exact BindsTo.of_defaults (T:=dT) rfl (hk _ _ b) rfl rfl rfl
theorem jq {K:Ae}{dT:Ad}{oc kV doc pm cdv ct:Ab}{od an:Option Ad}{n:Nat}{sl:Array (Option Ab)}(b:K.lookup dT=some ⟨oc,od,.seq #[.none] n,sl⟩):
  Binds K (PySem.W.fnOf "__init__" "Book.__init__" (zI yR) (zt yR) (zb yR) (.ref dT) kV doc pm an cdv ct) ["self","rules"] []:=λs us hk a=>by
 rw[zP6]at a ⊢
 match us,a with
 |[u,v],_=>exact BindsTo.of_defaults (T:=dT) rfl (hk _ _ b) rfl rfl rfl
def bF {P:Str->Prop}(f:P "price")(g:P "come")(d:P "go")(c:P "least")(e:P "most")(h:P "deal")(b:P "fee"):∀u∈words,P u:=by
 intro u a;simp only[words,zK8,zM5,zP8]at a;rcases a with rfl|rfl|rfl|rfl|rfl|rfl|rfl<;>assumption
def all_mk {l:PySem.W.OpenLaw}{w:Ak}{K:Ae}{h:An}{mg:Str->Option Ab}{fa cC k9 m4 p n i b8 e2 h6 c0 d5 d7 f9 c d Z b f g q CB dT m a0 V dU k6 J c8 I C a:Ad}(X:K.In h)(G:h.Ns Ai mg)(u8:mg "law"=some (.ref fa))
  {o8 n7 q1 l9 u2 v8 v2:Option Ad} {n5 p6 u7 x6:Array (Option Ab)} {q2 n9 o5 q4 o7 p9 l8 l7 l5 l6 h8 t7 t2 y4 u4 w2 p8 y5:Ab} {m0 k7 o3 q0 m3 x4 s1 r1 x1 w5 x3 t8 x8 r2 p5:Tok} {q3 p3 n6 o6 n8 p4 o9:Int} {nT nU:Nat}
  (e4:FnD K mg "is_whole" fJ ["thing"])
  (M:FnD K mg "is_whole_within" lW ["thing","lowest","highest"])
  (f2:FnD K mg "is_pair" zf2 ["thing"])
  (h4:FnD K mg "is_day" zB4 ["thing"])
  (O:FnD K mg "is_pair_of_days" ze6 ["thing"])
  (b0:FnD K mg "is_stretch" pT ["thing"])
  (d9:FnD K mg "is_coins" cF ["thing"])
  (f5:FnD K mg "is_deal" kE ["thing"])
  (d3:FnD K mg "is_worth" gS ["word","thing"])
  (f4:FnD K mg "is_rule" kL ["thing"])
  (k3:FnD K mg "made" zg8 ["word","first","last","worth"])
  (e9:FnD K mg "rule_of" ki ["thing"])
  (c9:FnD K mg "nights_of" kX ["stay"])
  (v1:PySem.W.nsIn K Ai "cheapest_first"=some (some (.ref k9)))
  (p2:K.lookup k9=some ⟨q2,o8,.func (PySem.W.fnOf "cheapest_first" "cheapest_first" (zI yk) (zt yk) (zb yk) .none n9 o5 q4 n7 (.ref cC) o7),n5⟩)
  (p0:PySem.W.codeIn K (.ref cC) "cheapest_first"=true)
  (o4:PySem.W.keepIn K (.ref k9)=true)
  (h1:FnD K mg "marked" vp ["prices","deal"])
  (a5:FnD K mg "night_prices" sNP ["book","nights"])
  (l1:FnD K mg "bill" tD ["book","stay"])
  (j8:FnD K mg "bars" oS ["book","stay"])
  (b3:FnD K mg "can_be_had" zz5 ["book","stay"])
  (a6:FnD K mg "cost_or_none" zC8 ["book","stay"])
  (d2:FnD K mg "turns_by" sTb ["rule","many"])
  (i2:FnD K mg "turns" sTn ["rules","many"])
  (j2:FnD K mg "apart" zb6 ["one","other"])
  (i7:FnD K mg "usual" dh ["word"])
  (b5:FnD K mg "kept_rules" ze2 ["things"])
  (a7:FnD K mg "_law_cell_at" eX ["_law_script","_law_k"])
  (b1:FnD K mg "_law_begin" eH ["_law_cell"])
  (c1:FnD K mg "_law_take" eE ["_law_row","_law_base"])
  (b4:FnD K mg "_law_rules" zj8 ["_law_row","_law_many"])
  (c6:FnD K mg "_law_told" qH ["_law_one","_law_other"])
  (r5:PySem.W.nsIn K Ai "law"=some (some (.ref m4)))
  (u1:K.lookup m4=some ⟨p9,q1,.func (PySem.W.fnOf "law" "law" (zI qZ) (zt qZ) (zb qZ) .none l8 l7 l5 l9 h8 l6),p6⟩)
  (q7:PySem.W.codeIn K h8 "law"=true)
  (w6:PySem.W.keepIn K (.ref m4)=true)
  (h9:PySem.W.nsIn K Ai "Price"=some (some (.ref c)))
  (l2:PySem.W.nsIn K Ai "Come"=some (some (.ref d)))
  (n4:PySem.W.nsIn K Ai "Go"=some (some (.ref Z)))
  (j5:PySem.W.nsIn K Ai "Least"=some (some (.ref b)))
  (j6:PySem.W.nsIn K Ai "Most"=some (some (.ref f)))
  (j9:PySem.W.nsIn K Ai "Deal"=some (some (.ref g)))
  (m6:PySem.W.nsIn K Ai "Fee"=some (some (.ref q)))
  (D:uN K c p n i b8)
  (a1:uN K d p n i e2)
  (g2:uN K Z p n i h6)
  (E:uN K b p n i c0)
  (Y:uN K f p n i d5)
  (U:uN K g p n i d7)
  (b6:uN K q p n i f9)
  (k4:FnF K p "__init__" "Rule.__init__" zd1 ["self","first","last","worth"])
  (k0:FnF K n "told" "Rule.told" zd2 ["self"])
  (i1:FnF K i "tells" "Rule.tells" gr ["self","day"])
  (g0:FnF K b8 "word" "Price.word" za3 ["self"])
  (i9:FnF K e2 "word" "Come.word" zt0 ["self"])
  (m7:FnF K h6 "word" "Go.word" zI6 ["self"])
  (g7:FnF K c0 "word" "Least.word" aG ["self"])
  (h5:FnF K d5 "word" "Most.word" zn7 ["self"])
  (i4:FnF K d7 "word" "Deal.word" zt9 ["self"])
  (l0:FnF K f9 "word" "Fee.word" zE0 ["self"])
  (w9:PySem.W.nsIn K Ai "Book"=some (some (.ref CB)))
  (h0:PySem.W.findIn K (.ref CB) "__init__"=some (some (.ref m)))
  (g8:PySem.W.isFn K (.ref m)=true)
  (h7:K.lookup m=some ⟨t7,u2,.func (PySem.W.fnOf "__init__" "Book.__init__" (zI yR) (zt yR) (zb yR) (.ref dT) t2 y4 u4 v8 p8 w2),u7⟩)
  (j4:PySem.W.codeIn K p8 "Book.__init__"=true)
  (j1:PySem.W.keepIn K (.ref m)=true)
  (lT:K.lookup dT=some ⟨y5,v2,.seq #[.none] nT,x6⟩)
  (f3:PySem.W.findIn K (.ref CB) "rules"=some (some (.ref a0)))
  (f0:PySem.W.isFn K (.ref a0)=true)
  (h2:FnF K a0 "rules" "Book.rules" vB ["self"])
  (e8:PySem.W.findIn K (.ref CB) "tells_of"=some (some (.ref V)))
  (e7:PySem.W.isFn K (.ref V)=true)
  (g3:FnF K V "tells_of" "Book.tells_of" kU ["self","word","day"])
  (v9:PySem.W.plainGet K CB Str.empty=true)
  (u0:PySem.W.hasDictIn K CB=true)
  (v5:PySem.W.plainOver K CB=true)
  (s9:PySem.W.findIn K (.ref CB) "__setattr__"=some (some (.builtin "object.__setattr__")))
  (v4:PySem.W.makesIn K CB=true)
  (s5:PySem.W.keepIn K (.ref CB)=true)
  (n3:PySem.W.findIn K (.ref CB) "kept"=some none)
  (z1:PySem.W.nsIn K Ai "abs"=some none)
  (z2:PySem.W.nsIn K Ai "list"=some none)
  (z3:PySem.W.nsIn K Ai "len"=some none)
  (z4:PySem.W.nsIn K Ai "range"=some none)
  (z5:PySem.W.nsIn K Ai "min"=some none)
  (z6:PySem.W.nsIn K Ai "max"=some none)
  (z7:PySem.W.nsIn K Ai "sorted"=some none)
  (z8:PySem.W.nsIn K Ai "isinstance"=some none)
  (z9:PySem.W.nsIn K Ai "int"=some none)
  (s2:PySem.W.nsIn K Ai "bool"=some none)
  (t0:PySem.W.nsIn K Ai "str"=some none)
  (r8:PySem.W.nsIn K Ai "tuple"=some none)
  (u6:PySem.W.nsIn K Ai "all"=some none)
  (q8:PySem.W.nsIn K Ai "any"=some none)
  (x2:PySem.W.nsIn K Ai "repr"=some none)
  (w4:PySem.W.nsIn K Ai "zip"=some none)
  (y2:PySem.W.nsIn K Ai "enumerate"=some none)
  (t5:PySem.W.nsIn K Ai "reversed"=some none)
  (s6:PySem.W.nsIn K Ai "sum"=some none)
  (y3:PySem.W.nsIn K Ai "set"=some none)
  (q9:PySem.W.nsIn K Ai "ValueError"=some none)
  (o0:PySem.W.nsIn K Ai "LAST_DAY"=some (some (.int 1000000 m0)))
  (m1:PySem.W.nsIn K Ai "MOST_NIGHTS"=some (some (.int 14 k7)))
  (r6:PySem.W.nsIn K Ai "MOST_COINS"=some (some (.int 1000000000000 o3)))
  (y0:PySem.W.nsIn K Ai "MOST_RULES"=some (some (.int 24 q0)))
  (p1:PySem.W.nsIn K Ai "MOST_RULES_APART"=some (some (.int 12 m3)))
  (aU:PySem.W.nsIn K Ai "USUAL"=some (some (.ref dU)))
  (lU:K.lookup dU=some ⟨.type "dict",none,.dict #[⟨q3,.str "price" x4,.none⟩,⟨p3,.str "come" s1,.bool true⟩,⟨n6,.str "go" r1,.bool true⟩,⟨o6,.str "least" x1,.int 1 x8⟩,⟨n8,.str "most" w5,.int 14 r2⟩,⟨p4,.str "deal" x3,.none⟩,⟨o9,.str "fee" t8,.int 0 p5⟩] nU,#[]⟩)
  (r9:q3=hashStr w "price")
  (v3:p3=hashStr w "come")
  (u5:n6=hashStr w "go")
  (x5:o6=hashStr w "least")
  (t9:n8=hashStr w "most")
  (v6:p4=hashStr w "deal")
  (y1:o9=hashStr w "fee")
  (hhd:PySem.W.codeHdIn K cC zZ=true)
  (v0:PySem.W.nsIn K Ai "StayError"=some (some (.ref k6)))
  (f7:PySem.W.nsIn K Ai "Barred"=some (some (.ref J)))
  (k5:PySem.W.nsIn K Ai "Had"=some (some (.ref c8)))
  (f6:PySem.W.nsIn K Ai "NoRule"=some (some (.ref I)))
  (e1:PySem.W.nsIn K Ai "NotSold"=some (some (.ref C)))
  (d6:PySem.W.nsIn K Ai "TooMany"=some (some (.ref a)))
  (e5:mq K a k6 none=true)
  (d4:PySem.W.keepIn K (.ref a)=true)
  (B:fe K a k6=true)
  (N:PySem.W.kitOne K (.ref a) (.ref J)=some false)
  (a9:PySem.W.kitOne K (.ref a) (.ref c8)=some false)
  (L:PySem.W.kitOne K (.ref a) (.ref I)=some false)
  (H:PySem.W.kitOne K (.ref a) (.ref C)=some false)
  (F:PySem.W.kitOne K (.ref a) (.ref a)=some true)
  (z:PySem.W.kitOne K (.ref a) (.type "ValueError")=some true):
  ∃fd:Ao,(∀(s:Ac) (v:Ab),BindsTo s fd ⟨[v],[]⟩ [("_law_script",v)])/\∀base:An,K.In base->base.Ns Ai mg->base.BuiltinsAt mg zZ->zS l.prog w K mg base CX0 13 fa fd ["_law_script"] (sj K):=by
 have e:=u8.symm.trans (zO1 X G r5);cases e;have nb:NbT mg:=⟨zN8 X G z1,zN8 X G z2,zN8 X G z3,zN8 X G z4,zN8 X G z5,zN8 X G z6,zN8 X G z7,zN8 X G z8,zN8 X G z9,zN8 X G s2,zN8 X G t0,zN8 X G r8,zN8 X G u6,zN8 X G q8,zN8 X G x2,zN8 X G w4,zN8 X G y2,zN8 X G t5,zN8 X G s6⟩;have n2:mg "set"=none:=zN8 X G y3;have b2:mg "ValueError"=none:=zN8 X G q9;have Q:mg "cheapest_first"=some (.ref k9):=zO1 X G v1;have R:=qW (st:=yk) p2 p0 o4;have S:=R.binds (ps:=["prices","places"]) λ_ _ _ _ _ _=>us2 λ_ _=>rfl;obtain⟨_,_,d1,d8,e3⟩:=j2;obtain⟨_,_,A,a8,a4⟩:=a7;obtain⟨_,_,T,d0,c3⟩:=c1;obtain⟨_,_,c2,c5,c4⟩:=c6;have i5:=qW (st:=qZ) u1 q7 w6;have x0:=i5.binds (ps:=["_law_script"]) λ_ _ _ _ _ _=>us1 λ_=>rfl;obtain⟨_,t,r⟩:=k4;obtain⟨_,y,x⟩:=k0;obtain⟨_,j,k⟩:=i1;obtain⟨_,g5,g9⟩:=g0;obtain⟨_,j0,j3⟩:=i9;obtain⟨_,m5,n0⟩:=m7;obtain⟨_,g4,h3⟩:=g7;obtain⟨_,i8,i3⟩:=h5;obtain⟨_,i6,i0⟩:=i4;obtain⟨_,k8,j7⟩:=l0;obtain⟨_,b9,g1⟩:=h2;obtain⟨_,b7,g6⟩:=g3;refine⟨PySem.W.fnOf "law" "law" (zI qZ) (zt qZ) (zb qZ) .none l8 l7 l5 l9 h8 l6,λs v=>.of_eq rfl,λbase KX _ hbi=>?_⟩;have k1:=yA (P:=l.prog) (w:=w) (base:=base) D (zO1 X G h9) t r;have n1:=yA (P:=l.prog) (w:=w) (base:=base) a1 (zO1 X G l2) t r;have r0:=yA (P:=l.prog) (w:=w) (base:=base) g2 (zO1 X G n4) t r;have l3:=yA (P:=l.prog) (w:=w) (base:=base) E (zO1 X G j5) t r;have m2:=yA (P:=l.prog) (w:=w) (base:=base) Y (zO1 X G j6) t r;have m8:=yA (P:=l.prog) (w:=w) (base:=base) U (zO1 X G j9) t r;have o1:=yA (P:=l.prog) (w:=w) (base:=base) b6 (zO1 X G m6) t r;have x7:=bE (P:=l.prog) (w:=w) (base:=base) e4 nb;have k2:=lg M x7;have o2:=du (P:=l.prog) (w:=w) (base:=base) f2 nb;have s7:=jM h4 ⟨m0,zO1 X G o0⟩ k2;have u9:=pH b0 (cO O o2 s7);have w7:=pZ d9 ⟨o3,zO1 X G r6⟩ k2;have t1:=mP f5 ⟨k7,zO1 X G m1⟩ o2 k2;have w3:=mZ f4 nb u9 (nq d3 nb ⟨k7,zO1 X G m1⟩ k2 w7 t1);have r3:=nG e9 w3 (cU (cs:=⟨c,d,Z,b,f,g,q⟩) k3 k1 n1 r0 l3 m2 m8 o1);have w0:=dF b5 nb ⟨q0,zO1 X G y0⟩ r3;have cB:Cls K CB:=⟨v9,u0,v5,s9⟩;have p7:=eG (za8 (st:=yR) h7 j4 j1) cB n3 w0;have f8:mg "Book"=some (.ref CB):=zO1 X G w9;have q5:Mk K CB m:=⟨v4,h0,g8,s5⟩;have u3:um l.prog w K mg base "Book" 9 [] (pf CB ⟨c,d,Z,b,f,g,q⟩):=⟨CB,m,_,_,_,f8,q5,jq lT,.nil,p7⟩;have y6:um l.prog w K mg base "Book" 9 [.non] (pf CB ⟨c,d,Z,b,f,g,q⟩):=⟨CB,m,_,_,_,f8,q5,jC lT,.cons rfl .nil,p7⟩;have OW:∀u∈words,xq l.prog w K mg base ((⟨c,d,Z,b,f,g,q⟩:Cs).of u) "word" 1 (qx ((⟨c,d,Z,b,f,g,q⟩:Cs).of u) u):=bF (yB D g5 g9 .o rfl) (yB a1 j0 j3 .o rfl) (yB g2 m5 n0 .o rfl) (yB E g4 h3 .o rfl) (yB Y i8 i3 .o rfl) (yB U i6 i0 .o rfl) (yB b6 k8 j7 .o rfl);have OT:∀u∈words,xq l.prog w K mg base ((⟨c,d,Z,b,f,g,q⟩:Cs).of u) "told" 2 (lE ((⟨c,d,Z,b,f,g,q⟩:Cs).of u) u):=bF (yD D y x (OW _ (by simp[words]))) (yD a1 y x (OW _ (by simp[words]))) (yD g2 y x (OW _ (by simp[words]))) (yD E y x (OW _ (by simp[words]))) (yD Y y x (OW _ (by simp[words]))) (yD U y x (OW _ (by simp[words]))) (yD b6 y x (OW _ (by simp[words])));have DU:jf K w dU tbU:=⟨_,nU,lU,.cons ⟨r9,⟨_,rfl⟩,rfl⟩ (.cons ⟨v3,⟨_,rfl⟩,rfl⟩ (.cons ⟨u5,⟨_,rfl⟩,rfl⟩ (.cons ⟨x5,⟨_,rfl⟩,⟨_,rfl⟩⟩ (.cons ⟨t9,⟨_,rfl⟩,⟨_,rfl⟩⟩ (.cons ⟨v6,⟨_,rfl⟩,rfl⟩ (.cons ⟨y1,⟨_,rfl⟩,⟨_,rfl⟩⟩ (.nil))))))),by decide +kernel⟩;have CU:=jQ (P:=l.prog) (base:=base) i7 (zO1 X G aU) DU;have s0:∀u∈words,xq l.prog w K mg base ((⟨c,d,Z,b,f,g,q⟩:Cs).of u) "tells" 1 (tV ((⟨c,d,Z,b,f,g,q⟩:Cs).of u)):=bF (yb D j k) (yb a1 j k) (yb g2 j k) (yb E j k) (yb Y j k) (yb U j k) (yb b6 j k);have OC:∀u∈words,Cls K ((⟨c,d,Z,b,f,g,q⟩:Cs).of u)/\yg K ((⟨c,d,Z,b,f,g,q⟩:Cs).of u) "worth":=bF (⟨D.cl,D.nw⟩) (⟨a1.cl,a1.nw⟩) (⟨g2.cl,g2.nw⟩) (⟨E.cl,E.nw⟩) (⟨Y.cl,Y.nw⟩) (⟨U.cl,U.nw⟩) (⟨b6.cl,b6.nw⟩);have m9:=mE cB n3 ⟨e8,e7,b7.kp⟩ b7 g6 nb CU OW s0 OC;have MR:=nF cB n3 ⟨f3,f0,b9.kp⟩ b9 g1 OT;have c7:mg "StayError"=some (.ref k6):=zO1 X G v0;have f1:mg "Barred"=some (.ref J):=zO1 X G f7;have l4:mg "Had"=some (.ref c8):=zO1 X G k5;have e6:mg "NoRule"=some (.ref I):=zO1 X G f6;have e0:mg "NotSold"=some (.ref C):=zO1 X G e1;have a3:mg "TooMany"=some (.ref a):=zO1 X G d6;have a2:=XC.of e5;have CB:=iA (P:=l.prog) (w:=w) (base:=base) b1;have CD:Cal l.prog w K mg base "_law_take" 1 sg:=df d0 T.kp c3 (zb1 T);have CN:=mF (P:=l.prog) (w:=w) (base:=base) c9 nb;have t3:=zs5 b4 nb CD;have CC:Cal l.prog w K mg base "cheapest_first" 3 pe:=jF p2 p0 o4 Q S nb hhd KX hbi;have s4:Cal l.prog w K mg base "marked" 4 tZ:=ma h1 nb CC;have r4:=zs2 a5 m9;have r7:=js (eM l1 nb m9 CN r4 s4);have t6:=dW j8 CN m9;have v7:=aa b3 t6;have w8:=bf a6 v7 r7;have s8:=zu4 (P:=l.prog) (w:=w) (base:=base) d2 nb;have w1:=zs1 i2 nb n2 ⟨m0,zO1 X G o0⟩ s8;have t4:=zb2 ⟨_,_,d1,d8,e3⟩ nb ⟨k7,zO1 X G m1⟩ ⟨m3,zO1 X G p1⟩ MR w1 w8;have x9:zo5 K mg "TooMany" a:=⟨a3,d4,⟨_,a2.ok⟩⟩;have q6:=gY d1 d8 e3 nb ⟨m3,zO1 X G p1⟩ MR x9;have s3:=ll c2 c5 c4 nb ⟨c7,XB.of B,⟨_,a2⟩,⟨_,f1,N⟩,⟨_,l4,a9⟩,⟨_,e6,L⟩,⟨_,e0,H⟩,⟨_,a3,F⟩,b2,z⟩ u3 t4 q6;exact zn5 i5 nb (aT (P:=l.prog) (w:=w) (base:=base) A nb) a8 A.kp a4 CB CD t3 s3
def walk {l:PySem.W.OpenLaw}{q:Ah}{loose:List Str}{r:(Str->Option Ab)->An->Prop}{g:Ak->An->Prop}{d:DefRec}{K:Params->Ae}{c:Ad}(hn:l.most=some 63)(hdf:d.params.defaults=[])
  (v:∀(w:Ak) (h:An),g w h->(K w.params).In h) (i:∀(w:Ak) (h:An),g w h->h.get? zZ=some (PySem.W.tabObj #[]))
  (e:∀w:Ak,(K w.params).lookup zZ=none) (b:∀w:Ak,∃o vs,(K w.params).lookup c=some o/\o.cls=.type "code"/\o.data=.fields vs/\vs[11]?=some (.ref zZ))
  (F:∀(w:Ak) (mg:Str->Option Ab) (m:Ad) (h:An),(K w.params).In h->h.Ns Ai mg->mg d.name=some (.ref m)->
   ∃fd:Ao,(∀(s:Ac) (u:Ab),BindsTo s fd ⟨[u],[]⟩ [("_law_script",u)])/\∀base:An,(K w.params).In base->base.Ns Ai mg->base.BuiltinsAt mg zZ->zS l.prog w (K w.params) mg base CX0 13 m fd ["_law_script"] (sj (K w.params))):
  PySem.W.WalkO q loose r g l.row.toRowW d [] (λf vs=>PySem.call f vs):=
 L2.hG (n:=63) (k:=13) (x:="_law_script") (CX:=λ_=>CX0) (sp:=λw=>sj (K w.params)) hn (by decide) hdf ⟨rfl,by decide,by decide,rfl⟩ v i e b F (λ_ H a ns p t j y=>⟨a,ns,rfl,fV t j y,p,⟨#[],j,trivial,λpos cv A=>by cases A⟩,λ_=>rfl⟩) λ_ _ _ _ _ z=>z
end K68
namespace PySem.W.Fast
def tw1671212070292921860:=Nat
def tw3847905197541053353:=Nat
def tw2813383345842968844:=Nat
def tw9537036927455648350:=Nat
def tw4778589905661050982:=Nat
def tw7735629182052916010:=Nat
def tw2433038446572491659:=Nat
def tw14771028104062385607:=Nat
def tw1392069477503514472:=Nat
def tw4448306680820360016:=Nat
def tw8351828401457787735:=Nat
def tw11493747516548351006:=Nat
def tw16845922608354972096:=Nat
def tw1944966592383768584:=Nat
def tw17947995243648959843:=Nat
def tw14021351295526081263:=Nat
def tw11195822385288734981:=Nat
def tw16387340978126504855:=Nat
def tw5851896824372493283:=Nat
def tw4760493439439668552:=Nat
def tw260414934109013212:=Nat
def tw17328507723169234486:=Nat
def tw11249228940889113461:=Nat
def tw5454019175574261255:=Nat
def tw13410781447244696084:=Nat
def tw4695483911523240766:=Nat
def tw10223211526356171116:=Nat
def tw18145315627385349165:=Nat
def tw14384921005576210528:=Nat
def tw5514365625905598671:=Nat
def tw17256360331851858150:=Nat
def tw8970911108045467781:=Nat
def tw6836301181787204329:=Nat
def tw3179830494455563621:=Nat
def tw724691720725399108:=Nat
def tw3757359987135915616:=Nat
def tw17622641727675894310:=Nat
def tw14013856874454673182:=Nat
def tw10214483885489588602:=Nat
def tw7604944653387530848:=Nat
def tw16690825484452269057:=Nat
def tw17889143124467326308:=Nat
def tw13903708902433533787:=Nat
def tw8982214030811374435:=Nat
def tw15011084343719438028:=Nat
def tw13590720107777010799:=Nat
def tw7176847951868732772:=Nat
def tw5182419514430655371:=Nat
def tw9345952276199007020:=Nat
def tw1163333713118686262:=Nat
def tw8395495718462062121:=Nat
def tw982073918259063084:=Nat
def tw7936240095393584820:=Nat
def tw5831287341785479407:=Nat
def tw16023621756680701209:=Nat
def tw12794665736598286351:=Nat
def tw7212231924516747270:=Nat
def tw14210016785597587939:=Nat
def tw17664275793330063753:=Nat
def tw1737282351776031333:=Nat
def tw12413733326952140829:=Nat
def tw3539327328964191644:=Nat
def tw16522553217487388617:=Nat
def tw2552119772116835341:=Nat
def tw12894904121904686475:=Nat
def tw12617870755108098447:=Nat
def tw3789172473828343362:=Nat
def tw15453914701824198227:=Nat
def tw14837045901027913841:=Nat
def tw15781690592755565104:=Nat
def tw7269767513839627801:=Nat
def tw962345139555290957:=Nat
def tw4925550258649647632:=Nat
def tw16696774887790522468:=Nat
def tw15660846667787062851:=Nat
def tw1071756189753069798:=Nat
def tw18247722427081041575:=Nat
def tw11058572167413613634:=Nat
def tw5490148294586157410:=Nat
def tw5800961380519658989:=Nat
def tw13406119754163173878:=Nat
def tw10428759215806235829:=Nat
def tw4382083271919364277:=Nat
def tw10819871015879432977:=Nat
def tw10206556587617389273:=Nat
def tw12676407152593067711:=Nat
def tw3188897898231186952:=Nat
def tw4586558692569547442:=Nat
def tw3806362475196440676:=Nat
def tw3737879853810168085:=Nat
def tw18200146416663275991:=Nat
def tw17863722397407197266:=Nat
def tw11443166873903946873:=Nat
def tw14046591098524559982:=Nat
def tw9994026647995529508:=Nat
def tw9644806066333120565:=Nat
def tw2702125580732924878:=Nat
def tw13969557299309562292:=Nat
def tw6762291342273809189:=Nat
def tw806611283829885992:=Nat
def tw6071356135233930914:=Nat
def tw5026810710568423367:=Nat
def tw4149004598934290067:=Nat
def tw2931340238204898636:=Nat
def tw7320734653120669911:=Nat
def tw6944721190179738660:=Nat
def tw17786059567700668739:=Nat
def tw46835221766947957:=Nat
def tw16763073616552642441:=Nat
def tw8236584176832807365:=Nat
def tw17771900535258074091:=Nat
def tw8359775590339734741:=Nat
def tw13710480949614465955:=Nat
def tw13138013694449278740:=Nat
def tw4659385323057211004:=Nat
def tw3297130398684515957:=Nat
def tw18170597762774081444:=Nat
def tw10797148733273122452:=Nat
def tw1011483042693568254:=Nat
def tw15777431410053940991:=Nat
def tw14400805032690282586:=Nat
def tw12436163111264484168:=Nat
def tw10517579653809229677:=Nat
def tw17176384778455598003:=Nat
def tw4788152609937766024:=Nat
def tw17033439005592612636:=Nat
def tw14151926317303005656:=Nat
def tw12100218802840368797:=Nat
def tw7136039927765100904:=Nat
def tw17675001054040587661:=Nat
def tw16067310119627728480:=Nat
def tw14600493062836299174:=Nat
def tw10037267494701293989:=Nat
def tw11754005331839524773:=Nat
def tw3438656850894105588:=Nat
def tw8761971706732954235:=Nat
def tw14426837831762150134:=Nat
def tw15047800115346278437:=Nat
def tw9952030451670855145:=Nat
def tw5052332004145039519:=Nat
def tw4129394692084708392:=Nat
def tw5744010786156376998:=Nat
def tw9366361685304415760:=Nat
def tw1679214635724443880:=Nat
def tw13776808446894427491:=Nat
def tw16642444280144847694:=Nat
def tw5838849822762297195:=Nat
def tw5943788509654088980:=Nat
def tw7455967438796498331:=Nat
def tw5590576325485650130:=Nat
def tw4721693029349648548:=Nat
def tw12433527845165826224:=Nat
def tw7305405392515682083:=Nat
def tw13493324638410103953:=Nat
def tw6671481965559685565:=Nat
def tw7629017602414723493:=Nat
def tw8405105970603691007:=Nat
def tw7583490925377543536:=Nat
def tw10147104323668243300:=Nat
def tw13683466828296310401:=Nat
def tw12037292678279313172:=Nat
def tw6267003751141927064:=Nat
def tw10381017562671526945:=Nat
def tw7580525273779327426:=Nat
def tw8837117502480159375:=Nat
def tw18298357629280295509:=Nat
def tw6599218403633957758:=Nat
def tw13445181058236490608:=Nat
def tw4473301320292076569:=Nat
def tw13961975780425512684:=Nat
def tw1832743109898873918:=Nat
def tw10574794152378975632:=Nat
def tw18304135195355595684:=Nat
def tw14147386594024327010:=Nat
def tw1404468704980846315:=Nat
def tw1112852110379524600:=Nat
def tw4690947567037384188:=Nat
def tw16603051857161018795:=Nat
def tw16608327450895947649:=Nat
def tw825095889793081779:=Nat
def tw13921623639537579364:=Nat
def tw16090213215191643448:=Nat
def tw10073744647374965776:=Nat
def tw16386282344459066610:=Nat
def tw17754722822801717473:=Nat
def tw10206629438539389382:=Nat
def tw10562982899334470576:=Nat
def tw1494758805020205170:=Nat
def tw14234566454522466101:=Nat
def tw15150928676189745920:=Nat
def tw14181923393672645929:=Nat
def tw80744860691194132:=Nat
def tw10015039080684871427:=Nat
def tw12640940066369717208:=Nat
def tw10197176544867152808:=Nat
def tw11341536735883580851:=Nat
def tw6276934511921444043:=Nat
def tw3441066758084415269:=Nat
def tw16513003606357022779:=Nat
def tw3219099185960954799:=Nat
def tw10858298451602589904:=Nat
def tw10709576194412743211:=Nat
def tw4735513354709645284:=Nat
def tw14219629081873519625:=Nat
def tw13701252903075171078:=Nat
def tw16065543213225017121:=Nat
def tw9253416858356627802:=Nat
def tw12827483524682479858:=Nat
def tw386726210861921557:=Nat
def tw16928821338146828022:=Nat
def tw17901001617509574190:=Nat
def tw16601537836643988265:=Nat
def tw13066450592137803931:=Nat
def tw7597857418778564368:=Nat
def tw12944930913725291863:=Nat
def tw15457037108347777905:=Nat
def tw15967681597080301271:=Nat
def tw10617676500919418149:=Nat
def tw13810725319018945884:=Nat
def tw1499893954134314768:=Nat
def tw9664053544619100354:=Nat
def tw7827824785218216205:=Nat
def tw169154047037950945:=Nat
def tw3146442730403565202:=Nat
def tw8759138723537241363:=Nat
def tw4941474604138042820:=Nat
def tw8072138308837813975:=Nat
def tw9057109288833639371:=Nat
def tw11638974356609699823:=Nat
def tw6460883983230017286:=Nat
def tw1651926502162244118:=Nat
def tw16847301291357448251:=Nat
end PySem.W.Fast
open PySem PySem.W PyProof.Rows
set_option maxRecDepth 100000 in
theorem PySem.Challenge.cw_stayprice_k68_at_most_twelve_rules_holds : PySem.Challenge.rw_stayprice_k68_at_most_twelve_rules.Holds := by
 w_on;o_law;k_head;(case hw=>w_witness2)
 k_fill
 refine K68.walk (l:=PySem.Challenge.rw_stayprice_k68_at_most_twelve_rules) (c:=(163:Nat)) rfl rfl (λw h Y=>PySem.W.km_in_of Y) (λw h Y=>PySem.W.km_tabs_of Y _ (zN1.mpr rfl)) ?hno ?htab ?hF
 case hno=>intro w;kernel_rfl
 case htab=>intro w;exact⟨_,_,by k_is,rfl,rfl,rfl⟩
 case hF=>
  intro w mg d h a G b
  refine' K68.all_mk a G b (K68.mkG a G ?_ (K68.mkF ?_ ?_ ?_)) (K68.mkG a G ?_ (K68.mkF ?_ ?_ ?_)) (K68.mkG a G ?_ (K68.mkF ?_ ?_ ?_)) (K68.mkG a G ?_ (K68.mkF ?_ ?_ ?_)) (K68.mkG a G ?_ (K68.mkF ?_ ?_ ?_)) (K68.mkG a G ?_ (K68.mkF ?_ ?_ ?_)) (K68.mkG a G ?_ (K68.mkF ?_ ?_ ?_)) (K68.mkG a G ?_ (K68.mkF ?_ ?_ ?_)) (K68.mkG a G ?_ (K68.mkF ?_ ?_ ?_)) (K68.mkG a G ?_ (K68.mkF ?_ ?_ ?_)) (K68.mkG a G ?_ (K68.mkF ?_ ?_ ?_)) (K68.mkG a G ?_ (K68.mkF ?_ ?_ ?_)) (K68.mkG a G ?_ (K68.mkF ?_ ?_ ?_)) ?_ ?_ ?_ ?_ (K68.mkG a G ?_ (K68.mkF ?_ ?_ ?_)) (K68.mkG a G ?_ (K68.mkF ?_ ?_ ?_)) (K68.mkG a G ?_ (K68.mkF ?_ ?_ ?_)) (K68.mkG a G ?_ (K68.mkF ?_ ?_ ?_)) (K68.mkG a G ?_ (K68.mkF ?_ ?_ ?_)) (K68.mkG a G ?_ (K68.mkF ?_ ?_ ?_)) (K68.mkG a G ?_ (K68.mkF ?_ ?_ ?_)) (K68.mkG a G ?_ (K68.mkF ?_ ?_ ?_)) (K68.mkG a G ?_ (K68.mkF ?_ ?_ ?_)) (K68.mkG a G ?_ (K68.mkF ?_ ?_ ?_)) (K68.mkG a G ?_ (K68.mkF ?_ ?_ ?_)) (K68.mkG a G ?_ (K68.mkF ?_ ?_ ?_)) (K68.mkG a G ?_ (K68.mkF ?_ ?_ ?_)) (K68.mkG a G ?_ (K68.mkF ?_ ?_ ?_)) (K68.mkG a G ?_ (K68.mkF ?_ ?_ ?_)) (K68.mkG a G ?_ (K68.mkF ?_ ?_ ?_)) ?_ ?_ ?_ ?_ ?_ ?_ ?_ ?_ ?_ ?_ ?_ (K68.mkR ?_ ?_ ?_ ?_ ?_ ?_ ?_ ?_ ?_ ?_ ?_ ?_ ?_ ?_ ?_ ?_ ?_ ?_ ?_ ?_) (K68.mkR ?_ ?_ ?_ ?_ ?_ ?_ ?_ ?_ ?_ ?_ ?_ ?_ ?_ ?_ ?_ ?_ ?_ ?_ ?_ ?_) (K68.mkR ?_ ?_ ?_ ?_ ?_ ?_ ?_ ?_ ?_ ?_ ?_ ?_ ?_ ?_ ?_ ?_ ?_ ?_ ?_ ?_) (K68.mkR ?_ ?_ ?_ ?_ ?_ ?_ ?_ ?_ ?_ ?_ ?_ ?_ ?_ ?_ ?_ ?_ ?_ ?_ ?_ ?_) (K68.mkR ?_ ?_ ?_ ?_ ?_ ?_ ?_ ?_ ?_ ?_ ?_ ?_ ?_ ?_ ?_ ?_ ?_ ?_ ?_ ?_) (K68.mkR ?_ ?_ ?_ ?_ ?_ ?_ ?_ ?_ ?_ ?_ ?_ ?_ ?_ ?_ ?_ ?_ ?_ ?_ ?_ ?_) (K68.mkR ?_ ?_ ?_ ?_ ?_ ?_ ?_ ?_ ?_ ?_ ?_ ?_ ?_ ?_ ?_ ?_ ?_ ?_ ?_ ?_) (K68.mkF ?_ ?_ ?_) (K68.mkF ?_ ?_ ?_) (K68.mkF ?_ ?_ ?_) (K68.mkF ?_ ?_ ?_) (K68.mkF ?_ ?_ ?_) (K68.mkF ?_ ?_ ?_) (K68.mkF ?_ ?_ ?_) (K68.mkF ?_ ?_ ?_) (K68.mkF ?_ ?_ ?_) (K68.mkF ?_ ?_ ?_) ?_ ?_ ?_ ?_ ?_ ?_ ?_ ?_ ?_ (K68.mkF ?_ ?_ ?_) ?_ ?_ (K68.mkF ?_ ?_ ?_) ?_ ?_ ?_ ?_ ?_ ?_ ?_ ?_ ?_ ?_ ?_ ?_ ?_ ?_ ?_ ?_ ?_ ?_ ?_ ?_ ?_ ?_ ?_ ?_ ?_ ?_ ?_ ?_ ?_ ?_ ?_ ?_ ?_ ?_ ?_ ?_ ?_ ?_ ?_ ?_ ?_ ?_ ?_ ?_ ?_ ?_ ?_ ?_ ?_ ?_ ?_ ?_ ?_ ?_ ?_ ?_ ?_ ?_
  all_goals try (show _=_;first|k_is|kernel_rfl)
