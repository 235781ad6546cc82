import PyProof.Rows.All
import Wide.All
import OpenK.AllK
import Wide.FinOn
import Lean
import PyProof.EqAt
import PyProof.EqKinds
import PyProof.TupleCall
import PySem.Challenge.RW_stayprice_k95_whole_alike_books
set_option compiler.extract_closed false
set_option bootstrap.genMatcherCode false
open PySem renaming PyData->Aa,Value->Ab,Shared->Ac,Addr->Ad,starEach->Af,Program->Ag,model->Ah,mainGlobals->Ai,wpAny->Aj,World->Ak,Expr->Al,Around->Am,Stmt->An,Heap->Ao,FuncData->Ap,Scope->Aq,Env->Ar
open PySem.W renaming Frag->Ae
set_option maxHeartbeats 0
set_option linter.all false
set_option Elab.async false
def z76:=@PySem.wpAny_bind
def z77:=@List.length_map
def z78:=@List.getElem?_eq_getElem
def z79:=@PySem.Heap.get?_push_of_some
def z80:=@PySem.wpAny_pure
def z81:=@List.getElem?_eq_some_iff
def z82:=@Nat.le_refl
def z83:=@Nat.lt_of_lt_of_le
def z84:=@List.mem_cons
def z85:=@List.getD_eq_getElem?_getD
def z86:=@PySem.Heap.get?_push_size
def z87:=@List.mem_cons_of_mem
def z88:=@List.getElem?_map
def z89:=@List.mem_cons_self
def z90:=@PySem.Heap.lt_size
def z91:=@PyProof.Rows.wpS_bind
def z92:=@List.mem_singleton
def z93:=@Nat.le_trans
def z94:=@Nat.zero_le
def z95:=@List.length_append
def z96:=@Nat.ne_of_lt
def z97:=@PyProof.Rows.wpS_pure
def z98:=@Option.map_eq_some_iff
def z99:=@List.size_toArray
def ya0:=@Nat.le_add_right
def ya1:=@List.length_cons
def ya2:=@Nat.le_of_eq
def ya3:=@decide_eq_false
def ya4:=@List.mem_append_right
def ya5:=@List.not_mem_nil
def ya6:=@List.map_cons
def ya7:=@Nat.lt_of_le_of_lt
def ya8:=@List.mem_append
def ya9:=@decide_eq_true
def yb0:=@Bool.false_ne_true
def yb1:=@List.append_assoc
def yb2:=@PySem.Heap.get?_update_other
def yb3:=@List.mem_append_left
def yb4:=@List.take_append_drop
def yb5:=@Option.some.inj
def yb6:=@List.mem_of_getElem?
def yb7:=@List.pairwise_append
def yb8:=@PySem.W.mg_none_of
def yb9:=@PySem.wpAny_ite_split
def yc0:=@Array.toList_append
def yc1:=@Ne.symm
def yc2:=@Nat.add_lt_add_left
def yc3:=@List.length_take
def yc4:=@getElem?_pos
def yc5:=@Bool.and_eq_true
def yc6:=@List.drop_eq_getElem_cons
def yc7:=@PySem.W.mg_of
def yc8:=@or_false
def yc9:=@PyProof.Rows.callWith_type1
def yd0:=@Bool.false_eq_true
def yd1:=@PySem.wpAny_truthy_bool
def yd2:=@List.map_append
def yd3:=@Nat.le_of_lt
def yd4:=@Nat.lt_irrefl
def yd5:=@PySem.wpAny_holding
def yd6:=@Int.le_refl
def yd7:=@Nat.lt_succ_self
def yd8:=@List.mem_of_mem_take
def yd9:=@List.Perm.append_left
def ye0:=@PySem.wpAny_mono
def ye1:=@Nat.lt_or_ge
def ye2:=@List.mem_map
def ye3:=@List.append_nil
def ye4:=@List.getElem?_append_left
def ye5:=@List.nil_append
def ye6:=@List.getElem?_eq_none
def ye7:=@List.getElem?_append_right
def ye8:=@List.lookup_cons
def ye9:=@List.getElem_mem
def yf0:=@Int.toNat_natCast
def yf1:=@List.getElem?_set_ne
def yf2:=@PySem.Around.under_plainId
def yf3:=@PySem.sizeLine_eq
def yf4:=@PySem.Heap.size_push
def yf5:=@PySem.wpAny_seqItems
def yf6:=@List.take_length
def yf7:=@PyProof.Rows.wpS_forRange
def yf8:=@Array.length_toList
def yf9:=@PySem.mem_of_lookup
def yg0:=@List.take_add_one
def yg1:=@List.find?_cons
def yg2:=@PySem.wpAny_setField_rec
def yg3:=@List.mem_of_mem_drop
def yg4:=@PySem.wpAny_call_entry
def yg5:=@Nat.lt_succ_of_lt
def yg6:=@decide_eq_true_eq
def yg7:=@Classical.choose_spec
def yg8:=@Nat.le_of_ble_eq_true
def yg9:=@PySem.W.kia_one
def yh0:=@List.length_set
def yh1:=@PySem.wpAny_updateSeq
def yh2:=@PySem.codeAny_builtin
def yh3:=@Nat.lt_add_of_pos_right
def yh4:=@PySem.wpAny_callSpecial?_slot
def yh5:=@PySem.plainId_quiet
def yh6:=@Int.le_trans
def yh7:=@Nat.le_succ
def yh8:=@PySem.F.plain_min_loop
def yh9:=@PySem.wpAny_pyIter_list
def yi0:=@PySem.wpAny_newObj_type
def yi1:=@List.pairwise_iff_getElem
def yi2:=@PySem.F.plain_extend_loop
def yi3:=@Array.getElem?_eq_getElem
def yi4:=@PySem.Heap.get?_update_self
def yi5:=@PySem.F.slot_zip_next
def yi6:=@List.perm_append_comm
def yi7:=@List.map_map
def yi8:=@PySem.wpAny_rule
def yi9:=@List.mem_iff_getElem
def yj0:=@Int.eq_ofNat_of_zero_le
def yj1:=@decide_eq_false_iff_not
def yj2:=@if_false
def yj3:=@Nat.le_of_lt_succ
def yj4:=@Array.Perm.refl
def yj5:=@PyProof.Rows.get?_update_seq
def yj6:=@List.length_reverse
def yj7:=@Int.le_of_lt
def yj8:=@PySem.wpAny_nextOf_list_item
def yj9:=@List.length_drop
def yk0:=@Nat.le_of_not_lt
def yk1:=@Int.lt_of_lt_of_le
def yk2:=@Array.getElem?_toList
def yk3:=@PySem.builtinLookup_eq_fast
def yk4:=@Nat.ne_of_gt
def yk5:=@Nat.le_antisymm
def yk6:=@Bool.or_eq_true
def yk7:=@PyProof.Rows.wpS_mono
def yk8:=@Bool.and_eq_true_iff
def yk9:=@List.take_sublist
def yl0:=@List.drop_sublist
def yl1:=@PySem.wpAny_setState_of
def yl2:=@Array.toList_push
def yl3:=@List.any_cons
def yl4:=@PySem.wpAny_attempt
def yl5:=@List.getElem?_replicate
def yl6:=@beq_eq_false_iff_ne
def yl7:=@PySem.Heap.SameBut.update
def yl8:=@Bool.false_and
def yl9:=@if_true
def ym0:=@List.drop_length
def ym1:=@PySem.wpAny_askSetting
def ym2:=@List.getElem?_set_self
def ym3:=@PySem.wpAny_letGo
def ym4:=@PySem.wpAny_field
def ym5:=@List.Perm.append_right
def ym6:=@List.pairwise_cons
def ym7:=@PySem.wpAny_passesOwn
def ym8:=@List.extract_eq_take_drop
def ym9:=@PyProof.Rows.wpS_modify
def yn0:=@Array.toList_reverse
def yn1:=@PySem.wpAny_of_eq
def yn2:=@List.all_eq_true
def yn3:=@List.filter_cons
def yn4:=@PySem.F.called_set
def yn5:=@List.filterMap_cons
def yn6:=@PySem.wpAny_setEntries_of
def yn7:=@List.getElem?_cons_succ
def yn8:=@List.length_eq_zero_iff
def yn9:=@PySem.wpAny_Call_Name_kw
def yo0:=@Int.natCast_nonneg
def yo1:=@PySem.wpAny_specialOf
def yo2:=@PySem.typeLookup_type
def yo3:=@PySem.PassesOwn.never
def yo4:=@List.foldl_cons
def yo5:=@Nat.min_eq_left
def yo6:=@Int.emod_lt_of_pos
def yo7:=@List.take_of_length_le
def yo8:=@of_decide_eq_true
def yo9:=@Nat.lt_trans
def yp0:=@PySem.codeAny_mono
def yp1:=@List.map_nil
def yp2:=@beq_iff_eq
def yp3:=@PySem.wpAny_isInstance
def yp4:=@Array.toList_extract
def yp5:=@Bool.or_false
def yp6:=@Array.perm_iff_toList_perm
def yp7:=@PyProof.Rows.listUpdate_at
def yp8:=@List.sum_cons
def yp9:=@List.take_succ_cons
def yq0:=@List.getElem_of_mem
def yq1:=@List.reverse_append
def yq2:=@List.mem_filter
def yq3:=@List.nodup_cons
def yq4:=@Nat.div_add_mod
def yq5:=@List.length_nil
def yq6:=@List.mem_of_find?_eq_some
def yq7:=@Int.emod_nonneg
def yq8:=@Nat.succ_pos
def yq9:=@PySem.tupleKind_room_in1
def yr0:=@List.mem_range
def yr1:=@PySem.boot_len
def yr2:=@PySem.wpAny_newTuple
def yr3:=@PySem.F.plainAttrs_list
def yr4:=@PySem.F.args_zip_next_1
def yr5:=@List.pairwise_singleton
def yr6:=@Nat.lt_trichotomy
def yr7:=@PySem.Heap.get?_push_ne
def yr8:=@List.ext_getElem?
def yr9:=@PySem.fits_of_scanBound
def ys0:=@PySem.F.entry_zip_next
def ys1:=@PySem.F.entry_min_loop
def ys2:=@PySem.strLen_append
def ys3:=@Bool.true_and
def ys4:=@Int.lt_irrefl
def ys5:=@List.cons_append
def ys6:=@PySem.Heap.size_update
def ys7:=@List.mem_reverse
def ys8:=@PySem.W.methodCall_KW
def yt0:=@List.length_singleton
def yt1:=@PySem.wpAny_execs_nil
def yt2:=@Int.ne_of_gt
def yt3:=@Bool.eq_iff_iff
def yt4:=@PySem.wpAny_loadPart'
def yt5:=@Int.not_le
def yt6:=@List.forIn_cons
def yt7:=@Nat.not_lt_zero
def yt8:=@Int.natCast_add
def yt9:=@PySem.W.plainGet_of
def yu0:=@List.take_take
def yu1:=@List.mem_filterMap
def yu2:=@PySem.W.callWith_K
def yu3:=@List.forIn_toArray
def yu4:=@List.getElem?_drop
def yu5:=@List.all_cons
def yu6:=@Bool.false_or
section
variable {a b c d e f g A B C D E F G H I J K L:Nat}{p q r s t u v w P Q R S T U V W:Int}
def om0 (h:a<b):b-(a+1)<b-a:=by lia
def om5 (h:0=a-b)(i:b<=a):b=a:=by lia
def om6 (h:a+1=b-c):c<b:=by omega
def om7 (h:a+b=c-d):a=c-(d+b):=by omega
def om9 (h:(a:Int)<(b:Int)):a<b:=by omega
def z36 (h:a+64<b):a+1<b:=(yo9 (yc2 (by decide) a) h)
def zR4 (h:a<=1000):((min b a:Nat):Int)<=1000:=by lia
def dn (h:a<64):a<=16777216:=(yd3 (yo9 h (by decide:(64:Nat)<(16777216:Nat))))
def z30 :p+q=q+p:=by lia
def z38 :p+(q+r)=p+q+r:=by lia
def z58 (h:p<=q)(i:r<=s):p+r<=s+q:=by lia
def z04 (h:p<=q+(a:Int)):p<=q+((a+b:Nat):Int):=by lia
def zV3 (h:p<=q+((a+1:Nat):Int))(i:¬p<=q+(a:Int)):p=q+1+(a:Int):=by lia
def z60 :p+1+(a:Int)<=p+((a+1:Nat):Int):=by lia
def z43 (h:p<=q+r):p<q+1+r:=by lia
def z52 (h:a+b<=c)(i:d<b):a+d<c:=by lia
def z64 :p+q-p<=q:=by lia
def z57 (h:(a:Int)=(b:Int)):a=b:=by lia
def z35 (h:a<=b+c)(i:b<=d+e):a<=d+(c+e):=by lia
def zW1 (h:a<=b)(i:c<=b):max a c<=b:=by lia
def zA4 (h:a<=7):a+1<=8:=(ya7 h (by decide:(7:Nat)<(8:Nat)))
def zy7 (h:a+b<=c)(i:d<=e+b)(j:e<=a):d<=c:=by lia
def zY6 (h:a+1+1<2):False:=by lia
def zC1 (h:2<=a)(i:a=b):0<b:=(z83 (by decide:(0:Nat)<(2:Nat)) (z93 h (ya2 i)))
def iD (h:a+(b+c)<=d):a+c+b<=d:=by lia
def zd2 (h:a<b+1)(i:¬a=b):a<b:=by lia
def zS3 :a+(b+c)=a+c+b:=by lia
def zS6 (h:p<=q):p+(((q-p).toNat:Nat):Int)=q:=by omega
def zA7 (h:(a:Int)=(b:Int)):b=a:=by lia
def zF6 (h:a+max b c<d):a+c<d:=by lia
def zT6 (h:a+b+c=d+b+e):a+c=d+e:=by lia
def z01 (h:a+b=a+c):¬c<b:=by lia
def z26 (h:0+a=b+1+c):c<a:=by lia
def zX6 (h:a+b=0+c):¬c<b:=by lia
def zT3 (h:a=b)(i:c=d):b+c=d+a:=by lia
def zy9 (h:a-b=0)(i:b<=a):b=a:=by omega
def zz6 (h:a-b=c+1):b<a:=by omega
def zl1 (h:a-b=c+d):a-(b+d)=c:=by omega
def qE (h:a<b):b-1<b:=by lia
def zW3 (h:a<=b):(a:Int)-(b:Int)<=0:=by lia
def zS9 (h:a=16777216)(i:b<=a):¬(b:Int)≥2^63:=by lia
def zX8 (h:a=16777216)(i:b<=a):b<=1099511627776:=(yd3 (ya7 i (ya7 (ya2 h) (by decide:(16777216:Nat)<(1099511627776:Nat)))))
def zh1 (h:a=16777216)(i:b=c)(j:b<=a):(c:Int)<2^63:=by lia
def zC3 (h:a+3*(b+c)+d<e):a+c+3*b+d<e:=by lia
def zB5 (h:a+16*(b+c)+200<d):a+c+16*b+200<d:=by lia
def zU9 (h:a=b)(i:b<=c):a+(c-a)=c:=by lia
def bN (h:a<2^63)(i:p<(b:Int))(j:b<=a):p<2^63:=by lia
def zb7 (h:(-(a:Int))<=p)(i:a<=b)(j:b<2^63):(-(2^63))<=p:=by lia
def zG0 (h:p<0):max 0 (min (p+q) q)=(((p+q).toNat:Nat):Int):=by lia
def zD1 :max 0 (min p (a:Int))=((min p.toNat a:Nat):Int):=by lia
def zE4 (h:a<2^63)(i:b=c)(j:b<=a):(c:Int)<2^63:=by lia
def zA2 (h:a+b<=c)(i:a=d)(j:b=e):d+e<=c:=by lia
def zG2 (h:a<=b)(i:¬a=b):a<=b-1:=by lia
def zA9 (h:a<1)(i:b<=a):b=0:=by lia
def zC5 (h:a<1):a=0:=by lia
def gg (h:a<=b+c+d):a<=b+(d+c):=by lia
def zz7 (h:a<b):b<=b-c+b-1-a+c:=by omega
def zE2 (h:a<b)(i:c<=a):c+b-1-a<b:=by omega
def zA8 (h:a-b<=c):a<=c+b:=by lia
def zF4 :¬(a<=b/\b<b):=by lia
def pA (h:a+1<=b+(0+1))(i:b<a+1):b=a:=by omega
def zF8 (h:a+b<=c+(d+b)):a<=c+d:=by lia
def zD4 :a<=a-b+(c+b):=by omega
def zG1 (h:a<b):0+b-1-c<b:=by omega
def zh7 (h:a<=b+(c-b))(i:b<=c):a<=c:=by omega
def zC6 (h:a<b):a<=b-1:=by omega
def zD8 (h:a>1):a-1<a:=by lia
def gc (h:a<b)(i:b<=c)(j:d<=1+(b-1)):d<=c:=by lia
def zD2 (h:a<b+1)(i:c<a):a-1<b:=by lia
def zY0 (h:a<=1000):a<=16777216:=(yd3 (ya7 h (by decide:(1000:Nat)<(16777216:Nat))))
def zj8 :a<a+5\/a+5<a:=(.inl (yh3 (by decide)))
def zB7 :a+4<a\/a<a+4:=(.inr (yh3 (by decide)))
def zf2 :a+4<a+5\/a+5<a+4:=(.inl (yc2 (by decide) a))
def zf1 :a+1<a+5\/a+5<a+1:=(.inl (yc2 (by decide) a))
def aa :a+1<a+4\/a+4<a+1:=(.inl (yc2 (by decide) a))
def zC4 :a+4<a+1\/a+1<a+4:=(.inr (yc2 (by decide) a))
def zb8 :a+2<a+5\/a+5<a+2:=(.inl (yc2 (by decide) a))
def zF2 :a+2<a\/a<a+2:=(.inr (yh3 (by decide)))
def zl6 :a+2<a+4\/a+4<a+2:=(.inl (yc2 (by decide) a))
def zB4 :a+2<a+1\/a+1<a+2:=(.inr (yc2 (by decide) a))
def zA6 :a+4<a+2\/a+2<a+4:=(.inr (yc2 (by decide) a))
def za1 :a+5<a+4\/a+4<a+5:=(.inr (yc2 (by decide) a))
def zB1 :a+5<a+2\/a+2<a+5:=(.inr (yc2 (by decide) a))
def zC9 :a+5<a+1\/a+1<a+5:=(.inr (yc2 (by decide) a))
def zD6 :a+5<a\/a<a+5:=(.inr (yh3 (by decide)))
def bw :a<a+4\/a+4<a:=(.inl (yh3 (by decide)))
def zB8 :a<a+2\/a+2<a:=(.inl (yh3 (by decide)))
def zE9 :a+1<a+2\/a+2<a+1:=(.inl (yc2 (by decide) a))
def zd1 :a+3<a+5\/a+5<a+3:=(.inl (yc2 (by decide) a))
def zy8 :a+3<a\/a<a+3:=(.inr (yh3 (by decide)))
def zC7 :a+3<a+1\/a+1<a+3:=(.inr (yc2 (by decide) a))
def zE1 :a+3<a+2\/a+2<a+3:=(.inr (yc2 (by decide) a))
def zB0 (h:(-(2^62))<=p):(-(2^63))<=p:=by lia
def zB2 (h:p<2^62):p<2^63:=by lia
end
set_option maxRecDepth 100000
noncomputable section
namespace L2
open PySem PySem.Spec PyProof.Rows
abbrev Key :=Sum Int Str
noncomputable def qX :Key->Ab->Bool
 |.inl k,v=>Value.isInt k v
 |.inr x,v=>Value.isStrOf x v
noncomputable def z63 (w:Ak):Key->Int
 |.inl k=>hashInt k
 |.inr x=>hashStr w x
theorem zW :∀{k:Key}{v:Ab},qX k v=true->(∃i t,k=Sum.inl i/\v=Value.int i t)\/(∃x t,k=Sum.inr x/\v=Value.str x t)
 |.inl i,v,h=>by
  obtain⟨t,e⟩:=Value.isInt_shape h;exact .inl ⟨i,t,rfl,e⟩
 |.inr x,v,h=>by
  obtain⟨t,e⟩:=Value.isStrOf_shape h;exact .inr ⟨x,t,rfl,e⟩
def ck (i:Int)(t:Tok):qX (.inl i) (.int i t)=true:=by simp[qX,Value.isInt]
def cI (x:Str)(t:Tok):qX (.inr x) (.str x t)=true:=by simp[qX,Value.isStrOf]
def zQ9 (a b:Int):decide ((Sum.inl a:Key)=Sum.inl b)=(a == b):=by
 by_cases e:a=b
 .subst e;simp
 .have h:¬(Sum.inl a:Key)=Sum.inl b:=λq=>e (Sum.inl.inj q);rw[ya3 h];exact(yl6.mpr e).symm
def zI0 (a b:Str):decide ((Sum.inr a:Key)=Sum.inr b)=decide (a=b):=by
 by_cases e:a=b
 .subst e;simp
 .have h:¬(Sum.inr a:Key)=Sum.inr b:=λq=>e (Sum.inr.inj q);rw[ya3 h,ya3 e]
def zI1 (a:Int)(b:Str):decide ((Sum.inl a:Key)=Sum.inr b)=false:=ya3 (λq=>nomatch q)
def zJ1 (a:Str)(b:Int):decide ((Sum.inr a:Key)=Sum.inl b)=false:=ya3 (λq=>nomatch q)
noncomputable def ya (prog:Ag)(w:Ak):PySem.KeyKind prog w Key where
 is:=qX
 hash:=z63 w
 inj:=λv a b ha hb=>by
  rcases zW ha with⟨i,t,rfl,rfl⟩|⟨x,t,rfl,rfl⟩
  .rcases zW hb with⟨j,u,rfl,e⟩|⟨y,u,rfl,e⟩
   .injection e with e1 _;rw[e1]
   .exact nomatch e
  .rcases zW hb with⟨j,u,rfl,e⟩|⟨y,u,rfl,e⟩
   .exact nomatch e
   .injection e with e1 _;rw[e1]
 byValue:=λk v h=>by
  rcases zW h with⟨i,t,rfl,rfl⟩|⟨x,t,rfl,rfl⟩<;>rfl
 pyHash:=λc h=>by
  rcases zW c with⟨i,t,rfl,rfl⟩|⟨x,t,rfl,rfl⟩
  .exact wpAny_pyHash_int h
  .exact wpAny_pyHash_str h
 eqBool:=λd c h=>by
  rcases zW d with⟨i,t,rfl,rfl⟩|⟨x,t,rfl,rfl⟩
  .rcases zW c with⟨j,u,rfl,rfl⟩|⟨y,u,rfl,rfl⟩
   .rw[zQ9]at h;exact wpAny_eqBool_int h
   .rw[zI1]at h;exact SeqAt.EqAt.int_str i t y u _ _ _ _ h
  .rcases zW c with⟨j,u,rfl,rfl⟩|⟨y,u,rfl,rfl⟩
   .rw[zJ1]at h;exact SeqAt.EqAt.str_int x t j u _ _ _ _ h
   .rw[zI0]at h;exact wpAny_eqBool_str h
 «strs»:=λk x t v h=>by
  rcases zW h with⟨i,u,rfl,e⟩|⟨y,u,rfl,e⟩
  .exact nomatch e
  .injection e with e1 _;subst e1;cases v<;>rfl
def nJ (prog:Ag)(w:Ak)(i:Int)(t:Tok):(ya prog w).is (.inl i) (.int i t)=true:=ck i t
def lI (prog:Ag)(w:Ak)(x:Str)(t:Tok):(ya prog w).is (.inr x) (.str x t)=true:=cI x t
inductive V where
 |non|bl (b:Bool)|int (i:Int)|str (x:Str)|byt (b:Array UInt8)|flt (b:UInt64)|ref (a:Ad)|ty (n:String)
 deriving DecidableEq
def RelV :V->Ab->Prop
 |.non,u=>u=Value.none
 |.bl b,u=>u=Value.bool b
 |.int i,u=>∃t,u=Value.int i t
 |.str x,u=>∃t,u=Value.str x t
 |.byt b,u=>∃t,u=Value.bytes b t
 |.flt b,u=>∃t,u=Value.float b t
 |.ref a,u=>u=Value.ref a
 |.ty n,u=>u=Value.type n
abbrev Vals :List V->List Ab->Prop:=Paired RelV
theorem Vals.length {xs:List V}{us:List Ab}(r:Vals xs us):xs.length=us.length:=Paired.length r
theorem Vals.get :∀{xs:List V}{us:List Ab}{i:Nat}{x:V},Vals xs us->xs[i]?=some x->∃u,us[i]?=some u/\RelV x u
 |_,_,_,_,.nil,e=>by simp at e
 |_,_,0,_,.cons r _,e=>by simp at e;subst e;exact⟨_,rfl,r⟩
 |_,_,i+1,x,.cons _ t,e=>by
  obtain⟨u,h1,h2⟩:=Vals.get t (by simpa using e);exact⟨u,by simpa using h1,h2⟩
theorem Vals.set {x:V}{u:Ab}(r:RelV x u):∀{xs:List V}{us:List Ab} (i:Nat),Vals xs us->Vals (xs.set i x) (us.set i u)
 |_,_,_,.nil=>.nil
 |_,_,0,.cons _ t=>.cons r t
 |_,_,i+1,.cons q t=>.cons q (Vals.set r i t)
theorem Vals.append {xs ys:List V}{us ws:List Ab}(h:Vals xs us)(s:Vals ys ws):Vals (xs++ys) (us++ws):=by
 induction h with
 |nil=>exact s
 |cons r _ a=>exact .cons r a
theorem Vals.take :∀{xs:List V}{us:List Ab} (n:Nat),Vals xs us->Vals (xs.take n) (us.take n)
 |_,_,0,_=>.nil
 |_,_,_+1,.nil=>.nil
 |_,_,n+1,.cons r t=>.cons r (Vals.take n t)
theorem Vals.drop :∀{xs:List V}{us:List Ab} (n:Nat),Vals xs us->Vals (xs.drop n) (us.drop n)
 |_,_,0,r=>r
 |_,_,_+1,.nil=>.nil
 |_,_,n+1,.cons _ t=>Vals.drop n t
def vU :Option V->Option Ab->Prop
 |some v,some u=>RelV v u
 |none,none=>True
 |_,_=>False
def KV {a:Type}:List (a×V)->List (a×Ab)->Prop:=Paired λ(p:a×V) (q:a×Ab)=>p.1=q.1/\RelV p.2 q.2
noncomputable def kV :Key->V
 |.inl i=>.int i
 |.inr x=>.str x
inductive HO where
  |lst (xs:List V)
  |tup (xs:List V)
  |dK (kvs:List (Key×V))|dT (kvs:List (List Key×V))
  |set (S:Int->Bool) (n:Nat)
  |ins (C dx:Ad) (fs:List (Str×V))
  |own (x:Ad)
  |xd (fs:List (Str×V))
  |met (f x:Ad)
  |rng (lo hi:Int)
  |frz (o:Obj) (u:HO)
  |tbl (ps:Array Ab)
  |ext (φ:Ao->Prop)
abbrev Hp :=Ad->Option HO
noncomputable def upd (H:Hp)(a:Ad)(o:HO):Hp:=λb=>if b=a then some o else H b
def zi {H:Hp}{a:Ad}{o:HO}:upd H a o a=some o:=by unfold upd;rw[if_pos rfl]
def zc {H:Hp}{a b:Ad}{o:HO}(h:b≠a):upd H a o b=H b:=by unfold upd;rw[if_neg h]
def sR {H:Hp}{a:Ad}{o u:HO}:upd (upd H a o) a u=upd H a u:=by funext b;unfold upd;split<;>rfl
def bj {H:Hp}{a b:Ad}{o u:HO}(h:H a=some o)(h':H b=some u)(d:o≠u):a≠b:=by intro e;subst e;rw[h]at h';exact d (yb5 h')
def zk {H:Hp}{a b:Ad}{o:HO}(h:H a=some o)(h':H b=none):a≠b:=by intro e;subst e;rw[h]at h';cases h'
section
variable (P:Ag)(w:Ak)
def yn (H:Hp)(h:Ao)(a:Ad):HO->Prop
 |.lst xs=>xs.length<=sizeLine/\∃(b:List Ab) (n:Nat),Vals xs b/\h.get? a=some {cls:=.type "list",data:=.seq b.toArray n}
 |.tup xs=>xs.length<=sizeLine/\∃b:List Ab,Vals xs b/\IsTup h a b.toArray
 |.dK kvs=>kvs.length<=sizeLine/\(a == sysModules)=false/\∃vs,KV kvs vs/\h.DictOf (ya P w) a vs
 |.dT kvs=>kvs.length<=sizeLine/\(a == sysModules)=false/\∃xs:List (List Key×Ad×Ab),
   Paired (λ(p:List Key×V) (q:List Key×Ad×Ab)=>p.1=q.1/\H q.2.1=some (.tup (p.1.map kV))/\RelV p.2 q.2.2) kvs xs/\
   ∃o es ep,h.get? a=some o/\o.ExactDict/\o.data=.dict es ep/\es.toList=xs.map (entryOfKey (tupleKind (ya P w)))/\(xs.map (·.1)).Nodup
 |.set S n=>h.SetOf (intKind P w) a S n
 |.ins C dx fs=>H dx=some (.own a)/\fs.length<=1000/\dx≠a/\h.get? a=some (PySem.W.instObj C dx)/\
   ∃mA,h.Ns1 dx mA/\(∀f,vU (fs.lookup f) (mA f))/\PySem.Within mA (fs.map (·.1))
 |.own _=>∃o,h.get? a=some o
 |.xd fs=>∃mA,h.Ns1 a mA/\∀f,vU (fs.lookup f) (mA f)
 |.rng lo hi=>∃t u v,h.get? a=some {cls:=.type "range",data:=.fields #[.int lo t,.int hi u,.int 1 v]}
 |.frz o u=>h.get? a=some o/\yn H h a u
 |.tbl ps=>h.get? a=some {cls:=.none,data:=.fields ps}
 |.met f x=>h.get? a=some (PySem.W.methodObj (.ref f) (.ref x))
 |.ext φ=>φ h/\(∃o,h.get? a=some o)/\∀h1 h2:Ao,φ h1->(∀o,h1.get? a=some o->h2.get? a=some o)->φ h2
def HOk (H:Hp)(h:Ao):Prop:=∀a o,H a=some o->yn P w H h a o
end
section
variable {P:Ag}{w:Ak}{H H':Hp}{h h':Ao}{a:Ad}{o:HO}
theorem yn.lt (x:yn P w H h a o):a<h.objs.size:=by
 cases o with
 |lst xs=>obtain⟨_,_,_,_,e⟩:=x;exact z90 e
 |tup xs=>obtain⟨_,_,_,p⟩:=x;exact p.lt
 |dK kvs=>obtain⟨_,_,_,_,o,_,_,e,_⟩:=x;exact z90 e
 |dT kvs=>obtain⟨_,_,_,_,o,_,_,e,_⟩:=x;exact z90 e
 |set S n=>obtain⟨o,_,_,_,e,_⟩:=x;exact z90 e
 |ins C dx fs=>obtain⟨_,_,_,e,_⟩:=x;exact z90 e
 |own y=>obtain⟨_,e⟩:=x;exact z90 e
 |xd fs=>obtain⟨_,⟨_,_,_,e,_⟩,_⟩:=x;exact z90 e
 |rng lo hi=>obtain⟨_,_,_,e⟩:=x;exact z90 e
 |frz ob u=>obtain⟨e,_⟩:=x;exact z90 e
 |tbl ps=>exact z90 (x)
 |met f y=>exact z90 (x)
 |ext φ=>obtain⟨_,⟨_,e⟩,_⟩:=x;exact z90 e
theorem Paired.mapP {O β:Type}{F G:O->β->Prop}{d:List O}{c:List β}(h:Paired F d c)(f:∀a b,F a b->G a b):Paired G d c:=by
 induction h with
 |nil=>exact .nil
 |cons r _ e=>exact .cons (f _ _ r) e
theorem yn.stay (x:yn P w H h a o)(k:∀b u,(b=a\/H b=some (.own a))->h.get? b=some u->h'.get? b=some u)
  (i:∀b,H b=some (.own a)->H' b=some (.own a)) (l:∀b xs,H b=some (.tup xs)->H' b=some (.tup xs)):yn P w H' h' a o:=by
 induction o with
 |lst xs=>obtain⟨z,g,n,r,e⟩:=x;exact⟨z,g,n,r,k _ _ (.inl rfl) e⟩
 |tup xs=>obtain⟨z,g,r,ob,e,c⟩:=x;exact⟨z,g,r,ob,k _ _ (.inl rfl) e,c⟩
 |dK kvs=>obtain⟨z,y,vs,r,ob,es,ep,e,c⟩:=x;exact⟨z,y,vs,r,ob,es,ep,k _ _ (.inl rfl) e,c⟩
 |dT kvs=>
  obtain⟨z,y,xs,r,ob,es,ep,e,c⟩:=x;exact⟨z,y,xs,Paired.mapP r λp q z=>⟨z.1,l _ _ z.2.1,z.2.2⟩,ob,es,ep,k _ _ (.inl rfl) e,c⟩
 |set S n=>obtain⟨ob,es,ep,t,e,c⟩:=x;exact⟨ob,es,ep,t,k _ _ (.inl rfl) e,c⟩
 |ins C dx fs=>
  obtain⟨d,z,ne,e,mA,⟨od,es,ep,m,c⟩,r⟩:=x;exact⟨i _ d,z,ne,k _ _ (.inl rfl) e,mA,⟨od,es,ep,k _ _ (.inr d) m,c⟩,r⟩
 |own y=>obtain⟨ob,e⟩:=x;exact⟨ob,k _ _ (.inl rfl) e⟩
 |xd fs=>obtain⟨mA,⟨od,es,ep,e,c⟩,r⟩:=x;exact⟨mA,⟨od,es,ep,k _ _ (.inl rfl) e,c⟩,r⟩
 |rng lo hi=>obtain⟨t,u,v,e⟩:=x;exact⟨t,u,v,k _ _ (.inl rfl) e⟩
 |frz ob u j=>obtain⟨e,q⟩:=x;exact⟨k _ _ (.inl rfl) e,j q⟩
 |tbl ps=>
  exact k a _ (.inl rfl) x
 |met f y=>
  exact k a _ (.inl rfl) x
 |ext φ=>obtain⟨p,⟨o,e⟩,st⟩:=x;exact⟨st _ _ p λo q=>k _ _ (.inl rfl) q,⟨o,k _ _ (.inl rfl) e⟩,st⟩
theorem HOk.lt (x:HOk P w H h)(e:H a=some o):a<h.objs.size:=(x a o e).lt
theorem HOk.fresh (x:HOk P w H h)(e:h.objs.size<=a):H a=none:=by
 cases q:H a with
 |none=>rfl
 |some u=>exact absurd (z83 (x.lt q) e) (yd4 _)
def HOk.kept (x:HOk P w H h)(k:∀b u,h.get? b=some u->h'.get? b=some u):HOk P w H h':=λa o e=>
 (x a o e).stay (λb u _ q=>k b u q) (λ_ q=>q) λ_ _ q=>q
def HOk.laid (x:HOk P w H h)(k:∀b u,h.get? b=some u->h'.get? b=some u)(d:h.objs.size<=a)(new:yn P w (upd H a o) h' a o):HOk P w (upd H a o) h':=λb u e=>by
 have hn:=x.fresh d;by_cases hb:b=a
 .subst hb;rw[zi]at e;cases e;exact new
 .rw[zc hb]at e;exact(x b u e).stay (λc v _ q=>k c v q) (λc q=>by rw[zc (zk q hn)];exact q) λc xs q=>by rw[zc (zk q hn)];exact q
end
def Rd (H:Hp)(a:Ad)(u:HO):Prop:=H a=some u\/∃o,H a=some (.frz o u)
def Rd.ok {P:Ag}{w:Ak}{H:Hp}{h:Ao}{a:Ad}{u:HO}(r:Rd H a u)(x:HOk P w H h):yn P w H h a u:=by
 rcases r with r|⟨o,r⟩
 .exact x a u r
 .obtain⟨_,q⟩:=x a _ r;exact q
def Mut :Option HO->Prop
 |some (.lst _)=>True
 |some (.dK _)=>True
 |some (.dT _)=>True
 |some (.set _ _)=>True
 |some (.ins _ _ _)=>True
 |some (.ext _)=>True
 |_=>False
section
variable {P:Ag}{w:Ak}{H:Hp}{h h':Ao}{x e:Ad}{o':HO}
def HOk.write (ok:HOk P w H h)(g:Mut (H x))(he:e=x\/H e=some (.own x))(k:∀b u,b≠e->h.get? b=some u->h'.get? b=some u)(j:∃u,h'.get? e=some u)
  (new:yn P w (upd H x o') h' x o'):HOk P w (upd H x o') h':=λb u q=>by
 have d:∀c y,H c=some (.own y)->c≠x:=λc y r z=>by subst z;rw[r]at g;exact g
 have f:∀c xs,H c=some (.tup xs)->c≠x:=λc xs r z=>by subst z;rw[r]at g;exact g
 by_cases hb:b=x
 .subst hb;rw[zi]at q;cases q;exact new
 .rw[zc hb]at q;by_cases a:b=e
  .have l:H b=some (.own x):=by
    rcases he with z|z
    .exact absurd (a.trans z) hb
    .rw[a];exact z
   rw[q]at l;cases l;obtain⟨v,m⟩:=j;exact⟨v,by rw[a];exact m⟩
  .refine(ok b u q).stay (λc v i r=>k c v ?_ r) (λc r=>by rw[zc (d c b r)];exact r) λc xs r=>by rw[zc (f c xs r)];exact r
   rcases i with rfl|i
   .exact a
   .rintro rfl;rcases he with z|z
    .exact d c b i z
    .rw[i]at z;cases z;exact hb rfl
end
structure Un (fs ex:List Ad)(H H':Hp)(h h':Ao):Prop where
 keep:∀b o,h.get? b=some o->H b=none->b∉fs->b∉ex->h'.get? b=some o
 slot:∀b o,h.get? b=some o->H b=none->b∈fs->b∉ex->∃sl,h'.get? b=some {o with slots:=sl}
 free:∀b o,h.get? b=some o->H b=none->b∉ex->H' b=none
 there:∀b o,h.get? b=some o->b∉ex->∃o',h'.get? b=some o'
 tups:∀b xs,H b=some (.tup xs)->H' b=some (.tup xs)
 frzs:∀b o u,H b=some (.frz o u)->H' b=some (.frz o u)
 tbls:∀b ps,H b=some (.tbl ps)->∃more,H' b=some (.tbl (ps++more))
section
variable {fs fs' ex ex':List Ad}{H H1 H2:Hp}{h h1 h2 h':Ao}{a x e:Ad}{o:HO}
def Un.any (u:Un fs ex H H1 h h1){b:Ad}{ob:Obj}(q:h.get? b=some ob)(n:H b=none)(c:b∉ex):∃sl,h1.get? b=some {ob with slots:=sl}:=by
 by_cases hb:b∈fs
 .exact u.slot b ob q n hb c
 .exact⟨ob.slots,u.keep b ob q n hb c⟩
def Un.kept (k:∀b u,h.get? b=some u->h'.get? b=some u):Un fs ex H H h h':=
 ⟨λb ob q _ _ _=>k b ob q,λb ob q _ _ _=>⟨ob.slots,k b ob q⟩,λ_ _ _ n _=>n,λb ob q _=>⟨ob,k b ob q⟩,λ_ _ q=>q,λ_ _ _ q=>q,λ_ ps q=>⟨#[],by rw[q];simp⟩⟩
def Un.refl :Un fs ex H H h h:=Un.kept λ_ _ q=>q
def Un.laid (k:∀b u,h.get? b=some u->h'.get? b=some u)(c:h.objs.size<=a)(hn:H a=none):Un fs ex H (upd H a o) h h' where
 keep:=λb u q _ _ _=>k b u q
 slot:=λb u q _ _ _=>⟨u.slots,k b u q⟩
 free:=λb u q n _=>by rw[zc (z96 (z83 (z90 q) c))];exact n
 there:=λb u q _=>⟨u,k b u q⟩
 tups:=λb xs q=>by rw[zc (zk q hn)];exact q
 frzs:=λb u xs q=>by rw[zc (zk q hn)];exact q
 tbls:=λb ps q=>⟨#[],by rw[zc (zk q hn),q];simp⟩
def Un.write (d:Mut (H x))(he:e=x\/H e=some (.own x))(k:∀b u,b≠e->h.get? b=some u->h'.get? b=some u)(f:∃u,h'.get? e=some u):Un fs ex H (upd H x o) h h':=by
 have g:∀b,H b=none->b≠x:=λb n z=>by subst z;rw[n]at d;exact d
 have hb:∀b,H b=none->b≠e:=λb n z=>by
  subst z;rcases he with r|r
  .exact g b n r
  .rw[n]at r;cases r
 have hm:∀b u,H b=some u->¬Mut (some u)->b≠x:=λb u q nm z=>by subst z;rw[q]at d;exact nm d
 refine⟨λb u q n _ _=>k b u (hb b n) q,λb u q n _ _=>⟨u.slots,k b u (hb b n) q⟩,λb u q n _=>by rw[zc (g b n)];exact n,λb u q _=>?_,
  λb xs q=>by rw[zc (hm b _ q λz=>z)];exact q,λb u xs q=>by rw[zc (hm b _ q λz=>z)];exact q,λb ps q=>⟨#[],by rw[zc (hm b _ q λz=>z),q];simp⟩⟩
 by_cases c:b=e
 .subst c;exact f
 .exact⟨u,k b u c q⟩
end
noncomputable def trk (h:Ao)(H:Hp):List Ad:=(List.range h.objs.size).filter λa=>(H a).isSome
def qJ (h:Ao)(H:Hp):Ao:=PySem.W.hideAll h (trk h H)
def dA (h:Ao)(H:Hp):(qJ h H).objs.size=h.objs.size:=PySem.W.hideAll_size _ _
def zj6 {h:Ao}{H:Hp}{b:Ad}{o:Obj}(e:h.get? b=some o)(n:H b=none):(qJ h H).get? b=some o:=
 PySem.W.hideAll_get _ e λhm=>by
  have q:=(yq2.mp hm).2;rw[n]at q;simp at q
theorem zo6 {h:Ao}{H:Hp}{b:Ad}{o:Obj}(e:(qJ h H).get? b=some o):h.get? b=some o/\H b=none:=by
 have a:=PySem.W.of_hideAll (trk h H) e;refine⟨a,?_⟩;cases q:H b with
 |none=>rfl
 |some x=>
  have hm:b∈trk h H:=yq2.mpr ⟨yr0.mpr (z90 a),by simp[q]⟩;have z:(qJ h H).get? b=none:=PySem.W.hideAll_none (trk h H) hm;rw[z]at e;cases e
structure Mod (K:Ae)(mg:Str->Option Ab)(base:Ao):Prop where
 kin:K.In base
 glob:base.Ns Ai mg
 blt:∃mb,base.Ns builtinsNs mb/\∀x:Str,x≠"__name__"->mb x=bootBuiltins x
 nolimit:base.NoLimit
structure Cx where
 prog:Ag
 w:Ak
 K:Ae
 mg:Str->Option Ab
 base:Ao
 A:Am
 N:List Str
 s₀:Ac
 H₀:Hp
 env:Ar
 outer:List Ar
 stack:List Ar
 ex:List Ad
 fn:Str->Bool
 calm:Bool
 pn:List (Ad×Obj)
 xe:Ab->Ac->Prop
noncomputable def frs (l:List Ar):List Ad:=l.filterMap (·.frame)
abbrev Cx.fs (X:Cx):List Ad:=frs X.outer
def Vis (sc:Aq)(x:Str):Prop:=sc.names.lookup x=some .local\/sc.names.lookup x=some .cell\/sc.names.lookup x=some .free
def Loc (sc:Aq)(x:Str):Prop:=sc.names.lookup x=some .local\/sc.names.lookup x=some .cell
def Look (env:Ar)(h:Ao)(m:Str->Option Ab)(x:Str)(u:Ab):Prop:=
 (env.kindOf x=some .local/\m x=some u)\/((env.kindOf x=some .cell\/env.kindOf x=some .free)/\∃c,env.cells.lookup x=some c/\h.IsCell c (some u))
structure Cx.Ok (X:Cx):Prop where
 mod:Mod X.K X.mg X.base
 kind:X.env.scope.kind=.function
 glob:X.env.globals=Ai
 blt:X.env.builtins=builtinsNs
 above:X.s₀.heap.objs.size<=X.env.locals
 inj:∀x y c,X.env.cells.lookup x=some c->X.env.cells.lookup y=some c->x=y
 has:∀x,(X.env.kindOf x=some .cell\/X.env.kindOf x=some .free)->∃c,X.env.cells.lookup x=some c
 cab:∀x c,X.fn x=true->X.env.cells.lookup x=some c->X.s₀.heap.objs.size<=c
 hd:X.calm=true->X.A.handled=none
 frames:X.A.frames=some X.stack
 stk:X.stack=X.outer\/(X.stack=X.env::X.outer/\X.env.frame=some X.env.locals)
 exf:∀b∈X.ex,b≠X.env.locals/\∀x c,X.env.cells.lookup x=some c->c≠b
 bs:∀b o,X.base.get? b=some o->X.s₀.heap.get? b=some o/\X.H₀ b=none
 bsz:X.base.objs.size<=X.s₀.heap.objs.size
 noex:∀b o,X.base.get? b=some o->b∉X.ex
 exfs:∀b∈X.ex,b∉X.fs
 funs:X.s₀.heap.FunFrames X.base X.outer
 frf:∀b∈X.fs,X.H₀ b=none
structure Inv (X:Cx)(pins:List (Ad×Obj))(B:List (Option V))(H:Hp)(s:Ac):Prop where
 ok:X.Ok
 os:s.os=X.s₀.os
 bare:AllBare s.gens
 base:Un X.fs X.ex X.H₀ H X.s₀.heap s.heap
 loc:∃m,s.heap.Ns X.env.locals m/\∀(i:Nat) (x:Str) (v:V),X.N[i]?=some x->B[i]?=some (some v)->Vis X.env.scope x->∃u,RelV v u/\Look X.env s.heap m x u
 cell:∀x c,X.env.cells.lookup x=some c->∃v,s.heap.IsCell c v
 free:H X.env.locals=none
 freeC:∀x c,X.env.cells.lookup x=some c->H c=none
 pin:∀p∈X.pn++pins,s.heap.get? p.1=some p.2/\H p.1=none/\p.1≠X.env.locals/\p.1∉X.fs/\∀v,p.2.data≠.cell v
 hok:HOk X.prog X.w H s.heap
 len:B.length=X.N.length
section
variable {X:Cx}{pins:List (Ad×Obj)}{B:List (Option V)}{H H':Hp}{s:Ac}{h':Ao}
def Cx.Ok.nofr (ok:X.Ok){b:Ad}{o:Obj}(e:X.base.get? b=some o):b∉X.fs:=λhb=>by
 have:=(ok.funs.mem hb).1;rw[e]at this;cases this
theorem Inv.bs (I:Inv X pins B H s):∀b o,X.base.get? b=some o->s.heap.get? b=some o/\H b=none:=λb o e=>
 ⟨I.base.keep b o (I.ok.bs b o e).1 (I.ok.bs b o e).2 (I.ok.nofr e) (I.ok.noex b o e),I.base.free b o (I.ok.bs b o e).1 (I.ok.bs b o e).2 (I.ok.noex b o e)⟩
def Inv.bk (I:Inv X pins B H s):∀b o,X.base.get? b=some o->s.heap.get? b=some o:=λb o e=>(I.bs b o e).1
theorem Inv.mod (I:Inv X pins B H s):Mod X.K X.mg X.base:=I.ok.mod
def Inv.kIn (I:Inv X pins B H s):X.K.In s.heap:=I.ok.mod.kin.keeps I.bk
theorem Inv.lt (I:Inv X pins B H s):X.env.locals<s.heap.objs.size:=let⟨_,hn,_⟩:=I.loc;hn.lt
def Inv.sz (I:Inv X pins B H s):X.s₀.heap.objs.size<=s.heap.objs.size:=z93 I.ok.above (yd3 I.lt)
def Inv.nofs (I:Inv X pins B H s){a:Ad}(h:s.heap.objs.size<=a):a∉X.fs:=λhb=>by
 obtain⟨_,o,b,_⟩:=I.ok.funs.mem hb;exact absurd (z83 (z90 b) (z93 I.sz h)) (yd4 _)
def Inv.cne (I:Inv X pins B H s):∀x c,X.env.cells.lookup x=some c->c≠X.env.locals:=λx c e z=>by
 obtain⟨v,o,d,hd⟩:=I.cell x c e;obtain⟨m,⟨o',es,ep,a,b,_⟩,_⟩:=I.loc;rw[z,a]at d;cases d;rw[b]at hd;cases hd
theorem Inv.funs (I:Inv X pins B H s):s.heap.FunFrames X.base X.outer:=by
 have all:∀l,(∀b∈frs l,b∈X.fs)->X.s₀.heap.FunFrames X.base l->s.heap.FunFrames X.base l:=by
  intro l
  induction l with
  |nil=>intro _ _;trivial
  |cons env r f=>
   intro c d;obtain⟨hk,⟨L,o,hf,hn,g,hd⟩,hr⟩:=d;have a:=c L (by unfold frs;rw[yn5,hf];exact z89);obtain⟨sl,e⟩:=I.base.slot L o g (I.ok.frf L a) a λz=>I.ok.exfs L z a;exact⟨hk,⟨L,_,hf,hn,e,hd⟩,f (λb hb=>c b (by unfold frs;rw[yn5,hf];exact z87 _ hb)) hr⟩
 exact all X.outer (λ_ hb=>hb) I.ok.funs
theorem Inv.stack (I:Inv X pins B H s):s.heap.FunFrames X.base X.stack:=by
 rcases I.ok.stk with e|⟨e,hf⟩
 .rw[e];exact I.funs
 .rw[e];obtain⟨m,hn,_⟩:=I.loc;refine .cons (by rw[I.ok.kind];decide) hf hn ?_ I.funs;exact Heap.get?_none_of_le (z93 I.ok.bsz I.ok.above)
def Inv.stkSub (I:Inv X pins B H s):∀b∈frs X.stack,b∈X.env.locals::X.fs:=λb hb=>by
 rcases I.ok.stk with e|⟨e,hf⟩
 .rw[e]at hb;exact z87 _ hb
 .rw[e]at hb;unfold frs at hb;rw[yn5,hf]at hb;exact hb
def Inv.stkFree (I:Inv X pins B H s):∀b∈frs X.stack,H b=none:=λb hb=>by
 rcases z84.mp (I.stkSub b hb)with e|hb
 .rw[e];exact I.free
 .obtain⟨_,o,a,_⟩:=I.ok.funs.mem hb;exact I.base.free b o a (I.ok.frf b hb) λz=>I.ok.exfs b z hb
def Inv.step {D:Array GenState}{t':Nat}{d':Drawn}{ch:List Ad}(I:Inv X pins B H s)
  (f:∀b∈ch,(b∈X.ex\/X.s₀.heap.objs.size<=b)/\b≠X.env.locals/\(∀x c,X.env.cells.lookup x=some c->c≠b)/\∀p∈X.pn++pins,p.1≠b)
  (keep:∀b o,b≠X.env.locals->b∉X.fs->b∉ch->s.heap.get? b=some o->H b=none->h'.get? b=some o)
  (slot:∀b o,b≠X.env.locals->b∈X.fs->b∉ch->s.heap.get? b=some o->H b=none->∃sl,h'.get? b=some {o with slots:=sl}) (free:∀b o,b∉ch->s.heap.get? b=some o->H b=none->H' b=none)
  (there:∀b o,b∉ch->s.heap.get? b=some o->∃o',h'.get? b=some o')
  (tups:∀b xs,H b=some (.tup xs)->H' b=some (.tup xs)) (frzs:∀b o u,H b=some (.frz o u)->H' b=some (.frz o u)) (tbls:∀b ps,H b=some (.tbl ps)->∃more,H' b=some (.tbl (ps++more)))
  (ns:∀m,s.heap.Ns X.env.locals m->h'.Ns X.env.locals m) (hok:HOk X.prog X.w H' h') (hg:AllBare D):
  Inv X pins B H' {s with heap:=h',gens:=D,drawn:=d',toks:=t'}:=by
 have t:∀b o,X.s₀.heap.get? b=some o->b≠X.env.locals:=λb o e=>z96 (z83 (z90 e) I.ok.above);have h:∀b o,X.s₀.heap.get? b=some o->b∉X.ex->b∉ch:=λb o e a hb=>by
  rcases(f b hb).1 with z|z
  .exact a z
  .exact absurd (z83 (z90 e) z) (yd4 _)
 have cellK:∀x c,X.env.cells.lookup x=some c->∀v,s.heap.IsCell c v->h'.IsCell c v:=λx c e v C=>by
  obtain⟨o,j,hd⟩:=C;have g:c∉ch:=λz=>(f c z).2.2.1 x c e rfl;by_cases F:c∈X.fs
  .obtain⟨sl,q⟩:=slot c o (I.cne x c e) F g j (I.freeC x c e);exact⟨_,q,hd⟩
  .exact⟨o,keep c o (I.cne x c e) F g j (I.freeC x c e),hd⟩
 refine⟨I.ok,I.os,hg,⟨λb o e n hb a=>?_,λb o e n hb a=>?_,λb o e n a=>?_,λb o e a=>?_,λb xs e=>tups b xs (I.base.tups b xs e),λb o xs e=>frzs b o xs (I.base.frzs b o xs e),λb ps e=>?_⟩,?_,λx c e=>?_,?_,λx c e=>?_,λp E=>?_,hok,I.len⟩
 .exact keep b o (t b o e) hb (h b o e a) (I.base.keep b o e n hb a) (I.base.free b o e n a)
 .obtain⟨sl,e1⟩:=I.base.slot b o e n hb a;obtain⟨A,y⟩:=slot b _ (t b o e) hb (h b o e a) e1 (I.base.free b o e n a);exact⟨A,y⟩
 .obtain⟨o',e1⟩:=I.base.there b o e a;exact free b o' (h b o e a) e1 (I.base.free b o e n a)
 .obtain⟨o',e1⟩:=I.base.there b o e a;exact there b o' (h b o e a) e1
 .obtain⟨m1,e1⟩:=I.base.tbls b ps e;obtain⟨m2,y⟩:=tbls b _ e1;exact⟨m1++m2,by rw[y,Array.append_assoc]⟩
 .obtain⟨m,hn,G⟩:=I.loc;refine⟨m,ns m hn,λi x v e1 y J=>?_⟩;obtain⟨u,r,l⟩:=G i x v e1 y J;refine⟨u,r,?_⟩;rcases l with l|⟨k,c,e,z⟩
  .exact .inl l
  .exact .inr ⟨k,c,e,cellK x c e _ z⟩
 .obtain⟨v,z⟩:=I.cell x c e;exact⟨v,cellK x c e v z⟩
 .obtain⟨m,⟨o,_,_,j,_⟩,_⟩:=I.loc;exact free _ o (λz=>(f _ z).2.1 rfl) j I.free
 .obtain⟨v,o,j,hd⟩:=I.cell x c e;exact free c o (λz=>(f c z).2.2.1 x c e rfl) j (I.freeC x c e)
 .obtain⟨e,n,ne,nf,d⟩:=I.pin p E;have g:p.1∉ch:=λz=>(f p.1 z).2.2.2 p E rfl;exact⟨keep p.1 p.2 ne nf g e n,free p.1 p.2 g e n,ne,nf,d⟩
def Inv.un {t':Nat}(I:Inv X pins B H s)(u:Un X.fs [] H H' s.heap h')(hok:HOk X.prog X.w H' h'):Inv X pins B H' {s with heap:=h',toks:=t'}:=by
 obtain⟨m,⟨o,es,ep,f,r⟩,_⟩:=id I.loc;obtain⟨sl,g⟩:=u.any f I.free (by simp);exact I.step (ch:=[]) (λ_ z=>nomatch z) (λb o _ hb _ e n=>u.keep b o e n hb (by simp)) (λb o _ hb _ e n=>u.slot b o e n hb (by simp)) (λb o _ e n=>u.free b o e n (by simp)) (λb o _ e=>u.there b o e (by simp)) u.tups u.frzs u.tbls (λi hm=>by
  obtain⟨o',c,d,a,h⟩:=hm;rw[f]at a;cases a;exact⟨_,c,d,g,h⟩) hok I.bare
def Inv.call {j:Array GenState}{t':Nat}{d':Drawn}{ch:List Ad}(I:Inv X pins B H s)(u:Un (frs X.stack) ch H H' s.heap h')(hok:HOk X.prog X.w H' h')(hg:AllBare j)
  (d:∀b∈ch,(b∈X.ex\/X.s₀.heap.objs.size<=b)/\b≠X.env.locals/\(∀x c,X.env.cells.lookup x=some c->c≠b)/\∀p∈X.pn++pins,p.1≠b):
  Inv X pins B H' {s with heap:=h',gens:=j,drawn:=d',toks:=t'}:=by
 obtain⟨m,⟨o,es,ep,k,r⟩,_⟩:=id I.loc;obtain⟨sl,g⟩:=u.any k I.free λz=>(d _ z).2.1 rfl;exact I.step d (λb o g hb a e n=>u.keep b o e n (λz=>(z84.mp (I.stkSub b z)).elim g hb) a) (λb o _ _ a e n=>u.any e n a) (λb o a e n=>u.free b o e n a) (λb o a e=>u.there b o e a) u.tups u.frzs u.tbls (λq hm=>by
  obtain⟨o',h,i,f,l⟩:=hm;rw[k]at f;cases f;exact⟨_,h,i,g,l⟩) hok hg
def Inv.turned {t':Nat}{it:Ad}(I:Inv X pins B H s)(k:∀b o,b≠it->s.heap.get? b=some o->h'.get? b=some o)(hn:H it=none)(f:it≠X.env.locals)
  (h1:it∈X.ex\/X.s₀.heap.objs.size<=it) (h2:∀x c,X.env.cells.lookup x=some c->c≠it) (h3:∀p∈X.pn++pins,p.1≠it):Inv X pins B H {s with heap:=h',toks:=t'}:=by
 have d:∀b u,H b=some u->b≠it:=λb u e z=>by rw[z,hn]at e;cases e
 refine I.step (ch:=[it]) (λb hb=>?_) (λb o _ _ a e _=>k b o (λz=>a (by simp[z])) e) (λb o _ _ a e _=>⟨o.slots,k b o (λz=>a (by simp[z])) e⟩) (λ_ _ _ _ n=>n)
  (λb o a e=>⟨o,k b o (λz=>a (by simp[z])) e⟩) (λ_ _ e=>e) (λ_ _ _ e=>e) (λb ps e=>⟨#[],by rw[e];simp⟩) (λm hm=>?_) (λb u e=>?_) I.bare
 .have e:b=it:=by simpa using hb
  subst e;exact⟨h1,f,h2,h3⟩
 .obtain⟨o,es,ep,g,r⟩:=hm;exact⟨o,es,ep,k _ o (yc1 f) g,r⟩
 .refine(I.hok b u e).stay (λc v a q=>k c v ?_ q) (λ_ q=>q) λ_ _ q=>q;rcases a with z|z
  .rw[z];exact d b u e
  .exact d c _ z
def Inv.tok (I:Inv X pins B H s)(t:Nat):Inv X pins B H {s with toks:=t}:=I.un Un.refl I.hok
theorem Inv.kept {t':Nat}(I:Inv X pins B H s)(k:∀b u,s.heap.get? b=some u->h'.get? b=some u):Inv X pins B H {s with heap:=h',toks:=t'}:=I.un (Un.kept k) (I.hok.kept k)
theorem Inv.laid {a:Ad}{o:HO}{t':Nat}(I:Inv X pins B H s)(k:∀b u,s.heap.get? b=some u->h'.get? b=some u)(c:s.heap.objs.size<=a)(new:yn X.prog X.w (upd H a o) h' a o):
  Inv X pins B (upd H a o) {s with heap:=h',toks:=t'}:=I.un (Un.laid k c (I.hok.fresh c)) (I.hok.laid k c new)
theorem Inv.write {x e:Ad}{o:HO}{t':Nat}(I:Inv X pins B H s)(c:Mut (H x))(he:e=x\/H e=some (.own x))(k:∀b u,b≠e->s.heap.get? b=some u->h'.get? b=some u)(a:∃u,h'.get? e=some u)
  (new:yn X.prog X.w (upd H x o) h' x o):Inv X pins B (upd H x o) {s with heap:=h',toks:=t'}:=I.un (Un.write c he k a) (I.hok.write c he k a new)
def Inv.pins_of {a:List (Ad×Obj)}(I:Inv X pins B H s)(h:∀p∈a,s.heap.get? p.1=some p.2/\H p.1=none/\p.1≠X.env.locals/\p.1∉X.fs/\∀v,p.2.data≠.cell v):Inv X a B H s:=
 ⟨I.ok,I.os,I.bare,I.base,I.loc,I.cell,I.free,I.freeC,λp b=>(ya8.mp b).elim (λz=>I.pin p (yb3 _ z)) (h p),I.hok,I.len⟩
def me {N:List Str}(c:N.Nodup){i j:Nat}{x:Str}(a:N[i]?=some x)(b:N[j]?=some x):i=j:=by
 obtain⟨h1,e1⟩:=z81.mp a;obtain⟨h2,d⟩:=z81.mp b;exact(List.getElem_inj c).mp (e1.trans d.symm)
def pP {M:Model}{A:Am}{E:Ab->Ac->Prop}{i:Nat}{x:Str}{v:V}{u:Ab}{Q:Unit->Ac->Prop}(I:Inv X pins B H s)(hN:X.N.Nodup)(hi:X.N[i]?=some x)(l:Loc X.env.scope x)(r:RelV v u)
  (h:∀s',Inv X pins (B.set i (some v)) H s'->(∃a,Heap.SameBut a s.heap s'.heap/\(a=X.env.locals\/X.env.cells.lookup x=some a))->Q () s') (hf:X.fn x=true\/X.env.scope.names.lookup x=some .local:=by first|exact .inl rfl|exact .inr rfl|assumption):Aj M A (storeName X.env x u) Q E s:=by
 obtain⟨m,hn,hl⟩:=id I.loc;have J:(X.env.scope.kind == .class||(X.env.scope.kind == .module&&X.env.locals != X.env.globals))=false:=by rw[I.ok.kind];rfl
 have D:i<B.length:=by rw[I.len];exact(z81.mp hi).1
 have cne:=I.cne;have tracked:∀{a:Ad} {h':Ao},(∃o,s.heap.get? a=some o/\H a=none)->Heap.SameBut a s.heap h'->HOk X.prog X.w H h':=λ{a h'} ha f b ob e=>by
  obtain⟨_,_,t⟩:=ha;refine(I.hok b ob e).stay (λc R g q=>(f.2 c ?_).trans q) (λ_ q=>q) λ_ _ q=>q;rintro rfl;rcases g with rfl|g
  .rw[t]at e;cases e
  .rw[t]at g;cases g
 rcases l with hk|hk
 .refine wpAny_storeName_local hk hn (λh' Y f=>?_) J;obtain⟨oL,_,_,W,_⟩:=id hn;refine h _ ⟨I.ok,I.os,I.bare,⟨λb o e n hb l=>?_,λb o e n hb l=>?_,I.base.free,λb o e l=>?_,I.base.tups,I.base.frzs,I.base.tbls⟩,⟨_,Y,λj y Z e1 C e3=>?_⟩,λy c e=>?_,I.free,I.freeC,λp U=>?_,tracked ⟨oL,W,I.free⟩ f,by simpa using I.len⟩ ⟨_,f,.inl rfl⟩
  .exact(f.2 b (z96 (z83 (z90 e) I.ok.above))).trans (I.base.keep b o e n hb l)
  .obtain⟨sl,e1⟩:=I.base.slot b o e n hb l;exact⟨sl,(f.2 b (z96 (z83 (z90 e) I.ok.above))).trans e1⟩
  .obtain⟨o',e1⟩:=I.base.there b o e l;exact⟨o',(f.2 b (z96 (z83 (z90 e) I.ok.above))).trans e1⟩
  .by_cases G:j=i
   .subst G;rw[hi]at e1;cases e1;rw[ym2 D]at C;cases C;exact⟨u,r,.inl ⟨hk,by simp⟩⟩
   .rw[yf1 (yc1 G)]at C;obtain⟨S,T,q⟩:=hl j y Z e1 C e3;refine⟨S,T,?_⟩;rcases q with⟨k,e⟩|⟨k,c,e,z⟩
    .refine .inl ⟨k,?_⟩;have:y≠x:=λe=>G (me hN e1 (e▸hi));simp[this,e]
    .exact .inr ⟨k,c,e,z.sameBut f (cne y c e)⟩
  .obtain⟨R,z⟩:=I.cell y c e;exact⟨R,z.sameBut f (cne y c e)⟩
  .obtain⟨e,n,ne,nf,d⟩:=I.pin p U;exact⟨(f.2 p.1 ne).trans e,n,ne,nf,d⟩
 .have F:X.fn x=true:=by
   rcases hf with z|z
   .exact z
   .rw[z]at hk;cases hk
  obtain⟨c,g⟩:=I.ok.has x (.inl hk);obtain⟨R,z⟩:=I.cell x c g;refine wpAny_storeName_cell I.ok.kind hk g z (λh' K f=>?_);obtain⟨oc,P,L⟩:=id z;refine h {s with heap:=h'} ⟨I.ok,I.os,I.bare,⟨λb o e n hb l=>?_,λb o e n hb l=>?_,I.base.free,λb o e l=>?_,I.base.tups,I.base.frzs,I.base.tbls⟩,⟨m,hn.sameBut f (yc1 (cne x c g)),λj y Z e1 C e3=>?_⟩,λy c' e=>?_,I.free,I.freeC,λp U=>?_,tracked ⟨oc,P,I.freeC x c g⟩ f,by simpa using I.len⟩ ⟨c,f,.inr g⟩
  .exact(f.2 b (z96 (z83 (z90 e) (I.ok.cab x c F g)))).trans (I.base.keep b o e n hb l)
  .obtain⟨sl,e1⟩:=I.base.slot b o e n hb l;exact⟨sl,(f.2 b (z96 (z83 (z90 e) (I.ok.cab x c F g)))).trans e1⟩
  .obtain⟨o',e1⟩:=I.base.there b o e l;exact⟨o',(f.2 b (z96 (z83 (z90 e) (I.ok.cab x c F g)))).trans e1⟩
  .by_cases G:j=i
   .subst G;rw[hi]at e1;cases e1;rw[ym2 D]at C;cases C;exact⟨u,r,.inr ⟨.inl hk,c,g,K⟩⟩
   .rw[yf1 (yc1 G)]at C;obtain⟨S,T,q⟩:=hl j y Z e1 C e3;refine⟨S,T,?_⟩;rcases q with q|⟨k,c',e,z'⟩
    .exact .inl q
    .refine .inr ⟨k,c',e,z'.sameBut f ?_⟩;rintro rfl;exact G (me hN e1 (I.ok.inj _ _ _ e g▸hi))
  .by_cases O:c'=c
   .subst O;exact⟨_,K⟩
   .obtain⟨w2,z2⟩:=I.cell y c' e;exact⟨w2,z2.sameBut f O⟩
  .obtain⟨e,n,ne,nf,d⟩:=I.pin p U;refine⟨(f.2 p.1 ?_).trans e,n,ne,nf,d⟩;intro q;rw[q,P]at e;exact d R (by rw[<-(yb5 e)];exact L)
def nR {M:Model}{A:Am}{E:Ab->Ac->Prop}{i:Nat}{x:Str}{v:V}{u:Ab}{Q:Unit->Ac->Prop}(I:Inv X pins B H s)(b:X.N.Nodup)(hi:X.N[i]?=some x)(c:Loc X.env.scope x)(r:RelV v u)
  (h:∀s',Inv X pins (B.set i (some v)) H s'->Q () s') (hf:X.fn x=true\/X.env.scope.names.lookup x=some .local:=by first|exact .inl rfl|exact .inr rfl|assumption):Aj M A (storeName X.env x u) Q E s:=
 pP I b hi c r (λs' a _=>h s' a) hf
def Inv.call' {s':Ac}{ch:List Ad}(I:Inv X pins B H s)(d:s'.os=s.os)(u:Un (frs X.stack) ch H H' s.heap s'.heap)(hok:HOk X.prog X.w H' s'.heap)(hg:AllBare s'.gens)
  (a:∀b∈ch,(b∈X.ex\/X.s₀.heap.objs.size<=b)/\b≠X.env.locals/\(∀x c,X.env.cells.lookup x=some c->c≠b)/\∀p∈X.pn++pins,p.1≠b):Inv X pins B H' s':=by
 obtain⟨h',f,d',t',o'⟩:=s';have e:=d;subst e;exact I.call u hok hg a
end
abbrev XK :=Ab->Option Ad->Hp->Prop
abbrev St :=List (Option V)
abbrev VK :=V->Hp->Prop
abbrev TE :=St->Hp->VK->Prop
abbrev TT :=St->Hp->(Bool->Hp->Prop)->Prop
abbrev TA :=St->Hp->(List V->Hp->Prop)->Prop
structure Ends where
 nx:St->Hp->Prop
 rt:VK
 bk:St->Hp->Prop:=λ_ _=>False
 ct:St->Hp->Prop:=λ_ _=>False
abbrev TS :=Ends->St->Hp->Prop
def EP (X:Cx)(pins:List (Ad×Obj))(B:St)(Q:VK)(u:Ab)(s':Ac):Prop:=∃v H',Inv X pins B H' s'/\RelV v u/\Q v H'
def TP (X:Cx)(pins:List (Ad×Obj))(B:St)(Q:Bool->Hp->Prop)(b:Bool)(s':Ac):Prop:=∃H',Inv X pins B H' s'/\Q b H'
def AP (X:Cx)(pins:List (Ad×Obj))(B:St)(Q:List V->Hp->Prop)(us:List Ab)(s':Ac):Prop:=∃vs H',Inv X pins B H' s'/\Vals vs us/\Q vs H'
def SP (X:Cx)(pins:List (Ad×Obj))(D:Ends)(f:Flow)(s':Ac):Prop:=
 match f with
 |.next=>∃a H',Inv X pins a H' s'/\D.nx a H'
 |.brk=>∃a H',Inv X pins a H' s'/\D.bk a H'
 |.cont=>∃a H',Inv X pins a H' s'/\D.ct a H'
 |.ret u=>∃v a H',Inv X pins a H' s'/\RelV v u/\D.rt v H'
def PE (X:Cx)(e:Al)(t:TE):Prop:=
 ∀(pins:List (Ad×Obj)) (s:Ac) (B:St) (H:Hp) (Q:VK),Inv X pins B H s->t B H Q->Aj (Ah X.prog X.w) X.A (eval e X.env) (EP X pins B Q) X.xe s
def PT (X:Cx)(e:Al)(t:TT):Prop:=
 ∀(pins:List (Ad×Obj)) (s:Ac) (B:St) (H:Hp) (Q:Bool->Hp->Prop),Inv X pins B H s->t B H Q->Aj (Ah X.prog X.w) X.A (isTrue e X.env (eval e X.env)) (TP X pins B Q) X.xe s
def PW (X:Cx)(e:Al)(t:TT):Prop:=
 ∀(whole:Sem Ab) (pins:List (Ad×Obj)) (s:Ac) (B:St) (H:Hp) (Q:Bool->Hp->Prop),Inv X pins B H s->t B H Q->Aj (Ah X.prog X.w) X.A (isTrue e X.env whole) (TP X pins B Q) X.xe s
def PW.pt {X:Cx}{e:Al}{t:TT}(h:PW X e t):PT X e t:=h _
def PA (X:Cx)(es:List Al)(t:TA):Prop:=
 ∀(pos:Pos) (pins:List (Ad×Obj)) (s:Ac) (B:St) (H:Hp) (Q:List V->Hp->Prop),Inv X pins B H s->t B H Q->Aj (Ah X.prog X.w) X.A (spliced (backTo pos (Af es X.env))) (AP X pins B Q) X.xe s
def PS (X:Cx)(st:An)(t:TS):Prop:=
 ∀(pins:List (Ad×Obj)) (s:Ac) (B:St) (H:Hp) (D:Ends),Inv X pins B H s->t D B H->Aj (Ah X.prog X.w) X.A (exec st X.env) (SP X pins D) X.xe s
def PSs (X:Cx)(st:List An)(t:TS):Prop:=
 ∀(pins:List (Ad×Obj)) (s:Ac) (B:St) (H:Hp) (D:Ends),Inv X pins B H s->t D B H->Aj (Ah X.prog X.w) X.A (execs st X.env) (SP X pins D) X.xe s
def thn {O:Type}{t:Sem O}{Q b:O->Ac->Prop}{M:Model}{A:Am}{E:Ab->Ac->Prop}{s:Ac}(h:Aj M A t Q E s)(c:∀a s,Q a s->b a s):Aj M A t b E s:=ye0 h c λ_ _ x=>x
section
variable {X:Cx}
def zo3 (i:Nat):TE:=λB H Q=>∃v,B[i]?=some (some v)/\Q v H
def tC (v:V):TE:=λ_ H Q=>Q v H
def xi {i:Nat}{x:Str}{pos:Pos}(j:X.N[i]?=some x)(g:Vis X.env.scope x)(hd:(x == ("__debug__":Str))=false:=by decide)(b:(x == ("__classdict__":Str))=false:=by decide):PE X (.Name x pos) (zo3 i):=by
 intro pins s B H Q I h;obtain⟨v,e,h⟩:=h;obtain⟨m,hn,f⟩:=I.loc;obtain⟨u,r,l⟩:=f i x v j e g;have fin:EP X pins B Q u s:=⟨v,H,I,r,h⟩;rcases l with⟨hk,hm⟩|⟨hk,c,d,a⟩
 .exact wpAny_Name (wpAny_loadName_local I.ok.kind hk hn hm fin) hd
 .rcases hk with hk|hk
  .exact wpAny_Name (wpAny_loadName_cell I.ok.kind hk d a fin) hd
  .exact wpAny_Name (wpAny_loadName_free I.ok.kind hk d a fin b) hd
def zx {i j pos}:PE X (.Constant (.int i) j pos) (tC (.int i)):=λ_ _ _ H _ I h=>wpAny_Constant_int ⟨.int i,H,I.tok _,⟨_,rfl⟩,h⟩
def zW9 {b j pos}:PE X (.Constant (.bool b) j pos) (tC (.bl b)):=λ_ _ _ H _ I h=>Constant_bool ⟨.bl b,H,I,rfl,h⟩
def aq {j pos}:PE X (.Constant .none j pos) (tC .non):=λ_ _ _ H _ I h=>Constant_none ⟨.non,H,I,rfl,h⟩
def zO9 {x j pos}:PE X (.Constant (.str x) j pos) (tC (.str x)):=λ_ _ _ H _ I h=>Calls.Constant_str ⟨.str x,H,I.tok _,⟨_,rfl⟩,h⟩
def Gl (X:Cx)(x:Str):Prop:=X.env.kindOf x=some .globalImplicit
def uS {E:Ab->Ac->Prop}{pins:List (Ad×Obj)}{s:Ac}{B:St}{H:Hp}{x:Str}{u:Ab}{pos:Pos}{Q:Ab->Ac->Prop}(I:Inv X pins B H s)(hg:Gl X x)(hm:X.mg x=some u)(h:Q u s)
  (hd:(x == ("__debug__":Str))=false:=by decide):Aj (Ah X.prog X.w) X.A (eval (.Name x pos) X.env) Q E s:=
 Calls.Name_function_global I.ok.kind hg (Calls.loadGlobal_global (by rw[I.ok.glob];exact I.mod.glob.keeps I.bk) hm h) hd
def yZ {E:Ab->Ac->Prop}{pins:List (Ad×Obj)}{s:Ac}{B:St}{H:Hp}{x:Str}{u:Ab}{pos:Pos}{Q:Ab->Ac->Prop}(I:Inv X pins B H s)(hg:Gl X x)(hm:X.mg x=none)(a:bootBuiltins x=some u)(h:Q u s)
  (hn:x≠"__name__":=by decide) (hd:(x == ("__debug__":Str))=false:=by decide):Aj (Ah X.prog X.w) X.A (eval (.Name x pos) X.env) Q E s:=by
 obtain⟨mb,h1,h2⟩:=I.mod.blt;exact Calls.Name_function_global I.ok.kind hg (Calls.loadGlobal_builtin (by rw[I.ok.glob];exact I.mod.glob.keeps I.bk) hm (by rw[I.ok.blt];exact h1.keeps I.bk) ((h2 x hn).trans a) h) hd
def zv8 {x:Str}{v:V}{u:Ab}{pos:Pos}(hg:Gl X x)(hm:X.mg x=some u)(r:RelV v u)(hd:(x == ("__debug__":Str))=false:=by decide):PE X (.Name x pos) (tC v):=
 λ_ _ _ H _ I h=>uS I hg hm ⟨v,H,I,r,h⟩ hd
def zt6 {x:Str}{v:V}{u:Ab}{pos:Pos}(hg:Gl X x)(hm:X.mg x=none)(a:bootBuiltins x=some u)(r:RelV v u)(hn:x≠"__name__":=by decide)(hd:(x == ("__debug__":Str))=false:=by decide):PE X (.Name x pos) (tC v):=
 λ_ _ _ H _ I h=>yZ I hg hm a ⟨v,H,I,r,h⟩ hn hd
variable {a b:Al}{ta tb:TE}{pos:Pos}
def tB (t:TE):TT:=λB H Q=>t B H λx H1=>∃c,x=.bl c/\Q c H1
def zL7 {e:Al}{t:TE}(h:PE X e t)(he:∀whole,isTrue e X.env whole=(do let v <-whole;standAt e.pos;holding [v] (truthy v)):=by intro _;rfl):PT X e (tB t):=by
 intro pins s B H Q I hw;refine isTrue_plain (thn (h pins s B H _ I hw) λv s1 c=>?_) (he _);obtain⟨x,H1,i,f,g⟩:=c;obtain⟨d,rfl,q⟩:=g;cases f;exact yd1 ⟨H1,i,q⟩
variable {tA tB':TT}{rest:List Al}
def z67 (t u:TT):TT:=λB H Q=>t B H λc H1=>if c=true then u B H1 Q else Q false H1
def tOr (t u:TT):TT:=λB H Q=>t B H λc H1=>if c=true then Q true H1 else u B H1 Q
def z70 (t:TT):TT:=λB H Q=>t B H λc H1=>Q (!c) H1
theorem gI (ha:PT X a tA):PW X (.BoolOp .And [a] pos) tA:=by
 intro d pins s B H Q I h;refine isTrue_and (thn (ha pins s B H Q I h) λc s1 e=>?_);cases c with
 |true=>exact isTrue_and_nil e
 |false=>exact e
theorem zG8 (ha:PT X a tA):PW X (.BoolOp .Or [a] pos) tA:=by
 intro d pins s B H Q I h;refine isTrue_or (thn (ha pins s B H Q I h) λc s1 e=>?_);cases c with
 |false=>exact isTrue_or_nil e
 |true=>exact e
theorem zk8 (ha:PT X a tA)(hb:PW X (.BoolOp .And (b::rest) pos) tB'):PW X (.BoolOp .And (a::b::rest) pos) (z67 tA tB'):=by
 intro g pins s B H Q I h;refine isTrue_and (thn (ha pins s B H _ I h) λc s1 d=>?_);obtain⟨H1,f,e⟩:=d;cases c with
 |true=>exact hb g pins s1 B H1 Q f e
 |false=>exact⟨H1,f,e⟩
theorem zY4 (ha:PT X a tA)(hb:PW X (.BoolOp .Or (b::rest) pos) tB'):PW X (.BoolOp .Or (a::b::rest) pos) (tOr tA tB'):=by
 intro g pins s B H Q I h;refine isTrue_or (thn (ha pins s B H _ I h) λc s1 d=>?_);obtain⟨H1,f,e⟩:=d;cases c with
 |true=>exact⟨H1,f,e⟩
 |false=>exact hb g pins s1 B H1 Q f e
def zL1 (ha:PT X a tA):PT X (.UnaryOp .Not a pos) (z70 tA):=by
 intro pins s B H Q I h;exact isTrue_not (ha pins s B H (λc H1=>Q (!c) H1) I h)
def z28 (ta tb:TE):TE:=λB H Q=>ta B H λx H1=>∃c,x=.bl c/\if c=true then tb B H1 Q else Q (.bl false) H1
def z51 (ta tb:TE):TE:=λB H Q=>ta B H λx H1=>∃c,x=.bl c/\if c=true then Q (.bl true) H1 else tb B H1 Q
def z05 (ta:TE):TE:=λB H Q=>ta B H λx H1=>∃c,x=.bl c/\Q (.bl (!c)) H1
def zO6 {op}{t:TE}(h:PE X a t):PE X (.BoolOp op [a] pos) t:=λpins s B H Q I hw=>BoolOp_one (h pins s B H Q I hw)
theorem zK9 (ha:PE X a ta)(hb:PE X (.BoolOp .And (b::rest) pos) tb):PE X (.BoolOp .And (a::b::rest) pos) (z28 ta tb):=by
 intro pins s B H Q I h;refine BoolOp_and (thn (ha pins s B H _ I h) λv s1 d=>?_);obtain⟨x,H1,f,g,e⟩:=d;obtain⟨c,rfl,e⟩:=e;cases g;refine yd1 ?_;cases c with
 |true=>exact hb pins s1 B H1 Q f e
 |false=>exact⟨.bl false,H1,f,rfl,e⟩
theorem zV6 (ha:PE X a ta)(hb:PE X (.BoolOp .Or (b::rest) pos) tb):PE X (.BoolOp .Or (a::b::rest) pos) (z51 ta tb):=by
 intro pins s B H Q I h;refine BoolOp_or (thn (ha pins s B H _ I h) λv s1 d=>?_);obtain⟨x,H1,f,g,e⟩:=d;obtain⟨c,rfl,e⟩:=e;cases g;refine yd1 ?_;cases c with
 |false=>exact hb pins s1 B H1 Q f e
 |true=>exact⟨.bl true,H1,f,rfl,e⟩
def zO4 (ha:PE X a ta):PE X (.UnaryOp .Not a pos) (z05 ta):=by
 intro pins s B H Q I h;refine UnaryOp_ (thn (ha pins s B H _ I h) λv s1 d=>?_);obtain⟨x,H1,f,g,e⟩:=d;obtain⟨c,rfl,e⟩:=e;cases g;exact not_of (yd1 ⟨.bl (!c),H1,f,rfl,e⟩)
def tIf (t:TT)(ta tb:TE):TE:=λB H Q=>t B H λc H1=>if c=true then ta B H1 Q else tb B H1 Q
theorem ze6 {c:Al}(i:PT X c tA)(ha:PE X a ta)(hb:PE X b tb):PE X (.IfExp c a b pos) (tIf tA ta tb):=by
 intro pins s B H Q I h;refine wpAny_IfExp (thn (i pins s B H _ I h) λd s1 e=>?_);obtain⟨H1,g,f⟩:=e;cases d with
 |true=>exact ha pins s1 B H1 Q g f
 |false=>exact hb pins s1 B H1 Q g f
end
def SqL (K:Ae)(H:Hp)(a:Ad)(xs:List V):Prop:=
 Rd H a (.lst xs)\/
  ∃(o:Obj) (b:Array Ab) (n:Nat),K.lookup a=some o/\o.cls=.type "list"/\o.dict=none/\o.data=.seq b n/\b.size<=sizeLine/\Vals xs b.toList
def SqT (K:Ae)(H:Hp)(a:Ad)(xs:List V):Prop:=
 Rd H a (.tup xs)\/
  ∃(o:Obj) (b:Array Ab) (n:Nat),K.lookup a=some o/\o.cls=.type "tuple"/\o.data=.seq b n/\b.size<=sizeLine/\Vals xs b.toList
noncomputable def z46 :Ab->Option V
 |.none=>some .non
 |.bool b=>some (.bl b)
 |.int i _=>some (.int i)
 |.str x _=>some (.str x)
 |.bytes b _=>some (.byt b)
 |.float b _=>some (.flt b)
 |.ref a=>some (.ref a)
 |.type n=>some (.ty n)
 |_=>none
theorem RelV.abs {x:V}{u:Ab}(r:RelV x u):z46 u=some x:=by
 cases x with
 |non=>cases r;rfl
 |bl _=>cases r;rfl
 |int _=>obtain⟨t,rfl⟩:=r;rfl
 |str _=>obtain⟨t,rfl⟩:=r;rfl
 |byt _=>obtain⟨t,rfl⟩:=r;rfl
 |flt _=>obtain⟨t,rfl⟩:=r;rfl
 |ref _=>cases r;rfl
 |ty _=>cases r;rfl
def RelV.inj {x y:V}{u:Ab}(r:RelV x u)(q:RelV y u):x=y:=yb5 (r.abs.symm.trans q.abs)
theorem Vals.inj {xs ys:List V}{us:List Ab}(h:Vals xs us)(k:Vals ys us):xs=ys:=by
 induction h generalizing ys with
 |nil=>cases k;rfl
 |cons r _ a=>cases k with
  |cons b t'=>rw[r.inj b,a t']
section
variable {X:Cx}{pins:List (Ad×Obj)}{B:St}{H:Hp}{s:Ac}{a:Ad}{xs ys:List V}
def SqL.of {K:Ae}(h:H a=some (.lst xs)):SqL K H a xs:=.inl (.inl h)
def SqT.of {K:Ae}(h:H a=some (.tup xs)):SqT K H a xs:=.inl (.inl h)
def Inv.list (I:Inv X pins B H s)(h:SqL X.K H a xs):∃b:List Ab,Vals xs b/\PlainL s.heap a b.toArray/\xs.length<=sizeLine:=by
 rcases h with h|⟨o,b,n,hk,f,hd,c,d,r⟩
 .obtain⟨z,b,n,r,e⟩:=h.ok I.hok;exact⟨b,r,⟨_,n,e,rfl,rfl,rfl⟩,z⟩
 .refine⟨b.toList,r,⟨o,n,I.kIn a o hk,f,hd,by simpa using c⟩,?_⟩;have e:=r.length;simp only[yf8]at e;exact z93 (ya2 e) d
def Inv.tuple (I:Inv X pins B H s)(h:SqT X.K H a xs):∃b:List Ab,Vals xs b/\IsTup s.heap a b.toArray/\xs.length<=sizeLine:=by
 rcases h with h|⟨o,b,n,hk,f,c,d,r⟩
 .obtain⟨z,b,r,p⟩:=h.ok I.hok;exact⟨b,r,p,z⟩
 .refine⟨b.toList,r,⟨o,I.kIn a o hk,f,n,by simpa using c⟩,?_⟩;have e:=r.length;simp only[yf8]at e;exact z93 (ya2 e) d
def Inv.list_inj (I:Inv X pins B H s)(h:SqL X.K H a xs)(h':SqL X.K H a ys):xs=ys:=by
 obtain⟨c,r,⟨o,n,e,_,_,d⟩,_⟩:=I.list h;obtain⟨b,g,⟨o',j,f,_,_,d'⟩,_⟩:=I.list h';rw[e]at f;cases f;rw[d]at d';injection d' with i _;have:c=b:=by simpa using congrArg Array.toList i
 subst this;exact r.inj g
def Inv.tuple_inj (I:Inv X pins B H s)(h:SqT X.K H a xs)(h':SqT X.K H a ys):xs=ys:=by
 obtain⟨c,r,⟨o,e,_,n,d⟩,_⟩:=I.tuple h;obtain⟨b,g,⟨o',f,_,j,d'⟩,_⟩:=I.tuple h';rw[e]at f;cases f;rw[d]at d';injection d' with i _;have:c=b:=by simpa using congrArg Array.toList i
 subst this;exact r.inj g
end
noncomputable abbrev Cx.wish (X:Cx)(E:Ab->Ac->Prop):Cx:={X with xe:=E}
noncomputable abbrev Cx.nox (X:Cx):Cx:=X.wish λ_ _=>False
theorem Cx.Ok.wish {X:Cx}(ok:X.Ok)(E:Ab->Ac->Prop):(X.wish E).Ok:=
 ⟨ok.mod,ok.kind,ok.glob,ok.blt,ok.above,ok.inj,ok.has,ok.cab,ok.hd,ok.frames,ok.stk,ok.exf,ok.bs,ok.bsz,ok.noex,ok.exfs,ok.funs,ok.frf⟩
def Cx.Ok.unwish {X:Cx}{E:Ab->Ac->Prop}(ok:(X.wish E).Ok):X.Ok:=
 ⟨ok.mod,ok.kind,ok.glob,ok.blt,ok.above,ok.inj,ok.has,ok.cab,ok.hd,ok.frames,ok.stk,ok.exf,ok.bs,ok.bsz,ok.noex,ok.exfs,ok.funs,ok.frf⟩
section
variable {X:Cx}{pins:List (Ad×Obj)}{B:St}{H:Hp}{s:Ac}{E:Ab->Ac->Prop}
theorem Inv.wish (I:Inv X pins B H s)(E:Ab->Ac->Prop):Inv (X.wish E) pins B H s:=⟨I.ok.wish E,I.os,I.bare,I.base,I.loc,I.cell,I.free,I.freeC,I.pin,I.hok,I.len⟩
theorem Inv.unwish (I:Inv (X.wish E) pins B H s):Inv X pins B H s:=⟨I.ok.unwish,I.os,I.bare,I.base,I.loc,I.cell,I.free,I.freeC,I.pin,I.hok,I.len⟩
theorem SP.unwish {D:Ends}{f:Flow}{s':Ac}(h:SP (X.wish E) pins D f s'):SP X pins D f s':=by
 cases f with
 |next=>obtain⟨a,H',I,q⟩:=h;exact⟨a,H',I.unwish,q⟩
 |brk=>obtain⟨a,H',I,q⟩:=h;exact⟨a,H',I.unwish,q⟩
 |cont=>obtain⟨a,H',I,q⟩:=h;exact⟨a,H',I.unwish,q⟩
 |ret u=>obtain⟨v,a,H',I,r,q⟩:=h;exact⟨v,a,H',I.unwish,r,q⟩
theorem PSs.nox {st:List An}{t:TS}(h:PSs X.nox st t):PSs X st t:=λpins s B H D I hw=>
 ye0 (h pins s B H D (I.wish _) hw) (λ_ _ q=>q.unwish) λ_ _ z=>False.elim z
end
section
variable {X:Cx}{st:An}{rest:List An}{t u:TS}{e:Al}{te:TE}{pos:Pos}
def zT2 :TS:=λD B H=>D.nx B H
def zR5 (t u:TS):TS:=λD B H=>t {D with nx:=u D} B H
def ox :PSs X [] zT2:=λ_ _ B H _ I h=>yt1 ⟨B,H,I,h⟩
theorem zE (h1:PS X st t)(h2:PSs X rest u):PSs X (st::rest) (zR5 t u):=by
 intro pins s B H D I h;refine wpAny_execs_cons (thn (h1 pins s B H {D with nx:=u D} I h) λf s1 q=>?_);cases f with
 |next=>
  obtain⟨a,H',b,q⟩:=q;exact h2 pins s1 a H' D b q
 |ret v=>exact q
 |brk=>exact q
 |cont=>exact q
theorem wG (h1:PS X st t):PSs X [st] t:=by
 intro pins s B H D I h;refine wpAny_execs_cons (thn (h1 pins s B H D I h) λf s1 q=>?_);cases f with
 |next=>exact yt1 q
 |ret v=>exact q
 |brk=>exact q
 |cont=>exact q
def Inv.quiet {pins:List (Ad×Obj)}{B:St}{H:Hp}{s:Ac}(I:Inv X pins B H s):interactive X.env=false:=by simp[interactive,I.ok.kind]
def zY8 (te:TE):TS:=λD B H=>te B H λ_ H1=>D.nx B H1
def nE (he:PE X e te)(c:swapsWith e none pos.line X.env=pure false:=by rfl):PS X (.Expr e pos) (zY8 te):=by
 intro pins s B H D I h;exact wpAny_Expr_any (thn (he pins s B H _ I h) λv s1 a=>by obtain⟨x,H1,b,f,d⟩:=a;exact⟨B,H1,b,d⟩) I.quiet c
def z61 (te:TE):TS:=λD B H=>te B H D.rt
def vZ (he:PE X e te):PS X (.Return (some e) pos) (z61 te):=by
 intro pins s B H D I h;exact wpAny_Return_some (thn (he pins s B H _ I h) λv s1 a=>by obtain⟨x,H1,b,c,d⟩:=a;exact⟨x,B,H1,b,c,d⟩)
def z53 (c:TT)(t u:TS):TS:=λD B H=>c B H λb H1=>if b=true then t D B H1 else u D B H1
theorem zi3 {c:Al}{a b:List An}{g:TT}(k:PT X c g)(ha:PSs X a t)(hb:PSs X b u):PS X (.If c a b pos) (z53 g t u):=by
 intro pins s B H D I h;refine wpAny_If (thn (k pins s B H _ I h) λd s1 f=>?_);obtain⟨H1,j,i⟩:=f;cases d with
 |true=>exact ha pins s1 B H1 D j i
 |false=>exact hb pins s1 B H1 D j i
end
abbrev TG :=V->St->Hp->(St->Hp->Prop)->Prop
abbrev TGs :=List V->St->Hp->(St->Hp->Prop)->Prop
def PG (X:Cx)(target:Al)(t:TG):Prop:=
 ∀(pins:List (Ad×Obj)) (s:Ac) (B:St) (H:Hp) (v:V) (u:Ab) (Q:St->Hp->Prop),Inv X pins B H s->RelV v u->t v B H Q->
  Aj (Ah X.prog X.w) X.A (assign target X.env u) (λ_ s'=>∃a H',Inv X pins a H' s'/\Q a H') X.xe s
def PGs (X:Cx)(b:List Al)(t:TGs):Prop:=
 ∀(pins:List (Ad×Obj)) (s:Ac) (B:St) (H:Hp) (vs:List V) (us:List Ab) (Q:St->Hp->Prop),Inv X pins B H s->Vals vs us->t vs B H Q->
  Aj (Ah X.prog X.w) X.A (assignInOrder ((assignEach b X.env).map (·.2)) us) (λ_ s'=>∃a H',Inv X pins a H' s'/\Q a H') X.xe s
abbrev zH5 :=V->V->V->Hp->(Hp->Prop)->Prop
def zU7 (X:Cx)(t:zH5):Prop:=
 ∀(pins:List (Ad×Obj)) (s:Ac) (B:St) (H:Hp) (o i v:V) (b a u:Ab) (Q:Hp->Prop),Inv X pins B H s->RelV o b->RelV i a->RelV v u->t o i v H Q->
  Aj (Ah X.prog X.w) X.A (setItem b a u) (λ_ s'=>∃H',Inv X pins B H' s'/\Q H') X.xe s
section
variable {X:Cx}{pos:Pos}
def qT (i:Nat):TG:=λv B H Q=>Q (B.set i (some v)) H
def zQ {i:Nat}{x:Str}(b:X.N.Nodup)(hi:X.N[i]?=some x)(c:Loc X.env.scope x)(hf:X.fn x=true\/X.env.scope.names.lookup x=some .local:=by first|exact .inl rfl|exact .inr rfl|assumption):PG X (.Name x pos) (qT i):=by
 intro pins s B H v u Q I r h;exact wpAny_assign_Name (nR I b hi c r (λs' a=>⟨_,H,a,h⟩) hf)
def zH2 :TGs:=λvs B H Q=>vs=[]/\Q B H
def gO (t:TG)(u:TGs):TGs:=λvs B H Q=>∃v r,vs=v::r/\t v B H λa H'=>u r a H' Q
def uL :PGs X [] zH2:=by
 intro pins s B H vs us Q I r h;obtain⟨e,h⟩:=h;subst e;cases r;exact assignInOrder_nil ⟨B,H,I,h⟩
theorem xo {e:Al}{es:List Al}{t:TG}{u:TGs}(h1:PG X e t)(h2:PGs X es u)
  (g:(assignEach (e::es) X.env).map (·.2)=assign e X.env::(assignEach es X.env).map (·.2):=by rfl):PGs X (e::es) (gO t u):=by
 intro pins s B H vs us Q I r h;obtain⟨v,i,e1,h⟩:=h;subst e1;cases r with
 |cons r f=>
  rw[g];refine assignInOrder_cons (thn (h1 pins s B H _ _ _ I r h) λ_ s1 a=>?_);obtain⟨b,H1,d,c⟩:=a;exact h2 pins s1 b H1 _ _ Q d f c
def aE (K:Ae)(n:Nat)(t:TGs):TG:=λv B H Q=>∃a xs,v=.ref a/\SqT K H a xs/\xs.length=n/\t xs B H Q
def zM7 {es:List Al}{k:Nat}{t:TGs}{n:Nat}(l:X.calm=true)(h:PGs X es t)
  (hn:(assignEach es X.env).length=n:=by rfl) (c:(assignEach es X.env).findIdx? (·.1)=none:=by rfl):PG X (.Tuple es k pos) (aE X.K n t):=by
 intro pins s B H v u Q I r hw;obtain⟨a,xs,e1,hq,f,hw⟩:=hw;subst e1;cases r;obtain⟨g,d,j,m⟩:=I.tuple hq;refine assign_Tuple_tuple (I.ok.hd l) j (by simp[hn,<-f,d.length]) c λh' i=>?_;exact h pins _ B H xs _ Q (I.kept λb o e=>i b o (z96 (z90 e)) e) (by simpa using d) hw
def z23 (to ti:TE)(t:zH5):TG:=λv B H Q=>to B H λo H1=>ti B H1 λi a=>t o i v a λb=>Q B b
def jN {o i:Al}{to ti:TE}{t:zH5}(m:PE X o to)(hi:PE X i ti)(k:zU7 X t)
  (ha:∀v,assign (.Subscript o i pos) X.env v=(do
   let a <-holding [v] (eval o X.env)
   let e <-holding [v,a] (eval i X.env)
   standAt pos
   holding [v,a,e] (setItem a e v)
   release [v,a,e] []):=by intro _;rfl):PG X (.Subscript o i pos) (z23 to ti t):=by
 intro pins s B H v u Q I r h;rw[ha];refine z76 (yd5 (thn (m pins s B H _ I h) λa s1 c=>?_));obtain⟨x,H1,A,j,w⟩:=c;refine z76 (yd5 (thn (hi pins s1 B H1 _ A w) λe s2 b=>?_));obtain⟨y,g,f,l,q⟩:=b;refine z76 (wpAny_standAt (z76 (yd5 (thn (k pins s2 B g x y v a e u _ f j l r q) λ_ s3 d=>?_))));obtain⟨p,z,n⟩:=d;exact wpAny_release ⟨B,p,z,n⟩
def zQ8 (a:TE)(g:TG):TS:=λD B H=>a B H λx H1=>g x B H1 D.nx
def oF {tg e:Al}{b:TE}{g:TG}(he:PE X e b)(hg:PG X tg g)(i:swapsWithSole [tg] e pos.line X.env=pure false:=by rfl)(hw:swappedStores [tg] e X.env=pure none:=by rfl)
  (h1:(assignEach [tg] X.env).map (·.2)=[assign tg X.env]:=by rfl):PS X (.Assign [tg] e pos) (zQ8 b g):=by
 intro pins s B H D I h;refine wpAny_Assign_stores (thn (he pins s B H _ I h) λv s1 a=>?_) i hw;obtain⟨x,H1,f,c,d⟩:=a;rw[h1];exact thn (hg pins s1 B H1 x v _ f c d) λ_ s2 q=>q
def wB {i:Nat}{x:Str}{e:Al}{b:TE}{pos':Pos}(g:X.N.Nodup)(hi:X.N[i]?=some x)(k:Loc X.env.scope x)(he:PE X e b)(l:swapsWith e (some (.Name x pos')) pos.line X.env=pure false:=by rfl)(hf:X.fn x=true\/X.env.scope.names.lookup x=some .local:=by first|exact .inl rfl|exact .inr rfl|assumption):
  PS X (.Assign [.Name x pos'] e pos) (zQ8 b (qT i)):=by
 intro pins s B H D I h;refine wpAny_Assign_Name (thn (he pins s B H _ I h) λv s1 a=>?_) l;obtain⟨y,H1,j,d,f⟩:=a;exact nR j g hi k d (λs2 c=>⟨_,H1,c,f⟩) hf
end
section
variable {X:Cx}{pos:Pos}
def zH1 (c:TT)(e:TS):TS:=λD B H=>∃W:Nat->St->Hp->Prop,(∃m,W m B H)/\∀m B H,W m B H->
 c B H λb H1=>if b=true then ∃N:St->Hp->Prop,(∀a H',N a H'->∃d,d<m/\W d a H')/\e {D with nx:=N,ct:=N,bk:=D.nx} B H1 else D.nx B H1
theorem ka {c:Al}{body:List An}{t:TT}{y:TS}(u:PassesOwn (Ah X.prog X.w) X.A X.env X.xe)(E:PT X c t)(hb:PSs X body y):PS X (.While c body [] pos) (zH1 t y):=by
 intro pins s B H D I h;obtain⟨W,⟨m0,z⟩,turn⟩:=h;refine wpAny_While (codeAny_whileLoop (λn s'=>∃e H',Inv X pins e H' s'/\W n e H') ?_ m0 ⟨B,H,I,z⟩);rintro n s1 ⟨d,H1,F,C⟩;refine ym7 u (thn (E pins s1 d H1 _ F (turn n d H1 C)) λb s2 i=>?_);obtain⟨r,q,k⟩:=i;cases b with
 |true=>
  obtain⟨N,x,k⟩:=k;rw[if_pos rfl];refine ym7 u (thn (hb pins s2 d r _ q k) λf s3 j=>?_);cases f with
  |next=>
   obtain⟨a,g,o,l⟩:=j;obtain⟨m,hm,p⟩:=x a g l;exact⟨m,hm,a,g,o,p⟩
  |cont=>
   obtain⟨a,g,o,l⟩:=j;obtain⟨m,hm,p⟩:=x a g l;exact⟨m,hm,a,g,o,p⟩
  |brk=>exact j
  |ret v=>exact j
 |false=>
  rw[if_neg yb0];exact yt1 ⟨d,r,q,k⟩
end
structure It where
 go:Nat->Hp->Prop
 yld:Nat->Hp->V->Hp->Prop
 stop:Nat->Hp->Prop
def xq (X:Cx)(pins:List (Ad×Obj))(H:Hp)(b:Ad):Prop:=
 H b=none/\b≠X.env.locals/\b∉X.fs/\(b∈X.ex\/X.s₀.heap.objs.size<=b)/\(∀x c,X.env.cells.lookup x=some c->c≠b)/\∀p∈X.pn++pins,p.1≠b
def Inv.fpOk {X:Cx}{pins:List (Ad×Obj)}{B:St}{H H':Hp}{s:Ac}{b:Ad}(I:Inv X pins B H s)(hb:s.heap.objs.size<=b)(hn:H' b=none):xq X pins H' b:=by
 refine⟨hn,yk4 (z83 I.lt hb),I.nofs hb,.inr (z93 I.sz hb),λx c e z=>?_,λp a z=>?_⟩
 .obtain⟨v,q⟩:=I.cell x c e;exact absurd (z83 q.lt (by rw[z];exact hb)) (yd4 _)
 .exact absurd (z83 (z90 (I.pin p a).1) (by rw[z];exact hb)) (yd4 _)
structure Turn (P:Ag)(w:Ak)(K:Ae)(tg:Al)(J:It)(fp:List Ad)(it:Ad)(tn:Nat->Ao->Prop):Prop where
 mem:it∈fp
 obj:∀i h,tn i h->∀b∈fp,∃o,h.get? b=some o/\∀v,o.data≠.cell v
 keep:∀i h h',tn i h->(∀b∈fp,∀o,h.get? b=some o->h'.get? b=some o)->tn i h'
 item:∀(X:Cx),X.prog=P->X.w=w->X.K=K->X.calm=true->∀(i:Nat) (pins:List (Ad×Obj)) (s:Ac) (B:St) (H:Hp) (E:Ab->Ac->Prop),Inv X pins B H s->(∀b∈fp,xq X pins H b)->tn i s.heap->J.go i H->
  Aj (Ah P w) X.A (pyNext (.ref it)) (λr s1=>∃u,r=some u/\
   Aj (Ah P w) X.A (letOwnedTupleGo tg (.ref it) u) (λ_ s2=>∃x H',Inv X pins B H' s2/\RelV x u/\J.yld i H x H'/\tn (i+1) s2.heap/\∀b∈fp,H' b=none) E s1) E s
 done:∀(X:Cx),X.prog=P->X.w=w->X.K=K->X.calm=true->∀(i:Nat) (pins:List (Ad×Obj)) (s:Ac) (B:St) (H:Hp) (E:Ab->Ac->Prop),Inv X pins B H s->(∀b∈fp,xq X pins H b)->tn i s.heap->J.stop i H->
  Aj (Ah P w) X.A (pyNext (.ref it)) (λr s1=>r=none/\Inv X pins B H s1) E s
 self:∀(A:Am) (i:Nat) (s:Ac) (Q:Ab->Ac->Prop) (E:Ab->Ac->Prop),tn i s.heap->Q (.ref it) s->Aj (Ah P w) A (pyIter (.ref it)) Q E s
abbrev TI :=St->Hp->(It->Hp->Prop)->Prop
def PIE (X:Cx)(pins:List (Ad×Obj))(B:St)(tg:Al)(R:It->Hp->Prop)(a:Ab)(s2:Ac):Prop:=
 ∃(it:Ad) (fp:List Ad) (tn:Nat->Ao->Prop) (J:It) (H':Hp),a=.ref it/\Inv X pins B H' s2/\Turn X.prog X.w X.K tg J fp it tn/\tn 0 s2.heap/\(∀b∈fp,xq X pins H' b)/\R J H'
def PI (X:Cx)(tg iter:Al)(a:TI):Prop:=
 ∀(pins:List (Ad×Obj)) (s:Ac) (B:St) (H:Hp) (R:It->Hp->Prop),Inv X pins B H s->a B H R->
  Aj (Ah X.prog X.w) X.A (eval iter X.env) (λv s1=>Aj (Ah X.prog X.w) X.A (pyIter v) (PIE X pins B tg R) X.xe s1) X.xe s
def qf {M:Model}{A:Am}{E:Ab->Ac->Prop}{s:Ac}{tg:Al}{it:Ad}{u:Ab}{o:Obj}{n:String}{vs:Array Ab}{Q:Unit->Ac->Prop}(b:s.heap.get? it=some o)(c:o.cls=.type n)(hd:o.data=.fields vs)
  (hn:["enumerate","zip","dict_itemiterator","dict_reverseitemiterator","odict_iterator","itertools.zip_longest","itertools.pairwise"].contains n=false) (a:Q () s):Aj M A (letOwnedTupleGo tg (.ref it) u) Q E s:=by
 unfold letOwnedTupleGo;cases tg<;>first
  |exact z80 a
  |(cases u<;>first
    |exact z80 a
    |(refine z76 (wpAny_load b ?_)
      rw[c,hd];show Aj M A (if(["enumerate","zip","dict_itemiterator","dict_reverseitemiterator","odict_iterator","itertools.zip_longest","itertools.pairwise"].contains n&&vs[0]? == some (rawInt _))=true then _ else _) Q E s;rw[if_neg (by intro h;rw[hn,yl8]at h;cases h)];exact z80 a))
def Itl (K:Ae)(a:Ad):It:=
 ⟨λi H=>∃xs x,SqL K H a xs/\xs[i]?=some x,λi H x H'=>H'=H/\∀xs,SqL K H a xs->xs[i]?=some x,λi H=>∃xs,SqL K H a xs/\xs.length<=i⟩
def Itt (K:Ae)(a:Ad):It:=
 ⟨λi H=>∃xs x,SqT K H a xs/\xs[i]?=some x,λi H x H'=>H'=H/\∀xs,SqT K H a xs->xs[i]?=some x,λi H=>∃xs,SqT K H a xs/\xs.length<=i⟩
def Itr (lo:Int)(n:Nat):It:=⟨λi _=>i<n,λi H x H'=>H'=H/\x=.int (lo+i),λi _=>n<=i⟩
noncomputable def dP {P:Ag}{w:Ak}{K:Ae}{tg:Al}(a it:Ad):Turn P w K tg (Itl K a) [it] it (λi h=>h.IsListIter it a i) where
 mem:=by simp
 obj:=λi h st b hb=>by
  have e:b=it:=by simpa using hb
  subst e;obtain⟨o,e,c,d⟩:=st;exact⟨o,e,λv z=>by rw[d]at z;cases z⟩
 keep:=λi h h' st k=>st.at λo e=>k it (by simp) o e
 item:=by
  intro X g hw l r i pins s B H E I hf st hg;subst g hw l;obtain⟨xs,x,hq,f⟩:=hg;obtain⟨j,m,p,A⟩:=I.list hq;obtain⟨u,t,y⟩:=m.get f;obtain⟨f0,f1,f2,n,f4,q⟩:=hf it (by simp);refine wpAny_pyNext_list_item st p.isList (by simpa using t) λh' st' sb=>?_;obtain⟨o,e,c,d⟩:=id st';exact⟨u,rfl,qf e c d (by decide) ⟨x,H,(I.turned (λb o hb e=>(sb.2 b hb).trans e) f0 f1 n f4 q),y,⟨rfl,λys hy=>by rw[I.list_inj hy hq];exact f⟩,st',λb hb=>(hf b hb).1⟩⟩
 done:=by
  intro X g hw l r i pins s B H E I hf st hg;subst g hw l;obtain⟨xs,hq,f⟩:=hg;obtain⟨j,m,p,A⟩:=I.list hq;obtain⟨f0,f1,f2,n,f4,q⟩:=hf it (by simp);exact wpAny_pyNext_list_end (I.ok.hd r) st p.isList (by simp;exact z93 (ya2 m.length.symm) f) λh' C=>⟨rfl,I.turned (λb o hb e=>C b o hb e) f0 f1 n f4 q⟩
 self:=λ_ _ _ _ _ st h=>wpAny_pyIter_listiter st h
def ji {P:Ag}{w:Ak}{K:Ae}{tg:Al}(a it:Ad):Turn P w K tg (Itt K a) [it] it (λi h=>h.IsTupleIter it a i) where
 mem:=by simp
 obj:=λi h st b hb=>by
  have e:b=it:=by simpa using hb
  subst e;obtain⟨o,e,c,d⟩:=st;exact⟨o,e,λv z=>by rw[d]at z;cases z⟩
 keep:=λi h h' st k=>st.at λo e=>k it (by simp) o e
 item:=by
  intro X g hw l r i pins s B H E I hf st hg;subst g hw l;obtain⟨xs,x,hq,f⟩:=hg;obtain⟨j,m,p,A⟩:=I.tuple hq;obtain⟨u,t,y⟩:=m.get f;obtain⟨f0,f1,f2,n,f4,q⟩:=hf it (by simp);refine wpAny_pyNext_tuple_item st (p) (by simpa using t) λh' st' sb=>?_;obtain⟨o,e,c,d⟩:=id st';exact⟨u,rfl,qf e c d (by decide) ⟨x,H,(I.turned (λb o hb e=>(sb.2 b hb).trans e) f0 f1 n f4 q),y,⟨rfl,λys hy=>by rw[I.tuple_inj hy hq];exact f⟩,st',λb hb=>(hf b hb).1⟩⟩
 done:=by
  intro X g hw l r i pins s B H E I hf st hg;subst g hw l;obtain⟨xs,hq,f⟩:=hg;obtain⟨j,m,p,A⟩:=I.tuple hq;obtain⟨f0,f1,f2,n,f4,q⟩:=hf it (by simp);exact wpAny_pyNext_tuple_end (I.ok.hd r) st (p) (by simp;exact z93 (ya2 m.length.symm) f) λh' C=>⟨rfl,I.turned (λb o hb e=>C b o hb e) f0 f1 n f4 q⟩
 self:=λ_ _ _ _ _ st h=>wpAny_pyIter_tupleiter st h
def kZ {P:Ag}{w:Ak}{K:Ae}{tg:Al}(it:Ad)(lo:Int)(n:Nat):Turn P w K tg (Itr lo n) [it] it (λi h=>IsRangeIter h it (lo+(i:Nat)*1) ((n:Int)-(i:Nat)) 1) where
 mem:=by simp
 obj:=λi h st b hb=>by
  have e:b=it:=by simpa using hb
  subst e;exact⟨_,st,λv z=>by
   have q:=z;cases q⟩
 keep:=λi h h' st k=>k it (by simp) _ st
 item:=by
  intro X a hw c d i pins s B H E I hf st hg;subst a hw c;obtain⟨f0,f1,f2,g,f4,f⟩:=hf it (by simp);refine(Walks.range (I.ok.hd d) it lo 1 n).item i s _ _ hg st λv h' j m st' p=>?_;obtain⟨t,rfl⟩:=m;have r:Inv X pins B H {s with heap:=h',toks:=j}:=I.turned (λb o hb e=>p b o (by simpa using hb) e) f0 f1 g f4 f;refine⟨_,rfl,qf st' rfl rfl (by decide) ⟨.int (lo+i),H,r,⟨t,?_⟩,⟨rfl,rfl⟩,st',λb hb=>(hf b hb).1⟩⟩;rw[Int.mul_one]
 done:=by
  intro X a hw c d i pins s B H E I hf st hg;subst a hw c;obtain⟨f0,f1,f2,g,f4,f⟩:=hf it (by simp);exact wpAny_pyNext_range_end (I.ok.hd d) st (by have:n<=i:=hg;exact zW3 this) λh' l=>⟨rfl,I.turned (λb o hb e=>l b o hb e) f0 f1 g f4 f⟩
 self:=λ_ _ _ _ _ st h=>wpAny_pyIter_rangeiter st h
section
variable {X:Cx}{tg:Al}
def zU8 (K:Ae)(b:TE):TI:=λB H R=>b B H λx H1=>∃a,x=.ref a/\(∃xs,SqL K H1 a xs)/\R (Itl K a) H1
def z48 (K:Ae)(b:TE):TI:=λB H R=>b B H λx H1=>∃a,x=.ref a/\(∃xs,SqT K H1 a xs)/\R (Itt K a) H1
def iL {l:Al}{f:TE}(i:PE X l f):PI X tg l (zU8 X.K f):=by
 intro pins s B H R I h;refine thn (i pins s B H _ I h) λv s1 c=>?_;obtain⟨x,H1,d,j,k⟩:=c;obtain⟨a,e,⟨xs,hq⟩,q⟩:=k;subst e;cases j;obtain⟨g,m,p,n⟩:=d.list hq;refine yh9 p.isList ⟨s1.heap.objs.size,[s1.heap.objs.size],_,_,H1,rfl,d.kept λb o e=>z79 _ e,dP a _,⟨_,z86 _ rfl,rfl,rfl⟩,λb hb=>?_,q⟩;have e:b=s1.heap.objs.size:=by simpa using hb
 subst e;exact d.fpOk (z82 _) (d.hok.fresh (z82 _))
def zI8 {l:Al}{f:TE}(i:PE X l f):PI X tg l (z48 X.K f):=by
 intro pins s B H R I h;refine thn (i pins s B H _ I h) λv s1 c=>?_;obtain⟨x,H1,d,j,k⟩:=c;obtain⟨a,e,⟨xs,hq⟩,q⟩:=k;subst e;cases j;obtain⟨g,m,p,n⟩:=d.tuple hq;refine wpAny_pyIter_tuple (p) ⟨s1.heap.objs.size,[s1.heap.objs.size],_,_,H1,rfl,d.kept λb o e=>z79 _ e,ji a _,⟨_,z86 _ rfl,rfl,rfl⟩,λb hb=>?_,q⟩;have e:b=s1.heap.objs.size:=by simpa using hb
 subst e;exact d.fpOk (z82 _) (d.hok.fresh (z82 _))
def mn {pins:List (Ad×Obj)}{B:St}{H:Hp}{s:Ac}{R:It->Hp->Prop}{E:Ab->Ac->Prop}{lo hi:Int}{t u v:Tok}{c:Nat}(I:Inv X pins B H s)(h1:-(2 ^ 62)<=lo)(h2:lo<2 ^ 62)(h3:-(2 ^ 62)<=hi)(d:hi<2 ^ 62)
  (q:R (Itr lo (hi-lo).toNat) H):Aj (Ah X.prog X.w) X.A (pyIter (.ref s.heap.objs.size)) (PIE X pins B tg R) E {s with heap:=s.heap.push {cls:=.type "range",data:=.fields #[.int lo t,.int hi u,.int 1 v]},toks:=c}:=by
 refine wpAny_pyIter_range (IsRange.new ..) (small_one h1 h2 h3 d) ?_;have a:Inv X pins B H {s with heap:=s.heap.push {cls:=.type "range",data:=.fields #[.int lo t,.int hi u,.int 1 v]},toks:=c}:=I.kept λb o e=>z79 _ e;refine⟨(s.heap.push {cls:=.type "range",data:=.fields #[.int lo t,.int hi u,.int 1 v]}).objs.size,[(s.heap.push {cls:=.type "range",data:=.fields #[.int lo t,.int hi u,.int 1 v]}).objs.size],_,_,H,rfl,
  a.kept λb o e=>z79 _ e,kZ _ lo (hi-lo).toNat,?_,λb hb=>?_,q⟩
 .have e1:lo+((0:Nat):Int)*1=lo:=by simp
  have f:(((hi-lo).toNat:Nat):Int)-((0:Nat):Int)=Builtin.Range.rangeSize lo hi 1:=by rw[rangeSize_one];split<;>lia
  rw[e1,f];exact z86 _ rfl
 .have e:b=(s.heap.push {cls:=.type "range",data:=.fields #[.int lo t,.int hi u,.int 1 v]}).objs.size:=by simpa using hb
  subst e;exact a.fpOk (z82 _) (a.hok.fresh (z82 _))
def zU0 (a:TA):TI:=λB H R=>a B H λvs H1=>∃j:Int,vs=[.int j]/\-(2 ^ 62)<=j/\j<2 ^ 62/\R (Itr 0 j.toNat) H1
def zU3 (a:TA):TI:=λB H R=>a B H λvs H1=>∃i j:Int,vs=[.int i,.int j]/\(-(2 ^ 62)<=i/\i<2 ^ 62/\-(2 ^ 62)<=j/\j<2 ^ 62)/\R (Itr i (j-i).toNat) H1
theorem fj {a:Al}{d:TA}{p pos:Pos}(hg:Gl X "range")(hm:X.mg "range"=none)(ha:PA X [a] d)(l:Af [a] X.env=[(false,eval a X.env)]:=by rfl):PI X tg (.Call (.Name "range" p) [a] [] pos) (zU0 d):=by
 intro pins s B H R I h;refine Call_ (yZ I hg hm boot_range (yc9 (thn (ha pos pins s B H _ I h) λus s1 b=>?_) l rfl));obtain⟨vs,H1,i,f,c⟩:=b;obtain⟨j,e,c,g,q⟩:=c;subst e;cases f with
 |cons r k=>
  cases k;obtain⟨t,rfl⟩:=r;exact call_range_1 (mn i (by decide) (by decide) c g (by simpa using q))
theorem fA {a b:Al}{g:TA}{p pos:Pos}(hg:Gl X "range")(hm:X.mg "range"=none)(ha:PA X [a,b] g)(m:Af [a,b] X.env=[(false,eval a X.env),(false,eval b X.env)]:=by rfl)(c:Af [b] X.env=[(false,eval b X.env)]:=by rfl):
  PI X tg (.Call (.Name "range" p) [a,b] [] pos) (zU3 g):=by
 intro pins s B H R I h;refine Call_ (yZ I hg hm boot_range (yc9 (thn (ha pos pins s B H _ I h) λus s1 ⟨vs,H1,v,k,f⟩=>?_) (by rw[m,c]) (by rw[c];rfl)));obtain⟨i,j,e,⟨f,u,n,o⟩,q⟩:=f;subst e;cases k with
 |cons r d=>
  cases d with
  |cons l d=>
   cases d;obtain⟨t,rfl⟩:=r;obtain⟨t',rfl⟩:=l;exact call_range_2 (mn v f u n o q)
def z47 (c:TI)(g:TG)(e:TS):TS:=λD B H=>c B H λJ H1=>∃W:Nat->Nat->St->Hp->Prop,(∃m,W 0 m B H1)/\∀i m B H,W i m B H->
 (J.stop i H/\D.nx B H)\/(J.go i H/\∃N:St->Hp->Prop,(∀a H',N a H'->∃b,b<m/\W (i+1) b a H')/\∀x H',J.yld i H x H'->g x B H' λσ2 d=>e {D with nx:=N,ct:=N,bk:=D.nx} σ2 d)
noncomputable def qc (fp:List Ad)(h:Ao):List (Ad×Obj):=fp.filterMap λb=>(h.get? b).map λo=>(b,o)
def wy {fp:List Ad}{h:Ao}{b:Ad}{o:Obj}(hb:b∈fp)(e:h.get? b=some o):(b,o)∈qc fp h:=yu1.mpr ⟨b,hb,by rw[e];rfl⟩
theorem dM {fp:List Ad}{h:Ao}{p:Ad×Obj}(a:p∈qc fp h):p.1∈fp/\h.get? p.1=some p.2:=by
 obtain⟨b,hb,e⟩:=yu1.mp a;cases q:h.get? b with
 |none=>rw[q]at e;cases e
 |some o=>
  rw[q]at e;have c:=yb5 e;subst c;exact⟨hb,q⟩
def Inv.pinned {pins:List (Ad×Obj)}{B:St}{H:Hp}{s:Ac}{fp:List Ad}(I:Inv X pins B H s)(hf:∀b∈fp,xq X pins H b)(f:∀b∈fp,∃o,s.heap.get? b=some o/\∀v,o.data≠.cell v):Inv X (pins++qc fp s.heap) B H s:=
 I.pins_of λp c=>(ya8.mp c).elim (λz=>I.pin p (ya4 _ z)) λz=>by
  obtain⟨hb,e⟩:=dM z;obtain⟨f0,f1,f2,_⟩:=hf p.1 hb;obtain⟨o,a,d⟩:=f p.1 hb;rw[e]at a;cases a;exact⟨e,f0,f1,f2,d⟩
def Inv.unpinned {pins b:List (Ad×Obj)}{B:St}{H:Hp}{s:Ac}(I:Inv X (pins++b) B H s):Inv X pins B H s:=I.pins_of λp a=>I.pin p (ya4 _ (yb3 _ a))
def zO5 {iter:Al}{body:List An}{Y:TI}{g:TG}{U:TS}{pos:Pos}(z:PassesOwn (Ah X.prog X.w) X.A X.env X.xe)(V:X.calm=true)(hi:PI X tg iter Y)(hg:PG X tg g)(hb:PSs X body U)
  (hs:∀x,foldedSetIterable iter X.env x=pure x:=by intro _;rfl):PS X (.For tg iter body [] pos) (z47 Y g U):=by
 intro pins s B H D I h;refine wpAny_For (thn (hi pins s B H _ I h) λv s1 h1=>thn h1 λa0 s2 h2=>?_) hs;obtain⟨it,fp,tn,J,H2,e,I2,T,Q,f2,W,⟨m0,w0⟩,turn⟩:=h2;subst e
 -- what stays true of the iterator's objects through the loop
 have c:∀{H':Hp},(∀b∈fp,H' b=none)->∀b∈fp,xq X pins H' b:=λhn b hb=>⟨hn b hb,(f2 b hb).2⟩;refine codeAny_forLoop_any (λn s'=>∃i k H',Inv X pins k H' s'/\tn i s'.heap/\(∀b∈fp,H' b=none)/\W i n k H') ?_ m0 ⟨0,B,H2,I2,Q,λb hb=>(f2 b hb).1,w0⟩;rintro n s3 ⟨i,j,M,Z,C,K,w3⟩;rcases turn i n j M w3 with⟨stop,qn⟩|⟨go,N,hN,step⟩
 .refine ym7 z (thn (T.done X rfl rfl rfl V i pins s3 j M X.xe Z (c K) C stop) λr s4 E=>?_);obtain⟨hr,I4⟩:=E;subst hr;exact yt1 ⟨j,M,I4,qn⟩
 .refine ym7 z (thn (T.item X rfl rfl rfl V i pins s3 j M X.xe Z (c K) C go) λr s4 F=>?_);obtain⟨u,hr,h4⟩:=F;subst hr;refine ym7 z (thn h4 λ_ s5 G=>?_);obtain⟨x,S,I5,r5,y5,t,R⟩:=G;refine ym7 z (thn (hg _ s5 j S x u _ (I5.pinned (c R) (T.obj _ _ t)) r5 (step x S y5)) λ_ s6 y=>?_);obtain⟨P,H6,I6,q6⟩:=y;refine ym7 z (thn (hb _ s6 P H6 _ I6 q6) λf O q=>?_);have again:∀{a:St} {p:Hp},Inv X (pins++qc fp s5.heap) a p O->N a p->∃m,m<n/\∃i k H',Inv X pins k H' O/\tn i O.heap/\(∀b∈fp,H' b=none)/\W i m k H':=λ{a p} l L=>by
   obtain⟨m',hm,w7⟩:=hN a p L;refine⟨m',hm,i+1,a,p,l.unpinned,T.keep _ _ _ t λb hb o e=>(l.pin (b,o) (ya4 _ (ya4 _ (wy hb e)))).1,λb hb=>?_,w7⟩;obtain⟨o,e,d⟩:=T.obj _ _ t b hb;exact(l.pin (b,o) (ya4 _ (ya4 _ (wy hb e)))).2.1
  cases f with
  |next=>obtain⟨a,p,l,L⟩:=q;exact again l L
  |cont=>obtain⟨a,p,l,L⟩:=q;exact again l L
  |brk=>obtain⟨a,p,l,q⟩:=q;exact⟨a,p,l.unpinned,q⟩
  |ret v=>obtain⟨x7,a,p,l,r7,q⟩:=q;exact⟨x7,a,p,l.unpinned,r7,q⟩
end
abbrev R2 :=V->V->Hp->VK->Prop
def OpR (X:Cx)(f:Ab->Ab->Sem Ab)(r:R2):Prop:=
 ∀(pins:List (Ad×Obj)) (s:Ac) (B:St) (H:Hp) (x y:V) (v u:Ab) (Q:VK),Inv X pins B H s->RelV x v->RelV y u->r x y H Q->
  Aj (Ah X.prog X.w) X.A (f v u) (EP X pins B Q) X.xe s
def UnR (X:Cx)(f:Ab->Sem Ab)(r:V->Hp->VK->Prop):Prop:=
 ∀(pins:List (Ad×Obj)) (s:Ac) (B:St) (H:Hp) (x:V) (v:Ab) (Q:VK),Inv X pins B H s->RelV x v->r x H Q->
  Aj (Ah X.prog X.w) X.A (f v) (EP X pins B Q) X.xe s
def yP (X:Cx)(f:Ab)(r:List V->Hp->VK->Prop):Prop:=
 ∀(pins:List (Ad×Obj)) (s:Ac) (B:St) (H:Hp) (xs:List V) (us:List Ab) (Q:VK),Inv X pins B H s->Vals xs us->r xs H Q->
  Aj (Ah X.prog X.w) X.A (call f us) (EP X pins B Q) X.xe s
def z32 (X:Cx)(r:V->Hp->(Bool->Hp->Prop)->Prop):Prop:=
 ∀(pins:List (Ad×Obj)) (s:Ac) (B:St) (H:Hp) (x:V) (v:Ab) (Q:Bool->Hp->Prop),Inv X pins B H s->RelV x v->r x H Q->
  Aj (Ah X.prog X.w) X.A (truthy v) (TP X pins B Q) X.xe s
def tOp (r:R2)(c b:TE):TE:=λB H Q=>c B H λx H1=>b B H1 λy a=>r x y a Q
def tUn (r:V->Hp->VK->Prop)(a:TE):TE:=λB H Q=>a B H λx H1=>r x H1 Q
def rI (C:Int->Int->Prop)(g:Int->Int->V):R2:=λx y H Q=>∃i j,x=.int i/\y=.int j/\C i j/\Q (g i j) H
def rI0 (g:Int->Int->V):R2:=λx y H Q=>∃i j,x=.int i/\y=.int j/\Q (g i j) H
def rU (g:Int->V):V->Hp->VK->Prop:=λx H Q=>∃i,x=.int i/\Q (g i) H
section
variable {X:Cx}{a b c:Al}{ta tb tc:TE}{pos:Pos}
def zI6 (ha:PE X a ta)(hb:PE X b tb){pins:List (Ad×Obj)}{s:Ac}{B:St}{H:Hp}{R:V->V->Hp->Prop}(I:Inv X pins B H s)
  (h:ta B H λx H1=>tb B H1 λy d=>R x y d) {Q:Ab->Ac->Prop} {f:Ab->Ab->Sem Ab}
  (hf:∀v u s2 x y d,Inv X pins B d s2->RelV x v->RelV y u->R x y d->Aj (Ah X.prog X.w) X.A (f v u) Q X.xe s2):
  Aj (Ah X.prog X.w) X.A (eval a X.env) (λv j=>Aj (Ah X.prog X.w) X.A (eval b X.env) (λu e=>Aj (Ah X.prog X.w) X.A (f v u) Q X.xe e) X.xe j) X.xe s:=by
 refine thn (ha pins s B H _ I h) λv s1 i=>?_;obtain⟨x,H1,o,l,n⟩:=i;refine thn (hb pins s1 B H1 _ o n) λu s2 g=>?_;obtain⟨y,d,k,p,m⟩:=g;exact hf v u s2 x y d k l p m
def yv {op:Operator}{r:R2}(i:OpR X (binaryOp op) r)(ha:PE X a ta)(hb:PE X b tb):PE X (.BinOp a op b pos) (tOp r ta tb):=by
 intro pins s B H Q I h;exact wpAny_BinOp (zI6 ha hb I h λv u s2 x y e d f g q=>i pins s2 B e x y v u Q d f g q)
def zz0 {op:UnaryOp}{r:V->Hp->VK->Prop}(i:UnR X (unaryOp op) r)(ha:PE X a ta):PE X (.UnaryOp op a pos) (tUn r ta):=by
 intro pins s B H Q I h;exact UnaryOp_ (thn (ha pins s B H _ I h) λv s1 d=>by obtain⟨x,H1,g,e,f⟩:=d;exact i pins s1 B H1 x v Q g e f)
def opI {f:Ab->Ab->Sem Ab}{C:Int->Int->Prop}{g:Int->Int->Int}
  (rule:∀(i j:Int) (t u:Tok) (s:Ac) (Q:Ab->Ac->Prop) (E:Ab->Ac->Prop),C i j->Q (.int (g i j) s.toks) {s with toks:=s.toks+1}->Aj (Ah X.prog X.w) X.A (f (.int i t) (.int j u)) Q E s):
  OpR X f (rI C λi j=>.int (g i j)):=by
 intro pins s B H x y v u Q I d e h;obtain⟨i,j,rfl,rfl,k,q⟩:=h;obtain⟨t,rfl⟩:=d;obtain⟨t',rfl⟩:=e;exact rule i j t t' s _ _ k ⟨.int (g i j),H,I.tok _,⟨_,rfl⟩,q⟩
def zU6 {f:Ab->Ab->Sem Ab}{g:Int->Int->Int}
  (rule:∀(i j:Int) (t u:Tok) (s:Ac) (Q:Ab->Ac->Prop) (E:Ab->Ac->Prop),Q (.int (g i j) s.toks) {s with toks:=s.toks+1}->Aj (Ah X.prog X.w) X.A (f (.int i t) (.int j u)) Q E s):
  OpR X f (rI0 λi j=>.int (g i j)):=by
 intro pins s B H x y v u Q I d e h;obtain⟨i,j,rfl,rfl,q⟩:=h;obtain⟨t,rfl⟩:=d;obtain⟨t',rfl⟩:=e;exact rule i j t t' s _ _ ⟨.int (g i j),H,I.tok _,⟨_,rfl⟩,q⟩
def zm0 {f:Ab->Ab->Sem Ab}{g:Int->Int->Bool}
  (rule:∀(i j:Int) (t u:Tok) (s:Ac) (Q:Ab->Ac->Prop) (E:Ab->Ac->Prop),Q (.bool (g i j)) s->Aj (Ah X.prog X.w) X.A (f (.int i t) (.int j u)) Q E s):
  OpR X f (rI0 λi j=>.bl (g i j)):=by
 intro pins s B H x y v u Q I d e h;obtain⟨i,j,rfl,rfl,q⟩:=h;obtain⟨t,rfl⟩:=d;obtain⟨t',rfl⟩:=e;exact rule i j t t' s _ _ ⟨.bl (g i j),H,I,rfl,q⟩
def zL2 (i j:Int):Prop:=0<=j/\j<=1000000/\i.natAbs<2 ^ 64
def zI3 (i j:Int):Prop:=(-(2 ^ 64)<i/\i<2 ^ 64)\/(-(2 ^ 64)<j/\j<2 ^ 64)
def zI3.ok {i j:Int}(h:zI3 i j):IntMulOk i j:=by
 rcases h with⟨h1,h2⟩|⟨h1,h2⟩
 .exact .of_left (intBits_le_64 h1 h2)
 .exact .of_right (intBits_le_64 h1 h2)
def tK :OpR X (binaryOp .Add) (rI0 λi j=>.int (i+j)):=zU6 λ_ _ _ _ _ _ _ q=>add_int q
def zK6 :OpR X (binaryOp .Sub) (rI0 λi j=>.int (i-j)):=zU6 λ_ _ _ _ _ _ _ q=>sub_int q
def rN :OpR X (binaryOp .Mult) (rI zI3 λi j=>.int (i*j)):=opI λ_ _ _ _ _ _ _ d q=>mul_int q d.ok
def vS :OpR X (binaryOp .Mod) (rI (λ_ j=>0<j) λi j=>.int (i % j)):=opI λi j _ _ _ _ _ d q=>by exact mod_int' (yt2 d) (by rw[Int.fmod_eq_emod_of_nonneg i (yj7 d)];exact q)
def bx :OpR X (binaryOp .Pow) (rI zL2 λi j=>.int (i ^ j.toNat)):=opI λ_ _ _ _ _ _ _ d q=>pow_int_small d.1 d.2.1 d.2.2 q
def unI {f:Ab->Sem Ab}{g:Int->Int}
  (rule:∀(i:Int) (t:Tok) (s:Ac) (Q:Ab->Ac->Prop) (E:Ab->Ac->Prop),Q (.int (g i) s.toks) {s with toks:=s.toks+1}->Aj (Ah X.prog X.w) X.A (f (.int i t)) Q E s):
  UnR X f (rU λi=>.int (g i)):=by
 intro pins s B H x v Q I d h;obtain⟨i,rfl,q⟩:=h;obtain⟨t,rfl⟩:=d;exact rule i t s _ _ ⟨.int (g i),H,I.tok _,⟨_,rfl⟩,q⟩
def bM :UnR X (unaryOp .USub) (rU λi=>.int (-i)):=unI λ_ _ _ _ _ q=>neg_int q
end
noncomputable def zT7 :V->V->Bool
 |.non,.non=>true|.non,.int _=>true|.int _,.non=>true|.non,.bl _=>true|.bl _,.non=>true|.non,.str _=>true|.str _,.non=>true
 |.int _,.int _=>true|.bl _,.bl _=>true|.str _,.str _=>true|.byt _,.byt _=>true
 |.int _,.str _=>true|.str _,.int _=>true|.bl _,.str _=>true|.str _,.bl _=>true
 |_,_=>false
def rEq :R2:=λx y H Q=>zT7 x y=true/\Q (.bl (decide (x=y))) H
def rNe :R2:=λx y H Q=>zT7 x y=true/\Q (.bl (!decide (x=y))) H
def gD {i j:Int}:decide (V.int i=V.int j)=(i == j):=by
 rw[yt3];simp
def zh9 {i j:Bool}:decide (V.bl i=V.bl j)=(i == j):=by
 rw[yt3];simp
def gC {i j:Str}:decide (V.str i=V.str j)=(i == j):=by
 rw[yt3];simp
def ip {i j:Array UInt8}:decide (V.byt i=V.byt j)=(i.toList == j.toList):=by
 rw[yt3];cases i;cases j;simp
section
variable {X:Cx}{a b c:Al}{ta tb tc:TE}{pos:Pos}
def zD {pins:List (Ad×Obj)}{B:St}{H:Hp}{s:Ac}{Q:VK}{k d:Bool}(I:Inv X pins B H s)(q:Q (.bl k) H)(e:k=d):EP X pins B Q (.bool d) s:=by
 subst e;exact⟨.bl k,H,I,rfl,q⟩
theorem iJ :OpR X (compareOp .Eq) rEq:=by
 intro pins s B H x y v u Q I f d h;obtain⟨e,q⟩:=h;cases x with
 |non=>
  cases f;cases y with
  |non=>cases d;exact PySem.EqNone.eq_none_none (zD I q (by simp))
  |bl j=>cases d;exact PySem.EqNone.eq_none_bool (zD I q (by simp))
  |int j=>obtain⟨t',rfl⟩:=d;exact PySem.EqNone.eq_none_int (zD I q (by simp))
  |str j=>obtain⟨t',rfl⟩:=d;exact PySem.EqNone.eq_none_str (zD I q (by simp))
  |_=>exact absurd (e) yb0
 |bl i=>
  cases f;cases y with
  |non=>cases d;exact PySem.EqNone.eq_bool_none (zD I q (by simp))
  |bl j=>cases d;exact eq_bool (zD I q zh9)
  |str j=>obtain⟨t',rfl⟩:=d;exact PySem.EqMixed.eq_bool_str (zD I q (by simp))
  |_=>exact absurd (e) yb0
 |int i=>
  obtain⟨t,rfl⟩:=f;cases y with
  |non=>cases d;exact PySem.EqNone.eq_int_none (zD I q (by simp))
  |int j=>obtain⟨t',rfl⟩:=d;exact eq_int (zD I q gD)
  |str j=>obtain⟨t',rfl⟩:=d;exact PySem.EqMixed.eq_int_str (zD I q (by simp))
  |_=>exact absurd (e) yb0
 |str i=>
  obtain⟨t,rfl⟩:=f;cases y with
  |non=>cases d;exact PySem.EqNone.eq_str_none (zD I q (by simp))
  |bl j=>cases d;exact PySem.EqMixed.eq_str_bool (zD I q (by simp))
  |int j=>obtain⟨t',rfl⟩:=d;exact PySem.EqMixed.eq_str_int (zD I q (by simp))
  |str j=>obtain⟨t',rfl⟩:=d;exact eq_str (zD I q gC)
  |_=>exact absurd (e) yb0
 |byt i=>
  obtain⟨t,rfl⟩:=f;cases y with
  |byt j=>obtain⟨t',rfl⟩:=d;exact PySem.W.eq_bytes (zD I q ip)
  |_=>exact absurd (e) yb0
 |_=>cases y<;>exact absurd (e) yb0
theorem zZ8 :OpR X (compareOp .NotEq) rNe:=by
 intro pins s B H x y v u Q I f d h;obtain⟨e,q⟩:=h;cases x with
 |non=>
  cases f;cases y with
  |non=>cases d;exact PySem.EqNone.ne_none_none (zD I q (by simp))
  |bl j=>cases d;exact PySem.EqNone.ne_none_bool (zD I q (by simp))
  |int j=>obtain⟨t',rfl⟩:=d;exact PySem.EqNone.ne_none_int (zD I q (by simp))
  |str j=>obtain⟨t',rfl⟩:=d;exact PySem.EqNone.ne_none_str (zD I q (by simp))
  |_=>exact absurd (e) yb0
 |bl i=>
  cases f;cases y with
  |non=>cases d;exact PySem.EqNone.ne_bool_none (zD I q (by simp))
  |bl j=>cases d;exact ne_bool (zD I q (congrArg not zh9))
  |str j=>obtain⟨t',rfl⟩:=d;exact PySem.EqMixed.ne_bool_str (zD I q (by simp))
  |_=>exact absurd (e) yb0
 |int i=>
  obtain⟨t,rfl⟩:=f;cases y with
  |non=>cases d;exact PySem.EqNone.ne_int_none (zD I q (by simp))
  |int j=>obtain⟨t',rfl⟩:=d;exact ne_int (zD I q (congrArg not gD))
  |str j=>obtain⟨t',rfl⟩:=d;exact PySem.EqMixed.ne_int_str (zD I q (by simp))
  |_=>exact absurd (e) yb0
 |str i=>
  obtain⟨t,rfl⟩:=f;cases y with
  |non=>cases d;exact PySem.EqNone.ne_str_none (zD I q (by simp))
  |bl j=>cases d;exact PySem.EqMixed.ne_str_bool (zD I q (by simp))
  |int j=>obtain⟨t',rfl⟩:=d;exact PySem.EqMixed.ne_str_int (zD I q (by simp))
  |str j=>obtain⟨t',rfl⟩:=d;exact ne_str (zD I q (congrArg not gC))
  |_=>exact absurd (e) yb0
 |byt i=>
  obtain⟨t,rfl⟩:=f;cases y with
  |byt j=>obtain⟨t',rfl⟩:=d;exact PySem.W.ne_bytes (zD I q (congrArg not ip))
  |_=>exact absurd (e) yb0
 |_=>cases y<;>exact absurd (e) yb0
def iC :OpR X (compareOp .Lt) (rI0 λi j=>.bl (decide (i<j))):=zm0 λ_ _ _ _ _ _ _ q=>lt_int q
def tT :OpR X (compareOp .LtE) (rI0 λi j=>.bl (decide (i<=j))):=zm0 λ_ _ _ _ _ _ _ q=>le_int q
def gP :OpR X (compareOp .Gt) (rI0 λi j=>.bl (decide (j<i))):=zm0 λ_ _ _ _ _ _ _ q=>gt_int q
def aA :OpR X (compareOp .GtE) (rI0 λi j=>.bl (decide (j<=i))):=zm0 λ_ _ _ _ _ _ _ q=>ge_int q
def bV :OpR X (compareOp .Is) (λx y H Q=>y=.non/\Q (.bl (decide (x=.non))) H):=by
 intro pins s B H x y v u Q I d e h;obtain⟨rfl,q⟩:=h;cases e;refine is_none_gen (zD I q ?_);cases x<;>first
  |(cases d;rfl)
  |(obtain⟨t,rfl⟩:=d;rfl)
def zw3 :OpR X (compareOp .IsNot) (λx y H Q=>y=.non/\Q (.bl (!decide (x=.non))) H):=by
 intro pins s B H x y v u Q I d e h;obtain⟨rfl,q⟩:=h;cases e;refine isnot_none_gen (zD I q ?_);cases x<;>first
  |(cases d;rfl)
  |(obtain⟨t,rfl⟩:=d;rfl)
def yi (b:Al){op:CmpOp}(h:op≠.In:=by decide)(h2:op≠.NotIn:=by decide):behindInMarks op b=false:=by
 have e1:(op == CmpOp.In)=false:=by cases op<;>first|rfl|exact absurd rfl h
 have d:(op == CmpOp.NotIn)=false:=by cases op<;>first|rfl|exact absurd rfl h2
 cases b<;>simp[behindInMarks,e1,d]
def oI {op:CmpOp}{r:R2}(i:OpR X (compareOp op) r)(ha:PE X a ta)(hb:PE X b tb)(hm:behindInMarks op b=false):PE X (.Compare a [op] [b] pos) (tOp r ta tb):=by
 intro pins s B H Q I h;exact wpAny_Compare1 (zI6 ha hb I h λv u s2 x y e d f g q=>i pins s2 B e x y v u Q d f g q) hm
def aW (t:TE):TT:=λB H Q=>t B H λx H'=>∃k,x=.bl k/\Q k H'
def vB {op:CmpOp}{r:R2}(q:OpR X (compareOp op) r)(ha:PE X a ta)(hb:PE X b tb)(hm:behindInMarks op b=false):PT X (.Compare a [op] [b] pos) (aW (tOp r ta tb)):=by
 intro pins s B H Q I h;refine wpAny_isTrue_Compare1 (thn (ha pins s B H _ I h) λv s1 ⟨x,H1,n,i,l⟩=>thn (hb pins s1 B H1 _ n l) λu s2 ⟨y,f,d,o,j⟩=>
  thn (q pins s2 B f x y v u _ d i o j) λc s3 ⟨z,t,m,g,k,e,p⟩=>?_) hm
 subst e;cases g;exact yd1 ⟨t,m,p⟩
def bJ (r g:R2)(ta tb tc:TE):TE:=λB H Q=>ta B H λx H1=>tb B H1 λy f=>r x y f λz d=>∃k,z=.bl k/\
 (if k=true then tc B d λh e=>g y h e Q else Q (.bl false) d)
theorem zj2 {op f:CmpOp}{r i:R2}(w:OpR X (compareOp op) r)(g:OpR X (compareOp f) i)(ha:PE X a ta)(hb:PE X b tb)(C:PE X c tc)
  (hm:lastMarks [op,f] [b,c]=false:=by with_unfolding_all rfl):PE X (.Compare a [op,f] [b,c] pos) (bJ r i ta tb tc):=by
 intro pins s B H Q I h;refine Compare_chain (thn (ha pins s B H _ I h) λv s1 ⟨x,H1,M,t,K⟩=>chain_link (thn (hb pins s1 B H1 _ M K) λu s2 ⟨y,q,p,j,J⟩=>
  thn (w pins s2 B q x y v u _ p t j J) λd s3 ⟨z,m,n,G,k,e,l⟩=>?_)) hm
 subst e;cases G;refine yd1 ?_;cases k with
 |false=>exact ite_ff ⟨.bl false,m,n,rfl,l⟩
 |true=>exact ite_tt (chain_last (thn (C pins s3 B m _ n l) λA s4 ⟨L,D,F,o,E⟩=>g pins s4 B D y L u A Q F j o E))
theorem zj9 {op f:CmpOp}{r i:R2}(E:OpR X (compareOp op) r)(g:OpR X (compareOp f) i)(ha:PE X a ta)(hb:PE X b tb)(G:PE X c tc)
  (hm:lastMarks [op,f] [b,c]=false:=by with_unfolding_all rfl):PT X (.Compare a [op,f] [b,c] pos) (aW (bJ r i ta tb tc)):=by
 intro pins s B H Q I h;refine isTrue_chain (thn (ha pins s B H _ I h) λv s1 ⟨x,H1,R,w,O⟩=>test_link (thn (hb pins s1 B H1 _ R O) λu s2 ⟨y,q,p,j,N⟩=>
  thn (E pins s2 B q x y v u _ p w j N) λd s3 ⟨z,m,n,M,k,e,l⟩=>?_)) hm
 subst e;cases M;refine yd1 ?_;cases k with
 |false=>
  obtain⟨V,T,C⟩:=l;cases T;exact ite_ff ⟨m,n,C⟩
 |true=>
  refine ite_tt (test_last (thn (G pins s3 B m _ n l) λF s4 ⟨P,J,L,o,K⟩=>thn (g pins s4 B J y P u F _ L j o K) λd' s5 ⟨W,D,S,A,Y,U,t⟩=>?_));subst U;cases A;exact yd1 ⟨D,S,t⟩
def zX1 (K:Ae)(x:V)(H:Hp)(k:Bool):Prop:=
 match x with
 |.non=>k=false
 |.bl b=>k=b
 |.int i=>k=(i != 0)
 |.str y=>y.length<=sizeLine/\k=((y.length:Int) != 0)
 |.byt y=>y.size<=sizeLine/\k=((y.size:Int) != 0)
 |.ref p=>(∃xs,SqL K H p xs/\k=!xs.isEmpty)\/(∃xs,SqT K H p xs/\k=!xs.isEmpty)\/∃kvs,H p=some (.dK kvs)/\k=!kvs.isEmpty
 |_=>False
def kF {d:Type}{kvs:List (d×V)}{vs:List (d×Ab)}(r:KV kvs vs):(!vs.isEmpty)=!kvs.isEmpty:=by
 cases r<;>rfl
def qu {xs:List V}{d:List Ab}(r:Vals xs d):(!d.toArray.isEmpty)=!xs.isEmpty:=by
 cases r<;>simp
def sZ :(sizeLine:Nat)<2 ^ 63:=by rw[yf3];decide
theorem zK2 :z32 X (λx H Q=>∃k,zX1 X.K x H k/\Q k H):=by
 intro pins s B H x v Q I f h;obtain⟨k,e,q⟩:=h;have j:=yf3;cases x with
 |non=>
  cases f;have d:=e;subst d;exact truthy_none ⟨H,I,q⟩
 |bl b=>
  cases f;have d:=e;subst d;exact yd1 ⟨H,I,q⟩
 |int i=>
  obtain⟨t,rfl⟩:=f;have d:=e;subst d;exact PySem.P.truthy_int ⟨H,I,q⟩
 |str y=>
  obtain⟨t,rfl⟩:=f;obtain⟨hy,d⟩:=e;subst d;exact PySem.P.truthy_str (zS9 j hy) ⟨H,I.tok _,q⟩
 |byt y=>
  obtain⟨t,rfl⟩:=f;obtain⟨hy,d⟩:=e;subst d;exact PySem.W.truthy_bytes (zX8 j hy) ⟨H,I.tok _,q⟩
 |ref p=>
  cases f;have d:=e;rcases d with⟨xs,g,d⟩|⟨xs,g,d⟩|⟨kvs,g,d⟩
  .subst d;obtain⟨n,r,o,l⟩:=I.list g;exact wpAny_truthy_list o.isList (by simp only[z99];exact zh1 j r.length l) ⟨H,I.tok _,by rw[qu r];exact q⟩
  .subst d;obtain⟨n,r,o,l⟩:=I.tuple g;exact truthy_tuple o (by simp only[z99];exact zh1 j r.length l) ⟨H,I.tok _,by rw[qu r];exact q⟩
  .subst d;obtain⟨l,u,vs,r,m⟩:=I.hok p _ g;exact wpAny_truthy_dict u m (zh1 j (Paired.length r) l) ⟨H,I.tok _,by rw[kF r];exact q⟩
 |_=>exact(e).elim
def bI (ha:PE X a ta)(he:∀whole,isTrue a X.env whole=(do let v <-whole;standAt a.pos;holding [v] (truthy v))):
  PT X a (λB H Q=>ta B H λx H'=>∃k,zX1 X.K x H' k/\Q k H'):=by
 intro pins s B H Q I h;exact isTrue_plain (thn (ha pins s B H _ I h) λv s1 d=>by obtain⟨x,H1,g,e,f⟩:=d;exact zK2 pins s1 B H1 x v Q g e f) (he _)
theorem vals1 {x:V}{us:List Ab}(r:Vals [x] us):∃u,us=[u]/\RelV x u:=by
 cases r with
 |cons e d=>cases d;exact⟨_,rfl,e⟩
theorem vals2 {x y:V}{us:List Ab}(r:Vals [x,y] us):∃u d,us=[u,d]/\RelV x u/\RelV y d:=by
 cases r with
 |cons h g=>
  cases g with
  |cons f e=>cases e;exact⟨_,_,rfl,h,f⟩
def mE :yP X (.builtin "abs") (λxs H Q=>∃i,xs=[.int i]/\Q (.int (if i<0 then -i else i)) H):=by
 intro pins s B H xs us Q I r h;obtain⟨i,rfl,q⟩:=h;obtain⟨u,rfl,t,rfl⟩:=vals1 r;exact call_abs_int λu d=>⟨.int (if i<0 then -i else i),H,I.tok _,⟨_,rfl⟩,q⟩
def fX (e:X.calm=true):yP X (.builtin "max") (λxs H Q=>∃i j,xs=[.int i,.int j]/\Q (.int (if j > i then j else i)) H):=by
 intro pins s B H xs us Q I r h;obtain⟨i,j,rfl,q⟩:=h;obtain⟨u,g,rfl,⟨t,rfl⟩,⟨t',rfl⟩⟩:=vals2 r;refine max_two_ints (I.ok.hd e) λh' f k=>⟨_,H,I.kept k,?_,q⟩;by_cases d:j > i
 .rw[if_pos d,if_pos d];exact⟨_,rfl⟩
 .rw[if_neg d,if_neg d];exact⟨_,rfl⟩
end
structure jj (h:Ao)(x dx C:Ad)(mA:Str->Option Ab):Prop where
 obj:h.get? x=some (PySem.W.instObj C dx)
 ns:h.Ns1 dx mA
 ne:dx≠x
def fo {h:Ao}{dx:Ad}{mA:Str->Option Ab}(n:h.Ns1 dx mA):∃od,h.get? dx=some od/\∀name,PySem.W.lookIn name od=some (mA name):=by
 obtain⟨o,es,ep,d,hd,hk,_,hm⟩:=n;refine⟨o,d,λname=>?_⟩;have e:=hm name;unfold nsFind findBy at e;rw[<-Array.find?_toList]at e;unfold PySem.W.lookIn;rw[hd];dsimp only;split
 .rename_i y q;rw[q]at e;exact congrArg some e
 .rename_i q;rw[q]at e;have a:es.toList.any (·.refKey)=false:=by
   rw[List.any_eq_false];intro y hy;obtain⟨z,t,b⟩:=hk y (Array.mem_toList_iff.mp hy);simp[DictEntry.refKey,b]
  have c:¬es.toList.any (·.refKey)=true:=by rw[a];exact yb0
  rw[if_neg c];exact congrArg some e
def jj.look {h:Ao}{x dx C:Ad}{mA:Str->Option Ab}(I:jj h x dx C mA):∃od,PySem.W.InstAt h x (PySem.W.instObj C dx) C (some od)/\∀name,PySem.W.lookIn name od=some (mA name):=
 let⟨od,ho,hl⟩:=fo I.ns
 ⟨od,⟨I.obj,rfl,rfl,ho⟩,hl⟩
section
variable {prog:Ag}{w:Ak}{A:Am}{E:Ab->Ac->Prop}{s:Ac}{K:Ae}{x dx C f:Ad}{mA:Str->Option Ab}{name:Str}{v:Ab}
def get_map {expr:Bool}{Q:Ab->Ac->Prop}(X:K.In s.heap)(I:jj s.heap x dx C mA)(hg:PySem.W.plainGet K C name=true)(b:PySem.W.hasDictIn K C=true)
  (ha:PySem.W.findIn K (.ref C) name=some none) (d:mA name=some v) (a:PySem.W.handedIn v=true) (h:Q v {s with toks:=s.toks+1}):
  Aj (Ah prog w) A (getAttr (.ref x) name expr) Q E s:=by
 obtain⟨od,J,c⟩:=I.look;exact PySem.W.get_value X J (yt9 hg).1 (PySem.W.findObj_own b ha rfl (by rw[c,d])) a h
def cO {d:Sem Bool}{Q:Ab×List Ab->Ac->Prop}(X:K.In s.heap)(I:jj s.heap x dx C mA)(hg:PySem.W.plainGet K C name=true)
  (hf:PySem.W.findIn K (.ref C) name=some (some (.ref f))) (c:PySem.W.isFn K (.ref f)=true) (b:mA name=none) (h:Q (.ref f,[.ref x]) s):
  Aj (Ah prog w) A (getMethod (.ref x) name d) Q E s:=by
 obtain⟨od,J,a⟩:=I.look;exact PySem.W.method_fn X J (yt9 hg).1 (yt9 hg).2 hf (yp2.mp c) (by show(PySem.W.lookIn name od).map (·.isSome)=some false;rw[a,b];rfl) h
def zv1 {ns:List Str}{Q:Unit->Ac->Prop}(X:K.In s.heap)(I:jj s.heap x dx C mA)
  (n:PySem.W.findIn K (.ref C) "__setattr__"=some (some (.builtin "object.__setattr__"))) (m:PySem.W.plainOver K C=true) (o:PySem.W.takerIn K C name=some none) (k:PySem.W.hasDictIn K C=true)
  (hw:PySem.Within mA ns) (d:ns.length<=sizeLine)
  (h:∀h',jj h' x dx C (λy=>if y=name then some v else mA y)->Heap.SameBut dx s.heap h'->Q () {s with heap:=h',toks:=s.toks+2}):
  Aj (Ah prog w) A (setAttr (.ref x) name v) Q E s:=by
 obtain⟨od,J,r⟩:=I.look;refine PySem.W.set_plain X J n (PySem.W.osa_open X J m o λb=>?_);obtain⟨cd,p,g⟩:=PySem.W.any_some k;refine z76 (z80 (z76 (z76 (wpAny_loadPart I.obj (z76 (PySem.W.Looks.here (PySem.W.looks_clsIn X p) ?_))))));rw[g];refine z80 (z76 (z80 (z76 (wpAny_nsSet1 I.ns λh' c a=>?_))));obtain⟨oD,l,q,j,i,e⟩:=c.count (PySem.Within.cons name v hw);refine z76 (wpAny_lookBehind j (by rw[i];exact pastItsLine_dict (z93 e (by rw[ya1];exact Nat.add_le_add d (z82 _)))) ?_);exact z80 (h _ ⟨(a.2 _ (yc1 I.ne)).trans I.obj,c,I.ne⟩ a)
def zd6 {R:Result->Ac->Prop}{vs:List Ab}{kw:List (Str×Ab)}(X:K.In s.heap)(hm:PySem.W.makesIn K C=true)
  (hi:PySem.W.findIn K (.ref C) "__init__"=some (some (.ref f))) (hf:PySem.W.typeIn K (.ref f)=some (.type "function"))
  (h:codeAny (Ah prog w) (A.under (.builtin "type.__call__" ⟨.ref C::vs,kw⟩)) (.call (.ref f) ⟨.ref (s.heap.objs.size+1)::vs,kw⟩) (PySem.W.InitBack (s.heap.objs.size+1) R)
   {s with heap:=(s.heap.push PySem.W.emptyDict).push (PySem.W.instObj C s.heap.objs.size)}):
  codeAny (Ah prog w) A (.call (.ref C) ⟨vs,kw⟩) R s:=by
 obtain⟨a,g,d,t,os⟩:=s;exact PySem.W.make_core (PySem.W.makes_of X hm) (PySem.W.looks_findIn X hi) (λself=>PySem.W.bind_fn X self hf) (.inl rfl) h
end
noncomputable def we (f:Str)(v:V):List (Str×V)->List (Str×V)
 |[]=>[(f,v)]
 |(g,x)::r=>if g=f then(g,v)::r else(g,x)::we f v r
theorem tU (f g:Str)(v:V):∀fs:List (Str×V),(we f v fs).lookup g=if g=f then some v else fs.lookup g
 |[]=>by
  show List.lookup g [(f,v)]=_;by_cases h:g=f
  .have hb:(g == f)=true:=yp2.mpr h;simp only[List.lookup,hb,if_pos h]
  .have hb:=yl6.mpr h;simp only[List.lookup,hb,if_neg h]
 |(k,x)::r=>by
  rw[show we f v ((k,x)::r)=(if k=f then(k,v)::r else(k,x)::we f v r)from rfl];by_cases hk:k=f
  .rw[if_pos hk];by_cases h:g=k
   .have hb:=yp2.mpr h;simp only[List.lookup,hb,if_pos (h.trans hk)]
   .have hb:=yl6.mpr h;simp only[List.lookup,hb,if_neg (λe:g=f=>h (e.trans hk.symm))]
  .rw[if_neg hk];by_cases h:g=k
   .have hb:=yp2.mpr h;simp only[List.lookup,hb,if_neg (λe:g=f=>hk (h.symm.trans e))]
   .have hb:=yl6.mpr h;simp only[List.lookup,hb];exact(tU f g v r)
theorem uX (f:Str)(v:V):∀fs:List (Str×V),f∈(we f v fs).map (·.1)/\∀g,g∈fs.map (·.1)->g∈(we f v fs).map (·.1)
 |[]=>⟨by simp[we],λg h=>by simp at h⟩
 |(k,x)::r=>by
  obtain⟨i1,i2⟩:=uX f v r;rw[show we f v ((k,x)::r)=(if k=f then(k,v)::r else(k,x)::we f v r)from rfl];by_cases hk:k=f
  .rw[if_pos hk];subst hk;exact⟨by simp,λg h=>by simpa using h⟩
  .rw[if_neg hk];refine⟨?_,λg h=>?_⟩
   .rw[ya6];exact z87 _ i1
   .rw[ya6]at h ⊢;rcases z84.mp h with e|e
    .exact z84.mpr (.inl e)
    .exact z87 _ (i2 g e)
theorem tR (f:Str)(v:V):∀fs:List (Str×V),(we f v fs).length<=fs.length+1
 |[]=>by simp[we]
 |(k,x)::r=>by
  have a:=tR f v r;rw[show we f v ((k,x)::r)=(if k=f then(k,v)::r else(k,x)::we f v r)from rfl];by_cases hk:k=f
  .rw[if_pos hk,ya1,ya1];exact ya0 _ _
  .rw[if_neg hk,ya1,ya1];exact Nat.add_le_add a (z82 _)
theorem vU.some_of {v:V}{o:Option Ab}(r:vU (some v) o):∃u,o=some u/\RelV v u:=by
 cases o with
 |none=>exact(r).elim
 |some u=>exact⟨u,rfl,r⟩
theorem vU.none_of {o:Option Ab}(r:vU none o):o=none:=by
 cases o with
 |none=>rfl
 |some u=>exact(r).elim
theorem eS {v:V}{u:Ab}(r:RelV v u):PySem.W.handedIn u=true:=by
 cases v with
 |non=>cases(r);rfl
 |bl b=>cases(r);rfl
 |int i=>obtain⟨t,e⟩:=(r);cases e;rfl
 |str x=>obtain⟨t,e⟩:=(r);cases e;rfl
 |byt b=>obtain⟨t,e⟩:=(r);cases e;rfl
 |flt b=>obtain⟨t,e⟩:=(r);cases e;rfl
 |ref a=>cases(r);rfl
 |ty n=>cases(r);rfl
section
variable {P:Ag}{w:Ak}{H H':Hp}{h h':Ao}{a C dx:Ad}{fs fs':List (Str×V)}
def sQ (hok:HOk P w H h)(e:H a=some (.ins C dx fs)):∃mA,jj h a dx C mA/\(∀f,vU (fs.lookup f) (mA f))/\PySem.Within mA (fs.map (·.1))/\fs.length<=1000/\H dx=some (.own a):=by
 obtain⟨d,z,ne,ob,mA,n,r,q⟩:=(hok a _ e);exact⟨mA,⟨ob,n,ne⟩,r,q,z,d⟩
end
structure Cls (K:Ae)(C:Ad):Prop where
 pg:PySem.W.plainGet K C Str.empty=true
 hd:PySem.W.hasDictIn K C=true
 po:PySem.W.plainOver K C=true
 sa:PySem.W.findIn K (.ref C) "__setattr__"=some (some (.builtin "object.__setattr__"))
def Cls.get {K:Ae}{C:Ad}(c:Cls K C)(f:Str):PySem.W.plainGet K C f=true:=c.pg
def yG (K:Ae)(C:Ad)(f:Str):Prop:=PySem.W.findIn K (.ref C) f=some none
def yG.taker {K:Ae}{C:Ad}{f:Str}(n:yG K C f):PySem.W.takerIn K C f=some none:=by
 unfold PySem.W.takerIn;rw[show PySem.W.findIn K (.ref C) f=some none from n];rfl
structure Meth (K:Ae)(C:Ad)(m:Str)(f:Ad):Prop where
 at_:PySem.W.findIn K (.ref C) m=some (some (.ref f))
 fn:PySem.W.isFn K (.ref f)=true
 kp:PySem.W.keepIn K (.ref f)=true
section
variable {X:Cx}{pins:List (Ad×Obj)}{B:St}{H:Hp}{s:Ac}{a C dx:Ad}{fs:List (Str×V)}{f:Str}{v:V}{A:Am}{E:Ab->Ac->Prop}
def jU {b:Bool}{Q:Ab->Ac->Prop}(I:Inv X pins B H s)(e:H a=some (.ins C dx fs))(c:Cls X.K C)(n:yG X.K C f)(l:fs.lookup f=some v)
  (h:∀u s',Inv X pins B H s'->RelV v u->Q u s'):Aj (Ah X.prog X.w) A (getAttr (.ref a) f b) Q E s:=by
 obtain⟨mA,O,r,_,_,_⟩:=sQ I.hok e;obtain⟨u,g,d⟩:=vU.some_of (by rw[<-l];exact r f);exact get_map I.kIn O (c.get f) c.hd n g (eS d) (h u _ (I.tok _) d)
def ui {m:Str}{g:Ad}{b:Sem Bool}{Q:Ab×List Ab->Ac->Prop}(I:Inv X pins B H s)(e:H a=some (.ins C dx fs))(c:Cls X.K C)(k:Meth X.K C m g)(l:fs.lookup m=none)
  (h:Q (.ref g,[.ref a]) s):Aj (Ah X.prog X.w) A (getMethod (.ref a) m b) Q E s:=by
 obtain⟨mA,O,r,_,_,_⟩:=sQ I.hok e;have hn:=vU.none_of (by rw[<-l];exact r m);exact cO I.kIn O (c.get m) k.at_ k.fn hn h
def jo {y:V}{u:Ab}{Q:Unit->Ac->Prop}(I:Inv X pins B H s)(e:H a=some (.ins C dx fs))(c:Cls X.K C)(n:yG X.K C f)(k:fs.length<1000)(l:RelV y u)
  (h:∀s',Inv X pins B (upd H a (.ins C dx (we f y fs))) s'->Q () s'):Aj (Ah X.prog X.w) A (setAttr (.ref a) f u) Q E s:=by
 obtain⟨mA,O,r,i,_,j⟩:=sQ I.hok e;have m:(fs.map (·.1)).length<=sizeLine:=by rw[z77,yf3];lia
 refine zv1 I.kIn O c.sa c.po n.taker c.hd i m λh' d sb=>h _ ?_;have hd:∃o,h'.get? dx=some o:=let⟨o,_,_,e',_⟩:=d.ns;⟨o,e'⟩;refine I.write (by rw[e];exact True.intro) (.inr j) (λb q hb z=>(sb.2 b hb).trans z) hd ?_;refine⟨by rw[zc O.ne];exact j,?_,O.ne,d.obj,_,d.ns,λg=>?_,λg hg=>?_⟩
 .have:=tR f y fs;exact z93 this k
 .rw[tU];by_cases q:g=f
  .rw[if_pos q,if_pos q];exact l
  .rw[if_neg q,if_neg q];exact r g
 .by_cases q:g=f
  .rw[q];exact(uX f y fs).1
  .refine(uX f y fs).2 g (i g λz=>hg ?_);show(if g=f then some u else mA g)=none;rw[if_neg q];exact z
def Inv.made (I:Inv X pins B H s):Inv X pins B (upd (upd H s.heap.objs.size (.own (s.heap.objs.size+1))) (s.heap.objs.size+1) (.ins C s.heap.objs.size []))
  {s with heap:=(s.heap.push PySem.W.emptyDict).push (PySem.W.instObj C s.heap.objs.size)}:=by
 have e1:(s.heap.push PySem.W.emptyDict).get? s.heap.objs.size=some PySem.W.emptyDict:=z86 s.heap rfl;have d:((s.heap.push PySem.W.emptyDict).push (PySem.W.instObj C s.heap.objs.size)).get? (s.heap.objs.size+1)=some (PySem.W.instObj C s.heap.objs.size):=by
  have:=z86 (s.heap.push PySem.W.emptyDict) (o:=PySem.W.instObj C s.heap.objs.size) rfl
  rwa [yf4]at this
 have c:(s.heap.push PySem.W.emptyDict).Ns s.heap.objs.size (λ_=>none):=⟨PySem.W.emptyDict,#[],_,e1,rfl,(λe he=>absurd he (by simp)),λ_=>rfl⟩;refine(I.laid (o:=.own (s.heap.objs.size+1)) (t':=s.toks) (λb u q=>z79 _ q) (z82 _) ⟨_,e1⟩).laid (λb u q=>z79 _ q) (ya2 (yf4 _ _)) ?_;have ne:s.heap.objs.size≠s.heap.objs.size+1:=z96 (yd7 _);refine⟨by rw[zc ne,zi],z94 _,ne,d,λ_=>none,(Heap.Ns1.of_empty c).at λo q=>z79 _ q,λ_=>True.intro,λy hy=>absurd rfl hy⟩
def zo4 {prog:Ag}{w:Ak}{env:Ar}{e:Al}{f:Str}{pos:Pos}{s:Ac}{Q:Ab->Ac->Prop}(hb:attributeBase e f env (eval e env)=eval e env)
  (h:Aj (Ah prog w) A (eval e env) (λo b=>Aj (Ah prog w) A (getAttr o f true) Q E b) E s):Aj (Ah prog w) A (eval (.Attribute e f pos) env) Q E s:=
 Attribute_any_ h (by rw[arm_eval_Attribute,hb])
end
def z33 (K:Ae)(b:TE)(f:Str):TE:=λB H Q=>b B H λx H1=>∃a C dx fs v,x=.ref a/\H1 a=some (.ins C dx fs)/\Cls K C/\yG K C f/\fs.lookup f=some v/\Q v H1
def z68 (K:Ae)(d c:TE)(f:Str):TS:=λD B H=>c B H λy H1=>d B H1 λx b=>∃a C dx fs,x=.ref a/\b a=some (.ins C dx fs)/\Cls K C/\yG K C f/\fs.length<1000/\
 D.nx B (upd b a (.ins C dx (we f y fs)))
section
variable {X:Cx}{o e value:Al}{f:Str}{pos pos' tpos:Pos}{ta tv:TE}
def zR1 (he:PE X e ta)(hb:attributeBase e f X.env (eval e X.env)=eval e X.env):PE X (.Attribute e f pos) (z33 X.K ta f):=by
 intro pins s B H Q I h;refine zo4 hb (thn (he pins s B H _ I h) λu s1 b=>?_);obtain⟨x,H1,j,g,a,C,dx,fs,v,ex,i,c,n,l,q⟩:=b;subst ex;obtain rfl:u=Value.ref a:=g;exact jU j i c n l λm s2 d k=>⟨v,H1,d,k,q⟩
def nk (ha:PE X o ta)(i:PE X value tv)(t:swapsWith value (some (.Attribute o f pos')) pos.line X.env=pure false):PS X (.Assign [.Attribute o f pos'] value pos) (z68 X.K ta tv f):=by
 intro pins s B H D I h;refine plainObj_wpAny_Assign_Attribute (thn (i pins s B H _ I h) λu s1 ⟨y,H1,r,j,q⟩=>thn (ha pins s1 B H1 _ r q) λk s2 ⟨x,v,b,d,a,C,dx,fs,ex,g,c,n,l,m⟩=>?_) t;subst ex;obtain rfl:k=Value.ref a:=d;exact jo b g c n l j λs3 p=>⟨B,_,p,m⟩
def zE8 {p:Sem Bool}{m:Str}{apos:Pos}{args:List Al}{pins:List (Ad×Obj)}{s:Ac}{B:St}{H:Hp}{Q:Ab->Ac->Prop}{i:TE}(he:PE X e i)(I:Inv X pins B H s)
  (h:i B H λx H1=>∃a C dx fs g,x=.ref a/\H1 a=some (.ins C dx fs)/\Cls X.K C/\Meth X.K C m g/\fs.lookup m=none/\
   ∀s1,Inv X pins B H1 s1->Aj (Ah X.prog X.w) X.A (callWith pos (.ref g) [.ref a] (backTo pos (Af args X.env)) (backToKw pos (keywordEach [] X.env))) Q X.xe s1)
  (r:eval (.Call (.Attribute e m apos) args [] pos) X.env=(do
   let ov <-eval e X.env
   standAt apos.atName
   let(f,first) <-holding [ov] (getMethod ov m p)
   callWith pos f first (backTo pos (Af args X.env)) (backToKw pos (keywordEach [] X.env)))):
  Aj (Ah X.prog X.w) X.A (eval (.Call (.Attribute e m apos) args [] pos) X.env) Q X.xe s:=by
 refine ys8 (thn (he pins s B H _ I h) λu s1 b=>?_) r;obtain⟨x,H1,d,n,a,C,dx,fs,g,ex,j,c,k,l,q⟩:=b;subst ex;obtain rfl:u=Value.ref a:=n;exact ui d j c k l (q s1 d)
end
section
variable {X:Cx}{pins:List (Ad×Obj)}{B:St}{H:Hp}{s:Ac}{A:Am}{E:Ab->Ac->Prop}{Q:Ab->Ac->Prop}{c:Ab}{b:Bool}
inductive uN (K:Ae)(H:Hp):V->Ab->Prop where
 |non:uN K H .non (.type "NoneType")
 |bl (x:Bool):uN K H (.bl x) (.type "bool")
 |int (i:Int):uN K H (.int i) (.type "int")
 |str (x:Str):uN K H (.str x) (.type "str")
 |flt (x:UInt64):uN K H (.flt x) (.type "float")
 |lst {a:Ad}{xs:List V} (e:H a=some (.lst xs)):uN K H (.ref a) (.type "list")
 |frz {a:Ad}{o:Obj}{xs:List V} (e:H a=some (.frz o (.lst xs))):uN K H (.ref a) (.type "list")
 |tup {a:Ad}{xs:List V} (e:H a=some (.tup xs)):uN K H (.ref a) (.type "tuple")
 |dK {a:Ad}{kvs:List (Key×V)} (e:H a=some (.dK kvs)):uN K H (.ref a) (.type "dict")
 |dT {a:Ad}{kvs:List (List Key×V)} (e:H a=some (.dT kvs)):uN K H (.ref a) (.type "dict")
 |ins {a C dx:Ad}{fs:List (Str×V)} (e:H a=some (.ins C dx fs)) (cl:Cls K C) (ha:PySem.W.findIn K (.ref C) "__class__"=some (some (.builtin "object.__class__")))
   (hn:PySem.W.specialIn K (.builtin "object.__class__") "__get__"=some (some (.builtin "getset_descriptor.__get__"))) (htk:PySem.W.takesIn K (.builtin "object.__class__")=some true)
   (hm:PySem.W.mroIn K C (.type "object")=some true):uN K H (.ref a) (.ref C)
theorem cq {x:V}{u t:Ab}(I:Inv X pins B H s)(d:RelV x u)(ty:uN X.K H x t)(e:PySem.W.kitOne X.K t c=some b)(h:∀f,Q (.bool b) {s with toks:=f}):
  Aj (Ah X.prog X.w) A (call (.builtin "isinstance") [u,c]) Q E s:=by
 cases ty with
 |non=>cases(d);exact yg9 PySem.W.kitx_none I.kIn True.intro e (λz=>nomatch z) h
 |bl y=>cases(d);exact yg9 PySem.W.kitx_bool I.kIn True.intro e (λz=>nomatch z) h
 |int i=>obtain⟨t,q⟩:=(d);cases q;exact yg9 PySem.W.kitx_int I.kIn True.intro e (λz=>nomatch z) h
 |str y=>obtain⟨t,q⟩:=(d);cases q;exact yg9 PySem.W.kitx_str I.kIn True.intro e (λz=>nomatch z) h
 |flt y=>obtain⟨t,q⟩:=(d);cases q;exact yg9 PySem.W.kitx_float I.kIn True.intro e (λz=>nomatch z) h
 |@lst a xs ea=>
  cases(d);obtain⟨_,_,n,_,h1⟩:=(I.hok a _ ea);exact yg9 PySem.W.kitx_list I.kIn ⟨_,h1,rfl⟩ e (λz=>nomatch z) h
 |@frz a ob xs ea=>
  cases(d);obtain⟨_,_,_,n,_,h1⟩:=(I.hok a _ ea);exact yg9 PySem.W.kitx_list I.kIn ⟨_,h1,rfl⟩ e (λz=>nomatch z) h
 |@tup a xs ea=>
  cases(d);obtain⟨_,_,_,p⟩:=(I.hok a _ ea);obtain⟨o,h1,h2,_⟩:=p;exact yg9 PySem.W.kitx_tuple I.kIn ⟨o,h1,h2⟩ e (λz=>nomatch z) h
 |@dK a kvs ea=>
  cases(d);obtain⟨_,_,vs,_,p⟩:=(I.hok a _ ea);obtain⟨o,es,ep,h1,h2,_⟩:=p;exact yg9 PySem.W.kitx_dict I.kIn ⟨o,h1,h2.1⟩ e (λz=>nomatch z) h
 |@dT a kvs ea=>
  cases(d);obtain⟨_,_,xs,_,o,es,ep,h1,h2,_⟩:=(I.hok a _ ea);exact yg9 PySem.W.kitx_dict I.kIn ⟨o,h1,h2.1⟩ e (λz=>nomatch z) h
 |@ins a C dx fs ea cl ha hn htk hm=>
  cases(d);obtain⟨mA,O,_⟩:=sQ I.hok ea;obtain⟨od,J,_⟩:=O.look;exact yg9 (PySem.W.kitx_own (cl.get _) cl.hd ha hn htk hm) I.kIn J e (λz=>nomatch z) h
end
structure zM (k:Nat)(A:Am):Prop where
 hd:A.handled=none
 dp:A.depth+3*k+5<recursionLimit
 un:A.units+16*k+200<cLine
 gd:A.guards=some []
def zM.mono {j k:Nat}{A:Am}(r:zM k A)(h:j<=k):zM j A:=⟨r.hd,by have:=r.dp;lia,by have:=r.un;lia,r.gd⟩
theorem zM.deeper {k:Nat}{A:Am}(r:zM (k+1) A)(env:Ar):zM k (A.deeper env):=
 ⟨r.hd,by have:=r.dp;show A.depth+1+3*k+5<_;exact zC3 this,by have:=r.un;show A.units+3+16*k+200<_;lia,r.gd⟩
theorem zM.in1 {k:Nat}{A:Am}(r:zM (k+1) A):zM k A.in1:=
 ⟨r.hd,by have:=r.dp;show A.depth+3*k+5<_;lia,by have:=r.un;show A.units+1+16*k+200<_;exact zB5 this,r.gd⟩
def js {A:Am}{C:Ad}{us:List Ab}{kw:List (Str×Ab)}:(A.under (.builtin "type.__call__" ⟨.ref C::us,kw⟩)).depth=A.depth+1:=by
 first|rfl|simp[Around.under,Code.weight,Code.isCreation,Code.isGuard,Code.isCaller,Code.frames,Code.isFrame,guardIds]
def jK {A:Am}{C:Ad}{us:List Ab}{kw:List (Str×Ab)}:(A.under (.builtin "type.__call__" ⟨.ref C::us,kw⟩)).units=A.units+1:=by
 first|rfl|simp[Around.under,Code.cUnits,Code.frames,Code.isFrame]
def mL {A:Am}{C:Ad}{us:List Ab}{kw:List (Str×Ab)}:(A.under (.builtin "type.__call__" ⟨.ref C::us,kw⟩)).guards=A.guards:=by
 first|rfl|simp[Around.under,Code.guards,Code.isGuard,guardIds,pushGuards]
def zM.make {k:Nat}{A:Am}(r:zM (k+1) A)(C:Ad)(us:List Ab)(kw:List (Str×Ab)):zM k (A.under (.builtin "type.__call__" ⟨.ref C::us,kw⟩)):=
 ⟨r.hd,by have:=r.dp;rw[js];exact zC3 this,by have:=r.un;rw[jK];exact zB5 this,(mL).trans r.gd⟩
theorem zM.depth {k:Nat}{A:Am}(r:zM k A):A.depth<recursionLimit:=by have:=r.dp;exact ya7 (ya0 _ _) (ya7 (ya0 _ _) this)
theorem zM.units {k:Nat}{A:Am}(r:zM k A):A.units+64<cLine:=by have:=r.un;lia
def zY9 :TA:=λ_ H Q=>Q [] H
def zZ2 (b:TE)(tr:TA):TA:=λB H Q=>b B H λx H1=>tr B H1 λxs a=>Q (x::xs) a
section
variable {X:Cx}{e:Al}{es:List Al}{te:TE}{t:TA}{pos:Pos}
def zJ :PA X [] zY9:=λ_ _ _ _ H Q I h=>Calls.spliced_nil ⟨[],H,I,.nil,h⟩
def zv (ha:PE X e te)(hr:PA X es t)(k:Af (e::es) X.env=(false,eval e X.env)::Af es X.env:=by rfl):PA X (e::es) (zZ2 te t):=by
 intro pos pins s B H Q I h;rw[k];refine Calls.spliced_cons (thn (ha pins s B H _ I h) λu s1 a=>?_);obtain⟨x,H1,j,f,i⟩:=a;exact thn (hr pos pins s1 B H1 _ j i) λus s2 b=>by obtain⟨xs,d,c,l,g⟩:=b;exact⟨x::xs,d,c,.cons f l,g⟩
def z31 (t:TA):TE:=λB H Q=>t B H λxs H1=>xs.length<=sizeLine/\∀p,H1 p=none->Q (.ref p) (upd H1 p (.tup xs))
def z49 (t:TA):TE:=λB H Q=>t B H λxs H1=>xs.length<=sizeLine/\∀p,H1 p=none->Q (.ref p) (upd H1 p (.lst xs))
def kM {x1}(h:PA X es t):PE X (.Tuple es x1 pos) (z31 t):=by
 intro pins s B H Q I hq;refine wpAny_Tuple_spliced (thn (h pos pins s B H _ I hq) λus s1 ⟨xs,H1,a,r,z,q⟩=>⟨by rw[<-r.length];exact z,?_⟩);refine⟨.ref s1.heap.objs.size,upd H1 s1.heap.objs.size (.tup xs),a.laid (λb u e=>z79 _ e) (z82 _) ?_,rfl,q _ (a.hok.fresh (z82 _))⟩;exact⟨z,us,r,⟨_,z86 _ rfl,rfl,_,rfl⟩⟩
def aO (h:PA X es t):PE X (.List es pos) (z49 t):=by
 intro pins s B H Q I hq;refine wpAny_List_spliced (thn (h pos pins s B H _ I hq) λus s1 ⟨xs,H1,a,r,z,q⟩=>⟨by rw[<-r.length];exact z,?_⟩);refine⟨.ref s1.heap.objs.size,upd H1 s1.heap.objs.size (.lst xs),a.laid (λb u e=>z79 _ e) (z82 _) ?_,rfl,q _ (a.hok.fresh (z82 _))⟩;exact⟨z,us,0,r,z86 _ rfl⟩
end
abbrev Sp :=List V->Hp->VK->XK->Prop
abbrev CXT :=List Ar->Hp->Ac->XK->Ab->Ac->Prop
structure uW (P:Ag)(w:Ak)(K:Ae)(mg:Str->Option Ab)(base:Ao)(A:Am)(outer:List Ar)(s:Ac)(H:Hp):Prop where
 frames:A.frames=some outer
 mod:Mod K mg base
 bs:∀b o,base.get? b=some o->s.heap.get? b=some o/\H b=none
 bsz:base.objs.size<=s.heap.objs.size
 funs:s.heap.FunFrames base outer
 frf:∀b∈frs outer,H b=none
 hok:HOk P w H s.heap
 bare:AllBare s.gens
def CE (outer:List Ar)(P:Ag)(w:Ak)(H:Hp)(s:Ac)(Q:VK)(u:Ab)(s':Ac):Prop:=
 ∃v H',s'.os=s.os/\AllBare s'.gens/\Un (frs outer) [] H H' s.heap s'.heap/\HOk P w H' s'.heap/\RelV v u/\Q v H'
def CR (CX:CXT)(outer:List Ar)(P:Ag)(w:Ak)(H:Hp)(s:Ac)(Q:VK)(E:XK)(r:Result)(s':Ac):Prop:=
 match r with
 |.ok (.ret u)=>CE outer P w H s Q u s'
 |.ok _=>False
 |.error e=>CX outer H s E e s'
structure yM (P:Ag)(w:Ak)(K:Ae)(mg:Str->Option Ab)(base:Ao)(CX:CXT)(k:Nat)(f:Ad)(fd:Ap)(ps:List Str)(sp:Sp):Prop where
 len:∀vs H Q E,sp vs H Q E->vs.length=ps.length
 run:∀(A:Am) (outer:List Ar) (s:Ac) (H:Hp) (args:Args) (us:List Ab) (vs:List V) (Q:VK) (E:XK),zM k A->uW P w K mg base A outer s H->BindsTo s fd args (ps.zip us)->Vals vs us->sp vs H Q E->
  codeAny (Ah P w) A (.call (.ref f) args) (CR CX outer P w H s Q E) s
def yM.imp {P:Ag}{w:Ak}{K:Ae}{mg:Str->Option Ab}{base:Ao}{CX:CXT}{k:Nat}{f:Ad}{fd:Ap}{ps:List Str}{sp a:Sp}(F:yM P w K mg base CX k f fd ps sp)
  (h:∀vs H Q E,a vs H Q E->sp vs H Q E):yM P w K mg base CX k f fd ps a:=
 ⟨λvs H Q E q=>F.len vs H Q E (h _ _ _ _ q),λA outer s H args us vs Q E hr he hb b c=>F.run A outer s H args us vs Q E hr he hb b (h _ _ _ _ c)⟩
def uW.make {P:Ag}{w:Ak}{K:Ae}{mg:Str->Option Ab}{base:Ao}{A:Am}{outer:List Ar}{s:Ac}{H:Hp}(e:uW P w K mg base A outer s H)(C:Ad)(us:List Ab)(kw:List (Str×Ab)):
  uW P w K mg base (A.under (.builtin "type.__call__" ⟨.ref C::us,kw⟩)) outer s H:=⟨by first|exact e.frames|(simpa[Around.under,Code.envs,Code.isFrame,pushEnvs]using e.frames),e.mod,e.bs,e.bsz,e.funs,e.frf,e.hok,e.bare⟩
theorem uW.in1 {P:Ag}{w:Ak}{K:Ae}{mg:Str->Option Ab}{base:Ao}{A:Am}{outer:List Ar}{s:Ac}{H:Hp}(e:uW P w K mg base A outer s H):
  uW P w K mg base A.in1 outer s H:=⟨e.frames,e.mod,e.bs,e.bsz,e.funs,e.frf,e.hok,e.bare⟩
section
variable {X:Cx}{pins:List (Ad×Obj)}{B:St}{H:Hp}{s s':Ac}
def Inv.env0 (I:Inv X pins B H s):uW X.prog X.w X.K X.mg X.base X.A X.stack s H:=
 ⟨I.ok.frames,I.ok.mod,I.bs,z93 I.ok.bsz I.sz,I.stack,I.stkFree,I.hok,I.bare⟩
def Inv.after {Q:VK}{u:Ab}(I:Inv X pins B H s)(h:CE X.stack X.prog X.w H s Q u s'):EP X pins B Q u s':=by
 obtain⟨v,H',os,bare,un,hok,r,q⟩:=h;obtain⟨c,g,d,t,a⟩:=s';obtain rfl:a=s.os:=os;exact⟨v,H',I.call un hok bare (λb z=>absurd z (by simp)),r,q⟩
end
def zW2 (sp:Sp)(dvs:List V)(E:XK)(t:TA):TE:=λB H Q=>t B H λvs H1=>sp (vs++dvs) H1 Q E
def zD7 (C:Ad)(m:Str)(sp:Sp)(dvs:List V)(E:XK)(c:TE)(t:TA):TE:=λB H Q=>c B H λx H1=>∃a dx fs,x=.ref a/\H1 a=some (.ins C dx fs)/\fs.lookup m=none/\
 t B H1 λvs b=>sp (x::(vs++dvs)) b Q E
def zX5 (C:Ad)(sp:Sp)(dvs:List V)(E:XK)(t:TA):TE:=λB H Q=>t B H λvs H1=>∀x dx,H1 x=none->H1 dx=none->dx≠x->
 sp (.ref x::(vs++dvs)) (upd (upd H1 dx (.own x)) x (.ins C dx [])) (λv a=>v=.non/\Q (.ref x) a) E
def Binds (K:Ae)(fd:Ap)(ps:List Str)(ds:List Ab):Prop:=
 ∀(s:Ac) (us:List Ab),K.In s.heap->(us++ds).length=ps.length->BindsTo s fd ⟨us,[]⟩ (ps.zip (us++ds))
def Binds.all {K:Ae}{fd:Ap}{ps:List Str}(h:∀us:List Ab,us.length=ps.length->bindArgs fd ⟨us,[]⟩=pure (ps.zip us)):Binds K fd ps []:=λs us _ a=>by
 rw[ye3]at a ⊢;exact .of_eq (h us a)
def Passes (CX:CXT)(X:Cx)(E:XK):Prop:=∀(pins:List (Ad×Obj)) (B:St) (H:Hp) (s:Ac) (e:Ab) (s':Ac),Inv X pins B H s->CX X.stack H s E e s'->X.xe e s'
section
variable {X:Cx}{CX:CXT}{k:Nat}{f C:Ad}{fd:Ap}{ps:List Str}{sp:Sp}{dvs:List V}{ds:List Ab}{E:XK}{x m:Str}{p pos apos:Pos}{e o:Al}{es:List Al}{ta:TE}{t:TA}
theorem jZ {pins:List (Ad×Obj)}{B:St}{H:Hp}{s:Ac}{Q:VK}{us:List Ab}{vs:List V}(F:yM X.prog X.w X.K X.mg X.base CX k f fd ps sp)(hr:zM k X.A)(hb:Binds X.K fd ps ds)(hd:Vals dvs ds)(d:Passes CX X E)
  (I:Inv X pins B H s) (r:Vals vs us) (h:sp (vs++dvs) H Q E):Aj (Ah X.prog X.w) X.A (call (.ref f) us) (EP X pins B Q) X.xe s:=by
 have a:=r.append hd;have c:(us++ds).length=ps.length:=by rw[<-a.length];exact F.len _ _ _ _ h
 refine wpAny_call (yp0 (F.run X.A X.stack s H ⟨us,[]⟩ (us++ds) (vs++dvs) Q E hr I.env0 (hb s us I.kIn c) a h) λr s' hq=>?_);cases r with
 |error e=>exact d pins B H s e s' I hq
 |ok b=>
  cases b with
  |ret u=>exact I.after hq
  |next=>exact False.elim hq
  |brk=>exact False.elim hq
  |cont=>exact False.elim hq
def oU (F:yM X.prog X.w X.K X.mg X.base CX k f fd ps sp)(hr:zM k X.A)(hg:Gl X x)(hm:X.mg x=some (.ref f))(hk:PySem.W.keepIn X.K (.ref f)=true)(hb:Binds X.K fd ps ds)(hd:Vals dvs ds)(d:Passes CX X E)
  (ha:PA X (e::es) t) (b:(x == ("__debug__":Str))=false:=by decide) (he:Af (e::es) X.env=(false,eval e X.env)::Af es X.env:=by rfl) (hpl:(backTo pos (Af es X.env)).any (·.1)=false:=by rfl):
  PE X (.Call (.Name x p) (e::es) [] pos) (zW2 sp dvs E t):=by
 intro pins s B H Q I h;refine yn9 (uS I hg hm (yu2 I.ok.mod.kin hk (thn (ha pos pins s B H _ I h) λus s1 a=>?_) he hpl) b);obtain⟨vs,H1,c,r,q⟩:=a;exact⟨c.kIn,jZ F hr hb hd d c r q⟩
def zn5 {z:Sem Bool}(he:PE X o ta)(c:Cls X.K C)(hm:Meth X.K C m f)(F:yM X.prog X.w X.K X.mg X.base CX k f fd ps sp)(hr:zM k X.A)(hb:Binds X.K fd ps ds)(hd:Vals dvs ds)(v:Passes CX X E)(ha:PA X (e::es) t)
  (g:Af (e::es) X.env=(false,eval e X.env)::Af es X.env:=by rfl) (hpl:(backTo pos (Af es X.env)).any (·.1)=false:=by rfl)
  (G:eval (.Call (.Attribute o m apos) (e::es) [] pos) X.env=(do
   let ov <-eval o X.env
   standAt apos.atName
   let(f,first) <-holding [ov] (getMethod ov m z)
   callWith pos f first (backTo pos (Af (e::es) X.env)) (backToKw pos (keywordEach [] X.env))):=by rfl):
  PE X (.Call (.Attribute o m apos) (e::es) [] pos) (zD7 C m sp dvs E ta t):=by
 intro pins s B H Q I h;refine ys8 (thn (he pins s B H _ I h) λu s1 b=>?_) G;obtain⟨x,H1,j,y,a,dx,fs,ex,n,l,q⟩:=b;subst ex;obtain rfl:u=Value.ref a:=y;refine ui j n c hm l ?_;refine yu2 I.ok.mod.kin hm.kp (thn (ha pos pins s1 B H1 _ j q) λus s2 d=>?_) g hpl;obtain⟨vs,J,i,r,D⟩:=d;exact⟨i.kIn,jZ (vs:=.ref a::vs) F hr hb hd v i (.cons rfl r) D⟩
def ze7 {j:Sem Bool}(he:PE X o ta)(c:Cls X.K C)(hm:Meth X.K C m f)(F:yM X.prog X.w X.K X.mg X.base CX k f fd ps sp)(hr:zM k X.A)(hb:Binds X.K fd ps ds)(hd:Vals dvs ds)(n:Passes CX X E)
  (r:eval (.Call (.Attribute o m apos) [] [] pos) X.env=(do
   let ov <-eval o X.env
   standAt apos.atName
   let(f,first) <-holding [ov] (getMethod ov m j)
   callWith pos f first (backTo pos (Af [] X.env)) (backToKw pos (keywordEach [] X.env))):=by rfl):
  PE X (.Call (.Attribute o m apos) [] [] pos) (zD7 C m sp dvs E ta zY9):=by
 intro pins s B H Q I h;refine ys8 (thn (he pins s B H _ I h) λu s1 b=>?_) r;obtain⟨x,H1,d,g,a,dx,fs,ex,i,l,q⟩:=b;subst ex;obtain rfl:u=Value.ref a:=g;refine ui d i c hm l ?_;exact PySem.W.callWith_K0 d.kIn hm.kp (jZ (vs:=[.ref a]) F hr hb hd n d (.cons rfl .nil) q)
structure Mk (K:Ae)(C f:Ad):Prop where
 makes:PySem.W.makesIn K C=true
 init:PySem.W.findIn K (.ref C) "__init__"=some (some (.ref f))
 fn:PySem.W.isFn K (.ref f)=true
 kp:PySem.W.keepIn K (.ref C)=true
theorem ag {pins:List (Ad×Obj)}{B:St}{H:Hp}{s:Ac}{Q:VK}{us:List Ab}{vs:List V}(M:Mk X.K C f)(F:yM X.prog X.w X.K X.mg X.base CX k f fd ps sp)(hr:zM (k+1) X.A)(hb:Binds X.K fd ps ds)(hd:Vals dvs ds)
  (i:Passes CX X E) (I:Inv X pins B H s) (r:Vals vs us)
  (h:∀x dx,H x=none->H dx=none->dx≠x->sp (.ref x::(vs++dvs)) (upd (upd H dx (.own x)) x (.ins C dx [])) (λv d=>v=.non/\Q (.ref x) d) E):
  Aj (Ah X.prog X.w) X.A (call (.ref C) us) (EP X pins B Q) X.xe s:=by
 have hq:=h (s.heap.objs.size+1) s.heap.objs.size (I.hok.fresh (yh7 _)) (I.hok.fresh (z82 _)) (z96 (yd7 _));have b:=Inv.made (C:=C) I;have c:Vals (V.ref (s.heap.objs.size+1)::(vs++dvs)) (Value.ref (s.heap.objs.size+1)::(us++ds)):=.cons rfl (r.append hd);have g:(Value.ref (s.heap.objs.size+1)::us++ds).length=ps.length:=by
  have e:=c.length;rw[F.len _ _ _ _ hq]at e;exact e.symm
 refine wpAny_call (zd6 I.kIn M.makes M.init (yp2.mp M.fn) (yp0 (F.run _ X.stack _ _ ⟨Value.ref (s.heap.objs.size+1)::us,[]⟩ (Value.ref (s.heap.objs.size+1)::(us++ds)) _ _ E (hr.make C us [])
  (b.env0.make C us []) (hb _ (Value.ref (s.heap.objs.size+1)::us) b.kIn g) c hq) λr s' a=>?_))
 cases r with
 |error e=>exact i pins B _ _ e s' b a
 |ok n=>
  cases n with
  |ret u=>
   obtain⟨v,H',q,l,ev,j⟩:=b.after a;subst ev;exact⟨l,⟨V.ref (s.heap.objs.size+1),H',q,rfl,j⟩⟩
  |next=>exact False.elim a
  |brk=>exact False.elim a
  |cont=>exact False.elim a
def zt4 (M:Mk X.K C f)(F:yM X.prog X.w X.K X.mg X.base CX k f fd ps sp)(hr:zM (k+1) X.A)(hg:Gl X x)(hm:X.mg x=some (.ref C))(hb:Binds X.K fd ps ds)(hd:Vals dvs ds)(d:Passes CX X E)
  (ha:PA X (e::es) t) (b:(x == ("__debug__":Str))=false:=by decide) (he:Af (e::es) X.env=(false,eval e X.env)::Af es X.env:=by rfl) (hpl:(backTo pos (Af es X.env)).any (·.1)=false:=by rfl):
  PE X (.Call (.Name x p) (e::es) [] pos) (zX5 C sp dvs E t):=by
 intro pins s B H Q I h;refine yn9 (uS I hg hm (yu2 I.ok.mod.kin M.kp (thn (ha pos pins s B H _ I h) λus s1 a=>?_) he hpl) b);obtain⟨vs,H1,c,r,q⟩:=a;exact⟨c.kIn,ag M F hr hb hd d c r q⟩
end
section
variable {X:Cx}{CX:CXT}{k:Nat}{f C:Ad}{fd:Ap}{ps ks:List Str}{sp:Sp}{E:XK}{x m:Str}{p pos apos kpos:Pos}{e o:Al}{es:List Al}{kws:List Keyword}{te ta:TE}{t tk:TA}{nm:Option Str}
variable {g:List Ab->List Ab->List Ab}{gV:List V->List V->List V}
end
structure zZ (N P:List Str)(sc:Aq):Prop where
 kind:sc.kind=.function
 co:sc.isCoroutine=false
 gen:sc.isGenerator=false
 nd:N.Nodup
 pre:N.take P.length=P
 par:∀x∈P,sc.names.lookup x=some .local\/sc.names.lookup x=some .cell
 nofree:∀y∈sc.names,y.2≠.free
theorem pL {kindOf:Str->Option NameKind}{x:Str}:∀{binds:List (Str×Ab)}{m:Str->Option Ab},(∀v,(x,v)∉binds)->bindL kindOf binds m x=m x
 |[],_,_=>rfl
 |(n,v)::r,m,h=>by
  unfold bindL;rw[pL λw hw=>h w (z87 _ hw)];split
  .have:x≠n:=by rintro rfl;exact h v z89
   simp[this]
  .rfl
theorem pC {kindOf:Str->Option NameKind}{x:Str}:∀{binds:List (Str×Ab)}{m:Str->Option Ab},(∀v,(x,v)∉binds)->bindC kindOf binds m x=m x
 |[],_,_=>rfl
 |(n,v)::r,m,h=>by
  unfold bindC;rw[pC λw hw=>h w (z87 _ hw)];split
  .rfl
  .have:x≠n:=by rintro rfl;exact h v z89
   simp[this]
theorem pD {kindOf:Str->Option NameKind}{x:Str}{v:Ab}:∀{P:List Str}{vs:List Ab}{i:Nat}{m:Str->Option Ab},P.Nodup->P[i]?=some x->vs[i]?=some v->kindOf x=some .local->
  bindL kindOf (P.zip vs) m x=some v
 |[],_,_,_,_,h,_,_=>by simp at h
 |_::_,[],_,_,_,_,h,_=>by simp at h
 |p::P,w::vs,0,m,nd,h1,h2,hk=>by
  simp at h1 h2;subst h1;subst h2;show bindL kindOf ((p,w)::P.zip vs) m p=_;unfold bindL;rw[pL λv a=>(yq3.mp nd).1 (List.of_mem_zip a).1,if_pos hk];simp
 |p::P,w::vs,i+1,m,nd,h1,h2,hk=>by
  show bindL kindOf ((p,w)::P.zip vs) m x=_;unfold bindL;exact pD (i:=i) (yq3.mp nd).2 (by simpa using h1) (by simpa using h2) hk
theorem pR {kindOf:Str->Option NameKind}{x:Str}{v:Ab}:∀{P:List Str}{vs:List Ab}{i:Nat}{m:Str->Option Ab},P.Nodup->P[i]?=some x->vs[i]?=some v->kindOf x≠some .local->
  bindC kindOf (P.zip vs) m x=some v
 |[],_,_,_,_,h,_,_=>by simp at h
 |_::_,[],_,_,_,_,h,_=>by simp at h
 |p::P,w::vs,0,m,nd,h1,h2,hk=>by
  simp at h1 h2;subst h1;subst h2;show bindC kindOf ((p,w)::P.zip vs) m p=_;unfold bindC;rw[pC λv a=>(yq3.mp nd).1 (List.of_mem_zip a).1,if_neg hk];simp
 |p::P,w::vs,i+1,m,nd,h1,h2,hk=>by
  show bindC kindOf ((p,w)::P.zip vs) m x=_;unfold bindC;exact pR (i:=i) (yq3.mp nd).2 (by simpa using h1) (by simpa using h2) hk
noncomputable def start (N:List Str)(vs:List V):St:=vs.map some++List.replicate (N.length-vs.length) none
noncomputable def vM (CX:CXT)(P:Ag)(w:Ak)(K:Ae)(mg:Str->Option Ab)(base:Ao)(N:List Str)(qual:Str)(scope:Aq)(f:Ad)(cd:Ab)(A:Am)(outer:List Ar)(s:Ac)(H:Hp)(E:XK):Cx where
 prog:=P
 w:=w
 K:=K
 mg:=mg
 base:=base
 A:=A.deeper (envOfC qual scope s.heap.objs.size f cd)
 N:=N
 s₀:=s
 H₀:=H
 env:=envOfC qual scope s.heap.objs.size f cd
 outer:=outer
 stack:=envOfC qual scope s.heap.objs.size f cd::outer
 ex:=[]
 calm:=true
 fn:=λ_=>true
 pn:=[]
 xe:=λe s'=>Aj (Ah P w) (A.deeper (envOfC qual scope s.heap.objs.size f cd)) (leaving (envOfC qual scope s.heap.objs.size f cd) e) (λ_ a=>CX outer H s E e a) (λb a=>CX outer H s E b a) s'
def nP {sc:Aq}{n:Nat}{x:Str}(h:sc.names.lookup x=some .cell):∃c,(cellsFrom n sc.names []).lookup x=some c:=Option.isSome_iff_exists.mp (PySem.W.cellsFrom_some sc.names n [] (.inl h))
def cc {CX:CXT}{P:Ag}{w:Ak}{K:Ae}{mg:Str->Option Ab}{base:Ao}{N ps:List Str}{qual:Str}{scope:Aq}{f:Ad}{cd:Ab}{A:Am}{outer:List Ar}{s s1:Ac}{H:Hp}{E:XK}{us:List Ab}{vs:List V}
  (S:zZ N ps scope) (hd:A.handled=none) (d:uW P w K mg base A outer s H) (n:vs.length=ps.length) (r:Vals vs us)
  (x:InCallC s s.heap.objs.size (bindL (envOfC qual scope s.heap.objs.size f cd).kindOf (ps.zip us) λ_=>none) (cellsFrom (s.heap.objs.size+1) scope.names []) (bindC (envOfC qual scope s.heap.objs.size f cd).kindOf (ps.zip us) λ_=>none) s1):
  Inv (vM CX P w K mg base N qual scope f cd A outer s H E) [] (start N vs) H s1:=by
 have hpl:ps.length<=N.length:=by have:=congrArg List.length S.pre;rw[yc3]at this;exact z93 (ya2 this.symm) (Nat.min_le_right _ _)
 obtain⟨h1,t,rfl,hk⟩:=x.done;have g:∀b:Ad,b∉(vM CX P w K mg base N qual scope f cd A outer s H E).ex:=λb z=>absurd (show b∈([]:List Ad)from z) (by simp);refine⟨⟨d.mod,S.kind,rfl,rfl,z82 _,λy z c h1 h2=>?_,λy hy=>?_,λy c _ h=>?_,λ_=>hd,Around.frames_deeper d.frames,.inr ⟨rfl,rfl⟩,λb z=>absurd z (g b),d.bs,d.bsz,λb _ _=>g b,λb z=>absurd z (g b),d.funs,d.frf⟩,
  rfl,d.bare,Un.kept hk,⟨_,x.toInCall.ns,λi y v h1 h2 h3=>?_⟩,λy c h=>⟨_,x.cell y c h⟩,d.hok.fresh (z82 _),λy c h=>?_,λp l=>absurd (show p∈([]:List (Ad×Obj))from l) (by simp),d.hok.kept hk,?_⟩
 .exact name_of_addr x.apart (yf9 h1) (yf9 h2)
 .have hy:=hy;rcases hy with hy|hy
  .exact nP hy
  .exact absurd rfl (S.nofree _ (yf9 hy))
 .exact yd3 (x.above y c (yf9 h))
 .have hi:i<vs.length:=by
   unfold start at h2;by_cases hi:i<vs.length
   .exact hi
   .rw[ye7 (by simpa using hi)]at h2;rw[yl5]at h2;split at h2<;>cases h2
  have ha:vs[i]?=some v:=by
   unfold start at h2;rw[ye4 (by simpa using hi),z88]at h2;cases e:vs[i]? with
   |none=>rw[e]at h2;cases h2
   |some a=>rw[e]at h2;cases h2;rfl
  obtain⟨u,m,o⟩:=r.get ha;have l:ps[i]?=some y:=by rw[<-S.pre,List.getElem?_take_of_lt (z83 hi (ya2 n))];exact h1
  have j:ps.Nodup:=by rw[<-S.pre];exact S.nd.sublist (yk9 _ _)
  refine⟨u,o,?_⟩;rcases S.par y (yb6 l)with k|k
  .exact .inl ⟨k,pD j l m k⟩
  .obtain⟨c,e⟩:=nP k;refine .inr ⟨.inl k,c,e,?_⟩;have q:=x.cell y c e;rw[pR j l m (by show scope.names.lookup y≠_;rw[k];decide)]at q;exact q
 .exact d.hok.fresh (yd3 (x.above y c (yf9 h)))
 .unfold start;rw[z95,z77,List.length_replicate];exact zU9 n hpl
theorem zg7 {CX:CXT}{P:Ag}{w:Ak}{K:Ae}{mg:Str->Option Ab}{base:Ao}{k:Nat}{f:Ad}{name qual:Str}{params:Arguments}{body:List An}{scope:Aq}{dV kV doc pm cdv ct oc:Ab}{an od:Option Ad}
  {osl:Array (Option Ab)} {N ps:List Str} {sp:Sp} (z:K.lookup f=some ⟨oc,od,.func (PySem.W.fnOf name qual params body scope dV kV doc pm an cdv ct),osl⟩) (l:PySem.W.codeIn K cdv qual=true) (S:zZ N ps scope)
  (len:∀vs H Q E,sp vs H Q E->vs.length=ps.length)
  (d:∀(A:Am) (outer:List Ar) (s:Ac) (H:Hp) (vs:List V) (Q:VK) (E:XK),zM k (A.deeper (envOfC qual scope s.heap.objs.size f cdv))->sp vs H Q E->
   ∃t,PSs (vM CX P w K mg base N qual scope f cdv A outer s H E) body t/\t {nx:=λ_ H'=>Q .non H',rt:=Q} (start N vs) H):
  yM P w K mg base CX (k+1) f (PySem.W.fnOf name qual params body scope dV kV doc pm an cdv ct) ps sp:=by
 refine⟨len,λA outer s H args us vs Q E hr j hb r i=>?_⟩;have p:=j.mod.kin.keeps λb o e=>(j.bs b o e).1;have c:∀y∈ps.zip us,scope.names.lookup y.1=some .local\/(scope.names.lookup y.1=some .cell/\((cellsFrom (s.heap.objs.size+1) scope.names []).lookup y.1).isSome=true):=λh hy=>by
  obtain⟨n,v⟩:=h;rcases S.par n (List.of_mem_zip hy).1 with q|q
  .exact .inl q
  .exact .inr ⟨q,PySem.W.cellsFrom_some _ _ _ (.inl q)⟩
 refine codeAny_call_function hr.depth (p _ _ z) rfl S.co S.gen rfl (PySem.W.codeRec_of p l) (hb _ _ _ _ (wpAny_newFunctionEnv_cells S.kind c λenv he s1 x=>?_));subst he;refine⟨(j.mod.nolimit.keeps λb o e=>(j.bs b o e).1).keeps x.toInCall.keep,codeAny_func ?_⟩;obtain⟨t,C,hq⟩:=d A outer s H vs Q E (hr.deeper _) i;have I:Inv (vM CX P w K mg base N qual scope f cdv A outer s H E) [] (start N vs) H s1:=cc S hr.hd j (len _ _ _ _ i) r x;refine ye0 (C [] s1 (start N vs) H _ I hq) (λB s' g=>?_) λe s' g=>g;have fin:∀{a:St} {H':Hp} {v:V} {u:Ab},Inv (vM CX P w K mg base N qual scope f cdv A outer s H E) [] a H' s'->RelV v u->Q v H'->CE outer P w H s Q u s':=
  λ{a H' v u} J m q=>⟨v,H',J.os,J.bare,J.base,J.hok,m,q⟩
 cases B with
 |ret u=>
  obtain⟨v,a,H',J,m,q⟩:=g;exact fin J m q
 |next=>
  obtain⟨a,H',J,q⟩:=g;exact fin (v:=V.non) J rfl q
 |brk=>
  obtain⟨_,_,_,q⟩:=g;exact False.elim q
 |cont=>
  obtain⟨_,_,_,q⟩:=g;exact False.elim q
section
variable {X:Cx}{x:Str}{p pos:Pos}{e:Al}{es:List Al}{t:TA}{id T:String}{r:List V->Hp->VK->Prop}
def tCB (r:List V->Hp->VK->Prop)(t:TA):TE:=λB H Q=>t B H λvs H1=>r vs H1 Q
def yT (i:yP X (.builtin id) r)(hg:Gl X x)(hm:X.mg x=none)(c:bootBuiltins x=some (.builtin id))(ha:PA X (e::es) t)(hn:x≠"__name__":=by decide)(b:(x == ("__debug__":Str))=false:=by decide)
  (he:Af (e::es) X.env=(false,eval e X.env)::Af es X.env:=by rfl) (hpl:(backTo pos (Af es X.env)).any (·.1)=false:=by rfl):PE X (.Call (.Name x p) (e::es) [] pos) (tCB r t):=by
 intro pins s B H Q I h;refine yn9 (yZ I hg hm c ?_ hn b);exact PyProof.Rows.callWith_builtin1 (thn (ha pos pins s B H _ I h) λus s1 a=>by obtain⟨vs,H1,g,d,f⟩:=a;exact i pins s1 B H1 vs us Q g d f) he hpl
def xX (i:yP X (.type T) r)(hg:Gl X x)(hm:X.mg x=none)(c:bootBuiltins x=some (.type T))(ha:PA X (e::es) t)(hn:x≠"__name__":=by decide)(b:(x == ("__debug__":Str))=false:=by decide)
  (he:Af (e::es) X.env=(false,eval e X.env)::Af es X.env:=by rfl) (hpl:(backTo pos (Af es X.env)).any (·.1)=false:=by rfl):PE X (.Call (.Name x p) (e::es) [] pos) (tCB r t):=by
 intro pins s B H Q I h;refine yn9 (yZ I hg hm c ?_ hn b);exact yc9 (thn (ha pos pins s B H _ I h) λus s1 a=>by obtain⟨vs,H1,g,d,f⟩:=a;exact i pins s1 B H1 vs us Q g d f) he hpl
end
end L2
namespace HT
open PySem PyProof.Rows
section
open PySem.SeqAt
open PySem.AutoSeq1 (wpAny_loadPart')
open PySem.MeetsSeq PySem.MeetsSeq2 PySem.MeetsSeq3
end
section
variable {prog:Ag}{w:Ak}{A:Am}{E:Ab->Ac->Prop}{s:Ac}
noncomputable def sIx (n d:Nat):Option Int->Nat
 |none=>d
 |some v=>if v<0 then(v+(n:Int)).toNat else min v.toNat n
def rY (n d:Nat):sIx n d none=d:=rfl
def gH (n d k:Nat):sIx n d (some (k:Int))=min k n:=by
 show(if(k:Int)<0 then((k:Int)+n).toNat else min (k:Int).toNat n)=min k n;rw[if_neg (Int.not_lt.2 (yo0 _)),yf0]
end
end HT
namespace L2
open PySem PySem.Spec PyProof.Rows
abbrev TO :=St->Hp->(Option Int->Hp->Prop)->Prop
def PO (X:Cx)(e:Option Al)(t:TO):Prop:=
 ∀(pins:List (Ad×Obj)) (s:Ac) (B:St) (H:Hp) (Q:Option Int->Hp->Prop),Inv X pins B H s->t B H Q->
  Aj (Ah X.prog X.w) X.A (evalPart e X.env) (λu s'=>∃o H',Inv X pins B H' s'/\IsPart u o/\Q o H') X.xe s
def zv5 :TO:=λ_ H Q=>Q none H
def z27 (t:TE):TO:=λB H Q=>t B H λx H1=>∃i,x=.int i/\Q (some i) H1
theorem intsAre_of {ns:List Int}:∀{us:List Ab},Vals (ns.map V.int) us->IntsAre us ns:=by
 induction ns with
 |nil=>intro us r;rw[yp1]at r;cases r;exact .nil
 |cons n ns a=>
  intro us r;rw[ya6]at r;cases r with
  |cons c b=>
   obtain⟨t,e⟩:=c;subst e;exact .cons n t (a b)
section
variable {X:Cx}{e:Al}{te:TE}{lo hi:Option Al}{tl th:TO}{pos p2:Pos}
def oW :PO X none zv5:=by
 intro pins s B H Q I h;rw[evalPart_none];exact z80 ⟨none,H,I,.none,h⟩
def oS (h:PE X e te):PO X (some e) (z27 te):=by
 intro pins s B H Q I hw;rw[evalPart_some];refine thn (h pins s B H _ I hw) λu s1 a=>?_;obtain⟨x,H1,d,b,c⟩:=a;obtain⟨i,rfl,q⟩:=c;obtain⟨t,rfl⟩:=b;exact⟨some i,H1,d,.int i t,q⟩
def SlR (X:Cx)(r:V->Option Int->Option Int->Hp->VK->Prop):Prop:=
 ∀(pins:List (Ad×Obj)) (s:Ac) (B:St) (H:Hp) (x:V) (v a b:Ab) (lo hi:Option Int) (sl:Ad) (Q:VK),Inv X pins B H s->RelV x v->s.heap.IsSliceOf sl a b .none->IsPart a lo->IsPart b hi->r x lo hi H Q->
  ∃T id,typeLookup (.type T) "__getitem__"=pure (some (.builtin id))/\s.TypeIs v T/\Aj (Ah X.prog X.w) X.A (getItem v (.ref sl)) (EP X pins B Q) X.xe s
def tSl (r:V->Option Int->Option Int->Hp->VK->Prop)(te:TE)(tl th:TO):TE:=λB H Q=>te B H λx H1=>tl B H1 λl a=>th B a λu b=>r x l u b Q
def qm {r:V->Option Int->Option Int->Hp->VK->Prop}(hr:SlR X r)(he:PE X e te)(i:PO X lo tl)(j:PO X hi th):PE X (.Subscript e (.Slice lo hi none p2) pos) (tSl r te tl th):=by
 intro pins s B H Q I h;refine Subscript_ (thn (he pins s B H _ I h) λv s1 ⟨x,H1,y,k,t⟩=>wpAny_Slice (thn (i pins s1 B H1 _ y t) λc s2 ⟨l,g,f,o,p⟩=>thn (j pins s2 B g _ f p) λa s3 ⟨u,d,w,pu,m⟩=>?_));rw[evalPart_none];refine z80 ?_;have n:Inv X pins B d {s3 with heap:=s3.heap.push {cls:=.type "slice",data:=.fields #[c,a,.none]}}:=w.kept λb ob q=>z79 _ q;obtain⟨T,id,A,z,hg⟩:=hr pins {s3 with heap:=s3.heap.push {cls:=.type "slice",data:=.fields #[c,a,.none]}} B d x v c a l u s3.heap.objs.size Q n k (Heap.IsSliceOf.new ..) o pu m;exact tail_any z A hg (by with_unfolding_all rfl)
noncomputable def kI (xs:List V)(lo hi:Option Int):List V:=(xs.drop (HT.sIx xs.length 0 lo)).take (HT.sIx xs.length xs.length hi-HT.sIx xs.length 0 lo)
def kl (xs:List V)(lo hi:Option Int):(kI xs lo hi).length<=xs.length:=by
 unfold kI;rw[yc3,yj9];exact z93 (Nat.min_le_right _ _) (Nat.sub_le _ _)
end
noncomputable def ixN (n:Nat)(i:Int):Option Nat:=if 0<=i then(if i<n then some i.toNat else none)else if -(n:Int)<=i then some (i+n).toNat else none
noncomputable def atI {O:Type}(xs:List O)(i:Int):Option O:=(ixN xs.length i).bind λj=>xs[j]?
def oN {n:Nat}{i:Int}{j:Nat}(h:ixN n i=some j):seqIndex? i n=some j/\j<n/\-(n:Int)<=i/\i<n:=by
 unfold ixN at h;by_cases h0:0<=i
 .rw[if_pos h0]at h;by_cases h1:i<n
  .rw[if_pos h1]at h;exact⟨by rw[seqIndex_of h0 h1,(yb5 h)],by lia,by lia,h1⟩
  .rw[if_neg h1]at h;cases h
 .rw[if_neg h0]at h;by_cases h1:-(n:Int)<=i
  .rw[if_pos h1]at h;exact⟨by rw[seqIndex_neg (yt5.1 h0) h1,(yb5 h)],by lia,h1,(yk1 (yt5.1 h0) (yo0 _))⟩
  .rw[if_neg h1]at h;cases h
theorem oR {O:Type}{xs:List O}{i:Int}{v:O}(h:atI xs i=some v):∃j,seqIndex? i xs.length=some j/\xs[j]?=some v/\j<xs.length/\-(xs.length:Int)<=i/\i<xs.length:=by
 unfold atI at h;cases e:ixN xs.length i with
 |none=>rw[e]at h;cases h
 |some j=>
  rw[e]at h;obtain⟨h1,h2,h3,a⟩:=oN e;exact⟨j,h1,h,h2,h3,a⟩
def yC {O:Type}{xs:List O}{j:Nat}{v:O}(h:xs[j]?=some v):atI xs (j:Int)=some v:=by
 have e:ixN xs.length j=some j:=by
  unfold ixN;rw[if_pos (yo0 _),if_pos (Int.ofNat_lt.2 ((z81.mp h).1))];simp
 unfold atI;rw[e];exact h
def cU {O:Type}(xs:List O)(v:O):atI (xs++[v]) (-1)=some v:=by
 have a:(xs++[v]).length=xs.length+1:=by simp
 have e:ixN (xs++[v]).length (-1)=some xs.length:=by
  unfold ixN;rw[a,if_neg (by decide),if_pos (by lia)]
  congr 1
  lia
 unfold atI;rw[e];simp
def oA (b:Al):Prop:=∀o i,subscripted b false o i=operate [o,i] (getItem o i)
def IxR (X:Cx)(r:R2):Prop:=
 ∀(value slice:Al) (pins:List (Ad×Obj)) (s:Ac) (B:St) (H:Hp) (x y:V) (v u:Ab) (Q:VK),Inv X pins B H s->RelV x v->RelV y u->r x y H Q->
  subscripted slice false v u=operate [v,u] (getItem v u)->Aj (Ah X.prog X.w) X.A (subscriptTail value slice v u) (EP X pins B Q) X.xe s
def MtR (X:Cx)(id:String)(r:V->List V->Hp->VK->Prop):Prop:=
 ∀(pins:List (Ad×Obj)) (s:Ac) (B:St) (H:Hp) (x:V) (xs:List V) (v:Ab) (us:List Ab) (Q:VK),Inv X pins B H s->RelV x v->Vals xs us->r x xs H Q->
  Aj (Ah X.prog X.w) X.A (call (.builtin id) (v::us)) (EP X pins B Q) X.xe s
section
variable {X:Cx}{a b:Al}{ta tb:TE}{pos:Pos}
def IxR.or {r e:R2}(h:IxR X r)(h':IxR X e):IxR X (λx y H Q=>r x y H Q\/e x y H Q):=by
 intro value slice pins s B H x y v u Q I c d q f;rcases q with q|q
 .exact h value slice pins s B H x y v u Q I c d q f
 .exact h' value slice pins s B H x y v u Q I c d q f
def yI {r:R2}(hr:IxR X r)(ha:PE X a ta)(hb:PE X b tb)(g:oA b):PE X (.Subscript a b pos) (tOp r ta tb):=by
 intro pins s B H Q I h;exact Subscript_ (zI6 ha hb I h λv u s2 x y d c e f q=>hr a b pins s2 B d x y v u Q c e f q (g _ _))
def zO1 (K:Ae):R2:=λx y H Q=>∃p xs i v,x=.ref p/\y=.int i/\SqL K H p xs/\atI xs i=some v/\Q v H
def zS8 (K:Ae):R2:=λx y H Q=>∃p xs i v,x=.ref p/\y=.int i/\SqT K H p xs/\atI xs i=some v/\Q v H
def zS1 :R2:=λx y H Q=>∃z i c,x=.str z/\y=.int i/\z.length<=sizeLine/\atI z.cps.toList i=some c/\Q (.str ⟨#[c]⟩) H
def zS :IxR X (zO1 X.K):=by
 intro value slice pins s B H x y v u Q I A C h k;obtain⟨p,xs,i,z,rfl,rfl,hq,he,q⟩:=h;cases A;obtain⟨t,rfl⟩:=C;obtain⟨d,r,e,m⟩:=I.list hq;obtain⟨j,h1,h2,h3,l,g⟩:=oR he;obtain⟨w,n,c⟩:=r.get h2;have o:=r.length;have hn:=sZ;have fin:EP X pins B Q w s:=⟨z,H,I,c,q⟩;by_cases h0:0<=i
 .have f:i.toNat=j:=by
   rw[seqIndex_of h0 g]at h1;exact yb5 h1
  exact item_listR e.isList h0 (bN hn g m) (by rw[f];simpa using n) fin k
 .have f:(i+(d.toArray.size:Int)).toNat=j:=by
   rw[seqIndex_neg (yt5.1 h0) l]at h1;rw[z99,<-o];exact yb5 h1
  exact subscriptTail_builtinR e.isList.typeIs slot_list_getitem.lookup
   (wpAny_getItem_list_neg e.isList (yt5.1 h0) (by rw[z99]<;>lia) (zb7 l m hn) (by rw[f];simpa using n) ⟨rfl,fin⟩) k
def bU :IxR X (zS8 X.K):=by
 intro value slice pins s B H x y v u Q I n o h k;obtain⟨p,xs,i,z,rfl,rfl,hq,he,q⟩:=h;cases n;obtain⟨t,rfl⟩:=o;obtain⟨g,r,e,d⟩:=I.tuple hq;obtain⟨j,h1,h2,h3,l,f⟩:=oR he;obtain⟨w,m,c⟩:=r.get h2;have hn:=sZ;have fin:EP X pins B Q w s:=⟨z,H,I,c,q⟩;exact subscriptTail_builtinR e.typeIs slot_tuple_getitem.lookup
  (getItem_tuple e (zb7 l d hn) (bN hn f d) (by rw[z99,<-r.length];exact h1) (by simpa using m) ⟨rfl,fin⟩) k
def zN9 :IxR X zS1:=by
 intro value slice pins s B H x y v u Q I d g h k;obtain⟨z,i,c,rfl,rfl,n,he,q⟩:=h;obtain⟨t,rfl⟩:=d;obtain⟨t',rfl⟩:=g;obtain⟨j,h1,h2,h3,l,e⟩:=oR he;have f:z.cps.toList.length=z.length:=by simp[Str.length]
 rw[f]at h1 l e;have hn:=sZ;exact tail_any (typeIs_str s z t) slot_str_getitem.lookup (getItem_str (by
  have e1:decide (i < -(2 ^ 63:Int))=false:=ya3 (by lia);have m:decide (i≥2 ^ 63)=false:=ya3 (by lia);rw[e1,m,yp5]) (by rw[h1];simpa using h2) ⟨.str ⟨#[c]⟩,H,I.tok _,⟨_,rfl⟩,q⟩) k
def rIx (K:Ae):R2:=λx y H Q=>zO1 K x y H Q\/zS8 K x y H Q\/zS1 x y H Q
def zH7 :IxR X (rIx X.K):=zS.or (bU.or zN9)
def jr (c:List Ab)(n j:Nat)(u:Ab):Obj.mapSeq (·.setIfInBounds j u) {cls:=.type "list",data:=.seq c.toArray n}={cls:=.type "list",data:=.seq (c.set j u).toArray n}:=by simp[Obj.mapSeq]
theorem Inv.lst {pins:List (Ad×Obj)}{B:St}{H:Hp}{s:Ac}{p:Ad}{xs:List V}(I:Inv X pins B H s)(h:H p=some (.lst xs)):
  ∃(c:List Ab) (n:Nat),Vals xs c/\s.heap.get? p=some {cls:=.type "list",data:=.seq c.toArray n}/\xs.length<=sizeLine:=by
 obtain⟨z,c,n,r,e⟩:=I.hok p _ h;exact⟨c,n,r,e,z⟩
def Inv.lstUpd {pins:List (Ad×Obj)}{B:St}{H:Hp}{s:Ac}{p:Ad}{xs ys:List V}{d c:List Ab}{n g:Nat}{f:Obj->Obj}(I:Inv X pins B H s)(h:H p=some (.lst xs))
  (i:s.heap.get? p=some {cls:=.type "list",data:=.seq d.toArray n}) (hf:f {cls:=.type "list",data:=.seq d.toArray n}={cls:=.type "list",data:=.seq c.toArray g}) (r:Vals ys c) (j:ys.length<=sizeLine) (t:Nat):
  Inv X pins B (upd H p (.lst ys)) {s with heap:=s.heap.update p f,toks:=t}:=by
 have e:(s.heap.update p f).get? p=some {cls:=.type "list",data:=.seq c.toArray g}:=by rw[yi4 f i (by rw[hf]<;>rfl),hf]
 refine I.write (by rw[h];trivial) (.inl rfl) (λb u hb q=>(yb2 _ _ (yc1 hb)).trans q) ⟨_,e⟩ ?_;exact⟨j,c,g,r,e⟩
def zC8 :V->V->V->Hp->(Hp->Prop)->Prop:=λo i v H Q=>∃p xs k j,o=.ref p/\i=.int k/\H p=some (.lst xs)/\ixN xs.length k=some j/\Q (upd H p (.lst (xs.set j v)))
def set_list :zU7 X zC8:=by
 intro pins s B H o i v C A u Q I y z w h;obtain⟨p,xs,k,j,rfl,rfl,l,x,q⟩:=h;cases y;obtain⟨t,rfl⟩:=z;obtain⟨c,n,r,f,g⟩:=I.lst l;obtain⟨h1,h2,h3,e⟩:=oN x;have d:=r.length;have hn:=sZ;have m:Inv X pins B (upd H p (.lst (xs.set j v))) {s with heap:=s.heap.update p (Obj.mapSeq (·.setIfInBounds j u))}:=
  I.lstUpd l f (jr c n j u) (r.set w j) (by rw[yh0];exact g) s.toks
 by_cases h0:0<=k
 .have hk:k.toNat=j:=by
   rw[seqIndex_of h0 e]at h1;exact yb5 h1
  exact PySem.W.ki_setAt f h0 (bN hn e g) (by rw[z99,<-d];exact e) (by rw[hk];exact⟨_,m,q⟩)
 .have hk:(k+(c.toArray.size:Int)).toNat=j:=by
   rw[seqIndex_neg (yt5.1 h0) h3]at h1;rw[z99,<-d];exact yb5 h1
  exact PySem.W.ki_setBack f (yt5.1 h0) (by rw[z99,<-d];exact h3) (zb7 h3 g hn) (by rw[hk];exact⟨_,m,q⟩)
def oh (lo hi:Option Int)(n:Nat):(sliceBounds lo hi none n).1=((HT.sIx n 0 lo:Nat):Int)/\(sliceBounds lo hi none n).2.1=((HT.sIx n n hi:Nat):Int)/\(sliceBounds lo hi none n).2.2=1:=by
 refine⟨?_,?_,rfl⟩
 .cases lo with
  |none=>simp[sliceBounds,HT.sIx]
  |some i=>
   simp only[sliceBounds,HT.sIx,Option.getD_none,show 1 > 0 by decide,yl9];by_cases h:i<0
   .simp only[h,yl9]<;>exact zG0 h
   .simp only[h,yj2]<;>exact zD1
 .cases hi with
  |none=>simp[sliceBounds,HT.sIx]
  |some i=>
   simp only[sliceBounds,HT.sIx,Option.getD_none,show 1 > 0 by decide,yl9];by_cases h:i<0
   .simp only[h,yl9]<;>exact zG0 h
   .simp only[h,yj2]<;>exact zD1
def qK (c:List Ab)(lo hi:Option Int):slicePick c.toArray lo hi none=((c.drop (HT.sIx c.length 0 lo)).take (HT.sIx c.length c.length hi-HT.sIx c.length 0 lo)).toArray:=by
 obtain⟨h1,h2,h3⟩:=oh lo hi c.toArray.size;unfold slicePick;rw[h1,h2,h3];simp only[sliceRange_one,pick_run,z99]<;>rfl
def z37 (K:Ae):V->Option Int->Option Int->Hp->VK->Prop:=λx lo hi H Q=>∃a xs,x=.ref a/\SqL K H a xs/\∀p,H p=none->Q (.ref p) (upd H p (.lst (kI xs lo hi)))
def oi :SlR X (z37 X.K):=by
 intro pins s B H x v k l lo hi sl Q I e j g pu h;obtain⟨a,xs,rfl,i,q⟩:=h;cases e;obtain⟨f,r,c,d⟩:=I.list i;have hlen:=r.length;refine⟨"list",_,slot_list_getitem.lookup,c.isList.typeIs,?_⟩;refine wpAny_getItem_list_slice c.isList j g pu .none (by simp) ?_ (by rw[z99]<;>exact z93 (ya2 hlen.symm) d);rw[qK,<-hlen];refine⟨.ref s.heap.objs.size,_,I.laid (λb ob q=>z79 _ q) (z82 _) ?_,rfl,q _ (I.hok.fresh (z82 _))⟩;exact⟨z93 (kl xs lo hi) d,_,0,(r.drop (HT.sIx xs.length 0 lo)).take (HT.sIx xs.length xs.length hi-HT.sIx xs.length 0 lo),z86 _ rfl⟩
noncomputable def vP :V->Bool
 |.non=>true
 |.bl _=>true
 |.int _=>true
 |.str _=>true
 |_=>false
noncomputable def eqV :V->V->Bool
 |.non,.non=>true
 |.bl a,.bl b=>a == b
 |.bl a,.int b=>(if a then 1 else 0)==b
 |.int a,.bl b=>a == (if b then 1 else 0)
 |.int a,.int b=>a == b
 |.str a,.str b=>a == b
 |_,_=>false
theorem zN0 {A:Am}{s:Ac}{y x:V}{u v:Ab}(e:RelV y u)(c:RelV x v)(f:vP y=true)(d:vP x=true):SeqAt.EqAt A s u v (eqV y x):=by
 cases y with
 |non=>
  cases e;cases x with
  |non=>cases c;exact SeqAt.EqAt.same _
  |bl b=>cases c;exact SeqAt.EqAt.none_bool b
  |int b=>obtain⟨t,rfl⟩:=c;exact SeqAt.EqAt.none_int b t
  |str b=>obtain⟨t,rfl⟩:=c;exact SeqAt.EqAt.none_str b t
  |_=>exact absurd (d) yb0
 |bl a=>
  cases e;cases x with
  |non=>cases c;exact SeqAt.EqAt.bool_none a
  |bl b=>cases c;exact SeqAt.EqAt.bool_bool a b
  |int b=>obtain⟨t,rfl⟩:=c;exact SeqAt.EqAt.bool_int a b t
  |str b=>obtain⟨t,rfl⟩:=c;exact SeqAt.EqAt.bool_str a b t
  |_=>exact absurd (d) yb0
 |int a=>
  obtain⟨t',rfl⟩:=e;cases x with
  |non=>cases c;exact SeqAt.EqAt.int_none a t'
  |bl b=>cases c;exact SeqAt.EqAt.int_bool a t' b
  |int b=>obtain⟨t,rfl⟩:=c;exact SeqAt.EqAt.int_int a t' b t
  |str b=>obtain⟨t,rfl⟩:=c;exact SeqAt.EqAt.int_str a t' b t
  |_=>exact absurd (d) yb0
 |str a=>
  obtain⟨t',rfl⟩:=e;cases x with
  |non=>cases c;exact SeqAt.EqAt.str_none a t'
  |bl b=>cases c;exact SeqAt.EqAt.str_bool a t' b
  |int b=>obtain⟨t,rfl⟩:=c;exact SeqAt.EqAt.str_int a t' b t
  |str b=>obtain⟨t,rfl⟩:=c;exact SeqAt.EqAt.str_str a t' b t
  |_=>exact absurd (d) yb0
 |_=>exact absurd (f) yb0
noncomputable def eqU (x:V)(u:Ab):Bool:=match u with
 |.none=>eqV .non x
 |.bool b=>eqV (.bl b) x
 |.int i _=>eqV (.int i) x
 |.str z _=>eqV (.str z) x
 |_=>false
theorem cK {x y:V}{u:Ab}(r:RelV y u)(f:vP y=true):eqU x u=eqV y x:=by
 cases y with
 |non=>cases r;rfl
 |bl b=>cases r;rfl
 |int i=>obtain⟨t,rfl⟩:=r;rfl
 |str z=>obtain⟨t,rfl⟩:=r;rfl
 |_=>exact absurd (f) yb0
theorem sN {x:V}{xs:List V}{us:List Ab}(h:Vals xs us)(f:xs.all vP=true):us.any (eqU x)=xs.any λy=>eqV y x:=by
 induction h with
 |nil=>rfl
 |cons r _ c=>
  rw[yu5,yc5]at f;rw[yl3,yl3,cK r f.1,c f.2]
theorem wY {A:Am}{s:Ac}{x:V}{v:Ab}(e:RelV x v)(d:vP x=true):∀{xs:List V}{us:List Ab},Vals xs us->xs.all vP=true->∀u∈us,SeqAt.EqAt A s u v (eqU x u)
 |_,_,.nil,_=>λu c=>by cases c
 |y::xs,u::us,.cons r t,f=>λg c=>by
  rw[yu5,yc5]at f;rcases z84.mp c with rfl|c
  .rw[cK r f.1];exact zN0 r e f.1 d
  .exact wY e d t f.2 g c
noncomputable def inV (x:V)(xs:List V):Bool:=xs.any λy=>eqV y x
def rIn (K:Ae)(neg:Bool):R2:=λx y H Q=>∃p xs,y=.ref p/\(SqL K H p xs\/SqT K H p xs)/\vP x=true/\xs.all vP=true/\Q (.bl (if neg then !inV x xs else inV x xs)) H
def dD :OpR X (compareOp .In) (rIn X.K false):=by
 intro pins s B H x y v u Q I f g h;obtain⟨p,xs,rfl,hq,e,fs,q⟩:=h;cases g;rcases hq with hq|hq
 .obtain⟨c,r,d,i⟩:=I.list hq;refine SeqAt.in_listAt (eqU x) d.isList (λw hw=>wY f e r fs w (by simpa using hw)) ⟨.bl _,H,I,rfl,?_⟩;rw[show c.toArray.any (eqU x)=c.any (eqU x) by simp,sN r fs];exact q
 .obtain⟨c,r,d,i⟩:=I.tuple hq;refine SeqAt.in_tupleAt (eqU x) d (λw hw=>wY f e r fs w (by simpa using hw)) ⟨.bl _,H,I,rfl,?_⟩;rw[show c.toArray.any (eqU x)=c.any (eqU x) by simp,sN r fs];exact q
def oC :OpR X (compareOp .NotIn) (rIn X.K true):=by
 intro pins s B H x y v u Q I f g h;obtain⟨p,xs,rfl,hq,e,fs,q⟩:=h;cases g;rcases hq with hq|hq
 .obtain⟨c,r,d,i⟩:=I.list hq;refine SeqAt.notIn_listAt (eqU x) d.isList (λw hw=>wY f e r fs w (by simpa using hw)) ⟨.bl _,H,I,rfl,?_⟩;rw[show c.toArray.any (eqU x)=c.any (eqU x) by simp,sN r fs];exact q
 .obtain⟨c,r,d,i⟩:=I.tuple hq;refine SeqAt.notIn_tupleAt (eqU x) d (λw hw=>wY f e r fs w (by simpa using hw)) ⟨.bl _,H,I,rfl,?_⟩;rw[show c.toArray.any (eqU x)=c.any (eqU x) by simp,sN r fs];exact q
def yR :yP X (.builtin "len") (λxs H Q=>∃p ys,xs=[.ref p]/\(SqL X.K H p ys\/SqT X.K H p ys)/\Q (.int ys.length) H):=by
 intro pins s B H xs us Q I r h;obtain⟨p,ys,rfl,hq,q⟩:=h;obtain⟨u,rfl,g⟩:=vals1 r;cases g;have hn:=sZ;rcases hq with hq|hq
 .obtain⟨c,e,d,f⟩:=I.list hq;have hlen:=e.length;exact Calls.call_len_list d.isList (by simp only[z99]<;>exact zE4 hn hlen f) ⟨.int ys.length,H,I.tok _,⟨s.toks+1,by rw[z99,hlen]⟩,q⟩
 .obtain⟨c,e,d,f⟩:=I.tuple hq;have hlen:=e.length;exact len_tuple d (by simp only[z99]<;>exact zE4 hn hlen f) ⟨.int ys.length,H,I.tok _,⟨s.toks+1,by rw[z99,hlen]⟩,q⟩
def nq :yP X (.type "list") (λxs H Q=>∃p ys,xs=[.ref p]/\(SqL X.K H p ys\/SqT X.K H p ys)/\∀l,H l=none->Q (.ref l) (upd H l (.lst ys))):=by
 intro pins s B H xs us Q I r h;obtain⟨p,ys,rfl,hq,q⟩:=h;obtain⟨u,rfl,k⟩:=vals1 r;cases k;have fin:∀c,Vals ys c->ys.length<=sizeLine->∀h' c',(∀b o',s.heap.get? b=some o'->h'.get? b=some o')->
   h'.get? s.heap.objs.size=some {cls:=.type "list",dict:=none,data:=.seq c.toArray c',slots:=#[]}->EP X pins B Q (.ref s.heap.objs.size) {s with heap:=h'}:=λc d f h' c' kp e=>
  ⟨.ref s.heap.objs.size,_,I.laid kp (z82 _) (show yn X.prog X.w _ h' _ (.lst ys)from⟨f,c,c',d,e⟩),rfl,q _ (I.hok.fresh (z82 _))⟩
 rcases hq with hq|hq
 .obtain⟨c,d,g,f⟩:=I.list hq;obtain⟨o,i,j,n,hd⟩:=g.isList;exact call_list_seq p (.inl rfl) i j hd (λh' c' kp e=>fin c d f h' c' kp e) (by simp only[z99]<;>exact z93 (ya2 d.length.symm) f)
 .obtain⟨c,d,g,f⟩:=I.tuple hq;obtain⟨o,i,j,n,hd⟩:=g;exact call_list_seq p (.inr rfl) i j hd (λh' c' kp e=>fin c d f h' c' kp e) (by simp only[z99]<;>exact z93 (ya2 d.length.symm) f)
def tyV (K:Ae)(T:String)(x:V)(H:Hp):Prop:=match x with
 |.str _=>T="str"
 |.int _=>T="int"
 |.ref p=>(T="list"/\∃xs,SqL K H p xs)\/(T="tuple"/\∃o,K.lookup p=some o/\o.cls=.type "tuple"/\o.dict=none)\/
   (T="dict"/\((∃kvs,H p=some (.dK kvs))\/∃kvs,H p=some (.dT kvs)))\/(T="set"/\∃S n,H p=some (.set S n))
 |_=>False
theorem zL6 {pins:List (Ad×Obj)}{B:St}{H:Hp}{s:Ac}{T:String}{x:V}{v:Ab}(I:Inv X pins B H s)(r:RelV x v)(ty:tyV X.K T x H):
  s.TypeIs v T/\∀a,v=.ref a->∃ob,s.heap.get? a=some ob/\ob.dict=none:=by
 cases x with
 |str z=>
  obtain⟨t,rfl⟩:=r;cases(ty);exact⟨typeIs_str s z t,λ_ e=>nomatch e⟩
 |int i=>
  obtain⟨t,rfl⟩:=r;cases(ty);exact⟨typeIs_int s i t,λ_ e=>nomatch e⟩
 |ref p=>
  cases r;rcases ty with⟨rfl,xs,hq⟩|⟨rfl,o,hk,h,hd⟩|⟨rfl,hk⟩|⟨rfl,S,n,hk⟩
  .obtain⟨g,_,f,_⟩:=I.list hq;refine⟨f.isList.typeIs,λa e=>?_⟩;cases e;obtain⟨o,n,e,c,hd,_⟩:=f;exact⟨o,e,hd⟩
  .refine⟨⟨o,I.kIn p o hk,h⟩,λa e=>?_⟩;cases e;exact⟨o,I.kIn _ o hk,hd⟩
  .have z:∃o,s.heap.get? p=some o/\o.ExactDict:=by
    rcases hk with⟨kvs,hk⟩|⟨kvs,hk⟩
    .obtain⟨_,_,_,_,o,_,_,e,ex,_⟩:=I.hok p _ hk;exact⟨o,e,ex⟩
    .obtain⟨_,_,_,_,o,_,_,e,ex,_⟩:=I.hok p _ hk;exact⟨o,e,ex⟩
   obtain⟨o,e,ex⟩:=z;refine⟨⟨o,e,ex.1⟩,λa d=>?_⟩;cases d;exact⟨o,e,ex.2.1⟩
  .obtain⟨o,_,_,_,e,ex,_⟩:=I.hok p _ hk;refine⟨⟨o,e,ex.1⟩,λa d=>?_⟩;cases d;exact⟨o,e,ex.2.1⟩
 |_=>exact False.elim ty
def tBM (K:Ae)(T:String)(r:V->List V->Hp->VK->Prop)(to:TE)(t:TA):TE:=λB H Q=>to B H λx H1=>tyV K T x H1/\t B H1 λxs c=>r x xs c Q
variable {o e:Al}{es:List Al}{to:TE}{t:TA}{name:Str}{apos cpos:Pos}{T id:String}{r:V->List V->Hp->VK->Prop}
def bY (C:PlainAttrs T)(slot:Slot T name id)(k:typeOf (.builtin id)=pure (.type "method_descriptor"))(hm:MtR X id r)(y:PE X o to)(ha:PA X (e::es) t)
  (f:attributeBase o name X.env (eval o X.env)=eval o X.env:=by rfl)
  (g:((backTo cpos (Af (e::es) X.env)).all (λx=>!x.1)&&(backToKw cpos (keywordEach [] X.env)).all (λx=>x.1.isSome)
   &&decide ((e::es).length+([]:List Keyword).length+(if([]:List Keyword).isEmpty then 0 else 1)<30))=true:=by rfl)
  (d:(apos.endLine == cpos.line)=true:=by rfl) (u:Af (e::es) X.env=(false,eval e X.env)::Af es X.env:=by rfl) (c:(backTo cpos (Af es X.env)).any (·.1)=false:=by rfl):
  PE X (.Call (.Attribute o name apos) (e::es) [] cpos) (tBM X.K T r to t):=by
 intro pins s B H Q I h;refine wpAny_Call_method_late f g d rfl (thn (y pins s B H _ I h) λv s1 i=>?_);obtain⟨x,H1,n,m,ty,z⟩:=i;obtain⟨h1,h2⟩:=zL6 n m ty;refine⟨T,id,C,slot,k,h1,h2,?_⟩;have l:=ha cpos pins s1 B H1 _ n z;rw[u]at l ⊢;refine Calls.callWith_builtin (by show(false||(backTo cpos (Af es X.env)).any (·.1))=false;rw[c]<;>rfl) (Calls.evalArgs_plain ?_);exact thn l λus s2 j=>by obtain⟨vs,q,p,w,A⟩:=j;exact hm pins s2 B q x vs v us Q p m w A
/- xs.append(e),list.index on a module's tuple .. are MtR facts of 06m -/
end
def MtM (X:Cx)(id:String)(r:V->List V->Hp->VK->Prop):Prop:=
 ∀(pins:List (Ad×Obj)) (s:Ac) (B:St) (H:Hp) (x:V) (xs:List V) (v:Ab) (us:List Ab) (Q:VK),Inv X pins B H s->RelV x v->Vals xs us->r x xs H Q->
  Aj (Ah X.prog X.w) X.A (call (.builtin id) (v::us)) (EP X pins B Q) X.xe s
theorem Vals.one {x:V}{us:List Ab}(h:Vals [x] us):∃u,us=[u]/\RelV x u:=by
 cases h with
 |cons r q=>cases q;exact⟨_,rfl,r⟩
theorem Vals.two {x y:V}{us:List Ab}(h:Vals [x,y] us):∃u v,us=[u,v]/\RelV x u/\RelV y v:=by
 cases h with
 |cons r q=>
  cases q with
  |cons q z=>cases z;exact⟨_,_,rfl,r,q⟩
theorem Vals.eraseIdx :∀{xs:List V}{us:List Ab} (i:Nat),Vals xs us->Vals (xs.eraseIdx i) (us.eraseIdx i)
 |_,_,_,.nil=>.nil
 |_,_,0,.cons _ t=>t
 |_,_,i+1,.cons r t=>.cons r (Vals.eraseIdx i t)
theorem qZ {O:Type}:∀(l:List O) (i:Nat),(l.eraseIdx i).length<=l.length
 |[],_=>z82 _
 |_::_,0=>yh7 _
 |_::r,i+1=>Nat.succ_le_succ (qZ r i)
section
variable {X:Cx}{pins:List (Ad×Obj)}{B:St}{H:Hp}{s:Ac}{l b:Ad}{xs ys zs:List V}
def Inv.lset {c a:List Ab}{n:Nat}{f:Array Ab->Array Ab}{t':Nat}(I:Inv X pins B H s)(d:H l=some (.lst xs))
  (e:s.heap.get? l=some {cls:=.type "list",data:=.seq c.toArray n}) (hf:f c.toArray=a.toArray) (g:Vals ys a) (i:ys.length<=sizeLine):
  Inv X pins B (upd H l (.lst ys)) {s with heap:=s.heap.update l (Obj.mapSeq f),toks:=t'}:=by
 have q:=PySem.IsL.update e f;rw[hf]at q;refine I.write (by rw[d];trivial) (.inl rfl) (λj u hb h=>(yb2 s.heap (Obj.mapSeq f) (yc1 hb)).trans h) ⟨_,q⟩ ?_;exact⟨i,a,_,g,q⟩
def Inv.lnew {a:List Ab}{t':Nat}(I:Inv X pins B H s)(c:Vals ys a)(d:ys.length<=sizeLine):
  Inv X pins B (upd H s.heap.objs.size (.lst ys)) {s with heap:=s.heap.push {cls:=.type "list",data:=.seq a.toArray},toks:=t'}:=
 I.laid (λ_ _ q=>z79 _ q) (z82 _) ⟨d,a,0,c,z86 _ rfl⟩
theorem Inv.fresh (I:Inv X pins B H s):H s.heap.objs.size=none:=I.hok.fresh (z82 _)
def Inv.lstM (I:Inv X pins B H s)(c:H l=some (.lst xs)):xs.length<=sizeLine/\∃(a:List Ab) (n:Nat),Vals xs a/\xs.length=a.length/\s.heap.get? l=some {cls:=.type "list",data:=.seq a.toArray n}:=by
 obtain⟨z,a,n,r,e⟩:=I.hok l _ c;exact⟨z,a,n,r,r.length,e⟩
def zd4 {n:Nat}(h:n<=sizeLine):Builtin.List.listTooLong n=false:=by
 unfold Builtin.List.listTooLong;exact ya3 (Nat.not_lt_of_le h)
end
section
variable {X:Cx}
def zx3 :V->List V->Hp->VK->Prop:=λx vs H Q=>∃l xs y,x=.ref l/\vs=[y]/\H l=some (.lst xs)/\xs.length<sizeLine/\Q .non (upd H l (.lst (xs++[y])))
def pS :MtM X "list.append" zx3:=by
 intro pins s B H x vs v us Q I d g h;obtain⟨l,xs,y,rfl,rfl,b,c,q⟩:=h;cases d;obtain⟨u,rfl,i⟩:=g.one;obtain⟨z,a,n,r,f,e⟩:=I.lstM b;refine call_meets F.slot_list_append ⟨_,e,rfl⟩ F.entry_list_append (F.args_list_append_2 _ _) (PySem.list_append l a.toArray n u (by rw[z99];exact yd3 (ya7 (ya2 f.symm) c))) ⟨e,?_⟩;refine⟨.non,_,I.lset b e (by simp) (r.append (.cons i .nil)) ?_,rfl,q⟩;rw[z95,yt0];exact c
def zo0 :V->List V->Hp->VK->Prop:=λx vs H Q=>∃l b xs zs,x=.ref l/\vs=[.ref b]/\H l=some (.lst xs)/\H b=some (.lst zs)/\xs.length+zs.length<=sizeLine/\Q .non (upd H l (.lst (xs++zs)))
def cE :MtM X "list.extend" zo0:=by
 intro pins s B H x vs v us Q I t p h;obtain⟨l,b,xs,zs,rfl,rfl,j,w,k,q⟩:=h;cases t;obtain⟨u,rfl,m⟩:=p.one;cases m;obtain⟨z,c,n,r,i,e⟩:=I.lstM j;obtain⟨A,a,n2,o,g,y⟩:=I.lstM w;have f:c.toArray.size+a.toArray.size<=sizeLine:=by rw[z99,z99];exact zA2 k i g
 have d:¬(!c.toArray.isEmpty&&Builtin.List.listTooLong (c.toArray.size+a.toArray.size))=true:=by
  rw[zd4 f,Bool.and_false];exact yb0
 refine call_meets F.slot_list_extend ⟨_,e,rfl⟩ F.entry_list_extend (F.args_list_extend_2 _ _)
  (AutoSeq1.list_extend_list_list_0 l c.toArray n b a.toArray n2 d (by rw[z99];exact z93 (ya2 i.symm) z) (z93 f (ya0 _ _))) ⟨e,y,?_⟩
 refine⟨.non,_,I.lset j e (by simp) (r.append o) ?_,rfl,q⟩;rw[z95];exact k
def zN4 :V->List V->Hp->VK->Prop:=λx vs H Q=>∃l xs i k y,x=.ref l/\vs=[.int i]/\H l=some (.lst xs)/\-(2 ^ 63)<=i/\i<2 ^ 63/\seqIndex? i xs.length=some k/\xs[k]?=some y/\Q y (upd H l (.lst (xs.eraseIdx k)))
def zi9 :MtM X "list.pop" zN4:=by
 intro pins s B H x vs v us Q I f g h;obtain⟨l,xs,i,k,y,rfl,rfl,d,h1,h2,hk,hy,q⟩:=h;cases f;obtain⟨u,rfl,j⟩:=g.one;obtain⟨t,rfl⟩:=j;obtain⟨z,b,n,r,c,e⟩:=I.lstM d;obtain⟨w,hw,a⟩:=r.get hy;refine call_meets F.slot_list_pop ⟨_,e,rfl⟩ F.entry_list_pop (F.args_list_pop_2 _ _)
  (MeetsSeq.list_pop_at l b.toArray n i t k w (fitsIndex_both h1 h2) (by rw[z99,<-c];exact hk) (by rw[<-yk2];exact hw) (by rw[z99];exact z93 (ya2 c.symm) z)) ⟨e,?_⟩
 refine⟨y,_,I.lset d e ?_ (r.eraseIdx k) ?_,a,q⟩
 .rw[List.eraseIdxIfInBounds_toArray]
 .have:=qZ xs k;exact z93 this z
def z66 :R2:=λx y H Q=>∃l b xs zs,x=.ref l/\y=.ref b/\H l=some (.lst xs)/\H b=some (.lst zs)/\xs.length+zs.length<=sizeLine/\∀p,H p=none->Q (.ref p) (upd H p (.lst (xs++zs)))
def zH4 :OpR X (binaryOp .Add) z66:=by
 intro pins s B H x y v u Q I g j h;obtain⟨l,b,xs,zs,rfl,rfl,o,k,f,q⟩:=h;cases g;cases j;obtain⟨z,c,n,r,i,e⟩:=I.lstM o;obtain⟨w,a,n2,p,d,t⟩:=I.lstM k;refine PySem.P.add_list e t ?_ (by rw[z99,z99];exact zA2 f i d);have m:c.toArray++a.toArray=(c++a).toArray:=by simp
 rw[m];exact⟨.ref _,_,I.lnew (r.append p) (by rw[z95];exact f),rfl,q _ I.fresh⟩
end
section
variable {prog:Ag}{w:Ak}{A:Am}{E:Ab->Ac->Prop}{s:Ac}
end
section
variable {X:Cx}
end
end L2
namespace Att
open PySem PySem.W PySem.Calls PyProof.Rows
theorem sq {P:Params}{h:Ao}:∀(ns:List Int) (vs:List Ab),WellAll P h vs (ns.map WData.int)->IntsAre vs ns:=by
 intro ns
 induction ns with
 |nil=>
  intro vs w;rw[yp1]at w;cases w;exact .nil
 |cons n ns c=>
  intro vs w;rw[ya6]at w;cases w with
  |cons a b=>
   cases a;exact .cons _ _ (c _ b)
theorem fM {l:OpenLaw}{n:Nat}(hn:l.most=some n){P:Params}{h:Ao}{args:List WData}{vals:List Ab}
  (b:l.row.toRowW.claim.pre args=true) (g:WellAll P h vals args):
  ∃a vs ns,vals=[Value.ref a]/\args=[WData.list (ns.map WData.int)]/\h.get? a=some {cls:=.type "list",data:=.seq vs.toArray}/\IntsAre vs ns/\ns.length<=n:=by
 have i:l.pre.holds [] {args:=args}=true:=(pre_splitW b).2;obtain⟨d,r,rfl,h1,h2⟩:=hasAllW_cons ((pre_splitW b).1);obtain rfl:=hasAllW_nil h2;obtain⟨xs,rfl,h3⟩:=hasW_list h1;obtain⟨ns,rfl⟩:=items_int h3;have hlen:ns.length<=n:=by
  unfold OpenLaw.pre at i;have f:(WTm.not (.lt (.lit (.int n)) (.len (.arg 0)))).holds [] {args:=[.list (ns.map .int)]}=true:=by
   have f:=(holds_andW i).1;rw[hn]at f;exact f
  have e:=condW_of f (w_not (w_lt w_lit (w_len_list (w_arg rfl))));rw[z77]at e;refine yk0 λq=>?_
  first
   |(rw[ya9 ((Int.ofNat_lt.2 q))]at e;exact absurd e (by decide))
   |(simp at e;omega)
 cases g with
 |cons j k=>
  cases k;cases j with
  |list m c=>exact⟨_,_,ns,rfl,rfl,m,sq ns _ c,hlen⟩
def eu (l:OpenLaw)(args:List WData):l.row.toRowW.claim.post args (.bool true) args=true:=
 postW_of
  (show WShape.has [] (.bool true) .bool=true by first|rfl|decide|simp[WShape.has,WShape.arms,WShape.armsAll])
  (w_eq_bool (w_res rfl) w_lit) rfl
def attach_call {l:OpenLaw}{n:Nat}{q:Ag}{loose:List Str}{s:(Str->Option Ab)->Ao->Prop}{m:Ak->Ao->Prop}{d:DefRec}
  (hn:l.most=some n) (hdf:d.params.defaults=[])
  (call:∀(w:Ak) (s₀ b:Ac) (mg mb:Str->Option Ab) (c:Ad) (o:Obj) (pm cd doc:Ab) (a:Ad) (vs:List Ab) (ns:List Int),
   Ground q loose [] s w s₀ mg mb b.heap->m w b.heap->
   b.heap.get? c=some o->o.data=.func (docDef d.name d.params d.body d.scope pm cd doc)->b.heap.CodeRec cd d.name->mg d.name=some (.ref c)->
   b.heap.get? a=some {cls:=.type "list",data:=.seq vs.toArray}->IntsAre vs ns->ns.length<=n->b.gens=#[]->
   codeAny (Ah l.prog w) callerA (.call (.ref c) ⟨[.ref a],[]⟩) (λr s'=>r=.ok (.ret (.bool true))/\OldK b.heap s'.heap/\s'.os=b.os/\AllBare s'.gens) b):
  WalkO q loose s m l.row.toRowW d [] (λf vs=>PySem.call f vs):=by
 intro w s₀ b mg mb G Y c o pm cd doc dV kV t hd i k h hg args vals as e p x j v;obtain rfl:dV=.none:=Dflts.none k hdf;obtain rfl:kV=.none:=Dflts.noKw k;obtain⟨a,vs,ns,rfl,rfl,g,hints,hlen⟩:=fM hn e j;refine enter_call (yp0 (call w s₀ b mg mb c o pm cd doc a vs ns G Y t (fd_plain hd) i h g hints hlen hg) λr s' hq=>?_);obtain⟨rfl,h2,h3,u⟩:=hq;exact⟨.inl ⟨.bool true,.bool true,[],rfl,λ_=>rfl,.bool true,eu l _,λ_=>⟨List.Pairwise.nil,λ_ hm=>(nomatch hm)⟩⟩,h2,h3,u⟩
section
variable {prog:Ag}{w:Ak}{A:Am}{E:Ab->Ac->Prop}{s:Ac}{K:Frag}
end
end Att
namespace L2
open PySem PySem.Spec PyProof.Rows
theorem fk {vs:List Ab}{ns:List Int}(h:IntsAre vs ns):Vals (ns.map V.int) vs:=by
 induction h with
 |nil=>exact .nil
 |cons n t _ a=>exact .cons ⟨t,rfl⟩ a
noncomputable def inClass (s:An)(j:Nat):An:=match s with
 |.ClassDef _ _ _ body _ _ _ _ _ _ _=>body.getD j (.Pass ⟨0,0,0,0⟩)
 |_=>.Pass ⟨0,0,0,0⟩
noncomputable def zT (s:An):Arguments:=match s with
 |.FunctionDef _ a _ _ _ _ _ _ _ _=>a
 |_=>{posonlyargs:=[],args:=[],vararg:=none,kwonlyargs:=[],kw_defaults:=[],kwarg:=none,defaults:=[]}
def zw (s:An):List An:=match s with
 |.FunctionDef _ _ b _ _ _ _ _ _ _=>b
 |_=>[]
noncomputable def zh (s:An):Aq:=match s with
 |.FunctionDef _ _ _ _ _ _ sc _ _ _=>sc
 |_=>{kind:=.function,names:=[],isGenerator:=false,isCoroutine:=false}
abbrev CX0 :CXT:=λ_ _ _ _ _ _=>False
abbrev E0 :XK:=λ_ _ _=>False
def qR {X:Cx}:Passes CX0 X E0:=λ_ _ _ _ _ _ _ h=>h.elim
structure Fun (K:Ae)(x qual:Str)(st:An)(f:Ad)(fd:Ap):Prop where
 ex:∃(oc:Ab) (od:Option Ad) (kV doc pm:Ab) (an:Option Ad) (cdv ct:Ab) (osl:Array (Option Ab)),
  fd=PySem.W.fnOf x qual (zT st) (zw st) (zh st) .none kV doc pm an cdv ct/\K.lookup f=some ⟨oc,od,.func fd,osl⟩/\PySem.W.codeIn K cdv qual=true
 kp:PySem.W.keepIn K (.ref f)=true
section
variable {P:Ag}{w:Ak}{K:Ae}{mg:Str->Option Ab}{base:Ao}
def Fun.ok {x qual:Str}{st:An}{f:Ad}{fd:Ap}{N ps:List Str}{k:Nat}{sp:Sp}(F:Fun K x qual st f fd)(S:zZ N ps (zh st))(len:∀vs H Q E,sp vs H Q E->vs.length=ps.length)
  (a:∀(cdv:Ab) (A:Am) (outer:List Ar) (s:Ac) (H:Hp) (vs:List V) (Q:VK) (E:XK),zM k (A.deeper (envOfC qual (zh st) s.heap.objs.size f cdv))->sp vs H Q E->
   ∃t,PSs (vM CX0 P w K mg base N qual (zh st) f cdv A outer s H E).nox (zw st) t/\t {nx:=λ_ H'=>Q .non H',rt:=Q} (start N vs) H):yM P w K mg base CX0 (k+1) f fd ps sp:=by
 obtain⟨oc,od,kV,doc,pm,an,cdv,ct,osl,rfl,d,c⟩:=F.ex;refine zg7 d c S len λA outer s H vs Q E hr b=>?_;obtain⟨t,h,q⟩:=a cdv A outer s H vs Q E hr b;exact⟨t,h.nox,q⟩
def Fun.binds {x qual:Str}{st:An}{f:Ad}{fd:Ap}{ps:List Str}(F:Fun K x qual st f fd)
  (h:∀(kV doc pm:Ab) (an:Option Ad) (cdv ct:Ab) (us:List Ab),us.length=ps.length->bindArgs (PySem.W.fnOf x qual (zT st) (zw st) (zh st) .none kV doc pm an cdv ct) ⟨us,[]⟩=pure (ps.zip us)):Binds K fd ps []:=by
 obtain⟨oc,od,kV,doc,pm,an,cdv,ct,osl,rfl,b,a⟩:=F.ex;exact .all (h kV doc pm an cdv ct)
def ni {x qual:Str}{st:An}{f:Ad}{oc:Ab}{od an:Option Ad}{osl:Array (Option Ab)}{kV doc pm cdv ct:Ab}(l:K.lookup f=some ⟨oc,od,.func (PySem.W.fnOf x qual (zT st) (zw st) (zh st) .none kV doc pm an cdv ct),osl⟩)
  (c:PySem.W.codeIn K cdv qual=true) (k:PySem.W.keepIn K (.ref f)=true):Fun K x qual st f (PySem.W.fnOf x qual (zT st) (zw st) (zh st) .none kV doc pm an cdv ct):=⟨⟨oc,od,kV,doc,pm,an,cdv,ct,osl,rfl,l,c⟩,k⟩
end
def yp {n:Nat}(h:n<=1000):n<sizeLine:=ya7 h (by decide)
section
variable {X:Cx}
def pv (i:Nat){x:Str}{pos:Pos}(b:X.N[i]?=some x:=by rfl)(c:Vis X.env.scope x:=by first|exact Or.inl rfl|exact Or.inr (Or.inl rfl)|exact Or.inr (Or.inr rfl))(hd:(x == ("__debug__":Str))=false:=by decide)
  (a:(x == ("__classdict__":Str))=false:=by decide):PE X (.Name x pos) (zo3 i):=xi b c hd a
end
def sv {A B:Prop}(h:B):if false=true then A else B:=by
 rw[if_neg yb0];exact h
def sC {A B:Prop}(h:A):if true=true then A else B:=by
 rw[if_pos rfl];exact h
def ze1 {c A B:Prop}[Decidable c](h1:c->A)(h2:¬c->B):if c then A else B:=by
 by_cases h:c
 .rw[if_pos h];exact h1 h
 .rw[if_neg h];exact h2 h
def zt (H H':Hp):Prop:=∀b o,H b=some o->H' b=some o
def zt.refl (H:Hp):zt H H:=λ_ _ h=>h
def zt.trans {H H1 d:Hp}(a:zt H H1)(b:zt H1 d):zt H d:=λc o h=>b c o (a c o h)
theorem zt.free {H H':Hp}(e:zt H H'){l:Ad}(h:H' l=Option.none):H l=Option.none:=by
 cases q:H l with
 |none=>rfl
 |some o=>
  rw[e l o q]at h;cases h
def zt.seq {K:Ae}{H H':Hp}{a:Ad}{xs:List V}(e:zt H H')(h:SqL K H a xs):SqL K H' a xs:=by
 rcases h with(h|⟨o,h⟩)|h
 .exact .inl (.inl (e _ _ h))
 .exact .inl (.inr ⟨o,e _ _ h⟩)
 .exact .inr h
noncomputable def uQ (cells:List (Str×Ad)):List (Str×NameKind)->List (Str×Ad)->List (Str×Ad)
 |[],acc=>acc
 |(n,k)::r,acc=>uQ cells r (if k=.free then(n,(cells.lookup n).getD 0)::acc else acc)
def vO {env:Ar}{scope:Aq}(h:∀y∈scope.names,y.2=.free->∃c,env.cells.lookup y.1=some c):
  closureFor scope env=pure (uQ env.cells scope.names []):=by
 have key:∀ns acc,(∀y∈ns,y.2=.free->∃c,env.cells.lookup y.1=some c)->
   (forIn ns acc λx r=>(if(x.2 == NameKind.free)=true then(do let a <-cellOf env x.1;pure (ForInStep.yield ((x.1,a)::r)))else pure (ForInStep.yield r):Sem (ForInStep (List (Str×Ad)))))=pure (uQ env.cells ns acc):=by
  intro ns
  induction ns with
  |nil=>intro acc _;rfl
  |cons y r d=>
   intro acc hy;obtain⟨n,k⟩:=y;rw[yt6];have hr:∀z∈r,z.2=.free->∃c,env.cells.lookup z.1=some c:=λz f=>hy z (z87 _ f);by_cases hk:k=.free
   .subst hk;obtain⟨c,e⟩:=hy (n,.free) z89 rfl;have e1:cellOf env n=pure c:=by
     unfold cellOf;rw[e]
    have b:((NameKind.free == NameKind.free)=true):=rfl;simp only[b,yl9,e1,pure_bind];rw[d _ hr];show _=pure (uQ env.cells r (if NameKind.free=NameKind.free then(n,(env.cells.lookup n).getD 0)::acc else acc));rw[if_pos rfl,e];rfl
   .have b:(k == NameKind.free)=false:=by simpa using hk
    simp only[b,yd0,yj2,pure_bind];rw[d _ hr];show _=pure (uQ env.cells r (if k=NameKind.free then(n,(env.cells.lookup n).getD 0)::acc else acc));rw[if_neg hk]
 have q:=key scope.names [] h;unfold closureFor;simp only[]at q ⊢;rw[show(forIn scope.names ([]:List (Str×Ad)) λx r=>_)=_ from q];rfl
theorem lV {cells:List (Str×Ad)}:∀(ns:List (Str×NameKind)) (acc:List (Str×Ad)),(∀y∈ns,y.2=.free->∃c,cells.lookup y.1=some c)->
  ∀x c,(x,c)∈uQ cells ns acc->(x,c)∈acc\/((x,NameKind.free)∈ns/\cells.lookup x=some c)
 |[],acc,_,x,c,h=>.inl h
 |(n,k)::r,acc,hy,x,c,h=>by
  have hr:∀z∈r,z.2=.free->∃c,cells.lookup z.1=some c:=λz i=>hy z (z87 _ i);have h':=h;rcases lV r _ hr x c h' with q|⟨f,d⟩
  .by_cases hk:k=.free
   .rw[if_pos hk]at q;rcases z84.mp q with e|q
    .obtain⟨c',j⟩:=hy (n,k) z89 hk;have e1:=congrArg Prod.fst e;have b:=congrArg Prod.snd e;have a:=j;rw[a]at b;have g:=b;subst e1 g hk;exact .inr ⟨z89,a⟩
    .exact .inl q
   .rw[if_neg hk]at q;exact .inl q
  .exact .inr ⟨z87 _ f,d⟩
theorem lG {cells:List (Str×Ad)}:∀(ns:List (Str×NameKind)) (acc:List (Str×Ad)) (p:Str×Ad),p∈acc->p∈uQ cells ns acc
 |[],_,_,h=>h
 |(n,k)::r,acc,p,h=>by
  show p∈uQ cells r (if k=.free then(n,(cells.lookup n).getD 0)::acc else acc);refine lG r _ p ?_;split
  .exact z87 _ h
  .exact h
theorem nM {cells:List (Str×Ad)}:∀(ns:List (Str×NameKind)) (acc:List (Str×Ad)) (x:Str),(x,NameKind.free)∈ns->∃c,(x,c)∈uQ cells ns acc
 |[],_,_,h=>by simp at h
 |(n,k)::r,acc,x,h=>by
  show ∃c,(x,c)∈uQ cells r (if k=.free then(n,(cells.lookup n).getD 0)::acc else acc);rcases z84.mp h with e|h
  .have e1:x=n:=congrArg Prod.fst e;have a:=congrArg Prod.snd e;subst e1 a;rw[if_pos rfl];exact⟨_,lG r _ _ z89⟩
  .exact nM r _ x h
theorem mem_lookup {x:Str}{c:Ad}:∀{l:List (Str×Ad)},(x,c)∈l->∃d,l.lookup x=some d
 |[],h=>by simp at h
 |(n,a)::r,h=>by
  rw[ye8];cases e:x == n with
  |true=>exact⟨a,rfl⟩
  |false=>
   rcases z84.mp h with q|q
   .have e1:x=n:=congrArg Prod.fst q;rw[e1]at e;simp at e
   .exact mem_lookup q
structure zI (XN:List Str)(xs:Aq)(N:List Str)(imp:List (Option Nat))(scope:Aq):Prop where
 kind:scope.kind=.function
 nd:N.Nodup
 nocell:∀y∈scope.names,y.2≠.cell
 locs:∀y∈scope.names,y.2=.local->scope.names.lookup y.1=some .local
 frees:∀y∈scope.names,y.2=.free->xs.names.lookup y.1=some .cell\/xs.names.lookup y.1=some .free
 len:imp.length=N.length
 impsB:((imp.zip N).all λp=>match p.1 with|none=>true|some j=>XN[j]? == some p.2&&scope.names.lookup p.2 == some .free)=true
def zI.imps {XN N:List Str}{xs scope:Aq}{imp:List (Option Nat)}(S:zI XN xs N imp scope):∀(i j:Nat),imp[i]?=some (some j)->∃x,N[i]?=some x/\XN[j]?=some x/\scope.names.lookup x=some .free:=by
 intro i j h;have hn:i<N.length:=by rw[<-S.len];exact((z81.mp h).1)
 have b:=z78 hn;have hm:(some j,N[i])∈imp.zip N:=by
  have c:(imp.zip N)[i]?=some (some j,N[i]):=by
   rw[List.getElem?_zip_eq_some];exact⟨h,b⟩
  exact yb6 c
 have a:=(yn2.mp S.impsB _ hm);rw[yc5]at a;exact⟨N[i],b,eq_of_beq a.1,eq_of_beq a.2⟩
noncomputable def wM (imp:List (Option Nat))(B:St):St:=imp.map λo=>o.bind λj=>(B[j]?).bind id
theorem du {imp:List (Option Nat)}{B:St}{i:Nat}{v:V}(h:(wM imp B)[i]?=some (some v)):∃j,imp[i]?=some (some j)/\B[j]?=some (some v):=by
 unfold wM at h;rw[z88]at h;cases e:imp[i]? with
 |none=>rw[e]at h;cases h
 |some o=>
  rw[e]at h;have h':=yb5 h;cases o with
  |none=>cases h'
  |some j=>
   have h2:(B[j]?).bind id=some v:=h';cases e2:B[j]? with
   |none=>rw[e2]at h2;cases h2
   |some w=>
    rw[e2]at h2;have h3:w=some v:=h2;exact⟨j,rfl,by rw[e2,h3]⟩
noncomputable def Cx.comp (X:Cx)(N:List Str)(scope:Aq)(C:Ad)(s2:Ac)(a:Hp)(fp:List Ad):Cx where
 prog:=X.prog
 w:=X.w
 K:=X.K
 mg:=X.mg
 base:=X.base
 A:=X.A
 N:=N
 s₀:=s2
 H₀:=a
 env:=compEnvC scope (uQ X.env.cells scope.names []) C X.env
 outer:=X.stack
 stack:=X.stack
 ex:=fp
 fn:=λ_=>false
 calm:=X.calm
 pn:=[]
 xe:=λ_ _=>False
theorem uM {env:Ar}:∀{names:List (Str×NameKind)}{x:Str},
  (names.map λ(n,k)=>if(k == NameKind.free&&env.scope.kind == .function&&env.kindOf n == some .cell)then(n,NameKind.cell)else(n,k)).lookup x=some .cell\/
  (names.map λ(n,k)=>if(k == NameKind.free&&env.scope.kind == .function&&env.kindOf n == some .cell)then(n,NameKind.cell)else(n,k)).lookup x=some .free->
  (∀y∈names,y.2≠.cell)->(x,NameKind.free)∈names
 |[],x,h,_=>by simp at h
 |(n,k)::r,x,h,hc=>by
  have f:=@uM env r x;rw[ya6]at h;dsimp only at h;by_cases d:x=n
  .subst d;by_cases hk:k=.free
   .subst hk;exact z89
   .have a:(k == NameKind.free)=false:=by simpa using hk
    simp only[a,yl8,yd0,yj2,ye8,beq_self_eq_true,yl9]at h;rcases h with h|h
    .have e:=yb5 h;exact absurd e (hc (x,k) z89)
    .have e:=yb5 h;exact absurd e hk
  .have c:(x == n)=false:=by simpa using d
   have step:∀b l,List.lookup x ((if b=true then(n,NameKind.cell)else(n,k))::l)=l.lookup x:=λb l=>by
    cases b<;>simp[ye8,c]
   rw[step]at h;exact z87 _ (f h λy hy=>hc y (z87 _ hy))
theorem tY {env:Ar}:∀{names:List (Str×NameKind)}{x:Str},names.lookup x=some .free->
  (names.map λ(n,k)=>if(k == NameKind.free&&env.scope.kind == .function&&env.kindOf n == some .cell)then(n,NameKind.cell)else(n,k)).lookup x=some .cell\/
  (names.map λ(n,k)=>if(k == NameKind.free&&env.scope.kind == .function&&env.kindOf n == some .cell)then(n,NameKind.cell)else(n,k)).lookup x=some .free
 |[],x,h=>by simp at h
 |(n,k)::r,x,h=>by
  have a:=@tY env r x;rw[ya6];dsimp only;rw[ye8]at h;cases hx:x == n with
  |true=>
   rw[hx]at h;have e:=yb5 h;subst e;by_cases hb:(NameKind.free == NameKind.free&&env.scope.kind == .function&&env.kindOf n == some .cell)=true
   .left;rw[if_pos hb];simp[ye8,hx]
   .right;rw[if_neg hb];simp[ye8,hx]
  |false=>
   rw[hx]at h;have step:∀b l,List.lookup x ((if b=true then(n,NameKind.cell)else(n,k))::l)=l.lookup x:=λb l=>by
    cases b<;>simp[ye8,hx]
   rw[step];exact a h
section
variable {X:Cx}{pins:List (Ad×Obj)}{B:St}{H2 H':Hp}{s2 s':Ac}{fp:List Ad}{N:List Str}{imp:List (Option Nat)}{scope:Aq}{C acc:Ad}
def uj (I:Inv X pins B H2 s2)(S:zI X.N X.env.scope N imp scope):∀y∈scope.names,y.2=.free->∃c,X.env.cells.lookup y.1=some c:=λy hy hk=>I.ok.has y.1 (S.frees y hy hk)
def xD (I:Inv X pins B H2 s2)(S:zI X.N X.env.scope N imp scope){x:Str}{c:Ad}(h:(uQ X.env.cells scope.names []).lookup x=some c):(x,NameKind.free)∈scope.names/\X.env.cells.lookup x=some c:=by
 rcases lV scope.names [] (uj I S) x c (yf9 h)with q|q
 .exact absurd q (by simp)
 .exact q
def uC (I:Inv X pins B H2 s2)(S:zI X.N X.env.scope N imp scope){x:Str}(h:(x,NameKind.free)∈scope.names):∃c,(uQ X.env.cells scope.names []).lookup x=some c:=by
 obtain⟨c,a⟩:=nM scope.names [] x h;exact mem_lookup a
def zg5 {h1:Ao}{Q:Nat}{m:Str->Option Ab}{H:Nat}(I:Inv X pins B H2 s2)(S:zI X.N X.env.scope N imp scope)(hf:∀b∈fp,xq X pins H2 b)(R:∀b∈fp,∃o,s2.heap.get? b=some o)
  (a:acc=s2.heap.objs.size) (n:C=s2.heap.objs.size+1) (old:∀b o,s2.heap.get? b=some o->h1.get? b=some o) (hn:h1.Ns C m)
  (L:h1.get? acc=some {cls:=.type "list",data:=.seq ([]:List Ab).toArray H}):
  Inv (X.comp N scope C s2 H2 fp) [] (wM imp B) (upd H2 acc (.lst [])) {s2 with heap:=h1,toks:=Q}:=by
 have M:H2 acc=none:=I.hok.fresh (by rw[a];exact z82 _);have F:C≠acc:=by rw[n,a];exact Nat.succ_ne_self _
 have A:∀x c,X.env.cells.lookup x=some c->c<s2.heap.objs.size:=λx c e=>by
  obtain⟨v,q⟩:=I.cell x c e;exact q.lt
 refine⟨⟨I.ok.mod,S.kind,I.ok.glob,I.ok.blt,?above,?inj,?has,?cab,I.ok.hd,I.ok.frames,.inl rfl,?exf,λb o e=>I.bs b o e,z93 I.ok.bsz I.sz,?noex,?exfs,I.stack,I.stkFree⟩,
  rfl,I.bare,Un.laid old (by rw[a];exact z82 _) M,⟨m,hn,?loc⟩,?cell,?free,?freeC,λp P=>absurd (show p∈([]:List (Ad×Obj))from P) (by simp),I.hok.laid old (by rw[a];exact z82 _) ⟨z94 _,[],H,.nil,L⟩,?len⟩
 case above=>show s2.heap.objs.size<=C;rw[n];exact yh7 _
 case inj=>exact λx y c h1 h2=>I.ok.inj x y c (xD I S h1).2 (xD I S h2).2
 case has=>exact λx O=>uC I S (uM O S.nocell)
 case cab=>exact λx c h _=>absurd h (by show ¬(false=true);simp)
 case exf=>
  intro b hb;obtain⟨o,w⟩:=R b hb;refine⟨?_,λx c e=>(hf b hb).2.2.2.2.1 x c (xD I S e).2⟩;rw[n];exact z96 (yg5 (z90 w))
 case noex=>
  intro b o e hb;rcases(hf b hb).2.2.2.1 with z|z
  .exact I.ok.noex b o e z
  .exact absurd (z83 (z90 e) (z93 I.ok.bsz z)) (yd4 _)
 case exfs=>
  intro b hb T;rcases z84.mp (I.stkSub b T)with e|e
  .exact(hf b hb).2.1 e
  .exact(hf b hb).2.2.1 e
 case loc=>
  intro i x v e1 Y e3;obtain⟨j,W,V⟩:=du Y;obtain⟨y,n1,n2,s⟩:=S.imps i j W;have t:(X.comp N scope C s2 H2 fp).N[i]?=some y:=n1;rw[t]at e1;have D:=yb5 e1;subst D;have f:=S.frees (y,.free) (yf9 s) rfl;obtain⟨Z,U,G⟩:=I.loc;obtain⟨u,r,l⟩:=G j y v n2 V (.inr f);refine⟨u,r,?_⟩;rcases l with⟨k,_⟩|⟨k,c,e,z⟩
  .have J:X.env.scope.names.lookup y=some .local:=k;rcases f with z|z
   .have g:=z;rw[J]at g;cases g
   .have g:=z;rw[J]at g;cases g
  .obtain⟨d,hd⟩:=uC I S (yf9 s);have hd2:=(xD I S hd).2;rw[e]at hd2;have E:=yb5 hd2;subst E;exact .inr ⟨tY s,c,hd,z.keeps old⟩
 case cell=>
  intro x c e;obtain⟨v,q⟩:=I.cell x c (xD I S e).2;exact⟨v,q.keeps old⟩
 case free=>
  show upd H2 acc _ C=none;rw[zc F];exact I.hok.fresh (by rw[n];exact yh7 _)
 case freeC=>
  intro x c e;have K:=(xD I S e).2;rw[zc (by rw[a];exact z96 (A x c K))];exact I.freeC x c K
 case len=>
  unfold wM;rw[z77];exact S.len
def eR {c:List (Ad×Obj)}{a:St}(I:Inv X pins B H2 s2)(hf:∀b∈fp,xq X pins H2 b)(J:Inv (X.comp N scope C s2 H2 fp) c a H' s'):Inv X pins B H' s':=
 I.call' J.os J.base J.hok J.bare λb hb=>⟨(hf b hb).2.2.2.1,(hf b hb).2.1,(hf b hb).2.2.2.2.1,(hf b hb).2.2.2.2.2⟩
end
section
variable {prog:Ag}{w:Ak}{A:Am}{R:Result->Ac->Prop}{s:Ac}
theorem nF {elt target iter:Al}{ifs:List Al}{scope:Aq}{pos:Pos}{it acc:Ab}{env:Ar}(I:Nat->Ac->Prop)
  (turn:∀n s,I n s->Aj (Ah prog w) A (pyNext it) (λr s1=>match r with
   |none=>R (.ok .next) s1
   |some v=>Aj (Ah prog w) A (letOwnedTupleGo target it v) (λ_ s2=>Aj (Ah prog w) A (assign target env v) (λ_ s3=>
     Aj (Ah prog w) A (forIn ifs true λc r=>if r=true then do let ok <-isTrue c env (eval c env);pure (ForInStep.yield ok)else pure (ForInStep.yield r)) (λok s4=>
      if ok=true then Aj (Ah prog w) A (eval elt env) (λx s5=>
       Aj (Ah prog w) A (call (.builtin "list.append") [acc,x]) (λ_ b=>∃m,m<n/\I m b) (λ_ _=>False) s5) (λ_ _=>False) s4
      else ∃m,m<n/\I m s4) (λ_ _=>False) s3) (λ_ _=>False) s2) (λ_ _=>False) s1) (λ_ _=>False) s)
  (n:Nat) (h:I n s):codeAny (Ah prog w) A (.compLoop (.ListComp elt [⟨target,iter,ifs,0⟩] scope pos) 0 it acc env) R s:=by
 refine codeAny_loop rfl I (λn s e=>?_) n h;show Aj _ A ((compTurn (.ListComp elt [⟨target,iter,ifs,0⟩] scope pos) 0 it acc env).onRaise (λx=>do noteFrame x env;theTreesLotGoes x)) _ _ s;refine wpAny_noted ?_;rw[compTurn_list];refine z76 (wpAny_standAt (z76 (ye0 (turn n s e) (λr s1 h1=>?_) λ_ _ h'=>False.elim h')));cases r with
 |none=>exact z80 h1
 |some v=>
  refine z76 (ye0 h1 (λ_ s2 h2=>z76 (ye0 h2 (λ_ s3 h3=>z76 (ye0 h3 (λok s4 a=>?_) λ_ _ h'=>False.elim h')) λ_ _ h'=>False.elim h')) λ_ _ h'=>False.elim h');cases ok with
  |false=>exact z80 ⟨rfl,a⟩
  |true=>
   exact z76 (z76 (ye0 a (λx s5 d=>z76 (ye0 d (λ_ b f=>z80 (z80 ⟨rfl,f⟩)) λ_ _ h'=>False.elim h')) λ_ _ h'=>False.elim h'))
end
def vd (Y:Cx)(ifs:List Al)(t:TT):Prop:=
 ∀(pins:List (Ad×Obj)) (s:Ac) (B:St) (H:Hp) (Q:Bool->Hp->Prop),Inv Y pins B H s->t B H Q->
  Aj (Ah Y.prog Y.w) Y.A (forIn ifs true λc r=>if r=true then do let ok <-isTrue c Y.env (eval c Y.env);pure (ForInStep.yield ok)else pure (ForInStep.yield r)) (TP Y pins B Q) Y.xe s
def z34 :TT:=λ_ H Q=>Q true H
def zt7 {Y:Cx}:vd Y [] z34:=λ_ _ _ H _ I h=>wpAny_tests_nil ⟨H,I,h⟩
def ie {Y:Cx}{c:Al}{t:TT}(h:PT Y c t):vd Y [c] t:=λpins s B H Q I q=>wpAny_tests_one (h pins s B H Q I q)
def oz (J:It)(acc:Ad)(g:TG)(tt:TT)(o:TE)(e:St)(H0:Hp)(Q:VK):Prop:=
 ∃W:Nat->Nat->List V->St->Hp->Prop,(∃m,W 0 m [] e H0)/\∀i m ys f a,W i m ys f a->
  (J.stop i a/\Q (.ref acc) a)\/(J.go i a/\∃N:List V->St->Hp->Prop,(∀b d H',N b d H'->∃h,h<m/\W (i+1) h b d H')/\
   ∀x l,J.yld i a x l->g x f l λτ2 n=>tt τ2 n λc k=>
    if c=true then o τ2 k λy j=>j acc=some (.lst ys)/\ys.length<sizeLine/\N (ys++[y]) τ2 (upd j acc (.lst (ys++[y])))else N ys τ2 k)
def zb1 (a:TI)(imp:List (Option Nat))(g:TG)(tt:TT)(b:TE):TE:=λB H Q=>a B H λJ H1=>∀acc,H1 acc=none->oz J acc g tt b (wM imp B) (upd H1 acc (.lst [])) Q
section
variable {X:Cx}{pins:List (Ad×Obj)}{B:St}{elt iter tg:Al}{ifs:List Al}{scope:Aq}{pos:Pos}{wi:TI}{g:TG}{tt:TT}{te:TE}{N:List Str}{imp:List (Option Nat)}
def sU {c:Hp}{s2:Ac}{it:Ad}{fp:List Ad}{tn:Nat->Ao->Prop}{J:It}{RR:Ab->Ad->Result->Ac->Prop}{E:Ab->Ac->Prop}{Q:VK}
  (hc:X.calm=true) (S:zI X.N X.env.scope N imp scope) (hg:∀C s2 c fp,PG (X.comp N scope C s2 c fp) tg g) (ht:∀C s2 c fp,vd (X.comp N scope C s2 c fp) ifs tt) (he:∀C s2 c fp,PE (X.comp N scope C s2 c fp) elt te)
  (Z:Inv X pins B c s2) (T:Turn X.prog X.w X.K tg J fp it tn) (F:tn 0 s2.heap) (f2:∀b∈fp,xq X pins c b)
  (hW:∀acc,c acc=none->oz J acc g tt te (wM imp B) (upd c acc (.lst [])) Q)
  (b0:∀a C H' s' m,Inv X pins B H' s'->s'.heap.Ns C m->xq X pins H' C->Q (.ref a) H'->RR (.ref a) C (.ok .next) s'):
  Aj (Ah X.prog X.w) X.A (newList []) (λacc s3=>Aj (Ah X.prog X.w) X.A (newFunctionEnv scope X.env.globals (uQ X.env.cells scope.names []) [] X.env.qual none .none (some X.env)) (λD s4=>
   codeAny (Ah X.prog X.w) X.A (.compStart (.ListComp elt [⟨tg,iter,ifs,0⟩] scope pos) 0 (.ref it) acc {D with scope:=relabel scope X.env}) (RR acc D.locals) s4) E s3) E s2:=by
 refine yi0 (wpAny_newFunctionEnv S.nocell (by intro y hy;simp at hy) (λh1 k j=>?_) S.kind);dsimp only at k j ⊢;generalize H:s2.heap.push {cls:=.type "list",dict:=none,data:=.seq ([]:List Ab).toArray}=HH at k j ⊢;have Y:HH.objs.size=s2.heap.objs.size+1:=by rw[<-H,yf4]
 have P:s2.heap.objs.size≠HH.objs.size:=by rw[Y];exact z96 (yd7 _)
 have old:∀b o,s2.heap.get? b=some o->h1.get? b=some o:=λb o e=>j.extBut b o (by rw[Y];exact z96 (yg5 (z90 e))) (z79 _ (H▸z79 _ e));have U:=j.extBut _ _ P (z79 _ (H▸z86 _ rfl));obtain⟨W,⟨m0,w0⟩,turn⟩:=hW s2.heap.objs.size Z.fresh;generalize b5:HH.objs.size=C at k j Y P ⊢;have ho:∀b∈fp,∃o,s2.heap.get? b=some o:=λb hb=>let⟨o,e,_⟩:=T.obj 0 _ F b hb;⟨o,e⟩;generalize f:s2.heap.objs.size=acc at *;have loop:∀s3:Ac,s3={s2 with heap:=h1,toks:=s2.toks+([]:List (Str×Ab)).length}->
   codeAny (Ah X.prog X.w) X.A (.compLoop (.ListComp elt [⟨tg,iter,ifs,0⟩] scope pos) 0 (.ref it) (.ref acc) (X.comp N scope C s2 c fp).env) (RR (.ref acc) C) s3:=by
  rintro s3 rfl;have I3:Inv (X.comp N scope C s2 c fp) [] (wM imp B) (upd c acc (.lst [])) {s2 with heap:=h1,toks:=s2.toks+([]:List (Str×Ab)).length}:=
   zg5 Z S f2 ho f.symm (by rw[Y,f]) old k U
  have a7:∀b∈fp,upd c acc (.lst []) b=none:=λb hb=>by
   obtain⟨o,e⟩:=ho b hb;rw[zc (by rw[<-f];exact z96 (z90 e))];exact(f2 b hb).1
  have l:∀{H':Hp},(∀b∈fp,H' b=none)->∀b∈fp,xq (X.comp N scope C s2 c fp) [] H' b:=λhn b hb=>by
   obtain⟨e1,e2⟩:=I3.ok.exf b hb;exact⟨hn b hb,e1,I3.ok.exfs b hb,.inl hb,e2,λp hp=>absurd (show p∈([]:List (Ad×Obj))from hp) (by simp)⟩
  refine nF (λn s'=>∃i ys q H',Inv (X.comp N scope C s2 c fp) [] q H' s'/\tn i s'.heap/\(∀b∈fp,H' b=none)/\W i n ys q H') ?_ m0
   ⟨0,[],_,_,I3,T.keep _ _ _ F λb _ o e=>old b o e,a7,w0⟩
  rintro n s4 ⟨i,ys,q,H4,I4,M,O,w4⟩;rcases turn i n ys q H4 w4 with⟨stop,qn⟩|⟨go,NN,hN,step⟩
  .refine ye0 (T.done (X.comp N scope C s2 c fp) rfl rfl rfl hc i [] s4 q H4 (λ_ _=>False) I4 (l O) M stop) (λr s5 a5=>?_) λ_ _ z=>z;obtain⟨hr,I5⟩:=a5;subst hr;obtain⟨m5,a4,_⟩:=id I5.loc;exact b0 acc C H4 s5 m5 (eR Z f2 I5) a4 (Z.fpOk (by rw[Y,f];exact yh7 _) I5.free) qn
  .refine ye0 (T.item (X.comp N scope C s2 c fp) rfl rfl rfl hc i [] s4 q H4 (λ_ _=>False) I4 (l O) M go) (λr s5 a8=>?_) λ_ _ z=>z;obtain⟨u,hr,h5⟩:=a8;subst hr;refine ye0 h5 (λ_ s6 b4=>?_) λ_ _ z=>z;obtain⟨x,H6,I6,r6,y6,G,a0⟩:=b4;refine ye0 (hg C s2 c fp _ s6 q H6 x u _ (I6.pinned (l a0) (T.obj _ _ G)) r6 (step x H6 y6)) (λ_ s7 a2=>?_) λ_ _ z=>z;obtain⟨h,H7,I7,q7⟩:=a2;refine ye0 (ht C s2 c fp _ s7 h H7 _ I7 q7) (λok s8 b1=>?_) λ_ _ z=>z;obtain⟨H8,I8,q8⟩:=b1;have again:∀{s:List V} {t:Hp} {I:Ac},Inv (X.comp N scope C s2 c fp) ([]++qc fp s6.heap) h t I->NN s h t->∃m,m<n/\∃i ys q H',Inv (X.comp N scope C s2 c fp) [] q H' I/\tn i I.heap/\(∀b∈fp,H' b=none)/\W i m ys q H':=λ{s t I} R n9=>by
    obtain⟨m',hm,w9⟩:=hN s h t n9;refine⟨m',hm,i+1,s,h,t,R.unpinned,T.keep _ _ _ G λb hb o e=>(R.pin (b,o) (ya4 _ (ya4 _ (wy hb e)))).1,λb hb=>?_,w9⟩;obtain⟨o,e,d⟩:=T.obj _ _ G b hb;exact(R.pin (b,o) (ya4 _ (ya4 _ (wy hb e)))).2.1
   cases ok with
   |false=>
    have a6:NN ys h H8:=by
     have z:=q8;rw[if_neg yb0]at z;exact z
    rw[if_neg yb0];exact again I8 a6
   |true=>
    rw[if_pos rfl]at q8 ⊢;refine ye0 (he C s2 c fp _ s8 h H8 _ I8 q8) (λv I b2=>?_) λ_ _ z=>z;obtain⟨y,t,R,r9,a9,z9,q9⟩:=b2;refine ye0 (pS (X:=X.comp N scope C s2 c fp) _ I h t (.ref acc) [y] (.ref acc) [v] (λ_ L=>L=upd t acc (.lst (ys++[y]))) R rfl (.cons r9 .nil) ⟨acc,ys,y,rfl,rfl,a9,z9,rfl⟩) (λ_ b6 a1=>?_) λ_ _ z=>z;obtain⟨_,L,a3,_,b3⟩:=a1;subst b3;exact again a3 q9
 exact codeAny_compStart_list (loop _ rfl) (T.self X.A 0 _ _ _ (T.keep _ _ _ F λb _ o e=>old b o e) (loop _ rfl))
def zz8 (n:X.calm=true)(S:zI X.N X.env.scope N imp scope)(hi:PI X tg iter wi)(hg:∀C s2 c fp,PG (X.comp N scope C s2 c fp) tg g)(t:∀C s2 c fp,vd (X.comp N scope C s2 c fp) ifs tt)
  (he:∀C s2 c fp,PE (X.comp N scope C s2 c fp) elt te) (l:∀x,foldedSetIterable iter X.env x=pure x:=by intro _;rfl):
  PE X (.ListComp elt [⟨tg,iter,ifs,0⟩] scope pos) (zb1 wi imp g tt te):=by
 intro pins s B H Q I h;rw[eval_ListComp];refine wpAny_comprehension_free rfl l (vO (uj I S)) S.kind S.locs (thn (hi pins s B H _ I h) λv s1 h1=>thn h1 λp s2 h2=>?_);obtain⟨it,fp,tn,J,c,e,j,T,d,f2,hW⟩:=h2;subst e;refine sU n S hg t he j T d f2 hW λa C H' s' m r hn f q=>⟨m,hn,λh' sb=>?_⟩;obtain⟨k,g1,g2,g3,i,u⟩:=f;exact⟨.ref a,H',r.turned (λb o hb e=>(sb.2 b hb).trans e) k g1 g3 i u,rfl,q⟩
def zj7 {i:Nat}{x:Str}{px:Pos}{c:Pos}(A:X.calm=true)(S:zI X.N X.env.scope N imp scope)(hi:PI X tg iter wi)(hg:∀C s2 d fp,PG (X.comp N scope C s2 d fp) tg g)(L:∀C s2 d fp,vd (X.comp N scope C s2 d fp) ifs tt)
  (he:∀C s2 d fp,PE (X.comp N scope C s2 d fp) elt te) (K:X.N.Nodup) (y:X.N[i]?=some x) (u:Loc X.env.scope x) (n:swapsWith (.ListComp elt [⟨tg,iter,ifs,0⟩] scope pos) (some (.Name x px)) c.line X.env=pure true:=by rfl)
  (hf:X.fn x=true\/X.env.scope.names.lookup x=some .local:=by first|exact .inl rfl|exact .inr rfl|assumption) (z:∀x,foldedSetIterable iter X.env x=pure x:=by intro _;rfl):
  PS X (.Assign [.Name x px] (.ListComp elt [⟨tg,iter,ifs,0⟩] scope pos) c) (zQ8 (zb1 wi imp g tt te) (qT i)):=by
 intro pins s B H D I h;rw[exec_Assign_Name_used _ _ _ _ n];refine z76 (wpAny_standAt (z76 ?_));refine z76 (ye0 (wpAny_comprehension_free rfl z (vO (uj I S)) S.kind S.locs (thn (hi pins s B H _ I h) λv s1 h1=>thn h1 λF s2 h2=>?_))
  (λ_ s' hq=>z80 (z80 hq)) λ_ _ e=>e)
 obtain⟨it,fp,tn,J,d,e,t,T,p,f2,hW⟩:=h2;subst e;refine sU A S hg L he t T p f2 hW λa C H' s' m G hn f q=>?_;obtain⟨w,g1,g2,g3,r,M⟩:=f;refine wpAny_assign_Name (pP G K y u (show RelV (.ref a) (.ref a)from rfl) (λs4 E j=>?_) hf);obtain⟨ad,sb,had⟩:=j;have l:C≠ad:=by
  rcases had with e|e
  .rw[e];exact g1
  .exact(r x ad e).symm
 exact⟨m,hn.sameBut sb l,λh' k=>⟨_,H',E.turned (λb o hb e=>(k.2 b hb).trans e) w g1 g3 r M,q⟩⟩
end
mutual
inductive DV (H:Hp):V->Aa->Prop where
 |non:DV H .non .none
 |bl (b:Bool):DV H (.bl b) (.bool b)
 |int (i:Int):DV H (.int i) (.int i)
 |str (x:Str):DV H (.str x) (.str x)
 |lst {a:Ad}{xs:List V}{ds:List Aa}:H a=some (.lst xs)->DVs H xs ds->DV H (.ref a) (.list ds)
 |tup {a:Ad}{xs:List V}{ds:List Aa}:H a=some (.tup xs)->DVs H xs ds->DV H (.ref a) (.tuple ds)
inductive DVs (H:Hp):List V->List Aa->Prop where
 |nil:DVs H [] []
 |cons {x:V}{xs:List V}{d:Aa}{ds:List Aa}:DV H x d->DVs H xs ds->DVs H (x::xs) (d::ds)
end
def zR3 {H:Hp}{m1:V->Aa->Prop}{m2:List V->List Aa->Prop}(e:m1 .non .none)(m:∀b,m1 (.bl b) (.bool b))(j:∀i,m1 (.int i) (.int i))(f:∀x,m1 (.str x) (.str x))
  (n:∀{a:Ad} {xs:List V} {ds:List Aa},H a=some (.lst xs)->m2 xs ds->m1 (.ref a) (.list ds)) (p:∀{a:Ad} {xs:List V} {ds:List Aa},H a=some (.tup xs)->m2 xs ds->m1 (.ref a) (.tuple ds)) (n2:m2 [] []) (o:∀{x:V} {xs:List V} {d:Aa} {ds:List Aa},m1 x d->m2 xs ds->m2 (x::xs) (d::ds)):
  (∀x d,DV H x d->m1 x d)/\∀xs ds,DVs H xs ds->m2 xs ds:=by
 let k:=λx d (_:DV H x d)=>m1 x d
 let M2:=λx d (_:DVs H x d)=>m2 x d
 have g:=λ{a} {xs} {ds} (q:H a=some (.lst xs)) (_:DVs H xs ds) (z:m2 xs ds)=>n q z;have l:=λ{a} {xs} {ds} (q:H a=some (.tup xs)) (_:DVs H xs ds) (z:m2 xs ds)=>p q z;have c:=λ{x} {xs} {d} {ds} (_:DV H x d) (_:DVs H xs ds) (y:m1 x d) (z:m2 xs ds)=>o y z;exact⟨λ_ _ h=>@DV.rec H k M2 e m j f g l n2 c _ _ h,λ_ _ h=>@DVs.rec H k M2 e m j f g l n2 c _ _ h⟩
def DVs.ind {H:Hp}{motive:(xs:List V)->(ds:List Aa)->DVs H xs ds->Prop}(nil:motive [] [] .nil)(cons:∀{x:V}{xs:List V}{d:Aa}{ds:List Aa} (a:DV H x d) (r:DVs H xs ds),motive xs ds r->motive (x::xs) (d::ds) (.cons a r)){xs:List V}{ds:List Aa}(h:DVs H xs ds):motive xs ds h:=
 ((zR3 (m2:=λxs ds=>∃h:DVs H xs ds,motive xs ds h) .non .bl .int .str (λq z=>.lst q z.1) (λq z=>.tup q z.1) ⟨.nil,nil⟩ (λa z=>⟨.cons a z.1,cons a z.1 z.2⟩)).2 _ _ h).2
section
variable {X:Cx}{pins:List (Ad×Obj)}{B:St}{H:Hp}{s:Ac}
def zo7 (I:Inv X pins B H s):(∀x d,DV H x d->∀u,RelV x u->∃as,Reads s.heap u d as)/\∀xs ds,DVs H xs ds->∀us,Vals xs us->∃as,ReadsAll s.heap us ds as:=by
 refine zR3 ?_ ?_ ?_ ?_ ?_ ?_ ?_ ?_
 .intro u r;cases(r);exact⟨_,.none⟩
 .intro b u r;cases(r);exact⟨_,.bool b⟩
 .intro i u r;obtain⟨t,rfl⟩:=(r);exact⟨_,.int i t⟩
 .intro x u r;obtain⟨t,rfl⟩:=(r);exact⟨_,.str x t⟩
 .intro a xs ds hq e u r;cases(r);obtain⟨f,j,p,m⟩:=I.list (SqL.of hq);obtain⟨o,g,k,n,hd⟩:=p.isList;obtain⟨as,c⟩:=e _ j;exact⟨_,.list g k hd (by simpa using c)⟩
 .intro a xs ds hq e u r;cases(r);obtain⟨f,j,p,m⟩:=I.tuple (SqT.of hq);obtain⟨o,g,k,n,hd⟩:=p;obtain⟨as,c⟩:=e _ j;exact⟨_,.tuple g k hd (by simpa using c)⟩
 .intro us r;cases r;exact⟨_,.nil⟩
 .intro x xs d ds h e us r;cases r with
  |cons r rs=>
   obtain⟨as,c⟩:=h _ r;obtain⟨bs,l⟩:=e _ rs;exact⟨_,.cons c l⟩
def DV.reads (I:Inv X pins B H s){x:V}{d:Aa}{u:Ab}(h:DV H x d)(r:RelV x u):∃as,Reads s.heap u d as:=(zo7 I).1 _ _ h _ r
end
def zg4 {H H':Hp}(e:zt H H'):(∀x d,DV H x d->DV H' x d)/\∀xs ds,DVs H xs ds->DVs H' xs ds:=zR3 .non .bl .int .str (λq=>.lst (e _ _ q)) (λq=>.tup (e _ _ q)) .nil .cons
def DV.same {H H':Hp}(e:zt H H'){x:V}{d:Aa}(h:DV H x d):DV H' x d:=(zg4 e).1 _ _ h
def DVs.same {H H':Hp}(e:zt H H'){xs:List V}{ds:List Aa}(h:DVs H xs ds):DVs H' xs ds:=(zg4 e).2 _ _ h
theorem DVs.length {H:Hp}{xs:List V}{ds:List Aa}(h:DVs H xs ds):xs.length=ds.length:=h.ind (motive:=λxs ds _=>xs.length=ds.length) rfl λ_ _ z=>congrArg (·+1) z
noncomputable def tyD :Aa->String
 |.none=>"NoneType"
 |.bool _=>"bool"
 |.int _=>"int"
 |.str _=>"str"
 |.list _=>"list"
 |.tuple _=>"tuple"
 |.dict _=>"dict"
theorem DV.ty {K:Ae}{H:Hp}{x:V}{d:Aa}(h:DV H x d):uN K H x (.type (tyD d)):=by
 cases h with
 |non=>exact .non
 |bl b=>exact .bl b
 |int i=>exact .int i
 |str x=>exact .str x
 |lst e _=>exact .lst e
 |tup e _=>exact .tup e
noncomputable def isInt :Aa->Bool
 |.int _=>true
 |.bool _=>true
 |_=>false
def isBool :Aa->Bool
 |.bool _=>true
 |_=>false
def isStr :Aa->Bool
 |.str _=>true
 |_=>false
def isList :Aa->Bool
 |.list _=>true
 |_=>false
def zp8 :Aa->Bool
 |.tuple _=>true
 |_=>false
noncomputable def zs5 (T:String)(d:Aa):Option Bool:=
 if T="int" then some (isInt d)else if T="bool" then some (isBool d)else if T="str" then some (isStr d)else if T="list" then some (isList d)else if T="tuple" then some (zp8 d)else none
noncomputable def zP5 (t T:String):Option Bool:=if(Value.type t == Value.type T)=true then some true else if PySem.W.kitMeta T=true then(fastBuiltinMro t).map (·.contains (Value.type T))else none
def zk2 (K:Ae)(t T:String):PySem.W.kitOne K (.type t) (.type T)=zP5 t T:=rfl
def zl2 :(["NoneType","bool","int","str","list","tuple"].all λt=>["int","bool","str","list","tuple"].all λT=>
  zP5 t T == some (if T="int" then t == "int"||t == "bool" else t == T))=true:=by decide +kernel
def zT8 (K:Ae){H:Hp}{x:V}{d:Aa}(h:DV H x d){T:String}{b:Bool}(e:zs5 T d=some b):PySem.W.kitOne K (.type (tyD d)) (.type T)=some b:=by
 rw[zk2];have key:∀t∈["NoneType","bool","int","str","list","tuple"],∀T∈["int","bool","str","list","tuple"],zP5 t T=some (if T="int" then t == "int"||t == "bool" else t == T):=λt c T f=>
  eq_of_beq (yn2.mp (yn2.mp zl2 t c) T f)
 have hd:tyD d∈["NoneType","bool","int","str","list","tuple"]:=by cases h<;>simp[tyD]
 unfold zs5 at e;split at e
 .rename_i a;subst a;rw[key _ hd "int" (by decide)];cases e;cases h<;>rfl
 .split at e
  .rename_i a;subst a;rw[key _ hd "bool" (by decide)];cases e;cases h<;>rfl
  .split at e
   .rename_i a;subst a;rw[key _ hd "str" (by decide)];cases e;cases h<;>rfl
   .split at e
    .rename_i a;subst a;rw[key _ hd "list" (by decide)];cases e;cases h<;>rfl
    .split at e
     .rename_i a;subst a;rw[key _ hd "tuple" (by decide)];cases e;cases h<;>rfl
     .cases e
section
variable {X:Cx}
def zV1 :R2:=λx y H Q=>∃d e,DV H x d/\DV H y e/\SeqAt.shaped d=true/\SeqAt.shaped e=true/\Q (.bl (PyData.eqv d e)) H
def zU4 :R2:=λx y H Q=>∃d e,DV H x d/\DV H y e/\SeqAt.shaped d=true/\SeqAt.shaped e=true/\Q (.bl (!PyData.eqv d e)) H
def zK3 (c:X.A.units+64<cLine):OpR X (compareOp .Eq) zV1:=by
 intro pins s B H x y v u Q I a f h;obtain⟨d,e,hd,he,g,i,q⟩:=h;obtain⟨as,b⟩:=hd.reads I a;obtain⟨bs,j⟩:=he.reads I f;exact SeqAt.compareEq_shaped b j g i c ⟨.bl _,H,I,rfl,q⟩
def zK4 (c:X.A.units+64<cLine):OpR X (compareOp .NotEq) zU4:=by
 intro pins s B H x y v u Q I a f h;obtain⟨d,e,hd,he,g,i,q⟩:=h;obtain⟨as,b⟩:=hd.reads I a;obtain⟨bs,j⟩:=he.reads I f;exact SeqAt.compareNe_shaped b j g i c ⟨.bl _,H,I,rfl,q⟩
def bS :yP X (.builtin "isinstance") (λxs H Q=>∃x T t b,xs=[x,.ty T]/\uN X.K H x t/\PySem.W.kitOne X.K t (.type T)=some b/\Q (.bl b) H):=by
 intro pins s B H xs us Q I r h;obtain⟨x,T,t,b,rfl,ty,e,q⟩:=h;obtain⟨u,v,rfl,a,c⟩:=Vals.two r;cases(c);exact cq I a ty e λd=>⟨.bl b,H,I.tok d,rfl,q⟩
def fF :yP X (.builtin "isinstance") (λxs H Q=>∃x T d b,xs=[x,.ty T]/\DV H x d/\zs5 T d=some b/\Q (.bl b) H):=by
 intro pins s B H xs us Q I r h;obtain⟨x,T,d,b,e,hd,a,q⟩:=h;exact bS pins s B H xs us Q I r ⟨x,T,_,b,e,hd.ty,zT8 X.K hd a,q⟩
def zV8 (i j:Int):Prop:=0<j/\j.natAbs.log2<9000
def rH :OpR X (binaryOp .FloorDiv) (rI zV8 λi j=>.int (i / j)):=opI λi j _ _ _ _ _ a q=>by
 have h1:=a.1;refine floordiv_int (yt2 h1) ?_ (.inl (PyProof.noPylong_of_log2 a.2));rw[Int.fdiv_eq_ediv_of_nonneg _ (yj7 h1)];exact q
noncomputable abbrev big :Int:=115792089237316195423570985008687907853269984665640564039457584007913129639936
def log2_small {j:Int}(h0:0<j)(h:j<big):j.natAbs.log2<9000:=by
 have hn:j.natAbs≠0:=by lia
 have h2:j.natAbs<2 ^ 256:=by
  have e:2 ^ 256=115792089237316195423570985008687907853269984665640564039457584007913129639936:=by decide +kernel
  rw[e];unfold big at h
  lia
 have h3:=(Nat.log2_lt hn).mpr h2
 lia
def mO :yP X (.type "range") (λxs H Q=>∃i j:Int,xs=[.int i,.int j]/\∀p,H p=none->Q (.ref p) (upd H p (.rng i j))):=by
 intro pins s B H xs us Q I r h;obtain⟨i,j,rfl,q⟩:=h;obtain⟨u,v,rfl,⟨t,rfl⟩,⟨t',rfl⟩⟩:=Vals.two r;refine call_range_2 ⟨.ref s.heap.objs.size,_,I.laid (o:=.rng i j) (λb u e=>z79 _ e) (z82 _) ⟨t,t',s.toks,z86 _ rfl⟩,rfl,q _ (I.hok.fresh (z82 _))⟩
def zp (lo:Int)(n:Nat):List Int:=(List.range n).map λi=>lo+(i:Nat)
def zb (lo:Int)(n:Nat):(zp lo n).length=n:=by simp[zp]
def zG {lo:Int}{n i:Nat}(h:i<n):(zp lo n)[i]?=some (lo+(i:Nat)):=by simp[zp,h]
def qI {lo:Int}{n:Nat}{acc:Array Ab}(h:ItemsOf (λi v=>∃t,v=.int (lo+i*1) t) acc n):Vals ((zp lo n).map V.int) acc.toList:=by
 obtain⟨h1,h2⟩:=h;have key:∀xs us,xs.length=us.length->(∀(i:Nat) x u,xs[i]?=some x->us[i]?=some u->RelV x u)->Vals xs us:=by
  intro xs
  induction xs with
  |nil=>intro us a _;cases us with|nil=>exact .nil|cons _ _=>simp at a
  |cons x xs f=>
   intro us a hr;cases us with
   |nil=>simp at a
   |cons u us=>exact .cons (hr 0 x u rfl rfl) (f us (by simpa using a) λi e d e1 b=>hr (i+1) e d (by simpa using e1) (by simpa using b))
 refine key _ _ ?_ λi x u e1 b=>?_
 .rw[z77,zb];simp[h1]
 .rw[z88]at e1;have hi:i<n:=by
   have:=(z81.mp b).1;simp[h1]at this;exact this
  rw[zG hi]at e1;have c:=yb5 e1;subst c;obtain⟨t,g⟩:=h2 i u (by simpa using b);refine⟨t,?_⟩;rw[g,Int.mul_one]
def qM (i:X.calm=true):yP X (.type "list") (λxs H Q=>∃(p:Ad) (lo hi:Int),xs=[.ref p]/\H p=some (.rng lo hi)/\(-(2 ^ 62)<=lo/\lo<2 ^ 62/\-(2 ^ 62)<=hi/\hi<2 ^ 62)/\(hi-lo).toNat<=sizeLine/\(hi-lo).toNat<=2 ^ 24/\
  ∀l,H l=none->Q (.ref l) (upd H l (.lst ((zp lo (hi-lo).toNat).map V.int)))):=by
 intro pins s B H xs us Q I r h;obtain⟨p,lo,hi,rfl,f,⟨m,v,k,n⟩,g,b,q⟩:=h;obtain⟨u,rfl,j⟩:=Vals.one r;cases(j);obtain⟨t,t',d,e⟩:=(I.hok p _ f);refine call_list_range (I.ok.hd i) e (small_one m v k n) (by rw[rangeSize_one];split<;>lia) b λh' w a c' hk c hit=>?_;refine⟨.ref s.heap.objs.size,_,I.laid (o:=.lst ((zp lo (hi-lo).toNat).map V.int)) hk (z82 _) ⟨by rw[z77,zb];exact g,a.toList,c',qI hit,by simpa using c⟩,rfl,q _ (I.hok.fresh (z82 _))⟩
theorem kd {bs:List Bool}:∀{us:List Ab},Vals (bs.map V.bl) us->LSm.BoolsAre us bs:=by
 induction bs with
 |nil=>intro us h;cases h;exact .nil
 |cons b bs a=>
  intro us h;cases h with
  |cons r c=>
   cases(r);exact .cons b (a c)
end
def zv4 (X:Cx)(body:List An):TS:=λD B H=>∃t,PSs X body t/\t D B H
def zP {X:Cx}{body:List An}:PSs X body (zv4 X body):=λpins s B H D I ⟨t,p,q⟩=>p pins s B H D I q
def xy {X:Cx}{st:An}{rest:List An}{D:Ends}{B:St}{H:Hp}(M:St->Hp->Prop)(h1:∃t,PS X st t/\t {D with nx:=M} B H)(h2:∀a H',M a H'->∃t,PSs X rest t/\t D a H'):
  ∃t,PSs X (st::rest) t/\t D B H:=by
 obtain⟨t1,p1,i⟩:=h1;refine⟨λc a H'=>c=D/\a=B/\H'=H,?_,rfl,rfl,rfl⟩;intro pins s a H' c I h;obtain⟨e1,k,j⟩:=h;subst e1 k j;have step:PSs X (st::rest) (zR5 t1 λd σ2 b=>d=c/\M σ2 b):=zE p1 λpins s σ2 b d f ⟨e,m⟩=>by
  subst e;obtain⟨l,p2,g⟩:=h2 σ2 b m;exact p2 pins s σ2 b _ f g
 refine step pins s _ _ _ I ?_;show t1 {c with nx:=λσ2 b=>c=c/\M σ2 b} _ _;have e:(λ(σ2:St) (b:Hp)=>c=c/\M σ2 b)=M:=by
  funext σ2 b
  exact propext ⟨λz=>z.2,λz=>⟨rfl,z⟩⟩
 rw[e];exact i
def fG {K:Ae}{a acc:Ad}{xs:List V}{g:TG}{tt:TT}{k:TE}{Q:VK}{f:St}{H0:Hp}(Pv:Nat->List V->St->Hp->Prop)(h0:Pv 0 [] f H0)(l:∀i ys b H,i<=xs.length->Pv i ys b H->SqL K H a xs)
  (n:∀i x ys b H,xs[i]?=some x->Pv i ys b H->g x b H λτ2 s=>tt τ2 s λc j=>
   if c=true then k τ2 j λy h=>h acc=some (.lst ys)/\ys.length<sizeLine/\Pv (i+1) (ys++[y]) τ2 (upd h acc (.lst (ys++[y])))else Pv (i+1) ys τ2 j)
  (hd:∀ys b H,Pv xs.length ys b H->Q (.ref acc) H):
  oz (Itl K a) acc g tt k f H0 Q:=by
 refine⟨λi m ys b H=>m=xs.length-i/\i<=xs.length/\Pv i ys b H,⟨xs.length,by simp,z94 _,h0⟩,?_⟩;rintro i m ys b H ⟨rfl,hi,p⟩;have q:=l i ys b H hi p;by_cases d:i<xs.length
 .refine .inr ⟨⟨xs,xs[i],q,by simp[d]⟩,Pv (i+1),λt o H' r=>⟨xs.length-(i+1),by omega,rfl,d,r⟩,λx H' y=>?_⟩;obtain⟨e,y⟩:=y;subst e;exact n i x ys b _ (y xs q) p
 .have e:i=xs.length:=by omega
  subst e;exact .inl ⟨⟨xs,q,z82 _⟩,hd ys b H p⟩
def at0 {O:Type}{x:O}{xs:List O}:atI (x::xs) 0=some x:=yC (j:=0) rfl
def ix0 {O:Type}{x:O}{xs:List O}:ixN (x::xs).length 0=some 0:=by
 unfold ixN;rw[if_pos (yd6 _),if_pos (by rw[ya1];omega)];rfl
def z71 {O:Type}{x:O}{xs:List O}:seqIndex? 0 (x::xs).length=some 0:=(oN ix0).1
def zi2 (ns:List Int)(lo hi:Option Int):∃ms:List Int,kI (ns.map V.int) lo hi=ms.map V.int/\ms.length<=ns.length:=by
 refine⟨(ns.drop (HT.sIx (ns.map V.int).length 0 lo)).take (HT.sIx (ns.map V.int).length (ns.map V.int).length hi-HT.sIx (ns.map V.int).length 0 lo),?_,?_⟩
 .unfold kI;rw[List.map_take,List.map_drop]
 .rw[yc3,yj9];omega
structure yF (H:Hp)(t b c:Ad):Prop where
 ex:∃(n:Int) (bs cs:List Int),b≠c/\H t=some (.lst [.ref b,.ref c,.int n])/\H b=some (.lst (bs.map V.int))/\H c=some (.lst (cs.map V.int))/\bs.length<=63/\cs.length<=63
theorem iR {b c:Ad}{n:Int}(bs:List Int):HO.lst [.ref b,.ref c,.int n]≠HO.lst (bs.map V.int):=by
 intro z;injection z with z;cases bs with
 |nil=>cases z
 |cons x r=>cases z
def pY (t b:Ad)(H H':Hp):Prop:=∀a,a≠t->a≠b->H' a=H a
theorem pY.trans {t b:Ad}{H H1 c:Hp}(h:pY t b H H1)(k:pY t b H1 c):pY t b H c:=λa h1 h2=>(k a h1 h2).trans (h a h1 h2)
def kY (K:Ae):Sp:=λvs H Q _=>∃(a:Ad) (ns:List Int),vs=[.ref a]/\SqL K H a (ns.map V.int)/\ns.length<=63/\
 ∀(t b c:Ad) (H':Hp),yF H' t b c->H t=none->H b=none->H c=none->zt H H'->Q (.ref t) H'
def aC :Sp:=λvs H Q _=>∃(t b c:Ad) (many:Int),vs=[.ref t,.int many]/\yF H t b c/\0<many/\many<big/\
 ∀(v:Int) (H':Hp),0<=v->v<many->yF H' t b c->pY t b H H'->Q (.int v) H'
def yF.free {H:Hp}{t b c l:Ad}(T:yF H t b c)(h:H l=none):l≠t/\l≠b/\l≠c:=by
 obtain⟨n,bs,cs,n1,e1,d,a,l1,l2⟩:=T.ex;exact⟨(zk e1 h).symm,(zk d h).symm,(zk a h).symm⟩
def yF.off {H H':Hp}{t b c:Ad}(T:yF H t b c)(h:∀a,a=t\/a=b\/a=c->H' a=H a):yF H' t b c:=by
 obtain⟨n,bs,cs,n1,e1,e,d,l1,l2⟩:=T.ex;exact⟨n,bs,cs,n1,by rw[h t (.inl rfl)];exact e1,by rw[h b (.inr (.inl rfl))];exact e,by rw[h c (.inr (.inr rfl))];exact d,l1,l2⟩
def zl4 {H:Hp}{t b c l:Ad}{o:HO}(T:yF H t b c)(h:l≠t/\l≠b/\l≠c):yF (upd H l o) t b c:=
 T.off λa ha=>zc (ha.elim (λe=>e▸h.1.symm) λha=>ha.elim (λe=>e▸h.2.1.symm) λe=>e▸h.2.2.symm)
def dW {H H':Hp}{t b c:Ad}(T:yF H t b c)(s:zt H H'):yF H' t b c:=by
 obtain⟨n,bs,cs,n1,e1,d,a,l1,l2⟩:=T.ex;exact⟨n,bs,cs,n1,s _ _ e1,s _ _ d,s _ _ a,l1,l2⟩
def yg {H:Hp}{p:Ad}{o:HO}(h:H p=none):zt H (upd H p o):=λb u e=>by rw[zc (zk e h)];exact e
def shaped_ints (ns:List Int):SeqAt.shaped (.list (ns.map PyData.int))=true/\SeqAt.shaped (.tuple (ns.map PyData.int))=true:=by
 have h1:PyData.canLayAll0 (ns.map PyData.int)=true:=by
  induction ns with
  |nil=>rfl
  |cons n r a=>simp only[ya6,PyData.canLayAll0,PyData.canLay0,a,Bool.and_self]
 have h2:PyData.depthAll (ns.map PyData.int)=0:=by
  clear h1
  induction ns with
  |nil=>rfl
  |cons n r a=>simp only[ya6,PyData.depthAll,PyData.depth,a,Nat.max_self]
 constructor<;>simp[SeqAt.shaped,PyData.canLay0,PyData.depth,h1,h2]
def yH :Ad:=(147:Nat)
def wz :Str:="cheapest_first.<locals>.<lambda>"
def rP (x:Ad):Prop:=x=yH
def sf (c:Ad):HO:=.ext λh=>h.CodeRec (.ref c) wz
structure TabAt (H:Hp):Prop where
 ex:∃ps:Array Ab,H yH=some (.tbl ps)/\TriplesOk ps.toList/\∀pos cv,codeAmong pos ps.toList=some cv->∃c,cv=.ref c/\H c=some (sf c)
def qo {H H':Hp}(T:TabAt H)(h:∀a o,(∀xs,o≠.lst xs)->H a=some o->H' a=some o):TabAt H':=by
 obtain⟨ps,e1,e,d⟩:=T.ex;refine⟨ps,h _ _ (λxs z=>nomatch z) e1,e,λpos cv f=>?_⟩;obtain⟨c,rfl,b⟩:=d pos cv f;exact⟨c,rfl,h _ _ (λxs z=>nomatch z) b⟩
def Plain (H:Hp)(l:Ad):Prop:=∀o,H l=some o->o≠sf l/\∀ps,o≠.tbl ps
def zn0 {H:Hp}{l:Ad}{o:HO}(T:TabAt H)(h:Plain H l):TabAt (upd H l o):=by
 obtain⟨ps,e1,d,b⟩:=T.ex;have n1:yH≠l:=λz=>by rw[z]at e1;exact(h _ e1).2 ps rfl
 refine⟨ps,by rw[zc n1];exact e1,d,λpos cv e=>?_⟩;obtain⟨c,rfl,a⟩:=b pos cv e;have n2:c≠l:=λz=>by subst z;exact(h _ a).1 rfl
 exact⟨c,rfl,by rw[zc n2];exact a⟩
def dG {ps:Array Ab}:∀a,HO.tbl ps≠HO.tup a:=λ_ z=>by cases z
def oj {H:Hp}{x:Ad}(T:TabAt H)(h:rP x):∃o,H x=some o/\(∀a,o≠.tup a)/\∀xs,o≠.lst xs:=by
 obtain⟨ps,e1,_⟩:=T.ex;exact⟨_,by rw[h];exact e1,dG,λ_ z=>by cases z⟩
def pK {H:Hp}{l:Ad}{xs:List V}(h:H l=some (.lst xs)):Plain H l:=λo e=>by
 rw[h]at e;cases e;exact⟨(λz=>by cases z),λps z=>by cases z⟩
def rp {H:Hp}{l:Ad}{xs:List (Key×V)}(h:H l=some (.dK xs)):Plain H l:=λo e=>by
 rw[h]at e;cases e;exact⟨(λz=>by cases z),λps z=>by cases z⟩
def cp {H:Hp}{l C dx:Ad}{fs:List (Str×V)}(h:H l=some (.ins C dx fs)):Plain H l:=λo e=>by
 rw[h]at e;cases e;exact⟨(λz=>by cases z),λps z=>by cases z⟩
def nW {H:Hp}{l:Ad}(T:TabAt H)(h:H l=none):¬rP l:=λz=>by
 obtain⟨o,e,_⟩:=oj T z;rw[h]at e;cases e
def zv9 {H H':Hp}{t b:Ad}{xs ys:List V}(T:TabAt H)(c:H t=some (.lst xs))(hb:H b=some (.lst ys))(off:pY t b H H'):TabAt H':=qo T λa o no e=>by
 have n1:a≠t:=λz=>by rw[z,c]at e;cases e;exact no _ rfl
 have n2:a≠b:=λz=>by rw[z,hb]at e;cases e;exact no _ rfl
 rw[off a n1 n2];exact e
def zk5 {H H':Hp}(T:TabAt H)(h:zt H H'):TabAt H':=qo T λa o _ e=>h a o e
def mz (K:Ae):Sp:=λvs H Q _=>∃(a:Ad) (ns:List Int),vs=[.ref a]/\SqL K H a (ns.map V.int)/\ns.length<=63/\TabAt H/\∀H',Q (.bl true) H'
structure zN6 (mg:Str->Option Ab):Prop where
 abs:mg "abs"=none
 list:mg "list"=none
 len:mg "len"=none
structure zX (n:Nat)(d:Aa):Prop where
 shw:d.showable=true
 nod:d.hasDict=false
 dep:d.depth<=8
 len:d.shown.length<=n
 lay:d.canLay0=true
def zX.mono {m n:Nat}{d:Aa}(h:zX m d)(e:m<=n):zX n d:=⟨h.shw,h.nod,h.dep,z93 h.len e,h.lay⟩
theorem tS :∀(a:List Str) (k:Nat) (acc:Str),(textFrom k acc a).length<=acc.length+piled a
 |[],_,acc=>by rw[piled_nil];exact z82 _
 |t::r,k,acc=>by
  have h:=tS r (k+1) (acc++(if k > 0 then ", " else "":String)++t);rw[piled_cons];have c:(Str.ofString (if k > 0 then ", " else "":String)).length<=2:=by
   split
   .exact ya2 rfl
   .exact z94 _
  have b:=ys2 (acc++Str.ofString (if k > 0 then ", " else "":String)) t;have d:=ys2 acc (Str.ofString (if k > 0 then ", " else "":String));show(textFrom (k+1) (acc++Str.ofString (if k > 0 then ", " else "":String)++t) r).length<=_
  lia
def ki (a:List Str):(listText a).length<=piled a+2:=by
 unfold listText;rw[ys2];have h:=tS a 0 (Str.ofString "[");have e1:(Str.ofString "[").length=1:=rfl;have b:(Str.ofString "]").length=1:=rfl
 lia
theorem ou (a:List Str):(tupleText a).length<=piled a+3:=by
 cases a with
 |nil=>decide +kernel
 |cons t r=>
  have h:=join_length_add (t::r) (by simp);unfold tupleText;rw[ys2,ys2];have e1:(Str.ofString "(").length=1:=rfl;have b:(Str.ofString (if(t::r).length == 1 then ",)" else ")":String)).length<=2:=by
   split
   .exact ya2 rfl
   .exact yd3 (show 1<2 by decide)
  lia
theorem vt {n:Nat}:∀(ds:List Aa),(∀d∈ds,zX n d)->piled (PyData.shownAll ds)<=ds.length*(n+2)
 |[],_=>z94 _
 |d::r,h=>by
  have h1:=(h d z89).len;have h2:=vt r λe he=>h e (z87 _ he);show piled (d.shown::PyData.shownAll r)<=_;rw[piled_cons,ya1,Nat.succ_mul]
  lia
structure yk (n:Nat)(ds:List Aa):Prop where
 all:∀d∈ds,zX n d
 dep:∀d∈ds,d.depth<=7
theorem yk.parts {n:Nat}:∀{ds:List Aa},yk n ds->PyData.showableAll ds=true/\PyData.hasDictAll ds=false/\PyData.depthAll ds<=7/\PyData.canLayAll0 ds=true
 |[],_=>⟨rfl,rfl,z94 _,rfl⟩
 |d::r,h=>by
  obtain⟨a,b,c,e⟩:=yk.parts ⟨λx f=>h.all x (z87 _ f),λx f=>h.dep x (z87 _ f)⟩;have hd:=h.all d z89;refine⟨?_,?_,?_,?_⟩
  .simp only[PyData.showableAll,hd.shw,a,Bool.and_self]
  .simp only[PyData.hasDictAll,hd.nod,b,Bool.or_self]
  .simp only[PyData.depthAll];exact zW1 (h.dep d z89) c
  .simp only[PyData.canLayAll0,hd.lay,e,Bool.and_self]
theorem zX.list {n m:Nat}{ds:List Aa}(h:yk n ds)(e:ds.length*(n+2)+2<=m):zX m (.list ds):=by
 obtain⟨a,b,c,f⟩:=h.parts;refine⟨by simp only[PyData.showable,a],by simp only[PyData.hasDict,b],by simp only[PyData.depth];exact zA4 c,?_,by simp only[PyData.canLay0,f]⟩;exact zy7 e (ki (PyData.shownAll ds)) (vt ds h.all)
theorem zX.tuple {n m:Nat}{ds:List Aa}(h:yk n ds)(e:ds.length*(n+2)+3<=m):zX m (.tuple ds):=by
 obtain⟨a,b,c,f⟩:=h.parts;refine⟨by simp only[PyData.showable,a],by simp only[PyData.hasDict,b],by simp only[PyData.depth];exact zA4 c,?_,by simp only[PyData.canLay0,f]⟩;exact zy7 e (ou (PyData.shownAll ds)) (vt ds h.all)
def aw {i:Int}(h0:-big<i)(h1:i<big):i.natAbs.log2<1920:=by
 by_cases hn:i.natAbs=0
 .rw[hn];decide
 .have h2:i.natAbs<2 ^ 256:=by
   have e:2 ^ 256=115792089237316195423570985008687907853269984665640564039457584007913129639936:=by decide +kernel
   rw[e];unfold big at h0 h1
   lia
  have h3:=(Nat.log2_lt hn).mpr h2
  lia
theorem zX.int {i:Int}(h0:-big<i)(h1:i<big):zX 2000 (.int i):=by
 have a:=aw h0 h1;refine⟨by simp only[PyData.showable,yg6];exact a,rfl,z94 _,?_,rfl⟩;have:=int_text_len_1921 a;show(Str.ofString (toString i)).length<=2000
 lia
theorem zX.none :zX 2000 .none:=⟨rfl,rfl,z94 _,by decide +kernel,rfl⟩
theorem zX.bool (b:Bool):zX 2000 (.bool b):=⟨rfl,rfl,z94 _,by cases b<;>decide +kernel,rfl⟩
theorem zX.shaped {n:Nat}{d:Aa}(h:zX n d):SeqAt.shaped d=true:=by
 unfold SeqAt.shaped;rw[h.lay,ys3,yg6];have:=h.dep
 lia
section
variable {X:Cx}
def pG {s:Ac}{h':Ao}{o:Obj}{q:Ad}(hq:q=s.heap.objs.size)(hk:∀b x,b∉[q]->(s.heap.push o).get? b=some x->h'.get? b=some x):∀b x,s.heap.get? b=some x->h'.get? b=some x:=λb x e=>by
 refine hk b x (λhm=>?_) (z79 _ e);have a:b=q:=by simpa using hm
 rw[a,hq]at e;exact yd4 _ (z90 e)
def cH (o:X.calm=true):yP X (.builtin "all") (λxs H Q=>∃(p:Ad) (bs:List Bool),xs=[.ref p]/\H p=some (.lst (bs.map V.bl))/\Q (.bl (bs.all id)) H):=by
 intro pins s B H xs us Q I r h;obtain⟨p,bs,rfl,f,q⟩:=h;obtain⟨u,rfl,k⟩:=Vals.one r;cases(k);obtain⟨a,n,l,y⟩:=I.list (SqL.of f);have e:=kd n;have d:=l.isList;refine call_all_walk (yh9 d ⟨s.heap.objs.size,[s.heap.objs.size,p],[s.heap.objs.size],a.toArray.size,_,_,λi=>(bs[i]?).getD true,rfl,
  Walks.list (A:=X.A.in1) (I.ok.hd o) _ p (z96 (I.hok.lt f)) a.toArray,⟨⟨_,z86 _ rfl,rfl,rfl⟩,d.push _⟩,λi v s' w t j c=>?_,λh' x hk=>?_⟩)
 .obtain⟨b,g,rfl⟩:=e.get i v (by simpa using j);dsimp only at c;rw[g]at c;exact yd1 c
 .have m:((List.range a.toArray.size).all λi=>(bs[i]?).getD true)=bs.all id:=by
   rw[z99,e.length];exact LSm.range_all bs
  rw[m];exact⟨.bl _,H,I.kept (pG rfl hk),rfl,q⟩
def eE (o:X.calm=true):yP X (.builtin "any") (λxs H Q=>∃(p:Ad) (bs:List Bool),xs=[.ref p]/\H p=some (.lst (bs.map V.bl))/\Q (.bl (bs.any id)) H):=by
 intro pins s B H xs us Q I r h;obtain⟨p,bs,rfl,f,q⟩:=h;obtain⟨u,rfl,k⟩:=Vals.one r;cases(k);obtain⟨a,n,l,y⟩:=I.list (SqL.of f);have e:=kd n;have d:=l.isList;refine call_any_walk (yh9 d ⟨s.heap.objs.size,[s.heap.objs.size,p],[s.heap.objs.size],a.toArray.size,_,_,λi=>(bs[i]?).getD false,rfl,
  Walks.list (A:=X.A.in1) (I.ok.hd o) _ p (z96 (I.hok.lt f)) a.toArray,⟨⟨_,z86 _ rfl,rfl,rfl⟩,d.push _⟩,λi v s' w t j c=>?_,λh' x hk=>?_⟩)
 .obtain⟨b,g,rfl⟩:=e.get i v (by simpa using j);dsimp only at c;rw[g]at c;exact yd1 c
 .have m:((List.range a.toArray.size).any λi=>(bs[i]?).getD false)=bs.any id:=by
   rw[z99,e.length];exact LSm.range_any bs
  rw[m];exact⟨.bl _,H,I.kept (pG rfl hk),rfl,q⟩
end
noncomputable def z54 :Aa->Bool
 |.int _=>true
 |_=>false
noncomputable def xl (lo hi:Int):Aa->Bool
 |.int i=>decide (lo<=i)&&decide (i<=hi)
 |_=>false
noncomputable def pairD :Aa->Bool
 |.tuple ds=>decide ((ds.length:Int)=2)
 |_=>false
noncomputable abbrev fv :Aa->Bool:=xl 0 1000000
noncomputable def z75 :Aa->Bool
 |.tuple [a,b]=>fv a&&fv b
 |_=>false
noncomputable def zQ5 :Aa->Option Int
 |.tuple [.int a,.int b]=>if fv (.int a)&&fv (.int b)then some (b-a)else none
 |_=>none
noncomputable def vn (d:Aa):Bool:=match zQ5 d with
 |some k=>decide (0<=k)
 |none=>false
noncomputable def sub (p:Ad->Prop)(H:Hp):Hp:=λa=>open Classical in if p a then H a else none
def zf {p:Ad->Prop}{H:Hp}{a:Ad}{o:HO}(h:sub p H a=some o):p a/\H a=some o:=by
 unfold sub at h;split at h
 .rename_i b;exact⟨b,h⟩
 .cases h
def zB {p:Ad->Prop}{H:Hp}{a:Ad}{o:HO}(b:p a)(h:H a=some o):sub p H a=some o:=by
 unfold sub;rw[if_pos b];exact h
def zu {p q:Ad->Prop}{H H':Hp}(h:∀a o,p a->H a=some o->q a/\H' a=some o):zt (sub p H) (sub q H'):=λa o e=>by
 obtain⟨c,he⟩:=zf e;obtain⟨hq,b⟩:=h a o c he;exact zB hq b
def xY {p:Ad->Prop}{H:Hp}:zt (sub p H) H:=λ_ _ e=>(zf e).2
def yk.snoc {n:Nat}{ds:List Aa}{d:Aa}(h:yk n ds)(hd:zX n d)(a:d.depth<=7):yk n (ds++[d]):=
 ⟨λe he=>(ya8.mp he).elim (h.all e) λz=>by rw[z92.mp z];exact hd,λe he=>(ya8.mp he).elim (h.dep e) λz=>by rw[z92.mp z];exact a⟩
def yk.nil {n:Nat}:yk n []:=⟨λd hd=>by simp at hd,λd hd=>by simp at hd⟩
def yk.two {n:Nat}{d e:Aa}(hd:zX n d)(he:zX n e)(h1:d.depth<=7)(h2:e.depth<=7):yk n [d,e]:=(yk.nil.snoc hd h1).snoc he h2
section
variable {X:Cx}{e:Al}{es:List Al}
def uu (X:Cx)(e:Al):TE:=λB H Q=>∃t,PE X e t/\t B H Q
def zg :PE X e (uu X e):=λpins s B H Q I a=>by obtain⟨t,p,q⟩:=a;exact p pins s B H Q I q
def zZ6 (X:Cx)(e:Al):TT:=λB H Q=>∃t,PT X e t/\t B H Q
def xA :PT X e (zZ6 X e):=λpins s B H Q I a=>by obtain⟨t,p,q⟩:=a;exact p pins s B H Q I q
def zK0 (X:Cx)(es:List Al):TA:=λB H Q=>∃t,PA X es t/\t B H Q
def yK :PA X es (zK0 X es):=λpos pins s B H Q I a=>by obtain⟨t,p,q⟩:=a;exact p pos pins s B H Q I q
end
noncomputable def xM :Key->Aa
 |.inl i=>.int i
 |.inr x=>.str x
def xcO (a C:Ad)(d:Option Ad):HO:=.ext λh=>∃o vs,h.get? a=some o/\o.cls=.ref C/\o.dict=d/\o.data=.fields vs
mutual
inductive AV (H:Hp):V->Aa->Prop where
 |non:AV H .non .none
 |bl (b:Bool):AV H (.bl b) (.bool b)
 |int (i:Int):AV H (.int i) (.int i)
 |str (x:Str):AV H (.str x) (.str x)
 |lst {a:Ad}{xs:List V}{ds:List Aa}:H a=some (.lst xs)->AVs H xs ds->AV H (.ref a) (.list ds)
 |tup {a:Ad}{xs:List V}{ds:List Aa}:H a=some (.tup xs)->AVs H xs ds->AV H (.ref a) (.tuple ds)
 |ins {a C dx:Ad}{fs:List (Str×V)}{ds:List (Aa×Aa)}:H a=some (.ins C dx fs)->AVf H fs ds->AV H (.ref a) (.dict ((.int (C:Nat),.none)::ds))
 |dk {a:Ad}{o:Obj}{kvs:List (Key×V)}{ds:List (Aa×Aa)}:H a=some (.frz o (.dK kvs))->AVk H kvs ds->AV H (.ref a) (.dict ((.none,.none)::ds))
 |dt {a:Ad}{o:Obj}{kvs:List (List Key×V)}{ds:List (Aa×Aa)}:H a=some (.frz o (.dT kvs))->AVt H kvs ds->AV H (.ref a) (.dict ((.none,.bool true)::ds))
 |xc {a C dx:Ad}{fs:List (Str×V)}{ds:List (Aa×Aa)}:H a=some (xcO a C (some dx))->H dx=some (.xd fs)->AVf H fs ds->AV H (.ref a) (.dict ((.int (C:Nat),.bool true)::ds))
 |xn {a C:Ad}:H a=some (xcO a C none)->AV H (.ref a) (.dict [(.int (C:Nat),.bool false)])
inductive AVs (H:Hp):List V->List Aa->Prop where
 |nil:AVs H [] []
 |cons {x:V}{xs:List V}{d:Aa}{ds:List Aa}:AV H x d->AVs H xs ds->AVs H (x::xs) (d::ds)
inductive AVf (H:Hp):List (Str×V)->List (Aa×Aa)->Prop where
 |nil:AVf H [] []
 |cons {f:Str}{x:V}{fs:List (Str×V)}{d:Aa}{ds:List (Aa×Aa)}:AV H x d->AVf H fs ds->AVf H ((f,x)::fs) ((.str f,d)::ds)
inductive AVk (H:Hp):List (Key×V)->List (Aa×Aa)->Prop where
 |nil:AVk H [] []
 |cons {k:Key}{x:V}{fs:List (Key×V)}{d:Aa}{ds:List (Aa×Aa)}:AV H x d->AVk H fs ds->AVk H ((k,x)::fs) ((xM k,d)::ds)
inductive AVt (H:Hp):List (List Key×V)->List (Aa×Aa)->Prop where
 |nil:AVt H [] []
 |cons {k:List Key}{x:V}{fs:List (List Key×V)}{d:Aa}{ds:List (Aa×Aa)}:AV H x d->AVt H fs ds->AVt H ((k,x)::fs) ((.tuple (k.map xM),d)::ds)
end
def eJ {H:Hp}{m1:V->Aa->Prop}{m2:List V->List Aa->Prop}{m3:List (Str×V)->List (Aa×Aa)->Prop}{m4:List (Key×V)->List (Aa×Aa)->Prop}{m5:List (List Key×V)->List (Aa×Aa)->Prop}
  (w:m1 .non .none) (I:∀b,m1 (.bl b) (.bool b)) (r:∀i,m1 (.int i) (.int i)) (A:∀x,m1 (.str x) (.str x))
  (L:∀{a xs ds},H a=some (.lst xs)->m2 xs ds->m1 (.ref a) (.list ds)) (Q:∀{a xs ds},H a=some (.tup xs)->m2 xs ds->m1 (.ref a) (.tuple ds))
  (S:∀{a C dx fs ds},H a=some (.ins C dx fs)->m3 fs ds->m1 (.ref a) (.dict ((.int (C:Nat),.none)::ds))) (O:∀{a o kvs ds},H a=some (.frz o (.dK kvs))->m4 kvs ds->m1 (.ref a) (.dict ((.none,.none)::ds)))
  (M:∀{a o kvs ds},H a=some (.frz o (.dT kvs))->m5 kvs ds->m1 (.ref a) (.dict ((.none,.bool true)::ds))) (K:∀{a C dx fs ds},H a=some (xcO a C (some dx))->H dx=some (.xd fs)->m3 fs ds->m1 (.ref a) (.dict ((.int (C:Nat),.bool true)::ds)))
  (c:∀{a C},H a=some (xcO a C none)->m1 (.ref a) (.dict [(.int (C:Nat),.bool false)]))
  (n2:m2 [] []) (T:∀{x xs d ds},m1 x d->m2 xs ds->m2 (x::xs) (d::ds)) (g:m3 [] []) (N:∀{f x fs d ds},m1 x d->m3 fs ds->m3 ((f,x)::fs) ((.str f,d)::ds))
  (J:m4 [] []) (R:∀{k x fs d ds},m1 x d->m4 fs ds->m4 ((k,x)::fs) ((xM k,d)::ds)) (s:m5 [] []) (P:∀{k x fs d ds},m1 x d->m5 fs ds->m5 ((k,x)::fs) ((.tuple (k.map xM),d)::ds)):
  (∀x d,AV H x d->m1 x d)/\(∀x d,AVs H x d->m2 x d)/\(∀x d,AVf H x d->m3 x d)/\(∀x d,AVk H x d->m4 x d)/\∀x d,AVt H x d->m5 x d:=by
 have D:=λ{a} {xs} {ds} (q:H a=some (.lst xs)) (_:AVs H xs ds) (z:m2 xs ds)=>L q z;have G:=λ{a} {xs} {ds} (q:H a=some (.tup xs)) (_:AVs H xs ds) (z:m2 xs ds)=>Q q z;have t:=λ{a C dx} {fs} {ds} (q:H a=some (.ins C dx fs)) (_:AVf H fs ds) (z:m3 fs ds)=>S q z;have p:=λ{a o} {fs} {ds} (q:H a=some (.frz o (.dK fs))) (_:AVk H fs ds) (z:m4 fs ds)=>O q z;have u:=λ{a o} {fs} {ds} (q:H a=some (.frz o (.dT fs))) (_:AVt H fs ds) (z:m5 fs ds)=>M q z;have e:=λ{a C dx} {fs} {ds} (q:H a=some (xcO a C (some dx))) (U:H dx=some (.xd fs)) (_:AVf H fs ds) (z:m3 fs ds)=>K q U z;have l:=λ{x} {xs} {d} {ds} (_:AV H x d) (_:AVs H xs ds) (y:m1 x d) (z:m2 xs ds)=>T y z;have E:=λ{f} {x} {fs} {d} {ds} (_:AV H x d) (_:AVf H fs ds) (y:m1 x d) (z:m3 fs ds)=>N (f:=f) y z;have j:=λ{k} {x} {fs} {d} {ds} (_:AV H x d) (_:AVk H fs ds) (y:m1 x d) (z:m4 fs ds)=>R (k:=k) y z;have v:=λ{k} {x} {fs} {d} {ds} (_:AV H x d) (_:AVt H fs ds) (y:m1 x d) (z:m5 fs ds)=>P (k:=k) y z
 let F:=λx d (_:AV H x d)=>m1 x d
 let M2:=λx d (_:AVs H x d)=>m2 x d
 let B:=λx d (_:AVf H x d)=>m3 x d
 let m:=λx d (_:AVk H x d)=>m4 x d
 let n:=λx d (_:AVt H x d)=>m5 x d
 exact⟨λ_ _ h=>@AV.rec H F M2 B m n w I r A D G t p u e c n2 l g E J j s v _ _ h,λ_ _ h=>@AVs.rec H F M2 B m n w I r A D G t p u e c n2 l g E J j s v _ _ h,λ_ _ h=>@AVf.rec H F M2 B m n w I r A D G t p u e c n2 l g E J j s v _ _ h,λ_ _ h=>@AVk.rec H F M2 B m n w I r A D G t p u e c n2 l g E J j s v _ _ h,λ_ _ h=>@AVt.rec H F M2 B m n w I r A D G t p u e c n2 l g E J j s v _ _ h⟩
def AVs.ind {H:Hp}{motive:(xs:List V)->(ds:List Aa)->AVs H xs ds->Prop}(nil:motive [] [] .nil)(cons:∀{x:V}{xs:List V}{d:Aa}{ds:List Aa} (a:AV H x d) (r:AVs H xs ds),motive xs ds r->motive (x::xs) (d::ds) (.cons a r)){xs:List V}{ds:List Aa}(h:AVs H xs ds):motive xs ds h:=
 ((eJ (m2:=λxs ds=>∃h:AVs H xs ds,motive xs ds h) .non .bl .int .str (λq z=>.lst q z.1) (λq z=>.tup q z.1) .ins .dk .dt .xc .xn ⟨.nil,nil⟩ (λa z=>⟨.cons a z.1,cons a z.1 z.2⟩) .nil .cons .nil .cons .nil .cons).2.1 _ _ h).2
def AVf.ind {H:Hp}{motive:(xs:List (Str×V))->(ds:List (Aa×Aa))->AVf H xs ds->Prop}(nil:motive [] [] .nil)(cons:∀{f:Str}{x:V}{fs:List (Str×V)}{d:Aa}{ds:List (Aa×Aa)} (a:AV H x d) (r:AVf H fs ds),motive fs ds r->motive ((f,x)::fs) ((.str f,d)::ds) (.cons a r)){xs:List (Str×V)}{ds:List (Aa×Aa)}(h:AVf H xs ds):motive xs ds h:=
 ((eJ (m3:=λxs ds=>∃h:AVf H xs ds,motive xs ds h) .non .bl .int .str .lst .tup (λq z=>.ins q z.1) .dk .dt (λq s z=>.xc q s z.1) .xn .nil .cons ⟨.nil,nil⟩ (λa z=>⟨.cons a z.1,cons a z.1 z.2⟩) .nil .cons .nil .cons).2.2.1 _ _ h).2
def AVk.ind {H:Hp}{motive:(xs:List (Key×V))->(ds:List (Aa×Aa))->AVk H xs ds->Prop}(nil:motive [] [] .nil)(cons:∀{k:Key}{x:V}{fs:List (Key×V)}{d:Aa}{ds:List (Aa×Aa)} (a:AV H x d) (r:AVk H fs ds),motive fs ds r->motive ((k,x)::fs) ((xM k,d)::ds) (.cons a r)){xs:List (Key×V)}{ds:List (Aa×Aa)}(h:AVk H xs ds):motive xs ds h:=
 ((eJ (m4:=λxs ds=>∃h:AVk H xs ds,motive xs ds h) .non .bl .int .str .lst .tup .ins (λq z=>.dk q z.1) .dt .xc .xn .nil .cons .nil .cons ⟨.nil,nil⟩ (λa z=>⟨.cons a z.1,cons a z.1 z.2⟩) .nil .cons).2.2.2.1 _ _ h).2
def zg1 {H H':Hp}(e:zt H H'):(∀x d,AV H x d->AV H' x d)/\(∀x d,AVs H x d->AVs H' x d)/\(∀x d,AVf H x d->AVf H' x d)/\(∀x d,AVk H x d->AVk H' x d)/\∀x d,AVt H x d->AVt H' x d:=by refine eJ .non .bl .int .str (λhq a=>.lst (e _ _ hq) a) (λhq a=>.tup (e _ _ hq) a) (λhq a=>.ins (e _ _ hq) a) (λhq a=>.dk (e _ _ hq) a) (λhq a=>.dt (e _ _ hq) a) (λhq hd a=>.xc (e _ _ hq) (e _ _ hd) a) (λhq=>.xn (e _ _ hq)) .nil .cons .nil .cons .nil .cons .nil .cons
def AV.same {H H':Hp}(e:zt H H'){x:V}{d:Aa}(h:AV H x d):AV H' x d:=(zg1 e).1 _ _ h
def AVs.same {H H':Hp}(e:zt H H'){xs:List V}{ds:List Aa}(h:AVs H xs ds):AVs H' xs ds:=(zg1 e).2.1 _ _ h
def AVk.same {H H':Hp}(e:zt H H'){fs:List (Key×V)}{ds:List (Aa×Aa)}(h:AVk H fs ds):AVk H' fs ds:=(zg1 e).2.2.2.1 _ _ h
def dv5 {H:Hp}:(∀x d,AV H x d->d.hasDict=false->DV H x d)/\(∀x d,AVs H x d->PyData.hasDictAll d=false->DVs H x d):=by
 have r:=eJ (m1:=λx d=>d.hasDict=false->DV H x d) (m2:=λx d=>PyData.hasDictAll d=false->DVs H x d) (m3:=λ_ _=>True) (m4:=λ_ _=>True) (m5:=λ_ _=>True) (λ_=>.non) (λb _=>.bl b) (λi _=>.int i) (λx _=>.str x) (λhq a h=>.lst hq (a (by simpa only[PyData.hasDict]using h))) (λhq a h=>.tup hq (a (by simpa only[PyData.hasDict]using h))) (λ_ _ h=>by simp[PyData.hasDict]at h) (λ_ _ h=>by simp[PyData.hasDict]at h) (λ_ _ h=>by simp[PyData.hasDict]at h) (λ_ _ _ h=>by simp[PyData.hasDict]at h) (λ_ h=>by simp[PyData.hasDict]at h) (λ_=>.nil)
  (λh a e=>by
   simp only[PyData.hasDictAll,Bool.or_eq_false_iff]at e;exact .cons (h e.1) (a e.2)) trivial (λ_ _=>trivial) trivial (λ_ _=>trivial) trivial (λ_ _=>trivial)
 exact⟨r.1,r.2.1⟩
def AV.dv {H:Hp}{x:V}{d:Aa}(h:AV H x d)(e:d.hasDict=false):DV H x d:=dv5.1 _ _ h e
def AVs.dv {H:Hp}{xs:List V}{ds:List Aa}(h:AVs H xs ds)(e:PyData.hasDictAll ds=false):DVs H xs ds:=dv5.2 _ _ h e
theorem AVs.length {H:Hp}{xs:List V}{ds:List Aa}(h:AVs H xs ds):xs.length=ds.length:=h.ind (motive:=λxs ds _=>xs.length=ds.length) rfl λ_ _ z=>congrArg (·+1) z
def AVs.append {H:Hp}{xs ys:List V}{ds es:List Aa}(h:AVs H xs ds)(k:AVs H ys es):AVs H (xs++ys) (ds++es):=h.ind (motive:=λxs ds _=>AVs H (xs++ys) (ds++es)) k λa _ z=>.cons a z
theorem AVs.get {H:Hp}{xs:List V}{ds:List Aa}{i:Nat}{d:Aa}(h:AVs H xs ds)(e:ds[i]?=some d):∃x,xs[i]?=some x/\AV H x d:=by
 induction h using AVs.ind generalizing i with
 |nil=>simp at e
 |cons a _ b=>
  cases i with
  |zero=>exact⟨_,rfl,yb5 e▸a⟩
  |succ i=>exact b e
theorem AVs.take {H:Hp}{xs:List V}{ds:List Aa}(n:Nat)(h:AVs H xs ds):AVs H (xs.take n) (ds.take n):=by
 induction h using AVs.ind generalizing n with
 |nil=>cases n<;>exact .nil
 |cons a _ b=>
  cases n with
  |zero=>exact .nil
  |succ n=>exact .cons a (b n)
theorem AVs.drop {H:Hp}{xs:List V}{ds:List Aa}(n:Nat)(h:AVs H xs ds):AVs H (xs.drop n) (ds.drop n):=by
 induction h using AVs.ind generalizing n with
 |nil=>cases n<;>exact .nil
 |cons a r b=>
  cases n with
  |zero=>exact .cons a r
  |succ n=>exact b n
theorem AVs.set {H:Hp}{x:V}{d:Aa}(a:AV H x d){xs:List V}{ds:List Aa}(i:Nat)(h:AVs H xs ds):AVs H (xs.set i x) (ds.set i d):=by
 induction h using AVs.ind generalizing i with
 |nil=>exact .nil
 |cons q r b=>
  cases i with
  |zero=>exact .cons a r
  |succ i=>exact .cons q (b i)
theorem AVs.atI {H:Hp}{xs:List V}{ds:List Aa}{i:Int}{d:Aa}(h:AVs H xs ds)(e:atI ds i=some d):∃x,L2.atI xs i=some x/\AV H x d:=by
 unfold L2.atI at e ⊢;rw[h.length];cases q:ixN ds.length i with
 |none=>rw[q]at e;cases e
 |some j=>
  rw[q]at e;exact h.get e
noncomputable def cutD (ds:List Aa)(lo hi:Option Int):List Aa:=(ds.drop (HT.sIx ds.length 0 lo)).take (HT.sIx ds.length ds.length hi-HT.sIx ds.length 0 lo)
def AVs.cut {H:Hp}{xs:List V}{ds:List Aa}(h:AVs H xs ds)(lo hi:Option Int):AVs H (kI xs lo hi) (cutD ds lo hi):=by
 unfold kI cutD;rw[h.length];exact(h.drop _).take _
mutual
noncomputable def noL :Aa->Bool
 |.list _=>false
 |.dict ((.none,_)::_)=>false
 |.dict kvs=>rX kvs
 |.tuple ds=>wW ds
 |_=>true
noncomputable def wW :List Aa->Bool
 |[]=>true
 |d::r=>noL d&&wW r
noncomputable def rX :List (Aa×Aa)->Bool
 |[]=>true
 |(_,d)::r=>noL d&&rX r
end
def Ob :HO->Prop
 |.lst _=>True
 |.dK _=>True
 |.frz _ _=>True
 |_=>False
def z22 {H H':Hp}(e:∀a o,¬Ob o->H a=some o->H' a=some o):(∀x d,AV H x d->noL d=true->AV H' x d)/\(∀x d,AVs H x d->wW d=true->AVs H' x d)/\(∀x d,AVf H x d->rX d=true->AVf H' x d)/\(∀x d,AVk H x d->rX d=true->AVk H' x d):=by
 have r:=eJ (m1:=λx d=>noL d=true->AV H' x d) (m2:=λx d=>wW d=true->AVs H' x d) (m3:=λx d=>rX d=true->AVf H' x d) (m4:=λx d=>rX d=true->AVk H' x d) (m5:=λ_ _=>True) (λ_=>.non) (λb _=>.bl b) (λi _=>.int i) (λx _=>.str x) (λ_ _ h=>by simp[L2.noL]at h) (λhq c h=>.tup (e _ _ (λz=>z) hq) (c (by simpa only[L2.noL]using h))) (λhq c h=>.ins (e _ _ (λz=>z) hq) (c (by simpa[L2.noL,L2.rX]using h))) (λ_ _ h=>by simp[L2.noL]at h) (λ_ _ h=>by simp[L2.noL]at h) (λhq hd c h=>.xc (e _ _ (λz=>z) hq) (e _ _ (λz=>z) hd) (c (by simpa[L2.noL,L2.rX]using h))) (λhq _=>.xn (e _ _ (λz=>z) hq)) (λ_=>.nil)
  (λh c q=>by
   simp only[L2.wW,yc5]at q;exact .cons (h q.1) (c q.2)) (λ_=>.nil)
  (λh c q=>by
   simp only[L2.rX,yc5]at q;exact .cons (h q.1) (c q.2)) (λ_=>.nil)
  (λh c q=>by
   simp only[L2.rX,yc5]at q;exact .cons (h q.1) (c q.2)) trivial (λ_ _=>trivial)
 exact⟨r.1,r.2.1,r.2.2.1,r.2.2.2.1⟩
theorem AV.noL {H H':Hp}(e:∀a o,¬Ob o->H a=some o->H' a=some o){x:V}{d:Aa}(h:AV H x d)(q:L2.noL d=true):AV H' x d:=(z22 e).1 _ _ h q
def AVs.noL {H H':Hp}(e:∀a o,¬Ob o->H a=some o->H' a=some o){xs:List V}{ds:List Aa}(h:AVs H xs ds)(q:wW ds=true):AVs H' xs ds:=(z22 e).2.1 _ _ h q
structure Fr where
 H0:Hp
 O0:Ad->Prop
 tp:Option (Ad×Ad×Ad)
inductive A where
 |dat (d:Aa)
 |ow (c:Aa)
 |deep (d:Aa) (S:Ad->Prop)
 |tape
 |at(l:Ad)
 |exc (r:Fr) (q:Aa->Prop)
 |pin (l:Ad) (vs:List V) (ds:List Aa)
 |nst (l:Ad) (ls:List Ad) (dss:List (List Aa))
@[reducible] def A.own (ds:List Aa):A:=.ow (.list ds)
abbrev xf (ds:List (Aa×Aa)):Aa:=.dict ((.none,.none)::ds)
@[reducible] def A.dic (ds:List (Aa×Aa)):A:=.ow (xf ds)
abbrev Ev :=List (Option A)
def wN (o:HO):Prop:=∀a,o≠.tup a
def xj {xs:List V}:wN (.lst xs):=λ_ z=>by cases z
def Ob.notup {o:HO}(h:Ob o):wN o:=λa z=>by subst z;exact h
def NT (F:Fr)(x:Ad):Prop:=(∀t b c,F.tp=some (t,b,c)->x≠t/\x≠b)/\¬rP x
def Kz (F:Fr)(H H':Hp):Prop:=∀x o,H x=some o->NT F x->H' x=some o
structure zH (F:Fr)(H:Hp):Prop where
 tab:TabAt H
 ot:∀x,rP x->F.O0 x
 all:∀t b c,F.tp=some (t,b,c)->yF H t b c/\F.O0 t/\F.O0 b/\F.O0 c
instance {F:Fr} {H:Hp}:CoeFun (zH F H) (λ_=>∀t b c,F.tp=some (t,b,c)->yF H t b c/\F.O0 t/\F.O0 b/\F.O0 c):=⟨zH.all⟩
def zH.to {F F':Fr}{H:Hp}(t:zH F H)(f:F'.tp=F.tp)(d:∀x,F.O0 x->F'.O0 x):zH F' H:=⟨t.tab,λx h=>d x (t.ot x h),λa b c e=>by
 obtain⟨h1,h2,h3,g⟩:=t a b c (f▸e);exact⟨h1,d _ h2,d _ h3,d _ g⟩⟩
def zH.re {F F':Fr}{H H':Hp}(t:zH F H)(t':zH F' H')(d:F'.tp=F.tp):zH F H':=⟨t'.tab,t.ot,λa b c e=>⟨(t' a b c (d▸e)).1,(t a b c e).2⟩⟩
theorem zH.upd {F:Fr}{H:Hp}{l:Ad}{o:HO}(t:zH F H)(h:∀a b c,F.tp=some (a,b,c)->l≠a/\l≠b/\l≠c)(d:Plain H l):zH F (upd H l o):=⟨zn0 t.tab d,t.ot,λa b c e=>⟨zl4 (t a b c e).1 (h a b c e),(t a b c e).2⟩⟩
def zH.updO {F:Fr}{H:Hp}{l:Ad}{o:HO}(t:zH F H)(h:¬F.O0 l)(d:Plain H l):zH F (L2.upd H l o):=t.upd (λa b c e=>⟨λz=>h (by rw[z];exact(t a b c e).2.1),λz=>h (by rw[z];exact(t a b c e).2.2.1),λz=>h (by rw[z];exact(t a b c e).2.2.2)⟩) d
def foot (s:Option V):A->Ad->Prop
 |.ow _,x=>s=some (.ref x)
 |.deep _ S,x=>S x
 |.nst l ls _,x=>x∈l::ls
 |_,_=>False
def Ow (F:Fr)(O:Ev)(B:St)(x:Ad):Prop:=F.O0 x\/∃(i:Nat) (a:A) (s:Option V),O[i]?=some (some a)/\B[i]?=some s/\foot s a x
noncomputable abbrev Gz (F:Fr)(O:Ev)(B:St)(H:Hp):Hp:=sub (λx=>¬Ow F O B x) H
noncomputable def mG (S:Ad->Prop)(G H:Hp):Hp:=λx=>open Classical in if S x then H x else match G x with
 |some (.lst _)=>none
 |o=>o
def qS {S:Ad->Prop}{G a H H':Hp}(h:zt G a)(b:∀x o,S x->H x=some o->H' x=some o):zt (mG S G H) (mG S a H'):=λx o e=>by
 unfold mG at e ⊢;by_cases z:S x
 .rw[if_pos z]at e ⊢;exact b x o z e
 .rw[if_neg z]at e ⊢;cases q:G x with
  |none=>rw[q]at e;cases e
  |some u=>
   rw[h _ _ q];rw[q]at e;exact e
def za6 {S:Ad->Prop}{G H:Hp}{x:Ad}{o:HO}(h:mG S G H x=some o):(S x/\H x=some o)\/(¬S x/\G x=some o):=by
 unfold mG at h;by_cases z:S x
 .rw[if_pos z]at h;exact .inl ⟨z,h⟩
 .rw[if_neg z]at h;split at h
  .cases h
  .exact .inr ⟨z,h⟩
inductive yN (G:Hp):HO->Aa->Prop where
 |lst {xs:List V}{ds:List Aa}:AVs G xs ds->yN G (.lst xs) (.list ds)
 |dk {kvs:List (Key×V)}{ds:List (Aa×Aa)}:AVk G kvs ds->yN G (.dK kvs) (xf ds)
def yN.ob {G:Hp}{o:HO}{c:Aa}(h:yN G o c):Ob o:=by cases h<;>trivial
theorem yN.same {G a:Hp}{o:HO}{c:Aa}(h:yN G o c)(s:zt G a):yN a o c:=by
 cases h with
 |lst h=>exact .lst (h.same s)
 |dk h=>exact .dk (h.same s)
theorem yN.av {G:Hp}{o:HO}{ds:List Aa}{l:Ad}(h:yN G o (.list ds))(e:G l=some o):AV G (.ref l) (.list ds):=by
 cases h with
 |lst h=>exact .lst e h
def yN.lst_inv {G:Hp}{o:HO}{ds:List Aa}(h:yN G o (.list ds)):∃xs,o=.lst xs/\AVs G xs ds:=by cases h;exact⟨_,rfl,by assumption⟩
def yN.dk_inv {G:Hp}{o:HO}{ds:List (Aa×Aa)}(h:yN G o (xf ds)):∃xs,o=.dK xs/\AVk G xs ds:=by cases h;exact⟨_,rfl,by assumption⟩
theorem yN.plain {G H:Hp}{o:HO}{c:Aa}{l:Ad}(h:yN G o c)(e:H l=some o):Plain H l:=by
 cases h with
 |lst h=>exact pK e
 |dk h=>exact rp e
structure Lnk (r F:Fr)(H:Hp):Prop where
 tp:r.tp=F.tp
 o:∀x,r.O0 x->F.O0 x
 ok:zH r H
 k:Kz r r.H0 H
def xW (G H:Hp):List Ad->List (List Aa)->Prop
 |[],[]=>True
 |a::ls,ds::dss=>(∃xs,H a=some (.lst xs)/\AVs G xs ds)/\xW G H ls dss
 |_,_=>False
theorem xW.same {G c H H':Hp}(g:zt G c):∀{ls:List Ad}{dss:List (List Aa)},(∀a∈ls,∀o,H a=some o->H' a=some o)->xW G H ls dss->xW c H' ls dss
 |[],[],_,_=>trivial
 |a::ls,ds::dss,h,⟨⟨xs,e,av⟩,r⟩=>⟨⟨xs,h a z89 _ e,av.same g⟩,xW.same g (λb hb=>h b (z87 _ hb)) r⟩
 |[],_::_,_,z=>z.elim
 |_::_,[],_,z=>z.elim
theorem xW.obj {G H:Hp}:∀{ls:List Ad}{dss:List (List Aa)},xW G H ls dss->∀a∈ls,∃xs,H a=some (.lst xs)
 |[],_,_,_,h=>by cases h
 |b::ls,ds::dss,⟨⟨xs,e,_⟩,r⟩,a,h=>by
  rcases z84.mp h with z|z
  .exact⟨xs,z▸e⟩
  .exact xW.obj r a z
 |_::_,[],z,_,_=>z.elim
theorem xW.avs {G H:Hp}{p:Ad->Prop}(g:zt G (sub p H)):∀{ls:List Ad}{dss:List (List Aa)},(∀a∈ls,p a)->xW G H ls dss->AVs (sub p H) (ls.map .ref) (dss.map .list)
 |[],[],_,_=>.nil
 |a::ls,ds::dss,h,⟨⟨xs,e,av⟩,r⟩=>.cons (.lst (zB (h a z89) e) (av.same g)) (xW.avs g (λb hb=>h b (z87 _ hb)) r)
 |[],_::_,_,z=>z.elim
 |_::_,[],_,z=>z.elim
def uo (G:Hp)(F:Fr)(H:Hp)(s:Option V):A->Prop
 |.dat d=>∃v,s=some v/\AV G v d
 |.ow c=>∃l o,s=some (.ref l)/\H l=some o/\yN G o c/\¬F.O0 l/\F.H0 l=none
 |.deep d S=>∃v,s=some v/\AV (mG S G H) v d/\∀x,S x->¬F.O0 x/\F.H0 x=none/\∃xs,H x=some (.lst xs)
 |.tape=>∃t b c,F.tp=some (t,b,c)/\s=some (.ref t)
 |.at l=>s=some (.ref l)
 |.exc r _=>Lnk r F H
 |.pin l vs ds=>s=some (.ref l)/\G l=some (.lst vs)/\AVs G vs ds
 |.nst l ls dss=>s=some (.ref l)/\H l=some (.lst (ls.map .ref))/\xW G H ls dss/\(l::ls).Nodup/\∀x∈l::ls,¬F.O0 x/\F.H0 x=none
structure M (F:Fr)(O:Ev)(B:St)(H:Hp):Prop where
 len:O.length=B.length
 ok:∀(i:Nat) (a:A) (s:Option V),O[i]?=some (some a)->B[i]?=some s->uo (Gz F O B H) F H s a
 dj:∀(i j:Nat) (a b:A) (s t:Option V) (x:Ad),O[i]?=some (some a)->O[j]?=some (some b)->B[i]?=some s->B[j]?=some t->foot s a x->foot t b x->i=j
 xd:∀(i:Nat) (r:Fr) (q:Aa->Prop),O[i]?=some (some (.exc r q))->∀(j:Nat) (a:A) (s:Option V) (x:Ad),O[j]?=some (some a)->B[j]?=some s->foot s a x->r.H0 x=none
 tp:zH F H
 keep:Kz F F.H0 H
 oex:∀x,F.O0 x->∃o,H x=some o/\wN o
def M.at' {F:Fr}{O:Ev}{B:St}{H:Hp}(m:M F O B H){i:Nat}{a:Option A}(e:O[i]?=some a):∃s,B[i]?=some s:=by
 have:i<B.length:=by rw[<-m.len];exact(z81.mp e).1
 exact⟨_,z78 this⟩
theorem oH {G:Hp}{F:Fr}{H:Hp}{s:Option V}{a:A}{x:Ad}(h:uo G F H s a)(f:foot s a x):¬F.O0 x/\F.H0 x=none/\∃o,H x=some o/\Ob o:=by
 cases a with
 |ow c=>
  obtain⟨l,o,h1,h2,h3,i,b⟩:=h;rw[f]at h1;cases h1;exact⟨i,b,o,h2,h3.ob⟩
 |deep d S=>
  obtain⟨v,h1,h2,h3⟩:=h;obtain⟨j,k,xs,z3⟩:=h3 x f;exact⟨j,k,_,z3,trivial⟩
 |dat d=>exact f.elim
 |tape=>exact f.elim
 |«at» l=>exact f.elim
 |exc r q=>exact f.elim
 |pin l vs ds=>exact f.elim
 |nst l ls dss=>
  obtain⟨h1,h2,h3,i,b⟩:=h;have g:=f;refine⟨(b x g).1,(b x g).2,?_⟩;rcases z84.mp g with z|z
  .exact⟨.lst (ls.map .ref),z▸h2,trivial⟩
  .obtain⟨xs,e⟩:=h3.obj x z;exact⟨.lst xs,e,trivial⟩
def Lnk.kz {r F:Fr}{H H':Hp}(l:Lnk r F H)(k:Kz F H H')(t:zH F H'):Lnk r F H':=⟨l.tp,l.o,l.ok.re t l.tp.symm,λx o e n=>k x o (l.k x o e n) ⟨λa b c z=>n.1 a b c (l.tp.trans z),n.2⟩⟩
theorem Lnk.none {r F:Fr}{H:Hp}(l:Lnk r F H){x:Ad}(h:H x=Option.none):r.H0 x=Option.none:=by
 cases q:r.H0 x with
 |none=>rfl
 |some o=>rw[l.k x o q ⟨λa b c e=>⟨((l.ok a b c e).1.free h).1,((l.ok a b c e).1.free h).2.1⟩,nW l.ok.tab h⟩]at h;cases h
def noX :A->Prop
 |.exc _ _=>False
 |_=>True
theorem uo.stay {G m:Hp}{F F':Fr}{H H':Hp}{s:Option V}{a:A}(h:uo G F H s a)(g:zt G m)(hf:∀x o,foot s a x->H x=some o->H' x=some o/\¬F'.O0 x/\F'.H0 x=none)(u:F'.tp=F.tp)(p:∀r q,a=.exc r q->Lnk r F H->Lnk r F' H'):uo m F' H' s a:=by
 cases a with
 |dat d=>obtain⟨v,h1,h2⟩:=h;exact⟨v,h1,h2.same g⟩
 |ow c=>
  obtain⟨l,o,h1,h2,h3,k,n⟩:=h;obtain⟨i,j,z3⟩:=hf l o h1 h2;exact⟨l,o,h1,i,h3.same g,j,z3⟩
 |deep d S=>
  obtain⟨v,h1,h2,h3⟩:=h;refine⟨v,h1,h2.same (qS g λx o z e=>(hf x o z e).1),λx z=>?_⟩;obtain⟨_,_,xs,e⟩:=h3 x z;obtain⟨i,j,z3⟩:=hf x _ z e;exact⟨j,z3,xs,i⟩
 |tape=>obtain⟨t,b,c,e,z⟩:=h;exact⟨t,b,c,u.trans e,z⟩
 |«at» l=>exact h
 |exc r q=>exact p r q rfl h
 |pin l vs ds=>exact⟨h.1,g _ _ h.2.1,h.2.2.same g⟩
 |nst l ls dss=>
  obtain⟨h1,h2,h3,k,n⟩:=h;refine⟨h1,(hf l _ z89 h2).1,h3.same g λa ha o e=>(hf a o (z87 _ ha) e).1,k,λx f=>?_⟩;rcases z84.mp f with z|z
  .exact(hf x _ f (z▸h2)).2
  .obtain⟨xs,e⟩:=h3.obj x z;exact(hf x _ f e).2
section
variable {F:Fr}{O:Ev}{B:St}{H H' H'':Hp}
theorem M.dat (m:M F O B H)(i:Nat)(d:Aa)(e:O[i]?=some (some (.dat d))):∃v,B[i]?=some (some v)/\AV (Gz F O B H) v d:=by
 obtain⟨s,a⟩:=m.at' e;obtain⟨v,rfl,h⟩:=m.ok i _ s e a;exact⟨v,a,h⟩
def M.owc (m:M F O B H)(i:Nat)(c:Aa)(e:O[i]?=some (some (.ow c))):∃l o,B[i]?=some (some (.ref l))/\H l=some o/\yN (Gz F O B H) o c/\¬F.O0 l/\F.H0 l=none:=by
 obtain⟨s,a⟩:=m.at' e;obtain⟨l,o,rfl,h⟩:=m.ok i _ s e a;exact⟨l,o,a,h⟩
theorem M.own (m:M F O B H)(i:Nat)(ds:List Aa)(e:O[i]?=some (some (.own ds))):∃l xs,B[i]?=some (some (.ref l))/\H l=some (.lst xs)/\AVs (Gz F O B H) xs ds/\¬F.O0 l/\F.H0 l=none:=by
 obtain⟨l,o,h1,h2,h3,b⟩:=m.owc i _ e;obtain⟨xs,rfl,a⟩:=h3.lst_inv;exact⟨l,xs,h1,h2,a,b⟩
theorem M.dic (m:M F O B H)(i:Nat)(ds:List (Aa×Aa))(e:O[i]?=some (some (.dic ds))):∃l xs,B[i]?=some (some (.ref l))/\H l=some (.dK xs)/\AVk (Gz F O B H) xs ds/\¬F.O0 l/\F.H0 l=none:=by
 obtain⟨l,o,h1,h2,h3,b⟩:=m.owc i _ e;obtain⟨xs,rfl,a⟩:=h3.dk_inv;exact⟨l,xs,h1,h2,a,b⟩
def M.tvar (m:M F O B H)(i:Nat)(e:O[i]?=some (some .tape)):∃t b c,F.tp=some (t,b,c)/\B[i]?=some (some (.ref t)):=by
 obtain⟨s,a⟩:=m.at' e;obtain⟨t,b,c,h,rfl⟩:=m.ok i _ s e a;exact⟨t,b,c,h,a⟩
def M.lnk (m:M F O B H){i:Nat}{r:Fr}{q:Aa->Prop}(e:O[i]?=some (some (.exc r q))):Lnk r F H:=by
 obtain⟨s,a⟩:=m.at' e;exact m.ok i _ s e a
def Kz.refl :Kz F H H:=λ_ _ e _=>e
def Kz.trans (h:Kz F H H')(k:Kz F H' H''):Kz F H H'':=λx o e n=>k x o (h x o e n) n
def Kz.of_same (h:zt H H'):Kz F H H':=λx o e _=>h x o e
def zH.same (t:zH F H)(h:zt H H'):zH F H':=⟨zk5 t.tab h,t.ot,λa b c e=>⟨dW (t a b c e).1 h,(t a b c e).2⟩⟩
def zH.nt (t:zH F H){x:Ad}(h:¬F.O0 x):NT F x:=⟨λa b c e=>⟨λz=>h (z▸(t a b c e).2.1),λz=>h (z▸(t a b c e).2.2.1)⟩,λz=>h (t.ot x z)⟩
def ow0 {x:Ad}(h:¬Ow F O B x):¬F.O0 x:=λz=>h (.inl z)
def Kz.gz (k:Kz F H H')(t:zH F H):zt (Gz F O B H) (Gz F O B H'):=zu λa o h e=>⟨h,k a o e (t.nt (ow0 h))⟩
def M.oex' (t:zH F H')(k:Kz F H H')(h:∀x,F.O0 x->∃o,H x=some o/\wN o):∀x,F.O0 x->∃o,H' x=some o/\wN o:=λx i=>by
 by_cases n:NT F x
 .obtain⟨o,d,hn⟩:=h x i;exact⟨o,k _ _ d n,hn⟩
 .by_cases z:rP x
  .obtain⟨o,d,hn,_⟩:=oj t.tab z;exact⟨o,d,hn⟩
  .have:∃a b c,F.tp=some (a,b,c)/\¬(x≠a/\x≠b):=by exact Classical.byContradiction λq=>n ⟨λa b c e=>(Classical.byContradiction λw=>q ⟨a,b,c,e,w⟩),z⟩
   obtain⟨a,b,c,e,w⟩:=this;obtain⟨n,bs,cs,_,e1,j,l,_⟩:=(t a b c e).1.ex;by_cases g:x=a
   .exact⟨_,g▸e1,xj⟩
   .by_cases f:x=b
    .exact⟨_,f▸j,xj⟩
    .exact absurd ⟨g,f⟩ w
theorem M.kz (m:M F O B H)(k:Kz F H H')(t:zH F H'):M F O B H' where
 len:=m.len
 ok:=λi a s e1 b=>(m.ok i a s e1 b).stay (k.gz m.tp) (λx o hf e=>by
  obtain⟨h1,h2,_⟩:=oH (m.ok i a s e1 b) hf;exact⟨k x o e (m.tp.nt h1),h1,h2⟩) rfl λr _ _ l=>l.kz k t
 dj:=m.dj
 xd:=m.xd
 tp:=t
 keep:=m.keep.trans k
 oex:=M.oex' t k m.oex
def M.ft (m:M F O B H){i:Nat}{a:A}{s:Option V}{x:Ad}(e1:O[i]?=some (some a))(b:B[i]?=some s)(f:foot s a x):¬F.O0 x/\F.H0 x=none/\∃o,H x=some o/\Ob o:=oH (m.ok i a s e1 b) f
def M.owEx (m:M F O B H){x:Ad}(h:Ow F O B x):∃o,H x=some o/\wN o:=by
 rcases h with z|⟨i,a,s,e1,c,f⟩
 .exact m.oex x z
 .obtain⟨_,_,o,b,hb⟩:=m.ft e1 c f;exact⟨o,b,hb.notup⟩
def M.fresh (m:M F O B H){l:Ad}(h:H l=none):¬Ow F O B l:=λz=>by
 obtain⟨o,a,_⟩:=m.owEx z;rw[h]at a;cases a
theorem M.fresh0 (m:M F O B H){l:Ad}(h:H l=none):F.H0 l=none:=by
 cases q:F.H0 l with
 |none=>rfl
 |some o=>rw[m.keep l o q (m.tp.nt λz=>m.fresh h (.inl z))]at h;cases h
def M.old (m:M F O B H):zt (sub (λx=>¬F.O0 x) F.H0) (Gz F O B H):=λa o e=>by
 obtain⟨h1,h2⟩:=zf e;refine zB ?_ (m.keep a o h2 (m.tp.nt h1));rintro(z|⟨i,b,s,e1,c,f⟩)
 .exact h1 z
 .obtain⟨_,z,_⟩:=m.ft e1 c f;rw[h2]at z;cases z
noncomputable def Fr.up (F:Fr)(G:Hp):Fr:={F with H0:=λx=>(F.H0 x).or (G x)}
def nv {G:Hp}{x:Ad}{o:HO}(h:F.H0 x=some o):(F.up G).H0 x=some o:=by show(F.H0 x).or (G x)=some o;rw[h];rfl
theorem iq {G:Hp}{x:Ad}(h:(F.up G).H0 x=none):F.H0 x=none:=by
 cases q:F.H0 x with
 |none=>rfl
 |some o=>rw[nv q]at h;cases h
theorem M.up (m:M F O B H):M (F.up (Gz F O B H)) O B H where
 len:=m.len
 ok:=λi a s e1 c=>(m.ok i a s e1 c).stay (λ_ _ e=>e) (λx o hf e=>by
  obtain⟨h1,h2,_⟩:=m.ft e1 c hf;refine⟨e,h1,?_⟩;show(F.H0 x).or (Gz F O B H x)=none;rw[h2];cases q:Gz F O B H x with
  |none=>rfl
  |some o=>exact absurd (.inr ⟨i,a,s,e1,c,hf⟩) (zf q).1) rfl λr _ _ l=>⟨l.tp,l.o,l.ok,l.k⟩
 dj:=m.dj
 xd:=m.xd
 tp:=m.tp.to rfl λ_ z=>z
 keep:=λx o e n=>by
  have b:(F.H0 x).or (Gz F O B H x)=some o:=e;cases q:F.H0 x with
  |none=>rw[q,Option.none_or]at b;exact(zf b).2
  |some o'=>rw[q]at b;cases b;exact m.keep x _ q n
 oex:=m.oex
def M.down {G:Hp}(m:M (F.up G) O B H):M F O B H where
 len:=m.len
 ok:=λi a s e1 b=>(m.ok i a s e1 b).stay (λ_ _ e=>e) (λx o hf e=>by
  obtain⟨h1,h2,_⟩:=m.ft e1 b hf;exact⟨e,h1,iq h2⟩) rfl λr _ _ l=>⟨l.tp,l.o,l.ok,l.k⟩
 dj:=m.dj
 xd:=m.xd
 tp:=m.tp.to rfl λ_ z=>z
 keep:=λx o e n=>m.keep x o (nv e) n
 oex:=m.oex
def M.upold {b:Ev}{c:St}{H1:Hp}(m0:M F b c H1)(m:M (F.up (Gz F b c H1)) O B H):zt (Gz F b c H1) (Gz F O B H):=λa o e=>by
 obtain⟨h1,h2⟩:=zf e;have d:(F.up (Gz F b c H1)).H0 a=some o:=by
  show(F.H0 a).or (Gz F b c H1 a)=some o;cases q:F.H0 a with
  |none=>exact e
  |some o'=>
   have:=m0.keep a o' q (m0.tp.nt (ow0 h1));rw[h2]at this;cases this;rfl
 exact m.old a o (zB (ow0 h1) d)
end
def yY (F:Fr)(O:Ev)(B:St)(H:Hp)(v:V)(H':Hp)(ds:List Aa):Prop:=
 ∃l xs,v=.ref l/\H l=none/\H' l=some (.lst xs)/\AVs (sub (λx=>¬Ow F O B x/\x≠l) H') xs ds
def jw (F:Fr)(O:Ev)(B:St)(H:Hp)(v:V)(H':Hp)(c:Aa):Prop:=
 ∃l o,v=.ref l/\H l=none/\H' l=some o/\yN (sub (λx=>¬Ow F O B x/\x≠l) H') o c
def yY.c {F:Fr}{O:Ev}{B:St}{H H':Hp}{v:V}{ds:List Aa}(h:yY F O B H v H' ds):jw F O B H v H' (.list ds):=by
 obtain⟨l,xs,h1,h2,h3,a⟩:=h;exact⟨l,_,h1,h2,h3,.lst a⟩
def yY.av {F:Fr}{O:Ev}{B:St}{H H':Hp}{v:V}{ds:List Aa}(m:M F O B H)(h:yY F O B H v H' ds):AV (Gz F O B H') v (.list ds):=by
 obtain⟨l,xs,rfl,h1,h2,h3⟩:=h;exact .lst (zB (m.fresh h1) h2) (h3.same (zu λa o h e=>⟨h.1,e⟩))
section
variable (X:Cx)(O:Ev)
def EvD (e:Al)(Q:Aa->Prop):Prop:=∀(F:Fr) (B:St) (H:Hp) (R:VK),M F O B H->(∀d v H',Q d->zH F H'->Kz F H H'->AV (Gz F O B H') v d->R v H')->uu X e B H R
def EvL (e:Al)(Q:List Aa->Prop):Prop:=∀(F:Fr) (B:St) (H:Hp) (R:VK),M F O B H->(∀ds v H',Q ds->zH F H'->Kz F H H'->yY F O B H v H' ds->R v H')->uu X e B H R
def EvC (e:Al)(Q:Aa->Prop):Prop:=∀(F:Fr) (B:St) (H:Hp) (R:VK),M F O B H->(∀c v H',Q c->zH F H'->Kz F H H'->jw F O B H v H' c->R v H')->uu X e B H R
def EvT (e:Al)(Q:Bool->Prop):Prop:=∀(F:Fr) (B:St) (H:Hp) (R:Bool->Hp->Prop),M F O B H->(∀b H',Q b->zH F H'->Kz F H H'->R b H')->zZ6 X e B H R
def fq (F:Fr)(G:Hp)(v:V):A->Prop
 |.dat d=>AV G v d
 |.tape=>∃t b c,F.tp=some (t,b,c)/\v=.ref t
 |_=>False
inductive yo (F:Fr)(G:Hp):List V->List A->Prop where
 |nil:yo F G [] []
 |cons {v:V}{vs:List V}{a:A}{as:List A}:fq F G v a->yo F G vs as->yo F G (v::vs) (a::as)
def EvA (es:List Al)(Q:List A->Prop):Prop:=∀(F:Fr) (B:St) (H:Hp) (R:List V->Hp->Prop),M F O B H->(∀as vs H',Q as->zH F H'->Kz F H H'->yo F (Gz F O B H') vs as->R vs H')->zK0 X es B H R
end
theorem fq.to {F F':Fr}{G d:Hp}(s:zt G d)(f:F'.tp=F.tp){v:V}:∀{a:A},fq F G v a->fq F' d v a
 |.dat _,h=>AV.same s h
 |.tape,⟨t,b,c,e,z⟩=>⟨t,b,c,f.trans e,z⟩
 |.ow _,h=>h
 |.deep _ _,h=>h
 |.at _,h=>h
 |.exc _ _,h=>h
 |.pin _ _ _,h=>h
 |.nst _ _ _,h=>h
theorem yo.to {F F':Fr}{G a:Hp}(s:zt G a)(c:F'.tp=F.tp){vs:List V}{as:List A}(h:yo F G vs as):yo F' a vs as:=by
 induction h with
 |nil=>exact .nil
 |cons h _ b=>exact .cons (h.to s c) b
theorem yo.length {F:Fr}{G:Hp}:∀{vs:List V}{as:List A},yo F G vs as->vs.length=as.length
 |_,_,.nil=>rfl
 |_,_,.cons _ r=>by rw[ya1,ya1,yo.length r]
noncomputable def A.d :A->Aa
 |.dat d=>d
 |.ow c=>c
 |.deep d _=>d
 |.nst _ _ dss=>.list (dss.map .list)
 |_=>.none
def zn7 (F:Fr)(v:V)(H':Hp):A->Prop
 |.dat d=>AV (sub (λx=>¬F.O0 x) H') v d
 |.ow c=>∃l xs ds,v=.ref l/\c=.list ds/\F.H0 l=none/\¬F.O0 l/\H' l=some (.lst xs)/\AVs (sub (λx=>¬F.O0 x/\x≠l) H') xs ds
 |.deep d S=>AV (mG S (sub (λx=>¬F.O0 x) H') H') v d/\∀x,S x->¬F.O0 x/\F.H0 x=none/\∃xs,H' x=some (.lst xs)
 |.nst l ls dss=>v=.ref l/\H' l=some (.lst (ls.map .ref))/\xW (sub (λx=>¬F.O0 x/\x∉l::ls) H') H' ls dss/\(l::ls).Nodup/\∀x∈l::ls,¬F.O0 x/\F.H0 x=none
 |_=>False
def tV (F:Fr)(v:V)(H':Hp)(a:A):Prop:=zH F H'/\Kz F F.H0 H'/\zn7 F v H' a
def spA (φ:List A->(A->Prop)->Prop):Sp:=λvs H b _=>∃(F:Fr) (as:List A) (Q:A->Prop),F.H0=H/\zH F H/\(∀x,F.O0 x->∃o,H x=some o/\wN o)/\yo F (sub (λx=>¬F.O0 x) H) vs as/\φ as Q/\∀a v H',Q a->tV F v H' a->b v H'
theorem zn7.to {F F':Fr}{v:V}{H':Hp}{a:A}(r:zn7 F v H' a)(b:∀x,F'.O0 x->F.O0 x)(h0:∀x,F.H0 x=none->F'.H0 x=none):zn7 F' v H' a:=by
 have s:zt (sub (λx=>¬F.O0 x) H') (sub (λx=>¬F'.O0 x) H'):=zu λa o h e=>⟨λz=>h (b _ z),e⟩;cases a with
 |dat d=>exact AV.same s r
 |ow c=>
  obtain⟨l,xs,ds,h1,j,h2,h3,g,f⟩:=r;exact⟨l,xs,ds,h1,j,h0 _ h2,λz=>h3 (b _ z),g,f.same (zu λa o h e=>⟨⟨λz=>h.1 (b _ z),h.2⟩,e⟩)⟩
 |deep d S=>
  obtain⟨h1,h2⟩:=r;refine⟨h1.same (qS s λ_ _ _ e=>e),λx z=>?_⟩;obtain⟨k,m,z3⟩:=h2 x z;exact⟨λw=>k (b _ w),h0 _ m,z3⟩
 |tape=>exact r
 |«at» _=>exact r
 |exc _ _=>exact r
 |pin _ _ _=>exact r
 |nst l ls dss=>
  obtain⟨h1,h2,h3,g,f⟩:=r;exact⟨h1,h2,h3.same (zu λa o h e=>⟨⟨λz=>h.1 (b _ z),h.2⟩,e⟩) (λ_ _ _ e=>e),g,λx i=>⟨λz=>(f x i).1 (b _ z),h0 _ (f x i).2⟩⟩
structure xr where
 nx:Ev->Prop
 rt:A->Prop
 bk:Ev->Prop:=λ_=>False
 ct:Ev->Prop:=λ_=>False
structure mh (F:Fr)(E:xr)(D:Ends):Prop where
 nx:∀O B H,M F O B H->E.nx O->D.nx B H
 rt:∀a v H,tV F v H a->E.rt a->D.rt v H
 bk:∀O B H,M F O B H->E.bk O->D.bk B H
 ct:∀O B H,M F O B H->E.ct O->D.ct B H
def SvS (X:Cx)(O:Ev)(a:List An)(E:xr):Prop:=∀(F:Fr) (B:St) (H:Hp) (D:Ends),M F O B H->mh F E D->zv4 X a D B H
theorem mh.up {F:Fr}{G:Hp}{E:xr}{D:Ends}(e:mh F E D):mh (F.up G) E D where
 nx:=λO B H m q=>e.nx O B H m.down q
 bk:=λO B H m q=>e.bk O B H m.down q
 ct:=λO B H m q=>e.ct O B H m.down q
 rt:=λa v H r q=>e.rt a v H (by
  obtain⟨t,k,r⟩:=r;exact⟨t.to rfl λ_ z=>z,λx o e n=>k x o (nv e) n,r.to (λ_ z=>z) λx z=>iq z⟩) q
section
variable {X:Cx}{O:Ev}{e a b c:Al}{es:List Al}{pos p q:Pos}{Q:Aa->Prop}
def EvL.d (h:EvL X O e (λds=>Q (.list ds))):EvD X O e Q:=λF B H R m k=>h F B H R m λds v H' q t z f=>k _ v H' q t z (f.av m)
def EvD.imp {f:Aa->Prop}(h:EvD X O e f)(k:∀d,f d->Q d):EvD X O e Q:=λF B H R m r=>h F B H R m λd v H' q=>r d v H' (k d q)
def zj (i:Nat){x:Str}{d:Aa}(hi:O[i]?=some (some (.dat d)))(q:Q d)(g:X.N[i]?=some x:=by rfl)(h:Vis X.env.scope x:=by first|exact Or.inl rfl|exact Or.inr (Or.inl rfl)|exact Or.inr (Or.inr rfl))
  (hd:(x == ("__debug__":Str))=false:=by decide) (f:(x == ("__classdict__":Str))=false:=by decide):EvD X O (.Name x pos) Q:=λF B H R m k=>by
 obtain⟨v,h1,h2⟩:=m.dat i d hi;exact⟨_,xi g h hd f,v,h1,k d v H q m.tp Kz.refl h2⟩
def yq {i:Int}{j:Nat}(q:Q (.int i)):EvD X O (.Constant (.int i) j pos) Q:=λF B H R m k=>⟨_,zx,k _ _ H q m.tp Kz.refl (.int i)⟩
def zF5 {i:Bool}{j:Nat}(q:Q (.bool i)):EvD X O (.Constant (.bool i) j pos) Q:=λF B H R m k=>⟨_,zW9,k _ _ H q m.tp Kz.refl (.bl i)⟩
def jg {j:Nat}(q:Q .none):EvD X O (.Constant .none j pos) Q:=λF B H R m k=>⟨_,aq,k _ _ H q m.tp Kz.refl .non⟩
def wo {x:Str}{j:Nat}(q:Q (.str x)):EvD X O (.Constant (.str x) j pos) Q:=λF B H R m k=>⟨_,zO9,k _ _ H q m.tp Kz.refl (.str x)⟩
def yS {x:Str}{i:Int}(hg:Gl X x)(hm:∃t,X.mg x=some (.int i t))(q:Q (.int i))(hd:(x == ("__debug__":Str))=false:=by decide):EvD X O (.Name x pos) Q:=λF B H R m k=>by
 obtain⟨t,hm⟩:=hm;exact⟨_,zv8 hg hm (show RelV (.int i) (.int i t)from⟨t,rfl⟩) hd,k _ _ H q m.tp Kz.refl (.int i)⟩
def qx {f:TE->TE->TE}(hf:PE X e (f (uu X a) (uu X b)))(hr:∀B H R,f (uu X a) (uu X b) B H R↔uu X a B H (λx H1=>uu X b B H1 λy j=>f (tC x) (tC y) B j R))
  (h:EvD X O a λx=>EvD X O b λy=>∀(F:Fr) (B:St) (H:Hp) (i g:V) (R:VK),M F O B H->AV (Gz F O B H) i x->AV (Gz F O B H) g y->(∀d v H',Q d->zH F H'->Kz F H H'->AV (Gz F O B H') v d->R v H')->f (tC i) (tC g) B H R):
  EvD X O e Q:=λF B H R m k=>by
 refine⟨_,hf,(hr B H R).mpr ?_⟩;refine h F B H _ m λx i H1 w t1 n t=>?_;have m1:=m.kz n t1;exact w F B H1 _ m1 λy g j u A l z=>u F B j i g R (m1.kz l A) (t.same (l.gz m1.tp)) z λd v H' s t3 r o=>k d v H' s t3 ((n.trans l).trans r) o
def AV.int_inv {H:Hp}{v:V}{i:Int}(h:AV H v (.int i)):v=.int i:=by cases h;rfl
def AV.bl_inv {H:Hp}{v:V}{i:Bool}(h:AV H v (.bool i)):v=.bl i:=by cases h;rfl
def AV.str_inv {H:Hp}{v:V}{i:Str}(h:AV H v (.str i)):v=.str i:=by cases h;rfl
def AV.tup_inv {H:Hp}{v:V}{ds:List Aa}(h:AV H v (.tuple ds)):∃a xs,v=.ref a/\H a=some (.tup xs)/\AVs H xs ds:=by cases h;exact⟨_,_,rfl,by assumption,by assumption⟩
def AV.lst_inv {H:Hp}{v:V}{ds:List Aa}(h:AV H v (.list ds)):∃a xs,v=.ref a/\H a=some (.lst xs)/\AVs H xs ds:=by cases h;exact⟨_,_,rfl,by assumption,by assumption⟩
def AV.non_inv {H:Hp}{v:V}(h:AV H v .none):v=.non:=by cases h;rfl
def AV.isnon {H:Hp}{v:V}{d:Aa}(h:AV H v d):decide (v=.non)=(match d with|.none=>true|_=>false):=by cases h<;>simp
def zL8 {op:Operator}{C:Int->Int->Prop}{g:Int->Int->V}{gd:Int->Int->Aa}(n:OpR X (binaryOp op) (rI C g))(hg:∀H i j,AV H (g i j) (gd i j))
  (h:EvD X O a λx=>EvD X O b λy=>∃i j,x=.int i/\y=.int j/\C i j/\Q (gd i j)):EvD X O (.BinOp a op b pos) Q:=by
 refine qx (yv n zg zg) (λ_ _ _=>Iff.rfl) (h.imp λx h=>h.imp λy d=>?_);obtain⟨i,j,e1,o,r,hq⟩:=d;subst e1 o;intro F B H t s R m f l k;cases f.int_inv;cases l.int_inv;exact⟨i,j,rfl,rfl,r,k _ _ H hq m.tp Kz.refl (hg _ i j)⟩
def gE {op:Operator}{g:Int->Int->V}{gd:Int->Int->Aa}(n:OpR X (binaryOp op) (rI0 g))(hg:∀H i j,AV H (g i j) (gd i j))
  (h:EvD X O a λx=>EvD X O b λy=>∃i j,x=.int i/\y=.int j/\Q (gd i j)):EvD X O (.BinOp a op b pos) Q:=by
 refine qx (yv n zg zg) (λ_ _ _=>Iff.rfl) (h.imp λx h=>h.imp λy d=>?_);obtain⟨i,j,e1,o,hq⟩:=d;subst e1 o;intro F B H s r R m f l k;cases f.int_inv;cases l.int_inv;exact⟨i,j,rfl,rfl,k _ _ H hq m.tp Kz.refl (hg _ i j)⟩
def wJ (h:EvD X O a λx=>EvD X O b λy=>∃i j,x=.int i/\y=.int j/\Q (.int (i+j))):EvD X O (.BinOp a .Add b pos) Q:=gE tK (λ_ _ _=>.int _) h
def kX (h:EvD X O a λx=>EvD X O b λy=>∃i j,x=.int i/\y=.int j/\Q (.int (i-j))):EvD X O (.BinOp a .Sub b pos) Q:=gE zK6 (λ_ _ _=>.int _) h
def zO3 (h:EvD X O a λx=>EvD X O b λy=>∃i j,x=.int i/\y=.int j/\zL2 i j/\Q (.int (i ^ j.toNat))):EvD X O (.BinOp a .Pow b pos) Q:=zL8 bx (λ_ _ _=>.int _) h
def nA {i j r:Int}{p1 p2:Pos}{n1 n2:Nat}(d:zL2 i j)(hr:i ^ j.toNat=r)(q:Q (.int r)):EvD X O (.BinOp (.Constant (.int i) n1 p1) .Pow (.Constant (.int j) n2 p2) pos) Q:=
 zO3 (yq (yq ⟨i,j,rfl,rfl,d,hr▸q⟩))
def zP8 (h:EvD X O a λx=>∃i,x=.int i/\Q (.int (-i))):EvD X O (.UnaryOp .USub a pos) Q:=λF B H R m k=>by
 refine⟨_,zz0 bM zg,h F B H _ m λx j H1 g t1 d f=>?_⟩;obtain⟨i,rfl,q⟩:=g;cases f.int_inv;exact⟨i,rfl,k _ _ H1 q t1 d (.int _)⟩
def oZ {op:CmpOp}{g:Int->Int->Bool}(n:OpR X (compareOp op) (rI0 λi j=>.bl (g i j)))(hm:behindInMarks op b=false)
  (h:EvD X O a λx=>EvD X O b λy=>∃i j,x=.int i/\y=.int j/\Q (.bool (g i j))):EvD X O (.Compare a [op] [b] pos) Q:=by
 refine qx (oI n zg zg hm) (λ_ _ _=>Iff.rfl) (h.imp λx h=>h.imp λy d=>?_);obtain⟨i,j,e1,o,hq⟩:=d;subst e1 o;intro F B H s r R m f l k;cases f.int_inv;cases l.int_inv;exact⟨i,j,rfl,rfl,k _ _ H hq m.tp Kz.refl (.bl _)⟩
def zz5 (h:EvD X O a λx=>EvD X O b λy=>∃i j,x=.int i/\y=.int j/\Q (.bool (decide (i<j)))):EvD X O (.Compare a [.Lt] [b] pos) Q:=oZ iC (yi _) h
def zS5 (h:EvD X O a λx=>EvD X O b λy=>∃i j,x=.int i/\y=.int j/\Q (.bool (decide (i<=j)))):EvD X O (.Compare a [.LtE] [b] pos) Q:=oZ tT (yi _) h
def zX7 (h:EvD X O a λx=>EvD X O b λy=>∃i j,x=.int i/\y=.int j/\Q (.bool (decide (j<=i)))):EvD X O (.Compare a [.GtE] [b] pos) Q:=oZ aA (yi _) h
noncomputable def wj :Aa->Bool
 |.none=>true
 |_=>false
def AV.non_iff {H:Hp}{v:V}{d:Aa}(h:AV H v d):decide (v=.non)=wj d:=by cases h<;>simp[wj]
def zK1 {j:Nat}(h:EvD X O a λx=>Q (.bool (wj x))):EvD X O (.Compare a [.Is] [.Constant .none j p] pos) Q:=λF B H R m k=>by
 refine⟨_,oI bV zg aq (yi _),h F B H _ m λx i H1 g t1 d f=>⟨rfl,?_⟩⟩;rw[f.non_iff];exact k _ _ H1 g t1 d (.bl _)
theorem mJ {op d:CmpOp}{g s:Int->Int->Bool}(C:OpR X (compareOp op) (rI0 λi j=>.bl (g i j)))(f:OpR X (compareOp d) (rI0 λi j=>.bl (s i j)))(hm:lastMarks [op,d] [b,c]=false)
  (h:EvD X O a λx=>EvD X O b λy=>∃i j,x=.int i/\y=.int j/\(if g i j=true then EvD X O c λz=>∃k,z=.int k/\Q (.bool (s j k))else Q (.bool false))):EvD X O (.Compare a [op,d] [b,c] pos) Q:=λF B H R m k=>by
 refine⟨_,zj2 C f zg zg zg hm,h F B H _ m λx M H1 I t1 o v=>?_⟩;have m1:=m.kz o t1;refine I F B H1 _ m1 λy L r G t n w=>?_;obtain⟨i,j,e1,K,hq⟩:=G;subst e1 K;cases v.int_inv;cases w.int_inv;refine⟨i,j,rfl,rfl,_,rfl,?_⟩;cases hg:g i j with
 |true=>
  rw[hg]at hq;refine sC ?_;refine(by simpa using hq:EvD X O c _) F B r _ (m1.kz n t) λz N D A t3 u E=>?_;obtain⟨J,rfl,l⟩:=A;cases E.int_inv;exact⟨j,J,rfl,rfl,k _ _ D l t3 ((o.trans n).trans u) (.bl _)⟩
 |false=>
  rw[hg]at hq;exact sv (k _ _ r (by simpa using hq) t (o.trans n) (.bl _))
def ze4 {Q:Bool->Prop}(h:EvD X O e λx=>∃k,x=.bool k/\Q k)(he:∀whole,isTrue e X.env whole=(do let v <-whole;standAt e.pos;holding [v] (truthy v)):=by intro _;rfl):EvT X O e Q:=λF B H R m k=>by
 refine⟨_,zL7 zg he,h F B H _ m λx i H1 f t1 g d=>?_⟩;obtain⟨b,rfl,q⟩:=f;cases d.bl_inv;exact⟨b,rfl,k b H1 q t1 g⟩
def Cmp (r:R2)(x y:Aa)(k:Bool):Prop:=∀(p:Ad->Prop) (H:Hp) (d f:V) (R:VK),AV (sub p H) d x->AV (sub p H) f y->R (.bl k) H->r d f H R
def wC {op:CmpOp}{r:R2}{Q:Bool->Prop}(t:OpR X (compareOp op) r)(hm:behindInMarks op b=false)(h:EvD X O a λx=>EvD X O b λy=>∃k,Cmp r x y k/\Q k):EvT X O (.Compare a [op] [b] pos) Q:=λF B H R m k=>by
 refine⟨_,vB t zg zg hm,h F B H _ m λx o H1 n t1 g j=>?_⟩;have m1:=m.kz g t1;refine n F B H1 _ m1 λy i d l u f s=>?_;obtain⟨b,v,q⟩:=l;exact v _ d o i _ (j.same (f.gz m1.tp)) s ⟨b,rfl,k b d q u (g.trans f)⟩
def zt3 {g:Int->Int->Bool}{i j:Int}:Cmp (rI0 λi j=>.bl (g i j)) (.int i) (.int j) (g i j):=λp H k l R d f h=>by
 cases d.int_inv;cases f.int_inv;exact⟨i,j,rfl,rfl,h⟩
def nj {op:CmpOp}{g:Int->Int->Bool}{Q:Bool->Prop}(f:OpR X (compareOp op) (rI0 λi j=>.bl (g i j)))(hm:behindInMarks op b=false)
  (h:EvD X O a λx=>EvD X O b λy=>∃i j,x=.int i/\y=.int j/\Q (g i j)):EvT X O (.Compare a [op] [b] pos) Q:=
 wC f hm (h.imp λx h=>h.imp λy d=>by obtain⟨i,j,e1,k,q⟩:=d;exact⟨_,by subst e1 k;exact zt3,q⟩)
def zS7 {Q:Bool->Prop}(h:EvD X O a λx=>EvD X O b λy=>∃i j,x=.int i/\y=.int j/\Q (decide (i<j))):EvT X O (.Compare a [.Lt] [b] pos) Q:=nj iC (yi _) h
def zF3 {Q:Bool->Prop}(h:EvD X O a λx=>EvD X O b λy=>∃i j,x=.int i/\y=.int j/\Q (decide (j<i))):EvT X O (.Compare a [.Gt] [b] pos) Q:=nj gP (yi _) h
def zT9 {Q:Bool->Prop}(h:EvD X O a λx=>EvD X O b λy=>∃i j,x=.int i/\y=.int j/\Q (decide (j<=i))):EvT X O (.Compare a [.GtE] [b] pos) Q:=nj aA (yi _) h
def vX {j:Nat}{Q:Bool->Prop}(h:EvD X O a λx=>Q (wj x)):EvT X O (.Compare a [.Is] [.Constant .none j p] pos) Q:=
 wC bV (yi _) (h.imp λx h=>jg ⟨_,λp H g i R d f z=>⟨f.non_inv,by rw[d.non_iff];exact z⟩,h⟩)
def ny {j:Nat}{Q:Bool->Prop}(h:EvD X O a λx=>Q (!wj x)):EvT X O (.Compare a [.IsNot] [.Constant .none j p] pos) Q:=
 wC zw3 (yi _) (h.imp λx h=>jg ⟨_,λp H g i R d f z=>⟨f.non_inv,by rw[d.non_iff];exact z⟩,h⟩)
noncomputable def z44 :Aa->Option Bool
 |.none=>some false
 |.bool b=>some b
 |.int i=>some (i != 0)
 |.list ds=>some (!ds.isEmpty)
 |.tuple ds=>some (!ds.isEmpty)
 |_=>none
theorem AVs.isEmpty {H:Hp}{xs:List V}{ds:List Aa}(h:AVs H xs ds):xs.isEmpty=ds.isEmpty:=by cases h<;>rfl
theorem rg {Q:Bool->Prop}(h:EvD X O e λx=>∃k,z44 x=some k/\Q k)(he:∀whole,isTrue e X.env whole=(do let v <-whole;standAt e.pos;holding [v] (truthy v)):=by intro _;rfl):EvT X O e Q:=λF B H R m k=>by
 refine⟨_,bI zg he,h F B H _ m λx j H1 f t1 g d=>?_⟩;obtain⟨b,hb,q⟩:=f;refine⟨b,?_,k b H1 q t1 g⟩;cases d with
 |non=>cases hb;rfl
 |bl z=>cases hb;rfl
 |int i=>cases hb;rfl
 |str s=>cases hb
 |lst h1 h2=>cases hb;exact .inl ⟨_,SqL.of (zf h1).2,by rw[h2.isEmpty]⟩
 |tup h1 h2=>cases hb;exact .inr (.inl ⟨_,SqT.of (zf h1).2,by rw[h2.isEmpty]⟩)
 |ins _ _=>cases hb
 |dk _ _=>cases hb
 |dt _ _=>cases hb
 |xc _ _ _=>cases hb
 |xn _=>cases hb
def oP {Q:Bool->Prop}(h:EvT X O a λk=>Q (!k)):EvT X O (.UnaryOp .Not a pos) Q:=λF B H R m k=>by exact⟨_,zL1 xA,h F B H _ m λb H1 f t1 d=>k _ H1 f t1 d⟩
def EvW (X:Cx)(O:Ev)(e:Al)(Q:Bool->Prop):Prop:=∀(F:Fr) (B:St) (H:Hp) (R:Bool->Hp->Prop),M F O B H->(∀b H',Q b->zH F H'->Kz F H H'->R b H')->∃t,PW X e t/\t B H R
def z69 (X:Cx)(e:Al):TT:=λB H Q=>∃t,PW X e t/\t B H Q
def fe :PW X e (z69 X e):=λw pins s B H Q I d=>by obtain⟨t,p,q⟩:=d;exact p w pins s B H Q I q
theorem EvW.t {Q:Bool->Prop}(h:EvW X O e Q):EvT X O e Q:=λF B H R m k=>by
 obtain⟨t,p,q⟩:=h F B H R m k;exact⟨t,p.pt,q⟩
variable {rest:List Al}
def oK {Q:Bool->Prop}(h:EvT X O a Q):EvW X O (.BoolOp .And [a] pos) Q:=λF B H R m k=>⟨_,gI xA,h F B H R m k⟩
def zG7 {Q:Bool->Prop}(h:EvT X O a Q):EvW X O (.BoolOp .Or [a] pos) Q:=λF B H R m k=>⟨_,zG8 xA,h F B H R m k⟩
theorem zl5 {Q:Bool->Prop}(h:EvT X O a λk=>if k=true then EvW X O (.BoolOp .And (b::rest) pos) Q else Q false):EvW X O (.BoolOp .And (a::b::rest) pos) Q:=λF B H R m k=>by
 refine⟨_,zk8 xA fe,h F B H _ m λc H1 f t1 d=>?_⟩;cases c with
 |true=>exact sC ((by simpa using f:EvW X O _ Q) F B H1 R (m.kz d t1) λb g j l i=>k b g j l (d.trans i))
 |false=>exact sv (k _ H1 (by simpa using f) t1 d)
theorem zR6 {Q:Bool->Prop}(h:EvT X O a λk=>if k=true then Q true else EvW X O (.BoolOp .Or (b::rest) pos) Q):EvW X O (.BoolOp .Or (a::b::rest) pos) Q:=λF B H R m k=>by
 refine⟨_,zY4 xA fe,h F B H _ m λc H1 f t1 d=>?_⟩;cases c with
 |false=>exact sv ((by simpa using f:EvW X O _ Q) F B H1 R (m.kz d t1) λb g j l i=>k b g j l (d.trans i))
 |true=>exact sC (k _ H1 (by simpa using f) t1 d)
def za0 {op}(h:EvD X O a Q):EvD X O (.BoolOp op [a] pos) Q:=λF B H R m k=>⟨_,zO6 zg,h F B H R m k⟩
theorem zN7 (h:EvD X O a λx=>∃k,x=.bool k/\if k=true then EvD X O (.BoolOp .And (b::rest) pos) Q else Q (.bool false)):EvD X O (.BoolOp .And (a::b::rest) pos) Q:=λF B H R m k=>by
 refine⟨_,zK9 zg zg,h F B H _ m λx s H1 f t1 g l=>?_⟩;obtain⟨c,rfl,f⟩:=f;cases l.bl_inv;refine⟨c,rfl,?_⟩;cases c with
 |true=>exact sC (by simpa using f F B H1 R (m.kz g t1) λd v i n r j o=>k d v i n r (g.trans j) o)
 |false=>exact sv (k _ _ H1 (by simpa using f) t1 g (.bl _))
theorem zT5 (h:EvD X O a λx=>∃k,x=.bool k/\if k=true then Q (.bool true)else EvD X O (.BoolOp .Or (b::rest) pos) Q):EvD X O (.BoolOp .Or (a::b::rest) pos) Q:=λF B H R m k=>by
 refine⟨_,zV6 zg zg,h F B H _ m λx s H1 f t1 g l=>?_⟩;obtain⟨c,rfl,f⟩:=f;cases l.bl_inv;refine⟨c,rfl,?_⟩;cases c with
 |false=>exact sv (by simpa using f F B H1 R (m.kz g t1) λd v i n r j o=>k d v i n r (g.trans j) o)
 |true=>exact sC (k _ _ H1 (by simpa using f) t1 g (.bl _))
def zb6 (h:EvD X O a λx=>∃k,x=.bool k/\Q (.bool (!k))):EvD X O (.UnaryOp .Not a pos) Q:=λF B H R m k=>by
 refine⟨_,zO4 zg,h F B H _ m λx i H1 g t1 d f=>?_⟩;obtain⟨c,rfl,q⟩:=g;cases f.bl_inv;exact⟨c,rfl,k _ _ H1 q t1 d (.bl _)⟩
theorem jQ (h:EvT X O c λk=>if k=true then EvD X O a Q else EvD X O b Q):EvD X O (.IfExp c a b pos) Q:=λF B H R m k=>by
 refine⟨_,ze6 xA zg zg,h F B H _ m λx H1 o t1 f=>?_⟩;cases x with
 |true=>exact sC (by simpa using o F B H1 R (m.kz f t1) λd v g j n i l=>k d v g j n (f.trans i) l)
 |false=>exact sv (by simpa using o F B H1 R (m.kz f t1) λd v g j n i l=>k d v g j n (f.trans i) l)
def xR (o:oA b)(h:EvD X O a λx=>EvD X O b λy=>∃ds i d,x=.tuple ds/\y=.int i/\atI ds i=some d/\Q d):EvD X O (.Subscript a b pos) Q:=by
 refine qx (yI bU zg zg o) (λ_ _ _=>Iff.rfl) (h.imp λx h=>h.imp λy f=>?_);obtain⟨ds,i,d,e1,r,g,hq⟩:=f;subst e1 r;intro F B H t s R m j n k;obtain⟨a,xs,rfl,h1,h2⟩:=j.tup_inv;cases n.int_inv;obtain⟨v,l,av⟩:=h2.atI g;exact⟨a,xs,i,v,rfl,rfl,SqT.of (zf h1).2,l,k d v H hq m.tp Kz.refl av⟩
def EvO (X:Cx)(O:Ev)(e:Option Al)(Q:Option Int->Prop):Prop:=∀(F:Fr) (B:St) (H:Hp) (R:Option Int->Hp->Prop),M F O B H->(∀i H',Q i->zH F H'->Kz F H H'->R i H')->∃t,PO X e t/\t B H R
def z55 (X:Cx)(e:Option Al):TO:=λB H Q=>∃t,PO X e t/\t B H Q
def gN {e:Option Al}:PO X e (z55 X e):=λpins s B H Q I d=>by obtain⟨t,p,q⟩:=d;exact p pins s B H Q I q
def zr6 {Q:Option Int->Prop}(q:Q none):EvO X O none Q:=λF B H R m k=>⟨_,oW,k _ H q m.tp Kz.refl⟩
def zx7 {Q:Option Int->Prop}(h:EvD X O a λx=>∃i,x=.int i/\Q (some i)):EvO X O (some a) Q:=λF B H R m k=>by
 refine⟨_,oS zg,h F B H _ m λx j H1 f t1 g d=>?_⟩;obtain⟨i,rfl,q⟩:=f;cases d.int_inv;exact⟨i,rfl,k _ H1 q t1 g⟩
def M.lay {F:Fr}{B:St}{H:Hp}{l:Ad}{xs:List V}{ds:List Aa}(m:M F O B H)(d:H l=none)(h:AVs (Gz F O B H) xs ds):zH F (upd H l (.lst xs))/\Kz F H (upd H l (.lst xs))/\yY F O B H (.ref l) (upd H l (.lst xs)) ds:=by
 refine⟨m.tp.same (yg d),Kz.of_same (yg d),l,xs,rfl,d,zi,h.same (zu λa o ha e=>?_)⟩;have:=zk e d;exact⟨⟨ha,this⟩,by rw[zc this];exact e⟩
theorem zy6 {lo hi:Option Al}{Q:List Aa->Prop}(h:EvD X O a λx=>EvO X O lo λl=>EvO X O hi λu=>∃ds,x=.list ds/\Q (cutD ds l u)):EvL X O (.Subscript a (.Slice lo hi none p) pos) Q:=λF B H R m k=>by
 refine⟨_,qm oi zg gN gN,h F B H _ m λx G H1 C t1 r t=>?_⟩;have m1:=m.kz r t1;refine C F B H1 _ m1 λl s A E g=>?_;have m2:=m1.kz g E;refine A F B s _ m2 λu I w t3 d=>?_;have m3:=m2.kz d t3;obtain⟨ds,rfl,q⟩:=w;obtain⟨a,xs,rfl,h1,h2⟩:=(t.same ((g.gz m1.tp).trans (d.gz m2.tp))).lst_inv;refine⟨a,xs,rfl,SqL.of (zf h1).2,λp v=>?_⟩;obtain⟨g1,g2,g3⟩:=m3.lay v (h2.cut l u);have n:=(r.trans g).trans d;obtain⟨f,i,e1,j,D,y⟩:=g3;refine k _ _ _ q g1 (n.trans g2) ⟨f,i,e1,?_,D,y⟩;cases z:H f with
 |none=>rfl
 |some o=>rw[n f o z (m.tp.nt (ow0 (m3.fresh j)))]at j;cases j
theorem yY.back {F:Fr}{B:St}{H H1 H':Hp}{v:V}{ds:List Aa}(m:M F O B H)(k:Kz F H H1)(t1:zH F H1)(h:yY F O B H1 v H' ds):yY F O B H v H' ds:=by
 obtain⟨f,d,e1,g,i,j⟩:=h;refine⟨f,d,e1,?_,i,j⟩;cases z:H f with
 |none=>rfl
 |some o=>rw[k f o z (m.tp.nt (ow0 ((m.kz k t1).fresh g)))]at g;cases g
def zz {Q:List A->Prop}(q:Q []):EvA X O [] Q:=λF B H R m k=>⟨_,zJ,k _ _ H q m.tp Kz.refl .nil⟩
def zq {Q:List A->Prop}(h:EvD X O e λd=>EvA X O es λas=>Q (.dat d::as))(o:Af (e::es) X.env=(false,eval e X.env)::Af es X.env:=by rfl):EvA X O (e::es) Q:=λF B H R m k=>by
 refine⟨_,zv zg yK o,h F B H _ m λd v H1 n t1 g j=>?_⟩;have m1:=m.kz g t1;exact n F B H1 _ m1 λas vs i l s f r=>k _ _ i l s (g.trans f) (.cons (j.same (f.gz m1.tp)) r)
def uG {Q:List A->Prop}(i:Nat){x:Str}(hi:O[i]?=some (some .tape))(h:EvA X O es λas=>Q (.tape::as))(n:X.N[i]?=some x:=by rfl)(g:Vis X.env.scope x:=by first|exact Or.inl rfl|exact Or.inr (Or.inl rfl)|exact Or.inr (Or.inr rfl))
  (hd:(x == ("__debug__":Str))=false:=by decide) (d:(x == ("__classdict__":Str))=false:=by decide) (o:Af (.Name x pos::es) X.env=(false,eval (.Name x pos) X.env)::Af es X.env:=by rfl):EvA X O (.Name x pos::es) Q:=λF B H R m k=>by
 obtain⟨t,b,c,h1,h2⟩:=m.tvar i hi;exact⟨_,zv (xi n g hd d) yK o,.ref t,h2,h F B H _ m λas vs f l s j r=>k _ _ f l s j (.cons ⟨t,b,c,h1,rfl⟩ r)⟩
noncomputable def datas :List A->Option (List Aa)
 |[]=>some []
 |.dat d::r=>(datas r).map (d::·)
 |_::_=>none
theorem yo.datas {F:Fr}{G:Hp}{vs:List V}{as:List A}{ds:List Aa}(h:yo F G vs as)(e:L2.datas as=some ds):AVs G vs ds:=by
 induction h generalizing ds with
 |nil=>cases e;exact .nil
 |@cons _ _ a as h _ ih=>
  cases a with
  |dat d=>
   obtain⟨es,e1,rfl⟩:=z98.mp e;exact .cons h (ih e1)
  |tape=>cases e
  |_=>exact h.elim
def kP {n:Nat}(h:EvA X O es λas=>∃ds,datas as=some ds/\ds.length<=1000/\Q (.tuple ds)):EvD X O (.Tuple es n pos) Q:=λF B H R m k=>by
 refine⟨_,kM yK,h F B H _ m λas vs H1 j t1 f i=>?_⟩;obtain⟨ds,e,g,q⟩:=j;have r:=i.datas e;refine⟨by rw[r.length];exact yd3 (yp g),λp d=>?_⟩;refine k _ _ _ q (t1.same (yg d)) (f.trans (Kz.of_same (yg d))) (.tup (zB ((m.kz f t1).fresh d) zi) (r.same (zu λa o ha e=>⟨ha,by rw[zc (zk e d)];exact e⟩)))
def wu {Q:List Aa->Prop}(h:EvA X O es λas=>∃ds,datas as=some ds/\ds.length<=1000/\Q ds):EvL X O (.List es pos) Q:=λF B H R m k=>by
 refine⟨_,aO yK,h F B H _ m λas vs H1 i t1 d g=>?_⟩;obtain⟨ds,e,f,q⟩:=i;have r:=g.datas e;refine⟨by rw[r.length];exact yd3 (yp f),λp j=>?_⟩;obtain⟨g1,g2,g3⟩:=(m.kz d t1).lay j r;exact k _ _ _ q g1 (d.trans g2) (g3.back m d t1)
def wH {Q:List Aa->Prop}(h:EvD X O a λx=>EvD X O b λy=>∃ds es,x=.list ds/\y=.list es/\ds.length+es.length<=1000/\Q (ds++es)):EvL X O (.BinOp a .Add b pos) Q:=λF B H R m k=>by
 refine⟨_,yv zH4 zg zg,h F B H _ m λx v H1 s t1 f l=>?_⟩;have m1:=m.kz f t1;refine s F B H1 _ m1 λy u t r i d o=>?_;obtain⟨ds,es,rfl,rfl,j,q⟩:=r;obtain⟨a,xs,rfl,h1,h2⟩:=(l.same (d.gz m1.tp)).lst_inv;obtain⟨b,ys,rfl,h3,g⟩:=o.lst_inv;refine⟨a,b,xs,ys,rfl,rfl,(zf h1).2,(zf h3).2,by rw[h2.length,g.length];exact yd3 (yp j),λp n=>?_⟩;obtain⟨g1,g2,g3⟩:=(m1.kz d i).lay n (h2.append g);exact k _ _ _ q g1 ((f.trans d).trans g2) (g3.back m (f.trans d) i)
def xK {id:String}{x:Str}{r:List V->Hp->VK->Prop}(u:yP X (.builtin id) r)(hg:Gl X x)(hm:X.mg x=none)(i:bootBuiltins x=some (.builtin id))
  (h:EvA X O (e::es) λas=>∀(F:Fr) (B:St) (H:Hp) (vs:List V) (R:VK),M F O B H->yo F (Gz F O B H) vs as->(∀d v H',Q d->zH F H'->Kz F H H'->AV (Gz F O B H') v d->R v H')->r vs H R)
  (hn:x≠"__name__":=by decide) (f:(x == ("__debug__":Str))=false:=by decide) (he:Af (e::es) X.env=(false,eval e X.env)::Af es X.env:=by rfl) (hpl:(backTo pos (Af es X.env)).any (·.1)=false:=by rfl):
  EvD X O (.Call (.Name x p) (e::es) [] pos) Q:=λF B H R m k=>by
 refine⟨_,yT u hg hm i yK hn f he hpl,h F B H _ m λas vs H1 o t1 g n=>?_⟩;exact o F B H1 vs R (m.kz g t1) n λd v H' l t j s=>k d v H' l t (g.trans j) s
end
section
variable {X:Cx}{O:Ev}{e a b c:Al}{es:List Al}{pos p q:Pos}{Q:Aa->Prop}
def yo.one {F:Fr}{G:Hp}{vs:List V}{d:Aa}(h:yo F G vs [.dat d]):∃v,vs=[v]/\AV G v d:=by
 cases h with|cons h r=>cases r;exact⟨_,rfl,h⟩
def yo.two {F:Fr}{G:Hp}{vs:List V}{d e:Aa}(h:yo F G vs [.dat d,.dat e]):∃v u,vs=[v,u]/\AV G v d/\AV G u e:=by
 cases h with|cons h r=>obtain⟨u,rfl,h2⟩:=r.one;exact⟨_,u,rfl,h,h2⟩
noncomputable def z45 :Aa->Option Int
 |.list ds=>some ds.length
 |.tuple ds=>some ds.length
 |_=>none
theorem qH (hg:Gl X "len")(hm:X.mg "len"=none)(h:EvD X O e λx=>∃n,z45 x=some n/\Q (.int n))(he:Af [e] X.env=(false,eval e X.env)::Af [] X.env:=by rfl):
  EvD X O (.Call (.Name "len" p) [e] [] pos) Q:=by
 refine xK yR hg hm yr1 (zq (h.imp λx d=>?_) he) (he:=he);obtain⟨n,e1,q⟩:=d;refine zz ?_;intro F B H vs R m f k;obtain⟨v,rfl,av⟩:=f.one;cases av with
 |lst h1 h2=>cases e1;rw[<-h2.length]at q;exact⟨_,_,rfl,.inl (SqL.of (zf h1).2),k _ _ H q m.tp Kz.refl (.int _)⟩
 |tup h1 h2=>cases e1;rw[<-h2.length]at q;exact⟨_,_,rfl,.inr (SqT.of (zf h1).2),k _ _ H q m.tp Kz.refl (.int _)⟩
 |_=>cases e1
def zP6 (o:X.calm=true)(hg:Gl X "max")(hm:X.mg "max"=none)(h:EvD X O a λx=>EvD X O b λy=>∃i j,x=.int i/\y=.int j/\Q (.int (if j > i then j else i)))
  (he:Af [a,b] X.env=(false,eval a X.env)::Af [b] X.env:=by rfl) (d:Af [b] X.env=(false,eval b X.env)::Af [] X.env:=by rfl) (hpl:(backTo pos (Af [b] X.env)).any (·.1)=false:=by rfl):
  EvD X O (.Call (.Name "max" p) [a,b] [] pos) Q:=by
 refine xK (fX o) hg hm boot_max (zq (h.imp λx h=>zq (h.imp λy f=>?_) d) he) (he:=he) (hpl:=hpl);obtain⟨i,j,e1,l,q⟩:=f;refine zz ?_;intro F B H vs R m n k;subst e1 l;obtain⟨v,u,rfl,av,g⟩:=n.two;cases av.int_inv;cases g.int_inv;exact⟨i,j,rfl,k _ _ H q m.tp Kz.refl (.int _)⟩
def rA {T:String}{x:Str}{p1:Pos}(hg:Gl X "isinstance")(hm:X.mg "isinstance"=none)(i:Gl X x)(g:X.mg x=none)(r:bootBuiltins x=some (.type T))
  (h:EvD X O a λx=>∃k,x.hasDict=false/\zs5 T x=some k/\Q (.bool k)) (d:x≠"__name__":=by decide) (hdx:(x == ("__debug__":Str))=false:=by decide)
  (he:Af [a,.Name x p1] X.env=(false,eval a X.env)::Af [.Name x p1] X.env:=by rfl) (f:Af [.Name x p1] X.env=(false,eval (.Name x p1) X.env)::Af [] X.env:=by rfl) (hpl:(backTo pos (Af [.Name x p1] X.env)).any (·.1)=false:=by rfl):
  EvD X O (.Call (.Name "isinstance" p) [a,.Name x p1] [] pos) Q:=λF B H R m k=>by
 refine⟨_,yT fF hg hm boot_isinstance (zv zg (zv (zt6 i g r (show RelV (.ty T) (.type T)from rfl) d hdx) zJ f) he) (he:=he),h F B H _ m λx o H1 l t1 n j=>?_⟩;obtain⟨b,hd,e,q⟩:=l;exact⟨o,T,x,b,rfl,(j.dv hd).same xY,e,k _ _ H1 q t1 n (.bl b)⟩
noncomputable def vj :Aa->Option (List Aa)
 |.list ds=>some ds
 |.tuple ds=>some ds
 |_=>none
theorem AVs.bools {H:Hp}{xs:List V}{bs:List Bool}(h:AVs H xs (bs.map .bool)):xs=bs.map V.bl:=by
 induction bs generalizing xs with
 |nil=>cases h;rfl
 |cons n ns d=>cases h with
  |cons h f=>rw[ya6,d f,h.bl_inv]
def ng (g:X.calm=true)(hg:Gl X "all")(hm:X.mg "all"=none)(h:EvD X O e λx=>∃bs:List Bool,x=.list (bs.map .bool)/\Q (.bool (bs.all id)))(he:Af [e] X.env=(false,eval e X.env)::Af [] X.env:=by rfl):
  EvD X O (.Call (.Name "all" p) [e] [] pos) Q:=by
 refine xK (cH g) hg hm boot_all (zq (h.imp λx d=>?_) he) (he:=he);obtain⟨bs,e1,q⟩:=d;refine zz ?_;intro F B H vs R m f k;subst e1;obtain⟨v,rfl,av⟩:=f.one;obtain⟨a,xs,rfl,h1,h2⟩:=av.lst_inv;exact⟨a,bs,rfl,by rw[(zf h1).2,h2.bools],k _ _ H q m.tp Kz.refl (.bl _)⟩
def zc0 (g:X.calm=true)(hg:Gl X "any")(hm:X.mg "any"=none)(h:EvD X O e λx=>∃bs:List Bool,x=.list (bs.map .bool)/\Q (.bool (bs.any id)))(he:Af [e] X.env=(false,eval e X.env)::Af [] X.env:=by rfl):
  EvD X O (.Call (.Name "any" p) [e] [] pos) Q:=by
 refine xK (eE g) hg hm boot_any (zq (h.imp λx d=>?_) he) (he:=he);obtain⟨bs,e1,q⟩:=d;refine zz ?_;intro F B H vs R m f k;subst e1;obtain⟨v,rfl,av⟩:=f.one;obtain⟨a,xs,rfl,h1,h2⟩:=av.lst_inv;exact⟨a,bs,rfl,by rw[(zf h1).2,h2.bools],k _ _ H q m.tp Kz.refl (.bl _)⟩
section
variable {k:Nat}{f:Ad}{fd:Ap}{ps:List Str}{φ:List A->(A->Prop)->Prop}{x:Str}
def wF {F:Fr}{B:St}{H:Hp}{vs:List V}{as:List A}{g:A->Prop}{R:VK}(m:M F O B H)(i:yo F (Gz F O B H) vs as)(d:φ as g)
  (h:∀a v H',g a->tV ⟨H,Ow F O B,F.tp⟩ v H' a->R v H') {E:XK}:spA φ (vs++[]) H R E:=by
 refine⟨⟨H,Ow F O B,F.tp⟩,as,g,rfl,?_,?_,?_,d,h⟩
 .exact m.tp.to rfl λ_ z=>.inl z
 .exact λy z=>m.owEx z
 .rw[ye3];exact yo.to (F:=F) (F':=⟨H,Ow F O B,F.tp⟩) (λ_ _ e=>e) rfl i
theorem tV.back {F:Fr}{B:St}{H H':Hp}{v:V}{a:A}(m:M F O B H)(h:tV ⟨H,Ow F O B,F.tp⟩ v H' a):zH F H'/\Kz F H H'/\AV (Gz F O B H') v a.d:=by
 obtain⟨t,kz,r⟩:=h;refine⟨m.tp.re t rfl,kz,?_⟩;cases a with
 |dat d=>exact r
 |ow c=>
  obtain⟨l,xs,ds,rfl,rfl,h1,h2,h3,j⟩:=r;exact .lst (zB h2 h3) (j.same (zu λa o h e=>⟨h.1,e⟩))
 |deep d S=>
  obtain⟨h1,h2⟩:=r;refine h1.same λx o e=>?_;rcases za6 e with⟨n,g⟩|⟨_,g⟩
  .exact zB (h2 x n).1 g
  .exact g
 |tape=>exact r.elim
 |«at» _=>exact r.elim
 |exc _ _=>exact r.elim
 |pin _ _ _=>exact r.elim
 |nst l ls dss=>
  obtain⟨rfl,h2,h3,j,i⟩:=r;exact .lst (zB (i l z89).1 h2) (h3.avs (zu λa o h e=>⟨h.1,e⟩) λa ha=>(i a (z87 _ ha)).1)
def zo2 (G:yM X.prog X.w X.K X.mg X.base CX0 k f fd ps (spA φ))(hr:zM k X.A)(hg:Gl X x)(hm:X.mg x=some (.ref f))(hk:PySem.W.keepIn X.K (.ref f)=true)(hb:Binds X.K fd ps [])
  (h:EvA X O (e::es) λas=>φ as λa=>Q a.d) (g:(x == ("__debug__":Str))=false:=by decide) (he:Af (e::es) X.env=(false,eval e X.env)::Af es X.env:=by rfl) (hpl:(backTo pos (Af es X.env)).any (·.1)=false:=by rfl):
  EvD X O (.Call (.Name x p) (e::es) [] pos) Q:=λF B H R m n=>by
 refine⟨_,oU G hr hg hm hk hb .nil qR yK g he hpl,h F B H _ m λas vs H1 o t1 i l=>?_⟩;have m1:=m.kz i t1;refine wF m1 l o λa v H' r j=>?_;obtain⟨g1,g2,g3⟩:=j.back m1;exact n _ v H' r g1 (i.trans g2) g3
def zu6 {Q:List Aa->Prop}(G:yM X.prog X.w X.K X.mg X.base CX0 k f fd ps (spA φ))(hr:zM k X.A)(hg:Gl X x)(hm:X.mg x=some (.ref f))(hk:PySem.W.keepIn X.K (.ref f)=true)(hb:Binds X.K fd ps [])
  (h:EvA X O (e::es) λas=>φ as λa=>∃ds,a=.own ds/\Q ds) (d:(x == ("__debug__":Str))=false:=by decide) (he:Af (e::es) X.env=(false,eval e X.env)::Af es X.env:=by rfl) (hpl:(backTo pos (Af es X.env)).any (·.1)=false:=by rfl):
  EvL X O (.Call (.Name x p) (e::es) [] pos) Q:=λF B H R m s=>by
 refine⟨_,oU G hr hg hm hk hb .nil qR yK d he hpl,h F B H _ m λas vs H1 t t1 g j=>?_⟩;have m1:=m.kz g t1;refine wF m1 j t λa v H' u i=>?_;obtain⟨ds,rfl,q⟩:=u;obtain⟨g1,g2,_⟩:=i.back m1;obtain⟨_,_,l,xs,r,rfl,o,h1,h2,h3,n⟩:=i;cases o;exact s ds _ H' q g1 (g.trans g2) (yY.back m g t1 ⟨l,xs,rfl,h1,h3,n⟩)
end
def rB {i j:Nat}{x:Option A}(h:i≠j):(O.set i x)[j]?=O[j]?:=yf1 h
def zK {i:Nat}{x:Option A}{j:Nat}{y:Option A}(h:(O.set i x)[j]?=some y):(i=j/\x=y)\/(i≠j/\O[j]?=some y):=by
 by_cases d:i=j
 .subst d;left;have f:i<O.length:=by
   have:=(z81.mp h).1
   rwa [yh0]at this
  rw[ym2 f]at h;exact⟨rfl,yb5 h⟩
 .right;rw[yf1 d]at h;exact⟨d,h⟩
def M.put {F:Fr}{B:St}{H:Hp}{i:Nat}{b:Option A}(m:M F O B H)(hf:∀s c x,B[i]?=some s->b=some c->foot s c x->∃a,O[i]?=some (some a)/\foot s a x)
  (hok:∀s c,i<O.length->B[i]?=some s->b=some c->uo (Gz F (O.set i b) B H) F H s c) (C:∀c,b=some c->noX c:=by intro c z;cases z;trivial):zt (Gz F O B H) (Gz F (O.set i b) B H)/\M F (O.set i b) B H:=by
 have v:zt (Gz F O B H) (Gz F (O.set i b) B H):=zu λa o h e=>⟨λz=>h (by
  rcases z with z|⟨j,c,s,e1,n,f⟩
  .exact .inl z
  .rcases zK e1 with⟨rfl,z⟩|⟨w,g⟩
   .obtain⟨u,h1,h2⟩:=hf s c a n z f;exact .inr ⟨i,u,s,h1,n,h2⟩
   .exact .inr ⟨j,c,s,g,n,f⟩),e⟩
 have old:∀{j:Nat} {c:A} {s:Option V} {x:Ad},(O.set i b)[j]?=some (some c)->B[j]?=some s->foot s c x->∃a,O[j]?=some (some a)/\foot s a x:=λ{j c s x} e1 n f=>by
  rcases zK e1 with⟨rfl,z⟩|⟨w,g⟩
  .exact hf s c x n z f
  .exact⟨c,g,f⟩
 refine⟨v,by rw[yh0];exact m.len,λj c s e1 n=>?_,λj k c d s t x e1 n h1 h2 f1 f2=>?_,λj r q e D c s x e1 n f=>?_,m.tp,m.keep,m.oex⟩
 .rcases zK e1 with⟨rfl,z⟩|⟨w,g⟩
  .refine hok s c ?_ n z;have:=(z81.mp e1).1
   rwa [yh0]at this
  .exact(m.ok j c s g n).stay v (λx o f e=>⟨e,(m.ft g n f).1,(m.ft g n f).2.1⟩) rfl λ_ _ _ l=>l
 .obtain⟨u,g1,g2⟩:=old e1 h1 f1;obtain⟨E,g3,y⟩:=old n h2 f2;exact m.dj j k u E s t x g1 g3 h1 h2 g2 y
 .obtain⟨u,g1,g2⟩:=old e1 n f;rcases zK e with⟨rfl,z⟩|⟨_,G⟩
  .exact(C _ z).elim
  .exact m.xd j r q G D u s x g1 n g2
def M.gave {F:Fr}{B:St}{H:Hp}{i:Nat}{a:A}{s:Option V}{b:Option A}{x:Ad}(m:M F O B H)(e1:O[i]?=some (some a))(d:B[i]?=some s)(f:foot s a x)(hb:∀c,b=some c->¬foot s c x):¬Ow F (O.set i b) B x:=by
 rintro(z|⟨j,c,t,h1,h2,g⟩)
 .exact(m.ft e1 d f).1 z
 .rcases zK h1 with⟨rfl,z⟩|⟨k,h⟩
  .rw[d]at h2;cases h2;exact hb c z g
  .exact k (m.dj i j a c s t x e1 h d h2 f g)
def aH {F:Fr}{B:St}{H:Hp}{i:Nat}{b:A}(hb:∀s x,¬foot s b x):zt (Gz F O B H) (Gz F (O.set i (some b)) B H):=zu λa o h e=>⟨λz=>h (by
 rcases z with z|⟨j,c,s,e1,g,f⟩
 .exact .inl z
 .rcases zK e1 with⟨rfl,z⟩|⟨k,d⟩
  .cases z;exact(hb _ _ f).elim
  .exact .inr ⟨j,c,s,d,g,f⟩),e⟩
def M.frz {F:Fr}{B:St}{H:Hp}{i:Nat}{ds:List Aa}(m:M F O B H)(hi:O[i]?=some (some (.own ds))):M F (O.set i (some (.dat (.list ds)))) B H:=
 (m.put (λs c' x _ z f=>by cases z;exact f.elim) λs c' _ d z=>by
  cases z;obtain⟨l,o,h1,h2,h3,h,g⟩:=m.owc i _ hi;rw[h1]at d;cases d;exact⟨.ref l,rfl,(h3.same (aH (b:=.dat (.list ds)) λ_ _ f=>f)).av (zB (m.gave hi h1 rfl λc z=>by cases z;exact id) h2)⟩).2
def zJ2 {F:Fr}{B:St}{H H':Hp}{i:Nat}{a:A}{b:Option A}(m:M F O B H)(k:Kz F H H')(hi:O[i]?=some (some a))(x:Ad)(o:HO)(n:¬Ob o)(h:Gz F (O.set i b) B H' x=some o):Gz F O B H' x=some o:=by
 obtain⟨h1,h2⟩:=zf h;refine zB ?_ h2;rintro(z|⟨j,c,s,e1,g,f⟩)
 .exact h1 (.inl z)
 .by_cases d:i=j
  .subst d;obtain⟨g1,g2,o',g3,l⟩:=m.ft e1 g f;rw[k _ _ g3 (m.tp.nt g1)]at h2;cases h2;exact n l
  .exact h1 (.inr ⟨j,c,s,by rw[rB d];exact e1,g,f⟩)
def jO {Q:List Aa->Prop}{i:Nat}{a:A}{b:Option A}(hi:O[i]?=some (some a))(hm:∀F B H,M F O B H->M F (O.set i b) B H)(h:EvL X (O.set i b) e λd=>wW d=true/\Q d):EvL X O e Q:=λF B H R m k=>
 h F B H R (hm F B H m) λd v H' q t kz r=>by
  obtain⟨l,xs,h1,h2,h3,o⟩:=r;refine k d v H' q.2 t kz ⟨l,xs,h1,h2,h3,o.noL (λa ys hno z=>?_) q.1⟩;obtain⟨f,g⟩:=zf z;obtain⟨j,n⟩:=zf (zJ2 m kz hi a ys hno (zB f.1 g));exact zB ⟨j,f.2⟩ n
def oy {Q:Bool->Prop}(i:Nat){ds:List Aa}(hi:O[i]?=some (some (.own ds)))(h:EvT X (O.set i (some (.dat (.list ds)))) e Q):EvT X O e Q:=λF B H R m k=>h F B H R (m.frz hi) k
def iT {Q:List Aa->Prop}(i:Nat){ds:List Aa}(hi:O[i]?=some (some (.own ds)))(h:EvL X (O.set i (some (.dat (.list ds)))) e λd=>wW d=true/\Q d):EvL X O e Q:=jO hi (λ_ _ _ m=>m.frz hi) h
def ItW (p:Ad->Prop)(J:It)(ds:List Aa)(G:Hp):Prop:=∀(i:Nat) (f:Hp) (q:Ad->Prop),zt G (sub q f)->
 (∀d,ds[i]?=some d->J.go i f/\∀x g,J.yld i f x g->zt f g/\((∀a o,g a=some o->f a=none->q a)->AV (sub q g) x d))/\(ds.length<=i->J.stop i f)
def zQ2 (X:Cx)(tg e:Al):TI:=λB H R=>∃t,PI X tg e t/\t B H R
def om {tg e:Al}:PI X tg e (zQ2 X tg e):=λpins s B H R I d=>by obtain⟨t,p,q⟩:=d;exact p pins s B H R I q
def EvI (X:Cx)(O:Ev)(tg e:Al)(Q:List Aa->Prop):Prop:=∀(F:Fr) (B:St) (H:Hp) (R:It->Hp->Prop),M F O B H->
 (∀ds J H',Q ds->zH F H'->Kz F H H'->ItW (λx=>¬Ow F O B x) J ds (Gz F O B H')->R J H')->zQ2 X tg e B H R
def zV {tg:Al}{Q:List Aa->Prop}(h:EvD X O e λx=>∃ds,x=.list ds/\Q ds):EvI X O tg e Q:=λF B H R m k=>by
 refine⟨_,iL zg,h F B H _ m λx r H1 l t1 n j=>?_⟩;obtain⟨ds,rfl,q⟩:=l;obtain⟨a,xs,rfl,h1,h2⟩:=j.lst_inv;refine⟨a,rfl,⟨xs,SqL.of (zf h1).2⟩,k ds _ H1 q t1 n λi o p s=>⟨λd hd=>?_,λg=>?_⟩⟩
 .obtain⟨x,f,av⟩:=h2.get hd;have ha:=SqL.of (K:=X.K) (zf (s _ _ h1)).2;refine⟨⟨xs,x,ha,f⟩,λu t y=>?_⟩;obtain⟨e,y⟩:=y;subst e;have:=y xs ha;rw[f]at this;cases this;exact⟨zt.refl _,λ_=>av.same s⟩
 .exact⟨xs,SqL.of (zf (s _ _ h1)).2,by rw[h2.length];exact g⟩
def qU {p:Ad->Prop}{lo:Int}{n:Nat}{G:Hp}:ItW p (Itr lo n) ((zp lo n).map .int) G:=λi g q s=>⟨λd hd=>by
  rw[z88,z98]at hd;obtain⟨z,h1,rfl⟩:=hd;have hi:i<n:=by
   have:=(z81.mp h1).1
   rwa [zb]at this
  rw[zG hi]at h1;cases h1;refine⟨hi,λx h y=>?_⟩;obtain⟨rfl,rfl⟩:=y;exact⟨zt.refl _,λ_=>.int _⟩,λf=>by
  rw[z77,zb]at f;exact f⟩
def vJ {tg:Al}{Q:List Aa->Prop}(hg:Gl X "range")(hm:X.mg "range"=none)(h:EvD X O a λx=>∃j,x=.int j/\-(2 ^ 62)<=j/\j<2 ^ 62/\Q ((zp 0 j.toNat).map .int))(d:Af [a] X.env=[(false,eval a X.env)]:=by rfl):
  EvI X O tg (.Call (.Name "range" p) [a] [] pos) Q:=λF B H R m k=>by
 refine⟨_,fj hg hm (zv zg zJ d) d,h F B H _ m λx o H1 g t1 i f=>?_⟩;obtain⟨j,rfl,l,n,q⟩:=g;cases f.int_inv;exact⟨j,rfl,l,n,k _ _ H1 q t1 i qU⟩
def xH {tg:Al}{Q:List Aa->Prop}(hg:Gl X "range")(hm:X.mg "range"=none)(h:EvD X O a λx=>EvD X O b λy=>∃i j,x=.int i/\y=.int j/\(-(2 ^ 62)<=i/\i<2 ^ 62/\-(2 ^ 62)<=j/\j<2 ^ 62)/\Q ((zp i (j-i).toNat).map .int))
  (u:Af [a,b] X.env=[(false,eval a X.env),(false,eval b X.env)]:=by rfl) (d:Af [b] X.env=[(false,eval b X.env)]:=by rfl) (f:Af [a,b] X.env=(false,eval a X.env)::Af [b] X.env:=by rfl):
  EvI X O tg (.Call (.Name "range" p) [a,b] [] pos) Q:=λF B H R m k=>by
 refine⟨_,fA hg hm (zv zg (zv zg zJ d) f) u d,h F B H _ m λx A H1 t t1 g r=>?_⟩;refine t F B H1 _ (m.kz g t1) λy z l s w o v=>?_;obtain⟨i,j,rfl,rfl,n,q⟩:=s;cases r.int_inv;cases v.int_inv;exact⟨i,j,rfl,n,k _ _ l q w (g.trans o) qU⟩
end
inductive Pat where
 |one (i:Nat)
 |many (is:List Nat)
 |nest (i:Nat) (is:List Nat)
noncomputable def xS :List Nat->List Aa->Ev->Option Ev
 |[],[],O=>some O
 |i::is,d::ds,O=>xS is ds (O.set i (some (.dat d)))
 |_,_,_=>none
noncomputable def Pat.bind :Pat->Aa->Ev->Option Ev
 |.one i,d,O=>some (O.set i (some (.dat d)))
 |.many is,.tuple ds,O=>xS is ds O
 |.nest i is,.tuple [d,.tuple ds],O=>xS is ds (O.set i (some (.dat d)))
 |_,_,_=>none
def gIs :List Nat->TGs
 |[]=>zH2
 |i::is=>gO (qT i) (gIs is)
def oo (K:Ae):Pat->TG
 |.one i=>qT i
 |.many is=>aE K is.length (gIs is)
 |.nest i is=>aE K 2 (gO (qT i) (gO (aE K is.length (gIs is)) zH2))
noncomputable def Pat.slots :Pat->List Nat
 |.one i=>[i]
 |.many is=>is
 |.nest i is=>i::is
noncomputable def isFree (O:Ev)(i:Nat):Bool:=match O[i]? with
 |some none=>true
 |_=>false
noncomputable def Pat.free (p:Pat)(O:Ev):Bool:=p.slots.all (isFree O)
section
variable {X:Cx}{O α':Ev}{F:Fr}{B:St}{H:Hp}
def M.store {i:Nat}{v:V}{b:A}{H':Hp}(m:M F O B H)(t:zH F H')(k:Kz F H H')(hn:∀x,foot (some v) b x->H x=none)(hok:uo (sub (λx=>¬Ow F O B x/\¬foot (some v) b x) H') F H' (some v) b)(P:noX b:=by trivial):M F (O.set i (some b)) (B.set i (some v)) H':=by
 have E:∀{j:Nat} {c:A} {s:Option V},(O.set i (some b))[j]?=some (some c)->(B.set i (some v))[j]?=some s->(i=j/\c=b/\s=some v)\/(i≠j/\O[j]?=some (some c)/\B[j]?=some s):=λ{j c s} e1 n=>by
  rcases zK e1 with⟨rfl,z⟩|⟨J,I⟩
  .cases z;have L:i<B.length:=by
    have:=(z81.mp n).1
    rwa [yh0]at this
   rw[ym2 L]at n;cases n;exact .inl ⟨rfl,rfl,rfl⟩
  .rw[yf1 J]at n;exact .inr ⟨J,I,n⟩
 have ow:∀{y:Ad},Ow F (O.set i (some b)) (B.set i (some v)) y->Ow F O B y\/foot (some v) b y:=λ{y} h=>by
  rcases h with z|⟨j,c,s,e1,n,f⟩
  .exact .inl (.inl z)
  .rcases E e1 n with⟨_,rfl,rfl⟩|⟨_,g1,g2⟩
   .exact .inr f
   .exact .inl (.inr ⟨j,c,s,g1,g2,f⟩)
 have g1:zt (sub (λx=>¬Ow F O B x/\¬foot (some v) b x) H') (Gz F (O.set i (some b)) (B.set i (some v)) H'):=zu λa o h e=>⟨λz=>(ow z).elim h.1 h.2,e⟩;have N:zt (Gz F O B H) (sub (λx=>¬Ow F O B x/\¬foot (some v) b x) H'):=zu λa o h e=>⟨⟨h,λz=>by rw[hn a z]at e;cases e⟩,k a o e (m.tp.nt (ow0 h))⟩;refine⟨by rw[yh0,yh0];exact m.len,λj c s e1 n=>?_,λj G c d s s' x e1 n h1 h2 f1 f2=>?_,λj r q e G c s x e1 n f=>?_,t,m.keep.trans k,(m.kz k t).oex⟩
 .rcases E e1 n with⟨rfl,rfl,rfl⟩|⟨_,p,u⟩
  .exact hok.stay g1 (λx o f e=>by
    obtain⟨C,D,_⟩:=oH hok f;exact⟨e,C,D⟩) rfl λ_ _ _ l=>l
  .exact(m.ok j c s p u).stay (N.trans g1) (λx o f e=>by
    obtain⟨C,D,_⟩:=m.ft p u f;exact⟨k x o e (m.tp.nt C),C,D⟩) rfl λ_ _ _ l=>l.kz k t
 .have nn:∀{j:Nat} {c:A} {s:Option V},O[j]?=some (some c)->B[j]?=some s->foot s c x->¬foot (some v) b x:=λ{j c s} p u f g=>by
   obtain⟨_,_,o,w,_⟩:=m.ft p u f;rw[hn x g]at w;cases w
  rcases E e1 h1 with⟨rfl,rfl,rfl⟩|⟨_,p,u⟩
  .rcases E n h2 with⟨rfl,_⟩|⟨_,C,D⟩
   .rfl
   .exact absurd f1 (nn C D f2)
  .rcases E n h2 with⟨rfl,rfl,rfl⟩|⟨_,C,D⟩
   .exact absurd f2 (nn p u f1)
   .exact m.dj j G c d s s' x p C u D f1 f2
 .rcases zK e with⟨rfl,z⟩|⟨_,K⟩
  .cases z;exact P.elim
  .rcases E e1 n with⟨rfl,rfl,rfl⟩|⟨_,p,u⟩
   .exact(m.lnk K).none (hn x f)
   .exact m.xd j r q K G c s x p u f
theorem M.set {i:Nat}{v:V}{d:Aa}(m:M F O B H)(av:AV (Gz F O B H) v d):M F (O.set i (some (.dat d))) (B.set i (some v)) H:=
 m.store m.tp Kz.refl (λx z=>z.elim) ⟨v,rfl,av.same (zu λa o h e=>⟨⟨h,λz=>z⟩,e⟩)⟩
def M.setC {i:Nat}{v:V}{c:Aa}{H':Hp}(m:M F O B H)(t:zH F H')(k:Kz F H H')(d:jw F O B H v H' c):M F (O.set i (some (.ow c))) (B.set i (some v)) H':=by
 obtain⟨l,o,rfl,h1,h2,h3⟩:=d;have nl:=m.fresh h1;refine m.store t k (λx z=>?_) ⟨l,o,rfl,h2,h3.same (zu λa o h e=>⟨⟨h.1,λz=>h.2 (by cases z;rfl)⟩,e⟩),ow0 nl,m.fresh0 h1⟩;have b:=z;cases b;exact h1
def M.setOwn {i:Nat}{v:V}{ds:List Aa}{H':Hp}(m:M F O B H)(t:zH F H')(k:Kz F H H')(a:yY F O B H v H' ds):M F (O.set i (some (.own ds))) (B.set i (some v)) H':=m.setC t k a.c
def M.wr {x:Ad}{o:HO}(m:M F O B H)(hno:wN o)(p:F.O0 x)(g:∀t b c,F.tp=some (t,b,c)->x≠t/\x≠b/\x≠c)(h0:F.H0 x=none)(hpl:Plain H x)(C:∀(i:Nat) r q,O[i]?=some (some (.exc r q))->r.H0 x=none):M F O B (upd H x o):=by
 have A:zt (Gz F O B H) (Gz F O B (upd H x o)):=zu λa u h e=>⟨h,by rw[zc (λz=>h (.inl (by rw[z];exact p)))];exact e⟩;refine⟨m.len,λj c s e1 v=>?_,m.dj,m.xd,m.tp.upd g hpl,λy u e n=>?_,λy hy=>?_⟩
 .have:=m.ok j c s e1 v;cases c with
  |exc r q=>
   have l:=this;exact⟨l.tp,l.o,l.ok.upd (λa b c e=>g a b c (l.tp▸e)) hpl,λy u e n=>by rw[zc (zk e (C j r q e1))];exact l.k y u e n⟩
  |_=>exact this.stay A (λy u f e=>by
    obtain⟨d,D,_⟩:=m.ft e1 v f;exact⟨by rw[zc (λz=>d (by rw[z];exact p))];exact e,d,D⟩) rfl λ_ _ z=>by cases z
 .rw[zc (zk e h0)];exact m.keep y u e n
 .by_cases z:y=x
  .exact⟨o,by rw[z];exact zi,hno⟩
  .obtain⟨u,w,hn⟩:=m.oex y hy;exact⟨u,by rw[zc z];exact w,hn⟩
def M.forget {b:Ev}(m:M F O B H)(n:b.length=O.length)(le:∀(i:Nat) a,b[i]?=some (some a)->O[i]?=some (some a)):M F b B H:=by
 have ow:∀{y:Ad},Ow F b B y->Ow F O B y:=λ{y} h=>by
  rcases h with z|⟨j,c,s,e1,g,f⟩
  .exact .inl z
  .exact .inr ⟨j,c,s,le _ _ e1,g,f⟩
 have p:zt (Gz F O B H) (Gz F b B H):=zu λa o h e=>⟨λz=>h (ow z),e⟩;exact⟨n.trans m.len,λj c s e1 g=>(m.ok j c s (le _ _ e1) g).stay p (λx o f e=>⟨e,(m.ft (le _ _ e1) g f).1,(m.ft (le _ _ e1) g f).2.1⟩) rfl λ_ _ _ l=>l,λj k c d s s' x e1 g=>m.dj j k c d s s' x (le _ _ e1) (le _ _ g),λj r q e k c s x e1=>m.xd j r q (le _ _ e) k c s x (le _ _ e1),m.tp,m.keep,m.oex⟩
theorem tD {H:Hp}:∀{is:List Nat}{ds:List Aa}{O α':Ev}{B:St}{xs:List V}{R:St->Hp->Prop},xS is ds O=some α'->M F O B H->(∀G,zt (Gz F O B H) G->AVs G xs ds)->(∀b,M F α' b H->R b H)->gIs is xs B H R
 |[],[],O,α',B,xs,R,e,m,av,k=>by
  cases e;cases av _ (zt.refl _);exact⟨rfl,k B m⟩
 |i::is,d::ds,O,α',B,xs,R,e,m,av,k=>by
  cases h:av _ (zt.refl _)with
  |@cons x xs _ _ h1 h2=>
   refine⟨x,xs,rfl,?_⟩;have p:zt (Gz F O B H) (Gz F (O.set i (some (.dat d))) (B.set i (some x)) H):=zu λa o h e=>⟨λz=>h (by
    rcases z with z|⟨j,c,s,e1,l,f⟩
    .exact .inl z
    .rcases zK e1 with⟨_,z⟩|⟨n,g⟩
     .cases z;exact f.elim
     .rw[yf1 n]at l;exact .inr ⟨j,c,s,g,l,f⟩),e⟩
   exact tD e (m.set h1) (λG s=>h2.same (p.trans s)) k
 |[],_::_,_,_,_,_,_,e,_,_,_=>by cases e
 |_::_,[],_,_,_,_,_,e,_,_,_=>by cases e
theorem Pat.nest_inv {i:Nat}{is:List Nat}{d:Aa}(e:(Pat.nest i is).bind d O=some α'):∃a ds,d=.tuple [a,.tuple ds]/\xS is ds (O.set i (some (.dat a)))=some α':=by
 cases d with
 |tuple xs=>
  cases xs with
  |nil=>cases e
  |cons a r=>
   cases r with
   |nil=>cases e
   |cons b r=>
    cases r with
    |nil=>
     cases b with
     |tuple ds=>exact⟨_,_,rfl,e⟩
     |_=>cases e
    |cons _ _=>cases b<;>cases e
 |_=>cases e
theorem qQ :∀{is:List Nat}{ds:List Aa}{O α':Ev},xS is ds O=some α'->ds.length=is.length:=by
 intro is
 induction is with
 |nil=>intro ds O α' h;cases ds with|nil=>rfl|cons _ _=>cases h
 |cons i is a=>intro ds O α' h;cases ds with|nil=>cases h|cons d ds=>rw[ya1,ya1,a h]
theorem oT {K:Ae}{pat:Pat}{d:Aa}{v:V}{R:St->Hp->Prop}(e:pat.bind d O=some α')(m:M F O B H)(av:AV (Gz F O B H) v d)(k:∀g,M F α' g H->R g H):oo K pat v B H R:=by
 cases pat with
 |one i=>cases e;exact k _ (m.set av)
 |many is=>
  cases d with
  |tuple ds=>
   obtain⟨a,xs,rfl,h1,h2⟩:=av.tup_inv;exact⟨a,xs,rfl,SqT.of (zf h1).2,by rw[h2.length];exact qQ e,tD e m (λG s=>h2.same s) k⟩
  |_=>cases e
 |nest i is=>
  obtain⟨w,ds,rfl,e⟩:=Pat.nest_inv e;obtain⟨a,xs,rfl,h1,h2⟩:=av.tup_inv;cases h2 with
  |@cons x0 r _ _ z1 z2=>
   cases z2 with
   |@cons x1 r _ _ z3 z4=>
    cases z4;have x:zt (Gz F O B H) (Gz F (O.set i (some (.dat w))) (B.set i (some x0)) H):=zu λa o h e=>⟨λz=>h (by
     rcases z with z|⟨j,c,s,e1,p,f⟩
     .exact .inl z
     .rcases zK e1 with⟨_,z⟩|⟨u,l⟩
      .cases z;exact f.elim
      .rw[yf1 u]at p;exact .inr ⟨j,c,s,l,p,f⟩),e⟩
    obtain⟨b,ys,rfl,q,n⟩:=(z3.same x).tup_inv;exact⟨a,_,rfl,SqT.of (zf h1).2,rfl,_,_,rfl,_,_,rfl,⟨b,ys,rfl,SqT.of (zf q).2,by rw[n.length];exact qQ e,tD e (m.set z1) (λG s=>n.same s) λg t=>⟨rfl,k g t⟩⟩⟩
theorem rz :∀{is:List Nat}{ds:List Aa}{O α':Ev},xS is ds O=some α'->α'.length=O.length
 |[],[],_,_,e=>by cases e;rfl
 |i::is,d::ds,O,α',e=>by
  have:=rz (is:=is) e
  rwa [yh0]at this
 |[],_::_,_,_,e=>by cases e
 |_::_,[],_,_,e=>by cases e
theorem qk :∀{is:List Nat}{ds:List Aa}{O α':Ev}{j:Nat},xS is ds O=some α'->j∉is->α'[j]?=O[j]?
 |[],[],_,_,_,e,_=>by cases e;rfl
 |i::is,d::ds,O,α',j,e,h=>by
  rw[qk (is:=is) (ds:=ds) e λz=>h (z87 _ z)];exact yf1 λ(z:i=j)=>h (by rw[<-z];exact z89)
 |[],_::_,_,_,_,e,_=>by cases e
 |_::_,[],_,_,_,e,_=>by cases e
theorem rR :∀{is:List Nat}{ds:List Aa}{O α':Ev}{j:Nat}{a:A},xS is ds O=some α'->α'[j]?=some (some a)->(∀d,a≠.dat d)->O[j]?=some (some a)
 |[],[],_,_,_,_,e,h,_=>by cases e;exact h
 |i::is,d::ds,O,α',j,a,e,h,hn=>by
  rcases zK (rR (is:=is) (ds:=ds) e h hn)with⟨_,z⟩|⟨_,z⟩
  .cases z;exact absurd rfl (hn d)
  .exact z
 |[],_::_,_,_,_,_,e,_,_=>by cases e
 |_::_,[],_,_,_,_,e,_,_=>by cases e
theorem Pat.is_ok {pat:Pat}{d:Aa}(e:pat.bind d O=some α'):∃is ds,pat.slots=is/\xS is ds O=some α':=by
 cases pat with
 |one i=>cases e;exact⟨_,[d],rfl,rfl⟩
 |many is=>
  cases d with
  |tuple ds=>exact⟨_,ds,rfl,e⟩
  |_=>cases e
 |nest i is=>
  obtain⟨a,ds,rfl,e⟩:=Pat.nest_inv e;exact⟨_,a::ds,rfl,e⟩
def Pat.back {pat:Pat}{d:Aa}(e:pat.bind d O=some α')(fr:pat.free O=true)(m:M F α' B H):M F O B H:=by
 obtain⟨is,ds,rfl,e⟩:=Pat.is_ok e;refine m.forget (rz e).symm λj a h=>?_;by_cases b:j∈pat.slots
 .have:=yn2.mp fr j b;unfold isFree at this;rw[h]at this;cases this
 .rw[qk e b];exact h
end
section
variable {X:Cx}{O:Ev}
def dg (X:Cx)(O:Ev)(ifs:List Al)(Q:Bool->Prop):Prop:=∀(F:Fr) (B:St) (H:Hp) (R:Bool->Hp->Prop),M F O B H->(∀b H',Q b->zH F H'->Kz F H H'->R b H')->∃t,vd X ifs t/\t B H R
def zA3 (X:Cx)(ifs:List Al):TT:=λB H R=>∃t,vd X ifs t/\t B H R
def gp {ifs:List Al}:vd X ifs (zA3 X ifs):=λpins s B H Q I a=>by obtain⟨t,p,q⟩:=a;exact p pins s B H Q I q
def jm {Q:Bool->Prop}(q:Q true):dg X O [] Q:=λF B H R m k=>⟨_,zt7,k _ H q m.tp Kz.refl⟩
def kE {c:Al}{Q:Bool->Prop}(h:EvT X O c Q):dg X O [c] Q:=λF B H R m k=>⟨_,ie xA,h F B H R m k⟩
noncomputable def seen :Option A->Option A
 |some (.dat d)=>some (.dat d)
 |some .tape=>some .tape
 |_=>none
noncomputable def yV (imp:List (Option Nat))(O:Ev):Ev:=imp.map λo=>o.bind λj=>(O[j]?).bind seen
theorem kq {imp:List (Option Nat)}{i:Nat}{a:A}(h:(yV imp O)[i]?=some (some a)):∃j,imp[i]?=some (some j)/\O[j]?=some (some a)/\((∃d,a=.dat d)\/a=.tape):=by
 unfold yV at h;rw[z88,z98]at h;obtain⟨o,h1,h2⟩:=h;cases o with
 |none=>cases h2
 |some j=>
  have c:(O[j]?).bind seen=some a:=h2;cases q:O[j]? with
  |none=>rw[q]at c;cases c
  |some b=>
   rw[q]at c;cases b with
   |none=>cases c
   |some b=>
    cases b with
    |dat d=>cases c;exact⟨j,h1,q,.inl ⟨d,rfl⟩⟩
    |tape=>cases c;exact⟨j,h1,q,.inr rfl⟩
    |_=>cases c
def nO {imp:List (Option Nat)}{B:St}{i j:Nat}{v:V}(h1:imp[i]?=some (some j))(h2:B[j]?=some (some v)):(wM imp B)[i]?=some (some v):=by
 unfold wM;rw[z88,h1];show some ((B[j]?).bind id)=_;rw[h2];rfl
def xx (Y:Ad->Ac->Hp->List Ad->Cx)(pat:Pat)(ifs:List Al)(elt:Al)(a:Ev):List Aa->List Aa->(List Aa->Prop)->Prop
 |[],acc,Q=>Q acc
 |d::ds,acc,Q=>∃b,pat.bind d a=some b/\∀C s2 c fp,dg (Y C s2 c fp) b ifs λk=>if k=true then ∀C s2 c fp,EvD (Y C s2 c fp) b elt λy=>xx Y pat ifs elt a ds (acc++[y]) Q else xx Y pat ifs elt a ds acc Q
def eC (Y:Ad->Ac->Hp->List Ad->Cx)(e:Al):TE:=λB H Q=>∀C s2 a fp,uu (Y C s2 a fp) e B H Q
def tsC (Y:Ad->Ac->Hp->List Ad->Cx)(ifs:List Al):TT:=λB H Q=>∀C s2 a fp,zA3 (Y C s2 a fp) ifs B H Q
def gj {N:List Str}{imp:List (Option Nat)}{scope:Aq}{tg iter elt:Al}{ifs:List Al}{pat:Pat}{Q:List Aa->Prop}(I:pat.free (yV imp O)=true)
  (h:EvI X O tg iter λds=>ds.length<=1000/\xx (λC s2 p fp=>X.comp N scope C s2 p fp) pat ifs elt (yV imp O) ds [] Q)
  (F:Fr) (B:St) (H:Hp) (R:VK) (m:M F O B H) (k:∀ds v H',Q ds->zH F H'->Kz F H H'->yY F O B H v H' ds->R v H'):
  ∃Y:Ad->Ac->Hp->List Ad->Cx,Y=(λC s2 p fp=>X.comp N scope C s2 p fp)/\zb1 (zQ2 X tg iter) imp (oo X.K pat) (tsC Y ifs) (eC Y elt) B H R:=by
 refine⟨_,rfl,h F B H _ m λds J H1 a9 t1 k1 b1 acc g=>?_⟩;obtain⟨hl,q1⟩:=a9;have m1:=m.kz k1 t1
 let A:Fr:=⟨H1,λx=>Ow F O B x\/x=acc,F.tp⟩
 let Nd:Ev->Prop:=λl=>∀(j:Nat) a,l[j]?=some (some a)->(∃d,a=.dat d)\/a=.tape
 have u:Nd (yV imp O):=λj a z=>by
  obtain⟨_,_,_,n⟩:=kq z;exact n
 have owc:∀{l:Ev} {T:St} {x:Ad},Nd l->(Ow A l T x↔A.O0 x):=λ{l T x} hh=>⟨λz=>z.elim id λb5=>by
  obtain⟨j,a,s,e1,Z,f⟩:=b5;rcases hh j a e1 with⟨d,rfl⟩|rfl
  .exact f.elim
  .exact f.elim,.inl⟩
 have gz:∀{l a1:Ev} {D τ2:St} {H:Hp},Nd l->Nd a1->zt (Gz A l D H) (Gz A a1 τ2 H):=λh1 h2=>zu λa o h e=>⟨λz=>h ((owc h1).mpr ((owc h2).mp z)),e⟩;have b0:∀{p:Hp},zH F p->zH A p:=λt=>t.to rfl λx z=>.inl (.inl z);have U:zt H1 (upd H1 acc (.lst [])):=yg g;have b2:M A (yV imp O) (wM imp B) (upd H1 acc (.lst [])):=by
  have g1:zt (Gz F O B H1) (Gz A (yV imp O) (wM imp B) (upd H1 acc (.lst []))):=λa o e=>by
   obtain⟨z1,z2⟩:=zf e;have na:=zk z2 g;exact zB (λz=>((owc u).mp z).elim z1 na) (by rw[zc na];exact z2)
  refine⟨by unfold yV wM;rw[z77,z77],λi a s e1 Z=>?_,λi j a b s t x e1 Z _ _ f=>?_,λi r q e=>(by rcases u i _ e with⟨d,w⟩|w<;>cases w),b0 (t1.same U),λx o e _=>U x o e,?_⟩
  .obtain⟨j,w1,w2,w3⟩:=kq e1;rcases w3 with⟨d,rfl⟩|rfl
   .obtain⟨v,g2,g3⟩:=m1.dat j d w2;rw[nO w1 g2]at Z;cases Z;exact⟨v,rfl,g3.same g1⟩
   .obtain⟨t,b,c,g2,g3⟩:=m1.tvar j w2;rw[nO w1 g3]at Z;cases Z;exact⟨t,b,c,g2,rfl⟩
  .rcases u i a e1 with⟨d,rfl⟩|rfl
   .exact f.elim
   .exact f.elim
  .rintro x (z|z)
   .have:∃o,H1 x=some o/\wN o:=m1.owEx z;obtain⟨o,ho,hn⟩:=this;exact⟨o,U _ _ ho,hn⟩
   .exact⟨_,by rw[z];exact zi,xj⟩
 refine⟨λi n ys T p=>n=ds.length-i/\i<=ds.length/\∃ad:List Aa,M A (yV imp O) T p/\p acc=some (.lst ys)/\AVs (Gz A (yV imp O) T p) ys ad/\ad.length<=i/\xx (λC s2 p fp=>X.comp N scope C s2 p fp) pat ifs elt (yV imp O) (ds.drop i) ad Q,
  ⟨ds.length,by simp,z94 _,[],b2,zi,.nil,z82 _,q1⟩,?_⟩
 rintro i n ys T p ⟨rfl,hi,ad,m2,ha,av,had,cw⟩;have sG:zt (Gz F O B H1) (Gz A (yV imp O) T p):=λa o e=>by
  obtain⟨z1,z2⟩:=zf e;exact m2.old a o (zB (λz=>z.elim z1 (zk z2 g)) z2)
 obtain⟨w1,w2⟩:=b1 i p _ sG;by_cases E:i<ds.length
 .have hd:=z78 E;rw[(yc6 E)]at cw;obtain⟨l,eb,body⟩:=cw;obtain⟨go,yl⟩:=w1 _ hd;have G:Nd l:=λj a z=>by
   obtain⟨is,b6,_,e⟩:=Pat.is_ok eb;by_cases hn:∀d,a≠.dat d
   .exact u j a (rR e z hn)
   .simp only[Classical.not_forall,Classical.not_not]at hn;exact .inl hn
  refine .inr ⟨go,λW V H'=>∃ad:List Aa,M A (yV imp O) V H'/\H' acc=some (.lst W)/\AVs (Gz A (yV imp O) V H') W ad/\ad.length<=i+1/\xx (λC s2 p fp=>X.comp N scope C s2 p fp) pat ifs elt (yV imp O) (ds.drop (i+1)) ad Q,
   λW V H' a5=>by obtain⟨b4,r1,r2,r3,r4,r5⟩:=a5;exact⟨ds.length-(i+1),(om0 E),rfl,E,b4,r1,r2,r3,r4,r5⟩,λx H3 y=>?_⟩
  obtain⟨L,b3⟩:=yl x H3 y;refine oT eb (m2.kz (Kz.of_same L) (m2.tp.same L)) (b3 λa o _ e=>m2.fresh e) λD m4 C s2 a7 fp=>body C s2 a7 fp A D H3 _ m4 λb H5 qb t5 k5=>?_;have m5:=m4.kz k5 t5;have a2:AVs (Gz A (yV imp O) D H5) ys ad:=av.same ((Kz.of_same L).gz m2.tp |>.trans ((gz (τ2:=D) u G).trans ((k5.gz m4.tp).trans (gz G u))));have accN:NT A acc:=⟨λt b c e=>by
   have:=(t1 t b c e).1.free g;exact⟨this.1,this.2.1⟩,nW t1.tab g⟩
  have a3:=k5 _ _ (L _ _ ha) accN;cases b with
  |false=>
   have a6:xx (λC s2 p fp=>X.comp N scope C s2 p fp) pat ifs elt (yV imp O) (ds.drop (i+1)) ad Q:=by simpa using qb
   exact sv ⟨ad,Pat.back eb I m5,a3,a2,(z93 had (ya0 _ _)),a6⟩
  |true=>
   refine sC λC s2 S fp=>?_;have qe:EvD (X.comp N scope C s2 S fp) l elt λy=>xx (λC s2 p fp=>X.comp N scope C s2 p fp) pat ifs elt (yV imp O) (ds.drop (i+1)) (ad++[y]) Q:=by
    have z:=qb;rw[if_pos rfl]at z;exact z C s2 S fp
   refine qe A D H5 _ m5 λy v H6 qy t6 k6 r6=>?_;have a4:=k6 _ _ a3 accN;have hlen:ys.length<=i:=by rw[av.length];exact had
   have P:A.O0 acc:=.inr rfl;have a0:∀t b c,A.tp=some (t,b,c)->acc≠t/\acc≠b/\acc≠c:=λt b c e=>(t1 t b c e).1.free g;have m7:=(Pat.back eb I (m5.kz k6 t6)).wr (o:=.lst (ys++[v])) xj P a0 g (pK a4) (λi r q z=>by rcases u i _ z with⟨d,w⟩|w<;>cases w);refine⟨a4,yp (by lia),ad++[y],m7,zi,?_,by simp;exact had,qy⟩;have a8:zt (Gz A (yV imp O) D H6) (Gz A (yV imp O) D (upd H6 acc (.lst (ys++[v])))):=zu λa o h e=>⟨h,by rw[zc (λz=>h (.inl (by rw[z];exact P)))];exact e⟩;exact((a2.same ((gz (τ2:=D) u G).trans ((k6.gz m5.tp).trans (gz G u)))).append (.cons (r6.same (gz G u)) .nil)).same a8
 .have e:=(yk5 hi (yk0 E));subst e;rw[ym0]at cw;exact .inl ⟨w2 (z82 _),k ad _ p cw (m.tp.re m2.tp rfl) (k1.trans m2.keep) (yY.back m k1 t1 ⟨acc,ys,rfl,g,ha,av.same (zu λa o h e=>⟨⟨λz=>h (.inl (.inl z)),λz=>h (.inl (.inr z))⟩,e⟩)⟩)⟩
def za4 {N:List Str}{imp:List (Option Nat)}{scope:Aq}{tg iter elt:Al}{ifs:List Al}{pat:Pat}{Q:List Aa->Prop}{pos:Pos}(d:X.calm=true)(S:zI X.N X.env.scope N imp scope)(b:pat.free (yV imp O)=true)
  (hg:∀C s2 a fp,PG (X.comp N scope C s2 a fp) tg (oo X.K pat))
  (h:EvI X O tg iter λds=>ds.length<=1000/\xx (λC s2 a fp=>X.comp N scope C s2 a fp) pat ifs elt (yV imp O) ds [] Q) (c:∀x,foldedSetIterable iter X.env x=pure x:=by intro _;rfl):
  EvL X O (.ListComp elt [⟨tg,iter,ifs,0⟩] scope pos) Q:=λF B H R m k=>by
 obtain⟨Y,rfl,h⟩:=gj b h F B H R m k;exact⟨_,zz8 d S om hg (λC s2 a fp pins s B H Q I h=>gp pins s B H Q I (h C s2 a fp)) (λC s2 a fp pins s B H Q I h=>zg pins s B H Q I (h C s2 a fp)) c,h⟩
section
variable {E:xr}{rest body:List An}{e c tg iter:Al}{pos p:Pos}
def mh.then {F:Fr}{D:Ends}(h:mh F E D):mh F {E with nx:=λa=>SvS X a rest E} {D with nx:=zv4 X rest D}:=
 ⟨λa b H' m q=>q F b H' D m h,h.rt,h.bk,h.ct⟩
def zy (q:E.nx O):SvS X O [] E:=λF B H D m h=>⟨_,ox,h.nx _ _ _ m q⟩
def SvS.imp {d:List An}{b:xr}(h:SvS X O d b)(hn:∀O,b.nx O->E.nx O)(hr:∀a,b.rt a->E.rt a)(hb:∀O,b.bk O->E.bk O)(f:∀O,b.ct O->E.ct O):SvS X O d E:=λF B H D m r=>
 h F B H D m ⟨λO B H m q=>r.nx O B H m (hn _ q),λa v H m q=>r.rt a v H m (hr _ q),λO B H m q=>r.bk O B H m (hb _ q),λO B H m q=>r.ct O B H m (f _ q)⟩
def yr (i:Nat){x:Str}{pos':Pos}(g:X.N.Nodup)(h:EvD X O e λd=>SvS X (O.set i (some (.dat d))) rest E)(hi:X.N[i]?=some x:=by rfl)(j:Loc X.env.scope x:=by first|exact Or.inl rfl|exact Or.inr rfl)
  (k:swapsWith e (some (.Name x pos')) pos.line X.env=pure false:=by rfl) (hf:X.fn x=true\/X.env.scope.names.lookup x=some .local:=by first|exact .inl rfl|exact .inr rfl|assumption):SvS X O (.Assign [.Name x pos'] e pos::rest) E:=λF B H D m r=>by exact⟨_,zE (wB g hi j zg k hf) zP,h F B H _ m λd v H1 b t1 f a=>b F _ H1 D ((m.kz f t1).set a) r⟩
def xm (i:Nat){x:Str}{pos':Pos}(g:X.N.Nodup)(h:EvL X O e λds=>SvS X (O.set i (some (.own ds))) rest E)(hi:X.N[i]?=some x:=by rfl)(j:Loc X.env.scope x:=by first|exact Or.inl rfl|exact Or.inr rfl)
  (k:swapsWith e (some (.Name x pos')) pos.line X.env=pure false:=by rfl) (hf:X.fn x=true\/X.env.scope.names.lookup x=some .local:=by first|exact .inl rfl|exact .inr rfl|assumption):SvS X O (.Assign [.Name x pos'] e pos::rest) E:=λF B H D m r=>by exact⟨_,zE (wB g hi j zg k hf) zP,h F B H _ m λd v H1 b t1 f a=>b F _ H1 D (m.setOwn t1 f a) r⟩
def zj1 (i:Nat){x:Str}{pos' a:Pos}{N:List Str}{imp:List (Option Nat)}{scope:Aq}{elt:Al}{ifs:List Al}{pat:Pat}(o:X.N.Nodup)(l:X.calm=true)(S:zI X.N X.env.scope N imp scope)(d:pat.free (yV imp O)=true)
  (hg:∀C s2 b fp,PG (X.comp N scope C s2 b fp) tg (oo X.K pat))
  (h:EvI X O tg iter λds=>ds.length<=1000/\xx (λC s2 b fp=>X.comp N scope C s2 b fp) pat ifs elt (yV imp O) ds [] λds=>SvS X (O.set i (some (.own ds))) rest E)
  (hi:X.N[i]?=some x:=by rfl) (g:Loc X.env.scope x:=by first|exact Or.inl rfl|exact Or.inr rfl) (f:swapsWith (.ListComp elt [⟨tg,iter,ifs,0⟩] scope a) (some (.Name x pos')) pos.line X.env=pure true:=by rfl)
  (hf:X.fn x=true\/X.env.scope.names.lookup x=some .local:=by first|exact .inl rfl|exact .inr rfl|assumption) (j:∀x,foldedSetIterable iter X.env x=pure x:=by intro _;rfl):
  SvS X O (.Assign [.Name x pos'] (.ListComp elt [⟨tg,iter,ifs,0⟩] scope a) pos::rest) E:=λF B H D m r=>by
 obtain⟨Y,rfl,h⟩:=gj d h F B H (λv H'=>zv4 X rest D (B.set i (some v)) H') m λds v H' q t k n=>q F _ H' D (m.setOwn t k n) r;exact⟨_,zE (zj7 l S om hg (λC s2 b fp pins s B H Q I h=>gp pins s B H Q I (h C s2 b fp)) (λC s2 b fp pins s B H Q I h=>zg pins s B H Q I (h C s2 b fp)) o hi g f hf j) zP,h⟩
theorem tV.dat {F:Fr}{B:St}{H:Hp}{v:V}{d:Aa}(m:M F O B H)(r:AV (Gz F O B H) v d):tV F v H (.dat d):=
 ⟨m.tp,m.keep,r.same (zu λa o h e=>⟨ow0 h,e⟩)⟩
def xg (h:EvD X O e λd=>E.rt (.dat d)):SvS X O (.Return (some e) pos::rest) E:=λF B H D m r=>by exact⟨_,zE (vZ zg) zP,h F B H _ m λd v H1 f t1 a b=>r.rt _ _ _ (tV.dat (m.kz a t1) b) f⟩
def vK (h:EvL X O e λds=>E.rt (.own ds)):SvS X O (.Return (some e) pos::rest) E:=λF B H D m r=>by
 refine⟨_,zE (vZ zg) zP,h F B H _ m λd v H1 f t1 g b=>r.rt _ _ _ ?_ f⟩;obtain⟨l,xs,h1,h2,h3,i⟩:=b;exact⟨t1,m.keep.trans g,l,xs,_,h1,rfl,m.fresh0 h2,ow0 (m.fresh h2),h3,i.same (zu λa o h e=>⟨⟨ow0 h.1,h.2⟩,e⟩)⟩
def xB (i:Nat){x:Str}{ds:List Aa}(hi:O[i]?=some (some (.own ds)))(q:E.rt (.own ds))(g:X.N[i]?=some x:=by rfl)(f:Vis X.env.scope x:=by first|exact Or.inl rfl|exact Or.inr (Or.inl rfl)|exact Or.inr (Or.inr rfl))
  (hd:(x == ("__debug__":Str))=false:=by decide) (b:(x == ("__classdict__":Str))=false:=by decide):SvS X O (.Return (some (.Name x p)) pos::rest) E:=λF B H D m r=>by
 obtain⟨l,xs,h1,h2,h3,j,d⟩:=m.own i ds hi;refine⟨_,zE (vZ (xi g f hd b)) zP,.ref l,h1,r.rt (.own ds) _ _ ⟨m.tp,m.keep,l,xs,_,rfl,rfl,d,j,h2,h3.same (zu λa o h e=>⟨⟨ow0 h,λz=>h (by rw[z];exact .inr ⟨i,_,_,hi,h1,rfl⟩)⟩,e⟩)⟩ q⟩
def zr3 (i:Nat){x:Str}{pos':Pos}(g:X.N.Nodup)(h:EvC X O e λc=>SvS X (O.set i (some (.ow c))) rest E)(hi:X.N[i]?=some x:=by rfl)(j:Loc X.env.scope x:=by first|exact Or.inl rfl|exact Or.inr rfl)
  (k:swapsWith e (some (.Name x pos')) pos.line X.env=pure false:=by rfl) (hf:X.fn x=true\/X.env.scope.names.lookup x=some .local:=by first|exact .inl rfl|exact .inr rfl|assumption):SvS X O (.Assign [.Name x pos'] e pos::rest) E:=λF B H D m r=>by exact⟨_,zE (wB g hi j zg k hf) zP,h F B H _ m λd v H1 b t1 f a=>b F _ H1 D (m.setC t1 f a) r⟩
theorem wR {a b:List An}(h:EvT X O c λk=>SvS X O (if k=true then a else b) {E with nx:=λd=>SvS X d rest E}):SvS X O (.If c a b pos::rest) E:=λF B H D m r=>by
 refine⟨_,zE (zi3 xA zP zP) zP,h F B H _ m λk H1 g t1 f=>?_⟩;cases k with
 |true=>exact sC (by simpa using g F B H1 _ (m.kz f t1) r.then)
 |false=>exact sv (by simpa using g F B H1 _ (m.kz f t1) r.then)
def tH (i:Nat){ds:List Aa}{a:List An}(hi:O[i]?=some (some (.own ds)))(h:SvS X (O.set i (some (.dat (.list ds)))) a E):SvS X O a E:=λF B H D m r=>h F B H D (m.frz hi) r
def M.wrC {F:Fr}{B:St}{H:Hp}{i:Nat}{c c':Aa}{l:Ad}{o':HO}(m:M F O B H)(hi:O[i]?=some (some (.ow c)))(v:B[i]?=some (some (.ref l)))(av:yN (Gz F O B H) o' c'):
  M F (O.set i (some (.ow c'))) B (upd H l o'):=by
 obtain⟨W,o,h1,h2,h3,I,P⟩:=m.owc i c hi;rw[v]at h1;cases h1;have C:∀{j:Nat} {a:A} {s:Option V},(O.set i (some (.ow c')))[j]?=some (some a)->B[j]?=some s->(i=j/\a=.ow c'/\s=some (.ref l))\/(i≠j/\O[j]?=some (some a)):=λ{j a s} e1 g=>by
  rcases zK e1 with⟨rfl,z⟩|⟨D,d⟩
  .cases z;rw[v]at g;cases g;exact .inl ⟨rfl,rfl,rfl⟩
  .exact .inr ⟨D,d⟩
 have L:∀{y:Ad},Ow F (O.set i (some (.ow c'))) B y->Ow F O B y:=λ{y} h=>by
  rcases h with z|⟨j,a,s,e1,g,f⟩
  .exact .inl z
  .rcases C e1 g with⟨rfl,rfl,rfl⟩|⟨D,d⟩
   .exact .inr ⟨i,_,_,hi,v,f⟩
   .exact .inr ⟨j,a,s,d,g,f⟩
 have ol:Ow F O B l:=.inr ⟨i,_,_,hi,v,rfl⟩;have Q:zt (Gz F O B H) (Gz F (O.set i (some (.ow c'))) B (upd H l o')):=zu λa o h e=>⟨λz=>h (L z),by rw[zc (λz=>h (by rw[z];exact ol))];exact e⟩;refine⟨by rw[yh0];exact m.len,λj a s e1 g=>?_,λj G a b s t x e1 g N J f1 f2=>?_,λj r q e G a s x e1 g f=>?_,m.tp.updO I (h3.plain h2),λy o e n=>?_,λy hy=>?_⟩
 .rcases C e1 g with⟨rfl,rfl,rfl⟩|⟨D,d⟩
  .exact⟨l,o',rfl,zi,av.same Q,I,P⟩
  .refine(m.ok j a s d g).stay Q (λy u f e=>?_) rfl λr q S k=>⟨k.tp,k.o,k.ok.updO (λz=>I (k.o _ z)) (h3.plain h2),λy u e n=>?_⟩
   .obtain⟨T,U,_⟩:=m.ft d g f;refine⟨?_,T,U⟩;rw[zc λz=>D (m.dj i j _ a _ s l hi d v g rfl (by rw[<-z];exact f))];exact e
   .rw[zc (zk e (m.xd j r q (by rw[<-S];exact d) i _ _ l hi v rfl))];exact k.k y u e n
 .rcases C e1 N with⟨rfl,rfl,rfl⟩|⟨D,d⟩
  .rcases C g J with⟨rfl,_⟩|⟨K,w⟩
   .rfl
   .exact m.dj i G _ b _ t x hi w v J f1 f2
  .rcases C g J with⟨rfl,rfl,rfl⟩|⟨K,w⟩
   .exact m.dj j i a _ s _ x d hi N v f1 f2
   .exact m.dj j G a b s t x d w N J f1 f2
 .rcases zK e with⟨_,z⟩|⟨_,R⟩
  .cases z
  .rcases C e1 g with⟨rfl,rfl,rfl⟩|⟨_,d⟩
   .exact m.xd j r q R i _ _ x hi v f
   .exact m.xd j r q R G a s x d g f
 .rw[zc (zk e P)];exact m.keep y o e n
 .rw[zc (λz=>I (by rw[<-z];exact hy))];exact m.oex y hy
def M.wrOwn {F:Fr}{B:St}{H:Hp}{i:Nat}{ds es:List Aa}{l:Ad}{ys:List V}(m:M F O B H)(hi:O[i]?=some (some (.own ds)))(a:B[i]?=some (some (.ref l)))(av:AVs (Gz F O B H) ys es):
  M F (O.set i (some (.own es))) B (upd H l (.lst ys)):=m.wrC hi a (.lst av)
def vv (i:Nat){x:Str}{ds:List Aa}{p1 p2 p3:Pos}(hi:O[i]?=some (some (.own ds)))(h:EvD X O e λd=>ds.length<1000/\SvS X (O.set i (some (.own (ds++[d])))) rest E)
  (s:X.N[i]?=some x:=by rfl) (o:Vis X.env.scope x:=by first|exact Or.inl rfl|exact Or.inr (Or.inl rfl)|exact Or.inr (Or.inr rfl)) (hd:(x == ("__debug__":Str))=false:=by decide) (f:(x == ("__classdict__":Str))=false:=by decide)
  (b:attributeBase (.Name x p1) "append" X.env (eval (.Name x p1) X.env)=eval (.Name x p1) X.env:=by rfl) (n:Af [e] X.env=(false,eval e X.env)::Af [] X.env:=by rfl)
  (hpl:((((backTo p3 (Af [e] X.env)).all λx=>!x.fst)&&(backToKw p3 (keywordEach [] X.env)).all λx=>x.fst.isSome)&&decide (([e].length+([]:List Keyword).length+if([]:List Keyword).isEmpty=true then 0 else 1)<30))=true:=by rfl)
  (a:(p2.endLine == p3.line)=true:=by rfl) (g:swapsWith (.Call (.Attribute (.Name x p1) "append" p2) [e] [] p3) none pos.line X.env=pure false:=by rfl):SvS X O (.Expr (.Call (.Attribute (.Name x p1) "append" p2) [e] [] p3) pos::rest) E:=λF B H D m r=>by
 obtain⟨l,xs,h1,h2,h3,t,u⟩:=m.own i ds hi;refine⟨_,zE (nE (bY yr3 PySem.F.slot_list_append PySem.F.type_list_append pS (xi s o hd f) (zv zg zJ n) b hpl a n) g) zP,⟨.ref l,h1,.inl ⟨rfl,_,SqL.of h2⟩,?_⟩⟩;refine h F B H _ m λd v H1 k t1 j q=>?_;refine⟨l,xs,v,rfl,rfl,j _ _ h2 (m.tp.nt t),by rw[h3.length];exact yp (yd3 k.1),?_⟩;exact k.2 F B _ D ((m.kz j t1).wrOwn hi h1 ((h3.same (j.gz m.tp)).append (.cons q .nil))) r
def tL (i:Nat){x:Str}{ds:List Aa}{p1 p2 p3:Pos}(hi:O[i]?=some (some (.own ds)))(h:EvD X O e λd=>∃es,d=.list es/\ds.length+es.length<=1000/\SvS X (O.set i (some (.own (ds++es)))) rest E)
  (y:X.N[i]?=some x:=by rfl) (u:Vis X.env.scope x:=by first|exact Or.inl rfl|exact Or.inr (Or.inl rfl)|exact Or.inr (Or.inr rfl)) (hd:(x == ("__debug__":Str))=false:=by decide) (g:(x == ("__classdict__":Str))=false:=by decide)
  (f:attributeBase (.Name x p1) "extend" X.env (eval (.Name x p1) X.env)=eval (.Name x p1) X.env:=by rfl) (n:Af [e] X.env=(false,eval e X.env)::Af [] X.env:=by rfl)
  (hpl:((((backTo p3 (Af [e] X.env)).all λx=>!x.fst)&&(backToKw p3 (keywordEach [] X.env)).all λx=>x.fst.isSome)&&decide (([e].length+([]:List Keyword).length+if([]:List Keyword).isEmpty=true then 0 else 1)<30))=true:=by rfl)
  (a:(p2.endLine == p3.line)=true:=by rfl) (j:swapsWith (.Call (.Attribute (.Name x p1) "extend" p2) [e] [] p3) none pos.line X.env=pure false:=by rfl):SvS X O (.Expr (.Call (.Attribute (.Name x p1) "extend" p2) [e] [] p3) pos::rest) E:=λF B H D m r=>by
 obtain⟨l,xs,h1,h2,h3,t,z⟩:=m.own i ds hi;refine⟨_,zE (nE (bY yr3 PySem.F.slot_list_extend PySem.F.type_list_extend cE (xi y u hd g) (zv zg zJ n) f hpl a n) j) zP,⟨.ref l,h1,.inl ⟨rfl,_,SqL.of h2⟩,?_⟩⟩;refine h F B H _ m λd v H1 w t1 k s=>?_;obtain⟨es,rfl,o,q⟩:=w;obtain⟨b,ys,rfl,g1,g2⟩:=s.lst_inv;refine⟨l,b,xs,ys,rfl,rfl,k _ _ h2 (m.tp.nt t),(zf g1).2,by rw[h3.length,g2.length];exact yd3 (yp o),?_⟩;exact q F B _ D ((m.kz k t1).wrOwn hi h1 ((h3.same (k.gz m.tp)).append g2)) r
def zI7 (i:Nat){x:Str}{a:Al}{ds:List Aa}{p1 p2:Pos}(hi:O[i]?=some (some (.own ds)))(h:EvD X O e λd=>EvD X O a λy=>∃k j,y=.int k/\ixN ds.length k=some j/\SvS X (O.set i (some (.own (ds.set j d)))) rest E)
  (L:X.N[i]?=some x:=by rfl) (K:Vis X.env.scope x:=by first|exact Or.inl rfl|exact Or.inr (Or.inl rfl)|exact Or.inr (Or.inr rfl)) (hd:(x == ("__debug__":Str))=false:=by decide) (u:(x == ("__classdict__":Str))=false:=by decide)
  (s:swapsWithSole [.Subscript (.Name x p1) a p2] e pos.line X.env=pure false:=by rfl) (hw:swappedStores [.Subscript (.Name x p1) a p2] e X.env=pure none:=by rfl)
  (ha:(assignEach [.Subscript (.Name x p1) a p2] X.env).map (·.2)=[assign (.Subscript (.Name x p1) a p2) X.env]:=by rfl) (f:PG X (.Subscript (.Name x p1) a p2) (z23 (zo3 i) (uu X a) zC8):=by exact jN (xi rfl (by first|exact Or.inl rfl|exact Or.inr (Or.inl rfl)|exact Or.inr (Or.inr rfl))) zg set_list):
  SvS X O (.Assign [.Subscript (.Name x p1) a p2] e pos::rest) E:=λF B H D m r=>by
 obtain⟨l,xs,h1,h2,h3,n,I⟩:=m.own i ds hi;refine⟨_,zE (oF zg f s hw ha) zP,h F B H _ m λd v H1 z t1 g o=>?_⟩;have m1:=m.kz g t1;refine⟨.ref l,h1,z F B H1 _ m1 λy J G w C b t=>?_⟩;obtain⟨k,j,rfl,A,q⟩:=w;cases t.int_inv;refine⟨l,xs,k,j,rfl,rfl,b _ _ (g _ _ h2 (m.tp.nt n)) (m.tp.nt n),by rw[h3.length];exact A,?_⟩;exact q F B _ D ((m1.kz b C).wrOwn hi h1 (((h3.same (g.gz m.tp)).same (b.gz m1.tp)).set (o.same (b.gz m1.tp)) j)) r
def si (X:Cx)(pat:Pat)(body rest:List An)(E:xr):List Aa->Ev->Prop
 |[],O=>SvS X O rest E
 |d::ds,O=>∃a,pat.bind d O=some a/\SvS X a body {nx:=si X pat body rest E ds,ct:=si X pat body rest E ds,bk:=λb=>SvS X b rest E,rt:=E.rt}
def oG {pat:Pat}(R:PassesOwn (Ah X.prog X.w) X.A X.env X.xe)(V:X.calm=true)(hg:PG X tg (oo X.K pat))(h:EvI X O tg iter λds=>si X pat body rest E ds O)
  (T:∀x,foldedSetIterable iter X.env x=pure x:=by intro _;rfl):SvS X O (.For tg iter body [] pos::rest) E:=λF B H D m r=>by
 refine⟨_,zE (zO5 R V om hg zP T) zP,h F B H _ m λds J H1 Y t1 Z C=>?_⟩;have m1:=m.kz Z t1;have v:mh (F.up (Gz F O B H1)) E D:=r.up;refine⟨λi n j H'=>n=ds.length-i/\i<=ds.length/\∃b,M (F.up (Gz F O B H1)) b j H'/\si X pat body rest E (ds.drop i) b,⟨ds.length,by simp,z94 _,O,m1.up,Y⟩,?_⟩;rintro i n j H' ⟨rfl,hi,b,t,lw⟩;obtain⟨N,S⟩:=C i H' _ (m1.upold t);by_cases d:i<ds.length
 .have hd:=z78 d;rw[yc6 d]at lw;obtain⟨L,W,body⟩:=lw;obtain⟨go,Q⟩:=N _ hd;refine .inr ⟨go,λg l=>∃b,M (F.up (Gz F O B H1)) b g l/\si X pat _ rest E (ds.drop (i+1)) b,λg l ⟨s,P,U⟩=>⟨ds.length-(i+1),(om0 d),rfl,d,s,P,U⟩,λx I y=>?_⟩;obtain⟨k,G⟩:=Q x I y;exact oT W (t.kz (Kz.of_same k) (t.tp.same k)) (G λa o _ e=>t.fresh e) λz m4=>body _ z I _ m4 ⟨λf σ2 u m2 q=>⟨f,m2,q⟩,v.rt,λf σ2 u m2 q=>q _ σ2 u D m2 v,λf σ2 u m2 q=>⟨f,m2,q⟩⟩
 .have e:=(yk5 hi (yk0 d));subst e;rw[ym0]at lw;exact .inl ⟨S (z82 _),lw _ j H' D t v⟩
def zC {pat:Pat}{ds:List Aa}(P:Nat->Ev->Prop)(h0:P 0 O)(j:∀i d O,ds[i]?=some d->P i O->∃a,pat.bind d O=some a/\SvS X a body {nx:=P (i+1),ct:=P (i+1),bk:=λg=>SvS X g rest E,rt:=E.rt})
  (hd:∀O,P ds.length O->SvS X O rest E):si X pat body rest E ds O:=by
 have key:∀n i O,n=ds.length-i->i<=ds.length->P i O->si X pat body rest E (ds.drop i) O:=by
  intro n
  induction n with
  |zero=>
   intro i O hn hi p;have e:=(om5 hn hi);subst e;rw[ym0];exact hd O p
  |succ n h=>
   intro i O hn hi p;have f:=(om6 hn);rw[yc6 f];obtain⟨a,e,b⟩:=j i ds[i] O (z78 f) p;exact⟨a,e,b.imp (λO p=>h (i+1) O (om7 hn) f p) (λ_ z=>z) (λ_ z=>z) (λO p=>h (i+1) O (om7 hn) f p)⟩
 exact key _ 0 O rfl (z94 _) h0
end
end
section
variable {P:Ag}{w:Ak}{K:Ae}{mg:Str->Option Ab}{base:Ao}
theorem M.start {F:Fr}{N:List Str}{vs:List V}{as:List A}{H:Hp}(e:F.H0=H)(t:zH F H)(o:∀x,F.O0 x->∃u,H x=some u/\wN u)(k:yo F (sub (λx=>¬F.O0 x) H) vs as):
  M F (as.map some++List.replicate (N.length-as.length) none) (L2.start N vs) H:=by
 have g:∀{i:Nat} {a:A},(as.map some++List.replicate (N.length-as.length) none)[i]?=some (some a)->as[i]?=some a:=λ{i a} h=>by
  rcases ye1 i as.length with z|z
  .rw[ye4 (by rw[z77];exact z),z88,z98]at h;obtain⟨b,h1,h2⟩:=h;cases h2;exact h1
  .rw[ye7 (by rw[z77];exact z),yl5]at h;split at h<;>cases h
 have at':∀{vs:List V} {as:List A} {i:Nat} {a:A},yo F (sub (λx=>¬F.O0 x) H) vs as->as[i]?=some a->∃v,vs[i]?=some v/\fq F (sub (λx=>¬F.O0 x) H) v a:=by
  intro vs as i a h
  induction h generalizing i with
  |nil=>intro e;simp at e
  |cons h r p=>
   intro e;cases i with
   |zero=>simp at e;subst e;exact⟨_,rfl,h⟩
   |succ i=>obtain⟨v,h1,h2⟩:=p (by simpa using e);exact⟨v,by simpa using h1,h2⟩
 have n:∀{i:Nat} {v:V},vs[i]?=some v->(L2.start N vs)[i]?=some (some v):=λ{i v} h=>by
  unfold L2.start;rw[ye4 (by rw[z77];exact((z81.mp h).1)),z88,h];rfl
 have no:∀(i:Nat) a,(as.map some++List.replicate (N.length-as.length) none)[i]?=some (some a)->(∃d,a=.dat d)\/a=.tape:=λi a z=>by
  obtain⟨v,_,h⟩:=at' k (g z);cases a with
  |dat d=>exact .inl ⟨d,rfl⟩
  |tape=>exact .inr rfl
  |_=>exact h.elim
 have y:zt (sub (λx=>¬F.O0 x) H) (Gz F (as.map some++List.replicate (N.length-as.length) none) (L2.start N vs) H):=zu λa o h e=>⟨λz=>z.elim h λl=>by
  obtain⟨i,b,s,e1,_,f⟩:=l;rcases no i b e1 with⟨d,rfl⟩|rfl
  .exact f.elim
  .exact f.elim,e⟩
 refine⟨by unfold L2.start;simp[k.length],λi a s e1 m=>?_,λi j a b s t x e1 _ _ _ f=>?_,λi r q z=>(by rcases no i _ z with⟨d,w⟩|w<;>cases w),t,λx o' h _=>by rw[<-e];exact h,o⟩
 .obtain⟨v,h1,h2⟩:=at' k (g e1);rw[n h1]at m;cases m;rcases no i a e1 with⟨d,rfl⟩|rfl
  .exact⟨v,rfl,AV.same y h2⟩
  .obtain⟨t',b,c,h3,rfl⟩:=h2;exact⟨t',b,c,h3,rfl⟩
 .rcases no i a e1 with⟨d,rfl⟩|rfl
  .exact f.elim
  .exact f.elim
def fnA {x qual:Str}{st:An}{f:Ad}{fd:Ap}{N ps:List Str}{k:Nat}{φ:List A->(A->Prop)->Prop}(G:Fun K x qual st f fd)(S:zZ N ps (zh st))(hlen:∀as Q,φ as Q->as.length=ps.length)
  (c:∀(cdv:Ab) (d:Am) (outer:List Ar) (s:Ac) (H:Hp) (E:XK) (as:List A) (Q:A->Prop),zM k (d.deeper (envOfC qual (zh st) s.heap.objs.size f cdv))->φ as Q->
   SvS (vM CX0 P w K mg base N qual (zh st) f cdv d outer s H E).nox (as.map some++List.replicate (N.length-as.length) none) (zw st) {nx:=λ_=>Q (.dat .none),rt:=Q}):yM P w K mg base CX0 (k+1) f fd ps (spA φ):=by
 refine G.ok S (λvs H Q E h=>?_) (λcdv d outer s H vs l E hr h=>?_)
 .obtain⟨F,as,i,_,_,_,g,b,_⟩:=h;rw[g.length,hlen as _ b]
 .obtain⟨F,as,i,e,t,o,g,b,j⟩:=h;exact c cdv d outer s H E as i hr b F _ H _ (M.start e t o g) ⟨λO B H' m q=>j _ _ _ q ⟨m.tp,m.keep,.non⟩,λa v H' r q=>j a v H' q r,λ_ _ _ _ z=>z.elim,λ_ _ _ _ z=>z.elim⟩
end
section
variable {X:Cx}{pins:List (Ad×Obj)}{B:St}{H:Hp}{s:Ac}{h':Ao}
def Inv.turnL {t':Nat}{ch:List Ad}(I:Inv X pins B H s)(k:∀b o,b∉ch->s.heap.get? b=some o->h'.get? b=some o)(hf:∀b∈ch,xq X pins H b):Inv X pins B H {s with heap:=h',toks:=t'}:=by
 have d:∀b u,H b=some u->b∉ch:=λb u e z=>by rw[(hf b z).1]at e;cases e
 refine I.step (λb hb=>?_) (λb o _ _ a e _=>k b o a e) (λb o _ _ a e _=>⟨o.slots,k b o a e⟩) (λ_ _ _ _ n=>n)
  (λb o a e=>⟨o,k b o a e⟩) (λ_ _ e=>e) (λ_ _ _ e=>e) (λb ps e=>⟨#[],by rw[e];simp⟩) (λm hm=>?_) (λb u e=>?_) I.bare
 .obtain⟨_,f1,_,f,f4,h⟩:=hf b hb;exact⟨f,f1,f4,h⟩
 .obtain⟨o,es,ep,g,r⟩:=hm;exact⟨o,es,ep,k _ o (λz=>(hf _ z).2.1 rfl) g,r⟩
 .refine(I.hok b u e).stay (λc v a q=>k c v ?_ q) (λ_ q=>q) λ_ _ q=>q;rcases a with z|z
  .rw[z];exact d b u e
  .exact d c _ z
def Inv.turnLay {t':Nat}{ch:List Ad}{T:Ad}{o:HO}(I:Inv X pins B H s)(k:∀b o,b∉ch->s.heap.get? b=some o->h'.get? b=some o)(hf:∀b∈ch,xq X pins H b)(f:s.heap.objs.size<=T)(new:yn X.prog X.w (upd H T o) h' T o):
  Inv X pins B (upd H T o) {s with heap:=h',toks:=t'}:=by
 have d:∀b u,H b=some u->b∉ch:=λb u e z=>by rw[(hf b z).1]at e;cases e
 have hn:=I.hok.fresh f;have lt:∀{b:Ad} {u:Obj},s.heap.get? b=some u->b≠T:=λe=>z96 (z83 (z90 e) f);refine I.step (λb hb=>?_) (λb o _ _ a e _=>k b o a e) (λb o _ _ a e _=>⟨o.slots,k b o a e⟩) (λb u _ e n=>by rw[zc (lt e)];exact n)
  (λb o a e=>⟨o,k b o a e⟩) (λb xs e=>by rw[zc (zk e hn)];exact e) (λb u xs e=>by rw[zc (zk e hn)];exact e) (λb ps e=>⟨#[],by rw[zc (zk e hn),e];simp⟩) (λm hm=>?_) (λb u e=>?_) I.bare
 .obtain⟨_,f1,_,g,f4,i⟩:=hf b hb;exact⟨g,f1,f4,i⟩
 .obtain⟨o,es,ep,h,r⟩:=hm;exact⟨o,es,ep,k _ o (λz=>(hf _ z).2.1 rfl) h,r⟩
 .by_cases hb:b=T
  .subst hb;rw[zi]at e;cases e;exact new
  .rw[zc hb]at e;refine(I.hok b u e).stay (λc v a q=>k c v ?_ q) (λc q=>by rw[zc (zk q hn)];exact q) λc xs q=>by rw[zc (zk q hn)];exact q
   rcases a with z|z
   .rw[z];exact d b u e
   .exact d c _ z
end
def uR {a b:Nat}(h:a<b):(a:Ad)≠b:=z96 h
def aP {a b:Nat}(h:b<a):(a:Ad)≠b:=yk4 h
def fu (n l1 l2:Nat)(h1:l1<n)(h2:l2<n):ZipApart (n+4) (n+2) (n+3) n (n+1) l1 l2 where
 TIz:=uR (by lia)
 TOz:=uR (by lia)
 i1z:=uR (by lia)
 i2z:=uR (by lia)
 TITO:=uR (by lia)
 TIi1:=aP (by lia)
 TIi2:=aP (by lia)
 TOi1:=aP (by lia)
 TOi2:=aP (by lia)
 i12:=uR (yd7 _)
 l1z:=uR (z83 h1 (ya0 _ _))
 l1TO:=uR (z83 h1 (ya0 _ _))
 l1i1:=uR (h1)
 l1i2:=uR (z83 h1 (ya0 _ _))
 l2z:=uR (z83 h2 (ya0 _ _))
 l2TO:=uR (z83 h2 (ya0 _ _))
 l2i1:=uR (h2)
 l2i2:=uR (z83 h2 (ya0 _ _))
def Itz (K:Ae)(l1 l2:Ad):It:=
 ⟨λi H=>∃xs ys x y,SqL K H l1 xs/\SqL K H l2 ys/\xs[i]?=some x/\ys[i]?=some y,
  λi H v H'=>∃T x y,v=.ref T/\H T=none/\H'=upd H T (.tup [x,y])/\(∀xs,SqL K H l1 xs->xs[i]?=some x)/\∀ys,SqL K H l2 ys->ys[i]?=some y,
  λi H=>∃xs ys,SqL K H l1 xs/\SqL K H l2 ys/\(xs.length<=i\/ys.length<=i)⟩
def Ite (K:Ae)(l:Ad):It:=
 ⟨λi H=>∃xs x,SqL K H l xs/\xs[i]?=some x,
  λi H v H'=>∃T x,v=.ref T/\H T=none/\H'=upd H T (.tup [.int i,x])/\∀xs,SqL K H l xs->xs[i]?=some x,
  λi H=>∃xs,SqL K H l xs/\xs.length<=i⟩
def zd8 {P:Ag}{w:Ak}{K:Ae}{elts:List Al}{Y:Nat}{pos:Pos}{z TI TO i1 i2 l1 l2:Ad}(D:ZipApart z TI TO i1 i2 l1 l2):
  Turn P w K (.Tuple elts Y pos) (Itz K l1 l2) [z,TI,TO,i1,i2] z (λi h=>IsZip h z TI TO .none/\IsPair h TI (.ref i1) (.ref i2)/\(∃a b,IsPair h TO a b)/\h.IsListIter i1 l1 i/\h.IsListIter i2 l2 i) where
 mem:=by simp
 obj:=λi h st b hb=>by
  obtain⟨h1,h2,⟨a,c,h3⟩,⟨O,e1,_,d1⟩,⟨S,N,_,d2⟩⟩:=st;simp only[z84,ya5,yc8]at hb;rcases hb with rfl|rfl|rfl|rfl|rfl
  .exact⟨_,h1,λv z=>by cases(z)⟩
  .exact⟨_,h2,λv z=>by cases(z)⟩
  .exact⟨_,h3,λv z=>by cases(z)⟩
  .exact⟨O,e1,λv z=>by rw[d1]at z;cases z⟩
  .exact⟨S,N,λv z=>by rw[d2]at z;cases z⟩
 keep:=λi h h' st k=>by
  obtain⟨h1,h2,⟨a,c,h3⟩,l,n⟩:=st;exact⟨k z (by simp) _ h1,k TI (by simp) _ h2,⟨a,c,k TO (by simp) _ h3⟩,l.at λo e=>k i1 (by simp) o e,n.at λo e=>k i2 (by simp) o e⟩
 item:=by
  intro X C hw F T i pins s B H E I hf st hg;subst C hw F;obtain⟨xs,ys,x,y,d,f,R,hy⟩:=hg;obtain⟨p,j,p1,M⟩:=I.list d;obtain⟨q,g,p2,r⟩:=I.list f;obtain⟨u,hu,ru⟩:=j.get R;obtain⟨v,hv,rv⟩:=g.get hy;obtain⟨h1,h2,⟨a,c,h3⟩,l,n⟩:=st;refine wpAny_pyNext_zip_item D h1 h2 h3 l n p1.isList p2.isList (by simpa using hu) (by simpa using hv) λh' a1 a2 a3 a4 U a6 hk=>⟨_,rfl,wpAny_letOwnedTupleGo_zip a1 λt Z m=>?_⟩;have L:∀b o,b∉[z,TI,TO,i1,i2]->s.heap.get? b=some o->t.get? b=some o:=λb o hb e=>by
   simp only[z84,ya5,yc8,not_or]at hb;exact m.extBut _ _ hb.1 (hk b o hb.1 hb.2.2.1 hb.2.2.2.1 hb.2.2.2.2 e)
  have V:=m.extBut _ _ (yk4 (z90 h1)) U;have J:=I.turnLay (t':=s.toks) (o:=.tup [x,y]) L hf (z82 _) ⟨by show 2<=sizeLine;decide,[u,v],.cons ru (.cons rv .nil),_,V,rfl,0,rfl⟩;refine⟨.ref s.heap.objs.size,_,J,rfl,⟨_,x,y,rfl,I.hok.fresh (z82 _),rfl,λzs G=>by rw[I.list_inj G d];exact R,λzs G=>by rw[I.list_inj G f];exact hy⟩,⟨Z,m.extBut _ _ D.TIz (hk _ _ D.TIz D.TITO D.TIi1 D.TIi2 h2),⟨u,v,m.extBut _ _ D.TOz a2⟩,a3.extBut m.extBut D.i1z,a4.extBut m.extBut D.i2z⟩,λb hb=>?_⟩;rw[zc]
  .exact(hf b hb).1
  .obtain⟨o,e,_⟩:=(show ∃o,s.heap.get? b=some o/\True from by
    simp only[z84,ya5,yc8]at hb;obtain⟨O,e1,_⟩:=l;obtain⟨S,N,_⟩:=n;rcases hb with rfl|rfl|rfl|rfl|rfl
    .exact⟨_,h1,trivial⟩
    .exact⟨_,h2,trivial⟩
    .exact⟨_,h3,trivial⟩
    .exact⟨_,e1,trivial⟩
    .exact⟨_,N,trivial⟩)
   exact z96 (z90 e)
 done:=by
  intro X C hw F T i pins s B H E I hf st hg;subst C hw F;obtain⟨xs,ys,d,f,hl⟩:=hg;obtain⟨p,j,p1,M⟩:=I.list d;obtain⟨q,g,p2,r⟩:=I.list f;obtain⟨h1,h2,⟨a,c,h3⟩,l,n⟩:=st;refine wpAny_pyNext_zip_end (I.ok.hd T) D h1 h2 h3 l n p1.isList p2.isList (hl.imp (λz=>by simp;exact z93 (ya2 j.length.symm) z) λz=>by simp;exact z93 (ya2 g.length.symm) z) λh' hk=>⟨rfl,?_⟩;exact I.turnL (λb o hb e=>by
   simp only[z84,ya5,yc8,not_or]at hb;exact hk b o hb.1 hb.2.2.1 hb.2.2.2.1 hb.2.2.2.2 e) hf
 self:=λA i s Q E st h=>wpAny_pyIter_zip st.1 h
def fJ {P:Ag}{w:Ak}{K:Ae}{elts:List Al}{R:Nat}{pos:Pos}{e it l:Ad}(hne:e≠it):
  Turn P w K (.Tuple elts R pos) (Ite K l) [e,it] e (λi h=>(∃old,IsEnum h e it i old)/\h.IsListIter it l i) where
 mem:=by simp
 obj:=λi h st b hb=>by
  obtain⟨⟨old,h1⟩,⟨t,e1,_,D⟩⟩:=st;simp only[z84,ya5,yc8]at hb;rcases hb with rfl|rfl
  .exact⟨_,h1,λv z=>by cases(z)⟩
  .exact⟨t,e1,λv z=>by rw[D]at z;cases z⟩
 keep:=λi h h' st k=>by
  obtain⟨⟨old,h1⟩,d⟩:=st;exact⟨⟨old,k e (by simp) _ h1⟩,d.at λo q=>k it (by simp) o q⟩
 item:=by
  intro X j hw m C i pins s B H E I hf st hg;subst j hw m;obtain⟨xs,x,a,y⟩:=hg;obtain⟨f,c,p1,p⟩:=I.list a;obtain⟨u,F,M⟩:=c.get y;obtain⟨⟨old,h1⟩,d⟩:=st;refine wpAny_pyNext_enum_item h1 d p1.isList (by simpa using F) hne λh' a1 T L U hk=>⟨_,rfl,wpAny_letOwnedTupleGo_enum a1 λg S r=>?_⟩;have n:∀b o,b∉[e,it]->s.heap.get? b=some o->g.get? b=some o:=λb o hb q=>by
   simp only[z84,ya5,yc8,not_or]at hb;exact r.extBut _ _ hb.1 (hk b o hb.1 hb.2 q)
  have O:=r.extBut _ _ (yk4 (z90 h1)) L;have J:=I.turnLay (t':=s.toks+1) (o:=.tup [.int i,x]) n hf (z82 _) ⟨by show 2<=sizeLine;decide,[.int i s.toks,u],.cons ⟨_,rfl⟩ (.cons M .nil),_,O,rfl,0,rfl⟩;refine⟨.ref s.heap.objs.size,_,J,rfl,⟨_,x,rfl,I.hok.fresh (z82 _),rfl,λzs N=>by rw[I.list_inj N a];exact y⟩,⟨⟨u,by simpa using S⟩,T.extBut r.extBut hne.symm⟩,λb hb=>?_⟩;rw[zc]
  .exact(hf b hb).1
  .obtain⟨o,q,_⟩:=(show ∃o,s.heap.get? b=some o/\True from by
    simp only[z84,ya5,yc8]at hb;obtain⟨t,e1,_⟩:=d;rcases hb with rfl|rfl
    .exact⟨_,h1,trivial⟩
    .exact⟨_,e1,trivial⟩)
   exact z96 (z90 q)
 done:=by
  intro X j hw m C i pins s B H E I hf st hg;subst j hw m;obtain⟨xs,a,G⟩:=hg;obtain⟨f,c,p1,p⟩:=I.list a;obtain⟨⟨old,h1⟩,d⟩:=st;refine wpAny_pyNext_enum_end (I.ok.hd C) h1 d p1.isList (by simp;exact z93 (ya2 c.length.symm) G) λh' hk=>⟨rfl,?_⟩;exact I.turnL (λb o hb q=>by
   simp only[z84,ya5,yc8,not_or]at hb;exact hk b o hb.2 q) hf
 self:=λA i s Q E st h=>by
  obtain⟨⟨old,h1⟩,d⟩:=st;exact wpAny_pyIter_enum h1 h
section
variable {X:Cx}{O:Ev}{elts:List Al}{kk:Nat}{tp p pos:Pos}{a b:Al}
def z73 (K:Ae)(c:TA):TI:=λB H R=>c B H λvs H1=>∃l1 l2,vs=[.ref l1,.ref l2]/\(∃xs,SqL K H1 l1 xs)/\(∃ys,SqL K H1 l2 ys)/\R (Itz K l1 l2) H1
def zI4 {r:TA}(hg:Gl X "zip")(hm:X.mg "zip"=none)(ha:PA X [a,b] r)(C:Af [a,b] X.env=[(false,eval a X.env),(false,eval b X.env)]:=by rfl)(c:Af [b] X.env=[(false,eval b X.env)]:=by rfl):
  PI X (.Tuple elts kk tp) (.Call (.Name "zip" p) [a,b] [] pos) (z73 X.K r):=by
 intro pins s B H R I h;refine Call_ (yZ I hg hm boot_zip (yc9 (thn (ha pos pins s B H _ I h) λus s1 ⟨vs,H1,d,w,M⟩=>?_) (by rw[C,c]) (by rw[c];rfl)));obtain⟨l1,l2,e,⟨xs,j⟩,⟨ys,i⟩,q⟩:=M;subst e;obtain⟨u,v,rfl,A,E⟩:=Vals.two w;cases(A);cases(E);obtain⟨l,y,p1,L⟩:=d.list j;obtain⟨m,F,p2,x⟩:=d.list i;refine call_zip_2 p1.isList p2.isList λh' t G z3 D J N hk=>wpAny_pyIter_zip t ?_;have k:l1<s1.heap.objs.size:=by obtain⟨o,e,_⟩:=p1.isList;exact z90 e
 have g:l2<s1.heap.objs.size:=by obtain⟨o,e,_⟩:=p2.isList;exact z90 e
 refine⟨_,_,_,_,H1,rfl,d.kept λb o e=>hk b o e,zd8 (fu _ _ _ k g),⟨t,G,⟨_,_,z3⟩,D,J⟩,λb hb=>?_,q⟩;simp only[z84,ya5,yc8]at hb;have f:s1.heap.objs.size<=b:=by
  have key:∀n b:Nat,n=s1.heap.objs.size->(b=n+4\/b=n+2\/b=n+3\/b=n\/b=n+1)->n<=b:=λn b _ h=>by lia
  exact key _ _ rfl (by rcases hb with z|z|z|z|z<;>simp[z])
 exact d.fpOk f (d.hok.fresh f)
def zX4 (K:Ae)(c:TA):TI:=λB H R=>c B H λvs H1=>∃l,vs=[.ref l]/\(∃xs,SqL K H1 l xs)/\R (Ite K l) H1
def zy3 {i:TA}(hg:Gl X "enumerate")(hm:X.mg "enumerate"=none)(ha:PA X [a] i)(t:Af [a] X.env=[(false,eval a X.env)]:=by rfl):
  PI X (.Tuple elts kk tp) (.Call (.Name "enumerate" p) [a] [] pos) (zX4 X.K i):=by
 intro pins s B H R I h;refine Call_ (yZ I hg hm boot_enumerate (yc9 (thn (ha pos pins s B H _ I h) λus s1 g=>?_) t rfl));obtain⟨vs,H1,d,l,x⟩:=g;obtain⟨l1,e,⟨xs,f⟩,q⟩:=x;subst e;obtain⟨u,rfl,r⟩:=Vals.one l;cases(r);obtain⟨k,m,p1,w⟩:=d.list f;refine call_enumerate_list p1.isList λh' j v y hk=>wpAny_pyIter_enum j ?_;refine⟨_,_,_,_,H1,rfl,d.kept λb o e=>hk b o e,fJ (aP (yd7 _)),⟨⟨_,j⟩,v⟩,λb hb=>?_,q⟩;simp only[z84,ya5,yc8]at hb;have c:s1.heap.objs.size<=b:=by
  have key:∀n b:Nat,n=s1.heap.objs.size->(b=n+1\/b=n)->n<=b:=λn b _ h=>by lia
  exact key _ _ rfl hb
 exact d.fpOk c (d.hok.fresh c)
noncomputable def cj (ds es:List Aa):List Aa:=List.zipWith (λd e=>.tuple [d,e]) ds es
def zc6 {Q:List Aa->Prop}(hg:Gl X "zip")(hm:X.mg "zip"=none)(h:EvD X O a λx=>EvD X O b λy=>∃ds es,x=.list ds/\y=.list es/\Q (cj ds es))
  (M:Af [a,b] X.env=[(false,eval a X.env),(false,eval b X.env)]:=by rfl) (c:Af [b] X.env=[(false,eval b X.env)]:=by rfl) (l:Af [a,b] X.env=(false,eval a X.env)::Af [b] X.env:=by rfl):
  EvI X O (.Tuple elts kk tp) (.Call (.Name "zip" p) [a,b] [] pos) Q:=λF B H R m k=>by
 refine⟨_,zI4 hg hm (zv zg (zv zg zJ c) l) M c,h F B H _ m λx vx H1 V t1 G J=>?_⟩;have m1:=m.kz G t1;refine V F B H1 _ m1 λy Z w U L E N=>?_;obtain⟨ds,es,rfl,rfl,q⟩:=U;obtain⟨l1,xs,rfl,g1,g2⟩:=(J.same (E.gz m1.tp)).lst_inv;obtain⟨l2,ys,rfl,g3,u⟩:=N.lst_inv;refine⟨l1,l2,rfl,⟨xs,SqL.of (zf g1).2⟩,⟨ys,SqL.of (zf g3).2⟩,k _ _ w q L (G.trans E) λi P p s=>⟨λd hd=>?_,λz=>?_⟩⟩
 .have s1:=SqL.of (K:=X.K) (zf (s _ _ g1)).2;have s2:=SqL.of (K:=X.K) (zf (s _ _ g3)).2;unfold cj at hd;rw[List.getElem?_zipWith]at hd;cases e1:ds[i]? with
  |none=>rw[e1]at hd;cases hd
  |some W=>
   cases e2:es[i]? with
   |none=>rw[e1,e2]at hd;cases hd
   |some Y=>
    rw[e1,e2]at hd;cases hd;obtain⟨C,g,n⟩:=g2.get e1;obtain⟨A,f,t⟩:=u.get e2;refine⟨⟨xs,ys,C,A,s1,s2,g,f⟩,λv H4 y=>?_⟩;obtain⟨T,x,y,rfl,r,rfl,j,hy⟩:=y;have j:=j _ s1;have hy:=hy _ s2;rw[g]at j;cases j;rw[f]at hy;cases hy;refine⟨yg r,λfr=>?_⟩;have I:zt (Gz F O B w) (sub p (upd P T (.tup [C,A]))):=λa o e=>by
     obtain⟨S,D⟩:=zf (s a o e);exact zB S (by rw[zc (zk D r)];exact D)
    exact .tup (zB (fr T _ zi r) zi) (.cons (n.same I) (.cons (t.same I) .nil))
 .refine⟨xs,ys,SqL.of (zf (s _ _ g1)).2,SqL.of (zf (s _ _ g3)).2,?_⟩;unfold cj at z;rw[List.length_zipWith,<-g2.length,<-u.length]at z
  lia
noncomputable def tZ (n:Nat):List Aa->List Aa
 |[]=>[]
 |d::ds=>.tuple [.int n,d]::tZ (n+1) ds
theorem xF :∀{ds:List Aa}{n i:Nat}{d:Aa},(tZ n ds)[i]?=some d->∃e,ds[i]?=some e/\d=.tuple [.int ((n+i:Nat):Int),e]
 |[],n,i,d,h=>by simp[tZ]at h
 |e::ds,n,0,d,h=>by simp[tZ]at h;exact⟨e,rfl,by simp[<-h]⟩
 |e::ds,n,i+1,d,h=>by
  simp only[tZ,yn7]at h;obtain⟨c,h1,h2⟩:=xF h;exact⟨c,by simpa using h1,by rw[h2,Nat.add_assoc,Nat.add_comm 1 i]⟩
theorem xG :∀(ds:List Aa) (n:Nat),(tZ n ds).length=ds.length
 |[],_=>rfl
 |_::ds,n=>by simp[tZ,xG ds (n+1)]
def sT {Q:List Aa->Prop}(hg:Gl X "enumerate")(hm:X.mg "enumerate"=none)(h:EvD X O a λx=>∃ds,x=.list ds/\Q (tZ 0 ds))(n:Af [a] X.env=[(false,eval a X.env)]:=by rfl):
  EvI X O (.Tuple elts kk tp) (.Call (.Name "enumerate" p) [a] [] pos) Q:=λF B H R m k=>by
 refine⟨_,zy3 hg hm (zv zg zJ n) n,h F B H _ m λx E H1 A t1 C u=>?_⟩;obtain⟨ds,rfl,q⟩:=A;obtain⟨l1,xs,rfl,g1,g2⟩:=u.lst_inv;refine⟨l1,rfl,⟨xs,SqL.of (zf g1).2⟩,k _ _ H1 q t1 C λi w p s=>⟨λd hd=>?_,λl=>?_⟩⟩
 .have s1:=SqL.of (K:=X.K) (zf (s _ _ g1)).2;obtain⟨e,he,rfl⟩:=xF hd;obtain⟨r,c,g⟩:=g2.get he;refine⟨⟨xs,r,s1,c⟩,λv G y=>?_⟩;obtain⟨T,x,rfl,j,rfl,f⟩:=y;have f:=f _ s1;rw[c]at f;cases f;refine⟨yg j,λfr=>?_⟩;have D:zt (Gz F O B H1) (sub p (upd w T (.tup [.int i,r]))):=λa o e=>by
   obtain⟨z,t⟩:=zf (s a o e);exact zB z (by rw[zc (zk t j)];exact t)
  refine .tup (zB (fr T _ zi j) zi) (.cons ?_ (.cons (g.same D) .nil));rw[Nat.zero_add];exact .int _
 .refine⟨xs,SqL.of (zf (s _ _ g1)).2,?_⟩;rw[xG,<-g2.length]at l;exact l
end
structure Cal (P:Ag)(w:Ak)(K:Ae)(mg:Str->Option Ab)(base:Ao)(x:Str)(k:Nat)(φ:List A->(A->Prop)->Prop):Prop where
 ex:∃f fd ps,mg x=some (.ref f)/\PySem.W.keepIn K (.ref f)=true/\Binds K fd ps []/\yM P w K mg base CX0 k f fd ps (spA φ)
section
variable {X:Cx}{O:Ev}{e a b:Al}{es:List Al}{pos p:Pos}{Q:Aa->Prop}{k:Nat}{φ:List A->(A->Prop)->Prop}{x:Str}
def vV (C:Cal X.prog X.w X.K X.mg X.base x k φ)(hr:zM k X.A)(hg:Gl X x)(h:EvA X O (e::es) λas=>φ as λa=>Q a.d)
  (c:(x == ("__debug__":Str))=false:=by decide) (he:Af (e::es) X.env=(false,eval e X.env)::Af es X.env:=by rfl) (hpl:(backTo pos (Af es X.env)).any (·.1)=false:=by rfl):EvD X O (.Call (.Name x p) (e::es) [] pos) Q:=by
 obtain⟨f,fd,ps,h1,h2,h3,g⟩:=C.ex;exact zo2 g hr hg h1 h2 h3 h c he hpl
def wA {Q:List Aa->Prop}(C:Cal X.prog X.w X.K X.mg X.base x k φ)(hr:zM k X.A)(hg:Gl X x)(h:EvA X O (e::es) λas=>φ as λa=>∃ds,a=.own ds/\Q ds)
  (c:(x == ("__debug__":Str))=false:=by decide) (he:Af (e::es) X.env=(false,eval e X.env)::Af es X.env:=by rfl) (hpl:(backTo pos (Af es X.env)).any (·.1)=false:=by rfl):EvL X O (.Call (.Name x p) (e::es) [] pos) Q:=by
 obtain⟨f,fd,ps,h1,h2,h3,d⟩:=C.ex;exact zu6 d hr hg h1 h2 h3 h c he hpl
end
section
variable {P:Ag}{w:Ak}{K:Ae}{mg:Str->Option Ab}{base:Ao}
def z72 {x qual:Str}{st:An}{f:Ad}{fd:Ap}{N ps:List Str}{k:Nat}{φ:List A->(A->Prop)->Prop}(G:Fun K x qual st f fd)(hm:mg x=some (.ref f))(hb:Binds K fd ps [])(S:zZ N ps (zh st))(hlen:∀as Q,φ as Q->as.length=ps.length)
  (a:∀(cdv:Ab) (b:Am) (outer:List Ar) (s:Ac) (H:Hp) (E:XK) (as:List A) (Q:A->Prop),zM k (b.deeper (envOfC qual (zh st) s.heap.objs.size f cdv))->φ as Q->
   SvS (vM CX0 P w K mg base N qual (zh st) f cdv b outer s H E).nox (as.map some++List.replicate (N.length-as.length) none) (zw st) {nx:=λ_=>Q (.dat .none),rt:=Q}):Cal P w K mg base x (k+1) φ:=
 ⟨f,fd,ps,hm,G.kp,hb,fnA G S hlen a⟩
theorem Cal.imp {x:Str}{k:Nat}{φ i:List A->(A->Prop)->Prop}(C:Cal P w K mg base x k φ)(h:∀as Q,i as Q->φ as Q):Cal P w K mg base x k i:=by
 obtain⟨f,fd,ps,h1,h2,h3,m⟩:=C.ex;exact⟨f,fd,ps,h1,h2,h3,m.imp λvs H Q E j=>by obtain⟨F,as,l,a,b,c,d,e,g⟩:=j;exact⟨F,as,l,a,b,c,d,h _ _ e,g⟩⟩
def xw :List A->(A->Prop)->Prop:=λas Q=>∃n:Int,as=[.tape,.dat (.int n)]/\0<n/\n<big/\∀v,0<=v->v<n->Q (.dat (.int v))
theorem zk3 {f:Ad}{fd:Ap}{x:Str}(hm:mg x=some (.ref f))(hk:PySem.W.keepIn K (.ref f)=true)(hb:Binds K fd ["_law_tape_here","_law_many"] [])(G:yM P w K mg base CX0 1 f fd ["_law_tape_here","_law_many"] aC):Cal P w K mg base x 1 xw:=by
 refine⟨f,fd,_,hm,hk,hb,G.imp λvs H Q E h=>?_⟩;obtain⟨F,as,p,rfl,t,o,g,⟨n,rfl,h0,h1,hq⟩,k⟩:=h;cases g with
 |cons a1 r=>
  obtain⟨a,b,c,e,rfl⟩:=a1;obtain⟨v,rfl,av⟩:=r.one;cases av.int_inv;refine⟨a,b,c,n,rfl,(t a b c e).1,h0,h1,λz H' i j TA off=>k _ _ _ (hq z i j) ⟨⟨(by
   obtain⟨_,_,_,_,e1,l,_⟩:=(t a b c e).1.ex;exact zv9 t.tab e1 l off),t.ot,λt' m c' d=>?_⟩,λy u hy n=>?_,.int z⟩⟩
  .rw[e]at d;cases d;exact⟨TA,(t a b c e).2⟩
  .rw[off y (n.1 _ _ _ e).1 (n.1 _ _ _ e).2];exact hy
theorem M.tape {H:Hp}{t b c:Ad}{O:Ev}{B:St}(T:yF H t b c)(g:TabAt H)(k:O.length=B.length)(h:∀(i:Nat) a,O[i]?=some (some a)->a=.tape/\B[i]?=some (some (.ref t))):M ⟨H,λx=>x=t\/x=b\/x=c\/rP x,some (t,b,c)⟩ O B H:=by
 refine⟨k,λi a s e1 d=>?_,λi j a b s u x e1 _ _ _ f=>?_,λi r q e=>?_,⟨g,λx z=>.inr (.inr (.inr z)),λt' p c' e=>?_⟩,λ_ _ e _=>e,λx l=>?_⟩
 .obtain⟨rfl,z⟩:=h i a e1;rw[z]at d;cases d;exact⟨t,b,c,rfl,rfl⟩
 .obtain⟨rfl,_⟩:=h i a e1;exact f.elim
 .cases(h i _ e).1
 .cases e;exact⟨T,.inl rfl,.inr (.inl rfl),.inr (.inr (.inl rfl))⟩
 .obtain⟨n,bs,cs,_,e1,d,m,_⟩:=T.ex;rcases l with rfl|rfl|rfl|z
  .exact⟨_,e1,xj⟩
  .exact⟨_,d,xj⟩
  .exact⟨_,m,xj⟩
  .obtain⟨o,h1,h2,_⟩:=oj g z;exact⟨o,h1,h2⟩
def z50 {st:An}{f fT:Ad}{fd g:Ap}{j:List Str}{k:Nat}{p1 p2 p3 p4 p5:Pos}{rest:List An}(G:Fun K "law" "law" st f fd)(S:zZ ("_law_script"::"_law_tape_here"::j) ["_law_script"] (zh st))
  (GT:yM P w K mg base CX0 1 fT g ["_law_script"] (kY K)) (m:mg "_law_tape"=some (.ref fT)) (A:PySem.W.keepIn K (.ref fT)=true) (o:Binds K g ["_law_script"] [])
  (hb:zw st=.Assign [.Name "_law_tape_here" p1] (.Call (.Name "_law_tape" p2) [.Name "_law_script" p3] [] p4) p5::rest) (hgl:(zh st).names.lookup ("_law_tape":Str)=some .globalImplicit) (n:Loc (zh st) "_law_tape_here") (u:Vis (zh st) "_law_script")
  (d:∀(cdv:Ab) (l:Am) (outer:List Ar) (s:Ac) (H:Hp) (E:XK),zM (k+1) (l.deeper (envOfC "law" (zh st) s.heap.objs.size f cdv))->
   SvS (vM CX0 P w K mg base ("_law_script"::"_law_tape_here"::j) "law" (zh st) f cdv l outer s H E).nox (none::some .tape::List.replicate j.length none) rest {nx:=λ_=>False,rt:=λa=>a=.dat (.bool true)}):
  yM P w K mg base CX0 (k+1+1) f fd ["_law_script"] (mz K):=by
 refine G.ok S (λvs H Q E h=>?_) (λcdv l outer s H vs F E hr h=>?_)
 .obtain⟨a,ns,rfl,_⟩:=h;rfl
 .obtain⟨a,ns,rfl,p,hn,D,y⟩:=h;rw[hb];refine xy (λB H1=>∃t b c,yF H1 t b c/\TabAt H1/\B=some (.ref a)::some (.ref t)::List.replicate j.length none)
   ⟨_,wB (i:=1) S.nd rfl n (oU GT (hr.mono (Nat.le_add_left _ _)) hgl m A o .nil qR (zv (xi (i:=0) rfl u) zJ)),?_⟩ ?_
  .refine⟨.ref a,rfl,a,ns,rfl,p,hn,λt b c H' T _ _ _ C=>⟨t,b,c,T,zk5 D C,?_⟩⟩;unfold L2.start;simp[List.replicate_succ]
  .rintro B H1 ⟨t,b,c,T,q,rfl⟩;refine d cdv l outer s H E hr ⟨H1,λx=>x=t\/x=b\/x=c\/rP x,some (t,b,c)⟩ _ H1 _ (M.tape T q (by simp) λi z e=>?_) ⟨λ_ _ _ _ z=>z.elim,λz v H' r e=>?_,λ_ _ _ _ z=>z.elim,λ_ _ _ _ z=>z.elim⟩
   .cases i with
    |zero=>simp at e
    |succ i=>
     cases i with
     |zero=>simp at e;subst e;exact⟨rfl,rfl⟩
     |succ i=>
      simp only[yn7,yl5]at e;split at e<;>cases e
   .cases e;obtain⟨_,_,r⟩:=r;rw[AV.bl_inv r];exact y H'
end
section
variable {Y:Ad->Ac->Hp->List Ad->Cx}{pat:Pat}{ifs:List Al}{elt:Al}{α0:Ev}
def fZ {ds acc:List Aa}{Q:List Aa->Prop}(P:Nat->List Aa->Prop)(h0:P 0 acc)
  (j:∀i d acc,ds[i]?=some d->P i acc->∃a,pat.bind d α0=some a/\∀C s2 f fp,dg (Y C s2 f fp) a ifs λk=>if k=true then ∀C s2 f fp,EvD (Y C s2 f fp) a elt λy=>P (i+1) (acc++[y])else P (i+1) acc)
  (hd:∀acc,P ds.length acc->Q acc):xx Y pat ifs elt α0 ds acc Q:=by
 have key:∀n i acc,n=ds.length-i->i<=ds.length->P i acc->xx Y pat ifs elt α0 (ds.drop i) acc Q:=by
  intro n
  induction n with
  |zero=>
   intro i acc hn hi p;have e:=(om5 hn hi);subst e;rw[ym0];exact hd acc p
  |succ n g=>
   intro i acc hn hi p;have c:=(om6 hn);rw[yc6 c];obtain⟨a,e,b⟩:=j i ds[i] acc (z78 c) p;refine⟨a,e,λC s2 f fp F B H R m h=>b C s2 f fp F B H R m λk H' q=>h k H' ?_⟩;cases k with
   |true=>
    rw[if_pos rfl]at q ⊢;exact λC s2 f fp=>(q C s2 f fp).imp λy p=>g (i+1) _ (om7 hn) c p
   |false=>
    rw[if_neg (by decide)]at q ⊢;exact g (i+1) _ (om7 hn) c q
 exact key _ 0 acc rfl (z94 _) h0
theorem vW {ds acc:List Aa}{Q:List Aa->Prop}(p:Aa->Bool)(f:Aa->Aa)
  (g:∀d∈ds,∃a,pat.bind d α0=some a/\(∀C s2 b fp (Q:Bool->Prop),Q (p d)->dg (Y C s2 b fp) a ifs Q)/\(p d=true->∀C s2 b fp (Q:Aa->Prop),Q (f d)->EvD (Y C s2 b fp) a elt Q))
  (hd:Q (acc++(ds.filter p).map f)):xx Y pat ifs elt α0 ds acc Q:=by
 induction ds generalizing acc with
 |nil=>
  show Q acc;simpa using hd
 |cons d ds h=>
  obtain⟨a,e,h1,h2⟩:=g d z89;refine⟨a,e,λC s2 b fp=>h1 C s2 b fp _ ?_⟩;have c:=λacc=>h (acc:=acc) λd hd=>g d (z87 _ hd);cases hp:p d with
  |true=>
   rw[if_pos rfl];refine λC s2 b fp=>h2 hp C s2 b fp _ (c _ ?_);simpa[yn3,hp]using hd
  |false=>
   rw[if_neg (by decide)];refine c _ ?_;simpa[yn3,hp]using hd
end
def zz3 {ds:List Aa}{v:Int}(h0:0<=v)(h1:v<ds.length):∃d,d∈ds/\atI ds v=some d:=by
 obtain⟨j,rfl⟩:=yj0 h0;have a:=(om9 h1);exact⟨ds[j],ye9 a,yC (z78 a)⟩
def jV (st:An)(env:Ar):execs [st] env=exec st env:=by
 rw[PySem.execs_cons];have:(λf:Flow=>(match f with|.next=>execs [] env|f=>pure f:Sem Flow))=pure:=by
  funext f
  cases f<;>rfl
 exact(congrArg (λg=>exec st env >>= g) this).trans (bind_pure _)
section
variable {X:Cx}{O:Ev}{e a b c:Al}{es rest:List Al}{pos p:Pos}{Q:Aa->Prop}{E:xr}{st:An}{sts sts':List An}
def xP (P:Ev->Prop)(h1:SvS X O [st] {E with nx:=P})(h2:∀d,P d->SvS X d sts E):SvS X O (st::sts) E:=λF B H D m r=>by
 refine xy (λf H'=>∃d,M F d f H'/\P d) ?_ ?_
 .obtain⟨t,p,q⟩:=h1 F B H {D with nx:=λf H'=>∃d,M F d f H'/\P d} m ⟨λd f H' g z=>⟨d,g,z⟩,r.rt,r.bk,r.ct⟩;exact⟨t,λpins s B H D I h=>(by
   have:=p pins s B H D I h;rw[jV]at this;exact this),q⟩
 .rintro f H' ⟨d,g,z⟩;exact h2 d z F f H' D g r
def zL5 {c:Prop}[Decidable c]{a b:List An}(h1:c->SvS X O a E)(h2:¬c->SvS X O b E):SvS X O (if decide c=true then a else b) E:=by
 by_cases h:c
 .rw[ya9 h];exact h1 h
 .rw[ya3 h];exact h2 h
theorem yJ {k:Bool}{a b:List An}(h1:k=true->SvS X O a E)(h2:k=false->SvS X O b E):SvS X O (if k=true then a else b) E:=by
 cases k with
 |true=>exact h1 rfl
 |false=>exact h2 rfl
def gU {i j:Int}:Cmp rEq (.int i) (.int j) (decide (i=j)):=λp H g k R d f h=>by
 cases d.int_inv;cases f.int_inv;refine⟨rfl,?_⟩;rw[show decide (V.int i=V.int j)=decide (i=j) by simp];exact h
def zu0 {i j:Int}:Cmp rNe (.int i) (.int j) (!decide (i=j)):=λp H g k R d f h=>by
 cases d.int_inv;cases f.int_inv;refine⟨rfl,?_⟩;rw[show decide (V.int i=V.int j)=decide (i=j) by simp];exact h
def iV {i j:Str}:Cmp rEq (.str i) (.str j) (decide (i=j)):=λp H g k R d f h=>by
 cases d.str_inv;cases f.str_inv;refine⟨rfl,?_⟩;rw[show decide (V.str i=V.str j)=decide (i=j) by simp];exact h
def jS {op:CmpOp}{r:R2}(t:OpR X (compareOp op) r)(hm:behindInMarks op b=false)(h:EvD X O a λx=>EvD X O b λy=>∃k,Cmp r x y k/\Q (.bool k)):EvD X O (.Compare a [op] [b] pos) Q:=λF B H R m k=>by
 refine⟨_,oI t zg zg hm,h F B H _ m λx o H1 n t1 g j=>?_⟩;have m1:=m.kz g t1;refine n F B H1 _ m1 λy i d l u f s=>?_;obtain⟨b,v,q⟩:=l;exact v _ d o i _ (j.same (f.gz m1.tp)) s (k _ _ d q u (g.trans f) (.bl b))
def zN8 {Q:Bool->Prop}(h:EvD X O a λx=>EvD X O b λy=>∃i j,x=.int i/\y=.int j/\Q (decide (i=j))):EvT X O (.Compare a [.Eq] [b] pos) Q:=
 wC iJ (yi _) (h.imp λx h=>h.imp λy d=>by obtain⟨i,j,e1,f,q⟩:=d;exact⟨_,by subst e1 f;exact gU,q⟩)
def zM4 {Q:Bool->Prop}(h:EvD X O a λx=>EvD X O b λy=>∃i j,x=.str i/\y=.str j/\Q (decide (i=j))):EvT X O (.Compare a [.Eq] [b] pos) Q:=
 wC iJ (yi _) (h.imp λx h=>h.imp λy d=>by obtain⟨i,j,e1,f,q⟩:=d;exact⟨_,by subst e1 f;exact iV,q⟩)
theorem zp2 {p q:Bool}{Q:Bool->Prop}(ha:∀Q:Bool->Prop,Q p->EvT X O a Q)(hb:p=true->∀Q:Bool->Prop,Q q->EvW X O (.BoolOp .And (b::rest) pos) Q)(k:Q (p&&q)):EvW X O (.BoolOp .And (a::b::rest) pos) Q:=by
 refine zl5 (ha _ ?_);cases p with
 |true=>rw[if_pos rfl];exact hb rfl _ (by simpa using k)
 |false=>rw[if_neg (by decide)];simpa using k
def M.park {F:Fr}{B:St}{H H1:Hp}{l:Ad}{o:HO}(m:M F O B H)(d:Kz F H H1)(t1:zH F H1)(v:H l=none)(u:H1 l=some o)(no:wN o):M ⟨F.H0,λx=>F.O0 x\/x=l,F.tp⟩ O B H1:=by
 have m1:=m.kz d t1;have C:zt (Gz F O B H) (Gz ⟨F.H0,λx=>F.O0 x\/x=l,F.tp⟩ O B H1):=λy o z=>by
  obtain⟨j,t⟩:=zf z;refine zB ?_ (d _ _ t (m.tp.nt (ow0 j)));rintro((w|w)|⟨i,a,s,e1,h,f⟩)
  .exact j (.inl w)
  .rw[w,v]at t;cases t
  .exact j (.inr ⟨i,a,s,e1,h,f⟩)
 refine⟨m.len,λi a s e1 h=>(m.ok i a s e1 h).stay C (λx o f e=>?_) rfl λr q _ y=>?_,m.dj,m.xd,t1.to rfl λ_ z=>.inl z,λy o z n=>m1.keep y o z n,λy z=>?_⟩
 .obtain⟨A,D,_⟩:=m.ft e1 h f;exact⟨d _ _ e (m.tp.nt A),λw=>w.elim A (λw=>by rw[w,v]at e;cases e),D⟩
 .have g:=y.kz d t1;exact⟨g.tp,λx z=>.inl (g.o x z),g.ok,g.k⟩
 .rcases z with z|z
  .exact m1.oex y z
  .exact⟨_,by rw[z];exact u,no⟩
end
structure NbT (mg:Str->Option Ab):Prop where
 abs:mg "abs"=none
 list:mg "list"=none
 len:mg "len"=none
 range:mg "range"=none
 min:mg "min"=none
 max:mg "max"=none
 sorted:mg "sorted"=none
 isinstance:mg "isinstance"=none
 int:mg "int"=none
 bool:mg "bool"=none
 str:mg "str"=none
 tuple:mg "tuple"=none
 all:mg "all"=none
 any:mg "any"=none
 repr:mg "repr"=none
 zip:mg "zip"=none
 enumerate:mg "enumerate"=none
 reversed:mg "reversed"=none
 sum:mg "sum"=none
def ve {X:Cx}{K:Ae}{es:List Al}{k:Nat}{t:TGs}{n:Nat}{pos:Pos}(b:X.K=K)(c:X.calm=true)(h:PGs X es t)
  (hn:(assignEach es X.env).length=n:=by rfl) (a:(assignEach es X.env).findIdx? (·.1)=none:=by rfl):PG X (.Tuple es k pos) (aE K n t):=by
 subst b;exact zM7 c h hn a
end L2
namespace SortA
open PySem PySem.W PyProof.Rows
noncomputable def run {O:Type}(lt:Nat->Nat->Bool):KasT O->O
 |.ret a=>a
 |.ask i j k=>run lt (k (lt i j))
theorem run_bind {O β:Type}(lt:Nat->Nat->Bool)(f:O->KasT β):∀t:KasT O,run lt (t.bind f)=run lt (f (run lt t))
 |.ret _=>rfl
 |.ask i j k=>run_bind lt f (k (lt i j))
structure Ord (lt:Nat->Nat->Bool):Prop where
 irr:∀a,lt a a=false
 tr:∀a b c,lt b a=false->lt c b=false->lt c a=false
 asy:∀a b,lt a b=true->lt b a=false
noncomputable abbrev g (p:Array Nat)(i:Nat):Nat:=p.getD i 0
def Up (lt:Nat->Nat->Bool)(p:Array Nat)(m:Nat):Prop:=∀i j,i<=j->j<m->lt (g p j) (g p i)=false
def Down (lt:Nat->Nat->Bool)(p:Array Nat)(m:Nat):Prop:=∀i j,i<=j->j<m->lt (g p i) (g p j)=false
def zi4 {p q:Array Nat}{i j:Nat}(h:p[i]?=q[j]?):g p i=g q j:=by
 unfold g;rw[Array.getD_eq_getD_getElem?,Array.getD_eq_getD_getElem?,h]
variable {lt:Nat->Nat->Bool}
def Up.succ (O:Ord lt){p:Array Nat}{m:Nat}(h:Up lt p m)(hm:0<m)(e:lt (g p m) (g p (m-1))=false):Up lt p (m+1):=λi j a c=>by
 by_cases e1:j<m
 .exact h i j a e1
 .have d:=(yk5 (yj3 c) (yk0 e1));subst d;by_cases b:i=j
  .subst b;exact O.irr _
  .exact O.tr _ _ _ (h i (j-1) (zG2 a b) (qE hm)) e
def Down.succ (O:Ord lt){p:Array Nat}{m:Nat}(h:Down lt p m)(hm:0<m)(e:lt (g p (m-1)) (g p m)=false):Down lt p (m+1):=λi j a c=>by
 by_cases e1:j<m
 .exact h i j a e1
 .have d:=(yk5 (yj3 c) (yk0 e1));subst d;by_cases b:i=j
  .subst b;exact O.irr _
  .exact O.tr _ _ _ e (h i (j-1) (zG2 a b) (qE hm))
def zJ6 (O:Ord lt)(p:Array Nat):Up lt p 1:=λi j a b=>by rw[((zA9 b a)),((zC5 b))];exact O.irr _
theorem tG (O:Ord lt)(p:Array Nat):∀(f n:Nat),0<n->Up lt p n->n<=run lt (kas_asc p f n)/\run lt (kas_asc p f n)<=n+f/\Up lt p (run lt (kas_asc p f n))/\
  (run lt (kas_asc p f n)<n+f->lt (g p (run lt (kas_asc p f n))) (g p (run lt (kas_asc p f n)-1))=true)
 |0,n,_,h=>⟨z82 _,z82 _,h,λz=>absurd z (yd4 _)⟩
 |f+1,n,hn,h=>by
  show n<=run lt ((λc=>if c=true then KasT.ret n else kas_asc p f (n+1)) (lt (p.getD n 0) (p.getD (n-1) 0)))/\_;cases e:lt (p.getD n 0) (p.getD (n-1) 0)with
  |true=>
   have i:run lt (kas_asc p (f+1) n)=n:=by
    show run lt ((λc=>if c=true then KasT.ret n else kas_asc p f (n+1)) (lt (p.getD n 0) (p.getD (n-1) 0)))=n;rw[e];rfl
   rw[i];exact⟨z82 _,(ya0 _ _),h,λ_=>e⟩
  |false=>
   have i:run lt (kas_asc p (f+1) n)=run lt (kas_asc p f (n+1)):=by
    show run lt ((λc=>if c=true then KasT.ret n else kas_asc p f (n+1)) (lt (p.getD n 0) (p.getD (n-1) 0)))=_;rw[e];rfl
   rw[i];obtain⟨a,b,c,d⟩:=tG O p f (n+1) (yq8 _) (h.succ O hn e);exact⟨by show n<=run lt (kas_asc p f (n+1));exact z93 (ya0 _ _) a,(gg b),c,λz=>d (by lia)⟩
def sk {p:Array Nat}{i j:Nat}(a:j<=p.size)(k:Nat):g (kas_rev p i j) k=if i<=k/\k<j then g p (i+j-1-k)else g p k:=by
 have h:=getElem?_mirror_all (i:=i) a k;split
 .rename_i c;rw[if_pos c]at h;exact zi4 h
 .rename_i c;rw[if_neg c]at h;exact zi4 h
def xI (p:Array Nat)(i j:Nat):(kas_rev p i j).size=p.size:=mirror_size _ _ _ _
def yU (p:Array Nat)(i j:Nat):(kas_rev p i j).Perm p:=mirror_perm _ _ _ _
def Eqv (lt:Nat->Nat->Bool)(a b:Nat):Prop:=lt a b=false/\lt b a=false
def Down.eqv (O:Ord lt){p q:Array Nat}{n:Nat}(h:Down lt p n)(e:∀k,k<n->Eqv lt (g q k) (g p k)):Down lt q n:=λi j a b=>
 O.tr _ _ _ (O.tr _ _ _ (e j b).2 (h i j a b)) (e i (ya7 a b)).1
def Last (lt:Nat->Nat->Bool)(p:Array Nat)(n q:Nat):Prop:=∀a b,n<=a+(q+1)->a<n->n<=b+(q+1)->b<n->lt (g p a) (g p b)=false
def rev_last (O:Ord lt){p:Array Nat}{n q:Nat}(hn:n<=p.size)(hq:q<n)(L:Last lt p n q):∀k,k<n->Eqv lt (g (kas_rev p (n-(q+1)) n) k) (g p k):=λk hk=>by
 rw[sk hn];split
 .rename_i c;exact⟨L _ _ (zz7 hk) (zE2 c.2 c.1) (zA8 c.1) hk,L _ _ (zA8 c.1) hk (zz7 hk) (zE2 c.2 c.1)⟩
 .exact⟨O.irr _,O.irr _⟩
theorem sL (O:Ord lt):∀(f:Nat) (p:Array Nat) (n q:Nat),q<n->n+f<=p.size->Down lt p n->Last lt p n q->
  ∃i m j,run lt (kas_desc f p n q)=(i,m,j)/\n<=m/\m<=n+f/\i.size=p.size/\i.Perm p/\j<m/\Down lt i m/\Last lt i m j
 |0,p,n,q,hq,l,h,L=>⟨p,n,q,rfl,z82 _,z82 _,rfl,yj4 _,hq,h,L⟩
 |f+1,p,n,q,hq,l,h,L=>by
  cases e:lt (p.getD n 0) (p.getD (n-1) 0)with
  |true=>
   by_cases u:q > 0
   .have k:run lt (kas_desc (f+1) p n q)=run lt (kas_desc f (kas_rev p (n-(q+1)) n) (n+1) 0):=by
     show run lt ((λc=>if c=true then(if q > 0 then kas_desc f (kas_rev p (n-(q+1)) n) (n+1) 0 else kas_desc f p (n+1) 0)
      else .ask (p.getD (n-1) 0) (p.getD n 0) λd=>if d=true then .ret (p,n,q)else kas_desc f p (n+1) (q+1)) (lt (p.getD n 0) (p.getD (n-1) 0)))=_
     rw[e];show run lt (if q > 0 then _ else _)=_;rw[if_pos u]
    have ev:=rev_last O ((z93 (ya0 _ _) l):n<=p.size) hq L;have h1:=h.eqv O ev;have hn:g (kas_rev p (n-(q+1)) n) n=g p n:=by rw[sk (z93 (ya0 _ _) l),if_neg (zF4)]
    have h2:=h1.succ O (ya7 (z94 _) hq) (by
     rw[hn];exact O.tr _ _ _ (O.asy _ _ e) (ev (n-1) (qE hq)).1)
    obtain⟨i,m,j,a,b,c,o,r,v,s,t⟩:=sL O f (kas_rev p (n-(q+1)) n) (n+1) 0 (yq8 _) (by rw[xI];exact iD l) h2 (λa b h1 h2 h3 w=>by rw[((pA h1 h2)),((pA h3 w))];exact O.irr _);exact⟨i,m,j,k.trans a,(z93 (ya0 _ _) b),(gg c),by rw[o,xI],r.trans (yU _ _ _),v,s,t⟩
   .have k:run lt (kas_desc (f+1) p n q)=run lt (kas_desc f p (n+1) 0):=by
     show run lt ((λc=>if c=true then(if q > 0 then kas_desc f (kas_rev p (n-(q+1)) n) (n+1) 0 else kas_desc f p (n+1) 0)
      else .ask (p.getD (n-1) 0) (p.getD n 0) λd=>if d=true then .ret (p,n,q)else kas_desc f p (n+1) (q+1)) (lt (p.getD n 0) (p.getD (n-1) 0)))=_
     rw[e];show run lt (if q > 0 then _ else _)=_;rw[if_neg u]
    obtain⟨i,m,j,a,b,c,o,r,v,s,t⟩:=sL O f p (n+1) 0 (yq8 _) (iD l) (h.succ O (ya7 (z94 _) hq) (O.asy _ _ e)) (λa b h1 h2 h3 w=>by rw[((pA h1 h2)),((pA h3 w))];exact O.irr _);exact⟨i,m,j,k.trans a,(z93 (ya0 _ _) b),(gg c),o,r,v,s,t⟩
  |false=>
   cases e2:lt (p.getD (n-1) 0) (p.getD n 0)with
   |true=>
    have k:run lt (kas_desc (f+1) p n q)=(p,n,q):=by
     show run lt ((λc=>if c=true then(if q > 0 then kas_desc f (kas_rev p (n-(q+1)) n) (n+1) 0 else kas_desc f p (n+1) 0)
      else .ask (p.getD (n-1) 0) (p.getD n 0) λd=>if d=true then .ret (p,n,q)else kas_desc f p (n+1) (q+1)) (lt (p.getD n 0) (p.getD (n-1) 0)))=_
     rw[e];show run lt ((λd=>if d=true then KasT.ret (p,n,q)else kas_desc f p (n+1) (q+1)) (lt (p.getD (n-1) 0) (p.getD n 0)))=_;rw[e2];rfl
    exact⟨p,n,q,k,z82 _,(ya0 _ _),rfl,yj4 _,hq,h,L⟩
   |false=>
    have k:run lt (kas_desc (f+1) p n q)=run lt (kas_desc f p (n+1) (q+1)):=by
     show run lt ((λc=>if c=true then(if q > 0 then kas_desc f (kas_rev p (n-(q+1)) n) (n+1) 0 else kas_desc f p (n+1) 0)
      else .ask (p.getD (n-1) 0) (p.getD n 0) λd=>if d=true then .ret (p,n,q)else kas_desc f p (n+1) (q+1)) (lt (p.getD n 0) (p.getD (n-1) 0)))=_
     rw[e];show run lt ((λd=>if d=true then KasT.ret (p,n,q)else kas_desc f p (n+1) (q+1)) (lt (p.getD (n-1) 0) (p.getD n 0)))=_;rw[e2];rfl
    have A:Last lt p (n+1) (q+1):=λa b h1 h2 h3 w=>by
     have two:∀a,n+1<=a+(q+1+1)->a<n+1->Eqv lt (g p a) (g p (n-1)):=λa y z=>by
      by_cases x:a=n
      .rw[x];exact⟨e,e2⟩
      .exact⟨L a (n-1) (zF8 y) (zd2 z x) (zD4) (qE hq),L (n-1) a (zD4) (qE hq) (zF8 y) (zd2 z x)⟩
     exact O.tr _ _ _ (two b h3 w).2 (two a h1 h2).1
    obtain⟨i,m,j,a,b,c,o,r,v,s,t⟩:=sL O f p (n+1) (q+1) (Nat.add_lt_add_right hq _) (iD l) (h.succ O (ya7 (z94 _) hq) e2) A;exact⟨i,m,j,k.trans a,(z93 (ya0 _ _) b),(gg c),o,r,v,s,t⟩
def zN3 {p:Array Nat}{n:Nat}(hn:n<=p.size)(h:Down lt p n):Up lt (kas_rev p 0 n) n:=λi j b a=>by
 rw[sk hn,sk hn,if_pos (⟨(z94 _),a⟩),if_pos (⟨(z94 _),(ya7 b a)⟩)];exact h _ _ (by lia) (zG1 a)
def mC (O:Ord lt){p:Array Nat}{n nrem:Nat}(h0:0<n)(hn:n<=nrem)(e:nrem<=p.size)(h:Down lt p n):
  ∃d m,run lt (kas_tail3 n nrem p)=(m,d)/\1<=m/\m<=nrem/\d.size=p.size/\d.Perm p/\Up lt d m:=by
 obtain⟨a,b,c,_⟩:=tG O (kas_rev p 0 n) (nrem-n) n h0 (zN3 (z93 hn e) h);refine⟨kas_rev p 0 n,run lt (kas_asc (kas_rev p 0 n) (nrem-n) n),?_,by lia,(zh7 b hn),xI _ _ _,yU _ _ _,c⟩;unfold kas_tail3;rw[run_bind];rfl
def tW (O:Ord lt){p:Array Nat}{n nrem:Nat}(h0:0<n)(hn:n+1<=nrem)(s:nrem<=p.size)(h:Down lt p (n+1)):
  ∃c m,run lt (kas_descPart n nrem p)=(m,c)/\1<=m/\m<=nrem/\c.size=p.size/\c.Perm p/\Up lt c m:=by
 obtain⟨p1,m1,v,e,a1,a2,d,r,f,q,t⟩:=sL O (nrem-(n+1)) p (n+1) 0 (yq8 _) (by lia) h (λa b h1 h2 h3 u=>by rw[((pA h1 h2)),((pA h3 u))];exact O.irr _);unfold kas_descPart;rw[run_bind,e];dsimp only;split
 .obtain⟨c,m,i,o,g,j,k,l⟩:=mC O (ya7 (z94 _) f) (zh7 a2 hn) (by rw[xI];exact z93 s (ya2 d.symm)) (q.eqv O (rev_last O (by lia) f t));exact⟨c,m,i,o,g,by rw[j,xI,d],(k.trans (yU _ _ _)).trans r,l⟩
 .obtain⟨c,m,i,o,g,j,k,l⟩:=mC O (ya7 (z94 _) f) (zh7 a2 hn) (z93 s (ya2 d.symm)) q;exact⟨c,m,i,o,g,by rw[j,d],k.trans r,l⟩
def aS (O:Ord lt){p:Array Nat}{nrem:Nat}(h0:0<nrem)(l:nrem<=p.size):
  ∃o m,run lt (kas_count nrem p)=(m,o)/\1<=m/\m<=nrem/\o.size=p.size/\o.Perm p/\Up lt o m:=by
 obtain⟨a,b,c,d⟩:=tG O p (nrem-1) 1 (by decide) (zJ6 O p);unfold kas_count;rw[run_bind];generalize run lt (kas_asc p (nrem-1) 1)=n at a b c d;by_cases q:n=nrem
 .rw[if_pos (by rw[q];simp)];exact⟨p,n,rfl,a,(ya2 q),rfl,yj4 _,c⟩
 .rw[if_neg (by simpa using q)];have hd:=d (by lia);by_cases h1:n > 1
  .rw[if_pos h1];cases e:lt (p.getD 0 0) (p.getD (n-1) 0)with
   |true=>
    refine⟨p,n,?_,a,by lia,rfl,yj4 _,c⟩;show run lt ((λc=>if c=true then KasT.ret (n,p)else kas_descPart n nrem (kas_rev p 0 n)) (lt (p.getD 0 0) (p.getD (n-1) 0)))=_;rw[e];rfl
   |false=>
    have all:∀k,k<n->Eqv lt (g p k) (g p 0):=λk hk=>⟨c 0 k (z94 _) hk,O.tr _ _ _ (c k (n-1) (zC6 hk) (zD8 h1)) e⟩;have t:Down lt (kas_rev p 0 n) (n+1):=by
     have h2:Down lt (kas_rev p 0 n) n:=λi j f h=>by
      rw[sk (gc h0 l b),sk (gc h0 l b),if_pos (⟨(z94 _),(ya7 f h)⟩),if_pos (⟨(z94 _),h⟩)];exact O.tr _ _ _ (all _ (by lia)).2 (all _ (zG1 h)).1
     refine h2.succ O (ya7 (z94 _) h1) ?_;rw[sk (gc h0 l b),sk (gc h0 l b),if_pos (by lia),if_neg (zF4)];exact O.tr _ _ _ (O.asy _ _ hd) (O.tr _ _ _ (all (n-1) (zD8 h1)).2 (all _ (by lia)).1)
    obtain⟨o,m,u,y,s,v,x,w⟩:=tW O (nrem:=nrem) (ya7 (z94 _) h1) (by lia) (by rw[xI];exact l) t;refine⟨o,m,?_,y,s,by rw[v,xI],x.trans (yU _ _ _),w⟩;rw[<-u];show run lt ((λc=>if c=true then KasT.ret (n,p)else kas_descPart n nrem (kas_rev p 0 n)) (lt (p.getD 0 0) (p.getD (n-1) 0)))=_;rw[e];rfl
  .rw[if_neg h1];have e1:=(yk5 (yk0 h1) a);subst e1;refine tW O (by decide) (by lia) l ?_;have r:Down lt p 1:=λi j f h=>by rw[((zA9 h f)),((zC5 h))];exact O.irr _
   exact r.succ O (by decide) (O.asy _ _ hd)
theorem rS (O:Ord lt){p:Array Nat}{k:Nat}(U:Up lt p k):∀(f l r:Nat),r<=l+f->l<=r->r<=k->(∀i,i<l->lt (g p k) (g p i)=false)->(∀i,r<=i->i<k->lt (g p k) (g p i)=true)->
  run lt (kas_place p k f l r)<=k/\(∀i,i<run lt (kas_place p k f l r)->lt (g p k) (g p i)=false)/\(∀i,run lt (kas_place p k f l r)<=i->i<k->lt (g p k) (g p i)=true)
 |0,l,r,h1,h2,h3,ha,hb=>by
  show l<=k/\_;exact⟨(z93 h2 h3),ha,λi x y=>hb i (by have:l<=i:=x;lia) y⟩
 |f+1,l,r,h1,h2,h3,ha,hb=>by
  by_cases a:l≥r
  .have b:run lt (kas_place p k (f+1) l r)=l:=by
    show run lt (if l≥r then _ else _)=_;rw[if_pos a];rfl
   rw[b];exact⟨(z93 h2 h3),ha,λi x y=>hb i (z93 a x) y⟩
  .cases e:lt (p.getD k 0) (p.getD ((l+r) / 2) 0)with
   |true=>
    have b:run lt (kas_place p k (f+1) l r)=run lt (kas_place p k f l ((l+r) / 2)):=by
     show run lt (if l≥r then _ else _)=_;rw[if_neg a];show run lt ((λc=>if c=true then kas_place p k f l ((l+r) / 2)else kas_place p k f ((l+r) / 2+1) r) (lt (p.getD k 0) (p.getD ((l+r) / 2) 0)))=_;rw[e];rfl
    rw[b];refine rS O U f l ((l+r) / 2) (by lia) (by lia) (by lia) ha λi x y=>?_;cases e3:lt (g p k) (g p i)with
    |true=>rfl
    |false=>
     have d:=e;rw[(O.tr _ _ _ (U ((l+r) / 2) i x y) e3)]at d;cases d
   |false=>
    have b:run lt (kas_place p k (f+1) l r)=run lt (kas_place p k f ((l+r) / 2+1) r):=by
     show run lt (if l≥r then _ else _)=_;rw[if_neg a];show run lt ((λc=>if c=true then kas_place p k f l ((l+r) / 2)else kas_place p k f ((l+r) / 2+1) r) (lt (p.getD k 0) (p.getD ((l+r) / 2) 0)))=_;rw[e];rfl
    rw[b];exact rS O U f ((l+r) / 2+1) r (by lia) (by lia) h3 (λi hi=>O.tr _ _ _ (U i ((l+r) / 2) (yj3 hi) (by lia)) e) hb
def eV (O:Ord lt){p:Array Nat}{k l:Nat}(hk:k<p.size)(m:l<=k)(U:Up lt p k)(ha:∀i,i<l->lt (g p k) (g p i)=false)(hb:∀i,l<=i->i<k->lt (g p k) (g p i)=true):Up lt (bubble p k (k-l)) (k+1):=by
 have gb:∀i,g (bubble p k (k-l)) i=if i=l then g p k else if l<i/\i<=k then g p (i-1)else g p i:=λi=>by
  have h:=getElem?_bubble hk (k-l) (Nat.sub_le _ _) i;have el:k-(k-l)=l:=by lia
  rw[el]at h;by_cases c:i=l
  .rw[if_pos c]at h ⊢;exact zi4 h
  .rw[if_neg c]at h ⊢;by_cases e:l<i/\i<=k
   .rw[if_pos e]at h ⊢;exact zi4 h
   .rw[if_neg e]at h ⊢;exact zi4 h
 intro i j a b;have gl:g (bubble p k (k-l)) l=g p k:=by rw[gb,if_pos rfl]
 have d:∀i,l<i->i<=k->g (bubble p k (k-l)) i=g p (i-1):=λi x y=>by rw[gb,if_neg (yk4 x),if_pos ⟨x,y⟩]
 have f:∀i,i<l->g (bubble p k (k-l)) i=g p i:=λi x=>by rw[gb,if_neg (z96 x),if_neg (by lia)]
 rcases yr6 i l with hi|hi|hi
 .rw[f i hi];rcases yr6 j l with h|h|h
  .rw[f j h];exact U _ _ (a) (z83 h m)
  .rw[h,gl];exact ha i hi
  .rw[d j h (yj3 b)];exact U _ _ (by lia) (zD2 b h)
 .rw[hi,gl];rcases yr6 j l with h|h|h
  .exact(yd4 _ (z83 h (z93 (ya2 hi.symm) a))).elim
  .rw[h,gl];exact O.irr _
  .rw[d j h (yj3 b)];exact O.asy _ _ (hb (j-1) (zC6 h) (zD2 b h))
 .rw[d i hi (yj3 (ya7 a b)),d j (z83 hi a) (yj3 b)];exact U _ _ (by lia) (by lia)
theorem bC (O:Ord lt):∀(f:Nat) (p:Array Nat) (k:Nat),0<k->k+f<=p.size->Up lt p k->(run lt (kas_bin f p k)).size=p.size/\(run lt (kas_bin f p k)).Perm p/\Up lt (run lt (kas_bin f p k)) (k+f)
 |0,p,k,_,_,U=>⟨rfl,yj4 _,U⟩
 |f+1,p,k,hk,hs,U=>by
  obtain⟨a,b,c⟩:=rS O U k 0 k (Nat.le_add_left _ _) (z94 _) (z82 _) (λi hi=>(yd4 _ (ya7 (z94 _) hi)).elim) (λi x y=>(yd4 _ (z83 y x)).elim);have d:run lt (kas_bin (f+1) p k)=run lt (kas_bin f (bubble p k (k-run lt (kas_place p k k 0 k))) (k+1)):=by
   show run lt ((kas_place p k k 0 k).bind _)=_;rw[run_bind]
  rw[d];obtain⟨x,y,z⟩:=bC O f (bubble p k (k-run lt (kas_place p k k 0 k))) (k+1) (yq8 _) (by rw[bubble_size];exact iD hs) (eV O (by lia) a U b c);have e:k+(f+1)=k+1+f:=zS3;rw[e];exact⟨by rw[x,bubble_size],y.trans (bubble_perm _ _ _),z⟩
def zu5 (O:Ord lt){n:Nat}(h:0<n):(run lt (kas_sort n)).size=n/\(run lt (kas_sort n)).Perm (List.range n).toArray/\Up lt (run lt (kas_sort n)) n:=by
 obtain⟨p,m,e,a,b,c,d,u⟩:=aS O (p:=(List.range n).toArray) h (by simp);unfold kas_sort;rw[run_bind,e];dsimp only;have f:p.size=n:=by rw[c];simp
 by_cases hm:m<n
 .rw[if_pos hm];have em:max m 1=m:=by lia
  rw[em];obtain⟨x,y,z⟩:=bC O (n-m) p m (by lia) (by lia) u;refine⟨by rw[x,f],y.trans d,?_⟩;have e:m+(n-m)=n:=by lia
  rw[e]at z;exact z
 .rw[if_neg hm];have e:=(yk5 b (yk0 hm));subst e;exact⟨f,d,u⟩
end SortA
namespace SortA
open PySem PySem.W PyProof.Rows
def xN {O:Type}(n:Nat)(P:O->Prop):KasT O->Prop
 |.ret a=>P a
 |.ask i j k=>i<n/\j<n/\∀b,xN n P (k b)
theorem xN.bind {O β:Type}{n:Nat}{P:O->Prop}{d:β->Prop}{f:O->KasT β}(h2:∀a,P a->xN n d (f a)):∀t:KasT O,xN n P t->xN n d (t.bind f)
 |.ret a,h=>h2 a h
 |.ask i j k,⟨a,b,c⟩=>⟨a,b,λx=>xN.bind h2 (k x) (c x)⟩
def Bd (n:Nat)(p:Array Nat):Prop:=∀x∈p,x<n
def Bd.get {n:Nat}{p:Array Nat}(h:Bd n p)(hn:0<n)(i:Nat):p.getD i 0<n:=by
 by_cases hi:i<p.size
 .have e:p.getD i 0=p[i]:=by simp[Array.getD,hi]
  rw[e];exact h _ (Array.getElem_mem hi)
 .have e:p.getD i 0=0:=by simp[Array.getD,hi]
  rw[e];exact hn
def Bd.perm {n:Nat}{p q:Array Nat}(h:Bd n p)(e:q.Perm p):Bd n q:=λx a=>h x (e.mem_iff.mp a)
theorem rF {n:Nat}{p:Array Nat}(B:Bd n p)(hn:0<n):∀f k,xN n (λ_=>True) (kas_asc p f k)
 |0,_=>trivial
 |f+1,k=>⟨B.get hn _,B.get hn _,λb=>by
  cases b with
  |true=>exact trivial
  |false=>exact rF B hn f (k+1)⟩
theorem vL {n:Nat}(hn:0<n):∀f (p:Array Nat) k q,Bd n p->xN n (λr:Array Nat×Nat×Nat=>Bd n r.1) (kas_desc f p k q)
 |0,_,_,_,B=>B
 |f+1,p,k,q,B=>⟨B.get hn _,B.get hn _,λb=>by
  cases b with
  |true=>
   show xN n _ (if q > 0 then _ else _);split
   .exact vL hn f _ _ _ (B.perm (yU _ _ _))
   .exact vL hn f _ _ _ B
  |false=>
   refine⟨B.get hn _,B.get hn _,λb=>?_⟩;cases b with
   |true=>exact B
   |false=>exact vL hn f _ _ _ B⟩
def rW {n:Nat}{p:Array Nat}(B:Bd n p)(hn:0<n)(m r:Nat):xN n (λr:Nat×Array Nat=>Bd n r.2) (kas_tail3 m r p):=by
 unfold kas_tail3;refine xN.bind (λa _=>?_) _ (rF (B.perm (yU _ _ _)) hn _ _);exact B.perm (yU _ _ _)
def vN {n:Nat}{p:Array Nat}(B:Bd n p)(hn:0<n)(m r:Nat):xN n (λr:Nat×Array Nat=>Bd n r.2) (kas_descPart m r p):=
 xN.bind (λa ha=>by
  split
  .exact rW (Bd.perm ha (yU _ _ _)) hn _ _
  .exact rW ha hn _ _) _ (vL hn _ _ _ _ B)
def ku {n:Nat}{p:Array Nat}(B:Bd n p)(hn:0<n)(r:Nat):xN n (λr:Nat×Array Nat=>Bd n r.2) (kas_count r p):=
 xN.bind (λa _=>by
  split
  .exact B
  .split
   .refine⟨B.get hn _,B.get hn _,λb=>?_⟩;cases b with
    |true=>exact B
    |false=>exact vN (B.perm (yU _ _ _)) hn _ _
   .exact vN B hn _ _) _ (rF B hn _ _)
theorem uh {n:Nat}{p:Array Nat}(B:Bd n p)(hn:0<n)(k:Nat):∀f l r,xN n (λ_=>True) (kas_place p k f l r)
 |0,_,_=>trivial
 |f+1,l,r=>by
  show xN n _ (if l≥r then _ else _);split
  .exact trivial
  .refine⟨B.get hn _,B.get hn _,λb=>?_⟩;cases b with
   |true=>exact uh B hn k f _ _
   |false=>exact uh B hn k f _ _
theorem nZ {n:Nat}(hn:0<n):∀f (p:Array Nat) k,Bd n p->xN n (λ_=>True) (kas_bin f p k)
 |0,_,_,_=>trivial
 |f+1,p,k,B=>xN.bind (λl _=>nZ hn f _ _ (B.perm (bubble_perm _ _ _))) _ (uh B hn k _ _ _)
def dY {n:Nat}(hn:0<n):xN n (λ_=>True) (kas_sort n):=
 xN.bind (λa ha=>by
  split
  .exact nZ hn _ _ _ ha
  .trivial) _ (ku (λx b=>by simpa using b) hn n)
theorem wp_run {O:Type}{n:Nat}{P:O->Prop}{cmp:Nat->Nat->(Bool->Ac->Prop)->Ac->Prop}{lt:Nat->Nat->Bool}{Q:O->Ac->Prop}{s:Ac}(d:∀i j C,i<n->j<n->C (lt i j) s->cmp i j C s):
  ∀t:KasT O,xN n P t->Q (run lt t) s->t.kasWp cmp Q s
 |.ret _,_,h=>h
 |.ask i j k,⟨a,b,c⟩,h=>d i j _ a b (wp_run d (k (lt i j)) (c _) h)
noncomputable def lx (p q:Int×Int):Bool:=decide (p.1<q.1\/(p.1=q.1/\p.2<q.2))
noncomputable def at2 (ps:List (Int×Int))(i:Nat):Int×Int:=ps.getD i (0,0)
def zQ0 (ps:List (Int×Int)):Ord λi j=>lx (at2 ps i) (at2 ps j) where
 irr:=λa=>by simp[lx]
 tr:=λa b c=>by
  unfold lx;generalize at2 ps a=x;generalize at2 ps b=y;generalize at2 ps c=z;simp only[yj1]
  lia
 asy:=λa b=>by
  unfold lx;generalize at2 ps a=x;generalize at2 ps b=y;simp only[yj1,yg6]
  lia
def jx (ps:List (Int×Int))(h:0<ps.length):∃d:List Nat,run (λi j=>lx (at2 ps i) (at2 ps j)) (kas_sort ps.length)=d.toArray/\d.length=ps.length/\(∀i∈d,i<ps.length)/\(d.map (at2 ps)).Perm ps/\(d.map (at2 ps)).Pairwise (λp q=>lx q p=false):=by
 obtain⟨a,b,c⟩:=zu5 (zQ0 ps) h;generalize run (λi j=>lx (at2 ps i) (at2 ps j)) (kas_sort ps.length)=r at a b c;have e:(List.range ps.length).map (at2 ps)=ps:=by
  apply List.ext_getElem
  .simp
  .intro i h1 h2;simp[at2,h2]
 have k:r.toList.Perm (List.range ps.length):=by
  have:=yp6.mp b;simpa using this
 refine⟨r.toList,by simp,by simpa using a,λi hi=>by simpa using k.mem_iff.mp hi,?_,?_⟩
 .have:=k.map (at2 ps);rw[e]at this;exact this
 .rw[List.pairwise_map,yi1];intro i j hi l f;have h1:j<r.size:=by simpa using l
  have:=c i j (yd3 f) (by rw[<-a];exact h1);have n:g r i=r.toList[i]:=by
   have:i<r.size:=by lia
   simp[g,Array.getD,this]
  have m:g r j=r.toList[j]:=by simp[g,Array.getD,h1]
  rw[n,m]at this;exact this
end SortA
namespace L2
open PySem PySem.Spec PySem.Calls PySem.W PyProof.Rows SortA
section
variable {prog:Ag}{w:Ak}{A:Am}{E:Ab->Ac->Prop}{s:Ac}
def Prs (h:Ao):List Ab->List (Int×Int)->Prop
 |[],[]=>True
 |v::vs,p::ps=>(∃a o t u n,v=.ref a/\h.get? a=some o/\o.cls=.type "tuple"/\o.data=.seq #[.int p.1 t,.int p.2 u] n)/\Prs h vs ps
 |_,_=>False
theorem Prs.len {h:Ao}:∀{vs:List Ab}{ps:List (Int×Int)},Prs h vs ps->vs.length=ps.length
 |[],[],_=>rfl
 |[],_::_,h=>h.elim
 |_::_,[],h=>h.elim
 |_::_,_::_,⟨_,h⟩=>by simp[Prs.len h]
theorem Prs.at {h:Ao}:∀{vs:List Ab}{ps:List (Int×Int)} (i:Nat),Prs h vs ps->i<ps.length->∃a o t u n,vs.getD i Value.none=.ref a/\h.get? a=some o/\o.cls=.type "tuple"/\o.data=.seq #[.int (at2 ps i).1 t,.int (at2 ps i).2 u] n
 |[],[],_,_,hi=>by simp at hi
 |[],_::_,_,h,_=>h.elim
 |_::_,[],_,h,_=>h.elim
 |_::_,_::_,0,⟨x,_⟩,_=>x
 |_::_,_::_,i+1,⟨_,r⟩,hi=>by
  obtain⟨a,o,t,u,n,e,q⟩:=Prs.at i r (by simpa using hi);exact⟨a,o,t,u,n,by simpa using e,q⟩
theorem Prs.tups {h:Ao}:∀{vs:List Ab}{ps:List (Int×Int)},Prs h vs ps->∃fs:List Ab,KatTups h vs fs/\fs.length=ps.length/\∀v∈fs,∃i t,v=.int i t
 |[],[],_=>⟨[],trivial,rfl,λ_ h=>by simp at h⟩
 |[],_::_,h=>h.elim
 |_::_,[],h=>h.elim
 |_::_,p::_,⟨⟨a,o,t,u,n,e,c,d,hd⟩,r⟩=>by
  obtain⟨fs,x,y,z⟩:=Prs.tups r;subst e;refine⟨.int p.1 t::fs,KatTups.cons c d hd (by simp) x,by simp[y],λv b=>?_⟩;rcases z84.mp b with rfl|b
  .exact⟨_,_,rfl⟩
  .exact z v b
def aQ {a b:Ad}{f ob:Obj}{p q:Int×Int}{t u t' g:Tok}{n k:Nat}{Q:Bool->Ac->Prop}(ha:s.heap.get? a=some f)(i:f.data=.seq #[.int p.1 t,.int p.2 u] n)(hb:s.heap.get? b=some ob)(db:ob.data=.seq #[.int q.1 t',.int q.2 g] k)
  (h:Q (lx p q) s):Aj (Ah prog w) A (keyLt' (tuples' true) (.ref a) (.ref b)) Q E s:=by
 refine kat_lt ha i hb db (kat_cons (wpAny_eqBool_int ?_));by_cases e:p.1=q.1
 .have e1:(p.1 == q.1)=true:=by simp[e]
  rw[e1];refine kat_yes (kat_cons (wpAny_eqBool_int ?_));by_cases d:p.2=q.2
  .have c:(p.2 == q.2)=true:=by simp[d]
   rw[c];refine kat_yes (kat_nil ?_);have:lx p q=false:=by simp[lx,e,d]
   rw[this]at h;simpa using h
  .have c:(p.2 == q.2)=false:=by simp[d]
   rw[c];refine kat_no (kat_one _ _ (wpAny_lt_int ?_));have:lx p q=decide (p.2<q.2):=by simp[lx,e]
   rw[this]at h;exact h
 .have e1:(p.1 == q.1)=false:=by simp[e]
  rw[e1];refine kat_no (oneLt_int ?_);have:lx p q=decide (p.1<q.1):=by simp[lx,e]
  rw[this]at h;exact h
def jH {vs:List Ab}{ps:List (Int×Int)}(h2:2<=vs.length)(P:Prs s.heap vs ps){R:Array Nat->Ac->Prop}(hr:∀c:List Nat,c.length=ps.length->(∀i∈c,i<ps.length)->(c.map (at2 ps)).Perm ps->(c.map (at2 ps)).Pairwise (λp q=>lx q p=false)->R c.toArray s):
  Aj (Ah prog w) A (keyKind' vs.toArray) (λd s'=>(kas_sort vs.length).kasWp (kas_ask prog w A d vs) R s') (λ_ _=>False) s:=by
 obtain⟨fs,t,D,hi⟩:=P.tups;have hlen:=P.len;refine kat_kind (T:=.type "int") t (by lia) (λv k=>?_) (by decide) ?_
 .obtain⟨i,t,rfl⟩:=hi v k;exact .now
 .have e:(Value.type "int" != Value.type "tuple")=true:=by decide
  rw[e];obtain⟨c,e1,y,x,z,l⟩:=jx ps (zC1 h2 hlen);rw[hlen];refine wp_run (lt:=λi j=>lx (at2 ps i) (at2 ps j)) (λi j C hi r h=>?_) _ (dY (zC1 h2 hlen)) ?_
  .obtain⟨a,o,t,u,n,f,ha,_,m⟩:=P.at i hi;obtain⟨b,o',t',B,F,g,hb,_,db⟩:=P.at j r;unfold kas_ask;rw[f,g];exact aQ ha m hb db h
  .rw[e1];exact hr c y x z l
def Srt (vs:List Ab)(ps:List (Int×Int))(out:List Ab):Prop:=
 ∃a:List Nat,out=a.map (λi=>vs.getD i Value.none)/\a.length=ps.length/\(∀i∈a,i<ps.length)/\(a.map (at2 ps)).Perm ps/\(a.map (at2 ps)).Pairwise (λp q=>lx q p=false)
def Srt.len {vs:List Ab}{ps:List (Int×Int)}{out:List Ab}(h:Srt vs ps out):out.length=ps.length:=by
 obtain⟨a,rfl,e,_⟩:=h;simp[e]
end
inductive PrV (H:Hp):List V->List (Int×Int)->Prop where
 |nil:PrV H [] []
 |cons {a:Ad}{xs:List V}{p:Int×Int}{ps:List (Int×Int)}:H a=some (.tup [.int p.1,.int p.2])->PrV H xs ps->PrV H (.ref a::xs) (p::ps)
section
variable {X:Cx}{pins:List (Ad×Obj)}{B:St}{H H':Hp}{s:Ac}
theorem PrV.len {xs:List V}{ps:List (Int×Int)}(h:PrV H xs ps):xs.length=ps.length:=by
 induction h with
 |nil=>rfl
 |cons _ _ a=>simp[a]
theorem PrV.keep {xs:List V}{ps:List (Int×Int)}(k:∀a p q,H a=some (.tup [.int p,.int q])->H' a=some (.tup [.int p,.int q]))(h:PrV H xs ps):PrV H' xs ps:=by
 induction h with
 |nil=>exact .nil
 |cons e _ b=>exact .cons (k _ _ _ e) b
theorem PrV.app {xs ys:List V}{ps qs:List (Int×Int)}(h:PrV H xs ps)(h':PrV H ys qs):PrV H (xs++ys) (ps++qs):=by
 induction h with
 |nil=>exact h'
 |cons e _ a=>exact .cons e a
theorem PrV.prs (I:Inv X pins B H s):∀{xs:List V}{ps:List (Int×Int)}{us:List Ab},PrV H xs ps->Vals xs us->Prs s.heap us ps:=by
 intro xs ps us h
 induction h generalizing us with
 |nil=>intro r;cases r;trivial
 |@cons a xs p ps e _ ih=>
  intro r;cases r with
  |cons r d=>
   cases(r);obtain⟨_,c,b,o,f,g,n,hd⟩:=(I.hok a _ e);obtain⟨u,v,rfl,⟨t,rfl⟩,⟨t',rfl⟩⟩:=Vals.two b;exact⟨⟨a,o,t,t',n,rfl,f,g,hd⟩,ih d⟩
theorem kb {xs:List V}{us:List Ab}(r:Vals xs us):∀i x,xs[i]?=some x->RelV x (us.getD i Value.none):=by
 induction r with
 |nil=>intro i x h;simp at h
 |cons e _ a=>
  intro i x h;cases i with
  |zero=>have h':=yb5 (by simpa using h);subst h';exact e
  |succ i=>exact a i x (by simpa using h)
end
end L2
namespace Days
end Days
namespace L2
open PySem PySem.Spec PyProof.Rows Days
section
variable {X:Cx}{O:Ev}{e a b c tg:Al}{pos p:Pos}{Q:Aa->Prop}{E:xr}{sts:List An}
def zx0 {pat:Pat}(hg:PG X tg (oo X.K pat))(h:EvD X O e λd=>∃f,pat.bind d O=some f/\SvS X f sts E)
  (o:swapsWithSole [tg] e pos.line X.env=pure false:=by rfl) (hw:swappedStores [tg] e X.env=pure none:=by rfl) (h1:(assignEach [tg] X.env).map (·.2)=[assign tg X.env]:=by rfl):SvS X O (.Assign [tg] e pos::sts) E:=λF B H D m r=>by
 refine⟨_,zE (oF zg hg o hw h1) zP,h F B H _ m λd v H1 l t1 n j=>?_⟩;obtain⟨f,i,q⟩:=l;exact oT i (m.kz n t1) j λg k=>q F g H1 D k r
end
def zk0 (ds:List Aa):ds.filter (λ_=>true)=ds:=List.filter_eq_self.mpr λ_ _=>rfl
section
variable {X:Cx}{O:Ev}{tg:Al}{pos p:Pos}{E:xr}{sts body:List An}
end
noncomputable def isNone :Aa->Bool
 |.none=>true
 |_=>false
abbrev eqS (d:Aa)(s:Str):Bool:=PyData.eqv d (.str s)
noncomputable abbrev sV :Aa->Bool:=xl 0 1000000000000
noncomputable def qr :Aa->Bool
 |.tuple [.int m,f]=>xl 2 14 (.int m)&&xl 1 (m-1) f
 |_=>false
noncomputable def zU (w v:Aa):Bool:=
 if eqS w "price"=true then isNone v||sV v
 else if(eqS w "come"||eqS w "go")=true then isBool v
 else if(eqS w "least"||eqS w "most")=true then xl 1 14 v
 else if eqS w "deal"=true then isNone v||qr v
 else eqS w "fee"&&sV v
noncomputable def yy :Aa->Bool
 |.tuple [w,a,b,v]=>vn (.tuple [a,b])&&zU w v
 |_=>false
noncomputable abbrev words :List Str:=["price","come","go","least","most","deal","fee"]
noncomputable def z00 (x y z:V):List (Str×V):=we "worth" z (we "last" y (we "first" x []))
structure Cs where
 price:Ad
 come:Ad
 go:Ad
 least:Ad
 most:Ad
 deal:Ad
 fee:Ad
noncomputable def Cs.of (c:Cs)(w:Str):Ad:=
 if w="price" then c.price else if w="come" then c.come else if w="go" then c.go else if w="least" then c.least else if w="most" then c.most else if w="deal" then c.deal else c.fee
structure sH (K:Ae)(C fI fT fE fW:Ad):Prop where
 cl:Cls K C
 nf:yG K C "first"
 nl:yG K C "last"
 nw:yG K C "worth"
 makes:Mk K C fI
 told:Meth K C "told" fT
 tells:Meth K C "tells" fE
 word:Meth K C "word" fW
theorem wq {d:Aa}{s:Str}(h:eqS d s=true):d=.str s:=by
 cases d with
 |str x=>
  rw[eq_of_beq h]
 |_=>simp[PyData.eqv]at h
def mD {w v:Aa}(h:zU w v=true):∃s∈words,w=.str s:=by
 unfold zU at h;split at h
 .rename_i e;exact⟨"price",by simp[words],wq e⟩
 .split at h
  .rename_i e;rcases(yk6 _ _).mp e with e|e
   .exact⟨"come",by simp[words],wq e⟩
   .exact⟨"go",by simp[words],wq e⟩
  .split at h
   .rename_i e;rcases(yk6 _ _).mp e with e|e
    .exact⟨"least",by simp[words],wq e⟩
    .exact⟨"most",by simp[words],wq e⟩
   .split at h
    .rename_i e;exact⟨"deal",by simp[words],wq e⟩
    .rw[yc5]at h;exact⟨"fee",by simp[words],wq h.1⟩
def tP {d:Aa}(h:yy d=true):∃(s:Str) (a b v:Aa),s∈words/\d=.tuple [.str s,a,b,v]:=by
 unfold yy at h;split at h
 .rename_i w a b v;rw[yc5]at h;obtain⟨s,c,rfl⟩:=mD h.2;exact⟨s,a,b,v,c,rfl⟩
 .cases h
section
variable {X:Cx}
end
abbrev vg (C:Ad)(fs:List (Aa×Aa)):Aa:=.dict ((.int (C:Nat),.none)::fs)
noncomputable def rO :List (Aa×Aa)->Str->Option Aa
 |[],_=>none
 |(.str g,d)::r,f=>if f=g then some d else rO r f
 |_::r,f=>rO r f
theorem AVf.get {H:Hp}:∀{fs:List (Str×V)}{ds:List (Aa×Aa)}{f:Str}{d:Aa},AVf H fs ds->rO ds f=some d->∃v,fs.lookup f=some v/\AV H v d
 |_,_,f,d,.nil,e=>by cases e
 |_,_,f,d,.cons (f:=g) h r,e=>by
  rw[ye8];unfold rO at e;by_cases z:f=g
  .subst z;rw[if_pos rfl]at e;cases e;exact⟨_,by simp,h⟩
  .rw[if_neg z]at e;have a:(f == g)=false:=by simpa using z
   rw[a];exact AVf.get r e
theorem AVf.none {H:Hp}{fs:List (Str×V)}{ds:List (Aa×Aa)}{f:Str}(h:AVf H fs ds)(e:rO ds f=Option.none):fs.lookup f=Option.none:=by
 induction h using AVf.ind with
 |nil=>rfl
 |@cons g _ _ _ _ h r ih=>
  rw[ye8];unfold rO at e;by_cases z:f=g
  .subst z;rw[if_pos rfl]at e;cases e
  .rw[if_neg z]at e;have a:(f == g)=false:=by simpa using z
   rw[a];exact ih e
theorem AV.ins_inv {H:Hp}{v:V}{C:Ad}{ds:List (Aa×Aa)}(h:AV H v (vg C ds)):∃a dx fs,v=.ref a/\H a=some (.ins C dx fs)/\AVf H fs ds:=by
 generalize e:vg C ds=d at h;cases h with
 |@ins a C' dx fs ds' h1 h2=>
  injection e with e;injection e with e1 f;have c:(C:Int)=C':=by
   have:=congrArg Prod.fst e1;injection this
  have b:=Int.ofNat.inj c;subst b f;exact⟨a,dx,fs,rfl,h1,h2⟩
 |_=>cases e
section
variable {X:Cx}{O:Ev}{o e:Al}{es:List Al}{pos apos p:Pos}{Q:Aa->Prop}{C:Ad}{f m:Str}
def vb (c:Cls X.K C)(na:yG X.K C f)(h:EvD X O o λx=>∃fs d,x=vg C fs/\rO fs f=some d/\Q d)(hb:attributeBase o f X.env (eval o X.env)=eval o X.env:=by rfl):EvD X O (.Attribute o f pos) Q:=λF B H R m k=>by
 refine⟨_,zR1 zg hb,h F B H _ m λx n H1 i t1 j g=>?_⟩;obtain⟨fs,d,rfl,hf,q⟩:=i;obtain⟨a,dx,l,rfl,h1,h2⟩:=g.ins_inv;obtain⟨v,b,av⟩:=h2.get hf;exact⟨a,C,dx,l,v,rfl,(zf h1).2,c,na,b,k d v H1 q t1 j av⟩
structure xp (P:Ag)(w:Ak)(K:Ae)(mg:Str->Option Ab)(base:Ao)(C:Ad)(m:Str)(k:Nat)(φ:List A->(A->Prop)->Prop):Prop where
 ex:∃f fd ps,Cls K C/\Meth K C m f/\Binds K fd ps []/\yM P w K mg base CX0 k f fd ps (spA φ)
def vD {k:Nat}{φ:List A->(A->Prop)->Prop}{t:Sem Bool}(r:xp X.prog X.w X.K X.mg X.base C m k φ)(hr:zM k X.A)(h:EvD X O o λx=>∃fs,x=vg C fs/\rO fs m=none/\EvA X O (e::es) λas=>φ (.dat (vg C fs)::as) λa=>Q a.d)
  (b:Af (e::es) X.env=(false,eval e X.env)::Af es X.env:=by rfl) (hpl:(backTo pos (Af es X.env)).any (·.1)=false:=by rfl)
  (M:eval (.Call (.Attribute o m apos) (e::es) [] pos) X.env=(do
   let ov <-eval o X.env
   standAt apos.atName
   let(f,first) <-holding [ov] (getMethod ov m t)
   callWith pos f first (backTo pos (Af (e::es) X.env)) (backToKw pos (keywordEach [] X.env))):=by rfl):EvD X O (.Call (.Attribute o m apos) (e::es) [] pos) Q:=λF B H R j y=>by
 obtain⟨f,fd,ps,c,hm,hb,G⟩:=r.ex;refine⟨_,zn5 zg c hm G hr hb .nil qR yK b hpl M,h F B H _ j λx S H1 D t1 l i=>?_⟩;obtain⟨fs,rfl,hf,q⟩:=D;have m1:=j.kz l t1;obtain⟨a,dx,J,rfl,h1,h2⟩:=i.ins_inv;refine⟨a,dx,J,rfl,(zf h1).2,h2.none hf,q F B H1 _ m1 λas vs P I N g s=>?_⟩;have m2:=m1.kz g N;have u:=wF (as:=.dat (vg C fs)::as) (E:=E0) m2 (.cons (i.same (g.gz m1.tp)) s) I λz v H' L n=>by
  obtain⟨g1,g2,g3⟩:=n.back m2;exact y _ v H' L g1 ((l.trans g).trans g2) g3
 exact u
def qv {k:Nat}{φ:List A->(A->Prop)->Prop}{n:Sem Bool}(l:xp X.prog X.w X.K X.mg X.base C m k φ)(hr:zM k X.A)(h:EvD X O o λx=>∃fs,x=vg C fs/\rO fs m=none/\φ [.dat (vg C fs)] λa=>Q a.d)
  (y:eval (.Call (.Attribute o m apos) [] [] pos) X.env=(do
   let ov <-eval o X.env
   standAt apos.atName
   let(f,first) <-holding [ov] (getMethod ov m n)
   callWith pos f first (backTo pos (Af [] X.env)) (backToKw pos (keywordEach [] X.env))):=by rfl):EvD X O (.Call (.Attribute o m apos) [] [] pos) Q:=λF B H R g s=>by
 obtain⟨f,fd,ps,c,hm,hb,G⟩:=l.ex;refine⟨_,ze7 zg c hm G hr hb .nil qR y,h F B H _ g λx I H1 t t1 i b=>?_⟩;obtain⟨fs,rfl,hf,q⟩:=t;have m1:=g.kz i t1;obtain⟨a,dx,D,rfl,h1,h2⟩:=b.ins_inv;refine⟨a,dx,D,rfl,(zf h1).2,h2.none hf,?_⟩;have r:=wF (as:=[.dat (vg C fs)]) (E:=E0) m1 (.cons b .nil) q λz v H' u j=>by
  obtain⟨g1,g2,g3⟩:=j.back m1;exact s _ v H' u g1 (i.trans g2) g3
 exact r
def zn6 (F:Fr)(v:V)(H':Hp)(d:Aa):Prop:=zH F H'/\Kz F F.H0 H'/\AV (sub (λx=>¬F.O0 x/\∀xs,F.H0 x≠some (.lst xs)) H') v d
def EvN (X:Cx)(O:Ev)(e:Al)(Q:Aa->Prop):Prop:=∀(F:Fr) (B:St) (H:Hp) (R:VK),M F O B H->(∀d v H',Q d->zH F H'->Kz F H H'->AV (sub (λx=>¬Ow F O B x/\∀xs,H x≠some (.lst xs)) H') v d->R v H')->uu X e B H R
theorem EvN.d (h:EvN X O e Q):EvD X O e Q:=λF B H R m k=>h F B H R m λd v H' q t z r=>k d v H' q t z (r.same (zu λa o h e=>⟨h.1,e⟩))
def spI (C:Ad)(φ:List A->(A->Prop)->Prop):Sp:=λvs H b _=>∃(F:Fr) (as:List A) (Q:A->Prop) (x dx:Ad) (a:List V) (H1:Hp),vs=.ref x::a/\H1 x=none/\H1 dx=none/\dx≠x/\H=upd (upd H1 dx (.own x)) x (.ins C dx [])/\
 F.H0=H1/\zH F H1/\(∀y,F.O0 y->∃u,H1 y=some u/\wN u)/\yo F (sub (λy=>¬F.O0 y) H1) a as/\φ as Q/\∀d H',Q (.dat d)->zn6 F (.ref x) H' d->b .non H'
structure vp (P:Ag)(w:Ak)(K:Ae)(mg:Str->Option Ab)(base:Ao)(x:Str)(k:Nat)(dvs:List V)(φ:List A->(A->Prop)->Prop):Prop where
 ex:∃C f fd ps ds,mg x=some (.ref C)/\Mk K C f/\Binds K fd ps ds/\Vals dvs ds/\yM P w K mg base CX0 k f fd ps (spI C φ)
def je {F:Fr}{B:St}{H:Hp}{vs:List V}{as:List A}{b:A->Prop}{R:VK}{φ:List A->(A->Prop)->Prop}(m:M F O B H)(k:yo F (Gz F O B H) vs as)(a:φ as b)
  (h:∀d v H',b (.dat d)->zn6 ⟨H,Ow F O B,F.tp⟩ v H' d->R v H') {E:XK} (x dx:Ad) (i:H x=none) (hdx:H dx=none) (hne:dx≠x):spI C φ (.ref x::vs) (upd (upd H dx (.own x)) x (.ins C dx [])) (λv c=>v=.non/\R (.ref x) c) E:=by
 refine⟨⟨H,Ow F O B,F.tp⟩,as,b,x,dx,vs,H,rfl,i,hdx,hne,rfl,rfl,?_,?_,?_,a,λd H' j g=>⟨rfl,h d _ H' j g⟩⟩
 .exact m.tp.to rfl λ_ z=>.inl z
 .exact λy z=>m.owEx z
 .exact yo.to (F:=F) (F':=⟨H,Ow F O B,F.tp⟩) (λ_ _ e=>e) rfl k
def zn6.back {F:Fr}{B:St}{H H1 H':Hp}{v:V}{d:Aa}(m:M F O B H)(b:Kz F H H1)(h:zn6 ⟨H1,Ow F O B,F.tp⟩ v H' d):zH F H'/\Kz F H1 H'/\AV (sub (λx=>¬Ow F O B x/\∀xs,H x≠some (.lst xs)) H') v d:=by
 obtain⟨t,kz,r⟩:=h;refine⟨m.tp.re t rfl,kz,r.same (zu λa o h e=>⟨⟨h.1,λxs z=>h.2 xs (b _ _ z (m.tp.nt (ow0 h.1)))⟩,e⟩)⟩
def zp0 {k:Nat}{φ:List A->(A->Prop)->Prop}{x:Str}(j:vp X.prog X.w X.K X.mg X.base x k [] φ)(hr:zM (k+1) X.A)(hg:Gl X x)(h:EvA X O (e::es) λas=>φ as λa=>Q a.d)
  (b:(x == ("__debug__":Str))=false:=by decide) (he:Af (e::es) X.env=(false,eval e X.env)::Af es X.env:=by rfl) (hpl:(backTo pos (Af es X.env)).any (·.1)=false:=by rfl):EvN X O (.Call (.Name x p) (e::es) [] pos) Q:=λF B H R m l=>by
 obtain⟨C,f,fd,ps,ds,hm,hk,hb,hd,G⟩:=j.ex;cases hd;refine⟨_,zt4 hk G hr hg hm hb .nil qR yK b he hpl,h F B H _ m λas vs H1 n t1 c i=>?_⟩;intro y dx hy hdx hne;rw[ye3];refine je (m.kz c t1) i n (λd v H' q g=>?_) y dx hy hdx hne;obtain⟨g1,g2,g3⟩:=g.back m c;exact l d v H' q g1 (c.trans g2) g3
end
structure zH0 (K:Ae)(x qual:Str)(st:An)(dV:Ab)(f:Ad)(fd:Ap):Prop where
 ex:∃(oc:Ab) (od:Option Ad) (kV doc pm:Ab) (an:Option Ad) (cdv ct:Ab) (osl:Array (Option Ab)),
  fd=PySem.W.fnOf x qual (zT st) (zw st) (zh st) dV kV doc pm an cdv ct/\K.lookup f=some ⟨oc,od,.func fd,osl⟩/\PySem.W.codeIn K cdv qual=true
 kp:PySem.W.keepIn K (.ref f)=true
def zp5 {K:Ae}{x qual:Str}{st:An}{f:Ad}{oc:Ab}{od an:Option Ad}{osl:Array (Option Ab)}{dV kV doc pm cdv ct:Ab}(l:K.lookup f=some ⟨oc,od,.func (PySem.W.fnOf x qual (zT st) (zw st) (zh st) dV kV doc pm an cdv ct),osl⟩)
  (c:PySem.W.codeIn K cdv qual=true) (k:PySem.W.keepIn K (.ref f)=true):zH0 K x qual st dV f (PySem.W.fnOf x qual (zT st) (zw st) (zh st) dV kV doc pm an cdv ct):=⟨⟨oc,od,kV,doc,pm,an,cdv,ct,osl,rfl,l,c⟩,k⟩
section
variable {P:Ag}{w:Ak}{K:Ae}{mg:Str->Option Ab}{base:Ao}
def zW8 {qual:Str}{st:An}{f C:Ad}{dV:Ab}{fd:Ap}{N:List Str}{x:Str}{k:Nat}{φ:List A->(A->Prop)->Prop}{fl:Str}{e:Al}{p1 p2 p3:Pos}(G:zH0 K "__init__" qual st dV f fd)(S:zZ ("self"::x::N) ["self",x] (zh st))(c:Cls K C)(na:yG K C fl)
  (hb:zw st=[.Assign [.Attribute (.Name "self" p1) fl p2] e p3]) (hlen:∀as Q,φ as Q->as.length=1)
  (O:∀(cdv:Ab) (J:Am) (outer:List Ar) (s:Ac) (H:Hp) (E:XK) (as:List A) (Q:A->Prop),zM k (J.deeper (envOfC qual (zh st) s.heap.objs.size f cdv))->φ as Q->
   EvL (vM CX0 P w K mg base ("self"::x::N) qual (zh st) f cdv J outer s H E).nox (none::as.map some++List.replicate N.length none) e λds=>wW ds=true/\Q (.dat (vg C [(.str fl,.list ds)])))
  (a3:∀(cdv:Ab) (J:Am) (outer:List Ar) (s:Ac) (H:Hp) (E:XK),swapsWith e (some (.Attribute (.Name "self" p1) fl p2)) p3.line (vM CX0 P w K mg base ("self"::x::N) qual (zh st) f cdv J outer s H E).nox.env=pure false)
  (hv:Vis (zh st) "self"):yM P w K mg base CX0 (k+1) f fd ["self",x] (spI C φ):=by
 obtain⟨oc,od,kV,doc,pm,an,cdv,ct,osl,rfl,lk,a1⟩:=G.ex;refine zg7 lk a1 S (λvs H Q E h=>?_) λJ outer s H vs Qc E hr h=>?_
 .obtain⟨F,as,Q',y,dx,p,H1,rfl,_,_,_,_,_,_,_,rv,B,_⟩:=h;rw[ya1,rv.length,hlen as _ B];rfl
 .obtain⟨F,as,Q',y,dx,p,H1,rfl,hy,hdx,hne,rfl,rfl,t,o,rv,B,kk⟩:=h;rw[hb];refine⟨_,((wG (nk (xi (i:=0) rfl hv) zg (a3 cdv J outer s _ E))).nox),?_⟩
  let F2:Fr:=⟨F.H0,λz=>F.O0 z\/z=y\/z=dx,F.tp⟩
  have s1:zt F.H0 (upd (upd F.H0 dx (.own y)) y (.ins C dx [])):=λa u q=>by rw[zc (zk q hy),zc (zk q hdx)];exact q
  have R:¬F.O0 y:=λz=>by obtain⟨u,L,_⟩:=o y z;rw[hy]at L;cases L
  have t2:zH F2 (upd (upd F.H0 dx (.own y)) y (.ins C dx [])):=(t.same s1).to rfl λ_ z=>.inl z
  -- the names of the body
  have g:∀{i:Nat} {a:A},(none::as.map some++List.replicate N.length none:Ev)[i]?=some (some a)->∃j,i=j+1/\as[j]?=some a:=λ{i a} h=>by
   cases i with
   |zero=>simp at h
   |succ j=>
    refine⟨j,rfl,?_⟩;have h':(as.map some++List.replicate N.length none:Ev)[j]?=some (some a):=by simpa using h
    rcases ye1 j as.length with z|z
    .rw[ye4 (by rw[z77];exact z),z88,z98]at h';obtain⟨b,h1,h2⟩:=h';cases h2;exact h1
    .rw[ye7 (by rw[z77];exact z),yl5]at h';split at h'<;>cases h'
  have at':∀{vs:List V} {as:List A} {i:Nat} {a:A},yo F (sub (λx=>¬F.O0 x) F.H0) vs as->as[i]?=some a->∃v,vs[i]?=some v/\fq F (sub (λx=>¬F.O0 x) F.H0) v a:=by
   intro vs as i a h
   induction h generalizing i with
   |nil=>intro e;simp at e
   |cons h r ih=>
    intro e;cases i with
    |zero=>simp at e;subst e;exact⟨_,rfl,h⟩
    |succ i=>obtain⟨v,h1,h2⟩:=ih (by simpa using e);exact⟨v,by simpa using h1,h2⟩
  have gv:∀{j:Nat} {v:V},p[j]?=some v->(L2.start ("self"::x::N) (.ref y::p))[j+1]?=some (some v):=λ{j v} h=>by
   unfold L2.start;rw[ye4 (by rw[z77,ya1];exact Nat.add_lt_add_right ((z81.mp h).1) _),z88,yn7,h];rfl
  have no:∀(i:Nat) a,(none::as.map some++List.replicate N.length none:Ev)[i]?=some (some a)->(∃d,a=.dat d)\/a=.tape:=λi a z=>by
   obtain⟨j,_,hj⟩:=g z;obtain⟨v,_,h⟩:=at' rv hj;cases a with
   |dat d=>exact .inl ⟨d,rfl⟩
   |tape=>exact .inr rfl
   |_=>exact h.elim
  have gs:zt (sub (λx=>¬F.O0 x) F.H0) (Gz F2 (none::as.map some++List.replicate N.length none) (L2.start ("self"::x::N) (.ref y::p)) (upd (upd F.H0 dx (.own y)) y (.ins C dx []))):=λa u q=>by
   obtain⟨U,I⟩:=zf q;refine zB ?_ (s1 _ _ I);rintro((z|z|z)|⟨i,b,s,e,_,f⟩)
   .exact U z
   .rw[z,hy]at I;cases I
   .rw[z,hdx]at I;cases I
   .rcases no i b e with⟨d,rfl⟩|rfl
    .exact f.elim
    .exact f.elim
  have m2:M F2 (none::as.map some++List.replicate N.length none) (L2.start ("self"::x::N) (.ref y::p)) (upd (upd F.H0 dx (.own y)) y (.ins C dx [])):=by
   refine⟨by unfold L2.start;simp[rv.length,(hlen as _ B)],λi a s e1 e2=>?_,λi j a b s t x e1 _ _ _ f=>?_,λi r q z=>(by rcases no i _ z with⟨d,w⟩|w<;>cases w),t2,λz u h _=>s1 z u h,λz hz=>?_⟩
   .obtain⟨j,rfl,hj⟩:=g e1;obtain⟨v,h1,h2⟩:=at' rv hj;rw[gv h1]at e2;cases e2;rcases no _ a e1 with⟨d,rfl⟩|rfl
    .exact⟨v,rfl,AV.same gs h2⟩
    .obtain⟨t',b,c,h3,rfl⟩:=h2;exact⟨t',b,c,h3,rfl⟩
   .rcases no i a e1 with⟨d,rfl⟩|rfl
    .exact f.elim
    .exact f.elim
   .rcases hz with q|q|q
    .obtain⟨u,L,hn⟩:=o z q;exact⟨u,s1 _ _ L,hn⟩
    .exact⟨_,by rw[q];exact zi,λ_ q=>by cases q⟩
    .exact⟨_,by rw[q,zc hne];exact zi,λ_ q=>by cases q⟩
  refine O cdv J outer s _ E as Q' hr B F2 _ _ _ m2 λd v H2 qd t3 k3 r3=>?_;obtain⟨l,xs,rfl,m,a4,a2⟩:=r3;obtain⟨a0,qd⟩:=qd;have Z:l≠y:=λz=>by rw[z,zi]at m;cases m
  have Y:l≠dx:=λz=>by rw[z,zc hne,zi]at m;cases m
  have D:F.H0 l=none:=by rw[zc Z,zc Y]at m;exact m
  have T:¬F.O0 l:=λz=>by obtain⟨u,L,_⟩:=o l z;rw[D]at L;cases L
  have X:=k3 _ _ zi (t.nt R);refine⟨.ref y,rfl,y,C,dx,[],rfl,X,c,na,by show 0<1000;decide,?_⟩;refine kk _ _ qd ⟨(t.re t3 rfl).updO R (cp X),λz u h n=>?_,?_⟩
  .rw[zc (zk h hy)];exact k3 _ _ (s1 _ _ h) n
  .refine AV.ins (zB ⟨R,λxs z=>by rw[hy]at z;cases z⟩ zi) (.cons (.lst (zB ⟨T,λxs z=>by rw[D]at z;cases z⟩ (by rw[zc Z];exact a4)) ?_) .nil);refine a2.noL (λa u hno z=>?_) a0;obtain⟨U,I⟩:=zf z;have na:a≠y:=λw=>U.1 (.inl (.inr (.inl w)));refine zB ⟨λw=>U.1 (.inl (.inl w)),λxs w=>?_⟩ (by rw[zc na];exact I);have:H2 a=some (.lst xs):=k3 _ _ (s1 _ _ w) (t.nt λw=>U.1 (.inl (.inl w)));rw[I]at this;cases this;exact hno trivial
end
section
variable {X:Cx}{O:Ev}{e e':Al}{pos:Pos}{E:xr}{sts:List An}
end
def Itv (K:Ae)(a:Ad)(n:Nat):It:=
 ⟨λi H=>∃xs x,SqL K H a xs/\xs.length=n/\i<n/\xs[n-1-i]?=some x,λi H x H'=>H'=H/\∀xs,SqL K H a xs->xs[n-1-i]?=some x,λi H=>n<=i⟩
def zf9 {P:Ag}{w:Ak}{K:Ae}{tg:Al}(a it:Ad)(n:Nat):Turn P w K tg (Itv K a n) [it] it (λi h=>i<=n/\h.IsRevIter it a ((n:Int)-1-(i:Int))) where
 mem:=by simp
 obj:=λi h st b hb=>by
  have e:b=it:=by simpa using hb
  subst e;obtain⟨_,o,e,c,d⟩:=st;exact⟨o,e,λv z=>by rw[d]at z;cases z⟩
 keep:=λi h h' st k=>⟨st.1,st.2.at λo e=>k it (by simp) o e⟩
 item:=by
  intro X g hw j r i pins s B H E I hf st hg;subst g hw j;obtain⟨xs,x,hq,J,hi,q⟩:=hg;obtain⟨t,D,p,L⟩:=I.list hq;obtain⟨u,y,C⟩:=D.get q;obtain⟨f0,f1,f2,l,f4,m⟩:=hf it (by simp);have e1:(n-1-i)=((n-1-i:Nat):Int):=by lia
  have st':=st.2;rw[e1]at st';refine wpAny_pyNext_rev_item st' p.isList (by simpa using y) λh' f sb=>?_;obtain⟨o,e,c,d⟩:=id f;have G:(((n-1-i:Nat):Int)-1)=n-1-((i+1:Nat):Int):=by lia
  rw[G]at f;exact⟨u,rfl,qf e c d (by decide) ⟨x,H,(I.turned (λb o hb e=>(sb.2 b hb).trans e) f0 f1 l f4 m),C,⟨rfl,λys hy=>by rw[I.list_inj hy hq];exact q⟩,⟨hi,f⟩,λb hb=>(hf b hb).1⟩⟩
 done:=by
  intro X g hw j r i pins s B H E I hf st hg;subst g hw j;have hi:=yk5 st.1 hg;obtain⟨f0,f1,f2,l,f4,m⟩:=hf it (by simp);have st':=st.2;rw[show((n:Int)-1-i)=-1 by lia]at st';exact wpAny_pyNext_rev_end (I.ok.hd r) st' λh' F=>⟨rfl,I.turned (λb o hb e=>F b o hb e) f0 f1 l f4 m⟩
 self:=λA i s Q E st h=>wpAny_pyIter_revIter st.2 h
section
variable {X:Cx}{O:Ev}{tg:Al}{p pos:Pos}{a:Al}
def z42 (K:Ae)(b:TA):TI:=λB H R=>b B H λvs H1=>∃l xs,vs=[.ref l]/\SqL K H1 l xs/\R (Itv K l xs.length) H1
def zM8 {k:TA}(hg:Gl X "reversed")(hm:X.mg "reversed"=none)(ha:PA X [a] k)(n:Af [a] X.env=[(false,eval a X.env)]:=by rfl):PI X tg (.Call (.Name "reversed" p) [a] [] pos) (z42 X.K k):=by
 intro pins s B H R I h;refine Call_ (yZ I hg hm boot_reversed (yc9 (thn (ha pos pins s B H _ I h) λus s1 j=>?_) n rfl));obtain⟨vs,H1,f,l,t⟩:=j;obtain⟨l1,xs,e,g,q⟩:=t;subst e;obtain⟨u,rfl,m⟩:=Vals.one l;cases(m);obtain⟨d,i,p1,r⟩:=f.list g;refine call_reversed_list p1.isList ?_;have c:({s1 with heap:=s1.heap.push (revObj l1 ((d.toArray.size:Int)-1))}:Ac).heap.IsRevIter s1.heap.objs.size l1 ((xs.length:Int)-1-(0:Int)):=by
  refine⟨_,z86 _ rfl,rfl,?_⟩;show Data.fields _=_;rw[z99,i.length];simp
 refine wpAny_pyIter_revIter c ⟨_,_,_,_,H1,rfl,f.kept λb o e=>z79 _ e,zf9 l1 _ xs.length,⟨z94 _,c⟩,λb hb=>?_,q⟩;have e:b=s1.heap.objs.size:=by simpa using hb
 subst e;exact f.fpOk (z82 _) (f.hok.fresh (z82 _))
def zK5 {Q:List Aa->Prop}(hg:Gl X "reversed")(hm:X.mg "reversed"=none)(h:EvD X O a λx=>∃ds,x=.list ds/\Q ds.reverse)(f:Af [a] X.env=[(false,eval a X.env)]:=by rfl):
  EvI X O tg (.Call (.Name "reversed" p) [a] [] pos) Q:=λF B H R m k=>by
 refine⟨_,zM8 hg hm (zv zg zJ f) f,h F B H _ m λx o H1 l t1 n g=>?_⟩;obtain⟨ds,rfl,q⟩:=l;obtain⟨l1,xs,rfl,g1,g2⟩:=g.lst_inv;refine⟨l1,xs,rfl,SqL.of (zf g1).2,k _ _ H1 q t1 n λi r p s=>⟨λd hd=>?_,λe=>?_⟩⟩
 .have s1:=SqL.of (K:=X.K) (zf (s _ _ g1)).2;have hi:i<ds.length:=by
   have:=(z81.mp hd).1
   rwa [yj6]at this
  rw[List.getElem?_reverse hi]at hd;obtain⟨j,b,c⟩:=g2.get hd;rw[<-g2.length]at b;refine⟨⟨xs,j,s1,rfl,by rw[g2.length];exact hi,b⟩,λv t y=>?_⟩;obtain⟨rfl,hy⟩:=y;have:=hy _ s1;rw[b]at this;cases this;exact⟨zt.refl _,λ_=>c.same s⟩
 .rw[yj6,<-g2.length]at e;exact e
end
def EnS (w:Ak):List DictEntry->List (Str×V)->Prop:=Paired λe p=>e.hash=hashStr w p.1/\(∃t,e.key=.str p.1 t)/\RelV p.2 e.val
def iP (K:Ae)(w:Ak)(d:Ad)(a:List (Str×V)):Prop:=
 ∃es n,K.lookup d=some ⟨.type "dict",none,.dict es n,#[]⟩/\EnS w es.toList a/\(a.map (·.1)).Nodup
theorem pE {P:Ag}{w:Ak}{es:List DictEntry}{a:List (Str×V)}(h:EnS w es a):Pairs (PySem.strKind P w) es (List.zipWith (λe (p:Str×V)=>(p.1,e.val)) es a):=by
 induction h with
 |nil=>exact .nil
 |cons q _ b=>
  obtain⟨_,⟨t,c⟩,_⟩:=q;exact .cons (by rw[c];simp[PySem.strKind,Value.isStrOf]) rfl b
theorem nC {w:Ak}{es:List DictEntry}{a:List (Str×V)}(h:EnS w es a):(List.zipWith (λe (p:Str×V)=>(p.1,e.val)) es a).map (·.1)=a.map (·.1):=by
 induction h with
 |nil=>rfl
 |cons _ _ b=>simp only[List.zipWith_cons_cons,ya6,b]
theorem kg {P:Ag}{w:Ak}{es:List DictEntry}{b:List (Str×V)}(h:EnS w es b):∀e∈es,∃k,(PySem.strKind P w).is k e.key=true/\e.hash=(PySem.strKind P w).hash k:=by
 induction h with
 |nil=>intro e he;simp at he
 |@cons _ p _ _ q _ ih=>
  obtain⟨h1,⟨t,a⟩,_⟩:=q;intro e he;rcases z84.mp he with rfl|he
  .exact⟨p.1,by rw[a];simp[PySem.strKind,Value.isStrOf],h1⟩
  .exact ih e he
theorem zr8 {w:Ak}{x:Str}{v:V}{es:List DictEntry}{a:List (Str×V)}(b:EnS w es a)(h:a.lookup x=some v):∃u,valueAt (List.zipWith (λe (p:Str×V)=>(p.1,e.val)) es a) x=some u/\RelV v u:=by
 induction b with
 |nil=>simp at h
 |@cons e p _ _ k _ ih=>
  obtain⟨y,z⟩:=p;by_cases q:x=y
  .subst q;simp only[List.lookup_cons_self,Option.some.injEq]at h;subst h;exact⟨e.val,by simp[valueAt],k.2.2⟩
  .rw[ye8,yl6.mpr q]at h;obtain⟨u,h1,h2⟩:=ih h;refine⟨u,?_,h2⟩;rw[<-h1];simp[valueAt,yg1,yc1 q]
section
variable {X:Cx}{O:Ev}{p pos:Pos}{a:Al}{g:Str}{Q:Aa->Prop}
def zG5 (i:Al):Prop:=∀b c,subscripted i false b c=operate [b,c] (getItem b c)
def z65 {prog:Ag}{w:Ak}{A:Am}{E:Ab->Ac->Prop}{s:Ac}{env:Ar}{value slice:Al}{pos:Pos}{T id:String}{Q:Ab->Ac->Prop}
  (l:typeLookup (.type T) "__getitem__"=pure (some (.builtin id))) (m:zG5 slice)
  (h:Aj (Ah prog w) A (eval value env) (λo e=>Aj (Ah prog w) A (eval slice env) (λi b=>b.TypeIs o T/\Aj (Ah prog w) A (getItem o i) Q E b) E e) E s):
  Aj (Ah prog w) A (eval (.Subscript value slice pos) env) Q E s:=by
 refine Subscript_ (thn h λo e j=>thn j λi b c=>?_);obtain⟨k,c⟩:=c;unfold subscriptTail;refine z76 ?_;rw[getitemInPython_of_ne k.not_modules];refine z76 (yo1 k l ?_);have fin:Aj (Ah prog w) A (subscripted slice false o i) (λr d=>Aj (Ah prog w) A (letTemporaryGo value o r >>= λ_=>pure r) Q E d) E b:=by
  rw[m o i];exact wpAny_operating (thn c λr d f=>z76 (wpAny_letTemporaryGo (z80 f)))
 first
  |exact z80 (z76 fin)
  |exact z76 (z80 (z76 fin))
  |exact z76 fin
def af {d:Ad}{f:List (Str×V)}{ty:TE}(hg:Gl X g)(hm:X.mg g=some (.ref d))(hd:iP X.K X.w d f)(hi:PE X a ty)(o:zG5 a)(hb:(g == ("__debug__":Str))=false:=by decide):
  PE X (.Subscript (.Name g p) a pos) (λB H Q=>ty B H λy H1=>∃x v,y=.str x/\f.lookup x=some v/\Q v H1):=by
 intro pins s B H Q I h;refine z65 PySem.F.slot_dict_getitem.lookup o (uS I hg hm (thn (hi pins s B H _ I h) λz s2 c=>?_) hb);obtain⟨y,k,i,q,x,v,m,ex,r⟩:=c;subst m;obtain⟨t,rfl⟩:=q;obtain⟨es,n,l,he,hn⟩:=hd;have j:s2.heap.DictOf (PySem.strKind X.prog X.w) d (List.zipWith (λe p=>(p.1,e.val)) es.toList f):=
  ⟨_,es,n,i.kIn _ _ l,⟨rfl,rfl,rfl⟩,rfl,λe b=>kg he e (by simpa using b),pE he,by rw[nC he];exact hn⟩
 obtain⟨u,h1,h2⟩:=zr8 he ex;exact⟨j.typeIs,wpAny_getItem_of (show(PySem.strKind X.prog X.w).is x (.str x t)=true by simp[PySem.strKind,Value.isStrOf]) j.mapOf h1 ⟨v,k,i.tok _,h2,r⟩⟩
noncomputable def scV :Aa->Option V
 |.none=>some .non
 |.bool b=>some (.bl b)
 |.int i=>some (.int i)
 |.str x=>some (.str x)
 |_=>Option.none
def zO8 {H:Hp}{d:Aa}{v:V}(h:scV d=some v):AV H v d:=by
 cases d<;>simp[scV]at h<;>subst h<;>constructor
def zi6 {d:Ad}{b:List (Str×V)}(hg:Gl X g)(hm:X.mg g=some (.ref d))(hd:iP X.K X.w d b)(h:EvD X O a λy=>∃x d v,y=.str x/\b.lookup x=some v/\scV d=some v/\Q d)(i:zG5 a:=by exact λ_ _=>rfl)
  (hb:(g == ("__debug__":Str))=false:=by decide):EvD X O (.Subscript (.Name g p) a pos) Q:=λF B H R m k=>by
 refine⟨_,af hg hm hd zg i hb,h F B H _ m λy j H1 e t1 f c=>?_⟩;obtain⟨x,d',v,rfl,h1,h2,q⟩:=e;cases c.str_inv;exact⟨x,v,rfl,h1,k _ _ H1 q t1 f (zO8 h2)⟩
end
section
variable {X:Cx}{O:Ev}{p pos:Pos}{a b:Al}{g:Str}{Q:Aa->Prop}
noncomputable def rC :Aa->Bool
 |.none=>true
 |.bool _=>true
 |.int _=>true
 |.str _=>true
 |_=>false
def gW {H:Hp}{v:V}{d:Aa}(h:AV H v d)(f:rC d=true):vP v=true/\scV d=some v:=by
 cases h<;>first|exact⟨rfl,rfl⟩|cases f
theorem zc8 {H:Hp}{xs:List V}{ds:List Aa}(h:AVs H xs ds)(f:ds.all rC=true):xs.all vP=true/\ds.map scV=xs.map some:=by
 induction h using AVs.ind with
 |nil=>exact⟨rfl,rfl⟩
 |cons h _ c=>
  rw[yu5,yc5]at f;obtain⟨h1,h2⟩:=gW h f.1;obtain⟨h3,d⟩:=c f.2;exact⟨by rw[yu5,h1,h3];rfl,by rw[ya6,ya6,h2,d]⟩
noncomputable def inD (x:Aa)(ds:List Aa):Bool:=ds.any λy=>match scV y,scV x with
 |some u,some v=>eqV u v
 |_,_=>false
theorem iN {v:V}{x:Aa}(f:scV x=some v):∀{xs:List V}{ds:List Aa},ds.map scV=xs.map some->inV v xs=inD x ds
 |[],[],_=>rfl
 |[],_::_,e=>by cases e
 |_::_,[],e=>by cases e
 |u::xs,d::ds,e=>by
  rw[ya6,ya6]at e;injection e with e1 h;have c:=iN f h;unfold inV inD at c ⊢;rw[yl3,yl3,c,e1,f]
def cM {neg:Bool}{x:Aa}{ds:List Aa}(c:rC x=true)(fs:ds.all rC=true):Cmp (rIn X.K neg) x (.list ds) (if neg then !inD x ds else inD x ds):=λp H i f R d e h=>by
 obtain⟨ad,xs,rfl,g1,g2⟩:=e.lst_inv;obtain⟨f1,s1⟩:=gW d c;obtain⟨f2,s2⟩:=zc8 g2 fs;refine⟨ad,xs,rfl,.inl (SqL.of (zf g1).2),f1,f2,?_⟩;rw[iN s1 s2];exact h
end
section
variable {X:Cx}{O:Ev}{p pos:Pos}{a b:Al}{Q:Aa->Prop}
def zQ1 :OpR X (compareOp .Is) (λx y H Q=>∃i j,x=.bl i/\y=.bl j/\Q (.bl (i == j)) H):=by
 intro pins s B H x y v u Q I c d h;obtain⟨i,j,rfl,rfl,q⟩:=h;cases c;cases d;exact is_bool (zD I q rfl)
end
section
variable {X:Cx}{O:Ev}{a e:Al}{pos p2 p3 p4:Pos}{n1:Nat}{te:TE}
end
def aV (T:Ad)(H:Hp):Prop:=∀b:Ad,H b=none\/b=T\/∃o xs,H b=some (.frz o (.lst xs))
theorem dF {P:Ag}{w:Ak}{K:Ae}{mg mb:Str->Option Ab}{CX:CXT}{k:Nat}{J a T:Ad}{fd:Ap}{x:Str}{sp:Sp}{c:Ac}{vs:List Ab}{ns:List Int}{ps:Array Ab}
  (KX:K.In c.heap) (t:c.heap.Ns Ai mg) (hb:c.heap.Ns builtinsNs mb) (I:∀x:Str,x≠"__name__"->mb x=bootBuiltins x) (B:c.heap.NoLimit) (hg:c.gens=#[])
  (ha:c.heap.get? a=some {cls:=.type "list",data:=.seq vs.toArray}) (hi:IntsAre vs ns) (hl:ns.length<=sizeLine) (hr:zM k callerA)
  (A:c.heap.get? T=some (PySem.W.tabObj ps)) (Q:K.lookup T=none) (N:isCodeTable c.heap T)
  (O:∃bm ob,mg "__builtins__"=some (.ref bm)/\bm≠builtinsNs/\c.heap.get? bm=some ob/\ob.cls=.type "module"/\ob.dict=some builtinsNs/\ob.data=.plain)
  (F:∀base:Ao,K.In base->base.Ns Ai mg->base.BuiltinsAt mg T->yM P w K mg base CX k J fd [x] sp) (y:∀(s:Ac) (u:Ab),BindsTo s fd ⟨[u],[]⟩ [(x,u)])
  (M:∀H:Hp,aV T H->H T=some (.tbl ps)->SqL K H a (ns.map V.int)->sp [.ref a] H (λv _=>v=.bl true) λ_ _ _=>False)
  (U:∀H e s',CX [] H c (λ_ _ _=>False) e s'->False):
  codeAny (Ah P w) callerA (.call (.ref J) ⟨[.ref a],[]⟩) (λr s'=>r=.ok (.ret (.bool true))/\OldK c.heap s'.heap/\s'.os=c.os/\AllBare s'.gens) c:=by
 have rv:=fk hi;have D:a≠T:=λz=>by rw[z,A]at ha;cases ha
 have core:∀H:Hp,aV T H->H T=some (.tbl ps)->SqL K H a (ns.map V.int)->HOk P w H c.heap->(∀b,H b≠none->b=a\/b=T)->(H a≠none->K.lookup a=none)->
   codeAny (Ah P w) callerA (.call (.ref J) ⟨[.ref a],[]⟩) (λr s'=>r=.ok (.ret (.bool true))/\OldK c.heap s'.heap/\s'.os=c.os/\AllBare s'.gens) c:=by
  intro H Y C hS hok S hK;have f:∀{b:Ad} {o:Obj},c.heap.get? b=some o->H b=none->(qJ c.heap H).get? b=some o:=λe n=>zj6 e n;have L:∀{b:Ad} {o:Obj} {es:Array DictEntry} {ep:Nat},c.heap.get? b=some o->o.data=.dict es ep->H b=none:=λ{b o es ep} e d=>by
   cases q:H b with
   |none=>rfl
   |some u=>
    rcases S b (by rw[q];simp)with g|g
    .subst g;rw[ha]at e;cases e;have d':=d;cases d'
    .subst g;rw[A]at e;cases e;have d':=d;cases d'
  have j:∀{b:Ad} {m:Str->Option Ab},c.heap.Ns b m->(qJ c.heap H).Ns b m:=λ{b m} R=>by obtain⟨o,es,ep,e,d,r⟩:=R;exact⟨o,es,ep,f e (L e d),d,r⟩
  have E:K.In (qJ c.heap H):=λb o e=>f (KX b o e) (by
   cases q:H b with
   |none=>rfl
   |some u=>
    rcases S b (by rw[q];simp)with g|g
    .subst g;rw[hK (by rw[q];simp)]at e;cases e
    .subst g;rw[Q]at e;cases e)
  have hM:Mod K mg (qJ c.heap H):=⟨E,j t,⟨mb,j hb,I⟩,let⟨mc,h1,h2⟩:=B;⟨mc,j h1,h2⟩⟩;have X:(qJ c.heap H).BuiltinsAt mg T:=by
   obtain⟨bm,ob,b1,b2,p,Z,b5,G⟩:=O;have n1:bm≠T:=λz=>by rw[z,A]at p;cases p;cases Z
   have n2:bm≠a:=λz=>by rw[z,ha]at p;cases p;cases G
   have n3:bm≠Ai:=λz=>by
    obtain⟨o,es,ep,e,d,_⟩:=t;rw[z,e]at p;cases p;rw[d]at G;cases G
   exact⟨bm,ob,b1,b2,n3,n1,f p (by
    cases q:H bm with
    |none=>rfl
    |some u=>
          rcases S bm (by rw[q];simp)with g|g
          .exact absurd g n2
          .exact absurd g n1),Z,b5,G⟩
  have e0:uW P w K mg (qJ c.heap H) callerA [] c H:=⟨rfl,hM,λb o e=>zo6 e,ya2 (dA _ _),trivial,λb hb=>absurd (show b∈([]:List Ad)from hb) (by simp),hok,.of_eq hg⟩;refine yp0 ((F _ E (j t) X).run callerA [] c H ⟨[.ref a],[]⟩ [.ref a] [.ref a] _ _ hr e0 (y c (.ref a)) (.cons rfl .nil) (M H Y C hS)) λr s' h=>?_;cases r with
  |error e=>exact(U H e s' h).elim
  |ok fl=>
   cases fl with
   |next=>exact False.elim h
   |brk=>exact False.elim h
   |cont=>exact False.elim h
   |ret u=>
    obtain⟨v,H',os,bare,un,l,r',q⟩:=h;have q':=q;subst q';obtain rfl:u=Value.bool true:=r';have old:∀b o,c.heap.get? b=some o->asItWas c.heap s'.heap b o:=λb o e=>by
     cases q:H b with
     |none=>exact .inl (un.keep b o e q (by intro z;exact absurd (show b∈([]:List Ad)from z) (by simp)) (by simp))
     |some u=>
      rcases Y b with z|z|⟨ob,xs,z⟩
      .rw[q]at z;cases z
      .subst z;obtain⟨more,hm⟩:=un.tbls _ _ C;rw[A]at e;cases e;exact .inr (.inl ⟨N,rfl,ps,more,rfl,(l _ _ hm)⟩)
      .have z2:=un.frzs b ob _ z;obtain⟨e1,_⟩:=hok b _ z;obtain⟨e2,_⟩:=l b _ z2;rw[e]at e1;cases e1;exact .inl e2
    refine⟨rfl,⟨old,λb o e=>?_⟩,os,bare⟩;rcases old b o e with z|⟨_,_,_,_,_,z⟩|⟨_,_,⟨o',_,_,z,_⟩,_⟩
    .exact⟨_,z⟩
    .exact⟨_,z⟩
    .exact⟨_,z⟩
 cases hk:K.lookup a with
 |some o=>
  have e:=KX a o hk;rw[ha]at e;cases e;refine core (λb=>if b=T then some (.tbl ps)else none) (λb=>?_) (if_pos rfl) (.inr ⟨_,vs.toArray,_,hk,rfl,rfl,rfl,by rw[z99,hi.length];exact hl,by simpa using rv⟩) (λb u z=>?_) (λb z=>?_) λz=>absurd (if_neg D) z
  .by_cases h:b=T
   .exact .inr (.inl h)
   .exact .inl (if_neg h)
  .by_cases h:b=T
   .have i:=(if_pos h).symm.trans z;cases i;subst h;exact A
   .have i:=(if_neg h).symm.trans z;cases i
  .by_cases h:b=T
   .exact .inr h
   .exact absurd (if_neg h) z
 |none=>
  refine core (λb=>if b=T then some (.tbl ps)else if b=a then some (.frz {cls:=.type "list",data:=.seq vs.toArray} (.lst (ns.map V.int)))else none) (λb=>?_) (if_pos rfl) (.inl (.inr ⟨{cls:=.type "list",data:=.seq vs.toArray},(if_neg D).trans (if_pos rfl)⟩)) (λb u z=>?_) (λb z=>?_) λ_=>hk
  .by_cases h:b=T
   .exact .inr (.inl h)
   .by_cases hb:b=a
    .exact .inr (.inr ⟨_,_,(if_neg h).trans (if_pos hb)⟩)
    .exact .inl ((if_neg h).trans (if_neg hb))
  .by_cases h:b=T
   .have i:=(if_pos h).symm.trans z;cases i;subst h;exact A
   .have z:=(if_neg h).symm.trans z;by_cases hb:b=a
    .have i:=(if_pos hb).symm.trans z;cases i;subst hb;exact⟨ha,by rw[z77];exact hl,vs,_,rv,ha⟩
    .have i:=(if_neg hb).symm.trans z;cases i
  .by_cases h:b=T
   .exact .inr h
   .by_cases hb:b=a
    .exact .inl hb
    .exact absurd ((if_neg h).trans (if_neg hb)) z
def aR {l:PySem.W.OpenLaw}{n k:Nat}{q:Ag}{loose:List Str}{N:(Str->Option Ab)->Ao->Prop}{A:Ak->Ao->Prop}{d:DefRec}{K:Params->Ae}{CX:Ak->CXT}{sp:Ak->Sp}{x:Str}{T c:Ad}{ps:Array Ab}
  (hn:l.most=some n) (C:n<=sizeLine) (hdf:d.params.defaults=[]) (hr:zM k callerA)
  (I:∀(w:Ak) (h:Ao),A w h->(K w.params).In h) (t:∀(w:Ak) (h:Ao),A w h->h.get? T=some (PySem.W.tabObj ps))
  (D:∀w:Ak,(K w.params).lookup T=none) (m:∀w:Ak,∃o vs,(K w.params).lookup c=some o/\o.cls=.type "code"/\o.data=.fields vs/\vs[11]?=some (.ref T))
  (F:∀(w:Ak) (mg:Str->Option Ab) (p:Ad) (h:Ao),(K w.params).In h->h.Ns Ai mg->mg d.name=some (.ref p)->
   ∃fd:Ap,(∀(s:Ac) (u:Ab),BindsTo s fd ⟨[u],[]⟩ [(x,u)])/\
    ∀base:Ao,(K w.params).In base->base.Ns Ai mg->base.BuiltinsAt mg T->yM l.prog w (K w.params) mg base (CX w) k p fd [x] (sp w))
  (z:∀(w:Ak) (H:Hp) (a:Ad) (ns:List Int),ns.length<=n->aV T H->H T=some (.tbl ps)->SqL (K w.params) H a (ns.map V.int)->sp w [.ref a] H (λv _=>v=.bl true) λ_ _ _=>False)
  (y:∀(w:Ak) (H:Hp) (s:Ac) (e:Ab) (s':Ac),CX w [] H s (λ_ _ _=>False) e s'->False):
  PySem.W.WalkO q loose N A l.row.toRowW d [] (λf vs=>PySem.call f vs):=by
 refine Att.attach_call hn hdf λw s₀ j mg mb p o pm cd doc a vs ns G Y R hd M r i hints hlen hg=>?_;have B:=I w _ Y;obtain⟨oc,cv,Q,t3,E,L⟩:=m w;obtain⟨fd,hb,hF⟩:=F w mg p _ B G.T.g r;exact dF B G.T.g G.T.b G.T.builtins G.T.nolimit hg i hints (z93 hlen C) hr (t w _ Y) (D w) ⟨c,oc,cv,B _ _ Q,t3,E,L⟩ G.T.bmain hF hb (λH O P J=>z w H a ns hlen O P J) λH e s'=>y w H j e s'
def TabAt.same {H H':Hp}(T:TabAt H)(h:∀a o,(∀xs,o≠.lst xs)->H a=some o->H' a=some o):TabAt H':=qo T h
section
variable {X:Cx}{pins:List (Ad×Obj)}{B:St}{H:Hp}{s:Ac}{h':Ao}
def Inv.tblMore {t':Nat}{p:Ad}{ps more:Array Ab}{H':Hp}(I:Inv X pins B H s)(h:H p=some (.tbl ps))(k:∀b u,b≠p->s.heap.get? b=some u->h'.get? b=some u)(e:h'.get? p=some (PySem.W.tabObj (ps++more)))
  (f:H' p=some (.tbl (ps++more))) (a:∀b,b≠p->b<s.heap.objs.size->H' b=H b) (new:∀b o,s.heap.objs.size<=b->H' b=some o->yn X.prog X.w H' h' b o):
  Inv X pins B H' {s with heap:=h',toks:=t'}:=by
 have ne:∀b,H b=none->b≠p:=λb n z=>by rw[z,h]at n;cases n
 have nt:∀b o,H b=some o->(∀qs,o≠.tbl qs)->b≠p:=λb o q n z=>by rw[z,h]at q;cases q;exact n _ rfl
 have lt:∀b o,H b=some o->b<s.heap.objs.size:=λb o q=>by
  rcases ye1 b s.heap.objs.size with z|z
  .exact z
  .rw[I.hok.fresh z]at q;cases q
 have st:∀b o,H b=some o->(∀qs,o≠.tbl qs)->H' b=some o:=λb o q n=>by rw[a b (nt b o q n) (lt b o q)];exact q
 refine I.un ⟨λb o q n _ _=>k b o (ne b n) q,λb o q n _ _=>⟨o.slots,k b o (ne b n) q⟩,λb o q n _=>by rw[a b (ne b n) (z90 q)];exact n,λb o q _=>?_,λb xs q=>st b _ q (λ_ z=>by cases z),λb o u q=>st b _ q (λ_ z=>by cases z),λb qs q=>?_⟩ λb u q=>?_
 .by_cases z:b=p
  .exact⟨_,by rw[z];exact e⟩
  .exact⟨o,k b o z q⟩
 .by_cases z:b=p
  .subst z;rw[h]at q;cases q;exact⟨more,f⟩
  .exact⟨#[],by rw[a b z (lt b _ q),q];simp⟩
 .by_cases z:b=p
  .subst z;rw[f]at q;cases q;exact e
  .rcases ye1 b s.heap.objs.size with l|l
   .rw[a b z l]at q;refine(I.hok b u q).stay (λc v d r=>k c v (λw=>?_) r) (λc r=>st c _ r λ_ z=>by cases z) λc xs r=>st c _ r λ_ z=>by cases z
    subst w;rcases d with rfl|d
    .exact z rfl
    .rw[h]at d;cases d
   .exact new b u l q
noncomputable def dX (f c:Ad)(qual:Str)(params:Arguments)(body:Al)(scope:Aq)(a:List (Str×Ad)):HO:=
 .ext λh=>∃(pm ctv:Ab),h.get? f=some (PySem.W.kla_obj "<lambda>" qual params body scope a pm c ctv)
def zn8 {P:Ag}{w:Ak}{H:Hp}{h:Ao}{c:Ad}(r:h.CodeRec (.ref c) wz):yn P w H h c (sf c):=by
 refine⟨r,?_,λh1 h2 p k=>?_⟩
 .obtain⟨c',o,vs,t,e1,a,_⟩:=r;cases e1;exact⟨o,a⟩
 .obtain⟨c',o,vs,t,e1,a,b⟩:=p;cases e1;exact⟨c,o,vs,t,rfl,k _ a,b⟩
def bq {P:Ag}{w:Ak}{H:Hp}{h:Ao}{f c:Ad}{qual:Str}{params:Arguments}{body:Al}{scope:Aq}{a:List (Str×Ad)}{pm ctv:Ab}(r:h.get? f=some (PySem.W.kla_obj "<lambda>" qual params body scope a pm c ctv)):yn P w H h f (dX f c qual params body scope a):=
 ⟨⟨pm,ctv,r⟩,⟨_,r⟩,λh1 h2 d k=>by obtain⟨e,b,p⟩:=d;exact⟨e,b,k _ p⟩⟩
theorem kK {pos:Pos}{a b:Int}{c cv:Ab}(l:List Ab):TriplesOk l->codeAmong pos (l++[rawInt a,rawInt b,c])=some cv->codeAmong pos l=some cv\/cv=c:=by
 induction l using TriplesOk.induct with
 |case1=>
  intro _ h;rw[ye5,rawInt,rawInt,codeAmong.eq_1]at h;split at h
  .cases h;exact .inr rfl
  .rw[codeAmong.eq_2 _ _ (by intro _ _ _ _ _ _ z;cases z)]at h;cases h
 |case2 i t j u d rest e=>
  intro ok h;rw[TriplesOk.eq_2]at ok;rw[ys5,ys5,ys5,codeAmong.eq_1]at h;rw[codeAmong.eq_1];split at h
  .rename_i z;rw[if_pos z];exact .inl h
  .rename_i z;rw[if_neg z];exact e ok h
 |case3 t h1 h2=>
  intro ok;rw[TriplesOk.eq_3 t h1 h2]at ok;exact ok.elim
theorem bZ {params:Arguments}{body:Al}{scope:Aq}{g:Pos}{i:List (Str×Ad)}{c:Ad}(I:Inv X pins B H s)(hcl:closureFor scope X.env=pure i)(hgl:X.env.globals=Ai)(hco:X.env.code=.ref c)(hhd:PySem.W.CodeHd X.base c yH)
  (hbi:X.base.BuiltinsAt X.mg yH) (hdf:defaultsOf params X.env=([],[])) (hq:X.env.qual++("<lambda>":Str)=wz) (hne:Ai≠yH) (T:TabAt H) {Q:Ab->Ac->Prop}
  (h:∀(f c':Ad) (H':Hp) (s':Ac),Inv X pins B H' s'->TabAt H'->(∀a o,a≠yH->H a=some o->H' a=some o)->(∀a ps,H a=some (.tbl ps)->∃qs,H' a=some (.tbl qs))->H f=none->H' f=some (dX f c' wz params body scope i)->H' c'=some (sf c')->Q (.ref f) s'):
  Aj (Ah X.prog X.w) X.A (eval (.Lambda params body scope g) X.env) Q X.xe s:=by
 refine PySem.W.kla_eval hdf ?_;rw[hq];obtain⟨ps,t1,C,t3⟩:=T.ex;have E:=I.hok _ _ t1;have hb:∀b o,X.base.get? b=some o->s.heap.get? b=some o:=λb o e=>(I.bs b o e).1;have p:PySem.W.CodeHd s.heap c yH:=by
  obtain⟨o,vs,f1,f2,f3,f4,f5,Y,R,e1,j⟩:=hhd;exact⟨o,vs,f1,f2,f3,f4,f5,Y,R,hb _ _ e1,j⟩
 have m:s.heap.BuiltinsAt X.mg yH:=by
  obtain⟨bm,o,e1,j,F,e4,S,U⟩:=hbi;exact⟨bm,o,e1,j,F,e4,hb _ _ S,U⟩
 have x:s.heap.Ns Ai X.mg:=by
  obtain⟨o,es,ep,e,d,r⟩:=I.ok.mod.glob;exact⟨o,es,ep,hb _ _ e,d,r⟩
 cases hc:codeAmong g ps.toList with
 |none=>
  refine PySem.W.kla_makeFunction hcl hgl x hco p E C hc hne m λc' ctv h' N ex l1 l2 cr ht=>?_;have q:=z90 E;have lf:=yd3 (ya7 l1 l2)
  let n:Hp:=upd (upd (upd H h'.objs.size (dX h'.objs.size c' wz params body scope i)) c' (sf c')) yH (.tbl (ps++#[rawInt ↑g.line,rawInt ↑g.col,Value.ref c']))
  have D:n yH=some (.tbl (ps++#[rawInt ↑g.line,rawInt ↑g.col,Value.ref c'])):=zi;have eC:n c'=some (sf c'):=by show upd _ _ _ _=_;rw[zc (yk4 (z83 q l1)),zi]
  have M:n h'.objs.size=some (dX h'.objs.size c' wz params body scope i):=by show upd _ _ _ _=_;rw[zc (yk4 (z83 q lf)),zc (z96 l2).symm,zi]
  have old:∀b,b≠yH->b<s.heap.objs.size->n b=H b:=λb nb v=>by
   show upd _ _ _ _=_;rw[zc nb,zc (z96 (z83 v l1)),zc (z96 (z83 v lf))]
  have V:Inv X pins B n {s with heap:=h'.push (PySem.W.kla_obj "<lambda>" wz params body scope i ((X.mg "__name__").getD Value.none) c' ctv),toks:=N}:=by
   refine I.tblMore t1 (λb u nb e=>z79 _ (ex b u nb e)) (z79 _ ht) D old λb o v e=>?_;by_cases G:b=h'.objs.size
   .subst G;rw[M]at e;cases e;exact bq (z86 _ rfl)
   .by_cases J:b=c'
    .subst J;rw[eC]at e;cases e;obtain⟨O,o,vs,t,e1,j,F⟩:=cr;cases e1;exact zn8 ⟨_,o,vs,t,rfl,z79 _ j,F⟩
    .have nb:b≠yH:=λz=>absurd v (Nat.not_le_of_lt (z▸q));have Z:n b=H b:=by show upd _ _ _ _=_;rw[zc nb,zc J,zc G]
     rw[Z,I.hok.fresh v]at e;cases e
  have stay:∀a o,a≠yH->H a=some o->n a=some o:=λa o no e=>by
   have P:a<s.heap.objs.size:=by
    rcases ye1 a s.heap.objs.size with z|z
    .exact z
    .rw[I.hok.fresh z]at e;cases e
   rw[old a no P];exact e
  refine h _ c' n _ V ⟨_,D,?_,λpos cv y=>?_⟩ stay (λa qs e=>?_) (I.hok.fresh lf) M eC
  .rw[yc0];exact TriplesOk_snoc _ _ _ _ C
  .rw[yc0]at y;rcases kK _ C y with z|z
   .obtain⟨O,rfl,j⟩:=t3 _ _ z;exact⟨O,rfl,stay _ _ (λz=>by rw[z,t1]at j;cases j) j⟩
   .exact⟨c',z,eC⟩
  .by_cases K:a=yH
   .exact⟨_,by rw[K];exact D⟩
   .refine⟨qs,?_⟩;rw[old a K (by
     rcases ye1 a s.heap.objs.size with z|z
     .exact z
     .rw[I.hok.fresh z]at e;cases e)]
    exact e
 |some cv=>
  obtain⟨c',rfl,L⟩:=t3 _ _ hc;refine PySem.W.kla_makeFunctionHit hcl hgl x hco p E C hc m λctv h' N k l=>?_;have hf:=I.hok.fresh l;have k2:∀b u,s.heap.get? b=some u->(h'.push (PySem.W.kla_obj "<lambda>" wz params body scope i ((X.mg "__name__").getD Value.none) c' ctv)).get? b=some u:=λb u e=>z79 _ (k b u e);have n1:∀a o,H a=some o->a≠h'.objs.size:=λa o e z=>by rw[z,hf]at e;cases e
  refine h _ c' _ _ (I.laid k2 l (bq (z86 _ rfl))) (T.same λa o _ e=>by rw[zc (n1 a o e)];exact e) (λa o _ e=>by rw[zc (n1 a o e)];exact e) (λa qs e=>⟨qs,by rw[zc (n1 a _ e)];exact e⟩) hf zi ?_;rw[zc (n1 _ _ L)];exact L
end
structure xV (x y:Str)(params:Arguments)(scope:Aq):Prop where
 kind:scope.kind=.function
 co:scope.isCoroutine=false
 gen:scope.isGenerator=false
 px:scope.names.lookup x=some .local
 py:scope.names.lookup y=some .free
 nocell:∀z∈scope.names,z.2≠NameKind.cell
 only:∀z∈scope.names,z.2=NameKind.free->z.1=y
 ne:x≠y
noncomputable def mw (P:Ag)(w:Ak)(K:Ae)(mg:Str->Option Ab)(base:Ao)(x y:Str)(scope:Aq)(f c cl:Ad)(A:Am)(outer:List Ar)(s:Ac)(H:Hp):Cx where
 prog:=P
 w:=w
 K:=K
 mg:=mg
 base:=base
 A:=A.deeper (PySem.W.envX wz scope s.heap.objs.size f (.ref c) [(y,cl)])
 N:=[x,y]
 s₀:=s
 H₀:=H
 env:=PySem.W.envX wz scope s.heap.objs.size f (.ref c) [(y,cl)]
 outer:=outer
 stack:=PySem.W.envX wz scope s.heap.objs.size f (.ref c) [(y,cl)]::outer
 ex:=[]
 calm:=true
 fn:=λ_=>false
 pn:=[]
 xe:=λ_ _=>False
def eY {P:Ag}{w:Ak}{K:Ae}{mg:Str->Option Ab}{base:Ao}{x y:Str}{params:Arguments}{scope:Aq}{f c cl:Ad}{A:Am}{outer:List Ar}{s:Ac}{H:Hp}{h':Ao}{B:Nat}{v l:V}{u ul:Ab}
  (S:xV x y params scope) (hd:A.handled=none) (j:uW P w K mg base A outer s H) (C:RelV v u) (r:RelV l ul) (hcl:s.heap.IsCell cl (some ul)) (q:H cl=none)
  (ns:h'.Ns s.heap.objs.size λz=>[(x,u)].reverse.lookup z) (k:∀b o,s.heap.get? b=some o->h'.get? b=some o):
  Inv (mw P w K mg base x y scope f c cl A outer s H) [] [some v,some l] H {s with heap:=h',toks:=B}:=by
 have m:∀b:Ad,b∉(mw P w K mg base x y scope f c cl A outer s H).ex:=λb z=>absurd (show b∈([]:List Ad)from z) (by simp);have one:∀z d,(mw P w K mg base x y scope f c cl A outer s H).env.cells.lookup z=some d->z=y/\d=cl:=λz d h=>by
  have h:List.lookup z [(y,cl)]=some d:=h;rw[ye8]at h;split at h
  .rename_i e;cases h;exact⟨eq_of_beq e,rfl⟩
  .cases h
 have hit:(mw P w K mg base x y scope f c cl A outer s H).env.cells.lookup y=some cl:=by
  show List.lookup y [(y,cl)]=some cl;simp[ye8]
 have g:h'.IsCell cl (some ul):=by
  obtain⟨o,e1,D⟩:=hcl;exact⟨o,k _ _ e1,D⟩
 refine⟨⟨j.mod,S.kind,rfl,rfl,z82 _,λa b d h1 h2=>(one a d h1).1.trans (one b d h2).1.symm,λz n=>?_,λz d hf _=>?_,λ_=>hd,Around.frames_deeper j.frames,.inr ⟨rfl,rfl⟩,λb z=>absurd z (m b),j.bs,j.bsz,λb _ _=>m b,λb z=>absurd z (m b),j.funs,j.frf⟩,
  rfl,j.bare,Un.kept k,⟨_,ns,λi z E h1 h2 h3=>?_⟩,λz d h=>?_,j.hok.fresh (z82 _),λz d h=>?_,λp t=>absurd (show p∈([]:List (Ad×Obj))from t) (by simp),j.hok.kept k,rfl⟩
 .have n:=n;rcases n with n|n
  .exact absurd rfl (S.nocell _ (yf9 n))
  .have:z=y:=S.only _ (yf9 n) rfl;subst this;exact⟨cl,hit⟩
 .exact absurd (hf) yb0
 .have h1:([x,y]:List Str)[i]?=some z:=h1
  match i,h1,h2 with
  |0,h1,h2=>
   cases h1;cases h2;exact⟨u,C,.inl ⟨S.px,by simp[ye8]⟩⟩
  |1,h1,h2=>
   cases h1;cases h2;exact⟨ul,r,.inr ⟨.inr S.py,cl,hit,g⟩⟩
  |i+2,h1,h2=>simp at h1
 .obtain⟨rfl,rfl⟩:=one z d h;exact⟨_,g⟩
 .obtain⟨rfl,rfl⟩:=one z d h;exact q
def zw1 {P:Ag}{w:Ak}{K:Ae}{mg:Str->Option Ab}{base:Ao}{x y:Str}{params:Arguments}{body:Al}{scope:Aq}{f c cl:Ad}{A:Am}{outer:List Ar}{s:Ac}{H:Hp}{v l:V}{u ul:Ab}{k:Nat}{Q:VK}{t:TE}
  (S:xV x y params scope) (hr:zM k A) (a:uW P w K mg base A outer s H) (hf:H f=some (dX f c wz params body scope [(y,cl)])) (r:H c=some (sf c)) (hcl:s.heap.IsCell cl (some ul)) (g:H cl=none) (p:RelV v u) (i:RelV l ul)
  (hb:∀pm ctv,bindArgs (PySem.W.kla_fn "<lambda>" wz params body scope [(y,cl)] pm (.ref c) ctv) ⟨[u],[]⟩=pure [(x,u)])
  (C:PE (mw P w K mg base x y scope f c cl A outer s H) body t) (hq:t [some v,some l] H Q):
  codeAny (Ah P w) A (.call (.ref f) ⟨[u],[]⟩) (CR CX0 outer P w H s Q E0) s:=by
 obtain⟨⟨pm,ctv,m⟩,_,_⟩:=a.hok _ _ hf;refine PySem.W.kla_callFunE hr.depth m rfl S.co S.gen rfl ((a.hok _ _ r).1) ?_;rw[hb];refine z80 ?_;refine wpAny_newFunctionEnv S.nocell (λz n=>?_) (λh' ns sb=>?_) S.kind
 .rw[z92.mp n];exact S.px
 .have h:∀b o,s.heap.get? b=some o->h'.get? b=some o:=λb o e=>sb.extBut b o (z96 (z90 e)) (z79 _ e);refine⟨(a.mod.nolimit.keeps λb o e=>(a.bs b o e).1).keeps h,PySem.W.kla_codeExpr ?_⟩;refine ye0 (C [] _ _ H _ (eY S hr.hd a p i hcl g ns h) hq) (λD s' d=>?_) λe s' d=>d.elim;obtain⟨B,H',J,j,q⟩:=d;exact⟨B,H',J.os,J.bare,J.base,J.hok,j,q⟩
open PySem.W SortA
section
variable {X:Cx}{pins:List (Ad×Obj)}{B:St}{H:Hp}{s:Ac}
def zc4 (X:Cx)(H1 a:Hp)(s1 s2:Ac):Prop:=∀b o,s1.heap.get? b=some o->H1 b=none->b∉frs X.stack->s2.heap.get? b=some o/\a b=none
structure zj5 (X:Cx)(pins:List (Ad×Obj))(B:St)(H:Hp)(D kS:Ad)(e1:Nat)(ps:List (Int×Int))(i:Nat)(s':Ac):Prop where
 ex:∃(H':Hp) (ks:List Ab) (xs:List V) (e:Nat),Inv X pins B H' s'/\(∀a o,H a=some o->H' a=some o)/\s'.heap.get? D=some (seqObj "list" #[] e1)/\s'.heap.get? kS=some (seqObj "list" ks.toArray e)/\H' D=none/\H' kS=none/\Vals xs ks/\PrV H' xs (ps.take i)
def fB {A:Am}{E:Ab->Ac->Prop}{vs:List Ab}{ps:List (Int×Int)}{f D kS:Ad}{e1:Nat}{Q:PUnit->Ac->Prop}(hlen:vs.length=ps.length)(S:vs.length<64)(T:D∉frs X.stack)(W:kS∉frs X.stack)(hne:D≠kS)
  (U:∀H',H' kS=none->xq X pins H' kS)
  (d:∀i v,vs[i]?=some v->∀H1 s1,Inv X pins B H1 s1->(∀a o,H a=some o->H1 a=some o)->
   Aj (Ah X.prog X.w) A (call (.ref f) [v]) (λu s2=>∃t c,u=.ref t/\Inv X pins B c s2/\(∀a o,H1 a=some o->c a=some o)/\c t=some (.tup [.int (at2 ps i).1,.int (at2 ps i).2])/\zc4 X H1 c s1 s2) (λ_ _=>False) s1)
  (h0:zj5 X pins B H D kS e1 ps 0 s) (hQ:∀s',zj5 X pins B H D kS e1 ps vs.length s'->Q PUnit.unit s'):
  Aj (Ah X.prog X.w) A (forIn vs PUnit.unit λx __s=>do
   let __do_lift <-(call (.ref f) [x]).attempt
   match __do_lift with
    |Except.ok k=>do
     Builtin.List.listUpdate (.ref kS) λx=>x.push k
     pure (ForInStep.yield PUnit.unit)
    |Except.error e=>do
     rule "list.sort.key-raised"
     let made <-Builtin.List.listItems (.ref kS)
     Builtin.List.listUpdate (.ref kS) λx=>#[]
     letGo made.toList.reverse [e]
     Builtin.List.listUpdate (Value.ref D) λx=>vs.toArray
     throw e
     pure (ForInStep.yield PUnit.unit)) Q E s:=by
 refine ksk_fold (zj5 X pins B H D kS e1 ps) vs 0 s h0 (λj x s' L r=>?_) (λs' r=>hQ s' (by simpa using r));obtain⟨H1,ks,xs,e,Y,st,M,Z,N,y,I,pr⟩:=r.ex;rw[Nat.zero_add]at pr ⊢;have g:j<ps.length:=by rw[<-hlen];exact(z81.mp L).1
 have l:ks.length=j:=by rw[<-I.length,pr.len,yc3];lia
 refine z76 (yl4 (ye0 (d j x L H1 s' Y st) (λu s2 R=>?_) λ_ _ z=>z.elim));obtain⟨t,c,rfl,O,m,J,kp⟩:=R;obtain⟨C,F⟩:=kp D _ M N T;obtain⟨n,h⟩:=kp kS _ Z y W;refine z76 (yp7 n rfl (z80 ⟨rfl,?_⟩) (by rw[z99,l,yf3];lia) (by rw[Array.size_push,z99,l,yf3];lia));obtain⟨G,hk⟩:∃G,(s2.heap.update kS (Obj.mapSeq λx=>x.push (Value.ref t))).get? kS=some (seqObj "list" (ks++[Value.ref t]).toArray G):=by
  have:=yj5 n λx=>x.push (Value.ref t);rw[List.push_toArray]at this;exact⟨_,this⟩
 have K:∀b o,b∉[kS]->s2.heap.get? b=some o->(s2.heap.update kS (Obj.mapSeq λx=>x.push (Value.ref t))).get? b=some o:=λb o nb q=>(yb2 _ _ (yc1 (by simpa using nb))).trans q;refine⟨c,ks++[Value.ref t],xs++[V.ref t],G,O.turnL K (λb hb=>by rw[z92.mp hb];exact U c h),λa o q=>m a o (st a o q),K D _ (by simpa using hne) C,hk,F,h,I.append (.cons rfl .nil),?_⟩;rw[yg0,z78 g];refine PrV.app (pr.keep λa p q z=>m _ _ z) ?_;have P:at2 ps j=ps[j]:=by unfold at2;rw[z85,z78 g];rfl
 rw[P]at J;exact .cons J .nil
def kU {A:Am}{E:Ab->Ac->Prop}{vs:List Ab}{ps:List (Int×Int)}{f D:Ad}{n:Nat}{U:PySem.Fin->Ac->Prop}(I:Inv X pins B H s)(P:s.heap.get? D=some (seqObj "list" vs.toArray n))(hlen:vs.length=ps.length)(j:vs.length<64)(Z:H D=none)
  (nD:D∉frs X.stack) (N:∀H',H' D=none->xq X pins H' D)
  (F:∀i v,vs[i]?=some v->∀H1 s1,Inv X pins B H1 s1->(∀a o,H a=some o->H1 a=some o)->
   Aj (Ah X.prog X.w) A (call (.ref f) [v]) (λu s2=>∃t O,u=.ref t/\Inv X pins B O s2/\(∀a o,H1 a=some o->O a=some o)/\O t=some (.tup [.int (at2 ps i).1,.int (at2 ps i).2])/\zc4 X H1 O s1 s2) (λ_ _=>False) s1)
  (h:∀out H' s' c,Srt vs ps out->Inv X pins B H' s'->(∀a o,H a=some o->H' a=some o)->s'.heap.get? D=some (seqObj "list" out.toArray c)->H' D=none->U (.done (.ret .none)) s'):
  Aj (Ah X.prog X.w) A (ksk_tree D (.ref f) false) U E s:=by
 have s1:=yl7 s.heap D (Obj.mapSeq λ_=>(#[]:Array Ab));obtain⟨e1,C⟩:∃e1,(s.heap.update D (Obj.mapSeq λ_=>(#[]:Array Ab))).get? D=some (seqObj "list" #[] e1):=⟨_,yj5 P λ_=>#[]⟩;have r:(s.heap.update D (Obj.mapSeq λ_=>(#[]:Array Ab))).objs.size=s.heap.objs.size:=ys6 _ _ _;unfold ksk_tree;refine z76 (listItems_at P rfl ?_);refine z76 (yp7 P rfl ?_ (by rw[z99,yf3];exact dn j) (z94 _));generalize a0:s.heap.update D (Obj.mapSeq λ_=>(#[]:Array Ab))=h1 at s1 C r;refine z76 (seqEpoch_at C rfl ?_);refine z76 (yr2 ?_ (by show vs.length<=_;rw[yf3];exact dn j));refine z76 (wpAny_newList (yd5 ?_) (z94 _));have L:(h1.push (seqObj "tuple" vs.toArray 0)).objs.size=s.heap.objs.size+1:=by rw[size_push',r]
 have y:((h1.push (seqObj "tuple" vs.toArray 0)).push (seqObj "list" #[] 0)).get? (h1.push (seqObj "tuple" vs.toArray 0)).objs.size=some (seqObj "list" #[] 0):=z86 _ rfl;have K:((h1.push (seqObj "tuple" vs.toArray 0)).push (seqObj "list" #[] 0)).get? D=some (seqObj "list" #[] e1):=z79 _ (z79 _ C);have k1:∀b o,b∉[D]->s.heap.get? b=some o->((h1.push (seqObj "tuple" vs.toArray 0)).push (seqObj "list" #[] 0)).get? b=some o:=λb o hb e=>
  z79 _ (z79 _ ((s1.2 b (by simpa using hb)).trans e))
 have I0:Inv X pins B H {s with heap:=(h1.push (seqObj "tuple" vs.toArray 0)).push (seqObj "list" #[] 0),toks:=s.toks}:=I.turnL k1 λb hb=>by rw[z92.mp hb];exact N H Z
 generalize (h1.push (seqObj "tuple" vs.toArray 0)).push (seqObj "list" #[] 0)=h2 at y K k1 I0;generalize a5:(h1.push (seqObj "tuple" vs.toArray 0)).objs.size=kS at L y;have M:s.heap.objs.size<=kS:=by rw[L];exact yh7 _
 have fK:∀H',H' kS=none->xq X pins H' kS:=λH' hn=>I.fpOk M hn;have nK:(kS:Ad)∉frs X.stack:=λz=>by
  rcases z84.mp (I.stkSub _ z)with q|q
  .exact(I.fpOk (H':=λ_=>none) M rfl).2.1 q
  .exact(I.fpOk (H':=λ_=>none) M rfl).2.2.1 q
 have hne:=z96 (z83 (z90 P) M);unfold ksk_rest;refine z76 (yi8 ?_);rw[yu3];refine z76 (fB (s:={s with heap:=h2}) hlen j nD nK hne fK F ⟨H,[],[],0,I0,λ_ _ q=>q,K,y,Z,(I.hok.fresh M),.nil,.nil⟩ λs' hI=>?_);obtain⟨H1,ks,xs,e,I1,st,eD,eK,J,T,rv,pr⟩:=hI.ex;rw[hlen,yf6]at pr;have k:ks.length=vs.length:=by rw[<-rv.length,pr.len,hlen]
 refine z76 (listItems_at eK rfl ?_);unfold ksk_end;dsimp only;rw[if_neg (by decide)];have tail:∀(st':SortSt) (out:List Ab),out.length<=64->Srt vs ps out->failedOf st'=none->(arrOf st').map (·.2)=out.toArray->Aj (Ah X.prog X.w) A (ksk_tail D false e1 (.ref kS) st') U E s':=by
  intro st' out lo so hf G;unfold ksk_tail;dsimp only;rw[G,hf];refine z76 (yp7 eK rfl ?_ (by rw[z99,k,yf3];exact dn j) (z94 _));have s3:=yl7 s'.heap kS (Obj.mapSeq λ_=>(#[]:Array Ab));have m:=(s3.2 D hne).trans eD;have I3:Inv X pins B H1 {s' with heap:=s'.heap.update kS (Obj.mapSeq λ_=>(#[]:Array Ab)),toks:=s'.toks}:=I1.turnL (ch:=[kS]) (λb o hb q=>(s3.2 b (by simpa using hb)).trans q) λb hb=>by rw[z92.mp hb];exact fK H1 T
  generalize s'.heap.update kS (Obj.mapSeq λ_=>(#[]:Array Ab))=h3 at m I3;refine z76 (ym3 (z76 (seqEpoch_at m rfl ?_)));rw[if_neg (by decide)];refine z76 (yp7 m rfl ?_ (z94 _) (by rw[z99,yf3];lia));obtain⟨Y,W⟩:∃Y,(h3.update D (Obj.mapSeq λ_=>out.toArray)).get? D=some (seqObj "list" out.toArray Y):=⟨_,yj5 m λ_=>out.toArray⟩;simp only[bne_self_eq_false,yd0,yj2];have I4:=I3.turnL (ch:=[D]) (t':=s'.toks) (λb o hb q=>((yl7 h3 D (Obj.mapSeq λ_=>out.toArray)).2 b (by simpa using hb)).trans q) λb hb=>by rw[z92.mp hb];exact N H1 J
  exact z80 (h out H1 _ Y so I4 st W J)
 by_cases g:vs.toArray.size<2
 .rw[if_pos g,if_pos g];have S:vs.length<2:=by simpa using g
  refine z76 (z80 (z76 (z80 ?_)));dsimp only;have so:Srt vs ps vs:=by
   match vs,ps,S,hlen with
   |[],[],_,_=>exact⟨[],rfl,rfl,λ_ h=>by simp at h,.refl _,.nil⟩
   |[v],[p],_,_=>exact⟨[0],rfl,rfl,λi h=>by simp at h;subst h;simp,.refl _,by simp⟩
   |_::_::_,_,S,_=>simp only[ya1]at S;exact(zY6 S).elim
  refine tail _ vs (by lia) so rfl ?_;rw[if_neg (by decide)];apply Array.toList_inj.mp;rw[Array.toList_map,Array.toList_zip];exact List.map_snd_zip (ya2 k.symm)
 .rw[if_neg g,if_neg g,if_neg (by decide)];have h2:2<=vs.length:=by simp at g;exact g
  have ask:=jH (prog:=X.prog) (w:=X.w) (A:=A) (by rw[k];exact h2) (pr.prs I1 rv)
   (R:=λp l=>Srt vs ps (p.toList.map λi=>vs.getD i Value.none)/\l=s') (λix a b c d=>⟨⟨ix,by simp,a,b,c,d⟩,rfl⟩)
  refine z76 (ye0 ask (λκ s0 hk=>?_) λ_ _ x=>x.elim);rw[k]at hk;refine z76 (ye0 (kat_run (Q:=λst' l=>∃p:Array Nat,p.size=vs.length/\arrOf st'=p.map (kas_item (ks.toArray.zip vs.toArray))/\failedOf st'=none/\Srt vs ps (p.toList.map λi=>vs.getD i Value.none)/\l=s')
   k h2 j (λp' st' l a1 a2 a3 a4=>⟨p',a1,a2,a3,a4⟩) hk) ?_ λ_ _ e=>e)
  rintro⟨⟨⟩,st'⟩ l ⟨p,hp,V,hf,so,rfl⟩;dsimp only;exact tail st' _ (by rw[so.len,<-hlen];exact yd3 j) so hf (kat_snds k V)
end
section
variable {X:Cx}{pins:List (Ad×Obj)}{B:St}{H:Hp}{s:Ac}
def Inv.adopt {D:Ad}{o:HO}(I:Inv X pins B H s)(fp:xq X pins H D)(new:yn X.prog X.w (upd H D o) s.heap D o):Inv X pins B (upd H D o) s:=by
 have st:∀b u,H b=some u->upd H D o b=some u:=λb u e=>by rw[zc (zk e fp.1)];exact e
 have:=I.step (t':=s.toks) (d':=s.drawn) (λb hb=>by rw[z92.mp hb];exact⟨fp.2.2.2.1,fp.2.1,fp.2.2.2.2.1,fp.2.2.2.2.2⟩) (λb u _ _ _ e _=>e) (λb u _ _ _ e _=>⟨u.slots,e⟩) (λb u hb e n=>by rw[zc (by simpa using hb)];exact n)
  (λb u _ e=>⟨u,e⟩) (λb xs e=>st b _ e) (λb u xs e=>st b _ e) (λb ps e=>⟨#[],by rw[st b _ e];simp⟩) (λm hm=>hm) (λb u e=>?_) I.bare
 .exact this
 .by_cases hb:b=D
  .subst hb;rw[zi]at e;cases e;exact new
  .rw[zc hb]at e;exact(I.hok b u e).stay (λc v _ q=>q) (λc q=>st c _ q) λc xs q=>st c _ q
def oM {A:Am}{E:Ab->Ac->Prop}{l f:Ad}{vs:List Ab}{ps:List (Int×Int)}{Q:Ab->Ac->Prop}(I:Inv X pins B H s)(x:s.heap.IsList l vs.toArray)(hlen:vs.length=ps.length)(g:vs.length<64)
  (j:∀i v,vs[i]?=some v->∀H1 s1,Inv X pins B H1 s1->(∀a o,H a=some o->H1 a=some o)->
   Aj (Ah X.prog X.w) A.in1.in1 (call (.ref f) [v]) (λu s2=>∃t p,u=.ref t/\Inv X pins B p s2/\(∀a o,H1 a=some o->p a=some o)/\p t=some (.tup [.int (at2 ps i).1,.int (at2 ps i).2])/\zc4 X H1 p s1 s2) (λ_ _=>False) s1)
  (h:∀D out H' s' c,s.heap.objs.size<=D->Srt vs ps out->Inv X pins B H' s'->(∀a o,H a=some o->H' a=some o)->s'.heap.get? D=some (seqObj "list" out.toArray c)->H' D=none->xq X pins H' D->Q (.ref D) s'):
  Aj (Ah X.prog X.w) A (call (.builtin "sorted") [.ref l] [("key",.ref f)]) Q E s:=by
 refine call_function_entry_kw kind_sorted plain_sorted entry_sorted (ksk_s1 _ _) ?_;unfold Builtin.«sorted»;refine z76 (z80 ?_);refine z76 (collect_list x ?_ (by rw[yf3];exact dn g));refine z76 (wpAny_newList ?_ (by rw[yf3];exact dn g));have k:((s.heap.push (seqObj "list" #[] 0)).update s.heap.objs.size (Obj.mapSeq (·++vs.toArray))).objs.size=s.heap.objs.size+1:=by rw[ys6,size_push']
 have n:(((s.heap.push (seqObj "list" #[] 0)).update s.heap.objs.size (Obj.mapSeq (·++vs.toArray))).push (seqObj "list" vs.toArray 0)).get? (s.heap.objs.size+1)=some (seqObj "list" vs.toArray 0):=by rw[<-k];exact z86 _ rfl
 have keep:∀b o,s.heap.get? b=some o->(((s.heap.push (seqObj "list" #[] 0)).update s.heap.objs.size (Obj.mapSeq (·++vs.toArray))).push (seqObj "list" vs.toArray 0)).get? b=some o:=λb o q=>by
  have d:=z90 q;rw[yr7 _ _ _ (by rw[k];exact z96 (yg5 d)),Heap.get?_update_ne _ _ _ _ (z96 d),yr7 _ _ _ (z96 d)];exact q
 rw[k];have C:Inv X pins B H {s with heap:=((s.heap.push (seqObj "list" #[] 0)).update s.heap.objs.size (Obj.mapSeq (·++vs.toArray))).push (seqObj "list" vs.toArray 0),toks:=s.toks}:=I.kept keep;have m:s.heap.objs.size<=s.heap.objs.size+1:=yh7 _;refine z76 (yd5 (wpAny_call_entry_kw slot_list_sort ⟨_,n,rfl⟩ entry_list_sort ?body (ksk_l1 _ _)))
 case body=>
  rw[ksk_t1];refine kU C n hlen g (I.hok.fresh m) (λz=>?_) (λH' hn=>I.fpOk m hn) j λout H' s' c so y st e r=>?_
  .rcases z84.mp (I.stkSub _ z)with q|q
   .exact(I.fpOk (H':=λ_=>none) m rfl).2.1 q
   .exact(I.fpOk (H':=λ_=>none) m rfl).2.2.1 q
  .exact⟨_,rfl,z80 ⟨_,rfl,h _ out H' s' c m so y st e r (I.fpOk m r)⟩⟩
end
section
variable {X:Cx}{a:Al}{p pos kpos lpos p1 p2 p3 p4 p5 p6:Pos}{n1:Nat}{x y:Str}{params:Arguments}{scope:Aq}
noncomputable abbrev pairE (x y:Str)(n1:Nat)(p1 p2 p3 p4 p5 p6:Pos):Al:=.Tuple [.Subscript (.Name y p1) (.Name x p2) p3,.UnaryOp .USub (.Name x p4) p5] n1 p6
noncomputable def keyOf (zs:List Int)(n:Int):Int×Int:=(zs.getD n.toNat 0,-n)
def zm2 {P:Ag}{w:Ak}{K:Ae}{mg:Str->Option Ab}{base:Ao}{f c cl l:Ad}{A:Am}{outer:List Ar}{s:Ac}{H:Hp}{u ul:Ab}{k:Nat}{n:Int}{zs:List Int}
  (S:xV x y params scope) (hr:zM k A) (o:uW P w K mg base A outer s H) (hf:H f=some (dX f c wz params (pairE x y n1 p1 p2 p3 p4 p5 p6) scope [(y,cl)])) (m:H c=some (sf c)) (hcl:s.heap.IsCell cl (some ul)) (b:H cl=none) (h:RelV (.int n) u) (e:RelV (.ref l) ul)
  (hb:∀pm ctv,bindArgs (PySem.W.kla_fn "<lambda>" wz params (pairE x y n1 p1 p2 p3 p4 p5 p6) scope [(y,cl)] pm (.ref c) ctv) ⟨[u],[]⟩=pure [(x,u)])
  (hdx:(x == ("__debug__":Str))=false) (hdy:(y == ("__debug__":Str))=false) (hcx:(x == ("__classdict__":Str))=false) (hcy:(y == ("__classdict__":Str))=false)
  (g:SqL K H l (zs.map V.int)) (h0:0<=n) (h1:n<zs.length):
  codeAny (Ah P w) A (.call (.ref f) ⟨[u],[]⟩) (CR CX0 outer P w H s (λv H'=>∃t,v=.ref t/\H t=none/\H'=upd H t (.tup [.int (keyOf zs n).1,.int (keyOf zs n).2])) E0) s:=by
 obtain⟨j,rfl⟩:=yj0 h0;have d:=(om9 h1);refine zw1 S hr o hf m hcl b h e hb (kM (zv (yI zS (xi (i:=1) rfl (Or.inr (Or.inr S.py)) hdy hcy) (xi (i:=0) rfl (Or.inl S.px) hdx hcx) (λ_ _=>rfl)) (zv (zz0 bM (xi (i:=0) rfl (Or.inl S.px) hdx hcx)) zJ))) ?_;refine⟨_,rfl,_,rfl,l,_,_,.int (zs.getD j 0),rfl,rfl,g,yC ?_,_,rfl,_,rfl,(by show 2<=sizeLine;decide),λt q=>⟨t,rfl,q,?_⟩⟩
 .rw[z88,z78 d,z85,z78 d];rfl
 .simp[keyOf]
def sF (ns zs ms:List Int):Prop:=ms.Perm ns/\ms.Pairwise λm k=>lx (keyOf zs k) (keyOf zs m)=false
def zk1 {ns zs:List Int}{vs out:List Ab}(r:Vals (ns.map V.int) vs)(h:Srt vs (ns.map (keyOf zs)) out):∃ms,sF ns zs ms/\Vals (ms.map V.int) out:=by
 obtain⟨b,rfl,d,hb,c,hw⟩:=h;have at_:∀i∈b,at2 (ns.map (keyOf zs)) i=keyOf zs (ns.getD i 0):=λi hi=>by
  have:=hb i hi;rw[z77]at this;unfold at2;rw[z85,z88,z78 this,z85,z78 this];rfl
 have em:b.map (at2 (ns.map (keyOf zs)))=(b.map λi=>ns.getD i 0).map (keyOf zs):=by
  rw[yi7];exact List.map_congr_left at_
 rw[em]at c hw;have inv:∀l:List Int,(l.map (keyOf zs)).map (λq=>-q.2)=l:=λl=>by
  rw[yi7];have:((λq:Int×Int=>-q.2)∘keyOf zs)=id:=by funext n;simp[keyOf]
  rw[this,List.map_id]
 refine⟨b.map λi=>ns.getD i 0,⟨?_,List.pairwise_map.mp hw⟩,?_⟩
 .have:=c.map (λq=>-q.2)
  rwa [inv,inv]at this
 .clear em c hw d
  induction b with
  |nil=>exact .nil
  |cons i b e=>
   refine .cons ?_ (e (λk hk=>hb k (z87 _ hk)) λk hk=>at_ k (z87 _ hk));have hi:=hb i z89;rw[z77]at hi;refine kb r i _ ?_;show _=some (V.int (ns.getD i 0));rw[z88,z78 hi,z85,z78 hi];rfl
def wt {K:Ae}{H H':Hp}{a:Ad}{xs:List V}(h:SqL K H a xs)(k:∀a o,(∀ps,o≠.tbl ps)->H a=some o->H' a=some o):SqL K H' a xs:=by
 rcases h with(h|⟨o,h⟩)|h
 .exact .inl (.inl (k _ _ (λ_ z=>by cases z) h))
 .exact .inl (.inr ⟨o,k _ _ (λ_ z=>by cases z) h⟩)
 .exact .inr h
theorem jP {ta:TE}{j k:Nat}{c:Ad}(S:xV x y params scope)(hr:zM (k+2) X.A)(hg:Gl X "sorted")(hm:X.mg "sorted"=none)(hN:X.N[j]?=some y)(hy:X.env.scope.names.lookup y=some .cell)
  (hcl:∀cl,X.env.cells.lookup y=some cl->closureFor scope X.env=pure [(y,cl)]) (hgl:X.env.globals=Ai) (hco:X.env.code=.ref c) (hhd:PySem.W.CodeHd X.base c yH) (hbi:X.base.BuiltinsAt X.mg yH) (hdf:defaultsOf params X.env=([],[])) (hq:X.env.qual++("<lambda>":Str)=wz) (hne:Ai≠yH)
  (hb:∀u cl c' pm ctv,bindArgs (PySem.W.kla_fn "<lambda>" wz params (pairE x y n1 p1 p2 p3 p4 p5 p6) scope [(y,cl)] pm (.ref c') ctv) ⟨[u],[]⟩=pure [(x,u)])
  (hdx:(x == ("__debug__":Str))=false) (hdy:(y == ("__debug__":Str))=false) (hcx:(x == ("__classdict__":Str))=false) (hcy:(y == ("__classdict__":Str))=false) (ha:PE X a ta)
  (he:Af [a] X.env=(false,eval a X.env)::Af [] X.env:=by rfl) (a1:backTo pos (Af [a] X.env)=(false,eval a X.env)::backTo pos (Af [] X.env):=by rfl) (hpl:((backTo pos (Af [a] X.env)).any λx=>x.1)=false:=by rfl):
  PE X (.Call (.Name "sorted" p) [a] [⟨some "key",.Lambda params (pairE x y n1 p1 p2 p3 p4 p5 p6) scope lpos,kpos⟩] pos)
   (λB H Q=>ta B H λv H1=>∃l ns M zs,v=.ref l/\SqL X.K H1 l (ns.map V.int)/\B[j]?=some (some (.ref M))/\SqL X.K H1 M (zs.map V.int)/\ns.length<64/\(∀n∈ns,0<=n/\n<zs.length)/\TabAt H1/\
    ∀D H' ms,H1 D=none->H' D=some (.lst (ms.map V.int))->sF ns zs ms->TabAt H'->(∀a o,a≠yH->H1 a=some o->H' a=some o)->Q (.ref D) H'):=by
 intro pins s B H Q I h;refine yn9 (yZ I hg hm boot_sorted ?_)
 let Pd:V->Hp->Prop:=λv H1=>∃l ns M zs,v=.ref l/\SqL X.K H1 l (ns.map V.int)/\B[j]?=some (some (.ref M))/\SqL X.K H1 M (zs.map V.int)/\ns.length<64/\(∀n∈ns,0<=n/\n<zs.length)/\TabAt H1/\
    ∀D H' ms,H1 D=none->H' D=some (.lst (ms.map V.int))->sF ns zs ms->TabAt H'->(∀a o,a≠yH->H1 a=some o->H' a=some o)->Q (.ref D) H'
 refine callWith_kw (thn (zv ha zJ he pos pins s B H (λvs H1=>match vs with|[v]=>Pd v H1|_=>False) I h) λus s1 a3=>?_) a1 hpl;obtain⟨vs,H1,I1,r1,q1⟩:=a3
 match vs,r1,q1 with
 |[v],r1,q1=>
  obtain⟨u,rfl,ru⟩:=vals1 r1;obtain⟨l,ns,M,zs,rfl,hS,U,hZ,P,a6,T,q⟩:=(q1);obtain⟨m,hn,hl⟩:=id I1.loc;obtain⟨ul,rl,lk⟩:=hl j y _ hN U (.inr (.inl hy));obtain⟨cl,G,a2⟩:∃cl,X.env.cells.lookup y=some cl/\s1.heap.IsCell cl (some ul):=by
   rcases lk with⟨z,_⟩|⟨_,cl,z1,z2⟩
   .have z:X.env.scope.names.lookup y=some .local:=z;rw[hy]at z;cases z
   .exact⟨cl,z1,z2⟩
  show Aj _ _ (evalAll ((do let v <-eval (.Lambda params (pairE x y n1 p1 p2 p3 p4 p5 p6) scope lpos) X.env;standAt pos;pure v)::[])) _ _ s1;refine wpAny_evalAll_cons (z76 (bZ I1 (hcl cl G) hgl hco hhd hbi hdf hq hne T λf c' H2 s2 I2 T2 O a7 hf Z L=>z76 (wpAny_standAt (z80 (wpAny_evalAll_nil ?_)))));cases ru;have w:∀a o,(∀ps,o≠.tbl ps)->H1 a=some o->H2 a=some o:=λa o no e=>O a o (λz=>by
   obtain⟨ps,t1,_⟩:=T.ex;rw[z,t1]at e;cases e;exact no _ rfl) e
  have Z2:=wt hZ w;obtain⟨a9,r,ht,hz⟩:=I2.list (wt hS w);have C:a9.length=ns.length:=by rw[<-r.length,z77]
  refine oM (ps:=ns.map (keyOf zs)) I2 ht.isList (by rw[z77];exact C) (ya7 (ya2 C) P) (λi v hv H3 s3 I3 w=>?_) λD out H' s' c0 lD so I' st e fD fp=>?_
  .have hi:i<ns.length:=by rw[<-C];exact(z81.mp hv).1
   have rv:RelV (.int ns[i]) v:=by
    have:=kb r i (.int ns[i]) (by rw[z88,z78 hi];rfl)
    rwa [z85,hv]at this
   obtain⟨m3,b5,b1⟩:=id I3.loc;obtain⟨b2,a5,a4⟩:=b1 j y _ hN U (.inr (.inl hy));have J:s3.heap.IsCell cl (some b2):=by
    rcases a4 with⟨z,_⟩|⟨_,b4,z1,z2⟩
    .have z:X.env.scope.names.lookup y=some .local:=z;rw[hy]at z;cases z
    .rw[G]at z1;cases z1;exact z2
   have Y:=a6 ns[i] (ye9 hi);have ek:at2 (ns.map (keyOf zs)) i=keyOf zs ns[i]:=by
    unfold at2;rw[z85,z88,z78 hi];rfl
   rw[ek];have Z3:=wt Z2 λa o _ e=>w a o e;refine wpAny_call (yp0 (zm2 S hr.in1.in1 I3.env0.in1.in1 (w _ _ Z) (w _ _ L) J (I3.freeC y cl G) rv a5 (λpm ctv=>hb _ _ _ pm ctv) hdx hdy hcx hcy Z3 Y.1 Y.2) λrr s4 E=>?_);cases rr with
   |error e=>exact False.elim E
   |ok fl=>
    cases fl with
    |next=>exact False.elim E
    |brk=>exact False.elim E
    |cont=>exact False.elim E
    |ret u4=>
     obtain⟨v4,H4,os,bare,un,hok,r4,t,rfl,b0,a0⟩:=E;cases r4;obtain⟨hh,g,d,tk,a8⟩:=s4;obtain rfl:a8=s3.os:=os;refine⟨t,H4,rfl,I3.call un hok bare (λb z=>absurd z (by simp)),λa o e=>?_,by rw[a0];exact zi,λb o e n nf=>⟨un.keep b o e n nf (by simp),un.free b o e n (by simp)⟩⟩;rw[a0,zc (zk e b0)];exact e
  .obtain⟨ms,sm,rm⟩:=zk1 r so;have nD:∀a o,H' a=some o->a≠D:=λa o e z=>by rw[z,fD]at e;cases e
   have F:=I2.hok.fresh lD;have R:∀a o,H2 a=some o->upd H' D (.lst (ms.map V.int)) a=some o:=λa o e=>by rw[zc (nD a o (st a o e))];exact st a o e
   refine⟨.ref D,upd H' D (.lst (ms.map V.int)),I'.adopt fp ⟨?_,out,c0,rm,e⟩,rfl,q D _ ms ?_ zi sm (T2.same λa o _ e=>R a o e) λa o no e=>R a o (O a o no e)⟩
   .rw[z77,sm.1.length_eq,yf3];exact dn P
   .cases z:H1 D with
    |none=>rfl
    |some o=>
     by_cases nt:∀ps,o≠.tbl ps
     .rw[w D o nt z]at F;cases F
     .simp only[Classical.not_forall,Classical.not_not]at nt;obtain⟨qs,rfl⟩:=nt;obtain⟨b3,w'⟩:=a7 D qs z;rw[w']at F;cases F
end
section
variable {X:Cx}{O:Ev}{p q pos:Pos}{a b:Al}
theorem rQ {G:Hp}:∀ns:List Int,AVs G (ns.map V.int) (ns.map .int)
 |[]=>.nil
 |n::ns=>.cons (.int n) (rQ ns)
theorem mv {Q:List Aa->Prop}(G:X.calm=true)(hg:Gl X "list")(hm:X.mg "list"=none)(s:Gl X "range")(n:X.mg "range"=none)(h:EvD X O a λx=>EvD X O b λy=>∃i j,x=.int i/\y=.int j/\(-(2 ^ 62)<=i/\i<2 ^ 62/\-(2 ^ 62)<=j/\j<2 ^ 62)/\(j-i).toNat<=1000/\Q ((zp i (j-i).toNat).map .int))
  (he:Af [.Call (.Name "range" q) [a,b] [] p] X.env=(false,eval (.Call (.Name "range" q) [a,b] [] p) X.env)::Af [] X.env:=by rfl) (e:Af [a,b] X.env=(false,eval a X.env)::Af [b] X.env:=by rfl) (g:Af [b] X.env=(false,eval b X.env)::Af [] X.env:=by rfl)
  (hpl:(backTo p (Af [b] X.env)).any (·.1)=false:=by rfl) {N:Pos}:EvL X O (.Call (.Name "list" N) [.Call (.Name "range" q) [a,b] [] p] [] pos) Q:=λF B H R m k=>by
 refine⟨_,xX (qM G) hg hm boot_list (zv (xX mO s n boot_range (zv zg (zv zg zJ g) e) (he:=e) (hpl:=hpl)) zJ he),h F B H _ m λx T H1 J t1 v C=>?_⟩;have m1:=m.kz v t1;refine J F B H1 _ m1 λy S f I A u D=>?_;obtain⟨i,j,rfl,rfl,⟨L,P,K,M⟩,E,q⟩:=I;cases C.int_inv;cases D.int_inv;refine⟨i,j,rfl,λr hr=>⟨r,i,j,rfl,zi,⟨L,P,K,M⟩,yd3 (yp E),by lia,λl d=>?_⟩⟩;have t:l≠r:=λz=>by rw[z,zi]at d;cases d
 have c:f l=none:=by rw[zc t]at d;exact d
 have w:=v.trans u;have s1:zt f (upd (upd f r (.rng i j)) l (.lst ((zp i (j-i).toNat).map V.int))):=(yg hr).trans (yg d);refine k _ _ _ q (A.same s1) (w.trans (Kz.of_same s1)) ⟨l,_,rfl,?_,zi,rQ _⟩;cases z:H l with
 |none=>rfl
 |some o=>rw[w l o z (m.tp.nt (ow0 ((m1.kz u A).fresh c)))]at c;cases c
end
section
variable {X:Cx}{O:Ev}{p pos:Pos}{a b:Al}{Q:Aa->Prop}
end
theorem AVs.ints {H:Hp}{xs:List V}{ns:List Int}(h:AVs H xs (ns.map .int)):xs=ns.map V.int:=by
 induction ns generalizing xs with
 |nil=>cases h;rfl
 |cons n ns a=>cases h with
  |cons h b=>rw[ya6,a b,h.int_inv]
section
variable {X:Cx}{O:Ev}{a:Al}{p pos kpos lpos p1 p2 p3 p4 p5 p6:Pos}{n1:Nat}{x y:Str}{params:Arguments}{scope:Aq}
structure bL (X:Cx)(c:Ad)(x y:Str)(n1:Nat)(p1 p2 p3 p4 p5 p6:Pos)(params:Arguments)(scope:Aq):Prop where
 S:xV x y params scope
 hy:X.env.scope.names.lookup y=some .cell
 hcl:∀cl,X.env.cells.lookup y=some cl->closureFor scope X.env=pure [(y,cl)]
 hgl:X.env.globals=Ai
 hco:X.env.code=.ref c
 hhd:PySem.W.CodeHd X.base c yH
 hbi:X.base.BuiltinsAt X.mg yH
 hdf:defaultsOf params X.env=([],[])
 hq:X.env.qual++("<lambda>":Str)=wz
 hne:Ai≠yH
 hb:∀u cl c' pm ctv,bindArgs (PySem.W.kla_fn "<lambda>" wz params (pairE x y n1 p1 p2 p3 p4 p5 p6) scope [(y,cl)] pm (.ref c') ctv) ⟨[u],[]⟩=pure [(x,u)]
 hdx:(x == ("__debug__":Str))=false
 hdy:(y == ("__debug__":Str))=false
 hcx:(x == ("__classdict__":Str))=false
 hcy:(y == ("__classdict__":Str))=false
def kr {j k:Nat}{c:Ad}{Q:List Aa->Prop}(T:bL X c x y n1 p1 p2 p3 p4 p5 p6 params scope)(hr:zM (k+2) X.A)(hg:Gl X "sorted")(hm:X.mg "sorted"=none)(K:X.N[j]?=some y)
  (h:EvD X O a λd=>∃ns zs:List Int,d=.list (ns.map .int)/\O[j]?=some (some (.dat (.list (zs.map .int))))/\ns.length<64/\(∀n∈ns,0<=n/\n<zs.length)/\∀ms,sF ns zs ms->Q (ms.map .int))
  (he:Af [a] X.env=(false,eval a X.env)::Af [] X.env:=by rfl) (g:backTo pos (Af [a] X.env)=(false,eval a X.env)::backTo pos (Af [] X.env):=by rfl) (hpl:((backTo pos (Af [a] X.env)).any λx=>x.1)=false:=by rfl):
  EvL X O (.Call (.Name "sorted" p) [a] [⟨some "key",.Lambda params (pairE x y n1 p1 p2 p3 p4 p5 p6) scope lpos,kpos⟩] pos) Q:=λF B H R m k=>by
 refine⟨_,jP T.S hr hg hm K T.hy T.hcl T.hgl T.hco T.hhd T.hbi T.hdf T.hq T.hne T.hb T.hdx T.hdy T.hcx T.hcy zg he g hpl,h F B H _ m λd V H1 I t1 s E=>?_⟩;have m1:=m.kz s t1;obtain⟨ns,zs,rfl,G,i,f,q⟩:=I;obtain⟨l,xs,rfl,g1,g2⟩:=E.lst_inv;obtain⟨v,s1,s2⟩:=m1.dat j _ G;obtain⟨J,ys,rfl,g3,C⟩:=s2.lst_inv;cases g2.ints;cases C.ints;refine⟨l,ns,J,zs,rfl,SqL.of (zf g1).2,s1,SqL.of (zf g3).2,i,f,t1.tab,λD H' ms r u L P kp=>?_⟩;have w:∀a xs,H1 a=some (.lst xs)->H' a=some (.lst xs):=λa xs e=>kp a _ (λz=>by
  obtain⟨ps,e1,_⟩:=t1.tab.ex;rw[z,e1]at e;cases e) e
 have kz:Kz F H1 H':=λx o e n=>kp x o n.2 e;refine k _ _ H' (q ms L) ⟨P,t1.ot,λt b c e=>⟨?_,(t1 t b c e).2⟩⟩ (s.trans kz) ⟨D,_,rfl,?_,u,rQ _⟩
 .obtain⟨n,bs,cs,n1,e1,U,M,l1,l2⟩:=(t1 t b c e).1.ex;exact⟨n,bs,cs,n1,w _ _ e1,w _ _ U,w _ _ M,l1,l2⟩
 .cases z:H D with
  |none=>rfl
  |some o=>rw[s D o z (m.tp.nt (ow0 (m1.fresh r)))]at r;cases r
end
section
variable {P:Ag}{w:Ak}{K:Ae}{mg:Str->Option Ab}{base:Ao}
def z56 {x qual:Str}{st:An}{f:Ad}{N ps:List Str}{k:Nat}{φ:List A->(A->Prop)->Prop}{oc:Ab}{od an:Option Ad}{osl:Array (Option Ab)}{kV doc pm cdv ct:Ab}
  (p:K.lookup f=some ⟨oc,od,.func (PySem.W.fnOf x qual (zT st) (zw st) (zh st) .none kV doc pm an cdv ct),osl⟩) (i:PySem.W.codeIn K cdv qual=true) (S:zZ N ps (zh st)) (hlen:∀as Q,φ as Q->as.length=ps.length)
  (c:∀(d:Am) (outer:List Ar) (s:Ac) (H:Hp) (E:XK) (as:List A) (Q:A->Prop),zM k (d.deeper (envOfC qual (zh st) s.heap.objs.size f cdv))->φ as Q->
   SvS (vM CX0 P w K mg base N qual (zh st) f cdv d outer s H E).nox (as.map some++List.replicate (N.length-as.length) none) (zw st) {nx:=λ_=>Q (.dat .none),rt:=Q}):yM P w K mg base CX0 (k+1) f (PySem.W.fnOf x qual (zT st) (zw st) (zh st) .none kV doc pm an cdv ct) ps (spA φ):=by
 refine zg7 p i S (λvs H Q E h=>?_) (λd outer s H vs j E hr h=>?_)
 .obtain⟨F,as,l,_,_,_,g,b,_⟩:=h;rw[g.length,hlen as _ b]
 .obtain⟨F,as,l,e,t,o,g,b,n⟩:=h;have:=c d outer s H E as l hr b F _ H {nx:=λ_ H'=>j .non H',rt:=j} (M.start e t o g) ⟨λO B H' m q=>?_,λa v H' r q=>n a v H' q r,λ_ _ _ _ z=>z.elim,λ_ _ _ _ z=>z.elim⟩
  .obtain⟨t,h,q⟩:=this;exact⟨t,h.nox,q⟩
  .exact n _ _ _ q ⟨m.tp,m.keep,.non⟩
end
section
variable {X:Cx}{O:Ev}{Q:Aa->Prop}{a b:Al}{pos:Pos}
end
def mF (c:Int)(n:Nat):zp c (n+1)=zp c n++[c+(n:Nat)]:=by simp[zp,List.range_succ]
def yt {c m:Int}{n:Nat}:m∈zp c n↔c<=m/\m<c+n:=by
 simp only[zp,ye2,yr0]
 constructor
 .rintro⟨i,hi,rfl⟩;lia
 .rintro⟨h1,h2⟩;exact⟨(m-c).toNat,by lia,(zS6 h1)⟩
theorem pN (c:Int):∀n:Nat,(zp c n).Nodup
 |0=>by simp[zp]
 |n+1=>by
  rw[mF,List.nodup_append];refine⟨pN c n,by simp,?_⟩;intro a ha b hb;rw[yt]at ha;simp at hb;exact Int.ne_of_lt (yk1 ha.2 (Int.le_of_eq hb.symm))
def sr (zs:List Int)(many free i:Nat)(bs:List Bool):Prop:=
 bs.length=zs.length/\(∀j,i / many*many<=j->bs.getD j false=false)/\∀k,k<i / many->∃ms:List Int,sF (zp ((k*many:Nat):Int) many) zs ms/\∀q,q<many->bs.getD (ms.getD q 0).toNat false=decide (q<free)
def fg (zs:List Int){many:Nat}(free:Nat):sr zs many free 0 (List.replicate zs.length false):=by
 refine⟨by simp,λj _=>?_,λk hk=>?_⟩
 .rw[z85,yl5];split<;>rfl
 .rw[Nat.zero_div]at hk;exact(yd4 _ (ya7 (z94 _) hk)).elim
def rZ {i many:Nat}(h:0<many)(h1:i % many+1<many):(i+1) / many=i / many/\(i+1) % many=i % many+1:=by
 have e:=yq4 i many;have a:i+1=(i % many+1)+many*(i / many):=by lia
 constructor
 .rw[a,Nat.add_mul_div_left _ _ h,Nat.div_eq_of_lt h1,Nat.zero_add]
 .rw[a,Nat.add_mul_mod_self_left,Nat.mod_eq_of_lt h1]
def lE {i many:Nat}(h:0<many)(h1:i % many+1=many):(i+1) / many=i / many+1/\(i+1) % many=0/\(i / many+1)*many=i+1:=by
 have e:=yq4 i many;have a:many*(i / many+1)=i+1:=by rw[Nat.mul_add,Nat.mul_one];lia
 refine⟨?_,?_,?_⟩
 .rw[<-a,Nat.mul_div_cancel_left _ h]
 .rw[<-a,Nat.mul_mod_right]
 .rw[Nat.mul_comm];exact a
def fw {zs:List Int}{many free i:Nat}{bs:List Bool}(h:0<many)(h1:i % many+1<many)(m:sr zs many free i bs):sr zs many free (i+1) bs:=by
 unfold sr at *;rw[(rZ h h1).1];exact m
def uz {lo:Int}{n:Nat}{zs ms:List Int}(s:sF (zp lo n) zs ms){q:Nat}(h:q<n):lo<=ms.getD q 0/\ms.getD q 0<lo+n:=by
 have a:ms.length=n:=by rw[s.1.length_eq,zb]
 have:ms.getD q 0∈ms:=by
  rw[z85,z78 (z83 h (ya2 a.symm))];exact ye9 _
 exact yt.mp (s.1.mem_iff.mp this)
def fL {zs ms:List Int}{many free i:Nat}{bs a:List Bool}(h:0<many)(h1:i % many+1=many)(m:sr zs many free i bs)(s:sF (zp ((i / many*many:Nat):Int) many) zs ms)
  (l:a.length=bs.length) (e1:∀q,q<many->a.getD (ms.getD q 0).toNat false=decide (q<free)) (f:∀j,(∀q,q<many->(ms.getD q 0).toNat≠j)->a.getD j false=bs.getD j false):sr zs many free (i+1) a:=by
 obtain⟨e,o,n⟩:=lE h h1;obtain⟨m1,m2,m3⟩:=m;refine⟨by rw[l,m1],λj g=>?_,λk hk=>?_⟩
 .rw[e,n]at g;rw[f j λq hq=>?_,m2 j (by lia)];have:=uz s hq
  lia
 .rw[e]at hk;by_cases b:k=i / many
  .subst b;exact⟨ms,s,e1⟩
  .obtain⟨d,s2,f2⟩:=m3 k (zd2 hk b);refine⟨d,s2,λq hq=>?_⟩;rw[f _ λp c=>?_,f2 q hq];have a1:=uz s c;have a2:=uz s2 hq;have:(k+1)*many<=i / many*many:=Nat.mul_le_mul_right _ (by lia);rw[Nat.add_mul,Nat.one_mul]at this
   lia
def zO2 {lo:Int}{n:Nat}{zs ms:List Int}(s:sF (zp lo n) zs ms){m:Int}(h1:lo<=m)(h2:m<lo+n):∃q,q<n/\ms.getD q 0=m:=by
 have a:ms.length=n:=by rw[s.1.length_eq,zb]
 obtain⟨q,hq,e⟩:=yi9.mp (s.1.mem_iff.mpr (yt.mpr ⟨h1,h2⟩));exact⟨q,(z83 hq (ya2 a)),by rw[z85,z78 hq];exact e⟩
open PySem (IsZip)
section
variable {prog:Ag}{w:Ak}{A:Am}{E:Ab->Ac->Prop}{s:Ac}
def nX {M:Model}{a:Ad}{Q:Option Obj->Ac->Prop}(h:Q (s.heap.get? a) s):Aj M A (loadIfAlive a) Q E s:=λc p b=>by
 show Sem.wp M c (.loadIfAlive a .pure) _ _ p s;rw[Sem.wp_loadIfAlive];exact h
noncomputable abbrev zO (f0 f1:Ab)(TI TO:Ad):Obj:={cls:=.type "zip",dict:=none,data:=.fields #[f0,f1,.bool false,.ref TI,.ref TO],slots:=#[]}
noncomputable abbrev tO3 (a b c:Ab):Obj:={cls:=.type "tuple",data:=.seq #[a,b,c]}
def xQ {T:Ad}{a b c x:Ab}{k:Nat}{Q:Unit->Ac->Prop}(d:s.heap.get? T=some (tO3 a b c))
  (h:∀h',h'.get? T=some {cls:=.type "tuple",data:=.seq ((#[a,b,c]:Array Ab).setIfInBounds k x)}->Heap.SameBut T s.heap h'->Q () {s with heap:=h'}):
  Aj (Ah prog w) A (updateSeq T (·.setIfInBounds k x)) Q E s:=by
 refine yh1 d rfl (h _ ?_ (yl7 ..));rw[yi4 _ d rfl];simp[Obj.mapSeq]
structure wO (h:Ao)(n:Nat)(l1 l2 l3:Ad)(k:Nat)(f0 f1 a b c:Ab):Prop where
 z:h.get? (n+5:Nat)=some (zO f0 f1 (n+3:Nat) (n+4:Nat))
 ti:h.get? (n+3:Nat)=some (tO3 (.ref (n:Nat)) (.ref (n+1:Nat)) (.ref (n+2:Nat)))
 to:h.get? (n+4:Nat)=some (tO3 a b c)
 i1:h.IsListIter (n:Nat) l1 k
 i2:h.IsListIter (n+1:Nat) l2 k
 i3:h.IsListIter (n+2:Nat) l3 k
noncomputable abbrev z3 (n:Nat):List Ad:=[(n:Nat),(n+1:Nat),(n+2:Nat),(n+3:Nat),(n+4:Nat),(n+5:Nat)]
def zr (a b:Nat)(h:a<b\/b<a):@Ne Ad a b:=λe=>by lia
def jG {n l1 l2 l3:Nat}{k:Nat}{f1 a b c x y z:Ab}{xs ys zs:Array Ab}{Q:Ab->Ac->Prop}(h1:l1<n)(h2:l2<n)(h3:l3<n)(Z:wO s.heap n l1 l2 l3 k .none f1 a b c)
  (a6:s.heap.IsList l1 xs) (a7:s.heap.IsList l2 ys) (a5:s.heap.IsList l3 zs) (hx:xs[k]?=some x) (hy:ys[k]?=some y) (hz:zs[k]?=some z)
  (hQ:∀h',wO h' n l1 l2 l3 (k+1) (rawInt s.heap.objs.size) (.bool false) x y z->h'.get? s.heap.objs.size=some (tO3 x y z)->
   (∀c o,c∉z3 n->s.heap.get? c=some o->h'.get? c=some o)->Q (.ref s.heap.objs.size) {s with heap:=h'}):
  Aj (Ah prog w) A (Builtin.«zip.__next__» ⟨[.ref (n+5:Nat)],[]⟩) (λfin s'=>∃v,fin=.done (.ret v)/\Q v s') E s:=by
 obtain⟨H,Y,a4,g1,g2,g3⟩:=Z;show Aj _ _ (field (.ref _) 2 >>= _) _ _ _;refine z76 (ym4 H rfl rfl ?_);refine z76 (ym4 H rfl rfl (z76 (yf5 Y rfl ?_)));refine z76 ?_;unfold Builtin.SmallTypes.ownedTupleIsFree;refine z76 (ym4 H rfl rfl (z80 ?_));simp only[yl9];refine z76 (yi8 (z76 (ym4 H rfl rfl ?_)));refine z76 (yg2 H (by simp) λX t d=>?_)
 replace t:X.get? (n+5:Nat)=some (zO .ellipsis f1 (n+3:Nat) (n+4:Nat)):=t
 refine z76 ?_;simp only[List.zipIdx_cons,List.zipIdx_nil,yt6,List.forIn_nil];refine z76 (z76 (wpAny_onRaise ?_));refine z76 (yj8 (g1.extBut d.extBut (by refine zr _ _ ?_;exact zj8)) (a6.extBut d.extBut (by refine zr _ _ ?_;exact .inl (z83 h1 (ya0 _ _)))) hx λa8 L g=>z80 ?_);have D:=g.extBut _ _ (by refine zr _ _ ?_;exact zB7) (d.extBut _ _ (by refine zr _ _ ?_;exact zf2) a4);refine z76 (yf5 D rfl (z76 (xQ D λa0 r f=>?_)))
 replace r:a0.get? (n+4:Nat)=some (tO3 x b c):=r
 refine z76 (ym3 (z80 (z76 (z76 (wpAny_onRaise ?_)))));refine z76 (yj8 (((g2.extBut d.extBut (by refine zr _ _ ?_;exact zf1)).extBut g.extBut (by refine zr _ _ ?_;exact .inr (yd7 _))).extBut f.extBut (by refine zr _ _ ?_;exact aa))
  (((a7.extBut d.extBut (by refine zr _ _ ?_;exact .inl (z83 h2 (ya0 _ _)))).extBut g.extBut (by refine zr _ _ ?_;exact .inl h2)).extBut f.extBut (by refine zr _ _ ?_;exact .inl (z83 h2 (ya0 _ _)))) hy λa9 T h=>z80 ?_)
 have B:=h.extBut _ _ (by refine zr _ _ ?_;exact zC4) r;refine z76 (yf5 B rfl (z76 (xQ B λa2 q i=>?_)))
 replace q:a2.get? (n+4:Nat)=some (tO3 x y c):=q
 refine z76 (ym3 (z80 (z76 (z76 (wpAny_onRaise ?_)))));refine z76 (yj8 (((((g3.extBut d.extBut (by refine zr _ _ ?_;exact zb8)).extBut g.extBut (by refine zr _ _ ?_;exact zF2)).extBut f.extBut (by refine zr _ _ ?_;exact zl6)).extBut h.extBut (by refine zr _ _ ?_;exact zB4)).extBut i.extBut (by refine zr _ _ ?_;exact zl6))
  (((((a5.extBut d.extBut (by refine zr _ _ ?_;exact .inl (z83 h3 (ya0 _ _)))).extBut g.extBut (by refine zr _ _ ?_;exact .inl h3)).extBut f.extBut (by refine zr _ _ ?_;exact .inl (z83 h3 (ya0 _ _)))).extBut h.extBut (by refine zr _ _ ?_;exact .inl (z83 h3 (ya0 _ _)))).extBut i.extBut (by refine zr _ _ ?_;exact .inl (z83 h3 (ya0 _ _)))) hz λb0 P j=>z80 ?_)
 have C:=j.extBut _ _ (by refine zr _ _ ?_;exact zA6) q;refine z76 (yf5 C rfl (z76 (xQ C λp m l=>?_)))
 replace m:p.get? (n+4:Nat)=some (tO3 x y z):=m
 refine z76 (ym3 (z80 (z80 (z76 (yf5 m rfl ?_)))));refine z76 (yr2 ?_);have W:p.objs.size=s.heap.objs.size:=by rw[l.1,j.1,i.1,h.1,f.1,g.1,d.1]
 have a3:∀c o,c≠(n+5:Nat)->c≠n->c≠(n+4:Nat)->c≠(n+1:Nat)->c≠(n+2:Nat)->s.heap.get? c=some o->p.get? c=some o:=λc o c1 c2 c3 c4 c5 e=>
  l.extBut _ _ c3 (j.extBut _ _ c5 (i.extBut _ _ c3 (h.extBut _ _ c4 (f.extBut _ _ c3 (g.extBut _ _ c2 (d.extBut _ _ c1 e))))))
 have F:=l.extBut _ _ (by refine zr _ _ ?_;exact za1) (j.extBut _ _ (by refine zr _ _ ?_;exact zB1) (i.extBut _ _ (by refine zr _ _ ?_;exact za1) (h.extBut _ _ (by refine zr _ _ ?_;exact zC9) (f.extBut _ _ (by refine zr _ _ ?_;exact za1) (g.extBut _ _ (by refine zr _ _ ?_;exact zD6) t)))));have O:=((((L.extBut f.extBut (by refine zr _ _ ?_;exact bw)).extBut h.extBut (by refine zr _ _ ?_;exact .inl (yd7 _))).extBut i.extBut (by refine zr _ _ ?_;exact bw)).extBut j.extBut (by refine zr _ _ ?_;exact zB8)).extBut l.extBut (by refine zr _ _ ?_;exact bw);have M:=((T.extBut i.extBut (by refine zr _ _ ?_;exact aa)).extBut j.extBut (by refine zr _ _ ?_;exact zE9)).extBut l.extBut (by refine zr _ _ ?_;exact aa);have N:=P.extBut l.extBut (by refine zr _ _ ?_;exact zl6);have J:=a3 _ _ (by refine zr _ _ ?_;exact zd1) (by refine zr _ _ ?_;exact zy8) (by refine zr _ _ ?_;lia) (by refine zr _ _ ?_;exact zC7) (by refine zr _ _ ?_;exact zE1) Y;have K:=z90 F;refine z76 ?_;unfold Builtin.SmallTypes.ownedTupleHandOut;have R:(p.push {cls:=.type "tuple",data:=.seq #[x,y,z]}).get? (n+5:Nat)=some (zO .ellipsis f1 (n+3:Nat) (n+4:Nat)):=z79 _ F;refine z76 (yg2 R (by simp) λa1 u G=>?_)
 replace u:a1.get? (n+5:Nat)=some (zO (rawInt p.objs.size) f1 (n+3:Nat) (n+4:Nat)):=u
 refine yg2 u (by simp) λhA I U=>?_
 replace I:hA.get? (n+5:Nat)=some (zO (rawInt p.objs.size) (.bool false) (n+3:Nat) (n+4:Nat)):=I
 have up:∀c o,c≠(n+5:Nat)->p.get? c=some o->hA.get? c=some o:=λc o c1 e=>U.extBut _ _ c1 (G.extBut _ _ c1 (z79 _ e));have V:=U.extBut _ _ (yk4 K) (G.extBut _ _ (yk4 K) (z86 _ rfl));rw[W]at I V;refine z80 ⟨_,rfl,?_⟩;rw[W];refine hQ hA ⟨I,up _ _ (by refine zr _ _ ?_;exact zd1) J,up _ _ (by refine zr _ _ ?_;exact zf2) m,O.at λo e=>up _ o (by refine zr _ _ ?_;exact zj8) e,M.at λo e=>up _ o (by refine zr _ _ ?_;exact zf1) e,N.at λo e=>up _ o (by refine zr _ _ ?_;exact zb8) e⟩ V λc o S e=>?_;simp only[z3,z84,ya5,yc8,not_or]at S;exact up c o S.2.2.2.2.2 (a3 c o S.2.2.2.2.2 S.1 S.2.2.2.2.1 S.2.1 S.2.2.1 e)
def qY {n l1 l2 l3 k T:Nat}{f1 a b c:Ab}{ot:Obj}{Q:Bool->Ac->Prop}(h1:l1<n)(h2:l2<n)(h3:l3<n)(Z:wO s.heap n l1 l2 l3 k (rawInt (T:Nat)) f1 a b c)(p:s.heap.get? T=some ot)
  (m:∀h' l,wO h' n l1 l2 l3 k (rawInt (T:Nat)) l a b c->h'.objs.size=s.heap.objs.size->(∀c o,c≠(n+5:Nat)->s.heap.get? c=some o->h'.get? c=some o)->Q false {s with heap:=h'}):
  Aj (Ah prog w) A (Builtin.SmallTypes.ownedTupleIsFree (.ref (n+5:Nat))) Q E s:=by
 obtain⟨g,i,j,g1,g2,g3⟩:=Z;unfold Builtin.SmallTypes.ownedTupleIsFree;refine z76 (ym4 g rfl rfl ?_);refine z76 (nX ?_);rw[show((T:Int).toNat)=T from yf0 T,p];refine z76 (ym4 g rfl rfl (yb9 (λ_=>?_) (λ_=>?_)))
 .refine z76 (yg2 g (by simp) λh f d=>z80 ?_)
  replace f:h.get? (n+5:Nat)=some (zO (rawInt T) (.bool true) (n+3:Nat) (n+4:Nat)):=f
  exact m h _ ⟨f,d.extBut _ _ (by refine zr _ _ ?_;exact zd1) i,d.extBut _ _ (by refine zr _ _ ?_;exact zf2) j,g1.extBut d.extBut (by refine zr _ _ ?_;exact zj8),g2.extBut d.extBut (by refine zr _ _ ?_;exact zf1),g3.extBut d.extBut (by refine zr _ _ ?_;exact zb8)⟩ d.1 λc o q e=>d.extBut _ _ q e
 .exact z80 (m s.heap f1 ⟨g,i,j,g1,g2,g3⟩ rfl λ_ _ _ e=>e)
def df {n l1 l2 l3 k T:Nat}{f1 a b c x y z:Ab}{ot:Obj}{xs ys zs:Array Ab}{Q:Ab->Ac->Prop}(h1:l1<n)(h2:l2<n)(h3:l3<n)(Z:wO s.heap n l1 l2 l3 k (rawInt (T:Nat)) f1 a b c)(U:s.heap.get? T=some ot)
  (r:s.heap.IsList l1 xs) (B:s.heap.IsList l2 ys) (q:s.heap.IsList l3 zs) (N:xs[k]?=some x) (hy:ys[k]?=some y) (P:zs[k]?=some z)
  (V:∀h' p,wO h' n l1 l2 l3 (k+1) (rawInt (T:Nat)) p a b c->h'.get? s.heap.objs.size=some (tO3 x y z)->
   (∀c o,c∉z3 n->s.heap.get? c=some o->h'.get? c=some o)->Q (.ref s.heap.objs.size) {s with heap:=h'}):
  Aj (Ah prog w) A (Builtin.«zip.__next__» ⟨[.ref (n+5:Nat)],[]⟩) (λfin s'=>∃v,fin=.done (.ret v)/\Q v s') E s:=by
 show Aj _ _ (field (.ref _) 2 >>= _) _ _ _;refine z76 (ym4 Z.z rfl rfl ?_);refine z76 (ym4 Z.z rfl rfl (z76 (yf5 Z.ti rfl ?_)));refine z76 (qY h1 h2 h3 Z U λF p ZB J G=>?_);obtain⟨K,H,I,g1,g2,g3⟩:=ZB
 replace r:F.IsList l1 xs:=r.at λo e=>G _ o (by refine zr _ _ ?_;exact .inl (z83 h1 (ya0 _ _))) e
 replace B:F.IsList l2 ys:=B.at λo e=>G _ o (by refine zr _ _ ?_;exact .inl (z83 h2 (ya0 _ _))) e
 replace q:F.IsList l3 zs:=q.at λo e=>G _ o (by refine zr _ _ ?_;exact .inl (z83 h3 (ya0 _ _))) e
 simp only[yd0,yj2];rw[yu3];simp only[yt6,List.forIn_nil];refine z76 (z76 (z76 (yd5 ?_)));refine z76 (yj8 g1 r N λL m d=>z80 (z80 (z76 (z76 (yd5 ?_)))));refine z76 (yj8 (g2.extBut d.extBut (by refine zr _ _ ?_;exact .inr (yd7 _))) (B.extBut d.extBut (by refine zr _ _ ?_;exact .inl h2)) hy λM u f=>z80 (z80 ?_));refine z76 (z76 (yd5 ?_));refine z76 (yj8 ((g3.extBut d.extBut (by refine zr _ _ ?_;exact zF2)).extBut f.extBut (by refine zr _ _ ?_;exact zB4)) ((q.extBut d.extBut (by refine zr _ _ ?_;exact .inl h3)).extBut f.extBut (by refine zr _ _ ?_;exact .inl (z83 h3 (ya0 _ _)))) P λh l g=>z80 (z80 (z80 ?_)));refine z76 (yr2 ?_ (by show 3<=sizeLine;decide));have D:h.objs.size=s.heap.objs.size:=by rw[g.1,f.1,d.1];exact J
 have i:∀c o,c≠n->c≠(n+1:Nat)->c≠(n+2:Nat)->F.get? c=some o->h.get? c=some o:=λc o R S O e=>g.extBut _ _ O (f.extBut _ _ S (d.extBut _ _ R e));have up:∀c o,h.get? c=some o->(h.push {cls:=.type "tuple",data:=.seq #[x,y,z]}).get? c=some o:=λc o e=>z79 _ e;have j:=(m.extBut f.extBut (by refine zr _ _ ?_;exact .inl (yd7 _))).extBut g.extBut (by refine zr _ _ ?_;exact zB8);have t:=u.extBut g.extBut (by refine zr _ _ ?_;exact zE9);refine z80 ⟨_,rfl,?_⟩;rw[D];refine V _ p ⟨up _ _ (i _ _ (by refine zr _ _ ?_;exact zD6) (by refine zr _ _ ?_;exact zC9) (by refine zr _ _ ?_;exact zB1) K),up _ _ (i _ _ (by refine zr _ _ ?_;exact zy8) (by refine zr _ _ ?_;exact zC7) (by refine zr _ _ ?_;exact zE1) H),up _ _ (i _ _ (by refine zr _ _ ?_;exact zB7) (by refine zr _ _ ?_;exact zC4) (by refine zr _ _ ?_;exact zA6) I),j.at λo e=>up _ o e,t.at λo e=>up _ o e,l.at λo e=>up _ o e⟩ ?_ λc o C e=>?_
 .rw[<-D];exact z86 _ rfl
 .simp only[z3,z84,ya5,yc8,not_or]at C;exact up c o (i c o C.1 C.2.1 C.2.2.1 (G c o C.2.2.2.2.2 e))
def zc7 {n l1 l2 l3 k T:Nat}{f1 a b c:Ab}{ot:Obj}{xs:Array Ab}{Q:PySem.Fin->Ac->Prop}(j:A.handled=none)(h1:l1<n)(h2:l2<n)(h3:l3<n)(Z:wO s.heap n l1 l2 l3 k (rawInt (T:Nat)) f1 a b c)(u:s.heap.get? T=some ot)
  (f:s.heap.IsList l1 xs) (m:xs[k]?=none)
  (t:∀h' e,(∀c o,c∉z3 n->s.heap.get? c=some o->h'.get? c=some o)->(∃o,h'.get? e=some o/\o.cls=.type "StopIteration")->E (.ref e) {s with heap:=h'}):
  Aj (Ah prog w) A (Builtin.«zip.__next__» ⟨[.ref (n+5:Nat)],[]⟩) Q E s:=by
 show Aj _ _ (field (.ref _) 2 >>= _) _ _ _;refine z76 (ym4 Z.z rfl rfl ?_);refine z76 (ym4 Z.z rfl rfl (z76 (yf5 Z.ti rfl ?_)));refine z76 (qY h1 h2 h3 Z u λr l ZB p i=>?_)
 replace f:r.IsList l1 xs:=f.at λo e=>i _ o (by refine zr _ _ ?_;exact .inl (z83 h1 (ya0 _ _))) e
 simp only[yd0,yj2];rw[yu3];simp only[yt6,List.forIn_nil];refine z76 (z76 (z76 (yd5 ?_)));refine z76 (wpAny_nextOf_list_end j ZB.i1 f m λg e d he=>t g e (λc o h q=>?_) he);simp only[z3,z84,ya5,yc8,not_or]at h;exact d _ _ h.1 (i _ _ h.2.2.2.2.2 q)
def lF {n l1 l2 l3 k:Nat}{f1 a b c x y z:Ab}{xs ys zs:Array Ab}{Q:Option Ab->Ac->Prop}(h1:l1<n)(h2:l2<n)(h3:l3<n)(Z:wO s.heap n l1 l2 l3 k .none f1 a b c)
  (e:s.heap.IsList l1 xs) (f:s.heap.IsList l2 ys) (d:s.heap.IsList l3 zs) (h:xs[k]?=some x) (hy:ys[k]?=some y) (j:zs[k]?=some z)
  (l:∀h',wO h' n l1 l2 l3 (k+1) (rawInt s.heap.objs.size) (.bool false) x y z->h'.get? s.heap.objs.size=some (tO3 x y z)->
   (∀c o,c∉z3 n->s.heap.get? c=some o->h'.get? c=some o)->Q (some (.ref s.heap.objs.size)) {s with heap:=h'}):
  Aj (Ah prog w) A (pyNext (.ref (n+5:Nat))) Q E s:=by
 have g:s.TypeIs (.ref (n+5:Nat)) "zip":=⟨_,Z.z,rfl⟩;unfold pyNext;exact z76 (yl4 (yh4 g yi5
  (yg4 yi5 g ys0
   (jG h1 h2 h3 Z e f d h hy j λh' a1 a2 i=>z80 (l h' a1 a2 i)) (yr4 _))))
def jT {n l1 l2 l3 k T:Nat}{f1 a b c x y z:Ab}{ot:Obj}{xs ys zs:Array Ab}{Q:Option Ab->Ac->Prop}(h1:l1<n)(h2:l2<n)(h3:l3<n)(Z:wO s.heap n l1 l2 l3 k (rawInt (T:Nat)) f1 a b c)(m:s.heap.get? T=some ot)
  (g:s.heap.IsList l1 xs) (h:s.heap.IsList l2 ys) (f:s.heap.IsList l3 zs) (i:xs[k]?=some x) (hy:ys[k]?=some y) (j:zs[k]?=some z)
  (p:∀h' d,wO h' n l1 l2 l3 (k+1) (rawInt (T:Nat)) d a b c->h'.get? s.heap.objs.size=some (tO3 x y z)->
   (∀c o,c∉z3 n->s.heap.get? c=some o->h'.get? c=some o)->Q (some (.ref s.heap.objs.size)) {s with heap:=h'}):
  Aj (Ah prog w) A (pyNext (.ref (n+5:Nat))) Q E s:=by
 have e:s.TypeIs (.ref (n+5:Nat)) "zip":=⟨_,Z.z,rfl⟩;unfold pyNext;exact z76 (yl4 (yh4 e yi5
  (yg4 yi5 e ys0
   (df h1 h2 h3 Z m g h f i hy j λh' d a1 a2 l=>z80 (p h' d a1 a2 l)) (yr4 _))))
def cz {n l1 l2 l3 k T:Nat}{f1 a b c:Ab}{ot:Obj}{xs:Array Ab}{Q:Option Ab->Ac->Prop}(g:A.handled=none)(h1:l1<n)(h2:l2<n)(h3:l3<n)(Z:wO s.heap n l1 l2 l3 k (rawInt (T:Nat)) f1 a b c)(j:s.heap.get? T=some ot)
  (f:s.heap.IsList l1 xs) (h:xs[k]?=none)
  (l:∀h',(∀c o,c∉z3 n->s.heap.get? c=some o->h'.get? c=some o)->Q none {s with heap:=h'}):
  Aj (Ah prog w) A (pyNext (.ref (n+5:Nat))) Q E s:=by
 have d:s.TypeIs (.ref (n+5:Nat)) "zip":=⟨_,Z.z,rfl⟩;unfold pyNext;refine z76 (yl4 (yh4 d yi5
  (yg4 yi5 d ys0 (zc7 g h1 h2 h3 Z j f h λh' e hk he=>?_) (yr4 _))))
 obtain⟨o,i,m⟩:=he;exact z76 (yp3 ⟨o,i,m⟩ isSubtype_stop (z80 (l _ hk)))
end
section
variable {X:Cx}{pins:List (Ad×Obj)}{B:St}{H:Hp}{s:Ac}
def Tri (H0 H:Hp)(xs ys zs vs:List V)(i:Nat):Prop:=vs.length=i/\∀j,j<i->∃t x y z,vs[j]?=some (.ref t)/\xs[j]?=some x/\ys[j]?=some y/\zs[j]?=some z/\H t=some (.tup [x,y,z])/\H0 t=none
structure ZAt (X:Cx)(pins:List (Ad×Obj))(B:St)(H:Hp)(n l1 l2 l3:Nat)(S:Ad)(xs ys zs:List V)(i:Nat)(s':Ac):Prop where
 ex:∃(H':Hp) (acc:List Ab) (vs:List V) (e:Nat) (f0 f1 a b c:Ab),Inv X pins B H' s'/\(∀a o,H a=some o->H' a=some o)/\s'.heap.get? S=some {cls:=.type "list",dict:=none,data:=.seq acc.toArray e,slots:=#[]}/\H' S=none/\(∀b∈z3 n,H' b=none)/\
  wO s'.heap n l1 l2 l3 i f0 f1 a b c/\(i=0/\f0=.none\/∃(T:Nat) (ot:Obj),f0=rawInt (T:Nat)/\s'.heap.get? T=some ot/\T∉S::z3 n)/\Vals vs acc/\Tri H H' xs ys zs vs i
structure zJ7 (X:Cx)(pins:List (Ad×Obj))(B:St)(H:Hp)(S:Ad)(xs ys zs:List V)(s':Ac):Prop where
 ex:∃(H':Hp) (acc:List Ab) (vs:List V) (e:Nat),Inv X pins B H' s'/\(∀a o,H a=some o->H' a=some o)/\s'.heap.get? S=some {cls:=.type "list",dict:=none,data:=.seq acc.toArray e,slots:=#[]}/\H' S=none/\Vals vs acc/\Tri H H' xs ys zs vs xs.length
def Tri.snoc {H0 H H':Hp}{xs ys zs vs:List V}{i:Nat}{t:Ad}{x y z:V}(h:Tri H0 H xs ys zs vs i)(k:∀a o,H a=some o->H' a=some o)(m:xs[i]?=some x)(hy:ys[i]?=some y)(q:zs[i]?=some z)(n:H' t=some (.tup [x,y,z]))(hn:H0 t=none):Tri H0 H' xs ys zs (vs++[.ref t]) (i+1):=by
 refine⟨by rw[z95,h.1];rfl,λj g=>?_⟩;rcases ye1 j i with b|b
 .obtain⟨t',f,l,c,e1,r,p,u,d,e⟩:=h.2 j b;exact⟨t',f,l,c,by rw[ye4 (by rw[h.1];exact b)];exact e1,r,p,u,k _ _ d,e⟩
 .have:j=i:=(yk5 (yj3 g) b);subst this;exact⟨t,x,y,z,by rw[ye7 (by rw[h.1];exact z82 _),h.1];simp,m,hy,q,n,hn⟩
theorem eZ {A:Am}{R:Result->Ac->Prop}{n l1 l2 l3:Nat}{S:Ad}{xs ys zs:List V}(hh:A.handled=none)(h1:l1<n)(h2:l2<n)(h3:l3<n)(fS:∀H',H' S=none->xq X pins H' S)(fz:∀b∈z3 n,∀H',H' b=none->xq X pins H' b)(r:S∉z3 n)
  (W:SqL X.K H l1 xs) (q2:SqL X.K H l2 ys) (q3:SqL X.K H l3 zs) (e2:ys.length=xs.length) (e3:zs.length=xs.length) (h0:0<xs.length) (hN:xs.length<=1000)
  (hR:∀s',zJ7 X pins B H S xs ys zs s'->R (.ok (.ret .none)) s'):
  ∀(k i:Nat) (s:Ac),xs.length-i=k->i<=xs.length->ZAt X pins B H n l1 l2 l3 S xs ys zs i s->codeAny (Ah X.prog X.w) A (.builtin "list.extend.loop" ⟨[.ref S,.ref (n+5:Nat),.none],[]⟩) R s:=by
 intro k
 induction k with
 |zero=>
  intro i s hk hi C;have Y:=(zy9 hk hi);subst Y;obtain⟨H',acc,vs,e,f0,f1,a,b,c,I,st,M,nS,Q,Z,fr,U,tr⟩:=C.ex;refine yh2 PySem.F.entry_extend_loop ?_;rw[yf2 yi2 _];rcases fr with⟨z,_⟩|⟨T,ot,rfl,E,g⟩
  .exact(yd4 _ (z83 h0 (ya2 z))).elim
  obtain⟨O,y,p1,a6⟩:=I.list (wt W λa o _ e=>st a o e);refine z76 (cz hh h1 h2 h3 Z E p1.isList (by rw[List.getElem?_toArray,ye6];rw[y.length];exact z82 _) λh' h=>?_);refine z80 (hR _ ⟨H',acc,vs,e,I.turnL (λb o hb q=>h b o hb q) (λb hb=>fz b hb H' (Q b hb)),st,h _ _ r M,nS,U,tr⟩)
 |succ k ih=>
  intro i s hk hi C;have l:=(zz6 hk);obtain⟨H',acc,vs,e,f0,f1,a,b,c,I,st,M,nS,Q,Z,fr,U,tr⟩:=C.ex;refine yh2 PySem.F.entry_extend_loop ?_;rw[yf2 yi2 _];obtain⟨O,y,p1,a6⟩:=I.list (wt W λa o _ e=>st a o e);obtain⟨a8,a2,p2,a9⟩:=I.list (wt q2 λa o _ e=>st a o e);obtain⟨a7,a5,p3,b0⟩:=I.list (wt q3 λa o _ e=>st a o e);have gx:=z78 l;have gy:=z78 (z83 l (ya2 e2.symm));have gz:=z78 (z83 l (ya2 e3.symm));obtain⟨u,hu,ru⟩:=y.get gx;obtain⟨v,hv,a1⟩:=a2.get gy;obtain⟨w,hw,a4⟩:=a5.get gz;have t:acc.length=i:=by rw[<-U.length,tr.1]
  have G:∀b∈z3 n,b<s.heap.objs.size:=λb hb=>by
   have:∃o,s.heap.get? b=some o:=by
    simp only[z3,z84,ya5,yc8]at hb;obtain⟨o1,W,_⟩:=Z.i1;obtain⟨o2,q2,_⟩:=Z.i2;obtain⟨o3,q3,_⟩:=Z.i3;rcases hb with rfl|rfl|rfl|rfl|rfl|rfl
    .exact⟨_,W⟩
    .exact⟨_,q2⟩
    .exact⟨_,q3⟩
    .exact⟨_,Z.ti⟩
    .exact⟨_,Z.to⟩
    .exact⟨_,Z.z⟩
   obtain⟨o,q⟩:=this;exact z90 q
  have main:∀h' m p a' b' c',wO h' n l1 l2 l3 (i+1) m p a' b' c'->(∃(T:Nat) (ot:Obj),m=rawInt T/\h'.get? T=some ot/\T∉S::z3 n)->h'.get? s.heap.objs.size=some (tO3 u v w)->
    (∀c o,c∉z3 n->s.heap.get? c=some o->h'.get? c=some o)->Aj (Ah X.prog X.w) A.in1 (updateSeq S (·.push (.ref s.heap.objs.size)) >>= λ_=>again (.builtin "list.extend.loop" ⟨[.ref S,.ref (n+5:Nat),.none],[]⟩))
     (λfin s'=>match fin with|.done f=>R (.ok f) s'|.again c'=>c'.quiet=true/\codeAny (Ah X.prog X.w) A c' R s') (λe s'=>R (.error e) s') {s with heap:=h'}:=by
   intro h' m p a' b' c' j ⟨T,ot,hf,E,g⟩ D h;have nT:=I.hok.fresh (z82 _);have a3:H s.heap.objs.size=none:=by
    cases q:H s.heap.objs.size with
    |none=>rfl
    |some o=>rw[st _ _ q]at nT;cases nT
   have N:∀a o,H' a=some o->upd H' s.heap.objs.size (.tup [xs[i],ys[i],zs[i]]) a=some o:=λa o q=>by rw[zc (zk q nT)];exact q
   have J:=I.turnLay (t':=s.toks) (o:=.tup [xs[i],ys[i],zs[i]]) h (λb hb=>fz b hb H' (Q b hb)) (z82 _) ⟨by show 3<=sizeLine;decide,[u,v,w],.cons ru (.cons a1 (.cons a4 .nil)),_,D,rfl,0,rfl⟩;have L:=h _ _ r M;have P:upd H' s.heap.objs.size (.tup [xs[i],ys[i],zs[i]]) S=none:=by rw[zc (z96 (z90 M))];exact nS
   obtain⟨e',a0⟩:∃e',(h'.update S (Obj.mapSeq (·.push (Value.ref s.heap.objs.size)))).get? S=some {cls:=.type "list",dict:=none,data:=.seq (acc++[Value.ref s.heap.objs.size]).toArray e',slots:=#[]}:=by
    have:=yj5 L λx=>x.push (Value.ref s.heap.objs.size);rw[List.push_toArray]at this;exact⟨_,this⟩
   refine z76 ?_;refine yh1 L rfl (z80 ⟨yh5 yi2 _,ih (i+1) _ (zl1 hk) l ⟨_,acc++[.ref s.heap.objs.size],vs++[.ref s.heap.objs.size],e',m,p,a',b',c',
    J.turnL (ch:=[S]) (λb o hb q=>(yb2 _ _ (yc1 (by simpa using hb))).trans q) (λb hb=>by rw[z92.mp hb];exact fS _ P),λa o q=>N _ _ (st a o q),a0,P,λb hb=>?_,?_,.inr ⟨T,ot,hf,?_,g⟩,U.append (.cons (show RelV (.ref s.heap.objs.size) (.ref s.heap.objs.size)from rfl) .nil),tr.snoc N gx gy gz zi a3⟩⟩)
    (by rw[z99,t,yf3];lia) (by show(acc.toArray.push _).size<=sizeLine+1;rw[Array.size_push,z99,t,yf3];lia)
   .rw[zc]
    .exact Q b hb
    .exact z96 (G b hb)
   .have d:∀b o,b≠S->h'.get? b=some o->(h'.update S (Obj.mapSeq (·.push (Value.ref s.heap.objs.size)))).get? b=some o:=λb o hb q=>(yb2 _ _ (yc1 hb)).trans q;simp only[z3,z84,ya5,yc8,not_or]at r;obtain⟨d1,d2,d3,d4,d5,d6⟩:=r;exact⟨d _ _ (yc1 d6) j.z,d _ _ (yc1 d4) j.ti,d _ _ (yc1 d5) j.to,j.i1.at λo q=>d _ o (yc1 d1) q,j.i2.at λo q=>d _ o (yc1 d2) q,j.i3.at λo q=>d _ o (yc1 d3) q⟩
   .exact(yb2 _ _ (λz=>g (by rw[<-z];exact z89))).trans E
  rcases fr with⟨_,rfl⟩|⟨T,ot,rfl,E,g⟩
  .refine z76 (lF h1 h2 h3 Z p1.isList p2.isList p3.isList (by simpa using hu) (by simpa using hv) (by simpa using hw) λh' j D h=>main h' _ _ _ _ _ j ⟨s.heap.objs.size,_,rfl,D,?_⟩ D h);intro z;rcases z84.mp z with z|z
   .exact absurd (z90 M) (by rw[<-z];exact yd4 _)
   .exact absurd (G _ z) (yd4 _)
  .exact z76 (jT h1 h2 h3 Z E p1.isList p2.isList p3.isList (by simpa using hu) (by simpa using hv) (by simpa using hw) λh' p j D h=>main h' _ _ _ _ _ j ⟨T,ot,rfl,h _ _ (λz=>g (z87 _ z)) E,g⟩ D h)
end
def rq (a b c:Ab):checkTypeCall "zip" ⟨[a,b,c],[]⟩=pure ():=by kernel_rfl
def qP (a b c:Ab):checkBuiltinCall "zip.__new__" ⟨[.type "zip",a,b,c],[]⟩=pure ():=by kernel_rfl
def vY (a b c d:Ab):argsOk "object.__init__" ⟨[a,b,c,d],[]⟩:=by unfold argsOk;rw[signature?_of (n:=['_','_','t','i','n','i','_','_']) (by kernel_rfl) PySem.F.owner_object];kernel_rfl
def jt :typeLookup (.type "zip") "__len__"=pure none:=by rw[yo2,yk3];kernel_rfl
def lM :typeLookup (.type "zip") "__length_hint__"=pure none:=by rw[yo2,yk3];kernel_rfl
noncomputable abbrev itO (l:Ad):Obj:={cls:=.type "list_iterator",data:=.fields #[.ref l,.int 0 0]}
noncomputable abbrev zh3 (h:Ao)(l1 l2 l3:Ad):Ao:=((h.push (itO l1)).push (itO l2)).push (itO l3)
noncomputable abbrev zh4 (h:Ao)(l1 l2 l3:Ad):Ao:=(zh3 h l1 l2 l3).push (tO3 (.ref h.objs.size) (.ref (h.push (itO l1)).objs.size) (.ref ((h.push (itO l1)).push (itO l2)).objs.size))
noncomputable abbrev zh5 (h:Ao)(l1 l2 l3:Ad):Ao:=(zh4 h l1 l2 l3).push (tO3 .none .none .none)
noncomputable abbrev zh6 (h:Ao)(l1 l2 l3:Ad):Ao:=(zh5 h l1 l2 l3).push (zO .none (.bool false) (zh3 h l1 l2 l3).objs.size (zh4 h l1 l2 l3).objs.size)
def qB (l1 l2 l3:Ad)(xs ys zs:Array Ab):
  Meets (Builtin.«zip.__new__» ⟨[.type "zip",.ref l1,.ref l2,.ref l3],[]⟩) (λ_ R s=>s.heap.IsList l1 xs/\s.heap.IsList l2 ys/\s.heap.IsList l3 zs/\
   R (.ok (.ret (.ref (zh5 s.heap l1 l2 l3).objs.size))) {s with heap:=zh6 s.heap l1 l2 l3}):=
 .of_wp λprog w A R s h=>by
  obtain⟨i,g,d,j,os⟩:=s;obtain⟨b,f,a,h⟩:=h;have k:=sub_zip;have c:Heap.IsList (Shared.heap ⟨i.push {cls:=.type "list_iterator",data:=.fields #[.ref l1,.int 0 0]},g,d,j,os⟩) l2 ys:=Heap.IsList.push f _;have e:Heap.IsList (Shared.heap ⟨(i.push {cls:=.type "list_iterator",data:=.fields #[.ref l1,.int 0 0]}).push {cls:=.type "list_iterator",data:=.fields #[.ref l2,.int 0 0]},g,d,j,os⟩) l3 zs:=Heap.IsList.push (Heap.IsList.push a _) _
  wp_walk using yh9 b,yh9 c,yh9 e
  exact⟨_,rfl,h⟩
section
variable {prog:Ag}{w:Ak}{A:Am}{E:Ab->Ac->Prop}{s:Ac}
def jA {l1 l2 l3:Ad}{xs ys zs:Array Ab}{Q:Ab->Ac->Prop}(g:s.heap.IsList l1 xs)(k:s.heap.IsList l2 ys)(b:s.heap.IsList l3 zs)
  (h:∀h',wO h' s.heap.objs.size l1 l2 l3 0 .none (.bool false) .none .none .none->h'.objs.size=s.heap.objs.size+6->(∀c o,s.heap.get? c=some o->h'.get? c=some o)->Q (.ref (s.heap.objs.size+5)) {s with heap:=h'}):
  Aj (Ah prog w) A (call (.type "zip") [.ref l1,.ref l2,.ref l3]) Q E s:=by
 refine callType_new PySem.F.called_zip (by decide) (rq _ _ _) (qP _ _ _) (λobj=>vY obj _ _ _) PySem.F.entry_zip_new
  (qB l1 l2 l3 xs ys zs) ⟨g,k,b,?_⟩
 have d:(s.heap.push (itO l1)).objs.size=s.heap.objs.size+1:=yf4 ..;have e:((s.heap.push (itO l1)).push (itO l2)).objs.size=s.heap.objs.size+2:=by rw[yf4,d]
 have a:(zh3 s.heap l1 l2 l3).objs.size=s.heap.objs.size+3:=by rw[yf4,e]
 have j:(zh4 s.heap l1 l2 l3).objs.size=s.heap.objs.size+4:=by rw[yf4,a]
 have f:(zh5 s.heap l1 l2 l3).objs.size=s.heap.objs.size+5:=by rw[yf4,j]
 have n:(zh6 s.heap l1 l2 l3).objs.size=s.heap.objs.size+6:=by rw[yf4,f]
 have i:(zh6 s.heap l1 l2 l3).get? (zh5 s.heap l1 l2 l3).objs.size=some _:=z86 _ rfl;have m:(zh6 s.heap l1 l2 l3).get? (zh4 s.heap l1 l2 l3).objs.size=some _:=z79 _ (z86 _ rfl);have l:(zh6 s.heap l1 l2 l3).get? (zh3 s.heap l1 l2 l3).objs.size=some _:=z79 _ (z79 _ (z86 _ rfl));have g3:(zh6 s.heap l1 l2 l3).get? ((s.heap.push (itO l1)).push (itO l2)).objs.size=some _:=z79 _ (z79 _ (z79 _ (z86 _ rfl)));have g2:(zh6 s.heap l1 l2 l3).get? (s.heap.push (itO l1)).objs.size=some _:=z79 _ (z79 _ (z79 _ (z79 _ (z86 _ rfl))));have g1:(zh6 s.heap l1 l2 l3).get? s.heap.objs.size=some _:=z79 _ (z79 _ (z79 _ (z79 _ (z79 _ (z86 _ rfl)))));rw[f,j,a]at i;rw[j]at m;rw[a,e,d]at l;rw[e]at g3;rw[d]at g2;rw[f];exact⟨⟨_,i,rfl⟩,h _ ⟨i,l,m,⟨_,g1,rfl,rfl⟩,⟨_,g2,rfl,rfl⟩,⟨_,g3,rfl,rfl⟩⟩ n λc o x=>
  z79 _ (z79 _ (z79 _ (z79 _ (z79 _ (z79 _ x)))))⟩
end
section
variable {X:Cx}{pins:List (Ad×Obj)}{B:St}{H:Hp}{s:Ac}
noncomputable def cb {A:Am}{R:Result->Ac->Prop}{n l1 l2 l3:Nat}{S:Ad}{xs ys zs:List V}(M:A.handled=none)(h1:l1<n)(h2:l2<n)(h3:l3<n)(I:Inv X pins B H s)(Z:wO s.heap n l1 l2 l3 0 .none (.bool false) .none .none .none)(u:s.heap.get? S=some {cls:=.type "list",data:=.seq #[]})
  (J:H S=none) (Q:∀b∈z3 n,H b=none) (G:∀H',H' S=none->xq X pins H' S) (fz:∀b∈z3 n,∀H',H' b=none->xq X pins H' b) (r:S∉z3 n)
  (U:SqL X.K H l1 xs) (W:SqL X.K H l2 ys) (N:SqL X.K H l3 zs) (e2:ys.length=xs.length) (e3:zs.length=xs.length) (h0:0<xs.length) (Y:xs.length<=1000)
  (O:∀s',zJ7 X pins B H S xs ys zs s'->R (.ok (.ret .none)) s'):
  Aj (Ah X.prog X.w) A.in1 (Builtin.«list.__init__» ⟨[.ref S,.ref (n+5:Nat)],[]⟩)
   (λfin s'=>match fin with|.done f=>R (.ok f) s'|.again c'=>c'.quiet=true/\codeAny (Ah X.prog X.w) A c' R s') (λe s'=>R (.error e) s') s:=by
 have i:=r;simp only[z3,z84,ya5,yc8,not_or]at i;obtain⟨C,D,L,y,E,v⟩:=i;show Aj _ _ (do let old <-Builtin.List.listItems (.ref S);Builtin.List.listUpdate (.ref S) (λ_=>#[]);letGo old.toList.reverse;Builtin.List.listExtendWith (.ref S) (.ref (n+5:Nat)) .none) _ _ s;refine z76 ?_;unfold Builtin.List.listItems;refine z76 (yf5 u rfl (z80 ?_));refine z76 (yh1 u rfl ?_);obtain⟨l,d⟩:∃l,(s.heap.update S (Obj.mapSeq (λ_=>(#[]:Array Ab)))).get? S=some {cls:=.type "list",dict:=none,data:=.seq #[] l,slots:=#[]}:=⟨_,yj5 u λ_=>#[]⟩;have c:∀b o,b≠S->s.heap.get? b=some o->(s.heap.update S (Obj.mapSeq (λ_=>(#[]:Array Ab)))).get? b=some o:=
  λb o hb e=>(yb2 _ _ (yc1 hb)).trans e
 have p:wO (s.heap.update S (Obj.mapSeq (λ_=>(#[]:Array Ab)))) n l1 l2 l3 0 .none (.bool false) .none .none .none:=⟨c _ _ (yc1 v) Z.z,c _ _ (yc1 y) Z.ti,c _ _ (yc1 E) Z.to,Z.i1.at λo q=>c _ o (yc1 C) q,Z.i2.at λo q=>c _ o (yc1 D) q,Z.i3.at λo q=>c _ o (yc1 L) q⟩;refine z76 (ym3 ?_);have m:({s with heap:=s.heap.update S (Obj.mapSeq (λ_=>(#[]:Array Ab)))}:Ac).TypeIs (.ref (n+5:Nat)) "zip":=⟨_,p.z,rfl⟩;unfold Builtin.List.listExtendWith;refine z76 (wpAny_typeOf m ?_);have b1:Builtin.List.listSameRef (.ref S) (.ref (n+5:Nat))=false:=by simp[Builtin.List.listSameRef];exact v
 have b2:(Value.type "zip" == Value.type "list")=false:=by decide
 have b3:(Value.type "zip" == Value.type "tuple")=false:=by decide
 simp only[b1,b2,b3,yp5,yd0,yj2];refine z76 (wpAny_pyIter_slot m PySem.F.slot_zip_iter (yg4 PySem.F.slot_zip_iter m PySem.F.entry_zip_iter ?_ (PySem.F.args_zip_iter_1 _)));refine z80 ⟨_,rfl,"zip",_,m,yi5.lookup,z76 (yd5 ?_)⟩;unfold Builtin.List.listLengthHint;refine z76 (yo1 m jt ?_);refine z76 (yo1 m lM (z80 ?_));have key:∀(h:Ao) (e:Nat),h.get? S=some {cls:=.type "list",dict:=none,data:=.seq #[] e,slots:=#[]}->(∀b o,b≠S->s.heap.get? b=some o->h.get? b=some o)->codeAny (Ah X.prog X.w) A (.builtin "list.extend.loop" ⟨[.ref S,.ref (n+5:Nat),.none],[]⟩) R {s with heap:=h}:=by
  intro h e t a;refine eZ M h1 h2 h3 G fz r U W N e2 e3 h0 Y O xs.length 0 _ (by lia) (z94 _) ⟨H,[],[],e,.none,.bool false,.none,.none,.none,I.turnL (ch:=[S]) (λb o hb q=>a b o (by simpa using hb) q) (λb hb=>by rw[z92.mp hb];exact G H J),λ_ _ e=>e,t,J,Q,?_,.inl ⟨rfl,rfl⟩,.nil,rfl,λj hj=>absurd hj (yt7 _)⟩;exact⟨a _ _ (yc1 v) Z.z,a _ _ (yc1 y) Z.ti,a _ _ (yc1 E) Z.to,Z.i1.at λo q=>a _ o (yc1 C) q,Z.i2.at λo q=>a _ o (yc1 D) q,Z.i3.at λo q=>a _ o (yc1 L) q⟩
 refine yb9 (λ_=>z76 (yi8 ?_)) (λ_=>z80 ⟨yh5 yi2 _,key _ _ d c⟩);refine z76 ?_;refine z76 (yh1 d rfl ?_);obtain⟨T,g⟩:∃l,((s.heap.update S (Obj.mapSeq (λ_=>(#[]:Array Ab)))).update S (Obj.mapSeq (·.push Value.none))).get? S=some {cls:=.type "list",dict:=none,data:=.seq #[.none] l,slots:=#[]}:=⟨_,yj5 d λx=>x.push Value.none⟩;refine yh1 g rfl ?_;obtain⟨P,k⟩:∃l,(((s.heap.update S (Obj.mapSeq (λ_=>(#[]:Array Ab)))).update S (Obj.mapSeq (·.push Value.none))).update S (Obj.mapSeq (·.pop))).get? S=some {cls:=.type "list",dict:=none,data:=.seq #[] l,slots:=#[]}:=⟨_,yj5 g λx=>x.pop⟩;exact z80 ⟨yh5 yi2 _,key _ _ k λb o hb e=>(yb2 _ _ (yc1 hb)).trans ((yb2 _ _ (yc1 hb)).trans (c b o hb e))⟩
end
section
variable {X:Cx}{pins:List (Ad×Obj)}{B:St}{H:Hp}{s:Ac}
def rL {A:Am}{E:Ab->Ac->Prop}{Q:Ab->Ac->Prop}{n l1 l2 l3:Nat}{xs ys zs:List V}(l:A.handled=none)(h1:l1<n)(h2:l2<n)(h3:l3<n)(I:Inv X pins B H s)(Z:wO s.heap n l1 l2 l3 0 .none (.bool false) .none .none .none)
  (p:∀b∈z3 n,H b=none) (fz:∀b∈z3 n,∀H',H' b=none->xq X pins H' b)
  (i:SqL X.K H l1 xs) (g:SqL X.K H l2 ys) (f:SqL X.K H l3 zs) (u:ys.length=xs.length) (t:zs.length=xs.length) (h0:0<xs.length) (r:xs.length<=1000)
  (v:∀D s',s.heap.objs.size<=D->zJ7 X pins B H D xs ys zs s'->(∀H',H' D=none->xq X pins H' D)->Q (.ref D) s'):
  Aj (Ah X.prog X.w) A (call (.type "list") [.ref (n+5:Nat)]) Q E s:=by
 refine callType_codes (Q₁:=λobj a=>obj=.ref s.heap.objs.size/\a={s with heap:=s.heap.push {cls:=.type "list",data:=.seq #[]}}) PySem.F.called_list (PySem.F.typeCall_list_1 _) PySem.F.entry_list_init
  (code_list_new _ ⟨rfl,rfl⟩) λobj a c=>?_
 obtain⟨rfl,rfl⟩:=c;have j:(s.heap.push {cls:=.type "list",data:=.seq #[]}).get? s.heap.objs.size=some {cls:=.type "list",data:=.seq #[]}:=z86 _ rfl;have up:∀b o,s.heap.get? b=some o->(s.heap.push {cls:=.type "list",data:=.seq #[]}).get? b=some o:=λb o e=>z79 _ e;have k:∀H':Hp,H' s.heap.objs.size=none->xq X pins H' s.heap.objs.size:=λH' h=>I.fpOk (z82 _) h;have d:s.heap.objs.size∉z3 n:=λhb=>by
  have:∃o,s.heap.get? s.heap.objs.size=some o:=by
   simp only[z3,z84,ya5,yc8]at hb;obtain⟨x,i,_⟩:=Z.i1;obtain⟨C,g,_⟩:=Z.i2;obtain⟨y,f,_⟩:=Z.i3;rcases hb with z|z|z|z|z|z<;>rw[z]
   .exact⟨_,i⟩
   .exact⟨_,g⟩
   .exact⟨_,f⟩
   .exact⟨_,Z.ti⟩
   .exact⟨_,Z.to⟩
   .exact⟨_,Z.z⟩
  obtain⟨o,q⟩:=this;exact absurd (z90 q) (yd4 _)
 refine⟨⟨_,j,rfl⟩,PySem.F.args_list_init_2 _ _,cb l h1 h2 h3 (I.kept up) ⟨up _ _ Z.z,up _ _ Z.ti,up _ _ Z.to,Z.i1.at λo q=>up _ o q,Z.i2.at λo q=>up _ o q,Z.i3.at λo q=>up _ o q⟩ j (I.hok.fresh (z82 _)) p k fz d i g f u t h0 r λs' m=>⟨rfl,v _ s' (z82 _) m k⟩⟩
variable {a b c:Al}{p p0 pos pos2:Pos}
def mi {L:TA}(hc:X.calm=true)(hgl:Gl X "list")(y:X.mg "list"=none)(hg:Gl X "zip")(hm:X.mg "zip"=none)(ha:PA X [a,b,c] L)
  (r:Af [.Call (.Name "zip" p) [a,b,c] [] pos2] X.env=[(false,eval (.Call (.Name "zip" p) [a,b,c] [] pos2) X.env)]:=by rfl)
  (hs:Af [a,b,c] X.env=(false,eval a X.env)::Af [b,c] X.env:=by rfl) (hpl:(backTo pos2 (Af [b,c] X.env)).any (·.1)=false:=by rfl):
  PE X (.Call (.Name "list" p0) [.Call (.Name "zip" p) [a,b,c] [] pos2] [] pos) (λB H Q=>L B H λvs H1=>∃(l1 l2 l3:Ad) (xs ys zs:List V),vs=[.ref l1,.ref l2,.ref l3]/\SqL X.K H1 l1 xs/\SqL X.K H1 l2 ys/\SqL X.K H1 l3 zs/\ys.length=xs.length/\zs.length=xs.length/\0<xs.length/\xs.length<=1000/\
   ∀D H' vs,H1 D=none->(∀a o,H1 a=some o->H' a=some o)->H' D=some (.lst vs)->(∃t,(∀a o,t a=some o->a≠D/\H' a=some o)/\Tri H1 t xs ys zs vs xs.length)->Q (.ref D) H'):=by
 intro pins s B H Q I h;refine Call_ (yZ I hgl y boot_list (yc9 ?_ r rfl));rw[r];refine Calls.spliced_cons ?_;refine Call_ (yZ I hg hm boot_zip (yc9 (thn (ha pos2 pins s B H _ I h) λus s1 A=>?_) hs hpl));obtain⟨vs,H1,f,d,q1⟩:=A;obtain⟨l1,l2,l3,xs,ys,zs,e,g,k,l,e2,e3,h0,M,q⟩:=q1;subst e;obtain⟨u,v,w,rfl,ru,rv,E⟩:∃u v w,us=[u,v,w]/\RelV (.ref l1) u/\RelV (.ref l2) v/\RelV (.ref l3) w:=by
  cases d with
  |cons a d=>
   cases d with
   |cons b d=>
    cases d with
    |cons c d=>
     cases d;exact⟨_,_,_,rfl,a,b,c⟩
 cases(ru);cases(rv);cases(E);obtain⟨O,a0,p1,a3⟩:=f.list g;obtain⟨P,U,p2,T⟩:=f.list k;obtain⟨N,a1,p3,a2⟩:=f.list l;refine jA p1.isList p2.isList p3.isList λh' Z sz hk=>?_;have F:l1<s1.heap.objs.size:=by obtain⟨o,e,_⟩:=p1.isList;exact z90 e
 have x:l2<s1.heap.objs.size:=by obtain⟨o,e,_⟩:=p2.isList;exact z90 e
 have G:l3<s1.heap.objs.size:=by obtain⟨o,e,_⟩:=p3.isList;exact z90 e
 have le:∀b∈z3 s1.heap.objs.size,s1.heap.objs.size<=b:=λb hb=>by
  simp only[z3,z84,ya5,yc8]at hb;have key:∀n b:Nat,(b=n\/b=n+1\/b=n+2\/b=n+3\/b=n+4\/b=n+5)->n<=b:=λn b h=>by lia
  exact key _ _ hb
 have J:Inv X pins B H1 {s1 with heap:=h',toks:=s1.toks}:=f.kept λb o e=>hk b o e;refine ye0 (show Aj _ _ (spliced []) (λvs j=>vs=[]/\j={s1 with heap:=h'}) X.xe {s1 with heap:=h'}from z80 ⟨rfl,rfl⟩) (λvs s2 hv=>?_) λ_ _ z=>z;obtain⟨rfl,rfl⟩:=hv;refine rL (I.ok.hd hc) F x G J Z (λb hb=>f.hok.fresh (le b hb)) (λb hb H' hn=>f.fpOk (le b hb) hn) g k l e2 e3 h0 M λD s' lD Y S=>?_;obtain⟨H',acc,vs,e,W,st,hD,R,C,m⟩:=Y.ex;have i:∀a o,H' a=some o->a≠D/\upd H' D (.lst vs) a=some o:=λa o q=>by
  have n:a≠D:=λz=>by rw[z,R]at q;cases q
  exact⟨n,by rw[zc n];exact q⟩
 refine⟨.ref D,upd H' D (.lst vs),W.adopt (S H' R) ⟨?_,acc,e,C,hD⟩,rfl,q D _ vs (J.hok.fresh lD) (λa o q=>(i a o (st a o q)).2) zi ⟨H',i,m⟩⟩;rw[m.1,yf3];exact zY0 M
end
def zu2 (a b c:Aa):Aa:=.tuple [a,b,c]
noncomputable def xU :List Aa->List Aa->List Aa->List Aa
 |a::as,b::bs,c::cs=>zu2 a b c::xU as bs cs
 |_,_,_=>[]
theorem tM :∀{as bs cs:List Aa},bs.length=as.length->cs.length=as.length->(xU as bs cs).length=as.length
 |[],_,_,_,_=>rfl
 |a::as,b::bs,c::cs,h1,h2=>by rw[xU,ya1,ya1,tM (by simpa using h1) (by simpa using h2)]
theorem tw :∀{as bs cs:List Aa}{j:Nat}{d:Aa},(xU as bs cs)[j]?=some d->∃a b c,as[j]?=some a/\bs[j]?=some b/\cs[j]?=some c/\d=zu2 a b c
 |[],_,_,j,d,h=>by simp[xU]at h
 |a::as,[],_,j,d,h=>by simp[xU]at h
 |a::as,b::bs,[],j,d,h=>by simp[xU]at h
 |a::as,b::bs,c::cs,0,d,h=>by simp[xU]at h;exact⟨a,b,c,rfl,rfl,rfl,h.symm⟩
 |a::as,b::bs,c::cs,j+1,d,h=>by
  obtain⟨x,y,z,e1,g,f,e⟩:=tw (by simpa[xU]using h);exact⟨x,y,z,by simpa using e1,by simpa using g,by simpa using f,e⟩
theorem gJ {G:Hp}:∀{vs:List V}{ds:List Aa},vs.length=ds.length->(∀(j:Nat) d,ds[j]?=some d->∃v,vs[j]?=some v/\AV G v d)->AVs G vs ds
 |[],[],_,_=>.nil
 |v::vs,d::ds,b,h=>by
  obtain⟨c,e,a⟩:=h 0 d rfl;cases e;exact .cons a (gJ (by simpa using b) λj d' hd=>h (j+1) d' (by simpa using hd))
section
variable {X:Cx}{O:Ev}{a b c:Al}{p p0 pos pos2:Pos}
theorem lq {Q:List Aa->Prop}(V:X.calm=true)(hgl:Gl X "list")(n:X.mg "list"=none)(hg:Gl X "zip")(hm:X.mg "zip"=none)
  (h:EvA X O [a,b,c] λas=>∃ds es fs,as=[.dat (.list ds),.dat (.list es),.dat (.list fs)]/\es.length=ds.length/\fs.length=ds.length/\0<ds.length/\ds.length<=1000/\Q (xU ds es fs))
  (u:Af [.Call (.Name "zip" p) [a,b,c] [] pos2] X.env=[(false,eval (.Call (.Name "zip" p) [a,b,c] [] pos2) X.env)]:=by rfl)
  (T:Af [a,b,c] X.env=(false,eval a X.env)::Af [b,c] X.env:=by rfl) (hpl:(backTo pos2 (Af [b,c] X.env)).any (·.1)=false:=by rfl):
  EvL X O (.Call (.Name "list" p0) [.Call (.Name "zip" p) [a,b,c] [] pos2] [] pos) Q:=λF B H R m k=>by
 refine⟨_,mi V hgl n hg hm yK u T hpl,h F B H _ m λas vs H1 Z t1 v f=>?_⟩;have m1:=m.kz v t1;obtain⟨ds,es,fs,rfl,l2,l3,P,L,q⟩:=Z;cases f with
 |cons S f=>
  cases f with
  |cons J f=>
   cases f with
   |cons K f=>
    cases f;obtain⟨a1,xs,rfl,g1,G⟩:=AV.lst_inv S;obtain⟨a2,ys,rfl,g2,A⟩:=AV.lst_inv J;obtain⟨a3,zs,rfl,g3,E⟩:=AV.lst_inv K;have g:=G.length;refine⟨a1,a2,a3,xs,ys,zs,rfl,SqL.of (zf g1).2,SqL.of (zf g2).2,SqL.of (zf g3).2,(A.length.trans (l2.trans g.symm)),(E.length.trans (l3.trans g.symm)),(z83 P (ya2 g.symm)),(z93 (ya2 g) L),λD H' vs l st r tr=>?_⟩;obtain⟨Y,sb,i⟩:=tr;have I:zt H1 H':=λa o e=>st a o e;refine k _ _ H' q (t1.same I) (v.trans (Kz.of_same I)) ⟨D,vs,rfl,?_,r,?_⟩
    .cases z:H D with
     |none=>rfl
     |some o=>rw[v D o z (m.tp.nt (ow0 (m1.fresh l)))]at l;cases l
    .have s:zt (Gz F O B H1) (sub (λx=>¬Ow F O B x/\x≠D) H'):=zu λa o h e=>⟨⟨h,zk e l⟩,st a o e⟩;refine gJ (by rw[i.1,tM l2 l3];exact g) λj d hd=>?_;obtain⟨d1,d2,d3,e1,e2,e3,rfl⟩:=tw hd;have M:j<xs.length:=by rw[g];exact(z81.mp e1).1
     obtain⟨t,x,y,z,f1,f2,W,f4,U,N⟩:=i.2 j M;obtain⟨x',ex,ax⟩:=G.get e1;obtain⟨y',w,ay⟩:=A.get e2;obtain⟨z',C,az⟩:=E.get e3;rw[f2]at ex;cases ex;rw[W]at w;cases w;rw[f4]at C;cases C;obtain⟨nt,ht⟩:=sb t _ U;exact⟨_,f1,.tup (zB ⟨m1.fresh N,nt⟩ ht) (.cons (ax.same s) (.cons (ay.same s) (.cons (az.same s) .nil)))⟩
theorem jf {ns:List Int}{d:List Ab}(h:Vals (ns.map V.int) d):∃ps:List (Int×Tok),d=ps.map (λp=>Value.int p.1 p.2)/\ps.map (·.1)=ns:=by
 induction ns generalizing d with
 |nil=>cases h;exact⟨[],rfl,rfl⟩
 |cons n ns e=>cases h with
  |cons h f=>
   obtain⟨ps,e1,g⟩:=e f;obtain⟨t,rfl⟩:=h;exact⟨(n,t)::ps,by rw[e1];rfl,by rw[<-g];rfl⟩
def qh (ps:List (Int×Tok))(k:Nat):numAt ps.toArray k=(ps.map (·.1)).getD k 0:=by
 unfold numAt;rw[List.getElem?_toArray,z85,z88]
theorem va (ps:List (Int×Tok)):∀k,k<=ps.length->preSum (numAt ps.toArray) k=((ps.map (·.1)).take k).sum
 |0,_=>by simp[preSum]
 |k+1,h=>by
  have hk:k<(ps.map (·.1)).length:=by rw[z77];exact z83 (yd7 _) h
  rw[preSum,va ps k (z93 (ya0 _ _) h),qh,yg0,z78 hk,List.sum_append,z85,z78 hk];simp
def Fits (ns:List Int):Prop:=∀k,k<=ns.length->-(2 ^ 62)<=(ns.take k).sum/\(ns.take k).sum<2 ^ 62
def fR (o:X.calm=true):yP X (.builtin "sum") (λxs H Q=>∃(l:Ad) (ns:List Int),xs=[.ref l]/\SqL X.K H l (ns.map V.int)/\(∀n∈ns,-(2 ^ 62)<=n/\n<2 ^ 62)/\Fits ns/\Q (.int ns.sum) H):=by
 intro pins s B H xs us Q I r h;obtain⟨l,ns,rfl,m,hb,hf,q⟩:=h;obtain⟨u,rfl,e⟩:=Vals.one r;cases(e);obtain⟨f,k,p,v⟩:=I.list m;obtain⟨ps,rfl,rfl⟩:=jf k;have g:s.heap.IsList l (intItems ps.toArray):=by
  have:=p.isList
  rwa [show intItems ps.toArray=(ps.map λp=>Value.int p.1 p.2).toArray by simp[intItems]]
 refine sum_intList (I.ok.hd o) g (λj i=>?_) λh' t t' hk=>?_
 .have d:j<ps.length:=by simpa using i
  have hk:j<(ps.map (·.1)).length:=by rw[z77];exact d
  rw[va ps (j+1) (d),qh,z85,z78 hk];have h1:=hb _ (ye9 hk);have h2:=hf (j+1) (hk);refine⟨⟨?_,?_⟩,?_,?_⟩
  .show -(2 ^ 63)<=(ps.map (·.1))[j];exact zB0 h1.1
  .show(ps.map (·.1))[j]<2 ^ 63;exact zB2 h1.2
  .exact zB0 h2.1
  .exact zB2 h2.2
 .rw[show preSum (numAt ps.toArray) ps.toArray.size=(ps.map (·.1)).sum by rw[z99,va ps ps.length (z82 _),<-z77,yf6]];exact⟨.int _,H,I.kept hk,⟨_,rfl⟩,q⟩
def nH {Q:Aa->Prop}{e:Al}(g:X.calm=true)(hg:Gl X "sum")(hm:X.mg "sum"=none)(h:EvD X O e λx=>∃ns:List Int,x=.list (ns.map .int)/\(∀n∈ns,-(2 ^ 62)<=n/\n<2 ^ 62)/\Fits ns/\Q (.int ns.sum))(he:Af [e] X.env=(false,eval e X.env)::Af [] X.env:=by rfl):
  EvD X O (.Call (.Name "sum" p) [e] [] pos) Q:=by
 refine xK (fR g) hg hm boot_sum (zq (h.imp λx d=>?_) he) (he:=he);obtain⟨ns,e1,hb,hf,q⟩:=d;refine zz ?_;intro F B H vs R m f k;subst e1;obtain⟨v,rfl,av⟩:=f.one;obtain⟨a,xs,rfl,h1,h2⟩:=av.lst_inv;cases h2.ints;exact⟨a,ns,rfl,SqL.of (zf h1).2,hb,hf,k _ _ H q m.tp Kz.refl (.int _)⟩
end
noncomputable def yW :List Int->List Bool->List Int
 |z::zs,b::bs=>if b=true then yW zs bs else z::yW zs bs
 |_,_=>[]
theorem vI :∀{zs:List Int}{bs:List Bool}{z:Int},z∈yW zs bs->z∈zs
 |[],_,z,h=>by simp[yW]at h
 |y::zs,[],z,h=>by simp[yW]at h
 |y::zs,b::bs,z,h=>by
  rw[yW]at h;split at h
  .exact z87 _ (vI h)
  .rcases z84.mp h with e|h
   .rw[e];exact z89
   .exact z87 _ (vI h)
theorem uV :∀(zs:List Int) (bs:List Bool),(yW zs bs).length<=zs.length
 |[],_=>by simp[yW]
 |y::zs,[]=>by simp[yW]
 |y::zs,b::bs=>by
  rw[yW];have:=uV zs bs;split
  .rw[ya1];exact z93 this (ya0 _ _)
  .rw[ya1,ya1];exact Nat.add_le_add this (z82 _)
theorem sum_bound :∀{ns:List Int}{m:Int},0<=m->(∀n∈ns,0<=n/\n<=m)->0<=ns.sum/\ns.sum<=ns.length*m
 |[],m,_,_=>by simp
 |n::ns,m,h0,h=>by
  obtain⟨a,b⟩:=sum_bound h0 λx c=>h x (z87 _ c);have:=h n z89;rw[yp8,ya1,yt8,Int.add_mul]
  constructor
  .exact Int.add_nonneg this.1 a
  .simp;exact z58 this.2 b
def jq {ns:List Int}(h:∀n∈ns,0<=n/\n<=1000000000000)(c:ns.length<=1000):Fits ns:=λk hk=>by
 obtain⟨a,b⟩:=sum_bound (ns:=ns.take k) (by decide) λn hn=>h n (yd8 hn);have:((ns.take k).length:Int)*1000000000000<=1000*1000000000000:=by
  apply Int.mul_le_mul_of_nonneg_right _ (by decide);rw[yc3];exact zR4 c
 lia
noncomputable def zL3 (p:Nat):Aa->Aa
 |.tuple [a,b,c]=>if p=1 then b else c
 |_=>.none
noncomputable def sJ :Aa->Bool
 |.tuple [_,_,.bool b]=>b
 |_=>false
theorem rj :∀{ds:List Aa}{zs:List Int}{bs:List Bool},zs.length=ds.length->bs.length=ds.length->((xU ds (zs.map .int) (bs.map .bool)).filter λd=>!sJ d).map (zL3 1)=(yW zs bs).map .int
 |[],[],[],_,_=>rfl
 |d::ds,z::zs,b::bs,h1,h2=>by
  have a:=rj (by simpa using h1) (by simpa using h2);rw[ya6,ya6,xU,yW,yn3];cases b with
  |true=>simpa[sJ,zu2]using a
  |false=>simp[sJ,zu2,zL3];exact a
def wU (d:Aa)(zs:List Int)(bs:List Bool):Prop:=(d=.none/\bs=List.replicate zs.length false)\/∃many free:Nat,d=.tuple [.int many,.int free]/\sr zs many free zs.length bs
def wU.len {d:Aa}{zs:List Int}{bs:List Bool}(h:wU d zs bs):bs.length=zs.length:=by
 rcases h with⟨_,rfl⟩|⟨_,_,_,h⟩
 .simp
 .exact h.1
def zd0 (d:Aa):Prop:=d=.none\/∃many free:Nat,d=.tuple [.int many,.int free]/\0<free/\free<many/\many<64
def nN {many free:Nat}{zs:List Int}{bs:List Bool}(h:wU (.tuple [.int many,.int free]) zs bs):sr zs many free zs.length bs:=by
 rcases h with⟨h,_⟩|⟨b,a,h,mk⟩
 .cases h
 .injection h with h;injection h with h1 h2;injection h2 with h2 _;injection h1 with h1;injection h2 with h2;rw[((zA7 h1)),((zA7 h2))]at mk;exact mk
section
variable {κ:Type}[DecidableEq κ]
noncomputable def tO (kvs:List (κ×V))(k:κ):Option V:=(kvs.find? λa=>decide (a.1=k)).map (·.2)
noncomputable def putK (kvs:List (κ×V))(k:κ)(v:V):List (κ×V):=
 if(kvs.any λa=>decide (a.1=k))=true then kvs.map (λa=>if a.1=k then(a.1,v)else a)else kvs++[(k,v)]
def uK {p:κ×V}{r:List (κ×V)}{k:κ}(e:p.1=k):tO (p::r) k=some p.2:=by simp[tO,yg1,e]
def vc {p:κ×V}{r:List (κ×V)}{k:κ}(e:¬p.1=k):tO (p::r) k=tO r k:=by simp[tO,yg1,e]
theorem rf (k:κ):∀kvs:List (κ×V),(kvs.any λa=>decide (a.1=k))=(tO kvs k).isSome
 |[]=>rfl
 |p::r=>by
  rw[yl3];by_cases e:p.1=k
  .simp only[uK e,ya9 e,Bool.true_or,Option.isSome_some]
  .rw[vc e,ya3 e,yu6];exact rf k r
def vo (kvs:List (κ×V))(k:κ)(v:V):(putK kvs k v).length<=kvs.length+1:=by
 unfold putK;split
 .rw[z77];exact ya0 _ _
 .rw[z95,ya1,yq5];lia
theorem vU.isSome_eq {o:Option V}{u:Option Ab}(r:vU o u):o.isSome=u.isSome:=by
 cases o with
 |none=>cases u with
  |none=>rfl
  |some _=>exact(r).elim
 |some _=>cases u with
  |none=>exact(r).elim
  |some _=>rfl
theorem KV.val {kvs:List (κ×V)}{vs:List (κ×Ab)}(r:KV kvs vs)(k:κ):vU (tO kvs k) (valueAt vs k):=by
 unfold KV at r
 induction r with
 |nil=>exact True.intro
 |@cons p q ps qs h t ih=>
  obtain⟨h1,h2⟩:=h;by_cases e:p.1=k
  .have a:=h1.symm.trans e;have b:valueAt (q::qs) k=some q.2:=by simp[valueAt,yg1,a]
   rw[uK e,b];exact h2
  .have a:¬q.1=k:=λz=>e (h1.trans z);have b:valueAt (q::qs) k=valueAt qs k:=by simp[valueAt,yg1,a]
   rw[vc e,b];exact ih
theorem KV.any {kvs:List (κ×V)}{vs:List (κ×Ab)}(r:KV kvs vs)(k:κ):(kvs.any λa=>decide (a.1=k))=vs.any λa=>decide (a.1=k):=by
 unfold KV at r
 induction r with
 |nil=>rfl
 |cons h t b=>rw[yl3,yl3,b,h.1]
theorem KV.repl {kvs:List (κ×V)}{vs:List (κ×Ab)}(r:KV kvs vs)(k:κ){y:V}{u:Ab}(b:RelV y u):
  KV (kvs.map λa=>if a.1=k then(a.1,y)else a) (vs.map λa=>if a.1=k then(a.1,u)else a):=by
 unfold KV at r ⊢
 induction r with
 |nil=>exact .nil
 |@cons p q ps qs h t ih=>
  rw[ya6,ya6];refine .cons ?_ ih;obtain⟨h1,h2⟩:=h;by_cases e:p.1=k
  .rw[if_pos e,if_pos (h1.symm.trans e)];exact⟨h1,b⟩
  .rw[if_neg e,if_neg (λz=>e (h1.trans z))];exact⟨h1,h2⟩
def KV.put {kvs:List (κ×V)}{vs:List (κ×Ab)}(r:KV kvs vs)(k:κ){y:V}{u:Ab}(a:RelV y u):KV (putK kvs k y) (stored vs k u):=by
 unfold putK stored;rw[r.any k];by_cases e:(vs.any λb=>decide (b.1=k))=true
 .rw[if_pos e,if_pos e];exact r.repl k a
 .rw[if_neg e,if_neg e];exact Paired.snoc r ⟨rfl,a⟩
theorem KV.length {kvs:List (κ×V)}{vs:List (κ×Ab)}(r:KV kvs vs):kvs.length=vs.length:=Paired.length r
end
theorem pb {P:Ag}{w:Ak}{k:Key}{u:Ab}(r:RelV (kV k) u):(ya P w).is k u=true:=by
 cases k with
 |inl i=>obtain⟨t,e⟩:=(r);subst e;exact nJ P w i t
 |inr x=>obtain⟨t,e⟩:=(r);subst e;exact lI P w x t
theorem ph {P:Ag}{w:Ak}:∀{ks:List Key}{us:List Ab},Vals (ks.map kV) us->ItemsAre (ya P w) ks us
 |[],_,r=>by rw[yp1]at r;cases r;exact .nil
 |k::ks,_,r=>by
  rw[ya6]at r;cases r with
  |cons h t=>exact .cons (pb h) (ph t)
abbrev KT (H:Hp):List (List Key×V)->List (List Key×Ad×Ab)->Prop:=Paired λp q=>p.1=q.1/\H q.2.1=some (.tup (p.1.map kV))/\RelV p.2 q.2.2
theorem KT.val {H:Hp}{kvs:List (List Key×V)}{xs:List (List Key×Ad×Ab)}(r:KT H kvs xs)(k:List Key):vU (tO kvs k) ((atKey xs k).map (·.2)):=by
 induction r with
 |nil=>exact True.intro
 |@cons p q ps qs h t ih=>
  obtain⟨h1,_,h2⟩:=h;by_cases e:p.1=k
  .have a:=h1.symm.trans e;have b:atKey (q::qs) k=some q.2:=by simp[atKey,yg1,a]
   rw[uK e,b];exact h2
  .have a:¬q.1=k:=λz=>e (h1.trans z);have b:atKey (q::qs) k=atKey qs k:=by simp[atKey,yg1,a]
   rw[vc e,b];exact ih
theorem KT.repl {H:Hp}{kvs:List (List Key×V)}{xs:List (List Key×Ad×Ab)}(r:KT H kvs xs)(k:List Key){y:V}{u:Ab}(b:RelV y u):
  KT H (kvs.map λa=>if a.1=k then(a.1,y)else a) (xs.map (putAt k u)):=by
 induction r with
 |nil=>exact .nil
 |@cons p q ps qs h t ih=>
  rw[ya6,ya6];refine .cons ?_ ih;obtain⟨h1,h2,h3⟩:=h;unfold putAt;by_cases e:p.1=k
  .rw[if_pos e,if_pos (h1.symm.trans e)];exact⟨h1,h2,b⟩
  .rw[if_neg e,if_neg (λz=>e (h1.trans z))];exact⟨h1,h2,h3⟩
def KT.put {H:Hp}{kvs:List (List Key×V)}{xs:List (List Key×Ad×Ab)}(r:KT H kvs xs)(k:List Key){b:Ad}{y:V}{u:Ab}(hb:H b=some (.tup (k.map kV)))(a:RelV y u):
  KT H (putK kvs k y) (storedH xs k b u):=by
 have e:(kvs.any λc=>decide (c.1=k))=(atKey xs k).isSome:=by rw[rf,(r.val k).isSome_eq,Option.isSome_map]
 unfold putK storedH;rw[e];by_cases q:(atKey xs k).isSome=true
 .rw[if_pos q,if_pos q];exact r.repl k a
 .rw[if_neg q,if_neg q];exact Paired.snoc r ⟨rfl,hb,a⟩
def KT.keeps {H H':Hp}{kvs:List (List Key×V)}{xs:List (List Key×Ad×Ab)}(r:KT H kvs xs)(a:∀b ys,H b=some (.tup ys)->H' b=some (.tup ys)):KT H' kvs xs:=
 Paired.mapP r λ_ _ z=>⟨z.1,a _ _ z.2.1,z.2.2⟩
section
variable {P:Ag}{w:Ak}{H:Hp}{h:Ao}{a:Ad}
def zF0 {u:HO}(ok:HOk P w H h)(e:Rd H a u):yn P w H h a u:=e.ok ok
def pH {kvs:List (Key×V)}(ok:HOk P w H h)(e:Rd H a (.dK kvs)):kvs.length<=sizeLine/\(a == sysModules)=false/\∃vs,KV kvs vs/\h.DictOf (ya P w) a vs:=
 show yn P w H h a (.dK kvs)from zF0 ok e
def zE6 {kvs:List (Key×V)}(ok:HOk P w H h)(e:H a=some (.dK kvs)):kvs.length<=sizeLine/\(a == sysModules)=false/\∃vs,KV kvs vs/\h.DictOf (ya P w) a vs:=pH ok (.inl e)
def rG {ks:List Key}(ok:HOk P w H h)(e:H a=some (.tup (ks.map kV))):(tupleKind (ya P w)).is h ks a:=by
 obtain⟨_,b,r,o,h1,h2,n,h3⟩:=(ok a _ e);exact⟨o,b.toArray,n,h1,h2,h3,by simpa using ph r⟩
def pQ {kvs:List (List Key×V)}(ok:HOk P w H h)(e:Rd H a (.dT kvs)):kvs.length<=sizeLine/\(a == sysModules)=false/\
  ∃xs,KT H kvs xs/\h.DictOfH (tupleKind (ya P w)) a xs:=by
 obtain⟨z,y,xs,r,o,es,ep,h1,h2,h3,d,c⟩:=(zF0 ok e);refine⟨z,y,xs,r,o,es,ep,h1,h2,h3,d,λx b=>?_,c⟩;have all:∀{l:List (List Key×V)} {m:List (List Key×Ad×Ab)},KT H l m->∀x∈m,(tupleKind (ya P w)).is h x.1 x.2.1:=by
  intro l m q
  induction q with
  |nil=>intro x b;exact nomatch b
  |@cons p q ps qs hq t ih=>
   intro x b;rcases z84.mp b with e|b
   .subst e;exact rG ok (by rw[<-hq.1];exact hq.2.1)
   .exact ih x b
 exact all r x b
def zZ0 {kvs:List (List Key×V)}(ok:HOk P w H h)(e:H a=some (.dT kvs)):kvs.length<=sizeLine/\(a == sysModules)=false/\
  ∃xs,KT H kvs xs/\h.DictOfH (tupleKind (ya P w)) a xs:=pQ ok (.inl e)
end
def jC (H:Hp)(a:Ad)(y:V)(r:Option V):Prop:=
 (∃kvs k,Rd H a (.dK kvs)/\y=kV k/\r=tO kvs k)\/∃kvs k b,Rd H a (.dT kvs)/\y=.ref b/\H b=some (.tup (k.map kV))/\r=tO kvs k
def zc2 (H:Hp)(a:Ad)(y v:V)(H':Hp):Prop:=
 (∃kvs k,H a=some (.dK kvs)/\y=kV k/\kvs.length<sizeLine/\H'=upd H a (.dK (putK kvs k v)))\/
 ∃kvs k b,H a=some (.dT kvs)/\y=.ref b/\H b=some (.tup (k.map kV))/\kvs.length<sizeLine/\H'=upd H a (.dT (putK kvs k v))
theorem zc2.k {H:Hp}{a:Ad}{kvs:List (Key×V)}{k:Key}{v:V}(e:H a=some (.dK kvs))(b:kvs.length<sizeLine):zc2 H a (kV k) v (upd H a (.dK (putK kvs k v))):=.inl ⟨kvs,k,e,rfl,b,rfl⟩
section
variable {X:Cx}{pins:List (Ad×Obj)}{B:St}{H:Hp}{s:Ac}{a:Ad}{y v:V}{u r:Ab}{o:Option V}{A:Am}{E:Ab->Ac->Prop}
def Inv.big (I:Inv X pins B H s):sysModules<s.heap.objs.size:=yo9 (by decide) ((I.mod.glob.keeps I.bk).lt)
def cu {Q:Ab->Ac->Prop}(q:A.units+1<cLine)(I:Inv X pins B H s)(g:jC H a y (some v))(m:RelV y u)(h:∀d s',Inv X pins B H s'->RelV v d->Q d s'):
  Aj (Ah X.prog X.w) A (getItem (.ref a) u) Q E s:=by
 rcases g with⟨kvs,k,e,i,l⟩|⟨kvs,k,b,e,i,n,l⟩
 .subst i;obtain⟨z,hd,vs,rel,j⟩:=pH I.hok e;obtain⟨d,hw,c⟩:=vU.some_of (by rw[l];exact rel.val k);exact wpAny_getItem_of (pb m) j.mapOf hw (h d _ (I.tok _) c)
 .subst i;cases(m);obtain⟨z,hd,xs,rel,j⟩:=pQ I.hok e;obtain⟨d,hw,c⟩:=vU.some_of (by rw[l];exact rel.val k);obtain⟨p,t,f⟩:=z98.mp hw;refine wpAny_getItem_heap (yq9 q) (rG I.hok n) j t ?_;rw[f];exact h d _ (I.tok _) c
def z62 {Q:Ab->Ac->Prop}(j:A.units+1<cLine)(I:Inv X pins B H s)(g:jC H a y o)(f:RelV y u)(h:∀s',Inv X pins B H s'->Q (.bool o.isSome) s'):
  Aj (Ah X.prog X.w) A (compareOp .In u (.ref a)) Q E s:=by
 rcases g with⟨kvs,k,e,c,l⟩|⟨kvs,k,b,e,c,i,l⟩
 .subst c;obtain⟨z,hd,vs,rel,d⟩:=pH I.hok e;refine wpAny_in_of (pb f) hd d.mapOf ?_;rw[<-(rel.val k).isSome_eq,<-l];exact h _ (I.tok _)
 .subst c;cases(f);obtain⟨z,hd,xs,rel,d⟩:=pQ I.hok e;refine wpAny_in_heap (yq9 j) (rG I.hok i) hd d ?_;have q:=(rel.val k).isSome_eq;rw[Option.isSome_map]at q;rw[<-q,<-l];exact h _ (I.tok _)
def zt1 {Q:Ab->Ac->Prop}(j:A.units+1<cLine)(I:Inv X pins B H s)(g:jC H a y o)(f:RelV y u)(h:∀s',Inv X pins B H s'->Q (.bool (!o.isSome)) s'):
  Aj (Ah X.prog X.w) A (compareOp .NotIn u (.ref a)) Q E s:=by
 rcases g with⟨kvs,k,e,c,l⟩|⟨kvs,k,b,e,c,i,l⟩
 .subst c;obtain⟨z,hd,vs,rel,d⟩:=pH I.hok e;refine wpAny_notIn_of (pb f) hd d.mapOf ?_;rw[<-(rel.val k).isSome_eq,<-l];exact h _ (I.tok _)
 .subst c;cases(f);obtain⟨z,hd,xs,rel,d⟩:=pQ I.hok e;refine wpAny_notIn_heap (yq9 j) (rG I.hok i) hd d ?_;have q:=(rel.val k).isSome_eq;rw[Option.isSome_map]at q;rw[<-q,<-l];exact h _ (I.tok _)
def oV {h':Ao}{t':Nat}{ob:HO}(I:Inv X pins B H s)(d:Mut (H a))(c:Heap.SameBut a s.heap h')(he:∃q,h'.get? a=some q)(new:yn X.prog X.w (upd H a ob) h' a ob):
  Inv X pins B (upd H a ob) {s with heap:=h',toks:=t'}:=
 I.write d (.inl rfl) (λb q hb z=>(c.2 b hb).trans z) he new
def cT {P:Ag}{w:Ak}{H':Hp}{h':Ao}{kvs:List (Key×V)}{vs:List (Key×Ab)}(z:kvs.length<=sizeLine)(hd:(a == sysModules)=false)(rel:KV kvs vs)(b:h'.DictOf (ya P w) a vs):
  yn P w H' h' a (.dK kvs):=⟨z,hd,vs,rel,b⟩
def de {H':Hp}{Q:Unit->Ac->Prop}(F:A.units+1<cLine)(I:Inv X pins B H s)(g:zc2 H a y v H')(C:RelV y u)(t:RelV v r)(h:∀s',Inv X pins B H' s'->Q () s'):
  Aj (Ah X.prog X.w) A (setItem (.ref a) u r) Q E s:=by
 rcases g with⟨kvs,k,e,j,l,i⟩|⟨kvs,k,b,e,j,x,l,i⟩
 .subst j i;obtain⟨z,hd,vs,rel,n⟩:=zE6 I.hok e;have J:vs.length<=sizeLine:=by rw[<-rel.length];exact z
  have f:(putK kvs k v).length<=sizeLine:=by have:=vo kvs k v;exact z93 this l
  refine wpAny_setItem_pairs (pb C) n λh' d m=>h _ ?_;have he:∃q,h'.get? a=some q:=let⟨q,_,_,hq,_⟩:=d;⟨q,hq⟩;exact oV I (by rw[e];exact True.intro) m he (cT f hd (rel.put k t) d)
 .subst j i;cases(C);obtain⟨z,hd,xs,rel,n⟩:=zZ0 I.hok e;have J:xs.length<=sizeLine:=by rw[<-Paired.length rel];exact z
  have f:(putK kvs k v).length<=sizeLine:=by have:=vo kvs k v;exact z93 this l
  refine wpAny_setItem_heap (yq9 F) (rG I.hok x) n λh' d m=>h _ ?_;obtain⟨q,es,ep,hq,h2,h3,G,_,D⟩:=d;refine oV I (by rw[e];exact True.intro) m ⟨q,hq⟩ ⟨f,hd,_,(rel.put k x t).keeps λc ys p=>?_,q,es,ep,hq,h2,h3,G,D⟩;rw[zc (bj p e (λz=>nomatch z))];exact p
end
section
variable {X:Cx}{pins:List (Ad×Obj)}{B:St}{H:Hp}{s:Ac}{a:Ad}{kvs:List (Key×V)}{k:Key}{u:Ab}{A:Am}{E:Ab->Ac->Prop}
end
def lQ {X:Cx}{pins:List (Ad×Obj)}{B:St}{H:Hp}{s:Ac}{a:Ad}{y:V}{o:Option V}(I:Inv X pins B H s)(g:jC H a y o):s.TypeIs (.ref a) "dict":=by
 rcases g with⟨kvs,k,e,_,_⟩|⟨kvs,k,b,e,_,_,_⟩
 .obtain⟨_,_,vs,_,c⟩:=pH I.hok e;exact c.typeIs
 .obtain⟨_,_,xs,_,c⟩:=pQ I.hok e;exact c.typeIs
def z21 (e ty c:TE):TS:=λD B H=>c B H λv H1=>e B H1 λx d=>ty B d λy f=>∃a b,x=.ref a/\zc2 f a y v b/\D.nx B b
section
variable {X:Cx}{o i e value:Al}{pos pos' tpos:Pos}{td ty tv:TE}
def zo1 (d:X.A.units+1<cLine)(j:PE X o td)(hi:PE X i ty)(q:PE X value tv)(f:swapsWith value (some (.Subscript o i pos')) pos.line X.env=pure false):
  PS X (.Assign [.Subscript o i pos'] value pos) (z21 td ty tv):=by
 intro pins s B H D I h;refine wpAny_Assign_Subscript (thn (q pins s B H _ I h) λr s1 ⟨v,H1,E,l,z⟩=>thn (j pins s1 B H1 _ E z) λu s2 ⟨x,c,b,n,w⟩=>thn (hi pins s2 B c _ b w) λG s3 ⟨y,F,C,t,a,m,ex,g,k⟩=>?_) f;subst ex;obtain rfl:u=Value.ref a:=n;exact de d C g t l λs4 p=>⟨B,m,p,k⟩
end
def zf0 {P:Ag}{w:Ak}{H:Hp}(h:Ao)(hb:sysModules<h.objs.size):yn P w H (h.push {cls:=.type "dict",data:=.dict #[]}) h.objs.size (.dK []):=
 ⟨z94 _,yl6.mpr (yc1 (z96 hb)),[],.nil,Heap.DictOf.new h⟩
section
variable {X:Cx}{pos:Pos}
end
def jz :List (TE×TE)->St->Hp->(List (V×V)->Hp->Prop)->Prop
 |[],_,H,Q=>Q [] H
 |(tk,tv)::r,B,H,Q=>tk B H λx H1=>tv B H1 λy a=>jz r B a λps b=>Q ((x,y)::ps) b
abbrev VV :List (V×V)->List (Ab×Ab)->Prop:=Paired λp q=>RelV p.1 q.1/\RelV p.2 q.2
def PPs (X:Cx)(pos:Pos)(keys:List (Option Al))(values:List Al)(a:List (TE×TE)):Prop:=
 ∀(pins:List (Ad×Obj)) (s:Ac) (B:St) (H:Hp) (Q:List (V×V)->Hp->Prop),Inv X pins B H s->jz a B H Q->
  Aj (Ah X.prog X.w) X.A (evalPairs (pairTrees keys values X.env pos)) (λvs s'=>∃ps H',Inv X pins B H' s'/\VV ps vs/\Q ps H') X.xe s
def zn4 {X:Cx}{pos:Pos}:PPs X pos [] [] []:=λpins s B H Q I h=>pairTrees_nil_walk ⟨[],H,I,.nil,h⟩
def zd5 {X:Cx}{pos:Pos}{k v:Al}{ks:List (Option Al)}{vs:List Al}{c b:TE}{a:List (TE×TE)}(hk:PE X k c)(j:PE X v b)(hr:PPs X pos ks vs a):
  PPs X pos (some k::ks) (v::vs) ((c,b)::a):=λpins s B H Q I h=>
 pairTrees_cons_walk (thn (hk pins s B H _ I h) λu s1 ⟨x,H1,p,i,n⟩=>thn (j pins s1 B H1 _ p n) λq s2 ⟨y,e,d,l,m⟩=>
  thn (hr pins s2 B e _ d m) λws s3 ⟨ps,g,o,rel,f⟩=>⟨(x,y)::ps,g,o,.cons ⟨i,l⟩ rel,f⟩)
noncomputable def pX (kvs more:List (Key×V)):List (Key×V):=more.foldl (λacc a=>putK acc a.1 a.2) kvs
theorem KV.merge :∀{more:List (Key×V)}{rs:List (Key×Ab)}{kvs:List (Key×V)}{vs:List (Key×Ab)},KV more rs->KV kvs vs->KV (pX kvs more) (merged vs rs):=by
 intro more rs kvs vs r;unfold KV at r
 induction r generalizing kvs vs with
 |nil=>intro q;exact q
 |@cons p q ps qs h t ih=>
  intro a;have e:KV (putK kvs p.1 p.2) (stored vs q.1 q.2):=by
   have:=a.put p.1 h.2;rw[<-h.1];exact this
  exact ih e
theorem vR :∀(more kvs:List (Key×V)),(pX kvs more).length<=kvs.length+more.length
 |[],kvs=>by show kvs.length<=kvs.length+0;exact ya0 _ _
 |p::r,kvs=>by
  have h1:=vR r (putK kvs p.1 p.2);rw[ya1];exact z35 h1 (vo kvs p.1 p.2)
theorem qF {P:Ag}{w:Ak}:∀{kvs:List (Key×V)}{ws:List (Ab×Ab)},VV (kvs.map λd=>(kV d.1,d.2)) ws->∃rs,Carries (ya P w) ws rs/\KV kvs rs
 |[],_,r=>by rw[yp1]at r;cases r;exact⟨[],True.intro,.nil⟩
 |p::kvs,_,r=>by
  rw[ya6]at r;cases r with
  |@cons a b as bs h t=>
   obtain⟨rs,c,q⟩:=qF t;obtain⟨f,e⟩:=b;exact⟨(p.1,e)::rs,⟨pb h.1,rfl,c⟩,.cons ⟨rfl,h.2⟩ q⟩
def zR9 (a:List (TE×TE)):TE:=λB H Q=>∀p,H p=none->jz a B (upd H p (.dK [])) λps b=>b p=some (.dK [])/\∃kvs:List (Key×V),ps=kvs.map (λc=>(kV c.1,c.2))/\kvs.length<=15/\Q (.ref p) (upd b p (.dK (pX [] kvs)))
def zm4 {X:Cx}{pos:Pos}{keys:List (Option Al)}{values:List Al}{b:List (TE×TE)}(h:PPs X pos keys values b)(d:keys.all (·.isSome)=true)(j:keys.length=values.length)(h0:keys≠[])
  (f:keys.length<=15):PE X (.Dict keys values pos) (zR9 b):=by
 intro pins s B H Q I q;refine wpAny_Dict_walk (knd:=ya X.prog X.w) d j h0 f (thn (h pins _ B _ _ (I.laid (λ_ _ q=>z79 _ q) (z82 _) (zf0 s.heap I.big)) (q _ (I.hok.fresh (z82 s.heap.objs.size)))) λws s2 g=>?_);obtain⟨ps,t,i,rel,e,kvs,ep,u,o⟩:=g;subst ep;obtain⟨rs,c,m⟩:=qF rel;obtain⟨z,hd,n,r,p⟩:=zE6 i.hok e;cases r;refine⟨rs,c,p,λh' a k=>⟨.ref s.heap.objs.size,_,?_,rfl,o⟩⟩;have l:(pX [] kvs).length<=sizeLine:=by
  have h1:=vR kvs [];rw[yq5]at h1;rw[yf3];lia
 have he:∃q,h'.get? s.heap.objs.size=some q:=let⟨q,_,_,hq,_⟩:=a;⟨q,hq⟩;exact oV i (by rw[e];exact True.intro) k he (cT l hd (m.merge .nil) a)
def IsD (H:Hp)(a:Ad):Prop:=(∃kvs,Rd H a (.dK kvs))\/∃kvs,Rd H a (.dT kvs)
def zQ6 {X:Cx}{pins:List (Ad×Obj)}{B:St}{H:Hp}{s:Ac}{a:Ad}(I:Inv X pins B H s)(d:IsD H a):
  s.TypeIs (.ref a) "dict"/\(∀b,Value.ref a=.ref b->∃ob,s.heap.get? b=some ob/\ob.dict=none)/\(a == sysModules)=false:=by
 rcases d with⟨kvs,e⟩|⟨kvs,e⟩
 .obtain⟨_,hd,vs,_,c⟩:=pH I.hok e;refine⟨c.typeIs,λb q=>?_,hd⟩;cases q;obtain⟨ob,_,_,h1,h2,_⟩:=c;exact⟨ob,h1,h2.2.1⟩
 .obtain⟨_,hd,xs,_,c⟩:=pQ I.hok e;refine⟨c.typeIs,λb q=>?_,hd⟩;cases q;obtain⟨ob,_,_,h1,h2,_⟩:=c;exact⟨ob,h1,h2.2.1⟩
section
variable {X:Cx}{pins:List (Ad×Obj)}{B:St}{H:Hp}{s:Ac}{a:Ad}{y d:V}{u r:Ab}{o:Option V}{A:Am}{E:Ab->Ac->Prop}
end
section
variable {X:Cx}{o e f:Al}{apos cpos:Pos}{td ty tx:TE}
end
section
variable {X:Cx}{pins:List (Ad×Obj)}{B:St}{H:Hp}{s:Ac}{a:Ad}{kvs:List (Key×V)}{A:Am}{E:Ab->Ac->Prop}
end
section
variable {X:Cx}{pins:List (Ad×Obj)}{B:St}{H:Hp}{s:Ac}{a:Ad}{y:V}{u:Ab}{A:Am}{E:Ab->Ac->Prop}
end
noncomputable def kEq :Aa->Key->Bool
 |.int i,.inl j=>decide (i=j)
 |.str x,.inr y=>decide (x=y)
 |_,_=>false
def rD (k j:Key):kEq (xM k) j=decide (k=j):=by
 cases k<;>cases j<;>simp[kEq,xM]
noncomputable def uI :List (Aa×Aa)->Key->Option Aa
 |[],_=>none
 |(p,d)::r,k=>if kEq p k=true then some d else uI r k
noncomputable def putD (ds:List (Aa×Aa))(k:Key)(d:Aa):List (Aa×Aa):=
 if(uI ds k).isSome=true then ds.map (λp=>if kEq p.1 k=true then(p.1,d)else p)else ds++[(xM k,d)]
theorem AVk.get {H:Hp}:∀{kvs:List (Key×V)}{ds:List (Aa×Aa)}{k:Key}{d:Aa},AVk H kvs ds->uI ds k=some d->∃v,tO kvs k=some v/\AV H v d
 |_,_,k,d,.nil,e=>by cases e
 |_,_,k,d,.cons (k:=j) h r,e=>by
  unfold uI at e;rw[rD]at e;by_cases z:j=k
  .rw[ya9 z,if_pos rfl]at e;cases e;exact⟨_,uK z,h⟩
  .rw[ya3 z,if_neg (by decide)]at e;rw[vc z];exact AVk.get r e
theorem AVk.none {H:Hp}{kvs:List (Key×V)}{ds:List (Aa×Aa)}{k:Key}(h:AVk H kvs ds)(e:uI ds k=Option.none):tO kvs k=Option.none:=by
 induction h using AVk.ind with
 |nil=>rfl
 |@cons j _ _ _ _ h r ih=>
  unfold uI at e;rw[rD]at e;by_cases z:j=k
  .rw[ya9 z,if_pos rfl]at e;cases e
  .rw[ya3 z,if_neg (by decide)]at e;rw[vc z];exact ih e
theorem AVk.some_iff {H:Hp}{kvs:List (Key×V)}{ds:List (Aa×Aa)}(h:AVk H kvs ds)(k:Key):(tO kvs k).isSome=(uI ds k).isSome:=by
 cases e:uI ds k with
 |none=>rw[h.none e];rfl
 |some d=>
  obtain⟨v,a,_⟩:=h.get e;rw[a];rfl
theorem AVk.length {H:Hp}{kvs:List (Key×V)}{ds:List (Aa×Aa)}(h:AVk H kvs ds):kvs.length=ds.length:=h.ind (motive:=λxs ds _=>xs.length=ds.length) rfl λ_ _ z=>congrArg (·+1) z
theorem AVk.snoc {H:Hp}{k:Key}{v:V}{d:Aa}(a:AV H v d):∀{kvs:List (Key×V)}{ds:List (Aa×Aa)},AVk H kvs ds->AVk H (kvs++[(k,v)]) (ds++[(xM k,d)])
 |_,_,.nil=>.cons a .nil
 |_,_,.cons h r=>.cons h (AVk.snoc a r)
theorem AVk.repl {H:Hp}{k:Key}{v:V}{d:Aa}(a:AV H v d):∀{kvs:List (Key×V)}{ds:List (Aa×Aa)},AVk H kvs ds->AVk H (kvs.map λb=>if b.1=k then(b.1,v)else b) (ds.map λp=>if kEq p.1 k=true then(p.1,d)else p)
 |_,_,.nil=>.nil
 |_,_,.cons (k:=j) h r=>by
  rw[ya6,ya6];show AVk H ((if j=k then(j,v)else(j,_))::_) ((if kEq (xM j) k=true then(xM j,d)else(xM j,_))::_);rw[rD];by_cases z:j=k
  .rw[if_pos z,ya9 z,if_pos rfl];exact .cons a (AVk.repl a r)
  .rw[if_neg z,ya3 z,if_neg (by decide)];exact .cons h (AVk.repl a r)
def AVk.put {H:Hp}{kvs:List (Key×V)}{ds:List (Aa×Aa)}{k:Key}{v:V}{d:Aa}(h:AVk H kvs ds)(a:AV H v d):AVk H (putK kvs k v) (putD ds k d):=by
 unfold putK putD;rw[rf,h.some_iff];split
 .exact h.repl a
 .exact h.snoc a
theorem AVk.at {H:Hp}{kvs:List (Key×V)}{ds:List (Aa×Aa)}{i:Nat}{p:Aa×Aa}(h:AVk H kvs ds)(e:ds[i]?=some p):∃k v,kvs[i]?=some (k,v)/\p.1=xM k/\AV H v p.2:=by
 induction h using AVk.ind generalizing i with
 |nil=>simp at e
 |cons h _ a=>
  cases i with
  |zero=>exact yb5 e▸⟨_,_,rfl,rfl,h⟩
  |succ i=>exact a e
theorem gk {H:Hp}(k:Key):AV H (kV k) (xM k):=by cases k with
 |inl i=>exact .int i
 |inr x=>exact .str x
theorem sO {H:Hp}{v:V}{k:Key}(h:AV H v (xM k)):v=kV k:=by
 cases k with
 |inl i=>exact h.int_inv
 |inr x=>exact h.str_inv
theorem AV.dk_inv {H:Hp}{v:V}{ds:List (Aa×Aa)}(h:AV H v (xf ds)):∃a o kvs,v=.ref a/\H a=some (.frz o (.dK kvs))/\AVk H kvs ds:=by
 generalize e:xf ds=d at h;cases h with
 |dk h1 h2=>cases e;exact⟨_,_,_,rfl,h1,h2⟩
 |_=>cases e
theorem fC {H:Hp}{l:Ad}{o:Obj}{u:HO}(h:H l=some (.frz o u)):Plain H l:=by
 first
 |trivial
 |(intro v e;rw[h]at e;cases e;exact⟨(λz=>by cases z),λps z=>by cases z⟩)
section
variable {X:Cx}{pins:List (Ad×Obj)}{B:St}{H:Hp}{s:Ac}{l:Ad}{kvs:List (Key×V)}
def z07 (X:Cx)(l:Ad):Prop:=∀o u,X.H₀ l≠some (.frz o u)
def Inv.fz (I:Inv X pins B H s)(h:H l=some (.dK kvs)):z07 X l/\∃o,Inv X pins B (upd H l (.frz o (.dK kvs))) s:=by
 refine⟨(λo u z=>by rw[I.base.frzs _ _ _ z]at h;cases h),?_⟩;obtain⟨z,y,vs,r,ob,es,ep,e,c⟩:=(I.hok l _ h);refine⟨ob,I.write (by rw[h];trivial) (.inl rfl) (λb u _ q=>q) ⟨ob,e⟩ ?_⟩;exact⟨e,z,y,vs,r,ob,es,ep,e,c⟩
def Inv.unfz {o:Obj}(d:z07 X l)(I:Inv X pins B H s)(h:H l=some (.frz o (.dK kvs))):Inv X pins B (upd H l (.dK kvs)) s:=by
 have ne:∀{b:Ad},H b=none->upd H l (.dK kvs) b=none:=λ{b} e=>by rw[zc λz=>by rw[z,h]at e;cases e];exact e
 refine⟨I.ok,I.os,I.bare,⟨I.base.keep,I.base.slot,λb ob q n a=>ne (I.base.free b ob q n a),I.base.there,λb xs q=>?_,λb ob u q=>?_,λb ps q=>?_⟩,I.loc,I.cell,ne I.free,λx c e=>ne (I.freeC x c e),λp f=>?_,λb u q=>?_,I.len⟩
 .have:=I.base.tups b xs q;rw[zc λz=>by rw[z,h]at this;cases this];exact this
 .rw[zc λz=>by rw[z]at q;exact d _ _ q];exact I.base.frzs b ob u q
 .obtain⟨more,this⟩:=I.base.tbls b ps q;exact⟨more,by rw[zc λz=>by rw[z,h]at this;cases this];exact this⟩
 .obtain⟨h1,h2,h3⟩:=I.pin p f;exact⟨h1,ne h2,h3⟩
 .have st:∀{b:Ad} {u:HO},yn X.prog X.w H s.heap b u->yn X.prog X.w (upd H l (.dK kvs)) s.heap b u:=λ{b u} x=>x.stay (λ_ _ _ q=>q)
   (λc e=>by rw[zc λz=>by rw[z,h]at e;cases e];exact e) λc xs e=>by rw[zc λz=>by rw[z,h]at e;cases e];exact e
  by_cases z:b=l
  .subst z;rw[zi]at q;cases q;obtain⟨_,w⟩:=(I.hok b _ h);exact st w
  .rw[zc z]at q;exact st (I.hok b u q)
end
section
variable {X:Cx}{e:Al}{sts:List An}
def zU1 {t:TE}{l:Ad}{kvs:List (Key×V)}(h:PE X e t):PE X e (λB H Q=>H l=some (.dK kvs)/\∀o,t B (upd H l (.frz o (.dK kvs))) λv a=>a l=some (.frz o (.dK kvs))/\Q v (upd a l (.dK kvs))):=by
 intro pins s B H Q I ⟨hl,q⟩;obtain⟨g,o,f⟩:=I.fz hl;refine thn (h pins s B _ _ f (q o)) λu s1 b=>?_;obtain⟨v,a,c,r,e,d⟩:=b;exact⟨v,_,c.unfz g e,r,d⟩
def zR0 {t:TS}{l:Ad}{kvs:List (Key×V)}(h:PSs X sts t):PSs X sts (λD B H=>H l=some (.dK kvs)/\∀o,t D B (upd H l (.frz o (.dK kvs)))):=by
 intro pins s B H D I ⟨hl,q⟩;obtain⟨b,o,a⟩:=I.fz hl;exact h pins s B _ _ a (q o)
end
section
variable {X:Cx}{O:Ev}{e a b:Al}{pos p:Pos}{Q:Aa->Prop}
def M.fzk {F:Fr}{B:St}{H:Hp}{i:Nat}{ds:List (Aa×Aa)}{l:Ad}{kvs:List (Key×V)}{o:Obj}(m:M F O B H)(hi:O[i]?=some (some (.dic ds)))(v:B[i]?=some (some (.ref l)))(E:H l=some (.dK kvs)):
  M F (O.set i (some (.dat (xf ds)))) B (upd H l (.frz o (.dK kvs))):=by
 obtain⟨Z,I,h1,h2,h3,C,N⟩:=m.dic i ds hi;rw[v]at h1;cases h1;rw[E]at h2;cases h2;have nl:¬Ow F (O.set i (some (.dat (xf ds)))) B l:=m.gave hi v rfl λc z=>by cases z;exact id
 have ol:Ow F O B l:=.inr ⟨i,_,_,hi,v,rfl⟩;have J:zt (Gz F O B H) (Gz F (O.set i (some (.dat (xf ds)))) B (upd H l (.frz o (.dK kvs)))):=λx u e=>by
  obtain⟨S,T⟩:=zf (aH (b:=.dat (xf ds)) (λ_ _ f=>f) x u e);exact zB S (by rw[zc λz=>(zf e).1 (by rw[z];exact ol)];exact T)
 have G:=rp E;refine⟨by rw[yh0];exact m.len,λj c s e1 h=>?_,λj A c d s t x e1 h W U f1 f2=>?_,λj r q e A c s x e1 h f=>?_,m.tp.updO C G,λy u e n=>?_,λy hy=>?_⟩
 .rcases zK e1 with⟨rfl,z⟩|⟨D,g⟩
  .cases z;rw[v]at h;cases h;exact⟨_,rfl,.dk (zB nl zi) (h3.same J)⟩
  .refine(m.ok j c s g h).stay J (λy u f e=>?_) rfl λr q L k=>⟨k.tp,k.o,k.ok.updO (λz=>C (k.o _ z)) G,λy u e n=>?_⟩
   .obtain⟨P,R,_⟩:=m.ft g h f;refine⟨?_,P,R⟩;rw[zc λz=>D (m.dj i j _ c _ s l hi g v h rfl (by rw[<-z];exact f))];exact e
   .rw[zc (zk e (m.xd j r q (by rw[<-L];exact g) i _ _ l hi v rfl))];exact k.k y u e n
 .rcases zK e1 with⟨rfl,z⟩|⟨D,g⟩
  .cases z;exact f1.elim
  .rcases zK h with⟨rfl,z⟩|⟨K,w⟩
   .cases z;exact f2.elim
   .exact m.dj j A c d s t x g w W U f1 f2
 .rcases zK e with⟨_,z⟩|⟨_,Y⟩
  .cases z
  .rcases zK e1 with⟨rfl,z⟩|⟨D,g⟩
   .cases z;exact f.elim
   .exact m.xd j r q Y A c s x g h f
 .rw[zc (zk e N)];exact m.keep y u e n
 .rw[zc (λz=>C (by rw[<-z];exact hy))];exact m.oex y hy
def M.fzback {F:Fr}{B:St}{H d:Hp}{i:Nat}{ds:List (Aa×Aa)}{l:Ad}{kvs:List (Key×V)}{o:Obj}(m:M F O B H)(hi:O[i]?=some (some (.dic ds)))(w:B[i]?=some (some (.ref l)))(y:H l=some (.dK kvs))
  (t:zH F d) (k:Kz F (upd H l (.frz o (.dK kvs))) d):d l=some (.frz o (.dK kvs))/\zH F (upd d l (.dK kvs))/\Kz F H (upd d l (.dK kvs))/\
   ∀x u,¬Ob u->Gz F (O.set i (some (.dat (xf ds)))) B d x=some u->Gz F O B (upd d l (.dK kvs)) x=some u:=by
 obtain⟨K,C,h1,h2,h3,A,J⟩:=m.dic i ds hi;rw[w]at h1;cases h1;rw[y]at h2;cases h2;have v:=k _ _ zi (m.tp.nt A);refine⟨v,t.updO A (fC v),λx u e n=>?_,λx u E e=>?_⟩
 .by_cases z:x=l
  .subst z;rw[y]at e;cases e;exact zi
  .rw[zc z];exact k x u (by rw[zc z];exact e) n
 .obtain⟨G,g⟩:=zf e;have nx:x≠l:=λz=>by rw[z,v]at g;cases g;exact E trivial
  refine zB (λq=>G ?_) (by rw[zc nx];exact g);rcases q with z|⟨j,c,s,r,h,f⟩
  .exact .inl z
  .by_cases D:i=j
   .subst D;rw[hi]at r;cases r;rw[w]at h;cases h;have I:=f;cases I;exact absurd rfl nx
   .exact .inr ⟨j,c,s,by rw[rB D];exact r,h,f⟩
def zf3 {Q:List Aa->Prop}(i:Nat){ds:List (Aa×Aa)}(hi:O[i]?=some (some (.dic ds)))(h:EvL X (O.set i (some (.dat (xf ds)))) e λd=>wW d=true/\Q d):EvL X O e Q:=λF B H R m k=>by
 obtain⟨l,kvs,h1,h2,h3,E,D⟩:=m.dic i ds hi;refine⟨_,zU1 zg,h2,λo=>h F B _ _ (m.fzk hi h1 h2) λd v H' q t kz r=>?_⟩;obtain⟨g1,g2,g3,j⟩:=m.fzback hi h1 h2 t kz;obtain⟨g,xs,e1,c,A,C⟩:=r;have nl:g≠l:=λz=>by rw[z,zi]at c;cases c
 rw[zc nl]at c;refine⟨g1,k d v _ q.2 g2 g3 ⟨g,xs,e1,c,by rw[zc nl];exact A,C.noL (λx u n z=>?_) q.1⟩⟩;obtain⟨f,y⟩:=zf z;obtain⟨w,s⟩:=zf (j x u n (zB f.1 y));exact zB ⟨w,f.2⟩ s
def zQ7 (i:Nat){ds:List (Aa×Aa)}{c:List An}{E:xr}(hi:O[i]?=some (some (.dic ds)))(h:SvS X (O.set i (some (.dat (xf ds)))) c E):SvS X O c E:=λF B H D m r=>by
 obtain⟨l,kvs,h1,h2,h3,f,d⟩:=m.dic i ds hi;exact⟨_,zR0 zP,h2,λo=>h F B _ D (m.fzk hi h1 h2) r⟩
def zw8 (i:Nat){x:Str}{n:Al}{ds:List (Aa×Aa)}{p1 p2:Pos}{rest:List An}{E:xr}(t:X.A.units+1<cLine)(hi:O[i]?=some (some (.dic ds)))(h:EvD X O e λd=>EvD X O n λy=>∃k,y=xM k/\ds.length<1000/\SvS X (O.set i (some (.dic (putD ds k d)))) rest E)
  (I:X.N[i]?=some x:=by rfl) (z:Vis X.env.scope x:=by first|exact Or.inl rfl|exact Or.inr (Or.inl rfl)|exact Or.inr (Or.inr rfl)) (hd:(x == ("__debug__":Str))=false:=by decide) (f:(x == ("__classdict__":Str))=false:=by decide)
  (g:swapsWith e (some (.Subscript (.Name x p1) n p2)) pos.line X.env=pure false:=by rfl):
  SvS X O (.Assign [.Subscript (.Name x p1) n p2] e pos::rest) E:=λF B H D m r=>by
 obtain⟨l,kvs,h1,h2,h3,o,L⟩:=m.dic i ds hi;refine⟨_,zE (zo1 t (xi I z hd f) zg zg g) zP,h F B H _ m λd v H1 G t1 j u=>?_⟩;have m1:=m.kz j t1;refine⟨.ref l,h1,G F B H1 _ m1 λy M K C J c w=>?_⟩;obtain⟨k,rfl,s,q⟩:=C;cases sO w;refine⟨l,_,rfl,zc2.k (c _ _ (j _ _ h2 (m.tp.nt o)) (m.tp.nt o)) (by rw[h3.length];exact yp (yd3 s)),?_⟩;exact q F B _ D ((m1.kz c J).wrC hi h1 (.dk (((h3.same (j.gz m.tp)).same (c.gz m1.tp)).put (u.same (c.gz m1.tp))))) r
end
section
variable {X:Cx}{O:Ev}{e a b:Al}{pos p:Pos}{Q:Aa->Prop}
def aK (h:EvD X O a λy=>EvD X O b λd=>∃k,y=xM k/\Q (xf [(xM k,d)])):EvC X O (.Dict [some a] [b] pos) Q:=λF B H R m t=>by
 refine⟨_,zm4 (zd5 zg zg zn4) rfl rfl (List.cons_ne_nil _ _) (by show 1<=15;decide),λl c=>?_⟩;have s0:zt H (upd H l (.dK [])):=yg c;have m0:=m.park (Kz.of_same s0) (m.tp.same s0) c zi (λ_ z=>by cases z);refine h _ B _ _ m0 λy D H1 u t1 g r=>?_;refine u _ B H1 _ (m0.kz g t1) λd v C w A i s=>?_;obtain⟨k,rfl,q⟩:=w;cases sO r;have nl:=m.fresh c;have f:=m.tp.nt (ow0 nl);have j:=i _ _ (g _ _ zi f) f;refine⟨j,[(k,v)],rfl,by show 1<=15;decide,?_⟩;refine t _ _ _ q ((m.tp.re A rfl).updO (ow0 nl) (rp j)) (λx o e n=>?_) ⟨l,_,rfl,c,zi,?_⟩
 .have nx:x≠l:=λz=>by rw[z,c]at e;cases e
  rw[zc nx];exact i _ _ (g _ _ (s0 _ _ e) n) n
 .refine yN.dk ?_;refine AVk.cons (s.same (zu λx o h e=>?_)) .nil;have nx:x≠l:=λz=>h (.inl (.inr z));exact⟨⟨λz=>h (z.elim (λz=>.inl (.inl z)) .inr),nx⟩,by rw[zc nx];exact e⟩
end
def epO (o:Obj):Nat:=match o.data with
 |.dict _ ep=>ep
 |_=>0
def Inv.fzAt {X:Cx}{pins:List (Ad×Obj)}{B:St}{H:Hp}{s:Ac}{a:Ad}{o:Obj}{kvs:List (Key×V)}(I:Inv X pins B H s)(h:H a=some (.frz o (.dK kvs))):
  kvs.length<=sizeLine/\(a == sysModules)=false/\∃vs,KV kvs vs/\s.heap.DictAt (ya X.prog X.w) a vs (epO o):=by
 obtain⟨b,z,y,vs,r,ob,es,ep,e,d,c,g⟩:=(I.hok a _ h);rw[b]at e;cases e;have f:epO o=ep:=by unfold epO;rw[c]
 rw[f];exact⟨z,y,vs,r,o,es,b,d,c,g⟩
theorem KV.at {kvs:List (Key×V)}{vs:List (Key×Ab)}(r:KV kvs vs):∀{i:Nat}{k:Key}{v:V},kvs[i]?=some (k,v)->∃u,vs[i]?=some (k,u)/\RelV v u:=by
 unfold KV at r
 induction r with
 |nil=>intro i k v e;simp at e
 |@cons p q ps qs h t ih=>
  intro i k v e;cases i with
  |zero=>
   simp at e;subst e;refine⟨q.2,?_,h.2⟩;have h1:k=q.1:=h.1;rw[h1];rfl
  |succ i=>
   obtain⟨u,h1,h2⟩:=ih (by simpa using e);exact⟨u,by simpa using h1,h2⟩
def iO {P:Ag}{w:Ak}{k:Key}{u:Ab}(h:(ya P w).is k u=true):RelV (kV k) u:=by
 rcases zW (h)with⟨i,t,rfl,rfl⟩|⟨x,t,rfl,rfl⟩
 .exact⟨t,rfl⟩
 .exact⟨t,rfl⟩
def Itd (a:Ad)(o:Obj)(kvs:List (Key×V)):It:=⟨λi H=>H a=some (.frz o (.dK kvs))/\i<kvs.length,λi H x H'=>H'=H/\∃k v,kvs[i]?=some (k,v)/\x=kV k,λi H=>H a=some (.frz o (.dK kvs))/\kvs.length<=i⟩
def zR8 (a:Ad)(o:Obj)(kvs:List (Key×V)):It:=⟨λi H=>H a=some (.frz o (.dK kvs))/\i<kvs.length,λi H x H'=>H'=H/\∃k v,kvs[i]?=some (k,v)/\x=v,λi H=>H a=some (.frz o (.dK kvs))/\kvs.length<=i⟩
def dQ {P:Ag}{w:Ak}{K:Ae}{tg:Al}(a it:Ad)(ob:Obj)(kvs:List (Key×V)):Turn P w K tg (Itd a ob kvs) [it] it (λi h=>h.IsKeyIter it a i kvs.length (epO ob)) where
 mem:=by simp
 obj:=λi h st b hb=>by
  have e:b=it:=by simpa using hb
  subst e;obtain⟨o,e,c,d⟩:=st;exact⟨o,e,λv z=>by rw[d]at z;cases z⟩
 keep:=λi h h' st k=>st.at λo e=>k it (by simp) o e
 item:=by
  intro X f hw g r i pins s B H E I hf st hg;subst f hw g;obtain⟨hq,hi⟩:=hg;obtain⟨_,_,vs,rel,m⟩:=I.fzAt hq;obtain⟨⟨k,v⟩,q⟩:∃p,kvs[i]?=some p:=⟨kvs[i],z78 hi⟩;obtain⟨u,t,y⟩:=rel.at q;obtain⟨f0,f1,f2,l,f4,j⟩:=hf it (by simp);rw[rel.length]at st ⊢;refine wpAny_pyNext_dict_item st m t λkey h' hk st' sb=>?_;obtain⟨o,e,c,d⟩:=id st';exact⟨key,rfl,qf e c d (by decide) ⟨kV k,H,(I.turned (λb o hb e=>(sb.2 b hb).trans e) f0 f1 l f4 j),iO hk,⟨rfl,k,v,q,rfl⟩,st',λb hb=>(hf b hb).1⟩⟩
 done:=by
  intro X f hw g r i pins s B H E I hf st hg;subst f hw g;obtain⟨hq,hi⟩:=hg;obtain⟨_,_,vs,rel,m⟩:=I.fzAt hq;have n:=rel.length;obtain⟨f0,f1,f2,l,f4,j⟩:=hf it (by simp);rw[n]at st;exact wpAny_pyNext_dict_end (I.ok.hd r) st m (ye6 (z93 (ya2 n.symm) hi)) λh' x=>⟨rfl,I.turned (λb o hb e=>x b o hb e) f0 f1 l f4 j⟩
 self:=λ_ _ _ _ _ st h=>wpAny_pyIter_keyiter st h
def eA {P:Ag}{w:Ak}{K:Ae}{tg:Al}(a it:Ad)(ob:Obj)(kvs:List (Key×V)):Turn P w K tg (zR8 a ob kvs) [it] it (λi h=>h.IsValIter it a i kvs.length (epO ob)) where
 mem:=by simp
 obj:=λi h st b hb=>by
  have e:b=it:=by simpa using hb
  subst e;obtain⟨o,e,c,d⟩:=st;exact⟨o,e,λv z=>by rw[d]at z;cases z⟩
 keep:=λi h h' st k=>st.at λo e=>k it (by simp) o e
 item:=by
  intro X f hw g r i pins s B H E I hf st hg;subst f hw g;obtain⟨hq,hi⟩:=hg;obtain⟨_,_,vs,rel,m⟩:=I.fzAt hq;obtain⟨⟨k,v⟩,q⟩:∃p,kvs[i]?=some p:=⟨kvs[i],z78 hi⟩;obtain⟨u,t,x⟩:=rel.at q;obtain⟨f0,f1,f2,l,f4,j⟩:=hf it (by simp);rw[rel.length]at st ⊢;refine wpAny_pyNext_values_item st m t λh' st' sb=>?_;obtain⟨o,e,c,d⟩:=id st';exact⟨u,rfl,qf e c d (by decide) ⟨v,H,(I.turned (λb o hb e=>(sb.2 b hb).trans e) f0 f1 l f4 j),x,⟨rfl,k,v,q,rfl⟩,st',λb hb=>(hf b hb).1⟩⟩
 done:=by
  intro X f hw g r i pins s B H E I hf st hg;subst f hw g;obtain⟨hq,hi⟩:=hg;obtain⟨_,_,vs,rel,m⟩:=I.fzAt hq;have n:=rel.length;obtain⟨f0,f1,f2,l,f4,j⟩:=hf it (by simp);rw[n]at st;exact wpAny_pyNext_values_end (I.ok.hd r) st m (ye6 (z93 (ya2 n.symm) hi)) λh' y=>⟨rfl,I.turned (λb o hb e=>y b o hb e) f0 f1 l f4 j⟩
 self:=λ_ _ _ _ _ st h=>wpAny_pyIter_valiter st h
section
variable {X:Cx}{tg:Al}
def zs1 {l:Al}{f:TE}(g:PE X l f):PI X tg l (λB H R=>f B H λx H1=>∃a o kvs,x=.ref a/\H1 a=some (.frz o (.dK kvs))/\R (Itd a o kvs) H1):=by
 intro pins s B H R I h;refine thn (g pins s B H _ I h) λv s1 d=>?_;obtain⟨x,H1,c,i,j⟩:=d;obtain⟨a,o,kvs,rfl,hq,q⟩:=j;cases i;obtain⟨_,m,vs,rel,k⟩:=c.fzAt hq;refine wpAny_pyIter_dict m k ?_;refine⟨s1.heap.objs.size,[s1.heap.objs.size],_,_,H1,rfl,c.kept λb o e=>z79 _ e,dQ a _ o kvs,⟨_,z86 _ rfl,rfl,by rw[rel.length];rfl⟩,λb hb=>?_,q⟩;have e:b=s1.heap.objs.size:=by simpa using hb
 subst e;exact c.fpOk (z82 _) (c.hok.fresh (z82 _))
def zs3 {l:Al}{m:TE}{apos c:Pos}(p:PE X l m)(f:attributeBase l "values" X.env (eval l X.env)=eval l X.env:=by rfl)(d:(apos.endLine == c.line)=true:=by rfl):
  PI X tg (.Call (.Attribute l "values" apos) [] [] c) (λB H R=>m B H λx H1=>∃a o kvs,x=.ref a/\H1 a=some (.frz o (.dK kvs))/\R (zR8 a o kvs) H1):=by
 intro pins s B H R I h;refine wpAny_Call_method0_late f d (thn (p pins s B H _ I h) λv s1 i=>?_);obtain⟨x,H1,j,r,y⟩:=i;obtain⟨a,o,kvs,rfl,hq,q⟩:=y;cases r;obtain⟨_,u,vs,rel,k⟩:=j.fzAt hq;obtain⟨n,t,_⟩:=zQ6 j (.inl ⟨kvs,.inr ⟨o,hq⟩⟩);refine⟨"dict","dict.values",PySem.F.plainAttrs_dict,PySem.F.slot_dict_values,PySem.F.type_dict_values,n,t,Calls.callWith_builtin rfl (PySem.evalArgs_none (call_meetsIn PySem.F.slot_dict_values n PySem.F.entry_dict_values (PySem.F.args_dict_values_1 _) (meets_dict_values (ya X.prog X.w) a u) ⟨⟨vs,k.dictOf⟩,?_⟩))⟩;have g:Inv X pins B H1 {s1 with heap:=s1.heap.push {cls:=.type "dict_values",data:=.fields #[.ref a]}}:=j.kept λb o e=>z79 _ e;refine wpAny_pyIter_values ⟨_,z86 _ rfl,rfl,rfl⟩ (k.push _) ?_;refine⟨(s1.heap.push {cls:=.type "dict_values",data:=.fields #[.ref a]}).objs.size,[(s1.heap.push {cls:=.type "dict_values",data:=.fields #[.ref a]}).objs.size],_,_,H1,rfl,g.kept λb o e=>z79 _ e,eA a _ o kvs,⟨_,z86 _ rfl,rfl,by rw[rel.length];rfl⟩,λb hb=>?_,q⟩;have e:b=(s1.heap.push {cls:=.type "dict_values",data:=.fields #[.ref a]}).objs.size:=by simpa using hb
 subst e;exact g.fpOk (z82 _) (g.hok.fresh (z82 _))
end
section
variable {X:Cx}{O:Ev}{e a b tg:Al}{pos p:Pos}{Q:List Aa->Prop}
def zw0 (h:EvD X O e λx=>∃ds,x=xf ds/\Q (ds.map (·.1))):EvI X O tg e Q:=λF B H R m k=>by
 refine⟨_,zs1 zg,h F B H _ m λx z H1 r t1 t j=>?_⟩;obtain⟨ds,rfl,q⟩:=r;obtain⟨a,o,kvs,rfl,g1,g2⟩:=j.dk_inv;refine⟨a,o,kvs,rfl,(zf g1).2,k _ _ H1 q t1 t λi u w s=>⟨λd hd=>?_,λc=>?_⟩⟩
 .rw[z88,z98]at hd;obtain⟨pr,l,rfl⟩:=hd;obtain⟨D,v,f,n,E⟩:=g2.at l;refine⟨⟨(zf (s _ _ g1)).2,(z81.mp f).1⟩,λx A y=>?_⟩;obtain⟨rfl,C,G,g,rfl⟩:=y;rw[f]at g;cases g;refine⟨zt.refl _,λ_=>?_⟩;rw[n];exact gk _
 .rw[z77]at c;exact⟨(zf (s _ _ g1)).2,by rw[g2.length];exact c⟩
def zt0 {apos c:Pos}(h:EvD X O e λx=>∃ds,x=xf ds/\Q (ds.map (·.2)))(g:attributeBase e "values" X.env (eval e X.env)=eval e X.env:=by rfl)(f:(apos.endLine == c.line)=true:=by rfl):
  EvI X O tg (.Call (.Attribute e "values" apos) [] [] c) Q:=λF B H R m k=>by
 refine⟨_,zs3 zg g f,h F B H _ m λx D H1 u t1 w r=>?_⟩;obtain⟨ds,rfl,q⟩:=u;obtain⟨a,o,kvs,rfl,g1,g2⟩:=r.dk_inv;refine⟨a,o,kvs,rfl,(zf g1).2,k _ _ H1 q t1 w λi A C s=>⟨λd hd=>?_,λj=>?_⟩⟩
 .rw[z88,z98]at hd;obtain⟨pr,t,rfl⟩:=hd;obtain⟨J,v,l,E,z⟩:=g2.at t;refine⟨⟨(zf (s _ _ g1)).2,(z81.mp l).1⟩,λx G y=>?_⟩;obtain⟨rfl,I,K,n,rfl⟩:=y;rw[l]at n;cases n;exact⟨zt.refl _,λ_=>z.same s⟩
 .rw[z77]at j;exact⟨(zf (s _ _ g1)).2,by rw[g2.length];exact j⟩
def rh (z:X.calm=true):yP X (.type "list") (λxs H Q=>∃a o kvs,xs=[.ref a]/\H a=some (.frz o (.dK kvs))/\∀l,H l=none->Q (.ref l) (upd H l (.lst (kvs.map λp=>kV p.1)))):=by
 intro pins s B H xs us Q I r h;obtain⟨a,o,kvs,rfl,hq,q⟩:=h;obtain⟨u,rfl,A⟩:=vals1 r;cases A;obtain⟨i,t,vs,rel,D⟩:=I.fzAt hq;refine PySem.W.kdl_call (PySem.W.kdl_dict t) (I.ok.hd z) D (by rw[<-rel.length];exact i) λh' E c c' kp e it=>?_;refine⟨.ref s.heap.objs.size,_,I.laid kp (z82 _) (show yn X.prog X.w _ h' _ (.lst (kvs.map λp=>kV p.1))from⟨by rw[z77];exact i,c.toList,c',?_,by simpa using e⟩),rfl,q _ (I.hok.fresh (z82 _))⟩;have key:∀{as:List V} {bs:List Ab},as.length=bs.length->(∀(j:Nat) x,as[j]?=some x->∃u,bs[j]?=some u/\RelV x u)->Vals as bs:=by
  intro as
  induction as with
  |nil=>intro bs h1 _;cases bs with|nil=>exact .nil|cons _ _=>simp at h1
  |cons x as C=>
   intro bs h1 h2;cases bs with
   |nil=>simp at h1
   |cons y bs=>
    obtain⟨u,d,g⟩:=h2 0 x rfl;simp at d;subst d;exact .cons g (C (by simpa using h1) λj m f=>by simpa using h2 (j+1) m (by simpa using f))
 refine key (by rw[z77,rel.length,yf8];exact it.1.symm) λj x f=>?_;rw[z88,z98]at f;obtain⟨⟨k,v⟩,h1,rfl⟩:=f;obtain⟨F,h2,_⟩:=rel.at h1;have n:j<c.size:=by rw[it.1];exact(z81.mp h2).1
 obtain⟨G,m,d,g⟩:=it.2 j c[j] (by simp[n]);rw[h2]at d;cases d;exact⟨c[j],by simp[n],iO g⟩
theorem zg6 {H G:Hp}{kvs:List (Key×V)}{ds:List (Aa×Aa)}(h:AVk H kvs ds):AVs G (kvs.map λp=>kV p.1) (ds.map (·.1)):=by
 induction h using AVk.ind with
 |nil=>exact .nil
 |cons _ _ c=>exact .cons (gk _) c
def ao (r:X.calm=true)(hg:Gl X "list")(hm:X.mg "list"=none)(h:EvD X O e λx=>∃ds,x=xf ds/\Q (ds.map (·.1)))(he:Af [e] X.env=(false,eval e X.env)::Af [] X.env:=by rfl):
  EvL X O (.Call (.Name "list" p) [e] [] pos) Q:=λF B H R m k=>by
 refine⟨_,xX (rh r) hg hm boot_list (zv zg zJ he) (he:=he),h F B H _ m λx s H1 i t1 c g=>?_⟩;obtain⟨ds,rfl,q⟩:=i;obtain⟨a,o,kvs,rfl,g1,g2⟩:=g.dk_inv;refine⟨a,o,kvs,rfl,(zf g1).2,λl d=>?_⟩;obtain⟨f,n,j⟩:=(m.kz c t1).lay d (zg6 g2);exact k _ _ _ q f (c.trans n) (j.back m c t1)
end
mutual
noncomputable def ltD :Aa->Aa->Option Bool
 |.int a,.int b=>some (decide (a<b))
 |.str a,.str b=>some (decide (a.cps.toList<b.cps.toList))
 |.tuple xs,.tuple ys=>jc xs ys
 |_,_=>none
noncomputable def jc :List Aa->List Aa->Option Bool
 |[],[]=>some false
 |[],_::_=>some true
 |_::_,[]=>some false
 |x::xs,y::ys=>if PyData.eqv x y=true then jc xs ys else ltD x y
end
def zQ3 (A:Am)(s:Ac)(x y:Aa):Prop:=∀(v u:Ab) (as bs:List Ad) (r:Bool),Reads s.heap v x as->Reads s.heap u y bs->x.canLay0=true->y.canLay0=true->ltD x y=some r->
 ∀(prog:Ag) (w:Ak) (E:Ab->Ac->Prop) (Q:Ab->Ac->Prop),Q (.bool r) s->Aj (Ah prog w) A (richCompare .Lt v u) Q E s
section
open PySem.SeqAt
open PySem.AutoSeq1 (wpAny_loadPart')
open PySem.MeetsSeq PySem.MeetsSeq2 PySem.MeetsSeq3
def zJ4 (l b:Ad)(items c:Array Ab)(n n2:Nat)(dd M:Option Ad)(sl P:Array (Option Ab))(xs ys:List Aa)(z:Bool)(G:jc xs ys=some z)(hcx:PyData.canLayAll0 xs=true)(hcy:PyData.canLayAll0 ys=true):
  Meets (Builtin.«tuple.__lt__» ⟨[.ref l,.ref b],[]⟩)
   (λA R s=>s.heap.get? l=some {cls:=.type "tuple",dict:=dd,data:=.seq items n,slots:=sl}/\s.heap.get? b=some {cls:=.type "tuple",dict:=M,data:=.seq c n2,slots:=P}/\
    (∃as bs,ReadsAll s.heap items.toList xs as/\ReadsAll s.heap c.toList ys bs)/\A.units+1+PyData.depthAll xs<cLine/\(∀x∈xs,∀y,zQ3 A.in1 s x y)/\R (.ok (.ret (.bool z))) s):=
 .of_wp λprog w A R s h=>by
  obtain⟨I,g,d,V,os⟩:=s;obtain⟨Z,hb,⟨as,bs,N,S⟩,U,B,h⟩:=h;have f2:=AutoSeq1.sub_tuple_tuple;have T:items.size=xs.length:=by simpa using SeqAt.ReadsAll.length _ _ _ N
  have W:c.size=ys.length:=by simpa using SeqAt.ReadsAll.length _ _ _ S
  wp_walk using yt4 Z,yt4 hb,wpAny_forIn_list _ (λrest b s'=>b.1=none/\s'=⟨I,g,d,V,os⟩/\∃vs ws f i r p,rest=vs.zip ws/\
   ReadsAll I vs f r/\ReadsAll I ws i p/\f.length+c.size=i.length+items.size/\jc f i=some z/\PyData.canLayAll0 f=true/\PyData.canLayAll0 i=true/\(∀x∈f,x∈xs)) _
  case turn=>
   rintro⟨y,x⟩ rest b s' ⟨q,rfl,vs,ws,f,i,r,p,m,O,J,hlen,k,F,H,j⟩;cases O with
   |nil=>rw[List.zip_nil_left]at m;cases m
   |@cons v vs' d0 ds0 a1 a2 p1 D=>
    cases J with
    |nil=>rw[List.zip_nil_right]at m;cases m
    |@cons u us' e0 es0 X Y p2 o=>
     rw[List.zip_cons_cons]at m;injection m with K t;injection K with hy C;subst hy C;simp only[PyData.canLayAll0,yc5]at F H;have hd:d0.depth<=PyData.depthAll xs:=by
      have hm:=j d0 z89;clear B j h N G hcx T
      induction xs with
      |nil=>cases hm
      |cons a as ih=>
       simp only[PyData.depthAll];rcases z84.mp hm with rfl|hm
       .exact Nat.le_max_left _ _
       .refine z93 (ih ?_ hm) (Nat.le_max_right _ _);simp only[PyData.depthAll]at U;have:=Nat.le_max_right a.depth (PyData.depthAll as);exact zF6 U
     have he:=SeqAt.eqAt_reads d0 e0 A.in1 ⟨I,g,d,V,os⟩ _ _ _ _ p1 p2 F.1 H.1 (by show A.units+1+min d0.depth e0.depth<cLine;lia);simp only[ya1]at hlen;unfold jc at k;refine z76 (he prog w _ _ ?_);cases e:PyData.eqv d0 e0 with
     |true=>
      rw[e,if_pos rfl]at k
      wp_walk
      exact⟨rfl,rfl,_,_,_,_,_,_,t,D,o,(zT6 hlen),k,F.2,H.2,λx C=>j x (z87 _ C)⟩
     |false=>
      rw[e,if_neg (by decide)]at k;have L:=λE Q hq=>B d0 (j d0 z89) e0 _ _ _ _ z p1 p2 F.1 H.1 k prog w E Q hq
      wp_walk using L
      exact⟨_,rfl,by simpa using h⟩
  case fin=>
   rintro⟨X,Y⟩ s' ⟨q,rfl,vs,ws,f,i,r,p,m,O,J,hlen,k,F,H,j⟩;simp only at q;subst q;have hv:z=decide (items.size<c.size):=by
    cases O with
    |nil=>
     cases J with
     |nil=>
      cases k;simp only[yq5]at hlen;exact(ya3 (z01 hlen)).symm
     |cons p2 o=>
      cases k;simp only[yq5,ya1]at hlen;exact(ya9 (z26 hlen)).symm
    |cons p1 D=>
     cases J with
     |nil=>
      cases k;simp only[yq5,ya1]at hlen;exact(ya3 (zX6 hlen)).symm
     |cons p2 o=>
      rw[List.zip_cons_cons]at m;cases m
   rw[hv]at h
   wp_walk
   exact⟨_,rfl,by simpa[Builtin.Tuple.tupleCompareSizes]using h⟩
  case h=>
   exact⟨rfl,rfl,items.toList,c.toList,xs,ys,as,bs,rfl,N,S,(zT3 T W),G,hcx,hcy,λx C=>C⟩
end
mutual
theorem qV :∀(d:Aa) (e:Aa) (A:Am) (s:Ac),A.units+d.depth<cLine->zQ3 A s d e
 |.int a,e,A,s,g=>λv u as bs r c f _ _ h prog w E Q q=>by
  cases e with
  |int b=>
   cases h;cases c;cases f;exact(PyProof.Rows.lt_int q:Aj (Ah prog w) A (compareOp .Lt _ _) Q E s)
  |_=>cases h
 |.str a,e,A,s,g=>λv u as bs r c f _ _ h prog w E Q q=>by
  cases e with
  |str b=>
   cases h;cases c;cases f;exact(lt_str q:Aj (Ah prog w) A (compareOp .Lt _ _) Q E s)
  |_=>cases h
 |.tuple xs,e,A,s,g=>λv u as bs r c f m o h prog w E Q q=>by
  cases e with
  |tuple ys=>
   cases c with
   |@tuple a1 o1 vs n1 _ _ g1 g2 g3 g4=>
    cases f with
    |@tuple a2 o2 ws n2 _ _ k1 k2 k3 k4=>
     obtain⟨cls,n,data,sl⟩:=o1;obtain⟨l,k,data2,j⟩:=o2;simp only at g2 g3 k2 k3;subst g2 g3 k2 k3;have i:A.units+1+PyData.depthAll xs<cLine:=by
      simp only[PyData.depth]at g
      lia
     exact richCompare_meets_room ⟨_,g1,rfl⟩ ⟨_,k1,rfl⟩ PySem.F.slot_tuple_lt PySem.F.entry_tuple_lt (PySem.F.args_tuple_lt_2 _ _) (zJ4 a1 a2 vs ws n1 n2 n k sl j xs ys r h (by simpa only[PyData.canLay0]using m) (by simpa only[PyData.canLay0]using o))
      ⟨g1,k1,⟨_,_,g4,k4⟩,i,kh xs A.in1 s (i),show Value.bool r≠Value.notImplemented/\Q (.bool r) s from⟨(λx=>nomatch x),q⟩⟩ (ya7 (ya0 _ _) g)
  |_=>cases h
 |.none,e,A,s,g=>λv u as bs r c f _ _ h=>by cases e<;>cases h
 |.bool _,e,A,s,g=>λv u as bs r c f _ _ h=>by cases e<;>cases h
 |.list _,e,A,s,g=>λv u as bs r c f _ _ h=>by cases e<;>cases h
 |.dict _,e,A,s,g=>λv u as bs r c f _ _ h=>by cases e<;>cases h
theorem kh :∀(xs:List Aa) (A:Am) (s:Ac),A.units+PyData.depthAll xs<cLine->∀x∈xs,∀y,zQ3 A s x y
 |[],A,s,b=>λx a=>by cases a
 |d::ds,A,s,b=>λx a y=>by
  simp only[PyData.depthAll]at b;have h1:=Nat.le_max_left d.depth (PyData.depthAll ds);by_cases e:x=d
  .rw[e];exact qV d y A s (by lia)
  .exact kh ds A s (zF6 b) x ((z84.mp a).resolve_left e) y
end
section
variable {prog:Ag}{w:Ak}{A:Am}{R:Result->Ac->Prop}{it:Ad}{fp wr:List Ad}{m:Nat}{P:Nat->Ab->Prop}{St:Nat->Ao->Prop}
def rM (h0 h:Ao):Prop:=∀b o,h0.get? b=some o->h.get? b=some o
def zK7 (prog:Ag)(w:Ak)(A:Am)(h0:Ao)(P:Nat->Ab->Prop)(bt:Nat->Nat->Bool):Prop:=
 ∀i j x y (s:Ac) (Q:Ab->Ac->Prop) (E:Ab->Ac->Prop),P i x->P j y->rM h0 s.heap->Q (.bool (bt i j)) s->Aj (Ah prog w) A (richCompare .Lt x y) Q E s
theorem dC (h0:Ao)(W:Walks prog w A.in1 it fp wr m P St)(bt:Nat->Nat->Bool)(C:zK7 prog w A.in1 h0 P bt)(D:Ad)(u:D∉fp)(r:h0.get? D=none)(t:∀b∈wr,h0.get? b=none):
  ∀(k j:Nat) (s:Ac) (x:Ab) (c:Nat),m-(j+1)=k->j+1<=m->St (j+1) s.heap->rM h0 s.heap->P (argBest bt j) x->
  s.heap.get? D=some {cls:=.type "list",dict:=none,data:=.seq #[x,x] c,slots:=#[]}->
  (∀y h' l,P (argBest bt (m-1)) y->(∀b o,b∉wr->b≠D->s.heap.get? b=some o->h'.get? b=some o)->R (.ok (.ret y)) {s with heap:=h',toks:=l})->
  codeAny (Ah prog w) A (.builtin "min.loop" ⟨[.ref it,.none,.ref D],[]⟩) R s:=by
 have h:D∉wr:=λq=>u (W.sub _ q);have nm:(toString "min"++toString ".loop":String)="min.loop":=by decide
 intro k;induction k with
 |zero=>
  intro j s x c hk B st kp px i n;have e:=(zy9 hk B);refine yh2 ys1 ?_;rw[yf2 yh8 _];refine z76 (yf5 i rfl ?_);show Aj _ A.in1 (tryCatch (pyNext (.ref it)) _ >>= _) _ _ s;refine z76 (wpAny_tryCatch (W.done s _ _ (e▸st) λh' l g=>?_));refine z76 (yh1 (g D _ h i) rfl (z76 (ym3 (z80 ?_))));exact n x _ l (by rw[<-e];exact px) λb o h1 h2 q=>(yb2 _ _ (yc1 h2)).trans (g b o h1 q)
 |succ k v=>
  intro j s x c hk B st kp px i n;have lt:=(zz6 hk);refine yh2 ys1 ?_;rw[yf2 yh8 _];refine z76 (yf5 i rfl ?_);show Aj _ A.in1 (tryCatch (pyNext (.ref it)) _ >>= _) _ _ s;refine z76 (wpAny_tryCatch (W.item (j+1) s _ _ lt st λy h' l py st' g=>?_));have d:=g D _ h i;have f:rM h0 h':=λb o q=>g b o (λz=>by rw[t b z]at q;cases q) (kp b o q);show Aj _ A.in1 (tryCatch (holding [y,y] (richCompare .Lt y x >>= _)) _ >>= _) _ _ _;refine z76 (wpAny_tryCatch (yd5 (z76 (C (j+1) (argBest bt j) y x _ _ _ py px f (z76 (yd5 (yd1 (z76 (ym3 (z80 ?_))))))))));cases hb:bt (j+1) (argBest bt j)with
  |true=>
   simp only[yl9];refine z76 (yh1 d rfl (z76 (ym3 ?_)));rw[nm];refine z80 ⟨yh5 yh8 _,v (j+1) _ y _ (zl1 hk) lt (W.frame _ _ _ st' λb hf o q=>?_) (λb o q=>?_) (by simp only[argBest,hb,yl9];exact py) (yi4 _ d rfl) λz h2 a p kz=>?_⟩
   .exact(yb2 _ _ (λz:D=b=>u (by rw[z];exact hf))).trans q
   .exact(yb2 _ _ (λz:D=b=>by rw[<-z,r]at q;cases q)).trans (f b o q)
   .exact n z h2 a p λb o h1 h3 q=>kz b o h1 h3 ((yb2 _ _ (yc1 h3)).trans (g b o h1 q))
  |false=>
   simp only[yd0,yj2];refine z76 (ym3 ?_);rw[nm];refine z80 ⟨yh5 yh8 _,v (j+1) _ x c (zl1 hk) lt st' f (by simp only[argBest,hb,yd0,yj2];exact px) d λz h2 a p kz=>?_⟩;exact n z h2 a p λb o h1 h3 q=>kz b o h1 h3 (g b o h1 q)
def jE (h0:Ao)(W:Walks prog w A.in1 it fp wr m P St)(bt:Nat->Nat->Bool)(r:zK7 prog w A.in1 h0 P bt)(D:Ad)(h:D∉fp)(d:h0.get? D=none)(e:∀b∈wr,h0.get? b=none)(hm:0<m){s:Ac}{c:Nat}(st:St 0 s.heap)(kp:rM h0 s.heap)
  (l:s.heap.get? D=some {cls:=.type "list",dict:=none,data:=.seq #[] c,slots:=#[]})
  (p:∀y h' k,P (argBest bt (m-1)) y->(∀b o,b∉wr->b≠D->s.heap.get? b=some o->h'.get? b=some o)->R (.ok (.ret y)) {s with heap:=h',toks:=k}):
  codeAny (Ah prog w) A (.builtin "min.loop" ⟨[.ref it,.none,.ref D],[]⟩) R s:=by
 have f:D∉wr:=λq=>h (W.sub _ q);have nm:(toString "min"++toString ".loop":String)="min.loop":=by decide
 refine yh2 ys1 ?_;rw[yf2 yh8 _];refine z76 (yf5 l rfl ?_);show Aj _ A.in1 (tryCatch (pyNext (.ref it)) _ >>= _) _ _ s;refine z76 (wpAny_tryCatch (W.item 0 s _ _ hm st λy h' k py st' j=>?_));have a:=j D _ f l;have i:rM h0 h':=λb o q=>j b o (λz=>by rw[e b z]at q;cases q) (kp b o q);show Aj _ A.in1 (updateSeq D (λ_=>#[y,y]) >>= _) _ _ _;refine z76 (yh1 a rfl ?_);rw[nm];refine z80 ⟨yh5 yh8 _,dC h0 W bt r D h d e _ 0 _ y _ rfl hm (W.frame _ _ _ st' λb hf o q=>?_) (λb o q=>?_) py (yi4 _ a rfl) λz h2 g n kz=>?_⟩
 .exact(yb2 _ _ (λz:D=b=>h (by rw[z];exact hf))).trans q
 .exact(yb2 _ _ (λz:D=b=>by rw[<-z,d]at q;cases q)).trans (i b o q)
 .exact p z h2 g n λb o h1 h3 q=>kz b o h1 h3 ((yb2 _ _ (yc1 h3)).trans (j b o h1 q))
end
section
variable {prog:Ag}{w:Ak}{A:Am}{E:Ab->Ac->Prop}{s:Ac}
def eG {l:Ad}{items:Array Ab}{bt:Nat->Nat->Bool}{Q:Ab->Ac->Prop}(f:A.handled=none)(c:s.heap.IsList l items)(h0:0<items.size)(j:zK7 prog w A.in1 s.heap (λi v=>items[i]?=some v) bt)
  (h:∀v h' d,items[argBest bt (items.size-1)]?=some v->rM s.heap h'->Q v {s with heap:=h',toks:=d}):Aj (Ah prog w) A (call (.builtin "min") [.ref l]) Q E s:=by
 have nm:(toString "min"++toString ".loop":String)="min.loop":=by decide
 have a:l<s.heap.objs.size:=by obtain⟨_,e,_⟩:=c;exact z90 e
 refine call_function_tree PySem.F.kind_min PySem.F.plain_min PySem.F.entry_min (PySem.F.args_min1 _) ?_;refine z76 (yn1 (show Builtin.Builtins.bindParams "min" ["key","default"] 0 ⟨[],[]⟩=pure [none,none]from rfl) (z76 (z80 (z76 (yh9 c ?_)))));refine z76 (yi0 ?_);rw[nm];have W:=Walks.list (prog:=prog) (w:=w) (A:=A.in1) f s.heap.objs.size l (z96 a) items;have up:rM s.heap ((s.heap.push {cls:=.type "list_iterator",data:=.fields #[.ref l,.int 0 0]}).push {cls:=.type "list",data:=.seq #[]}):=λb o e=>z79 _ (z79 _ e);have sz:(s.heap.push {cls:=.type "list_iterator",data:=.fields #[.ref l,.int 0 0]}).objs.size=s.heap.objs.size+1:=yf4 _ _;refine z80 ⟨yh5 yh8 _,jE s.heap W bt j _ (λq=>?_) (Heap.get?_none_of_le (by rw[sz];exact yh7 _)) (λb hb=>?_) h0 (W.frame 0 (s.heap.push {cls:=.type "list_iterator",data:=.fields #[.ref l,.int 0 0]}) _ ⟨⟨_,z86 _ rfl,rfl,rfl⟩,c.push _⟩ λb _ o e=>z79 _ e) up (z86 _ rfl) λv h' d pv g=>?_⟩
 .rcases z84.mp q with z|z
  .rw[sz]at z;exact absurd z (Nat.succ_ne_self _)
  .rw[z92,sz]at z;exact absurd a (by rw[<-z];exact Nat.not_lt.mpr (yh7 _))
 .rw[z92.mp hb];exact Heap.get?_none_of_le (z82 _)
 .refine h v h' d pv λb o e=>g b o (λz=>?_) (λz=>?_) (up b o e)
  .rw[z92.mp z]at e;exact absurd (z90 e) (yd4 _)
  .have:=z90 e;rw[z,sz]at this;exact absurd this (Nat.not_lt.mpr (yh7 _))
end
noncomputable def qC (ds:List Aa)(i j:Nat):Bool:=match ds[i]?,ds[j]? with
 |some x,some y=>(ltD x y).getD false
 |_,_=>false
noncomputable def minD :List Aa->Aa
 |[]=>.none
 |d::ds=>ds.foldl (λb x=>if(ltD x b).getD false=true then x else b) d
def jD (d:Aa)(ds:List Aa)(x:Aa):minD (d::(ds++[x]))=if(ltD x (minD (d::ds))).getD false=true then x else minD (d::ds):=by
 show List.foldl _ d (ds++[x])=_;rw[List.foldl_append];rfl
def lO {ds:List Aa}{i j:Nat}{x y:Aa}(h1:ds[i]?=some x)(h2:ds[j]?=some y):qC ds i j=(ltD x y).getD false:=by
 unfold qC;rw[h1,h2]
theorem cP (ds:List Aa):∀k,k<ds.length->ds[argBest (qC ds) k]?=some (minD (ds.take (k+1))):=by
 intro k
 induction k with
 |zero=>
  intro h;cases ds with
  |nil=>simp at h
  |cons d ds=>simp[argBest,minD]
 |succ k e=>
  intro h;have a:=e (ya7 (ya0 _ _) h);cases ds with
  |nil=>simp at h
  |cons d ds=>
   have c:=z78 h;have f:(d::ds).take (k+1+1)=d::(ds.take k++[(d::ds)[k+1]]):=by
    have hk:k<ds.length:=by simpa using h
    rw[yp9,yg0,z78 hk];rfl
   have b:(d::ds).take (k+1)=d::ds.take k:=yp9;rw[f,jD,<-b];simp only[argBest];rw[(lO c a)];split
   .exact c
   .exact a
theorem tE {X:Cx}{pins:List (Ad×Obj)}{B:St}{H:Hp}{s:Ac}(I:Inv X pins B H s):∀{xs:List V}{ds:List Aa}{us:List Ab}{i:Nat}{d:Aa},DVs H xs ds->Vals xs us->ds[i]?=some d->∃u as,us[i]?=some u/\Reads s.heap u d as
 |_,_,_,_,_,.nil,_,e=>by simp at e
 |_,_,_,i,d,.cons hx hs,.cons (b:=u) ru rs,e=>by
  cases i with
  |zero=>
   simp at e;subst e;obtain⟨as,c⟩:=hx.reads I ru;exact⟨u,as,rfl,c⟩
  |succ i=>
   obtain⟨a,as,h1,h2⟩:=tE I hs rs (by simpa using e);exact⟨a,as,by simpa using h1,h2⟩
def zM2 (ds:List Aa):Prop:=∀x∈ds,∀y∈ds,(ltD x y).isSome=true
section
variable {X:Cx}{O:Ev}{e:Al}{pos p:Pos}{Q:Aa->Prop}
def cF (G:X.calm=true)(U:X.A.units+70<cLine):yP X (.builtin "min") (λxs H Q=>∃(l:Ad) (vs:List V) (ds:List Aa),xs=[.ref l]/\H l=some (.lst vs)/\DVs H vs ds/\ds≠[]/\zM2 ds/\(∀d∈ds,d.canLay0=true/\d.depth<=60)/\∀(i:Nat) (v:V),vs[i]?=some v->ds[i]?=some (minD ds)->Q v H):=by
 intro pins s B H xs us Q I r h;obtain⟨l,vs,ds,rfl,D,dv,ne,J,w,q⟩:=h;obtain⟨u,rfl,K⟩:=vals1 r;cases K;obtain⟨a,c,L,Z⟩:=I.list (SqL.of D);have l1:=c.length;have l2:=dv.length;have h0:=List.length_pos_iff.mpr ne;refine eG (bt:=qC ds) (I.ok.hd G) L.isList (by simp;exact z83 h0 (ya2 (Eq.trans l2.symm l1))) ?_ λv h' W t kp=>?_
 .intro i j x y s2 Y E2 n hy kp N;have hi:i<ds.length:=by have:=(Array.getElem?_eq_some_iff.mp n).1;simp at this;exact z83 this (ya2 (Eq.trans l1.symm l2))
  have k:j<ds.length:=by have:=(Array.getElem?_eq_some_iff.mp hy).1;simp at this;exact z83 this (ya2 (Eq.trans l1.symm l2))
  have o:=z78 hi;have z:=z78 k;obtain⟨M,F,g1,g2⟩:=tE I dv c o;obtain⟨E,R,g3,C⟩:=tE I dv c z;have e1:M=x:=by have:=n;simp at this;rw[g1]at this;exact yb5 this
  have S:E=y:=by have:=hy;simp at this;rw[g3]at this;exact yb5 this
  subst e1 S;obtain⟨m,b⟩:=Option.isSome_iff_exists.mp (J _ (ye9 hi) _ (ye9 k));have f:=w _ (ye9 hi);refine qV ds[i] ds[j] X.A.in1 s2 (by show X.A.units+1+_<cLine;lia) _ _ _ _ m (Reads.keeps kp g2) (Reads.keeps kp C) f.1 (w _ (ye9 k)).1 b _ _ _ _ ?_;have:qC ds i j=m:=by rw[lO o z,b];rfl
  rw[<-this];exact N
 .have hb:=cP ds (ds.length-1) (qE h0);have P:a.toArray.size-1=ds.length-1:=by simp;lia
  rw[P]at t;rw[show ds.length-1+1=ds.length by omega,yf6]at hb;have g:a[argBest (qC ds) (ds.length-1)]?=some v:=by simpa using t
  have hi:argBest (qC ds) (ds.length-1)<vs.length:=by have:=(z81.mp hb).1;exact z83 this (ya2 l2.symm)
  obtain⟨T,g1,g2⟩:=c.get (z78 hi);rw[g]at g1;cases g1;exact⟨_,H,I.kept kp,g2,q _ _ (z78 hi) hb⟩
def zr9 (n:X.calm=true)(g:X.A.units+70<cLine)(hg:Gl X "min")(hm:X.mg "min"=none)(h:EvD X O e λx=>∃ds,x=.list ds/\ds≠[]/\PyData.hasDictAll ds=false/\zM2 ds/\(∀d∈ds,d.canLay0=true/\d.depth<=60)/\Q (minD ds))(he:Af [e] X.env=(false,eval e X.env)::Af [] X.env:=by rfl):
  EvD X O (.Call (.Name "min" p) [e] [] pos) Q:=by
 refine xK (cF n g) hg hm boot_min (zq (h.imp λx b=>?_) he) (he:=he);obtain⟨ds,e1,ne,nd,c,j,q⟩:=b;refine zz ?_;intro F B H vs R m l k;subst e1;obtain⟨v,rfl,av⟩:=l.one;obtain⟨a,xs,rfl,h1,h2⟩:=av.lst_inv;refine⟨a,xs,ds,rfl,(zf h1).2,(h2.dv nd).same xY,ne,c,j,λi v f hd=>?_⟩;obtain⟨o,g1,g2⟩:=h2.get hd;rw[f]at g1;cases g1;exact k _ _ H q m.tp Kz.refl g2
noncomputable def uU :List Int->Int
 |[]=>0
 |z::zs=>zs.foldl (λb x=>if b<x then x else b) z
def eO (d:Int)(ds:List Int)(x:Int):uU (d::(ds++[x]))=if uU (d::ds)<x then x else uU (d::ds):=by
 show List.foldl _ d (ds++[x])=_;rw[List.foldl_append];rfl
noncomputable def zs6 (zs:List Int)(i j:Nat):Bool:=decide (zs.getD i 0 > zs.getD j 0)
def zv6 {zs:List Int}{i j:Nat}{x y:Int}(h1:zs[i]?=some x)(h2:zs[j]?=some y):zs6 zs i j=decide (y<x):=by
 unfold zs6;rw[z85,z85,h1,h2];rfl
theorem zd9 (zs:List Int):∀k,k<zs.length->zs[argBest (zs6 zs) k]?=some (uU (zs.take (k+1))):=by
 intro k
 induction k with
 |zero=>
  intro h;cases zs with
  |nil=>simp at h
  |cons d ds=>simp[argBest,uU]
 |succ k f=>
  intro h;have a:=f (ya7 (ya0 _ _) h);cases zs with
  |nil=>simp at h
  |cons d ds=>
   have c:=z78 h;have g:(d::ds).take (k+1+1)=d::(ds.take k++[(d::ds)[k+1]]):=by
    have hk:k<ds.length:=by simpa using h
    rw[yp9,yg0,z78 hk];rfl
   have b:(d::ds).take (k+1)=d::ds.take k:=yp9;rw[g,eO,<-b];simp only[argBest];rw[(zv6 c a)];by_cases z:uU ((d::ds).take (k+1))<(d::ds)[k+1]
   .rw[ya9 z,if_pos rfl,if_pos z];exact c
   .rw[ya3 z,if_neg (by decide),if_neg z];exact a
def dZ (m:X.calm=true):yP X (.builtin "max") (λxs H Q=>∃(l:Ad) (zs:List Int),xs=[.ref l]/\H l=some (.lst (zs.map V.int))/\zs≠[]/\Q (.int (uU zs)) H):=by
 intro pins s B H xs us Q I r h;obtain⟨l,zs,rfl,k,ne,q⟩:=h;obtain⟨u,rfl,n⟩:=vals1 r;cases n;obtain⟨a,j,g,D⟩:=I.list (SqL.of k);have l1:=j.length;rw[z77]at l1;have h0:=List.length_pos_iff.mpr ne;have c:l<s.heap.objs.size:=by obtain⟨_,e,_⟩:=g.isList;exact z90 e
 have val:∀i v,a.toArray[i]?=some v->∃t,v=Value.int (zs.getD i 0) t:=λi v f=>by
  have d:a[i]?=some v:=by simpa using f
  have hi:i<(zs.map V.int).length:=by rw[z77,l1];exact(z81.mp d).1
  obtain⟨y,g1,g2⟩:=j.get (z78 hi);rw[d]at g1;cases g1;rw[List.getElem_map]at g2;obtain⟨t,rfl⟩:=g2;refine⟨t,?_⟩;rw[z77]at hi;rw[z85,z78 hi];rfl
 refine call_max_walk (yh9 g.isList ⟨s.heap.objs.size,[s.heap.objs.size,l],[s.heap.objs.size],_,_,_,zs6 zs,rfl,Walks.list (A:=X.A.in1) (I.ok.hd m) s.heap.objs.size l (z96 c) a.toArray,⟨⟨_,z86 _ rfl,rfl,rfl⟩,g.isList.push _⟩,λb hb=>?_,by simp;exact z83 h0 (ya2 l1),CmpOf.ints_gt (λi=>zs.getD i 0) val,λv h' C f w=>?_⟩)
 .rw[yf4];rcases z84.mp hb with z|z
  .rw[z];exact yd7 _
  .rw[z92.mp z];exact yg5 c
 .obtain⟨t,rfl⟩:=val _ _ f;have hb:=zd9 zs (zs.length-1) (qE h0);rw[show zs.length-1+1=zs.length by omega,yf6]at hb;have x:a.toArray.size-1=zs.length-1:=by simp;lia
  rw[x];refine⟨.int (uU zs),H,I.kept (λb o e=>w b o (λz=>?_) (z79 _ e)),⟨t,?_⟩,q⟩
  .rw[z92.mp z]at e;exact absurd (z90 e) (yd4 _)
  .rw[z85,hb];rfl
theorem AVs.intsV {H:Hp}{xs:List V}{zs:List Int}(h:AVs H xs (zs.map .int)):xs=zs.map V.int:=by
 induction zs generalizing xs with
 |nil=>cases h;rfl
 |cons n ns a=>cases h with
  |cons h b=>rw[ya6,a b,h.int_inv]
def zy1 (d:X.calm=true)(hg:Gl X "max")(hm:X.mg "max"=none)(h:EvD X O e λx=>∃zs:List Int,x=.list (zs.map .int)/\zs≠[]/\Q (.int (uU zs)))(he:Af [e] X.env=(false,eval e X.env)::Af [] X.env:=by rfl):
  EvD X O (.Call (.Name "max" p) [e] [] pos) Q:=by
 refine xK (dZ d) hg hm boot_max (zq (h.imp λx b=>?_) he) (he:=he);obtain⟨zs,e1,ne,q⟩:=b;refine zz ?_;intro F B H vs R m c k;subst e1;obtain⟨v,rfl,av⟩:=c.one;obtain⟨a,xs,rfl,h1,h2⟩:=av.lst_inv;have h3:=(zf h1).2;rw[h2.intsV]at h3;exact⟨a,zs,rfl,h3,ne,k _ _ H q m.tp Kz.refl (.int _)⟩
end
def kR :typeLookup (.type "list_reverseiterator") "__len__"=pure none:=by rw[yo2,yk3];kernel_rfl
def cN :typeLookup (.type "list_reverseiterator") "__length_hint__"=pure (some (.builtin "list_reverseiterator.__length_hint__")):=by rw[yo2,yk3];kernel_rfl
section
variable {prog:Ag}{w:Ak}{A:Am}{E:Ab->Ac->Prop}{s:Ac}{it l:Ad}{items:Array Ab}
def ba {Q:Bool->Ac->Prop}(c:s.TypeIs (.ref it) "list_reverseiterator")(h:Q false s):Aj (Ah prog w) A (Builtin.List.listLengthHint (.ref it)) Q E s:=by
 unfold Builtin.List.listLengthHint;refine z76 (yo1 c kR ?_);refine z76 (yo1 c cN ?_);generalize a:("list_reverseiterator.__length_hint__":String)=id0
 wp_delta
 rw[show splitId id0=some ("list_reverseiterator","__length_hint__")from by subst a;decide +kernel];subst a;refine z76 (yp3 (b:=true) c (by rw[isSubtype_type];kernel_rfl) ?_);refine yb9 (λq=>absurd q (by decide)) λ_=>yb9 (λ_=>?_) λq=>absurd (by decide +kernel) q;exact yb9 (λq=>absurd q (by decide +kernel)) λ_=>z80 h
def qN {Q:Ab->Ac->Prop}(H:A.handled=none)(hne:l≠it)(hr:s.heap.IsRevIter it l ((items.size:Int)-1))(B:s.heap.IsList l items)(hn:items.size<=sizeLine)
  (G:∀h' u acc c,(∀b o,b≠it->s.heap.get? b=some o->h'.get? b=some o)->h'.get? s.heap.objs.size=some {cls:=.type "list",dict:=none,data:=.seq acc c,slots:=#[]}->ItemsOf (λi v=>items[items.size-1-i]?=some v) acc items.size->Q (.ref s.heap.objs.size) {s with heap:=h',toks:=u}):
  Aj (Ah prog w) A (call (.type "list") [.ref it]) Q E s:=by
 refine callType_codes (Q₁:=λobj f=>obj=.ref s.heap.objs.size/\f={s with heap:=s.heap.push {cls:=.type "list",data:=.seq #[]}}) PySem.F.called_list (PySem.F.typeCall_list_1 _) PySem.F.entry_list_init
  (code_list_new _ ⟨rfl,rfl⟩) λobj f r=>?_
 obtain⟨rfl,rfl⟩:=r;generalize d:s.heap.objs.size=S at G ⊢;have t:(s.heap.push {cls:=.type "list",data:=.seq #[]}).get? S=some {cls:=.type "list",data:=.seq #[]}:=by rw[<-d];exact z86 _ rfl
 have up:∀b o,s.heap.get? b=some o->(s.heap.push {cls:=.type "list",data:=.seq #[]}).get? b=some o:=λb o e=>z79 _ e;have D:it≠S:=by obtain⟨o,e,_⟩:=id hr;rw[<-d];exact z96 (z90 e)
 have I:l≠S:=by obtain⟨o,e,_⟩:=id B;rw[<-d];exact z96 (z90 e)
 have m:∀{b:Ad} {o:Obj},s.heap.get? b=some o->b≠S:=λe=>by rw[<-d];exact z96 (z90 e)
 have y:S∉[it,l]:=by simp only[z84,ya5,yc8,not_or];exact⟨yc1 D,yc1 I⟩
 refine⟨⟨_,t,rfl⟩,PySem.F.args_list_init_2 _ _,?_⟩;show Aj _ _ (do let old <-Builtin.List.listItems (.ref S);Builtin.List.listUpdate (.ref S) (λ_=>#[]);letGo old.toList.reverse;Builtin.List.listExtendWith (.ref S) (.ref it) .none) _ _ _;refine z76 ?_;unfold Builtin.List.listItems;refine z76 (yf5 t rfl (z80 ?_));refine z76 (yh1 t rfl ?_);obtain⟨N,j⟩:∃M,((s.heap.push {cls:=.type "list",data:=.seq #[]}).update S (Obj.mapSeq (λ_=>(#[]:Array Ab)))).get? S=some {cls:=.type "list",dict:=none,data:=.seq #[] M,slots:=#[]}:=⟨_,yj5 t λ_=>#[]⟩;have g:∀b o,s.heap.get? b=some o->((s.heap.push {cls:=.type "list",data:=.seq #[]}).update S (Obj.mapSeq (λ_=>(#[]:Array Ab)))).get? b=some o:=
  λb o e=>(yb2 _ _ (yc1 (m e))).trans (up b o e)
 refine z76 (ym3 ?_);have C:({s with heap:=(s.heap.push {cls:=.type "list",data:=.seq #[]}).update S (Obj.mapSeq (λ_=>(#[]:Array Ab)))}:Ac).TypeIs (.ref it) "list_reverseiterator":=Heap.IsRevIter.typeIs (hr.at λo e=>g _ o e);unfold Builtin.List.listExtendWith;refine z76 (wpAny_typeOf C ?_);have L:Builtin.List.listSameRef (.ref S) (.ref it)=false:=by simp[Builtin.List.listSameRef];exact yc1 D
 have K:(Value.type "list_reverseiterator" == Value.type "list")=false:=by decide
 have J:(Value.type "list_reverseiterator" == Value.type "tuple")=false:=by decide
 simp only[L,K,J,yp5,yd0,yj2];refine z76 (wpAny_pyIter_revIter (hr.at λo e=>g _ o e) (z76 (yd5 (ba C ?_))));have key:∀h c₁ u,h.get? S=some {cls:=.type "list",dict:=none,data:=.seq #[] c₁,slots:=#[]}->(∀b o,s.heap.get? b=some o->h.get? b=some o)->codeAny (Ah prog w) A.in1 (.builtin "list.extend.loop" ⟨[.ref S,.ref it,.none],[]⟩) (wants (λv s'=>v=.none/\Q (.ref S) s') E) {s with heap:=h,toks:=u}:=by
  intro h c₁ u x a;refine codeAny_extend_loopS (Walks.listRev (A:=A.in1.in1) H it l hne items).toS hn S y .none items.size 0 _ #[] c₁ rfl (z94 _) ⟨z94 _,by simpa using hr.at λo e=>a _ o e,B.at λo e=>a _ o e⟩ x (ItemsOf.nil _) λs' n c' hm p k=>?_;rw[Moved.eq_with hm];refine⟨rfl,G s'.heap s'.toks n c' (λb o hb e=>hm.heap b o (λz=>?_) (a b o e)) p k⟩;rcases z84.mp z with z|z
  .exact m e z
  .exact hb (z92.mp z)
 refine yb9 (λq=>absurd q (by decide)) (λ_=>z80 ⟨yh5 yi2 _,key _ _ _ j g⟩)
end
section
variable {X:Cx}{O:Ev}{a e c:Al}{p p0 pos pos2:Pos}{Q:List Aa->Prop}
def jd {C:TA}(T:X.calm=true)(hgl:Gl X "list")(r:X.mg "list"=none)(hg:Gl X "reversed")(hm:X.mg "reversed"=none)(ha:PA X [a] C)
  (i:Af [.Call (.Name "reversed" p) [a] [] pos2] X.env=[(false,eval (.Call (.Name "reversed" p) [a] [] pos2) X.env)]:=by rfl) (S:Af [a] X.env=[(false,eval a X.env)]:=by rfl):
  PE X (.Call (.Name "list" p0) [.Call (.Name "reversed" p) [a] [] pos2] [] pos) (λB H Q=>C B H λvs H1=>∃(l:Ad) (xs:List V),vs=[.ref l]/\SqL X.K H1 l xs/\∀D,H1 D=none->Q (.ref D) (upd H1 D (.lst xs.reverse))):=by
 intro pins s B H Q I h;refine Call_ (yZ I hgl r boot_list (yc9 ?_ i rfl));rw[i];refine Calls.spliced_cons ?_;refine Call_ (yZ I hg hm boot_reversed (yc9 (thn (ha pos2 pins s B H _ I h) λus s1 t=>?_) S rfl));obtain⟨vs,H1,g,N,W⟩:=t;obtain⟨l,xs,rfl,hq,q⟩:=W;obtain⟨u,rfl,R⟩:=Vals.one N;cases(R);obtain⟨d,L,w,J⟩:=g.list hq;have hlen:=L.length;have v:l<s1.heap.objs.size:=by obtain⟨o,e,_⟩:=w.isList;exact z90 e
 refine call_reversed_list w.isList (Calls.spliced_nil ?_);generalize n:s1.heap.objs.size=it;have A:Inv X pins B H1 {s1 with heap:=s1.heap.push (revObj l ((d.toArray.size:Int)-1))}:=g.kept λb o e=>z79 _ e;have fI:∀H',H' it=none->xq X pins H' it:=λH' hn=>by rw[<-n]at hn ⊢;exact g.fpOk (z82 _) hn
 have U:H1 it=none:=by rw[<-n];exact g.hok.fresh (z82 _)
 refine qN (g.ok.hd T) (by rw[<-n];exact z96 v) (by rw[<-n];exact⟨_,z86 _ rfl,rfl,rfl⟩) (w.isList.push _) (by simp;exact z93 (ya2 hlen.symm) J) λh' tk acc c kp e G=>?_;generalize P:({s1 with heap:=s1.heap.push (revObj l ((d.toArray.size:Int)-1))}:Ac).heap.objs.size=D at e ⊢;have k:(s1.heap.push (revObj l ((d.toArray.size:Int)-1))).objs.size<=D:=by rw[<-P];exact z82 _
 refine⟨.ref D,upd H1 D (.lst xs.reverse),?_,rfl,q D (A.hok.fresh k)⟩;refine A.turnLay (ch:=[it]) (λb o hb e=>kp b o (by simpa using hb) e) (λb hb=>by rw[z92.mp hb];exact fI H1 U) k ⟨by rw[yj6];exact J,acc.toList,c,?_,by simpa using e⟩;have key:∀{as:List V} {bs:List Ab},as.length=bs.length->(∀(j:Nat) x,as[j]?=some x->∃u,bs[j]?=some u/\RelV x u)->Vals as bs:=by
  intro as
  induction as with
  |nil=>intro bs h1 _;cases bs with|nil=>exact .nil|cons _ _=>simp at h1
  |cons x as Z=>
   intro bs h1 h2;cases bs with
   |nil=>simp at h1
   |cons y bs=>
    obtain⟨u,E,M⟩:=h2 0 x rfl;simp at E;subst E;exact .cons M (Z (by simpa using h1) λj Y f=>by simpa using h2 (j+1) Y (by simpa using f))
 have sa:acc.size=xs.length:=by rw[G.1];simp;exact hlen.symm
 refine key (by rw[yj6];exact sa.symm) λj x f=>?_;have m:j<xs.length:=by have:=(z81.mp f).1;rwa [yj6]at this
 rw[List.getElem?_reverse m]at f;obtain⟨u,g1,g2⟩:=L.get f;have z:d.toArray[d.toArray.size-1-j]?=some (acc[j]'(by omega)):=G.2 j (acc[j]'(by omega)) (by simp[show j<acc.size by omega]);refine⟨acc[j]'(z83 m (ya2 sa.symm)),by simp[show j<acc.size by exact z83 m (ya2 sa.symm)],?_⟩;have e1:d.toArray.size-1-j=xs.length-1-j:=by simp;omega
 rw[e1]at z;have F:d[xs.length-1-j]?=some (acc[j]'(z83 m (ya2 sa.symm))):=by simpa using z
 rw[g1]at F;rw[<-yb5 F];exact g2
theorem AVs.reverse {H:Hp}{xs:List V}{ds:List Aa}(h:AVs H xs ds):AVs H xs.reverse ds.reverse:=by
 induction h using AVs.ind with
 |nil=>exact .nil
 |cons h _ b=>rw[List.reverse_cons,List.reverse_cons];exact b.append (.cons h .nil)
def jk (t:X.calm=true)(hgl:Gl X "list")(b:X.mg "list"=none)(hg:Gl X "reversed")(hm:X.mg "reversed"=none)(h:EvD X O a λx=>∃ds,x=.list ds/\Q ds.reverse)
  (f:Af [.Call (.Name "reversed" p) [a] [] pos2] X.env=[(false,eval (.Call (.Name "reversed" p) [a] [] pos2) X.env)]:=by rfl) (g:Af [a] X.env=[(false,eval a X.env)]:=by rfl):
  EvL X O (.Call (.Name "list" p0) [.Call (.Name "reversed" p) [a] [] pos2] [] pos) Q:=λF B H R m k=>by
 refine⟨_,jd t hgl b hg hm (zv zg zJ g) f g,h F B H _ m λx u H1 n t1 d j=>?_⟩;obtain⟨ds,rfl,q⟩:=n;obtain⟨l,xs,rfl,g1,g2⟩:=j.lst_inv;refine⟨l,xs,rfl,SqL.of (zf g1).2,λD o=>?_⟩;obtain⟨i,s,r⟩:=(m.kz d t1).lay o g2.reverse;exact k _ _ _ q i (d.trans s) (r.back m d t1)
theorem zb3 {body rest:List An}{E:xr}(v:PassesOwn (Ah X.prog X.w) X.A X.env X.xe)(P:Nat->Ev->Prop)(t:Nat)(h0:P t O)
  (x:∀n O,P n O->EvT X O c λb=>if b=true then SvS X O body {nx:=λd=>∃f,f<n/\P f d,ct:=λd=>∃f,f<n/\P f d,bk:=λd=>SvS X d rest E,rt:=E.rt}else SvS X O rest E):
  SvS X O (.While c body [] pos::rest) E:=λF B H D m r=>by
 refine⟨_,zE (ka v xA zP) zP,⟨λn g H'=>∃d,M F d g H'/\P n d,⟨t,O,m,h0⟩,?_⟩⟩;rintro n g H' ⟨d,u,y⟩;refine x n d y F g H' _ u λb H1 q t1 C=>?_;have m1:=u.kz C t1;cases b with
 |true=>
  rw[if_pos rfl]at q ⊢;refine⟨λi k=>∃f,f<n/\∃j,M F j i k/\P f j,λi k ⟨f,h1,h2⟩=>⟨f,h1,h2⟩,?_⟩;exact q F g H1 _ m1 ⟨λh σ2 l m2 s=>by obtain⟨f,h1,h2⟩:=s;exact⟨f,h1,h,m2,h2⟩,r.rt,λh σ2 l m2 z=>z F σ2 l D m2 r,λh σ2 l m2 o=>by obtain⟨f,h1,h2⟩:=o;exact⟨f,h1,h,m2,h2⟩⟩
 |false=>
  rw[if_neg (by decide)]at q ⊢;exact q F g H1 D m1 r
end
def mZ (Q:Aa->Prop):List Aa->Prop
 |[]=>True
 |d::r=>Q d/\mZ Q r
theorem mZ.mem {Q:Aa->Prop}:∀{ds:List Aa},mZ Q ds->∀d∈ds,Q d
 |[],_,d,h=>by cases h
 |x::r,h,d,hd=>by
  rcases z84.mp hd with rfl|hd
  .exact h.1
  .exact mZ.mem h.2 d hd
def zv7 {x:Aa}{ds:List Aa}{v:Int}{Q:Aa->Prop}(a:vj x=some ds)(h0:0<=v)(h1:v<ds.length)(h:mZ Q ds):∃ds i d,vj x=some ds/\PyData.int v=.int i/\atI ds i=some d/\Q d:=by
 obtain⟨d,hd,e⟩:=zz3 h0 h1;exact⟨ds,v,d,a,rfl,e,h.mem d hd⟩
def ze0 {x:Aa}{ds:List Aa}{v:Int}{Q:Aa->Prop}(P:Aa->Prop)(a:vj x=some ds)(h0:0<=v)(h1:v<ds.length)(h:mZ P ds)(k:∀d,P d->Q d):∃ds i d,vj x=some ds/\PyData.int v=.int i/\atI ds i=some d/\Q d:=by
 obtain⟨d,hd,e⟩:=zz3 h0 h1;exact⟨ds,v,d,a,rfl,e,k d (h.mem d hd)⟩
theorem pO {k:Bool}{p q:Prop}(h1:k=true->p)(h2:k=false->q):if k=true then p else q:=by
 cases k with
 |true=>exact h1 rfl
 |false=>exact h2 rfl
def uv {i j:Int}:PyData.eqv (.int i) (.int j)=decide (i=j):=by
 show(i == j)=_;by_cases h:i=j<;>simp[h]
section
variable {X:Cx}{O:Ev}{e a b:Al}{pos p:Pos}{E:xr}{rest:List An}
def EvR (X:Cx)(O:Ev)(e:Al)(Q:Aa->Prop):Prop:=∀(F:Fr) (B:St) (H:Hp) (R:VK),M F O B H->(∀d v H',Q d->zH F H'->Kz F H H'->AV (sub (λx=>¬F.O0 x/\∀xs,F.H0 x≠some (.lst xs)) H') v d->R v H')->uu X e B H R
def jY {Q:Aa->Prop}(h:EvD X O e λd=>noL d=true/\Q d):EvR X O e Q:=λF B H R m k=>h F B H R m λd v H' q t kz r=>k d v H' q.2 t kz (r.noL (λx o g z=>by
 obtain⟨c,f⟩:=zf z;refine zB ⟨ow0 c,λxs w=>?_⟩ f;have:=kz _ _ (m.keep _ _ w (m.tp.nt (ow0 c))) (m.tp.nt (ow0 c));rw[f]at this;cases this;exact g trivial) q.1)
def oE {Q:Aa->Prop}(h:EvL X O e λds=>wW ds=true/\Q (.list ds)):EvR X O e Q:=λF B H R m k=>h F B H R m λds v H' q t kz r=>by
 obtain⟨l,xs,rfl,h2,h3,f⟩:=r;refine k _ _ H' q.2 t kz (.lst (zB ⟨ow0 (m.fresh h2),λxs w=>by rw[m.fresh0 h2]at w;cases w⟩ h3) (f.noL (λx o g z=>?_) q.1));obtain⟨c,d⟩:=zf z;refine zB ⟨ow0 c.1,λxs w=>?_⟩ d;have:=kz _ _ (m.keep _ _ w (m.tp.nt (ow0 c.1))) (m.tp.nt (ow0 c.1));rw[d]at this;cases this;exact g trivial
def zs8 (X:Cx)(O:Ev)(es:List Al)(Q:List Aa->Prop):Prop:=∀(F:Fr) (B:St) (H:Hp) (R:List V->Hp->Prop),M F O B H->(∀ds vs H',Q ds->zH F H'->Kz F H H'->AVs (sub (λx=>¬F.O0 x/\∀xs,F.H0 x≠some (.lst xs)) H') vs ds->R vs H')->zK0 X es B H R
def gG {Q:List Aa->Prop}(q:Q []):zs8 X O [] Q:=λF B H R m k=>⟨_,zJ,k _ _ H q m.tp Kz.refl .nil⟩
def wa {es:List Al}{Q:List Aa->Prop}(h:EvR X O e λd=>zs8 X O es λds=>Q (d::ds))(n:Af (e::es) X.env=(false,eval e X.env)::Af es X.env:=by rfl):zs8 X O (e::es) Q:=λF B H R m k=>by
 refine⟨_,zv zg yK n,h F B H _ m λd v H1 l t1 f i=>?_⟩;exact l F B H1 _ (m.kz f t1) λas vs g j r c q=>k _ _ g j r (f.trans c) (.cons (i.same (zu λx o z w=>⟨z,c _ _ w (m.tp.nt z.1)⟩)) q)
def zf7 {n:Nat}{es:List Al}{Q:Aa->Prop}(h:zs8 X O es λds=>ds.length<=1000/\Q (.tuple ds)):EvR X O (.Tuple es n pos) Q:=λF B H R m k=>by
 refine⟨_,kM yK,h F B H _ m λds vs H1 f t1 g d=>?_⟩;have m1:=m.kz g t1;refine⟨by rw[d.length];exact yd3 (yp f.1),λp c=>?_⟩;exact k _ _ _ f.2 (t1.same (yg c)) (g.trans (Kz.of_same (yg c))) (.tup (zB ⟨ow0 (m1.fresh c),λxs w=>by rw[m1.fresh0 c]at w;cases w⟩ zi) (d.same (zu λx o z w=>⟨z,by rw[zc (zk w c)];exact w⟩)))
def ir (h:EvR X O e λd=>∀S,E.rt (.deep d S)):SvS X O (.Return (some e) pos::rest) E:=λF B H D m r=>by
 refine⟨_,zE (vZ zg) zP,h F B H _ m λd v H1 j t1 g i=>?_⟩;refine r.rt (.deep d λy=>¬F.O0 y/\F.H0 y=none/\∃xs,H1 y=some (.lst xs)) _ _ ⟨t1,m.keep.trans g,?_,?_⟩ (j _)
 .refine i.same λy o z=>?_;obtain⟨c,f⟩:=zf z;unfold mG;by_cases w:¬F.O0 y/\F.H0 y=none/\∃xs,H1 y=some (.lst xs)
  .rw[if_pos w];exact f
  .rw[if_neg w,zB c.1 f];cases o with
   |lst xs=>
    exfalso
    cases q:F.H0 y with
    |none=>exact w ⟨c.1,q,xs,f⟩
    |some o'=>
     have:=(m.kz g t1).keep y o' q (m.tp.nt c.1);rw[f]at this;cases this;exact c.2 xs q
   |_=>rfl
 .exact λx z=>z
end
def zX3 :R2:=λx y H R=>rEq x y H R\/zV1 x y H R
def z24 :R2:=λx y H R=>rNe x y H R\/zU4 x y H R
def zj4 {X:Cx}(c:X.A.units+64<cLine):OpR X (compareOp .Eq) zX3:=λpins s B H x y v u Q I a b h=>h.elim (λh=>iJ _ _ _ _ _ _ _ _ _ I a b h) λh=>zK3 c _ _ _ _ _ _ _ _ _ I a b h
def ze5 {X:Cx}(c:X.A.units+64<cLine):OpR X (compareOp .NotEq) z24:=λpins s B H x y v u Q I a b h=>h.elim (λh=>zZ8 _ _ _ _ _ _ _ _ _ I a b h) λh=>zK4 c _ _ _ _ _ _ _ _ _ I a b h
def zu7 {i j:Str}:Cmp rNe (.str i) (.str j) (!decide (i=j)):=λp H c d R a b h=>by
 cases a.str_inv;cases b.str_inv;refine⟨rfl,?_⟩;rw[show decide (V.str i=V.str j)=decide (i=j) by simp];exact h
def oe (x y:Aa)(Q:Bool->Prop):Prop:=∃k,Cmp zX3 x y k/\Cmp z24 x y (!k)/\Q k
def zx4 {i j:Int}{Q:Bool->Prop}(h:Q (decide (i=j))):oe (.int i) (.int j) Q:=⟨_,λp H a d R b c z=>.inl (gU p H a d R b c z),λp H a d R b c z=>.inl (zu0 p H a d R b c z),h⟩
def zx2 {i j:Str}{Q:Bool->Prop}(h:Q (decide (i=j))):oe (.str i) (.str j) Q:=⟨_,λp H a d R b c z=>.inl (iV p H a d R b c z),λp H a d R b c z=>.inl (zu7 p H a d R b c z),h⟩
def eqk {x y:Aa}{Q:Bool->Prop}(s1:SeqAt.shaped x=true)(s2:SeqAt.shaped y=true)(c:x.hasDict=false)(d:y.hasDict=false)(h:Q (PyData.eqv x y)):oe x y Q:=
 ⟨_,λp H e f R a b z=>.inr ⟨x,y,(a.dv c).same xY,(b.dv d).same xY,s1,s2,z⟩,λp H e f R a b z=>.inr ⟨x,y,(a.dv c).same xY,(b.dv d).same xY,s1,s2,z⟩,h⟩
section
variable {X:Cx}{O:Ev}{a b:Al}{pos:Pos}{Q:Aa->Prop}{T:Bool->Prop}
def zK8 (d:X.A.units+64<cLine)(h:EvD X O a λx=>EvD X O b λy=>oe x y λk=>Q (.bool k)):EvD X O (.Compare a [.Eq] [b] pos) Q:=jS (zj4 d) (yi _) (h.imp λx h=>h.imp λy c=>by obtain⟨k,e,_,q⟩:=c;exact⟨k,e,q⟩)
def zO0 (d:X.A.units+64<cLine)(h:EvD X O a λx=>EvD X O b λy=>oe x y λk=>Q (.bool (!k))):EvD X O (.Compare a [.NotEq] [b] pos) Q:=jS (ze5 d) (yi _) (h.imp λx h=>h.imp λy c=>by obtain⟨k,_,e,q⟩:=c;exact⟨!k,e,q⟩)
def zN1 (d:X.A.units+64<cLine)(h:EvD X O a λx=>EvD X O b λy=>oe x y T):EvT X O (.Compare a [.Eq] [b] pos) T:=wC (zj4 d) (yi _) (h.imp λx h=>h.imp λy c=>by obtain⟨k,e,_,q⟩:=c;exact⟨k,e,q⟩)
def zL0 (d:X.A.units+64<cLine)(h:EvD X O a λx=>EvD X O b λy=>oe x y λk=>T (!k)):EvT X O (.Compare a [.NotEq] [b] pos) T:=wC (ze5 d) (yi _) (h.imp λx h=>h.imp λy c=>by obtain⟨k,_,e,q⟩:=c;exact⟨!k,e,q⟩)
def pd {k:Bool}{p q:Prop}(e:k=true)(h:p):if k=true then p else q:=by rw[if_pos e];exact h
def iX {k:Bool}{p q:Prop}(e:k=false)(h:q):if k=true then p else q:=by rw[if_neg (by rw[e];decide)];exact h
variable {E:xr}{s t:List An}
def sI {k:Bool}(e:k=true)(h:SvS X O s E):SvS X O (if k=true then s else t) E:=by rw[if_pos e];exact h
def yu {k:Bool}(e:k=false)(h:SvS X O t E):SvS X O (if k=true then s else t) E:=by rw[if_neg (by rw[e];decide)];exact h
end
section
variable {X:Cx}{O:Ev}{a b:Al}{pos:Pos}{Q:Aa->Prop}{T:Bool->Prop}
def z41 :R2:=λx y H Q=>∃a v,x=.ref a/\jC H a y (some v)/\Q v H
def zu3 (d:X.A.units+1<cLine):IxR X z41:=λvalue slice pins s B H x y v u Q I c e h j=>by
 obtain⟨a,z,rfl,g,q⟩:=h;cases c;exact tail_any (lQ I g) PySem.F.slot_dict_getitem.lookup (cu d I g e λk s' f i=>⟨z,H,f,i,q⟩) j
def mH (x y:Aa)(Q:Aa->Prop):Prop:=(∃ds i d,vj x=some ds/\y=.int i/\atI ds i=some d/\Q d)\/∃ds k d,x=xf ds/\y=xM k/\uI ds k=some d/\Q d
def ixk {x y:Aa}{ds:List Aa}{i:Int}{d:Aa}(h1:vj x=some ds)(h2:y=.int i)(h3:atI ds i=some d)(h:Q d):mH x y Q:=.inl ⟨ds,i,d,h1,h2,h3,h⟩
def zX0 {d:Aa}{r:List Aa}(h:Q d):mH (.tuple (d::r)) (.int 0) Q:=ixk rfl rfl (yC rfl) h
def zY7 {d e:Aa}{r:List Aa}(h:Q e):mH (.tuple (d::e::r)) (.int 1) Q:=ixk rfl rfl (yC rfl) h
def uD {ds:List (Aa×Aa)}{k:Key}{d y:Aa}(h2:y=xM k)(h3:uI ds k=some d)(h:Q d):mH (xf ds) y Q:=.inr ⟨ds,k,d,rfl,h2,h3,h⟩
def sP {x:Aa}{ds:List Aa}{v:Int}(c:vj x=some ds)(h0:0<=v)(h1:v<ds.length)(h:mZ Q ds):mH x (.int v) Q:=.inl (zv7 c h0 h1 h)
def kf {x:Aa}{ds:List Aa}{v:Int}(P:Aa->Prop)(c:vj x=some ds)(h0:0<=v)(h1:v<ds.length)(h:mZ P ds)(k:∀d,P d->Q d):mH x (.int v) Q:=.inl (ze0 P c h0 h1 h k)
def zb9 (l:X.A.units+1<cLine)(q:oA b)(h:EvD X O a λx=>EvD X O b λy=>mH x y Q):EvD X O (.Subscript a b pos) Q:=by
 refine qx (yI (zH7.or (zu3 l)) zg zg q) (λ_ _ _=>Iff.rfl) (h.imp λx h=>h.imp λy h=>?_);intro F B H t s R m f j k;rcases h with⟨ds,i,d,e1,rfl,c,hq⟩|⟨ds,r,d,rfl,rfl,e,hq⟩
 .cases j.int_inv;cases x with
  |list g=>
   cases e1;obtain⟨a,xs,rfl,h1,h2⟩:=f.lst_inv;obtain⟨v,e,av⟩:=h2.atI c;exact .inl (.inl ⟨a,xs,i,v,rfl,rfl,SqL.of (zf h1).2,e,k d v H hq m.tp Kz.refl av⟩)
  |tuple g=>
   cases e1;obtain⟨a,xs,rfl,h1,h2⟩:=f.tup_inv;obtain⟨v,e,av⟩:=h2.atI c;exact .inl (.inr (.inl ⟨a,xs,i,v,rfl,rfl,SqT.of (zf h1).2,e,k d v H hq m.tp Kz.refl av⟩))
  |_=>cases e1
 .obtain⟨a,o,kvs,rfl,g1,g2⟩:=f.dk_inv;obtain⟨v,n,p⟩:=g2.get e;cases sO j;exact .inr ⟨a,v,rfl,.inl ⟨kvs,r,.inr ⟨o,(zf g1).2⟩,rfl,n.symm⟩,k d v H hq m.tp Kz.refl p⟩
def zp6 (K:Ae)(neg:Bool):R2:=λx y H Q=>rIn K neg x y H Q\/∃a o,y=.ref a/\jC H a x o/\Q (.bl (if neg then !o.isSome else o.isSome)) H
def zM0 (e:X.A.units+1<cLine):OpR X (compareOp .In) (zp6 X.K false):=λpins s B H x y v u Q I c d h=>by
 rcases h with h|⟨a,o,rfl,g,q⟩
 .exact dD pins s B H x y v u Q I c d h
 .cases d;exact z62 e I g c λs' f=>⟨.bl o.isSome,H,f,rfl,q⟩
def cD (e:X.A.units+1<cLine):OpR X (compareOp .NotIn) (zp6 X.K true):=λpins s B H x y v u Q I c d h=>by
 rcases h with h|⟨a,o,rfl,g,q⟩
 .exact oC pins s B H x y v u Q I c d h
 .cases d;exact zt1 e I g c λs' f=>⟨.bl (!o.isSome),H,f,rfl,q⟩
def zi8 (X:Cx)(x y:Aa)(Q:Bool->Prop):Prop:=∃k,Cmp (zp6 X.K false) x y k/\Cmp (zp6 X.K true) x y (!k)/\Q k
def ink {x:Aa}{ds:List Aa}(f1:rC x=true)(f2:ds.all rC=true)(q:T (inD x ds)):zi8 X x (.list ds) T:=
 ⟨_,λp H c f R d e h=>.inl (cM f1 f2 p H c f R d e h),λp H c f R d e h=>.inl (cM f1 f2 p H c f R d e h),q⟩
def lJ {x:Aa}{ds:List (Aa×Aa)}{k:Key}(e:x=xM k)(q:T (uI ds k).isSome):zi8 X x (xf ds) T:=by
 subst e;have key:∀p H d c,AV (sub p H) d (xM k)->AV (sub p H) c (xf ds)->∃a o,c=.ref a/\jC H a d o/\o.isSome=(uI ds k).isSome:=λp H d c f g=>by
  obtain⟨a,o,kvs,rfl,g1,g2⟩:=g.dk_inv;cases sO f;exact⟨a,_,rfl,.inl ⟨kvs,k,.inr ⟨o,(zf g1).2⟩,rfl,rfl⟩,g2.some_iff k⟩
 refine⟨_,λp H d c R f g h=>?_,λp H d c R f g h=>?_,q⟩
 .obtain⟨a,o,e1,j,i⟩:=key p H d c f g;exact .inr ⟨a,o,e1,j,by rw[if_neg (by decide),i];exact h⟩
 .obtain⟨a,o,e1,j,i⟩:=key p H d c f g;exact .inr ⟨a,o,e1,j,by rw[if_pos rfl,i];exact h⟩
def zM9 (d:X.A.units+1<cLine)(h:EvD X O a λx=>EvD X O b λy=>zi8 X x y T)(hm:behindInMarks .In b=false:=by rfl):EvT X O (.Compare a [.In] [b] pos) T:=
 wC (zM0 d) hm (h.imp λx h=>h.imp λy c=>by obtain⟨k,e,_,q⟩:=c;exact⟨k,e,q⟩)
def zv0 (d:X.A.units+1<cLine)(h:EvD X O a λx=>EvD X O b λy=>zi8 X x y λk=>T (!k))(hm:behindInMarks .NotIn b=false:=by rfl):EvT X O (.Compare a [.NotIn] [b] pos) T:=
 wC (cD d) hm (h.imp λx h=>h.imp λy c=>by obtain⟨k,_,e,q⟩:=c;exact⟨!k,e,q⟩)
end
def zM.few {k:Nat}{A:Am}(h:zM k A):A.units+70<cLine:=by have:=h.un;lia
def zM.one {k:Nat}{A:Am}(h:zM k A):A.units+1<cLine:=by have:=h.units;exact z36 this
section
variable {X:Cx}{O:Ev}{E:xr}{rest body:List An}{e c tg iter:Al}{pos p:Pos}
def zR (pat:Pat)(h:EvI X O tg iter λds=>si X pat body rest E ds O)(f:X.N.Nodup:=by assumption)(a:PassesOwn (Ah X.prog X.w) X.A X.env X.xe:=by exact yo3)(d:X.calm=true:=by rfl)
  (hg:PG X tg (oo X.K pat):=by first|exact zQ (by assumption) rfl (Or.inl rfl)|exact zQ (by assumption) rfl (Or.inr rfl)|exact ve rfl rfl (by repeat (first|exact uL|refine xo (by first|exact zQ (by assumption) rfl (Or.inl rfl)|exact zQ (by assumption) rfl (Or.inr rfl)) ?_)))
  (b:∀x,foldedSetIterable iter X.env x=pure x:=by intro _;rfl):SvS X O (.For tg iter body [] pos::rest) E:=oG a d hg h b
noncomputable def freeOk (xs:Aq)(y:Str×NameKind):Bool:=match y.2 with
 |.free=>match xs.names.lookup y.1 with
  |some .cell=>true
  |some .free=>true
  |_=>false
 |_=>true
theorem mI {xs scope:Aq}(h:scope.names.all (freeOk xs)=true):∀y∈scope.names,y.2=.free->xs.names.lookup y.1=some .cell\/xs.names.lookup y.1=some .free:=λy hy e=>by
 have:=yn2.mp h y hy;unfold freeOk at this;rw[e]at this;cases z:xs.names.lookup y.1 with
 |none=>rw[z]at this;cases this
 |some k=>
  rw[z]at this;cases k<;>first|exact .inl rfl|exact .inr rfl|cases this
def xJ (N:List Str)(imp:List (Option Nat))(pat:Pat){scope:Aq}{elt:Al}{ifs:List Al}{Q:List Aa->Prop}(h:EvI X O tg iter λds=>ds.length<=1000/\xx (λC s2 b fp=>X.comp N scope C s2 b fp) pat ifs elt (yV imp O) ds [] Q)
  (nd:N.Nodup:=by decide +kernel) (h1:scope.kind=.function:=by rfl) (h2:∀y∈scope.names,y.2≠.cell:=by decide +kernel) (h3:∀y∈scope.names,y.2=.local->scope.names.lookup y.1=some .local:=by decide +kernel) (k:scope.names.all (freeOk X.env.scope)=true:=by rfl) (f:imp.length=N.length:=by rfl)
  (g:((imp.zip N).all λp=>match p.1 with|none=>true|some j=>X.N[j]? == some p.2&&scope.names.lookup p.2 == some .free)=true:=by rfl) (a:pat.free (yV imp O)=true:=by rfl)
  (hg:∀C s2 b fp,N.Nodup->PG (X.comp N scope C s2 b fp) tg (oo X.K pat):=by intro _ _ _ _ d;first|exact zQ d rfl (Or.inl rfl)|exact ve rfl rfl (by repeat (first|exact uL|refine xo (zQ d rfl (Or.inl rfl)) ?_)))
  (l:X.calm=true:=by rfl) (i:∀x,foldedSetIterable iter X.env x=pure x:=by intro _;rfl):EvL X O (.ListComp elt [⟨tg,iter,ifs,0⟩] scope pos) Q:=za4 l ⟨h1,nd,h2,h3,mI k,f,g⟩ a (λC s2 b fp=>hg C s2 b fp nd) h i
def aB (i:Nat)(N:List Str)(imp:List (Option Nat))(pat:Pat){x:Str}{pos' a:Pos}{scope:Aq}{elt:Al}{ifs:List Al}(h:EvI X O tg iter λds=>ds.length<=1000/\xx (λC s2 d fp=>X.comp N scope C s2 d fp) pat ifs elt (yV imp O) ds [] λds=>SvS X (O.set i (some (.own ds))) rest E)
  (q:X.N.Nodup:=by assumption)
  (nd:N.Nodup:=by decide +kernel) (h1:scope.kind=.function:=by rfl) (h2:∀y∈scope.names,y.2≠.cell:=by decide +kernel) (h3:∀y∈scope.names,y.2=.local->scope.names.lookup y.1=some .local:=by decide +kernel) (n:scope.names.all (freeOk X.env.scope)=true:=by rfl) (k:imp.length=N.length:=by rfl)
  (r:((imp.zip N).all λp=>match p.1 with|none=>true|some j=>X.N[j]? == some p.2&&scope.names.lookup p.2 == some .free)=true:=by rfl) (b:pat.free (yV imp O)=true:=by rfl)
  (hg:∀C s2 d fp,N.Nodup->PG (X.comp N scope C s2 d fp) tg (oo X.K pat):=by intro _ _ _ _ f;first|exact zQ f rfl (Or.inl rfl)|exact ve rfl rfl (by repeat (first|exact uL|refine xo (zQ f rfl (Or.inl rfl)) ?_)))
  (o:X.calm=true:=by rfl)
  (hi:X.N[i]?=some x:=by rfl) (l:Loc X.env.scope x:=by first|exact Or.inl rfl|exact Or.inr rfl) (g:swapsWith (.ListComp elt [⟨tg,iter,ifs,0⟩] scope a) (some (.Name x pos')) pos.line X.env=pure true:=by rfl)
  (hf:X.fn x=true\/X.env.scope.names.lookup x=some .local:=by first|exact .inl rfl|exact .inr rfl|assumption) (m:∀x,foldedSetIterable iter X.env x=pure x:=by intro _;rfl):
  SvS X O (.Assign [.Name x pos'] (.ListComp elt [⟨tg,iter,ifs,0⟩] scope a) pos::rest) E:=zj1 i q o ⟨h1,nd,h2,h3,mI n,k,r⟩ b (λC s2 d fp=>hg C s2 d fp nd) h hi l g hf m
end
section
variable {Y:Ad->Ac->Hp->List Ad->Cx}{pat:Pat}{ifs:List Al}{elt:Al}{α0:Ev}{ι:Type}{g f:ι->Aa}{l:List ι}{acc:List Aa}{Q:List Aa->Prop}
theorem lC (p:ι->Bool)(f:ι->Aa)(h:∀x∈l,∃a,pat.bind (g x) α0=some a/\(∀C s2 b fp (Q:Bool->Prop),Q (p x)->dg (Y C s2 b fp) a ifs Q)/\(p x=true->∀C s2 b fp (Q:Aa->Prop),Q (f x)->EvD (Y C s2 b fp) a elt Q))
  (hd:Q (acc++(l.filter p).map f)):xx Y pat ifs elt α0 (l.map g) acc Q:=by
 induction l generalizing acc with
 |nil=>
  show Q acc;simpa using hd
 |cons d ds i=>
  obtain⟨a,e,h1,h2⟩:=h d z89;refine⟨a,e,λC s2 b fp=>h1 C s2 b fp _ ?_⟩;have c:=λacc=>i (acc:=acc) λd hd=>h d (z87 _ hd);cases hp:p d with
  |true=>
   rw[if_pos rfl];refine λC s2 b fp=>h2 hp C s2 b fp _ (c _ ?_);simpa[yn3,hp]using hd
  |false=>
   rw[if_neg (by decide)];refine c _ ?_;simpa[yn3,hp]using hd
def ye (f:ι->Aa)(d:∀x∈l,∃a,pat.bind (g x) α0=some a/\∀C s2 b fp (Q:Aa->Prop),Q (f x)->EvD (Y C s2 b fp) a elt Q)(hd:Q (acc++l.map f)):xx Y pat [] elt α0 (l.map g) acc Q:=
 lC (λ_=>true) f (λx c=>by
  obtain⟨a,h1,h2⟩:=d x c;exact⟨a,h1,λ_ _ _ _ _ k=>jm k,λ_=>h2⟩) (by rw[List.filter_eq_self.mpr λ_ _=>rfl];exact hd)
end
abbrev Part :=Int×Int×Nat
abbrev Way :=Int×Int×Option Part
abbrev Co :=Nat->Int->Int->Option Int
inductive Cut (co:Co)(N:Nat):Int->Int->Int->List Part->Prop
 |nil (a:Int):Cut co N a a 0 []
 |cons {a e b x y:Int}{n:Nat}{ps:List Part} (h1:a<e) (h2:n<N) (h3:co n a e=some x) (h:Cut co N e b y ps):Cut co N a b (x+y) ((a,e,n)::ps)
section
variable {co:Co}{N:Nat}
theorem Cut.le {a b z:Int}{ps:List Part}(h:Cut co N a b z ps):a<=b:=by
 induction h with
 |nil a=>exact yd6 _
 |cons h1 _ _ _ c=>exact yj7 (yk1 h1 c)
theorem Cut.app {a b e z y:Int}{ps qs:List Part}(h:Cut co N a b z ps)(h':Cut co N b e y qs):Cut co N a e (z+y) (ps++qs):=by
 induction h with
 |nil a=>rw[Int.zero_add];exact h'
 |cons h1 h2 h3 _ c=>rw[Int.add_assoc,ys5];exact .cons h1 h2 h3 (c h')
def Cut.snoc {a b e z x:Int}{n:Nat}{ps:List Part}(h:Cut co N a b z ps)(h1:b<e)(h2:n<N)(h3:co n b e=some x):Cut co N a e (z+x) (ps++[(b,e,n)]):=by
 have:=h.app (.cons h1 h2 h3 (.nil e))
 rwa [Int.add_zero]at this
theorem Cut.last {a b z:Int}{ps:List Part}(h:Cut co N a b z ps):(ps=[]/\a=b/\z=0)\/∃qs d y x n,ps=qs++[(d,b,n)]/\Cut co N a d y qs/\d<b/\n<N/\co n d b=some x/\z=y+x:=by
 induction h with
 |nil a=>exact .inl ⟨rfl,rfl,rfl⟩
 |@cons a e b x y n ps h1 h2 h3 h ih=>
  right;rcases ih with⟨rfl,rfl,rfl⟩|⟨qs,d,g,f,m,rfl,c,hd,hm,i,rfl⟩
  .exact⟨[],a,0,x,n,rfl,.nil a,h1,h2,h3,z30⟩
  .exact⟨(a,e,n)::qs,d,x+g,f,m,rfl,.cons h1 h2 h3 c,hd,hm,i,z38⟩
def zx1 (co:Co)(N:Nat)(a b z:Int):Prop:=(∃ps,Cut co N a b z ps)/\∀y ps,Cut co N a b y ps->z<=y
noncomputable def ltQ (x y:Part):Bool:=decide (x.1<y.1)||(decide (x.1=y.1)&&(decide (x.2.1<y.2.1)||(decide (x.2.1=y.2.1)&&decide (x.2.2<y.2.2))))
noncomputable def ltP (x y:Int×Part):Bool:=decide (x.1<y.1)||(decide (x.1=y.1)&&ltQ x.2 y.2)
noncomputable def kJ :List (Int×Part)->Int×Part
 |[]=>(0,0,0,0)
 |d::ds=>ds.foldl (λb x=>if ltP x b=true then x else b) d
def z03 {x y:Int×Part}(h:ltP x y=true):x.1<=y.1:=by
 unfold ltP at h;simp only[yk6,yc5,yg6]at h
 lia
def zT4 {x y:Int×Part}(h:¬ltP x y=true):y.1<=x.1:=by
 unfold ltP at h;simp only[yk6,yc5,yg6,not_or]at h;exact Int.not_lt.1 h.1
theorem iI :∀(ds:List (Int×Part)) (d:Int×Part),(ds.foldl (λb x=>if ltP x b=true then x else b) d=d\/ds.foldl (λb x=>if ltP x b=true then x else b) d∈ds)/\(ds.foldl (λb x=>if ltP x b=true then x else b) d).1<=d.1/\∀x∈ds,(ds.foldl (λb x=>if ltP x b=true then x else b) d).1<=x.1
 |[],d=>⟨.inl rfl,yd6 _,λx a=>by simp at a⟩
 |y::ds,d=>by
  rw[yo4];obtain⟨h1,h2,h3⟩:=iI ds (if ltP y d=true then y else d);by_cases h:ltP y d=true
  .rw[if_pos h]at h1 h2 h3 ⊢;have:=z03 h;refine⟨.inr ?_,(yh6 h2 this),λx a=>?_⟩
   .rcases h1 with e|e
    .rw[e];exact z89
    .exact z87 _ e
   .rcases z84.mp a with rfl|a
    .exact h2
    .exact h3 x a
  .rw[if_neg h]at h1 h2 h3 ⊢;have:=zT4 h;refine⟨h1.imp id λe=>z87 _ e,h2,λx a=>?_⟩;rcases z84.mp a with rfl|a
   .exact yh6 h2 this
   .exact h3 x a
theorem zg0 {ds:List (Int×Part)}(h:ds≠[]):kJ ds∈ds:=by
 cases ds with
 |nil=>exact absurd rfl h
 |cons d ds=>
  rcases(iI ds d).1 with e|e
  .show List.foldl _ d ds∈_;rw[e];exact z89
  .exact z87 _ e
theorem zw6 {ds:List (Int×Part)}{x:Int×Part}(h:x∈ds):(kJ ds).1<=x.1:=by
 cases ds with
 |nil=>simp at h
 |cons d ds=>
  rcases z84.mp h with rfl|h
  .exact(iI ds x).2.1
  .exact(iI ds d).2.2 x h
noncomputable def aI (co:Co)(N:Nat)(day:Int)(w:Way):List (Int×Part):=(List.range N).filterMap λn=>(co n w.1 day).map λx=>(w.2.1+x,(w.1,day,n))
noncomputable def uZ (co:Co)(N:Nat)(W:List Way)(day:Int):List (Int×Part):=W.flatMap (aI co N day)
def oq {W:List Way}{day:Int}{p:Int×Part}:p∈uZ co N W day↔∃w∈W,∃n x,n<N/\co n w.1 day=some x/\p=(w.2.1+x,(w.1,day,n)):=by
 unfold uZ aI;simp only[List.mem_flatMap,yu1,yr0,z98]
 constructor
 .rintro⟨w,hw,n,hn,x,a,rfl⟩;exact⟨w,hw,n,x,hn,a,rfl⟩
 .rintro⟨w,hw,n,x,hn,a,rfl⟩;exact⟨w,hw,n,hn,x,a,rfl⟩
noncomputable def mV (co:Co)(N:Nat)(W:List Way)(day:Int):List Way:=if uZ co N W day=[]then W else W++[(day,(kJ (uZ co N W day)).1,some (kJ (uZ co N W day)).2)]
noncomputable def yc (co:Co)(N:Nat)(c:Int):Nat->List Way
 |0=>[(c,0,none)]
 |k+1=>mV co N (yc co N c k) (c+1+k)
noncomputable def yj (W:List Way)(d:Int):Option (Int×Option Part):=(W.find? λw=>decide (w.1=d)).map (·.2)
structure wx (co:Co)(N:Nat)(c:Int)(k:Nat)(W:List Way):Prop where
 first:∃r,W=(c,0,none)::r/\∀w∈r,c<w.1
 top:∀w∈W,w.1<=c+k
 sort:(W.map (·.1)).Pairwise (·<·)
 step:∀w∈W,w=(c,0,none)\/∃u∈W,∃n y,u.1<w.1/\n<N/\co n u.1 w.1=some y/\w=(w.1,u.2.1+y,some (u.1,w.1,n))
 shut:∀u∈W,∀d n y,u.1<d->d<=c+k->n<N->co n u.1 d=some y->∃w∈W,w.1=d/\w.2.1<=u.2.1+y
def wx.low {c:Int}{k:Nat}{W:List Way}(h:wx co N c k W):∀w∈W,c<=w.1:=λw hw=>by
 obtain⟨r,rfl,hr⟩:=h.first;rcases z84.mp hw with rfl|hw
 .exact yd6 _
 .have:=hr w hw;exact yj7 this
theorem zw2 (c:Int):∀k,wx co N c k (yc co N c k)
 |0=>by
  refine⟨⟨[],rfl,λw hw=>by simp at hw⟩,λw hw=>?_,by simp[yc],λw hw=>?_,λu f d n y h1 h2 _ _=>?_⟩
  .rw[z92.mp hw];simp
  .exact .inl (z92.mp hw)
  .rw[z92.mp f]at h1;simp only[Int.natCast_zero,Int.add_zero]at h2;have q:c<d:=h1
   lia
 |k+1=>by
  have g:=zw2 c k;unfold yc mV;generalize yc co N c k=W at g;obtain⟨r,hr,l⟩:=g.first;by_cases e:uZ co N W (c+1+k)=[]
  .rw[if_pos e];refine⟨g.first,λw hw=>by have:=g.top w hw;exact z04 this,g.sort,g.step,λu f d n y h1 h2 h3 i=>?_⟩;by_cases hd:d<=c+k
   .exact g.shut u f d n y h1 hd h3 i
   .have:d=c+1+k:=(zV3 h2 hd);subst this;have:=oq.mpr ⟨u,f,n,y,h3,i,rfl⟩;rw[e]at this;simp at this
  .rw[if_neg e];obtain⟨p,j,s,t,o,m,em⟩:=oq.mp (zg0 e);refine⟨?_,λw hw=>?_,?_,λw hw=>?_,λu f d n y h1 h2 h3 i=>?_⟩
   .rw[hr];refine⟨r++[_],rfl,λw hw=>?_⟩;rcases ya8.mp hw with hw|hw
    .exact l w hw
    .rw[z92.mp hw];show c<c+1+k;lia
   .rcases ya8.mp hw with hw|hw
    .have:=g.top w hw;exact z04 this
    .rw[z92.mp hw];show c+1+k<=c+((k+1:Nat):Int);exact z60
   .rw[yd2,yb7];refine⟨g.sort,by simp,λa ha b hb=>?_⟩;obtain⟨w,hw,rfl⟩:=ye2.mp ha;have:=g.top w hw;rw[ya6,yp1,z92]at hb
    lia
   .rcases ya8.mp hw with hw|hw
    .rcases g.step w hw with h|⟨u,f,n,y,h⟩
     .exact .inl h
     .exact .inr ⟨u,yb3 _ f,n,y,h⟩
    .rw[z92.mp hw];refine .inr ⟨p,yb3 _ j,s,t,?_,o,m,?_⟩
     .have:=g.top p j;show p.1<c+1+k;exact z43 this
     .rw[em]
   .have key:∀u∈W,u.1<d->∃w∈W++[(c+1+k,(kJ (uZ co N W (c+1+k))).1,some (kJ (uZ co N W (c+1+k))).2)],w.1=d/\(co n u.1 d=some y->w.2.1<=u.2.1+y)\/¬co n u.1 d=some y:=λu f h1=>by
     by_cases i:co n u.1 d=some y
     .by_cases hd:d<=c+k
      .obtain⟨w,hw,e1,v⟩:=g.shut u f d n y h1 hd h3 i;exact⟨w,yb3 _ hw,.inl ⟨e1,λ_=>v⟩⟩
      .have:d=c+1+k:=(zV3 h2 hd);subst this;exact⟨_,ya4 _ (z92.mpr rfl),.inl ⟨rfl,λ_=>zw6 (oq.mpr ⟨u,f,n,y,h3,i,rfl⟩)⟩⟩
     .exact⟨_,ya4 _ (z92.mpr rfl),.inr i⟩
    rcases ya8.mp f with f|f
    .obtain⟨w,hw,h|h⟩:=key u f h1
     .exact⟨w,hw,h.1,h.2 i⟩
     .exact absurd i h
    .rw[z92.mp f]at h1
     lia
theorem wx.uniq {c:Int}{k:Nat}{W:List Way}(h:wx co N c k W){u w:Way}(g:u∈W)(hw:w∈W)(e:u.1=w.1):u=w:=by
 have f:=h.sort;clear h
 induction W with
 |nil=>simp at g
 |cons a W i=>
  rw[ya6,ym6]at f;rcases z84.mp g with rfl|d
  .rcases z84.mp hw with rfl|b
   .rfl
   .have:=f.1 w.1 (ye2.mpr ⟨w,b,rfl⟩);exact(ys4 _ (yk1 this (Int.le_of_eq e.symm))).elim
  .rcases z84.mp hw with rfl|b
   .have:=f.1 u.1 (ye2.mpr ⟨u,d,rfl⟩);exact(ys4 _ (yk1 this (Int.le_of_eq e))).elim
   .exact i d b f.2
def find_some {W:List Way}{d:Int}{x:Int}{l:Option Part}(h:yj W d=some (x,l)):(d,x,l)∈W:=by
 unfold yj at h;obtain⟨w,hw,e⟩:=z98.mp h;have h1:=List.find?_some hw;rw[yg6]at h1;rw[show(d,x,l)=w by rw[<-h1,<-e]];exact(yq6 hw)
def find_none {W:List Way}{d:Int}(h:yj W d=none):∀w∈W,w.1≠d:=λw hw e=>by
 unfold yj at h;rw[Option.map_eq_none_iff,List.find?_eq_none]at h;have:=h w hw;rw[ya9 e]at this;exact this rfl
theorem wx.find {c:Int}{k:Nat}{W:List Way}(h:wx co N c k W){d x:Int}{l:Option Part}(hw:(d,x,l)∈W):yj W d=some (x,l):=by
 cases e:yj W d with
 |none=>exact absurd rfl (find_none e _ hw)
 |some p=>
  have:=h.uniq (find_some e) hw rfl;rw[show p=(x,l) by injection this]
theorem wx.least {c:Int}{k:Nat}{W:List Way}(h:wx co N c k W):∀(m:Nat) {d z:Int}{ps:List Part},ps.length=m->Cut co N c d z ps->d<=c+k->∃w∈W,w.1=d/\w.2.1<=z
 |0,d,z,ps,a,f,hd=>by
  rcases f.last with⟨_,rfl,rfl⟩|⟨qs,_,_,_,_,rfl,_⟩
  .obtain⟨r,rfl,_⟩:=h.first;exact⟨_,z89,rfl,yd6 _⟩
  .simp at a
 |m+1,d,z,ps,a,f,hd=>by
  rcases f.last with⟨rfl,_⟩|⟨qs,b,y,x,n,rfl,e,hb,hn,i,rfl⟩
  .simp at a
  .obtain⟨u,g,rfl,hle⟩:=h.least m (by simpa using a) e (yj7 (yk1 hb hd));obtain⟨w,hw,e1,j⟩:=h.shut u g d n x hb hd hn i;exact⟨w,hw,e1,by lia⟩
noncomputable def wZ (W:List Way)(c:Int):Nat->Int->List Part
 |0,_=>[]
 |f+1,d=>if d=c then []else match yj W d with
  |some (_,some p)=>p::wZ W c f p.1
  |_=>[]
theorem wx.back {c:Int}{k:Nat}{W:List Way}(h:wx co N c k W):∀(f:Nat) {d x:Int}{l:Option Part},(d,x,l)∈W->d-c<=f->Cut co N c d x (wZ W c f d).reverse
 |0,d,x,l,hw,hf=>by
  have:=h.low _ hw;have hd:d=c:=by simp only[Int.natCast_zero]at hf;have:c<=d:=this;lia
  subst hd;obtain⟨r,hr,_⟩:=h.first;have:=h.uniq (w:=(d,0,none)) hw (by rw[hr];exact z89) rfl;injection this with _ e;injection e with e _;subst e;exact .nil _
 |f+1,d,x,l,hw,hf=>by
  rw[wZ];rcases h.step _ hw with e|⟨u,b,n,y,h1,h2,h3,e⟩
  .injection e with e1 a;injection a with a _;subst e1 a;rw[if_pos rfl];exact .nil _
  .have g:=h.low u b;have e:(d,x,l)=(d,u.2.1+y,some (u.1,d,n)):=e;injection e with _ e;injection e with e i;subst e i;rw[if_neg (by lia),h.find hw];rw[List.reverse_cons];exact(h.back f b (by lia)).snoc h1 h2 h3
noncomputable def rT (W:List Way):List Int:=W.map (·.2.1)
noncomputable def pZ (W:List Way)(hi:Int)(d:Int):Int:=match yj W d with
 |some (x,_)=>x
 |none=>hi
end
def zo5 (a:Int)(k:Nat):zp a (k+1)=zp a k++[a+(k:Nat)]:=by
 unfold zp;rw[List.range_succ,yd2];rfl
theorem zG4 (f:Int->Int)(a:Int):∀k:Nat,((zp a k).map λd=>f (d+1)-f d).sum=f (a+k)-f a
 |0=>by simp[zp]
 |k+1=>by
  rw[zo5,yd2,List.sum_append,zG4 f a k];simp only[ya6,yp1,yp8,List.sum_nil];rw[show a+((k+1:Nat):Int)=a+k+1 by omega];omega
def zP9 (a:Int){n i k:Nat}(h:i+k<=n):((zp a n).drop i).take k=zp (a+i) k:=by
 refine yr8 λj=>?_;rw[List.getElem?_take];split
 .rename_i b;rw[yu4,zG (z52 h b),zG b]
  congr 1
  lia
 .rw[ye6 (by rw[zb];lia)]
theorem zm5 :∀{zs:List Int}{z:Int},z∈zs->z<=uU zs:=by
 intro zs z h;cases zs with
 |nil=>simp at h
 |cons d ds=>
  have key:∀(l:List Int) m,m<=l.foldl (λb x=>if b<x then x else b) m/\∀y∈l,y<=l.foldl (λb x=>if b<x then x else b) m:=by
   intro l
   induction l with
   |nil=>exact λm=>⟨yd6 _,λy hy=>by simp at hy⟩
   |cons x l a=>
    intro m;rw[yo4];obtain⟨h1,h2⟩:=a (if m<x then x else m);have hm:m<=(if m<x then x else m)/\x<=(if m<x then x else m):=by split<;>lia
    refine⟨(yh6 hm.1 h1),λy hy=>?_⟩;rcases z84.mp hy with rfl|hy
    .exact yh6 hm.2 h1
    .exact h2 y hy
  have:=key ds d;rcases z84.mp h with rfl|h
  .exact this.1
  .exact this.2 z h
theorem zk4 {zs:List Int}(h:zs≠[]):uU zs∈zs:=by
 cases zs with
 |nil=>exact absurd rfl h
 |cons d ds=>
  have key:∀(l:List Int) m,l.foldl (λb x=>if b<x then x else b) m=m\/l.foldl (λb x=>if b<x then x else b) m∈l:=by
   intro l
   induction l with
   |nil=>exact λm=>.inl rfl
   |cons x l a=>
    intro m;rw[yo4];rcases a (if m<x then x else m)with e|e
    .rw[e];split
     .exact .inr z89
     .exact .inl rfl
    .exact .inr (z87 _ e)
  rcases key ds d with e|e
  .show List.foldl _ d ds∈_;rw[e];exact z89
  .exact z87 _ e
def vA (ds:List Aa){a:Int}(h:0<=a):cutD ds (some a) none=ds.drop a.toNat:=by
 obtain⟨n,rfl⟩:=yj0 h;unfold cutD;rw[HT.gH,HT.rY,yf0];rcases Nat.le_total n ds.length with z|z
 .rw[yo5 z,yo7 (by rw[yj9];exact z82 _)]
 .rw[Nat.min_eq_right z,List.drop_eq_nil_of_le (z82 _),List.drop_eq_nil_of_le z,List.take_nil]
def pW (ds:List Aa){a:Int}(h:0<=a):cutD ds none (some a)=ds.take a.toNat:=by
 obtain⟨n,rfl⟩:=yj0 h;unfold cutD;rw[HT.gH,HT.rY,yf0,List.drop_zero,Nat.sub_zero];rcases Nat.le_total n ds.length with z|z
 .rw[yo5 z]
 .rw[Nat.min_eq_right z,yo7 (z82 _),yo7 z]
def nV (ds:List Aa):cutD ds none (some (-1))=ds.take (ds.length-1):=by
 unfold cutD;rw[HT.rY];have:HT.sIx ds.length ds.length (some (-1))=ds.length-1:=by
  show(if(-1:Int)<0 then((-1:Int)+(ds.length:Int)).toNat else min (-1:Int).toNat ds.length)=_;rw[if_pos (by decide)]
  lia
 rw[this,List.drop_zero,Nat.sub_zero]
def ze9 (f:Int->Int)(c:Int)(n:Nat):cj (cutD (((zp c (n+1)).map f).map PyData.int) none (some (-1))) (cutD (((zp c (n+1)).map f).map PyData.int) (some 1) none)=(zp c n).map λd=>.tuple [.int (f d),.int (f (d+1))]:=by
 rw[nV,vA _ (by decide)];unfold cj;refine yr8 λj=>?_;rw[List.getElem?_zipWith];simp only[z77,zb,List.getElem?_take,yu4,z88];by_cases h:j<n
 .rw[if_pos (by omega),zG (by lia),zG h,show(1:Int).toNat+j=j+1 from by rw[Nat.add_comm];rfl,zG (by lia)];show some _=some _;rw[show c+((j+1:Nat):Int)=c+j+1 by omega]
 .rw[if_neg (by omega),ye6 (l:=zp c n) (by rw[zb];exact yk0 h)];rfl
section
variable {co:Co}{N:Nat}
def zt5 (W:List Way):Int:=uU (rT W)
def hW (W:List Way)(d:Int):Int:=pZ W (zt5 W) d
noncomputable def xT (W:List Way)(c:Int)(n:Nat):List Int:=(zp c n).map λd=>hW W (d+1)-hW W d
def wK {W:List Way}{d x:Int}{l:Option Part}(h:yj W d=some (x,l)):hW W d=x:=by unfold hW pZ;rw[h]
def sM {W:List Way}{d:Int}(h:yj W d=none):hW W d=zt5 W:=by unfold hW pZ;rw[h]
theorem zZ1 (W:List Way)(d:Int):hW W d<=zt5 W:=by
 cases e:yj W d with
 |none=>rw[sM e];exact yd6 _
 |some p=>
  rw[wK e];exact zm5 (ye2.mpr ⟨_,find_some e,rfl⟩)
def dJ (W:List Way)(c:Int)(n:Nat):(xT W c n).length=n:=by unfold xT;rw[z77,zb]
def cn (W:List Way)(c:Int)(n:Nat):(xT W c n).sum=hW W (c+n)-hW W c:=zG4 _ _ _
def dN {W:List Way}{c:Int}{n i k:Nat}(h:i+k<=n):(((xT W c n).drop i).take k).sum=hW W (c+i+k)-hW W (c+i):=by
 unfold xT;rw[<-List.map_drop,<-List.map_take,zP9 c h,zG4]
def wx.zero {c:Int}{k:Nat}{W:List Way}(h:wx co N c k W):yj W c=some (0,none):=h.find (by
 obtain⟨r,rfl,_⟩:=h.first;exact z89)
def wx.had {c:Int}{k:Nat}{W:List Way}(h:wx co N c k W){x:Int}{l:Option Part}(e:yj W (c+k)=some (x,l)):zx1 co N c (c+k) x:=by
 have hw:=find_some e;refine⟨⟨_,h.back k hw (z64)⟩,λy ps d=>?_⟩;obtain⟨w,a,e1,b⟩:=h.least _ rfl d (yd6 _);have:=h.uniq hw a e1.symm;rw[show x=w.2.1 by rw[<-this]];exact b
def wx.off {c:Int}{k:Nat}{W:List Way}(h:wx co N c k W)(e:yj W (c+k)=none){z:Int}{ps:List Part}:¬Cut co N c (c+k) z ps:=λa=>by
 obtain⟨w,hw,e1,_⟩:=h.least _ rfl a (yd6 _);exact find_none e w hw e1
noncomputable def yw (p:Part):Aa:=.tuple [.int p.1,.int p.2.1,.int p.2.2]
def zb0 :Option Part->Aa
 |none=>.none
 |some p=>yw p
noncomputable def sA (w:Way):Aa×Aa:=(.int w.1,.tuple [.int w.2.1,zb0 w.2.2])
noncomputable def wD (p:Int×Part):Aa:=.tuple [.int p.1,yw p.2]
theorem xu (d:Int):∀W:List Way,uI (W.map sA) (.inl d)=(yj W d).map λp=>.tuple [.int p.1,zb0 p.2]
 |[]=>rfl
 |w::W=>by
  rw[ya6];unfold sA;rw[uI];unfold yj;rw[yg1];show(if decide (w.1=d)=true then _ else _)=_;by_cases h:w.1=d
  .rw[ya9 h,if_pos rfl];rfl
  .rw[ya3 h,if_neg (by decide)];exact xu d W
def aj {W:List Way}{d x:Int}{l:Option Part}(h:yj W d=none):putD (W.map sA) (.inl d) (.tuple [.int x,zb0 l])=(W++[(d,x,l)]).map sA:=by
 unfold putD;rw[xu,h,Option.map_none,if_neg (by decide),yd2];rfl
def cJ (p q:Part):PyData.eqv (yw p) (yw q)=decide (p=q):=by
 obtain⟨a,b,n⟩:=p;obtain⟨c,e,d⟩:=q;have:PyData.eqv (yw (a,b,n)) (yw (c,e,d))=(decide (a=c)&&(decide (b=e)&&(decide ((n:Int)=d)&&true))):=by
  rw[<-uv,<-uv,<-uv];rfl
 rw[this];by_cases h1:a=c<;>by_cases h2:b=e<;>by_cases h3:n=d<;>simp[h1,h2,h3]<;>lia
def zy5 (p q:Part):ltD (yw p) (yw q)=some (ltQ p q):=by
 obtain⟨a,b,n⟩:=p;obtain⟨d,e,c⟩:=q;unfold yw ltD;simp only[jc,uv,ltQ];by_cases h1:a=d
 .subst h1;by_cases h2:b=e
  .subst h2;by_cases h3:(n:Int)=c
   .have:n=c:=(z57 h3);subst this;simp
   .simp only[decide_true,yl9,ya3 h3,yd0,yj2,ltD,ys4,decide_false,yu6,ys3];rw[show decide ((n:Int)<c)=decide (n<c) by by_cases h:n<c<;>simp[h]]
  .simp only[decide_true,yl9,ya3 h2,yd0,yj2,ltD,ys4,decide_false,yu6,ys3,yl8,yp5]
 .simp only[ya3 h1,yd0,yj2,ltD,yl8,yp5]
def bu (p q:Int×Part):ltD (wD p) (wD q)=some (ltP p q):=by
 obtain⟨z,p⟩:=p;obtain⟨y,q⟩:=q;unfold wD ltD;simp only[jc,uv,ltP,cJ];by_cases h1:z=y
 .subst h1;by_cases h2:p=q
  .subst h2;simp[ltQ]
  .simp only[decide_true,yl9,ya3 h2,yd0,yj2,zy5,ys4,decide_false,yu6,ys3]
 .simp only[ya3 h1,yd0,yj2,ltD,yl8,yp5]
theorem zs9 :∀{ds:List (Int×Part)},ds≠[]->minD (ds.map wD)=wD (kJ ds)
 |[],h=>absurd rfl h
 |d::ds,_=>by
  show List.foldl _ (wD d) (ds.map wD)=wD (List.foldl _ d ds);rename_i b;clear b
  induction ds generalizing d with
  |nil=>rfl
  |cons x ds a=>
   rw[ya6,yo4,yo4,bu];show List.foldl _ (if ltP x d=true then wD x else wD d) _=_;rw[<-a];split<;>rfl
def bQ (ds:List (Int×Part)):zM2 (ds.map wD):=λx a y hy=>by
 obtain⟨p,_,rfl⟩:=ye2.mp a;obtain⟨q,_,rfl⟩:=ye2.mp hy;rw[bu];rfl
noncomputable def qD (co:Co)(N:Nat)(c g:Int):Aa:=
 match yj (yc co N c (g-c).toNat) g with
 |none=>.tuple [.str "off",.list ((yc co N c (g-c).toNat).map λw=>.int w.1)]
 |some (x,_)=>.tuple [.str "had",.int x,.list ((wZ (yc co N c (g-c).toNat) c (g-c).toNat g).reverse.map yw),.list ((xT (yc co N c (g-c).toNat) c (g-c).toNat).map .int)]
end
section
variable {X:Cx}{O:Ev}{a b e:Al}{pos p:Pos}{Q:Aa->Prop}
def fits_of {ns:List Int}{B:Int}(h:∀n∈ns,-B<=n/\n<=B)(hb:0<=B)(d:B<=1000000000000000)(c:ns.length<=1000):(∀n∈ns,-(2 ^ 62)<=n/\n<2 ^ 62)/\Fits ns:=by
 refine⟨λn hn=>by have:=h n hn;lia,λk hk=>?_⟩;have key:∀l:List Int,(∀n∈l,-B<=n/\n<=B)->-(B*l.length)<=l.sum/\l.sum<=B*l.length:=by
  intro l
  induction l with
  |nil=>intro _;simp
  |cons x l f=>
   intro c;have h1:=c x z89;have h2:=f λn hn=>c n (z87 _ hn);rw[yp8,ya1,yt8,Int.mul_add];simp only[Int.natCast_one,Int.mul_one]
   lia
 have h1:=key (ns.take k) λn hn=>h n (yd8 hn);have h2:B*((ns.take k).length:Int)<=1000000000000000*1000:=Int.mul_le_mul d (by rw[yc3];exact zR4 c) (yo0 _) (by decide)
 lia
def zu9 (B:Int)(d:X.calm=true)(hg:Gl X "sum")(hm:X.mg "sum"=none)(h:EvD X O e λx=>∃ns:List Int,x=.list (ns.map .int)/\(∀n∈ns,-B<=n/\n<=B)/\ns.length<=1000/\Q (.int ns.sum))(hb:0<=B/\B<=1000000000000000:=by decide)(he:Af [e] X.env=(false,eval e X.env)::Af [] X.env:=by rfl):
  EvD X O (.Call (.Name "sum" p) [e] [] pos) Q:=
 nH d hg hm (h.imp λx c=>by obtain⟨ns,e1,h1,h2,q⟩:=c;exact⟨ns,e1,(fits_of h1 hb.1 hb.2 h2).1,(fits_of h1 hb.1 hb.2 h2).2,q⟩) he
end
section
variable {X:Cx}{O:Ev}{a b c e:Al}{pos p:Pos}{Q:Aa->Prop}{T:Bool->Prop}
theorem bK {op d:CmpOp}{g r:Int->Int->Bool}(A:OpR X (compareOp op) (rI0 λi j=>.bl (g i j)))(f:OpR X (compareOp d) (rI0 λi j=>.bl (r i j)))(hm:lastMarks [op,d] [b,c]=false)
  (h:EvD X O a λx=>EvD X O b λy=>∃i j,x=.int i/\y=.int j/\(if g i j=true then EvD X O c λz=>∃k,z=.int k/\T (r j k)else T false)):EvT X O (.Compare a [op,d] [b,c] pos) T:=λF B H R m k=>by
 refine⟨_,zj9 A f zg zg zg hm,h F B H _ m λx L H1 G t1 o u=>?_⟩;have m1:=m.kz o t1;refine G F B H1 _ m1 λy K q E s n v=>?_;obtain⟨i,j,e1,J,hq⟩:=E;subst e1 J;cases u.int_inv;cases v.int_inv;refine⟨i,j,rfl,rfl,_,rfl,?_⟩;cases hg:g i j with
 |true=>
  rw[hg]at hq;refine sC ?_;refine(by simpa using hq:EvD X O c _) F B q _ (m1.kz n s) λz M C w t3 t D=>?_;obtain⟨I,rfl,l⟩:=w;cases D.int_inv;exact⟨j,I,rfl,rfl,_,rfl,k _ C l t3 ((o.trans n).trans t)⟩
 |false=>
  rw[hg]at hq;exact sv ⟨_,rfl,k _ q (by simpa using hq) s (o.trans n)⟩
def za2 (h:EvD X O a λx=>EvD X O b λy=>∃i j,x=.int i/\y=.int j/\(if decide (i<=j)=true then EvD X O c λz=>∃k,z=.int k/\T (decide (j<=k))else T false))(hm:lastMarks [.LtE,.LtE] [b,c]=false:=by rfl):EvT X O (.Compare a [.LtE,.LtE] [b,c] pos) T:=bK tT tT hm h
def zr5 (h:EvD X O a λx=>EvD X O b λy=>∃i j,x=.int i/\y=.int j/\(if decide (i<=j)=true then EvD X O c λz=>∃k,z=.int k/\Q (.bool (decide (j<k)))else Q (.bool false)))(hm:lastMarks [.LtE,.Lt] [b,c]=false:=by rfl):EvD X O (.Compare a [.LtE,.Lt] [b,c] pos) Q:=mJ tT iC hm h
def zi5 (h:EvD X O a λx=>EvD X O b λy=>∃i j,x=.int i/\y=.int j/\(if decide (i<=j)=true then EvD X O c λz=>∃k,z=.int k/\Q (.bool (decide (j<=k)))else Q (.bool false)))(hm:lastMarks [.LtE,.LtE] [b,c]=false:=by rfl):EvD X O (.Compare a [.LtE,.LtE] [b,c] pos) Q:=mJ tT tT hm h
def zO7 (h:EvD X O a λx=>EvD X O b λy=>∃i j,x=.bool i/\y=.bool j/\Q (.bool (i == j))):EvD X O (.Compare a [.Is] [b] pos) Q:=
 jS zQ1 (yi _) (h.imp λx h=>h.imp λy d=>by obtain⟨i,j,e1,k,q⟩:=d;exact⟨i == j,λp H m l R f g z=>by
  subst e1 k;cases f.bl_inv;cases g.bl_inv;exact⟨i,j,rfl,rfl,z⟩,q⟩)
end
section
variable {X:Cx}{O:Ev}{a b c e:Al}{pos p p2 pos2:Pos}{Q:Aa->Prop}{T:Bool->Prop}
theorem oO {us:List Ab}{ns:List Int}(h:IntsAre us ns):Vals (ns.map V.int) us:=by
 induction h with
 |nil=>exact .nil
 |cons n t _ d=>exact .cons ⟨t,rfl⟩ d
end
section
variable {X:Cx}{O:Ev}{a b c d e:Al}{pos p:Pos}{ta tb tc td:TE}{T:Bool->Prop}
def zr1 (r o q:R2)(ta tb tc td:TE):TE:=λB H Q=>ta B H λx H1=>tb B H1 λy l=>r x y l λz i=>∃k,z=.bl k/\
 (if k=true then tc B i λg j=>o y g j λn h=>∃f,n=.bl f/\(if f=true then td B h λu m=>q g u m Q else Q (.bl false) h)else Q (.bl false) i)
theorem eW {op g f:CmpOp}{r D i:R2}(ho:OpR X (compareOp op) r)(l:OpR X (compareOp g) D)(n:OpR X (compareOp f) i)(ha:PE X a ta)(hb:PE X b tb)(hc:PE X c tc)(hd:PE X d td)
  (hm:lastMarks [op,g,f] [b,c,d]=false):PT X (.Compare a [op,g,f] [b,c,d] pos) (aW (zr1 r D i ta tb tc td)):=by
 intro pins s B H Q I h;refine isTrue_chain (thn (ha pins s B H _ I h) λv s1 ⟨x,H1,R,Y,q1⟩=>test_link (thn (hb pins s1 B H1 _ R q1) λu s2 ⟨y,U,J,i,P⟩=>
  thn (ho pins s2 B U x y v u _ J Y i P) λd s3 ⟨z,w,F,N,k,e,t⟩=>?_)) hm
 subst e;cases N;refine yd1 ?_;cases k with
 |false=>
  obtain⟨k',j,m⟩:=t;cases j;exact ite_ff ⟨w,F,m⟩
 |true=>
  refine ite_tt (test_link (thn (hc pins s3 B w _ F t) λE s4 ⟨A,H4,I4,o,M⟩=>thn (l pins s4 B H4 y A u E _ I4 i o M) λd' s5 ⟨z2,q,G,Z,k2,e2,C⟩=>?_));subst e2;cases Z;refine yd1 ?_;cases k2 with
  |false=>
   obtain⟨k',j,m⟩:=C;cases j;exact ite_ff ⟨q,G,m⟩
  |true=>
   refine ite_tt (test_last (thn (hd pins s5 B q _ G C) λw2 L ⟨z3,H6,I6,K,q6⟩=>thn (n pins L B H6 A z3 E w2 _ I6 o K q6) λd' s7 ⟨z4,H7,V,S,k3,e3,W⟩=>?_));subst e3;cases S;exact yd1 ⟨H7,V,W⟩
theorem fi (h:EvD X O a λx=>EvD X O b λy=>∃i j,x=.int i/\y=.int j/\(if decide (i<=j)=true then EvD X O c λz=>∃k,z=.int k/\(if decide (j<k)=true then EvD X O d λu=>∃m,u=.int m/\T (decide (k<=m))else T false)else T false))(hm:lastMarks [.LtE,.Lt,.LtE] [b,c,d]=false:=by rfl):
  EvT X O (.Compare a [.LtE,.Lt,.LtE] [b,c,d] pos) T:=λF B H R m k=>by
 refine⟨_,eW tT iC tT zg zg zg zg hm,h F B H _ m λx Q H1 L t1 l A=>?_⟩;have m1:=m.kz l t1;refine L F B H1 _ m1 λy P r K t g C=>?_;obtain⟨i,j,e1,M,hq⟩:=K;subst e1 M;cases A.int_inv;cases C.int_inv;have m2:=m1.kz g t;refine⟨i,j,rfl,rfl,_,rfl,?_⟩;cases hg:decide (i<=j)with
 |true=>
  rw[hg,if_pos rfl]at hq;refine sC ?_;refine hq F B r _ m2 λz U s D t3 n J=>?_;obtain⟨q,rfl,f⟩:=D;cases J.int_inv;refine⟨j,q,rfl,rfl,_,rfl,?_⟩;cases hg2:decide (j<q)with
  |true=>
   rw[hg2,if_pos rfl]at f;refine sC ?_;refine f F B s _ (m2.kz n t3) λu S G I w E v=>?_;obtain⟨N,rfl,o⟩:=I;cases v.int_inv;exact⟨q,N,rfl,rfl,_,rfl,k _ G o w (((l.trans g).trans n).trans E)⟩
  |false=>
   rw[hg2,if_neg (by decide)]at f;exact sv ⟨_,rfl,k _ s f t3 ((l.trans g).trans n)⟩
 |false=>
  rw[hg,if_neg (by decide)]at hq;exact sv ⟨_,rfl,k _ r hq t (l.trans g)⟩
end
def zP1 {X:Cx}{O:Ev}{e tg:Al}{Q:List Aa->Prop}(h:EvD X O e λx=>∃ds,x=.tuple ds/\Q ds):EvI X O tg e Q:=λF B H R m k=>by
 refine⟨_,zI8 zg,h F B H _ m λx n H1 g t1 j f=>?_⟩;obtain⟨ds,rfl,q⟩:=g;obtain⟨a,xs,rfl,h1,h2⟩:=f.tup_inv;refine⟨a,rfl,⟨xs,SqT.of (zf h1).2⟩,k ds _ H1 q t1 j λi l p s=>⟨λd hd=>?_,λc=>?_⟩⟩
 .obtain⟨x,b,av⟩:=h2.get hd;have ha:=SqT.of (K:=X.K) (zf (s _ _ h1)).2;refine⟨⟨xs,x,ha,b⟩,λr o y=>?_⟩;obtain⟨e,y⟩:=y;subst e;have:=y xs ha;rw[b]at this;cases this;exact⟨zt.refl _,λ_=>av.same s⟩
 .exact⟨xs,SqT.of (zf (s _ _ h1)).2,by rw[h2.length];exact c⟩
def z40 (ns zs:List Int):∃ms,sF ns zs ms:=by
 refine⟨ns.mergeSort λm k=>!lx (keyOf zs k) (keyOf zs m),List.mergeSort_perm ..,?_⟩;have h:=List.pairwise_mergeSort (le:=λm k=>!lx (keyOf zs k) (keyOf zs m)) (λa b c h1 h2=>?_) (λa b=>?_) ns
 .exact h.imp λ{a b} h=>by simpa using h
 .simp only[Bool.not_eq_true']at h1 h2 ⊢;unfold lx at *;simp only[yj1]at *
  lia
 .unfold lx;simp only[yk6,Bool.not_eq_true',yj1]
  lia
def bH {ns zs ms ks:List Int}(h:sF ns zs ms)(h':sF ns zs ks):ms=ks:=by
 refine List.Perm.eq_of_pairwise (λa b _ _ h1 h2=>?_) h.2 h'.2 (h.1.trans h'.1.symm);unfold lx keyOf at h1 h2;simp only[yj1]at h1 h2
 lia
def zm6 {zs:List Int}{many free:Nat}{bs cs:List Bool}(h:0<many)(m:sr zs many free zs.length bs)(a:sr zs many free zs.length cs):bs=cs:=by
 have e:∀j,bs.getD j false=cs.getD j false:=λj=>by
  by_cases c:zs.length / many*many<=j
  .rw[m.2.1 j c,a.2.1 j c]
  .have hk:j / many<zs.length / many:=by
    have:=Nat.div_lt_iff_lt_mul (x:=j) (y:=zs.length / many) h;exact this.mpr (Nat.lt_of_not_le c)
   obtain⟨ms,s,f⟩:=m.2.2 _ hk;obtain⟨ks,s',b⟩:=a.2.2 _ hk;cases bH s s';have d:=yq4 j many;have l:=Nat.mod_lt j h;obtain⟨q,hq,eq⟩:=zO2 s (m:=j) (by lia) (by lia);have h1:=f q hq;have h2:=b q hq;rw[eq,yf0]at h1 h2;rw[h1,h2]
 refine List.ext_getElem (by rw[m.1,a.1]) λj h1 h2=>?_;have:=e j;rw[z85,z85,z78 h1,z78 h2]at this;exact this
def zb5 {d:Aa}(hd:zd0 d){zs:List Int}{bs cs:List Bool}(h:wU d zs bs)(h':wU d zs cs):bs=cs:=by
 rcases hd with rfl|⟨many,free,rfl,f0,a,_⟩
 .rcases h with⟨_,rfl⟩|⟨_,_,h,_⟩
  .rcases h' with⟨_,rfl⟩|⟨_,_,h,_⟩
   .rfl
   .cases h
  .cases h
 .exact zm6 (ya7 (z94 _) a) (nN h) (nN h')
section
variable {X:Cx}{O:Ev}{a b c d e:Al}{pos p:Pos}{T:Bool->Prop}
def cS {ns:List Int}(h:∀n∈ns,-300000000000000000<=n/\n<=300000000000000000)(f:ns.length<=14):(∀n∈ns,-(2 ^ 62)<=n/\n<2 ^ 62)/\Fits ns:=by
 refine⟨λn hn=>by have:=h n hn;lia,λk hk=>?_⟩;have key:∀l:List Int,(∀n∈l,-300000000000000000<=n/\n<=300000000000000000)->-(300000000000000000*l.length)<=l.sum/\l.sum<=300000000000000000*l.length:=by
  intro l
  induction l with
  |nil=>intro _;simp
  |cons x l g=>
   intro f;have h1:=f x z89;have h2:=g λn hn=>f n (z87 _ hn);rw[yp8,ya1,yt8]
   lia
 have h1:=key (ns.take k) λn hn=>h n (yd8 hn);have h2:((ns.take k).length:Int)<=14:=by rw[yc3];lia
 lia
def zp4 {Q:Aa->Prop}(g:X.calm=true)(hg:Gl X "sum")(hm:X.mg "sum"=none)(h:EvD X O e λx=>∃ns:List Int,x=.list (ns.map .int)/\(∀n∈ns,-300000000000000000<=n/\n<=300000000000000000)/\ns.length<=14/\Q (.int ns.sum))(he:Af [e] X.env=(false,eval e X.env)::Af [] X.env:=by rfl):
  EvD X O (.Call (.Name "sum" p) [e] [] pos) Q:=
 nH g hg hm (h.imp λx f=>by obtain⟨ns,e1,h1,h2,q⟩:=f;exact⟨ns,e1,(cS h1 h2).1,(cS h1 h2).2,q⟩) he
end
abbrev mS (X:Cx)(P:Ag)(w:Ak)(K:Ae)(mg:Str->Option Ab)(base:Ao):Prop:=X.prog=P/\X.w=w/\X.K=K/\X.mg=mg/\X.base=base
section
variable {X:Cx}{O:Ev}{e o:Al}{es:List Al}{pos p apos:Pos}{Q:Aa->Prop}{k:Nat}{φ:List A->(A->Prop)->Prop}{x m:Str}{C:Ad}{pl:Sem Bool}{P:Ag}{w:Ak}{K:Ae}{mg:Str->Option Ab}{base:Ao}
def zm8 (D:Cal P w K mg base x k φ)(c:mS X P w K mg base)(hr:zM k X.A)(hg:Gl X x)(h:EvA X O (e::es) λas=>φ as λa=>Q a.d)
  (b:(x == ("__debug__":Str))=false:=by decide) (he:Af (e::es) X.env=(false,eval e X.env)::Af es X.env:=by rfl) (hpl:(backTo pos (Af es X.env)).any (·.1)=false:=by rfl):EvD X O (.Call (.Name x p) (e::es) [] pos) Q:=by
 obtain⟨rfl,rfl,rfl,rfl,rfl⟩:=c;exact vV D hr hg h b he hpl
def zm9 {Q:List Aa->Prop}(D:Cal P w K mg base x k φ)(c:mS X P w K mg base)(hr:zM k X.A)(hg:Gl X x)(h:EvA X O (e::es) λas=>φ as λa=>∃ds,a=.own ds/\Q ds)
  (b:(x == ("__debug__":Str))=false:=by decide) (he:Af (e::es) X.env=(false,eval e X.env)::Af es X.env:=by rfl) (hpl:(backTo pos (Af es X.env)).any (·.1)=false:=by rfl):EvL X O (.Call (.Name x p) (e::es) [] pos) Q:=by
 obtain⟨rfl,rfl,rfl,rfl,rfl⟩:=c;exact wA D hr hg h b he hpl
def cV (D:vp P w K mg base x k [] φ)(c:mS X P w K mg base)(hr:zM (k+1) X.A)(hg:Gl X x)(h:EvA X O (e::es) λas=>φ as λa=>Q a.d)
  (b:(x == ("__debug__":Str))=false:=by decide) (he:Af (e::es) X.env=(false,eval e X.env)::Af es X.env:=by rfl) (hpl:(backTo pos (Af es X.env)).any (·.1)=false:=by rfl):EvN X O (.Call (.Name x p) (e::es) [] pos) Q:=by
 obtain⟨rfl,rfl,rfl,rfl,rfl⟩:=c;exact zp0 D hr hg h b he hpl
def bO (D:xp P w K mg base C m k φ)(g:mS X P w K mg base)(hr:zM k X.A)(h:EvD X O o λx=>∃fs,x=vg C fs/\rO fs m=none/\EvA X O (e::es) λas=>φ (.dat (vg C fs)::as) λa=>Q a.d)
  (b:Af (e::es) X.env=(false,eval e X.env)::Af es X.env:=by rfl) (hpl:(backTo pos (Af es X.env)).any (·.1)=false:=by rfl)
  (c:eval (.Call (.Attribute o m apos) (e::es) [] pos) X.env=(do
   let ov <-eval o X.env
   standAt apos.atName
   let(f,first) <-holding [ov] (getMethod ov m pl)
   callWith pos f first (backTo pos (Af (e::es) X.env)) (backToKw pos (keywordEach [] X.env))):=by rfl):EvD X O (.Call (.Attribute o m apos) (e::es) [] pos) Q:=by
 obtain⟨rfl,rfl,rfl,rfl,rfl⟩:=g;exact vD D hr h b hpl c
def dq (D:xp P w K mg base C m k φ)(c:mS X P w K mg base)(hr:zM k X.A)(h:EvD X O o λx=>∃fs,x=vg C fs/\rO fs m=none/\φ [.dat (vg C fs)] λa=>Q a.d)
  (b:eval (.Call (.Attribute o m apos) [] [] pos) X.env=(do
   let ov <-eval o X.env
   standAt apos.atName
   let(f,first) <-holding [ov] (getMethod ov m pl)
   callWith pos f first (backTo pos (Af [] X.env)) (backToKw pos (keywordEach [] X.env))):=by rfl):EvD X O (.Call (.Attribute o m apos) [] [] pos) Q:=by
 obtain⟨rfl,rfl,rfl,rfl,rfl⟩:=c;exact qv D hr h b
end
section
variable {X:Cx}{O:Ev}{pos:Pos}{Q:Aa->Prop}
end
section
variable {X:Cx}{O:Ev}{e ix:Al}{pos:Pos}{rest:List An}{E:xr}
end
end L2
namespace SetW
open PySem PyProof.Rows
abbrev Up (xs:Array Nat):Prop:=xs.toList.Pairwise (·<·)
def Ris (t:SetTable):Prop:=t.plain=true->Up t.place
def Up.lt {xs:Array Nat}(h:Up xs){i j:Nat}(a:i<j)(b:j<xs.size):xs[i]'(yo9 a b)<xs[j]:=by
 have:=yi1.mp h i j (by simpa using yo9 a b) (by simpa using b) a;simpa using this
theorem rJ {xs:Array Nat}(h:Up xs)(j:Nat):∀f lo up,up-lo<=f->lo<=up->up<=xs.size->(∀i (hi:i<xs.size),i<lo->xs[i]<j)->(∀i (hi:i<xs.size),up<=i->j<=xs[i])->
  SetTable.below.go xs j f lo up<=xs.size/\(∀i (hi:i<xs.size),i<SetTable.below.go xs j f lo up->xs[i]<j)/\(∀i (hi:i<xs.size),SetTable.below.go xs j f lo up<=i->j<=xs[i])
 |0,lo,up,hf,hle,c,h1,h2=>by
  have e:lo=up:=by lia
  subst e;exact⟨c,h1,h2⟩
 |f+1,lo,up,hf,hle,c,h1,h2=>by
  unfold SetTable.below.go;by_cases b:lo<up
  .rw[if_pos b];have hm:(lo+up) / 2<xs.size:=by lia
   have k:xs.getD ((lo+up) / 2) j=xs[(lo+up) / 2]:=by simp[Array.getD,hm]
   dsimp only;rw[k];by_cases d:xs[(lo+up) / 2]<j
   .rw[if_pos d];refine rJ h j f ((lo+up) / 2+1) up (by lia) (by lia) c (λi a g=>?_) h2;rcases ye1 i ((lo+up) / 2)with z|z
    .exact yo9 (h.lt z hm) d
    .have e:i=(lo+up) / 2:=by lia
     subst e;exact d
   .rw[if_neg d];refine rJ h j f lo ((lo+up) / 2) (by lia) (by lia) (by lia) h1 (λi a g=>?_);rcases ye1 ((lo+up) / 2) i with z|z
    .have:=h.lt z a
     lia
    .have e:i=(lo+up) / 2:=by lia
     subst e
     lia
  .rw[if_neg b];have e:lo=up:=by lia
   subst e;exact⟨c,h1,h2⟩
def uF {xs:Array Nat}(h:Up xs)(j:Nat):SetTable.below xs j<=xs.size/\(∀i (hi:i<xs.size),i<SetTable.below xs j->xs[i]<j)/\(∀i (hi:i<xs.size),SetTable.below xs j<=i->j<=xs[i]):=
 rJ h j xs.size 0 xs.size (by lia) (z94 _) (z82 _) (λi _ z=>absurd z (yt7 _)) (λi hi z=>absurd hi (by lia))
def fP {xs:Array Nat}(h:Up xs){i:Nat}(hi:i<xs.size):SetTable.below xs xs[i]=i:=by
 obtain⟨a,b,c⟩:=uF h xs[i];rcases ye1 i (SetTable.below xs xs[i])with z|z
 .have:=b i hi z
  lia
 .rcases ye1 (SetTable.below xs xs[i]) i with y|y
  .have h1:=c _ (by lia) (z82 _);have h2:=h.lt y hi
   lia
  .lia
def kG {xs:Array Nat}(h:Up xs){i:Nat}(hi:i<xs.size):SetTable.below xs (xs[i]+1)=i+1:=by
 obtain⟨a,b,c⟩:=uF h (xs[i]+1);rcases ye1 i (SetTable.below xs (xs[i]+1))with z|z
 .rcases ye1 (i+1) (SetTable.below xs (xs[i]+1))with y|y
  .have h1:=b (i+1) (by lia) y;have h2:=h.lt (yd7 i) (show i+1<xs.size by lia)
   lia
  .lia
 .have:=c i hi z
  lia
def jB {xs:Array Nat}(h:Up xs):SetTable.below xs 0=0:=by
 obtain⟨a,b,c⟩:=uF h 0;rcases ye1 0 (SetTable.below xs 0)with z|z
 .have:=b 0 (by lia) z
  lia
 .lia
def Off (t:SetTable)(j:Nat):Prop:=t.place[SetTable.below t.place j]?≠some j
def Off.notin {t:SetTable}{j:Nat}(h:Off t j)(u:Up t.place):j∉t.place.toList:=λz=>by
 obtain⟨i,hi,e⟩:=yq0 z;have a:i<t.place.size:=by simpa using hi
 have b:t.place[i]=j:=by simpa using e
 have:=fP u a;rw[b]at this;exact h (by rw[this,yi3 a,b])
def lH {t:SetTable}{j:Nat}(h:∀i,t.slot j≠.live i):Off t j:=λz=>by
 refine h (SetTable.below t.place j) ?_;unfold SetTable.slot;simp only[z,beq_self_eq_true,yl9]
theorem tN {t:SetTable}{ha:Nat->Int}{c:Int}:∀f (p:SetTable.Probe) {j:Nat}{d:Option Nat},(∀x,p.dummy=some x->Off t x)->SetTable.probe.go t ha c f p=some (.empty j d)->Off t j/\∀x,d=some x->Off t x
 |0,p,j,d,_,e=>by cases e
 |f+1,p,j,d,h,e=>by
  unfold SetTable.probe.go at e;split at e
  .rename_i b;cases e;exact⟨lH (λi z=>by rw[b]at z;cases z),h⟩
  .rename_i b;refine tN f _ (λx a=>?_) e;have:∀q:SetTable.Probe,(t.advance q).dummy=q.dummy:=λq=>by unfold SetTable.advance;split<;>rfl
   rw[this]at a;cases a;exact lH λi z=>by rw[b]at z;cases z
  .rename_i i b;have:∀q:SetTable.Probe,(t.advance q).dummy=q.dummy:=λq=>by unfold SetTable.advance;split<;>rfl
   split at e
   .cases e
   .exact tN f _ (λx a=>by rw[this]at a;exact h x a) e
def zg3 {t:SetTable}{h:Int}{j:Nat}{b:Bool}(e:t.freeSlot h=some (j,b)):Off t j:=by
 unfold SetTable.freeSlot at e;split at e
 .rename_i f d c;cases e;obtain⟨h1,h2⟩:=tN _ _ (λx a=>by unfold SetTable.probeStart at a;cases a) c;cases d with
  |none=>exact h1
  |some x=>exact h2 x rfl
 .cases e
def fV {xs:Array Nat}{j:Nat}(h:Up xs)(k:j∉xs.toList):Up (SetTable.insertAt xs (SetTable.below xs j) j):=by
 obtain⟨a,b,c⟩:=uF h j;have e1:∀y∈xs.toList.take (SetTable.below xs j),y<j:=λy hy=>by
  obtain⟨i,hi,e⟩:=yq0 hy;rw[yc3]at hi;rw[List.getElem_take]at e;have:=b i (by simp at hi;lia) (by lia);simp at e
  lia
 have f:∀y∈xs.toList.drop (SetTable.below xs j),j<y:=λy hy=>by
  have hne:y≠j:=λz=>k (z▸yg3 hy);obtain⟨i,hi,e⟩:=yq0 hy;rw[yj9]at hi;rw[List.getElem_drop]at e;have g:i<xs.size-SetTable.below xs j:=by simpa using hi
  have:=c (SetTable.below xs j+i) (by lia) (by lia);simp at e
  lia
 unfold Up;rw[SetTable.toList_insertAt,yb7];refine⟨h.sublist (yk9 _ _),ym6.mpr ⟨f,h.sublist (yl0 _ _)⟩,λy hy z d=>?_⟩;rcases z84.mp d with rfl|d
 .exact e1 y hy
 .exact yo9 (e1 y hy) (f z d)
def zv2 {t:SetTable}(es:Array (Int×Ab))(h:Int)(x:Ab)(r:Ris t):Ris (layNew t es h x).2.1/\(layNew t es h x).2.1.led=t.led:=by
 unfold layNew;split
 .rename_i j b hf;dsimp only;unfold SetTable.orStandIn;split
  .exact⟨λa=>fV (r a) ((zg3 hf).notin (r a)),rfl⟩
  .exact⟨λa=>Bool.noConfusion (a),rfl⟩
 .exact⟨λa=>Bool.noConfusion (a),rfl⟩
def fQ {t:SetTable}(es:Array (Int×Ab))(n:Nat):Ris (relayAll t es n).2.1/\(relayAll t es n).2.1.led=t.led:=by
 unfold relayAll;split
 .rename_i t' order hr;unfold SetTable.relaid SetTable.laid at hr;cases ho:SetTable.layClean (SetTable.sizeAbove n-1) (es.map (·.1))with
  |none=>rw[ho]at hr;cases hr
  |some owner=>
   rw[ho]at hr;cases hr;dsimp only;split
   .refine⟨λ_=>?_,rfl⟩;show(List.toArray _).toList.Pairwise (·<·);rw[List.toList_toArray];have key:∀(l:List Nat),l.Pairwise (·<·)->((l.filterMap λj=>(owner.getD j none).map λy=>(j,y)).map (·.1)).Pairwise (·<·):=by
     intro l d;rw[List.map_filterMap];refine List.Pairwise.sublist ?_ d;have:∀l:List Nat,(l.filterMap λj=>Option.map (λx:Nat×Nat=>x.1) ((owner.getD j none).map λy=>(j,y))).Sublist l:=by
      intro l
      induction l with
      |nil=>exact .slnil
      |cons a l c=>
       rw[yn5];cases owner.getD a none with
       |none=>exact c.cons _
       |some y=>exact c.cons_cons _
     exact this l
    exact key _ List.pairwise_lt_range
   .exact⟨λb=>Bool.noConfusion (b),rfl⟩
 .exact⟨λb=>Bool.noConfusion (b),rfl⟩
section
variable {prog:Ag}{w:Ak}{A:Am}{E:Ab->Ac->Prop}{s:Ac}
structure WkO (prog:Ag)(w:Ak)(o:Obj)(S:Int->Bool)(n:Nat)(b:Bool)(es:Array (Int×Ab))(ep:Nat)(t:SetTable):Prop where
 ex:o.ExactSet
 dt:o.data=.set es ep t
 el:ElemsOf (intKind prog w) es.toList
 mem:∀k,S k=true↔∃e∈es.toList,(intKind prog w).is k e.2=true
 sb:es.size<scanBound
 fit:t.fits es.size=true
 sz:es.size=n
 led:t.led=b
 ris:Ris t
def Wk (prog:Ag)(w:Ak)(h:Ao)(a:Ad)(S:Int->Bool)(n:Nat)(b:Bool):Prop:=∃o es ep t,h.get? a=some o/\WkO prog w o S n b es ep t
def Wk.keep {h h':Ao}{a:Ad}{S:Int->Bool}{n:Nat}{b:Bool}(k:∀o,h.get? a=some o->h'.get? a=some o)(x:Wk prog w h a S n b):Wk prog w h' a S n b:=by
 obtain⟨o,es,ep,t,c,r⟩:=x;exact⟨o,es,ep,t,k o c,r⟩
def Wk.congr {h:Ao}{a:Ad}{S c:Int->Bool}{n d:Nat}{b:Bool}(x:Wk prog w h a S n b)(e:∀k,S k=c k)(f:n=d):Wk prog w h a c d b:=by
 have:S=c:=funext e;subst this f;exact x
def WkO.put {h:Ao}{a:Ad}{o:Obj}{S d:Int->Bool}{n:Nat}{b f:Bool}{es c:Array (Int×Ab)}{ep:Nat}{t t':SetTable}(g:h.get? a=some o)(x:WkO prog w o S n b es ep t)
  (el:ElemsOf (intKind prog w) c.toList) (mem:∀k,d k=true↔∃e∈c.toList,(intKind prog w).is k e.2=true) (sb:c.size<scanBound) (fit:t'.fits c.size=true) (led:t'.led=f) (ris:Ris t'):
  ∃o',(h.update a (Obj.putSet c t')).get? a=some o'/\WkO prog w o' d c.size f c (ep+1) t':=by
 refine⟨{o with data:=.set c (ep+1) t'},?_,x.ex,rfl,el,mem,sb,fit,rfl,led,ris⟩;have:=yi4 (Obj.putSet c t') g (by rw[putSet_of c t' x.dt];rfl)
 rwa [putSet_of c t' x.dt]at this
def iw {g:Bool->Sem Unit}(hg:∀(d:Bool) (i:Ac) (B:Unit->Ac->Prop),B () i->Aj (Ah prog w) A (g d) B E i){a:Ad}{o:Obj}{S z:Int->Bool}{n:Nat}{b:Bool}{es c:Array (Int×Ab)}{ep:Nat}{t f:SetTable}
  (v:s.heap.get? a=some o) (x:WkO prog w o S n b es ep t) (el:ElemsOf (intKind prog w) c.toList) (mem:∀k,z k=true↔∃e∈c.toList,(intKind prog w).is k e.2=true) (sb:c.size<scanBound) (fit:f.fits c.size=true) (led:f.led=b) (ris:Ris f)
  {D:Bool} {R:Option Bool->Ac->Prop} (h:∀h',Heap.SameBut a s.heap h'->Wk prog w h' a z c.size b->R (some true) {s with heap:=h'}):
  Aj (Ah prog w) A (storeSet a c f >>= λ_=>if(!D&&f.tooFull)=true then(g (relayAll f c (SetTable.grown c.size)).2.2 >>= λ_=>storeSet a (relayAll f c (SetTable.grown c.size)).1 (relayAll f c (SetTable.grown c.size)).2.1 >>= λ_=>pure (some true))else pure (some true)) R E s:=by
 refine z76 (wpAny_storeSet_of v x.dt ?_ (yr9 sb));obtain⟨C,j,r⟩:=x.put v el mem sb fit led ris;have same:=yl7 s.heap a (Obj.putSet c f);split
 .obtain⟨p,m⟩:=fQ c (SetTable.grown c.size);have pm:=relayAll_perm f c (SetTable.grown c.size);have ft:=relayAll_fits f c (SetTable.grown c.size);generalize relayAll f c (SetTable.grown c.size)=Z at p m pm ft;obtain⟨l,t3,G⟩:=Z;dsimp only at p m pm ft ⊢;have sz:l.size=c.size:=by rw[<-yf8,pm.length_eq,yf8]
  refine z76 (hg _ _ _ (z76 (wpAny_storeSet_of j r.dt ?_ (yr9 (by lia)))));obtain⟨F,u,y⟩:=r.put j (el.perm pm) (λk=>(mem k).trans ⟨λ⟨e,he,q⟩=>⟨e,pm.mem_iff.mpr he,q⟩,λ⟨e,he,q⟩=>⟨e,pm.mem_iff.mp he,q⟩⟩) (by lia) ft (m.trans led) p;rw[sz]at y;exact z80 (h _ (same.trans (yl7 _ a _)) ⟨F,l,_,t3,u,y⟩)
 .exact z80 (h _ same ⟨C,c,_,f,j,r⟩)
theorem zG6 {a:Ad}{S:Int->Bool}{n:Nat}{b:Bool}{k:Int}{i:Tok}{Q:Bool->Ac->Prop}(x:Wk prog w s.heap a S n b)(F:n+1<scanBound)
  (h:∀h',Heap.SameBut a s.heap h'->Wk prog w h' a (λj=>S j||decide (j=k)) (if S k then n else n+1) b->∀r,Q r {s with heap:=h'}):
  Aj (Ah prog w) A (setAddHashed a (.int k i) ((intKind prog w).hash k)) Q E s:=by
 obtain⟨o,es,ep,t,p,x⟩:=x;have f:(intKind prog w).is k (.int k i)=true:=intKind_is _ _ _ _;have u:(Value.int k i).scannable=true:=rfl;unfold setAddHashed setAddHashedIn;refine yd5 (z76 (yl1 p x.dt x.fit ?_));dsimp only;rw[byScan_of u x.sb x.el,if_pos rfl];unfold setAddByScan;refine z76 (z76 (yi8 (z76 (wpAny_setScan_of f p x.dt x.fit x.el ?_))));cases hr:List.findIdx? (λe=>(intKind prog w).is k e.2) es.toList with
 |some j=>
  obtain⟨M,G,_⟩:=List.findIdx?_eq_some_iff_getElem.mp hr;have g:=(x.mem k).mpr ⟨_,ye9 M,G⟩;refine z80 (z80 ?_);have q:=h s.heap (Heap.SameBut.refl a s.heap) ⟨o,es,ep,t,p,x.ex,x.dt,x.el,λK=>by
   rw[yk6,yg6,<-x.mem K];exact⟨λz=>z.elim id λe=>e▸g,.inl⟩,x.sb,x.fit,by rw[g];exact x.sz,x.led,x.ris⟩
  cases s;exact q _
 |none=>
  have g:S k=false:=by
   cases hk:S k with
   |false=>rfl
   |true=>
    obtain⟨e,he,I⟩:=(x.mem k).mp hk;have:=List.findIdx?_eq_none_iff.mp hr e he;rw[I]at this;cases this
  obtain⟨D,nl⟩:=zv2 es ((intKind prog w).hash k) (.int k i) x.ris;have pm:=layNew_perm t es ((intKind prog w).hash k) (.int k i);have ft:=layNew_fits t es ((intKind prog w).hash k) (.int k i);dsimp only;generalize layNew t es ((intKind prog w).hash k) (.int k i)=L at D nl pm ft;obtain⟨m,t1,O,N⟩:=L;dsimp only at D nl pm ft ⊢;rw[yl2]at pm;have H:m.size=n+1:=by rw[<-yf8,pm.length_eq,z95,yf8,x.sz];rfl
  have v:=(x.el.push f u).perm pm;have l:=mem_push_iff f x.mem pm;have fin:∀h',Heap.SameBut a s.heap h'->Wk prog w h' a (λj=>S j||decide (j=k)) m.size b->∀r,Q r {s with heap:=h'}:=λh' sb y=>by
   have:=h h' sb;rw[g]at this;exact this (y.congr (λ_=>rfl) H)
  refine z76 ?_;have J:∀d c C,C () c->Aj (Ah prog w) A (match d with|true=>rule "set.scan.the-table-gave-way"|false=>pure ()) C E c:=λd c C hq=>by
   cases d
   .exact z80 hq
   .exact yi8 hq
  refine J _ _ _ ?_;have B:m.size<scanBound:=by lia
  split
  .rw[show hashByValue 8 (Value.int k i)=pure true from rfl];refine z76 (z80 ?_);simp only[yl9];refine iw ?_ p x v l B ft (nl.trans x.led) D λh' sb y=>z80 (fin h' sb y _);intro d c C hq;cases d<;>first|exact z80 hq|exact yi8 hq
  .refine z76 (z80 ?_);simp only[yl9];refine iw ?_ p x v l B ft (nl.trans x.led) D λh' sb y=>z80 (fin h' sb y _);intro d c C hq;cases d<;>first|exact z80 hq|exact yi8 hq
end
noncomputable def xt (w:Ak):Bool:=!w.params.followText "set-order"
noncomputable abbrev su (w:Ak):Obj:={cls:=.type "set",dict:=none,data:=.set #[] 0 (.fresh 0 0 (xt w))}
def zo8 {prog:Ag}{w:Ak}:WkO prog w (su w) (λ_=>false) 0 (xt w) #[] 0 (.fresh 0 0 (xt w)):=
 ⟨⟨rfl,rfl,rfl⟩,rfl,λe he=>by simp at he,λk=>by simp,by decide,by rfl,rfl,rfl,λ_=>.nil⟩
section
variable {prog:Ag}{w:Ak}{A:Am}{E:Ab->Ac->Prop}{s:Ac}
def zN2 (v:Ab){Q₁:Ab->Ac->Prop}(h:Q₁ (.ref s.heap.objs.size) {s with heap:=s.heap.push (su w)}):codeAny (Ah prog w) A (.call (.builtin "set.__new__") ⟨[.type "set",v],[]⟩) (wants Q₁ E) s:=by
 refine codeAny_of_tree ?_;refine z76 (yn1 (F.newCall_set_1 v) (z80 ⟨yh5 F.plain_set_new _,yh2 F.entry_set_new ?_⟩));rw[yf2 F.plain_set_new _];unfold Builtin.«set.__new__» Builtin.Frozenset.newClass;have a:=sub_set_self;obtain⟨b,g,d,c,os⟩:=s;dsimp only
 wp_walk
 refine ym1 (z80 ?_);simp only[newObj];exact z76 (wpAny_alloc (z80 (z80 h)))
end
section
variable {prog:Ag}{w:Ak}{A:Am}{R:Result->Ac->Prop}{I:Ad}{fp wr:List Ad}{G:Array GenState->Array GenState->Prop}{n:Nat}{P:Nat->Ab->Prop}{St:Nat->Ac->Prop}{b:Bool}
theorem zx9 (W:WalksS prog w A.in1 I fp wr G n P St)(S:Ad)(y:S∉fp)(val:Nat->Int)(u:∀i v,P i v->∃t,v=.int (val i) t)(hb:n+1<scanBound):
  ∀(k i:Nat) (s:Ac),n-i=k->i<=n->St i s->Wk prog w s.heap S (λj=>(firstMet val i).any (· == j)) (firstMet val i).length b->
   (∀s',Moved (S::wr) G s s'->Wk prog w s'.heap S (λj=>(firstMet val n).any (· == j)) (firstMet val n).length b->R (.ok (.ret .none)) s')->
   codeAny (Ah prog w) A (.builtin "set.update.loop" ⟨[.ref S,.ref I],[]⟩) R s:=by
 have p:S∉wr:=λh=>y (W.sub _ h);have a:∀c∈wr,c∈S::wr:=λc m=>z87 _ m;intro k
 induction k with
 |zero=>
  intro i s hk hi d x C;have e:i=n:=by lia
  subst e;refine yh2 F.entry_set_update_loop ?_;rw[yf2 F.plain_set_update_loop _];exact z76 (W.done s _ _ d λs' hm=>z80 (C s' (hm.mono a) (x.keep λo B=>hm.heap S _ p B)))
 |succ k L=>
  intro i s hk hi d x C;have g:i<n:=by lia
  refine yh2 F.entry_set_update_loop ?_;rw[yf2 F.plain_set_update_loop _];refine z76 (W.item i s _ _ g d λv s' E l hm=>?_);obtain⟨t,rfl⟩:=u i v E;refine z76 (yd5 ?_);unfold setAdd;refine yd5 (z76 ((intKind prog w).pyHash (intKind_is _ _ _ _) ?_));have room:(firstMet val i).length+1<scanBound:=by have:=firstMet_length_le val i;lia
  refine zG6 (x.keep λo B=>hm.heap S _ p B) room λh' q J r=>?_;have K:Wk prog w h' S (λj=>(firstMet val (i+1)).any (· == j)) (firstMet val (i+1)).length b:=J.congr (λj=>by rw[firstMet_succ,step_any]) (by rw[firstMet_succ,step_length]);refine z80 ⟨yh5 F.plain_set_update_loop _,L (i+1) _ (by lia) g (W.frame _ s' _ _ l (yh7 _) λc m o e=>?_) K λD f H=>?_⟩
  .rw[q.2 c λz=>y (by rw[<-z];exact m)];exact e
  .refine C D (Moved.trans W.gtrans ((hm.mono a).then_heap (yh7 _) λc o m e=>?_) f) H;rw[q.2 c λz=>m (by rw[z];exact z89)];exact e
end
section
variable {prog:Ag}{w:Ak}{A:Am}{E:Ab->Ac->Prop}{s:Ac}
theorem zI5 {l:Ad}{a:Array Ab}{ns:List Int}{Q:Ab->Ac->Prop}(T:A.handled=none)(V:s.heap.IsList l a)(hi:IntsAre a.toList ns)(hb:a.size+1<scanBound)
  (h:∀(h':Ao) (B:Nat),Wk prog w h' s.heap.objs.size (λj=>(firstMet (λi=>ns.getD i 0) a.size).any (· == j)) (firstMet (λi=>ns.getD i 0) a.size).length (xt w)->
   (∀c o,c<s.heap.objs.size->s.heap.get? c=some o->h'.get? c=some o)->Q (.ref s.heap.objs.size) {s with heap:=h',toks:=B}):Aj (Ah prog w) A (call (.type "set") [.ref l]) Q E s:=by
 obtain⟨c,tl,N⟩:=yn4.mro;have I:=yn4.made;have P:=yn4.sub;refine wpAny_call (codeAny_of_tree ?_);show Aj _ _ (callAny (.type "set") _) _ _ _;refine z80 ⟨Code.quiet_builtin _ (by decide +kernel),yh2 F.entry_type_call ?_⟩;rw[Around.under_plain (weight_type_call_type "set" [.ref l] []) rfl];have h1:=yn4.notType;have h2:=yn4.canCreate;have X:=F.typeCall_set_1 (.ref l)
 repeat (any_goals (first|assumption|wp_step))
 refine yp0 (zN2 (.ref l) (E:=E) (Q₁:=λob g=>ob=.ref s.heap.objs.size/\g={s with heap:=s.heap.push (su w)}) ⟨rfl,rfl⟩) λr g hr=>?_;cases r with
 |error e=>exact hr
 |ok fl=>
  cases fl with
  |ret ob=>
   obtain⟨rfl,rfl⟩:=hr;have O:(s.heap.push (su w)).get? s.heap.objs.size=some (su w):=z86 _ rfl;have hT:Shared.TypeIs {s with heap:=s.heap.push (su w)} (.ref s.heap.objs.size) "set":=⟨_,O,rfl⟩;have U:=yn4.init.lookup;have hbi:=yn4.init.bind (.ref s.heap.objs.size)
   repeat (any_goals (first|assumption|wp_step))
   refine yp0 (codeAny_call_builtin (R:=wants (λr f=>r=.none/\∃h' B,f={s with heap:=h',toks:=B}/\Wk prog w h' s.heap.objs.size (λj=>(firstMet (λi=>ns.getD i 0) a.size).any (· == j)) (firstMet (λi=>ns.getD i 0) a.size).length (xt w)/\
     (∀c o,c<s.heap.objs.size->s.heap.get? c=some o->h'.get? c=some o)) E) yn4.init.plain F.entry_set_init (check_set_init_1 hT ?_)) λp f b=>?_
   .obtain⟨ol,t,hcl,nl,n⟩:=V;obtain⟨M,k,G,d⟩:=ol;simp only at hcl n;subst hcl n;have q:(s.heap.push (su w)).get? l=some {cls:=.type "list",dict:=k,data:=.seq a nl,slots:=d}:=z79 _ t;have K:=F.sub_list_set;have L:=F.sub_list_frozenset;have hne:(Value.type "list" == Value.type "dict")=false:=by decide
    have z:(s.heap.push (su w)).IsList l a:=⟨_,q,rfl,nl,rfl⟩;unfold Builtin.«set.__init__» noKeywords Builtin.Frozenset.updateFrom;generalize D:pyIter=PI
    wp_walk
    subst D;refine yh9 z (z76 (wpAny_runValue ?_));have y:l<s.heap.objs.size:=z90 t;have sz:(s.heap.push (su w)).objs.size=s.heap.objs.size+1:=yf4 _ _;have u:l≠(s.heap.push (su w)).objs.size:=by rw[sz];exact z96 (yg5 y)
    have J:s.heap.objs.size∉[(s.heap.push (su w)).objs.size,l]:=by
     rw[sz];simp only[z84,ya5,yc8,not_or];exact⟨z96 (yd7 _),yk4 y⟩
    refine zx9 ((Walks.list (by simp[T]) _ l u a).toS) s.heap.objs.size J (λi=>ns.getD i 0) (λi v hv=>IntsAre.int_at hi i v (by rw[yk2];exact hv)) hb (a.size-0) 0 _ (by lia) (z94 _)
     ⟨⟨_,z86 _ rfl,rfl,rfl⟩,z.push _⟩ ⟨su w,_,_,_,z79 _ O,zo8⟩ λs' hm x=>?_
    obtain⟨h',W,d',H,C⟩:=s';have Z:W=s.gens:=hm.gens;have Y:d'=s.drawn:=hm.drawn;have eo:C=s.os:=hm.os;subst Z Y eo;refine z80 (z80 ⟨rfl,h',H,rfl,x,λc o S e=>?_⟩);refine hm.heap c o ?_ (z79 _ (z79 _ e));rw[sz];simp only[z84,ya5,yc8,not_or];exact⟨z96 S,z96 (yg5 S)⟩
   .cases p with
    |error e=>exact b
    |ok m=>
     cases m with
     |ret r=>
      obtain⟨rfl,h',B,rfl,x,hk⟩:=b
      repeat (any_goals (first|assumption|wp_step))
      exact h _ _ x hk
     |_=>exact b.elim
  |_=>exact hr.elim
end
theorem uq {O:Type}:∀(l:List O) (i:Nat) (x:O),l[i]?=some x->(x::l.eraseIdx i).Perm l
 |[],i,x,h=>by simp at h
 |a::l,0,x,h=>by simp at h;subst h;exact .refl _
 |a::l,i+1,x,h=>by
  have h':l[i]?=some x:=by simpa using h
  exact(List.Perm.swap a x (l.eraseIdx i)).trans ((uq l i x h').cons a)
theorem hG {O:Type}(next:Nat->Nat):∀(f k:Nat) (left:List O) (out:Array O),left.length=f->(pickOrder.go next f k left out).toList.Perm (out.toList++left)
 |0,k,left,out,e=>by
  rw[yn8.mp e,ye3];exact .refl _
 |f+1,k,left,out,e=>by
  unfold pickOrder.go;have a:next k % left.length<left.length:=Nat.mod_lt _ (by lia)
  rw[z78 a];dsimp only;refine(hG next f (k+1) _ _ (by rw[List.length_eraseIdx];split<;>lia)).trans ?_;rw[yl2,yb1];exact yd9 _ (uq left _ _ (z78 a))
def tj {O:Type}(next:Nat->Nat)(xs:Array O):(pickOrder next xs).toList.Perm xs.toList:=by
 have:=hG next xs.size 0 xs.toList #[] (by simp)
 simpa[pickOrder]using this
section
variable {prog:Ag}{w:Ak}{A:Am}{E:Ab->Ac->Prop}
def fh {M:Model}{src:Source}{n:Nat}{s:Ac}{Q:Nat->Ac->Prop}(hn:n≠0)(h:∀i d,i<n->Q i {s with drawn:=d}):Aj M A (choose src n) Q E s:=λ_ _ _=>⟨hn,h _ _ (Nat.mod_lt _ (Nat.pos_of_ne_zero hn))⟩
theorem iK {O:Type}:∀(n:Nat) (xs:List O) {s:Ac}{Q:List O->Ac->Prop},xs.length=n->(∀ys d,ys.Perm xs->Q ys {s with drawn:=d})->Aj (Ah prog w) A (drawOrder n xs) Q E s
 |0,xs,s,Q,e,h=>by
  rw[yn8.mp e]at h;cases s;exact z80 (h [] _ (.refl _))
 |n+1,[],s,Q,e,h=>by cases e
 |n+1,x::xs,s,Q,e,h=>by
  unfold drawOrder;refine z76 (fh (by simp) λi b a=>?_);rw[z78 a];dsimp only;refine z76 (iK n _ (by rw[List.length_eraseIdx,if_pos a];simp at e ⊢;lia) λys d hy=>z80 ?_);exact h _ d ((hy.cons _).trans (uq _ _ _ (z78 a)))
end
def yA :Slot "set_iterator" "__next__" "set_iterator.__next__":=
 .of (owner:="set_iterator") (n:="__next__") (by rw[yo2,yk3];kernel_rfl) (by decide +kernel) (by decide +kernel) (by decide +kernel) (by first|exact .inl (by decide +kernel)|exact .inr (by decide +kernel)) (by rw[isSubtype_type];kernel_rfl)
def vE :entryFor table "set_iterator.__next__"=some Builtin.«set_iterator.__next__»:=entryFor_of_fast (by kernel_rfl)
def uE (a:Ab):argsOk "set_iterator.__next__" ⟨[a],[]⟩:=by unfold argsOk;kernel_rfl
def dh :entryFor table "set.__iter__"=some Builtin.«frozenset.__iter__»:=entryFor_alias (id':="frozenset.__iter__") (by kernel_rfl) rfl (by decide +kernel) (by kernel_rfl)
noncomputable abbrev itO (f:Ab)(i:Nat)(a:Ad)(n ep:Nat):Obj:={cls:=.type "set_iterator",data:=.fields #[f,.int i 0,.ref a,.int n 0,.int ep 0]}
section
variable {prog:Ag}{w:Ak}{A:Am}{E:Ab->Ac->Prop}{s:Ac}{I a:Ad}{i n ep:Nat}{o:Obj}{es:Array (Int×Ab)}{S:Int->Bool}{m:Nat}{b:Bool}{t:SetTable}{Q:Option Ab->Ac->Prop}
def zn3 {sl c:Nat}{v:Ab}(e:s.heap.get? I=some (itO (.int sl 0) i a n ep))(d:s.heap.get? a=some o)(x:WkO prog w o S m b es ep t)(hn:es.size=n)
  (j:∀(h:Am) (E:Ab->Ac->Prop) (f:Option (Ab×Nat)->Ac->Prop),f (some (v,c)) s->Aj (Ah prog w) h (setNext a sl i ep) f E s)
  (l:∀h',h'.get? I=some (itO (.int c 0) (i+1) a n ep)->Heap.SameBut I s.heap h'->Q (some v) {s with heap:=h'}):Aj (Ah prog w) A (pyNext (.ref I)) Q E s:=by
 have g:s.TypeIs (.ref I) "set_iterator":=⟨_,e,rfl⟩;unfold pyNext;refine z76 (yl4 (yh4 g yA (yg4 yA g vE ?_ (uE _))));unfold Builtin.«set_iterator.__next__»;refine z76 (yn1 (by rfl) (z76 (wpAny_fieldsOf e rfl (z76 (yn6 d x.dt x.fit ?_)))));rw[hn];refine yb9 (λz=>absurd z (by simp)) (λ_=>z76 (j _ _ _ ?_));refine z76 (yg2 e (by simp) λh1 e1 s1=>z76 (yg2 e1 (by simp) λh2 k s2=>?_));exact z80 ⟨v,rfl,z80 (l h2 k (s1.trans s2))⟩
def zH9 {sl:Nat}(g:A.handled=none)(d:s.heap.get? I=some (itO (.int sl 0) i a n ep))(c:s.heap.get? a=some o)(x:WkO prog w o S m b es ep t)(hn:es.size=n)
  (j:∀(h:Am) (E:Ab->Ac->Prop) (e:Option (Ab×Nat)->Ac->Prop),e none s->Aj (Ah prog w) h (setNext a sl i ep) e E s)
  (k:∀h',Heap.ExtBut I s.heap h'->Q none {s with heap:=h'}):Aj (Ah prog w) A (pyNext (.ref I)) Q E s:=by
 have f:s.TypeIs (.ref I) "set_iterator":=⟨_,d,rfl⟩;unfold pyNext;refine z76 (yl4 (yh4 f yA (yg4 yA f vE ?_ (uE _))));unfold Builtin.«set_iterator.__next__»;refine z76 (yn1 (by rfl) (z76 (wpAny_fieldsOf d rfl (z76 (yn6 c x.dt x.fit ?_)))));rw[hn];refine yb9 (λz=>absurd z (by simp)) (λ_=>z76 (j _ _ _ ?_));refine z76 (yg2 d (by simp) λh1 e1 s1=>z76 ?_);simp only[newExc,newTuple];refine z76 (yi0 ?_ (by size_fits));refine z76 (yn1 (by first|rfl|(simp only[firstArgMember];rfl)) ?_);refine yi0 ?_ (by size_fits);simp only[raiseNew];refine z76 (wpAny_handled ?_);rw[show A.in1.handled=none from g];refine z76 (z80 (wpAny_throw ?_));refine z76 (yp3 ⟨_,z86 _ rfl,rfl⟩ isSubtype_stop ?_);exact z80 (k _ ((s1.extBut.push _).push _))
def ak {tp:Ad}{ot:Obj}{places:Array Ab}{c:Nat}{k:Nat}{u:Tok}{e:Int×Ab}(h:s.heap.get? I=some (itO (.ref tp) i a n ep))(f:s.heap.get? tp=some ot)(g:ot.data=.seq places c)(d:s.heap.get? a=some o)(x:WkO prog w o S m b es ep t)(hn:es.size=n)
  (l:places[i]?=some (.int k u)) (he:es[k]?=some e)
  (q:∀h',h'.get? I=some (itO (.ref tp) (i+1) a n ep)->Heap.SameBut I s.heap h'->Q (some e.2) {s with heap:=h'}):Aj (Ah prog w) A (pyNext (.ref I)) Q E s:=by
 have j:s.TypeIs (.ref I) "set_iterator":=⟨_,h,rfl⟩;unfold pyNext;refine z76 (yl4 (yh4 j yA (yg4 yA j vE ?_ (uE _))));unfold Builtin.«set_iterator.__next__»;refine z76 (yn1 (by rfl) (z76 (wpAny_fieldsOf h rfl (z76 (yn6 d x.dt x.fit ?_)))));rw[hn];refine yb9 (λz=>absurd z (by simp)) (λ_=>z76 (yf5 f g ?_));dsimp only;rw[yf0,l];dsimp only;unfold setNextDrawn;refine z76 (z76 (yl1 d x.dt x.fit ?_));dsimp only;rw[yf0,yf0];refine yb9 (λz=>absurd z (by simp)) (λ_=>?_);rw[he];refine z80 ?_;refine z76 (yg2 h (by simp) λh2 p s2=>?_);exact z80 ⟨e.2,rfl,z80 (q h2 p s2)⟩
def zu8 {tp:Ad}{ot:Obj}{places:Array Ab}{c:Nat}(j:A.handled=none)(g:s.heap.get? I=some (itO (.ref tp) i a n ep))(d:s.heap.get? tp=some ot)(e:ot.data=.seq places c)(f:s.heap.get? a=some o)(x:WkO prog w o S m b es ep t)(hn:es.size=n)
  (l:places[i]?=none) (p:∀h',Heap.ExtBut I s.heap h'->Q none {s with heap:=h'}):Aj (Ah prog w) A (pyNext (.ref I)) Q E s:=by
 have h:s.TypeIs (.ref I) "set_iterator":=⟨_,g,rfl⟩;unfold pyNext;refine z76 (yl4 (yh4 h yA (yg4 yA h vE ?_ (uE _))));unfold Builtin.«set_iterator.__next__»;refine z76 (yn1 (by rfl) (z76 (wpAny_fieldsOf g rfl (z76 (yn6 f x.dt x.fit ?_)))));rw[hn];refine yb9 (λz=>absurd z (by simp)) (λ_=>z76 (yf5 d e ?_));dsimp only;rw[yf0,l];refine z76 (yg2 g (by simp) λh0 k s0=>z76 (yg2 k (by simp) λh1 e1 s1=>?_));refine z76 ?_;simp only[newExc,newTuple];refine z76 (yi0 ?_ (by size_fits));refine z76 (yn1 (by first|rfl|(simp only[firstArgMember];rfl)) ?_);refine yi0 ?_ (by size_fits);simp only[raiseNew];refine z76 (wpAny_handled ?_);rw[show A.in1.handled=none from j];refine z76 (z80 (wpAny_throw ?_));refine z76 (yp3 ⟨_,z86 _ rfl,rfl⟩ isSubtype_stop ?_);exact z80 (p _ (((s0.trans s1).extBut.push _).push _))
def ju (c:s.heap.get? a=some o)(x:WkO prog w o S m b es ep t)(f:xt w=true)(hb:b=true)(g:(!t.plain&&decide (es.size > 1))=false)(hi:i<es.size)(e:Am)(E:Ab->Ac->Prop)(d:Option (Ab×Nat)->Ac->Prop){sl:Nat}(h:SetTable.below t.place sl=i)
  (q:∀(k:i<t.place.size),d (some (es[i].2,t.place[i]+1)) s):Aj (Ah prog w) e (setNext a sl i ep) d E s:=by
 have j:w.params.followText "set-order"=false:=by simpa[xt]using f
 have hpl:t.place.size=es.size:=by
  have:=x.fit;simp only[SetTable.fits,yc5,yp2]at this;exact this.1
 unfold setNext;refine z76 (yl1 c x.dt x.fit ?_);dsimp only;unfold setsByText;refine z76 (z76 (ym1 (z80 ?_)));refine yb9 (λz=>absurd z (by show ¬(w.params.followText "set-order"=true);rw[j];decide)) (λ_=>?_);refine yb9 (λz=>absurd (show(!t.plain&&decide (es.size > 1))=true from z) (by rw[g];decide)) (λ_=>?_);refine z76 ((?_:Aj (Ah prog w) e (if(!t.led&&!es.isEmpty)=true then unsupported "set:maker-not-led" else pure ()) _ E s));rw[(x.led.trans hb)];refine z80 ?_;rw[h,yi3 hi,yi3 (show i<t.place.size by lia)];exact z80 (q (by lia))
def eQ (c:s.heap.get? a=some o)(x:WkO prog w o S m b es ep t)(f:xt w=true)(hb:b=true)(g:(!t.plain&&decide (es.size > 1))=false)(e:Am)(E:Ab->Ac->Prop)(d:Option (Ab×Nat)->Ac->Prop){sl:Nat}(h:SetTable.below t.place sl=es.size)
  (q:d none s):Aj (Ah prog w) e (setNext a sl i ep) d E s:=by
 have j:w.params.followText "set-order"=false:=by simpa[xt]using f
 unfold setNext;refine z76 (yl1 c x.dt x.fit ?_);dsimp only;unfold setsByText;refine z76 (z76 (ym1 (z80 ?_)));refine yb9 (λz=>absurd z (by show ¬(w.params.followText "set-order"=true);rw[j];decide)) (λ_=>?_);refine yb9 (λz=>absurd (show(!t.plain&&decide (es.size > 1))=true from z) (by rw[g];decide)) (λ_=>?_);refine z76 ((?_:Aj (Ah prog w) e (if(!t.led&&!es.isEmpty)=true then unsupported "set:maker-not-led" else pure ()) _ E s));rw[(x.led.trans hb)];refine z80 ?_;rw[h,Array.getElem?_eq_none (z82 _)];exact z80 q
def pM (c:s.heap.get? a=some o)(x:WkO prog w o S m b es ep t)(g:xt w=false)(h:Am)(E:Ab->Ac->Prop)(f:Option (Ab×Nat)->Ac->Prop){sl:Nat}
  (q:f (((pickOrder (w.params.setOrder a ep) es)[i]?).map λe=>(e.2,sl)) s):Aj (Ah prog w) h (setNext a sl i ep) f E s:=by
 have d:w.params.followText "set-order"=true:=by simpa[xt]using g
 unfold setNext;refine z76 (yl1 c x.dt x.fit ?_);dsimp only;unfold setsByText;refine z76 (z76 (ym1 (z80 (yb9 (λ_=>?_) (λz=>absurd d z)))));refine yb9 (λz=>absurd z (by simp)) (λ_=>?_);unfold setWalk;refine z76 (z76 (yl1 c x.dt x.fit ?_));dsimp only;unfold setsByText;refine z76 (z76 (ym1 (z80 (yb9 (λ_=>?_) (λz=>absurd d z)))));exact z76 (ym1 (z80 (z80 q)))
end
def mP :Slot "set_iterator" "__iter__" "set_iterator.__iter__":=
 .of (owner:="set_iterator") (n:="__iter__") (by rw[yo2,yk3];kernel_rfl) (by decide +kernel) (by decide +kernel) (by decide +kernel) (by first|exact .inl (by decide +kernel)|exact .inr (by decide +kernel)) (by rw[isSubtype_type];kernel_rfl)
def fO :entryFor table "set_iterator.__iter__"=some Builtin.«dict_keyiterator.__iter__»:=entryFor_alias (id':="dict_keyiterator.__iter__") (by kernel_rfl) rfl (by decide +kernel) (by kernel_rfl)
def bE (a:Ab):argsOk "set_iterator.__iter__" ⟨[a],[]⟩:=by unfold argsOk;kernel_rfl
section
variable {prog:Ag}{w:Ak}{A:Am}{I a:Ad}{n ep:Nat}{o:Obj}{es:Array (Int×Ab)}{S:Int->Bool}{m:Nat}{b:Bool}{t:SetTable}{ord:List Ab}
def hJ {E:Ab->Ac->Prop}{s:Ac}{f:Ab}{i:Nat}{Q:Ab->Ac->Prop}(d:s.heap.get? I=some (itO f i a n ep))(q:Q (.ref I) s):Aj (Ah prog w) A (pyIter (.ref I)) Q E s:=by
 have c:s.TypeIs (.ref I) "set_iterator":=⟨_,d,rfl⟩;refine wpAny_pyIter_slot c mP (yg4 mP c fO ?_ (bE _));exact z80 ⟨_,rfl,"set_iterator",_,c,yA.lookup,q⟩
def zG3 (p:A.handled=none)(hne:a≠I)(x:WkO prog w o S m b es ep t)(hn:es.size=n)(C:ord.length=n)(d:Nat->Nat)
  (r:∀(i:Nat) (s:Ac) (g:Am) (E:Ab->Ac->Prop) (f:Option (Ab×Nat)->Ac->Prop),s.heap.get? a=some o->(hi:i<ord.length)->f (some (ord[i],d (i+1))) s->Aj (Ah prog w) g (setNext a (d i) i ep) f E s)
  (y:∀(s:Ac) (g:Am) (E:Ab->Ac->Prop) (f:Option (Ab×Nat)->Ac->Prop),s.heap.get? a=some o->f none s->Aj (Ah prog w) g (setNext a (d n) n ep) f E s):
  Walks prog w A I [I,a] [I] n (λi v=>ord[i]?=some v) (λi h=>h.get? I=some (itO (.int (d i) 0) i a n ep)/\h.get? a=some o) where
 sub:=λc j=>by simp at j;simp[j]
 frame:=λi h h' st k=>⟨k I (by simp) _ st.1,k a (by simp) _ st.2⟩
 item:=λi s Q E hi st l=>zn3 st.1 st.2 x hn (λg E f q=>r i s g E f st.2 (by lia) q) λh' e sb=>by
  cases s;exact l _ h' _ (z78 (by lia)) ⟨e,by rw[sb.2 a hne];exact st.2⟩ λc u j e=>by rw[sb.2 c λz=>j (by simp[z])];exact e
 done:=λs Q E st l=>zH9 p st.1 st.2 x hn (λg E f q=>y s g E f st.2 q) λh' e=>by
  cases s;exact l h' _ λc u j B=>e c u (λz=>j (by simp[z])) B
 self:=λi s Q E st q=>hJ st.1 q
def zY1 {tp:Ad}{ot:Obj}{ks:List Nat}{c:Nat}(r:A.handled=none)(hne:a≠I)(p:tp≠I)(x:WkO prog w o S m b es ep t)(hn:es.size=n)(y:ks.length=n)(hk:∀k∈ks,k<n)(g:ot.data=.seq (ks.map λk=>Value.int (k:Nat) 0).toArray c):
  Walks prog w A I [I,a,tp] [I] n (λi v=>(ks.map λk=>(es.getD k (0,.none)).2)[i]?=some v) (λi h=>h.get? I=some (itO (.ref tp) i a n ep)/\h.get? a=some o/\h.get? tp=some ot) where
 sub:=λc f=>by simp at f;simp[f]
 frame:=λi h h' st k=>⟨k I (by simp) _ st.1,k a (by simp) _ st.2.1,k tp (by simp) _ st.2.2⟩
 item:=λi s Q E hi st l=>by
  have d:i<ks.length:=by lia
  have j:ks[i]<es.size:=by rw[hn];exact hk _ (ye9 d)
  refine ak (u:=0) st.1 st.2.2 g st.2.1 x hn (by simp[d]) (yi3 j) λh' e sb=>?_;cases s;refine l _ h' _ ?_ ⟨e,by rw[sb.2 a hne];exact st.2.1,by rw[sb.2 tp p];exact st.2.2⟩ λc u f e=>by rw[sb.2 c λz=>f (by simp[z])];exact e
  rw[z88,z78 d];simp[Array.getD,j]
 done:=λs Q E st l=>zu8 r st.1 st.2.2 g st.2.1 x hn (by simp[y]) λh' e=>by
  cases s;exact l h' _ λc u f B=>e c u (λz=>f (by simp[z])) B
 self:=λi s Q E st q=>hJ st.1 q
noncomputable def eX (t:SetTable):Nat->Nat
 |0=>0
 |i+1=>t.place.getD i 0+1
def Wkd (prog:Ag)(w:Ak)(h:Ao)(I a:Ad)(N n:Nat)(ord:List Ab):Prop:=∀A:Am,A.handled=none->∃fp St,Walks prog w A I fp [I] n (λi v=>ord[i]?=some v) St/\St 0 h/\(∀c∈fp,c=a\/N<=c)/\I∈fp
def zx6 {E:Ab->Ac->Prop}{s:Ac}{Q:Ab->Ac->Prop}(f:s.heap.get? a=some o)(x:WkO prog w o S m (xt w) es ep t)
  (h:∀(I:Ad) (h':Ao) d (ord:List Ab),(∀c u,s.heap.get? c=some u->h'.get? c=some u)->s.heap.objs.size<=I->ord.Perm (es.toList.map (·.2))->Wkd prog w h' I a s.heap.objs.size es.size ord->Q (.ref I) {s with heap:=h',drawn:=d}):Aj (Ah prog w) A (pyIter (.ref a)) Q E s:=by
 have K:s.TypeIs (.ref a) "set":=⟨_,f,x.ex.1⟩;have alt:=z90 f;refine wpAny_pyIter_slot K F.slot_set_iter (yg4 F.slot_set_iter K dh ?_ (F.args_set_iter_1 _));unfold Builtin.«frozenset.__iter__»;refine z76 (yn1 (by rfl) (z76 ?_));unfold Builtin.Frozenset.sizeOf;refine z76 (yn6 f x.dt x.fit (z80 (z76 ?_)));unfold setDrawn;refine z76 (yl1 f x.dt x.fit ?_);dsimp only;unfold setsByText;refine z76 (z76 (ym1 (z80 (z80 ?_))));have sz:=yr9 x.sb;refine yb9 (λhd=>?_) (λhd=>?_)
 .refine z76 (iK _ _ (by simp) λks d G=>?_);have L:ks.length=es.size:=by rw[G.length_eq,List.length_range]
  refine z76 (yr2 ?_ (by rw[z77];lia));generalize D:(s.heap.push {cls:=.type "tuple",data:=.seq (ks.map λ(i:Nat)=>rawInt i).toArray}).objs.size=I;have C:I=s.heap.objs.size+1:=by rw[<-D];exact yf4 _ _
  have J:∀c u,s.heap.get? c=some u->(s.heap.push {cls:=.type "tuple",data:=.seq (ks.map λ(i:Nat)=>rawInt i).toArray}).get? c=some u:=λc u e=>z79 _ e;refine z76 (wpAny_setEpoch_of (J _ _ f) x.dt x.fit (z76 (yi0 (z80 ⟨_,rfl,"set_iterator",_,⟨_,z86 _ rfl,rfl⟩,yA.lookup,?_⟩))));dsimp only;rw[D];have l:∀c u,s.heap.get? c=some u->((s.heap.push {cls:=.type "tuple",data:=.seq (ks.map λ(i:Nat)=>rawInt i).toArray}).push (itO (.ref s.heap.objs.size) 0 a es.size ep)).get? c=some u:=λc u e=>z79 _ (J c u e);refine h I _ d (ks.map λk=>(es.getD k (0,.none)).2) l (by rw[C];exact yh7 _) ?_ (λA v=>⟨_,_,zY1 v (by rw[C];exact z96 (yg5 alt)) (by rw[C];exact z96 (yd7 _)) x rfl L (λk hk=>yr0.mp (G.mem_iff.mp hk)) rfl,⟨by rw[<-D];exact z86 _ rfl,l _ _ f,z79 _ (z86 _ rfl)⟩,λc B=>?_,by simp⟩)
  .have e:es.toList.map (·.2)=(List.range es.size).map λk=>(es.getD k (0,.none)).2:=by
    refine List.ext_getElem (by simp) λi h1 h2=>?_;have:i<es.size:=by simpa using h1
    simp[Array.getD,this]
   rw[e];exact G.map _
  .simp only[z84,ya5,yc8]at B;rcases B with rfl|rfl|rfl
   .rw[C];exact .inr (yh7 _)
   .exact .inl rfl
   .exact .inr (z82 _)
 .refine z76 (z80 (z76 (wpAny_setEpoch_of f x.dt x.fit (z76 (yi0 (z80 ⟨_,rfl,"set_iterator",_,⟨_,z86 _ rfl,rfl⟩,yA.lookup,?_⟩))))));have l:∀c u,s.heap.get? c=some u->(s.heap.push (itO (.int 0 0) 0 a es.size ep)).get? c=some u:=λc u e=>z79 _ e;have z:∀c∈[s.heap.objs.size,a],c=a\/s.heap.objs.size<=c:=λc B=>by
   simp only[z84,ya5,yc8]at B;rcases B with rfl|rfl
   .exact .inr (z82 _)
   .exact .inl rfl
  cases hw:xt w with
  |false=>
   have q:=h s.heap.objs.size _ s.drawn ((pickOrder (w.params.setOrder a ep) es).toList.map (·.2)) l (z82 _) ((tj _ _).map _) (λA v=>⟨_,_,zG3 v (z96 alt) x rfl (by rw[z77,(tj _ es).length_eq];simp) (λ_=>0) (λi s r E p e hi q=>pM e x hw r E p ?_) (λs r E p e q=>pM e x hw r E p ?_),⟨z86 _ rfl,l _ _ f⟩,z,by simp⟩)
   .exact q
   .have g:i<(pickOrder (w.params.setOrder a ep) es).size:=by simpa using hi
    rw[yi3 g];simpa using q
   .rw[Array.getElem?_eq_none (by
     have:=(tj (w.params.setOrder a ep) es).length_eq;simp at this
     lia)]
    exact q
  |true=>
   have M:w.params.followText "set-order"=false:=by simpa[xt]using hw
   have H:¬((!w.params.followText "set-order"&&(!t.plain&&decide (es.size > 1)))=true):=hd;rw[M]at H;have j:(!t.plain&&decide (es.size > 1))=false:=by simpa using H
   have hpl:t.place.size=es.size:=by
    have:=x.fit;simp only[SetTable.fits,yc5,yp2]at this;exact this.1
   have up:Up t.place:=by
    cases hp:t.plain with
    |true=>exact x.ris hp
    |false=>
     rw[hp]at j;have:es.size<=1:=by simpa using j
     unfold Up;have h1:t.place.toList.length<=1:=by simp;lia
     match N:t.place.toList,h1 with
     |[],_=>exact .nil
     |[y],_=>exact yr5 _ _
   have st:∀i (hi:i<=es.size),SetTable.below t.place (eX t i)=i:=λi hi=>by
    cases i with
    |zero=>exact jB up
    |succ i=>
     have g:i<t.place.size:=by lia
     have e:eX t (i+1)=t.place[i]+1:=by simp[eX,Array.getD,g]
     rw[e];exact kG up g
   have q:=h s.heap.objs.size _ s.drawn (es.toList.map (·.2)) l (z82 _) (.refl _) (λA v=>⟨_,_,zG3 v (z96 alt) x rfl (by simp) (eX t) (λi s r E p e hi q=>ju e x hw hw j (by simpa using hi) r E p (st i (by simp at hi;lia)) λg=>?_) (λs r E p e q=>eQ e x hw hw j r E p (st _ (z82 _)) q),⟨z86 _ rfl,l _ _ f⟩,z,by simp⟩)
   .exact q
   .have e:eX t (i+1)=t.place[i]+1:=by simp[eX,Array.getD,g]
    rw[e]at q;simpa using q
end
section
variable {prog:Ag}{w:Ak}{A:Am}{E:Ab->Ac->Prop}{s:Ac}{a:Ad}{ep:Nat}{o:Obj}{es:Array (Int×Ab)}{S:Int->Bool}{m:Nat}{t:SetTable}
def za3 {Q:Bool->Ac->Prop}(d:s.TypeIs (.ref a) "set")(h:Q false s):Aj (Ah prog w) A (Builtin.List.listLengthHint (.ref a)) Q E s:=by
 unfold Builtin.List.listLengthHint;refine z76 (yo1 d F.slot_set_len.lookup ?_);generalize c:("set.__len__":String)=id0
 wp_delta
 rw[show splitId id0=some ("set","__len__")from by subst c;decide +kernel];subst c;refine z76 (yp3 (b:=true) d (by rw[isSubtype_type];kernel_rfl) ?_);refine yb9 (λq=>absurd q (by decide)) λ_=>yb9 (λ_=>?_) λq=>absurd (by decide +kernel) q;exact z76 (wpAny_typeOf d (z80 h))
def lj {Q:List Ab->Ac->Prop}(M:A.handled=none)(f:s.heap.get? a=some o)(x:WkO prog w o S m (xt w) es ep t)
  (h:∀(h':Ao) d (H:Nat) (ord:List Ab),s.heap.objs.size<h'.objs.size->(∀c u,s.heap.get? c=some u->h'.get? c=some u)->ord.Perm (es.toList.map (·.2))->Q ord {s with heap:=h',drawn:=d,toks:=H}):Aj (Ah prog w) A (collect (.ref a)) Q E s:=by
 unfold collect;refine z76 (wpAny_runValue (yh2 F.entry_proto_collect ?_));rw[yf2 F.plain_proto_collect _];refine z76 (yi0 (z80 ⟨yh5 F.plain_list_iadd _,yh2 F.entry_list_iadd ?_⟩));rw[yf2 F.plain_list_iadd _];show Aj _ A.in1 (Builtin.List.listExtendWith (.ref s.heap.objs.size) (.ref a) (.ref s.heap.objs.size)) _ _ _;generalize p:s.heap.objs.size=L;have v:∀c u,s.heap.get? c=some u->(s.heap.push {cls:=.type "list",data:=.seq ([]:List Ab).toArray}).get? c=some u:=λc u e=>z79 _ e;have k:(s.heap.push {cls:=.type "list",data:=.seq ([]:List Ab).toArray}).get? L=some {cls:=.type "list",data:=.seq ([]:List Ab).toArray}:=by rw[<-p];exact z86 _ rfl
 have j:(s.heap.push {cls:=.type "list",data:=.seq ([]:List Ab).toArray}).objs.size=L+1:=by rw[<-p];exact yf4 _ _
 generalize U:s.heap.push {cls:=.type "list",data:=.seq ([]:List Ab).toArray}=h1 at v k j;have J:a≠L:=by rw[<-p];exact z96 (z90 f)
 unfold Builtin.List.listExtendWith;refine z76 (wpAny_typeOf ⟨_,v _ _ f,x.ex.1⟩ ?_);have V:Builtin.List.listSameRef (.ref L) (.ref a)=false:=by simp[Builtin.List.listSameRef,yc1 J]
 refine yb9 (λz=>absurd z (by rw[V];decide)) λ_=>?_;refine z76 (zx6 (v _ _ f) x λI h2 d ord G P pm X=>z76 (yd5 (za3 ⟨_,G _ _ (v _ _ f),x.ex.1⟩ ?_)));refine yb9 (λ_=>z76 (yi8 ?_)) λq=>absurd (by decide +kernel) q;refine z76 ?_;have y:=G _ _ k;refine z76 (yh1 y rfl ?_);have B:=yi4 (Obj.mapSeq (·.push Value.none)) y rfl;refine yh1 B rfl ?_;have n:∀c u,c≠L->h2.get? c=some u->((h2.update L (Obj.mapSeq (·.push Value.none))).update L (Obj.mapSeq (·.pop))).get? c=some u:=λc u D e=>(yb2 _ _ (yc1 D)).trans ((yb2 _ _ (yc1 D)).trans e);obtain⟨fp,St,W,O,wf,wI⟩:=X A.in1 (by simp[M]);have C:L∉fp:=λz=>by
  rcases wf L z with e|e
  .exact J e.symm
  .have K:=e;rw[j]at K;exact absurd K (Nat.not_succ_le_self _)
 refine z80 ⟨yh5 F.plain_extend_loop _,codeAny_extend_loopS W.toS (yr9 x.sb) _ C _ es.size 0 _ _ _ rfl (z94 _) (W.frame 0 _ _ O λc D u e=>n c u (λz=>C (z▸D)) e) (yi4 (Obj.mapSeq (·.pop)) B rfl) (ItemsOf.nil _) λs' acc c' hm l b=>?_⟩;refine z76 (wpAny_load l ?_);have lo:ord.length=es.size:=by rw[pm.length_eq];simp
 have N:acc.toList=ord:=by
  refine yr8 λi=>?_;rcases ye1 i es.size with hi|hi
  .have h1:i<acc.size:=by rw[b.1];exact hi
   have:=b.2 i acc[i] (yi3 h1);rw[this];simp[h1]
  .rw[ye6 (by simp[b.1];exact hi),ye6 (by lia)]
 have cl:∀{c:Ad} {u:Obj},s.heap.get? c=some u->c<L:=λe=>by rw[<-p];exact z90 e
 have q:=h s'.heap s'.drawn s'.toks ord (by rw[p];exact z90 l) (λc u e=>hm.heap c u (λz=>?_) (n c u (z96 (cl e)) (G _ _ (v _ _ e)))) pm
 .refine z80 ?_;rw[N];obtain⟨Y,g,Z,H,os⟩:=s';have T:=hm.gens;have R:=hm.os;subst T R;exact q
 .simp only[z84,ya5,yc8]at z;rcases z with z|z
  .exact z96 (cl e) z
  .have r:=P;rw[j]at r;have:=cl e;rw[z]at this;exact absurd (z83 (yg5 this) r) (yd4 _)
theorem lR :∀{F ms:List Int},F.Nodup->(∀k∈F,k∈ms)->ms.length=F.length->ms.Perm F
 |[],ms,_,_,e=>by rw[yn8.mp e]
 |k::F,ms,nd,sb,e=>by
  have hk:=sb k z89;have p1:=List.perm_cons_erase hk;obtain⟨n1,n2⟩:=yq3.mp nd;have p2:=lR n2 (λj b=>(List.mem_erase_of_ne (λz:j=k=>n1 (z▸b))).mpr (sb j (z87 _ b))) (by
   have:=p1.length_eq;simp only[ya1]at this e
   lia)
  exact p1.trans (p2.cons k)
theorem vG (val:Nat->Int):∀n,(firstMet val n).Nodup
 |0=>.nil
 |n+1=>by
  rw[firstMet_succ];unfold step_dedup;split
  .exact vG val n
  .rename_i h;rw[List.nodup_append];refine⟨vG val n,by simp,λx b y hy e=>?_⟩;rw[z92.mp hy]at e;exact h (List.any_eq_true.mpr ⟨x,b,by simp[e]⟩)
theorem iz :∀(l:List (Int×Ab)),(∀e∈l,∃k,(intKind prog w).is k e.2=true)->∃ms:List Int,IntsAre (l.map (·.2)) ms/\∀k,k∈ms↔∃e∈l,(intKind prog w).is k e.2=true
 |[],_=>⟨[],.nil,λk=>by simp⟩
 |e::l,h=>by
  obtain⟨ms,h1,h2⟩:=iz l λx b=>h x (z87 _ b);obtain⟨k,hk⟩:=h e z89;obtain⟨t,c⟩:=Value.isInt_shape hk;refine⟨k::ms,?_,λj=>?_⟩
  .rw[ya6,c];exact .cons k t h1
  .rw[z84,h2]
   constructor
   .rintro(rfl|⟨x,b,q⟩)
    .exact⟨e,z89,hk⟩
    .exact⟨x,z87 _ b,q⟩
   .rintro⟨x,b,q⟩;rcases z84.mp b with rfl|b
    .exact .inl ((intKind prog w).inj _ _ _ q hk)
    .exact .inr ⟨x,b,q⟩
theorem dw :∀{vs us:List Ab}{ms:List Int},us.Perm vs->IntsAre vs ms->∃ns,IntsAre us ns/\ns.Perm ms:=by
 intro vs us ms p
 induction p generalizing ms with
 |nil=>intro h;exact⟨ms,h,.refl _⟩
 |cons x p f=>
  intro h;cases h with
  |cons k t h=>
   obtain⟨ns,h1,h2⟩:=f h;exact⟨k::ns,.cons k t h1,h2.cons k⟩
 |swap x y l=>
  intro h;cases h with
  |cons k t h=>
   cases h with
   |cons c t' h=>exact⟨c::k::_,.cons c t' (.cons k t h),.swap k c _⟩
 |trans p1 p2 d b=>
  intro h;obtain⟨ns,h1,h2⟩:=b h;obtain⟨e,h3,g⟩:=d h1;exact⟨e,h3,g.trans h2⟩
end
end SetW
namespace L2
open PySem PySem.Spec PyProof.Rows SetW
section
variable {X:Cx}{O:Ev}{e:Al}{pos p p2 pos2:Pos}
noncomputable abbrev uf (zs:List Int):List Int:=firstMet (λi=>zs.getD i 0) zs.length
def Inv.drw {pins:List (Ad×Obj)}{B:List (Option V)}{H:Hp}{s:Ac}(I:Inv X pins B H s)(d:Drawn):Inv X pins B H {s with drawn:=d}:=⟨I.ok,I.os,I.bare,I.base,I.loc,I.cell,I.free,I.freeC,I.pin,I.hok,I.len⟩
def SW (P:Ag)(w:Ak)(o:Obj)(zs:List Int):Prop:=∃es ep t,WkO P w o (λk=>(uf zs).any (· == k)) (uf zs).length (xt w) es ep t
def dS (m:X.calm=true):yP X (.type "set") (λxs H Q=>∃(l:Ad) (zs:List Int),xs=[.ref l]/\H l=some (.lst (zs.map V.int))/\zs.length<1000/\∀(c:Ad) (o:Obj),H c=none->SW X.prog X.w o zs->Q (.ref c) (upd H c (.frz o (.set (λk=>(uf zs).any (· == k)) (uf zs).length)))):=by
 intro pins s B H xs us Q I r h;obtain⟨l,zs,rfl,i,j,q⟩:=h;obtain⟨u,rfl,n⟩:=vals1 r;cases n;obtain⟨a,g,v,z⟩:=I.list (SqL.of i);have l1:=g.length;rw[z77]at l1;have sz:a.toArray.size=zs.length:=by simp[l1]
 refine zI5 (I.ok.hd m) v.isList (by simpa using intsAre_of g) (by rw[sz];unfold scanBound;lia) λh' y d hk=>?_;rw[sz]at d;obtain⟨o,es,ep,t,f,x⟩:=d;exact⟨.ref s.heap.objs.size,_,I.laid (o:=.frz o (.set _ _)) (λb u e=>hk b u (z90 e) e) (z82 _) ⟨f,o,es,ep,t,f,x.ex,x.dt,x.el,x.mem,x.sb,x.fit,x.sz⟩,rfl,q _ o (I.hok.fresh (z82 _)) ⟨es,ep,t,x⟩⟩
def zl9 {zs:List Int}{k:Int}:k∈uf zs↔k∈zs:=by
 have h1:k∈uf zs↔(uf zs).any (· == k)=true:=by simp
 rw[h1,firstMet_any];simp only[List.any_eq_true,ye2,yr0,yp2]
 constructor
 .rintro⟨x,⟨i,hi,rfl⟩,rfl⟩;rw[z85,z78 hi];exact ye9 hi
 .intro hk;obtain⟨i,hi,e⟩:=yq0 hk;exact⟨k,⟨i,hi,by rw[z85,z78 hi];exact e⟩,rfl⟩
end
end L2
namespace Tim
open PySem PyProof.Rows
noncomputable def gal :Bool->Keyed->Array Keyed->Nat->Nat->Nat->StateT SortSt Sem (Option Nat):=sortPriv% PySem.Builtin.gallop
noncomputable abbrev bey (left:Bool)(key:Keyed)(arr:Array Keyed)(base i:Nat):StateT SortSt Sem (Option Bool):=do
 let x <-elem' arr (base+i)
 if left then lt' x key else return (<-lt' key x).map (!·)
structure GB (a₀:Array Keyed)(st:SortSt):Prop where
 perm:(arrOf st).Perm a₀
 kind:kindOf st=oneType'
 failed:failedOf st=none
section
variable {prog:Ag}{w:Ak}{A:Am}{E:Ab->Ac->Prop}{s:Ac}
def iZ {st:SortSt}{x y:Keyed}{a b:Int}{t u:Tok}{Q:Option Bool->SortSt->Prop}(hk:kindOf st=oneType')(c:x.1=.int a t)(hy:y.1=.int b u)(h:Q (some (decide (a<b))) st):wpS (Ah prog w) A E s (lt' x y) Q st:=by
 rw[lt'_eq];refine z91 (wpS_get ?_);rw[hk,keyLt'_oneType,c,hy];exact z91 (wpS_lift (yl4 (oneLt_int ⟨rfl,z97 h⟩)))
def zN {st:SortSt}{xs:Array Keyed}{i:Nat}{p:Keyed}{Q:Keyed->SortSt->Prop}(h:xs[i]?=some p)(q:Q p st):wpS (Ah prog w) A E s (elem' xs i) Q st:=by
 rw[elem'_eq,h];exact z97 q
def yD {xs:Array Keyed}(h:IntKeys xs){i:Nat}(hi:i<xs.size):∃t,xs[i].1=.int (K xs i) t:=by
 obtain⟨n,t,e⟩:=h xs[i] (by simp);refine⟨t,?_⟩;have:K xs i=n:=by
  unfold K;rw[yc4 xs i hi];show numOf xs[i].1=n;rw[e];rfl
 rw[e,this]
noncomputable def sD (left:Bool)(key:Int)(arr:Array Keyed)(base i:Nat):Bool:=if left then decide (K arr (base+i)<key)else !decide (key<K arr (base+i))
theorem zM1 {st:SortSt}{left:Bool}{key:Keyed}{kz:Int}{kt:Tok}{arr:Array Keyed}{base i:Nat}{Q:Option Bool->SortSt->Prop}(hk:kindOf st=oneType')(a:key.1=.int kz kt)(ia:IntKeys arr)(hi:base+i<arr.size)(h:Q (some (sD left kz arr base i)) st):
  wpS (Ah prog w) A E s (bey left key arr base i) Q st:=by
 obtain⟨t,e⟩:=yD ia hi;refine z91 (zN (yc4 arr _ hi) ?_);cases left with
 |true=>exact iZ hk e a h
 |false=>exact z91 (iZ hk a e (z97 h))
structure Cut (p:Nat->Bool)(n r:Nat):Prop where
 le:r<=n
 lo:∀i,i<r->p i=true
 hi:∀i,r<=i->i<n->p i=false
abbrev TS :=Option (Option Nat)×Nat×Nat
def el2 {b a d:Type}{t₀:SortSt}{F:b->a->d}{R:b->a->Prop}{G:d->SortSt->Prop}{c:d}{t:SortSt}(h:t=t₀/\∃p q,c=F p q/\R p q)(k:∀p q,R p q->G (F p q) t₀):G c t:=by
 obtain⟨rfl,p,q,rfl,h⟩:=h;exact k p q h
def mid {lo hi:Nat}(h:¬lo≥hi):lo<=lo+(hi-lo) / 2/\lo+(hi-lo) / 2<hi:=by lia
def pU {st:SortSt}{p:Nat->Bool}{b:Nat->StateT SortSt Sem (Option Bool)}{n:Nat}{Q:Option Nat->SortSt->Prop}(B:∀{i:Nat}{Q:Option Bool->SortSt->Prop},i<n->Q (some (p i)) st->wpS (Ah prog w) A E s (b i) Q st)(mono:∀i j,i<=j->j<n->p j=true->p i=true)(h:∀r,Cut p n r->Q (some r) st)
  {f:Nat->TS->StateT SortSt Sem (ForInStep TS)} {F:TS->StateT SortSt Sem (Option Nat)} (f1:∀x lo hi,lo≥hi->f x (none,lo,hi)=pure (.done (none,lo,hi)))
  (f2:∀x lo hi,¬lo≥hi->∃g,f x (none,lo,hi)=b (lo+(hi-lo) / 2) >>= g/\g (some true)=pure (.yield (none,lo+(hi-lo) / 2+1,hi))/\g (some false)=pure (.yield (none,lo,lo+(hi-lo) / 2))) (hF:∀r,F (none,r,r)=pure (some r))
  {lo hi:Nat} (h1:lo<=hi) (h2:hi<=n) (h3:∀i,i<lo->p i=true) (d:∀i,hi<=i->i<n->p i=false):wpS (Ah prog w) A E s (forIn [0:n] ((none,lo,hi):TS) f >>= F) Q st:=by
 refine z91 (yk7 (yf7 (I:=λx c st'=>st'=st/\∃lo hi,c=(none,lo,hi)/\lo<=hi/\hi<=n/\hi+x<=lo+n/\(∀i,i<lo->p i=true)/\∀i,hi<=i->i<n->p i=false)
  (Q:=λc st'=>st'=st/\∃r,c=(none,r,r)/\Cut p n r) ?_ ?_ ⟨rfl,lo,hi,rfl,h1,h2,by lia,h3,d⟩) ?_)
 .intro x c st' _ C l;apply el2 (c:=c) (t:=st') l;intro lo hi k;have h1:=k.1;have h2:=k.2.1;have o:=k.2.2.1;have h3:=k.2.2.2.1;have d:=k.2.2.2.2;clear k l c;by_cases a:lo≥hi
  .rw[f1 x lo hi a];have e:lo=hi:=by lia
   subst e;exact z97 ⟨rfl,lo,rfl,h2,h3,d⟩
  .obtain⟨g,e,g1,g2⟩:=f2 x lo hi a;rw[e];have hm:=mid a;generalize lo+(hi-lo) / 2=m at g1 g2 hm;refine z91 (B (by lia) ?_);cases z:p m with
   |true=>
    rw[g1];exact z97 ⟨rfl,_,_,rfl,by lia,h2,by lia,λi u=>mono i _ (by lia) (by lia) z,d⟩
   |false=>
    rw[g2];refine z97 ⟨rfl,_,_,rfl,by lia,by lia,by lia,h3,λi v q=>?_⟩;cases y:p i with
    |false=>rfl
    |true=>rw[mono _ i v q y]at z;cases z
 .rintro c st' ⟨rfl,lo,hi,rfl,h1,h2,o,h3,d⟩;have e:lo=hi:=by lia
  subst e;exact⟨rfl,lo,rfl,h2,h3,d⟩
 .rintro c st' ⟨rfl,r,rfl,ct⟩;rw[hF];exact z97 (h r ct)
theorem tm {st:SortSt}{left:Bool}{key:Keyed}{kz:Int}{kt:Tok}{arr:Array Keyed}{base n hint:Nat}{Q:Option Nat->SortSt->Prop}(hk:kindOf st=oneType')(g:key.1=.int kz kt)(ia:IntKeys arr)(hb:base+n<=arr.size)(hn:hint<n)
  (mono:∀i j,i<=j->j<n->sD left kz arr base j=true->sD left kz arr base i=true) (h:∀r,Cut (sD left kz arr base) n r->Q (some r) st):wpS (Ah prog w) A E s (gal left key arr base n hint) Q st:=by
 generalize o:sD left kz arr base=p at mono h;have B:∀{i:Nat} {Q:Option Bool->SortSt->Prop},i<n->Q (some (p i)) st->wpS (Ah prog w) A E s (bey left key arr base i) Q st:=λ{i Q} hi q=>zM1 hk g ia (by lia) (by rw[o];exact q);refine z91 (B hn ?_);dsimp only;cases z0:p hint with
 |true=>
  rw[if_pos rfl];refine z91 (yk7 (yf7 (I:=λx c st'=>st'=st/\∃a of,c=(none,a,of)/\a<of/\x+1<=of/\hint+a<n/\p (hint+a)=true)
   (Q:=λc st'=>st'=st/\∃a of,c=(none,a,of)/\a<of/\hint+a<n/\p (hint+a)=true/\(of≥n-hint\/p (hint+of)=false)) ?_ ?_ ⟨rfl,0,1,rfl,by lia,by lia,by lia,z0⟩) ?_)
  .intro x c st' _ m k;apply el2 (c:=c) (t:=st') k;intro a of e;have h1:=e.1;have h2:=e.2.1;have h3:=e.2.2.1;have d:=e.2.2.2;clear e k c;dsimp only;by_cases b:of≥n-hint
   .rw[if_pos b];exact z97 ⟨rfl,a,of,rfl,h1,h3,d,.inl b⟩
   .rw[if_neg b];refine z91 (B (by lia) ?_);cases z:p (hint+of)with
    |true=>exact z97 ⟨rfl,of,2*of+1,rfl,by lia,by lia,by lia,z⟩
    |false=>exact z97 ⟨rfl,a,of,rfl,h1,h3,d,.inr z⟩
  .rintro c st' ⟨rfl,a,of,rfl,h1,h2,h3,d⟩;exact⟨rfl,a,of,rfl,h1,h3,d,.inl (by lia)⟩
  .rintro c st' ⟨rfl,a,of,rfl,h1,h3,d,f⟩;refine pU B mono h (λx lo hi z=>if_pos z) (λx lo hi z=>⟨_,if_neg z,rfl,rfl⟩) (λ_=>rfl) (by lia) (by lia) (λi hi=>mono i _ (by lia) h3 d) (λi u l=>?_);rcases f with f|f
   .lia
   .cases y:p i with
    |false=>rfl
    |true=>rw[mono _ i (by lia) l y]at f;cases f
 |false=>
  rw[if_neg (by decide)];refine z91 (yk7 (yf7 (I:=λx c st'=>st'=st/\∃a of,c=(none,a,of)/\a<of/\x+1<=of/\a<=hint/\p (hint-a)=false)
   (Q:=λc st'=>st'=st/\∃a of,c=(none,a,of)/\a<of/\a<=hint/\p (hint-a)=false/\(of≥hint+1\/p (hint-of)=true)) ?_ ?_ ⟨rfl,0,1,rfl,by lia,by lia,by lia,z0⟩) ?_)
  .intro x c st' _ m k;apply el2 (c:=c) (t:=st') k;intro a of e;have h1:=e.1;have h2:=e.2.1;have h3:=e.2.2.1;have d:=e.2.2.2;clear e k c;dsimp only;by_cases b:of≥hint+1
   .rw[if_pos b];exact z97 ⟨rfl,a,of,rfl,h1,h3,d,.inl b⟩
   .rw[if_neg b];refine z91 (B (by lia) ?_);cases z:p (hint-of)with
    |true=>exact z97 ⟨rfl,a,of,rfl,h1,h3,d,.inr z⟩
    |false=>exact z97 ⟨rfl,of,2*of+1,rfl,by lia,by lia,by lia,z⟩
  .rintro c st' ⟨rfl,a,of,rfl,h1,h2,h3,d⟩;exact⟨rfl,a,of,rfl,h1,h3,d,.inl (by lia)⟩
  .rintro c st' ⟨rfl,a,of,rfl,h1,h3,d,f⟩;refine pU B mono h (λx lo hi z=>if_pos z) (λx lo hi z=>⟨_,if_neg z,rfl,rfl⟩) (λ_=>rfl) (by lia) (by lia) (λi hi=>?_) (λi u l=>?_)
   .rcases f with f|f
    .lia
    .exact mono i _ (by lia) (by lia) f
   .cases y:p i with
    |false=>rfl
    |true=>rw[mono _ i (by lia) l y]at d;cases d
end
def mlo :Array Keyed->Array Keyed->StateT SortSt Sem (Array Keyed):=sortPriv% PySem.Builtin.mergeLo
abbrev ky (p:Keyed):Int:=numOf p.1
abbrev Up (l:List Keyed):Prop:=l.Pairwise λx y=>ky x<=ky y
structure Good (a b r:List Keyed):Prop where
 pm:r.Perm (a++b)
 up:Up r
structure MI (a b L:List Keyed)(i j:Nat):Prop where
 ia:i<=a.length
 jb:j<=b.length
 pm:L.Perm (a.take i++b.take j)
 up:Up L
 le:∀x∈L,∀y∈a.drop i++b.drop j,ky x<=ky y
section
variable {a b L:List Keyed}{i j k:Nat}
def MI.doneB (h:MI a b L i j)(c:Up a)(e:j=b.length):Good a b (L++a.drop i++b.drop j):=by
 subst e;have e1:b.drop b.length=[]:=ym0;rw[e1,ye3];have pm:=h.pm;rw[yf6]at pm;refine⟨(pm.append_right _).trans ?_,yb7.mpr ⟨h.up,c.sublist (yl0 _ _),λx d y hy=>h.le x d y (yb3 _ hy)⟩⟩;have:(a.take i++b++a.drop i).Perm (a.take i++a.drop i++b):=by
  rw[yb1,yb1];exact yd9 _ yi6
 rwa [yb4]at this
def MI.doneA (h:MI a b L i j)(d:Up b)(e:i=a.length):Good a b (L++a.drop i++b.drop j):=by
 subst e;have e1:a.drop a.length=[]:=ym0;rw[e1,ye3];have pm:=h.pm;rw[yf6]at pm;refine⟨(pm.append_right _).trans ?_,yb7.mpr ⟨h.up,d.sublist (yl0 _ _),λx c y hy=>h.le x c y (ya4 _ hy)⟩⟩;rw[yb1,yb4]
def MI.last (h:MI a b L i j)(f:Up b)(e:i+1=a.length)(d:∀y∈b,∀x∈a.drop i,ky y<=ky x):Good a b (L++b.drop j++a.drop i):=by
 have ha:a.drop i=[a[i]]:=by rw[yc6 (by lia),List.drop_of_length_le (by lia)]
 refine⟨?_,?_⟩
 .refine((h.pm.append_right _).append_right _).trans ?_;have:(a.take i++b.take j++b.drop j++a.drop i).Perm (a.take i++a.drop i++b):=by
   rw[yb1 (a.take i) (b.take j),yb4,yb1,yb1];exact yd9 _ yi6
  rwa [yb4]at this
 .refine yb7.mpr ⟨yb7.mpr ⟨h.up,f.sublist (yl0 _ _),λx c y hy=>h.le x c y (ya4 _ hy)⟩,by rw[ha];exact yr5 _ _,λx c y hy=>?_⟩;rcases ya8.mp c with c|c
  .exact h.le x c y (yb3 _ hy)
  .exact d x (yg3 c) y hy
def MI.appA (h:MI a b L i j)(f:Up a)(hk:i+k<=a.length)(l:∀x∈(a.drop i).take k,∀y∈b.drop j,ky x<=ky y):MI a b (L++(a.drop i).take k) (i+k) j:=by
 have sp:a.drop i=(a.drop i).take k++a.drop (i+k):=by rw[<-List.drop_drop,yb4]
 have d:Up (a.drop i):=f.sublist (yl0 _ _);rw[sp]at d;obtain⟨g,m,e⟩:=yb7.mp d;refine⟨hk,h.jb,?_,yb7.mpr ⟨h.up,g,λx c y hy=>h.le x c y (yb3 _ (yd8 hy))⟩,λx c y hy=>?_⟩
 .refine(h.pm.append_right _).trans ?_;have:a.take (i+k)=a.take i++(a.drop i).take k:=by rw[List.take_add]
  rw[this,yb1,yb1];exact yd9 _ yi6
 .rcases ya8.mp c with c|c
  .refine h.le x c y ?_;rcases ya8.mp hy with hy|hy
   .rw[sp];exact yb3 _ (ya4 _ hy)
   .exact ya4 _ hy
  .rcases ya8.mp hy with hy|hy
   .exact e x c y hy
   .exact l x c y hy
def MI.appB (h:MI a b L i j)(f:Up b)(hk:j+k<=b.length)(l:∀x∈(b.drop j).take k,∀y∈a.drop i,ky x<=ky y):MI a b (L++(b.drop j).take k) i (j+k):=by
 have sp:b.drop j=(b.drop j).take k++b.drop (j+k):=by rw[<-List.drop_drop,yb4]
 have d:Up (b.drop j):=f.sublist (yl0 _ _);rw[sp]at d;obtain⟨g,m,e⟩:=yb7.mp d;refine⟨h.ia,hk,?_,yb7.mpr ⟨h.up,g,λx c y hy=>h.le x c y (ya4 _ (yd8 hy))⟩,λx c y hy=>?_⟩
 .refine(h.pm.append_right _).trans ?_;have:b.take (j+k)=b.take j++(b.drop j).take k:=by rw[List.take_add]
  rw[this,yb1]
 .rcases ya8.mp c with c|c
  .refine h.le x c y ?_;rcases ya8.mp hy with hy|hy
   .exact yb3 _ hy
   .rw[sp];exact ya4 _ (ya4 _ hy)
  .rcases ya8.mp hy with hy|hy
   .exact l x c y hy
   .exact e x c y hy
def take1 (l:List Keyed){i:Nat}(h:i<l.length):(l.drop i).take 1=[l[i]]:=by rw[yc6 h];rfl
end
abbrev MA (a b out:Array Keyed)(i j:Nat):Prop:=MI a.toList b.toList out.toList i j
section
variable {a b out:Array Keyed}{i j k:Nat}
def vw (a:Array Keyed)(i:Nat):(a.extract i).toList=a.toList.drop i:=by rw[yp4,ym8,yo7 (by simp)]
def ah (a:Array Keyed)(i k:Nat):(a.extract i (i+k)).toList=(a.toList.drop i).take k:=by rw[yp4,ym8,Nat.add_sub_cancel_left]
def MA.extA (h:MA a b out i j)(c:Up a.toList)(hk:i+k<=a.size)(d:∀x∈(a.toList.drop i).take k,∀y∈b.toList.drop j,ky x<=ky y):MA a b (out++a.extract i (i+k)) (i+k) j:=by
 have:=h.appA c (by simpa using hk) d;unfold MA
 rwa [yc0,ah]
def MA.extB (h:MA a b out i j)(c:Up b.toList)(hk:j+k<=b.size)(d:∀x∈(b.toList.drop j).take k,∀y∈a.toList.drop i,ky x<=ky y):MA a b (out++b.extract j (j+k)) i (j+k):=by
 have:=h.appB c (by simpa using hk) d;unfold MA
 rwa [yc0,ah]
def MA.pushA (h:MA a b out i j)(c:Up a.toList)(hi:i<a.size)(f:∀y∈b.toList.drop j,ky a[i]<=ky y):MA a b (out.push a[i]) (i+1) j:=by
 have e:(a.toList.drop i).take 1=[a[i]]:=by rw[take1 _ (by simpa using hi)];simp
 have:=h.appA (k:=1) c (by simp;lia) (by rw[e];intro x d;rw[z92.mp d];exact f);unfold MA
 rwa [e,<-yl2]at this
def MA.pushB (h:MA a b out i j)(d:Up b.toList)(c:j<b.size)(g:∀y∈a.toList.drop i,ky b[j]<=ky y):MA a b (out.push b[j]) i (j+1):=by
 have e:(b.toList.drop j).take 1=[b[j]]:=by rw[take1 _ (by simpa using c)];simp
 have:=h.appB (k:=1) d (by simp;lia) (by rw[e];intro x f;rw[z92.mp f];exact g);unfold MA
 rwa [e,<-yl2]at this
def MA.finB (h:MA a b out i j)(c:Up a.toList)(e:(j == b.size)=true):Good a.toList b.toList (out++a.extract i++b.extract j).toList:=by
 rw[yc0,yc0,vw,vw];exact h.doneB c (by simpa using e)
def MA.finA (h:MA a b out i j)(c:Up b.toList)(e:(i == a.size)=true):Good a.toList b.toList (out++a.extract i++b.extract j).toList:=by
 rw[yc0,yc0,vw,vw];exact h.doneA c (by simpa using e)
def MA.finL (h:MA a b out i j)(g:Up b.toList)(e:(i+1 == a.size)=true)(na:0<a.size)(d:∀y∈b.toList,ky y<=ky a[a.size-1]):Good a.toList b.toList (out++b.extract j++a.extract i).toList:=by
 rw[yc0,yc0,vw,vw];have f:i+1=a.size:=by simpa using e
 refine h.last g (by simpa using f) λy hy x c=>?_;have ha:a.toList.drop i=[a[a.size-1]]:=by
  rw[yc6 (by simp;lia),List.drop_of_length_le (by simp;lia)];have:i=a.size-1:=by lia
  subst this;simp
 rw[ha]at c;rw[z92.mp c];exact d y hy
def zq0 {l:List Keyed}(u:Up l){i:Nat}(hi:i<l.length):∀y∈l.drop i,ky l[i]<=ky y:=λy hy=>by
 have:=u.sublist (yl0 i l);rw[yc6 hi]at this hy;rcases z84.mp hy with rfl|hy
 .exact yd6 _
 .exact(ym6.mp this).1 y hy
def vm {a:Array Keyed}(u:Up a.toList){i:Nat}(hi:i<a.size):∀y∈a.toList.drop i,ky a[i]<=ky y:=by
 have:=zq0 u (by simpa using hi);simpa using this
def wQ {a:Array Keyed}{i:Nat}(hi:i<a.size):K a i=ky a[i]:=by unfold K;rw[yc4 a i hi]
def qp {a:Array Keyed}(u:Up a.toList){i j:Nat}(d:i<=j)(c:j<a.size):K a i<=K a j:=by
 rw[wQ (show i<a.size by lia),wQ c];have:=vm u (show i<a.size by lia) a[j] (by
  rw[yi9];exact⟨j-i,by simp;lia,by simp[show i+(j-i)=j by lia]⟩)
 exact this
theorem xZ {a:Array Keyed}{left:Bool}{kz:Int}{base n:Nat}(up:∀i j,base<=i->i<=j->j<base+n->K a i<=K a j):∀i j,i<=j->j<n->sD left kz a base j=true->sD left kz a base i=true:=λi j c d h=>by
 have:=up (base+i) (base+j) (by lia) (by lia) (by lia);unfold sD at h ⊢;cases left with
 |true=>simp at h ⊢;lia
 |false=>simp at h ⊢;lia
theorem tJ {a:Array Keyed}{left:Bool}{kz:Int}{base n k:Nat}(c:Cut (sD left kz a base) n k){i:Nat}(h1:base<=i)(h2:i<base+k):K a i<=kz:=by
 have:=c.lo (i-base) (by lia);unfold sD at this;rw[show base+(i-base)=i by lia]at this;cases left with
 |true=>simp at this;lia
 |false=>simp at this;lia
theorem uY {a:Array Keyed}{left:Bool}{kz:Int}{base n k:Nat}(c:Cut (sD left kz a base) n k){i:Nat}(h1:base+k<=i)(h2:i<base+n):kz<=K a i:=by
 have:=c.hi (i-base) (by lia) (by lia);unfold sD at this;rw[show base+(i-base)=i by lia]at this;cases left with
 |true=>simp at this;lia
 |false=>simp at this;lia
def uO {a:Array Keyed}{P:Int->Prop}{i k:Nat}(h:∀t,i<=t->t<i+k->t<a.size->P (K a t)):∀x∈(a.toList.drop i).take k,P (ky x):=λx c=>by
 obtain⟨t,d,rfl⟩:=yi9.mp c;simp at d;have:=h (i+t) (by lia) (by lia) (by lia);rw[wQ (show i+t<a.size by lia)]at this;simpa using this
def lh {a:Array Keyed}{P:Int->Prop}{i:Nat}(h:∀t,i<=t->t<a.size->P (K a t)):∀x∈a.toList.drop i,P (ky x):=λx c=>by
 obtain⟨t,d,rfl⟩:=yi9.mp c;simp at d;have:=h (i+t) (by lia) (by lia);rw[wQ (show i+t<a.size by lia)]at this;simpa using this
end
section
variable {prog:Ag}{w:Ak}{A:Am}{E:Ab->Ac->Prop}{s:Ac}{a₀:Array Keyed}
noncomputable abbrev SG (st:SortSt)(g:Nat):SortSt:=SortSt.mk' (kindOf st) (arrOf st) (pendingOf st) g (failedOf st)
def ifc {β:Type}{c:Prop}[Decidable c]{X Y:StateT SortSt Sem β}{Q:β->SortSt->Prop}{st:SortSt}(a:c->wpS (Ah prog w) A E s X Q st)(hy:¬c->wpS (Ah prog w) A E s Y Q st):wpS (Ah prog w) A E s (if c then X else Y) Q st:=by
 split
 .rename_i h;exact a h
 .rename_i h;exact hy h
def el4 {O d a e b f:Type}{mk:O->SortSt}{F:d->a->e->b->f}{R:d->a->e->b->Prop}{G:f->SortSt->Prop}{c:f}{t:SortSt}(h:(∃g,t=mk g)/\∃p q r u,c=F p q r u/\R p q r u)(k:∀g p q r u,R p q r u->G (F p q r u) (mk g)):G c t:=by
 obtain⟨⟨g,rfl⟩,p,q,r,u,rfl,h⟩:=h;exact k g p q r u h
def el5 {e b f d a g:Type}{t₀:SortSt}{F:e->b->f->d->a->g}{R:e->b->f->d->a->Prop}{G:g->SortSt->Prop}{c:g}{t:SortSt}(h:t=t₀/\∃p q r u v,c=F p q r u v/\R p q r u v)(k:∀p q r u v,R p q r u v->G (F p q r u v) t₀):G c t:=by
 obtain⟨rfl,p,q,r,u,v,rfl,h⟩:=h;exact k p q r u v h
def zV2 {e b g d a i j:Type}{t₀:SortSt}{f:i->Option j}{P:j->Prop}{F:e->b->g->d->a->i}{R:e->b->g->d->a->Prop}{G:i->SortSt->Prop}{c:i}{t:SortSt}(h:t=t₀/\((∃r,f c=some r/\P r)\/∃p q r u v,c=F p q r u v/\R p q r u v))(k₁:∀r,f c=some r->P r->G c t₀)(k:∀p q r u v,R p q r u v->G (F p q r u v) t₀):G c t:=by
 obtain⟨rfl,⟨r,hr,l⟩|⟨p,q,r,u,v,rfl,h⟩⟩:=h
 .exact k₁ r hr l
 .exact k p q r u v h
def el6 {O e b f d a i j:Type}{mk:O->SortSt}{F:e->b->f->d->a->i->j}{R:e->b->f->d->a->i->Prop}{G:j->SortSt->Prop}{c:j}{t:SortSt}(h:(∃g,t=mk g)/\∃p q r u v w,c=F p q r u v w/\R p q r u v w)(k:∀g p q r u v w,R p q r u v w->G (F p q r u v w) (mk g)):G c t:=by
 obtain⟨⟨g,rfl⟩,p,q,r,u,v,w,rfl,h⟩:=h;exact k g p q r u v w h
def zS2 {O e b i d a j l m:Type}{mk:O->SortSt}{f:l->Option m}{P:m->Prop}{F:e->b->i->d->a->j->l}{R:e->b->i->d->a->j->Prop}{G:l->SortSt->Prop}{c:l}{t:SortSt}(h:(∃g,t=mk g)/\((∃r,f c=some r/\P r)\/∃p q r u v w,c=F p q r u v w/\R p q r u v w))(k₁:∀g r,f c=some r->P r->G c (mk g))(k:∀g p q r u v w,R p q r u v w->G (F p q r u v w) (mk g)):G c t:=by
 obtain⟨⟨g,rfl⟩,⟨r,hr,n⟩|⟨p,q,r,u,v,w,rfl,h⟩⟩:=h
 .exact k₁ g r hr n
 .exact k g p q r u v w h
def share {β:Type}{X Y:Nat->StateT SortSt Sem β}{Q:β->SortSt->Prop}{st:SortSt}{P:Nat->Prop}(hb:∀m,P m->wpS (Ah prog w) A E s (Y m) Q st)(ha:∀m,P (m-1)->wpS (Ah prog w) A E s (X m) Q st)(h:∀m,P m)(m:Nat):wpS (Ah prog w) A E s (if m > 1 then X m else Y m) Q st:=by
 split
 .exact ha m (h _)
 .exact hb m (h m)
def og {β:Type}{c:Prop}[Decidable c]{X Y:Array Keyed->Nat->StateT SortSt Sem β}{Q:β->SortSt->Prop}{st:SortSt}{P a:Array Keyed->Nat->Prop}(R:Array Keyed->Nat->Prop)(e:∀o n,P o n->wpS (Ah prog w) A E s (Y o n) Q st)(hr:∀o n,a o n->¬c->R o n)(key:∀o n,R o n->P o n)(d:∀o n,a o n->c->(∀o n,R o n->P o n)->wpS (Ah prog w) A E s (X o n) Q st):∀o n,a o n->wpS (Ah prog w) A E s (if c then X o n else Y o n) Q st:=by
 intro o n b;split
 .rename_i h;exact d o n b h key
 .rename_i h;exact e o n (key o n (hr o n b h))
def zI9 {st:SortSt}{a b:Array Keyed}{Q:Array Keyed->SortSt->Prop}(hk:kindOf st=oneType')(ia:IntKeys a)(ib:IntKeys b)(R:Up a.toList)(L:Up b.toList)(na:0<a.size)(nb:0<b.size)
  (h1:∀x∈a.toList,ky b[0]<=ky x) (h2:∀y∈b.toList,ky y<=ky a[a.size-1])
  (h:∀r g,Good a.toList b.toList r.toList->Q r (SG st g)):wpS (Ah prog w) A E s (mlo a b) Q st:=by
 have m0:MA a b #[b[0]] 0 1:=by
  have:MA a b #[] 0 0:=⟨z94 _,z94 _,by simp,.nil,λx Y=>by simp at Y⟩;have:=this.pushB L nb (λy hy=>h1 y (by simpa using hy));simpa using this
 refine z91 (wpS_lift (yi8 ⟨rfl,z91 (zN (yc4 b 0 nb) ?_)⟩));dsimp only;refine ifc (λc1=>?_) λc1=>?_
 .exact z97 (h _ (gallopOf st) (m0.finB R c1))
 refine ifc (λc2=>?_) λc2=>?_
 .exact z97 (h _ (gallopOf st) (m0.finL L c2 na h2))
 refine z91 (wpS_get ?_);have b4:1<b.size:=by
  have:¬1=b.size:=by simpa using c1
  lia
 have a9:0+1<a.size:=by
  have:¬0+1=a.size:=by simpa using c2
  lia
 refine z91 (yk7 (yf7 (I:=λx c st'=>(∃g,st'=SG st g)/\∃out i j mg,c=(none,out,i,j,mg)/\MA a b out i j/\i+1<a.size/\j<b.size/\x+1<=i+j)
  (Q:=λc st'=>(∃g,st'=SG st g)/\∃r,c.1=some r/\Good a.toList b.toList r.toList) ?_ ?_ ⟨⟨_,rfl⟩,_,0,1,_,rfl,m0,a9,b4,by lia⟩) ?_)
 .intro x c st' _ Y D;apply el4 (c:=c) (t:=st') D;intro g out i j mg l;have m:=l.1;have hi:=l.2.1;have u:=l.2.2.1;have b3:=l.2.2.2;clear l D c;dsimp only;refine z91 (yk7 (yf7 (I:=λx c st'=>st'=SG st g/\∃k e d ac F,c=(none,k,e,d,ac,F)/\MA a b k e d/\e+1<a.size/\d<b.size/\i+j+x<=e+d)
   (Q:=λc st'=>st'=SG st g/\((∃r,c.1=some r/\Good a.toList b.toList r.toList)\/∃k e d ac F,c=(none,k,e,d,ac,F)/\MA a b k e d/\e+1<a.size/\d<b.size/\i+j+1<=e+d)) ?_ ?_ ⟨rfl,out,i,j,0,0,rfl,m,hi,u,by lia⟩) ?_)
  .intro x c st' _ Y D;apply el5 (c:=c) (t:=st') D;intro out e d ac F l;have m:=l.1;have hi:=l.2.1;have u:=l.2.2.1;have G:=l.2.2.2;clear l D c;dsimp only;have e1:=yg7 (yD ib u);have e2:=yg7 (yD ia (show e<a.size by lia));have X:=wQ u;have k2:=wQ (show e<a.size by lia);refine z91 (zN (yc4 b d u) (z91 (zN (yc4 a e (by lia)) (z91 (iZ hk e1 e2 ?_)))));by_cases hw:K b d<K a e
   .rw[ya9 hw];dsimp only;rw[if_pos rfl];refine z91 (zN (yc4 b d u) ?_);have m':=m.pushB L u λy hy=>by have:=vm R (show e<a.size by lia) y hy;lia
    refine ifc (λJ=>?_) λJ=>?_
    .exact z97 ⟨rfl,.inl ⟨_,rfl,m'.finB R J⟩⟩
    .have v:d+1<b.size:=by
                      have:¬d+1=b.size:=by simpa using J
                      lia
     refine ifc (λZ=>?_) λZ=>?_
     .exact z97 ⟨rfl,.inr ⟨_,_,_,_,_,rfl,m',hi,v,by lia⟩⟩
     .exact z97 ⟨rfl,_,_,_,_,_,rfl,m',hi,v,by lia⟩
   .rw[ya3 hw];dsimp only;rw[if_neg (by decide)];refine z91 (zN (yc4 a e (by lia)) ?_);have m':=m.pushA R (show e<a.size by lia) λy hy=>by have:=vm L u y hy;lia
    refine ifc (λJ=>?_) λJ=>?_
    .exact z97 ⟨rfl,.inl ⟨_,rfl,m'.finL L J na h2⟩⟩
    .have v:e+1+1<a.size:=by
                        have:¬e+1+1=a.size:=by simpa using J
                        lia
     refine ifc (λZ=>?_) λZ=>?_
     .exact z97 ⟨rfl,.inr ⟨_,_,_,_,_,rfl,m',v,u,by lia⟩⟩
     .exact z97 ⟨rfl,_,_,_,_,_,rfl,m',v,u,by lia⟩
  .rintro c st' ⟨rfl,out,e,d,ac,F,rfl,m,hi,u,G⟩;exact⟨rfl,.inr ⟨_,_,_,_,_,rfl,m,hi,u,by lia⟩⟩
  intro c st' D;apply zV2 (c:=c) (t:=st') (f:=(·.1)) D
  .intro r hr gd;rw[hr];exact z97 ⟨⟨g,rfl⟩,r,rfl,gd⟩
  intro out e d ac F l;have m:=l.1;have hi:=l.2.1;have u:=l.2.2.1;have G:=l.2.2.2;clear l D c;dsimp only;refine z91 (wpS_lift (yi8 ⟨rfl,?_⟩));clear m0;refine z91 (yk7 (yf7 (I:=λ_ c st'=>(∃g,st'=SG st g)/\∃k e d mg ac F,c=(none,k,e,d,mg,ac,F)/\MA a b k e d/\e+1<a.size/\d<b.size/\i+j+1<=e+d)
   (Q:=λc st'=>(∃g,st'=SG st g)/\((∃r,c.1=some r/\Good a.toList b.toList r.toList)\/∃k e d mg ac F,c=(none,k,e,d,mg,ac,F)/\MA a b k e d/\e+1<a.size/\d<b.size/\i+j+1<=e+d)) ?_ ?_ ⟨⟨g,rfl⟩,out,e,d,mg+1,ac,F,rfl,m,hi,u,G⟩) ?_)
  .clear m hi u G;intro y c st' _ hy D;apply el6 (c:=c) (t:=st') D;intro g out e d mg ac F l;have m:=l.1;have hi:=l.2.1;have u:=l.2.2.1;have G:=l.2.2.2;clear l D c;dsimp only;have e1:=yg7 (yD ib u);have a0:=wQ u
   revert mg
   refine share (λ_ z=>z) (λ_ z=>z) λmg=>z91 (ym9 ?_);refine z91 (zN (yc4 b d u) ?_);refine z91 (tm hk e1 ia (by lia) (by lia) (xZ λp q _ M h7=>qp R M (by lia)) λX S=>?_);have b0:=S.le;have C:=lh (P:=λz=>ky b[d]<=z) λt M h7=>by rw[<-a0];exact uY S M (by lia)
   have U:=uO (P:=λz=>z<=ky b[d]) λt M h7 _=>by rw[<-a0];exact tJ S M h7
   dsimp only;have H0:MA a b out e d/\e+1<a.size/\e+X<=a.size/\(∀y∈a.toList.drop (e+X),ky b[d]<=ky y)/\(∀x∈(a.toList.drop e).take X,ky x<=ky b[d])/\i+j+1<=e+d:=⟨m,hi,by lia,C,U,G⟩;clear m hi G C U S b0
   revert out e H0
   refine og (λo n=>MA a b o n d/\n+1<a.size/\(∀y∈a.toList.drop n,ky b[d]<=ky y)/\i+j+1<=n+d) (λ_ _ z=>z) ?_ ?_ ?_
   .intro out e H z;have m:=H.1;have hi:=H.2.1;have C:=H.2.2.2.1;have G:=H.2.2.2.2.2;have a4:X=0:=by lia
    subst a4;exact⟨m,hi,C,G⟩
   .intro W i1 H;have m1:=H.1;have a3:=H.2.1;have C:=H.2.2.1;have a8:=H.2.2.2;have m2:=m1.pushB L u C;refine z91 (zN (yc4 b d u) ?_);refine ifc (λJ=>?_) λJ=>?_
    .exact z97 ⟨⟨_,rfl⟩,.inl ⟨_,rfl,m2.finB R J⟩⟩
    have v:d+1<b.size:=by
     have:¬d+1=b.size:=by simpa using J
     lia
    have B:i1<a.size:=by lia
    have e2:=yg7 (yD ia B);refine z91 (zN (yc4 a i1 B) ?_);refine z91 (tm hk e2 ib (by lia) (by lia) (xZ λp q _ M h7=>qp L M (by lia)) λk2 T=>?_);have b2:=T.le;have a7:=wQ B;have H1:MA a b (W.push b[d]) i1 (d+1)/\d+1<b.size/\d+1+k2<=b.size/\(∀y∈b.toList.drop (d+1+k2),ky a[i1]<=ky y)/\(∀x∈(b.toList.drop (d+1)).take k2,ky x<=ky a[i1])/\i+j+1<=i1+(d+1):=
     ⟨m2,v,by lia,lh λt M h7=>by rw[<-a7];exact uY T M (by lia),uO (P:=λz=>z<=ky a[i1]) λt M h7 _=>by rw[<-a7];exact tJ T M h7,by lia⟩
    dsimp only;clear T b2 m2 v J m1 C a8;generalize W.push b[d]=O at H1 ⊢;generalize d+1=j1 at H1 ⊢
    revert O j1 H1
    refine og (λo n=>MA a b o i1 n/\n<b.size/\(∀y∈b.toList.drop n,ky a[i1]<=ky y)/\i+j+1<=i1+n) (λ_ _ z=>z) ?_ ?_ ?_
    .intro O j1 H z;have m2:=H.1;have v:=H.2.1;have N:=H.2.2.2.1;have a2:=H.2.2.2.2.2;have a1:k2=0:=by lia
     subst a1;exact⟨m2,v,N,a2⟩
    .intro b5 j3 H;have m3:=H.1;have V:=H.2.1;have N:=H.2.2.1;have b6:=H.2.2.2;have m4:=m3.pushA R B N;refine z91 (zN (yc4 a i1 B) ?_);refine ifc (λd3=>?_) λd3=>?_
     .exact z97 ⟨⟨_,rfl⟩,.inl ⟨_,rfl,m4.finL L d3 na h2⟩⟩
     have a5:i1+1+1<a.size:=by
      have:¬i1+1+1=a.size:=by simpa using d3
      lia
     have a6:i+j+1<=i1+1+j3:=by lia
     split
     .exact z97 ⟨⟨_,rfl⟩,.inr ⟨_,_,_,_,_,_,rfl,m4,a5,V,a6⟩⟩
     .exact z97 ⟨⟨_,rfl⟩,_,_,_,_,_,_,rfl,m4,a5,V,a6⟩
    .intro O j1 H b7 key;have m2:=H.1;have v:=H.2.1;have lk:=H.2.2.1;have N:=H.2.2.2.1;have b1:=H.2.2.2.2.1;have a2:=H.2.2.2.2.2;have m3:=m2.extB L lk λx Y y hy=>yh6 (b1 x Y) (vm R B y hy);refine ifc (λZ=>?_) λZ=>?_
     .exact z97 ⟨⟨_,rfl⟩,.inl ⟨_,rfl,m3.finB R Z⟩⟩
     have V:j1+k2<b.size:=by
      have:¬j1+k2=b.size:=by simpa using Z
      lia
     exact key _ _ ⟨m3,V,N,by lia⟩
   .intro out e H b8 key;have m:=H.1;have hi:=H.2.1;have lk:=H.2.2.1;have C:=H.2.2.2.1;have U:=H.2.2.2.2.1;have G:=H.2.2.2.2.2;have m1:=m.extA R lk λx Y y hy=>yh6 (U x Y) (vm L u y hy);refine ifc (λd4=>?_) λd4=>?_
    .exact z97 ⟨⟨_,rfl⟩,.inl ⟨_,rfl,m1.finL L d4 na h2⟩⟩
    refine ifc (λd5=>?_) λd5=>?_
    .exact z97 ⟨⟨_,rfl⟩,.inl ⟨_,rfl,m1.finA L d5⟩⟩
    have a3:e+X+1<a.size:=by
     have:¬e+X+1=a.size:=by simpa using d4
     have:¬e+X=a.size:=by simpa using d5
     lia
    exact key _ _ ⟨m1,a3,C,by lia⟩
  .rintro c st' ⟨⟨g,rfl⟩,k,e,d,mg,ac,F,rfl,m,hi,u,G⟩;exact⟨⟨g,rfl⟩,.inr ⟨_,_,_,_,_,_,rfl,m,hi,u,G⟩⟩
  .intro c st' D;apply zS2 (c:=c) (t:=st') (f:=(·.1)) D
   .intro g r hr gd;rw[hr];exact z97 ⟨⟨g,rfl⟩,r,rfl,gd⟩
   .intro g out e d mg ac F l;have m:=l.1;have hi:=l.2.1;have u:=l.2.2.1;have G:=l.2.2.2;clear l D c;dsimp only;exact z91 (ym9 (z97 ⟨⟨_,rfl⟩,_,_,_,_,rfl,m,hi,u,by lia⟩))
 .rintro c st' ⟨_,out,i,j,mg,rfl,m,hi,u,b3⟩
  lia
 .rintro c st' ⟨⟨g,rfl⟩,r,hr,gd⟩;rw[hr];exact z97 (h r g gd)
end
def mhi :Array Keyed->Array Keyed->StateT SortSt Sem (Array Keyed):=sortPriv% PySem.Builtin.mergeHi
structure MJ (a b L:List Keyed)(n m:Nat):Prop where
 na:n<=a.length
 mb:m<=b.length
 pm:L.Perm (a.drop n++b.drop m)
 up:Up L
 le:∀x∈a.take n++b.take m,∀y∈L,ky x<=ky y
section
variable {a b L:List Keyed}{n m k:Nat}
def MJ.doneA (h:MJ a b L 0 m)(c:Up b):Good a b (b.take m++L):=by
 refine⟨(yd9 _ h.pm).trans ?_,yb7.mpr ⟨c.sublist (yk9 _ _),h.up,λx d y hy=>h.le x (ya4 _ d) y hy⟩⟩;have:(b.take m++(a++b.drop m)).Perm (a++(b.take m++b.drop m)):=by
  rw[<-yb1,<-yb1];exact ym5 _ yi6
 rwa [yb4]at this
def MJ.doneB (h:MJ a b L n 0)(c:Up a):Good a b (a.take n++L):=by
 refine⟨(yd9 _ h.pm).trans ?_,yb7.mpr ⟨c.sublist (yk9 _ _),h.up,λx d y hy=>h.le x (yb3 _ d) y hy⟩⟩;rw[<-yb1,yb4];exact List.Perm.refl _
def MJ.first (h:MJ a b L n 1)(d:Up a)(hb:0<b.length)(f:∀x∈a,ky b[0]<=ky x):Good a b (b.take 1++a.take n++L):=by
 have e:b.take 1=[b[0]]:=by
  match b,hb with
  |y::ys,_=>rfl
 refine⟨?_,?_⟩
 .refine(yd9 _ h.pm).trans ?_;have:(b.take 1++a.take n++(a.drop n++b.drop 1)).Perm (a.take n++a.drop n++(b.take 1++b.drop 1)):=by
   rw[yb1 (a.take n)];rw[<-yb1 (a.drop n)];refine(ym5 _ yi6).trans ?_;rw[yb1];refine yd9 _ ?_;rw[<-yb1];exact ym5 _ yi6
  rwa [yb4,yb4]at this
 .refine yb7.mpr ⟨yb7.mpr ⟨by rw[e];exact yr5 _ _,d.sublist (yk9 _ _),λx c y hy=>?_⟩,h.up,λx c y hy=>?_⟩
  .rw[e]at c;rw[z92.mp c];exact f y (yd8 hy)
  .refine h.le x ?_ y hy;rcases ya8.mp c with c|c
   .exact ya4 _ c
   .exact yb3 _ c
def MJ.preA (h:MJ a b L n m)(g:Up a)(hk:k<=n)(l:∀x∈(a.take n).drop k,∀y∈b.take m,ky y<=ky x):MJ a b ((a.take n).drop k++L) k m:=by
 have f:(a.take n).take k=a.take k:=by rw[yu0,yo5 hk]
 have sp:a.take n=a.take k++(a.take n).drop k:=by rw[<-f,yb4]
 have i:Up (a.take n):=g.sublist (yk9 _ _);have d:=i;rw[sp]at d;obtain⟨o,j,e⟩:=yb7.mp d;refine⟨z93 hk h.na,h.mb,?_,yb7.mpr ⟨j,h.up,λx c y hy=>h.le x (yb3 _ (yg3 c)) y hy⟩,λx c y hy=>?_⟩
 .refine(yd9 _ h.pm).trans ?_;have:a.drop k=(a.take n).drop k++a.drop n:=by
   conv=>lhs;rw[<-yb4 n a]
   rw[List.drop_append_of_le_length (by have:=h.na;rw[yc3];lia)]
  rw[this,yb1]
 .rcases ya8.mp hy with hy|hy
  .rcases ya8.mp c with c|c
   .exact e x c y hy
   .exact l y hy x c
  .refine h.le x ?_ y hy;rcases ya8.mp c with c|c
   .rw[sp];exact yb3 _ (yb3 _ c)
   .exact ya4 _ c
def MJ.preB (h:MJ a b L n m)(g:Up b)(hk:k<=m)(j:∀x∈(b.take m).drop k,∀y∈a.take n,ky y<=ky x):MJ a b ((b.take m).drop k++L) n k:=by
 have f:(b.take m).take k=b.take k:=by rw[yu0,yo5 hk]
 have sp:b.take m=b.take k++(b.take m).drop k:=by rw[<-f,yb4]
 have d:Up (b.take m):=g.sublist (yk9 _ _);rw[sp]at d;obtain⟨l,i,e⟩:=yb7.mp d;refine⟨h.na,z93 hk h.mb,?_,yb7.mpr ⟨i,h.up,λx c y hy=>h.le x (ya4 _ (yg3 c)) y hy⟩,λx c y hy=>?_⟩
 .refine(yd9 _ h.pm).trans ?_;have:b.drop k=(b.take m).drop k++b.drop m:=by
   conv=>lhs;rw[<-yb4 m b]
   rw[List.drop_append_of_le_length (by have:=h.mb;rw[yc3];lia)]
  rw[this,<-yb1,<-yb1];exact ym5 _ yi6
 .rcases ya8.mp hy with hy|hy
  .rcases ya8.mp c with c|c
   .exact j y hy x c
   .exact e x c y hy
  .refine h.le x ?_ y hy;rcases ya8.mp c with c|c
   .exact yb3 _ c
   .rw[sp];exact ya4 _ (yb3 _ c)
end
abbrev MB (a b out:Array Keyed)(n m:Nat):Prop:=MJ a.toList b.toList out.toList.reverse n m
section
variable {a b out:Array Keyed}{n m k:Nat}
def qW (a:Array Keyed)(n:Nat):(a.extract 0 n).toList=a.toList.take n:=by rw[yp4,ym8];simp
def vC (a:Array Keyed)(k n:Nat):(a.extract k n).toList=(a.toList.take n).drop k:=by rw[yp4,ym8,List.drop_take]
def MB.extA (h:MB a b out n m)(c:Up a.toList)(hk:k<=n)(d:∀x∈(a.toList.take n).drop k,∀y∈b.toList.take m,ky y<=ky x):MB a b (out++(a.extract k n).reverse) k m:=by
 have:=h.preA c hk d;unfold MB
 rwa [yc0,yn0,yq1,List.reverse_reverse,vC]
def MB.extB (h:MB a b out n m)(c:Up b.toList)(hk:k<=m)(d:∀x∈(b.toList.take m).drop k,∀y∈a.toList.take n,ky y<=ky x):MB a b (out++(b.extract k m).reverse) n k:=by
 have:=h.preB c hk d;unfold MB
 rwa [yc0,yn0,yq1,List.reverse_reverse,vC]
def pJ {a:Array Keyed}{n:Nat}(h:n-1<a.size)(h0:0<n):(a.toList.take n).drop (n-1)=[a[n-1]]:=by
 have:n-(n-1)=1:=by lia
 rw[List.drop_take,this,take1 _ (by simpa using h)];simp
def MB.pushA (h:MB a b out n m)(c:Up a.toList)(h0:0<n)(hn:n-1<a.size)(f:∀y∈b.toList.take m,ky y<=ky a[n-1]):MB a b (out.push a[n-1]) (n-1) m:=by
 have e:=pJ hn h0;have:=h.preA (k:=n-1) c (by lia) (by rw[e];intro x d;rw[z92.mp d];exact f);unfold MB;rw[e]at this
 rwa [yl2,yq1]
def MB.pushB (h:MB a b out n m)(d:Up b.toList)(h0:0<m)(hm:m-1<b.size)(f:∀y∈a.toList.take n,ky y<=ky b[m-1]):MB a b (out.push b[m-1]) n (m-1):=by
 have e:=pJ hm h0;have:=h.preB (k:=m-1) d (by lia) (by rw[e];intro x c;rw[z92.mp c];exact f);unfold MB;rw[e]at this
 rwa [yl2,yq1]
def MB.finA (h:MB a b out n m)(c:Up b.toList)(e:(n == 0)=true):Good a.toList b.toList (a.extract 0 n++b.extract 0 m++out.reverse).toList:=by
 have d:n=0:=by simpa using e
 subst d;rw[yc0,yc0,qW,qW,yn0];exact h.doneA c
def MB.finB (h:MB a b out n m)(c:Up a.toList)(e:(m == 0)=true):Good a.toList b.toList (a.extract 0 n++b.extract 0 m++out.reverse).toList:=by
 have d:m=0:=by simpa using e
 subst d;rw[yc0,yc0,qW,qW,yn0,List.take_zero,ye3];exact h.doneB c
def MB.finF (h:MB a b out n m)(d:Up a.toList)(e:(m == 1)=true)(hb:0<b.size)(f:∀x∈a.toList,ky b[0]<=ky x):Good a.toList b.toList (b.extract 0 m++a.extract 0 n++out.reverse).toList:=by
 have c:m=1:=by simpa using e
 subst c;rw[yc0,yc0,qW,qW,yn0];exact h.first d (by simpa using hb) (by simpa using f)
def tq {a:Array Keyed}{P:Int->Prop}{n:Nat}(h:∀t,t<n->t<a.size->P (K a t)):∀x∈a.toList.take n,P (ky x):=λx c=>by
 have:=uO (i:=0) (k:=n) (λt _ h1 h2=>h t (by lia) h2) x;exact this (by simpa using c)
def ig {a:Array Keyed}{P:Int->Prop}{k n:Nat}(h:∀t,k<=t->t<n->t<a.size->P (K a t)):∀x∈(a.toList.take n).drop k,P (ky x):=λx c=>by
 rw[List.drop_take]at c;exact uO (λt h0 h1 h2=>h t h0 (by lia) h2) x c
def uB {a:Array Keyed}(u:Up a.toList){n:Nat}(hn:n-1<a.size):∀y∈a.toList.take n,ky y<=ky a[n-1]:=by
 rw[<-wQ hn];exact tq (P:=λz=>z<=K a (n-1)) λt h1 h2=>qp u (by lia) hn
end
section
variable {prog:Ag}{w:Ak}{A:Am}{E:Ab->Ac->Prop}{s:Ac}{a₀:Array Keyed}
def zP0 {st:SortSt}{a b:Array Keyed}{Q:Array Keyed->SortSt->Prop}(hk:kindOf st=oneType')(ia:IntKeys a)(ib:IntKeys b)(L:Up a.toList)(T:Up b.toList)(na:0<a.size)(nb:0<b.size)
  (h1:∀x∈a.toList,ky b[0]<=ky x) (h2:∀y∈b.toList,ky y<=ky a[a.size-1])
  (h:∀r g,Good a.toList b.toList r.toList->Q r (SG st g)):wpS (Ah prog w) A E s (mhi a b) Q st:=by
 have m0:MB a b #[a[a.size-1]] (a.size-1) b.size:=by
  have:MB a b #[] a.size b.size:=⟨by simp,by simp,by simp,.nil,λx hx y hy=>by simp at hy⟩;have:=this.pushA L na (by lia) (λy hy=>h2 y (yd8 hy));simpa using this
 refine z91 (wpS_lift (yi8 ⟨rfl,z91 (zN (yc4 a (a.size-1) (by lia)) ?_)⟩));dsimp only;refine ifc (λc1=>?_) λc1=>?_
 .exact z97 (h _ (gallopOf st) (m0.finA T c1))
 refine ifc (λc2=>?_) λc2=>?_
 .exact z97 (h _ (gallopOf st) (m0.finF L c2 nb h1))
 refine z91 (wpS_get ?_);have b2:0<a.size-1:=by
  have:¬a.size-1=0:=by simpa using c1
  lia
 have b3:1<b.size:=by
  have:¬b.size=1:=by simpa using c2
  lia
 refine z91 (yk7 (yf7 (I:=λx c st'=>(∃g,st'=SG st g)/\∃out n m mg,c=(none,n,m,out,mg)/\MB a b out n m/\0<n/\1<m/\n<a.size/\m<=b.size/\x+1+n+m<=a.size+b.size)
  (Q:=λc st'=>(∃g,st'=SG st g)/\∃r,c.1=some r/\Good a.toList b.toList r.toList) ?_ ?_ ⟨⟨_,rfl⟩,_,_,_,_,rfl,m0,b2,b3,by lia,by lia,by lia⟩) ?_)
 .clear m0;intro x c st' _ hx D;apply el4 (c:=c) (t:=st') D;intro g out n m mg i;have m0:=i.1;have hn:=i.2.1;have hm:=i.2.2.1;have a1:=i.2.2.2.1;have u:=i.2.2.2.2.1;have b1:=i.2.2.2.2.2;clear i D c;dsimp only;refine z91 (yk7 (yf7 (I:=λx c st'=>st'=SG st g/\∃j e d ac F,c=(none,e,d,j,ac,F)/\MB a b j e d/\0<e/\1<d/\e<a.size/\d<=b.size/\x+e+d<=n+m)
   (Q:=λc st'=>st'=SG st g/\((∃r,c.1=some r/\Good a.toList b.toList r.toList)\/∃j e d ac F,c=(none,e,d,j,ac,F)/\MB a b j e d/\0<e/\1<d/\e<a.size/\d<=b.size/\1+e+d<=n+m)) ?_ ?_ ⟨rfl,out,n,m,0,0,rfl,m0,hn,hm,a1,u,by lia⟩) ?_)
  .clear m0 a1 u hn hm;intro x c st' _ hx D;apply el5 (c:=c) (t:=st') D;intro out e d ac F i;have m0:=i.1;have hn:=i.2.1;have hm:=i.2.2.1;have k:=i.2.2.2.1;have v:=i.2.2.2.2.1;have C:=i.2.2.2.2.2;clear i D c;dsimp only;have hj:d-1<b.size:=by lia
   have hi:e-1<a.size:=by lia
   have e1:=yg7 (yD ib hj);have e2:=yg7 (yD ia hi);have X:=wQ hj;have S:=wQ hi;refine z91 (zN (yc4 b _ hj) (z91 (zN (yc4 a _ hi) (z91 (iZ hk e1 e2 ?_)))));by_cases hw:K b (d-1)<K a (e-1)
   .rw[ya9 hw];dsimp only;rw[if_pos rfl];refine z91 (zN (yc4 a _ hi) ?_);have m1:=m0.pushA L hn hi λy hy=>by have:=uB T hj y hy;lia
    refine ifc (λJ=>?_) λJ=>?_
    .exact z97 ⟨rfl,.inl ⟨_,rfl,m1.finA T J⟩⟩
    .have l:0<e-1:=by
                   have:¬e-1=0:=by simpa using J
                   lia
     refine ifc (λd2=>?_) λd2=>?_
     .exact z97 ⟨rfl,.inr ⟨_,_,_,_,_,rfl,m1,l,hm,by lia,v,by lia⟩⟩
     .exact z97 ⟨rfl,_,_,_,_,_,rfl,m1,l,hm,by lia,v,by lia⟩
   .rw[ya3 hw];dsimp only;rw[if_neg (by decide)];refine z91 (zN (yc4 b _ hj) ?_);have m1:=m0.pushB T (by lia) hj λy hy=>by have:=uB L hi y hy;lia
    refine ifc (λJ=>?_) λJ=>?_
    .exact z97 ⟨rfl,.inl ⟨_,rfl,m1.finF L J nb h1⟩⟩
    .have l:1<d-1:=by
                   have:¬d-1=1:=by simpa using J
                   lia
     refine ifc (λd2=>?_) λd2=>?_
     .exact z97 ⟨rfl,.inr ⟨_,_,_,_,_,rfl,m1,hn,l,by lia,by lia,by lia⟩⟩
     .exact z97 ⟨rfl,_,_,_,_,_,rfl,m1,hn,l,by lia,by lia,by lia⟩
  .rintro c st' ⟨rfl,out,e,d,ac,F,rfl,m0,hn,hm,k,v,C⟩;exact⟨rfl,.inr ⟨_,_,_,_,_,rfl,m0,hn,hm,k,v,by lia⟩⟩
  intro c st' D;apply zV2 (c:=c) (t:=st') (f:=(·.1)) D
  .intro r hr gd;rw[hr];exact z97 ⟨⟨g,rfl⟩,r,rfl,gd⟩
  intro out e d ac F i;have m0:=i.1;have hn:=i.2.1;have hm:=i.2.2.1;have k:=i.2.2.2.1;have v:=i.2.2.2.2.1;have C:=i.2.2.2.2.2;clear i D c;dsimp only;refine z91 (wpS_lift (yi8 ⟨rfl,?_⟩));refine z91 (yk7 (yf7 (I:=λ_ c st'=>(∃g,st'=SG st g)/\∃j e d mg ac F,c=(none,e,d,j,mg,ac,F)/\MB a b j e d/\0<e/\1<d/\e<a.size/\d<=b.size/\1+e+d<=n+m)
   (Q:=λc st'=>(∃g,st'=SG st g)/\((∃r,c.1=some r/\Good a.toList b.toList r.toList)\/∃j e d mg ac F,c=(none,e,d,j,mg,ac,F)/\MB a b j e d/\0<e/\1<d/\e<a.size/\d<=b.size/\1+e+d<=n+m)) ?_ ?_ ⟨⟨g,rfl⟩,out,e,d,mg+1,ac,F,rfl,m0,hn,hm,k,v,C⟩) ?_)
  .clear m0 hn hm k v C a1 u;intro y c st' _ hy D;apply el6 (c:=c) (t:=st') D;intro g out e d mg ac F i;have m0:=i.1;have hn:=i.2.1;have hm:=i.2.2.1;have k:=i.2.2.2.1;have v:=i.2.2.2.2.1;have C:=i.2.2.2.2.2;clear i D c;dsimp only;have u:d-1<b.size:=by lia
   have e1:=yg7 (yD ib u);have a2:=wQ u
   revert mg
   refine share (λ_ z=>z) (λ_ z=>z) λmg=>z91 (ym9 ?_);refine z91 (zN (yc4 b (d-1) u) ?_);refine z91 (tm hk e1 ia (by lia) (by lia) (xZ λp q _ h6 h7=>qp L h6 (by lia)) λX U=>?_);have M:=U.le;dsimp only;generalize Y:e-X=ac1;have H0:MB a b out e d/\0<e/\e<a.size/\(X<=e/\e-X=ac1)/\(∀y∈a.toList.take X,ky y<=ky b[d-1])/\(∀x∈(a.toList.take e).drop X,ky b[d-1]<=ky x)/\1+e+d<=n+m:=
    ⟨m0,hn,k,⟨M,Y⟩,tq (P:=λz=>z<=ky b[d-1]) λt h6 h7=>by rw[<-a2];exact tJ U (by lia) (by lia),ig λt h6 h7 _=>by rw[<-a2];exact uY U (by lia) (by lia),C⟩
   clear m0 hn k C U M Y
   revert out e H0
   refine og (λo n1=>MB a b o n1 d/\0<n1/\n1<a.size/\(∀y∈a.toList.take n1,ky y<=ky b[d-1])/\1+n1+d<=n+m) (λ_ _ z=>z) ?_ ?_ ?_
   .intro out e H z;have m0:=H.1;have hn:=H.2.1;have k:=H.2.2.1;have M:=H.2.2.2.1.1;have Y:=H.2.2.2.1.2;have G:=H.2.2.2.2.1;have C:=H.2.2.2.2.2.2;clear H;have a4:X=e:=by lia
    subst a4;exact⟨m0,hn,k,G,C⟩
   .intro a0 n1 H;have m1:=H.1;have hn:=H.2.1;have k:=H.2.2.1;have G:=H.2.2.2.1;have C:=H.2.2.2.2;clear H;have m2:=m1.pushB T (by lia) u G;refine z91 (zN (yc4 b (d-1) u) ?_);refine ifc (λJ=>?_) λJ=>?_
    .exact z97 ⟨⟨_,rfl⟩,.inl ⟨_,rfl,m2.finF L J nb h1⟩⟩
    have l:1<d-1:=by
     have:¬d-1=1:=by simpa using J
     lia
    have B:n1-1<a.size:=by lia
    have e2:=yg7 (yD ia B);refine z91 (zN (yc4 a (n1-1) B) ?_);refine z91 (tm hk e2 ib (by lia) (by lia) (xZ λp q _ h6 h7=>qp T h6 (by lia)) λS V=>?_);have N:=V.le;have a7:=wQ B;dsimp only;generalize Z:d-1-S=bc1;have H1:MB a b (a0.push b[d-1]) n1 (d-1)/\1<d-1/\d-1<=b.size/\(S<=d-1/\d-1-S=bc1)/\(∀y∈b.toList.take S,ky y<=ky a[n1-1])/\(∀x∈(b.toList.take (d-1)).drop S,ky a[n1-1]<=ky x)/\1+n1+(d-1)<=n+m:=
     ⟨m2,l,by lia,⟨N,Z⟩,tq (P:=λz=>z<=ky a[n1-1]) λt h6 h7=>by rw[<-a7];exact tJ V (by lia) (by lia),ig λt h6 h7 _=>by rw[<-a7];exact uY V (by lia) (by lia),by lia⟩
    clear V N m2 l J m1 G C Z;generalize a0.push b[d-1]=R at H1 ⊢;generalize d-1=m2 at H1 ⊢
    revert R m2 H1
    refine og (λo n2=>MB a b o n1 n2/\1<n2/\n2<=b.size/\(∀y∈b.toList.take n2,ky y<=ky a[n1-1])/\1+n1+n2<=n+m) (λ_ _ z=>z) ?_ ?_ ?_
    .intro R m2 H z;have mm:=H.1;have l:=H.2.1;have lb:=H.2.2.1;have N:=H.2.2.2.1.1;have Z:=H.2.2.2.1.2;have O:=H.2.2.2.2.1;have C:=H.2.2.2.2.2.2;clear H;have a3:S=m2:=by lia
     subst a3;exact⟨mm,l,lb,O,C⟩
    .intro b4 m3 H;have mm:=H.1;have W:=H.2.1;have lb:=H.2.2.1;have O:=H.2.2.2.1;have C:=H.2.2.2.2;clear H;have m4:=mm.pushA L (by lia) B O;refine z91 (zN (yc4 a (n1-1) B) ?_);refine ifc (λd3=>?_) λd3=>?_
     .exact z97 ⟨⟨_,rfl⟩,.inl ⟨_,rfl,m4.finA T d3⟩⟩
     have a5:0<n1-1:=by
      have:¬n1-1=0:=by simpa using d3
      lia
     have a6:1+(n1-1)+m3<=n+m:=by lia
     split
     .exact z97 ⟨⟨_,rfl⟩,.inr ⟨_,_,_,_,_,_,rfl,m4,a5,W,by lia,lb,a6⟩⟩
     .exact z97 ⟨⟨_,rfl⟩,_,_,_,_,_,_,rfl,m4,a5,W,by lia,lb,a6⟩
    .intro R m2 H b5 key;have mm:=H.1;have l:=H.2.1;have lb:=H.2.2.1;have N:=H.2.2.2.1.1;have Z:=H.2.2.2.1.2;have O:=H.2.2.2.2.1;have a8:=H.2.2.2.2.2.1;have C:=H.2.2.2.2.2.2;clear H;have m3:=mm.extB T N λx hx y hy=>yh6 (uB L B y hy) (a8 x hx);refine ifc (λd2=>?_) λd2=>?_
     .exact z97 ⟨⟨_,rfl⟩,.inl ⟨_,rfl,m3.finF L d2 nb h1⟩⟩
     refine ifc (λd5=>?_) λd5=>?_
     .exact z97 ⟨⟨_,rfl⟩,.inl ⟨_,rfl,m3.finB L d5⟩⟩
     have W:1<S:=by
      have:¬S=1:=by simpa using d2
      have:¬S=0:=by simpa using d5
      lia
     exact key _ _ ⟨m3,W,by lia,O,by lia⟩
   .intro out e H b6 key;have m0:=H.1;have hn:=H.2.1;have k:=H.2.2.1;have M:=H.2.2.2.1.1;have Y:=H.2.2.2.1.2;have G:=H.2.2.2.2.1;have b0:=H.2.2.2.2.2.1;have C:=H.2.2.2.2.2.2;clear H;have m1:=m0.extA L M λx hx y hy=>yh6 (uB T u y hy) (b0 x hx);refine ifc (λd4=>?_) λd4=>?_
    .exact z97 ⟨⟨_,rfl⟩,.inl ⟨_,rfl,m1.finA T d4⟩⟩
    have a9:0<X:=by
     have:¬X=0:=by simpa using d4
     lia
    exact key _ _ ⟨m1,a9,by lia,G,by lia⟩
  .rintro c st' ⟨⟨g,rfl⟩,j,e,d,mg,ac,F,rfl,m0,r⟩;exact⟨⟨g,rfl⟩,.inr ⟨_,_,_,_,_,_,rfl,m0,r⟩⟩
  .intro c st' D;apply zS2 (c:=c) (t:=st') (f:=(·.1)) D
   .intro g r hr gd;rw[hr];exact z97 ⟨⟨g,rfl⟩,r,rfl,gd⟩
   .intro g out e d mg ac F i;have m0:=i.1;have hn:=i.2.1;have hm:=i.2.2.1;have k:=i.2.2.2.1;have v:=i.2.2.2.2.1;have C:=i.2.2.2.2.2;clear i D c;dsimp only;exact z91 (ym9 (z97 ⟨⟨_,rfl⟩,_,_,_,_,rfl,m0,hn,hm,k,v,by lia⟩))
 .rintro c st' ⟨_,out,n,m,mg,rfl,m0,hn,hm,_,_,b1⟩
  lia
 .rintro c st' ⟨⟨g,rfl⟩,r,hr,gd⟩;rw[hr];exact z97 (h r g gd)
end
def yh (xs:Array Keyed)(l u:Nat):Prop:=∀i j,l<=i->i<=j->j<u->K xs i<=K xs j
def zw5 {M:Model}{A:Am}{E:Ab->Ac->Prop}{s:Ac}{B:Type}{x:B}{Q:PUnit->B->Prop}{st:B}(h:Q ⟨⟩ x):wpS M A E s (set x:StateT B Sem PUnit) Q st:=by unfold wpS;rw[StateT.run_set];exact z80 ⟨rfl,h⟩
theorem zz4 (o:Nat):∀(M:List Keyed) (k:Nat) (P Z S:List Keyed) (arr:Array Keyed),arr.toList=P++Z++S->P.length=o+k->Z.length=M.length->
  ((M.zipIdx k).foldl (λa (c:Keyed×Nat)=>a.setIfInBounds (o+c.2) c.1) arr).toList=P++M++S
 |[],k,P,Z,S,arr,h,_,b=>by
  have:Z=[]:=yn8.mp b;subst this;exact h
 |p::M,k,P,[],S,arr,h,d,b=>by cases b
 |p::M,k,P,z::Z,S,arr,h,d,b=>by
  rw[List.zipIdx_cons,yo4];have:=zz4 o M (k+1) (P++[p]) Z S (arr.setIfInBounds (o+k) p) (by
   rw[Array.toList_setIfInBounds,h,<-d];simp) (by simp;lia) (by simpa using b)
  rw[this];simp
def ug {xs ys:Array Keyed}(h:IntKeys ys)(b:∀p∈xs.toList,p∈ys.toList):IntKeys xs:=λp a=>h p (b p a)
def kN (xs:Array Keyed)(P M S:List Keyed)(e:xs.toList=P++M++S){t:Nat}(h:t<M.length):K xs (P.length+t)=ky M[t]:=by
 have a:P.length+t<xs.size:=by
  have:=congrArg List.length e;simp at this;lia
 rw[wQ a];have:xs[P.length+t]=xs.toList[P.length+t]'(by simpa using a):=by simp
 rw[this];simp only[e];rw[List.getElem_append_left (by simp;lia),List.getElem_append_right (by lia)];simp
def zW6 {xs ys:Array Keyed}{P M Z S:List Keyed}(e:xs.toList=P++M++S)(f:ys.toList=P++Z++S)(a:M.length=Z.length){t:Nat}(h:t<P.length\/P.length+M.length<=t):K xs t=K ys t:=by
 refine K_congr ?_;rw[<-yk2,<-yk2,e,f];rcases h with h|h
 .rw[yb1,yb1,ye4 h,ye4 h]
 .rw[ye7 (by simp;lia),ye7 (by simp;lia)];simp only[z95,a]
section
variable {prog:Ag}{w:Ak}{A:Am}{E:Ab->Ac->Prop}{s:Ac}
def cR {xs:Array Keyed}{l u:Nat}(h:yh xs l u)(c:u<=xs.size):Up (xs.extract l u).toList:=by
 refine yi1.mpr λi j hi a b=>?_;simp at hi a;have:=h (l+i) (l+j) (by lia) (by lia) (by lia);rw[wQ (show l+i<xs.size by lia),wQ (show l+j<xs.size by lia)]at this;simpa using this
def ext_mem {xs:Array Keyed}{l u:Nat}(b:u<=xs.size){e:Keyed}(h:e∈(xs.extract l u).toList):∃t,l<=t/\t<u/\ky e=K xs t:=by
 obtain⟨t,a,rfl⟩:=yi9.mp h;simp at a;refine⟨l+t,by lia,by lia,?_⟩;rw[wQ (show l+t<xs.size by lia)];simp
def zd7 {xs:Array Keyed}{l u t:Nat}(a:u<=xs.size)(h:t<(xs.extract l u).size):ky (xs.extract l u)[t]=K xs (l+t):=by
 have h':l+t<xs.size:=by simp at h;lia
 rw[wQ h'];simp
def kQ {st:SortSt}{i sa na pw sb nb B:Nat}{Q:Bool->SortSt->Prop}(hk:kindOf st=oneType')(hf:failedOf st=none)(z:IntKeys (arrOf st))
  (e1:(pendingOf st)[i]?=some (sa,na,pw)) (e2:(pendingOf st)[i+1]?=some (sb,nb,B)) (a3:sa+na=sb) (N:0<na) (a7:0<nb) (a6:sb+nb<=(arrOf st).size)
  (x:yh (arrOf st) sa sb) (y:yh (arrOf st) sb (sb+nb))
  (h:∀b g,b.Perm (arrOf st)->(∀t,t<sa\/sb+nb<=t->K b t=K (arrOf st) t)->yh b sa (sb+nb)->
   Q true (SortSt.mk' (kindOf st) b (((pendingOf st).setIfInBounds i (sa,na+nb,pw)).eraseIdxIfInBounds (i+1)) g (failedOf st))):
  wpS (Ah prog w) A E s (mergeAt' i) Q st:=by
 refine z91 (wpS_get ?_);rw[show(pendingOf st)[i]?=some (sa,na,pw)from e1];rw[show(pendingOf st)[i+1]?=some (sb,nb,B)from e2];dsimp only;refine z91 (zw5 ?_);have n:∀p,kindOf (setPending st p)=oneType':=λ_=>hk;have F:sb<(arrOf st).size:=by lia
 obtain⟨t1,f1⟩:=yD z F;refine z91 (zN (yc4 (arrOf st) sb F) ?_);refine z91 (tm (n _) f1 z (show sa+na<=(arrOf st).size by lia) N (xZ λp q c f m=>x p q c f (by lia)) λk ct=>?_);dsimp only;have o:∀t,sa<=t->t<sa+k->∀q,sb<=q->q<sb+nb->K (arrOf st) t<=K (arrOf st) q:=λt h3 d q c f=>yh6 (tJ ct h3 d) (y sb q (by lia) c f);have v:∀t,sa+k<=t->t<sb->K (arrOf st) sb<=K (arrOf st) t:=λt h3 d=>uY ct h3 (by lia);by_cases L:(na-k == 0)=true
 .rw[if_pos L];refine z97 (h (arrOf st) (gallopOf st) (yj4 _) (λ_ _=>rfl) λp q h3 d c=>?_);by_cases J:q<sb
  .exact x p q h3 d J
  .by_cases U:p<sb
   .exact o p h3 (by lia) q (by lia) c
   .exact y p q (by lia) d c
 rw[if_neg L];have a4:k<na:=by
  have:¬na-k=0:=by simpa using L
  lia
 have H:sa+k+(na-k)-1<(arrOf st).size:=by lia
 obtain⟨t2,f2⟩:=yD z H;refine z91 (zN (yc4 (arrOf st) _ H) ?_);refine z91 (tm (n _) f2 z (show sb+nb<=(arrOf st).size by lia) (by lia) (xZ λp q c f m=>y p q c f (by lia)) λn2 l=>?_);have a0:=l.le;have P:sa+k+(na-k)-1=sb-1:=by lia
 rw[P]at l;dsimp only;have D:∀t,sb<=t->t<sb+n2->K (arrOf st) t<=K (arrOf st) (sb-1):=λt h3 d=>tJ l h3 d;have j:∀q,sb+n2<=q->q<sb+nb->∀t,sa<=t->t<sb->K (arrOf st) t<=K (arrOf st) q:=λq c f t h3 d=>yh6 (x t (sb-1) h3 (by lia) (by lia)) (uY l c f);by_cases M:(n2 == 0)=true
 .rw[if_pos M];refine z97 (h (arrOf st) (gallopOf st) (yj4 _) (λ_ _=>rfl) λp q h3 d c=>?_);by_cases J:q<sb
  .exact x p q h3 d J
  .by_cases U:p<sb
   .exact j q (by lia) c p h3 U
   .exact y p q (by lia) d c
 rw[if_neg M];have a5:0<n2:=by
  have:¬n2=0:=by simpa using M
  lia
 have ix:IntKeys ((arrOf st).extract (sa+k) sb):=ug z λp C=>by
  rw[vC]at C;exact yd8 (yg3 C)
 have W:IntKeys ((arrOf st).extract sb (sb+n2)):=ug z λp C=>by
  rw[vC]at C;exact yd8 (yg3 C)
 have V:Up ((arrOf st).extract (sa+k) sb).toList:=cR (λp q h3 d c=>x p q (by lia) d c) (by lia);have uy:Up ((arrOf st).extract sb (sb+n2)).toList:=cR (λp q h3 d c=>y p q h3 d (by lia)) (by lia);have sx:((arrOf st).extract (sa+k) sb).size=na-k:=by simp;lia
 have sy:((arrOf st).extract sb (sb+n2)).size=n2:=by simp;lia
 have px:0<((arrOf st).extract (sa+k) sb).size:=by lia
 have py:0<((arrOf st).extract sb (sb+n2)).size:=by lia
 have q1:∀e∈((arrOf st).extract (sa+k) sb).toList,ky (((arrOf st).extract sb (sb+n2))[0]'(by lia))<=ky e:=λe he=>by
  obtain⟨t,h3,d,c⟩:=ext_mem (by lia) he;rw[c,zd7 (by lia)];exact v t h3 d
 have Z:∀e∈((arrOf st).extract sb (sb+n2)).toList,ky e<=ky (((arrOf st).extract (sa+k) sb)[((arrOf st).extract (sa+k) sb).size-1]'(by lia)):=λe he=>by
  obtain⟨t,h3,d,c⟩:=ext_mem (by lia) he;rw[c,zd7 (by lia),sx,show sa+k+(na-k-1)=sb-1 by lia];exact D t h3 d
 have fin:∀{st':SortSt} (r:Array Keyed) (g:Nat),Good ((arrOf st).extract (sa+k) sb).toList ((arrOf st).extract sb (sb+n2)).toList r.toList->
   ∃b:Array Keyed,(r.toList.zipIdx.foldl (λa G=>a.setIfInBounds (sa+k+G.2) G.1) (arrOf st))=b/\b.Perm (arrOf st)/\(∀t,t<sa\/sb+nb<=t->K b t=K (arrOf st) t)/\yh b sa (sb+nb):=λ{st'} r g gd=>by
  refine⟨_,rfl,?_⟩;have lr:r.toList.length=na-k+n2:=by rw[gd.pm.length_eq,z95,yf8,yf8,sx,sy]
  have sp:(arrOf st).toList=(arrOf st).toList.take (sa+k)++(((arrOf st).extract (sa+k) sb).toList++((arrOf st).extract sb (sb+n2)).toList)++(arrOf st).toList.drop (sb+n2):=by
   rw[vC,vC];have a1:(arrOf st).toList.take (sa+k)++((arrOf st).toList.take sb).drop (sa+k)=(arrOf st).toList.take sb:=by
    have:=yb4 (sa+k) ((arrOf st).toList.take sb)
    rwa [yu0,yo5 (by lia)]at this
   have a2:(arrOf st).toList.take sb++((arrOf st).toList.take (sb+n2)).drop sb=(arrOf st).toList.take (sb+n2):=by
    have:=yb4 sb ((arrOf st).toList.take (sb+n2))
    rwa [yu0,yo5 (by lia)]at this
   rw[<-yb1,a1,a2,yb4]
  have I:((arrOf st).toList.take (sa+k)).length=sa+k:=by simp;lia
  have Y:(((arrOf st).extract (sa+k) sb).toList++((arrOf st).extract sb (sb+n2)).toList).length=r.toList.length:=by rw[gd.pm.length_eq]
  have wr:=zz4 (sa+k) r.toList 0 _ _ _ (arrOf st) sp (by rw[I];rfl) Y;generalize r.toList.zipIdx.foldl (λa G=>a.setIfInBounds (sa+k+G.2) G.1) (arrOf st)=b at wr;have u:∀t,t<sa+k\/sb+n2<=t->K b t=K (arrOf st) t:=λt ht=>zW6 wr sp Y.symm (by rw[I];lia);have km:∀t,sa+k<=t->t<sb+n2->∃q,sa+k<=q/\q<sb+n2/\K b t=K (arrOf st) q:=λt h3 d=>by
   have:=kN b _ _ _ wr (t:=t-(sa+k)) (by lia);rw[I,show sa+k+(t-(sa+k))=t by lia]at this;have hm:=gd.pm.mem_iff.mp (ye9 (show t-(sa+k)<r.toList.length by lia));rcases ya8.mp hm with hm|hm
   .obtain⟨q,c,f,m⟩:=ext_mem (by lia) hm;exact⟨q,c,by lia,by rw[this];exact m⟩
   .obtain⟨q,c,f,m⟩:=ext_mem (by lia) hm;exact⟨q,by lia,f,by rw[this];exact m⟩
  refine⟨?_,λt ht=>u t (by lia),λp q h3 d c=>?_⟩
  .rw[yp6,wr];exact List.Perm.trans (ym5 _ (yd9 _ gd.pm)) (List.Perm.of_eq sp.symm)
  .by_cases J:q<sa+k
   .rw[u p (by lia),u q (by lia)];exact x p q h3 d (by lia)
   by_cases U:sb+n2<=p
   .rw[u p (by lia),u q (by lia)];exact y p q (by lia) d c
   by_cases c3:p<sa+k
   .rw[u p (by lia)];have g1:∀t,sa+k<=t->t<sb+nb->K (arrOf st) p<=K (arrOf st) t:=λt f m=>by
     by_cases S:t<sb
     .exact x p t h3 (by lia) S
     .exact o p h3 c3 t (by lia) m
    by_cases c5:sb+n2<=q
    .rw[u q (by lia)];exact g1 q (by lia) c
    .obtain⟨t,f,m,O⟩:=km q (by lia) (by lia);rw[O];exact g1 t f (by lia)
   .by_cases c5:sb+n2<=q
    .rw[u q (by lia)];obtain⟨t,f,m,O⟩:=km p (by lia) (by lia);rw[O];by_cases S:t<sb
     .exact j q c5 c t (by lia) S
     .exact y t q (by lia) (by lia) c
    .have r1:=kN b _ _ _ wr (t:=p-(sa+k)) (by lia);have X:=kN b _ _ _ wr (t:=q-(sa+k)) (by lia);rw[I,show sa+k+(p-(sa+k))=p by lia]at r1;rw[I,show sa+k+(q-(sa+k))=q by lia]at X;rw[r1,X];by_cases c6:p=q
     .subst c6;exact yd6 _
     .exact yi1.mp gd.up _ _ _ _ (by lia)
 split
 .refine z91 (zI9 (n _) ix W V uy px py q1 Z λr g gd=>?_);obtain⟨b,T,g1,g2,g3⟩:=fin (st':=st) r g gd;refine z91 (ym9 (z91 (wpS_get (z97 ?_))));have:=h b g g1 g2 g3;subst T;have R:(failedOf st).isNone=true:=by rw[hf];rfl
  rw[<-R]at this;exact this
 .refine z91 (zP0 (n _) ix W V uy px py q1 Z λr g gd=>?_);obtain⟨b,T,g1,g2,g3⟩:=fin (st':=st) r g gd;refine z91 (ym9 (z91 (wpS_get (z97 ?_))));have:=h b g g1 g2 g3;subst T;have R:(failedOf st).isNone=true:=by rw[hf];rfl
  rw[<-R]at this;exact this
end
def wX (xs:Array Keyed)(l u:Nat):Prop:=∀i j,l<=i->i<=j->j<u->K xs j<=K xs i
structure zt (lo:Nat)(xs ys:Array Keyed):Prop where
 perm:xs.Perm ys
 low:∀t,t<lo->K xs t=K ys t
def zt.refl (lo:Nat)(xs:Array Keyed):zt lo xs xs:=⟨yj4 _,λ_ _=>rfl⟩
theorem zt.trans {lo:Nat}{xs ys zs:Array Keyed}(h:zt lo xs ys)(g:zt lo ys zs):zt lo xs zs:=⟨h.perm.trans g.perm,λt a=>(h.low t a).trans (g.low t a)⟩
theorem zt.mirror {lo i j:Nat}{xs:Array Keyed}(hi:lo<=i)(a:j<=xs.size):zt lo (PyProof.Rows.mirror xs i j ((j-i) / 2)) xs:=⟨mirror_perm _ _ _ _,λt b=>by rw[K_mirror a,if_neg (by lia)]⟩
def yE {xs ys:Array Keyed}(h:IntKeys ys)(a:xs.Perm ys):IntKeys xs:=ug h λp=>(yp6.mp a).mem_iff.mp
def yh.more {xs:Array Keyed}{lo n:Nat}(h:yh xs lo (lo+n))(h1:1<=n)(hn:¬K xs (lo+n)<K xs (lo+n-1)):yh xs lo (lo+(n+1)):=λi j h3 a d=>by
 by_cases c:j<lo+n
 .exact h i j h3 a c
 .have:j=lo+n:=by lia
  subst this;by_cases b:i=lo+n
  .subst b;exact yd6 _
  .exact yh6 (h i (lo+n-1) h3 (by lia) (by lia)) (Int.not_lt.mp hn)
def wX.more {xs:Array Keyed}{lo n:Nat}(h:wX xs lo (lo+n))(h1:1<=n)(hn:K xs (lo+n)<=K xs (lo+n-1)):wX xs lo (lo+(n+1)):=λi j h3 a d=>by
 by_cases c:j<lo+n
 .exact h i j h3 a c
 .have:j=lo+n:=by lia
  subst this;by_cases b:i=lo+n
  .subst b;exact yd6 _
  .exact yh6 hn (h i (lo+n-1) h3 (by lia) (by lia))
def wX.flip {xs:Array Keyed}{lo n:Nat}(h:wX xs lo (lo+n))(hn:lo+n<=xs.size):yh (PyProof.Rows.mirror xs lo (lo+n) ((lo+n-lo) / 2)) lo (lo+n):=λi j h3 b a=>by
 rw[K_mirror hn,K_mirror hn,if_pos (by lia),if_pos (by lia)];exact h _ _ (by lia) (by lia) (by lia)
section
variable {prog:Ag}{w:Ak}{A:Am}{E:Ab->Ac->Prop}{s:Ac}
def ltK {st:SortSt}{i j:Nat}{Q:Option Bool->SortSt->Prop}(hk:kindOf st=oneType')(b:IntKeys (arrOf st))(hi:i<(arrOf st).size)(a:j<(arrOf st).size)
  (h:Q (some (decide (K (arrOf st) i<K (arrOf st) j))) st):wpS (Ah prog w) A E s (ltAt' i j) Q st:=by
 obtain⟨t,e1⟩:=yD b hi;obtain⟨u,c⟩:=yD b a;have f1:(arrOf st)[i]?=some (.int (K (arrOf st) i) t,(arrOf st)[i].2):=by rw[yc4 (arrOf st) i hi,<-e1]
 have f2:(arrOf st)[j]?=some (.int (K (arrOf st) j) u,(arrOf st)[j].2):=by rw[yc4 (arrOf st) j a,<-c]
 exact wpS_ltAt hk f1 f2 h
def tG {st:SortSt}{lo a nrem:Nat}{Q:AscSt->SortSt->Prop}{f:Nat->AscSt->StateT SortSt Sem (ForInStep AscSt)}(hf:∀x n,∃g,f x (none,n)=ltAt' (lo+n) (lo+n-1) >>= g/\g (some true)=pure (.done (none,n))/\g (some false)=pure (.yield (none,n+1)))
  (hk:kindOf st=oneType') (l:IntKeys (arrOf st)) (hn:lo+nrem<=(arrOf st).size) (ha:1<=a) (i:a<=nrem) (k:yh (arrOf st) lo (lo+a))
  (h:∀n,a<=n->n<=nrem->yh (arrOf st) lo (lo+n)->(n=nrem\/K (arrOf st) (lo+n)<K (arrOf st) (lo+n-1))->Q (none,n) st):wpS (Ah prog w) A E s (forIn [a:nrem] ((none,a):AscSt) f) Q st:=by
 refine yf7 (I:=λx c st'=>st'=st/\c=(none,x)/\yh (arrOf st) lo (lo+x)) ?_ ?_ ⟨rfl,rfl,k⟩
 .rintro x c st' j m ⟨rfl,rfl,b⟩;obtain⟨g,e,g1,g2⟩:=hf x x;rw[e];refine z91 (ltK hk l (by lia) (by lia) ?_);by_cases d:K (arrOf st') (lo+x)<K (arrOf st') (lo+x-1)
  .rw[ya9 d,g1];exact z97 (h x j (by lia) b (.inr d))
  .rw[ya3 d,g2];exact z97 ⟨rfl,rfl,b.more (by lia) d⟩
 .rintro c st' ⟨rfl,rfl,b⟩;rw[show max a nrem=nrem by lia]at b ⊢;exact h nrem i (z82 _) b (.inl rfl)
def cW {β:Type}{c:Prop}[Decidable c]{X Y:StateT SortSt Sem β}{Q:β->SortSt->Prop}{st:SortSt}(R:Array Keyed->Prop)(hr:¬c->R (arrOf st))(key:∀arr,R arr->wpS (Ah prog w) A E s Y Q (setArr st arr))(a:c->(∀arr,R arr->wpS (Ah prog w) A E s Y Q (setArr st arr))->wpS (Ah prog w) A E s X Q st):wpS (Ah prog w) A E s (if c then X else Y) Q st:=by
 split
 .rename_i h;exact a h key
 .rename_i h;exact key _ (hr h)
def lu {st:SortSt}{lo nrem:Nat}{Q:Option Nat->SortSt->Prop}(hk:kindOf st=oneType')(J:IntKeys (arrOf st))(h1:1<=nrem)(hn:lo+nrem<=(arrOf st).size)
  (h:∀m arr,1<=m->m<=nrem->zt lo arr (arrOf st)->yh arr lo (lo+m)->Q (some m) (setArr st arr)):wpS (Ah prog w) A E s (countRun' lo nrem) Q st:=by
 refine z91 (tG (λx n=>⟨_,rfl,rfl,rfl⟩) hk J hn (z82 1) h1 (λi j h3 d t=>by
                                                       have:i=j:=by lia
                                                       subst this;exact yd6 _) λn F D q S=>?_)
 dsimp only;by_cases y:(n == nrem)=true
 .rw[if_pos y];exact z97 (h n (arrOf st) F D (zt.refl _ _) q)
 rw[if_neg y];have G:¬n=nrem:=by simpa using y
 have B:=S.resolve_left G;refine cW (λb=>zt lo b (arrOf st)/\wX b lo (lo+(n+1))) (λL=>?_) (λb z=>?_) (λL key=>?_)
 .have e:n=1:=by lia
  exact⟨zt.refl lo (arrOf st),wX.more (λi j h3 d t=>by
   have:i=j:=by lia
   subst this;exact yd6 _) (by lia) (yj7 B)⟩
 .obtain⟨M,O⟩:=z;refine z91 (wpS_lift (yi8 ⟨rfl,?_⟩));refine z91 (yk7 (yf7 (I:=λx c st'=>∃arr a,st'=setArr st arr/\c=(none,x,a)/\zt lo arr (arrOf st)/\wX arr lo (lo+x)/\a+1<=x/\∀i,lo+x-(a+1)<=i->i<lo+x->K arr i=K arr (lo+x-1))
   (Q:=λc st'=>∃arr m a,st'=setArr st arr/\c=(none,m,a)/\zt lo arr (arrOf st)/\n+1<=m/\m<=nrem/\wX arr lo (lo+m)/\a+1<=m/\∀i,lo+m-(a+1)<=i->i<lo+m->K arr i=K arr (lo+m-1)) ?_ ?_ ⟨b,0,rfl,rfl,M,O,by lia,λi h3 d=>by congr 1;lia⟩) ?_)
  .rintro x c st' R V ⟨arr,a,rfl,rfl,u,hd,hq,he⟩;dsimp only;have sz:=u.perm.size_eq;have C:=yE J u.perm;refine z91 (ltK hk C (show _<arr.size by lia) (show _<arr.size by lia) ?_);by_cases H:K arr (lo+x)<K arr (lo+x-1)
   .rw[show decide (K (arrOf (setArr st arr)) (lo+x)<K (arrOf (setArr st arr)) (lo+x-1))=true from ya9 H];dsimp only;rw[if_pos rfl];by_cases P:a > 0
    .rw[if_pos P];refine z91 (wpS_reverse ?_);have p:=K_mirror_equal (show lo+x<=arr.size by lia) he;refine z97 ⟨_,0,rfl,rfl,(zt.mirror (by lia) (show lo+x<=arr.size by lia)).trans u,?_,by lia,λi h3 d=>by congr 1;lia⟩;intro i j h3 d t;rw[p,p];exact hd.more (by lia) (yj7 H) i j h3 d t
    .rw[if_neg P];exact z97 ⟨_,0,rfl,rfl,u,hd.more (by lia) (yj7 H),by lia,λi h3 d=>by congr 1;lia⟩
   .rw[show decide (K (arrOf (setArr st arr)) (lo+x)<K (arrOf (setArr st arr)) (lo+x-1))=false from ya3 H];dsimp only;rw[if_neg (by decide)];refine z91 (ltK hk C (show _<arr.size by lia) (show _<arr.size by lia) ?_);by_cases hg:K arr (lo+x-1)<K arr (lo+x)
    .rw[show decide (K (arrOf (setArr st arr)) (lo+x-1)<K (arrOf (setArr st arr)) (lo+x))=true from ya9 hg];exact z97 ⟨arr,x,a,rfl,rfl,u,R,by lia,hd,hq,he⟩
    .rw[show decide (K (arrOf (setArr st arr)) (lo+x-1)<K (arrOf (setArr st arr)) (lo+x))=false from ya3 hg];refine z97 ⟨arr,a+1,rfl,rfl,u,hd.more (by lia) (by lia),by lia,λi h3 d=>?_⟩;rw[show lo+(x+1)-1=lo+x by lia];by_cases c:i=lo+x
     .subst c;rfl
     .rw[he i (by lia) (by lia)];lia
  .rintro c st' ⟨arr,a,rfl,rfl,u,hd,hq,he⟩;rw[show max (n+1) nrem=nrem by lia]at hd hq he ⊢;exact⟨arr,nrem,a,rfl,rfl,u,by lia,z82 _,hd,hq,he⟩
  .rintro c st' ⟨arr,m,a,rfl,rfl,f,U,N,r,hq,he⟩;dsimp only;have sz:=f.perm.size_eq;refine cW (λl=>zt lo l (arrOf st)/\wX l lo (lo+m)) (λ_=>⟨f,r⟩) (λl z=>?_) (λP key=>?_)
   .obtain⟨f,r⟩:=z;have T:=f.perm.size_eq;refine z91 (wpS_reverse ?_);have v:=(zt.mirror (j:=lo+m) (z82 _) (by lia)).trans f;exact z91 (tG (λx n=>⟨_,rfl,rfl,rfl⟩) hk (yE J v.perm) (z93 hn (ya2 v.perm.size_eq.symm)) (by lia) N (r.flip (by lia)) λn2 h3 d t _=>z97 (h n2 _ (by lia) d v t))
   .refine z91 (wpS_reverse ?_);have p:=K_mirror_equal (show lo+m<=arr.size by lia) he;refine key _ ⟨(zt.mirror (by lia) (by lia)).trans f,λi j h3 d t=>?_⟩;rw[p,p];exact r i j h3 d t
 .refine z91 (ltK hk J (by lia) (by lia) ?_);by_cases g:K (arrOf st) lo<K (arrOf st) (lo+n-1)
  .rw[ya9 g];exact z97 (h n (arrOf st) F D (zt.refl _ _) q)
  .rw[ya3 g];dsimp only;rw[if_neg (by decide)];have o:∀k,lo<=k->k<lo+n->K (arrOf st) k=K (arrOf st) (lo+n-1):=λk h3 d=>by
    have a1:=q lo k (by lia) h3 d;have a2:=q k (lo+n-1) h3 (by lia) (by lia)
    lia
   refine z91 (wpS_reverse ?_);have p:=K_mirror_equal (show lo+n<=(arrOf st).size by lia) o;refine key _ ⟨zt.mirror (z82 _) (by lia),wX.more (λi j h3 d t=>?_) (by lia) ?_⟩
   .rw[p,p,o i (by lia) (by lia),o j (by lia) (by lia)];exact yd6 _
   .rw[p,p];exact yj7 B
theorem zt.bubble {lo src d:Nat}{xs:Array Keyed}(a:src<xs.size)(hd:lo+d<=src):zt lo (PyProof.Rows.bubble xs src d) xs:=⟨bubble_perm _ _ _,λt b=>by rw[K_bubble a (by lia),if_neg (by lia),if_neg (by lia)]⟩
def qL {st:SortSt}{lo n ok:Nat}{Q:Bool->SortSt->Prop}(hk:kindOf st=oneType')(F:IntKeys (arrOf st))(hn:lo+n<=(arrOf st).size)(hok:ok<=n)(z:yh (arrOf st) lo (lo+ok))
  (h:∀arr,zt lo arr (arrOf st)->yh arr lo (lo+n)->Q true (setArr st arr)):wpS (Ah prog w) A E s (binarySort' lo n ok) Q st:=by
 refine z91 (yk7 (yf7 (I:=λk c st'=>c=(none,())/\∃arr,st'=setArr st arr/\zt lo arr (arrOf st)/\yh arr lo (lo+min k n))
  (Q:=λc st'=>c=(none,())/\∃arr,st'=setArr st arr/\zt lo arr (arrOf st)/\yh arr lo (lo+n)) ?_ ?_ ⟨rfl,arrOf st,rfl,zt.refl _ _,λi j h3 q u=>?_⟩) ?_)
 .rintro k c st' y v ⟨rfl,arr,rfl,m,b⟩;rw[show min k n=k by lia]at b;have sz:=m.perm.size_eq;refine z91 (yk7 (yf7 (I:=λx c a=>a=setArr st arr/\∃l r,c=(none,l,r)/\l<=r/\r<=k/\r-l<=k-x/\
    (∀i,lo<=i->i<lo+l->K arr i<=K arr (lo+k))/\(∀i,lo+r<=i->i<lo+k->K arr (lo+k)<K arr i))
   (Q:=λc a=>a=setArr st arr/\∃l r,c=(none,l,r)/\l<=k/\
    (∀i,lo<=i->i<lo+l->K arr i<=K arr (lo+k))/\(∀i,lo+l<=i->i<lo+k->K arr (lo+k)<K arr i)) ?_ ?_ ⟨rfl,0,k,rfl,by lia,by lia,by lia,λi h3 q=>by lia,λi h3 q=>by lia⟩) ?_)
  .rintro x c a _ B ⟨rfl,l,r,rfl,t,f,hm,d,e⟩;dsimp only;by_cases o:l≥r
   .rw[if_pos o];have:l=r:=by lia
    subst this;exact z97 ⟨rfl,l,l,rfl,f,d,e⟩
   .rw[if_neg o];refine z91 (ltK hk (yE F m.perm) (show _<arr.size by lia) (show _<arr.size by lia) ?_);by_cases p:K arr (lo+k)<K arr (lo+(l+r) / 2)
    .rw[show decide (K (arrOf (setArr st arr)) (lo+k)<K (arrOf (setArr st arr)) (lo+(l+r) / 2))=true from ya9 p];exact z97 ⟨rfl,l,(l+r) / 2,rfl,by lia,by lia,by lia,d,λi h1 h2=>yk1 p (b _ _ (by lia) h1 h2)⟩
    .rw[show decide (K (arrOf (setArr st arr)) (lo+k)<K (arrOf (setArr st arr)) (lo+(l+r) / 2))=false from ya3 p];exact z97 ⟨rfl,(l+r) / 2+1,r,rfl,by lia,by lia,by lia,λi h1 h2=>yh6 (b i (lo+(l+r) / 2) h1 (by lia) (by lia)) (Int.not_lt.mp p),e⟩
  .rintro c a ⟨rfl,l,r,rfl,t,f,hm,d,e⟩;have:l=r:=by lia
   subst this;exact⟨rfl,l,l,rfl,f,d,e⟩
  .rintro c a ⟨rfl,l,r,rfl,D,d,e⟩;dsimp only;have g:lo+k<arr.size:=by lia
   refine z91 (ym9 (z97 ⟨rfl,bubble arr (lo+k) (lo+k-(lo+l)),rfl,(zt.bubble g (by lia)).trans m,λi j h3 q u=>?_⟩));rw[show min (k+1) n=k+1 by lia]at u;rw[K_bubble g (by lia),K_bubble g (by lia),show lo+k-(lo+k-(lo+l))=lo+l by lia]
   repeat' split
   all_goals first
    |(exfalso;lia)
    |exact yd6 _
    |exact d _ (by lia) (by lia)
    |exact yj7 (e _ (by lia) (by lia))
    |exact b _ _ (by lia) (by lia) (by lia)
 .rintro c st' ⟨C,arr,rfl,m,b⟩;rw[show min (max (max ok 1) n) n=n by lia]at b;exact⟨C,arr,rfl,m,b⟩
 .by_cases h1:ok=0
  .have:i=j:=by lia
   subst this;exact yd6 _
  .exact z i j h3 q (by lia)
 .rintro c st' ⟨rfl,arr,rfl,m,b⟩;exact z97 (h arr m b)
end
abbrev oX :=Nat×Nat×Nat
def Runs (xs:Array Keyed):List oX->Nat->Nat->Prop
 |[],l,u=>l=u
 |r::L,l,u=>r.1=l/\0<r.2.1/\yh xs l (l+r.2.1)/\Runs xs L (l+r.2.1) u
theorem Runs.le {xs:Array Keyed}:∀{L:List oX}{l u:Nat},Runs xs L l u->l+L.length<=u
 |[],l,u,h=>ya2 h
 |r::L,l,u,⟨_,h0,_,h⟩=>by
  have:=Runs.le h;simp;lia
theorem vk {xs:Array Keyed}:∀{L R:List oX}{l u:Nat},Runs xs (L++R) l u↔∃m,Runs xs L l m/\Runs xs R m u
 |[],R,l,u=>⟨λh=>⟨l,rfl,h⟩,λ⟨m,h1,h2⟩=>by cases h1;exact h2⟩
 |r::L,R,l,u=>⟨λ⟨a,b,c,h⟩=>by
   obtain⟨m,h1,h2⟩:=vk.mp h;exact⟨m,⟨a,b,c,h1⟩,h2⟩,λ⟨m,⟨a,b,c,h1⟩,h2⟩=>⟨a,b,c,vk.mpr ⟨m,h1,h2⟩⟩⟩
theorem Runs.congr {xs ys:Array Keyed}:∀{L:List oX}{l u:Nat},Runs xs L l u->(∀t,l<=t->t<u->K ys t=K xs t)->Runs ys L l u
 |[],l,u,h,_=>h
 |r::L,l,u,⟨a,b,c,h⟩,e=>by
  have:=Runs.le h;refine⟨a,b,λi j h3 d f=>?_,Runs.congr h λt h3 d=>e t (by lia) d⟩;rw[e i h3 (by lia),e j (by lia) (by lia)];exact c i j h3 d f
theorem Runs.pow {xs:Array Keyed}{pw:Nat}:∀{L:List oX}{l u:Nat} (k:Nat),Runs xs L l u->Runs xs (L.modify k λr=>(r.1,r.2.1,pw)) l u
 |[],l,u,k,h=>by simpa using h
 |r::L,l,u,0,⟨a,b,c,h⟩=>by simp;exact⟨a,b,c,h⟩
 |r::L,l,u,k+1,⟨a,b,c,h⟩=>by simp;exact⟨a,b,c,Runs.pow k h⟩
theorem Runs.all {xs:Array Keyed}:∀{L:List oX}{u:Nat},Runs xs L 0 u->L.length<=1->yh xs 0 u
 |[],u,h,_=>λi j _ _ a=>by cases h;lia
 |[r],u,⟨_,_,c,h⟩,_=>by cases h;simpa using c
 |_::_::_,_,_,h=>by simp at h
def zk9 (c:Prop)[Decidable c](a:Nat):(if c then a-1 else a)<=a:=by split<;>lia
def merged (P R:List oX)(x y z:oX)(p:Array oX)(h:p.toList=P++x::y::R):((p.setIfInBounds P.length z).eraseIdxIfInBounds (P.length+1)).toList=P++z::R:=by
 have e1:(p.setIfInBounds P.length z).toList=P++z::y::R:=by rw[Array.toList_setIfInBounds,h];simp
 have a:P.length+1<(p.setIfInBounds P.length z).size:=by
  have:=congrArg List.length e1;simp at this ⊢;lia
 rw[Array.eraseIdxIfInBounds,dif_pos a,Array.toList_eraseIdx,e1];rw[List.eraseIdx_append_of_length_le (by lia)];simp
section
variable {prog:Ag}{w:Ak}{A:Am}{E:Ab->Ac->Prop}{s:Ac}{a₀:Array Keyed}
def qg {st:SortSt}{i u:Nat}{Q:Bool->SortSt->Prop}(x:IntKeys a₀)(gb:GB a₀ st)(hr:Runs (arrOf st) (pendingOf st).toList 0 u)(y:u<=a₀.size)(hi:i+1<(pendingOf st).size)
  (h:∀st',GB a₀ st'->Runs (arrOf st') (pendingOf st').toList 0 u->(pendingOf st').size+1=(pendingOf st).size->(∀t,u<=t->K (arrOf st') t=K (arrOf st) t)->Q true st'):wpS (Ah prog w) A E s (mergeAt' i) Q st:=by
 have f:i+1<(pendingOf st).toList.length:=by simpa using hi
 have sp:(pendingOf st).toList=(pendingOf st).toList.take i++(pendingOf st).toList[i]::(pendingOf st).toList[i+1]::(pendingOf st).toList.drop (i+2):=by rw[<-yc6 f,<-yc6 (by lia),yb4]
 rcases hx:(pendingOf st).toList[i]with⟨sa,na,pw⟩;rcases hy:(pendingOf st).toList[i+1]with⟨sb,nb,c⟩;rw[hx,hy]at sp;have e1:(pendingOf st)[i]?=some (sa,na,pw):=by rw[<-yk2,z78 (by lia),hx]
 have v:(pendingOf st)[i+1]?=some (sb,nb,c):=by rw[<-yk2,z78 f,hy]
 have o:((pendingOf st).toList.take i).length=i:=by rw[yc3];lia
 generalize (pendingOf st).toList.take i=P at sp o;generalize (pendingOf st).toList.drop (i+2)=R at sp;rw[sp]at hr;obtain⟨m,k,⟨f1,b,j,f2,a,n,d⟩⟩:=vk.mp hr;dsimp only at f1 f2 b a j n d;subst f1;have:=Runs.le d;have:=Runs.le k;have sz:=gb.perm.size_eq;refine kQ gb.kind gb.failed (yE x gb.perm) e1 v f2.symm b a (by lia) (by rw[f2];exact j) (by rw[f2];exact n) λl g g1 g2 g3=>?_;have e:=merged P R _ _ (sa,na+nb,pw) (pendingOf st) sp;rw[o]at e;refine h _ ⟨g1.trans gb.perm,gb.kind,gb.failed⟩ ?_ ?_ λt z=>g2 t (by lia)
 .rw[e];refine vk.mpr ⟨sa,k.congr λt h3 p=>g2 t (by lia),rfl,by show 0<na+nb;lia,?_,?_⟩
  .rw[<-Nat.add_assoc,<-f2];exact g3
  .rw[<-Nat.add_assoc];exact d.congr λt h3 p=>g2 t (by lia)
 .have r:=congrArg List.length e;have q:=congrArg List.length sp;simp only[yf8,z95,ya1]at r q
  lia
structure Mid (a₀:Array Keyed)(lo n:Nat)(st:SortSt):Prop where
 gb:GB a₀ st
 rn:Runs (arrOf st) (pendingOf st).toList 0 lo
 so:yh (arrOf st) lo (lo+n)
def Mid.put {lo n:Nat}{st:SortSt}(h:Mid a₀ lo n st)(a:0<n):GB a₀ (setPending st ((pendingOf st).push (lo,n,0)))/\Runs (arrOf st) ((pendingOf st).push (lo,n,0)).toList 0 (lo+n):=by
 refine⟨⟨h.gb.perm,h.gb.kind,h.gb.failed⟩,?_⟩;rw[yl2];exact vk.mpr ⟨lo,h.rn,rfl,a,h.so,rfl⟩
theorem Mid.pow {lo n k pw:Nat}{st:SortSt}(h:Mid a₀ lo n st):Mid a₀ lo n (setPending st ((pendingOf st).modify k λx=>(x.fst,x.2.fst,pw))):=by
 refine⟨⟨h.gb.perm,h.gb.kind,h.gb.failed⟩,?_,h.so⟩;rw[Array.toList_modify];exact h.rn.pow k
def zM3 {β:Type}{b:Nat}{X Y:Nat->StateT SortSt Sem β}{Q:β->SortSt->Prop}{st:SortSt}{a:Nat->Prop}(R:Nat->Array Keyed->Prop)(hr:∀n,a n->¬n<b->R n (arrOf st))(key:∀n arr,R n arr->wpS (Ah prog w) A E s (Y n) Q (setArr st arr))(d:∀n,a n->n<b->(∀n arr,R n arr->wpS (Ah prog w) A E s (Y n) Q (setArr st arr))->wpS (Ah prog w) A E s (X n) Q st):∀n,a n->wpS (Ah prog w) A E s (if n<b then X n else Y n) Q st:=by
 intro n c;split
 .rename_i h;exact d n c h key
 .rename_i h;exact key _ _ (hr n c h)
def nQ {st:SortSt}{Q:Unit->SortSt->Prop}(C:IntKeys a₀)(B:SBase a₀ st)
  (h:∀st',(arrOf st').Perm a₀->failedOf st'=none->SortedTo (arrOf st') a₀.size->Q () st'):wpS (Ah prog w) A E s sortRuns' Q st:=by
 rw[sortRuns'_eq];refine z91 (wpS_get ?_);dsimp only;rw[B.size];generalize M:minRun' a₀.size a₀.size 0=mr;refine z91 (yk7 (yf7 (I:=λx c st'=>∃lo,c=(none,lo)/\GB a₀ st'/\Runs (arrOf st') (pendingOf st').toList 0 lo/\lo<=a₀.size/\x<=lo)
  (Q:=λc st'=>c=(none,a₀.size)/\GB a₀ st'/\Runs (arrOf st') (pendingOf st').toList 0 a₀.size) ?_ ?_ ⟨0,rfl,⟨B.perm,B.kind,B.failed⟩,by rw[B.pend];rfl,by lia,by lia⟩) ?_)
 .rintro x c st' _ R ⟨lo,rfl,gb,hr,O,G⟩;dsimp only;by_cases u:lo≥a₀.size
  .rw[if_pos u];have:lo=a₀.size:=by lia
   subst this;exact z97 ⟨rfl,gb,hr⟩
  rw[if_neg u];have sz:=gb.perm.size_eq;refine z91 (lu gb.kind (yE C gb.perm) (by lia) (show lo+(a₀.size-lo)<=(arrOf st').size by lia) λm arr m1 m2 H so=>?_);dsimp only;have U:=H.perm.size_eq;have d:GB a₀ (setArr st' arr):=⟨H.perm.trans gb.perm,gb.kind,gb.failed⟩;have r:=hr.congr λt _ g=>H.low t g;have H0:0<m/\m<=a₀.size-lo/\yh arr lo (lo+m):=⟨m1,m2,so⟩;clear m1 m2 so
  revert m H0
  refine zM3 (λn K=>Mid a₀ lo n (setArr st' K)/\0<n/\n<=a₀.size-lo) ?_ ?_ ?_
  .rintro m ⟨m1,m2,so⟩ _;exact⟨⟨d,r,so⟩,m1,m2⟩
  .rintro n K ⟨b,L,nl⟩;refine z91 (wpS_get ?_);split
   .refine z91 (yk7 (yf7 (I:=λ_ c a=>c=(none,())/\Mid a₀ lo n a) (Q:=λc a=>c=(none,())/\Mid a₀ lo n a) ?_ ?_ ⟨rfl,b⟩) ?_)
    .rintro y c a _ _ ⟨rfl,b⟩;refine z91 (wpS_get ?_);split
     .rename_i heq;have T:(pendingOf a).size > 1:=by
       by_cases c:(pendingOf a).size > 1
       .exact c
       .have e:(if(pendingOf a).size > 1 then(pendingOf a)[(pendingOf a).size-2]? else none)=none:=if_neg c;exact absurd (e.symm.trans heq) (by simp)
      split
      .exact z97 ⟨rfl,b⟩
      .refine z91 (qg C b.gb b.rn (by lia) (show(pendingOf a).size-2+1<(pendingOf a).size by lia) λD o f _ p=>z97 ⟨rfl,o,f,λi j h3 g N=>?_⟩);rw[p i h3,p j (by lia)];exact b.so i j h3 g N
     .exact z97 ⟨rfl,b⟩
    .rintro c a q;exact q
    .rintro c a ⟨rfl,b⟩;dsimp only;refine z91 (ym9 (z91 (ym9 (z97 ?_))));have:=λpw=>(b.pow (k:=(pendingOf a).size-1) (pw:=pw)).put L;exact⟨_,rfl,(this _).1,(this _).2,by lia,by lia⟩
   .refine z91 (ym9 (z97 ?_));have:=b.put L;exact⟨_,rfl,this.1,this.2,by lia,by lia⟩
  .rintro m ⟨m1,m2,so⟩ S key;refine z91 (wpS_lift (yi8 ⟨rfl,z91 (qL d.kind (yE C d.perm) (show lo+min (a₀.size-lo) mr<=arr.size by lia) (by lia) so λv z J=>?_)⟩));rw[if_neg (by decide)];exact key _ v ⟨⟨⟨z.perm.trans d.perm,gb.kind,gb.failed⟩,r.congr λt _ g=>z.low t g,J⟩,by lia,by lia⟩
 .rintro c st' ⟨lo,rfl,gb,hr,O,G⟩;have:lo=a₀.size:=by lia
  subst this;exact⟨rfl,gb,hr⟩
 .rintro c st' ⟨rfl,gb,hr⟩;dsimp only;refine z91 (yk7 (yf7 (I:=λx c st'=>c=(none,())/\GB a₀ st'/\Runs (arrOf st') (pendingOf st').toList 0 a₀.size/\(pendingOf st').size<=a₀.size-x)
   (Q:=λc st'=>c=(none,())/\GB a₀ st'/\Runs (arrOf st') (pendingOf st').toList 0 a₀.size/\(pendingOf st').size<=1) ?_ ?_ ⟨rfl,gb,hr,by have:=hr.le;simpa using this⟩) ?_)
  .rintro x c st' _ R ⟨rfl,gb,hr,l⟩;refine z91 (wpS_get ?_);by_cases F:(pendingOf st').size<=1
   .rw[if_pos F];exact z97 ⟨rfl,gb,hr,F⟩
   .rw[if_neg F];refine z91 (qg C gb hr (z82 _) ?_ λD o f P _=>?_)
    .exact ya7 (Nat.succ_le_succ (zk9 _ _)) (show(pendingOf st').size-2+1<(pendingOf st').size by lia)
    .exact z97 ⟨rfl,o,f,by lia⟩
  .rintro c st' ⟨rfl,gb,hr,l⟩;exact⟨rfl,gb,hr,by lia⟩
  .rintro c st' ⟨rfl,gb,hr,l⟩;dsimp only;exact z97 (h st' gb.perm gb.failed λi j h3 g=>hr.all (by simpa using l) i j (z94 _) h3 g)
end
open PyProof
section
variable {prog:Ag}{w:Ak}{A:Am}{E:Ab->Ac->Prop}{s:Ac}
def tree_ok {a:Ad}{vs:List Ab}{ns:List Int}{n:Nat}{P:Fin->Ac->Prop}(i:s.heap.get? a=some (seqObj "list" vs.toArray n))(l:IntsAre vs ns)(q:vs.length<=1000)
  (h:∀(out:Array Ab) (d:List Int),IntsAre out.toList d->d.Perm ns->d.Pairwise (·<=·)->P (.done (.ret .none)) {s with heap:=sortedHeap s.heap a vs out}):Aj (Ah prog w) A (Builtin.«list.sort» ⟨[.ref a],[]⟩) P E s:=by
 by_cases f:vs.length<64
 .exact list_sort_tree i l f h
 have ha:=z90 i;obtain⟨e1,g⟩:∃e1,(s.heap.update a (Obj.mapSeq λ_=>#[])).get? a=some (seqObj "list" #[] e1):=⟨_,yj5 i (λ_=>#[])⟩;have j:(((s.heap.update a (Obj.mapSeq λ_=>#[])).push (seqObj "tuple" vs.toArray 0)).push (seqObj "list" #[] 0)).get? a=some (seqObj "list" #[] e1):=by
  have n1:a≠(s.heap.update a (Obj.mapSeq λ_=>#[])).objs.size:=by rw[ys6];exact z96 ha
  have n2:a≠((s.heap.update a (Obj.mapSeq λ_=>#[])).push (seqObj "tuple" vs.toArray 0)).objs.size:=by rw[size_push',ys6];exact z96 (yg5 ha)
  rw[yr7 _ _ _ n2,yr7 _ _ _ n1,g]
 have k:¬vs.toArray.size<2:=by simp;lia
 obtain⟨b,c,rest,rfl⟩:∃b c rest,vs=b::c::rest:=by
  match vs,f with
  |b::c::rest,_=>exact⟨b,c,rest,rfl⟩
  |[],h=>simp at h
  |[_],h=>simp at h
 rw[list_sort_plain];refine z76 (listItems_at i rfl (z76 (yp7 i rfl ?_)));refine z76 (seqEpoch_at g rfl (z76 (yr2 ?_)));refine z76 (wpAny_newList (yd5 ?_));dsimp only;rw[if_neg k,if_neg k,keyKind_ints l];refine z76 (z80 (z76 (ye0 (nQ (Q:=λ_ st'=>(arrOf st').Perm (pairsOf (b::c::rest))/\failedOf st'=none/\SortedTo (arrOf st') (pairsOf (b::c::rest)).size)
  l.intKeys ⟨yj4 _,rfl,rfl,rfl⟩ λst' a1 a2 p=>⟨a1,a2,p⟩) ?_ λ_ _ e=>e)))
 rintro⟨⟨⟩,st'⟩ s' ⟨rfl,m,hf,o⟩;obtain⟨d,h1,h2,h3⟩:=sorted_out l m o;refine z76 (seqEpoch_at j rfl (z76 (yp7 j rfl ?_ (hsz2:=by refine z93 (ya2 ((Array.size_map ..).trans (m.size_eq.trans (pairsOf_size _)))) ?_;rw[yf3];lia))));rw[hf];simp only[bne_self_eq_false,yd0,yj2];exact z80 (h _ d h1 h2 h3)
end
end Tim
namespace SetW
open PySem PyProof.Rows
section
variable {prog:Ag}{w:Ak}{A:Am}{E:Ab->Ac->Prop}{s:Ac}{a:Ad}{ep:Nat}{o:Obj}{es:Array (Int×Ab)}{S:Int->Bool}{m:Nat}{t:SetTable}
def mN {F:List Int}{Q:Ab->Ac->Prop}(n:A.handled=none)(i:s.heap.get? a=some o)(x:WkO prog w o S m (xt w) es ep t)(hF:F.Nodup)(r:∀k,S k=F.any (· == k))(hm:m=F.length)(q:F.length<=1000)
  (h:∀(h':Ao) d (g:Nat) (L:Ad) (out:Array Ab) (c:Nat) (ns:List Int),s.heap.objs.size<=L->(∀c u,s.heap.get? c=some u->h'.get? c=some u)->h'.get? L=some (seqObj "list" out c)->IntsAre out.toList ns->ns.Perm F->ns.Pairwise (·<=·)->Q (.ref L) {s with heap:=h',drawn:=d,toks:=g}):
  Aj (Ah prog w) A (call (.builtin "sorted") [.ref a]) Q E s:=by
 obtain⟨ms,im,G⟩:=iz es.toList x.el.keys;have lm:ms.length=es.size:=by have:=IntsAre.length im;simp at this;lia
 have l:=lR hF (λk hk=>(G k).mpr ((x.mem k).mp (by rw[r];exact List.any_eq_true.mpr ⟨k,hk,by simp⟩))) (by rw[lm,x.sz,hm]);refine Calls.call_function_entry kind_sorted plain_sorted entry_sorted (args_sorted1 _) ?_;unfold Builtin.«sorted»;refine z76 (z80 (z76 (lj (by simp[n]) i x λh1 d g ord sz y po=>?_)));obtain⟨B,z,C⟩:=dw po im;have p:ord.length<=1000:=by
  have:=po.length_eq;have:=l.length_eq;simp at *
  lia
 refine z76 (wpAny_newList ?_);have b:(h1.push (seqObj "list" ord.toArray 0)).get? h1.objs.size=some (seqObj "list" ord.toArray 0):=z86 _ rfl;refine z76 (yd5 (yg4 slot_list_sort ⟨_,b,rfl⟩ entry_list_sort (Tim.tree_ok b z p λout j a1 a2 D=>⟨_,rfl,?_⟩) (args_list_sort _)));obtain⟨e,he⟩:=sortedHeap_at b;refine z80 ⟨_,rfl,h _ d g h1.objs.size out e j (yd3 sz) (λc u v=>?_) he a1 (a2.trans (C.trans l)) D⟩;have h2:=y c u v;have f:=z90 h2;rw[sortedHeap_old (z96 f) (by rw[size_push'];exact yg5 f)];exact z79 _ h2
end
end SetW
namespace L2
open PySem PySem.Spec PyProof.Rows SetW
section
variable {X:Cx}{O:Ev}{e:Al}{pos p p2 pos2:Pos}
def qO (j:X.calm=true):yP X (.builtin "sorted") (λxs H Q=>∃(l:Ad) (o:Obj) (u:HO) (zs:List Int),xs=[.ref l]/\H l=some (.frz o u)/\SW X.prog X.w o zs/\zs.length<=1000/\∀(a:Ad) (ys:List Int),H a=none->ys.Perm (uf zs)->ys.Pairwise (·<=·)->Q (.ref a) (upd H a (.lst (ys.map V.int)))):=by
 intro pins s B H xs us Q I r h;obtain⟨l,o,u,zs,rfl,b,⟨es,ep,t,x⟩,g,q⟩:=h;obtain⟨v,rfl,k⟩:=vals1 r;cases k;have lm:(uf zs).length<=zs.length:=firstMet_length_le _ _;refine mN (I.ok.hd j) ((I.hok l _ b).1) x (vG _ _) (λ_=>rfl) rfl (by lia) λh' d i L out c ns sz kp f a1 a2 n=>?_;have m:=I.laid (o:=.lst (ns.map V.int)) (t':=i) kp sz ⟨by rw[z77,a2.length_eq,yf3];lia,out.toList,c,oO a1,by simpa using f⟩;exact⟨.ref L,_,m.drw d,rfl,q _ ns (I.hok.fresh sz) a2 n⟩
def tQ {Q:List Aa->Prop}(t:X.calm=true)(i:Gl X "sorted")(f:X.mg "sorted"=none)(hg:Gl X "set")(hm:X.mg "set"=none)(h:EvD X O e λx=>∃zs:List Int,x=.list (zs.map .int)/\zs.length<1000/\∀ys:List Int,(∀k,k∈ys↔k∈zs)->ys.Pairwise (·<·)->ys.length<=zs.length->Q (ys.map .int))
  (he:Af [e] X.env=(false,eval e X.env)::Af [] X.env:=by rfl) (d:Af [.Call (.Name "set" p) [e] [] pos] X.env=(false,eval (.Call (.Name "set" p) [e] [] pos) X.env)::Af [] X.env:=by rfl):
  EvL X O (.Call (.Name "sorted" p2) [.Call (.Name "set" p) [e] [] pos] [] pos2) Q:=λF B H R m k=>by
 refine⟨_,yT (qO t) i f boot_sorted (zv (xX (dS t) hg hm PyProof.Rows.boot_set (zv zg zJ he) (he:=he)) zJ d),h F B H _ m λx G H1 C t1 D w=>?_⟩;obtain⟨zs,rfl,A,q⟩:=C;obtain⟨l,xs,rfl,h1,h2⟩:=w.lst_inv;have h3:=(zf h1).2;rw[h2.intsV]at h3;refine⟨l,zs,rfl,h3,by lia,λs o c sw=>?_⟩;have v:=t1.same (yg (o:=.frz o (.set (λk=>(uf zs).any (· == k)) (uf zs).length)) c);have g:=D.trans (Kz.of_same (yg (o:=.frz o (.set (λk=>(uf zs).any (· == k)) (uf zs).length)) c));refine⟨s,o,_,zs,rfl,zi,sw,by lia,λl2 ys n pm pw=>?_⟩;have r:ys.length<=zs.length:=by rw[pm.length_eq];exact firstMet_length_le _ _
 have nd:=pm.nodup_iff.mpr (vG _ _);have u:ys.Pairwise (·<·):=by
  have:=pw.and nd;exact this.imp λ{a b} z=>by lia
 have av:AVs (Gz F O B (upd H1 s (.frz o (.set (λk=>(uf zs).any (· == k)) (uf zs).length)))) (ys.map V.int) (ys.map .int):=by
  clear pm pw nd u r
  induction ys with
  |nil=>exact .nil
  |cons y ys E=>exact .cons (.int y) E
 obtain⟨g1,g2,g3⟩:=(m.kz g v).lay n av;exact k _ _ _ (q ys (λj=>pm.mem_iff.trans zl9) u r) g1 (g.trans g2) (g3.back m g v)
end
def Itk (a:List (Str×V)):It:=⟨λi _=>i<a.length,λi H x H'=>H'=H/\∃p,a[i]?=some p/\x=.str p.1,λi _=>a.length<=i⟩
def rV (K:Ae)(w:Ak)(d:Ad)(a:List (Str×V))(n:Nat):Prop:=∃es,K.lookup d=some ⟨.type "dict",none,.dict es n,#[]⟩/\EnS w es.toList a/\(a.map (·.1)).Nodup
section
variable {X:Cx}{tg:Al}
def rV.at {K:Ae}{P:Ag}{w:Ak}{d:Ad}{b:List (Str×V)}{n:Nat}(hd:rV K w d b n){h:Ao}(k:K.In h):∃kvs:List (Str×Ab),h.DictAt (PySem.strKind P w) d kvs n/\kvs.map (·.1)=b.map (·.1):=by
 obtain⟨es,c,he,hn⟩:=hd;exact⟨_,⟨_,es,k _ _ c,⟨rfl,rfl,rfl⟩,rfl,λe a=>kg he e (by simpa using a),pE he,by rw[nC he];exact hn⟩,nC he⟩
def kW {P:Ag}{w:Ak}{K:Ae}{d:Ad}{a:List (Str×V)}{n:Nat}(hd:rV K w d a n)(it:Ad):Turn P w K tg (Itk a) [it] it (λi h=>h.IsKeyIter it d i a.length n) where
 mem:=by simp
 obj:=λi h st b hb=>by
  have e:b=it:=by simpa using hb
  subst e;obtain⟨o,e,c,C⟩:=st;exact⟨o,e,λv z=>by rw[C]at z;cases z⟩
 keep:=λi h h' st k=>by
  obtain⟨o,e,r⟩:=st;exact⟨o,k it (by simp) o e,r⟩
 item:=by
  intro X m hw p D i pins s B H E I hf st hg;subst m hw p;obtain⟨kvs,y,j⟩:=hd.at I.kIn;have l:kvs.length=a.length:=by have:=congrArg List.length j;simpa using this
  have hi:i<a.length:=hg;have g:i<kvs.length:=by lia
  obtain⟨f0,f1,f2,u,f4,q⟩:=hf it (by simp);rw[<-l]at st;refine wpAny_pyNext_dict_item st y (k:=kvs[i].1) (z78 g) λkey h' hk st' sb=>?_;obtain⟨o,e,c,C⟩:=id st';rw[l]at st';have G:kvs[i].1=a[i].1:=by
   have h1:(kvs.map (·.1))[i]?=(a.map (·.1))[i]?:=by rw[j]
   rw[z88,z88,z78 g,z78 hi]at h1;simpa using h1
  have f:∃t,key=.str a[i].1 t:=by
   rw[G]at hk;cases key with
   |str x t=>
    have A:(x == a[i].1)=true:=by simpa[PySem.strKind,Value.isStrOf]using hk
    exact⟨t,by rw[eq_of_beq A]⟩
   |_=>simp[PySem.strKind,Value.isStrOf]at hk
  obtain⟨t,rfl⟩:=f;exact⟨_,rfl,qf e c C (by decide) ⟨.str a[i].1,H,(I.turned (λb o hb e=>(sb.2 b hb).trans e) f0 f1 u f4 q),⟨t,rfl⟩,⟨rfl,_,z78 hi,rfl⟩,st',λb hb=>(hf b hb).1⟩⟩
 done:=by
  intro X m hw p D i pins s B H E I hf st hg;subst m hw p;obtain⟨kvs,y,j⟩:=hd.at I.kIn;have l:kvs.length=a.length:=by have:=congrArg List.length j;simpa using this
  have hi:a.length<=i:=hg;obtain⟨f0,f1,f2,u,f4,q⟩:=hf it (by simp);rw[<-l]at st;exact wpAny_pyNext_dict_end (I.ok.hd D) st y (ye6 (by lia)) λh' F=>⟨rfl,I.turned (λb o hb e=>F b o hb e) f0 f1 u f4 q⟩
 self:=λ_ _ _ _ _ st h=>wpAny_pyIter_keyiter st h
def zc9 {g:Str}{p:Pos}{d:Ad}{a:List (Str×V)}{n:Nat}(hg:Gl X g)(hm:X.mg g=some (.ref d))(hd:rV X.K X.w d a n)(j:(d == sysModules)=false)(hb:(g == ("__debug__":Str))=false:=by decide):PI X tg (.Name g p) (λ_ H R=>R (Itk a) H):=by
 intro pins s B H R I h;refine uS I hg hm ?_ hb;obtain⟨kvs,f,c⟩:=hd.at I.kIn;have i:kvs.length=a.length:=by have:=congrArg List.length c;simpa using this
 refine wpAny_pyIter_dict j f ?_;rw[i];refine⟨s.heap.objs.size,[s.heap.objs.size],_,_,H,rfl,I.kept λb o e=>z79 _ e,kW hd _,⟨_,z86 _ rfl,rfl,rfl⟩,λb hb=>?_,h⟩;rw[z92.mp hb];exact I.fpOk (z82 _) (I.hok.fresh (z82 _))
def cQ {O:Ev}{g:Str}{p:Pos}{d:Ad}{b:List (Str×V)}{n:Nat}{Q:List Aa->Prop}(hg:Gl X g)(hm:X.mg g=some (.ref d))(hd:rV X.K X.w d b n)(f:(d == sysModules)=false)(q:Q (b.map λp=>.str p.1))(hb:(g == ("__debug__":Str))=false:=by decide):EvI X O tg (.Name g p) Q:=λF B H R m k=>by
 refine⟨_,zc9 hg hm hd f hb,k _ _ H q m.tp Kz.refl λi h p s=>⟨λd hd=>?_,λc=>?_⟩⟩
 .rw[z88,z98]at hd;obtain⟨e,he,rfl⟩:=hd;refine⟨(z81.mp he).1,λj o y=>?_⟩;obtain⟨rfl,l,a,rfl⟩:=y;rw[he]at a;cases a;exact⟨zt.refl _,λ_=>.str _⟩
 .have:b.length<=i:=by simpa using c
  exact this
end
def zZ.o {N P:List Str}{sc:Aq}(h1:sc.kind=.function:=by rfl)(h2:sc.isCoroutine=false:=by rfl)(h3:sc.isGenerator=false:=by rfl)(d:N.Nodup:=by decide +kernel)(b:N.take P.length=P:=by rfl)(c:∀x∈P,sc.names.lookup x=some .local\/sc.names.lookup x=some .cell:=by decide +kernel)(a:∀y∈sc.names,y.2≠.free:=by decide +kernel):zZ N P sc:=⟨h1,h2,h3,d,b,c,a⟩
abbrev Ph :=List A->(A->Prop)->Prop
section
variable {P:Ag}{w:Ak}{K:Ae}{mg:Str->Option Ab}{base:Ao}
def FnD (K:Ae)(mg:Str->Option Ab)(x:Str)(st:An)(ps:List Str):Prop:=∃f fd,Fun K x x st f fd/\mg x=some (.ref f)/\Binds K fd ps []
def zL {x:Str}{st:An}{ps:List Str}{k:Nat}{φ:List A->(A->Prop)->Prop}(N:List Str)(G:FnD K mg x st ps)
  (a:∀(f:Ad) (cdv:Ab) (b:Am) (outer:List Ar) (s:Ac) (H:Hp) (E:XK) (as:List A) (Q:A->Prop),N.Nodup->zM k (b.deeper (envOfC x (zh st) s.heap.objs.size f cdv))->φ as Q->
   SvS (vM CX0 P w K mg base N x (zh st) f cdv b outer s H E).nox (as.map some++List.replicate (N.length-as.length) none) (zw st) {nx:=λ_=>Q (.dat .none),rt:=Q})
  (S:zZ N ps (zh st):=by exact .o) (hlen:∀as Q,φ as Q->as.length=ps.length:=by intro _ _ h;repeat first|(obtain⟨rfl,_⟩:=h;rfl)|obtain⟨_,h⟩:=h):Cal P w K mg base x (k+1) φ:=by
 obtain⟨f,fd,F,hm,hb⟩:=G;exact z72 F hm hb S hlen λcdv b outer s H E as Q hr h=>a f cdv b outer s H E as Q S.nd hr h
def lL {C f:Ad}{fd:Ap}{m d:Str}{st:An}{ps:List Str}{k:Nat}{φ:List A->(A->Prop)->Prop}(N:List Str)(c:Cls K C)(e:Meth K C m f)(F:Fun K m d st f fd)(hb:Binds K fd ps [])
  (a:∀(cdv:Ab) (b:Am) (outer:List Ar) (s:Ac) (H:Hp) (E:XK) (as:List A) (Q:A->Prop),N.Nodup->zM k (b.deeper (envOfC d (zh st) s.heap.objs.size f cdv))->φ as Q->
   SvS (vM CX0 P w K mg base N d (zh st) f cdv b outer s H E).nox (as.map some++List.replicate (N.length-as.length) none) (zw st) {nx:=λ_=>Q (.dat .none),rt:=Q})
  (S:zZ N ps (zh st):=by exact .o) (hlen:∀as Q,φ as Q->as.length=ps.length:=by intro _ _ h;repeat first|(obtain⟨rfl,_⟩:=h;rfl)|obtain⟨_,h⟩:=h):xp P w K mg base C m (k+1) φ:=
 ⟨f,fd,ps,c,e,hb,fnA F S hlen λcdv b outer s H E as Q hr h=>a cdv b outer s H E as Q S.nd hr h⟩
end
end L2
set_option maxHeartbeats 4000000
namespace K95
open PySem PySem.Spec PyProof.Rows L2
noncomputable def top (i:Nat):An:=PySem.Challenge.pw_stayprice_k95_whole_alike_books.main.body.getD i (.Pass ⟨0,0,0,0⟩)
abbrev pe :An:=top 77
abbrev bF :An:=top 78
noncomputable def cA :Aq:=match zw pe with
 |[.Return (some (.List (.ListComp _ _ sc _::_) _)) _]=>sc
 |_=>zh pe
section
variable {P:Ag}{w:Ak}{K:Ae}{mg:Str->Option Ab}{base:Ao}
def zJ3 :zZ ["_law_script"] ["_law_script"] (zh pe):=⟨rfl,rfl,rfl,by decide +kernel,rfl,by decide +kernel,by decide +kernel⟩
def bz :zI ["_law_script"] (zh pe) ["_law_cell"] [none] cA:=⟨rfl,by decide +kernel,by decide +kernel,by decide +kernel,by decide +kernel,rfl,by decide +kernel⟩
def zv3 {f:Ad}{fd:Ap}(F:Fun K "_law_tape" "_law_tape" pe f fd)(T:zN6 mg):yM P w K mg base CX0 1 f fd ["_law_script"] (kY K):=by
 refine F.ok zJ3 (λvs H Q E h=>?_) (λcdv A outer s H vs Q E hr h=>?_)
 .obtain⟨a,ns,rfl,_⟩:=h;rfl
 .obtain⟨a,ns,rfl,G,hlen,k⟩:=h;refine⟨_,wG (vZ (aO (zv
   (zz8 rfl bz (iL (qm oi (pv 0) oW (oS zx)))
    (λ_ _ _ _=>zQ (i:=0) bz.nd rfl (Or.inl rfl))
    (λ_ _ _ _=>ie (vB aA (yT mE (by rfl) T.abs boot_abs (zv (pv 0) zJ)) (yv bx zx zx) (yi _)))
    (λ_ _ _ _=>yT mE (by rfl) T.abs boot_abs (zv (pv 0) zJ)))
   (zv (xX nq (by rfl) T.list boot_list (zv (qm oi (pv 0) oW (oS zx)) zJ))
   (zv zx zJ))))),?_⟩
  -- script[:63]
  refine⟨_,rfl,63,rfl,a,_,rfl,G,λl J=>?_⟩;obtain⟨ms,em,lm⟩:=zi2 ns none (some 63);rw[em];refine⟨l,rfl,⟨_,SqL.of zi⟩,λacc d=>?_⟩;have r:acc≠l:=λz=>by rw[z,zi]at d;cases d
  have g:H acc=none:=by rw[zc r]at d;exact d
  have s0:zt H (upd H l (.lst (ms.map V.int))):=λb o e=>by rw[zc (zk e J)];exact e
  refine fG (xs:=ms.map V.int) (λi ys B u=>∃bs v,ys=bs.map V.int/\bs.length<=i/\B=[v]/\u=upd (upd H l (.lst (ms.map V.int))) acc (.lst (bs.map V.int)))
   ⟨[],none,rfl,z82 _,rfl,rfl⟩ ?_ ?_ ?_
  .rintro i ys B u _ ⟨bs,v,rfl,_,rfl,rfl⟩;exact SqL.of (by rw[zc r.symm,zi])
  .rintro i x ys B u q ⟨bs,v,rfl,hb,rfl,rfl⟩;have hi:i<ms.length:=by
    have:=(z81.mp q).1
    rwa [z77]at this
   obtain⟨z,rfl⟩:∃z,x=V.int z:=by
    rw[z88]at q;cases e:ms[i]? with
    |none=>rw[e]at q;cases q
    |some z=>rw[e]at q;exact⟨z,(yb5 q).symm⟩
   refine⟨_,rfl,z,rfl,_,_,rfl,rfl,⟨by decide,by decide,by decide⟩,_,_,rfl,rfl,_,rfl,ze1 (λ_=>?_) (λ_=>?_)⟩
   .refine⟨_,rfl,z,rfl,zi,?_,bs++[if z<0 then -z else z],_,?_,?_,rfl,?_⟩
    .rw[z77];exact yp (by lia)
    .rw[yd2];rfl
    .rw[z95];simp;lia
    .rw[sR,yd2];rfl
   .exact⟨bs,_,rfl,by lia,rfl,rfl⟩
  .rintro ys B u ⟨bs,v,rfl,hb,rfl,rfl⟩;rw[z77]at hb
   -- list(script[:63])
   have s1:zt H (upd (upd H l (.lst (ms.map V.int))) acc (.lst (bs.map V.int))):=λb o e=>by rw[zc (zk e g)];exact s0 b o e
   refine⟨_,rfl,63,rfl,a,_,rfl,s1.seq G,λl2 p=>?_⟩;rw[em];refine⟨l2,_,rfl,.inl (SqL.of zi),λc y=>?_⟩;refine⟨(by show 3<=sizeLine;decide),λt C=>?_⟩;have n1:l2≠acc:=λz=>by rw[z,zi]at p;cases p
   have n2:c≠l2:=λz=>by rw[z,zi]at y;cases y
   have j:upd (upd H l (.lst (ms.map V.int))) acc (.lst (bs.map V.int)) c=none:=by rw[zc n2]at y;exact y
   have D:c≠acc:=λz=>by rw[z,zi]at j;cases j
   have I:t≠c:=λz=>by rw[z,zi]at C;cases C
   have m:upd (upd (upd H l (.lst (ms.map V.int))) acc (.lst (bs.map V.int))) l2 (.lst (ms.map V.int)) t=none:=by rw[zc I]at C;exact C
   have M:t≠l2:=λz=>by rw[z,zi]at m;cases m
   have n:upd (upd H l (.lst (ms.map V.int))) acc (.lst (bs.map V.int)) t=none:=by rw[zc M]at m;exact m
   have L:t≠acc:=λz=>by rw[z,zi]at n;cases n
   refine k t acc c _ ⟨0,bs,ms,D.symm,zi,?_,?_,by lia,by lia⟩ (s1.free n) g (s1.free j) λb o e=>?_
   .rw[zc L.symm,zc D.symm,zc n1.symm,zi]
   .rw[zc I.symm,zi]
   .have e1:=s1 b o e;rw[zc (zk e1 n),zc (zk e1 j),zc (zk e1 p)];exact e1
def ixv {B:L2.St}{H:Hp}{Q:V->Hp->Prop}{i:Nat}{k:Int}{t xs x}(a:H t=some (.lst xs))(e:atI xs k=some x)(q:Q x H)(es:B[i]?=some (some (.ref t)):=by rfl):tOp (zO1 K) (zo3 i) (tC (.int k)) B H Q:=⟨_,es,t,_,k,_,rfl,rfl,SqL.of a,e,q⟩
def ixx {H:Hp}{Q:V->Prop}{k:Int}{t xs x}(a:H t=some (.lst xs))(e:atI xs k=some x)(q:Q x):∃p ys i v,V.ref t=.ref p/\V.int k=.int i/\SqL K H p ys/\atI ys i=some v/\Q v:=⟨t,_,k,_,rfl,rfl,SqL.of a,e,q⟩
def lnx {H:Hp}{t}{xs:List V}{Q:Ad->List V->Prop}(a:H t=some (.lst xs))(q:Q t xs):∃p ys,[V.ref t]=[.ref p]/\(SqL K H p ys\/SqT K H p ys)/\Q p ys:=⟨t,_,rfl,.inl (SqL.of a),q⟩
def opx {i j:Int}{C Q:Int->Int->Prop}(c:C i j)(q:Q i j):∃a b,V.int i=.int a/\V.int j=.int b/\C a b/\Q a b:=⟨_,_,rfl,rfl,c,q⟩
def opy {i j:Int}{Q:Int->Int->Prop}(q:Q i j):∃a b,V.int i=.int a/\V.int j=.int b/\Q a b:=⟨_,_,rfl,rfl,q⟩
def tu :zZ ["_law_tape_here","_law_many","_law_found","_law_cell","_law_number"] ["_law_tape_here","_law_many"] (zh bF):=⟨rfl,rfl,rfl,by decide +kernel,rfl,by decide +kernel,by decide +kernel⟩
def zy2 {f:Ad}{fd:Ap}(F:Fun K "_law_draw" "_law_draw" bF f fd)(T:zN6 mg):yM P w K mg base CX0 1 f fd ["_law_tape_here","_law_many"] aC:=by
 refine F.ok tu (λvs H Q E h=>?_) (λcdv A outer s H vs Q E hr h=>?_)
 .obtain⟨t,b,c,many,rfl,_⟩:=h;rfl
 .obtain⟨t,b,c,many,rfl,⟨n,bs,cs,D,L,hb,hc,lb,lc⟩,p,N,k⟩:=h;have G:=bj L hb (iR bs)
  -- tape[2]=tape[2]+1
  refine xy (λB H1=>B=[some (.ref t),some (.int many),none,none,none]/\H1=upd H t (.lst [.ref b,.ref c,.int (n+1)]))
   ⟨_,oF (yv tK (yI zS (pv 0) zx (λ_ _=>rfl)) zx) (jN (pv 0) zx set_list),?_⟩ ?_
  .refine ixv L rfl ?_;refine opy ?_;exact⟨_,rfl,t,_,2,2,rfl,rfl,L,rfl,rfl,rfl⟩
  rintro B H1 ⟨rfl,C⟩;have R:H1 t=some (.lst [.ref b,.ref c,.int (n+1)]):=by rw[C];exact zi
  have Y:H1 b=some (.lst (bs.map V.int)):=by rw[C,zc G.symm];exact hb
  have Z:H1 c=some (.lst (cs.map V.int)):=by rw[C,zc (bj L hc (iR cs)).symm];exact hc
  have J:pY t b H H1:=λa h1 h2=>by rw[C,zc h1]
  clear C
  -- while len(tape[0]) > 0 and tape[0][0]==0:tape[0].pop(0)
  refine xy (λB q=>∃g:List Int,g.length<=63/\B=[some (.ref t),some (.int many),none,none,none]/\q t=some (.lst [.ref b,.ref c,.int (n+1)])/\q b=some (.lst (g.map V.int))/\q c=some (.lst (cs.map V.int))/\pY t b H q)
   ⟨_,ka yo3 (zk8 (vB gP (yT yR (by rfl) T.len yr1 (zv (yI zS (pv 0) zx (λ_ _=>rfl)) zJ)) zx (yi _))
     (gI (vB iJ (yI zS (yI zS (pv 0) zx (λ_ _=>rfl)) zx (λ_ _=>rfl)) zx (yi _)))).pt
    (wG (nE (bY yr3 PySem.F.slot_list_pop PySem.F.type_list_pop zi9 (yI zS (pv 0) zx (λ_ _=>rfl)) (zv zx zJ)))),?_⟩ ?_
  .refine⟨λm B q=>∃g:List Int,m=g.length/\g.length<=63/\B=[some (.ref t),some (.int many),none,none,none]/\q t=some (.lst [.ref b,.ref c,.int (n+1)])/\q b=some (.lst (g.map V.int))/\q c=some (.lst (cs.map V.int))/\pY t b H q,
    ⟨_,bs,rfl,lb,rfl,R,Y,Z,J⟩,?_⟩
   rintro m B q ⟨g,rfl,v,rfl,d,e,o,l⟩;refine ixv d rfl ?_;refine lnx e ?_;refine opy ?_;refine⟨_,rfl,?_⟩;refine ze1 (λ_=>?_) (λ_=>?_)
   .cases g with
    |nil=>rename_i z;simp at z
    |cons z r=>
     refine ixv d rfl ?_;refine ixx e at0 ?_;refine⟨rfl,_,rfl,?_⟩;refine ze1 (λ_=>?_) (λ_=>?_)
     .refine⟨_,λa0 H' h'=>h',?_⟩;refine ixv d rfl ?_;refine⟨.inl ⟨rfl,_,SqL.of e⟩,b,_,0,0,_,rfl,rfl,e,by decide,by decide,z71,rfl,r.length,?_,r,rfl,?_,rfl,?_,zi,?_,?_⟩
      .simp
      .simp at v;lia
      .rw[zc G];exact d
      .rw[zc D.symm];exact o
      .exact l.trans λa h1 h2=>by rw[zc h2]
     .exact⟨_,v,rfl,d,e,o,l⟩
   .exact⟨_,v,rfl,d,e,o,l⟩
  rintro B q ⟨g,v,rfl,d,e,o,l⟩
  -- if len(tape[0]) > 0:..
  refine xy (λB u=>B=[some (.ref t),some (.int many),none,none,none]/\q=u)
   ⟨_,zi3 (vB gP (yT yR (by rfl) T.len yr1 (zv (yI zS (pv 0) zx (λ_ _=>rfl)) zJ)) zx (yi _))
    (zE (wB (i:=2) tu.nd rfl (Or.inl rfl) (yv vS (yI zS (yI zS (pv 0) zx (λ_ _=>rfl)) zx (λ_ _=>rfl)) (pv 1)))
    (zE (oF (yv rH (yI zS (yI zS (pv 0) zx (λ_ _=>rfl)) zx (λ_ _=>rfl)) (pv 1)) (jN (yI zS (pv 0) zx (λ_ _=>rfl)) zx set_list))
    (wG (vZ (pv 2))))) ox,?_⟩ ?_
  .refine ixv d rfl ?_;refine lnx e ?_;refine opy ?_;refine⟨_,rfl,?_⟩;refine ze1 (λ_=>?_) (λ_=>?_)
   .cases g with
    |nil=>rename_i z;simp at z
    |cons z r=>
     refine ixv d rfl ?_;refine ixx e at0 ⟨_,rfl,?_⟩;refine opx p ?_;refine ixv d rfl ?_;refine ixx e at0 ⟨_,rfl,?_⟩;refine opx ⟨p,(log2_small p N)⟩ ?_;refine ixv d rfl ?_;refine⟨b,_,0,0,rfl,rfl,e,ix0,_,rfl,?_⟩;refine k _ _ (yq7 _ (yt2 p)) (yo6 _ p) ⟨n+1,(z / many)::r,cs,D,?_,zi,?_,?_,lc⟩ ?_
     .rw[zc G];exact d
     .rw[zc D.symm];exact o
     .simpa using v
     .exact l.trans λa h1 h2=>by rw[zc h2]
   .exact⟨rfl,rfl⟩
  rintro B u ⟨rfl,rfl⟩
  -- cell=5;if len(tape[1]) > 0:..
  refine xy (λB u=>B=[some (.ref t),some (.int many),none,some (.int 5),none]/\q=u) ⟨_,wB (i:=3) tu.nd rfl (Or.inl rfl) zx,rfl,rfl⟩ ?_;rintro B u ⟨rfl,rfl⟩;refine xy (λB u=>∃z:Int,B=[some (.ref t),some (.int many),none,some (.int z),none]/\q=u)
   ⟨_,zi3 (vB gP (yT yR (by rfl) T.len yr1 (zv (yI zS (pv 0) zx (λ_ _=>rfl)) zJ)) zx (yi _))
    (wG (wB (i:=3) tu.nd rfl (Or.inl rfl) (yI zS (yI zS (pv 0) zx (λ_ _=>rfl)) (yv vS (yI zS (pv 0) zx (λ_ _=>rfl)) (yT yR (by rfl) T.len yr1 (zv (yI zS (pv 0) zx (λ_ _=>rfl)) zJ))) (λ_ _=>rfl)))) ox,?_⟩ ?_
  .refine ixv d rfl ?_;refine lnx o ?_;refine opy ?_;refine⟨_,rfl,?_⟩;refine ze1 (λI=>?_) (λ_=>?_)
   .have M:0<cs.length:=by simpa using I
    have U:0<((cs.map V.int).length:Int):=by rw[z77];lia
    have h2:=yo6 (n+1) U;obtain⟨j,hj⟩:=yj0 (yq7 (n+1) (yt2 U));have S:j<cs.length:=by rw[hj,z77]at h2;lia
    refine ixv d rfl ?_;refine ixv d rfl ?_;refine ixv d rfl ?_;refine lnx o ?_;refine opx U ?_;refine ixx (x:=.int cs[j]) o ?_ ⟨_,rfl,rfl⟩;rw[hj];exact yC (by rw[z88,z78 S];rfl)
   .exact⟨5,rfl,rfl⟩
  rintro B u ⟨z,rfl,rfl⟩
  -- the numbers
  refine xy (λB u=>∃y:Int,(0<=y/\y<2147483647)/\B=[some (.ref t),some (.int many),none,some (.int z),some (.int y)]/\q=u)
   ⟨_,wB (i:=4) tu.nd rfl (Or.inl rfl) (yv vS (yv rN (yv tK (yv tK (yv vS (pv 3) zx) (yv rN zx (yI zS (pv 0) zx (λ_ _=>rfl)))) zx) zx) zx),?_⟩ ?_
  .refine⟨_,rfl,?_⟩;refine opx (by show 0<999983;decide) ?_;refine ixv d rfl ?_;refine opx (.inl ⟨by decide,by decide⟩) ?_;refine opy ?_;refine opy ?_;refine opx (.inr ⟨by decide,by decide⟩) ?_;exact opx (by show 0<2147483647;decide) ⟨_,⟨yq7 _ (by decide),yo6 _ (by decide)⟩,rfl,rfl⟩
  rintro B u ⟨y,⟨X,O⟩,rfl,rfl⟩;refine xy (λB u=>∃y:Int,(0<=y/\y<2147483647)/\B=[some (.ref t),some (.int many),none,some (.int z),some (.int y)]/\q=u)
   ⟨_,wB (i:=4) tu.nd rfl (Or.inl rfl) (yv vS (yv tK (yv tK (yv rN (pv 4) (pv 4)) (yv rN zx (yI zS (pv 0) zx (λ_ _=>rfl)))) zx) zx),?_⟩ ?_
  .refine⟨_,rfl,_,rfl,?_⟩;refine opx (.inl ⟨by lia,by lia⟩) ?_;refine ixv d rfl ?_;refine opx (.inl ⟨by decide,by decide⟩) ?_;refine opy ?_;refine opy ?_;exact opx (by show 0<2147483629;decide) ⟨_,⟨yq7 _ (by decide),Int.lt_trans (yo6 _ (by decide)) (by decide)⟩,rfl,rfl⟩
  rintro B u ⟨y2,⟨X,O⟩,rfl,rfl⟩;refine⟨_,wG (vZ (yv vS (yv rH (yv vS (yv rN (yv rH (pv 4) zx) zx) zx) zx) (pv 1))),?_⟩;refine⟨_,rfl,?_⟩;refine opx ⟨by decide,by decide +kernel⟩ ?_;refine opx (.inr ⟨by decide,by decide⟩) ?_;refine opx (by show 0<2147483587;decide) ?_;refine opx ⟨by decide,by decide +kernel⟩ ⟨_,rfl,?_⟩;refine opx p ?_;exact k _ _ (yq7 _ (yt2 p)) (yo6 _ p) ⟨n+1,g,cs,D,d,e,o,v,lc⟩ l
end
end K95
set_option compiler.extract_closed false
set_option hygiene false in
local macro_rules
 |`(tactic| exists $f,$a)=>`(tactic| first|refine $f 0 $a ?_|refine $f 1 $a ?_|refine $f 2 $a ?_|refine $f 3 $a ?_|refine $f 4 $a ?_|refine $f 5 $a ?_|refine $f 6 $a ?_|refine $f 7 $a ?_|refine $f 8 $a ?_|refine $f 9 $a ?_|refine $f 10 $a ?_|refine $f 11 $a ?_|refine $f 12 $a ?_|refine $f 13 $a ?_|refine $f 14 $a ?_|refine $f 15 $a ?_|refine $f 16 $a ?_|refine $f 17 $a ?_)
 |`(tactic| exists $f)=>`(tactic| with_reducible refine $f ?_)
 |`(tactic| specialize $p)=>`(tactic| with_reducible show $p)
set_option hygiene false in
local macro_rules
 |`(tactic| and_intros)=>`(tactic| repeat (first
  |((specialize EvD _ _ _ _);first
   |((specialize EvD _ _ (.Name _ _) _);exists zj,rfl)
   |((specialize EvD _ _ (.Constant _ _ _) _);first|exists yq|exists wo|exists zF5|exists jg)
   |((specialize EvD _ _ (.BinOp (.Constant (.int 10) _ _) .Pow (.Constant (.int 6) _ _) _) _);refine nA (r:=1000000) ⟨by decide,by decide,by decide⟩ (by decide) ?_)
   |((specialize EvD _ _ (.BinOp (.Constant (.int 10) _ _) .Pow (.Constant (.int 12) _ _) _) _);refine nA (r:=1000000000000) ⟨by decide,by decide,by decide⟩ (by decide) ?_)
   |((specialize EvD _ _ (.BinOp (.Constant (.int 10) _ _) .Pow (.Constant (.int 9) _ _) _) _);refine nA (r:=1000000000) ⟨by decide,by decide,by decide⟩ (by decide) ?_)
   |((specialize EvD _ _ (.BinOp (.Constant (.int 10) _ _) .Pow (.Constant (.int 11) _ _) _) _);refine nA (r:=100000000000) ⟨by decide,by decide,by decide⟩ (by decide) ?_)
   |((specialize EvD _ _ (.BinOp _ .Add (.List _ _) _) _);refine EvL.d (wH ?_))
   |((specialize EvD _ _ (.BinOp (.List _ _) .Add _ _) _);refine EvL.d (wH ?_))
   |((specialize EvD _ _ (.BinOp (.Subscript _ (.Slice _ _ none _) _) .Add _ _) _);refine EvL.d (wH ?_))
   |((specialize EvD _ _ (.BinOp _ .Add (.Subscript _ (.Slice _ _ none _) _) _) _);refine EvL.d (wH ?_))
   |((specialize EvD _ _ (.BinOp (.Call (.Attribute _ "rules" _) _ _ _) .Add _ _) _);refine EvL.d (wH ?_))
   |exists wJ
   |exists kX
   |exists ev_mod
   |exists ev_fdiv
   |exists ev_mul
   |exists ev_shl
   |exists zP8
   |exists zb6
   |exists kP
   |((specialize EvD _ _ (.Subscript _ (.Slice _ _ none _) _) _);refine EvL.d (zy6 ?_))
   |((specialize EvD _ _ (.Subscript _ _ _) _);refine zb9 hr.one (fun _ _=>rfl) ?_)
   |((specialize EvD _ _ (.List _ _) _);refine EvL.d (wu ?_))
   |((specialize EvD _ _ (.Call (.Name "len" _) [.Call (.Name "set" _) _ _ _] _ _) _);refine ev_lenSet rfl (by rfl) nb.len (by rfl) (by assumption) ?_)
   |((specialize EvD _ _ (.Call (.Name "len" _) _ _ _) _);refine qH (by rfl) nb.len ?_)
   |((specialize EvD _ _ (.Call (.Name "min" _) [_,_] _ _) _);refine ev_min rfl (by rfl) nb.min ?_)
   |((specialize EvD _ _ (.Call (.Name "max" _) [_,_] _ _) _);refine zP6 rfl (by rfl) nb.max ?_)
   |((specialize EvD _ _ (.Call (.Name "list" _) _ _ _) _);refine EvL.d (el_list (by rfl) nb.list ?_))
   |((specialize EvD _ _ (.Call (.Name "repr" _) _ _ _) _);refine ev_repr hr.gd hr.units (by rfl) nb.repr ?_)
   |((specialize EvD _ _ (.Call (.Name "min" _) [_] _ _) _);refine ev_minI rfl hr.few (by rfl) nb.min ?_)
   |((specialize EvD _ _ (.Call (.Name "isinstance" _) _ _ _) _);first|refine rA (by rfl) nb.isinstance (by rfl) nb.int boot_int ?_|refine rA (by rfl) nb.isinstance (by rfl) nb.bool boot_bool ?_|refine rA (by rfl) nb.isinstance (by rfl) nb.str boot_str ?_|refine rA (by rfl) nb.isinstance (by rfl) nb.list boot_list ?_|refine rA (by rfl) nb.isinstance (by rfl) nb.tuple boot_tuple ?_)
   |((specialize EvD _ _ (.Call (.Name "int" _) _ _ _) _);refine ev_intB (by rfl) nb.int ?_)
   |((specialize EvD _ _ (.Call (.Name _ _) _ _ _) _);first|refine zm8 (by with_reducible assumption) (by exact⟨rfl,rfl,rfl,rfl,rfl⟩) (hr.mono (by decide)) (by rfl) ?_|refine EvN.d (cV (by with_reducible assumption) (by exact⟨rfl,rfl,rfl,rfl,rfl⟩) (hr.mono (by decide)) (by rfl) ?_))
   |((specialize EvD _ _ (.Call (.Attribute _ _ _) (_::_) _ _) _);refine bO (by with_reducible assumption) (by exact⟨rfl,rfl,rfl,rfl,rfl⟩) (hr.mono (by decide)) ?_)
   |((specialize EvD _ _ (.Call (.Attribute _ _ _) [] _ _) _);refine dq (by with_reducible assumption) (by exact⟨rfl,rfl,rfl,rfl,rfl⟩) (hr.mono (by decide)) ?_)
   |((specialize EvD _ _ (.Compare _ [_] _ _) _);first|exists zz5|exists zS5|exists ev_gt|exists zX7|exists zK1|exists ev_notN|((specialize EvD _ _ (.Compare _ [.Eq] _ _) _);refine zK8 hr.units ?_)|((specialize EvD _ _ (.Compare _ [.NotEq] _ _) _);refine zO0 hr.units ?_)|((specialize EvD _ _ (.Compare _ [.In] _ _) _);refine ev_ink hr.one ?_)|((specialize EvD _ _ (.Compare _ [.NotIn] _ _) _);refine ev_nink hr.one ?_)|((specialize EvD _ _ (.Compare _ [.Is] [.Constant (.bool _) _ _] _) _);refine zO7 ?_))
   |((specialize EvD _ _ (.Compare _ [_,_] _ _) _);first|refine zr5 ?_|refine ev_ltle ?_|refine zi5 ?_)
   |((specialize EvD _ _ (.BoolOp _ _ _) _);first|exists zN7|exists zT5|exists za0)
   |exists jQ)
  |((specialize EvA _ _ _ _);first
   |exists zz
   |((specialize EvA _ _ (.Name "_law_tape_here" _::_) _);exists uG,rfl)
   |refine zq ?_)
  |((specialize EvT _ _ _ _);first
   |((specialize EvT _ _ (.Compare _ [_] _ _) _);first|exists zS7|exists et_le|exists zF3|exists zT9|exists vX|exists ny|((specialize EvT _ _ (.Compare _ [.Eq] _ _) _);refine zN1 hr.units ?_)|((specialize EvT _ _ (.Compare _ [.NotEq] _ _) _);refine zL0 hr.units ?_)|((specialize EvT _ _ (.Compare _ [.In] _ _) _);refine zM9 hr.one ?_)|((specialize EvT _ _ (.Compare _ [.NotIn] _ _) _);refine zv0 hr.one ?_)|((specialize EvT _ _ (.Compare _ [.Is] [.Constant (.bool _) _ _] _) _);refine et_isB ?_)|((specialize EvT _ _ (.Compare _ [.IsNot] [.Constant (.bool _) _ _] _) _);refine et_isntB ?_))
   |((specialize EvT _ _ (.Compare _ [_,_] _ _) _);first|refine et_lelt ?_|refine et_ltle ?_|refine za2 ?_)
   |exists oP
   |((specialize EvT _ _ (.BoolOp _ _ _) _);exists EvW.t)
   |refine rg ?_)
  |((specialize EvL _ _ _ _);first
   |exists wu
   |((specialize EvL _ _ (.Call (.Name "list" _) _ _ _) _);refine el_list (by rfl) nb.list ?_)
   |((specialize EvL _ _ (.Call (.Name _ _) _ _ _) _);refine zm9 (by with_reducible assumption) (by exact⟨rfl,rfl,rfl,rfl,rfl⟩) (hr.mono (by decide)) (by rfl) ?_)
   |((specialize EvL _ _ (.Call (.Attribute _ _ _) [] _ _) _);refine el_meth0R (by with_reducible assumption) (by exact⟨rfl,rfl,rfl,rfl,rfl⟩) (hr.mono (by decide)) ?_)
   |((specialize EvL _ _ (.Subscript _ (.Slice _ _ none _) _) _);refine zy6 ?_)
   |((specialize EvL _ _ (.BinOp _ .Add _ _) _);refine wH ?_))
  |((specialize EvW _ _ _ _);first
   |exists zl5
   |exists zR6
   |exists oK
   |exists zG7)
  |((specialize EvO _ _ _ _);first
   |exists zr6
   |exists zx7)
  |((specialize mH _ _ _);first
   |refine ixk rfl rfl rfl ?_
   |refine zX0 ?_
   |refine zY7 ?_)
  |((specialize zi8 _ _ _ _);first
   |refine ink rfl rfl ?_
   |refine ink_hind ?_
   |refine inkT rfl rfl ?_)
  |((specialize oe _ _ _);first
   |exists zx4
   |exists zx2
   |exists eqk_bool
   |refine eqk rfl rfl rfl rfl ?_)
  |((specialize SvS _ _ _ _);first
   |((specialize SvS _ (List.set _ _ _) _ _);dsimp only[List.set])
   |((specialize SvS _ _ (zw _) _);show SvS _ _ (_::_) _)
   |((specialize SvS _ _ (.Assign [.Name _ _] (.List [] _) _::_) _);exists xm,nd)
   |((specialize SvS _ _ (.Assign [.Name _ _] _ _::_) _);exists yr,nd)
   |((specialize SvS _ _ (.Expr (.Call (.Attribute _ "append" _) _ _ _) _::_) _);exists vv,rfl)
   |((specialize SvS _ _ (.Return (some (.Name _ _)) _::_) _);exists xB,rfl)
   |exists xg
   |exists sv_cont
   |exists sv_pass
   |exists wR
   |exists zy
   |((with_reducible refine sI ?hk ?_);case hk=>first|rfl|decide +kernel)
   |((with_reducible refine yu ?hk ?_);case hk=>first|rfl|decide +kernel))
  |((specialize xw _ _);refine⟨_,rfl,by first|decide|lia,by first|decide|(show _<big;unfold big;lia),fun _ _ _=>?_⟩)
  |((with_reducible refine pd ?hk ?_);case hk=>first|rfl|decide +kernel)
  |((with_reducible refine iX ?hk ?_);case hk=>first|rfl|decide +kernel)
  |refine⟨_,_,rfl,rfl,?_⟩
  |refine⟨_,_,_,rfl,rfl,rfl,?_⟩
  |refine⟨_,rfl,yg8 rfl,?_⟩
  |refine⟨_,rfl,rfl,?_⟩
  |refine⟨_,rfl,?_⟩))
namespace K95
open PySem PySem.Spec PyProof.Rows L2
abbrev bD :An:=top 3
abbrev gr :An:=top 4
abbrev zz1 :An:=top 5
abbrev z02 :An:=top 6
abbrev zC2 :An:=top 7
abbrev lB :An:=top 8
abbrev zF1 :An:=inClass (top 34) 0
abbrev zB6 :An:=inClass (top 34) 2
abbrev zj3 :An:=inClass (top 34) 3
abbrev zs7 :An:=inClass (top 35) 0
abbrev zP2 :An:=inClass (top 36) 0
abbrev z59 :An:=inClass (top 37) 0
abbrev zp3 :An:=inClass (top 38) 0
abbrev zN5 :An:=inClass (top 39) 0
abbrev zL4 :An:=inClass (top 40) 0
abbrev zW5 :An:=inClass (top 41) 0
abbrev zi0 :An:=top 43
abbrev iY :An:=top 44
abbrev zg9 :An:=top 45
abbrev fb :An:=top 46
abbrev zA0 :An:=top 47
abbrev iH :An:=top 48
def lY (d:Aa):zU (.str "price") d=(isNone d||sV d):=rfl
def jI (d:Aa):zU (.str "come") d=isBool d:=rfl
def ze8 (d:Aa):zU (.str "go") d=isBool d:=rfl
def mq (d:Aa):zU (.str "least") d=xl 1 14 d:=rfl
def kA (d:Aa):zU (.str "most") d=xl 1 14 d:=rfl
def jy (d:Aa):zU (.str "deal") d=(isNone d||qr d):=rfl
def fN (d:Aa):zU (.str "fee") d=sV d:=rfl
theorem zF {lo hi:Int}{d:Aa}(h:xl lo hi d=true):∃i,d=.int i/\lo<=i/\i<=hi:=by
 cases d with
 |int i=>exact⟨i,rfl,yo8 (yk8.mp h).1,yo8 (yk8.mp h).2⟩
 |_=>cases h
theorem bool_inv {d:Aa}(h:isBool d=true):∃b,d=.bool b:=by
 cases d with
 |bool b=>exact⟨b,rfl⟩
 |_=>cases h
def tI {d:Aa}(h:qr d=true):∃m f:Int,d=.tuple [.int m,.int f]/\2<=m/\m<=14/\1<=f/\f<=m-1:=by
 unfold qr at h;split at h
 .obtain⟨h1,h2⟩:=yk8.mp h;obtain⟨_,rfl,h3,c⟩:=zF h2;obtain⟨_,e,a,b⟩:=zF h1;cases e;exact⟨_,_,rfl,a,b,h3,c⟩
 .cases h
theorem none_or {d:Aa}{p:Bool}(h:(isNone d||p)=true):d=.none\/p=true:=by
 cases d with
 |none=>exact .inl rfl
 |_=>exact .inr h
def yB {d:Aa}(h:yy d=true):∃(s:Str) (i j:Int) (v:Aa),s∈words/\d=.tuple [.str s,.int i,.int j,v]/\0<=i/\i<=j/\j<=1000000/\zU (.str s) v=true:=by
 obtain⟨s,a,b,v,m,rfl⟩:=tP h;obtain⟨h1,h2⟩:=yk8.mp (show(vn (.tuple [a,b])&&zU (.str s) v)=true from h);unfold vn zQ5 at h1;split at h1
 .rename_i k e;split at e
  .rename_i z;cases z;split at e
   .rename_i q;cases e;obtain⟨l,f⟩:=yk8.mp q;obtain⟨_,e1,c,a1⟩:=zF l;obtain⟨_,n,o,g⟩:=zF f;cases e1;cases n;have:=yo8 h1;exact⟨s,_,_,v,m,rfl,c,by lia,g,h2⟩
   .cases e
  .cases e
 .cases h1
def vT {s:Str}{v:Aa}(a:s∈words)(h:zU (.str s) v=true):v.hasDict=false/\noL v=true:=by
 have w:∀{lo hi:Int},xl lo hi v=true->v.hasDict=false/\noL v=true:=λz=>by obtain⟨_,rfl,_⟩:=zF z;exact⟨rfl,rfl⟩
 have b:isBool v=true->v.hasDict=false/\noL v=true:=λz=>by obtain⟨_,rfl⟩:=bool_inv z;exact⟨rfl,rfl⟩
 simp only[words,z84,ya5,yc8]at a;rcases a with rfl|rfl|rfl|rfl|rfl|rfl|rfl
 .rcases none_or h with rfl|h
  .exact⟨rfl,rfl⟩
  .exact w h
 .exact b h
 .exact b h
 .exact w h
 .exact w h
 .rcases none_or h with rfl|h
  .exact⟨rfl,rfl⟩
  .obtain⟨_,_,rfl,_⟩:=tI h;exact⟨rfl,rfl⟩
 .exact w h
def mQ :Ph:=λas Q=>∃i:Int,as=[.dat (.int i)]/\Q (.dat (.bool true))
def zl3 :Ph:=λas Q=>∃i lo hi:Int,as=[.dat (.int i),.dat (.int lo),.dat (.int hi)]/\lo<=i/\i<=hi/\Q (.dat (.bool true))
def zH6 :Ph:=λas Q=>∃i j:Int,as=[.dat (.tuple [.int i,.int j])]/\Q (.dat (.bool true))
def zW4 :Ph:=λas Q=>∃i:Int,as=[.dat (.int i)]/\0<=i/\i<=1000000/\Q (.dat (.bool true))
def zr4 :Ph:=λas Q=>∃i j:Int,as=[.dat (.tuple [.int i,.int j])]/\0<=i/\i<=j/\j<=1000000/\Q (.dat (.bool true))
def zU5 :Ph:=λas Q=>∃d,as=[.dat d]/\sV d=true/\Q (.dat (.bool true))
def zZ5 :Ph:=λas Q=>∃d,as=[.dat d]/\qr d=true/\Q (.dat (.bool true))
def zV4 :Ph:=λas Q=>∃s d,as=[.dat (.str s),.dat d]/\s∈words/\zU (.str s) d=true/\Q (.dat (.bool true))
def zR7 :Ph:=λas Q=>∃d,as=[.dat d]/\yy d=true/\Q (.dat (.bool true))
section
variable {P:Ag}{w:Ak}{K:Ae}{mg:Str->Option Ab}{base:Ao}{cs:Cs}
def gK (F:FnD K mg "is_whole" bD ["thing"])(nb:NbT mg):Cal P w K mg base "is_whole" 1 mQ:=by
 refine zL ["thing"] F λ_ _ _ _ _ _ _ _ Q nd hr h=>?_;obtain⟨i,rfl,q⟩:=h;and_intros;exact q
def jL (F:FnD K mg "is_whole_within" gr ["thing","lowest","highest"])(a:Cal P w K mg base "is_whole" 1 mQ):Cal P w K mg base "is_whole_within" 2 zl3:=by
 refine zL ["thing","lowest","highest"] F λ_ _ _ _ _ _ _ _ Q nd hr h=>?_;obtain⟨i,lo,hi,rfl,h1,h2,q⟩:=h;and_intros;refine pd (ya9 h1) ?_;and_intros;rw[ya9 h2];exact q
def aJ (F:FnD K mg "is_pair" zz1 ["thing"])(nb:NbT mg):Cal P w K mg base "is_pair" 1 zH6:=by
 refine zL ["thing"] F λ_ _ _ _ _ _ _ _ Q nd hr h=>?_;obtain⟨i,j,rfl,q⟩:=h;and_intros;exact q
def dB (F:FnD K mg "is_day" z02 ["thing"])(gl:∃t,mg "LAST_DAY"=some (.int 1000000 t))(a:Cal P w K mg base "is_whole_within" 2 zl3):Cal P w K mg base "is_day" 3 zW4:=by
 refine zL ["thing"] F λ_ _ _ _ _ _ _ _ Q nd hr h=>?_;obtain⟨i,rfl,h1,h2,q⟩:=h;and_intros;exact yS (by rfl) gl (zz ⟨_,_,_,rfl,h1,h2,q⟩)
def aN (F:FnD K mg "is_pair_of_days" zC2 ["thing"])(b:Cal P w K mg base "is_pair" 1 zH6)(a:Cal P w K mg base "is_day" 3 zW4):Cal P w K mg base "is_pair_of_days" 4 zr4:=by
 refine zL ["thing"] F λ_ _ _ _ _ _ _ _ Q nd hr h=>?_;obtain⟨i,j,rfl,h1,h2,h3,q⟩:=h;and_intros;refine⟨_,_,rfl,?_⟩;and_intros;refine⟨h1,by lia,?_⟩;and_intros;exact⟨by lia,h3,q⟩
def mj (F:FnD K mg "is_stretch" lB ["thing"])(a:Cal P w K mg base "is_pair_of_days" 4 zr4):Cal P w K mg base "is_stretch" 5 zr4:=by
 refine zL ["thing"] F λ_ _ _ _ _ _ _ _ Q nd hr h=>?_;obtain⟨i,j,rfl,h1,h2,h3,q⟩:=h;and_intros;refine⟨_,_,rfl,h1,h2,h3,?_⟩;and_intros;rw[ya9 h2];exact q
def mW (F:FnD K mg "is_coins" zi0 ["thing"])(gl:∃t,mg "MOST_COINS"=some (.int 1000000000000 t))(a:Cal P w K mg base "is_whole_within" 2 zl3):Cal P w K mg base "is_coins" 3 zU5:=by
 refine zL ["thing"] F λ_ _ _ _ _ _ _ _ Q nd hr h=>?_;obtain⟨d,rfl,h,q⟩:=h;obtain⟨i,rfl,h1,h2⟩:=zF h;and_intros;exact yS (by rfl) gl (zz ⟨_,_,_,rfl,h1,h2,q⟩)
def kx (F:FnD K mg "is_deal" iY ["thing"])(gl:∃t,mg "MOST_NIGHTS"=some (.int 14 t))(c:Cal P w K mg base "is_pair" 1 zH6)(b:Cal P w K mg base "is_whole_within" 2 zl3):Cal P w K mg base "is_deal" 3 zZ5:=by
 refine zL ["thing"] F λ_ _ _ _ _ _ _ _ Q nd hr h=>?_;obtain⟨d,rfl,h,q⟩:=h;obtain⟨m,f,rfl,h1,h2,h3,a⟩:=tI h;and_intros;refine⟨_,_,rfl,?_⟩;and_intros;refine yS (by rfl) gl (zz ⟨_,_,_,rfl,h1,h2,?_⟩);and_intros;exact⟨_,_,_,rfl,h3,a,q⟩
def lA (F:FnD K mg "is_worth" zg9 ["word","thing"])(nb:NbT mg)(gl:∃t,mg "MOST_NIGHTS"=some (.int 14 t))(c:Cal P w K mg base "is_whole_within" 2 zl3)(g:Cal P w K mg base "is_coins" 3 zU5)(e:Cal P w K mg base "is_deal" 3 zZ5):Cal P w K mg base "is_worth" 4 zV4:=by
 refine zL ["word","thing"] F λ_ _ _ _ _ _ _ _ Q nd hr h=>?_;obtain⟨s,d,rfl,a,h,q⟩:=h;simp only[words,z84,ya5,yc8]at a;rcases a with rfl|rfl|rfl|rfl|rfl|rfl|rfl
 .rcases none_or h with rfl|h
  .and_intros;exact q
  .obtain⟨i,rfl,_⟩:=zF h;and_intros;exact⟨h,q⟩
 .obtain⟨b,rfl⟩:=bool_inv h;and_intros;exact q
 .obtain⟨b,rfl⟩:=bool_inv h;and_intros;exact q
 .obtain⟨i,rfl,h1,h2⟩:=zF h;and_intros;exact yS (by rfl) gl (zz ⟨_,_,_,rfl,h1,h2,q⟩)
 .obtain⟨i,rfl,h1,h2⟩:=zF h;and_intros;exact yS (by rfl) gl (zz ⟨_,_,_,rfl,h1,h2,q⟩)
 .rcases none_or h with rfl|h
  .and_intros;exact q
  .obtain⟨m,f,rfl,_⟩:=tI h;and_intros;exact⟨h,q⟩
 .and_intros;exact⟨h,q⟩
def jn (F:FnD K mg "is_rule" fb ["thing"])(nb:NbT mg)(c:Cal P w K mg base "is_stretch" 5 zr4)(e:Cal P w K mg base "is_worth" 4 zV4):Cal P w K mg base "is_rule" 6 zR7:=by
 refine zL ["thing"] F λ_ _ _ _ _ _ _ _ Q nd hr h=>?_;obtain⟨d,rfl,h,q⟩:=h;obtain⟨s,i,j,v,a,rfl,h1,h2,h3,b⟩:=yB h;have hf:=(vT a b).1;and_intros;refine⟨true,by simp[PyData.hasDict,PyData.hasDictAll,hf],rfl,?_⟩;and_intros;refine⟨_,_,rfl,h1,h2,h3,?_⟩;and_intros;exact⟨_,_,rfl,a,b,q⟩
noncomputable def sg (C:Ad)(a b v:Aa):Aa:=vg C [(.str "first",a),(.str "last",b),(.str "worth",v)]
noncomputable def uJ (cs:Cs):Aa->Aa
 |.tuple [.str w,a,b,v]=>sg (cs.of w) a b v
 |_=>.none
def lX (C:Ad):Ph:=λas Q=>∃a b v,as=[.dat a,.dat b,.dat v]/\noL a=true/\noL b=true/\noL v=true/\Q (.dat (sg C a b v))
def z25 (cs:Cs):Ph:=λas Q=>∃s a b v,as=[.dat (.str s),.dat a,.dat b,.dat v]/\s∈words/\noL a=true/\noL b=true/\noL v=true/\Q (.dat (sg (cs.of s) a b v))
def mR (cs:Cs):Ph:=λas Q=>∃d,as=[.dat d]/\yy d=true/\Q (.dat (uJ cs d))
def kD (C:Ad)(w:Str):Ph:=λas Q=>∃a b v,as=[.dat (sg C a b v)]/\Q (.dat (.tuple [.str w,a,b,v]))
def oQ (C:Ad)(w:Str):Ph:=λas Q=>∃a b v,as=[.dat (sg C a b v)]/\Q (.dat (.str w))
def rE (C:Ad):Ph:=λas Q=>∃(a b day:Int) (v:Aa),as=[.dat (sg C (.int a) (.int b) v),.dat (.int day)]/\Q (.dat (.bool (decide (a<=day)&&decide (day<=b))))
def bG (F:FnD K mg "made" zA0 ["word","first","last","worth"])(i:vp P w K mg base "Price" 1 [] (lX cs.price))(f:vp P w K mg base "Come" 1 [] (lX cs.come))(k:vp P w K mg base "Go" 1 [] (lX cs.go))(g:vp P w K mg base "Least" 1 [] (lX cs.least))(j:vp P w K mg base "Most" 1 [] (lX cs.most))(l:vp P w K mg base "Deal" 1 [] (lX cs.deal))(e:vp P w K mg base "Fee" 1 [] (lX cs.fee)):Cal P w K mg base "made" 3 (z25 cs):=by
 refine zL ["word","first","last","worth"] F λ_ _ _ _ _ _ _ _ Q nd hr h=>?_;obtain⟨s,a,b,v,rfl,c,ha,hb,d,q⟩:=h;simp only[words,z84,ya5,yc8]at c;rcases c with rfl|rfl|rfl|rfl|rfl|rfl|rfl<;>and_intros<;>exact⟨_,_,_,rfl,ha,hb,d,q⟩
def jh (F:FnD K mg "rule_of" iH ["thing"])(CR:Cal P w K mg base "is_rule" 6 zR7)(c:Cal P w K mg base "made" 3 (z25 cs)):Cal P w K mg base "rule_of" 7 (mR cs):=by
 refine zL ["thing"] F λ_ _ _ _ _ _ _ _ Q nd hr h=>?_;obtain⟨d,rfl,h,q⟩:=h;obtain⟨s,i,j,v,a,rfl,h1,h2,h3,b⟩:=yB h;and_intros;refine⟨h,?_⟩;and_intros;exact⟨_,_,_,_,rfl,a,rfl,rfl,(vT a b).2,q⟩
def yX {x:Str}{C f fT fE fW:Ad}{fd:Ap}(R:sH K C f fT fE fW)(hm:mg x=some (.ref C))(F:Fun K "__init__" "Rule.__init__" zF1 f fd)(hb:Binds K fd ["self","first","last","worth"] []):vp P w K mg base x 1 [] (lX C):=by
 refine⟨C,f,fd,_,[],hm,R.makes,hb,.nil,F.ok (N:=["self","first","last","worth"]) .o (λvs H Q E h=>?_) (λcdv A outer s H vs Q E hr h=>?_)⟩
 .obtain⟨_,as,_,_,_,_,_,rfl,_,_,_,_,_,_,_,c,⟨a,b,v,rfl,_⟩,_⟩:=h;exact congrArg (·+1) c.length
 .obtain⟨G,as,S,p,dx,O,H1,rfl,g,D,hn,rfl,rfl,t,o,c,⟨a,b,v,rfl,n1,n2,r,q⟩,M⟩:=h;cases c with
  |cons B c=>cases c with
   |cons J c=>cases c with
    |cons L c=>
     cases c;rename_i x y z;refine⟨_,zE (nk (pv 0) (pv 1) rfl) (zE (nk (pv 0) (pv 2) rfl) (wG (nk (pv 0) (pv 3) rfl))),_,rfl,_,rfl,p,C,dx,[],rfl,zi,R.cl,R.nf,(by decide:0<1000),_,rfl,_,rfl,p,C,dx,_,rfl,zi,R.cl,R.nl,(show 1<1000 by decide),_,rfl,_,rfl,p,C,dx,we "last" y (we "first" x []),rfl,zi,R.cl,R.nw,(show 2<1000 by decide),?_⟩;show Q .non _;rw[sR,sR,sR];have i:zt G.H0 (upd (upd G.H0 dx (.own p)) p (.ins C dx (z00 x y z))):=λa o e=>by rw[zc (zk e g),zc (zk e D)];exact e
     have k:∀{u:V} {d:Aa},AV (sub (λy=>¬G.O0 y) G.H0) u d->noL d=true->AV (sub (λy=>¬G.O0 y/\∀xs,G.H0 y≠some (.lst xs)) (upd (upd G.H0 dx (.own p)) p (.ins C dx (z00 x y z)))) u d:=λh n=>h.noL (λa o I e=>by
      obtain⟨e1,m⟩:=zf e;exact zB ⟨e1,λxs l=>by rw[m]at l;cases l;exact I trivial⟩ (i _ _ m)) n
     refine M _ _ q ⟨t.same i,Kz.of_same i,.ins (zB ⟨λe=>?_,λxs e=>by rw[g]at e;cases e⟩ zi) (.cons (k B n1) (.cons (k J n2) (.cons (k L r) .nil)))⟩;obtain⟨u,j,_⟩:=o p e;rw[g]at j;cases j
def xk {C f fI fT fE:Ad}{fd:Ap}{c d:Str}{st:An}{j:Nat}{p1 p2:Pos}(R:sH K C fI fT fE f)(F:Fun K "word" d st f fd)(hb:Binds K fd ["self"] [])(S:zZ ["self"] ["self"] (zh st))(e:zw st=[.Return (some (.Constant (.str c) j p1)) p2]):xp P w K mg base C "word" 1 (oQ C c):=by
 refine lL ["self"] R.cl R.word F hb (λ_ _ _ _ _ _ _ Q nd hr h=>?_) S;obtain⟨a,b,v,rfl,q⟩:=h;rw[e];exact xg (wo q)
def xh {C f fI fE fW:Ad}{fd:Ap}{c:Str}(R:sH K C fI f fE fW)(F:Fun K "told" "Rule.told" zB6 f fd)(hb:Binds K fd ["self"] [])(W:xp P w K mg base C "word" 1 (oQ C c)):xp P w K mg base C "told" 2 (kD C c):=by
 refine lL ["self"] R.cl R.told F hb λ_ _ _ _ _ _ _ Q nd hr h=>?_;obtain⟨a,b,v,rfl,q⟩:=h;and_intros;exact⟨_,_,_,rfl,zq (vb R.cl R.nf (zj 0 rfl ⟨_,_,rfl,rfl,zq (vb R.cl R.nl (zj 0 rfl ⟨_,_,rfl,rfl,zq (vb R.cl R.nw (zj 0 rfl ⟨_,_,rfl,rfl,zz ⟨_,rfl,yg8 rfl,q⟩⟩))⟩))⟩))⟩
def yx {C f fI fT fW:Ad}{fd:Ap}(R:sH K C fI fT f fW)(F:Fun K "tells" "Rule.tells" zj3 f fd)(hb:Binds K fd ["self","day"] []):xp P w K mg base C "tells" 1 (rE C):=by
 refine lL ["self","day"] R.cl R.tells F hb λ_ _ _ _ _ _ _ Q nd hr h=>?_;obtain⟨a,b,day,v,rfl,q⟩:=h;and_intros;refine vb R.cl R.nf (zj 0 rfl ⟨_,_,rfl,rfl,?_⟩);and_intros;refine pO (λz=>?_) (λz=>?_)
 .rw[z,ys3]at q;exact vb R.cl R.nl (zj 0 rfl ⟨_,_,rfl,rfl,_,rfl,q⟩)
 .rw[z,yl8]at q;exact q
end
abbrev zz9 :An:=top 52
abbrev xv :An:=inClass (top 51) 0
abbrev uA :An:=inClass (top 51) 1
abbrev iu :An:=inClass (top 51) 2
abbrev zk7 :An:=top 42
noncomputable def zA (C:Ad)(cs:Cs)(ds:List Aa):Aa:=vg C [(.str "kept",.list (ds.map (uJ cs)))]
def Rules (ds:List Aa):Prop:=∀d∈ds,yy d=true/\SeqAt.shaped d=true/\d.hasDict=false
def br (cs:Cs):Ph:=λas Q=>∃ds,as=[.dat (.list ds)]/\Rules ds/\ds.length<=24/\Q (.own (ds.map (uJ cs)))
def wV (C:Ad)(cs:Cs):Ph:=λas Q=>∃ds,(as=[.dat (.list ds)]\/(as=[.dat .none]/\ds=[]))/\Rules ds/\ds.length<=24/\Q (.dat (zA C cs ds))
def vH (C:Ad)(cs:Cs):Ph:=λas Q=>∃ds,as=[.dat (zA C cs ds)]/\Rules ds/\ds.length<=1000/\Q (.own ds)
def uk {cs:Cs}{d:Aa}(h:yy d=true):∃(s:Str) (a b v:Aa),s∈words/\d=.tuple [.str s,a,b,v]/\uJ cs d=sg (cs.of s) a b v:=by
 obtain⟨s,a,b,v,c,rfl⟩:=tP h;exact⟨s,a,b,v,c,rfl,rfl⟩
noncomputable def zj0 :Aq:=match zw uA with
 |[.Return (some (.ListComp _ _ sc _)) _]=>sc
 |_=>zh uA
noncomputable def tbU :List (Str×V):=[("price",.non),("come",.bl true),("go",.bl true),("least",.int 1),("most",.int 14),("deal",.non),("fee",.int 0)]
noncomputable def jv (x:Str):Aa:=if x="price"\/x="deal" then .none else if x="come"\/x="go" then .bool true else if x="least" then .int 1 else if x="most" then .int 14 else .int 0
def zP7 {x:Str}(h:x∈words):∃v,tbU.lookup x=some v/\scV (jv x)=some v:=by
 simp only[words,z84,ya5,yc8]at h;rcases h with rfl|rfl|rfl|rfl|rfl|rfl|rfl
 .exact⟨.non,by decide +kernel,by decide +kernel⟩
 .exact⟨.bl true,by decide +kernel,by decide +kernel⟩
 .exact⟨.bl true,by decide +kernel,by decide +kernel⟩
 .exact⟨.int 1,by decide +kernel,by decide +kernel⟩
 .exact⟨.int 14,by decide +kernel,by decide +kernel⟩
 .exact⟨.non,by decide +kernel,by decide +kernel⟩
 .exact⟨.int 0,by decide +kernel,by decide +kernel⟩
def bA (x:Str):zX 5000 (jv x):=by
 have a:0<big:=by decide +kernel
 have b:14<big:=by decide +kernel
 have i1:∀i:Int,0<=i->i<=14->zX 5000 (.int i):=λi h0 h1=>(zX.int (by lia) (by lia)).mono (by decide);unfold jv;split
 .exact zX.none.mono (by decide)
 .split
  .exact(zX.bool _).mono (by decide)
  .split
   .exact i1 _ (by decide) (by decide)
   .split
    .exact i1 _ (by decide) (by decide)
    .exact i1 _ (by decide) (by decide)
noncomputable def sE (w:Str)(day:Int):Aa->Bool
 |.tuple [.str x,.int a,.int b,_]=>decide (x=w)&&(decide (a<=day)&&decide (day<=b))
 |_=>false
noncomputable def fc :Aa->Aa
 |.tuple [_,_,_,v]=>v
 |_=>.none
noncomputable def zm (ds:List Aa)(w:Str)(day:Int):Aa:=match ds.reverse.find? (sE w day)with
 |some d=>fc d
 |none=>jv w
theorem qj {p:Aa->Bool}{e:Aa}:∀{l:List Aa}{i:Nat},(∀j<i,∀d,l[j]?=some d->p d=false)->l[i]?=some e->p e=true->l.find? p=some e
 |[],i,_,h,_=>by simp at h
 |d::l,0,_,h,q=>by
  simp at h;subst h;simp[yg1,q]
 |d::l,i+1,a,h,q=>by
  have hd:=a 0 (yq8 _) d rfl;rw[yg1,hd];exact qj (λj b x c=>a (j+1) (Nat.succ_lt_succ b) x (by simpa using c)) (by simpa using h) q
def zt2 {p:Aa->Bool}{l:List Aa}(h:∀(j:Nat) d,l[j]?=some d->p d=false):l.find? p=none:=by
 rw[List.find?_eq_none];intro x b;obtain⟨j,a⟩:=List.mem_iff_getElem?.mp b;rw[h j x a];simp
def ff :List A->(A->Prop)->Prop:=λas Q=>∃x,as=[.dat (.str x)]/\x∈words/\Q (.dat (jv x))
def uw (C:Ad)(cs:Cs):List A->(A->Prop)->Prop:=λas Q=>∃ds x day,as=[.dat (zA C cs ds),.dat (.str x),.dat (.int day)]/\Rules ds/\x∈words/\Q (.dat (zm ds x day))
section
variable {P:Ag}{w:Ak}{K:Ae}{mg:Str->Option Ab}{base:Ao}{cs:Cs}
def aY (F:FnD K mg "kept_rules" zz9 ["things"])(nb:NbT mg)(j:∃t,mg "MOST_RULES"=some (.int 24 t))(g:Cal P w K mg base "rule_of" 7 (mR cs)):Cal P w K mg base "kept_rules" 8 (br cs):=by
 refine zL ["things","kept","number","thing","rule"] F λ_ _ _ _ _ _ _ _ Q nd hr h=>?_;obtain⟨ds,rfl,k,l,q⟩:=h;and_intros;refine zR (.many [2,3]) (sT (by rfl) nb.enumerate (zj 0 rfl (⟨_,rfl,zC (λi O=>∃v2 c v4,O=[some (.dat (.list ds)),some (.own ((ds.take i).map (uJ cs))),v2,c,v4]) ⟨none,none,none,rfl⟩ ?_ ?_⟩)))
 .rintro i d O hd ⟨v2,c,v4,rfl⟩;obtain⟨e,he,rfl⟩:=xF hd;have f:=(k e (yb6 he)).1;have hi:=(z81.mp he).1;obtain⟨s',a,b,v,m,rfl,n⟩:=uk (cs:=cs) f;have e:(ds.take (i+1)).map (uJ cs)=(ds.take i).map (uJ cs)++[uJ cs (.tuple [.str s',a,b,v])]:=by
   rw[yg0,he,yd2];rfl
  rw[e];refine⟨_,rfl,?_⟩;and_intros;refine⟨f,?_⟩;and_intros;refine⟨by rw[z77,yc3];lia,?_⟩;and_intros;exact⟨_,_,_,rfl⟩
 .rintro O ⟨v2,c,v4,rfl⟩;rw[xG,yf6];refine wR (oy 1 rfl (zF3 (qH (by rfl) nb.len (zj 1 rfl ⟨_,rfl,yS (by rfl) j ⟨_,_,rfl,rfl,yu (ya3 ?_) ?_⟩⟩))))
  .rw[z77]
   lia
  .and_intros;exact q
theorem mB {ds:List Aa}(e:Rules ds):wW (ds.map (uJ cs))=true:=by
 induction ds with
 |nil=>rfl
 |cons d r f=>
  have h1:=(e d z89).1;obtain⟨s',a,b,v,j,rfl,i⟩:=uk h1;obtain⟨_,_,_,_,c,h,_,_,_,hw⟩:=yB h1;cases h;rw[ya6,i];simp only[wW,(f λx g=>e x (z87 _ g)),Bool.and_true];simp[sg,vg,noL,rX,((vT c hw).2)]
def z74 :zZ ["self","rules"] ["self","rules"] (zh xv):=.o
def aX {f C:Ad}{dV:Ab}{fd:Ap}(F:zH0 K "__init__" "Book.__init__" xv dV f fd)(c:Cls K C)(na:yG K C "kept")(b:Cal P w K mg base "kept_rules" 8 (br cs)):yM P w K mg base CX0 9 f fd ["self","rules"] (spI C (wV C cs)):=by
 refine zW8 F z74 c na rfl (λas Q h=>?_) (λcdv i outer s H E as Q hr h=>?_) (λ_ _ _ _ _ _=>rfl) (Or.inl rfl)
 .obtain⟨ds,h|⟨h,_⟩,_⟩:=h<;>rw[h]<;>rfl
 .obtain⟨ds,h|⟨h,g⟩,a,e,q⟩:=h
  .subst h;exact wA b hr (by rfl) (zq (jQ (vX (zj 1 rfl (sv (zj 1 rfl (zz ⟨_,rfl,a,e,_,rfl,mB a,q⟩)))))))
  .subst h g;exact wA b hr (by rfl) (zq (jQ (vX (zj 1 rfl (sC (EvL.d (wu (zz ⟨_,rfl,yg8 rfl,zz ⟨[],rfl,a,e,_,rfl,mB a,q⟩⟩))))))))
def z06 :zI ["self"] (zh uA) ["rule"] [none] zj0:=⟨rfl,by decide +kernel,by decide +kernel,by decide +kernel,by decide +kernel,rfl,by decide +kernel⟩
def jR {f C:Ad}{fd:Ap}(c:Cls K C)(na:yG K C "kept")(l:Meth K C "rules" f)(F:Fun K "rules" "Book.rules" uA f fd)(hb:Binds K fd ["self"] [])(O:∀g∈words,xp P w K mg base (cs.of g) "told" 2 (kD (cs.of g) g)):xp P w K mg base C "rules" 3 (vH C cs):=by
 refine lL ["self"] c l F hb λ_ _ _ _ _ _ _ Q nd hr h=>?_;obtain⟨ds,rfl,n,k,q⟩:=h;refine vK (za4 (pat:=.one 0) rfl z06 rfl (λ_ _ _ _=>zQ z06.nd rfl (Or.inl rfl)) (zV (vb c na (zj 0 rfl ⟨_,_,rfl,rfl,⟨_,rfl,by rw[z77];exact k,?comp⟩⟩))))
 case comp=>
  refine fZ (λi acc=>acc=ds.take i) rfl ?_ (λacc h=>?_)
  .rintro i d acc hd rfl;rw[z88,z98]at hd;obtain⟨e,he,rfl⟩:=hd;obtain⟨s',a,b,v,m,rfl,o⟩:=uk (cs:=cs) (n e (yb6 he)).1;refine⟨_,rfl,λC s2 j fp=>jm ?_⟩;rw[if_pos rfl];refine λC s2 j fp=>qv (O s' m) hr (zj 0 rfl ⟨_,rfl,rfl,_,_,_,rfl,?_⟩);rw[yg0,he];rfl
  .rw[z77,yf6]at h;rw[h];exact q
def cy {a:Ad}(F:FnD K mg "usual" zk7 ["word"])(b:mg "USUAL"=some (.ref a))(d:iP K w a tbU):Cal P w K mg base "usual" 1 ff:=by
 refine zL ["word"] F λ_ _ _ _ _ _ _ _ Q nd hr h=>?_;obtain⟨x,rfl,c,q⟩:=h;obtain⟨v,h1,h2⟩:=zP7 c;exact xg (zi6 (by rfl) b d (zj 0 rfl ⟨x,jv x,v,rfl,h1,h2,q⟩))
def ja {f C:Ad}{fd:Ap}(c:Cls K C)(na:yG K C "kept")(A:Meth K C "tells_of" f)(F:Fun K "tells_of" "Book.tells_of" iu f fd)(hb:Binds K fd ["self","word","day"] [])(nb:NbT mg)(p:Cal P w K mg base "usual" 1 ff)(r:∀u∈words,xp P w K mg base (cs.of u) "word" 1 (oQ (cs.of u) u))(y:∀u∈words,xp P w K mg base (cs.of u) "tells" 1 (rE (cs.of u)))
  (n:∀u∈words,Cls K (cs.of u)/\yG K (cs.of u) "worth"):xp P w K mg base C "tells_of" 2 (uw C cs):=by
 refine lL ["self","word","day","rule"] c A F hb λ_ _ _ _ _ _ _ Q nd hr h=>?_;obtain⟨ds,x,day,rfl,B,s,q⟩:=h;refine zR (.one 3) (zK5 (by rfl) nb.reversed (vb c na (zj 0 rfl ⟨_,_,rfl,rfl,⟨_,rfl,zC (λi O=>(∃m,O=[some (.dat (zA C cs ds)),some (.dat (.str x)),some (.dat (.int day)),m])/\∀j<i,∀d,ds.reverse[j]?=some d->sE x day d=false) ⟨⟨none,rfl⟩,λj o=>absurd o (yt7 _)⟩ ?_ ?_⟩⟩)))
 .rintro i d O hd ⟨⟨m,rfl⟩,hno⟩;rw[<-List.map_reverse,z88,z98]at hd;obtain⟨e,he,rfl⟩:=hd;obtain⟨u,a,b,v,l,rfl,_,_,_,_⟩:=yB (B e (ys7.mp (yb6 he))).1;refine⟨_,rfl,?_⟩;refine wR (EvW.t (zp2 (λ_ k=>zM4 (qv (r u l) hr (zj 3 rfl ⟨_,rfl,rfl,_,_,_,rfl,zj 1 rfl ⟨_,_,rfl,rfl,k⟩⟩)))
   (λD _ k=>oK (ze4 (vD (y u l) hr (zj 3 rfl ⟨_,rfl,rfl,zq (zj 2 rfl (zz ⟨_,_,_,_,rfl,_,rfl,k⟩))⟩)))) ?_))
  refine yJ (λh=>?_) (λh=>?_)
  .refine xg (vb (n u l).1 (n u l).2 (zj 3 rfl ⟨_,_,rfl,rfl,?_⟩));unfold zm at q;rw[(qj hno he h)]at q;exact q
  .refine zy (zy ⟨⟨_,rfl⟩,λj o d' g=>?_⟩);rcases ye1 j i with z|z
   .exact hno j z d' g
   .have:j=i:=by lia
    subst this;rw[he]at g;cases g;exact h
 .rintro O ⟨⟨m,rfl⟩,hno⟩;refine xg (vV p (hr.mono (by decide)) (by rfl) (zq (zj 1 rfl (zz ⟨x,rfl,s,?_⟩))));have e1:=zt2 λj d hd=>hno j (by
   have:=(z81.mp hd).1;rw[yj6,z77]
   rwa [yj6]at this) d hd
  unfold zm at q;rw[e1]at q;exact q
end
structure vh (d:Aa):Prop where
 rule:yy d=true
 nice:zX 20011 d
 dep:d.depth<=2
 wn:zX 5000 (fc d)
def zo (ds:List Aa):Prop:=∀d∈ds,vh d
def pI {s:Str}(h:s∈words):zX 2000 (.str s):=by
 simp only[words,z84,ya5,yc8]at h;rcases h with rfl|rfl|rfl|rfl|rfl|rfl|rfl<;>exact⟨rfl,rfl,z94 _,by decide +kernel,by decide +kernel⟩
def vh.of {s:Str}{i j:Int}{d:Aa}(e:s∈words)(f:0<=i)(g:i<=j)(h:j<=1000000)(hw:zU (.str s) d=true)(hn:zX 5000 d)(hd:d.depth<=1):vh (.tuple [.str s,.int i,.int j,d]):=by
 have b:1000001<big:=by decide
 have c:-big<0:=by decide
 have na:yk 5000 [.str s,.int i,.int j,d]:=by
  constructor
  .intro x a;simp only[z84,ya5,yc8]at a;rcases a with rfl|rfl|rfl|rfl
   .exact(pI e).mono (by decide)
   .exact(zX.int (by lia) (by lia)).mono (by decide)
   .exact(zX.int (by lia) (by lia)).mono (by decide)
   .exact hn
  .intro x a;simp only[z84,ya5,yc8]at a;rcases a with rfl|rfl|rfl|rfl
   .exact z94 _
   .exact z94 _
   .exact z94 _
   .lia
 refine⟨?_,zX.tuple na (by show 4*(5000+2)+3<=20011;decide),?_,hn⟩
 .show(vn (.tuple [.int i,.int j])&&zU (.str s) d)=true;rw[hw,Bool.and_true];unfold vn zQ5;have h1:(fv (.int i)&&fv (.int j))=true:=by
   show((decide (0<=i)&&decide (i<=1000000))&&(decide (0<=j)&&decide (j<=1000000)))=true;simp only[yc5,yg6]
   lia
  simp only[h1,yl9,yg6]
  lia
 .simp only[PyData.depth,PyData.depthAll]
  lia
def zo.rules {ds:List Aa}(h:zo ds):Rules ds:=λd hd=>⟨(h d hd).rule,(h d hd).nice.shaped,(h d hd).nice.nod⟩
def oJ {ds:List Aa}{lo hi:Option Int}{d:Aa}(h:d∈L2.cutD ds lo hi):d∈ds:=by
 unfold L2.cutD at h;exact yg3 (yd8 h)
def nG {ds:List Aa}{lo hi:Option Int}:(L2.cutD ds lo hi).length<=ds.length:=by
 unfold L2.cutD;rw[yc3,yj9]
 lia
abbrev gX :An:=top 79
abbrev iA :An:=top 80
abbrev gu :An:=top 81
abbrev iE :An:=top 82
abbrev iF :An:=top 83
def within_int {lo hi i:Int}(h1:lo<=i)(h2:i<=hi):xl lo hi (.int i)=true:=by
 show(decide (lo<=i)&&decide (i<=hi))=true;rw[ya9 h1,ya9 h2];rfl
def uP {i:Int}(h0:-2000000000000<=i)(h1:i<=2000000000000):zX 2000 (.int i):=zX.int (by unfold big;lia) (by unfold big;lia)
def zo.nil :zo []:=λx a=>by simp at a
def zo.app {ds es:List Aa}(h:zo ds)(h':zo es):zo (ds++es):=λd hd=>(ya8.mp hd).elim (h d) (h' d)
def zo.snoc {ds:List Aa}{d:Aa}(h:zo ds)(hd:vh d):zo (ds++[d]):=h.app λx a=>by rw[z92.mp a];exact hd
def Bd (bs a:Int):Prop:=0<=bs/\bs<=999980/\1<=a/\a<=14
def nB :Ph:=λas Q=>as=[.tape]/\∀z:Int,0<=z->z<=1000000000000->Q (.dat (.int z))
def qt :Ph:=λas Q=>∃a,as=[.tape,.dat (.str a)]/\a∈words/\∀d,zU (.str a) d=true->zX 5000 d->d.depth<=1->Q (.dat d)
def mx :Ph:=λas Q=>∃bs a:Int,as=[.tape,.dat (.int bs),.dat (.int a)]/\Bd bs a/\∀ds,zo ds->1<=ds.length+1->ds.length<=5->Q (.own ds)
def mY :Ph:=λas Q=>∃bs a:Int,as=[.tape,.dat (.int bs),.dat (.int a)]/\Bd bs a/\∀ds,zo ds->1<=ds.length->ds.length<=5->Q (.own ds)
def sX :Ph:=λas Q=>∃bs a:Int,as=[.tape,.dat (.int bs),.dat (.int a)]/\Bd bs a/\∀ds,zo ds->1<=ds.length->ds.length<=10->Q (.dat (.list ds))
section
variable {P:Ag}{w:Ak}{K:Ae}{mg:Str->Option Ab}{base:Ao}
def dO (F:FnD K mg "_law_coins" gX ["_law_tape_here"])(a:Cal P w K mg base "_law_draw" 1 xw):Cal P w K mg base "_law_coins" 2 nB:=by
 refine zL ["_law_tape_here"] F λ_ _ _ _ _ _ _ _ Q nd hr h=>?_;obtain⟨rfl,q⟩:=h;and_intros;refine sP rfl (by assumption) (by assumption) ?_
 repeat refine⟨q _ (by lia) (by lia),?_⟩
 trivial
def dR (F:FnD K mg "_law_worth" iA ["_law_tape_here","_law_word"])(s:Cal P w K mg base "_law_draw" 1 xw)(t:Cal P w K mg base "_law_coins" 2 nB):Cal P w K mg base "_law_worth" 3 qt:=by
 refine zL ["_law_tape_here","_law_word","_law_many"] F λ_ _ _ _ _ _ _ _ Q nd hr h=>?_;obtain⟨i,rfl,hw,q⟩:=h;have g:∀z:Int,0<=z->z<=1000000000000->zU (.str i) (.int z)=true->Q (.dat (.int z)):=λz a b h=>q _ h ((uP (by lia) (by lia)).mono (by decide)) (z94 _);have j:zU (.str i) .none=true->Q (.dat .none):=λh=>q _ h (zX.none.mono (by decide)) (z94 _);have k:∀b,zU (.str i) (.bool b)=true->Q (.dat (.bool b)):=λb h=>q _ h ((zX.bool _).mono (by decide)) (z94 _);have r:∀m f:Int,i="deal"->2<=m->m<=14->1<=f->f<m->Q (.dat (.tuple [.int m,.int f])):=λm f e a b c d=>by
  subst e;exact q _ (yk8.mpr ⟨within_int a b,within_int c (by lia)⟩) (zX.tuple (yk.two (uP (by lia) (by lia)) (uP (by lia) (by lia)) (z94 _) (z94 _)) (by show 2*(2000+2)+3<=5000;decide)) (z82 _)
 simp only[words,z84,ya5,yc8]at hw;rcases hw with rfl|rfl|rfl|rfl|rfl|rfl|rfl<;>and_intros
 .refine⟨rfl,λo a1 l=>?_⟩;and_intros;refine⟨rfl,λp a2 n=>?_⟩;and_intros;exact sP rfl (by assumption) (by assumption) ⟨j rfl,g o a1 l (within_int a1 l),g p a2 n (within_int a2 n),trivial⟩
 .exact k _ rfl
 .exact k _ rfl
 .exact g _ (by lia) (by lia) (within_int (by lia) (by lia))
 .exact g _ (by lia) (by lia) (within_int (by lia) (by lia))
 .refine sP rfl (by assumption) (by assumption) ⟨j rfl,?_⟩
  repeat refine⟨r _ _ rfl (by lia) (by lia) (by lia) (by lia),?_⟩
  trivial
 .exact⟨rfl,λz a b=>g z a b (within_int a b)⟩
def kO (F:FnD K mg "_law_price_rules" gu ["_law_tape_here","_law_base","_law_days"])(nb:NbT mg)(u:Cal P w K mg base "_law_draw" 1 xw)(v:Cal P w K mg base "_law_coins" 2 nB):Cal P w K mg base "_law_price_rules" 3 mY:=by
 refine zL ["_law_tape_here","_law_base","_law_days","_law_found","_law_k","_law_first","_law_worth_here"] F λ_ _ _ _ _ _ _ _ Q nd hr h=>?_;obtain⟨bs,p,rfl,⟨C,E,A,D⟩,q⟩:=h;have e:∀{c:Int},0<=c->c<=1000000000000->zU (.str "price") (.int c)=true/\zX 5000 (.int c)/\(PyData.int c).depth<=1:=λa b=>⟨within_int a b,(uP (by lia) (by lia)).mono (by decide),z94 _⟩;refine xm 3 nd ?_;and_intros;refine⟨rfl,λz p1 g=>?_⟩;and_intros;refine zR (.one 4) (vJ (by rfl) nb.range ?_);and_intros;refine⟨by lia,by lia,zC (λi O=>∃v4 f v6 ds,O=[some .tape,some (.dat (.int bs)),some (.dat (.int p)),some (.own ds),v4,f,v6]/\zo ds/\1<=ds.length/\ds.length<=1+i) ⟨none,none,none,_,rfl,zo.nil.snoc (vh.of (by simp[words]) (by lia) (by lia) (by lia) (e p1 g).1 (e p1 g).2.1 (e p1 g).2.2),z82 _,z82 _⟩ ?_ ?_⟩
 .rintro i d O hd ⟨v4,f,v6,ds,rfl,j,l1,ld⟩;have hi:=(z81.mp hd).1;rw[z77,zb]at hi;refine⟨_,rfl,?_⟩;and_intros;refine⟨rfl,λt p5 k=>?_⟩;and_intros;refine⟨rfl,λx p6 o=>?_⟩;and_intros;refine⟨rfl,λy r m=>?_⟩;and_intros;refine kf (λd=>zU (.str "price") d=true/\zX 5000 d/\d.depth<=1) rfl (by assumption) (by assumption) ⟨⟨rfl,zX.none.mono (by decide),z94 _⟩,e p5 k,e p6 o,e r m,trivial⟩ ?_;rintro B ⟨l,n,s⟩;and_intros;refine⟨by lia,?_⟩;and_intros;exact⟨_,_,_,_,rfl,j.snoc (vh.of (by simp[words]) (by lia) (by lia) (by lia) l n s),by simp,by simp;lia⟩
 .rintro O ⟨v4,f,v6,ds,rfl,j,l1,ld⟩;rw[z77,zb]at ld;exact xB 3 rfl (q ds j l1 (by lia))
def kH (F:FnD K mg "_law_other_rules" iE ["_law_tape_here","_law_base","_law_days"])(nb:NbT mg)(k:Cal P w K mg base "_law_draw" 1 xw)(o:Cal P w K mg base "_law_worth" 3 qt):Cal P w K mg base "_law_other_rules" 4 mx:=by
 refine zL ["_law_tape_here","_law_base","_law_days","_law_found","_law_k","_law_word","_law_first"] F λ_ _ _ _ _ _ _ _ Q nd hr h=>?_;obtain⟨bs,e,rfl,⟨m,p,l,n⟩,q⟩:=h;and_intros;refine zR (.one 4) (vJ (by rfl) nb.range ?_);and_intros;refine⟨by lia,by lia,zC (λi O=>∃v4 a v6 ds,O=[some .tape,some (.dat (.int bs)),some (.dat (.int e)),some (.own ds),v4,a,v6]/\zo ds/\ds.length<=i) ⟨none,none,none,_,rfl,zo.nil,z82 _⟩ ?_ ?_⟩
 .rintro i d O hd ⟨v4,a,v6,ds,rfl,b,ld⟩;have hi:=(z81.mp hd).1;rw[z77,zb]at hi;refine⟨_,rfl,?_⟩;and_intros;refine kf (λd=>∃x,d=.str x/\x∈words) rfl (by assumption) (by assumption) ?_ ?_
  .repeat refine⟨⟨_,rfl,by simp[words]⟩,?_⟩
   trivial
  rintro _ ⟨r,rfl,hw⟩;and_intros;refine⟨hw,λj c g f=>?_⟩;and_intros;refine⟨by lia,?_⟩;and_intros;exact⟨_,_,_,_,rfl,b.snoc (vh.of hw (by lia) (by lia) (by lia) c g f),by simp;lia⟩
 .rintro O ⟨v4,a,v6,ds,rfl,b,ld⟩;rw[z77,zb]at ld;exact xB 3 rfl (q ds b (by lia) (by lia))
def jJ (F:FnD K mg "_law_rules" iF ["_law_tape_here","_law_base","_law_days"])(f:Cal P w K mg base "_law_draw" 1 xw)(j:Cal P w K mg base "_law_price_rules" 3 mY)(k:Cal P w K mg base "_law_other_rules" 4 mx):Cal P w K mg base "_law_rules" 5 sX:=by
 refine zL ["_law_tape_here","_law_base","_law_days","_law_ones","_law_others"] F λ_ _ _ _ _ _ _ _ Q nd hr h=>?_;obtain⟨bs,g,rfl,bd,q⟩:=h;refine yr 3 nd ?_;and_intros;refine⟨_,_,rfl,bd,λc a i l1=>yr 4 nd ?_⟩;and_intros;refine⟨_,_,rfl,bd,λe b _ l2=>xg (zb9 hr.one (λ_ _=>rfl) (EvL.d (wu (zq (EvL.d (wH (zj 3 rfl (zj 4 rfl ⟨_,_,rfl,rfl,by lia,zq (EvL.d (wH (zj 4 rfl (zj 3 rfl ⟨_,_,rfl,rfl,by lia,?_⟩))))⟩))))))))⟩;and_intros;exact sP rfl (by assumption) (by assumption) ⟨q _ (a.app b) (by simp;lia) (by simp;lia),q _ (b.app a) (by simp;lia) (by simp;lia),trivial⟩
end
abbrev gh :An:=top 9
def qG :Ph:=λas Q=>∃c g:Int,as=[.dat (.tuple [.int c,.int g])]/\-100<=c/\c<g/\g<=c+500/\c<=1000100/\Q (.own ((zp c (g-c).toNat).map .int))
section
variable {P:Ag}{w:Ak}{K:Ae}{mg:Str->Option Ab}{base:Ao}{cs:Cs}
def jF (F:FnD K mg "nights_of" gh ["stay"])(nb:NbT mg):Cal P w K mg base "nights_of" 1 qG:=by
 refine zL ["stay"] F λ_ _ _ _ _ _ _ _ Q nd hr h=>?_;obtain⟨c,g,rfl,h1,h2,h3,a,q⟩:=h;exact vK (mv rfl (by rfl) nb.list (by rfl) nb.range (xR (λ_ _=>rfl) (zj 0 rfl (yq (⟨_,_,_,rfl,rfl,rfl,xR (λ_ _=>rfl) (zj 0 rfl (yq (⟨_,_,_,rfl,rfl,rfl,⟨_,_,rfl,rfl,⟨by lia,by lia,by lia,by lia⟩,by lia,q⟩⟩)))⟩)))))
end
abbrev yL :An:=top 17
noncomputable def pf :Arguments×Aq:=match zw yL with
 |[.Return (some (.Call _ _ [⟨_,.Lambda ps _ sc _,_⟩] _)) _]=>(ps,sc)
 |_=>(zT yL,zh yL)
section
variable {P:Ag}{w:Ak}{K:Ae}{mg:Str->Option Ab}{base:Ao}
def zy0 :zZ ["prices","places"] ["prices","places"] (zh yL):=.o
def zY3 :xV "place" "prices" pf.1 pf.2:=⟨rfl,rfl,rfl,rfl,rfl,by decide +kernel,by decide +kernel,by decide⟩
def zH3 {f c:Ad}{b:Am}{outer:List Ar}{s:Ac}{H:Hp}{E:XK}{n1:Nat}{p1 p2 p3 p4 p5 p6:Pos}(hhd:PySem.W.codeHdIn K c yH=true)(a:K.In base)(hbi:base.BuiltinsAt mg yH):
  bL (vM CX0 P w K mg base ["prices","places"] "cheapest_first" (zh yL) f (.ref c) b outer s H E).nox c "place" "prices" n1 p1 p2 p3 p4 p5 p6 pf.1 pf.2 where
 S:=zY3
 hy:=rfl
 hcl:=λcl h=>by
  have e:pf.2.names=[(("prices":Str),NameKind.free),(("place":Str),NameKind.local)]\/pf.2.names=[(("place":Str),NameKind.local),(("prices":Str),NameKind.free)]:=by decide +kernel
  unfold closureFor;rcases e with e|e<;>rw[e]<;>simp[cellOf,h]
 hgl:=rfl
 hco:=rfl
 hhd:=PySem.W.codeHd_of_K a hhd
 hbi:=hbi
 hdf:=rfl
 hq:=rfl
 hne:=by decide
 hb:=λu cl c' pm ctv=>rfl
 hdx:=by decide
 hdy:=by decide
 hcx:=by decide
 hcy:=by decide
def nc :Ph:=λas Q=>∃ns zs:List Int,as=[.dat (.list (zs.map .int)),.dat (.list (ns.map .int))]/\ns.length<64/\(∀n∈ns,0<=n/\n<zs.length)/\∀ms,sF ns zs ms->Q (.own (ms.map .int))
def cG {f c:Ad}{oc:Ab}{od an:Option Ad}{osl:Array (Option Ab)}{kV doc pm ct:Ab}(g:K.lookup f=some ⟨oc,od,.func (PySem.W.fnOf "cheapest_first" "cheapest_first" (zT yL) (zw yL) (zh yL) .none kV doc pm an (.ref c) ct),osl⟩)(a:PySem.W.codeIn K (.ref c) "cheapest_first"=true)(kp:PySem.W.keepIn K (.ref f)=true)
  (hm:mg "cheapest_first"=some (.ref f)) (hb:Binds K (PySem.W.fnOf "cheapest_first" "cheapest_first" (zT yL) (zw yL) (zh yL) .none kV doc pm an (.ref c) ct) ["prices","places"] []) (nb:NbT mg) (hhd:PySem.W.codeHdIn K c yH=true) (e:K.In base) (hbi:base.BuiltinsAt mg yH):Cal P w K mg base "cheapest_first" 3 nc:=by
 refine⟨f,_,_,hm,kp,hb,z56 g a zy0 (λas Q h=>by obtain⟨ns,zs,rfl,_⟩:=h;rfl) λk outer s H E as Q hr h=>?_⟩;obtain⟨ns,zs,rfl,d,b,q⟩:=h;exact vK (kr (j:=0) (zH3 hhd e hbi) hr (by rfl) nb.sorted rfl (zj 1 rfl ⟨ns,zs,rfl,rfl,d,b,λms i=>q ms i⟩))
end
abbrev uT :An:=top 18
noncomputable def zW7 :Aq:=match zw uT with
 |.Assign _ (.ListComp _ _ sc _) _::_=>sc
 |_=>zh uT
def rK :Ph:=λas Q=>∃(zs:List Int) (d:Aa),as=[.dat (.list (zs.map .int)),.dat d]/\zs.length<=500/\
 ((d=.none/\Q (.own ((List.replicate zs.length false).map .bool)))\/∃many free:Nat,d=.tuple [.int many,.int free]/\0<many/\many<64/\∀bs,sr zs many free zs.length bs->Q (.own (bs.map .bool)))
theorem eU (ns:List Int):wW (ns.map .int)=true:=by
 induction ns with
 |nil=>rfl
 |cons n ns a=>rw[ya6,wW,a];rfl
section
variable {P:Ag}{w:Ak}{K:Ae}{mg:Str->Option Ab}{base:Ao}
def zS4 :zI ["prices","deal","marks","bundle","place","rank","other"] (zh uT) ["price"] [none] zW7:=⟨rfl,by decide +kernel,by decide +kernel,by decide +kernel,by decide +kernel,rfl,by decide +kernel⟩
def jW (F:FnD K mg "marked" uT ["prices","deal"])(nb:NbT mg)(H:Cal P w K mg base "cheapest_first" 3 nc):Cal P w K mg base "marked" 4 rK:=by
 refine zL ["prices","deal","marks","bundle","place","rank","other"] F λ_ _ R _ _ _ _ _ Q nd hr h=>?_;obtain⟨zs,d,rfl,hlen,h⟩:=h;refine zj1 2 (pat:=.one 0) nd rfl zS4 rfl (λ_ _ _ _=>zQ zS4.nd rfl (Or.inl rfl)) (zV (zj 0 rfl ⟨_,rfl,?_,?comp⟩))
 .rw[z77];lia
 refine vW (λ_=>true) (λ_=>.bool false) (λd hd=>⟨_,rfl,λ_ _ _ _ _ k=>jm k,λ_ _ _ _ _ _ k=>zF5 k⟩) ?_;have L:([]:List Aa)++List.map (λ_=>PyData.bool false) (List.filter (λ_=>true) (List.map PyData.int zs))=(List.replicate zs.length false).map .bool:=by
  rw[ye5,zk0,yi7,List.map_replicate];exact List.eq_replicate_iff.mpr ⟨by simp,by simp⟩
 rw[L];rcases h with⟨rfl,q⟩|⟨many,free,rfl,g,o,q⟩
 .exact wR (vX (zj 1 rfl (xB 2 rfl q)))
 refine wR (vX (zj 1 rfl (zy (xm 3 nd (wu (zz ⟨_,rfl,z94 _,?_⟩))))));refine oG (pat:=.one 4) yo3 rfl (zQ nd rfl (Or.inl rfl)) (vJ (by rfl) nb.range (qH (by rfl) nb.len (zj 0 rfl ⟨_,rfl,⟨_,rfl,by lia,by rw[z77];lia,?_⟩⟩)));refine zC (λi O=>∃bs B p t,sr zs many free i bs/\O=[some (.dat (.list (zs.map .int))),some (.dat (.tuple [.int many,.int free])),some (.own (bs.map .bool)),some (.own ((zp ((i / many*many:Nat):Int) (i % many)).map .int)),B,p,t]) ?_ ?_ ?_
 .refine⟨_,none,none,none,fg zs free,?_⟩;rw[Nat.zero_mod,Nat.zero_div];rfl
 .rintro i d O hd ⟨bs,B,p,t,mk,rfl⟩;have hi:i<zs.length:=by
   have:=(z81.mp hd).1;simpa[zb]using this
  obtain rfl:d=.int i:=by
   rw[z88,zG (by simpa using hi)]at hd;simpa using hd.symm
  refine⟨_,rfl,?_⟩;have E:=Nat.mod_lt i g;refine vv 3 rfl (zj 4 rfl ⟨by rw[z77,zb];lia,?_⟩);have J:List.map PyData.int (zp ((i / many*many:Nat):Int) (i % many))++[PyData.int i]=(zp ((i / many*many:Nat):Int) (i % many+1)).map .int:=by
   have e:=yq4 i many;have N:i / many*many=many*(i / many):=Nat.mul_comm _ _;rw[mF,yd2]
   congr 1
   simp only[ya6,yp1]
   congr 2
   lia
  rw[J];refine wR (oy 3 rfl (zN8 (qH (by rfl) nb.len (zj 3 rfl ⟨_,rfl,xR (λ_ _=>rfl) (zj 1 rfl (yq ⟨_,_,_,rfl,rfl,at0,_,_,rfl,rfl,zL5 (λC=>?_) (λC=>zy ?_)⟩))⟩))))
  .have c:i % many+1=many:=by
    rw[z77,zb]at C
    lia
   rw[c];have m:∀n∈zp ((i / many*many:Nat):Int) many,0<=n/\n<zs.length:=λn hn=>by
    rw[yt]at hn;have e:=yq4 i many;have N:i / many*many=many*(i / many):=Nat.mul_comm _ _
    lia
   refine oG (pat:=.many [5,6]) yo3 rfl (ve rfl rfl (xo (zQ nd rfl (Or.inl rfl)) (xo (zQ nd rfl (Or.inl rfl)) (uL))))
    (sT (by rfl) nb.enumerate (EvL.d (iT 3 rfl (wA H hr (by rfl) (zq (zj 0 rfl (zq (zj 3 rfl (zz ⟨_,zs,rfl,by rw[zb];exact o,m,λms s=>⟨_,rfl,eU ms,_,rfl,?_⟩⟩)))))))))
   have x:ms.length=many:=by rw[s.1.length_eq,zb]
   refine zC (λr O=>∃(a:List Bool) (p5 p6:Option A),(a.length=bs.length/\(∀q,q<r->a.getD (ms.getD q 0).toNat false=decide (q<free))/\∀j,(∀q,q<r->(ms.getD q 0).toNat≠j)->a.getD j false=bs.getD j false)/\
    O=[some (.dat (.list (zs.map .int))),some (.dat (.tuple [.int many,.int free])),some (.own (a.map .bool)),some (.own ((zp ((i / many*many:Nat):Int) many).map .int)),some (.dat (.int i)),p5,p6]) ?_ ?_ ?_
   .exact⟨bs,p,t,⟨rfl,λq h=>absurd h (yt7 _),λ_ _=>rfl⟩,rfl⟩
   .rintro r d O hd ⟨a,p5,p6,⟨f0,f1,f2⟩,rfl⟩;obtain⟨e,he,rfl⟩:=xF hd;have f:r<ms.length:=by
     have:=(z81.mp he).1;simpa using this
    obtain rfl:e=.int (ms.getD r 0):=by
     rw[z88,z78 f]at he;rw[z85,z78 f];simpa using he.symm
    refine⟨_,rfl,?_⟩;have v:=m (ms.getD r 0) (yt.mpr (uz s (q:=r) (by lia)));obtain⟨j,u⟩:=yj0 v.1;rw[u];have M:j<a.length:=by rw[f0,mk.1];lia
    refine zI7 2 rfl (zz5 (zj 5 rfl (xR (λ_ _=>rfl) (zj 1 rfl (yq ⟨_,_,_,rfl,rfl,yC rfl,_,_,rfl,rfl,zj 6 rfl ⟨_,j,rfl,?_,zy ?_⟩⟩)))))
    .unfold ixN;rw[if_pos (by lia),if_pos (by rw[z77];lia)];simp
    .refine⟨a.set j (decide (r<free)),some (.dat (.int ((0+r:Nat):Int))),some (.dat (.int j)),⟨?_,λq hq=>?_,λl D=>?_⟩,?_⟩
     .rw[yh0,f0]
     .by_cases y:q=r
      .subst y;rw[u,yf0,z85,ym2 M];rfl
      .have hne:(ms.getD q 0).toNat≠j:=λz=>by
        have a1:=(uz s (q:=q) (by lia)).1;have G:ms.getD q 0=ms.getD r 0:=by rw[u];lia
        rw[z85,z85,z78 (by lia),z78 f]at G;exact(yi1.mp (s.1.nodup_iff.mpr (pN _ _)) q r (by lia) f (by lia)) G
       rw[z85,yf1 hne.symm,<-z85,f1 q (by lia)]
     .have hne:j≠l:=λz=>D r (yd7 _) (by rw[u];lia);rw[z85,yf1 hne,<-z85,f2 l λq hq=>D q (by lia)]
     .have I:decide (((0+r:Nat):Int)<free)=decide (r<free):=by rw[decide_eq_decide];lia
      rw[I,List.map_set];rfl
   .rintro O ⟨a,p5,p6,⟨f0,f1,f2⟩,rfl⟩;refine xm 3 nd (wu (zz ⟨_,rfl,z94 _,zy ?_⟩));rw[xG,z77,x]at f1 f2;refine zy ⟨a,some (.dat (.int i)),p5,p6,fL g c mk s f0 f1 f2,?_⟩;rw[(lE g c).2.1];rfl
  .have b:i % many+1<many:=by
    rw[z77,zb]at C
    lia
   refine zy ⟨bs,some (.dat (.int i)),p,t,fw g b mk,?_⟩;rw[(rZ g b).1,(rZ g b).2];rfl
 .rintro O ⟨bs,B,p,t,mk,rfl⟩;have el:(List.map PyData.int (zp 0 ((List.map PyData.int zs).length:Int).toNat)).length=zs.length:=by simp[zb]
  rw[el]at mk;exact xB 2 rfl (q bs mk)
end
abbrev sNP :An:=top 19
abbrev qA :An:=top 20
noncomputable def zr0 :Aq:=match (zw qA).getD 5 (.Pass ⟨0,0,0,0⟩)with
 |.Assign _ (.Call _ [.ListComp _ _ sc _] _ _) _=>sc
 |_=>zh qA
def zT1 (C:Ad)(cs:Cs):Ph:=λas Q=>∃(ds:List Aa) (ns:List Int) (pr:Int->Int),as=[.dat (zA C cs ds),.dat (.list (ns.map .int))]/\Rules ds/\ns.length<=900/\(∀z∈ns,zm ds "price" z=.int (pr z))/\Q (.own ((ns.map pr).map .int))
def bp (C:Ad)(cs:Cs):Ph:=λas Q=>∃(ds:List Aa) (c g fee:Int) (pr:Int->Int),as=[.dat (zA C cs ds),.dat (.tuple [.int c,.int g])]/\Rules ds/\0<=c/\c<g/\g<=c+400/\c<=1000000/\(∀z,c<=z->z<g->zm ds "price" z=.int (pr z)/\0<=pr z/\pr z<=1000000000000)/\
 (zm ds "deal" c=.none\/∃many free:Nat,zm ds "deal" c=.tuple [.int many,.int free]/\0<many/\many<64)/\zm ds "fee" c=.int fee/\
 ∀bs,wU (zm ds "deal" c) ((zp c (g-c).toNat).map pr) bs->Q (.dat (.tuple [.int ((yW ((zp c (g-c).toNat).map pr) bs).sum+fee),.list (xU ((zp c (g-c).toNat).map .int) (((zp c (g-c).toNat).map pr).map .int) (bs.map .bool)),.int fee]))
section
variable {P:Ag}{w:Ak}{K:Ae}{mg:Str->Option Ab}{base:Ao}{cs:Cs}
def zQ4 {C:Ad}(F:FnD K mg "night_prices" sNP ["book","nights"])(e:xp P w K mg base C "tells_of" 2 (uw C cs)):Cal P w K mg base "night_prices" 3 (zT1 C cs):=by
 refine zL ["book","nights","prices","night","price"] F λ_ _ k _ _ _ _ _ Q nd hr h=>?_;obtain⟨ds,ns,pr,rfl,g,j,f,q⟩:=h;refine xm 2 nd (wu (zz ⟨_,rfl,z94 _,oG (pat:=.one 3) yo3 rfl (zQ nd rfl (Or.inl rfl)) (zV (zj 1 rfl ⟨_,rfl,?_⟩))⟩));refine zC (λi O=>∃a b:Option A,O=[some (.dat (zA C cs ds)),some (.dat (.list (ns.map .int))),some (.own (((ns.take i).map pr).map .int)),a,b]) ⟨none,none,rfl⟩ ?_ ?_
 .rintro i d O hd ⟨a,b,rfl⟩;rw[z88,z98]at hd;obtain⟨z,c,rfl⟩:=hd;have hi:=(z81.mp c).1;refine⟨_,rfl,yr 4 nd (vD e hr (zj 0 rfl ⟨_,rfl,rfl,zq (wo (zq (zj 3 rfl (zz ⟨ds,_,_,rfl,g,by simp[words],?_⟩))))⟩))⟩;rw[(f z (yb6 c))];refine wR (vX (zj 4 rfl (yJ (λh=>by cases h) (λ_=>zy ?_))));refine vv 2 rfl (zj 4 rfl ⟨by rw[z77,z77,yc3];lia,zy ⟨some (.dat (.int z)),some (.dat (.int (pr z))),?_⟩⟩);rw[yg0,c,yd2,yd2];rfl
 .rintro O ⟨a,b,rfl⟩;rw[z77,yf6];exact xB 2 rfl q
def zV5 :zI ["book","stay","nights","prices","marks","fee","rows","paid"] (zh qA) ["row"] [none] zr0:=⟨rfl,by decide +kernel,by decide +kernel,by decide +kernel,by decide +kernel,rfl,by decide +kernel⟩
def zf6 {C:Ad}(F:FnD K mg "bill" qA ["book","stay"])(nb:NbT mg)(t:xp P w K mg base C "tells_of" 2 (uw C cs))(v:Cal P w K mg base "nights_of" 1 qG)(J:Cal P w K mg base "night_prices" 3 (zT1 C cs))(B:Cal P w K mg base "marked" 4 rK):
  Cal P w K mg base "bill" 5 (bp C cs):=by
 refine zL ["book","stay","nights","prices","marks","fee","rows","paid"] F λf cdv D outer s H E _ Q nd hr h=>?_;obtain⟨ds,c,g,fee,pr,rfl,r,M,A,gl,N,i,a,l,q⟩:=h;generalize hn:(g-c).toNat=n at q;have G:0<n:=by lia
 have L:n<=400:=by lia
 refine yr 2 nd (EvL.d (wA v (hr.mono (by decide)) (by rfl) (zq (zj 1 rfl (zz ⟨c,g,rfl,by lia,A,by lia,by lia,_,rfl,?_⟩)))));rw[hn];refine yr 3 nd (EvL.d (wA J (hr.mono (by decide)) (by rfl) (zq (zj 0 rfl (zq (zj 2 rfl (zz ⟨ds,zp c n,pr,rfl,r,by rw[zb];lia,λz e=>(i z (yt.mp e).1 (by have:=(yt.mp e).2;lia)).1,_,rfl,?_⟩)))))));have m:((zp c n).map pr).length=n:=by rw[z77,zb]
 refine yr 4 nd (EvL.d (wA B hr (by rfl) (zq (zj 3 rfl (zq (vD t (hr.mono (by decide)) (zj 0 rfl ⟨_,rfl,rfl,zq (wo (zq (xR (λ_ _=>rfl) (zj 1 rfl (yq ⟨_,_,_,rfl,rfl,at0,zz ⟨ds,_,_,rfl,r,by simp[words],zz ⟨_,_,rfl,by lia,?_⟩⟩⟩)))))⟩)))))));have key:∀bs,wU (zm ds "deal" c) ((zp c n).map pr) bs->SvS (vM CX0 P w K mg base ["book","stay","nights","prices","marks","fee","rows","paid"] "bill" (zh qA) f cdv D outer s H E).nox
   [some (.dat (zA C cs ds)),some (.dat (.tuple [.int c,.int g])),some (.dat (.list ((zp c n).map .int))),some (.dat (.list (((zp c n).map pr).map .int))),some (.dat (.list (bs.map .bool))),none,none,none] ((zw qA).drop 3) {nx:=λ_=>Q (.dat .none),rt:=Q}:=by
  intro bs mk;have p:=mk.len;refine yr 5 nd (vD t (hr.mono (by decide)) (zj 0 rfl ⟨_,rfl,rfl,zq (wo (zq (xR (λ_ _=>rfl) (zj 1 rfl (yq ⟨_,_,_,rfl,rfl,at0,zz ⟨ds,_,_,rfl,r,by simp[words],?_⟩⟩)))))⟩));rw[l];refine yr 6 nd (EvL.d (lq rfl (by rfl) nb.list (by rfl) nb.zip (zq (zj 2 rfl (zq (zj 3 rfl (zq (zj 4 rfl (zz ⟨_,_,_,rfl,?_,?_,?_,?_,?_⟩)))))))))
  .rw[z77,z77,z77]
  .rw[z77,z77,p,m,zb]
  .rw[z77,zb];lia
  .rw[z77,zb];lia
  have pm:∀z∈yW ((zp c n).map pr) bs,0<=z/\z<=1000000000000:=λz e=>by
   obtain⟨y,hy,rfl⟩:=ye2.mp (vI e);have hy:=yt.mp hy;exact(i y hy.1 (by lia)).2
  refine yr 7 nd (nH rfl (by rfl) nb.sum (EvL.d (za4 (pat:=.one 0) rfl zV5 rfl (λ_ _ _ _=>zQ zV5.nd rfl (Or.inl rfl)) (zV (zj 6 rfl ⟨_,rfl,?_,?comp⟩)))))
  .rw[tM (by rw[z77,z77,z77]) (by rw[z77,z77,p,m,zb]),z77,zb];lia
  refine vW (λd=>!sJ d) (zL3 1) (λd hd=>?_) ?_
  .obtain⟨j,I⟩:=List.mem_iff_getElem?.mp hd;obtain⟨x,y,z,e1,O,u,rfl⟩:=tw I;rw[z88,z98]at u;obtain⟨b,_,rfl⟩:=u;exact⟨_,rfl,λ_ _ _ _ _ k=>kE (oP (ze4 (xR (λ_ _=>rfl) (zj 0 rfl (yq ⟨_,_,_,rfl,rfl,yC rfl,⟨_,rfl,k⟩⟩))))),λ_ _ _ _ _ _ k=>xR (λ_ _=>rfl) (zj 0 rfl (yq ⟨_,_,_,rfl,rfl,yC rfl,k⟩))⟩
  .rw[ye5,rj (by rw[m,z77,zb]) (by rw[p,m,z77,zb])];refine⟨_,rfl,λz e=>by have:=pm z e;lia,jq pm (z93 (uV _ _) (by lia)),?_⟩;exact xg (kP (zq (wJ (zj 7 rfl (zj 5 rfl ⟨_,_,rfl,rfl,zq (zj 6 rfl (zq (zj 5 rfl (zz ⟨_,rfl,yg8 rfl,q bs mk⟩))))⟩)))))
 rcases a with hd|⟨many,free,hd,m0,o⟩
 .exact .inl ⟨hd,⟨_,rfl,key _ (.inl ⟨hd,rfl⟩)⟩⟩
 .exact .inr ⟨many,free,hd,m0,o,λbs mk=>⟨_,rfl,key bs (.inr ⟨many,free,hd,mk⟩)⟩⟩
end
abbrev kn :An:=top 22
abbrev zV7 :An:=top 23
abbrev zA1 :An:=top 24
abbrev zV0 :An:=top 25
def fY {x:Str}(h:x∈words):zU (.str x) (jv x)=true:=by
 simp only[words,z84,ya5,yc8]at h;rcases h with rfl|rfl|rfl|rfl|rfl|rfl|rfl<;>decide +kernel
def yz {ds:List Aa}(h:∀d∈ds,yy d=true){x:Str}(a:x∈words)(day:Int):zU (.str x) (zm ds x day)=true:=by
 unfold zm;split
 .rename_i d e;obtain⟨u,i,j,v,b,rfl,_,_,_,hw⟩:=yB (h d (ys7.mp (yq6 e)));have:=List.find?_some e;have h2:(decide (u=x)&&(decide (i<=day)&&decide (day<=j)))=true:=this;rw[yc5,yg6]at h2;rw[<-h2.1];exact hw
 .exact fY a
noncomputable def isF :Aa->Bool
 |.bool b=>!b
 |_=>false
def intOf :Aa->Int
 |.int i=>i
 |_=>0
section
variable {ds:List Aa}(h:∀d∈ds,yy d=true)(day:Int)
include h
def zI2 :∃b,zm ds "come" day=.bool b:=bool_inv (by rw[<-jI];exact yz h (by simp[words]) day)
def z39 :∃b,zm ds "go" day=.bool b:=bool_inv (by rw[<-ze8];exact yz h (by simp[words]) day)
def zl8 :∃i,zm ds "least" day=.int i/\1<=i/\i<=14:=zF (by rw[<-mq];exact yz h (by simp[words]) day)
def zJ9 :∃i,zm ds "most" day=.int i/\1<=i/\i<=14:=zF (by rw[<-kA];exact yz h (by simp[words]) day)
def zY5 :∃i,zm ds "fee" day=.int i/\0<=i/\i<=1000000000000:=zF (by
 have:=yz h (x:="fee") (by simp[words]) day;rw[fN]at this;exact this)
def zx5 :zm ds "price" day=.none\/∃i,zm ds "price" day=.int i/\0<=i/\i<=1000000000000:=by
 have:=yz h (x:="price") (by simp[words]) day;rw[lY,yk6]at this;rcases this with z|z
 .left;cases e:zm ds "price" day with
  |none=>rfl
  |_=>rw[e]at z;cases z
 .exact .inr (zF z)
end
def pB (x:Str)(d:Int):Aa:=.tuple [.str x,.int d]
noncomputable def xC (ds:List Aa)(c:Int)(n:Nat):List Aa:=((zp c n).filter λz=>wj (zm ds "price" z)).map (pB "price")
noncomputable def opt (b:Bool)(d:Aa):List Aa:=if b=true then [d]else []
noncomputable def wL (ds:List Aa)(c g:Int):List Aa:=xC ds c (g-c).toNat++opt (isF (zm ds "come" c)) (pB "come" c)++opt (isF (zm ds "go" g)) (pB "go" g)++opt (decide (g-c<intOf (zm ds "least" c))) (pB "least" c)++opt (decide (intOf (zm ds "most" c)<g-c)) (pB "most" c)
def uH (b:Bool)(d:Aa):(opt b d).length<=1:=by unfold opt;split<;>simp
def tX (ds:List Aa)(c:Int)(n:Nat):(xC ds c n).length<=n:=by
 unfold xC;rw[z77];have:=List.length_filter_le (λz=>wj (zm ds "price" z)) (zp c n);rw[zb]at this;exact this
def jM (C:Ad)(cs:Cs):Ph:=λas Q=>∃ds c g,as=[.dat (zA C cs ds),.dat (.tuple [.int c,.int g])]/\Rules ds/\-100<=c/\c<g/\g<=c+100/\c<=1000100/\Q (.own (wL ds c g))
noncomputable def zy4 :Aq:=match zw kn with
 |[_,_,.Assign _ (.ListComp _ _ sc _) _,_,_,_,_,_]=>sc
 |_=>zh kn
section
variable {P:Ag}{w:Ak}{K:Ae}{mg:Str->Option Ab}{base:Ao}{cs:Cs}
def z08 :zI ["book","stay","come","go","told"] (zh kn) ["night","book"] [none,some 0] zy4:=⟨rfl,by decide +kernel,by decide +kernel,by decide +kernel,by decide +kernel,rfl,by decide +kernel⟩
def lW (ds:List Aa)(ns:List Int)(f:Aa->Bool)(hf:∀z,f (.int z)=wj (zm ds "price" z))(g:Aa->Aa)(hg:∀z,g (.int z)=pB "price" z):((ns.map PyData.int).filter f).map g=(ns.filter λz=>wj (zm ds "price" z)).map (pB "price"):=by
 rw[List.filter_map,yi7];have e1:(f∘PyData.int)=λz=>wj (zm ds "price" z):=funext hf;have a:(g∘PyData.int)=pB "price":=funext hg;rw[e1,a]
def zZ7 :Aa->Int
 |.int z=>z
 |_=>0
noncomputable abbrev nh (C:Ad)(cs:Cs)(ds:List Aa)(c g:Int)(l:List Aa):List (Option A):=[some (.dat (zA C cs ds)),some (.dat (.tuple [.int c,.int g])),some (.dat (.int c)),some (.dat (.int g)),some (.own l)]
def bR {C:Ad}(F:FnD K mg "bars" kn ["book","stay"])(p:Cal P w K mg base "nights_of" 1 qG)(s:xp P w K mg base C "tells_of" 2 (uw C cs)):Cal P w K mg base "bars" 3 (jM C cs):=by
 refine zL ["book","stay","come","go","told"] F λ_ _ _ _ _ _ _ _ Q nd hr h=>?_;obtain⟨ds,c,g,rfl,e,t,u,g1,v,q⟩:=h;have j:∀d∈ds,yy d=true:=λd hd=>(e d hd).1;refine yr 2 nd (xR (λ_ _=>rfl) (zj 1 rfl (yq (⟨_,_,_,rfl,rfl,rfl,yr 3 nd (xR (λ_ _=>rfl) (zj 1 rfl (yq (⟨_,_,_,rfl,rfl,rfl,?_⟩))))⟩))));refine xP (·=nh C cs ds c g (xC ds c (g-c).toNat)) ?_ ?_
 .refine zj1 4 (pat:=.one 0) nd rfl z08 rfl (λ_ _ _ _=>zQ z08.nd rfl (by first|exact Or.inl rfl|exact Or.inr rfl)) (zV (EvL.d (wA p (hr.mono (by decide)) (by rfl) (zq (zj 1 rfl (zz (⟨c,g,rfl,by lia,by lia,by lia,by lia,⟨_,rfl,⟨_,rfl,⟨by rw[z77,zb];lia,?comp⟩⟩⟩⟩)))))))
  case comp=>
   refine vW (λd=>wj (zm ds "price" (zZ7 d))) (λd=>pB "price" (zZ7 d)) (λd hd=>?_) ?_
   .obtain⟨z,_,rfl⟩:=ye2.mp hd;refine⟨_,rfl,λC s2 o fp Q k=>kE (vX (vD s hr (zj 1 rfl ⟨_,rfl,rfl,zq (wo (zq (zj 0 rfl (zz ⟨ds,_,_,rfl,e,by simp[words],k⟩))))⟩))),λ_ C s2 o fp Q k=>kP (zq (wo (zq (zj 0 rfl (zz (⟨_,rfl,yg8 rfl,k⟩))))))⟩
   .refine zy ?_;rw[ye5,lW ds _ _ (λ_=>rfl) _ (λ_=>rfl)];rfl
 rintro O rfl;have r:=tX ds c (g-c).toNat;obtain⟨n,f⟩:=zI2 j c;obtain⟨i,m⟩:=z39 j g;obtain⟨a,el,_,_⟩:=zl8 j c;obtain⟨im,em,_,_⟩:=zJ9 j c;have B:∀l b d k,l.length<=k->(l++opt b d).length<=k+1:=λl b d k h=>by have:=uH b d;rw[z95];lia
 have l1:=B _ (isF (zm ds "come" c)) (pB "come" c) _ r;have l2:=B _ (isF (zm ds "go" g)) (pB "go" g) _ l1;have l3:=B _ (decide (g-c<intOf (zm ds "least" c))) (pB "least" c) _ l2;unfold wL at q;rw[f,m,el,em]at q;rw[f,m,el]at l3;rw[f,m]at l2;rw[f]at l1;refine xP (·=nh C cs ds c g (xC ds c (g-c).toNat++opt (isF (.bool n)) (pB "come" c))) ?_ ?_
 .and_intros;refine⟨ds,_,_,rfl,e,by simp[words],⟨n,by rw[f];rfl,?_⟩⟩;cases n<;>and_intros
  .exact⟨by lia,zy (zy rfl)⟩
  .exact congrArg (nh C cs ds c g) (ye3 _).symm
 rintro O rfl;generalize xC ds c (g-c).toNat++opt (isF (.bool n)) (pB "come" c)=acc at *;refine xP (·=nh C cs ds c g (acc++opt (isF (.bool i)) (pB "go" g))) ?_ ?_
 .and_intros;refine⟨ds,_,_,rfl,e,by simp[words],⟨i,by rw[m];rfl,?_⟩⟩;cases i<;>and_intros
  .exact⟨by lia,zy (zy rfl)⟩
  .exact congrArg (nh C cs ds c g) (ye3 _).symm
 rintro O rfl;generalize acc++opt (isF (.bool i)) (pB "go" g)=acc at *;refine xP (·=nh C cs ds c g (acc++opt (decide (g-c<a)) (pB "least" c))) ?_ ?_
 .and_intros;refine⟨ds,_,_,rfl,e,by simp[words],⟨_,a,rfl,el,?_⟩⟩;generalize decide (g-c<a)=b;cases b<;>and_intros
  .exact congrArg (nh C cs ds c g) (ye3 _).symm
  .exact⟨by lia,zy (zy rfl)⟩
 rintro O rfl
 change (acc++opt (decide (g-c<a)) (pB "least" c)).length<=_ at l3
 change Q (.own (acc++opt (decide (g-c<a)) (pB "least" c)++_))at q
 generalize acc++opt (decide (g-c<a)) (pB "least" c)=acc at *;refine xP (·=nh C cs ds c g (acc++opt (decide (im<g-c)) (pB "most" c))) ?_ ?_
 .and_intros;refine⟨ds,_,_,rfl,e,by simp[words],⟨_,im,rfl,em,?_⟩⟩;generalize decide (im<g-c)=b;cases b<;>and_intros
  .exact congrArg (nh C cs ds c g) (ye3 _).symm
  .exact⟨by lia,zy (zy rfl)⟩
 rintro O rfl;exact xB 4 rfl q
end
def aM {d:Aa}(h:qr d=true):∃many free:Nat,d=.tuple [.int many,.int free]/\0<free/\free<many/\many<64:=by
 unfold qr at h;split at h
 .rename_i m r;rw[yc5]at h;obtain⟨i,e,b,i1⟩:=zF h.1;obtain⟨j,a,f,c⟩:=zF h.2;subst a;injection e with e;subst e;refine⟨m.toNat,j.toNat,?_,by lia,by lia,by lia⟩;rw[show((m.toNat:Nat):Int)=m by lia,show((j.toNat:Nat):Int)=j by lia]
 .cases h
def zl0 {ds:List Aa}(h:∀d∈ds,yy d=true)(day:Int):zd0 (zm ds "deal" day):=by
 have:=yz h (x:="deal") (by simp[words]) day;rw[jy,yk6]at this;rcases this with z|z
 .left;cases e:zm ds "deal" day with
  |none=>rfl
  |_=>rw[e]at z;cases z
 .exact .inr (aM z)
def zo.all {ds:List Aa}(h:zo ds):∀d∈ds,yy d=true:=λd hd=>(h d hd).rule
def nL (ds:List Aa)(c g:Int):Prop:=∀z,c<=z->z<g->wj (zm ds "price" z)=false
noncomputable def prs (ds:List Aa)(c g:Int):List Int:=(zp c (g-c).toNat).map λz=>intOf (zm ds "price" z)
noncomputable def vQ (ds:List Aa)(c:Int):Int:=intOf (zm ds "fee" c)
def sY {ds:List Aa}{c g z:Int}(h:zo ds)(s:nL ds c g)(h0:c<=z)(h1:z<g):zm ds "price" z=.int (intOf (zm ds "price" z))/\0<=intOf (zm ds "price" z)/\intOf (zm ds "price" z)<=1000000000000:=by
 rcases zx5 h.all z with e|⟨i,e,a,i1⟩
 .have:=s z h0 h1;rw[e]at this;cases this
 .rw[e];exact⟨rfl,a,i1⟩
def gA {ds:List Aa}(h:zo ds)(c:Int):zm ds "fee" c=.int (vQ ds c)/\0<=vQ ds c/\vQ ds c<=1000000000000:=by
 obtain⟨i,e,a,i1⟩:=zY5 h.all c;unfold vQ;rw[e];exact⟨rfl,a,i1⟩
def yf (c g:Int):Prop:=0<=c/\c<g/\g<=c+14/\g<=1000000
def oY (C:Ad)(cs:Cs):Ph:=λas Q=>∃(ds:List Aa) (c g:Int),as=[.dat (zA C cs ds),.dat (.tuple [.int c,.int g])]/\zo ds/\yf c g/\nL ds c g/\
 ∀bs rows,wU (zm ds "deal" c) (prs ds c g) bs->Q (.dat (.tuple [.int ((yW (prs ds c g) bs).sum+vQ ds c),rows,.int (vQ ds c)]))
def ur (ds:List Aa)(c g:Int):Bool:=(wL ds c g).isEmpty
noncomputable def ze2 (ds:List Aa)(c g:Int):List Bool:=Classical.epsilon λbs=>wU (zm ds "deal" c) (prs ds c g) bs
noncomputable def coD (ds:List Aa)(c g:Int):Int:=(yW (prs ds c g) (ze2 ds c g)).sum+vQ ds c
noncomputable def coO (ds:List Aa)(c g:Int):Option Int:=if ur ds c g=true then some (coD ds c g)else none
noncomputable def oD :Option Int->Aa
 |some z=>.int z
 |none=>.none
def zu1 {ds:List Aa}{c g y:Int}(b:zo ds)(so:nL ds c g)(h:y∈prs ds c g):0<=y/\y<=1000000000000:=by
 obtain⟨z,a,rfl⟩:=ye2.mp h;have a:=yt.mp a;exact(sY b so a.1 (by lia)).2
theorem aD {b:Int}:∀{ns:List Int},(∀n∈ns,0<=n/\n<=b)->0<=ns.sum/\ns.sum<=b*ns.length
 |[],_=>by simp
 |n::ns,h=>by
  have h1:=h n z89;have h2:=aD λm hm=>h m (z87 _ hm);rw[yp8,ya1];have:b*((ns.length+1:Nat):Int)=b*ns.length+b:=by rw[yt8,Int.mul_add];simp
  lia
def zE3 {ds:List Aa}{c g:Int}{bs:List Bool}(a:zo ds)(so:nL ds c g)(mk:wU (zm ds "deal" c) (prs ds c g) bs):(yW (prs ds c g) bs).sum+vQ ds c=coD ds c g:=by
 have h2:wU (zm ds "deal" c) (prs ds c g) (ze2 ds c g):=Classical.epsilon_spec ⟨bs,mk⟩;unfold coD;rw[zb5 (zl0 a.all c) mk h2]
def xO {O:Type}{a b:List O}:(a++b).isEmpty=(a.isEmpty&&b.isEmpty):=by cases a<;>rfl
def sS {b:Bool}{d:Aa}:(opt b d).isEmpty=!b:=by cases b<;>rfl
def zm1 {ds:List Aa}{c g:Int}:ur ds c g=true↔nL ds c g/\isF (zm ds "come" c)=false/\isF (zm ds "go" g)=false/\¬g-c<intOf (zm ds "least" c)/\¬intOf (zm ds "most" c)<g-c:=by
 unfold ur wL;rw[xO,xO,xO,xO,sS,sS,sS,sS];have:(xC ds c (g-c).toNat).isEmpty=true↔nL ds c g:=by
  unfold xC nL;rw[List.isEmpty_iff,List.map_eq_nil_iff,List.filter_eq_nil_iff];refine⟨λh z b d=>?_,λh z a=>?_⟩
  .have:=h z (yt.mpr ⟨b,by lia⟩);simpa using this
  .have a:=yt.mp a;rw[h z a.1 (by lia)];decide
 simp only[yc5,this,Bool.not_eq_true',yj1,and_assoc]
def vq {ds:List Aa}{c g:Int}(h:ur ds c g=true):nL ds c g:=(zm1.mp h).1
def ma {ds:List Aa}{c g:Int}(f:c<=g){d:Aa}(h:d∈wL ds c g):∃(x:Str) (z:Int),d=pB x z/\x∈words/\c<=z/\z<=g:=by
 unfold wL at h;simp only[ya8]at h;have a:∀{b:Bool} {x:Str} {z:Int},d∈opt b (pB x z)->d=pB x z:=λ{b x z} h=>by
  cases b
  .simp[opt]at h
  .simpa[opt]using h
 rcases h with(((h|h)|h)|h)|h
 .obtain⟨z,e,rfl⟩:=ye2.mp h;have e:=yt.mp (yq2.mp e).1;exact⟨_,z,rfl,by simp[words],e.1,by lia⟩
 .exact⟨_,c,a h,by simp[words],by lia,by lia⟩
 .exact⟨_,g,a h,by simp[words],by lia,by lia⟩
 .exact⟨_,c,a h,by simp[words],by lia,by lia⟩
 .exact⟨_,c,a h,by simp[words],by lia,by lia⟩
def iB {x:Str}{z:Int}(c:x∈words)(h0:-100<=z)(h1:z<=2000000):zX 5000 (pB x z)/\(pB x z).depth<=1:=by
 have a:2000001<big:=by decide
 have b:-big<(-100:Int):=by decide
 exact⟨zX.tuple (yk.two (pI c) (zX.int (by lia) (by lia)) (z94 _) (z94 _)) (by show 2*(2000+2)+3<=5000;decide),by simp[pB,PyData.depth,PyData.depthAll]⟩
def cY {ds:List Aa}{c g:Int}:(wL ds c g).length<=(g-c).toNat+4:=by
 unfold wL;simp only[z95];have h0:=tX ds c (g-c).toNat;have h1:=uH (isF (zm ds "come" c)) (pB "come" c);have h2:=uH (isF (zm ds "go" g)) (pB "go" g);have h3:=uH (decide (g-c<intOf (zm ds "least" c))) (pB "least" c);have a:=uH (decide (intOf (zm ds "most" c)<g-c)) (pB "most" c)
 lia
def pV {ds:List Aa}{c g:Int}(sb:yf c g):zX sizeLine (.list (wL ds c g)):=by
 obtain⟨h,f,g1,g2⟩:=sb;refine zX.list (n:=5000) ⟨λd hd=>?_,λd hd=>?_⟩ ?_
 .obtain⟨x,z,rfl,e,a,b⟩:=ma (by lia) hd;exact(iB e (by lia) (by lia)).1
 .obtain⟨x,z,rfl,e,a,b⟩:=ma (by lia) hd;have:=(iB e (z:=z) (by lia) (by lia)).2
  lia
 .have h2:(wL ds c g).length*(5000+2)<=18*(5000+2):=Nat.mul_le_mul_right _ (by have:=cY (ds:=ds) (c:=c) (g:=g);lia);have h3:18*(5000+2)+2<=sizeLine:=by decide
  lia
def zP4 {ds:List Aa}{c g:Int}(a:zo ds)(sb:yf c g)(h:ur ds c g=true):0<=coD ds c g/\coD ds c g<=15000000000000:=by
 obtain⟨d,b,g1,g2⟩:=sb;have f:=(gA a c).2;have s:=aD (ns:=yW (prs ds c g) (ze2 ds c g)) λn hn=>zu1 a (vq h) (vI hn);have l:=uV (prs ds c g) (ze2 ds c g);have l2:(prs ds c g).length<=14:=by unfold prs;rw[z77,zb];lia
 unfold coD
 lia
def zp1 {ds:List Aa}:PyData.eqv (.list ds) (.list [])=ds.isEmpty:=by
 cases ds<;>rfl
def nY (C:Ad)(cs:Cs):Ph:=λas Q=>∃(ds:List Aa) (c g:Int),as=[.dat (zA C cs ds),.dat (.tuple [.int c,.int g])]/\zo ds/\yf c g/\Q (.dat (.bool (ur ds c g)))
def iG (C:Ad)(cs:Cs):Ph:=λas Q=>∃(ds:List Aa) (c g:Int),as=[.dat (zA C cs ds),.dat (.tuple [.int c,.int g])]/\zo ds/\yf c g/\Q (.dat (oD (coO ds c g)))
def kC (C:Ad)(cs:Cs):Ph:=λas Q=>∃(ds:List Aa) (c g:Int),as=[.dat (zA C cs ds),.dat (.tuple [.int c,.int g])]/\zo ds/\yf c g/\ur ds c g=true/\Q (.dat (.int (coD ds c g)))
section
variable {P:Ag}{w:Ak}{K:Ae}{mg:Str->Option Ab}{base:Ao}{cs:Cs}
def eM {C:Ad}(i:Cal P w K mg base "bill" 5 (bp C cs)):Cal P w K mg base "bill" 5 (oY C cs):=by
 refine i.imp λas Q h=>?_;obtain⟨ds,c,g,rfl,a,⟨d,j,g1,g2⟩,so,q⟩:=h;refine⟨ds,c,g,vQ ds c,λz=>intOf (zm ds "price" z),rfl,a.rules,d,j,by lia,by lia,λz l b=>sY a so l b,?_,(gA a c).1,λbs mk=>q bs _ mk⟩;rcases zl0 a.all c with e|⟨m,f,e,f0,n,k⟩
 .exact .inl e
 .exact .inr ⟨m,f,e,by lia,k⟩
def zo9 {C:Ad}(F:FnD K mg "can_be_had" zV7 ["book","stay"])(e:Cal P w K mg base "bars" 3 (jM C cs)):Cal P w K mg base "can_be_had" 4 (nY C cs):=by
 refine zL ["book","stay"] F λ_ _ f _ _ _ _ _ Q nd hr h=>?_;obtain⟨ds,c,g,rfl,a,sb,q⟩:=h;obtain⟨b,i,g1,g2⟩:=id sb;and_intros;refine⟨ds,c,g,rfl,a.rules,by lia,by lia,by lia,by lia,?_⟩;and_intros;exact eqk (pV sb).shaped rfl (pV sb).nod rfl (by rw[show PyData.eqv (A.own (wL ds c g)).d (.list [])=ur ds c g from zp1];exact q)
def ae {C:Ad}(F:FnD K mg "cost" zA1 ["book","stay"])(e:Cal P w K mg base "bars" 3 (jM C cs))(f:Cal P w K mg base "bill" 5 (oY C cs)):Cal P w K mg base "cost" 6 (kC C cs):=by
 refine zL ["book","stay","found"] F λ_ _ _ _ _ _ _ _ Q nd hr h=>?_;obtain⟨ds,c,g,rfl,b,sb,a,q⟩:=h;obtain⟨d,i,g1,g2⟩:=id sb;and_intros;refine⟨ds,c,g,rfl,b.rules,by lia,by lia,by lia,by lia,?_⟩;rw[(List.isEmpty_iff.mp a)];and_intros;refine⟨ds,c,g,rfl,b,sb,vq a,λbs rows mk=>?_⟩;and_intros;rw[zE3 b (vq a) mk];exact q
def zt9 {C:Ad}(F:FnD K mg "cost_or_none" zV0 ["book","stay"])(d:Cal P w K mg base "can_be_had" 4 (nY C cs))(b:Cal P w K mg base "bill" 5 (oY C cs)):Cal P w K mg base "cost_or_none" 6 (iG C cs):=by
 refine zL ["book","stay"] F λ_ _ _ _ _ _ _ _ Q nd hr h=>?_;obtain⟨ds,c,g,rfl,a,sb,q⟩:=h;and_intros;refine⟨ds,c,g,rfl,a,sb,?_⟩;and_intros;refine pO (λe=>?_) (λe=>?_)
 .and_intros;refine⟨ds,c,g,rfl,a,sb,vq e,λbs rows mk=>?_⟩;and_intros;rw[zE3 a (vq e) mk];unfold coO at q;rw[if_pos e]at q;exact q
 .and_intros;unfold coO at q;rw[if_neg (by rw[e];decide)]at q;exact q
end
abbrev zU2 :An:=top 55
abbrev sLW :An:=top 56
abbrev zi7 :An:=top 57
abbrev bB :An:=top 58
abbrev zD3 :An:=top 59
instance (c g:Int):Decidable (yf c g):=by unfold yf;infer_instance
noncomputable def coB (Bs:List (List Aa)):Co:=λn b e=>if yf b e then coO (Bs.getD n []) b e else none
def yb (Bs:List (List Aa)):Prop:=∀ds∈Bs,zo ds
noncomputable def zY (C:Ad)(cs:Cs)(Bs:List (List Aa)):Aa:=.list (Bs.map (zA C cs))
def oB {Bs:List (List Aa)}{n:Nat}{ds:List Aa}{b e:Int}(h:Bs[n]?=some ds)(sb:yf b e):coB Bs n b e=coO ds b e:=by
 unfold coB;rw[if_pos sb,z85,h];rfl
def vf {Bs:List (List Aa)}{n:Nat}{b e x:Int}(c:yb Bs)(hn:n<Bs.length)(h:coB Bs n b e=some x):yf b e/\ur (Bs.getD n []) b e=true/\x=coD (Bs.getD n []) b e/\0<=x/\x<=15000000000000:=by
 unfold coB at h;split at h
 .rename_i sb;unfold coO at h;split at h
  .rename_i a;cases h;have:=zP4 (c _ (by rw[z85,z78 hn];exact ye9 hn)) sb a;exact⟨sb,a,rfl,this.1,this.2⟩
  .cases h
 .cases h
noncomputable abbrev arrOf (Bs:List (List Aa))(W:List Way)(day:Int):List (Int×Part):=uZ (coB Bs) Bs.length W day
noncomputable abbrev kL (Bs:List (List Aa))(c g:Int):List Way:=yc (coB Bs) Bs.length c (g-c).toNat
noncomputable abbrev bestOf (Bs:List (List Aa))(c g:Int):Aa:=qD (coB Bs) Bs.length c g
def zF7 (C:Ad)(cs:Cs):Ph:=λas Q=>∃(Bs:List (List Aa)) (W:List Way) (day:Int),as=[.dat (zY C cs Bs),.dat (xf (W.map sA)),.dat (.int day)]/\yb Bs/\Bs.length<=8/\W.length<=20/\(∀w∈W,yf w.1 day/\yj W w.1=some w.2)/\Q (.own ((arrOf Bs W day).map wD))
def zV9 (C:Ad)(cs:Cs):Ph:=λas Q=>∃(Bs:List (List Aa)) (c g:Int),as=[.dat (zY C cs Bs),.dat (.tuple [.int c,.int g])]/\yb Bs/\Bs.length<=8/\yf c g/\Q (.dat (xf ((kL Bs c g).map sA)))
def zb4 (W:List Way)(c g:Int):Prop:=W.length<=20/\∃(co:Co) (N:Nat),wx co N c (g-c).toNat W
def gS :Ph:=λas Q=>∃(W:List Way) (c g:Int),as=[.dat (xf (W.map sA)),.dat (.tuple [.int c,.int g])]/\zb4 W c g/\yf c g/\(∃p,yj W g=some p)/\Q (.own ((wZ W c (g-c).toNat g).reverse.map yw))
def gR :Ph:=λas Q=>∃(W:List Way) (c g:Int),as=[.dat (xf (W.map sA)),.dat (.tuple [.int c,.int g])]/\zb4 W c g/\yf c g/\Q (.own ((xT W c (g-c).toNat).map .int))
def zb2 (C:Ad)(cs:Cs):Ph:=λas Q=>∃(Bs:List (List Aa)) (c g:Int),as=[.dat (zY C cs Bs),.dat (.tuple [.int c,.int g])]/\yb Bs/\Bs.length<=8/\yf c g/\∀S,Q (.deep (bestOf Bs c g) S)
theorem qz {co:Co}{N:Nat}{c:Int}:∀k,(yc co N c k).length<=k+1
 |0=>z82 _
 |k+1=>by
  have:=qz (co:=co) (N:=N) (c:=c) k;unfold yc mV;split
  .lia
  .rw[z95,yt0];lia
theorem wg {O:Type}{f:O->Aa}(h:∀x,noL (f x)=true):∀l:List O,wW (l.map f)=true
 |[]=>rfl
 |x::l=>by rw[ya6,wW,h x,wg h l]<;>rfl
theorem yQ {O:Type}{f:O->Aa}(h:∀x,(f x).hasDict=false):∀l:List O,PyData.hasDictAll (l.map f)=false
 |[]=>rfl
 |x::l=>by rw[ya6,PyData.hasDictAll,h x,yQ h l]<;>rfl
def isEmpty_map {O β:Type}{f:O->β}{l:List O}:(l.map f).isEmpty=l.isEmpty:=by cases l<;>rfl
section
variable {P:Ag}{w:Ak}{K:Ae}{mg:Str->Option Ab}{base:Ao}{cs:Cs}
theorem gq {co:Co}{N:Nat}{day:Int}:∀W:List Way,(uZ co N W day).length<=W.length*N
 |[]=>by simp[uZ]
 |w::W=>by
  have a:=gq (co:=co) (N:=N) (day:=day) W;unfold uZ at a ⊢;rw[List.flatMap_cons,z95,ya1,Nat.add_mul];have:(aI co N day w).length<=N:=by
   unfold aI;exact z93 (List.length_filterMap_le _ _) (by simp)
  lia
def tF (co:Co)(j:Nat)(day:Int)(w:Way):List (Int×Part):=(List.range j).filterMap λn=>(co n w.1 day).map λx=>(w.2.1+x,(w.1,day,n))
def zg8 {co:Co}{j:Nat}{day:Int}{w:Way}:(tF co j day w).length<=j:=by
 unfold tF;exact z93 (List.length_filterMap_le _ _) (by simp)
def zr2 {C:Ad}(F:FnD K mg "arrivals" zU2 ["books","ways","day"])(nb:NbT mg)(r:Cal P w K mg base "cost_or_none" 6 (iG C cs)):Cal P w K mg base "arrivals" 7 (zF7 C cs):=by
 refine zL ["books","ways","day","found","begin","number","book","coins"] F λ_ _ s _ _ _ _ _ Q nd hr h=>?_;obtain⟨Bs,W,day,rfl,p,bl,wl,ws,q⟩:=h;refine xm 3 nd ?_;and_intros;refine zR (.one 4) (zw0 (zj 1 rfl ⟨_,rfl,zC (λi O=>∃m b c a:Option A,O=[some (.dat (zY C cs Bs)),some (.dat (xf (W.map sA))),some (.dat (.int day)),some (.own ((arrOf Bs (W.take i) day).map wD)),m,b,c,a]) ⟨none,none,none,none,rfl⟩ ?_ ?_⟩))
 .rintro i d O hd ⟨m,b,c,a,rfl⟩;rw[z88,z88,Option.map_map,z98]at hd;obtain⟨u,k,rfl⟩:=hd;have l:=yb6 k;have hi:=(z81.mp k).1;refine⟨_,rfl,zR (.many [5,6]) (sT (by rfl) nb.enumerate (zj 0 rfl ⟨_,rfl,?_⟩))⟩;refine zC (λj O=>∃b c a:Option A,O=[some (.dat (zY C cs Bs)),some (.dat (xf (W.map sA))),some (.dat (.int day)),some (.own ((arrOf Bs (W.take i) day++tF (coB Bs) j day u).map wD)),some (.dat (.int u.1)),b,c,a]) ⟨b,c,a,by rw[show tF (coB Bs) 0 day u=[]from rfl,ye3]<;>rfl⟩ ?_ ?_
  .rintro j d O hd ⟨b,c,a,rfl⟩;obtain⟨e,he,rfl⟩:=xF hd;rw[z88,z98]at he;obtain⟨ds,f,rfl⟩:=he;have t:=(z81.mp f).1;have o:=oB f (ws u l).1;have n:tF (coB Bs) (j+1) day u=tF (coB Bs) j day u++((coB Bs j u.1 day).map λx=>(u.2.1+x,(u.1,day,j))).toList:=by
    unfold tF;rw[List.range_succ,List.filterMap_append];simp only[yn5,List.filterMap_nil];cases(coB Bs j u.1 day)<;>rfl
   refine⟨_,rfl,?_⟩;and_intros;refine⟨ds,u.1,day,rfl,p ds (yb6 f),(ws u l).1,?_⟩;and_intros;refine yJ (λg=>?_) (λg=>?_)
   .cases ex:coO ds u.1 day with
    |none=>rw[ex]at g;cases g
    |some x=>
     and_intros;refine uD rfl (by rw[xu,(ws u l).2]<;>rfl) ?_;and_intros;refine⟨?_,?_⟩
     .have l1:(arrOf Bs (W.take i) day).length<=(W.take i).length*Bs.length:=gq _;have l2:=zg8 (co:=coB Bs) (j:=j) (day:=day) (w:=u);have l3:(W.take i).length*Bs.length<=20*8:=Nat.mul_le_mul (by rw[yc3];lia) bl;rw[z77,z95]
      lia
     .and_intros;have e1:List.map wD (arrOf Bs (W.take i) day++tF (coB Bs) (j+1) day u)=List.map wD (arrOf Bs (W.take i) day++tF (coB Bs) j day u)++[wD (u.2.1+x,(u.1,day,j))]:=by
       rw[n,o,ex,<-yb1,yd2];rfl
      exact⟨_,_,_,by rw[e1,Nat.zero_add]<;>rfl⟩
   .and_intros;have hn:coO ds u.1 day=none:=by
     cases ex:coO ds u.1 day with
     |none=>rfl
     |some x=>rw[ex]at g;cases g
    have e1:tF (coB Bs) (j+1) day u=tF (coB Bs) j day u:=by
     rw[n,o,hn];simp only[Option.map_none,Option.toList_none,ye3]
    exact⟨_,_,_,by rw[e1]<;>rfl⟩
  .rintro O ⟨b,c,a,rfl⟩;and_intros;have:arrOf Bs (W.take (i+1)) day=arrOf Bs (W.take i) day++tF (coB Bs) Bs.length day u:=by
    unfold arrOf uZ;rw[yg0,k,List.flatMap_append];simp[aI,tF]
   exact⟨_,_,_,_,by rw[this,xG,z77]⟩
 .rintro O ⟨m,b,c,a,rfl⟩;rw[z77,z77,yf6];exact xB 3 rfl q
def zJ5 {C:Ad}(F:FnD K mg "least_ways" sLW ["books","stay"])(nb:NbT mg)(t:Cal P w K mg base "arrivals" 7 (zF7 C cs)):Cal P w K mg base "least_ways" 8 (zV9 C cs):=by
 refine zL ["books","stay","ways","day","found"] F λ_ _ x _ _ _ _ _ Q nd hr h=>?_;obtain⟨Bs,c,g,rfl,o,bl,⟨s,v,g1,g2⟩,q⟩:=h;refine zr3 2 nd (aK ?_);and_intros;refine⟨.inl c,rfl,zR (.one 3) (xH (by rfl) nb.range ?_)⟩;and_intros;refine⟨⟨by lia,by lia,by lia,by lia⟩,zC (λi O=>∃k m:Option A,O=[some (.dat (zY C cs Bs)),some (.dat (.tuple [.int c,.int g])),some (.dic ((yc (coB Bs) Bs.length c i).map sA)),k,m]) ⟨none,none,rfl⟩ ?_ ?_⟩
 .rintro i d O hd ⟨k,m,rfl⟩;rw[z88,z98]at hd;obtain⟨z,n,rfl⟩:=hd;have hi:=(z81.mp n).1;rw[zb]at hi;rw[zG hi]at n;cases n;have r:i<g-c:=by lia
  have f:=zw2 (co:=coB Bs) (N:=Bs.length) c i;have wl:=qz (co:=coB Bs) (N:=Bs.length) (c:=c) i;refine⟨_,rfl,yr 4 nd (EvL.d (zf3 2 rfl ?_))⟩;and_intros;refine⟨Bs,yc (coB Bs) Bs.length c i,c+1+i,rfl,o,bl,by lia,λu j=>⟨?_,f.find j⟩,?_⟩
  .have h1:=f.low u j;have h2:=f.top u j;exact⟨by lia,by lia,by lia,by lia⟩
  refine⟨_,rfl,wg (λ_=>rfl) _,?_⟩;and_intros;have nx:yc (coB Bs) Bs.length c (i+1)=mV (coB Bs) Bs.length (yc (coB Bs) Bs.length c i) (c+1+i):=rfl;unfold mV at nx;rw[show(!(List.map wD (arrOf Bs (yc (coB Bs) Bs.length c i) (c+1+i))).isEmpty)=!(arrOf Bs (yc (coB Bs) Bs.length c i) (c+1+i)).isEmpty by rw[isEmpty_map]];refine yJ (λb=>?_) (λb=>?_)
  .have ne:arrOf Bs (yc (coB Bs) Bs.length c i) (c+1+i)≠[]:=λe=>by rw[e]at b;cases b
   rw[if_neg ne]at nx;refine zw8 2 hr.one rfl (zr9 rfl hr.few (by rfl) nb.min ?_);and_intros;refine⟨λe=>ne (List.map_eq_nil_iff.mp e),yQ (λ_=>rfl) _,bQ _,λd hd=>?_,?_⟩
   .obtain⟨p,_,rfl⟩:=ye2.mp hd;exact⟨rfl,by simp[wD,yw,PyData.depth,PyData.depthAll]⟩
   rw[zs9 ne];and_intros;refine⟨.inl (c+1+i),rfl,by rw[z77];lia,?_⟩;and_intros;have fn:yj (yc (coB Bs) Bs.length c i) (c+1+i)=none:=by
    cases e:yj (yc (coB Bs) Bs.length c i) (c+1+i)with
    |none=>rfl
    |some p=>
     have:=f.top _ (find_some e);have:c+1+i<=c+i:=this
     lia
   exact⟨_,_,by rw[nx,<-aj fn]<;>rfl⟩
  .have e:arrOf Bs (yc (coB Bs) Bs.length c i) (c+1+i)=[]:=by
    cases e:arrOf Bs (yc (coB Bs) Bs.length c i) (c+1+i)with
    |nil=>rfl
    |cons a l=>rw[e]at b;cases b
   rw[if_pos e]at nx;and_intros;exact⟨_,_,by rw[nx]<;>rfl⟩
 .rintro O ⟨k,m,rfl⟩;rw[z77,zb,show(g+1-(c+1)).toNat=(g-c).toNat by lia];refine zQ7 2 rfl ?_;and_intros;exact q
def zt8 (F:FnD K mg "cut_of" zi7 ["ways","stay"])(nb:NbT mg):Cal P w K mg base "cut_of" 1 gS:=by
 refine zL ["ways","stay","backwards","day","part"] F λ_ _ x _ _ _ _ _ Q nd hr h=>?_;obtain⟨W,c,g,rfl,⟨wl,co,N,b⟩,⟨t,v,g1,g2⟩,⟨s,j⟩,q⟩:=h;refine xm 2 nd ?_;and_intros;generalize hn:(g-c).toNat=n at b q;refine zb3 yo3 (λm O=>∃(l:Option A) (d:Int) (p:Int×Option Part) (acc:List Part),O=[some (.dat (xf (W.map sA))),some (.dat (.tuple [.int c,.int g])),some (.own (acc.map yw)),some (.dat (.int d)),l]/\yj W d=some p/\d-c<=m/\acc.length+m<=n/\wZ W c n g=acc++wZ W c m d) n ⟨none,g,s,[],rfl,j,by lia,by simp,rfl⟩ ?_;rintro m O ⟨l,d,p,acc,rfl,fd,z,al,i⟩;have o:=find_some fd;have lo:=b.low _ o;and_intros;refine pO (λf=>?_) (λf=>?_)
 .have a:d≠c:=by simpa using f
  obtain⟨m,rfl⟩:∃k,m=k+1:=⟨m-1,by lia⟩;rcases b.step _ o with e|⟨u,r,k,y,h1,h2,h3,e⟩
  .injection e with e _;exact absurd e a
  have h1:=h1;have ep:p=(u.2.1+y,some (u.1,d,k)):=by injection e
  and_intros;refine uD rfl (by rw[xu,fd]<;>rfl) ?_;rw[ep];and_intros;refine⟨by rw[z77];lia,?_⟩;and_intros;refine⟨m,by lia,_,u.1,u.2,acc++[(u.1,d,k)],by rw[yd2]<;>rfl,b.find r,by lia,by rw[z95,yt0];lia,?_⟩;rw[i,wZ,if_neg a,fd,ep,yb1];rfl
 .have a:d=c:=by simpa using f
  subst a;refine vK (iT 2 rfl (jk rfl (by rfl) nb.list (by rfl) nb.reversed ?_));and_intros;have:wZ W d m d=[]:=by cases m<;>simp[wZ]
  rw[this,ye3]at i;rw[i]at q;rw[<-List.map_reverse];exact⟨wg (λ_=>rfl) _,q⟩
def dH (F:FnD K mg "paper_of" bB ["ways","stay"])(nb:NbT mg):Cal P w K mg base "paper_of" 1 gR:=by
 refine zL ["ways","stay","highest","heights"] F λ_ _ _ _ _ _ _ _ Q nd hr h=>?_;obtain⟨W,c,g,rfl,⟨wl,co,N,a⟩,⟨f,j,g1,g2⟩,q⟩:=h;refine yr 2 nd (zy1 rfl (by rfl) nb.max (EvL.d (xJ ["way"] [none] (.one 0) (zt0 ?_))));and_intros;refine⟨by rw[z77,z77];lia,?_⟩;rw[yi7];refine ye (λu=>.int u.2.1) (λu i=>⟨_,rfl,λ_ _ _ _ _ k=>?_⟩) ?_
 .and_intros;exact k
 refine⟨rT W,by unfold rT;rw[yi7]<;>rfl,λe=>?_,?_⟩
 .obtain⟨r,hr,_⟩:=a.first;rw[hr]at e;cases e
 generalize hn:(g-c).toNat=n at a q;refine aB 3 ["day","ways","highest"] [none,some 0,some 2] (.one 0) (xH (by rfl) nb.range ?_);and_intros;refine⟨⟨by lia,by lia,by lia,by lia⟩,by rw[z77,zb];lia,?_⟩;rw[show(g+1-c).toNat=n+1 by lia];refine ye (λd=>.int (hW W d)) (λd hd=>⟨_,rfl,λ_ _ _ _ _ k=>?_⟩) ?_
 .and_intros;refine lJ (k:=.inl d) rfl ?_;rw[xu];cases e:yj W d with
  |none=>
   and_intros;rw[sM e]at k;exact k
  |some p=>
   and_intros;refine uD rfl (by rw[xu,e]<;>rfl) ?_;and_intros;rw[wK e]at k;exact k
 refine tH 3 rfl ?_;refine vK (xJ ["lower","higher"] [none,none] (.many [0,1]) (zc6 (by rfl) nb.zip ?_));and_intros;have b:(zp c (n+1)).map (λd=>PyData.int (hW W d))=((zp c (n+1)).map (hW W)).map PyData.int:=by rw[yi7]<;>rfl
 rw[ye5,b,ze9];refine⟨by rw[z77,zb];lia,?_⟩;refine ye (λd=>.int (hW W (d+1)-hW W d)) (λd hd=>⟨_,rfl,λ_ _ _ _ _ k=>?_⟩) ?_
 .and_intros;exact k
 .unfold xT at q;rw[yi7]at q;exact q
theorem zh8 {C:Ad}(F:FnD K mg "best" zD3 ["books","stay"])(nb:NbT mg)(f:Cal P w K mg base "least_ways" 8 (zV9 C cs))(i:Cal P w K mg base "cut_of" 1 gS)(l:Cal P w K mg base "paper_of" 1 gR):Cal P w K mg base "best" 9 (zb2 C cs):=by
 refine zL ["books","stay","ways"] F λ_ _ _ _ _ _ _ _ Q nd hr h=>?_;obtain⟨Bs,c,g,rfl,b,bl,sb,q⟩:=h;obtain⟨d,j,g1,g2⟩:=id sb;have wl:=qz (co:=coB Bs) (N:=Bs.length) (c:=c) (g-c).toNat;have a:zb4 (kL Bs c g) c g:=⟨by show(yc _ _ _ _).length<=20;lia,_,_,(zw2 (co:=coB Bs) (N:=Bs.length) c (g-c).toNat)⟩;and_intros;refine⟨Bs,c,g,rfl,b,bl,sb,?_⟩;and_intros;refine lJ (k:=.inl g) rfl ?_;rw[xu];unfold bestOf qD at q;cases e:yj (kL Bs c g) g with
 |none=>
  rw[e]at q;refine sI rfl ?_;refine ir (zf7 (wa (jY (wo ⟨rfl,?_⟩))));refine wa (oE (ao rfl (by rfl) nb.list (zj 2 rfl ⟨_,rfl,?_⟩)));rw[yi7];exact⟨wg (λ_=>rfl) _,gG ⟨yg8 rfl,q⟩⟩
 |some p=>
  rw[e]at q;refine yu rfl (zy (ir (zf7 (wa (jY (wo ⟨rfl,?_⟩))))));refine wa (jY ?_);and_intros;refine uD rfl (by rw[xu,e]<;>rfl) ?_;and_intros;refine⟨rfl,wa (oE ?_)⟩;and_intros;refine⟨_,c,g,rfl,a,sb,⟨p,e⟩,_,rfl,wg (λ_=>rfl) _,wa (oE ?_)⟩;and_intros;exact⟨_,c,g,rfl,a,sb,_,rfl,wg (λ_=>rfl) _,gG ⟨yg8 rfl,q⟩⟩
end
structure hV (Bs:List (List Aa))(c g x:Int)(ps:List Part)(pp:List Int):Prop where
 eq:bestOf Bs c g=.tuple [.str "had",.int x,.list (ps.map yw),.list (pp.map .int)]
 cut:Cut (coB Bs) Bs.length c g x ps
 least:∀y qs,Cut (coB Bs) Bs.length c g y qs->x<=y
 plen:pp.length=(g-c).toNat
 psum:pp.sum=x
 paper:∀n b e y,n<Bs.length->c<=b->b<e->e<=g->coB Bs n b e=some y->((pp.drop (b-c).toNat).take (e-b).toNat).sum<=y
 pbd:∀n∈pp,-300000000000000<=n/\n<=300000000000000
theorem zM5 {co:Co}{N:Nat}{a b z:Int}{ps:List Part}(h:Cut co N a b z ps)(h0:∀n b e x,n<N->co n b e=some x->0<=x/\x<=15000000000000):0<=z/\z<=15000000000000*(b-a):=by
 induction h with
 |nil a=>lia
 |@cons a e b x z n ps h1 h2 h3 h ih=>
  have:=h0 _ _ _ _ h2 h3
  lia
theorem zF9 {co:Co}{N:Nat}{c:Int}{n:Nat}{W:List Way}(a:wx co N c n W)(hn:n<=14)(h0:∀n b e x,n<N->co n b e=some x->0<=x/\x<=15000000000000)(d:Int):0<=hW W d/\hW W d<=210000000000000:=by
 have one:∀w∈W,0<=w.2.1/\w.2.1<=210000000000000:=λw hw=>by
  have t:=a.top w hw;have l:=a.low w hw;have:=zM5 (a.back n hw (by lia)) h0
  lia
 cases e:yj W d with
 |some p=>
  rw[wK e];exact one _ (find_some e)
 |none=>
  rw[sM e];have:uU (rT W)∈rT W:=zk4 λz=>by
   obtain⟨r,hr,_⟩:=a.first;rw[hr]at z;cases z
  unfold rT at this;obtain⟨w,hw,f⟩:=ye2.mp this;have:=one w hw;unfold zt5 rT;rw[<-f];exact this
structure iM (Bs:List (List Aa))(c g:Int)(ds:List Int):Prop where
 eq:bestOf Bs c g=.tuple [.str "off",.list (ds.map .int)]
 none:∀y qs,¬Cut (coB Bs) Bs.length c g y qs
 first:∃r,ds=c::r
 sort:ds.Pairwise (·<·)
 rng:∀d∈ds,c<=d/\d<g
 shut:∀d∈ds,∀e n y,d<e->e<=g->n<Bs.length->coB Bs n d e=some y->e∈ds
theorem qw {Bs:List (List Aa)}{c g:Int}(t:yb Bs)(sb:yf c g):(∃x ps pp,hV Bs c g x ps pp)\/∃ds,iM Bs c g ds:=by
 obtain⟨A,B,g1,g2⟩:=sb;obtain⟨n,hn⟩:∃n:Nat,g=c+n:=⟨(g-c).toNat,by lia⟩;subst hn;have j:(c+n-c).toNat=n:=by lia
 have a:=zw2 (co:=coB Bs) (N:=Bs.length) c n;have h0:∀m b e x,m<Bs.length->coB Bs m b e=some x->0<=x:=λm b e x hm h=>(vf t hm h).2.2.2.1;have eq:bestOf Bs c (c+n)=_:=rfl;unfold bestOf qD at eq;rw[j]at eq;cases e:yj (yc (coB Bs) Bs.length c n) (c+n)with
 |none=>
  right;rw[e]at eq;refine⟨(yc (coB Bs) Bs.length c n).map (·.1),?_,λy qs=>a.off e,?_,a.sort,λd hd=>?_,λd hd k m y h1 h2 h3 l=>?_⟩
  .unfold bestOf qD;rw[j,e,yi7];rfl
  .obtain⟨r,hr,_⟩:=a.first;rw[hr];exact⟨_,rfl⟩
  .obtain⟨u,f,rfl⟩:=ye2.mp hd;have h2:=a.top u f;have h3:=find_none e u f;exact⟨(a.low u f),by lia⟩
  .obtain⟨u,f,rfl⟩:=ye2.mp hd;obtain⟨v,o,e1,_⟩:=a.shut u f k m y h1 h2 h3 l;exact ye2.mpr ⟨v,o,e1⟩
 |some p=>
  left;refine⟨p.1,(wZ (yc (coB Bs) Bs.length c n) c n (c+n)).reverse,xT (yc (coB Bs) Bs.length c n) c n,?_,a.back n (find_some e) (by lia),(a.had e).2,?_,?_,λm b k y h1 h2 h3 l s=>?_,?_⟩
  .unfold bestOf qD;rw[j,e]
  .rw[dJ,j]
  .rw[cn,wK e,wK a.zero]
   lia
  rotate_left
  .intro C i;unfold xT at i;obtain⟨d,_,rfl⟩:=ye2.mp i;have w:∀m b e x,m<Bs.length->coB Bs m b e=some x->0<=x/\x<=15000000000000:=λm b e x hm h=>(vf t hm h).2.2.2;have h1:=zF9 a (by lia) w (d+1);have h2:=zF9 a (by lia) w d
   lia
  .rw[dN (by lia),show c+((b-c).toNat:Int)=b by lia,show b+((k-b).toNat:Int)=k by lia];cases eb:yj (yc (coB Bs) Bs.length c n) b with
   |none=>
    have:=zZ1 (yc (coB Bs) Bs.length c n) k;rw[sM eb];have:=h0 _ _ _ _ h1 s
    lia
   |some q=>
    obtain⟨v,o,e1,z⟩:=a.shut _ (find_some eb) k m y h3 l h1 s;rw[wK eb,wK (a.find (by rw[<-e1];exact o))];exact Int.sub_left_le_of_le_add z
theorem aG {co:Co}{N:Nat}{a b z:Int}{p:Part}{ps:List Part}(h:Cut co N a b z (p::ps)):∃x,p.1=a/\a<p.2.1/\p.2.2<N/\co p.2.2 a p.2.1=some x/\Cut co N p.2.1 b (z-x) ps:=by
 cases h with
 |@cons _ e _ x y n _ h1 h2 h3 h=>exact⟨x,rfl,h1,h2,h3,by rw[show x+y-x=y by lia];exact h⟩
def zd3 {Bs:List (List Aa)}{n:Nat}(hn:n<Bs.length):∃ds,Bs[n]?=some ds/\Bs.getD n []=ds:=⟨Bs[n],z78 hn,by rw[z85,z78 hn]<;>rfl⟩
abbrev iU :An:=top 61
abbrev bX :An:=top 62
abbrev zB3 :An:=top 63
abbrev zX2 :An:=top 64
abbrev zW0 :An:=top 65
abbrev zZ9 :An:=top 66
abbrev za7 :An:=top 67
abbrev zg2 :An:=top 68
abbrev iQ :An:=top 69
abbrev zi1 :An:=top 70
abbrev zE5 :An:=top 71
def vF (zs:List Int):(PyData.list (zs.map .int)).hasDict=false:=by
 rw[PyData.hasDict];exact yQ (λ_=>rfl) zs
def pT (ps:List Part):(PyData.list (ps.map yw)).hasDict=false:=by
 rw[PyData.hasDict];exact yQ (λ_=>rfl) ps
def tf {a:Type}(l:List a):(l.map λ_=>true).all id=true:=by simp
def xE {a:Type}(b:Bool)(l:List a):l.map (λ_=>PyData.bool b)=(l.map λ_=>b).map .bool:=by rw[yi7]<;>rfl
theorem zH8 {co:Co}{N:Nat}{a b z:Int}{ps:List Part}(h:Cut co N a b z ps):(∀p∈ps,p.2.2<N/\∃x,co p.2.2 p.1 p.2.1=some x)/\(ps.map λp=>(co p.2.2 p.1 p.2.1).getD 0).sum=z/\a+ps.length<=b:=by
 induction h with
 |nil a=>exact⟨λp c=>by simp at c,rfl,by simp⟩
 |@cons a e b x z n ps h1 h2 h3 h ih=>
  obtain⟨i1,i2,i3⟩:=ih;refine⟨λp c=>?_,?_,by rw[ya1];lia⟩
  .rcases z84.mp c with rfl|c
   .exact⟨h2,x,h3⟩
   .exact i1 p c
  .rw[ya6,yp8,i2,h3];rfl
def ze3 (C:Ad)(cs:Cs):Ph:=λas Q=>∃(Bs:List (List Aa)) (c g:Int) (p:Part) (x:Int),as=[.dat (zY C cs Bs),.dat (.tuple [.int c,.int g]),.dat (yw p)]/\yb Bs/\c<=p.1/\p.1<p.2.1/\p.2.1<=g/\p.2.2<Bs.length/\coB Bs p.2.2 p.1 p.2.1=some x/\Q (.dat (.bool true))
def gf (C:Ad)(cs:Cs):Ph:=λas Q=>∃(Bs:List (List Aa)) (c g x:Int) (ps:List Part),as=[.dat (zY C cs Bs),.dat (.tuple [.int c,.int g]),.dat (.list (ps.map yw))]/\yb Bs/\Cut (coB Bs) Bs.length c g x ps/\Q (.dat (.bool true))
def zY2 (C:Ad)(cs:Cs):Ph:=λas Q=>∃(Bs:List (List Aa)) (c g x:Int) (ps:List Part),as=[.dat (zY C cs Bs),.dat (.list (ps.map yw))]/\yb Bs/\Cut (coB Bs) Bs.length c g x ps/\g<=c+14/\Q (.dat (.int x))
def bP :Ph:=λas Q=>∃zs:List Int,as=[.dat (.list (zs.map .int))]/\zs.length<=1000/\Q (.dat (.bool true))
def zE7 (C:Ad)(cs:Cs):Ph:=λas Q=>∃(Bs:List (List Aa)) (b e x:Int),as=[.dat (zY C cs Bs),.dat (.tuple [.int b,.int e]),.dat (.int x)]/\yb Bs/\Bs.length<=8/\yf b e/\(∀ds∈Bs,∀y,coO ds b e=some y->x<=y)/\Q (.dat (.bool true))
def zL9 (Bs:List (List Aa))(c g:Int)(pp:List Int):Prop:=∀i j:Nat,c+i+j<g->∀ds∈Bs,∀y,coO ds (c+i) (c+i+j+1)=some y->((pp.drop i).take (j+1)).sum<=y
def zB9 (C:Ad)(cs:Cs):Ph:=λas Q=>∃(Bs:List (List Aa)) (c g:Int) (pp:List Int),as=[.dat (zY C cs Bs),.dat (.tuple [.int c,.int g]),.dat (.list (pp.map .int))]/\yb Bs/\Bs.length<=8/\yf c g/\pp.length=(g-c).toNat/\zL9 Bs c g pp/\Q (.dat (.bool true))
def gZ (C:Ad)(cs:Cs):Ph:=λas Q=>∃(Bs:List (List Aa)) (c g x:Int) (ps:List Part) (pp:List Int),as=[.dat (zY C cs Bs),.dat (.tuple [.int c,.int g]),.dat (.int x),.dat (.list (ps.map yw)),.dat (.list (pp.map .int))]/\yb Bs/\Bs.length<=8/\yf c g/\hV Bs c g x ps pp/\Q (.dat (.bool true))
def gB (C:Ad)(cs:Cs):Ph:=λas Q=>∃(Bs:List (List Aa)) (d g:Int) (ds:List Int),as=[.dat (zY C cs Bs),.dat (.int d),.dat (.int g),.dat (.list (ds.map .int))]/\yb Bs/\Bs.length<=8/\yf d g/\(∀e n y,d<e->e<=g->n<Bs.length->coB Bs n d e=some y->e∈ds)/\Q (.dat (.bool false))
def mM :Ph:=λas Q=>∃(c:Int) (r:List Int),as=[.dat (.list ((c::r).map .int)),.dat (.int c)]/\r.length<=900/\(c::r).Pairwise (·<·)/\Q (.dat (.bool true))
def gY (C:Ad)(cs:Cs):Ph:=λas Q=>∃(Bs:List (List Aa)) (c g:Int) (ds:List Int),as=[.dat (zY C cs Bs),.dat (.tuple [.int c,.int g]),.dat (.list (ds.map .int))]/\yb Bs/\Bs.length<=8/\yf c g/\iM Bs c g ds/\Q (.dat (.bool true))
def bW (C:Ad)(cs:Cs):Ph:=λas Q=>∃(Bs:List (List Aa)) (c g:Int),as=[.dat (zY C cs Bs),.dat (.tuple [.int c,.int g]),.dat (bestOf Bs c g)]/\yb Bs/\Bs.length<=8/\yf c g/\Q (.dat (.bool true))
section
variable {P:Ag}{w:Ak}{K:Ae}{mg:Str->Option Ab}{base:Ao}{cs:Cs}
def zf5 {C:Ad}(F:FnD K mg "is_part" iU ["books","stay","thing"])(nb:NbT mg)(r:Cal P w K mg base "is_whole" 1 mQ)(o:Cal P w K mg base "can_be_had" 4 (nY C cs)):Cal P w K mg base "is_part" 5 (ze3 C cs):=by
 refine zL ["books","stay","thing"] F λ_ _ _ _ _ _ _ _ Q nd hr h=>?_;obtain⟨Bs,c,g,⟨b,e,n⟩,x,rfl,i,h1,h2,h3,hn,m,q⟩:=h;have hn:=hn;obtain⟨sb,a,_⟩:=vf i hn m;obtain⟨ds,f,j⟩:=zd3 hn;have a:=a;rw[j]at a;refine xP (λO=>O=[some (.dat (zY C cs Bs)),some (.dat (.tuple [.int c,.int g])),some (.dat (.tuple [.int b,.int e,.int n]))]) ?_ ?_
 .and_intros;rfl
 rintro O rfl;refine wR (oP (rg (ng rfl (by rfl) nb.all (EvL.d (xJ ["number"] [none] (.one 0) (zP1 (zj 2 rfl ⟨_,rfl,yg8 rfl,ye (l:=[b,e,n]) (λ_=>.bool true) (λz p=>⟨_,rfl,λ_ _ _ _ _ k=>?_⟩) ?_⟩)))))))
 .and_intros;exact k
 rw[ye5,xE];refine⟨_,rfl,_,rfl,yu rfl (zy (wR (oP (fi ?_))))⟩;and_intros;refine pd (ya9 h1) ?_;and_intros;refine pd (ya9 h2) ?_;and_intros;refine yu (by rw[ya9 h3];rfl) ?_;and_intros;refine pd (ya9 (by rw[z77];lia)) ?_;and_intros;refine ixk rfl rfl (yC (by rw[z88,f]<;>rfl)) ?_;and_intros;refine⟨ds,b,e,rfl,i ds (yb6 f),sb,?_⟩;rw[a];exact q
def ef {C:Ad}(F:FnD K mg "is_cut" bX ["books","stay","thing"])(nb:NbT mg)(n:Cal P w K mg base "is_part" 5 (ze3 C cs)):Cal P w K mg base "is_cut" 6 (gf C cs):=by
 refine zL ["books","stay","thing","day","part"] F λ_ _ _ _ _ _ _ _ Q nd hr h=>?_;obtain⟨Bs,c,g,x,ps,rfl,f,j,q⟩:=h;refine xP (λO=>O=[some (.dat (zY C cs Bs)),some (.dat (.tuple [.int c,.int g])),some (.dat (.list (ps.map yw))),none,none]) ?_ ?_
 .and_intros;refine⟨_,pT _,rfl,?_⟩;and_intros;rfl
 rintro O rfl;and_intros;refine zR (.one 4) (zV ?_);and_intros;refine zC (λi O=>∃a day y,c<=day/\Cut (coB Bs) Bs.length day g y (ps.drop i)/\O=[some (.dat (zY C cs Bs)),some (.dat (.tuple [.int c,.int g])),some (.dat (.list (ps.map yw))),some (.dat (.int day)),a]) ⟨none,c,x,yd6 _,j,rfl⟩ ?_ ?_
 .rintro i d O hd ⟨a,day,y,cd,hy,rfl⟩;rw[z88,z98]at hd;obtain⟨p,b,rfl⟩:=hd;have hi:=(z81.mp b).1;rw[yc6 hi,show ps[i]=p from(z81.mp b).2]at hy;obtain⟨z,e1,l,k,m,e⟩:=aG hy;subst e1;have:=e.le;refine⟨_,rfl,?_⟩;and_intros;refine⟨Bs,c,g,p,z,rfl,f,cd,l,this,k,m,?_⟩;unfold yw;and_intros;refine yu (by simp) ?_;and_intros;exact⟨_,_,_,by lia,e,rfl⟩
 .rintro O ⟨a,day,y,cd,hy,rfl⟩;rw[z77,ym0]at hy;cases hy;and_intros;simpa using q
def zJ0 {C:Ad}(F:FnD K mg "cut_coins" zB3 ["books","cut"])(nb:NbT mg)(r:Cal P w K mg base "cost" 6 (kC C cs)):Cal P w K mg base "cut_coins" 7 (zY2 C cs):=by
 refine zL ["books","cut"] F λ_ _ _ _ _ _ _ _ Q nd hr h=>?_;obtain⟨Bs,c,g,x,ps,rfl,e,m,hg,q⟩:=h;obtain⟨pin,f,o⟩:=zH8 m;refine xg (zu9 15000000000000 rfl (by rfl) nb.sum (EvL.d (xJ ["part","books"] [none,some 0] (.one 0) (zV ?_))));and_intros;refine⟨by rw[z77];lia,?_⟩;refine ye (λp=>.int ((coB Bs p.2.2 p.1 p.2.1).getD 0)) (λp i=>⟨_,rfl,λ_ _ _ _ _ k=>?_⟩) ?_
 .obtain⟨hn,y,hy⟩:=pin p i;obtain⟨sb,j,l,_⟩:=vf e hn hy;obtain⟨ds,a,b⟩:=zd3 hn;rw[hy,Option.getD_some,l,b]at k;rw[b]at j;unfold yw;and_intros;refine ixk rfl rfl (yC (by rw[z88,a]<;>rfl)) ?_;and_intros;exact⟨ds,p.1,p.2.1,rfl,e ds (yb6 a),sb,j,k⟩
 rw[ye5,show ps.map (λp=>PyData.int ((coB Bs p.2.2 p.1 p.2.1).getD 0))=(ps.map λp=>(coB Bs p.2.2 p.1 p.2.1).getD 0).map .int by rw[yi7]<;>rfl];refine⟨_,rfl,λn hn=>?_,by rw[z77];lia,?_⟩
 .obtain⟨p,i,rfl⟩:=ye2.mp hn;obtain⟨hn,y,hy⟩:=pin p i;rw[hy,Option.getD_some];have:=(vf e hn hy).2.2.2
  lia
 .rw[f];exact q
def zn9 (F:FnD K mg "is_list_of_wholes" zX2 ["thing"])(nb:NbT mg)(c:Cal P w K mg base "is_whole" 1 mQ):Cal P w K mg base "is_list_of_wholes" 2 bP:=by
 refine zL ["thing"] F λ_ _ _ _ _ _ _ _ Q nd hr h=>?_;obtain⟨zs,rfl,a,q⟩:=h;and_intros;refine⟨_,vF _,rfl,?_⟩;and_intros;refine ng rfl (by rfl) nb.all (EvL.d (xJ ["number"] [none] (.one 0) (zV ?_)));and_intros;refine⟨by rw[z77];exact a,?_⟩;refine ye (λ_=>.bool true) (λz b=>⟨_,rfl,λ_ _ _ _ _ k=>?_⟩) ?_
 .and_intros;exact k
 rw[ye5,xE];and_intros;rw[tf];exact q
def zs4 {C:Ad}(F:FnD K mg "costs_no_less" zW0 ["books","stay","coins"])(nb:NbT mg)(c:Cal P w K mg base "cost_or_none" 6 (iG C cs)):Cal P w K mg base "costs_no_less" 7 (zE7 C cs):=by
 refine zL ["books","stay","coins","told"] F λ_ _ _ _ _ _ _ _ Q nd hr h=>?_;obtain⟨Bs,b,e,x,rfl,a,bl,sb,nl,q⟩:=h;refine aB 3 ["book","stay"] [none,some 1] (.one 0) (zV ?_);and_intros;refine⟨by rw[z77];lia,?_⟩;refine ye (λds=>oD (coO ds b e)) (λds hd=>⟨_,rfl,λ_ _ _ _ _ k=>?_⟩) ?_
 .and_intros;exact⟨ds,b,e,rfl,a ds hd,sb,k⟩
 rw[ye5];refine tH 3 rfl ?_;refine xg (ng rfl (by rfl) nb.all (EvL.d (xJ ["other","coins"] [none,some 2] (.one 0) (zV ?_))));and_intros;refine⟨by rw[z77];lia,?_⟩;refine ye (λ_=>.bool true) (λds hd=>⟨_,rfl,λ_ _ _ _ _ k=>?_⟩) ?_
 .cases hx:coO ds b e with
  |none=>
   and_intros;exact k
  |some y=>
   and_intros;rw[ya9 (nl ds hd y hx)];exact k
 rw[ye5,xE];and_intros;rw[tf];exact q
def zk6 {pp:List Int}{i:Nat}(h:i<pp.length):(pp.take (i+1)).sum=(pp.take i).sum+pp.getD i 0:=by
 rw[yg0,z78 h,List.sum_append,z85,z78 h];simp
def zr7 {C:Ad}(F:FnD K mg "no_part_costs_less" zZ9 ["books","stay","paper"])(nb:NbT mg)(p:Cal P w K mg base "costs_no_less" 7 (zE7 C cs)):Cal P w K mg base "no_part_costs_less" 8 (zB9 C cs):=by
 refine zL ["books","stay","paper","begin","coins","night"] F λ_ _ _ _ _ _ _ _ Q nd hr h=>?_;obtain⟨Bs,c,g,pp,rfl,n,bl,⟨o,r,g1,g2⟩,s,np,q⟩:=h;refine zR (.one 3) (xH (by rfl) nb.range ?_);and_intros;refine⟨⟨by lia,by lia,by lia,by lia⟩,zC (λi O=>∃f k a:Option A,O=[some (.dat (zY C cs Bs)),some (.dat (.tuple [.int c,.int g])),some (.dat (.list (pp.map .int))),f,k,a]) ⟨none,none,none,rfl⟩ ?_ ?_⟩
 .rintro i d O hd ⟨f,k,a,rfl⟩;rw[z88,z98]at hd;obtain⟨u,e,rfl⟩:=hd;have hi:=(z81.mp e).1;rw[zb]at hi;rw[zG hi]at e;cases e;refine⟨_,rfl,?_⟩;and_intros;refine zR (.one 5) (xH (by rfl) nb.range ?_);and_intros;refine⟨⟨by lia,by lia,by lia,by lia⟩,zC (λj O=>∃a:Option A,O=[some (.dat (zY C cs Bs)),some (.dat (.tuple [.int c,.int g])),some (.dat (.list (pp.map .int))),some (.dat (.int (c+i))),some (.dat (.int ((pp.drop i).take j).sum)),a]) ⟨a,by simp⟩ ?_ ?_⟩
  .rintro j d O hd ⟨a,rfl⟩;rw[z88,z98]at hd;obtain⟨v,l,rfl⟩:=hd;have m:=(z81.mp l).1;rw[zb]at m;rw[zG m]at l;cases l;have b:i+j<pp.length:=by lia
   refine⟨_,rfl,?_⟩;and_intros;refine ixk rfl rfl (by rw[show c+i+j-c=((i+j:Nat):Int) by lia];exact yC (by rw[z88,z78 b]<;>rfl)) ?_;and_intros;have es:((pp.drop i).take j).sum+pp[i+j]=((pp.drop i).take (j+1)).sum:=by
    rw[zk6 (by rw[yj9];lia),z85,yu4,z78 b];rfl
   rw[es];refine⟨Bs,c+i,c+i+j+1,_,rfl,n,bl,⟨by lia,by lia,by lia,by lia⟩,np i j (by lia),?_⟩;and_intros;exact⟨_,rfl⟩
  .rintro O ⟨a,rfl⟩;and_intros;exact⟨_,_,_,rfl⟩
 .rintro O ⟨f,k,a,rfl⟩;and_intros;exact q
def di {C:Ad}(F:FnD K mg "is_had" za7 ["books","stay","coins","cut","paper"])(nb:NbT mg)(o:Cal P w K mg base "is_whole" 1 mQ)(p:Cal P w K mg base "is_cut" 6 (gf C cs))(k:Cal P w K mg base "cut_coins" 7 (zY2 C cs))(r:Cal P w K mg base "is_list_of_wholes" 2 bP)(l:Cal P w K mg base "no_part_costs_less" 8 (zB9 C cs)):Cal P w K mg base "is_had" 9 (gZ C cs):=by
 refine zL ["books","stay","coins","cut","paper"] F λ_ _ _ _ _ _ _ _ Q nd hr h=>?_;obtain⟨Bs,c,g,x,ps,pp,rfl,b,bl,sb,a,q⟩:=h;obtain⟨f,m,g1,g2⟩:=id sb;have e:=a.plen;and_intros;refine⟨Bs,c,g,x,ps,rfl,b,a.cut,?_⟩;and_intros;refine⟨Bs,c,g,x,ps,rfl,b,a.cut,g1,?_⟩;and_intros;refine yu (by show(!PyData.eqv (.int x) (.int x))=false;rw[SeqAt.eqv_refl _ rfl];rfl) ?_;and_intros;refine⟨by lia,?_⟩;and_intros;rw[z77];refine iX (by simp;lia) ?_;and_intros;refine zp4 rfl (by rfl) nb.sum ?_;and_intros;refine⟨λn hn=>by have:=a.pbd n hn;lia,by lia,?_⟩;and_intros;refine yu (by simp[a.psum]) ?_;and_intros;refine⟨Bs,c,g,pp,rfl,b,bl,sb,e,λi j d ds hd y hy=>?_,q⟩;obtain⟨n,hn,rfl⟩:=yi9.mp hd;have:=a.paper n (c+i) (c+i+j+1) y hn (by lia) (by lia) (by lia) (by rw[oB (z78 hn) ⟨by lia,by lia,by lia,by lia⟩];exact hy);rw[show(c+i-c).toNat=i by lia,show(c+i+j+1-(c+i)).toNat=j+1 by lia]at this;exact this
def zs2 (ds:List Int):(ds.map PyData.int).all rC=true:=by
 rw[List.all_map,yn2];intro z _;rfl
theorem zA5 {z:Int}:∀{ds:List Int},inD (.int z) (ds.map .int)=decide (z∈ds)
 |[]=>rfl
 |d::ds=>by
  have a:=zA5 (z:=z) (ds:=ds);rw[ya6];unfold inD at a ⊢;rw[yl3,a];by_cases h:z=d
  .subst h;simp[scV,eqV]
  .simp[scV,eqV,h,yc1 h]
def eL {C:Ad}(F:FnD K mg "leads_out" zg2 ["books","day","go","days"])(nb:NbT mg)(r:Cal P w K mg base "can_be_had" 4 (nY C cs)):Cal P w K mg base "leads_out" 5 (gB C cs):=by
 refine zL ["books","day","go","days","other"] F λ_ _ _ _ _ _ _ _ Q nd hr h=>?_;obtain⟨Bs,d,g,ds,rfl,l,bl,⟨o,p,g1,g2⟩,m,q⟩:=h;refine zR (.one 4) (xH (by rfl) nb.range ?_);and_intros;refine⟨⟨by lia,by lia,by lia,by lia⟩,zC (λi O=>∃e:Option A,O=[some (.dat (zY C cs Bs)),some (.dat (.int d)),some (.dat (.int g)),some (.dat (.list (ds.map .int))),e]) ⟨none,rfl⟩ ?_ ?_⟩
 .rintro i x O f ⟨e,rfl⟩;rw[z88,z98]at f;obtain⟨u,c,rfl⟩:=f;have hi:=(z81.mp c).1;rw[zb]at hi;rw[zG hi]at c;cases c;have a:yf d (d+1+i):=⟨by lia,by lia,by lia,by lia⟩;refine⟨_,rfl,?_⟩;and_intros;refine ink rfl (zs2 _) ?_;rw[zA5];refine pO (λh=>?_) (λh=>?_)
  .have h:¬d+1+i∈ds:=by simpa using h
   refine oK (rg (zc0 rfl (by rfl) nb.any (EvL.d (xJ ["book","day","other"] [none,some 1,some 4] (.one 0) (zV ?_)))));and_intros;refine⟨by rw[z77];lia,?_⟩;refine ye (λ_=>.bool false) (λb hb=>⟨_,rfl,λ_ _ _ _ _ k=>?_⟩) ?_
   .and_intros;refine⟨b,d,d+1+i,rfl,l b hb,a,?_⟩;obtain⟨n,hn,rfl⟩:=yi9.mp hb;rw[show ur Bs[n] d (d+1+i)=false from Bool.eq_false_iff.mpr λj=>h (m _ n (coD Bs[n] d (d+1+i)) (by lia) (by lia) hn (by rw[oB (z78 hn) a,coO,if_pos j]))];exact k
   rw[ye5,xE];and_intros;refine yu (by rw[List.any_map,List.any_eq_false];intro _ _ z;cases z) ?_;and_intros;exact⟨_,rfl⟩
  .and_intros;exact⟨_,rfl⟩
 .rintro O ⟨e,rfl⟩;and_intros;exact q
noncomputable def adj :List Int->List (Int×Int)
 |a::b::r=>(a,b)::adj (b::r)
 |_=>[]
def zn1 :∀ds:List Int,cj (L2.cutD (ds.map PyData.int) none (some (-1))) (L2.cutD (ds.map PyData.int) (some 1) none)=(adj ds).map λp=>.tuple [.int p.1,.int p.2]:=by
 have key:∀ds:List Int,List.zipWith (λd e=>PyData.tuple [d,e]) ((ds.map PyData.int).take ((ds.map PyData.int).length-1)) ((ds.map PyData.int).drop 1)=(adj ds).map λp=>.tuple [.int p.1,.int p.2]:=by
  intro ds
  induction ds with
  |nil=>rfl
  |cons a r c=>
   cases r with
   |nil=>rfl
   |cons b r=>
    have e:(List.map PyData.int (a::b::r)).length-1=(List.map PyData.int (b::r)).length-1+1:=by simp
    rw[e];show PyData.tuple [.int a,.int b]::List.zipWith _ (List.take _ (List.map PyData.int (b::r))) (List.drop 1 (List.map PyData.int (b::r)))=_;rw[c];rfl
 intro ds;rw[nV,vA _ (by decide)];exact key ds
theorem za9 :∀{ds:List Int},ds.Pairwise (·<·)->(adj ds).length<=ds.length/\∀p∈adj ds,p.1<p.2
 |[],_=>⟨z82 _,λp c=>by cases c⟩
 |[_],_=>⟨z94 _,λp c=>by cases c⟩
 |a::b::r,h=>by
  obtain⟨h1,h2⟩:=ym6.mp h;obtain⟨i1,i2⟩:=za9 h2;refine⟨Nat.succ_le_succ i1,λp c=>?_⟩;rcases z84.mp c with rfl|c
  .exact h1 b z89
  .exact i2 p c
def jX (F:FnD K mg "is_rising_from" iQ ["days","first"])(nb:NbT mg):Cal P w K mg base "is_rising_from" 1 mM:=by
 refine zL ["days","first"] F λ_ _ e _ _ _ _ _ Q nd hr h=>?_;obtain⟨c,r,rfl,dl,pw,q⟩:=h;obtain⟨al,a⟩:=za9 pw;and_intros;refine eqk (shaped_ints _).1 rfl (vF _) rfl ?_;and_intros;refine ixk rfl rfl (yC rfl) ?_;and_intros;refine pd (ya9 rfl) ?_;refine za0 (ng rfl (by rfl) nb.all (EvL.d (xJ ["lower","higher"] [none,none] (.many [0,1]) (zc6 (by rfl) nb.zip ?_))));and_intros;rw[zn1];refine⟨by rw[z77];rw[ya1]at al;lia,?_⟩;refine ye (λ_=>.bool true) (λp b=>⟨_,rfl,λ_ _ _ _ _ k=>?_⟩) ?_
 .and_intros;rw[ya9 (a p b)];exact k
 rw[ye5,xE];and_intros;rw[tf];exact q
def dz {C:Ad}(F:FnD K mg "is_off" zi1 ["books","stay","days"])(nb:NbT mg)(s:Cal P w K mg base "is_list_of_wholes" 2 bP)(CR:Cal P w K mg base "is_rising_from" 1 mM)(j:Cal P w K mg base "leads_out" 5 (gB C cs)):Cal P w K mg base "is_off" 6 (gY C cs):=by
 refine zL ["books","stay","days"] F λ_ _ _ _ _ _ _ _ Q nd hr h=>?_;obtain⟨Bs,c,g,ds,rfl,i,bl,sb,b,q⟩:=h;obtain⟨n,o,g1,g2⟩:=id sb;obtain⟨r,e⟩:=b.first;have pw:=b.sort;have dl:ds.length<=14:=by
  have key:∀(l:List Int) a,l.Pairwise (·<·)->(∀d∈l,a<=d/\d<g)->(l.length:Int)<=max 0 (g-a):=by
   intro l
   induction l with
   |nil=>intro a _ _;simp;lia
   |cons x l m=>
    intro a f hb;have h1:=hb x z89;have:=m (x+1) (ym6.mp f).2 λd hd=>⟨(ym6.mp f).1 d hd,(hb d (z87 _ hd)).2⟩;rw[ya1]
    lia
  have:=key ds c pw b.rng
  lia
 obtain⟨l,el⟩:∃l,ds=ds.dropLast++[l]:=⟨ds.getLast (by rw[e];simp),(List.dropLast_concat_getLast _).symm⟩;have p:=(b.rng l (by rw[el];simp)).2;and_intros;refine⟨by lia,?_⟩;and_intros;refine⟨c,r,by rw[e],by rw[e,ya1]at dl;lia,by rw[<-e];exact pw,?_⟩;and_intros;refine ixk rfl rfl (by rw[el,yd2];exact cU _ _) ?_;and_intros;refine yu (ya3 (by lia)) (zy (xg (zb6 (zc0 rfl (by rfl) nb.any (EvL.d (xJ ["day","books","stay","days"] [none,some 0,some 1,some 2] (.one 0) (zV ?_)))))));and_intros;refine⟨by rw[z77];lia,?_⟩;refine ye (λ_=>.bool false) (λd hd=>⟨_,rfl,λ_ _ _ _ _ k=>?_⟩) ?_
 .and_intros;have:=b.rng d hd;exact⟨Bs,d,g,ds,rfl,i,bl,⟨by lia,by lia,by lia,by lia⟩,b.shut d hd,k⟩
 rw[ye5,xE];and_intros;rw[show(ds.map λ_=>false).any id=false by rw[List.any_map,List.any_eq_false];intro _ _ z;cases z];exact q
def zc1 {C:Ad}(F:FnD K mg "lets_by" zE5 ["books","stay","thing"])(nb:NbT mg)(b:Cal P w K mg base "is_had" 9 (gZ C cs))(d:Cal P w K mg base "is_off" 6 (gY C cs)):Cal P w K mg base "lets_by" 10 (bW C cs):=by
 refine zL ["books","stay","thing"] F λ_ _ _ _ _ _ _ _ Q nd hr h=>?_;obtain⟨Bs,c,g,rfl,a,bl,sb,q⟩:=h;rcases qw a sb with⟨x,ps,pp,h⟩|⟨ds,h⟩
 .rw[h.eq];have h1:=pT ps;have h2:=vF pp;rw[PyData.hasDict]at h1 h2;refine xP (λO=>O=[some (.dat (zY C cs Bs)),some (.dat (.tuple [.int c,.int g])),some (.dat (.tuple [.str "had",.int x,.list (ps.map yw),.list (pp.map .int)]))]) ?_ ?_
  .and_intros;refine⟨_,by simp[PyData.hasDict,PyData.hasDictAll,h1,h2],rfl,?_⟩;and_intros;rfl
  rintro O rfl;and_intros;exact⟨Bs,c,g,x,ps,pp,rfl,a,bl,sb,h,q⟩
 .rw[h.eq];have h2:=vF ds;rw[PyData.hasDict]at h2;refine xP (λO=>O=[some (.dat (zY C cs Bs)),some (.dat (.tuple [.int c,.int g])),some (.dat (.tuple [.str "off",.list (ds.map .int)]))]) ?_ ?_
  .and_intros;refine⟨_,by simp[PyData.hasDict,PyData.hasDictAll,h2],rfl,?_⟩;and_intros;rfl
  rintro O rfl;and_intros;exact⟨Bs,c,g,ds,rfl,a,bl,sb,h,q⟩
end
abbrev gF :An:=top 85
abbrev zC0 :An:=top 84
def zh2 :Ph:=λas Q=>∃bs a:Int,as=[.tape,.dat (.int bs),.dat (.int a)]/\Bd bs a/\∀c g:Int,yf c g->Q (.dat (.tuple [.int c,.int g]))
def iW (C:Ad)(cs:Cs):Ph:=λas Q=>∃bs a:Int,as=[.tape,.dat (.int bs),.dat (.int a)]/\Bd bs a/\∀Bs,yb Bs->1<=Bs.length->Bs.length<=4->(∀ds∈Bs,ds.length<=10)->Q (.own (Bs.map (zA C cs)))
section
variable {P:Ag}{w:Ak}{K:Ae}{mg:Str->Option Ab}{base:Ao}{cs:Cs}
def cZ (F:FnD K mg "_law_stay" zC0 ["_law_tape_here","_law_base","_law_days"])(a:Cal P w K mg base "_law_draw" 1 xw):Cal P w K mg base "_law_stay" 2 zh2:=by
 refine zL ["_law_tape_here","_law_base","_law_days","_law_many","_law_come"] F λ_ _ _ _ _ _ _ _ Q nd hr h=>?_;obtain⟨bs,c,rfl,⟨e,g,d,f⟩,q⟩:=h;have b:1000001<big:=by decide
 refine yr 3 nd (wJ (yq (vV a hr (by rfl) (uG 0 rfl (zq (zj 2 rfl (zz (⟨_,rfl,by lia,by lia,λv1 h1 g1=>⟨_,_,rfl,rfl,yr 4 nd (wJ (zj 1 rfl (vV a hr (by rfl) (uG 0 rfl (zq (wJ (kX (zj 2 rfl (zj 3 rfl (⟨_,_,rfl,rfl,yq (⟨_,_,rfl,rfl,zz (⟨_,rfl,by lia,by lia,λv2 h2 g2=>⟨_,_,rfl,rfl,?_⟩⟩)⟩)⟩))))))))))⟩⟩))))))));and_intros;exact q _ _ ⟨by lia,by lia,by lia,by lia⟩
def cx {C:Ad}(F:FnD K mg "_law_books" gF ["_law_tape_here","_law_base","_law_days"])(nb:NbT mg)(j:Cal P w K mg base "_law_draw" 1 xw)(CR:Cal P w K mg base "_law_rules" 5 sX)(k:vp P w K mg base "Book" 9 [] (wV C cs)):Cal P w K mg base "_law_books" 11 (iW C cs):=by
 refine zL ["_law_tape_here","_law_base","_law_days","_law_found","_law_k"] F λ_ _ _ _ _ _ _ _ Q nd hr h=>?_;obtain⟨bs,f,rfl,bd,q⟩:=h;refine xm 3 nd ?_;and_intros;refine zR (.one 4) (vJ (by rfl) nb.range ?_);and_intros;rename_i v h0 h1;refine⟨by lia,by lia,zC (λi O=>∃e Bs,yb Bs/\Bs.length=i/\(∀ds∈Bs,ds.length<=10)/\O=[some .tape,some (.dat (.int bs)),some (.dat (.int f)),some (.own (Bs.map (zA C cs))),e]) ⟨none,[],λ_ h=>by simp at h,rfl,λ_ h=>by simp at h,rfl⟩ ?_ ?_⟩
 .rintro i d O hd ⟨e,Bs,c,bl,dl,rfl⟩;have hi:=(z81.mp hd).1;rw[z77,zb]at hi;refine⟨_,rfl,?_⟩;and_intros;refine⟨bs,f,rfl,bd,λds g l1 ld=>?_⟩;and_intros;refine kf (λd=>∃b:Int,d=.int b) rfl (by assumption) (by assumption) ⟨⟨_,rfl⟩,⟨_,rfl⟩,trivial⟩ ?_;rintro _ ⟨b,rfl⟩;and_intros;have rc:zo (L2.cutD ds none (some b)):=λd hd=>g d (oJ hd);have lc:=z93 (nG (lo:=none) (hi:=some b)) ld;refine⟨_,.inl rfl,rc.rules,by lia,?_⟩;and_intros;refine⟨by rw[z77];lia,?_⟩;and_intros;refine⟨_,Bs++[L2.cutD ds none (some b)],λx a=>?_,by rw[z95,bl]<;>rfl,λx a=>?_,by rw[yd2]<;>rfl⟩
  .rcases ya8.mp a with a|a
   .exact c x a
   .rw[z92.mp a];exact rc
  .rcases ya8.mp a with a|a
   .exact dl x a
   .rw[z92.mp a];exact lc
 .rintro O ⟨e,Bs,c,bl,dl,rfl⟩;rw[z77,zb]at bl;exact xB 3 rfl (q Bs c (by lia) (by lia) dl)
end
def take_snoc {β:Type}{l:List β}{i:Nat}{d:β}(h:l[i]?=some d):l.take (i+1)=l.take i++[d]:=by rw[yg0,h];rfl
abbrev zE0 :An:=top 53
def zh0 (C:Ad)(cs:Cs):Ph:=λas Q=>∃ds es,as=[.dat (zA C cs ds),.dat (zA C cs es)]/\zo ds/\zo es/\ds.length+es.length<=24/\Q (.dat (zA C cs (ds++es)))
section
variable {P:Ag}{w:Ak}{K:Ae}{mg:Str->Option Ab}{base:Ao}{cs:Cs}
def aF {C:Ad}(F:FnD K mg "laid" zE0 ["elder","newer"])(c:vp P w K mg base "Book" 9 [] (wV C cs))(d:xp P w K mg base C "rules" 3 (vH C cs)):Cal P w K mg base "laid" 11 (zh0 C cs):=by
 refine zL ["elder","newer"] F λ_ _ _ _ _ _ _ _ Q nd hr h=>?_;obtain⟨ds,es,rfl,a,re,b,q⟩:=h;and_intros;refine⟨a.rules,by lia,?_⟩;and_intros;refine⟨re.rules,by lia,ds,es,rfl,rfl,by lia,?_⟩;and_intros;exact⟨ds++es,.inl rfl,(a.app re).rules,by rw[z95];exact b,q⟩
end
def uc {ds:List Aa}{x:Str}{d e:Int}(h:∀r∈ds,sE x d r=sE x e r):zm ds x d=zm ds x e:=by
 unfold zm;have:ds.reverse.find? (sE x d)=ds.reverse.find? (sE x e):=by
  have key:∀l:List Aa,(∀r∈l,sE x d r=sE x e r)->l.find? (sE x d)=l.find? (sE x e):=by
   intro l
   induction l with
   |nil=>intro _;rfl
   |cons a l c=>
    intro b;rw[yg1,yg1,b a z89,c λr hr=>b r (z87 _ hr)]
  exact key _ λr hr=>h r (ys7.mp hr)
 rw[this]
theorem gQ {d:Int}:∀(ys:List Int),(∃y∈ys,y<=d)->∃e∈ys,e<=d/\∀y∈ys,y<=d->y<=e
 |[],h=>by obtain⟨y,hy,_⟩:=h;simp at hy
 |a::ys,h=>by
  by_cases c:∃y∈ys,y<=d
  .obtain⟨e,he,hd,hm⟩:=gQ ys c;by_cases ha:a<=d/\e<a
   .exact⟨a,z89,ha.1,λy hy b=>by
     rcases z84.mp hy with rfl|hy
     .exact yd6 _
     .have:=hm y hy b;lia⟩
   .exact⟨e,z87 _ he,hd,λy hy b=>by
     rcases z84.mp hy with rfl|hy
     .lia
     .exact hm y hy b⟩
  .obtain⟨y,hy,b⟩:=h;rcases z84.mp hy with rfl|hy
   .exact⟨y,z89,b,λz f g=>by
     rcases z84.mp f with rfl|f
     .exact yd6 _
     .exact absurd ⟨z,f,g⟩ c⟩
   .exact absurd ⟨y,hy,b⟩ c
def qq {x:Str}{r:Aa}{p q:Int}(hr:yy r=true)(d:p<=q)(h:∀a b v,r=.tuple [.str x,.int a,.int b,v]->¬(p<a/\a<=q)/\¬(p<b+1/\b+1<=q)):sE x q r=sE x p r:=by
 obtain⟨u,a,b,v,f,rfl,g,i,j,hw⟩:=yB hr;show(decide (u=x)&&(decide (a<=q)&&decide (q<=b)))=(decide (u=x)&&(decide (a<=p)&&decide (p<=b)));by_cases c:u=x
 .subst c;obtain⟨h1,h2⟩:=h a b v rfl;have e1:decide (a<=q)=decide (a<=p):=by
   by_cases z:a<=q
   .rw[ya9 z,ya9 (by lia)]
   .rw[ya3 z,ya3 (by lia)]
  have e:decide (q<=b)=decide (p<=b):=by
   by_cases z:q<=b
   .rw[ya9 z,ya9 (by lia)]
   .rw[ya3 z,ya3 (by lia)]
  rw[e1,e]
 .rw[ya3 c,yl8,yl8]
def zf8 {β:Type}{f:Int->β}{c e:Int}:∀{n:Nat},(∀i:Nat,i<n->f (c+i)=f (e+i))->(zp c n).map f=(zp e n).map f:=λ{n} h=>by
 refine yr8 λi=>?_;rw[z88,z88];rcases ye1 i n with z|z
 .rw[zG z,zG z];exact congrArg some (h i z)
 .rw[ye6 (by rw[zb];exact z),ye6 (by rw[zb];exact z)]
theorem zw4 {l:List Int}{f:Int->Bool}:(l.filter f).isEmpty=!(l.map f).any id:=by
 induction l with
 |nil=>rfl
 |cons a l b=>
  rw[yn3,ya6,yl3];cases h:f a with
  |true=>simp
  |false=>simpa using b
def zm3 {β:Type}(a b:List β):(a++b).isEmpty=(a.isEmpty&&b.isEmpty):=by cases a<;>rfl
def zp9 (b:Bool)(d:Aa):(opt b d).isEmpty=!b:=by cases b<;>rfl
def zm7 {β b:Type}(f:β->b)(a:List β):(a.map f).isEmpty=a.isEmpty:=by cases a<;>rfl
def fH {ds:List Aa}{c e:Int}{n:Nat}(a:∀i:Nat,i<n->zm ds "price" (c+i)=zm ds "price" (e+i))(h1:zm ds "come" c=zm ds "come" e)(h2:zm ds "least" c=zm ds "least" e)(h3:zm ds "most" c=zm ds "most" e)(g:zm ds "deal" c=zm ds "deal" e)(d:zm ds "fee" c=zm ds "fee" e)(f:zm ds "go" (c+n)=zm ds "go" (e+n)):coO ds c (c+n)=coO ds e (e+n):=by
 have n1:(c+n-c).toNat=n:=by lia
 have n2:(e+n-e).toNat=n:=by lia
 have b:c+n-c=n:=by lia
 have j:e+n-e=n:=by lia
 have h:ur ds c (c+n)=ur ds e (e+n):=by
  unfold ur wL xC;simp only[zm3,zp9,zm7,zw4,n1,n2,b,j,h1,h2,h3,f,yf0];rw[zf8 λi hi=>congrArg wj (a i hi)]
 have ep:prs ds c (c+n)=prs ds e (e+n):=by
  unfold prs;rw[n1,n2];exact zf8 λi hi=>congrArg intOf (a i hi)
 unfold coO coD ze2 vQ;rw[h,ep,g,d]
structure Trn (ds:List Aa)(n:Nat)(ys:List Int):Prop where
 zero:0∈ys
 lo:∀y∈ys,0<=y
 hi:∀y∈ys,y+n<=1000000
 at':∀(x:Str) (a b:Int) (v:Aa),.tuple [.str x,.int a,.int b,v]∈ds->∀d:Int,0<=d->d+n<=1000000->(x="go"->d+n=a\/d+n=b+1->d∈ys)/\(x≠"go"->x≠"price"->d=a\/d=b+1->d∈ys)/\(x="price"->∀i:Nat,i<n->d+i=a\/d+i=b+1->d∈ys)
def Trn.same {ds es:List Aa}{n:Nat}{ys:List Int}(q:∀d∈ds,yy d=true)(re:∀d∈es,yy d=true)(T:Trn (ds++es) n ys){c:Int}(p:0<=c)(s:c+n<=1000000):∃e∈ys,e<=c/\coO ds c (c+n)=coO ds e (e+n)/\coO es c (c+n)=coO es e (e+n):=by
 obtain⟨e,he,l,hm⟩:=gQ ys ⟨0,T.zero,p⟩;have t:=T.lo e he;have key:∀h:List Aa,(∀r∈h,r∈ds++es/\yy r=true)->coO h c (c+n)=coO h e (e+n):=λh hg=>by
  have k:∀x:Str,x≠"go"->x≠"price"->zm h x c=zm h x e:=λx m o=>uc λr hr=>qq (hg r hr).2 l λa b v f=>by
   subst f;exact⟨λ⟨j,g⟩=>by have:=hm a ((T.at' x a b v (hg _ hr).1 a (by lia) (by lia)).2.1 m o (.inl rfl)) g;lia,λ⟨j,g⟩=>by have:=hm (b+1) ((T.at' x a b v (hg _ hr).1 (b+1) (by lia) (by lia)).2.1 m o (.inr rfl)) g;lia⟩
  refine fH (λi hi=>?_) (k _ (by decide) (by decide)) (k _ (by decide) (by decide)) (k _ (by decide) (by decide)) (k _ (by decide) (by decide)) (k _ (by decide) (by decide)) ?_
  .refine uc λr hr=>qq (hg r hr).2 (by lia) λa b v f=>?_;subst f;exact⟨λ⟨j,g⟩=>by have:=hm (a-i) ((T.at' _ a b v (hg _ hr).1 (a-i) (by lia) (by lia)).2.2 rfl i hi (.inl (by lia))) (by lia);lia,λ⟨j,g⟩=>by have:=hm (b+1-i) ((T.at' _ a b v (hg _ hr).1 (b+1-i) (by lia) (by lia)).2.2 rfl i hi (.inr (by lia))) (by lia);lia⟩
  .refine uc λr hr=>qq (hg r hr).2 (by lia) λa b v f=>?_;subst f;exact⟨λ⟨j,g⟩=>by have:=hm (a-n) ((T.at' _ a b v (hg _ hr).1 (a-n) (by lia) (by lia)).1 rfl (.inl (by lia))) (by lia);lia,λ⟨j,g⟩=>by have:=hm (b+1-n) ((T.at' _ a b v (hg _ hr).1 (b+1-n) (by lia) (by lia)).1 rfl (.inr (by lia))) (by lia);lia⟩
 exact⟨e,he,l,key ds λr hr=>⟨yb3 _ hr,q r hr⟩,key es λr hr=>⟨ya4 _ hr,re r hr⟩⟩
def mK (ds es:List Aa)(n:Nat):Prop:=∀c:Int,0<=c->c+n<=1000000->coO ds c (c+n)=coO es c (c+n)
def Trn.all {ds es:List Aa}{n:Nat}{ys:List Int}(f:∀d∈ds,yy d=true)(re:∀d∈es,yy d=true)(T:Trn (ds++es) n ys)(h:∀y∈ys,coO ds y (y+n)=coO es y (y+n)):mK ds es n:=λc a b=>by
 obtain⟨e,he,_,h1,h2⟩:=T.same f re a b;rw[h1,h2];exact h e he
structure zp7 (ds es:List Aa)(n:Nat)(c:Int):Prop where
 n1:1<=n
 n2:n<=14
 lo:0<=c
 hi:c+n<=1000000
 ne:coO ds c (c+n)≠coO es c (c+n)
 bef:∀m:Nat,1<=m->m<n->mK ds es m
 least:∀e:Int,0<=e->e<c->coO ds e (e+n)=coO es e (e+n)
def Apt (ds es:List Aa):Option (Nat×Int)->Prop
 |none=>∀m:Nat,1<=m->m<=14->mK ds es m
 |some q=>zp7 ds es q.1 q.2
noncomputable def zc3 (ds es:List Aa):Option (Nat×Int)->Aa
 |none=>.none
 |some q=>.tuple [.tuple [.int q.2,.int (q.2+q.1)],oD (coO ds q.2 (q.2+q.1)),oD (coO es q.2 (q.2+q.1))]
theorem zu4 {ds es:List Aa}{q r:Option (Nat×Int)}(h:Apt ds es q)(g:Apt ds es r):q=r:=by
 cases q with
 |none=>cases r with
  |none=>rfl
  |some r=>exact absurd (h r.1 g.n1 g.n2 r.2 g.lo g.hi) g.ne
 |some q=>cases r with
  |none=>exact absurd (g q.1 h.n1 h.n2 q.2 h.lo h.hi) h.ne
  |some r=>
   obtain⟨n,c⟩:=q;obtain⟨m,d⟩:=r;have h:=h;have g:=g;have a1:¬n<m:=λz=>h.ne (g.bef n h.n1 z c h.lo h.hi);have a2:¬m<n:=λz=>g.ne (h.bef m g.n1 z d g.lo g.hi);have e:n=m:=by lia
   subst e;have b:¬c<d:=λz=>h.ne (g.least c h.lo z);have a:¬d<c:=λz=>g.ne (h.least d g.lo z);have e:c=d:=by lia
   subst e;rfl
theorem cL {ds es:List Aa}{q:Option (Nat×Int)}(h:Apt ds es q):Apt es ds q:=by
 cases q with
 |none=>exact λm m1 m2 c a b=>(h m m1 m2 c a b).symm
 |some q=>
  have h:=h;exact(⟨h.n1,h.n2,h.lo,h.hi,λe=>h.ne e.symm,λm m1 m2 c a b=>(h.bef m m1 m2 c a b).symm,λe d e1=>(h.least e d e1).symm⟩:zp7 es ds q.1 q.2)
def Trn.fst {ds es:List Aa}{n:Nat}{ys:List Int}(i:∀d∈ds,yy d=true)(re:∀d∈es,yy d=true)(T:Trn (ds++es) n ys)(up:ys.Pairwise (·<=·))(n1:1<=n)(n2:n<=14)(al:∀m:Nat,1<=m->m<n->mK ds es m){j:Nat}{y:Int}(hy:ys[j]?=some y)(g:∀z∈ys.take j,coO ds z (z+n)=coO es z (z+n))(ne:coO ds y (y+n)≠coO es y (y+n)):zp7 ds es n y:=by
 have a:=yb6 hy;refine⟨n1,n2,T.lo y a,T.hi y a,ne,al,λe h e1=>?_⟩;obtain⟨u,c,l,h1,h2⟩:=T.same i re h (by have:=T.hi y a;lia);rw[h1,h2];obtain⟨k,hk⟩:=List.getElem?_of_mem c;have f:k<j:=by
  rcases ye1 k j with z|z
  .exact z
  .obtain⟨p1,p2⟩:=z81.mp hy;obtain⟨p3,p4⟩:=z81.mp hk;rcases ye1 j k with b|b
   .have:=yi1.mp up j k p1 p3 b
    lia
   .have:j=k:=by lia
    subst this
    lia
 exact g u (yb6 (by rw[List.getElem?_take_of_lt f,hk]))
abbrev sTb :An:=top 28
abbrev sTn :An:=top 29
abbrev zS0 :An:=top 30
noncomputable def tbL (u:Str)(a b:Int)(n:Nat):List Int:=if u="go" then [a-n,b+1-n]else if u="price" then zp (a-n+1) n++zp (b+1-n+1) n else [a,b+1]
def zM6 (u:Str)(a b:Int){n:Nat}(h:n<=14):(tbL u a b n).length<=28:=by
 unfold tbL;split
 .simp
 .split
  .rw[z95,zb,zb];lia
  .simp
def z09 :Ph:=λas Q=>∃(u:Str) (a b:Int) (v:Aa) (n:Nat),as=[.dat (.tuple [.str u,.int a,.int b,v]),.dat (.int n)]/\0<=a/\a<=b/\b<=1000000/\n<=14/\Q (.dat (.list ((tbL u a b n).map .int)))
def zX9 :Ph:=λas Q=>∃(ds:List Aa) (n:Nat),as=[.dat (.list ds),.dat (.int n)]/\(∀d∈ds,yy d=true)/\ds.length<=24/\1<=n/\n<=14/\∀ys:List Int,Trn ds n ys->ys.Pairwise (·<=·)->ys.length<=1000->Q (.dat (.list (ys.map .int)))
def zD9 (C:Ad)(cs:Cs):Ph:=λas Q=>∃ds es:List Aa,as=[.dat (zA C cs ds),.dat (zA C cs es)]/\zo ds/\zo es/\ds.length<=12/\es.length<=12/\∀q,Apt ds es q->Q (.dat (zc3 ds es q))
def yO (x:Option Int):SeqAt.shaped (oD x)=true/\(oD x).hasDict=false:=by cases x<;>exact⟨rfl,rfl⟩
def zc5 (x y:Option Int):PyData.eqv (oD x) (oD y)=decide (x=y):=by
 cases x<;>cases y<;>simp[oD,PyData.eqv]<;>rfl
section
variable {P:Ag}{w:Ak}{K:Ae}{mg:Str->Option Ab}{base:Ao}{cs:Cs}
def zG9 (F:FnD K mg "turns_by" sTb ["rule","many"])(nb:NbT mg):Cal P w K mg base "turns_by" 1 z09:=by
 refine zL ["rule","many","edges","found","edge"] F λ_ _ _ _ _ _ _ _ Q nd hr h=>?_;obtain⟨u,a,b,v,n,rfl,m,o,p,n2,q⟩:=h;unfold tbL at q;and_intros;refine yJ (λh=>?_) λh=>?_
 .rw[if_pos (yo8 h)]at q;refine xg (EvL.d (xJ ["edge","many"] [none,some 1] (.one 0) (zV (zj 2 rfl ⟨_,rfl,by simp,?_⟩))));refine ye (l:=[a,b+1]) (g:=PyData.int) (λe=>.int (e-n)) (λe _=>⟨_,rfl,λ_ _ _ _ _ k=>?_⟩) q;and_intros;exact k
 rw[if_neg (of_decide_eq_false h)]at q;and_intros;refine yJ (λh=>?_) λh=>?_
 .rw[if_neg (by simpa using h)]at q;and_intros;exact q
 rw[if_pos (by simpa using h)]at q;and_intros;refine zR (.one 4) (zV (zj 2 rfl ⟨_,rfl,?_⟩));refine zC (λi O=>∃c:Option A,O=[some (.dat (.tuple [.str u,.int a,.int b,v])),some (.dat (.int n)),some (.dat (.list [.int a,.int (b+1)])),some (.own (((([a,b+1]:List Int).take i).flatMap λe=>zp (e-n+1) n).map .int)),c]) ⟨none,rfl⟩ ?_ ?_
 .rintro i d O hd ⟨c,rfl⟩;have hd:(([a,b+1]:List Int).map PyData.int)[i]?=some d:=hd;rw[z88,z98]at hd;obtain⟨e,he,rfl⟩:=hd;have hi:=(z81.mp he).1;have j:0<=e/\e<=1000001:=by
   have:=yb6 he;simp at this
   lia
  refine⟨_,rfl,tL 3 rfl (EvL.d (mv rfl (by rfl) nb.list (by rfl) nb.range ?_))⟩;and_intros;refine⟨⟨by lia,by lia,by lia,by lia⟩,by lia,_,rfl,?_,zy ⟨some (.dat (.int e)),?_⟩⟩
  .have l:∀l:List Int,(l.flatMap λe=>zp (e-n+1) n).length=l.length*n:=λl=>by
    induction l with
    |nil=>simp
    |cons a l f=>rw[List.flatMap_cons,z95,f,zb,ya1,Nat.add_mul];lia
   rw[z77,z77,zb,l,yc3];have:min i ([a,b+1]:List Int).length*n<=2*14:=Nat.mul_le_mul (by simp;lia) n2
   lia
  .rw[yg0,he,List.flatMap_append,yd2,show(e+1-(e-n+1)).toNat=n by lia];simp
 .rintro O ⟨c,rfl⟩;refine tH 3 rfl (xg (zj 3 rfl ?_));simpa using q
def zP3 (F:FnD K mg "turns" sTn ["rules","many"])(nb:NbT mg)(c:mg "set"=none)(gl:∃t,mg "LAST_DAY"=some (.int 1000000 t))(I:Cal P w K mg base "turns_by" 1 z09):Cal P w K mg base "turns" 2 zX9:=by
 refine zL ["rules","many","found","rule"] F λ_ _ _ _ _ _ _ _ Q nd hr h=>?_;obtain⟨ds,n,rfl,E,ld,n1,n2,q⟩:=h;refine xm 2 nd ?_;and_intros;refine zR (.one 3) (zV (zj 0 rfl ⟨_,rfl,?_⟩));refine zC (λi O=>∃(fs:List Int) (j:Option A),0∈fs/\(∀u a b v,.tuple [.str u,.int a,.int b,v]∈ds.take i->∀y∈tbL u a b n,y∈fs)/\fs.length<=1+28*i/\O=[some (.dat (.list ds)),some (.dat (.int n)),some (.own (fs.map .int)),j]) ⟨[0],none,by simp,λu a b v h=>by simp at h,by simp,rfl⟩ ?_ ?_
 .rintro i d O hd ⟨fs,j,l,hf,lf,rfl⟩;have hi:=(z81.mp hd).1;obtain⟨u,a,b,v,H,rfl,r,B,C,hw⟩:=yB (E d (yb6 hd));have L:=zM6 u a b n2;refine⟨_,rfl,tL 2 rfl ?_⟩;and_intros;refine⟨u,a,b,v,n,rfl,r,B,C,n2,_,rfl,by rw[z77,z77];lia,zy ⟨fs++tbL u a b n,_,yb3 _ l,λo p s D h y hy=>?_,by rw[z95];lia,by rw[yd2]<;>rfl⟩⟩;rw[take_snoc hd]at h;rcases ya8.mp h with h|h
  .exact yb3 _ (hf o p s D h y hy)
  .have h:=z92.mp h;injection h with h;injection h with h1 h;injection h with h2 h;injection h with h3 h;injection h1 with h1;injection h2 with h2;injection h3 with h3;subst h1 h2 h3;exact ya4 _ hy
 .rintro O ⟨fs,j,l,hf,lf,rfl⟩;rw[yf6]at hf;refine tH 2 rfl (xg (EvL.d (xJ ["day","many"] [none,some 1] (.one 0) (zV (EvL.d (tQ rfl (by rfl) nb.sorted (by rfl) c (zj 2 rfl ⟨fs,rfl,by lia,λys z up J=>⟨_,rfl,by rw[z77];lia,?_⟩⟩)))))));refine lC (λd:Int=>decide (0<=d)&&decide (d<=1000000-(n:Int))) .int (λd hd=>⟨_,rfl,λ_ _ _ _ _ k=>kE ?_,λ_ _ _ _ _ _ k=>?_⟩) ?_
  .and_intros;refine pO (λh=>?_) λh=>?_
   .refine kX (yS (by rfl) gl ?_);and_intros;rw[h]at k;exact k
   .rw[h]at k;exact k
  .and_intros;exact k
  rw[ye5];have f:∀{y:Int},y∈fs->0<=y->y+n<=1000000->y∈ys.filter λd:Int=>decide (0<=d)&&decide (d<=1000000-(n:Int)):=λ{y} h1 h2 h3=>yq2.mpr ⟨(z y).mpr h1,by simp;lia⟩;have mb:∀y∈ys.filter λd:Int=>decide (0<=d)&&decide (d<=1000000-(n:Int)),0<=y/\y+n<=1000000:=λy hy=>by
   have:=(yq2.mp hy).2;simp at this
   lia
  refine q _ ⟨f l (yd6 _) (by lia),λy hy=>(mb y hy).1,λy hy=>(mb y hy).2,λx a b v hm d m g=>?_⟩ ((up.imp λh=>yj7 h).filter _) (by have:=List.length_filter_le (λd:Int=>decide (0<=d)&&decide (d<=1000000-(n:Int))) ys;lia);have hf:=hf x a b v hm;unfold tbL at hf;refine⟨λe h=>?_,λe1 G h=>?_,λe i hi h=>?_⟩
  .rw[if_pos e]at hf;exact f (hf d (by simp;lia)) m g
  .rw[if_neg e1,if_neg G]at hf;exact f (hf d (by simp;lia)) m g
  .subst e;rw[if_neg (by decide),if_pos rfl]at hf;refine f (hf d (ya8.mpr ?_)) m g;rw[yt,yt]
   lia
def zw7 {C:Ad}(F:FnD K mg "apart" zS0 ["one","other"])(nb:NbT mg)(v:∃t,mg "MOST_NIGHTS"=some (.int 14 t))(ga:∃t,mg "MOST_RULES_APART"=some (.int 12 t))(B:xp P w K mg base C "rules" 3 (vH C cs))(x:Cal P w K mg base "turns" 2 zX9)(E:Cal P w K mg base "cost_or_none" 6 (iG C cs)):Cal P w K mg base "apart" 7 (zD9 C cs):=by
 refine zL ["one","other","rules","others","many","come","stay","coins","others_coins"] F λ_ _ G _ _ _ _ _ Q nd hr h=>?_;obtain⟨ds,es,rfl,r,re,ld,le,q⟩:=h;and_intros;refine⟨r.rules,by lia,?_⟩;and_intros;refine⟨re.rules,by lia,?_⟩;and_intros;refine yS (by rfl) ga ?_;and_intros;refine yu (ya3 (by split<;>lia)) (zy ?_);refine zR (.one 4) (xH (by rfl) nb.range (yq (wJ (yS (by rfl) v ?_))));and_intros;refine⟨⟨by decide,by decide,by decide,by decide⟩,?_⟩;refine zC (λi O=>∃s k l g f:Option A,(∀m:Nat,1<=m->m<1+i->mK ds es m)/\O=[some (.dat (zA C cs ds)),some (.dat (zA C cs es)),some (.dat (.list ds)),some (.dat (.list es)),s,k,l,g,f]) ⟨none,none,none,none,none,λm a b=>by lia,rfl⟩ ?_ ?_
 .rintro i d O hd ⟨s,k,l,g,f,p,rfl⟩;rw[z88,z98]at hd;obtain⟨z,c,rfl⟩:=hd;have hi:=(z81.mp c).1;rw[zb]at hi;have hi:i<14:=hi;obtain rfl:z=((1+i:Nat):Int):=by rw[zG (by exact hi)]at c;cases c;lia
  have n1:1<=1+i:=by lia
  have n2:1+i<=14:=by lia
  generalize hn:1+i=n at p n1 n2;refine⟨_,rfl,zR (.one 5) (zV (vV x (hr.mono (by decide)) (by rfl) (zq (EvL.d (wH (zj 2 rfl (zj 3 rfl ⟨_,_,rfl,rfl,by lia,zq (zj 4 rfl (zz ⟨ds++es,n,rfl,λd hd=>(ya8.mp hd).elim (r.all d) (re.all d),by simp;lia,n1,n2,λys T up D=>⟨_,rfl,?_⟩⟩))⟩)))))))⟩;refine zC (λj O=>∃k l g f:Option A,(∀z∈ys.take j,coO ds z (z+n)=coO es z (z+n))/\O=[some (.dat (zA C cs ds)),some (.dat (zA C cs es)),some (.dat (.list ds)),some (.dat (.list es)),some (.dat (.int n)),k,l,g,f]) ⟨k,l,g,f,λz h=>by simp at h,rfl⟩ ?_ ?_
  .rintro j d O hd ⟨k,l,g,f,o,rfl⟩;rw[z88,z98]at hd;obtain⟨y,hy,rfl⟩:=hd;have u:=yb6 hy;have sb:yf y (y+n):=⟨T.lo y u,by lia,by lia,T.hi y u⟩;refine⟨_,rfl,?_⟩;and_intros;refine⟨ds,y,y+n,rfl,r,sb,?_⟩;and_intros;refine⟨es,y,y+n,rfl,re,sb,?_⟩;and_intros;refine eqk (yO _).1 (yO _).1 (yO _).2 (yO _).2 ?_;rw[show PyData.eqv (A.dat (oD (coO ds y (y+n)))).d (A.dat (oD (coO es y (y+n)))).d=decide (coO ds y (y+n)=coO es y (y+n))from zc5 _ _];refine yJ (λh=>?_) λh=>?_
   .and_intros;exact q (some (n,y)) (T.fst r.all re.all up n1 n2 p hy o (by simpa using h))
   .and_intros;refine⟨_,_,_,_,λz c=>?_,rfl⟩;rw[take_snoc hy]at c;rcases ya8.mp c with c|c
    .exact o z c
    .rw[z92.mp c];simpa using h
  .rintro O ⟨k,l,g,f,o,rfl⟩;rw[z77,yf6]at o;and_intros;refine⟨_,_,_,_,_,λm m1 m2=>?_,rfl⟩;by_cases e:m<n
   .exact p m m1 e
   .obtain rfl:m=n:=by lia
    exact T.all r.all re.all o
 .rintro O ⟨s,k,l,g,f,p,rfl⟩;and_intros;exact q none λm m1 m2=>p m m1 (by rw[z77,zb];show m<1+14;lia)
end
abbrev zf4 :An:=top 73
abbrev zT0 :An:=top 74
abbrev zD5 :An:=top 75
abbrev zZ4 :An:=top 86
abbrev zl7 :An:=top 87
def gL :Ph:=λas Q=>∃ds x,as=[.dat (.list ds),.dat (.str x)]/\(∀d∈ds,yy d=true)/\ds.length<=31/\∀ys:List Int,Q (.own (ys.map .int))
def zz2 (C:Ad)(cs:Cs):Ph:=λas Q=>∃ds es,as=[.dat (zA C cs ds),.dat (zA C cs es)]/\zo ds/\zo es/\ds.length+es.length<=31/\Q (.dat .none)/\∀x day,Q (.dat (.tuple [.str x,.int day]))
def cX (C:Ad)(cs:Cs):Ph:=λas Q=>∃ds,as=[.dat (zA C cs ds)]/\zo ds/\ds.length<=15/\∀es,zo es->es.length<=ds.length->Q (.dat (zA C cs es))
def zD0 (C:Ad)(cs:Cs):Ph:=λas Q=>∃(ds:List Aa) (bs a:Int),as=[.tape,.dat (zA C cs ds),.dat (.int bs),.dat (.int a)]/\Bd bs a/\zo ds/\ds.length<=6/\∀es,zo es->es.length<=12->Q (.dat (zA C cs es))
def z29 (C:Ad)(cs:Cs):Ph:=λas Q=>∃(ds:List Aa) (c g:Int),as=[.dat (zA C cs ds),.dat (.tuple [.int c,.int g])]/\zo ds/\yf c g/\Q (.dat (oD (coO ds c g)))
def sW {ds:List Aa}(a:zo ds)(x:Str)(day:Int):zX 5000 (zm ds x day):=by
 unfold zm;split
 .rename_i d e;exact(a d (ys7.mp (yq6 e))).wn
 .exact bA x
def aZ :(tbU.map λp=>PyData.str p.1)=words.map .str:=rfl
section
variable {P:Ag}{w:Ak}{K:Ae}{mg:Str->Option Ab}{base:Ao}{cs:Cs}
def eB (F:FnD K mg "edges" zf4 ["rules","word"])(nb:NbT mg)(e:mg "set"=none):Cal P w K mg base "edges" 1 gL:=by
 refine zL ["rules","word","found","rule"] F λ_ _ k _ _ _ _ _ Q nd hr h=>?_;obtain⟨ds,x,rfl,f,g,q⟩:=h;refine xm 2 nd (wu ?_);and_intros;refine zR (.one 3) (zV (zj 0 rfl ⟨_,rfl,zC (λi O=>∃ns c,ns.length<=1+2*i/\O=[some (.dat (.list ds)),some (.dat (.str x)),some (.own (ns.map .int)),c]) ⟨[0],none,z82 _,rfl⟩ ?_ ?_⟩))
 .rintro i d O hd ⟨ns,c,ln,rfl⟩;have hi:=(z81.mp hd).1;obtain⟨u,a,b,v,j,rfl,_⟩:=yB (f d (yb6 hd));refine⟨_,rfl,?_⟩;and_intros;refine yJ (λ_=>tL 2 rfl (EvL.d (wu ?_))) (λ_=>zy (zy ⟨ns,_,by lia,rfl⟩));and_intros;exact⟨by rw[z77];show ns.length+2<=1000;lia,zy (zy ⟨ns++[a,b+1],_,by rw[z95];show ns.length+2<=_;lia,by rw[yd2];rfl⟩)⟩
 .rintro O ⟨ns,c,ln,rfl⟩;exact tH 2 rfl (vK (tQ rfl (by rfl) nb.sorted (by rfl) e (zj 2 rfl ⟨ns,rfl,by lia,λys _ _ _=>q ys⟩)))
def zw9 {C f:Ad}{n:Nat}(F:FnD K mg "unlike" zT0 ["one","other"])(m:mg "USUAL"=some (.ref f))(l:rV K w f tbU n)(q:(f == sysModules)=false)(CE:Cal P w K mg base "edges" 1 gL)(t:xp P w K mg base C "rules" 3 (vH C cs))(r:xp P w K mg base C "tells_of" 2 (uw C cs)):Cal P w K mg base "unlike" 4 (zz2 C cs):=by
 refine zL ["one","other","rules","word","day"] F λ_ _ s _ _ _ _ _ Q nd hr h=>?_;obtain⟨ds,es,rfl,c,re,g,p,o⟩:=h;and_intros;refine⟨c.rules,by lia,?_⟩;and_intros;refine⟨re.rules,by lia,⟨ds,es,rfl,rfl,by lia,?_⟩⟩;refine zR (.one 3) (cQ (by rfl) m l q ?_);rw[aZ];refine zC (λi O=>∃e a:Option A,O=[some (.dat (zA C cs ds)),some (.dat (zA C cs es)),some (.dat (.list (ds++es))),e,a]) ⟨none,none,rfl⟩ ?_ ?_
 .rintro i d O hd ⟨e,a,rfl⟩;rw[z88,z98]at hd;obtain⟨x,k,rfl⟩:=hd;have b:=yb6 k;refine⟨_,rfl,?_⟩;refine zR (.one 4) (zV (EvL.d (wA CE (hr.mono (by decide)) (by rfl) (zq (zj 2 rfl (zq (zj 3 rfl (zz ⟨ds++es,x,rfl,λd hd=>(ya8.mp hd).elim (c.all d) (re.all d),by rw[z95];exact g,λys=>⟨_,rfl,⟨_,rfl,?_⟩⟩⟩))))))));refine zC (λj O=>∃a:Option A,O=[some (.dat (zA C cs ds)),some (.dat (zA C cs es)),some (.dat (.list (ds++es))),some (.dat (.str x)),a]) ⟨_,rfl⟩ ?_ ?_
  .rintro j d O hd ⟨a,rfl⟩;rw[z88,z98]at hd;obtain⟨y,hy,rfl⟩:=hd;refine⟨_,rfl,?_⟩;and_intros;refine⟨ds,x,y,rfl,c.rules,b,?_⟩;and_intros;refine⟨es,x,y,rfl,re.rules,b,?_⟩;have n1:=sW c x y;have n2:=sW re x y;refine eqk n1.shaped n2.shaped n1.nod n2.nod (yJ (λ_=>?_) λ_=>zy (zy ⟨_,rfl⟩));and_intros;exact o x y
  .rintro O ⟨a,rfl⟩;exact zy ⟨_,_,rfl⟩
 .rintro O ⟨e,a,rfl⟩;and_intros;exact p
def za5 (ds:List Aa)(n:Nat):L2.cutD ds (some ((n:Nat):Int)) none=ds.drop n:=by rw[vA _ (yo0 _),yf0]
def za8 {C:Ad}(F:FnD K mg "tidied" zD5 ["book"])(nb:NbT mg)(m:Cal P w K mg base "unlike" 4 (zz2 C cs))(j:vp P w K mg base "Book" 9 [] (wV C cs))(n:xp P w K mg base C "rules" 3 (vH C cs)):Cal P w K mg base "tidied" 11 (cX C cs):=by
 refine zL ["book","rules","left","place","rule"] F λ_ _ l _ _ _ _ _ Q nd hr h=>?_;obtain⟨ds,rfl,b,k,q⟩:=h;and_intros;refine⟨b.rules,by lia,?_⟩;and_intros;refine zR (.many [3,4]) (sT (by rfl) nb.enumerate (zj 1 rfl ⟨_,rfl,zC (λi O=>∃ls f g,zo ls/\ls.length<=i/\O=[some (.dat (zA C cs ds)),some (.dat (.list ds)),some (.own ls),f,g]) ⟨[],none,none,zo.nil,z82 _,rfl⟩ ?_ ?_⟩))
 .rintro i d O hd ⟨ls,f,g,a,c,rfl⟩;obtain⟨e,he,rfl⟩:=xF hd;have hi:=(z81.mp he).1;refine⟨_,rfl,?_⟩;have rc:zo (ls++ds.drop (i+1)):=a.app λd z=>b d (yg3 z);have lc:(ls++ds.drop (i+1)).length<=15:=by rw[z95,yj9];lia
  refine wR (oy 2 rfl (ny ?_));and_intros;rw[show(((0+i:Nat):Int)+1)=((i+1:Nat):Int) by lia,za5];refine⟨by rw[z95]at lc;lia,?_⟩;and_intros;refine⟨ls++ds.drop (i+1),.inl rfl,rc.rules,by lia,?_⟩;and_intros;refine⟨ds,ls++ds.drop (i+1),rfl,b,rc,by lia,?_,λx day=>?_⟩
  .exact yu rfl (zy (zy ⟨ls,_,_,a,by lia,rfl⟩))
  .exact sI rfl (vv 2 rfl (zj 4 rfl ⟨by lia,zy (zy ⟨ls++[e],_,_,a.snoc (b e (yb6 he)),by rw[z95];exact Nat.add_le_add_right c 1,rfl⟩)⟩))
 .rintro O ⟨ls,f,g,a,c,rfl⟩;rw[xG]at c;refine tH 2 rfl ?_;and_intros;exact⟨ls,.inl rfl,a.rules,by lia,q ls a c⟩
def zn2 {C:Ad}(F:FnD K mg "_law_other" zZ4 ["_law_tape_here","_law_book","_law_base","_law_days"])(nb:NbT mg)(f:Cal P w K mg base "_law_draw" 1 xw)(o:Cal P w K mg base "_law_worth" 3 qt)(n:Cal P w K mg base "tidied" 11 (cX C cs))(p:vp P w K mg base "Book" 9 [] (wV C cs))(G:xp P w K mg base C "rules" 3 (vH C cs))(l:Cal P w K mg base "laid" 11 (zh0 C cs)):Cal P w K mg base "_law_other" 12 (zD0 C cs):=by
 refine zL ["_law_tape_here","_law_book","_law_base","_law_days","_law_rules_here","_law_at","_law_way","_law_word","_law_first"] F λ_ _ y _ _ _ _ _ Q nd hr h=>?_;obtain⟨ds,bs,s,rfl,⟨A,E,z,B⟩,c,ld,q⟩:=h;have g:1000<big:=by decide
 have rc:∀lo hi,zo (L2.cutD ds lo hi)/\(L2.cutD ds lo hi).length<=ds.length:=λlo hi=>⟨λd hd=>c d (oJ hd),nG⟩;and_intros;refine⟨c.rules,by lia,yr 5 nd (vV f (hr.mono (by decide)) (by rfl) (uG 0 rfl (zq (wJ (qH (by rfl) nb.len (zj 4 rfl ⟨_,rfl,yq ⟨_,_,rfl,rfl,zz ⟨_,rfl,by lia,by lia,λv v0 v1=>?_⟩⟩⟩))))))⟩;and_intros;refine yJ (λ_=>?_) (λ_=>zy ?_)
 .and_intros;exact⟨c,by lia,λes re le=>q es re (by lia)⟩
 and_intros;refine yJ (λ_=>?_) (λ_=>zy ?_)
 .and_intros;obtain⟨a,l1⟩:=rc (some v) none;obtain⟨b,l2⟩:=rc none (some v);refine⟨by lia,?_⟩;and_intros;exact⟨_,.inl rfl,(a.app b).rules,by rw[z95];lia,q _ (a.app b) (by rw[z95];lia)⟩
 and_intros;refine yJ (λ_=>?_) (λ_=>zy ?_)
 .and_intros;obtain⟨a,l1⟩:=rc none (some v);obtain⟨b,l2⟩:=rc (some (v+1)) none;refine⟨by lia,?_⟩;and_intros;exact⟨_,.inl rfl,(a.app b).rules,by rw[z95];lia,q _ (a.app b) (by rw[z95];lia)⟩
 and_intros;refine kf (λd=>∃x,d=.str x/\x∈words) rfl (by assumption) (by assumption) ?_ ?_
 .repeat refine⟨⟨_,rfl,by simp[words]⟩,?_⟩
  trivial
 rintro _ ⟨i,rfl,hw⟩;refine yr 8 nd (wJ (zj 2 rfl (vV f (hr.mono (by decide)) (by rfl) (uG 0 rfl (zq (wJ (zj 3 rfl (yq ⟨_,_,rfl,rfl,zz ⟨_,rfl,by lia,by lia,λu D r=>⟨_,_,rfl,rfl,?_⟩⟩⟩))))))));and_intros;rename_i t t0 t1;refine⟨hw,λd j k m=>?_⟩;have e:zo [.tuple [.str i,.int (bs+u),.int (bs+u+t),d]]:=zo.nil.snoc (vh.of hw (by lia) (by lia) (by lia) j k m);and_intros;refine⟨[.tuple [.str i,.int (bs+u),.int (bs+u+t),d]],.inl rfl,e.rules,by simp,?_⟩;and_intros;exact⟨ds,_,rfl,c,e,by show ds.length+1<=24;lia,q _ (c.app e) (by rw[z95];show ds.length+1<=12;lia)⟩
theorem eN {C:Ad}(F:FnD K mg "_law_cost" zl7 ["_law_book","_law_stay_here"])(d:Cal P w K mg base "can_be_had" 4 (nY C cs))(b:Cal P w K mg base "cost" 6 (kC C cs)):Cal P w K mg base "_law_cost" 7 (z29 C cs):=by
 refine zL ["_law_book","_law_stay_here"] F λ_ _ _ _ _ _ _ _ Q nd hr h=>?_;obtain⟨ds,c,g,rfl,a,sb,q⟩:=h;and_intros;refine⟨ds,c,g,rfl,a,sb,?_⟩;unfold coO at q;cases e:ur ds c g with
 |false=>
  rw[e]at q;and_intros;exact q
 |true=>
  rw[e]at q;and_intros;exact⟨ds,c,g,rfl,a,sb,e,q⟩
end
abbrev nu :An:=top 88
noncomputable abbrev nLa :List Str:=["_law_script","_law_tape_here","_law_days","_law_base","_law_one","_law_other_here","_law_told","_law_back","_law_stay_here","_law_mine","_law_theirs","_law_more","_law_at","_law_here","_law_there"]
def zZ3 :zZ nLa ["_law_script"] (zh nu):=.o
def zJ8 (a b:Int)(x y:Option Int):SeqAt.shaped (.tuple [.tuple [.int a,.int b],oD x,oD y])=true/\(PyData.tuple [.tuple [.int a,.int b],oD x,oD y]).hasDict=false/\(PyData.tuple [.tuple [.int a,.int b],oD x,oD y]).canLay0=true:=by
 cases x<;>cases y<;>exact⟨rfl,rfl,rfl⟩
def zx8 {ds es:List Aa}(h:Apt ds es none)(A D:List (List Aa)):coB (A++ds::D)=coB (A++es::D):=by
 funext n b e
 unfold coB;by_cases sb:yf b e
 .rw[if_pos sb,if_pos sb];have key:coO ds b e=coO es b e:=by
   obtain⟨a,be,c,d⟩:=sb;have:=h (e-b).toNat (by lia) (by lia) b a (by lia)
   rwa [show b+((e-b).toNat:Int)=e by lia]at this
  rcases yr6 n A.length with z|z|z
  .simp only[z85,ye4 z]
  .subst z;simp only[z85,ye7 (z82 _),Nat.sub_self,List.getElem?_cons_zero,Option.getD_some];exact key
  .obtain⟨k,hk⟩:∃k,n-A.length=k+1:=⟨n-A.length-1,by lia⟩;simp only[z85,ye7 (yd3 z),hk,yn7]
 .rw[if_neg sb,if_neg sb]
def dE {ds es:List Aa}(h:Apt ds es none)(A D:List (List Aa))(c g:Int):bestOf (A++ds::D) c g=bestOf (A++es::D) c g:=by
 show qD (coB _) _ c g=qD (coB _) _ c g;rw[zx8 h,z95,z95];rfl
def aT {x y:Option Int}{Q:Bool->Prop}(h:Q (decide (x=y))):oe (oD x) (oD y) Q:=eqk (yO x).1 (yO y).1 (yO x).2 (yO y).2 (by rw[zc5];exact h)
section
variable {P:Ag}{w:Ak}{K:Ae}{mg:Str->Option Ab}{base:Ao}{cs:Cs}
theorem zR2 {f fT C:Ad}{fd j:Ap}(F:Fun K "law" "law" nu f fd)(nb:NbT mg)(GT:yM P w K mg base CX0 1 fT j ["_law_script"] (kY K))(I:mg "_law_tape"=some (.ref fT))(Q:PySem.W.keepIn K (.ref fT)=true)(B:Binds K j ["_law_script"] [])
  (CD:Cal P w K mg base "_law_draw" 1 xw) (CR:Cal P w K mg base "_law_rules" 5 sX) (CK:vp P w K mg base "Book" 9 [] (wV C cs)) (CO:Cal P w K mg base "_law_other" 12 (zD0 C cs)) (Y:Cal P w K mg base "apart" 7 (zD9 C cs)) (Z:Cal P w K mg base "_law_cost" 7 (z29 C cs)) (CB:Cal P w K mg base "_law_books" 11 (iW C cs)) (CS:Cal P w K mg base "_law_stay" 2 zh2) (J:Cal P w K mg base "best" 9 (zb2 C cs)) (CL:Cal P w K mg base "lets_by" 10 (bW C cs)):
  yM P w K mg base CX0 14 f fd ["_law_script"] (mz K):=by
 refine z50 (k:=12) F zZ3 GT I Q B rfl rfl (Or.inl rfl) (Or.inl rfl) (λcdv A' outer s H E hr=>?_);have nd:=zZ3.nd;and_intros;refine kf (λd=>∃b:Int,d=.int b/\0<=b/\b<=999980) rfl (by assumption) (by assumption) ⟨⟨_,rfl,by lia,by lia⟩,⟨_,rfl,by lia,by lia⟩,⟨_,rfl,by lia,by lia⟩,trivial⟩ ?_;rintro _ ⟨b,rfl,L,G⟩;rename_i v1 a1 e1 v2 a2 V X T U;have bd:Bd b (2+v1):=⟨L,G,by lia,by lia⟩;generalize 2+v1=dy at bd;clear a1 e1 a2 V T U;and_intros;refine⟨b,dy,rfl,bd,λrs R l1 lr=>?_⟩;and_intros;have e:zo (L2.cutD rs none (some 6)):=λd hd=>R d (oJ hd);have ld:(L2.cutD rs none (some 6)).length<=6:=by rw[pW _ (by decide),yc3];exact Nat.min_le_left _ _
 generalize L2.cutD rs none (some 6)=ds at e ld;refine⟨ds,.inl rfl,e.rules,by lia,?_⟩;and_intros;refine⟨ds,b,dy,rfl,bd,e,ld,λes re le=>?_⟩;and_intros;refine⟨ds,es,rfl,e,re,by lia,by lia,λN p1=>?_⟩;and_intros;refine⟨es,ds,rfl,re,e,by lia,by lia,λq2 p2=>?_⟩;obtain rfl:=zu4 p1 (cL p2);cases N with
 |some q=>
  obtain⟨n,c⟩:=q;have p1:zp7 ds es n c:=p1;have sb:yf c (c+n):=⟨p1.lo,by have:=p1.n1;lia,by have:=p1.n2;lia,p1.hi⟩;rw[show zc3 ds es (some (n,c))=.tuple [.tuple [.int c,.int (c+n)],oD (coO ds c (c+n)),oD (coO es c (c+n))]from rfl,show zc3 es ds (some (n,c))=.tuple [.tuple [.int c,.int (c+n)],oD (coO es c (c+n)),oD (coO ds c (c+n))]from rfl];obtain⟨s1,s2,s3⟩:=zJ8 c (c+n) (coO es c (c+n)) (coO ds c (c+n));refine wR (ny (zj 6 rfl (sI rfl ?_)));refine zx0 (pat:=.many [8,9,10]) (ve (n:=3) (K:=K) rfl rfl (xo (zQ (i:=8) nd rfl (Or.inl rfl)) (xo (zQ (i:=9) nd rfl (Or.inl rfl)) (xo (zQ (i:=10) nd rfl (Or.inl rfl)) uL)))) (zj 6 rfl ⟨_,rfl,?_⟩);and_intros;refine eqk s1 s1 s2 s2 (iX (show(!PyData.eqv (.tuple [.tuple [.int c,.int (c+n)],oD (coO es c (c+n)),oD (coO ds c (c+n))]) (.tuple [.tuple [.int c,.int (c+n)],oD (coO es c (c+n)),oD (coO ds c (c+n))]))=false by rw[SeqAt.eqv_refl _ s3];rfl) ?_);and_intros;refine aT ?_;refine yu (ya3 p1.ne) ?_;and_intros;refine⟨ds,c,c+n,rfl,e,sb,?_⟩;and_intros;refine aT ?_;rw[ya9 (rfl:coO ds c (c+n)=coO ds c (c+n))];and_intros;refine⟨es,c,c+n,rfl,re,sb,?_⟩;and_intros;refine aT ?_;rw[ya9 (rfl:coO es c (c+n)=coO es c (c+n))]
 |none=>
  rw[show zc3 ds es none=.none from rfl,show zc3 es ds none=.none from rfl];and_intros;refine⟨b,dy,rfl,bd,λBs t p m dl=>?_⟩;and_intros;rw[show L2.cutD (Bs.map (zA C cs)) none (some 2)=(Bs.take 2).map (zA C cs) by rw[pW _ (by decide),<-List.map_take]<;>rfl];have mo:yb (Bs.take 2):=λd hd=>t d (yd8 hd);have y:(Bs.take 2).length<=2:=by rw[yc3];lia
  generalize Bs.take 2=Ms at mo y;clear t p m dl;have u:(1000:Int)<big:=by decide
  refine⟨by lia,by rw[z77];lia,λv v0 v1=>?_⟩;have a:∀ds:List Aa,L2.cutD (Ms.map (zA C cs)) none (some v)++[zA C cs ds]++L2.cutD (Ms.map (zA C cs)) (some v) none=(Ms.take v.toNat++ds::Ms.drop v.toNat).map (zA C cs):=λds=>by
   rw[pW _ v0,vA _ v0];simp
  have ok:∀{ds:List Aa},zo ds->yb (Ms.take v.toNat++ds::Ms.drop v.toNat)/\(Ms.take v.toNat++ds::Ms.drop v.toNat).length<=8:=λ{ds} e=>⟨λx D=>by
   rcases ya8.mp D with z|z
   .exact mo x (yd8 z)
   .rcases z84.mp z with rfl|z
    .exact e
    .exact mo x (yg3 z),by
   rw[z95,ya1,yc3,yj9]
   lia⟩
  have bs:∀c g,bestOf (Ms.take v.toNat++ds::Ms.drop v.toNat) c g=bestOf (Ms.take v.toNat++es::Ms.drop v.toNat) c g:=λc g=>dE p1 _ _ c g;have l:∀{lo hi},(L2.cutD (Ms.map (zA C cs)) lo hi).length<=2:=λ{lo hi}=>z93 nG (by rw[z77];exact y);and_intros;refine⟨b,dy,rfl,bd,λc g sb=>?_⟩;have l1:(L2.cutD (Ms.map (zA C cs)) none (some v)).length+1<=1000:=by have:=l (lo:=none) (hi:=some v);lia
  have l2:∀d:Aa,(L2.cutD (Ms.map (zA C cs)) none (some v)++[d]).length+(L2.cutD (Ms.map (zA C cs)) (some v) none).length<=1000:=λd=>by have:=l (lo:=none) (hi:=some v);have:=l (lo:=some v) (hi:=none);rw[z95];show _+1+_<=_;lia
  and_intros;refine⟨l1,?_⟩;and_intros;refine⟨l2 _,?_⟩;and_intros;refine⟨_,c,g,congrArg (λz=>[A.dat (.list z),_]) (a ds),(ok e).1,(ok e).2,sb,λS=>?_⟩;and_intros;refine⟨l1,?_⟩;and_intros;refine⟨l2 _,?_⟩;and_intros;refine⟨_,c,g,congrArg (λz=>[A.dat (.list z),_]) (a es),(ok re).1,(ok re).2,sb,λS'=>?_⟩;obtain⟨o,tr,M,hw⟩:∃(o:Str) (tr:List Aa),bestOf (Ms.take v.toNat++es::Ms.drop v.toNat) c g=.tuple (.str o::tr)/\(o="had"->∃x r,tr=.int x::r):=by
   rcases qw (ok re).1 sb with⟨x,ps,pp,h⟩|⟨ds,h⟩
   .exact⟨_,_,h.eq,λ_=>⟨_,_,rfl⟩⟩
   .exact⟨_,_,h.eq,λz=>absurd z (by decide +kernel)⟩
  rw[bs c g];refine xP (λO=>O=[none,some .tape,some (.dat (.int dy)),some (.dat (.int b)),some (.dat (zA C cs ds)),some (.dat (zA C cs es)),some (.dat .none),some (.dat .none),some (.dat (.tuple [.int c,.int g])),none,none,some (.dat (.list (Ms.map (zA C cs)))),some (.dat (.int v)),some (.dat (bestOf (Ms.take v.toNat++es::Ms.drop v.toNat) c g)),some (.dat (bestOf (Ms.take v.toNat++es::Ms.drop v.toNat) c g))]) ?_ ?_
  .rw[M];and_intros;refine iX (by simp) ?_;and_intros;refine pO (λh=>?_) (λ_=>?_)
   .obtain⟨x,r,rfl⟩:=hw (yo8 h);and_intros;refine yu (by simp) ?_;and_intros;rfl
   .and_intros;rfl
  rintro O rfl;and_intros;refine⟨l1,?_⟩;and_intros;refine⟨l2 _,?_⟩;and_intros;refine⟨_,c,g,congrArg (λz=>[A.dat (.list z),_,_]) (a es),(ok re).1,(ok re).2,sb,?_⟩;and_intros;refine⟨l1,?_⟩;and_intros;refine⟨l2 _,?_⟩;and_intros;refine⟨_,c,g,(congrArg (λz=>[A.dat (.list z),_,_]) (a ds)).trans (congrArg (λz=>[_,_,A.dat z]) (bs c g).symm),(ok e).1,(ok e).2,sb,?_⟩;and_intros;rfl
end
def us1 {O:Type}{p:List O->Prop}(h:∀a,p [a])(us:List O)(b:us.length=1):p us:=by
 obtain⟨a,rfl⟩:=List.length_eq_one_iff.mp b;exact h a
theorem us2 {O:Type}{p:List O->Prop}(h:∀a b,p [a,b])(us:List O)(c:us.length=2):p us:=by
 cases us with
 |nil=>cases c
 |cons a us=>exact us1 (p:=λus=>p (a::us)) (h a) us (Nat.succ.inj c)
theorem us3 {O:Type}{p:List O->Prop}(h:∀a b c,p [a,b,c])(us:List O)(d:us.length=3):p us:=by
 cases us with
 |nil=>cases d
 |cons a us=>exact us2 (p:=λus=>p (a::us)) (h a) us (Nat.succ.inj d)
theorem us4 {O:Type}{p:List O->Prop}(h:∀a b c d,p [a,b,c,d])(us:List O)(e:us.length=4):p us:=by
 cases us with
 |nil=>cases e
 |cons a us=>exact us3 (p:=λus=>p (a::us)) (h a) us (Nat.succ.inj e)
theorem us5 {O:Type}{p:List O->Prop}(h:∀a b c d e,p [a,b,c,d,e])(us:List O)(f:us.length=5):p us:=by
 cases us with
 |nil=>cases f
 |cons a us=>exact us4 (p:=λus=>p (a::us)) (h a) us (Nat.succ.inj f)
def FnF (K:Ae)(f:Ad)(nm a:Str)(st:An)(ps:List Str):Prop:=∃fd,Fun K nm a st f fd/\Binds K fd ps []
section
variable {K:Ae}{h0:Ao}{mg:Str->Option Ab}{f:Ad}{nm ql:Str}{st:An}{ps:List Str}{oc kV dc pm cd ct:Ab}{od an:Option Ad}{sl:Array (Option Ab)}
def mkF (l:K.lookup f=some ⟨oc,od,.func (PySem.W.fnOf nm ql (zT st) (zw st) (zh st) .none kV dc pm an cd ct),sl⟩)(c:PySem.W.codeIn K cd ql=true)(k:PySem.W.keepIn K (.ref f)=true)
  (hb:∀(kV doc pm:Ab) (an:Option Ad) (cdv ct:Ab) (us:List Ab),us.length=ps.length->bindArgs (PySem.W.fnOf nm ql (zT st) (zw st) (zh st) .none kV doc pm an cdv ct) ⟨us,[]⟩=pure (ps.zip us):=by intro _ _ _ _ _ _;first|exact K95.us1 λ_=>rfl|exact K95.us2 λ_ _=>rfl|exact K95.us3 λ_ _ _=>rfl|exact K95.us4 λ_ _ _ _=>rfl|exact K95.us5 λ_ _ _ _ _=>rfl):FnF K f nm ql st ps:=⟨_,ni l c k,(ni l c k).binds hb⟩
def mkG (X:K.In h0)(G:h0.Ns Ai mg)(a:PySem.W.nsIn K Ai nm=some (some (.ref f)))(q:FnF K f nm nm st ps):FnD K mg nm st ps:=by
 obtain⟨_,F,b⟩:=q;exact⟨f,_,F,yc7 X G a,b⟩
end
def mkR {K:Ae}{C b gt ge a:Ad}(pg:PySem.W.plainGet K C Str.empty=true)(hd:PySem.W.hasDictIn K C=true)(po:PySem.W.plainOver K C=true)(sa:PySem.W.findIn K (.ref C) "__setattr__"=some (some (.builtin "object.__setattr__")))(n1:PySem.W.findIn K (.ref C) "first"=some none)(n2:PySem.W.findIn K (.ref C) "last"=some none)(c:PySem.W.findIn K (.ref C) "worth"=some none)(mk:PySem.W.makesIn K C=true)(f1:PySem.W.findIn K (.ref C) "__init__"=some (some (.ref b)))(i1:PySem.W.isFn K (.ref b)=true)(e:PySem.W.keepIn K (.ref C)=true)(f2:PySem.W.findIn K (.ref C) "told"=some (some (.ref gt)))(i2:PySem.W.isFn K (.ref gt)=true)(f:PySem.W.keepIn K (.ref gt)=true)(d:PySem.W.findIn K (.ref C) "tells"=some (some (.ref ge)))(i3:PySem.W.isFn K (.ref ge)=true)(g:PySem.W.keepIn K (.ref ge)=true)(f4:PySem.W.findIn K (.ref C) "word"=some (some (.ref a)))(h:PySem.W.isFn K (.ref a)=true)(i:PySem.W.keepIn K (.ref a)=true):sH K C b gt ge a:=⟨⟨pg,hd,po,sa⟩,n1,n2,c,⟨mk,f1,i1,e⟩,⟨f2,i2,f⟩,⟨d,i3,g⟩,⟨f4,h,i⟩⟩
theorem fU {K:Ae}{dT:Ad}{oc kV doc pm cdv ct:Ab}{od an:Option Ad}{n:Nat}{sl:Array (Option Ab)}(b:K.lookup dT=some ⟨oc,od,.seq #[.none] n,sl⟩):
  Binds K (PySem.W.fnOf "__init__" "Book.__init__" (zT xv) (zw xv) (zh xv) (.ref dT) kV doc pm an cdv ct) ["self","rules"] [.none]:=λs us hk a=>by
 match us,(show us.length=1 by rw[z95]at a;simpa using a)with
 |[u],_=>exact BindsTo.of_defaults (T:=dT) rfl (hk _ _ b) rfl rfl rfl
theorem dI {K:Ae}{dT:Ad}{oc kV doc pm cdv ct:Ab}{od an:Option Ad}{n:Nat}{sl:Array (Option Ab)}(b:K.lookup dT=some ⟨oc,od,.seq #[.none] n,sl⟩):
  Binds K (PySem.W.fnOf "__init__" "Book.__init__" (zT xv) (zw xv) (zh xv) (.ref dT) kV doc pm an cdv ct) ["self","rules"] []:=λs us hk a=>by
 rw[ye3]at a ⊢
 match us,a with
 |[u,v],_=>exact BindsTo.of_defaults (T:=dT) rfl (hk _ _ b) rfl rfl rfl
def zs0 {P:Str->Prop}(h1:P "price")(h2:P "come")(h3:P "go")(e:P "least")(c:P "most")(d:P "deal")(b:P "fee"):∀u∈words,P u:=by
 intro u a;simp only[words,z84,ya5,yc8]at a;rcases a with rfl|rfl|rfl|rfl|rfl|rfl|rfl<;>assumption
def all_mk {l:PySem.W.OpenLaw}{w:Ak}{K:Ae}{h:Ao}{mg:Str->Option Ab}{fa cC l2 m5 p m g b5 c9 j2 b2 d0 d2 e5 a d V b c f q CB dT k Y S dU:Ad}(X:K.In h)(G:h.Ns Ai mg)(z0:mg "law"=some (.ref fa))
  {o2 n3 p9 l8 r7 x4 v0:Option Ad} {o0 p5 t4 v6:Array (Option Ab)} {q6 n9 q5 n6 q0 o1 l4 l9 l5 l6 h7 y8 kVB w7 x5 x3 o4 v4:Ab} {m0 k2 n7 p0 n4 w3 y6 r6 r8 u2 w5 tu7 r4 y1 o9:Tok} {p2 n8 n5 q3 p8 q2 q7:Int} {nT nU:Nat}
  (Z:FnD K mg "is_whole" bD ["thing"])
  (F:FnD K mg "is_whole_within" gr ["thing","lowest","highest"])
  (d7:FnD K mg "is_pair" zz1 ["thing"])
  (f7:FnD K mg "is_day" z02 ["thing"])
  (H:FnD K mg "is_pair_of_days" zC2 ["thing"])
  (a5:FnD K mg "is_stretch" lB ["thing"])
  (c7:FnD K mg "is_coins" zi0 ["thing"])
  (d5:FnD K mg "is_deal" iY ["thing"])
  (d4:FnD K mg "is_worth" zg9 ["word","thing"])
  (e0:FnD K mg "is_rule" fb ["thing"])
  (j4:FnD K mg "made" zA0 ["word","first","last","worth"])
  (e3:FnD K mg "rule_of" iH ["thing"])
  (c3:FnD K mg "nights_of" gh ["stay"])
  (s0:PySem.W.nsIn K Ai "cheapest_first"=some (some (.ref l2)))
  (o3:K.lookup l2=some ⟨q6,o2,.func (PySem.W.fnOf "cheapest_first" "cheapest_first" (zT yL) (zw yL) (zh yL) .none n9 q5 n6 n3 (.ref cC) q0),o0⟩)
  (q9:PySem.W.codeIn K (.ref cC) "cheapest_first"=true)
  (n2:PySem.W.keepIn K (.ref l2)=true)
  (f9:FnD K mg "marked" uT ["prices","deal"])
  (a0:FnD K mg "night_prices" sNP ["book","nights"])
  (k5:FnD K mg "bill" qA ["book","stay"])
  (j5:FnD K mg "bars" kn ["book","stay"])
  (a3:FnD K mg "can_be_had" zV7 ["book","stay"])
  (k0:FnD K mg "cost" zA1 ["book","stay"])
  (a1:FnD K mg "cost_or_none" zV0 ["book","stay"])
  (d1:FnD K mg "turns_by" sTb ["rule","many"])
  (h1:FnD K mg "turns" sTn ["rules","many"])
  (g8:FnD K mg "apart" zS0 ["one","other"])
  (i2:FnD K mg "usual" zk7 ["word"])
  (a6:FnD K mg "kept_rules" zz9 ["things"])
  (k4:FnD K mg "laid" zE0 ["elder","newer"])
  (c8:FnD K mg "arrivals" zU2 ["books","ways","day"])
  (a8:FnD K mg "least_ways" sLW ["books","stay"])
  (g3:FnD K mg "cut_of" zi7 ["ways","stay"])
  (d3:FnD K mg "paper_of" bB ["ways","stay"])
  (j7:FnD K mg "best" zD3 ["books","stay"])
  (e1:FnD K mg "is_part" iU ["books","stay","thing"])
  (g1:FnD K mg "is_cut" bX ["books","stay","thing"])
  (c2:FnD K mg "cut_coins" zB3 ["books","cut"])
  (A:FnD K mg "is_list_of_wholes" zX2 ["thing"])
  (U:FnD K mg "costs_no_less" zW0 ["books","stay","coins"])
  (z:FnD K mg "no_part_costs_less" zZ9 ["books","stay","paper"])
  (f4:FnD K mg "is_had" za7 ["books","stay","coins","cut","paper"])
  (b7:FnD K mg "leads_out" zg2 ["books","day","go","days"])
  (N:FnD K mg "is_rising_from" iQ ["days","first"])
  (g4:FnD K mg "is_off" zi1 ["books","stay","days"])
  (d8:FnD K mg "lets_by" zE5 ["books","stay","thing"])
  (i5:FnD K mg "edges" zf4 ["rules","word"])
  (g5:FnD K mg "unlike" zT0 ["one","other"])
  (e8:FnD K mg "tidied" zD5 ["book"])
  (c1:FnD K mg "_law_tape" pe ["_law_script"])
  (b8:FnD K mg "_law_draw" bF ["_law_tape_here","_law_many"])
  (a4:FnD K mg "_law_coins" gX ["_law_tape_here"])
  (a7:FnD K mg "_law_worth" iA ["_law_tape_here","_law_word"])
  (D:FnD K mg "_law_price_rules" gu ["_law_tape_here","_law_base","_law_days"])
  (E:FnD K mg "_law_other_rules" iE ["_law_tape_here","_law_base","_law_days"])
  (a2:FnD K mg "_law_rules" iF ["_law_tape_here","_law_base","_law_days"])
  (c5:FnD K mg "_law_stay" zC0 ["_law_tape_here","_law_base","_law_days"])
  (a9:FnD K mg "_law_books" gF ["_law_tape_here","_law_base","_law_days"])
  (b0:FnD K mg "_law_other" zZ4 ["_law_tape_here","_law_book","_law_base","_law_days"])
  (c0:FnD K mg "_law_cost" zl7 ["_law_book","_law_stay_here"])
  (x9:PySem.W.nsIn K Ai "law"=some (some (.ref m5)))
  (y7:K.lookup m5=some ⟨o1,p9,.func (PySem.W.fnOf "law" "law" (zT nu) (zw nu) (zh nu) .none l4 l9 l5 l8 h7 l6),p5⟩)
  (r5:PySem.W.codeIn K h7 "law"=true)
  (w1:PySem.W.keepIn K (.ref m5)=true)
  (h2:PySem.W.nsIn K Ai "Price"=some (some (.ref a)))
  (k6:PySem.W.nsIn K Ai "Come"=some (some (.ref d)))
  (q1:PySem.W.nsIn K Ai "Go"=some (some (.ref V)))
  (i0:PySem.W.nsIn K Ai "Least"=some (some (.ref b)))
  (k1:PySem.W.nsIn K Ai "Most"=some (some (.ref c)))
  (k3:PySem.W.nsIn K Ai "Deal"=some (some (.ref f)))
  (m6:PySem.W.nsIn K Ai "Fee"=some (some (.ref q)))
  (C:sH K a p m g b5)
  (R:sH K d p m g c9)
  (e7:sH K V p m g j2)
  (B:sH K b p m g b2)
  (T:sH K c p m g d0)
  (Q:sH K f p m g d2)
  (b1:sH K q p m g e5)
  (k7:FnF K p "__init__" "Rule.__init__" zF1 ["self","first","last","worth"])
  (j9:FnF K m "told" "Rule.told" zB6 ["self"])
  (h3:FnF K g "tells" "Rule.tells" zj3 ["self","day"])
  (g7:FnF K b5 "word" "Price.word" zs7 ["self"])
  (h4:FnF K c9 "word" "Come.word" zP2 ["self"])
  (n1:FnF K j2 "word" "Go.word" z59 ["self"])
  (f0:FnF K b2 "word" "Least.word" zp3 ["self"])
  (i6:FnF K d0 "word" "Most.word" zN5 ["self"])
  (j1:FnF K d2 "word" "Deal.word" zL4 ["self"])
  (k9:FnF K e5 "word" "Fee.word" zW5 ["self"])
  (s4:PySem.W.nsIn K Ai "Book"=some (some (.ref CB)))
  (f1:PySem.W.findIn K (.ref CB) "__init__"=some (some (.ref k)))
  (f6:PySem.W.isFn K (.ref k)=true)
  (i9:K.lookup k=some ⟨y8,r7,.func (PySem.W.fnOf "__init__" "Book.__init__" (zT xv) (zw xv) (zh xv) (.ref dT) kVB w7 x5 x4 o4 x3),t4⟩)
  (h0:PySem.W.codeIn K o4 "Book.__init__"=true)
  (h6:PySem.W.keepIn K (.ref k)=true)
  (lT:K.lookup dT=some ⟨v4,v0,.seq #[.none] nT,v6⟩)
  (d6:PySem.W.findIn K (.ref CB) "rules"=some (some (.ref Y)))
  (e2:PySem.W.isFn K (.ref Y)=true)
  (g6:FnF K Y "rules" "Book.rules" uA ["self"])
  (d9:PySem.W.findIn K (.ref CB) "tells_of"=some (some (.ref S)))
  (e4:PySem.W.isFn K (.ref S)=true)
  (g2:FnF K S "tells_of" "Book.tells_of" iu ["self","word","day"])
  (y4:PySem.W.plainGet K CB Str.empty=true)
  (r1:PySem.W.hasDictIn K CB=true)
  (r9:PySem.W.plainOver K CB=true)
  (w4:PySem.W.findIn K (.ref CB) "__setattr__"=some (some (.builtin "object.__setattr__")))
  (mkB:PySem.W.makesIn K CB=true)
  (u8:PySem.W.keepIn K (.ref CB)=true)
  (m9:PySem.W.findIn K (.ref CB) "kept"=some none)
  (z1:PySem.W.nsIn K Ai "abs"=some none)
  (z2:PySem.W.nsIn K Ai "list"=some none)
  (z3:PySem.W.nsIn K Ai "len"=some none)
  (z4:PySem.W.nsIn K Ai "range"=some none)
  (z5:PySem.W.nsIn K Ai "min"=some none)
  (z6:PySem.W.nsIn K Ai "max"=some none)
  (z7:PySem.W.nsIn K Ai "sorted"=some none)
  (z8:PySem.W.nsIn K Ai "isinstance"=some none)
  (z9:PySem.W.nsIn K Ai "int"=some none)
  (v9:PySem.W.nsIn K Ai "bool"=some none)
  (s1:PySem.W.nsIn K Ai "str"=some none)
  (t7:PySem.W.nsIn K Ai "tuple"=some none)
  (s7:PySem.W.nsIn K Ai "all"=some none)
  (z14:PySem.W.nsIn K Ai "any"=some none)
  (z15:PySem.W.nsIn K Ai "repr"=some none)
  (t3:PySem.W.nsIn K Ai "zip"=some none)
  (y2:PySem.W.nsIn K Ai "enumerate"=some none)
  (u0:PySem.W.nsIn K Ai "reversed"=some none)
  (t6:PySem.W.nsIn K Ai "sum"=some none)
  (z20:PySem.W.nsIn K Ai "set"=some none)
  (p4:PySem.W.nsIn K Ai "LAST_DAY"=some (some (.int 1000000 m0)))
  (m2:PySem.W.nsIn K Ai "MOST_NIGHTS"=some (some (.int 14 k2)))
  (t5:PySem.W.nsIn K Ai "MOST_COINS"=some (some (.int 1000000000000 n7)))
  (y3:PySem.W.nsIn K Ai "MOST_RULES"=some (some (.int 24 p0)))
  (v1:PySem.W.nsIn K Ai "MOST_RULES_APART"=some (some (.int 12 n4)))
  (aU:PySem.W.nsIn K Ai "USUAL"=some (some (.ref dU)))
  (lU:K.lookup dU=some ⟨.type "dict",none,.dict #[⟨p2,.str "price" w3,.none⟩,⟨n8,.str "come" y6,.bool true⟩,⟨n5,.str "go" r6,.bool true⟩,⟨q3,.str "least" r8,.int 1 r4⟩,⟨p8,.str "most" u2,.int 14 y1⟩,⟨q2,.str "deal" w5,.none⟩,⟨q7,.str "fee" tu7,.int 0 o9⟩] nU,#[]⟩)
  (t9:p2=hashStr w "price")
  (hh2:n8=hashStr w "come")
  (x7:n5=hashStr w "go")
  (w6:q3=hashStr w "least")
  (t0:p8=hashStr w "most")
  (w2:q2=hashStr w "deal")
  (x6:q7=hashStr w "fee")
  (hhd:PySem.W.codeHdIn K cC yH=true)
  (u6:(dU == sysModules)=false):
  ∃fd:Ap,(∀(s:Ac) (v:Ab),BindsTo s fd ⟨[v],[]⟩ [("_law_script",v)])/\∀base:Ao,K.In base->base.Ns Ai mg->base.BuiltinsAt mg yH->yM l.prog w K mg base CX0 14 fa fd ["_law_script"] (mz K):=by
 have e:=z0.symm.trans (yc7 X G x9);cases e;have nb:NbT mg:=⟨yb8 X G z1,yb8 X G z2,yb8 X G z3,yb8 X G z4,yb8 X G z5,yb8 X G z6,yb8 X G z7,yb8 X G z8,yb8 X G z9,yb8 X G v9,yb8 X G s1,yb8 X G t7,yb8 X G s7,yb8 X G z14,yb8 X G z15,yb8 X G t3,yb8 X G y2,yb8 X G u0,yb8 X G t6⟩;have h9:mg "set"=none:=yb8 X G z20;have O:mg "cheapest_first"=some (.ref l2):=yc7 X G s0;have M:=ni (st:=yL) o3 q9 n2;have L:=M.binds (ps:=["prices","places"]) λ_ _ _ _ _ _=>us2 λ_ _=>rfl;obtain⟨_,_,J,b6,c6⟩:=c1;obtain⟨_,_,I,c4,b9⟩:=b8;have g9:=ni (st:=nu) y7 r5 w1;have t1:=g9.binds (ps:=["_law_script"]) λ_ _ _ _ _ _=>us1 λ_=>rfl;obtain⟨_,r,y⟩:=k7;obtain⟨_,x,t⟩:=j9;obtain⟨_,j,i⟩:=h3;obtain⟨_,g0,f3⟩:=g7;obtain⟨_,i1,i7⟩:=h4;obtain⟨_,m4,n0⟩:=n1;obtain⟨_,f8,f5⟩:=f0;obtain⟨_,i8,i4⟩:=i6;obtain⟨_,i3,j0⟩:=j1;obtain⟨_,k8,j6⟩:=k9;obtain⟨_,b4,e9⟩:=g6;obtain⟨_,b3,f2⟩:=g2;have TT:zN6 mg:=⟨nb.abs,nb.list,nb.len⟩;refine⟨PySem.W.fnOf "law" "law" (zT nu) (zw nu) (zh nu) .none l4 l9 l5 l8 h7 l6,λs v=>.of_eq rfl,λbase KX _ hbi=>?_⟩;have j3:=yX (P:=l.prog) (w:=w) (base:=base) C (yc7 X G h2) r y;have m3:=yX (P:=l.prog) (w:=w) (base:=base) R (yc7 X G k6) r y;have u7:=yX (P:=l.prog) (w:=w) (base:=base) e7 (yc7 X G q1) r y;have l0:=yX (P:=l.prog) (w:=w) (base:=base) B (yc7 X G i0) r y;have m8:=yX (P:=l.prog) (w:=w) (base:=base) T (yc7 X G k1) r y;have m1:=yX (P:=l.prog) (w:=w) (base:=base) Q (yc7 X G k3) r y;have o7:=yX (P:=l.prog) (w:=w) (base:=base) b1 (yc7 X G m6) r y;have h8:=gK (P:=l.prog) (w:=w) (base:=base) Z nb;have l1:=jL F h8;have p1:=aJ (P:=l.prog) (w:=w) (base:=base) d7 nb;have s5:=dB f7 ⟨m0,yc7 X G p4⟩ l1;have u5:=mj a5 (aN H p1 s5);have w8:=mW c7 ⟨n7,yc7 X G t5⟩ l1;have v7:=kx d5 ⟨k2,yc7 X G m2⟩ p1 l1;have s9:=jn e0 nb u5 (lA d4 nb ⟨k2,yc7 X G m2⟩ l1 w8 v7);have r3:=jh e3 s9 (bG (cs:=⟨a,d,V,b,c,f,q⟩) j4 j3 m3 u7 l0 m8 m1 o7);have u1:=aY a6 nb ⟨p0,yc7 X G y3⟩ r3;have cB:Cls K CB:=⟨y4,r1,r9,w4⟩;have o5:=aX (zp5 (st:=xv) i9 h0 h6) cB m9 u1;have e6:mg "Book"=some (.ref CB):=yc7 X G s4;have p7:Mk K CB k:=⟨mkB,f1,f6,u8⟩;have h5:vp l.prog w K mg base "Book" 9 [] (wV CB ⟨a,d,V,b,c,f,q⟩):=⟨CB,k,_,_,_,e6,p7,dI lT,.nil,o5⟩;have CBk0:vp l.prog w K mg base "Book" 9 [.non] (wV CB ⟨a,d,V,b,c,f,q⟩):=⟨CB,k,_,_,_,e6,p7,fU lT,.cons rfl .nil,o5⟩;have OW:∀u∈words,xp l.prog w K mg base ((⟨a,d,V,b,c,f,q⟩:Cs).of u) "word" 1 (oQ ((⟨a,d,V,b,c,f,q⟩:Cs).of u) u):=zs0 (xk C g0 f3 .o rfl) (xk R i1 i7 .o rfl) (xk e7 m4 n0 .o rfl) (xk B f8 f5 .o rfl) (xk T i8 i4 .o rfl) (xk Q i3 j0 .o rfl) (xk b1 k8 j6 .o rfl);have OT:∀u∈words,xp l.prog w K mg base ((⟨a,d,V,b,c,f,q⟩:Cs).of u) "told" 2 (kD ((⟨a,d,V,b,c,f,q⟩:Cs).of u) u):=zs0 (xh C x t (OW _ (by simp[words]))) (xh R x t (OW _ (by simp[words]))) (xh e7 x t (OW _ (by simp[words]))) (xh B x t (OW _ (by simp[words]))) (xh T x t (OW _ (by simp[words]))) (xh Q x t (OW _ (by simp[words]))) (xh b1 x t (OW _ (by simp[words])));have DU:iP K w dU tbU:=⟨_,nU,lU,.cons ⟨t9,⟨_,rfl⟩,rfl⟩ (.cons ⟨hh2,⟨_,rfl⟩,rfl⟩ (.cons ⟨x7,⟨_,rfl⟩,rfl⟩ (.cons ⟨w6,⟨_,rfl⟩,⟨_,rfl⟩⟩ (.cons ⟨t0,⟨_,rfl⟩,⟨_,rfl⟩⟩ (.cons ⟨w2,⟨_,rfl⟩,rfl⟩ (.cons ⟨x6,⟨_,rfl⟩,⟨_,rfl⟩⟩ (.nil))))))),by decide +kernel⟩;have CU:=cy (P:=l.prog) (base:=base) i2 (yc7 X G aU) DU;have x8:∀u∈words,xp l.prog w K mg base ((⟨a,d,V,b,c,f,q⟩:Cs).of u) "tells" 1 (rE ((⟨a,d,V,b,c,f,q⟩:Cs).of u)):=zs0 (yx C j i) (yx R j i) (yx e7 j i) (yx B j i) (yx T j i) (yx Q j i) (yx b1 j i);have OC:∀u∈words,Cls K ((⟨a,d,V,b,c,f,q⟩:Cs).of u)/\yG K ((⟨a,d,V,b,c,f,q⟩:Cs).of u) "worth":=zs0 (⟨C.cl,C.nw⟩) (⟨R.cl,R.nw⟩) (⟨e7.cl,e7.nw⟩) (⟨B.cl,B.nw⟩) (⟨T.cl,T.nw⟩) (⟨Q.cl,Q.nw⟩) (⟨b1.cl,b1.nw⟩);have j8:=ja cB m9 ⟨d9,e4,b3.kp⟩ b3 f2 nb CU OW x8 OC;have MR:=jR cB m9 ⟨d6,e2,b4.kp⟩ b4 e9 OT;have CD:Cal l.prog w K mg base "_law_draw" 1 xw:=zk3 c4 I.kp b9 (zy2 I TT);have o6:=dO a4 CD;have CW:=dR a7 CD o6;have CPR:=kO D nb CD o6;have CO:=kH E nb CD CW;have p6:=jJ a2 CD CPR CO;have x2:=cZ c5 CD;have CN:=jF (P:=l.prog) (w:=w) (base:=base) c3 nb;have CC:Cal l.prog w K mg base "cheapest_first" 3 nc:=cG o3 q9 n2 O L nb hhd KX hbi;have v2:Cal l.prog w K mg base "marked" 4 rK:=jW f9 nb CC;have r0:=zQ4 a0 j8;have q8:=eM (zf6 k5 nb j8 CN r0 v2);have q4:=bR j5 CN j8;have l3:=zo9 a3 q4;have p3:=ae k0 q4 q8;have m7:=zt9 a1 l3 q8;have CAr:=zr2 c8 nb m7;have v3:=zJ5 a8 nb CAr;have s6:=zt8 (P:=l.prog) (w:=w) (base:=base) g3 nb;have t2:=dH (P:=l.prog) (w:=w) (base:=base) d3 nb;have u3:=zh8 j7 nb v3 s6 t2;have t8:=aF k4 h5 MR;have h8:=gK (P:=l.prog) (w:=w) (base:=base) Z nb;have v8:=zf5 e1 nb h8 l3;have u9:=ef g1 nb v8;have s8:=zJ0 c2 nb p3;have l7:=zn9 A nb h8;have x1:=zs4 U nb m7;have o8:=zr7 z nb x1;have y0:=di f4 nb h8 u9 s8 l7 o8;have x0:=eL b7 nb l3;have w9:=jX (P:=l.prog) (w:=w) (base:=base) N nb;have y5:=dz g4 nb l7 w9 x0;have CLB:=zc1 d8 nb y0 y5;have w0:=cx a9 nb CD p6 h5;have v5:=zG9 (P:=l.prog) (w:=w) (base:=base) d1 nb;have s3:=zP3 h1 nb h9 ⟨m0,yc7 X G p4⟩ v5;have CAp:=zw7 g8 nb ⟨k2,yc7 X G m2⟩ ⟨n4,yc7 X G v1⟩ MR s3 m7;have y9:=eB (P:=l.prog) (w:=w) (base:=base) i5 nb h9;obtain⟨_,DN⟩:∃n,rV K w dU tbU n:=by
  obtain⟨es,n,h⟩:=DU;exact⟨n,es,h⟩
 have r2:=zw9 g5 (yc7 X G aU) DN u6 y9 MR j8;have u4:=za8 e8 nb r2 h5 MR;have s2:=zn2 b0 nb CD CW u4 h5 MR t8;have CLC:=eN c0 l3 p3;exact zR2 g9 nb (zv3 J TT) b6 J.kp c6 CD p6 h5 s2 CAp CLC w0 x2 u3 CLB
def walk {l:PySem.W.OpenLaw}{q:Ag}{loose:List Str}{p:(Str->Option Ab)->Ao->Prop}{e:Ak->Ao->Prop}{d:DefRec}{K:Params->Ae}{c:Ad}(hn:l.most=some 63)(hdf:d.params.defaults=[])
  (r:∀(w:Ak) (h:Ao),e w h->(K w.params).In h) (g:∀(w:Ak) (h:Ao),e w h->h.get? yH=some (PySem.W.tabObj #[]))
  (i:∀w:Ak,(K w.params).lookup yH=none) (b:∀w:Ak,∃o vs,(K w.params).lookup c=some o/\o.cls=.type "code"/\o.data=.fields vs/\vs[11]?=some (.ref yH))
  (F:∀(w:Ak) (mg:Str->Option Ab) (j:Ad) (h:Ao),(K w.params).In h->h.Ns Ai mg->mg d.name=some (.ref j)->
   ∃fd:Ap,(∀(s:Ac) (u:Ab),BindsTo s fd ⟨[u],[]⟩ [("_law_script",u)])/\∀base:Ao,(K w.params).In base->base.Ns Ai mg->base.BuiltinsAt mg yH->yM l.prog w (K w.params) mg base CX0 14 j fd ["_law_script"] (mz (K w.params))):
  PySem.W.WalkO q loose p e l.row.toRowW d [] (λf vs=>PySem.call f vs):=
 L2.aR (n:=63) (k:=14) (x:="_law_script") (CX:=λ_=>CX0) (sp:=λw=>mz (K w.params)) hn (by decide) hdf ⟨rfl,by decide,by decide,rfl⟩ r g i b F (λ_ H a ns m _ v t=>⟨a,ns,rfl,t,m,⟨#[],v,trivial,λpos cv y=>by cases y⟩,λ_=>rfl⟩) λ_ _ _ _ _ z=>z
end K95
namespace PySem.W.Fast
def tw17777324553355264633:=Nat
def tw11881050500509346157:=Nat
def tw6267478973074739201:=Nat
def tw13015943278730791545:=Nat
def tw7292185741029510093:=Nat
def tw7116437054514627870:=Nat
def tw16473856026112385505:=Nat
def tw5203998430752342661:=Nat
def tw11756343746481871476:=Nat
def tw10514368057258302622:=Nat
def tw9454170181343725993:=Nat
def tw11116847630072959501:=Nat
def tw647244861774647717:=Nat
def tw8106100684239748488:=Nat
def tw13823613294333645519:=Nat
def tw9546866761585636545:=Nat
def tw1406085546344855511:=Nat
def tw5882282735420630721:=Nat
def tw4168355689479605230:=Nat
def tw14120192859407258234:=Nat
def tw10827199107014940475:=Nat
def tw11888224949164876371:=Nat
def tw1973439934783217847:=Nat
def tw4737832188164987464:=Nat
def tw15662591543136929382:=Nat
def tw3243444622553767246:=Nat
def tw570028860136979099:=Nat
def tw3763174031454499473:=Nat
def tw3143147104470429841:=Nat
def tw17392746146349697762:=Nat
def tw9227411592758258535:=Nat
def tw13606810658080585917:=Nat
def tw5520744123689676060:=Nat
def tw10974589612165044444:=Nat
def tw16628900375900011700:=Nat
def tw9435184361913755116:=Nat
def tw17798344785445451894:=Nat
def tw11517872342896782165:=Nat
def tw8620014439440310056:=Nat
def tw2261306097227990251:=Nat
def tw1010578919876813689:=Nat
def tw6804291234969568952:=Nat
def tw270962406116901560:=Nat
def tw741537839641382878:=Nat
def tw193988630983231105:=Nat
def tw2621860994469917296:=Nat
def tw1584328305160021759:=Nat
def tw1627324616521697821:=Nat
def tw3404834999198482944:=Nat
def tw202118533575503662:=Nat
def tw2508005542617582064:=Nat
def tw1849636468892461226:=Nat
def tw10535534969480094967:=Nat
def tw5106763574548406765:=Nat
def tw17471707233851001170:=Nat
def tw8334949391552258371:=Nat
def tw16264668113531137241:=Nat
def tw3689168346937528054:=Nat
def tw16948584150176844013:=Nat
def tw7116301957774183021:=Nat
def tw14248240339308150915:=Nat
def tw16377602527908031898:=Nat
def tw10292382155871688033:=Nat
def tw15942623034879429814:=Nat
def tw7342481110108335514:=Nat
def tw4875491000204515533:=Nat
def tw15646346312658003452:=Nat
def tw14593329144974481615:=Nat
def tw13405063076675839747:=Nat
def tw11895003443196372648:=Nat
def tw1808759075620462683:=Nat
def tw5364759804777652493:=Nat
def tw16273441350450209577:=Nat
def tw9873856258156056850:=Nat
def tw2038866433589613740:=Nat
def tw2891944950213142695:=Nat
def tw12058827818053521649:=Nat
def tw7289918795288084675:=Nat
def tw3354395297430749832:=Nat
def tw7586275554996018708:=Nat
def tw15364150825518192183:=Nat
def tw5938135035943119554:=Nat
def tw1454295562456335245:=Nat
def tw16986692921546706332:=Nat
def tw6908280880634404309:=Nat
def tw7163664506349490066:=Nat
def tw16280685298326415523:=Nat
def tw2952964398586262985:=Nat
def tw2561637577624430250:=Nat
def tw12695673875616444040:=Nat
def tw4103210749403038857:=Nat
def tw14613462201154823943:=Nat
def tw6590207288281373826:=Nat
def tw14562102945488769802:=Nat
def tw11506327791657658583:=Nat
def tw11028460089602886032:=Nat
def tw9338061757904845773:=Nat
def tw9114180713128403141:=Nat
def tw9556588737707000686:=Nat
def tw3671736166907528655:=Nat
def tw5857736744695859514:=Nat
def tw7817385498402666203:=Nat
def tw11498279739153876349:=Nat
def tw15706800226809120672:=Nat
def tw17074223841176996508:=Nat
def tw7982154934081711116:=Nat
def tw4859633788414851992:=Nat
def tw8497842804338521741:=Nat
def tw8963757558446111111:=Nat
def tw12691969851603423985:=Nat
def tw6828958383302900479:=Nat
def tw11744901595606515540:=Nat
def tw1412996143156463867:=Nat
def tw14982731286456592508:=Nat
def tw8514711839495418907:=Nat
def tw15659858782449777983:=Nat
def tw14294677497976715928:=Nat
def tw16949900574402924221:=Nat
def tw4659010862166446014:=Nat
def tw18020910078214445663:=Nat
def tw15379887485706582182:=Nat
def tw2470205105700605335:=Nat
def tw17989455106968439906:=Nat
def tw12024630884445088516:=Nat
def tw7890905731015663863:=Nat
def tw17402145681977725702:=Nat
def tw3430995847692199564:=Nat
def tw13867000169646550517:=Nat
def tw15761228487610785321:=Nat
def tw364097394229369030:=Nat
def tw10477743759768461901:=Nat
def tw10107113488882425028:=Nat
def tw3003900497258895887:=Nat
def tw5205133523769061590:=Nat
def tw406471746091471398:=Nat
def tw16710564086953059456:=Nat
def tw3023449588451159285:=Nat
def tw16031831143472017680:=Nat
def tw8993660731197499605:=Nat
def tw5171006339401068381:=Nat
def tw18266672395482720401:=Nat
def tw2739182533582762764:=Nat
def tw12617422552745997107:=Nat
def tw12097312695420740402:=Nat
def tw8263026524599917070:=Nat
def tw328915511683202296:=Nat
def tw9953159052908361093:=Nat
def tw11173389300611522640:=Nat
def tw12609414384333557406:=Nat
def tw14336904078639249101:=Nat
def tw16285310613633773597:=Nat
def tw4099241276036912326:=Nat
def tw800971435481897267:=Nat
def tw16457910556517306625:=Nat
def tw9643984235937959193:=Nat
def tw14814971118251159816:=Nat
def tw1946620097188417837:=Nat
def tw18182700365906163629:=Nat
def tw14439544831068508165:=Nat
def tw12097614124062235712:=Nat
def tw12116651644905918024:=Nat
def tw4707473471050310934:=Nat
def tw11462748206047632355:=Nat
def tw14562795393453549930:=Nat
def tw5755723347291797264:=Nat
def tw2892300525462135109:=Nat
def tw5513591951317239315:=Nat
def tw6607697731089803322:=Nat
def tw18380328650090237088:=Nat
def tw9506344420594378024:=Nat
def tw14462637251173722802:=Nat
def tw2391314454259246600:=Nat
def tw11552440932766447139:=Nat
def tw13314643097169528348:=Nat
def tw7217470074976983560:=Nat
def tw16091481055916807183:=Nat
def tw14951793323924185670:=Nat
def tw2178162760927022734:=Nat
def tw1404540756310865712:=Nat
def tw8040559266811778232:=Nat
def tw8957849823332813044:=Nat
def tw16852711536690731635:=Nat
def tw482546507782283730:=Nat
def tw1543416871898766810:=Nat
def tw15969395664340770525:=Nat
def tw8178559371033594075:=Nat
def tw11530579853175633398:=Nat
def tw322052153161036180:=Nat
def tw10678340389418929082:=Nat
def tw9225580339307662653:=Nat
def tw1979479268431702205:=Nat
def tw1352283279637098263:=Nat
def tw14702008718236610703:=Nat
def tw10994685400596755158:=Nat
def tw17557028860555919280:=Nat
def tw14124343248903760561:=Nat
def tw5363493471173171935:=Nat
def tw18159404608875209307:=Nat
def tw4474749983743149424:=Nat
def tw2167356903288337227:=Nat
def tw14198789045404758203:=Nat
def tw15599843359401236656:=Nat
def tw16812793592908973404:=Nat
def tw6174444252886432793:=Nat
def tw7849638440838690566:=Nat
def tw15666510640178534406:=Nat
def tw5190283587983748899:=Nat
def tw8699824519095485195:=Nat
def tw3344825749632569010:=Nat
def tw13402321631040744895:=Nat
def tw7698594164605146375:=Nat
def tw6534305599773954436:=Nat
def tw6602396650839582500:=Nat
def tw15489750019987148455:=Nat
def tw6202708033875685854:=Nat
def tw2901804665315198159:=Nat
def tw8880234016341810445:=Nat
def tw15456028528480277547:=Nat
def tw12153666692428255065:=Nat
def tw12371153317085086836:=Nat
def tw17440851946656022188:=Nat
def tw16561445716121151983:=Nat
def tw17504469980541629237:=Nat
def tw8400188513754465976:=Nat
def tw8928881962306773374:=Nat
def tw17802169382100761795:=Nat
def tw15243488385867952521:=Nat
def tw2604116809401524219:=Nat
def tw1158516062979754350:=Nat
def tw13444126129211080741:=Nat
def tw15529476338281210112:=Nat
def tw12033005700709033052:=Nat
def tw13915917344730048616:=Nat
def tw15730319848413120252:=Nat
def tw7162241004901838098:=Nat
def tw9969295508392803647:=Nat
def tw11928536971708356997:=Nat
def tw9581138393215511617:=Nat
def tw18313045816374094728:=Nat
def tw2358989953210990537:=Nat
def tw15829999336558008800:=Nat
def tw9656425648404314696:=Nat
def tw17946090375118624942:=Nat
def tw1389795385501797292:=Nat
def tw15698493077784520402:=Nat
def tw6135112462307206769:=Nat
def tw9521531648276877724:=Nat
def tw4675473222700461651:=Nat
def tw7452008115625247952:=Nat
def tw91616478956420451:=Nat
def tw9646155264519307552:=Nat
def tw3880422181141398108:=Nat
def tw2427182060992374798:=Nat
def tw8978483623767622489:=Nat
def tw679692615035197963:=Nat
def tw14062356383431417917:=Nat
def tw4682929923273306729:=Nat
def tw2478393227858805338:=Nat
def tw10237558673319839726:=Nat
def tw14818628719205904852:=Nat
def tw8982944975195122059:=Nat
def tw9922519847905654864:=Nat
def tw3765054068035110734:=Nat
def tw12892642317510400451:=Nat
def tw6753460881263536119:=Nat
def tw10739775120510888233:=Nat
def tw7115925127323843476:=Nat
def tw10691437127960068064:=Nat
def tw9494086770291609245:=Nat
def tw11720163141074003259:=Nat
def tw12106239483349124386:=Nat
def tw16928405321876173532:=Nat
def tw5024453364586960958:=Nat
def tw12807528943963211415:=Nat
def tw7799588072678804948:=Nat
def tw12838587999888011260:=Nat
def tw491574047037977931:=Nat
def tw5783439664002052140:=Nat
def tw17743242121165923928:=Nat
def tw2550978228626134994:=Nat
def tw17784201416988387765:=Nat
def tw16039090994353453820:=Nat
def tw3643175402038802324:=Nat
def tw6837743432757543610:=Nat
def tw16498052219402081212:=Nat
def tw15649840733642531370:=Nat
def tw13079010745186292448:=Nat
def tw10447140478838159975:=Nat
def tw17700746715652907717:=Nat
def tw9478110575463586914:=Nat
def tw14932518748281275509:=Nat
def tw14873435037543665088:=Nat
def tw8542946491972663376:=Nat
def tw1022043595083233327:=Nat
def tw11042530263946810817:=Nat
def tw12118906945104570120:=Nat
def tw11978009331767094828:=Nat
def tw14199911815034512580:=Nat
def tw3590926510410753905:=Nat
def tw16986945449351058065:=Nat
end PySem.W.Fast
open PySem PySem.W PyProof.Rows
set_option maxRecDepth 100000 in
theorem PySem.Challenge.cw_stayprice_k95_whole_alike_books_holds : PySem.Challenge.rw_stayprice_k95_whole_alike_books.Holds := by
 w_on;o_law;k_head;(case hw=>w_witness2)
 k_fill
 refine K95.walk (l:=PySem.Challenge.rw_stayprice_k95_whole_alike_books) (c:=(151:Nat)) rfl rfl (λw h Y=>PySem.W.km_in_of Y) (λw h Y=>PySem.W.km_tabs_of Y _ (z92.mpr rfl)) ?hno ?htab ?hF
 case hno=>intro w;kernel_rfl
 case htab=>intro w;exact⟨_,_,by k_is,rfl,rfl,rfl⟩
 case hF=>
  intro w mg d h a G b
  refine' K95.all_mk a G b (K95.mkG a G ?_ (K95.mkF ?_ ?_ ?_)) (K95.mkG a G ?_ (K95.mkF ?_ ?_ ?_)) (K95.mkG a G ?_ (K95.mkF ?_ ?_ ?_)) (K95.mkG a G ?_ (K95.mkF ?_ ?_ ?_)) (K95.mkG a G ?_ (K95.mkF ?_ ?_ ?_)) (K95.mkG a G ?_ (K95.mkF ?_ ?_ ?_)) (K95.mkG a G ?_ (K95.mkF ?_ ?_ ?_)) (K95.mkG a G ?_ (K95.mkF ?_ ?_ ?_)) (K95.mkG a G ?_ (K95.mkF ?_ ?_ ?_)) (K95.mkG a G ?_ (K95.mkF ?_ ?_ ?_)) (K95.mkG a G ?_ (K95.mkF ?_ ?_ ?_)) (K95.mkG a G ?_ (K95.mkF ?_ ?_ ?_)) (K95.mkG a G ?_ (K95.mkF ?_ ?_ ?_)) ?_ ?_ ?_ ?_ (K95.mkG a G ?_ (K95.mkF ?_ ?_ ?_)) (K95.mkG a G ?_ (K95.mkF ?_ ?_ ?_)) (K95.mkG a G ?_ (K95.mkF ?_ ?_ ?_)) (K95.mkG a G ?_ (K95.mkF ?_ ?_ ?_)) (K95.mkG a G ?_ (K95.mkF ?_ ?_ ?_)) (K95.mkG a G ?_ (K95.mkF ?_ ?_ ?_)) (K95.mkG a G ?_ (K95.mkF ?_ ?_ ?_)) (K95.mkG a G ?_ (K95.mkF ?_ ?_ ?_)) (K95.mkG a G ?_ (K95.mkF ?_ ?_ ?_)) (K95.mkG a G ?_ (K95.mkF ?_ ?_ ?_)) (K95.mkG a G ?_ (K95.mkF ?_ ?_ ?_)) (K95.mkG a G ?_ (K95.mkF ?_ ?_ ?_)) (K95.mkG a G ?_ (K95.mkF ?_ ?_ ?_)) (K95.mkG a G ?_ (K95.mkF ?_ ?_ ?_)) (K95.mkG a G ?_ (K95.mkF ?_ ?_ ?_)) (K95.mkG a G ?_ (K95.mkF ?_ ?_ ?_)) (K95.mkG a G ?_ (K95.mkF ?_ ?_ ?_)) (K95.mkG a G ?_ (K95.mkF ?_ ?_ ?_)) (K95.mkG a G ?_ (K95.mkF ?_ ?_ ?_)) (K95.mkG a G ?_ (K95.mkF ?_ ?_ ?_)) (K95.mkG a G ?_ (K95.mkF ?_ ?_ ?_)) (K95.mkG a G ?_ (K95.mkF ?_ ?_ ?_)) (K95.mkG a G ?_ (K95.mkF ?_ ?_ ?_)) (K95.mkG a G ?_ (K95.mkF ?_ ?_ ?_)) (K95.mkG a G ?_ (K95.mkF ?_ ?_ ?_)) (K95.mkG a G ?_ (K95.mkF ?_ ?_ ?_)) (K95.mkG a G ?_ (K95.mkF ?_ ?_ ?_)) (K95.mkG a G ?_ (K95.mkF ?_ ?_ ?_)) (K95.mkG a G ?_ (K95.mkF ?_ ?_ ?_)) (K95.mkG a G ?_ (K95.mkF ?_ ?_ ?_)) (K95.mkG a G ?_ (K95.mkF ?_ ?_ ?_)) (K95.mkG a G ?_ (K95.mkF ?_ ?_ ?_)) (K95.mkG a G ?_ (K95.mkF ?_ ?_ ?_)) (K95.mkG a G ?_ (K95.mkF ?_ ?_ ?_)) (K95.mkG a G ?_ (K95.mkF ?_ ?_ ?_)) (K95.mkG a G ?_ (K95.mkF ?_ ?_ ?_)) (K95.mkG a G ?_ (K95.mkF ?_ ?_ ?_)) (K95.mkG a G ?_ (K95.mkF ?_ ?_ ?_)) (K95.mkG a G ?_ (K95.mkF ?_ ?_ ?_)) (K95.mkG a G ?_ (K95.mkF ?_ ?_ ?_)) (K95.mkG a G ?_ (K95.mkF ?_ ?_ ?_)) (K95.mkG a G ?_ (K95.mkF ?_ ?_ ?_)) (K95.mkG a G ?_ (K95.mkF ?_ ?_ ?_)) ?_ ?_ ?_ ?_ ?_ ?_ ?_ ?_ ?_ ?_ ?_ (K95.mkR ?_ ?_ ?_ ?_ ?_ ?_ ?_ ?_ ?_ ?_ ?_ ?_ ?_ ?_ ?_ ?_ ?_ ?_ ?_ ?_) (K95.mkR ?_ ?_ ?_ ?_ ?_ ?_ ?_ ?_ ?_ ?_ ?_ ?_ ?_ ?_ ?_ ?_ ?_ ?_ ?_ ?_) (K95.mkR ?_ ?_ ?_ ?_ ?_ ?_ ?_ ?_ ?_ ?_ ?_ ?_ ?_ ?_ ?_ ?_ ?_ ?_ ?_ ?_) (K95.mkR ?_ ?_ ?_ ?_ ?_ ?_ ?_ ?_ ?_ ?_ ?_ ?_ ?_ ?_ ?_ ?_ ?_ ?_ ?_ ?_) (K95.mkR ?_ ?_ ?_ ?_ ?_ ?_ ?_ ?_ ?_ ?_ ?_ ?_ ?_ ?_ ?_ ?_ ?_ ?_ ?_ ?_) (K95.mkR ?_ ?_ ?_ ?_ ?_ ?_ ?_ ?_ ?_ ?_ ?_ ?_ ?_ ?_ ?_ ?_ ?_ ?_ ?_ ?_) (K95.mkR ?_ ?_ ?_ ?_ ?_ ?_ ?_ ?_ ?_ ?_ ?_ ?_ ?_ ?_ ?_ ?_ ?_ ?_ ?_ ?_) (K95.mkF ?_ ?_ ?_) (K95.mkF ?_ ?_ ?_) (K95.mkF ?_ ?_ ?_) (K95.mkF ?_ ?_ ?_) (K95.mkF ?_ ?_ ?_) (K95.mkF ?_ ?_ ?_) (K95.mkF ?_ ?_ ?_) (K95.mkF ?_ ?_ ?_) (K95.mkF ?_ ?_ ?_) (K95.mkF ?_ ?_ ?_) ?_ ?_ ?_ ?_ ?_ ?_ ?_ ?_ ?_ (K95.mkF ?_ ?_ ?_) ?_ ?_ (K95.mkF ?_ ?_ ?_) ?_ ?_ ?_ ?_ ?_ ?_ ?_ ?_ ?_ ?_ ?_ ?_ ?_ ?_ ?_ ?_ ?_ ?_ ?_ ?_ ?_ ?_ ?_ ?_ ?_ ?_ ?_ ?_ ?_ ?_ ?_ ?_ ?_ ?_ ?_ ?_ ?_ ?_ ?_ ?_ ?_ ?_ ?_
  all_goals try (show _=_;first|k_is|kernel_rfl)
