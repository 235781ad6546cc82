import PyProof.Rows.All
import Wide.All
import OpenK.AllK
import Wide.FinOn
import Lean
import PyProof.EqAt
import PyProof.EqKinds
import PyProof.TupleCall
import PySem.Challenge.RW_stayprice_k96_whole_days_moved
set_option maxHeartbeats 0
set_option Elab.async false
set_option linter.all false
set_option maxRecDepth 100000
def zX5 := @_root_.List.length_map
def zX6 := @_root_.PySem.wpAny_bind
def zX7 := @_root_.List.getElem?_eq_getElem
def zX8 := @_root_.PySem.Heap.get?_push_of_some
def zX9 := @_root_.List.getD_eq_getElem?_getD
def zY0 := @_root_.List.getElem?_eq_some_iff
def zY1 := @_root_.List.mem_cons
def zY2 := @_root_.Nat.le_refl
def zY3 := @_root_.List.getElem?_map
def zY4 := @_root_.List.mem_cons_of_mem
def zY5 := @_root_.PySem.Heap.lt_size
def zY6 := @_root_.List.mem_cons_self
def zY7 := @_root_.PySem.Heap.get?_push_size
def zY8 := @_root_.PySem.wpAny_pure
def zY9 := @_root_.List.length_cons
def zZ0 := @_root_.List.mem_singleton
def zZ1 := @_root_.List.size_toArray
def zZ2 := @_root_.Option.map_eq_some_iff
def zZ3 := @_root_.List.not_mem_nil
def zZ4 := @_root_.Nat.zero_le
def zZ5 := @_root_.Bool.false_ne_true
def zZ6 := @_root_.List.map_cons
def zZ7 := @_root_.Nat.ne_of_lt
def zZ8 := @_root_.Nat.le_of_ble_eq_true
def zZ9 := @_root_.Bool.and_eq_true
def z00 := @_root_.List.length_append
def z01 := @_root_.Nat.lt_of_lt_of_le
def z02 := @_root_.PySem.Heap.get?_update_other
def z03 := @_root_.List.map_append
def z04 := @_root_.List.length_take
def z05 := @_root_.Option.some.inj
def z06 := @_root_.PySem.W.mg_none_of
def z07 := @_root_.decide_eq_true_eq
def z08 := @_root_.decide_eq_false
def z09 := @_root_.List.mem_map
def z20 := @_root_.List.map_map
def z21 := @_root_.List.mem_append_right
def z22 := @_root_.Ne.symm
def z23 := @_root_.or_false
def z24 := @_root_.PyProof.Rows.callWith_type1
def z25 := @_root_.List.nil_append
def z26 := @_root_.Bool.false_and
def z27 := @_root_.List.mem_of_getElem?
def z28 := @_root_.Bool.true_and
def z29 := @_root_.Bool.eq_false_iff
def z30 := @_root_.Bool.false_eq_true
def z31 := @_root_.Int.le_refl
def z32 := @_root_.PySem.wpAny_truthy_bool
def z33 := @_root_.decide_eq_true
def z34 := @_root_.PySem.wpAny_mono
def z35 := @_root_.Nat.le_trans
def z36 := @_root_.List.mem_append
def z37 := @_root_.List.lookup_cons
def z38 := @_root_.List.getElem_mem
def z39 := @_root_.List.sum_cons
def z40 := @_root_.PySem.W.mg_of
def z41 := @_root_.PySem.mem_of_lookup
def z42 := @_root_.Int.toNat_natCast
def z43 := @_root_.of_decide_eq_true
def z44 := @_root_.List.take_add_one
def z45 := @_root_.List.getElem?_set_ne
def z46 := @_root_.PySem.sizeLine_eq
def z47 := @_root_.Nat.lt_irrefl
def z48 := @_root_.PySem.wpAny_holding
def z49 := @_root_.PySem.Heap.size_push
def z50 := @_root_.PySem.wpAny_seqItems
def z51 := @_root_.PySem.W.kia_one
def z52 := @_root_.List.append_nil
def z53 := @_root_.List.length_set
def z54 := @_root_.List.find?_cons
def z55 := @_root_.List.length_drop
def z56 := @_root_.List.take_length
def z57 := @_root_.PySem.F.plain_min_loop
def z58 := @_root_.List.getElem?_append_left
def z59 := @_root_.PySem.F.plain_extend_loop
def z60 := @_root_.PySem.PassesOwn.never
def z61 := @_root_.PySem.F.slot_zip_next
def z62 := @_root_.List.getElem?_eq_none
def z63 := @_root_.Nat.le_of_lt
def z64 := @_root_.List.mem_append_left
def z65 := @_root_.decide_eq_false_iff_not
def z66 := @_root_.PySem.wpAny_pyIter_list
def z67 := @_root_.Bool.or_eq_true
def z68 := @_root_.PySem.wpAny_updateSeq
def z69 := @_root_.List.length_reverse
def z70 := @_root_.PySem.wpAny_nextOf_list_item
def z71 := @_root_.Int.mul_add
def z72 := @_root_.if_false
def z73 := @_root_.List.pairwise_cons
def z74 := @_root_.List.drop_eq_getElem_cons
def z75 := @_root_.Bool.eq_iff_iff
def z76 := @_root_.PyProof.Rows.get?_update_seq
def z77 := @_root_.Int.natCast_add
def z78 := @_root_.List.getElem?_replicate
def z79 := @_root_.Int.eq_ofNat_of_zero_le
def z80 := @_root_.beq_eq_false_iff_ne
def z81 := @_root_.List.all_eq_true
def z82 := @_root_.List.getElem?_set_self
def z83 := @_root_.Nat.le_succ
def z84 := @_root_.PySem.wpAny_letGo
def z85 := @_root_.PySem.wpAny_field
def z86 := @_root_.PySem.wpAny_passesOwn
def z87 := @_root_.List.length_singleton
def z88 := @_root_.List.getElem?_append_right
def z89 := @_root_.List.any_cons
def z90 := @_root_.PySem.plainId_quiet
def z91 := @_root_.Bool.false_or
def z92 := @_root_.List.mem_iff_getElem
def z93 := @_root_.PySem.Around.under_plainId
def z94 := @_root_.PySem.boot_len
def z95 := @_root_.Nat.ne_of_gt
def z96 := @_root_.Nat.lt_succ_self
def z97 := @_root_.Nat.lt_or_ge
def z98 := @_root_.List.cons_append
def z99 := @_root_.Int.add_zero
def ya0 := @_root_.if_true
def ya1 := @_root_.PySem.wpAny_Call_Name_kw
def ya2 := @_root_.PyProof.Rows.boot_isinstance
def ya3 := @_root_.Nat.div_add_mod
def ya4 := @_root_.PySem.wpAny_ite_split
def ya5 := @_root_.List.getElem?_drop
def ya6 := @_root_.Int.emod_lt_of_pos
def ya7 := @_root_.Int.mul_le_mul_of_nonneg_left
def ya8 := @_root_.List.append_assoc
def ya9 := @_root_.PySem.Heap.get?_update_self
def yb0 := @_root_.PySem.builtinLookup_eq_fast
def yb1 := @_root_.List.drop_length
def yb2 := @_root_.List.filter_cons
def yb3 := @_root_.Nat.mul_le_mul_right
def yb4 := @_root_.List.mem_of_mem_take
def yb5 := @_root_.Bool.or_false
def yb6 := @_root_.List.all_cons
def yb7 := @_root_.List.filterMap_cons
def yb8 := @_root_.PySem.Heap.SameBut.update
def yb9 := @_root_.List.take_succ_cons
def yc0 := @_root_.Array.Perm.refl
def yc1 := @_root_.List.pairwise_iff_getElem
def yc2 := @_root_.PySem.wpAny_specialOf
def yc3 := @_root_.PySem.codeAny_builtin
def yc4 := @_root_.List.length_nil
def yc5 := @_root_.List.foldl_cons
def yc6 := @_root_.Int.emod_nonneg
def yc7 := @_root_.Option.isSome_iff_exists
def yc8 := @_root_.List.getElem?_take_of_lt
def yc9 := @_root_.List.map_nil
def yd0 := @_root_.PySem.wpAny_setField_rec
def yd1 := @_root_.of_decide_eq_false
def yd2 := @_root_.PySem.tupleKind_room_in1
def yd3 := @_root_.List.filter_append
def yd4 := @_root_.List.getElem?_cons_succ
def yd5 := @_root_.PySem.wpAny_callSpecial?_slot
def yd6 := @_root_.PySem.F.args_zip_next_1
def yd7 := @_root_.Nat.lt_succ_of_lt
def yd8 := @_root_.List.reverse_cons
def yd9 := @_root_.Bool.not_eq_true'
def ye0 := @_root_.PySem.F.entry_zip_next
def ye1 := @_root_.PySem.F.entry_min_loop
def ye2 := @_root_.PySem.strLen_append
def ye3 := @_root_.List.ext_getElem
def ye4 := @_root_.PySem.wpAny_call_entry
def ye5 := @_root_.decide_eq_decide
def ye6 := @_root_.PySem.W.methodCall_KW
def ye7 := @_root_.List.mem_filter
def ye8 := @_root_.PySem.wpAny_execs_nil
def ye9 := @_root_.Nat.le_of_eq
def yf0 := @_root_.PySem.codeAny_mono
def yf1 := @_root_.List.nodup_cons
def yf2 := @_root_.PySem.wpAny_loadPart'
def yf3 := @_root_.List.forIn_cons
def yf4 := @_root_.List.range_succ
def yf5 := @_root_.Nat.mul_comm
def yf6 := @_root_.PySem.typeLookup_type
def yf7 := @_root_.Bool.true_or
def yf8 := @_root_.Int.zero_mul
def yf9 := @_root_.Array.length_toList
def yg0 := @_root_.PySem.W.plainGet_of
def yg1 := @_root_.List.map_congr_left
def yg2 := @_root_.List.mem_range
def yg3 := @_root_.Int.one_mul
def yg4 := @_root_.List.mem_filterMap
def yg5 := @_root_.PySem.W.callWith_K
def yg6 := @_root_.List.forIn_toArray
def yg7 := @_root_.Bool.and_self
noncomputable section
namespace L2
open PySem PySem.Spec PyProof.Rows
abbrev Key :=Sum Int Str
noncomputable def qt :Key->Value->Bool
 |.inl k,v=>Value.isInt k v
 |.inr x,v=>Value.isStrOf x v
noncomputable def zV6 (w:World):Key->Int
 |.inl k=>hashInt k
 |.inr x=>hashStr w x
theorem yk :∀{k:Key} {v:Value},qt k v=true->(∃i t,k=Sum.inl i/\v=Value.int i t)\/(∃x t,k=Sum.inr x/\v=Value.str x t)
 |.inl i,v,h=>by
  obtain⟨t,e⟩:=Value.isInt_shape (k:=i) (v:=v) h;exact .inl ⟨i,t,rfl,e⟩
 |.inr x,v,h=>by
  obtain⟨t,e⟩:=Value.isStrOf_shape (x:=x) (v:=v) h;exact .inr ⟨x,t,rfl,e⟩
theorem du (i:Int)(t:Tok):qt (.inl i) (.int i t)=true:=by simp[qt,Value.isInt]
theorem dM (x:Str)(t:Tok):qt (.inr x) (.str x t)=true:=by simp[qt,Value.isStrOf]
theorem zB2 (a b:Int):decide ((Sum.inl a:Key)=Sum.inl b)=(a == b):=by
 by_cases e:a=b
 ·subst e;simp
 ·have h:¬(Sum.inl a:Key)=Sum.inl b:=fun q=>e (Sum.inl.inj q);rw[z08 h];exact (z80.mpr e).symm
theorem zJ5 (a b:Str):decide ((Sum.inr a:Key)=Sum.inr b)=decide (a=b):=by
 by_cases e:a=b
 ·subst e;simp
 ·have h:¬(Sum.inr a:Key)=Sum.inr b:=fun q=>e (Sum.inr.inj q);rw[z08 h,z08 e]
theorem zI8 (a:Int)(b:Str):decide ((Sum.inl a:Key)=Sum.inr b)=false:=z08 (fun q=>nomatch q)
theorem zF4 (a:Str)(b:Int):decide ((Sum.inr a:Key)=Sum.inl b)=false:=z08 (fun q=>nomatch q)
noncomputable def yf (prog:Program)(w:World):PySem.KeyKind prog w Key where
 is:=qt
 hash:=zV6 w
 inj:=fun v a b ha hb=>by
  rcases yk ha with ⟨i,t,rfl,rfl⟩|⟨x,t,rfl,rfl⟩
  ·rcases yk hb with ⟨j,u,rfl,e⟩|⟨y,u,rfl,e⟩
   ·injection e with e1 _;rw[e1]
   ·exact nomatch e
  ·rcases yk hb with ⟨j,u,rfl,e⟩|⟨y,u,rfl,e⟩
   ·exact nomatch e
   ·injection e with e1 _;rw[e1]
 byValue:=fun k v h=>by
  rcases yk h with ⟨i,t,rfl,rfl⟩|⟨x,t,rfl,rfl⟩<;>rfl
 pyHash:=fun hv h=>by
  rcases yk hv with ⟨i,t,rfl,rfl⟩|⟨x,t,rfl,rfl⟩
  ·exact wpAny_pyHash_int h
  ·exact wpAny_pyHash_str h
 eqBool:=fun hu hv h=>by
  rcases yk hu with ⟨i,t,rfl,rfl⟩|⟨x,t,rfl,rfl⟩
  ·rcases yk hv with ⟨j,u,rfl,rfl⟩|⟨y,u,rfl,rfl⟩
   ·rw[zB2] at h;exact wpAny_eqBool_int h
   ·rw[zI8] at h;exact SeqAt.EqAt.int_str i t y u _ _ _ _ h
  ·rcases yk hv with ⟨j,u,rfl,rfl⟩|⟨y,u,rfl,rfl⟩
   ·rw[zF4] at h;exact SeqAt.EqAt.str_int x t j u _ _ _ _ h
   ·rw[zJ5] at h;exact wpAny_eqBool_str h
 «strs»:=fun k x t v h=>by
  rcases yk h with ⟨i,u,rfl,e⟩|⟨y,u,rfl,e⟩
  ·exact nomatch e
  ·injection e with e1 _;subst e1;cases v<;>rfl
theorem lW (prog:Program)(w:World)(i:Int)(t:Tok):(yf prog w).is (.inl i) (.int i t)=true:=du i t
theorem kf (prog:Program)(w:World)(x:Str)(t:Tok):(yf prog w).is (.inr x) (.str x t)=true:=dM x t
inductive V where
 |non|bl (b:Bool)|int (i:Int)|str (x:Str)|byt (b:Array UInt8)|flt (b:UInt64)|ref (a:Addr)|ty (n:String)
 deriving DecidableEq
def RelV :V->Value->Prop
 |.non,u=>u=Value.none
 |.bl b,u=>u=Value.bool b
 |.int i,u=>∃t,u=Value.int i t
 |.str x,u=>∃t,u=Value.str x t
 |.byt b,u=>∃t,u=Value.bytes b t
 |.flt b,u=>∃t,u=Value.float b t
 |.ref a,u=>u=Value.ref a
 |.ty n,u=>u=Value.type n
abbrev Vals :List V->List Value->Prop:=Paired RelV
theorem Vals.length {xs:List V}{us:List Value}(r:Vals xs us):xs.length=us.length:=Paired.length r
theorem Vals.get :∀{xs:List V} {us:List Value} {i:Nat} {x:V},Vals xs us->xs[i]?=some x->∃u,us[i]?=some u/\RelV x u
 |_,_,_,_,.nil,e=>by simp at e
 |_,_,0,_,.cons r _,e=>by simp at e;subst e;exact⟨_,rfl,r⟩
 |_,_,i+1,x,.cons _ t,e=>by
  obtain⟨u,h1,h2⟩:=Vals.get (i:=i) (x:=x) t (by simpa using e);exact⟨u,by simpa using h1,h2⟩
theorem Vals.set {x:V}{u:Value}(r:RelV x u):∀{xs:List V} {us:List Value} (i:Nat),Vals xs us->Vals (xs.set i x) (us.set i u)
 |_,_,_,.nil=>.nil
 |_,_,0,.cons _ t=>.cons r t
 |_,_,i+1,.cons q t=>.cons q (Vals.set r i t)
theorem Vals.append :∀{xs ys:List V} {us ws:List Value},Vals xs us->Vals ys ws->Vals (xs++ys) (us++ws)
 |_,_,_,_,.nil,s=>s
 |_,_,_,_,.cons r t,s=>.cons r (Vals.append t s)
theorem Vals.take :∀{xs:List V} {us:List Value} (n:Nat),Vals xs us->Vals (xs.take n) (us.take n)
 |_,_,0,_=>.nil
 |_,_,_+1,.nil=>.nil
 |_,_,n+1,.cons r t=>.cons r (Vals.take n t)
theorem Vals.drop :∀{xs:List V} {us:List Value} (n:Nat),Vals xs us->Vals (xs.drop n) (us.drop n)
 |_,_,0,r=>r
 |_,_,_+1,.nil=>.nil
 |_,_,n+1,.cons _ t=>Vals.drop n t
def uy :Option V->Option Value->Prop
 |some v,some u=>RelV v u
 |none,none=>True
 |_,_=>False
def KV {κ:Type}:List (κ×V)->List (κ×Value)->Prop:=Paired fun (p:κ×V) (q:κ×Value)=>p.1=q.1/\RelV p.2 q.2
noncomputable def kV :Key->V
 |.inl i=>.int i
 |.inr x=>.str x
inductive HO where
  |lst (xs:List V)
  |tup (xs:List V)
  |dK (kvs:List (Key×V))|dT (kvs:List (List Key×V))
  |set (S:Int->Bool) (n:Nat)
  |ins (C dx:Addr) (fs:List (Str×V))
  |own (x:Addr)
  |xd (fs:List (Str×V))
  |met (f x:Addr)
  |rng (lo hi:Int)
  |frz (o:Obj) (u:HO)
  |tbl (ps:Array Value)
  |ext (φ:Heap->Prop)
abbrev Hp :=Addr->Option HO
noncomputable def upd (H:Hp)(a:Addr)(o:HO):Hp:=fun b=>if b=a then some o else H b
theorem zj {H:Hp}{a:Addr}{o:HO}:upd H a o a=some o:=by unfold upd;rw[if_pos rfl]
theorem zf {H:Hp}{a b:Addr}{o:HO}(h:b≠a):upd H a o b=H b:=by unfold upd;rw[if_neg h]
theorem rA {H:Hp}{a:Addr}{o u:HO}:upd (upd H a o) a u=upd H a u:=by funext b;unfold upd;split<;>rfl
theorem bA {H:Hp}{a b:Addr}{o u:HO}(h:H a=some o)(h':H b=some u)(d:o≠u):a≠b:=by intro e;subst e;rw[h] at h';exact d (z05 h')
theorem zp {H:Hp}{a b:Addr}{o:HO}(h:H a=some o)(h':H b=none):a≠b:=by intro e;subst e;rw[h] at h';cases h'
section
variable (P:Program)(w:World)
def zP (H:Hp)(h:Heap)(a:Addr):HO->Prop
 |.lst xs=>xs.length<=sizeLine/\∃(its:List Value) (n:Nat),Vals xs its/\h.get? a=some {cls:=.type "list",data:=.seq its.toArray n}
 |.tup xs=>xs.length<=sizeLine/\∃its:List Value,Vals xs its/\IsTup h a its.toArray
 |.dK kvs=>kvs.length<=sizeLine/\(a == sysModules)=false/\∃vs,KV kvs vs/\h.DictOf (yf P w) a vs
 |.dT kvs=>kvs.length<=sizeLine/\(a == sysModules)=false/\∃xs:List (List Key×Addr×Value),
   Paired (fun (p:List Key×V) (q:List Key×Addr×Value)=>p.1=q.1/\H q.2.1=some (.tup (p.1.map kV))/\RelV p.2 q.2.2) kvs xs/\
   ∃o es ep,h.get? a=some o/\o.ExactDict/\o.data=.dict es ep/\es.toList=xs.map (entryOfKey (tupleKind (yf P w)))/\(xs.map (·.1)).Nodup
 |.set S n=>h.SetOf (intKind P w) a S n
 |.ins C dx fs=>H dx=some (.own a)/\fs.length<=1000/\dx≠a/\h.get? a=some (PySem.W.instObj C dx)/\
   ∃mA,h.Ns1 dx mA/\(∀f,uy (fs.lookup f) (mA f))/\PySem.Within mA (fs.map (·.1))
 |.own _=>∃o,h.get? a=some o
 |.xd fs=>∃mA,h.Ns1 a mA/\∀f,uy (fs.lookup f) (mA f)
 |.rng lo hi=>∃t u v,h.get? a=some {cls:=.type "range",data:=.fields #[.int lo t,.int hi u,.int 1 v]}
 |.frz o u=>h.get? a=some o/\zP H h a u
 |.tbl ps=>h.get? a=some {cls:=.none,data:=.fields ps}
 |.met f x=>h.get? a=some (PySem.W.methodObj (.ref f) (.ref x))
 |.ext φ=>φ h/\(∃o,h.get? a=some o)/\∀h1 h2:Heap,φ h1->(∀o,h1.get? a=some o->h2.get? a=some o)->φ h2
def HOk (H:Hp)(h:Heap):Prop:=∀a o,H a=some o->zP P w H h a o
end
section
variable {P:Program}{w:World}{H H':Hp}{h h':Heap}{a:Addr}{o:HO}
theorem zP.lt (x:zP P w H h a o):a<h.objs.size:=by
 cases o with
 |lst xs=>obtain⟨_,_,_,_,e⟩:=x;exact zY5 e
 |tup xs=>obtain⟨_,_,_,p⟩:=x;exact p.lt
 |dK kvs=>obtain⟨_,_,_,_,o,_,_,e,_⟩:=x;exact zY5 e
 |dT kvs=>obtain⟨_,_,_,_,o,_,_,e,_⟩:=x;exact zY5 e
 |set S n=>obtain⟨o,_,_,_,e,_⟩:=x;exact zY5 e
 |ins C dx fs=>obtain⟨_,_,_,e,_⟩:=x;exact zY5 e
 |own y=>obtain⟨_,e⟩:=x;exact zY5 e
 |xd fs=>obtain⟨_,⟨_,_,_,e,_⟩,_⟩:=x;exact zY5 e
 |rng lo hi=>obtain⟨_,_,_,e⟩:=x;exact zY5 e
 |frz ob u=>obtain⟨e,_⟩:=x;exact zY5 e
 |tbl ps=>exact zY5 (show h.get? a=some _ from x)
 |met f y=>exact zY5 (show h.get? a=some _ from x)
 |ext φ=>obtain⟨_,⟨_,e⟩,_⟩:=x;exact zY5 e
theorem Paired.mapP {α β:Type}{F G:α->β->Prop}:∀{l₁:List α} {l₂:List β},Paired F l₁ l₂->(∀a b,F a b->G a b)->Paired G l₁ l₂
 |_,_,.nil,_=>.nil
 |_,_,.cons r t,f=>.cons (f _ _ r) (Paired.mapP t f)
theorem zP.stay (x:zP P w H h a o)(k:∀b u,(b=a\/H b=some (.own a))->h.get? b=some u->h'.get? b=some u)
  (ho:∀b,H b=some (.own a)->H' b=some (.own a)) (ht:∀b xs,H b=some (.tup xs)->H' b=some (.tup xs)):zP P w H' h' a o:=by
 induction o with
 |lst xs=>obtain⟨z,its,n,r,e⟩:=x;exact⟨z,its,n,r,k _ _ (.inl rfl) e⟩
 |tup xs=>obtain⟨z,its,r,ob,e,c⟩:=x;exact⟨z,its,r,ob,k _ _ (.inl rfl) e,c⟩
 |dK kvs=>obtain⟨z,y,vs,r,ob,es,ep,e,c⟩:=x;exact⟨z,y,vs,r,ob,es,ep,k _ _ (.inl rfl) e,c⟩
 |dT kvs=>
  obtain⟨z,y,xs,r,ob,es,ep,e,c⟩:=x;exact⟨z,y,xs,Paired.mapP r fun p q z=>⟨z.1,ht _ _ z.2.1,z.2.2⟩,ob,es,ep,k _ _ (.inl rfl) e,c⟩
 |set S n=>obtain⟨ob,es,ep,t,e,c⟩:=x;exact⟨ob,es,ep,t,k _ _ (.inl rfl) e,c⟩
 |ins C dx fs=>
  obtain⟨d,z,ne,e,mA,⟨od,es,ep,e2,c⟩,r⟩:=x;exact⟨ho _ d,z,ne,k _ _ (.inl rfl) e,mA,⟨od,es,ep,k _ _ (.inr d) e2,c⟩,r⟩
 |own y=>obtain⟨ob,e⟩:=x;exact⟨ob,k _ _ (.inl rfl) e⟩
 |xd fs=>obtain⟨mA,⟨od,es,ep,e,c⟩,r⟩:=x;exact⟨mA,⟨od,es,ep,k _ _ (.inl rfl) e,c⟩,r⟩
 |rng lo hi=>obtain⟨t,u,v,e⟩:=x;exact⟨t,u,v,k _ _ (.inl rfl) e⟩
 |frz ob u ih=>obtain⟨e,q⟩:=x;exact⟨k _ _ (.inl rfl) e,ih q⟩
 |tbl ps=>
  have e:h.get? a=some {cls:=.none,data:=.fields ps}:=x;show h'.get? a=some {cls:=.none,data:=.fields ps};exact k a _ (.inl rfl) e
 |met f y=>
  have e:h.get? a=some (PySem.W.methodObj (.ref f) (.ref y)):=x;show h'.get? a=some (PySem.W.methodObj (.ref f) (.ref y));exact k a _ (.inl rfl) e
 |ext φ=>obtain⟨p,⟨o,e⟩,st⟩:=x;exact⟨st _ _ p fun o q=>k _ _ (.inl rfl) q,⟨o,k _ _ (.inl rfl) e⟩,st⟩
theorem HOk.lt (x:HOk P w H h)(e:H a=some o):a<h.objs.size:=(x a o e).lt
theorem HOk.fresh (x:HOk P w H h)(e:h.objs.size<=a):H a=none:=by
 cases q:H a with
 |none=>rfl
 |some u=>exact absurd (z01 (x.lt q) e) (z47 _)
theorem HOk.kept (x:HOk P w H h)(k:∀b u,h.get? b=some u->h'.get? b=some u):HOk P w H h':=fun a o e=>
 (x a o e).stay (fun b u _ q=>k b u q) (fun _ q=>q) fun _ _ q=>q
theorem HOk.laid (x:HOk P w H h)(k:∀b u,h.get? b=some u->h'.get? b=some u)(hp:h.objs.size<=a)(new:zP P w (upd H a o) h' a o):HOk P w (upd H a o) h':=fun b u e=>by
 have hn:=x.fresh hp;by_cases hb:b=a
 ·subst hb;rw[zj] at e;cases e;exact new
 ·rw[zf hb] at e;exact (x b u e).stay (fun c v _ q=>k c v q) (fun c q=>by rw[zf (zp q hn)];exact q) fun c xs q=>by rw[zf (zp q hn)];exact q
end
def Rd (H:Hp)(a:Addr)(u:HO):Prop:=H a=some u\/∃o,H a=some (.frz o u)
theorem Rd.ok {P:Program}{w:World}{H:Hp}{h:Heap}{a:Addr}{u:HO}(r:Rd H a u)(x:HOk P w H h):zP P w H h a u:=by
 rcases r with r|⟨o,r⟩
 ·exact x a u r
 ·obtain⟨_,q⟩:=x a _ r;exact q
def Mut :Option HO->Prop
 |some (.lst _)=>True
 |some (.dK _)=>True
 |some (.dT _)=>True
 |some (.set _ _)=>True
 |some (.ins _ _ _)=>True
 |some (.ext _)=>True
 |_=>False
section
variable {P:Program}{w:World}{H:Hp}{h h':Heap}{x e:Addr}{o':HO}
theorem HOk.write (ok:HOk P w H h)(mu:Mut (H x))(he:e=x\/H e=some (.own x))(k:∀b u,b≠e->h.get? b=some u->h'.get? b=some u)(heo:∃u,h'.get? e=some u)
  (new:zP P w (upd H x o') h' x o'):HOk P w (upd H x o') h':=fun b u q=>by
 have nown:∀c y,H c=some (.own y)->c≠x:=fun c y r z=>by subst z;rw[r] at mu;exact mu
 have ntup:∀c xs,H c=some (.tup xs)->c≠x:=fun c xs r z=>by subst z;rw[r] at mu;exact mu
 by_cases hb:b=x
 ·subst hb;rw[zj] at q;cases q;exact new
 ·rw[zf hb] at q;by_cases hbe:b=e
  ·have q':H b=some (.own x):=by
    rcases he with z|z
    ·exact absurd (hbe.trans z) hb
    ·rw[hbe];exact z
   rw[q] at q';cases q';obtain⟨v,hv⟩:=heo;exact⟨v,by rw[hbe];exact hv⟩
  ·refine (ok b u q).stay (fun c v hc r=>k c v ?_ r) (fun c r=>by rw[zf (nown c b r)];exact r) fun c xs r=>by rw[zf (ntup c xs r)];exact r
   rcases hc with rfl|hc
   ·exact hbe
   ·rintro rfl;rcases he with z|z
    ·exact nown c b hc z
    ·rw[hc] at z;cases z;exact hb rfl
end
structure Un (fs ex:List Addr)(H H':Hp)(h h':Heap):Prop where
 keep:∀b o,h.get? b=some o->H b=none->b∉fs->b∉ex->h'.get? b=some o
 slot:∀b o,h.get? b=some o->H b=none->b∈fs->b∉ex->∃sl,h'.get? b=some {o with slots:=sl}
 free:∀b o,h.get? b=some o->H b=none->b∉ex->H' b=none
 there:∀b o,h.get? b=some o->b∉ex->∃o',h'.get? b=some o'
 tups:∀b xs,H b=some (.tup xs)->H' b=some (.tup xs)
 frzs:∀b o u,H b=some (.frz o u)->H' b=some (.frz o u)
 tbls:∀b ps,H b=some (.tbl ps)->∃more,H' b=some (.tbl (ps++more))
section
variable {fs fs' ex ex':List Addr}{H H1 H2:Hp}{h h1 h2 h':Heap}{a x e:Addr}{o:HO}
theorem Un.any (u:Un fs ex H H1 h h1){b:Addr}{ob:Obj}(q:h.get? b=some ob)(n:H b=none)(hx:b∉ex):∃sl,h1.get? b=some {ob with slots:=sl}:=by
 by_cases hb:b∈fs
 ·exact u.slot b ob q n hb hx
 ·exact⟨ob.slots,u.keep b ob q n hb hx⟩
theorem Un.kept (k:∀b u,h.get? b=some u->h'.get? b=some u):Un fs ex H H h h':=
 ⟨fun b ob q _ _ _=>k b ob q,fun b ob q _ _ _=>⟨ob.slots,k b ob q⟩,fun _ _ _ n _=>n,fun b ob q _=>⟨ob,k b ob q⟩,fun _ _ q=>q,fun _ _ _ q=>q,fun _ ps q=>⟨#[],by rw[q];simp⟩⟩
theorem Un.refl :Un fs ex H H h h:=Un.kept fun _ _ q=>q
theorem Un.laid (k:∀b u,h.get? b=some u->h'.get? b=some u)(hp:h.objs.size<=a)(hn:H a=none):Un fs ex H (upd H a o) h h' where
 keep:=fun b u q _ _ _=>k b u q
 slot:=fun b u q _ _ _=>⟨u.slots,k b u q⟩
 free:=fun b u q n _=>by rw[zf (zZ7 (z01 (zY5 q) hp))];exact n
 there:=fun b u q _=>⟨u,k b u q⟩
 tups:=fun b xs q=>by rw[zf (zp q hn)];exact q
 frzs:=fun b u xs q=>by rw[zf (zp q hn)];exact q
 tbls:=fun b ps q=>⟨#[],by rw[zf (zp q hn),q];simp⟩
theorem Un.write (mu:Mut (H x))(he:e=x\/H e=some (.own x))(k:∀b u,b≠e->h.get? b=some u->h'.get? b=some u)(heo:∃u,h'.get? e=some u):Un fs ex H (upd H x o) h h':=by
 have hx:∀b,H b=none->b≠x:=fun b n z=>by subst z;rw[n] at mu;exact mu
 have hb:∀b,H b=none->b≠e:=fun b n z=>by
  subst z;rcases he with r|r
  ·exact hx b n r
  ·rw[n] at r;cases r
 have hm:∀b u,H b=some u->¬Mut (some u)->b≠x:=fun b u q nm z=>by subst z;rw[q] at mu;exact nm mu
 refine⟨fun b u q n _ _=>k b u (hb b n) q,fun b u q n _ _=>⟨u.slots,k b u (hb b n) q⟩,fun b u q n _=>by rw[zf (hx b n)];exact n,fun b u q _=>?_,
  fun b xs q=>by rw[zf (hm b _ q fun z=>z)];exact q,fun b u xs q=>by rw[zf (hm b _ q fun z=>z)];exact q,fun b ps q=>⟨#[],by rw[zf (hm b _ q fun z=>z),q];simp⟩⟩
 by_cases hbe:b=e
 ·subst hbe;exact heo
 ·exact⟨u,k b u hbe q⟩
end
noncomputable def trk (h:Heap)(H:Hp):List Addr:=(List.range h.objs.size).filter fun a=>(H a).isSome
noncomputable def pK (h:Heap)(H:Hp):Heap:=PySem.W.hideAll h (trk h H)
theorem eI (h:Heap)(H:Hp):(pK h H).objs.size=h.objs.size:=PySem.W.hideAll_size _ _
theorem zl5 {h:Heap}{H:Hp}{b:Addr}{o:Obj}(e:h.get? b=some o)(n:H b=none):(pK h H).get? b=some o:=
 PySem.W.hideAll_get _ e fun hm=>by
  have q:(H b).isSome=true:=(ye7.mp hm).2;rw[n] at q;simp at q
theorem zr4 {h:Heap}{H:Hp}{b:Addr}{o:Obj}(e:(pK h H).get? b=some o):h.get? b=some o/\H b=none:=by
 have e':h.get? b=some o:=PySem.W.of_hideAll (trk h H) e;refine⟨e',?_⟩;cases q:H b with
 |none=>rfl
 |some x=>
  have hm:b∈trk h H:=ye7.mpr ⟨yg2.mpr (zY5 e'),by simp[q]⟩;have z:(pK h H).get? b=none:=PySem.W.hideAll_none (trk h H) hm;rw[z] at e;cases e
structure Mod (K:PySem.W.Frag)(mg:Str->Option Value)(base:Heap):Prop where
 kin:K.In base
 glob:base.Ns mainGlobals mg
 blt:∃mb,base.Ns builtinsNs mb/\∀x:Str,x≠"__name__"->mb x=bootBuiltins x
 nolimit:base.NoLimit
structure Cx where
 prog:Program
 w:World
 K:PySem.W.Frag
 mg:Str->Option Value
 base:Heap
 A:Around
 N:List Str
 s₀:Shared
 H₀:Hp
 env:Env
 outer:List Env
 stack:List Env
 ex:List Addr
 fn:Str->Bool
 calm:Bool
 pn:List (Addr×Obj)
 xe:Value->Shared->Prop
noncomputable def frs (l:List Env):List Addr:=l.filterMap (·.frame)
noncomputable abbrev Cx.fs (X:Cx):List Addr:=frs X.outer
def Vis (sc:Scope)(x:Str):Prop:=sc.names.lookup x=some .local\/sc.names.lookup x=some .cell\/sc.names.lookup x=some .free
def Loc (sc:Scope)(x:Str):Prop:=sc.names.lookup x=some .local\/sc.names.lookup x=some .cell
def Look (env:Env)(h:Heap)(m:Str->Option Value)(x:Str)(u:Value):Prop:=
 (env.kindOf x=some .local/\m x=some u)\/((env.kindOf x=some .cell\/env.kindOf x=some .free)/\∃c,env.cells.lookup x=some c/\h.IsCell c (some u))
structure Cx.Ok (X:Cx):Prop where
 mod:Mod X.K X.mg X.base
 kind:X.env.scope.kind=.function
 glob:X.env.globals=mainGlobals
 blt:X.env.builtins=builtinsNs
 above:X.s₀.heap.objs.size<=X.env.locals
 inj:∀x y c,X.env.cells.lookup x=some c->X.env.cells.lookup y=some c->x=y
 has:∀x,(X.env.kindOf x=some .cell\/X.env.kindOf x=some .free)->∃c,X.env.cells.lookup x=some c
 cab:∀x c,X.fn x=true->X.env.cells.lookup x=some c->X.s₀.heap.objs.size<=c
 hd:X.calm=true->X.A.handled=none
 frames:X.A.frames=some X.stack
 stk:X.stack=X.outer\/(X.stack=X.env::X.outer/\X.env.frame=some X.env.locals)
 exf:∀b∈X.ex,b≠X.env.locals/\∀x c,X.env.cells.lookup x=some c->c≠b
 bs:∀b o,X.base.get? b=some o->X.s₀.heap.get? b=some o/\X.H₀ b=none
 bsz:X.base.objs.size<=X.s₀.heap.objs.size
 noex:∀b o,X.base.get? b=some o->b∉X.ex
 exfs:∀b∈X.ex,b∉X.fs
 funs:X.s₀.heap.FunFrames X.base X.outer
 frf:∀b∈X.fs,X.H₀ b=none
structure Inv (X:Cx)(pins:List (Addr×Obj))(σ:List (Option V))(H:Hp)(s:Shared):Prop where
 ok:X.Ok
 os:s.os=X.s₀.os
 bare:AllBare s.gens
 base:Un X.fs X.ex X.H₀ H X.s₀.heap s.heap
 loc:∃m,s.heap.Ns X.env.locals m/\∀(i:Nat) (x:Str) (v:V),X.N[i]?=some x->σ[i]?=some (some v)->Vis X.env.scope x->∃u,RelV v u/\Look X.env s.heap m x u
 cell:∀x c,X.env.cells.lookup x=some c->∃v,s.heap.IsCell c v
 free:H X.env.locals=none
 freeC:∀x c,X.env.cells.lookup x=some c->H c=none
 pin:∀p∈X.pn++pins,s.heap.get? p.1=some p.2/\H p.1=none/\p.1≠X.env.locals/\p.1∉X.fs/\∀v,p.2.data≠.cell v
 hok:HOk X.prog X.w H s.heap
 len:σ.length=X.N.length
section
variable {X:Cx}{pins:List (Addr×Obj)}{σ:List (Option V)}{H H':Hp}{s:Shared}{h':Heap}
theorem Cx.Ok.nofr (ok:X.Ok){b:Addr}{o:Obj}(e:X.base.get? b=some o):b∉X.fs:=fun hb=>by
 have:=(ok.funs.mem hb).1;rw[e] at this;cases this
theorem Inv.bs (I:Inv X pins σ H s):∀b o,X.base.get? b=some o->s.heap.get? b=some o/\H b=none:=fun b o e=>
 ⟨I.base.keep b o (I.ok.bs b o e).1 (I.ok.bs b o e).2 (I.ok.nofr e) (I.ok.noex b o e),I.base.free b o (I.ok.bs b o e).1 (I.ok.bs b o e).2 (I.ok.noex b o e)⟩
theorem Inv.bk (I:Inv X pins σ H s):∀b o,X.base.get? b=some o->s.heap.get? b=some o:=fun b o e=>(I.bs b o e).1
theorem Inv.mod (I:Inv X pins σ H s):Mod X.K X.mg X.base:=I.ok.mod
theorem Inv.kIn (I:Inv X pins σ H s):X.K.In s.heap:=I.ok.mod.kin.keeps I.bk
theorem Inv.lt (I:Inv X pins σ H s):X.env.locals<s.heap.objs.size:=let ⟨_,hn,_⟩:=I.loc;hn.lt
theorem Inv.sz (I:Inv X pins σ H s):X.s₀.heap.objs.size<=s.heap.objs.size:=z35 I.ok.above (z63 I.lt)
theorem Inv.nofs (I:Inv X pins σ H s){a:Addr}(h:s.heap.objs.size<=a):a∉X.fs:=fun hb=>by
 obtain⟨_,o,ho,_⟩:=I.ok.funs.mem hb;exact absurd (z01 (zY5 ho) (z35 I.sz h)) (z47 _)
theorem Inv.cne (I:Inv X pins σ H s):∀x c,X.env.cells.lookup x=some c->c≠X.env.locals:=fun x c e z=>by
 obtain⟨v,o,ho,hd⟩:=I.cell x c e;obtain⟨m,⟨o',es,ep,ho',hd',_⟩,_⟩:=I.loc;rw[z,ho'] at ho;cases ho;rw[hd'] at hd;cases hd
theorem Inv.funs (I:Inv X pins σ H s):s.heap.FunFrames X.base X.outer:=by
 have all:∀(l:List Env),(∀b∈frs l,b∈X.fs)->X.s₀.heap.FunFrames X.base l->s.heap.FunFrames X.base l:=by
  intro l
  induction l with
  |nil=>intro _ _;trivial
  |cons env r ih=>
   intro hs hl;obtain⟨hk,⟨L,o,hf,hn,ho,hd⟩,hr⟩:=hl;have hL:L∈X.fs:=hs L (by unfold frs;rw[yb7,hf];exact zY6);obtain⟨sl,e⟩:=I.base.slot L o ho (I.ok.frf L hL) hL fun z=>I.ok.exfs L z hL;exact⟨hk,⟨L,_,hf,hn,e,hd⟩,ih (fun b hb=>hs b (by unfold frs;rw[yb7,hf];exact zY4 _ hb)) hr⟩
 exact all X.outer (fun _ hb=>hb) I.ok.funs
theorem Inv.stack (I:Inv X pins σ H s):s.heap.FunFrames X.base X.stack:=by
 rcases I.ok.stk with e|⟨e,hf⟩
 ·rw[e];exact I.funs
 ·rw[e];obtain⟨m,hn,_⟩:=I.loc;refine .cons (by rw[I.ok.kind];decide) hf hn ?_ I.funs;exact Heap.get?_none_of_le (z35 I.ok.bsz I.ok.above)
theorem Inv.stkSub (I:Inv X pins σ H s):∀b∈frs X.stack,b∈X.env.locals::X.fs:=fun b hb=>by
 rcases I.ok.stk with e|⟨e,hf⟩
 ·rw[e] at hb;exact zY4 _ hb
 ·rw[e] at hb;unfold frs at hb;rw[yb7,hf] at hb;exact hb
theorem Inv.stkFree (I:Inv X pins σ H s):∀b∈frs X.stack,H b=none:=fun b hb=>by
 rcases zY1.mp (I.stkSub b hb) with e|hb
 ·rw[e];exact I.free
 ·obtain⟨_,o,ho,_⟩:=I.ok.funs.mem hb;exact I.base.free b o ho (I.ok.frf b hb) fun z=>I.ok.exfs b z hb
theorem Inv.step {g':Array GenState}{t':Nat}{d':Drawn}{ch:List Addr}(I:Inv X pins σ H s)
  (hch:∀b∈ch,(b∈X.ex\/X.s₀.heap.objs.size<=b)/\b≠X.env.locals/\(∀x c,X.env.cells.lookup x=some c->c≠b)/\∀p∈X.pn++pins,p.1≠b)
  (keep:∀b o,b≠X.env.locals->b∉X.fs->b∉ch->s.heap.get? b=some o->H b=none->h'.get? b=some o)
  (slot:∀b o,b≠X.env.locals->b∈X.fs->b∉ch->s.heap.get? b=some o->H b=none->∃sl,h'.get? b=some {o with slots:=sl}) (free:∀b o,b∉ch->s.heap.get? b=some o->H b=none->H' b=none)
  (there:∀b o,b∉ch->s.heap.get? b=some o->∃o',h'.get? b=some o')
  (tups:∀b xs,H b=some (.tup xs)->H' b=some (.tup xs)) (frzs:∀b o u,H b=some (.frz o u)->H' b=some (.frz o u)) (tbls:∀b ps,H b=some (.tbl ps)->∃more,H' b=some (.tbl (ps++more)))
  (ns:∀m,s.heap.Ns X.env.locals m->h'.Ns X.env.locals m) (hok:HOk X.prog X.w H' h') (hg:AllBare g'):
  Inv X pins σ H' {s with heap:=h',gens:=g',drawn:=d',toks:=t'}:=by
 have neL:∀b o,X.s₀.heap.get? b=some o->b≠X.env.locals:=fun b o e=>zZ7 (z01 (zY5 e) I.ok.above);have neC:∀b o,X.s₀.heap.get? b=some o->b∉X.ex->b∉ch:=fun b o e hx hb=>by
  rcases (hch b hb).1 with z|z
  ·exact hx z
  ·exact absurd (z01 (zY5 e) z) (z47 _)
 have cellK:∀x c,X.env.cells.lookup x=some c->∀v,s.heap.IsCell c v->h'.IsCell c v:=fun x c e v ⟨o,ho,hd⟩=>by
  have nch:c∉ch:=fun z=>(hch c z).2.2.1 x c e rfl;by_cases hc:c∈X.fs
  ·obtain⟨sl,q⟩:=slot c o (I.cne x c e) hc nch ho (I.freeC x c e);exact⟨_,q,hd⟩
  ·exact⟨o,keep c o (I.cne x c e) hc nch ho (I.freeC x c e),hd⟩
 refine⟨I.ok,I.os,hg,⟨fun b o e n hb hx=>?_,fun b o e n hb hx=>?_,fun b o e n hx=>?_,fun b o e hx=>?_,fun b xs e=>tups b xs (I.base.tups b xs e),fun b o xs e=>frzs b o xs (I.base.frzs b o xs e),fun b ps e=>?_⟩,?_,fun x c e=>?_,?_,fun x c e=>?_,fun p hp=>?_,hok,I.len⟩
 ·exact keep b o (neL b o e) hb (neC b o e hx) (I.base.keep b o e n hb hx) (I.base.free b o e n hx)
 ·obtain⟨sl,e1⟩:=I.base.slot b o e n hb hx;obtain⟨sl',e2⟩:=slot b _ (neL b o e) hb (neC b o e hx) e1 (I.base.free b o e n hx);exact⟨sl',e2⟩
 ·obtain⟨o',e1⟩:=I.base.there b o e hx;exact free b o' (neC b o e hx) e1 (I.base.free b o e n hx)
 ·obtain⟨o',e1⟩:=I.base.there b o e hx;exact there b o' (neC b o e hx) e1
 ·obtain⟨m1,e1⟩:=I.base.tbls b ps e;obtain⟨m2,e2⟩:=tbls b _ e1;exact⟨m1++m2,by rw[e2,Array.append_assoc]⟩
 ·obtain⟨m,hn,hl⟩:=I.loc;refine⟨m,ns m hn,fun i x v e1 e2 e3=>?_⟩;obtain⟨u,r,l⟩:=hl i x v e1 e2 e3;refine⟨u,r,?_⟩;rcases l with l|⟨k,c,e,z⟩
  ·exact .inl l
  ·exact .inr ⟨k,c,e,cellK x c e _ z⟩
 ·obtain⟨v,z⟩:=I.cell x c e;exact⟨v,cellK x c e v z⟩
 ·obtain⟨m,⟨o,_,_,ho,_⟩,_⟩:=I.loc;exact free _ o (fun z=>(hch _ z).2.1 rfl) ho I.free
 ·obtain⟨v,o,ho,hd⟩:=I.cell x c e;exact free c o (fun z=>(hch c z).2.2.1 x c e rfl) ho (I.freeC x c e)
 ·obtain⟨e,n,ne,nf,d⟩:=I.pin p hp;have nch:p.1∉ch:=fun z=>(hch p.1 z).2.2.2 p hp rfl;exact⟨keep p.1 p.2 ne nf nch e n,free p.1 p.2 nch e n,ne,nf,d⟩
theorem Inv.un {t':Nat}(I:Inv X pins σ H s)(u:Un X.fs [] H H' s.heap h')(hok:HOk X.prog X.w H' h'):Inv X pins σ H' {s with heap:=h',toks:=t'}:=by
 obtain⟨m,⟨o,es,ep,ho,r⟩,_⟩:=id I.loc;obtain⟨sl,hL⟩:=u.any ho I.free (by simp);exact I.step (g':=s.gens) (d':=s.drawn) (ch:=[]) (fun _ z=>nomatch z) (fun b o _ hb _ e n=>u.keep b o e n hb (by simp)) (fun b o _ hb _ e n=>u.slot b o e n hb (by simp)) (fun b o _ e n=>u.free b o e n (by simp)) (fun b o _ e=>u.there b o e (by simp)) u.tups u.frzs u.tbls (fun m' hm=>by
  obtain⟨o',es',ep',ho',r'⟩:=hm;rw[ho] at ho';cases ho';exact⟨_,es',ep',hL,r'⟩) hok I.bare
theorem Inv.call {g':Array GenState}{t':Nat}{d':Drawn}{ch:List Addr}(I:Inv X pins σ H s)(u:Un (frs X.stack) ch H H' s.heap h')(hok:HOk X.prog X.w H' h')(hg:AllBare g')
  (hch:∀b∈ch,(b∈X.ex\/X.s₀.heap.objs.size<=b)/\b≠X.env.locals/\(∀x c,X.env.cells.lookup x=some c->c≠b)/\∀p∈X.pn++pins,p.1≠b):
  Inv X pins σ H' {s with heap:=h',gens:=g',drawn:=d',toks:=t'}:=by
 obtain⟨m,⟨o,es,ep,ho,r⟩,_⟩:=id I.loc;obtain⟨sl,hL⟩:=u.any ho I.free fun z=>(hch _ z).2.1 rfl;exact I.step (ch:=ch) hch (fun b o hL hb hc e n=>u.keep b o e n (fun z=>(zY1.mp (I.stkSub b z)).elim hL hb) hc) (fun b o _ _ hc e n=>u.any e n hc) (fun b o hc e n=>u.free b o e n hc) (fun b o hc e=>u.there b o e hc) u.tups u.frzs u.tbls (fun m' hm=>by
  obtain⟨o',es',ep',ho',r'⟩:=hm;rw[ho] at ho';cases ho';exact⟨_,es',ep',hL,r'⟩) hok hg
theorem Inv.turned {t':Nat}{it:Addr}(I:Inv X pins σ H s)(k:∀b o,b≠it->s.heap.get? b=some o->h'.get? b=some o)(hn:H it=none)(hL:it≠X.env.locals)
  (h1:it∈X.ex\/X.s₀.heap.objs.size<=it) (h2:∀x c,X.env.cells.lookup x=some c->c≠it) (h3:∀p∈X.pn++pins,p.1≠it):Inv X pins σ H {s with heap:=h',toks:=t'}:=by
 have nit:∀b u,H b=some u->b≠it:=fun b u e z=>by rw[z,hn] at e;cases e
 refine I.step (g':=s.gens) (d':=s.drawn) (ch:=[it]) (fun b hb=>?_) (fun b o _ _ hc e _=>k b o (fun z=>hc (by simp[z])) e) (fun b o _ _ hc e _=>⟨o.slots,k b o (fun z=>hc (by simp[z])) e⟩) (fun _ _ _ _ n=>n)
  (fun b o hc e=>⟨o,k b o (fun z=>hc (by simp[z])) e⟩) (fun _ _ e=>e) (fun _ _ _ e=>e) (fun b ps e=>⟨#[],by rw[e];simp⟩) (fun m hm=>?_) (fun b u e=>?_) I.bare
 ·have e:b=it:=by simpa using hb
  subst e;exact⟨h1,hL,h2,h3⟩
 ·obtain⟨o,es,ep,ho,r⟩:=hm;exact⟨o,es,ep,k _ o (z22 hL) ho,r⟩
 ·refine (I.hok b u e).stay (fun c v hc q=>k c v ?_ q) (fun _ q=>q) fun _ _ q=>q;rcases hc with z|z
  ·rw[z];exact nit b u e
  ·exact nit c _ z
theorem Inv.tok (I:Inv X pins σ H s)(t:Nat):Inv X pins σ H {s with toks:=t}:=I.un (h':=s.heap) (t':=t) Un.refl I.hok
theorem Inv.kept {t':Nat}(I:Inv X pins σ H s)(k:∀b u,s.heap.get? b=some u->h'.get? b=some u):Inv X pins σ H {s with heap:=h',toks:=t'}:=I.un (Un.kept k) (I.hok.kept k)
theorem Inv.laid {a:Addr}{o:HO}{t':Nat}(I:Inv X pins σ H s)(k:∀b u,s.heap.get? b=some u->h'.get? b=some u)(hp:s.heap.objs.size<=a)(new:zP X.prog X.w (upd H a o) h' a o):
  Inv X pins σ (upd H a o) {s with heap:=h',toks:=t'}:=I.un (Un.laid k hp (I.hok.fresh hp)) (I.hok.laid k hp new)
theorem Inv.write {x e:Addr}{o:HO}{t':Nat}(I:Inv X pins σ H s)(mu:Mut (H x))(he:e=x\/H e=some (.own x))(k:∀b u,b≠e->s.heap.get? b=some u->h'.get? b=some u)(heo:∃u,h'.get? e=some u)
  (new:zP X.prog X.w (upd H x o) h' x o):Inv X pins σ (upd H x o) {s with heap:=h',toks:=t'}:=I.un (Un.write mu he k heo) (I.hok.write mu he k heo new)
theorem Inv.pins_of {pins':List (Addr×Obj)}(I:Inv X pins σ H s)(h:∀p∈pins',s.heap.get? p.1=some p.2/\H p.1=none/\p.1≠X.env.locals/\p.1∉X.fs/\∀v,p.2.data≠.cell v):Inv X pins' σ H s:=
 ⟨I.ok,I.os,I.bare,I.base,I.loc,I.cell,I.free,I.freeC,fun p hp=>(z36.mp hp).elim (fun z=>I.pin p (z64 _ z)) (h p),I.hok,I.len⟩
theorem kh {N:List Str}(hN:N.Nodup){i j:Nat}{x:Str}(a:N[i]?=some x)(b:N[j]?=some x):i=j:=by
 obtain⟨h1,e1⟩:=zY0.mp a;obtain⟨h2,e2⟩:=zY0.mp b;exact (List.getElem_inj hN).mp (e1.trans e2.symm)
theorem oW {M:Model}{A:Around}{E:Value->Shared->Prop}{i:Nat}{x:Str}{v:V}{u:Value}{Q:Unit->Shared->Prop}(I:Inv X pins σ H s)(hN:X.N.Nodup)(hi:X.N[i]?=some x)(hx:Loc X.env.scope x)(r:RelV v u)
  (h:∀s',Inv X pins (σ.set i (some v)) H s'->(∃a,Heap.SameBut a s.heap s'.heap/\(a=X.env.locals\/X.env.cells.lookup x=some a))->Q () s') (hf:X.fn x=true\/X.env.scope.names.lookup x=some .local:=by first|exact .inl rfl|exact .inr rfl|assumption):wpAny M A (storeName X.env x u) Q E s:=by
 obtain⟨m,hn,hl⟩:=id I.loc;have hcls:(X.env.scope.kind == .class||(X.env.scope.kind == .module&&X.env.locals != X.env.globals))=false:=by rw[I.ok.kind];rfl
 have hiσ:i<σ.length:=by rw[I.len];exact (zY0.mp hi).1
 have cne:=I.cne;have tracked:∀{a:Addr} {h':Heap},(∃o,s.heap.get? a=some o/\H a=none)->Heap.SameBut a s.heap h'->HOk X.prog X.w H h':=fun {a h'} ha hs b ob e=>by
  obtain⟨_,_,hfree⟩:=ha;refine (I.hok b ob e).stay (fun c w' hc q=>(hs.2 c ?_).trans q) (fun _ q=>q) fun _ _ q=>q;rintro rfl;rcases hc with rfl|hc
  ·rw[hfree] at e;cases e
  ·rw[hfree] at hc;cases hc
 rcases hx with hk|hk
 ·refine wpAny_storeName_local hk hn (fun h' hn' hs=>?_) hcls;obtain⟨oL,_,_,hoL,_⟩:=id hn;refine h _ ⟨I.ok,I.os,I.bare,⟨fun b o e n hb hx=>?_,fun b o e n hb hx=>?_,I.base.free,fun b o e hx=>?_,I.base.tups,I.base.frzs,I.base.tbls⟩,⟨_,hn',fun j y v' e1 e2 e3=>?_⟩,fun y c e=>?_,I.free,I.freeC,fun p hp=>?_,tracked ⟨oL,hoL,I.free⟩ hs,by simpa using I.len⟩ ⟨_,hs,.inl rfl⟩
  ·exact (hs.2 b (zZ7 (z01 (zY5 e) I.ok.above))).trans (I.base.keep b o e n hb hx)
  ·obtain⟨sl,e1⟩:=I.base.slot b o e n hb hx;exact⟨sl,(hs.2 b (zZ7 (z01 (zY5 e) I.ok.above))).trans e1⟩
  ·obtain⟨o',e1⟩:=I.base.there b o e hx;exact⟨o',(hs.2 b (zZ7 (z01 (zY5 e) I.ok.above))).trans e1⟩
  ·by_cases hj:j=i
   ·subst hj;rw[hi] at e1;cases e1;rw[z82 hiσ] at e2;cases e2;exact⟨u,r,.inl ⟨hk,by simp⟩⟩
   ·rw[z45 (z22 hj)] at e2;obtain⟨u',r',q⟩:=hl j y v' e1 e2 e3;refine⟨u',r',?_⟩;rcases q with ⟨k,e⟩|⟨k,c,e,z⟩
    ·refine .inl ⟨k,?_⟩;have:y≠x:=fun e=>hj (kh hN e1 (e▸hi));simp[this,e]
    ·exact .inr ⟨k,c,e,z.sameBut hs (cne y c e)⟩
  ·obtain⟨w',z⟩:=I.cell y c e;exact⟨w',z.sameBut hs (cne y c e)⟩
  ·obtain⟨e,n,ne,nf,d⟩:=I.pin p hp;exact⟨(hs.2 p.1 ne).trans e,n,ne,nf,d⟩
 ·have hfn:X.fn x=true:=by
   rcases hf with z|z
   ·exact z
   ·rw[z] at hk;cases hk
  obtain⟨c,hc⟩:=I.ok.has x (.inl hk);obtain⟨w',z⟩:=I.cell x c hc;refine wpAny_storeName_cell I.ok.kind hk hc z (fun h' hc' hs=>?_);obtain⟨oc,hoc,hocd⟩:=id z;refine h {s with heap:=h'} ⟨I.ok,I.os,I.bare,⟨fun b o e n hb hx=>?_,fun b o e n hb hx=>?_,I.base.free,fun b o e hx=>?_,I.base.tups,I.base.frzs,I.base.tbls⟩,⟨m,hn.sameBut hs (z22 (cne x c hc)),fun j y v' e1 e2 e3=>?_⟩,fun y c' e=>?_,I.free,I.freeC,fun p hp=>?_,tracked ⟨oc,hoc,I.freeC x c hc⟩ hs,by simpa using I.len⟩ ⟨c,hs,.inr hc⟩
  ·exact (hs.2 b (zZ7 (z01 (zY5 e) (I.ok.cab x c hfn hc)))).trans (I.base.keep b o e n hb hx)
  ·obtain⟨sl,e1⟩:=I.base.slot b o e n hb hx;exact⟨sl,(hs.2 b (zZ7 (z01 (zY5 e) (I.ok.cab x c hfn hc)))).trans e1⟩
  ·obtain⟨o',e1⟩:=I.base.there b o e hx;exact⟨o',(hs.2 b (zZ7 (z01 (zY5 e) (I.ok.cab x c hfn hc)))).trans e1⟩
  ·by_cases hj:j=i
   ·subst hj;rw[hi] at e1;cases e1;rw[z82 hiσ] at e2;cases e2;exact⟨u,r,.inr ⟨.inl hk,c,hc,hc'⟩⟩
   ·rw[z45 (z22 hj)] at e2;obtain⟨u',r',q⟩:=hl j y v' e1 e2 e3;refine⟨u',r',?_⟩;rcases q with q|⟨k,c',e,z'⟩
    ·exact .inl q
    ·refine .inr ⟨k,c',e,z'.sameBut hs ?_⟩;rintro rfl;exact hj (kh hN e1 (I.ok.inj _ _ _ e hc▸hi))
  ·by_cases hcc:c'=c
   ·subst hcc;exact⟨_,hc'⟩
   ·obtain⟨w2,z2⟩:=I.cell y c' e;exact⟨w2,z2.sameBut hs hcc⟩
  ·obtain⟨e,n,ne,nf,d⟩:=I.pin p hp;refine⟨(hs.2 p.1 ?_).trans e,n,ne,nf,d⟩;intro q;rw[q,hoc] at e;have q':oc=p.2:=z05 e;exact d w' (by rw[<-q'];exact hocd)
theorem ji {M:Model}{A:Around}{E:Value->Shared->Prop}{i:Nat}{x:Str}{v:V}{u:Value}{Q:Unit->Shared->Prop}(I:Inv X pins σ H s)(hN:X.N.Nodup)(hi:X.N[i]?=some x)(hx:Loc X.env.scope x)(r:RelV v u)
  (h:∀s',Inv X pins (σ.set i (some v)) H s'->Q () s') (hf:X.fn x=true\/X.env.scope.names.lookup x=some .local:=by first|exact .inl rfl|exact .inr rfl|assumption):wpAny M A (storeName X.env x u) Q E s:=
 oW I hN hi hx r (fun s' I' _=>h s' I') hf
theorem Inv.call' {s':Shared}{ch:List Addr}(I:Inv X pins σ H s)(ho:s'.os=s.os)(u:Un (frs X.stack) ch H H' s.heap s'.heap)(hok:HOk X.prog X.w H' s'.heap)(hg:AllBare s'.gens)
  (hch:∀b∈ch,(b∈X.ex\/X.s₀.heap.objs.size<=b)/\b≠X.env.locals/\(∀x c,X.env.cells.lookup x=some c->c≠b)/\∀p∈X.pn++pins,p.1≠b):Inv X pins σ H' s':=by
 obtain⟨h',g',d',t',o'⟩:=s';have e:o'=s.os:=ho;subst e;exact I.call (g':=g') (t':=t') (d':=d') u hok hg hch
end
abbrev XK :=Value->Option Addr->Hp->Prop
abbrev St :=List (Option V)
abbrev VK :=V->Hp->Prop
abbrev TE :=St->Hp->VK->Prop
abbrev TT :=St->Hp->(Bool->Hp->Prop)->Prop
abbrev TA :=St->Hp->(List V->Hp->Prop)->Prop
structure Ends where
 nx:St->Hp->Prop
 rt:VK
 bk:St->Hp->Prop:=fun _ _=>False
 ct:St->Hp->Prop:=fun _ _=>False
abbrev TS :=Ends->St->Hp->Prop
def EP (X:Cx)(pins:List (Addr×Obj))(σ:St)(Q:VK)(u:Value)(s':Shared):Prop:=∃v H',Inv X pins σ H' s'/\RelV v u/\Q v H'
def TP (X:Cx)(pins:List (Addr×Obj))(σ:St)(Q:Bool->Hp->Prop)(b:Bool)(s':Shared):Prop:=∃H',Inv X pins σ H' s'/\Q b H'
def AP (X:Cx)(pins:List (Addr×Obj))(σ:St)(Q:List V->Hp->Prop)(us:List Value)(s':Shared):Prop:=∃vs H',Inv X pins σ H' s'/\Vals vs us/\Q vs H'
def SP (X:Cx)(pins:List (Addr×Obj))(D:Ends)(f:Flow)(s':Shared):Prop:=
 match f with
 |.next=>∃σ' H',Inv X pins σ' H' s'/\D.nx σ' H'
 |.brk=>∃σ' H',Inv X pins σ' H' s'/\D.bk σ' H'
 |.cont=>∃σ' H',Inv X pins σ' H' s'/\D.ct σ' H'
 |.ret u=>∃v σ' H',Inv X pins σ' H' s'/\RelV v u/\D.rt v H'
def PE (X:Cx)(e:Expr)(t:TE):Prop:=
 ∀(pins:List (Addr×Obj)) (s:Shared) (σ:St) (H:Hp) (Q:VK),Inv X pins σ H s->t σ H Q->wpAny (model X.prog X.w) X.A (eval e X.env) (EP X pins σ Q) X.xe s
def PT (X:Cx)(e:Expr)(t:TT):Prop:=
 ∀(pins:List (Addr×Obj)) (s:Shared) (σ:St) (H:Hp) (Q:Bool->Hp->Prop),Inv X pins σ H s->t σ H Q->wpAny (model X.prog X.w) X.A (isTrue e X.env (eval e X.env)) (TP X pins σ Q) X.xe s
def PW (X:Cx)(e:Expr)(t:TT):Prop:=
 ∀(whole:Sem Value) (pins:List (Addr×Obj)) (s:Shared) (σ:St) (H:Hp) (Q:Bool->Hp->Prop),Inv X pins σ H s->t σ H Q->wpAny (model X.prog X.w) X.A (isTrue e X.env whole) (TP X pins σ Q) X.xe s
theorem PW.pt {X:Cx}{e:Expr}{t:TT}(h:PW X e t):PT X e t:=h _
def PA (X:Cx)(es:List Expr)(t:TA):Prop:=
 ∀(pos:Pos) (pins:List (Addr×Obj)) (s:Shared) (σ:St) (H:Hp) (Q:List V->Hp->Prop),Inv X pins σ H s->t σ H Q->wpAny (model X.prog X.w) X.A (spliced (backTo pos (starEach es X.env))) (AP X pins σ Q) X.xe s
def PS (X:Cx)(st:Stmt)(t:TS):Prop:=
 ∀(pins:List (Addr×Obj)) (s:Shared) (σ:St) (H:Hp) (D:Ends),Inv X pins σ H s->t D σ H->wpAny (model X.prog X.w) X.A (exec st X.env) (SP X pins D) X.xe s
def PSs (X:Cx)(st:List Stmt)(t:TS):Prop:=
 ∀(pins:List (Addr×Obj)) (s:Shared) (σ:St) (H:Hp) (D:Ends),Inv X pins σ H s->t D σ H->wpAny (model X.prog X.w) X.A (execs st X.env) (SP X pins D) X.xe s
theorem thn {α:Type}{t:Sem α}{Q Q':α->Shared->Prop}{M:Model}{A:Around}{E:Value->Shared->Prop}{s:Shared}(h:wpAny M A t Q E s)(hQ:∀a s,Q a s->Q' a s):wpAny M A t Q' E s:=z34 h hQ fun _ _ x=>x
section
variable {X:Cx}
theorem bin {a b:Expr}{ta tb:TE}(ha:PE X a ta)(hb:PE X b tb){pins:List (Addr×Obj)}{s:Shared}{σ:St}{H:Hp}{R:V->V->Hp->Prop}(I:Inv X pins σ H s)(h:ta σ H fun x H1=>tb σ H1 fun y H2=>R x y H2)
  {α:Type} {Q:α->Shared->Prop} {f:Value->Value->Sem α}
  (hf:∀v u s2 x y H2,Inv X pins σ H2 s2->RelV x v->RelV y u->R x y H2->wpAny (model X.prog X.w) X.A (f v u) Q X.xe s2):
  wpAny (model X.prog X.w) X.A (eval a X.env) (fun v s₁=>wpAny (model X.prog X.w) X.A (eval b X.env) (fun u s₂=>wpAny (model X.prog X.w) X.A (f v u) Q X.xe s₂) X.xe s₁) X.xe s:=by
 refine thn (ha pins s σ H _ I h) fun v s1 ⟨x,H1,I1,r1,q1⟩=>?_;refine thn (hb pins s1 σ H1 _ I1 q1) fun u s2 ⟨y,H2,I2,r2,q2⟩=>?_;exact hf v u s2 x y H2 I2 r1 r2 q2
def zK0 (i:Nat):TE:=fun σ H Q=>∃v,σ[i]?=some (some v)/\Q v H
def tC (v:V):TE:=fun _ H Q=>Q v H
theorem xK {i:Nat}{x:Str}{pos:Pos}(hN:X.N[i]?=some x)(hv:Vis X.env.scope x)(hd:(x == ("__debug__":Str))=false:=by decide)(hcd:(x == ("__classdict__":Str))=false:=by decide):PE X (.Name x pos) (zK0 i):=by
 intro pins s σ H Q I h;obtain⟨v,e,h⟩:=h;obtain⟨m,hn,hl⟩:=I.loc;obtain⟨u,r,l⟩:=hl i x v hN e hv;have fin:EP X pins σ Q u s:=⟨v,H,I,r,h⟩;rcases l with ⟨hk,hm⟩|⟨hk,c,hc,hcell⟩
 ·exact wpAny_Name (wpAny_loadName_local I.ok.kind hk hn hm fin) hd
 ·rcases hk with hk|hk
  ·exact wpAny_Name (wpAny_loadName_cell I.ok.kind hk hc hcell fin) hd
  ·exact wpAny_Name (wpAny_loadName_free I.ok.kind hk hc hcell fin hcd) hd
theorem zr {i j pos}:PE X (.Constant (.int i) j pos) (tC (.int i)):=fun _ _ _ H _ I h=>wpAny_Constant_int ⟨.int i,H,I.tok _,⟨_,rfl⟩,h⟩
theorem zO0 {b j pos}:PE X (.Constant (.bool b) j pos) (tC (.bl b)):=fun _ _ _ H _ I h=>Constant_bool ⟨.bl b,H,I,rfl,h⟩
theorem pe {j pos}:PE X (.Constant .none j pos) (tC .non):=fun _ _ _ H _ I h=>Constant_none ⟨.non,H,I,rfl,h⟩
theorem yx {x j pos}:PE X (.Constant (.str x) j pos) (tC (.str x)):=fun _ _ _ H _ I h=>Calls.Constant_str ⟨.str x,H,I.tok _,⟨_,rfl⟩,h⟩
def Gl (X:Cx)(x:Str):Prop:=X.env.kindOf x=some .globalImplicit
theorem rF {E:Value->Shared->Prop}{pins:List (Addr×Obj)}{s:Shared}{σ:St}{H:Hp}{x:Str}{u:Value}{pos:Pos}{Q:Value->Shared->Prop}(I:Inv X pins σ H s)(hg:Gl X x)(hm:X.mg x=some u)(h:Q u s)
  (hd:(x == ("__debug__":Str))=false:=by decide):wpAny (model X.prog X.w) X.A (eval (.Name x pos) X.env) Q E s:=
 Calls.Name_function_global I.ok.kind hg (Calls.loadGlobal_global (by rw[I.ok.glob];exact I.mod.glob.keeps I.bk) hm h) hd
theorem xA {E:Value->Shared->Prop}{pins:List (Addr×Obj)}{s:Shared}{σ:St}{H:Hp}{x:Str}{u:Value}{pos:Pos}{Q:Value->Shared->Prop}(I:Inv X pins σ H s)(hg:Gl X x)(hm:X.mg x=none)(hv:bootBuiltins x=some u)(h:Q u s)
  (hn:x≠"__name__":=by decide) (hd:(x == ("__debug__":Str))=false:=by decide):wpAny (model X.prog X.w) X.A (eval (.Name x pos) X.env) Q E s:=by
 obtain⟨mb,h1,h2⟩:=I.mod.blt;exact Calls.Name_function_global I.ok.kind hg (Calls.loadGlobal_builtin (by rw[I.ok.glob];exact I.mod.glob.keeps I.bk) hm (by rw[I.ok.blt];exact h1.keeps I.bk) ((h2 x hn).trans hv) h) hd
theorem tS {x:Str}{v:V}{u:Value}{pos:Pos}(hg:Gl X x)(hm:X.mg x=some u)(r:RelV v u)(hd:(x == ("__debug__":Str))=false:=by decide):PE X (.Name x pos) (tC v):=
 fun _ _ _ H _ I h=>rF I hg hm ⟨v,H,I,r,h⟩ hd
theorem ui {x:Str}{v:V}{u:Value}{pos:Pos}(hg:Gl X x)(hm:X.mg x=none)(hv:bootBuiltins x=some u)(r:RelV v u)(hn:x≠"__name__":=by decide)(hd:(x == ("__debug__":Str))=false:=by decide):PE X (.Name x pos) (tC v):=
 fun _ _ _ H _ I h=>xA I hg hm hv ⟨v,H,I,r,h⟩ hn hd
variable {a b:Expr}{ta tb:TE}{pos:Pos}
def PC (X:Cx)(op:CmpOp)(a b:Expr)(t:TE):Prop:=
 ∀(pins:List (Addr×Obj)) (s:Shared) (σ:St) (H:Hp) (Q:VK),Inv X pins σ H s->t σ H Q->
  wpAny (model X.prog X.w) X.A (eval a X.env) (fun v s₁=>wpAny (model X.prog X.w) X.A (eval b X.env) (fun u s₂=>wpAny (model X.prog X.w) X.A (compareOp op v u) (EP X pins σ Q) X.xe s₂) X.xe s₁) X.xe s
def tB (t:TE):TT:=fun σ H Q=>t σ H fun x H1=>∃c,x=.bl c/\Q c H1
theorem zX2 {op:CmpOp}{t:TE}(h:PC X op a b t)(h1:behindInMarks op b=false:=by first|exact nobehind _ (by decide) (by decide)|rfl):PT X (.Compare a [op] [b] pos) (tB t):=by
 intro pins s σ H Q I hw;refine wpAny_isTrue_Compare1 (thn (h pins s σ H _ I hw) fun v s1 h1=>thn h1 fun u s2 h2=>thn h2 fun c s3 ⟨x,H1,I1,r1,q1⟩=>?_) h1;obtain⟨d,rfl,q⟩:=q1;cases r1;exact z32 ⟨H1,I1,q⟩
theorem zb4 {e:Expr}{t:TE}(h:PE X e t)(he:∀whole,isTrue e X.env whole=(do let v <-whole;standAt e.pos;holding [v] (truthy v)):=by intro _;rfl):PT X e (tB t):=by
 intro pins s σ H Q I hw;refine isTrue_plain (thn (h pins s σ H _ I hw) fun v s1 ⟨x,H1,I1,r1,q1⟩=>?_) (he _);obtain⟨d,rfl,q⟩:=q1;cases r1;exact z32 ⟨H1,I1,q⟩
variable {tA tB':TT}{rest:List Expr}
def zU2 (t u:TT):TT:=fun σ H Q=>t σ H fun c H1=>if c=true then u σ H1 Q else Q false H1
def tOr (t u:TT):TT:=fun σ H Q=>t σ H fun c H1=>if c=true then Q true H1 else u σ H1 Q
def zW3 (t:TT):TT:=fun σ H Q=>t σ H fun c H1=>Q (!c) H1
theorem fg (ha:PT X a tA):PW X (.BoolOp .And [a] pos) tA:=by
 intro wh pins s σ H Q I h;refine isTrue_and (thn (ha pins s σ H Q I h) fun c s1 e=>?_);cases c with
 |true=>exact isTrue_and_nil e
 |false=>exact e
theorem ju (ha:PT X a tA):PW X (.BoolOp .Or [a] pos) tA:=by
 intro wh pins s σ H Q I h;refine isTrue_or (thn (ha pins s σ H Q I h) fun c s1 e=>?_);cases c with
 |false=>exact isTrue_or_nil e
 |true=>exact e
theorem ze1 (ha:PT X a tA)(hb:PW X (.BoolOp .And (b::rest) pos) tB'):PW X (.BoolOp .And (a::b::rest) pos) (zU2 tA tB'):=by
 intro wh pins s σ H Q I h;refine isTrue_and (thn (ha pins s σ H _ I h) fun c s1 ⟨H1,I1,q1⟩=>?_);cases c with
 |true=>exact hb wh pins s1 σ H1 Q I1 q1
 |false=>exact⟨H1,I1,q1⟩
theorem zj9 (ha:PT X a tA)(hb:PW X (.BoolOp .Or (b::rest) pos) tB'):PW X (.BoolOp .Or (a::b::rest) pos) (tOr tA tB'):=by
 intro wh pins s σ H Q I h;refine isTrue_or (thn (ha pins s σ H _ I h) fun c s1 ⟨H1,I1,q1⟩=>?_);cases c with
 |true=>exact⟨H1,I1,q1⟩
 |false=>exact hb wh pins s1 σ H1 Q I1 q1
theorem bH (ha:PT X a tA):PT X (.UnaryOp .Not a pos) (zW3 tA):=by
 intro pins s σ H Q I h;exact isTrue_not (ha pins s σ H (fun c H1=>Q (!c) H1) I h)
def zL5 (ta tb:TE):TE:=fun σ H Q=>ta σ H fun x H1=>∃c,x=.bl c/\if c=true then tb σ H1 Q else Q (.bl false) H1
def zU6 (ta tb:TE):TE:=fun σ H Q=>ta σ H fun x H1=>∃c,x=.bl c/\if c=true then Q (.bl true) H1 else tb σ H1 Q
def zN5 (ta:TE):TE:=fun σ H Q=>ta σ H fun x H1=>∃c,x=.bl c/\Q (.bl (!c)) H1
theorem wc {op}{t:TE}(h:PE X a t):PE X (.BoolOp op [a] pos) t:=fun pins s σ H Q I hw=>BoolOp_one (h pins s σ H Q I hw)
theorem xr (ha:PE X a ta)(hb:PE X (.BoolOp .And (b::rest) pos) tb):PE X (.BoolOp .And (a::b::rest) pos) (zL5 ta tb):=by
 intro pins s σ H Q I h;refine BoolOp_and (thn (ha pins s σ H _ I h) fun v s1 ⟨x,H1,I1,r1,q1⟩=>?_);obtain⟨c,rfl,q1⟩:=q1;cases r1;refine z32 ?_;cases c with
 |true=>exact hb pins s1 σ H1 Q I1 q1
 |false=>exact⟨.bl false,H1,I1,rfl,q1⟩
theorem aE (ha:PE X a ta)(hb:PE X (.BoolOp .Or (b::rest) pos) tb):PE X (.BoolOp .Or (a::b::rest) pos) (zU6 ta tb):=by
 intro pins s σ H Q I h;refine BoolOp_or (thn (ha pins s σ H _ I h) fun v s1 ⟨x,H1,I1,r1,q1⟩=>?_);obtain⟨c,rfl,q1⟩:=q1;cases r1;refine z32 ?_;cases c with
 |false=>exact hb pins s1 σ H1 Q I1 q1
 |true=>exact⟨.bl true,H1,I1,rfl,q1⟩
theorem zb8 (ha:PE X a ta):PE X (.UnaryOp .Not a pos) (zN5 ta):=by
 intro pins s σ H Q I h;refine UnaryOp_ (thn (ha pins s σ H _ I h) fun v s1 ⟨x,H1,I1,r1,q1⟩=>?_);obtain⟨c,rfl,q1⟩:=q1;cases r1;exact not_of (z32 ⟨.bl (!c),H1,I1,rfl,q1⟩)
def tIf (t:TT)(ta tb:TE):TE:=fun σ H Q=>t σ H fun c H1=>if c=true then ta σ H1 Q else tb σ H1 Q
theorem zn2 {c:Expr}(hc:PT X c tA)(ha:PE X a ta)(hb:PE X b tb):PE X (.IfExp c a b pos) (tIf tA ta tb):=by
 intro pins s σ H Q I h;refine wpAny_IfExp (thn (hc pins s σ H _ I h) fun d s1 ⟨H1,I1,q1⟩=>?_);cases d with
 |true=>exact ha pins s1 σ H1 Q I1 q1
 |false=>exact hb pins s1 σ H1 Q I1 q1
end
def SqL (K:PySem.W.Frag)(H:Hp)(a:Addr)(xs:List V):Prop:=
 Rd H a (.lst xs)\/
  ∃(o:Obj) (its:Array Value) (n:Nat),K.lookup a=some o/\o.cls=.type "list"/\o.dict=none/\o.data=.seq its n/\its.size<=sizeLine/\Vals xs its.toList
def SqT (K:PySem.W.Frag)(H:Hp)(a:Addr)(xs:List V):Prop:=
 Rd H a (.tup xs)\/
  ∃(o:Obj) (its:Array Value) (n:Nat),K.lookup a=some o/\o.cls=.type "tuple"/\o.data=.seq its n/\its.size<=sizeLine/\Vals xs its.toList
noncomputable def zX1 :Value->Option V
 |.none=>some .non
 |.bool b=>some (.bl b)
 |.int i _=>some (.int i)
 |.str x _=>some (.str x)
 |.bytes b _=>some (.byt b)
 |.float b _=>some (.flt b)
 |.ref a=>some (.ref a)
 |.type n=>some (.ty n)
 |_=>none
theorem RelV.abs {x:V}{u:Value}(r:RelV x u):zX1 u=some x:=by
 cases x with
 |non=>cases r;rfl
 |bl _=>cases r;rfl
 |int _=>obtain⟨t,rfl⟩:=r;rfl
 |str _=>obtain⟨t,rfl⟩:=r;rfl
 |byt _=>obtain⟨t,rfl⟩:=r;rfl
 |flt _=>obtain⟨t,rfl⟩:=r;rfl
 |ref _=>cases r;rfl
 |ty _=>cases r;rfl
theorem RelV.inj {x y:V}{u:Value}(r:RelV x u)(q:RelV y u):x=y:=z05 (r.abs.symm.trans q.abs)
theorem Vals.inj :∀{xs ys:List V} {us:List Value},Vals xs us->Vals ys us->xs=ys
 |_,_,_,.nil,.nil=>rfl
 |_,_,_,.cons r t,.cons r' t'=>by rw[r.inj r',Vals.inj t t']
section
variable {X:Cx}{pins:List (Addr×Obj)}{σ:St}{H:Hp}{s:Shared}{a:Addr}{xs ys:List V}
theorem SqL.of {K:PySem.W.Frag}(h:H a=some (.lst xs)):SqL K H a xs:=.inl (.inl h)
theorem SqT.of {K:PySem.W.Frag}(h:H a=some (.tup xs)):SqT K H a xs:=.inl (.inl h)
theorem Inv.list (I:Inv X pins σ H s)(h:SqL X.K H a xs):∃its:List Value,Vals xs its/\PlainL s.heap a its.toArray/\xs.length<=sizeLine:=by
 rcases h with h|⟨o,its,n,hk,hc,hd,hs,hz,r⟩
 ·obtain⟨z,its,n,r,e⟩:=h.ok I.hok;exact⟨its,r,⟨_,n,e,rfl,rfl,rfl⟩,z⟩
 ·refine⟨its.toList,r,⟨o,n,I.kIn a o hk,hc,hd,by simpa using hs⟩,?_⟩;have e:=r.length;simp only[yf9] at e;omega
theorem Inv.tuple (I:Inv X pins σ H s)(h:SqT X.K H a xs):∃its:List Value,Vals xs its/\IsTup s.heap a its.toArray/\xs.length<=sizeLine:=by
 rcases h with h|⟨o,its,n,hk,hc,hs,hz,r⟩
 ·obtain⟨z,its,r,p⟩:=h.ok I.hok;exact⟨its,r,p,z⟩
 ·refine⟨its.toList,r,⟨o,I.kIn a o hk,hc,n,by simpa using hs⟩,?_⟩;have e:=r.length;simp only[yf9] at e;omega
theorem Inv.list_inj (I:Inv X pins σ H s)(h:SqL X.K H a xs)(h':SqL X.K H a ys):xs=ys:=by
 obtain⟨its,r,⟨o,n,e,_,_,d⟩,_⟩:=I.list h;obtain⟨its',r',⟨o',n',e',_,_,d'⟩,_⟩:=I.list h';rw[e] at e';cases e';rw[d] at d';injection d' with d1 _;have:its=its':=by simpa using congrArg Array.toList d1
 subst this;exact r.inj r'
theorem Inv.tuple_inj (I:Inv X pins σ H s)(h:SqT X.K H a xs)(h':SqT X.K H a ys):xs=ys:=by
 obtain⟨its,r,⟨o,e,_,n,d⟩,_⟩:=I.tuple h;obtain⟨its',r',⟨o',e',_,n',d'⟩,_⟩:=I.tuple h';rw[e] at e';cases e';rw[d] at d';injection d' with d1 _;have:its=its':=by simpa using congrArg Array.toList d1
 subst this;exact r.inj r'
end
noncomputable abbrev Cx.wish (X:Cx)(E:Value->Shared->Prop):Cx:={X with xe:=E}
noncomputable abbrev Cx.nox (X:Cx):Cx:=X.wish fun _ _=>False
theorem Cx.Ok.wish {X:Cx}(ok:X.Ok)(E:Value->Shared->Prop):(X.wish E).Ok:=
 ⟨ok.mod,ok.kind,ok.glob,ok.blt,ok.above,ok.inj,ok.has,ok.cab,ok.hd,ok.frames,ok.stk,ok.exf,ok.bs,ok.bsz,ok.noex,ok.exfs,ok.funs,ok.frf⟩
theorem Cx.Ok.unwish {X:Cx}{E:Value->Shared->Prop}(ok:(X.wish E).Ok):X.Ok:=
 ⟨ok.mod,ok.kind,ok.glob,ok.blt,ok.above,ok.inj,ok.has,ok.cab,ok.hd,ok.frames,ok.stk,ok.exf,ok.bs,ok.bsz,ok.noex,ok.exfs,ok.funs,ok.frf⟩
section
variable {X:Cx}{pins:List (Addr×Obj)}{σ:St}{H:Hp}{s:Shared}{E:Value->Shared->Prop}
theorem Inv.wish (I:Inv X pins σ H s)(E:Value->Shared->Prop):Inv (X.wish E) pins σ H s:=⟨I.ok.wish E,I.os,I.bare,I.base,I.loc,I.cell,I.free,I.freeC,I.pin,I.hok,I.len⟩
theorem Inv.unwish (I:Inv (X.wish E) pins σ H s):Inv X pins σ H s:=⟨I.ok.unwish,I.os,I.bare,I.base,I.loc,I.cell,I.free,I.freeC,I.pin,I.hok,I.len⟩
theorem SP.unwish {D:Ends}{f:Flow}{s':Shared}(h:SP (X.wish E) pins D f s'):SP X pins D f s':=by
 cases f with
 |next=>obtain⟨σ',H',I,q⟩:=h;exact⟨σ',H',I.unwish,q⟩
 |brk=>obtain⟨σ',H',I,q⟩:=h;exact⟨σ',H',I.unwish,q⟩
 |cont=>obtain⟨σ',H',I,q⟩:=h;exact⟨σ',H',I.unwish,q⟩
 |ret u=>obtain⟨v,σ',H',I,r,q⟩:=h;exact⟨v,σ',H',I.unwish,r,q⟩
theorem PSs.nox {st:List Stmt}{t:TS}(h:PSs X.nox st t):PSs X st t:=fun pins s σ H D I hw=>
 z34 (h pins s σ H D (I.wish _) hw) (fun _ _ q=>q.unwish) fun _ _ z=>False.elim z
end
section
variable {X:Cx}{st:Stmt}{rest:List Stmt}{t u:TS}{e:Expr}{te:TE}{pos:Pos}
def zM8 :TS:=fun D σ H=>D.nx σ H
def zM9 (t u:TS):TS:=fun D σ H=>t {D with nx:=u D} σ H
theorem yK :PSs X [] zM8:=fun _ _ σ H _ I h=>ye8 ⟨σ,H,I,h⟩
theorem zN (h1:PS X st t)(h2:PSs X rest u):PSs X (st::rest) (zM9 t u):=by
 intro pins s σ H D I h;refine wpAny_execs_cons (thn (h1 pins s σ H {D with nx:=u D} I h) fun f s1 q=>?_);cases f with
 |next=>
  obtain⟨σ',H',I',q⟩:=q;exact h2 pins s1 σ' H' D I' q
 |ret v=>exact q
 |brk=>exact q
 |cont=>exact q
theorem zw (h1:PS X st t):PSs X [st] t:=by
 intro pins s σ H D I h;refine wpAny_execs_cons (thn (h1 pins s σ H D I h) fun f s1 q=>?_);cases f with
 |next=>exact ye8 q
 |ret v=>exact q
 |brk=>exact q
 |cont=>exact q
theorem Inv.quiet {pins:List (Addr×Obj)}{σ:St}{H:Hp}{s:Shared}(I:Inv X pins σ H s):interactive X.env=false:=by simp[interactive,I.ok.kind]
def zT2 (te:TE):TS:=fun D σ H=>te σ H fun _ H1=>D.nx σ H1
theorem eu (he:PE X e te)(hs:swapsWith e none pos.line X.env=pure false:=by rfl):PS X (.Expr e pos) (zT2 te):=by
 intro pins s σ H D I h;exact wpAny_Expr_any (thn (he pins s σ H _ I h) fun v s1 ⟨x,H1,I1,r1,q1⟩=>⟨σ,H1,I1,q1⟩) I.quiet hs
def zX4 (te:TE):TS:=fun D σ H=>te σ H D.rt
theorem zC (he:PE X e te):PS X (.Return (some e) pos) (zX4 te):=by
 intro pins s σ H D I h;exact wpAny_Return_some (thn (he pins s σ H _ I h) fun v s1 ⟨x,H1,I1,r1,q1⟩=>⟨x,σ,H1,I1,r1,q1⟩)
def zU3 (c:TT)(t u:TS):TS:=fun D σ H=>c σ H fun b H1=>if b=true then t D σ H1 else u D σ H1
theorem wx {c:Expr}{a b:List Stmt}{tc:TT}(hc:PT X c tc)(ha:PSs X a t)(hb:PSs X b u):PS X (.If c a b pos) (zU3 tc t u):=by
 intro pins s σ H D I h;refine wpAny_If (thn (hc pins s σ H _ I h) fun d s1 ⟨H1,I1,q1⟩=>?_);cases d with
 |true=>exact ha pins s1 σ H1 D I1 q1
 |false=>exact hb pins s1 σ H1 D I1 q1
end
abbrev TG :=V->St->Hp->(St->Hp->Prop)->Prop
abbrev TGs :=List V->St->Hp->(St->Hp->Prop)->Prop
def PG (X:Cx)(target:Expr)(t:TG):Prop:=
 ∀(pins:List (Addr×Obj)) (s:Shared) (σ:St) (H:Hp) (v:V) (u:Value) (Q:St->Hp->Prop),Inv X pins σ H s->RelV v u->t v σ H Q->
  wpAny (model X.prog X.w) X.A (assign target X.env u) (fun _ s'=>∃σ' H',Inv X pins σ' H' s'/\Q σ' H') X.xe s
def PGs (X:Cx)(ts:List Expr)(t:TGs):Prop:=
 ∀(pins:List (Addr×Obj)) (s:Shared) (σ:St) (H:Hp) (vs:List V) (us:List Value) (Q:St->Hp->Prop),Inv X pins σ H s->Vals vs us->t vs σ H Q->
  wpAny (model X.prog X.w) X.A (assignInOrder ((assignEach ts X.env).map (·.2)) us) (fun _ s'=>∃σ' H',Inv X pins σ' H' s'/\Q σ' H') X.xe s
abbrev zH2 :=V->V->V->Hp->(Hp->Prop)->Prop
def zT0 (X:Cx)(t:zH2):Prop:=
 ∀(pins:List (Addr×Obj)) (s:Shared) (σ:St) (H:Hp) (o i v:V) (ov iv u:Value) (Q:Hp->Prop),Inv X pins σ H s->RelV o ov->RelV i iv->RelV v u->t o i v H Q->
  wpAny (model X.prog X.w) X.A (setItem ov iv u) (fun _ s'=>∃H',Inv X pins σ H' s'/\Q H') X.xe s
section
variable {X:Cx}{pos:Pos}
def ox (i:Nat):TG:=fun v σ H Q=>Q (σ.set i (some v)) H
theorem zU {i:Nat}{x:Str}(hN:X.N.Nodup)(hi:X.N[i]?=some x)(hx:Loc X.env.scope x)(hf:X.fn x=true\/X.env.scope.names.lookup x=some .local:=by first|exact .inl rfl|exact .inr rfl|assumption):PG X (.Name x pos) (ox i):=by
 intro pins s σ H v u Q I r h;exact wpAny_assign_Name (ji I hN hi hx r (fun s' I'=>⟨_,H,I',h⟩) hf)
def zO2 :TGs:=fun vs σ H Q=>vs=[]/\Q σ H
def zy7 (t:TG)(u:TGs):TGs:=fun vs σ H Q=>∃v r,vs=v::r/\t v σ H fun σ' H'=>u r σ' H' Q
theorem tR :PGs X [] zO2:=by
 intro pins s σ H vs us Q I r h;obtain⟨e,h⟩:=h;subst e;cases r;exact assignInOrder_nil ⟨σ,H,I,h⟩
theorem xX {e:Expr}{es:List Expr}{t:TG}{u:TGs}(h1:PG X e t)(h2:PGs X es u)
  (hs:(assignEach (e::es) X.env).map (·.2)=assign e X.env::(assignEach es X.env).map (·.2):=by rfl):PGs X (e::es) (zy7 t u):=by
 intro pins s σ H vs us Q I r h;obtain⟨v,vr,e1,h⟩:=h;subst e1;cases r with
 |cons r rr=>
  rw[hs];refine assignInOrder_cons (thn (h1 pins s σ H _ _ _ I r h) fun _ s1 ⟨σ1,H1,I1,q1⟩=>?_);exact h2 pins s1 σ1 H1 _ _ Q I1 rr q1
def zL2 (K:PySem.W.Frag)(n:Nat)(t:TGs):TG:=fun v σ H Q=>∃a xs,v=.ref a/\SqT K H a xs/\xs.length=n/\t xs σ H Q
theorem zE3 {es:List Expr}{k:Nat}{t:TGs}{n:Nat}(hc:X.calm=true)(h:PGs X es t)
  (hn:(assignEach es X.env).length=n:=by rfl) (hst:(assignEach es X.env).findIdx? (·.1)=none:=by rfl):PG X (.Tuple es k pos) (zL2 X.K n t):=by
 intro pins s σ H v u Q I r hw;obtain⟨a,xs,e1,hq,hl,hw⟩:=hw;subst e1;cases r;obtain⟨its,rv,ht,hz⟩:=I.tuple hq;refine assign_Tuple_tuple (I.ok.hd hc) ht (by simp[hn,<-hl,rv.length]) hst fun h' hx=>?_;have I1:Inv X pins σ H {s with heap:=h'}:=I.kept (t':=s.toks) fun b o e=>hx b o (zZ7 (zY5 e)) e;exact h pins _ σ H xs _ Q I1 (by simpa using rv) hw
def zT6 (to ti:TE)(t:zH2):TG:=fun v σ H Q=>to σ H fun o H1=>ti σ H1 fun i H2=>t o i v H2 fun H3=>Q σ H3
theorem jy {o i:Expr}{to ti:TE}{t:zH2}(ho:PE X o to)(hi:PE X i ti)(hs:zT0 X t)
  (ha:∀v,assign (.Subscript o i pos) X.env v=(do
   let ov <-holding [v] (eval o X.env)
   let iv <-holding [v,ov] (eval i X.env)
   standAt pos
   holding [v,ov,iv] (setItem ov iv v)
   release [v,ov,iv] []):=by intro _;rfl):PG X (.Subscript o i pos) (zT6 to ti t):=by
 intro pins s σ H v u Q I r h;rw[ha];refine zX6 (z48 (thn (ho pins s σ H _ I h) fun ov s1 ⟨x,H1,I1,r1,q1⟩=>?_));refine zX6 (z48 (thn (hi pins s1 σ H1 _ I1 q1) fun iv s2 ⟨y,H2,I2,r2,q2⟩=>?_));refine zX6 (wpAny_standAt (zX6 (z48 (thn (hs pins s2 σ H2 x y v ov iv u _ I2 r1 r2 r q2) fun _ s3 ⟨H3,I3,q3⟩=>?_))));exact wpAny_release ⟨σ,H3,I3,q3⟩
def zH4 (te:TE)(g:TG):TS:=fun D σ H=>te σ H fun x H1=>g x σ H1 D.nx
theorem jF {tg e:Expr}{te:TE}{g:TG}(he:PE X e te)(hg:PG X tg g)(hs:swapsWithSole [tg] e pos.line X.env=pure false:=by rfl)(hw:swappedStores [tg] e X.env=pure none:=by rfl)
  (h1:(assignEach [tg] X.env).map (·.2)=[assign tg X.env]:=by rfl):PS X (.Assign [tg] e pos) (zH4 te g):=by
 intro pins s σ H D I h;refine wpAny_Assign_stores (thn (he pins s σ H _ I h) fun v s1 ⟨x,H1,I1,r1,q1⟩=>?_) hs hw;rw[h1];exact thn (hg pins s1 σ H1 x v _ I1 r1 q1) fun _ s2 q=>q
theorem wY {i:Nat}{x:Str}{e:Expr}{te:TE}{pos':Pos}(hN:X.N.Nodup)(hi:X.N[i]?=some x)(hx:Loc X.env.scope x)(he:PE X e te)(hs:swapsWith e (some (.Name x pos')) pos.line X.env=pure false:=by rfl)(hf:X.fn x=true\/X.env.scope.names.lookup x=some .local:=by first|exact .inl rfl|exact .inr rfl|assumption):
  PS X (.Assign [.Name x pos'] e pos) (zH4 te (ox i)):=by
 intro pins s σ H D I h;refine wpAny_Assign_Name (thn (he pins s σ H _ I h) fun v s1 ⟨y,H1,I1,r1,q1⟩=>?_) hs;exact ji I1 hN hi hx r1 (fun s2 I2=>⟨_,H1,I2,q1⟩) hf
end
section
variable {X:Cx}{pos:Pos}
def zF8 (c:TT)(tb:TS):TS:=fun D σ H=>∃W:Nat->St->Hp->Prop,(∃m,W m σ H)/\∀m σ H,W m σ H->
 c σ H fun b H1=>if b=true then ∃N:St->Hp->Prop,(∀σ' H',N σ' H'->∃m',m'<m/\W m' σ' H')/\tb {D with nx:=N,ct:=N,bk:=D.nx} σ H1 else D.nx σ H1
theorem lY {c:Expr}{body:List Stmt}{tc:TT}{tb:TS}(hp:PassesOwn (model X.prog X.w) X.A X.env X.xe)(hc:PT X c tc)(hb:PSs X body tb):PS X (.While c body [] pos) (zF8 tc tb):=by
 intro pins s σ H D I h;obtain⟨W,⟨m0,w0⟩,turn⟩:=h;refine wpAny_While (codeAny_whileLoop (fun n s'=>∃σ' H',Inv X pins σ' H' s'/\W n σ' H') ?_ m0 ⟨σ,H,I,w0⟩);rintro n s1 ⟨σ1,H1,I1,w1⟩;refine z86 hp (thn (hc pins s1 σ1 H1 _ I1 (turn n σ1 H1 w1)) fun b s2 ⟨H2,I2,q2⟩=>?_);cases b with
 |true=>
  obtain⟨N,hN,q2⟩:=q2;rw[if_pos rfl];refine z86 hp (thn (hb pins s2 σ1 H2 _ I2 q2) fun f s3 q3=>?_);cases f with
  |next=>
   obtain⟨σ3,H3,I3,n3⟩:=q3;obtain⟨m',hm,w3⟩:=hN σ3 H3 n3;exact⟨m',hm,σ3,H3,I3,w3⟩
  |cont=>
   obtain⟨σ3,H3,I3,n3⟩:=q3;obtain⟨m',hm,w3⟩:=hN σ3 H3 n3;exact⟨m',hm,σ3,H3,I3,w3⟩
  |brk=>exact q3
  |ret v=>exact q3
 |false=>
  rw[if_neg zZ5];exact ye8 ⟨σ1,H2,I2,q2⟩
end
structure It where
 go:Nat->Hp->Prop
 yld:Nat->Hp->V->Hp->Prop
 stop:Nat->Hp->Prop
def xH (X:Cx)(pins:List (Addr×Obj))(H:Hp)(b:Addr):Prop:=
 H b=none/\b≠X.env.locals/\b∉X.fs/\(b∈X.ex\/X.s₀.heap.objs.size<=b)/\(∀x c,X.env.cells.lookup x=some c->c≠b)/\∀p∈X.pn++pins,p.1≠b
theorem Inv.fpOk {X:Cx}{pins:List (Addr×Obj)}{σ:St}{H H':Hp}{s:Shared}{b:Addr}(I:Inv X pins σ H s)(hb:s.heap.objs.size<=b)(hn:H' b=none):xH X pins H' b:=by
 refine⟨hn,z95 (z01 I.lt hb),I.nofs hb,.inr (z35 I.sz hb),fun x c e z=>?_,fun p hp z=>?_⟩
 ·obtain⟨v,q⟩:=I.cell x c e;exact absurd (z01 q.lt (by rw[z];exact hb)) (z47 _)
 ·exact absurd (z01 (zY5 (I.pin p hp).1) (by rw[z];exact hb)) (z47 _)
structure Turn (P:Program)(w:World)(K:PySem.W.Frag)(tg:Expr)(J:It)(fp:List Addr)(it:Addr)(tn:Nat->Heap->Prop):Prop where
 mem:it∈fp
 obj:∀i h,tn i h->∀b∈fp,∃o,h.get? b=some o/\∀v,o.data≠.cell v
 keep:∀i h h',tn i h->(∀b∈fp,∀o,h.get? b=some o->h'.get? b=some o)->tn i h'
 item:∀(X:Cx),X.prog=P->X.w=w->X.K=K->X.calm=true->∀(i:Nat) (pins:List (Addr×Obj)) (s:Shared) (σ:St) (H:Hp) (E:Value->Shared->Prop),Inv X pins σ H s->(∀b∈fp,xH X pins H b)->tn i s.heap->J.go i H->
  wpAny (model P w) X.A (pyNext (.ref it)) (fun r s1=>∃u,r=some u/\
   wpAny (model P w) X.A (letOwnedTupleGo tg (.ref it) u) (fun _ s2=>∃x H',Inv X pins σ H' s2/\RelV x u/\J.yld i H x H'/\tn (i+1) s2.heap/\∀b∈fp,H' b=none) E s1) E s
 done:∀(X:Cx),X.prog=P->X.w=w->X.K=K->X.calm=true->∀(i:Nat) (pins:List (Addr×Obj)) (s:Shared) (σ:St) (H:Hp) (E:Value->Shared->Prop),Inv X pins σ H s->(∀b∈fp,xH X pins H b)->tn i s.heap->J.stop i H->
  wpAny (model P w) X.A (pyNext (.ref it)) (fun r s1=>r=none/\Inv X pins σ H s1) E s
 self:∀(A:Around) (i:Nat) (s:Shared) (Q:Value->Shared->Prop) (E:Value->Shared->Prop),tn i s.heap->Q (.ref it) s->wpAny (model P w) A (pyIter (.ref it)) Q E s
abbrev TI :=St->Hp->(It->Hp->Prop)->Prop
def PIE (X:Cx)(pins:List (Addr×Obj))(σ:St)(tg:Expr)(R:It->Hp->Prop)(itv:Value)(s2:Shared):Prop:=
 ∃(it:Addr) (fp:List Addr) (tn:Nat->Heap->Prop) (J:It) (H':Hp),itv=.ref it/\Inv X pins σ H' s2/\Turn X.prog X.w X.K tg J fp it tn/\tn 0 s2.heap/\(∀b∈fp,xH X pins H' b)/\R J H'
def PI (X:Cx)(tg iter:Expr)(wi:TI):Prop:=
 ∀(pins:List (Addr×Obj)) (s:Shared) (σ:St) (H:Hp) (R:It->Hp->Prop),Inv X pins σ H s->wi σ H R->
  wpAny (model X.prog X.w) X.A (eval iter X.env) (fun v s1=>wpAny (model X.prog X.w) X.A (pyIter v) (PIE X pins σ tg R) X.xe s1) X.xe s
theorem oG {M:Model}{A:Around}{E:Value->Shared->Prop}{s:Shared}{tg:Expr}{it:Addr}{u:Value}{o:Obj}{n:String}{vs:Array Value}{Q:Unit->Shared->Prop}(ho:s.heap.get? it=some o)(hc:o.cls=.type n)(hd:o.data=.fields vs)
  (hn:["enumerate","zip","dict_itemiterator","dict_reverseitemiterator","odict_iterator","itertools.zip_longest","itertools.pairwise"].contains n=false) (hQ:Q () s):wpAny M A (letOwnedTupleGo tg (.ref it) u) Q E s:=by
 unfold letOwnedTupleGo;cases tg<;>first
  |exact zY8 hQ
  |(cases u<;>first
    |exact zY8 hQ
    |(refine zX6 (wpAny_load ho ?_)
      rw[hc,hd];show wpAny M A (if (["enumerate","zip","dict_itemiterator","dict_reverseitemiterator","odict_iterator","itertools.zip_longest","itertools.pairwise"].contains n&&vs[0]? == some (rawInt _))=true then _ else _) Q E s;rw[if_neg (by intro h;rw[hn,z26] at h;cases h)];exact zY8 hQ))
noncomputable def Itl (K:PySem.W.Frag)(a:Addr):It:=
 ⟨fun i H=>∃xs x,SqL K H a xs/\xs[i]?=some x,fun i H x H'=>H'=H/\∀xs,SqL K H a xs->xs[i]?=some x,fun i H=>∃xs,SqL K H a xs/\xs.length<=i⟩
noncomputable def Itt (K:PySem.W.Frag)(a:Addr):It:=
 ⟨fun i H=>∃xs x,SqT K H a xs/\xs[i]?=some x,fun i H x H'=>H'=H/\∀xs,SqT K H a xs->xs[i]?=some x,fun i H=>∃xs,SqT K H a xs/\xs.length<=i⟩
noncomputable def Itr (lo:Int)(n:Nat):It:=⟨fun i _=>i<n,fun i H x H'=>H'=H/\x=.int (lo+i),fun i _=>n<=i⟩
theorem cO {P:Program}{w:World}{K:PySem.W.Frag}{tg:Expr}(a it:Addr):Turn P w K tg (Itl K a) [it] it (fun i h=>h.IsListIter it a i) where
 mem:=by simp
 obj:=fun i h st b hb=>by
  have e:b=it:=by simpa using hb
  subst e;obtain⟨o,e,c,d⟩:=st;exact⟨o,e,fun v z=>by rw[d] at z;cases z⟩
 keep:=fun i h h' st k=>st.at fun o e=>k it (by simp) o e
 item:=by
  intro X hP hw hK hc i pins s σ H E I hf st hg;subst hP hw hK;obtain⟨xs,x,hq,hx⟩:=hg;obtain⟨its,rv,p,hz⟩:=I.list hq;obtain⟨u,hu,ru⟩:=rv.get hx;obtain⟨f0,f1,f2,f3,f4,f5⟩:=hf it (by simp);refine wpAny_pyNext_list_item st p.isList (x:=u) (by simpa using hu) fun h' st' sb=>?_;have I1:Inv X pins σ H {s with heap:=h'}:=I.turned (t':=s.toks) (fun b o hb e=>(sb.2 b hb).trans e) f0 f1 f3 f4 f5;obtain⟨o,e,c,d⟩:=id st';exact⟨u,rfl,oG (s:={s with heap:=h'}) e c d (by decide) ⟨x,H,I1,ru,⟨rfl,fun ys hy=>by rw[I.list_inj hy hq];exact hx⟩,st',fun b hb=>(hf b hb).1⟩⟩
 done:=by
  intro X hP hw hK hc i pins s σ H E I hf st hg;subst hP hw hK;obtain⟨xs,hq,hx⟩:=hg;obtain⟨its,rv,p,hz⟩:=I.list hq;obtain⟨f0,f1,f2,f3,f4,f5⟩:=hf it (by simp);have hl:=rv.length;exact wpAny_pyNext_list_end (I.ok.hd hc) st p.isList (by simp;omega) fun h' eb=>⟨rfl,I.turned (t':=s.toks) (fun b o hb e=>eb b o hb e) f0 f1 f3 f4 f5⟩
 self:=fun _ _ _ _ _ st h=>wpAny_pyIter_listiter st h
theorem jG {P:Program}{w:World}{K:PySem.W.Frag}{tg:Expr}(a it:Addr):Turn P w K tg (Itt K a) [it] it (fun i h=>h.IsTupleIter it a i) where
 mem:=by simp
 obj:=fun i h st b hb=>by
  have e:b=it:=by simpa using hb
  subst e;obtain⟨o,e,c,d⟩:=st;exact⟨o,e,fun v z=>by rw[d] at z;cases z⟩
 keep:=fun i h h' st k=>st.at fun o e=>k it (by simp) o e
 item:=by
  intro X hP hw hK hc i pins s σ H E I hf st hg;subst hP hw hK;obtain⟨xs,x,hq,hx⟩:=hg;obtain⟨its,rv,p,hz⟩:=I.tuple hq;obtain⟨u,hu,ru⟩:=rv.get hx;obtain⟨f0,f1,f2,f3,f4,f5⟩:=hf it (by simp);refine wpAny_pyNext_tuple_item st (show s.heap.IsTuple a its.toArray from p) (x:=u) (by simpa using hu) fun h' st' sb=>?_;have I1:Inv X pins σ H {s with heap:=h'}:=I.turned (t':=s.toks) (fun b o hb e=>(sb.2 b hb).trans e) f0 f1 f3 f4 f5;obtain⟨o,e,c,d⟩:=id st';exact⟨u,rfl,oG (s:={s with heap:=h'}) e c d (by decide) ⟨x,H,I1,ru,⟨rfl,fun ys hy=>by rw[I.tuple_inj hy hq];exact hx⟩,st',fun b hb=>(hf b hb).1⟩⟩
 done:=by
  intro X hP hw hK hc i pins s σ H E I hf st hg;subst hP hw hK;obtain⟨xs,hq,hx⟩:=hg;obtain⟨its,rv,p,hz⟩:=I.tuple hq;obtain⟨f0,f1,f2,f3,f4,f5⟩:=hf it (by simp);have hl:=rv.length;exact wpAny_pyNext_tuple_end (I.ok.hd hc) st (show s.heap.IsTuple a its.toArray from p) (by simp;omega) fun h' eb=>⟨rfl,I.turned (t':=s.toks) (fun b o hb e=>eb b o hb e) f0 f1 f3 f4 f5⟩
 self:=fun _ _ _ _ _ st h=>wpAny_pyIter_tupleiter st h
theorem iC {P:Program}{w:World}{K:PySem.W.Frag}{tg:Expr}(it:Addr)(lo:Int)(n:Nat):Turn P w K tg (Itr lo n) [it] it (fun i h=>IsRangeIter h it (lo+(i:Nat)*1) ((n:Int)-(i:Nat)) 1) where
 mem:=by simp
 obj:=fun i h st b hb=>by
  have e:b=it:=by simpa using hb
  subst e;exact⟨_,st,fun v z=>by
   have z':Data.fields _=Data.cell v:=z;cases z'⟩
 keep:=fun i h h' st k=>k it (by simp) _ st
 item:=by
  intro X hP hw hK hc i pins s σ H E I hf st hg;subst hP hw hK;obtain⟨f0,f1,f2,f3,f4,f5⟩:=hf it (by simp);have W:=Walks.range (prog:=X.prog) (w:=X.w) (I.ok.hd hc) it lo 1 n;refine W.item i s _ _ hg st fun v h' tk hv st' kk=>?_;obtain⟨t,rfl⟩:=hv;have I1:Inv X pins σ H {s with heap:=h',toks:=tk}:=I.turned (fun b o hb e=>kk b o (by simpa using hb) e) f0 f1 f3 f4 f5;refine⟨_,rfl,oG (s:={s with heap:=h',toks:=tk}) (n:="range_iterator") st' rfl rfl (by decide) ⟨.int (lo+i),H,I1,⟨t,?_⟩,⟨rfl,rfl⟩,st',fun b hb=>(hf b hb).1⟩⟩;rw[Int.mul_one]
 done:=by
  intro X hP hw hK hc i pins s σ H E I hf st hg;subst hP hw hK;obtain⟨f0,f1,f2,f3,f4,f5⟩:=hf it (by simp);exact wpAny_pyNext_range_end (I.ok.hd hc) st (by have:n<=i:=hg;omega) fun h' eb=>⟨rfl,I.turned (t':=s.toks) (fun b o hb e=>eb b o hb e) f0 f1 f3 f4 f5⟩
 self:=fun _ _ _ _ _ st h=>wpAny_pyIter_rangeiter st h
section
variable {X:Cx}{tg:Expr}
def zS0 (K:PySem.W.Frag)(tl:TE):TI:=fun σ H R=>tl σ H fun x H1=>∃a,x=.ref a/\(∃xs,SqL K H1 a xs)/\R (Itl K a) H1
def zV2 (K:PySem.W.Frag)(tl:TE):TI:=fun σ H R=>tl σ H fun x H1=>∃a,x=.ref a/\(∃xs,SqT K H1 a xs)/\R (Itt K a) H1
theorem fH {l:Expr}{tl:TE}(hl:PE X l tl):PI X tg l (zS0 X.K tl):=by
 intro pins s σ H R I h;refine thn (hl pins s σ H _ I h) fun v s1 ⟨x,H1,I1,r1,q1⟩=>?_;obtain⟨a,e,⟨xs,hq⟩,q⟩:=q1;subst e;cases r1;obtain⟨its,rv,p,hz⟩:=I1.list hq;refine z66 p.isList ?_;refine⟨s1.heap.objs.size,[s1.heap.objs.size],_,_,H1,rfl,I1.kept (t':=s1.toks) fun b o e=>zX8 _ e,cO a _,⟨_,zY7 _ rfl,rfl,rfl⟩,fun b hb=>?_,q⟩;have e:b=s1.heap.objs.size:=by simpa using hb
 subst e;exact I1.fpOk (zY2 _) (I1.hok.fresh (zY2 _))
theorem zK4 {l:Expr}{tl:TE}(hl:PE X l tl):PI X tg l (zV2 X.K tl):=by
 intro pins s σ H R I h;refine thn (hl pins s σ H _ I h) fun v s1 ⟨x,H1,I1,r1,q1⟩=>?_;obtain⟨a,e,⟨xs,hq⟩,q⟩:=q1;subst e;cases r1;obtain⟨its,rv,p,hz⟩:=I1.tuple hq;refine wpAny_pyIter_tuple (show s1.heap.IsTuple a its.toArray from p) ?_;refine⟨s1.heap.objs.size,[s1.heap.objs.size],_,_,H1,rfl,I1.kept (t':=s1.toks) fun b o e=>zX8 _ e,jG a _,⟨_,zY7 _ rfl,rfl,rfl⟩,fun b hb=>?_,q⟩;have e:b=s1.heap.objs.size:=by simpa using hb
 subst e;exact I1.fpOk (zY2 _) (I1.hok.fresh (zY2 _))
theorem ly {pins:List (Addr×Obj)}{σ:St}{H:Hp}{s:Shared}{R:It->Hp->Prop}{E:Value->Shared->Prop}{lo hi:Int}{t u v:Tok}{tk:Nat}(I:Inv X pins σ H s)(h1:-(2 ^ 62)<=lo)(h2:lo<2 ^ 62)(h3:-(2 ^ 62)<=hi)(h4:hi<2 ^ 62)
  (q:R (Itr lo (hi-lo).toNat) H):wpAny (model X.prog X.w) X.A (pyIter (.ref s.heap.objs.size)) (PIE X pins σ tg R) E {s with heap:=s.heap.push {cls:=.type "range",data:=.fields #[.int lo t,.int hi u,.int 1 v]},toks:=tk}:=by
 refine wpAny_pyIter_range (IsRange.new ..) (small_one h1 h2 h3 h4) ?_;have I1:Inv X pins σ H {s with heap:=s.heap.push {cls:=.type "range",data:=.fields #[.int lo t,.int hi u,.int 1 v]},toks:=tk}:=I.kept fun b o e=>zX8 _ e;refine⟨(s.heap.push {cls:=.type "range",data:=.fields #[.int lo t,.int hi u,.int 1 v]}).objs.size,[(s.heap.push {cls:=.type "range",data:=.fields #[.int lo t,.int hi u,.int 1 v]}).objs.size],_,_,H,rfl,
  I1.kept (t':=tk) fun b o e=>zX8 _ e,iC _ lo (hi-lo).toNat,?_,fun b hb=>?_,q⟩
 ·have e1:lo+((0:Nat):Int)*1=lo:=by simp
  have e2:(((hi-lo).toNat:Nat):Int)-((0:Nat):Int)=Builtin.Range.rangeSize lo hi 1:=by rw[rangeSize_one];split<;>omega
  show IsRangeIter _ _ (lo+((0:Nat):Int)*1) ((((hi-lo).toNat:Nat):Int)-((0:Nat):Int)) 1;rw[e1,e2];exact zY7 _ rfl
 ·have e:b=(s.heap.push {cls:=.type "range",data:=.fields #[.int lo t,.int hi u,.int 1 v]}).objs.size:=by simpa using hb
  subst e;exact I1.fpOk (zY2 _) (I1.hok.fresh (zY2 _))
def zQ1 (ta:TA):TI:=fun σ H R=>ta σ H fun vs H1=>∃j:Int,vs=[.int j]/\-(2 ^ 62)<=j/\j<2 ^ 62/\R (Itr 0 j.toNat) H1
def zS6 (ta:TA):TI:=fun σ H R=>ta σ H fun vs H1=>∃i j:Int,vs=[.int i,.int j]/\(-(2 ^ 62)<=i/\i<2 ^ 62/\-(2 ^ 62)<=j/\j<2 ^ 62)/\R (Itr i (j-i).toNat) H1
theorem di {a:Expr}{ta:TA}{p pos:Pos}(hg:Gl X "range")(hm:X.mg "range"=none)(ha:PA X [a] ta)(hs:starEach [a] X.env=[(false,eval a X.env)]:=by rfl):PI X tg (.Call (.Name "range" p) [a] [] pos) (zQ1 ta):=by
 intro pins s σ H R I h;refine Call_ (xA I hg hm boot_range (z24 (thn (ha pos pins s σ H _ I h) fun us s1 ⟨vs,H1,I1,r1,q1⟩=>?_) hs rfl));obtain⟨j,e,q1,q2,q⟩:=q1;subst e;cases r1 with
 |cons r rr=>
  cases rr;obtain⟨t,rfl⟩:=r;exact call_range_1 (ly I1 (by omega) (by omega) q1 q2 (by simpa using q))
theorem cq {a b:Expr}{ta:TA}{p pos:Pos}(hg:Gl X "range")(hm:X.mg "range"=none)(ha:PA X [a,b] ta)(hs:starEach [a,b] X.env=[(false,eval a X.env),(false,eval b X.env)]:=by rfl)(hs2:starEach [b] X.env=[(false,eval b X.env)]:=by rfl):
  PI X tg (.Call (.Name "range" p) [a,b] [] pos) (zS6 ta):=by
 intro pins s σ H R I h;refine Call_ (xA I hg hm boot_range (z24 (thn (ha pos pins s σ H _ I h) fun us s1 ⟨vs,H1,I1,r1,q1⟩=>?_) (by rw[hs,hs2]) (by rw[hs2];rfl)));obtain⟨i,j,e,⟨q1,q2,q3,q4⟩,q⟩:=q1;subst e;cases r1 with
 |cons r rr=>
  cases rr with
  |cons r' rr=>
   cases rr;obtain⟨t,rfl⟩:=r;obtain⟨t',rfl⟩:=r';exact call_range_2 (ly I1 q1 q2 q3 q4 q)
def zW5 (wi:TI)(g:TG)(tb:TS):TS:=fun D σ H=>wi σ H fun J H1=>∃W:Nat->Nat->St->Hp->Prop,(∃m,W 0 m σ H1)/\∀i m σ H,W i m σ H->
 (J.stop i H/\D.nx σ H)\/(J.go i H/\∃N:St->Hp->Prop,(∀σ' H',N σ' H'->∃m',m'<m/\W (i+1) m' σ' H')/\∀x H',J.yld i H x H'->g x σ H' fun σ2 H2=>tb {D with nx:=N,ct:=N,bk:=D.nx} σ2 H2)
noncomputable def pk (fp:List Addr)(h:Heap):List (Addr×Obj):=fp.filterMap fun b=>(h.get? b).map fun o=>(b,o)
theorem vf {fp:List Addr}{h:Heap}{b:Addr}{o:Obj}(hb:b∈fp)(e:h.get? b=some o):(b,o)∈pk fp h:=yg4.mpr ⟨b,hb,by rw[e];rfl⟩
theorem dX {fp:List Addr}{h:Heap}{p:Addr×Obj}(hp:p∈pk fp h):p.1∈fp/\h.get? p.1=some p.2:=by
 obtain⟨b,hb,e⟩:=yg4.mp hp;cases q:h.get? b with
 |none=>rw[q] at e;cases e
 |some o=>
  rw[q] at e;have e':(b,o)=p:=z05 e;subst e';exact⟨hb,q⟩
theorem Inv.pinned {pins:List (Addr×Obj)}{σ:St}{H:Hp}{s:Shared}{fp:List Addr}(I:Inv X pins σ H s)(hf:∀b∈fp,xH X pins H b)(ho:∀b∈fp,∃o,s.heap.get? b=some o/\∀v,o.data≠.cell v):Inv X (pins++pk fp s.heap) σ H s:=
 I.pins_of fun p hp=>(z36.mp hp).elim (fun z=>I.pin p (z21 _ z)) fun z=>by
  obtain⟨hb,e⟩:=dX z;obtain⟨f0,f1,f2,_⟩:=hf p.1 hb;obtain⟨o,e',d⟩:=ho p.1 hb;rw[e] at e';cases e';exact⟨e,f0,f1,f2,d⟩
theorem Inv.unpinned {pins pl:List (Addr×Obj)}{σ:St}{H:Hp}{s:Shared}(I:Inv X (pins++pl) σ H s):Inv X pins σ H s:=I.pins_of fun p hp=>I.pin p (z21 _ (z64 _ hp))
theorem zH8 {iter:Expr}{body:List Stmt}{wi:TI}{g:TG}{tb:TS}{pos:Pos}(hp:PassesOwn (model X.prog X.w) X.A X.env X.xe)(hc:X.calm=true)(hi:PI X tg iter wi)(hg:PG X tg g)(hb:PSs X body tb)
  (hs:∀x,foldedSetIterable iter X.env x=pure x:=by intro _;rfl):PS X (.For tg iter body [] pos) (zW5 wi g tb):=by
 intro pins s σ H D I h;refine wpAny_For (thn (hi pins s σ H _ I h) fun v s1 h1=>thn h1 fun itv s2 h2=>?_) hs;obtain⟨it,fp,tn,J,H2,e,I2,T,st2,f2,W,⟨m0,w0⟩,turn⟩:=h2;subst e
 -- what stays true of the iterator's objects through the loop
 have stat:∀{H':Hp},(∀b∈fp,H' b=none)->∀b∈fp,xH X pins H' b:=fun hn b hb=>⟨hn b hb,(f2 b hb).2⟩;refine codeAny_forLoop_any (fun n s'=>∃i σ' H',Inv X pins σ' H' s'/\tn i s'.heap/\(∀b∈fp,H' b=none)/\W i n σ' H') ?_ m0 ⟨0,σ,H2,I2,st2,fun b hb=>(f2 b hb).1,w0⟩;rintro n s3 ⟨i,σ3,H3,I3,st3,fr3,w3⟩;rcases turn i n σ3 H3 w3 with ⟨stop,qn⟩|⟨go,N,hN,step⟩
 ·refine z86 hp (thn (T.done X rfl rfl rfl hc i pins s3 σ3 H3 X.xe I3 (stat fr3) st3 stop) fun r s4 ⟨hr,I4⟩=>?_);subst hr;exact ye8 ⟨σ3,H3,I4,qn⟩
 ·refine z86 hp (thn (T.item X rfl rfl rfl hc i pins s3 σ3 H3 X.xe I3 (stat fr3) st3 go) fun r s4 ⟨u,hr,h4⟩=>?_);subst hr;refine z86 hp (thn h4 fun _ s5 ⟨x,H5,I5,r5,y5,st5,fr5⟩=>?_);have I5':=I5.pinned (stat fr5) (T.obj _ _ st5);refine z86 hp (thn (hg _ s5 σ3 H5 x u _ I5' r5 (step x H5 y5)) fun _ s6 ⟨σ6,H6,I6,q6⟩=>?_);refine z86 hp (thn (hb _ s6 σ6 H6 _ I6 q6) fun f s7 q7=>?_);have again:∀{σ7:St} {H7:Hp},Inv X (pins++pk fp s5.heap) σ7 H7 s7->N σ7 H7->∃m,m<n/\∃i σ' H',Inv X pins σ' H' s7/\tn i s7.heap/\(∀b∈fp,H' b=none)/\W i m σ' H':=fun {σ7 H7} I7 n7=>by
   obtain⟨m',hm,w7⟩:=hN σ7 H7 n7;refine⟨m',hm,i+1,σ7,H7,I7.unpinned,T.keep _ _ _ st5 fun b hb o e=>(I7.pin (b,o) (z21 _ (z21 _ (vf hb e)))).1,fun b hb=>?_,w7⟩;obtain⟨o,e,d⟩:=T.obj _ _ st5 b hb;exact (I7.pin (b,o) (z21 _ (z21 _ (vf hb e)))).2.1
  cases f with
  |next=>obtain⟨σ7,H7,I7,n7⟩:=q7;exact again I7 n7
  |cont=>obtain⟨σ7,H7,I7,n7⟩:=q7;exact again I7 n7
  |brk=>obtain⟨σ7,H7,I7,q7⟩:=q7;exact⟨σ7,H7,I7.unpinned,q7⟩
  |ret v=>obtain⟨x7,σ7,H7,I7,r7,q7⟩:=q7;exact⟨x7,σ7,H7,I7.unpinned,r7,q7⟩
end
abbrev R2 :=V->V->Hp->VK->Prop
def OpR (X:Cx)(f:Value->Value->Sem Value)(r:R2):Prop:=
 ∀(pins:List (Addr×Obj)) (s:Shared) (σ:St) (H:Hp) (x y:V) (v u:Value) (Q:VK),Inv X pins σ H s->RelV x v->RelV y u->r x y H Q->
  wpAny (model X.prog X.w) X.A (f v u) (EP X pins σ Q) X.xe s
def UnR (X:Cx)(f:Value->Sem Value)(r:V->Hp->VK->Prop):Prop:=
 ∀(pins:List (Addr×Obj)) (s:Shared) (σ:St) (H:Hp) (x:V) (v:Value) (Q:VK),Inv X pins σ H s->RelV x v->r x H Q->
  wpAny (model X.prog X.w) X.A (f v) (EP X pins σ Q) X.xe s
def xI (X:Cx)(f:Value)(r:List V->Hp->VK->Prop):Prop:=
 ∀(pins:List (Addr×Obj)) (s:Shared) (σ:St) (H:Hp) (xs:List V) (us:List Value) (Q:VK),Inv X pins σ H s->Vals xs us->r xs H Q->
  wpAny (model X.prog X.w) X.A (call f us) (EP X pins σ Q) X.xe s
def zU9 (X:Cx)(r:V->Hp->(Bool->Hp->Prop)->Prop):Prop:=
 ∀(pins:List (Addr×Obj)) (s:Shared) (σ:St) (H:Hp) (x:V) (v:Value) (Q:Bool->Hp->Prop),Inv X pins σ H s->RelV x v->r x H Q->
  wpAny (model X.prog X.w) X.A (truthy v) (TP X pins σ Q) X.xe s
def tOp (r:R2)(ta tb:TE):TE:=fun σ H Q=>ta σ H fun x H1=>tb σ H1 fun y H2=>r x y H2 Q
def tUn (r:V->Hp->VK->Prop)(ta:TE):TE:=fun σ H Q=>ta σ H fun x H1=>r x H1 Q
def rI (C:Int->Int->Prop)(g:Int->Int->V):R2:=fun x y H Q=>∃i j,x=.int i/\y=.int j/\C i j/\Q (g i j) H
def rI0 (g:Int->Int->V):R2:=fun x y H Q=>∃i j,x=.int i/\y=.int j/\Q (g i j) H
def rU (g:Int->V):V->Hp->VK->Prop:=fun x H Q=>∃i,x=.int i/\Q (g i) H
section
variable {X:Cx}{a b c:Expr}{ta tb tc:TE}{pos:Pos}
theorem zI2 (ha:PE X a ta)(hb:PE X b tb){pins:List (Addr×Obj)}{s:Shared}{σ:St}{H:Hp}{R:V->V->Hp->Prop}(I:Inv X pins σ H s)
  (h:ta σ H fun x H1=>tb σ H1 fun y H2=>R x y H2) {Q:Value->Shared->Prop} {f:Value->Value->Sem Value}
  (hf:∀v u s2 x y H2,Inv X pins σ H2 s2->RelV x v->RelV y u->R x y H2->wpAny (model X.prog X.w) X.A (f v u) Q X.xe s2):
  wpAny (model X.prog X.w) X.A (eval a X.env) (fun v s₁=>wpAny (model X.prog X.w) X.A (eval b X.env) (fun u s₂=>wpAny (model X.prog X.w) X.A (f v u) Q X.xe s₂) X.xe s₁) X.xe s:=by
 refine thn (ha pins s σ H _ I h) fun v s1 ⟨x,H1,I1,r1,q1⟩=>?_;refine thn (hb pins s1 σ H1 _ I1 q1) fun u s2 ⟨y,H2,I2,r2,q2⟩=>?_;exact hf v u s2 x y H2 I2 r1 r2 q2
theorem yI {op:Operator}{r:R2}(ho:OpR X (binaryOp op) r)(ha:PE X a ta)(hb:PE X b tb):PE X (.BinOp a op b pos) (tOp r ta tb):=by
 intro pins s σ H Q I h;exact wpAny_BinOp (zI2 ha hb I h fun v u s2 x y H2 I2 rx ry q=>ho pins s2 σ H2 x y v u Q I2 rx ry q)
theorem zz6 {op:UnaryOp}{r:V->Hp->VK->Prop}(ho:UnR X (unaryOp op) r)(ha:PE X a ta):PE X (.UnaryOp op a pos) (tUn r ta):=by
 intro pins s σ H Q I h;exact UnaryOp_ (thn (ha pins s σ H _ I h) fun v s1 ⟨x,H1,I1,r1,q1⟩=>ho pins s1 σ H1 x v Q I1 r1 q1)
theorem opI {f:Value->Value->Sem Value}{C:Int->Int->Prop}{g:Int->Int->Int}
  (rule:∀(i j:Int) (t u:Tok) (s:Shared) (Q:Value->Shared->Prop) (E:Value->Shared->Prop),C i j->Q (.int (g i j) s.toks) {s with toks:=s.toks+1}->wpAny (model X.prog X.w) X.A (f (.int i t) (.int j u)) Q E s):
  OpR X f (rI C fun i j=>.int (g i j)):=by
 intro pins s σ H x y v u Q I rx ry h;obtain⟨i,j,rfl,rfl,hc,q⟩:=h;obtain⟨t,rfl⟩:=rx;obtain⟨t',rfl⟩:=ry;exact rule i j t t' s _ _ hc ⟨.int (g i j),H,I.tok _,⟨_,rfl⟩,q⟩
theorem zP9 {f:Value->Value->Sem Value}{g:Int->Int->Int}
  (rule:∀(i j:Int) (t u:Tok) (s:Shared) (Q:Value->Shared->Prop) (E:Value->Shared->Prop),Q (.int (g i j) s.toks) {s with toks:=s.toks+1}->wpAny (model X.prog X.w) X.A (f (.int i t) (.int j u)) Q E s):
  OpR X f (rI0 fun i j=>.int (g i j)):=by
 intro pins s σ H x y v u Q I rx ry h;obtain⟨i,j,rfl,rfl,q⟩:=h;obtain⟨t,rfl⟩:=rx;obtain⟨t',rfl⟩:=ry;exact rule i j t t' s _ _ ⟨.int (g i j),H,I.tok _,⟨_,rfl⟩,q⟩
theorem zr0 {f:Value->Value->Sem Value}{g:Int->Int->Bool}
  (rule:∀(i j:Int) (t u:Tok) (s:Shared) (Q:Value->Shared->Prop) (E:Value->Shared->Prop),Q (.bool (g i j)) s->wpAny (model X.prog X.w) X.A (f (.int i t) (.int j u)) Q E s):
  OpR X f (rI0 fun i j=>.bl (g i j)):=by
 intro pins s σ H x y v u Q I rx ry h;obtain⟨i,j,rfl,rfl,q⟩:=h;obtain⟨t,rfl⟩:=rx;obtain⟨t',rfl⟩:=ry;exact rule i j t t' s _ _ ⟨.bl (g i j),H,I,rfl,q⟩
def zH5 (i j:Int):Prop:=0<=j/\j<=1000000/\i.natAbs<2 ^ 64
def zK7 (i j:Int):Prop:=(-(2 ^ 64)<i/\i<2 ^ 64)\/(-(2 ^ 64)<j/\j<2 ^ 64)
theorem zK7.ok {i j:Int}(h:zK7 i j):IntMulOk i j:=by
 rcases h with ⟨h1,h2⟩|⟨h1,h2⟩
 ·exact .of_left (intBits_le_64 h1 h2)
 ·exact .of_right (intBits_le_64 h1 h2)
theorem sF :OpR X (binaryOp .Add) (rI0 fun i j=>.int (i+j)):=zP9 fun _ _ _ _ _ _ _ q=>add_int q
theorem bV :OpR X (binaryOp .Sub) (rI0 fun i j=>.int (i-j)):=zP9 fun _ _ _ _ _ _ _ q=>sub_int q
theorem qD :OpR X (binaryOp .Mult) (rI zK7 fun i j=>.int (i*j)):=opI fun _ _ _ _ _ _ _ hc q=>mul_int q hc.ok
theorem uS :OpR X (binaryOp .Mod) (rI (fun _ j=>0<j) fun i j=>.int (i % j)):=opI fun i j _ _ _ _ _ hc q=>by
 have h1:(0:Int)<j:=hc;exact mod_int' (by omega) (by rw[Int.fmod_eq_emod_of_nonneg i (by omega)];exact q)
theorem aC :OpR X (binaryOp .Pow) (rI zH5 fun i j=>.int (i ^ j.toNat)):=opI fun _ _ _ _ _ _ _ hc q=>pow_int_small hc.1 hc.2.1 hc.2.2 q
theorem unI {f:Value->Sem Value}{g:Int->Int}
  (rule:∀(i:Int) (t:Tok) (s:Shared) (Q:Value->Shared->Prop) (E:Value->Shared->Prop),Q (.int (g i) s.toks) {s with toks:=s.toks+1}->wpAny (model X.prog X.w) X.A (f (.int i t)) Q E s):
  UnR X f (rU fun i=>.int (g i)):=by
 intro pins s σ H x v Q I rx h;obtain⟨i,rfl,q⟩:=h;obtain⟨t,rfl⟩:=rx;exact rule i t s _ _ ⟨.int (g i),H,I.tok _,⟨_,rfl⟩,q⟩
theorem ah :UnR X (unaryOp .USub) (rU fun i=>.int (-i)):=unI fun _ _ _ _ _ q=>neg_int q
end
noncomputable def zP5 :V->V->Bool
 |.non,.non=>true|.non,.int _=>true|.int _,.non=>true|.non,.bl _=>true|.bl _,.non=>true|.non,.str _=>true|.str _,.non=>true
 |.int _,.int _=>true|.bl _,.bl _=>true|.str _,.str _=>true|.byt _,.byt _=>true
 |.int _,.str _=>true|.str _,.int _=>true|.bl _,.str _=>true|.str _,.bl _=>true
 |_,_=>false
def rEq :R2:=fun x y H Q=>zP5 x y=true/\Q (.bl (decide (x=y))) H
def rNe :R2:=fun x y H Q=>zP5 x y=true/\Q (.bl (!decide (x=y))) H
theorem gP {i j:Int}:decide (V.int i=V.int j)=(i == j):=by
 rw[z75];simp
theorem ab {i j:Bool}:decide (V.bl i=V.bl j)=(i == j):=by
 rw[z75];simp
theorem fB {i j:Str}:decide (V.str i=V.str j)=(i == j):=by
 rw[z75];simp
theorem gJ {i j:Array UInt8}:decide (V.byt i=V.byt j)=(i.toList == j.toList):=by
 rw[z75];cases i;cases j;simp
section
variable {X:Cx}{a b c:Expr}{ta tb tc:TE}{pos:Pos}
theorem zK {pins:List (Addr×Obj)}{σ:St}{H:Hp}{s:Shared}{Q:VK}{k k':Bool}(I:Inv X pins σ H s)(q:Q (.bl k) H)(e:k=k'):EP X pins σ Q (.bool k') s:=by
 subst e;exact⟨.bl k,H,I,rfl,q⟩
theorem vA :OpR X (compareOp .Eq) rEq:=by
 intro pins s σ H x y v u Q I rx ry h;obtain⟨hs,q⟩:=h;cases x with
 |non=>
  cases rx;cases y with
  |non=>cases ry;exact PySem.EqNone.eq_none_none (zK I q (by simp))
  |bl j=>cases ry;exact PySem.EqNone.eq_none_bool (zK I q (by simp))
  |int j=>obtain⟨t',rfl⟩:=ry;exact PySem.EqNone.eq_none_int (zK I q (by simp))
  |str j=>obtain⟨t',rfl⟩:=ry;exact PySem.EqNone.eq_none_str (zK I q (by simp))
  |_=>exact absurd (show false=true from hs) zZ5
 |bl i=>
  cases rx;cases y with
  |non=>cases ry;exact PySem.EqNone.eq_bool_none (zK I q (by simp))
  |bl j=>cases ry;exact eq_bool (zK I q ab)
  |str j=>obtain⟨t',rfl⟩:=ry;exact PySem.EqMixed.eq_bool_str (zK I q (by simp))
  |_=>exact absurd (show false=true from hs) zZ5
 |int i=>
  obtain⟨t,rfl⟩:=rx;cases y with
  |non=>cases ry;exact PySem.EqNone.eq_int_none (zK I q (by simp))
  |int j=>obtain⟨t',rfl⟩:=ry;exact eq_int (zK I q gP)
  |str j=>obtain⟨t',rfl⟩:=ry;exact PySem.EqMixed.eq_int_str (zK I q (by simp))
  |_=>exact absurd (show false=true from hs) zZ5
 |str i=>
  obtain⟨t,rfl⟩:=rx;cases y with
  |non=>cases ry;exact PySem.EqNone.eq_str_none (zK I q (by simp))
  |bl j=>cases ry;exact PySem.EqMixed.eq_str_bool (zK I q (by simp))
  |int j=>obtain⟨t',rfl⟩:=ry;exact PySem.EqMixed.eq_str_int (zK I q (by simp))
  |str j=>obtain⟨t',rfl⟩:=ry;exact eq_str (zK I q fB)
  |_=>exact absurd (show false=true from hs) zZ5
 |byt i=>
  obtain⟨t,rfl⟩:=rx;cases y with
  |byt j=>obtain⟨t',rfl⟩:=ry;exact PySem.W.eq_bytes (zK I q gJ)
  |_=>exact absurd (show false=true from hs) zZ5
 |_=>cases y<;>exact absurd (show false=true from hs) zZ5
theorem zO7 :OpR X (compareOp .NotEq) rNe:=by
 intro pins s σ H x y v u Q I rx ry h;obtain⟨hs,q⟩:=h;cases x with
 |non=>
  cases rx;cases y with
  |non=>cases ry;exact PySem.EqNone.ne_none_none (zK I q (by simp))
  |bl j=>cases ry;exact PySem.EqNone.ne_none_bool (zK I q (by simp))
  |int j=>obtain⟨t',rfl⟩:=ry;exact PySem.EqNone.ne_none_int (zK I q (by simp))
  |str j=>obtain⟨t',rfl⟩:=ry;exact PySem.EqNone.ne_none_str (zK I q (by simp))
  |_=>exact absurd (show false=true from hs) zZ5
 |bl i=>
  cases rx;cases y with
  |non=>cases ry;exact PySem.EqNone.ne_bool_none (zK I q (by simp))
  |bl j=>cases ry;exact ne_bool (zK I q (congrArg not ab))
  |str j=>obtain⟨t',rfl⟩:=ry;exact PySem.EqMixed.ne_bool_str (zK I q (by simp))
  |_=>exact absurd (show false=true from hs) zZ5
 |int i=>
  obtain⟨t,rfl⟩:=rx;cases y with
  |non=>cases ry;exact PySem.EqNone.ne_int_none (zK I q (by simp))
  |int j=>obtain⟨t',rfl⟩:=ry;exact ne_int (zK I q (congrArg not gP))
  |str j=>obtain⟨t',rfl⟩:=ry;exact PySem.EqMixed.ne_int_str (zK I q (by simp))
  |_=>exact absurd (show false=true from hs) zZ5
 |str i=>
  obtain⟨t,rfl⟩:=rx;cases y with
  |non=>cases ry;exact PySem.EqNone.ne_str_none (zK I q (by simp))
  |bl j=>cases ry;exact PySem.EqMixed.ne_str_bool (zK I q (by simp))
  |int j=>obtain⟨t',rfl⟩:=ry;exact PySem.EqMixed.ne_str_int (zK I q (by simp))
  |str j=>obtain⟨t',rfl⟩:=ry;exact ne_str (zK I q (congrArg not fB))
  |_=>exact absurd (show false=true from hs) zZ5
 |byt i=>
  obtain⟨t,rfl⟩:=rx;cases y with
  |byt j=>obtain⟨t',rfl⟩:=ry;exact PySem.W.ne_bytes (zK I q (congrArg not gJ))
  |_=>exact absurd (show false=true from hs) zZ5
 |_=>cases y<;>exact absurd (show false=true from hs) zZ5
theorem gZ :OpR X (compareOp .Lt) (rI0 fun i j=>.bl (decide (i<j))):=zr0 fun _ _ _ _ _ _ _ q=>lt_int q
theorem sW :OpR X (compareOp .LtE) (rI0 fun i j=>.bl (decide (i<=j))):=zr0 fun _ _ _ _ _ _ _ q=>le_int q
theorem fG :OpR X (compareOp .Gt) (rI0 fun i j=>.bl (decide (j<i))):=zr0 fun _ _ _ _ _ _ _ q=>gt_int q
theorem ar :OpR X (compareOp .GtE) (rI0 fun i j=>.bl (decide (j<=i))):=zr0 fun _ _ _ _ _ _ _ q=>ge_int q
theorem mz :OpR X (compareOp .Is) (fun x y H Q=>y=.non/\Q (.bl (decide (x=.non))) H):=by
 intro pins s σ H x y v u Q I rx ry h;obtain⟨rfl,q⟩:=h;cases ry;refine is_none_gen (zK I q ?_);cases x<;>first
  |(cases rx;rfl)
  |(obtain⟨t,rfl⟩:=rx;rfl)
theorem zn5 :OpR X (compareOp .IsNot) (fun x y H Q=>y=.non/\Q (.bl (!decide (x=.non))) H):=by
 intro pins s σ H x y v u Q I rx ry h;obtain⟨rfl,q⟩:=h;cases ry;refine isnot_none_gen (zK I q ?_);cases x<;>first
  |(cases rx;rfl)
  |(obtain⟨t,rfl⟩:=rx;rfl)
theorem zE (b:Expr){op:CmpOp}(h:op≠.In:=by decide)(h2:op≠.NotIn:=by decide):behindInMarks op b=false:=by
 have e1:(op == CmpOp.In)=false:=by cases op<;>first|rfl|exact absurd rfl h
 have e2:(op == CmpOp.NotIn)=false:=by cases op<;>first|rfl|exact absurd rfl h2
 cases b<;>simp[behindInMarks,e1,e2]
theorem xQ {op:CmpOp}{r:R2}(ho:OpR X (compareOp op) r)(ha:PE X a ta)(hb:PE X b tb)(hm:behindInMarks op b=false):PE X (.Compare a [op] [b] pos) (tOp r ta tb):=by
 intro pins s σ H Q I h;exact wpAny_Compare1 (zI2 ha hb I h fun v u s2 x y H2 I2 rx ry q=>ho pins s2 σ H2 x y v u Q I2 rx ry q) hm
def zB0 (t:TE):TT:=fun σ H Q=>t σ H fun x H'=>∃k,x=.bl k/\Q k H'
theorem yp {op:CmpOp}{r:R2}(ho:OpR X (compareOp op) r)(ha:PE X a ta)(hb:PE X b tb)(hm:behindInMarks op b=false):PT X (.Compare a [op] [b] pos) (zB0 (tOp r ta tb)):=by
 intro pins s σ H Q I h;refine wpAny_isTrue_Compare1 (thn (ha pins s σ H _ I h) fun v s1 ⟨x,H1,I1,r1,q1⟩=>thn (hb pins s1 σ H1 _ I1 q1) fun u s2 ⟨y,H2,I2,r2,q2⟩=>
  thn (ho pins s2 σ H2 x y v u _ I2 r1 r2 q2) fun c s3 ⟨z,H3,I3,r3,k,e,q3⟩=>?_) hm
 subst e;cases r3;exact z32 ⟨H3,I3,q3⟩
def zJ6 (r r':R2)(ta tb tc:TE):TE:=fun σ H Q=>ta σ H fun x H1=>tb σ H1 fun y H2=>r x y H2 fun z H3=>∃k,z=.bl k/\
 (if k=true then tc σ H3 fun w' H4=>r' y w' H4 Q else Q (.bl false) H3)
theorem pH {op op':CmpOp}{r r':R2}(ho:OpR X (compareOp op) r)(ho':OpR X (compareOp op') r')(ha:PE X a ta)(hb:PE X b tb)(hc:PE X c tc)
  (hm:lastMarks [op,op'] [b,c]=false:=by with_unfolding_all rfl):PE X (.Compare a [op,op'] [b,c] pos) (zJ6 r r' ta tb tc):=by
 intro pins s σ H Q I h;refine Compare_chain (thn (ha pins s σ H _ I h) fun v s1 ⟨x,H1,I1,r1,q1⟩=>chain_link (thn (hb pins s1 σ H1 _ I1 q1) fun u s2 ⟨y,H2,I2,r2,q2⟩=>
  thn (ho pins s2 σ H2 x y v u _ I2 r1 r2 q2) fun d s3 ⟨z,H3,I3,r3,k,e,q3⟩=>?_)) hm
 subst e;cases r3;refine z32 ?_;cases k with
 |false=>exact ite_ff ⟨.bl false,H3,I3,rfl,q3⟩
 |true=>exact ite_tt (chain_last (thn (hc pins s3 σ H3 _ I3 q3) fun w' s4 ⟨z',H4,I4,r4,q4⟩=>ho' pins s4 σ H4 y z' u w' Q I4 r2 r4 q4))
def zS3 (K:PySem.W.Frag)(x:V)(H:Hp)(k:Bool):Prop:=
 match x with
 |.non=>k=false
 |.bl b=>k=b
 |.int i=>k=(i != 0)
 |.str y=>y.length<=sizeLine/\k=((y.length:Int) != 0)
 |.byt y=>y.size<=sizeLine/\k=((y.size:Int) != 0)
 |.ref p=>(∃xs,SqL K H p xs/\k=!xs.isEmpty)\/(∃xs,SqT K H p xs/\k=!xs.isEmpty)\/∃kvs,H p=some (.dK kvs)/\k=!kvs.isEmpty
 |_=>False
theorem jK {κ:Type}{kvs:List (κ×V)}{vs:List (κ×Value)}(r:KV kvs vs):(!vs.isEmpty)=!kvs.isEmpty:=by
 cases r<;>rfl
theorem qo {xs:List V}{its:List Value}(r:Vals xs its):(!its.toArray.isEmpty)=!xs.isEmpty:=by
 cases r<;>simp
theorem sD :(sizeLine:Nat)<2 ^ 63:=by rw[z46];decide
theorem zG5 :zU9 X (fun x H Q=>∃k,zS3 X.K x H k/\Q k H):=by
 intro pins s σ H x v Q I rx h;obtain⟨k,e,q⟩:=h;have hl:=sD;have hs:sizeLine=16777216:=z46;cases x with
 |non=>
  cases rx;have e':k=false:=e;subst e';exact truthy_none ⟨H,I,q⟩
 |bl b=>
  cases rx;have e':k=b:=e;subst e';exact z32 ⟨H,I,q⟩
 |int i=>
  obtain⟨t,rfl⟩:=rx;have e':k=(i != 0):=e;subst e';exact PySem.P.truthy_int ⟨H,I,q⟩
 |str y=>
  obtain⟨t,rfl⟩:=rx;obtain⟨hy,e'⟩:y.length<=sizeLine/\k=((y.length:Int) != 0):=e;subst e';exact PySem.P.truthy_str (by omega) ⟨H,I.tok _,q⟩
 |byt y=>
  obtain⟨t,rfl⟩:=rx;obtain⟨hy,e'⟩:y.size<=sizeLine/\k=((y.size:Int) != 0):=e;subst e';exact PySem.W.truthy_bytes (by omega) ⟨H,I.tok _,q⟩
 |ref p=>
  cases rx;have e':(∃xs,SqL X.K H p xs/\k=!xs.isEmpty)\/(∃xs,SqT X.K H p xs/\k=!xs.isEmpty)\/∃kvs,H p=some (.dK kvs)/\k=!kvs.isEmpty:=e;rcases e' with ⟨xs,hx,e'⟩|⟨xs,hx,e'⟩|⟨kvs,hx,e'⟩
  ·subst e';obtain⟨its,r,pl,hz⟩:=I.list hx;have hlen:=r.length;exact wpAny_truthy_list pl.isList (by simp only[zZ1];omega) ⟨H,I.tok _,by rw[qo r];exact q⟩
  ·subst e';obtain⟨its,r,pl,hz⟩:=I.tuple hx;have hlen:=r.length;exact truthy_tuple pl (by simp only[zZ1];omega) ⟨H,I.tok _,by rw[qo r];exact q⟩
  ·subst e';obtain⟨hz,hS,vs,r,m⟩:kvs.length<=sizeLine/\(p == sysModules)=false/\∃vs,KV kvs vs/\s.heap.DictOf (yf X.prog X.w) p vs:=I.hok p _ hx;have hlen:kvs.length=vs.length:=Paired.length r;exact wpAny_truthy_dict hS m (by omega) ⟨H,I.tok _,by rw[jK r];exact q⟩
 |_=>exact (show False from e).elim
theorem zb1 (ha:PE X a ta)(he:∀whole,isTrue a X.env whole=(do let v <-whole;standAt a.pos;holding [v] (truthy v))):
  PT X a (fun σ H Q=>ta σ H fun x H'=>∃k,zS3 X.K x H' k/\Q k H'):=by
 intro pins s σ H Q I h;exact isTrue_plain (thn (ha pins s σ H _ I h) fun v s1 ⟨x,H1,I1,r1,q1⟩=>zG5 pins s1 σ H1 x v Q I1 r1 q1) (he _)
theorem vals1 {x:V}{us:List Value}(r:Vals [x] us):∃u,us=[u]/\RelV x u:=by
 cases r with
 |cons r1 r2=>cases r2;exact⟨_,rfl,r1⟩
theorem lA :xI X (.builtin "abs") (fun xs H Q=>∃i,xs=[.int i]/\Q (.int (if i<0 then -i else i)) H):=by
 intro pins s σ H xs us Q I r h;obtain⟨i,rfl,q⟩:=h;obtain⟨u,rfl,t,rfl⟩:=vals1 r;exact call_abs_int fun u tk=>⟨.int (if i<0 then -i else i),H,I.tok _,⟨_,rfl⟩,q⟩
end
structure iY (h:Heap)(x dx C:Addr)(mA:Str->Option Value):Prop where
 obj:h.get? x=some (PySem.W.instObj C dx)
 ns:h.Ns1 dx mA
 ne:dx≠x
theorem eX {h:Heap}{dx:Addr}{mA:Str->Option Value}(n:h.Ns1 dx mA):∃od,h.get? dx=some od/\∀name,PySem.W.lookIn name od=some (mA name):=by
 obtain⟨o,es,ep,ho,hd,hk,_,hm⟩:=n;refine⟨o,ho,fun name=>?_⟩;have e:=hm name;unfold nsFind findBy at e;rw[<-Array.find?_toList] at e;unfold PySem.W.lookIn;rw[hd];dsimp only;split
 ·rename_i y q;rw[q] at e;exact congrArg some e
 ·rename_i q;rw[q] at e;have a:es.toList.any (·.refKey)=false:=by
   rw[List.any_eq_false];intro y hy;obtain⟨z,t,hkey⟩:=hk y (Array.mem_toList_iff.mp hy);simp[DictEntry.refKey,hkey]
  have a':¬es.toList.any (·.refKey)=true:=by rw[a];exact zZ5
  rw[if_neg a'];exact congrArg some e
theorem iY.look {h:Heap}{x dx C:Addr}{mA:Str->Option Value}(I:iY h x dx C mA):∃od,PySem.W.InstAt h x (PySem.W.instObj C dx) C (some od)/\∀name,PySem.W.lookIn name od=some (mA name):=
 let ⟨od,ho,hl⟩:=eX I.ns
 ⟨od,⟨I.obj,rfl,rfl,ho⟩,hl⟩
section
variable {prog:Program}{w:World}{A:Around}{E:Value->Shared->Prop}{s:Shared}{K:PySem.W.Frag}{x dx C f:Addr}{mA:Str->Option Value}{name:Str}{v:Value}
theorem get_map {expr:Bool}{Q:Value->Shared->Prop}(X:K.In s.heap)(I:iY s.heap x dx C mA)(hg:PySem.W.plainGet K C name=true)(hh:PySem.W.hasDictIn K C=true)
  (ha:PySem.W.findIn K (.ref C) name=some none) (hv:mA name=some v) (hv':PySem.W.handedIn v=true) (h:Q v {s with toks:=s.toks+1}):
  wpAny (model prog w) A (getAttr (.ref x) name expr) Q E s:=by
 obtain⟨od,J,hl⟩:=I.look;exact PySem.W.get_value X J (yg0 hg).1 (PySem.W.findObj_own hh ha rfl (by rw[hl,hv])) hv' h
theorem zj8 {pl:Sem Bool}{Q:Value×List Value->Shared->Prop}(X:K.In s.heap)(I:iY s.heap x dx C mA)(hg:PySem.W.plainGet K C name=true)
  (hf:PySem.W.findIn K (.ref C) name=some (some (.ref f))) (ht:PySem.W.isFn K (.ref f)=true) (hv:mA name=none) (h:Q (.ref f,[.ref x]) s):
  wpAny (model prog w) A (getMethod (.ref x) name pl) Q E s:=by
 obtain⟨od,J,hl⟩:=I.look;exact PySem.W.method_fn X J (yg0 hg).1 (yg0 hg).2 hf (beq_iff_eq.mp ht) (by show (PySem.W.lookIn name od).map (·.isSome)=some false;rw[hl,hv];rfl) h
theorem zr7 {ns:List Str}{Q:Unit->Shared->Prop}(X:K.In s.heap)(I:iY s.heap x dx C mA)
  (hs:PySem.W.findIn K (.ref C) "__setattr__"=some (some (.builtin "object.__setattr__"))) (hp:PySem.W.plainOver K C=true) (ht:PySem.W.takerIn K C name=some none) (hh:PySem.W.hasDictIn K C=true)
  (hw:PySem.Within mA ns) (hsz:ns.length<=sizeLine)
  (h:∀h',iY h' x dx C (fun y=>if y=name then some v else mA y)->Heap.SameBut dx s.heap h'->Q () {s with heap:=h',toks:=s.toks+2}):
  wpAny (model prog w) A (setAttr (.ref x) name v) Q E s:=by
 obtain⟨od,J,hl⟩:=I.look;refine PySem.W.set_plain X J hs (PySem.W.osa_open (s:={s with toks:=s.toks+1}) (r:=none) X J hp ht fun b=>?_);obtain⟨cd,hc,hd'⟩:=PySem.W.any_some hh;have hx:s.heap.get? x=some ⟨.ref C,some dx,.plain,#[]⟩:=I.obj;refine zX6 (zY8 (zX6 (zX6 (wpAny_loadPart hx (zX6 (PySem.W.Looks.here (s:={s with toks:=s.toks+1}) (PySem.W.looks_clsIn X hc) ?_))))));rw[hd'];refine zY8 (a:=some dx) (zX6 (zY8 (zX6 ?_)));refine wpAny_nsSet1 (s:={s with toks:=s.toks+1}) I.ns fun h' hn2 hs2=>?_;obtain⟨oD,esD,epD,hoD,hdD,hcD⟩:=hn2.count (PySem.Within.cons name v hw);refine zX6 (wpAny_lookBehind hoD (by rw[hdD];exact pastItsLine_dict (z35 hcD (by rw[zY9];omega))) ?_);exact zY8 (h _ ⟨(hs2.2 _ (z22 I.ne)).trans I.obj,hn2,I.ne⟩ hs2)
theorem aG {R:Result->Shared->Prop}{vs:List Value}{kw:List (Str×Value)}(X:K.In s.heap)(hm:PySem.W.makesIn K C=true)
  (hi:PySem.W.findIn K (.ref C) "__init__"=some (some (.ref f))) (hf:PySem.W.typeIn K (.ref f)=some (.type "function"))
  (h:codeAny (model prog w) (A.under (.builtin "type.__call__" ⟨.ref C::vs,kw⟩)) (.call (.ref f) ⟨.ref (s.heap.objs.size+1)::vs,kw⟩) (PySem.W.InitBack (s.heap.objs.size+1) R)
   {s with heap:=(s.heap.push PySem.W.emptyDict).push (PySem.W.instObj C s.heap.objs.size)}):
  codeAny (model prog w) A (.call (.ref C) ⟨vs,kw⟩) R s:=by
 obtain⟨hh,g,d,t,os⟩:=s;exact PySem.W.make_core (PySem.W.makes_of X hm) (PySem.W.looks_findIn X hi) (fun self=>PySem.W.bind_fn X self hf) (.inl rfl) h
end
noncomputable def wu (f:Str)(v:V):List (Str×V)->List (Str×V)
 |[]=>[(f,v)]
 |(g,x)::r=>if g=f then (g,v)::r else (g,x)::wu f v r
theorem yb (f g:Str)(v:V):∀fs:List (Str×V),(wu f v fs).lookup g=if g=f then some v else fs.lookup g
 |[]=>by
  show List.lookup g [(f,v)]=_;by_cases h:g=f
  ·have hb:(g == f)=true:=beq_iff_eq.mpr h;simp only[List.lookup,hb,if_pos h]
  ·have hb:(g == f)=false:=z80.mpr h;simp only[List.lookup,hb,if_neg h]
 |(k,x)::r=>by
  have ih:=yb f g v r;rw[show wu f v ((k,x)::r)=(if k=f then (k,v)::r else (k,x)::wu f v r) from rfl];by_cases hk:k=f
  ·rw[if_pos hk];by_cases h:g=k
   ·have hb:(g == k)=true:=beq_iff_eq.mpr h;simp only[List.lookup,hb,if_pos (h.trans hk)]
   ·have hb:(g == k)=false:=z80.mpr h;simp only[List.lookup,hb,if_neg (fun e:g=f=>h (e.trans hk.symm))]
  ·rw[if_neg hk];by_cases h:g=k
   ·have hb:(g == k)=true:=beq_iff_eq.mpr h;simp only[List.lookup,hb,if_neg (fun e:g=f=>hk (h.symm.trans e))]
   ·have hb:(g == k)=false:=z80.mpr h;simp only[List.lookup,hb];exact ih
theorem sy (f:Str)(v:V):∀fs:List (Str×V),f∈(wu f v fs).map (·.1)/\∀g,g∈fs.map (·.1)->g∈(wu f v fs).map (·.1)
 |[]=>⟨by simp[wu],fun g h=>by simp at h⟩
 |(k,x)::r=>by
  obtain⟨i1,i2⟩:=sy f v r;rw[show wu f v ((k,x)::r)=(if k=f then (k,v)::r else (k,x)::wu f v r) from rfl];by_cases hk:k=f
  ·rw[if_pos hk];subst hk;exact⟨by simp,fun g h=>by simpa using h⟩
  ·rw[if_neg hk];refine⟨?_,fun g h=>?_⟩
   ·rw[zZ6];exact zY4 _ i1
   ·rw[zZ6] at h ⊢;rcases zY1.mp h with e|e
    ·exact zY1.mpr (.inl e)
    ·exact zY4 _ (i2 g e)
theorem rh (f:Str)(v:V):∀fs:List (Str×V),(wu f v fs).length<=fs.length+1
 |[]=>by simp[wu]
 |(k,x)::r=>by
  have ih:=rh f v r;rw[show wu f v ((k,x)::r)=(if k=f then (k,v)::r else (k,x)::wu f v r) from rfl];by_cases hk:k=f
  ·rw[if_pos hk,zY9,zY9];omega
  ·rw[if_neg hk,zY9,zY9];omega
theorem uy.some_of {v:V}{o:Option Value}(r:uy (some v) o):∃u,o=some u/\RelV v u:=by
 cases o with
 |none=>exact (show False from r).elim
 |some u=>exact⟨u,rfl,r⟩
theorem uy.none_of {o:Option Value}(r:uy none o):o=none:=by
 cases o with
 |none=>rfl
 |some u=>exact (show False from r).elim
theorem eV {v:V}{u:Value}(r:RelV v u):PySem.W.handedIn u=true:=by
 cases v with
 |non=>cases (show u=Value.none from r);rfl
 |bl b=>cases (show u=Value.bool b from r);rfl
 |int i=>obtain⟨t,e⟩:=(show ∃t,u=Value.int i t from r);cases e;rfl
 |str x=>obtain⟨t,e⟩:=(show ∃t,u=Value.str x t from r);cases e;rfl
 |byt b=>obtain⟨t,e⟩:=(show ∃t,u=Value.bytes b t from r);cases e;rfl
 |flt b=>obtain⟨t,e⟩:=(show ∃t,u=Value.float b t from r);cases e;rfl
 |ref a=>cases (show u=Value.ref a from r);rfl
 |ty n=>cases (show u=Value.type n from r);rfl
section
variable {P:Program}{w:World}{H H':Hp}{h h':Heap}{a C dx:Addr}{fs fs':List (Str×V)}
theorem rJ (hok:HOk P w H h)(e:H a=some (.ins C dx fs)):∃mA,iY h a dx C mA/\(∀f,uy (fs.lookup f) (mA f))/\PySem.Within mA (fs.map (·.1))/\fs.length<=1000/\H dx=some (.own a):=by
 obtain⟨d,z,ne,ob,mA,n,r,q⟩:=(show zP P w H h a (.ins C dx fs) from hok a _ e);exact⟨mA,⟨ob,n,ne⟩,r,q,z,d⟩
end
structure Cls (K:PySem.W.Frag)(C:Addr):Prop where
 pg:PySem.W.plainGet K C Str.empty=true
 hd:PySem.W.hasDictIn K C=true
 po:PySem.W.plainOver K C=true
 sa:PySem.W.findIn K (.ref C) "__setattr__"=some (some (.builtin "object.__setattr__"))
theorem Cls.get {K:PySem.W.Frag}{C:Addr}(c:Cls K C)(f:Str):PySem.W.plainGet K C f=true:=c.pg
def yT (K:PySem.W.Frag)(C:Addr)(f:Str):Prop:=PySem.W.findIn K (.ref C) f=some none
theorem yT.taker {K:PySem.W.Frag}{C:Addr}{f:Str}(n:yT K C f):PySem.W.takerIn K C f=some none:=by
 unfold PySem.W.takerIn;rw[show PySem.W.findIn K (.ref C) f=some none from n];rfl
structure Meth (K:PySem.W.Frag)(C:Addr)(m:Str)(f:Addr):Prop where
 at_:PySem.W.findIn K (.ref C) m=some (some (.ref f))
 fn:PySem.W.isFn K (.ref f)=true
 kp:PySem.W.keepIn K (.ref f)=true
section
variable {X:Cx}{pins:List (Addr×Obj)}{σ:St}{H:Hp}{s:Shared}{a C dx:Addr}{fs:List (Str×V)}{f:Str}{v:V}{A:Around}{E:Value->Shared->Prop}
theorem iO {b:Bool}{Q:Value->Shared->Prop}(I:Inv X pins σ H s)(e:H a=some (.ins C dx fs))(c:Cls X.K C)(n:yT X.K C f)(l:fs.lookup f=some v)
  (h:∀u s',Inv X pins σ H s'->RelV v u->Q u s'):wpAny (model X.prog X.w) A (getAttr (.ref a) f b) Q E s:=by
 obtain⟨mA,O,r,_,_,_⟩:=rJ I.hok e;obtain⟨u,hu,ru⟩:=uy.some_of (v:=v) (o:=mA f) (by rw[<-l];exact r f);exact get_map I.kIn O (c.get f) c.hd n hu (eV ru) (h u _ (I.tok _) ru)
theorem uQ {m:Str}{g:Addr}{pl:Sem Bool}{Q:Value×List Value->Shared->Prop}(I:Inv X pins σ H s)(e:H a=some (.ins C dx fs))(c:Cls X.K C)(k:Meth X.K C m g)(l:fs.lookup m=none)
  (h:Q (.ref g,[.ref a]) s):wpAny (model X.prog X.w) A (getMethod (.ref a) m pl) Q E s:=by
 obtain⟨mA,O,r,_,_,_⟩:=rJ I.hok e;have hn:mA m=none:=uy.none_of (by rw[<-l];exact r m);exact zj8 I.kIn O (c.get m) k.at_ k.fn hn h
theorem jP {y:V}{u:Value}{Q:Unit->Shared->Prop}(I:Inv X pins σ H s)(e:H a=some (.ins C dx fs))(c:Cls X.K C)(n:yT X.K C f)(hl:fs.length<1000)(ry:RelV y u)
  (h:∀s',Inv X pins σ (upd H a (.ins C dx (wu f y fs))) s'->Q () s'):wpAny (model X.prog X.w) A (setAttr (.ref a) f u) Q E s:=by
 obtain⟨mA,O,r,wi,_,ho⟩:=rJ I.hok e;have hz:(fs.map (·.1)).length<=sizeLine:=by rw[zX5,z46];omega
 refine zr7 I.kIn O c.sa c.po n.taker c.hd wi hz fun h' O' sb=>h _ ?_;have hd:∃o,h'.get? dx=some o:=let ⟨o,_,_,e',_⟩:=O'.ns;⟨o,e'⟩;refine I.write (x:=a) (e:=dx) (by rw[e];exact True.intro) (.inr ho) (fun b q hb z=>(sb.2 b hb).trans z) hd ?_;refine⟨by rw[zf O.ne];exact ho,?_,O.ne,O'.obj,_,O'.ns,fun g=>?_,fun g hg=>?_⟩
 ·have:=rh f y fs;omega
 ·show uy ((wu f y fs).lookup g) (if g=f then some u else mA g);rw[yb];by_cases q:g=f
  ·rw[if_pos q,if_pos q];exact ry
  ·rw[if_neg q,if_neg q];exact r g
 ·by_cases q:g=f
  ·rw[q];exact (sy f y fs).1
  ·refine (sy f y fs).2 g (wi g fun z=>hg ?_);show (if g=f then some u else mA g)=none;rw[if_neg q];exact z
theorem Inv.made (I:Inv X pins σ H s):Inv X pins σ (upd (upd H s.heap.objs.size (.own (s.heap.objs.size+1))) (s.heap.objs.size+1) (.ins C s.heap.objs.size []))
  {s with heap:=(s.heap.push PySem.W.emptyDict).push (PySem.W.instObj C s.heap.objs.size)}:=by
 have e1:(s.heap.push PySem.W.emptyDict).get? s.heap.objs.size=some PySem.W.emptyDict:=zY7 s.heap rfl;have e2:((s.heap.push PySem.W.emptyDict).push (PySem.W.instObj C s.heap.objs.size)).get? (s.heap.objs.size+1)=some (PySem.W.instObj C s.heap.objs.size):=by
  have:=zY7 (s.heap.push PySem.W.emptyDict) (o:=PySem.W.instObj C s.heap.objs.size) rfl
  rwa [z49] at this
 have e3:(s.heap.push PySem.W.emptyDict).Ns s.heap.objs.size (fun _=>none):=⟨PySem.W.emptyDict,#[],_,e1,rfl,(fun e he=>absurd he (by simp)),fun _=>rfl⟩;have I1:=I.laid (a:=s.heap.objs.size) (o:=.own (s.heap.objs.size+1)) (h':=s.heap.push PySem.W.emptyDict) (t':=s.toks) (fun b u q=>zX8 _ q) (zY2 _) ⟨_,e1⟩;refine I1.laid (a:=s.heap.objs.size+1) (o:=.ins C s.heap.objs.size []) (t':=s.toks) (fun b u q=>zX8 _ q) (ye9 (z49 _ _)) ?_;have ne:s.heap.objs.size≠s.heap.objs.size+1:=zZ7 (z96 _);refine⟨by rw[zf ne,zj],zZ4 _,ne,e2,fun _=>none,(Heap.Ns1.of_empty e3).at fun o q=>zX8 _ q,fun _=>True.intro,fun y hy=>absurd rfl hy⟩
theorem zx6 {prog:Program}{w:World}{env:Env}{e:Expr}{f:Str}{pos:Pos}{s:Shared}{Q:Value->Shared->Prop}(hb:attributeBase e f env (eval e env)=eval e env)
  (h:wpAny (model prog w) A (eval e env) (fun o s₁=>wpAny (model prog w) A (getAttr o f true) Q E s₁) E s):wpAny (model prog w) A (eval (.Attribute e f pos) env) Q E s:=
 Attribute_any_ h (by rw[arm_eval_Attribute,hb])
end
def zW0 (K:PySem.W.Frag)(ta:TE)(f:Str):TE:=fun σ H Q=>ta σ H fun x H1=>∃a C dx fs v,x=.ref a/\H1 a=some (.ins C dx fs)/\Cls K C/\yT K C f/\fs.lookup f=some v/\Q v H1
def zX3 (K:PySem.W.Frag)(ta tv:TE)(f:Str):TS:=fun D σ H=>tv σ H fun y H1=>ta σ H1 fun x H2=>∃a C dx fs,x=.ref a/\H2 a=some (.ins C dx fs)/\Cls K C/\yT K C f/\fs.length<1000/\
 D.nx σ (upd H2 a (.ins C dx (wu f y fs)))
section
variable {X:Cx}{o e value:Expr}{f:Str}{pos pos' tpos:Pos}{ta tv:TE}
theorem sk (he:PE X e ta)(hb:attributeBase e f X.env (eval e X.env)=eval e X.env):PE X (.Attribute e f pos) (zW0 X.K ta f):=by
 intro pins s σ H Q I h;refine zx6 hb (thn (he pins s σ H _ I h) fun u s1 ⟨x,H1,I1,rx,a,C,dx,fs,v,ex,ea,c,n,l,q⟩=>?_);subst ex;obtain rfl:u=Value.ref a:=rx;exact iO I1 ea c n l fun u' s2 I2 ru=>⟨v,H1,I2,ru,q⟩
theorem mP (ha:PE X o ta)(hv:PE X value tv)(hs:swapsWith value (some (.Attribute o f pos')) pos.line X.env=pure false):PS X (.Assign [.Attribute o f pos'] value pos) (zX3 X.K ta tv f):=by
 intro pins s σ H D I h;refine plainObj_wpAny_Assign_Attribute (thn (hv pins s σ H _ I h) fun u s1 ⟨y,H1,I1,ry,q⟩=>thn (ha pins s1 σ H1 _ I1 q) fun ov s2 ⟨x,H2,I2,rx,a,C,dx,fs,ex,ea,c,n,l,q2⟩=>?_) hs;subst ex;obtain rfl:ov=Value.ref a:=rx;exact jP I2 ea c n l ry fun s3 I3=>⟨σ,_,I3,q2⟩
theorem zA8 {pl:Sem Bool}{m:Str}{apos:Pos}{args:List Expr}{pins:List (Addr×Obj)}{s:Shared}{σ:St}{H:Hp}{Q:Value->Shared->Prop}{te:TE}(he:PE X e te)(I:Inv X pins σ H s)
  (h:te σ H fun x H1=>∃a C dx fs g,x=.ref a/\H1 a=some (.ins C dx fs)/\Cls X.K C/\Meth X.K C m g/\fs.lookup m=none/\
   ∀s1,Inv X pins σ H1 s1->wpAny (model X.prog X.w) X.A (callWith pos (.ref g) [.ref a] (backTo pos (starEach args X.env)) (backToKw pos (keywordEach [] X.env))) Q X.xe s1)
  (ht:eval (.Call (.Attribute e m apos) args [] pos) X.env=(do
   let ov <-eval e X.env
   standAt apos.atName
   let (f,first) <-holding [ov] (getMethod ov m pl)
   callWith pos f first (backTo pos (starEach args X.env)) (backToKw pos (keywordEach [] X.env)))):
  wpAny (model X.prog X.w) X.A (eval (.Call (.Attribute e m apos) args [] pos) X.env) Q X.xe s:=by
 refine ye6 (pl:=pl) (thn (he pins s σ H _ I h) fun u s1 ⟨x,H1,I1,rx,a,C,dx,fs,g,ex,ea,c,k,l,q⟩=>?_) ht;subst ex;obtain rfl:u=Value.ref a:=rx;exact uQ I1 ea c k l (q s1 I1)
end
section
variable {X:Cx}{pins:List (Addr×Obj)}{σ:St}{H:Hp}{s:Shared}{A:Around}{E:Value->Shared->Prop}{Q:Value->Shared->Prop}{c:Value}{b:Bool}
inductive tu (K:PySem.W.Frag)(H:Hp):V->Value->Prop where
 |non:tu K H .non (.type "NoneType")
 |bl (x:Bool):tu K H (.bl x) (.type "bool")
 |int (i:Int):tu K H (.int i) (.type "int")
 |str (x:Str):tu K H (.str x) (.type "str")
 |flt (x:UInt64):tu K H (.flt x) (.type "float")
 |lst {a:Addr} {xs:List V} (e:H a=some (.lst xs)):tu K H (.ref a) (.type "list")
 |frz {a:Addr} {o:Obj} {xs:List V} (e:H a=some (.frz o (.lst xs))):tu K H (.ref a) (.type "list")
 |tup {a:Addr} {xs:List V} (e:H a=some (.tup xs)):tu K H (.ref a) (.type "tuple")
 |dK {a:Addr} {kvs:List (Key×V)} (e:H a=some (.dK kvs)):tu K H (.ref a) (.type "dict")
 |dT {a:Addr} {kvs:List (List Key×V)} (e:H a=some (.dT kvs)):tu K H (.ref a) (.type "dict")
 |ins {a C dx:Addr} {fs:List (Str×V)} (e:H a=some (.ins C dx fs)) (cl:Cls K C) (ha:PySem.W.findIn K (.ref C) "__class__"=some (some (.builtin "object.__class__")))
   (hn:PySem.W.specialIn K (.builtin "object.__class__") "__get__"=some (some (.builtin "getset_descriptor.__get__"))) (htk:PySem.W.takesIn K (.builtin "object.__class__")=some true)
   (hm:PySem.W.mroIn K C (.type "object")=some true):tu K H (.ref a) (.ref C)
theorem bf {x:V}{u t:Value}(I:Inv X pins σ H s)(rx:RelV x u)(ty:tu X.K H x t)(e:PySem.W.kitOne X.K t c=some b)(h:∀tk,Q (.bool b) {s with toks:=tk}):
  wpAny (model X.prog X.w) A (call (.builtin "isinstance") [u,c]) Q E s:=by
 cases ty with
 |non=>cases (show u=Value.none from rx);exact z51 PySem.W.kitx_none I.kIn True.intro e (fun z=>nomatch z) h
 |bl y=>cases (show u=Value.bool y from rx);exact z51 PySem.W.kitx_bool I.kIn True.intro e (fun z=>nomatch z) h
 |int i=>obtain⟨t,q⟩:=(show ∃t,u=Value.int i t from rx);cases q;exact z51 PySem.W.kitx_int I.kIn True.intro e (fun z=>nomatch z) h
 |str y=>obtain⟨t,q⟩:=(show ∃t,u=Value.str y t from rx);cases q;exact z51 PySem.W.kitx_str I.kIn True.intro e (fun z=>nomatch z) h
 |flt y=>obtain⟨t,q⟩:=(show ∃t,u=Value.float y t from rx);cases q;exact z51 PySem.W.kitx_float I.kIn True.intro e (fun z=>nomatch z) h
 |@lst a xs ea=>
  cases (show u=Value.ref a from rx);obtain⟨_,_,n,_,h1⟩:=(show zP X.prog X.w H s.heap a (.lst xs) from I.hok a _ ea);exact z51 PySem.W.kitx_list I.kIn ⟨_,h1,rfl⟩ e (fun z=>nomatch z) h
 |@frz a ob xs ea=>
  cases (show u=Value.ref a from rx);obtain⟨_,_,_,n,_,h1⟩:=(show zP X.prog X.w H s.heap a (.frz ob (.lst xs)) from I.hok a _ ea);exact z51 PySem.W.kitx_list I.kIn ⟨_,h1,rfl⟩ e (fun z=>nomatch z) h
 |@tup a xs ea=>
  cases (show u=Value.ref a from rx);obtain⟨_,_,_,p⟩:=(show zP X.prog X.w H s.heap a (.tup xs) from I.hok a _ ea);obtain⟨o,h1,h2,_⟩:=p;exact z51 PySem.W.kitx_tuple I.kIn ⟨o,h1,h2⟩ e (fun z=>nomatch z) h
 |@dK a kvs ea=>
  cases (show u=Value.ref a from rx);obtain⟨_,_,vs,_,p⟩:=(show zP X.prog X.w H s.heap a (.dK kvs) from I.hok a _ ea);obtain⟨o,es,ep,h1,h2,_⟩:=p;exact z51 PySem.W.kitx_dict I.kIn ⟨o,h1,h2.1⟩ e (fun z=>nomatch z) h
 |@dT a kvs ea=>
  cases (show u=Value.ref a from rx);obtain⟨_,_,xs,_,o,es,ep,h1,h2,_⟩:=(show zP X.prog X.w H s.heap a (.dT kvs) from I.hok a _ ea);exact z51 PySem.W.kitx_dict I.kIn ⟨o,h1,h2.1⟩ e (fun z=>nomatch z) h
 |@ins a C dx fs ea cl ha hn htk hm=>
  cases (show u=Value.ref a from rx);obtain⟨mA,O,_⟩:=rJ I.hok ea;obtain⟨od,J,_⟩:=O.look;exact z51 (PySem.W.kitx_own (cl.get _) cl.hd ha hn htk hm) I.kIn J e (fun z=>nomatch z) h
end
structure zS (k:Nat)(A:Around):Prop where
 hd:A.handled=none
 dp:A.depth+3*k+5<recursionLimit
 un:A.units+16*k+200<cLine
 gd:A.guards=some []
theorem zS.mono {j k:Nat}{A:Around}(r:zS k A)(h:j<=k):zS j A:=⟨r.hd,by have:=r.dp;omega,by have:=r.un;omega,r.gd⟩
theorem zS.deeper {k:Nat}{A:Around}(r:zS (k+1) A)(env:Env):zS k (A.deeper env):=
 ⟨r.hd,by have:=r.dp;show A.depth+1+3*k+5<_;omega,by have:=r.un;show A.units+3+16*k+200<_;omega,r.gd⟩
theorem zS.in1 {k:Nat}{A:Around}(r:zS (k+1) A):zS k A.in1:=
 ⟨r.hd,by have:=r.dp;show A.depth+3*k+5<_;omega,by have:=r.un;show A.units+1+16*k+200<_;omega,r.gd⟩
theorem jX {A:Around}{C:Addr}{us:List Value}{kw:List (Str×Value)}:(A.under (.builtin "type.__call__" ⟨.ref C::us,kw⟩)).depth=A.depth+1:=by
 first|rfl|simp[Around.under,Code.weight,Code.isCreation,Code.isGuard,Code.isCaller,Code.frames,Code.isFrame,guardIds]
theorem ik {A:Around}{C:Addr}{us:List Value}{kw:List (Str×Value)}:(A.under (.builtin "type.__call__" ⟨.ref C::us,kw⟩)).units=A.units+1:=by
 first|rfl|simp[Around.under,Code.cUnits,Code.frames,Code.isFrame]
theorem lM {A:Around}{C:Addr}{us:List Value}{kw:List (Str×Value)}:(A.under (.builtin "type.__call__" ⟨.ref C::us,kw⟩)).guards=A.guards:=by
 first|rfl|simp[Around.under,Code.guards,Code.isGuard,guardIds,pushGuards]
theorem zS.make {k:Nat}{A:Around}(r:zS (k+1) A)(C:Addr)(us:List Value)(kw:List (Str×Value)):zS k (A.under (.builtin "type.__call__" ⟨.ref C::us,kw⟩)):=
 ⟨r.hd,by have:=r.dp;rw[jX];omega,by have:=r.un;rw[ik];omega,(lM (A:=A)).trans r.gd⟩
theorem zS.depth {k:Nat}{A:Around}(r:zS k A):A.depth<recursionLimit:=by have:=r.dp;omega
theorem zS.units {k:Nat}{A:Around}(r:zS k A):A.units+64<cLine:=by have:=r.un;omega
def zO4 :TA:=fun _ H Q=>Q [] H
def zT4 (ta:TE)(tr:TA):TA:=fun σ H Q=>ta σ H fun x H1=>tr σ H1 fun xs H2=>Q (x::xs) H2
section
variable {X:Cx}{e:Expr}{es:List Expr}{te:TE}{t:TA}{pos:Pos}
theorem zu :PA X [] zO4:=fun _ _ _ _ H Q I h=>Calls.spliced_nil ⟨[],H,I,.nil,h⟩
theorem zd (ha:PE X e te)(hr:PA X es t)(hs:starEach (e::es) X.env=(false,eval e X.env)::starEach es X.env:=by rfl):PA X (e::es) (zT4 te t):=by
 intro pos pins s σ H Q I h;rw[hs];show wpAny _ _ (spliced ((false,eval e X.env)::backTo pos (starEach es X.env))) _ _ s;refine Calls.spliced_cons (thn (ha pins s σ H _ I h) fun u s1 ⟨x,H1,I1,r1,q1⟩=>?_);exact thn (hr pos pins s1 σ H1 _ I1 q1) fun us s2 ⟨xs,H2,I2,r2,q2⟩=>⟨x::xs,H2,I2,.cons r1 r2,q2⟩
def zV9 (t:TA):TE:=fun σ H Q=>t σ H fun xs H1=>xs.length<=sizeLine/\∀p,H1 p=none->Q (.ref p) (upd H1 p (.tup xs))
def zW2 (t:TA):TE:=fun σ H Q=>t σ H fun xs H1=>xs.length<=sizeLine/\∀p,H1 p=none->Q (.ref p) (upd H1 p (.lst xs))
theorem qP {x1}(h:PA X es t):PE X (.Tuple es x1 pos) (zV9 t):=by
 intro pins s σ H Q I hq;refine wpAny_Tuple_spliced (thn (h pos pins s σ H _ I hq) fun us s1 ⟨xs,H1,I1,r,z,q⟩=>⟨by rw[<-r.length];exact z,?_⟩);have hf:H1 s1.heap.objs.size=none:=I1.hok.fresh (zY2 _);refine⟨.ref s1.heap.objs.size,upd H1 s1.heap.objs.size (.tup xs),I1.laid (t':=s1.toks) (fun b u e=>zX8 _ e) (zY2 _) ?_,rfl,q _ hf⟩;exact⟨z,us,r,⟨_,zY7 _ rfl,rfl,_,rfl⟩⟩
theorem zj0 (h:PA X es t):PE X (.List es pos) (zW2 t):=by
 intro pins s σ H Q I hq;refine wpAny_List_spliced (thn (h pos pins s σ H _ I hq) fun us s1 ⟨xs,H1,I1,r,z,q⟩=>⟨by rw[<-r.length];exact z,?_⟩);have hf:H1 s1.heap.objs.size=none:=I1.hok.fresh (zY2 _);refine⟨.ref s1.heap.objs.size,upd H1 s1.heap.objs.size (.lst xs),I1.laid (t':=s1.toks) (fun b u e=>zX8 _ e) (zY2 _) ?_,rfl,q _ hf⟩;exact⟨z,us,0,r,zY7 _ rfl⟩
end
abbrev Sp :=List V->Hp->VK->XK->Prop
abbrev CXT :=List Env->Hp->Shared->XK->Value->Shared->Prop
structure sq (P:Program)(w:World)(K:PySem.W.Frag)(mg:Str->Option Value)(base:Heap)(A:Around)(outer:List Env)(s:Shared)(H:Hp):Prop where
 frames:A.frames=some outer
 mod:Mod K mg base
 bs:∀b o,base.get? b=some o->s.heap.get? b=some o/\H b=none
 bsz:base.objs.size<=s.heap.objs.size
 funs:s.heap.FunFrames base outer
 frf:∀b∈frs outer,H b=none
 hok:HOk P w H s.heap
 bare:AllBare s.gens
def CE (outer:List Env)(P:Program)(w:World)(H:Hp)(s:Shared)(Q:VK)(u:Value)(s':Shared):Prop:=
 ∃v H',s'.os=s.os/\AllBare s'.gens/\Un (frs outer) [] H H' s.heap s'.heap/\HOk P w H' s'.heap/\RelV v u/\Q v H'
def CR (CX:CXT)(outer:List Env)(P:Program)(w:World)(H:Hp)(s:Shared)(Q:VK)(E:XK)(r:Result)(s':Shared):Prop:=
 match r with
 |.ok (.ret u)=>CE outer P w H s Q u s'
 |.ok _=>False
 |.error e=>CX outer H s E e s'
structure zF (P:Program)(w:World)(K:PySem.W.Frag)(mg:Str->Option Value)(base:Heap)(CX:CXT)(k:Nat)(f:Addr)(fd:FuncData)(ps:List Str)(sp:Sp):Prop where
 len:∀vs H Q E,sp vs H Q E->vs.length=ps.length
 run:∀(A:Around) (outer:List Env) (s:Shared) (H:Hp) (args:Args) (us:List Value) (vs:List V) (Q:VK) (E:XK),zS k A->sq P w K mg base A outer s H->BindsTo s fd args (ps.zip us)->Vals vs us->sp vs H Q E->
  codeAny (model P w) A (.call (.ref f) args) (CR CX outer P w H s Q E) s
theorem zF.imp {P:Program}{w:World}{K:PySem.W.Frag}{mg:Str->Option Value}{base:Heap}{CX:CXT}{k:Nat}{f:Addr}{fd:FuncData}{ps:List Str}{sp sp':Sp}(F:zF P w K mg base CX k f fd ps sp)
  (h:∀vs H Q E,sp' vs H Q E->sp vs H Q E):zF P w K mg base CX k f fd ps sp':=
 ⟨fun vs H Q E q=>F.len vs H Q E (h _ _ _ _ q),fun A outer s H args us vs Q E hr he hb hv hs=>F.run A outer s H args us vs Q E hr he hb hv (h _ _ _ _ hs)⟩
theorem sq.make {P:Program}{w:World}{K:PySem.W.Frag}{mg:Str->Option Value}{base:Heap}{A:Around}{outer:List Env}{s:Shared}{H:Hp}(e:sq P w K mg base A outer s H)(C:Addr)(us:List Value)(kw:List (Str×Value)):
  sq P w K mg base (A.under (.builtin "type.__call__" ⟨.ref C::us,kw⟩)) outer s H:=⟨by first|exact e.frames|(simpa[Around.under,Code.envs,Code.isFrame,pushEnvs] using e.frames),e.mod,e.bs,e.bsz,e.funs,e.frf,e.hok,e.bare⟩
theorem sq.in1 {P:Program}{w:World}{K:PySem.W.Frag}{mg:Str->Option Value}{base:Heap}{A:Around}{outer:List Env}{s:Shared}{H:Hp}(e:sq P w K mg base A outer s H):
  sq P w K mg base A.in1 outer s H:=⟨e.frames,e.mod,e.bs,e.bsz,e.funs,e.frf,e.hok,e.bare⟩
section
variable {X:Cx}{pins:List (Addr×Obj)}{σ:St}{H:Hp}{s s':Shared}
theorem Inv.env0 (I:Inv X pins σ H s):sq X.prog X.w X.K X.mg X.base X.A X.stack s H:=
 ⟨I.ok.frames,I.ok.mod,I.bs,z35 I.ok.bsz I.sz,I.stack,I.stkFree,I.hok,I.bare⟩
theorem Inv.after {Q:VK}{u:Value}(I:Inv X pins σ H s)(h:CE X.stack X.prog X.w H s Q u s'):EP X pins σ Q u s':=by
 obtain⟨v,H',os,bare,un,hok,r,q⟩:=h;obtain⟨hh,g,d,t,os'⟩:=s';obtain rfl:os'=s.os:=os;exact⟨v,H',I.call (h':=hh) (g':=g) (d':=d) (t':=t) (ch:=[]) un hok bare (fun b z=>absurd z (by simp)),r,q⟩
end
def zS4 (sp:Sp)(dvs:List V)(E:XK)(t:TA):TE:=fun σ H Q=>t σ H fun vs H1=>sp (vs++dvs) H1 Q E
def zy9 (C:Addr)(m:Str)(sp:Sp)(dvs:List V)(E:XK)(ta:TE)(t:TA):TE:=fun σ H Q=>ta σ H fun x H1=>∃a dx fs,x=.ref a/\H1 a=some (.ins C dx fs)/\fs.lookup m=none/\
 t σ H1 fun vs H2=>sp (x::(vs++dvs)) H2 Q E
def zS7 (C:Addr)(sp:Sp)(dvs:List V)(E:XK)(t:TA):TE:=fun σ H Q=>t σ H fun vs H1=>∀x dx,H1 x=none->H1 dx=none->dx≠x->
 sp (.ref x::(vs++dvs)) (upd (upd H1 dx (.own x)) x (.ins C dx [])) (fun v H2=>v=.non/\Q (.ref x) H2) E
def Binds (K:PySem.W.Frag)(fd:FuncData)(ps:List Str)(ds:List Value):Prop:=
 ∀(s:Shared) (us:List Value),K.In s.heap->(us++ds).length=ps.length->BindsTo s fd ⟨us,[]⟩ (ps.zip (us++ds))
theorem Binds.all {K:PySem.W.Frag}{fd:FuncData}{ps:List Str}(h:∀us:List Value,us.length=ps.length->bindArgs fd ⟨us,[]⟩=pure (ps.zip us)):Binds K fd ps []:=fun s us _ hl=>by
 rw[z52] at hl ⊢;exact .of_eq (h us hl)
def Passes (CX:CXT)(X:Cx)(E:XK):Prop:=∀(pins:List (Addr×Obj)) (σ:St) (H:Hp) (s:Shared) (e:Value) (s':Shared),Inv X pins σ H s->CX X.stack H s E e s'->X.xe e s'
section
variable {X:Cx}{CX:CXT}{k:Nat}{f C:Addr}{fd:FuncData}{ps:List Str}{sp:Sp}{dvs:List V}{ds:List Value}{E:XK}{x m:Str}{p pos apos:Pos}{e o:Expr}{es:List Expr}{ta:TE}{t:TA}
theorem ip {pins:List (Addr×Obj)}{σ:St}{H:Hp}{s:Shared}{Q:VK}{us:List Value}{vs:List V}(F:zF X.prog X.w X.K X.mg X.base CX k f fd ps sp)(hr:zS k X.A)(hb:Binds X.K fd ps ds)(hd:Vals dvs ds)(hx:Passes CX X E)
  (I:Inv X pins σ H s) (r:Vals vs us) (h:sp (vs++dvs) H Q E):wpAny (model X.prog X.w) X.A (call (.ref f) us) (EP X pins σ Q) X.xe s:=by
 have r2:Vals (vs++dvs) (us++ds):=r.append hd;have hl:(us++ds).length=ps.length:=by rw[<-r2.length];exact F.len _ _ _ _ h
 refine wpAny_call (yf0 (F.run X.A X.stack s H ⟨us,[]⟩ (us++ds) (vs++dvs) Q E hr I.env0 (hb s us I.kIn hl) r2 h) fun r s' hq=>?_);cases r with
 |error e=>exact hx pins σ H s e s' I hq
 |ok fl=>
  cases fl with
  |ret u=>exact I.after hq
  |next=>exact False.elim hq
  |brk=>exact False.elim hq
  |cont=>exact False.elim hq
theorem ya (F:zF X.prog X.w X.K X.mg X.base CX k f fd ps sp)(hr:zS k X.A)(hg:Gl X x)(hm:X.mg x=some (.ref f))(hk:PySem.W.keepIn X.K (.ref f)=true)(hb:Binds X.K fd ps ds)(hd:Vals dvs ds)(hx:Passes CX X E)
  (ha:PA X (e::es) t) (hdb:(x == ("__debug__":Str))=false:=by decide) (he:starEach (e::es) X.env=(false,eval e X.env)::starEach es X.env:=by rfl) (hpl:(backTo pos (starEach es X.env)).any (·.1)=false:=by rfl):
  PE X (.Call (.Name x p) (e::es) [] pos) (zS4 sp dvs E t):=by
 intro pins s σ H Q I h;refine ya1 (rF I hg hm ?_ hdb);refine yg5 (h₀:=X.base) I.ok.mod.kin hk (thn (ha pos pins s σ H _ I h) fun us s1 ⟨vs,H1,I1,r,q⟩=>⟨I1.kIn,?_⟩) he hpl;exact ip F hr hb hd hx I1 r q
theorem zq4 {pl:Sem Bool}(he:PE X o ta)(c:Cls X.K C)(hm:Meth X.K C m f)(F:zF X.prog X.w X.K X.mg X.base CX k f fd ps sp)(hr:zS k X.A)(hb:Binds X.K fd ps ds)(hd:Vals dvs ds)(hx:Passes CX X E)(ha:PA X (e::es) t)
  (hst:starEach (e::es) X.env=(false,eval e X.env)::starEach es X.env:=by rfl) (hpl:(backTo pos (starEach es X.env)).any (·.1)=false:=by rfl)
  (ht:eval (.Call (.Attribute o m apos) (e::es) [] pos) X.env=(do
   let ov <-eval o X.env
   standAt apos.atName
   let (f,first) <-holding [ov] (getMethod ov m pl)
   callWith pos f first (backTo pos (starEach (e::es) X.env)) (backToKw pos (keywordEach [] X.env))):=by rfl):
  PE X (.Call (.Attribute o m apos) (e::es) [] pos) (zy9 C m sp dvs E ta t):=by
 intro pins s σ H Q I h;refine ye6 (pl:=pl) (thn (he pins s σ H _ I h) fun u s1 ⟨x,H1,I1,rx,a,dx,fs,ex,ea,l,q⟩=>?_) ht;subst ex;obtain rfl:u=Value.ref a:=rx;refine uQ I1 ea c hm l ?_;refine yg5 (first:=[.ref a]) (h₀:=X.base) I.ok.mod.kin hm.kp (thn (ha pos pins s1 σ H1 _ I1 q) fun us s2 ⟨vs,H2,I2,r,q2⟩=>⟨I2.kIn,?_⟩) hst hpl;exact ip (us:=.ref a::us) (vs:=.ref a::vs) F hr hb hd hx I2 (.cons rfl r) q2
theorem ko {pl:Sem Bool}(he:PE X o ta)(c:Cls X.K C)(hm:Meth X.K C m f)(F:zF X.prog X.w X.K X.mg X.base CX k f fd ps sp)(hr:zS k X.A)(hb:Binds X.K fd ps ds)(hd:Vals dvs ds)(hx:Passes CX X E)
  (ht:eval (.Call (.Attribute o m apos) [] [] pos) X.env=(do
   let ov <-eval o X.env
   standAt apos.atName
   let (f,first) <-holding [ov] (getMethod ov m pl)
   callWith pos f first (backTo pos (starEach [] X.env)) (backToKw pos (keywordEach [] X.env))):=by rfl):
  PE X (.Call (.Attribute o m apos) [] [] pos) (zy9 C m sp dvs E ta zO4):=by
 intro pins s σ H Q I h;refine ye6 (pl:=pl) (thn (he pins s σ H _ I h) fun u s1 ⟨x,H1,I1,rx,a,dx,fs,ex,ea,l,q⟩=>?_) ht;subst ex;obtain rfl:u=Value.ref a:=rx;refine uQ I1 ea c hm l ?_;exact PySem.W.callWith_K0 (first:=[.ref a]) I1.kIn hm.kp (ip (us:=[.ref a]) (vs:=[.ref a]) F hr hb hd hx I1 (.cons rfl .nil) q)
structure Mk (K:PySem.W.Frag)(C f:Addr):Prop where
 makes:PySem.W.makesIn K C=true
 init:PySem.W.findIn K (.ref C) "__init__"=some (some (.ref f))
 fn:PySem.W.isFn K (.ref f)=true
 kp:PySem.W.keepIn K (.ref C)=true
theorem ai {pins:List (Addr×Obj)}{σ:St}{H:Hp}{s:Shared}{Q:VK}{us:List Value}{vs:List V}(M:Mk X.K C f)(F:zF X.prog X.w X.K X.mg X.base CX k f fd ps sp)(hr:zS (k+1) X.A)(hb:Binds X.K fd ps ds)(hd:Vals dvs ds)
  (hx:Passes CX X E) (I:Inv X pins σ H s) (r:Vals vs us)
  (h:∀x dx,H x=none->H dx=none->dx≠x->sp (.ref x::(vs++dvs)) (upd (upd H dx (.own x)) x (.ins C dx [])) (fun v H2=>v=.non/\Q (.ref x) H2) E):
  wpAny (model X.prog X.w) X.A (call (.ref C) us) (EP X pins σ Q) X.xe s:=by
 have hq:=h (s.heap.objs.size+1) s.heap.objs.size (I.hok.fresh (z83 _)) (I.hok.fresh (zY2 _)) (zZ7 (z96 _));have I2:=Inv.made (C:=C) I;have r2:Vals (V.ref (s.heap.objs.size+1)::(vs++dvs)) (Value.ref (s.heap.objs.size+1)::(us++ds)):=.cons rfl (r.append hd);have hl:(Value.ref (s.heap.objs.size+1)::us++ds).length=ps.length:=by
  have e:=r2.length;rw[F.len _ _ _ _ hq] at e;exact e.symm
 refine wpAny_call (aG (f:=f) I.kIn M.makes M.init (beq_iff_eq.mp M.fn) (yf0 (F.run _ X.stack _ _ ⟨Value.ref (s.heap.objs.size+1)::us,[]⟩ (Value.ref (s.heap.objs.size+1)::(us++ds)) _ _ E (hr.make C us [])
  (I2.env0.make C us []) (hb _ (Value.ref (s.heap.objs.size+1)::us) I2.kIn hl) r2 hq) fun r s' hq'=>?_))
 cases r with
 |error e=>exact hx pins σ _ _ e s' I2 hq'
 |ok fl=>
  cases fl with
  |ret u=>
   obtain⟨v,H',I3,rv,ev,q3⟩:=I2.after hq';subst ev;exact⟨rv,⟨V.ref (s.heap.objs.size+1),H',I3,rfl,q3⟩⟩
  |next=>exact False.elim hq'
  |brk=>exact False.elim hq'
  |cont=>exact False.elim hq'
theorem wB (M:Mk X.K C f)(F:zF X.prog X.w X.K X.mg X.base CX k f fd ps sp)(hr:zS (k+1) X.A)(hg:Gl X x)(hm:X.mg x=some (.ref C))(hb:Binds X.K fd ps ds)(hd:Vals dvs ds)(hx:Passes CX X E)
  (ha:PA X (e::es) t) (hdb:(x == ("__debug__":Str))=false:=by decide) (he:starEach (e::es) X.env=(false,eval e X.env)::starEach es X.env:=by rfl) (hpl:(backTo pos (starEach es X.env)).any (·.1)=false:=by rfl):
  PE X (.Call (.Name x p) (e::es) [] pos) (zS7 C sp dvs E t):=by
 intro pins s σ H Q I h;refine ya1 (rF I hg hm ?_ hdb);refine yg5 (h₀:=X.base) I.ok.mod.kin M.kp (thn (ha pos pins s σ H _ I h) fun us s1 ⟨vs,H1,I1,r,q⟩=>⟨I1.kIn,?_⟩) he hpl;exact ai M F hr hb hd hx I1 r q
end
section
variable {X:Cx}{CX:CXT}{k:Nat}{f C:Addr}{fd:FuncData}{ps ks:List Str}{sp:Sp}{E:XK}{x m:Str}{p pos apos kpos:Pos}{e o:Expr}{es:List Expr}{kws:List Keyword}{te ta:TE}{t tk:TA}{nm:Option Str}
variable {g:List Value->List Value->List Value}{gV:List V->List V->List V}
end
structure zm (N P:List Str)(sc:Scope):Prop where
 kind:sc.kind=.function
 co:sc.isCoroutine=false
 gen:sc.isGenerator=false
 nd:N.Nodup
 pre:N.take P.length=P
 par:∀x∈P,sc.names.lookup x=some .local\/sc.names.lookup x=some .cell
 nofree:∀y∈sc.names,y.2≠.free
theorem zm.o {N P:List Str}{sc:Scope}(h1:sc.kind=.function:=by rfl)(h2:sc.isCoroutine=false:=by rfl)(h3:sc.isGenerator=false:=by rfl)(h4:N.Nodup:=by decide +kernel)(h5:N.take P.length=P:=by rfl)(h6:∀x∈P,sc.names.lookup x=some .local\/sc.names.lookup x=some .cell:=by decide +kernel)(h7:∀y∈sc.names,y.2≠.free:=by decide +kernel):zm N P sc:=⟨h1,h2,h3,h4,h5,h6,h7⟩
theorem oX {kindOf:Str->Option NameKind}{x:Str}:∀{binds:List (Str×Value)} {m:Str->Option Value},(∀v,(x,v)∉binds)->bindL kindOf binds m x=m x
 |[],_,_=>rfl
 |(n,v)::r,m,h=>by
  unfold bindL;rw[oX fun w hw=>h w (zY4 _ hw)];split
  ·have:x≠n:=by rintro rfl;exact h v zY6
   simp[this]
  ·rfl
theorem pW {kindOf:Str->Option NameKind}{x:Str}:∀{binds:List (Str×Value)} {m:Str->Option Value},(∀v,(x,v)∉binds)->bindC kindOf binds m x=m x
 |[],_,_=>rfl
 |(n,v)::r,m,h=>by
  unfold bindC;rw[pW fun w hw=>h w (zY4 _ hw)];split
  ·rfl
  ·have:x≠n:=by rintro rfl;exact h v zY6
   simp[this]
theorem oT {kindOf:Str->Option NameKind}{x:Str}{v:Value}:∀{P:List Str} {vs:List Value} {i:Nat} {m:Str->Option Value},P.Nodup->P[i]?=some x->vs[i]?=some v->kindOf x=some .local->
  bindL kindOf (P.zip vs) m x=some v
 |[],_,_,_,_,h,_,_=>by simp at h
 |_::_,[],_,_,_,_,h,_=>by simp at h
 |p::P,w::vs,0,m,nd,h1,h2,hk=>by
  simp at h1 h2;subst h1;subst h2;show bindL kindOf ((p,w)::P.zip vs) m p=_;unfold bindL;rw[oX fun v hv=>(yf1.mp nd).1 (List.of_mem_zip hv).1,if_pos hk];simp
 |p::P,w::vs,i+1,m,nd,h1,h2,hk=>by
  show bindL kindOf ((p,w)::P.zip vs) m x=_;unfold bindL;exact oT (i:=i) (yf1.mp nd).2 (by simpa using h1) (by simpa using h2) hk
theorem oy {kindOf:Str->Option NameKind}{x:Str}{v:Value}:∀{P:List Str} {vs:List Value} {i:Nat} {m:Str->Option Value},P.Nodup->P[i]?=some x->vs[i]?=some v->kindOf x≠some .local->
  bindC kindOf (P.zip vs) m x=some v
 |[],_,_,_,_,h,_,_=>by simp at h
 |_::_,[],_,_,_,_,h,_=>by simp at h
 |p::P,w::vs,0,m,nd,h1,h2,hk=>by
  simp at h1 h2;subst h1;subst h2;show bindC kindOf ((p,w)::P.zip vs) m p=_;unfold bindC;rw[pW fun v hv=>(yf1.mp nd).1 (List.of_mem_zip hv).1,if_neg hk];simp
 |p::P,w::vs,i+1,m,nd,h1,h2,hk=>by
  show bindC kindOf ((p,w)::P.zip vs) m x=_;unfold bindC;exact oy (i:=i) (yf1.mp nd).2 (by simpa using h1) (by simpa using h2) hk
noncomputable def start (N:List Str)(vs:List V):St:=vs.map some++List.replicate (N.length-vs.length) none
noncomputable def uv (CX:CXT)(P:Program)(w:World)(K:PySem.W.Frag)(mg:Str->Option Value)(base:Heap)(N:List Str)(qual:Str)(scope:Scope)(f:Addr)(cd:Value)(A:Around)(outer:List Env)(s:Shared)(H:Hp)(E:XK):Cx where
 prog:=P
 w:=w
 K:=K
 mg:=mg
 base:=base
 A:=A.deeper (envOfC qual scope s.heap.objs.size f cd)
 N:=N
 s₀:=s
 H₀:=H
 env:=envOfC qual scope s.heap.objs.size f cd
 outer:=outer
 stack:=envOfC qual scope s.heap.objs.size f cd::outer
 ex:=[]
 calm:=true
 fn:=fun _=>true
 pn:=[]
 xe:=fun e s'=>wpAny (model P w) (A.deeper (envOfC qual scope s.heap.objs.size f cd)) (leaving (envOfC qual scope s.heap.objs.size f cd) e) (fun _ s''=>CX outer H s E e s'') (fun e' s''=>CX outer H s E e' s'') s'
theorem lg {sc:Scope}{n:Nat}{x:Str}(h:sc.names.lookup x=some .cell):∃c,(cellsFrom n sc.names []).lookup x=some c:=by
 have q:=PySem.W.cellsFrom_some sc.names n [] (.inl h);exact yc7.mp q
theorem br {CX:CXT}{P:Program}{w:World}{K:PySem.W.Frag}{mg:Str->Option Value}{base:Heap}{N ps:List Str}{qual:Str}{scope:Scope}{f:Addr}{cd:Value}{A:Around}{outer:List Env}{s s1:Shared}{H:Hp}{E:XK}{us:List Value}{vs:List V}
  (S:zm N ps scope) (hd:A.handled=none) (e0:sq P w K mg base A outer s H) (hl:vs.length=ps.length) (r:Vals vs us)
  (x:InCallC s s.heap.objs.size (bindL (envOfC qual scope s.heap.objs.size f cd).kindOf (ps.zip us) fun _=>none) (cellsFrom (s.heap.objs.size+1) scope.names []) (bindC (envOfC qual scope s.heap.objs.size f cd).kindOf (ps.zip us) fun _=>none) s1):
  Inv (uv CX P w K mg base N qual scope f cd A outer s H E) [] (start N vs) H s1:=by
 have hpl:ps.length<=N.length:=by have:=congrArg List.length S.pre;rw[z04] at this;omega
 obtain⟨h1,tk,rfl,hk⟩:=x.done;have noA:∀b:Addr,b∉(uv CX P w K mg base N qual scope f cd A outer s H E).ex:=fun b z=>absurd (show b∈([]:List Addr) from z) (by simp);refine⟨⟨e0.mod,S.kind,rfl,rfl,zY2 _,fun y z c h1 h2=>?_,fun y hy=>?_,fun y c _ h=>?_,fun _=>hd,Around.frames_deeper e0.frames,.inr ⟨rfl,rfl⟩,fun b z=>absurd z (noA b),e0.bs,e0.bsz,fun b _ _=>noA b,fun b z=>absurd z (noA b),e0.funs,e0.frf⟩,
  rfl,e0.bare,Un.kept hk,⟨_,x.toInCall.ns,fun i y v h1 h2 h3=>?_⟩,fun y c h=>⟨_,x.cell y c h⟩,e0.hok.fresh (zY2 _),fun y c h=>?_,fun p hp=>absurd (show p∈([]:List (Addr×Obj)) from hp) (by simp),e0.hok.kept hk,?_⟩
 ·exact name_of_addr x.apart (z41 h1) (z41 h2)
 ·have hy:scope.names.lookup y=some .cell\/scope.names.lookup y=some .free:=hy;rcases hy with hy|hy
  ·exact lg hy
  ·exact absurd rfl (S.nofree _ (z41 hy))
 ·exact z63 (x.above y c (z41 h))
 ·have hi:i<vs.length:=by
   unfold start at h2;by_cases hi:i<vs.length
   ·exact hi
   ·rw[z88 (by simpa using hi)] at h2;rw[z78] at h2;split at h2<;>cases h2
  have ha:vs[i]?=some v:=by
   unfold start at h2;rw[z58 (by simpa using hi),zY3] at h2;cases e:vs[i]? with
   |none=>rw[e] at h2;cases h2
   |some a=>rw[e] at h2;cases h2;rfl
  obtain⟨u,hu,rv⟩:=r.get ha;have hp:ps[i]?=some y:=by rw[<-S.pre,yc8 (by omega)];exact h1
  have ndP:ps.Nodup:=by rw[<-S.pre];exact S.nd.sublist (List.take_sublist _ _)
  refine⟨u,rv,?_⟩;rcases S.par y (z27 hp) with k|k
  ·exact .inl ⟨k,oT ndP hp hu k⟩
  ·obtain⟨c,e⟩:=lg (n:=s.heap.objs.size+1) k;refine .inr ⟨.inl k,c,e,?_⟩;have q:=x.cell y c e;rw[oy ndP hp hu (by show scope.names.lookup y≠_;rw[k];decide)] at q;exact q
 ·exact e0.hok.fresh (z63 (x.above y c (z41 h)))
 ·unfold start;show _=N.length;rw[z00,zX5,List.length_replicate];omega
theorem zl2 {CX:CXT}{P:Program}{w:World}{K:PySem.W.Frag}{mg:Str->Option Value}{base:Heap}{k:Nat}{f:Addr}{name qual:Str}{params:Arguments}{body:List Stmt}{scope:Scope}{dV kV doc pm cdv ct oc:Value}{an od:Option Addr}
  {osl:Array (Option Value)} {N ps:List Str} {sp:Sp} (lk:K.lookup f=some ⟨oc,od,.func (PySem.W.fnOf name qual params body scope dV kV doc pm an cdv ct),osl⟩) (hcd:PySem.W.codeIn K cdv qual=true) (S:zm N ps scope)
  (len:∀vs H Q E,sp vs H Q E->vs.length=ps.length)
  (hbody:∀(A:Around) (outer:List Env) (s:Shared) (H:Hp) (vs:List V) (Q:VK) (E:XK),zS k (A.deeper (envOfC qual scope s.heap.objs.size f cdv))->sp vs H Q E->
   ∃t,PSs (uv CX P w K mg base N qual scope f cdv A outer s H E) body t/\t {nx:=fun _ H'=>Q .non H',rt:=Q} (start N vs) H):
  zF P w K mg base CX (k+1) f (PySem.W.fnOf name qual params body scope dV kV doc pm an cdv ct) ps sp:=by
 refine⟨len,fun A outer s H args us vs Q E hr e0 hb r hsp=>?_⟩;have hl:=len _ _ _ _ hsp;have KX:K.In s.heap:=e0.mod.kin.keeps fun b o e=>(e0.bs b o e).1;have lim:s.heap.NoLimit:=e0.mod.nolimit.keeps fun b o e=>(e0.bs b o e).1;have hkind:∀y∈ps.zip us,scope.names.lookup y.1=some .local\/(scope.names.lookup y.1=some .cell/\((cellsFrom (s.heap.objs.size+1) scope.names []).lookup y.1).isSome=true):=fun⟨n,v⟩ hy=>by
  rcases S.par n (List.of_mem_zip hy).1 with q|q
  ·exact .inl q
  ·exact .inr ⟨q,PySem.W.cellsFrom_some _ _ _ (.inl q)⟩
 refine codeAny_call_function hr.depth (KX _ _ lk) rfl S.co S.gen rfl (PySem.W.codeRec_of KX hcd) (hb _ _ _ _ ?_);refine wpAny_newFunctionEnv_cells S.kind hkind fun env he s1 x=>?_;subst he;refine⟨lim.keeps x.toInCall.keep,codeAny_func ?_⟩;obtain⟨t,ht,hq⟩:=hbody A outer s H vs Q E (hr.deeper _) hsp;have I:Inv (uv CX P w K mg base N qual scope f cdv A outer s H E) [] (start N vs) H s1:=br S hr.hd e0 hl r x;refine z34 (ht [] s1 (start N vs) H _ I hq) (fun fl s' hs=>?_) fun e s' hs=>hs;have fin:∀{σ':St} {H':Hp} {v:V} {u:Value},Inv (uv CX P w K mg base N qual scope f cdv A outer s H E) [] σ' H' s'->RelV v u->Q v H'->CE outer P w H s Q u s':=
  fun {σ' H' v u} J rv q=>⟨v,H',J.os,J.bare,J.base,J.hok,rv,q⟩
 cases fl with
 |ret u=>
  obtain⟨v,σ',H',J,rv,q⟩:=hs;exact fin J rv q
 |next=>
  obtain⟨σ',H',J,q⟩:=hs;exact fin (v:=V.non) (u:=Value.none) J rfl q
 |brk=>
  obtain⟨_,_,_,q⟩:=hs;exact False.elim q
 |cont=>
  obtain⟨_,_,_,q⟩:=hs;exact False.elim q
section
variable {X:Cx}{x:Str}{p pos:Pos}{e:Expr}{es:List Expr}{t:TA}{id T:String}{r:List V->Hp->VK->Prop}
def tCB (r:List V->Hp->VK->Prop)(t:TA):TE:=fun σ H Q=>t σ H fun vs H1=>r vs H1 Q
theorem yo (hc:xI X (.builtin id) r)(hg:Gl X x)(hm:X.mg x=none)(hv:bootBuiltins x=some (.builtin id))(ha:PA X (e::es) t)(hn:x≠"__name__":=by decide)(hdb:(x == ("__debug__":Str))=false:=by decide)
  (he:starEach (e::es) X.env=(false,eval e X.env)::starEach es X.env:=by rfl) (hpl:(backTo pos (starEach es X.env)).any (·.1)=false:=by rfl):PE X (.Call (.Name x p) (e::es) [] pos) (tCB r t):=by
 intro pins s σ H Q I h;refine ya1 (xA I hg hm hv ?_ hn hdb);exact PyProof.Rows.callWith_builtin1 (thn (ha pos pins s σ H _ I h) fun us s1 ⟨vs,H1,I1,r1,q1⟩=>hc pins s1 σ H1 vs us Q I1 r1 q1) he hpl
theorem wR (hc:xI X (.type T) r)(hg:Gl X x)(hm:X.mg x=none)(hv:bootBuiltins x=some (.type T))(ha:PA X (e::es) t)(hn:x≠"__name__":=by decide)(hdb:(x == ("__debug__":Str))=false:=by decide)
  (he:starEach (e::es) X.env=(false,eval e X.env)::starEach es X.env:=by rfl) (hpl:(backTo pos (starEach es X.env)).any (·.1)=false:=by rfl):PE X (.Call (.Name x p) (e::es) [] pos) (tCB r t):=by
 intro pins s σ H Q I h;refine ya1 (xA I hg hm hv ?_ hn hdb);exact z24 (thn (ha pos pins s σ H _ I h) fun us s1 ⟨vs,H1,I1,r1,q1⟩=>hc pins s1 σ H1 vs us Q I1 r1 q1) he hpl
end
end L2
namespace HT
open PySem PyProof.Rows
section
open PySem.SeqAt
open PySem.AutoSeq1 (wpAny_loadPart')
open PySem.MeetsSeq PySem.MeetsSeq2 PySem.MeetsSeq3
end
section
variable {prog:Program}{w:World}{A:Around}{E:Value->Shared->Prop}{s:Shared}
noncomputable def sIx (n d:Nat):Option Int->Nat
 |none=>d
 |some v=>if v<0 then (v+(n:Int)).toNat else min v.toNat n
theorem jj (n d:Nat):sIx n d none=d:=rfl
theorem zn3 (n d k:Nat):sIx n d (some (k:Int))=min k n:=by
 show (if (k:Int)<0 then ((k:Int)+(n:Int)).toNat else min (k:Int).toNat n)=min k n;rw[if_neg (by omega),z42]
end
end HT
namespace L2
open PySem PySem.Spec PyProof.Rows
abbrev TO :=St->Hp->(Option Int->Hp->Prop)->Prop
def PO (X:Cx)(e:Option Expr)(t:TO):Prop:=
 ∀(pins:List (Addr×Obj)) (s:Shared) (σ:St) (H:Hp) (Q:Option Int->Hp->Prop),Inv X pins σ H s->t σ H Q->
  wpAny (model X.prog X.w) X.A (evalPart e X.env) (fun u s'=>∃o H',Inv X pins σ H' s'/\IsPart u o/\Q o H') X.xe s
def zs0 :TO:=fun _ H Q=>Q none H
def zM5 (t:TE):TO:=fun σ H Q=>t σ H fun x H1=>∃i,x=.int i/\Q (some i) H1
section
variable {X:Cx}{e:Expr}{te:TE}{lo hi:Option Expr}{tl th:TO}{pos p2:Pos}
theorem nH :PO X none zs0:=by
 intro pins s σ H Q I h;rw[evalPart_none];exact zY8 ⟨none,H,I,.none,h⟩
theorem nP (h:PE X e te):PO X (some e) (zM5 te):=by
 intro pins s σ H Q I hw;rw[evalPart_some];refine thn (h pins s σ H _ I hw) fun u s1 ⟨x,H1,I1,r1,q1⟩=>?_;obtain⟨i,rfl,q⟩:=q1;obtain⟨t,rfl⟩:=r1;exact⟨some i,H1,I1,.int i t,q⟩
def SlR (X:Cx)(r:V->Option Int->Option Int->Hp->VK->Prop):Prop:=
 ∀(pins:List (Addr×Obj)) (s:Shared) (σ:St) (H:Hp) (x:V) (v vl vu:Value) (lo hi:Option Int) (sl:Addr) (Q:VK),Inv X pins σ H s->RelV x v->s.heap.IsSliceOf sl vl vu .none->IsPart vl lo->IsPart vu hi->r x lo hi H Q->
  ∃T id,typeLookup (.type T) "__getitem__"=pure (some (.builtin id))/\s.TypeIs v T/\wpAny (model X.prog X.w) X.A (getItem v (.ref sl)) (EP X pins σ Q) X.xe s
def tSl (r:V->Option Int->Option Int->Hp->VK->Prop)(te:TE)(tl th:TO):TE:=fun σ H Q=>te σ H fun x H1=>tl σ H1 fun l H2=>th σ H2 fun u H3=>r x l u H3 Q
theorem qK {r:V->Option Int->Option Int->Hp->VK->Prop}(hr:SlR X r)(he:PE X e te)(hl:PO X lo tl)(hu:PO X hi th):PE X (.Subscript e (.Slice lo hi none p2) pos) (tSl r te tl th):=by
 intro pins s σ H Q I h;refine Subscript_ (thn (he pins s σ H _ I h) fun v s1 ⟨x,H1,I1,r1,q1⟩=>?_);refine wpAny_Slice (thn (hl pins s1 σ H1 _ I1 q1) fun vl s2 ⟨l,H2,I2,pl,q2⟩=>thn (hu pins s2 σ H2 _ I2 q2) fun vu s3 ⟨u,H3,I3,pu,q3⟩=>?_);rw[evalPart_none];refine zY8 ?_;have I4:Inv X pins σ H3 {s3 with heap:=s3.heap.push {cls:=.type "slice",data:=.fields #[vl,vu,.none]}}:=I3.kept (t':=s3.toks) fun b ob q=>zX8 _ q;obtain⟨T,id,hT,ht,hg⟩:=hr pins {s3 with heap:=s3.heap.push {cls:=.type "slice",data:=.fields #[vl,vu,.none]}} σ H3 x v vl vu l u s3.heap.objs.size Q I4 r1 (Heap.IsSliceOf.new ..) pl pu q3;show wpAny (model X.prog X.w) X.A (subscriptTail e (.Slice lo hi none p2) v (.ref s3.heap.objs.size)) (EP X pins σ Q) X.xe {s3 with heap:=s3.heap.push {cls:=.type "slice",data:=.fields #[vl,vu,.none]}};exact tail_any (ops:=[.ref s3.heap.objs.size,v]) ht hT hg (by with_unfolding_all rfl)
noncomputable def lQ (xs:List V)(lo hi:Option Int):List V:=(xs.drop (HT.sIx xs.length 0 lo)).take (HT.sIx xs.length xs.length hi-HT.sIx xs.length 0 lo)
theorem lR (xs:List V)(lo hi:Option Int):(lQ xs lo hi).length<=xs.length:=by
 unfold lQ;rw[z04,z55];omega
end
noncomputable def ixN (n:Nat)(i:Int):Option Nat:=if 0<=i then (if i<n then some i.toNat else none) else if -(n:Int)<=i then some (i+n).toNat else none
noncomputable def atI {α:Type}(xs:List α)(i:Int):Option α:=(ixN xs.length i).bind fun j=>xs[j]?
theorem nj {n:Nat}{i:Int}{j:Nat}(h:ixN n i=some j):seqIndex? i n=some j/\j<n/\-(n:Int)<=i/\i<n:=by
 unfold ixN at h;by_cases h0:0<=i
 ·rw[if_pos h0] at h;by_cases h1:i<n
  ·rw[if_pos h1] at h;have e:i.toNat=j:=z05 h;exact⟨by rw[seqIndex_of h0 h1,e],by omega,by omega,h1⟩
  ·rw[if_neg h1] at h;cases h
 ·rw[if_neg h0] at h;by_cases h1:-(n:Int)<=i
  ·rw[if_pos h1] at h;have e:(i+n).toNat=j:=z05 h;exact⟨by rw[seqIndex_neg (by omega) h1,e],by omega,h1,by omega⟩
  ·rw[if_neg h1] at h;cases h
theorem nh {α:Type}{xs:List α}{i:Int}{v:α}(h:atI xs i=some v):∃j,seqIndex? i xs.length=some j/\xs[j]?=some v/\j<xs.length/\-(xs.length:Int)<=i/\i<xs.length:=by
 unfold atI at h;cases e:ixN xs.length i with
 |none=>rw[e] at h;cases h
 |some j=>
  rw[e] at h;obtain⟨h1,h2,h3,h4⟩:=nj e;exact⟨j,h1,h,h2,h3,h4⟩
theorem yF {α:Type}{xs:List α}{j:Nat}{v:α}(h:xs[j]?=some v):atI xs (j:Int)=some v:=by
 have hj:j<xs.length:=(zY0.mp h).1;have e:ixN xs.length (j:Int)=some j:=by
  unfold ixN;rw[if_pos (by omega),if_pos (by omega)];simp
 unfold atI;rw[e];exact h
theorem aj {α:Type}(xs:List α)(v:α):atI (xs++[v]) (-1)=some v:=by
 have hl:(xs++[v]).length=xs.length+1:=by simp
 have e:ixN (xs++[v]).length (-1)=some xs.length:=by
  unfold ixN;rw[hl,if_neg (by decide),if_pos (by omega)]
  congr 1
  omega
 unfold atI;rw[e];show (xs++[v])[xs.length]?=some v;simp
def rL (b:Expr):Prop:=∀o i,subscripted b false o i=operate [o,i] (getItem o i)
def IxR (X:Cx)(r:R2):Prop:=
 ∀(value slice:Expr) (pins:List (Addr×Obj)) (s:Shared) (σ:St) (H:Hp) (x y:V) (v u:Value) (Q:VK),Inv X pins σ H s->RelV x v->RelV y u->r x y H Q->
  subscripted slice false v u=operate [v,u] (getItem v u)->wpAny (model X.prog X.w) X.A (subscriptTail value slice v u) (EP X pins σ Q) X.xe s
def MtR (X:Cx)(id:String)(r:V->List V->Hp->VK->Prop):Prop:=
 ∀(pins:List (Addr×Obj)) (s:Shared) (σ:St) (H:Hp) (x:V) (xs:List V) (v:Value) (us:List Value) (Q:VK),Inv X pins σ H s->RelV x v->Vals xs us->r x xs H Q->
  wpAny (model X.prog X.w) X.A (call (.builtin id) (v::us)) (EP X pins σ Q) X.xe s
section
variable {X:Cx}{a b:Expr}{ta tb:TE}{pos:Pos}
theorem IxR.or {r r':R2}(h:IxR X r)(h':IxR X r'):IxR X (fun x y H Q=>r x y H Q\/r' x y H Q):=by
 intro value slice pins s σ H x y v u Q I rx ry q hs;rcases q with q|q
 ·exact h value slice pins s σ H x y v u Q I rx ry q hs
 ·exact h' value slice pins s σ H x y v u Q I rx ry q hs
theorem zW {r:R2}(hr:IxR X r)(ha:PE X a ta)(hb:PE X b tb)(hs:rL b):PE X (.Subscript a b pos) (tOp r ta tb):=by
 intro pins s σ H Q I h;exact Subscript_ (zI2 ha hb I h fun v u s2 x y H2 I2 rx ry q=>hr a b pins s2 σ H2 x y v u Q I2 rx ry q (hs _ _))
def zK6 (K:PySem.W.Frag):R2:=fun x y H Q=>∃p xs i v,x=.ref p/\y=.int i/\SqL K H p xs/\atI xs i=some v/\Q v H
def zK3 (K:PySem.W.Frag):R2:=fun x y H Q=>∃p xs i v,x=.ref p/\y=.int i/\SqT K H p xs/\atI xs i=some v/\Q v H
def zQ4 :R2:=fun x y H Q=>∃z i c,x=.str z/\y=.int i/\z.length<=sizeLine/\atI z.cps.toList i=some c/\Q (.str ⟨#[c]⟩) H
theorem zZ :IxR X (zK6 X.K):=by
 intro value slice pins s σ H x y v u Q I rx ry h hs;obtain⟨p,xs,i,z,rfl,rfl,hq,he,q⟩:=h;cases rx;obtain⟨t,rfl⟩:=ry;obtain⟨its,r,pl,hz⟩:=I.list hq;obtain⟨j,h1,h2,h3,h4,h5⟩:=nh he;obtain⟨w,ew,rw'⟩:=r.get h2;have hl:=r.length;have hn:=sD;have fin:EP X pins σ Q w s:=⟨z,H,I,rw',q⟩;by_cases h0:0<=i
 ·have hj:i.toNat=j:=by
   rw[seqIndex_of h0 h5] at h1;exact z05 h1
  exact item_listR pl.isList h0 (by omega) (by rw[hj];simpa using ew) fin hs
 ·have hj:(i+(its.toArray.size:Int)).toNat=j:=by
   rw[seqIndex_neg (by omega) h4] at h1;rw[zZ1,<-hl];exact z05 h1
  exact subscriptTail_builtinR (x:=w) pl.isList.typeIs slot_list_getitem.lookup
   (wpAny_getItem_list_neg (Q:=fun r s'=>r=w/\EP X pins σ Q r s') pl.isList (by omega) (by rw[zZ1]<;>omega) (by omega) (by rw[hj];simpa using ew) ⟨rfl,fin⟩) hs
theorem yO :IxR X (zK3 X.K):=by
 intro value slice pins s σ H x y v u Q I rx ry h hs;obtain⟨p,xs,i,z,rfl,rfl,hq,he,q⟩:=h;cases rx;obtain⟨t,rfl⟩:=ry;obtain⟨its,r,pl,hz⟩:=I.tuple hq;obtain⟨j,h1,h2,h3,h4,h5⟩:=nh he;obtain⟨w,ew,rw'⟩:=r.get h2;have hl:=r.length;have hn:=sD;have fin:EP X pins σ Q w s:=⟨z,H,I,rw',q⟩;exact subscriptTail_builtinR (x:=w) pl.typeIs slot_tuple_getitem.lookup
  (getItem_tuple (j:=j) (Q:=fun r s'=>r=w/\EP X pins σ Q r s') pl (by omega) (by omega) (by rw[zZ1,<-hl];exact h1) (by simpa using ew) ⟨rfl,fin⟩) hs
theorem zD6 :IxR X zQ4:=by
 intro value slice pins s σ H x y v u Q I rx ry h hs;obtain⟨z,i,c,rfl,rfl,hz,he,q⟩:=h;obtain⟨t,rfl⟩:=rx;obtain⟨t',rfl⟩:=ry;obtain⟨j,h1,h2,h3,h4,h5⟩:=nh he;have hl:z.cps.toList.length=z.length:=by simp[Str.length]
 rw[hl] at h1 h4 h5;have hn:=sD;exact tail_any (typeIs_str s z t) slot_str_getitem.lookup (getItem_str (c:=c) (by
  have e1:decide (i < -(2 ^ 63:Int))=false:=z08 (by omega);have e2:decide (i≥2 ^ 63)=false:=z08 (by omega);rw[e1,e2,yb5]) (by rw[h1];simpa using h2) ⟨.str ⟨#[c]⟩,H,I.tok _,⟨_,rfl⟩,q⟩) hs
def rIx (K:PySem.W.Frag):R2:=fun x y H Q=>zK6 K x y H Q\/zK3 K x y H Q\/zQ4 x y H Q
theorem zE2 :IxR X (rIx X.K):=zZ.or (yO.or zD6)
theorem jC (its:List Value)(n j:Nat)(u:Value):Obj.mapSeq (·.setIfInBounds j u) {cls:=.type "list",data:=.seq its.toArray n}={cls:=.type "list",data:=.seq (its.set j u).toArray n}:=by simp[Obj.mapSeq]
theorem Inv.lst {pins:List (Addr×Obj)}{σ:St}{H:Hp}{s:Shared}{p:Addr}{xs:List V}(I:Inv X pins σ H s)(h:H p=some (.lst xs)):
  ∃(its:List Value) (n:Nat),Vals xs its/\s.heap.get? p=some {cls:=.type "list",data:=.seq its.toArray n}/\xs.length<=sizeLine:=by
 obtain⟨z,its,n,r,e⟩:=I.hok p _ h;exact⟨its,n,r,e,z⟩
theorem Inv.lstUpd {pins:List (Addr×Obj)}{σ:St}{H:Hp}{s:Shared}{p:Addr}{xs ys:List V}{its its':List Value}{n n':Nat}{f:Obj->Obj}(I:Inv X pins σ H s)(h:H p=some (.lst xs))
  (ho:s.heap.get? p=some {cls:=.type "list",data:=.seq its.toArray n}) (hf:f {cls:=.type "list",data:=.seq its.toArray n}={cls:=.type "list",data:=.seq its'.toArray n'}) (r:Vals ys its') (hz:ys.length<=sizeLine) (t:Nat):
  Inv X pins σ (upd H p (.lst ys)) {s with heap:=s.heap.update p f,toks:=t}:=by
 have e:(s.heap.update p f).get? p=some {cls:=.type "list",data:=.seq its'.toArray n'}:=by rw[ya9 f ho (by rw[hf]<;>rfl),hf]
 refine I.write (x:=p) (e:=p) (by rw[h];trivial) (.inl rfl) (fun b u hb q=>(z02 _ _ (z22 hb)).trans q) ⟨_,e⟩ ?_;exact⟨hz,its',n',r,e⟩
def zz2 :V->V->V->Hp->(Hp->Prop)->Prop:=fun o i v H Q=>∃p xs k j,o=.ref p/\i=.int k/\H p=some (.lst xs)/\ixN xs.length k=some j/\Q (upd H p (.lst (xs.set j v)))
theorem set_list :zT0 X zz2:=by
 intro pins s σ H o i v ov iv u Q I ro ri rv h;obtain⟨p,xs,k,j,rfl,rfl,hp,hj,q⟩:=h;cases ro;obtain⟨t,rfl⟩:=ri;obtain⟨its,n,r,ho,hz⟩:=I.lst hp;obtain⟨h1,h2,h3,h4⟩:=nj hj;have hl:=r.length;have hn:=sD;have I':Inv X pins σ (upd H p (.lst (xs.set j v))) {s with heap:=s.heap.update p (Obj.mapSeq (·.setIfInBounds j u))}:=
  I.lstUpd hp ho (jC its n j u) (r.set rv j) (by rw[z53];exact hz) s.toks
 by_cases h0:0<=k
 ·have hk:k.toNat=j:=by
   rw[seqIndex_of h0 h4] at h1;exact z05 h1
  exact PySem.W.ki_setAt ho h0 (by omega) (by rw[zZ1,<-hl];exact h4) (by rw[hk];exact⟨_,I',q⟩)
 ·have hk:(k+(its.toArray.size:Int)).toNat=j:=by
   rw[seqIndex_neg (by omega) h3] at h1;rw[zZ1,<-hl];exact z05 h1
  exact PySem.W.ki_setBack ho (by omega) (by rw[zZ1,<-hl];exact h3) (by omega) (by rw[hk];exact⟨_,I',q⟩)
theorem mq (lo hi:Option Int)(n:Nat):(sliceBounds lo hi none n).1=((HT.sIx n 0 lo:Nat):Int)/\(sliceBounds lo hi none n).2.1=((HT.sIx n n hi:Nat):Int)/\(sliceBounds lo hi none n).2.2=1:=by
 refine⟨?_,?_,rfl⟩
 ·cases lo with
  |none=>simp[sliceBounds,HT.sIx]
  |some i=>
   simp only[sliceBounds,HT.sIx,Option.getD_none,show (1:Int) > 0 by decide,ya0];by_cases h:i<0
   ·simp only[h,ya0]<;>omega
   ·simp only[h,z72]<;>omega
 ·cases hi with
  |none=>simp[sliceBounds,HT.sIx]
  |some i=>
   simp only[sliceBounds,HT.sIx,Option.getD_none,show (1:Int) > 0 by decide,ya0];by_cases h:i<0
   ·simp only[h,ya0]<;>omega
   ·simp only[h,z72]<;>omega
theorem pN (its:List Value)(lo hi:Option Int):slicePick its.toArray lo hi none=((its.drop (HT.sIx its.length 0 lo)).take (HT.sIx its.length its.length hi-HT.sIx its.length 0 lo)).toArray:=by
 obtain⟨h1,h2,h3⟩:=mq lo hi its.toArray.size;unfold slicePick;rw[h1,h2,h3];simp only[sliceRange_one,pick_run,zZ1]<;>rfl
def zV5 (K:PySem.W.Frag):V->Option Int->Option Int->Hp->VK->Prop:=fun x lo hi H Q=>∃a xs,x=.ref a/\SqL K H a xs/\∀p,H p=none->Q (.ref p) (upd H p (.lst (lQ xs lo hi)))
theorem mN :SlR X (zV5 X.K):=by
 intro pins s σ H x v vl vu lo hi sl Q I rx hs pl pu h;obtain⟨a,xs,rfl,hx,q⟩:=h;cases rx;obtain⟨its,r,ht,hz⟩:=I.list hx;have hlen:=r.length;refine⟨"list",_,slot_list_getitem.lookup,ht.isList.typeIs,?_⟩;refine wpAny_getItem_list_slice ht.isList hs pl pu .none (by simp) ?_ (by rw[zZ1]<;>omega);rw[pN,<-hlen];refine⟨.ref s.heap.objs.size,_,I.laid (t':=s.toks) (o:=.lst (lQ xs lo hi)) (fun b ob q=>zX8 _ q) (zY2 _) ?_,rfl,q _ (I.hok.fresh (zY2 _))⟩;exact⟨z35 (lR xs lo hi) hz,_,0,(r.drop (HT.sIx xs.length 0 lo)).take (HT.sIx xs.length xs.length hi-HT.sIx xs.length 0 lo),zY7 _ rfl⟩
noncomputable def uz :V->Bool
 |.non=>true
 |.bl _=>true
 |.int _=>true
 |.str _=>true
 |_=>false
noncomputable def eqV :V->V->Bool
 |.non,.non=>true
 |.bl a,.bl b=>a == b
 |.bl a,.int b=>(if a then 1 else 0)==b
 |.int a,.bl b=>a == (if b then 1 else 0)
 |.int a,.int b=>a == b
 |.str a,.str b=>a == b
 |_,_=>false
theorem zF6 {A:Around}{s:Shared}{y x:V}{u v:Value}(ry:RelV y u)(rx:RelV x v)(fy:uz y=true)(fx:uz x=true):SeqAt.EqAt A s u v (eqV y x):=by
 cases y with
 |non=>
  cases ry;cases x with
  |non=>cases rx;exact SeqAt.EqAt.same _
  |bl b=>cases rx;exact SeqAt.EqAt.none_bool b
  |int b=>obtain⟨t,rfl⟩:=rx;exact SeqAt.EqAt.none_int b t
  |str b=>obtain⟨t,rfl⟩:=rx;exact SeqAt.EqAt.none_str b t
  |_=>exact absurd (show false=true from fx) zZ5
 |bl a=>
  cases ry;cases x with
  |non=>cases rx;exact SeqAt.EqAt.bool_none a
  |bl b=>cases rx;exact SeqAt.EqAt.bool_bool a b
  |int b=>obtain⟨t,rfl⟩:=rx;exact SeqAt.EqAt.bool_int a b t
  |str b=>obtain⟨t,rfl⟩:=rx;exact SeqAt.EqAt.bool_str a b t
  |_=>exact absurd (show false=true from fx) zZ5
 |int a=>
  obtain⟨t',rfl⟩:=ry;cases x with
  |non=>cases rx;exact SeqAt.EqAt.int_none a t'
  |bl b=>cases rx;exact SeqAt.EqAt.int_bool a t' b
  |int b=>obtain⟨t,rfl⟩:=rx;exact SeqAt.EqAt.int_int a t' b t
  |str b=>obtain⟨t,rfl⟩:=rx;exact SeqAt.EqAt.int_str a t' b t
  |_=>exact absurd (show false=true from fx) zZ5
 |str a=>
  obtain⟨t',rfl⟩:=ry;cases x with
  |non=>cases rx;exact SeqAt.EqAt.str_none a t'
  |bl b=>cases rx;exact SeqAt.EqAt.str_bool a t' b
  |int b=>obtain⟨t,rfl⟩:=rx;exact SeqAt.EqAt.str_int a t' b t
  |str b=>obtain⟨t,rfl⟩:=rx;exact SeqAt.EqAt.str_str a t' b t
  |_=>exact absurd (show false=true from fx) zZ5
 |_=>exact absurd (show false=true from fy) zZ5
noncomputable def eqU (x:V)(u:Value):Bool:=match u with
 |.none=>eqV .non x
 |.bool b=>eqV (.bl b) x
 |.int i _=>eqV (.int i) x
 |.str z _=>eqV (.str z) x
 |_=>false
theorem zg0 {x y:V}{u:Value}(r:RelV y u)(f:uz y=true):eqU x u=eqV y x:=by
 cases y with
 |non=>cases r;rfl
 |bl b=>cases r;rfl
 |int i=>obtain⟨t,rfl⟩:=r;rfl
 |str z=>obtain⟨t,rfl⟩:=r;rfl
 |_=>exact absurd (show false=true from f) zZ5
theorem tj {x:V}:∀{xs:List V} {us:List Value},Vals xs us->xs.all uz=true->us.any (eqU x)=xs.any fun y=>eqV y x
 |_,_,.nil,_=>rfl
 |y::xs,u::us,.cons r t,f=>by
  rw[yb6,zZ9] at f;rw[z89,z89,zg0 r f.1,tj t f.2]
theorem ua {A:Around}{s:Shared}{x:V}{v:Value}(rx:RelV x v)(fx:uz x=true):∀{xs:List V} {us:List Value},Vals xs us->xs.all uz=true->∀u∈us,SeqAt.EqAt A s u v (eqU x u)
 |_,_,.nil,_=>fun u hu=>by cases hu
 |y::xs,u::us,.cons r t,f=>fun u' hu=>by
  rw[yb6,zZ9] at f;rcases zY1.mp hu with rfl|hu
  ·rw[zg0 r f.1];exact zF6 r rx f.1 fx
  ·exact ua rx fx t f.2 u' hu
noncomputable def inV (x:V)(xs:List V):Bool:=xs.any fun y=>eqV y x
def rIn (K:PySem.W.Frag)(neg:Bool):R2:=fun x y H Q=>∃p xs,y=.ref p/\(SqL K H p xs\/SqT K H p xs)/\uz x=true/\xs.all uz=true/\Q (.bl (if neg then !inV x xs else inV x xs)) H
theorem dS :OpR X (compareOp .In) (rIn X.K false):=by
 intro pins s σ H x y v u Q I rx ry h;obtain⟨p,xs,rfl,hq,fx,fs,q⟩:=h;cases ry;rcases hq with hq|hq
 ·obtain⟨its,r,pl,hz⟩:=I.list hq;refine SeqAt.in_listAt (eqU x) pl.isList (fun w hw=>ua rx fx r fs w (by simpa using hw)) ⟨.bl _,H,I,rfl,?_⟩;rw[show its.toArray.any (eqU x)=its.any (eqU x) by simp,tj r fs];exact q
 ·obtain⟨its,r,pl,hz⟩:=I.tuple hq;refine SeqAt.in_tupleAt (eqU x) pl (fun w hw=>ua rx fx r fs w (by simpa using hw)) ⟨.bl _,H,I,rfl,?_⟩;rw[show its.toArray.any (eqU x)=its.any (eqU x) by simp,tj r fs];exact q
theorem nZ :OpR X (compareOp .NotIn) (rIn X.K true):=by
 intro pins s σ H x y v u Q I rx ry h;obtain⟨p,xs,rfl,hq,fx,fs,q⟩:=h;cases ry;rcases hq with hq|hq
 ·obtain⟨its,r,pl,hz⟩:=I.list hq;refine SeqAt.notIn_listAt (eqU x) pl.isList (fun w hw=>ua rx fx r fs w (by simpa using hw)) ⟨.bl _,H,I,rfl,?_⟩;rw[show its.toArray.any (eqU x)=its.any (eqU x) by simp,tj r fs];exact q
 ·obtain⟨its,r,pl,hz⟩:=I.tuple hq;refine SeqAt.notIn_tupleAt (eqU x) pl (fun w hw=>ua rx fx r fs w (by simpa using hw)) ⟨.bl _,H,I,rfl,?_⟩;rw[show its.toArray.any (eqU x)=its.any (eqU x) by simp,tj r fs];exact q
theorem yG :xI X (.builtin "len") (fun xs H Q=>∃p ys,xs=[.ref p]/\(SqL X.K H p ys\/SqT X.K H p ys)/\Q (.int ys.length) H):=by
 intro pins s σ H xs us Q I r h;obtain⟨p,ys,rfl,hq,q⟩:=h;obtain⟨u,rfl,rx⟩:=vals1 r;cases rx;have hn:=sD;rcases hq with hq|hq
 ·obtain⟨its,r',pl,hz⟩:=I.list hq;have hlen:=r'.length;exact Calls.call_len_list pl.isList (by simp only[zZ1]<;>omega) ⟨.int ys.length,H,I.tok _,⟨s.toks+1,by rw[zZ1,hlen]⟩,q⟩
 ·obtain⟨its,r',pl,hz⟩:=I.tuple hq;have hlen:=r'.length;exact len_tuple pl (by simp only[zZ1]<;>omega) ⟨.int ys.length,H,I.tok _,⟨s.toks+1,by rw[zZ1,hlen]⟩,q⟩
theorem tw :xI X (.type "list") (fun xs H Q=>∃p ys,xs=[.ref p]/\(SqL X.K H p ys\/SqT X.K H p ys)/\∀l,H l=none->Q (.ref l) (upd H l (.lst ys))):=by
 intro pins s σ H xs us Q I r h;obtain⟨p,ys,rfl,hq,q⟩:=h;obtain⟨u,rfl,rx⟩:=vals1 r;cases rx;have fin:∀(its:List Value),Vals ys its->ys.length<=sizeLine->∀(h':Heap) (c':Nat),(∀b o',s.heap.get? b=some o'->h'.get? b=some o')->
   h'.get? s.heap.objs.size=some {cls:=.type "list",dict:=none,data:=.seq its.toArray c',slots:=#[]}->EP X pins σ Q (.ref s.heap.objs.size) {s with heap:=h'}:=fun its r' hz h' c' kp e=>
  ⟨.ref s.heap.objs.size,_,I.laid (t':=s.toks) kp (zY2 _) (show zP X.prog X.w _ h' _ (.lst ys) from ⟨hz,its,c',r',e⟩),rfl,q _ (I.hok.fresh (zY2 _))⟩
 rcases hq with hq|hq
 ·obtain⟨its,r',pl,hz⟩:=I.list hq;have hlen:=r'.length;obtain⟨o,ho,hc,n,hd⟩:=pl.isList;exact call_list_seq p (.inl rfl) ho hc hd (fun h' c' kp e=>fin its r' hz h' c' kp e) (by simp only[zZ1]<;>omega)
 ·obtain⟨its,r',pl,hz⟩:=I.tuple hq;have hlen:=r'.length;obtain⟨o,ho,hc,n,hd⟩:=pl;exact call_list_seq p (.inr rfl) ho hc hd (fun h' c' kp e=>fin its r' hz h' c' kp e) (by simp only[zZ1]<;>omega)
def tyV (K:PySem.W.Frag)(T:String)(x:V)(H:Hp):Prop:=match x with
 |.str _=>T="str"
 |.int _=>T="int"
 |.ref p=>(T="list"/\∃xs,SqL K H p xs)\/(T="tuple"/\∃o,K.lookup p=some o/\o.cls=.type "tuple"/\o.dict=none)\/
   (T="dict"/\((∃kvs,H p=some (.dK kvs))\/∃kvs,H p=some (.dT kvs)))\/(T="set"/\∃S n,H p=some (.set S n))
 |_=>False
theorem zD2 {pins:List (Addr×Obj)}{σ:St}{H:Hp}{s:Shared}{T:String}{x:V}{v:Value}(I:Inv X pins σ H s)(r:RelV x v)(ty:tyV X.K T x H):
  s.TypeIs v T/\∀a,v=.ref a->∃ob,s.heap.get? a=some ob/\ob.dict=none:=by
 cases x with
 |str z=>
  obtain⟨t,rfl⟩:=r;cases (show T="str" from ty);exact⟨typeIs_str s z t,fun _ e=>nomatch e⟩
 |int i=>
  obtain⟨t,rfl⟩:=r;cases (show T="int" from ty);exact⟨typeIs_int s i t,fun _ e=>nomatch e⟩
 |ref p=>
  cases r;rcases ty with ⟨rfl,xs,hq⟩|⟨rfl,o,hk,hc,hd⟩|⟨rfl,hk⟩|⟨rfl,S,n,hk⟩
  ·obtain⟨its,_,pl,_⟩:=I.list hq;refine⟨pl.isList.typeIs,fun a e=>?_⟩;cases e;obtain⟨o,n,e,c,hd,_⟩:=pl;exact⟨o,e,hd⟩
  ·refine⟨⟨o,I.kIn p o hk,hc⟩,fun a e=>?_⟩;cases e;exact⟨o,I.kIn _ o hk,hd⟩
  ·have z:∃o,s.heap.get? p=some o/\o.ExactDict:=by
    rcases hk with ⟨kvs,hk⟩|⟨kvs,hk⟩
    ·obtain⟨_,_,_,_,o,_,_,e,ex,_⟩:=I.hok p _ hk;exact⟨o,e,ex⟩
    ·obtain⟨_,_,_,_,o,_,_,e,ex,_⟩:=I.hok p _ hk;exact⟨o,e,ex⟩
   obtain⟨o,e,ex⟩:=z;refine⟨⟨o,e,ex.1⟩,fun a e2=>?_⟩;cases e2;exact⟨o,e,ex.2.1⟩
  ·obtain⟨o,_,_,_,e,ex,_⟩:=I.hok p _ hk;refine⟨⟨o,e,ex.1⟩,fun a e2=>?_⟩;cases e2;exact⟨o,e,ex.2.1⟩
 |_=>exact False.elim ty
def tBM (K:PySem.W.Frag)(T:String)(r:V->List V->Hp->VK->Prop)(to:TE)(t:TA):TE:=fun σ H Q=>to σ H fun x H1=>tyV K T x H1/\t σ H1 fun xs H2=>r x xs H2 Q
variable {o e:Expr}{es:List Expr}{to:TE}{t:TA}{name:Str}{apos cpos:Pos}{T id:String}{r:V->List V->Hp->VK->Prop}
theorem zA0 (pa:PlainAttrs T)(slot:Slot T name id)(hty:typeOf (.builtin id)=pure (.type "method_descriptor"))(hm:MtR X id r)(ho:PE X o to)(ha:PA X (e::es) t)
  (hbase:attributeBase o name X.env (eval o X.env)=eval o X.env:=by rfl)
  (hfew:((backTo cpos (starEach (e::es) X.env)).all (fun x=>!x.1)&&(backToKw cpos (keywordEach [] X.env)).all (fun x=>x.1.isSome)
   &&decide ((e::es).length+([]:List Keyword).length+(if ([]:List Keyword).isEmpty then 0 else 1)<30))=true:=by rfl)
  (hline:(apos.endLine == cpos.line)=true:=by rfl) (hs:starEach (e::es) X.env=(false,eval e X.env)::starEach es X.env:=by rfl) (hplain:(backTo cpos (starEach es X.env)).any (·.1)=false:=by rfl):
  PE X (.Call (.Attribute o name apos) (e::es) [] cpos) (tBM X.K T r to t):=by
 intro pins s σ H Q I h;refine wpAny_Call_method_late hbase hfew hline rfl (thn (ho pins s σ H _ I h) fun v s1 ⟨x,H1,I1,r1,ty,q1⟩=>?_);obtain⟨h1,h2⟩:=zD2 I1 r1 ty;refine⟨T,id,pa,slot,hty,h1,h2,?_⟩;have hA:=ha cpos pins s1 σ H1 _ I1 q1;rw[hs] at hA ⊢;refine Calls.callWith_builtin (by show (false||(backTo cpos (starEach es X.env)).any (·.1))=false;rw[hplain]<;>rfl) (Calls.evalArgs_plain ?_);exact thn hA fun us s2 ⟨vs,H2,I2,r2,q2⟩=>hm pins s2 σ H2 x vs v us Q I2 r1 r2 q2
/- xs.append(e),list.index on a module's tuple .. are MtR facts of 06m -/
end
def MtM (X:Cx)(id:String)(r:V->List V->Hp->VK->Prop):Prop:=
 ∀(pins:List (Addr×Obj)) (s:Shared) (σ:St) (H:Hp) (x:V) (xs:List V) (v:Value) (us:List Value) (Q:VK),Inv X pins σ H s->RelV x v->Vals xs us->r x xs H Q->
  wpAny (model X.prog X.w) X.A (call (.builtin id) (v::us)) (EP X pins σ Q) X.xe s
theorem Vals.one {x:V}{us:List Value}(h:Vals [x] us):∃u,us=[u]/\RelV x u:=by
 cases h with
 |cons r q=>cases q;exact⟨_,rfl,r⟩
theorem Vals.two {x y:V}{us:List Value}(h:Vals [x,y] us):∃u v,us=[u,v]/\RelV x u/\RelV y v:=by
 cases h with
 |cons r q=>
  cases q with
  |cons q z=>cases z;exact⟨_,_,rfl,r,q⟩
theorem Vals.eraseIdx :∀{xs:List V} {us:List Value} (i:Nat),Vals xs us->Vals (xs.eraseIdx i) (us.eraseIdx i)
 |_,_,_,.nil=>.nil
 |_,_,0,.cons _ t=>t
 |_,_,i+1,.cons r t=>.cons r (Vals.eraseIdx i t)
theorem oP {α:Type}:∀(l:List α) (i:Nat),(l.eraseIdx i).length<=l.length
 |[],_=>zY2 _
 |_::_,0=>z83 _
 |_::r,i+1=>Nat.succ_le_succ (oP r i)
section
variable {X:Cx}{pins:List (Addr×Obj)}{σ:St}{H:Hp}{s:Shared}{l b:Addr}{xs ys zs:List V}
theorem Inv.lset {its its':List Value}{n:Nat}{f:Array Value->Array Value}{t':Nat}(I:Inv X pins σ H s)(hH:H l=some (.lst xs))
  (e:s.heap.get? l=some {cls:=.type "list",data:=.seq its.toArray n}) (hf:f its.toArray=its'.toArray) (hv:Vals ys its') (hz:ys.length<=sizeLine):
  Inv X pins σ (upd H l (.lst ys)) {s with heap:=s.heap.update l (Obj.mapSeq f),toks:=t'}:=by
 have q:=PySem.IsL.update e f;rw[hf] at q;refine I.write (x:=l) (e:=l) (by rw[hH];exact trivial) (.inl rfl) (fun b' u hb hu=>(z02 s.heap (Obj.mapSeq f) (z22 hb)).trans hu) ⟨_,q⟩ ?_;exact⟨hz,its',_,hv,q⟩
theorem Inv.lnew {its:List Value}{t':Nat}(I:Inv X pins σ H s)(hv:Vals ys its)(hz:ys.length<=sizeLine):
  Inv X pins σ (upd H s.heap.objs.size (.lst ys)) {s with heap:=s.heap.push {cls:=.type "list",data:=.seq its.toArray},toks:=t'}:=
 I.laid (fun _ _ q=>zX8 _ q) (zY2 _) ⟨hz,its,0,hv,zY7 _ rfl⟩
theorem Inv.fresh (I:Inv X pins σ H s):H s.heap.objs.size=none:=I.hok.fresh (zY2 _)
theorem Inv.lstM (I:Inv X pins σ H s)(hH:H l=some (.lst xs)):xs.length<=sizeLine/\∃(its:List Value) (n:Nat),Vals xs its/\xs.length=its.length/\s.heap.get? l=some {cls:=.type "list",data:=.seq its.toArray n}:=by
 obtain⟨z,its,n,r,e⟩:=I.hok l _ hH;exact⟨z,its,n,r,r.length,e⟩
theorem zc8 {n:Nat}(h:n<=sizeLine):Builtin.List.listTooLong n=false:=by
 unfold Builtin.List.listTooLong;exact z08 (by omega)
end
section
variable {X:Cx}
def zs7 :V->List V->Hp->VK->Prop:=fun x vs H Q=>∃l xs y,x=.ref l/\vs=[y]/\H l=some (.lst xs)/\xs.length<sizeLine/\Q .non (upd H l (.lst (xs++[y])))
theorem oC :MtM X "list.append" zs7:=by
 intro pins s σ H x vs v us Q I rx rv h;obtain⟨l,xs,y,rfl,rfl,hH,hz,q⟩:=h;cases rx;obtain⟨u,rfl,ru⟩:=rv.one;obtain⟨z,its,n,r,hl,e⟩:=I.lstM hH;refine call_meets F.slot_list_append ⟨_,e,rfl⟩ F.entry_list_append (F.args_list_append_2 _ _) (PySem.list_append l its.toArray n u (by rw[zZ1];omega)) ⟨e,?_⟩;refine⟨.non,_,I.lset (its':=its++[u]) hH e (by simp) (r.append (.cons ru .nil)) ?_,rfl,q⟩;rw[z00,z87];omega
def zs8 :V->List V->Hp->VK->Prop:=fun x vs H Q=>∃l b xs zs,x=.ref l/\vs=[.ref b]/\H l=some (.lst xs)/\H b=some (.lst zs)/\xs.length+zs.length<=sizeLine/\Q .non (upd H l (.lst (xs++zs)))
theorem zL3 :MtM X "list.extend" zs8:=by
 intro pins s σ H x vs v us Q I rx rv h;obtain⟨l,b,xs,zs,rfl,rfl,hH,hB,hz,q⟩:=h;cases rx;obtain⟨u,rfl,ru⟩:=rv.one;cases ru;obtain⟨z,its,n,r,hl,e⟩:=I.lstM hH;obtain⟨z2,its2,n2,r2,hl2,e2⟩:=I.lstM hB;have hsz:its.toArray.size+its2.toArray.size<=sizeLine:=by rw[zZ1,zZ1];omega
 have hlong:¬(!its.toArray.isEmpty&&Builtin.List.listTooLong (its.toArray.size+its2.toArray.size))=true:=by
  rw[zc8 hsz,Bool.and_false];exact zZ5
 refine call_meets F.slot_list_extend ⟨_,e,rfl⟩ F.entry_list_extend (F.args_list_extend_2 _ _)
  (AutoSeq1.list_extend_list_list_0 l its.toArray n b its2.toArray n2 hlong (by rw[zZ1];omega) (by omega)) ⟨e,e2,?_⟩
 refine⟨.non,_,I.lset (its':=its++its2) hH e (by simp) (r.append r2) ?_,rfl,q⟩;rw[z00];omega
def zI1 :V->List V->Hp->VK->Prop:=fun x vs H Q=>∃l xs i k y,x=.ref l/\vs=[.int i]/\H l=some (.lst xs)/\-(2 ^ 63)<=i/\i<2 ^ 63/\seqIndex? i xs.length=some k/\xs[k]?=some y/\Q y (upd H l (.lst (xs.eraseIdx k)))
theorem zm9 :MtM X "list.pop" zI1:=by
 intro pins s σ H x vs v us Q I rx rv h;obtain⟨l,xs,i,k,y,rfl,rfl,hH,h1,h2,hk,hy,q⟩:=h;cases rx;obtain⟨u,rfl,ru⟩:=rv.one;obtain⟨t,rfl⟩:=ru;obtain⟨z,its,n,r,hl,e⟩:=I.lstM hH;obtain⟨w,hw,rw'⟩:=r.get hy;refine call_meets F.slot_list_pop ⟨_,e,rfl⟩ F.entry_list_pop (F.args_list_pop_2 _ _)
  (MeetsSeq.list_pop_at l its.toArray n i t k w (fitsIndex_both h1 h2) (by rw[zZ1,<-hl];exact hk) (by rw[<-Array.getElem?_toList];exact hw) (by rw[zZ1];omega)) ⟨e,?_⟩
 refine⟨y,_,I.lset (its':=its.eraseIdx k) hH e ?_ (r.eraseIdx k) ?_,rw',q⟩
 ·show its.toArray.eraseIdxIfInBounds k=(its.eraseIdx k).toArray;rw[List.eraseIdxIfInBounds_toArray]
 ·have:=oP xs k;omega
def zW1 :R2:=fun x y H Q=>∃l b xs zs,x=.ref l/\y=.ref b/\H l=some (.lst xs)/\H b=some (.lst zs)/\xs.length+zs.length<=sizeLine/\∀p,H p=none->Q (.ref p) (upd H p (.lst (xs++zs)))
theorem zD3 :OpR X (binaryOp .Add) zW1:=by
 intro pins s σ H x y v u Q I rx ry h;obtain⟨l,b,xs,zs,rfl,rfl,hH,hB,hz,q⟩:=h;cases rx;cases ry;obtain⟨z,its,n,r,hl,e⟩:=I.lstM hH;obtain⟨z2,its2,n2,r2,hl2,e2⟩:=I.lstM hB;refine PySem.P.add_list e e2 ?_ (by rw[zZ1,zZ1];omega);have ea:its.toArray++its2.toArray=(its++its2).toArray:=by simp
 rw[ea];exact⟨.ref _,_,I.lnew (t':=s.toks) (r.append r2) (by rw[z00];omega),rfl,q _ I.fresh⟩
end
section
variable {prog:Program}{w:World}{A:Around}{E:Value->Shared->Prop}{s:Shared}
end
section
variable {X:Cx}
end
end L2
namespace Att
open PySem PySem.W PySem.Calls PyProof.Rows
theorem rq {P:Params}{h:Heap}:∀(ns:List Int) (vs:List Value),WellAll P h vs (ns.map WData.int)->IntsAre vs ns:=by
 intro ns
 induction ns with
 |nil=>
  intro vs w;rw[yc9] at w;cases w;exact .nil
 |cons n ns ih=>
  intro vs w;rw[zZ6] at w;cases w with
  |cons a b=>
   cases a;exact .cons _ _ (ih _ b)
theorem dC {l:OpenLaw}{n:Nat}(hn:l.most=some n){P:Params}{h:Heap}{args:List WData}{vals:List Value}
  (hpre:l.row.toRowW.claim.pre args=true) (hwl:WellAll P h vals args):
  ∃a vs ns,vals=[Value.ref a]/\args=[WData.list (ns.map WData.int)]/\h.get? a=some {cls:=.type "list",data:=.seq vs.toArray}/\IntsAre vs ns/\ns.length<=n:=by
 have hsh:WShape.hasAll [] args [.list .int]=true:=(pre_splitW hpre).1;have hc:l.pre.holds [] {args:=args}=true:=(pre_splitW hpre).2;obtain⟨d,r,rfl,h1,h2⟩:=hasAllW_cons hsh;obtain rfl:=hasAllW_nil h2;obtain⟨xs,rfl,h3⟩:=hasW_list h1;obtain⟨ns,rfl⟩:=items_int h3;have hlen:ns.length<=n:=by
  unfold OpenLaw.pre at hc;have h4:(WTm.not (.lt (.lit (.int (n:Int))) (.len (.arg 0)))).holds [] {args:=[.list (ns.map .int)]}=true:=by
   have h4:=(holds_andW hc).1;rw[hn] at h4;exact h4
  have h5:=condW_of h4 (w_not (w_lt w_lit (w_len_list (w_arg rfl))));rw[zX5] at h5;refine Nat.le_of_not_lt fun q=>?_;have q':(n:Int)<((ns.length:Nat):Int):=by omega
  first
   |(rw[z33 q'] at h5;exact absurd h5 (by decide))
   |(simp at h5;omega)
 cases hwl with
 |cons w1 w2=>
  cases w2;cases w1 with
  |list ho hall=>exact⟨_,_,ns,rfl,rfl,ho,rq ns _ hall,hlen⟩
theorem bq (l:OpenLaw)(args:List WData):l.row.toRowW.claim.post args (.bool true) args=true:=
 postW_of (r:=l.row.toRowW) (X:=(true == true))
  (show WShape.has [] (.bool true) .bool=true by first|rfl|decide|simp[WShape.has,WShape.arms,WShape.armsAll])
  (show (WTm.eq .res (.lit (.bool true))).value [] {args:=args,res:=some (.bool true),after:=args}=some (.bool (true == true)) from w_eq_bool (w_res rfl) w_lit) rfl
theorem attach_call {l:OpenLaw}{n:Nat}{q:Program}{loose:List Str}{XP:(Str->Option Value)->Heap->Prop}{YP:World->Heap->Prop}{d:DefRec}
  (hn:l.most=some n) (hdf:d.params.defaults=[])
  (call:∀(w:World) (s₀ s₁:Shared) (mg mb:Str->Option Value) (fa:Addr) (o:Obj) (pm cd doc:Value) (a:Addr) (vs:List Value) (ns:List Int),
   Ground q loose [] XP w s₀ mg mb s₁.heap->YP w s₁.heap->
   s₁.heap.get? fa=some o->o.data=.func (docDef d.name d.params d.body d.scope pm cd doc)->s₁.heap.CodeRec cd d.name->mg d.name=some (.ref fa)->
   s₁.heap.get? a=some {cls:=.type "list",data:=.seq vs.toArray}->IntsAre vs ns->ns.length<=n->s₁.gens=#[]->
   codeAny (model l.prog w) callerA (.call (.ref fa) ⟨[.ref a],[]⟩) (fun r s'=>r=.ok (.ret (.bool true))/\OldK s₁.heap s'.heap/\s'.os=s₁.os/\AllBare s'.gens) s₁):
  WalkO q loose XP YP l.row.toRowW d [] (fun f vs=>PySem.call f vs):=by
 intro w s₀ s₁ mg mb G Y fa o pm cd doc dV kV ho hd hcd hD hmg hg args vals as hpre hlay hrd hwl hlo;obtain rfl:dV=.none:=Dflts.none hD hdf;obtain rfl:kV=.none:=Dflts.noKw hD;obtain⟨a,vs,ns,rfl,rfl,hobj,hints,hlen⟩:=dC hn hpre hwl;refine enter_call (yf0 (call w s₀ s₁ mg mb fa o pm cd doc a vs ns G Y ho (fd_plain hd) hcd hmg hobj hints hlen hg) fun r s' hq=>?_);obtain⟨rfl,h2,h3,h4⟩:=hq;exact⟨.inl ⟨.bool true,.bool true,[],rfl,fun _=>rfl,.bool true,bq l _,fun _=>⟨List.Pairwise.nil,fun _ hm=>(nomatch hm)⟩⟩,h2,h3,h4⟩
section
variable {prog:Program}{w:World}{A:Around}{E:Value->Shared->Prop}{s:Shared}{K:Frag}
end
end Att
namespace L2
open PySem PySem.Spec PyProof.Rows
theorem oz :∀{vs:List Value} {ns:List Int},IntsAre vs ns->Vals (ns.map V.int) vs
 |_,_,.nil=>.nil
 |_,_,.cons n t h=>.cons ⟨t,rfl⟩ (oz h)
noncomputable def inClass (s:Stmt)(j:Nat):Stmt:=match s with
 |.ClassDef _ _ _ body _ _ _ _ _ _ _=>body.getD j (.Pass ⟨0,0,0,0⟩)
 |_=>.Pass ⟨0,0,0,0⟩
noncomputable def zV (s:Stmt):Arguments:=match s with
 |.FunctionDef _ a _ _ _ _ _ _ _ _=>a
 |_=>{posonlyargs:=[],args:=[],vararg:=none,kwonlyargs:=[],kw_defaults:=[],kwarg:=none,defaults:=[]}
noncomputable def zy (s:Stmt):List Stmt:=match s with
 |.FunctionDef _ _ b _ _ _ _ _ _ _=>b
 |_=>[]
noncomputable def zb (s:Stmt):Scope:=match s with
 |.FunctionDef _ _ _ _ _ _ sc _ _ _=>sc
 |_=>{kind:=.function,names:=[],isGenerator:=false,isCoroutine:=false}
abbrev CX0 :CXT:=fun _ _ _ _ _ _=>False
abbrev E0 :XK:=fun _ _ _=>False
theorem ym {X:Cx}:Passes CX0 X E0:=fun _ _ _ _ _ _ _ h=>h.elim
structure Fun (K:PySem.W.Frag)(x qual:Str)(st:Stmt)(f:Addr)(fd:FuncData):Prop where
 ex:∃(oc:Value) (od:Option Addr) (kV doc pm:Value) (an:Option Addr) (cdv ct:Value) (osl:Array (Option Value)),
  fd=PySem.W.fnOf x qual (zV st) (zy st) (zb st) .none kV doc pm an cdv ct/\K.lookup f=some ⟨oc,od,.func fd,osl⟩/\PySem.W.codeIn K cdv qual=true
 kp:PySem.W.keepIn K (.ref f)=true
section
variable {P:Program}{w:World}{K:PySem.W.Frag}{mg:Str->Option Value}{base:Heap}
theorem Fun.ok {x qual:Str}{st:Stmt}{f:Addr}{fd:FuncData}{N ps:List Str}{k:Nat}{sp:Sp}(F:Fun K x qual st f fd)(S:zm N ps (zb st))(len:∀vs H Q E,sp vs H Q E->vs.length=ps.length)
  (hbody:∀(cdv:Value) (A:Around) (outer:List Env) (s:Shared) (H:Hp) (vs:List V) (Q:VK) (E:XK),zS k (A.deeper (envOfC qual (zb st) s.heap.objs.size f cdv))->sp vs H Q E->
   ∃t,PSs (uv CX0 P w K mg base N qual (zb st) f cdv A outer s H E).nox (zy st) t/\t {nx:=fun _ H'=>Q .non H',rt:=Q} (start N vs) H):zF P w K mg base CX0 (k+1) f fd ps sp:=by
 obtain⟨oc,od,kV,doc,pm,an,cdv,ct,osl,rfl,lk,hcd⟩:=F.ex;refine zl2 lk hcd S len fun A outer s H vs Q E hr hsp=>?_;obtain⟨t,h,q⟩:=hbody cdv A outer s H vs Q E hr hsp;exact⟨t,h.nox,q⟩
theorem Fun.binds {x qual:Str}{st:Stmt}{f:Addr}{fd:FuncData}{ps:List Str}(F:Fun K x qual st f fd)
  (h:∀(kV doc pm:Value) (an:Option Addr) (cdv ct:Value) (us:List Value),us.length=ps.length->bindArgs (PySem.W.fnOf x qual (zV st) (zy st) (zb st) .none kV doc pm an cdv ct) ⟨us,[]⟩=pure (ps.zip us)):Binds K fd ps []:=by
 obtain⟨oc,od,kV,doc,pm,an,cdv,ct,osl,rfl,lk,hcd⟩:=F.ex;exact .all (h kV doc pm an cdv ct)
theorem iE {x qual:Str}{st:Stmt}{f:Addr}{oc:Value}{od an:Option Addr}{osl:Array (Option Value)}{kV doc pm cdv ct:Value}(l:K.lookup f=some ⟨oc,od,.func (PySem.W.fnOf x qual (zV st) (zy st) (zb st) .none kV doc pm an cdv ct),osl⟩)
  (c:PySem.W.codeIn K cdv qual=true) (k:PySem.W.keepIn K (.ref f)=true):Fun K x qual st f (PySem.W.fnOf x qual (zV st) (zy st) (zb st) .none kV doc pm an cdv ct):=⟨⟨oc,od,kV,doc,pm,an,cdv,ct,osl,rfl,l,c⟩,k⟩
end
theorem yS {n:Nat}(h:n<=1000):n<sizeLine:=Nat.lt_of_le_of_lt h (by decide)
section
variable {X:Cx}
theorem pv (i:Nat){x:Str}{pos:Pos}(hN:X.N[i]?=some x:=by rfl)(hv:Vis X.env.scope x:=by first|exact Or.inl rfl|exact Or.inr (Or.inl rfl)|exact Or.inr (Or.inr rfl))(hd:(x == ("__debug__":Str))=false:=by decide)
  (hcd:(x == ("__classdict__":Str))=false:=by decide):PE X (.Name x pos) (zK0 i):=xK hN hv hd hcd
end
theorem uF {A B:Prop}(h:B):if false=true then A else B:=by
 rw[if_neg zZ5];exact h
theorem ux {A B:Prop}(h:A):if true=true then A else B:=by
 rw[if_pos rfl];exact h
theorem yL {c A B:Prop}[Decidable c](h1:c->A)(h2:¬c->B):if c then A else B:=by
 by_cases h:c
 ·rw[if_pos h];exact h1 h
 ·rw[if_neg h];exact h2 h
def zz (H H':Hp):Prop:=∀b o,H b=some o->H' b=some o
theorem zz.refl (H:Hp):zz H H:=fun _ _ h=>h
theorem zz.trans {H H1 H2:Hp}(a:zz H H1)(b:zz H1 H2):zz H H2:=fun c o h=>b c o (a c o h)
theorem zz.free {H H':Hp}(e:zz H H'){l:Addr}(h:H' l=Option.none):H l=Option.none:=by
 cases q:H l with
 |none=>rfl
 |some o=>
  rw[e l o q] at h;cases h
theorem zz.seq {K:PySem.W.Frag}{H H':Hp}{a:Addr}{xs:List V}(e:zz H H')(h:SqL K H a xs):SqL K H' a xs:=by
 rcases h with (h|⟨o,h⟩)|h
 ·exact .inl (.inl (e _ _ h))
 ·exact .inl (.inr ⟨o,e _ _ h⟩)
 ·exact .inr h
noncomputable def uK (cells:List (Str×Addr)):List (Str×NameKind)->List (Str×Addr)->List (Str×Addr)
 |[],acc=>acc
 |(n,k)::r,acc=>uK cells r (if k=.free then (n,(cells.lookup n).getD 0)::acc else acc)
theorem uA {env:Env}{scope:Scope}(h:∀y∈scope.names,y.2=.free->∃c,env.cells.lookup y.1=some c):
  closureFor scope env=pure (uK env.cells scope.names []):=by
 have key:∀(ns:List (Str×NameKind)) (acc:List (Str×Addr)),(∀y∈ns,y.2=.free->∃c,env.cells.lookup y.1=some c)->
   (forIn ns acc fun (x:Str×NameKind) (r:List (Str×Addr))=>(if (x.2 == NameKind.free)=true then (do let a <-cellOf env x.1;pure (ForInStep.yield ((x.1,a)::r))) else pure (ForInStep.yield r):Sem (ForInStep (List (Str×Addr)))))=pure (uK env.cells ns acc):=by
  intro ns
  induction ns with
  |nil=>intro acc _;rfl
  |cons y r ih=>
   intro acc hy;obtain⟨n,k⟩:=y;rw[yf3];have hr:∀z∈r,z.2=.free->∃c,env.cells.lookup z.1=some c:=fun z hz=>hy z (zY4 _ hz);by_cases hk:k=.free
   ·subst hk;obtain⟨c,hc⟩:=hy (n,.free) zY6 rfl;have e1:cellOf env n=pure c:=by
     unfold cellOf;rw[hc]
    have e2:((NameKind.free == NameKind.free)=true):=rfl;simp only[e2,ya0,e1,pure_bind];rw[ih _ hr];show _=pure (uK env.cells r (if NameKind.free=NameKind.free then (n,(env.cells.lookup n).getD 0)::acc else acc));rw[if_pos rfl,hc];rfl
   ·have e2:(k == NameKind.free)=false:=by simpa using hk
    simp only[e2,z30,z72,pure_bind];rw[ih _ hr];show _=pure (uK env.cells r (if k=NameKind.free then (n,(env.cells.lookup n).getD 0)::acc else acc));rw[if_neg hk]
 have q:=key scope.names [] h;unfold closureFor;simp only[] at q ⊢;rw[show (forIn scope.names ([]:List (Str×Addr)) fun (x:Str×NameKind) (r:List (Str×Addr))=>_)=_ from q];rfl
theorem kO {cells:List (Str×Addr)}:∀(ns:List (Str×NameKind)) (acc:List (Str×Addr)),(∀y∈ns,y.2=.free->∃c,cells.lookup y.1=some c)->
  ∀x c,(x,c)∈uK cells ns acc->(x,c)∈acc\/((x,NameKind.free)∈ns/\cells.lookup x=some c)
 |[],acc,_,x,c,h=>.inl h
 |(n,k)::r,acc,hy,x,c,h=>by
  have hr:∀z∈r,z.2=.free->∃c,cells.lookup z.1=some c:=fun z hz=>hy z (zY4 _ hz);have h':(x,c)∈uK cells r (if k=.free then (n,(cells.lookup n).getD 0)::acc else acc):=h;rcases kO r _ hr x c h' with q|⟨q1,q2⟩
  ·by_cases hk:k=.free
   ·rw[if_pos hk] at q;rcases zY1.mp q with e|q
    ·obtain⟨c',hc⟩:=hy (n,k) zY6 hk;have e1:x=n:=congrArg Prod.fst e;have e2:c=(cells.lookup n).getD 0:=congrArg Prod.snd e;have hc':cells.lookup n=some c':=hc;rw[hc'] at e2;have e3:c=c':=e2;subst e1 e3 hk;exact .inr ⟨zY6,hc'⟩
    ·exact .inl q
   ·rw[if_neg hk] at q;exact .inl q
  ·exact .inr ⟨zY4 _ q1,q2⟩
theorem lX {cells:List (Str×Addr)}:∀(ns:List (Str×NameKind)) (acc:List (Str×Addr)) (p:Str×Addr),p∈acc->p∈uK cells ns acc
 |[],_,_,h=>h
 |(n,k)::r,acc,p,h=>by
  show p∈uK cells r (if k=.free then (n,(cells.lookup n).getD 0)::acc else acc);refine lX r _ p ?_;split
  ·exact zY4 _ h
  ·exact h
theorem kA {cells:List (Str×Addr)}:∀(ns:List (Str×NameKind)) (acc:List (Str×Addr)) (x:Str),(x,NameKind.free)∈ns->∃c,(x,c)∈uK cells ns acc
 |[],_,_,h=>by simp at h
 |(n,k)::r,acc,x,h=>by
  show ∃c,(x,c)∈uK cells r (if k=.free then (n,(cells.lookup n).getD 0)::acc else acc);rcases zY1.mp h with e|h
  ·have e1:x=n:=congrArg Prod.fst e;have e2:NameKind.free=k:=congrArg Prod.snd e;subst e1 e2;rw[if_pos rfl];exact⟨_,lX r _ _ zY6⟩
  ·exact kA r _ x h
theorem mem_lookup {x:Str}{c:Addr}:∀{l:List (Str×Addr)},(x,c)∈l->∃d,l.lookup x=some d
 |[],h=>by simp at h
 |(n,a)::r,h=>by
  rw[z37];cases e:x == n with
  |true=>exact⟨a,rfl⟩
  |false=>
   rcases zY1.mp h with q|q
   ·have e1:x=n:=congrArg Prod.fst q;rw[e1] at e;simp at e
   ·exact mem_lookup q
structure zQ (XN:List Str)(xs:Scope)(N:List Str)(imp:List (Option Nat))(scope:Scope):Prop where
 kind:scope.kind=.function
 nd:N.Nodup
 nocell:∀y∈scope.names,y.2≠.cell
 locs:∀y∈scope.names,y.2=.local->scope.names.lookup y.1=some .local
 frees:∀y∈scope.names,y.2=.free->xs.names.lookup y.1=some .cell\/xs.names.lookup y.1=some .free
 len:imp.length=N.length
 impsB:((imp.zip N).all fun p=>match p.1 with|none=>true|some j=>XN[j]? == some p.2&&scope.names.lookup p.2 == some .free)=true
theorem zQ.imps {XN N:List Str}{xs scope:Scope}{imp:List (Option Nat)}(S:zQ XN xs N imp scope):∀(i j:Nat),imp[i]?=some (some j)->∃x,N[i]?=some x/\XN[j]?=some x/\scope.names.lookup x=some .free:=by
 intro i j h;have hi:i<imp.length:=(zY0.mp h).1;have hn:i<N.length:=by rw[<-S.len];exact hi
 have hx:N[i]?=some N[i]:=zX7 hn;have hm:(some j,N[i])∈imp.zip N:=by
  have hz:(imp.zip N)[i]?=some (some j,N[i]):=by
   rw[List.getElem?_zip_eq_some];exact⟨h,hx⟩
  exact z27 hz
 have q:=z81.mp S.impsB _ hm;have q':(XN[j]? == some N[i]&&scope.names.lookup N[i]==some .free)=true:=q;rw[zZ9] at q';exact⟨N[i],hx,eq_of_beq q'.1,eq_of_beq q'.2⟩
noncomputable def wK (imp:List (Option Nat))(σ:St):St:=imp.map fun o=>o.bind fun j=>(σ[j]?).bind id
theorem cI {imp:List (Option Nat)}{σ:St}{i:Nat}{v:V}(h:(wK imp σ)[i]?=some (some v)):∃j,imp[i]?=some (some j)/\σ[j]?=some (some v):=by
 unfold wK at h;rw[zY3] at h;cases e:imp[i]? with
 |none=>rw[e] at h;cases h
 |some o=>
  rw[e] at h;have h':(o.bind fun j=>(σ[j]?).bind id)=some v:=z05 h;cases o with
  |none=>cases h'
  |some j=>
   have h2:(σ[j]?).bind id=some v:=h';cases e2:σ[j]? with
   |none=>rw[e2] at h2;cases h2
   |some w=>
    rw[e2] at h2;have h3:w=some v:=h2;exact⟨j,rfl,by rw[e2,h3]⟩
noncomputable def Cx.comp (X:Cx)(N:List Str)(scope:Scope)(C:Addr)(s2:Shared)(H2:Hp)(fp:List Addr):Cx where
 prog:=X.prog
 w:=X.w
 K:=X.K
 mg:=X.mg
 base:=X.base
 A:=X.A
 N:=N
 s₀:=s2
 H₀:=H2
 env:=compEnvC scope (uK X.env.cells scope.names []) C X.env
 outer:=X.stack
 stack:=X.stack
 ex:=fp
 fn:=fun _=>false
 calm:=X.calm
 pn:=[]
 xe:=fun _ _=>False
theorem tQ {env:Env}:∀{names:List (Str×NameKind)} {x:Str},
  (names.map fun (n,k)=>if (k == NameKind.free&&env.scope.kind == .function&&env.kindOf n == some .cell) then (n,NameKind.cell) else (n,k)).lookup x=some .cell\/
  (names.map fun (n,k)=>if (k == NameKind.free&&env.scope.kind == .function&&env.kindOf n == some .cell) then (n,NameKind.cell) else (n,k)).lookup x=some .free->
  (∀y∈names,y.2≠.cell)->(x,NameKind.free)∈names
 |[],x,h,_=>by simp at h
 |(n,k)::r,x,h,hc=>by
  have ih:=@tQ env r x;rw[zZ6] at h;dsimp only at h;by_cases hx:x=n
  ·subst hx;by_cases hk:k=.free
   ·subst hk;exact zY6
   ·have hk':(k == NameKind.free)=false:=by simpa using hk
    simp only[hk',z26,z30,z72,z37,beq_self_eq_true,ya0] at h;rcases h with h|h
    ·have e:k=.cell:=z05 h;exact absurd e (hc (x,k) zY6)
    ·have e:k=.free:=z05 h;exact absurd e hk
  ·have hxn:(x == n)=false:=by simpa using hx
   have step:∀(b:Bool) (l:List (Str×NameKind)),List.lookup x ((if b=true then (n,NameKind.cell) else (n,k))::l)=l.lookup x:=fun b l=>by
    cases b<;>simp[z37,hxn]
   rw[step] at h;exact zY4 _ (ih h fun y hy=>hc y (zY4 _ hy))
theorem sM {env:Env}:∀{names:List (Str×NameKind)} {x:Str},names.lookup x=some .free->
  (names.map fun (n,k)=>if (k == NameKind.free&&env.scope.kind == .function&&env.kindOf n == some .cell) then (n,NameKind.cell) else (n,k)).lookup x=some .cell\/
  (names.map fun (n,k)=>if (k == NameKind.free&&env.scope.kind == .function&&env.kindOf n == some .cell) then (n,NameKind.cell) else (n,k)).lookup x=some .free
 |[],x,h=>by simp at h
 |(n,k)::r,x,h=>by
  have ih:=@sM env r x;rw[zZ6];dsimp only;rw[z37] at h;cases hx:x == n with
  |true=>
   rw[hx] at h;have e:k=.free:=z05 h;subst e;by_cases hb:(NameKind.free == NameKind.free&&env.scope.kind == .function&&env.kindOf n == some .cell)=true
   ·left;rw[if_pos hb];simp[z37,hx]
   ·right;rw[if_neg hb];simp[z37,hx]
  |false=>
   rw[hx] at h;have step:∀(b:Bool) (l:List (Str×NameKind)),List.lookup x ((if b=true then (n,NameKind.cell) else (n,k))::l)=l.lookup x:=fun b l=>by
    cases b<;>simp[z37,hx]
   rw[step];exact ih h
section
variable {X:Cx}{pins:List (Addr×Obj)}{σ:St}{H2 H':Hp}{s2 s':Shared}{fp:List Addr}{N:List Str}{imp:List (Option Nat)}{scope:Scope}{C acc:Addr}
theorem uH (I:Inv X pins σ H2 s2)(S:zQ X.N X.env.scope N imp scope):∀y∈scope.names,y.2=.free->∃c,X.env.cells.lookup y.1=some c:=fun y hy hk=>I.ok.has y.1 (S.frees y hy hk)
theorem xU (I:Inv X pins σ H2 s2)(S:zQ X.N X.env.scope N imp scope){x:Str}{c:Addr}(h:(uK X.env.cells scope.names []).lookup x=some c):(x,NameKind.free)∈scope.names/\X.env.cells.lookup x=some c:=by
 rcases kO scope.names [] (uH I S) x c (z41 h) with q|q
 ·exact absurd q (by simp)
 ·exact q
theorem tq (I:Inv X pins σ H2 s2)(S:zQ X.N X.env.scope N imp scope){x:Str}(h:(x,NameKind.free)∈scope.names):∃c,(uK X.env.cells scope.names []).lookup x=some c:=by
 obtain⟨c,hc⟩:=kA (cells:=X.env.cells) scope.names [] x h;exact mem_lookup hc
theorem zf7 {h1:Heap}{tk:Nat}{m:Str->Option Value}{n0:Nat}(I:Inv X pins σ H2 s2)(S:zQ X.N X.env.scope N imp scope)(hf:∀b∈fp,xH X pins H2 b)(ho:∀b∈fp,∃o,s2.heap.get? b=some o)
  (hacc:acc=s2.heap.objs.size) (hC:C=s2.heap.objs.size+1) (old:∀b o,s2.heap.get? b=some o->h1.get? b=some o) (hn:h1.Ns C m)
  (hl:h1.get? acc=some {cls:=.type "list",data:=.seq ([]:List Value).toArray n0}):
  Inv (X.comp N scope C s2 H2 fp) [] (wK imp σ) (upd H2 acc (.lst [])) {s2 with heap:=h1,toks:=tk}:=by
 have fa:H2 acc=none:=I.hok.fresh (by rw[hacc];exact zY2 _);have cac:C≠acc:=by rw[hC,hacc];exact Nat.succ_ne_self _
 have clt:∀x c,X.env.cells.lookup x=some c->c<s2.heap.objs.size:=fun x c e=>by
  obtain⟨v,q⟩:=I.cell x c e;exact q.lt
 refine⟨⟨I.ok.mod,S.kind,I.ok.glob,I.ok.blt,?above,?inj,?has,?cab,I.ok.hd,I.ok.frames,.inl rfl,?exf,fun b o e=>I.bs b o e,z35 I.ok.bsz I.sz,?noex,?exfs,I.stack,I.stkFree⟩,
  rfl,I.bare,Un.laid old (by rw[hacc];exact zY2 _) fa,⟨m,hn,?loc⟩,?cell,?free,?freeC,fun p hp=>absurd (show p∈([]:List (Addr×Obj)) from hp) (by simp),I.hok.laid old (by rw[hacc];exact zY2 _) ⟨zZ4 _,[],n0,.nil,hl⟩,?len⟩
 case above=>show s2.heap.objs.size<=C;rw[hC];exact z83 _
 case inj=>exact fun x y c h1 h2=>I.ok.inj x y c (xU I S h1).2 (xU I S h2).2
 case has=>exact fun x hx=>tq I S (tQ (env:=X.env) hx S.nocell)
 case cab=>exact fun x c h _=>absurd h (by show ¬(false=true);simp)
 case exf=>
  intro b hb;obtain⟨o,hob⟩:=ho b hb;refine⟨?_,fun x c e=>(hf b hb).2.2.2.2.1 x c (xU I S e).2⟩;show b≠C;rw[hC];exact zZ7 (yd7 (zY5 hob))
 case noex=>
  intro b o e hb;rcases (hf b hb).2.2.2.1 with z|z
  ·exact I.ok.noex b o e z
  ·exact absurd (z01 (zY5 e) (z35 I.ok.bsz z)) (z47 _)
 case exfs=>
  intro b hb hz;rcases zY1.mp (I.stkSub b hz) with e|e
  ·exact (hf b hb).2.1 e
  ·exact (hf b hb).2.2.1 e
 case loc=>
  intro i x v e1 e2 e3;obtain⟨j,q1,q2⟩:=cI e2;obtain⟨y,n1,n2,n3⟩:=S.imps i j q1;have n1':(X.comp N scope C s2 H2 fp).N[i]?=some y:=n1;rw[n1'] at e1;have exy:y=x:=z05 e1;subst exy;have hfr:=S.frees (y,.free) (z41 n3) rfl;obtain⟨mX,hnX,hlX⟩:=I.loc;obtain⟨u,r,l⟩:=hlX j y v n2 q2 (.inr hfr);refine⟨u,r,?_⟩;rcases l with ⟨k,_⟩|⟨k,c,e,z⟩
  ·have k':X.env.scope.names.lookup y=some .local:=k;rcases hfr with z|z
   ·have z':X.env.scope.names.lookup y=some .cell:=z;rw[k'] at z';cases z'
   ·have z':X.env.scope.names.lookup y=some .free:=z;rw[k'] at z';cases z'
  ·obtain⟨d,hd⟩:=tq I S (z41 n3);have hd2:=(xU I S hd).2;rw[e] at hd2;have edc:c=d:=z05 hd2;subst edc;exact .inr ⟨sM (env:=X.env) n3,c,hd,z.keeps old⟩
 case cell=>
  intro x c e;obtain⟨v,q⟩:=I.cell x c (xU I S e).2;exact⟨v,q.keeps old⟩
 case free=>
  show upd H2 acc _ C=none;rw[zf cac];exact I.hok.fresh (by rw[hC];exact z83 _)
 case freeC=>
  intro x c e;have e':=(xU I S e).2;have hlt:=clt x c e';show upd H2 acc _ c=none;rw[zf (by rw[hacc];exact zZ7 hlt)];exact I.freeC x c e'
 case len=>
  show (wK imp σ).length=N.length;unfold wK;rw[zX5];exact S.len
theorem dq {pl:List (Addr×Obj)}{τ:St}(I:Inv X pins σ H2 s2)(hf:∀b∈fp,xH X pins H2 b)(J:Inv (X.comp N scope C s2 H2 fp) pl τ H' s'):Inv X pins σ H' s':=
 I.call' (ch:=fp) J.os J.base J.hok J.bare fun b hb=>⟨(hf b hb).2.2.2.1,(hf b hb).2.1,(hf b hb).2.2.2.2.1,(hf b hb).2.2.2.2.2⟩
end
section
variable {prog:Program}{w:World}{A:Around}{R:Result->Shared->Prop}{s:Shared}
theorem mE {elt target iter:Expr}{ifs:List Expr}{scope:Scope}{pos:Pos}{it acc:Value}{env:Env}(I:Nat->Shared->Prop)
  (turn:∀n s,I n s->wpAny (model prog w) A (pyNext it) (fun r s1=>match r with
   |none=>R (.ok .next) s1
   |some v=>wpAny (model prog w) A (letOwnedTupleGo target it v) (fun _ s2=>wpAny (model prog w) A (assign target env v) (fun _ s3=>
     wpAny (model prog w) A (forIn ifs true fun c r=>if r=true then do let ok <-isTrue c env (eval c env);pure (ForInStep.yield ok) else pure (ForInStep.yield r)) (fun ok s4=>
      if ok=true then wpAny (model prog w) A (eval elt env) (fun x s5=>
       wpAny (model prog w) A (call (.builtin "list.append") [acc,x]) (fun _ s6=>∃m,m<n/\I m s6) (fun _ _=>False) s5) (fun _ _=>False) s4
      else ∃m,m<n/\I m s4) (fun _ _=>False) s3) (fun _ _=>False) s2) (fun _ _=>False) s1) (fun _ _=>False) s)
  (n:Nat) (h:I n s):codeAny (model prog w) A (.compLoop (.ListComp elt [⟨target,iter,ifs,0⟩] scope pos) 0 it acc env) R s:=by
 refine codeAny_loop rfl I (fun n s hI=>?_) n h;show wpAny _ A ((compTurn (.ListComp elt [⟨target,iter,ifs,0⟩] scope pos) 0 it acc env).onRaise (fun x=>do noteFrame x env;theTreesLotGoes x)) _ _ s;refine wpAny_noted ?_;rw[compTurn_list];refine zX6 (wpAny_standAt (zX6 (z34 (turn n s hI) (fun r s1 h1=>?_) fun _ _ h'=>False.elim h')));cases r with
 |none=>exact zY8 h1
 |some v=>
  refine zX6 (z34 h1 (fun _ s2 h2=>?_) fun _ _ h'=>False.elim h');refine zX6 (z34 h2 (fun _ s3 h3=>zX6 (z34 h3 (fun ok s4 h4=>?_) fun _ _ h'=>False.elim h')) fun _ _ h'=>False.elim h');cases ok with
  |false=>exact zY8 ⟨rfl,h4⟩
  |true=>
   exact zX6 (zX6 (z34 h4 (fun x s5 h5=>zX6 (z34 h5 (fun _ s6 h6=>zY8 (zY8 ⟨rfl,h6⟩)) fun _ _ h'=>False.elim h')) fun _ _ h'=>False.elim h'))
end
def vM (Y:Cx)(ifs:List Expr)(t:TT):Prop:=
 ∀(pins:List (Addr×Obj)) (s:Shared) (σ:St) (H:Hp) (Q:Bool->Hp->Prop),Inv Y pins σ H s->t σ H Q->
  wpAny (model Y.prog Y.w) Y.A (forIn ifs true fun c r=>if r=true then do let ok <-isTrue c Y.env (eval c Y.env);pure (ForInStep.yield ok) else pure (ForInStep.yield r)) (TP Y pins σ Q) Y.xe s
def zW4 :TT:=fun _ H Q=>Q true H
theorem zp9 {Y:Cx}:vM Y [] zW4:=fun _ _ _ H _ I h=>wpAny_tests_nil ⟨H,I,h⟩
theorem fZ {Y:Cx}{c:Expr}{t:TT}(h:PT Y c t):vM Y [c] t:=fun pins s σ H Q I q=>wpAny_tests_one (h pins s σ H Q I q)
def mw (J:It)(acc:Addr)(g:TG)(tt:TT)(te:TE)(τ0:St)(H0:Hp)(Q:VK):Prop:=
 ∃W:Nat->Nat->List V->St->Hp->Prop,(∃m,W 0 m [] τ0 H0)/\∀i m ys τ H2,W i m ys τ H2->
  (J.stop i H2/\Q (.ref acc) H2)\/(J.go i H2/\∃N:List V->St->Hp->Prop,(∀ys' τ' H',N ys' τ' H'->∃m',m'<m/\W (i+1) m' ys' τ' H')/\
   ∀x H3,J.yld i H2 x H3->g x τ H3 fun τ2 H4=>tt τ2 H4 fun c H5=>
    if c=true then te τ2 H5 fun y H6=>H6 acc=some (.lst ys)/\ys.length<sizeLine/\N (ys++[y]) τ2 (upd H6 acc (.lst (ys++[y]))) else N ys τ2 H5)
def zd1 (wi:TI)(imp:List (Option Nat))(g:TG)(tt:TT)(te:TE):TE:=fun σ H Q=>wi σ H fun J H1=>∀acc,H1 acc=none->mw J acc g tt te (wK imp σ) (upd H1 acc (.lst [])) Q
section
variable {X:Cx}{pins:List (Addr×Obj)}{σ:St}{elt iter tg:Expr}{ifs:List Expr}{scope:Scope}{pos:Pos}{wi:TI}{g:TG}{tt:TT}{te:TE}{N:List Str}{imp:List (Option Nat)}
theorem qN {H2:Hp}{s2:Shared}{it:Addr}{fp:List Addr}{tn:Nat->Heap->Prop}{J:It}{RR:Value->Addr->Result->Shared->Prop}{E:Value->Shared->Prop}{Q:VK}
  (hc:X.calm=true) (S:zQ X.N X.env.scope N imp scope) (hg:∀C s2 H2 fp,PG (X.comp N scope C s2 H2 fp) tg g) (ht:∀C s2 H2 fp,vM (X.comp N scope C s2 H2 fp) ifs tt) (he:∀C s2 H2 fp,PE (X.comp N scope C s2 H2 fp) elt te)
  (I2:Inv X pins σ H2 s2) (T:Turn X.prog X.w X.K tg J fp it tn) (st2:tn 0 s2.heap) (f2:∀b∈fp,xH X pins H2 b)
  (hW:∀acc,H2 acc=none->mw J acc g tt te (wK imp σ) (upd H2 acc (.lst [])) Q)
  (hRR:∀a C H' s' m,Inv X pins σ H' s'->s'.heap.Ns C m->xH X pins H' C->Q (.ref a) H'->RR (.ref a) C (.ok .next) s'):
  wpAny (model X.prog X.w) X.A (newList []) (fun acc s3=>wpAny (model X.prog X.w) X.A (newFunctionEnv scope X.env.globals (uK X.env.cells scope.names []) [] X.env.qual none .none (some X.env)) (fun cenv s4=>
   codeAny (model X.prog X.w) X.A (.compStart (.ListComp elt [⟨tg,iter,ifs,0⟩] scope pos) 0 (.ref it) acc {cenv with scope:=relabel scope X.env}) (RR acc cenv.locals) s4) E s3) E s2:=by
 refine wpAny_newObj_type (wpAny_newFunctionEnv S.nocell (by intro y hy;simp at hy) (fun h1 hns1 hsb1=>?_) S.kind);dsimp only at hns1 hsb1 ⊢;generalize hHH:s2.heap.push {cls:=.type "list",dict:=none,data:=.seq ([]:List Value).toArray}=HH at hns1 hsb1 ⊢;have hC:HH.objs.size=s2.heap.objs.size+1:=by rw[<-hHH,z49]
 have hDC:s2.heap.objs.size≠HH.objs.size:=by rw[hC];exact zZ7 (z96 _)
 have old:∀b o,s2.heap.get? b=some o->h1.get? b=some o:=fun b o e=>hsb1.extBut b o (by rw[hC];exact zZ7 (yd7 (zY5 e))) (zX8 _ (hHH▸zX8 _ e));have hacc:h1.get? s2.heap.objs.size=some {cls:=.type "list",data:=.seq ([]:List Value).toArray}:=hsb1.extBut _ _ hDC (zX8 _ (hHH▸zY7 _ rfl));obtain⟨W,⟨m0,w0⟩,turn⟩:=hW s2.heap.objs.size I2.fresh;generalize hCC:HH.objs.size=C at hns1 hsb1 hC hDC ⊢;have ho:∀b∈fp,∃o,s2.heap.get? b=some o:=fun b hb=>let ⟨o,e,_⟩:=T.obj 0 _ st2 b hb;⟨o,e⟩;generalize hacc0:s2.heap.objs.size=acc at *;have loop:∀s3:Shared,s3={s2 with heap:=h1,toks:=s2.toks+([]:List (Str×Value)).length}->
   codeAny (model X.prog X.w) X.A (.compLoop (.ListComp elt [⟨tg,iter,ifs,0⟩] scope pos) 0 (.ref it) (.ref acc) (X.comp N scope C s2 H2 fp).env) (RR (.ref acc) C) s3:=by
  rintro s3 rfl;have I3:Inv (X.comp N scope C s2 H2 fp) [] (wK imp σ) (upd H2 acc (.lst [])) {s2 with heap:=h1,toks:=s2.toks+([]:List (Str×Value)).length}:=
   zf7 I2 S f2 ho hacc0.symm (by rw[hC,hacc0]) old hns1 hacc
  have fpn:∀b∈fp,upd H2 acc (.lst []) b=none:=fun b hb=>by
   obtain⟨o,e⟩:=ho b hb;rw[zf (by rw[<-hacc0];exact zZ7 (zY5 e))];exact (f2 b hb).1
  have stat:∀{H':Hp},(∀b∈fp,H' b=none)->∀b∈fp,xH (X.comp N scope C s2 H2 fp) [] H' b:=fun hn b hb=>by
   obtain⟨e1,e2⟩:=I3.ok.exf b hb;exact⟨hn b hb,e1,I3.ok.exfs b hb,.inl hb,e2,fun p hp=>absurd (show p∈([]:List (Addr×Obj)) from hp) (by simp)⟩
  refine mE (fun n s'=>∃i ys τ H',Inv (X.comp N scope C s2 H2 fp) [] τ H' s'/\tn i s'.heap/\(∀b∈fp,H' b=none)/\W i n ys τ H') ?_ m0
   ⟨0,[],_,_,I3,T.keep _ _ _ st2 fun b _ o e=>old b o e,fpn,w0⟩
  rintro n s4 ⟨i,ys,τ,H4,I4,st4,fr4,w4⟩;rcases turn i n ys τ H4 w4 with ⟨stop,qn⟩|⟨go,NN,hN,step⟩
  ·refine z34 (T.done (X.comp N scope C s2 H2 fp) rfl rfl rfl hc i [] s4 τ H4 (fun _ _=>False) I4 (stat fr4) st4 stop) (fun r s5 ⟨hr,I5⟩=>?_) fun _ _ z=>z;subst hr;obtain⟨m5,hn5,_⟩:=id I5.loc;exact hRR acc C H4 s5 m5 (dq I2 f2 I5) hn5 (I2.fpOk (by rw[hC,hacc0];exact z83 _) I5.free) qn
  ·refine z34 (T.item (X.comp N scope C s2 H2 fp) rfl rfl rfl hc i [] s4 τ H4 (fun _ _=>False) I4 (stat fr4) st4 go) (fun r s5 ⟨u,hr,h5⟩=>?_) fun _ _ z=>z;subst hr;refine z34 h5 (fun _ s6 ⟨x,H6,I6,r6,y6,st6,fr6⟩=>?_) fun _ _ z=>z;have I6':=I6.pinned (stat fr6) (T.obj _ _ st6);refine z34 (hg C s2 H2 fp _ s6 τ H6 x u _ I6' r6 (step x H6 y6)) (fun _ s7 ⟨τ7,H7,I7,q7⟩=>?_) fun _ _ z=>z;refine z34 (ht C s2 H2 fp _ s7 τ7 H7 _ I7 q7) (fun ok s8 ⟨H8,I8,q8⟩=>?_) fun _ _ z=>z;have again:∀{ys9:List V} {H9:Hp} {s9:Shared},Inv (X.comp N scope C s2 H2 fp) ([]++pk fp s6.heap) τ7 H9 s9->NN ys9 τ7 H9->∃m,m<n/\∃i ys τ H',Inv (X.comp N scope C s2 H2 fp) [] τ H' s9/\tn i s9.heap/\(∀b∈fp,H' b=none)/\W i m ys τ H':=fun {ys9 H9 s9} I9 n9=>by
    obtain⟨m',hm,w9⟩:=hN ys9 τ7 H9 n9;refine⟨m',hm,i+1,ys9,τ7,H9,I9.unpinned,T.keep _ _ _ st6 fun b hb o e=>(I9.pin (b,o) (z21 _ (z21 _ (vf hb e)))).1,fun b hb=>?_,w9⟩;obtain⟨o,e,d⟩:=T.obj _ _ st6 b hb;exact (I9.pin (b,o) (z21 _ (z21 _ (vf hb e)))).2.1
   cases ok with
   |false=>
    have q8':NN ys τ7 H8:=by
     have z:=q8;rw[if_neg zZ5] at z;exact z
    rw[if_neg zZ5];exact again I8 q8'
   |true=>
    rw[if_pos rfl] at q8 ⊢;refine z34 (he C s2 H2 fp _ s8 τ7 H8 _ I8 q8) (fun v s9 ⟨y,H9,I9,r9,a9,z9,q9⟩=>?_) fun _ _ z=>z;refine z34 (oC (X:=X.comp N scope C s2 H2 fp) _ s9 τ7 H9 (.ref acc) [y] (.ref acc) [v] (fun _ H10=>H10=upd H9 acc (.lst (ys++[y]))) I9 rfl (.cons r9 .nil) ⟨acc,ys,y,rfl,rfl,a9,z9,rfl⟩) (fun _ s10 ⟨_,H10,I10,_,e10⟩=>?_) fun _ _ z=>z;subst e10;exact again I10 q9
 exact codeAny_compStart_list (loop _ rfl) (T.self X.A 0 _ _ _ (T.keep _ _ _ st2 fun b _ o e=>old b o e) (loop _ rfl))
theorem zA6 (hc:X.calm=true)(S:zQ X.N X.env.scope N imp scope)(hi:PI X tg iter wi)(hg:∀C s2 H2 fp,PG (X.comp N scope C s2 H2 fp) tg g)(ht:∀C s2 H2 fp,vM (X.comp N scope C s2 H2 fp) ifs tt)
  (he:∀C s2 H2 fp,PE (X.comp N scope C s2 H2 fp) elt te) (hs:∀x,foldedSetIterable iter X.env x=pure x:=by intro _;rfl):
  PE X (.ListComp elt [⟨tg,iter,ifs,0⟩] scope pos) (zd1 wi imp g tt te):=by
 intro pins s σ H Q I h;rw[eval_ListComp];refine wpAny_comprehension_free (use:=none) rfl hs (uA (uH I S)) S.kind S.locs (thn (hi pins s σ H _ I h) fun v s1 h1=>thn h1 fun itv s2 h2=>?_);obtain⟨it,fp,tn,J,H2,e,I2,T,st2,f2,hW⟩:=h2;subst e;refine qN (RR:=fun acc C=>compPost (model X.prog X.w) X.A X.xe none (EP X pins σ Q) acc C) hc S hg ht he I2 T st2 f2 hW fun a C H' s' m I' hn f q=>?_;refine⟨m,hn,fun h' sb=>?_⟩;obtain⟨g0,g1,g2,g3,g4,g5⟩:=f;exact⟨.ref a,H',I'.turned (t':=s'.toks) (it:=C) (fun b o hb e=>(sb.2 b hb).trans e) g0 g1 g3 g4 g5,rfl,q⟩
theorem zi0 {i:Nat}{x:Str}{px:Pos}{spos:Pos}(hc:X.calm=true)(S:zQ X.N X.env.scope N imp scope)(hi:PI X tg iter wi)(hg:∀C s2 H2 fp,PG (X.comp N scope C s2 H2 fp) tg g)(ht:∀C s2 H2 fp,vM (X.comp N scope C s2 H2 fp) ifs tt)
  (he:∀C s2 H2 fp,PE (X.comp N scope C s2 H2 fp) elt te) (hN:X.N.Nodup) (hx:X.N[i]?=some x) (hl:Loc X.env.scope x) (hsw:swapsWith (.ListComp elt [⟨tg,iter,ifs,0⟩] scope pos) (some (.Name x px)) spos.line X.env=pure true:=by rfl)
  (hf:X.fn x=true\/X.env.scope.names.lookup x=some .local:=by first|exact .inl rfl|exact .inr rfl|assumption) (hs:∀x,foldedSetIterable iter X.env x=pure x:=by intro _;rfl):
  PS X (.Assign [.Name x px] (.ListComp elt [⟨tg,iter,ifs,0⟩] scope pos) spos) (zH4 (zd1 wi imp g tt te) (ox i)):=by
 intro pins s σ H D I h;rw[exec_Assign_Name_used _ _ _ _ hsw];refine zX6 (wpAny_standAt (zX6 ?_));show wpAny _ X.A (do let _ <-comprehension (.ListComp elt [⟨tg,iter,ifs,0⟩] scope pos) scope X.env _ (newList []) false (eval iter X.env) (some (assign (.Name x px) X.env))) _ _ s;refine zX6 (z34 (wpAny_comprehension_free (use:=some (assign (.Name x px) X.env)) (Q:=fun _ s'=>SP X pins D .next s') rfl hs (uA (uH I S)) S.kind S.locs (thn (hi pins s σ H _ I h) fun v s1 h1=>thn h1 fun itv s2 h2=>?_))
  (fun _ s' hq=>zY8 (zY8 hq)) fun _ _ e=>e)
 obtain⟨it,fp,tn,J,H2,e,I2,T,st2,f2,hW⟩:=h2;subst e;refine qN (Q:=fun x H1=>ox i x σ H1 D.nx) (RR:=fun acc C=>compPost (model X.prog X.w) X.A X.xe (some (assign (.Name x px) X.env)) (fun _ s'=>SP X pins D .next s') acc C) hc S hg ht he I2 T st2 f2 hW fun a C H' s' m I' hn f q=>?_;show wpAny _ X.A (assign (.Name x px) X.env (.ref a)) _ _ _;obtain⟨g0,g1,g2,g3,g4,g5⟩:=f;refine wpAny_assign_Name (oW I' hN hx hl (show RelV (.ref a) (.ref a) from rfl) (fun s4 I4 hch=>?_) hf);obtain⟨ad,sb,had⟩:=hch;have hCa:C≠ad:=by
  rcases had with e|e
  ·rw[e];exact g1
  ·exact (g4 x ad e).symm
 refine⟨m,hn.sameBut sb hCa,fun h' sb2=>?_⟩;exact⟨_,H',I4.turned (t':=s4.toks) (it:=C) (fun b o hb e=>(sb2.2 b hb).trans e) g0 g1 g3 g4 g5,q⟩
end
mutual
inductive DV (H:Hp):V->PyData->Prop where
 |non:DV H .non .none
 |bl (b:Bool):DV H (.bl b) (.bool b)
 |int (i:Int):DV H (.int i) (.int i)
 |str (x:Str):DV H (.str x) (.str x)
 |lst {a:Addr} {xs:List V} {ds:List PyData}:H a=some (.lst xs)->DVs H xs ds->DV H (.ref a) (.list ds)
 |tup {a:Addr} {xs:List V} {ds:List PyData}:H a=some (.tup xs)->DVs H xs ds->DV H (.ref a) (.tuple ds)
inductive DVs (H:Hp):List V->List PyData->Prop where
 |nil:DVs H [] []
 |cons {x:V} {xs:List V} {d:PyData} {ds:List PyData}:DV H x d->DVs H xs ds->DVs H (x::xs) (d::ds)
end
section
variable {X:Cx}{pins:List (Addr×Obj)}{σ:St}{H:Hp}{s:Shared}
mutual
theorem DV.reads (I:Inv X pins σ H s):∀{x:V} {d:PyData} {u:Value},DV H x d->RelV x u->∃as,Reads s.heap u d as
 |_,_,u,.non,r=>by cases (show u=Value.none from r);exact⟨_,.none⟩
 |_,_,u,.bl b,r=>by cases (show u=Value.bool b from r);exact⟨_,.bool b⟩
 |_,_,u,.int i,r=>by obtain⟨t,rfl⟩:=(show ∃t,u=Value.int i t from r);exact⟨_,.int i t⟩
 |_,_,u,.str x,r=>by obtain⟨t,rfl⟩:=(show ∃t,u=Value.str x t from r);exact⟨_,.str x t⟩
 |_,_,u,.lst (a:=a) hq hs,r=>by
  cases (show u=Value.ref a from r);obtain⟨its,rv,p,hz⟩:=I.list (SqL.of hq);obtain⟨o,ho,hc,n,hd⟩:=p.isList;obtain⟨as,ra⟩:=DVs.reads I hs rv;exact⟨_,.list ho hc hd (by simpa using ra)⟩
 |_,_,u,.tup (a:=a) hq hs,r=>by
  cases (show u=Value.ref a from r);obtain⟨its,rv,p,hz⟩:=I.tuple (SqT.of hq);obtain⟨o,ho,hc,n,hd⟩:=p;obtain⟨as,ra⟩:=DVs.reads I hs rv;exact⟨_,.tuple ho hc hd (by simpa using ra)⟩
theorem DVs.reads (I:Inv X pins σ H s):∀{xs:List V} {ds:List PyData} {us:List Value},DVs H xs ds->Vals xs us->∃as,ReadsAll s.heap us ds as
 |_,_,_,.nil,.nil=>⟨_,.nil⟩
 |_,_,_,.cons h hs,.cons r rs=>by
  obtain⟨as,ra⟩:=DV.reads I h r;obtain⟨bs,rb⟩:=DVs.reads I hs rs;exact⟨_,.cons ra rb⟩
end
end
mutual
theorem DV.same {H H':Hp}(e:zz H H'):∀{x:V} {d:PyData},DV H x d->DV H' x d
 |_,_,.non=>.non
 |_,_,.bl b=>.bl b
 |_,_,.int i=>.int i
 |_,_,.str x=>.str x
 |_,_,.lst hq hs=>.lst (e _ _ hq) (DVs.same e hs)
 |_,_,.tup hq hs=>.tup (e _ _ hq) (DVs.same e hs)
theorem DVs.same {H H':Hp}(e:zz H H'):∀{xs:List V} {ds:List PyData},DVs H xs ds->DVs H' xs ds
 |_,_,.nil=>.nil
 |_,_,.cons h hs=>.cons (DV.same e h) (DVs.same e hs)
end
theorem DVs.length {H:Hp}:∀{xs:List V} {ds:List PyData},DVs H xs ds->xs.length=ds.length
 |_,_,.nil=>rfl
 |_,_,.cons _ hs=>by rw[zY9,zY9,DVs.length hs]
noncomputable def tyD :PyData->String
 |.none=>"NoneType"
 |.bool _=>"bool"
 |.int _=>"int"
 |.str _=>"str"
 |.list _=>"list"
 |.tuple _=>"tuple"
 |.dict _=>"dict"
theorem DV.ty {K:PySem.W.Frag}{H:Hp}{x:V}{d:PyData}(h:DV H x d):tu K H x (.type (tyD d)):=by
 cases h with
 |non=>exact .non
 |bl b=>exact .bl b
 |int i=>exact .int i
 |str x=>exact .str x
 |lst e _=>exact .lst e
 |tup e _=>exact .tup e
noncomputable def isInt :PyData->Bool
 |.int _=>true
 |.bool _=>true
 |_=>false
noncomputable def isBool :PyData->Bool
 |.bool _=>true
 |_=>false
noncomputable def isStr :PyData->Bool
 |.str _=>true
 |_=>false
noncomputable def isList :PyData->Bool
 |.list _=>true
 |_=>false
noncomputable def gX :PyData->Bool
 |.tuple _=>true
 |_=>false
noncomputable def pU (T:String)(d:PyData):Option Bool:=
 if T="int" then some (isInt d) else if T="bool" then some (isBool d) else if T="str" then some (isStr d) else if T="list" then some (isList d) else if T="tuple" then some (gX d) else none
noncomputable def zK5 (t T:String):Option Bool:=if (Value.type t == Value.type T)=true then some true else if PySem.W.kitMeta T=true then (fastBuiltinMro t).map (·.contains (Value.type T)) else none
theorem zl9 (K:PySem.W.Frag)(t T:String):PySem.W.kitOne K (.type t) (.type T)=zK5 t T:=rfl
theorem zj6 :(["NoneType","bool","int","str","list","tuple"].all fun t=>["int","bool","str","list","tuple"].all fun T=>
  zK5 t T == some (if T="int" then t == "int"||t == "bool" else t == T))=true:=by decide +kernel
theorem zN2 (K:PySem.W.Frag){H:Hp}{x:V}{d:PyData}(h:DV H x d){T:String}{b:Bool}(e:pU T d=some b):PySem.W.kitOne K (.type (tyD d)) (.type T)=some b:=by
 rw[zl9];have key:∀t∈["NoneType","bool","int","str","list","tuple"],∀T∈["int","bool","str","list","tuple"],zK5 t T=some (if T="int" then t == "int"||t == "bool" else t == T):=fun t ht T hT=>
  eq_of_beq (z81.mp (z81.mp zj6 t ht) T hT)
 have hd:tyD d∈["NoneType","bool","int","str","list","tuple"]:=by cases h<;>simp[tyD]
 unfold pU at e;split at e
 ·rename_i eT;subst eT;rw[key _ hd "int" (by decide)];cases e;cases h<;>rfl
 ·split at e
  ·rename_i eT;subst eT;rw[key _ hd "bool" (by decide)];cases e;cases h<;>rfl
  ·split at e
   ·rename_i eT;subst eT;rw[key _ hd "str" (by decide)];cases e;cases h<;>rfl
   ·split at e
    ·rename_i eT;subst eT;rw[key _ hd "list" (by decide)];cases e;cases h<;>rfl
    ·split at e
     ·rename_i eT;subst eT;rw[key _ hd "tuple" (by decide)];cases e;cases h<;>rfl
     ·cases e
section
variable {X:Cx}
def zT5 :R2:=fun x y H Q=>∃d e,DV H x d/\DV H y e/\SeqAt.shaped d=true/\SeqAt.shaped e=true/\Q (.bl (PyData.eqv d e)) H
def zN4 :R2:=fun x y H Q=>∃d e,DV H x d/\DV H y e/\SeqAt.shaped d=true/\SeqAt.shaped e=true/\Q (.bl (!PyData.eqv d e)) H
theorem vQ (hu:X.A.units+64<cLine):OpR X (compareOp .Eq) zT5:=by
 intro pins s σ H x y v u Q I rx ry h;obtain⟨d,e,hd,he,sd,se,q⟩:=h;obtain⟨as,ra⟩:=hd.reads I rx;obtain⟨bs,rb⟩:=he.reads I ry;exact SeqAt.compareEq_shaped ra rb sd se hu ⟨.bl _,H,I,rfl,q⟩
theorem zG1 (hu:X.A.units+64<cLine):OpR X (compareOp .NotEq) zN4:=by
 intro pins s σ H x y v u Q I rx ry h;obtain⟨d,e,hd,he,sd,se,q⟩:=h;obtain⟨as,ra⟩:=hd.reads I rx;obtain⟨bs,rb⟩:=he.reads I ry;exact SeqAt.compareNe_shaped ra rb sd se hu ⟨.bl _,H,I,rfl,q⟩
theorem za2 :xI X (.builtin "isinstance") (fun xs H Q=>∃x T t b,xs=[x,.ty T]/\tu X.K H x t/\PySem.W.kitOne X.K t (.type T)=some b/\Q (.bl b) H):=by
 intro pins s σ H xs us Q I r h;obtain⟨x,T,t,b,rfl,ty,e,q⟩:=h;obtain⟨u,v,rfl,rx,ry⟩:=Vals.two r;cases (show v=Value.type T from ry);exact bf I rx ty e fun tk=>⟨.bl b,H,I.tok tk,rfl,q⟩
theorem xT :xI X (.builtin "isinstance") (fun xs H Q=>∃x T d b,xs=[x,.ty T]/\DV H x d/\pU T d=some b/\Q (.bl b) H):=by
 intro pins s σ H xs us Q I r h;obtain⟨x,T,d,b,e,hd,ht,q⟩:=h;exact za2 pins s σ H xs us Q I r ⟨x,T,_,b,e,hd.ty,zN2 X.K hd ht,q⟩
def zP0 (i j:Int):Prop:=0<j/\j.natAbs.log2<9000
theorem qj :OpR X (binaryOp .FloorDiv) (rI zP0 fun i j=>.int (i / j)):=opI fun i j _ _ _ _ _ hc q=>by
 have h1:(0:Int)<j:=hc.1;refine floordiv_int (Int.ne_of_gt h1) ?_ (.inl (PyProof.noPylong_of_log2 hc.2));rw[Int.fdiv_eq_ediv_of_nonneg _ (Int.le_of_lt h1)];exact q
noncomputable abbrev big :Int:=115792089237316195423570985008687907853269984665640564039457584007913129639936
theorem log2_small {j:Int}(h0:0<j)(h:j<big):j.natAbs.log2<9000:=by
 have hn:j.natAbs≠0:=by omega
 have h2:j.natAbs<2 ^ 256:=by
  have e:(2:Nat) ^ 256=115792089237316195423570985008687907853269984665640564039457584007913129639936:=by decide +kernel
  rw[e];unfold big at h;omega
 have h3:j.natAbs.log2<256:=(Nat.log2_lt hn).mpr h2;omega
theorem lB :xI X (.type "range") (fun xs H Q=>∃i j:Int,xs=[.int i,.int j]/\∀p,H p=none->Q (.ref p) (upd H p (.rng i j))):=by
 intro pins s σ H xs us Q I r h;obtain⟨i,j,rfl,q⟩:=h;obtain⟨u,v,rfl,⟨t,rfl⟩,⟨t',rfl⟩⟩:=Vals.two r;refine call_range_2 ⟨.ref s.heap.objs.size,_,I.laid (o:=.rng i j) (fun b u e=>zX8 _ e) (zY2 _) ⟨t,t',s.toks,zY7 _ rfl⟩,rfl,q _ (I.hok.fresh (zY2 _))⟩
noncomputable def zq (lo:Int)(n:Nat):List Int:=(List.range n).map fun i=>lo+(i:Nat)
theorem zc (lo:Int)(n:Nat):(zq lo n).length=n:=by simp[zq]
theorem zY {lo:Int}{n i:Nat}(h:i<n):(zq lo n)[i]?=some (lo+(i:Nat)):=by simp[zq,h]
theorem pO {lo:Int}{n:Nat}{acc:Array Value}(h:ItemsOf (fun i v=>∃t,v=.int (lo+i*1) t) acc n):Vals ((zq lo n).map V.int) acc.toList:=by
 obtain⟨h1,h2⟩:=h;have key:∀(xs:List V) (us:List Value),xs.length=us.length->(∀(i:Nat) (x:V) (u:Value),xs[i]?=some x->us[i]?=some u->RelV x u)->Vals xs us:=by
  intro xs
  induction xs with
  |nil=>intro us hl _;cases us with|nil=>exact .nil|cons _ _=>simp at hl
  |cons x xs ih=>
   intro us hl hr;cases us with
   |nil=>simp at hl
   |cons u us=>exact .cons (hr 0 x u rfl rfl) (ih us (by simpa using hl) fun i x' u' e1 e2=>hr (i+1) x' u' (by simpa using e1) (by simpa using e2))
 refine key _ _ ?_ fun i x u e1 e2=>?_
 ·rw[zX5,zc];simp[h1]
 ·rw[zY3] at e1;have hi:i<n:=by
   have:=(zY0.mp e2).1;simp[h1] at this;exact this
  rw[zY hi] at e1;have e1':V.int (lo+(i:Nat))=x:=z05 e1;subst e1';obtain⟨t,ht⟩:=h2 i u (by simpa using e2);refine⟨t,?_⟩;rw[ht,Int.mul_one]
theorem pJ (hc:X.calm=true):xI X (.type "list") (fun xs H Q=>∃(p:Addr) (lo hi:Int),xs=[.ref p]/\H p=some (.rng lo hi)/\(-(2 ^ 62)<=lo/\lo<2 ^ 62/\-(2 ^ 62)<=hi/\hi<2 ^ 62)/\(hi-lo).toNat<=sizeLine/\(hi-lo).toNat<=2 ^ 24/\
  ∀l,H l=none->Q (.ref l) (upd H l (.lst ((zq lo (hi-lo).toNat).map V.int)))):=by
 intro pins s σ H xs us Q I r h;obtain⟨p,lo,hi,rfl,hp,⟨b1,b2,b3,b4⟩,hz,hz2,q⟩:=h;obtain⟨u,rfl,rx⟩:=Vals.one r;cases (show u=Value.ref p from rx);obtain⟨t,t',t'',e⟩:=(show zP X.prog X.w H s.heap p (.rng lo hi) from I.hok p _ hp);refine call_list_range (I.ok.hd hc) e (small_one b1 b2 b3 b4) (n:=(hi-lo).toNat) (by rw[rangeSize_one];split<;>omega) hz2 fun h' tk acc' c' hk hl hit=>?_;refine⟨.ref s.heap.objs.size,_,I.laid (o:=.lst ((zq lo (hi-lo).toNat).map V.int)) (t':=tk) hk (zY2 _) ⟨by rw[zX5,zc];exact hz,acc'.toList,c',pO hit,by simpa using hl⟩,rfl,q _ (I.hok.fresh (zY2 _))⟩
theorem lV {bs:List Bool}:∀{us:List Value},Vals (bs.map V.bl) us->LSm.BoolsAre us bs:=by
 induction bs with
 |nil=>intro us h;cases h;exact .nil
 |cons b bs ih=>
  intro us h;cases h with
  |cons r rr=>
   cases (show _=Value.bool b from r);exact .cons b (ih rr)
end
def zs6 (X:Cx)(body:List Stmt):TS:=fun D σ H=>∃t,PSs X body t/\t D σ H
theorem yg {X:Cx}{body:List Stmt}:PSs X body (zs6 X body):=fun pins s σ H D I ⟨t,p,q⟩=>p pins s σ H D I q
theorem yd {X:Cx}{st:Stmt}{rest:List Stmt}{D:Ends}{σ:St}{H:Hp}(M:St->Hp->Prop)(h1:∃t,PS X st t/\t {D with nx:=M} σ H)(h2:∀σ' H',M σ' H'->∃t,PSs X rest t/\t D σ' H'):
  ∃t,PSs X (st::rest) t/\t D σ H:=by
 obtain⟨t1,p1,q1⟩:=h1;refine⟨fun D' σ' H'=>D'=D/\σ'=σ/\H'=H,?_,rfl,rfl,rfl⟩;intro pins s σ' H' D' I h;obtain⟨e1,e2,e3⟩:=h;subst e1 e2 e3;have step:PSs X (st::rest) (zM9 t1 fun D2 σ2 H2=>D2=D'/\M σ2 H2):=zN p1 fun pins s σ2 H2 D2 I2 ⟨e,m⟩=>by
  subst e;obtain⟨t2,p2,q2⟩:=h2 σ2 H2 m;exact p2 pins s σ2 H2 _ I2 q2
 refine step pins s _ _ _ I ?_;show t1 {D' with nx:=fun σ2 H2=>D'=D'/\M σ2 H2} _ _;have e:(fun (σ2:St) (H2:Hp)=>D'=D'/\M σ2 H2)=M:=by
  funext σ2 H2
  exact propext ⟨fun z=>z.2,fun z=>⟨rfl,z⟩⟩
 rw[e];exact q1
theorem dB {K:PySem.W.Frag}{a acc:Addr}{xs:List V}{g:TG}{tt:TT}{te:TE}{Q:VK}{τ0:St}{H0:Hp}(Pv:Nat->List V->St->Hp->Prop)(h0:Pv 0 [] τ0 H0)(hl:∀i ys τ H,i<=xs.length->Pv i ys τ H->SqL K H a xs)
  (hs:∀i x ys τ H,xs[i]?=some x->Pv i ys τ H->g x τ H fun τ2 H4=>tt τ2 H4 fun c H5=>
   if c=true then te τ2 H5 fun y H6=>H6 acc=some (.lst ys)/\ys.length<sizeLine/\Pv (i+1) (ys++[y]) τ2 (upd H6 acc (.lst (ys++[y]))) else Pv (i+1) ys τ2 H5)
  (hd:∀ys τ H,Pv xs.length ys τ H->Q (.ref acc) H):
  mw (Itl K a) acc g tt te τ0 H0 Q:=by
 refine⟨fun i m ys τ H=>m=xs.length-i/\i<=xs.length/\Pv i ys τ H,⟨xs.length,by simp,zZ4 _,h0⟩,?_⟩;rintro i m ys τ H ⟨rfl,hi,p⟩;have q:=hl i ys τ H hi p;by_cases hlt:i<xs.length
 ·refine .inr ⟨⟨xs,xs[i],q,by simp[hlt]⟩,Pv (i+1),fun ys' τ' H' p'=>⟨xs.length-(i+1),by omega,rfl,hlt,p'⟩,fun x H' y=>?_⟩;obtain⟨e,y⟩:=y;subst e;exact hs i x ys τ _ (y xs q) p
 ·have e:i=xs.length:=by omega
  subst e;exact .inl ⟨⟨xs,q,zY2 _⟩,hd ys τ H p⟩
theorem at0 {α:Type}{x:α}{xs:List α}:atI (x::xs) 0=some x:=yF (j:=0) rfl
theorem ix0 {α:Type}{x:α}{xs:List α}:ixN (x::xs).length 0=some 0:=by
 unfold ixN;rw[if_pos (z31 _),if_pos (by rw[zY9];omega)];rfl
theorem zW6 {α:Type}{x:α}{xs:List α}:seqIndex? 0 (x::xs).length=some 0:=(nj ix0).1
theorem zi8 (ns:List Int)(lo hi:Option Int):∃ms:List Int,lQ (ns.map V.int) lo hi=ms.map V.int/\ms.length<=ns.length:=by
 refine⟨(ns.drop (HT.sIx (ns.map V.int).length 0 lo)).take (HT.sIx (ns.map V.int).length (ns.map V.int).length hi-HT.sIx (ns.map V.int).length 0 lo),?_,?_⟩
 ·unfold lQ;rw[List.map_take,List.map_drop]
 ·rw[z04,z55];omega
structure yU (H:Hp)(t b c:Addr):Prop where
 ex:∃(n:Int) (bs cs:List Int),b≠c/\H t=some (.lst [.ref b,.ref c,.int n])/\H b=some (.lst (bs.map V.int))/\H c=some (.lst (cs.map V.int))/\bs.length<=63/\cs.length<=63
theorem fY {b c:Addr}{n:Int}(bs:List Int):HO.lst [.ref b,.ref c,.int n]≠HO.lst (bs.map V.int):=by
 intro z;injection z with z;cases bs with
 |nil=>cases z
 |cons x r=>cases z
def ml (t b:Addr)(H H':Hp):Prop:=∀a,a≠t->a≠b->H' a=H a
theorem ml.trans {t b:Addr}{H H1 H2:Hp}(h:ml t b H H1)(k:ml t b H1 H2):ml t b H H2:=fun a h1 h2=>(k a h1 h2).trans (h a h1 h2)
def jO (K:PySem.W.Frag):Sp:=fun vs H Q _=>∃(a:Addr) (ns:List Int),vs=[.ref a]/\SqL K H a (ns.map V.int)/\ns.length<=63/\
 ∀(t b c:Addr) (H':Hp),yU H' t b c->H t=none->H b=none->H c=none->zz H H'->Q (.ref t) H'
def ze4 :Sp:=fun vs H Q _=>∃(t b c:Addr) (many:Int),vs=[.ref t,.int many]/\yU H t b c/\0<many/\many<big/\
 ∀(v:Int) (H':Hp),0<=v->v<many->yU H' t b c->ml t b H H'->Q (.int v) H'
theorem yU.free {H:Hp}{t b c l:Addr}(T:yU H t b c)(h:H l=none):l≠t/\l≠b/\l≠c:=by
 obtain⟨n,bs,cs,n1,e1,e2,e3,l1,l2⟩:=T.ex;exact⟨(zp e1 h).symm,(zp e2 h).symm,(zp e3 h).symm⟩
theorem yU.off {H H':Hp}{t b c:Addr}(T:yU H t b c)(h:∀a,a=t\/a=b\/a=c->H' a=H a):yU H' t b c:=by
 obtain⟨n,bs,cs,n1,e1,e2,e3,l1,l2⟩:=T.ex;exact⟨n,bs,cs,n1,by rw[h t (.inl rfl)];exact e1,by rw[h b (.inr (.inl rfl))];exact e2,by rw[h c (.inr (.inr rfl))];exact e3,l1,l2⟩
theorem zg7 {H:Hp}{t b c l:Addr}{o:HO}(T:yU H t b c)(h:l≠t/\l≠b/\l≠c):yU (upd H l o) t b c:=
 T.off fun a ha=>zf (ha.elim (fun e=>e▸h.1.symm) fun ha=>ha.elim (fun e=>e▸h.2.1.symm) fun e=>e▸h.2.2.symm)
theorem de {H H':Hp}{t b c:Addr}(T:yU H t b c)(s:zz H H'):yU H' t b c:=by
 obtain⟨n,bs,cs,n1,e1,e2,e3,l1,l2⟩:=T.ex;exact⟨n,bs,cs,n1,s _ _ e1,s _ _ e2,s _ _ e3,l1,l2⟩
theorem yn {H:Hp}{p:Addr}{o:HO}(h:H p=none):zz H (upd H p o):=fun b u e=>by rw[zf (zp e h)];exact e
theorem shaped_ints (ns:List Int):SeqAt.shaped (.list (ns.map PyData.int))=true/\SeqAt.shaped (.tuple (ns.map PyData.int))=true:=by
 have h1:PyData.canLayAll0 (ns.map PyData.int)=true:=by
  induction ns with
  |nil=>rfl
  |cons n r ih=>simp only[zZ6,PyData.canLayAll0,PyData.canLay0,ih,yg7]
 have h2:PyData.depthAll (ns.map PyData.int)=0:=by
  clear h1
  induction ns with
  |nil=>rfl
  |cons n r ih=>simp only[zZ6,PyData.depthAll,PyData.depth,ih,Nat.max_self]
 constructor<;>simp[SeqAt.shaped,PyData.canLay0,PyData.depth,h1,h2]
noncomputable def yJ :Addr:=(147:Nat)
noncomputable def wt :Str:="cheapest_first.<locals>.<lambda>"
def rR (x:Addr):Prop:=x=yJ
noncomputable def sV (c:Addr):HO:=.ext fun h=>h.CodeRec (.ref c) wt
structure TabAt (H:Hp):Prop where
 ex:∃ps:Array Value,H yJ=some (.tbl ps)/\TriplesOk ps.toList/\∀pos cv,codeAmong pos ps.toList=some cv->∃c,cv=.ref c/\H c=some (sV c)
theorem rS {H H':Hp}(T:TabAt H)(h:∀a o,(∀xs,o≠.lst xs)->H a=some o->H' a=some o):TabAt H':=by
 obtain⟨ps,e1,e2,e3⟩:=T.ex;refine⟨ps,h _ _ (fun xs z=>nomatch z) e1,e2,fun pos cv hc=>?_⟩;obtain⟨c,rfl,e4⟩:=e3 pos cv hc;exact⟨c,rfl,h _ _ (fun xs z=>nomatch z) e4⟩
def Plain (H:Hp)(l:Addr):Prop:=∀o,H l=some o->o≠sV l/\∀ps,o≠.tbl ps
theorem zt2 {H:Hp}{l:Addr}{o:HO}(T:TabAt H)(h:Plain H l):TabAt (upd H l o):=by
 obtain⟨ps,e1,e2,e3⟩:=T.ex;have n1:yJ≠l:=fun z=>by rw[z] at e1;exact (h _ e1).2 ps rfl
 refine⟨ps,by rw[zf n1];exact e1,e2,fun pos cv hc=>?_⟩;obtain⟨c,rfl,e4⟩:=e3 pos cv hc;have n2:c≠l:=fun z=>by subst z;exact (h _ e4).1 rfl
 exact⟨c,rfl,by rw[zf n2];exact e4⟩
theorem ba {ps:Array Value}:∀ts,HO.tbl ps≠HO.tup ts:=fun _ z=>by cases z
theorem mG {H:Hp}{x:Addr}(T:TabAt H)(h:rR x):∃o,H x=some o/\(∀ts,o≠.tup ts)/\∀xs,o≠.lst xs:=by
 obtain⟨ps,e1,_⟩:=T.ex;exact⟨_,by rw[h];exact e1,ba,fun _ z=>by cases z⟩
theorem oS {H:Hp}{l:Addr}{xs:List V}(h:H l=some (.lst xs)):Plain H l:=fun o e=>by
 rw[h] at e;cases e;exact⟨(fun z=>by cases z),fun ps z=>by cases z⟩
theorem ph {H:Hp}{l:Addr}{xs:List (Key×V)}(h:H l=some (.dK xs)):Plain H l:=fun o e=>by
 rw[h] at e;cases e;exact⟨(fun z=>by cases z),fun ps z=>by cases z⟩
theorem dJ {H:Hp}{l C dx:Addr}{fs:List (Str×V)}(h:H l=some (.ins C dx fs)):Plain H l:=fun o e=>by
 rw[h] at e;cases e;exact⟨(fun z=>by cases z),fun ps z=>by cases z⟩
theorem lh {H:Hp}{l:Addr}(T:TabAt H)(h:H l=none):¬rR l:=fun z=>by
 obtain⟨o,e,_⟩:=mG T z;rw[h] at e;cases e
theorem zt6 {H H':Hp}{t b:Addr}{xs ys:List V}(T:TabAt H)(ht:H t=some (.lst xs))(hb:H b=some (.lst ys))(off:ml t b H H'):TabAt H':=rS T fun a o no e=>by
 have n1:a≠t:=fun z=>by rw[z,ht] at e;cases e;exact no _ rfl
 have n2:a≠b:=fun z=>by rw[z,hb] at e;cases e;exact no _ rfl
 rw[off a n1 n2];exact e
theorem ze3 {H H':Hp}(T:TabAt H)(h:zz H H'):TabAt H':=rS T fun a o _ e=>h a o e
def kr (K:PySem.W.Frag):Sp:=fun vs H Q _=>∃(a:Addr) (ns:List Int),vs=[.ref a]/\SqL K H a (ns.map V.int)/\ns.length<=63/\TabAt H/\∀H',Q (.bl true) H'
structure zI9 (mg:Str->Option Value):Prop where
 abs:mg "abs"=none
 list:mg "list"=none
 len:mg "len"=none
theorem zx9 (d:PyData):pU "int" d=some (isInt d):=by unfold pU;rw[if_pos rfl]
theorem qv (d:PyData):pU "bool" d=some (isBool d):=by unfold pU;rw[if_neg (by decide),if_pos rfl]
theorem oj (d:PyData):pU "tuple" d=some (gX d):=by unfold pU;rw[if_neg (by decide),if_neg (by decide),if_neg (by decide),if_neg (by decide),if_pos rfl]
structure zT (n:Nat)(d:PyData):Prop where
 shw:d.showable=true
 nod:d.hasDict=false
 dep:d.depth<=8
 len:d.shown.length<=n
 lay:d.canLay0=true
theorem zT.mono {m n:Nat}{d:PyData}(h:zT m d)(e:m<=n):zT n d:=⟨h.shw,h.nod,h.dep,z35 h.len e,h.lay⟩
theorem sS :∀(ts:List Str) (k:Nat) (acc:Str),(textFrom k acc ts).length<=acc.length+piled ts
 |[],_,acc=>by rw[piled_nil];exact zY2 _
 |t::r,k,acc=>by
  have h:=sS r (k+1) (acc++(if k > 0 then ", " else "":String)++t);rw[piled_cons];have e2:(Str.ofString (if k > 0 then ", " else "":String)).length<=2:=by
   split
   ·exact ye9 rfl
   ·exact zZ4 _
  have e3:=ye2 (acc++Str.ofString (if k > 0 then ", " else "":String)) t;have e4:=ye2 acc (Str.ofString (if k > 0 then ", " else "":String));show (textFrom (k+1) (acc++Str.ofString (if k > 0 then ", " else "":String)++t) r).length<=_;have h':(textFrom (k+1) (acc++Str.ofString (if k > 0 then ", " else "":String)++t) r).length<=(acc++Str.ofString (if k > 0 then ", " else "":String)++t).length+piled r:=h;omega
theorem lJ (ts:List Str):(listText ts).length<=piled ts+2:=by
 unfold listText;rw[ye2];have h:=sS ts 0 (Str.ofString "[");have e1:(Str.ofString "[").length=1:=rfl;have e2:(Str.ofString "]").length=1:=rfl;show (textFrom 0 (Str.ofString "[") ts).length+(Str.ofString "]").length<=_;omega
theorem mn (ts:List Str):(tupleText ts).length<=piled ts+3:=by
 cases ts with
 |nil=>decide +kernel
 |cons t r=>
  have h:=join_length_add (t::r) (by simp);unfold tupleText;rw[ye2,ye2];have e1:(Str.ofString "(").length=1:=rfl;have e2:(Str.ofString (if (t::r).length == 1 then ",)" else ")":String)).length<=2:=by
   split
   ·exact ye9 rfl
   ·exact z63 (show 1<2 by decide)
  show (Str.ofString "(").length+(Str.join ", " (t::r)).length+(Str.ofString (if (t::r).length == 1 then ",)" else ")":String)).length<=_;omega
theorem vL {n:Nat}:∀(ds:List PyData),(∀d∈ds,zT n d)->piled (PyData.shownAll ds)<=ds.length*(n+2)
 |[],_=>zZ4 _
 |d::r,h=>by
  have h1:=(h d zY6).len;have h2:=vL r fun e he=>h e (zY4 _ he);show piled (d.shown::PyData.shownAll r)<=_;rw[piled_cons,zY9,Nat.succ_mul];omega
structure yC (n:Nat)(ds:List PyData):Prop where
 all:∀d∈ds,zT n d
 dep:∀d∈ds,d.depth<=7
theorem yC.parts {n:Nat}:∀{ds:List PyData},yC n ds->PyData.showableAll ds=true/\PyData.hasDictAll ds=false/\PyData.depthAll ds<=7/\PyData.canLayAll0 ds=true
 |[],_=>⟨rfl,rfl,zZ4 _,rfl⟩
 |d::r,h=>by
  obtain⟨a,b,c,e⟩:=yC.parts (ds:=r) ⟨fun x hx=>h.all x (zY4 _ hx),fun x hx=>h.dep x (zY4 _ hx)⟩;have hd:=h.all d zY6;have hp:=h.dep d zY6;refine⟨?_,?_,?_,?_⟩
  ·simp only[PyData.showableAll,hd.shw,a,yg7]
  ·simp only[PyData.hasDictAll,hd.nod,b,Bool.or_self]
  ·simp only[PyData.depthAll];omega
  ·simp only[PyData.canLayAll0,hd.lay,e,yg7]
theorem zT.list {n m:Nat}{ds:List PyData}(h:yC n ds)(e:ds.length*(n+2)+2<=m):zT m (.list ds):=by
 obtain⟨a,b,c,f⟩:=h.parts;refine⟨by simp only[PyData.showable,a],by simp only[PyData.hasDict,b],by simp only[PyData.depth];omega,?_,by simp only[PyData.canLay0,f]⟩;show (listText (PyData.shownAll ds)).length<=m;have h1:=lJ (PyData.shownAll ds);have h2:=vL ds h.all;omega
theorem zT.tuple {n m:Nat}{ds:List PyData}(h:yC n ds)(e:ds.length*(n+2)+3<=m):zT m (.tuple ds):=by
 obtain⟨a,b,c,f⟩:=h.parts;refine⟨by simp only[PyData.showable,a],by simp only[PyData.hasDict,b],by simp only[PyData.depth];omega,?_,by simp only[PyData.canLay0,f]⟩;show (tupleText (PyData.shownAll ds)).length<=m;have h1:=mn (PyData.shownAll ds);have h2:=vL ds h.all;omega
theorem za0 {i:Int}(h0:-big<i)(h1:i<big):i.natAbs.log2<1920:=by
 by_cases hn:i.natAbs=0
 ·rw[hn];decide
 ·have h2:i.natAbs<2 ^ 256:=by
   have e:(2:Nat) ^ 256=115792089237316195423570985008687907853269984665640564039457584007913129639936:=by decide +kernel
   rw[e];unfold big at h0 h1;omega
  have h3:i.natAbs.log2<256:=(Nat.log2_lt hn).mpr h2;omega
theorem zT.int {i:Int}(h0:-big<i)(h1:i<big):zT 2000 (.int i):=by
 have hl:=za0 h0 h1;refine⟨by simp only[PyData.showable,z07];exact hl,rfl,zZ4 _,?_,rfl⟩;have:=int_text_len_1921 hl;show (Str.ofString (toString i)).length<=2000;omega
theorem zT.none :zT 2000 .none:=⟨rfl,rfl,zZ4 _,by decide +kernel,rfl⟩
theorem zT.bool (b:Bool):zT 2000 (.bool b):=⟨rfl,rfl,zZ4 _,by cases b<;>decide +kernel,rfl⟩
theorem zT.shaped {n:Nat}{d:PyData}(h:zT n d):SeqAt.shaped d=true:=by
 unfold SeqAt.shaped;rw[h.lay,z28,z07];have:=h.dep;omega
section
variable {X:Cx}
theorem cL (hg:X.A.guards=some [])(hu:X.A.units+64<cLine):xI X (.builtin "repr") (fun xs H Q=>∃x d,xs=[x]/\DV H x d/\zT sizeLine d/\Q (.str d.shown) H):=by
 intro pins s σ H xs us Q I r h;obtain⟨x,d,rfl,hd,N,q⟩:=h;obtain⟨u,rfl,rx⟩:=Vals.one r;have big':∀{a:Addr},u=Value.ref a->wpAny (model X.prog X.w) X.A (call (.builtin "repr") [u]) (EP X pins σ Q) X.xe s:=fun {a} e=>by
  obtain⟨as,rd⟩:=hd.reads I rx;subst e;refine repr_of_reads' rd N.shw (PyData.noDict_hsm N.nod) hg (by have:=N.dep;omega) (fun _ _ e=>e) (fun h' t tk hk=>?_) N.len;exact⟨.str d.shown,H,I.kept hk,⟨t,rfl⟩,q⟩
 cases hd with
 |non=>cases (show u=Value.none from rx);exact P.repr_of_none ⟨.str _,H,I.tok _,⟨_,rfl⟩,q⟩
 |bl b=>cases (show u=Value.bool b from rx);exact P.repr_of_bool ⟨.str _,H,I.tok _,⟨_,rfl⟩,q⟩
 |int i=>
  obtain⟨t,rfl⟩:=(show ∃t,u=Value.int i t from rx);have hs:i.natAbs.log2<1920:=by
   have:=N.shw;simpa only[PyData.showable,z07] using this
  exact P.repr_of_int hs ⟨.str _,H,I.tok _,⟨_,rfl⟩,q⟩
 |str y=>
  obtain⟨t,rfl⟩:=(show ∃t,u=Value.str y t from rx);exact P.repr_of_str ⟨.str _,H,I.tok _,⟨_,rfl⟩,q⟩ N.len
 |lst e _=>exact big' rx
 |tup e _=>exact big' rx
theorem om {s:Shared}{h':Heap}{o:Obj}{q:Addr}(hq:q=s.heap.objs.size)(hk:∀b x,b∉[q]->(s.heap.push o).get? b=some x->h'.get? b=some x):∀b x,s.heap.get? b=some x->h'.get? b=some x:=fun b x e=>by
 refine hk b x (fun hm=>?_) (zX8 _ e);have e2:b=q:=by simpa using hm
 rw[e2,hq] at e;exact z47 _ (zY5 e)
theorem cU (hc:X.calm=true):xI X (.builtin "all") (fun xs H Q=>∃(p:Addr) (bs:List Bool),xs=[.ref p]/\H p=some (.lst (bs.map V.bl))/\Q (.bl (bs.all id)) H):=by
 intro pins s σ H xs us Q I r h;obtain⟨p,bs,rfl,hp,q⟩:=h;obtain⟨u,rfl,rx⟩:=Vals.one r;cases (show u=Value.ref p from rx);obtain⟨its,rv,pl,hz⟩:=I.list (SqL.of hp);have hB:=lV rv;have hL:=pl.isList;have hlt:p<s.heap.objs.size:=I.hok.lt hp;refine call_all_walk (z66 hL ⟨s.heap.objs.size,[s.heap.objs.size,p],[s.heap.objs.size],its.toArray.size,_,_,fun i=>(bs[i]?).getD true,rfl,
  Walks.list (A:=X.A.in1) (I.ok.hd hc) _ p (zZ7 hlt) its.toArray,⟨⟨_,zY7 _ rfl,rfl,rfl⟩,hL.push _⟩,fun i v s' Q' E' hP hQ=>?_,fun h' tk hk=>?_⟩)
 ·obtain⟨b,eb,rfl⟩:=hB.get i v (by simpa using hP);dsimp only at hQ;rw[eb] at hQ;exact z32 hQ
 ·have ee:((List.range its.toArray.size).all fun i=>(bs[i]?).getD true)=bs.all id:=by
   rw[zZ1,hB.length];exact LSm.range_all bs
  rw[ee];exact⟨.bl _,H,I.kept (t':=tk) (om rfl hk),rfl,q⟩
theorem cp (hc:X.calm=true):xI X (.builtin "any") (fun xs H Q=>∃(p:Addr) (bs:List Bool),xs=[.ref p]/\H p=some (.lst (bs.map V.bl))/\Q (.bl (bs.any id)) H):=by
 intro pins s σ H xs us Q I r h;obtain⟨p,bs,rfl,hp,q⟩:=h;obtain⟨u,rfl,rx⟩:=Vals.one r;cases (show u=Value.ref p from rx);obtain⟨its,rv,pl,hz⟩:=I.list (SqL.of hp);have hB:=lV rv;have hL:=pl.isList;have hlt:p<s.heap.objs.size:=I.hok.lt hp;refine call_any_walk (z66 hL ⟨s.heap.objs.size,[s.heap.objs.size,p],[s.heap.objs.size],its.toArray.size,_,_,fun i=>(bs[i]?).getD false,rfl,
  Walks.list (A:=X.A.in1) (I.ok.hd hc) _ p (zZ7 hlt) its.toArray,⟨⟨_,zY7 _ rfl,rfl,rfl⟩,hL.push _⟩,fun i v s' Q' E' hP hQ=>?_,fun h' tk hk=>?_⟩)
 ·obtain⟨b,eb,rfl⟩:=hB.get i v (by simpa using hP);dsimp only at hQ;rw[eb] at hQ;exact z32 hQ
 ·have ee:((List.range its.toArray.size).any fun i=>(bs[i]?).getD false)=bs.any id:=by
   rw[zZ1,hB.length];exact LSm.range_any bs
  rw[ee];exact⟨.bl _,H,I.kept (t':=tk) (om rfl hk),rfl,q⟩
end
noncomputable def iP :PyData->Bool
 |.int _=>true
 |_=>false
noncomputable def yv (lo hi:Int):PyData->Bool
 |.int i=>decide (lo<=i)&&decide (i<=hi)
 |_=>false
noncomputable def pairD :PyData->Bool
 |.tuple ds=>decide ((ds.length:Int)=2)
 |_=>false
noncomputable abbrev tM :PyData->Bool:=yv 0 1000000
noncomputable def pE :PyData->Bool
 |.tuple [a,b]=>tM a&&tM b
 |_=>false
noncomputable def pM :PyData->Option Int
 |.tuple [.int a,.int b]=>if tM (.int a)&&tM (.int b) then some (b-a) else none
 |_=>none
noncomputable def yE (d:PyData):Bool:=match pM d with
 |some k=>decide (0<=k)
 |none=>false
theorem dG (d:PyData):iP d=(isInt d&&!isBool d):=by cases d<;>rfl
theorem sU {d:PyData}(h:pairD d=true):∃a b,d=.tuple [a,b]:=by
 cases d with
 |tuple ds=>
  have h':(ds.length:Int)=2:=z43 h
  match ds,h' with
  |[a,b],_=>exact⟨a,b,rfl⟩
  |[],z=>simp at z
  |[_],z=>simp at z
  |_::_::_::_,z=>simp at z;omega
 |_=>cases h
theorem rP (d:PyData):pE d=(pM d).isSome:=by
 unfold pE pM;split
 ·rename_i a b;cases a with
  |int i=>
   cases b with
   |int j=>
    show (tM (.int i)&&tM (.int j))=_;cases e:(tM (.int i)&&tM (.int j))<;>simp[e]
   |_=>simp[yv]
  |_=>simp[yv]
 ·rename_i h;split
  ·rename_i a b;exact absurd rfl (h (.int a) (.int b))
  ·rfl
theorem jZ {d:PyData}(h:pE d=true):∃a b:Int,d=.tuple [.int a,.int b]/\pM d=some (b-a):=by
 rw[rP] at h;unfold pM at h ⊢;split at h
 ·rename_i a b;split at h
  ·rename_i hc;exact⟨a,b,rfl,by simp[hc]⟩
  ·cases h
 ·cases h
def yW (g:PyData->Bool):Sp:=fun vs H Q _=>∃x d,vs=[x]/\DV H x d/\Q (.bl (g d)) H
def uc :Sp:=fun vs H Q _=>∃x d lo hi,vs=[x,.int lo,.int hi]/\DV H x d/\Q (.bl (yv lo hi d)) H
theorem zt0 {n:Nat}:decide (V.int (n:Int)=V.int 2)=decide ((n:Int)=2):=by simp
noncomputable def sub (p:Addr->Prop)(H:Hp):Hp:=fun a=>open Classical in if p a then H a else none
theorem zh {p:Addr->Prop}{H:Hp}{a:Addr}{o:HO}(h:sub p H a=some o):p a/\H a=some o:=by
 unfold sub at h;split at h
 ·rename_i hp;exact⟨hp,h⟩
 ·cases h
theorem zH {p:Addr->Prop}{H:Hp}{a:Addr}{o:HO}(hp:p a)(h:H a=some o):sub p H a=some o:=by
 unfold sub;rw[if_pos hp];exact h
theorem zx {p q:Addr->Prop}{H H':Hp}(h:∀a o,p a->H a=some o->q a/\H' a=some o):zz (sub p H) (sub q H'):=fun a o e=>by
 obtain⟨hp,he⟩:=zh e;obtain⟨hq,he'⟩:=h a o hp he;exact zH hq he'
theorem xG {p:Addr->Prop}{H:Hp}:zz (sub p H) H:=fun _ _ e=>(zh e).2
theorem yC.snoc {n:Nat}{ds:List PyData}{d:PyData}(h:yC n ds)(hd:zT n d)(hp:d.depth<=7):yC n (ds++[d]):=
 ⟨fun e he=>(z36.mp he).elim (h.all e) fun z=>by rw[zZ0.mp z];exact hd,fun e he=>(z36.mp he).elim (h.dep e) fun z=>by rw[zZ0.mp z];exact hp⟩
theorem yC.nil {n:Nat}:yC n []:=⟨fun d hd=>by simp at hd,fun d hd=>by simp at hd⟩
theorem yC.two {n:Nat}{d e:PyData}(hd:zT n d)(he:zT n e)(h1:d.depth<=7)(h2:e.depth<=7):yC n [d,e]:=(yC.nil.snoc hd h1).snoc he h2
section
variable {X:Cx}{e:Expr}{es:List Expr}
def tf (X:Cx)(e:Expr):TE:=fun σ H Q=>∃t,PE X e t/\t σ H Q
theorem zk :PE X e (tf X e):=fun pins s σ H Q I ⟨t,p,q⟩=>p pins s σ H Q I q
def zT3 (X:Cx)(e:Expr):TT:=fun σ H Q=>∃t,PT X e t/\t σ H Q
theorem xR :PT X e (zT3 X e):=fun pins s σ H Q I ⟨t,p,q⟩=>p pins s σ H Q I q
def zG2 (X:Cx)(es:List Expr):TA:=fun σ H Q=>∃t,PA X es t/\t σ H Q
theorem yV :PA X es (zG2 X es):=fun pos pins s σ H Q I ⟨t,p,q⟩=>p pos pins s σ H Q I q
end
noncomputable def vk :Key->PyData
 |.inl i=>.int i
 |.inr x=>.str x
noncomputable def xcO (a C:Addr)(d:Option Addr):HO:=.ext fun h=>∃o vs,h.get? a=some o/\o.cls=.ref C/\o.dict=d/\o.data=.fields vs
mutual
inductive AV (H:Hp):V->PyData->Prop where
 |non:AV H .non .none
 |bl (b:Bool):AV H (.bl b) (.bool b)
 |int (i:Int):AV H (.int i) (.int i)
 |str (x:Str):AV H (.str x) (.str x)
 |lst {a:Addr} {xs:List V} {ds:List PyData}:H a=some (.lst xs)->AVs H xs ds->AV H (.ref a) (.list ds)
 |tup {a:Addr} {xs:List V} {ds:List PyData}:H a=some (.tup xs)->AVs H xs ds->AV H (.ref a) (.tuple ds)
 |ins {a C dx:Addr} {fs:List (Str×V)} {ds:List (PyData×PyData)}:H a=some (.ins C dx fs)->AVf H fs ds->AV H (.ref a) (.dict ((.int (C:Nat),.none)::ds))
 |dk {a:Addr} {o:Obj} {kvs:List (Key×V)} {ds:List (PyData×PyData)}:H a=some (.frz o (.dK kvs))->AVk H kvs ds->AV H (.ref a) (.dict ((.none,.none)::ds))
 |dt {a:Addr} {o:Obj} {kvs:List (List Key×V)} {ds:List (PyData×PyData)}:H a=some (.frz o (.dT kvs))->AVt H kvs ds->AV H (.ref a) (.dict ((.none,.bool true)::ds))
 |xc {a C dx:Addr} {fs:List (Str×V)} {ds:List (PyData×PyData)}:H a=some (xcO a C (some dx))->H dx=some (.xd fs)->AVf H fs ds->AV H (.ref a) (.dict ((.int (C:Nat),.bool true)::ds))
 |xn {a C:Addr}:H a=some (xcO a C none)->AV H (.ref a) (.dict [(.int (C:Nat),.bool false)])
inductive AVs (H:Hp):List V->List PyData->Prop where
 |nil:AVs H [] []
 |cons {x:V} {xs:List V} {d:PyData} {ds:List PyData}:AV H x d->AVs H xs ds->AVs H (x::xs) (d::ds)
inductive AVf (H:Hp):List (Str×V)->List (PyData×PyData)->Prop where
 |nil:AVf H [] []
 |cons {f:Str} {x:V} {fs:List (Str×V)} {d:PyData} {ds:List (PyData×PyData)}:AV H x d->AVf H fs ds->AVf H ((f,x)::fs) ((.str f,d)::ds)
inductive AVk (H:Hp):List (Key×V)->List (PyData×PyData)->Prop where
 |nil:AVk H [] []
 |cons {k:Key} {x:V} {fs:List (Key×V)} {d:PyData} {ds:List (PyData×PyData)}:AV H x d->AVk H fs ds->AVk H ((k,x)::fs) ((vk k,d)::ds)
inductive AVt (H:Hp):List (List Key×V)->List (PyData×PyData)->Prop where
 |nil:AVt H [] []
 |cons {k:List Key} {x:V} {fs:List (List Key×V)} {d:PyData} {ds:List (PyData×PyData)}:AV H x d->AVt H fs ds->AVt H ((k,x)::fs) ((.tuple (k.map vk),d)::ds)
end
mutual
theorem AV.same {H H':Hp}(e:zz H H'):∀{x:V} {d:PyData},AV H x d->AV H' x d
 |_,_,.non=>.non
 |_,_,.bl b=>.bl b
 |_,_,.int i=>.int i
 |_,_,.str x=>.str x
 |_,_,.lst hq hs=>.lst (e _ _ hq) (AVs.same e hs)
 |_,_,.tup hq hs=>.tup (e _ _ hq) (AVs.same e hs)
 |_,_,.ins hq hs=>.ins (e _ _ hq) (AVf.same e hs)
 |_,_,.dk hq hs=>.dk (e _ _ hq) (AVk.same e hs)
 |_,_,.dt hq hs=>.dt (e _ _ hq) (AVt.same e hs)
 |_,_,.xc hq hd hs=>.xc (e _ _ hq) (e _ _ hd) (AVf.same e hs)
 |_,_,.xn hq=>.xn (e _ _ hq)
theorem AVs.same {H H':Hp}(e:zz H H'):∀{xs:List V} {ds:List PyData},AVs H xs ds->AVs H' xs ds
 |_,_,.nil=>.nil
 |_,_,.cons h hs=>.cons (AV.same e h) (AVs.same e hs)
theorem AVf.same {H H':Hp}(e:zz H H'):∀{fs:List (Str×V)} {ds:List (PyData×PyData)},AVf H fs ds->AVf H' fs ds
 |_,_,.nil=>.nil
 |_,_,.cons h hs=>.cons (AV.same e h) (AVf.same e hs)
theorem AVk.same {H H':Hp}(e:zz H H'):∀{fs:List (Key×V)} {ds:List (PyData×PyData)},AVk H fs ds->AVk H' fs ds
 |_,_,.nil=>.nil
 |_,_,.cons h hs=>.cons (AV.same e h) (AVk.same e hs)
theorem AVt.same {H H':Hp}(e:zz H H'):∀{fs:List (List Key×V)} {ds:List (PyData×PyData)},AVt H fs ds->AVt H' fs ds
 |_,_,.nil=>.nil
 |_,_,.cons h hs=>.cons (AV.same e h) (AVt.same e hs)
end
mutual
theorem AV.dv {H:Hp}:∀{x:V} {d:PyData},AV H x d->d.hasDict=false->DV H x d
 |_,_,.non,_=>.non
 |_,_,.bl b,_=>.bl b
 |_,_,.int i,_=>.int i
 |_,_,.str x,_=>.str x
 |_,_,.lst hq hs,h=>.lst hq (AVs.dv hs (by simpa only[PyData.hasDict] using h))
 |_,_,.tup hq hs,h=>.tup hq (AVs.dv hs (by simpa only[PyData.hasDict] using h))
 |_,_,.ins hq hs,h=>by simp[PyData.hasDict] at h
 |_,_,.dk hq hs,h=>by simp[PyData.hasDict] at h
 |_,_,.dt hq hs,h=>by simp[PyData.hasDict] at h
 |_,_,.xc hq _ hs,h=>by simp[PyData.hasDict] at h
 |_,_,.xn hq,h=>by simp[PyData.hasDict] at h
theorem AVs.dv {H:Hp}:∀{xs:List V} {ds:List PyData},AVs H xs ds->PyData.hasDictAll ds=false->DVs H xs ds
 |_,_,.nil,_=>.nil
 |_,_,.cons h hs,e=>by
  simp only[PyData.hasDictAll,Bool.or_eq_false_iff] at e;exact .cons (AV.dv h e.1) (AVs.dv hs e.2)
end
mutual
theorem DV.av {H:Hp}:∀{x:V} {d:PyData},DV H x d->AV H x d
 |_,_,.non=>.non
 |_,_,.bl b=>.bl b
 |_,_,.int i=>.int i
 |_,_,.str x=>.str x
 |_,_,.lst hq hs=>.lst hq (DVs.av hs)
 |_,_,.tup hq hs=>.tup hq (DVs.av hs)
theorem DVs.av {H:Hp}:∀{xs:List V} {ds:List PyData},DVs H xs ds->AVs H xs ds
 |_,_,.nil=>.nil
 |_,_,.cons h hs=>.cons (DV.av h) (DVs.av hs)
end
theorem AVs.length {H:Hp}:∀{xs:List V} {ds:List PyData},AVs H xs ds->xs.length=ds.length
 |_,_,.nil=>rfl
 |_,_,.cons _ hs=>by rw[zY9,zY9,AVs.length hs]
theorem AVs.append {H:Hp}:∀{xs ys:List V} {ds es:List PyData},AVs H xs ds->AVs H ys es->AVs H (xs++ys) (ds++es)
 |_,_,_,_,.nil,h=>h
 |_,_,_,_,.cons a r,h=>.cons a (AVs.append r h)
theorem AVs.get {H:Hp}:∀{xs:List V} {ds:List PyData} {i:Nat} {d:PyData},AVs H xs ds->ds[i]?=some d->∃x,xs[i]?=some x/\AV H x d
 |_,_,_,_,.nil,e=>by simp at e
 |_,_,0,_,.cons a _,e=>by simp at e;subst e;exact⟨_,rfl,a⟩
 |_,_,i+1,d,.cons _ r,e=>by
  obtain⟨x,h1,h2⟩:=AVs.get (i:=i) (d:=d) r (by simpa using e);exact⟨x,by simpa using h1,h2⟩
theorem AVs.take {H:Hp}:∀{xs:List V} {ds:List PyData} (n:Nat),AVs H xs ds->AVs H (xs.take n) (ds.take n)
 |_,_,0,_=>.nil
 |_,_,_+1,.nil=>.nil
 |_,_,n+1,.cons a r=>.cons a (AVs.take n r)
theorem AVs.drop {H:Hp}:∀{xs:List V} {ds:List PyData} (n:Nat),AVs H xs ds->AVs H (xs.drop n) (ds.drop n)
 |_,_,0,r=>r
 |_,_,_+1,.nil=>.nil
 |_,_,n+1,.cons _ r=>AVs.drop n r
theorem AVs.set {H:Hp}{x:V}{d:PyData}(a:AV H x d):∀{xs:List V} {ds:List PyData} (i:Nat),AVs H xs ds->AVs H (xs.set i x) (ds.set i d)
 |_,_,_,.nil=>.nil
 |_,_,0,.cons _ r=>.cons a r
 |_,_,i+1,.cons q r=>.cons q (AVs.set a i r)
theorem AVs.atI {H:Hp}{xs:List V}{ds:List PyData}{i:Int}{d:PyData}(h:AVs H xs ds)(e:atI ds i=some d):∃x,L2.atI xs i=some x/\AV H x d:=by
 unfold L2.atI at e ⊢;rw[h.length];cases q:ixN ds.length i with
 |none=>rw[q] at e;cases e
 |some j=>
  rw[q] at e;exact h.get (i:=j) e
noncomputable def cutD (ds:List PyData)(lo hi:Option Int):List PyData:=(ds.drop (HT.sIx ds.length 0 lo)).take (HT.sIx ds.length ds.length hi-HT.sIx ds.length 0 lo)
theorem AVs.cut {H:Hp}{xs:List V}{ds:List PyData}(h:AVs H xs ds)(lo hi:Option Int):AVs H (lQ xs lo hi) (cutD ds lo hi):=by
 unfold lQ cutD;rw[h.length];exact (h.drop _).take _
mutual
noncomputable def noL :PyData->Bool
 |.list _=>false
 |.dict ((.none,_)::_)=>false
 |.dict kvs=>gn kvs
 |.tuple ds=>uw ds
 |_=>true
noncomputable def uw :List PyData->Bool
 |[]=>true
 |d::r=>noL d&&uw r
noncomputable def gn :List (PyData×PyData)->Bool
 |[]=>true
 |(_,d)::r=>noL d&&gn r
end
def Ob :HO->Prop
 |.lst _=>True
 |.dK _=>True
 |.frz _ _=>True
 |_=>False
mutual
theorem AV.noL {H H':Hp}(e:∀a o,¬Ob o->H a=some o->H' a=some o):∀{x:V} {d:PyData},AV H x d->noL d=true->AV H' x d
 |_,_,.non,_=>.non
 |_,_,.bl b,_=>.bl b
 |_,_,.int i,_=>.int i
 |_,_,.str x,_=>.str x
 |_,_,.lst _ _,h=>by simp[L2.noL] at h
 |_,_,.tup hq hs,h=>.tup (e _ _ (fun z=>z) hq) (AVs.noL e hs (by simpa only[L2.noL] using h))
 |_,_,.ins hq hs,h=>.ins (e _ _ (fun z=>z) hq) (AVf.noL e hs (by simpa[L2.noL,L2.gn] using h))
 |_,_,.dk _ _,h=>by simp[L2.noL] at h
 |_,_,.dt _ _,h=>by simp[L2.noL] at h
 |_,_,.xc hq hd hs,h=>.xc (e _ _ (fun z=>z) hq) (e _ _ (fun z=>z) hd) (AVf.noL e hs (by simpa[L2.noL,L2.gn] using h))
 |_,_,.xn hq,h=>.xn (e _ _ (fun z=>z) hq)
theorem AVs.noL {H H':Hp}(e:∀a o,¬Ob o->H a=some o->H' a=some o):∀{xs:List V} {ds:List PyData},AVs H xs ds->uw ds=true->AVs H' xs ds
 |_,_,.nil,_=>.nil
 |_,_,.cons h hs,q=>by
  simp only[L2.uw,zZ9] at q;exact .cons (AV.noL e h q.1) (AVs.noL e hs q.2)
theorem AVf.noL {H H':Hp}(e:∀a o,¬Ob o->H a=some o->H' a=some o):∀{fs:List (Str×V)} {ds:List (PyData×PyData)},AVf H fs ds->gn ds=true->AVf H' fs ds
 |_,_,.nil,_=>.nil
 |_,_,.cons h hs,q=>by
  simp only[L2.gn,zZ9] at q;exact .cons (AV.noL e h q.1) (AVf.noL e hs q.2)
end
structure Fr where
 H0:Hp
 O0:Addr->Prop
 tp:Option (Addr×Addr×Addr)
inductive A where
 |dat (d:PyData)
 |ow (c:PyData)
 |deep (d:PyData) (S:Addr->Prop)
 |tape
 |at (l:Addr)
 |exc (r:Fr) (q:PyData->Prop)
 |pin (l:Addr) (vs:List V) (ds:List PyData)
@[reducible] noncomputable def A.own (ds:List PyData):A:=.ow (.list ds)
noncomputable abbrev xB (ds:List (PyData×PyData)):PyData:=.dict ((.none,.none)::ds)
@[reducible] noncomputable def A.dic (ds:List (PyData×PyData)):A:=.ow (xB ds)
abbrev Ev :=List (Option A)
def vE (o:HO):Prop:=∀ts,o≠.tup ts
theorem xt {xs:List V}:vE (.lst xs):=fun _ z=>by cases z
theorem Ob.notup {o:HO}(h:Ob o):vE o:=fun ts z=>by subst z;exact h
def NT (F:Fr)(x:Addr):Prop:=(∀t b c,F.tp=some (t,b,c)->x≠t/\x≠b)/\¬rR x
def Kz (F:Fr)(H H':Hp):Prop:=∀x o,H x=some o->NT F x->H' x=some o
structure zM (F:Fr)(H:Hp):Prop where
 tab:TabAt H
 ot:∀x,rR x->F.O0 x
 all:∀t b c,F.tp=some (t,b,c)->yU H t b c/\F.O0 t/\F.O0 b/\F.O0 c
instance {F:Fr} {H:Hp}:CoeFun (zM F H) (fun _=>∀t b c,F.tp=some (t,b,c)->yU H t b c/\F.O0 t/\F.O0 b/\F.O0 c):=⟨zM.all⟩
theorem zM.to {F F':Fr}{H:Hp}(t:zM F H)(hp:F'.tp=F.tp)(ho:∀x,F.O0 x->F'.O0 x):zM F' H:=⟨t.tab,fun x h=>ho x (t.ot x h),fun a b c e=>by
 obtain⟨h1,h2,h3,h4⟩:=t a b c (hp▸e);exact⟨h1,ho _ h2,ho _ h3,ho _ h4⟩⟩
theorem zM.re {F F':Fr}{H H':Hp}(t:zM F H)(t':zM F' H')(hp:F'.tp=F.tp):zM F H':=⟨t'.tab,t.ot,fun a b c e=>⟨(t' a b c (hp▸e)).1,(t a b c e).2⟩⟩
theorem zM.upd {F:Fr}{H:Hp}{l:Addr}{o:HO}(t:zM F H)(h:∀a b c,F.tp=some (a,b,c)->l≠a/\l≠b/\l≠c)(hp:Plain H l):zM F (upd H l o):=⟨zt2 t.tab hp,t.ot,fun a b c e=>⟨zg7 (t a b c e).1 (h a b c e),(t a b c e).2⟩⟩
theorem zM.updO {F:Fr}{H:Hp}{l:Addr}{o:HO}(t:zM F H)(h:¬F.O0 l)(hp:Plain H l):zM F (L2.upd H l o):=t.upd (fun a b c e=>⟨fun z=>h (by rw[z];exact (t a b c e).2.1),fun z=>h (by rw[z];exact (t a b c e).2.2.1),fun z=>h (by rw[z];exact (t a b c e).2.2.2)⟩) hp
def foot (s:Option V):A->Addr->Prop
 |.ow _,x=>s=some (.ref x)
 |.deep _ S,x=>S x
 |_,_=>False
def Ow (F:Fr)(α:Ev)(σ:St)(x:Addr):Prop:=F.O0 x\/∃(i:Nat) (a:A) (s:Option V),α[i]?=some (some a)/\σ[i]?=some s/\foot s a x
noncomputable abbrev Gz (F:Fr)(α:Ev)(σ:St)(H:Hp):Hp:=sub (fun x=>¬Ow F α σ x) H
noncomputable def lu (S:Addr->Prop)(G H:Hp):Hp:=fun x=>open Classical in if S x then H x else match G x with
 |some (.lst _)=>none
 |o=>o
theorem og {S:Addr->Prop}{G G' H H':Hp}(h:zz G G')(hS:∀x o,S x->H x=some o->H' x=some o):zz (lu S G H) (lu S G' H'):=fun x o e=>by
 unfold lu at e ⊢;by_cases z:S x
 ·rw[if_pos z] at e ⊢;exact hS x o z e
 ·rw[if_neg z] at e ⊢;cases q:G x with
  |none=>rw[q] at e;cases e
  |some u=>
   rw[h _ _ q];rw[q] at e;exact e
theorem za4 {S:Addr->Prop}{G H:Hp}{x:Addr}{o:HO}(h:lu S G H x=some o):(S x/\H x=some o)\/(¬S x/\G x=some o):=by
 unfold lu at h;by_cases z:S x
 ·rw[if_pos z] at h;exact .inl ⟨z,h⟩
 ·rw[if_neg z] at h;split at h
  ·cases h
  ·exact .inr ⟨z,h⟩
inductive yZ (G:Hp):HO->PyData->Prop where
 |lst {xs:List V} {ds:List PyData}:AVs G xs ds->yZ G (.lst xs) (.list ds)
 |dk {kvs:List (Key×V)} {ds:List (PyData×PyData)}:AVk G kvs ds->yZ G (.dK kvs) (xB ds)
theorem yZ.ob {G:Hp}{o:HO}{c:PyData}(h:yZ G o c):Ob o:=by cases h<;>trivial
theorem yZ.same {G G':Hp}{o:HO}{c:PyData}(h:yZ G o c)(s:zz G G'):yZ G' o c:=by
 cases h with
 |lst h=>exact .lst (h.same s)
 |dk h=>exact .dk (h.same s)
theorem yZ.av {G:Hp}{o:HO}{ds:List PyData}{l:Addr}(h:yZ G o (.list ds))(e:G l=some o):AV G (.ref l) (.list ds):=by
 cases h with
 |lst h=>exact .lst e h
theorem yZ.lst_inv {G:Hp}{o:HO}{ds:List PyData}(h:yZ G o (.list ds)):∃xs,o=.lst xs/\AVs G xs ds:=by cases h;exact⟨_,rfl,by assumption⟩
theorem yZ.dk_inv {G:Hp}{o:HO}{ds:List (PyData×PyData)}(h:yZ G o (xB ds)):∃xs,o=.dK xs/\AVk G xs ds:=by cases h;exact⟨_,rfl,by assumption⟩
theorem yZ.plain {G H:Hp}{o:HO}{c:PyData}{l:Addr}(h:yZ G o c)(e:H l=some o):Plain H l:=by
 cases h with
 |lst h=>exact oS e
 |dk h=>exact ph e
structure Lnk (r F:Fr)(H:Hp):Prop where
 tp:r.tp=F.tp
 o:∀x,r.O0 x->F.O0 x
 ok:zM r H
 k:Kz r r.H0 H
def uI (G:Hp)(F:Fr)(H:Hp)(s:Option V):A->Prop
 |.dat d=>∃v,s=some v/\AV G v d
 |.ow c=>∃l o,s=some (.ref l)/\H l=some o/\yZ G o c/\¬F.O0 l/\F.H0 l=none
 |.deep d S=>∃v,s=some v/\AV (lu S G H) v d/\∀x,S x->¬F.O0 x/\F.H0 x=none/\∃xs,H x=some (.lst xs)
 |.tape=>∃t b c,F.tp=some (t,b,c)/\s=some (.ref t)
 |.at l=>s=some (.ref l)
 |.exc r _=>Lnk r F H
 |.pin l vs ds=>s=some (.ref l)/\G l=some (.lst vs)/\AVs G vs ds
structure M (F:Fr)(α:Ev)(σ:St)(H:Hp):Prop where
 len:α.length=σ.length
 ok:∀(i:Nat) (a:A) (s:Option V),α[i]?=some (some a)->σ[i]?=some s->uI (Gz F α σ H) F H s a
 dj:∀(i j:Nat) (a b:A) (s t:Option V) (x:Addr),α[i]?=some (some a)->α[j]?=some (some b)->σ[i]?=some s->σ[j]?=some t->foot s a x->foot t b x->i=j
 xd:∀(i:Nat) (r:Fr) (q:PyData->Prop),α[i]?=some (some (.exc r q))->∀(j:Nat) (a:A) (s:Option V) (x:Addr),α[j]?=some (some a)->σ[j]?=some s->foot s a x->r.H0 x=none
 tp:zM F H
 keep:Kz F F.H0 H
 oex:∀x,F.O0 x->∃o,H x=some o/\vE o
theorem M.at' {F:Fr}{α:Ev}{σ:St}{H:Hp}(m:M F α σ H){i:Nat}{a:Option A}(e:α[i]?=some a):∃s,σ[i]?=some s:=by
 have:i<σ.length:=by rw[<-m.len];exact (zY0.mp e).1
 exact⟨_,zX7 this⟩
theorem nM {G:Hp}{F:Fr}{H:Hp}{s:Option V}{a:A}{x:Addr}(h:uI G F H s a)(f:foot s a x):¬F.O0 x/\F.H0 x=none/\∃o,H x=some o/\Ob o:=by
 cases a with
 |ow c=>
  obtain⟨l,o,h1,h2,h3,h4,h5⟩:=h;have f':s=some (.ref x):=f;rw[f'] at h1;cases h1;exact⟨h4,h5,o,h2,h3.ob⟩
 |deep d S=>
  obtain⟨v,h1,h2,h3⟩:=h;obtain⟨z1,z2,xs,z3⟩:=h3 x f;exact⟨z1,z2,_,z3,trivial⟩
 |dat d=>exact f.elim
 |tape=>exact f.elim
 |«at» l=>exact f.elim
 |exc r q=>exact f.elim
 |pin l vs ds=>exact f.elim
theorem Lnk.kz {r F:Fr}{H H':Hp}(l:Lnk r F H)(k:Kz F H H')(t:zM F H'):Lnk r F H':=⟨l.tp,l.o,l.ok.re t l.tp.symm,fun x o e n=>k x o (l.k x o e n) ⟨fun a b c z=>n.1 a b c (l.tp.trans z),n.2⟩⟩
theorem Lnk.none {r F:Fr}{H:Hp}(l:Lnk r F H){x:Addr}(h:H x=Option.none):r.H0 x=Option.none:=by
 cases q:r.H0 x with
 |none=>rfl
 |some o=>rw[l.k x o q ⟨fun a b c e=>⟨((l.ok a b c e).1.free h).1,((l.ok a b c e).1.free h).2.1⟩,lh l.ok.tab h⟩] at h;cases h
def noX :A->Prop
 |.exc _ _=>False
 |_=>True
theorem uI.stay {G G':Hp}{F F':Fr}{H H':Hp}{s:Option V}{a:A}(h:uI G F H s a)(g:zz G G')(hf:∀x o,foot s a x->H x=some o->H' x=some o/\¬F'.O0 x/\F'.H0 x=none)(hp:F'.tp=F.tp)(hl:∀r q,a=.exc r q->Lnk r F H->Lnk r F' H'):uI G' F' H' s a:=by
 cases a with
 |dat d=>obtain⟨v,h1,h2⟩:=h;exact⟨v,h1,h2.same g⟩
 |ow c=>
  obtain⟨l,o,h1,h2,h3,h4,h5⟩:=h;obtain⟨z1,z2,z3⟩:=hf l o h1 h2;exact⟨l,o,h1,z1,h3.same g,z2,z3⟩
 |deep d S=>
  obtain⟨v,h1,h2,h3⟩:=h;refine⟨v,h1,h2.same (og g fun x o z e=>(hf x o z e).1),fun x z=>?_⟩;obtain⟨_,_,xs,e⟩:=h3 x z;obtain⟨z1,z2,z3⟩:=hf x _ z e;exact⟨z2,z3,xs,z1⟩
 |tape=>obtain⟨t,b,c,e,z⟩:=h;exact⟨t,b,c,hp.trans e,z⟩
 |«at» l=>exact h
 |exc r q=>exact hl r q rfl h
 |pin l vs ds=>exact⟨h.1,g _ _ h.2.1,h.2.2.same g⟩
section
variable {F:Fr}{α:Ev}{σ:St}{H H' H'':Hp}
theorem M.dat (m:M F α σ H)(i:Nat)(d:PyData)(e:α[i]?=some (some (.dat d))):∃v,σ[i]?=some (some v)/\AV (Gz F α σ H) v d:=by
 obtain⟨s,hs⟩:=m.at' e;obtain⟨v,rfl,h⟩:=m.ok i _ s e hs;exact⟨v,hs,h⟩
theorem M.owc (m:M F α σ H)(i:Nat)(c:PyData)(e:α[i]?=some (some (.ow c))):∃l o,σ[i]?=some (some (.ref l))/\H l=some o/\yZ (Gz F α σ H) o c/\¬F.O0 l/\F.H0 l=none:=by
 obtain⟨s,hs⟩:=m.at' e;obtain⟨l,o,rfl,h⟩:=m.ok i _ s e hs;exact⟨l,o,hs,h⟩
theorem M.own (m:M F α σ H)(i:Nat)(ds:List PyData)(e:α[i]?=some (some (.own ds))):∃l xs,σ[i]?=some (some (.ref l))/\H l=some (.lst xs)/\AVs (Gz F α σ H) xs ds/\¬F.O0 l/\F.H0 l=none:=by
 obtain⟨l,o,h1,h2,h3,h4⟩:=m.owc i _ e;obtain⟨xs,rfl,h5⟩:=h3.lst_inv;exact⟨l,xs,h1,h2,h5,h4⟩
theorem M.dic (m:M F α σ H)(i:Nat)(ds:List (PyData×PyData))(e:α[i]?=some (some (.dic ds))):∃l xs,σ[i]?=some (some (.ref l))/\H l=some (.dK xs)/\AVk (Gz F α σ H) xs ds/\¬F.O0 l/\F.H0 l=none:=by
 obtain⟨l,o,h1,h2,h3,h4⟩:=m.owc i _ e;obtain⟨xs,rfl,h5⟩:=h3.dk_inv;exact⟨l,xs,h1,h2,h5,h4⟩
theorem M.tvar (m:M F α σ H)(i:Nat)(e:α[i]?=some (some .tape)):∃t b c,F.tp=some (t,b,c)/\σ[i]?=some (some (.ref t)):=by
 obtain⟨s,hs⟩:=m.at' e;obtain⟨t,b,c,h,rfl⟩:=m.ok i _ s e hs;exact⟨t,b,c,h,hs⟩
theorem M.lnk (m:M F α σ H){i:Nat}{r:Fr}{q:PyData->Prop}(e:α[i]?=some (some (.exc r q))):Lnk r F H:=by
 obtain⟨s,hs⟩:=m.at' e;exact m.ok i _ s e hs
theorem Kz.refl :Kz F H H:=fun _ _ e _=>e
theorem Kz.trans (h:Kz F H H')(k:Kz F H' H''):Kz F H H'':=fun x o e n=>k x o (h x o e n) n
theorem Kz.of_same (h:zz H H'):Kz F H H':=fun x o e _=>h x o e
theorem zM.same (t:zM F H)(h:zz H H'):zM F H':=⟨ze3 t.tab h,t.ot,fun a b c e=>⟨de (t a b c e).1 h,(t a b c e).2⟩⟩
theorem zM.nt (t:zM F H){x:Addr}(h:¬F.O0 x):NT F x:=⟨fun a b c e=>⟨fun z=>h (z▸(t a b c e).2.1),fun z=>h (z▸(t a b c e).2.2.1)⟩,fun z=>h (t.ot x z)⟩
theorem ow0 {x:Addr}(h:¬Ow F α σ x):¬F.O0 x:=fun z=>h (.inl z)
theorem Kz.gz (k:Kz F H H')(t:zM F H):zz (Gz F α σ H) (Gz F α σ H'):=zx fun a o h e=>⟨h,k a o e (t.nt (ow0 h))⟩
theorem M.oex' (t:zM F H')(k:Kz F H H')(h:∀x,F.O0 x->∃o,H x=some o/\vE o):∀x,F.O0 x->∃o,H' x=some o/\vE o:=fun x hx=>by
 by_cases n:NT F x
 ·obtain⟨o,ho,hn⟩:=h x hx;exact⟨o,k _ _ ho n,hn⟩
 ·by_cases z:rR x
  ·obtain⟨o,ho,hn,_⟩:=mG t.tab z;exact⟨o,ho,hn⟩
  ·have:∃a b c,F.tp=some (a,b,c)/\¬(x≠a/\x≠b):=by
    refine Classical.byContradiction fun q=>n ⟨fun a b c e=>?_,z⟩;exact Classical.byContradiction fun w=>q ⟨a,b,c,e,w⟩
   obtain⟨a,b,c,e,w⟩:=this;obtain⟨n,bs,cs,_,e1,e2,e3,_⟩:=(t a b c e).1.ex;by_cases xa:x=a
   ·exact⟨_,xa▸e1,xt⟩
   ·by_cases xb:x=b
    ·exact⟨_,xb▸e2,xt⟩
    ·exact absurd ⟨xa,xb⟩ w
theorem M.kz (m:M F α σ H)(k:Kz F H H')(t:zM F H'):M F α σ H' where
 len:=m.len
 ok:=fun i a s e1 e2=>(m.ok i a s e1 e2).stay (k.gz m.tp) (fun x o hf e=>by
  obtain⟨h1,h2,_⟩:=nM (m.ok i a s e1 e2) hf;exact⟨k x o e (m.tp.nt h1),h1,h2⟩) rfl fun r _ _ l=>l.kz k t
 dj:=m.dj
 xd:=m.xd
 tp:=t
 keep:=m.keep.trans k
 oex:=M.oex' t k m.oex
theorem M.ft (m:M F α σ H){i:Nat}{a:A}{s:Option V}{x:Addr}(e1:α[i]?=some (some a))(e2:σ[i]?=some s)(f:foot s a x):¬F.O0 x/\F.H0 x=none/\∃o,H x=some o/\Ob o:=nM (m.ok i a s e1 e2) f
theorem M.owEx (m:M F α σ H){x:Addr}(h:Ow F α σ x):∃o,H x=some o/\vE o:=by
 rcases h with z|⟨i,a,s,e1,e2,f⟩
 ·exact m.oex x z
 ·obtain⟨_,_,o,ho,hb⟩:=m.ft e1 e2 f;exact⟨o,ho,hb.notup⟩
theorem M.fresh (m:M F α σ H){l:Addr}(h:H l=none):¬Ow F α σ l:=fun z=>by
 obtain⟨o,ho,_⟩:=m.owEx z;rw[h] at ho;cases ho
theorem M.fresh0 (m:M F α σ H){l:Addr}(h:H l=none):F.H0 l=none:=by
 cases q:F.H0 l with
 |none=>rfl
 |some o=>rw[m.keep l o q (m.tp.nt fun z=>m.fresh h (.inl z))] at h;cases h
theorem M.old (m:M F α σ H):zz (sub (fun x=>¬F.O0 x) F.H0) (Gz F α σ H):=fun a o e=>by
 obtain⟨h1,h2⟩:=zh e;refine zH ?_ (m.keep a o h2 (m.tp.nt h1));rintro (z|⟨i,b,s,e1,e2,f⟩)
 ·exact h1 z
 ·obtain⟨_,z,_⟩:=m.ft e1 e2 f;rw[h2] at z;cases z
noncomputable def Fr.up (F:Fr)(G:Hp):Fr:={F with H0:=fun x=>(F.H0 x).or (G x)}
theorem nQ {G:Hp}{x:Addr}{o:HO}(h:F.H0 x=some o):(F.up G).H0 x=some o:=by show (F.H0 x).or (G x)=some o;rw[h];rfl
theorem eo {G:Hp}{x:Addr}(h:(F.up G).H0 x=none):F.H0 x=none:=by
 cases q:F.H0 x with
 |none=>rfl
 |some o=>rw[nQ q] at h;cases h
theorem M.up (m:M F α σ H):M (F.up (Gz F α σ H)) α σ H where
 len:=m.len
 ok:=fun i a s e1 e2=>(m.ok i a s e1 e2).stay (fun _ _ e=>e) (fun x o hf e=>by
  obtain⟨h1,h2,_⟩:=m.ft e1 e2 hf;refine⟨e,h1,?_⟩;show (F.H0 x).or (Gz F α σ H x)=none;rw[h2];show Gz F α σ H x=none;cases q:Gz F α σ H x with
  |none=>rfl
  |some o=>exact absurd (.inr ⟨i,a,s,e1,e2,hf⟩) (zh q).1) rfl fun r _ _ l=>⟨l.tp,l.o,l.ok,l.k⟩
 dj:=m.dj
 xd:=m.xd
 tp:=m.tp.to rfl fun _ z=>z
 keep:=fun x o e n=>by
  have e':(F.H0 x).or (Gz F α σ H x)=some o:=e;cases q:F.H0 x with
  |none=>rw[q,Option.none_or] at e';exact (zh e').2
  |some o'=>rw[q] at e';cases e';exact m.keep x _ q n
 oex:=m.oex
theorem M.down {G:Hp}(m:M (F.up G) α σ H):M F α σ H where
 len:=m.len
 ok:=fun i a s e1 e2=>(m.ok i a s e1 e2).stay (fun _ _ e=>e) (fun x o hf e=>by
  obtain⟨h1,h2,_⟩:=m.ft e1 e2 hf;exact⟨e,h1,eo h2⟩) rfl fun r _ _ l=>⟨l.tp,l.o,l.ok,l.k⟩
 dj:=m.dj
 xd:=m.xd
 tp:=m.tp.to rfl fun _ z=>z
 keep:=fun x o e n=>m.keep x o (nQ e) n
 oex:=m.oex
theorem M.upold {α0:Ev}{σ0:St}{H1:Hp}(m0:M F α0 σ0 H1)(m:M (F.up (Gz F α0 σ0 H1)) α σ H):zz (Gz F α0 σ0 H1) (Gz F α σ H):=fun a o e=>by
 obtain⟨h1,h2⟩:=zh e;have e0:(F.up (Gz F α0 σ0 H1)).H0 a=some o:=by
  show (F.H0 a).or (Gz F α0 σ0 H1 a)=some o;cases q:F.H0 a with
  |none=>exact e
  |some o'=>
   have:=m0.keep a o' q (m0.tp.nt (ow0 h1));rw[h2] at this;cases this;rfl
 exact m.old a o (zH (p:=fun x=>¬F.O0 x) (ow0 h1) e0)
end
def xu (F:Fr)(α:Ev)(σ:St)(H:Hp)(v:V)(H':Hp)(ds:List PyData):Prop:=
 ∃l xs,v=.ref l/\H l=none/\H' l=some (.lst xs)/\AVs (sub (fun x=>¬Ow F α σ x/\x≠l) H') xs ds
def iF (F:Fr)(α:Ev)(σ:St)(H:Hp)(v:V)(H':Hp)(c:PyData):Prop:=
 ∃l o,v=.ref l/\H l=none/\H' l=some o/\yZ (sub (fun x=>¬Ow F α σ x/\x≠l) H') o c
theorem xu.c {F:Fr}{α:Ev}{σ:St}{H H':Hp}{v:V}{ds:List PyData}(h:xu F α σ H v H' ds):iF F α σ H v H' (.list ds):=by
 obtain⟨l,xs,h1,h2,h3,h4⟩:=h;exact⟨l,_,h1,h2,h3,.lst h4⟩
theorem xu.av {F:Fr}{α:Ev}{σ:St}{H H':Hp}{v:V}{ds:List PyData}(m:M F α σ H)(h:xu F α σ H v H' ds):AV (Gz F α σ H') v (.list ds):=by
 obtain⟨l,xs,rfl,h1,h2,h3⟩:=h;exact .lst (zH (m.fresh h1) h2) (h3.same (zx fun a o h e=>⟨h.1,e⟩))
section
variable (X:Cx)(α:Ev)
def EvD (e:Expr)(Q:PyData->Prop):Prop:=∀(F:Fr) (σ:St) (H:Hp) (R:VK),M F α σ H->(∀d v H',Q d->zM F H'->Kz F H H'->AV (Gz F α σ H') v d->R v H')->tf X e σ H R
def EvL (e:Expr)(Q:List PyData->Prop):Prop:=∀(F:Fr) (σ:St) (H:Hp) (R:VK),M F α σ H->(∀ds v H',Q ds->zM F H'->Kz F H H'->xu F α σ H v H' ds->R v H')->tf X e σ H R
def EvC (e:Expr)(Q:PyData->Prop):Prop:=∀(F:Fr) (σ:St) (H:Hp) (R:VK),M F α σ H->(∀c v H',Q c->zM F H'->Kz F H H'->iF F α σ H v H' c->R v H')->tf X e σ H R
def EvT (e:Expr)(Q:Bool->Prop):Prop:=∀(F:Fr) (σ:St) (H:Hp) (R:Bool->Hp->Prop),M F α σ H->(∀b H',Q b->zM F H'->Kz F H H'->R b H')->zT3 X e σ H R
def cK (F:Fr)(G:Hp)(v:V):A->Prop
 |.dat d=>AV G v d
 |.tape=>∃t b c,F.tp=some (t,b,c)/\v=.ref t
 |_=>False
inductive yA (F:Fr)(G:Hp):List V->List A->Prop where
 |nil:yA F G [] []
 |cons {v:V} {vs:List V} {a:A} {as:List A}:cK F G v a->yA F G vs as->yA F G (v::vs) (a::as)
def EvA (es:List Expr)(Q:List A->Prop):Prop:=∀(F:Fr) (σ:St) (H:Hp) (R:List V->Hp->Prop),M F α σ H->(∀as vs H',Q as->zM F H'->Kz F H H'->yA F (Gz F α σ H') vs as->R vs H')->zG2 X es σ H R
end
theorem cK.to {F F':Fr}{G G':Hp}(s:zz G G')(hp:F'.tp=F.tp){v:V}:∀{a:A},cK F G v a->cK F' G' v a
 |.dat _,h=>AV.same s h
 |.tape,⟨t,b,c,e,z⟩=>⟨t,b,c,hp.trans e,z⟩
 |.ow _,h=>h
 |.deep _ _,h=>h
 |.at _,h=>h
 |.exc _ _,h=>h
 |.pin _ _ _,h=>h
theorem yA.to {F F':Fr}{G G':Hp}(s:zz G G')(hp:F'.tp=F.tp):∀{vs:List V} {as:List A},yA F G vs as->yA F' G' vs as
 |_,_,.nil=>.nil
 |_,_,.cons h r=>.cons (h.to s hp) (yA.to s hp r)
theorem yA.length {F:Fr}{G:Hp}:∀{vs:List V} {as:List A},yA F G vs as->vs.length=as.length
 |_,_,.nil=>rfl
 |_,_,.cons _ r=>by rw[zY9,zY9,yA.length r]
noncomputable def A.d :A->PyData
 |.dat d=>d
 |.ow c=>c
 |.deep d _=>d
 |_=>.none
def zr8 (F:Fr)(v:V)(H':Hp):A->Prop
 |.dat d=>AV (sub (fun x=>¬F.O0 x) H') v d
 |.ow c=>∃l xs ds,v=.ref l/\c=.list ds/\F.H0 l=none/\¬F.O0 l/\H' l=some (.lst xs)/\AVs (sub (fun x=>¬F.O0 x/\x≠l) H') xs ds
 |.deep d S=>AV (lu S (sub (fun x=>¬F.O0 x) H') H') v d/\∀x,S x->¬F.O0 x/\F.H0 x=none/\∃xs,H' x=some (.lst xs)
 |_=>False
def sY (F:Fr)(v:V)(H':Hp)(a:A):Prop:=zM F H'/\Kz F F.H0 H'/\zr8 F v H' a
def spA (φ:List A->(A->Prop)->Prop):Sp:=fun vs H Qc _=>∃(F:Fr) (as:List A) (Q:A->Prop),F.H0=H/\zM F H/\(∀x,F.O0 x->∃o,H x=some o/\vE o)/\yA F (sub (fun x=>¬F.O0 x) H) vs as/\φ as Q/\∀a v H',Q a->sY F v H' a->Qc v H'
theorem zr8.to {F F':Fr}{v:V}{H':Hp}{a:A}(r:zr8 F v H' a)(ho:∀x,F'.O0 x->F.O0 x)(h0:∀x,F.H0 x=none->F'.H0 x=none):zr8 F' v H' a:=by
 have s:zz (sub (fun x=>¬F.O0 x) H') (sub (fun x=>¬F'.O0 x) H'):=zx fun a o h e=>⟨fun z=>h (ho _ z),e⟩;cases a with
 |dat d=>exact AV.same s r
 |ow c=>
  obtain⟨l,xs,ds,h1,hc,h2,h3,h4,h5⟩:=r;exact⟨l,xs,ds,h1,hc,h0 _ h2,fun z=>h3 (ho _ z),h4,h5.same (zx fun a o h e=>⟨⟨fun z=>h.1 (ho _ z),h.2⟩,e⟩)⟩
 |deep d S=>
  obtain⟨h1,h2⟩:=r;refine⟨h1.same (og s fun _ _ _ e=>e),fun x z=>?_⟩;obtain⟨z1,z2,z3⟩:=h2 x z;exact⟨fun w=>z1 (ho _ w),h0 _ z2,z3⟩
 |tape=>exact r
 |«at» _=>exact r
 |exc _ _=>exact r
 |pin _ _ _=>exact r
structure xi where
 nx:Ev->Prop
 rt:A->Prop
 bk:Ev->Prop:=fun _=>False
 ct:Ev->Prop:=fun _=>False
structure kL (F:Fr)(E:xi)(D:Ends):Prop where
 nx:∀α σ H,M F α σ H->E.nx α->D.nx σ H
 rt:∀a v H,sY F v H a->E.rt a->D.rt v H
 bk:∀α σ H,M F α σ H->E.bk α->D.bk σ H
 ct:∀α σ H,M F α σ H->E.ct α->D.ct σ H
def SvS (X:Cx)(α:Ev)(sts:List Stmt)(E:xi):Prop:=∀(F:Fr) (σ:St) (H:Hp) (D:Ends),M F α σ H->kL F E D->zs6 X sts D σ H
theorem kL.up {F:Fr}{G:Hp}{E:xi}{D:Ends}(e:kL F E D):kL (F.up G) E D where
 nx:=fun α σ H m q=>e.nx α σ H m.down q
 bk:=fun α σ H m q=>e.bk α σ H m.down q
 ct:=fun α σ H m q=>e.ct α σ H m.down q
 rt:=fun a v H r q=>e.rt a v H (by
  obtain⟨t,k,r⟩:=r;exact⟨t.to rfl fun _ z=>z,fun x o e n=>k x o (nQ e) n,r.to (fun _ z=>z) fun x z=>eo z⟩) q
section
variable {X:Cx}{α:Ev}{e a b c:Expr}{es:List Expr}{pos p q:Pos}{Q:PyData->Prop}
theorem EvL.d (h:EvL X α e (fun ds=>Q (.list ds))):EvD X α e Q:=fun F σ H R m k=>h F σ H R m fun ds v H' q t z f=>k _ v H' q t z (f.av m)
theorem EvD.imp {Q':PyData->Prop}(h:EvD X α e Q')(k:∀d,Q' d->Q d):EvD X α e Q:=fun F σ H R m r=>h F σ H R m fun d v H' q=>r d v H' (k d q)
theorem zi (i:Nat){x:Str}{d:PyData}(hi:α[i]?=some (some (.dat d)))(q:Q d)(hN:X.N[i]?=some x:=by rfl)(hv:Vis X.env.scope x:=by first|exact Or.inl rfl|exact Or.inr (Or.inl rfl)|exact Or.inr (Or.inr rfl))
  (hd:(x == ("__debug__":Str))=false:=by decide) (hcd:(x == ("__classdict__":Str))=false:=by decide):EvD X α (.Name x pos) Q:=fun F σ H R m k=>by
 obtain⟨v,h1,h2⟩:=m.dat i d hi;exact⟨_,xK hN hv hd hcd,v,h1,k d v H q m.tp Kz.refl h2⟩
theorem yt {i:Int}{j:Nat}(q:Q (.int i)):EvD X α (.Constant (.int i) j pos) Q:=fun F σ H R m k=>⟨_,zr,k _ _ H q m.tp Kz.refl (.int i)⟩
theorem zB1 {i:Bool}{j:Nat}(q:Q (.bool i)):EvD X α (.Constant (.bool i) j pos) Q:=fun F σ H R m k=>⟨_,zO0,k _ _ H q m.tp Kz.refl (.bl i)⟩
theorem nq {j:Nat}(q:Q .none):EvD X α (.Constant .none j pos) Q:=fun F σ H R m k=>⟨_,pe,k _ _ H q m.tp Kz.refl .non⟩
theorem yh {x:Str}{j:Nat}(q:Q (.str x)):EvD X α (.Constant (.str x) j pos) Q:=fun F σ H R m k=>⟨_,yx,k _ _ H q m.tp Kz.refl (.str x)⟩
theorem aW {x:Str}{i:Int}(hg:Gl X x)(hm:∃t,X.mg x=some (.int i t))(q:Q (.int i))(hd:(x == ("__debug__":Str))=false:=by decide):EvD X α (.Name x pos) Q:=fun F σ H R m k=>by
 obtain⟨t,hm⟩:=hm;exact⟨_,tS hg hm (show RelV (.int i) (.int i t) from ⟨t,rfl⟩) hd,k _ _ H q m.tp Kz.refl (.int i)⟩
theorem sA {f:TE->TE->TE}(hf:PE X e (f (tf X a) (tf X b)))(hr:∀σ H R,f (tf X a) (tf X b) σ H R↔tf X a σ H (fun x H1=>tf X b σ H1 fun y H2=>f (tC x) (tC y) σ H2 R))
  (h:EvD X α a fun x=>EvD X α b fun y=>∀(F:Fr) (σ:St) (H:Hp) (vx vy:V) (R:VK),M F α σ H->AV (Gz F α σ H) vx x->AV (Gz F α σ H) vy y->(∀d v H',Q d->zM F H'->Kz F H H'->AV (Gz F α σ H') v d->R v H')->f (tC vx) (tC vy) σ H R):
  EvD X α e Q:=fun F σ H R m k=>by
 refine⟨_,hf,(hr σ H R).mpr ?_⟩;refine h F σ H _ m fun x vx H1 q1 t1 k1 r1=>?_;have m1:=m.kz k1 t1;refine q1 F σ H1 _ m1 fun y vy H2 q2 t2 k2 r2=>?_;exact q2 F σ H2 vx vy R (m1.kz k2 t2) (r1.same (k2.gz m1.tp)) r2 fun d v H' qd t3 k3 r3=>k d v H' qd t3 ((k1.trans k2).trans k3) r3
theorem AV.int_inv {H:Hp}{v:V}{i:Int}(h:AV H v (.int i)):v=.int i:=by cases h;rfl
theorem AV.bl_inv {H:Hp}{v:V}{i:Bool}(h:AV H v (.bool i)):v=.bl i:=by cases h;rfl
theorem AV.str_inv {H:Hp}{v:V}{i:Str}(h:AV H v (.str i)):v=.str i:=by cases h;rfl
theorem AV.tup_inv {H:Hp}{v:V}{ds:List PyData}(h:AV H v (.tuple ds)):∃a xs,v=.ref a/\H a=some (.tup xs)/\AVs H xs ds:=by cases h;exact⟨_,_,rfl,by assumption,by assumption⟩
theorem AV.lst_inv {H:Hp}{v:V}{ds:List PyData}(h:AV H v (.list ds)):∃a xs,v=.ref a/\H a=some (.lst xs)/\AVs H xs ds:=by cases h;exact⟨_,_,rfl,by assumption,by assumption⟩
theorem AV.non_inv {H:Hp}{v:V}(h:AV H v .none):v=.non:=by cases h;rfl
theorem AV.isnon {H:Hp}{v:V}{d:PyData}(h:AV H v d):decide (v=.non)=(match d with|.none=>true|_=>false):=by cases h<;>simp
theorem zE6 {op:Operator}{C:Int->Int->Prop}{g:Int->Int->V}{gd:Int->Int->PyData}(ho:OpR X (binaryOp op) (rI C g))(hg:∀H i j,AV H (g i j) (gd i j))
  (h:EvD X α a fun x=>EvD X α b fun y=>∃i j,x=.int i/\y=.int j/\C i j/\Q (gd i j)):EvD X α (.BinOp a op b pos) Q:=by
 refine sA (f:=tOp (rI C g)) (yI ho zk zk) (fun _ _ _=>Iff.rfl) (h.imp fun x h=>h.imp fun y ⟨i,j,e1,e2,hc,hq⟩=>?_);subst e1 e2;intro F σ H vx vy R m rx ry k;cases rx.int_inv;cases ry.int_inv;exact⟨i,j,rfl,rfl,hc,k _ _ H hq m.tp Kz.refl (hg _ i j)⟩
theorem fb {op:Operator}{g:Int->Int->V}{gd:Int->Int->PyData}(ho:OpR X (binaryOp op) (rI0 g))(hg:∀H i j,AV H (g i j) (gd i j))
  (h:EvD X α a fun x=>EvD X α b fun y=>∃i j,x=.int i/\y=.int j/\Q (gd i j)):EvD X α (.BinOp a op b pos) Q:=by
 refine sA (f:=tOp (rI0 g)) (yI ho zk zk) (fun _ _ _=>Iff.rfl) (h.imp fun x h=>h.imp fun y ⟨i,j,e1,e2,hq⟩=>?_);subst e1 e2;intro F σ H vx vy R m rx ry k;cases rx.int_inv;cases ry.int_inv;exact⟨i,j,rfl,rfl,k _ _ H hq m.tp Kz.refl (hg _ i j)⟩
theorem xY (h:EvD X α a fun x=>EvD X α b fun y=>∃i j,x=.int i/\y=.int j/\Q (.int (i+j))):EvD X α (.BinOp a .Add b pos) Q:=fb (gd:=fun i j=>.int (i+j)) sF (fun _ _ _=>.int _) h
theorem ny (h:EvD X α a fun x=>EvD X α b fun y=>∃i j,x=.int i/\y=.int j/\Q (.int (i-j))):EvD X α (.BinOp a .Sub b pos) Q:=fb (gd:=fun i j=>.int (i-j)) bV (fun _ _ _=>.int _) h
theorem zF2 (h:EvD X α a fun x=>EvD X α b fun y=>∃i j,x=.int i/\y=.int j/\zH5 i j/\Q (.int (i ^ j.toNat))):EvD X α (.BinOp a .Pow b pos) Q:=zE6 (gd:=fun i j=>.int (i ^ j.toNat)) aC (fun _ _ _=>.int _) h
theorem zl6 {i j r:Int}{p1 p2:Pos}{n1 n2:Nat}(hc:zH5 i j)(hr:i ^ j.toNat=r)(q:Q (.int r)):EvD X α (.BinOp (.Constant (.int i) n1 p1) .Pow (.Constant (.int j) n2 p2) pos) Q:=
 zF2 (yt (yt ⟨i,j,rfl,rfl,hc,hr▸q⟩))
theorem zL0 (h:EvD X α a fun x=>∃i,x=.int i/\Q (.int (-i))):EvD X α (.UnaryOp .USub a pos) Q:=fun F σ H R m k=>by
 refine⟨_,zz6 ah zk,?_⟩;refine h F σ H _ m fun x vx H1 q1 t1 k1 r1=>?_;obtain⟨i,rfl,q⟩:=q1;cases r1.int_inv;exact⟨i,rfl,k _ _ H1 q t1 k1 (.int _)⟩
theorem gD {op:CmpOp}{g:Int->Int->Bool}(ho:OpR X (compareOp op) (rI0 fun i j=>.bl (g i j)))(hm:behindInMarks op b=false)
  (h:EvD X α a fun x=>EvD X α b fun y=>∃i j,x=.int i/\y=.int j/\Q (.bool (g i j))):EvD X α (.Compare a [op] [b] pos) Q:=by
 refine sA (f:=tOp (rI0 fun i j=>.bl (g i j))) (xQ ho zk zk hm) (fun _ _ _=>Iff.rfl) (h.imp fun x h=>h.imp fun y ⟨i,j,e1,e2,hq⟩=>?_);subst e1 e2;intro F σ H vx vy R m rx ry k;cases rx.int_inv;cases ry.int_inv;exact⟨i,j,rfl,rfl,k _ _ H hq m.tp Kz.refl (.bl _)⟩
theorem zy8 (h:EvD X α a fun x=>EvD X α b fun y=>∃i j,x=.int i/\y=.int j/\Q (.bool (decide (i<j)))):EvD X α (.Compare a [.Lt] [b] pos) Q:=gD gZ (zE _) h
theorem zN0 (h:EvD X α a fun x=>EvD X α b fun y=>∃i j,x=.int i/\y=.int j/\Q (.bool (decide (j<=i)))):EvD X α (.Compare a [.GtE] [b] pos) Q:=gD ar (zE _) h
noncomputable def wA :PyData->Bool
 |.none=>true
 |_=>false
theorem AV.non_iff {H:Hp}{v:V}{d:PyData}(h:AV H v d):decide (v=.non)=wA d:=by cases h<;>simp[wA]
theorem zE1 {j:Nat}(h:EvD X α a fun x=>Q (.bool (wA x))):EvD X α (.Compare a [.Is] [.Constant .none j p] pos) Q:=fun F σ H R m k=>by
 refine⟨_,xQ mz zk pe (zE _),?_⟩;refine h F σ H _ m fun x vx H1 q1 t1 k1 r1=>⟨rfl,?_⟩;rw[r1.non_iff];exact k _ _ H1 q1 t1 k1 (.bl _)
theorem zf5 {op op':CmpOp}{g g':Int->Int->Bool}(ho:OpR X (compareOp op) (rI0 fun i j=>.bl (g i j)))(ho':OpR X (compareOp op') (rI0 fun i j=>.bl (g' i j)))(hm:lastMarks [op,op'] [b,c]=false)
  (h:EvD X α a fun x=>EvD X α b fun y=>∃i j,x=.int i/\y=.int j/\(if g i j=true then EvD X α c fun z=>∃k,z=.int k/\Q (.bool (g' j k)) else Q (.bool false))):EvD X α (.Compare a [op,op'] [b,c] pos) Q:=fun F σ H R m k=>by
 refine⟨_,pH ho ho' zk zk zk hm,?_⟩;refine h F σ H _ m fun x vx H1 q1 t1 k1 r1=>?_;have m1:=m.kz k1 t1;refine q1 F σ H1 _ m1 fun y vy H2 q2 t2 k2 r2=>?_;obtain⟨i,j,e1,e2,hq⟩:=q2;subst e1 e2;cases r1.int_inv;cases r2.int_inv;have m2:=m1.kz k2 t2;refine⟨i,j,rfl,rfl,_,rfl,?_⟩;cases hg:g i j with
 |true=>
  rw[hg] at hq;refine ux ?_;refine (by simpa using hq:EvD X α c _) F σ H2 _ m2 fun z vz H3 q3 t3 k3 r3=>?_;obtain⟨kk,rfl,hq3⟩:=q3;cases r3.int_inv;exact⟨j,kk,rfl,rfl,k _ _ H3 hq3 t3 ((k1.trans k2).trans k3) (.bl _)⟩
 |false=>
  rw[hg] at hq;exact uF (k _ _ H2 (by simpa using hq) t2 (k1.trans k2) (.bl _))
theorem mh {Q:Bool->Prop}(h:EvD X α e fun x=>∃k,x=.bool k/\Q k)(he:∀whole,isTrue e X.env whole=(do let v <-whole;standAt e.pos;holding [v] (truthy v)):=by intro _;rfl):EvT X α e Q:=fun F σ H R m k=>by
 refine⟨_,zb4 zk he,?_⟩;refine h F σ H _ m fun x vx H1 q1 t1 k1 r1=>?_;obtain⟨b,rfl,q⟩:=q1;cases r1.bl_inv;exact⟨b,rfl,k b H1 q t1 k1⟩
def Cmp (r:R2)(x y:PyData)(k:Bool):Prop:=∀(p:Addr->Prop) (H:Hp) (vx vy:V) (R:VK),AV (sub p H) vx x->AV (sub p H) vy y->R (.bl k) H->r vx vy H R
theorem wF {op:CmpOp}{r:R2}{Q:Bool->Prop}(ho:OpR X (compareOp op) r)(hm:behindInMarks op b=false)(h:EvD X α a fun x=>EvD X α b fun y=>∃k,Cmp r x y k/\Q k):EvT X α (.Compare a [op] [b] pos) Q:=fun F σ H R m k=>by
 refine⟨_,yp ho zk zk hm,?_⟩;refine h F σ H _ m fun x vx H1 q1 t1 k1 r1=>?_;have m1:=m.kz k1 t1;refine q1 F σ H1 _ m1 fun y vy H2 q2 t2 k2 r2=>?_;obtain⟨b,hc,q⟩:=q2;exact hc _ H2 vx vy _ (r1.same (k2.gz m1.tp)) r2 ⟨b,rfl,k b H2 q t2 (k1.trans k2)⟩
theorem zo4 {g:Int->Int->Bool}{i j:Int}:Cmp (rI0 fun i j=>.bl (g i j)) (.int i) (.int j) (g i j):=fun p H vx vy R rx ry h=>by
 cases rx.int_inv;cases ry.int_inv;exact⟨i,j,rfl,rfl,h⟩
theorem mK {op:CmpOp}{g:Int->Int->Bool}{Q:Bool->Prop}(ho:OpR X (compareOp op) (rI0 fun i j=>.bl (g i j)))(hm:behindInMarks op b=false)
  (h:EvD X α a fun x=>EvD X α b fun y=>∃i j,x=.int i/\y=.int j/\Q (g i j)):EvT X α (.Compare a [op] [b] pos) Q:=
 wF ho hm (h.imp fun x h=>h.imp fun y ⟨i,j,e1,e2,q⟩=>⟨_,by subst e1 e2;exact zo4,q⟩)
theorem zA3 {Q:Bool->Prop}(h:EvD X α a fun x=>EvD X α b fun y=>∃i j,x=.int i/\y=.int j/\Q (decide (i<j))):EvT X α (.Compare a [.Lt] [b] pos) Q:=mK gZ (zE _) h
theorem aK {Q:Bool->Prop}(h:EvD X α a fun x=>EvD X α b fun y=>∃i j,x=.int i/\y=.int j/\Q (decide (j<i))):EvT X α (.Compare a [.Gt] [b] pos) Q:=mK fG (zE _) h
theorem zQ9 {Q:Bool->Prop}(h:EvD X α a fun x=>EvD X α b fun y=>∃i j,x=.int i/\y=.int j/\Q (decide (j<=i))):EvT X α (.Compare a [.GtE] [b] pos) Q:=mK ar (zE _) h
theorem vT {j:Nat}{Q:Bool->Prop}(h:EvD X α a fun x=>Q (wA x)):EvT X α (.Compare a [.Is] [.Constant .none j p] pos) Q:=
 wF mz (zE _) (h.imp fun x h=>nq ⟨_,fun p H vx vy R rx ry z=>⟨ry.non_inv,by rw[rx.non_iff];exact z⟩,h⟩)
theorem zw6 {j:Nat}{Q:Bool->Prop}(h:EvD X α a fun x=>Q (!wA x)):EvT X α (.Compare a [.IsNot] [.Constant .none j p] pos) Q:=
 wF zn5 (zE _) (h.imp fun x h=>nq ⟨_,fun p H vx vy R rx ry z=>⟨ry.non_inv,by rw[rx.non_iff];exact z⟩,h⟩)
noncomputable def zV3 :PyData->Option Bool
 |.none=>some false
 |.bool b=>some b
 |.int i=>some (i != 0)
 |.list ds=>some (!ds.isEmpty)
 |.tuple ds=>some (!ds.isEmpty)
 |_=>none
theorem AVs.isEmpty {H:Hp}{xs:List V}{ds:List PyData}(h:AVs H xs ds):xs.isEmpty=ds.isEmpty:=by cases h<;>rfl
theorem qJ {Q:Bool->Prop}(h:EvD X α e fun x=>∃k,zV3 x=some k/\Q k)(he:∀whole,isTrue e X.env whole=(do let v <-whole;standAt e.pos;holding [v] (truthy v)):=by intro _;rfl):EvT X α e Q:=fun F σ H R m k=>by
 refine⟨_,zb1 zk he,?_⟩;refine h F σ H _ m fun x vx H1 q1 t1 k1 r1=>?_;obtain⟨b,hb,q⟩:=q1;refine⟨b,?_,k b H1 q t1 k1⟩;cases r1 with
 |non=>cases hb;rfl
 |bl z=>cases hb;rfl
 |int i=>cases hb;rfl
 |str s=>cases hb
 |lst h1 h2=>cases hb;exact .inl ⟨_,SqL.of (zh h1).2,by rw[h2.isEmpty]⟩
 |tup h1 h2=>cases hb;exact .inr (.inl ⟨_,SqT.of (zh h1).2,by rw[h2.isEmpty]⟩)
 |ins _ _=>cases hb
 |dk _ _=>cases hb
 |dt _ _=>cases hb
 |xc _ _ _=>cases hb
 |xn _=>cases hb
theorem sL {Q:Bool->Prop}(h:EvT X α a fun k=>Q (!k)):EvT X α (.UnaryOp .Not a pos) Q:=fun F σ H R m k=>by
 refine⟨_,bH xR,?_⟩;exact h F σ H _ m fun b H1 q1 t1 k1=>k _ H1 q1 t1 k1
def EvW (X:Cx)(α:Ev)(e:Expr)(Q:Bool->Prop):Prop:=∀(F:Fr) (σ:St) (H:Hp) (R:Bool->Hp->Prop),M F α σ H->(∀b H',Q b->zM F H'->Kz F H H'->R b H')->∃t,PW X e t/\t σ H R
def zV4 (X:Cx)(e:Expr):TT:=fun σ H Q=>∃t,PW X e t/\t σ H Q
theorem fo :PW X e (zV4 X e):=fun w pins s σ H Q I ⟨t,p,q⟩=>p w pins s σ H Q I q
theorem EvW.t {Q:Bool->Prop}(h:EvW X α e Q):EvT X α e Q:=fun F σ H R m k=>by
 obtain⟨t,p,q⟩:=h F σ H R m k;exact⟨t,p.pt,q⟩
variable {rest:List Expr}
theorem mR {Q:Bool->Prop}(h:EvT X α a Q):EvW X α (.BoolOp .And [a] pos) Q:=fun F σ H R m k=>⟨_,fg xR,h F σ H R m k⟩
theorem zJ2 {Q:Bool->Prop}(h:EvT X α a Q):EvW X α (.BoolOp .Or [a] pos) Q:=fun F σ H R m k=>⟨_,ju xR,h F σ H R m k⟩
theorem aR {Q:Bool->Prop}(h:EvT X α a fun k=>if k=true then EvW X α (.BoolOp .And (b::rest) pos) Q else Q false):EvW X α (.BoolOp .And (a::b::rest) pos) Q:=fun F σ H R m k=>by
 refine⟨_,ze1 xR fo,?_⟩;refine h F σ H _ m fun c H1 q1 t1 k1=>?_;cases c with
 |true=>exact ux ((by simpa using q1:EvW X α _ Q) F σ H1 R (m.kz k1 t1) fun b H2 q2 t2 k2=>k b H2 q2 t2 (k1.trans k2))
 |false=>exact uF (k _ H1 (by simpa using q1) t1 k1)
theorem zR6 {Q:Bool->Prop}(h:EvT X α a fun k=>if k=true then Q true else EvW X α (.BoolOp .Or (b::rest) pos) Q):EvW X α (.BoolOp .Or (a::b::rest) pos) Q:=fun F σ H R m k=>by
 refine⟨_,zj9 xR fo,?_⟩;refine h F σ H _ m fun c H1 q1 t1 k1=>?_;cases c with
 |false=>exact uF ((by simpa using q1:EvW X α _ Q) F σ H1 R (m.kz k1 t1) fun b H2 q2 t2 k2=>k b H2 q2 t2 (k1.trans k2))
 |true=>exact ux (k _ H1 (by simpa using q1) t1 k1)
theorem zm0 {op}(h:EvD X α a Q):EvD X α (.BoolOp op [a] pos) Q:=fun F σ H R m k=>⟨_,wc zk,h F σ H R m k⟩
theorem zK8 (h:EvD X α a fun x=>∃k,x=.bool k/\if k=true then EvD X α (.BoolOp .And (b::rest) pos) Q else Q (.bool false)):EvD X α (.BoolOp .And (a::b::rest) pos) Q:=fun F σ H R m k=>by
 refine⟨_,xr zk zk,?_⟩;refine h F σ H _ m fun x vx H1 q1 t1 k1 r1=>?_;obtain⟨c,rfl,q1⟩:=q1;cases r1.bl_inv;refine⟨c,rfl,?_⟩;cases c with
 |true=>exact ux ((by simpa using q1:EvD X α _ Q) F σ H1 R (m.kz k1 t1) fun d v H2 q2 t2 k2 r2=>k d v H2 q2 t2 (k1.trans k2) r2)
 |false=>exact uF (k _ _ H1 (by simpa using q1) t1 k1 (.bl _))
theorem zO8 (h:EvD X α a fun x=>∃k,x=.bool k/\if k=true then Q (.bool true) else EvD X α (.BoolOp .Or (b::rest) pos) Q):EvD X α (.BoolOp .Or (a::b::rest) pos) Q:=fun F σ H R m k=>by
 refine⟨_,aE zk zk,?_⟩;refine h F σ H _ m fun x vx H1 q1 t1 k1 r1=>?_;obtain⟨c,rfl,q1⟩:=q1;cases r1.bl_inv;refine⟨c,rfl,?_⟩;cases c with
 |false=>exact uF ((by simpa using q1:EvD X α _ Q) F σ H1 R (m.kz k1 t1) fun d v H2 q2 t2 k2 r2=>k d v H2 q2 t2 (k1.trans k2) r2)
 |true=>exact ux (k _ _ H1 (by simpa using q1) t1 k1 (.bl _))
theorem ze6 (h:EvD X α a fun x=>∃k,x=.bool k/\Q (.bool (!k))):EvD X α (.UnaryOp .Not a pos) Q:=fun F σ H R m k=>by
 refine⟨_,zb8 zk,?_⟩;refine h F σ H _ m fun x vx H1 q1 t1 k1 r1=>?_;obtain⟨c,rfl,q⟩:=q1;cases r1.bl_inv;exact⟨c,rfl,k _ _ H1 q t1 k1 (.bl _)⟩
theorem hJ (h:EvT X α c fun k=>if k=true then EvD X α a Q else EvD X α b Q):EvD X α (.IfExp c a b pos) Q:=fun F σ H R m k=>by
 refine⟨_,zn2 xR zk zk,?_⟩;refine h F σ H _ m fun x H1 q1 t1 k1=>?_;cases x with
 |true=>exact ux ((by simpa using q1:EvD X α _ Q) F σ H1 R (m.kz k1 t1) fun d v H2 q2 t2 k2 r2=>k d v H2 q2 t2 (k1.trans k2) r2)
 |false=>exact uF ((by simpa using q1:EvD X α _ Q) F σ H1 R (m.kz k1 t1) fun d v H2 q2 t2 k2 r2=>k d v H2 q2 t2 (k1.trans k2) r2)
theorem gg (hs:rL b)(h:EvD X α a fun x=>EvD X α b fun y=>∃ds i d,x=.list ds/\y=.int i/\atI ds i=some d/\Q d):EvD X α (.Subscript a b pos) Q:=by
 refine sA (f:=tOp (zK6 X.K)) (zW zZ zk zk hs) (fun _ _ _=>Iff.rfl) (h.imp fun x h=>h.imp fun y ⟨ds,i,d,e1,e2,hat,hq⟩=>?_);subst e1 e2;intro F σ H vx vy R m rx ry k;obtain⟨a,xs,rfl,h1,h2⟩:=rx.lst_inv;cases ry.int_inv;obtain⟨v,hv,av⟩:=h2.atI hat;exact⟨a,xs,i,v,rfl,rfl,SqL.of (zh h1).2,hv,k d v H hq m.tp Kz.refl av⟩
theorem wI (hs:rL b)(h:EvD X α a fun x=>EvD X α b fun y=>∃ds i d,x=.tuple ds/\y=.int i/\atI ds i=some d/\Q d):EvD X α (.Subscript a b pos) Q:=by
 refine sA (f:=tOp (zK3 X.K)) (zW yO zk zk hs) (fun _ _ _=>Iff.rfl) (h.imp fun x h=>h.imp fun y ⟨ds,i,d,e1,e2,hat,hq⟩=>?_);subst e1 e2;intro F σ H vx vy R m rx ry k;obtain⟨a,xs,rfl,h1,h2⟩:=rx.tup_inv;cases ry.int_inv;obtain⟨v,hv,av⟩:=h2.atI hat;exact⟨a,xs,i,v,rfl,rfl,SqT.of (zh h1).2,hv,k d v H hq m.tp Kz.refl av⟩
def EvO (X:Cx)(α:Ev)(e:Option Expr)(Q:Option Int->Prop):Prop:=∀(F:Fr) (σ:St) (H:Hp) (R:Option Int->Hp->Prop),M F α σ H->(∀i H',Q i->zM F H'->Kz F H H'->R i H')->∃t,PO X e t/\t σ H R
def zU5 (X:Cx)(e:Option Expr):TO:=fun σ H Q=>∃t,PO X e t/\t σ H Q
theorem eh {e:Option Expr}:PO X e (zU5 X e):=fun pins s σ H Q I ⟨t,p,q⟩=>p pins s σ H Q I q
theorem zw5 {Q:Option Int->Prop}(q:Q none):EvO X α none Q:=fun F σ H R m k=>⟨_,nH,k _ H q m.tp Kz.refl⟩
theorem zt1 {Q:Option Int->Prop}(h:EvD X α a fun x=>∃i,x=.int i/\Q (some i)):EvO X α (some a) Q:=fun F σ H R m k=>by
 refine⟨_,nP zk,?_⟩;refine h F σ H _ m fun x vx H1 q1 t1 k1 r1=>?_;obtain⟨i,rfl,q⟩:=q1;cases r1.int_inv;exact⟨i,rfl,k _ H1 q t1 k1⟩
theorem M.lay {F:Fr}{σ:St}{H:Hp}{l:Addr}{xs:List V}{ds:List PyData}(m:M F α σ H)(hl:H l=none)(h:AVs (Gz F α σ H) xs ds):zM F (upd H l (.lst xs))/\Kz F H (upd H l (.lst xs))/\xu F α σ H (.ref l) (upd H l (.lst xs)) ds:=by
 refine⟨m.tp.same (yn hl),Kz.of_same (yn hl),l,xs,rfl,hl,zj,h.same (zx fun a o ha e=>?_)⟩;have:=zp e hl;exact⟨⟨ha,this⟩,by rw[zf this];exact e⟩
theorem zA9 {lo hi:Option Expr}{Q:List PyData->Prop}(h:EvD X α a fun x=>EvO X α lo fun l=>EvO X α hi fun u=>∃ds,x=.list ds/\Q (cutD ds l u)):EvL X α (.Subscript a (.Slice lo hi none p) pos) Q:=fun F σ H R m k=>by
 refine⟨_,qK mN zk eh eh,?_⟩;refine h F σ H _ m fun x vx H1 q1 t1 k1 r1=>?_;have m1:=m.kz k1 t1;refine q1 F σ H1 _ m1 fun l H2 q2 t2 k2=>?_;have m2:=m1.kz k2 t2;refine q2 F σ H2 _ m2 fun u H3 q3 t3 k3=>?_;have m3:=m2.kz k3 t3;obtain⟨ds,rfl,q⟩:=q3;obtain⟨a,xs,rfl,h1,h2⟩:=(r1.same ((k2.gz m1.tp).trans (k3.gz m2.tp))).lst_inv;refine⟨a,xs,rfl,SqL.of (zh h1).2,fun p hp=>?_⟩;obtain⟨g1,g2,g3⟩:=m3.lay hp (h2.cut l u);have kk:=(k1.trans k2).trans k3;obtain⟨l',xs',e1,e2,e3,e4⟩:=g3;refine k _ _ _ q g1 (kk.trans g2) ⟨l',xs',e1,?_,e3,e4⟩;cases z:H l' with
 |none=>rfl
 |some o=>rw[kk l' o z (m.tp.nt (ow0 (m3.fresh e2)))] at e2;cases e2
theorem xu.back {F:Fr}{σ:St}{H H1 H':Hp}{v:V}{ds:List PyData}(m:M F α σ H)(k:Kz F H H1)(t1:zM F H1)(h:xu F α σ H1 v H' ds):xu F α σ H v H' ds:=by
 obtain⟨l',xs',e1,e2,e3,e4⟩:=h;refine⟨l',xs',e1,?_,e3,e4⟩;cases z:H l' with
 |none=>rfl
 |some o=>rw[k l' o z (m.tp.nt (ow0 ((m.kz k t1).fresh e2)))] at e2;cases e2
theorem zt {Q:List A->Prop}(q:Q []):EvA X α [] Q:=fun F σ H R m k=>⟨_,zu,k _ _ H q m.tp Kz.refl .nil⟩
theorem zg {Q:List A->Prop}(h:EvD X α e fun d=>EvA X α es fun as=>Q (.dat d::as))(hs:starEach (e::es) X.env=(false,eval e X.env)::starEach es X.env:=by rfl):EvA X α (e::es) Q:=fun F σ H R m k=>by
 refine⟨_,zd zk yV hs,?_⟩;refine h F σ H _ m fun d v H1 q1 t1 k1 r1=>?_;have m1:=m.kz k1 t1;exact q1 F σ H1 _ m1 fun as vs H2 q2 t2 k2 r2=>k _ _ H2 q2 t2 (k1.trans k2) (.cons (r1.same (k2.gz m1.tp)) r2)
theorem yi {Q:List A->Prop}(i:Nat){x:Str}(hi:α[i]?=some (some .tape))(h:EvA X α es fun as=>Q (.tape::as))(hN:X.N[i]?=some x:=by rfl)(hv:Vis X.env.scope x:=by first|exact Or.inl rfl|exact Or.inr (Or.inl rfl)|exact Or.inr (Or.inr rfl))
  (hd:(x == ("__debug__":Str))=false:=by decide) (hcd:(x == ("__classdict__":Str))=false:=by decide) (hs:starEach (.Name x pos::es) X.env=(false,eval (.Name x pos) X.env)::starEach es X.env:=by rfl):EvA X α (.Name x pos::es) Q:=fun F σ H R m k=>by
 obtain⟨t,b,c,h1,h2⟩:=m.tvar i hi;refine⟨_,zd (xK hN hv hd hcd) yV hs,.ref t,h2,?_⟩;exact h F σ H _ m fun as vs H2 q2 t2 k2 r2=>k _ _ H2 q2 t2 k2 (.cons ⟨t,b,c,h1,rfl⟩ r2)
noncomputable def datas :List A->Option (List PyData)
 |[]=>some []
 |.dat d::r=>(datas r).map (d::·)
 |_::_=>none
theorem yA.datas {F:Fr}{G:Hp}:∀{vs:List V} {as:List A} {ds:List PyData},yA F G vs as->L2.datas as=some ds->AVs G vs ds
 |_,_,ds,.nil,h=>by cases h;exact .nil
 |_,_,ds,.cons (a:=.dat d) (as:=as) h r,e=>by
  simp only[L2.datas,zZ2] at e;obtain⟨es,e1,rfl⟩:=e;exact .cons h (yA.datas r e1)
 |_,_,ds,.cons (a:=.ow _) h r,e=>by cases h
 |_,_,ds,.cons (a:=.deep _ _) h r,e=>by cases h
 |_,_,ds,.cons (a:=.exc _ _) h r,e=>by cases h
 |_,_,ds,.cons (a:=.pin _ _ _) h r,e=>by cases h
 |_,_,ds,.cons (a:=.tape) h r,e=>by cases e
 |_,_,ds,.cons (a:=.at _) h r,e=>by cases h
theorem wo {n:Nat}(h:EvA X α es fun as=>∃ds,datas as=some ds/\ds.length<=1000/\Q (.tuple ds)):EvD X α (.Tuple es n pos) Q:=fun F σ H R m k=>by
 refine⟨_,qP yV,?_⟩;refine h F σ H _ m fun as vs H1 q1 t1 k1 r1=>?_;obtain⟨ds,e,hl,q⟩:=q1;have r:=r1.datas e;have m1:=m.kz k1 t1;refine⟨by rw[r.length];exact z63 (yS hl),fun p hp=>?_⟩;refine k _ _ _ q (t1.same (yn hp)) (k1.trans (Kz.of_same (yn hp))) (.tup (xs:=vs) (zH (m1.fresh hp) zj) (r.same (zx fun a o ha e=>⟨ha,by rw[zf (zp e hp)];exact e⟩)))
theorem xM {Q:List PyData->Prop}(h:EvA X α es fun as=>∃ds,datas as=some ds/\ds.length<=1000/\Q ds):EvL X α (.List es pos) Q:=fun F σ H R m k=>by
 refine⟨_,zj0 yV,?_⟩;refine h F σ H _ m fun as vs H1 q1 t1 k1 r1=>?_;obtain⟨ds,e,hl,q⟩:=q1;have r:=r1.datas e;have m1:=m.kz k1 t1;refine⟨by rw[r.length];exact z63 (yS hl),fun p hp=>?_⟩;obtain⟨g1,g2,g3⟩:=m1.lay hp r;exact k _ _ _ q g1 (k1.trans g2) (g3.back m k1 t1)
theorem nN {Q:List PyData->Prop}(h:EvD X α a fun x=>EvD X α b fun y=>∃ds es,x=.list ds/\y=.list es/\ds.length+es.length<=1000/\Q (ds++es)):EvL X α (.BinOp a .Add b pos) Q:=fun F σ H R m k=>by
 refine⟨_,yI zD3 zk zk,?_⟩;refine h F σ H _ m fun x vx H1 q1 t1 k1 r1=>?_;have m1:=m.kz k1 t1;refine q1 F σ H1 _ m1 fun y vy H2 q2 t2 k2 r2=>?_;have m2:=m1.kz k2 t2;obtain⟨ds,es,rfl,rfl,hl,q⟩:=q2;obtain⟨a,xs,rfl,h1,h2⟩:=(r1.same (k2.gz m1.tp)).lst_inv;obtain⟨b,ys,rfl,h3,h4⟩:=r2.lst_inv;refine⟨a,b,xs,ys,rfl,rfl,(zh h1).2,(zh h3).2,by rw[h2.length,h4.length];exact z63 (yS hl),fun p hp=>?_⟩;obtain⟨g1,g2,g3⟩:=m2.lay hp (h2.append h4);exact k _ _ _ q g1 ((k1.trans k2).trans g2) (g3.back m (k1.trans k2) t2)
theorem wk {id:String}{x:Str}{r:List V->Hp->VK->Prop}(hc:xI X (.builtin id) r)(hg:Gl X x)(hm:X.mg x=none)(hv:bootBuiltins x=some (.builtin id))
  (h:EvA X α (e::es) fun as=>∀(F:Fr) (σ:St) (H:Hp) (vs:List V) (R:VK),M F α σ H->yA F (Gz F α σ H) vs as->(∀d v H',Q d->zM F H'->Kz F H H'->AV (Gz F α σ H') v d->R v H')->r vs H R)
  (hn:x≠"__name__":=by decide) (hdb:(x == ("__debug__":Str))=false:=by decide) (he:starEach (e::es) X.env=(false,eval e X.env)::starEach es X.env:=by rfl) (hpl:(backTo pos (starEach es X.env)).any (·.1)=false:=by rfl):
  EvD X α (.Call (.Name x p) (e::es) [] pos) Q:=fun F σ H R m k=>by
 refine⟨_,yo hc hg hm hv yV hn hdb he hpl,?_⟩;refine h F σ H _ m fun as vs H1 q1 t1 k1 r1=>?_;exact q1 F σ H1 vs R (m.kz k1 t1) r1 fun d v H' qd t2 k2 r2=>k d v H' qd t2 (k1.trans k2) r2
end
section
variable {X:Cx}{α:Ev}{e a b c:Expr}{es:List Expr}{pos p q:Pos}{Q:PyData->Prop}
theorem yA.one {F:Fr}{G:Hp}{vs:List V}{d:PyData}(h:yA F G vs [.dat d]):∃v,vs=[v]/\AV G v d:=by
 cases h with|cons h r=>cases r;exact⟨_,rfl,h⟩
theorem yA.two {F:Fr}{G:Hp}{vs:List V}{d e:PyData}(h:yA F G vs [.dat d,.dat e]):∃v u,vs=[v,u]/\AV G v d/\AV G u e:=by
 cases h with|cons h r=>obtain⟨u,rfl,h2⟩:=r.one;exact⟨_,u,rfl,h,h2⟩
noncomputable def zU8 :PyData->Option Int
 |.list ds=>some ds.length
 |.tuple ds=>some ds.length
 |_=>none
theorem nY (hg:Gl X "len")(hm:X.mg "len"=none)(h:EvD X α e fun x=>∃n,zU8 x=some n/\Q (.int n))(he:starEach [e] X.env=(false,eval e X.env)::starEach [] X.env:=by rfl):
  EvD X α (.Call (.Name "len" p) [e] [] pos) Q:=by
 refine wk yG hg hm z94 (zg (h.imp fun x ⟨n,e1,q⟩=>zt ?_) he) (he:=he);intro F σ H vs R m rv k;obtain⟨v,rfl,av⟩:=rv.one;cases av with
 |lst h1 h2=>cases e1;rw[<-h2.length] at q;exact⟨_,_,rfl,.inl (SqL.of (zh h1).2),k _ _ H q m.tp Kz.refl (.int _)⟩
 |tup h1 h2=>cases e1;rw[<-h2.length] at q;exact⟨_,_,rfl,.inr (SqT.of (zh h1).2),k _ _ H q m.tp Kz.refl (.int _)⟩
 |_=>cases e1
theorem rW {T:String}{x:Str}{p1:Pos}(hg:Gl X "isinstance")(hm:X.mg "isinstance"=none)(hgT:Gl X x)(hmT:X.mg x=none)(hT:bootBuiltins x=some (.type T))
  (h:EvD X α a fun x=>∃k,x.hasDict=false/\pU T x=some k/\Q (.bool k)) (hnx:x≠"__name__":=by decide) (hdx:(x == ("__debug__":Str))=false:=by decide)
  (he:starEach [a,.Name x p1] X.env=(false,eval a X.env)::starEach [.Name x p1] X.env:=by rfl) (he2:starEach [.Name x p1] X.env=(false,eval (.Name x p1) X.env)::starEach [] X.env:=by rfl) (hpl:(backTo pos (starEach [.Name x p1] X.env)).any (·.1)=false:=by rfl):
  EvD X α (.Call (.Name "isinstance" p) [a,.Name x p1] [] pos) Q:=fun F σ H R m k=>by
 refine⟨_,yo xT hg hm ya2 (zd zk (zd (ui hgT hmT hT (show RelV (.ty T) (.type T) from rfl) hnx hdx) zu he2) he) (he:=he) (hpl:=hpl),?_⟩;refine h F σ H _ m fun x vx H1 q1 t1 k1 r1=>?_;obtain⟨b,hd,e,q⟩:=q1;exact⟨vx,T,x,b,rfl,(r1.dv hd).same xG,e,k _ _ H1 q t1 k1 (.bl b)⟩
noncomputable def vb :PyData->Option (List PyData)
 |.list ds=>some ds
 |.tuple ds=>some ds
 |_=>none
theorem fQ {Q:List PyData->Prop}(hg:Gl X "list")(hm:X.mg "list"=none)(h:EvD X α e fun x=>∃ds,vb x=some ds/\Q ds)(he:starEach [e] X.env=(false,eval e X.env)::starEach [] X.env:=by rfl):
  EvL X α (.Call (.Name "list" p) [e] [] pos) Q:=fun F σ H R m k=>by
 refine⟨_,wR tw hg hm boot_list (zd zk zu he) (he:=he),?_⟩;refine h F σ H _ m fun x vx H1 q1 t1 k1 r1=>?_;obtain⟨ds,e1,q⟩:=q1;have m1:=m.kz k1 t1;have fin:∀{xs:List V},AVs (Gz F α σ H1) xs ds->∀l,H1 l=none->R (.ref l) (upd H1 l (.lst xs)):=fun {xs} h2 l hl=>by
  obtain⟨g1,g2,g3⟩:=m1.lay hl h2;exact k _ _ _ q g1 (k1.trans g2) (g3.back m k1 t1)
 cases r1 with
 |lst h1 h2=>cases e1;exact⟨_,_,rfl,.inl (SqL.of (zh h1).2),fin h2⟩
 |tup h1 h2=>cases e1;exact⟨_,_,rfl,.inr (SqT.of (zh h1).2),fin h2⟩
 |_=>cases e1
theorem AVs.bools {H:Hp}:∀{xs:List V} {bs:List Bool},AVs H xs (bs.map .bool)->xs=bs.map V.bl
 |_,[],.nil=>rfl
 |_,b::bs,.cons h r=>by rw[h.bl_inv,AVs.bools r];rfl
theorem nF (hc:X.calm=true)(hg:Gl X "all")(hm:X.mg "all"=none)(h:EvD X α e fun x=>∃bs:List Bool,x=.list (bs.map .bool)/\Q (.bool (bs.all id)))(he:starEach [e] X.env=(false,eval e X.env)::starEach [] X.env:=by rfl):
  EvD X α (.Call (.Name "all" p) [e] [] pos) Q:=by
 refine wk (cU hc) hg hm boot_all (zg (h.imp fun x ⟨bs,e1,q⟩=>zt ?_) he) (he:=he);intro F σ H vs R m rv k;subst e1;obtain⟨v,rfl,av⟩:=rv.one;obtain⟨a,xs,rfl,h1,h2⟩:=av.lst_inv;exact⟨a,bs,rfl,by rw[(zh h1).2,h2.bools],k _ _ H q m.tp Kz.refl (.bl _)⟩
theorem zd7 (hc:X.calm=true)(hg:Gl X "any")(hm:X.mg "any"=none)(h:EvD X α e fun x=>∃bs:List Bool,x=.list (bs.map .bool)/\Q (.bool (bs.any id)))(he:starEach [e] X.env=(false,eval e X.env)::starEach [] X.env:=by rfl):
  EvD X α (.Call (.Name "any" p) [e] [] pos) Q:=by
 refine wk (cp hc) hg hm boot_any (zg (h.imp fun x ⟨bs,e1,q⟩=>zt ?_) he) (he:=he);intro F σ H vs R m rv k;subst e1;obtain⟨v,rfl,av⟩:=rv.one;obtain⟨a,xs,rfl,h1,h2⟩:=av.lst_inv;exact⟨a,bs,rfl,by rw[(zh h1).2,h2.bools],k _ _ H q m.tp Kz.refl (.bl _)⟩
theorem zv7 (hgu:X.A.guards=some [])(hu:X.A.units+64<cLine)(hg:Gl X "repr")(hm:X.mg "repr"=none)(h:EvD X α e fun x=>zT sizeLine x/\Q (.str x.shown))(he:starEach [e] X.env=(false,eval e X.env)::starEach [] X.env:=by rfl):
  EvD X α (.Call (.Name "repr" p) [e] [] pos) Q:=by
 refine wk (cL hgu hu) hg hm boot_repr (zg (h.imp fun x ⟨n,q⟩=>zt ?_) he) (he:=he);intro F σ H vs R m rv k;obtain⟨v,rfl,av⟩:=rv.one;exact⟨v,x,rfl,(av.dv n.nod).same xG,n,k _ _ H q m.tp Kz.refl (.str _)⟩
section
variable {k:Nat}{f:Addr}{fd:FuncData}{ps:List Str}{φ:List A->(A->Prop)->Prop}{x:Str}
theorem vm {F:Fr}{σ:St}{H:Hp}{vs:List V}{as:List A}{QA:A->Prop}{R:VK}(m:M F α σ H)(rv:yA F (Gz F α σ H) vs as)(hφ:φ as QA)
  (kk:∀a v H',QA a->sY ⟨H,Ow F α σ,F.tp⟩ v H' a->R v H') {E:XK}:spA φ (vs++[]) H R E:=by
 refine⟨⟨H,Ow F α σ,F.tp⟩,as,QA,rfl,?_,?_,?_,hφ,kk⟩
 ·exact m.tp.to rfl fun _ z=>.inl z
 ·exact fun y z=>m.owEx z
 ·rw[z52];exact yA.to (F:=F) (F':=⟨H,Ow F α σ,F.tp⟩) (fun _ _ e=>e) rfl rv
theorem sY.back {F:Fr}{σ:St}{H H':Hp}{v:V}{a:A}(m:M F α σ H)(h:sY ⟨H,Ow F α σ,F.tp⟩ v H' a):zM F H'/\Kz F H H'/\AV (Gz F α σ H') v a.d:=by
 obtain⟨t,kz,r⟩:=h;refine⟨m.tp.re t rfl,kz,?_⟩;cases a with
 |dat d=>exact r
 |ow c=>
  obtain⟨l,xs,ds,rfl,rfl,h1,h2,h3,h4⟩:=r;exact .lst (zH h2 h3) (h4.same (zx fun a o h e=>⟨h.1,e⟩))
 |deep d S=>
  obtain⟨h1,h2⟩:=r;refine h1.same fun x o e=>?_;rcases za4 e with ⟨z1,z2⟩|⟨_,z2⟩
  ·exact zH (h2 x z1).1 z2
  ·exact z2
 |tape=>exact r.elim
 |«at» _=>exact r.elim
 |exc _ _=>exact r.elim
 |pin _ _ _=>exact r.elim
theorem zo9 (G:zF X.prog X.w X.K X.mg X.base CX0 k f fd ps (spA φ))(hr:zS k X.A)(hg:Gl X x)(hm:X.mg x=some (.ref f))(hk:PySem.W.keepIn X.K (.ref f)=true)(hb:Binds X.K fd ps [])
  (h:EvA X α (e::es) fun as=>φ as fun a=>Q a.d) (hdb:(x == ("__debug__":Str))=false:=by decide) (he:starEach (e::es) X.env=(false,eval e X.env)::starEach es X.env:=by rfl) (hpl:(backTo pos (starEach es X.env)).any (·.1)=false:=by rfl):
  EvD X α (.Call (.Name x p) (e::es) [] pos) Q:=fun F σ H R m kk=>by
 refine⟨_,ya G hr hg hm hk hb .nil ym yV hdb he hpl,?_⟩;refine h F σ H _ m fun as vs H1 q1 t1 k1 r1=>?_;have m1:=m.kz k1 t1;refine vm m1 r1 q1 fun a v H' qa ra=>?_;obtain⟨g1,g2,g3⟩:=ra.back m1;exact kk _ v H' qa g1 (k1.trans g2) g3
theorem zy0 {Q:List PyData->Prop}(G:zF X.prog X.w X.K X.mg X.base CX0 k f fd ps (spA φ))(hr:zS k X.A)(hg:Gl X x)(hm:X.mg x=some (.ref f))(hk:PySem.W.keepIn X.K (.ref f)=true)(hb:Binds X.K fd ps [])
  (h:EvA X α (e::es) fun as=>φ as fun a=>∃ds,a=.own ds/\Q ds) (hdb:(x == ("__debug__":Str))=false:=by decide) (he:starEach (e::es) X.env=(false,eval e X.env)::starEach es X.env:=by rfl) (hpl:(backTo pos (starEach es X.env)).any (·.1)=false:=by rfl):
  EvL X α (.Call (.Name x p) (e::es) [] pos) Q:=fun F σ H R m kk=>by
 refine⟨_,ya G hr hg hm hk hb .nil ym yV hdb he hpl,?_⟩;refine h F σ H _ m fun as vs H1 q1 t1 k1 r1=>?_;have m1:=m.kz k1 t1;refine vm m1 r1 q1 fun a v H' qa ra=>?_;obtain⟨ds,rfl,q⟩:=qa;obtain⟨g1,g2,_⟩:=ra.back m1;obtain⟨_,_,l,xs,ds',rfl,hc,h1,h2,h3,h4⟩:=ra;cases hc;exact kk ds _ H' q g1 (k1.trans g2) (xu.back m k1 t1 ⟨l,xs,rfl,h1,h3,h4⟩)
end
theorem rN {i j:Nat}{x:Option A}(h:i≠j):(α.set i x)[j]?=α[j]?:=z45 h
theorem yc {i:Nat}{x:Option A}{j:Nat}{y:Option A}(h:(α.set i x)[j]?=some y):(i=j/\x=y)\/(i≠j/\α[j]?=some y):=by
 by_cases hij:i=j
 ·subst hij;left;have hl:i<α.length:=by
   have:=(zY0.mp h).1
   rwa [z53] at this
  rw[z82 hl] at h;exact⟨rfl,z05 h⟩
 ·right;rw[z45 hij] at h;exact⟨hij,h⟩
theorem M.put {F:Fr}{σ:St}{H:Hp}{i:Nat}{b:Option A}(m:M F α σ H)(hf:∀s c x,σ[i]?=some s->b=some c->foot s c x->∃a,α[i]?=some (some a)/\foot s a x)
  (hok:∀s c,i<α.length->σ[i]?=some s->b=some c->uI (Gz F (α.set i b) σ H) F H s c) (hx:∀c,b=some c->noX c:=by intro c z;cases z;trivial):zz (Gz F α σ H) (Gz F (α.set i b) σ H)/\M F (α.set i b) σ H:=by
 have gs:zz (Gz F α σ H) (Gz F (α.set i b) σ H):=zx fun a o h e=>⟨fun z=>h (by
  rcases z with z|⟨j,c,s,e1,e2,f⟩
  ·exact .inl z
  ·rcases yc e1 with ⟨rfl,z⟩|⟨hj,e1'⟩
   ·obtain⟨a',h1,h2⟩:=hf s c a e2 z f;exact .inr ⟨i,a',s,h1,e2,h2⟩
   ·exact .inr ⟨j,c,s,e1',e2,f⟩),e⟩
 have old:∀{j:Nat} {c:A} {s:Option V} {x:Addr},(α.set i b)[j]?=some (some c)->σ[j]?=some s->foot s c x->∃a,α[j]?=some (some a)/\foot s a x:=fun {j c s x} e1 e2 f=>by
  rcases yc e1 with ⟨rfl,z⟩|⟨hj,e1'⟩
  ·exact hf s c x e2 z f
  ·exact⟨c,e1',f⟩
 refine⟨gs,by rw[z53];exact m.len,fun j c s e1 e2=>?_,fun j k c d s t x e1 e2 h1 h2 f1 f2=>?_,fun j r q e j' c s x e1 e2 f=>?_,m.tp,m.keep,m.oex⟩
 ·rcases yc e1 with ⟨rfl,z⟩|⟨hj,e1'⟩
  ·refine hok s c ?_ e2 z;have:=(zY0.mp e1).1
   rwa [z53] at this
  ·exact (m.ok j c s e1' e2).stay gs (fun x o f e=>⟨e,(m.ft e1' e2 f).1,(m.ft e1' e2 f).2.1⟩) rfl fun _ _ _ l=>l
 ·obtain⟨a',g1,g2⟩:=old e1 h1 f1;obtain⟨b',g3,g4⟩:=old e2 h2 f2;exact m.dj j k a' b' s t x g1 g3 h1 h2 g2 g4
 ·obtain⟨a',g1,g2⟩:=old e1 e2 f;rcases yc e with ⟨rfl,z⟩|⟨_,e'⟩
  ·exact (hx _ z).elim
  ·exact m.xd j r q e' j' a' s x g1 e2 g2
theorem M.gave {F:Fr}{σ:St}{H:Hp}{i:Nat}{a:A}{s:Option V}{b:Option A}{x:Addr}(m:M F α σ H)(e1:α[i]?=some (some a))(e2:σ[i]?=some s)(f:foot s a x)(hb:∀c,b=some c->¬foot s c x):¬Ow F (α.set i b) σ x:=by
 rintro (z|⟨j,c,t,h1,h2,g⟩)
 ·exact (m.ft e1 e2 f).1 z
 ·rcases yc h1 with ⟨rfl,z⟩|⟨hj,h1'⟩
  ·rw[e2] at h2;cases h2;exact hb c z g
  ·exact hj (m.dj i j a c s t x e1 h1' e2 h2 f g)
theorem zi6 {F:Fr}{σ:St}{H:Hp}{i:Nat}{b:A}(hb:∀s x,¬foot s b x):zz (Gz F α σ H) (Gz F (α.set i (some b)) σ H):=zx fun a o h e=>⟨fun z=>h (by
 rcases z with z|⟨j,c,s,e1,e2,f⟩
 ·exact .inl z
 ·rcases yc e1 with ⟨rfl,z⟩|⟨hj,e1'⟩
  ·cases z;exact (hb _ _ f).elim
  ·exact .inr ⟨j,c,s,e1',e2,f⟩),e⟩
theorem M.frz {F:Fr}{σ:St}{H:Hp}{i:Nat}{ds:List PyData}(m:M F α σ H)(hi:α[i]?=some (some (.own ds))):M F (α.set i (some (.dat (.list ds)))) σ H:=
 (m.put (b:=some (.dat (.list ds))) (fun s c' x _ z f=>by cases z;exact f.elim) fun s c' _ e2 z=>by
  cases z;obtain⟨l,o,h1,h2,h3,h4,h5⟩:=m.owc i _ hi;rw[h1] at e2;cases e2;exact⟨.ref l,rfl,(h3.same (zi6 (b:=.dat (.list ds)) fun _ _ f=>f)).av (zH (m.gave hi h1 rfl fun c z=>by cases z;exact id) h2)⟩).2
theorem zB4 {F:Fr}{σ:St}{H H':Hp}{i:Nat}{a:A}{b:Option A}(m:M F α σ H)(k:Kz F H H')(hi:α[i]?=some (some a))(x:Addr)(o:HO)(ho:¬Ob o)(h:Gz F (α.set i b) σ H' x=some o):Gz F α σ H' x=some o:=by
 obtain⟨h1,h2⟩:=zh h;refine zH ?_ h2;rintro (z|⟨j,c,s,e1,e2,f⟩)
 ·exact h1 (.inl z)
 ·by_cases hj:i=j
  ·subst hj;obtain⟨g1,g2,o',g3,g4⟩:=m.ft e1 e2 f;rw[k _ _ g3 (m.tp.nt g1)] at h2;cases h2;exact ho g4
  ·exact h1 (.inr ⟨j,c,s,by rw[rN hj];exact e1,e2,f⟩)
theorem jH {Q:List PyData->Prop}{i:Nat}{a:A}{b:Option A}(hi:α[i]?=some (some a))(hm:∀F σ H,M F α σ H->M F (α.set i b) σ H)(h:EvL X (α.set i b) e fun d=>uw d=true/\Q d):EvL X α e Q:=fun F σ H R m k=>
 h F σ H R (hm F σ H m) fun d v H' q t kz r=>by
  obtain⟨l,xs,h1,h2,h3,h4⟩:=r;refine k d v H' q.2 t kz ⟨l,xs,h1,h2,h3,h4.noL (fun a ys hno z=>?_) q.1⟩;obtain⟨z1,z2⟩:=zh z;obtain⟨w1,w2⟩:=zh (zB4 m kz hi a ys hno (zH z1.1 z2));exact zH ⟨w1,z1.2⟩ w2
theorem gC {Q:Bool->Prop}(i:Nat){ds:List PyData}(hi:α[i]?=some (some (.own ds)))(h:EvT X (α.set i (some (.dat (.list ds)))) e Q):EvT X α e Q:=fun F σ H R m k=>h F σ H R (m.frz hi) k
theorem gB {Q:List PyData->Prop}(i:Nat){ds:List PyData}(hi:α[i]?=some (some (.own ds)))(h:EvL X (α.set i (some (.dat (.list ds)))) e fun d=>uw d=true/\Q d):EvL X α e Q:=jH hi (fun _ _ _ m=>m.frz hi) h
def ItW (p:Addr->Prop)(J:It)(ds:List PyData)(G:Hp):Prop:=∀(i:Nat) (H2:Hp) (q:Addr->Prop),zz G (sub q H2)->
 (∀d,ds[i]?=some d->J.go i H2/\∀x H3,J.yld i H2 x H3->zz H2 H3/\((∀a o,H3 a=some o->H2 a=none->q a)->AV (sub q H3) x d))/\(ds.length<=i->J.stop i H2)
def zJ9 (X:Cx)(tg e:Expr):TI:=fun σ H R=>∃t,PI X tg e t/\t σ H R
theorem mL {tg e:Expr}:PI X tg e (zJ9 X tg e):=fun pins s σ H R I ⟨t,p,q⟩=>p pins s σ H R I q
def EvI (X:Cx)(α:Ev)(tg e:Expr)(Q:List PyData->Prop):Prop:=∀(F:Fr) (σ:St) (H:Hp) (R:It->Hp->Prop),M F α σ H->
 (∀ds J H',Q ds->zM F H'->Kz F H H'->ItW (fun x=>¬Ow F α σ x) J ds (Gz F α σ H')->R J H')->zJ9 X tg e σ H R
theorem yj {tg:Expr}{Q:List PyData->Prop}(h:EvD X α e fun x=>∃ds,x=.list ds/\Q ds):EvI X α tg e Q:=fun F σ H R m k=>by
 refine⟨_,fH zk,?_⟩;refine h F σ H _ m fun x vx H1 q1 t1 k1 r1=>?_;obtain⟨ds,rfl,q⟩:=q1;obtain⟨a,xs,rfl,h1,h2⟩:=r1.lst_inv;refine⟨a,rfl,⟨xs,SqL.of (zh h1).2⟩,k ds _ H1 q t1 k1 fun i H2 p s=>⟨fun d hd=>?_,fun hl=>?_⟩⟩
 ·obtain⟨x,hx,av⟩:=h2.get hd;have ha:=SqL.of (K:=X.K) (zh (s _ _ h1)).2;refine⟨⟨xs,x,ha,hx⟩,fun x' H3 y=>?_⟩;obtain⟨e,y⟩:=y;subst e;have:=y xs ha;rw[hx] at this;cases this;exact⟨zz.refl _,fun _=>av.same s⟩
 ·exact⟨xs,SqL.of (zh (s _ _ h1)).2,by rw[h2.length];exact hl⟩
theorem oq {p:Addr->Prop}{lo:Int}{n:Nat}{G:Hp}:ItW p (Itr lo n) ((zq lo n).map .int) G:=fun i H2 q s=>⟨fun d hd=>by
  rw[zY3,zZ2] at hd;obtain⟨z,h1,rfl⟩:=hd;have hi:i<n:=by
   have:=(zY0.mp h1).1
   rwa [zc] at this
  rw[zY hi] at h1;cases h1;refine⟨hi,fun x H3 y=>?_⟩;obtain⟨rfl,rfl⟩:=y;exact⟨zz.refl _,fun _=>.int _⟩,fun hl=>by
  rw[zX5,zc] at hl;exact hl⟩
theorem xS {tg:Expr}{Q:List PyData->Prop}(hg:Gl X "range")(hm:X.mg "range"=none)(h:EvD X α a fun x=>∃j,x=.int j/\-(2 ^ 62)<=j/\j<2 ^ 62/\Q ((zq 0 j.toNat).map .int))(hs:starEach [a] X.env=[(false,eval a X.env)]:=by rfl):
  EvI X α tg (.Call (.Name "range" p) [a] [] pos) Q:=fun F σ H R m k=>by
 refine⟨_,di hg hm (zd zk zu hs) hs,?_⟩;refine h F σ H _ m fun x vx H1 q1 t1 k1 r1=>?_;obtain⟨j,rfl,b1,b2,q⟩:=q1;cases r1.int_inv;exact⟨j,rfl,b1,b2,k _ _ H1 q t1 k1 oq⟩
theorem wM {tg:Expr}{Q:List PyData->Prop}(hg:Gl X "range")(hm:X.mg "range"=none)(h:EvD X α a fun x=>EvD X α b fun y=>∃i j,x=.int i/\y=.int j/\(-(2 ^ 62)<=i/\i<2 ^ 62/\-(2 ^ 62)<=j/\j<2 ^ 62)/\Q ((zq i (j-i).toNat).map .int))
  (hs:starEach [a,b] X.env=[(false,eval a X.env),(false,eval b X.env)]:=by rfl) (hs2:starEach [b] X.env=[(false,eval b X.env)]:=by rfl) (hs3:starEach [a,b] X.env=(false,eval a X.env)::starEach [b] X.env:=by rfl):
  EvI X α tg (.Call (.Name "range" p) [a,b] [] pos) Q:=fun F σ H R m k=>by
 refine⟨_,cq hg hm (zd zk (zd zk zu hs2) hs3) hs hs2,?_⟩;refine h F σ H _ m fun x vx H1 q1 t1 k1 r1=>?_;have m1:=m.kz k1 t1;refine q1 F σ H1 _ m1 fun y vy H2 q2 t2 k2 r2=>?_;obtain⟨i,j,rfl,rfl,bb,q⟩:=q2;cases r1.int_inv;cases r2.int_inv;exact⟨i,j,rfl,bb,k _ _ H2 q t2 (k1.trans k2) oq⟩
end
inductive Pat where
 |one (i:Nat)
 |many (is:List Nat)
noncomputable def vU :List Nat->List PyData->Ev->Option Ev
 |[],[],α=>some α
 |i::is,d::ds,α=>vU is ds (α.set i (some (.dat d)))
 |_,_,_=>none
noncomputable def Pat.bind :Pat->PyData->Ev->Option Ev
 |.one i,d,α=>some (α.set i (some (.dat d)))
 |.many is,.tuple ds,α=>vU is ds α
 |_,_,_=>none
def gIs :List Nat->TGs
 |[]=>zO2
 |i::is=>zy7 (ox i) (gIs is)
def ky (K:PySem.W.Frag):Pat->TG
 |.one i=>ox i
 |.many is=>zL2 K is.length (gIs is)
noncomputable def Pat.slots :Pat->List Nat
 |.one i=>[i]
 |.many is=>is
noncomputable def isFree (α:Ev)(i:Nat):Bool:=match α[i]? with
 |some none=>true
 |_=>false
noncomputable def Pat.free (p:Pat)(α:Ev):Bool:=p.slots.all (isFree α)
section
variable {X:Cx}{α α':Ev}{F:Fr}{σ:St}{H:Hp}
theorem M.store {i:Nat}{v:V}{b:A}{H':Hp}(m:M F α σ H)(t:zM F H')(k:Kz F H H')(hn:∀x,foot (some v) b x->H x=none)(hok:uI (sub (fun x=>¬Ow F α σ x/\¬foot (some v) b x) H') F H' (some v) b)(hx:noX b:=by trivial):M F (α.set i (some b)) (σ.set i (some v)) H':=by
 have m':=m.kz k t;have hs:∀{j:Nat} {c:A} {s:Option V},(α.set i (some b))[j]?=some (some c)->(σ.set i (some v))[j]?=some s->(i=j/\c=b/\s=some v)\/(i≠j/\α[j]?=some (some c)/\σ[j]?=some s):=fun {j c s} e1 e2=>by
  rcases yc e1 with ⟨rfl,z⟩|⟨hj,e1'⟩
  ·cases z;have hl:i<σ.length:=by
    have:=(zY0.mp e2).1
    rwa [z53] at this
   rw[z82 hl] at e2;cases e2;exact .inl ⟨rfl,rfl,rfl⟩
  ·rw[z45 hj] at e2;exact .inr ⟨hj,e1',e2⟩
 have ow:∀{y:Addr},Ow F (α.set i (some b)) (σ.set i (some v)) y->Ow F α σ y\/foot (some v) b y:=fun {y} h=>by
  rcases h with z|⟨j,c,s,e1,e2,f⟩
  ·exact .inl (.inl z)
  ·rcases hs e1 e2 with ⟨_,rfl,rfl⟩|⟨_,g1,g2⟩
   ·exact .inr f
   ·exact .inl (.inr ⟨j,c,s,g1,g2,f⟩)
 have g1:zz (sub (fun x=>¬Ow F α σ x/\¬foot (some v) b x) H') (Gz F (α.set i (some b)) (σ.set i (some v)) H'):=zx fun a o h e=>⟨fun z=>(ow z).elim h.1 h.2,e⟩;have g0:zz (Gz F α σ H) (sub (fun x=>¬Ow F α σ x/\¬foot (some v) b x) H'):=zx fun a o h e=>⟨⟨h,fun z=>by rw[hn a z] at e;cases e⟩,k a o e (m.tp.nt (ow0 h))⟩;refine⟨by rw[z53,z53];exact m.len,fun j c s e1 e2=>?_,fun j j' c d s s' x e1 e2 h1 h2 f1 f2=>?_,fun j r q e j' c s x e1 e2 f=>?_,t,m.keep.trans k,m'.oex⟩
 ·rcases hs e1 e2 with ⟨rfl,rfl,rfl⟩|⟨_,z1,z2⟩
  ·exact hok.stay g1 (fun x o f e=>by
    obtain⟨w1,w2,_⟩:=nM hok f;exact⟨e,w1,w2⟩) rfl fun _ _ _ l=>l
  ·exact (m.ok j c s z1 z2).stay (g0.trans g1) (fun x o f e=>by
    obtain⟨w1,w2,_⟩:=m.ft z1 z2 f;exact⟨k x o e (m.tp.nt w1),w1,w2⟩) rfl fun _ _ _ l=>l.kz k t
 ·have nn:∀{j:Nat} {c:A} {s:Option V},α[j]?=some (some c)->σ[j]?=some s->foot s c x->¬foot (some v) b x:=fun {j c s} z1 z2 f g=>by
   obtain⟨_,_,o,w,_⟩:=m.ft z1 z2 f;rw[hn x g] at w;cases w
  rcases hs e1 h1 with ⟨rfl,rfl,rfl⟩|⟨_,z1,z2⟩
  ·rcases hs e2 h2 with ⟨rfl,_⟩|⟨_,w1,w2⟩
   ·rfl
   ·exact absurd f1 (nn w1 w2 f2)
  ·rcases hs e2 h2 with ⟨rfl,rfl,rfl⟩|⟨_,w1,w2⟩
   ·exact absurd f2 (nn z1 z2 f1)
   ·exact m.dj j j' c d s s' x z1 w1 z2 w2 f1 f2
 ·rcases yc e with ⟨rfl,z⟩|⟨_,e'⟩
  ·cases z;exact hx.elim
  ·rcases hs e1 e2 with ⟨rfl,rfl,rfl⟩|⟨_,z1,z2⟩
   ·exact (m.lnk e').none (hn x f)
   ·exact m.xd j r q e' j' c s x z1 z2 f
theorem M.set {i:Nat}{v:V}{d:PyData}(m:M F α σ H)(av:AV (Gz F α σ H) v d):M F (α.set i (some (.dat d))) (σ.set i (some v)) H:=
 m.store m.tp Kz.refl (fun x z=>z.elim) ⟨v,rfl,av.same (zx fun a o h e=>⟨⟨h,fun z=>z⟩,e⟩)⟩
theorem M.setC {i:Nat}{v:V}{c:PyData}{H':Hp}(m:M F α σ H)(t:zM F H')(k:Kz F H H')(fl:iF F α σ H v H' c):M F (α.set i (some (.ow c))) (σ.set i (some v)) H':=by
 obtain⟨l,o,rfl,h1,h2,h3⟩:=fl;have nl:¬Ow F α σ l:=m.fresh h1;refine m.store t k (fun x z=>?_) ⟨l,o,rfl,h2,h3.same (zx fun a o h e=>⟨⟨h.1,fun z=>h.2 (by cases z;rfl)⟩,e⟩),ow0 nl,m.fresh0 h1⟩;have z':some (V.ref l)=some (.ref x):=z;cases z';exact h1
theorem M.setOwn {i:Nat}{v:V}{ds:List PyData}{H':Hp}(m:M F α σ H)(t:zM F H')(k:Kz F H H')(fl:xu F α σ H v H' ds):M F (α.set i (some (.own ds))) (σ.set i (some v)) H':=m.setC t k fl.c
theorem M.wr {x:Addr}{o:HO}(m:M F α σ H)(hno:vE o)(ho:F.O0 x)(ht:∀t b c,F.tp=some (t,b,c)->x≠t/\x≠b/\x≠c)(h0:F.H0 x=none)(hpl:Plain H x)(hx:∀(i:Nat) r q,α[i]?=some (some (.exc r q))->r.H0 x=none):M F α σ (upd H x o):=by
 have gs:zz (Gz F α σ H) (Gz F α σ (upd H x o)):=zx fun a u h e=>⟨h,by rw[zf (fun z=>h (.inl (by rw[z];exact ho)))];exact e⟩;refine⟨m.len,fun j c s e1 e2=>?_,m.dj,m.xd,m.tp.upd ht hpl,fun y u e n=>?_,fun y hy=>?_⟩
 ·have:=m.ok j c s e1 e2;cases c with
  |exc r q=>
   have l:Lnk r F H:=this;exact⟨l.tp,l.o,l.ok.upd (fun a b c e=>ht a b c (l.tp▸e)) hpl,fun y u e n=>by rw[zf (zp e (hx j r q e1))];exact l.k y u e n⟩
  |_=>exact this.stay gs (fun y u f e=>by
    obtain⟨w1,w2,_⟩:=m.ft e1 e2 f;exact⟨by rw[zf (fun z=>w1 (by rw[z];exact ho))];exact e,w1,w2⟩) rfl fun _ _ z=>by cases z
 ·rw[zf (zp e h0)];exact m.keep y u e n
 ·by_cases z:y=x
  ·exact⟨o,by rw[z];exact zj,hno⟩
  ·obtain⟨u,hu,hn⟩:=m.oex y hy;exact⟨u,by rw[zf z];exact hu,hn⟩
theorem M.forget {α0:Ev}(m:M F α σ H)(hl:α0.length=α.length)(le:∀(i:Nat) a,α0[i]?=some (some a)->α[i]?=some (some a)):M F α0 σ H:=by
 have ow:∀{y:Addr},Ow F α0 σ y->Ow F α σ y:=fun {y} h=>by
  rcases h with z|⟨j,c,s,e1,e2,f⟩
  ·exact .inl z
  ·exact .inr ⟨j,c,s,le _ _ e1,e2,f⟩
 have gs:zz (Gz F α σ H) (Gz F α0 σ H):=zx fun a o h e=>⟨fun z=>h (ow z),e⟩;exact⟨hl.trans m.len,fun j c s e1 e2=>(m.ok j c s (le _ _ e1) e2).stay gs (fun x o f e=>⟨e,(m.ft (le _ _ e1) e2 f).1,(m.ft (le _ _ e1) e2 f).2.1⟩) rfl fun _ _ _ l=>l,fun j j' c d s s' x e1 e2=>m.dj j j' c d s s' x (le _ _ e1) (le _ _ e2),fun j r q e j' c s x e1=>m.xd j r q (le _ _ e) j' c s x (le _ _ e1),m.tp,m.keep,m.oex⟩
theorem ou {H:Hp}:∀{is:List Nat} {ds:List PyData} {α α':Ev} {σ:St} {xs:List V} {R:St->Hp->Prop},vU is ds α=some α'->M F α σ H->(∀G,zz (Gz F α σ H) G->AVs G xs ds)->(∀σ',M F α' σ' H->R σ' H)->gIs is xs σ H R
 |[],[],α,α',σ,xs,R,e,m,av,k=>by
  cases e;cases av _ (zz.refl _);exact⟨rfl,k σ m⟩
 |i::is,d::ds,α,α',σ,xs,R,e,m,av,k=>by
  cases h:av _ (zz.refl _) with
  |@cons x xs _ _ h1 h2=>
   refine⟨x,xs,rfl,?_⟩;have gs:zz (Gz F α σ H) (Gz F (α.set i (some (.dat d))) (σ.set i (some x)) H):=zx fun a o h e=>⟨fun z=>h (by
    rcases z with z|⟨j,c,s,e1,e2,f⟩
    ·exact .inl z
    ·rcases yc e1 with ⟨_,z⟩|⟨hj,e1'⟩
     ·cases z;exact f.elim
     ·rw[z45 hj] at e2;exact .inr ⟨j,c,s,e1',e2,f⟩),e⟩
   exact ou (is:=is) (ds:=ds) e (m.set (i:=i) h1) (fun G s=>h2.same (gs.trans s)) k
 |[],_::_,_,_,_,_,_,e,_,_,_=>by cases e
 |_::_,[],_,_,_,_,_,e,_,_,_=>by cases e
theorem fe {K:PySem.W.Frag}{pat:Pat}{d:PyData}{v:V}{R:St->Hp->Prop}(e:pat.bind d α=some α')(m:M F α σ H)(av:AV (Gz F α σ H) v d)(k:∀σ',M F α' σ' H->R σ' H):ky K pat v σ H R:=by
 cases pat with
 |one i=>cases e;exact k _ (m.set av)
 |many is=>
  cases d with
  |tuple ds=>
   obtain⟨a,xs,rfl,h1,h2⟩:=av.tup_inv;have hl:∀{is:List Nat} {ds:List PyData} {α α':Ev},vU is ds α=some α'->ds.length=is.length:=by
    intro is
    induction is with
    |nil=>intro ds α α' h;cases ds with|nil=>rfl|cons _ _=>cases h
    |cons i is ih=>intro ds α α' h;cases ds with|nil=>cases h|cons d ds=>rw[zY9,zY9,ih h]
   exact⟨a,xs,rfl,SqT.of (zh h1).2,by rw[h2.length];exact hl e,ou e m (fun G s=>h2.same s) k⟩
  |_=>cases e
theorem qX :∀{is:List Nat} {ds:List PyData} {α α':Ev},vU is ds α=some α'->α'.length=α.length
 |[],[],_,_,e=>by cases e;rfl
 |i::is,d::ds,α,α',e=>by
  have:=qX (is:=is) (ds:=ds) e
  rwa [z53] at this
 |[],_::_,_,_,e=>by cases e
 |_::_,[],_,_,e=>by cases e
theorem qg :∀{is:List Nat} {ds:List PyData} {α α':Ev} {j:Nat},vU is ds α=some α'->j∉is->α'[j]?=α[j]?
 |[],[],_,_,_,e,_=>by cases e;rfl
 |i::is,d::ds,α,α',j,e,h=>by
  rw[qg (is:=is) (ds:=ds) e fun z=>h (zY4 _ z)];exact z45 fun (z:i=j)=>h (by rw[<-z];exact zY6)
 |[],_::_,_,_,_,e,_=>by cases e
 |_::_,[],_,_,_,e,_=>by cases e
theorem rV :∀{is:List Nat} {ds:List PyData} {α α':Ev} {j:Nat} {a:A},vU is ds α=some α'->α'[j]?=some (some a)->(∀d,a≠.dat d)->α[j]?=some (some a)
 |[],[],_,_,_,_,e,h,_=>by cases e;exact h
 |i::is,d::ds,α,α',j,a,e,h,hn=>by
  rcases yc (rV (is:=is) (ds:=ds) e h hn) with ⟨_,z⟩|⟨_,z⟩
  ·cases z;exact absurd rfl (hn d)
  ·exact z
 |[],_::_,_,_,_,_,e,_,_=>by cases e
 |_::_,[],_,_,_,_,e,_,_=>by cases e
theorem Pat.is_ok {pat:Pat}{d:PyData}(e:pat.bind d α=some α'):∃is ds,pat.slots=is/\vU is ds α=some α':=by
 cases pat with
 |one i=>cases e;exact⟨_,[d],rfl,rfl⟩
 |many is=>
  cases d with
  |tuple ds=>exact⟨_,ds,rfl,e⟩
  |_=>cases e
theorem Pat.back {pat:Pat}{d:PyData}(e:pat.bind d α=some α')(fr:pat.free α=true)(m:M F α' σ H):M F α σ H:=by
 obtain⟨is,ds,rfl,e⟩:=Pat.is_ok e;refine m.forget (qX e).symm fun j a h=>?_;by_cases hj:j∈pat.slots
 ·have:=z81.mp fr j hj;unfold isFree at this;rw[h] at this;cases this
 ·rw[qg e hj];exact h
end
section
variable {X:Cx}{α:Ev}
def bz (X:Cx)(α:Ev)(ifs:List Expr)(Q:Bool->Prop):Prop:=∀(F:Fr) (σ:St) (H:Hp) (R:Bool->Hp->Prop),M F α σ H->(∀b H',Q b->zM F H'->Kz F H H'->R b H')->∃t,vM X ifs t/\t σ H R
def zy5 (X:Cx)(ifs:List Expr):TT:=fun σ H R=>∃t,vM X ifs t/\t σ H R
theorem fX {ifs:List Expr}:vM X ifs (zy5 X ifs):=fun pins s σ H Q I ⟨t,p,q⟩=>p pins s σ H Q I q
theorem nG {Q:Bool->Prop}(q:Q true):bz X α [] Q:=fun F σ H R m k=>⟨_,zp9,k _ H q m.tp Kz.refl⟩
theorem aa {c:Expr}{Q:Bool->Prop}(h:EvT X α c Q):bz X α [c] Q:=fun F σ H R m k=>⟨_,fZ xR,h F σ H R m k⟩
noncomputable def seen :Option A->Option A
 |some (.dat d)=>some (.dat d)
 |some .tape=>some .tape
 |_=>none
noncomputable def xh (imp:List (Option Nat))(α:Ev):Ev:=imp.map fun o=>o.bind fun j=>(α[j]?).bind seen
theorem lr {imp:List (Option Nat)}{i:Nat}{a:A}(h:(xh imp α)[i]?=some (some a)):∃j,imp[i]?=some (some j)/\α[j]?=some (some a)/\((∃d,a=.dat d)\/a=.tape):=by
 unfold xh at h;rw[zY3,zZ2] at h;obtain⟨o,h1,h2⟩:=h;cases o with
 |none=>cases h2
 |some j=>
  have h2':(α[j]?).bind seen=some a:=h2;cases q:α[j]? with
  |none=>rw[q] at h2';cases h2'
  |some b=>
   rw[q] at h2';cases b with
   |none=>cases h2'
   |some b=>
    cases b with
    |dat d=>cases h2';exact⟨j,h1,q,.inl ⟨d,rfl⟩⟩
    |tape=>cases h2';exact⟨j,h1,q,.inr rfl⟩
    |_=>cases h2'
theorem kQ {imp:List (Option Nat)}{σ:St}{i j:Nat}{v:V}(h1:imp[i]?=some (some j))(h2:σ[j]?=some (some v)):(wK imp σ)[i]?=some (some v):=by
 unfold wK;rw[zY3,h1];show some ((σ[j]?).bind id)=_;rw[h2];rfl
def xO (Y:Addr->Shared->Hp->List Addr->Cx)(pat:Pat)(ifs:List Expr)(elt:Expr)(α0:Ev):List PyData->List PyData->(List PyData->Prop)->Prop
 |[],acc,Q=>Q acc
 |d::ds,acc,Q=>∃α1,pat.bind d α0=some α1/\∀C s2 H2 fp,bz (Y C s2 H2 fp) α1 ifs fun k=>if k=true then ∀C s2 H2 fp,EvD (Y C s2 H2 fp) α1 elt fun y=>xO Y pat ifs elt α0 ds (acc++[y]) Q else xO Y pat ifs elt α0 ds acc Q
def eC (Y:Addr->Shared->Hp->List Addr->Cx)(e:Expr):TE:=fun σ H Q=>∀C s2 H2 fp,tf (Y C s2 H2 fp) e σ H Q
def tsC (Y:Addr->Shared->Hp->List Addr->Cx)(ifs:List Expr):TT:=fun σ H Q=>∀C s2 H2 fp,zy5 (Y C s2 H2 fp) ifs σ H Q
theorem gQ {N:List Str}{imp:List (Option Nat)}{scope:Scope}{tg iter elt:Expr}{ifs:List Expr}{pat:Pat}{Q:List PyData->Prop}(hfree:pat.free (xh imp α)=true)
  (h:EvI X α tg iter fun ds=>ds.length<=1000/\xO (fun C s2 H2 fp=>X.comp N scope C s2 H2 fp) pat ifs elt (xh imp α) ds [] Q)
  (F:Fr) (σ:St) (H:Hp) (R:VK) (m:M F α σ H) (k:∀ds v H',Q ds->zM F H'->Kz F H H'->xu F α σ H v H' ds->R v H'):
  ∃Y:Addr->Shared->Hp->List Addr->Cx,Y=(fun C s2 H2 fp=>X.comp N scope C s2 H2 fp)/\zd1 (zJ9 X tg iter) imp (ky X.K pat) (tsC Y ifs) (eC Y elt) σ H R:=by
 refine⟨_,rfl,?_⟩;refine h F σ H _ m fun ds J H1 ⟨hl,q1⟩ t1 k1 itw acc hacc=>?_;have m1:=m.kz k1 t1;have nacc:¬Ow F α σ acc:=m1.fresh hacc
 let Fc:Fr:=⟨H1,fun x=>Ow F α σ x\/x=acc,F.tp⟩
 let Nd:Ev->Prop:=fun α1=>∀(j:Nat) a,α1[j]?=some (some a)->(∃d,a=.dat d)\/a=.tape
 have no0:Nd (xh imp α):=fun j a z=>by
  obtain⟨_,_,_,n⟩:=lr z;exact n
 have owc:∀{α1:Ev} {τ:St} {x:Addr},Nd α1->(Ow Fc α1 τ x↔Fc.O0 x):=fun {α1 τ x} hh=>⟨fun z=>z.elim id fun⟨j,a,s,e1,e2,f⟩=>by
  rcases hh j a e1 with ⟨d,rfl⟩|rfl
  ·exact f.elim
  ·exact f.elim,.inl⟩
 have gz:∀{α1 α2:Ev} {τ1 τ2:St} {H:Hp},Nd α1->Nd α2->zz (Gz Fc α1 τ1 H) (Gz Fc α2 τ2 H):=fun h1 h2=>zx fun a o h e=>⟨fun z=>h ((owc h1).mpr ((owc h2).mp z)),e⟩;have tpc:∀{H2:Hp},zM F H2->zM Fc H2:=fun t=>t.to rfl fun x z=>.inl (.inl z);have s01:zz H1 (upd H1 acc (.lst [])):=yn hacc;have mc0:M Fc (xh imp α) (wK imp σ) (upd H1 acc (.lst [])):=by
  have g1:zz (Gz F α σ H1) (Gz Fc (xh imp α) (wK imp σ) (upd H1 acc (.lst []))):=fun a o e=>by
   obtain⟨z1,z2⟩:=zh e;have na:a≠acc:=zp z2 hacc;exact zH (fun z=>((owc no0).mp z).elim z1 na) (by rw[zf na];exact z2)
  refine⟨by unfold xh wK;rw[zX5,zX5],fun i a s e1 e2=>?_,fun i j a b s t x e1 e2 _ _ f=>?_,fun i r q e=>(by rcases no0 i _ e with ⟨d,w⟩|w<;>cases w),tpc (t1.same s01),fun x o e _=>s01 x o e,?_⟩
  ·obtain⟨j,w1,w2,w3⟩:=lr e1;rcases w3 with ⟨d,rfl⟩|rfl
   ·obtain⟨v,g2,g3⟩:=m1.dat j d w2;rw[kQ w1 g2] at e2;cases e2;exact⟨v,rfl,g3.same g1⟩
   ·obtain⟨t,b,c,g2,g3⟩:=m1.tvar j w2;rw[kQ w1 g3] at e2;cases e2;exact⟨t,b,c,g2,rfl⟩
  ·rcases no0 i a e1 with ⟨d,rfl⟩|rfl
   ·exact f.elim
   ·exact f.elim
  ·rintro x (z|z)
   ·have:∃o,H1 x=some o/\vE o:=m1.owEx z;obtain⟨o,ho,hn⟩:=this;exact⟨o,s01 _ _ ho,hn⟩
   ·exact⟨_,by rw[z];exact zj,xt⟩
 refine⟨fun i n ys τ H2=>n=ds.length-i/\i<=ds.length/\∃ad:List PyData,M Fc (xh imp α) τ H2/\H2 acc=some (.lst ys)/\AVs (Gz Fc (xh imp α) τ H2) ys ad/\ad.length<=i/\xO (fun C s2 H2 fp=>X.comp N scope C s2 H2 fp) pat ifs elt (xh imp α) (ds.drop i) ad Q,
  ⟨ds.length,by simp,zZ4 _,[],mc0,zj,.nil,zY2 _,q1⟩,?_⟩
 rintro i n ys τ H2 ⟨rfl,hi,ad,m2,ha,av,had,cw⟩;have sG:zz (Gz F α σ H1) (Gz Fc (xh imp α) τ H2):=fun a o e=>by
  obtain⟨z1,z2⟩:=zh e;exact m2.old a o (zH (p:=fun x=>¬Fc.O0 x) (fun z=>z.elim z1 (zp z2 hacc)) z2)
 obtain⟨w1,w2⟩:=itw i H2 _ sG;by_cases hlt:i<ds.length
 ·have hd:ds[i]?=some ds[i]:=zX7 hlt;have hdr:ds.drop i=ds[i]::ds.drop (i+1):=z74 hlt;rw[hdr] at cw;obtain⟨α1,eb,body⟩:=cw;obtain⟨go,yl⟩:=w1 _ hd;have no1:Nd α1:=fun j a z=>by
   obtain⟨is,ds',_,e⟩:=Pat.is_ok eb;by_cases hn:∀d,a≠.dat d
   ·exact no0 j a (rV e z hn)
   ·simp only[Classical.not_forall,Classical.not_not] at hn;exact .inl hn
  refine .inr ⟨go,fun ys' τ' H'=>∃ad:List PyData,M Fc (xh imp α) τ' H'/\H' acc=some (.lst ys')/\AVs (Gz Fc (xh imp α) τ' H') ys' ad/\ad.length<=i+1/\xO (fun C s2 H2 fp=>X.comp N scope C s2 H2 fp) pat ifs elt (xh imp α) (ds.drop (i+1)) ad Q,
   fun ys' τ' H' ⟨ad',r1,r2,r3,r4,r5⟩=>⟨ds.length-(i+1),by omega,rfl,hlt,ad',r1,r2,r3,r4,r5⟩,fun x H3 y=>?_⟩
  obtain⟨s23,avx⟩:=yl x H3 y;have m3:M Fc (xh imp α) τ H3:=m2.kz (Kz.of_same s23) (m2.tp.same s23);have avx':=avx fun a o _ e=>m2.fresh e;refine fe eb m3 avx' fun τ1 m4 C s2 H2' fp=>?_;refine body C s2 H2' fp Fc τ1 H3 _ m4 fun b H5 qb t5 k5=>?_;have m5:=m4.kz k5 t5;have av5:AVs (Gz Fc (xh imp α) τ1 H5) ys ad:=av.same ((Kz.of_same s23).gz m2.tp |>.trans ((gz (τ2:=τ1) no0 no1).trans ((k5.gz m4.tp).trans (gz no1 no0))));have accN:NT Fc acc:=⟨fun t b c e=>by
   have:=(t1 t b c e).1.free hacc;exact⟨this.1,this.2.1⟩,lh t1.tab hacc⟩
  have ha5:H5 acc=some (.lst ys):=k5 _ _ (s23 _ _ ha) accN;cases b with
  |false=>
   have qb':xO (fun C s2 H2 fp=>X.comp N scope C s2 H2 fp) pat ifs elt (xh imp α) (ds.drop (i+1)) ad Q:=by simpa using qb
   exact uF ⟨ad,Pat.back eb hfree m5,ha5,av5,by omega,qb'⟩
  |true=>
   refine ux fun C s2 H2'' fp=>?_;have qe:EvD (X.comp N scope C s2 H2'' fp) α1 elt fun y=>xO (fun C s2 H2 fp=>X.comp N scope C s2 H2 fp) pat ifs elt (xh imp α) (ds.drop (i+1)) (ad++[y]) Q:=by
    have z:=qb;rw[if_pos rfl] at z;exact z C s2 H2'' fp
   refine qe Fc τ1 H5 _ m5 fun y v H6 qy t6 k6 r6=>?_;have m6:=m5.kz k6 t6;have ha6:H6 acc=some (.lst ys):=k6 _ _ ha5 accN;have hlen:ys.length<=i:=by rw[av.length];exact had
   have oacc:Fc.O0 acc:=.inr rfl;have tacc:∀t b c,Fc.tp=some (t,b,c)->acc≠t/\acc≠b/\acc≠c:=fun t b c e=>(t1 t b c e).1.free hacc;have m7:=(Pat.back eb hfree m6).wr (o:=.lst (ys++[v])) xt oacc tacc hacc (oS ha6) (fun i r q z=>by rcases no0 i _ z with ⟨d,w⟩|w<;>cases w);refine⟨ha6,yS (by omega),ad++[y],m7,zj,?_,by simp;omega,qy⟩;have g67:zz (Gz Fc (xh imp α) τ1 H6) (Gz Fc (xh imp α) τ1 (upd H6 acc (.lst (ys++[v])))):=zx fun a o h e=>⟨h,by rw[zf (fun z=>h (.inl (by rw[z];exact oacc)))];exact e⟩;exact ((av5.same ((gz (τ2:=τ1) no0 no1).trans ((k6.gz m5.tp).trans (gz no1 no0)))).append (.cons (r6.same (gz no1 no0)) .nil)).same g67
 ·have e:i=ds.length:=by omega
  subst e;rw[yb1] at cw;refine .inl ⟨w2 (zY2 _),k ad _ H2 cw ?_ (k1.trans m2.keep) (xu.back m k1 t1 ⟨acc,ys,rfl,hacc,ha,av.same (zx fun a o h e=>⟨⟨fun z=>h (.inl (.inl z)),fun z=>h (.inl (.inr z))⟩,e⟩)⟩)⟩;exact m.tp.re m2.tp rfl
theorem aV {N:List Str}{imp:List (Option Nat)}{scope:Scope}{tg iter elt:Expr}{ifs:List Expr}{pat:Pat}{Q:List PyData->Prop}{pos:Pos}(hc:X.calm=true)(S:zQ X.N X.env.scope N imp scope)(hfree:pat.free (xh imp α)=true)
  (hg:∀C s2 H2 fp,PG (X.comp N scope C s2 H2 fp) tg (ky X.K pat))
  (h:EvI X α tg iter fun ds=>ds.length<=1000/\xO (fun C s2 H2 fp=>X.comp N scope C s2 H2 fp) pat ifs elt (xh imp α) ds [] Q) (hs:∀x,foldedSetIterable iter X.env x=pure x:=by intro _;rfl):
  EvL X α (.ListComp elt [⟨tg,iter,ifs,0⟩] scope pos) Q:=fun F σ H R m k=>by
 obtain⟨Y,rfl,h⟩:=gQ hfree h F σ H R m k;exact⟨_,zA6 hc S mL hg (fun C s2 H2 fp pins s σ H Q I h=>fX pins s σ H Q I (h C s2 H2 fp)) (fun C s2 H2 fp pins s σ H Q I h=>zk pins s σ H Q I (h C s2 H2 fp)) hs,h⟩
section
variable {E:xi}{rest body:List Stmt}{e c tg iter:Expr}{pos p:Pos}
theorem kL.then {F:Fr}{D:Ends}(h:kL F E D):kL F {E with nx:=fun α'=>SvS X α' rest E} {D with nx:=zs6 X rest D}:=
 ⟨fun α' σ' H' m q=>q F σ' H' D m h,h.rt,h.bk,h.ct⟩
theorem zA (q:E.nx α):SvS X α [] E:=fun F σ H D m h=>⟨_,yK,h.nx _ _ _ m q⟩
theorem SvS.imp {sts:List Stmt}{E':xi}(h:SvS X α sts E')(hn:∀α,E'.nx α->E.nx α)(hr:∀a,E'.rt a->E.rt a)(hb:∀α,E'.bk α->E.bk α)(hc:∀α,E'.ct α->E.ct α):SvS X α sts E:=fun F σ H D m r=>
 h F σ H D m ⟨fun α σ H m q=>r.nx α σ H m (hn _ q),fun a v H m q=>r.rt a v H m (hr _ q),fun α σ H m q=>r.bk α σ H m (hb _ q),fun α σ H m q=>r.ct α σ H m (hc _ q)⟩
theorem yu (i:Nat){x:Str}{pos':Pos}(hN:X.N.Nodup)(h:EvD X α e fun d=>SvS X (α.set i (some (.dat d))) rest E)(hi:X.N[i]?=some x:=by rfl)(hx:Loc X.env.scope x:=by first|exact Or.inl rfl|exact Or.inr rfl)
  (hs:swapsWith e (some (.Name x pos')) pos.line X.env=pure false:=by rfl) (hf:X.fn x=true\/X.env.scope.names.lookup x=some .local:=by first|exact .inl rfl|exact .inr rfl|assumption):SvS X α (.Assign [.Name x pos'] e pos::rest) E:=fun F σ H D m r=>by
 refine⟨_,zN (wY hN hi hx zk hs hf) yg,?_⟩;exact h F σ H _ m fun d v H1 q1 t1 k1 r1=>q1 F _ H1 D ((m.kz k1 t1).set r1) r
theorem xj (i:Nat){x:Str}{pos':Pos}(hN:X.N.Nodup)(h:EvL X α e fun ds=>SvS X (α.set i (some (.own ds))) rest E)(hi:X.N[i]?=some x:=by rfl)(hx:Loc X.env.scope x:=by first|exact Or.inl rfl|exact Or.inr rfl)
  (hs:swapsWith e (some (.Name x pos')) pos.line X.env=pure false:=by rfl) (hf:X.fn x=true\/X.env.scope.names.lookup x=some .local:=by first|exact .inl rfl|exact .inr rfl|assumption):SvS X α (.Assign [.Name x pos'] e pos::rest) E:=fun F σ H D m r=>by
 refine⟨_,zN (wY hN hi hx zk hs hf) yg,?_⟩;exact h F σ H _ m fun d v H1 q1 t1 k1 r1=>q1 F _ H1 D (m.setOwn t1 k1 r1) r
theorem aI (i:Nat){x:Str}{pos' cpos:Pos}{N:List Str}{imp:List (Option Nat)}{scope:Scope}{elt:Expr}{ifs:List Expr}{pat:Pat}(hN:X.N.Nodup)(hc:X.calm=true)(S:zQ X.N X.env.scope N imp scope)(hfree:pat.free (xh imp α)=true)
  (hg:∀C s2 H2 fp,PG (X.comp N scope C s2 H2 fp) tg (ky X.K pat))
  (h:EvI X α tg iter fun ds=>ds.length<=1000/\xO (fun C s2 H2 fp=>X.comp N scope C s2 H2 fp) pat ifs elt (xh imp α) ds [] fun ds=>SvS X (α.set i (some (.own ds))) rest E)
  (hi:X.N[i]?=some x:=by rfl) (hx:Loc X.env.scope x:=by first|exact Or.inl rfl|exact Or.inr rfl) (hsw:swapsWith (.ListComp elt [⟨tg,iter,ifs,0⟩] scope cpos) (some (.Name x pos')) pos.line X.env=pure true:=by rfl)
  (hf:X.fn x=true\/X.env.scope.names.lookup x=some .local:=by first|exact .inl rfl|exact .inr rfl|assumption) (hs:∀x,foldedSetIterable iter X.env x=pure x:=by intro _;rfl):
  SvS X α (.Assign [.Name x pos'] (.ListComp elt [⟨tg,iter,ifs,0⟩] scope cpos) pos::rest) E:=fun F σ H D m r=>by
 obtain⟨Y,rfl,h⟩:=gQ hfree h F σ H (fun v H'=>zs6 X rest D (σ.set i (some v)) H') m fun ds v H' q t k fl=>q F _ H' D (m.setOwn t k fl) r;exact⟨_,zN (zi0 hc S mL hg (fun C s2 H2 fp pins s σ H Q I h=>fX pins s σ H Q I (h C s2 H2 fp)) (fun C s2 H2 fp pins s σ H Q I h=>zk pins s σ H Q I (h C s2 H2 fp)) hN hi hx hsw hf hs) yg,h⟩
theorem sY.dat {F:Fr}{σ:St}{H:Hp}{v:V}{d:PyData}(m:M F α σ H)(r:AV (Gz F α σ H) v d):sY F v H (.dat d):=
 ⟨m.tp,m.keep,r.same (zx fun a o h e=>⟨ow0 h,e⟩)⟩
theorem wJ (h:EvD X α e fun d=>E.rt (.dat d)):SvS X α (.Return (some e) pos::rest) E:=fun F σ H D m r=>by
 refine⟨_,zN (zC zk) yg,?_⟩;exact h F σ H _ m fun d v H1 q1 t1 k1 r1=>r.rt _ _ _ (sY.dat (m.kz k1 t1) r1) q1
theorem tP (h:EvL X α e fun ds=>E.rt (.own ds)):SvS X α (.Return (some e) pos::rest) E:=fun F σ H D m r=>by
 refine⟨_,zN (zC zk) yg,?_⟩;refine h F σ H _ m fun d v H1 q1 t1 k1 r1=>r.rt _ _ _ ?_ q1;obtain⟨l,xs,h1,h2,h3,h4⟩:=r1;exact⟨t1,m.keep.trans k1,l,xs,_,h1,rfl,m.fresh0 h2,ow0 (m.fresh h2),h3,h4.same (zx fun a o h e=>⟨⟨ow0 h.1,h.2⟩,e⟩)⟩
theorem xD (i:Nat){x:Str}{ds:List PyData}(hi:α[i]?=some (some (.own ds)))(q:E.rt (.own ds))(hN:X.N[i]?=some x:=by rfl)(hv:Vis X.env.scope x:=by first|exact Or.inl rfl|exact Or.inr (Or.inl rfl)|exact Or.inr (Or.inr rfl))
  (hd:(x == ("__debug__":Str))=false:=by decide) (hcd:(x == ("__classdict__":Str))=false:=by decide):SvS X α (.Return (some (.Name x p)) pos::rest) E:=fun F σ H D m r=>by
 obtain⟨l,xs,h1,h2,h3,h4,h5⟩:=m.own i ds hi;refine⟨_,zN (zC (xK hN hv hd hcd)) yg,.ref l,h1,r.rt (.own ds) _ _ ⟨m.tp,m.keep,l,xs,_,rfl,rfl,h5,h4,h2,h3.same (zx fun a o h e=>⟨⟨ow0 h,fun z=>h (by rw[z];exact .inr ⟨i,_,_,hi,h1,rfl⟩)⟩,e⟩)⟩ q⟩
theorem zq5 (i:Nat){x:Str}{pos':Pos}(hN:X.N.Nodup)(h:EvC X α e fun c=>SvS X (α.set i (some (.ow c))) rest E)(hi:X.N[i]?=some x:=by rfl)(hx:Loc X.env.scope x:=by first|exact Or.inl rfl|exact Or.inr rfl)
  (hs:swapsWith e (some (.Name x pos')) pos.line X.env=pure false:=by rfl) (hf:X.fn x=true\/X.env.scope.names.lookup x=some .local:=by first|exact .inl rfl|exact .inr rfl|assumption):SvS X α (.Assign [.Name x pos'] e pos::rest) E:=fun F σ H D m r=>by
 refine⟨_,zN (wY hN hi hx zk hs hf) yg,?_⟩;exact h F σ H _ m fun d v H1 q1 t1 k1 r1=>q1 F _ H1 D (m.setC t1 k1 r1) r
theorem yQ {a b:List Stmt}(h:EvT X α c fun k=>SvS X α (if k=true then a else b) {E with nx:=fun α'=>SvS X α' rest E}):SvS X α (.If c a b pos::rest) E:=fun F σ H D m r=>by
 refine⟨_,zN (wx xR yg yg) yg,?_⟩;refine h F σ H _ m fun k H1 q1 t1 k1=>?_;cases k with
 |true=>exact ux ((by simpa using q1:SvS X α a _) F σ H1 _ (m.kz k1 t1) r.then)
 |false=>exact uF ((by simpa using q1:SvS X α b _) F σ H1 _ (m.kz k1 t1) r.then)
theorem jr (i:Nat){ds:List PyData}{sts:List Stmt}(hi:α[i]?=some (some (.own ds)))(h:SvS X (α.set i (some (.dat (.list ds)))) sts E):SvS X α sts E:=fun F σ H D m r=>h F σ H D (m.frz hi) r
theorem M.wrC {F:Fr}{σ:St}{H:Hp}{i:Nat}{c c':PyData}{l:Addr}{o':HO}(m:M F α σ H)(hi:α[i]?=some (some (.ow c)))(hl:σ[i]?=some (some (.ref l)))(av:yZ (Gz F α σ H) o' c'):
  M F (α.set i (some (.ow c'))) σ (upd H l o'):=by
 obtain⟨l',o,h1,h2,h3,h4,h5⟩:=m.owc i c hi;rw[hl] at h1;cases h1;have hs:∀{j:Nat} {a:A} {s:Option V},(α.set i (some (.ow c')))[j]?=some (some a)->σ[j]?=some s->(i=j/\a=.ow c'/\s=some (.ref l))\/(i≠j/\α[j]?=some (some a)):=fun {j a s} e1 e2=>by
  rcases yc e1 with ⟨rfl,z⟩|⟨hj,e1'⟩
  ·cases z;rw[hl] at e2;cases e2;exact .inl ⟨rfl,rfl,rfl⟩
  ·exact .inr ⟨hj,e1'⟩
 have oww:∀{y:Addr},Ow F (α.set i (some (.ow c'))) σ y->Ow F α σ y:=fun {y} h=>by
  rcases h with z|⟨j,a,s,e1,e2,f⟩
  ·exact .inl z
  ·rcases hs e1 e2 with ⟨rfl,rfl,rfl⟩|⟨hj,e1'⟩
   ·exact .inr ⟨i,_,_,hi,hl,f⟩
   ·exact .inr ⟨j,a,s,e1',e2,f⟩
 have ol:Ow F α σ l:=.inr ⟨i,_,_,hi,hl,rfl⟩;have gs:zz (Gz F α σ H) (Gz F (α.set i (some (.ow c'))) σ (upd H l o')):=zx fun a o h e=>⟨fun z=>h (oww z),by rw[zf (fun z=>h (by rw[z];exact ol))];exact e⟩;refine⟨by rw[z53];exact m.len,fun j a s e1 e2=>?_,fun j j' a b s t x e1 e2 q1 q2 f1 f2=>?_,fun j r q e j' a s x e1 e2 f=>?_,m.tp.updO h4 (h3.plain h2),fun y o e n=>?_,fun y hy=>?_⟩
 ·rcases hs e1 e2 with ⟨rfl,rfl,rfl⟩|⟨hj,e1'⟩
  ·exact⟨l,o',rfl,zj,av.same gs,h4,h5⟩
  ·refine (m.ok j a s e1' e2).stay gs (fun y u f e=>?_) rfl fun r q ea k=>⟨k.tp,k.o,k.ok.updO (fun z=>h4 (k.o _ z)) (h3.plain h2),fun y u e n=>?_⟩
   ·obtain⟨w1,w2,_⟩:=m.ft e1' e2 f;refine⟨?_,w1,w2⟩;rw[zf fun z=>hj (m.dj i j _ a _ s l hi e1' hl e2 rfl (by rw[<-z];exact f))];exact e
   ·rw[zf (zp e (m.xd j r q (by rw[<-ea];exact e1') i _ _ l hi hl rfl))];exact k.k y u e n
 ·rcases hs e1 q1 with ⟨rfl,rfl,rfl⟩|⟨hj,e1'⟩
  ·rcases hs e2 q2 with ⟨rfl,_⟩|⟨hj',e2'⟩
   ·rfl
   ·exact m.dj i j' _ b _ t x hi e2' hl q2 f1 f2
  ·rcases hs e2 q2 with ⟨rfl,rfl,rfl⟩|⟨hj',e2'⟩
   ·exact m.dj j i a _ s _ x e1' hi q1 hl f1 f2
   ·exact m.dj j j' a b s t x e1' e2' q1 q2 f1 f2
 ·rcases yc e with ⟨_,z⟩|⟨_,e'⟩
  ·cases z
  ·rcases hs e1 e2 with ⟨rfl,rfl,rfl⟩|⟨_,e1'⟩
   ·exact m.xd j r q e' i _ _ x hi hl f
   ·exact m.xd j r q e' j' a s x e1' e2 f
 ·rw[zf (zp e h5)];exact m.keep y o e n
 ·rw[zf (fun z=>h4 (by rw[<-z];exact hy))];exact m.oex y hy
theorem M.wrOwn {F:Fr}{σ:St}{H:Hp}{i:Nat}{ds es:List PyData}{l:Addr}{ys:List V}(m:M F α σ H)(hi:α[i]?=some (some (.own ds)))(hl:σ[i]?=some (some (.ref l)))(av:AVs (Gz F α σ H) ys es):
  M F (α.set i (some (.own es))) σ (upd H l (.lst ys)):=m.wrC hi hl (.lst av)
theorem yD (i:Nat){x:Str}{ds:List PyData}{p1 p2 p3:Pos}(hi:α[i]?=some (some (.own ds)))(h:EvD X α e fun d=>ds.length<1000/\SvS X (α.set i (some (.own (ds++[d])))) rest E)
  (hN:X.N[i]?=some x:=by rfl) (hv:Vis X.env.scope x:=by first|exact Or.inl rfl|exact Or.inr (Or.inl rfl)|exact Or.inr (Or.inr rfl)) (hd:(x == ("__debug__":Str))=false:=by decide) (hcd:(x == ("__classdict__":Str))=false:=by decide)
  (hbase:attributeBase (.Name x p1) "append" X.env (eval (.Name x p1) X.env)=eval (.Name x p1) X.env:=by rfl) (hs:starEach [e] X.env=(false,eval e X.env)::starEach [] X.env:=by rfl)
  (hpl:((((backTo p3 (starEach [e] X.env)).all fun x=>!x.fst)&&(backToKw p3 (keywordEach [] X.env)).all fun x=>x.fst.isSome)&&decide (([e].length+([]:List Keyword).length+if ([]:List Keyword).isEmpty=true then 0 else 1)<30))=true:=by rfl)
  (hline:(p2.endLine == p3.line)=true:=by rfl) (hsw:swapsWith (.Call (.Attribute (.Name x p1) "append" p2) [e] [] p3) none pos.line X.env=pure false:=by rfl):SvS X α (.Expr (.Call (.Attribute (.Name x p1) "append" p2) [e] [] p3) pos::rest) E:=fun F σ H D m r=>by
 obtain⟨l,xs,h1,h2,h3,h4,h5⟩:=m.own i ds hi;refine⟨_,zN (eu (zA0 PySem.F.plainAttrs_list PySem.F.slot_list_append PySem.F.type_list_append oC (xK hN hv hd hcd) (zd zk zu hs) hbase hpl hline hs) hsw) yg,?_⟩;refine⟨.ref l,h1,.inl ⟨rfl,_,SqL.of h2⟩,?_⟩;refine h F σ H _ m fun d v H1 q1 t1 k1 r1=>?_;have m1:=m.kz k1 t1;refine⟨l,xs,v,rfl,rfl,k1 _ _ h2 (m.tp.nt h4),by rw[h3.length];exact yS (z63 q1.1),?_⟩;exact q1.2 F σ _ D (m1.wrOwn hi h1 ((h3.same (k1.gz m.tp)).append (.cons r1 .nil))) r
theorem zK9 (i:Nat){x:Str}{ix:Expr}{ds:List PyData}{p1 p2:Pos}(hi:α[i]?=some (some (.own ds)))(h:EvD X α e fun d=>EvD X α ix fun y=>∃k j,y=.int k/\ixN ds.length k=some j/\SvS X (α.set i (some (.own (ds.set j d)))) rest E)
  (hN:X.N[i]?=some x:=by rfl) (hv:Vis X.env.scope x:=by first|exact Or.inl rfl|exact Or.inr (Or.inl rfl)|exact Or.inr (Or.inr rfl)) (hd:(x == ("__debug__":Str))=false:=by decide) (hcd:(x == ("__classdict__":Str))=false:=by decide)
  (hs:swapsWithSole [.Subscript (.Name x p1) ix p2] e pos.line X.env=pure false:=by rfl) (hw:swappedStores [.Subscript (.Name x p1) ix p2] e X.env=pure none:=by rfl)
  (ha:(assignEach [.Subscript (.Name x p1) ix p2] X.env).map (·.2)=[assign (.Subscript (.Name x p1) ix p2) X.env]:=by rfl) (hps:PG X (.Subscript (.Name x p1) ix p2) (zT6 (zK0 i) (tf X ix) zz2):=by exact jy (xK rfl (by first|exact Or.inl rfl|exact Or.inr (Or.inl rfl)|exact Or.inr (Or.inr rfl))) zk set_list):
  SvS X α (.Assign [.Subscript (.Name x p1) ix p2] e pos::rest) E:=fun F σ H D m r=>by
 obtain⟨l,xs,h1,h2,h3,h4,h5⟩:=m.own i ds hi;refine⟨_,zN (jF zk hps hs hw ha) yg,?_⟩;refine h F σ H _ m fun d v H1 q1 t1 k1 r1=>?_;have m1:=m.kz k1 t1;refine⟨.ref l,h1,?_⟩;refine q1 F σ H1 _ m1 fun y vy H2 q2 t2 k2 r2=>?_;have m2:=m1.kz k2 t2;obtain⟨k,j,rfl,hj,q⟩:=q2;cases r2.int_inv;refine⟨l,xs,k,j,rfl,rfl,k2 _ _ (k1 _ _ h2 (m.tp.nt h4)) (m.tp.nt h4),by rw[h3.length];exact hj,?_⟩;exact q F σ _ D (m2.wrOwn hi h1 (((h3.same (k1.gz m.tp)).same (k2.gz m1.tp)).set (r1.same (k2.gz m1.tp)) j)) r
def sZ (X:Cx)(pat:Pat)(body rest:List Stmt)(E:xi):List PyData->Ev->Prop
 |[],α=>SvS X α rest E
 |d::ds,α=>∃α1,pat.bind d α=some α1/\SvS X α1 body {nx:=sZ X pat body rest E ds,ct:=sZ X pat body rest E ds,bk:=fun α'=>SvS X α' rest E,rt:=E.rt}
theorem vZ {pat:Pat}(hp:PassesOwn (model X.prog X.w) X.A X.env X.xe)(hc:X.calm=true)(hg:PG X tg (ky X.K pat))(h:EvI X α tg iter fun ds=>sZ X pat body rest E ds α)
  (hs:∀x,foldedSetIterable iter X.env x=pure x:=by intro _;rfl):SvS X α (.For tg iter body [] pos::rest) E:=fun F σ H D m r=>by
 refine⟨_,zN (zH8 hp hc mL hg yg hs) yg,?_⟩;refine h F σ H _ m fun ds J H1 q1 t1 k1 itw=>?_;have m1:=m.kz k1 t1;have mu:=m1.up;have ru:kL (F.up (Gz F α σ H1)) E D:=r.up;refine⟨fun i n σ' H'=>n=ds.length-i/\i<=ds.length/\∃α',M (F.up (Gz F α σ H1)) α' σ' H'/\sZ X pat body rest E (ds.drop i) α',⟨ds.length,by simp,zZ4 _,α,mu,q1⟩,?_⟩;rintro i n σ' H' ⟨rfl,hi,α',m',lw⟩;obtain⟨w1,w2⟩:=itw i H' _ (m1.upold m');by_cases hlt:i<ds.length
 ·have hd:ds[i]?=some ds[i]:=zX7 hlt;rw[z74 hlt] at lw;obtain⟨α1,eb,body⟩:=lw;obtain⟨go,yl⟩:=w1 _ hd;refine .inr ⟨go,fun σ'' H''=>∃α',M (F.up (Gz F α σ H1)) α' σ'' H''/\sZ X pat _ rest E (ds.drop (i+1)) α',fun σ'' H'' ⟨α'',r1,r2⟩=>⟨ds.length-(i+1),by omega,rfl,hlt,α'',r1,r2⟩,fun x H3 y=>?_⟩;obtain⟨s23,avx⟩:=yl x H3 y;have m3:=m'.kz (Kz.of_same s23) (m'.tp.same s23);refine fe eb m3 (avx fun a o _ e=>m'.fresh e) fun σ1 m4=>?_;exact body _ σ1 H3 _ m4 ⟨fun α2 σ2 H2 m2 q=>⟨α2,m2,q⟩,ru.rt,fun α2 σ2 H2 m2 q=>q _ σ2 H2 D m2 ru,fun α2 σ2 H2 m2 q=>⟨α2,m2,q⟩⟩
 ·have e:i=ds.length:=by omega
  subst e;rw[yb1] at lw;exact .inl ⟨w2 (zY2 _),lw _ σ' H' D m' ru⟩
theorem zX {pat:Pat}{ds:List PyData}(P:Nat->Ev->Prop)(h0:P 0 α)(hs:∀i d α,ds[i]?=some d->P i α->∃α1,pat.bind d α=some α1/\SvS X α1 body {nx:=P (i+1),ct:=P (i+1),bk:=fun α'=>SvS X α' rest E,rt:=E.rt})
  (hd:∀α,P ds.length α->SvS X α rest E):sZ X pat body rest E ds α:=by
 have key:∀n i α,n=ds.length-i->i<=ds.length->P i α->sZ X pat body rest E (ds.drop i) α:=by
  intro n
  induction n with
  |zero=>
   intro i α hn hi p;have e:i=ds.length:=by omega
   subst e;rw[yb1];exact hd α p
  |succ n ih=>
   intro i α hn hi p;have hlt:i<ds.length:=by omega
   rw[z74 hlt];obtain⟨α1,e,b⟩:=hs i ds[i] α (zX7 hlt) p;exact⟨α1,e,b.imp (fun α p=>ih (i+1) α (by omega) hlt p) (fun _ z=>z) (fun _ z=>z) (fun α p=>ih (i+1) α (by omega) hlt p)⟩
 exact key _ 0 α rfl (zZ4 _) h0
end
end
section
variable {P:Program}{w:World}{K:PySem.W.Frag}{mg:Str->Option Value}{base:Heap}
theorem M.start {F:Fr}{N:List Str}{vs:List V}{as:List A}{H:Hp}(e:F.H0=H)(t:zM F H)(o:∀x,F.O0 x->∃u,H x=some u/\vE u)(rv:yA F (sub (fun x=>¬F.O0 x) H) vs as):
  M F (as.map some++List.replicate (N.length-as.length) none) (L2.start N vs) H:=by
 have hl:=rv.length;have g:∀{i:Nat} {a:A},(as.map some++List.replicate (N.length-as.length) none)[i]?=some (some a)->as[i]?=some a:=fun {i a} h=>by
  rcases z97 i as.length with z|z
  ·rw[z58 (by rw[zX5];exact z),zY3,zZ2] at h;obtain⟨b,h1,h2⟩:=h;cases h2;exact h1
  ·rw[z88 (by rw[zX5];exact z),z78] at h;split at h<;>cases h
 have at':∀{vs:List V} {as:List A} {i:Nat} {a:A},yA F (sub (fun x=>¬F.O0 x) H) vs as->as[i]?=some a->∃v,vs[i]?=some v/\cK F (sub (fun x=>¬F.O0 x) H) v a:=by
  intro vs as i a h
  induction h generalizing i with
  |nil=>intro e;simp at e
  |cons h r ih=>
   intro e;cases i with
   |zero=>simp at e;subst e;exact⟨_,rfl,h⟩
   |succ i=>obtain⟨v,h1,h2⟩:=ih (by simpa using e);exact⟨v,by simpa using h1,h2⟩
 have gv:∀{i:Nat} {v:V},vs[i]?=some v->(L2.start N vs)[i]?=some (some v):=fun {i v} h=>by
  have hi:i<vs.length:=(zY0.mp h).1;unfold L2.start;rw[z58 (by rw[zX5];exact hi),zY3,h];rfl
 have no:∀(i:Nat) a,(as.map some++List.replicate (N.length-as.length) none)[i]?=some (some a)->(∃d,a=.dat d)\/a=.tape:=fun i a z=>by
  obtain⟨v,_,h⟩:=at' rv (g z);cases a with
  |dat d=>exact .inl ⟨d,rfl⟩
  |tape=>exact .inr rfl
  |_=>exact h.elim
 have gs:zz (sub (fun x=>¬F.O0 x) H) (Gz F (as.map some++List.replicate (N.length-as.length) none) (L2.start N vs) H):=zx fun a o h e=>⟨fun z=>z.elim h fun⟨i,b,s,e1,_,f⟩=>by
  rcases no i b e1 with ⟨d,rfl⟩|rfl
  ·exact f.elim
  ·exact f.elim,e⟩
 refine⟨by unfold L2.start;simp[hl],fun i a s e1 e2=>?_,fun i j a b s t x e1 _ _ _ f=>?_,fun i r q z=>(by rcases no i _ z with ⟨d,w⟩|w<;>cases w),t,fun x o' h _=>by rw[<-e];exact h,o⟩
 ·obtain⟨v,h1,h2⟩:=at' rv (g e1);rw[gv h1] at e2;cases e2;rcases no i a e1 with ⟨d,rfl⟩|rfl
  ·exact⟨v,rfl,AV.same gs h2⟩
  ·obtain⟨t',b,c,h3,rfl⟩:=h2;exact⟨t',b,c,h3,rfl⟩
 ·rcases no i a e1 with ⟨d,rfl⟩|rfl
  ·exact f.elim
  ·exact f.elim
theorem fnA {x qual:Str}{st:Stmt}{f:Addr}{fd:FuncData}{N ps:List Str}{k:Nat}{φ:List A->(A->Prop)->Prop}(G:Fun K x qual st f fd)(S:zm N ps (zb st))(hlen:∀as Q,φ as Q->as.length=ps.length)
  (hbody:∀(cdv:Value) (A':Around) (outer:List Env) (s:Shared) (H:Hp) (E:XK) (as:List A) (Q:A->Prop),zS k (A'.deeper (envOfC qual (zb st) s.heap.objs.size f cdv))->φ as Q->
   SvS (uv CX0 P w K mg base N qual (zb st) f cdv A' outer s H E).nox (as.map some++List.replicate (N.length-as.length) none) (zy st) {nx:=fun _=>Q (.dat .none),rt:=Q}):zF P w K mg base CX0 (k+1) f fd ps (spA φ):=by
 refine G.ok S (fun vs H Q E h=>?_) (fun cdv A' outer s H vs Qc E hr h=>?_)
 ·obtain⟨F,as,Q',_,_,_,rv,hφ,_⟩:=h;rw[rv.length,hlen as _ hφ]
 ·obtain⟨F,as,Q',e,t,o,rv,hφ,kk⟩:=h;refine hbody cdv A' outer s H E as Q' hr hφ F _ H _ (M.start e t o rv) ⟨fun α σ H' m q=>?_,fun a v H' r q=>kk a v H' q r,fun _ _ _ _ z=>z.elim,fun _ _ _ _ z=>z.elim⟩;exact kk _ _ _ q ⟨m.tp,m.keep,.non⟩
end
section
variable {X:Cx}{pins:List (Addr×Obj)}{σ:St}{H:Hp}{s:Shared}{h':Heap}
theorem Inv.turnL {t':Nat}{ch:List Addr}(I:Inv X pins σ H s)(k:∀b o,b∉ch->s.heap.get? b=some o->h'.get? b=some o)(hf:∀b∈ch,xH X pins H b):Inv X pins σ H {s with heap:=h',toks:=t'}:=by
 have nit:∀b u,H b=some u->b∉ch:=fun b u e z=>by rw[(hf b z).1] at e;cases e
 refine I.step (g':=s.gens) (d':=s.drawn) (ch:=ch) (fun b hb=>?_) (fun b o _ _ hc e _=>k b o hc e) (fun b o _ _ hc e _=>⟨o.slots,k b o hc e⟩) (fun _ _ _ _ n=>n)
  (fun b o hc e=>⟨o,k b o hc e⟩) (fun _ _ e=>e) (fun _ _ _ e=>e) (fun b ps e=>⟨#[],by rw[e];simp⟩) (fun m hm=>?_) (fun b u e=>?_) I.bare
 ·obtain⟨_,f1,_,f3,f4,f5⟩:=hf b hb;exact⟨f3,f1,f4,f5⟩
 ·obtain⟨o,es,ep,ho,r⟩:=hm;exact⟨o,es,ep,k _ o (fun z=>(hf _ z).2.1 rfl) ho,r⟩
 ·refine (I.hok b u e).stay (fun c v hc q=>k c v ?_ q) (fun _ q=>q) fun _ _ q=>q;rcases hc with z|z
  ·rw[z];exact nit b u e
  ·exact nit c _ z
theorem Inv.turnLay {t':Nat}{ch:List Addr}{T:Addr}{o:HO}(I:Inv X pins σ H s)(k:∀b o,b∉ch->s.heap.get? b=some o->h'.get? b=some o)(hf:∀b∈ch,xH X pins H b)(hT:s.heap.objs.size<=T)(new:zP X.prog X.w (upd H T o) h' T o):
  Inv X pins σ (upd H T o) {s with heap:=h',toks:=t'}:=by
 have nit:∀b u,H b=some u->b∉ch:=fun b u e z=>by rw[(hf b z).1] at e;cases e
 have hn:H T=none:=I.hok.fresh hT;have lt:∀{b:Addr} {u:Obj},s.heap.get? b=some u->b≠T:=fun e=>zZ7 (z01 (zY5 e) hT);refine I.step (g':=s.gens) (d':=s.drawn) (ch:=ch) (fun b hb=>?_) (fun b o _ _ hc e _=>k b o hc e) (fun b o _ _ hc e _=>⟨o.slots,k b o hc e⟩) (fun b u _ e n=>by rw[zf (lt e)];exact n)
  (fun b o hc e=>⟨o,k b o hc e⟩) (fun b xs e=>by rw[zf (zp e hn)];exact e) (fun b u xs e=>by rw[zf (zp e hn)];exact e) (fun b ps e=>⟨#[],by rw[zf (zp e hn),e];simp⟩) (fun m hm=>?_) (fun b u e=>?_) I.bare
 ·obtain⟨_,f1,_,f3,f4,f5⟩:=hf b hb;exact⟨f3,f1,f4,f5⟩
 ·obtain⟨o,es,ep,ho,r⟩:=hm;exact⟨o,es,ep,k _ o (fun z=>(hf _ z).2.1 rfl) ho,r⟩
 ·by_cases hb:b=T
  ·subst hb;rw[zj] at e;cases e;exact new
  ·rw[zf hb] at e;refine (I.hok b u e).stay (fun c v hc q=>k c v ?_ q) (fun c q=>by rw[zf (zp q hn)];exact q) fun c xs q=>by rw[zf (zp q hn)];exact q
   rcases hc with z|z
   ·rw[z];exact nit b u e
   ·exact nit c _ z
end
theorem tJ {a b:Nat}(h:a<b):(a:Addr)≠b:=zZ7 h
theorem zg5 {a b:Nat}(h:b<a):(a:Addr)≠b:=z95 h
theorem dY (n l1 l2:Nat)(h1:l1<n)(h2:l2<n):ZipApart (n+4) (n+2) (n+3) n (n+1) l1 l2 where
 TIz:=tJ (a:=n+2) (b:=n+4) (by omega)
 TOz:=tJ (a:=n+3) (b:=n+4) (by omega)
 i1z:=tJ (a:=n) (b:=n+4) (by omega)
 i2z:=tJ (a:=n+1) (b:=n+4) (by omega)
 TITO:=tJ (a:=n+2) (b:=n+3) (by omega)
 TIi1:=zg5 (a:=n+2) (b:=n) (by omega)
 TIi2:=zg5 (a:=n+2) (b:=n+1) (by omega)
 TOi1:=zg5 (a:=n+3) (b:=n) (by omega)
 TOi2:=zg5 (a:=n+3) (b:=n+1) (by omega)
 i12:=tJ (a:=n) (b:=n+1) (by omega)
 l1z:=tJ (a:=l1) (b:=n+4) (by omega)
 l1TO:=tJ (a:=l1) (b:=n+3) (by omega)
 l1i1:=tJ (a:=l1) (b:=n) (by omega)
 l1i2:=tJ (a:=l1) (b:=n+1) (by omega)
 l2z:=tJ (a:=l2) (b:=n+4) (by omega)
 l2TO:=tJ (a:=l2) (b:=n+3) (by omega)
 l2i1:=tJ (a:=l2) (b:=n) (by omega)
 l2i2:=tJ (a:=l2) (b:=n+1) (by omega)
noncomputable def Itz (K:PySem.W.Frag)(l1 l2:Addr):It:=
 ⟨fun i H=>∃xs ys x y,SqL K H l1 xs/\SqL K H l2 ys/\xs[i]?=some x/\ys[i]?=some y,
  fun i H v H'=>∃T x y,v=.ref T/\H T=none/\H'=upd H T (.tup [x,y])/\(∀xs,SqL K H l1 xs->xs[i]?=some x)/\∀ys,SqL K H l2 ys->ys[i]?=some y,
  fun i H=>∃xs ys,SqL K H l1 xs/\SqL K H l2 ys/\(xs.length<=i\/ys.length<=i)⟩
noncomputable def Ite (K:PySem.W.Frag)(l:Addr):It:=
 ⟨fun i H=>∃xs x,SqL K H l xs/\xs[i]?=some x,
  fun i H v H'=>∃T x,v=.ref T/\H T=none/\H'=upd H T (.tup [.int i,x])/\∀xs,SqL K H l xs->xs[i]?=some x,
  fun i H=>∃xs,SqL K H l xs/\xs.length<=i⟩
theorem zk9 {P:Program}{w:World}{K:PySem.W.Frag}{elts:List Expr}{kk:Nat}{pos:Pos}{z TI TO i1 i2 l1 l2:Addr}(D:ZipApart z TI TO i1 i2 l1 l2):
  Turn P w K (.Tuple elts kk pos) (Itz K l1 l2) [z,TI,TO,i1,i2] z (fun i h=>IsZip h z TI TO .none/\IsPair h TI (.ref i1) (.ref i2)/\(∃a b,IsPair h TO a b)/\h.IsListIter i1 l1 i/\h.IsListIter i2 l2 i) where
 mem:=by simp
 obj:=fun i h st b hb=>by
  obtain⟨h1,h2,⟨a,c,h3⟩,⟨o1,e1,_,d1⟩,⟨o2,e2,_,d2⟩⟩:=st;simp only[zY1,zZ3,z23] at hb;rcases hb with rfl|rfl|rfl|rfl|rfl
  ·exact⟨_,h1,fun v z=>by cases (show Data.fields _=Data.cell v from z)⟩
  ·exact⟨_,h2,fun v z=>by cases (show Data.seq _ _=Data.cell v from z)⟩
  ·exact⟨_,h3,fun v z=>by cases (show Data.seq _ _=Data.cell v from z)⟩
  ·exact⟨o1,e1,fun v z=>by rw[d1] at z;cases z⟩
  ·exact⟨o2,e2,fun v z=>by rw[d2] at z;cases z⟩
 keep:=fun i h h' st k=>by
  obtain⟨h1,h2,⟨a,c,h3⟩,h4,h5⟩:=st;exact⟨k z (by simp) _ h1,k TI (by simp) _ h2,⟨a,c,k TO (by simp) _ h3⟩,h4.at fun o e=>k i1 (by simp) o e,h5.at fun o e=>k i2 (by simp) o e⟩
 item:=by
  intro X hP hw hK hc i pins s σ H E I hf st hg;subst hP hw hK;obtain⟨xs,ys,x,y,hq1,hq2,hx,hy⟩:=hg;obtain⟨its1,rv1,p1,hz1⟩:=I.list hq1;obtain⟨its2,rv2,p2,hz2⟩:=I.list hq2;obtain⟨u,hu,ru⟩:=rv1.get hx;obtain⟨v,hv,rv⟩:=rv2.get hy;obtain⟨h1,h2,⟨a,c,h3⟩,h4,h5⟩:=st;refine wpAny_pyNext_zip_item D h1 h2 h3 h4 h5 p1.isList p2.isList (x:=u) (y:=v) (by simpa using hu) (by simpa using hv) fun h' a1 a2 a3 a4 a5 a6 hk=>⟨_,rfl,?_⟩;refine wpAny_letOwnedTupleGo_zip (s:={s with heap:=h'}) a1 fun h'' b1 b2=>?_;have hTz:s.heap.objs.size≠z:=z95 (zY5 h1);have hk2:∀b o,b∉[z,TI,TO,i1,i2]->s.heap.get? b=some o->h''.get? b=some o:=fun b o hb e=>by
   simp only[zY1,zZ3,z23,not_or] at hb;exact b2.extBut _ _ hb.1 (hk b o hb.1 hb.2.2.1 hb.2.2.2.1 hb.2.2.2.2 e)
  have gT:h''.get? s.heap.objs.size=some {cls:=.type "tuple",data:=.seq #[u,v]}:=b2.extBut _ _ hTz a5;have J:=I.turnLay (t':=s.toks) (T:=s.heap.objs.size) (o:=.tup [x,y]) hk2 hf (zY2 _) ⟨by show 2<=sizeLine;decide,[u,v],.cons ru (.cons rv .nil),_,gT,rfl,0,rfl⟩;refine⟨.ref s.heap.objs.size,_,J,rfl,⟨_,x,y,rfl,I.hok.fresh (zY2 _),rfl,fun zs hz=>by rw[I.list_inj hz hq1];exact hx,fun zs hz=>by rw[I.list_inj hz hq2];exact hy⟩,⟨b1,b2.extBut _ _ D.TIz (hk _ _ D.TIz D.TITO D.TIi1 D.TIi2 h2),⟨u,v,b2.extBut _ _ D.TOz a2⟩,a3.extBut b2.extBut D.i1z,a4.extBut b2.extBut D.i2z⟩,fun b hb=>?_⟩;rw[zf]
  ·exact (hf b hb).1
  ·obtain⟨o,e,_⟩:=(show ∃o,s.heap.get? b=some o/\True from by
    simp only[zY1,zZ3,z23] at hb;obtain⟨o1,e1,_⟩:=h4;obtain⟨o2,e2,_⟩:=h5;rcases hb with rfl|rfl|rfl|rfl|rfl
    ·exact⟨_,h1,trivial⟩
    ·exact⟨_,h2,trivial⟩
    ·exact⟨_,h3,trivial⟩
    ·exact⟨_,e1,trivial⟩
    ·exact⟨_,e2,trivial⟩)
   exact zZ7 (zY5 e)
 done:=by
  intro X hP hw hK hc i pins s σ H E I hf st hg;subst hP hw hK;obtain⟨xs,ys,hq1,hq2,hl⟩:=hg;obtain⟨its1,rv1,p1,hz1⟩:=I.list hq1;obtain⟨its2,rv2,p2,hz2⟩:=I.list hq2;obtain⟨h1,h2,⟨a,c,h3⟩,h4,h5⟩:=st;have e1:=rv1.length;have e2:=rv2.length;refine wpAny_pyNext_zip_end (I.ok.hd hc) D h1 h2 h3 h4 h5 p1.isList p2.isList (hl.imp (fun z=>by simp;omega) fun z=>by simp;omega) fun h' hk=>⟨rfl,?_⟩;exact I.turnL (t':=s.toks) (ch:=[z,TI,TO,i1,i2]) (fun b o hb e=>by
   simp only[zY1,zZ3,z23,not_or] at hb;exact hk b o hb.1 hb.2.2.1 hb.2.2.2.1 hb.2.2.2.2 e) hf
 self:=fun A i s Q E st h=>wpAny_pyIter_zip st.1 h
theorem cJ {P:Program}{w:World}{K:PySem.W.Frag}{elts:List Expr}{kk:Nat}{pos:Pos}{e it l:Addr}(hne:e≠it):
  Turn P w K (.Tuple elts kk pos) (Ite K l) [e,it] e (fun i h=>(∃old,IsEnum h e it i old)/\h.IsListIter it l i) where
 mem:=by simp
 obj:=fun i h st b hb=>by
  obtain⟨⟨old,h1⟩,⟨o1,e1,_,d1⟩⟩:=st;simp only[zY1,zZ3,z23] at hb;rcases hb with rfl|rfl
  ·exact⟨_,h1,fun v z=>by cases (show Data.fields _=Data.cell v from z)⟩
  ·exact⟨o1,e1,fun v z=>by rw[d1] at z;cases z⟩
 keep:=fun i h h' st k=>by
  obtain⟨⟨old,h1⟩,h4⟩:=st;exact⟨⟨old,k e (by simp) _ h1⟩,h4.at fun o q=>k it (by simp) o q⟩
 item:=by
  intro X hP hw hK hc i pins s σ H E I hf st hg;subst hP hw hK;obtain⟨xs,x,hq1,hx⟩:=hg;obtain⟨its1,rv1,p1,hz1⟩:=I.list hq1;obtain⟨u,hu,ru⟩:=rv1.get hx;obtain⟨⟨old,h1⟩,h4⟩:=st;refine wpAny_pyNext_enum_item h1 h4 p1.isList (x:=u) (by simpa using hu) hne fun h' a1 a3 a5 a6 hk=>⟨_,rfl,?_⟩;refine wpAny_letOwnedTupleGo_enum (s:={s with heap:=h',toks:=s.toks+1}) a1 fun h'' b1 b2=>?_;have hTz:s.heap.objs.size≠e:=z95 (zY5 h1);have hk2:∀b o,b∉[e,it]->s.heap.get? b=some o->h''.get? b=some o:=fun b o hb q=>by
   simp only[zY1,zZ3,z23,not_or] at hb;exact b2.extBut _ _ hb.1 (hk b o hb.1 hb.2 q)
  have gT:h''.get? s.heap.objs.size=some {cls:=.type "tuple",data:=.seq #[.int i s.toks,u]}:=b2.extBut _ _ hTz a5;have J:=I.turnLay (t':=s.toks+1) (T:=s.heap.objs.size) (o:=.tup [.int i,x]) hk2 hf (zY2 _) ⟨by show 2<=sizeLine;decide,[.int i s.toks,u],.cons ⟨_,rfl⟩ (.cons ru .nil),_,gT,rfl,0,rfl⟩;refine⟨.ref s.heap.objs.size,_,J,rfl,⟨_,x,rfl,I.hok.fresh (zY2 _),rfl,fun zs hz=>by rw[I.list_inj hz hq1];exact hx⟩,⟨⟨u,by simpa using b1⟩,a3.extBut b2.extBut hne.symm⟩,fun b hb=>?_⟩;rw[zf]
  ·exact (hf b hb).1
  ·obtain⟨o,q,_⟩:=(show ∃o,s.heap.get? b=some o/\True from by
    simp only[zY1,zZ3,z23] at hb;obtain⟨o1,e1,_⟩:=h4;rcases hb with rfl|rfl
    ·exact⟨_,h1,trivial⟩
    ·exact⟨_,e1,trivial⟩)
   exact zZ7 (zY5 q)
 done:=by
  intro X hP hw hK hc i pins s σ H E I hf st hg;subst hP hw hK;obtain⟨xs,hq1,hl⟩:=hg;obtain⟨its1,rv1,p1,hz1⟩:=I.list hq1;obtain⟨⟨old,h1⟩,h4⟩:=st;have e1:=rv1.length;refine wpAny_pyNext_enum_end (I.ok.hd hc) h1 h4 p1.isList (by simp;omega) fun h' hk=>⟨rfl,?_⟩;exact I.turnL (t':=s.toks) (ch:=[e,it]) (fun b o hb q=>by
   simp only[zY1,zZ3,z23,not_or] at hb;exact hk b o hb.2 q) hf
 self:=fun A i s Q E st h=>by
  obtain⟨⟨old,h1⟩,h4⟩:=st;exact wpAny_pyIter_enum h1 h
section
variable {X:Cx}{α:Ev}{elts:List Expr}{kk:Nat}{tp p pos:Pos}{a b:Expr}
def zU4 (K:PySem.W.Frag)(ta:TA):TI:=fun σ H R=>ta σ H fun vs H1=>∃l1 l2,vs=[.ref l1,.ref l2]/\(∃xs,SqL K H1 l1 xs)/\(∃ys,SqL K H1 l2 ys)/\R (Itz K l1 l2) H1
theorem zB6 {ta:TA}(hg:Gl X "zip")(hm:X.mg "zip"=none)(ha:PA X [a,b] ta)(hs:starEach [a,b] X.env=[(false,eval a X.env),(false,eval b X.env)]:=by rfl)(hs2:starEach [b] X.env=[(false,eval b X.env)]:=by rfl):
  PI X (.Tuple elts kk tp) (.Call (.Name "zip" p) [a,b] [] pos) (zU4 X.K ta):=by
 intro pins s σ H R I h;refine Call_ (xA I hg hm boot_zip (z24 (thn (ha pos pins s σ H _ I h) fun us s1 ⟨vs,H1,I1,r1,q1⟩=>?_) (by rw[hs,hs2]) (by rw[hs2];rfl)));obtain⟨l1,l2,e,⟨xs,hq1⟩,⟨ys,hq2⟩,q⟩:=q1;subst e;obtain⟨u,v,rfl,ru,rv⟩:=Vals.two r1;cases (show u=Value.ref l1 from ru);cases (show v=Value.ref l2 from rv);obtain⟨its1,rv1,p1,hz1⟩:=I1.list hq1;obtain⟨its2,rv2,p2,hz2⟩:=I1.list hq2;refine call_zip_2 p1.isList p2.isList fun h' z1 z2 z3 z4 z5 z6 hk=>?_;refine wpAny_pyIter_zip (s:={s1 with heap:=h'}) z1 ?_;have lt1:l1<s1.heap.objs.size:=by obtain⟨o,e,_⟩:=p1.isList;exact zY5 e
 have lt2:l2<s1.heap.objs.size:=by obtain⟨o,e,_⟩:=p2.isList;exact zY5 e
 have fr:∀n,H1 (s1.heap.objs.size+n)=none:=fun n=>I1.hok.fresh (Nat.le_add_right _ _);have D:ZipApart (s1.heap.objs.size+4) (s1.heap.objs.size+2) (s1.heap.objs.size+3) s1.heap.objs.size (s1.heap.objs.size+1) l1 l2:=dY _ _ _ lt1 lt2;refine⟨_,_,_,_,H1,rfl,I1.kept (t':=s1.toks) fun b o e=>hk b o e,zk9 D,⟨z1,z2,⟨_,_,z3⟩,z4,z5⟩,fun b hb=>?_,q⟩;simp only[zY1,zZ3,z23] at hb;have hb':s1.heap.objs.size<=b:=by
  have key:∀n b:Nat,n=s1.heap.objs.size->(b=n+4\/b=n+2\/b=n+3\/b=n\/b=n+1)->n<=b:=fun n b _ h=>by omega
  exact key _ _ rfl (by rcases hb with z|z|z|z|z<;>simp[z])
 exact I1.fpOk hb' (I1.hok.fresh hb')
def zS8 (K:PySem.W.Frag)(ta:TA):TI:=fun σ H R=>ta σ H fun vs H1=>∃l,vs=[.ref l]/\(∃xs,SqL K H1 l xs)/\R (Ite K l) H1
theorem zu4 {ta:TA}(hg:Gl X "enumerate")(hm:X.mg "enumerate"=none)(ha:PA X [a] ta)(hs:starEach [a] X.env=[(false,eval a X.env)]:=by rfl):
  PI X (.Tuple elts kk tp) (.Call (.Name "enumerate" p) [a] [] pos) (zS8 X.K ta):=by
 intro pins s σ H R I h;refine Call_ (xA I hg hm boot_enumerate (z24 (thn (ha pos pins s σ H _ I h) fun us s1 ⟨vs,H1,I1,r1,q1⟩=>?_) hs rfl));obtain⟨l1,e,⟨xs,hq1⟩,q⟩:=q1;subst e;obtain⟨u,rfl,ru⟩:=Vals.one r1;cases (show u=Value.ref l1 from ru);obtain⟨its1,rv1,p1,hz1⟩:=I1.list hq1;refine call_enumerate_list p1.isList fun h' z1 z4 z6 hk=>?_;refine wpAny_pyIter_enum (s:={s1 with heap:=h'}) z1 ?_;refine⟨_,_,_,_,H1,rfl,I1.kept (t':=s1.toks) fun b o e=>hk b o e,cJ (zg5 (a:=s1.heap.objs.size+1) (b:=s1.heap.objs.size) (z96 _)),⟨⟨_,z1⟩,z4⟩,fun b hb=>?_,q⟩;simp only[zY1,zZ3,z23] at hb;have hb':s1.heap.objs.size<=b:=by
  have key:∀n b:Nat,n=s1.heap.objs.size->(b=n+1\/b=n)->n<=b:=fun n b _ h=>by omega
  exact key _ _ rfl hb
 exact I1.fpOk hb' (I1.hok.fresh hb')
noncomputable def cT (ds es:List PyData):List PyData:=List.zipWith (fun d e=>.tuple [d,e]) ds es
theorem zf2 {Q:List PyData->Prop}(hg:Gl X "zip")(hm:X.mg "zip"=none)(h:EvD X α a fun x=>EvD X α b fun y=>∃ds es,x=.list ds/\y=.list es/\Q (cT ds es))
  (hs:starEach [a,b] X.env=[(false,eval a X.env),(false,eval b X.env)]:=by rfl) (hs2:starEach [b] X.env=[(false,eval b X.env)]:=by rfl) (hs3:starEach [a,b] X.env=(false,eval a X.env)::starEach [b] X.env:=by rfl):
  EvI X α (.Tuple elts kk tp) (.Call (.Name "zip" p) [a,b] [] pos) Q:=fun F σ H R m k=>by
 refine⟨_,zB6 hg hm (zd zk (zd zk zu hs2) hs3) hs hs2,?_⟩;refine h F σ H _ m fun x vx H1 q1 t1 k1 r1=>?_;have m1:=m.kz k1 t1;refine q1 F σ H1 _ m1 fun y vy H2 q2 t2 k2 r2=>?_;obtain⟨ds,es,rfl,rfl,q⟩:=q2;obtain⟨l1,xs,rfl,g1,g2⟩:=(r1.same (k2.gz m1.tp)).lst_inv;obtain⟨l2,ys,rfl,g3,g4⟩:=r2.lst_inv;refine⟨l1,l2,rfl,⟨xs,SqL.of (zh g1).2⟩,⟨ys,SqL.of (zh g3).2⟩,k _ _ H2 q t2 (k1.trans k2) fun i H3 p s=>⟨fun d hd=>?_,fun hl=>?_⟩⟩
 ·have s1:=SqL.of (K:=X.K) (zh (s _ _ g1)).2;have s2:=SqL.of (K:=X.K) (zh (s _ _ g3)).2;unfold cT at hd;rw[List.getElem?_zipWith] at hd;cases e1:ds[i]? with
  |none=>rw[e1] at hd;cases hd
  |some d1=>
   cases e2:es[i]? with
   |none=>rw[e1,e2] at hd;cases hd
   |some d2=>
    rw[e1,e2] at hd;cases hd;obtain⟨x1,hx1,av1⟩:=g2.get e1;obtain⟨x2,hx2,av2⟩:=g4.get e2;refine⟨⟨xs,ys,x1,x2,s1,s2,hx1,hx2⟩,fun v H4 y=>?_⟩;obtain⟨T,x,y,rfl,hT,rfl,hx,hy⟩:=y;have hx:=hx _ s1;have hy:=hy _ s2;rw[hx1] at hx;cases hx;rw[hx2] at hy;cases hy;refine⟨yn hT,fun fr=>?_⟩;have gs:zz (Gz F α σ H2) (sub p (upd H3 T (.tup [x1,x2]))):=fun a o e=>by
     obtain⟨z1,z2⟩:=zh (s a o e);exact zH z1 (by rw[zf (zp z2 hT)];exact z2)
    exact .tup (zH (fr T _ zj hT) zj) (.cons (av1.same gs) (.cons (av2.same gs) .nil))
 ·refine⟨xs,ys,SqL.of (zh (s _ _ g1)).2,SqL.of (zh (s _ _ g3)).2,?_⟩;unfold cT at hl;rw[List.length_zipWith,<-g2.length,<-g4.length] at hl;omega
noncomputable def sN (n:Nat):List PyData->List PyData
 |[]=>[]
 |d::ds=>.tuple [.int n,d]::sN (n+1) ds
theorem wW :∀{ds:List PyData} {n i:Nat} {d:PyData},(sN n ds)[i]?=some d->∃e,ds[i]?=some e/\d=.tuple [.int ((n+i:Nat):Int),e]
 |[],n,i,d,h=>by simp[sN] at h
 |e::ds,n,0,d,h=>by simp[sN] at h;exact⟨e,rfl,by simp[<-h]⟩
 |e::ds,n,i+1,d,h=>by
  simp only[sN,yd4] at h;obtain⟨e',h1,h2⟩:=wW h;exact⟨e',by simpa using h1,by rw[h2,Nat.add_assoc,Nat.add_comm 1 i]⟩
theorem wQ :∀(ds:List PyData) (n:Nat),(sN n ds).length=ds.length
 |[],_=>rfl
 |_::ds,n=>by simp[sN,wQ ds (n+1)]
theorem mB {Q:List PyData->Prop}(hg:Gl X "enumerate")(hm:X.mg "enumerate"=none)(h:EvD X α a fun x=>∃ds,x=.list ds/\Q (sN 0 ds))(hs:starEach [a] X.env=[(false,eval a X.env)]:=by rfl):
  EvI X α (.Tuple elts kk tp) (.Call (.Name "enumerate" p) [a] [] pos) Q:=fun F σ H R m k=>by
 refine⟨_,zu4 hg hm (zd zk zu hs) hs,?_⟩;refine h F σ H _ m fun x vx H1 q1 t1 k1 r1=>?_;obtain⟨ds,rfl,q⟩:=q1;obtain⟨l1,xs,rfl,g1,g2⟩:=r1.lst_inv;refine⟨l1,rfl,⟨xs,SqL.of (zh g1).2⟩,k _ _ H1 q t1 k1 fun i H3 p s=>⟨fun d hd=>?_,fun hl=>?_⟩⟩
 ·have s1:=SqL.of (K:=X.K) (zh (s _ _ g1)).2;obtain⟨e,he,rfl⟩:=wW hd;obtain⟨x1,hx1,av1⟩:=g2.get he;refine⟨⟨xs,x1,s1,hx1⟩,fun v H4 y=>?_⟩;obtain⟨T,x,rfl,hT,rfl,hx⟩:=y;have hx:=hx _ s1;rw[hx1] at hx;cases hx;refine⟨yn hT,fun fr=>?_⟩;have gs:zz (Gz F α σ H1) (sub p (upd H3 T (.tup [.int i,x1]))):=fun a o e=>by
   obtain⟨z1,z2⟩:=zh (s a o e);exact zH z1 (by rw[zf (zp z2 hT)];exact z2)
  refine .tup (zH (fr T _ zj hT) zj) (.cons ?_ (.cons (av1.same gs) .nil));rw[Nat.zero_add];exact .int _
 ·refine⟨xs,SqL.of (zh (s _ _ g1)).2,?_⟩;rw[wQ,<-g2.length] at hl;exact hl
end
structure Cal (P:Program)(w:World)(K:PySem.W.Frag)(mg:Str->Option Value)(base:Heap)(x:Str)(k:Nat)(φ:List A->(A->Prop)->Prop):Prop where
 ex:∃f fd ps,mg x=some (.ref f)/\PySem.W.keepIn K (.ref f)=true/\Binds K fd ps []/\zF P w K mg base CX0 k f fd ps (spA φ)
section
variable {X:Cx}{α:Ev}{e a b:Expr}{es:List Expr}{pos p:Pos}{Q:PyData->Prop}{k:Nat}{φ:List A->(A->Prop)->Prop}{x:Str}
theorem yH (C:Cal X.prog X.w X.K X.mg X.base x k φ)(hr:zS k X.A)(hg:Gl X x)(h:EvA X α (e::es) fun as=>φ as fun a=>Q a.d)
  (hdb:(x == ("__debug__":Str))=false:=by decide) (he:starEach (e::es) X.env=(false,eval e X.env)::starEach es X.env:=by rfl) (hpl:(backTo pos (starEach es X.env)).any (·.1)=false:=by rfl):EvD X α (.Call (.Name x p) (e::es) [] pos) Q:=by
 obtain⟨f,fd,ps,h1,h2,h3,h4⟩:=C.ex;exact zo9 h4 hr hg h1 h2 h3 h hdb he hpl
theorem xV {Q:List PyData->Prop}(C:Cal X.prog X.w X.K X.mg X.base x k φ)(hr:zS k X.A)(hg:Gl X x)(h:EvA X α (e::es) fun as=>φ as fun a=>∃ds,a=.own ds/\Q ds)
  (hdb:(x == ("__debug__":Str))=false:=by decide) (he:starEach (e::es) X.env=(false,eval e X.env)::starEach es X.env:=by rfl) (hpl:(backTo pos (starEach es X.env)).any (·.1)=false:=by rfl):EvL X α (.Call (.Name x p) (e::es) [] pos) Q:=by
 obtain⟨f,fd,ps,h1,h2,h3,h4⟩:=C.ex;exact zy0 h4 hr hg h1 h2 h3 h hdb he hpl
end
section
variable {P:Program}{w:World}{K:PySem.W.Frag}{mg:Str->Option Value}{base:Heap}
theorem yM {x qual:Str}{st:Stmt}{f:Addr}{fd:FuncData}{N ps:List Str}{k:Nat}{φ:List A->(A->Prop)->Prop}(G:Fun K x qual st f fd)(hm:mg x=some (.ref f))(hb:Binds K fd ps [])(S:zm N ps (zb st))(hlen:∀as Q,φ as Q->as.length=ps.length)
  (hbody:∀(cdv:Value) (A':Around) (outer:List Env) (s:Shared) (H:Hp) (E:XK) (as:List A) (Q:A->Prop),zS k (A'.deeper (envOfC qual (zb st) s.heap.objs.size f cdv))->φ as Q->
   SvS (uv CX0 P w K mg base N qual (zb st) f cdv A' outer s H E).nox (as.map some++List.replicate (N.length-as.length) none) (zy st) {nx:=fun _=>Q (.dat .none),rt:=Q}):Cal P w K mg base x (k+1) φ:=
 ⟨f,fd,ps,hm,G.kp,hb,fnA G S hlen hbody⟩
theorem Cal.imp {x:Str}{k:Nat}{φ φ':List A->(A->Prop)->Prop}(C:Cal P w K mg base x k φ)(h:∀as Q,φ' as Q->φ as Q):Cal P w K mg base x k φ':=by
 obtain⟨f,fd,ps,h1,h2,h3,h4⟩:=C.ex;exact⟨f,fd,ps,h1,h2,h3,h4.imp fun vs H Q E ⟨F,as,Q',a,b,c,d,e,g⟩=>⟨F,as,Q',a,b,c,d,h _ _ e,g⟩⟩
def xZ :List A->(A->Prop)->Prop:=fun as Q=>∃n:Int,as=[.tape,.dat (.int n)]/\0<n/\n<big/\∀v,0<=v->v<n->Q (.dat (.int v))
theorem zk1 {f:Addr}{fd:FuncData}{x:Str}(hm:mg x=some (.ref f))(hk:PySem.W.keepIn K (.ref f)=true)(hb:Binds K fd ["_law_tape_here","_law_many"] [])(G:zF P w K mg base CX0 1 f fd ["_law_tape_here","_law_many"] ze4):Cal P w K mg base x 1 xZ:=by
 refine⟨f,fd,_,hm,hk,hb,G.imp fun vs H Q E h=>?_⟩;obtain⟨F,as,Q',rfl,t,o,rv,⟨n,rfl,h0,h1,hq⟩,kk⟩:=h;cases rv with
 |cons a1 r=>
  obtain⟨ta,b,c,e,rfl⟩:=a1;obtain⟨v,rfl,av⟩:=r.one;cases av.int_inv;refine⟨ta,b,c,n,rfl,(t ta b c e).1,h0,h1,fun z H' z0 z1 TA off=>kk _ _ _ (hq z z0 z1) ⟨⟨(by
   obtain⟨_,_,_,_,e1,e2,_⟩:=(t ta b c e).1.ex;exact zt6 t.tab e1 e2 off),t.ot,fun t' b' c' e'=>?_⟩,fun y u hy n=>?_,.int z⟩⟩
  ·rw[e] at e';cases e';exact⟨TA,(t ta b c e).2⟩
  ·rw[off y (n.1 _ _ _ e).1 (n.1 _ _ _ e).2];exact hy
theorem M.tape {H:Hp}{t b c:Addr}{α:Ev}{σ:St}(T:yU H t b c)(TB:TabAt H)(hl:α.length=σ.length)(h:∀(i:Nat) a,α[i]?=some (some a)->a=.tape/\σ[i]?=some (some (.ref t))):M ⟨H,fun x=>x=t\/x=b\/x=c\/rR x,some (t,b,c)⟩ α σ H:=by
 refine⟨hl,fun i a s e1 e2=>?_,fun i j a b s u x e1 _ _ _ f=>?_,fun i r q e=>?_,⟨TB,fun x z=>.inr (.inr (.inr z)),fun t' b' c' e=>?_⟩,fun _ _ e _=>e,fun x hx=>?_⟩
 ·obtain⟨rfl,z⟩:=h i a e1;rw[z] at e2;cases e2;exact⟨t,b,c,rfl,rfl⟩
 ·obtain⟨rfl,_⟩:=h i a e1;exact f.elim
 ·cases (h i _ e).1
 ·cases e;exact⟨T,.inl rfl,.inr (.inl rfl),.inr (.inr (.inl rfl))⟩
 ·obtain⟨n,bs,cs,_,e1,e2,e3,_⟩:=T.ex;rcases hx with rfl|rfl|rfl|z
  ·exact⟨_,e1,xt⟩
  ·exact⟨_,e2,xt⟩
  ·exact⟨_,e3,xt⟩
  ·obtain⟨o,h1,h2,_⟩:=mG TB z;exact⟨o,h1,h2⟩
theorem zV1 {st:Stmt}{f fT:Addr}{fd fdT:FuncData}{N':List Str}{k:Nat}{p1 p2 p3 p4 p5:Pos}{rest:List Stmt}(G:Fun K "law" "law" st f fd)(S:zm ("_law_script"::"_law_tape_here"::N') ["_law_script"] (zb st))
  (GT:zF P w K mg base CX0 1 fT fdT ["_law_script"] (jO K)) (mT:mg "_law_tape"=some (.ref fT)) (kT:PySem.W.keepIn K (.ref fT)=true) (bT:Binds K fdT ["_law_script"] [])
  (hb:zy st=.Assign [.Name "_law_tape_here" p1] (.Call (.Name "_law_tape" p2) [.Name "_law_script" p3] [] p4) p5::rest) (hgl:(zb st).names.lookup ("_law_tape":Str)=some .globalImplicit) (hl:Loc (zb st) "_law_tape_here") (hv:Vis (zb st) "_law_script")
  (hbody:∀(cdv:Value) (A':Around) (outer:List Env) (s:Shared) (H:Hp) (E:XK),zS (k+1) (A'.deeper (envOfC "law" (zb st) s.heap.objs.size f cdv))->
   SvS (uv CX0 P w K mg base ("_law_script"::"_law_tape_here"::N') "law" (zb st) f cdv A' outer s H E).nox (none::some .tape::List.replicate N'.length none) rest {nx:=fun _=>False,rt:=fun a=>a=.dat (.bool true)}):
  zF P w K mg base CX0 (k+1+1) f fd ["_law_script"] (kr K):=by
 refine G.ok S (fun vs H Q E h=>?_) (fun cdv A' outer s H vs Qc E hr h=>?_)
 ·obtain⟨a,ns,rfl,_⟩:=h;rfl
 ·obtain⟨a,ns,rfl,hS,hn,tb,kk⟩:=h;rw[hb];refine yd (fun σ H1=>∃t b c,yU H1 t b c/\TabAt H1/\σ=some (.ref a)::some (.ref t)::List.replicate N'.length none)
   ⟨_,wY (i:=1) S.nd rfl hl (ya GT (hr.mono (by omega)) hgl mT kT bT .nil ym (zd (xK (i:=0) rfl hv) zu)) (hf:=.inl rfl),?_⟩ ?_
  ·refine⟨.ref a,rfl,a,ns,rfl,hS,hn,fun t b c H' T _ _ _ sm=>⟨t,b,c,T,ze3 tb sm,?_⟩⟩;show ((L2.start ("_law_script"::"_law_tape_here"::N') [.ref a]).set 1 (some (.ref t)))=_;unfold L2.start;simp[List.replicate_succ]
  ·rintro σ H1 ⟨t,b,c,T,TB,rfl⟩;refine hbody cdv A' outer s H E hr ⟨H1,fun x=>x=t\/x=b\/x=c\/rR x,some (t,b,c)⟩ _ H1 _ (M.tape T TB (by simp) fun i z e=>?_) ⟨fun _ _ _ _ z=>z.elim,fun z v H' r e=>?_,fun _ _ _ _ z=>z.elim,fun _ _ _ _ z=>z.elim⟩
   ·cases i with
    |zero=>simp at e
    |succ i=>
     cases i with
     |zero=>simp at e;subst e;exact⟨rfl,rfl⟩
     |succ i=>
      simp only[yd4,z78] at e;split at e<;>cases e
   ·cases e;obtain⟨_,_,r⟩:=r;rw[AV.bl_inv r];exact kk H'
end
section
variable {Y:Addr->Shared->Hp->List Addr->Cx}{pat:Pat}{ifs:List Expr}{elt:Expr}{α0:Ev}
theorem pV {ds acc:List PyData}{Q:List PyData->Prop}(P:Nat->List PyData->Prop)(h0:P 0 acc)
  (hs:∀i d acc,ds[i]?=some d->P i acc->∃α1,pat.bind d α0=some α1/\∀C s2 H2 fp,bz (Y C s2 H2 fp) α1 ifs fun k=>if k=true then ∀C s2 H2 fp,EvD (Y C s2 H2 fp) α1 elt fun y=>P (i+1) (acc++[y]) else P (i+1) acc)
  (hd:∀acc,P ds.length acc->Q acc):xO Y pat ifs elt α0 ds acc Q:=by
 have key:∀n i acc,n=ds.length-i->i<=ds.length->P i acc->xO Y pat ifs elt α0 (ds.drop i) acc Q:=by
  intro n
  induction n with
  |zero=>
   intro i acc hn hi p;have e:i=ds.length:=by omega
   subst e;rw[yb1];exact hd acc p
  |succ n ih=>
   intro i acc hn hi p;have hlt:i<ds.length:=by omega
   rw[z74 hlt];obtain⟨α1,e,b⟩:=hs i ds[i] acc (zX7 hlt) p;refine⟨α1,e,fun C s2 H2 fp F σ H R m kk=>b C s2 H2 fp F σ H R m fun k H' q=>kk k H' ?_⟩;cases k with
   |true=>
    rw[if_pos rfl] at q ⊢;exact fun C s2 H2 fp=>(q C s2 H2 fp).imp fun y p=>ih (i+1) _ (by omega) hlt p
   |false=>
    rw[if_neg (by decide)] at q ⊢;exact ih (i+1) _ (by omega) hlt q
 exact key _ 0 acc rfl (zZ4 _) h0
theorem uN {ds acc:List PyData}{Q:List PyData->Prop}(p:PyData->Bool)(f:PyData->PyData)
  (hs:∀d∈ds,∃α1,pat.bind d α0=some α1/\(∀C s2 H2 fp (Q:Bool->Prop),Q (p d)->bz (Y C s2 H2 fp) α1 ifs Q)/\(p d=true->∀C s2 H2 fp (Q:PyData->Prop),Q (f d)->EvD (Y C s2 H2 fp) α1 elt Q))
  (hd:Q (acc++(ds.filter p).map f)):xO Y pat ifs elt α0 ds acc Q:=by
 induction ds generalizing acc with
 |nil=>
  show Q acc;simpa using hd
 |cons d ds ih=>
  obtain⟨α1,e,h1,h2⟩:=hs d zY6;refine⟨α1,e,fun C s2 H2 fp=>h1 C s2 H2 fp _ ?_⟩;have ih':=fun acc=>ih (acc:=acc) fun d hd=>hs d (zY4 _ hd);cases hp:p d with
  |true=>
   rw[if_pos rfl];refine fun C s2 H2 fp=>h2 hp C s2 H2 fp _ (ih' _ ?_);simpa[yb2,hp] using hd
  |false=>
   rw[if_neg (by decide)];refine ih' _ ?_;simpa[yb2,hp] using hd
end
theorem kx {ds:List PyData}{v:Int}(h0:0<=v)(h1:v<ds.length):∃d,d∈ds/\atI ds v=some d:=by
 obtain⟨j,rfl⟩:=z79 h0;have hj:j<ds.length:=by omega
 exact⟨ds[j],z38 hj,yF (zX7 hj)⟩
theorem iB (st:Stmt)(env:Env):execs [st] env=exec st env:=by
 rw[PySem.execs_cons];have:(fun f:Flow=>(match f with|.next=>execs [] env|f=>pure f:Sem Flow))=pure:=by
  funext f
  cases f<;>rfl
 exact (congrArg (fun g=>exec st env >>= g) this).trans (bind_pure _)
section
variable {X:Cx}{α:Ev}{e a b c:Expr}{es rest:List Expr}{pos p:Pos}{Q:PyData->Prop}{E:xi}{st:Stmt}{sts sts':List Stmt}
theorem yr (P:Ev->Prop)(h1:SvS X α [st] {E with nx:=P})(h2:∀α',P α'->SvS X α' sts E):SvS X α (st::sts) E:=fun F σ H D m r=>by
 refine yd (fun σ' H'=>∃α',M F α' σ' H'/\P α') ?_ ?_
 ·obtain⟨t,p,q⟩:=h1 F σ H {D with nx:=fun σ' H'=>∃α',M F α' σ' H'/\P α'} m ⟨fun α' σ' H' m' z=>⟨α',m',z⟩,r.rt,r.bk,r.ct⟩;exact⟨t,fun pins s σ H D I h=>(by
   have:=p pins s σ H D I h;rw[iB] at this;exact this),q⟩
 ·rintro σ' H' ⟨α',m',z⟩;exact h2 α' z F σ' H' D m' r
theorem za8 {c:Prop}[Decidable c]{a b:List Stmt}(h1:c->SvS X α a E)(h2:¬c->SvS X α b E):SvS X α (if decide c=true then a else b) E:=by
 by_cases h:c
 ·rw[z33 h];exact h1 h
 ·rw[z08 h];exact h2 h
theorem yB {k:Bool}{a b:List Stmt}(h1:k=true->SvS X α a E)(h2:k=false->SvS X α b E):SvS X α (if k=true then a else b) E:=by
 cases k with
 |true=>exact h1 rfl
 |false=>exact h2 rfl
theorem fv {i j:Int}:Cmp rEq (.int i) (.int j) (decide (i=j)):=fun p H vx vy R rx ry h=>by
 cases rx.int_inv;cases ry.int_inv;refine⟨rfl,?_⟩;rw[show decide (V.int i=V.int j)=decide (i=j) by simp];exact h
theorem zo2 {i j:Int}:Cmp rNe (.int i) (.int j) (!decide (i=j)):=fun p H vx vy R rx ry h=>by
 cases rx.int_inv;cases ry.int_inv;refine⟨rfl,?_⟩;rw[show decide (V.int i=V.int j)=decide (i=j) by simp];exact h
theorem gY {i j:Str}:Cmp rEq (.str i) (.str j) (decide (i=j)):=fun p H vx vy R rx ry h=>by
 cases rx.str_inv;cases ry.str_inv;refine⟨rfl,?_⟩;rw[show decide (V.str i=V.str j)=decide (i=j) by simp];exact h
theorem zf9 {op:CmpOp}{r:R2}(ho:OpR X (compareOp op) r)(hm:behindInMarks op b=false)(h:EvD X α a fun x=>EvD X α b fun y=>∃k,Cmp r x y k/\Q (.bool k)):EvD X α (.Compare a [op] [b] pos) Q:=fun F σ H R m k=>by
 refine⟨_,xQ ho zk zk hm,?_⟩;refine h F σ H _ m fun x vx H1 q1 t1 k1 r1=>?_;have m1:=m.kz k1 t1;refine q1 F σ H1 _ m1 fun y vy H2 q2 t2 k2 r2=>?_;obtain⟨b,hc,q⟩:=q2;exact hc _ H2 vx vy _ (r1.same (k2.gz m1.tp)) r2 (k _ _ H2 q t2 (k1.trans k2) (.bl b))
theorem zI5 {Q:Bool->Prop}(h:EvD X α a fun x=>EvD X α b fun y=>∃i j,x=.int i/\y=.int j/\Q (decide (i=j))):EvT X α (.Compare a [.Eq] [b] pos) Q:=
 wF vA (zE _) (h.imp fun x h=>h.imp fun y ⟨i,j,e1,e2,q⟩=>⟨_,by subst e1 e2;exact fv,q⟩)
theorem zE8 {Q:Bool->Prop}(h:EvD X α a fun x=>EvD X α b fun y=>∃i j,x=.str i/\y=.str j/\Q (decide (i=j))):EvT X α (.Compare a [.Eq] [b] pos) Q:=
 wF vA (zE _) (h.imp fun x h=>h.imp fun y ⟨i,j,e1,e2,q⟩=>⟨_,by subst e1 e2;exact gY,q⟩)
theorem zy2 {p q:Bool}{Q:Bool->Prop}(ha:∀Q:Bool->Prop,Q p->EvT X α a Q)(hb:p=true->∀Q:Bool->Prop,Q q->EvW X α (.BoolOp .And (b::rest) pos) Q)(k:Q (p&&q)):EvW X α (.BoolOp .And (a::b::rest) pos) Q:=by
 refine aR (ha _ ?_);cases p with
 |true=>rw[if_pos rfl];exact hb rfl _ (by simpa using k)
 |false=>rw[if_neg (by decide)];simpa using k
theorem M.park {F:Fr}{σ:St}{H H1:Hp}{l:Addr}{o:HO}(m:M F α σ H)(k1:Kz F H H1)(t1:zM F H1)(hl:H l=none)(hl1:H1 l=some o)(no:vE o):M ⟨F.H0,fun x=>F.O0 x\/x=l,F.tp⟩ α σ H1:=by
 have m1:=m.kz k1 t1;have g0:zz (Gz F α σ H) (Gz ⟨F.H0,fun x=>F.O0 x\/x=l,F.tp⟩ α σ H1):=fun y o z=>by
  obtain⟨z1,z2⟩:=zh z;refine zH ?_ (k1 _ _ z2 (m.tp.nt (ow0 z1)));rintro ((w|w)|⟨i,a,s,e1,e2,f⟩)
  ·exact z1 (.inl w)
  ·rw[w,hl] at z2;cases z2
  ·exact z1 (.inr ⟨i,a,s,e1,e2,f⟩)
 refine⟨m.len,fun i a s e1 e2=>(m.ok i a s e1 e2).stay g0 (fun x o f e=>?_) rfl fun r q _ y=>?_,m.dj,m.xd,t1.to rfl fun _ z=>.inl z,fun y o z n=>m1.keep y o z n,fun y z=>?_⟩
 ·obtain⟨w1,w2,_⟩:=m.ft e1 e2 f;exact⟨k1 _ _ e (m.tp.nt w1),fun (w:F.O0 x\/x=l)=>w.elim w1 (fun w=>by rw[w,hl] at e;cases e),w2⟩
 ·have y':=y.kz k1 t1;exact⟨y'.tp,fun x z=>.inl (y'.o x z),y'.ok,y'.k⟩
 ·rcases z with z|z
  ·exact m1.oex y z
  ·exact⟨_,by rw[z];exact hl1,no⟩
end
structure NbT (mg:Str->Option Value):Prop where
 abs:mg "abs"=none
 list:mg "list"=none
 len:mg "len"=none
 range:mg "range"=none
 min:mg "min"=none
 max:mg "max"=none
 sorted:mg "sorted"=none
 isinstance:mg "isinstance"=none
 int:mg "int"=none
 bool:mg "bool"=none
 str:mg "str"=none
 tuple:mg "tuple"=none
 all:mg "all"=none
 any:mg "any"=none
 repr:mg "repr"=none
 zip:mg "zip"=none
 enumerate:mg "enumerate"=none
 reversed:mg "reversed"=none
 sum:mg "sum"=none
theorem vS {X:Cx}{K:PySem.W.Frag}{es:List Expr}{k:Nat}{t:TGs}{n:Nat}{pos:Pos}(hK:X.K=K)(hc:X.calm=true)(h:PGs X es t)
  (hn:(assignEach es X.env).length=n:=by rfl) (hst:(assignEach es X.env).findIdx? (·.1)=none:=by rfl):PG X (.Tuple es k pos) (zL2 K n t):=by
 subst hK;exact zE3 hc h hn hst
end L2
namespace SortA
open PySem PySem.W PyProof.Rows
noncomputable def run {α:Type}(lt:Nat->Nat->Bool):KasT α->α
 |.ret a=>a
 |.ask i j k=>run lt (k (lt i j))
theorem run_bind {α β:Type}(lt:Nat->Nat->Bool)(f:α->KasT β):∀t:KasT α,run lt (t.bind f)=run lt (f (run lt t))
 |.ret _=>rfl
 |.ask i j k=>run_bind lt f (k (lt i j))
structure Ord (lt:Nat->Nat->Bool):Prop where
 irr:∀a,lt a a=false
 tr:∀a b c,lt b a=false->lt c b=false->lt c a=false
 asy:∀a b,lt a b=true->lt b a=false
noncomputable abbrev g (p:Array Nat)(i:Nat):Nat:=p.getD i 0
def Up (lt:Nat->Nat->Bool)(p:Array Nat)(m:Nat):Prop:=∀i j,i<=j->j<m->lt (g p j) (g p i)=false
def Down (lt:Nat->Nat->Bool)(p:Array Nat)(m:Nat):Prop:=∀i j,i<=j->j<m->lt (g p i) (g p j)=false
theorem zm6 {p q:Array Nat}{i j:Nat}(h:p[i]?=q[j]?):g p i=g q j:=by
 unfold g;rw[Array.getD_eq_getD_getElem?,Array.getD_eq_getD_getElem?,h]
variable {lt:Nat->Nat->Bool}
theorem Up.succ (O:Ord lt){p:Array Nat}{m:Nat}(h:Up lt p m)(hm:0<m)(e:lt (g p m) (g p (m-1))=false):Up lt p (m+1):=fun i j hij hj=>by
 by_cases e1:j<m
 ·exact h i j hij e1
 ·have ej:j=m:=by omega
  subst ej;by_cases e2:i=j
  ·subst e2;exact O.irr _
  ·exact O.tr _ _ _ (h i (j-1) (by omega) (by omega)) e
theorem Down.succ (O:Ord lt){p:Array Nat}{m:Nat}(h:Down lt p m)(hm:0<m)(e:lt (g p (m-1)) (g p m)=false):Down lt p (m+1):=fun i j hij hj=>by
 by_cases e1:j<m
 ·exact h i j hij e1
 ·have ej:j=m:=by omega
  subst ej;by_cases e2:i=j
  ·subst e2;exact O.irr _
  ·exact O.tr _ _ _ e (h i (j-1) (by omega) (by omega))
theorem zE9 (O:Ord lt)(p:Array Nat):Up lt p 1:=fun i j hij hj=>by
 have e1:i=0:=by omega
 have e2:j=0:=by omega
 rw[e1,e2];exact O.irr _
theorem iI (O:Ord lt)(p:Array Nat):∀(f n:Nat),0<n->Up lt p n->n<=run lt (kas_asc p f n)/\run lt (kas_asc p f n)<=n+f/\Up lt p (run lt (kas_asc p f n))/\
  (run lt (kas_asc p f n)<n+f->lt (g p (run lt (kas_asc p f n))) (g p (run lt (kas_asc p f n)-1))=true)
 |0,n,_,h=>⟨zY2 _,zY2 _,h,fun z=>absurd z (z47 _)⟩
 |f+1,n,hn,h=>by
  show n<=run lt ((fun c=>if c=true then KasT.ret n else kas_asc p f (n+1)) (lt (p.getD n 0) (p.getD (n-1) 0)))/\_;cases e:lt (p.getD n 0) (p.getD (n-1) 0) with
  |true=>
   have er:run lt (kas_asc p (f+1) n)=n:=by
    show run lt ((fun c=>if c=true then KasT.ret n else kas_asc p f (n+1)) (lt (p.getD n 0) (p.getD (n-1) 0)))=n;rw[e];rfl
   rw[er];exact⟨zY2 _,by omega,h,fun _=>e⟩
  |false=>
   have er:run lt (kas_asc p (f+1) n)=run lt (kas_asc p f (n+1)):=by
    show run lt ((fun c=>if c=true then KasT.ret n else kas_asc p f (n+1)) (lt (p.getD n 0) (p.getD (n-1) 0)))=_;rw[e];rfl
   rw[er];obtain⟨a,b,c,d⟩:=iI O p f (n+1) (by omega) (h.succ O hn e);exact⟨by show n<=run lt (kas_asc p f (n+1));omega,by omega,c,fun z=>d (by omega)⟩
theorem sQ {p:Array Nat}{i j:Nat}(hj:j<=p.size)(k:Nat):g (kas_rev p i j) k=if i<=k/\k<j then g p (i+j-1-k) else g p k:=by
 have h:=getElem?_mirror_all (xs:=p) (i:=i) hj k;split
 ·rename_i c;rw[if_pos c] at h;exact zm6 h
 ·rename_i c;rw[if_neg c] at h;exact zm6 h
theorem we (p:Array Nat)(i j:Nat):(kas_rev p i j).size=p.size:=mirror_size _ _ _ _
theorem xm (p:Array Nat)(i j:Nat):(kas_rev p i j).Perm p:=mirror_perm _ _ _ _
def Eqv (lt:Nat->Nat->Bool)(a b:Nat):Prop:=lt a b=false/\lt b a=false
theorem Down.eqv (O:Ord lt){p q:Array Nat}{n:Nat}(h:Down lt p n)(e:∀k,k<n->Eqv lt (g q k) (g p k)):Down lt q n:=fun i j hij hj=>
 O.tr _ _ _ (O.tr _ _ _ (e j hj).2 (h i j hij hj)) (e i (by omega)).1
def Last (lt:Nat->Nat->Bool)(p:Array Nat)(n q:Nat):Prop:=∀a b,n<=a+(q+1)->a<n->n<=b+(q+1)->b<n->lt (g p a) (g p b)=false
theorem rev_last (O:Ord lt){p:Array Nat}{n q:Nat}(hn:n<=p.size)(hq:q<n)(L:Last lt p n q):∀k,k<n->Eqv lt (g (kas_rev p (n-(q+1)) n) k) (g p k):=fun k hk=>by
 rw[sQ hn];split
 ·rename_i c;exact⟨L _ _ (by omega) (by omega) (by omega) hk,L _ _ (by omega) hk (by omega) (by omega)⟩
 ·exact⟨O.irr _,O.irr _⟩
theorem rD (O:Ord lt):∀(f:Nat) (p:Array Nat) (n q:Nat),q<n->n+f<=p.size->Down lt p n->Last lt p n q->
  ∃p' m q',run lt (kas_desc f p n q)=(p',m,q')/\n<=m/\m<=n+f/\p'.size=p.size/\p'.Perm p/\q'<m/\Down lt p' m/\Last lt p' m q'
 |0,p,n,q,hq,hs,h,L=>⟨p,n,q,rfl,zY2 _,zY2 _,rfl,yc0 _,hq,h,L⟩
 |f+1,p,n,q,hq,hs,h,L=>by
  cases e:lt (p.getD n 0) (p.getD (n-1) 0) with
  |true=>
   by_cases hq0:q > 0
   ·have er:run lt (kas_desc (f+1) p n q)=run lt (kas_desc f (kas_rev p (n-(q+1)) n) (n+1) 0):=by
     show run lt ((fun c=>if c=true then (if q > 0 then kas_desc f (kas_rev p (n-(q+1)) n) (n+1) 0 else kas_desc f p (n+1) 0)
      else .ask (p.getD (n-1) 0) (p.getD n 0) fun d=>if d=true then .ret (p,n,q) else kas_desc f p (n+1) (q+1)) (lt (p.getD n 0) (p.getD (n-1) 0)))=_
     rw[e];show run lt (if q > 0 then _ else _)=_;rw[if_pos hq0]
    have ev:=rev_last O (by omega:n<=p.size) hq L;have h1:=h.eqv O ev;have hn:g (kas_rev p (n-(q+1)) n) n=g p n:=by rw[sQ (by omega),if_neg (by omega)]
    have h2:Down lt (kas_rev p (n-(q+1)) n) (n+1):=h1.succ O (by omega) (by
     rw[hn];exact O.tr _ _ _ (O.asy _ _ e) (ev (n-1) (by omega)).1)
    obtain⟨p',m,q',a,b,c,d1,d2,d3,d4,d5⟩:=rD O f (kas_rev p (n-(q+1)) n) (n+1) 0 (by omega) (by rw[we];omega) h2 (fun a b h1 h2 h3 h4=>by
     have e1:a=n:=by omega
     have e2:b=n:=by omega
     rw[e1,e2];exact O.irr _)
    exact⟨p',m,q',er.trans a,by omega,by omega,by rw[d1,we],d2.trans (xm _ _ _),d3,d4,d5⟩
   ·have er:run lt (kas_desc (f+1) p n q)=run lt (kas_desc f p (n+1) 0):=by
     show run lt ((fun c=>if c=true then (if q > 0 then kas_desc f (kas_rev p (n-(q+1)) n) (n+1) 0 else kas_desc f p (n+1) 0)
      else .ask (p.getD (n-1) 0) (p.getD n 0) fun d=>if d=true then .ret (p,n,q) else kas_desc f p (n+1) (q+1)) (lt (p.getD n 0) (p.getD (n-1) 0)))=_
     rw[e];show run lt (if q > 0 then _ else _)=_;rw[if_neg hq0]
    obtain⟨p',m,q',a,b,c,d1,d2,d3,d4,d5⟩:=rD O f p (n+1) 0 (by omega) (by omega) (h.succ O (by omega) (O.asy _ _ e)) (fun a b h1 h2 h3 h4=>by
     have e1:a=n:=by omega
     have e2:b=n:=by omega
     rw[e1,e2];exact O.irr _)
    exact⟨p',m,q',er.trans a,by omega,by omega,d1,d2,d3,d4,d5⟩
  |false=>
   cases e2:lt (p.getD (n-1) 0) (p.getD n 0) with
   |true=>
    have er:run lt (kas_desc (f+1) p n q)=(p,n,q):=by
     show run lt ((fun c=>if c=true then (if q > 0 then kas_desc f (kas_rev p (n-(q+1)) n) (n+1) 0 else kas_desc f p (n+1) 0)
      else .ask (p.getD (n-1) 0) (p.getD n 0) fun d=>if d=true then .ret (p,n,q) else kas_desc f p (n+1) (q+1)) (lt (p.getD n 0) (p.getD (n-1) 0)))=_
     rw[e];show run lt ((fun d=>if d=true then KasT.ret (p,n,q) else kas_desc f p (n+1) (q+1)) (lt (p.getD (n-1) 0) (p.getD n 0)))=_;rw[e2];rfl
    exact⟨p,n,q,er,zY2 _,by omega,rfl,yc0 _,hq,h,L⟩
   |false=>
    have er:run lt (kas_desc (f+1) p n q)=run lt (kas_desc f p (n+1) (q+1)):=by
     show run lt ((fun c=>if c=true then (if q > 0 then kas_desc f (kas_rev p (n-(q+1)) n) (n+1) 0 else kas_desc f p (n+1) 0)
      else .ask (p.getD (n-1) 0) (p.getD n 0) fun d=>if d=true then .ret (p,n,q) else kas_desc f p (n+1) (q+1)) (lt (p.getD n 0) (p.getD (n-1) 0)))=_
     rw[e];show run lt ((fun d=>if d=true then KasT.ret (p,n,q) else kas_desc f p (n+1) (q+1)) (lt (p.getD (n-1) 0) (p.getD n 0)))=_;rw[e2];rfl
    have Ln:Last lt p (n+1) (q+1):=fun a b h1 h2 h3 h4=>by
     have two:∀a,n+1<=a+(q+1+1)->a<n+1->Eqv lt (g p a) (g p (n-1)):=fun a x1 x2=>by
      by_cases ea:a=n
      ·rw[ea];exact⟨e,e2⟩
      ·exact⟨L a (n-1) (by omega) (by omega) (by omega) (by omega),L (n-1) a (by omega) (by omega) (by omega) (by omega)⟩
     exact O.tr _ _ _ (two b h3 h4).2 (two a h1 h2).1
    obtain⟨p',m,q',a,b,c,d1,d2,d3,d4,d5⟩:=rD O f p (n+1) (q+1) (by omega) (by omega) (h.succ O (by omega) e2) Ln;exact⟨p',m,q',er.trans a,by omega,by omega,d1,d2,d3,d4,d5⟩
theorem zF3 {p:Array Nat}{n:Nat}(hn:n<=p.size)(h:Down lt p n):Up lt (kas_rev p 0 n) n:=fun i j hij hj=>by
 rw[sQ hn,sQ hn,if_pos (by omega),if_pos (by omega)];exact h _ _ (by omega) (by omega)
theorem ka (O:Ord lt){p:Array Nat}{n nrem:Nat}(h0:0<n)(hn:n<=nrem)(hs:nrem<=p.size)(h:Down lt p n):
  ∃p' m,run lt (kas_tail3 n nrem p)=(m,p')/\1<=m/\m<=nrem/\p'.size=p.size/\p'.Perm p/\Up lt p' m:=by
 obtain⟨a,b,c,_⟩:=iI O (kas_rev p 0 n) (nrem-n) n h0 (zF3 (by omega) h);refine⟨kas_rev p 0 n,run lt (kas_asc (kas_rev p 0 n) (nrem-n) n),?_,by omega,by omega,we _ _ _,xm _ _ _,c⟩;unfold kas_tail3;rw[run_bind];rfl
theorem rj (O:Ord lt){p:Array Nat}{n nrem:Nat}(h0:0<n)(hn:n+1<=nrem)(hs:nrem<=p.size)(h:Down lt p (n+1)):
  ∃p' m,run lt (kas_descPart n nrem p)=(m,p')/\1<=m/\m<=nrem/\p'.size=p.size/\p'.Perm p/\Up lt p' m:=by
 obtain⟨p1,m1,q1,e,a1,a2,a3,a4,a5,a6,a7⟩:=rD O (nrem-(n+1)) p (n+1) 0 (by omega) (by omega) h (fun a b h1 h2 h3 h4=>by
  have e1:a=n:=by omega
  have e2:b=n:=by omega
  rw[e1,e2];exact O.irr _)
 unfold kas_descPart;rw[run_bind,e];dsimp only;split
 ·obtain⟨p',m,b1,b2,b3,b4,b5,b6⟩:=ka O (p:=kas_rev p1 (m1-(q1+1)) m1) (n:=m1) (nrem:=nrem) (by omega) (by omega) (by rw[we];omega) (a6.eqv O (rev_last O (by omega) a5 a7));exact⟨p',m,b1,b2,b3,by rw[b4,we,a3],(b5.trans (xm _ _ _)).trans a4,b6⟩
 ·obtain⟨p',m,b1,b2,b3,b4,b5,b6⟩:=ka O (p:=p1) (n:=m1) (nrem:=nrem) (by omega) (by omega) (by omega) a6;exact⟨p',m,b1,b2,b3,by rw[b4,a3],b5.trans a4,b6⟩
theorem aO (O:Ord lt){p:Array Nat}{nrem:Nat}(h0:0<nrem)(hs:nrem<=p.size):
  ∃p' m,run lt (kas_count nrem p)=(m,p')/\1<=m/\m<=nrem/\p'.size=p.size/\p'.Perm p/\Up lt p' m:=by
 obtain⟨a,b,c,d⟩:=iI O p (nrem-1) 1 (by omega) (zE9 O p);unfold kas_count;rw[run_bind];generalize run lt (kas_asc p (nrem-1) 1)=n at a b c d;by_cases en:n=nrem
 ·rw[if_pos (by rw[en];simp)];exact⟨p,n,rfl,a,by omega,rfl,yc0 _,c⟩
 ·rw[if_neg (by simpa using en)];have hd:=d (by omega);by_cases h1:n > 1
  ·rw[if_pos h1];cases e:lt (p.getD 0 0) (p.getD (n-1) 0) with
   |true=>
    refine⟨p,n,?_,a,by omega,rfl,yc0 _,c⟩;show run lt ((fun c=>if c=true then KasT.ret (n,p) else kas_descPart n nrem (kas_rev p 0 n)) (lt (p.getD 0 0) (p.getD (n-1) 0)))=_;rw[e];rfl
   |false=>
    have all:∀k,k<n->Eqv lt (g p k) (g p 0):=fun k hk=>⟨c 0 k (by omega) hk,O.tr _ _ _ (c k (n-1) (by omega) (by omega)) e⟩;have hD:Down lt (kas_rev p 0 n) (n+1):=by
     have h2:Down lt (kas_rev p 0 n) n:=fun i j hij hj=>by
      rw[sQ (by omega),sQ (by omega),if_pos (by omega),if_pos (by omega)];exact O.tr _ _ _ (all _ (by omega)).2 (all _ (by omega)).1
     refine h2.succ O (by omega) ?_;rw[sQ (by omega),sQ (by omega),if_pos (by omega),if_neg (by omega)];have e0:lt (g p (n-1)) (g p n)=false:=O.asy _ _ hd;exact O.tr _ _ _ e0 (O.tr _ _ _ (all (n-1) (by omega)).2 (all _ (by omega)).1)
    obtain⟨p',m,b1,b2,b3,b4,b5,b6⟩:=rj O (p:=kas_rev p 0 n) (n:=n) (nrem:=nrem) (by omega) (by omega) (by rw[we];omega) hD;refine⟨p',m,?_,b2,b3,by rw[b4,we],b5.trans (xm _ _ _),b6⟩;rw[<-b1];show run lt ((fun c=>if c=true then KasT.ret (n,p) else kas_descPart n nrem (kas_rev p 0 n)) (lt (p.getD 0 0) (p.getD (n-1) 0)))=_;rw[e];rfl
  ·rw[if_neg h1];have e1:n=1:=by omega
   subst e1;refine rj O (by omega) (by omega) hs ?_;have d1:Down lt p 1:=fun i j hij hj=>by
    have e1:i=0:=by omega
    have e2:j=0:=by omega
    rw[e1,e2];exact O.irr _
   exact d1.succ O (by omega) (O.asy _ _ hd)
theorem qS (O:Ord lt){p:Array Nat}{k:Nat}(U:Up lt p k):∀(f l r:Nat),r<=l+f->l<=r->r<=k->(∀i,i<l->lt (g p k) (g p i)=false)->(∀i,r<=i->i<k->lt (g p k) (g p i)=true)->
  run lt (kas_place p k f l r)<=k/\(∀i,i<run lt (kas_place p k f l r)->lt (g p k) (g p i)=false)/\(∀i,run lt (kas_place p k f l r)<=i->i<k->lt (g p k) (g p i)=true)
 |0,l,r,h1,h2,h3,ha,hb=>by
  show l<=k/\_;exact⟨by omega,ha,fun i x y=>hb i (by have:l<=i:=x;omega) y⟩
 |f+1,l,r,h1,h2,h3,ha,hb=>by
  by_cases hlr:l≥r
  ·have er:run lt (kas_place p k (f+1) l r)=l:=by
    show run lt (if l≥r then _ else _)=_;rw[if_pos hlr];rfl
   rw[er];exact⟨by omega,ha,fun i x y=>hb i (by omega) y⟩
  ·cases e:lt (p.getD k 0) (p.getD ((l+r) / 2) 0) with
   |true=>
    have er:run lt (kas_place p k (f+1) l r)=run lt (kas_place p k f l ((l+r) / 2)):=by
     show run lt (if l≥r then _ else _)=_;rw[if_neg hlr];show run lt ((fun c=>if c=true then kas_place p k f l ((l+r) / 2) else kas_place p k f ((l+r) / 2+1) r) (lt (p.getD k 0) (p.getD ((l+r) / 2) 0)))=_;rw[e];rfl
    rw[er];refine qS O U f l ((l+r) / 2) (by omega) (by omega) (by omega) ha fun i x y=>?_;cases e3:lt (g p k) (g p i) with
    |true=>rfl
    |false=>
     have e4:lt (g p k) (g p ((l+r) / 2))=false:=O.tr _ _ _ (U ((l+r) / 2) i x y) e3;have e5:lt (g p k) (g p ((l+r) / 2))=true:=e;rw[e4] at e5;cases e5
   |false=>
    have er:run lt (kas_place p k (f+1) l r)=run lt (kas_place p k f ((l+r) / 2+1) r):=by
     show run lt (if l≥r then _ else _)=_;rw[if_neg hlr];show run lt ((fun c=>if c=true then kas_place p k f l ((l+r) / 2) else kas_place p k f ((l+r) / 2+1) r) (lt (p.getD k 0) (p.getD ((l+r) / 2) 0)))=_;rw[e];rfl
    rw[er];exact qS O U f ((l+r) / 2+1) r (by omega) (by omega) h3 (fun i hi=>O.tr _ _ _ (U i ((l+r) / 2) (by omega) (by omega)) e) hb
theorem eO (O:Ord lt){p:Array Nat}{k l:Nat}(hk:k<p.size)(hl:l<=k)(U:Up lt p k)(ha:∀i,i<l->lt (g p k) (g p i)=false)(hb:∀i,l<=i->i<k->lt (g p k) (g p i)=true):Up lt (bubble p k (k-l)) (k+1):=by
 have gb:∀i,g (bubble p k (k-l)) i=if i=l then g p k else if l<i/\i<=k then g p (i-1) else g p i:=fun i=>by
  have h:=getElem?_bubble hk (k-l) (by omega) i;have el:k-(k-l)=l:=by omega
  rw[el] at h;by_cases c:i=l
  ·rw[if_pos c] at h ⊢;exact zm6 h
  ·rw[if_neg c] at h ⊢;by_cases c2:l<i/\i<=k
   ·rw[if_pos c2] at h ⊢;exact zm6 h
   ·rw[if_neg c2] at h ⊢;exact zm6 h
 intro i j hij hj;have gl:g (bubble p k (k-l)) l=g p k:=by rw[gb,if_pos rfl]
 have gm:∀i,l<i->i<=k->g (bubble p k (k-l)) i=g p (i-1):=fun i x y=>by rw[gb,if_neg (by omega),if_pos ⟨x,y⟩]
 have gs:∀i,i<l->g (bubble p k (k-l)) i=g p i:=fun i x=>by rw[gb,if_neg (by omega),if_neg (by omega)]
 rcases Nat.lt_trichotomy i l with hi|hi|hi
 ·rw[gs i hi];rcases Nat.lt_trichotomy j l with h|h|h
  ·rw[gs j h];exact U _ _ (by omega) (by omega)
  ·rw[h,gl];exact ha i hi
  ·rw[gm j h (by omega)];exact U _ _ (by omega) (by omega)
 ·rw[hi,gl];rcases Nat.lt_trichotomy j l with h|h|h
  ·omega
  ·rw[h,gl];exact O.irr _
  ·rw[gm j h (by omega)];exact O.asy _ _ (hb (j-1) (by omega) (by omega))
 ·rw[gm i hi (by omega),gm j (by omega) (by omega)];exact U _ _ (by omega) (by omega)
theorem ag (O:Ord lt):∀(f:Nat) (p:Array Nat) (k:Nat),0<k->k+f<=p.size->Up lt p k->(run lt (kas_bin f p k)).size=p.size/\(run lt (kas_bin f p k)).Perm p/\Up lt (run lt (kas_bin f p k)) (k+f)
 |0,p,k,_,_,U=>⟨rfl,yc0 _,U⟩
 |f+1,p,k,hk,hs,U=>by
  obtain⟨a,b,c⟩:=qS O U k 0 k (by omega) (by omega) (by omega) (fun i hi=>by omega) (fun i x y=>by omega);have er:run lt (kas_bin (f+1) p k)=run lt (kas_bin f (bubble p k (k-run lt (kas_place p k k 0 k))) (k+1)):=by
   show run lt ((kas_place p k k 0 k).bind _)=_;rw[run_bind]
  rw[er];obtain⟨x,y,z⟩:=ag O f (bubble p k (k-run lt (kas_place p k k 0 k))) (k+1) (by omega) (by rw[bubble_size];omega) (eO O (by omega) a U b c);have e:k+(f+1)=k+1+f:=by omega
  rw[e];exact⟨by rw[x,bubble_size],y.trans (bubble_perm _ _ _),z⟩
theorem zr5 (O:Ord lt){n:Nat}(h:0<n):(run lt (kas_sort n)).size=n/\(run lt (kas_sort n)).Perm (List.range n).toArray/\Up lt (run lt (kas_sort n)) n:=by
 obtain⟨p,m,e,a,b,c,d,u⟩:=aO O (p:=(List.range n).toArray) (nrem:=n) h (by simp);unfold kas_sort;rw[run_bind,e];dsimp only;have hs:p.size=n:=by rw[c];simp
 by_cases hm:m<n
 ·rw[if_pos hm];have em:max m 1=m:=by omega
  rw[em];obtain⟨x,y,z⟩:=ag O (n-m) p m (by omega) (by omega) u;refine⟨by rw[x,hs],y.trans d,?_⟩;have e:m+(n-m)=n:=by omega
  rw[e] at z;exact z
 ·rw[if_neg hm];have e:m=n:=by omega
  subst e;exact⟨hs,d,u⟩
end SortA
namespace SortA
open PySem PySem.W PyProof.Rows
def wq {α:Type}(n:Nat)(P:α->Prop):KasT α->Prop
 |.ret a=>P a
 |.ask i j k=>i<n/\j<n/\∀b,wq n P (k b)
theorem wq.bind {α β:Type}{n:Nat}{P:α->Prop}{P':β->Prop}{f:α->KasT β}(h2:∀a,P a->wq n P' (f a)):∀t:KasT α,wq n P t->wq n P' (t.bind f)
 |.ret a,h=>h2 a h
 |.ask i j k,⟨a,b,c⟩=>⟨a,b,fun x=>wq.bind h2 (k x) (c x)⟩
def Bd (n:Nat)(p:Array Nat):Prop:=∀x∈p,x<n
theorem Bd.get {n:Nat}{p:Array Nat}(h:Bd n p)(hn:0<n)(i:Nat):p.getD i 0<n:=by
 by_cases hi:i<p.size
 ·have e:p.getD i 0=p[i]:=by simp[Array.getD,hi]
  rw[e];exact h _ (Array.getElem_mem hi)
 ·have e:p.getD i 0=0:=by simp[Array.getD,hi]
  rw[e];exact hn
theorem Bd.perm {n:Nat}{p q:Array Nat}(h:Bd n p)(e:q.Perm p):Bd n q:=fun x hx=>h x (e.mem_iff.mp hx)
theorem rQ {n:Nat}{p:Array Nat}(B:Bd n p)(hn:0<n):∀f k,wq n (fun _=>True) (kas_asc p f k)
 |0,_=>trivial
 |f+1,k=>⟨B.get hn _,B.get hn _,fun b=>by
  cases b with
  |true=>exact trivial
  |false=>exact rQ B hn f (k+1)⟩
theorem ug {n:Nat}(hn:0<n):∀f (p:Array Nat) k q,Bd n p->wq n (fun r:Array Nat×Nat×Nat=>Bd n r.1) (kas_desc f p k q)
 |0,_,_,_,B=>B
 |f+1,p,k,q,B=>⟨B.get hn _,B.get hn _,fun b=>by
  cases b with
  |true=>
   show wq n _ (if q > 0 then _ else _);split
   ·exact ug hn f _ _ _ (B.perm (xm _ _ _))
   ·exact ug hn f _ _ _ B
  |false=>
   refine⟨B.get hn _,B.get hn _,fun b=>?_⟩;cases b with
   |true=>exact B
   |false=>exact ug hn f _ _ _ B⟩
theorem qZ {n:Nat}{p:Array Nat}(B:Bd n p)(hn:0<n)(m r:Nat):wq n (fun r:Nat×Array Nat=>Bd n r.2) (kas_tail3 m r p):=by
 unfold kas_tail3;refine wq.bind (P:=fun _=>True) (fun a _=>?_) _ (rQ (B.perm (xm _ _ _)) hn _ _);exact B.perm (xm _ _ _)
theorem uB {n:Nat}{p:Array Nat}(B:Bd n p)(hn:0<n)(m r:Nat):wq n (fun r:Nat×Array Nat=>Bd n r.2) (kas_descPart m r p):=
 wq.bind (fun a ha=>by
  split
  ·exact qZ (Bd.perm ha (xm _ _ _)) hn _ _
  ·exact qZ ha hn _ _) _ (ug hn _ _ _ _ B)
theorem jQ {n:Nat}{p:Array Nat}(B:Bd n p)(hn:0<n)(r:Nat):wq n (fun r:Nat×Array Nat=>Bd n r.2) (kas_count r p):=
 wq.bind (fun a _=>by
  split
  ·exact B
  ·split
   ·refine⟨B.get hn _,B.get hn _,fun b=>?_⟩;cases b with
    |true=>exact B
    |false=>exact uB (B.perm (xm _ _ _)) hn _ _
   ·exact uB B hn _ _) _ (rQ B hn _ _)
theorem uG {n:Nat}{p:Array Nat}(B:Bd n p)(hn:0<n)(k:Nat):∀f l r,wq n (fun _=>True) (kas_place p k f l r)
 |0,_,_=>trivial
 |f+1,l,r=>by
  show wq n _ (if l≥r then _ else _);split
  ·exact trivial
  ·refine⟨B.get hn _,B.get hn _,fun b=>?_⟩;cases b with
   |true=>exact uG B hn k f _ _
   |false=>exact uG B hn k f _ _
theorem kb {n:Nat}(hn:0<n):∀f (p:Array Nat) k,Bd n p->wq n (fun _=>True) (kas_bin f p k)
 |0,_,_,_=>trivial
 |f+1,p,k,B=>wq.bind (fun l _=>kb hn f _ _ (B.perm (bubble_perm _ _ _))) _ (uG B hn k _ _ _)
theorem cc {n:Nat}(hn:0<n):wq n (fun _=>True) (kas_sort n):=
 wq.bind (fun a ha=>by
  split
  ·exact kb hn _ _ _ ha
  ·exact trivial) _ (jQ (fun x hx=>by simpa using hx) hn n)
theorem wp_run {α:Type}{n:Nat}{P:α->Prop}{cmp:Nat->Nat->(Bool->Shared->Prop)->Shared->Prop}{lt:Nat->Nat->Bool}{Q:α->Shared->Prop}{s:Shared}(hc:∀i j C,i<n->j<n->C (lt i j) s->cmp i j C s):
  ∀t:KasT α,wq n P t->Q (run lt t) s->t.kasWp cmp Q s
 |.ret _,_,h=>h
 |.ask i j k,⟨a,b,c⟩,h=>hc i j _ a b (wp_run hc (k (lt i j)) (c _) h)
noncomputable def lx (p q:Int×Int):Bool:=decide (p.1<q.1\/(p.1=q.1/\p.2<q.2))
noncomputable def at2 (ps:List (Int×Int))(i:Nat):Int×Int:=ps.getD i (0,0)
theorem zG0 (ps:List (Int×Int)):Ord fun i j=>lx (at2 ps i) (at2 ps j) where
 irr:=fun a=>by simp[lx]
 tr:=fun a b c=>by
  unfold lx;generalize at2 ps a=x;generalize at2 ps b=y;generalize at2 ps c=z;simp only[z65];omega
 asy:=fun a b=>by
  unfold lx;generalize at2 ps a=x;generalize at2 ps b=y;simp only[z65,z07];omega
theorem jI (ps:List (Int×Int))(h:0<ps.length):∃ix:List Nat,run (fun i j=>lx (at2 ps i) (at2 ps j)) (kas_sort ps.length)=ix.toArray/\ix.length=ps.length/\(∀i∈ix,i<ps.length)/\(ix.map (at2 ps)).Perm ps/\(ix.map (at2 ps)).Pairwise (fun p q=>lx q p=false):=by
 obtain⟨a,b,c⟩:=zr5 (zG0 ps) h;generalize run (fun i j=>lx (at2 ps i) (at2 ps j)) (kas_sort ps.length)=r at a b c;have e:(List.range ps.length).map (at2 ps)=ps:=by
  apply ye3
  ·simp
  ·intro i h1 h2;simp[at2,h2]
 have pl:r.toList.Perm (List.range ps.length):=by
  have:=Array.perm_iff_toList_perm.mp b;simpa using this
 refine⟨r.toList,by simp,by simpa using a,fun i hi=>by simpa using pl.mem_iff.mp hi,?_,?_⟩
 ·have:=pl.map (at2 ps);rw[e] at this;exact this
 ·rw[List.pairwise_map,yc1];intro i j hi hj hij;have h1:j<r.size:=by simpa using hj
  have:=c i j (by omega) (by rw[<-a];exact h1);have ei:g r i=r.toList[i]:=by
   have:i<r.size:=by omega
   simp[g,Array.getD,this]
  have ej:g r j=r.toList[j]:=by simp[g,Array.getD,h1]
  rw[ei,ej] at this;exact this
end SortA
namespace L2
open PySem PySem.Spec PySem.Calls PySem.W PyProof.Rows SortA
section
variable {prog:Program}{w:World}{A:Around}{E:Value->Shared->Prop}{s:Shared}
def Prs (h:Heap):List Value->List (Int×Int)->Prop
 |[],[]=>True
 |v::vs,p::ps=>(∃a o t u n,v=.ref a/\h.get? a=some o/\o.cls=.type "tuple"/\o.data=.seq #[.int p.1 t,.int p.2 u] n)/\Prs h vs ps
 |_,_=>False
theorem Prs.len {h:Heap}:∀{vs:List Value} {ps:List (Int×Int)},Prs h vs ps->vs.length=ps.length
 |[],[],_=>rfl
 |[],_::_,h=>h.elim
 |_::_,[],h=>h.elim
 |_::_,_::_,⟨_,h⟩=>by simp[Prs.len h]
theorem Prs.at {h:Heap}:∀{vs:List Value} {ps:List (Int×Int)} (i:Nat),Prs h vs ps->i<ps.length->∃a o t u n,vs.getD i Value.none=.ref a/\h.get? a=some o/\o.cls=.type "tuple"/\o.data=.seq #[.int (at2 ps i).1 t,.int (at2 ps i).2 u] n
 |[],[],_,_,hi=>by simp at hi
 |[],_::_,_,h,_=>h.elim
 |_::_,[],_,h,_=>h.elim
 |_::_,_::_,0,⟨x,_⟩,_=>x
 |_::_,_::_,i+1,⟨_,r⟩,hi=>by
  obtain⟨a,o,t,u,n,e,q⟩:=Prs.at i r (by simpa using hi);exact⟨a,o,t,u,n,by simpa using e,q⟩
theorem Prs.tups {h:Heap}:∀{vs:List Value} {ps:List (Int×Int)},Prs h vs ps->∃fs:List Value,KatTups h vs fs/\fs.length=ps.length/\∀v∈fs,∃i t,v=.int i t
 |[],[],_=>⟨[],trivial,rfl,fun _ h=>by simp at h⟩
 |[],_::_,h=>h.elim
 |_::_,[],h=>h.elim
 |_::_,p::_,⟨⟨a,o,t,u,n,e,ho,hc,hd⟩,r⟩=>by
  obtain⟨fs,x,y,z⟩:=Prs.tups r;subst e;refine⟨.int p.1 t::fs,KatTups.cons ho hc hd (by simp) x,by simp[y],fun v hv=>?_⟩;rcases zY1.mp hv with rfl|hv
  ·exact⟨_,_,rfl⟩
  ·exact z v hv
theorem zi9 {a b:Addr}{oa ob:Obj}{p q:Int×Int}{t u t' u':Tok}{n k:Nat}{Q:Bool->Shared->Prop}(ha:s.heap.get? a=some oa)(da:oa.data=.seq #[.int p.1 t,.int p.2 u] n)(hb:s.heap.get? b=some ob)(db:ob.data=.seq #[.int q.1 t',.int q.2 u'] k)
  (h:Q (lx p q) s):wpAny (model prog w) A (keyLt' (tuples' true) (.ref a) (.ref b)) Q E s:=by
 refine kat_lt ha da hb db (kat_cons (wpAny_eqBool_int ?_));by_cases e:p.1=q.1
 ·have e1:(p.1 == q.1)=true:=by simp[e]
  rw[e1];refine kat_yes (kat_cons (wpAny_eqBool_int ?_));by_cases e2:p.2=q.2
  ·have e3:(p.2 == q.2)=true:=by simp[e2]
   rw[e3];refine kat_yes (kat_nil ?_);have:lx p q=false:=by simp[lx,e,e2]
   rw[this] at h;simpa using h
  ·have e3:(p.2 == q.2)=false:=by simp[e2]
   rw[e3];refine kat_no (kat_one _ _ (wpAny_lt_int ?_));have:lx p q=decide (p.2<q.2):=by simp[lx,e]
   rw[this] at h;exact h
 ·have e1:(p.1 == q.1)=false:=by simp[e]
  rw[e1];refine kat_no (oneLt_int ?_);have:lx p q=decide (p.1<q.1):=by simp[lx,e]
  rw[this] at h;exact h
theorem jx {vs:List Value}{ps:List (Int×Int)}(h2:2<=vs.length)(P:Prs s.heap vs ps){R:Array Nat->Shared->Prop}(hr:∀ix:List Nat,ix.length=ps.length->(∀i∈ix,i<ps.length)->(ix.map (at2 ps)).Perm ps->(ix.map (at2 ps)).Pairwise (fun p q=>lx q p=false)->R ix.toArray s):
  wpAny (model prog w) A (keyKind' vs.toArray) (fun κ s'=>(kas_sort vs.length).kasWp (kas_ask prog w A κ vs) R s') (fun _ _=>False) s:=by
 obtain⟨fs,t,hl,hi⟩:=P.tups;have hlen:=P.len;refine kat_kind (T:=.type "int") t (by omega) (fun v hv=>?_) (by decide) ?_
 ·obtain⟨i,t,rfl⟩:=hi v hv;exact .now
 ·have e:(Value.type "int" != Value.type "tuple")=true:=by decide
  rw[e];obtain⟨ix,e1,e2,e3,e4,e5⟩:=jI ps (by omega);rw[hlen];refine wp_run (n:=ps.length) (P:=fun _=>True) (lt:=fun i j=>lx (at2 ps i) (at2 ps j)) (fun i j C hi hj hC=>?_) _ (cc (by omega)) ?_
  ·obtain⟨a,o,t,u,n,ea,ha,_,da⟩:=P.at i hi;obtain⟨b,o',t',u',n',eb,hb,_,db⟩:=P.at j hj;unfold kas_ask;rw[ea,eb];exact zi9 ha da hb db hC
  ·rw[e1];exact hr ix e2 e3 e4 e5
def Srt (vs:List Value)(ps:List (Int×Int))(out:List Value):Prop:=
 ∃ix:List Nat,out=ix.map (fun i=>vs.getD i Value.none)/\ix.length=ps.length/\(∀i∈ix,i<ps.length)/\(ix.map (at2 ps)).Perm ps/\(ix.map (at2 ps)).Pairwise (fun p q=>lx q p=false)
theorem Srt.len {vs:List Value}{ps:List (Int×Int)}{out:List Value}(h:Srt vs ps out):out.length=ps.length:=by
 obtain⟨ix,rfl,e,_⟩:=h;simp[e]
end
inductive PrV (H:Hp):List V->List (Int×Int)->Prop where
 |nil:PrV H [] []
 |cons {a:Addr} {xs:List V} {p:Int×Int} {ps:List (Int×Int)}:H a=some (.tup [.int p.1,.int p.2])->PrV H xs ps->PrV H (.ref a::xs) (p::ps)
section
variable {X:Cx}{pins:List (Addr×Obj)}{σ:St}{H H':Hp}{s:Shared}
theorem PrV.len {xs:List V}{ps:List (Int×Int)}(h:PrV H xs ps):xs.length=ps.length:=by
 induction h with
 |nil=>rfl
 |cons _ _ ih=>simp[ih]
theorem PrV.keep {xs:List V}{ps:List (Int×Int)}(k:∀a p q,H a=some (.tup [.int p,.int q])->H' a=some (.tup [.int p,.int q]))(h:PrV H xs ps):PrV H' xs ps:=by
 induction h with
 |nil=>exact .nil
 |cons e _ ih=>exact .cons (k _ _ _ e) ih
theorem PrV.app {xs ys:List V}{ps qs:List (Int×Int)}(h:PrV H xs ps)(h':PrV H ys qs):PrV H (xs++ys) (ps++qs):=by
 induction h with
 |nil=>exact h'
 |cons e _ ih=>exact .cons e ih
theorem PrV.prs (I:Inv X pins σ H s):∀{xs:List V} {ps:List (Int×Int)} {us:List Value},PrV H xs ps->Vals xs us->Prs s.heap us ps:=by
 intro xs ps us h
 induction h generalizing us with
 |nil=>intro r;cases r;exact trivial
 |@cons a xs p ps e _ ih=>
  intro r;cases r with
  |cons r rr=>
   cases (show _=Value.ref a from r);obtain⟨_,its,vi,o,ho,hc,n,hd⟩:=(show zP X.prog X.w H s.heap a (.tup [.int p.1,.int p.2]) from I.hok a _ e);obtain⟨u,v,rfl,⟨t,rfl⟩,⟨t',rfl⟩⟩:=Vals.two vi;exact⟨⟨a,o,t,t',n,rfl,ho,hc,hd⟩,ih rr⟩
theorem jh {xs:List V}{us:List Value}(r:Vals xs us):∀i x,xs[i]?=some x->RelV x (us.getD i Value.none):=by
 induction r with
 |nil=>intro i x h;simp at h
 |cons e _ ih=>
  intro i x h;cases i with
  |zero=>have h':=z05 (by simpa using h);subst h';exact e
  |succ i=>exact ih i x (by simpa using h)
end
end L2
namespace Days
end Days
namespace L2
open PySem PySem.Spec PyProof.Rows Days
section
variable {X:Cx}{α:Ev}{e a b c tg:Expr}{pos p:Pos}{Q:PyData->Prop}{E:xi}{sts:List Stmt}
end
theorem zg1 (ds:List PyData):ds.filter (fun _=>true)=ds:=List.filter_eq_self.mpr fun _ _=>rfl
section
variable {X:Cx}{α:Ev}{tg:Expr}{pos p:Pos}{E:xi}{sts body:List Stmt}
end
noncomputable def isNone :PyData->Bool
 |.none=>true
 |_=>false
theorem DV.non_iff {H:Hp}{x:V}{d:PyData}(h:DV H x d):decide (x=.non)=isNone d:=by
 cases h<;>simp[isNone]
noncomputable abbrev eqS (d:PyData)(s:Str):Bool:=PyData.eqv d (.str s)
noncomputable abbrev vY :PyData->Bool:=yv 0 1000000000000
noncomputable def uW :PyData->Bool
 |.tuple [.int m,f]=>yv 2 14 (.int m)&&yv 1 (m-1) f
 |_=>false
noncomputable def zI (w v:PyData):Bool:=
 if eqS w "price"=true then isNone v||vY v
 else if (eqS w "come"||eqS w "go")=true then isBool v
 else if (eqS w "least"||eqS w "most")=true then yv 1 14 v
 else if eqS w "deal"=true then isNone v||uW v
 else eqS w "fee"&&vY v
noncomputable def xq :PyData->Bool
 |.tuple [w,a,b,v]=>yE (.tuple [a,b])&&zI w v
 |_=>false
noncomputable abbrev words :List Str:=["price","come","go","least","most","deal","fee"]
theorem iU {x:Str}(h:(PyData.str x).canLay0=true):SeqAt.shaped (.str x)=true:=by
 unfold SeqAt.shaped;rw[h];rfl
def gR :Sp:=fun vs H Q _=>∃x y dw dv,vs=[x,y]/\DV H x dw/\SeqAt.shaped dw=true/\DV H y dv/\Q (.bl (zI dw dv)) H
def zj5 :Sp:=fun vs H Q _=>∃x d,vs=[x]/\DV H x d/\SeqAt.shaped d=true/\∀H',zz H H'->Q (.bl (xq d)) H'
theorem ma {ds:List PyData}(h:SeqAt.shaped (.tuple ds)=true):∀d∈ds,SeqAt.shaped d=true:=by
 unfold SeqAt.shaped at h;rw[zZ9,z07] at h;obtain⟨h1,h2⟩:=h;simp only[PyData.canLay0] at h1;simp only[PyData.depth] at h2;have key:∀(ds:List PyData),PyData.canLayAll0 ds=true->PyData.depthAll ds+1<=64->∀d∈ds,SeqAt.shaped d=true:=by
  intro ds
  induction ds with
  |nil=>intro _ _ d hd;simp at hd
  |cons e r ih=>
   intro a b d hd;simp only[PyData.canLayAll0,zZ9] at a;simp only[PyData.depthAll] at b;rcases zY1.mp hd with z|z
   ·subst z;unfold SeqAt.shaped;rw[a.1,z28,z07];omega
   ·exact ih a.2 (by omega) d z
 exact key ds h1 (by omega)
noncomputable def vH (x y z:V):List (Str×V):=wu "worth" z (wu "last" y (wu "first" x []))
theorem zl1 :¬(("worth":Str)="last"):=by decide +kernel
theorem bU :¬(("worth":Str)="first"):=by decide +kernel
theorem za3 :¬(("last":Str)="first"):=by decide +kernel
theorem qh (x y z:V):(vH x y z).lookup ("first":Str)=some x:=by
 unfold vH;rw[yb,if_neg (fun e=>bU e.symm),yb,if_neg (fun e=>za3 e.symm),yb,if_pos rfl]
theorem oh (x y z:V):(vH x y z).lookup ("last":Str)=some y:=by
 unfold vH;rw[yb,if_neg (fun e=>zl1 e.symm),yb,if_pos rfl]
theorem hU (x y z:V):(vH x y z).lookup ("worth":Str)=some z:=by
 unfold vH;rw[yb,if_pos rfl]
theorem zo6 (x y z:V){m:Str}(h1:¬m="worth")(h2:¬m="last")(h3:¬m="first"):(vH x y z).lookup m=none:=by
 unfold vH;rw[yb,if_neg h1,yb,if_neg h2,yb,if_neg h3];rfl
structure Cs where
 price:Addr
 come:Addr
 go:Addr
 least:Addr
 most:Addr
 deal:Addr
 fee:Addr
noncomputable def Cs.of (c:Cs)(w:Str):Addr:=
 if w="price" then c.price else if w="come" then c.come else if w="go" then c.go else if w="least" then c.least else if w="most" then c.most else if w="deal" then c.deal else c.fee
structure wG (K:PySem.W.Frag)(C fI fT fE fW:Addr):Prop where
 cl:Cls K C
 nf:yT K C "first"
 nl:yT K C "last"
 nw:yT K C "worth"
 makes:Mk K C fI
 told:Meth K C "told" fT
 tells:Meth K C "tells" fE
 word:Meth K C "word" fW
def zH0 (C:Addr):Sp:=fun vs H Q _=>∃(p dx:Addr) (x y z:V),vs=[.ref p,x,y,z]/\H p=some (.ins C dx [])/\Q .non (upd H p (.ins C dx (vH x y z)))
def va (w:Str):Sp:=fun vs H Q _=>∃p,vs=[.ref p]/\Q (.str w) H
def zg2 (C:Addr)(w:Str):Sp:=fun vs H Q _=>∃(p dx:Addr) (x y z:V),vs=[.ref p]/\H p=some (.ins C dx (vH x y z))/\∀q,H q=none->Q (.ref q) (upd H q (.tup [.str w,x,y,z]))
def gS (C:Addr):Sp:=fun vs H Q _=>∃(p dx:Addr) (a b day:Int) (z:V),vs=[.ref p,.int day]/\H p=some (.ins C dx (vH (.int a) (.int b) z))/\Q (.bl (decide (a<=day)&&decide (day<=b))) H
def zd2 (cs:Cs):Sp:=fun vs H Q _=>∃(w:Str) (x y z:V),vs=[.str w,x,y,z]/\w∈words/\∀(p dx:Addr) (H':Hp),H' p=some (.ins (cs.of w) dx (vH x y z))->H p=none->zz H H'->Q (.ref p) H'
def jd (cs:Cs):Sp:=fun vs H Q _=>∃x d,vs=[x]/\DV H x d/\SeqAt.shaped d=true/\(xq d=false->∀H',zz H H'->Q .non H')/\
 (∀(r:Addr) (w:Str) (x1 x2 x3:V) (p dx:Addr) (H':Hp),x=.ref r->xq d=true->w∈words->H r=some (.tup [.str w,x1,x2,x3])->H' p=some (.ins (cs.of w) dx (vH x1 x2 x3))->H p=none->zz H H'->Q (.ref p) H')
theorem vw {d:PyData}{s:Str}(h:eqS d s=true):d=.str s:=by
 cases d with
 |str x=>
  have h':(x == s)=true:=h;rw[eq_of_beq h']
 |_=>simp[PyData.eqv] at h
theorem kn {w v:PyData}(h:zI w v=true):∃s∈words,w=.str s:=by
 unfold zI at h;split at h
 ·rename_i e;exact⟨"price",by simp[words],vw e⟩
 ·split at h
  ·rename_i e;rcases (z67 _ _).mp e with e|e
   ·exact⟨"come",by simp[words],vw e⟩
   ·exact⟨"go",by simp[words],vw e⟩
  ·split at h
   ·rename_i e;rcases (z67 _ _).mp e with e|e
    ·exact⟨"least",by simp[words],vw e⟩
    ·exact⟨"most",by simp[words],vw e⟩
   ·split at h
    ·rename_i e;exact⟨"deal",by simp[words],vw e⟩
    ·rw[zZ9] at h;exact⟨"fee",by simp[words],vw h.1⟩
theorem wz {d:PyData}(h:xq d=true):∃(s:Str) (a b v:PyData),s∈words/\d=.tuple [.str s,a,b,v]:=by
 unfold xq at h;split at h
 ·rename_i w a b v;rw[zZ9] at h;obtain⟨s,hs,rfl⟩:=kn h.2;exact⟨s,a,b,v,hs,rfl⟩
 ·cases h
section
variable {X:Cx}
end
noncomputable abbrev vW (C:Addr)(fs:List (PyData×PyData)):PyData:=.dict ((.int (C:Nat),.none)::fs)
noncomputable def rn :List (PyData×PyData)->Str->Option PyData
 |[],_=>none
 |(.str g,d)::r,f=>if f=g then some d else rn r f
 |_::r,f=>rn r f
theorem AVf.get {H:Hp}:∀{fs:List (Str×V)} {ds:List (PyData×PyData)} {f:Str} {d:PyData},AVf H fs ds->rn ds f=some d->∃v,fs.lookup f=some v/\AV H v d
 |_,_,f,d,.nil,e=>by cases e
 |_,_,f,d,.cons (f:=g) h r,e=>by
  rw[z37];unfold rn at e;by_cases z:f=g
  ·subst z;rw[if_pos rfl] at e;cases e;exact⟨_,by simp,h⟩
  ·rw[if_neg z] at e;have z':(f == g)=false:=by simpa using z
   rw[z'];exact AVf.get r e
theorem AVf.none {H:Hp}:∀{fs:List (Str×V)} {ds:List (PyData×PyData)} {f:Str},AVf H fs ds->rn ds f=Option.none->fs.lookup f=Option.none
 |_,_,f,.nil,e=>rfl
 |_,_,f,.cons (f:=g) h r,e=>by
  rw[z37];unfold rn at e;by_cases z:f=g
  ·subst z;rw[if_pos rfl] at e;cases e
  ·rw[if_neg z] at e;have z':(f == g)=false:=by simpa using z
   rw[z'];exact AVf.none r e
theorem AV.ins_inv {H:Hp}{v:V}{C:Addr}{ds:List (PyData×PyData)}(h:AV H v (vW C ds)):∃a dx fs,v=.ref a/\H a=some (.ins C dx fs)/\AVf H fs ds:=by
 generalize e:vW C ds=d at h;cases h with
 |@ins a C' dx fs ds' h1 h2=>
  injection e with e;injection e with e1 e2;have e3:(C:Int)=(C':Int):=by
   have:=congrArg Prod.fst e1;injection this
  have e4:C=C':=Int.ofNat.inj e3;subst e4 e2;exact⟨a,dx,fs,rfl,h1,h2⟩
 |_=>cases e
section
variable {X:Cx}{α:Ev}{o e:Expr}{es:List Expr}{pos apos p:Pos}{Q:PyData->Prop}{C:Addr}{f m:Str}
theorem iW (c:Cls X.K C)(na:yT X.K C f)(h:EvD X α o fun x=>∃fs d,x=vW C fs/\rn fs f=some d/\Q d)(hb:attributeBase o f X.env (eval o X.env)=eval o X.env:=by rfl):EvD X α (.Attribute o f pos) Q:=fun F σ H R m k=>by
 refine⟨_,sk zk hb,?_⟩;refine h F σ H _ m fun x vx H1 q1 t1 k1 r1=>?_;obtain⟨fs,d,rfl,hf,q⟩:=q1;obtain⟨a,dx,gs,rfl,h1,h2⟩:=r1.ins_inv;obtain⟨v,hv,av⟩:=h2.get hf;exact⟨a,C,dx,gs,v,rfl,(zh h1).2,c,na,hv,k d v H1 q t1 k1 av⟩
structure vt (P:Program)(w:World)(K:PySem.W.Frag)(mg:Str->Option Value)(base:Heap)(C:Addr)(m:Str)(k:Nat)(φ:List A->(A->Prop)->Prop):Prop where
 ex:∃f fd ps,Cls K C/\Meth K C m f/\Binds K fd ps []/\zF P w K mg base CX0 k f fd ps (spA φ)
theorem xE {k:Nat}{φ:List A->(A->Prop)->Prop}{pl:Sem Bool}(M':vt X.prog X.w X.K X.mg X.base C m k φ)(hr:zS k X.A)(h:EvD X α o fun x=>∃fs,x=vW C fs/\rn fs m=none/\EvA X α (e::es) fun as=>φ (.dat (vW C fs)::as) fun a=>Q a.d)
  (hst:starEach (e::es) X.env=(false,eval e X.env)::starEach es X.env:=by rfl) (hpl:(backTo pos (starEach es X.env)).any (·.1)=false:=by rfl)
  (ht:eval (.Call (.Attribute o m apos) (e::es) [] pos) X.env=(do
   let ov <-eval o X.env
   standAt apos.atName
   let (f,first) <-holding [ov] (getMethod ov m pl)
   callWith pos f first (backTo pos (starEach (e::es) X.env)) (backToKw pos (keywordEach [] X.env))):=by rfl):EvD X α (.Call (.Attribute o m apos) (e::es) [] pos) Q:=fun F σ H R m' kk=>by
 obtain⟨f,fd,ps,c,hm,hb,G⟩:=M'.ex;refine⟨_,zq4 zk c hm G hr hb .nil ym yV hst hpl ht,?_⟩;refine h F σ H _ m' fun x vx H1 q1 t1 k1 r1=>?_;obtain⟨fs,rfl,hf,q⟩:=q1;have m1:=m'.kz k1 t1;obtain⟨a,dx,gs,rfl,h1,h2⟩:=r1.ins_inv;refine⟨a,dx,gs,rfl,(zh h1).2,h2.none hf,?_⟩;refine q F σ H1 _ m1 fun as vs H2 q2 t2 k2 r2=>?_;have m2:=m1.kz k2 t2;have cf:=vm (vs:=.ref a::vs) (as:=.dat (vW C fs)::as) (R:=R) (E:=E0) m2 (.cons (r1.same (k2.gz m1.tp)) r2) q2 fun z v H' qa ra=>by
  obtain⟨g1,g2,g3⟩:=ra.back m2;exact kk _ v H' qa g1 ((k1.trans k2).trans g2) g3
 exact cf
theorem qQ {k:Nat}{φ:List A->(A->Prop)->Prop}{pl:Sem Bool}(M':vt X.prog X.w X.K X.mg X.base C m k φ)(hr:zS k X.A)(h:EvD X α o fun x=>∃fs,x=vW C fs/\rn fs m=none/\φ [.dat (vW C fs)] fun a=>Q a.d)
  (ht:eval (.Call (.Attribute o m apos) [] [] pos) X.env=(do
   let ov <-eval o X.env
   standAt apos.atName
   let (f,first) <-holding [ov] (getMethod ov m pl)
   callWith pos f first (backTo pos (starEach [] X.env)) (backToKw pos (keywordEach [] X.env))):=by rfl):EvD X α (.Call (.Attribute o m apos) [] [] pos) Q:=fun F σ H R m' kk=>by
 obtain⟨f,fd,ps,c,hm,hb,G⟩:=M'.ex;refine⟨_,ko zk c hm G hr hb .nil ym ht,?_⟩;refine h F σ H _ m' fun x vx H1 q1 t1 k1 r1=>?_;obtain⟨fs,rfl,hf,q⟩:=q1;have m1:=m'.kz k1 t1;obtain⟨a,dx,gs,rfl,h1,h2⟩:=r1.ins_inv;refine⟨a,dx,gs,rfl,(zh h1).2,h2.none hf,?_⟩;have cf:=vm (vs:=[.ref a]) (as:=[.dat (vW C fs)]) (R:=R) (E:=E0) m1 (.cons r1 .nil) q fun z v H' qa ra=>by
  obtain⟨g1,g2,g3⟩:=ra.back m1;exact kk _ v H' qa g1 (k1.trans g2) g3
 exact cf
def zs5 (F:Fr)(v:V)(H':Hp)(d:PyData):Prop:=zM F H'/\Kz F F.H0 H'/\AV (sub (fun x=>¬F.O0 x/\∀xs,F.H0 x≠some (.lst xs)) H') v d
def EvN (X:Cx)(α:Ev)(e:Expr)(Q:PyData->Prop):Prop:=∀(F:Fr) (σ:St) (H:Hp) (R:VK),M F α σ H->(∀d v H',Q d->zM F H'->Kz F H H'->AV (sub (fun x=>¬Ow F α σ x/\∀xs,H x≠some (.lst xs)) H') v d->R v H')->tf X e σ H R
theorem EvN.d (h:EvN X α e Q):EvD X α e Q:=fun F σ H R m k=>h F σ H R m fun d v H' q t z r=>k d v H' q t z (r.same (zx fun a o h e=>⟨h.1,e⟩))
def spI (C:Addr)(φ:List A->(A->Prop)->Prop):Sp:=fun vs H Qc _=>∃(F:Fr) (as:List A) (Q:A->Prop) (x dx:Addr) (vs':List V) (H1:Hp),vs=.ref x::vs'/\H1 x=none/\H1 dx=none/\dx≠x/\H=upd (upd H1 dx (.own x)) x (.ins C dx [])/\
 F.H0=H1/\zM F H1/\(∀y,F.O0 y->∃u,H1 y=some u/\vE u)/\yA F (sub (fun y=>¬F.O0 y) H1) vs' as/\φ as Q/\∀d H',Q (.dat d)->zs5 F (.ref x) H' d->Qc .non H'
structure cA (P:Program)(w:World)(K:PySem.W.Frag)(mg:Str->Option Value)(base:Heap)(x:Str)(k:Nat)(dvs:List V)(φ:List A->(A->Prop)->Prop):Prop where
 ex:∃C f fd ps ds,mg x=some (.ref C)/\Mk K C f/\Binds K fd ps ds/\Vals dvs ds/\zF P w K mg base CX0 k f fd ps (spI C φ)
theorem gr {F:Fr}{σ:St}{H:Hp}{vs:List V}{as:List A}{QA:A->Prop}{R:VK}{φ:List A->(A->Prop)->Prop}(m:M F α σ H)(rv:yA F (Gz F α σ H) vs as)(hφ:φ as QA)
  (kk:∀d v H',QA (.dat d)->zs5 ⟨H,Ow F α σ,F.tp⟩ v H' d->R v H') {E:XK} (x dx:Addr) (hx:H x=none) (hdx:H dx=none) (hne:dx≠x):spI C φ (.ref x::vs) (upd (upd H dx (.own x)) x (.ins C dx [])) (fun v H2=>v=.non/\R (.ref x) H2) E:=by
 refine⟨⟨H,Ow F α σ,F.tp⟩,as,QA,x,dx,vs,H,rfl,hx,hdx,hne,rfl,rfl,?_,?_,?_,hφ,fun d H' qa ra=>⟨rfl,kk d _ H' qa ra⟩⟩
 ·exact m.tp.to rfl fun _ z=>.inl z
 ·exact fun y z=>m.owEx z
 ·exact yA.to (F:=F) (F':=⟨H,Ow F α σ,F.tp⟩) (fun _ _ e=>e) rfl rv
theorem zs5.back {F:Fr}{σ:St}{H H1 H':Hp}{v:V}{d:PyData}(m:M F α σ H)(k1:Kz F H H1)(h:zs5 ⟨H1,Ow F α σ,F.tp⟩ v H' d):zM F H'/\Kz F H1 H'/\AV (sub (fun x=>¬Ow F α σ x/\∀xs,H x≠some (.lst xs)) H') v d:=by
 obtain⟨t,kz,r⟩:=h;refine⟨m.tp.re t rfl,kz,r.same (zx fun a o h e=>⟨⟨h.1,fun xs z=>h.2 xs (k1 _ _ z (m.tp.nt (ow0 h.1)))⟩,e⟩)⟩
theorem fA {k:Nat}{φ:List A->(A->Prop)->Prop}{x:Str}(M':cA X.prog X.w X.K X.mg X.base x k [] φ)(hr:zS (k+1) X.A)(hg:Gl X x)(h:EvA X α (e::es) fun as=>φ as fun a=>Q a.d)
  (hdb:(x == ("__debug__":Str))=false:=by decide) (he:starEach (e::es) X.env=(false,eval e X.env)::starEach es X.env:=by rfl) (hpl:(backTo pos (starEach es X.env)).any (·.1)=false:=by rfl):EvN X α (.Call (.Name x p) (e::es) [] pos) Q:=fun F σ H R m kk=>by
 obtain⟨C,f,fd,ps,ds,hm,hk,hb,hd,G⟩:=M'.ex;cases hd;refine⟨_,wB hk G hr hg hm hb .nil ym yV hdb he hpl,?_⟩;refine h F σ H _ m fun as vs H1 q1 t1 k1 r1=>?_;have m1:=m.kz k1 t1;intro y dx hy hdx hne;rw[z52];refine gr m1 r1 q1 (fun d v H' qa ra=>?_) y dx hy hdx hne;obtain⟨g1,g2,g3⟩:=ra.back m k1;exact kk d v H' qa g1 (k1.trans g2) g3
end
structure zJ3 (K:PySem.W.Frag)(x qual:Str)(st:Stmt)(dV:Value)(f:Addr)(fd:FuncData):Prop where
 ex:∃(oc:Value) (od:Option Addr) (kV doc pm:Value) (an:Option Addr) (cdv ct:Value) (osl:Array (Option Value)),
  fd=PySem.W.fnOf x qual (zV st) (zy st) (zb st) dV kV doc pm an cdv ct/\K.lookup f=some ⟨oc,od,.func fd,osl⟩/\PySem.W.codeIn K cdv qual=true
 kp:PySem.W.keepIn K (.ref f)=true
theorem zu0 {K:PySem.W.Frag}{x qual:Str}{st:Stmt}{f:Addr}{oc:Value}{od an:Option Addr}{osl:Array (Option Value)}{dV kV doc pm cdv ct:Value}(l:K.lookup f=some ⟨oc,od,.func (PySem.W.fnOf x qual (zV st) (zy st) (zb st) dV kV doc pm an cdv ct),osl⟩)
  (c:PySem.W.codeIn K cdv qual=true) (k:PySem.W.keepIn K (.ref f)=true):zJ3 K x qual st dV f (PySem.W.fnOf x qual (zV st) (zy st) (zb st) dV kV doc pm an cdv ct):=⟨⟨oc,od,kV,doc,pm,an,cdv,ct,osl,rfl,l,c⟩,k⟩
section
variable {P:Program}{w:World}{K:PySem.W.Frag}{mg:Str->Option Value}{base:Heap}
theorem zP1 {qual:Str}{st:Stmt}{f C:Addr}{dV:Value}{fd:FuncData}{N:List Str}{x:Str}{k:Nat}{φ:List A->(A->Prop)->Prop}{fl:Str}{e:Expr}{p1 p2 p3:Pos}(G:zJ3 K "__init__" qual st dV f fd)(S:zm ("self"::x::N) ["self",x] (zb st))(c:Cls K C)(na:yT K C fl)
  (hb:zy st=[.Assign [.Attribute (.Name "self" p1) fl p2] e p3]) (hlen:∀as Q,φ as Q->as.length=1)
  (hbody:∀(cdv:Value) (A':Around) (outer:List Env) (s:Shared) (H:Hp) (E:XK) (as:List A) (Q:A->Prop),zS k (A'.deeper (envOfC qual (zb st) s.heap.objs.size f cdv))->φ as Q->
   EvL (uv CX0 P w K mg base ("self"::x::N) qual (zb st) f cdv A' outer s H E).nox (none::as.map some++List.replicate N.length none) e fun ds=>uw ds=true/\Q (.dat (vW C [(.str fl,.list ds)])))
  (hsw:∀(cdv:Value) (A':Around) (outer:List Env) (s:Shared) (H:Hp) (E:XK),swapsWith e (some (.Attribute (.Name "self" p1) fl p2)) p3.line (uv CX0 P w K mg base ("self"::x::N) qual (zb st) f cdv A' outer s H E).nox.env=pure false)
  (hv:Vis (zb st) "self"):zF P w K mg base CX0 (k+1) f fd ["self",x] (spI C φ):=by
 obtain⟨oc,od,kV,doc,pm,an,cdv,ct,osl,rfl,lk,hcd⟩:=G.ex;refine zl2 lk hcd S (fun vs H Q E h=>?_) fun A' outer s H vs Qc E hr h=>?_
 ·obtain⟨F,as,Q',y,dx,vs',H1,rfl,_,_,_,_,_,_,_,rv,hφ,_⟩:=h;rw[zY9,rv.length,hlen as _ hφ];rfl
 ·obtain⟨F,as,Q',y,dx,vs',H1,rfl,hy,hdx,hne,rfl,rfl,t,o,rv,hφ,kk⟩:=h;have hl:=rv.length;have hl1:=hlen as _ hφ;rw[hb];refine⟨_,(show PSs _ _ _ from (zw (mP (X:=(uv CX0 P w K mg base ("self"::x::N) qual (zb st) f cdv A' outer s (upd (upd F.H0 dx (.own y)) y (.ins C dx [])) E).nox) (xK (i:=0) rfl hv) zk (hsw cdv A' outer s _ E))).nox),?_⟩
  let F2:Fr:=⟨F.H0,fun z=>F.O0 z\/z=y\/z=dx,F.tp⟩
  have s1:zz F.H0 (upd (upd F.H0 dx (.own y)) y (.ins C dx [])):=fun a u q=>by rw[zf (zp q hy),zf (zp q hdx)];exact q
  have noy:¬F.O0 y:=fun z=>by obtain⟨u,hu,_⟩:=o y z;rw[hy] at hu;cases hu
  have nodx:¬F.O0 dx:=fun z=>by obtain⟨u,hu,_⟩:=o dx z;rw[hdx] at hu;cases hu
  have t2:zM F2 (upd (upd F.H0 dx (.own y)) y (.ins C dx [])):=(t.same s1).to rfl fun _ z=>.inl z
  -- the names of the body
  have g:∀{i:Nat} {a:A},(none::as.map some++List.replicate N.length none:Ev)[i]?=some (some a)->∃j,i=j+1/\as[j]?=some a:=fun {i a} h=>by
   cases i with
   |zero=>simp at h
   |succ j=>
    refine⟨j,rfl,?_⟩;have h':(as.map some++List.replicate N.length none:Ev)[j]?=some (some a):=by simpa using h
    rcases z97 j as.length with z|z
    ·rw[z58 (by rw[zX5];exact z),zY3,zZ2] at h';obtain⟨b,h1,h2⟩:=h';cases h2;exact h1
    ·rw[z88 (by rw[zX5];exact z),z78] at h';split at h'<;>cases h'
  have at':∀{vs:List V} {as:List A} {i:Nat} {a:A},yA F (sub (fun x=>¬F.O0 x) F.H0) vs as->as[i]?=some a->∃v,vs[i]?=some v/\cK F (sub (fun x=>¬F.O0 x) F.H0) v a:=by
   intro vs as i a h
   induction h generalizing i with
   |nil=>intro e;simp at e
   |cons h r ih=>
    intro e;cases i with
    |zero=>simp at e;subst e;exact⟨_,rfl,h⟩
    |succ i=>obtain⟨v,h1,h2⟩:=ih (by simpa using e);exact⟨v,by simpa using h1,h2⟩
  have gv:∀{j:Nat} {v:V},vs'[j]?=some v->(L2.start ("self"::x::N) (.ref y::vs'))[j+1]?=some (some v):=fun {j v} h=>by
   have hj:j<vs'.length:=(zY0.mp h).1;unfold L2.start;rw[z58 (by rw[zX5,zY9];omega),zY3,yd4,h];rfl
  have no:∀(i:Nat) a,(none::as.map some++List.replicate N.length none:Ev)[i]?=some (some a)->(∃d,a=.dat d)\/a=.tape:=fun i a z=>by
   obtain⟨j,_,hj⟩:=g z;obtain⟨v,_,h⟩:=at' rv hj;cases a with
   |dat d=>exact .inl ⟨d,rfl⟩
   |tape=>exact .inr rfl
   |_=>exact h.elim
  have gs:zz (sub (fun x=>¬F.O0 x) F.H0) (Gz F2 (none::as.map some++List.replicate N.length none) (L2.start ("self"::x::N) (.ref y::vs')) (upd (upd F.H0 dx (.own y)) y (.ins C dx []))):=fun a u q=>by
   obtain⟨z1,z2⟩:=zh q;refine zH ?_ (s1 _ _ z2);rintro ((z|z|z)|⟨i,b,s,e,_,f⟩)
   ·exact z1 z
   ·rw[z,hy] at z2;cases z2
   ·rw[z,hdx] at z2;cases z2
   ·rcases no i b e with ⟨d,rfl⟩|rfl
    ·exact f.elim
    ·exact f.elim
  have m2:M F2 (none::as.map some++List.replicate N.length none) (L2.start ("self"::x::N) (.ref y::vs')) (upd (upd F.H0 dx (.own y)) y (.ins C dx [])):=by
   refine⟨by unfold L2.start;simp[hl,hl1],fun i a s e1 e2=>?_,fun i j a b s t x e1 _ _ _ f=>?_,fun i r q z=>(by rcases no i _ z with ⟨d,w⟩|w<;>cases w),t2,fun z u h _=>s1 z u h,fun z hz=>?_⟩
   ·obtain⟨j,rfl,hj⟩:=g e1;obtain⟨v,h1,h2⟩:=at' rv hj;rw[gv h1] at e2;cases e2;rcases no _ a e1 with ⟨d,rfl⟩|rfl
    ·exact⟨v,rfl,AV.same gs h2⟩
    ·obtain⟨t',b,c,h3,rfl⟩:=h2;exact⟨t',b,c,h3,rfl⟩
   ·rcases no i a e1 with ⟨d,rfl⟩|rfl
    ·exact f.elim
    ·exact f.elim
   ·rcases hz with q|q|q
    ·obtain⟨u,hu,hn⟩:=o z q;exact⟨u,s1 _ _ hu,hn⟩
    ·exact⟨_,by rw[q];exact zj,fun _ q=>by cases q⟩
    ·exact⟨_,by rw[q,zf hne];exact zj,fun _ q=>by cases q⟩
  refine hbody cdv A' outer s _ E as Q' hr hφ F2 _ _ _ m2 fun d v H2 qd t3 k3 r3=>?_;obtain⟨l,xs,rfl,hl0,hl2,avl⟩:=r3;obtain⟨nol,qd⟩:=qd;have nly:l≠y:=fun z=>by rw[z,zj] at hl0;cases hl0
  have nldx:l≠dx:=fun z=>by rw[z,zf hne,zj] at hl0;cases hl0
  have hl00:F.H0 l=none:=by rw[zf nly,zf nldx] at hl0;exact hl0
  have nol0:¬F.O0 l:=fun z=>by obtain⟨u,hu,_⟩:=o l z;rw[hl00] at hu;cases hu
  have nty:NT F2 y:=t.nt noy;have hy2:H2 y=some (.ins C dx []):=k3 _ _ zj nty;refine⟨.ref y,rfl,y,C,dx,[],rfl,hy2,c,na,by show 0<1000;decide,?_⟩;refine kk _ _ qd ⟨(t.re t3 rfl).updO noy (dJ hy2),fun z u h n=>?_,?_⟩
  ·rw[zf (zp h hy)];exact k3 _ _ (s1 _ _ h) n
  ·refine AV.ins (zH ⟨noy,fun xs z=>by rw[hy] at z;cases z⟩ zj) (.cons (.lst (zH ⟨nol0,fun xs z=>by rw[hl00] at z;cases z⟩ (by rw[zf nly];exact hl2)) ?_) .nil);refine avl.noL (fun a u hno z=>?_) nol;obtain⟨z1,z2⟩:=zh z;have na:a≠y:=fun w=>z1.1 (.inl (.inr (.inl w)));refine zH ⟨fun w=>z1.1 (.inl (.inl w)),fun xs w=>?_⟩ (by rw[zf na];exact z2);have:H2 a=some (.lst xs):=k3 _ _ (s1 _ _ w) (t.nt fun w=>z1.1 (.inl (.inl w)));rw[z2] at this;cases this;exact hno trivial
end
section
variable {X:Cx}{α:Ev}{e e':Expr}{pos:Pos}{E:xi}{sts:List Stmt}
end
noncomputable def Itv (K:PySem.W.Frag)(a:Addr)(n:Nat):It:=
 ⟨fun i H=>∃xs x,SqL K H a xs/\xs.length=n/\i<n/\xs[n-1-i]?=some x,fun i H x H'=>H'=H/\∀xs,SqL K H a xs->xs[n-1-i]?=some x,fun i H=>n<=i⟩
theorem zf0 {P:Program}{w:World}{K:PySem.W.Frag}{tg:Expr}(a it:Addr)(n:Nat):Turn P w K tg (Itv K a n) [it] it (fun i h=>i<=n/\h.IsRevIter it a ((n:Int)-1-(i:Int))) where
 mem:=by simp
 obj:=fun i h st b hb=>by
  have e:b=it:=by simpa using hb
  subst e;obtain⟨_,o,e,c,d⟩:=st;exact⟨o,e,fun v z=>by rw[d] at z;cases z⟩
 keep:=fun i h h' st k=>⟨st.1,st.2.at fun o e=>k it (by simp) o e⟩
 item:=by
  intro X hP hw hK hc i pins s σ H E I hf st hg;subst hP hw hK;obtain⟨xs,x,hq,hl,hi,hx⟩:=hg;obtain⟨its,rv,p,hz⟩:=I.list hq;obtain⟨u,hu,ru⟩:=rv.get hx;obtain⟨f0,f1,f2,f3,f4,f5⟩:=hf it (by simp);have e1:((n:Int)-1-(i:Int))=((n-1-i:Nat):Int):=by omega
  have st':=st.2;rw[e1] at st';refine wpAny_pyNext_rev_item st' p.isList (x:=u) (by simpa using hu) fun h' st2 sb=>?_;have I1:Inv X pins σ H {s with heap:=h'}:=I.turned (t':=s.toks) (fun b o hb e=>(sb.2 b hb).trans e) f0 f1 f3 f4 f5;obtain⟨o,e,c,d⟩:=id st2;have e2:(((n-1-i:Nat):Int)-1)=(n:Int)-1-((i+1:Nat):Int):=by omega
  rw[e2] at st2;exact⟨u,rfl,oG (s:={s with heap:=h'}) e c d (by decide) ⟨x,H,I1,ru,⟨rfl,fun ys hy=>by rw[I.list_inj hy hq];exact hx⟩,⟨hi,st2⟩,fun b hb=>(hf b hb).1⟩⟩
 done:=by
  intro X hP hw hK hc i pins s σ H E I hf st hg;subst hP hw hK;have hi:i=n:=Nat.le_antisymm st.1 hg;obtain⟨f0,f1,f2,f3,f4,f5⟩:=hf it (by simp);have st':=st.2;rw[show ((n:Int)-1-(i:Int))=-1 by omega] at st';exact wpAny_pyNext_rev_end (I.ok.hd hc) st' fun h' eb=>⟨rfl,I.turned (t':=s.toks) (fun b o hb e=>eb b o hb e) f0 f1 f3 f4 f5⟩
 self:=fun A i s Q E st h=>wpAny_pyIter_revIter st.2 h
section
variable {X:Cx}{α:Ev}{tg:Expr}{p pos:Pos}{a:Expr}
def zU0 (K:PySem.W.Frag)(ta:TA):TI:=fun σ H R=>ta σ H fun vs H1=>∃l xs,vs=[.ref l]/\SqL K H1 l xs/\R (Itv K l xs.length) H1
theorem zJ7 {ta:TA}(hg:Gl X "reversed")(hm:X.mg "reversed"=none)(ha:PA X [a] ta)(hs:starEach [a] X.env=[(false,eval a X.env)]:=by rfl):PI X tg (.Call (.Name "reversed" p) [a] [] pos) (zU0 X.K ta):=by
 intro pins s σ H R I h;refine Call_ (xA I hg hm boot_reversed (z24 (thn (ha pos pins s σ H _ I h) fun us s1 ⟨vs,H1,I1,r1,q1⟩=>?_) hs rfl));obtain⟨l1,xs,e,hq1,q⟩:=q1;subst e;obtain⟨u,rfl,ru⟩:=Vals.one r1;cases (show u=Value.ref l1 from ru);obtain⟨its1,rv1,p1,hz1⟩:=I1.list hq1;have hlen:=rv1.length;refine call_reversed_list p1.isList ?_;have it0:({s1 with heap:=s1.heap.push (revObj l1 ((its1.toArray.size:Int)-1))}:Shared).heap.IsRevIter s1.heap.objs.size l1 ((xs.length:Int)-1-((0:Nat):Int)):=by
  refine⟨_,zY7 _ rfl,rfl,?_⟩;show Data.fields _=_;rw[zZ1,hlen];simp
 refine wpAny_pyIter_revIter it0 ?_;refine⟨_,_,_,_,H1,rfl,I1.kept (t':=s1.toks) fun b o e=>zX8 _ e,zf0 l1 _ xs.length,⟨zZ4 _,it0⟩,fun b hb=>?_,q⟩;have e:b=s1.heap.objs.size:=by simpa using hb
 subst e;exact I1.fpOk (zY2 _) (I1.hok.fresh (zY2 _))
theorem zC7 {Q:List PyData->Prop}(hg:Gl X "reversed")(hm:X.mg "reversed"=none)(h:EvD X α a fun x=>∃ds,x=.list ds/\Q ds.reverse)(hs:starEach [a] X.env=[(false,eval a X.env)]:=by rfl):
  EvI X α tg (.Call (.Name "reversed" p) [a] [] pos) Q:=fun F σ H R m k=>by
 refine⟨_,zJ7 hg hm (zd zk zu hs) hs,?_⟩;refine h F σ H _ m fun x vx H1 q1 t1 k1 r1=>?_;obtain⟨ds,rfl,q⟩:=q1;obtain⟨l1,xs,rfl,g1,g2⟩:=r1.lst_inv;refine⟨l1,xs,rfl,SqL.of (zh g1).2,k _ _ H1 q t1 k1 fun i H3 p s=>⟨fun d hd=>?_,fun hl=>?_⟩⟩
 ·have s1:=SqL.of (K:=X.K) (zh (s _ _ g1)).2;have hi:i<ds.length:=by
   have:=(zY0.mp hd).1
   rwa [z69] at this
  rw[List.getElem?_reverse hi] at hd;obtain⟨x1,hx1,av1⟩:=g2.get hd;rw[<-g2.length] at hx1;refine⟨⟨xs,x1,s1,rfl,by rw[g2.length];exact hi,hx1⟩,fun v H4 y=>?_⟩;obtain⟨rfl,hy⟩:=y;have:=hy _ s1;rw[hx1] at this;cases this;exact⟨zz.refl _,fun _=>av1.same s⟩
 ·rw[z69,<-g2.length] at hl;exact hl
end
def EnS (w:World):List DictEntry->List (Str×V)->Prop:=Paired fun e p=>e.hash=hashStr w p.1/\(∃t,e.key=.str p.1 t)/\RelV p.2 e.val
def gW (K:PySem.W.Frag)(w:World)(d:Addr)(tb:List (Str×V)):Prop:=
 ∃es n,K.lookup d=some ⟨.type "dict",none,.dict es n,#[]⟩/\EnS w es.toList tb/\(tb.map (·.1)).Nodup
theorem oV {P:Program}{w:World}:∀{es:List DictEntry} {tb:List (Str×V)},EnS w es tb->Pairs (PySem.strKind P w) es (List.zipWith (fun e (p:Str×V)=>(p.1,e.val)) es tb)
 |_,_,.nil=>.nil
 |e::_,p::_,.cons ⟨_,⟨t,ek⟩,_⟩ r=>.cons (by rw[ek];simp[PySem.strKind,Value.isStrOf]) rfl (oV r)
theorem fi {w:World}:∀{es:List DictEntry} {tb:List (Str×V)},EnS w es tb->(List.zipWith (fun e (p:Str×V)=>(p.1,e.val)) es tb).map (·.1)=tb.map (·.1)
 |_,_,.nil=>rfl
 |_,_,.cons _ r=>by simp only[List.zipWith_cons_cons,zZ6,fi r]
theorem ku {P:Program}{w:World}:∀{es:List DictEntry} {tb:List (Str×V)},EnS w es tb->∀e∈es,∃k,(PySem.strKind P w).is k e.key=true/\e.hash=(PySem.strKind P w).hash k
 |_,_,.nil,e,he=>by simp at he
 |_,_,.cons (b:=p) ⟨h1,⟨t,ek⟩,_⟩ r,e,he=>by
  rcases zY1.mp he with rfl|he
  ·exact⟨p.1,by rw[ek];simp[PySem.strKind,Value.isStrOf],h1⟩
  ·exact ku r e he
theorem gH {w:World}{x:Str}{v:V}:∀{es:List DictEntry} {tb:List (Str×V)},EnS w es tb->tb.lookup x=some v->∃u,valueAt (List.zipWith (fun e (p:Str×V)=>(p.1,e.val)) es tb) x=some u/\RelV v u
 |_,_,.nil,e=>by simp at e
 |e::es,p::tb,.cons ⟨_,_,rv⟩ r,h=>by
  obtain⟨y,z⟩:=p;by_cases q:x=y
  ·subst q;simp only[List.lookup_cons_self,Option.some.injEq] at h;subst h;exact⟨e.val,by simp[valueAt],rv⟩
  ·rw[z37,z80.mpr q] at h;obtain⟨u,h1,h2⟩:=gH r h;refine⟨u,?_,h2⟩;rw[<-h1];simp[valueAt,z54,z22 q]
section
variable {X:Cx}{α:Ev}{p pos:Pos}{a:Expr}{g:Str}{Q:PyData->Prop}
def zC4 (i:Expr):Prop:=∀ov iv,subscripted i false ov iv=operate [ov,iv] (getItem ov iv)
theorem zW9 {prog:Program}{w:World}{A:Around}{E:Value->Shared->Prop}{s:Shared}{env:Env}{value slice:Expr}{pos:Pos}{T id:String}{Q:Value->Shared->Prop}
  (hl:typeLookup (.type T) "__getitem__"=pure (some (.builtin id))) (hs:zC4 slice)
  (h:wpAny (model prog w) A (eval value env) (fun o s₁=>wpAny (model prog w) A (eval slice env) (fun i s₂=>s₂.TypeIs o T/\wpAny (model prog w) A (getItem o i) Q E s₂) E s₁) E s):
  wpAny (model prog w) A (eval (.Subscript value slice pos) env) Q E s:=by
 refine Subscript_ (thn h fun o s₁ h₁=>thn h₁ fun i s₂ h₂=>?_);obtain⟨hT,h₂⟩:=h₂;unfold subscriptTail;refine zX6 ?_;rw[getitemInPython_of_ne hT.not_modules];refine zX6 (yc2 hT hl ?_);have fin:wpAny (model prog w) A (subscripted slice false o i) (fun r s₃=>wpAny (model prog w) A (letTemporaryGo value o r >>= fun _=>pure r) Q E s₃) E s₂:=by
  rw[hs o i];exact wpAny_operating (thn h₂ fun r s₃ h₃=>zX6 (wpAny_letTemporaryGo (zY8 h₃)))
 first
  |exact zY8 (zX6 fin)
  |exact zX6 (zY8 (zX6 fin))
  |exact zX6 fin
theorem bY {d:Addr}{tb:List (Str×V)}{ty:TE}(hg:Gl X g)(hm:X.mg g=some (.ref d))(hd:gW X.K X.w d tb)(hi:PE X a ty)(hs:zC4 a)(hb:(g == ("__debug__":Str))=false:=by decide):
  PE X (.Subscript (.Name g p) a pos) (fun σ H Q=>ty σ H fun y H1=>∃x v,y=.str x/\tb.lookup x=some v/\Q v H1):=by
 intro pins s σ H Q I h;refine zW9 PySem.F.slot_dict_getitem.lookup hs (rF I hg hm (thn (hi pins s σ H _ I h) fun iv s2 ⟨y,H2,I2,ry,x,v,ey,ex,q2⟩=>?_) hb);subst ey;obtain⟨t,rfl⟩:=ry;obtain⟨es,n,hl,he,hn⟩:=hd;have dd:s2.heap.DictOf (PySem.strKind X.prog X.w) d (List.zipWith (fun e (p:Str×V)=>(p.1,e.val)) es.toList tb):=
  ⟨_,es,n,I2.kIn _ _ hl,⟨rfl,rfl,rfl⟩,rfl,fun e he'=>ku he e (by simpa using he'),oV he,by rw[fi he];exact hn⟩
 obtain⟨u,h1,h2⟩:=gH he ex;exact⟨dd.typeIs,wpAny_getItem_of (show (PySem.strKind X.prog X.w).is x (.str x t)=true by simp[PySem.strKind,Value.isStrOf]) dd.mapOf h1 ⟨v,H2,I2.tok _,h2,q2⟩⟩
noncomputable def scV :PyData->Option V
 |.none=>some .non
 |.bool b=>some (.bl b)
 |.int i=>some (.int i)
 |.str x=>some (.str x)
 |_=>Option.none
theorem zB8 {H:Hp}{d:PyData}{v:V}(h:scV d=some v):AV H v d:=by
 cases d<;>simp[scV] at h<;>subst h<;>constructor
theorem bX {d:Addr}{tb:List (Str×V)}(hg:Gl X g)(hm:X.mg g=some (.ref d))(hd:gW X.K X.w d tb)(h:EvD X α a fun y=>∃x d v,y=.str x/\tb.lookup x=some v/\scV d=some v/\Q d)(hs:zC4 a:=by exact fun _ _=>rfl)
  (hb:(g == ("__debug__":Str))=false:=by decide):EvD X α (.Subscript (.Name g p) a pos) Q:=fun F σ H R m k=>by
 refine⟨_,bY hg hm hd zk hs hb,?_⟩;refine h F σ H _ m fun y vy H1 q1 t1 k1 r1=>?_;obtain⟨x,d',v,rfl,h1,h2,q⟩:=q1;cases r1.str_inv;exact⟨x,v,rfl,h1,k _ _ H1 q t1 k1 (zB8 h2)⟩
end
section
variable {X:Cx}{α:Ev}{p pos:Pos}{a b:Expr}{g:Str}{Q:PyData->Prop}
noncomputable def sX :PyData->Bool
 |.none=>true
 |.bool _=>true
 |.int _=>true
 |.str _=>true
 |_=>false
theorem eA {H:Hp}{v:V}{d:PyData}(h:AV H v d)(f:sX d=true):uz v=true/\scV d=some v:=by
 cases h<;>first|exact⟨rfl,rfl⟩|cases f
theorem jf {H:Hp}:∀{xs:List V} {ds:List PyData},AVs H xs ds->ds.all sX=true->xs.all uz=true/\ds.map scV=xs.map some
 |_,_,.nil,_=>⟨rfl,rfl⟩
 |_,_,.cons h r,f=>by
  rw[yb6,zZ9] at f;obtain⟨h1,h2⟩:=eA h f.1;obtain⟨h3,h4⟩:=jf r f.2;exact⟨by rw[yb6,h1,h3];rfl,by rw[zZ6,zZ6,h2,h4]⟩
noncomputable def inD (x:PyData)(ds:List PyData):Bool:=ds.any fun y=>match scV y,scV x with
 |some u,some v=>eqV u v
 |_,_=>false
theorem fF {v:V}{x:PyData}(hx:scV x=some v):∀{xs:List V} {ds:List PyData},ds.map scV=xs.map some->inV v xs=inD x ds
 |[],[],_=>rfl
 |[],_::_,e=>by cases e
 |_::_,[],e=>by cases e
 |u::xs,d::ds,e=>by
  rw[zZ6,zZ6] at e;injection e with e1 e2;have ih:=fF hx e2;unfold inV inD at ih ⊢;rw[z89,z89,ih,e1,hx]
theorem aw {neg:Bool}{x:PyData}{ds:List PyData}(fx:sX x=true)(fs:ds.all sX=true):Cmp (rIn X.K neg) x (.list ds) (if neg then !inD x ds else inD x ds):=fun p H vx vy R rx ry h=>by
 obtain⟨ad,xs,rfl,g1,g2⟩:=ry.lst_inv;obtain⟨f1,s1⟩:=eA rx fx;obtain⟨f2,s2⟩:=jf g2 fs;refine⟨ad,xs,rfl,.inl (SqL.of (zh g1).2),f1,f2,?_⟩;rw[fF s1 s2];exact h
end
section
variable {X:Cx}{α:Ev}{p pos:Pos}{a b:Expr}{Q:PyData->Prop}
end
section
variable {X:Cx}{α:Ev}{a e:Expr}{pos p2 p3 p4:Pos}{n1:Nat}{te:TE}
end
def zg4 (T:Addr)(H:Hp):Prop:=∀b:Addr,H b=none\/b=T\/∃o xs,H b=some (.frz o (.lst xs))
theorem bp {P:Program}{w:World}{K:PySem.W.Frag}{mg mb:Str->Option Value}{CX:CXT}{k:Nat}{fa a T:Addr}{fd:FuncData}{x:Str}{sp:Sp}{s₁:Shared}{vs:List Value}{ns:List Int}{ps:Array Value}
  (KX:K.In s₁.heap) (hns:s₁.heap.Ns mainGlobals mg) (hb:s₁.heap.Ns builtinsNs mb) (hbb:∀x:Str,x≠"__name__"->mb x=bootBuiltins x) (hlim:s₁.heap.NoLimit) (hg:s₁.gens=#[])
  (ha:s₁.heap.get? a=some {cls:=.type "list",data:=.seq vs.toArray}) (hi:IntsAre vs ns) (hl:ns.length<=sizeLine) (hr:zS k callerA)
  (hT:s₁.heap.get? T=some (PySem.W.tabObj ps)) (hKT:K.lookup T=none) (hct:isCodeTable s₁.heap T)
  (hbm:∃bm ob,mg "__builtins__"=some (.ref bm)/\bm≠builtinsNs/\s₁.heap.get? bm=some ob/\ob.cls=.type "module"/\ob.dict=some builtinsNs/\ob.data=.plain)
  (F:∀base:Heap,K.In base->base.Ns mainGlobals mg->base.BuiltinsAt mg T->zF P w K mg base CX k fa fd [x] sp) (hbind:∀(s:Shared) (u:Value),BindsTo s fd ⟨[u],[]⟩ [(x,u)])
  (hsp:∀H:Hp,zg4 T H->H T=some (.tbl ps)->SqL K H a (ns.map V.int)->sp [.ref a] H (fun v _=>v=.bl true) fun _ _ _=>False)
  (hCX:∀H e s',CX [] H s₁ (fun _ _ _=>False) e s'->False):
  codeAny (model P w) callerA (.call (.ref fa) ⟨[.ref a],[]⟩) (fun r s'=>r=.ok (.ret (.bool true))/\OldK s₁.heap s'.heap/\s'.os=s₁.os/\AllBare s'.gens) s₁:=by
 have rv:=oz hi;have lenV:=hi.length;have haT:a≠T:=fun z=>by rw[z,hT] at ha;cases ha
 have core:∀H:Hp,zg4 T H->H T=some (.tbl ps)->SqL K H a (ns.map V.int)->HOk P w H s₁.heap->(∀b,H b≠none->b=a\/b=T)->(H a≠none->K.lookup a=none)->
   codeAny (model P w) callerA (.call (.ref fa) ⟨[.ref a],[]⟩) (fun r s'=>r=.ok (.ret (.bool true))/\OldK s₁.heap s'.heap/\s'.os=s₁.os/\AllBare s'.gens) s₁:=by
  intro H hO hHT hS hok hA hK;have base_of:∀{b:Addr} {o:Obj},s₁.heap.get? b=some o->H b=none->(pK s₁.heap H).get? b=some o:=fun e n=>zl5 e n;have noA:∀{b:Addr} {o:Obj} {es:Array DictEntry} {ep:Nat},s₁.heap.get? b=some o->o.data=.dict es ep->H b=none:=fun {b o es ep} e d=>by
   cases q:H b with
   |none=>rfl
   |some u=>
    rcases hA b (by rw[q];simp) with e'|e'
    ·subst e';rw[ha] at e;cases e;have d':Data.seq vs.toArray _=Data.dict es ep:=d;cases d'
    ·subst e';rw[hT] at e;cases e;have d':Data.fields ps=Data.dict es ep:=d;cases d'
  have nsK:∀{b:Addr} {m:Str->Option Value},s₁.heap.Ns b m->(pK s₁.heap H).Ns b m:=fun {b m} ⟨o,es,ep,e,d,r⟩=>⟨o,es,ep,base_of e (noA e d),d,r⟩;have hKb:K.In (pK s₁.heap H):=fun b o e=>base_of (KX b o e) (by
   cases q:H b with
   |none=>rfl
   |some u=>
    rcases hA b (by rw[q];simp) with e'|e'
    ·subst e';rw[hK (by rw[q];simp)] at e;cases e
    ·subst e';rw[hKT] at e;cases e)
  have hM:Mod K mg (pK s₁.heap H):=⟨hKb,nsK hns,⟨mb,nsK hb,hbb⟩,let ⟨mc,h1,h2⟩:=hlim;⟨mc,nsK h1,h2⟩⟩;have hBA:(pK s₁.heap H).BuiltinsAt mg T:=by
   obtain⟨bm,ob,b1,b2,b3,b4,b5,b6⟩:=hbm;have n1:bm≠T:=fun z=>by rw[z,hT] at b3;cases b3;cases b4
   have n2:bm≠a:=fun z=>by rw[z,ha] at b3;cases b3;cases b6
   have n3:bm≠mainGlobals:=fun z=>by
    obtain⟨o,es,ep,e,d,_⟩:=hns;rw[z,e] at b3;cases b3;rw[d] at b6;cases b6
   exact⟨bm,ob,b1,b2,n3,n1,base_of b3 (by
    cases q:H bm with
    |none=>rfl
    |some u=>
          rcases hA bm (by rw[q];simp) with e'|e'
          ·exact absurd e' n2
          ·exact absurd e' n1),b4,b5,b6⟩
  have e0:sq P w K mg (pK s₁.heap H) callerA [] s₁ H:=⟨rfl,hM,fun b o e=>zr4 e,ye9 (eI _ _),trivial,fun b hb=>absurd (show b∈([]:List Addr) from hb) (by simp),hok,.of_eq hg⟩;refine yf0 ((F _ hKb (nsK hns) hBA).run callerA [] s₁ H ⟨[.ref a],[]⟩ [.ref a] [.ref a] _ _ hr e0 (hbind s₁ (.ref a)) (.cons rfl .nil) (hsp H hO hHT hS)) fun r s' h=>?_;cases r with
  |error e=>exact (hCX H e s' h).elim
  |ok fl=>
   cases fl with
   |next=>exact False.elim h
   |brk=>exact False.elim h
   |cont=>exact False.elim h
   |ret u=>
    obtain⟨v,H',os,bare,un,hok',r',q⟩:=h;have q':v=.bl true:=q;subst q';obtain rfl:u=Value.bool true:=r';have old:∀b o,s₁.heap.get? b=some o->asItWas s₁.heap s'.heap b o:=fun b o e=>by
     cases q:H b with
     |none=>exact .inl (un.keep b o e q (by intro z;exact absurd (show b∈([]:List Addr) from z) (by simp)) (by simp))
     |some u=>
      rcases hO b with z|z|⟨ob,xs,z⟩
      ·rw[q] at z;cases z
      ·subst z;obtain⟨more,hm⟩:=un.tbls _ _ hHT;have e2:s'.heap.get? b=some {cls:=.none,data:=.fields (ps++more)}:=hok' _ _ hm;rw[hT] at e;cases e;exact .inr (.inl ⟨hct,rfl,ps,more,rfl,e2⟩)
      ·have z2:=un.frzs b ob _ z;obtain⟨e1,_⟩:=hok b _ z;obtain⟨e2,_⟩:=hok' b _ z2;rw[e] at e1;cases e1;exact .inl e2
    refine⟨rfl,⟨old,fun b o e=>?_⟩,os,bare⟩;rcases old b o e with z|⟨_,_,_,_,_,z⟩|⟨_,_,⟨o',_,_,z,_⟩,_⟩
    ·exact⟨_,z⟩
    ·exact⟨_,z⟩
    ·exact⟨_,z⟩
 cases hk:K.lookup a with
 |some o=>
  have e:=KX a o hk;rw[ha] at e;cases e;refine core (fun b=>if b=T then some (.tbl ps) else none) (fun b=>?_) (if_pos rfl) (.inr ⟨_,vs.toArray,_,hk,rfl,rfl,rfl,by rw[zZ1,lenV];exact hl,by simpa using rv⟩) (fun b u z=>?_) (fun b z=>?_) fun z=>absurd (if_neg haT) z
  ·by_cases h:b=T
   ·exact .inr (.inl h)
   ·exact .inl (if_neg h)
  ·by_cases h:b=T
   ·have z':=(if_pos h).symm.trans z;cases z';subst h;exact hT
   ·have z':=(if_neg h).symm.trans z;cases z'
  ·by_cases h:b=T
   ·exact .inr h
   ·exact absurd (if_neg h) z
 |none=>
  refine core (fun b=>if b=T then some (.tbl ps) else if b=a then some (.frz {cls:=.type "list",data:=.seq vs.toArray} (.lst (ns.map V.int))) else none) (fun b=>?_) (if_pos rfl) (.inl (.inr ⟨{cls:=.type "list",data:=.seq vs.toArray},(if_neg haT).trans (if_pos rfl)⟩)) (fun b u z=>?_) (fun b z=>?_) fun _=>hk
  ·by_cases h:b=T
   ·exact .inr (.inl h)
   ·by_cases hb:b=a
    ·exact .inr (.inr ⟨_,_,(if_neg h).trans (if_pos hb)⟩)
    ·exact .inl ((if_neg h).trans (if_neg hb))
  ·by_cases h:b=T
   ·have z':=(if_pos h).symm.trans z;cases z';subst h;exact hT
   ·have z:=(if_neg h).symm.trans z;by_cases hb:b=a
    ·have z':=(if_pos hb).symm.trans z;cases z';subst hb;exact⟨ha,by rw[zX5];exact hl,vs,_,rv,ha⟩
    ·have z':=(if_neg hb).symm.trans z;cases z'
  ·by_cases h:b=T
   ·exact .inr h
   ·by_cases hb:b=a
    ·exact .inl hb
    ·exact absurd ((if_neg h).trans (if_neg hb)) z
theorem zm3 {l:PySem.W.OpenLaw}{n k:Nat}{q:Program}{loose:List Str}{XP:(Str->Option Value)->Heap->Prop}{YP:World->Heap->Prop}{d:DefRec}{K:Params->PySem.W.Frag}{CX:World->CXT}{sp:World->Sp}{x:Str}{T c:Addr}{ps:Array Value}
  (hn:l.most=some n) (hn2:n<=sizeLine) (hdf:d.params.defaults=[]) (hr:zS k callerA)
  (hY:∀(w:World) (h:Heap),YP w h->(K w.params).In h) (hYT:∀(w:World) (h:Heap),YP w h->h.get? T=some (PySem.W.tabObj ps))
  (hNo:∀w:World,(K w.params).lookup T=none) (hTab:∀w:World,∃o vs,(K w.params).lookup c=some o/\o.cls=.type "code"/\o.data=.fields vs/\vs[11]?=some (.ref T))
  (F:∀(w:World) (mg:Str->Option Value) (fa:Addr) (h:Heap),(K w.params).In h->h.Ns mainGlobals mg->mg d.name=some (.ref fa)->
   ∃fd:FuncData,(∀(s:Shared) (u:Value),BindsTo s fd ⟨[u],[]⟩ [(x,u)])/\
    ∀base:Heap,(K w.params).In base->base.Ns mainGlobals mg->base.BuiltinsAt mg T->zF l.prog w (K w.params) mg base (CX w) k fa fd [x] (sp w))
  (hsp:∀(w:World) (H:Hp) (a:Addr) (ns:List Int),ns.length<=n->zg4 T H->H T=some (.tbl ps)->SqL (K w.params) H a (ns.map V.int)->sp w [.ref a] H (fun v _=>v=.bl true) fun _ _ _=>False)
  (hCX:∀(w:World) (H:Hp) (s:Shared) (e:Value) (s':Shared),CX w [] H s (fun _ _ _=>False) e s'->False):
  PySem.W.WalkO q loose XP YP l.row.toRowW d [] (fun f vs=>PySem.call f vs):=by
 refine Att.attach_call hn hdf fun w s₀ s₁ mg mb fa o pm cd doc a vs ns G Y ho hd hcd hmg hobj hints hlen hg=>?_;have KX:=hY w _ Y;obtain⟨oc,cv,t2,t3,t4,t5⟩:=hTab w;obtain⟨fd,hb,hF⟩:=F w mg fa _ KX G.T.g hmg;exact bp KX G.T.g G.T.b G.T.builtins G.T.nolimit hg hobj hints (z35 hlen hn2) hr (hYT w _ Y) (hNo w) ⟨c,oc,cv,KX _ _ t2,t3,t4,t5⟩ G.T.bmain hF hb (fun H hO hT hS=>hsp w H a ns hlen hO hT hS) fun H e s'=>hCX w H s₁ e s'
theorem TabAt.same {H H':Hp}(T:TabAt H)(h:∀a o,(∀xs,o≠.lst xs)->H a=some o->H' a=some o):TabAt H':=rS T h
section
variable {X:Cx}{pins:List (Addr×Obj)}{σ:St}{H:Hp}{s:Shared}{h':Heap}
theorem Inv.tblMore {t':Nat}{p:Addr}{ps more:Array Value}{H':Hp}(I:Inv X pins σ H s)(h:H p=some (.tbl ps))(k:∀b u,b≠p->s.heap.get? b=some u->h'.get? b=some u)(e:h'.get? p=some (PySem.W.tabObj (ps++more)))
  (hp:H' p=some (.tbl (ps++more))) (hH:∀b,b≠p->b<s.heap.objs.size->H' b=H b) (new:∀b o,s.heap.objs.size<=b->H' b=some o->zP X.prog X.w H' h' b o):
  Inv X pins σ H' {s with heap:=h',toks:=t'}:=by
 have ne:∀b,H b=none->b≠p:=fun b n z=>by rw[z,h] at n;cases n
 have nt:∀b o,H b=some o->(∀qs,o≠.tbl qs)->b≠p:=fun b o q n z=>by rw[z,h] at q;cases q;exact n _ rfl
 have lt:∀b o,H b=some o->b<s.heap.objs.size:=fun b o q=>by
  rcases z97 b s.heap.objs.size with z|z
  ·exact z
  ·rw[I.hok.fresh z] at q;cases q
 have st:∀b o,H b=some o->(∀qs,o≠.tbl qs)->H' b=some o:=fun b o q n=>by rw[hH b (nt b o q n) (lt b o q)];exact q
 refine I.un ⟨fun b o q n _ _=>k b o (ne b n) q,fun b o q n _ _=>⟨o.slots,k b o (ne b n) q⟩,fun b o q n _=>by rw[hH b (ne b n) (zY5 q)];exact n,fun b o q _=>?_,fun b xs q=>st b _ q (fun _ z=>by cases z),fun b o u q=>st b _ q (fun _ z=>by cases z),fun b qs q=>?_⟩ fun b u q=>?_
 ·by_cases z:b=p
  ·exact⟨_,by rw[z];exact e⟩
  ·exact⟨o,k b o z q⟩
 ·by_cases z:b=p
  ·subst z;rw[h] at q;cases q;exact⟨more,hp⟩
  ·exact⟨#[],by rw[hH b z (lt b _ q),q];simp⟩
 ·by_cases z:b=p
  ·subst z;rw[hp] at q;cases q;exact e
  ·rcases z97 b s.heap.objs.size with l|l
   ·rw[hH b z l] at q;refine (I.hok b u q).stay (fun c v hc r=>k c v (fun w=>?_) r) (fun c r=>st c _ r fun _ z=>by cases z) fun c xs r=>st c _ r fun _ z=>by cases z
    subst w;rcases hc with rfl|hc
    ·exact z rfl
    ·rw[h] at hc;cases hc
   ·exact new b u l q
noncomputable def iu (f c:Addr)(qual:Str)(params:Arguments)(body:Expr)(scope:Scope)(clos:List (Str×Addr)):HO:=
 .ext fun h=>∃(pm ctv:Value),h.get? f=some (PySem.W.kla_obj "<lambda>" qual params body scope clos pm c ctv)
theorem zx4 {P:Program}{w:World}{H:Hp}{h:Heap}{c:Addr}(r:h.CodeRec (.ref c) wt):zP P w H h c (sV c):=by
 refine⟨r,?_,fun h1 h2 p k=>?_⟩
 ·obtain⟨c',o,vs,t,e1,e2,_⟩:=r;cases e1;exact⟨o,e2⟩
 ·obtain⟨c',o,vs,t,e1,e2,e3⟩:=p;cases e1;exact⟨c,o,vs,t,rfl,k _ e2,e3⟩
theorem zb0 {P:Program}{w:World}{H:Hp}{h:Heap}{f c:Addr}{qual:Str}{params:Arguments}{body:Expr}{scope:Scope}{clos:List (Str×Addr)}{pm ctv:Value}(r:h.get? f=some (PySem.W.kla_obj "<lambda>" qual params body scope clos pm c ctv)):zP P w H h f (iu f c qual params body scope clos):=
 ⟨⟨pm,ctv,r⟩,⟨_,r⟩,fun h1 h2 ⟨pm',ctv',p⟩ k=>⟨pm',ctv',k _ p⟩⟩
theorem ig {pos:Pos}{a b:Int}{c cv:Value}(l:List Value):TriplesOk l->codeAmong pos (l++[rawInt a,rawInt b,c])=some cv->codeAmong pos l=some cv\/cv=c:=by
 induction l using TriplesOk.induct with
 |case1=>
  intro _ h;rw[z25,rawInt,rawInt,codeAmong.eq_1] at h;split at h
  ·cases h;exact .inr rfl
  ·rw[codeAmong.eq_2 _ _ (by intro _ _ _ _ _ _ z;cases z)] at h;cases h
 |case2 i t j u d rest ih=>
  intro ok h;rw[TriplesOk.eq_2] at ok;rw[z98,z98,z98,codeAmong.eq_1] at h;rw[codeAmong.eq_1];split at h
  ·rename_i z;rw[if_pos z];exact .inl h
  ·rename_i z;rw[if_neg z];exact ih ok h
 |case3 t h1 h2=>
  intro ok;rw[TriplesOk.eq_3 t h1 h2] at ok;exact ok.elim
theorem zm2 {params:Arguments}{body:Expr}{scope:Scope}{lpos:Pos}{clos:List (Str×Addr)}{c:Addr}(I:Inv X pins σ H s)(hcl:closureFor scope X.env=pure clos)(hgl:X.env.globals=mainGlobals)(hco:X.env.code=.ref c)(hhd:PySem.W.CodeHd X.base c yJ)
  (hbi:X.base.BuiltinsAt X.mg yJ) (hdf:defaultsOf params X.env=([],[])) (hq:X.env.qual++("<lambda>":Str)=wt) (hne:mainGlobals≠yJ) (T:TabAt H) {Q:Value->Shared->Prop}
  (h:∀(f c':Addr) (H':Hp) (s':Shared),Inv X pins σ H' s'->TabAt H'->(∀a o,a≠yJ->H a=some o->H' a=some o)->(∀a ps,H a=some (.tbl ps)->∃qs,H' a=some (.tbl qs))->H f=none->H' f=some (iu f c' wt params body scope clos)->H' c'=some (sV c')->Q (.ref f) s'):
  wpAny (model X.prog X.w) X.A (eval (.Lambda params body scope lpos) X.env) Q X.xe s:=by
 refine PySem.W.kla_eval hdf ?_;rw[hq];obtain⟨ps,t1,t2,t3⟩:=T.ex;have hT:s.heap.get? yJ=some (PySem.W.tabObj ps):=I.hok _ _ t1;have hb:∀b o,X.base.get? b=some o->s.heap.get? b=some o:=fun b o e=>(I.bs b o e).1;have hhd':PySem.W.CodeHd s.heap c yJ:=by
  obtain⟨o,vs,f1,f2,f3,f4,f5,f6,f7,e1,e2⟩:=hhd;exact⟨o,vs,f1,f2,f3,f4,f5,f6,f7,hb _ _ e1,e2⟩
 have hbi':s.heap.BuiltinsAt X.mg yJ:=by
  obtain⟨bm,o,e1,e2,e3,e4,e5,e6⟩:=hbi;exact⟨bm,o,e1,e2,e3,e4,hb _ _ e5,e6⟩
 have hns:s.heap.Ns mainGlobals X.mg:=by
  obtain⟨o,es,ep,e,d,r⟩:=I.ok.mod.glob;exact⟨o,es,ep,hb _ _ e,d,r⟩
 cases hc:codeAmong lpos ps.toList with
 |none=>
  refine PySem.W.kla_makeFunction hcl hgl hns hco hhd' hT t2 hc hne hbi' fun c' ctv h' tk ex l1 l2 cr ht=>?_;have hlt:c'<(h'.push (PySem.W.kla_obj "<lambda>" wt params body scope clos ((X.mg "__name__").getD Value.none) c' ctv)).objs.size:=by rw[size_push'];omega
  have n1:(c':Addr)≠h'.objs.size:=zZ7 l2;have szT:yJ<s.heap.objs.size:=zY5 hT;have n2:(c':Addr)≠yJ:=z95 (z01 szT l1);have lf:s.heap.objs.size<=h'.objs.size:=z63 (Nat.lt_of_le_of_lt l1 l2);have n3:(h'.objs.size:Addr)≠yJ:=z95 (z01 szT lf)
  let HN:Hp:=upd (upd (upd H h'.objs.size (iu h'.objs.size c' wt params body scope clos)) c' (sV c')) yJ (.tbl (ps++#[rawInt ↑lpos.line,rawInt ↑lpos.col,Value.ref c']))
  have eP:HN yJ=some (.tbl (ps++#[rawInt ↑lpos.line,rawInt ↑lpos.col,Value.ref c'])):=zj;have eC:HN c'=some (sV c'):=by show upd _ _ _ _=_;rw[zf n2,zj]
  have eF:HN h'.objs.size=some (iu h'.objs.size c' wt params body scope clos):=by show upd _ _ _ _=_;rw[zf n3,zf n1.symm,zj]
  have old:∀b,b≠yJ->b<s.heap.objs.size->HN b=H b:=fun b nb lb=>by
   show upd _ _ _ _=_;rw[zf nb,zf (zZ7 (z01 lb l1)),zf (zZ7 (z01 lb lf))]
  have I1:Inv X pins σ HN {s with heap:=h'.push (PySem.W.kla_obj "<lambda>" wt params body scope clos ((X.mg "__name__").getD Value.none) c' ctv),toks:=tk}:=by
   refine I.tblMore (more:=#[rawInt ↑lpos.line,rawInt ↑lpos.col,Value.ref c']) t1 (fun b u nb e=>zX8 _ (ex b u nb e)) (zX8 _ ht) eP old fun b o lb e=>?_;by_cases z1:b=h'.objs.size
   ·subst z1;rw[eF] at e;cases e;exact zb0 (zY7 _ rfl)
   ·by_cases z2:b=c'
    ·subst z2;rw[eC] at e;cases e;obtain⟨c2,o,vs,t,e1,e2,e3⟩:=cr;cases e1;exact zx4 ⟨_,o,vs,t,rfl,zX8 _ e2,e3⟩
    ·have nb:b≠yJ:=fun z=>absurd lb (Nat.not_le_of_lt (z▸szT));have e':HN b=H b:=by show upd _ _ _ _=_;rw[zf nb,zf z2,zf z1]
     rw[e',I.hok.fresh lb] at e;cases e
  have stay:∀a o,a≠yJ->H a=some o->HN a=some o:=fun a o no e=>by
   have la:a<s.heap.objs.size:=by
    rcases z97 a s.heap.objs.size with z|z
    ·exact z
    ·rw[I.hok.fresh z] at e;cases e
   rw[old a no la];exact e
  refine h _ c' HN _ I1 ⟨_,eP,?_,fun pos cv hcv=>?_⟩ stay (fun a qs e=>?_) (I.hok.fresh lf) eF eC
  ·rw[Array.toList_append];exact TriplesOk_snoc _ _ _ _ t2
  ·rw[Array.toList_append] at hcv;rcases ig _ t2 hcv with z|z
   ·obtain⟨c2,rfl,e2⟩:=t3 _ _ z;exact⟨c2,rfl,stay _ _ (fun z=>by rw[z,t1] at e2;cases e2) e2⟩
   ·exact⟨c',z,eC⟩
  ·by_cases za:a=yJ
   ·exact⟨_,by rw[za];exact eP⟩
   ·refine⟨qs,?_⟩;rw[old a za (by
     rcases z97 a s.heap.objs.size with z|z
     ·exact z
     ·rw[I.hok.fresh z] at e;cases e)]
    exact e
 |some cv=>
  obtain⟨c',rfl,t4⟩:=t3 _ _ hc;refine PySem.W.kla_makeFunctionHit hcl hgl hns hco hhd' hT t2 hc hbi' fun ctv h' tk k l=>?_;have hf:H h'.objs.size=none:=I.hok.fresh l;have k2:∀b u,s.heap.get? b=some u->(h'.push (PySem.W.kla_obj "<lambda>" wt params body scope clos ((X.mg "__name__").getD Value.none) c' ctv)).get? b=some u:=fun b u e=>zX8 _ (k b u e);have I1:=I.laid (t':=tk) (o:=iu h'.objs.size c' wt params body scope clos) k2 l (zb0 (zY7 _ rfl));have n1:∀a o,H a=some o->a≠h'.objs.size:=fun a o e z=>by rw[z,hf] at e;cases e
  refine h _ c' _ _ I1 (T.same fun a o _ e=>by rw[zf (n1 a o e)];exact e) (fun a o _ e=>by rw[zf (n1 a o e)];exact e) (fun a qs e=>⟨qs,by rw[zf (n1 a _ e)];exact e⟩) hf zj ?_;rw[zf (n1 _ _ t4)];exact t4
end
structure wU (x y:Str)(params:Arguments)(scope:Scope):Prop where
 kind:scope.kind=.function
 co:scope.isCoroutine=false
 gen:scope.isGenerator=false
 px:scope.names.lookup x=some .local
 py:scope.names.lookup y=some .free
 nocell:∀z∈scope.names,z.2≠NameKind.cell
 only:∀z∈scope.names,z.2=NameKind.free->z.1=y
 ne:x≠y
noncomputable def ki (P:Program)(w:World)(K:PySem.W.Frag)(mg:Str->Option Value)(base:Heap)(x y:Str)(scope:Scope)(f c cl:Addr)(A:Around)(outer:List Env)(s:Shared)(H:Hp):Cx where
 prog:=P
 w:=w
 K:=K
 mg:=mg
 base:=base
 A:=A.deeper (PySem.W.envX wt scope s.heap.objs.size f (.ref c) [(y,cl)])
 N:=[x,y]
 s₀:=s
 H₀:=H
 env:=PySem.W.envX wt scope s.heap.objs.size f (.ref c) [(y,cl)]
 outer:=outer
 stack:=PySem.W.envX wt scope s.heap.objs.size f (.ref c) [(y,cl)]::outer
 ex:=[]
 calm:=true
 fn:=fun _=>false
 pn:=[]
 xe:=fun _ _=>False
theorem dH {P:Program}{w:World}{K:PySem.W.Frag}{mg:Str->Option Value}{base:Heap}{x y:Str}{params:Arguments}{scope:Scope}{f c cl:Addr}{A:Around}{outer:List Env}{s:Shared}{H:Hp}{h':Heap}{tk:Nat}{v l:V}{u ul:Value}
  (S:wU x y params scope) (hd:A.handled=none) (e0:sq P w K mg base A outer s H) (rv:RelV v u) (rl:RelV l ul) (hcl:s.heap.IsCell cl (some ul)) (fcl:H cl=none)
  (ns:h'.Ns s.heap.objs.size fun z=>[(x,u)].reverse.lookup z) (k:∀b o,s.heap.get? b=some o->h'.get? b=some o):
  Inv (ki P w K mg base x y scope f c cl A outer s H) [] [some v,some l] H {s with heap:=h',toks:=tk}:=by
 have noA:∀b:Addr,b∉(ki P w K mg base x y scope f c cl A outer s H).ex:=fun b z=>absurd (show b∈([]:List Addr) from z) (by simp);have one:∀z d,(ki P w K mg base x y scope f c cl A outer s H).env.cells.lookup z=some d->z=y/\d=cl:=fun z d h=>by
  have h:List.lookup z [(y,cl)]=some d:=h;rw[z37] at h;split at h
  ·rename_i e;cases h;exact⟨eq_of_beq e,rfl⟩
  ·cases h
 have hit:(ki P w K mg base x y scope f c cl A outer s H).env.cells.lookup y=some cl:=by
  show List.lookup y [(y,cl)]=some cl;simp[z37]
 have cell':h'.IsCell cl (some ul):=by
  obtain⟨o,e1,e2⟩:=hcl;exact⟨o,k _ _ e1,e2⟩
 refine⟨⟨e0.mod,S.kind,rfl,rfl,zY2 _,fun a b d h1 h2=>(one a d h1).1.trans (one b d h2).1.symm,fun z hz=>?_,fun z d hf _=>?_,fun _=>hd,Around.frames_deeper e0.frames,.inr ⟨rfl,rfl⟩,fun b z=>absurd z (noA b),e0.bs,e0.bsz,fun b _ _=>noA b,fun b z=>absurd z (noA b),e0.funs,e0.frf⟩,
  rfl,e0.bare,Un.kept k,⟨_,ns,fun i z v' h1 h2 h3=>?_⟩,fun z d h=>?_,e0.hok.fresh (zY2 _),fun z d h=>?_,fun p hp=>absurd (show p∈([]:List (Addr×Obj)) from hp) (by simp),e0.hok.kept k,rfl⟩
 ·have hz:scope.names.lookup z=some .cell\/scope.names.lookup z=some .free:=hz;rcases hz with hz|hz
  ·exact absurd rfl (S.nocell _ (z41 hz))
  ·have:z=y:=S.only _ (z41 hz) rfl;subst this;exact⟨cl,hit⟩
 ·exact absurd (show false=true from hf) zZ5
 ·have h1:([x,y]:List Str)[i]?=some z:=h1
  match i,h1,h2 with
  |0,h1,h2=>
   cases h1;cases h2;exact⟨u,rv,.inl ⟨S.px,by simp[z37]⟩⟩
  |1,h1,h2=>
   cases h1;cases h2;exact⟨ul,rl,.inr ⟨.inr S.py,cl,hit,cell'⟩⟩
  |i+2,h1,h2=>simp at h1
 ·obtain⟨rfl,rfl⟩:=one z d h;exact⟨_,cell'⟩
 ·obtain⟨rfl,rfl⟩:=one z d h;exact fcl
theorem zn8 {P:Program}{w:World}{K:PySem.W.Frag}{mg:Str->Option Value}{base:Heap}{x y:Str}{params:Arguments}{body:Expr}{scope:Scope}{f c cl:Addr}{A:Around}{outer:List Env}{s:Shared}{H:Hp}{v l:V}{u ul:Value}{k:Nat}{Q:VK}{t:TE}
  (S:wU x y params scope) (hr:zS k A) (e0:sq P w K mg base A outer s H) (hf:H f=some (iu f c wt params body scope [(y,cl)])) (hc:H c=some (sV c)) (hcl:s.heap.IsCell cl (some ul)) (fcl:H cl=none) (rv:RelV v u) (rl:RelV l ul)
  (hb:∀pm ctv,bindArgs (PySem.W.kla_fn "<lambda>" wt params body scope [(y,cl)] pm (.ref c) ctv) ⟨[u],[]⟩=pure [(x,u)])
  (ht:PE (ki P w K mg base x y scope f c cl A outer s H) body t) (hq:t [some v,some l] H Q):
  codeAny (model P w) A (.call (.ref f) ⟨[u],[]⟩) (CR CX0 outer P w H s Q E0) s:=by
 obtain⟨⟨pm,ctv,ho⟩,_,_⟩:=e0.hok _ _ hf;have cr:s.heap.CodeRec (.ref c) wt:=(e0.hok _ _ hc).1;have lim:s.heap.NoLimit:=e0.mod.nolimit.keeps fun b o e=>(e0.bs b o e).1;refine PySem.W.kla_callFunE hr.depth ho rfl S.co S.gen rfl cr ?_;rw[hb];refine zY8 ?_;refine wpAny_newFunctionEnv S.nocell (fun z hz=>?_) (fun h' ns sb=>?_) S.kind
 ·rw[zZ0.mp hz];exact S.px
 ·have kk:∀b o,s.heap.get? b=some o->h'.get? b=some o:=fun b o e=>sb.extBut b o (zZ7 (zY5 e)) (zX8 _ e);refine⟨lim.keeps kk,PySem.W.kla_codeExpr ?_⟩;have I:=dH (tk:=s.toks+[(x,u)].length) (f:=f) (c:=c) S hr.hd e0 rv rl hcl fcl ns kk;refine z34 (ht [] _ _ H _ I hq) (fun u' s' hs=>?_) fun e s' hs=>hs.elim;obtain⟨v',H',J,r',q⟩:=hs;exact⟨v',H',J.os,J.bare,J.base,J.hok,r',q⟩
open PySem.W SortA
section
variable {X:Cx}{pins:List (Addr×Obj)}{σ:St}{H:Hp}{s:Shared}
def ze7 (X:Cx)(H1 H2:Hp)(s1 s2:Shared):Prop:=∀b o,s1.heap.get? b=some o->H1 b=none->b∉frs X.stack->s2.heap.get? b=some o/\H2 b=none
structure zd4 (X:Cx)(pins:List (Addr×Obj))(σ:St)(H:Hp)(D kS:Addr)(e1:Nat)(ps:List (Int×Int))(i:Nat)(s':Shared):Prop where
 ex:∃(H':Hp) (ks:List Value) (xs:List V) (e:Nat),Inv X pins σ H' s'/\(∀a o,H a=some o->H' a=some o)/\s'.heap.get? D=some (seqObj "list" #[] e1)/\s'.heap.get? kS=some (seqObj "list" ks.toArray e)/\H' D=none/\H' kS=none/\Vals xs ks/\PrV H' xs (ps.take i)
theorem dF {A:Around}{E:Value->Shared->Prop}{vs:List Value}{ps:List (Int×Int)}{f D kS:Addr}{e1:Nat}{Q:PUnit->Shared->Prop}(hlen:vs.length=ps.length)(h64:vs.length<64)(nD:D∉frs X.stack)(nK:kS∉frs X.stack)(hne:D≠kS)
  (fK:∀H',H' kS=none->xH X pins H' kS)
  (hcall:∀i v,vs[i]?=some v->∀H1 s1,Inv X pins σ H1 s1->(∀a o,H a=some o->H1 a=some o)->
   wpAny (model X.prog X.w) A (call (.ref f) [v]) (fun u s2=>∃t H2,u=.ref t/\Inv X pins σ H2 s2/\(∀a o,H1 a=some o->H2 a=some o)/\H2 t=some (.tup [.int (at2 ps i).1,.int (at2 ps i).2])/\ze7 X H1 H2 s1 s2) (fun _ _=>False) s1)
  (h0:zd4 X pins σ H D kS e1 ps 0 s) (hQ:∀s',zd4 X pins σ H D kS e1 ps vs.length s'->Q PUnit.unit s'):
  wpAny (model X.prog X.w) A (forIn vs PUnit.unit fun x __s=>do
   let __do_lift <-(call (.ref f) [x]).attempt
   match __do_lift with
    |Except.ok k=>do
     Builtin.List.listUpdate (.ref kS) fun x=>x.push k
     pure (ForInStep.yield PUnit.unit)
    |Except.error e=>do
     rule "list.sort.key-raised"
     let made <-Builtin.List.listItems (.ref kS)
     Builtin.List.listUpdate (.ref kS) fun x=>#[]
     letGo made.toList.reverse [e]
     Builtin.List.listUpdate (Value.ref D) fun x=>vs.toArray
     throw e
     pure (ForInStep.yield PUnit.unit)) Q E s:=by
 refine ksk_fold (zd4 X pins σ H D kS e1 ps) vs 0 s h0 (fun j x s' hj hI=>?_) (fun s' hI=>hQ s' (by simpa using hI));obtain⟨H1,ks,xs,e,I1,st,eD,eK,fD,fK',rv,pr⟩:=hI.ex;rw[Nat.zero_add] at pr ⊢;have hjl:j<ps.length:=by rw[<-hlen];exact (zY0.mp hj).1
 have lks:ks.length=j:=by rw[<-rv.length,pr.len,z04];omega
 refine zX6 (wpAny_attempt (z34 (hcall j x hj H1 s' I1 st) (fun u s2 hu=>?_) fun _ _ z=>z.elim));obtain⟨t,H2,rfl,I2,st2,et,kp⟩:=hu;obtain⟨eD2,fD2⟩:=kp D _ eD fD nD;obtain⟨eK2,fK2⟩:=kp kS _ eK fK' nK;refine zX6 (listUpdate_at eK2 rfl (zY8 ⟨rfl,?_⟩) (by rw[zZ1,lks,z46];omega) (by rw[Array.size_push,zZ1,lks,z46];omega));obtain⟨e',hk⟩:∃e',(s2.heap.update kS (Obj.mapSeq fun x=>x.push (Value.ref t))).get? kS=some (seqObj "list" (ks++[Value.ref t]).toArray e'):=by
  have:=z76 eK2 fun x=>x.push (Value.ref t);rw[List.push_toArray] at this;exact⟨_,this⟩
 have kk:∀b o,b∉[kS]->s2.heap.get? b=some o->(s2.heap.update kS (Obj.mapSeq fun x=>x.push (Value.ref t))).get? b=some o:=fun b o nb q=>(z02 _ _ (z22 (by simpa using nb))).trans q;refine⟨H2,ks++[Value.ref t],xs++[V.ref t],e',I2.turnL (t':=s2.toks) kk (fun b hb=>by rw[zZ0.mp hb];exact fK H2 fK2),fun a o q=>st2 a o (st a o q),kk D _ (by simpa using hne) eD2,hk,fD2,fK2,rv.append (.cons rfl .nil),?_⟩;rw[z44,zX7 hjl];refine PrV.app (pr.keep fun a p q z=>st2 _ _ z) ?_;have ea:at2 ps j=ps[j]:=by unfold at2;rw[zX9,zX7 hjl];rfl
 rw[ea] at et;exact .cons et .nil
theorem iR {A:Around}{E:Value->Shared->Prop}{vs:List Value}{ps:List (Int×Int)}{f D:Addr}{n:Nat}{Pf:PySem.Fin->Shared->Prop}(I:Inv X pins σ H s)(ho:s.heap.get? D=some (seqObj "list" vs.toArray n))(hlen:vs.length=ps.length)(h64:vs.length<64)(fD:H D=none)
  (nD:D∉frs X.stack) (fpD:∀H',H' D=none->xH X pins H' D)
  (hcall:∀i v,vs[i]?=some v->∀H1 s1,Inv X pins σ H1 s1->(∀a o,H a=some o->H1 a=some o)->
   wpAny (model X.prog X.w) A (call (.ref f) [v]) (fun u s2=>∃t H2,u=.ref t/\Inv X pins σ H2 s2/\(∀a o,H1 a=some o->H2 a=some o)/\H2 t=some (.tup [.int (at2 ps i).1,.int (at2 ps i).2])/\ze7 X H1 H2 s1 s2) (fun _ _=>False) s1)
  (h:∀out H' s' c,Srt vs ps out->Inv X pins σ H' s'->(∀a o,H a=some o->H' a=some o)->s'.heap.get? D=some (seqObj "list" out.toArray c)->H' D=none->Pf (.done (.ret .none)) s'):
  wpAny (model X.prog X.w) A (ksk_tree D (.ref f) false) Pf E s:=by
 have hD:D<s.heap.objs.size:=zY5 ho;have s1:=yb8 s.heap D (Obj.mapSeq fun _=>(#[]:Array Value));obtain⟨e1,ho1⟩:∃e1,(s.heap.update D (Obj.mapSeq fun _=>(#[]:Array Value))).get? D=some (seqObj "list" #[] e1):=⟨_,z76 ho fun _=>#[]⟩;have hsz1:(s.heap.update D (Obj.mapSeq fun _=>(#[]:Array Value))).objs.size=s.heap.objs.size:=Heap.size_update _ _ _;unfold ksk_tree;refine zX6 (listItems_at ho rfl ?_);refine zX6 (listUpdate_at ho rfl ?_ (by rw[zZ1,z46];omega) (zZ4 _));generalize hh1:s.heap.update D (Obj.mapSeq fun _=>(#[]:Array Value))=h1 at s1 ho1 hsz1;refine zX6 (seqEpoch_at ho1 rfl ?_);refine zX6 (wpAny_newTuple ?_ (by show vs.length<=_;rw[z46];omega));refine zX6 (wpAny_newList ?_ (zZ4 _));refine z48 ?_;show wpAny (model X.prog X.w) A (ksk_rest D (.ref f) false vs.toArray e1 (.ref (h1.push (seqObj "tuple" vs.toArray 0)).objs.size)) Pf E {s with heap:=(h1.push (seqObj "tuple" vs.toArray 0)).push (seqObj "list" #[] 0)};have kS0:(h1.push (seqObj "tuple" vs.toArray 0)).objs.size=s.heap.objs.size+1:=by rw[size_push',hsz1]
 have eK0:((h1.push (seqObj "tuple" vs.toArray 0)).push (seqObj "list" #[] 0)).get? (h1.push (seqObj "tuple" vs.toArray 0)).objs.size=some (seqObj "list" #[] 0):=zY7 _ rfl;have eD0:((h1.push (seqObj "tuple" vs.toArray 0)).push (seqObj "list" #[] 0)).get? D=some (seqObj "list" #[] e1):=zX8 _ (zX8 _ ho1);have k1:∀b o,b∉[D]->s.heap.get? b=some o->((h1.push (seqObj "tuple" vs.toArray 0)).push (seqObj "list" #[] 0)).get? b=some o:=fun b o hb e=>
  zX8 _ (zX8 _ ((s1.2 b (by simpa using hb)).trans e))
 have I0:Inv X pins σ H {s with heap:=(h1.push (seqObj "tuple" vs.toArray 0)).push (seqObj "list" #[] 0),toks:=s.toks}:=I.turnL k1 fun b hb=>by rw[zZ0.mp hb];exact fpD H fD
 generalize (h1.push (seqObj "tuple" vs.toArray 0)).push (seqObj "list" #[] 0)=h2 at eK0 eD0 k1 I0;generalize hkS:(h1.push (seqObj "tuple" vs.toArray 0)).objs.size=kS at kS0 eK0;have lK:s.heap.objs.size<=kS:=by rw[kS0];exact z83 _
 have fK:∀H',H' kS=none->xH X pins H' kS:=fun H' hn=>I.fpOk lK hn;have nK:(kS:Addr)∉frs X.stack:=fun z=>by
  rcases zY1.mp (I.stkSub _ z) with q|q
  ·exact (I.fpOk (H':=fun _=>none) lK rfl).2.1 q
  ·exact (I.fpOk (H':=fun _=>none) lK rfl).2.2.1 q
 have hne:D≠kS:=zZ7 (z01 hD lK);have hK0:H kS=none:=I.hok.fresh lK;unfold ksk_rest;refine zX6 (wpAny_rule ?_);rw[yg6];refine zX6 (dF (s:={s with heap:=h2}) hlen h64 nD nK hne fK hcall ⟨H,[],[],0,I0,fun _ _ q=>q,eD0,eK0,fD,hK0,.nil,.nil⟩ fun s' hI=>?_);obtain⟨H1,ks,xs,e,I1,st,eD,eK,fD1,fK1,rv,pr⟩:=hI.ex;rw[hlen,z56] at pr;have lks:ks.length=vs.length:=by rw[<-rv.length,pr.len,hlen]
 refine zX6 (listItems_at eK rfl ?_);unfold ksk_end;dsimp only;rw[if_neg (by decide)];have P:Prs s'.heap ks ps:=pr.prs I1 rv;have tail:∀(st':SortSt) (out:List Value),out.length<=64->Srt vs ps out->failedOf st'=none->(arrOf st').map (·.2)=out.toArray->wpAny (model X.prog X.w) A (ksk_tail D false e1 (.ref kS) st') Pf E s':=by
  intro st' out lo so hf hout;unfold ksk_tail;dsimp only;rw[hout,hf];refine zX6 (listUpdate_at eK rfl ?_ (by rw[zZ1,lks,z46];omega) (zZ4 _));have s3:=yb8 s'.heap kS (Obj.mapSeq fun _=>(#[]:Array Value));have eD3:(s'.heap.update kS (Obj.mapSeq fun _=>(#[]:Array Value))).get? D=some (seqObj "list" #[] e1):=(s3.2 D hne).trans eD;have I3:Inv X pins σ H1 {s' with heap:=s'.heap.update kS (Obj.mapSeq fun _=>(#[]:Array Value)),toks:=s'.toks}:=I1.turnL (ch:=[kS]) (fun b o hb q=>(s3.2 b (by simpa using hb)).trans q) fun b hb=>by rw[zZ0.mp hb];exact fK H1 fK1
  generalize s'.heap.update kS (Obj.mapSeq fun _=>(#[]:Array Value))=h3 at eD3 I3;refine zX6 (z84 ?_);refine zX6 (seqEpoch_at eD3 rfl ?_);rw[if_neg (by decide)];refine zX6 (listUpdate_at eD3 rfl ?_ (zZ4 _) (by rw[zZ1,z46];omega));have s4:=yb8 h3 D (Obj.mapSeq fun _=>out.toArray);obtain⟨c4,eD4⟩:∃c4,(h3.update D (Obj.mapSeq fun _=>out.toArray)).get? D=some (seqObj "list" out.toArray c4):=⟨_,z76 eD3 fun _=>out.toArray⟩;simp only[bne_self_eq_false,z30,z72];have I4:=I3.turnL (ch:=[D]) (t':=s'.toks) (h':=h3.update D (Obj.mapSeq fun _=>out.toArray)) (fun b o hb q=>(s4.2 b (by simpa using hb)).trans q) fun b hb=>by rw[zZ0.mp hb];exact fpD H1 fD1
  exact zY8 (h out H1 _ c4 so I4 st eD4 fD1)
 by_cases hn2:vs.toArray.size<2
 ·rw[if_pos hn2,if_pos hn2];have hv:vs.length<2:=by simpa using hn2
  refine zX6 (zY8 ?_);refine zX6 (zY8 ?_);dsimp only;have so:Srt vs ps vs:=by
   match vs,ps,hv,hlen with
   |[],[],_,_=>exact⟨[],rfl,rfl,fun _ h=>by simp at h,.refl _,.nil⟩
   |[v],[p],_,_=>exact⟨[0],rfl,rfl,fun i h=>by simp at h;subst h;simp,.refl _,by simp⟩
   |_::_::_,_,hv,_=>simp only[zY9] at hv;omega
  refine tail _ vs (by omega) so rfl ?_;rw[if_neg (by decide)];show (ks.toArray.zip vs.toArray).map (·.2)=vs.toArray;apply Array.toList_inj.mp;rw[Array.toList_map,Array.toList_zip];exact List.map_snd_zip (ye9 lks.symm)
 ·rw[if_neg hn2,if_neg hn2,if_neg (by decide)];have h2:2<=vs.length:=by simp at hn2;omega
  have ask:=jx (prog:=X.prog) (w:=X.w) (A:=A) (s:=s') (by rw[lks];exact h2) P
   (R:=fun p s''=>Srt vs ps (p.toList.map fun i=>vs.getD i Value.none)/\s''=s') (fun ix a b c d=>⟨⟨ix,by simp,a,b,c,d⟩,rfl⟩)
  refine zX6 (z34 ask (fun κ s0 hk=>?_) fun _ _ x=>x.elim);rw[lks] at hk;refine zX6 (z34 (kat_run (Q:=fun st' s''=>∃p:Array Nat,p.size=vs.length/\arrOf st'=p.map (kas_item (ks.toArray.zip vs.toArray))/\failedOf st'=none/\Srt vs ps (p.toList.map fun i=>vs.getD i Value.none)/\s''=s')
   lks h2 h64 (fun p' st' s'' a1 a2 a3 a4=>⟨p',a1,a2,a3,a4⟩) hk) ?_ fun _ _ e=>e)
  rintro⟨⟨⟩,st'⟩ s'' ⟨p,hp,har,hf,so,rfl⟩;dsimp only;exact tail st' _ (by rw[so.len,<-hlen];omega) so hf (kat_snds lks har)
end
section
variable {X:Cx}{pins:List (Addr×Obj)}{σ:St}{H:Hp}{s:Shared}
theorem Inv.adopt {D:Addr}{o:HO}(I:Inv X pins σ H s)(fp:xH X pins H D)(new:zP X.prog X.w (upd H D o) s.heap D o):Inv X pins σ (upd H D o) s:=by
 have nD:=fp.1;have st:∀b u,H b=some u->upd H D o b=some u:=fun b u e=>by rw[zf (zp e nD)];exact e
 have:=I.step (g':=s.gens) (t':=s.toks) (d':=s.drawn) (h':=s.heap) (H':=upd H D o) (ch:=[D]) (fun b hb=>by rw[zZ0.mp hb];exact⟨fp.2.2.2.1,fp.2.1,fp.2.2.2.2.1,fp.2.2.2.2.2⟩) (fun b u _ _ _ e _=>e) (fun b u _ _ _ e _=>⟨u.slots,e⟩) (fun b u hb e n=>by rw[zf (by simpa using hb)];exact n)
  (fun b u _ e=>⟨u,e⟩) (fun b xs e=>st b _ e) (fun b u xs e=>st b _ e) (fun b ps e=>⟨#[],by rw[st b _ e];simp⟩) (fun m hm=>hm) (fun b u e=>?_) I.bare
 ·exact this
 ·by_cases hb:b=D
  ·subst hb;rw[zj] at e;cases e;exact new
  ·rw[zf hb] at e;exact (I.hok b u e).stay (fun c v _ q=>q) (fun c q=>st c _ q) fun c xs q=>st c _ q
theorem mC {A:Around}{E:Value->Shared->Prop}{l f:Addr}{vs:List Value}{ps:List (Int×Int)}{Q:Value->Shared->Prop}(I:Inv X pins σ H s)(hl:s.heap.IsList l vs.toArray)(hlen:vs.length=ps.length)(h64:vs.length<64)
  (hcall:∀i v,vs[i]?=some v->∀H1 s1,Inv X pins σ H1 s1->(∀a o,H a=some o->H1 a=some o)->
   wpAny (model X.prog X.w) A.in1.in1 (call (.ref f) [v]) (fun u s2=>∃t H2,u=.ref t/\Inv X pins σ H2 s2/\(∀a o,H1 a=some o->H2 a=some o)/\H2 t=some (.tup [.int (at2 ps i).1,.int (at2 ps i).2])/\ze7 X H1 H2 s1 s2) (fun _ _=>False) s1)
  (h:∀D out H' s' c,s.heap.objs.size<=D->Srt vs ps out->Inv X pins σ H' s'->(∀a o,H a=some o->H' a=some o)->s'.heap.get? D=some (seqObj "list" out.toArray c)->H' D=none->xH X pins H' D->Q (.ref D) s'):
  wpAny (model X.prog X.w) A (call (.builtin "sorted") [.ref l] [("key",.ref f)]) Q E s:=by
 refine call_function_entry_kw kind_sorted plain_sorted entry_sorted (ksk_s1 _ _) ?_;unfold Builtin.«sorted»;refine zX6 (m:=checkCount "sorted" 1 1 _) (zY8 ?_);refine zX6 (collect_list hl ?_ (by rw[z46];omega));refine zX6 (wpAny_newList ?_ (by rw[z46];omega));have hsz:((s.heap.push (seqObj "list" #[] 0)).update s.heap.objs.size (Obj.mapSeq (·++vs.toArray))).objs.size=s.heap.objs.size+1:=by rw[Heap.size_update,size_push']
 have hoL:(((s.heap.push (seqObj "list" #[] 0)).update s.heap.objs.size (Obj.mapSeq (·++vs.toArray))).push (seqObj "list" vs.toArray 0)).get? (s.heap.objs.size+1)=some (seqObj "list" vs.toArray 0):=by rw[<-hsz];exact zY7 _ rfl
 have keep:∀b o,s.heap.get? b=some o->(((s.heap.push (seqObj "list" #[] 0)).update s.heap.objs.size (Obj.mapSeq (·++vs.toArray))).push (seqObj "list" vs.toArray 0)).get? b=some o:=fun b o q=>by
  have hlt:b<s.heap.objs.size:=zY5 q;rw[Heap.get?_push_ne _ _ _ (by rw[hsz];exact zZ7 (yd7 hlt)),Heap.get?_update_ne _ _ _ _ (zZ7 hlt),Heap.get?_push_ne _ _ _ (zZ7 hlt)];exact q
 show wpAny _ _ _ _ _ {s with heap:=((s.heap.push (seqObj "list" #[] 0)).update s.heap.objs.size (Obj.mapSeq (·++vs.toArray))).push (seqObj "list" vs.toArray 0)};rw[hsz];have I1:Inv X pins σ H {s with heap:=((s.heap.push (seqObj "list" #[] 0)).update s.heap.objs.size (Obj.mapSeq (·++vs.toArray))).push (seqObj "list" vs.toArray 0),toks:=s.toks}:=I.kept keep;have lD:s.heap.objs.size<=s.heap.objs.size+1:=z83 _;refine zX6 (z48 (wpAny_call_entry_kw slot_list_sort ⟨_,hoL,rfl⟩ entry_list_sort ?body (ksk_l1 _ _)))
 case body=>
  rw[ksk_t1];refine iR (s:={s with heap:=((s.heap.push (seqObj "list" #[] 0)).update s.heap.objs.size (Obj.mapSeq (·++vs.toArray))).push (seqObj "list" vs.toArray 0)}) I1 hoL hlen h64 (I.hok.fresh lD) (fun z=>?_) (fun H' hn=>I.fpOk lD hn) hcall fun out H' s' c so I' st e fD=>?_
  ·rcases zY1.mp (I.stkSub _ z) with q|q
   ·exact (I.fpOk (H':=fun _=>none) lD rfl).2.1 q
   ·exact (I.fpOk (H':=fun _=>none) lD rfl).2.2.1 q
  ·exact⟨_,rfl,zY8 ⟨_,rfl,h _ out H' s' c lD so I' st e fD (I.fpOk lD fD)⟩⟩
end
section
variable {X:Cx}{a:Expr}{p pos kpos lpos p1 p2 p3 p4 p5 p6:Pos}{n1:Nat}{x y:Str}{params:Arguments}{scope:Scope}
noncomputable abbrev pairE (x y:Str)(n1:Nat)(p1 p2 p3 p4 p5 p6:Pos):Expr:=.Tuple [.Subscript (.Name y p1) (.Name x p2) p3,.UnaryOp .USub (.Name x p4) p5] n1 p6
noncomputable def keyOf (zs:List Int)(n:Int):Int×Int:=(zs.getD n.toNat 0,-n)
theorem zv8 {P:Program}{w:World}{K:PySem.W.Frag}{mg:Str->Option Value}{base:Heap}{f c cl l:Addr}{A:Around}{outer:List Env}{s:Shared}{H:Hp}{u ul:Value}{k:Nat}{n:Int}{zs:List Int}
  (S:wU x y params scope) (hr:zS k A) (e0:sq P w K mg base A outer s H) (hf:H f=some (iu f c wt params (pairE x y n1 p1 p2 p3 p4 p5 p6) scope [(y,cl)])) (hc:H c=some (sV c)) (hcl:s.heap.IsCell cl (some ul)) (fcl:H cl=none) (rv:RelV (.int n) u) (rl:RelV (.ref l) ul)
  (hb:∀pm ctv,bindArgs (PySem.W.kla_fn "<lambda>" wt params (pairE x y n1 p1 p2 p3 p4 p5 p6) scope [(y,cl)] pm (.ref c) ctv) ⟨[u],[]⟩=pure [(x,u)])
  (hdx:(x == ("__debug__":Str))=false) (hdy:(y == ("__debug__":Str))=false) (hcx:(x == ("__classdict__":Str))=false) (hcy:(y == ("__classdict__":Str))=false)
  (hl:SqL K H l (zs.map V.int)) (h0:0<=n) (h1:n<zs.length):
  codeAny (model P w) A (.call (.ref f) ⟨[u],[]⟩) (CR CX0 outer P w H s (fun v H'=>∃t,v=.ref t/\H t=none/\H'=upd H t (.tup [.int (keyOf zs n).1,.int (keyOf zs n).2])) E0) s:=by
 obtain⟨j,rfl⟩:=z79 h0;have hj:j<zs.length:=by omega
 refine zn8 S hr e0 hf hc hcl fcl rv rl hb (t:=_) (qP (zd (zW zZ (xK (i:=1) rfl (Or.inr (Or.inr S.py)) hdy hcy) (xK (i:=0) rfl (Or.inl S.px) hdx hcx) (fun _ _=>rfl)) (zd (zz6 ah (xK (i:=0) rfl (Or.inl S.px) hdx hcx)) zu))) ?_;refine⟨_,rfl,_,rfl,l,_,_,.int (zs.getD j 0),rfl,rfl,hl,yF ?_,_,rfl,_,rfl,(by show 2<=sizeLine;decide),fun t ht=>⟨t,rfl,ht,?_⟩⟩
 ·rw[zY3,zX7 hj,zX9,zX7 hj];rfl
 ·simp[keyOf]
def tO (ns zs ms:List Int):Prop:=ms.Perm ns/\ms.Pairwise fun m k=>lx (keyOf zs k) (keyOf zs m)=false
theorem ze8 {ns zs:List Int}{vs out:List Value}(r:Vals (ns.map V.int) vs)(h:Srt vs (ns.map (keyOf zs)) out):∃ms,tO ns zs ms/\Vals (ms.map V.int) out:=by
 obtain⟨ix,rfl,hl,hb,hp,hw⟩:=h;have at_:∀i∈ix,at2 (ns.map (keyOf zs)) i=keyOf zs (ns.getD i 0):=fun i hi=>by
  have:=hb i hi;rw[zX5] at this;unfold at2;rw[zX9,zY3,zX7 this,zX9,zX7 this];rfl
 have em:ix.map (at2 (ns.map (keyOf zs)))=(ix.map fun i=>ns.getD i 0).map (keyOf zs):=by
  rw[z20];exact yg1 at_
 rw[em] at hp hw;have inv:∀l:List Int,(l.map (keyOf zs)).map (fun q=>-q.2)=l:=fun l=>by
  rw[z20];have:((fun q:Int×Int=>-q.2)∘keyOf zs)=id:=by funext n;simp[keyOf]
  rw[this,List.map_id]
 refine⟨ix.map fun i=>ns.getD i 0,⟨?_,List.pairwise_map.mp hw⟩,?_⟩
 ·have:=hp.map (fun q=>-q.2)
  rwa [inv,inv] at this
 ·clear em hp hw hl
  induction ix with
  |nil=>exact .nil
  |cons i ix ih=>
   refine .cons ?_ (ih (fun k hk=>hb k (zY4 _ hk)) fun k hk=>at_ k (zY4 _ hk));have hi:=hb i zY6;rw[zX5] at hi;refine jh r i _ ?_;show _=some (V.int (ns.getD i 0));rw[zY3,zX7 hi,zX9,zX7 hi];rfl
theorem wZ {K:PySem.W.Frag}{H H':Hp}{a:Addr}{xs:List V}(h:SqL K H a xs)(k:∀a o,(∀ps,o≠.tbl ps)->H a=some o->H' a=some o):SqL K H' a xs:=by
 rcases h with (h|⟨o,h⟩)|h
 ·exact .inl (.inl (k _ _ (fun _ z=>by cases z) h))
 ·exact .inl (.inr ⟨o,k _ _ (fun _ z=>by cases z) h⟩)
 ·exact .inr h
theorem ib {ta:TE}{j k:Nat}{c:Addr}(S:wU x y params scope)(hr:zS (k+2) X.A)(hg:Gl X "sorted")(hm:X.mg "sorted"=none)(hN:X.N[j]?=some y)(hy:X.env.scope.names.lookup y=some .cell)
  (hcl:∀cl,X.env.cells.lookup y=some cl->closureFor scope X.env=pure [(y,cl)]) (hgl:X.env.globals=mainGlobals) (hco:X.env.code=.ref c) (hhd:PySem.W.CodeHd X.base c yJ) (hbi:X.base.BuiltinsAt X.mg yJ) (hdf:defaultsOf params X.env=([],[])) (hq:X.env.qual++("<lambda>":Str)=wt) (hne:mainGlobals≠yJ)
  (hb:∀u cl c' pm ctv,bindArgs (PySem.W.kla_fn "<lambda>" wt params (pairE x y n1 p1 p2 p3 p4 p5 p6) scope [(y,cl)] pm (.ref c') ctv) ⟨[u],[]⟩=pure [(x,u)])
  (hdx:(x == ("__debug__":Str))=false) (hdy:(y == ("__debug__":Str))=false) (hcx:(x == ("__classdict__":Str))=false) (hcy:(y == ("__classdict__":Str))=false) (ha:PE X a ta)
  (he:starEach [a] X.env=(false,eval a X.env)::starEach [] X.env:=by rfl) (he2:backTo pos (starEach [a] X.env)=(false,eval a X.env)::backTo pos (starEach [] X.env):=by rfl) (hpl:((backTo pos (starEach [a] X.env)).any fun x=>x.1)=false:=by rfl):
  PE X (.Call (.Name "sorted" p) [a] [⟨some "key",.Lambda params (pairE x y n1 p1 p2 p3 p4 p5 p6) scope lpos,kpos⟩] pos)
   (fun σ H Q=>ta σ H fun v H1=>∃l ns lp zs,v=.ref l/\SqL X.K H1 l (ns.map V.int)/\σ[j]?=some (some (.ref lp))/\SqL X.K H1 lp (zs.map V.int)/\ns.length<64/\(∀n∈ns,0<=n/\n<zs.length)/\TabAt H1/\
    ∀D H' ms,H1 D=none->H' D=some (.lst (ms.map V.int))->tO ns zs ms->TabAt H'->(∀a o,a≠yJ->H1 a=some o->H' a=some o)->Q (.ref D) H'):=by
 intro pins s σ H Q I h;refine ya1 (xA I hg hm boot_sorted ?_)
 let Pd:V->Hp->Prop:=fun v H1=>∃l ns lp zs,v=.ref l/\SqL X.K H1 l (ns.map V.int)/\σ[j]?=some (some (.ref lp))/\SqL X.K H1 lp (zs.map V.int)/\ns.length<64/\(∀n∈ns,0<=n/\n<zs.length)/\TabAt H1/\
    ∀D H' ms,H1 D=none->H' D=some (.lst (ms.map V.int))->tO ns zs ms->TabAt H'->(∀a o,a≠yJ->H1 a=some o->H' a=some o)->Q (.ref D) H'
 refine callWith_kw (thn (zd ha zu he pos pins s σ H (fun vs H1=>match vs with|[v]=>Pd v H1|_=>False) I h) fun us s1 ⟨vs,H1,I1,r1,q1⟩=>?_) he2 hpl
 match vs,r1,q1 with
 |[v],r1,q1=>
  obtain⟨u,rfl,ru⟩:=vals1 r1;obtain⟨l,ns,lp,zs,rfl,hS,hσ,hZ,h64,hin,T,q⟩:=(show Pd v H1 from q1);obtain⟨m,hn,hl⟩:=id I1.loc;obtain⟨ul,rl,lk⟩:=hl j y _ hN hσ (.inr (.inl hy));obtain⟨cl,ecl,hcell⟩:∃cl,X.env.cells.lookup y=some cl/\s1.heap.IsCell cl (some ul):=by
   rcases lk with ⟨z,_⟩|⟨_,cl,z1,z2⟩
   ·have z:X.env.scope.names.lookup y=some .local:=z;rw[hy] at z;cases z
   ·exact⟨cl,z1,z2⟩
  show wpAny _ _ (evalAll ((do let v <-eval (.Lambda params (pairE x y n1 p1 p2 p3 p4 p5 p6) scope lpos) X.env;standAt pos;pure v)::[])) _ _ s1;refine wpAny_evalAll_cons (zX6 (zm2 I1 (hcl cl ecl) hgl hco hhd hbi hdf hq hne T fun f c' H2 s2 I2 T2 st2 tb2 hf hlam hcode=>zX6 (wpAny_standAt (zY8 (wpAny_evalAll_nil ?_)))));cases ru;show wpAny _ _ (call (.builtin "sorted") [.ref l] [("key",.ref f)]) _ _ s2;have st3:∀a o,(∀ps,o≠.tbl ps)->H1 a=some o->H2 a=some o:=fun a o no e=>st2 a o (fun z=>by
   obtain⟨ps,t1,_⟩:=T.ex;rw[z,t1] at e;cases e;exact no _ rfl) e
  have S2:=wZ hS st3;have Z2:=wZ hZ st3;obtain⟨its,r,ht,hz⟩:=I2.list S2;have lenI:its.length=ns.length:=by rw[<-r.length,zX5]
  refine mC (ps:=ns.map (keyOf zs)) I2 ht.isList (by rw[zX5];exact lenI) (by omega) (fun i v hv H3 s3 I3 st3=>?_) fun D out H' s' c0 lD so I' st e fD fp=>?_
  ·have hi:i<ns.length:=by rw[<-lenI];exact (zY0.mp hv).1
   have rv:RelV (.int ns[i]) v:=by
    have:=jh r i (.int ns[i]) (by rw[zY3,zX7 hi];rfl)
    rwa [zX9,hv] at this
   obtain⟨m3,hn3,hl3⟩:=id I3.loc;obtain⟨ul3,rl3,lk3⟩:=hl3 j y _ hN hσ (.inr (.inl hy));have cell3:s3.heap.IsCell cl (some ul3):=by
    rcases lk3 with ⟨z,_⟩|⟨_,cl3,z1,z2⟩
    ·have z:X.env.scope.names.lookup y=some .local:=z;rw[hy] at z;cases z
    ·rw[ecl] at z1;cases z1;exact z2
   have hb3:=hin ns[i] (z38 hi);have ek:at2 (ns.map (keyOf zs)) i=keyOf zs ns[i]:=by
    unfold at2;rw[zX9,zY3,zX7 hi];rfl
   rw[ek];have Z3:=wZ Z2 fun a o _ e=>st3 a o e;refine wpAny_call (yf0 (zv8 S hr.in1.in1 I3.env0.in1.in1 (st3 _ _ hlam) (st3 _ _ hcode) cell3 (I3.freeC y cl ecl) rv rl3 (fun pm ctv=>hb _ _ _ pm ctv) hdx hdy hcx hcy Z3 hb3.1 hb3.2) fun rr s4 hq4=>?_);cases rr with
   |error e=>exact False.elim hq4
   |ok fl=>
    cases fl with
    |next=>exact False.elim hq4
    |brk=>exact False.elim hq4
    |cont=>exact False.elim hq4
    |ret u4=>
     obtain⟨v4,H4,os,bare,un,hok,r4,t,rfl,ht4,eH4⟩:=hq4;cases r4;obtain⟨hh,g,d,tk,os'⟩:=s4;obtain rfl:os'=s3.os:=os;refine⟨t,H4,rfl,I3.call (h':=hh) (g':=g) (d':=d) (t':=tk) (ch:=[]) un hok bare (fun b z=>absurd z (by simp)),fun a o e=>?_,by rw[eH4];exact zj,fun b o e n nf=>⟨un.keep b o e n nf (by simp),un.free b o e n (by simp)⟩⟩;rw[eH4,zf (zp e ht4)];exact e
  ·obtain⟨ms,sm,rm⟩:=ze8 r so;have nD:∀a o,H' a=some o->a≠D:=fun a o e z=>by rw[z,fD] at e;cases e
   have h2D:H2 D=none:=I2.hok.fresh lD;have stD:∀a o,H2 a=some o->upd H' D (.lst (ms.map V.int)) a=some o:=fun a o e=>by rw[zf (nD a o (st a o e))];exact st a o e
   refine⟨.ref D,upd H' D (.lst (ms.map V.int)),I'.adopt fp ⟨?_,out,c0,rm,e⟩,rfl,q D _ ms ?_ zj sm (T2.same fun a o _ e=>stD a o e) fun a o no e=>stD a o (st2 a o no e)⟩
   ·rw[zX5,sm.1.length_eq,z46];omega
   ·cases z:H1 D with
    |none=>rfl
    |some o=>
     by_cases nt:∀ps,o≠.tbl ps
     ·rw[st3 D o nt z] at h2D;cases h2D
     ·simp only[Classical.not_forall,Classical.not_not] at nt;obtain⟨qs,rfl⟩:=nt;obtain⟨qs',w'⟩:=tb2 D qs z;rw[w'] at h2D;cases h2D
end
section
variable {X:Cx}{α:Ev}{p q pos:Pos}{a b:Expr}
theorem pI {G:Hp}:∀ns:List Int,AVs G (ns.map V.int) (ns.map .int)
 |[]=>.nil
 |n::ns=>.cons (.int n) (pI ns)
theorem zk0 {Q:List PyData->Prop}(hc:X.calm=true)(hg:Gl X "list")(hm:X.mg "list"=none)(hg2:Gl X "range")(hm2:X.mg "range"=none)(h:EvD X α a fun x=>EvD X α b fun y=>∃i j,x=.int i/\y=.int j/\(-(2 ^ 62)<=i/\i<2 ^ 62/\-(2 ^ 62)<=j/\j<2 ^ 62)/\(j-i).toNat<=1000/\Q ((zq i (j-i).toNat).map .int))
  (he:starEach [.Call (.Name "range" q) [a,b] [] p] X.env=(false,eval (.Call (.Name "range" q) [a,b] [] p) X.env)::starEach [] X.env:=by rfl) (he2:starEach [a,b] X.env=(false,eval a X.env)::starEach [b] X.env:=by rfl) (he3:starEach [b] X.env=(false,eval b X.env)::starEach [] X.env:=by rfl)
  (hpl:(backTo p (starEach [b] X.env)).any (·.1)=false:=by rfl) {p0:Pos}:EvL X α (.Call (.Name "list" p0) [.Call (.Name "range" q) [a,b] [] p] [] pos) Q:=fun F σ H R m k=>by
 refine⟨_,wR (pJ hc) hg hm boot_list (zd (wR lB hg2 hm2 boot_range (zd zk (zd zk zu he3) he2) (he:=he2) (hpl:=hpl)) zu he) (he:=he),?_⟩;refine h F σ H _ m fun x vx H1 q1 t1 k1 r1=>?_;have m1:=m.kz k1 t1;refine q1 F σ H1 _ m1 fun y vy H2 q2 t2 k2 r2=>?_;have m2:=m1.kz k2 t2;obtain⟨i,j,rfl,rfl,⟨b1,b2,b3,b4⟩,hz,q⟩:=q2;cases r1.int_inv;cases r2.int_inv;refine⟨i,j,rfl,fun r hr=>?_⟩;refine⟨r,i,j,rfl,zj,⟨b1,b2,b3,b4⟩,z63 (yS hz),by omega,fun l hl=>?_⟩;have nlr:l≠r:=fun z=>by rw[z,zj] at hl;cases hl
 have hl':H2 l=none:=by rw[zf nlr] at hl;exact hl
 have kk:=k1.trans k2;have s1:zz H2 (upd (upd H2 r (.rng i j)) l (.lst ((zq i (j-i).toNat).map V.int))):=(yn hr).trans (yn hl);refine k _ _ _ q (t2.same s1) (kk.trans (Kz.of_same s1)) ⟨l,_,rfl,?_,zj,pI _⟩;cases z:H l with
 |none=>rfl
 |some o=>rw[kk l o z (m.tp.nt (ow0 (m2.fresh hl')))] at hl';cases hl'
end
section
variable {X:Cx}{α:Ev}{p pos:Pos}{a b:Expr}{Q:PyData->Prop}
end
theorem AVs.ints {H:Hp}:∀{xs:List V} {ns:List Int},AVs H xs (ns.map .int)->xs=ns.map V.int
 |_,[],.nil=>rfl
 |_,n::ns,.cons h hs=>by rw[zZ6,AVs.ints hs,h.int_inv]
section
variable {X:Cx}{α:Ev}{a:Expr}{p pos kpos lpos p1 p2 p3 p4 p5 p6:Pos}{n1:Nat}{x y:Str}{params:Arguments}{scope:Scope}
structure zh0 (X:Cx)(c:Addr)(x y:Str)(n1:Nat)(p1 p2 p3 p4 p5 p6:Pos)(params:Arguments)(scope:Scope):Prop where
 S:wU x y params scope
 hy:X.env.scope.names.lookup y=some .cell
 hcl:∀cl,X.env.cells.lookup y=some cl->closureFor scope X.env=pure [(y,cl)]
 hgl:X.env.globals=mainGlobals
 hco:X.env.code=.ref c
 hhd:PySem.W.CodeHd X.base c yJ
 hbi:X.base.BuiltinsAt X.mg yJ
 hdf:defaultsOf params X.env=([],[])
 hq:X.env.qual++("<lambda>":Str)=wt
 hne:mainGlobals≠yJ
 hb:∀u cl c' pm ctv,bindArgs (PySem.W.kla_fn "<lambda>" wt params (pairE x y n1 p1 p2 p3 p4 p5 p6) scope [(y,cl)] pm (.ref c') ctv) ⟨[u],[]⟩=pure [(x,u)]
 hdx:(x == ("__debug__":Str))=false
 hdy:(y == ("__debug__":Str))=false
 hcx:(x == ("__classdict__":Str))=false
 hcy:(y == ("__classdict__":Str))=false
theorem gp {j k:Nat}{c:Addr}{Q:List PyData->Prop}(T:zh0 X c x y n1 p1 p2 p3 p4 p5 p6 params scope)(hr:zS (k+2) X.A)(hg:Gl X "sorted")(hm:X.mg "sorted"=none)(hN:X.N[j]?=some y)
  (h:EvD X α a fun d=>∃ns zs:List Int,d=.list (ns.map .int)/\α[j]?=some (some (.dat (.list (zs.map .int))))/\ns.length<64/\(∀n∈ns,0<=n/\n<zs.length)/\∀ms,tO ns zs ms->Q (ms.map .int))
  (he:starEach [a] X.env=(false,eval a X.env)::starEach [] X.env:=by rfl) (he2:backTo pos (starEach [a] X.env)=(false,eval a X.env)::backTo pos (starEach [] X.env):=by rfl) (hpl:((backTo pos (starEach [a] X.env)).any fun x=>x.1)=false:=by rfl):
  EvL X α (.Call (.Name "sorted" p) [a] [⟨some "key",.Lambda params (pairE x y n1 p1 p2 p3 p4 p5 p6) scope lpos,kpos⟩] pos) Q:=fun F σ H R m k=>by
 refine⟨_,ib (j:=j) T.S hr hg hm hN T.hy T.hcl T.hgl T.hco T.hhd T.hbi T.hdf T.hq T.hne T.hb T.hdx T.hdy T.hcx T.hcy zk he he2 hpl,?_⟩;refine h F σ H _ m fun d vx H1 q1 t1 k1 r1=>?_;have m1:=m.kz k1 t1;obtain⟨ns,zs,rfl,hz,h64,hin,q⟩:=q1;obtain⟨l,xs,rfl,g1,g2⟩:=r1.lst_inv;obtain⟨v,s1,s2⟩:=m1.dat j _ hz;obtain⟨lp,ys,rfl,g3,g4⟩:=s2.lst_inv;cases g2.ints;cases g4.ints;refine⟨l,ns,lp,zs,rfl,SqL.of (zh g1).2,s1,SqL.of (zh g3).2,h64,hin,t1.tab,fun D H' ms hD hD' sm tb kp=>?_⟩;have tl:∀a xs,H1 a=some (.lst xs)->H' a=some (.lst xs):=fun a xs e=>kp a _ (fun z=>by
  obtain⟨ps,e1,_⟩:=t1.tab.ex;rw[z,e1] at e;cases e) e
 have kz:Kz F H1 H':=fun x o e n=>kp x o n.2 e;refine k _ _ H' (q ms sm) ⟨tb,t1.ot,fun t b c e=>⟨?_,(t1 t b c e).2⟩⟩ (k1.trans kz) ⟨D,_,rfl,?_,hD',pI _⟩
 ·obtain⟨n,bs,cs,n1,e1,e2,e3,l1,l2⟩:=(t1 t b c e).1.ex;exact⟨n,bs,cs,n1,tl _ _ e1,tl _ _ e2,tl _ _ e3,l1,l2⟩
 ·cases z:H D with
  |none=>rfl
  |some o=>rw[k1 D o z (m.tp.nt (ow0 (m1.fresh hD)))] at hD;cases hD
end
section
variable {P:Program}{w:World}{K:PySem.W.Frag}{mg:Str->Option Value}{base:Heap}
theorem zW8 {x qual:Str}{st:Stmt}{f:Addr}{N ps:List Str}{k:Nat}{φ:List A->(A->Prop)->Prop}{oc:Value}{od an:Option Addr}{osl:Array (Option Value)}{kV doc pm cdv ct:Value}
  (lk:K.lookup f=some ⟨oc,od,.func (PySem.W.fnOf x qual (zV st) (zy st) (zb st) .none kV doc pm an cdv ct),osl⟩) (hcd:PySem.W.codeIn K cdv qual=true) (S:zm N ps (zb st)) (hlen:∀as Q,φ as Q->as.length=ps.length)
  (hbody:∀(A':Around) (outer:List Env) (s:Shared) (H:Hp) (E:XK) (as:List A) (Q:A->Prop),zS k (A'.deeper (envOfC qual (zb st) s.heap.objs.size f cdv))->φ as Q->
   SvS (uv CX0 P w K mg base N qual (zb st) f cdv A' outer s H E).nox (as.map some++List.replicate (N.length-as.length) none) (zy st) {nx:=fun _=>Q (.dat .none),rt:=Q}):zF P w K mg base CX0 (k+1) f (PySem.W.fnOf x qual (zV st) (zy st) (zb st) .none kV doc pm an cdv ct) ps (spA φ):=by
 refine zl2 lk hcd S (fun vs H Q E h=>?_) (fun A' outer s H vs Qc E hr h=>?_)
 ·obtain⟨F,as,Q',_,_,_,rv,hφ,_⟩:=h;rw[rv.length,hlen as _ hφ]
 ·obtain⟨F,as,Q',e,t,o,rv,hφ,kk⟩:=h;have:=hbody A' outer s H E as Q' hr hφ F _ H {nx:=fun _ H'=>Qc .non H',rt:=Qc} (M.start e t o rv) ⟨fun α σ H' m q=>?_,fun a v H' r q=>kk a v H' q r,fun _ _ _ _ z=>z.elim,fun _ _ _ _ z=>z.elim⟩
  ·obtain⟨t,h,q⟩:=this;exact⟨t,h.nox,q⟩
  ·exact kk _ _ _ q ⟨m.tp,m.keep,.non⟩
end
section
variable {X:Cx}{α:Ev}{Q:PyData->Prop}{a b:Expr}{pos:Pos}
end
theorem ke (c:Int)(n:Nat):zq c (n+1)=zq c n++[c+(n:Nat)]:=by simp[zq,yf4]
theorem yR {c m:Int}{n:Nat}:m∈zq c n↔c<=m/\m<c+n:=by
 simp only[zq,z09,yg2]
 constructor
 ·rintro⟨i,hi,rfl⟩;omega
 ·rintro⟨h1,h2⟩;exact⟨(m-c).toNat,by omega,by omega⟩
theorem sv (c:Int):∀n:Nat,(zq c n).Nodup
 |0=>by simp[zq]
 |n+1=>by
  rw[ke,List.nodup_append];refine⟨sv c n,by simp,?_⟩;intro a ha b hb;rw[yR] at ha;simp at hb;omega
def vF (zs:List Int)(many free i:Nat)(bs:List Bool):Prop:=
 bs.length=zs.length/\(∀j,i / many*many<=j->bs.getD j false=false)/\∀k,k<i / many->∃ms:List Int,tO (zq ((k*many:Nat):Int) many) zs ms/\∀q,q<many->bs.getD (ms.getD q 0).toNat false=decide (q<free)
theorem oE (zs:List Int){many:Nat}(free:Nat):vF zs many free 0 (List.replicate zs.length false):=by
 refine⟨by simp,fun j _=>?_,fun k hk=>?_⟩
 ·rw[zX9,z78];split<;>rfl
 ·rw[Nat.zero_div] at hk;omega
theorem pC {i many:Nat}(h:0<many)(h1:i % many+1<many):(i+1) / many=i / many/\(i+1) % many=i % many+1:=by
 have e:=ya3 i many;have e2:i+1=(i % many+1)+many*(i / many):=by omega
 constructor
 ·rw[e2,Nat.add_mul_div_left _ _ h,Nat.div_eq_of_lt h1,Nat.zero_add]
 ·rw[e2,Nat.add_mul_mod_self_left,Nat.mod_eq_of_lt h1]
theorem qr {i many:Nat}(h:0<many)(h1:i % many+1=many):(i+1) / many=i / many+1/\(i+1) % many=0/\(i / many+1)*many=i+1:=by
 have e:=ya3 i many;have e3:many*(i / many+1)=i+1:=by rw[Nat.mul_add,Nat.mul_one];omega
 refine⟨?_,?_,?_⟩
 ·rw[<-e3,Nat.mul_div_cancel_left _ h]
 ·rw[<-e3,Nat.mul_mod_right]
 ·rw[yf5];exact e3
theorem oB {zs:List Int}{many free i:Nat}{bs:List Bool}(h:0<many)(h1:i % many+1<many)(m:vF zs many free i bs):vF zs many free (i+1) bs:=by
 unfold vF at *;rw[(pC h h1).1];exact m
theorem vg {lo:Int}{n:Nat}{zs ms:List Int}(s:tO (zq lo n) zs ms){q:Nat}(h:q<n):lo<=ms.getD q 0/\ms.getD q 0<lo+n:=by
 have hl:ms.length=n:=by rw[s.1.length_eq,zc]
 have:ms.getD q 0∈ms:=by
  rw[zX9,zX7 (by omega)];exact z38 _
 exact yR.mp (s.1.mem_iff.mp this)
theorem oN {zs ms:List Int}{many free i:Nat}{bs bs':List Bool}(h:0<many)(h1:i % many+1=many)(m:vF zs many free i bs)(s:tO (zq ((i / many*many:Nat):Int) many) zs ms)
  (e0:bs'.length=bs.length) (e1:∀q,q<many->bs'.getD (ms.getD q 0).toNat false=decide (q<free)) (e2:∀j,(∀q,q<many->(ms.getD q 0).toNat≠j)->bs'.getD j false=bs.getD j false):vF zs many free (i+1) bs':=by
 obtain⟨d1,d2,d3⟩:=qr h h1;obtain⟨m1,m2,m3⟩:=m;refine⟨by rw[e0,m1],fun j hj=>?_,fun k hk=>?_⟩
 ·rw[d1,d3] at hj;have e:=ya3 i many;have e4:i / many*many=many*(i / many):=yf5 _ _;rw[e2 j fun q hq=>?_,m2 j (by omega)];have:=vg s hq;omega
 ·rw[d1] at hk;by_cases hk2:k=i / many
  ·subst hk2;exact⟨ms,s,e1⟩
  ·obtain⟨ms2,s2,f2⟩:=m3 k (by omega);refine⟨ms2,s2,fun q hq=>?_⟩;rw[e2 _ fun q2 hq2=>?_,f2 q hq];have a1:=vg s hq2;have a2:=vg s2 hq;have:(k+1)*many<=i / many*many:=yb3 _ (by omega);rw[Nat.add_mul,Nat.one_mul] at this;omega
theorem kX (f:Nat):∀n,((List.range n).map fun q=>decide (q<f)).count true=min f n
 |0=>by simp
 |n+1=>by
  rw[yf4,z03,List.count_append,kX f n];by_cases h:n<f
  ·simp[h];omega
  ·simp[h];omega
theorem zo8 {α:Type}(l:List α)(d:α)(a n:Nat)(h:a+n<=l.length):(l.drop a).take n=(zq (a:Int) n).map fun m=>l.getD m.toNat d:=by
 apply ye3
 ·simp[zc];omega
 ·intro i h1 h2;have hi:i<n:=by simpa[zc] using h2
  simp only[zq,List.getElem_take,List.getElem_drop,List.getElem_map,List.getElem_range];rw[show ((a:Int)+(i:Nat)).toNat=a+i by omega,zX9,zX7 (by omega)];rfl
theorem tK {zs ms:List Int}{lo many free:Nat}{bs:List Bool}(s:tO (zq (lo:Int) many) zs ms)(hb:lo+many<=bs.length)(h:∀q,q<many->bs.getD (ms.getD q 0).toNat false=decide (q<free))(hf:free<=many):((bs.drop lo).take many).count true=free:=by
 have hl:ms.length=many:=by rw[s.1.length_eq,zc]
 rw[zo8 bs false lo many hb,<-(s.1.map fun m=>bs.getD m.toNat false).count_eq];have:ms.map (fun m=>bs.getD m.toNat false)=(List.range many).map fun q=>decide (q<free):=by
  apply ye3
  ·simp[hl]
  ·intro i h1 h2;have hi:i<many:=by simpa using h2
   simp only[List.getElem_map,List.getElem_range];have:=h i hi;rw[zX9 (l:=ms),zX7 (by omega)] at this;exact this
 rw[this,kX];omega
theorem zi3 {lo:Int}{n:Nat}{zs ms:List Int}(s:tO (zq lo n) zs ms){m:Int}(h1:lo<=m)(h2:m<lo+n):∃q,q<n/\ms.getD q 0=m:=by
 have hl:ms.length=n:=by rw[s.1.length_eq,zc]
 obtain⟨q,hq,e⟩:=z92.mp (s.1.mem_iff.mpr (yR.mpr ⟨h1,h2⟩));exact⟨q,by omega,by rw[zX9,zX7 hq];exact e⟩
open PySem (IsZip)
section
variable {prog:Program}{w:World}{A:Around}{E:Value->Shared->Prop}{s:Shared}
theorem kY {M:Model}{a:Addr}{Q:Option Obj->Shared->Prop}(h:Q (s.heap.get? a) s):wpAny M A (loadIfAlive a) Q E s:=fun Γ p hΓ=>by
 show Sem.wp M Γ (.loadIfAlive a .pure) _ _ p s;rw[Sem.wp_loadIfAlive];exact h
noncomputable abbrev zO (f0 f1:Value)(TI TO:Addr):Obj:={cls:=.type "zip",dict:=none,data:=.fields #[f0,f1,.bool false,.ref TI,.ref TO],slots:=#[]}
noncomputable abbrev tO3 (a b c:Value):Obj:={cls:=.type "tuple",data:=.seq #[a,b,c]}
theorem wD {T:Addr}{a b c x:Value}{k:Nat}{Q:Unit->Shared->Prop}(hT:s.heap.get? T=some (tO3 a b c))
  (h:∀h',h'.get? T=some {cls:=.type "tuple",data:=.seq ((#[a,b,c]:Array Value).setIfInBounds k x)}->Heap.SameBut T s.heap h'->Q () {s with heap:=h'}):
  wpAny (model prog w) A (updateSeq T (·.setIfInBounds k x)) Q E s:=by
 refine z68 hT rfl (h _ ?_ (yb8 ..));rw[ya9 _ hT rfl];simp[Obj.mapSeq]
structure vG (h:Heap)(n:Nat)(l1 l2 l3:Addr)(k:Nat)(f0 f1 a b c:Value):Prop where
 z:h.get? (n+5:Nat)=some (zO f0 f1 (n+3:Nat) (n+4:Nat))
 ti:h.get? (n+3:Nat)=some (tO3 (.ref (n:Nat)) (.ref (n+1:Nat)) (.ref (n+2:Nat)))
 to:h.get? (n+4:Nat)=some (tO3 a b c)
 i1:h.IsListIter (n:Nat) l1 k
 i2:h.IsListIter (n+1:Nat) l2 k
 i3:h.IsListIter (n+2:Nat) l3 k
noncomputable abbrev z3 (n:Nat):List Addr:=[(n:Nat),(n+1:Nat),(n+2:Nat),(n+3:Nat),(n+4:Nat),(n+5:Nat)]
theorem zv (a b:Nat)(h:a<b\/b<a):@Ne Addr a b:=fun e=>by
 have e:@Eq Nat a b:=e;omega
theorem ie {n l1 l2 l3:Nat}{k:Nat}{f1 a b c x y z:Value}{xs ys zs:Array Value}{Q:Value->Shared->Prop}(h1:l1<n)(h2:l2<n)(h3:l3<n)(Z:vG s.heap n l1 l2 l3 k .none f1 a b c)
  (hl1:s.heap.IsList l1 xs) (hl2:s.heap.IsList l2 ys) (hl3:s.heap.IsList l3 zs) (hx:xs[k]?=some x) (hy:ys[k]?=some y) (hz:zs[k]?=some z)
  (hQ:∀h',vG h' n l1 l2 l3 (k+1) (rawInt s.heap.objs.size) (.bool false) x y z->h'.get? s.heap.objs.size=some (tO3 x y z)->
   (∀c o,c∉z3 n->s.heap.get? c=some o->h'.get? c=some o)->Q (.ref s.heap.objs.size) {s with heap:=h'}):
  wpAny (model prog w) A (Builtin.«zip.__next__» ⟨[.ref (n+5:Nat)],[]⟩) (fun fin s'=>∃v,fin=.done (.ret v)/\Q v s') E s:=by
 obtain⟨hz0,hTI,hTO,g1,g2,g3⟩:=Z;show wpAny _ _ (field (.ref _) 2 >>= _) _ _ _;refine zX6 (z85 hz0 rfl (x:=.bool false) rfl ?_);show wpAny _ _ (field (.ref _) 3 >>= _) _ _ _;refine zX6 (z85 hz0 rfl (x:=.ref (n+3:Nat)) rfl ?_);refine zX6 (z50 hTI rfl ?_);show wpAny _ _ (Builtin.SmallTypes.ownedTupleIsFree (.ref (n+5:Nat)) >>= _) _ _ _;refine zX6 ?_;unfold Builtin.SmallTypes.ownedTupleIsFree;refine zX6 (z85 hz0 rfl (x:=.none) rfl (zY8 ?_));simp only[ya0];refine zX6 (wpAny_rule ?_);refine zX6 (z85 hz0 rfl (x:=.ref (n+4:Nat)) rfl ?_);refine zX6 (yd0 hz0 (by simp) fun h₁ hz₁ hs₁=>?_)
 replace hz₁:h₁.get? (n+5:Nat)=some (zO .ellipsis f1 (n+3:Nat) (n+4:Nat)):=hz₁
 refine zX6 ?_;simp only[List.zipIdx_cons,List.zipIdx_nil,yf3,List.forIn_nil];refine zX6 (zX6 (wpAny_onRaise ?_));show wpAny _ _ (Builtin.SmallTypes.nextOf (.ref (n:Nat)) >>= _) _ _ _;refine zX6 (z70 (g1.extBut hs₁.extBut (by refine zv _ _ ?_;omega)) (hl1.extBut hs₁.extBut (by refine zv _ _ ?_;omega)) hx fun h₂ g1₂ hs₂=>zY8 ?_);have hTO₂:h₂.get? (n+4:Nat)=some (tO3 a b c):=hs₂.extBut _ _ (by refine zv _ _ ?_;omega) (hs₁.extBut _ _ (by refine zv _ _ ?_;omega) hTO);refine zX6 (z50 hTO₂ rfl ?_);refine zX6 (wD hTO₂ fun h₃ hTO₃ hs₃=>?_)
 replace hTO₃:h₃.get? (n+4:Nat)=some (tO3 x b c):=hTO₃
 refine zX6 (z84 (zY8 ?_));refine zX6 (zX6 (wpAny_onRaise ?_));show wpAny _ _ (Builtin.SmallTypes.nextOf (.ref (n+1:Nat)) >>= _) _ _ _;refine zX6 (z70 (((g2.extBut hs₁.extBut (by refine zv _ _ ?_;omega)).extBut hs₂.extBut (by refine zv _ _ ?_;omega)).extBut hs₃.extBut (by refine zv _ _ ?_;omega))
  (((hl2.extBut hs₁.extBut (by refine zv _ _ ?_;omega)).extBut hs₂.extBut (by refine zv _ _ ?_;omega)).extBut hs₃.extBut (by refine zv _ _ ?_;omega)) hy fun h₄ g2₄ hs₄=>zY8 ?_)
 have hTO₄:h₄.get? (n+4:Nat)=some (tO3 x b c):=hs₄.extBut _ _ (by refine zv _ _ ?_;omega) hTO₃;refine zX6 (z50 hTO₄ rfl ?_);refine zX6 (wD hTO₄ fun h₅ hTO₅ hs₅=>?_)
 replace hTO₅:h₅.get? (n+4:Nat)=some (tO3 x y c):=hTO₅
 refine zX6 (z84 (zY8 ?_));refine zX6 (zX6 (wpAny_onRaise ?_));show wpAny _ _ (Builtin.SmallTypes.nextOf (.ref (n+2:Nat)) >>= _) _ _ _;refine zX6 (z70 (((((g3.extBut hs₁.extBut (by refine zv _ _ ?_;omega)).extBut hs₂.extBut (by refine zv _ _ ?_;omega)).extBut hs₃.extBut (by refine zv _ _ ?_;omega)).extBut hs₄.extBut (by refine zv _ _ ?_;omega)).extBut hs₅.extBut (by refine zv _ _ ?_;omega))
  (((((hl3.extBut hs₁.extBut (by refine zv _ _ ?_;omega)).extBut hs₂.extBut (by refine zv _ _ ?_;omega)).extBut hs₃.extBut (by refine zv _ _ ?_;omega)).extBut hs₄.extBut (by refine zv _ _ ?_;omega)).extBut hs₅.extBut (by refine zv _ _ ?_;omega)) hz fun h₆ g3₆ hs₆=>zY8 ?_)
 have hTO₆:h₆.get? (n+4:Nat)=some (tO3 x y c):=hs₆.extBut _ _ (by refine zv _ _ ?_;omega) hTO₅;refine zX6 (z50 hTO₆ rfl ?_);refine zX6 (wD hTO₆ fun h₇ hTO₇ hs₇=>?_)
 replace hTO₇:h₇.get? (n+4:Nat)=some (tO3 x y z):=hTO₇
 refine zX6 (z84 (zY8 (zY8 ?_)));refine zX6 (z50 hTO₇ rfl ?_);refine zX6 (wpAny_newTuple ?_);have hsz:h₇.objs.size=s.heap.objs.size:=by rw[hs₇.1,hs₆.1,hs₅.1,hs₄.1,hs₃.1,hs₂.1,hs₁.1]
 have up7:∀c o,c≠(n+5:Nat)->c≠(n:Nat)->c≠(n+4:Nat)->c≠(n+1:Nat)->c≠(n+2:Nat)->s.heap.get? c=some o->h₇.get? c=some o:=fun c o c1 c2 c3 c4 c5 e=>
  hs₇.extBut _ _ c3 (hs₆.extBut _ _ c5 (hs₅.extBut _ _ c3 (hs₄.extBut _ _ c4 (hs₃.extBut _ _ c3 (hs₂.extBut _ _ c2 (hs₁.extBut _ _ c1 e))))))
 have hz₇:h₇.get? (n+5:Nat)=some (zO .ellipsis f1 (n+3:Nat) (n+4:Nat)):=hs₇.extBut _ _ (by refine zv _ _ ?_;omega) (hs₆.extBut _ _ (by refine zv _ _ ?_;omega) (hs₅.extBut _ _ (by refine zv _ _ ?_;omega) (hs₄.extBut _ _ (by refine zv _ _ ?_;omega) (hs₃.extBut _ _ (by refine zv _ _ ?_;omega) (hs₂.extBut _ _ (by refine zv _ _ ?_;omega) hz₁)))));have g1₇:h₇.IsListIter (n:Nat) l1 (k+1):=((((g1₂.extBut hs₃.extBut (by refine zv _ _ ?_;omega)).extBut hs₄.extBut (by refine zv _ _ ?_;omega)).extBut hs₅.extBut (by refine zv _ _ ?_;omega)).extBut hs₆.extBut (by refine zv _ _ ?_;omega)).extBut hs₇.extBut (by refine zv _ _ ?_;omega);have g2₇:h₇.IsListIter (n+1:Nat) l2 (k+1):=((g2₄.extBut hs₅.extBut (by refine zv _ _ ?_;omega)).extBut hs₆.extBut (by refine zv _ _ ?_;omega)).extBut hs₇.extBut (by refine zv _ _ ?_;omega);have g3₇:h₇.IsListIter (n+2:Nat) l3 (k+1):=g3₆.extBut hs₇.extBut (by refine zv _ _ ?_;omega);have hTI₇:=up7 _ _ (by refine zv _ _ ?_;omega) (by refine zv _ _ ?_;omega) (by refine zv _ _ ?_;omega) (by refine zv _ _ ?_;omega) (by refine zv _ _ ?_;omega) hTI;have hzlt:(n+5:Nat)<h₇.objs.size:=zY5 hz₇;show wpAny _ _ (Builtin.SmallTypes.ownedTupleHandOut (.ref (n+5:Nat)) (.ref h₇.objs.size) >>= _) _ _ _;refine zX6 ?_;unfold Builtin.SmallTypes.ownedTupleHandOut;have hz₈:(h₇.push {cls:=.type "tuple",data:=.seq #[x,y,z]}).get? (n+5:Nat)=some (zO .ellipsis f1 (n+3:Nat) (n+4:Nat)):=zX8 _ hz₇;refine zX6 (yd0 hz₈ (by simp) fun h₉ hz₉ hs₉=>?_)
 replace hz₉:h₉.get? (n+5:Nat)=some (zO (rawInt h₇.objs.size) f1 (n+3:Nat) (n+4:Nat)):=hz₉
 refine yd0 hz₉ (by simp) fun hA hzA hsA=>?_
 replace hzA:hA.get? (n+5:Nat)=some (zO (rawInt h₇.objs.size) (.bool false) (n+3:Nat) (n+4:Nat)):=hzA
 have up:∀c o,c≠(n+5:Nat)->h₇.get? c=some o->hA.get? c=some o:=fun c o c1 e=>hsA.extBut _ _ c1 (hs₉.extBut _ _ c1 (zX8 _ e));have hTA:hA.get? h₇.objs.size=some (tO3 x y z):=hsA.extBut _ _ (z95 hzlt) (hs₉.extBut _ _ (z95 hzlt) (zY7 _ rfl));rw[hsz] at hzA hTA;refine zY8 ⟨_,rfl,?_⟩;show Q (.ref h₇.objs.size) _;rw[hsz];refine hQ hA ⟨hzA,up _ _ (by refine zv _ _ ?_;omega) hTI₇,up _ _ (by refine zv _ _ ?_;omega) hTO₇,g1₇.at fun o e=>up _ o (by refine zv _ _ ?_;omega) e,g2₇.at fun o e=>up _ o (by refine zv _ _ ?_;omega) e,g3₇.at fun o e=>up _ o (by refine zv _ _ ?_;omega) e⟩ hTA fun c o hc e=>?_;simp only[z3,zY1,zZ3,z23,not_or] at hc;exact up c o hc.2.2.2.2.2 (up7 c o hc.2.2.2.2.2 hc.1 hc.2.2.2.2.1 hc.2.1 hc.2.2.1 e)
theorem oZ {n l1 l2 l3 k T:Nat}{f1 a b c:Value}{ot:Obj}{Q:Bool->Shared->Prop}(h1:l1<n)(h2:l2<n)(h3:l3<n)(Z:vG s.heap n l1 l2 l3 k (rawInt (T:Nat)) f1 a b c)(hT:s.heap.get? T=some ot)
  (hQ:∀h' f1',vG h' n l1 l2 l3 k (rawInt (T:Nat)) f1' a b c->h'.objs.size=s.heap.objs.size->(∀c o,c≠(n+5:Nat)->s.heap.get? c=some o->h'.get? c=some o)->Q false {s with heap:=h'}):
  wpAny (model prog w) A (Builtin.SmallTypes.ownedTupleIsFree (.ref (n+5:Nat))) Q E s:=by
 obtain⟨hz0,hTI,hTO,g1,g2,g3⟩:=Z;unfold Builtin.SmallTypes.ownedTupleIsFree;refine zX6 (z85 hz0 rfl (x:=rawInt (T:Nat)) rfl ?_);show wpAny _ _ (loadIfAlive ((T:Int).toNat) >>= _) _ _ _;refine zX6 (kY ?_);rw[show ((T:Int).toNat)=T from z42 T,hT];show wpAny _ _ (field (.ref (n+5:Nat)) 1 >>= _) _ _ _;refine zX6 (z85 hz0 rfl (x:=f1) rfl ?_);refine ya4 (fun _=>?_) (fun _=>?_)
 ·refine zX6 (yd0 hz0 (by simp) fun h₁ hz₁ hs₁=>zY8 ?_)
  replace hz₁:h₁.get? (n+5:Nat)=some (zO (rawInt (T:Nat)) (.bool true) (n+3:Nat) (n+4:Nat)):=hz₁
  exact hQ h₁ _ ⟨hz₁,hs₁.extBut _ _ (by refine zv _ _ ?_;omega) hTI,hs₁.extBut _ _ (by refine zv _ _ ?_;omega) hTO,g1.extBut hs₁.extBut (by refine zv _ _ ?_;omega),g2.extBut hs₁.extBut (by refine zv _ _ ?_;omega),g3.extBut hs₁.extBut (by refine zv _ _ ?_;omega)⟩ hs₁.1 fun c o hc e=>hs₁.extBut _ _ hc e
 ·exact zY8 (hQ s.heap f1 ⟨hz0,hTI,hTO,g1,g2,g3⟩ rfl fun _ _ _ e=>e)
theorem df {n l1 l2 l3 k T:Nat}{f1 a b c x y z:Value}{ot:Obj}{xs ys zs:Array Value}{Q:Value->Shared->Prop}(h1:l1<n)(h2:l2<n)(h3:l3<n)(Z:vG s.heap n l1 l2 l3 k (rawInt (T:Nat)) f1 a b c)(hT:s.heap.get? T=some ot)
  (hl1:s.heap.IsList l1 xs) (hl2:s.heap.IsList l2 ys) (hl3:s.heap.IsList l3 zs) (hx:xs[k]?=some x) (hy:ys[k]?=some y) (hz:zs[k]?=some z)
  (hQ:∀h' f1',vG h' n l1 l2 l3 (k+1) (rawInt (T:Nat)) f1' a b c->h'.get? s.heap.objs.size=some (tO3 x y z)->
   (∀c o,c∉z3 n->s.heap.get? c=some o->h'.get? c=some o)->Q (.ref s.heap.objs.size) {s with heap:=h'}):
  wpAny (model prog w) A (Builtin.«zip.__next__» ⟨[.ref (n+5:Nat)],[]⟩) (fun fin s'=>∃v,fin=.done (.ret v)/\Q v s') E s:=by
 show wpAny _ _ (field (.ref _) 2 >>= _) _ _ _;refine zX6 (z85 Z.z rfl (x:=.bool false) rfl ?_);show wpAny _ _ (field (.ref _) 3 >>= _) _ _ _;refine zX6 (z85 Z.z rfl (x:=.ref (n+3:Nat)) rfl ?_);refine zX6 (z50 Z.ti rfl ?_);show wpAny _ _ (Builtin.SmallTypes.ownedTupleIsFree (.ref (n+5:Nat)) >>= _) _ _ _;refine zX6 (oZ h1 h2 h3 Z hT fun hB f1' ZB szB kB=>?_);obtain⟨hz0,hTI,hTO,g1,g2,g3⟩:=ZB
 replace hl1:hB.IsList l1 xs:=hl1.at fun o e=>kB _ o (by refine zv _ _ ?_;omega) e
 replace hl2:hB.IsList l2 ys:=hl2.at fun o e=>kB _ o (by refine zv _ _ ?_;omega) e
 replace hl3:hB.IsList l3 zs:=hl3.at fun o e=>kB _ o (by refine zv _ _ ?_;omega) e
 simp only[z30,z72];rw[yg6];simp only[yf3,List.forIn_nil];refine zX6 (zX6 (zX6 (z48 ?_)));show wpAny _ _ (Builtin.SmallTypes.nextOf (.ref (n:Nat)) >>= _) _ _ _;refine zX6 (z70 g1 hl1 hx fun h₂ g1₂ hs₂=>zY8 (zY8 ?_));refine zX6 (zX6 (z48 ?_));show wpAny _ _ (Builtin.SmallTypes.nextOf (.ref (n+1:Nat)) >>= _) _ _ _;refine zX6 (z70 (g2.extBut hs₂.extBut (by refine zv _ _ ?_;omega)) (hl2.extBut hs₂.extBut (by refine zv _ _ ?_;omega)) hy fun h₄ g2₄ hs₄=>zY8 (zY8 ?_));refine zX6 (zX6 (z48 ?_));show wpAny _ _ (Builtin.SmallTypes.nextOf (.ref (n+2:Nat)) >>= _) _ _ _;refine zX6 (z70 ((g3.extBut hs₂.extBut (by refine zv _ _ ?_;omega)).extBut hs₄.extBut (by refine zv _ _ ?_;omega)) ((hl3.extBut hs₂.extBut (by refine zv _ _ ?_;omega)).extBut hs₄.extBut (by refine zv _ _ ?_;omega)) hz fun h₆ g3₆ hs₆=>zY8 (zY8 (zY8 ?_)));refine zX6 (wpAny_newTuple ?_ (by show 3<=sizeLine;decide));have hsz:h₆.objs.size=s.heap.objs.size:=by rw[hs₆.1,hs₄.1,hs₂.1];exact szB
 have up6:∀c o,c≠(n:Nat)->c≠(n+1:Nat)->c≠(n+2:Nat)->hB.get? c=some o->h₆.get? c=some o:=fun c o c1 c2 c3 e=>hs₆.extBut _ _ c3 (hs₄.extBut _ _ c2 (hs₂.extBut _ _ c1 e));have up:∀c o,h₆.get? c=some o->(h₆.push {cls:=.type "tuple",data:=.seq #[x,y,z]}).get? c=some o:=fun c o e=>zX8 _ e;have g1₆:h₆.IsListIter (n:Nat) l1 (k+1):=(g1₂.extBut hs₄.extBut (by refine zv _ _ ?_;omega)).extBut hs₆.extBut (by refine zv _ _ ?_;omega);have g2₆:h₆.IsListIter (n+1:Nat) l2 (k+1):=g2₄.extBut hs₆.extBut (by refine zv _ _ ?_;omega);refine zY8 ⟨_,rfl,?_⟩;show Q (.ref h₆.objs.size) _;rw[hsz];refine hQ _ f1' ⟨up _ _ (up6 _ _ (by refine zv _ _ ?_;omega) (by refine zv _ _ ?_;omega) (by refine zv _ _ ?_;omega) hz0),up _ _ (up6 _ _ (by refine zv _ _ ?_;omega) (by refine zv _ _ ?_;omega) (by refine zv _ _ ?_;omega) hTI),up _ _ (up6 _ _ (by refine zv _ _ ?_;omega) (by refine zv _ _ ?_;omega) (by refine zv _ _ ?_;omega) hTO),g1₆.at fun o e=>up _ o e,g2₆.at fun o e=>up _ o e,g3₆.at fun o e=>up _ o e⟩ ?_ fun c o hc e=>?_
 ·rw[<-hsz];exact zY7 _ rfl
 ·simp only[z3,zY1,zZ3,z23,not_or] at hc;exact up c o (up6 c o hc.1 hc.2.1 hc.2.2.1 (kB c o hc.2.2.2.2.2 e))
theorem bK {n l1 l2 l3 k T:Nat}{f1 a b c:Value}{ot:Obj}{xs:Array Value}{Q:PySem.Fin->Shared->Prop}(hh:A.handled=none)(h1:l1<n)(h2:l2<n)(h3:l3<n)(Z:vG s.heap n l1 l2 l3 k (rawInt (T:Nat)) f1 a b c)(hT:s.heap.get? T=some ot)
  (hl1:s.heap.IsList l1 xs) (hx:xs[k]?=none)
  (hE:∀h' e,(∀c o,c∉z3 n->s.heap.get? c=some o->h'.get? c=some o)->(∃o,h'.get? e=some o/\o.cls=.type "StopIteration")->E (.ref e) {s with heap:=h'}):
  wpAny (model prog w) A (Builtin.«zip.__next__» ⟨[.ref (n+5:Nat)],[]⟩) Q E s:=by
 show wpAny _ _ (field (.ref _) 2 >>= _) _ _ _;refine zX6 (z85 Z.z rfl (x:=.bool false) rfl ?_);show wpAny _ _ (field (.ref _) 3 >>= _) _ _ _;refine zX6 (z85 Z.z rfl (x:=.ref (n+3:Nat)) rfl ?_);refine zX6 (z50 Z.ti rfl ?_);show wpAny _ _ (Builtin.SmallTypes.ownedTupleIsFree (.ref (n+5:Nat)) >>= _) _ _ _;refine zX6 (oZ h1 h2 h3 Z hT fun hB f1' ZB szB kB=>?_)
 replace hl1:hB.IsList l1 xs:=hl1.at fun o e=>kB _ o (by refine zv _ _ ?_;omega) e
 simp only[z30,z72];rw[yg6];simp only[yf3,List.forIn_nil];refine zX6 (zX6 (zX6 (z48 ?_)));show wpAny _ _ (Builtin.SmallTypes.nextOf (.ref (n:Nat)) >>= _) _ _ _;refine zX6 (wpAny_nextOf_list_end hh ZB.i1 hl1 hx fun h₂ e hs₂ he=>?_);refine hE h₂ e (fun c o hc q=>?_) he;simp only[z3,zY1,zZ3,z23,not_or] at hc;exact hs₂ _ _ hc.1 (kB _ _ hc.2.2.2.2.2 q)
theorem kZ {n l1 l2 l3 k:Nat}{f1 a b c x y z:Value}{xs ys zs:Array Value}{Q:Option Value->Shared->Prop}(h1:l1<n)(h2:l2<n)(h3:l3<n)(Z:vG s.heap n l1 l2 l3 k .none f1 a b c)
  (hl1:s.heap.IsList l1 xs) (hl2:s.heap.IsList l2 ys) (hl3:s.heap.IsList l3 zs) (hx:xs[k]?=some x) (hy:ys[k]?=some y) (hz:zs[k]?=some z)
  (hQ:∀h',vG h' n l1 l2 l3 (k+1) (rawInt s.heap.objs.size) (.bool false) x y z->h'.get? s.heap.objs.size=some (tO3 x y z)->
   (∀c o,c∉z3 n->s.heap.get? c=some o->h'.get? c=some o)->Q (some (.ref s.heap.objs.size)) {s with heap:=h'}):
  wpAny (model prog w) A (pyNext (.ref (n+5:Nat))) Q E s:=by
 have hT:s.TypeIs (.ref (n+5:Nat)) "zip":=⟨_,Z.z,rfl⟩;unfold pyNext;exact zX6 (wpAny_attempt (yd5 (name:=Str.ofString "__next__") hT z61
  (ye4 z61 hT ye0
   (ie h1 h2 h3 Z hl1 hl2 hl3 hx hy hz fun h' a1 a2 a3=>zY8 (hQ h' a1 a2 a3)) (yd6 _))))
theorem iM {n l1 l2 l3 k T:Nat}{f1 a b c x y z:Value}{ot:Obj}{xs ys zs:Array Value}{Q:Option Value->Shared->Prop}(h1:l1<n)(h2:l2<n)(h3:l3<n)(Z:vG s.heap n l1 l2 l3 k (rawInt (T:Nat)) f1 a b c)(hT:s.heap.get? T=some ot)
  (hl1:s.heap.IsList l1 xs) (hl2:s.heap.IsList l2 ys) (hl3:s.heap.IsList l3 zs) (hx:xs[k]?=some x) (hy:ys[k]?=some y) (hz:zs[k]?=some z)
  (hQ:∀h' f1',vG h' n l1 l2 l3 (k+1) (rawInt (T:Nat)) f1' a b c->h'.get? s.heap.objs.size=some (tO3 x y z)->
   (∀c o,c∉z3 n->s.heap.get? c=some o->h'.get? c=some o)->Q (some (.ref s.heap.objs.size)) {s with heap:=h'}):
  wpAny (model prog w) A (pyNext (.ref (n+5:Nat))) Q E s:=by
 have hT':s.TypeIs (.ref (n+5:Nat)) "zip":=⟨_,Z.z,rfl⟩;unfold pyNext;exact zX6 (wpAny_attempt (yd5 (name:=Str.ofString "__next__") hT' z61
  (ye4 z61 hT' ye0
   (df h1 h2 h3 Z hT hl1 hl2 hl3 hx hy hz fun h' f1' a1 a2 a3=>zY8 (hQ h' f1' a1 a2 a3)) (yd6 _))))
theorem cG {n l1 l2 l3 k T:Nat}{f1 a b c:Value}{ot:Obj}{xs:Array Value}{Q:Option Value->Shared->Prop}(hh:A.handled=none)(h1:l1<n)(h2:l2<n)(h3:l3<n)(Z:vG s.heap n l1 l2 l3 k (rawInt (T:Nat)) f1 a b c)(hT:s.heap.get? T=some ot)
  (hl1:s.heap.IsList l1 xs) (hx:xs[k]?=none)
  (hQ:∀h',(∀c o,c∉z3 n->s.heap.get? c=some o->h'.get? c=some o)->Q none {s with heap:=h'}):
  wpAny (model prog w) A (pyNext (.ref (n+5:Nat))) Q E s:=by
 have hT':s.TypeIs (.ref (n+5:Nat)) "zip":=⟨_,Z.z,rfl⟩;unfold pyNext;refine zX6 (wpAny_attempt (yd5 (name:=Str.ofString "__next__") hT' z61
  (ye4 z61 hT' ye0 (bK hh h1 h2 h3 Z hT hl1 hx fun h' e hk he=>?_) (yd6 _))))
 obtain⟨o,ho,hc⟩:=he;refine zX6 (wpAny_isInstance (T:="StopIteration") (b:=true) ⟨o,ho,hc⟩ isSubtype_stop ?_);exact zY8 (hQ _ hk)
end
section
variable {X:Cx}{pins:List (Addr×Obj)}{σ:St}{H:Hp}{s:Shared}
def Tri (H0 H:Hp)(xs ys zs vs:List V)(i:Nat):Prop:=vs.length=i/\∀j,j<i->∃t x y z,vs[j]?=some (.ref t)/\xs[j]?=some x/\ys[j]?=some y/\zs[j]?=some z/\H t=some (.tup [x,y,z])/\H0 t=none
structure ZAt (X:Cx)(pins:List (Addr×Obj))(σ:St)(H:Hp)(n l1 l2 l3:Nat)(S:Addr)(xs ys zs:List V)(i:Nat)(s':Shared):Prop where
 ex:∃(H':Hp) (acc:List Value) (vs:List V) (e:Nat) (f0 f1 a b c:Value),Inv X pins σ H' s'/\(∀a o,H a=some o->H' a=some o)/\s'.heap.get? S=some {cls:=.type "list",dict:=none,data:=.seq acc.toArray e,slots:=#[]}/\H' S=none/\(∀b∈z3 n,H' b=none)/\
  vG s'.heap n l1 l2 l3 i f0 f1 a b c/\(i=0/\f0=.none\/∃(T:Nat) (ot:Obj),f0=rawInt (T:Nat)/\s'.heap.get? T=some ot/\T∉S::z3 n)/\Vals vs acc/\Tri H H' xs ys zs vs i
structure zD5 (X:Cx)(pins:List (Addr×Obj))(σ:St)(H:Hp)(S:Addr)(xs ys zs:List V)(s':Shared):Prop where
 ex:∃(H':Hp) (acc:List Value) (vs:List V) (e:Nat),Inv X pins σ H' s'/\(∀a o,H a=some o->H' a=some o)/\s'.heap.get? S=some {cls:=.type "list",dict:=none,data:=.seq acc.toArray e,slots:=#[]}/\H' S=none/\Vals vs acc/\Tri H H' xs ys zs vs xs.length
theorem Tri.snoc {H0 H H':Hp}{xs ys zs vs:List V}{i:Nat}{t:Addr}{x y z:V}(h:Tri H0 H xs ys zs vs i)(k:∀a o,H a=some o->H' a=some o)(hx:xs[i]?=some x)(hy:ys[i]?=some y)(hz:zs[i]?=some z)(ht:H' t=some (.tup [x,y,z]))(hn:H0 t=none):Tri H0 H' xs ys zs (vs++[.ref t]) (i+1):=by
 refine⟨by rw[z00,h.1];rfl,fun j hj=>?_⟩;rcases z97 j i with z'|z'
 ·obtain⟨t',x',y',z2,e1,e2,e3,e4,e5,e6⟩:=h.2 j z';exact⟨t',x',y',z2,by rw[z58 (by rw[h.1];exact z')];exact e1,e2,e3,e4,k _ _ e5,e6⟩
 ·have:j=i:=by omega
  subst this;exact⟨t,x,y,z,by rw[z88 (by rw[h.1];exact zY2 _),h.1];simp,hx,hy,hz,ht,hn⟩
theorem dQ {A:Around}{R:Result->Shared->Prop}{n l1 l2 l3:Nat}{S:Addr}{xs ys zs:List V}(hh:A.handled=none)(h1:l1<n)(h2:l2<n)(h3:l3<n)(fS:∀H',H' S=none->xH X pins H' S)(fz:∀b∈z3 n,∀H',H' b=none->xH X pins H' b)(hSz:S∉z3 n)
  (q1:SqL X.K H l1 xs) (q2:SqL X.K H l2 ys) (q3:SqL X.K H l3 zs) (e2:ys.length=xs.length) (e3:zs.length=xs.length) (h0:0<xs.length) (hN:xs.length<=1000)
  (hR:∀s',zD5 X pins σ H S xs ys zs s'->R (.ok (.ret .none)) s'):
  ∀(k i:Nat) (s:Shared),xs.length-i=k->i<=xs.length->ZAt X pins σ H n l1 l2 l3 S xs ys zs i s->codeAny (model X.prog X.w) A (.builtin "list.extend.loop" ⟨[.ref S,.ref (n+5:Nat),.none],[]⟩) R s:=by
 have hh':A.in1.handled=none:=hh;intro k
 induction k with
 |zero=>
  intro i s hk hi hst;have hin:i=xs.length:=by omega
  subst hin;obtain⟨H',acc,vs,e,f0,f1,a,b,c,I,st,hS,nS,nz,Z,fr,rv,tr⟩:=hst.ex;refine yc3 PySem.F.entry_extend_loop ?_;rw[z93 z59 _];show wpAny _ A.in1 (pyNext (.ref (n+5:Nat)) >>= _) _ _ s;rcases fr with ⟨z,_⟩|⟨T,ot,rfl,hT,hTn⟩
  ·omega
  obtain⟨its1,rv1,p1,hz1⟩:=I.list (wZ q1 fun a o _ e=>st a o e);refine zX6 (cG hh' h1 h2 h3 Z hT p1.isList (by rw[List.getElem?_toArray,z62];rw[rv1.length];exact zY2 _) fun h' kk=>?_);refine zY8 (hR _ ⟨H',acc,vs,e,I.turnL (t':=s.toks) (ch:=z3 n) (fun b o hb q=>kk b o hb q) (fun b hb=>fz b hb H' (nz b hb)),st,kk _ _ hSz hS,nS,rv,tr⟩)
 |succ k ih=>
  intro i s hk hi hst;have hlt:i<xs.length:=by omega
  obtain⟨H',acc,vs,e,f0,f1,a,b,c,I,st,hS,nS,nz,Z,fr,rv,tr⟩:=hst.ex;refine yc3 PySem.F.entry_extend_loop ?_;rw[z93 z59 _];show wpAny _ A.in1 (pyNext (.ref (n+5:Nat)) >>= _) _ _ s;obtain⟨its1,rv1,p1,hz1⟩:=I.list (wZ q1 fun a o _ e=>st a o e);obtain⟨its2,rv2,p2,hz2⟩:=I.list (wZ q2 fun a o _ e=>st a o e);obtain⟨its3,rv3,p3,hz3⟩:=I.list (wZ q3 fun a o _ e=>st a o e);have gx:xs[i]?=some xs[i]:=zX7 hlt;have gy:ys[i]?=some ys[i]:=zX7 (by omega);have gz:zs[i]?=some zs[i]:=zX7 (by omega);obtain⟨u,hu,ru⟩:=rv1.get gx;obtain⟨v,hv,rv'⟩:=rv2.get gy;obtain⟨w,hw,rw'⟩:=rv3.get gz;have lacc:acc.length=i:=by rw[<-rv.length,tr.1]
  have zlt:∀b∈z3 n,b<s.heap.objs.size:=fun b hb=>by
   have:∃o,s.heap.get? b=some o:=by
    simp only[z3,zY1,zZ3,z23] at hb;obtain⟨o1,q1,_⟩:=Z.i1;obtain⟨o2,q2,_⟩:=Z.i2;obtain⟨o3,q3,_⟩:=Z.i3;rcases hb with rfl|rfl|rfl|rfl|rfl|rfl
    ·exact⟨_,q1⟩
    ·exact⟨_,q2⟩
    ·exact⟨_,q3⟩
    ·exact⟨_,Z.ti⟩
    ·exact⟨_,Z.to⟩
    ·exact⟨_,Z.z⟩
   obtain⟨o,q⟩:=this;exact zY5 q
  have main:∀(h':Heap) (f0' f1' a' b' c':Value),vG h' n l1 l2 l3 (i+1) f0' f1' a' b' c'->(∃(T:Nat) (ot:Obj),f0'=rawInt (T:Nat)/\h'.get? T=some ot/\T∉S::z3 n)->h'.get? s.heap.objs.size=some (tO3 u v w)->
    (∀c o,c∉z3 n->s.heap.get? c=some o->h'.get? c=some o)->wpAny (model X.prog X.w) A.in1 (updateSeq S (·.push (.ref s.heap.objs.size)) >>= fun _=>again (.builtin "list.extend.loop" ⟨[.ref S,.ref (n+5:Nat),.none],[]⟩))
     (fun fin s'=>match fin with|.done f=>R (.ok f) s'|.again c'=>c'.quiet=true/\codeAny (model X.prog X.w) A c' R s') (fun e s'=>R (.error e) s') {s with heap:=h'}:=by
   intro h' f0' f1' a' b' c' Z' ⟨T,ot,hf,hT,hTn⟩ gT kk;have nT:H' s.heap.objs.size=none:=I.hok.fresh (zY2 _);have nT0:H s.heap.objs.size=none:=by
    cases q:H s.heap.objs.size with
    |none=>rfl
    |some o=>rw[st _ _ q] at nT;cases nT
   have stT:∀a o,H' a=some o->upd H' s.heap.objs.size (.tup [xs[i],ys[i],zs[i]]) a=some o:=fun a o q=>by rw[zf (zp q nT)];exact q
   have J:=I.turnLay (t':=s.toks) (h':=h') (ch:=z3 n) (T:=s.heap.objs.size) (o:=.tup [xs[i],ys[i],zs[i]]) kk (fun b hb=>fz b hb H' (nz b hb)) (zY2 _) ⟨by show 3<=sizeLine;decide,[u,v,w],.cons ru (.cons rv' (.cons rw' .nil)),_,gT,rfl,0,rfl⟩;have hS':=kk _ _ hSz hS;have SltS:S<s.heap.objs.size:=zY5 hS;have nS':upd H' s.heap.objs.size (.tup [xs[i],ys[i],zs[i]]) S=none:=by rw[zf (zZ7 SltS)];exact nS
   obtain⟨e',hSn⟩:∃e',(h'.update S (Obj.mapSeq (·.push (Value.ref s.heap.objs.size)))).get? S=some {cls:=.type "list",dict:=none,data:=.seq (acc++[Value.ref s.heap.objs.size]).toArray e',slots:=#[]}:=by
    have:=z76 (c:="list") hS' fun x=>x.push (Value.ref s.heap.objs.size);rw[List.push_toArray] at this;exact⟨_,this⟩
   refine zX6 ?_;refine z68 hS' rfl (zY8 ⟨z90 z59 _,ih (i+1) _ (by omega) hlt ⟨_,acc++[.ref s.heap.objs.size],vs++[.ref s.heap.objs.size],e',f0',f1',a',b',c',
    J.turnL (t':=s.toks) (ch:=[S]) (fun b o hb q=>(z02 _ _ (z22 (by simpa using hb))).trans q) (fun b hb=>by rw[zZ0.mp hb];exact fS _ nS'),fun a o q=>stT _ _ (st a o q),hSn,nS',fun b hb=>?_,?_,.inr ⟨T,ot,hf,?_,hTn⟩,rv.append (.cons (show RelV (.ref s.heap.objs.size) (.ref s.heap.objs.size) from rfl) .nil),tr.snoc stT gx gy gz zj nT0⟩⟩)
    (by rw[zZ1,lacc,z46];omega) (by show (acc.toArray.push _).size<=sizeLine+1;rw[Array.size_push,zZ1,lacc,z46];omega)
   ·rw[zf]
    ·exact nz b hb
    ·exact zZ7 (zlt b hb)
   ·have oth:∀b o,b≠S->h'.get? b=some o->(h'.update S (Obj.mapSeq (·.push (Value.ref s.heap.objs.size)))).get? b=some o:=fun b o hb q=>(z02 _ _ (z22 hb)).trans q;simp only[z3,zY1,zZ3,z23,not_or] at hSz;obtain⟨d1,d2,d3,d4,d5,d6⟩:=hSz;exact⟨oth _ _ (z22 d6) Z'.z,oth _ _ (z22 d4) Z'.ti,oth _ _ (z22 d5) Z'.to,Z'.i1.at fun o q=>oth _ o (z22 d1) q,Z'.i2.at fun o q=>oth _ o (z22 d2) q,Z'.i3.at fun o q=>oth _ o (z22 d3) q⟩
   ·exact (z02 _ _ (fun z=>hTn (by rw[<-z];exact zY6))).trans hT
  rcases fr with ⟨_,rfl⟩|⟨T,ot,rfl,hT,hTn⟩
  ·refine zX6 (kZ h1 h2 h3 Z p1.isList p2.isList p3.isList (by simpa using hu) (by simpa using hv) (by simpa using hw) fun h' Z' gT kk=>?_);refine main h' _ _ _ _ _ Z' ⟨s.heap.objs.size,_,rfl,gT,?_⟩ gT kk;intro z;rcases zY1.mp z with z|z
   ·exact absurd (zY5 hS) (by rw[<-z];exact z47 _)
   ·exact absurd (zlt _ z) (z47 _)
  ·refine zX6 (iM h1 h2 h3 Z hT p1.isList p2.isList p3.isList (by simpa using hu) (by simpa using hv) (by simpa using hw) fun h' f1' Z' gT kk=>?_);exact main h' _ _ _ _ _ Z' ⟨T,ot,rfl,kk _ _ (fun z=>hTn (zY4 _ z)) hT,hTn⟩ gT kk
end
theorem qf (a b c:Value):checkTypeCall "zip" ⟨[a,b,c],[]⟩=pure ():=by kernel_rfl
theorem pQ (a b c:Value):checkBuiltinCall "zip.__new__" ⟨[.type "zip",a,b,c],[]⟩=pure ():=by kernel_rfl
theorem uR (a b c d:Value):argsOk "object.__init__" ⟨[a,b,c,d],[]⟩:=by unfold argsOk;rw[signature?_of (id:="object.__init__") (n:=['_','_','t','i','n','i','_','_']) (o:=['t','c','e','j','b','o']) (by kernel_rfl) PySem.F.owner_object];kernel_rfl
theorem jS :typeLookup (.type "zip") "__len__"=pure none:=by rw[yf6,yb0];kernel_rfl
theorem kK :typeLookup (.type "zip") "__length_hint__"=pure none:=by rw[yf6,yb0];kernel_rfl
noncomputable abbrev itO (l:Addr):Obj:={cls:=.type "list_iterator",data:=.fields #[.ref l,.int 0 0]}
noncomputable abbrev zh3 (h:Heap)(l1 l2 l3:Addr):Heap:=((h.push (itO l1)).push (itO l2)).push (itO l3)
noncomputable abbrev zh4 (h:Heap)(l1 l2 l3:Addr):Heap:=(zh3 h l1 l2 l3).push (tO3 (.ref h.objs.size) (.ref (h.push (itO l1)).objs.size) (.ref ((h.push (itO l1)).push (itO l2)).objs.size))
noncomputable abbrev zh5 (h:Heap)(l1 l2 l3:Addr):Heap:=(zh4 h l1 l2 l3).push (tO3 .none .none .none)
noncomputable abbrev zh6 (h:Heap)(l1 l2 l3:Addr):Heap:=(zh5 h l1 l2 l3).push (zO .none (.bool false) (zh3 h l1 l2 l3).objs.size (zh4 h l1 l2 l3).objs.size)
theorem pA (l1 l2 l3:Addr)(xs ys zs:Array Value):
  Meets (Builtin.«zip.__new__» ⟨[.type "zip",.ref l1,.ref l2,.ref l3],[]⟩) (fun _ R s=>s.heap.IsList l1 xs/\s.heap.IsList l2 ys/\s.heap.IsList l3 zs/\
   R (.ok (.ret (.ref (zh5 s.heap l1 l2 l3).objs.size))) {s with heap:=zh6 s.heap l1 l2 l3}):=
 .of_wp fun prog w A R s h=>by
  obtain⟨hp,g,d,tk,os⟩:=s;obtain⟨hl1,hl2,hl3,h⟩:=h;have hsub:=sub_zip;have hL1:Heap.IsList (Shared.heap ⟨hp,g,d,tk,os⟩) l1 xs:=hl1;have hL2:Heap.IsList (Shared.heap ⟨hp.push {cls:=.type "list_iterator",data:=.fields #[.ref l1,.int 0 0]},g,d,tk,os⟩) l2 ys:=Heap.IsList.push hl2 _;have hL3:Heap.IsList (Shared.heap ⟨(hp.push {cls:=.type "list_iterator",data:=.fields #[.ref l1,.int 0 0]}).push {cls:=.type "list_iterator",data:=.fields #[.ref l2,.int 0 0]},g,d,tk,os⟩) l3 zs:=Heap.IsList.push (Heap.IsList.push hl3 _) _
  wp_walk using z66 hL1,z66 hL2,z66 hL3
  exact⟨_,rfl,h⟩
section
variable {prog:Program}{w:World}{A:Around}{E:Value->Shared->Prop}{s:Shared}
theorem jM {l1 l2 l3:Addr}{xs ys zs:Array Value}{Q:Value->Shared->Prop}(hl1:s.heap.IsList l1 xs)(hl2:s.heap.IsList l2 ys)(hl3:s.heap.IsList l3 zs)
  (h:∀h',vG h' s.heap.objs.size l1 l2 l3 0 .none (.bool false) .none .none .none->h'.objs.size=s.heap.objs.size+6->(∀c o,s.heap.get? c=some o->h'.get? c=some o)->Q (.ref (s.heap.objs.size+5)) {s with heap:=h'}):
  wpAny (model prog w) A (call (.type "zip") [.ref l1,.ref l2,.ref l3]) Q E s:=by
 refine callType_new PySem.F.called_zip (by decide) (qf _ _ _) (pQ _ _ _) (fun obj=>uR obj _ _ _) PySem.F.entry_zip_new
  (pA l1 l2 l3 xs ys zs) ⟨hl1,hl2,hl3,?_⟩
 have z1:(s.heap.push (itO l1)).objs.size=s.heap.objs.size+1:=z49 ..;have z2:((s.heap.push (itO l1)).push (itO l2)).objs.size=s.heap.objs.size+2:=by rw[z49,z1]
 have z3':(zh3 s.heap l1 l2 l3).objs.size=s.heap.objs.size+3:=by rw[z49,z2]
 have z4:(zh4 s.heap l1 l2 l3).objs.size=s.heap.objs.size+4:=by rw[z49,z3']
 have z5:(zh5 s.heap l1 l2 l3).objs.size=s.heap.objs.size+5:=by rw[z49,z4]
 have z6:(zh6 s.heap l1 l2 l3).objs.size=s.heap.objs.size+6:=by rw[z49,z5]
 have g6:(zh6 s.heap l1 l2 l3).get? (zh5 s.heap l1 l2 l3).objs.size=some _:=zY7 _ rfl;have g5:(zh6 s.heap l1 l2 l3).get? (zh4 s.heap l1 l2 l3).objs.size=some _:=zX8 _ (zY7 _ rfl);have g4:(zh6 s.heap l1 l2 l3).get? (zh3 s.heap l1 l2 l3).objs.size=some _:=zX8 _ (zX8 _ (zY7 _ rfl));have g3:(zh6 s.heap l1 l2 l3).get? ((s.heap.push (itO l1)).push (itO l2)).objs.size=some _:=zX8 _ (zX8 _ (zX8 _ (zY7 _ rfl)));have g2:(zh6 s.heap l1 l2 l3).get? (s.heap.push (itO l1)).objs.size=some _:=zX8 _ (zX8 _ (zX8 _ (zX8 _ (zY7 _ rfl))));have g1:(zh6 s.heap l1 l2 l3).get? s.heap.objs.size=some _:=zX8 _ (zX8 _ (zX8 _ (zX8 _ (zX8 _ (zY7 _ rfl)))));show _/\_;rw[z5,z4,z3'] at g6;rw[z4] at g5;rw[z3',z2,z1] at g4;rw[z2] at g3;rw[z1] at g2;rw[z5];exact⟨⟨_,g6,rfl⟩,h _ ⟨g6,g4,g5,⟨_,g1,rfl,rfl⟩,⟨_,g2,rfl,rfl⟩,⟨_,g3,rfl,rfl⟩⟩ z6 fun c o x=>
  zX8 _ (zX8 _ (zX8 _ (zX8 _ (zX8 _ (zX8 _ x)))))⟩
end
section
variable {X:Cx}{pins:List (Addr×Obj)}{σ:St}{H:Hp}{s:Shared}
theorem dO {A:Around}{R:Result->Shared->Prop}{n l1 l2 l3:Nat}{S:Addr}{xs ys zs:List V}(hh:A.handled=none)(h1:l1<n)(h2:l2<n)(h3:l3<n)(I:Inv X pins σ H s)(Z:vG s.heap n l1 l2 l3 0 .none (.bool false) .none .none .none)(hS:s.heap.get? S=some {cls:=.type "list",data:=.seq #[]})
  (nS:H S=none) (nz:∀b∈z3 n,H b=none) (fS:∀H',H' S=none->xH X pins H' S) (fz:∀b∈z3 n,∀H',H' b=none->xH X pins H' b) (hSz:S∉z3 n)
  (q1:SqL X.K H l1 xs) (q2:SqL X.K H l2 ys) (q3:SqL X.K H l3 zs) (e2:ys.length=xs.length) (e3:zs.length=xs.length) (h0:0<xs.length) (hN:xs.length<=1000)
  (hR:∀s',zD5 X pins σ H S xs ys zs s'->R (.ok (.ret .none)) s'):
  wpAny (model X.prog X.w) A.in1 (Builtin.«list.__init__» ⟨[.ref S,.ref (n+5:Nat)],[]⟩)
   (fun fin s'=>match fin with|.done f=>R (.ok f) s'|.again c'=>c'.quiet=true/\codeAny (model X.prog X.w) A c' R s') (fun e s'=>R (.error e) s') s:=by
 have hSz':=hSz;simp only[z3,zY1,zZ3,z23,not_or] at hSz';obtain⟨d1,d2,d3,d4,d5,d6⟩:=hSz';show wpAny _ _ (do let old <-Builtin.List.listItems (.ref S);Builtin.List.listUpdate (.ref S) (fun _=>#[]);letGo old.toList.reverse;Builtin.List.listExtendWith (.ref S) (.ref (n+5:Nat)) .none) _ _ s;refine zX6 ?_;unfold Builtin.List.listItems;refine zX6 (z50 hS rfl (zY8 ?_));show wpAny _ _ (updateSeq S (fun _=>#[]) >>= fun _=>letGo (#[]:Array Value).toList.reverse >>= fun _=>Builtin.List.listExtendWith (.ref S) (.ref (n+5:Nat)) .none) _ _ s;refine zX6 (z68 hS rfl ?_);obtain⟨e',hS₂⟩:∃e',(s.heap.update S (Obj.mapSeq (fun _=>(#[]:Array Value)))).get? S=some {cls:=.type "list",dict:=none,data:=.seq #[] e',slots:=#[]}:=⟨_,z76 (c:="list") hS fun _=>#[]⟩;have oth:∀b o,b≠S->s.heap.get? b=some o->(s.heap.update S (Obj.mapSeq (fun _=>(#[]:Array Value)))).get? b=some o:=
  fun b o hb e=>(z02 _ _ (z22 hb)).trans e
 have Z₂:vG (s.heap.update S (Obj.mapSeq (fun _=>(#[]:Array Value)))) n l1 l2 l3 0 .none (.bool false) .none .none .none:=⟨oth _ _ (z22 d6) Z.z,oth _ _ (z22 d4) Z.ti,oth _ _ (z22 d5) Z.to,Z.i1.at fun o q=>oth _ o (z22 d1) q,Z.i2.at fun o q=>oth _ o (z22 d2) q,Z.i3.at fun o q=>oth _ o (z22 d3) q⟩;refine zX6 (z84 ?_);have I₂:Inv X pins σ H {s with heap:=s.heap.update S (Obj.mapSeq (fun _=>(#[]:Array Value))),toks:=s.toks}:=I.turnL (ch:=[S]) (fun b o hb q=>oth b o (by simpa using hb) q) fun b hb=>by rw[zZ0.mp hb];exact fS H nS
 have hT:({s with heap:=s.heap.update S (Obj.mapSeq (fun _=>(#[]:Array Value)))}:Shared).TypeIs (.ref (n+5:Nat)) "zip":=⟨_,Z₂.z,rfl⟩;unfold Builtin.List.listExtendWith;refine zX6 (wpAny_typeOf hT ?_);have b1:Builtin.List.listSameRef (.ref S) (.ref (n+5:Nat))=false:=by simp[Builtin.List.listSameRef];exact d6
 have b2:(Value.type "zip" == Value.type "list")=false:=by decide
 have b3:(Value.type "zip" == Value.type "tuple")=false:=by decide
 simp only[b1,b2,b3,yb5,z30,z72];refine zX6 (wpAny_pyIter_slot hT PySem.F.slot_zip_iter (ye4 PySem.F.slot_zip_iter hT PySem.F.entry_zip_iter ?_ (PySem.F.args_zip_iter_1 _)));show wpAny _ _ (ret (.ref (n+5:Nat))) _ _ _;refine zY8 ⟨_,rfl,"zip",_,hT,z61.lookup,?_⟩;refine zX6 (z48 ?_);unfold Builtin.List.listLengthHint;refine zX6 (yc2 hT jS ?_);show wpAny _ _ (specialOf (Value.ref (n+5:Nat)) (Str.ofString "__length_hint__") >>= _) _ _ _;refine zX6 (yc2 hT kK ?_);refine zY8 ?_;have key:∀(h:Heap) (e:Nat),h.get? S=some {cls:=.type "list",dict:=none,data:=.seq #[] e,slots:=#[]}->(∀b o,b≠S->s.heap.get? b=some o->h.get? b=some o)->codeAny (model X.prog X.w) A (.builtin "list.extend.loop" ⟨[.ref S,.ref (n+5:Nat),.none],[]⟩) R {s with heap:=h}:=by
  intro h e hS' oth';refine dQ hh h1 h2 h3 fS fz hSz q1 q2 q3 e2 e3 h0 hN hR xs.length 0 _ (by omega) (zZ4 _) ⟨H,[],[],e,.none,.bool false,.none,.none,.none,I.turnL (t':=s.toks) (ch:=[S]) (fun b o hb q=>oth' b o (by simpa using hb) q) (fun b hb=>by rw[zZ0.mp hb];exact fS H nS),fun _ _ e=>e,hS',nS,nz,?_,.inl ⟨rfl,rfl⟩,.nil,rfl,fun j hj=>absurd hj (Nat.not_lt_zero _)⟩;exact⟨oth' _ _ (z22 d6) Z.z,oth' _ _ (z22 d4) Z.ti,oth' _ _ (z22 d5) Z.to,Z.i1.at fun o q=>oth' _ o (z22 d1) q,Z.i2.at fun o q=>oth' _ o (z22 d2) q,Z.i3.at fun o q=>oth' _ o (z22 d3) q⟩
 refine ya4 (fun _=>?_) (fun _=>zY8 ⟨z90 z59 _,key _ _ hS₂ oth⟩);refine zX6 (wpAny_rule ?_);refine zX6 ?_;show wpAny _ _ (updateSeq S (·.push .none) >>= fun _=>updateSeq S (·.pop)) _ _ _;refine zX6 (z68 hS₂ rfl ?_);obtain⟨e3',hS₃⟩:∃e',((s.heap.update S (Obj.mapSeq (fun _=>(#[]:Array Value)))).update S (Obj.mapSeq (·.push Value.none))).get? S=some {cls:=.type "list",dict:=none,data:=.seq #[.none] e',slots:=#[]}:=⟨_,z76 (c:="list") hS₂ fun x=>x.push Value.none⟩;refine z68 (hz:=by seq_fits) hS₃ rfl ?_;obtain⟨e4',hS₄⟩:∃e',(((s.heap.update S (Obj.mapSeq (fun _=>(#[]:Array Value)))).update S (Obj.mapSeq (·.push Value.none))).update S (Obj.mapSeq (·.pop))).get? S=some {cls:=.type "list",dict:=none,data:=.seq #[] e',slots:=#[]}:=⟨_,z76 (c:="list") hS₃ fun x=>x.pop⟩;refine zY8 ⟨z90 z59 _,key _ _ hS₄ fun b o hb e=>?_⟩;exact (z02 _ _ (z22 hb)).trans ((z02 _ _ (z22 hb)).trans (oth b o hb e))
end
section
variable {X:Cx}{pins:List (Addr×Obj)}{σ:St}{H:Hp}{s:Shared}
theorem pG {A:Around}{E:Value->Shared->Prop}{Q:Value->Shared->Prop}{n l1 l2 l3:Nat}{xs ys zs:List V}(hh:A.handled=none)(h1:l1<n)(h2:l2<n)(h3:l3<n)(I:Inv X pins σ H s)(Z:vG s.heap n l1 l2 l3 0 .none (.bool false) .none .none .none)
  (nz:∀b∈z3 n,H b=none) (fz:∀b∈z3 n,∀H',H' b=none->xH X pins H' b)
  (q1:SqL X.K H l1 xs) (q2:SqL X.K H l2 ys) (q3:SqL X.K H l3 zs) (e2:ys.length=xs.length) (e3:zs.length=xs.length) (h0:0<xs.length) (hN:xs.length<=1000)
  (hQ:∀D s',s.heap.objs.size<=D->zD5 X pins σ H D xs ys zs s'->(∀H',H' D=none->xH X pins H' D)->Q (.ref D) s'):
  wpAny (model X.prog X.w) A (call (.type "list") [.ref (n+5:Nat)]) Q E s:=by
 refine callType_codes (Q₁:=fun obj s₁=>obj=.ref s.heap.objs.size/\s₁={s with heap:=s.heap.push {cls:=.type "list",data:=.seq #[]}}) PySem.F.called_list (PySem.F.typeCall_list_1 _) PySem.F.entry_list_init
  (code_list_new _ ⟨rfl,rfl⟩) fun obj s₁ h₁=>?_
 obtain⟨rfl,rfl⟩:=h₁;have hS:(s.heap.push {cls:=.type "list",data:=.seq #[]}).get? s.heap.objs.size=some {cls:=.type "list",data:=.seq #[]}:=zY7 _ rfl;have up:∀b o,s.heap.get? b=some o->(s.heap.push {cls:=.type "list",data:=.seq #[]}).get? b=some o:=fun b o e=>zX8 _ e;have fS:∀H':Hp,H' s.heap.objs.size=none->xH X pins H' s.heap.objs.size:=fun H' h=>I.fpOk (zY2 _) h;have hSz:s.heap.objs.size∉z3 n:=fun hb=>by
  have:∃o,s.heap.get? s.heap.objs.size=some o:=by
   simp only[z3,zY1,zZ3,z23] at hb;obtain⟨o1,q1,_⟩:=Z.i1;obtain⟨o2,q2,_⟩:=Z.i2;obtain⟨o3,q3,_⟩:=Z.i3;rcases hb with z|z|z|z|z|z<;>rw[z]
   ·exact⟨_,q1⟩
   ·exact⟨_,q2⟩
   ·exact⟨_,q3⟩
   ·exact⟨_,Z.ti⟩
   ·exact⟨_,Z.to⟩
   ·exact⟨_,Z.z⟩
  obtain⟨o,q⟩:=this;exact absurd (zY5 q) (z47 _)
 refine⟨⟨_,hS,rfl⟩,PySem.F.args_list_init_2 _ _,dO (A:=A.in1) hh h1 h2 h3 (I.kept (t':=s.toks) up) ⟨up _ _ Z.z,up _ _ Z.ti,up _ _ Z.to,Z.i1.at fun o q=>up _ o q,Z.i2.at fun o q=>up _ o q,Z.i3.at fun o q=>up _ o q⟩ hS (I.hok.fresh (zY2 _)) nz fS fz hSz q1 q2 q3 e2 e3 h0 hN fun s' ze=>⟨rfl,hQ _ s' (zY2 _) ze fS⟩⟩
variable {a b c:Expr}{p p0 pos pos2:Pos}
theorem lH {ta:TA}(hc:X.calm=true)(hgl:Gl X "list")(hml:X.mg "list"=none)(hg:Gl X "zip")(hm:X.mg "zip"=none)(ha:PA X [a,b,c] ta)
  (hs0:starEach [.Call (.Name "zip" p) [a,b,c] [] pos2] X.env=[(false,eval (.Call (.Name "zip" p) [a,b,c] [] pos2) X.env)]:=by rfl)
  (hs:starEach [a,b,c] X.env=(false,eval a X.env)::starEach [b,c] X.env:=by rfl) (hpl:(backTo pos2 (starEach [b,c] X.env)).any (·.1)=false:=by rfl):
  PE X (.Call (.Name "list" p0) [.Call (.Name "zip" p) [a,b,c] [] pos2] [] pos) (fun σ H Q=>ta σ H fun vs H1=>∃(l1 l2 l3:Addr) (xs ys zs:List V),vs=[.ref l1,.ref l2,.ref l3]/\SqL X.K H1 l1 xs/\SqL X.K H1 l2 ys/\SqL X.K H1 l3 zs/\ys.length=xs.length/\zs.length=xs.length/\0<xs.length/\xs.length<=1000/\
   ∀D H' vs,H1 D=none->(∀a o,H1 a=some o->H' a=some o)->H' D=some (.lst vs)->(∃H'',(∀a o,H'' a=some o->a≠D/\H' a=some o)/\Tri H1 H'' xs ys zs vs xs.length)->Q (.ref D) H'):=by
 intro pins s σ H Q I h;refine Call_ (xA I hgl hml boot_list (z24 ?_ hs0 rfl));rw[hs0];show wpAny _ _ (spliced ((false,eval _ X.env)::backTo pos [])) _ _ s;refine Calls.spliced_cons ?_;refine Call_ (xA I hg hm boot_zip (z24 (thn (ha pos2 pins s σ H _ I h) fun us s1 ⟨vs,H1,I1,r1,q1⟩=>?_) hs hpl));obtain⟨l1,l2,l3,xs,ys,zs,e,hq1,hq2,hq3,e2,e3,h0,hN,q⟩:=q1;subst e;obtain⟨u,v,w,rfl,ru,rv,rw'⟩:∃u v w,us=[u,v,w]/\RelV (.ref l1) u/\RelV (.ref l2) v/\RelV (.ref l3) w:=by
  cases r1 with
  |cons a r1=>
   cases r1 with
   |cons b r1=>
    cases r1 with
    |cons c r1=>
     cases r1;exact⟨_,_,_,rfl,a,b,c⟩
 cases (show u=Value.ref l1 from ru);cases (show v=Value.ref l2 from rv);cases (show w=Value.ref l3 from rw');obtain⟨its1,rv1,p1,hz1⟩:=I1.list hq1;obtain⟨its2,rv2,p2,hz2⟩:=I1.list hq2;obtain⟨its3,rv3,p3,hz3⟩:=I1.list hq3;refine jM p1.isList p2.isList p3.isList fun h' Z sz hk=>?_;have lt1:l1<s1.heap.objs.size:=by obtain⟨o,e,_⟩:=p1.isList;exact zY5 e
 have lt2:l2<s1.heap.objs.size:=by obtain⟨o,e,_⟩:=p2.isList;exact zY5 e
 have lt3:l3<s1.heap.objs.size:=by obtain⟨o,e,_⟩:=p3.isList;exact zY5 e
 have le:∀b∈z3 s1.heap.objs.size,s1.heap.objs.size<=b:=fun b hb=>by
  simp only[z3,zY1,zZ3,z23] at hb;have key:∀n b:Nat,(b=n\/b=n+1\/b=n+2\/b=n+3\/b=n+4\/b=n+5)->n<=b:=fun n b h=>by omega
  exact key _ _ hb
 have I2:Inv X pins σ H1 {s1 with heap:=h',toks:=s1.toks}:=I1.kept fun b o e=>hk b o e;refine z34 (Q:=_) (show wpAny _ _ (spliced []) (fun vs s₁=>vs=[]/\s₁={s1 with heap:=h'}) X.xe {s1 with heap:=h'} from zY8 ⟨rfl,rfl⟩) (fun vs s2 hv=>?_) fun _ _ z=>z;obtain⟨rfl,rfl⟩:=hv;refine pG (s:={s1 with heap:=h'}) (I.ok.hd hc) lt1 lt2 lt3 I2 Z (fun b hb=>I1.hok.fresh (le b hb)) (fun b hb H' hn=>I1.fpOk (le b hb) hn) hq1 hq2 hq3 e2 e3 h0 hN fun D s' lD ze fD=>?_;obtain⟨H',acc,vs,e,I',st,hD,nD,rvs,tri⟩:=ze.ex;have nD1:H1 D=none:=I2.hok.fresh lD;have stD:∀a o,H' a=some o->a≠D/\upd H' D (.lst vs) a=some o:=fun a o q=>by
  have n:a≠D:=fun z=>by rw[z,nD] at q;cases q
  exact⟨n,by rw[zf n];exact q⟩
 refine⟨.ref D,upd H' D (.lst vs),I'.adopt (fD H' nD) ⟨?_,acc,e,rvs,hD⟩,rfl,q D _ vs nD1 (fun a o q=>(stD a o (st a o q)).2) zj ⟨H',stD,tri⟩⟩;rw[tri.1,z46];omega
end
noncomputable def zn4 (a b c:PyData):PyData:=.tuple [a,b,c]
noncomputable def xP :List PyData->List PyData->List PyData->List PyData
 |a::as,b::bs,c::cs=>zn4 a b c::xP as bs cs
 |_,_,_=>[]
theorem tV :∀{as bs cs:List PyData},bs.length=as.length->cs.length=as.length->(xP as bs cs).length=as.length
 |[],_,_,_,_=>rfl
 |a::as,b::bs,c::cs,h1,h2=>by rw[xP,zY9,zY9,tV (by simpa using h1) (by simpa using h2)]
theorem sr :∀{as bs cs:List PyData} {j:Nat} {d:PyData},(xP as bs cs)[j]?=some d->∃a b c,as[j]?=some a/\bs[j]?=some b/\cs[j]?=some c/\d=zn4 a b c
 |[],_,_,j,d,h=>by simp[xP] at h
 |a::as,[],_,j,d,h=>by simp[xP] at h
 |a::as,b::bs,[],j,d,h=>by simp[xP] at h
 |a::as,b::bs,c::cs,0,d,h=>by simp[xP] at h;exact⟨a,b,c,rfl,rfl,rfl,h.symm⟩
 |a::as,b::bs,c::cs,j+1,d,h=>by
  obtain⟨x,y,z,e1,e2,e3,e4⟩:=sr (as:=as) (bs:=bs) (cs:=cs) (j:=j) (d:=d) (by simpa[xP] using h);exact⟨x,y,z,by simpa using e1,by simpa using e2,by simpa using e3,e4⟩
theorem gE {G:Hp}:∀{vs:List V} {ds:List PyData},vs.length=ds.length->(∀(j:Nat) d,ds[j]?=some d->∃v,vs[j]?=some v/\AV G v d)->AVs G vs ds
 |[],[],_,_=>.nil
 |v::vs,d::ds,hl,h=>by
  obtain⟨v',e,a⟩:=h 0 d rfl;cases e;exact .cons a (gE (by simpa using hl) fun j d' hd=>h (j+1) d' (by simpa using hd))
section
variable {X:Cx}{α:Ev}{a b c:Expr}{p p0 pos pos2:Pos}
theorem km {Q:List PyData->Prop}(hc:X.calm=true)(hgl:Gl X "list")(hml:X.mg "list"=none)(hg:Gl X "zip")(hm:X.mg "zip"=none)
  (h:EvA X α [a,b,c] fun as=>∃ds es fs,as=[.dat (.list ds),.dat (.list es),.dat (.list fs)]/\es.length=ds.length/\fs.length=ds.length/\0<ds.length/\ds.length<=1000/\Q (xP ds es fs))
  (hs0:starEach [.Call (.Name "zip" p) [a,b,c] [] pos2] X.env=[(false,eval (.Call (.Name "zip" p) [a,b,c] [] pos2) X.env)]:=by rfl)
  (hs:starEach [a,b,c] X.env=(false,eval a X.env)::starEach [b,c] X.env:=by rfl) (hpl:(backTo pos2 (starEach [b,c] X.env)).any (·.1)=false:=by rfl):
  EvL X α (.Call (.Name "list" p0) [.Call (.Name "zip" p) [a,b,c] [] pos2] [] pos) Q:=fun F σ H R m k=>by
 refine⟨_,lH hc hgl hml hg hm yV hs0 hs hpl,?_⟩;refine h F σ H _ m fun as vs H1 q1 t1 k1 rv=>?_;have m1:=m.kz k1 t1;obtain⟨ds,es,fs,rfl,l2,l3,l0,lN,q⟩:=q1;cases rv with
 |cons r1 rv=>
  cases rv with
  |cons r2 rv=>
   cases rv with
   |cons r3 rv=>
    cases rv;obtain⟨a1,xs,rfl,g1,A1⟩:=AV.lst_inv r1;obtain⟨a2,ys,rfl,g2,A2⟩:=AV.lst_inv r2;obtain⟨a3,zs,rfl,g3,A3⟩:=AV.lst_inv r3;have y1:=A1.length;have y2:=A2.length;have y3:=A3.length;refine⟨a1,a2,a3,xs,ys,zs,rfl,SqL.of (zh g1).2,SqL.of (zh g2).2,SqL.of (zh g3).2,by omega,by omega,by omega,by omega,fun D H' vs hD st hD' tr=>?_⟩;obtain⟨H'',sb,tri⟩:=tr;have sm:zz H1 H':=fun a o e=>st a o e;refine k _ _ H' q (t1.same sm) (k1.trans (Kz.of_same sm)) ⟨D,vs,rfl,?_,hD',?_⟩
    ·cases z:H D with
     |none=>rfl
     |some o=>rw[k1 D o z (m.tp.nt (ow0 (m1.fresh hD)))] at hD;cases hD
    ·have gs:zz (Gz F α σ H1) (sub (fun x=>¬Ow F α σ x/\x≠D) H'):=zx fun a o h e=>⟨⟨h,zp e hD⟩,st a o e⟩;refine gE (by rw[tri.1,tV l2 l3];exact y1) fun j d hd=>?_;obtain⟨d1,d2,d3,e1,e2,e3,rfl⟩:=sr hd;have hj:j<xs.length:=by rw[y1];exact (zY0.mp e1).1
     obtain⟨t,x,y,z,f1,f2,f3,f4,f5,f6⟩:=tri.2 j hj;obtain⟨x',ex,ax⟩:=A1.get e1;obtain⟨y',ey,ay⟩:=A2.get e2;obtain⟨z',ez,az⟩:=A3.get e3;rw[f2] at ex;cases ex;rw[f3] at ey;cases ey;rw[f4] at ez;cases ez;obtain⟨nt,ht⟩:=sb t _ f5;exact⟨_,f1,.tup (zH ⟨m1.fresh f6,nt⟩ ht) (.cons (ax.same gs) (.cons (ay.same gs) (.cons (az.same gs) .nil)))⟩
theorem qu :∀{ns:List Int} {its:List Value},Vals (ns.map V.int) its->∃ps:List (Int×Tok),its=ps.map (fun p=>Value.int p.1 p.2)/\ps.map (·.1)=ns
 |[],_,.nil=>⟨[],rfl,rfl⟩
 |n::ns,_,.cons h hs=>by
  obtain⟨ps,e1,e2⟩:=qu hs;obtain⟨t,rfl⟩:=h;exact⟨(n,t)::ps,by rw[e1];rfl,by rw[<-e2];rfl⟩
theorem rY (ps:List (Int×Tok))(k:Nat):numAt ps.toArray k=(ps.map (·.1)).getD k 0:=by
 unfold numAt;rw[List.getElem?_toArray,zX9,zY3]
theorem ub (ps:List (Int×Tok)):∀k,k<=ps.length->preSum (numAt ps.toArray) k=((ps.map (·.1)).take k).sum
 |0,_=>by simp[preSum]
 |k+1,h=>by
  have hk:k<(ps.map (·.1)).length:=by rw[zX5];omega
  rw[preSum,ub ps k (by omega),rY,z44,zX7 hk,List.sum_append,zX9,zX7 hk];simp
def Fits (ns:List Int):Prop:=∀k,k<=ns.length->-(2 ^ 62)<=(ns.take k).sum/\(ns.take k).sum<2 ^ 62
theorem eU (hc:X.calm=true):xI X (.builtin "sum") (fun xs H Q=>∃(l:Addr) (ns:List Int),xs=[.ref l]/\SqL X.K H l (ns.map V.int)/\(∀n∈ns,-(2 ^ 62)<=n/\n<2 ^ 62)/\Fits ns/\Q (.int ns.sum) H):=by
 intro pins s σ H xs us Q I r h;obtain⟨l,ns,rfl,hS,hb,hf,q⟩:=h;obtain⟨u,rfl,rx⟩:=Vals.one r;cases (show u=Value.ref l from rx);obtain⟨its,rv,p,hz⟩:=I.list hS;obtain⟨ps,rfl,rfl⟩:=qu rv;have hl:s.heap.IsList l (intItems ps.toArray):=by
  have:=p.isList
  rwa [show intItems ps.toArray=(ps.map fun p=>Value.int p.1 p.2).toArray by simp[intItems]]
 refine sum_intList (I.ok.hd hc) hl (fun j hj=>?_) fun h' tk t' hk=>?_
 ·have hj':j<ps.length:=by simpa using hj
  have hk:j<(ps.map (·.1)).length:=by rw[zX5];exact hj'
  rw[ub ps (j+1) (by omega),rY,zX9,zX7 hk];have h1:=hb _ (z38 hk);have h2:=hf (j+1) (by omega);refine⟨⟨?_,?_⟩,?_,?_⟩
  ·show -(2 ^ 63)<=(ps.map (·.1))[j];omega
  ·show (ps.map (·.1))[j]<2 ^ 63;omega
  ·omega
  ·omega
 ·rw[show preSum (numAt ps.toArray) ps.toArray.size=(ps.map (·.1)).sum by rw[zZ1,ub ps ps.length (zY2 _),<-zX5 (f:=(·.1)) (as:=ps),z56]];exact⟨.int _,H,I.kept (t':=tk) hk,⟨_,rfl⟩,q⟩
theorem nL {Q:PyData->Prop}{e:Expr}(hc:X.calm=true)(hg:Gl X "sum")(hm:X.mg "sum"=none)(h:EvD X α e fun x=>∃ns:List Int,x=.list (ns.map .int)/\(∀n∈ns,-(2 ^ 62)<=n/\n<2 ^ 62)/\Fits ns/\Q (.int ns.sum))(he:starEach [e] X.env=(false,eval e X.env)::starEach [] X.env:=by rfl):
  EvD X α (.Call (.Name "sum" p) [e] [] pos) Q:=by
 refine wk (eU hc) hg hm boot_sum (zg (h.imp fun x ⟨ns,e1,hb,hf,q⟩=>zt ?_) he) (he:=he);intro F σ H vs R m rv k;subst e1;obtain⟨v,rfl,av⟩:=rv.one;obtain⟨a,xs,rfl,h1,h2⟩:=av.lst_inv;cases h2.ints;exact⟨a,ns,rfl,SqL.of (zh h1).2,hb,hf,k _ _ H q m.tp Kz.refl (.int _)⟩
end
noncomputable def yz :List Int->List Bool->List Int
 |z::zs,b::bs=>if b=true then yz zs bs else z::yz zs bs
 |_,_=>[]
theorem wO :∀{zs:List Int} {bs:List Bool} {z:Int},z∈yz zs bs->z∈zs
 |[],_,z,h=>by simp[yz] at h
 |y::zs,[],z,h=>by simp[yz] at h
 |y::zs,b::bs,z,h=>by
  rw[yz] at h;split at h
  ·exact zY4 _ (wO h)
  ·rcases zY1.mp h with e|h
   ·rw[e];exact zY6
   ·exact zY4 _ (wO h)
theorem ur :∀(zs:List Int) (bs:List Bool),(yz zs bs).length<=zs.length
 |[],_=>by simp[yz]
 |y::zs,[]=>by simp[yz]
 |y::zs,b::bs=>by
  rw[yz];have:=ur zs bs;split
  ·rw[zY9];omega
  ·rw[zY9,zY9];omega
theorem sum_bound :∀{ns:List Int} {m:Int},0<=m->(∀n∈ns,0<=n/\n<=m)->0<=ns.sum/\ns.sum<=ns.length*m
 |[],m,_,_=>by simp
 |n::ns,m,h0,h=>by
  obtain⟨a,b⟩:=sum_bound h0 fun x hx=>h x (zY4 _ hx);have:=h n zY6;rw[z39,zY9,z77,Int.add_mul]
  constructor
  ·omega
  ·simp;omega
theorem jT {ns:List Int}(h:∀n∈ns,0<=n/\n<=1000000000000)(hl:ns.length<=1000):Fits ns:=fun k hk=>by
 obtain⟨a,b⟩:=sum_bound (ns:=ns.take k) (m:=1000000000000) (by decide) fun n hn=>h n (yb4 hn);have:((ns.take k).length:Int)*1000000000000<=1000*1000000000000:=by
  apply Int.mul_le_mul_of_nonneg_right _ (by decide);rw[z04];omega
 omega
noncomputable def wN (p:Nat):PyData->PyData
 |.tuple [a,b,c]=>if p=1 then b else c
 |_=>.none
noncomputable def rE :PyData->Bool
 |.tuple [_,_,.bool b]=>b
 |_=>false
theorem rZ :∀{ds:List PyData} {zs:List Int} {bs:List Bool},zs.length=ds.length->bs.length=ds.length->((xP ds (zs.map .int) (bs.map .bool)).filter fun d=>!rE d).map (wN 1)=(yz zs bs).map .int
 |[],[],[],_,_=>rfl
 |d::ds,z::zs,b::bs,h1,h2=>by
  have ih:=rZ (ds:=ds) (zs:=zs) (bs:=bs) (by simpa using h1) (by simpa using h2);rw[zZ6,zZ6,xP,yz,yb2];cases b with
  |true=>simpa[rE,zn4] using ih
  |false=>simp[rE,zn4,wN];exact ih
def xo (d:PyData)(zs:List Int)(bs:List Bool):Prop:=(d=.none/\bs=List.replicate zs.length false)\/∃many free:Nat,d=.tuple [.int many,.int free]/\vF zs many free zs.length bs
theorem xo.len {d:PyData}{zs:List Int}{bs:List Bool}(h:xo d zs bs):bs.length=zs.length:=by
 rcases h with ⟨_,rfl⟩|⟨_,_,_,h⟩
 ·simp
 ·exact h.1
noncomputable def zJ :List Int->List Bool->Int
 |z::zs,b::bs=>(if b=true then z else 0)+zJ zs bs
 |_,_=>0
theorem uM :∀{zs:List Int} {bs:List Bool},bs.length=zs.length->(yz zs bs).sum=zs.sum-zJ zs bs
 |[],[],_=>by simp[yz,zJ]
 |z::zs,b::bs,h=>by
  have ih:=uM (zs:=zs) (bs:=bs) (by simpa using h);rw[yz,zJ,z39];cases b with
  |true=>rw[if_pos rfl,if_pos rfl,ih];omega
  |false=>rw[if_neg (by decide),if_neg (by decide),z39,ih];omega
theorem uq :∀{zs ys:List Int} {bs cs:List Bool},bs.length=zs.length->zJ (zs++ys) (bs++cs)=zJ zs bs+zJ ys cs
 |[],ys,[],cs,_=>by simp[zJ]
 |z::zs,ys,b::bs,cs,h=>by
  rw[z98,z98,zJ,zJ,uq (by simpa using h)];omega
theorem uT :∀{zs:List Int} {bs:List Bool},(∀b∈bs,b=false)->zJ zs bs=0
 |[],_,_=>by simp[zJ]
 |_::_,[],_=>by simp[zJ]
 |z::zs,b::bs,h=>by
  rw[zJ,h b zY6,uT fun x hx=>h x (zY4 _ hx)];rfl
theorem lF :∀{zs ys:List Int} {bs:List Bool},ys.length=zs.length->(∀i,i<zs.length->zs.getD i 0<=ys.getD i 0)->zJ zs bs<=zJ ys bs
 |[],[],_,_,_=>by simp[zJ]
 |_::_,_::_,[],_,_=>by simp[zJ]
 |z::zs,y::ys,b::bs,hl,h=>by
  have ih:=lF (zs:=zs) (ys:=ys) (bs:=bs) (by simpa using hl) fun i hi=>by
   have:=h (i+1) (by simpa using hi);simpa using this
  have h0:=h 0 (by simp);simp at h0;rw[zJ,zJ];split<;>omega
theorem vv :∀{zs ys:List Int} {bs:List Bool} {d:Int},ys.length=zs.length->ys.sum=zs.sum+d->(∀i,i<zs.length->zs.getD i 0<=ys.getD i 0)->zJ ys bs<=zJ zs bs+d
 |[],[],_,d,_,hs,_=>by simp[zJ] at hs ⊢;omega
 |z::zs,y::ys,[],d,hl,hs,h=>by
  have ih:=vv (zs:=zs) (ys:=ys) (bs:=[]) (d:=d-(y-z)) (by simpa using hl) (by rw[z39,z39] at hs;omega) fun i hi=>by
   have:=h (i+1) (by simpa using hi);simpa using this
  have h0:=h 0 (by simp);simp at h0;have e1:zJ ys []=0:=by cases ys<;>rfl
  have e2:zJ zs []=0:=by cases zs<;>rfl
  rw[e1,e2] at ih;show (0:Int)<=0+d;omega
 |z::zs,y::ys,b::bs,d,hl,hs,h=>by
  have ih:=vv (zs:=zs) (ys:=ys) (bs:=bs) (d:=d-(y-z)) (by simpa using hl) (by rw[z39,z39] at hs;omega) fun i hi=>by
   have:=h (i+1) (by simpa using hi);simpa using this
  have h0:=h 0 (by simp);simp at h0;rw[zJ,zJ];split<;>omega
theorem jk {t:Int}:∀{zs:List Int} {bs cs:List Bool},bs.length=zs.length->cs.length=zs.length->(∀i,i<zs.length->(bs.getD i false=true->zs.getD i 0<=t)/\(bs.getD i false=false->t<=zs.getD i 0))->
  zJ zs bs-t*(bs.count true:Nat)<=zJ zs cs-t*(cs.count true:Nat)
 |[],[],[],_,_,_=>by simp[zJ]
 |z::zs,b::bs,c::cs,h1,h2,h=>by
  have ih:=jk (t:=t) (zs:=zs) (bs:=bs) (cs:=cs) (by simpa using h1) (by simpa using h2) fun i hi=>by
   have:=h (i+1) (by simpa using hi);simpa using this
  have h0:=h 0 (by simp);simp only[List.getD_cons_zero] at h0;rw[zJ,zJ];have eb:t*(((b::bs).count true:Nat):Int)=t*(bs.count true:Nat)+(if b=true then t else 0):=by
   cases b with
   |true=>rw[List.count_cons_self,z77,z71,if_pos rfl];simp
   |false=>rw[List.count_cons_of_ne (by decide),if_neg (by decide)];simp
  have ecc:t*(((c::cs).count true:Nat):Int)=t*(cs.count true:Nat)+(if c=true then t else 0):=by
   cases c with
   |true=>rw[List.count_cons_self,z77,z71,if_pos rfl];simp
   |false=>rw[List.count_cons_of_ne (by decide),if_neg (by decide)];simp
  rw[eb,ecc];generalize t*((bs.count true:Nat):Int)=x at *;generalize t*((cs.count true:Nat):Int)=y at *;cases b with
  |true=>
   have:=h0.1 rfl;cases c<;>simp<;>omega
  |false=>
   have:=h0.2 rfl;cases c<;>simp<;>omega
theorem iJ {zs ms:List Int}{lo many free:Nat}{bs cs:List Bool}(s:tO (zq (lo:Int) many) zs ms)(hz:lo+many<=zs.length)(hb:bs.length=zs.length)(h:∀q,q<many->bs.getD (ms.getD q 0).toNat false=decide (q<free))(f0:0<free)(hf:free<=many)(h0:∀z∈zs,0<=z)
  (hc:cs.length=many) (hn:free<=cs.count true):zJ ((zs.drop lo).take many) ((bs.drop lo).take many)<=zJ ((zs.drop lo).take many) cs:=by
 have hl:ms.length=many:=by rw[s.1.length_eq,zc]
 have lz:((zs.drop lo).take many).length=many:=by rw[z04,z55];omega
 have lb:((bs.drop lo).take many).length=many:=by rw[z04,z55];omega
 have gb:∀a,a<many->((bs.drop lo).take many).getD a false=bs.getD (lo+a) false:=fun a ha=>by rw[zX9,zX9,yc8 ha,ya5]
 have gz:∀a,a<many->((zs.drop lo).take many).getD a 0=zs.getD (lo+a) 0:=fun a ha=>by rw[zX9,zX9,yc8 ha,ya5]
 have up:∀p q,p<q->q<many->zs.getD (ms.getD p 0).toNat 0<=zs.getD (ms.getD q 0).toNat 0:=fun p q hpq hq=>by
  have w:=yc1.mp s.2 p q (by omega) (by omega) hpq;have w:=yd1 (show decide _=false from w);simp only[keyOf] at w;rw[zX9 (l:=ms),zX9 (l:=ms),zX7 (by omega),zX7 (by omega)];simp only[Option.getD_some];omega
 have line:=jk (t:=zs.getD (ms.getD (free-1) 0).toNat 0) (zs:=(zs.drop lo).take many) (bs:=(bs.drop lo).take many) (cs:=cs) (by rw[lb,lz]) (by rw[hc,lz]) fun i hi=>by
  rw[lz] at hi;rw[gb i hi,gz i hi];obtain⟨q,hq,e⟩:=zi3 s (m:=((lo+i:Nat):Int)) (by omega) (by omega);have fq:=h q hq;rw[e,z42] at fq;have eq:zs.getD (lo+i) 0=zs.getD (ms.getD q 0).toNat 0:=by rw[e,z42]
  rw[fq,eq]
  constructor
  ·intro hd;have hd:=z43 hd;by_cases he:q=free-1
   ·rw[he];exact z31 _
   ·exact up q (free-1) (by omega) (by omega)
  ·intro hd;have hd:=yd1 hd;exact up (free-1) q (by omega) hq
 have hcnt:=tK s (by omega) h hf;rw[hcnt] at line;have t0:0<=zs.getD (ms.getD (free-1) 0).toNat 0:=by
  have:=vg s (q:=free-1) (by omega);have hlt:(ms.getD (free-1) 0).toNat<zs.length:=by omega
  rw[zX9 (l:=zs),zX7 hlt];exact h0 _ (z38 _)
 generalize zs.getD (ms.getD (free-1) 0).toNat 0=t at *;have:t*(free:Nat)<=t*(cs.count true:Nat):=ya7 (by omega) t0;omega
theorem oK {zs ys:List Int}{many free free':Nat}{bs cs:List Bool}(mk:vF zs many free zs.length bs)(mk':vF ys many free' ys.length cs)(hl:ys.length=zs.length)(f0:0<free)(hff:free<=free')(hf:free'<=many)(h0:∀z∈zs,0<=z):
  ∀k,k<=zs.length / many->zJ (zs.take (k*many)) (bs.take (k*many))<=zJ (zs.take (k*many)) (cs.take (k*many))
 |0,_=>by simp[zJ]
 |k+1,hk=>by
  obtain⟨ms,s,f⟩:=mk.2.2 k hk;obtain⟨ms',s',f'⟩:=mk'.2.2 k (by rw[hl];exact hk);have hkm:(k+1)*many<=zs.length:=z35 (yb3 _ hk) (Nat.div_mul_le_self _ _);rw[Nat.add_mul,Nat.one_mul] at hkm ⊢;have b1:=mk.1;have c1:=mk'.1;have ih:=oK mk mk' hl f0 hff hf h0 k (by omega);have one:=iJ (cs:=(cs.drop (k*many)).take many) s hkm b1 f f0 (by omega) h0 (by rw[z04,z55];omega) (by rw[tK s' (by omega) f' hf];exact hff);rw[List.take_add,List.take_add,List.take_add,uq (by rw[z04,z04];omega),uq (by rw[z04,z04];omega)];omega
theorem zd8 {zs:List Int}{many free:Nat}{bs:List Bool}(ys:List Int)(hy:ys.length=zs.length)(mk:vF zs many free zs.length bs):zJ ys bs=zJ (ys.take (zs.length / many*many)) (bs.take (zs.length / many*many)):=by
 have hw:=Nat.div_mul_le_self zs.length many;have b1:=mk.1;have e1:zJ ys bs=zJ (ys.take (zs.length / many*many)++ys.drop (zs.length / many*many)) (bs.take (zs.length / many*many)++bs.drop (zs.length / many*many)):=by rw[List.take_append_drop,List.take_append_drop]
 rw[e1,uq (by rw[z04,z04];omega),uT (zs:=ys.drop _) (bs:=bs.drop _) fun b hb=>?_,z99];obtain⟨j,hj,rfl⟩:=z92.mp hb;rw[List.getElem_drop];rw[z55] at hj;have:=mk.2.1 (zs.length / many*many+j) (by omega);rw[zX9,zX7 (by omega)] at this;exact this
theorem aq {zs ys:List Int}{many free free':Nat}{bs cs:List Bool}(mk:vF zs many free zs.length bs)(mk':vF ys many free' ys.length cs)(hl:ys.length=zs.length)(f0:0<free)(hff:free<=free')(hf:free'<=many)(h0:∀z∈zs,0<=z):zJ zs bs<=zJ zs cs:=by
 have e2:=zd8 zs hl.symm mk';rw[hl] at e2;rw[zd8 zs rfl mk,e2];exact oK mk mk' hl f0 hff hf h0 _ (zY2 _)
def mO (d:PyData):Prop:=d=.none\/∃many free:Nat,d=.tuple [.int many,.int free]/\0<free/\free<many/\many<64
theorem uX {many free:Nat}{zs:List Int}{bs:List Bool}(h:xo (.tuple [.int many,.int free]) zs bs):vF zs many free zs.length bs:=by
 rcases h with ⟨h,_⟩|⟨m',f',h,mk⟩
 ·cases h
 ·injection h with h;injection h with h1 h2;injection h2 with h2 _;injection h1 with h1;injection h2 with h2;have e1:m'=many:=by omega
  have e2:f'=free:=by omega
  rw[e1,e2] at mk;exact mk
theorem kN {zs:List Int}{bs:List Bool}(h:xo .none zs bs):zJ zs bs=0:=by
 rcases h with ⟨_,rfl⟩|⟨_,_,h,_⟩
 ·exact uT fun b hb=>(List.mem_replicate.mp hb).2
 ·cases h
theorem jo {d:PyData}{zs ys:List Int}{bs cs:List Bool}{e:Int}(hb:xo d zs bs)(hc:xo d ys cs)(hd:mO d)(hl:ys.length=zs.length)(hs:ys.sum=zs.sum+e)(hle:∀i,i<zs.length->zs.getD i 0<=ys.getD i 0)(h0:∀z∈zs,0<=z)(h1:∀z∈ys,0<=z):
  (yz zs bs).sum<=(yz ys cs).sum/\(yz ys cs).sum<=(yz zs bs).sum+e:=by
 rw[uM hb.len,uM hc.len,hs];rcases hd with rfl|⟨many,free,rfl,f0,fm,_⟩
 ·rw[kN hb,kN hc];have:=vv (bs:=[]) hl hs hle;have e1:zJ ys []=0:=by cases ys<;>rfl
  have e2:zJ zs []=0:=by cases zs<;>rfl
  rw[e1,e2] at this;omega
 ·have mk:=uX hb;have mk':=uX hc;have a1:=aq mk mk' hl f0 (zY2 _) (by omega) h0;have a2:=aq mk' mk hl.symm f0 (zY2 _) (by omega) h1;have a3:=lF (bs:=cs) hl hle;have a4:=vv (bs:=bs) hl hs hle;omega
section
variable {κ:Type}[DecidableEq κ]
noncomputable def sI (kvs:List (κ×V))(k:κ):Option V:=(kvs.find? fun kv=>decide (kv.1=k)).map (·.2)
noncomputable def putK (kvs:List (κ×V))(k:κ)(v:V):List (κ×V):=
 if (kvs.any fun kv=>decide (kv.1=k))=true then kvs.map (fun kv=>if kv.1=k then (kv.1,v) else kv) else kvs++[(k,v)]
theorem tN {p:κ×V}{r:List (κ×V)}{k:κ}(e:p.1=k):sI (p::r) k=some p.2:=by simp[sI,z54,e]
theorem vN {p:κ×V}{r:List (κ×V)}{k:κ}(e:¬p.1=k):sI (p::r) k=sI r k:=by simp[sI,z54,e]
theorem qR (k:κ):∀kvs:List (κ×V),(kvs.any fun kv=>decide (kv.1=k))=(sI kvs k).isSome
 |[]=>rfl
 |p::r=>by
  rw[z89];by_cases e:p.1=k
  ·simp only[tN e,z33 e,yf7,Option.isSome_some]
  ·rw[vN e,z08 e,z91];exact qR k r
theorem vK (kvs:List (κ×V))(k:κ)(v:V):(putK kvs k v).length<=kvs.length+1:=by
 unfold putK;split
 ·rw[zX5];omega
 ·rw[z00,zY9,yc4];omega
theorem uy.isSome_eq {o:Option V}{u:Option Value}(r:uy o u):o.isSome=u.isSome:=by
 cases o with
 |none=>cases u with
  |none=>rfl
  |some _=>exact (show False from r).elim
 |some _=>cases u with
  |none=>exact (show False from r).elim
  |some _=>rfl
theorem KV.val {kvs:List (κ×V)}{vs:List (κ×Value)}(r:KV kvs vs)(k:κ):uy (sI kvs k) (valueAt vs k):=by
 unfold KV at r
 induction r with
 |nil=>exact True.intro
 |@cons p q ps qs h t ih=>
  obtain⟨h1,h2⟩:=h;by_cases e:p.1=k
  ·have e':q.1=k:=h1.symm.trans e;have b:valueAt (q::qs) k=some q.2:=by simp[valueAt,z54,e']
   rw[tN e,b];exact h2
  ·have e':¬q.1=k:=fun z=>e (h1.trans z);have b:valueAt (q::qs) k=valueAt qs k:=by simp[valueAt,z54,e']
   rw[vN e,b];exact ih
theorem KV.any {kvs:List (κ×V)}{vs:List (κ×Value)}(r:KV kvs vs)(k:κ):(kvs.any fun kv=>decide (kv.1=k))=vs.any fun kv=>decide (kv.1=k):=by
 unfold KV at r
 induction r with
 |nil=>rfl
 |cons h t ih=>rw[z89,z89,ih,h.1]
theorem KV.repl {kvs:List (κ×V)}{vs:List (κ×Value)}(r:KV kvs vs)(k:κ){y:V}{u:Value}(ry:RelV y u):
  KV (kvs.map fun kv=>if kv.1=k then (kv.1,y) else kv) (vs.map fun kv=>if kv.1=k then (kv.1,u) else kv):=by
 unfold KV at r ⊢
 induction r with
 |nil=>exact .nil
 |@cons p q ps qs h t ih=>
  rw[zZ6,zZ6];refine .cons ?_ ih;obtain⟨h1,h2⟩:=h;by_cases e:p.1=k
  ·rw[if_pos e,if_pos (h1.symm.trans e)];exact⟨h1,ry⟩
  ·rw[if_neg e,if_neg (fun z=>e (h1.trans z))];exact⟨h1,h2⟩
theorem KV.put {kvs:List (κ×V)}{vs:List (κ×Value)}(r:KV kvs vs)(k:κ){y:V}{u:Value}(ry:RelV y u):KV (putK kvs k y) (stored vs k u):=by
 unfold putK stored;rw[r.any k];by_cases e:(vs.any fun kv=>decide (kv.1=k))=true
 ·rw[if_pos e,if_pos e];exact r.repl k ry
 ·rw[if_neg e,if_neg e];exact Paired.snoc r ⟨rfl,ry⟩
theorem KV.length {kvs:List (κ×V)}{vs:List (κ×Value)}(r:KV kvs vs):kvs.length=vs.length:=Paired.length r
end
theorem oQ {P:Program}{w:World}{k:Key}{u:Value}(r:RelV (kV k) u):(yf P w).is k u=true:=by
 cases k with
 |inl i=>obtain⟨t,e⟩:=(show ∃t,u=Value.int i t from r);subst e;exact lW P w i t
 |inr x=>obtain⟨t,e⟩:=(show ∃t,u=Value.str x t from r);subst e;exact kf P w x t
theorem oF {P:Program}{w:World}:∀{ks:List Key} {us:List Value},Vals (ks.map kV) us->ItemsAre (yf P w) ks us
 |[],_,r=>by rw[yc9] at r;cases r;exact .nil
 |k::ks,_,r=>by
  rw[zZ6] at r;cases r with
  |cons h t=>exact .cons (oQ h) (oF t)
abbrev KT (H:Hp):List (List Key×V)->List (List Key×Addr×Value)->Prop:=Paired fun p q=>p.1=q.1/\H q.2.1=some (.tup (p.1.map kV))/\RelV p.2 q.2.2
theorem KT.val {H:Hp}{kvs:List (List Key×V)}{xs:List (List Key×Addr×Value)}(r:KT H kvs xs)(k:List Key):uy (sI kvs k) ((atKey xs k).map (·.2)):=by
 induction r with
 |nil=>exact True.intro
 |@cons p q ps qs h t ih=>
  obtain⟨h1,_,h2⟩:=h;by_cases e:p.1=k
  ·have e':q.1=k:=h1.symm.trans e;have b:atKey (q::qs) k=some q.2:=by simp[atKey,z54,e']
   rw[tN e,b];exact h2
  ·have e':¬q.1=k:=fun z=>e (h1.trans z);have b:atKey (q::qs) k=atKey qs k:=by simp[atKey,z54,e']
   rw[vN e,b];exact ih
theorem KT.repl {H:Hp}{kvs:List (List Key×V)}{xs:List (List Key×Addr×Value)}(r:KT H kvs xs)(k:List Key){y:V}{u:Value}(ry:RelV y u):
  KT H (kvs.map fun kv=>if kv.1=k then (kv.1,y) else kv) (xs.map (putAt k u)):=by
 induction r with
 |nil=>exact .nil
 |@cons p q ps qs h t ih=>
  rw[zZ6,zZ6];refine .cons ?_ ih;obtain⟨h1,h2,h3⟩:=h;unfold putAt;by_cases e:p.1=k
  ·rw[if_pos e,if_pos (h1.symm.trans e)];exact⟨h1,h2,ry⟩
  ·rw[if_neg e,if_neg (fun z=>e (h1.trans z))];exact⟨h1,h2,h3⟩
theorem KT.put {H:Hp}{kvs:List (List Key×V)}{xs:List (List Key×Addr×Value)}(r:KT H kvs xs)(k:List Key){b:Addr}{y:V}{u:Value}(hb:H b=some (.tup (k.map kV)))(ry:RelV y u):
  KT H (putK kvs k y) (storedH xs k b u):=by
 have e:(kvs.any fun kv=>decide (kv.1=k))=(atKey xs k).isSome:=by rw[qR,(r.val k).isSome_eq,Option.isSome_map]
 unfold putK storedH;rw[e];by_cases q:(atKey xs k).isSome=true
 ·rw[if_pos q,if_pos q];exact r.repl k ry
 ·rw[if_neg q,if_neg q];exact Paired.snoc r ⟨rfl,hb,ry⟩
theorem KT.keeps {H H':Hp}{kvs:List (List Key×V)}{xs:List (List Key×Addr×Value)}(r:KT H kvs xs)(ht:∀b ys,H b=some (.tup ys)->H' b=some (.tup ys)):KT H' kvs xs:=
 Paired.mapP r fun _ _ z=>⟨z.1,ht _ _ z.2.1,z.2.2⟩
section
variable {P:Program}{w:World}{H:Hp}{h:Heap}{a:Addr}
theorem zA1 {u:HO}(ok:HOk P w H h)(e:Rd H a u):zP P w H h a u:=e.ok ok
theorem oI {kvs:List (Key×V)}(ok:HOk P w H h)(e:Rd H a (.dK kvs)):kvs.length<=sizeLine/\(a == sysModules)=false/\∃vs,KV kvs vs/\h.DictOf (yf P w) a vs:=
 show zP P w H h a (.dK kvs) from zA1 ok e
theorem zz3 {kvs:List (Key×V)}(ok:HOk P w H h)(e:H a=some (.dK kvs)):kvs.length<=sizeLine/\(a == sysModules)=false/\∃vs,KV kvs vs/\h.DictOf (yf P w) a vs:=oI ok (.inl e)
theorem qI {ks:List Key}(ok:HOk P w H h)(e:H a=some (.tup (ks.map kV))):(tupleKind (yf P w)).is h ks a:=by
 obtain⟨_,its,r,o,h1,h2,n,h3⟩:=(show zP P w H h a (.tup (ks.map kV)) from ok a _ e);exact⟨o,its.toArray,n,h1,h2,h3,by simpa using oF r⟩
theorem oA {kvs:List (List Key×V)}(ok:HOk P w H h)(e:Rd H a (.dT kvs)):kvs.length<=sizeLine/\(a == sysModules)=false/\
  ∃xs,KT H kvs xs/\h.DictOfH (tupleKind (yf P w)) a xs:=by
 obtain⟨z,y,xs,r,o,es,ep,h1,h2,h3,h4,h5⟩:=(show zP P w H h a (.dT kvs) from zA1 ok e);refine⟨z,y,xs,r,o,es,ep,h1,h2,h3,h4,fun x hx=>?_,h5⟩;have all:∀{l:List (List Key×V)} {m:List (List Key×Addr×Value)},KT H l m->∀x∈m,(tupleKind (yf P w)).is h x.1 x.2.1:=by
  intro l m q
  induction q with
  |nil=>intro x hx;exact nomatch hx
  |@cons p q ps qs hq t ih=>
   intro x hx;rcases zY1.mp hx with e|hx
   ·subst e;exact qI ok (by rw[<-hq.1];exact hq.2.1)
   ·exact ih x hx
 exact all r x hx
theorem zQ5 {kvs:List (List Key×V)}(ok:HOk P w H h)(e:H a=some (.dT kvs)):kvs.length<=sizeLine/\(a == sysModules)=false/\
  ∃xs,KT H kvs xs/\h.DictOfH (tupleKind (yf P w)) a xs:=oA ok (.inl e)
end
def gq (H:Hp)(a:Addr)(y:V)(r:Option V):Prop:=
 (∃kvs k,Rd H a (.dK kvs)/\y=kV k/\r=sI kvs k)\/∃kvs k b,Rd H a (.dT kvs)/\y=.ref b/\H b=some (.tup (k.map kV))/\r=sI kvs k
def zc6 (H:Hp)(a:Addr)(y v:V)(H':Hp):Prop:=
 (∃kvs k,H a=some (.dK kvs)/\y=kV k/\kvs.length<sizeLine/\H'=upd H a (.dK (putK kvs k v)))\/
 ∃kvs k b,H a=some (.dT kvs)/\y=.ref b/\H b=some (.tup (k.map kV))/\kvs.length<sizeLine/\H'=upd H a (.dT (putK kvs k v))
theorem zc6.k {H:Hp}{a:Addr}{kvs:List (Key×V)}{k:Key}{v:V}(e:H a=some (.dK kvs))(hl:kvs.length<sizeLine):zc6 H a (kV k) v (upd H a (.dK (putK kvs k v))):=.inl ⟨kvs,k,e,rfl,hl,rfl⟩
section
variable {X:Cx}{pins:List (Addr×Obj)}{σ:St}{H:Hp}{s:Shared}{a:Addr}{y v:V}{u r:Value}{o:Option V}{A:Around}{E:Value->Shared->Prop}
theorem Inv.big (I:Inv X pins σ H s):sysModules<s.heap.objs.size:=by
 have h:mainGlobals<s.heap.objs.size:=(I.mod.glob.keeps I.bk).lt;exact Nat.lt_trans (by decide) h
theorem eM {Q:Value->Shared->Prop}(hu:A.units+1<cLine)(I:Inv X pins σ H s)(g:gq H a y (some v))(ry:RelV y u)(h:∀w' s',Inv X pins σ H s'->RelV v w'->Q w' s'):
  wpAny (model X.prog X.w) A (getItem (.ref a) u) Q E s:=by
 rcases g with ⟨kvs,k,e,ey,l⟩|⟨kvs,k,b,e,ey,eb,l⟩
 ·subst ey;obtain⟨z,hd,vs,rel,dd⟩:=oI I.hok e;obtain⟨w',hw,rw'⟩:=uy.some_of (v:=v) (o:=valueAt vs k) (by rw[l];exact rel.val k);exact wpAny_getItem_of (oQ ry) dd.mapOf hw (h w' _ (I.tok _) rw')
 ·subst ey;cases (show u=Value.ref b from ry);obtain⟨z,hd,xs,rel,dd⟩:=oA I.hok e;obtain⟨w',hw,rw'⟩:=uy.some_of (v:=v) (o:=(atKey xs k).map (·.2)) (by rw[l];exact rel.val k);obtain⟨p,hp,hp2⟩:=zZ2.mp hw;refine wpAny_getItem_heap (yd2 hu) (qI I.hok eb) dd hp ?_;rw[hp2];exact h w' _ (I.tok _) rw'
theorem zU7 {Q:Value->Shared->Prop}(hu:A.units+1<cLine)(I:Inv X pins σ H s)(g:gq H a y o)(ry:RelV y u)(h:∀s',Inv X pins σ H s'->Q (.bool o.isSome) s'):
  wpAny (model X.prog X.w) A (compareOp .In u (.ref a)) Q E s:=by
 rcases g with ⟨kvs,k,e,ey,l⟩|⟨kvs,k,b,e,ey,eb,l⟩
 ·subst ey;obtain⟨z,hd,vs,rel,dd⟩:=oI I.hok e;refine wpAny_in_of (oQ ry) hd dd.mapOf ?_;rw[<-(rel.val k).isSome_eq,<-l];exact h _ (I.tok _)
 ·subst ey;cases (show u=Value.ref b from ry);obtain⟨z,hd,xs,rel,dd⟩:=oA I.hok e;refine wpAny_in_heap (yd2 hu) (qI I.hok eb) hd dd ?_;have q:=(rel.val k).isSome_eq;rw[Option.isSome_map] at q;rw[<-q,<-l];exact h _ (I.tok _)
theorem zn6 {Q:Value->Shared->Prop}(hu:A.units+1<cLine)(I:Inv X pins σ H s)(g:gq H a y o)(ry:RelV y u)(h:∀s',Inv X pins σ H s'->Q (.bool (!o.isSome)) s'):
  wpAny (model X.prog X.w) A (compareOp .NotIn u (.ref a)) Q E s:=by
 rcases g with ⟨kvs,k,e,ey,l⟩|⟨kvs,k,b,e,ey,eb,l⟩
 ·subst ey;obtain⟨z,hd,vs,rel,dd⟩:=oI I.hok e;refine wpAny_notIn_of (oQ ry) hd dd.mapOf ?_;rw[<-(rel.val k).isSome_eq,<-l];exact h _ (I.tok _)
 ·subst ey;cases (show u=Value.ref b from ry);obtain⟨z,hd,xs,rel,dd⟩:=oA I.hok e;refine wpAny_notIn_heap (yd2 hu) (qI I.hok eb) hd dd ?_;have q:=(rel.val k).isSome_eq;rw[Option.isSome_map] at q;rw[<-q,<-l];exact h _ (I.tok _)
theorem nX {h':Heap}{t':Nat}{ob:HO}(I:Inv X pins σ H s)(mu:Mut (H a))(hs:Heap.SameBut a s.heap h')(he:∃q,h'.get? a=some q)(new:zP X.prog X.w (upd H a ob) h' a ob):
  Inv X pins σ (upd H a ob) {s with heap:=h',toks:=t'}:=
 I.write (x:=a) (e:=a) mu (.inl rfl) (fun b q hb z=>(hs.2 b hb).trans z) he new
theorem zb3 {P:Program}{w:World}{H':Hp}{h':Heap}{kvs:List (Key×V)}{vs:List (Key×Value)}(z:kvs.length<=sizeLine)(hd:(a == sysModules)=false)(rel:KV kvs vs)(dd:h'.DictOf (yf P w) a vs):
  zP P w H' h' a (.dK kvs):=⟨z,hd,vs,rel,dd⟩
theorem cV {H':Hp}{Q:Unit->Shared->Prop}(hu:A.units+1<cLine)(I:Inv X pins σ H s)(g:zc6 H a y v H')(ry:RelV y u)(rv:RelV v r)(h:∀s',Inv X pins σ H' s'->Q () s'):
  wpAny (model X.prog X.w) A (setItem (.ref a) u r) Q E s:=by
 rcases g with ⟨kvs,k,e,ey,l,eH⟩|⟨kvs,k,b,e,ey,eb,l,eH⟩
 ·subst ey eH;obtain⟨z,hd,vs,rel,dd⟩:=zz3 I.hok e;have hz:vs.length<=sizeLine:=by rw[<-rel.length];exact z
  have hl:(putK kvs k v).length<=sizeLine:=by have:=vK kvs k v;omega
  refine wpAny_setItem_pairs (hsz:=hz) (oQ ry) dd fun h' dd' hs=>h _ ?_;have he:∃q,h'.get? a=some q:=let ⟨q,_,_,hq,_⟩:=dd';⟨q,hq⟩;exact nX I (by rw[e];exact True.intro) hs he (zb3 hl hd (rel.put k rv) dd')
 ·subst ey eH;cases (show u=Value.ref b from ry);obtain⟨z,hd,xs,rel,dd⟩:=zQ5 I.hok e;have hz:xs.length<=sizeLine:=by rw[<-Paired.length rel];exact z
  have hl:(putK kvs k v).length<=sizeLine:=by have:=vK kvs k v;omega
  refine wpAny_setItem_heap (hsz:=hz) (yd2 hu) (qI I.hok eb) dd fun h' dd' hs=>h _ ?_;obtain⟨q,es,ep,hq,h2,h3,h4,_,h5⟩:=dd';refine nX I (by rw[e];exact True.intro) hs ⟨q,hq⟩ ⟨hl,hd,_,(rel.put k eb rv).keeps fun c ys ec=>?_,q,es,ep,hq,h2,h3,h4,h5⟩;rw[zf (bA ec e (fun z=>nomatch z))];exact ec
end
section
variable {X:Cx}{pins:List (Addr×Obj)}{σ:St}{H:Hp}{s:Shared}{a:Addr}{kvs:List (Key×V)}{k:Key}{u:Value}{A:Around}{E:Value->Shared->Prop}
end
theorem ja {X:Cx}{pins:List (Addr×Obj)}{σ:St}{H:Hp}{s:Shared}{a:Addr}{y:V}{o:Option V}(I:Inv X pins σ H s)(g:gq H a y o):s.TypeIs (.ref a) "dict":=by
 rcases g with ⟨kvs,k,e,_,_⟩|⟨kvs,k,b,e,_,_,_⟩
 ·obtain⟨_,_,vs,_,dd⟩:=oI I.hok e;exact dd.typeIs
 ·obtain⟨_,_,xs,_,dd⟩:=oA I.hok e;exact dd.typeIs
def zR7 (td ty tv:TE):TS:=fun D σ H=>tv σ H fun v H1=>td σ H1 fun x H2=>ty σ H2 fun y H3=>∃a H4,x=.ref a/\zc6 H3 a y v H4/\D.nx σ H4
section
variable {X:Cx}{o i e value:Expr}{pos pos' tpos:Pos}{td ty tv:TE}
theorem zv3 (hu:X.A.units+1<cLine)(ho:PE X o td)(hi:PE X i ty)(hv:PE X value tv)(hs:swapsWith value (some (.Subscript o i pos')) pos.line X.env=pure false):
  PS X (.Assign [.Subscript o i pos'] value pos) (zR7 td ty tv):=by
 intro pins s σ H D I h;refine wpAny_Assign_Subscript (thn (hv pins s σ H _ I h) fun r s1 ⟨v,H1,I1,rv,q1⟩=>thn (ho pins s1 σ H1 _ I1 q1) fun u s2 ⟨x,H2,I2,rx,q2⟩=>thn (hi pins s2 σ H2 _ I2 q2) fun iv s3 ⟨y,H3,I3,ry,a,H4,ex,g,q3⟩=>?_) hs;subst ex;obtain rfl:u=Value.ref a:=rx;exact cV hu I3 g ry rv fun s4 I4=>⟨σ,H4,I4,q3⟩
end
theorem zj2 {P:Program}{w:World}{H:Hp}(h:Heap)(hb:sysModules<h.objs.size):zP P w H (h.push {cls:=.type "dict",data:=.dict #[]}) h.objs.size (.dK []):=
 ⟨zZ4 _,z80.mpr (z22 (zZ7 hb)),[],.nil,Heap.DictOf.new h⟩
section
variable {X:Cx}{pos:Pos}
end
def gA :List (TE×TE)->St->Hp->(List (V×V)->Hp->Prop)->Prop
 |[],_,H,Q=>Q [] H
 |(tk,tv)::r,σ,H,Q=>tk σ H fun x H1=>tv σ H1 fun y H2=>gA r σ H2 fun ps H3=>Q ((x,y)::ps) H3
abbrev VV :List (V×V)->List (Value×Value)->Prop:=Paired fun p q=>RelV p.1 q.1/\RelV p.2 q.2
def PPs (X:Cx)(pos:Pos)(keys:List (Option Expr))(values:List Expr)(trs:List (TE×TE)):Prop:=
 ∀(pins:List (Addr×Obj)) (s:Shared) (σ:St) (H:Hp) (Q:List (V×V)->Hp->Prop),Inv X pins σ H s->gA trs σ H Q->
  wpAny (model X.prog X.w) X.A (evalPairs (pairTrees keys values X.env pos)) (fun vs s'=>∃ps H',Inv X pins σ H' s'/\VV ps vs/\Q ps H') X.xe s
theorem zt4 {X:Cx}{pos:Pos}:PPs X pos [] [] []:=fun pins s σ H Q I h=>pairTrees_nil_walk ⟨[],H,I,.nil,h⟩
theorem za1 {X:Cx}{pos:Pos}{k v:Expr}{ks:List (Option Expr)}{vs:List Expr}{tk tv:TE}{trs:List (TE×TE)}(hk:PE X k tk)(hv:PE X v tv)(hr:PPs X pos ks vs trs):
  PPs X pos (some k::ks) (v::vs) ((tk,tv)::trs):=fun pins s σ H Q I h=>
 pairTrees_cons_walk (thn (hk pins s σ H _ I h) fun u s1 ⟨x,H1,I1,rx,q1⟩=>thn (hv pins s1 σ H1 _ I1 q1) fun w2 s2 ⟨y,H2,I2,ry,q2⟩=>
  thn (hr pins s2 σ H2 _ I2 q2) fun ws s3 ⟨ps,H3,I3,rel,q3⟩=>⟨(x,y)::ps,H3,I3,.cons ⟨rx,ry⟩ rel,q3⟩)
noncomputable def sJ (kvs more:List (Key×V)):List (Key×V):=more.foldl (fun acc kv=>putK acc kv.1 kv.2) kvs
theorem KV.merge :∀{more:List (Key×V)} {rs:List (Key×Value)} {kvs:List (Key×V)} {vs:List (Key×Value)},KV more rs->KV kvs vs->KV (sJ kvs more) (merged vs rs):=by
 intro more rs kvs vs r;unfold KV at r
 induction r generalizing kvs vs with
 |nil=>intro q;exact q
 |@cons p q ps qs h t ih=>
  intro r0;have e:KV (putK kvs p.1 p.2) (stored vs q.1 q.2):=by
   have:=r0.put p.1 h.2;rw[<-h.1];exact this
  exact ih e
theorem uC :∀(more kvs:List (Key×V)),(sJ kvs more).length<=kvs.length+more.length
 |[],kvs=>by show kvs.length<=kvs.length+0;omega
 |p::r,kvs=>by
  have h1:=uC r (putK kvs p.1 p.2);have h2:=vK kvs p.1 p.2;show (sJ (putK kvs p.1 p.2) r).length<=_;rw[zY9];omega
theorem qY {P:Program}{w:World}:∀{kvs:List (Key×V)} {ws:List (Value×Value)},VV (kvs.map fun kv=>(kV kv.1,kv.2)) ws->∃rs,Carries (yf P w) ws rs/\KV kvs rs
 |[],_,r=>by rw[yc9] at r;cases r;exact⟨[],True.intro,.nil⟩
 |p::kvs,_,r=>by
  rw[zZ6] at r;cases r with
  |@cons a b as bs h t=>
   obtain⟨rs,c,q⟩:=qY (P:=P) (w:=w) t;obtain⟨b1,b2⟩:=b;exact⟨(p.1,b2)::rs,⟨oQ h.1,rfl,c⟩,.cons ⟨rfl,h.2⟩ q⟩
def zL9 (trs:List (TE×TE)):TE:=fun σ H Q=>∀p,H p=none->gA trs σ (upd H p (.dK [])) fun ps H2=>H2 p=some (.dK [])/\∃kvs:List (Key×V),ps=kvs.map (fun kv=>(kV kv.1,kv.2))/\kvs.length<=15/\Q (.ref p) (upd H2 p (.dK (sJ [] kvs)))
theorem zx3 {X:Cx}{pos:Pos}{keys:List (Option Expr)}{values:List Expr}{trs:List (TE×TE)}(h:PPs X pos keys values trs)(hall:keys.all (·.isSome)=true)(hl:keys.length=values.length)(h0:keys≠[])
  (h15:keys.length<=15):PE X (.Dict keys values pos) (zL9 trs):=by
 intro pins s σ H Q I q;have hn:=I.hok.fresh (zY2 s.heap.objs.size);have I1:=I.laid (a:=s.heap.objs.size) (o:=.dK []) (h':=s.heap.push {cls:=.type "dict",data:=.dict #[]}) (t':=s.toks) (fun _ _ q=>zX8 _ q) (zY2 _) (zj2 s.heap I.big);refine wpAny_Dict_walk (knd:=yf X.prog X.w) hall hl h0 h15 (thn (h pins _ σ _ _ I1 (q _ hn)) fun ws s2 ⟨ps,H2,I2,rel,e,kvs,ep,lk,q2⟩=>?_);subst ep;obtain⟨rs,c,rk⟩:=qY (P:=X.prog) (w:=X.w) rel;obtain⟨z,hd,vs0,r0,dd⟩:=zz3 I2.hok e;cases r0;refine⟨rs,c,dd,fun h' dd' hs=>⟨.ref s.heap.objs.size,_,?_,rfl,q2⟩⟩;have hz:(sJ [] kvs).length<=sizeLine:=by
  have h1:=uC kvs [];rw[yc4] at h1;rw[z46];omega
 have he:∃q,h'.get? s.heap.objs.size=some q:=let ⟨q,_,_,hq,_⟩:=dd';⟨q,hq⟩;exact nX I2 (by rw[e];exact True.intro) hs he (zb3 hz hd (rk.merge .nil) dd')
def IsD (H:Hp)(a:Addr):Prop:=(∃kvs,Rd H a (.dK kvs))\/∃kvs,Rd H a (.dT kvs)
theorem zC2 {X:Cx}{pins:List (Addr×Obj)}{σ:St}{H:Hp}{s:Shared}{a:Addr}(I:Inv X pins σ H s)(d:IsD H a):
  s.TypeIs (.ref a) "dict"/\(∀b,Value.ref a=.ref b->∃ob,s.heap.get? b=some ob/\ob.dict=none)/\(a == sysModules)=false:=by
 rcases d with ⟨kvs,e⟩|⟨kvs,e⟩
 ·obtain⟨_,hd,vs,_,dd⟩:=oI I.hok e;refine⟨dd.typeIs,fun b q=>?_,hd⟩;cases q;obtain⟨ob,_,_,h1,h2,_⟩:=dd;exact⟨ob,h1,h2.2.1⟩
 ·obtain⟨_,hd,xs,_,dd⟩:=oA I.hok e;refine⟨dd.typeIs,fun b q=>?_,hd⟩;cases q;obtain⟨ob,_,_,h1,h2,_⟩:=dd;exact⟨ob,h1,h2.2.1⟩
section
variable {X:Cx}{pins:List (Addr×Obj)}{σ:St}{H:Hp}{s:Shared}{a:Addr}{y d:V}{u r:Value}{o:Option V}{A:Around}{E:Value->Shared->Prop}
end
section
variable {X:Cx}{o e f:Expr}{apos cpos:Pos}{td ty tx:TE}
end
section
variable {X:Cx}{pins:List (Addr×Obj)}{σ:St}{H:Hp}{s:Shared}{a:Addr}{kvs:List (Key×V)}{A:Around}{E:Value->Shared->Prop}
end
section
variable {X:Cx}{pins:List (Addr×Obj)}{σ:St}{H:Hp}{s:Shared}{a:Addr}{y:V}{u:Value}{A:Around}{E:Value->Shared->Prop}
end
noncomputable def kEq :PyData->Key->Bool
 |.int i,.inl j=>decide (i=j)
 |.str x,.inr y=>decide (x=y)
 |_,_=>false
theorem pj (k j:Key):kEq (vk k) j=decide (k=j):=by
 cases k<;>cases j<;>simp[kEq,vk]
noncomputable def uV :List (PyData×PyData)->Key->Option PyData
 |[],_=>none
 |(p,d)::r,k=>if kEq p k=true then some d else uV r k
noncomputable def putD (ds:List (PyData×PyData))(k:Key)(d:PyData):List (PyData×PyData):=
 if (uV ds k).isSome=true then ds.map (fun p=>if kEq p.1 k=true then (p.1,d) else p) else ds++[(vk k,d)]
theorem AVk.get {H:Hp}:∀{kvs:List (Key×V)} {ds:List (PyData×PyData)} {k:Key} {d:PyData},AVk H kvs ds->uV ds k=some d->∃v,sI kvs k=some v/\AV H v d
 |_,_,k,d,.nil,e=>by cases e
 |_,_,k,d,.cons (k:=j) h r,e=>by
  unfold uV at e;rw[pj] at e;by_cases z:j=k
  ·rw[z33 z,if_pos rfl] at e;cases e;exact⟨_,tN z,h⟩
  ·rw[z08 z,if_neg (by decide)] at e;rw[vN z];exact AVk.get r e
theorem AVk.none {H:Hp}:∀{kvs:List (Key×V)} {ds:List (PyData×PyData)} {k:Key},AVk H kvs ds->uV ds k=Option.none->sI kvs k=Option.none
 |_,_,k,.nil,e=>rfl
 |_,_,k,.cons (k:=j) h r,e=>by
  unfold uV at e;rw[pj] at e;by_cases z:j=k
  ·rw[z33 z,if_pos rfl] at e;cases e
  ·rw[z08 z,if_neg (by decide)] at e;rw[vN z];exact AVk.none r e
theorem AVk.some_iff {H:Hp}{kvs:List (Key×V)}{ds:List (PyData×PyData)}(h:AVk H kvs ds)(k:Key):(sI kvs k).isSome=(uV ds k).isSome:=by
 cases e:uV ds k with
 |none=>rw[h.none e];rfl
 |some d=>
  obtain⟨v,hv,_⟩:=h.get e;rw[hv];rfl
theorem AVk.length {H:Hp}:∀{kvs:List (Key×V)} {ds:List (PyData×PyData)},AVk H kvs ds->kvs.length=ds.length
 |_,_,.nil=>rfl
 |_,_,.cons _ r=>by rw[zY9,zY9,AVk.length r]
theorem AVk.snoc {H:Hp}{k:Key}{v:V}{d:PyData}(a:AV H v d):∀{kvs:List (Key×V)} {ds:List (PyData×PyData)},AVk H kvs ds->AVk H (kvs++[(k,v)]) (ds++[(vk k,d)])
 |_,_,.nil=>.cons a .nil
 |_,_,.cons h r=>.cons h (AVk.snoc a r)
theorem AVk.repl {H:Hp}{k:Key}{v:V}{d:PyData}(a:AV H v d):∀{kvs:List (Key×V)} {ds:List (PyData×PyData)},AVk H kvs ds->AVk H (kvs.map fun kv=>if kv.1=k then (kv.1,v) else kv) (ds.map fun p=>if kEq p.1 k=true then (p.1,d) else p)
 |_,_,.nil=>.nil
 |_,_,.cons (k:=j) h r=>by
  rw[zZ6,zZ6];show AVk H ((if j=k then (j,v) else (j,_))::_) ((if kEq (vk j) k=true then (vk j,d) else (vk j,_))::_);rw[pj];by_cases z:j=k
  ·rw[if_pos z,z33 z,if_pos rfl];exact .cons a (AVk.repl a r)
  ·rw[if_neg z,z08 z,if_neg (by decide)];exact .cons h (AVk.repl a r)
theorem AVk.put {H:Hp}{kvs:List (Key×V)}{ds:List (PyData×PyData)}{k:Key}{v:V}{d:PyData}(h:AVk H kvs ds)(a:AV H v d):AVk H (putK kvs k v) (putD ds k d):=by
 unfold putK putD;rw[qR,h.some_iff];split
 ·exact h.repl a
 ·exact h.snoc a
theorem AVk.at {H:Hp}:∀{kvs:List (Key×V)} {ds:List (PyData×PyData)} {i:Nat} {p:PyData×PyData},AVk H kvs ds->ds[i]?=some p->∃k v,kvs[i]?=some (k,v)/\p.1=vk k/\AV H v p.2
 |_,_,_,_,.nil,e=>by simp at e
 |_,_,0,_,.cons h _,e=>by simp at e;subst e;exact⟨_,_,rfl,rfl,h⟩
 |_,_,i+1,p,.cons _ r,e=>by
  obtain⟨k,v,h1,h2⟩:=AVk.at (i:=i) (p:=p) r (by simpa using e);exact⟨k,v,by simpa using h1,h2⟩
theorem fJ {H:Hp}(k:Key):AV H (kV k) (vk k):=by cases k with
 |inl i=>exact .int i
 |inr x=>exact .str x
theorem rB {H:Hp}{v:V}{k:Key}(h:AV H v (vk k)):v=kV k:=by
 cases k with
 |inl i=>exact h.int_inv
 |inr x=>exact h.str_inv
theorem AV.dk_inv {H:Hp}{v:V}{ds:List (PyData×PyData)}(h:AV H v (xB ds)):∃a o kvs,v=.ref a/\H a=some (.frz o (.dK kvs))/\AVk H kvs ds:=by
 generalize e:xB ds=d at h;cases h with
 |dk h1 h2=>cases e;exact⟨_,_,_,rfl,h1,h2⟩
 |_=>cases e
theorem cS {H:Hp}{l:Addr}{o:Obj}{u:HO}(h:H l=some (.frz o u)):Plain H l:=by
 first
 |exact trivial
 |(intro v e;rw[h] at e;cases e;exact⟨(fun z=>by cases z),fun ps z=>by cases z⟩)
section
variable {X:Cx}{pins:List (Addr×Obj)}{σ:St}{H:Hp}{s:Shared}{l:Addr}{kvs:List (Key×V)}
def zL6 (X:Cx)(l:Addr):Prop:=∀o u,X.H₀ l≠some (.frz o u)
theorem Inv.fz (I:Inv X pins σ H s)(h:H l=some (.dK kvs)):zL6 X l/\∃o,Inv X pins σ (upd H l (.frz o (.dK kvs))) s:=by
 refine⟨(fun o u z=>by rw[I.base.frzs _ _ _ z] at h;cases h),?_⟩;obtain⟨z,y,vs,r,ob,es,ep,e,c⟩:=(show zP X.prog X.w H s.heap l (.dK kvs) from I.hok l _ h);refine⟨ob,I.write (h':=s.heap) (t':=s.toks) (x:=l) (e:=l) (by rw[h];exact trivial) (.inl rfl) (fun b u _ q=>q) ⟨ob,e⟩ ?_⟩;exact⟨e,z,y,vs,r,ob,es,ep,e,c⟩
theorem Inv.unfz {o:Obj}(hx:zL6 X l)(I:Inv X pins σ H s)(h:H l=some (.frz o (.dK kvs))):Inv X pins σ (upd H l (.dK kvs)) s:=by
 have ne:∀{b:Addr},H b=none->upd H l (.dK kvs) b=none:=fun {b} e=>by rw[zf fun z=>by rw[z,h] at e;cases e];exact e
 refine⟨I.ok,I.os,I.bare,⟨I.base.keep,I.base.slot,fun b ob q n hx'=>ne (I.base.free b ob q n hx'),I.base.there,fun b xs q=>?_,fun b ob u q=>?_,fun b ps q=>?_⟩,I.loc,I.cell,ne I.free,fun x c e=>ne (I.freeC x c e),fun p hp=>?_,fun b u q=>?_,I.len⟩
 ·have:=I.base.tups b xs q;rw[zf fun z=>by rw[z,h] at this;cases this];exact this
 ·rw[zf fun z=>by rw[z] at q;exact hx _ _ q];exact I.base.frzs b ob u q
 ·obtain⟨more,this⟩:=I.base.tbls b ps q;exact⟨more,by rw[zf fun z=>by rw[z,h] at this;cases this];exact this⟩
 ·obtain⟨h1,h2,h3⟩:=I.pin p hp;exact⟨h1,ne h2,h3⟩
 ·have st:∀{b:Addr} {u:HO},zP X.prog X.w H s.heap b u->zP X.prog X.w (upd H l (.dK kvs)) s.heap b u:=fun {b u} x=>x.stay (fun _ _ _ q=>q)
   (fun c e=>by rw[zf fun z=>by rw[z,h] at e;cases e];exact e) fun c xs e=>by rw[zf fun z=>by rw[z,h] at e;cases e];exact e
  by_cases z:b=l
  ·subst z;rw[zj] at q;cases q;obtain⟨_,w⟩:=(show zP X.prog X.w H s.heap b (.frz o (.dK kvs)) from I.hok b _ h);exact st w
  ·rw[zf z] at q;exact st (I.hok b u q)
end
section
variable {X:Cx}{e:Expr}{sts:List Stmt}
theorem zN7 {t:TE}{l:Addr}{kvs:List (Key×V)}(h:PE X e t):PE X e (fun σ H Q=>H l=some (.dK kvs)/\∀o,t σ (upd H l (.frz o (.dK kvs))) fun v H2=>H2 l=some (.frz o (.dK kvs))/\Q v (upd H2 l (.dK kvs))):=by
 intro pins s σ H Q I ⟨hl,q⟩;obtain⟨hx,o,I1⟩:=I.fz hl;refine thn (h pins s σ _ _ I1 (q o)) fun u s1 ⟨v,H2,I2,r,e,q2⟩=>?_;exact⟨v,_,I2.unfz hx e,r,q2⟩
theorem zE0 {t:TS}{l:Addr}{kvs:List (Key×V)}(h:PSs X sts t):PSs X sts (fun D σ H=>H l=some (.dK kvs)/\∀o,t D σ (upd H l (.frz o (.dK kvs)))):=by
 intro pins s σ H D I ⟨hl,q⟩;obtain⟨hx,o,I1⟩:=I.fz hl;exact h pins s σ _ _ I1 (q o)
end
section
variable {X:Cx}{α:Ev}{e a b:Expr}{pos p:Pos}{Q:PyData->Prop}
theorem M.fzk {F:Fr}{σ:St}{H:Hp}{i:Nat}{ds:List (PyData×PyData)}{l:Addr}{kvs:List (Key×V)}{o:Obj}(m:M F α σ H)(hi:α[i]?=some (some (.dic ds)))(hl:σ[i]?=some (some (.ref l)))(hH:H l=some (.dK kvs)):
  M F (α.set i (some (.dat (xB ds)))) σ (upd H l (.frz o (.dK kvs))):=by
 obtain⟨l',kvs',h1,h2,h3,h4,h5⟩:=m.dic i ds hi;rw[hl] at h1;cases h1;rw[hH] at h2;cases h2;have nl:¬Ow F (α.set i (some (.dat (xB ds)))) σ l:=m.gave hi hl rfl fun c z=>by cases z;exact id
 have ol:Ow F α σ l:=.inr ⟨i,_,_,hi,hl,rfl⟩;have gs:zz (Gz F α σ H) (Gz F (α.set i (some (.dat (xB ds)))) σ (upd H l (.frz o (.dK kvs)))):=fun x u e=>by
  obtain⟨z1,z2⟩:=zh (zi6 (b:=.dat (xB ds)) (i:=i) (fun _ _ f=>f) x u e);exact zH z1 (by rw[zf fun z=>(zh e).1 (by rw[z];exact ol)];exact z2)
 have hp:Plain H l:=ph hH;refine⟨by rw[z53];exact m.len,fun j c s e1 e2=>?_,fun j j' c d s t x e1 e2 q1 q2 f1 f2=>?_,fun j r q e j' c s x e1 e2 f=>?_,m.tp.updO h4 hp,fun y u e n=>?_,fun y hy=>?_⟩
 ·rcases yc e1 with ⟨rfl,z⟩|⟨hj,e1'⟩
  ·cases z;rw[hl] at e2;cases e2;exact⟨_,rfl,.dk (zH nl zj) (h3.same gs)⟩
  ·refine (m.ok j c s e1' e2).stay gs (fun y u f e=>?_) rfl fun r q ea k=>⟨k.tp,k.o,k.ok.updO (fun z=>h4 (k.o _ z)) hp,fun y u e n=>?_⟩
   ·obtain⟨w1,w2,_⟩:=m.ft e1' e2 f;refine⟨?_,w1,w2⟩;rw[zf fun z=>hj (m.dj i j _ c _ s l hi e1' hl e2 rfl (by rw[<-z];exact f))];exact e
   ·rw[zf (zp e (m.xd j r q (by rw[<-ea];exact e1') i _ _ l hi hl rfl))];exact k.k y u e n
 ·rcases yc e1 with ⟨rfl,z⟩|⟨hj,e1'⟩
  ·cases z;exact f1.elim
  ·rcases yc e2 with ⟨rfl,z⟩|⟨hj',e2'⟩
   ·cases z;exact f2.elim
   ·exact m.dj j j' c d s t x e1' e2' q1 q2 f1 f2
 ·rcases yc e with ⟨_,z⟩|⟨_,e'⟩
  ·cases z
  ·rcases yc e1 with ⟨rfl,z⟩|⟨hj,e1'⟩
   ·cases z;exact f.elim
   ·exact m.xd j r q e' j' c s x e1' e2 f
 ·rw[zf (zp e h5)];exact m.keep y u e n
 ·rw[zf (fun z=>h4 (by rw[<-z];exact hy))];exact m.oex y hy
theorem M.fzback {F:Fr}{σ:St}{H H2:Hp}{i:Nat}{ds:List (PyData×PyData)}{l:Addr}{kvs:List (Key×V)}{o:Obj}(m:M F α σ H)(hi:α[i]?=some (some (.dic ds)))(hl:σ[i]?=some (some (.ref l)))(hH:H l=some (.dK kvs))
  (t:zM F H2) (k:Kz F (upd H l (.frz o (.dK kvs))) H2):H2 l=some (.frz o (.dK kvs))/\zM F (upd H2 l (.dK kvs))/\Kz F H (upd H2 l (.dK kvs))/\
   ∀x u,¬Ob u->Gz F (α.set i (some (.dat (xB ds)))) σ H2 x=some u->Gz F α σ (upd H2 l (.dK kvs)) x=some u:=by
 obtain⟨l',kvs',h1,h2,h3,h4,h5⟩:=m.dic i ds hi;rw[hl] at h1;cases h1;rw[hH] at h2;cases h2;have e2:H2 l=some (.frz o (.dK kvs)):=k _ _ zj (m.tp.nt h4);have hp:Plain H2 l:=cS e2;refine⟨e2,t.updO h4 hp,fun x u e n=>?_,fun x u hu e=>?_⟩
 ·by_cases z:x=l
  ·subst z;rw[hH] at e;cases e;exact zj
  ·rw[zf z];exact k x u (by rw[zf z];exact e) n
 ·obtain⟨z1,z2⟩:=zh e;have nx:x≠l:=fun z=>by rw[z,e2] at z2;cases z2;exact hu trivial
  refine zH (fun q=>z1 ?_) (by rw[zf nx];exact z2);rcases q with z|⟨j,c,s,q1,q2,f⟩
  ·exact .inl z
  ·by_cases hj:i=j
   ·subst hj;rw[hi] at q1;cases q1;rw[hl] at q2;cases q2;have f':some (V.ref l)=some (.ref x):=f;cases f';exact absurd rfl nx
   ·exact .inr ⟨j,c,s,by rw[rN hj];exact q1,q2,f⟩
theorem zd9 {Q:List PyData->Prop}(i:Nat){ds:List (PyData×PyData)}(hi:α[i]?=some (some (.dic ds)))(h:EvL X (α.set i (some (.dat (xB ds)))) e fun d=>uw d=true/\Q d):EvL X α e Q:=fun F σ H R m k=>by
 obtain⟨l,kvs,h1,h2,h3,h4,h5⟩:=m.dic i ds hi;refine⟨_,zN7 (l:=l) (kvs:=kvs) zk,h2,fun o=>?_⟩;refine h F σ _ _ (m.fzk hi h1 h2) fun d v H' q t kz r=>?_;obtain⟨g1,g2,g3,g4⟩:=m.fzback hi h1 h2 t kz;obtain⟨l',xs,e1,e2,e3,e4⟩:=r;have nl:l'≠l:=fun z=>by rw[z,zj] at e2;cases e2
 rw[zf nl] at e2;refine⟨g1,k d v _ q.2 g2 g3 ⟨l',xs,e1,e2,by rw[zf nl];exact e3,e4.noL (fun x u hu z=>?_) q.1⟩⟩;obtain⟨w1,w2⟩:=zh z;obtain⟨y1,y2⟩:=zh (g4 x u hu (zH w1.1 w2));exact zH ⟨y1,w1.2⟩ y2
theorem zC9 (i:Nat){ds:List (PyData×PyData)}{sts:List Stmt}{E:xi}(hi:α[i]?=some (some (.dic ds)))(h:SvS X (α.set i (some (.dat (xB ds)))) sts E):SvS X α sts E:=fun F σ H D m r=>by
 obtain⟨l,kvs,h1,h2,h3,h4,h5⟩:=m.dic i ds hi;exact⟨_,zE0 (l:=l) (kvs:=kvs) yg,h2,fun o=>h F σ _ D (m.fzk hi h1 h2) r⟩
theorem zw8 (i:Nat){x:Str}{ix:Expr}{ds:List (PyData×PyData)}{p1 p2:Pos}{rest:List Stmt}{E:xi}(hu:X.A.units+1<cLine)(hi:α[i]?=some (some (.dic ds)))(h:EvD X α e fun d=>EvD X α ix fun y=>∃k,y=vk k/\ds.length<1000/\SvS X (α.set i (some (.dic (putD ds k d)))) rest E)
  (hN:X.N[i]?=some x:=by rfl) (hv:Vis X.env.scope x:=by first|exact Or.inl rfl|exact Or.inr (Or.inl rfl)|exact Or.inr (Or.inr rfl)) (hd:(x == ("__debug__":Str))=false:=by decide) (hcd:(x == ("__classdict__":Str))=false:=by decide)
  (hsw:swapsWith e (some (.Subscript (.Name x p1) ix p2)) pos.line X.env=pure false:=by rfl):
  SvS X α (.Assign [.Subscript (.Name x p1) ix p2] e pos::rest) E:=fun F σ H D m r=>by
 obtain⟨l,kvs,h1,h2,h3,h4,h5⟩:=m.dic i ds hi;refine⟨_,zN (zv3 hu (xK hN hv hd hcd) zk zk hsw) yg,?_⟩;refine h F σ H _ m fun d v H1 q1 t1 k1 r1=>?_;have m1:=m.kz k1 t1;refine⟨.ref l,h1,?_⟩;refine q1 F σ H1 _ m1 fun y vy H2 q2 t2 k2 r2=>?_;have m2:=m1.kz k2 t2;obtain⟨k,rfl,hl,q⟩:=q2;cases rB r2;refine⟨l,_,rfl,zc6.k (k2 _ _ (k1 _ _ h2 (m.tp.nt h4)) (m.tp.nt h4)) (by rw[h3.length];exact yS (z63 hl)),?_⟩;exact q F σ _ D (m2.wrC hi h1 (.dk (((h3.same (k1.gz m.tp)).same (k2.gz m1.tp)).put (r1.same (k2.gz m1.tp))))) r
end
section
variable {X:Cx}{α:Ev}{e a b:Expr}{pos p:Pos}{Q:PyData->Prop}
theorem zc1 (h:EvD X α a fun y=>EvD X α b fun d=>∃k,y=vk k/\Q (xB [(vk k,d)])):EvC X α (.Dict [some a] [b] pos) Q:=fun F σ H R m kk=>by
 refine⟨_,zx3 (za1 zk zk zt4) rfl rfl (List.cons_ne_nil _ _) (by show 1<=15;decide),fun l hl=>?_⟩;have s0:zz H (upd H l (.dK [])):=yn hl;have m0:=m.park (Kz.of_same s0) (m.tp.same s0) hl zj (fun _ z=>by cases z);refine h _ σ _ _ m0 fun y vy H1 q1 t1 k1 r1=>?_;have m1:=m0.kz k1 t1;refine q1 _ σ H1 _ m1 fun d v H2 q2 t2 k2 r2=>?_;obtain⟨k,rfl,q⟩:=q2;cases rB r1;have nl:¬Ow F α σ l:=m.fresh hl;have ntl:NT F l:=m.tp.nt (ow0 nl);have e2:H2 l=some (.dK []):=k2 _ _ (k1 _ _ zj ntl) ntl;have tF:zM F H2:=m.tp.re t2 rfl;refine⟨e2,[(k,v)],rfl,by show 1<=15;decide,?_⟩;refine kk _ _ _ q (tF.updO (ow0 nl) (ph e2)) (fun x o e n=>?_) ⟨l,_,rfl,hl,zj,?_⟩
 ·have nx:x≠l:=fun z=>by rw[z,hl] at e;cases e
  rw[zf nx];exact k2 _ _ (k1 _ _ (s0 _ _ e) n) n
 ·refine yZ.dk (kvs:=sJ [] [(k,v)]) ?_;refine AVk.cons (r2.same (zx fun x o h e=>?_)) .nil;have nx:x≠l:=fun z=>h (.inl (.inr z));exact⟨⟨fun z=>h (z.elim (fun z=>.inl (.inl z)) .inr),nx⟩,by rw[zf nx];exact e⟩
end
noncomputable def epO (o:Obj):Nat:=match o.data with
 |.dict _ ep=>ep
 |_=>0
theorem Inv.fzAt {X:Cx}{pins:List (Addr×Obj)}{σ:St}{H:Hp}{s:Shared}{a:Addr}{o:Obj}{kvs:List (Key×V)}(I:Inv X pins σ H s)(h:H a=some (.frz o (.dK kvs))):
  kvs.length<=sizeLine/\(a == sysModules)=false/\∃vs,KV kvs vs/\s.heap.DictAt (yf X.prog X.w) a vs (epO o):=by
 obtain⟨ho,z,y,vs,r,ob,es,ep,e,c1,c2,c3⟩:=(show zP X.prog X.w H s.heap a (.frz o (.dK kvs)) from I.hok a _ h);rw[ho] at e;cases e;have ee:epO o=ep:=by unfold epO;rw[c2]
 rw[ee];exact⟨z,y,vs,r,o,es,ho,c1,c2,c3⟩
theorem KV.at {kvs:List (Key×V)}{vs:List (Key×Value)}(r:KV kvs vs):∀{i:Nat} {k:Key} {v:V},kvs[i]?=some (k,v)->∃u,vs[i]?=some (k,u)/\RelV v u:=by
 unfold KV at r
 induction r with
 |nil=>intro i k v e;simp at e
 |@cons p q ps qs h t ih=>
  intro i k v e;cases i with
  |zero=>
   simp at e;subst e;refine⟨q.2,?_,h.2⟩;have h1:k=q.1:=h.1;rw[h1];rfl
  |succ i=>
   obtain⟨u,h1,h2⟩:=ih (i:=i) (by simpa using e);exact⟨u,by simpa using h1,h2⟩
theorem fL {P:Program}{w:World}{k:Key}{u:Value}(h:(yf P w).is k u=true):RelV (kV k) u:=by
 rcases yk (show qt k u=true from h) with ⟨i,t,rfl,rfl⟩|⟨x,t,rfl,rfl⟩
 ·exact⟨t,rfl⟩
 ·exact⟨t,rfl⟩
noncomputable def Itd (a:Addr)(o:Obj)(kvs:List (Key×V)):It:=⟨fun i H=>H a=some (.frz o (.dK kvs))/\i<kvs.length,fun i H x H'=>H'=H/\∃k v,kvs[i]?=some (k,v)/\x=kV k,fun i H=>H a=some (.frz o (.dK kvs))/\kvs.length<=i⟩
noncomputable def zP8 (a:Addr)(o:Obj)(kvs:List (Key×V)):It:=⟨fun i H=>H a=some (.frz o (.dK kvs))/\i<kvs.length,fun i H x H'=>H'=H/\∃k v,kvs[i]?=some (k,v)/\x=v,fun i H=>H a=some (.frz o (.dK kvs))/\kvs.length<=i⟩
theorem cP {P:Program}{w:World}{K:PySem.W.Frag}{tg:Expr}(a it:Addr)(ob:Obj)(kvs:List (Key×V)):Turn P w K tg (Itd a ob kvs) [it] it (fun i h=>h.IsKeyIter it a i kvs.length (epO ob)) where
 mem:=by simp
 obj:=fun i h st b hb=>by
  have e:b=it:=by simpa using hb
  subst e;obtain⟨o,e,c,d⟩:=st;exact⟨o,e,fun v z=>by rw[d] at z;cases z⟩
 keep:=fun i h h' st k=>st.at fun o e=>k it (by simp) o e
 item:=by
  intro X hP hw hK hc i pins s σ H E I hf st hg;subst hP hw hK;obtain⟨hq,hi⟩:=hg;obtain⟨_,_,vs,rel,dd⟩:=I.fzAt hq;have hl:=rel.length;obtain⟨⟨k,v⟩,hx⟩:∃p,kvs[i]?=some p:=⟨kvs[i],zX7 hi⟩;obtain⟨u,hu,ru⟩:=rel.at hx;obtain⟨f0,f1,f2,f3,f4,f5⟩:=hf it (by simp);rw[hl] at st ⊢;refine wpAny_pyNext_dict_item st dd hu fun key h' hk st' sb=>?_;have I1:Inv X pins σ H {s with heap:=h'}:=I.turned (t':=s.toks) (fun b o hb e=>(sb.2 b hb).trans e) f0 f1 f3 f4 f5;obtain⟨o,e,c,d⟩:=id st';exact⟨key,rfl,oG (s:={s with heap:=h'}) e c d (by decide) ⟨kV k,H,I1,fL hk,⟨rfl,k,v,hx,rfl⟩,st',fun b hb=>(hf b hb).1⟩⟩
 done:=by
  intro X hP hw hK hc i pins s σ H E I hf st hg;subst hP hw hK;obtain⟨hq,hi⟩:=hg;obtain⟨_,_,vs,rel,dd⟩:=I.fzAt hq;have hl:=rel.length;obtain⟨f0,f1,f2,f3,f4,f5⟩:=hf it (by simp);rw[hl] at st;exact wpAny_pyNext_dict_end (I.ok.hd hc) st dd (z62 (by omega)) fun h' eb=>⟨rfl,I.turned (t':=s.toks) (fun b o hb e=>eb b o hb e) f0 f1 f3 f4 f5⟩
 self:=fun _ _ _ _ _ st h=>wpAny_pyIter_keyiter st h
theorem cM {P:Program}{w:World}{K:PySem.W.Frag}{tg:Expr}(a it:Addr)(ob:Obj)(kvs:List (Key×V)):Turn P w K tg (zP8 a ob kvs) [it] it (fun i h=>h.IsValIter it a i kvs.length (epO ob)) where
 mem:=by simp
 obj:=fun i h st b hb=>by
  have e:b=it:=by simpa using hb
  subst e;obtain⟨o,e,c,d⟩:=st;exact⟨o,e,fun v z=>by rw[d] at z;cases z⟩
 keep:=fun i h h' st k=>st.at fun o e=>k it (by simp) o e
 item:=by
  intro X hP hw hK hc i pins s σ H E I hf st hg;subst hP hw hK;obtain⟨hq,hi⟩:=hg;obtain⟨_,_,vs,rel,dd⟩:=I.fzAt hq;have hl:=rel.length;obtain⟨⟨k,v⟩,hx⟩:∃p,kvs[i]?=some p:=⟨kvs[i],zX7 hi⟩;obtain⟨u,hu,ru⟩:=rel.at hx;obtain⟨f0,f1,f2,f3,f4,f5⟩:=hf it (by simp);rw[hl] at st ⊢;refine wpAny_pyNext_values_item st dd hu fun h' st' sb=>?_;have I1:Inv X pins σ H {s with heap:=h'}:=I.turned (t':=s.toks) (fun b o hb e=>(sb.2 b hb).trans e) f0 f1 f3 f4 f5;obtain⟨o,e,c,d⟩:=id st';exact⟨u,rfl,oG (s:={s with heap:=h'}) e c d (by decide) ⟨v,H,I1,ru,⟨rfl,k,v,hx,rfl⟩,st',fun b hb=>(hf b hb).1⟩⟩
 done:=by
  intro X hP hw hK hc i pins s σ H E I hf st hg;subst hP hw hK;obtain⟨hq,hi⟩:=hg;obtain⟨_,_,vs,rel,dd⟩:=I.fzAt hq;have hl:=rel.length;obtain⟨f0,f1,f2,f3,f4,f5⟩:=hf it (by simp);rw[hl] at st;exact wpAny_pyNext_values_end (I.ok.hd hc) st dd (z62 (by omega)) fun h' eb=>⟨rfl,I.turned (t':=s.toks) (fun b o hb e=>eb b o hb e) f0 f1 f3 f4 f5⟩
 self:=fun _ _ _ _ _ st h=>wpAny_pyIter_valiter st h
section
variable {X:Cx}{tg:Expr}
theorem zt8 {l:Expr}{tl:TE}(hl:PE X l tl):PI X tg l (fun σ H R=>tl σ H fun x H1=>∃a o kvs,x=.ref a/\H1 a=some (.frz o (.dK kvs))/\R (Itd a o kvs) H1):=by
 intro pins s σ H R I h;refine thn (hl pins s σ H _ I h) fun v s1 ⟨x,H1,I1,r1,q1⟩=>?_;obtain⟨a,o,kvs,rfl,hq,q⟩:=q1;cases r1;obtain⟨_,hs,vs,rel,dd⟩:=I1.fzAt hq;refine wpAny_pyIter_dict hs dd ?_;refine⟨s1.heap.objs.size,[s1.heap.objs.size],_,_,H1,rfl,I1.kept (t':=s1.toks) fun b o e=>zX8 _ e,cP a _ o kvs,⟨_,zY7 _ rfl,rfl,by rw[rel.length];rfl⟩,fun b hb=>?_,q⟩;have e:b=s1.heap.objs.size:=by simpa using hb
 subst e;exact I1.fpOk (zY2 _) (I1.hok.fresh (zY2 _))
theorem zv1 {l:Expr}{tl:TE}{apos cpos:Pos}(hl:PE X l tl)(hbase:attributeBase l "values" X.env (eval l X.env)=eval l X.env:=by rfl)(hline:(apos.endLine == cpos.line)=true:=by rfl):
  PI X tg (.Call (.Attribute l "values" apos) [] [] cpos) (fun σ H R=>tl σ H fun x H1=>∃a o kvs,x=.ref a/\H1 a=some (.frz o (.dK kvs))/\R (zP8 a o kvs) H1):=by
 intro pins s σ H R I h;refine wpAny_Call_method0_late hbase hline (thn (hl pins s σ H _ I h) fun v s1 ⟨x,H1,I1,r1,q1⟩=>?_);obtain⟨a,o,kvs,rfl,hq,q⟩:=q1;cases r1;obtain⟨_,hs,vs,rel,dd⟩:=I1.fzAt hq;obtain⟨hT,hD,_⟩:=zC2 I1 (.inl ⟨kvs,.inr ⟨o,hq⟩⟩);refine⟨"dict","dict.values",PySem.F.plainAttrs_dict,PySem.F.slot_dict_values,PySem.F.type_dict_values,hT,hD,Calls.callWith_builtin rfl (PySem.evalArgs_none ?_)⟩;refine call_meetsIn PySem.F.slot_dict_values hT PySem.F.entry_dict_values (PySem.F.args_dict_values_1 _) (meets_dict_values (yf X.prog X.w) a hs) ⟨⟨vs,dd.dictOf⟩,?_⟩;have I2:Inv X pins σ H1 {s1 with heap:=s1.heap.push {cls:=.type "dict_values",data:=.fields #[.ref a]}}:=I1.kept (t':=s1.toks) fun b o e=>zX8 _ e;refine wpAny_pyIter_values (v:=s1.heap.objs.size) ⟨_,zY7 _ rfl,rfl,rfl⟩ (dd.push _) ?_;refine⟨(s1.heap.push {cls:=.type "dict_values",data:=.fields #[.ref a]}).objs.size,[(s1.heap.push {cls:=.type "dict_values",data:=.fields #[.ref a]}).objs.size],_,_,H1,rfl,I2.kept (t':=s1.toks) fun b o e=>zX8 _ e,cM a _ o kvs,⟨_,zY7 _ rfl,rfl,by rw[rel.length];rfl⟩,fun b hb=>?_,q⟩;have e:b=(s1.heap.push {cls:=.type "dict_values",data:=.fields #[.ref a]}).objs.size:=by simpa using hb
 subst e;exact I2.fpOk (zY2 _) (I2.hok.fresh (zY2 _))
end
section
variable {X:Cx}{α:Ev}{e a b tg:Expr}{pos p:Pos}{Q:List PyData->Prop}
theorem zu6 (h:EvD X α e fun x=>∃ds,x=xB ds/\Q (ds.map (·.1))):EvI X α tg e Q:=fun F σ H R m k=>by
 refine⟨_,zt8 zk,?_⟩;refine h F σ H _ m fun x vx H1 q1 t1 k1 r1=>?_;obtain⟨ds,rfl,q⟩:=q1;obtain⟨a,o,kvs,rfl,g1,g2⟩:=r1.dk_inv;refine⟨a,o,kvs,rfl,(zh g1).2,k _ _ H1 q t1 k1 fun i H2 pq s=>⟨fun d hd=>?_,fun hl=>?_⟩⟩
 ·rw[zY3,zZ2] at hd;obtain⟨pr,hp,rfl⟩:=hd;obtain⟨kk,v,w1,w2,w3⟩:=g2.at hp;refine⟨⟨(zh (s _ _ g1)).2,(zY0.mp w1).1⟩,fun x H3 y=>?_⟩;obtain⟨rfl,k',v',z1,rfl⟩:=y;rw[w1] at z1;cases z1;refine⟨zz.refl _,fun _=>?_⟩;rw[w2];exact fJ _
 ·rw[zX5] at hl;exact⟨(zh (s _ _ g1)).2,by rw[g2.length];exact hl⟩
theorem zs9 {apos cpos:Pos}(h:EvD X α e fun x=>∃ds,x=xB ds/\Q (ds.map (·.2)))(hbase:attributeBase e "values" X.env (eval e X.env)=eval e X.env:=by rfl)(hline:(apos.endLine == cpos.line)=true:=by rfl):
  EvI X α tg (.Call (.Attribute e "values" apos) [] [] cpos) Q:=fun F σ H R m k=>by
 refine⟨_,zv1 zk hbase hline,?_⟩;refine h F σ H _ m fun x vx H1 q1 t1 k1 r1=>?_;obtain⟨ds,rfl,q⟩:=q1;obtain⟨a,o,kvs,rfl,g1,g2⟩:=r1.dk_inv;refine⟨a,o,kvs,rfl,(zh g1).2,k _ _ H1 q t1 k1 fun i H2 pq s=>⟨fun d hd=>?_,fun hl=>?_⟩⟩
 ·rw[zY3,zZ2] at hd;obtain⟨pr,hp,rfl⟩:=hd;obtain⟨kk,v,w1,w2,w3⟩:=g2.at hp;refine⟨⟨(zh (s _ _ g1)).2,(zY0.mp w1).1⟩,fun x H3 y=>?_⟩;obtain⟨rfl,k',v',z1,rfl⟩:=y;rw[w1] at z1;cases z1;exact⟨zz.refl _,fun _=>w3.same s⟩
 ·rw[zX5] at hl;exact⟨(zh (s _ _ g1)).2,by rw[g2.length];exact hl⟩
theorem qT (hc:X.calm=true):xI X (.type "list") (fun xs H Q=>∃a o kvs,xs=[.ref a]/\H a=some (.frz o (.dK kvs))/\∀l,H l=none->Q (.ref l) (upd H l (.lst (kvs.map fun p=>kV p.1)))):=by
 intro pins s σ H xs us Q I r h;obtain⟨a,o,kvs,rfl,hq,q⟩:=h;obtain⟨u,rfl,rx⟩:=vals1 r;cases rx;obtain⟨hz,hs,vs,rel,dd⟩:=I.fzAt hq;refine PySem.W.kdl_call (PySem.W.kdl_dict hs) (I.ok.hd hc) dd (by rw[<-rel.length];exact hz) fun h' tk acc' c' kp e it=>?_;refine⟨.ref s.heap.objs.size,_,I.laid (t':=tk) kp (zY2 _) (show zP X.prog X.w _ h' _ (.lst (kvs.map fun p=>kV p.1)) from ⟨by rw[zX5];exact hz,acc'.toList,c',?_,by simpa using e⟩),rfl,q _ (I.hok.fresh (zY2 _))⟩;have key:∀{as:List V} {bs:List Value},as.length=bs.length->(∀(j:Nat) x,as[j]?=some x->∃u,bs[j]?=some u/\RelV x u)->Vals as bs:=by
  intro as
  induction as with
  |nil=>intro bs h1 _;cases bs with|nil=>exact .nil|cons _ _=>simp at h1
  |cons x as ih=>
   intro bs h1 h2;cases bs with
   |nil=>simp at h1
   |cons y bs=>
    obtain⟨u,z1,z2⟩:=h2 0 x rfl;simp at z1;subst z1;exact .cons z2 (ih (by simpa using h1) fun j x' hx=>by simpa using h2 (j+1) x' (by simpa using hx))
 refine key (by rw[zX5,rel.length,yf9];exact it.1.symm) fun j x hx=>?_;rw[zY3,zZ2] at hx;obtain⟨⟨k,v⟩,h1,rfl⟩:=hx;obtain⟨w',h2,_⟩:=rel.at h1;have hj:j<acc'.size:=by rw[it.1];exact (zY0.mp h2).1
 obtain⟨k',x',z1,z2⟩:=it.2 j acc'[j] (by simp[hj]);rw[h2] at z1;cases z1;exact⟨acc'[j],by simp[hj],fL z2⟩
theorem lE {H G:Hp}:∀{kvs:List (Key×V)} {ds:List (PyData×PyData)},AVk H kvs ds->AVs G (kvs.map fun p=>kV p.1) (ds.map (·.1))
 |_,_,.nil=>.nil
 |_,_,.cons h r=>.cons (fJ _) (lE r)
theorem zj7 (hc:X.calm=true)(hg:Gl X "list")(hm:X.mg "list"=none)(h:EvD X α e fun x=>∃ds,x=xB ds/\Q (ds.map (·.1)))(he:starEach [e] X.env=(false,eval e X.env)::starEach [] X.env:=by rfl):
  EvL X α (.Call (.Name "list" p) [e] [] pos) Q:=fun F σ H R m k=>by
 refine⟨_,wR (qT hc) hg hm boot_list (zd zk zu he) (he:=he),?_⟩;refine h F σ H _ m fun x vx H1 q1 t1 k1 r1=>?_;obtain⟨ds,rfl,q⟩:=q1;have m1:=m.kz k1 t1;obtain⟨a,o,kvs,rfl,g1,g2⟩:=r1.dk_inv;refine⟨a,o,kvs,rfl,(zh g1).2,fun l hl=>?_⟩;obtain⟨w1,w2,w3⟩:=m1.lay hl (lE (G:=Gz F α σ H1) g2);exact k _ _ _ q w1 (k1.trans w2) (w3.back m k1 t1)
end
mutual
noncomputable def ltD :PyData->PyData->Option Bool
 |.int a,.int b=>some (decide (a<b))
 |.str a,.str b=>some (decide (a.cps.toList<b.cps.toList))
 |.tuple xs,.tuple ys=>jW xs ys
 |_,_=>none
noncomputable def jW :List PyData->List PyData->Option Bool
 |[],[]=>some false
 |[],_::_=>some true
 |_::_,[]=>some false
 |x::xs,y::ys=>if PyData.eqv x y=true then jW xs ys else ltD x y
end
def zD7 (A:Around)(s:Shared)(x y:PyData):Prop:=∀(v u:Value) (as bs:List Addr) (r:Bool),Reads s.heap v x as->Reads s.heap u y bs->x.canLay0=true->y.canLay0=true->ltD x y=some r->
 ∀(prog:Program) (w:World) (E:Value->Shared->Prop) (Q:Value->Shared->Prop),Q (.bool r) s->wpAny (model prog w) A (richCompare .Lt v u) Q E s
section
open PySem.SeqAt
open PySem.AutoSeq1 (wpAny_loadPart')
open PySem.MeetsSeq PySem.MeetsSeq2 PySem.MeetsSeq3
theorem zG8 (l b:Addr)(items items2:Array Value)(n n2:Nat)(dd dd2:Option Addr)(sl sl2:Array (Option Value))(xs ys:List PyData)(z:Bool)(hz0:jW xs ys=some z)(hcx:PyData.canLayAll0 xs=true)(hcy:PyData.canLayAll0 ys=true):
  Meets (Builtin.«tuple.__lt__» ⟨[.ref l,.ref b],[]⟩)
   (fun A R s=>s.heap.get? l=some {cls:=.type "tuple",dict:=dd,data:=.seq items n,slots:=sl}/\s.heap.get? b=some {cls:=.type "tuple",dict:=dd2,data:=.seq items2 n2,slots:=sl2}/\
    (∃as bs,ReadsAll s.heap items.toList xs as/\ReadsAll s.heap items2.toList ys bs)/\A.units+1+PyData.depthAll xs<cLine/\(∀x∈xs,∀y,zD7 A.in1 s x y)/\R (.ok (.ret (.bool z))) s):=
 .of_wp fun prog w A R s h=>by
  obtain⟨hp,g,d,tk,os⟩:=s;obtain⟨hl,hb,⟨as,bs,r1,r2⟩,hu,hlt,h⟩:=h;have f2:=AutoSeq1.sub_tuple_tuple;have z1:items.size=xs.length:=by simpa using SeqAt.ReadsAll.length _ _ _ r1
  have z2:items2.size=ys.length:=by simpa using SeqAt.ReadsAll.length _ _ _ r2
  wp_walk using yf2 hl,yf2 hb,wpAny_forIn_list _ (fun rest b s'=>b.1=none/\s'=⟨hp,g,d,tk,os⟩/\∃(vs ws:List Value) (xs' ys':List PyData) (as' bs':List Addr),rest=vs.zip ws/\
   ReadsAll hp vs xs' as'/\ReadsAll hp ws ys' bs'/\xs'.length+items2.size=ys'.length+items.size/\jW xs' ys'=some z/\PyData.canLayAll0 xs'=true/\PyData.canLayAll0 ys'=true/\(∀x∈xs',x∈xs)) _
  case turn=>
   rintro⟨y,x⟩ rest b s' ⟨hb',rfl,vs,ws,xs',ys',as',bs',hz,q1,q2,hlen,hR,c1,c2,hin⟩;cases q1 with
   |nil=>rw[List.zip_nil_left] at hz;cases hz
   |@cons v vs' d0 ds0 a1 a2 p1 q1'=>
    cases q2 with
    |nil=>rw[List.zip_nil_right] at hz;cases hz
    |@cons u us' e0 es0 b1 b2 p2 q2'=>
     rw[List.zip_cons_cons] at hz;injection hz with hyx hrest;injection hyx with hy hx;subst hy hx;simp only[PyData.canLayAll0,zZ9] at c1 c2;have hd:d0.depth<=PyData.depthAll xs:=by
      have hm:=hin d0 zY6;clear hlt hin h r1 hz0 hcx z1
      induction xs with
      |nil=>cases hm
      |cons a as ih=>
       simp only[PyData.depthAll];rcases zY1.mp hm with rfl|hm
       ·exact Nat.le_max_left _ _
       ·refine z35 (ih ?_ hm) (Nat.le_max_right _ _);simp only[PyData.depthAll] at hu;have:=Nat.le_max_right a.depth (PyData.depthAll as);omega
     have hm:min d0.depth e0.depth<=d0.depth:=Nat.min_le_left _ _;have he:=SeqAt.eqAt_reads d0 e0 A.in1 ⟨hp,g,d,tk,os⟩ _ _ _ _ p1 p2 c1.1 c2.1 (by show A.units+1+min d0.depth e0.depth<cLine;omega);simp only[zY9] at hlen;unfold jW at hR;refine zX6 (he prog w _ _ ?_);cases e:PyData.eqv d0 e0 with
     |true=>
      rw[e,if_pos rfl] at hR
      wp_walk
      exact⟨rfl,rfl,_,_,_,_,_,_,hrest,q1',q2',by omega,hR,c1.2,c2.2,fun x hx=>hin x (zY4 _ hx)⟩
     |false=>
      rw[e,if_neg (by decide)] at hR;have hri:=fun E Q hq=>hlt d0 (hin d0 zY6) e0 _ _ _ _ z p1 p2 c1.1 c2.1 hR prog w E Q hq
      wp_walk using hri
      exact⟨_,rfl,by simpa using h⟩
  case fin=>
   rintro⟨b1,b2⟩ s' ⟨hb',rfl,vs,ws,xs',ys',as',bs',hz,q1,q2,hlen,hR,c1,c2,hin⟩;simp only at hb';subst hb';have hv:z=decide (items.size<items2.size):=by
    cases q1 with
    |nil=>
     cases q2 with
     |nil=>
      cases hR;simp only[yc4] at hlen;exact (z08 (by omega)).symm
     |cons p2 q2'=>
      cases hR;simp only[yc4,zY9] at hlen;exact (z33 (by omega)).symm
    |cons p1 q1'=>
     cases q2 with
     |nil=>
      cases hR;simp only[yc4,zY9] at hlen;exact (z08 (by omega)).symm
     |cons p2 q2'=>
      rw[List.zip_cons_cons] at hz;cases hz
   rw[hv] at h
   wp_walk
   exact⟨_,rfl,by simpa[Builtin.Tuple.tupleCompareSizes] using h⟩
  case h=>
   exact⟨rfl,rfl,items.toList,items2.toList,xs,ys,as,bs,rfl,r1,r2,by omega,hz0,hcx,hcy,fun x hx=>hx⟩
end
mutual
theorem oM :∀(d:PyData) (e:PyData) (A:Around) (s:Shared),A.units+d.depth<cLine->zD7 A s d e
 |.int a,e,A,s,hu=>fun v u as bs r r1 r2 _ _ h prog w E Q q=>by
  cases e with
  |int b=>
   cases h;cases r1;cases r2;exact (PyProof.Rows.lt_int q:wpAny (model prog w) A (compareOp .Lt _ _) Q E s)
  |_=>cases h
 |.str a,e,A,s,hu=>fun v u as bs r r1 r2 _ _ h prog w E Q q=>by
  cases e with
  |str b=>
   cases h;cases r1;cases r2;exact (lt_str q:wpAny (model prog w) A (compareOp .Lt _ _) Q E s)
  |_=>cases h
 |.tuple xs,e,A,s,hu=>fun v u as bs r r1 r2 c1 c2 h prog w E Q q=>by
  cases e with
  |tuple ys=>
   cases r1 with
   |@tuple a1 o1 vs n1 _ _ g1 g2 g3 g4=>
    cases r2 with
    |@tuple a2 o2 ws n2 _ _ k1 k2 k3 k4=>
     obtain⟨cls,dd,data,sl⟩:=o1;obtain⟨cls2,dd2,data2,sl2⟩:=o2;simp only at g2 g3 k2 k3;subst g2 g3 k2 k3;have hu':A.units+1+PyData.depthAll xs<cLine:=by
      simp only[PyData.depth] at hu;omega
     exact richCompare_meets_room (op:=.Lt) ⟨_,g1,rfl⟩ ⟨_,k1,rfl⟩ PySem.F.slot_tuple_lt PySem.F.entry_tuple_lt (PySem.F.args_tuple_lt_2 _ _) (zG8 a1 a2 vs ws n1 n2 dd dd2 sl sl2 xs ys r h (by simpa only[PyData.canLay0] using c1) (by simpa only[PyData.canLay0] using c2))
      ⟨g1,k1,⟨_,_,g4,k4⟩,hu',lC xs A.in1 s (show A.units+1+PyData.depthAll xs<cLine from hu'),show Value.bool r≠Value.notImplemented/\Q (.bool r) s from ⟨(fun x=>nomatch x),q⟩⟩ (by omega)
  |_=>cases h
 |.none,e,A,s,hu=>fun v u as bs r r1 r2 _ _ h=>by cases e<;>cases h
 |.bool _,e,A,s,hu=>fun v u as bs r r1 r2 _ _ h=>by cases e<;>cases h
 |.list _,e,A,s,hu=>fun v u as bs r r1 r2 _ _ h=>by cases e<;>cases h
 |.dict _,e,A,s,hu=>fun v u as bs r r1 r2 _ _ h=>by cases e<;>cases h
theorem lC :∀(xs:List PyData) (A:Around) (s:Shared),A.units+PyData.depthAll xs<cLine->∀x∈xs,∀y,zD7 A s x y
 |[],A,s,hu=>fun x hx=>by cases hx
 |d::ds,A,s,hu=>fun x hx y=>by
  simp only[PyData.depthAll] at hu;have h1:=Nat.le_max_left d.depth (PyData.depthAll ds);have h2:=Nat.le_max_right d.depth (PyData.depthAll ds);by_cases e:x=d
  ·rw[e];exact oM d y A s (by omega)
  ·exact lC ds A s (by omega) x ((zY1.mp hx).resolve_left e) y
end
section
variable {prog:Program}{w:World}{A:Around}{R:Result->Shared->Prop}{it:Addr}{fp wr:List Addr}{m:Nat}{P:Nat->Value->Prop}{St:Nat->Heap->Prop}
def qU (h0 h:Heap):Prop:=∀b o,h0.get? b=some o->h.get? b=some o
def zK2 (prog:Program)(w:World)(A:Around)(h0:Heap)(P:Nat->Value->Prop)(bt:Nat->Nat->Bool):Prop:=
 ∀i j x y (s:Shared) (Q:Value->Shared->Prop) (E:Value->Shared->Prop),P i x->P j y->qU h0 s.heap->Q (.bool (bt i j)) s->wpAny (model prog w) A (richCompare .Lt x y) Q E s
theorem eJ (h0:Heap)(W:Walks prog w A.in1 it fp wr m P St)(bt:Nat->Nat->Bool)(hc:zK2 prog w A.in1 h0 P bt)(D:Addr)(hD:D∉fp)(h0D:h0.get? D=none)(h0w:∀b∈wr,h0.get? b=none):
  ∀(k j:Nat) (s:Shared) (x:Value) (c:Nat),m-(j+1)=k->j+1<=m->St (j+1) s.heap->qU h0 s.heap->P (argBest bt j) x->
  s.heap.get? D=some {cls:=.type "list",dict:=none,data:=.seq #[x,x] c,slots:=#[]}->
  (∀y h' tk,P (argBest bt (m-1)) y->(∀b o,b∉wr->b≠D->s.heap.get? b=some o->h'.get? b=some o)->R (.ok (.ret y)) {s with heap:=h',toks:=tk})->
  codeAny (model prog w) A (.builtin "min.loop" ⟨[.ref it,.none,.ref D],[]⟩) R s:=by
 have hDw:D∉wr:=fun q=>hD (W.sub _ q);have nm:(toString "min"++toString ".loop":String)="min.loop":=by decide
 intro k;induction k with
 |zero=>
  intro j s x c hk hj st kp px hS hR;have e:j+1=m:=by omega
  refine yc3 ye1 ?_;rw[z93 z57 _];show wpAny _ A.in1 (seqItems? (.ref D) >>= _) _ _ s;refine zX6 (z50 hS rfl ?_);show wpAny _ A.in1 (tryCatch (pyNext (.ref it)) _ >>= _) _ _ s;refine zX6 (wpAny_tryCatch (W.done s _ _ (e▸st) fun h' tk kk=>?_));have hS':=kk D _ hDw hS;show wpAny _ A.in1 (updateSeq D (fun _=>#[]) >>= _) _ _ _;refine zX6 (z68 hS' rfl (zX6 (z84 (zY8 ?_))));exact hR x _ tk (by rw[<-e];exact px) fun b o h1 h2 q=>(z02 _ _ (z22 h2)).trans (kk b o h1 q)
 |succ k ih=>
  intro j s x c hk hj st kp px hS hR;have lt:j+1<m:=by omega
  refine yc3 ye1 ?_;rw[z93 z57 _];show wpAny _ A.in1 (seqItems? (.ref D) >>= _) _ _ s;refine zX6 (z50 hS rfl ?_);show wpAny _ A.in1 (tryCatch (pyNext (.ref it)) _ >>= _) _ _ s;refine zX6 (wpAny_tryCatch (W.item (j+1) s _ _ lt st fun y h' tk py st' kk=>?_));have hS':=kk D _ hDw hS;have kp':qU h0 h':=fun b o q=>kk b o (fun z=>by rw[h0w b z] at q;cases q) (kp b o q);show wpAny _ A.in1 (tryCatch (holding [y,y] (richCompare .Lt y x >>= _)) _ >>= _) _ _ _;refine zX6 (wpAny_tryCatch (z48 (zX6 (hc (j+1) (argBest bt j) y x _ _ _ py px kp' ?_))));refine zX6 (z48 (z32 (zX6 (z84 (zY8 ?_)))));cases hb:bt (j+1) (argBest bt j) with
  |true=>
   simp only[ya0];refine zX6 (z68 hS' rfl (zX6 (z84 ?_)));rw[nm];refine zY8 ⟨z90 z57 _,ih (j+1) _ y _ (by omega) lt (W.frame _ _ _ st' fun b hf o q=>?_) (fun b o q=>?_) (by simp only[argBest,hb,ya0];exact py) (ya9 _ hS' rfl) fun z h2 tk2 pz kz=>?_⟩
   ·exact (z02 _ _ (fun z:D=b=>hD (by rw[z];exact hf))).trans q
   ·exact (z02 _ _ (fun z:D=b=>by rw[<-z,h0D] at q;cases q)).trans (kp' b o q)
   ·exact hR z h2 tk2 pz fun b o h1 h3 q=>kz b o h1 h3 ((z02 _ _ (z22 h3)).trans (kk b o h1 q))
  |false=>
   simp only[z30,z72];refine zX6 (z84 ?_);rw[nm];refine zY8 ⟨z90 z57 _,ih (j+1) _ x c (by omega) lt st' kp' (by simp only[argBest,hb,z30,z72];exact px) hS' fun z h2 tk2 pz kz=>?_⟩;exact hR z h2 tk2 pz fun b o h1 h3 q=>kz b o h1 h3 (kk b o h1 q)
theorem hG (h0:Heap)(W:Walks prog w A.in1 it fp wr m P St)(bt:Nat->Nat->Bool)(hc:zK2 prog w A.in1 h0 P bt)(D:Addr)(hD:D∉fp)(h0D:h0.get? D=none)(h0w:∀b∈wr,h0.get? b=none)(hm:0<m){s:Shared}{c:Nat}(st:St 0 s.heap)(kp:qU h0 s.heap)
  (hS:s.heap.get? D=some {cls:=.type "list",dict:=none,data:=.seq #[] c,slots:=#[]})
  (hR:∀y h' tk,P (argBest bt (m-1)) y->(∀b o,b∉wr->b≠D->s.heap.get? b=some o->h'.get? b=some o)->R (.ok (.ret y)) {s with heap:=h',toks:=tk}):
  codeAny (model prog w) A (.builtin "min.loop" ⟨[.ref it,.none,.ref D],[]⟩) R s:=by
 have hDw:D∉wr:=fun q=>hD (W.sub _ q);have nm:(toString "min"++toString ".loop":String)="min.loop":=by decide
 refine yc3 ye1 ?_;rw[z93 z57 _];show wpAny _ A.in1 (seqItems? (.ref D) >>= _) _ _ s;refine zX6 (z50 hS rfl ?_);show wpAny _ A.in1 (tryCatch (pyNext (.ref it)) _ >>= _) _ _ s;refine zX6 (wpAny_tryCatch (W.item 0 s _ _ hm st fun y h' tk py st' kk=>?_));have hS':=kk D _ hDw hS;have kp':qU h0 h':=fun b o q=>kk b o (fun z=>by rw[h0w b z] at q;cases q) (kp b o q);show wpAny _ A.in1 (updateSeq D (fun _=>#[y,y]) >>= _) _ _ _;refine zX6 (z68 hS' rfl ?_);rw[nm];refine zY8 ⟨z90 z57 _,eJ h0 W bt hc D hD h0D h0w _ 0 _ y _ rfl hm (W.frame _ _ _ st' fun b hf o q=>?_) (fun b o q=>?_) py (ya9 _ hS' rfl) fun z h2 tk2 pz kz=>?_⟩
 ·exact (z02 _ _ (fun z:D=b=>hD (by rw[z];exact hf))).trans q
 ·exact (z02 _ _ (fun z:D=b=>by rw[<-z,h0D] at q;cases q)).trans (kp' b o q)
 ·exact hR z h2 tk2 pz fun b o h1 h3 q=>kz b o h1 h3 ((z02 _ _ (z22 h3)).trans (kk b o h1 q))
end
section
variable {prog:Program}{w:World}{A:Around}{E:Value->Shared->Prop}{s:Shared}
theorem cR {l:Addr}{items:Array Value}{bt:Nat->Nat->Bool}{Q:Value->Shared->Prop}(hh:A.handled=none)(hl:s.heap.IsList l items)(h0:0<items.size)(hc:zK2 prog w A.in1 s.heap (fun i v=>items[i]?=some v) bt)
  (hQ:∀v h' tk,items[argBest bt (items.size-1)]?=some v->qU s.heap h'->Q v {s with heap:=h',toks:=tk}):wpAny (model prog w) A (call (.builtin "min") [.ref l]) Q E s:=by
 have nm:(toString "min"++toString ".loop":String)="min.loop":=by decide
 have hlt:l<s.heap.objs.size:=by obtain⟨_,e,_⟩:=hl;exact zY5 e
 refine call_function_tree PySem.F.kind_min PySem.F.plain_min PySem.F.entry_min (PySem.F.args_min1 _) ?_;show wpAny _ A.in1 (Builtin.Builtins.bindParams "min" ["key","default"] 0 ⟨[],[]⟩ >>= _) _ _ s;refine zX6 (wpAny_of_eq (show Builtin.Builtins.bindParams "min" ["key","default"] 0 ⟨[],[]⟩=pure [none,none] from rfl) (zX6 (zY8 ?_)));refine zX6 (z66 hl ?_);refine zX6 (wpAny_newObj_type ?_);rw[nm];have W:=Walks.list (prog:=prog) (w:=w) (A:=A.in1) hh s.heap.objs.size l (zZ7 hlt) items;have up:qU s.heap ((s.heap.push {cls:=.type "list_iterator",data:=.fields #[.ref l,.int 0 0]}).push {cls:=.type "list",data:=.seq #[]}):=fun b o e=>zX8 _ (zX8 _ e);have sz:(s.heap.push {cls:=.type "list_iterator",data:=.fields #[.ref l,.int 0 0]}).objs.size=s.heap.objs.size+1:=z49 _ _;refine zY8 ⟨z90 z57 _,hG s.heap W bt hc _ (fun q=>?_) (Heap.get?_none_of_le (by rw[sz];exact z83 _)) (fun b hb=>?_) h0 (W.frame 0 (s.heap.push {cls:=.type "list_iterator",data:=.fields #[.ref l,.int 0 0]}) _ ⟨⟨_,zY7 _ rfl,rfl,rfl⟩,hl.push _⟩ fun b _ o e=>zX8 _ e) up (zY7 _ rfl) fun v h' tk pv kk=>?_⟩
 ·rcases zY1.mp q with z|z
  ·rw[sz] at z;exact absurd z (Nat.succ_ne_self _)
  ·rw[zZ0,sz] at z;exact absurd hlt (by rw[<-z];exact Nat.not_lt.mpr (z83 _))
 ·rw[zZ0.mp hb];exact Heap.get?_none_of_le (zY2 _)
 ·refine hQ v h' tk pv fun b o e=>kk b o (fun z=>?_) (fun z=>?_) (up b o e)
  ·rw[zZ0.mp z] at e;exact absurd (zY5 e) (z47 _)
  ·have:=zY5 e;rw[z,sz] at this;exact absurd this (Nat.not_lt.mpr (z83 _))
end
noncomputable def tU (ds:List PyData)(i j:Nat):Bool:=match ds[i]?,ds[j]? with
 |some x,some y=>(ltD x y).getD false
 |_,_=>false
noncomputable def minD :List PyData->PyData
 |[]=>.none
 |d::ds=>ds.foldl (fun b x=>if (ltD x b).getD false=true then x else b) d
theorem gh (d:PyData)(ds:List PyData)(x:PyData):minD (d::(ds++[x]))=if (ltD x (minD (d::ds))).getD false=true then x else minD (d::ds):=by
 show List.foldl _ d (ds++[x])=_;rw[List.foldl_append];rfl
theorem kF {ds:List PyData}{i j:Nat}{x y:PyData}(h1:ds[i]?=some x)(h2:ds[j]?=some y):tU ds i j=(ltD x y).getD false:=by
 unfold tU;rw[h1,h2]
theorem za7 (ds:List PyData):∀k,k<ds.length->ds[argBest (tU ds) k]?=some (minD (ds.take (k+1))):=by
 intro k
 induction k with
 |zero=>
  intro h;cases ds with
  |nil=>simp at h
  |cons d ds=>simp[argBest,minD]
 |succ k ih=>
  intro h;have ih':=ih (by omega);cases ds with
  |nil=>simp at h
  |cons d ds=>
   have hx:(d::ds)[k+1]?=some (d::ds)[k+1]:=zX7 h;have tk:(d::ds).take (k+1+1)=d::(ds.take k++[(d::ds)[k+1]]):=by
    have hk:k<ds.length:=by simpa using h
    rw[yb9,z44,zX7 hk];rfl
   have tk':(d::ds).take (k+1)=d::ds.take k:=yb9;rw[tk,gh,<-tk'];have e:tU (d::ds) (k+1) (argBest (tU (d::ds)) k)=(ltD (d::ds)[k+1] (minD ((d::ds).take (k+1)))).getD false:=kF hx ih';simp only[argBest];rw[e];split
   ·exact hx
   ·exact ih'
theorem tY {X:Cx}{pins:List (Addr×Obj)}{σ:St}{H:Hp}{s:Shared}(I:Inv X pins σ H s):∀{xs:List V} {ds:List PyData} {us:List Value} {i:Nat} {d:PyData},DVs H xs ds->Vals xs us->ds[i]?=some d->∃u as,us[i]?=some u/\Reads s.heap u d as
 |_,_,_,_,_,.nil,_,e=>by simp at e
 |_,_,_,i,d,.cons hx hs,.cons (b:=u) ru rs,e=>by
  cases i with
  |zero=>
   simp at e;subst e;obtain⟨as,ra⟩:=hx.reads I ru;exact⟨u,as,rfl,ra⟩
  |succ i=>
   obtain⟨u',as,h1,h2⟩:=tY I hs rs (i:=i) (by simpa using e);exact⟨u',as,by simpa using h1,h2⟩
def zD1 (ds:List PyData):Prop:=∀x∈ds,∀y∈ds,(ltD x y).isSome=true
section
variable {X:Cx}{α:Ev}{e:Expr}{pos p:Pos}{Q:PyData->Prop}
theorem dI (hc:X.calm=true)(hu:X.A.units+70<cLine):xI X (.builtin "min") (fun xs H Q=>∃(l:Addr) (vs:List V) (ds:List PyData),xs=[.ref l]/\H l=some (.lst vs)/\DVs H vs ds/\ds≠[]/\zD1 ds/\(∀d∈ds,d.canLay0=true/\d.depth<=60)/\∀(i:Nat) (v:V),vs[i]?=some v->ds[i]?=some (minD ds)->Q v H):=by
 intro pins s σ H xs us Q I r h;obtain⟨l,vs,ds,rfl,hl,dv,ne,cm,sh,q⟩:=h;obtain⟨u,rfl,rx⟩:=vals1 r;cases rx;obtain⟨its,rv,pl,hz⟩:=I.list (SqL.of hl);have l1:=rv.length;have l2:vs.length=ds.length:=dv.length;have h0:0<ds.length:=List.length_pos_iff.mpr ne;refine cR (bt:=tU ds) (I.ok.hd hc) pl.isList (by simp;omega) ?_ fun v h' tk hv kp=>?_
 ·intro i j x y s2 Q2 E2 hx hy kp q2;have hi:i<ds.length:=by have:=(Array.getElem?_eq_some_iff.mp hx).1;simp at this;omega
  have hj:j<ds.length:=by have:=(Array.getElem?_eq_some_iff.mp hy).1;simp at this;omega
  have ei:ds[i]?=some ds[i]:=zX7 hi;have ej:ds[j]?=some ds[j]:=zX7 hj;obtain⟨u1,as1,g1,g2⟩:=tY I dv rv ei;obtain⟨u2,as2,g3,g4⟩:=tY I dv rv ej;have e1:u1=x:=by have:=hx;simp at this;rw[g1] at this;exact z05 this
  have e2:u2=y:=by have:=hy;simp at this;rw[g3] at this;exact z05 this
  subst e1 e2;obtain⟨rr,hrr⟩:=yc7.mp (cm _ (z38 hi) _ (z38 hj));have hs1:=sh _ (z38 hi);have hs2:=sh _ (z38 hj);refine oM ds[i] ds[j] X.A.in1 s2 (by show X.A.units+1+_<cLine;omega) _ _ _ _ rr (Reads.keeps kp g2) (Reads.keeps kp g4) hs1.1 hs2.1 hrr _ _ _ _ ?_;have:tU ds i j=rr:=by rw[kF ei ej,hrr];rfl
  rw[<-this];exact q2
 ·have hb:=za7 ds (ds.length-1) (by omega);have e3:its.toArray.size-1=ds.length-1:=by simp;omega
  rw[e3] at hv;rw[show ds.length-1+1=ds.length by omega,z56] at hb;have hv':its[argBest (tU ds) (ds.length-1)]?=some v:=by simpa using hv
  have hi:argBest (tU ds) (ds.length-1)<vs.length:=by have:=(zY0.mp hb).1;omega
  obtain⟨u',g1,g2⟩:=rv.get (zX7 hi);rw[hv'] at g1;cases g1;exact⟨_,H,I.kept (t':=tk) kp,g2,q _ _ (zX7 hi) hb⟩
theorem zo0 (hc:X.calm=true)(hu:X.A.units+70<cLine)(hg:Gl X "min")(hm:X.mg "min"=none)(h:EvD X α e fun x=>∃ds,x=.list ds/\ds≠[]/\PyData.hasDictAll ds=false/\zD1 ds/\(∀d∈ds,d.canLay0=true/\d.depth<=60)/\Q (minD ds))(he:starEach [e] X.env=(false,eval e X.env)::starEach [] X.env:=by rfl):
  EvD X α (.Call (.Name "min" p) [e] [] pos) Q:=by
 refine wk (dI hc hu) hg hm boot_min (zg (h.imp fun x ⟨ds,e1,ne,nd,cm,sh,q⟩=>zt ?_) he) (he:=he);intro F σ H vs R m rv k;subst e1;obtain⟨v,rfl,av⟩:=rv.one;obtain⟨a,xs,rfl,h1,h2⟩:=av.lst_inv;refine⟨a,xs,ds,rfl,(zh h1).2,(h2.dv nd).same xG,ne,cm,sh,fun i v hv hd=>?_⟩;obtain⟨x',g1,g2⟩:=h2.get hd;rw[hv] at g1;cases g1;exact k _ _ H q m.tp Kz.refl g2
noncomputable def tI :List Int->Int
 |[]=>0
 |z::zs=>zs.foldl (fun b x=>if b<x then x else b) z
theorem dg (d:Int)(ds:List Int)(x:Int):tI (d::(ds++[x]))=if tI (d::ds)<x then x else tI (d::ds):=by
 show List.foldl _ d (ds++[x])=_;rw[List.foldl_append];rfl
noncomputable def eR (zs:List Int)(i j:Nat):Bool:=decide (zs.getD i 0 > zs.getD j 0)
theorem zv9 {zs:List Int}{i j:Nat}{x y:Int}(h1:zs[i]?=some x)(h2:zs[j]?=some y):eR zs i j=decide (y<x):=by
 unfold eR;rw[zX9,zX9,h1,h2];rfl
theorem ze2 (zs:List Int):∀k,k<zs.length->zs[argBest (eR zs) k]?=some (tI (zs.take (k+1))):=by
 intro k
 induction k with
 |zero=>
  intro h;cases zs with
  |nil=>simp at h
  |cons d ds=>simp[argBest,tI]
 |succ k ih=>
  intro h;have ih':=ih (by omega);cases zs with
  |nil=>simp at h
  |cons d ds=>
   have hx:(d::ds)[k+1]?=some (d::ds)[k+1]:=zX7 h;have tk:(d::ds).take (k+1+1)=d::(ds.take k++[(d::ds)[k+1]]):=by
    have hk:k<ds.length:=by simpa using h
    rw[yb9,z44,zX7 hk];rfl
   have tk':(d::ds).take (k+1)=d::ds.take k:=yb9;rw[tk,dg,<-tk'];have e:eR (d::ds) (k+1) (argBest (eR (d::ds)) k)=decide (tI ((d::ds).take (k+1))<(d::ds)[k+1]):=zv9 hx ih';simp only[argBest];rw[e];by_cases z:tI ((d::ds).take (k+1))<(d::ds)[k+1]
   ·rw[z33 z,if_pos rfl,if_pos z];exact hx
   ·rw[z08 z,if_neg (by decide),if_neg z];exact ih'
theorem eN (hc:X.calm=true):xI X (.builtin "max") (fun xs H Q=>∃(l:Addr) (zs:List Int),xs=[.ref l]/\H l=some (.lst (zs.map V.int))/\zs≠[]/\Q (.int (tI zs)) H):=by
 intro pins s σ H xs us Q I r h;obtain⟨l,zs,rfl,hl,ne,q⟩:=h;obtain⟨u,rfl,rx⟩:=vals1 r;cases rx;obtain⟨its,rv,pl,hz⟩:=I.list (SqL.of hl);have l1:=rv.length;rw[zX5] at l1;have h0:0<zs.length:=List.length_pos_iff.mpr ne;have hlt:l<s.heap.objs.size:=by obtain⟨_,e,_⟩:=pl.isList;exact zY5 e
 have val:∀i v,its.toArray[i]?=some v->∃t,v=Value.int (zs.getD i 0) t:=fun i v hv=>by
  have hv':its[i]?=some v:=by simpa using hv
  have hi:i<(zs.map V.int).length:=by rw[zX5,l1];exact (zY0.mp hv').1
  obtain⟨u',g1,g2⟩:=rv.get (zX7 hi);rw[hv'] at g1;cases g1;rw[List.getElem_map] at g2;obtain⟨t,rfl⟩:=g2;refine⟨t,?_⟩;rw[zX5] at hi;rw[zX9,zX7 hi];rfl
 refine call_max_walk (z66 pl.isList ⟨s.heap.objs.size,[s.heap.objs.size,l],[s.heap.objs.size],_,_,_,eR zs,rfl,Walks.list (A:=X.A.in1) (I.ok.hd hc) s.heap.objs.size l (zZ7 hlt) its.toArray,⟨⟨_,zY7 _ rfl,rfl,rfl⟩,pl.isList.push _⟩,fun b hb=>?_,by simp;omega,CmpOf.ints_gt (fun i=>zs.getD i 0) val,fun v h' tk hv kk=>?_⟩)
 ·show b<(s.heap.push _).objs.size;rw[z49];rcases zY1.mp hb with z|z
  ·rw[z];exact z96 _
  ·rw[zZ0.mp z];exact yd7 hlt
 ·obtain⟨t,rfl⟩:=val _ _ hv;have hb:=ze2 zs (zs.length-1) (by omega);rw[show zs.length-1+1=zs.length by omega,z56] at hb;have e3:its.toArray.size-1=zs.length-1:=by simp;omega
  rw[e3];refine⟨.int (tI zs),H,I.kept (t':=tk) (fun b o e=>kk b o (fun z=>?_) (zX8 _ e)),⟨t,?_⟩,q⟩
  ·rw[zZ0.mp z] at e;exact absurd (zY5 e) (z47 _)
  ·rw[zX9,hb];rfl
theorem AVs.intsV {H:Hp}:∀{xs:List V} {zs:List Int},AVs H xs (zs.map .int)->xs=zs.map V.int
 |_,[],.nil=>rfl
 |_,z::zs,.cons h r=>by rw[h.int_inv,AVs.intsV r];rfl
theorem zw4 (hc:X.calm=true)(hg:Gl X "max")(hm:X.mg "max"=none)(h:EvD X α e fun x=>∃zs:List Int,x=.list (zs.map .int)/\zs≠[]/\Q (.int (tI zs)))(he:starEach [e] X.env=(false,eval e X.env)::starEach [] X.env:=by rfl):
  EvD X α (.Call (.Name "max" p) [e] [] pos) Q:=by
 refine wk (eN hc) hg hm boot_max (zg (h.imp fun x ⟨zs,e1,ne,q⟩=>zt ?_) he) (he:=he);intro F σ H vs R m rv k;subst e1;obtain⟨v,rfl,av⟩:=rv.one;obtain⟨a,xs,rfl,h1,h2⟩:=av.lst_inv;have h3:=(zh h1).2;rw[h2.intsV] at h3;exact⟨a,zs,rfl,h3,ne,k _ _ H q m.tp Kz.refl (.int _)⟩
end
theorem jU :typeLookup (.type "list_reverseiterator") "__len__"=pure none:=by rw[yf6,yb0];kernel_rfl
theorem za6 :typeLookup (.type "list_reverseiterator") "__length_hint__"=pure (some (.builtin "list_reverseiterator.__length_hint__")):=by rw[yf6,yb0];kernel_rfl
section
variable {prog:Program}{w:World}{A:Around}{E:Value->Shared->Prop}{s:Shared}{it l:Addr}{items:Array Value}
theorem zd6 {Q:Bool->Shared->Prop}(hT:s.TypeIs (.ref it) "list_reverseiterator")(h:Q false s):wpAny (model prog w) A (Builtin.List.listLengthHint (.ref it)) Q E s:=by
 unfold Builtin.List.listLengthHint;refine zX6 (yc2 hT jU ?_);show wpAny _ _ (specialOf (Value.ref it) (Str.ofString "__length_hint__") >>= _) _ _ _;refine zX6 (yc2 hT za6 ?_);generalize hid:("list_reverseiterator.__length_hint__":String)=id0
 wp_delta
 rw[show splitId id0=some ("list_reverseiterator","__length_hint__") from by subst hid;decide +kernel];subst hid;refine zX6 (wpAny_isInstance (T:="list_reverseiterator") (b:=true) hT (by rw[isSubtype_type];kernel_rfl) ?_);refine ya4 (fun q=>absurd q (by decide)) fun _=>?_;refine ya4 (fun _=>?_) fun q=>absurd (by decide +kernel) q;refine ya4 (fun q=>absurd q (by decide +kernel)) fun _=>?_;exact zY8 h
theorem pL {Q:Value->Shared->Prop}(hh:A.handled=none)(hne:l≠it)(hr:s.heap.IsRevIter it l ((items.size:Int)-1))(hl:s.heap.IsList l items)(hn:items.size<=sizeLine)
  (hQ:∀h' tk acc c,(∀b o,b≠it->s.heap.get? b=some o->h'.get? b=some o)->h'.get? s.heap.objs.size=some {cls:=.type "list",dict:=none,data:=.seq acc c,slots:=#[]}->ItemsOf (fun i v=>items[items.size-1-i]?=some v) acc items.size->Q (.ref s.heap.objs.size) {s with heap:=h',toks:=tk}):
  wpAny (model prog w) A (call (.type "list") [.ref it]) Q E s:=by
 refine callType_codes (Q₁:=fun obj s₁=>obj=.ref s.heap.objs.size/\s₁={s with heap:=s.heap.push {cls:=.type "list",data:=.seq #[]}}) PySem.F.called_list (PySem.F.typeCall_list_1 _) PySem.F.entry_list_init
  (code_list_new _ ⟨rfl,rfl⟩) fun obj s₁ h₁=>?_
 obtain⟨rfl,rfl⟩:=h₁;generalize hSd:s.heap.objs.size=S at hQ ⊢;have hS:(s.heap.push {cls:=.type "list",data:=.seq #[]}).get? S=some {cls:=.type "list",data:=.seq #[]}:=by rw[<-hSd];exact zY7 _ rfl
 have up:∀b o,s.heap.get? b=some o->(s.heap.push {cls:=.type "list",data:=.seq #[]}).get? b=some o:=fun b o e=>zX8 _ e;have iS:it≠S:=by obtain⟨o,e,_⟩:=id hr;rw[<-hSd];exact zZ7 (zY5 e)
 have lS:l≠S:=by obtain⟨o,e,_⟩:=id hl;rw[<-hSd];exact zZ7 (zY5 e)
 have ltS:∀{b:Addr} {o:Obj},s.heap.get? b=some o->b≠S:=fun e=>by rw[<-hSd];exact zZ7 (zY5 e)
 have W:=Walks.listRev (prog:=prog) (w:=w) (A:=A.in1.in1) hh it l hne items;have hSf:S∉[it,l]:=by simp only[zY1,zZ3,z23,not_or];exact⟨z22 iS,z22 lS⟩
 refine⟨⟨_,hS,rfl⟩,PySem.F.args_list_init_2 _ _,?_⟩;show wpAny _ _ (do let old <-Builtin.List.listItems (.ref S);Builtin.List.listUpdate (.ref S) (fun _=>#[]);letGo old.toList.reverse;Builtin.List.listExtendWith (.ref S) (.ref it) .none) _ _ _;refine zX6 ?_;unfold Builtin.List.listItems;refine zX6 (z50 hS rfl (zY8 ?_));show wpAny _ _ (updateSeq S (fun _=>#[]) >>= fun _=>letGo (#[]:Array Value).toList.reverse >>= fun _=>Builtin.List.listExtendWith (.ref S) (.ref it) .none) _ _ _;refine zX6 (z68 hS rfl ?_);obtain⟨e2,hS₂⟩:∃e',((s.heap.push {cls:=.type "list",data:=.seq #[]}).update S (Obj.mapSeq (fun _=>(#[]:Array Value)))).get? S=some {cls:=.type "list",dict:=none,data:=.seq #[] e',slots:=#[]}:=⟨_,z76 (c:="list") hS fun _=>#[]⟩;have oth:∀b o,s.heap.get? b=some o->((s.heap.push {cls:=.type "list",data:=.seq #[]}).update S (Obj.mapSeq (fun _=>(#[]:Array Value)))).get? b=some o:=
  fun b o e=>(z02 _ _ (z22 (ltS e))).trans (up b o e)
 refine zX6 (z84 ?_);have hT:({s with heap:=(s.heap.push {cls:=.type "list",data:=.seq #[]}).update S (Obj.mapSeq (fun _=>(#[]:Array Value)))}:Shared).TypeIs (.ref it) "list_reverseiterator":=Heap.IsRevIter.typeIs (hr.at fun o e=>oth _ o e);unfold Builtin.List.listExtendWith;refine zX6 (wpAny_typeOf hT ?_);have b1:Builtin.List.listSameRef (.ref S) (.ref it)=false:=by simp[Builtin.List.listSameRef];exact z22 iS
 have b2:(Value.type "list_reverseiterator" == Value.type "list")=false:=by decide
 have b3:(Value.type "list_reverseiterator" == Value.type "tuple")=false:=by decide
 simp only[b1,b2,b3,yb5,z30,z72];refine zX6 (wpAny_pyIter_revIter (hr.at fun o e=>oth _ o e) ?_);refine zX6 (z48 (zd6 hT ?_));have key:∀(h:Heap) (c₁ tk:Nat),h.get? S=some {cls:=.type "list",dict:=none,data:=.seq #[] c₁,slots:=#[]}->(∀b o,s.heap.get? b=some o->h.get? b=some o)->codeAny (model prog w) A.in1 (.builtin "list.extend.loop" ⟨[.ref S,.ref it,.none],[]⟩) (wants (fun v s'=>v=.none/\Q (.ref S) s') E) {s with heap:=h,toks:=tk}:=by
  intro h c₁ tk hS' oth';refine codeAny_extend_loopS W.toS hn S hSf .none items.size 0 _ #[] c₁ rfl (zZ4 _) ⟨zZ4 _,by simpa using hr.at fun o e=>oth' _ o e,hl.at fun o e=>oth' _ o e⟩ hS' (ItemsOf.nil _) fun s' acc' c' hm hS'' hacc=>?_;rw[Moved.eq_with hm];refine⟨rfl,hQ s'.heap s'.toks acc' c' (fun b o hb e=>hm.heap b o (fun z=>?_) (oth' b o e)) hS'' hacc⟩;rcases zY1.mp z with z|z
  ·exact ltS e z
  ·exact hb (zZ0.mp z)
 refine ya4 (fun q=>absurd q (by decide)) (fun _=>zY8 ⟨z90 z59 _,key _ _ _ hS₂ oth⟩)
end
section
variable {X:Cx}{α:Ev}{a e c:Expr}{p p0 pos pos2:Pos}{Q:List PyData->Prop}
theorem iQ {ta:TA}(hc:X.calm=true)(hgl:Gl X "list")(hml:X.mg "list"=none)(hg:Gl X "reversed")(hm:X.mg "reversed"=none)(ha:PA X [a] ta)
  (hs0:starEach [.Call (.Name "reversed" p) [a] [] pos2] X.env=[(false,eval (.Call (.Name "reversed" p) [a] [] pos2) X.env)]:=by rfl) (hs:starEach [a] X.env=[(false,eval a X.env)]:=by rfl):
  PE X (.Call (.Name "list" p0) [.Call (.Name "reversed" p) [a] [] pos2] [] pos) (fun σ H Q=>ta σ H fun vs H1=>∃(l:Addr) (xs:List V),vs=[.ref l]/\SqL X.K H1 l xs/\∀D,H1 D=none->Q (.ref D) (upd H1 D (.lst xs.reverse))):=by
 intro pins s σ H Q I h;refine Call_ (xA I hgl hml boot_list (z24 ?_ hs0 rfl));rw[hs0];show wpAny _ _ (spliced ((false,eval _ X.env)::backTo pos [])) _ _ s;refine Calls.spliced_cons ?_;refine Call_ (xA I hg hm boot_reversed (z24 (thn (ha pos2 pins s σ H _ I h) fun us s1 ⟨vs,H1,I1,r1,q1⟩=>?_) hs rfl));obtain⟨l,xs,rfl,hq,q⟩:=q1;obtain⟨u,rfl,ru⟩:=Vals.one r1;cases (show u=Value.ref l from ru);obtain⟨its,rv,pl,hz⟩:=I1.list hq;have hlen:=rv.length;have llt:l<s1.heap.objs.size:=by obtain⟨o,e,_⟩:=pl.isList;exact zY5 e
 refine call_reversed_list pl.isList (Calls.spliced_nil ?_);generalize hI:s1.heap.objs.size=it;have I2:Inv X pins σ H1 {s1 with heap:=s1.heap.push (revObj l ((its.toArray.size:Int)-1))}:=I1.kept (t':=s1.toks) fun b o e=>zX8 _ e;have fI:∀H',H' it=none->xH X pins H' it:=fun H' hn=>by rw[<-hI] at hn ⊢;exact I1.fpOk (zY2 _) hn
 have nI:H1 it=none:=by rw[<-hI];exact I1.hok.fresh (zY2 _)
 refine pL (it:=it) (l:=l) (items:=its.toArray) (I1.ok.hd hc) (by rw[<-hI];exact zZ7 llt) (by rw[<-hI];exact⟨_,zY7 _ rfl,rfl,rfl⟩) (pl.isList.push _) (by simp;omega) fun h' tk acc c kp e ic=>?_;have szD:({s1 with heap:=s1.heap.push (revObj l ((its.toArray.size:Int)-1))}:Shared).heap.objs.size=s1.heap.objs.size+1:=z49 _ _;generalize hD:({s1 with heap:=s1.heap.push (revObj l ((its.toArray.size:Int)-1))}:Shared).heap.objs.size=D at e ⊢;have Dsz:(s1.heap.push (revObj l ((its.toArray.size:Int)-1))).objs.size<=D:=by rw[<-hD];exact zY2 _
 have nD:H1 D=none:=I2.hok.fresh Dsz;refine⟨.ref D,upd H1 D (.lst xs.reverse),?_,rfl,q D nD⟩;refine I2.turnLay (ch:=[it]) (fun b o hb e=>kp b o (by simpa using hb) e) (fun b hb=>by rw[zZ0.mp hb];exact fI H1 nI) Dsz ⟨by rw[z69];exact hz,acc.toList,c,?_,by simpa using e⟩;have key:∀{as:List V} {bs:List Value},as.length=bs.length->(∀(j:Nat) x,as[j]?=some x->∃u,bs[j]?=some u/\RelV x u)->Vals as bs:=by
  intro as
  induction as with
  |nil=>intro bs h1 _;cases bs with|nil=>exact .nil|cons _ _=>simp at h1
  |cons x as ih=>
   intro bs h1 h2;cases bs with
   |nil=>simp at h1
   |cons y bs=>
    obtain⟨u,z1,z2⟩:=h2 0 x rfl;simp at z1;subst z1;exact .cons z2 (ih (by simpa using h1) fun j x' hx=>by simpa using h2 (j+1) x' (by simpa using hx))
 have sa:acc.size=xs.length:=by rw[ic.1];simp;omega
 refine key (by rw[z69];exact sa.symm) fun j x hx=>?_;have hj:j<xs.length:=by have:=(zY0.mp hx).1;rwa [z69] at this
 rw[List.getElem?_reverse hj] at hx;obtain⟨u,g1,g2⟩:=rv.get hx;have z:its.toArray[its.toArray.size-1-j]?=some (acc[j]'(by omega)):=ic.2 j (acc[j]'(by omega)) (by simp[show j<acc.size by omega]);refine⟨acc[j]'(by omega),by simp[show j<acc.size by omega],?_⟩;have e1:its.toArray.size-1-j=xs.length-1-j:=by simp;omega
 rw[e1] at z;have z':its[xs.length-1-j]?=some (acc[j]'(by omega)):=by simpa using z
 rw[g1] at z';rw[<-z05 z'];exact g2
theorem AVs.reverse {H:Hp}:∀{xs:List V} {ds:List PyData},AVs H xs ds->AVs H xs.reverse ds.reverse
 |_,_,.nil=>.nil
 |_,_,.cons h r=>by rw[yd8,yd8];exact (AVs.reverse r).append (.cons h .nil)
theorem hV (hc:X.calm=true)(hgl:Gl X "list")(hml:X.mg "list"=none)(hg:Gl X "reversed")(hm:X.mg "reversed"=none)(h:EvD X α a fun x=>∃ds,x=.list ds/\Q ds.reverse)
  (hs0:starEach [.Call (.Name "reversed" p) [a] [] pos2] X.env=[(false,eval (.Call (.Name "reversed" p) [a] [] pos2) X.env)]:=by rfl) (hs:starEach [a] X.env=[(false,eval a X.env)]:=by rfl):
  EvL X α (.Call (.Name "list" p0) [.Call (.Name "reversed" p) [a] [] pos2] [] pos) Q:=fun F σ H R m k=>by
 refine⟨_,iQ hc hgl hml hg hm (zd zk zu hs) hs0 hs,?_⟩;refine h F σ H _ m fun x vx H1 q1 t1 k1 r1=>?_;obtain⟨ds,rfl,q⟩:=q1;have m1:=m.kz k1 t1;obtain⟨l,xs,rfl,g1,g2⟩:=r1.lst_inv;refine⟨l,xs,rfl,SqL.of (zh g1).2,fun D hD=>?_⟩;obtain⟨w1,w2,w3⟩:=m1.lay hD g2.reverse;exact k _ _ _ q w1 (k1.trans w2) (w3.back m k1 t1)
theorem bF {body rest:List Stmt}{E:xi}(hp:PassesOwn (model X.prog X.w) X.A X.env X.xe)(P:Nat->Ev->Prop)(n0:Nat)(h0:P n0 α)
  (hs:∀n α,P n α->EvT X α c fun b=>if b=true then SvS X α body {nx:=fun α'=>∃n',n'<n/\P n' α',ct:=fun α'=>∃n',n'<n/\P n' α',bk:=fun α'=>SvS X α' rest E,rt:=E.rt} else SvS X α rest E):
  SvS X α (.While c body [] pos::rest) E:=fun F σ H D m r=>by
 refine⟨_,zN (lY hp xR yg) yg,?_⟩;refine⟨fun n σ' H'=>∃α',M F α' σ' H'/\P n α',⟨n0,α,m,h0⟩,?_⟩;rintro n σ' H' ⟨α',m',p'⟩;refine hs n α' p' F σ' H' _ m' fun b H1 q t1 k1=>?_;have m1:=m'.kz k1 t1;cases b with
 |true=>
  rw[if_pos rfl] at q ⊢;refine⟨fun σ'' H''=>∃n',n'<n/\∃α'',M F α'' σ'' H''/\P n' α'',fun σ'' H'' ⟨n',h1,h2⟩=>⟨n',h1,h2⟩,?_⟩;exact q F σ' H1 _ m1 ⟨fun α2 σ2 H2 m2 ⟨n',h1,h2⟩=>⟨n',h1,α2,m2,h2⟩,r.rt,fun α2 σ2 H2 m2 q2=>q2 F σ2 H2 D m2 r,fun α2 σ2 H2 m2 ⟨n',h1,h2⟩=>⟨n',h1,α2,m2,h2⟩⟩
 |false=>
  rw[if_neg (by decide)] at q ⊢;exact q F σ' H1 D m1 r
end
def lI (Q:PyData->Prop):List PyData->Prop
 |[]=>True
 |d::r=>Q d/\lI Q r
theorem lI.mem {Q:PyData->Prop}:∀{ds:List PyData},lI Q ds->∀d∈ds,Q d
 |[],_,d,h=>by cases h
 |x::r,h,d,hd=>by
  rcases zY1.mp hd with rfl|hd
  ·exact h.1
  ·exact lI.mem h.2 d hd
theorem zs4 {x:PyData}{ds:List PyData}{v:Int}{Q:PyData->Prop}(hx:vb x=some ds)(h0:0<=v)(h1:v<ds.length)(h:lI Q ds):∃ds i d,vb x=some ds/\PyData.int v=.int i/\atI ds i=some d/\Q d:=by
 obtain⟨d,hd,e⟩:=kx h0 h1;exact⟨ds,v,d,hx,rfl,e,h.mem d hd⟩
theorem aB {x:PyData}{ds:List PyData}{v:Int}{Q:PyData->Prop}(P:PyData->Prop)(hx:vb x=some ds)(h0:0<=v)(h1:v<ds.length)(h:lI P ds)(k:∀d,P d->Q d):∃ds i d,vb x=some ds/\PyData.int v=.int i/\atI ds i=some d/\Q d:=by
 obtain⟨d,hd,e⟩:=kx h0 h1;exact⟨ds,v,d,hx,rfl,e,k d (h.mem d hd)⟩
theorem vB {k:Bool}{p q:Prop}(h1:k=true->p)(h2:k=false->q):if k=true then p else q:=by
 cases k with
 |true=>exact h1 rfl
 |false=>exact h2 rfl
theorem vp {i j:Int}:PyData.eqv (.int i) (.int j)=decide (i=j):=by
 show (i == j)=_;by_cases h:i=j<;>simp[h]
section
variable {X:Cx}{α:Ev}{e a b:Expr}{pos p:Pos}{E:xi}{rest:List Stmt}
def EvR (X:Cx)(α:Ev)(e:Expr)(Q:PyData->Prop):Prop:=∀(F:Fr) (σ:St) (H:Hp) (R:VK),M F α σ H->(∀d v H',Q d->zM F H'->Kz F H H'->AV (sub (fun x=>¬F.O0 x/\∀xs,F.H0 x≠some (.lst xs)) H') v d->R v H')->tf X e σ H R
theorem iG {Q:PyData->Prop}(h:EvD X α e fun d=>noL d=true/\Q d):EvR X α e Q:=fun F σ H R m k=>h F σ H R m fun d v H' q t kz r=>k d v H' q.2 t kz (r.noL (fun x o ho z=>by
 obtain⟨z1,z2⟩:=zh z;refine zH ⟨ow0 z1,fun xs w=>?_⟩ z2;have:=kz _ _ (m.keep _ _ w (m.tp.nt (ow0 z1))) (m.tp.nt (ow0 z1));rw[z2] at this;cases this;exact ho trivial) q.1)
theorem mQ {Q:PyData->Prop}(h:EvL X α e fun ds=>uw ds=true/\Q (.list ds)):EvR X α e Q:=fun F σ H R m k=>h F σ H R m fun ds v H' q t kz r=>by
 obtain⟨l,xs,rfl,h2,h3,h4⟩:=r;refine k _ _ H' q.2 t kz (.lst (zH ⟨ow0 (m.fresh h2),fun xs w=>by rw[m.fresh0 h2] at w;cases w⟩ h3) (h4.noL (fun x o ho z=>?_) q.1));obtain⟨z1,z2⟩:=zh z;refine zH ⟨ow0 z1.1,fun xs w=>?_⟩ z2;have:=kz _ _ (m.keep _ _ w (m.tp.nt (ow0 z1.1))) (m.tp.nt (ow0 z1.1));rw[z2] at this;cases this;exact ho trivial
def zx2 (X:Cx)(α:Ev)(es:List Expr)(Q:List PyData->Prop):Prop:=∀(F:Fr) (σ:St) (H:Hp) (R:List V->Hp->Prop),M F α σ H->(∀ds vs H',Q ds->zM F H'->Kz F H H'->AVs (sub (fun x=>¬F.O0 x/\∀xs,F.H0 x≠some (.lst xs)) H') vs ds->R vs H')->zG2 X es σ H R
theorem fU {Q:List PyData->Prop}(q:Q []):zx2 X α [] Q:=fun F σ H R m k=>⟨_,zu,k _ _ H q m.tp Kz.refl .nil⟩
theorem wV {es:List Expr}{Q:List PyData->Prop}(h:EvR X α e fun d=>zx2 X α es fun ds=>Q (d::ds))(hs:starEach (e::es) X.env=(false,eval e X.env)::starEach es X.env:=by rfl):zx2 X α (e::es) Q:=fun F σ H R m k=>by
 refine⟨_,zd zk yV hs,?_⟩;refine h F σ H _ m fun d v H1 q1 t1 k1 r1=>?_;have m1:=m.kz k1 t1;exact q1 F σ H1 _ m1 fun as vs H2 q2 t2 k2 r2=>k _ _ H2 q2 t2 (k1.trans k2) (.cons (r1.same (zx fun x o z w=>⟨z,k2 _ _ w (m.tp.nt z.1)⟩)) r2)
theorem bN {n:Nat}{es:List Expr}{Q:PyData->Prop}(h:zx2 X α es fun ds=>ds.length<=1000/\Q (.tuple ds)):EvR X α (.Tuple es n pos) Q:=fun F σ H R m k=>by
 refine⟨_,qP yV,?_⟩;refine h F σ H _ m fun ds vs H1 q1 t1 k1 r1=>?_;have m1:=m.kz k1 t1;refine⟨by rw[r1.length];exact z63 (yS q1.1),fun p hp=>?_⟩;exact k _ _ _ q1.2 (t1.same (yn hp)) (k1.trans (Kz.of_same (yn hp))) (.tup (zH ⟨ow0 (m1.fresh hp),fun xs w=>by rw[m1.fresh0 hp] at w;cases w⟩ zj) (r1.same (zx fun x o z w=>⟨z,by rw[zf (zp w hp)];exact w⟩)))
theorem gN (h:EvR X α e fun d=>∀S,E.rt (.deep d S)):SvS X α (.Return (some e) pos::rest) E:=fun F σ H D m r=>by
 refine⟨_,zN (zC zk) yg,?_⟩;refine h F σ H _ m fun d v H1 q1 t1 k1 r1=>?_;have m1:=m.kz k1 t1;refine r.rt (.deep d fun y=>¬F.O0 y/\F.H0 y=none/\∃xs,H1 y=some (.lst xs)) _ _ ⟨t1,m.keep.trans k1,?_,?_⟩ (q1 _)
 ·refine r1.same fun y o z=>?_;obtain⟨z1,z2⟩:=zh z;unfold lu;by_cases w:¬F.O0 y/\F.H0 y=none/\∃xs,H1 y=some (.lst xs)
  ·rw[if_pos w];exact z2
  ·rw[if_neg w,zH (p:=fun x=>¬F.O0 x) z1.1 z2];cases o with
   |lst xs=>
    exfalso
    cases q:F.H0 y with
    |none=>exact w ⟨z1.1,q,xs,z2⟩
    |some o'=>
     have:=m1.keep y o' q (m.tp.nt z1.1);rw[z2] at this;cases this;exact z1.2 xs q
   |_=>rfl
 ·exact fun x z=>z
end
def zR3 :R2:=fun x y H R=>rEq x y H R\/zT5 x y H R
def zP2 :R2:=fun x y H R=>rNe x y H R\/zN4 x y H R
theorem aN {X:Cx}(hu:X.A.units+64<cLine):OpR X (compareOp .Eq) zR3:=fun pins s σ H x y v u Q I rx ry h=>h.elim (fun h=>vA _ _ _ _ _ _ _ _ _ I rx ry h) fun h=>vQ hu _ _ _ _ _ _ _ _ _ I rx ry h
theorem bZ {X:Cx}(hu:X.A.units+64<cLine):OpR X (compareOp .NotEq) zP2:=fun pins s σ H x y v u Q I rx ry h=>h.elim (fun h=>zO7 _ _ _ _ _ _ _ _ _ I rx ry h) fun h=>zG1 hu _ _ _ _ _ _ _ _ _ I rx ry h
theorem zu8 {i j:Str}:Cmp rNe (.str i) (.str j) (!decide (i=j)):=fun p H vx vy R rx ry h=>by
 cases rx.str_inv;cases ry.str_inv;refine⟨rfl,?_⟩;rw[show decide (V.str i=V.str j)=decide (i=j) by simp];exact h
def lG (x y:PyData)(Q:Bool->Prop):Prop:=∃k,Cmp zR3 x y k/\Cmp zP2 x y (!k)/\Q k
theorem zs2 {i j:Int}{Q:Bool->Prop}(h:Q (decide (i=j))):lG (.int i) (.int j) Q:=⟨_,fun p H vx vy R rx ry z=>.inl (fv p H vx vy R rx ry z),fun p H vx vy R rx ry z=>.inl (zo2 p H vx vy R rx ry z),h⟩
theorem fV {i j:Str}{Q:Bool->Prop}(h:Q (decide (i=j))):lG (.str i) (.str j) Q:=⟨_,fun p H vx vy R rx ry z=>.inl (gY p H vx vy R rx ry z),fun p H vx vy R rx ry z=>.inl (zu8 p H vx vy R rx ry z),h⟩
theorem eqk {x y:PyData}{Q:Bool->Prop}(s1:SeqAt.shaped x=true)(s2:SeqAt.shaped y=true)(d1:x.hasDict=false)(d2:y.hasDict=false)(h:Q (PyData.eqv x y)):lG x y Q:=
 ⟨_,fun p H vx vy R rx ry z=>.inr ⟨x,y,(rx.dv d1).same xG,(ry.dv d2).same xG,s1,s2,z⟩,fun p H vx vy R rx ry z=>.inr ⟨x,y,(rx.dv d1).same xG,(ry.dv d2).same xG,s1,s2,z⟩,h⟩
section
variable {X:Cx}{α:Ev}{a b:Expr}{pos:Pos}{Q:PyData->Prop}{T:Bool->Prop}
theorem zC0 (hu:X.A.units+64<cLine)(h:EvD X α a fun x=>EvD X α b fun y=>lG x y fun k=>Q (.bool k)):EvD X α (.Compare a [.Eq] [b] pos) Q:=zf9 (aN hu) (zE _) (h.imp fun x h=>h.imp fun y ⟨k,e,_,q⟩=>⟨k,e,q⟩)
theorem zF0 (hu:X.A.units+64<cLine)(h:EvD X α a fun x=>EvD X α b fun y=>lG x y fun k=>Q (.bool (!k))):EvD X α (.Compare a [.NotEq] [b] pos) Q:=zf9 (bZ hu) (zE _) (h.imp fun x h=>h.imp fun y ⟨k,_,e,q⟩=>⟨!k,e,q⟩)
theorem zB3 (hu:X.A.units+64<cLine)(h:EvD X α a fun x=>EvD X α b fun y=>lG x y T):EvT X α (.Compare a [.Eq] [b] pos) T:=wF (aN hu) (zE _) (h.imp fun x h=>h.imp fun y ⟨k,e,_,q⟩=>⟨k,e,q⟩)
theorem zJ0 (hu:X.A.units+64<cLine)(h:EvD X α a fun x=>EvD X α b fun y=>lG x y fun k=>T (!k)):EvT X α (.Compare a [.NotEq] [b] pos) T:=wF (bZ hu) (zE _) (h.imp fun x h=>h.imp fun y ⟨k,_,e,q⟩=>⟨!k,e,q⟩)
theorem zR5 {k:Bool}{p q:Prop}(e:k=true)(h:p):if k=true then p else q:=by rw[if_pos e];exact h
theorem zM1 {k:Bool}{p q:Prop}(e:k=false)(h:q):if k=true then p else q:=by rw[if_neg (by rw[e];decide)];exact h
variable {E:xi}{s t:List Stmt}
theorem mI {k:Bool}(e:k=true)(h:SvS X α s E):SvS X α (if k=true then s else t) E:=by rw[if_pos e];exact h
theorem uj {k:Bool}(e:k=false)(h:SvS X α t E):SvS X α (if k=true then s else t) E:=by rw[if_neg (by rw[e];decide)];exact h
end
section
variable {X:Cx}{α:Ev}{a b:Expr}{pos:Pos}{Q:PyData->Prop}{T:Bool->Prop}
def zQ6 :R2:=fun x y H Q=>∃a v,x=.ref a/\gq H a y (some v)/\Q v H
theorem zt3 (hu:X.A.units+1<cLine):IxR X zQ6:=fun value slice pins s σ H x y v u Q I rx ry h hs=>by
 obtain⟨a,z,rfl,g,q⟩:=h;cases rx;exact tail_any (ja I g) PySem.F.slot_dict_getitem.lookup (eM hu I g ry fun w' s' I' r'=>⟨z,H,I',r',q⟩) hs
def dA (x y:PyData)(Q:PyData->Prop):Prop:=(∃ds i d,vb x=some ds/\y=.int i/\atI ds i=some d/\Q d)\/∃ds k d,x=xB ds/\y=vk k/\uV ds k=some d/\Q d
theorem ixk {x y:PyData}{ds:List PyData}{i:Int}{d:PyData}(h1:vb x=some ds)(h2:y=.int i)(h3:atI ds i=some d)(h:Q d):dA x y Q:=.inl ⟨ds,i,d,h1,h2,h3,h⟩
theorem tG {ds:List (PyData×PyData)}{k:Key}{d y:PyData}(h2:y=vk k)(h3:uV ds k=some d)(h:Q d):dA (xB ds) y Q:=.inr ⟨ds,k,d,rfl,h2,h3,h⟩
theorem mx {x:PyData}{ds:List PyData}{v:Int}(hx:vb x=some ds)(h0:0<=v)(h1:v<ds.length)(h:lI Q ds):dA x (.int v) Q:=.inl (zs4 hx h0 h1 h)
theorem zz1 {x:PyData}{ds:List PyData}{v:Int}(P:PyData->Prop)(hx:vb x=some ds)(h0:0<=v)(h1:v<ds.length)(h:lI P ds)(k:∀d,P d->Q d):dA x (.int v) Q:=.inl (aB P hx h0 h1 h k)
theorem aT (hu:X.A.units+1<cLine)(hs:rL b)(h:EvD X α a fun x=>EvD X α b fun y=>dA x y Q):EvD X α (.Subscript a b pos) Q:=by
 refine sA (f:=tOp (fun x y H Q=>rIx X.K x y H Q\/zQ6 x y H Q)) (zW (zE2.or (zt3 hu)) zk zk hs) (fun _ _ _=>Iff.rfl) (h.imp fun x h=>h.imp fun y h=>?_);intro F σ H vx vy R m rx ry k;rcases h with ⟨ds,i,d,e1,rfl,hat,hq⟩|⟨ds,kk,d,rfl,rfl,hv,hq⟩
 ·cases ry.int_inv;cases x with
  |list ds'=>
   cases e1;obtain⟨a,xs,rfl,h1,h2⟩:=rx.lst_inv;obtain⟨v,hv,av⟩:=h2.atI hat;exact .inl (.inl ⟨a,xs,i,v,rfl,rfl,SqL.of (zh h1).2,hv,k d v H hq m.tp Kz.refl av⟩)
  |tuple ds'=>
   cases e1;obtain⟨a,xs,rfl,h1,h2⟩:=rx.tup_inv;obtain⟨v,hv,av⟩:=h2.atI hat;exact .inl (.inr (.inl ⟨a,xs,i,v,rfl,rfl,SqT.of (zh h1).2,hv,k d v H hq m.tp Kz.refl av⟩))
  |_=>cases e1
 ·obtain⟨a,o,kvs,rfl,g1,g2⟩:=rx.dk_inv;obtain⟨v,w1,w2⟩:=g2.get hv;cases rB ry;exact .inr ⟨a,v,rfl,.inl ⟨kvs,kk,.inr ⟨o,(zh g1).2⟩,rfl,w1.symm⟩,k d v H hq m.tp Kz.refl w2⟩
def zt9 (K:PySem.W.Frag)(neg:Bool):R2:=fun x y H Q=>rIn K neg x y H Q\/∃a o,y=.ref a/\gq H a x o/\Q (.bl (if neg then !o.isSome else o.isSome)) H
theorem zE5 (hu:X.A.units+1<cLine):OpR X (compareOp .In) (zt9 X.K false):=fun pins s σ H x y v u Q I rx ry h=>by
 rcases h with h|⟨a,o,rfl,g,q⟩
 ·exact dS pins s σ H x y v u Q I rx ry h
 ·cases ry;exact zU7 hu I g rx fun s' I'=>⟨.bl o.isSome,H,I',rfl,q⟩
theorem eZ (hu:X.A.units+1<cLine):OpR X (compareOp .NotIn) (zt9 X.K true):=fun pins s σ H x y v u Q I rx ry h=>by
 rcases h with h|⟨a,o,rfl,g,q⟩
 ·exact nZ pins s σ H x y v u Q I rx ry h
 ·cases ry;exact zn6 hu I g rx fun s' I'=>⟨.bl (!o.isSome),H,I',rfl,q⟩
def aH (X:Cx)(x y:PyData)(Q:Bool->Prop):Prop:=∃k,Cmp (zt9 X.K false) x y k/\Cmp (zt9 X.K true) x y (!k)/\Q k
theorem ink {x:PyData}{ds:List PyData}(f1:sX x=true)(f2:ds.all sX=true)(q:T (inD x ds)):aH X x (.list ds) T:=
 ⟨_,fun p H vx vy R rx ry h=>.inl (aw (X:=X) (neg:=false) f1 f2 p H vx vy R rx ry h),fun p H vx vy R rx ry h=>.inl (aw (X:=X) (neg:=true) f1 f2 p H vx vy R rx ry h),q⟩
theorem lP {x:PyData}{ds:List (PyData×PyData)}{k:Key}(e:x=vk k)(q:T (uV ds k).isSome):aH X x (xB ds) T:=by
 subst e;have key:∀(p:Addr->Prop) (H:Hp) (vx vy:V),AV (sub p H) vx (vk k)->AV (sub p H) vy (xB ds)->∃a o,vy=.ref a/\gq H a vx o/\o.isSome=(uV ds k).isSome:=fun p H vx vy rx ry=>by
  obtain⟨a,o,kvs,rfl,g1,g2⟩:=ry.dk_inv;cases rB rx;exact⟨a,_,rfl,.inl ⟨kvs,k,.inr ⟨o,(zh g1).2⟩,rfl,rfl⟩,g2.some_iff k⟩
 refine⟨_,fun p H vx vy R rx ry h=>?_,fun p H vx vy R rx ry h=>?_,q⟩
 ·obtain⟨a,o,e1,e2,e3⟩:=key p H vx vy rx ry;exact .inr ⟨a,o,e1,e2,by rw[if_neg (by decide),e3];exact h⟩
 ·obtain⟨a,o,e1,e2,e3⟩:=key p H vx vy rx ry;exact .inr ⟨a,o,e1,e2,by rw[if_pos rfl,e3];exact h⟩
theorem zE4 (hu:X.A.units+1<cLine)(h:EvD X α a fun x=>EvD X α b fun y=>aH X x y T)(hm:behindInMarks .In b=false:=by rfl):EvT X α (.Compare a [.In] [b] pos) T:=
 wF (zE5 hu) hm (h.imp fun x h=>h.imp fun y ⟨k,e,_,q⟩=>⟨k,e,q⟩)
theorem zn9 (hu:X.A.units+1<cLine)(h:EvD X α a fun x=>EvD X α b fun y=>aH X x y fun k=>T (!k))(hm:behindInMarks .NotIn b=false:=by rfl):EvT X α (.Compare a [.NotIn] [b] pos) T:=
 wF (eZ hu) hm (h.imp fun x h=>h.imp fun y ⟨k,_,e,q⟩=>⟨!k,e,q⟩)
end
theorem zS.few {k:Nat}{A:Around}(h:zS k A):A.units+70<cLine:=by have:=h.un;omega
theorem zS.one {k:Nat}{A:Around}(h:zS k A):A.units+1<cLine:=by have:=h.units;omega
section
variable {X:Cx}{α:Ev}{E:xi}{rest body:List Stmt}{e c tg iter:Expr}{pos p:Pos}
theorem xf (pat:Pat)(h:EvI X α tg iter fun ds=>sZ X pat body rest E ds α)(hN:X.N.Nodup:=by assumption)(hp:PassesOwn (model X.prog X.w) X.A X.env X.xe:=by exact z60)(hc:X.calm=true:=by rfl)
  (hg:PG X tg (ky X.K pat):=by first|exact zU (by assumption) rfl (Or.inl rfl)|exact zU (by assumption) rfl (Or.inr rfl)|exact vS rfl rfl (by repeat (first|exact tR|refine xX (by first|exact zU (by assumption) rfl (Or.inl rfl)|exact zU (by assumption) rfl (Or.inr rfl)) ?_)))
  (hs:∀x,foldedSetIterable iter X.env x=pure x:=by intro _;rfl):SvS X α (.For tg iter body [] pos::rest) E:=vZ hp hc hg h hs
noncomputable def freeOk (xs:Scope)(y:Str×NameKind):Bool:=match y.2 with
 |.free=>match xs.names.lookup y.1 with
  |some .cell=>true
  |some .free=>true
  |_=>false
 |_=>true
theorem kl {xs scope:Scope}(h:scope.names.all (freeOk xs)=true):∀y∈scope.names,y.2=.free->xs.names.lookup y.1=some .cell\/xs.names.lookup y.1=some .free:=fun y hy e=>by
 have:=z81.mp h y hy;unfold freeOk at this;rw[e] at this;cases z:xs.names.lookup y.1 with
 |none=>rw[z] at this;cases this
 |some k=>
  rw[z] at this;cases k<;>first|exact .inl rfl|exact .inr rfl|cases this
theorem yX (N:List Str)(imp:List (Option Nat))(pat:Pat){scope:Scope}{elt:Expr}{ifs:List Expr}{Q:List PyData->Prop}(h:EvI X α tg iter fun ds=>ds.length<=1000/\xO (fun C s2 H2 fp=>X.comp N scope C s2 H2 fp) pat ifs elt (xh imp α) ds [] Q)
  (nd:N.Nodup:=by decide +kernel) (h1:scope.kind=.function:=by rfl) (h2:∀y∈scope.names,y.2≠.cell:=by decide +kernel) (h3:∀y∈scope.names,y.2=.local->scope.names.lookup y.1=some .local:=by decide +kernel) (h4:scope.names.all (freeOk X.env.scope)=true:=by rfl) (h5:imp.length=N.length:=by rfl)
  (h6:((imp.zip N).all fun p=>match p.1 with|none=>true|some j=>X.N[j]? == some p.2&&scope.names.lookup p.2 == some .free)=true:=by rfl) (hfree:pat.free (xh imp α)=true:=by rfl)
  (hg:∀C s2 H2 fp,N.Nodup->PG (X.comp N scope C s2 H2 fp) tg (ky X.K pat):=by intro _ _ _ _ hnd;first|exact zU hnd rfl (Or.inl rfl)|exact vS rfl rfl (by repeat (first|exact tR|refine xX (zU hnd rfl (Or.inl rfl)) ?_)))
  (hc:X.calm=true:=by rfl) (hs:∀x,foldedSetIterable iter X.env x=pure x:=by intro _;rfl):EvL X α (.ListComp elt [⟨tg,iter,ifs,0⟩] scope pos) Q:=aV hc ⟨h1,nd,h2,h3,kl h4,h5,h6⟩ hfree (fun C s2 H2 fp=>hg C s2 H2 fp nd) h hs
theorem zb2 (i:Nat)(N:List Str)(imp:List (Option Nat))(pat:Pat){x:Str}{pos' cpos:Pos}{scope:Scope}{elt:Expr}{ifs:List Expr}(h:EvI X α tg iter fun ds=>ds.length<=1000/\xO (fun C s2 H2 fp=>X.comp N scope C s2 H2 fp) pat ifs elt (xh imp α) ds [] fun ds=>SvS X (α.set i (some (.own ds))) rest E)
  (hN:X.N.Nodup:=by assumption)
  (nd:N.Nodup:=by decide +kernel) (h1:scope.kind=.function:=by rfl) (h2:∀y∈scope.names,y.2≠.cell:=by decide +kernel) (h3:∀y∈scope.names,y.2=.local->scope.names.lookup y.1=some .local:=by decide +kernel) (h4:scope.names.all (freeOk X.env.scope)=true:=by rfl) (h5:imp.length=N.length:=by rfl)
  (h6:((imp.zip N).all fun p=>match p.1 with|none=>true|some j=>X.N[j]? == some p.2&&scope.names.lookup p.2 == some .free)=true:=by rfl) (hfree:pat.free (xh imp α)=true:=by rfl)
  (hg:∀C s2 H2 fp,N.Nodup->PG (X.comp N scope C s2 H2 fp) tg (ky X.K pat):=by intro _ _ _ _ hnd;first|exact zU hnd rfl (Or.inl rfl)|exact vS rfl rfl (by repeat (first|exact tR|refine xX (zU hnd rfl (Or.inl rfl)) ?_)))
  (hc:X.calm=true:=by rfl)
  (hi:X.N[i]?=some x:=by rfl) (hx:Loc X.env.scope x:=by first|exact Or.inl rfl|exact Or.inr rfl) (hsw:swapsWith (.ListComp elt [⟨tg,iter,ifs,0⟩] scope cpos) (some (.Name x pos')) pos.line X.env=pure true:=by rfl)
  (hf:X.fn x=true\/X.env.scope.names.lookup x=some .local:=by first|exact .inl rfl|exact .inr rfl|assumption) (hs:∀x,foldedSetIterable iter X.env x=pure x:=by intro _;rfl):
  SvS X α (.Assign [.Name x pos'] (.ListComp elt [⟨tg,iter,ifs,0⟩] scope cpos) pos::rest) E:=aI i hN hc ⟨h1,nd,h2,h3,kl h4,h5,h6⟩ hfree (fun C s2 H2 fp=>hg C s2 H2 fp nd) h hi hx hsw hf hs
end
section
variable {Y:Addr->Shared->Hp->List Addr->Cx}{pat:Pat}{ifs:List Expr}{elt:Expr}{α0:Ev}{ι:Type}{g f:ι->PyData}{l:List ι}{acc:List PyData}{Q:List PyData->Prop}
theorem af (p:ι->Bool)(f:ι->PyData)(hs:∀x∈l,∃α1,pat.bind (g x) α0=some α1/\(∀C s2 H2 fp (Q:Bool->Prop),Q (p x)->bz (Y C s2 H2 fp) α1 ifs Q)/\(p x=true->∀C s2 H2 fp (Q:PyData->Prop),Q (f x)->EvD (Y C s2 H2 fp) α1 elt Q))
  (hd:Q (acc++(l.filter p).map f)):xO Y pat ifs elt α0 (l.map g) acc Q:=by
 induction l generalizing acc with
 |nil=>
  show Q acc;simpa using hd
 |cons d ds ih=>
  obtain⟨α1,e,h1,h2⟩:=hs d zY6;refine⟨α1,e,fun C s2 H2 fp=>h1 C s2 H2 fp _ ?_⟩;have ih':=fun acc=>ih (acc:=acc) fun d hd=>hs d (zY4 _ hd);cases hp:p d with
  |true=>
   rw[if_pos rfl];refine fun C s2 H2 fp=>h2 hp C s2 H2 fp _ (ih' _ ?_);simpa[yb2,hp] using hd
  |false=>
   rw[if_neg (by decide)];refine ih' _ ?_;simpa[yb2,hp] using hd
theorem zR (f:ι->PyData)(hs:∀x∈l,∃α1,pat.bind (g x) α0=some α1/\∀C s2 H2 fp (Q:PyData->Prop),Q (f x)->EvD (Y C s2 H2 fp) α1 elt Q)(hd:Q (acc++l.map f)):xO Y pat [] elt α0 (l.map g) acc Q:=
 af (fun _=>true) f (fun x hx=>by
  obtain⟨α1,h1,h2⟩:=hs x hx;exact⟨α1,h1,fun _ _ _ _ _ k=>nG k,fun _=>h2⟩) (by rw[List.filter_eq_self.mpr fun _ _=>rfl];exact hd)
end
abbrev Part :=Int×Int×Nat
abbrev Way :=Int×Int×Option Part
abbrev Co :=Nat->Int->Int->Option Int
inductive Cut (co:Co)(N:Nat):Int->Int->Int->List Part->Prop
 |nil (a:Int):Cut co N a a 0 []
 |cons {a e b x y:Int} {n:Nat} {ps:List Part} (h1:a<e) (h2:n<N) (h3:co n a e=some x) (h:Cut co N e b y ps):Cut co N a b (x+y) ((a,e,n)::ps)
section
variable {co:Co}{N:Nat}
theorem Cut.le {a b z:Int}{ps:List Part}(h:Cut co N a b z ps):a<=b:=by
 induction h with
 |nil a=>exact z31 _
 |cons h1 _ _ _ ih=>omega
theorem Cut.app {a b e z y:Int}{ps qs:List Part}(h:Cut co N a b z ps)(h':Cut co N b e y qs):Cut co N a e (z+y) (ps++qs):=by
 induction h with
 |nil a=>rw[Int.zero_add];exact h'
 |cons h1 h2 h3 _ ih=>rw[Int.add_assoc,z98];exact .cons h1 h2 h3 (ih h')
theorem Cut.snoc {a b e z x:Int}{n:Nat}{ps:List Part}(h:Cut co N a b z ps)(h1:b<e)(h2:n<N)(h3:co n b e=some x):Cut co N a e (z+x) (ps++[(b,e,n)]):=by
 have:=h.app (.cons h1 h2 h3 (.nil e))
 rwa [z99] at this
theorem Cut.last {a b z:Int}{ps:List Part}(h:Cut co N a b z ps):(ps=[]/\a=b/\z=0)\/∃qs d y x n,ps=qs++[(d,b,n)]/\Cut co N a d y qs/\d<b/\n<N/\co n d b=some x/\z=y+x:=by
 induction h with
 |nil a=>exact .inl ⟨rfl,rfl,rfl⟩
 |@cons a e b x y n ps h1 h2 h3 h ih=>
  right;rcases ih with ⟨rfl,rfl,rfl⟩|⟨qs,d,y',x',m,rfl,c,hd,hm,hx,rfl⟩
  ·exact⟨[],a,0,x,n,rfl,.nil a,h1,h2,h3,by omega⟩
  ·exact⟨(a,e,n)::qs,d,x+y',x',m,rfl,.cons h1 h2 h3 c,hd,hm,hx,by omega⟩
theorem Cut.len {a b z:Int}{ps:List Part}(h:Cut co N a b z ps):(ps.length:Int)<=b-a:=by
 induction h with
 |nil a=>simp
 |cons h1 _ _ _ ih=>rw[zY9];omega
def mM (co:Co)(N:Nat)(a b z:Int):Prop:=(∃ps,Cut co N a b z ps)/\∀y ps,Cut co N a b y ps->z<=y
noncomputable def ltQ (x y:Part):Bool:=decide (x.1<y.1)||(decide (x.1=y.1)&&(decide (x.2.1<y.2.1)||(decide (x.2.1=y.2.1)&&decide (x.2.2<y.2.2))))
noncomputable def ltP (x y:Int×Part):Bool:=decide (x.1<y.1)||(decide (x.1=y.1)&&ltQ x.2 y.2)
noncomputable def jz :List (Int×Part)->Int×Part
 |[]=>(0,0,0,0)
 |d::ds=>ds.foldl (fun b x=>if ltP x b=true then x else b) d
theorem zT1 {x y:Int×Part}(h:ltP x y=true):x.1<=y.1:=by
 unfold ltP at h;simp only[z67,zZ9,z07] at h;omega
theorem zP3 {x y:Int×Part}(h:¬ltP x y=true):y.1<=x.1:=by
 unfold ltP at h;simp only[z67,zZ9,z07,not_or] at h;omega
theorem fj :∀(ds:List (Int×Part)) (d:Int×Part),(ds.foldl (fun b x=>if ltP x b=true then x else b) d=d\/ds.foldl (fun b x=>if ltP x b=true then x else b) d∈ds)/\(ds.foldl (fun b x=>if ltP x b=true then x else b) d).1<=d.1/\∀x∈ds,(ds.foldl (fun b x=>if ltP x b=true then x else b) d).1<=x.1
 |[],d=>⟨.inl rfl,z31 _,fun x hx=>by simp at hx⟩
 |y::ds,d=>by
  rw[yc5];obtain⟨h1,h2,h3⟩:=fj ds (if ltP y d=true then y else d);by_cases h:ltP y d=true
  ·rw[if_pos h] at h1 h2 h3 ⊢;have:=zT1 h;refine⟨.inr ?_,by omega,fun x hx=>?_⟩
   ·rcases h1 with e|e
    ·rw[e];exact zY6
    ·exact zY4 _ e
   ·rcases zY1.mp hx with rfl|hx
    ·exact h2
    ·exact h3 x hx
  ·rw[if_neg h] at h1 h2 h3 ⊢;have:=zP3 h;refine⟨h1.imp id fun e=>zY4 _ e,h2,fun x hx=>?_⟩;rcases zY1.mp hx with rfl|hx
   ·omega
   ·exact h3 x hx
theorem bJ {ds:List (Int×Part)}(h:ds≠[]):jz ds∈ds:=by
 cases ds with
 |nil=>exact absurd rfl h
 |cons d ds=>
  rcases (fj ds d).1 with e|e
  ·show List.foldl _ d ds∈_;rw[e];exact zY6
  ·exact zY4 _ e
theorem zq0 {ds:List (Int×Part)}{x:Int×Part}(h:x∈ds):(jz ds).1<=x.1:=by
 cases ds with
 |nil=>simp at h
 |cons d ds=>
  rcases zY1.mp h with rfl|h
  ·exact (fj ds x).2.1
  ·exact (fj ds d).2.2 x h
noncomputable def bB (co:Co)(N:Nat)(day:Int)(w:Way):List (Int×Part):=(List.range N).filterMap fun n=>(co n w.1 day).map fun x=>(w.2.1+x,(w.1,day,n))
noncomputable def sH (co:Co)(N:Nat)(W:List Way)(day:Int):List (Int×Part):=W.flatMap (bB co N day)
theorem nB {W:List Way}{day:Int}{p:Int×Part}:p∈sH co N W day↔∃w∈W,∃n x,n<N/\co n w.1 day=some x/\p=(w.2.1+x,(w.1,day,n)):=by
 unfold sH bB;simp only[List.mem_flatMap,yg4,yg2,zZ2]
 constructor
 ·rintro⟨w,hw,n,hn,x,hx,rfl⟩;exact⟨w,hw,n,x,hn,hx,rfl⟩
 ·rintro⟨w,hw,n,x,hn,hx,rfl⟩;exact⟨w,hw,n,hn,x,hx,rfl⟩
noncomputable def lj (co:Co)(N:Nat)(W:List Way)(day:Int):List Way:=if sH co N W day=[] then W else W++[(day,(jz (sH co N W day)).1,some (jz (sH co N W day)).2)]
noncomputable def yq (co:Co)(N:Nat)(c:Int):Nat->List Way
 |0=>[(c,0,none)]
 |k+1=>lj co N (yq co N c k) (c+1+k)
noncomputable def yy (W:List Way)(d:Int):Option (Int×Option Part):=(W.find? fun w=>decide (w.1=d)).map (·.2)
structure vq (co:Co)(N:Nat)(c:Int)(k:Nat)(W:List Way):Prop where
 first:∃r,W=(c,0,none)::r/\∀w∈r,c<w.1
 top:∀w∈W,w.1<=c+k
 sort:(W.map (·.1)).Pairwise (·<·)
 step:∀w∈W,w=(c,0,none)\/∃u∈W,∃n y,u.1<w.1/\n<N/\co n u.1 w.1=some y/\w=(w.1,u.2.1+y,some (u.1,w.1,n))
 shut:∀u∈W,∀d n y,u.1<d->d<=c+k->n<N->co n u.1 d=some y->∃w∈W,w.1=d/\w.2.1<=u.2.1+y
theorem vq.low {c:Int}{k:Nat}{W:List Way}(h:vq co N c k W):∀w∈W,c<=w.1:=fun w hw=>by
 obtain⟨r,rfl,hr⟩:=h.first;rcases zY1.mp hw with rfl|hw
 ·exact z31 _
 ·have:=hr w hw;omega
theorem zu3 (c:Int):∀k,vq co N c k (yq co N c k)
 |0=>by
  refine⟨⟨[],rfl,fun w hw=>by simp at hw⟩,fun w hw=>?_,by simp[yq],fun w hw=>?_,fun u hu d n y h1 h2 _ _=>?_⟩
  ·rw[zZ0.mp hw];simp
  ·exact .inl (zZ0.mp hw)
  ·rw[zZ0.mp hu] at h1;simp only[Int.natCast_zero,z99] at h2;have h1':c<d:=h1;omega
 |k+1=>by
  have ih:=zu3 c k;unfold yq lj;generalize yq co N c k=W at ih;obtain⟨r,hr,hr1⟩:=ih.first;by_cases e:sH co N W (c+1+k)=[]
  ·rw[if_pos e];refine⟨ih.first,fun w hw=>by have:=ih.top w hw;omega,ih.sort,ih.step,fun u hu d n y h1 h2 h3 h4=>?_⟩;by_cases hd:d<=c+k
   ·exact ih.shut u hu d n y h1 hd h3 h4
   ·have:d=c+1+k:=by omega
    subst this;have:=nB.mpr ⟨u,hu,n,y,h3,h4,rfl⟩;rw[e] at this;simp at this
  ·rw[if_neg e];have hm:=bJ e;obtain⟨u0,hu0,n0,y0,hn0,hy0,em⟩:=nB.mp hm;refine⟨?_,fun w hw=>?_,?_,fun w hw=>?_,fun u hu d n y h1 h2 h3 h4=>?_⟩
   ·rw[hr];refine⟨r++[_],rfl,fun w hw=>?_⟩;rcases z36.mp hw with hw|hw
    ·exact hr1 w hw
    ·rw[zZ0.mp hw];show c<c+1+k;omega
   ·rcases z36.mp hw with hw|hw
    ·have:=ih.top w hw;omega
    ·rw[zZ0.mp hw];show c+1+k<=c+((k+1:Nat):Int);omega
   ·rw[z03,List.pairwise_append];refine⟨ih.sort,by simp,fun a ha b hb=>?_⟩;obtain⟨w,hw,rfl⟩:=z09.mp ha;have:=ih.top w hw;rw[zZ6,yc9,zZ0] at hb;have hb:b=c+1+k:=hb;omega
   ·rcases z36.mp hw with hw|hw
    ·rcases ih.step w hw with h|⟨u,hu,n,y,h⟩
     ·exact .inl h
     ·exact .inr ⟨u,z64 _ hu,n,y,h⟩
    ·rw[zZ0.mp hw];refine .inr ⟨u0,z64 _ hu0,n0,y0,?_,hn0,hy0,?_⟩
     ·have:=ih.top u0 hu0;show u0.1<c+1+k;omega
     ·rw[em]
   ·have key:∀u∈W,u.1<d->∃w∈W++[(c+1+(k:Int),(jz (sH co N W (c+1+k))).1,some (jz (sH co N W (c+1+k))).2)],w.1=d/\(co n u.1 d=some y->w.2.1<=u.2.1+y)\/¬co n u.1 d=some y:=fun u hu h1=>by
     by_cases h4:co n u.1 d=some y
     ·by_cases hd:d<=c+k
      ·obtain⟨w,hw,e1,e2⟩:=ih.shut u hu d n y h1 hd h3 h4;exact⟨w,z64 _ hw,.inl ⟨e1,fun _=>e2⟩⟩
      ·have:d=c+1+k:=by omega
       subst this;exact⟨_,z21 _ (zZ0.mpr rfl),.inl ⟨rfl,fun _=>zq0 (nB.mpr ⟨u,hu,n,y,h3,h4,rfl⟩)⟩⟩
     ·exact⟨_,z21 _ (zZ0.mpr rfl),.inr h4⟩
    rcases z36.mp hu with hu|hu
    ·obtain⟨w,hw,h|h⟩:=key u hu h1
     ·exact⟨w,hw,h.1,h.2 h4⟩
     ·exact absurd h4 h
    ·rw[zZ0.mp hu] at h1;have h1:c+1+(k:Int)<d:=h1;omega
theorem vq.uniq {c:Int}{k:Nat}{W:List Way}(h:vq co N c k W){u w:Way}(hu:u∈W)(hw:w∈W)(e:u.1=w.1):u=w:=by
 have hs:=h.sort;clear h
 induction W with
 |nil=>simp at hu
 |cons a W ih=>
  rw[zZ6,z73] at hs;rcases zY1.mp hu with rfl|hu'
  ·rcases zY1.mp hw with rfl|hw'
   ·rfl
   ·have:=hs.1 w.1 (z09.mpr ⟨w,hw',rfl⟩);omega
  ·rcases zY1.mp hw with rfl|hw'
   ·have:=hs.1 u.1 (z09.mpr ⟨u,hu',rfl⟩);omega
   ·exact ih hu' hw' hs.2
theorem find_some {W:List Way}{d:Int}{x:Int}{l:Option Part}(h:yy W d=some (x,l)):(d,x,l)∈W:=by
 unfold yy at h;obtain⟨w,hw,e⟩:=zZ2.mp h;have h1:=List.find?_some hw;rw[z07] at h1;have h2:=List.mem_of_find?_eq_some hw;rw[show (d,x,l)=w by rw[<-h1,<-e]];exact h2
theorem find_none {W:List Way}{d:Int}(h:yy W d=none):∀w∈W,w.1≠d:=fun w hw e=>by
 unfold yy at h;rw[Option.map_eq_none_iff,List.find?_eq_none] at h;have:=h w hw;rw[z33 e] at this;exact this rfl
theorem vq.find {c:Int}{k:Nat}{W:List Way}(h:vq co N c k W){d x:Int}{l:Option Part}(hw:(d,x,l)∈W):yy W d=some (x,l):=by
 cases e:yy W d with
 |none=>exact absurd rfl (find_none e _ hw)
 |some p=>
  have:=h.uniq (find_some e) hw rfl;rw[show p=(x,l) by injection this]
theorem vq.least {c:Int}{k:Nat}{W:List Way}(h:vq co N c k W):∀(m:Nat) {d z:Int} {ps:List Part},ps.length=m->Cut co N c d z ps->d<=c+k->∃w∈W,w.1=d/\w.2.1<=z
 |0,d,z,ps,hl,hc,hd=>by
  rcases hc.last with ⟨_,rfl,rfl⟩|⟨qs,_,_,_,_,rfl,_⟩
  ·obtain⟨r,rfl,_⟩:=h.first;exact⟨_,zY6,rfl,z31 _⟩
  ·simp at hl
 |m+1,d,z,ps,hl,hc,hd=>by
  rcases hc.last with ⟨rfl,_⟩|⟨qs,b,y,x,n,rfl,hc',hb,hn,hx,rfl⟩
  ·simp at hl
  ·obtain⟨u,hu,rfl,hle⟩:=h.least m (by simpa using hl) hc' (by omega);obtain⟨w,hw,e1,e2⟩:=h.shut u hu d n x hb hd hn hx;exact⟨w,hw,e1,by omega⟩
noncomputable def vC (W:List Way)(c:Int):Nat->Int->List Part
 |0,_=>[]
 |f+1,d=>if d=c then [] else match yy W d with
  |some (_,some p)=>p::vC W c f p.1
  |_=>[]
theorem vq.back {c:Int}{k:Nat}{W:List Way}(h:vq co N c k W):∀(f:Nat) {d x:Int} {l:Option Part},(d,x,l)∈W->d-c<=f->Cut co N c d x (vC W c f d).reverse
 |0,d,x,l,hw,hf=>by
  have:=h.low _ hw;have hd:d=c:=by simp only[Int.natCast_zero] at hf;have:c<=d:=this;omega
  subst hd;obtain⟨r,hr,_⟩:=h.first;have:=h.uniq (w:=(d,0,none)) hw (by rw[hr];exact zY6) rfl;injection this with _ e;injection e with e _;subst e;exact .nil _
 |f+1,d,x,l,hw,hf=>by
  rw[vC];rcases h.step _ hw with e|⟨u,hu,n,y,h1,h2,h3,e⟩
  ·injection e with e1 e2;injection e2 with e2 _;subst e1 e2;rw[if_pos rfl];exact .nil _
  ·have hlu:=h.low u hu;have h1:u.1<d:=h1;have h3:co n u.1 d=some y:=h3;have e:(d,x,l)=(d,u.2.1+y,some (u.1,d,n)):=e;injection e with _ e;injection e with e e';subst e e';rw[if_neg (by omega),h.find hw];show Cut co N c d _ ((u.1,d,n)::vC W c f u.1).reverse;rw[yd8];exact (h.back f (d:=u.1) (x:=u.2.1) (l:=u.2.2) hu (by omega)).snoc h1 h2 h3
noncomputable def qH (W:List Way):List Int:=W.map (·.2.1)
noncomputable def mf (W:List Way)(hi:Int)(d:Int):Int:=match yy W d with
 |some (x,_)=>x
 |none=>hi
end
theorem zu9 (a:Int)(k:Nat):zq a (k+1)=zq a k++[a+(k:Nat)]:=by
 unfold zq;rw[yf4,z03];rfl
theorem zG4 (f:Int->Int)(a:Int):∀k:Nat,((zq a k).map fun d=>f (d+1)-f d).sum=f (a+k)-f a
 |0=>by simp[zq]
 |k+1=>by
  rw[zu9,z03,List.sum_append,zG4 f a k];simp only[zZ6,yc9,z39,List.sum_nil];rw[show a+((k+1:Nat):Int)=a+k+1 by omega];omega
theorem zC3 (a:Int){n i k:Nat}(h:i+k<=n):((zq a n).drop i).take k=zq (a+i) k:=by
 refine List.ext_getElem? fun j=>?_;rw[List.getElem?_take];split
 ·rename_i hj;rw[ya5,zY (by omega),zY hj]
  congr 1
  omega
 ·rw[z62 (by rw[zc];omega)]
theorem zp5 :∀{zs:List Int} {z:Int},z∈zs->z<=tI zs:=by
 intro zs z h;cases zs with
 |nil=>simp at h
 |cons d ds=>
  have key:∀(l:List Int) (m:Int),m<=l.foldl (fun b x=>if b<x then x else b) m/\∀y∈l,y<=l.foldl (fun b x=>if b<x then x else b) m:=by
   intro l
   induction l with
   |nil=>exact fun m=>⟨z31 _,fun y hy=>by simp at hy⟩
   |cons x l ih=>
    intro m;rw[yc5];obtain⟨h1,h2⟩:=ih (if m<x then x else m);have hm:m<=(if m<x then x else m)/\x<=(if m<x then x else m):=by split<;>omega
    refine⟨by omega,fun y hy=>?_⟩;rcases zY1.mp hy with rfl|hy
    ·omega
    ·exact h2 y hy
  have:=key ds d;rcases zY1.mp h with rfl|h
  ·exact this.1
  ·exact this.2 z h
theorem zn1 {zs:List Int}(h:zs≠[]):tI zs∈zs:=by
 cases zs with
 |nil=>exact absurd rfl h
 |cons d ds=>
  have key:∀(l:List Int) (m:Int),l.foldl (fun b x=>if b<x then x else b) m=m\/l.foldl (fun b x=>if b<x then x else b) m∈l:=by
   intro l
   induction l with
   |nil=>exact fun m=>.inl rfl
   |cons x l ih=>
    intro m;rw[yc5];rcases ih (if m<x then x else m) with e|e
    ·rw[e];split
     ·exact .inr zY6
     ·exact .inl rfl
    ·exact .inr (zY4 _ e)
  rcases key ds d with e|e
  ·show List.foldl _ d ds∈_;rw[e];exact zY6
  ·exact zY4 _ e
theorem ng (ds:List PyData){a:Int}(h:0<=a):cutD ds (some a) none=ds.drop a.toNat:=by
 obtain⟨n,rfl⟩:=z79 h;unfold cutD;rw[HT.zn3,HT.jj,z42];rcases Nat.le_total n ds.length with z|z
 ·rw[Nat.min_eq_left z,List.take_of_length_le (by rw[z55];omega)]
 ·rw[Nat.min_eq_right z,List.drop_eq_nil_of_le (zY2 _),List.drop_eq_nil_of_le z,List.take_nil]
theorem jb (ds:List PyData):cutD ds none (some (-1))=ds.take (ds.length-1):=by
 unfold cutD;rw[HT.jj];have:HT.sIx ds.length ds.length (some (-1))=ds.length-1:=by
  show (if (-1:Int)<0 then ((-1:Int)+(ds.length:Int)).toNat else min (-1:Int).toNat ds.length)=_;rw[if_pos (by decide)];omega
 rw[this,List.drop_zero,Nat.sub_zero]
theorem bQ (f:Int->Int)(c:Int)(n:Nat):cT (cutD (((zq c (n+1)).map f).map PyData.int) none (some (-1))) (cutD (((zq c (n+1)).map f).map PyData.int) (some 1) none)=(zq c n).map fun d=>.tuple [.int (f d),.int (f (d+1))]:=by
 rw[jb,ng _ (by decide)];unfold cT;refine List.ext_getElem? fun j=>?_;rw[List.getElem?_zipWith];simp only[zX5,zc,List.getElem?_take,ya5,zY3];by_cases h:j<n
 ·rw[if_pos (by omega),zY (by omega),zY h,show (1:Int).toNat+j=j+1 from by rw[Nat.add_comm];rfl,zY (by omega)];show some _=some _;rw[show c+((j+1:Nat):Int)=c+(j:Nat)+1 by omega]
 ·rw[if_neg (by omega),z62 (l:=zq c n) (by rw[zc];omega)];rfl
section
variable {co:Co}{N:Nat}
noncomputable def zx1 (W:List Way):Int:=tI (qH W)
noncomputable def hW (W:List Way)(d:Int):Int:=mf W (zx1 W) d
noncomputable def wH (W:List Way)(c:Int)(n:Nat):List Int:=(zq c n).map fun d=>hW W (d+1)-hW W d
theorem ve {W:List Way}{d x:Int}{l:Option Part}(h:yy W d=some (x,l)):hW W d=x:=by unfold hW mf;rw[h]
theorem rK {W:List Way}{d:Int}(h:yy W d=none):hW W d=zx1 W:=by unfold hW mf;rw[h]
theorem zO1 (W:List Way)(d:Int):hW W d<=zx1 W:=by
 cases e:yy W d with
 |none=>rw[rK e];exact z31 _
 |some p=>
  rw[ve (x:=p.1) (l:=p.2) e];exact zp5 (z09.mpr ⟨_,find_some (x:=p.1) (l:=p.2) e,rfl⟩)
theorem cj (W:List Way)(c:Int)(n:Nat):(wH W c n).length=n:=by unfold wH;rw[zX5,zc]
theorem dP (W:List Way)(c:Int)(n:Nat):(wH W c n).sum=hW W (c+n)-hW W c:=zG4 _ _ _
theorem dR {W:List Way}{c:Int}{n i k:Nat}(h:i+k<=n):(((wH W c n).drop i).take k).sum=hW W (c+i+k)-hW W (c+i):=by
 unfold wH;rw[<-List.map_drop,<-List.map_take,zC3 c h,zG4]
theorem vq.zero {c:Int}{k:Nat}{W:List Way}(h:vq co N c k W):yy W c=some (0,none):=h.find (by
 obtain⟨r,rfl,_⟩:=h.first;exact zY6)
theorem vq.had {c:Int}{k:Nat}{W:List Way}(h:vq co N c k W){x:Int}{l:Option Part}(e:yy W (c+k)=some (x,l)):mM co N c (c+k) x:=by
 have hw:=find_some e;refine⟨⟨_,h.back k hw (by omega)⟩,fun y ps hc=>?_⟩;obtain⟨w,hw',e1,e2⟩:=h.least _ rfl hc (z31 _);have:=h.uniq hw hw' e1.symm;rw[show x=w.2.1 by rw[<-this]];exact e2
theorem vq.off {c:Int}{k:Nat}{W:List Way}(h:vq co N c k W)(e:yy W (c+k)=none){z:Int}{ps:List Part}:¬Cut co N c (c+k) z ps:=fun hc=>by
 obtain⟨w,hw,e1,_⟩:=h.least _ rfl hc (z31 _);exact find_none e w hw e1
noncomputable def xg (p:Part):PyData:=.tuple [.int p.1,.int p.2.1,.int p.2.2]
noncomputable def zi7 :Option Part->PyData
 |none=>.none
 |some p=>xg p
noncomputable def rp (w:Way):PyData×PyData:=(.int w.1,.tuple [.int w.2.1,zi7 w.2.2])
noncomputable def vc (p:Int×Part):PyData:=.tuple [.int p.1,xg p.2]
theorem xF (d:Int):∀W:List Way,uV (W.map rp) (.inl d)=(yy W d).map fun p=>.tuple [.int p.1,zi7 p.2]
 |[]=>rfl
 |w::W=>by
  rw[zZ6];unfold rp;rw[uV];unfold yy;rw[z54];show (if decide (w.1=d)=true then _ else _)=_;by_cases h:w.1=d
  ·rw[z33 h,if_pos rfl];rfl
  ·rw[z08 h,if_neg (by decide)];exact xF d W
theorem zl8 {W:List Way}{d x:Int}{l:Option Part}(h:yy W d=none):putD (W.map rp) (.inl d) (.tuple [.int x,zi7 l])=(W++[(d,x,l)]).map rp:=by
 unfold putD;rw[xF,h,Option.map_none,if_neg (by decide),z03];rfl
theorem ao (p q:Part):PyData.eqv (xg p) (xg q)=decide (p=q):=by
 obtain⟨a,b,n⟩:=p;obtain⟨a',b',n'⟩:=q;have:PyData.eqv (xg (a,b,n)) (xg (a',b',n'))=(decide (a=a')&&(decide (b=b')&&(decide ((n:Int)=n')&&true))):=by
  rw[<-vp,<-vp,<-vp];rfl
 rw[this];by_cases h1:a=a'<;>by_cases h2:b=b'<;>by_cases h3:n=n'<;>simp[h1,h2,h3]<;>omega
theorem zw1 (p q:Part):ltD (xg p) (xg q)=some (ltQ p q):=by
 obtain⟨a,b,n⟩:=p;obtain⟨a',b',n'⟩:=q;unfold xg ltD;simp only[jW,vp,ltQ];by_cases h1:a=a'
 ·subst h1;by_cases h2:b=b'
  ·subst h2;by_cases h3:(n:Int)=n'
   ·have:n=n':=by omega
    subst this;simp
   ·simp only[decide_true,ya0,z08 h3,z30,z72,ltD,Int.lt_irrefl,decide_false,z91,z28];rw[show decide ((n:Int)<n')=decide (n<n') by by_cases h:n<n'<;>simp[h]]
  ·simp only[decide_true,ya0,z08 h2,z30,z72,ltD,Int.lt_irrefl,decide_false,z91,z28,z26,yb5]
 ·simp only[z08 h1,z30,z72,ltD,z26,yb5]
theorem aS (p q:Int×Part):ltD (vc p) (vc q)=some (ltP p q):=by
 obtain⟨z,p⟩:=p;obtain⟨y,q⟩:=q;unfold vc ltD;simp only[jW,vp,ltP,ao];by_cases h1:z=y
 ·subst h1;by_cases h2:p=q
  ·subst h2;simp[ltQ]
  ·simp only[decide_true,ya0,z08 h2,z30,z72,zw1,Int.lt_irrefl,decide_false,z91,z28]
 ·simp only[z08 h1,z30,z72,ltD,z26,yb5]
theorem zp1 :∀{ds:List (Int×Part)},ds≠[]->minD (ds.map vc)=vc (jz ds)
 |[],h=>absurd rfl h
 |d::ds,_=>by
  show List.foldl _ (vc d) (ds.map vc)=vc (List.foldl _ d ds);rename_i hh;clear hh
  induction ds generalizing d with
  |nil=>rfl
  |cons x ds ih=>
   rw[zZ6,yc5,yc5,aS];show List.foldl _ (if ltP x d=true then vc x else vc d) _=_;rw[<-ih];split<;>rfl
theorem zf4 (ds:List (Int×Part)):zD1 (ds.map vc):=fun x hx y hy=>by
 obtain⟨p,_,rfl⟩:=z09.mp hx;obtain⟨q,_,rfl⟩:=z09.mp hy;rw[aS];rfl
noncomputable def kq (co:Co)(N:Nat)(c g:Int):PyData:=
 match yy (yq co N c (g-c).toNat) g with
 |none=>.tuple [.str "off",.list ((yq co N c (g-c).toNat).map fun w=>.int w.1)]
 |some (x,_)=>.tuple [.str "had",.int x,.list ((vC (yq co N c (g-c).toNat) c (g-c).toNat g).reverse.map xg),.list ((wH (yq co N c (g-c).toNat) c (g-c).toNat).map .int)]
end
section
variable {X:Cx}{α:Ev}{a b e:Expr}{pos p:Pos}{Q:PyData->Prop}
theorem fits_of {ns:List Int}{B:Int}(h:∀n∈ns,-B<=n/\n<=B)(hb:0<=B)(hB:B<=1000000000000000)(hl:ns.length<=1000):(∀n∈ns,-(2 ^ 62)<=n/\n<2 ^ 62)/\Fits ns:=by
 refine⟨fun n hn=>by have:=h n hn;omega,fun k hk=>?_⟩;have key:∀l:List Int,(∀n∈l,-B<=n/\n<=B)->-(B*l.length)<=l.sum/\l.sum<=B*l.length:=by
  intro l
  induction l with
  |nil=>intro _;simp
  |cons x l ih=>
   intro hl;have h1:=hl x zY6;have h2:=ih fun n hn=>hl n (zY4 _ hn);rw[z39,zY9,z77,z71];simp only[Int.natCast_one,Int.mul_one];omega
 have h1:=key (ns.take k) fun n hn=>h n (yb4 hn);have h2:B*((ns.take k).length:Int)<=1000000000000000*1000:=Int.mul_le_mul hB (by rw[z04];omega) (Int.natCast_nonneg _) (by decide);omega
theorem zy3 (B:Int)(hc:X.calm=true)(hg:Gl X "sum")(hm:X.mg "sum"=none)(h:EvD X α e fun x=>∃ns:List Int,x=.list (ns.map .int)/\(∀n∈ns,-B<=n/\n<=B)/\ns.length<=1000/\Q (.int ns.sum))(hb:0<=B/\B<=1000000000000000:=by decide)(he:starEach [e] X.env=(false,eval e X.env)::starEach [] X.env:=by rfl):
  EvD X α (.Call (.Name "sum" p) [e] [] pos) Q:=
 nL hc hg hm (h.imp fun x ⟨ns,e1,h1,h2,q⟩=>⟨ns,e1,(fits_of h1 hb.1 hb.2 h2).1,(fits_of h1 hb.1 hb.2 h2).2,q⟩) he
end
section
variable {X:Cx}{α:Ev}{a b c e:Expr}{pos p:Pos}{Q:PyData->Prop}{T:Bool->Prop}
theorem zq2 (h:EvD X α a fun x=>EvD X α b fun y=>∃i j,x=.int i/\y=.int j/\(if decide (i<=j)=true then EvD X α c fun z=>∃k,z=.int k/\Q (.bool (decide (j<k))) else Q (.bool false)))(hm:lastMarks [.LtE,.Lt] [b,c]=false:=by rfl):EvD X α (.Compare a [.LtE,.Lt] [b,c] pos) Q:=zf5 sW gZ hm h
theorem zm7 :OpR X (compareOp .IsNot) (fun x y H Q=>∃i j,x=.bl i/\y=.bl j/\Q (.bl (i != j)) H):=by
 intro pins s σ H x y v u Q I rx ry h;obtain⟨i,j,rfl,rfl,q⟩:=h;cases rx;cases ry;exact isnot_bool (zK I q rfl)
theorem zi5 (h:EvD X α a fun x=>EvD X α b fun y=>∃i j,x=.bool i/\y=.bool j/\T (i != j)):EvT X α (.Compare a [.IsNot] [b] pos) T:=
 wF zm7 (zE _) (h.imp fun x h=>h.imp fun y ⟨i,j,e1,e2,q⟩=>⟨i != j,fun p H vx vy R rx ry z=>by
  subst e1 e2;cases rx.bl_inv;cases ry.bl_inv;exact⟨i,j,rfl,rfl,z⟩,q⟩)
end
section
variable {X:Cx}{α:Ev}{a b c e:Expr}{pos p p2 pos2:Pos}{Q:PyData->Prop}{T:Bool->Prop}
end
section
variable {X:Cx}{α:Ev}{a b c d e:Expr}{pos p:Pos}{ta tb tc td:TE}{T:Bool->Prop}
def zp2 (r r' r2:R2)(ta tb tc td:TE):TE:=fun σ H Q=>ta σ H fun x H1=>tb σ H1 fun y H2=>r x y H2 fun z H3=>∃k,z=.bl k/\
 (if k=true then tc σ H3 fun w' H4=>r' y w' H4 fun z' H5=>∃k',z'=.bl k'/\(if k'=true then td σ H5 fun u H6=>r2 w' u H6 Q else Q (.bl false) H5) else Q (.bl false) H3)
theorem bj {op op' op2:CmpOp}{r r' r2:R2}(ho:OpR X (compareOp op) r)(ho':OpR X (compareOp op') r')(ho2:OpR X (compareOp op2) r2)(ha:PE X a ta)(hb:PE X b tb)(hc:PE X c tc)(hd:PE X d td)
  (hm:lastMarks [op,op',op2] [b,c,d]=false):PT X (.Compare a [op,op',op2] [b,c,d] pos) (zB0 (zp2 r r' r2 ta tb tc td)):=by
 intro pins s σ H Q I h;refine isTrue_chain (thn (ha pins s σ H _ I h) fun v s1 ⟨x,H1,I1,r1,q1⟩=>test_link (thn (hb pins s1 σ H1 _ I1 q1) fun u s2 ⟨y,H2,I2,r2,q2⟩=>
  thn (ho pins s2 σ H2 x y v u _ I2 r1 r2 q2) fun d s3 ⟨z,H3,I3,r3,k,e,q3⟩=>?_)) hm
 subst e;cases r3;refine z32 ?_;cases k with
 |false=>
  obtain⟨k',e',q'⟩:=q3;cases e';exact ite_ff ⟨H3,I3,q'⟩
 |true=>
  refine ite_tt (test_link (thn (hc pins s3 σ H3 _ I3 q3) fun w' s4 ⟨z',H4,I4,r4,q4⟩=>thn (ho' pins s4 σ H4 y z' u w' _ I4 r2 r4 q4) fun d' s5 ⟨z2,H5,I5,r5,k2,e2,q5⟩=>?_));subst e2;cases r5;refine z32 ?_;cases k2 with
  |false=>
   obtain⟨k',e',q'⟩:=q5;cases e';exact ite_ff ⟨H5,I5,q'⟩
  |true=>
   refine ite_tt (test_last (thn (hd pins s5 σ H5 _ I5 q5) fun w2 s6 ⟨z3,H6,I6,r6,q6⟩=>thn (ho2 pins s6 σ H6 z' z3 w' w2 _ I6 r4 r6 q6) fun d' s7 ⟨z4,H7,I7,r7,k3,e3,q7⟩=>?_));subst e3;cases r7;exact z32 ⟨H7,I7,q7⟩
theorem cH (h:EvD X α a fun x=>EvD X α b fun y=>∃i j,x=.int i/\y=.int j/\(if decide (i<=j)=true then EvD X α c fun z=>∃k,z=.int k/\(if decide (j<k)=true then EvD X α d fun u=>∃m,u=.int m/\T (decide (k<=m)) else T false) else T false))(hm:lastMarks [.LtE,.Lt,.LtE] [b,c,d]=false:=by rfl):
  EvT X α (.Compare a [.LtE,.Lt,.LtE] [b,c,d] pos) T:=fun F σ H R m k=>by
 refine⟨_,bj sW gZ sW zk zk zk zk hm,?_⟩;refine h F σ H _ m fun x vx H1 q1 t1 k1 r1=>?_;have m1:=m.kz k1 t1;refine q1 F σ H1 _ m1 fun y vy H2 q2 t2 k2 r2=>?_;obtain⟨i,j,e1,e2,hq⟩:=q2;subst e1 e2;cases r1.int_inv;cases r2.int_inv;have m2:=m1.kz k2 t2;refine⟨i,j,rfl,rfl,_,rfl,?_⟩;cases hg:decide (i<=j) with
 |true=>
  rw[hg,if_pos rfl] at hq;refine ux ?_;refine hq F σ H2 _ m2 fun z vz H3 q3 t3 k3 r3=>?_;have m3:=m2.kz k3 t3;obtain⟨kk,rfl,hq3⟩:=q3;cases r3.int_inv;refine⟨j,kk,rfl,rfl,_,rfl,?_⟩;cases hg2:decide (j<kk) with
  |true=>
   rw[hg2,if_pos rfl] at hq3;refine ux ?_;refine hq3 F σ H3 _ m3 fun u vu H4 q4 t4 k4 r4=>?_;obtain⟨mm,rfl,hq4⟩:=q4;cases r4.int_inv;exact⟨kk,mm,rfl,rfl,_,rfl,k _ H4 hq4 t4 (((k1.trans k2).trans k3).trans k4)⟩
  |false=>
   rw[hg2,if_neg (by decide)] at hq3;exact uF ⟨_,rfl,k _ H3 hq3 t3 ((k1.trans k2).trans k3)⟩
 |false=>
  rw[hg,if_neg (by decide)] at hq;exact uF ⟨_,rfl,k _ H2 hq t2 (k1.trans k2)⟩
end
theorem zL1 {X:Cx}{α:Ev}{e tg:Expr}{Q:List PyData->Prop}(h:EvD X α e fun x=>∃ds,x=.tuple ds/\Q ds):EvI X α tg e Q:=fun F σ H R m k=>by
 refine⟨_,zK4 zk,?_⟩;refine h F σ H _ m fun x vx H1 q1 t1 k1 r1=>?_;obtain⟨ds,rfl,q⟩:=q1;obtain⟨a,xs,rfl,h1,h2⟩:=r1.tup_inv;refine⟨a,rfl,⟨xs,SqT.of (zh h1).2⟩,k ds _ H1 q t1 k1 fun i H2 p s=>⟨fun d hd=>?_,fun hl=>?_⟩⟩
 ·obtain⟨x,hx,av⟩:=h2.get hd;have ha:=SqT.of (K:=X.K) (zh (s _ _ h1)).2;refine⟨⟨xs,x,ha,hx⟩,fun x' H3 y=>?_⟩;obtain⟨e,y⟩:=y;subst e;have:=y xs ha;rw[hx] at this;cases this;exact⟨zz.refl _,fun _=>av.same s⟩
 ·exact⟨xs,SqT.of (zh (s _ _ h1)).2,by rw[h2.length];exact hl⟩
theorem zJ4 (ns zs:List Int):∃ms,tO ns zs ms:=by
 refine⟨ns.mergeSort fun m k=>!lx (keyOf zs k) (keyOf zs m),List.mergeSort_perm ..,?_⟩;have h:=List.pairwise_mergeSort (le:=fun m k=>!lx (keyOf zs k) (keyOf zs m)) (fun a b c h1 h2=>?_) (fun a b=>?_) ns
 ·exact h.imp fun {a b} h=>by simpa using h
 ·simp only[yd9] at h1 h2 ⊢;unfold lx at *;simp only[z65] at *;omega
 ·unfold lx;simp only[z67,yd9,z65];omega
theorem zz9 (zs:List Int){many:Nat}(free:Nat)(h:0<many):∀i,i<=zs.length->∃bs,vF zs many free i bs
 |0,_=>⟨_,oE zs free⟩
 |i+1,hi=>by
  obtain⟨bs,m⟩:=zz9 zs free h i (by omega);by_cases h1:i % many+1<many
  ·exact⟨bs,oB h h1 m⟩
  ·have h1:i % many+1=many:=by have:=Nat.mod_lt i h;omega
   obtain⟨d1,d2,d3⟩:=qr h h1;obtain⟨ms,s⟩:=zJ4 (zq ((i / many*many:Nat):Int) many) zs;have nd:ms.Nodup:=s.1.nodup_iff.mpr (sv _ _);have hl:ms.length=many:=by rw[s.1.length_eq,zc]
   have ds:i / many*many+many=i+1:=by rw[<-d3,Nat.add_mul,Nat.one_mul]
   have key:∀j,j<zs.length->((List.range zs.length).map fun (j:Nat)=>if (j:Int)∈ms then decide (ms.idxOf (j:Int)<free) else bs.getD j false).getD j false=if (j:Int)∈ms then decide (ms.idxOf (j:Int)<free) else bs.getD j false:=fun j hj=>by
    rw[zX9,zY3,List.getElem?_range hj];rfl
   refine⟨(List.range zs.length).map fun (j:Nat)=>if (j:Int)∈ms then decide (ms.idxOf (j:Int)<free) else bs.getD j false,oN h h1 m s (by simp[m.1]) (fun q hq=>?_) fun j hj=>?_⟩
   ·have b:=vg s hq;have hx:ms.getD q 0=ms[q]:=by rw[zX9,zX7 (by omega)];rfl
    have e:(((ms.getD q 0).toNat:Nat):Int)=ms[q]:=by rw[<-hx];omega
    rw[key _ (by omega),e,if_pos (z38 _),nd.idxOf_getElem]
   ·by_cases hz:j<zs.length
    ·rw[key j hz,if_neg fun z=>?_];obtain⟨q,hq,e⟩:=z92.mp z;refine hj q (by omega) ?_;rw[zX9,zX7 hq];show (ms[q]).toNat=j;omega
    ·rw[zX9,zX9,z62 (by simp;omega),z62 (by rw[m.1];omega)]
theorem za5 {ns zs ms ks:List Int}(h:tO ns zs ms)(h':tO ns zs ks):ms=ks:=by
 refine List.Perm.eq_of_pairwise (le:=fun m k=>lx (keyOf zs k) (keyOf zs m)=false) (fun a b _ _ h1 h2=>?_) h.2 h'.2 (h.1.trans h'.1.symm);unfold lx keyOf at h1 h2;simp only[z65] at h1 h2;omega
theorem zx5 {zs:List Int}{many free:Nat}{bs cs:List Bool}(h:0<many)(m:vF zs many free zs.length bs)(m':vF zs many free zs.length cs):bs=cs:=by
 have e:∀j,bs.getD j false=cs.getD j false:=fun j=>by
  by_cases hj:zs.length / many*many<=j
  ·rw[m.2.1 j hj,m'.2.1 j hj]
  ·have hk:j / many<zs.length / many:=by
    have:=Nat.div_lt_iff_lt_mul (k:=many) (x:=j) (y:=zs.length / many) h;exact this.mpr (by omega)
   obtain⟨ms,s,hs⟩:=m.2.2 _ hk;obtain⟨ks,s',hs'⟩:=m'.2.2 _ hk;cases za5 s s';have d:=ya3 j many;have l:=Nat.mod_lt j h;have dm:j / many*many=many*(j / many):=yf5 _ _;obtain⟨q,hq,eq⟩:=zi3 s (m:=(j:Int)) (by omega) (by omega);have h1:=hs q hq;have h2:=hs' q hq;rw[eq,z42] at h1 h2;rw[h1,h2]
 refine ye3 (by rw[m.1,m'.1]) fun j h1 h2=>?_;have:=e j;rw[zX9,zX9,zX7 h1,zX7 h2] at this;exact this
theorem zV7 {d:PyData}(hd:mO d)(zs:List Int):∃bs,xo d zs bs:=by
 rcases hd with rfl|⟨many,free,rfl,f0,fm,_⟩
 ·exact⟨_,.inl ⟨rfl,rfl⟩⟩
 ·obtain⟨bs,m⟩:=zz9 zs free (many:=many) (by omega) zs.length (zY2 _);exact⟨bs,.inr ⟨many,free,rfl,m⟩⟩
theorem zf1 {d:PyData}(hd:mO d){zs:List Int}{bs cs:List Bool}(h:xo d zs bs)(h':xo d zs cs):bs=cs:=by
 rcases hd with rfl|⟨many,free,rfl,f0,fm,_⟩
 ·rcases h with ⟨_,rfl⟩|⟨_,_,h,_⟩
  ·rcases h' with ⟨_,rfl⟩|⟨_,_,h,_⟩
   ·rfl
   ·cases h
  ·cases h
 ·exact zx5 (by omega) (uX h) (uX h')
section
variable {X:Cx}{α:Ev}{a b c d e:Expr}{pos p:Pos}{T:Bool->Prop}
theorem zk6 {ns:List Int}(h:∀n∈ns,-300000000000000000<=n/\n<=300000000000000000)(hl:ns.length<=14):(∀n∈ns,-(2 ^ 62)<=n/\n<2 ^ 62)/\Fits ns:=by
 refine⟨fun n hn=>by have:=h n hn;omega,fun k hk=>?_⟩;have key:∀l:List Int,(∀n∈l,-300000000000000000<=n/\n<=300000000000000000)->-(300000000000000000*l.length)<=l.sum/\l.sum<=300000000000000000*l.length:=by
  intro l
  induction l with
  |nil=>intro _;simp
  |cons x l ih=>
   intro hl;have h1:=hl x zY6;have h2:=ih fun n hn=>hl n (zY4 _ hn);rw[z39,zY9,z77];omega
 have h1:=key (ns.take k) fun n hn=>h n (yb4 hn);have h2:((ns.take k).length:Int)<=14:=by rw[z04];omega
 omega
theorem zr2 {Q:PyData->Prop}(hc:X.calm=true)(hg:Gl X "sum")(hm:X.mg "sum"=none)(h:EvD X α e fun x=>∃ns:List Int,x=.list (ns.map .int)/\(∀n∈ns,-300000000000000000<=n/\n<=300000000000000000)/\ns.length<=14/\Q (.int ns.sum))(he:starEach [e] X.env=(false,eval e X.env)::starEach [] X.env:=by rfl):
  EvD X α (.Call (.Name "sum" p) [e] [] pos) Q:=
 nL hc hg hm (h.imp fun x ⟨ns,e1,h1,h2,q⟩=>⟨ns,e1,(zk6 h1 h2).1,(zk6 h1 h2).2,q⟩) he
end
abbrev jg (X:Cx)(P:Program)(w:World)(K:PySem.W.Frag)(mg:Str->Option Value)(base:Heap):Prop:=X.prog=P/\X.w=w/\X.K=K/\X.mg=mg/\X.base=base
section
variable {X:Cx}{α:Ev}{e o:Expr}{es:List Expr}{pos p apos:Pos}{Q:PyData->Prop}{k:Nat}{φ:List A->(A->Prop)->Prop}{x m:Str}{C:Addr}{pl:Sem Bool}{P:Program}{w:World}{K:PySem.W.Frag}{mg:Str->Option Value}{base:Heap}
theorem zs3 (D:Cal P w K mg base x k φ)(hX:jg X P w K mg base)(hr:zS k X.A)(hg:Gl X x)(h:EvA X α (e::es) fun as=>φ as fun a=>Q a.d)
  (hdb:(x == ("__debug__":Str))=false:=by decide) (he:starEach (e::es) X.env=(false,eval e X.env)::starEach es X.env:=by rfl) (hpl:(backTo pos (starEach es X.env)).any (·.1)=false:=by rfl):EvD X α (.Call (.Name x p) (e::es) [] pos) Q:=by
 obtain⟨rfl,rfl,rfl,rfl,rfl⟩:=hX;exact yH D hr hg h hdb he hpl
theorem zu7 {Q:List PyData->Prop}(D:Cal P w K mg base x k φ)(hX:jg X P w K mg base)(hr:zS k X.A)(hg:Gl X x)(h:EvA X α (e::es) fun as=>φ as fun a=>∃ds,a=.own ds/\Q ds)
  (hdb:(x == ("__debug__":Str))=false:=by decide) (he:starEach (e::es) X.env=(false,eval e X.env)::starEach es X.env:=by rfl) (hpl:(backTo pos (starEach es X.env)).any (·.1)=false:=by rfl):EvL X α (.Call (.Name x p) (e::es) [] pos) Q:=by
 obtain⟨rfl,rfl,rfl,rfl,rfl⟩:=hX;exact xV D hr hg h hdb he hpl
theorem aP (D:cA P w K mg base x k [] φ)(hX:jg X P w K mg base)(hr:zS (k+1) X.A)(hg:Gl X x)(h:EvA X α (e::es) fun as=>φ as fun a=>Q a.d)
  (hdb:(x == ("__debug__":Str))=false:=by decide) (he:starEach (e::es) X.env=(false,eval e X.env)::starEach es X.env:=by rfl) (hpl:(backTo pos (starEach es X.env)).any (·.1)=false:=by rfl):EvN X α (.Call (.Name x p) (e::es) [] pos) Q:=by
 obtain⟨rfl,rfl,rfl,rfl,rfl⟩:=hX;exact fA D hr hg h hdb he hpl
theorem zc5 (D:vt P w K mg base C m k φ)(hX:jg X P w K mg base)(hr:zS k X.A)(h:EvD X α o fun x=>∃fs,x=vW C fs/\rn fs m=none/\EvA X α (e::es) fun as=>φ (.dat (vW C fs)::as) fun a=>Q a.d)
  (hst:starEach (e::es) X.env=(false,eval e X.env)::starEach es X.env:=by rfl) (hpl:(backTo pos (starEach es X.env)).any (·.1)=false:=by rfl)
  (ht:eval (.Call (.Attribute o m apos) (e::es) [] pos) X.env=(do
   let ov <-eval o X.env
   standAt apos.atName
   let (f,first) <-holding [ov] (getMethod ov m pl)
   callWith pos f first (backTo pos (starEach (e::es) X.env)) (backToKw pos (keywordEach [] X.env))):=by rfl):EvD X α (.Call (.Attribute o m apos) (e::es) [] pos) Q:=by
 obtain⟨rfl,rfl,rfl,rfl,rfl⟩:=hX;exact xE D hr h hst hpl ht
theorem cX (D:vt P w K mg base C m k φ)(hX:jg X P w K mg base)(hr:zS k X.A)(h:EvD X α o fun x=>∃fs,x=vW C fs/\rn fs m=none/\φ [.dat (vW C fs)] fun a=>Q a.d)
  (ht:eval (.Call (.Attribute o m apos) [] [] pos) X.env=(do
   let ov <-eval o X.env
   standAt apos.atName
   let (f,first) <-holding [ov] (getMethod ov m pl)
   callWith pos f first (backTo pos (starEach [] X.env)) (backToKw pos (keywordEach [] X.env))):=by rfl):EvD X α (.Call (.Attribute o m apos) [] [] pos) Q:=by
 obtain⟨rfl,rfl,rfl,rfl,rfl⟩:=hX;exact qQ D hr h ht
end
section
variable {X:Cx}{α:Ev}{pos:Pos}{Q:PyData->Prop}
end
section
variable {X:Cx}{α:Ev}{e ix:Expr}{pos:Pos}{rest:List Stmt}{E:xi}
end
end L2
set_option maxHeartbeats 4000000
namespace K96
open PySem PySem.Spec PyProof.Rows L2
noncomputable def top (i:Nat):Stmt:=PySem.Challenge.pw_stayprice_k96_whole_days_moved.main.body.getD i (.Pass ⟨0,0,0,0⟩)
noncomputable abbrev pX :Stmt:=top 67
noncomputable abbrev zf8 :Stmt:=top 68
noncomputable def cY :Scope:=match zy pX with
 |[.Return (some (.List (.ListComp _ _ sc _::_) _)) _]=>sc
 |_=>zb pX
section
variable {P:Program}{w:World}{K:PySem.W.Frag}{mg:Str->Option Value}{base:Heap}
theorem zG6 :zm ["_law_script"] ["_law_script"] (zb pX):=.o
theorem aL :zQ ["_law_script"] (zb pX) ["_law_cell"] [none] cY:=⟨rfl,by decide +kernel,by decide +kernel,by decide +kernel,by decide +kernel,rfl,by decide +kernel⟩
theorem zx0 {f:Addr}{fd:FuncData}(F:Fun K "_law_tape" "_law_tape" pX f fd)(T:zI9 mg):zF P w K mg base CX0 1 f fd ["_law_script"] (jO K):=by
 refine F.ok zG6 (fun vs H Q E h=>?_) (fun cdv A outer s H vs Q E hr h=>?_)
 ·obtain⟨a,ns,rfl,_⟩:=h;rfl
 ·obtain⟨a,ns,rfl,hS,hlen,k⟩:=h;refine⟨_,zw (zC (zj0 (zd
   (zA6 rfl aL (fH (qK mN (pv 0) nH (nP zr)))
    (fun _ _ _ _=>zU (i:=0) aL.nd rfl (Or.inl rfl))
    (fun _ _ _ _=>fZ (yp ar (yo lA (by rfl) T.abs boot_abs (zd (pv 0) zu)) (yI aC zr zr) (zE _)))
    (fun _ _ _ _=>yo lA (by rfl) T.abs boot_abs (zd (pv 0) zu)))
   (zd (wR tw (by rfl) T.list boot_list (zd (qK mN (pv 0) nH (nP zr)) zu))
   (zd zr zu))))),?_⟩
  -- script[:63]
  refine⟨_,rfl,63,rfl,a,_,rfl,hS,fun l hl=>?_⟩;obtain⟨ms,em,lm⟩:=zi8 ns none (some 63);rw[em];refine⟨l,rfl,⟨_,SqL.of zj⟩,fun acc hacc=>?_⟩;have nal:acc≠l:=fun z=>by rw[z,zj] at hacc;cases hacc
  have hacc':H acc=none:=by rw[zf nal] at hacc;exact hacc
  have s0:zz H (upd H l (.lst (ms.map V.int))):=fun b o e=>by rw[zf (zp e hl)];exact e
  refine dB (K:=K) (a:=l) (xs:=ms.map V.int) (fun i ys τ H2=>∃(bs:List Int) (v:Option V),ys=bs.map V.int/\bs.length<=i/\τ=[v]/\H2=upd (upd H l (.lst (ms.map V.int))) acc (.lst (bs.map V.int)))
   ⟨[],none,rfl,zY2 _,rfl,rfl⟩ ?_ ?_ ?_
  ·rintro i ys τ H2 _ ⟨bs,v,rfl,_,rfl,rfl⟩;exact SqL.of (by rw[zf nal.symm,zj])
  ·rintro i x ys τ H2 hx ⟨bs,v,rfl,hb,rfl,rfl⟩;have hi:i<ms.length:=by
    have:=(zY0.mp hx).1
    rwa [zX5] at this
   obtain⟨z,rfl⟩:∃z,x=V.int z:=by
    rw[zY3] at hx;cases e:ms[i]? with
    |none=>rw[e] at hx;cases hx
    |some z=>rw[e] at hx;exact⟨z,(z05 hx).symm⟩
   refine⟨_,rfl,z,rfl,_,_,rfl,rfl,⟨by decide,by decide,by decide⟩,_,_,rfl,rfl,_,rfl,?_⟩;refine yL (fun _=>?_) (fun _=>?_)
   ·refine⟨_,rfl,z,rfl,zj,?_,bs++[if z<0 then -z else z],_,?_,?_,rfl,?_⟩
    ·rw[zX5];exact yS (by omega)
    ·rw[z03];rfl
    ·rw[z00];simp;omega
    ·rw[rA,z03];rfl
   ·exact⟨bs,_,rfl,by omega,rfl,rfl⟩
  ·rintro ys τ H2 ⟨bs,v,rfl,hb,rfl,rfl⟩;rw[zX5] at hb
   -- list(script[:63])
   have s1:zz H (upd (upd H l (.lst (ms.map V.int))) acc (.lst (bs.map V.int))):=fun b o e=>by rw[zf (zp e hacc')];exact s0 b o e
   refine⟨_,rfl,63,rfl,a,_,rfl,s1.seq hS,fun l2 hl2=>?_⟩;rw[em];refine⟨l2,_,rfl,.inl (SqL.of zj),fun c hc=>?_⟩;refine⟨(by show 3<=sizeLine;decide),fun t ht=>?_⟩;have n1:l2≠acc:=fun z=>by rw[z,zj] at hl2;cases hl2
   have n2:c≠l2:=fun z=>by rw[z,zj] at hc;cases hc
   have hc2:upd (upd H l (.lst (ms.map V.int))) acc (.lst (bs.map V.int)) c=none:=by rw[zf n2] at hc;exact hc
   have n3:c≠acc:=fun z=>by rw[z,zj] at hc2;cases hc2
   have n4:t≠c:=fun z=>by rw[z,zj] at ht;cases ht
   have ht2:upd (upd (upd H l (.lst (ms.map V.int))) acc (.lst (bs.map V.int))) l2 (.lst (ms.map V.int)) t=none:=by rw[zf n4] at ht;exact ht
   have n5:t≠l2:=fun z=>by rw[z,zj] at ht2;cases ht2
   have ht3:upd (upd H l (.lst (ms.map V.int))) acc (.lst (bs.map V.int)) t=none:=by rw[zf n5] at ht2;exact ht2
   have n6:t≠acc:=fun z=>by rw[z,zj] at ht3;cases ht3
   refine k t acc c _ ⟨0,bs,ms,n3.symm,zj,?_,?_,by omega,by omega⟩ (s1.free ht3) hacc' (s1.free hc2) fun b o e=>?_
   ·rw[zf n6.symm,zf n3.symm,zf n1.symm,zj]
   ·rw[zf n4.symm,zj]
   ·have e1:=s1 b o e;rw[zf (zp e1 ht3),zf (zp e1 hc2),zf (zp e1 hl2)];exact e1
theorem tX :zm ["_law_tape_here","_law_many","_law_found","_law_cell","_law_number"] ["_law_tape_here","_law_many"] (zb zf8):=.o
theorem zq8 {f:Addr}{fd:FuncData}(F:Fun K "_law_draw" "_law_draw" zf8 f fd)(T:zI9 mg):zF P w K mg base CX0 1 f fd ["_law_tape_here","_law_many"] ze4:=by
 refine F.ok tX (fun vs H Q E h=>?_) (fun cdv A outer s H vs Q E hr h=>?_)
 ·obtain⟨t,b,c,many,rfl,_⟩:=h;rfl
 ·obtain⟨t,b,c,many,rfl,⟨n,bs,cs,nbc,ht,hb,hc,lb,lc⟩,hm0,hm1,k⟩:=h;have ntb:t≠b:=bA ht hb (fY bs);have ntc:t≠c:=bA ht hc (fY cs);have hlog:many.natAbs.log2<9000:=log2_small hm0 hm1
  -- tape[2]=tape[2]+1
  refine yd (fun σ H1=>σ=[some (.ref t),some (.int many),none,none,none]/\H1=upd H t (.lst [.ref b,.ref c,.int (n+1)]))
   ⟨_,jF (yI sF (zW zZ (pv 0) zr (fun _ _=>rfl)) zr) (jy (pv 0) zr set_list),?_⟩ ?_
  ·exact⟨_,rfl,t,_,2,_,rfl,rfl,SqL.of ht,rfl,_,_,rfl,rfl,_,rfl,t,_,2,2,rfl,rfl,ht,rfl,rfl,rfl⟩
  rintro σ H1 ⟨rfl,hH1⟩;have ht1:H1 t=some (.lst [.ref b,.ref c,.int (n+1)]):=by rw[hH1];exact zj
  have hb1:H1 b=some (.lst (bs.map V.int)):=by rw[hH1,zf ntb.symm];exact hb
  have hc1:H1 c=some (.lst (cs.map V.int)):=by rw[hH1,zf ntc.symm];exact hc
  have off1:ml t b H H1:=fun a h1 h2=>by rw[hH1,zf h1]
  clear hH1
  -- while len(tape[0]) > 0 and tape[0][0]==0:tape[0].pop(0)
  refine yd (fun σ H2=>∃bs2:List Int,bs2.length<=63/\σ=[some (.ref t),some (.int many),none,none,none]/\H2 t=some (.lst [.ref b,.ref c,.int (n+1)])/\H2 b=some (.lst (bs2.map V.int))/\H2 c=some (.lst (cs.map V.int))/\ml t b H H2)
   ⟨_,lY z60 (ze1 (yp fG (yo yG (by rfl) T.len z94 (zd (zW zZ (pv 0) zr (fun _ _=>rfl)) zu)) zr (zE _))
     (fg (yp vA (zW zZ (zW zZ (pv 0) zr (fun _ _=>rfl)) zr (fun _ _=>rfl)) zr (zE _)))).pt
    (zw (eu (zA0 PySem.F.plainAttrs_list PySem.F.slot_list_pop PySem.F.type_list_pop zm9 (zW zZ (pv 0) zr (fun _ _=>rfl)) (zd zr zu)))),?_⟩ ?_
  ·refine⟨fun m σ H2=>∃bs2:List Int,m=bs2.length/\bs2.length<=63/\σ=[some (.ref t),some (.int many),none,none,none]/\H2 t=some (.lst [.ref b,.ref c,.int (n+1)])/\H2 b=some (.lst (bs2.map V.int))/\H2 c=some (.lst (cs.map V.int))/\ml t b H H2,
    ⟨_,bs,rfl,lb,rfl,ht1,hb1,hc1,off1⟩,?_⟩
   rintro m σ H2 ⟨bs2,rfl,lb2,rfl,ht2,hb2,hc2,off2⟩;refine⟨_,rfl,t,_,0,_,rfl,rfl,SqL.of ht2,rfl,b,_,rfl,.inl (SqL.of hb2),_,_,rfl,rfl,_,rfl,?_⟩;refine yL (fun _=>?_) (fun _=>?_)
   ·cases bs2 with
    |nil=>rename_i z;simp at z
    |cons z r=>
     refine⟨_,rfl,t,_,0,_,rfl,rfl,SqL.of ht2,rfl,b,_,0,_,rfl,rfl,SqL.of hb2,at0,rfl,_,rfl,?_⟩;refine yL (fun _=>?_) (fun _=>?_)
     ·refine⟨_,fun σ' H' h'=>h',_,rfl,t,_,0,_,rfl,rfl,SqL.of ht2,rfl,.inl ⟨rfl,_,SqL.of hb2⟩,b,_,0,0,_,rfl,rfl,hb2,by decide,by decide,zW6,rfl,r.length,?_,r,rfl,?_,rfl,?_,zj,?_,?_⟩
      ·simp
      ·simp at lb2;omega
      ·rw[zf ntb];exact ht2
      ·rw[zf nbc.symm];exact hc2
      ·exact off2.trans fun a h1 h2=>by rw[zf h2]
     ·exact⟨_,lb2,rfl,ht2,hb2,hc2,off2⟩
   ·exact⟨_,lb2,rfl,ht2,hb2,hc2,off2⟩
  rintro σ H2 ⟨bs2,lb2,rfl,ht2,hb2,hc2,off2⟩
  -- if len(tape[0]) > 0:..
  refine yd (fun σ H3=>σ=[some (.ref t),some (.int many),none,none,none]/\H2=H3)
   ⟨_,wx (yp fG (yo yG (by rfl) T.len z94 (zd (zW zZ (pv 0) zr (fun _ _=>rfl)) zu)) zr (zE _))
    (zN (wY (i:=2) tX.nd rfl (Or.inl rfl) (yI uS (zW zZ (zW zZ (pv 0) zr (fun _ _=>rfl)) zr (fun _ _=>rfl)) (pv 1)))
    (zN (jF (yI qj (zW zZ (zW zZ (pv 0) zr (fun _ _=>rfl)) zr (fun _ _=>rfl)) (pv 1)) (jy (zW zZ (pv 0) zr (fun _ _=>rfl)) zr set_list))
    (zw (zC (pv 2))))) yK,?_⟩ ?_
  ·refine⟨_,rfl,t,_,0,_,rfl,rfl,SqL.of ht2,rfl,b,_,rfl,.inl (SqL.of hb2),_,_,rfl,rfl,_,rfl,?_⟩;refine yL (fun _=>?_) (fun _=>?_)
   ·cases bs2 with
    |nil=>rename_i z;simp at z
    |cons z r=>
     refine⟨_,rfl,t,_,0,_,rfl,rfl,SqL.of ht2,rfl,b,_,0,_,rfl,rfl,SqL.of hb2,at0,_,rfl,_,_,rfl,rfl,hm0,?_⟩;refine⟨_,rfl,t,_,0,_,rfl,rfl,SqL.of ht2,rfl,b,_,0,_,rfl,rfl,SqL.of hb2,at0,_,rfl,_,_,rfl,rfl,⟨hm0,hlog⟩,?_⟩;refine⟨_,rfl,t,_,0,_,rfl,rfl,SqL.of ht2,rfl,b,_,0,0,rfl,rfl,hb2,ix0,_,rfl,?_⟩;refine k _ _ (yc6 _ (Int.ne_of_gt hm0)) (ya6 _ hm0) ⟨n+1,(z / many)::r,cs,nbc,?_,zj,?_,?_,lc⟩ ?_
     ·rw[zf ntb];exact ht2
     ·rw[zf nbc.symm];exact hc2
     ·simpa using lb2
     ·exact off2.trans fun a h1 h2=>by rw[zf h2]
   ·exact⟨rfl,rfl⟩
  rintro σ H3 ⟨rfl,rfl⟩
  -- cell=5;if len(tape[1]) > 0:..
  refine yd (fun σ H3=>σ=[some (.ref t),some (.int many),none,some (.int 5),none]/\H2=H3) ⟨_,wY (i:=3) tX.nd rfl (Or.inl rfl) zr,rfl,rfl⟩ ?_;rintro σ H3 ⟨rfl,rfl⟩;refine yd (fun σ H3=>∃z:Int,σ=[some (.ref t),some (.int many),none,some (.int z),none]/\H2=H3)
   ⟨_,wx (yp fG (yo yG (by rfl) T.len z94 (zd (zW zZ (pv 0) zr (fun _ _=>rfl)) zu)) zr (zE _))
    (zw (wY (i:=3) tX.nd rfl (Or.inl rfl) (zW zZ (zW zZ (pv 0) zr (fun _ _=>rfl)) (yI uS (zW zZ (pv 0) zr (fun _ _=>rfl)) (yo yG (by rfl) T.len z94 (zd (zW zZ (pv 0) zr (fun _ _=>rfl)) zu))) (fun _ _=>rfl)))) yK,?_⟩ ?_
  ·refine⟨_,rfl,t,_,1,_,rfl,rfl,SqL.of ht2,rfl,c,_,rfl,.inl (SqL.of hc2),_,_,rfl,rfl,_,rfl,?_⟩;refine yL (fun hpos=>?_) (fun _=>?_)
   ·have hpos':0<cs.length:=by simpa using hpos
    have hp:(0:Int)<((cs.map V.int).length:Int):=by rw[zX5];omega
    have h1:=yc6 (n+1) (Int.ne_of_gt hp);have h2:=ya6 (n+1) hp;obtain⟨j,hj⟩:=z79 h1;have hjl:j<cs.length:=by rw[hj,zX5] at h2;omega
    refine⟨_,rfl,t,_,1,_,rfl,rfl,SqL.of ht2,rfl,_,rfl,t,_,2,_,rfl,rfl,SqL.of ht2,rfl,_,rfl,t,_,1,_,rfl,rfl,SqL.of ht2,rfl,c,_,rfl,.inl (SqL.of hc2),_,_,rfl,rfl,hp,c,_,_,V.int cs[j],rfl,rfl,SqL.of hc2,?_,cs[j],rfl,rfl⟩;rw[hj];exact yF (by rw[zY3,zX7 hjl];rfl)
   ·exact⟨5,rfl,rfl⟩
  rintro σ H3 ⟨z,rfl,rfl⟩
  -- the numbers
  refine yd (fun σ H3=>∃y:Int,(0<=y/\y<2147483647)/\σ=[some (.ref t),some (.int many),none,some (.int z),some (.int y)]/\H2=H3)
   ⟨_,wY (i:=4) tX.nd rfl (Or.inl rfl) (yI uS (yI qD (yI sF (yI sF (yI uS (pv 3) zr) (yI qD zr (zW zZ (pv 0) zr (fun _ _=>rfl)))) zr) zr) zr),?_⟩ ?_
  ·exact⟨_,rfl,_,_,rfl,rfl,(by show (0:Int)<999983;decide),_,rfl,t,_,2,_,rfl,rfl,SqL.of ht2,rfl,_,_,rfl,rfl,.inl ⟨by decide,by decide⟩,_,_,rfl,rfl,_,_,rfl,rfl,_,_,rfl,rfl,.inr ⟨by decide,by decide⟩,_,_,rfl,rfl,(by show (0:Int)<2147483647;decide),
    _,⟨yc6 _ (by decide),ya6 _ (by decide)⟩,rfl,rfl⟩
  rintro σ H3 ⟨y,⟨hy0,hy1⟩,rfl,rfl⟩;refine yd (fun σ H3=>∃y:Int,(0<=y/\y<2147483647)/\σ=[some (.ref t),some (.int many),none,some (.int z),some (.int y)]/\H2=H3)
   ⟨_,wY (i:=4) tX.nd rfl (Or.inl rfl) (yI uS (yI sF (yI sF (yI qD (pv 4) (pv 4)) (yI qD zr (zW zZ (pv 0) zr (fun _ _=>rfl)))) zr) zr),?_⟩ ?_
  ·refine⟨_,rfl,_,rfl,_,_,rfl,rfl,.inl ⟨by omega,by omega⟩,_,rfl,t,_,2,_,rfl,rfl,SqL.of ht2,rfl,_,_,rfl,rfl,.inl ⟨by decide,by decide⟩,_,_,rfl,rfl,_,_,rfl,rfl,_,_,rfl,rfl,(by show (0:Int)<2147483629;decide),
    _,⟨yc6 _ (by decide),Int.lt_trans (ya6 _ (by decide)) (by decide)⟩,rfl,rfl⟩
  rintro σ H3 ⟨y2,⟨hy0,hy1⟩,rfl,rfl⟩;refine⟨_,zw (zC (yI uS (yI qj (yI uS (yI qD (yI qj (pv 4) zr) zr) zr) zr) (pv 1))),?_⟩;refine⟨_,rfl,_,_,rfl,rfl,⟨by decide,by decide +kernel⟩,_,_,rfl,rfl,.inr ⟨by decide,by decide⟩,_,_,rfl,rfl,(by show (0:Int)<2147483587;decide),_,_,rfl,rfl,⟨by decide,by decide +kernel⟩,_,rfl,_,_,rfl,rfl,hm0,?_⟩;exact k _ _ (yc6 _ (Int.ne_of_gt hm0)) (ya6 _ hm0) ⟨n+1,bs2,cs,nbc,ht2,hb2,hc2,lb2,lc⟩ off2
end
noncomputable abbrev qM :Stmt:=top 3
noncomputable abbrev nJ :Stmt:=top 4
noncomputable abbrev zc4 :Stmt:=top 5
noncomputable abbrev zH1 :Stmt:=top 6
noncomputable abbrev zm4 :Stmt:=top 7
noncomputable abbrev qk :Stmt:=top 8
structure lO (mg:Str->Option Value)(fW fI fP fD fPD:Addr):Prop where
 isi:mg "isinstance"=none
 int:mg "int"=none
 bool:mg "bool"=none
 tuple:mg "tuple"=none
 len:mg "len"=none
 last:∃t,mg "LAST_DAY"=some (.int 1000000 t)
 most:∃t,mg "MOST_NIGHTS"=some (.int 14 t)
 whole:mg "is_whole"=some (.ref fW)
 within:mg "is_whole_within"=some (.ref fI)
 pair:mg "is_pair"=some (.ref fP)
 day:mg "is_day"=some (.ref fD)
 days:mg "is_pair_of_days"=some (.ref fPD)
section
variable {P:Program}{w:World}{K:PySem.W.Frag}{mg:Str->Option Value}{base:Heap}{fW fI fP fD fPD:Addr}
theorem mZ :zm ["thing"] ["thing"] (zb qM):=.o
theorem zd5 {f:Addr}{fd:FuncData}(F:Fun K "is_whole" "is_whole" qM f fd)(T:lO mg fW fI fP fD fPD):zF P w K mg base CX0 1 f fd ["thing"] (yW iP):=by
 refine F.ok mZ (fun vs H Q E h=>?_) (fun cdv A outer s H vs Q E hr h=>?_)
 ·obtain⟨x,d,rfl,_⟩:=h;rfl
 ·obtain⟨x,d,rfl,hd,q⟩:=h;refine⟨_,zw (zC (xr (yo xT (by rfl) T.isi ya2 (zd (pv 0) (zd (ui (v:=.ty "int") (by rfl) T.int boot_int rfl) zu)))
   (wc (zb8 (yo xT (by rfl) T.isi ya2 (zd (pv 0) (zd (ui (v:=.ty "bool") (by rfl) T.bool boot_bool rfl) zu))))))),?_⟩
  rw[dG] at q;refine⟨_,rfl,x,"int",d,_,rfl,hd,zx9 d,_,rfl,?_⟩;refine yL (fun h=>?_) (fun h=>?_)
  ·rw[h,z28] at q;exact⟨_,rfl,x,"bool",d,_,rfl,hd,qv d,_,rfl,q⟩
  ·rw[z29.mpr h,z26] at q;exact q
theorem zl3 :zm ["thing","lowest","highest"] ["thing","lowest","highest"] (zb nJ):=.o
theorem dr {f:Addr}{fd fdW:FuncData}(F:Fun K "is_whole_within" "is_whole_within" nJ f fd)(T:lO mg fW fI fP fD fPD)(FW:Fun K "is_whole" "is_whole" qM fW fdW)(bW:Binds K fdW ["thing"] []):
  zF P w K mg base CX0 2 f fd ["thing","lowest","highest"] uc:=by
 have GW:zF P w K mg base CX0 1 fW fdW ["thing"] (yW iP):=zd5 FW T;refine F.ok zl3 (fun vs H Q E h=>?_) (fun cdv A outer s H vs Q E hr h=>?_)
 ·obtain⟨x,d,lo,hi,rfl,_⟩:=h;rfl
 ·obtain⟨x,d,lo,hi,rfl,hd,q⟩:=h;refine⟨_,zw (zC (xr (ya GW hr (by rfl) T.whole FW.kp bW .nil ym (zd (pv 0) zu)) (wc (pH sW sW (pv 1) (pv 0) (pv 2))))),?_⟩;refine⟨_,rfl,x,d,rfl,hd,_,rfl,?_⟩;cases hd with
  |int i=>
   have q':Q (.bl (decide (lo<=i)&&decide (i<=hi))) H:=q;refine ux ⟨_,rfl,_,rfl,_,_,rfl,rfl,_,rfl,?_⟩;refine yL (fun h=>?_) (fun h=>?_)
   ·rw[h,z28] at q';exact⟨_,rfl,_,_,rfl,rfl,q'⟩
   ·rw[z29.mpr h,z26] at q';exact q'
  |_=>exact uF q
theorem zJ8 :zm ["thing"] ["thing"] (zb zc4):=.o
theorem zp3 {f:Addr}{fd:FuncData}(F:Fun K "is_pair" "is_pair" zc4 f fd)(T:lO mg fW fI fP fD fPD):zF P w K mg base CX0 1 f fd ["thing"] (yW pairD):=by
 refine F.ok zJ8 (fun vs H Q E h=>?_) (fun cdv A outer s H vs Q E hr h=>?_)
 ·obtain⟨x,d,rfl,_⟩:=h;rfl
 ·obtain⟨x,d,rfl,hd,q⟩:=h;refine⟨_,zw (zC (xr (yo xT (by rfl) T.isi ya2 (zd (pv 0) (zd (ui (v:=.ty "tuple") (by rfl) T.tuple boot_tuple rfl) zu)))
   (wc (xQ vA (yo yG (by rfl) T.len z94 (zd (pv 0) zu)) zr (zE _))))),?_⟩
  refine⟨_,rfl,x,"tuple",d,_,rfl,hd,oj d,_,rfl,?_⟩;cases hd with
  |@tup a xs ds e hs=>
   refine ux ⟨_,rfl,a,_,rfl,.inr (SqT.of e),rfl,?_⟩;rw[zt0,hs.length];exact q
  |_=>exact uF q
theorem zS1 :zm ["thing"] ["thing"] (zb zH1):=.o
theorem zI0 {f:Addr}{fd fdI:FuncData}(F:Fun K "is_day" "is_day" zH1 f fd)(T:lO mg fW fI fP fD fPD)(GI:zF P w K mg base CX0 2 fI fdI ["thing","lowest","highest"] uc)(kI:PySem.W.keepIn K (.ref fI)=true)(bI:Binds K fdI ["thing","lowest","highest"] []):
  zF P w K mg base CX0 3 f fd ["thing"] (yW tM):=by
 obtain⟨tl,hl⟩:=T.last;refine F.ok zS1 (fun vs H Q E h=>?_) (fun cdv A outer s H vs Q E hr h=>?_)
 ·obtain⟨x,d,rfl,_⟩:=h;rfl
 ·obtain⟨x,d,rfl,hd,q⟩:=h;refine⟨_,zw (zC (ya GI hr (by rfl) T.within kI bI .nil ym (zd (pv 0) (zd zr (zd (tS (v:=.int 1000000) (by rfl) hl ⟨tl,rfl⟩) zu))))),?_⟩;exact⟨_,rfl,x,d,_,_,rfl,hd,q⟩
theorem zK1 :zm ["thing"] ["thing"] (zb zm4):=.o
theorem zo1 {f:Addr}{fd fdP fdD:FuncData}(F:Fun K "is_pair_of_days" "is_pair_of_days" zm4 f fd)(T:lO mg fW fI fP fD fPD)(GP:zF P w K mg base CX0 1 fP fdP ["thing"] (yW pairD))(kP:PySem.W.keepIn K (.ref fP)=true)(bP:Binds K fdP ["thing"] [])
  (GD:zF P w K mg base CX0 3 fD fdD ["thing"] (yW tM)) (kD:PySem.W.keepIn K (.ref fD)=true) (bD:Binds K fdD ["thing"] []):zF P w K mg base CX0 4 f fd ["thing"] (yW pE):=by
 refine F.ok zK1 (fun vs H Q E h=>?_) (fun cdv A outer s H vs Q E hr h=>?_)
 ·obtain⟨x,d,rfl,_⟩:=h;rfl
 ·obtain⟨x,d,rfl,hd,q⟩:=h;have hr1:zS 1 _:=hr.mono (by decide);refine⟨_,zw (zC (xr (ya GP hr1 (by rfl) T.pair kP bP .nil ym (zd (pv 0) zu))
   (xr (ya GD hr (by rfl) T.day kD bD .nil ym (zd (zW yO (pv 0) zr (fun _ _=>rfl)) zu))
   (wc (ya GD hr (by rfl) T.day kD bD .nil ym (zd (zW yO (pv 0) zr (fun _ _=>rfl)) zu)))))),?_⟩
  refine⟨_,rfl,x,d,rfl,hd,_,rfl,?_⟩;refine yL (fun h=>?_) (fun h=>?_)
  ·obtain⟨a,b,rfl⟩:=sU h;cases hd with
   |tup e hs=>
    cases hs with
    |cons ha hs=>
     cases hs with
     |cons hb hs=>
      cases hs;have q':Q (.bl (tM a&&tM b)) H:=q;refine⟨_,rfl,_,_,0,_,rfl,rfl,SqT.of e,rfl,_,_,rfl,ha,_,rfl,?_⟩;refine yL (fun h=>?_) (fun h=>?_)
      ·rw[h,z28] at q';exact⟨_,rfl,_,_,1,_,rfl,rfl,SqT.of e,rfl,_,_,rfl,hb,q'⟩
      ·rw[z29.mpr h,z26] at q';exact q'
  ·have e:pE d=false:=by
    unfold pE;split
    ·exact absurd rfl h
    ·rfl
   rw[e] at q;exact q
theorem bh :zm ["thing"] ["thing"] (zb qk):=.o
theorem iq {f:Addr}{fd fdP:FuncData}(F:Fun K "is_stretch" "is_stretch" qk f fd)(T:lO mg fW fI fP fD fPD)(G:zF P w K mg base CX0 4 fPD fdP ["thing"] (yW pE))(kP:PySem.W.keepIn K (.ref fPD)=true)(bP:Binds K fdP ["thing"] []):
  zF P w K mg base CX0 5 f fd ["thing"] (yW yE):=by
 refine F.ok bh (fun vs H Q E h=>?_) (fun cdv A outer s H vs Q E hr h=>?_)
 ·obtain⟨x,d,rfl,_⟩:=h;rfl
 ·obtain⟨x,d,rfl,hd,q⟩:=h;refine⟨_,zw (zC (xr (ya G hr (by rfl) T.days kP bP .nil ym (zd (pv 0) zu))
   (wc (xQ sW (zW yO (pv 0) zr (fun _ _=>rfl)) (zW yO (pv 0) zr (fun _ _=>rfl)) (zE _))))),?_⟩
  refine⟨_,rfl,x,d,rfl,hd,_,rfl,?_⟩;refine yL (fun h=>?_) (fun h=>?_)
  ·obtain⟨a,b,rfl,ef⟩:=jZ h;unfold yE at q;rw[ef] at q;have q':Q (.bl (decide (0<=b-a))) H:=q;have eq1:decide (0<=b-a)=decide (a<=b):=by
    rw[ye5];omega
   rw[eq1] at q';cases hd with
   |tup e hs=>
    cases hs with
    |cons ha hs=>
     cases ha;cases hs with
     |cons hb hs=>
      cases hb;cases hs;exact⟨_,rfl,_,_,0,_,rfl,rfl,SqT.of e,rfl,_,rfl,_,_,1,_,rfl,rfl,SqT.of e,rfl,_,_,rfl,rfl,q'⟩
  ·rw[rP] at h;unfold yE at q;cases ef:pM d with
   |some k=>rw[ef] at h;exact absurd rfl h
   |none=>
    rw[ef] at q;exact q
end
noncomputable abbrev gK :Stmt:=inClass (top 35) 0
abbrev zk5 :Stmt:=inClass (top 35) 2
noncomputable abbrev iA :Stmt:=inClass (top 35) 3
noncomputable abbrev mV :Stmt:=inClass (top 36) 0
noncomputable abbrev jJ :Stmt:=inClass (top 37) 0
noncomputable abbrev zI6 :Stmt:=inClass (top 38) 0
noncomputable abbrev mS :Stmt:=inClass (top 39) 0
noncomputable abbrev ia :Stmt:=inClass (top 40) 0
noncomputable abbrev jq :Stmt:=inClass (top 41) 0
noncomputable abbrev aJ :Stmt:=inClass (top 42) 0
noncomputable abbrev gu :Stmt:=top 44
noncomputable abbrev nV :Stmt:=top 45
noncomputable abbrev jR :Stmt:=top 46
noncomputable abbrev me :Stmt:=top 47
noncomputable abbrev zd0 :Stmt:=top 48
noncomputable abbrev nv :Stmt:=top 49
structure jt (mg:Str->Option Value)(fW fI fP fD fPD fS fC fDl fWo fR fM:Addr)(cs:Cs):Prop where
 d:lO mg fW fI fP fD fPD
 coinsMost:∃t,mg "MOST_COINS"=some (.int 1000000000000 t)
 stretch:mg "is_stretch"=some (.ref fS)
 coins:mg "is_coins"=some (.ref fC)
 deal:mg "is_deal"=some (.ref fDl)
 worth:mg "is_worth"=some (.ref fWo)
 rule:mg "is_rule"=some (.ref fR)
 made:mg "made"=some (.ref fM)
 cPrice:mg "Price"=some (.ref cs.price)
 cCome:mg "Come"=some (.ref cs.come)
 cGo:mg "Go"=some (.ref cs.go)
 cLeast:mg "Least"=some (.ref cs.least)
 cMost:mg "Most"=some (.ref cs.most)
 cDeal:mg "Deal"=some (.ref cs.deal)
 cFee:mg "Fee"=some (.ref cs.fee)
section
variable {P:Program}{w:World}{K:PySem.W.Frag}{mg:Str->Option Value}{base:Heap}{fW fI fP fD fPD fS fC fDl fWo fR fM:Addr}{cs:Cs}
theorem zF9 :zm ["self","first","last","worth"] ["self","first","last","worth"] (zb gK):=.o
theorem vj {f C fT fE fWd:Addr}{fd:FuncData}(F:Fun K "__init__" "Rule.__init__" gK f fd)(R:wG K C f fT fE fWd):zF P w K mg base CX0 1 f fd ["self","first","last","worth"] (zH0 C):=by
 refine F.ok zF9 (fun vs H Q E h=>?_) (fun cdv A outer s H vs Q E hr h=>?_)
 ·obtain⟨p,dx,x,y,z,rfl,_⟩:=h;rfl
 ·obtain⟨p,dx,x,y,z,rfl,hp,q⟩:=h;refine⟨_,zN (mP (pv 0) (pv 1) rfl) (zN (mP (pv 0) (pv 2) rfl) (zw (mP (pv 0) (pv 3) rfl))),?_⟩;refine⟨_,rfl,_,rfl,p,C,dx,[],rfl,hp,R.cl,R.nf,(by show 0<1000;decide),?_⟩;refine⟨_,rfl,_,rfl,p,C,dx,_,rfl,zj,R.cl,R.nl,(by show 1<1000;decide),?_⟩;refine⟨_,rfl,_,rfl,p,C,dx,wu "last" y (wu "first" x []),rfl,zj,R.cl,R.nw,?_,?_⟩
  ·show (if ("first":Str)="last" then _ else _:List (Str×V)).length<1000;rw[if_neg (fun e=>za3 e.symm)];show 2<1000
   decide
  ·rw[rA,rA];exact q
theorem zm5 :zm ["self"] ["self"] (zb mV):=.o
theorem zv6 :zm ["self"] ["self"] (zb jJ):=.o
theorem zS2 :zm ["self"] ["self"] (zb zI6):=.o
theorem zg3 :zm ["self"] ["self"] (zb mS):=.o
theorem zp7 :zm ["self"] ["self"] (zb ia):=.o
theorem zw0 :zm ["self"] ["self"] (zb jq):=.o
theorem zC8 :zm ["self"] ["self"] (zb aJ):=.o
theorem oH {f:Addr}{fd:FuncData}(F:Fun K "word" "Price.word" mV f fd):zF P w K mg base CX0 1 f fd ["self"] (va "price"):=by
 refine F.ok zm5 (fun vs H Q E h=>?_) (fun cdv A outer s H vs Q E hr h=>?_)
 ·obtain⟨p,rfl,_⟩:=h;rfl
 ·obtain⟨p,rfl,q⟩:=h;exact⟨_,zw (zC yx),q⟩
theorem kG {f:Addr}{fd:FuncData}(F:Fun K "word" "Come.word" jJ f fd):zF P w K mg base CX0 1 f fd ["self"] (va "come"):=by
 refine F.ok zv6 (fun vs H Q E h=>?_) (fun cdv A outer s H vs Q E hr h=>?_)
 ·obtain⟨p,rfl,_⟩:=h;rfl
 ·obtain⟨p,rfl,q⟩:=h;exact⟨_,zw (zC yx),q⟩
theorem zl0 {f:Addr}{fd:FuncData}(F:Fun K "word" "Go.word" zI6 f fd):zF P w K mg base CX0 1 f fd ["self"] (va "go"):=by
 refine F.ok zS2 (fun vs H Q E h=>?_) (fun cdv A outer s H vs Q E hr h=>?_)
 ·obtain⟨p,rfl,_⟩:=h;rfl
 ·obtain⟨p,rfl,q⟩:=h;exact⟨_,zw (zC yx),q⟩
theorem oO {f:Addr}{fd:FuncData}(F:Fun K "word" "Least.word" mS f fd):zF P w K mg base CX0 1 f fd ["self"] (va "least"):=by
 refine F.ok zg3 (fun vs H Q E h=>?_) (fun cdv A outer s H vs Q E hr h=>?_)
 ·obtain⟨p,rfl,_⟩:=h;rfl
 ·obtain⟨p,rfl,q⟩:=h;exact⟨_,zw (zC yx),q⟩
theorem jc {f:Addr}{fd:FuncData}(F:Fun K "word" "Most.word" ia f fd):zF P w K mg base CX0 1 f fd ["self"] (va "most"):=by
 refine F.ok zp7 (fun vs H Q E h=>?_) (fun cdv A outer s H vs Q E hr h=>?_)
 ·obtain⟨p,rfl,_⟩:=h;rfl
 ·obtain⟨p,rfl,q⟩:=h;exact⟨_,zw (zC yx),q⟩
theorem je {f:Addr}{fd:FuncData}(F:Fun K "word" "Deal.word" jq f fd):zF P w K mg base CX0 1 f fd ["self"] (va "deal"):=by
 refine F.ok zw0 (fun vs H Q E h=>?_) (fun cdv A outer s H vs Q E hr h=>?_)
 ·obtain⟨p,rfl,_⟩:=h;rfl
 ·obtain⟨p,rfl,q⟩:=h;exact⟨_,zw (zC yx),q⟩
theorem fN {f:Addr}{fd:FuncData}(F:Fun K "word" "Fee.word" aJ f fd):zF P w K mg base CX0 1 f fd ["self"] (va "fee"):=by
 refine F.ok zC8 (fun vs H Q E h=>?_) (fun cdv A outer s H vs Q E hr h=>?_)
 ·obtain⟨p,rfl,_⟩:=h;rfl
 ·obtain⟨p,rfl,q⟩:=h;exact⟨_,zw (zC yx),q⟩
theorem zH3 :zm ["self"] ["self"] (zb zk5):=.o
theorem zt7 (x y z:V):(vH x y z).lookup ("word":Str)=none:=zo6 x y z (by decide +kernel) (by decide +kernel) (by decide +kernel)
theorem vn {f C fIn fE fWd:Addr}{fd fdW:FuncData}{wd:Str}(F:Fun K "told" "Rule.told" zk5 f fd)(R:wG K C fIn f fE fWd)(GW:zF P w K mg base CX0 1 fWd fdW ["self"] (va wd))(bW:Binds K fdW ["self"] []):
  zF P w K mg base CX0 2 f fd ["self"] (zg2 C wd):=by
 refine F.ok zH3 (fun vs H Q E h=>?_) (fun cdv A outer s H vs Q E hr h=>?_)
 ·obtain⟨p,dx,x,y,z,rfl,_⟩:=h;rfl
 ·obtain⟨p,dx,x,y,z,rfl,hp,q⟩:=h;refine⟨_,zw (zC (qP (zd (ko (pv 0) R.cl R.word GW hr bW .nil ym) (zd (sk (pv 0) rfl) (zd (sk (pv 0) rfl) (zd (sk (pv 0) rfl) zu)))))),?_⟩;refine⟨_,rfl,p,dx,_,rfl,hp,zt7 _ _ _,p,rfl,?_⟩;exact⟨_,rfl,p,C,dx,_,_,rfl,hp,R.cl,R.nf,qh _ _ _,_,rfl,p,C,dx,_,_,rfl,hp,R.cl,R.nl,oh _ _ _,_,rfl,p,C,dx,_,_,rfl,hp,R.cl,R.nw,hU _ _ _,(by show 4<=sizeLine;decide),q⟩
theorem zo7 :zm ["self","day"] ["self","day"] (zb iA):=.o
theorem xW {f C fIn fT fWd:Addr}{fd:FuncData}(F:Fun K "tells" "Rule.tells" iA f fd)(R:wG K C fIn fT f fWd):zF P w K mg base CX0 1 f fd ["self","day"] (gS C):=by
 refine F.ok zo7 (fun vs H Q E h=>?_) (fun cdv A outer s H vs Q E hr h=>?_)
 ·obtain⟨p,dx,a,b,day,z,rfl,_⟩:=h;rfl
 ·obtain⟨p,dx,a,b,day,z,rfl,hp,q⟩:=h;refine⟨_,zw (zC (pH sW sW (sk (pv 0) rfl) (pv 1) (sk (pv 0) rfl))),?_⟩;refine⟨_,rfl,p,C,dx,_,_,rfl,hp,R.cl,R.nf,qh _ _ _,_,rfl,_,_,rfl,rfl,_,rfl,?_⟩;refine yL (fun h=>?_) (fun h=>?_)
  ·rw[h,z28] at q;exact⟨_,rfl,p,C,dx,_,_,rfl,hp,R.cl,R.nl,oh _ _ _,_,_,rfl,rfl,q⟩
  ·rw[z29.mpr h,z26] at q;exact q
theorem zv2 :zm ["thing"] ["thing"] (zb gu):=.o
theorem zg6 {f:Addr}{fd fdI:FuncData}(F:Fun K "is_coins" "is_coins" gu f fd)(T:jt mg fW fI fP fD fPD fS fC fDl fWo fR fM cs)(GI:zF P w K mg base CX0 2 fI fdI ["thing","lowest","highest"] uc)(kI:PySem.W.keepIn K (.ref fI)=true)(bI:Binds K fdI ["thing","lowest","highest"] []):
  zF P w K mg base CX0 3 f fd ["thing"] (yW vY):=by
 obtain⟨tl,hl⟩:=T.coinsMost;refine F.ok zv2 (fun vs H Q E h=>?_) (fun cdv A outer s H vs Q E hr h=>?_)
 ·obtain⟨x,d,rfl,_⟩:=h;rfl
 ·obtain⟨x,d,rfl,hd,q⟩:=h;refine⟨_,zw (zC (ya GI hr (by rfl) T.d.within kI bI .nil ym (zd (pv 0) (zd zr (zd (tS (v:=.int 1000000000000) (by rfl) hl ⟨tl,rfl⟩) zu))))),?_⟩;exact⟨_,rfl,x,d,_,_,rfl,hd,q⟩
theorem zg9 :zm ["thing"] ["thing"] (zb nV):=.o
theorem dZ {f:Addr}{fd fdI fdP:FuncData}(F:Fun K "is_deal" "is_deal" nV f fd)(T:jt mg fW fI fP fD fPD fS fC fDl fWo fR fM cs)(GI:zF P w K mg base CX0 2 fI fdI ["thing","lowest","highest"] uc)(kI:PySem.W.keepIn K (.ref fI)=true)(bI:Binds K fdI ["thing","lowest","highest"] [])
  (GP:zF P w K mg base CX0 1 fP fdP ["thing"] (yW pairD)) (kP:PySem.W.keepIn K (.ref fP)=true) (bP:Binds K fdP ["thing"] []):zF P w K mg base CX0 3 f fd ["thing"] (yW uW):=by
 obtain⟨tm,hm⟩:=T.d.most;refine F.ok zg9 (fun vs H Q E h=>?_) (fun cdv A outer s H vs Q E hr h=>?_)
 ·obtain⟨x,d,rfl,_⟩:=h;rfl
 ·obtain⟨x,d,rfl,hd,q⟩:=h;have hr1:zS 1 _:=hr.mono (by decide);refine⟨_,zw (zC (xr (ya GP hr1 (by rfl) T.d.pair kP bP .nil ym (zd (pv 0) zu))
   (xr (ya GI hr (by rfl) T.d.within kI bI .nil ym (zd (zW yO (pv 0) zr (fun _ _=>rfl)) (zd zr (zd (tS (v:=.int 14) (by rfl) hm ⟨tm,rfl⟩) zu))))
   (wc (ya GI hr (by rfl) T.d.within kI bI .nil ym (zd (zW yO (pv 0) zr (fun _ _=>rfl)) (zd zr (zd (yI bV (zW yO (pv 0) zr (fun _ _=>rfl)) zr) zu)))))))),?_⟩
  refine⟨_,rfl,x,d,rfl,hd,_,rfl,?_⟩;refine yL (fun h=>?_) (fun h=>?_)
  ·obtain⟨a,b,rfl⟩:=sU h;cases hd with
   |tup e hs=>
    cases hs with
    |cons ha hs=>
     cases hs with
     |cons hb hs=>
      cases hs;refine⟨_,rfl,_,_,0,_,rfl,rfl,SqT.of e,rfl,_,_,_,_,rfl,ha,_,rfl,?_⟩;cases ha with
      |int m=>
       have q':Q (.bl (yv 2 14 (.int m)&&yv 1 (m-1) b)) H:=q;refine yL (fun h=>?_) (fun h=>?_)
       ·rw[h,z28] at q';exact⟨_,rfl,_,_,1,_,rfl,rfl,SqT.of e,rfl,_,rfl,_,_,0,_,rfl,rfl,SqT.of e,rfl,_,_,rfl,rfl,_,_,_,_,rfl,hb,q'⟩
       ·rw[z29.mpr h,z26] at q';exact q'
      |_=>exact uF q
  ·have e:uW d=false:=by
    unfold uW;split
    ·exact absurd rfl h
    ·rfl
   rw[e] at q;exact q
theorem zq7 :zm ["word","thing"] ["word","thing"] (zb jR):=.o
theorem ze5 {f:Addr}{fd fdI fdC fdDl:FuncData}(F:Fun K "is_worth" "is_worth" jR f fd)(T:jt mg fW fI fP fD fPD fS fC fDl fWo fR fM cs)(GI:zF P w K mg base CX0 2 fI fdI ["thing","lowest","highest"] uc)(kI:PySem.W.keepIn K (.ref fI)=true)(bI:Binds K fdI ["thing","lowest","highest"] [])
  (GC:zF P w K mg base CX0 3 fC fdC ["thing"] (yW vY)) (kC:PySem.W.keepIn K (.ref fC)=true) (bC:Binds K fdC ["thing"] []) (GDl:zF P w K mg base CX0 3 fDl fdDl ["thing"] (yW uW)) (kDl:PySem.W.keepIn K (.ref fDl)=true) (bDl:Binds K fdDl ["thing"] []):
  zF P w K mg base CX0 4 f fd ["word","thing"] gR:=by
 obtain⟨tm,hm⟩:=T.d.most;refine F.ok zq7 (fun vs H Q E h=>?_) (fun cdv A outer s H vs Q E hr h=>?_)
 ·obtain⟨x,y,dw,dv,rfl,_⟩:=h;rfl
 ·obtain⟨x,y,dw,dv,rfl,hx,sw,hy,q⟩:=h;have hr2:zS 2 _:=hr.mono (by decide);have hu:=hr.units;have st:∀{z:Str},z∈words->SeqAt.shaped (.str z)=true:=fun {z} hz=>iU (by
   simp only[words,zY1,zZ3,z23] at hz;rcases hz with rfl|rfl|rfl|rfl|rfl|rfl|rfl<;>decide +kernel)
  unfold zI at q
  -- if word == 'price'
  refine yd (fun σ H1=>σ=[some x,some y]/\eqS dw "price"=false/\H=H1)
   ⟨_,wx (yp (vQ hu) (pv 0) yx (zE _)) (zw (zC (aE (xQ mz (pv 1) pe (zE _)) (wc (ya GC hr (by rfl) T.coins kC bC .nil ym (zd (pv 1) zu)))))) yK,?_⟩ ?_
  ·refine⟨_,rfl,dw,.str "price",hx,.str _,sw,st (by simp[words]),_,rfl,?_⟩;refine yL (fun h=>?_) (fun h=>⟨rfl,z29.mpr h,rfl⟩);rw[if_pos h] at q;refine⟨_,rfl,rfl,_,rfl,?_⟩;rw[hy.non_iff];refine yL (fun h2=>?_) (fun h2=>?_)
   ·rw[h2,yf7] at q;exact q
   ·rw[z29.mpr h2,z91] at q;exact⟨_,rfl,y,dv,rfl,hy,q⟩
  rintro σ H1 ⟨rfl,e1,rfl⟩;rw[e1,if_neg zZ5] at q
  -- if word == 'come' or word == 'go'
  refine yd (fun σ H1=>σ=[some x,some y]/\(eqS dw "come"||eqS dw "go")=false/\H=H1)
   ⟨_,wx (PW.pt (zj9 (yp (vQ hu) (pv 0) yx (zE _)) (ju (yp (vQ hu) (pv 0) yx (zE _))))) (zw (zC (yo xT (by rfl) T.d.isi ya2 (zd (pv 1) (zd (ui (v:=.ty "bool") (by rfl) T.d.bool boot_bool rfl) zu))))) yK,?_⟩ ?_
  ·refine⟨_,rfl,dw,.str "come",hx,.str _,sw,st (by simp[words]),_,rfl,?_⟩;refine yL (fun h=>?_) (fun h=>?_)
   ·have h':eqS dw "come"=true:=h;rw[h',yf7,if_pos rfl] at q;exact ux ⟨_,rfl,y,"bool",dv,_,rfl,hy,qv dv,q⟩
   ·have h':eqS dw "come"=false:=z29.mpr h;refine⟨_,rfl,dw,.str "go",hx,.str _,sw,st (by simp[words]),_,rfl,?_⟩;refine yL (fun h2=>?_) (fun h2=>?_)
    ·have h2':eqS dw "go"=true:=h2;rw[h',h2',z91,if_pos rfl] at q;exact⟨_,rfl,y,"bool",dv,_,rfl,hy,qv dv,q⟩
    ·have h2':eqS dw "go"=false:=z29.mpr h2;exact⟨rfl,by rw[h',h2'];rfl,rfl⟩
  rintro σ H1 ⟨rfl,e2,rfl⟩;rw[e2,if_neg zZ5] at q
  -- if word == 'least' or word == 'most'
  refine yd (fun σ H1=>σ=[some x,some y]/\(eqS dw "least"||eqS dw "most")=false/\H=H1)
   ⟨_,wx (PW.pt (zj9 (yp (vQ hu) (pv 0) yx (zE _)) (ju (yp (vQ hu) (pv 0) yx (zE _))))) (zw (zC (ya GI hr2 (by rfl) T.d.within kI bI .nil ym (zd (pv 1) (zd zr (zd (tS (v:=.int 14) (by rfl) hm ⟨tm,rfl⟩) zu)))))) yK,?_⟩ ?_
  ·refine⟨_,rfl,dw,.str "least",hx,.str _,sw,st (by simp[words]),_,rfl,?_⟩;refine yL (fun h=>?_) (fun h=>?_)
   ·have h':eqS dw "least"=true:=h;rw[h',yf7,if_pos rfl] at q;exact ux ⟨_,rfl,y,dv,_,_,rfl,hy,q⟩
   ·have h':eqS dw "least"=false:=z29.mpr h;refine⟨_,rfl,dw,.str "most",hx,.str _,sw,st (by simp[words]),_,rfl,?_⟩;refine yL (fun h2=>?_) (fun h2=>?_)
    ·have h2':eqS dw "most"=true:=h2;rw[h',h2',z91,if_pos rfl] at q;exact⟨_,rfl,y,dv,_,_,rfl,hy,q⟩
    ·have h2':eqS dw "most"=false:=z29.mpr h2;exact⟨rfl,by rw[h',h2'];rfl,rfl⟩
  rintro σ H1 ⟨rfl,e3,rfl⟩;rw[e3,if_neg zZ5] at q
  -- if word == 'deal'
  refine yd (fun σ H1=>σ=[some x,some y]/\eqS dw "deal"=false/\H=H1)
   ⟨_,wx (yp (vQ hu) (pv 0) yx (zE _)) (zw (zC (aE (xQ mz (pv 1) pe (zE _)) (wc (ya GDl hr (by rfl) T.deal kDl bDl .nil ym (zd (pv 1) zu)))))) yK,?_⟩ ?_
  ·refine⟨_,rfl,dw,.str "deal",hx,.str _,sw,st (by simp[words]),_,rfl,?_⟩;refine yL (fun h=>?_) (fun h=>⟨rfl,z29.mpr h,rfl⟩);rw[if_pos h] at q;refine⟨_,rfl,rfl,_,rfl,?_⟩;rw[hy.non_iff];refine yL (fun h2=>?_) (fun h2=>?_)
   ·rw[h2,yf7] at q;exact q
   ·rw[z29.mpr h2,z91] at q;exact⟨_,rfl,y,dv,rfl,hy,q⟩
  rintro σ H1 ⟨rfl,e4,rfl⟩;rw[e4,if_neg zZ5] at q;refine⟨_,zw (zC (xr (xQ (vQ hu) (pv 0) yx (zE _)) (wc (ya GC hr (by rfl) T.coins kC bC .nil ym (zd (pv 1) zu))))),?_⟩;refine⟨_,rfl,dw,.str "fee",hx,.str _,sw,st (by simp[words]),_,rfl,?_⟩;refine yL (fun h=>?_) (fun h=>?_)
  ·have h':eqS dw "fee"=true:=h;rw[h',z28] at q;exact⟨_,rfl,y,dv,rfl,hy,q⟩
  ·have h':eqS dw "fee"=false:=z29.mpr h;rw[h',z26] at q;exact q
theorem zh9 :zm ["thing"] ["thing"] (zb me):=.o
theorem cy {f:Addr}{fd fdS fdWo:FuncData}(F:Fun K "is_rule" "is_rule" me f fd)(T:jt mg fW fI fP fD fPD fS fC fDl fWo fR fM cs)(GS:zF P w K mg base CX0 5 fS fdS ["thing"] (yW yE))(kS:PySem.W.keepIn K (.ref fS)=true)(bS:Binds K fdS ["thing"] [])
  (GW:zF P w K mg base CX0 4 fWo fdWo ["word","thing"] gR) (kW:PySem.W.keepIn K (.ref fWo)=true) (bW:Binds K fdWo ["word","thing"] []):zF P w K mg base CX0 6 f fd ["thing"] zj5:=by
 refine F.ok zh9 (fun vs H Q E h=>?_) (fun cdv A outer s H vs Q E hr h=>?_)
 ·obtain⟨x,d,rfl,_⟩:=h;rfl
 ·obtain⟨x,d,rfl,hd,sd,q⟩:=h;have hr4:zS 4 _:=hr.mono (by decide);refine⟨_,zw (zC (xr (yo xT (by rfl) T.d.isi ya2 (zd (pv 0) (zd (ui (v:=.ty "tuple") (by rfl) T.d.tuple boot_tuple rfl) zu)))
   (xr (xQ vA (yo yG (by rfl) T.d.len z94 (zd (pv 0) zu)) zr (zE _))
   (xr (ya GS hr (by rfl) T.stretch kS bS .nil ym (zd (qP (zd (zW yO (pv 0) zr (fun _ _=>rfl)) (zd (zW yO (pv 0) zr (fun _ _=>rfl)) zu))) zu))
   (wc (ya GW hr4 (by rfl) T.worth kW bW .nil ym (zd (zW yO (pv 0) zr (fun _ _=>rfl)) (zd (zW yO (pv 0) zr (fun _ _=>rfl)) zu)))))))),?_⟩
  refine⟨_,rfl,x,"tuple",d,_,rfl,hd,oj d,_,rfl,?_⟩;cases hd with
  |@tup a xs ds e hs=>
   refine ux ⟨_,rfl,a,_,rfl,.inr (SqT.of e),rfl,_,rfl,?_⟩;cases hs with
   |nil=>exact yL (fun h=>absurd h (by simp)) (fun _=>q H (zz.refl H))
   |@cons xw _ dw _ hw hs=>
   cases hs with
   |nil=>exact yL (fun h=>absurd h (by simp)) (fun _=>q H (zz.refl H))
   |@cons xa _ da _ ha hs=>
   cases hs with
   |nil=>exact yL (fun h=>absurd h (by simp)) (fun _=>q H (zz.refl H))
   |@cons xb _ db _ hb hs=>
   cases hs with
   |nil=>exact yL (fun h=>absurd h (by simp)) (fun _=>q H (zz.refl H))
   |@cons xv _ dv _ hv hs=>
   cases hs with
   |cons _ _=>exact yL (fun h=>absurd h (by simp;omega)) (fun _=>q H (zz.refl H))
   |nil=>
    refine yL (fun _=>?_) (fun h=>absurd rfl h);refine⟨_,rfl,a,_,1,_,rfl,rfl,SqT.of e,rfl,_,rfl,a,_,2,_,rfl,rfl,SqT.of e,rfl,(by show 2<=sizeLine;decide),fun p hp=>?_⟩;have s1:zz H (upd H p (.tup [xa,xb])):=yn hp;refine⟨_,.tuple [da,db],rfl,.tup zj (.cons (ha.same s1) (.cons (hb.same s1) .nil)),_,rfl,?_⟩;have q':Q (.bl (yE (.tuple [da,db])&&zI dw dv)) (upd H p (.tup [xa,xb])):=q _ s1;refine yL (fun h=>?_) (fun h=>?_)
    ·rw[h,z28] at q';exact⟨_,rfl,a,_,0,_,rfl,rfl,SqT.of (s1 _ _ e),rfl,_,rfl,a,_,3,_,rfl,rfl,SqT.of (s1 _ _ e),rfl,_,_,_,_,rfl,hw.same s1,ma sd dw (by simp),hv.same s1,q'⟩
    ·rw[z29.mpr h,z26] at q';exact q'
  |_=>exact uF (q H (zz.refl H))
end
section
variable {P:Program}{w:World}{K:PySem.W.Frag}{mg:Str->Option Value}{base:Heap}{fW fI fP fD fPD fS fC fDl fWo fR fM:Addr}{cs:Cs}
structure zk7 (K:PySem.W.Frag)(cs:Cs)(fIn fTo fTe w1 w2 w3 w4 w5 w6 w7:Addr):Prop where
 price:wG K cs.price fIn fTo fTe w1
 come:wG K cs.come fIn fTo fTe w2
 go:wG K cs.go fIn fTo fTe w3
 least:wG K cs.least fIn fTo fTe w4
 most:wG K cs.most fIn fTo fTe w5
 deal:wG K cs.deal fIn fTo fTe w6
 fee:wG K cs.fee fIn fTo fTe w7
theorem vX (cs:Cs):cs.of "price"=cs.price:=by unfold Cs.of;rw[if_pos rfl]
theorem uY (cs:Cs):cs.of "come"=cs.come:=by unfold Cs.of;rw[if_neg (by decide +kernel),if_pos rfl]
theorem lZ (cs:Cs):cs.of "go"=cs.go:=by unfold Cs.of;rw[if_neg (by decide +kernel),if_neg (by decide +kernel),if_pos rfl]
theorem vV (cs:Cs):cs.of "least"=cs.least:=by unfold Cs.of;rw[if_neg (by decide +kernel),if_neg (by decide +kernel),if_neg (by decide +kernel),if_pos rfl]
theorem tT (cs:Cs):cs.of "most"=cs.most:=by unfold Cs.of;rw[if_neg (by decide +kernel),if_neg (by decide +kernel),if_neg (by decide +kernel),if_neg (by decide +kernel),if_pos rfl]
theorem tE (cs:Cs):cs.of "deal"=cs.deal:=by unfold Cs.of;rw[if_neg (by decide +kernel),if_neg (by decide +kernel),if_neg (by decide +kernel),if_neg (by decide +kernel),if_neg (by decide +kernel),if_pos rfl]
theorem qB (cs:Cs):cs.of "fee"=cs.fee:=by unfold Cs.of;rw[if_neg (by decide +kernel),if_neg (by decide +kernel),if_neg (by decide +kernel),if_neg (by decide +kernel),if_neg (by decide +kernel),if_neg (by decide +kernel)]
theorem tW {x y:Str}(h:decide (V.str x=V.str y)=true):x=y:=by
 have:=z43 h;injection this
theorem sf {x y:Str}(h:¬decide (V.str x=V.str y)=true):x≠y:=fun e=>h (by rw[e];exact z33 rfl)
theorem wj {C p dx:Addr}{H:Hp}{x y z:V}{Q:VK}(k:∀(p dx:Addr) (H':Hp),H' p=some (.ins C dx (vH x y z))->H p=none->zz H H'->Q (.ref p) H')(hp:H p=none)(hx:H dx=none)(n:dx≠p):
  Q (.ref p) (upd (upd (upd H dx (.own p)) p (.ins C dx [])) p (.ins C dx (vH x y z))):=by
 refine k p dx _ zj hp fun a o e=>?_;rw[rA,zf (zp e hp),zf (zp e hx)];exact e
theorem zF5 :zm ["word","first","last","worth"] ["word","first","last","worth"] (zb zd0):=.o
theorem zo3 {f fIn fTo fTe w1 w2 w3 w4 w5 w6 w7:Addr}{fd fdIn:FuncData}(F:Fun K "made" "made" zd0 f fd)(T:jt mg fW fI fP fD fPD fS fC fDl fWo fR fM cs)(A7:zk7 K cs fIn fTo fTe w1 w2 w3 w4 w5 w6 w7)
  (FI:Fun K "__init__" "Rule.__init__" gK fIn fdIn) (bI:Binds K fdIn ["self","first","last","worth"] []):zF P w K mg base CX0 3 f fd ["word","first","last","worth"] (zd2 cs):=by
 refine F.ok zF5 (fun vs H Q E h=>?_) (fun cdv A outer s H vs Q E hr h=>?_)
 ·obtain⟨wd,x,y,z,rfl,_⟩:=h;rfl
 ·obtain⟨wd,x,y,z,rfl,hw,k⟩:=h;refine yd (fun σ H1=>σ=[some (.str wd),some x,some y,some z]/\wd≠"price"/\H=H1)
   ⟨_,wx (yp vA (pv 0) yx (zE _)) (zw (zC (wB A7.price.makes (vj FI A7.price) hr (by rfl) T.cPrice bI .nil ym (zd (pv 1) (zd (pv 2) (zd (pv 3) zu)))))) yK,?_⟩ ?_
  ·refine⟨_,rfl,rfl,_,rfl,yL (fun h=>?_) (fun h=>⟨rfl,sf h,rfl⟩)⟩;rw[tW h,vX] at k;exact⟨_,rfl,_,rfl,_,rfl,fun p dx hp hx n=>⟨p,dx,_,_,_,rfl,zj,rfl,wj k hp hx n⟩⟩
  rintro σ H1 ⟨rfl,n1,rfl⟩;refine yd (fun σ H1=>σ=[some (.str wd),some x,some y,some z]/\wd≠"come"/\H=H1)
   ⟨_,wx (yp vA (pv 0) yx (zE _)) (zw (zC (wB A7.come.makes (vj FI A7.come) hr (by rfl) T.cCome bI .nil ym (zd (pv 1) (zd (pv 2) (zd (pv 3) zu)))))) yK,?_⟩ ?_
  ·refine⟨_,rfl,rfl,_,rfl,yL (fun h=>?_) (fun h=>⟨rfl,sf h,rfl⟩)⟩;rw[tW h,uY] at k;exact⟨_,rfl,_,rfl,_,rfl,fun p dx hp hx n=>⟨p,dx,_,_,_,rfl,zj,rfl,wj k hp hx n⟩⟩
  rintro σ H1 ⟨rfl,n2,rfl⟩;refine yd (fun σ H1=>σ=[some (.str wd),some x,some y,some z]/\wd≠"go"/\H=H1)
   ⟨_,wx (yp vA (pv 0) yx (zE _)) (zw (zC (wB A7.go.makes (vj FI A7.go) hr (by rfl) T.cGo bI .nil ym (zd (pv 1) (zd (pv 2) (zd (pv 3) zu)))))) yK,?_⟩ ?_
  ·refine⟨_,rfl,rfl,_,rfl,yL (fun h=>?_) (fun h=>⟨rfl,sf h,rfl⟩)⟩;rw[tW h,lZ] at k;exact⟨_,rfl,_,rfl,_,rfl,fun p dx hp hx n=>⟨p,dx,_,_,_,rfl,zj,rfl,wj k hp hx n⟩⟩
  rintro σ H1 ⟨rfl,n3,rfl⟩;refine yd (fun σ H1=>σ=[some (.str wd),some x,some y,some z]/\wd≠"least"/\H=H1)
   ⟨_,wx (yp vA (pv 0) yx (zE _)) (zw (zC (wB A7.least.makes (vj FI A7.least) hr (by rfl) T.cLeast bI .nil ym (zd (pv 1) (zd (pv 2) (zd (pv 3) zu)))))) yK,?_⟩ ?_
  ·refine⟨_,rfl,rfl,_,rfl,yL (fun h=>?_) (fun h=>⟨rfl,sf h,rfl⟩)⟩;rw[tW h,vV] at k;exact⟨_,rfl,_,rfl,_,rfl,fun p dx hp hx n=>⟨p,dx,_,_,_,rfl,zj,rfl,wj k hp hx n⟩⟩
  rintro σ H1 ⟨rfl,n4,rfl⟩;refine yd (fun σ H1=>σ=[some (.str wd),some x,some y,some z]/\wd≠"most"/\H=H1)
   ⟨_,wx (yp vA (pv 0) yx (zE _)) (zw (zC (wB A7.most.makes (vj FI A7.most) hr (by rfl) T.cMost bI .nil ym (zd (pv 1) (zd (pv 2) (zd (pv 3) zu)))))) yK,?_⟩ ?_
  ·refine⟨_,rfl,rfl,_,rfl,yL (fun h=>?_) (fun h=>⟨rfl,sf h,rfl⟩)⟩;rw[tW h,tT] at k;exact⟨_,rfl,_,rfl,_,rfl,fun p dx hp hx n=>⟨p,dx,_,_,_,rfl,zj,rfl,wj k hp hx n⟩⟩
  rintro σ H1 ⟨rfl,n5,rfl⟩;refine yd (fun σ H1=>σ=[some (.str wd),some x,some y,some z]/\wd≠"deal"/\H=H1)
   ⟨_,wx (yp vA (pv 0) yx (zE _)) (zw (zC (wB A7.deal.makes (vj FI A7.deal) hr (by rfl) T.cDeal bI .nil ym (zd (pv 1) (zd (pv 2) (zd (pv 3) zu)))))) yK,?_⟩ ?_
  ·refine⟨_,rfl,rfl,_,rfl,yL (fun h=>?_) (fun h=>⟨rfl,sf h,rfl⟩)⟩;rw[tW h,tE] at k;exact⟨_,rfl,_,rfl,_,rfl,fun p dx hp hx n=>⟨p,dx,_,_,_,rfl,zj,rfl,wj k hp hx n⟩⟩
  rintro σ H1 ⟨rfl,n6,rfl⟩;have e7:wd="fee":=by
   simp only[words,zY1,zZ3,z23] at hw;rcases hw with e|e|e|e|e|e|e
   ·exact absurd e n1
   ·exact absurd e n2
   ·exact absurd e n3
   ·exact absurd e n4
   ·exact absurd e n5
   ·exact absurd e n6
   ·exact e
  rw[e7,qB] at k;refine⟨_,zw (zC (wB A7.fee.makes (vj FI A7.fee) hr (by rfl) T.cFee bI .nil ym (zd (pv 1) (zd (pv 2) (zd (pv 3) zu))))),?_⟩;exact⟨_,rfl,_,rfl,_,rfl,fun p dx hp hx n=>⟨p,dx,_,_,_,rfl,zj,rfl,wj k hp hx n⟩⟩
theorem bE :zm ["thing"] ["thing"] (zb nv):=.o
theorem cu {f:Addr}{fd fdR fdM:FuncData}(F:Fun K "rule_of" "rule_of" nv f fd)(T:jt mg fW fI fP fD fPD fS fC fDl fWo fR fM cs)(GR:zF P w K mg base CX0 6 fR fdR ["thing"] zj5)(kR:PySem.W.keepIn K (.ref fR)=true)(bR:Binds K fdR ["thing"] [])
  (GM:zF P w K mg base CX0 3 fM fdM ["word","first","last","worth"] (zd2 cs)) (kM:PySem.W.keepIn K (.ref fM)=true) (bM:Binds K fdM ["word","first","last","worth"] []):zF P w K mg base CX0 7 f fd ["thing"] (jd cs):=by
 refine F.ok bE (fun vs H Q E h=>?_) (fun cdv A outer s H vs Q E hr h=>?_)
 ·obtain⟨x,d,rfl,_⟩:=h;rfl
 ·obtain⟨x,d,rfl,hd,sd,k0,k1⟩:=h;have hr3:zS 3 _:=hr.mono (by decide);refine yd (fun σ H1=>σ=[some x]/\xq d=true/\zz H H1)
   ⟨_,wx (bH (zb4 (ya GR hr (by rfl) T.rule kR bR .nil ym (zd (pv 0) zu)))) (zw (zC pe)) yK,?_⟩ ?_
  ·refine⟨_,rfl,x,d,rfl,hd,sd,fun H1 s1=>⟨_,rfl,?_⟩⟩;refine yL (fun h=>?_) (fun h=>?_)
   ·exact k0 (by simpa using h) H1 s1
   ·exact⟨rfl,by simpa using h,s1⟩
  rintro σ H1 ⟨rfl,er,s1⟩;obtain⟨sw,da,db,dv,hsw,rfl⟩:=wz er;cases hd with
  |@tup r xs ds e hs=>
   cases hs with
   |@cons xw _ _ _ hw hs=>
    cases hw;cases hs with
    |@cons xa _ _ _ ha hs=>
     cases hs with
     |@cons xb _ _ _ hb hs=>
      cases hs with
      |@cons xv _ _ _ hv hs=>
       cases hs;have e1:=s1 _ _ e;refine⟨_,zw (zC (ya GM hr3 (by rfl) T.made kM bM .nil ym (zd (zW yO (pv 0) zr (fun _ _=>rfl)) (zd (zW yO (pv 0) zr (fun _ _=>rfl)) (zd (zW yO (pv 0) zr (fun _ _=>rfl)) (zd (zW yO (pv 0) zr (fun _ _=>rfl)) zu)))))),?_⟩;refine⟨_,rfl,r,_,0,_,rfl,rfl,SqT.of e1,rfl,_,rfl,r,_,1,_,rfl,rfl,SqT.of e1,rfl,_,rfl,r,_,2,_,rfl,rfl,SqT.of e1,rfl,_,rfl,r,_,3,_,rfl,rfl,SqT.of e1,rfl,sw,_,_,_,rfl,hsw,fun p dx H2 h2 hp s2=>?_⟩;exact k1 r sw xa xb xv p dx H2 rfl er hsw e h2 (s1.free hp) (s1.trans s2)
end
noncomputable abbrev zh8 :Stmt:=top 53
noncomputable abbrev xN :Stmt:=inClass (top 52) 0
abbrev uf :Stmt:=inClass (top 52) 1
noncomputable def pd (C:Addr)(a b v:PyData):PyData:=vW C [(.str "first",a),(.str "last",b),(.str "worth",v)]
noncomputable def sP (cs:Cs):PyData->PyData
 |.tuple [.str w,a,b,v]=>pd (cs.of w) a b v
 |_=>.none
noncomputable def ye (C:Addr)(cs:Cs)(ds:List PyData):PyData:=vW C [(.str "kept",.list (ds.map (sP cs)))]
def Rules (ds:List PyData):Prop:=∀d∈ds,xq d=true/\SeqAt.shaped d=true/\d.hasDict=false
def qW (cs:Cs):List A->(A->Prop)->Prop:=fun as Q=>∃d,as=[.dat d]/\d.hasDict=false/\SeqAt.shaped d=true/\(xq d=false->Q (.dat .none))/\(xq d=true->Q (.dat (sP cs d)))
def iN (cs:Cs):List A->(A->Prop)->Prop:=fun as Q=>∃ds,as=[.dat (.list ds)]/\Rules ds/\ds.length<=24/\Q (.own (ds.map (sP cs)))
def qw (C:Addr)(cs:Cs):List A->(A->Prop)->Prop:=fun as Q=>∃ds,(as=[.dat (.list ds)]\/(as=[.dat .none]/\ds=[]))/\Rules ds/\ds.length<=24/\Q (.dat (ye C cs ds))
def iZ (C:Addr)(w:Str):List A->(A->Prop)->Prop:=fun as Q=>∃a b v,as=[.dat (pd C a b v)]/\Q (.dat (.tuple [.str w,a,b,v]))
def md (C:Addr)(cs:Cs):List A->(A->Prop)->Prop:=fun as Q=>∃ds,as=[.dat (ye C cs ds)]/\Rules ds/\ds.length<=1000/\Q (.own ds)
theorem mF (x y z:V):vH x y z=[(("first":Str),x),(("last":Str),y),(("worth":Str),z)]:=by
 unfold vH;show wu "worth" z (if ("first":Str)="last" then _ else _)=_;rw[if_neg (fun e=>za3 e.symm)];show (if ("first":Str)="worth" then _ else _)=_;rw[if_neg (fun e=>bU e.symm)];show _::(if ("last":Str)="worth" then _ else _)=_;rw[if_neg (fun e=>zl1 e.symm)];rfl
theorem uP {cs:Cs}{d:PyData}(h:xq d=true):∃(s:Str) (a b v:PyData),s∈words/\d=.tuple [.str s,a,b,v]/\sP cs d=pd (cs.of s) a b v:=by
 obtain⟨s,a,b,v,hs,rfl⟩:=wz h;exact⟨s,a,b,v,hs,rfl,rfl⟩
def zj4 :Scope:=match zy uf with
 |[.Return (some (.ListComp _ _ sc _)) _]=>sc
 |_=>zb uf
section
variable {P:Program}{w:World}{K:PySem.W.Frag}{mg:Str->Option Value}{base:Heap}{cs:Cs}
theorem jV {k:Nat}{f:Addr}{fd:FuncData}{ps:List Str}(hm:mg "rule_of"=some (.ref f))(hk:PySem.W.keepIn K (.ref f)=true)(hb:Binds K fd ps [])(G:zF P w K mg base CX0 k f fd ps (jd cs)):Cal P w K mg base "rule_of" k (qW cs):=by
 refine⟨f,fd,_,hm,hk,hb,G.imp fun vs H Q E h=>?_⟩;obtain⟨F,as,Q',rfl,t,o,rv,⟨d,rfl,nd,sh,q0,q1⟩,kk⟩:=h;obtain⟨x,rfl,av⟩:=rv.one;have oo:∀{a:Addr},F.H0 a=none->¬F.O0 a:=fun {a} e z=>by
  obtain⟨u,hu,_⟩:=o a z;rw[e] at hu;cases hu
 refine⟨x,d,rfl,(av.dv nd).same xG,sh,fun hr H' s=>kk _ _ _ (q0 hr) ⟨t.same s,Kz.of_same s,.non⟩,fun r wd x1 x2 x3 p dx H' hx hr hw he hp' hp s=>kk _ _ _ (q1 hr) ⟨t.same s,Kz.of_same s,?_⟩⟩;subst hx;obtain⟨s',a,b,v,_,rfl⟩:=wz hr;obtain⟨r',xs,e1,e2,e3⟩:=av.tup_inv;cases e1;have e4:=(zh e2).2;rw[he] at e4;cases e4;have gs:zz (sub (fun x=>¬F.O0 x) F.H0) (sub (fun x=>¬F.O0 x) H'):=zx fun a u h e=>⟨h,s _ _ e⟩;cases e3 with
 |cons g1 e3=>
  cases g1.str_inv;cases e3 with
  |cons g2 e3=>
   cases e3 with
   |cons g3 e3=>
    cases e3 with
    |cons g4 e3=>
     cases e3;rw[mF] at hp';exact .ins (zH (oo hp) hp') (.cons (g2.same gs) (.cons (g3.same gs) (.cons (g4.same gs) .nil)))
theorem xy {C f fIn fE fWd:Addr}{fd:FuncData}{wd:Str}(R:wG K C fIn f fE fWd)(hb:Binds K fd ["self"] [])(G:zF P w K mg base CX0 2 f fd ["self"] (zg2 C wd)):vt P w K mg base C "told" 2 (iZ C wd):=by
 refine⟨f,fd,_,R.cl,R.told,hb,G.imp fun vs H Q E h=>?_⟩;obtain⟨F,as,Q',rfl,t,o,rv,⟨a,b,v,rfl,q⟩,kk⟩:=h;obtain⟨x,rfl,av⟩:=rv.one;obtain⟨p,dx,fs,rfl,h1,h2⟩:=av.ins_inv;cases h2 with
 |cons g1 h2=>
  cases h2 with
  |cons g2 h2=>
   cases h2 with
   |cons g3 h2=>
    cases h2;refine⟨p,dx,_,_,_,rfl,by rw[mF];exact (zh h1).2,fun r hr=>kk _ _ _ q ⟨t.same (yn hr),Kz.of_same (yn hr),?_⟩⟩;have gs:∀o':HO,zz (sub (fun x=>¬F.O0 x) F.H0) (sub (fun x=>¬F.O0 x) (upd F.H0 r o')):=fun o'=>zx fun a u h e=>⟨h,by rw[zf (zp e hr)];exact e⟩;refine .tup (zH (fun z=>?_) zj) (.cons (.str _) (.cons (g1.same (gs _)) (.cons (g2.same (gs _)) (.cons (g3.same (gs _)) .nil))));obtain⟨u,hu,_⟩:=o r z;rw[hr] at hu;cases hu
theorem ak :zm ["things","kept","number","thing","rule"] ["things"] (zb zh8):=.o
theorem aF {f:Addr}{fd:FuncData}(F:Fun K "kept_rules" "kept_rules" zh8 f fd)(hm:mg "kept_rules"=some (.ref f))(hb:Binds K fd ["things"] [])(nb:NbT mg)(gM:∃t,mg "MOST_RULES"=some (.int 24 t))(CRO:Cal P w K mg base "rule_of" 7 (qW cs)):Cal P w K mg base "kept_rules" 8 (iN cs):=by
 refine yM F hm hb ak (fun as Q h=>?_) (fun cdv A' outer s H E as Q hr h=>?_)
 ·obtain⟨ds,rfl,_⟩:=h;rfl
 ·obtain⟨ds,rfl,rd,hl,q⟩:=h;refine xj 1 ak.nd (xM (zt (⟨_,rfl,zZ8 rfl,?_⟩)));refine vZ (pat:=.many [2,3]) z60 rfl (vS (n:=2) (K:=K) rfl rfl (xX (zU (i:=2) ak.nd rfl (Or.inl rfl)) (xX (zU (i:=3) ak.nd rfl (Or.inl rfl)) (tR)))) (mB (by rfl) nb.enumerate (zi 0 rfl (⟨_,rfl,?_⟩)));refine zX (fun i α=>∃v2 v3 v4,α=[some (.dat (.list ds)),some (.own ((ds.take i).map (sP cs))),v2,v3,v4]) ⟨none,none,none,rfl⟩ ?_ ?_
  ·rintro i d α hd ⟨v2,v3,v4,rfl⟩;obtain⟨e,he,rfl⟩:=wW hd;obtain⟨r1,r2,r3⟩:=rd e (z27 he);have hi:i<ds.length:=(zY0.mp he).1;refine⟨_,rfl,?_⟩;refine yu 4 ak.nd (yH CRO hr (by rfl) (zg (zi 3 rfl (zt (⟨_,rfl,r3,r2,fun z=>(by rw[r1] at z;cases z),fun _=>?_⟩)))));refine yQ (vT (zi 4 rfl ?_));obtain⟨s',a,b,v,hs,rfl,ei⟩:=uP (cs:=cs) r1;refine yB (fun h=>by rw[show (A.dat (sP cs (.tuple [.str s',a,b,v]))).d=pd (cs.of s') a b v from rfl] at h;cases h) (fun _=>zA ?_);refine yD 1 rfl (zi 4 rfl ⟨by rw[zX5,z04];omega,?_⟩);refine zA ⟨some (.dat (.int ((0+i:Nat):Int))),some (.dat (.tuple [.str s',a,b,v])),some (.dat (sP cs (.tuple [.str s',a,b,v]))),?_⟩;rw[z44,he,z03];rfl
  ·rintro α ⟨v2,v3,v4,rfl⟩;rw[wQ,z56];refine yQ (gC 1 rfl (aK (nY (by rfl) nb.len (zi 1 rfl ⟨_,rfl,aW (by rfl) gM ⟨_,_,rfl,rfl,?_⟩⟩))));refine za8 (fun h=>?_) (fun _=>zA ?_)
   ·rw[zX5] at h;omega
   ·exact xD 1 rfl q
theorem zU1 :zm ["self","rules"] ["self","rules"] (zb xN):=.o
theorem cD {w' v:PyData}(h:zI w' v=true):noL v=true:=by
 have wi:∀{lo hi:Int} {x:PyData},yv lo hi x=true->noL x=true:=fun {lo hi x} h=>by
  cases x with
  |int i=>rfl
  |_=>cases h
 have nn:∀{x:PyData},isNone x=true->noL x=true:=fun {x} h=>by
  cases x with
  |none=>rfl
  |_=>cases h
 unfold zI at h;split at h
 ·rcases (z67 _ _).mp h with h|h
  ·exact nn h
  ·exact wi h
 ·split at h
  ·cases v with
   |bool b=>rfl
   |_=>cases h
  ·split at h
   ·exact wi h
   ·split at h
    ·rcases (z67 _ _).mp h with h|h
     ·exact nn h
     ·unfold uW at h;split at h
      ·rw[zZ9] at h;simp only[noL,uw,wi h.2,yg7]
      ·cases h
    ·rw[zZ9] at h;exact wi h.2
theorem bO {s':Str}{a b v:PyData}(h:xq (.tuple [.str s',a,b,v])=true):noL a=true/\noL b=true/\noL v=true:=by
 have h':(yE (.tuple [a,b])&&zI (.str s') v)=true:=h;rw[zZ9] at h';refine⟨?_,?_,cD h'.2⟩
 ·have:=h'.1;unfold yE pM at this;split at this
  ·rename_i k e;split at e
   ·rename_i z;cases z;rfl
   ·cases e
  ·cases this
 ·have:=h'.1;unfold yE pM at this;split at this
  ·rename_i k e;split at e
   ·rename_i z;cases z;rfl
   ·cases e
  ·cases this
theorem kU {ds:List PyData}(rd:Rules ds):uw (ds.map (sP cs))=true:=by
 induction ds with
 |nil=>rfl
 |cons d r ih=>
  have ih':=ih fun x hx=>rd x (zY4 _ hx);have h1:=(rd d zY6).1;obtain⟨s',a,b,v,hs,rfl,ei⟩:=uP (cs:=cs) h1;obtain⟨z1,z2,z3⟩:=bO h1;rw[zZ6,ei];simp only[uw,ih',Bool.and_true];simp[pd,vW,noL,gn,z1,z2,z3]
theorem zc3 {f C:Addr}{dV:Value}{fd:FuncData}(F:zJ3 K "__init__" "Book.__init__" xN dV f fd)(c:Cls K C)(na:yT K C "kept")(CK:Cal P w K mg base "kept_rules" 8 (iN cs)):zF P w K mg base CX0 9 f fd ["self","rules"] (spI C (qw C cs)):=by
 refine zP1 (N:=[]) F zU1 c na rfl (fun as Q h=>?_) (fun cdv A' outer s H E as Q hr h=>?_) (fun _ _ _ _ _ _=>rfl) (Or.inl rfl)
 ·obtain⟨ds,h|⟨h,_⟩,_⟩:=h<;>rw[h]<;>rfl
 ·obtain⟨ds,h|⟨h,hz⟩,rd,hl,q⟩:=h
  ·subst h;exact xV CK hr (by rfl) (zg (hJ (vT (zi 1 rfl (uF (zi 1 rfl (zt ⟨_,rfl,rd,hl,_,rfl,kU rd,q⟩)))))))
  ·subst h hz;exact xV CK hr (by rfl) (zg (hJ (vT (zi 1 rfl (ux (EvL.d (xM (zt ⟨_,rfl,zZ8 rfl,zt ⟨[],rfl,rd,hl,_,rfl,kU rd,q⟩⟩))))))))
theorem zV8 :zm ["self"] ["self"] (zb uf):=.o
theorem zQ2 :zQ ["self"] (zb uf) ["rule"] [none] zj4:=⟨rfl,by decide +kernel,by decide +kernel,by decide +kernel,by decide +kernel,rfl,by decide +kernel⟩
theorem dn {f C:Addr}{fd:FuncData}(F:Fun K "rules" "Book.rules" uf f fd)(c:Cls K C)(na:yT K C "kept")(hb:Binds K fd ["self"] [])(O:∀w'∈words,vt P w K mg base (cs.of w') "told" 2 (iZ (cs.of w') w')):zF P w K mg base CX0 3 f fd ["self"] (spA (md C cs)):=by
 refine fnA F zV8 (fun as Q h=>?_) (fun cdv A' outer s H E as Q hr h=>?_)
 ·obtain⟨ds,rfl,_⟩:=h;rfl
 ·obtain⟨ds,rfl,rd,hl,q⟩:=h;refine tP (aV (pat:=.one 0) rfl zQ2 rfl (fun _ _ _ _=>zU (i:=0) zQ2.nd rfl (Or.inl rfl)) (yj (iW c na (zi 0 rfl ⟨_,_,rfl,rfl,⟨_,rfl,by rw[zX5];exact hl,?comp⟩⟩))))
  case comp=>
   refine pV (fun i acc=>acc=ds.take i) rfl ?_ (fun acc h=>?_)
   ·rintro i d acc hd rfl;rw[zY3,zZ2] at hd;obtain⟨e,he,rfl⟩:=hd;obtain⟨s',a,b,v,hs,rfl,ei⟩:=uP (cs:=cs) (rd e (z27 he)).1;refine⟨_,rfl,fun C s2 H2 fp=>nG ?_⟩;rw[if_pos rfl];refine fun C s2 H2 fp=>qQ (O s' hs) hr (zi 0 rfl ⟨_,rfl,rfl,_,_,_,rfl,?_⟩);show ds.take i++[_]=ds.take (i+1);rw[z44,he];rfl
   ·rw[zX5,z56] at h;rw[h];exact q
end
noncomputable abbrev nC :Stmt:=inClass (top 52) 2
noncomputable abbrev jL :Stmt:=top 43
noncomputable def tbU :List (Str×V):=[("price",.non),("come",.bl true),("go",.bl true),("least",.int 1),("most",.int 14),("deal",.non),("fee",.int 0)]
noncomputable def aY (x:Str):PyData:=if x="price"\/x="deal" then .none else if x="come"\/x="go" then .bool true else if x="least" then .int 1 else if x="most" then .int 14 else .int 0
theorem zF1 {x:Str}(h:x∈words):∃v,tbU.lookup x=some v/\scV (aY x)=some v:=by
 simp only[words,zY1,zZ3,z23] at h;rcases h with rfl|rfl|rfl|rfl|rfl|rfl|rfl
 ·exact⟨.non,by decide +kernel,by decide +kernel⟩
 ·exact⟨.bl true,by decide +kernel,by decide +kernel⟩
 ·exact⟨.bl true,by decide +kernel,by decide +kernel⟩
 ·exact⟨.int 1,by decide +kernel,by decide +kernel⟩
 ·exact⟨.int 14,by decide +kernel,by decide +kernel⟩
 ·exact⟨.non,by decide +kernel,by decide +kernel⟩
 ·exact⟨.int 0,by decide +kernel,by decide +kernel⟩
noncomputable def kd (w:Str)(day:Int):PyData->Bool
 |.tuple [.str x,.int a,.int b,_]=>decide (x=w)&&(decide (a<=day)&&decide (day<=b))
 |_=>false
noncomputable def nA :PyData->PyData
 |.tuple [_,_,_,v]=>v
 |_=>.none
noncomputable def zo (ds:List PyData)(w:Str)(day:Int):PyData:=match ds.reverse.find? (kd w day) with
 |some d=>nA d
 |none=>aY w
theorem sT (ds:List PyData)(d:PyData)(w:Str)(day:Int):zo (ds++[d]) w day=if kd w day d=true then nA d else zo ds w day:=by
 unfold zo;rw[List.reverse_append,List.reverse_singleton,List.singleton_append,z54];cases kd w day d<;>simp
theorem qz {p:PyData->Bool}{e:PyData}:∀{l:List PyData} {i:Nat},(∀j<i,∀d,l[j]?=some d->p d=false)->l[i]?=some e->p e=true->l.find? p=some e
 |[],i,_,h,_=>by simp at h
 |d::l,0,_,h,q=>by
  simp at h;subst h;simp[z54,q]
 |d::l,i+1,a,h,q=>by
  have hd:=a 0 (Nat.succ_pos _) d rfl;rw[z54,hd];exact qz (i:=i) (fun j hj x hx=>a (j+1) (Nat.succ_lt_succ hj) x (by simpa using hx)) (by simpa using h) q
theorem zx7 {p:PyData->Bool}{l:List PyData}(h:∀(j:Nat) d,l[j]?=some d->p d=false):l.find? p=none:=by
 rw[List.find?_eq_none];intro x hx;obtain⟨j,hj⟩:=List.mem_iff_getElem?.mp hx;rw[h j x hj];simp
theorem vh {d:PyData}(h:xq d=true):∃(s:Str) (i j:Int) (v:PyData),s∈words/\d=.tuple [.str s,.int i,.int j,v]/\0<=i/\i<=j/\j<=1000000/\zI (.str s) v=true:=by
 obtain⟨s,a,b,v,hs,rfl⟩:=wz h;have h':(yE (.tuple [a,b])&&zI (.str s) v)=true:=h;rw[zZ9] at h';have h1:=h'.1;unfold yE pM at h1;split at h1
 ·rename_i k e;split at e
  ·rename_i z;cases z;split at e
   ·rename_i q;cases e;rw[zZ9] at q;rename_i a' b';have qa:(decide (0<=a')&&decide (a'<=1000000))=true:=q.1;have qb:(decide (0<=b')&&decide (b'<=1000000))=true:=q.2;rw[zZ9,z07,z07] at qa qb;have h2:=z43 h1;exact⟨s,a',b',v,hs,rfl,qa.1,by omega,qb.2,h'.2⟩
   ·cases e
  ·cases e
 ·cases h1
theorem cF (a b v:PyData):rn [(.str "first",a),(.str "last",b),(.str "worth",v)] "worth"=some v:=by
 show (if ("worth":Str)="first" then _ else _)=_;rw[if_neg bU];show (if ("worth":Str)="last" then _ else _)=_;rw[if_neg zl1];show (if ("worth":Str)="worth" then _ else _)=_;rw[if_pos rfl]
def mv :List A->(A->Prop)->Prop:=fun as Q=>∃x,as=[.dat (.str x)]/\x∈words/\Q (.dat (aY x))
def jw (C:Addr)(w:Str):List A->(A->Prop)->Prop:=fun as Q=>∃a b v,as=[.dat (pd C a b v)]/\Q (.dat (.str w))
def qV (C:Addr):List A->(A->Prop)->Prop:=fun as Q=>∃(a b day:Int) (v:PyData),as=[.dat (pd C (.int a) (.int b) v),.dat (.int day)]/\Q (.dat (.bool (decide (a<=day)&&decide (day<=b))))
def tH (C:Addr)(cs:Cs):List A->(A->Prop)->Prop:=fun as Q=>∃ds x day,as=[.dat (ye C cs ds),.dat (.str x),.dat (.int day)]/\Rules ds/\x∈words/\Q (.dat (zo ds x day))
section
variable {P:Program}{w:World}{K:PySem.W.Frag}{mg:Str->Option Value}{base:Heap}{cs:Cs}
theorem zV0 :zm ["word"] ["word"] (zb jL):=.o
theorem eL {f dU:Addr}{fd:FuncData}(F:Fun K "usual" "usual" jL f fd)(hm:mg "usual"=some (.ref f))(hb:Binds K fd ["word"] [])(mU:mg "USUAL"=some (.ref dU))(DU:gW K w dU tbU):Cal P w K mg base "usual" 1 mv:=by
 refine yM F hm hb zV0 (fun as Q h=>?_) (fun cdv A' outer s H E as Q hr h=>?_)
 ·obtain⟨x,rfl,_⟩:=h;rfl
 ·obtain⟨x,rfl,hx,q⟩:=h;obtain⟨v,h1,h2⟩:=zF1 hx;exact wJ (bX (by rfl) mU DU (zi 0 rfl ⟨x,aY x,v,rfl,h1,h2,q⟩))
theorem xx {C f fIn fT fE:Addr}{fd:FuncData}{wd:Str}(R:wG K C fIn fT fE f)(hb:Binds K fd ["self"] [])(G:zF P w K mg base CX0 1 f fd ["self"] (va wd)):vt P w K mg base C "word" 1 (jw C wd):=by
 refine⟨f,fd,_,R.cl,R.word,hb,G.imp fun vs H Q E h=>?_⟩;obtain⟨F,as,Q',rfl,t,o,rv,⟨a,b,v,rfl,q⟩,kk⟩:=h;obtain⟨x,rfl,av⟩:=rv.one;obtain⟨p,dx,fs,rfl,h1,h2⟩:=av.ins_inv;exact⟨p,rfl,kk _ _ _ q ⟨t,Kz.refl,.str _⟩⟩
theorem yP {C f fIn fT fWd:Addr}{fd:FuncData}(R:wG K C fIn fT f fWd)(hb:Binds K fd ["self","day"] [])(G:zF P w K mg base CX0 1 f fd ["self","day"] (gS C)):vt P w K mg base C "tells" 1 (qV C):=by
 refine⟨f,fd,_,R.cl,R.tells,hb,G.imp fun vs H Q E h=>?_⟩;obtain⟨F,as,Q',rfl,t,o,rv,⟨a,b,day,v,rfl,q⟩,kk⟩:=h;obtain⟨x,y,rfl,av,ay⟩:=rv.two;cases ay.int_inv;obtain⟨p,dx,fs,rfl,h1,h2⟩:=av.ins_inv;cases h2 with
 |cons g1 h2=>
  cases h2 with
  |cons g2 h2=>
   cases h2 with
   |cons g3 h2=>
    cases h2;cases g1.int_inv;cases g2.int_inv;exact⟨p,dx,a,b,day,_,rfl,by rw[mF];exact (zh h1).2,kk _ _ _ q ⟨t,Kz.refl,.bl _⟩⟩
theorem zM6 :zm ["self","word","day","rule"] ["self","word","day"] (zb nC):=.o
theorem dN {f C:Addr}{fd:FuncData}(F:Fun K "tells_of" "Book.tells_of" nC f fd)(c:Cls K C)(na:yT K C "kept")(nb:NbT mg)(CU:Cal P w K mg base "usual" 1 mv)(OW:∀u∈words,vt P w K mg base (cs.of u) "word" 1 (jw (cs.of u) u))(OR:∀u∈words,vt P w K mg base (cs.of u) "tells" 1 (qV (cs.of u)))
  (OC:∀u∈words,Cls K (cs.of u)/\yT K (cs.of u) "worth"):zF P w K mg base CX0 2 f fd ["self","word","day"] (spA (tH C cs)):=by
 refine fnA F zM6 (fun as Q h=>?_) (fun cdv A' outer s H E as Q hr h=>?_)
 ·obtain⟨ds,x,d,rfl,_⟩:=h;rfl
 ·obtain⟨ds,x,day,rfl,rd,hx,q⟩:=h;refine vZ (pat:=.one 3) z60 rfl (zU (i:=3) zM6.nd rfl (Or.inl rfl)) (zC7 (by rfl) nb.reversed (iW c na (zi 0 rfl ⟨_,_,rfl,rfl,⟨_,rfl,?_⟩⟩)));refine zX (fun i α=>(∃v3,α=[some (.dat (ye C cs ds)),some (.dat (.str x)),some (.dat (.int day)),v3])/\∀j<i,∀d,ds.reverse[j]?=some d->kd x day d=false) ⟨⟨none,rfl⟩,fun j hj=>absurd hj (Nat.not_lt_zero _)⟩ ?_ ?_
  ·rintro i d α hd ⟨⟨v3,rfl⟩,hno⟩;rw[<-List.map_reverse,zY3,zZ2] at hd;obtain⟨e,he,rfl⟩:=hd;have hme:e∈ds:=List.mem_reverse.mp (z27 he);obtain⟨u,a,b,v,hu,rfl,_,_,_,_⟩:=vh (rd e hme).1;refine⟨_,rfl,?_⟩;refine yQ (EvW.t (zy2 (fun _ k=>zE8 (qQ (OW u hu) hr (zi 3 rfl ⟨_,rfl,rfl,_,_,_,rfl,zi 1 rfl ⟨_,_,rfl,rfl,k⟩⟩)))
    (fun hp _ k=>mR (mh (xE (OR u hu) hr (zi 3 rfl ⟨_,rfl,rfl,zg (zi 2 rfl (zt ⟨_,_,_,_,rfl,_,rfl,k⟩))⟩)))) ?_))
   refine yB (fun h=>?_) (fun h=>?_)
   ·refine wJ (iW (OC u hu).1 (OC u hu).2 (zi 3 rfl ⟨_,_,rfl,cF _ _ _,?_⟩));have e1:ds.reverse.find? (kd x day)=some (.tuple [.str u,.int a,.int b,v]):=qz hno he h;unfold zo at q;rw[e1] at q;exact q
   ·refine zA (zA ⟨⟨_,rfl⟩,fun j hj d' hd'=>?_⟩);rcases z97 j i with z|z
    ·exact hno j z d' hd'
    ·have:j=i:=by omega
     subst this;rw[he] at hd';cases hd';exact h
  ·rintro α ⟨⟨v3,rfl⟩,hno⟩;refine wJ (yH CU (hr.mono (by decide)) (by rfl) (zg (zi 1 rfl (zt ⟨x,rfl,hx,?_⟩))));have e1:ds.reverse.find? (kd x day)=none:=zx7 fun j d hd=>hno j (by
    have:=(zY0.mp hd).1;rw[z69,zX5]
    rwa [z69] at this) d hd
   unfold zo at q;rw[e1] at q;exact q
end
theorem xJ (d:PyData):zI (.str "price") d=(isNone d||vY d):=by unfold zI;rw[if_pos (by decide +kernel)]
theorem rO (d:PyData):zI (.str "come") d=isBool d:=by unfold zI;rw[if_neg (by decide +kernel),if_pos (by decide +kernel)]
theorem kJ (d:PyData):zI (.str "go") d=isBool d:=by unfold zI;rw[if_neg (by decide +kernel),if_pos (by decide +kernel)]
theorem sR (d:PyData):zI (.str "least") d=yv 1 14 d:=by unfold zI;rw[if_neg (by decide +kernel),if_neg (by decide +kernel),if_pos (by decide +kernel)]
theorem qx (d:PyData):zI (.str "most") d=yv 1 14 d:=by unfold zI;rw[if_neg (by decide +kernel),if_neg (by decide +kernel),if_pos (by decide +kernel)]
theorem uJ (d:PyData):zI (.str "deal") d=(isNone d||uW d):=by unfold zI;rw[if_neg (by decide +kernel),if_neg (by decide +kernel),if_neg (by decide +kernel),if_pos (by decide +kernel)]
theorem oU (d:PyData):zI (.str "fee") d=vY d:=by
 unfold zI;rw[if_neg (by decide +kernel),if_neg (by decide +kernel),if_neg (by decide +kernel),if_neg (by decide +kernel),show eqS (.str "fee") "fee"=true by decide +kernel,z28]
theorem within_int {lo hi i:Int}(h1:lo<=i)(h2:i<=hi):yv lo hi (.int i)=true:=by
 show (decide (lo<=i)&&decide (i<=hi))=true;rw[z33 h1,z33 h2]<;>rfl
theorem aZ {i:Int}(h0:-2000000000000<=i)(h1:i<=2000000000000):zT 2000 (.int i):=zT.int (by unfold big;omega) (by unfold big;omega)
def mY :List A->(A->Prop)->Prop:=fun as Q=>as=[.tape]/\∀z:Int,0<=z->z<=1000000000000->Q (.dat (.int z))
def jm :List A->(A->Prop)->Prop:=fun as Q=>∃wd,as=[.tape,.dat (.str wd)]/\wd∈words/\∀d,zI (.str wd) d=true->zT 5000 d->d.depth<=1->Q (.dat d)
theorem zq6 {m f:Int}(h0:2<=m)(h1:m<=14)(h2:1<=f)(h3:f<m):zI (.str "deal") (.tuple [.int m,.int f])=true/\zT 5000 (.tuple [.int m,.int f])/\(PyData.tuple [.int m,.int f]).depth<=1:=by
 have hbig:(1000001:Int)<big:=by decide
 have hneg:-big<(0:Int):=by decide
 refine⟨?_,zT.tuple (n:=2000) (yC.two (zT.int (by omega) (by omega)) (zT.int (by omega) (by omega)) (zZ4 _) (zZ4 _)) (by show 2*(2000+2)+3<=5000;decide),by simp[PyData.depth,PyData.depthAll]⟩;rw[uJ];show (false||(yv 2 14 (.int m)&&yv 1 (m-1) (.int f)))=true;rw[within_int h0 h1,within_int h2 (by omega)];rfl
end K96
set_option compiler.extract_closed false
set_option hygiene false in
local macro_rules
 |`(tactic| exists $f,$a)=>`(tactic| first|refine $f 0 $a ?_|refine $f 1 $a ?_|refine $f 2 $a ?_|refine $f 3 $a ?_|refine $f 4 $a ?_|refine $f 5 $a ?_|refine $f 6 $a ?_|refine $f 7 $a ?_|refine $f 8 $a ?_|refine $f 9 $a ?_|refine $f 10 $a ?_|refine $f 11 $a ?_|refine $f 12 $a ?_|refine $f 13 $a ?_|refine $f 14 $a ?_|refine $f 15 $a ?_|refine $f 16 $a ?_|refine $f 17 $a ?_)
 |`(tactic| exists $f)=>`(tactic| with_reducible refine $f ?_)
 |`(tactic| specialize $p)=>`(tactic| with_reducible show $p)
set_option hygiene false in
local macro_rules
 |`(tactic| ext)=>`(tactic| repeat (first
  |((specialize EvD _ _ _ _);first
   |((specialize EvD _ _ (.Name _ _) _);exists zi,rfl)
   |((specialize EvD _ _ (.Constant _ _ _) _);first|exists yt|exists yh|exists zB1|exists nq)
   |((specialize EvD _ _ (.BinOp (.Constant (.int 10) _ _) .Pow (.Constant (.int 6) _ _) _) _);refine zl6 (r:=1000000) ⟨by decide,by decide,by decide⟩ (by decide) ?_)
   |((specialize EvD _ _ (.BinOp (.Constant (.int 10) _ _) .Pow (.Constant (.int 12) _ _) _) _);refine zl6 (r:=1000000000000) ⟨by decide,by decide,by decide⟩ (by decide) ?_)
   |((specialize EvD _ _ (.BinOp _ .Add (.List _ _) _) _);refine EvL.d (nN ?_))
   |exists xY
   |exists ny
   |exists zL0
   |exists ze6
   |exists wo
   |((specialize EvD _ _ (.Subscript _ (.Slice _ _ none _) _) _);refine EvL.d (zA9 ?_))
   |((specialize EvD _ _ (.Subscript _ _ _) _);refine aT hr.one (fun _ _=>rfl) ?_)
   |((specialize EvD _ _ (.List _ _) _);refine EvL.d (xM ?_))
   |((specialize EvD _ _ (.Call (.Name "len" _) _ _ _) _);refine nY (by rfl) nb.len ?_)
   |((specialize EvD _ _ (.Call (.Name "list" _) _ _ _) _);refine EvL.d (fQ (by rfl) nb.list ?_))
   |((specialize EvD _ _ (.Call (.Name "repr" _) _ _ _) _);refine zv7 hr.gd hr.units (by rfl) nb.repr ?_)
   |((specialize EvD _ _ (.Call (.Name "isinstance" _) _ _ _) _);first|refine rW (by rfl) nb.isinstance (by rfl) nb.int boot_int ?_|refine rW (by rfl) nb.isinstance (by rfl) nb.bool boot_bool ?_|refine rW (by rfl) nb.isinstance (by rfl) nb.str boot_str ?_|refine rW (by rfl) nb.isinstance (by rfl) nb.list boot_list ?_|refine rW (by rfl) nb.isinstance (by rfl) nb.tuple boot_tuple ?_)
   |((specialize EvD _ _ (.Call (.Name _ _) _ _ _) _);first|refine zs3 (by with_reducible assumption) (by exact⟨rfl,rfl,rfl,rfl,rfl⟩) (hr.mono (by decide)) (by rfl) ?_|refine EvN.d (aP (by with_reducible assumption) (by exact⟨rfl,rfl,rfl,rfl,rfl⟩) (hr.mono (by decide)) (by rfl) ?_))
   |((specialize EvD _ _ (.Call (.Attribute _ _ _) (_::_) _ _) _);refine zc5 (by with_reducible assumption) (by exact⟨rfl,rfl,rfl,rfl,rfl⟩) (hr.mono (by decide)) ?_)
   |((specialize EvD _ _ (.Call (.Attribute _ _ _) [] _ _) _);refine cX (by with_reducible assumption) (by exact⟨rfl,rfl,rfl,rfl,rfl⟩) (hr.mono (by decide)) ?_)
   |((specialize EvD _ _ (.Compare _ [_] _ _) _);first|exists zy8|exists zN0|exists zE1|((specialize EvD _ _ (.Compare _ [.Eq] _ _) _);refine zC0 hr.units ?_)|((specialize EvD _ _ (.Compare _ [.NotEq] _ _) _);refine zF0 hr.units ?_))
   |((specialize EvD _ _ (.Compare _ [_,_] _ _) _);first|refine zq2 ?_)
   |((specialize EvD _ _ (.BoolOp _ _ _) _);first|exists zK8|exists zO8|exists zm0)
   |exists hJ)
  |((specialize EvA _ _ _ _);first
   |exists zt
   |((specialize EvA _ _ (.Name "_law_tape_here" _::_) _);exists yi,rfl)
   |refine zg ?_)
  |((specialize EvT _ _ _ _);first
   |((specialize EvT _ _ (.Compare _ [_] _ _) _);first|exists zA3|exists aK|exists zQ9|exists vT|exists zw6|((specialize EvT _ _ (.Compare _ [.Eq] _ _) _);refine zB3 hr.units ?_)|((specialize EvT _ _ (.Compare _ [.NotEq] _ _) _);refine zJ0 hr.units ?_)|((specialize EvT _ _ (.Compare _ [.In] _ _) _);refine zE4 hr.one ?_)|((specialize EvT _ _ (.Compare _ [.NotIn] _ _) _);refine zn9 hr.one ?_)|((specialize EvT _ _ (.Compare _ [.IsNot] [.Constant (.bool _) _ _] _) _);refine zi5 ?_))
   |exists sL
   |((specialize EvT _ _ (.BoolOp _ _ _) _);exists EvW.t)
   |refine qJ ?_)
  |((specialize EvL _ _ _ _);first
   |exists xM
   |((specialize EvL _ _ (.Call (.Name "list" _) _ _ _) _);refine fQ (by rfl) nb.list ?_)
   |((specialize EvL _ _ (.Call (.Name _ _) _ _ _) _);refine zu7 (by with_reducible assumption) (by exact⟨rfl,rfl,rfl,rfl,rfl⟩) (hr.mono (by decide)) (by rfl) ?_)
   |((specialize EvL _ _ (.Subscript _ (.Slice _ _ none _) _) _);refine zA9 ?_)
   |((specialize EvL _ _ (.BinOp _ .Add _ _) _);refine nN ?_))
  |((specialize EvW _ _ _ _);first
   |exists aR
   |exists zR6
   |exists mR
   |exists zJ2)
  |((specialize EvO _ _ _ _);first
   |exists zw5
   |exists zt1)
  |((specialize dA _ _ _);first
   |refine ixk rfl rfl rfl ?_)
  |((specialize aH _ _ _ _);first
   |refine ink rfl rfl ?_
   |refine inkT rfl rfl ?_)
  |((specialize lG _ _ _);first
   |exists zs2
   |exists fV
   |refine eqk rfl rfl rfl rfl ?_)
  |((specialize SvS _ _ _ _);first
   |((specialize SvS _ (List.set _ _ _) _ _);dsimp only[List.set])
   |((specialize SvS _ _ (zy _) _);show SvS _ _ (_::_) _)
   |((specialize SvS _ _ (.Assign [.Name _ _] (.List [] _) _::_) _);exists xj,nd)
   |((specialize SvS _ _ (.Assign [.Name _ _] _ _::_) _);exists yu,nd)
   |((specialize SvS _ _ (.Expr (.Call (.Attribute _ "append" _) _ _ _) _::_) _);exists yD,rfl)
   |((specialize SvS _ _ (.Return (some (.Name _ _)) _::_) _);exists xD,rfl)
   |exists wJ
   |exists yQ
   |exists zA
   |((with_reducible refine mI ?hk ?_);case hk=>first|rfl|decide +kernel)
   |((with_reducible refine uj ?hk ?_);case hk=>first|rfl|decide +kernel))
  |((specialize xZ _ _);refine⟨_,rfl,by first|decide|omega,by first|decide|(show _<big;unfold big;omega),fun _ _ _=>?_⟩)
  |((with_reducible refine zR5 ?hk ?_);case hk=>first|rfl|decide +kernel)
  |((with_reducible refine zM1 ?hk ?_);case hk=>first|rfl|decide +kernel)
  |refine⟨_,_,rfl,rfl,?_⟩
  |refine⟨_,_,_,rfl,rfl,rfl,?_⟩
  |refine⟨_,rfl,zZ8 rfl,?_⟩
  |refine⟨_,rfl,rfl,?_⟩
  |refine⟨_,rfl,?_⟩))
namespace K96
open PySem PySem.Spec PyProof.Rows L2
noncomputable abbrev nE :Stmt:=top 69
noncomputable abbrev mi :Stmt:=top 70
section
variable {P:Program}{w:World}{K:PySem.W.Frag}{mg:Str->Option Value}{base:Heap}{cs:Cs}
theorem zT9 :zm ["_law_tape_here"] ["_law_tape_here"] (zb nE):=.o
theorem dh {f:Addr}{fd:FuncData}(F:Fun K "_law_coins" "_law_coins" nE f fd)(hm:mg "_law_coins"=some (.ref f))(hb:Binds K fd ["_law_tape_here"] [])(CD:Cal P w K mg base "_law_draw" 1 xZ):Cal P w K mg base "_law_coins" 2 mY:=by
 refine yM F hm hb zT9 (fun as Q h=>?_) (fun cdv A' outer s H E as Q hr h=>?_)
 ·obtain⟨rfl,_⟩:=h;rfl
 ·obtain⟨rfl,q⟩:=h;have nd:=zT9.nd;ext;exact mx rfl (by assumption) (by assumption) ⟨q _ (by omega) (by omega),q _ (by omega) (by omega),q _ (by omega) (by omega),q _ (by omega) (by omega),q _ (by omega) (by omega),trivial⟩
theorem zN3 :zm ["_law_tape_here","_law_word","_law_many"] ["_law_tape_here","_law_word"] (zb mi):=.o
theorem bu {f:Addr}{fd:FuncData}(F:Fun K "_law_worth" "_law_worth" mi f fd)(hm:mg "_law_worth"=some (.ref f))(hb:Binds K fd ["_law_tape_here","_law_word"] [])(CD:Cal P w K mg base "_law_draw" 1 xZ)(CC:Cal P w K mg base "_law_coins" 2 mY):Cal P w K mg base "_law_worth" 3 jm:=by
 refine yM F hm hb zN3 (fun as Q h=>?_) (fun cdv A' outer s H E as Q hr h=>?_)
 ·obtain⟨wd,rfl,_⟩:=h;rfl
 ·obtain⟨wd,rfl,hw,q⟩:=h;have nd:=zN3.nd;have qc:∀z:Int,0<=z->z<=1000000000000->vY (.int z)=true:=fun z h0 h1=>within_int h0 h1;have hbig:(1000000000001:Int)<big:=by decide
  have hneg:-big<(0:Int):=by decide
  have nc:∀z:Int,0<=z->z<=1000000000000->zT 5000 (.int z):=fun z h0 h1=>(zT.int (by omega) (by omega)).mono (by decide);have qn:zI (.str wd) .none=true->Q (.dat .none):=fun h=>q _ h (zT.none.mono (by decide)) (zZ4 _);have qi:∀z:Int,0<=z->z<=1000000000000->zI (.str wd) (.int z)=true->Q (.dat (.int z)):=fun z a b h=>q _ h (nc z a b) (zZ4 _);have qd:∀m f:Int,wd="deal"->2<=m->m<=14->1<=f->f<m->Q (.dat (.tuple [.int m,.int f])):=fun m f e a b c d=>by
   subst e;obtain⟨x,y,z⟩:=zq6 a b c d;exact q _ x y z
  have qp:∀z:Int,0<=z->z<=1000000000000->wd="price"->Q (.dat (.int z)):=fun z a b e=>by
   subst e;exact qi z a b (by rw[xJ,qc z a b,Bool.or_true])
  simp only[words,zY1,zZ3,z23] at hw;rcases hw with rfl|rfl|rfl|rfl|rfl|rfl|rfl
  ·ext;refine⟨rfl,fun z1 a1 b1=>?_⟩;ext;refine⟨rfl,fun z2 a2 b2=>?_⟩;ext;exact mx rfl (by assumption) (by assumption) ⟨qn (by rw[xJ]<;>rfl),qp z1 a1 b1 rfl,qp z2 a2 b2 rfl,trivial⟩
  ·ext;exact q _ (by rw[rO]<;>rfl) ((zT.bool _).mono (by decide)) (zZ4 _)
  ·ext;exact q _ (by rw[kJ]<;>rfl) ((zT.bool _).mono (by decide)) (zZ4 _)
  ·ext;exact qi _ (by omega) (by omega) (by rw[sR];exact within_int (by omega) (by omega))
  ·ext;exact qi _ (by omega) (by omega) (by rw[qx];exact within_int (by omega) (by omega))
  ·ext;exact mx rfl (by assumption) (by assumption) ⟨qn (by rw[uJ]<;>rfl),qd _ _ rfl (by omega) (by omega) (by omega) (by omega),qd _ _ rfl (by omega) (by omega) (by omega) (by omega),qd _ _ rfl (by omega) (by omega) (by omega) (by omega),trivial⟩
  ·ext;refine⟨rfl,fun z1 a1 b1=>?_⟩;exact qi z1 a1 b1 (by rw[oU];exact qc z1 a1 b1)
end
structure su (d:PyData):Prop where
 rule:xq d=true
 nice:zT 20011 d
 dep:d.depth<=2
 wn:zT 5000 (nA d)
def zB (ds:List PyData):Prop:=∀d∈ds,su d
theorem oi {s:Str}(h:s∈words):zT 2000 (.str s):=by
 simp only[words,zY1,zZ3,z23] at h;rcases h with rfl|rfl|rfl|rfl|rfl|rfl|rfl<;>exact⟨rfl,rfl,zZ4 _,by decide +kernel,by decide +kernel⟩
theorem su.of {s:Str}{i j:Int}{d:PyData}(hs:s∈words)(i0:0<=i)(ij:i<=j)(j1:j<=1000000)(hw:zI (.str s) d=true)(hn:zT 5000 d)(hd:d.depth<=1):su (.tuple [.str s,.int i,.int j,d]):=by
 have hbig:(1000001:Int)<big:=by decide
 have hneg:-big<(0:Int):=by decide
 have na:yC 5000 [.str s,.int i,.int j,d]:=by
  constructor
  ·intro x hx;simp only[zY1,zZ3,z23] at hx;rcases hx with rfl|rfl|rfl|rfl
   ·exact (oi hs).mono (by decide)
   ·exact (zT.int (by omega) (by omega)).mono (by decide)
   ·exact (zT.int (by omega) (by omega)).mono (by decide)
   ·exact hn
  ·intro x hx;simp only[zY1,zZ3,z23] at hx;rcases hx with rfl|rfl|rfl|rfl
   ·exact zZ4 _
   ·exact zZ4 _
   ·exact zZ4 _
   ·omega
 refine⟨?_,zT.tuple na (by show 4*(5000+2)+3<=20011;decide),?_,hn⟩
 ·show (yE (.tuple [.int i,.int j])&&zI (.str s) d)=true;rw[hw,Bool.and_true];unfold yE pM;have h1:(tM (.int i)&&tM (.int j))=true:=by
   show ((decide (0<=i)&&decide (i<=1000000))&&(decide (0<=j)&&decide (j<=1000000)))=true;simp only[zZ9,z07];omega
  simp only[h1,ya0,z07];omega
 ·simp only[PyData.depth,PyData.depthAll];omega
theorem zB.rules {ds:List PyData}(h:zB ds):Rules ds:=fun d hd=>⟨(h d hd).rule,(h d hd).nice.shaped,(h d hd).nice.nod⟩
theorem zr3 {ds:List PyData}{lo hi:Option Int}{d:PyData}(h:d∈L2.cutD ds lo hi):d∈ds:=by
 unfold L2.cutD at h;exact List.mem_of_mem_drop (yb4 h)
theorem zu5 {ds:List PyData}{lo hi:Option Int}:(L2.cutD ds lo hi).length<=ds.length:=by
 unfold L2.cutD;rw[z04,z55];omega
def Bd (bs dy:Int):Prop:=0<=bs/\bs<=999980/\1<=dy/\dy<=14
theorem zi1 {c:Int}(h0:0<=c)(h1:c<=1000000000000):vY (.int c)=true:=within_int h0 h1
def ud (lo hi:Int)(d:PyData):Prop:=∃(s:Str) (i j:Int) (v:PyData),d=.tuple [.str s,.int i,.int j,v]/\s∈words/\lo<=i/\i<=j/\j<=hi/\zI (.str s) v=true/\zT 5000 v/\v.depth<=1
def yw (lo hi:Int)(ds:List PyData):Prop:=∀d∈ds,ud lo hi d
theorem ud.of {lo hi:Int}{s:Str}{i j:Int}{d:PyData}(hs:s∈words)(i0:lo<=i)(ij:i<=j)(j1:j<=hi)(hw:zI (.str s) d=true)(hn:zT 5000 d)(hd:d.depth<=1):ud lo hi (.tuple [.str s,.int i,.int j,d]):=⟨s,i,j,d,rfl,hs,i0,ij,j1,hw,hn,hd⟩
theorem ud.ok {lo hi:Int}{d:PyData}(h:ud lo hi d)(h0:0<=lo)(h1:hi<=1000000):su d:=by
 obtain⟨s,i,j,v,rfl,hs,i0,ij,j1,hw,hn,hd⟩:=h;exact su.of hs (by omega) ij (by omega) hw hn hd
theorem yw.ok {lo hi:Int}{ds:List PyData}(h:yw lo hi ds)(h0:0<=lo)(h1:hi<=1000000):zB ds:=fun d hd=>(h d hd).ok h0 h1
theorem yw.snoc {lo hi:Int}{ds:List PyData}{d:PyData}(h:yw lo hi ds)(hd:ud lo hi d):yw lo hi (ds++[d]):=fun x hx=>by
 rcases z36.mp hx with hx|hx
 ·exact h x hx
 ·rw[zZ0.mp hx];exact hd
theorem yw.app {lo hi:Int}{ds es:List PyData}(h:yw lo hi ds)(h':yw lo hi es):yw lo hi (ds++es):=fun x hx=>by
 rcases z36.mp hx with hx|hx
 ·exact h x hx
 ·exact h' x hx
theorem yw.nil {lo hi:Int}:yw lo hi []:=fun x hx=>by simp at hx
theorem qL {lo hi i j c:Int}(i0:lo<=i)(ij:i<=j)(j1:j<=hi)(h0:0<=c)(h1:c<=1000000000000):ud lo hi (.tuple [.str "price",.int i,.int j,.int c]):=
 ud.of (by simp[words]) i0 ij j1 (by rw[xJ,zi1 h0 h1,Bool.or_true]) ((aZ (by omega) (by omega)).mono (by decide)) (zZ4 _)
theorem jY {lo hi i j:Int}(i0:lo<=i)(ij:i<=j)(j1:j<=hi):ud lo hi (.tuple [.str "price",.int i,.int j,.none]):=
 ud.of (by simp[words]) i0 ij j1 (by rw[xJ]<;>rfl) (zT.none.mono (by decide)) (zZ4 _)
def BdW (bs dy:Int):Prop:=0<=bs/\bs<=1000000/\1<=dy/\dy<=20
noncomputable abbrev nk :Stmt:=top 71
noncomputable abbrev nW :Stmt:=top 72
noncomputable abbrev mW :Stmt:=top 73
def vR :List A->(A->Prop)->Prop:=fun as Q=>∃bs dy:Int,as=[.tape,.dat (.int bs),.dat (.int dy)]/\BdW bs dy/\∀ds,yw bs (bs+dy+5) ds->ds.length<=5->Q (.own ds)
def rT :List A->(A->Prop)->Prop:=fun as Q=>∃bs dy:Int,as=[.tape,.dat (.int bs),.dat (.int dy)]/\BdW bs dy/\∀ds,yw bs (bs+dy+5) ds->ds.length<=10->Q (.dat (.list ds))
section
variable {P:Program}{w:World}{K:PySem.W.Frag}{mg:Str->Option Value}{base:Heap}
theorem ze9 :zm ["_law_tape_here","_law_base","_law_days","_law_found","_law_k","_law_first","_law_worth_here"] ["_law_tape_here","_law_base","_law_days"] (zb nk):=.o
theorem jN {f:Addr}{fd:FuncData}(F:Fun K "_law_price_rules" "_law_price_rules" nk f fd)(hm:mg "_law_price_rules"=some (.ref f))(hb:Binds K fd ["_law_tape_here","_law_base","_law_days"] [])(nb:NbT mg)(CD:Cal P w K mg base "_law_draw" 1 xZ)(CC:Cal P w K mg base "_law_coins" 2 mY):Cal P w K mg base "_law_price_rules" 3 vR:=by
 refine yM F hm hb ze9 (fun as Q h=>?_) (fun cdv A' outer s H E as Q hr h=>?_)
 ·obtain⟨bs,dy,rfl,_⟩:=h;rfl
 ·obtain⟨bs,dy,rfl,⟨b1,b2,b3,b4⟩,q⟩:=h;have hbig:(1000001:Int)<big:=by decide
  refine xj 3 ze9.nd (xM (zg (wo (zg (yh (zg (zi 1 rfl (zg (xY (zi 1 rfl (zi 2 rfl (⟨_,_,rfl,rfl,zg (yH CC hr (by rfl) (yi 0 rfl (zt (⟨rfl,fun c1 p1 q1=>zt (⟨_,rfl,zZ8 rfl,zt (⟨_,rfl,zZ8 rfl,?_⟩)⟩)⟩))))⟩))))))))))));refine vZ (pat:=.one 4) z60 rfl (zU (i:=4) ze9.nd rfl (by first|exact Or.inl rfl|exact Or.inr rfl)) (xS (by rfl) nb.range (yH CD (hr.mono (by decide)) (by rfl) (yi 0 rfl (zg (yt (zt (⟨_,rfl,by decide,by decide,fun v2 h2 g2=>⟨_,rfl,by omega,by omega,?_⟩⟩)))))));refine zX (fun i α=>∃v4 v5 v6 ds,α=[some .tape,some (.dat (.int bs)),some (.dat (.int dy)),some (.own ds),v4,v5,v6]/\yw bs (bs+dy+5) ds/\ds.length<=1+i) ⟨none,none,none,_,rfl,yw.nil.snoc (qL (by omega) (by omega) (by omega) p1 q1),zY2 _⟩ ?_ ?_
  ·rintro i d α hd ⟨v4,v5,v6,ds,rfl,ro,ld⟩;have hi:i<4:=by
    have:=(zY0.mp hd).1;rw[zX5,zc] at this;omega
   refine⟨_,rfl,?_⟩;refine yu 5 ze9.nd (xY (zi 1 rfl (yH CD (hr.mono (by decide)) (by rfl) (yi 0 rfl (zg (zi 2 rfl (zt (⟨_,rfl,by omega,by omega,fun v3 h3 g3=>⟨_,_,rfl,rfl,?_⟩⟩))))))));refine yu 6 ze9.nd (EvD.imp (Q':=fun d=>d=.none\/∃c:Int,d=.int c/\0<=c/\c<=1000000000000) (gg (fun _ _=>rfl) (EvL.d (xM (zg (nq (zg (yH CC hr (by rfl) (yi 0 rfl (zt (⟨rfl,fun c7 p7 q7=>zg (yH CC hr (by rfl) (yi 0 rfl (zt (⟨rfl,fun c6 p6 q6=>zg (yH CC hr (by rfl) (yi 0 rfl (zt (⟨rfl,fun c5 p5 q5=>zt (⟨_,rfl,zZ8 rfl,yH CD (hr.mono (by decide)) (by rfl) (yi 0 rfl (zg (yt (zt (⟨_,rfl,by decide,by decide,fun v4 h4 g4=>?pick⟩)))))⟩)⟩))))⟩))))⟩)))))))))) ?_)
   case pick=>
    obtain⟨z,hz,e⟩:=kx (ds:=[PyData.none,.int c7,.int c6,.int c5]) h4 g4;refine⟨_,_,z,rfl,rfl,e,?_⟩;simp only[zY1,zZ3,z23] at hz;rcases hz with rfl|rfl|rfl|rfl
    ·exact .inl rfl
    ·exact .inr ⟨_,rfl,p7,q7⟩
    ·exact .inr ⟨_,rfl,p6,q6⟩
    ·exact .inr ⟨_,rfl,p5,q5⟩
   intro d6 hd6;refine yD 3 rfl (wo (zg (yh (zg (zi 5 rfl (zg (xY (zi 5 rfl (yH CD (hr.mono (by decide)) (by rfl) (yi 0 rfl (zg (yt (zt (⟨_,rfl,by decide,by decide,fun v8 h8 g8=>⟨_,_,rfl,rfl,zg (zi 6 rfl (zt (⟨_,rfl,zZ8 rfl,⟨by omega,?_⟩⟩)))⟩⟩))))))))))))));refine zA ⟨some (.dat d),some (.dat (.int (bs+v3))),some (.dat d6),ds++[.tuple [.str "price",.int (bs+v3),.int (bs+v3+v8),d6]],rfl,ro.snoc ?_,by rw[z00,z87];omega⟩;rcases hd6 with rfl|⟨c,rfl,c0,c1⟩
   ·exact jY (by omega) (by omega) (by omega)
   ·exact qL (by omega) (by omega) (by omega) c0 c1
  ·rintro α ⟨v4,v5,v6,ds,rfl,ro,ld⟩;rw[zX5,zc] at ld;exact xD 3 rfl (q ds ro (by omega))
theorem zc9 :zm ["_law_tape_here","_law_base","_law_days","_law_found","_law_k","_law_word","_law_first"] ["_law_tape_here","_law_base","_law_days"] (zb nW):=.o
theorem iy {f:Addr}{fd:FuncData}(F:Fun K "_law_other_rules" "_law_other_rules" nW f fd)(hm:mg "_law_other_rules"=some (.ref f))(hb:Binds K fd ["_law_tape_here","_law_base","_law_days"] [])(nb:NbT mg)(CD:Cal P w K mg base "_law_draw" 1 xZ)(CW:Cal P w K mg base "_law_worth" 3 jm):Cal P w K mg base "_law_other_rules" 4 vR:=by
 refine yM F hm hb zc9 (fun as Q h=>?_) (fun cdv A' outer s H E as Q hr h=>?_)
 ·obtain⟨bs,dy,rfl,_⟩:=h;rfl
 ·obtain⟨bs,dy,rfl,⟨b1,b2,b3,b4⟩,q⟩:=h;have hbig:(1000001:Int)<big:=by decide
  refine xj 3 zc9.nd (xM (zt (⟨_,rfl,zZ8 rfl,?_⟩)));refine vZ (pat:=.one 4) z60 rfl (zU (i:=4) zc9.nd rfl (by first|exact Or.inl rfl|exact Or.inr rfl)) (xS (by rfl) nb.range (yH CD (hr.mono (by decide)) (by rfl) (yi 0 rfl (zg (yt (zt (⟨_,rfl,by decide,by decide,fun v1 h1 g1=>⟨_,rfl,by omega,by omega,?_⟩⟩)))))));refine zX (fun i α=>∃v4 v5 v6 ds,α=[some .tape,some (.dat (.int bs)),some (.dat (.int dy)),some (.own ds),v4,v5,v6]/\yw bs (bs+dy+5) ds/\ds.length<=i) ⟨none,none,none,_,rfl,yw.nil,zY2 _⟩ ?_ ?_
  ·rintro i d α hd ⟨v4,v5,v6,ds,rfl,ro,ld⟩;have hi:i<5:=by
    have:=(zY0.mp hd).1;rw[zX5,zc] at this;omega
   refine⟨_,rfl,?_⟩;refine yu 5 zc9.nd (EvD.imp (Q':=fun d=>∃x,d=.str x/\x∈words) (gg (fun _ _=>rfl) (EvL.d (xM (zg (yh (zg (yh (zg (yh (zg (yh (zg (yh (zg (yh (zt (⟨_,rfl,zZ8 rfl,yH CD (hr.mono (by decide)) (by rfl) (yi 0 rfl (zg (yt (zt (⟨_,rfl,by decide,by decide,fun v2 h2 g2=>?pick⟩)))))⟩))))))))))))))))) ?_)
   case pick=>
    obtain⟨z,hz,e⟩:=kx (ds:=[PyData.str "come",.str "go",.str "least",.str "most",.str "deal",.str "fee"]) h2 g2;refine⟨_,_,z,rfl,rfl,e,?_⟩;simp only[zY1,zZ3,z23] at hz;rcases hz with rfl|rfl|rfl|rfl|rfl|rfl<;>exact⟨_,rfl,by simp[words]⟩
   rintro _ ⟨wd,rfl,hw⟩;refine yu 6 zc9.nd (xY (zi 1 rfl (yH CD (hr.mono (by decide)) (by rfl) (yi 0 rfl (zg (zi 2 rfl (zt (⟨_,rfl,by omega,by omega,fun v3 h3 g3=>⟨_,_,rfl,rfl,?_⟩⟩))))))));refine yD 3 rfl (wo (zg (zi 5 rfl (zg (zi 6 rfl (zg (xY (zi 6 rfl (yH CD (hr.mono (by decide)) (by rfl) (yi 0 rfl (zg (yt (zt (⟨_,rfl,by decide,by decide,fun v5 h5 g5=>⟨_,_,rfl,rfl,zg (yH CW hr (by rfl) (yi 0 rfl (zg (zi 5 rfl (zt (⟨_,rfl,hw,fun d4 a4 b4 c4=>zt (⟨_,rfl,zZ8 rfl,⟨by omega,?_⟩⟩)⟩))))))⟩⟩))))))))))))));exact zA ⟨some (.dat d),some (.dat (.str wd)),some (.dat (.int (bs+v3))),ds++[.tuple [.str wd,.int (bs+v3),.int (bs+v3+v5),d4]],rfl,ro.snoc (ud.of hw (by omega) (by omega) (by omega) a4 b4 c4),by rw[z00,z87];omega⟩
  ·rintro α ⟨v4,v5,v6,ds,rfl,ro,ld⟩;rw[zX5,zc] at ld;exact xD 3 rfl (q ds ro (by omega))
theorem zB9 :zm ["_law_tape_here","_law_base","_law_days","_law_ones","_law_others"] ["_law_tape_here","_law_base","_law_days"] (zb mW):=.o
theorem iT {f:Addr}{fd:FuncData}(F:Fun K "_law_rules" "_law_rules" mW f fd)(hm:mg "_law_rules"=some (.ref f))(hb:Binds K fd ["_law_tape_here","_law_base","_law_days"] [])(CD:Cal P w K mg base "_law_draw" 1 xZ)(CP:Cal P w K mg base "_law_price_rules" 3 vR)(CO:Cal P w K mg base "_law_other_rules" 4 vR):Cal P w K mg base "_law_rules" 5 rT:=by
 refine yM F hm hb zB9 (fun as Q h=>?_) (fun cdv A' outer s H E as Q hr h=>?_)
 ·obtain⟨bs,dy,rfl,_⟩:=h;rfl
 ·obtain⟨bs,dy,rfl,bd,q⟩:=h;refine yu 3 zB9.nd (EvL.d (xV CP (hr.mono (by decide)) (by rfl) (yi 0 rfl (zg (zi 1 rfl (zg (zi 2 rfl (zt (⟨_,_,rfl,bd,fun ds1 r1 l1=>⟨_,rfl,?_⟩⟩)))))))));refine yu 4 zB9.nd (EvL.d (xV CO hr (by rfl) (yi 0 rfl (zg (zi 1 rfl (zg (zi 2 rfl (zt (⟨_,_,rfl,bd,fun ds2 r2 l2=>⟨_,rfl,?_⟩⟩)))))))));refine wJ (gg (fun _ _=>rfl) (EvL.d (xM (zg (EvL.d (nN (zi 3 rfl (zi 4 rfl (⟨_,_,rfl,rfl,by omega,zg (EvL.d (nN (zi 4 rfl (zi 3 rfl (⟨_,_,rfl,rfl,by omega,zt (⟨_,rfl,zZ8 rfl,yH CD (hr.mono (by decide)) (by rfl) (yi 0 rfl (zg (yt (zt (⟨_,rfl,by decide,by decide,fun v3 h3 g3=>?_⟩)))))⟩)⟩)))))⟩)))))))));obtain⟨z,hz,e⟩:=kx (ds:=[PyData.list (ds1++ds2),.list (ds2++ds1)]) h3 g3;refine⟨_,_,z,rfl,rfl,e,?_⟩;simp only[zY1,zZ3,z23] at hz;rcases hz with rfl|rfl
  ·exact q _ (r1.app r2) (by rw[z00];omega)
  ·exact q _ (r2.app r1) (by rw[z00];omega)
def bL :List A->(A->Prop)->Prop:=fun as Q=>∃bs dy:Int,as=[.tape,.dat (.int bs),.dat (.int dy)]/\Bd bs dy/\∀ds,zB ds->ds.length<=5->Q (.own ds)
def zc2 :List A->(A->Prop)->Prop:=fun as Q=>∃bs dy:Int,as=[.tape,.dat (.int bs),.dat (.int dy)]/\Bd bs dy/\∀ds,zB ds->ds.length<=10->Q (.dat (.list ds))
theorem zL4 {x:Str}{k:Nat}(C:Cal P w K mg base x k vR):Cal P w K mg base x k bL:=C.imp fun as Q h=>by
 obtain⟨bs,dy,rfl,⟨b1,b2,b3,b4⟩,q⟩:=h;exact⟨bs,dy,rfl,⟨b1,by omega,b3,by omega⟩,fun ds rw l=>q ds (rw.ok (by omega) (by omega)) l⟩
theorem eY {x:Str}{k:Nat}(C:Cal P w K mg base x k rT):Cal P w K mg base x k zc2:=C.imp fun as Q h=>by
 obtain⟨bs,dy,rfl,⟨b1,b2,b3,b4⟩,q⟩:=h;exact⟨bs,dy,rfl,⟨b1,by omega,b3,by omega⟩,fun ds rw l=>q ds (rw.ok (by omega) (by omega)) l⟩
end
noncomputable abbrev mJ :Stmt:=top 9
def qG :List A->(A->Prop)->Prop:=fun as Q=>∃c g:Int,as=[.dat (.tuple [.int c,.int g])]/\-100<=c/\c<g/\g<=c+500/\c<=1000100/\Q (.own ((zq c (g-c).toNat).map .int))
section
variable {P:Program}{w:World}{K:PySem.W.Frag}{mg:Str->Option Value}{base:Heap}{cs:Cs}
theorem zX0 :zm ["stay"] ["stay"] (zb mJ):=.o
theorem iD {f:Addr}{fd:FuncData}(F:Fun K "nights_of" "nights_of" mJ f fd)(hm:mg "nights_of"=some (.ref f))(hb:Binds K fd ["stay"] [])(nb:NbT mg):Cal P w K mg base "nights_of" 1 qG:=by
 refine yM F hm hb zX0 (fun as Q h=>?_) (fun cdv A' outer s H E as Q hr h=>?_)
 ·obtain⟨c,g,rfl,_⟩:=h;rfl
 ·obtain⟨c,g,rfl,h1,h2,h3,h4,q⟩:=h;exact tP (zk0 rfl (by rfl) nb.list (by rfl) nb.range (wI (fun _ _=>rfl) (zi 0 rfl (yt (⟨_,_,_,rfl,rfl,rfl,wI (fun _ _=>rfl) (zi 0 rfl (yt (⟨_,_,_,rfl,rfl,rfl,⟨_,_,rfl,rfl,⟨by omega,by omega,by omega,by omega⟩,by omega,q⟩⟩)))⟩)))))
end
noncomputable abbrev yY :Stmt:=top 17
noncomputable def pY :Arguments×Scope:=match zy yY with
 |[.Return (some (.Call _ _ [⟨_,.Lambda ps _ sc _,_⟩] _)) _]=>(ps,sc)
 |_=>(zV yY,zb yY)
section
variable {P:Program}{w:World}{K:PySem.W.Frag}{mg:Str->Option Value}{base:Heap}
theorem zn7 :zm ["prices","places"] ["prices","places"] (zb yY):=.o
theorem zO6 :wU "place" "prices" pY.1 pY.2:=⟨rfl,rfl,rfl,rfl,rfl,by decide +kernel,by decide +kernel,by decide⟩
theorem zJ1 {f c:Addr}{A':Around}{outer:List Env}{s:Shared}{H:Hp}{E:XK}{n1:Nat}{p1 p2 p3 p4 p5 p6:Pos}(hhd:PySem.W.codeHdIn K c yJ=true)(KX:K.In base)(hbi:base.BuiltinsAt mg yJ):
  zh0 (uv CX0 P w K mg base ["prices","places"] "cheapest_first" (zb yY) f (.ref c) A' outer s H E).nox c "place" "prices" n1 p1 p2 p3 p4 p5 p6 pY.1 pY.2 where
 S:=zO6
 hy:=rfl
 hcl:=fun cl h=>by
  have e:pY.2.names=[(("prices":Str),NameKind.free),(("place":Str),NameKind.local)]\/pY.2.names=[(("place":Str),NameKind.local),(("prices":Str),NameKind.free)]:=by decide +kernel
  unfold closureFor;rcases e with e|e<;>rw[e]<;>simp[cellOf,h]
 hgl:=rfl
 hco:=rfl
 hhd:=PySem.W.codeHd_of_K KX hhd
 hbi:=hbi
 hdf:=rfl
 hq:=rfl
 hne:=by decide
 hb:=fun u cl c' pm ctv=>rfl
 hdx:=by decide
 hdy:=by decide
 hcx:=by decide
 hcy:=by decide
def mH :List A->(A->Prop)->Prop:=fun as Q=>∃ns zs:List Int,as=[.dat (.list (zs.map .int)),.dat (.list (ns.map .int))]/\ns.length<64/\(∀n∈ns,0<=n/\n<zs.length)/\∀ms,tO ns zs ms->Q (.own (ms.map .int))
theorem dD {f c:Addr}{oc:Value}{od an:Option Addr}{osl:Array (Option Value)}{kV doc pm ct:Value}(lk:K.lookup f=some ⟨oc,od,.func (PySem.W.fnOf "cheapest_first" "cheapest_first" (zV yY) (zy yY) (zb yY) .none kV doc pm an (.ref c) ct),osl⟩)(hcd:PySem.W.codeIn K (.ref c) "cheapest_first"=true)(kp:PySem.W.keepIn K (.ref f)=true)
  (hm:mg "cheapest_first"=some (.ref f)) (hb:Binds K (PySem.W.fnOf "cheapest_first" "cheapest_first" (zV yY) (zy yY) (zb yY) .none kV doc pm an (.ref c) ct) ["prices","places"] []) (nb:NbT mg) (hhd:PySem.W.codeHdIn K c yJ=true) (KX:K.In base) (hbi:base.BuiltinsAt mg yJ):Cal P w K mg base "cheapest_first" 3 mH:=by
 refine⟨f,_,_,hm,kp,hb,zW8 lk hcd zn7 (fun as Q h=>by obtain⟨ns,zs,rfl,_⟩:=h;rfl) fun A' outer s H E as Q hr h=>?_⟩;obtain⟨ns,zs,rfl,h64,hin,q⟩:=h;exact tP (gp (j:=0) (k:=0) (zJ1 hhd KX hbi) hr (by rfl) nb.sorted rfl (zi 1 rfl ⟨ns,zs,rfl,rfl,h64,hin,fun ms sm=>q ms sm⟩))
end
noncomputable abbrev uu :Stmt:=top 18
noncomputable def zL7 :Scope:=match zy uu with
 |.Assign _ (.ListComp _ _ sc _) _::_=>sc
 |_=>zb uu
def qO :List A->(A->Prop)->Prop:=fun as Q=>∃(zs:List Int) (d:PyData),as=[.dat (.list (zs.map .int)),.dat d]/\zs.length<=500/\
 ((d=.none/\Q (.own ((List.replicate zs.length false).map .bool)))\/∃many free:Nat,d=.tuple [.int many,.int free]/\0<many/\many<64/\∀bs,vF zs many free zs.length bs->Q (.own (bs.map .bool)))
theorem dW (ns:List Int):uw (ns.map .int)=true:=by
 induction ns with
 |nil=>rfl
 |cons n ns ih=>rw[zZ6,uw,ih];rfl
section
variable {P:Program}{w:World}{K:PySem.W.Frag}{mg:Str->Option Value}{base:Heap}
theorem jA :zm ["prices","deal","marks","bundle","place","rank","other"] ["prices","deal"] (zb uu):=.o
theorem zM3 :zQ ["prices","deal","marks","bundle","place","rank","other"] (zb uu) ["price"] [none] zL7:=⟨rfl,by decide +kernel,by decide +kernel,by decide +kernel,by decide +kernel,rfl,by decide +kernel⟩
theorem iw {f:Addr}{fd:FuncData}(F:Fun K "marked" "marked" uu f fd)(hm:mg "marked"=some (.ref f))(hb:Binds K fd ["prices","deal"] [])(nb:NbT mg)(CC:Cal P w K mg base "cheapest_first" 3 mH):Cal P w K mg base "marked" 4 qO:=by
 refine yM F hm hb jA (fun as Q h=>?_) (fun cdv A' outer s H E as Q hr h=>?_)
 ·obtain⟨zs,d,rfl,_⟩:=h;rfl
 ·obtain⟨zs,d,rfl,hlen,h⟩:=h;refine aI 2 (pat:=.one 0) jA.nd rfl zM3 rfl (fun _ _ _ _=>zU (i:=0) zM3.nd rfl (Or.inl rfl)) (yj (zi 0 rfl ⟨_,rfl,?_,?comp⟩))
  ·rw[zX5];omega
  refine uN (fun _=>true) (fun _=>.bool false) (fun d hd=>⟨_,rfl,fun _ _ _ _ _ k=>nG k,fun _ _ _ _ _ _ k=>zB1 k⟩) ?_;have e0:([]:List PyData)++List.map (fun _=>PyData.bool false) (List.filter (fun _=>true) (List.map PyData.int zs))=(List.replicate zs.length false).map .bool:=by
   rw[z25,zg1,z20,List.map_replicate];exact List.eq_replicate_iff.mpr ⟨by simp,by simp⟩
  rw[e0];rcases h with ⟨rfl,q⟩|⟨many,free,rfl,hp,hm64,q⟩
  ·refine yQ (vT (zi 1 rfl ?_));exact xD 2 rfl q
  refine yQ (vT (zi 1 rfl (zA ?_)));refine xj 3 jA.nd (xM (zt ⟨_,rfl,zZ4 _,?_⟩));refine vZ (pat:=.one 4) z60 rfl (zU (i:=4) jA.nd rfl (Or.inl rfl)) (xS (by rfl) nb.range (nY (by rfl) nb.len (zi 0 rfl ⟨_,rfl,⟨_,rfl,by omega,by rw[zX5];omega,?_⟩⟩)));refine zX (fun i α=>∃(bs:List Bool) (o4 o5 o6:Option A),vF zs many free i bs/\α=[some (.dat (.list (zs.map .int))),some (.dat (.tuple [.int many,.int free])),some (.own (bs.map .bool)),some (.own ((zq ((i / many*many:Nat):Int) (i % many)).map .int)),o4,o5,o6]) ?_ ?_ ?_
  ·refine⟨_,none,none,none,oE zs free,?_⟩;rw[Nat.zero_mod,Nat.zero_div];rfl
  ·rintro i d α hd ⟨bs,o4,o5,o6,mk,rfl⟩;have hi:i<zs.length:=by
    have:=(zY0.mp hd).1;simpa[zc] using this
   obtain rfl:d=.int (i:Int):=by
    rw[zY3,zY (by simpa using hi)] at hd;simpa using hd.symm
   refine⟨_,rfl,?_⟩;have hmod:=Nat.mod_lt i hp;refine yD 3 rfl (zi 4 rfl ⟨by rw[zX5,zc];omega,?_⟩);have eb:List.map PyData.int (zq ((i / many*many:Nat):Int) (i % many))++[PyData.int (i:Int)]=(zq ((i / many*many:Nat):Int) (i % many+1)).map .int:=by
    have e:=ya3 i many;have e4:i / many*many=many*(i / many):=yf5 _ _;rw[ke,z03]
    congr 1
    simp only[zZ6,yc9]
    congr 2
    omega
   rw[eb];refine yQ (gC 3 rfl (zI5 (nY (by rfl) nb.len (zi 3 rfl ⟨_,rfl,wI (fun _ _=>rfl) (zi 1 rfl (yt ⟨_,_,_,rfl,rfl,at0,_,_,rfl,rfl,?_⟩))⟩))));refine za8 (fun hc=>?_) (fun hc=>zA ?_)
   ·have hfull:i % many+1=many:=by
     rw[zX5,zc] at hc;omega
    rw[hfull];have hin:∀n∈zq ((i / many*many:Nat):Int) many,0<=n/\n<zs.length:=fun n hn=>by
     rw[yR] at hn;have e:=ya3 i many;have e4:i / many*many=many*(i / many):=yf5 _ _;omega
    refine vZ (pat:=.many [5,6]) z60 rfl (vS (n:=2) (K:=K) rfl rfl (xX (zU (i:=5) jA.nd rfl (Or.inl rfl)) (xX (zU (i:=6) jA.nd rfl (Or.inl rfl)) (tR))))
     (mB (by rfl) nb.enumerate (EvL.d (gB 3 rfl (xV CC hr (by rfl) (zg (zi 0 rfl (zg (zi 3 rfl (zt ⟨_,zs,rfl,by rw[zc];exact hm64,hin,fun ms sm=>⟨_,rfl,dW ms,_,rfl,?_⟩⟩)))))))))
    have hml:ms.length=many:=by rw[sm.1.length_eq,zc]
    refine zX (fun r α=>∃(bs':List Bool) (p5 p6:Option A),(bs'.length=bs.length/\(∀q,q<r->bs'.getD (ms.getD q 0).toNat false=decide (q<free))/\∀j,(∀q,q<r->(ms.getD q 0).toNat≠j)->bs'.getD j false=bs.getD j false)/\
     α=[some (.dat (.list (zs.map .int))),some (.dat (.tuple [.int many,.int free])),some (.own (bs'.map .bool)),some (.own ((zq ((i / many*many:Nat):Int) many).map .int)),some (.dat (.int i)),p5,p6]) ?_ ?_ ?_
    ·exact⟨bs,o5,o6,⟨rfl,fun q h=>absurd h (Nat.not_lt_zero _),fun _ _=>rfl⟩,rfl⟩
    ·rintro r d α hd ⟨bs',p5,p6,⟨f0,f1,f2⟩,rfl⟩;obtain⟨e,he,rfl⟩:=wW hd;have hr':r<ms.length:=by
      have:=(zY0.mp he).1;simpa using this
     obtain rfl:e=.int (ms.getD r 0):=by
      rw[zY3,zX7 hr'] at he;rw[zX9,zX7 hr'];simpa using he.symm
     refine⟨_,rfl,?_⟩;have hmem:=vg sm (q:=r) (by omega);have hub:=hin (ms.getD r 0) (yR.mpr hmem);obtain⟨j,hj⟩:=z79 hub.1;rw[hj];have jl:j<bs'.length:=by rw[f0,mk.1];omega
     refine zK9 2 rfl (zy8 (zi 5 rfl (wI (fun _ _=>rfl) (zi 1 rfl (yt ⟨_,_,_,rfl,rfl,yF (j:=1) rfl,_,_,rfl,rfl,zi 6 rfl ⟨_,j,rfl,?_,zA ?_⟩⟩)))))
     ·unfold ixN;rw[if_pos (by omega),if_pos (by rw[zX5];omega)];simp
     ·refine⟨bs'.set j (decide (r<free)),some (.dat (.int ((0+r:Nat):Int))),some (.dat (.int (j:Int))),⟨?_,fun q hq=>?_,fun l hl=>?_⟩,?_⟩
      ·rw[z53,f0]
      ·by_cases hqr:q=r
       ·subst hqr;rw[hj,z42,zX9,z82 jl];rfl
       ·have hne:(ms.getD q 0).toNat≠j:=fun z=>by
         have nd:ms.Nodup:=sm.1.nodup_iff.mpr (sv _ _);have a1:=(vg sm (q:=q) (by omega)).1;have z2:ms.getD q 0=ms.getD r 0:=by rw[hj];omega
         rw[zX9,zX9,zX7 (by omega),zX7 hr'] at z2;exact (yc1.mp nd q r (by omega) hr' (by omega)) z2
        rw[zX9,z45 hne.symm,<-zX9,f1 q (by omega)]
      ·have hne:j≠l:=fun z=>hl r (z96 _) (by rw[hj];omega);rw[zX9,z45 hne,<-zX9,f2 l fun q hq=>hl q (by omega)]
      ·have ed:decide (((0+r:Nat):Int)<(free:Int))=decide (r<free):=by rw[ye5];omega
       rw[ed,List.map_set];rfl
    ·rintro α ⟨bs',p5,p6,⟨f0,f1,f2⟩,rfl⟩;refine xj 3 jA.nd (xM (zt ⟨_,rfl,zZ4 _,zA ?_⟩));rw[wQ,zX5,hml] at f1 f2;refine zA ?_;refine⟨bs',some (.dat (.int i)),p5,p6,oN hp hfull mk sm f0 f1 f2,?_⟩;rw[(qr hp hfull).2.1];rfl
   ·have hmore:i % many+1<many:=by
     rw[zX5,zc] at hc;omega
    refine zA ?_;refine⟨bs,some (.dat (.int i)),o5,o6,oB hp hmore mk,?_⟩;rw[(pC hp hmore).1,(pC hp hmore).2];rfl
  ·rintro α ⟨bs,o4,o5,o6,mk,rfl⟩;have el:(List.map PyData.int (zq 0 ((List.map PyData.int zs).length:Int).toNat)).length=zs.length:=by simp[zc]
   rw[el] at mk;exact xD 2 rfl (q bs mk)
end
noncomputable abbrev sNP :Stmt:=top 19
noncomputable abbrev rf :Stmt:=top 20
noncomputable def zw2 :Scope:=match (zy rf).getD 5 (.Pass ⟨0,0,0,0⟩) with
 |.Assign _ (.Call _ [.ListComp _ _ sc _] _ _) _=>sc
 |_=>zb rf
def zS5 (C:Addr)(cs:Cs):List A->(A->Prop)->Prop:=fun as Q=>∃(ds:List PyData) (ns:List Int) (pr:Int->Int),as=[.dat (ye C cs ds),.dat (.list (ns.map .int))]/\Rules ds/\ns.length<=900/\(∀z∈ns,zo ds "price" z=.int (pr z))/\Q (.own ((ns.map pr).map .int))
def jD (C:Addr)(cs:Cs):List A->(A->Prop)->Prop:=fun as Q=>∃(ds:List PyData) (c g fee:Int) (pr:Int->Int),as=[.dat (ye C cs ds),.dat (.tuple [.int c,.int g])]/\Rules ds/\0<=c/\c<g/\g<=c+400/\c<=1000000/\(∀z,c<=z->z<g->zo ds "price" z=.int (pr z)/\0<=pr z/\pr z<=1000000000000)/\
 (zo ds "deal" c=.none\/∃many free:Nat,zo ds "deal" c=.tuple [.int many,.int free]/\0<many/\many<64)/\zo ds "fee" c=.int fee/\
 ∀bs,xo (zo ds "deal" c) ((zq c (g-c).toNat).map pr) bs->Q (.dat (.tuple [.int ((yz ((zq c (g-c).toNat).map pr) bs).sum+fee),.list (xP ((zq c (g-c).toNat).map .int) (((zq c (g-c).toNat).map pr).map .int) (bs.map .bool)),.int fee]))
section
variable {P:Program}{w:World}{K:PySem.W.Frag}{mg:Str->Option Value}{base:Heap}{cs:Cs}
theorem zp0 :zm ["book","nights","prices","night","price"] ["book","nights"] (zb sNP):=.o
theorem zH6 {f C:Addr}{fd:FuncData}(F:Fun K "night_prices" "night_prices" sNP f fd)(hm:mg "night_prices"=some (.ref f))(hb:Binds K fd ["book","nights"] [])(MT:vt P w K mg base C "tells_of" 2 (tH C cs)):Cal P w K mg base "night_prices" 3 (zS5 C cs):=by
 refine yM F hm hb zp0 (fun as Q h=>?_) (fun cdv A' outer s H E as Q hr h=>?_)
 ·obtain⟨ds,ns,pr,rfl,_⟩:=h;rfl
 ·obtain⟨ds,ns,pr,rfl,rd,hl,hp,q⟩:=h;refine xj 2 zp0.nd (xM (zt ⟨_,rfl,zZ4 _,?_⟩));refine vZ (pat:=.one 3) z60 rfl (zU (i:=3) zp0.nd rfl (Or.inl rfl)) (yj (zi 1 rfl ⟨_,rfl,?_⟩));refine zX (fun i α=>∃o3 o4:Option A,α=[some (.dat (ye C cs ds)),some (.dat (.list (ns.map .int))),some (.own (((ns.take i).map pr).map .int)),o3,o4]) ⟨none,none,rfl⟩ ?_ ?_
  ·rintro i d α hd ⟨o3,o4,rfl⟩;rw[zY3,zZ2] at hd;obtain⟨z,hz,rfl⟩:=hd;have hi:i<ns.length:=(zY0.mp hz).1;have e:=hp z (z27 hz);refine⟨_,rfl,?_⟩;refine yu 4 zp0.nd (xE MT hr (zi 0 rfl ⟨_,rfl,rfl,zg (yh (zg (zi 3 rfl (zt ⟨ds,_,_,rfl,rd,by simp[words],?_⟩))))⟩));show SvS _ (List.set _ _ (some (.dat (zo ds "price" z)))) _ _;rw[e];refine yQ (vT (zi 4 rfl ?_));refine yB (fun h=>by cases h) (fun _=>zA ?_);refine yD 2 rfl (zi 4 rfl ⟨by rw[zX5,zX5,z04];omega,zA ⟨some (.dat (.int z)),some (.dat (.int (pr z))),?_⟩⟩);rw[z44,hz,z03,z03];rfl
  ·rintro α ⟨o3,o4,rfl⟩;rw[zX5,z56];exact xD 2 rfl q
theorem gk :zm ["book","stay","nights","prices","marks","fee","rows","paid"] ["book","stay"] (zb rf):=.o
theorem zR0 :zQ ["book","stay","nights","prices","marks","fee","rows","paid"] (zb rf) ["row"] [none] zw2:=⟨rfl,by decide +kernel,by decide +kernel,by decide +kernel,by decide +kernel,rfl,by decide +kernel⟩
theorem za9 {f C:Addr}{fd:FuncData}(F:Fun K "bill" "bill" rf f fd)(hm:mg "bill"=some (.ref f))(hb:Binds K fd ["book","stay"] [])(nb:NbT mg)(MT:vt P w K mg base C "tells_of" 2 (tH C cs))(CN:Cal P w K mg base "nights_of" 1 qG)(CP:Cal P w K mg base "night_prices" 3 (zS5 C cs))(CM:Cal P w K mg base "marked" 4 qO):
  Cal P w K mg base "bill" 5 (jD C cs):=by
 refine yM F hm hb gk (fun as Q h=>?_) (fun cdv A' outer s H E as Q hr h=>?_)
 ·obtain⟨ds,c,g,fee,pr,rfl,_⟩:=h;rfl
 ·obtain⟨ds,c,g,fee,pr,rfl,rd,c0,cg,gl,c1,hpr,hdeal,hfee,q⟩:=h;generalize hn:(g-c).toNat=n at q;have hn0:0<n:=by omega
  have hn4:n<=400:=by omega
  refine yu 2 gk.nd (EvL.d (xV CN (hr.mono (by decide)) (by rfl) (zg (zi 1 rfl (zt ⟨c,g,rfl,by omega,cg,by omega,by omega,_,rfl,?_⟩)))));rw[hn];refine yu 3 gk.nd (EvL.d (xV CP (hr.mono (by decide)) (by rfl) (zg (zi 0 rfl (zg (zi 2 rfl (zt ⟨ds,zq c n,pr,rfl,rd,by rw[zc];omega,fun z hz=>(hpr z (yR.mp hz).1 (by have:=(yR.mp hz).2;omega)).1,_,rfl,?_⟩)))))));have lz:((zq c n).map pr).length=n:=by rw[zX5,zc]
  refine yu 4 gk.nd (EvL.d (xV CM hr (by rfl) (zg (zi 3 rfl (zg (xE MT (hr.mono (by decide)) (zi 0 rfl ⟨_,rfl,rfl,zg (yh (zg (wI (fun _ _=>rfl) (zi 1 rfl (yt ⟨_,_,_,rfl,rfl,at0,zt ⟨ds,_,_,rfl,rd,by simp[words],zt ⟨_,_,rfl,by omega,?_⟩⟩⟩)))))⟩)))))));have key:∀bs,xo (zo ds "deal" c) ((zq c n).map pr) bs->SvS (uv CX0 P w K mg base ["book","stay","nights","prices","marks","fee","rows","paid"] "bill" (zb rf) f cdv A' outer s H E).nox
    [some (.dat (ye C cs ds)),some (.dat (.tuple [.int c,.int g])),some (.dat (.list ((zq c n).map .int))),some (.dat (.list (((zq c n).map pr).map .int))),some (.dat (.list (bs.map .bool))),none,none,none] ((zy rf).drop 3) {nx:=fun _=>Q (.dat .none),rt:=Q}:=by
   intro bs mk;have lb:=mk.len;refine yu 5 gk.nd (xE MT (hr.mono (by decide)) (zi 0 rfl ⟨_,rfl,rfl,zg (yh (zg (wI (fun _ _=>rfl) (zi 1 rfl (yt ⟨_,_,_,rfl,rfl,at0,zt ⟨ds,_,_,rfl,rd,by simp[words],?_⟩⟩)))))⟩));show SvS _ (List.set _ _ (some (.dat (zo ds "fee" c)))) _ _;rw[hfee];refine yu 6 gk.nd (EvL.d (km rfl (by rfl) nb.list (by rfl) nb.zip (zg (zi 2 rfl (zg (zi 3 rfl (zg (zi 4 rfl (zt ⟨_,_,_,rfl,?_,?_,?_,?_,?_⟩)))))))))
   ·rw[zX5,zX5,zX5]
   ·rw[zX5,zX5,lb,lz,zc]
   ·rw[zX5,zc];omega
   ·rw[zX5,zc];omega
   have pm:∀z∈yz ((zq c n).map pr) bs,0<=z/\z<=1000000000000:=fun z hz=>by
    obtain⟨y,hy,rfl⟩:=z09.mp (wO hz);have hy:=yR.mp hy;exact (hpr y hy.1 (by omega)).2
   refine yu 7 gk.nd (nL rfl (by rfl) nb.sum (EvL.d (aV (pat:=.one 0) rfl zR0 rfl (fun _ _ _ _=>zU (i:=0) zR0.nd rfl (Or.inl rfl)) (yj (zi 6 rfl ⟨_,rfl,?_,?comp⟩)))))
   ·rw[tV (by rw[zX5,zX5,zX5]) (by rw[zX5,zX5,lb,lz,zc]),zX5,zc];omega
   refine uN (fun d=>!rE d) (wN 1) (fun d hd=>?_) ?_
   ·obtain⟨j,hj⟩:=List.mem_iff_getElem?.mp hd;obtain⟨x,y,z,e1,e2,e3,rfl⟩:=sr hj;rw[zY3,zZ2] at e3;obtain⟨b,_,rfl⟩:=e3;exact⟨_,rfl,fun _ _ _ _ _ k=>aa (sL (mh (wI (fun _ _=>rfl) (zi 0 rfl (yt ⟨_,_,_,rfl,rfl,yF (j:=2) rfl,⟨_,rfl,k⟩⟩))))),fun _ _ _ _ _ _ k=>wI (fun _ _=>rfl) (zi 0 rfl (yt ⟨_,_,_,rfl,rfl,yF (j:=1) rfl,k⟩))⟩
   ·rw[z25,rZ (by rw[lz,zX5,zc]) (by rw[lb,lz,zX5,zc])];refine⟨_,rfl,fun z hz=>by have:=pm z hz;omega,jT pm (z35 (ur _ _) (by omega)),?_⟩;exact wJ (wo (zg (xY (zi 7 rfl (zi 5 rfl ⟨_,_,rfl,rfl,zg (zi 6 rfl (zg (zi 5 rfl (zt ⟨_,rfl,zZ8 rfl,q bs mk⟩))))⟩)))))
  rcases hdeal with hd|⟨many,free,hd,m0,m64⟩
  ·exact .inl ⟨hd,⟨_,rfl,key _ (.inl ⟨hd,rfl⟩)⟩⟩
  ·exact .inr ⟨many,free,hd,m0,m64,fun bs mk=>⟨_,rfl,key bs (.inr ⟨many,free,hd,mk⟩)⟩⟩
end
noncomputable abbrev oY :Stmt:=top 22
noncomputable abbrev zI4 :Stmt:=top 23
noncomputable abbrev aD :Stmt:=top 24
noncomputable abbrev zG9 :Stmt:=top 25
theorem eS {x:Str}(h:x∈words):zI (.str x) (aY x)=true:=by
 simp only[words,zY1,zZ3,z23] at h;rcases h with rfl|rfl|rfl|rfl|rfl|rfl|rfl<;>decide +kernel
theorem yN {ds:List PyData}(h:∀d∈ds,xq d=true){x:Str}(hx:x∈words)(day:Int):zI (.str x) (zo ds x day)=true:=by
 unfold zo;split
 ·rename_i d e;obtain⟨u,i,j,v,hu,rfl,_,_,_,hw⟩:=vh (h d (List.mem_reverse.mp (List.mem_of_find?_eq_some e)));have:=List.find?_some e;have h2:(decide (u=x)&&(decide (i<=day)&&decide (day<=j)))=true:=this;rw[zZ9,z07] at h2;rw[<-h2.1];exact hw
 ·exact eS hx
noncomputable def isF :PyData->Bool
 |.bool b=>!b
 |_=>false
noncomputable def intOf :PyData->Int
 |.int i=>i
 |_=>0
theorem xC {lo hi:Int}{d:PyData}(h:yv lo hi d=true):∃i,d=.int i/\lo<=i/\i<=hi:=by
 cases d with
 |int i=>
  have h':(decide (lo<=i)&&decide (i<=hi))=true:=h;rw[zZ9,z07,z07] at h';exact⟨i,rfl,h'⟩
 |_=>cases h
theorem bool_inv {d:PyData}(h:isBool d=true):∃b,d=.bool b:=by
 cases d with
 |bool b=>exact⟨b,rfl⟩
 |_=>cases h
section
variable {ds:List PyData}(h:∀d∈ds,xq d=true)(day:Int)
include h
theorem zG3 :∃b,zo ds "come" day=.bool b:=bool_inv (by rw[<-rO];exact yN h (by simp[words]) day)
theorem zW7 :∃b,zo ds "go" day=.bool b:=bool_inv (by rw[<-kJ];exact yN h (by simp[words]) day)
theorem zo5 :∃i,zo ds "least" day=.int i/\1<=i/\i<=14:=xC (by rw[<-sR];exact yN h (by simp[words]) day)
theorem zD8 :∃i,zo ds "most" day=.int i/\1<=i/\i<=14:=xC (by rw[<-qx];exact yN h (by simp[words]) day)
theorem zM2 :∃i,zo ds "fee" day=.int i/\0<=i/\i<=1000000000000:=xC (by
 have:=yN h (x:="fee") (by simp[words]) day;rw[oU] at this;exact this)
theorem zv4 :zo ds "price" day=.none\/∃i,zo ds "price" day=.int i/\0<=i/\i<=1000000000000:=by
 have:=yN h (x:="price") (by simp[words]) day;rw[xJ,z67] at this;rcases this with z|z
 ·left;cases e:zo ds "price" day with
  |none=>rfl
  |_=>rw[e] at z;cases z
 ·exact .inr (xC z)
end
noncomputable def pB (x:Str)(d:Int):PyData:=.tuple [.str x,.int d]
noncomputable def xp (ds:List PyData)(c:Int)(n:Nat):List PyData:=((zq c n).filter fun z=>wA (zo ds "price" z)).map (pB "price")
noncomputable def opt (b:Bool)(d:PyData):List PyData:=if b=true then [d] else []
noncomputable def wa (ds:List PyData)(c g:Int):List PyData:=xp ds c (g-c).toNat++opt (isF (zo ds "come" c)) (pB "come" c)++opt (isF (zo ds "go" g)) (pB "go" g)++opt (decide (g-c<intOf (zo ds "least" c))) (pB "least" c)++opt (decide (intOf (zo ds "most" c)<g-c)) (pB "most" c)
theorem wC (b:Bool)(d:PyData):(opt b d).length<=1:=by unfold opt;split<;>simp
theorem rg (ds:List PyData)(c:Int)(n:Nat):(xp ds c n).length<=n:=by
 unfold xp;rw[zX5];have:=List.length_filter_le (fun z=>wA (zo ds "price" z)) (zq c n);rw[zc] at this;exact this
def qm (C:Addr)(cs:Cs):List A->(A->Prop)->Prop:=fun as Q=>∃ds c g,as=[.dat (ye C cs ds),.dat (.tuple [.int c,.int g])]/\Rules ds/\-100<=c/\c<g/\g<=c+100/\c<=1000100/\Q (.own (wa ds c g))
noncomputable def zs1 :Scope:=match zy oY with
 |[_,_,.Assign _ (.ListComp _ _ sc _) _,_,_,_,_,_]=>sc
 |_=>zb oY
section
variable {P:Program}{w:World}{K:PySem.W.Frag}{mg:Str->Option Value}{base:Heap}{cs:Cs}
theorem zq1 :zm ["book","stay","come","go","told"] ["book","stay"] (zb oY):=.o
theorem zM0 :zQ ["book","stay","come","go","told"] (zb oY) ["night","book"] [none,some 0] zs1:=⟨rfl,by decide +kernel,by decide +kernel,by decide +kernel,by decide +kernel,rfl,by decide +kernel⟩
theorem lL (ds:List PyData)(ns:List Int)(f:PyData->Bool)(hf:∀z,f (.int z)=wA (zo ds "price" z))(g:PyData->PyData)(hg:∀z,g (.int z)=pB "price" z):((ns.map PyData.int).filter f).map g=(ns.filter fun z=>wA (zo ds "price" z)).map (pB "price"):=by
 rw[List.filter_map,z20];have e1:(f∘PyData.int)=fun z=>wA (zo ds "price" z):=funext hf;have e2:(g∘PyData.int)=pB "price":=funext hg;rw[e1,e2]
noncomputable def zN6 :PyData->Int
 |.int z=>z
 |_=>0
theorem aM {f C:Addr}{fd:FuncData}(F:Fun K "bars" "bars" oY f fd)(hm:mg "bars"=some (.ref f))(hb:Binds K fd ["book","stay"] [])(CN:Cal P w K mg base "nights_of" 1 qG)(MT:vt P w K mg base C "tells_of" 2 (tH C cs)):Cal P w K mg base "bars" 3 (qm C cs):=by
 refine yM F hm hb zq1 (fun as Q h=>?_) (fun cdv A' outer s H E as Q hr h=>?_)
 ·obtain⟨ds,c,g,rfl,_⟩:=h;rfl
 ·obtain⟨ds,c,g,rfl,rd,c0,cg,g1,c1,q⟩:=h;have rr:∀d∈ds,xq d=true:=fun d hd=>(rd d hd).1;refine yu 2 zq1.nd (wI (fun _ _=>rfl) (zi 1 rfl (yt (⟨_,_,_,rfl,rfl,rfl,?_⟩))));refine yu 3 zq1.nd (wI (fun _ _=>rfl) (zi 1 rfl (yt (⟨_,_,_,rfl,rfl,rfl,?_⟩))));refine yr (fun α=>α=[some (.dat (ye C cs ds)),some (.dat (.tuple [.int c,.int g])),some (.dat (.int c)),some (.dat (.int g)),some (.own (xp ds c (g-c).toNat))]) ?_ ?_
  ·refine aI 4 (pat:=.one 0) zq1.nd rfl zM0 rfl (fun _ _ _ _=>zU (i:=0) zM0.nd rfl (by first|exact Or.inl rfl|exact Or.inr rfl)) (yj (EvL.d (xV CN (hr.mono (by decide)) (by rfl) (zg (zi 1 rfl (zt (⟨c,g,rfl,by omega,by omega,by omega,by omega,⟨_,rfl,⟨_,rfl,⟨by rw[zX5,zc];omega,?comp⟩⟩⟩⟩)))))))
   case comp=>
    refine uN (fun d=>wA (zo ds "price" (zN6 d))) (fun d=>pB "price" (zN6 d)) (fun d hd=>?_) ?_
    ·obtain⟨z,_,rfl⟩:=z09.mp hd;refine⟨_,rfl,fun C s2 H2 fp Q k=>aa (vT (xE MT hr (zi 1 rfl ⟨_,rfl,rfl,zg (yh (zg (zi 0 rfl (zt ⟨ds,_,_,rfl,rd,by simp[words],k⟩))))⟩))),fun _ C s2 H2 fp Q k=>wo (zg (yh (zg (zi 0 rfl (zt (⟨_,rfl,zZ8 rfl,k⟩))))))⟩
    ·refine zA ?_;rw[z25,lL ds _ _ (fun _=>rfl) _ (fun _=>rfl)];rfl
  rintro α rfl;have n0:=rg ds c (g-c).toNat;obtain⟨bc,ec⟩:=zG3 rr c;obtain⟨bg,eg⟩:=zW7 rr g;obtain⟨il,el,_,_⟩:=zo5 rr c;obtain⟨im,em,_,_⟩:=zD8 rr c;refine yr (fun α=>α=[some (.dat (ye C cs ds)),some (.dat (.tuple [.int c,.int g])),some (.dat (.int c)),some (.dat (.int g)),some (.own (xp ds c (g-c).toNat++opt (isF (zo ds "come" c)) (pB "come" c)))]) ?_ ?_
  ·refine yQ (sL (mh (xE MT hr (zi 0 rfl ⟨_,rfl,rfl,zg (yh (zg (zi 2 rfl (zt ⟨ds,_,_,rfl,rd,by simp[words],⟨bc,ec,?_⟩⟩))))⟩))));rw[ec];refine yB (fun hc=>?_) (fun hc=>?_)
   ·refine yD 4 rfl (wo (zg (yh (zg (zi 2 rfl (zt (⟨_,rfl,zZ8 rfl,⟨by omega,zA (zA ?_)⟩⟩)))))));have hb:isF (PyData.bool bc)=true:=hc;rw[hb]<;>rfl
   ·refine zA (zA ?_);have hb:isF (PyData.bool bc)=false:=hc;rw[hb,show opt false (pB "come" c)=[] from rfl,z52]
  rintro α rfl;have l1:(xp ds c (g-c).toNat++opt (isF (zo ds "come" c)) (pB "come" c)).length<=101:=by
   have:=wC (isF (zo ds "come" c)) (pB "come" c);rw[z00];omega
  generalize eacc1:xp ds c (g-c).toNat++opt (isF (zo ds "come" c)) (pB "come" c)=acc1 at l1;refine yr (fun α=>α=[some (.dat (ye C cs ds)),some (.dat (.tuple [.int c,.int g])),some (.dat (.int c)),some (.dat (.int g)),some (.own (acc1++opt (isF (zo ds "go" g)) (pB "go" g)))]) ?_ ?_
  ·refine yQ (sL (mh (xE MT hr (zi 0 rfl ⟨_,rfl,rfl,zg (yh (zg (zi 3 rfl (zt ⟨ds,_,_,rfl,rd,by simp[words],⟨bg,eg,?_⟩⟩))))⟩))));rw[eg];refine yB (fun hc=>?_) (fun hc=>?_)
   ·refine yD 4 rfl (wo (zg (yh (zg (zi 3 rfl (zt (⟨_,rfl,zZ8 rfl,⟨by omega,zA (zA ?_)⟩⟩)))))));have hb:isF (PyData.bool bg)=true:=hc;rw[hb]<;>rfl
   ·refine zA (zA ?_);have hb:isF (PyData.bool bg)=false:=hc;rw[hb,show opt false (pB "go" g)=[] from rfl,z52]
  rintro α rfl;have l2:(acc1++opt (isF (zo ds "go" g)) (pB "go" g)).length<=102:=by
   have:=wC (isF (zo ds "go" g)) (pB "go" g);rw[z00];omega
  generalize eacc2:acc1++opt (isF (zo ds "go" g)) (pB "go" g)=acc2 at l2;refine yr (fun α=>α=[some (.dat (ye C cs ds)),some (.dat (.tuple [.int c,.int g])),some (.dat (.int c)),some (.dat (.int g)),some (.own (acc2++opt (decide (g-c<intOf (zo ds "least" c))) (pB "least" c)))]) ?_ ?_
  ·refine yQ (zA3 (ny (zi 3 rfl (zi 2 rfl (⟨_,_,rfl,rfl,xE MT hr (zi 0 rfl ⟨_,rfl,rfl,zg (yh (zg (zi 2 rfl (zt ⟨ds,_,_,rfl,rd,by simp[words],⟨_,il,rfl,el,?_⟩⟩))))⟩)⟩)))));rw[el];refine yB (fun hc=>?_) (fun hc=>?_)
   ·refine yD 4 rfl (wo (zg (yh (zg (zi 2 rfl (zt (⟨_,rfl,zZ8 rfl,⟨by omega,zA (zA ?_)⟩⟩)))))));have hb:decide (g-c<intOf (PyData.int il))=true:=hc;rw[hb]<;>rfl
   ·refine zA (zA ?_);have hb:decide (g-c<intOf (PyData.int il))=false:=hc;rw[hb,show opt false (pB "least" c)=[] from rfl,z52]
  rintro α rfl;have l3:(acc2++opt (decide (g-c<intOf (zo ds "least" c))) (pB "least" c)).length<=103:=by
   have:=wC (decide (g-c<intOf (zo ds "least" c))) (pB "least" c);rw[z00];omega
  generalize eacc3:acc2++opt (decide (g-c<intOf (zo ds "least" c))) (pB "least" c)=acc3 at l3;refine yr (fun α=>α=[some (.dat (ye C cs ds)),some (.dat (.tuple [.int c,.int g])),some (.dat (.int c)),some (.dat (.int g)),some (.own (acc3++opt (decide (intOf (zo ds "most" c)<g-c)) (pB "most" c)))]) ?_ ?_
  ·refine yQ (aK (ny (zi 3 rfl (zi 2 rfl (⟨_,_,rfl,rfl,xE MT hr (zi 0 rfl ⟨_,rfl,rfl,zg (yh (zg (zi 2 rfl (zt ⟨ds,_,_,rfl,rd,by simp[words],⟨_,im,rfl,em,?_⟩⟩))))⟩)⟩)))));rw[em];refine yB (fun hc=>?_) (fun hc=>?_)
   ·refine yD 4 rfl (wo (zg (yh (zg (zi 2 rfl (zt (⟨_,rfl,zZ8 rfl,⟨by omega,zA (zA ?_)⟩⟩)))))));have hb:decide (intOf (PyData.int im)<g-c)=true:=hc;rw[hb]<;>rfl
   ·refine zA (zA ?_);have hb:decide (intOf (PyData.int im)<g-c)=false:=hc;rw[hb,show opt false (pB "most" c)=[] from rfl,z52]
  rintro α rfl;have l4:(acc3++opt (decide (intOf (zo ds "most" c)<g-c)) (pB "most" c)).length<=104:=by
   have:=wC (decide (intOf (zo ds "most" c)<g-c)) (pB "most" c);rw[z00];omega
  generalize eacc4:acc3++opt (decide (intOf (zo ds "most" c)<g-c)) (pB "most" c)=acc4 at l4;have eb:wa ds c g=acc4:=by
   unfold wa;rw[eacc1,eacc2,eacc3,eacc4]
  rw[eb] at q;exact xD 4 rfl q
end
theorem zb7 {d:PyData}(h:uW d=true):∃many free:Nat,d=.tuple [.int many,.int free]/\0<free/\free<many/\many<64:=by
 unfold uW at h;split at h
 ·rename_i m r;rw[zZ9] at h;obtain⟨i,e,i0,i1⟩:=xC h.1;obtain⟨j,e2,j0,j1⟩:=xC h.2;subst e2;injection e with e;subst e;refine⟨m.toNat,j.toNat,?_,by omega,by omega,by omega⟩;rw[show ((m.toNat:Nat):Int)=m by omega,show ((j.toNat:Nat):Int)=j by omega]
 ·cases h
theorem my {ds:List PyData}(h:∀d∈ds,xq d=true)(day:Int):mO (zo ds "deal" day):=by
 have:=yN h (x:="deal") (by simp[words]) day;rw[uJ,z67] at this;rcases this with z|z
 ·left;cases e:zo ds "deal" day with
  |none=>rfl
  |_=>rw[e] at z;cases z
 ·exact .inr (zb7 z)
theorem zB.all {ds:List PyData}(h:zB ds):∀d∈ds,xq d=true:=fun d hd=>(h d hd).rule
def sx (ds:List PyData)(c g:Int):Prop:=∀z,c<=z->z<g->wA (zo ds "price" z)=false
noncomputable def prs (ds:List PyData)(c g:Int):List Int:=(zq c (g-c).toNat).map fun z=>intOf (zo ds "price" z)
noncomputable def xk (ds:List PyData)(c:Int):Int:=intOf (zo ds "fee" c)
theorem uO {ds:List PyData}{c g z:Int}(h:zB ds)(s:sx ds c g)(h0:c<=z)(h1:z<g):zo ds "price" z=.int (intOf (zo ds "price" z))/\0<=intOf (zo ds "price" z)/\intOf (zo ds "price" z)<=1000000000000:=by
 rcases zv4 h.all z with e|⟨i,e,i0,i1⟩
 ·have:=s z h0 h1;rw[e] at this;cases this
 ·rw[e];exact⟨rfl,i0,i1⟩
theorem rC {ds:List PyData}(h:zB ds)(c:Int):zo ds "fee" c=.int (xk ds c)/\0<=xk ds c/\xk ds c<=1000000000000:=by
 obtain⟨i,e,i0,i1⟩:=zM2 h.all c;unfold xk;rw[e];exact⟨rfl,i0,i1⟩
def zD (c g:Int):Prop:=0<=c/\c<g/\g<=c+14/\g<=1000000
def mD (C:Addr)(cs:Cs):List A->(A->Prop)->Prop:=fun as Q=>∃(ds:List PyData) (c g:Int),as=[.dat (ye C cs ds),.dat (.tuple [.int c,.int g])]/\zB ds/\zD c g/\sx ds c g/\
 ∀bs rows,xo (zo ds "deal" c) (prs ds c g) bs->Q (.dat (.tuple [.int ((yz (prs ds c g) bs).sum+xk ds c),rows,.int (xk ds c)]))
noncomputable def vd (ds:List PyData)(c g:Int):Bool:=(wa ds c g).isEmpty
noncomputable def uL (ds:List PyData)(c g:Int):List Bool:=Classical.epsilon fun bs=>xo (zo ds "deal" c) (prs ds c g) bs
noncomputable def coD (ds:List PyData)(c g:Int):Int:=(yz (prs ds c g) (uL ds c g)).sum+xk ds c
noncomputable def coO (ds:List PyData)(c g:Int):Option Int:=if vd ds c g=true then some (coD ds c g) else none
noncomputable def oD :Option Int->PyData
 |some z=>.int z
 |none=>.none
theorem uU {ds:List PyData}{c g y:Int}(ro:zB ds)(so:sx ds c g)(h:y∈prs ds c g):0<=y/\y<=1000000000000:=by
 obtain⟨z,hz,rfl⟩:=z09.mp h;have hz:=yR.mp hz;exact (uO ro so hz.1 (by omega)).2
theorem iH {b:Int}:∀{ns:List Int},(∀n∈ns,0<=n/\n<=b)->0<=ns.sum/\ns.sum<=b*ns.length
 |[],_=>by simp
 |n::ns,h=>by
  have h1:=h n zY6;have h2:=iH fun m hm=>h m (zY4 _ hm);rw[z39,zY9];have:b*((ns.length+1:Nat):Int)=b*ns.length+b:=by rw[z77,z71];simp
  omega
theorem zz8 {ds:List PyData}{c g:Int}{bs:List Bool}(ro:zB ds)(so:sx ds c g)(mk:xo (zo ds "deal" c) (prs ds c g) bs):(yz (prs ds c g) bs).sum+xk ds c=coD ds c g:=by
 have h2:xo (zo ds "deal" c) (prs ds c g) (uL ds c g):=Classical.epsilon_spec (p:=fun bs=>xo (zo ds "deal" c) (prs ds c g) bs) ⟨bs,mk⟩;have:=jo (e:=0) mk h2 (my ro.all c) rfl (by simp) (fun i hi=>z31 _) (fun z hz=>(uU ro so hz).1) fun z hz=>(uU ro so hz).1;unfold coD;omega
theorem wy {α:Type}{a b:List α}:(a++b).isEmpty=(a.isEmpty&&b.isEmpty):=by cases a<;>rfl
theorem rG {b:Bool}{d:PyData}:(opt b d).isEmpty=!b:=by cases b<;>rfl
theorem zq9 {ds:List PyData}{c g:Int}:vd ds c g=true↔sx ds c g/\isF (zo ds "come" c)=false/\isF (zo ds "go" g)=false/\¬g-c<intOf (zo ds "least" c)/\¬intOf (zo ds "most" c)<g-c:=by
 unfold vd wa;rw[wy,wy,wy,wy,rG,rG,rG,rG];have:(xp ds c (g-c).toNat).isEmpty=true↔sx ds c g:=by
  unfold xp sx;rw[List.isEmpty_iff,List.map_eq_nil_iff,List.filter_eq_nil_iff];refine⟨fun h z z0 z1=>?_,fun h z hz=>?_⟩
  ·have:=h z (yR.mpr ⟨z0,by omega⟩);simpa using this
  ·have hz:=yR.mp hz;rw[h z hz.1 (by omega)];decide
 simp only[zZ9,this,yd9,z65,and_assoc]
theorem vI {ds:List PyData}{c g:Int}(h:vd ds c g=true):sx ds c g:=(zq9.mp h).1
theorem kg {ds:List PyData}{c g:Int}(cg:c<=g){d:PyData}(h:d∈wa ds c g):∃(x:Str) (z:Int),d=pB x z/\x∈words/\c<=z/\z<=g:=by
 unfold wa at h;simp only[z36] at h;have ho:∀{b:Bool} {x:Str} {z:Int},d∈opt b (pB x z)->d=pB x z:=fun {b x z} h=>by
  cases b
  ·simp[opt] at h
  ·simpa[opt] using h
 rcases h with (((h|h)|h)|h)|h
 ·obtain⟨z,hz,rfl⟩:=z09.mp h;have hz:=yR.mp (ye7.mp hz).1;exact⟨_,z,rfl,by simp[words],hz.1,by omega⟩
 ·exact⟨_,c,ho h,by simp[words],by omega,by omega⟩
 ·exact⟨_,g,ho h,by simp[words],by omega,by omega⟩
 ·exact⟨_,c,ho h,by simp[words],by omega,by omega⟩
 ·exact⟨_,c,ho h,by simp[words],by omega,by omega⟩
theorem fk {x:Str}{z:Int}(hx:x∈words)(h0:-100<=z)(h1:z<=2000000):zT 5000 (pB x z)/\(pB x z).depth<=1:=by
 have hbig:(2000001:Int)<big:=by decide
 have hneg:-big<(-100:Int):=by decide
 exact⟨zT.tuple (n:=2000) (yC.two (oi hx) (zT.int (by omega) (by omega)) (zZ4 _) (zZ4 _)) (by show 2*(2000+2)+3<=5000;decide),by simp[pB,PyData.depth,PyData.depthAll]⟩
theorem zd3 {ds:List PyData}{c g:Int}:(wa ds c g).length<=(g-c).toNat+4:=by
 unfold wa;simp only[z00];have h0:=rg ds c (g-c).toNat;have h1:=wC (isF (zo ds "come" c)) (pB "come" c);have h2:=wC (isF (zo ds "go" g)) (pB "go" g);have h3:=wC (decide (g-c<intOf (zo ds "least" c))) (pB "least" c);have h4:=wC (decide (intOf (zo ds "most" c)<g-c)) (pB "most" c);omega
theorem tZ {ds:List PyData}{c g:Int}(sb:zD c g):zT sizeLine (.list (wa ds c g)):=by
 obtain⟨c0,cg,g1,g2⟩:=sb;refine zT.list (n:=5000) ⟨fun d hd=>?_,fun d hd=>?_⟩ ?_
 ·obtain⟨x,z,rfl,hx,a,b⟩:=kg (by omega) hd;exact (fk hx (by omega) (by omega)).1
 ·obtain⟨x,z,rfl,hx,a,b⟩:=kg (by omega) hd;have:=(fk hx (z:=z) (by omega) (by omega)).2;omega
 ·have h2:(wa ds c g).length*(5000+2)<=18*(5000+2):=yb3 _ (by have:=zd3 (ds:=ds) (c:=c) (g:=g);omega);have h3:18*(5000+2)+2<=sizeLine:=by decide
  omega
theorem aX {ds:List PyData}{c g:Int}(ro:zB ds)(sb:zD c g)(h:vd ds c g=true):0<=coD ds c g/\coD ds c g<=15000000000000:=by
 obtain⟨c0,cg,g1,g2⟩:=sb;have so:=vI h;have f:=(rC ro c).2;have s:=iH (b:=1000000000000) (ns:=yz (prs ds c g) (uL ds c g)) fun n hn=>uU ro so (wO hn);have l:=ur (prs ds c g) (uL ds c g);have l2:(prs ds c g).length<=14:=by unfold prs;rw[zX5,zc];omega
 unfold coD;omega
theorem gG {ds:List PyData}:PyData.eqv (.list ds) (.list [])=ds.isEmpty:=by
 cases ds<;>rfl
def gF (C:Addr)(cs:Cs):List A->(A->Prop)->Prop:=fun as Q=>∃(ds:List PyData) (c g:Int),as=[.dat (ye C cs ds),.dat (.tuple [.int c,.int g])]/\zB ds/\zD c g/\Q (.dat (.bool (vd ds c g)))
def zm1 (C:Addr)(cs:Cs):List A->(A->Prop)->Prop:=fun as Q=>∃(ds:List PyData) (c g:Int),as=[.dat (ye C cs ds),.dat (.tuple [.int c,.int g])]/\zB ds/\zD c g/\Q (.dat (oD (coO ds c g)))
def zi4 (C:Addr)(cs:Cs):List A->(A->Prop)->Prop:=fun as Q=>∃(ds:List PyData) (c g:Int),as=[.dat (ye C cs ds),.dat (.tuple [.int c,.int g])]/\zB ds/\zD c g/\vd ds c g=true/\Q (.dat (.int (coD ds c g)))
section
variable {P:Program}{w:World}{K:PySem.W.Frag}{mg:Str->Option Value}{base:Heap}{cs:Cs}
theorem cz {C:Addr}(CB:Cal P w K mg base "bill" 5 (jD C cs)):Cal P w K mg base "bill" 5 (mD C cs):=by
 refine CB.imp fun as Q h=>?_;obtain⟨ds,c,g,rfl,ro,⟨c0,cg,g1,g2⟩,so,q⟩:=h;refine⟨ds,c,g,xk ds c,fun z=>intOf (zo ds "price" z),rfl,ro.rules,c0,cg,by omega,by omega,fun z z0 z1=>uO ro so z0 z1,?_,(rC ro c).1,fun bs mk=>q bs _ mk⟩;rcases my ro.all c with e|⟨m,f,e,f0,fm,m6⟩
 ·exact .inl e
 ·exact .inr ⟨m,f,e,by omega,m6⟩
theorem zT8 :zm ["book","stay"] ["book","stay"] (zb zI4):=.o
theorem zr1 {f C:Addr}{fd:FuncData}(F:Fun K "can_be_had" "can_be_had" zI4 f fd)(hm:mg "can_be_had"=some (.ref f))(hb:Binds K fd ["book","stay"] [])(CB:Cal P w K mg base "bars" 3 (qm C cs)):Cal P w K mg base "can_be_had" 4 (gF C cs):=by
 refine yM F hm hb zT8 (fun as Q h=>?_) (fun cdv A' outer s H E as Q hr h=>?_)
 ·obtain⟨ds,c,g,rfl,_⟩:=h;rfl
 ·obtain⟨ds,c,g,rfl,ro,sb,q⟩:=h;obtain⟨c0,cg,g1,g2⟩:=id sb;have nd:=zT8.nd;ext;refine⟨ds,c,g,rfl,ro.rules,by omega,by omega,by omega,by omega,?_⟩;ext;exact eqk (tZ sb).shaped rfl (tZ sb).nod rfl (by rw[show PyData.eqv (A.own (wa ds c g)).d (.list [])=vd ds c g from gG];exact q)
theorem zA4 :zm ["book","stay","found"] ["book","stay"] (zb aD):=.o
theorem bG {f C:Addr}{fd:FuncData}(F:Fun K "cost" "cost" aD f fd)(hm:mg "cost"=some (.ref f))(hb:Binds K fd ["book","stay"] [])(CB:Cal P w K mg base "bars" 3 (qm C cs))(CL:Cal P w K mg base "bill" 5 (mD C cs)):Cal P w K mg base "cost" 6 (zi4 C cs):=by
 refine yM F hm hb zA4 (fun as Q h=>?_) (fun cdv A' outer s H E as Q hr h=>?_)
 ·obtain⟨ds,c,g,rfl,_⟩:=h;rfl
 ·obtain⟨ds,c,g,rfl,ro,sb,hh,q⟩:=h;obtain⟨c0,cg,g1,g2⟩:=id sb;have nd:=zA4.nd;have e0:wa ds c g=[]:=List.isEmpty_iff.mp hh;ext;refine⟨ds,c,g,rfl,ro.rules,by omega,by omega,by omega,by omega,?_⟩;rw[e0];ext;refine⟨ds,c,g,rfl,ro,sb,vI hh,fun bs rows mk=>?_⟩;ext;show Q _;rw[zz8 ro (vI hh) mk];exact q
theorem zM7 :zm ["book","stay"] ["book","stay"] (zb zG9):=.o
theorem zp8 {f C:Addr}{fd:FuncData}(F:Fun K "cost_or_none" "cost_or_none" zG9 f fd)(hm:mg "cost_or_none"=some (.ref f))(hb:Binds K fd ["book","stay"] [])(CH:Cal P w K mg base "can_be_had" 4 (gF C cs))(CL:Cal P w K mg base "bill" 5 (mD C cs)):Cal P w K mg base "cost_or_none" 6 (zm1 C cs):=by
 refine yM F hm hb zM7 (fun as Q h=>?_) (fun cdv A' outer s H E as Q hr h=>?_)
 ·obtain⟨ds,c,g,rfl,_⟩:=h;rfl
 ·obtain⟨ds,c,g,rfl,ro,sb,q⟩:=h;have nd:=zM7.nd;ext;refine⟨ds,c,g,rfl,ro,sb,?_⟩;ext;refine vB (fun e=>?_) (fun e=>?_)
  ·ext;refine⟨ds,c,g,rfl,ro,sb,vI e,fun bs rows mk=>?_⟩;ext;show Q _;rw[zz8 ro (vI e) mk];unfold coO at q;rw[if_pos e] at q;exact q
  ·ext;unfold coO at q;rw[if_neg (by rw[e];decide)] at q;exact q
end
noncomputable abbrev zH9 :Stmt:=top 27
noncomputable abbrev sLW :Stmt:=top 28
noncomputable abbrev iX :Stmt:=top 29
noncomputable abbrev iK :Stmt:=top 30
noncomputable abbrev ze0 :Stmt:=top 31
instance (c g:Int):Decidable (zD c g):=by unfold zD;infer_instance
noncomputable def coB (Bs:List (List PyData)):Co:=fun n b e=>if zD b e then coO (Bs.getD n []) b e else none
def zG (Bs:List (List PyData)):Prop:=∀ds∈Bs,zB ds
noncomputable def zL (C:Addr)(cs:Cs)(Bs:List (List PyData)):PyData:=.list (Bs.map (ye C cs))
theorem uk {Bs:List (List PyData)}{n:Nat}{ds:List PyData}{b e:Int}(h:Bs[n]?=some ds)(sb:zD b e):coB Bs n b e=coO ds b e:=by
 unfold coB;rw[if_pos sb,zX9,h];rfl
theorem qF {Bs:List (List PyData)}{n:Nat}{b e x:Int}(bo:zG Bs)(hn:n<Bs.length)(h:coB Bs n b e=some x):zD b e/\vd (Bs.getD n []) b e=true/\x=coD (Bs.getD n []) b e/\0<=x/\x<=15000000000000:=by
 unfold coB at h;split at h
 ·rename_i sb;unfold coO at h;split at h
  ·rename_i hh;cases h;have:=aX (bo _ (by rw[zX9,zX7 hn];exact z38 hn)) sb hh;exact⟨sb,hh,rfl,this.1,this.2⟩
  ·cases h
 ·cases h
noncomputable abbrev arrOf (Bs:List (List PyData))(W:List Way)(day:Int):List (Int×Part):=sH (coB Bs) Bs.length W day
noncomputable abbrev gj (Bs:List (List PyData))(c g:Int):List Way:=yq (coB Bs) Bs.length c (g-c).toNat
noncomputable abbrev bestOf (Bs:List (List PyData))(c g:Int):PyData:=kq (coB Bs) Bs.length c g
def zy4 (C:Addr)(cs:Cs):List A->(A->Prop)->Prop:=fun as Q=>∃(Bs:List (List PyData)) (W:List Way) (day:Int),as=[.dat (zL C cs Bs),.dat (xB (W.map rp)),.dat (.int day)]/\zG Bs/\Bs.length<=8/\W.length<=20/\(∀w∈W,zD w.1 day/\yy W w.1=some w.2)/\Q (.own ((arrOf Bs W day).map vc))
def zN9 (C:Addr)(cs:Cs):List A->(A->Prop)->Prop:=fun as Q=>∃(Bs:List (List PyData)) (c g:Int),as=[.dat (zL C cs Bs),.dat (.tuple [.int c,.int g])]/\zG Bs/\Bs.length<=8/\zD c g/\Q (.dat (xB ((gj Bs c g).map rp)))
def zk2 (W:List Way)(c g:Int):Prop:=W.length<=20/\∃(co:Co) (N:Nat),vq co N c (g-c).toNat W
def gO :List A->(A->Prop)->Prop:=fun as Q=>∃(W:List Way) (c g:Int),as=[.dat (xB (W.map rp)),.dat (.tuple [.int c,.int g])]/\zk2 W c g/\zD c g/\(∃p,yy W g=some p)/\Q (.own ((vC W c (g-c).toNat g).reverse.map xg))
def eE :List A->(A->Prop)->Prop:=fun as Q=>∃(W:List Way) (c g:Int),as=[.dat (xB (W.map rp)),.dat (.tuple [.int c,.int g])]/\zk2 W c g/\zD c g/\Q (.own ((wH W c (g-c).toNat).map .int))
def aQ (C:Addr)(cs:Cs):List A->(A->Prop)->Prop:=fun as Q=>∃(Bs:List (List PyData)) (c g:Int),as=[.dat (zL C cs Bs),.dat (.tuple [.int c,.int g])]/\zG Bs/\Bs.length<=8/\zD c g/\∀S,Q (.deep (bestOf Bs c g) S)
theorem qC {co:Co}{N:Nat}{c:Int}:∀k,(yq co N c k).length<=k+1
 |0=>zY2 _
 |k+1=>by
  have:=qC (co:=co) (N:=N) (c:=c) k;unfold yq lj;split
  ·omega
  ·rw[z00,z87];omega
theorem wL {α:Type}{f:α->PyData}(h:∀x,noL (f x)=true):∀l:List α,uw (l.map f)=true
 |[]=>rfl
 |x::l=>by rw[zZ6,uw,h x,wL h l]<;>rfl
theorem xl {α:Type}{f:α->PyData}(h:∀x,(f x).hasDict=false):∀l:List α,PyData.hasDictAll (l.map f)=false
 |[]=>rfl
 |x::l=>by rw[zZ6,PyData.hasDictAll,h x,xl h l]<;>rfl
theorem isEmpty_map {α β:Type}{f:α->β}{l:List α}:(l.map f).isEmpty=l.isEmpty:=by cases l<;>rfl
section
variable {P:Program}{w:World}{K:PySem.W.Frag}{mg:Str->Option Value}{base:Heap}{cs:Cs}
theorem fc {co:Co}{N:Nat}{day:Int}:∀W:List Way,(sH co N W day).length<=W.length*N
 |[]=>by simp[sH]
 |w::W=>by
  have ih:=fc (co:=co) (N:=N) (day:=day) W;unfold sH at ih ⊢;rw[List.flatMap_cons,z00,zY9,Nat.add_mul];have:(bB co N day w).length<=N:=by
   unfold bB;exact z35 (List.length_filterMap_le _ _) (by simp)
  omega
noncomputable def sC (co:Co)(j:Nat)(day:Int)(w:Way):List (Int×Part):=(List.range j).filterMap fun n=>(co n w.1 day).map fun x=>(w.2.1+x,(w.1,day,n))
theorem zb6 {co:Co}{j:Nat}{day:Int}{w:Way}:(sC co j day w).length<=j:=by
 unfold sC;exact z35 (List.length_filterMap_le _ _) (by simp)
theorem zR4 :zm ["books","ways","day","found","begin","number","book","coins"] ["books","ways","day"] (zb zH9):=.o
theorem zw3 {f C:Addr}{fd:FuncData}(F:Fun K "arrivals" "arrivals" zH9 f fd)(hm:mg "arrivals"=some (.ref f))(hb:Binds K fd ["books","ways","day"] [])(nb:NbT mg)(CN:Cal P w K mg base "cost_or_none" 6 (zm1 C cs)):Cal P w K mg base "arrivals" 7 (zy4 C cs):=by
 refine yM F hm hb zR4 (fun as Q h=>?_) (fun cdv A' outer s H E as Q hr h=>?_)
 ·obtain⟨Bs,W,day,rfl,_⟩:=h;rfl
 ·obtain⟨Bs,W,day,rfl,bo,bl,wl,ws,q⟩:=h;have nd:=zR4.nd;refine xj 3 nd ?_;ext;refine xf (.one 4) (zu6 (zi 1 rfl ⟨_,rfl,?_⟩));refine zX (fun i α=>∃o4 o5 o6 o7:Option A,α=[some (.dat (zL C cs Bs)),some (.dat (xB (W.map rp))),some (.dat (.int day)),some (.own ((arrOf Bs (W.take i) day).map vc)),o4,o5,o6,o7]) ⟨none,none,none,none,rfl⟩ ?_ ?_
  ·rintro i d α hd ⟨o4,o5,o6,o7,rfl⟩;rw[zY3,zY3,Option.map_map,zZ2] at hd;obtain⟨u,hu,rfl⟩:=hd;have um:=z27 hu;have hi:=(zY0.mp hu).1;refine⟨_,rfl,?_⟩;refine xf (.many [5,6]) (mB (by rfl) nb.enumerate (zi 0 rfl ⟨_,rfl,?_⟩));refine zX (fun j α=>∃o5 o6 o7:Option A,α=[some (.dat (zL C cs Bs)),some (.dat (xB (W.map rp))),some (.dat (.int day)),some (.own ((arrOf Bs (W.take i) day++sC (coB Bs) j day u).map vc)),some (.dat (.int u.1)),o5,o6,o7]) ⟨o5,o6,o7,by rw[show sC (coB Bs) 0 day u=[] from rfl,z52]<;>rfl⟩ ?_ ?_
   ·rintro j d α hd ⟨o5,o6,o7,rfl⟩;obtain⟨e,he,rfl⟩:=wW hd;rw[zY3,zZ2] at he;obtain⟨ds,hds,rfl⟩:=he;have hj:=(zY0.mp hds).1;have ej:=uk hds (ws u um).1;have sj:sC (coB Bs) (j+1) day u=sC (coB Bs) j day u++((coB Bs j u.1 day).map fun x=>(u.2.1+x,(u.1,day,j))).toList:=by
     unfold sC;rw[yf4,List.filterMap_append];simp only[yb7,List.filterMap_nil];cases (coB Bs j u.1 day)<;>rfl
    refine⟨_,rfl,?_⟩;ext;refine⟨ds,u.1,day,rfl,bo ds (z27 hds),(ws u um).1,?_⟩;ext;refine yB (fun hc=>?_) (fun hc=>?_)
    ·cases ex:coO ds u.1 day with
     |none=>rw[ex] at hc;cases hc
     |some x=>
      ext;refine tG (k:=.inl u.1) rfl (by rw[xF,(ws u um).2]<;>rfl) ?_;ext;refine⟨?_,?_⟩
      ·have l1:(arrOf Bs (W.take i) day).length<=(W.take i).length*Bs.length:=fc _;have l2:=zb6 (co:=coB Bs) (j:=j) (day:=day) (w:=u);have l3:(W.take i).length*Bs.length<=20*8:=Nat.mul_le_mul (by rw[z04];omega) bl;rw[zX5,z00];omega
      ·ext;have e1:List.map vc (arrOf Bs (W.take i) day++sC (coB Bs) (j+1) day u)=List.map vc (arrOf Bs (W.take i) day++sC (coB Bs) j day u)++[vc (u.2.1+x,(u.1,day,j))]:=by
        rw[sj,ej,ex,<-ya8,z03 (l₂:=(Option.map _ _).toList)];rfl
       exact⟨_,_,_,by rw[e1,Nat.zero_add]<;>rfl⟩
    ·ext;have hn:coO ds u.1 day=none:=by
      cases ex:coO ds u.1 day with
      |none=>rfl
      |some x=>rw[ex] at hc;cases hc
     have e1:sC (coB Bs) (j+1) day u=sC (coB Bs) j day u:=by
      rw[sj,ej,hn];simp only[Option.map_none,Option.toList_none,z52]
     exact⟨_,_,_,by rw[e1]<;>rfl⟩
   ·rintro α ⟨o5,o6,o7,rfl⟩;ext;have:arrOf Bs (W.take (i+1)) day=arrOf Bs (W.take i) day++sC (coB Bs) Bs.length day u:=by
     unfold arrOf sH;rw[z44,hu,List.flatMap_append];simp[bB,sC]
    exact⟨_,_,_,_,by rw[this,wQ,zX5]⟩
  ·rintro α ⟨o4,o5,o6,o7,rfl⟩;rw[zX5,zX5,z56];exact xD 3 rfl q
theorem zP6 :zm ["books","stay","ways","day","found"] ["books","stay"] (zb sLW):=.o
theorem zI3 {f C:Addr}{fd:FuncData}(F:Fun K "least_ways" "least_ways" sLW f fd)(hm:mg "least_ways"=some (.ref f))(hb:Binds K fd ["books","stay"] [])(nb:NbT mg)(CA:Cal P w K mg base "arrivals" 7 (zy4 C cs)):Cal P w K mg base "least_ways" 8 (zN9 C cs):=by
 refine yM F hm hb zP6 (fun as Q h=>?_) (fun cdv A' outer s H E as Q hr h=>?_)
 ·obtain⟨Bs,c,g,rfl,_⟩:=h;rfl
 ·obtain⟨Bs,c,g,rfl,bo,bl,⟨c0,cg,g1,g2⟩,q⟩:=h;have nd:=zP6.nd;refine zq5 2 nd (zc1 ?_);ext;refine⟨.inl c,rfl,?_⟩;refine xf (.one 3) (wM (by rfl) nb.range ?_);ext;refine⟨⟨by omega,by omega,by omega,by omega⟩,?_⟩;refine zX (fun i α=>∃o3 o4:Option A,α=[some (.dat (zL C cs Bs)),some (.dat (.tuple [.int c,.int g])),some (.dic ((yq (coB Bs) Bs.length c i).map rp)),o3,o4]) ⟨none,none,rfl⟩ ?_ ?_
  ·rintro i d α hd ⟨o3,o4,rfl⟩;rw[zY3,zZ2] at hd;obtain⟨z,hz,rfl⟩:=hd;have hi:=(zY0.mp hz).1;rw[zc] at hi;rw[zY hi] at hz;cases hz;have hi':(i:Int)<g-c:=by omega
   have iv:=zu3 (co:=coB Bs) (N:=Bs.length) c i;have wl:=qC (co:=coB Bs) (N:=Bs.length) (c:=c) i;refine⟨_,rfl,?_⟩;refine yu 4 nd (EvL.d (zd9 2 rfl ?_));ext;refine⟨Bs,yq (coB Bs) Bs.length c i,c+1+(i:Int),rfl,bo,bl,by omega,fun u hu=>⟨?_,iv.find hu⟩,?_⟩
   ·have h1:=iv.low u hu;have h2:=iv.top u hu;exact⟨by omega,by omega,by omega,by omega⟩
   refine⟨_,rfl,wL (fun _=>rfl) _,?_⟩;ext;have nx:yq (coB Bs) Bs.length c (i+1)=lj (coB Bs) Bs.length (yq (coB Bs) Bs.length c i) (c+1+(i:Int)):=rfl;unfold lj at nx;rw[show (!(List.map vc (arrOf Bs (yq (coB Bs) Bs.length c i) (c+1+(i:Int)))).isEmpty)=!(arrOf Bs (yq (coB Bs) Bs.length c i) (c+1+(i:Int))).isEmpty by rw[isEmpty_map]];refine yB (fun hc=>?_) (fun hc=>?_)
   ·have ne:arrOf Bs (yq (coB Bs) Bs.length c i) (c+1+(i:Int))≠[]:=fun e=>by rw[e] at hc;cases hc
    rw[if_neg ne] at nx;refine zw8 2 hr.one rfl (zo0 rfl hr.few (by rfl) nb.min ?_);ext;refine⟨fun e=>ne (List.map_eq_nil_iff.mp e),xl (fun _=>rfl) _,zf4 _,fun d hd=>?_,?_⟩
    ·obtain⟨p,_,rfl⟩:=z09.mp hd;exact⟨rfl,by simp[vc,xg,PyData.depth,PyData.depthAll]⟩
    rw[zp1 ne];ext;refine⟨.inl (c+1+(i:Int)),rfl,by rw[zX5];omega,?_⟩;ext;have fn:yy (yq (coB Bs) Bs.length c i) (c+1+(i:Int))=none:=by
     cases e:yy (yq (coB Bs) Bs.length c i) (c+1+(i:Int)) with
     |none=>rfl
     |some p=>
      have:=iv.top _ (find_some (x:=p.1) (l:=p.2) e);have:c+1+(i:Int)<=c+i:=this;omega
    exact⟨_,_,by rw[nx,<-zl8 fn]<;>rfl⟩
   ·have e:arrOf Bs (yq (coB Bs) Bs.length c i) (c+1+(i:Int))=[]:=by
     cases e:arrOf Bs (yq (coB Bs) Bs.length c i) (c+1+(i:Int)) with
     |nil=>rfl
     |cons a l=>rw[e] at hc;cases hc
    rw[if_pos e] at nx;ext;exact⟨_,_,by rw[nx]<;>rfl⟩
  ·rintro α ⟨o3,o4,rfl⟩;rw[zX5,zc,show (g+1-(c+1)).toNat=(g-c).toNat by omega];refine zC9 2 rfl ?_;ext;exact q
theorem zQ8 :zm ["ways","stay","backwards","day","part"] ["ways","stay"] (zb iX):=.o
theorem zu1 {f:Addr}{fd:FuncData}(F:Fun K "cut_of" "cut_of" iX f fd)(hm:mg "cut_of"=some (.ref f))(hb:Binds K fd ["ways","stay"] [])(nb:NbT mg):Cal P w K mg base "cut_of" 1 gO:=by
 refine yM F hm hb zQ8 (fun as Q h=>?_) (fun cdv A' outer s H E as Q hr h=>?_)
 ·obtain⟨W,c,g,rfl,_⟩:=h;rfl
 ·obtain⟨W,c,g,rfl,⟨wl,co,N,iv⟩,⟨c0,cg,g1,g2⟩,⟨p0,hp0⟩,q⟩:=h;have nd:=zQ8.nd;refine xj 2 nd ?_;ext;generalize hn:(g-c).toNat=n at iv q;refine bF z60 (fun m α=>∃(o4:Option A) (d:Int) (p:Int×Option Part) (acc:List Part),α=[some (.dat (xB (W.map rp))),some (.dat (.tuple [.int c,.int g])),some (.own (acc.map xg)),some (.dat (.int d)),o4]/\yy W d=some p/\d-c<=m/\acc.length+m<=n/\vC W c n g=acc++vC W c m d) n ⟨none,g,p0,[],rfl,hp0,by omega,by simp,rfl⟩ ?_;rintro m α ⟨o4,d,p,acc,rfl,fd,dm,al,eb⟩;have wm:=find_some (x:=p.1) (l:=p.2) fd;have lo:c<=d:=iv.low _ wm;ext;refine vB (fun hc=>?_) (fun hc=>?_)
  ·have hdc:d≠c:=by simpa using hc
   obtain⟨m,rfl⟩:∃k,m=k+1:=⟨m-1,by omega⟩;rcases iv.step _ wm with e|⟨u,hu,k,y,h1,h2,h3,e⟩
   ·injection e with e _;exact absurd e hdc
   have h1:u.1<d:=h1;have e:(d,p.1,p.2)=(d,u.2.1+y,some (u.1,d,k)):=e;have ep:p=(u.2.1+y,some (u.1,d,k)):=by injection e
   ext;refine tG (k:=.inl d) rfl (by rw[xF,fd]<;>rfl) ?_;rw[ep];ext;refine⟨by rw[zX5];omega,?_⟩;ext;refine⟨m,by omega,_,u.1,u.2,acc++[(u.1,d,k)],by rw[z03]<;>rfl,iv.find hu,by omega,by rw[z00,z87];omega,?_⟩;rw[eb,vC,if_neg hdc,fd,ep,ya8];rfl
  ·have hdc:d=c:=by simpa using hc
   subst hdc;refine tP (gB 2 rfl (hV rfl (by rfl) nb.list (by rfl) nb.reversed ?_));ext;have:vC W d m d=[]:=by cases m<;>simp[vC]
   rw[this,z52] at eb;rw[eb] at q;rw[<-List.map_reverse];exact⟨wL (fun _=>rfl) _,q⟩
theorem zM4 :zm ["ways","stay","highest","heights"] ["ways","stay"] (zb iK):=.o
theorem dE {f:Addr}{fd:FuncData}(F:Fun K "paper_of" "paper_of" iK f fd)(hm:mg "paper_of"=some (.ref f))(hb:Binds K fd ["ways","stay"] [])(nb:NbT mg):Cal P w K mg base "paper_of" 1 eE:=by
 refine yM F hm hb zM4 (fun as Q h=>?_) (fun cdv A' outer s H E as Q hr h=>?_)
 ·obtain⟨W,c,g,rfl,_⟩:=h;rfl
 ·obtain⟨W,c,g,rfl,⟨wl,co,N,iv⟩,⟨c0,cg,g1,g2⟩,q⟩:=h;have nd:=zM4.nd;refine yu 2 nd (zw4 rfl (by rfl) nb.max (EvL.d (yX ["way"] [none] (.one 0) (zs9 ?_))));ext;refine⟨by rw[zX5,zX5];omega,?_⟩;rw[z20];refine zR (fun u=>.int u.2.1) (fun u hu=>⟨_,rfl,fun _ _ _ _ _ k=>?_⟩) ?_
  ·ext;exact k
  refine⟨qH W,by unfold qH;rw[z20]<;>rfl,fun e=>?_,?_⟩
  ·obtain⟨r,hr,_⟩:=iv.first;rw[hr] at e;cases e
  generalize hn:(g-c).toNat=n at iv q;refine zb2 3 ["day","ways","highest"] [none,some 0,some 2] (.one 0) (wM (by rfl) nb.range ?_);ext;refine⟨⟨by omega,by omega,by omega,by omega⟩,by rw[zX5,zc];omega,?_⟩;rw[show (g+1-c).toNat=n+1 by omega];refine zR (fun d=>.int (hW W d)) (fun d hd=>⟨_,rfl,fun _ _ _ _ _ k=>?_⟩) ?_
  ·ext;refine lP (k:=.inl d) rfl ?_;rw[xF];cases e:yy W d with
   |none=>
    ext;rw[rK e] at k;exact k
   |some p=>
    ext;refine tG (k:=.inl d) rfl (by rw[xF,e]<;>rfl) ?_;ext;rw[ve (x:=p.1) (l:=p.2) e] at k;exact k
  refine jr 3 rfl ?_;refine tP (yX ["lower","higher"] [none,none] (.many [0,1]) (zf2 (by rfl) nb.zip ?_));ext;have e0:(zq c (n+1)).map (fun d=>PyData.int (hW W d))=((zq c (n+1)).map (hW W)).map PyData.int:=by rw[z20]<;>rfl
  rw[z25,e0,bQ];refine⟨by rw[zX5,zc];omega,?_⟩;refine zR (fun d=>.int (hW W (d+1)-hW W d)) (fun d hd=>⟨_,rfl,fun _ _ _ _ _ k=>?_⟩) ?_
  ·ext;exact k
  ·unfold wH at q;rw[z20] at q;exact q
theorem zP7 :zm ["books","stay","ways"] ["books","stay"] (zb ze0):=.o
theorem zj1 {f C:Addr}{fd:FuncData}(F:Fun K "best" "best" ze0 f fd)(hm:mg "best"=some (.ref f))(hb:Binds K fd ["books","stay"] [])(nb:NbT mg)(CL:Cal P w K mg base "least_ways" 8 (zN9 C cs))(CC:Cal P w K mg base "cut_of" 1 gO)(CP:Cal P w K mg base "paper_of" 1 eE):Cal P w K mg base "best" 9 (aQ C cs):=by
 refine yM F hm hb zP7 (fun as Q h=>?_) (fun cdv A' outer s H E as Q hr h=>?_)
 ·obtain⟨Bs,c,g,rfl,_⟩:=h;rfl
 ·obtain⟨Bs,c,g,rfl,bo,bl,sb,q⟩:=h;obtain⟨c0,cg,g1,g2⟩:=id sb;have nd:=zP7.nd;have iv:=zu3 (co:=coB Bs) (N:=Bs.length) c (g-c).toNat;have wl:=qC (co:=coB Bs) (N:=Bs.length) (c:=c) (g-c).toNat;have wb:zk2 (gj Bs c g) c g:=⟨by show (yq _ _ _ _).length<=20;omega,_,_,iv⟩;ext;refine⟨Bs,c,g,rfl,bo,bl,sb,?_⟩;ext;refine lP (k:=.inl g) rfl ?_;rw[xF];unfold bestOf kq at q;cases e:yy (gj Bs c g) g with
  |none=>
   rw[e] at q;refine mI rfl ?_;refine gN (bN (wV (iG (yh ⟨rfl,?_⟩))));refine wV (mQ (zj7 rfl (by rfl) nb.list (zi 2 rfl ⟨_,rfl,?_⟩)));rw[z20];refine⟨wL (fun _=>rfl) _,fU ⟨zZ8 rfl,?_⟩⟩;exact q
  |some p=>
   rw[e] at q;refine uj rfl (zA ?_);refine gN (bN (wV (iG (yh ⟨rfl,?_⟩))));refine wV (iG ?_);ext;refine tG (k:=.inl g) rfl (by rw[xF,e]<;>rfl) ?_;ext;refine⟨rfl,wV (mQ ?_)⟩;ext;refine⟨_,c,g,rfl,wb,sb,⟨p,e⟩,_,rfl,wL (fun _=>rfl) _,wV (mQ ?_)⟩;ext;refine⟨_,c,g,rfl,wb,sb,_,rfl,wL (fun _=>rfl) _,fU ⟨zZ8 rfl,?_⟩⟩;exact q
end
structure rM (Bs:List (List PyData))(c g x:Int)(ps:List Part)(pp:List Int):Prop where
 eq:bestOf Bs c g=.tuple [.str "had",.int x,.list (ps.map xg),.list (pp.map .int)]
 cut:Cut (coB Bs) Bs.length c g x ps
 least:∀y qs,Cut (coB Bs) Bs.length c g y qs->x<=y
 plen:pp.length=(g-c).toNat
 psum:pp.sum=x
 paper:∀n b e y,n<Bs.length->c<=b->b<e->e<=g->coB Bs n b e=some y->((pp.drop (b-c).toNat).take (e-b).toNat).sum<=y
 pbd:∀n∈pp,-300000000000000<=n/\n<=300000000000000
theorem zC5 {co:Co}{N:Nat}{a b z:Int}{ps:List Part}(h:Cut co N a b z ps)(h0:∀n b e x,n<N->co n b e=some x->0<=x/\x<=15000000000000):0<=z/\z<=15000000000000*(b-a):=by
 induction h with
 |nil a=>omega
 |@cons a e b x z n ps h1 h2 h3 h ih=>
  have:=h0 _ _ _ _ h2 h3;omega
theorem zz7 {co:Co}{N:Nat}{c:Int}{n:Nat}{W:List Way}(iv:vq co N c n W)(hn:n<=14)(h0:∀n b e x,n<N->co n b e=some x->0<=x/\x<=15000000000000)(d:Int):0<=hW W d/\hW W d<=210000000000000:=by
 have one:∀w∈W,0<=w.2.1/\w.2.1<=210000000000000:=fun w hw=>by
  have t:=iv.top w hw;have l:=iv.low w hw;have:=zC5 (iv.back n (d:=w.1) (x:=w.2.1) (l:=w.2.2) hw (by omega)) h0;omega
 cases e:yy W d with
 |some p=>
  rw[ve (x:=p.1) (l:=p.2) e];exact one _ (find_some (x:=p.1) (l:=p.2) e)
 |none=>
  rw[rK e];have:tI (qH W)∈qH W:=zn1 fun z=>by
   obtain⟨r,hr,_⟩:=iv.first;rw[hr] at z;cases z
  unfold qH at this;obtain⟨w,hw,ew⟩:=z09.mp this;have:=one w hw;unfold zx1 qH;rw[<-ew];exact this
structure rH (Bs:List (List PyData))(c g:Int)(ds:List Int):Prop where
 eq:bestOf Bs c g=.tuple [.str "off",.list (ds.map .int)]
 none:∀y qs,¬Cut (coB Bs) Bs.length c g y qs
 first:∃r,ds=c::r
 sort:ds.Pairwise (·<·)
 rng:∀d∈ds,c<=d/\d<g
 shut:∀d∈ds,∀e n y,d<e->e<=g->n<Bs.length->coB Bs n d e=some y->e∈ds
theorem uD {Bs:List (List PyData)}{c g:Int}(bo:zG Bs)(sb:zD c g):(∃x ps pp,rM Bs c g x ps pp)\/∃ds,rH Bs c g ds:=by
 obtain⟨c0,cg,g1,g2⟩:=sb;obtain⟨n,hn⟩:∃n:Nat,g=c+n:=⟨(g-c).toNat,by omega⟩;subst hn;have en:(c+(n:Int)-c).toNat=n:=by omega
 have iv:=zu3 (co:=coB Bs) (N:=Bs.length) c n;have h0:∀m b e x,m<Bs.length->coB Bs m b e=some x->0<=x:=fun m b e x hm h=>(qF bo hm h).2.2.2.1;have eq:bestOf Bs c (c+n)=_:=rfl;unfold bestOf kq at eq;rw[en] at eq;cases e:yy (yq (coB Bs) Bs.length c n) (c+n) with
 |none=>
  right;rw[e] at eq;refine⟨(yq (coB Bs) Bs.length c n).map (·.1),?_,fun y qs=>iv.off e,?_,iv.sort,fun d hd=>?_,fun d hd k m y h1 h2 h3 h4=>?_⟩
  ·unfold bestOf kq;rw[en,e,z20];rfl
  ·obtain⟨r,hr,_⟩:=iv.first;rw[hr];exact⟨_,rfl⟩
  ·obtain⟨u,hu,rfl⟩:=z09.mp hd;have h1:=iv.low u hu;have h2:=iv.top u hu;have h3:=find_none e u hu;exact⟨h1,by omega⟩
  ·obtain⟨u,hu,rfl⟩:=z09.mp hd;obtain⟨v,hv,e1,_⟩:=iv.shut u hu k m y h1 h2 h3 h4;exact z09.mpr ⟨v,hv,e1⟩
 |some p=>
  left;have hd:=iv.had (x:=p.1) (l:=p.2) e;refine⟨p.1,(vC (yq (coB Bs) Bs.length c n) c n (c+n)).reverse,wH (yq (coB Bs) Bs.length c n) c n,?_,iv.back n (find_some (x:=p.1) (l:=p.2) e) (by omega),hd.2,?_,?_,fun m b k y h1 h2 h3 h4 h5=>?_,?_⟩
  ·unfold bestOf kq;rw[en,e]
  ·rw[cj,en]
  ·rw[dP,ve (x:=p.1) (l:=p.2) e,ve iv.zero];omega
  rotate_left
  ·intro n' hn';unfold wH at hn';obtain⟨d,_,rfl⟩:=z09.mp hn';have b0:∀m b e x,m<Bs.length->coB Bs m b e=some x->0<=x/\x<=15000000000000:=fun m b e x hm h=>(qF bo hm h).2.2.2;have h1:=zz7 iv (by omega) b0 (d+1);have h2:=zz7 iv (by omega) b0 d;omega
  ·rw[dR (by omega),show c+((b-c).toNat:Int)=b by omega,show b+((k-b).toNat:Int)=k by omega];cases eb:yy (yq (coB Bs) Bs.length c n) b with
   |none=>
    have:=zO1 (yq (coB Bs) Bs.length c n) k;rw[rK eb];have:=h0 _ _ _ _ h1 h5;omega
   |some q=>
    obtain⟨v,hv,e1,e2⟩:=iv.shut _ (find_some (x:=q.1) (l:=q.2) eb) k m y h3 h4 h1 h5;rw[ve (x:=q.1) (l:=q.2) eb,ve (x:=v.2.1) (l:=v.2.2) (iv.find (by rw[<-e1];exact hv))];exact Int.sub_left_le_of_le_add e2
theorem zh2 {co:Co}{N:Nat}{a b z:Int}{p:Part}{ps:List Part}(h:Cut co N a b z (p::ps)):∃x,p.1=a/\a<p.2.1/\p.2.2<N/\co p.2.2 a p.2.1=some x/\Cut co N p.2.1 b (z-x) ps:=by
 cases h with
 |@cons _ e _ x y n _ h1 h2 h3 h=>exact⟨x,rfl,h1,h2,h3,by rw[show x+y-x=y by omega];exact h⟩
theorem jv {Bs:List (List PyData)}{n:Nat}(hn:n<Bs.length):∃ds,Bs[n]?=some ds/\Bs.getD n []=ds:=⟨Bs[n],zX7 hn,by rw[zX9,zX7 hn]<;>rfl⟩
noncomputable abbrev nu :Stmt:=top 75
def qA (C:Addr)(cs:Cs):List A->(A->Prop)->Prop:=fun as Q=>∃bs dy:Int,as=[.tape,.dat (.int bs),.dat (.int dy)]/\Bd bs dy/\∀Bs,zG Bs->1<=Bs.length->Bs.length<=4->(∀ds∈Bs,ds.length<=10)->(∀ds∈Bs,yw bs (bs+dy+5) ds)->Q (.own (Bs.map (ye C cs)))
section
variable {P:Program}{w:World}{K:PySem.W.Frag}{mg:Str->Option Value}{base:Heap}{cs:Cs}
theorem zR2 :zm ["_law_tape_here","_law_base","_law_days","_law_found","_law_k"] ["_law_tape_here","_law_base","_law_days"] (zb nu):=.o
theorem ir {f C:Addr}{fd:FuncData}(F:Fun K "_law_books" "_law_books" nu f fd)(hm:mg "_law_books"=some (.ref f))(hb:Binds K fd ["_law_tape_here","_law_base","_law_days"] [])(nb:NbT mg)(CD:Cal P w K mg base "_law_draw" 1 xZ)(CR:Cal P w K mg base "_law_rules" 5 rT)(CK:cA P w K mg base "Book" 9 [] (qw C cs)):Cal P w K mg base "_law_books" 11 (qA C cs):=by
 refine yM F hm hb zR2 (fun as Q h=>?_) (fun cdv A' outer s H E as Q hr h=>?_)
 ·obtain⟨bs,dy,rfl,_⟩:=h;rfl
 ·obtain⟨bs,dy,rfl,bd,q⟩:=h;have nd:=zR2.nd;refine xj 3 nd ?_;ext;refine xf (.one 4) (xS (by rfl) nb.range ?_);ext;rename_i v h0 h1;refine⟨by omega,by omega,?_⟩;refine zX (fun i α=>∃(o4:Option A) (Bs:List (List PyData)),α=[some .tape,some (.dat (.int bs)),some (.dat (.int dy)),some (.own (Bs.map (ye C cs))),o4]/\(∀ds∈Bs,yw bs (bs+dy+5) ds)/\Bs.length=i/\∀ds∈Bs,ds.length<=10) ⟨none,[],rfl,fun _ h=>by simp at h,rfl,fun _ h=>by simp at h⟩ ?_ ?_
  ·rintro i d α hd ⟨o4,Bs,rfl,bo,bl,dl⟩;have hi:=(zY0.mp hd).1;rw[zX5,zc] at hi;refine⟨_,rfl,?_⟩;ext;refine⟨bs,dy,rfl,⟨bd.1,by have:=bd.2.1;omega,bd.2.2.1,by have:=bd.2.2.2;omega⟩,fun ds ro ld=>?_⟩;ext;refine zz1 (fun d=>∃b:Int,d=.int b) rfl (by assumption) (by assumption) ⟨⟨_,rfl⟩,⟨_,rfl⟩,trivial⟩ ?_;rintro _ ⟨b,rfl⟩;ext;have rc:yw bs (bs+dy+5) (L2.cutD ds none (some b)):=fun d hd=>ro d (zr3 hd);have lc:=z35 (zu5 (ds:=ds) (lo:=none) (hi:=some b)) ld;refine⟨_,.inl rfl,(rc.ok bd.1 (by have:=bd.2.1;have:=bd.2.2.2;omega)).rules,by omega,?_⟩;ext;refine⟨by rw[zX5];omega,?_⟩;ext;refine⟨_,Bs++[L2.cutD ds none (some b)],by rw[z03]<;>rfl,fun x hx=>?_,by rw[z00,bl]<;>rfl,fun x hx=>?_⟩
   ·rcases z36.mp hx with hx|hx
    ·exact bo x hx
    ·rw[zZ0.mp hx];exact rc
   ·rcases z36.mp hx with hx|hx
    ·exact dl x hx
    ·rw[zZ0.mp hx];exact lc
  ·rintro α ⟨o4,Bs,rfl,bo,bl,dl⟩;rw[zX5,zc] at bl;exact xD 3 rfl (q Bs (fun ds hd=>(bo ds hd).ok bd.1 (by have:=bd.2.1;have:=bd.2.2.2;omega)) (by omega) (by omega) dl bo)
def zt5 (C:Addr)(cs:Cs):List A->(A->Prop)->Prop:=fun as Q=>∃bs dy:Int,as=[.tape,.dat (.int bs),.dat (.int dy)]/\Bd bs dy/\∀Bs,zG Bs->1<=Bs.length->Bs.length<=4->(∀ds∈Bs,ds.length<=10)->Q (.own (Bs.map (ye C cs)))
theorem zj3 {C:Addr}{x:Str}{k:Nat}(CB:Cal P w K mg base x k (qA C cs)):Cal P w K mg base x k (zt5 C cs):=CB.imp fun as Q h=>by
 obtain⟨bs,dy,rfl,bd,q⟩:=h;exact⟨bs,dy,rfl,bd,fun Bs h1 h2 h3 h4 _=>q Bs h1 h2 h3 h4⟩
end
noncomputable abbrev zf6 :Stmt:=top 74
def zc0 :List A->(A->Prop)->Prop:=fun as Q=>∃bs dy:Int,as=[.tape,.dat (.int bs),.dat (.int dy)]/\Bd bs dy/\∀c g:Int,bs<=c->c<g->g<=bs+dy->Q (.dat (.tuple [.int c,.int g]))
section
variable {P:Program}{w:World}{K:PySem.W.Frag}{mg:Str->Option Value}{base:Heap}
theorem zB5 :zm ["_law_tape_here","_law_base","_law_days","_law_many","_law_come"] ["_law_tape_here","_law_base","_law_days"] (zb zf6):=.o
theorem zk8 {f:Addr}{fd:FuncData}(F:Fun K "_law_stay" "_law_stay" zf6 f fd)(hm:mg "_law_stay"=some (.ref f))(hb:Binds K fd ["_law_tape_here","_law_base","_law_days"] [])(CD:Cal P w K mg base "_law_draw" 1 xZ):Cal P w K mg base "_law_stay" 2 zc0:=by
 refine yM F hm hb zB5 (fun as Q h=>?_) (fun cdv A' outer s H E as Q hr h=>?_)
 ·obtain⟨bs,dy,rfl,_⟩:=h;rfl
 ·obtain⟨bs,dy,rfl,⟨b1,b2,b3,b4⟩,q⟩:=h;have hbig:(1000001:Int)<big:=by decide
  refine yu 3 zB5.nd (xY (yt (yH CD hr (by rfl) (yi 0 rfl (zg (zi 2 rfl (zt (⟨_,rfl,by omega,by omega,fun v1 h1 g1=>⟨_,_,rfl,rfl,?_⟩⟩))))))));refine yu 4 zB5.nd (xY (zi 1 rfl (yH CD hr (by rfl) (yi 0 rfl (zg (xY (ny (zi 2 rfl (zi 3 rfl (⟨_,_,rfl,rfl,yt (⟨_,_,rfl,rfl,zt (⟨_,rfl,by omega,by omega,fun v2 h2 g2=>⟨_,_,rfl,rfl,?_⟩⟩)⟩)⟩))))))))));refine wJ (wo (zg (zi 4 rfl (zg (xY (zi 4 rfl (zi 3 rfl (⟨_,_,rfl,rfl,zt (⟨_,rfl,zZ8 rfl,?_⟩)⟩))))))));exact q _ _ (by omega) (by omega) (by omega)
end
noncomputable abbrev mj :Stmt:=top 55
noncomputable abbrev gf :Stmt:=top 56
abbrev P3 :=Int×Int×Int
noncomputable def pD (p:P3):PyData:=.tuple [.int p.1,.int p.2.1,.int p.2.2]
theorem qq (ps:List P3):(PyData.list (ps.map pD)).hasDict=false:=by
 rw[PyData.hasDict];exact xl (fun _=>rfl) ps
theorem uo (zs:List Int):(PyData.list (zs.map .int)).hasDict=false:=by
 rw[PyData.hasDict];exact xl (fun _=>rfl) zs
noncomputable def tD (Bs:List (List PyData))(c g:Int)(p:P3):Bool:=decide (c<=p.1)&&(decide (p.1<p.2.1)&&(decide (p.2.1<=g)&&(decide (0<=p.2.2)&&(decide (p.2.2<Bs.length)&&vd (Bs.getD p.2.2.toNat []) p.1 p.2.1))))
noncomputable def uE (Bs:List (List PyData))(c g:Int):Int->List P3->Bool
 |day,[]=>decide (day=g)
 |day,p::ps=>tD Bs c g p&&(decide (p.1=day)&&uE Bs c g p.2.1 ps)
def ff :List A->(A->Prop)->Prop:=fun as Q=>∃z:Int,as=[.dat (.int z)]/\Q (.dat (.bool true))
def zh1 (C:Addr)(cs:Cs):List A->(A->Prop)->Prop:=fun as Q=>∃(Bs:List (List PyData)) (c g:Int) (p:P3),as=[.dat (zL C cs Bs),.dat (.tuple [.int c,.int g]),.dat (pD p)]/\zG Bs/\zD c g/\Q (.dat (.bool (tD Bs c g p)))
def eG (C:Addr)(cs:Cs):List A->(A->Prop)->Prop:=fun as Q=>∃(Bs:List (List PyData)) (c g:Int) (ps:List P3),as=[.dat (zL C cs Bs),.dat (.tuple [.int c,.int g]),.dat (.list (ps.map pD))]/\zG Bs/\zD c g/\Q (.dat (.bool (uE Bs c g c ps)))
theorem cn {ι:Type}(l:List ι):(l.map fun _=>true).all id=true:=by simp
theorem oe {ι:Type}(l:List ι):l.map (fun _=>PyData.bool true)=(l.map fun _=>true).map .bool:=by rw[z20]<;>rfl
section
variable {P:Program}{w:World}{K:PySem.W.Frag}{mg:Str->Option Value}{base:Heap}{cs:Cs}
theorem zw7 {f:Addr}{fd:FuncData}(F:Fun K "is_whole" "is_whole" qM f fd)(hm:mg "is_whole"=some (.ref f))(hb:Binds K fd ["thing"] [])(nb:NbT mg):Cal P w K mg base "is_whole" 1 ff:=by
 refine yM F hm hb mZ (fun as Q h=>?_) (fun cdv A' outer s H E as Q hr h=>?_)
 ·obtain⟨z,rfl,_⟩:=h;rfl
 ·obtain⟨z,rfl,q⟩:=h;have nd:=mZ.nd;ext;exact q
theorem zS9 :zm ["books","stay","thing"] ["books","stay","thing"] (zb mj):=.o
theorem zl7 {f C:Addr}{fd:FuncData}(F:Fun K "is_part" "is_part" mj f fd)(hm:mg "is_part"=some (.ref f))(hb:Binds K fd ["books","stay","thing"] [])(nb:NbT mg)(CW:Cal P w K mg base "is_whole" 1 ff)(CH:Cal P w K mg base "can_be_had" 4 (gF C cs)):Cal P w K mg base "is_part" 5 (zh1 C cs):=by
 refine yM F hm hb zS9 (fun as Q h=>?_) (fun cdv A' outer s H E as Q hr h=>?_)
 ·obtain⟨Bs,c,g,p,rfl,_⟩:=h;rfl
 ·obtain⟨Bs,c,g,⟨b,e,n⟩,rfl,bo,⟨c0,cg,g1,g2⟩,q⟩:=h;have nd:=zS9.nd;refine yr (fun α=>α=[some (.dat (zL C cs Bs)),some (.dat (.tuple [.int c,.int g])),some (.dat (.tuple [.int b,.int e,.int n]))]) ?_ ?_
  ·ext;rfl
  rintro α rfl;refine yr (fun α=>α=[some (.dat (zL C cs Bs)),some (.dat (.tuple [.int c,.int g])),some (.dat (.tuple [.int b,.int e,.int n]))]) ?_ ?_
  ·refine yQ (sL (qJ (nF rfl (by rfl) nb.all (EvL.d (yX ["number"] [none] (.one 0) (zL1 (zi 2 rfl ⟨_,rfl,zZ8 rfl,?_⟩)))))));refine zR (g:=PyData.int) (l:=[b,e,n]) (fun _=>.bool true) (fun z hz=>⟨_,rfl,fun _ _ _ _ _ k=>?_⟩) ?_
   ·ext;exact k
   rw[z25,oe];ext;rfl
  rintro α rfl;unfold tD at q;refine yr (fun α=>α=[some (.dat (zL C cs Bs)),some (.dat (.tuple [.int c,.int g])),some (.dat (.tuple [.int b,.int e,.int n]))]/\c<=b/\b<e/\e<=g) ?_ ?_
  ·refine yQ (sL (cH ?_));ext;refine vB (fun h1=>?_) (fun h1=>?_)
   ·ext;refine vB (fun h2=>?_) (fun h2=>?_)
    ·ext;refine yB (fun h3=>?_) (fun h3=>?_)
     ·ext;have h3:decide (e<=g)=false:=by simpa using h3
      simp only[h1,h2,h3,z28,z26] at q;exact q
     ·ext;have h3:e<=g:=by simpa using h3
      exact⟨rfl,z43 h1,z43 h2,h3⟩
    ·ext;simp only[h1,h2,z28,z26] at q;exact q
   ·ext;simp only[h1,z26] at q;exact q
  rintro α ⟨rfl,h1,h2,h3⟩;simp only[z33 h1,z33 h2,z33 h3,z28] at q;ext;refine vB (fun h4=>?_) (fun h4=>?_)
  ·ext;rw[zX5];refine vB (fun h5=>?_) (fun h5=>?_)
   ·have h4':=z43 h4;have h5':=z43 h5;obtain⟨m,rfl⟩:∃m:Nat,n=m:=⟨n.toNat,by omega⟩;have hm':m<Bs.length:=by omega
    obtain⟨ds,hn,en⟩:=jv hm';ext;refine ixk rfl rfl (yF (j:=m) (by rw[zY3,hn]<;>rfl)) ?_;ext;refine⟨ds,b,e,rfl,bo ds (z27 hn),⟨by omega,by omega,by omega,by omega⟩,?_⟩;rw[z42,en] at q;simp only[h4,h5,z28] at q;exact q
   ·ext;simp only[h4,h5,z28,z26] at q;exact q
  ·ext;simp only[h4,z26] at q;exact q
theorem zQ7 :zm ["books","stay","thing","day","part"] ["books","stay","thing"] (zb gf):=.o
theorem cx {f C:Addr}{fd:FuncData}(F:Fun K "is_cut" "is_cut" gf f fd)(hm:mg "is_cut"=some (.ref f))(hb:Binds K fd ["books","stay","thing"] [])(nb:NbT mg)(CP:Cal P w K mg base "is_part" 5 (zh1 C cs)):Cal P w K mg base "is_cut" 6 (eG C cs):=by
 refine yM F hm hb zQ7 (fun as Q h=>?_) (fun cdv A' outer s H E as Q hr h=>?_)
 ·obtain⟨Bs,c,g,ps,rfl,_⟩:=h;rfl
 ·obtain⟨Bs,c,g,ps,rfl,bo,sb,q⟩:=h;have nd:=zQ7.nd;refine yr (fun α=>α=[some (.dat (zL C cs Bs)),some (.dat (.tuple [.int c,.int g])),some (.dat (.list (ps.map pD))),none,none]) ?_ ?_
  ·ext;refine⟨_,qq _,rfl,?_⟩;ext;rfl
  rintro α rfl;ext;refine xf (.one 4) (yj ?_);ext;refine zX (fun i α=>∃(o4:Option A) (day:Int),α=[some (.dat (zL C cs Bs)),some (.dat (.tuple [.int c,.int g])),some (.dat (.list (ps.map pD))),some (.dat (.int day)),o4]/\uE Bs c g c ps=uE Bs c g day (ps.drop i)) ⟨none,c,rfl,rfl⟩ ?_ ?_
  ·rintro i d α hd ⟨o4,day,rfl,ec⟩;rw[zY3,zZ2] at hd;obtain⟨p,hp,rfl⟩:=hd;have hi:=(zY0.mp hp).1;rw[z74 hi,show ps[i]=p from (zY0.mp hp).2,uE] at ec;refine⟨_,rfl,?_⟩;ext;refine⟨Bs,c,g,p,rfl,bo,sb,?_⟩;ext;refine vB (fun h1=>?_) (fun h1=>?_)
   ·have h1:tD Bs c g p=false:=by simpa using h1
    rw[h1,z26] at ec;rw[ec] at q;ext;exact q
   ·have h1:tD Bs c g p=true:=by simpa using h1
    rw[h1,z28] at ec;unfold pD;ext;refine yB (fun h2=>?_) (fun h2=>?_)
    ·have h2:decide (p.1=day)=false:=by simpa using h2
     rw[h2,z26] at ec;rw[ec] at q;ext;exact q
    ·have h2:decide (p.1=day)=true:=by simpa using h2
     rw[h2,z28] at ec;ext;exact⟨_,_,rfl,ec⟩
  ·rintro α ⟨o4,day,rfl,ec⟩;rw[zX5,yb1,uE] at ec;rw[ec] at q;ext;exact q
end
noncomputable abbrev zh7 :Stmt:=top 57
noncomputable abbrev zE7 :Stmt:=top 58
noncomputable abbrev zF7 :Stmt:=top 59
noncomputable abbrev zG7 :Stmt:=top 60
noncomputable abbrev js :Stmt:=top 61
noncomputable def tr (p:Prop):Bool:=@decide p (Classical.propDecidable p)
theorem mr {p:Prop}(h:p):tr p=true:=by unfold tr;exact @decide_eq_true p (Classical.propDecidable p) h
theorem pS {p:Prop}(h:¬p):tr p=false:=by unfold tr;exact @decide_eq_false p (Classical.propDecidable p) h
theorem vJ {p:Prop}:tr p=true↔p:=by unfold tr;exact @decide_eq_true_iff p (Classical.propDecidable p)
def iV (Bs:List (List PyData))(p:P3):Prop:=0<=p.2.2/\p.2.2<Bs.length/\zD p.1 p.2.1/\vd (Bs.getD p.2.2.toNat []) p.1 p.2.1=true
noncomputable def vo (Bs:List (List PyData))(ps:List P3):Int:=(ps.map fun p=>coD (Bs.getD p.2.2.toNat []) p.1 p.2.1).sum
theorem zr6 {Bs:List (List PyData)}{c g:Int}{p:P3}(sb:zD c g)(h:tD Bs c g p=true):iV Bs p/\c<=p.1/\p.1<p.2.1/\p.2.1<=g:=by
 unfold tD at h;simp only[zZ9,z07] at h;obtain⟨h1,h2,h3,h4,h5,h6⟩:=h;obtain⟨c0,cg,g1,g2⟩:=sb;exact⟨⟨h4,h5,⟨by omega,by omega,by omega,by omega⟩,h6⟩,h1,h2,h3⟩
theorem gL {Bs:List (List PyData)}{c g:Int}(sb:zD c g):∀{ps:List P3} {day:Int},uE Bs c g day ps=true->(∀p∈ps,iV Bs p)/\(ps.length:Int)<=g-day
 |[],day,h=>by
  unfold uE at h;have:=z43 h;exact⟨(fun _ h=>by cases h),by simp;omega⟩
 |p::ps,day,h=>by
  unfold uE at h;simp only[zZ9,z07] at h;obtain⟨h1,h2,h3⟩:=h;obtain⟨i1,i2,i3,i4⟩:=zr6 sb h1;obtain⟨j1,j2⟩:=gL sb h3;refine⟨fun q hq=>?_,by rw[zY9];omega⟩;rcases zY1.mp hq with rfl|hq
  ·exact i1
  ·exact j1 q hq
def vO (Bs:List (List PyData))(b e x:Int):Prop:=∀ds∈Bs,∀y,coO ds b e=some y->x<=y
def sE (Bs:List (List PyData))(c g:Int)(pp:List Int):Prop:=∀i j:Nat,c+i+j<g->vO Bs (c+i) (c+i+j+1) ((pp.drop i).take (j+1)).sum
def vP (Bs:List (List PyData))(c g x:Int)(ps:List P3)(pp:List Int):Prop:=uE Bs c g c ps=true/\x=vo Bs ps/\pp.length=(g-c).toNat/\x=pp.sum/\sE Bs c g pp
def zb5 (pp:List Int):Prop:=pp.length<=1000/\∀n∈pp,-300000000000000000<=n/\n<=300000000000000000
def zR8 (C:Addr)(cs:Cs):List A->(A->Prop)->Prop:=fun as Q=>∃(Bs:List (List PyData)) (ps:List P3),as=[.dat (zL C cs Bs),.dat (.list (ps.map pD))]/\zG Bs/\(∀p∈ps,iV Bs p)/\ps.length<=20/\Q (.dat (.int (vo Bs ps)))
def zm8 :List A->(A->Prop)->Prop:=fun as Q=>∃zs:List Int,as=[.dat (.list (zs.map .int))]/\zs.length<=1000/\Q (.dat (.bool true))
def zz5 (C:Addr)(cs:Cs):List A->(A->Prop)->Prop:=fun as Q=>∃(Bs:List (List PyData)) (b e x:Int),as=[.dat (zL C cs Bs),.dat (.tuple [.int b,.int e]),.dat (.int x)]/\zG Bs/\Bs.length<=8/\zD b e/\Q (.dat (.bool (tr (vO Bs b e x))))
def zz4 (C:Addr)(cs:Cs):List A->(A->Prop)->Prop:=fun as Q=>∃(Bs:List (List PyData)) (c g:Int) (pp:List Int),as=[.dat (zL C cs Bs),.dat (.tuple [.int c,.int g]),.dat (.list (pp.map .int))]/\zG Bs/\Bs.length<=8/\zD c g/\pp.length=(g-c).toNat/\Q (.dat (.bool (tr (sE Bs c g pp))))
def eB (C:Addr)(cs:Cs):List A->(A->Prop)->Prop:=fun as Q=>∃(Bs:List (List PyData)) (c g x:Int) (ps:List P3) (pp:List Int),as=[.dat (zL C cs Bs),.dat (.tuple [.int c,.int g]),.dat (.int x),.dat (.list (ps.map pD)),.dat (.list (pp.map .int))]/\zG Bs/\Bs.length<=8/\zD c g/\zb5 pp/\Q (.dat (.bool (tr (vP Bs c g x ps pp))))
section
variable {P:Program}{w:World}{K:PySem.W.Frag}{mg:Str->Option Value}{base:Heap}{cs:Cs}
theorem zR9 :zm ["books","cut"] ["books","cut"] (zb zh7):=.o
theorem zI7 {f C:Addr}{fd:FuncData}(F:Fun K "cut_coins" "cut_coins" zh7 f fd)(hm:mg "cut_coins"=some (.ref f))(hb:Binds K fd ["books","cut"] [])(nb:NbT mg)(CC:Cal P w K mg base "cost" 6 (zi4 C cs)):Cal P w K mg base "cut_coins" 7 (zR8 C cs):=by
 refine yM F hm hb zR9 (fun as Q h=>?_) (fun cdv A' outer s H E as Q hr h=>?_)
 ·obtain⟨Bs,ps,rfl,_⟩:=h;rfl
 ·obtain⟨Bs,ps,rfl,bo,pin,pl,q⟩:=h;have nd:=zR9.nd;refine wJ (zy3 15000000000000 rfl (by rfl) nb.sum (EvL.d (yX ["part","books"] [none,some 0] (.one 0) (yj ?_))));ext;refine⟨by rw[zX5];omega,?_⟩;have get:∀p∈ps,∃ds,Bs[p.2.2.toNat]?=some ds/\Bs.getD p.2.2.toNat []=ds/\zB ds:=fun p hp=>by
   obtain⟨h1,h2,_⟩:=pin p hp;obtain⟨ds,a,b⟩:=jv (Bs:=Bs) (n:=p.2.2.toNat) (by omega);exact⟨ds,a,b,bo ds (z27 a)⟩
  refine zR (fun p=>.int (coD (Bs.getD p.2.2.toNat []) p.1 p.2.1)) (fun p hp=>⟨_,rfl,fun _ _ _ _ _ k=>?_⟩) ?_
  ·obtain⟨ds,a,b,ro⟩:=get p hp;obtain⟨h1,h2,h3,h4⟩:=pin p hp;rw[b] at k h4;unfold pD;ext;refine ixk rfl rfl (i:=p.2.2) (by rw[show p.2.2=((p.2.2.toNat:Nat):Int) by omega];exact yF (j:=p.2.2.toNat) (by rw[zY3,a]<;>rfl)) ?_;ext;exact⟨ds,p.1,p.2.1,rfl,ro,h3,h4,k⟩
  rw[z25,show ps.map (fun p=>PyData.int (coD (Bs.getD p.2.2.toNat []) p.1 p.2.1))=(ps.map fun p=>coD (Bs.getD p.2.2.toNat []) p.1 p.2.1).map .int by rw[z20]<;>rfl];refine⟨_,rfl,fun n hn=>?_,by rw[zX5];omega,?_⟩
  ·obtain⟨p,hp,rfl⟩:=z09.mp hn;obtain⟨ds,a,b,ro⟩:=get p hp;obtain⟨h1,h2,h3,h4⟩:=pin p hp;rw[b] at h4;have:=aX ro h3 h4;rw[b];omega
  ·exact q
theorem zz0 :zm ["thing"] ["thing"] (zb zE7):=.o
theorem zv0 {f:Addr}{fd:FuncData}(F:Fun K "is_list_of_wholes" "is_list_of_wholes" zE7 f fd)(hm:mg "is_list_of_wholes"=some (.ref f))(hb:Binds K fd ["thing"] [])(nb:NbT mg)(CW:Cal P w K mg base "is_whole" 1 ff):Cal P w K mg base "is_list_of_wholes" 2 zm8:=by
 refine yM F hm hb zz0 (fun as Q h=>?_) (fun cdv A' outer s H E as Q hr h=>?_)
 ·obtain⟨zs,rfl,_⟩:=h;rfl
 ·obtain⟨zs,rfl,zl,q⟩:=h;have nd:=zz0.nd;ext;refine⟨_,uo _,rfl,?_⟩;ext;refine nF rfl (by rfl) nb.all (EvL.d (yX ["number"] [none] (.one 0) (yj ?_)));ext;refine⟨by rw[zX5];exact zl,?_⟩;refine zR (fun _=>.bool true) (fun z hz=>⟨_,rfl,fun _ _ _ _ _ k=>?_⟩) ?_
  ·ext;exact k
  rw[z25,oe];ext;rw[cn];exact q
theorem zy6 :zm ["books","stay","coins","told"] ["books","stay","coins"] (zb zF7):=.o
theorem zq3 {f C:Addr}{fd:FuncData}(F:Fun K "costs_no_less" "costs_no_less" zF7 f fd)(hm:mg "costs_no_less"=some (.ref f))(hb:Binds K fd ["books","stay","coins"] [])(nb:NbT mg)(CN:Cal P w K mg base "cost_or_none" 6 (zm1 C cs)):Cal P w K mg base "costs_no_less" 7 (zz5 C cs):=by
 refine yM F hm hb zy6 (fun as Q h=>?_) (fun cdv A' outer s H E as Q hr h=>?_)
 ·obtain⟨Bs,b,e,x,rfl,_⟩:=h;rfl
 ·obtain⟨Bs,b,e,x,rfl,bo,bl,sb,q⟩:=h;have nd:=zy6.nd;refine zb2 3 ["book","stay"] [none,some 1] (.one 0) (yj ?_);ext;refine⟨by rw[zX5];omega,?_⟩;refine zR (fun ds=>oD (coO ds b e)) (fun ds hd=>⟨_,rfl,fun _ _ _ _ _ k=>?_⟩) ?_
  ·ext;exact⟨ds,b,e,rfl,bo ds hd,sb,k⟩
  rw[z25];refine jr 3 rfl ?_;refine wJ (nF rfl (by rfl) nb.all (EvL.d (yX ["other","coins"] [none,some 2] (.one 0) (yj ?_))));ext;refine⟨by rw[zX5];omega,?_⟩;refine zR (fun ds=>.bool (match coO ds b e with|none=>true|some y=>decide (x<=y))) (fun ds hd=>⟨_,rfl,fun _ _ _ _ _ k=>?_⟩) ?_
  ·cases hx:coO ds b e with
   |none=>
    rw[hx] at k;ext;exact k
   |some y=>
    rw[hx] at k;ext;exact k
  rw[z25,show Bs.map (fun ds=>PyData.bool (match coO ds b e with|none=>true|some y=>decide (x<=y)))=(Bs.map fun ds=>(match coO ds b e with|none=>true|some y=>decide (x<=y))).map .bool by rw[z20]<;>rfl];ext;have:(Bs.map fun ds=>(match coO ds b e with|none=>true|some y=>decide (x<=y))).all id=tr (vO Bs b e x):=by
   rw[z75,vJ,List.all_map,z81];unfold vO;refine forall_congr' fun ds=>forall_congr' fun _=>?_;simp only[Function.comp,id];cases coO ds b e with
   |none=>simp
   |some y=>simp
  rw[this];exact q
theorem zA7 :zm ["books","stay","paper","begin","coins","night"] ["books","stay","paper"] (zb zG7):=.o
theorem zk4 {pp:List Int}{i:Nat}(h:i<pp.length):(pp.take (i+1)).sum=(pp.take i).sum+pp.getD i 0:=by
 rw[z44,zX7 h,List.sum_append,zX9,zX7 h];simp
theorem zv5 {f C:Addr}{fd:FuncData}(F:Fun K "no_part_costs_less" "no_part_costs_less" zG7 f fd)(hm:mg "no_part_costs_less"=some (.ref f))(hb:Binds K fd ["books","stay","paper"] [])(nb:NbT mg)(CN:Cal P w K mg base "costs_no_less" 7 (zz5 C cs)):Cal P w K mg base "no_part_costs_less" 8 (zz4 C cs):=by
 refine yM F hm hb zA7 (fun as Q h=>?_) (fun cdv A' outer s H E as Q hr h=>?_)
 ·obtain⟨Bs,c,g,pp,rfl,_⟩:=h;rfl
 ·obtain⟨Bs,c,g,pp,rfl,bo,bl,⟨c0,cg,g1,g2⟩,pl,q⟩:=h;have nd:=zA7.nd;refine xf (.one 3) (wM (by rfl) nb.range ?_);ext;refine⟨⟨by omega,by omega,by omega,by omega⟩,?_⟩;refine zX (fun i α=>∃o3 o4 o5:Option A,α=[some (.dat (zL C cs Bs)),some (.dat (.tuple [.int c,.int g])),some (.dat (.list (pp.map .int))),o3,o4,o5]/\∀i' j:Nat,i'<i->c+i'+j<g->vO Bs (c+i') (c+i'+j+1) ((pp.drop i').take (j+1)).sum) ⟨none,none,none,rfl,fun i' j h=>by omega⟩ ?_ ?_
  ·rintro i d α hd ⟨o3,o4,o5,rfl,hi0⟩;rw[zY3,zZ2] at hd;obtain⟨u,hu,rfl⟩:=hd;have hi:=(zY0.mp hu).1;rw[zc] at hi;rw[zY hi] at hu;cases hu;refine⟨_,rfl,?_⟩;ext;refine xf (.one 5) (wM (by rfl) nb.range ?_);ext;refine⟨⟨by omega,by omega,by omega,by omega⟩,?_⟩;refine zX (fun j α=>∃o5:Option A,α=[some (.dat (zL C cs Bs)),some (.dat (.tuple [.int c,.int g])),some (.dat (.list (pp.map .int))),some (.dat (.int (c+(i:Int)))),some (.dat (.int ((pp.drop i).take j).sum)),o5]/\∀j':Nat,j'<j->vO Bs (c+i) (c+i+j'+1) ((pp.drop i).take (j'+1)).sum) ⟨o5,by simp,fun j' h=>by omega⟩ ?_ ?_
   ·rintro j d α hd ⟨o5,rfl,hj0⟩;rw[zY3,zZ2] at hd;obtain⟨v,hv,rfl⟩:=hd;have hj:=(zY0.mp hv).1;rw[zc] at hj;rw[zY hj] at hv;cases hv;have hij:i+j<pp.length:=by omega
    refine⟨_,rfl,?_⟩;ext;refine ixk rfl rfl (i:=c+(i:Int)+(j:Int)-c) (by rw[show c+(i:Int)+(j:Int)-c=((i+j:Nat):Int) by omega];exact yF (j:=i+j) (by rw[zY3,zX7 hij]<;>rfl)) ?_;ext;have es:((pp.drop i).take j).sum+pp[i+j]=((pp.drop i).take (j+1)).sum:=by
     rw[zk4 (by rw[z55];omega),zX9,ya5,zX7 hij];rfl
    rw[es];refine⟨Bs,c+i,c+i+j+1,_,rfl,bo,bl,⟨by omega,by omega,by omega,by omega⟩,?_⟩;ext;refine yB (fun h=>?_) (fun h=>?_)
    ·have h:tr (vO Bs (c+i) (c+i+j+1) ((pp.drop i).take (j+1)).sum)=false:=by simpa using h
     rw[pS (p:=sE Bs c g pp) fun z=>by rw[mr (z i j (by omega))] at h;cases h] at q;ext;exact q
    ·have h:tr (vO Bs (c+i) (c+i+j+1) ((pp.drop i).take (j+1)).sum)=true:=by simpa using h
     ext;intro j' hj';by_cases e:j'=j
     ·subst e;exact vJ.mp h
     ·exact hj0 j' (by omega)
   ·rintro α ⟨o5,rfl,hj0⟩;rw[zX5,zc] at hj0;ext;refine⟨_,_,_,rfl,fun i' j' hi' hj'=>?_⟩;by_cases e:i'=i
    ·subst e;exact hj0 j' (by omega)
    ·exact hi0 i' j' (by omega) hj'
  ·rintro α ⟨o3,o4,o5,rfl,hi0⟩;rw[zX5,zc] at hi0;rw[mr (p:=sE Bs c g pp) fun i j h=>hi0 i j (by omega) h] at q;ext;exact q
theorem zL8 :zm ["books","stay","coins","cut","paper"] ["books","stay","coins","cut","paper"] (zb js):=.o
theorem dz {f C:Addr}{fd:FuncData}(F:Fun K "is_had" "is_had" js f fd)(hm:mg "is_had"=some (.ref f))(hb:Binds K fd ["books","stay","coins","cut","paper"] [])(nb:NbT mg)(CW:Cal P w K mg base "is_whole" 1 ff)(CI:Cal P w K mg base "is_cut" 6 (eG C cs))(CC:Cal P w K mg base "cut_coins" 7 (zR8 C cs))(CL:Cal P w K mg base "is_list_of_wholes" 2 zm8)(CN:Cal P w K mg base "no_part_costs_less" 8 (zz4 C cs)):Cal P w K mg base "is_had" 9 (eB C cs):=by
 refine yM F hm hb zL8 (fun as Q h=>?_) (fun cdv A' outer s H E as Q hr h=>?_)
 ·obtain⟨Bs,c,g,x,ps,pp,rfl,_⟩:=h;rfl
 ·obtain⟨Bs,c,g,x,ps,pp,rfl,bo,bl,sb,⟨pl,pb⟩,q⟩:=h;obtain⟨c0,cg,g1,g2⟩:=id sb;have nd:=zL8.nd;refine yr (fun α=>α=[some (.dat (zL C cs Bs)),some (.dat (.tuple [.int c,.int g])),some (.dat (.int x)),some (.dat (.list (ps.map pD))),some (.dat (.list (pp.map .int)))]/\uE Bs c g c ps=true/\x=vo Bs ps) ?_ ?_
  ·ext;refine⟨Bs,c,g,ps,rfl,bo,sb,?_⟩;ext;refine vB (fun h=>?_) (fun h=>?_)
   ·have h:uE Bs c g c ps=false:=by simpa using h
    rw[pS (p:=vP Bs c g x ps pp) fun z=>by rw[z.1] at h;cases h] at q;ext;exact q
   ·have h:uE Bs c g c ps=true:=by simpa using h
    obtain⟨h1,h2⟩:=gL sb h;ext;refine⟨Bs,ps,rfl,bo,h1,by omega,?_⟩;ext;refine yB (fun h3=>?_) (fun h3=>?_)
    ·have h3:¬x=vo Bs ps:=by
      have h3':(!PyData.eqv (.int x) (.int (vo Bs ps)))=true:=h3;rw[vp] at h3';simpa using h3'
     rw[pS (p:=vP Bs c g x ps pp) fun z=>h3 z.2.1] at q;ext;exact q
    ·have h3:x=vo Bs ps:=by
      have h3':(!PyData.eqv (.int x) (.int (vo Bs ps)))=false:=h3;rw[vp] at h3';simpa using h3'
     ext;exact⟨rfl,h,h3⟩
  rintro α ⟨rfl,k1,k2⟩;refine yr (fun α=>α=[some (.dat (zL C cs Bs)),some (.dat (.tuple [.int c,.int g])),some (.dat (.int x)),some (.dat (.list (ps.map pD))),some (.dat (.list (pp.map .int)))]/\pp.length=(g-c).toNat/\x=pp.sum) ?_ ?_
  ·ext;refine⟨pl,?_⟩;ext;rw[zX5];refine vB (fun h=>?_) (fun h=>?_)
   ·have h:¬((pp.length:Nat):Int)=g-c:=by simpa using h
    rw[pS (p:=vP Bs c g x ps pp) fun z=>by have:=z.2.2.1;omega] at q;ext;exact q
   ·have h:((pp.length:Nat):Int)=g-c:=by simpa using h
    ext;refine zr2 rfl (by rfl) nb.sum ?_;ext;refine⟨pb,by omega,?_⟩;ext;refine yB (fun h3=>?_) (fun h3=>?_)
    ·have h3:¬x=pp.sum:=by simpa using h3
     rw[pS (p:=vP Bs c g x ps pp) fun z=>h3 z.2.2.2.1] at q;ext;exact q
    ·have h3:x=pp.sum:=by simpa using h3
     ext;exact⟨rfl,by omega,h3⟩
  rintro α ⟨rfl,k3,k4⟩;ext;refine⟨Bs,c,g,pp,rfl,bo,bl,sb,k3,?_⟩;rw[show tr (sE Bs c g pp)=tr (vP Bs c g x ps pp) by rw[z75,vJ,vJ];exact⟨fun z=>⟨k1,k2,k3,k4,z⟩,fun z=>z.2.2.2.2⟩];exact q
end
noncomputable abbrev iz :Stmt:=top 62
noncomputable abbrev nO :Stmt:=top 63
noncomputable abbrev jE :Stmt:=top 64
noncomputable abbrev au :Stmt:=top 65
def sO (Bs:List (List PyData))(d g:Int)(ds:List Int):Prop:=∃e n,d<e/\e<=g/\¬e∈ds/\n<Bs.length/\(coB Bs n d e).isSome=true
def ue (ds:List Int)(c:Int):Prop:=(∃r,ds=c::r)/\ds.Pairwise (·<·)
def uZ (Bs:List (List PyData))(c g:Int)(ds:List Int):Prop:=ue ds c/\(∀d∈ds,d<g)/\∀d∈ds,¬sO Bs d g ds
def fh (C:Addr)(cs:Cs):List A->(A->Prop)->Prop:=fun as Q=>∃(Bs:List (List PyData)) (d g:Int) (ds:List Int),as=[.dat (zL C cs Bs),.dat (.int d),.dat (.int g),.dat (.list (ds.map .int))]/\zG Bs/\Bs.length<=8/\zD d g/\Q (.dat (.bool (tr (sO Bs d g ds))))
def kE :List A->(A->Prop)->Prop:=fun as Q=>∃(ds:List Int) (c:Int),as=[.dat (.list (ds.map .int)),.dat (.int c)]/\ds.length<=1000/\Q (.dat (.bool (tr (ue ds c))))
def gI (C:Addr)(cs:Cs):List A->(A->Prop)->Prop:=fun as Q=>∃(Bs:List (List PyData)) (c g:Int) (ds:List Int),as=[.dat (zL C cs Bs),.dat (.tuple [.int c,.int g]),.dat (.list (ds.map .int))]/\zG Bs/\Bs.length<=8/\zD c g/\ds.length<=1000/\Q (.dat (.bool (tr (uZ Bs c g ds))))
noncomputable def zb9 (x:Int)(ps:List P3)(pp:List Int):PyData:=.tuple [.str "had",.int x,.list (ps.map pD),.list (pp.map .int)]
noncomputable def zH7 (ds:List Int):PyData:=.tuple [.str "off",.list (ds.map .int)]
def si (C:Addr)(cs:Cs):List A->(A->Prop)->Prop:=fun as Q=>∃(Bs:List (List PyData)) (c g:Int) (th:PyData),as=[.dat (zL C cs Bs),.dat (.tuple [.int c,.int g]),.dat th]/\zG Bs/\Bs.length<=8/\zD c g/\
 ((∃(x:Int) (ps:List P3) (pp:List Int),th=zb9 x ps pp/\zb5 pp/\Q (.dat (.bool (tr (vP Bs c g x ps pp)))))\/∃ds:List Int,th=zH7 ds/\ds.length<=1000/\Q (.dat (.bool (tr (uZ Bs c g ds)))))
noncomputable def adj :List Int->List (Int×Int)
 |a::b::r=>(a,b)::adj (b::r)
 |_=>[]
theorem zu2 :∀ds:List Int,cT (L2.cutD (ds.map PyData.int) none (some (-1))) (L2.cutD (ds.map PyData.int) (some 1) none)=(adj ds).map fun p=>.tuple [.int p.1,.int p.2]:=by
 have key:∀ds:List Int,List.zipWith (fun d e=>PyData.tuple [d,e]) ((ds.map PyData.int).take ((ds.map PyData.int).length-1)) ((ds.map PyData.int).drop 1)=(adj ds).map fun p=>.tuple [.int p.1,.int p.2]:=by
  intro ds
  induction ds with
  |nil=>rfl
  |cons a r ih=>
   cases r with
   |nil=>rfl
   |cons b r=>
    have e:(List.map PyData.int (a::b::r)).length-1=(List.map PyData.int (b::r)).length-1+1:=by simp
    rw[e];show PyData.tuple [.int a,.int b]::List.zipWith _ (List.take _ (List.map PyData.int (b::r))) (List.drop 1 (List.map PyData.int (b::r)))=_;rw[ih];rfl
 intro ds;rw[jb,ng _ (by decide)];exact key ds
theorem fO :∀ds:List Int,(adj ds).length<=ds.length
 |[]=>zY2 _
 |[_]=>zZ4 _
 |a::b::r=>by
  have:=fO (b::r);simp only[adj,zY9] at this ⊢;omega
theorem rX :∀ds:List Int,((adj ds).all fun p=>decide (p.1<p.2))=true↔ds.Pairwise (·<·)
 |[]=>by simp[adj]
 |[a]=>by simp[adj]
 |a::b::r=>by
  have ih:=rX (b::r);simp only[adj,yb6,zZ9,z07,ih]
  constructor
  ·rintro⟨h1,h2⟩;refine z73.mpr ⟨fun x hx=>?_,h2⟩;rcases zY1.mp hx with rfl|hx
   ·exact h1
   ·have:=(z73.mp h2).1 x hx;omega
  ·intro h;exact⟨(z73.mp h).1 b zY6,(z73.mp h).2⟩
theorem zw9 (ds:List Int):(ds.map PyData.int).all sX=true:=by
 rw[List.all_map,z81];intro z _;rfl
theorem zA2 {z:Int}:∀{ds:List Int},inD (.int z) (ds.map .int)=decide (z∈ds)
 |[]=>rfl
 |d::ds=>by
  have ih:=zA2 (z:=z) (ds:=ds);rw[zZ6];unfold inD at ih ⊢;rw[z89,ih];by_cases h:z=d
  ·subst h;simp[scV,eqV]
  ·simp[scV,eqV,h,z22 h]
section
variable {P:Program}{w:World}{K:PySem.W.Frag}{mg:Str->Option Value}{base:Heap}{cs:Cs}
theorem zN1 :zm ["books","day","go","days","other"] ["books","day","go","days"] (zb iz):=.o
theorem cZ {f C:Addr}{fd:FuncData}(F:Fun K "leads_out" "leads_out" iz f fd)(hm:mg "leads_out"=some (.ref f))(hb:Binds K fd ["books","day","go","days"] [])(nb:NbT mg)(CH:Cal P w K mg base "can_be_had" 4 (gF C cs)):Cal P w K mg base "leads_out" 5 (fh C cs):=by
 refine yM F hm hb zN1 (fun as Q h=>?_) (fun cdv A' outer s H E as Q hr h=>?_)
 ·obtain⟨Bs,d,g,ds,rfl,_⟩:=h;rfl
 ·obtain⟨Bs,d,g,ds,rfl,bo,bl,⟨c0,cg,g1,g2⟩,q⟩:=h;have nd:=zN1.nd;refine xf (.one 4) (wM (by rfl) nb.range ?_);ext;refine⟨⟨by omega,by omega,by omega,by omega⟩,?_⟩;refine zX (fun i α=>∃o4:Option A,α=[some (.dat (zL C cs Bs)),some (.dat (.int d)),some (.dat (.int g)),some (.dat (.list (ds.map .int))),o4]/\∀i' n:Nat,i'<i->¬d+1+i'∈ds->n<Bs.length->(coB Bs n d (d+1+i')).isSome=false) ⟨none,rfl,fun i' n h=>by omega⟩ ?_ ?_
  ·rintro i x α hx ⟨o4,rfl,hi0⟩;rw[zY3,zZ2] at hx;obtain⟨u,hu,rfl⟩:=hx;have hi:=(zY0.mp hu).1;rw[zc] at hi;rw[zY hi] at hu;cases hu;have sbe:zD d (d+1+(i:Int)):=⟨by omega,by omega,by omega,by omega⟩;refine⟨_,rfl,?_⟩;ext;refine ink rfl (zw9 _) ?_;rw[zA2];refine vB (fun h=>?_) (fun h=>?_)
   ·have h:¬d+1+(i:Int)∈ds:=by simpa using h
    refine mR (qJ (zd7 rfl (by rfl) nb.any (EvL.d (yX ["book","day","other"] [none,some 1,some 4] (.one 0) (yj ?_)))));ext;refine⟨by rw[zX5];omega,?_⟩;refine zR (fun b=>.bool (vd b d (d+1+(i:Int)))) (fun b hb=>⟨_,rfl,fun _ _ _ _ _ k=>?_⟩) ?_
    ·ext;exact⟨b,d,d+1+(i:Int),rfl,bo b hb,sbe,k⟩
    rw[z25,show Bs.map (fun b=>PyData.bool (vd b d (d+1+(i:Int))))=(Bs.map fun b=>vd b d (d+1+(i:Int))).map .bool by rw[z20]<;>rfl];ext;refine yB (fun h2=>?_) (fun h2=>?_)
    ·rw[List.any_map,List.any_eq_true] at h2;obtain⟨b,hb,hh⟩:=h2;have hh:vd b d (d+1+(i:Int))=true:=hh;obtain⟨n,hn,rfl⟩:=z92.mp hb;rw[mr (p:=sO Bs d g ds) ⟨d+1+i,n,by omega,by omega,h,hn,by rw[uk (zX7 hn) sbe,coO,if_pos hh]<;>rfl⟩] at q;ext;exact q
    ·ext;intro i' n hi' hm' hn;by_cases e:i'=i
     ·subst e;rw[List.any_map,List.any_eq_false] at h2;have:¬vd Bs[n] d (d+1+(i':Int))=true:=h2 _ (z38 hn);rw[uk (zX7 hn) sbe,coO,if_neg this];rfl
     ·exact hi0 i' n (by omega) hm' hn
   ·have h:d+1+(i:Int)∈ds:=by simpa using h
    ext;intro i' n hi' hm' hn;by_cases e:i'=i
    ·subst e;exact absurd h hm'
    ·exact hi0 i' n (by omega) hm' hn
  ·rintro α ⟨o4,rfl,hi0⟩;rw[zX5,zc] at hi0;rw[pS (p:=sO Bs d g ds) fun⟨e,n,e1,e2,e3,e4,e5⟩=>by
    have:=hi0 (e-d-1).toNat n (by omega) (by rw[show d+1+((e-d-1).toNat:Int)=e by omega];exact e3) e4;rw[show d+1+((e-d-1).toNat:Int)=e by omega,e5] at this;cases this] at q
   ext;exact q
theorem zR1 :zm ["days","first"] ["days","first"] (zb nO):=.o
theorem jB {f:Addr}{fd:FuncData}(F:Fun K "is_rising_from" "is_rising_from" nO f fd)(hm:mg "is_rising_from"=some (.ref f))(hb:Binds K fd ["days","first"] [])(nb:NbT mg):Cal P w K mg base "is_rising_from" 1 kE:=by
 refine yM F hm hb zR1 (fun as Q h=>?_) (fun cdv A' outer s H E as Q hr h=>?_)
 ·obtain⟨ds,c,rfl,_⟩:=h;rfl
 ·obtain⟨ds,c,rfl,dl,q⟩:=h;have nd:=zR1.nd;ext;refine eqk (shaped_ints _).1 rfl (uo _) rfl ?_;rw[gG,isEmpty_map];cases ds with
  |nil=>
   rw[pS (p:=ue [] c) fun⟨⟨r,h⟩,_⟩=>by cases h] at q;ext;exact q
  |cons d r=>
   ext;refine ixk rfl rfl (yF (j:=0) rfl) ?_;ext;refine vB (fun h=>?_) (fun h=>?_)
   ·have h:d=c:=z43 h;subst h;refine zm0 (nF rfl (by rfl) nb.all (EvL.d (yX ["lower","higher"] [none,none] (.many [0,1]) (zf2 (by rfl) nb.zip ?_))));ext;rw[zu2];refine⟨by rw[zX5];exact z35 (fO _) dl,?_⟩;refine zR (fun p=>.bool (decide (p.1<p.2))) (fun p hp=>⟨_,rfl,fun _ _ _ _ _ k=>?_⟩) ?_
    ·ext;exact k
    rw[z25,show (adj (d::r)).map (fun p=>PyData.bool (decide (p.1<p.2)))=((adj (d::r)).map fun p=>decide (p.1<p.2)).map .bool by rw[z20]<;>rfl];ext;rw[show ((adj (d::r)).map fun p=>decide (p.1<p.2)).all id=tr (ue (d::r) d) by
     rw[z75,vJ,List.all_map];exact⟨fun z=>⟨⟨r,rfl⟩,(rX _).mp z⟩,fun z=>(rX _).mpr z.2⟩]
    exact q
   ·have h:¬d=c:=yd1 h;rw[pS (p:=ue (d::r) c) fun⟨⟨r',e⟩,_⟩=>by injection e with e;exact h e] at q;exact q
theorem zO5 :zm ["books","stay","days"] ["books","stay","days"] (zb jE):=.o
theorem bx {f C:Addr}{fd:FuncData}(F:Fun K "is_off" "is_off" jE f fd)(hm:mg "is_off"=some (.ref f))(hb:Binds K fd ["books","stay","days"] [])(nb:NbT mg)(CL:Cal P w K mg base "is_list_of_wholes" 2 zm8)(CR:Cal P w K mg base "is_rising_from" 1 kE)(CLe:Cal P w K mg base "leads_out" 5 (fh C cs)):Cal P w K mg base "is_off" 6 (gI C cs):=by
 refine yM F hm hb zO5 (fun as Q h=>?_) (fun cdv A' outer s H E as Q hr h=>?_)
 ·obtain⟨Bs,c,g,ds,rfl,_⟩:=h;rfl
 ·obtain⟨Bs,c,g,ds,rfl,bo,bl,sb,dl,q⟩:=h;obtain⟨c0,cg,g1,g2⟩:=id sb;have nd:=zO5.nd;refine yr (fun α=>α=[some (.dat (zL C cs Bs)),some (.dat (.tuple [.int c,.int g])),some (.dat (.list (ds.map .int)))]/\ue ds c/\∀d∈ds,d<g) ?_ ?_
  ·ext;refine⟨dl,?_⟩;ext;refine⟨ds,c,rfl,dl,?_⟩;ext;refine vB (fun h=>?_) (fun h=>?_)
   ·have h:tr (ue ds c)=false:=by simpa using h
    rw[pS (p:=uZ Bs c g ds) fun z=>by rw[mr z.1] at h;cases h] at q;ext;exact q
   ·have h:tr (ue ds c)=true:=by simpa using h
    have ri:=vJ.mp h;obtain⟨⟨r,er⟩,pw⟩:=id ri;obtain⟨init,l,el⟩:∃init l,ds=init++[l]:=⟨ds.dropLast,ds.getLast (by rw[er];simp),(List.dropLast_concat_getLast _).symm⟩;have hl:∀d∈ds,d<=l:=fun d hd=>by
     rw[el] at hd pw;rcases z36.mp hd with hd|hd
     ·have:=(List.pairwise_append.mp pw).2.2 d hd l (zZ0.mpr rfl);omega
     ·rw[zZ0.mp hd];omega
    ext;refine ixk rfl rfl (i:=-1) (d:=.int l) (by rw[el,z03];exact aj _ _) ?_;ext;refine yB (fun h2=>?_) (fun h2=>?_)
    ·have h2:=z43 h2;rw[pS (p:=uZ Bs c g ds) fun z=>by
      have:=z.2.1 l (by rw[el];exact z21 _ (zZ0.mpr rfl));omega] at q
     ext;exact q
    ·have h2:=yd1 h2;ext;exact⟨rfl,ri,fun d hd=>by have:=hl d hd;omega⟩
  rintro α ⟨rfl,ri,lt⟩;have ge:∀d∈ds,c<=d:=fun d hd=>by
   obtain⟨⟨r,er⟩,pw⟩:=ri;rw[er] at hd pw;rcases zY1.mp hd with rfl|hd
   ·omega
   ·have:=(z73.mp pw).1 d hd;omega
  refine wJ (ze6 (zd7 rfl (by rfl) nb.any (EvL.d (yX ["day","books","stay","days"] [none,some 0,some 1,some 2] (.one 0) (yj ?_)))));ext;refine⟨by rw[zX5];exact dl,?_⟩;refine zR (fun d=>.bool (tr (sO Bs d g ds))) (fun d hd=>⟨_,rfl,fun _ _ _ _ _ k=>?_⟩) ?_
  ·ext;have:=ge d hd;have:=lt d hd;exact⟨Bs,d,g,ds,rfl,bo,bl,⟨by omega,by omega,by omega,by omega⟩,k⟩
  rw[z25,show ds.map (fun d=>PyData.bool (tr (sO Bs d g ds)))=(ds.map fun d=>tr (sO Bs d g ds)).map .bool by rw[z20]<;>rfl];ext;rw[show (!(ds.map fun d=>tr (sO Bs d g ds)).any id)=tr (uZ Bs c g ds) by
   rw[z75,vJ,yd9,List.any_map,List.any_eq_false];exact⟨fun z=>⟨ri,lt,fun d hd hl=>z d hd (mr hl)⟩,fun z d hd hl=>z.2.2 d hd (vJ.mp hl)⟩]
  exact q
theorem zO3 :zm ["books","stay","thing"] ["books","stay","thing"] (zb au):=.o
theorem kj (x:Int)(ps:List P3)(pp:List Int):(zb9 x ps pp).hasDict=false:=by
 have h1:=qq ps;have h2:=uo pp;rw[PyData.hasDict] at h1 h2;simp[zb9,PyData.hasDict,PyData.hasDictAll,h1,h2]
theorem jn (ds:List Int):(zH7 ds).hasDict=false:=by
 have h2:=uo ds;rw[PyData.hasDict] at h2;simp[zH7,PyData.hasDict,PyData.hasDictAll,h2]
theorem zl4 {f C:Addr}{fd:FuncData}(F:Fun K "lets_by" "lets_by" au f fd)(hm:mg "lets_by"=some (.ref f))(hb:Binds K fd ["books","stay","thing"] [])(nb:NbT mg)(CH:Cal P w K mg base "is_had" 9 (eB C cs))(CO:Cal P w K mg base "is_off" 6 (gI C cs)):Cal P w K mg base "lets_by" 10 (si C cs):=by
 refine yM F hm hb zO3 (fun as Q h=>?_) (fun cdv A' outer s H E as Q hr h=>?_)
 ·obtain⟨Bs,c,g,th,rfl,_⟩:=h;rfl
 ·obtain⟨Bs,c,g,th,rfl,bo,bl,sb,h⟩:=h;have nd:=zO3.nd;rcases h with ⟨x,ps,pp,rfl,pb,q⟩|⟨ds,rfl,dl,q⟩
  ·refine yr (fun α=>α=[some (.dat (zL C cs Bs)),some (.dat (.tuple [.int c,.int g])),some (.dat (.tuple [.str "had",.int x,.list (ps.map pD),.list (pp.map .int)]))]) ?_ ?_
   ·ext;refine⟨_,kj _ _ _,rfl,?_⟩;ext;rfl
   rintro α rfl;ext;exact⟨Bs,c,g,x,ps,pp,rfl,bo,bl,sb,pb,q⟩
  ·refine yr (fun α=>α=[some (.dat (zL C cs Bs)),some (.dat (.tuple [.int c,.int g])),some (.dat (.tuple [.str "off",.list (ds.map .int)]))]) ?_ ?_
   ·ext;refine⟨_,jn _,rfl,?_⟩;ext;rfl
   rintro α rfl;ext;exact⟨Bs,c,g,ds,rfl,bo,bl,sb,dl,q⟩
end
noncomputable def p3 (p:Part):P3:=(p.1,p.2.1,(p.2.2:Int))
theorem zA5 (ps:List Part):(ps.map p3).map pD=ps.map xg:=by rw[z20]<;>rfl
theorem zx8 {Bs:List (List PyData)}(bo:zG Bs){c g:Int}{a y:Int}{ps:List Part}(h:Cut (coB Bs) Bs.length a g y ps)(ca:c<=a):uE Bs c g a (ps.map p3)=true/\vo Bs (ps.map p3)=y:=by
 induction h with
 |nil a=>exact⟨by show decide (a=a)=true;simp,rfl⟩
 |@cons a e g x y n ps h1 h2 h3 h ih=>
  obtain⟨i1,i2⟩:=ih (by omega);obtain⟨s1,s2,s3,_⟩:=qF bo h2 h3;have:=h.le;refine⟨?_,?_⟩
  ·show (tD Bs c g (a,e,(n:Int))&&(decide (a=a)&&uE Bs c g e (ps.map p3)))=true;rw[i1];unfold tD;simp only[z42,s2,Bool.and_true,zZ9,z07];exact⟨⟨by omega,by omega,by omega,by omega,by omega⟩,trivial⟩
  ·unfold vo at i2 ⊢;rw[zZ6,zZ6,z39,i2];show coD (Bs.getD ((n:Int)).toNat []) a e+y=_;rw[z42,<-s3]
theorem cW {Bs:List (List PyData)}{c g:Int}{pp:List Int}(sb:zD c g)(h:∀n b e y,n<Bs.length->c<=b->b<e->e<=g->coB Bs n b e=some y->((pp.drop (b-c).toNat).take (e-b).toNat).sum<=y):sE Bs c g pp:=fun i j hij ds hd y hy=>by
 obtain⟨n,hn,rfl⟩:=z92.mp hd;obtain⟨c0,cg,g1,g2⟩:=sb;have:=h n (c+i) (c+i+j+1) y hn (by omega) (by omega) (by omega) (by rw[uk (zX7 hn) ⟨by omega,by omega,by omega,by omega⟩];exact hy);rw[show (c+i-c).toNat=i by omega,show (c+i+j+1-(c+i)).toNat=j+1 by omega] at this;exact this
theorem zi2 {Bs:List (List PyData)}(bo:zG Bs){c g x:Int}{ps:List Part}{pp:List Int}(sb:zD c g)(hc:Cut (coB Bs) Bs.length c g x ps)(hl:pp.length=(g-c).toNat)(hs:pp.sum=x)(hp:∀n b e y,n<Bs.length->c<=b->b<e->e<=g->coB Bs n b e=some y->((pp.drop (b-c).toNat).take (e-b).toNat).sum<=y):vP Bs c g x (ps.map p3) pp:=by
 obtain⟨h1,h2⟩:=zx8 bo hc (c:=c) (z31 _);exact⟨h1,h2.symm,hl,hs.symm,cW sb hp⟩
theorem zf3 {Bs:List (List PyData)}{c g:Int}{ds:List Int}(h1:∃r,ds=c::r)(h2:ds.Pairwise (·<·))(h3:∀d∈ds,d<g)(h4:∀d∈ds,∀e n y,d<e->e<=g->n<Bs.length->coB Bs n d e=some y->e∈ds):uZ Bs c g ds:=
 ⟨⟨h1,h2⟩,h3,fun d hd ⟨e,n,e1,e2,e3,e4,e5⟩=>by
  obtain⟨y,hy⟩:=yc7.mp e5;exact e3 (h4 d hd e n y e1 e2 e4 hy)⟩
theorem fw {pp:List Int}{c g:Int}(sb:zD c g)(hl:pp.length=(g-c).toNat)(hb:∀n∈pp,-300000000000000<=n/\n<=300000000000000):zb5 pp:=by
 obtain⟨_,_,h1,_⟩:=sb;exact⟨by omega,fun n hn=>by have:=hb n hn;omega⟩
structure Rel (Bs Bs':List (List PyData))(c g s t m:Int):Prop where
 len:Bs'.length=Bs.length
 tp:0<=t
 co:∀n b e,n<Bs.length->c<=b->b<e->e<=g->coB Bs' n (b+s) (e+s)=(coB Bs n b e).map fun x=>t*x+m*(e-b)
def sh (s:Int)(p:Part):Part:=(p.1+s,p.2.1+s,p.2.2)
section
variable {Bs Bs':List (List PyData)}{c g s t m:Int}(R:Rel Bs Bs' c g s t m)
include R
theorem Rel.cut {a b y:Int}{ps:List Part}(h:Cut (coB Bs) Bs.length a b y ps)(ca:c<=a)(bg:b<=g):Cut (coB Bs') Bs'.length (a+s) (b+s) (t*y+m*(b-a)) (ps.map (sh s)):=by
 induction h with
 |nil a=>simpa using Cut.nil (co:=coB Bs') (N:=Bs'.length) (a+s)
 |@cons a e b x y n ps h1 h2 h3 h ih=>
  have:=h.le;have e1:coB Bs' n (a+s) (e+s)=some (t*x+m*(e-a)):=by rw[R.co n a e h2 ca h1 (by omega),h3]<;>rfl
  have:=Cut.cons (n:=n) (by omega) (by rw[R.len];exact h2) e1 (ih (by omega) bg);have e2:t*x+m*(e-a)+(t*y+m*(b-e))=t*(x+y)+m*(b-a):=by
   rw[z71,show m*(b-a)=m*(e-a)+m*(b-e) by rw[<-z71];congr 1;omega];omega
  rw[e2] at this;exact this
theorem Rel.back {ps:List Part}:∀{a b y':Int},Cut (coB Bs') Bs'.length (a+s) (b+s) y' ps->c<=a->b<=g->∃y qs,Cut (coB Bs) Bs.length a b y qs/\y'=t*y+m*(b-a)/\ps=qs.map (sh s):=by
 induction ps with
 |nil=>
  intro a b y' h ca bg;generalize ea:a+s=a' at h;generalize eb:b+s=b' at h;cases h;have:a=b:=by omega
  subst this;exact⟨0,[],.nil a,by simp,rfl⟩
 |cons p ps ih=>
  intro a b y' h ca bg;obtain⟨x',e1,e2,e3,e4,k⟩:=zh2 h;obtain⟨b0,e0,n⟩:=p;have e1:b0=a+s:=e1;have e2:a+s<e0:=e2;have e3:n<Bs'.length:=e3;have e4:coB Bs' n (a+s) e0=some x':=e4;have k:Cut (coB Bs') Bs'.length e0 (b+s) (y'-x') ps:=k;subst e1;have le:e0<=b+s:=k.le;rw[R.len] at e3;obtain⟨e,rfl⟩:∃e,e0=e+s:=⟨e0-s,by omega⟩;have ae:a<e:=by omega
  have eb:e<=b:=by omega
  rw[R.co n a e e3 ca (by omega) (by omega),zZ2] at e4;obtain⟨x,hx,rfl⟩:=e4;obtain⟨y,qs,h1,h2,rfl⟩:=ih k (by omega) bg;refine⟨x+y,(a,e,n)::qs,.cons (by omega) e3 hx h1,?_,rfl⟩;rw[z71,show m*(b-a)=m*(e-a)+m*(b-e) by rw[<-z71];congr 1;omega];omega
theorem Rel.least {x x':Int}(h:mM (coB Bs) Bs.length c g x)(h':mM (coB Bs') Bs'.length (c+s) (g+s) x'):x'=t*x+m*(g-c):=by
 obtain⟨⟨ps,hc⟩,hl⟩:=h;obtain⟨⟨ps',hc'⟩,hl'⟩:=h';have h1:=hl' _ _ (R.cut hc (z31 _) (z31 _));obtain⟨y,qs,h2,h3,_⟩:=R.back hc' (z31 _) (z31 _);have h4:=ya7 (hl _ _ h2) R.tp;omega
theorem Rel.paper {pp:List Int}(hl:pp.length=(g-c).toNat)(hp:∀n b e y,n<Bs.length->c<=b->b<e->e<=g->coB Bs n b e=some y->((pp.drop (b-c).toNat).take (e-b).toNat).sum<=y):
  ∀n b e y,n<Bs'.length->c+s<=b->b<e->e<=g+s->coB Bs' n b e=some y->(((pp.map fun z=>t*z+m).drop (b-(c+s)).toNat).take (e-b).toNat).sum<=y:=by
 intro n b e y hn h1 h2 h3 hy;rw[R.len] at hn;obtain⟨b,rfl⟩:∃b',b=b'+s:=⟨b-s,by omega⟩;obtain⟨e,rfl⟩:∃e',e=e'+s:=⟨e-s,by omega⟩;rw[R.co n b e hn (by omega) (by omega) (by omega),zZ2] at hy;obtain⟨x,hx,rfl⟩:=hy;have h:=hp n b e x hn (by omega) (by omega) (by omega) hx;rw[show (b+s-(c+s)).toNat=(b-c).toNat by omega,show (e+s-(b+s)).toNat=(e-b).toNat by omega,<-List.map_drop,<-List.map_take];have key:∀l:List Int,(l.map fun z=>t*z+m).sum=t*l.sum+m*l.length:=by
  intro l
  induction l with
  |nil=>simp
  |cons z l ih=>
   rw[zZ6,z39,ih,z39,zY9,z71,z77,z71];simp;omega
 rw[key];have ll:((List.take (e-b).toNat (List.drop (b-c).toNat pp)).length:Int)=e-b:=by
  rw[z04,z55];omega
 rw[ll];have:=ya7 h R.tp;omega
theorem Rel.sum {pp:List Int}{x:Int}(hs:pp.sum=x)(hl:pp.length=(g-c).toNat)(cg:c<=g):(pp.map fun z=>t*z+m).sum=t*x+m*(g-c):=by
 have key:∀l:List Int,(l.map fun z=>t*z+m).sum=t*l.sum+m*l.length:=by
  intro l
  induction l with
  |nil=>simp
  |cons z l ih=>
   rw[zZ6,z39,ih,z39,zY9,z71,z77,z71];simp;omega
 rw[key,hs,hl,show (((g-c).toNat:Nat):Int)=g-c by omega]
theorem Rel.hadOk (bo':zG Bs')(sb':zD (c+s) (g+s)){x:Int}{ps:List Part}{pp:List Int}(h:rM Bs c g x ps pp):vP Bs' (c+s) (g+s) (t*x+m*(g-c)) ((ps.map (sh s)).map p3) (pp.map fun z=>t*z+m):=
 zi2 bo' sb' (R.cut h.cut (z31 _) (z31 _)) (by rw[zX5,h.plen];omega) (R.sum h.psum h.plen h.cut.le) (R.paper h.plen h.paper)
theorem Rel.offOk {ds:List Int}(h:rH Bs c g ds):uZ Bs' (c+s) (g+s) (ds.map (·+s)):=by
 refine zf3 ?_ ?_ ?_ ?_
 ·obtain⟨r,e⟩:=h.first;exact⟨r.map (·+s),by rw[e]<;>rfl⟩
 ·exact List.pairwise_map.mpr (h.sort.imp fun h=>by omega)
 ·intro d hd;obtain⟨d,hd',rfl⟩:=z09.mp hd;have:=h.rng d hd';omega
 ·intro d hd e n y h1 h2 h3 h4;obtain⟨d,hd',rfl⟩:=z09.mp hd;obtain⟨e,rfl⟩:∃e',e=e'+s:=⟨e-s,by omega⟩;rw[R.len] at h3;have:=h.rng d hd';rw[R.co n d e h3 (by omega) (by omega) (by omega),zZ2] at h4;obtain⟨x,hx,_⟩:=h4;exact z09.mpr ⟨e,h.shut d hd' e n x (by omega) (by omega) h3 hx,rfl⟩
theorem Rel.words (bo:zG Bs)(bo':zG Bs')(sb:zD c g)(sb':zD (c+s) (g+s)):(∃x ps pp x' ps' pp',rM Bs c g x ps pp/\rM Bs' (c+s) (g+s) x' ps' pp'/\x'=t*x+m*(g-c))\/∃ds ds',rH Bs c g ds/\rH Bs' (c+s) (g+s) ds':=by
 rcases uD bo sb with ⟨x,ps,pp,h⟩|⟨ds,h⟩
 ·rcases uD bo' sb' with ⟨x',ps',pp',h'⟩|⟨ds',h'⟩
  ·exact .inl ⟨x,ps,pp,x',ps',pp',h,h',R.least ⟨⟨_,h.cut⟩,h.least⟩ ⟨⟨_,h'.cut⟩,h'.least⟩⟩
  ·exact absurd (R.cut h.cut (z31 _) (z31 _)) (h'.none _ _)
 ·rcases uD bo' sb' with ⟨x',ps',pp',h'⟩|⟨ds',h'⟩
  ·obtain⟨y,qs,h1,_⟩:=R.back h'.cut (z31 _) (z31 _);exact absurd h1 (h.none _ _)
  ·exact .inr ⟨ds,ds',h,h'⟩
end
def mvR (s:Int):PyData->PyData
 |.tuple [.str u,.int i,.int j,v]=>.tuple [.str u,.int (i+s),.int (j+s),v]
 |d=>d
def mvB (s:Int)(ds:List PyData):List PyData:=ds.map (mvR s)
theorem snoc_ind {P:List PyData->Prop}(h0:P [])(h1:∀ds d,P ds->P (ds++[d])):∀ds,P ds:=fun ds=>by
 rw[<-List.reverse_reverse ds]
 induction ds.reverse with
 |nil=>exact h0
 |cons d r ih=>rw[yd8];exact h1 _ _ ih
theorem wX {s z:Int}{x:Str}(ds:List PyData)(h:zB ds):zo (mvB s ds) x (z+s)=zo ds x z:=by
 induction ds using snoc_ind with
 |h0=>rfl
 |h1 ds d ih=>
  have ih:=ih fun y hy=>h y (z64 _ hy);obtain⟨u,i,j,v,hu,rfl,_⟩:=vh (h d (z21 _ (zZ0.mpr rfl))).rule;have e:mvB s (ds++[.tuple [.str u,.int i,.int j,v]])=mvB s ds++[.tuple [.str u,.int (i+s),.int (j+s),v]]:=by unfold mvB;rw[z03];rfl
  rw[e,sT,sT,ih];have:kd x (z+s) (.tuple [.str u,.int (i+s),.int (j+s),v])=kd x z (.tuple [.str u,.int i,.int j,v]):=by
   show (decide (u=x)&&(decide (i+s<=z+s)&&decide (z+s<=j+s)))=(decide (u=x)&&(decide (i<=z)&&decide (z<=j)));rw[show decide (i+s<=z+s)=decide (i<=z) from ye5.mpr (by omega),show decide (z+s<=j+s)=decide (z<=j) from ye5.mpr (by omega)]
  rw[this];rfl
theorem zQ3 {lo hi s:Int}{ds:List PyData}(h:yw lo hi ds)(h0:0<=lo+s)(h1:hi+s<=1000000):zB (mvB s ds):=fun d hd=>by
 obtain⟨e,he,rfl⟩:=z09.mp hd;obtain⟨u,i,j,v,rfl,hu,a,b,c,hw,hn,hdp⟩:=h e he;exact su.of hu (by omega) (by omega) (by omega) hw hn hdp
def pP (p:Str×Int):PyData:=pB p.1 p.2
def zD9 (n:Int)(x:Str)(d:PyData):Bool:=
 if x="price" then wA d else if x="come" then isF d else if x="go" then isF d else if x="least" then decide (n<intOf d) else decide (intOf d<n)
def gc (c g:Int):List (Str×Int):=(zq c (g-c).toNat).map (fun z=>((Str.ofString "price"),z))++[(Str.ofString "come",c),(Str.ofString "go",g),(Str.ofString "least",c),(Str.ofString "most",c)]
def iL (ds:List PyData)(c g:Int)(p:Str×Int):Bool:=zD9 (g-c) p.1 (zo ds p.1 p.2)
def wg (ds:List PyData)(c g:Int):List (Str×Int):=(gc c g).filter (iL ds c g)
theorem tL {p:Str×Int}{f:Str×Int->Bool}:([p].filter f).map pP=opt (f p) (pP p):=by
 unfold opt;cases h:f p<;>simp[h]
theorem uh (ds:List PyData)(c g:Int):wa ds c g=(wg ds c g).map pP:=by
 unfold wg gc;rw[yd3,z03];have h1:(((zq c (g-c).toNat).map (fun z=>((Str.ofString "price"),z))).filter (iL ds c g)).map pP=xp ds c (g-c).toNat:=by
  unfold xp;rw[List.filter_map,z20];rfl
 rw[h1];have h2:([(Str.ofString "come",c),(Str.ofString "go",g),(Str.ofString "least",c),(Str.ofString "most",c)].filter (iL ds c g)).map pP=([(Str.ofString "come",c)].filter (iL ds c g)).map pP++(([(Str.ofString "go",g)].filter (iL ds c g)).map pP++(([(Str.ofString "least",c)].filter (iL ds c g)).map pP++([(Str.ofString "most",c)].filter (iL ds c g)).map pP)):=by
  rw[<-z03,<-z03,<-z03,<-yd3,<-yd3,<-yd3];rfl
 rw[h2,tL,tL,tL,tL];unfold wa;rw[ya8,ya8,ya8];rfl
def shP (s:Int)(p:Str×Int):Str×Int:=(p.1,p.2+s)
theorem qE (c s:Int)(n:Nat):zq (c+s) n=(zq c n).map (·+s):=by
 unfold zq;rw[z20];exact yg1 fun i _=>by show c+s+(i:Nat)=c+(i:Nat)+s;omega
theorem zr9 (c g s:Int):gc (c+s) (g+s)=(gc c g).map (shP s):=by
 unfold gc;rw[show g+s-(c+s)=g-c by omega,qE,z03,z20,z20];rfl
section
variable {ds:List PyData}{c g s:Int}
theorem gU (h:zB ds):wg (mvB s ds) (c+s) (g+s)=(wg ds c g).map (shP s):=by
 unfold wg;rw[zr9,List.filter_map]
 congr 1
 refine List.filter_congr fun p _=>?_;show zD9 (g+s-(c+s)) p.1 (zo (mvB s ds) p.1 (p.2+s))=zD9 (g-c) p.1 (zo ds p.1 p.2);rw[wX ds h,show g+s-(c+s)=g-c by omega]
theorem zC6 (h:zB ds):vd (mvB s ds) (c+s) (g+s)=vd ds c g:=by
 unfold vd;rw[uh,uh,gU h];cases wg ds c g<;>rfl
theorem zc7 (h:zB ds):prs (mvB s ds) (c+s) (g+s)=prs ds c g:=by
 unfold prs;rw[show g+s-(c+s)=g-c by omega,qE,z20];exact yg1 fun z _=>by show intOf (zo (mvB s ds) "price" (z+s))=_;rw[wX ds h]
theorem zn0 (h:zB ds):xk (mvB s ds) (c+s)=xk ds c:=by unfold xk;rw[wX ds h]
theorem zT7 (h:zB ds):coO (mvB s ds) (c+s) (g+s)=coO ds c g:=by
 unfold coO coD uL;rw[zC6 h,zc7 h,zn0 h,wX ds h]
end
theorem zg8 {Bs:List (List PyData)}{c g s:Int}(bo:zG Bs)(sg:zD c g)(sg':zD (c+s) (g+s)):Rel Bs (Bs.map (mvB s)) c g s 1 0:=by
 refine⟨by rw[zX5],by decide,fun n b e hn cb be eg=>?_⟩;obtain⟨ds,e1,e2⟩:=jv hn;obtain⟨a1,a2,a3,a4⟩:=sg;obtain⟨b1,b2,b3,b4⟩:=sg';rw[uk (ds:=mvB s ds) (by rw[zY3,e1];rfl) ⟨by omega,by omega,by omega,by omega⟩,uk e1 ⟨by omega,by omega,by omega,by omega⟩,zT7 (bo ds (z27 e1))];cases coO ds b e with
 |none=>rfl
 |some x=>show some x=some (1*x+0*(e-b));rw[yg3,yf8,z99]
theorem zk3 {Bs:List (List PyData)}{c g s:Int}(bo:zG Bs)(sg:zD c g)(sg':zD (c+s) (g+s)):Rel (Bs.map (mvB s)) Bs (c+s) (g+s) (0-s) 1 0:=by
 have R:=zg8 bo sg sg';refine⟨by rw[zX5],by decide,fun n b e hn cb be eg=>?_⟩;rw[zX5] at hn;have:=R.co n (b-s) (e-s) hn (by omega) (by omega) (by omega);rw[show b-s+s=b by omega,show e-s+s=e by omega] at this;rw[this,show b+(0-s)=b-s by omega,show e+(0-s)=e-s by omega];cases coB Bs n (b-s) (e-s) with
 |none=>rfl
 |some x=>show some x=some (1*(1*x+0*(e-s-(b-s)))+0*(e-b));rw[yg3,yg3,yf8,yf8,z99,z99]
abbrev sMT :Stmt:=top 76
abbrev sMB :Stmt:=top 77
abbrev tdO (ds:List Int):PyData:=.tuple [.str "off",.list (ds.map .int)]
abbrev tdH (z:Int)(ps:List Part)(pp:List Int):PyData:=.tuple [.str "had",.int z,.list (ps.map xg),.list (pp.map .int)]
abbrev Row :=Int×Int×Bool
def wN (r:Row):PyData:=.tuple [.int r.1,.int r.2.1,.bool r.2.2]
def shR (s:Int)(r:Row):Row:=(r.1+s,r.2.1,r.2.2)
def cN :List A->(A->Prop)->Prop:=fun as Q=>∃(td:PyData) (s:Int),as=[.dat td,.dat (.int s)]/\((∃x ps pp,td=tdH x ps pp/\ps.length<=14/\pp.length<=14/\Q (.dat (tdH x (ps.map (sh s)) pp)))\/∃ds,td=tdO ds/\ds.length<=14/\Q (.dat (tdO (ds.map (·+s)))))
def zD4 :List A->(A->Prop)->Prop:=fun as Q=>∃(S fee s:Int) (rs:List Row),as=[.dat (.tuple [.int S,.list (rs.map wN),.int fee]),.dat (.int s)]/\rs.length<=14/\Q (.dat (.tuple [.int S,.list ((rs.map (shR s)).map wN),.int fee]))
def pT :List Int->List Int->List Bool->List Row
 |n::ns,z::zs,b::bs=>(n,z,b)::pT ns zs bs
 |_,_,_=>[]
theorem aA :∀(ns zs:List Int) (bs:List Bool),xP (ns.map .int) (zs.map .int) (bs.map .bool)=(pT ns zs bs).map wN
 |[],_,_=>rfl
 |_::_,[],_=>rfl
 |_::_,_::_,[]=>rfl
 |n::ns,z::zs,b::bs=>by
  show _::xP (ns.map .int) (zs.map .int) (bs.map .bool)=_::_;rw[aA ns zs bs];rfl
theorem fu (s:Int):∀(ns zs:List Int) (bs:List Bool),pT (ns.map (·+s)) zs bs=(pT ns zs bs).map (shR s)
 |[],_,_=>rfl
 |_::_,[],_=>rfl
 |_::_,_::_,[]=>rfl
 |n::ns,z::zs,b::bs=>by
  show (n+s,z,b)::pT (ns.map (·+s)) zs bs=_;rw[fu s ns zs bs];rfl
theorem pF :∀(ns zs:List Int) (bs:List Bool),(pT ns zs bs).length<=ns.length
 |[],_,_=>zZ4 _
 |_::_,[],_=>zZ4 _
 |_::_,_::_,[]=>zZ4 _
 |n::ns,z::zs,b::bs=>by
  show (pT ns zs bs).length+1<=ns.length+1;exact Nat.add_le_add_right (pF ns zs bs) 1
theorem pf {n z:Int}{b:Bool}:∀{ns zs:List Int} {bs:List Bool},(n,z,b)∈pT ns zs bs->n∈ns/\z∈zs
 |[],_,_,h=>by cases h
 |_::_,[],_,h=>by cases h
 |_::_,_::_,[],h=>by cases h
 |m::ns,y::zs,c::bs,h=>by
  rcases zY1.mp (show (n,z,b)∈(m,y,c)::pT ns zs bs from h) with e|h
  ·cases e;exact⟨zY6,zY6⟩
  ·exact⟨zY4 _ (pf h).1,zY4 _ (pf h).2⟩
noncomputable def vD (ds:List PyData)(c g:Int):List Row:=pT (zq c (g-c).toNat) (prs ds c g) (uL ds c g)
noncomputable def eW (ds:List PyData)(c g:Int):Int:=(yz (prs ds c g) (uL ds c g)).sum+xk ds c
noncomputable def oR (ds:List PyData)(c g:Int):PyData:=.tuple [.int (eW ds c g),.list ((vD ds c g).map wN),.int (xk ds c)]
def nR (C:Addr)(cs:Cs):List A->(A->Prop)->Prop:=fun as Q=>∃(ds:List PyData) (c g:Int),as=[.dat (ye C cs ds),.dat (.tuple [.int c,.int g])]/\zB ds/\zD c g/\sx ds c g/\Q (.dat (oR ds c g))
theorem zp4 {ds:List PyData}{c g s:Int}(h:zB ds):oR (mvB s ds) (c+s) (g+s)=.tuple [.int (eW ds c g),.list (((vD ds c g).map (shR s)).map wN),.int (xk ds c)]:=by
 unfold oR eW vD uL;rw[zc7 h,zn0 h,wX ds h,show g+s-(c+s)=g-c by omega,qE,fu]
section
variable {P:Program}{w:World}{K:PySem.W.Frag}{mg:Str->Option Value}{base:Heap}{cs:Cs}
theorem eQ {C:Addr}(CB:Cal P w K mg base "bill" 5 (jD C cs)):Cal P w K mg base "bill" 5 (nR C cs):=by
 refine CB.imp fun as Q ⟨ds,c,g,e,ro,sb,so,q⟩=>?_;obtain⟨c0,cg,g1,g2⟩:=id sb;refine⟨ds,c,g,xk ds c,fun z=>intOf (zo ds "price" z),e,ro.rules,c0,cg,by omega,by omega,fun z h0 h1=>uO ro so h0 h1,?_,(rC ro c).1,fun bs mk=>?_⟩
 ·rcases my ro.all c with e|⟨m,f,e,f0,fm,m6⟩
  ·exact .inl e
  ·exact .inr ⟨m,f,e,by omega,m6⟩
 ·have mk':xo (zo ds "deal" c) (prs ds c g) bs:=mk;have h2:xo (zo ds "deal" c) (prs ds c g) (uL ds c g):=Classical.epsilon_spec (p:=fun bs=>xo (zo ds "deal" c) (prs ds c g) bs) ⟨bs,mk'⟩;obtain rfl:=zf1 (my ro.all c) mk' h2;have:oR ds c g=.tuple [.int ((yz (prs ds c g) (uL ds c g)).sum+xk ds c),.list (xP ((zq c (g-c).toNat).map .int) ((prs ds c g).map .int) ((uL ds c g).map .bool)),.int (xk ds c)]:=by rw[aA];rfl
  rw[this] at q;exact q
theorem zO9 :zm ["_law_told","_law_far"] ["_law_told","_law_far"] (zb sMT):=.o
theorem zC1 {f:Addr}{fd:FuncData}(F:Fun K "_law_moved_told" "_law_moved_told" sMT f fd)(hm:mg "_law_moved_told"=some (.ref f))(hb:Binds K fd ["_law_told","_law_far"] [])(nb:NbT mg):Cal P w K mg base "_law_moved_told" 1 cN:=by
 refine yM F hm hb zO9 (fun as Q h=>?_) (fun cdv A' outer s H E as Q hr h=>?_)
 ·obtain⟨td,s,rfl,_⟩:=h;rfl
 ·obtain⟨td,s,rfl,h⟩:=h;have nd:=zO9.nd;rcases h with ⟨x,ps,pp,rfl,pl,ql,q⟩|⟨ds,rfl,dl,q⟩
  ·ext;refine EvL.d (yX ["_law_begin","_law_end","_law_number","_law_far"] [none,none,none,some 1] (.many [0,1,2]) (yj ?_));ext;refine⟨by rw[zX5];omega,?_⟩;refine zR (fun p=>xg (sh s p)) (fun p hp=>⟨_,rfl,fun _ _ _ _ Q q=>?_⟩) ?_
   ·ext;exact q
   rw[z25,show ps.map (fun p=>xg (sh s p))=(ps.map (sh s)).map xg by rw[z20];rfl];ext;exact q
  ·ext;refine EvL.d (yX ["_law_day","_law_far"] [none,some 1] (.one 0) (yj ?_));ext;refine⟨by rw[zX5];omega,?_⟩;refine zR (fun z=>.int (z+s)) (fun z hz=>⟨_,rfl,fun _ _ _ _ Q q=>?_⟩) ?_
   ·ext;exact q
   rw[z25,show ds.map (fun z=>PyData.int (z+s))=(ds.map (·+s)).map .int by rw[z20];rfl];ext;exact q
theorem zQ0 :zm ["_law_told","_law_far"] ["_law_told","_law_far"] (zb sMB):=.o
theorem zD0 {f:Addr}{fd:FuncData}(F:Fun K "_law_moved_bill" "_law_moved_bill" sMB f fd)(hm:mg "_law_moved_bill"=some (.ref f))(hb:Binds K fd ["_law_told","_law_far"] [])(nb:NbT mg):Cal P w K mg base "_law_moved_bill" 1 zD4:=by
 refine yM F hm hb zQ0 (fun as Q h=>?_) (fun cdv A' outer s H E as Q hr h=>?_)
 ·obtain⟨S,fee,s,rs,rfl,_⟩:=h;rfl
 ·obtain⟨S,fee,s,rs,rfl,rl,q⟩:=h;have nd:=zQ0.nd;ext;refine EvL.d (yX ["_law_night","_law_coins_here","_law_free","_law_far"] [none,none,none,some 1] (.many [0,1,2]) (yj ?_));ext;refine⟨by rw[zX5];omega,?_⟩;refine zR (fun r=>wN (shR s r)) (fun r hr'=>⟨_,rfl,fun _ _ _ _ Q q=>?_⟩) ?_
  ·ext;exact q
  rw[z25,show rs.map (fun r=>wN (shR s r))=(rs.map (shR s)).map wN by rw[z20];rfl];ext;exact q
end
noncomputable abbrev rz :Stmt:=top 78
noncomputable abbrev NmL :List Str:=["_law_script","_law_tape_here","_law_days","_law_base","_law_books_here","_law_far","_law_moved","_law_book","_law_turn","_law_stay_here","_law_there","_law_one","_law_other","_law_k","_law_some"]
theorem pR :zm NmL ["_law_script"] (zb rz):=.o
noncomputable def zN8 :List Stmt:=match (zy rz).getD 7 (.Pass ⟨0,0,0,0⟩) with
 |.For _ _ b _ _=>b
 |_=>[]
noncomputable abbrev stB (k:Nat):Stmt:=zN8.getD k (.Pass ⟨0,0,0,0⟩)
noncomputable abbrev cxL (P:Program)(w:World)(K:PySem.W.Frag)(mg:Str->Option Value)(base:Heap)(f:Addr)(cdv:Value)(A':Around)(outer:List Env)(s:Shared)(H:Hp)(E:XK):Cx:=(uv CX0 P w K mg base NmL "law" (zb rz) f cdv A' outer s H E).nox
abbrev RmL (f:Addr)(cdv:Value)(A':Around)(s:Shared):Prop:=zS (11+1) (A'.deeper (envOfC "law" (zb rz) s.heap.objs.size f cdv))
noncomputable abbrev stL (C:Addr)(cs:Cs)(dy b v:Int)(Bs:List (List PyData))(o7:Option A)(d:PyData)(c g:Int)(t1 t2:PyData)(o13 o14:Option A):Ev:=[none,some .tape,some (.dat (.int dy)),some (.dat (.int b)),some (.dat (zL C cs Bs)),some (.dat (.int v)),some (.dat (zL C cs (Bs.map (mvB v)))),o7,some (.dat d),some (.dat (.tuple [.int c,.int g])),some (.dat (.tuple [.int (c+v),.int (g+v)])),some (.dat t1),some (.dat t2),o13,o14]
section
variable {P:Program}{w:World}{K:PySem.W.Frag}{mg:Str->Option Value}{base:Heap}{cs:Cs}{f C:Addr}{cdv:Value}{A':Around}{outer:List Env}{s:Shared}{H:Hp}{E:XK}{En:xi}{dy b c g x v:Int}{Bs:List (List PyData)}{t1 t2 d:PyData}{ps ps':List Part}{pp pp' ds ds':List Int}{o7 o13 o14:Option A}
theorem q4h (hr:RmL f cdv A' s):SvS (cxL P w K mg base f cdv A' outer s H E) (stL C cs dy b v Bs o7 d c g (tdH x ps pp) (tdH x ps' pp') o13 o14) [stB 4] {En with nx:=fun α=>α=stL C cs dy b v Bs o7 d c g (tdH x ps pp) (tdH x ps' pp') o13 o14}:=by
 have nd:=pR.nd;refine yQ ?_;ext;refine uj (by simp) ?_;ext;rfl
theorem q4o (hr:RmL f cdv A' s):SvS (cxL P w K mg base f cdv A' outer s H E) (stL C cs dy b v Bs o7 d c g (tdO ds) (tdO ds') o13 o14) [stB 4] {En with nx:=fun α=>α=stL C cs dy b v Bs o7 d c g (tdO ds) (tdO ds') o13 o14}:=by
 have nd:=pR.nd;refine yQ ?_;ext;rfl
theorem q5h (nb:NbT mg)(hr:RmL f cdv A' s)(CL:Cal P w K mg base "lets_by" 10 (si C cs))(CM:Cal P w K mg base "_law_moved_told" 1 cN)(bo:zG (Bs.map (mvB v)))(bl:Bs.length<=4)(sg:zD (c+v) (g+v))(pl:ps.length<=14)(ql:pp.length<=14)(pb:zb5 pp)(ok:vP (Bs.map (mvB v)) (c+v) (g+v) x ((ps.map (sh v)).map p3) pp):SvS (cxL P w K mg base f cdv A' outer s H E) (stL C cs dy b v Bs o7 d c g (tdH x ps pp) t2 o13 o14) [stB 5] {En with nx:=fun α=>α=stL C cs dy b v Bs o7 d c g (tdH x ps pp) t2 o13 o14}:=by
 have nd:=pR.nd;refine yQ ?_;ext;refine⟨_,v,rfl,.inl ⟨x,ps,pp,rfl,pl,ql,?_⟩⟩;ext;refine⟨Bs.map (mvB v),c+v,g+v,_,rfl,bo,by rw[zX5];omega,sg,.inl ⟨x,(ps.map (sh v)).map p3,pp,by unfold zb9;rw[zA5];rfl,pb,?_⟩⟩;rw[mr ok];ext;rfl
theorem q5o (nb:NbT mg)(hr:RmL f cdv A' s)(CL:Cal P w K mg base "lets_by" 10 (si C cs))(CM:Cal P w K mg base "_law_moved_told" 1 cN)(bo:zG (Bs.map (mvB v)))(bl:Bs.length<=4)(sg:zD (c+v) (g+v))(dl:ds.length<=14)(ok:uZ (Bs.map (mvB v)) (c+v) (g+v) (ds.map (·+v))):SvS (cxL P w K mg base f cdv A' outer s H E) (stL C cs dy b v Bs o7 d c g (tdO ds) t2 o13 o14) [stB 5] {En with nx:=fun α=>α=stL C cs dy b v Bs o7 d c g (tdO ds) t2 o13 o14}:=by
 have nd:=pR.nd;refine yQ ?_;ext;refine⟨_,v,rfl,.inr ⟨ds,rfl,dl,?_⟩⟩;ext;refine⟨Bs.map (mvB v),c+v,g+v,_,rfl,bo,by rw[zX5];omega,sg,.inr ⟨ds.map (·+v),rfl,by rw[zX5];omega,?_⟩⟩;rw[mr ok];ext;rfl
theorem q6h (nb:NbT mg)(hr:RmL f cdv A' s)(CL:Cal P w K mg base "lets_by" 10 (si C cs))(CM:Cal P w K mg base "_law_moved_told" 1 cN)(bo:zG Bs)(bl:Bs.length<=4)(sg:zD c g)(pl:ps.length<=14)(ql:pp.length<=14)(pb:zb5 pp)(ok:vP Bs c g x ((ps.map (sh (0-v))).map p3) pp):SvS (cxL P w K mg base f cdv A' outer s H E) (stL C cs dy b v Bs o7 d c g t1 (tdH x ps pp) o13 o14) [stB 6] {En with nx:=fun α=>α=stL C cs dy b v Bs o7 d c g t1 (tdH x ps pp) o13 o14}:=by
 have nd:=pR.nd;refine yQ ?_;ext;refine⟨_,0-v,rfl,.inl ⟨x,ps,pp,rfl,pl,ql,?_⟩⟩;ext;refine⟨Bs,c,g,_,rfl,bo,by omega,sg,.inl ⟨x,(ps.map (sh (0-v))).map p3,pp,by unfold zb9;rw[zA5];rfl,pb,?_⟩⟩;rw[mr ok];ext;rfl
theorem q6o (nb:NbT mg)(hr:RmL f cdv A' s)(CL:Cal P w K mg base "lets_by" 10 (si C cs))(CM:Cal P w K mg base "_law_moved_told" 1 cN)(bo:zG Bs)(bl:Bs.length<=4)(sg:zD c g)(dl:ds.length<=14)(ok:uZ Bs c g (ds.map (·+(0-v)))):SvS (cxL P w K mg base f cdv A' outer s H E) (stL C cs dy b v Bs o7 d c g t1 (tdO ds) o13 o14) [stB 6] {En with nx:=fun α=>α=stL C cs dy b v Bs o7 d c g t1 (tdO ds) o13 o14}:=by
 have nd:=pR.nd;refine yQ ?_;ext;refine⟨_,0-v,rfl,.inr ⟨ds,rfl,dl,?_⟩⟩;ext;refine⟨Bs,c,g,_,rfl,bo,by omega,sg,.inr ⟨ds.map (·+(0-v)),rfl,by rw[zX5];omega,?_⟩⟩;rw[mr ok];ext;rfl
theorem cE (l:List (Str×Int)):(l.map fun p=>PyData.str p.1).all sX=true:=by
 induction l with
 |nil=>rfl
 |cons p l ih=>rw[zZ6,yb6,ih];rfl
theorem oJ (ds:List PyData)(c g:Int):(wg ds c g).length<=(g-c).toNat+4:=by
 have:(gc c g).length=(g-c).toNat+4:=by
  unfold gc;rw[z00,zX5,zc];rfl
 rw[<-this];exact List.length_filter_le _ _
theorem in_str {x:Str}:∀{l:List (Str×Int)},inD (.str x) (l.map fun p=>PyData.str p.1)=false->∀p∈l,p.1≠x
 |[],_,p,hp=>by cases hp
 |q::l,h,p,hp=>by
  have h:(eqV (.str q.1) (.str x)||inD (.str x) (l.map fun p=>PyData.str p.1))=false:=h;rw[Bool.or_eq_false_iff] at h;rcases zY1.mp hp with rfl|hp
  ·intro e;have:=h.1;rw[e] at this;simp[eqV] at this
  ·exact in_str h.2 p hp
theorem zy1 {es:List PyData}{c g:Int}(h:inD (.str (Str.ofString "price")) ((wg es c g).map fun p=>PyData.str p.1)=false):sx es c g:=fun z z0 z1=>by
 cases q:wA (zo es "price" z) with
 |false=>rfl
 |true=>
  refine absurd rfl (in_str h (Str.ofString "price",z) (ye7.mpr ⟨z64 _ (z09.mpr ⟨z,?_,rfl⟩),q⟩));unfold zq;exact z09.mpr ⟨(z-c).toNat,yg2.mpr (by omega),by omega⟩
theorem pZ {ds:List PyData}{c g:Int}(ro:zB ds)(sg:zD c g)(so:sx ds c g):zT sizeLine (oR ds c g):=by
 obtain⟨c0,cg,g1,g2⟩:=sg;have z1:-big<(0:Int):=by decide
 have z2:(100000000000000:Int)<big:=by decide
 have ni:∀i:Int,0<=i->i<=100000000000000->zT 2000 (.int i):=fun i h0 h1=>zT.int (by omega) (by omega);have f:=(rC ro c).2;have sl:=iH (b:=1000000000000) (ns:=yz (prs ds c g) (uL ds c g)) fun n hn=>uU ro so (wO hn);have l:=ur (prs ds c g) (uL ds c g);have l2:(prs ds c g).length<=14:=by unfold prs;rw[zX5,zc];omega
 have rl:(vD ds c g).length<=14:=by
  have:=pF (zq c (g-c).toNat) (prs ds c g) (uL ds c g);rw[zc] at this;unfold vD;omega
 have nr:∀r∈vD ds c g,zT 7000 (wN r)/\(wN r).depth<=1:=fun r hr=>by
  obtain⟨n,z,b⟩:=r;obtain⟨h1,h2⟩:=pf hr;have m:=yR.mp h1;have p:=uU ro so h2;refine⟨zT.tuple (n:=2000) ⟨fun d hd=>?_,fun d hd=>?_⟩ (zZ8 rfl),by simp[wN,PyData.depth,PyData.depthAll]⟩
  ·simp only[zY1,zZ3,z23] at hd;rcases hd with rfl|rfl|rfl
   ·exact ni _ (by show 0<=n;omega) (by show n<=_;omega)
   ·exact ni _ p.1 (by show z<=_;omega)
   ·cases b<;>exact⟨rfl,rfl,zZ4 _,by decide +kernel,rfl⟩
  ·simp only[zY1,zZ3,z23] at hd;rcases hd with rfl|rfl|rfl<;>exact zZ4 _
 have nl:zT 100000 (.list ((vD ds c g).map wN)):=by
  refine zT.list (n:=7000) ⟨fun d hd=>?_,fun d hd=>?_⟩ ?_
  ·obtain⟨r,hr,rfl⟩:=z09.mp hd;exact (nr r hr).1
  ·obtain⟨r,hr,rfl⟩:=z09.mp hd;have:=(nr r hr).2;omega
  ·rw[zX5];have:(vD ds c g).length*(7000+2)<=14*(7000+2):=yb3 _ rl;omega
 have dl:(PyData.list ((vD ds c g).map wN)).depth<=7:=by
  have:PyData.depthAll ((vD ds c g).map wN)<=1:=by
   have h:∀l:List Row,PyData.depthAll (l.map wN)<=1:=fun l=>by
    induction l with
    |nil=>exact zZ4 _
    |cons r l ih=>
     simp only[zZ6,PyData.depthAll];have:(wN r).depth=1:=rfl;omega
   exact h _
  simp only[PyData.depth];omega
 unfold oR;refine zT.tuple (n:=100000) ⟨fun d hd=>?_,fun d hd=>?_⟩ (by show 3*(100000+2)+3<=sizeLine;decide)
 ·simp only[zY1,zZ3,z23] at hd;rcases hd with rfl|rfl|rfl
  ·exact (ni _ (by unfold eW;omega) (by unfold eW;omega)).mono (by decide)
  ·exact nl
  ·exact (ni _ f.1 (by omega)).mono (by decide)
 ·simp only[zY1,zZ3,z23] at hd;rcases hd with rfl|rfl|rfl
  ·exact zZ4 _
  ·exact dl
  ·exact zZ4 _
def zP4 :List Stmt:=match stB 7 with
 |.For _ _ b _ _=>b
 |_=>[]
abbrev stK (k:Nat):Stmt:=zP4.getD k (.Pass ⟨0,0,0,0⟩)
theorem r1 (nb:NbT mg)(hr:RmL f cdv A' s)(CBa:Cal P w K mg base "bars" 3 (qm C cs)){n:Nat}{es:List PyData}(e1:Bs[n]?=some es)(ro:zB es)(rm:zB (mvB v es))(sg:zD c g)(sg':zD (c+v) (g+v)):SvS (cxL P w K mg base f cdv A' outer s H E) (stL C cs dy b v Bs o7 d c g t1 t2 (some (.dat (.int n))) (some (.dat (.list ((wg es c g).map pP))))) [stK 1] {En with nx:=fun α=>α=stL C cs dy b v Bs o7 d c g t1 t2 (some (.dat (.int n))) (some (.dat (.list ((wg es c g).map pP))))}:=by
 have nd:=pR.nd;obtain⟨a1,a2,a3,a4⟩:=id sg;obtain⟨b1,b2,b3,b4⟩:=id sg';refine yQ ?_;ext;refine ixk rfl rfl (yF (j:=n) (show ((Bs.map (mvB v)).map (ye C cs))[n]?=some (ye C cs (mvB v es)) by rw[zY3,zY3,e1];rfl)) ?_;ext;refine⟨mvB v es,c+v,g+v,rfl,rm.rules,by omega,by omega,by omega,by omega,?_⟩;have nn:=tZ (ds:=mvB v es) sg';rw[uh,gU ro] at nn ⊢;refine EvL.d (yX ["_law_word","_law_day","_law_far"] [none,none,some 5] (.many [0,1]) (yj (zi 14 rfl ⟨_,rfl,by rw[zX5];have:=oJ es c g;omega,?_⟩)));refine zR (fun p=>pP (shP v p)) (fun p hp=>⟨_,rfl,fun _ _ _ _ Q q=>?_⟩) ?_
 ·ext;exact q
 rw[z25,show (wg es c g).map (fun p=>pP (shP v p))=((wg es c g).map (shP v)).map pP by rw[z20];rfl];refine eqk nn.shaped nn.shaped nn.nod nn.nod ?_;refine uj (by show (!PyData.eqv (.list _) (.list _))=false;rw[SeqAt.eqv_refl _ nn.lay];rfl) ?_;ext;rfl
theorem r2 (nb:NbT mg)(hr:RmL f cdv A' s)(CBi:Cal P w K mg base "bill" 5 (nR C cs))(CM:Cal P w K mg base "_law_moved_bill" 1 zD4){n:Nat}{es:List PyData}(e1:Bs[n]?=some es)(ro:zB es)(rm:zB (mvB v es))(sg:zD c g)(sg':zD (c+v) (g+v)):SvS (cxL P w K mg base f cdv A' outer s H E) (stL C cs dy b v Bs o7 d c g t1 t2 (some (.dat (.int n))) (some (.dat (.list ((wg es c g).map pP))))) [stK 2] {En with nx:=fun α=>α=stL C cs dy b v Bs o7 d c g t1 t2 (some (.dat (.int n))) (some (.dat (.list ((wg es c g).map pP))))}:=by
 have nd:=pR.nd;obtain⟨a1,a2,a3,a4⟩:=id sg;obtain⟨b1,b2,b3,b4⟩:=id sg';refine yQ ?_;ext;refine EvL.d (yX ["_law_word","_law_day"] [none,none] (.many [0,1]) (yj (zi 14 rfl ⟨_,rfl,by rw[zX5];have:=oJ es c g;omega,?_⟩)));refine zR (fun p=>.str p.1) (fun p hp=>⟨_,rfl,fun _ _ _ _ Q q=>?_⟩) ?_
 ·ext;exact q
 rw[z25];refine ink rfl (cE _) ?_;cases hk:inD (.str (Str.ofString "price")) ((wg es c g).map fun p=>PyData.str p.1) with
 |true=>
  refine uj rfl ?_;exact zA (zA rfl)
 |false=>
  have so:sx es c g:=zy1 hk;have so':sx (mvB v es) (c+v) (g+v):=fun z z0 z1=>by
   rw[show z=z-v+v by omega,wX es ro];exact so (z-v) (by omega) (by omega)
  have n1:=pZ rm sg' so';have n2:=pZ ro sg so;refine mI rfl ?_;refine yQ ?_;ext;refine ixk rfl rfl (yF (j:=n) (show ((Bs.map (mvB v)).map (ye C cs))[n]?=some (ye C cs (mvB v es)) by rw[zY3,zY3,e1];rfl)) ?_;ext;refine⟨mvB v es,c+v,g+v,rfl,rm,sg',so',n1,?_⟩;ext;refine ixk rfl rfl (yF (j:=n) (show (Bs.map (ye C cs))[n]?=some (ye C cs es) by rw[zY3,e1];rfl)) ?_;ext;refine⟨es,c,g,rfl,ro,sg,so,?_⟩;ext;refine⟨eW es c g,xk es c,v,vD es c g,rfl,by have:=pF (zq c (g-c).toNat) (prs es c g) (uL es c g);rw[zc] at this;unfold vD;omega,?_⟩;rw[<-zp4 ro];refine⟨n1,?_⟩;refine fV ?_;refine uj (by rw[z33 rfl];rfl) ?_;exact zA (zA (zA rfl))
end
theorem kH {ds:List Int}{c g:Int}(hs:ds.Pairwise (·<·))(hr:∀d∈ds,c<=d/\d<g):ds.length<=(g-c).toNat:=by
 induction ds generalizing c with
 |nil=>simp
 |cons d ds ih=>
  rw[z73] at hs;have h0:=hr d zY6;have:=ih (c:=d+1) hs.2 fun e he=>⟨by have:=hs.1 e he;omega,(hr e (zY4 _ he)).2⟩;rw[zY9];omega
section
variable {P:Program}{w:World}{K:PySem.W.Frag}{mg:Str->Option Value}{base:Heap}{cs:Cs}
theorem zB7 {f fT C:Addr}{fd fdT:FuncData}(F:Fun K "law" "law" rz f fd)(nb:NbT mg)(GT:zF P w K mg base CX0 1 fT fdT ["_law_script"] (jO K))(mT:mg "_law_tape"=some (.ref fT))(kT:PySem.W.keepIn K (.ref fT)=true)(bT:Binds K fdT ["_law_script"] [])
  (CD:Cal P w K mg base "_law_draw" 1 xZ) (CB:Cal P w K mg base "_law_books" 11 (qA C cs)) (CBe:Cal P w K mg base "best" 9 (aQ C cs)) (CS:Cal P w K mg base "_law_stay" 2 zc0) (CBk:cA P w K mg base "Book" 9 [] (qw C cs)) (MR:vt P w K mg base C "rules" 3 (md C cs)) (CT:Cal P w K mg base "_law_moved_told" 1 cN) (CMB:Cal P w K mg base "_law_moved_bill" 1 zD4) (CL:Cal P w K mg base "lets_by" 10 (si C cs)) (CBa:Cal P w K mg base "bars" 3 (qm C cs)) (CBi:Cal P w K mg base "bill" 5 (nR C cs)):
  zF P w K mg base CX0 13 f fd ["_law_script"] (kr K):=by
 refine zV1 (k:=11) F pR GT mT kT bT rfl rfl (Or.inl rfl) (Or.inl rfl) (fun cdv A' outer s H E hr=>?_);have nd:=pR.nd;ext;rename_i v1 a1 b1 b b0 b1';obtain⟨dy,hdy⟩:∃dy:Int,dy=2+v1:=⟨_,rfl⟩;rw[<-hdy];refine⟨b,dy,rfl,⟨by omega,by omega,by omega,by omega⟩,fun Bs bo bl0 bl1 dl bw=>?_⟩;ext;refine zz1 (fun d=>∃v:Int,d=.int v/\0<=v/\v<=998900) rfl (by assumption) (by assumption) ⟨⟨_,rfl,by omega,by omega⟩,⟨_,rfl,by omega,by omega⟩,⟨_,rfl,by omega,by omega⟩,trivial⟩ ?_;rintro _ ⟨v,rfl,v0,v1'⟩;have mo:∀ds∈Bs,zB (mvB v ds):=fun ds hd=>zQ3 (bw ds hd) (by omega) (by omega);have bm:zG (Bs.map (mvB v)):=fun ds hd=>by
  obtain⟨es,he,rfl⟩:=z09.mp hd;exact mo es he
 refine xj 6 nd ?_;ext;refine xf (.one 7) (yj ?_);ext;refine zX (fun i α=>∃o7:Option A,α=[none,some .tape,some (.dat (.int dy)),some (.dat (.int b)),some (.dat (zL C cs Bs)),some (.dat (.int v)),some (.own (((Bs.take i).map (mvB v)).map (ye C cs))),o7,none,none,none,none,none,none,none]) ⟨none,rfl⟩ ?_ ?_
 ·rintro i d α hd ⟨o7,rfl⟩;rw[zY3] at hd;obtain⟨es,he,rfl⟩:=zZ2.mp hd;have hi:=(zY0.mp he).1;have hm:=z27 he;have ro:=bo es hm;refine⟨_,rfl,?_⟩;refine yD 6 rfl (EvN.d (fA CBk (hr.mono (by decide)) (by rfl) (zg (EvL.d (yX ["_law_word","_law_first","_law_last","_law_worth_here","_law_far"] [none,none,none,none,some 5] (.many [0,1,2,3]) (yj ?_))))));ext;have lee:=dl es hm;refine⟨ro.rules,by omega,⟨es,rfl,by omega,?_⟩⟩;refine pV (fun i acc=>acc=(es.take i).map (mvR v)) rfl (fun i d acc hd ha=>?_) (fun acc ha=>?_)
  ·obtain⟨u,p,q,w',hu,rfl,_⟩:=vh (ro d (z27 hd)).rule;refine⟨_,rfl,fun C' s2 H2 fp=>nG ?_⟩;rw[if_pos rfl];intro C' s2 H2 fp;ext;rw[z44,hd,ha,z03];rfl
  ·rw[z56] at ha;subst ha;ext;refine⟨mvB v es,.inl rfl,(mo es hm).rules,by unfold mvB;rw[zX5];omega,?_⟩;refine⟨by rw[zX5,zX5,z04];omega,?_⟩;refine zA ⟨some (.dat (ye C cs es)),?_⟩;rw[z44,he,Option.toList_some,z03,z03];rfl
 rintro α ⟨o7,rfl⟩;rw[zX5,z56];refine jr 6 rfl ?_;refine xf (.one 8) (xS (by rfl) nb.range ?_);ext;refine⟨by omega,by omega,?_⟩;refine zX (fun i α=>∃o7 o8 o9 o10 o11 o12 o13 o14:Option A,α=[none,some .tape,some (.dat (.int dy)),some (.dat (.int b)),some (.dat (zL C cs Bs)),some (.dat (.int v)),some (.dat (zL C cs (Bs.map (mvB v)))),o7,o8,o9,o10,o11,o12,o13,o14]) ⟨o7,none,none,none,none,none,none,none,rfl⟩ ?_ ?_
 ·rintro i d α hd ⟨o7,o8,o9,o10,o11,o12,o13,o14,rfl⟩;refine⟨_,rfl,?_⟩;ext;refine⟨b,dy,rfl,⟨by omega,by omega,by omega,by omega⟩,fun c g h1 h2 h3=>?_⟩;have sg:zD c g:=⟨by omega,by omega,by omega,by omega⟩;have sg':zD (c+v) (g+v):=⟨by omega,by omega,by omega,by omega⟩;ext;refine⟨Bs,c,g,rfl,bo,by omega,sg,fun S=>?_⟩;ext;refine⟨Bs.map (mvB v),c+v,g+v,rfl,bm,by rw[zX5];omega,sg',fun S'=>?_⟩;have R:=zg8 bo sg sg';have R':=zk3 bo sg sg';have last:∀(t1 t2:PyData) (o7 o13 o14:Option A) (En:xi),(∀α,(∃o13 o14,α=stL C cs dy b v Bs o7 d c g t1 t2 o13 o14)->En.nx α)->SvS (cxL P w K mg base f cdv A' outer s H E) (stL C cs dy b v Bs o7 d c g t1 t2 o13 o14) [stB 7] En:=fun t1 t2 o7 o13 o14 En hE=>by
   refine xf (.one 13) (xS (by rfl) nb.range ?_);ext;rw[zX5];refine⟨by omega,by omega,?_⟩;rw[z42];refine zX (fun n α=>∃o13 o14,α=stL C cs dy b v Bs o7 d c g t1 t2 o13 o14) ⟨_,_,rfl⟩ ?_ ?_
   ·rintro n d' α hd' ⟨o13,o14,rfl⟩;rw[zY3] at hd';obtain⟨k,hk,rfl⟩:=zZ2.mp hd';have hn:n<Bs.length:=by
     have:=(zY0.mp hk).1
     rwa [zc] at this
    rw[zY hn] at hk;obtain rfl:(n:Int)=k:=by simpa using hk
    have e1:=zX7 hn;have hm:=z38 hn;refine⟨_,rfl,?_⟩;refine yu 14 nd (EvL.d (xV CBa (hr.mono (by decide)) (by rfl) (zg (aT hr.one (fun _ _=>rfl) (zi 4 rfl (zi 13 rfl (ixk rfl rfl (yF (j:=n) (show (Bs.map (ye C cs))[n]?=some (ye C cs Bs[n]) by rw[zY3,e1];rfl)) (zg (zi 9 rfl (zt ⟨Bs[n],c,g,rfl,(bo _ hm).rules,by omega,by omega,by omega,by omega,⟨_,rfl,?_⟩⟩))))))))));rw[uh];refine yr _ (r1 nb hr CBa e1 (bo _ hm) (mo _ hm) sg sg') ?_;rintro α rfl;refine yr _ (r2 nb hr CBi CMB e1 (bo _ hm) (mo _ hm) sg sg') ?_;rintro α rfl;exact zA ⟨_,_,rfl⟩
   ·rintro α h;exact zA (hE α h)
  rcases R.words bo bm sg sg' with ⟨x,ps,pp,x',ps',pp',hw,hw',ex⟩|⟨ds,ds',hw,hw'⟩
  ·obtain rfl:x=x':=by rw[ex,yg3,yf8,z99]
   have lp:=hw.cut.len;have lp':=hw'.cut.len;have lq:=hw.plen;have lq':=hw'.plen;show SvS (cxL P w K mg base f cdv A' outer s H E) (stL C cs dy b v Bs o7 d c g (bestOf Bs c g) (bestOf (Bs.map (mvB v)) (c+v) (g+v)) o13 o14) _ _;rw[hw.eq,hw'.eq];refine yr _ (q4h hr) ?_;rintro α rfl;have ok1:=R.hadOk bm sg' hw;have ok2:=R'.hadOk bo (by rw[show c+v+(0-v)=c by omega,show g+v+(0-v)=g by omega];exact sg) hw';simp only[yg3,yf8,z99,List.map_id'] at ok1 ok2;rw[show c+v+(0-v)=c by omega,show g+v+(0-v)=g by omega] at ok2;refine yr _ (q5h nb hr CL CT bm bl1 sg' (by omega) (by omega) (fw sg hw.plen hw.pbd) ok1) ?_;rintro α rfl;refine yr _ (q6h nb hr CL CT bo bl1 sg (by omega) (by omega) (fw sg' hw'.plen hw'.pbd) ok2) ?_;rintro α rfl;exact last _ _ _ _ _ _ fun α ⟨_,_,e⟩=>⟨_,_,_,_,_,_,_,_,e⟩
  ·have dl1:=kH hw.sort hw.rng;have dl2:=kH hw'.sort hw'.rng;show SvS (cxL P w K mg base f cdv A' outer s H E) (stL C cs dy b v Bs o7 d c g (bestOf Bs c g) (bestOf (Bs.map (mvB v)) (c+v) (g+v)) o13 o14) _ _;rw[hw.eq,hw'.eq];refine yr _ (q4o hr) ?_;rintro α rfl;have ok1:=R.offOk hw;have ok2:=R'.offOk hw';rw[show c+v+(0-v)=c by omega,show g+v+(0-v)=g by omega] at ok2;refine yr _ (q5o nb hr CL CT bm bl1 sg' (by omega) ok1) ?_;rintro α rfl;refine yr _ (q6o nb hr CL CT bo bl1 sg (by omega) ok2) ?_;rintro α rfl;exact last _ _ _ _ _ _ fun α ⟨_,_,e⟩=>⟨_,_,_,_,_,_,_,_,e⟩
 rintro α ⟨o7,o8,o9,o10,o11,o12,o13,o14,rfl⟩;ext;rfl
end
def FnF (K:PySem.W.Frag)(f:Addr)(nm ql:Str)(st:Stmt):Prop:=∃fd,Fun K nm ql st f fd
theorem mkF {K:PySem.W.Frag}{f:Addr}{nm ql:Str}{st:Stmt}{oc kV dc pm cd ct:Value}{od an:Option Addr}{sl:Array (Option Value)}(l:K.lookup f=some ⟨oc,od,.func (PySem.W.fnOf nm ql (zV st) (zy st) (zb st) .none kV dc pm an cd ct),sl⟩)(c:PySem.W.codeIn K cd ql=true)(k:PySem.W.keepIn K (.ref f)=true):FnF K f nm ql st:=⟨_,iE l c k⟩
def FnG (K:PySem.W.Frag)(f:Addr)(nm:Str)(st:Stmt):Prop:=PySem.W.nsIn K mainGlobals nm=some (some (.ref f))/\FnF K f nm nm st
theorem mkG {K:PySem.W.Frag}{f:Addr}{nm:Str}{st:Stmt}{oc kV dc pm cd ct:Value}{od an:Option Addr}{sl:Array (Option Value)}(a:PySem.W.nsIn K mainGlobals nm=some (some (.ref f)))(l:K.lookup f=some ⟨oc,od,.func (PySem.W.fnOf nm nm (zV st) (zy st) (zb st) .none kV dc pm an cd ct),sl⟩)(c:PySem.W.codeIn K cd nm=true)(k:PySem.W.keepIn K (.ref f)=true):FnG K f nm st:=⟨a,mkF l c k⟩
theorem FnF.get {K:PySem.W.Frag}{f:Addr}{nm ql:Str}{st:Stmt}(ps:List Str)(h:FnF K f nm ql st)(hb:∀(kV doc pm:Value) (an:Option Addr) (cdv ct:Value) (us:List Value),us.length=ps.length->bindArgs (PySem.W.fnOf nm ql (zV st) (zy st) (zb st) .none kV doc pm an cdv ct) ⟨us,[]⟩=pure (ps.zip us)):∃fd,Fun K nm ql st f fd/\Binds K fd ps []:=by
 obtain⟨fd,F⟩:=h;exact⟨fd,F,F.binds hb⟩
theorem FnG.get {K:PySem.W.Frag}{h0:Heap}{mg:Str->Option Value}{f:Addr}{nm:Str}{st:Stmt}(ps:List Str)(h:FnG K f nm st)(X:K.In h0)(G:h0.Ns mainGlobals mg)(hb:∀(kV doc pm:Value) (an:Option Addr) (cdv ct:Value) (us:List Value),us.length=ps.length->bindArgs (PySem.W.fnOf nm nm (zV st) (zy st) (zb st) .none kV doc pm an cdv ct) ⟨us,[]⟩=pure (ps.zip us)):∃fd,mg nm=some (.ref f)/\Fun K nm nm st f fd/\Binds K fd ps []:=by
 obtain⟨a,fd,F⟩:=h;exact⟨fd,z40 X G a,F,F.binds hb⟩
theorem mkR {K:PySem.W.Frag}{C gi gt ge gw:Addr}(pg:PySem.W.plainGet K C Str.empty=true)(hd:PySem.W.hasDictIn K C=true)(po:PySem.W.plainOver K C=true)(sa:PySem.W.findIn K (.ref C) "__setattr__"=some (some (.builtin "object.__setattr__")))(n1:PySem.W.findIn K (.ref C) "first"=some none)(n2:PySem.W.findIn K (.ref C) "last"=some none)(n3:PySem.W.findIn K (.ref C) "worth"=some none)(mk:PySem.W.makesIn K C=true)(f1:PySem.W.findIn K (.ref C) "__init__"=some (some (.ref gi)))(i1:PySem.W.isFn K (.ref gi)=true)(kc:PySem.W.keepIn K (.ref C)=true)(f2:PySem.W.findIn K (.ref C) "told"=some (some (.ref gt)))(i2:PySem.W.isFn K (.ref gt)=true)(k2:PySem.W.keepIn K (.ref gt)=true)(f3:PySem.W.findIn K (.ref C) "tells"=some (some (.ref ge)))(i3:PySem.W.isFn K (.ref ge)=true)(k3:PySem.W.keepIn K (.ref ge)=true)(f4:PySem.W.findIn K (.ref C) "word"=some (some (.ref gw)))(i4:PySem.W.isFn K (.ref gw)=true)(k4:PySem.W.keepIn K (.ref gw)=true):wG K C gi gt ge gw:=⟨⟨pg,hd,po,sa⟩,n1,n2,n3,⟨mk,f1,i1,kc⟩,⟨f2,i2,k2⟩,⟨f3,i3,k3⟩,⟨f4,i4,k4⟩⟩
theorem ck {K:PySem.W.Frag}{dT:Addr}{oc kV doc pm cdv ct:Value}{od an:Option Addr}{n:Nat}{sl:Array (Option Value)}(lk:K.lookup dT=some ⟨oc,od,.seq #[.none] n,sl⟩):
  Binds K (PySem.W.fnOf "__init__" "Book.__init__" (zV xN) (zy xN) (zb xN) (.ref dT) kV doc pm an cdv ct) ["self","rules"] [.none]:=fun s us hk hl=>by
 match us,(show us.length=1 by rw[z00] at hl;simpa using hl) with
 |[u],_=>exact BindsTo.of_defaults (T:=dT) rfl (hk _ _ lk) rfl rfl rfl
theorem cQ {K:PySem.W.Frag}{dT:Addr}{oc kV doc pm cdv ct:Value}{od an:Option Addr}{n:Nat}{sl:Array (Option Value)}(lk:K.lookup dT=some ⟨oc,od,.seq #[.none] n,sl⟩):
  Binds K (PySem.W.fnOf "__init__" "Book.__init__" (zV xN) (zy xN) (zb xN) (.ref dT) kV doc pm an cdv ct) ["self","rules"] []:=fun s us hk hl=>by
 rw[z52] at hl ⊢
 match us,hl with
 |[u,v],_=>exact BindsTo.of_defaults (T:=dT) rfl (hk _ _ lk) rfl rfl rfl
theorem zp6 {P:Str->Prop}(h1:P "price")(h2:P "come")(h3:P "go")(h4:P "least")(h5:P "most")(h6:P "deal")(h7:P "fee"):∀u∈words,P u:=by
 intro u hu;simp only[words,zY1,zZ3,z23] at hu;rcases hu with rfl|rfl|rfl|rfl|rfl|rfl|rfl<;>assumption
theorem us1 {α:Type}{p:List α->Prop}(h:∀a,p [a])(us:List α)(hl:us.length=1):p us:=by
 obtain⟨a,rfl⟩:=List.length_eq_one_iff.mp hl;exact h a
theorem us2 {α:Type}{p:List α->Prop}(h:∀a b,p [a,b])(us:List α)(hl:us.length=2):p us:=by
 cases us with
 |nil=>cases hl
 |cons a us=>exact us1 (p:=fun us=>p (a::us)) (h a) us (Nat.succ.inj hl)
theorem us3 {α:Type}{p:List α->Prop}(h:∀a b c,p [a,b,c])(us:List α)(hl:us.length=3):p us:=by
 cases us with
 |nil=>cases hl
 |cons a us=>exact us2 (p:=fun us=>p (a::us)) (h a) us (Nat.succ.inj hl)
theorem us4 {α:Type}{p:List α->Prop}(h:∀a b c d,p [a,b,c,d])(us:List α)(hl:us.length=4):p us:=by
 cases us with
 |nil=>cases hl
 |cons a us=>exact us3 (p:=fun us=>p (a::us)) (h a) us (Nat.succ.inj hl)
theorem us5 {α:Type}{p:List α->Prop}(h:∀a b c d e,p [a,b,c,d,e])(us:List α)(hl:us.length=5):p us:=by
 cases us with
 |nil=>cases hl
 |cons a us=>exact us4 (p:=fun us=>p (a::us)) (h a) us (Nat.succ.inj hl)
theorem all_mk {l:PySem.W.OpenLaw}{w:World}{K:PySem.W.Frag}{h:Heap}{mg:Str->Option Value}{fa cC f1 f2 f3 f4 f5 f6 f7 f8 f9 f10 f11 f12 f13 f14 f15 f16 f17 f18 f19 f20 f21 f22 f23 f24 f25 f26 f27 f28 f29 f30 f31 f32 f33 f34 f35 f36 f37 f38 f39 f40 f41 f42 f43 f44 f45 f46 f47 f48 f49 f50 f51 g_init g_told g_tells g_wPrice g_wCome g_wGo g_wLeast g_wMost g_wDeal g_wFee CPrice CCome CGo CLeast CMost CDeal CFee CB dT g_binit g_brules g_btells dU:Addr}(X:K.In h)(G:h.Ns mainGlobals mg)(hfa:mg "law"=some (.ref fa))
  {od14 an14 od51 an51 odB anB odT:Option Addr} {sl14 sl51 slB slT:Array (Option Value)} {oc14 kV14 dc14 pm14 ct14 oc51 kV51 dc51 pm51 ct51 cd51 ocB kVB dcB pmB ctB cdB ocT:Value} {tk1 tk2 tk3 tk4 tu1 tu2 tu3 tu4 tu5 tu6 tu7 tu8 tu9 tu10:Tok} {hu1 hu2 hu3 hu4 hu5 hu6 hu7:Int} {nT nU:Nat}
  (q1:FnG K f1 "is_whole" qM)
  (q2:FnG K f2 "is_whole_within" nJ)
  (q3:FnG K f3 "is_pair" zc4)
  (q4:FnG K f4 "is_day" zH1)
  (q5:FnG K f5 "is_pair_of_days" zm4)
  (q6:FnG K f6 "is_stretch" qk)
  (q7:FnG K f7 "is_coins" gu)
  (q8:FnG K f8 "is_deal" nV)
  (q9:FnG K f9 "is_worth" jR)
  (q10:FnG K f10 "is_rule" me)
  (q11:FnG K f11 "made" zd0)
  (q12:FnG K f12 "rule_of" nv)
  (q13:FnG K f13 "nights_of" mJ)
  (a14:PySem.W.nsIn K mainGlobals "cheapest_first"=some (some (.ref f14)))
  (l14:K.lookup f14=some ⟨oc14,od14,.func (PySem.W.fnOf "cheapest_first" "cheapest_first" (zV yY) (zy yY) (zb yY) .none kV14 dc14 pm14 an14 (.ref cC) ct14),sl14⟩)
  (c14:PySem.W.codeIn K (.ref cC) "cheapest_first"=true)
  (k14:PySem.W.keepIn K (.ref f14)=true)
  (q15:FnG K f15 "marked" uu)
  (q16:FnG K f16 "night_prices" sNP)
  (q17:FnG K f17 "bill" rf)
  (q18:FnG K f18 "bars" oY)
  (q19:FnG K f19 "can_be_had" zI4)
  (q20:FnG K f20 "cost" aD)
  (q21:FnG K f21 "cost_or_none" zG9)
  (q22:FnG K f22 "arrivals" zH9)
  (q23:FnG K f23 "least_ways" sLW)
  (q24:FnG K f24 "cut_of" iX)
  (q25:FnG K f25 "paper_of" iK)
  (q26:FnG K f26 "best" ze0)
  (q27:FnG K f27 "usual" jL)
  (q28:FnG K f28 "kept_rules" zh8)
  (q29:FnG K f29 "is_part" mj)
  (q30:FnG K f30 "is_cut" gf)
  (q31:FnG K f31 "cut_coins" zh7)
  (q32:FnG K f32 "is_list_of_wholes" zE7)
  (q33:FnG K f33 "costs_no_less" zF7)
  (q34:FnG K f34 "no_part_costs_less" zG7)
  (q35:FnG K f35 "is_had" js)
  (q36:FnG K f36 "leads_out" iz)
  (q37:FnG K f37 "is_rising_from" nO)
  (q38:FnG K f38 "is_off" jE)
  (q39:FnG K f39 "lets_by" au)
  (q40:FnG K f40 "_law_tape" pX)
  (q41:FnG K f41 "_law_draw" zf8)
  (q42:FnG K f42 "_law_coins" nE)
  (q43:FnG K f43 "_law_worth" mi)
  (q44:FnG K f44 "_law_price_rules" nk)
  (q45:FnG K f45 "_law_other_rules" nW)
  (q46:FnG K f46 "_law_rules" mW)
  (q47:FnG K f47 "_law_stay" zf6)
  (q48:FnG K f48 "_law_books" nu)
  (q49:FnG K f49 "_law_moved_told" sMT)
  (q50:FnG K f50 "_law_moved_bill" sMB)
  (a51:PySem.W.nsIn K mainGlobals "law"=some (some (.ref f51)))
  (l51:K.lookup f51=some ⟨oc51,od51,.func (PySem.W.fnOf "law" "law" (zV rz) (zy rz) (zb rz) .none kV51 dc51 pm51 an51 cd51 ct51),sl51⟩)
  (c51:PySem.W.codeIn K cd51 "law"=true)
  (k51:PySem.W.keepIn K (.ref f51)=true)
  (aCPrice:PySem.W.nsIn K mainGlobals "Price"=some (some (.ref CPrice)))
  (aCCome:PySem.W.nsIn K mainGlobals "Come"=some (some (.ref CCome)))
  (aCGo:PySem.W.nsIn K mainGlobals "Go"=some (some (.ref CGo)))
  (aCLeast:PySem.W.nsIn K mainGlobals "Least"=some (some (.ref CLeast)))
  (aCMost:PySem.W.nsIn K mainGlobals "Most"=some (some (.ref CMost)))
  (aCDeal:PySem.W.nsIn K mainGlobals "Deal"=some (some (.ref CDeal)))
  (aCFee:PySem.W.nsIn K mainGlobals "Fee"=some (some (.ref CFee)))
  (RPrice:wG K CPrice g_init g_told g_tells g_wPrice)
  (RCome:wG K CCome g_init g_told g_tells g_wCome)
  (RGo:wG K CGo g_init g_told g_tells g_wGo)
  (RLeast:wG K CLeast g_init g_told g_tells g_wLeast)
  (RMost:wG K CMost g_init g_told g_tells g_wMost)
  (RDeal:wG K CDeal g_init g_told g_tells g_wDeal)
  (RFee:wG K CFee g_init g_told g_tells g_wFee)
  (q_init:FnF K g_init "__init__" "Rule.__init__" gK)
  (q_told:FnF K g_told "told" "Rule.told" zk5)
  (q_tells:FnF K g_tells "tells" "Rule.tells" iA)
  (q_wPrice:FnF K g_wPrice "word" "Price.word" mV)
  (q_wCome:FnF K g_wCome "word" "Come.word" jJ)
  (q_wGo:FnF K g_wGo "word" "Go.word" zI6)
  (q_wLeast:FnF K g_wLeast "word" "Least.word" mS)
  (q_wMost:FnF K g_wMost "word" "Most.word" ia)
  (q_wDeal:FnF K g_wDeal "word" "Deal.word" jq)
  (q_wFee:FnF K g_wFee "word" "Fee.word" aJ)
  (aCB:PySem.W.nsIn K mainGlobals "Book"=some (some (.ref CB)))
  (fi_binit:PySem.W.findIn K (.ref CB) "__init__"=some (some (.ref g_binit)))
  (is_binit:PySem.W.isFn K (.ref g_binit)=true)
  (l_binit:K.lookup g_binit=some ⟨ocB,odB,.func (PySem.W.fnOf "__init__" "Book.__init__" (zV xN) (zy xN) (zb xN) (.ref dT) kVB dcB pmB anB cdB ctB),slB⟩)
  (c_binit:PySem.W.codeIn K cdB "Book.__init__"=true)
  (k_binit:PySem.W.keepIn K (.ref g_binit)=true)
  (lT:K.lookup dT=some ⟨ocT,odT,.seq #[.none] nT,slT⟩)
  (fi_brules:PySem.W.findIn K (.ref CB) "rules"=some (some (.ref g_brules)))
  (is_brules:PySem.W.isFn K (.ref g_brules)=true)
  (q_brules:FnF K g_brules "rules" "Book.rules" uf)
  (fi_btells:PySem.W.findIn K (.ref CB) "tells_of"=some (some (.ref g_btells)))
  (is_btells:PySem.W.isFn K (.ref g_btells)=true)
  (q_btells:FnF K g_btells "tells_of" "Book.tells_of" nC)
  (pgB:PySem.W.plainGet K CB Str.empty=true)
  (hdB:PySem.W.hasDictIn K CB=true)
  (poB:PySem.W.plainOver K CB=true)
  (saB:PySem.W.findIn K (.ref CB) "__setattr__"=some (some (.builtin "object.__setattr__")))
  (mkB:PySem.W.makesIn K CB=true)
  (kcB:PySem.W.keepIn K (.ref CB)=true)
  (noB:PySem.W.findIn K (.ref CB) "kept"=some none)
  (z1:PySem.W.nsIn K mainGlobals "abs"=some none)
  (z2:PySem.W.nsIn K mainGlobals "list"=some none)
  (z3:PySem.W.nsIn K mainGlobals "len"=some none)
  (z4:PySem.W.nsIn K mainGlobals "range"=some none)
  (z5:PySem.W.nsIn K mainGlobals "min"=some none)
  (z6:PySem.W.nsIn K mainGlobals "max"=some none)
  (z7:PySem.W.nsIn K mainGlobals "sorted"=some none)
  (z8:PySem.W.nsIn K mainGlobals "isinstance"=some none)
  (z9:PySem.W.nsIn K mainGlobals "int"=some none)
  (z10:PySem.W.nsIn K mainGlobals "bool"=some none)
  (z11:PySem.W.nsIn K mainGlobals "str"=some none)
  (z12:PySem.W.nsIn K mainGlobals "tuple"=some none)
  (z13:PySem.W.nsIn K mainGlobals "all"=some none)
  (z14:PySem.W.nsIn K mainGlobals "any"=some none)
  (z15:PySem.W.nsIn K mainGlobals "repr"=some none)
  (z16:PySem.W.nsIn K mainGlobals "zip"=some none)
  (z17:PySem.W.nsIn K mainGlobals "enumerate"=some none)
  (z18:PySem.W.nsIn K mainGlobals "reversed"=some none)
  (z19:PySem.W.nsIn K mainGlobals "sum"=some none)
  (gi1:PySem.W.nsIn K mainGlobals "LAST_DAY"=some (some (.int 1000000 tk1)))
  (gi2:PySem.W.nsIn K mainGlobals "MOST_NIGHTS"=some (some (.int 14 tk2)))
  (gi3:PySem.W.nsIn K mainGlobals "MOST_COINS"=some (some (.int 1000000000000 tk3)))
  (gi4:PySem.W.nsIn K mainGlobals "MOST_RULES"=some (some (.int 24 tk4)))
  (aU:PySem.W.nsIn K mainGlobals "USUAL"=some (some (.ref dU)))
  (lU:K.lookup dU=some ⟨.type "dict",none,.dict #[⟨hu1,.str "price" tu1,.none⟩,⟨hu2,.str "come" tu2,.bool true⟩,⟨hu3,.str "go" tu3,.bool true⟩,⟨hu4,.str "least" tu4,.int 1 tu8⟩,⟨hu5,.str "most" tu5,.int 14 tu9⟩,⟨hu6,.str "deal" tu6,.none⟩,⟨hu7,.str "fee" tu7,.int 0 tu10⟩] nU,#[]⟩)
  (hh1:hu1=hashStr w "price")
  (hh2:hu2=hashStr w "come")
  (hh3:hu3=hashStr w "go")
  (hh4:hu4=hashStr w "least")
  (hh5:hu5=hashStr w "most")
  (hh6:hu6=hashStr w "deal")
  (hh7:hu7=hashStr w "fee")
  (hhd:PySem.W.codeHdIn K cC yJ=true):
  ∃fd:FuncData,(∀(s:Shared) (v:Value),BindsTo s fd ⟨[v],[]⟩ [("_law_script",v)])/\∀base:Heap,K.In base->base.Ns mainGlobals mg->base.BuiltinsAt mg yJ->zF l.prog w K mg base CX0 13 fa fd ["_law_script"] (kr K):=by
 have e:=hfa.symm.trans (z40 X G a51);cases e;have nb:NbT mg:=⟨z06 X G z1,z06 X G z2,z06 X G z3,z06 X G z4,z06 X G z5,z06 X G z6,z06 X G z7,z06 X G z8,z06 X G z9,z06 X G z10,z06 X G z11,z06 X G z12,z06 X G z13,z06 X G z14,z06 X G z15,z06 X G z16,z06 X G z17,z06 X G z18,z06 X G z19⟩;obtain⟨_,m_is_whole,F_is_whole,b_is_whole⟩:=q1.get ["thing"] X G fun _ _ _ _ _ _=>us1 fun _=>rfl;obtain⟨_,m_is_whole_within,F_is_whole_within,b_is_whole_within⟩:=q2.get ["thing","lowest","highest"] X G fun _ _ _ _ _ _=>us3 fun _ _ _=>rfl;obtain⟨_,m_is_pair,F_is_pair,b_is_pair⟩:=q3.get ["thing"] X G fun _ _ _ _ _ _=>us1 fun _=>rfl;obtain⟨_,m_is_day,F_is_day,b_is_day⟩:=q4.get ["thing"] X G fun _ _ _ _ _ _=>us1 fun _=>rfl;obtain⟨_,m_is_pair_of_days,F_is_pair_of_days,b_is_pair_of_days⟩:=q5.get ["thing"] X G fun _ _ _ _ _ _=>us1 fun _=>rfl;obtain⟨_,m_is_stretch,F_is_stretch,b_is_stretch⟩:=q6.get ["thing"] X G fun _ _ _ _ _ _=>us1 fun _=>rfl;obtain⟨_,m_is_coins,F_is_coins,b_is_coins⟩:=q7.get ["thing"] X G fun _ _ _ _ _ _=>us1 fun _=>rfl;obtain⟨_,m_is_deal,F_is_deal,b_is_deal⟩:=q8.get ["thing"] X G fun _ _ _ _ _ _=>us1 fun _=>rfl;obtain⟨_,m_is_worth,F_is_worth,b_is_worth⟩:=q9.get ["word","thing"] X G fun _ _ _ _ _ _=>us2 fun _ _=>rfl;obtain⟨_,m_is_rule,F_is_rule,b_is_rule⟩:=q10.get ["thing"] X G fun _ _ _ _ _ _=>us1 fun _=>rfl;obtain⟨_,m_made,F_made,b_made⟩:=q11.get ["word","first","last","worth"] X G fun _ _ _ _ _ _=>us4 fun _ _ _ _=>rfl;obtain⟨_,m_rule_of,F_rule_of,b_rule_of⟩:=q12.get ["thing"] X G fun _ _ _ _ _ _=>us1 fun _=>rfl;obtain⟨_,m_nights_of,F_nights_of,b_nights_of⟩:=q13.get ["stay"] X G fun _ _ _ _ _ _=>us1 fun _=>rfl;have m_cheapest_first:mg "cheapest_first"=some (.ref f14):=z40 X G a14;have F_cheapest_first:=iE (st:=yY) l14 c14 k14;have b_cheapest_first:=F_cheapest_first.binds (ps:=["prices","places"]) fun _ _ _ _ _ _=>us2 fun _ _=>rfl;obtain⟨_,m_marked,F_marked,b_marked⟩:=q15.get ["prices","deal"] X G fun _ _ _ _ _ _=>us2 fun _ _=>rfl;obtain⟨_,m_night_prices,F_night_prices,b_night_prices⟩:=q16.get ["book","nights"] X G fun _ _ _ _ _ _=>us2 fun _ _=>rfl;obtain⟨_,m_bill,F_bill,b_bill⟩:=q17.get ["book","stay"] X G fun _ _ _ _ _ _=>us2 fun _ _=>rfl;obtain⟨_,m_bars,F_bars,b_bars⟩:=q18.get ["book","stay"] X G fun _ _ _ _ _ _=>us2 fun _ _=>rfl;obtain⟨_,m_can_be_had,F_can_be_had,b_can_be_had⟩:=q19.get ["book","stay"] X G fun _ _ _ _ _ _=>us2 fun _ _=>rfl;obtain⟨_,m_cost,F_cost,b_cost⟩:=q20.get ["book","stay"] X G fun _ _ _ _ _ _=>us2 fun _ _=>rfl;obtain⟨_,m_cost_or_none,F_cost_or_none,b_cost_or_none⟩:=q21.get ["book","stay"] X G fun _ _ _ _ _ _=>us2 fun _ _=>rfl;obtain⟨_,m_arrivals,F_arrivals,b_arrivals⟩:=q22.get ["books","ways","day"] X G fun _ _ _ _ _ _=>us3 fun _ _ _=>rfl;obtain⟨_,m_least_ways,F_least_ways,b_least_ways⟩:=q23.get ["books","stay"] X G fun _ _ _ _ _ _=>us2 fun _ _=>rfl;obtain⟨_,m_cut_of,F_cut_of,b_cut_of⟩:=q24.get ["ways","stay"] X G fun _ _ _ _ _ _=>us2 fun _ _=>rfl;obtain⟨_,m_paper_of,F_paper_of,b_paper_of⟩:=q25.get ["ways","stay"] X G fun _ _ _ _ _ _=>us2 fun _ _=>rfl;obtain⟨_,m_best,F_best,b_best⟩:=q26.get ["books","stay"] X G fun _ _ _ _ _ _=>us2 fun _ _=>rfl;obtain⟨_,m_usual,F_usual,b_usual⟩:=q27.get ["word"] X G fun _ _ _ _ _ _=>us1 fun _=>rfl;obtain⟨_,m_kept_rules,F_kept_rules,b_kept_rules⟩:=q28.get ["things"] X G fun _ _ _ _ _ _=>us1 fun _=>rfl;obtain⟨_,m_is_part,F_is_part,b_is_part⟩:=q29.get ["books","stay","thing"] X G fun _ _ _ _ _ _=>us3 fun _ _ _=>rfl;obtain⟨_,m_is_cut,F_is_cut,b_is_cut⟩:=q30.get ["books","stay","thing"] X G fun _ _ _ _ _ _=>us3 fun _ _ _=>rfl;obtain⟨_,m_cut_coins,F_cut_coins,b_cut_coins⟩:=q31.get ["books","cut"] X G fun _ _ _ _ _ _=>us2 fun _ _=>rfl;obtain⟨_,m_is_list_of_wholes,F_is_list_of_wholes,b_is_list_of_wholes⟩:=q32.get ["thing"] X G fun _ _ _ _ _ _=>us1 fun _=>rfl;obtain⟨_,m_costs_no_less,F_costs_no_less,b_costs_no_less⟩:=q33.get ["books","stay","coins"] X G fun _ _ _ _ _ _=>us3 fun _ _ _=>rfl;obtain⟨_,m_no_part_costs_less,F_no_part_costs_less,b_no_part_costs_less⟩:=q34.get ["books","stay","paper"] X G fun _ _ _ _ _ _=>us3 fun _ _ _=>rfl;obtain⟨_,m_is_had,F_is_had,b_is_had⟩:=q35.get ["books","stay","coins","cut","paper"] X G fun _ _ _ _ _ _=>us5 fun _ _ _ _ _=>rfl;obtain⟨_,m_leads_out,F_leads_out,b_leads_out⟩:=q36.get ["books","day","go","days"] X G fun _ _ _ _ _ _=>us4 fun _ _ _ _=>rfl;obtain⟨_,m_is_rising_from,F_is_rising_from,b_is_rising_from⟩:=q37.get ["days","first"] X G fun _ _ _ _ _ _=>us2 fun _ _=>rfl;obtain⟨_,m_is_off,F_is_off,b_is_off⟩:=q38.get ["books","stay","days"] X G fun _ _ _ _ _ _=>us3 fun _ _ _=>rfl;obtain⟨_,m_lets_by,F_lets_by,b_lets_by⟩:=q39.get ["books","stay","thing"] X G fun _ _ _ _ _ _=>us3 fun _ _ _=>rfl;obtain⟨_,m__law_tape,F__law_tape,b__law_tape⟩:=q40.get ["_law_script"] X G fun _ _ _ _ _ _=>us1 fun _=>rfl;obtain⟨_,m__law_draw,F__law_draw,b__law_draw⟩:=q41.get ["_law_tape_here","_law_many"] X G fun _ _ _ _ _ _=>us2 fun _ _=>rfl;obtain⟨_,m__law_coins,F__law_coins,b__law_coins⟩:=q42.get ["_law_tape_here"] X G fun _ _ _ _ _ _=>us1 fun _=>rfl;obtain⟨_,m__law_worth,F__law_worth,b__law_worth⟩:=q43.get ["_law_tape_here","_law_word"] X G fun _ _ _ _ _ _=>us2 fun _ _=>rfl;obtain⟨_,m__law_price_rules,F__law_price_rules,b__law_price_rules⟩:=q44.get ["_law_tape_here","_law_base","_law_days"] X G fun _ _ _ _ _ _=>us3 fun _ _ _=>rfl;obtain⟨_,m__law_other_rules,F__law_other_rules,b__law_other_rules⟩:=q45.get ["_law_tape_here","_law_base","_law_days"] X G fun _ _ _ _ _ _=>us3 fun _ _ _=>rfl;obtain⟨_,m__law_rules,F__law_rules,b__law_rules⟩:=q46.get ["_law_tape_here","_law_base","_law_days"] X G fun _ _ _ _ _ _=>us3 fun _ _ _=>rfl;obtain⟨_,m__law_stay,F__law_stay,b__law_stay⟩:=q47.get ["_law_tape_here","_law_base","_law_days"] X G fun _ _ _ _ _ _=>us3 fun _ _ _=>rfl;obtain⟨_,m__law_books,F__law_books,b__law_books⟩:=q48.get ["_law_tape_here","_law_base","_law_days"] X G fun _ _ _ _ _ _=>us3 fun _ _ _=>rfl;obtain⟨_,m__law_moved_told,F__law_moved_told,b__law_moved_told⟩:=q49.get ["_law_told","_law_far"] X G fun _ _ _ _ _ _=>us2 fun _ _=>rfl;obtain⟨_,m__law_moved_bill,F__law_moved_bill,b__law_moved_bill⟩:=q50.get ["_law_told","_law_far"] X G fun _ _ _ _ _ _=>us2 fun _ _=>rfl;have F_law:=iE (st:=rz) l51 c51 k51;have b_law:=F_law.binds (ps:=["_law_script"]) fun _ _ _ _ _ _=>us1 fun _=>rfl;obtain⟨_,F_init,b_init⟩:=q_init.get ["self","first","last","worth"] fun _ _ _ _ _ _=>us4 fun _ _ _ _=>rfl;obtain⟨_,F_told,b_told⟩:=q_told.get ["self"] fun _ _ _ _ _ _=>us1 fun _=>rfl;obtain⟨_,F_tells,b_tells⟩:=q_tells.get ["self","day"] fun _ _ _ _ _ _=>us2 fun _ _=>rfl;obtain⟨_,F_wPrice,b_wPrice⟩:=q_wPrice.get ["self"] fun _ _ _ _ _ _=>us1 fun _=>rfl;obtain⟨_,F_wCome,b_wCome⟩:=q_wCome.get ["self"] fun _ _ _ _ _ _=>us1 fun _=>rfl;obtain⟨_,F_wGo,b_wGo⟩:=q_wGo.get ["self"] fun _ _ _ _ _ _=>us1 fun _=>rfl;obtain⟨_,F_wLeast,b_wLeast⟩:=q_wLeast.get ["self"] fun _ _ _ _ _ _=>us1 fun _=>rfl;obtain⟨_,F_wMost,b_wMost⟩:=q_wMost.get ["self"] fun _ _ _ _ _ _=>us1 fun _=>rfl;obtain⟨_,F_wDeal,b_wDeal⟩:=q_wDeal.get ["self"] fun _ _ _ _ _ _=>us1 fun _=>rfl;obtain⟨_,F_wFee,b_wFee⟩:=q_wFee.get ["self"] fun _ _ _ _ _ _=>us1 fun _=>rfl;obtain⟨_,F_brules,b_brules⟩:=q_brules.get ["self"] fun _ _ _ _ _ _=>us1 fun _=>rfl;obtain⟨_,F_btells,b_btells⟩:=q_btells.get ["self","word","day"] fun _ _ _ _ _ _=>us3 fun _ _ _=>rfl;have TD:lO mg f1 f2 f3 f4 f5:=⟨nb.isinstance,nb.int,nb.bool,nb.tuple,nb.len,⟨tk1,z40 X G gi1⟩,⟨tk2,z40 X G gi2⟩,m_is_whole,m_is_whole_within,m_is_pair,m_is_day,m_is_pair_of_days⟩;have TR:jt mg f1 f2 f3 f4 f5 f6 f7 f8 f9 f10 f11 ⟨CPrice,CCome,CGo,CLeast,CMost,CDeal,CFee⟩:=⟨TD,⟨tk3,z40 X G gi3⟩,m_is_stretch,m_is_coins,m_is_deal,m_is_worth,m_is_rule,m_made,z40 X G aCPrice,z40 X G aCCome,z40 X G aCGo,z40 X G aCLeast,z40 X G aCMost,z40 X G aCDeal,z40 X G aCFee⟩;have TT:zI9 mg:=⟨nb.abs,nb.list,nb.len⟩;have A7:zk7 K ⟨CPrice,CCome,CGo,CLeast,CMost,CDeal,CFee⟩ g_init g_told g_tells g_wPrice g_wCome g_wGo g_wLeast g_wMost g_wDeal g_wFee:=⟨RPrice,RCome,RGo,RLeast,RMost,RDeal,RFee⟩;refine⟨PySem.W.fnOf "law" "law" (zV rz) (zy rz) (zb rz) .none kV51 dc51 pm51 an51 cd51 ct51,fun s v=>.of_eq rfl,fun base KX _ hbi=>?_⟩;have G_in:=dr (P:=l.prog) (w:=w) (base:=base) F_is_whole_within TD F_is_whole b_is_whole;have G_pair:=zp3 (P:=l.prog) (w:=w) (base:=base) F_is_pair TD;have G_day:=zI0 F_is_day TD G_in F_is_whole_within.kp b_is_whole_within;have G_days:=zo1 F_is_pair_of_days TD G_pair F_is_pair.kp b_is_pair G_day F_is_day.kp b_is_day;have G_stretch:=iq F_is_stretch TD G_days F_is_pair_of_days.kp b_is_pair_of_days;have G_coins:=zg6 F_is_coins TR G_in F_is_whole_within.kp b_is_whole_within;have G_deal:=dZ F_is_deal TR G_in F_is_whole_within.kp b_is_whole_within G_pair F_is_pair.kp b_is_pair;have G_worth:=ze5 F_is_worth TR G_in F_is_whole_within.kp b_is_whole_within G_coins F_is_coins.kp b_is_coins G_deal F_is_deal.kp b_is_deal;have G_rule:=cy F_is_rule TR G_stretch F_is_stretch.kp b_is_stretch G_worth F_is_worth.kp b_is_worth;have G_made:=zo3 (P:=l.prog) (w:=w) (base:=base) F_made TR A7 F_init b_init;have G_ruleOf:=cu F_rule_of TR G_rule F_is_rule.kp b_is_rule G_made F_made.kp b_made;have CRO:Cal l.prog w K mg base "rule_of" 7 (qW ⟨CPrice,CCome,CGo,CLeast,CMost,CDeal,CFee⟩):=jV m_rule_of F_rule_of.kp b_rule_of G_ruleOf;have CKe:Cal l.prog w K mg base "kept_rules" 8 (iN ⟨CPrice,CCome,CGo,CLeast,CMost,CDeal,CFee⟩):=aF F_kept_rules m_kept_rules b_kept_rules nb ⟨tk4,z40 X G gi4⟩ CRO;have cB:Cls K CB:=⟨pgB,hdB,poB,saB⟩;have GBI:=zc3 (zu0 (st:=xN) l_binit c_binit k_binit) cB noB CKe;have m_Book:mg "Book"=some (.ref CB):=z40 X G aCB;have MkB:Mk K CB g_binit:=⟨mkB,fi_binit,is_binit,kcB⟩;have CBk:cA l.prog w K mg base "Book" 9 [] (qw CB ⟨CPrice,CCome,CGo,CLeast,CMost,CDeal,CFee⟩):=⟨CB,g_binit,_,_,_,m_Book,MkB,cQ lT,.nil,GBI⟩;have CBk0:cA l.prog w K mg base "Book" 9 [.non] (qw CB ⟨CPrice,CCome,CGo,CLeast,CMost,CDeal,CFee⟩):=⟨CB,g_binit,_,_,_,m_Book,MkB,ck lT,.cons rfl .nil,GBI⟩;have OT:∀u∈words,vt l.prog w K mg base ((⟨CPrice,CCome,CGo,CLeast,CMost,CDeal,CFee⟩:Cs).of u) "told" 2 (iZ ((⟨CPrice,CCome,CGo,CLeast,CMost,CDeal,CFee⟩:Cs).of u) u):=zp6 (by rw[vX];exact xy RPrice b_told (vn F_told RPrice (oH F_wPrice) b_wPrice)) (by rw[uY];exact xy RCome b_told (vn F_told RCome (kG F_wCome) b_wCome)) (by rw[lZ];exact xy RGo b_told (vn F_told RGo (zl0 F_wGo) b_wGo)) (by rw[vV];exact xy RLeast b_told (vn F_told RLeast (oO F_wLeast) b_wLeast)) (by rw[tT];exact xy RMost b_told (vn F_told RMost (jc F_wMost) b_wMost)) (by rw[tE];exact xy RDeal b_told (vn F_told RDeal (je F_wDeal) b_wDeal)) (by rw[qB];exact xy RFee b_told (vn F_told RFee (fN F_wFee) b_wFee));have DU:gW K w dU tbU:=⟨_,nU,lU,.cons ⟨hh1,⟨_,rfl⟩,rfl⟩ (.cons ⟨hh2,⟨_,rfl⟩,rfl⟩ (.cons ⟨hh3,⟨_,rfl⟩,rfl⟩ (.cons ⟨hh4,⟨_,rfl⟩,⟨_,rfl⟩⟩ (.cons ⟨hh5,⟨_,rfl⟩,⟨_,rfl⟩⟩ (.cons ⟨hh6,⟨_,rfl⟩,rfl⟩ (.cons ⟨hh7,⟨_,rfl⟩,⟨_,rfl⟩⟩ (.nil))))))),by decide +kernel⟩;have CU:Cal l.prog w K mg base "usual" 1 mv:=eL F_usual m_usual b_usual (z40 X G aU) DU;have OW:∀u∈words,vt l.prog w K mg base ((⟨CPrice,CCome,CGo,CLeast,CMost,CDeal,CFee⟩:Cs).of u) "word" 1 (jw ((⟨CPrice,CCome,CGo,CLeast,CMost,CDeal,CFee⟩:Cs).of u) u):=zp6 (by rw[vX];exact xx RPrice b_wPrice (oH F_wPrice)) (by rw[uY];exact xx RCome b_wCome (kG F_wCome)) (by rw[lZ];exact xx RGo b_wGo (zl0 F_wGo)) (by rw[vV];exact xx RLeast b_wLeast (oO F_wLeast)) (by rw[tT];exact xx RMost b_wMost (jc F_wMost)) (by rw[tE];exact xx RDeal b_wDeal (je F_wDeal)) (by rw[qB];exact xx RFee b_wFee (fN F_wFee));have ORT:∀u∈words,vt l.prog w K mg base ((⟨CPrice,CCome,CGo,CLeast,CMost,CDeal,CFee⟩:Cs).of u) "tells" 1 (qV ((⟨CPrice,CCome,CGo,CLeast,CMost,CDeal,CFee⟩:Cs).of u)):=zp6 (by rw[vX];exact yP RPrice b_tells (xW F_tells RPrice)) (by rw[uY];exact yP RCome b_tells (xW F_tells RCome)) (by rw[lZ];exact yP RGo b_tells (xW F_tells RGo)) (by rw[vV];exact yP RLeast b_tells (xW F_tells RLeast)) (by rw[tT];exact yP RMost b_tells (xW F_tells RMost)) (by rw[tE];exact yP RDeal b_tells (xW F_tells RDeal)) (by rw[qB];exact yP RFee b_tells (xW F_tells RFee));have OC:∀u∈words,Cls K ((⟨CPrice,CCome,CGo,CLeast,CMost,CDeal,CFee⟩:Cs).of u)/\yT K ((⟨CPrice,CCome,CGo,CLeast,CMost,CDeal,CFee⟩:Cs).of u) "worth":=zp6 (by rw[vX];exact⟨RPrice.cl,RPrice.nw⟩) (by rw[uY];exact⟨RCome.cl,RCome.nw⟩) (by rw[lZ];exact⟨RGo.cl,RGo.nw⟩) (by rw[vV];exact⟨RLeast.cl,RLeast.nw⟩) (by rw[tT];exact⟨RMost.cl,RMost.nw⟩) (by rw[tE];exact⟨RDeal.cl,RDeal.nw⟩) (by rw[qB];exact⟨RFee.cl,RFee.nw⟩);have MTe:vt l.prog w K mg base CB "tells_of" 2 (tH CB ⟨CPrice,CCome,CGo,CLeast,CMost,CDeal,CFee⟩):=⟨g_btells,_,_,cB,⟨fi_btells,is_btells,F_btells.kp⟩,b_btells,dN F_btells cB noB nb CU OW ORT OC⟩;have MR:vt l.prog w K mg base CB "rules" 3 (md CB ⟨CPrice,CCome,CGo,CLeast,CMost,CDeal,CFee⟩):=⟨g_brules,_,_,cB,⟨fi_brules,is_brules,F_brules.kp⟩,b_brules,dn F_brules cB noB b_brules OT⟩;have CD:Cal l.prog w K mg base "_law_draw" 1 xZ:=zk1 m__law_draw F__law_draw.kp b__law_draw (zq8 F__law_draw TT);have CCo:=dh F__law_coins m__law_coins b__law_coins CD;have CW:=bu F__law_worth m__law_worth b__law_worth CD CCo;have CPR:=jN F__law_price_rules m__law_price_rules b__law_price_rules nb CD CCo;have CO:=iy F__law_other_rules m__law_other_rules b__law_other_rules nb CD CW;have CRW:=iT F__law_rules m__law_rules b__law_rules CD CPR CO;have CRF:=eY CRW;have CSt:=zk8 F__law_stay m__law_stay b__law_stay CD;have CN:=iD (P:=l.prog) (w:=w) (base:=base) F_nights_of m_nights_of b_nights_of nb;have CC:Cal l.prog w K mg base "cheapest_first" 3 mH:=dD l14 c14 k14 m_cheapest_first b_cheapest_first nb hhd KX hbi;have CMa:Cal l.prog w K mg base "marked" 4 qO:=iw F_marked m_marked b_marked nb CC;have CNP:=zH6 F_night_prices m_night_prices b_night_prices MTe;have CBi0:=za9 F_bill m_bill b_bill nb MTe CN CNP CMa;have CBi:=cz CBi0;have CBiK:=eQ CBi0;have CBa:=aM F_bars m_bars b_bars CN MTe;have CHa:=zr1 F_can_be_had m_can_be_had b_can_be_had CBa;have CCs:=bG F_cost m_cost b_cost CBa CBi;have CCN:=zp8 F_cost_or_none m_cost_or_none b_cost_or_none CHa CBi;have CAr:=zw3 F_arrivals m_arrivals b_arrivals nb CCN;have CLW:=zI3 F_least_ways m_least_ways b_least_ways nb CAr;have CCu:=zu1 (P:=l.prog) (w:=w) (base:=base) F_cut_of m_cut_of b_cut_of nb;have CPa:=dE (P:=l.prog) (w:=w) (base:=base) F_paper_of m_paper_of b_paper_of nb;have CBe:=zj1 F_best m_best b_best nb CLW CCu CPa;have CWI:=zw7 (P:=l.prog) (w:=w) (base:=base) F_is_whole m_is_whole b_is_whole nb;have CIP:=zl7 F_is_part m_is_part b_is_part nb CWI CHa;have CIC:=cx F_is_cut m_is_cut b_is_cut nb CIP;have CCC:=zI7 F_cut_coins m_cut_coins b_cut_coins nb CCs;have CLW1:=zv0 F_is_list_of_wholes m_is_list_of_wholes b_is_list_of_wholes nb CWI;have CNL:=zq3 F_costs_no_less m_costs_no_less b_costs_no_less nb CCN;have CNP1:=zv5 F_no_part_costs_less m_no_part_costs_less b_no_part_costs_less nb CNL;have CIH:=dz F_is_had m_is_had b_is_had nb CWI CIC CCC CLW1 CNP1;have CLO:=cZ F_leads_out m_leads_out b_leads_out nb CHa;have CIR:=jB (P:=l.prog) (w:=w) (base:=base) F_is_rising_from m_is_rising_from b_is_rising_from nb;have CIO:=bx F_is_off m_is_off b_is_off nb CLW1 CIR CLO;have CLB:=zl4 F_lets_by m_lets_by b_lets_by nb CIH CIO;have CBW:=ir F__law_books m__law_books b__law_books nb CD CRW CBk;have CBs:=zj3 CBW;have CMT:=zC1 (P:=l.prog) (w:=w) (base:=base) F__law_moved_told m__law_moved_told b__law_moved_told nb;have CMB:=zD0 (P:=l.prog) (w:=w) (base:=base) F__law_moved_bill m__law_moved_bill b__law_moved_bill nb;exact zB7 F_law nb (zx0 F__law_tape TT) m__law_tape F__law_tape.kp b__law_tape CD CBW CBe CSt CBk MR CMT CMB CLB CBa CBiK
theorem walk {l:PySem.W.OpenLaw}{q:Program}{loose:List Str}{XP:(Str->Option Value)->Heap->Prop}{YP:World->Heap->Prop}{d:DefRec}{K:Params->PySem.W.Frag}{c:Addr}(hn:l.most=some 63)(hdf:d.params.defaults=[])
  (hY:∀(w:World) (h:Heap),YP w h->(K w.params).In h) (hYT:∀(w:World) (h:Heap),YP w h->h.get? yJ=some (PySem.W.tabObj #[]))
  (hNo:∀w:World,(K w.params).lookup yJ=none) (hTab:∀w:World,∃o vs,(K w.params).lookup c=some o/\o.cls=.type "code"/\o.data=.fields vs/\vs[11]?=some (.ref yJ))
  (F:∀(w:World) (mg:Str->Option Value) (fa:Addr) (h:Heap),(K w.params).In h->h.Ns mainGlobals mg->mg d.name=some (.ref fa)->
   ∃fd:FuncData,(∀(s:Shared) (u:Value),BindsTo s fd ⟨[u],[]⟩ [("_law_script",u)])/\∀base:Heap,(K w.params).In base->base.Ns mainGlobals mg->base.BuiltinsAt mg yJ->zF l.prog w (K w.params) mg base CX0 13 fa fd ["_law_script"] (kr (K w.params))):
  PySem.W.WalkO q loose XP YP l.row.toRowW d [] (fun f vs=>PySem.call f vs):=
 L2.zm3 (n:=63) (k:=13) (x:="_law_script") (CX:=fun _=>CX0) (sp:=fun w=>kr (K w.params)) hn (by decide) hdf ⟨rfl,by decide,by decide,rfl⟩ hY hYT hNo hTab F (fun _ H a ns hl _ hT hS=>⟨a,ns,rfl,hS,hl,⟨#[],hT,trivial,fun pos cv hc=>by cases hc⟩,fun _=>rfl⟩) fun _ _ _ _ _ z=>z
end K96
namespace PySem.W.Fast
def tw15088216954069114755:=Nat
def tw3733962619695485618:=Nat
def tw9614921170607327313:=Nat
def tw8754830093416909888:=Nat
def tw8124524820795678135:=Nat
def tw1209149883827974586:=Nat
def tw5656456871683718024:=Nat
def tw14549033572409129060:=Nat
def tw16736357261195662151:=Nat
def tw2947487339225147814:=Nat
def tw17259801854819782608:=Nat
def tw3984373237168687102:=Nat
def tw4911073365264050864:=Nat
def tw8112345414824939899:=Nat
def tw5231329455811477474:=Nat
def tw13035040325810521744:=Nat
def tw14040326346870167457:=Nat
def tw12969856571317468868:=Nat
def tw16499537056890814197:=Nat
def tw9459655707816470518:=Nat
def tw3628828287291388259:=Nat
def tw13124796161071171822:=Nat
def tw13727318265974365118:=Nat
def tw16842160590842958099:=Nat
def tw4891687821616570339:=Nat
def tw10309501786403113517:=Nat
def tw16547642549698774844:=Nat
def tw7317197249207197798:=Nat
def tw10074748987993506232:=Nat
def tw18222927114779044713:=Nat
def tw15311638571249291886:=Nat
def tw6798757679130828464:=Nat
def tw6723002661953475939:=Nat
def tw2503077042229252792:=Nat
def tw9874097488813342868:=Nat
def tw4076471721448317887:=Nat
def tw7608837218241307027:=Nat
def tw6114236430069471321:=Nat
def tw17943070587929818793:=Nat
def tw51690028537812951:=Nat
def tw10836171958102631666:=Nat
def tw12845484611471494666:=Nat
def tw13870676982830186436:=Nat
def tw15485002968388728913:=Nat
def tw13077709869926058641:=Nat
def tw4939321577080066889:=Nat
def tw15454844242299281383:=Nat
def tw8206778827458470016:=Nat
def tw5005196785696590864:=Nat
def tw12686480110517281736:=Nat
def tw8348524943666124107:=Nat
def tw13716268028749630805:=Nat
def tw12915528177616104977:=Nat
def tw1997376178870558194:=Nat
def tw5794750926216531336:=Nat
def tw12186224957813639106:=Nat
def tw2634337836166298897:=Nat
def tw9035494853538880282:=Nat
def tw2714441990123757275:=Nat
def tw1692848487050742197:=Nat
def tw4151179406346301480:=Nat
def tw9081132437043387535:=Nat
def tw9245284492254920505:=Nat
def tw16467861265590306687:=Nat
def tw9616286100049280657:=Nat
def tw1402913359076683160:=Nat
def tw5679029823128240186:=Nat
def tw18234721103004182454:=Nat
def tw12688981178488942886:=Nat
def tw7202736139721818457:=Nat
def tw13859334968919417028:=Nat
def tw16365861782631199638:=Nat
def tw1447357787719189505:=Nat
def tw6484931577836573165:=Nat
def tw7285675675421907920:=Nat
def tw1538751024062941414:=Nat
def tw12723712247496132627:=Nat
def tw3683116023074805004:=Nat
def tw3906194853858192788:=Nat
def tw18089766296880029248:=Nat
def tw7755642281243233706:=Nat
def tw12620407170013645725:=Nat
def tw13814207897495338355:=Nat
def tw6789750415287621545:=Nat
def tw16487687577974682301:=Nat
def tw2279153392741474183:=Nat
def tw2509802134978304127:=Nat
def tw12242881510850446935:=Nat
def tw12889957464970476558:=Nat
def tw4185783578183663517:=Nat
def tw2418641266295500733:=Nat
def tw16837016074565547382:=Nat
def tw4272833759597464737:=Nat
def tw11817851500168636727:=Nat
def tw3102585891894605397:=Nat
def tw5734085167900988094:=Nat
def tw8995329759639216420:=Nat
def tw7019260690352118983:=Nat
def tw7711364264007862013:=Nat
def tw1827046601181595291:=Nat
def tw5180103221704502725:=Nat
def tw8204262780705766288:=Nat
def tw12785034535862147661:=Nat
def tw14873108680223999540:=Nat
def tw2149483780203490832:=Nat
def tw10589551515978451927:=Nat
def tw12410604496558160427:=Nat
def tw17221249996781997444:=Nat
def tw14356980358517519194:=Nat
def tw754379990163653722:=Nat
def tw5223856981822365081:=Nat
def tw7582341730161117429:=Nat
def tw2999470743557341281:=Nat
def tw7462111604867013420:=Nat
def tw13834844776779716044:=Nat
def tw17364964233498604039:=Nat
def tw1631626137811980702:=Nat
def tw11738543727789836935:=Nat
def tw4928067276112715173:=Nat
def tw14625362374546280530:=Nat
def tw11698243938934754056:=Nat
def tw3927480918824217967:=Nat
def tw9965926580885542120:=Nat
def tw16029997569711989279:=Nat
def tw5683882885111111704:=Nat
def tw15679204482108889000:=Nat
def tw15271261962524083528:=Nat
def tw12877009636855868115:=Nat
def tw2732346544531537038:=Nat
def tw13152500766077691150:=Nat
def tw18137710969499427171:=Nat
def tw17202907565083363540:=Nat
def tw2214182431675274381:=Nat
def tw1145789644400436400:=Nat
def tw5204582237795361017:=Nat
def tw10492628219755830171:=Nat
def tw11941638090558276836:=Nat
def tw12055190567078823511:=Nat
def tw13201975001714767331:=Nat
def tw15886692565951780483:=Nat
def tw15168018259428704429:=Nat
def tw14089925142343734325:=Nat
def tw5188039073624912836:=Nat
def tw7856335789024367180:=Nat
def tw14629417756673287053:=Nat
def tw12265770811687625961:=Nat
def tw4543340094878354040:=Nat
def tw10206623325062197902:=Nat
def tw16341749644561906553:=Nat
def tw4709468928802381996:=Nat
def tw4186061207279583241:=Nat
def tw6909939100822288834:=Nat
def tw58919614707946813:=Nat
def tw3653979479457335999:=Nat
def tw5403920453846192859:=Nat
def tw10433299120904420035:=Nat
def tw3025246459229104788:=Nat
def tw4375071588501997174:=Nat
def tw7722915252521479323:=Nat
def tw14753336585792544568:=Nat
def tw11616061762071194080:=Nat
def tw18295794416275092174:=Nat
def tw1301738792401063971:=Nat
def tw10304291459868908670:=Nat
def tw16254031457548451876:=Nat
def tw5188385989582651522:=Nat
def tw13721467040914182530:=Nat
def tw3929910242054651881:=Nat
def tw9020470257630740622:=Nat
def tw2425259040308858996:=Nat
def tw5540281267820407064:=Nat
def tw170094636037495240:=Nat
def tw16489530344477719233:=Nat
def tw7192011908309235545:=Nat
def tw18061350169833625601:=Nat
def tw17106211172259495265:=Nat
def tw8009432403057206599:=Nat
def tw12974984485409559737:=Nat
def tw3806716028270735849:=Nat
def tw16898055516366733820:=Nat
def tw18200274584216853080:=Nat
def tw15775407402776697956:=Nat
def tw8838888672893962748:=Nat
def tw7218040209901579562:=Nat
def tw11658782502438122093:=Nat
def tw14125027736403902766:=Nat
def tw1169261858425022395:=Nat
def tw308757676903274625:=Nat
def tw3807165839373981269:=Nat
def tw311425717961336301:=Nat
def tw12518536923567548174:=Nat
def tw13666360670526760785:=Nat
def tw13517142290724015491:=Nat
def tw9731359838591072766:=Nat
def tw1879110648789728383:=Nat
def tw5768694959645078817:=Nat
def tw12005052601244632943:=Nat
def tw4374290518045441157:=Nat
def tw9195845157126977252:=Nat
def tw5762536338970962265:=Nat
def tw9388241886200670953:=Nat
def tw8328230986943194348:=Nat
def tw10892172058755708467:=Nat
def tw13617133384068329519:=Nat
def tw644661152856184246:=Nat
def tw12973579377964759508:=Nat
def tw3547079248243824933:=Nat
def tw10488737734958983046:=Nat
def tw13216038502511404266:=Nat
def tw18329162968778423563:=Nat
def tw522211892282469472:=Nat
def tw9343013795294423603:=Nat
def tw10002457114063136846:=Nat
def tw4074383836840807511:=Nat
def tw10731381572126404055:=Nat
def tw8151643004980840499:=Nat
def tw15221247978959936872:=Nat
def tw2413159769985824780:=Nat
def tw1686942194283776579:=Nat
def tw10219035411509932159:=Nat
def tw17553027045566372312:=Nat
def tw17534234048927215669:=Nat
def tw13927011302463341860:=Nat
def tw7452322322271918404:=Nat
def tw8127386039937928672:=Nat
def tw15577696215023242747:=Nat
def tw17297326593603857565:=Nat
def tw11590648561423121101:=Nat
def tw10317090029908666533:=Nat
def tw9306123619276726091:=Nat
def tw10184250202795795253:=Nat
def tw2242656757905318587:=Nat
def tw12613309478087668894:=Nat
def tw2781406550361003315:=Nat
def tw7442425565518399563:=Nat
def tw14198721841571917740:=Nat
def tw15928230751515204831:=Nat
def tw6618650513048790391:=Nat
def tw1890744680772196743:=Nat
def tw10904710274678722937:=Nat
def tw1424032427785736451:=Nat
def tw14411782460332959499:=Nat
def tw1134816848748715118:=Nat
def tw14511784214922917600:=Nat
def tw10606628152879391255:=Nat
def tw9492096669796007941:=Nat
def tw9225923139370282920:=Nat
def tw15536478003717492293:=Nat
def tw7709674582768255767:=Nat
def tw14501118237314043777:=Nat
def tw11510988178575151838:=Nat
def tw15868794751851478324:=Nat
def tw15037269855412027499:=Nat
def tw11670552695410786996:=Nat
def tw17247218629845316743:=Nat
def tw7581387272008608515:=Nat
def tw4678497200839488592:=Nat
def tw17642913345034278844:=Nat
def tw3137619785391686083:=Nat
def tw13018201023446302974:=Nat
def tw8448051828015587570:=Nat
def tw7316252280588922185:=Nat
def tw11790716318069504466:=Nat
def tw5562217652407720389:=Nat
def tw1029426442924035339:=Nat
def tw6418280578243795719:=Nat
def tw2700049212830161137:=Nat
def tw14751161593573545817:=Nat
def tw17229199252867117332:=Nat
def tw14004380416168920813:=Nat
end PySem.W.Fast
open PySem PySem.W PyProof.Rows
set_option maxRecDepth 100000 in
theorem PySem.Challenge.cw_stayprice_k96_whole_days_moved_holds : PySem.Challenge.rw_stayprice_k96_whole_days_moved.Holds := by
 w_on;o_law;k_head;(case hw=>w_witness2)
 k_fill
 refine K96.walk (l:=PySem.Challenge.rw_stayprice_k96_whole_days_moved) (c:=(151:Nat)) rfl rfl (fun w h Y=>PySem.W.km_in_of Y) (fun w h Y=>PySem.W.km_tabs_of Y _ (zZ0.mpr rfl)) ?hno ?htab ?hF
 case hno=>intro w;kernel_rfl
 case htab=>intro w;exact⟨_,_,by k_is,rfl,rfl,rfl⟩
 case hF=>
  intro w mg fa h KX G hmg
  refine' K96.all_mk KX G hmg (K96.mkG ?_ ?_ ?_ ?_) (K96.mkG ?_ ?_ ?_ ?_) (K96.mkG ?_ ?_ ?_ ?_) (K96.mkG ?_ ?_ ?_ ?_) (K96.mkG ?_ ?_ ?_ ?_) (K96.mkG ?_ ?_ ?_ ?_) (K96.mkG ?_ ?_ ?_ ?_) (K96.mkG ?_ ?_ ?_ ?_) (K96.mkG ?_ ?_ ?_ ?_) (K96.mkG ?_ ?_ ?_ ?_) (K96.mkG ?_ ?_ ?_ ?_) (K96.mkG ?_ ?_ ?_ ?_) (K96.mkG ?_ ?_ ?_ ?_) ?_ ?_ ?_ ?_ (K96.mkG ?_ ?_ ?_ ?_) (K96.mkG ?_ ?_ ?_ ?_) (K96.mkG ?_ ?_ ?_ ?_) (K96.mkG ?_ ?_ ?_ ?_) (K96.mkG ?_ ?_ ?_ ?_) (K96.mkG ?_ ?_ ?_ ?_) (K96.mkG ?_ ?_ ?_ ?_) (K96.mkG ?_ ?_ ?_ ?_) (K96.mkG ?_ ?_ ?_ ?_) (K96.mkG ?_ ?_ ?_ ?_) (K96.mkG ?_ ?_ ?_ ?_) (K96.mkG ?_ ?_ ?_ ?_) (K96.mkG ?_ ?_ ?_ ?_) (K96.mkG ?_ ?_ ?_ ?_) (K96.mkG ?_ ?_ ?_ ?_) (K96.mkG ?_ ?_ ?_ ?_) (K96.mkG ?_ ?_ ?_ ?_) (K96.mkG ?_ ?_ ?_ ?_) (K96.mkG ?_ ?_ ?_ ?_) (K96.mkG ?_ ?_ ?_ ?_) (K96.mkG ?_ ?_ ?_ ?_) (K96.mkG ?_ ?_ ?_ ?_) (K96.mkG ?_ ?_ ?_ ?_) (K96.mkG ?_ ?_ ?_ ?_) (K96.mkG ?_ ?_ ?_ ?_) (K96.mkG ?_ ?_ ?_ ?_) (K96.mkG ?_ ?_ ?_ ?_) (K96.mkG ?_ ?_ ?_ ?_) (K96.mkG ?_ ?_ ?_ ?_) (K96.mkG ?_ ?_ ?_ ?_) (K96.mkG ?_ ?_ ?_ ?_) (K96.mkG ?_ ?_ ?_ ?_) (K96.mkG ?_ ?_ ?_ ?_) (K96.mkG ?_ ?_ ?_ ?_) (K96.mkG ?_ ?_ ?_ ?_) (K96.mkG ?_ ?_ ?_ ?_) ?_ ?_ ?_ ?_ ?_ ?_ ?_ ?_ ?_ ?_ ?_ (K96.mkR ?_ ?_ ?_ ?_ ?_ ?_ ?_ ?_ ?_ ?_ ?_ ?_ ?_ ?_ ?_ ?_ ?_ ?_ ?_ ?_) (K96.mkR ?_ ?_ ?_ ?_ ?_ ?_ ?_ ?_ ?_ ?_ ?_ ?_ ?_ ?_ ?_ ?_ ?_ ?_ ?_ ?_) (K96.mkR ?_ ?_ ?_ ?_ ?_ ?_ ?_ ?_ ?_ ?_ ?_ ?_ ?_ ?_ ?_ ?_ ?_ ?_ ?_ ?_) (K96.mkR ?_ ?_ ?_ ?_ ?_ ?_ ?_ ?_ ?_ ?_ ?_ ?_ ?_ ?_ ?_ ?_ ?_ ?_ ?_ ?_) (K96.mkR ?_ ?_ ?_ ?_ ?_ ?_ ?_ ?_ ?_ ?_ ?_ ?_ ?_ ?_ ?_ ?_ ?_ ?_ ?_ ?_) (K96.mkR ?_ ?_ ?_ ?_ ?_ ?_ ?_ ?_ ?_ ?_ ?_ ?_ ?_ ?_ ?_ ?_ ?_ ?_ ?_ ?_) (K96.mkR ?_ ?_ ?_ ?_ ?_ ?_ ?_ ?_ ?_ ?_ ?_ ?_ ?_ ?_ ?_ ?_ ?_ ?_ ?_ ?_) (K96.mkF ?_ ?_ ?_) (K96.mkF ?_ ?_ ?_) (K96.mkF ?_ ?_ ?_) (K96.mkF ?_ ?_ ?_) (K96.mkF ?_ ?_ ?_) (K96.mkF ?_ ?_ ?_) (K96.mkF ?_ ?_ ?_) (K96.mkF ?_ ?_ ?_) (K96.mkF ?_ ?_ ?_) (K96.mkF ?_ ?_ ?_) ?_ ?_ ?_ ?_ ?_ ?_ ?_ ?_ ?_ (K96.mkF ?_ ?_ ?_) ?_ ?_ (K96.mkF ?_ ?_ ?_) ?_ ?_ ?_ ?_ ?_ ?_ ?_ ?_ ?_ ?_ ?_ ?_ ?_ ?_ ?_ ?_ ?_ ?_ ?_ ?_ ?_ ?_ ?_ ?_ ?_ ?_ ?_ ?_ ?_ ?_ ?_ ?_ ?_ ?_ ?_ ?_ ?_ ?_ ?_ ?_
  all_goals try (show _=_;first|k_is|kernel_rfl)
