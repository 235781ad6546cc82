import PyProof.Rows.All
import Wide.All
import OpenK.AllK
import Wide.FinOn
import Lean
import PyProof.EqAt
import PyProof.EqKinds
import PyProof.TupleCall
import PySem.Challenge.RW_stayprice_k53_looker_at_cuts
set_option maxHeartbeats 0
set_option Elab.async false
set_option linter.all false
set_option maxRecDepth 100000
def zO6 := @_root_.List.length_map
def zO7 := @_root_.PySem.wpAny_bind
def zO8 := @_root_.PySem.Heap.get?_push_of_some
def zO9 := @_root_.List.getElem?_eq_getElem
def zP0 := @_root_.List.getD_eq_getElem?_getD
def zP1 := @_root_.List.getElem?_eq_some_iff
def zP2 := @_root_.List.mem_cons
def zP3 := @_root_.Nat.le_refl
def zP4 := @_root_.Nat.le_of_ble_eq_true
def zP5 := @_root_.List.mem_cons_of_mem
def zP6 := @_root_.PySem.Heap.lt_size
def zP7 := @_root_.List.mem_singleton
def zP8 := @_root_.PySem.wpAny_pure
def zP9 := @_root_.PySem.Heap.get?_push_size
def zQ0 := @_root_.List.size_toArray
def zQ1 := @_root_.List.mem_cons_self
def zQ2 := @_root_.List.getElem?_map
def zQ3 := @_root_.List.not_mem_nil
def zQ4 := @_root_.List.length_cons
def zQ5 := @_root_.Bool.false_ne_true
def zQ6 := @_root_.List.length_append
def zQ7 := @_root_.Nat.ne_of_lt
def zQ8 := @_root_.Nat.zero_le
def zQ9 := @_root_.Option.map_eq_some_iff
def zR0 := @_root_.Nat.lt_of_lt_of_le
def zR1 := @_root_.Bool.true_and
def zR2 := @_root_.PySem.Heap.get?_update_other
def zR3 := @_root_.Bool.and_eq_true
def zR4 := @_root_.List.map_cons
def zR5 := @_root_.decide_eq_false
def zR6 := @_root_.Bool.false_and
def zR7 := @_root_.Option.some.inj
def zR8 := @_root_.PySem.W.mg_none_of
def zR9 := @_root_.List.length_singleton
def zS0 := @_root_.List.length_take
def zS1 := @_root_.decide_eq_true_eq
def zS2 := @_root_.Ne.symm
def zS3 := @_root_.decide_eq_true
def zS4 := @_root_.or_false
def zS5 := @_root_.PyProof.Rows.callWith_type1
def zS6 := @_root_.PySem.wpAny_truthy_bool
def zS7 := @_root_.Bool.eq_false_iff
def zS8 := @_root_.List.mem_append_right
def zS9 := @_root_.Bool.false_eq_true
def zT0 := @_root_.List.mem_map
def zT1 := @_root_.List.mem_append
def zT2 := @_root_.List.mem_of_getElem?
def zT3 := @_root_.Nat.le_trans
def zT4 := @_root_.List.map_append
def zT5 := @_root_.of_decide_eq_true
def zT6 := @_root_.PySem.wpAny_mono
def zT7 := @_root_.List.lookup_cons
def zT8 := @_root_.PySem.W.mg_of
def zT9 := @_root_.List.getElem_mem
def zU0 := @_root_.PySem.mem_of_lookup
def zU1 := @_root_.List.length_reverse
def zU2 := @_root_.Int.toNat_natCast
def zU3 := @_root_.List.getElem?_set_ne
def zU4 := @_root_.PySem.sizeLine_eq
def zU5 := @_root_.Nat.lt_irrefl
def zU6 := @_root_.PySem.wpAny_holding
def zU7 := @_root_.PySem.Heap.size_push
def zU8 := @_root_.List.map_map
def zU9 := @_root_.PySem.wpAny_seqItems
def zV0 := @_root_.PySem.W.kia_one
def zV1 := @_root_.List.append_nil
def zV2 := @_root_.List.length_set
def zV3 := @_root_.PySem.PassesOwn.never
def zV4 := @_root_.Int.le_refl
def zV5 := @_root_.PySem.F.plain_min_loop
def zV6 := @_root_.List.getElem?_append_left
def zV7 := @_root_.List.find?_cons
def zV8 := @_root_.PySem.F.plain_extend_loop
def zV9 := @_root_.PySem.F.slot_zip_next
def zW0 := @_root_.Nat.le_of_lt
def zW1 := @_root_.List.length_drop
def zW2 := @_root_.List.take_length
def zW3 := @_root_.if_false
def zW4 := @_root_.List.take_add_one
def zW5 := @_root_.List.nil_append
def zW6 := @_root_.PySem.wpAny_updateSeq
def zW7 := @_root_.PySem.wpAny_nextOf_list_item
def zW8 := @_root_.Bool.and_false
def zW9 := @_root_.List.drop_eq_getElem_cons
def zX0 := @_root_.Bool.or_eq_true
def zX1 := @_root_.PyProof.Rows.get?_update_seq
def zX2 := @_root_.Nat.mul_le_mul_right
def zX3 := @_root_.PySem.wpAny_pyIter_list
def zX4 := @_root_.List.reverse_cons
def zX5 := @_root_.List.sum_cons
def zX6 := @_root_.List.getElem?_replicate
def zX7 := @_root_.Int.eq_ofNat_of_zero_le
def zX8 := @_root_.beq_eq_false_iff_ne
def zX9 := @_root_.List.filterMap_cons
def zY0 := @_root_.List.getElem?_set_self
def zY1 := @_root_.Nat.le_succ
def zY2 := @_root_.PySem.wpAny_letGo
def zY3 := @_root_.PySem.wpAny_field
def zY4 := @_root_.PySem.wpAny_passesOwn
def zY5 := @_root_.List.getElem?_eq_none
def zY6 := @_root_.List.getElem?_append_right
def zY7 := @_root_.PySem.plainId_quiet
def zY8 := @_root_.Bool.false_or
def zY9 := @_root_.List.mem_append_left
def zZ0 := @_root_.PySem.Around.under_plainId
def zZ1 := @_root_.PySem.boot_len
def zZ2 := @_root_.Nat.ne_of_gt
def zZ3 := @_root_.Nat.lt_succ_self
def zZ4 := @_root_.Nat.lt_or_ge
def zZ5 := @_root_.List.cons_append
def zZ6 := @_root_.if_true
def zZ7 := @_root_.PySem.wpAny_Call_Name_kw
def zZ8 := @_root_.PyProof.Rows.boot_isinstance
def zZ9 := @_root_.PySem.wpAny_ite_split
def z00 := @_root_.Int.emod_lt_of_pos
def z01 := @_root_.List.mem_range
def z02 := @_root_.PySem.Heap.get?_update_self
def z03 := @_root_.List.getElem?_toArray
def z04 := @_root_.PySem.builtinLookup_eq_fast
def z05 := @_root_.List.all_eq_true
def z06 := @_root_.List.drop_length
def z07 := @_root_.List.filter_cons
def z08 := @_root_.Bool.or_false
def z09 := @_root_.PySem.Heap.SameBut.update
def z20 := @_root_.List.take_succ_cons
def z21 := @_root_.List.length_pos_iff
def z22 := @_root_.Array.Perm.refl
def z23 := @_root_.List.pairwise_iff_getElem
def z24 := @_root_.PySem.wpAny_specialOf
def z25 := @_root_.Nat.div_add_mod
def z26 := @_root_.PySem.codeAny_builtin
def z27 := @_root_.List.length_nil
def z28 := @_root_.List.foldl_cons
def z29 := @_root_.Int.emod_nonneg
def z30 := @_root_.List.getElem?_take_of_lt
def z31 := @_root_.List.map_nil
def z32 := @_root_.PySem.wpAny_setField_rec
def z33 := @_root_.List.getElem?_drop
def z34 := @_root_.PySem.tupleKind_room_in1
def z35 := @_root_.List.getElem?_cons_succ
def z36 := @_root_.decide_eq_false_iff_not
def z37 := @_root_.PySem.wpAny_callSpecial?_slot
def z38 := @_root_.PySem.F.args_zip_next_1
def z39 := @_root_.Nat.lt_succ_of_lt
def z40 := @_root_.PySem.F.entry_zip_next
def z41 := @_root_.PySem.F.entry_min_loop
def z42 := @_root_.List.any_cons
def z43 := @_root_.PySem.strLen_append
def z44 := @_root_.PySem.wpAny_call_entry
def z45 := @_root_.PySem.W.methodCall_KW
def z46 := @_root_.List.getElem?_reverse
def z47 := @_root_.List.mem_filter
def z48 := @_root_.PySem.wpAny_execs_nil
def z49 := @_root_.Bool.eq_iff_iff
def z50 := @_root_.Nat.le_of_eq
def z51 := @_root_.PySem.codeAny_mono
def z52 := @_root_.List.nodup_cons
def z53 := @_root_.PySem.wpAny_loadPart'
def z54 := @_root_.List.forIn_cons
def z55 := @_root_.Nat.zero_add
def z56 := @_root_.List.range_succ
def z57 := @_root_.PySem.typeLookup_type
def z58 := @_root_.Int.natCast_add
def z59 := @_root_.List.mem_of_mem_take
def z60 := @_root_.Bool.true_or
def z61 := @_root_.Array.length_toList
def z62 := @_root_.PySem.W.plainGet_of
def z63 := @_root_.List.map_eq_nil_iff
def z64 := @_root_.List.mem_filterMap
def z65 := @_root_.PySem.W.callWith_K
def z66 := @_root_.List.forIn_toArray
namespace L2
open PySem PySem.Spec PyProof.Rows
abbrev Key :=Sum Int Str
def qE :Key->Value->Bool
 |.inl k,v=>Value.isInt k v
 |.inr x,v=>Value.isStrOf x v
def zM9 (w:World):Key->Int
 |.inl k=>hashInt k
 |.inr x=>hashStr w x
theorem yg :∀{k:Key} {v:Value},qE k v=true->(∃i t,k=Sum.inl i/\v=Value.int i t)\/(∃x t,k=Sum.inr x/\v=Value.str x t)
 |.inl i,v,h=>by
  obtain⟨t,e⟩:=Value.isInt_shape (k:=i) (v:=v) h;exact .inl ⟨i,t,rfl,e⟩
 |.inr x,v,h=>by
  obtain⟨t,e⟩:=Value.isStrOf_shape (x:=x) (v:=v) h;exact .inr ⟨x,t,rfl,e⟩
theorem eX (i:Int)(t:Tok):qE (.inl i) (.int i t)=true:=by simp[qE,Value.isInt]
theorem gN (x:Str)(t:Tok):qE (.inr x) (.str x t)=true:=by simp[qE,Value.isStrOf]
theorem zz4 (a b:Int):decide ((Sum.inl a:Key)=Sum.inl b)=(a == b):=by
 by_cases e:a=b
 ·subst e;simp
 ·have h:¬(Sum.inl a:Key)=Sum.inl b:=fun q=>e (Sum.inl.inj q);rw[zR5 h];exact (zX8.mpr e).symm
theorem zw1 (a b:Str):decide ((Sum.inr a:Key)=Sum.inr b)=decide (a=b):=by
 by_cases e:a=b
 ·subst e;simp
 ·have h:¬(Sum.inr a:Key)=Sum.inr b:=fun q=>e (Sum.inr.inj q);rw[zR5 h,zR5 e]
theorem zy5 (a:Int)(b:Str):decide ((Sum.inl a:Key)=Sum.inr b)=false:=zR5 (fun q=>nomatch q)
theorem zB3 (a:Str)(b:Int):decide ((Sum.inr a:Key)=Sum.inl b)=false:=zR5 (fun q=>nomatch q)
def yf (prog:Program)(w:World):PySem.KeyKind prog w Key where
 is:=qE
 hash:=zM9 w
 inj:=fun v a b ha hb=>by
  rcases yg ha with ⟨i,t,rfl,rfl⟩|⟨x,t,rfl,rfl⟩
  ·rcases yg hb with ⟨j,u,rfl,e⟩|⟨y,u,rfl,e⟩
   ·injection e with e1 _;rw[e1]
   ·exact nomatch e
  ·rcases yg hb with ⟨j,u,rfl,e⟩|⟨y,u,rfl,e⟩
   ·exact nomatch e
   ·injection e with e1 _;rw[e1]
 byValue:=fun k v h=>by
  rcases yg h with ⟨i,t,rfl,rfl⟩|⟨x,t,rfl,rfl⟩<;>rfl
 pyHash:=fun hv h=>by
  rcases yg hv with ⟨i,t,rfl,rfl⟩|⟨x,t,rfl,rfl⟩
  ·exact wpAny_pyHash_int h
  ·exact wpAny_pyHash_str h
 eqBool:=fun hu hv h=>by
  rcases yg hu with ⟨i,t,rfl,rfl⟩|⟨x,t,rfl,rfl⟩
  ·rcases yg hv with ⟨j,u,rfl,rfl⟩|⟨y,u,rfl,rfl⟩
   ·rw[zz4] at h;exact wpAny_eqBool_int h
   ·rw[zy5] at h;exact SeqAt.EqAt.int_str i t y u _ _ _ _ h
  ·rcases yg hv with ⟨j,u,rfl,rfl⟩|⟨y,u,rfl,rfl⟩
   ·rw[zB3] at h;exact SeqAt.EqAt.str_int x t j u _ _ _ _ h
   ·rw[zw1] at h;exact wpAny_eqBool_str h
 «strs»:=fun k x t v h=>by
  rcases yg h with ⟨i,u,rfl,e⟩|⟨y,u,rfl,e⟩
  ·exact nomatch e
  ·injection e with e1 _;subst e1;cases v<;>rfl
theorem mR (prog:Program)(w:World)(i:Int)(t:Tok):(yf prog w).is (.inl i) (.int i t)=true:=eX i t
theorem md (prog:Program)(w:World)(x:Str)(t:Tok):(yf prog w).is (.inr x) (.str x t)=true:=gN x t
inductive V where
 |non|bl (b:Bool)|int (i:Int)|str (x:Str)|byt (b:Array UInt8)|flt (b:UInt64)|ref (a:Addr)|ty (n:String)
 deriving DecidableEq
def RelV :V->Value->Prop
 |.non,u=>u=Value.none
 |.bl b,u=>u=Value.bool b
 |.int i,u=>∃t,u=Value.int i t
 |.str x,u=>∃t,u=Value.str x t
 |.byt b,u=>∃t,u=Value.bytes b t
 |.flt b,u=>∃t,u=Value.float b t
 |.ref a,u=>u=Value.ref a
 |.ty n,u=>u=Value.type n
abbrev Vals :List V->List Value->Prop:=Paired RelV
theorem Vals.length {xs:List V}{us:List Value}(r:Vals xs us):xs.length=us.length:=Paired.length r
theorem Vals.get :∀{xs:List V} {us:List Value} {i:Nat} {x:V},Vals xs us->xs[i]?=some x->∃u,us[i]?=some u/\RelV x u
 |_,_,_,_,.nil,e=>by simp at e
 |_,_,0,_,.cons r _,e=>by simp at e;subst e;exact⟨_,rfl,r⟩
 |_,_,i+1,x,.cons _ t,e=>by
  obtain⟨u,h1,h2⟩:=Vals.get (i:=i) (x:=x) t (by simpa using e);exact⟨u,by simpa using h1,h2⟩
theorem Vals.set {x:V}{u:Value}(r:RelV x u):∀{xs:List V} {us:List Value} (i:Nat),Vals xs us->Vals (xs.set i x) (us.set i u)
 |_,_,_,.nil=>.nil
 |_,_,0,.cons _ t=>.cons r t
 |_,_,i+1,.cons q t=>.cons q (Vals.set r i t)
theorem Vals.append :∀{xs ys:List V} {us ws:List Value},Vals xs us->Vals ys ws->Vals (xs++ys) (us++ws)
 |_,_,_,_,.nil,s=>s
 |_,_,_,_,.cons r t,s=>.cons r (Vals.append t s)
theorem Vals.take :∀{xs:List V} {us:List Value} (n:Nat),Vals xs us->Vals (xs.take n) (us.take n)
 |_,_,0,_=>.nil
 |_,_,_+1,.nil=>.nil
 |_,_,n+1,.cons r t=>.cons r (Vals.take n t)
theorem Vals.drop :∀{xs:List V} {us:List Value} (n:Nat),Vals xs us->Vals (xs.drop n) (us.drop n)
 |_,_,0,r=>r
 |_,_,_+1,.nil=>.nil
 |_,_,n+1,.cons _ t=>Vals.drop n t
def vZ :Option V->Option Value->Prop
 |some v,some u=>RelV v u
 |none,none=>True
 |_,_=>False
def KV {κ:Type}:List (κ×V)->List (κ×Value)->Prop:=Paired fun (p:κ×V) (q:κ×Value)=>p.1=q.1/\RelV p.2 q.2
def kV :Key->V
 |.inl i=>.int i
 |.inr x=>.str x
inductive HO where
  |lst (xs:List V)
  |tup (xs:List V)
  |dK (kvs:List (Key×V))|dT (kvs:List (List Key×V))
  |set (S:Int->Bool) (n:Nat)
  |ins (C dx:Addr) (fs:List (Str×V))
  |own (x:Addr)
  |xd (fs:List (Str×V))
  |met (f x:Addr)
  |rng (lo hi:Int)
  |frz (o:Obj) (u:HO)
  |tbl (ps:Array Value)
  |ext (φ:Heap->Prop)
abbrev Hp :=Addr->Option HO
def upd (H:Hp)(a:Addr)(o:HO):Hp:=fun b=>if b=a then some o else H b
theorem zk {H:Hp}{a:Addr}{o:HO}:upd H a o a=some o:=by unfold upd;rw[if_pos rfl]
theorem zh {H:Hp}{a b:Addr}{o:HO}(h:b≠a):upd H a o b=H b:=by unfold upd;rw[if_neg h]
theorem sM {H:Hp}{a:Addr}{o u:HO}:upd (upd H a o) a u=upd H a u:=by funext b;unfold upd;split<;>rfl
theorem au {H:Hp}{a b:Addr}{o u:HO}(h:H a=some o)(h':H b=some u)(d:o≠u):a≠b:=by intro e;subst e;rw[h] at h';exact d (zR7 h')
theorem zm {H:Hp}{a b:Addr}{o:HO}(h:H a=some o)(h':H b=none):a≠b:=by intro e;subst e;rw[h] at h';cases h'
section
variable (P:Program)(w:World)
def zM (H:Hp)(h:Heap)(a:Addr):HO->Prop
 |.lst xs=>xs.length<=sizeLine/\∃(its:List Value) (n:Nat),Vals xs its/\h.get? a=some {cls:=.type "list",data:=.seq its.toArray n}
 |.tup xs=>xs.length<=sizeLine/\∃its:List Value,Vals xs its/\IsTup h a its.toArray
 |.dK kvs=>kvs.length<=sizeLine/\(a == sysModules)=false/\∃vs,KV kvs vs/\h.DictOf (yf P w) a vs
 |.dT kvs=>kvs.length<=sizeLine/\(a == sysModules)=false/\∃xs:List (List Key×Addr×Value),
   Paired (fun (p:List Key×V) (q:List Key×Addr×Value)=>p.1=q.1/\H q.2.1=some (.tup (p.1.map kV))/\RelV p.2 q.2.2) kvs xs/\
   ∃o es ep,h.get? a=some o/\o.ExactDict/\o.data=.dict es ep/\es.toList=xs.map (entryOfKey (tupleKind (yf P w)))/\(xs.map (·.1)).Nodup
 |.set S n=>h.SetOf (intKind P w) a S n
 |.ins C dx fs=>H dx=some (.own a)/\fs.length<=1000/\dx≠a/\h.get? a=some (PySem.W.instObj C dx)/\
   ∃mA,h.Ns1 dx mA/\(∀f,vZ (fs.lookup f) (mA f))/\PySem.Within mA (fs.map (·.1))
 |.own _=>∃o,h.get? a=some o
 |.xd fs=>∃mA,h.Ns1 a mA/\∀f,vZ (fs.lookup f) (mA f)
 |.rng lo hi=>∃t u v,h.get? a=some {cls:=.type "range",data:=.fields #[.int lo t,.int hi u,.int 1 v]}
 |.frz o u=>h.get? a=some o/\zM H h a u
 |.tbl ps=>h.get? a=some {cls:=.none,data:=.fields ps}
 |.met f x=>h.get? a=some (PySem.W.methodObj (.ref f) (.ref x))
 |.ext φ=>φ h/\(∃o,h.get? a=some o)/\∀h1 h2:Heap,φ h1->(∀o,h1.get? a=some o->h2.get? a=some o)->φ h2
def HOk (H:Hp)(h:Heap):Prop:=∀a o,H a=some o->zM P w H h a o
end
section
variable {P:Program}{w:World}{H H':Hp}{h h':Heap}{a:Addr}{o:HO}
theorem zM.lt (x:zM P w H h a o):a<h.objs.size:=by
 cases o with
 |lst xs=>obtain⟨_,_,_,_,e⟩:=x;exact zP6 e
 |tup xs=>obtain⟨_,_,_,p⟩:=x;exact p.lt
 |dK kvs=>obtain⟨_,_,_,_,o,_,_,e,_⟩:=x;exact zP6 e
 |dT kvs=>obtain⟨_,_,_,_,o,_,_,e,_⟩:=x;exact zP6 e
 |set S n=>obtain⟨o,_,_,_,e,_⟩:=x;exact zP6 e
 |ins C dx fs=>obtain⟨_,_,_,e,_⟩:=x;exact zP6 e
 |own y=>obtain⟨_,e⟩:=x;exact zP6 e
 |xd fs=>obtain⟨_,⟨_,_,_,e,_⟩,_⟩:=x;exact zP6 e
 |rng lo hi=>obtain⟨_,_,_,e⟩:=x;exact zP6 e
 |frz ob u=>obtain⟨e,_⟩:=x;exact zP6 e
 |tbl ps=>exact zP6 (show h.get? a=some _ from x)
 |met f y=>exact zP6 (show h.get? a=some _ from x)
 |ext φ=>obtain⟨_,⟨_,e⟩,_⟩:=x;exact zP6 e
theorem Paired.mapP {α β:Type}{F G:α->β->Prop}:∀{l₁:List α} {l₂:List β},Paired F l₁ l₂->(∀a b,F a b->G a b)->Paired G l₁ l₂
 |_,_,.nil,_=>.nil
 |_,_,.cons r t,f=>.cons (f _ _ r) (Paired.mapP t f)
theorem zM.stay (x:zM P w H h a o)(k:∀b u,(b=a\/H b=some (.own a))->h.get? b=some u->h'.get? b=some u)
  (ho:∀b,H b=some (.own a)->H' b=some (.own a)) (ht:∀b xs,H b=some (.tup xs)->H' b=some (.tup xs)):zM P w H' h' a o:=by
 induction o with
 |lst xs=>obtain⟨z,its,n,r,e⟩:=x;exact⟨z,its,n,r,k _ _ (.inl rfl) e⟩
 |tup xs=>obtain⟨z,its,r,ob,e,c⟩:=x;exact⟨z,its,r,ob,k _ _ (.inl rfl) e,c⟩
 |dK kvs=>obtain⟨z,y,vs,r,ob,es,ep,e,c⟩:=x;exact⟨z,y,vs,r,ob,es,ep,k _ _ (.inl rfl) e,c⟩
 |dT kvs=>
  obtain⟨z,y,xs,r,ob,es,ep,e,c⟩:=x;exact⟨z,y,xs,Paired.mapP r fun p q z=>⟨z.1,ht _ _ z.2.1,z.2.2⟩,ob,es,ep,k _ _ (.inl rfl) e,c⟩
 |set S n=>obtain⟨ob,es,ep,t,e,c⟩:=x;exact⟨ob,es,ep,t,k _ _ (.inl rfl) e,c⟩
 |ins C dx fs=>
  obtain⟨d,z,ne,e,mA,⟨od,es,ep,e2,c⟩,r⟩:=x;exact⟨ho _ d,z,ne,k _ _ (.inl rfl) e,mA,⟨od,es,ep,k _ _ (.inr d) e2,c⟩,r⟩
 |own y=>obtain⟨ob,e⟩:=x;exact⟨ob,k _ _ (.inl rfl) e⟩
 |xd fs=>obtain⟨mA,⟨od,es,ep,e,c⟩,r⟩:=x;exact⟨mA,⟨od,es,ep,k _ _ (.inl rfl) e,c⟩,r⟩
 |rng lo hi=>obtain⟨t,u,v,e⟩:=x;exact⟨t,u,v,k _ _ (.inl rfl) e⟩
 |frz ob u ih=>obtain⟨e,q⟩:=x;exact⟨k _ _ (.inl rfl) e,ih q⟩
 |tbl ps=>
  have e:h.get? a=some {cls:=.none,data:=.fields ps}:=x;show h'.get? a=some {cls:=.none,data:=.fields ps};exact k a _ (.inl rfl) e
 |met f y=>
  have e:h.get? a=some (PySem.W.methodObj (.ref f) (.ref y)):=x;show h'.get? a=some (PySem.W.methodObj (.ref f) (.ref y));exact k a _ (.inl rfl) e
 |ext φ=>obtain⟨p,⟨o,e⟩,st⟩:=x;exact⟨st _ _ p fun o q=>k _ _ (.inl rfl) q,⟨o,k _ _ (.inl rfl) e⟩,st⟩
theorem HOk.lt (x:HOk P w H h)(e:H a=some o):a<h.objs.size:=(x a o e).lt
theorem HOk.fresh (x:HOk P w H h)(e:h.objs.size<=a):H a=none:=by
 cases q:H a with
 |none=>rfl
 |some u=>exact absurd (zR0 (x.lt q) e) (zU5 _)
theorem HOk.kept (x:HOk P w H h)(k:∀b u,h.get? b=some u->h'.get? b=some u):HOk P w H h':=fun a o e=>
 (x a o e).stay (fun b u _ q=>k b u q) (fun _ q=>q) fun _ _ q=>q
theorem HOk.laid (x:HOk P w H h)(k:∀b u,h.get? b=some u->h'.get? b=some u)(hp:h.objs.size<=a)(new:zM P w (upd H a o) h' a o):HOk P w (upd H a o) h':=fun b u e=>by
 have hn:=x.fresh hp;by_cases hb:b=a
 ·subst hb;rw[zk] at e;cases e;exact new
 ·rw[zh hb] at e;exact (x b u e).stay (fun c v _ q=>k c v q) (fun c q=>by rw[zh (zm q hn)];exact q) fun c xs q=>by rw[zh (zm q hn)];exact q
end
def Rd (H:Hp)(a:Addr)(u:HO):Prop:=H a=some u\/∃o,H a=some (.frz o u)
theorem Rd.ok {P:Program}{w:World}{H:Hp}{h:Heap}{a:Addr}{u:HO}(r:Rd H a u)(x:HOk P w H h):zM P w H h a u:=by
 rcases r with r|⟨o,r⟩
 ·exact x a u r
 ·obtain⟨_,q⟩:=x a _ r;exact q
def Mut :Option HO->Prop
 |some (.lst _)=>True
 |some (.dK _)=>True
 |some (.dT _)=>True
 |some (.set _ _)=>True
 |some (.ins _ _ _)=>True
 |some (.ext _)=>True
 |_=>False
section
variable {P:Program}{w:World}{H:Hp}{h h':Heap}{x e:Addr}{o':HO}
theorem HOk.write (ok:HOk P w H h)(mu:Mut (H x))(he:e=x\/H e=some (.own x))(k:∀b u,b≠e->h.get? b=some u->h'.get? b=some u)(heo:∃u,h'.get? e=some u)
  (new:zM P w (upd H x o') h' x o'):HOk P w (upd H x o') h':=fun b u q=>by
 have nown:∀c y,H c=some (.own y)->c≠x:=fun c y r z=>by subst z;rw[r] at mu;exact mu
 have ntup:∀c xs,H c=some (.tup xs)->c≠x:=fun c xs r z=>by subst z;rw[r] at mu;exact mu
 by_cases hb:b=x
 ·subst hb;rw[zk] at q;cases q;exact new
 ·rw[zh hb] at q;by_cases hbe:b=e
  ·have q':H b=some (.own x):=by
    rcases he with z|z
    ·exact absurd (hbe.trans z) hb
    ·rw[hbe];exact z
   rw[q] at q';cases q';obtain⟨v,hv⟩:=heo;exact⟨v,by rw[hbe];exact hv⟩
  ·refine (ok b u q).stay (fun c v hc r=>k c v ?_ r) (fun c r=>by rw[zh (nown c b r)];exact r) fun c xs r=>by rw[zh (ntup c xs r)];exact r
   rcases hc with rfl|hc
   ·exact hbe
   ·rintro rfl;rcases he with z|z
    ·exact nown c b hc z
    ·rw[hc] at z;cases z;exact hb rfl
end
structure Un (fs ex:List Addr)(H H':Hp)(h h':Heap):Prop where
 keep:∀b o,h.get? b=some o->H b=none->b∉fs->b∉ex->h'.get? b=some o
 slot:∀b o,h.get? b=some o->H b=none->b∈fs->b∉ex->∃sl,h'.get? b=some {o with slots:=sl}
 free:∀b o,h.get? b=some o->H b=none->b∉ex->H' b=none
 there:∀b o,h.get? b=some o->b∉ex->∃o',h'.get? b=some o'
 tups:∀b xs,H b=some (.tup xs)->H' b=some (.tup xs)
 frzs:∀b o u,H b=some (.frz o u)->H' b=some (.frz o u)
 tbls:∀b ps,H b=some (.tbl ps)->∃more,H' b=some (.tbl (ps++more))
section
variable {fs fs' ex ex':List Addr}{H H1 H2:Hp}{h h1 h2 h':Heap}{a x e:Addr}{o:HO}
theorem Un.any (u:Un fs ex H H1 h h1){b:Addr}{ob:Obj}(q:h.get? b=some ob)(n:H b=none)(hx:b∉ex):∃sl,h1.get? b=some {ob with slots:=sl}:=by
 by_cases hb:b∈fs
 ·exact u.slot b ob q n hb hx
 ·exact⟨ob.slots,u.keep b ob q n hb hx⟩
theorem Un.kept (k:∀b u,h.get? b=some u->h'.get? b=some u):Un fs ex H H h h':=
 ⟨fun b ob q _ _ _=>k b ob q,fun b ob q _ _ _=>⟨ob.slots,k b ob q⟩,fun _ _ _ n _=>n,fun b ob q _=>⟨ob,k b ob q⟩,fun _ _ q=>q,fun _ _ _ q=>q,fun _ ps q=>⟨#[],by rw[q];simp⟩⟩
theorem Un.refl :Un fs ex H H h h:=Un.kept fun _ _ q=>q
theorem Un.laid (k:∀b u,h.get? b=some u->h'.get? b=some u)(hp:h.objs.size<=a)(hn:H a=none):Un fs ex H (upd H a o) h h' where
 keep:=fun b u q _ _ _=>k b u q
 slot:=fun b u q _ _ _=>⟨u.slots,k b u q⟩
 free:=fun b u q n _=>by rw[zh (zQ7 (zR0 (zP6 q) hp))];exact n
 there:=fun b u q _=>⟨u,k b u q⟩
 tups:=fun b xs q=>by rw[zh (zm q hn)];exact q
 frzs:=fun b u xs q=>by rw[zh (zm q hn)];exact q
 tbls:=fun b ps q=>⟨#[],by rw[zh (zm q hn),q];simp⟩
theorem Un.write (mu:Mut (H x))(he:e=x\/H e=some (.own x))(k:∀b u,b≠e->h.get? b=some u->h'.get? b=some u)(heo:∃u,h'.get? e=some u):Un fs ex H (upd H x o) h h':=by
 have hx:∀b,H b=none->b≠x:=fun b n z=>by subst z;rw[n] at mu;exact mu
 have hb:∀b,H b=none->b≠e:=fun b n z=>by
  subst z;rcases he with r|r
  ·exact hx b n r
  ·rw[n] at r;cases r
 have hm:∀b u,H b=some u->¬Mut (some u)->b≠x:=fun b u q nm z=>by subst z;rw[q] at mu;exact nm mu
 refine⟨fun b u q n _ _=>k b u (hb b n) q,fun b u q n _ _=>⟨u.slots,k b u (hb b n) q⟩,fun b u q n _=>by rw[zh (hx b n)];exact n,fun b u q _=>?_,
  fun b xs q=>by rw[zh (hm b _ q fun z=>z)];exact q,fun b u xs q=>by rw[zh (hm b _ q fun z=>z)];exact q,fun b ps q=>⟨#[],by rw[zh (hm b _ q fun z=>z),q];simp⟩⟩
 by_cases hbe:b=e
 ·subst hbe;exact heo
 ·exact⟨u,k b u hbe q⟩
end
def trk (h:Heap)(H:Hp):List Addr:=(List.range h.objs.size).filter fun a=>(H a).isSome
def qK (h:Heap)(H:Hp):Heap:=PySem.W.hideAll h (trk h H)
theorem fj (h:Heap)(H:Hp):(qK h H).objs.size=h.objs.size:=PySem.W.hideAll_size _ _
theorem zc1 {h:Heap}{H:Hp}{b:Addr}{o:Obj}(e:h.get? b=some o)(n:H b=none):(qK h H).get? b=some o:=
 PySem.W.hideAll_get _ e fun hm=>by
  have q:(H b).isSome=true:=(z47.mp hm).2;rw[n] at q;simp at q
theorem zk2 {h:Heap}{H:Hp}{b:Addr}{o:Obj}(e:(qK h H).get? b=some o):h.get? b=some o/\H b=none:=by
 have e':h.get? b=some o:=PySem.W.of_hideAll (trk h H) e;refine⟨e',?_⟩;cases q:H b with
 |none=>rfl
 |some x=>
  have hm:b∈trk h H:=z47.mpr ⟨z01.mpr (zP6 e'),by simp[q]⟩;have z:(qK h H).get? b=none:=PySem.W.hideAll_none (trk h H) hm;rw[z] at e;cases e
structure Mod (K:PySem.W.Frag)(mg:Str->Option Value)(base:Heap):Prop where
 kin:K.In base
 glob:base.Ns mainGlobals mg
 blt:∃mb,base.Ns builtinsNs mb/\∀x:Str,x≠"__name__"->mb x=bootBuiltins x
 nolimit:base.NoLimit
structure Cx where
 prog:Program
 w:World
 K:PySem.W.Frag
 mg:Str->Option Value
 base:Heap
 A:Around
 N:List Str
 s₀:Shared
 H₀:Hp
 env:Env
 outer:List Env
 stack:List Env
 ex:List Addr
 fn:Str->Bool
 calm:Bool
 pn:List (Addr×Obj)
 xe:Value->Shared->Prop
def frs (l:List Env):List Addr:=l.filterMap (·.frame)
abbrev Cx.fs (X:Cx):List Addr:=frs X.outer
def Vis (sc:Scope)(x:Str):Prop:=sc.names.lookup x=some .local\/sc.names.lookup x=some .cell\/sc.names.lookup x=some .free
def Loc (sc:Scope)(x:Str):Prop:=sc.names.lookup x=some .local\/sc.names.lookup x=some .cell
def Look (env:Env)(h:Heap)(m:Str->Option Value)(x:Str)(u:Value):Prop:=
 (env.kindOf x=some .local/\m x=some u)\/((env.kindOf x=some .cell\/env.kindOf x=some .free)/\∃c,env.cells.lookup x=some c/\h.IsCell c (some u))
structure Cx.Ok (X:Cx):Prop where
 mod:Mod X.K X.mg X.base
 kind:X.env.scope.kind=.function
 glob:X.env.globals=mainGlobals
 blt:X.env.builtins=builtinsNs
 above:X.s₀.heap.objs.size<=X.env.locals
 inj:∀x y c,X.env.cells.lookup x=some c->X.env.cells.lookup y=some c->x=y
 has:∀x,(X.env.kindOf x=some .cell\/X.env.kindOf x=some .free)->∃c,X.env.cells.lookup x=some c
 cab:∀x c,X.fn x=true->X.env.cells.lookup x=some c->X.s₀.heap.objs.size<=c
 hd:X.calm=true->X.A.handled=none
 frames:X.A.frames=some X.stack
 stk:X.stack=X.outer\/(X.stack=X.env::X.outer/\X.env.frame=some X.env.locals)
 exf:∀b∈X.ex,b≠X.env.locals/\∀x c,X.env.cells.lookup x=some c->c≠b
 bs:∀b o,X.base.get? b=some o->X.s₀.heap.get? b=some o/\X.H₀ b=none
 bsz:X.base.objs.size<=X.s₀.heap.objs.size
 noex:∀b o,X.base.get? b=some o->b∉X.ex
 exfs:∀b∈X.ex,b∉X.fs
 funs:X.s₀.heap.FunFrames X.base X.outer
 frf:∀b∈X.fs,X.H₀ b=none
structure Inv (X:Cx)(pins:List (Addr×Obj))(σ:List (Option V))(H:Hp)(s:Shared):Prop where
 ok:X.Ok
 os:s.os=X.s₀.os
 bare:AllBare s.gens
 base:Un X.fs X.ex X.H₀ H X.s₀.heap s.heap
 loc:∃m,s.heap.Ns X.env.locals m/\∀(i:Nat) (x:Str) (v:V),X.N[i]?=some x->σ[i]?=some (some v)->Vis X.env.scope x->∃u,RelV v u/\Look X.env s.heap m x u
 cell:∀x c,X.env.cells.lookup x=some c->∃v,s.heap.IsCell c v
 free:H X.env.locals=none
 freeC:∀x c,X.env.cells.lookup x=some c->H c=none
 pin:∀p∈X.pn++pins,s.heap.get? p.1=some p.2/\H p.1=none/\p.1≠X.env.locals/\p.1∉X.fs/\∀v,p.2.data≠.cell v
 hok:HOk X.prog X.w H s.heap
 len:σ.length=X.N.length
section
variable {X:Cx}{pins:List (Addr×Obj)}{σ:List (Option V)}{H H':Hp}{s:Shared}{h':Heap}
theorem Cx.Ok.nofr (ok:X.Ok){b:Addr}{o:Obj}(e:X.base.get? b=some o):b∉X.fs:=fun hb=>by
 have:=(ok.funs.mem hb).1;rw[e] at this;cases this
theorem Inv.bs (I:Inv X pins σ H s):∀b o,X.base.get? b=some o->s.heap.get? b=some o/\H b=none:=fun b o e=>
 ⟨I.base.keep b o (I.ok.bs b o e).1 (I.ok.bs b o e).2 (I.ok.nofr e) (I.ok.noex b o e),I.base.free b o (I.ok.bs b o e).1 (I.ok.bs b o e).2 (I.ok.noex b o e)⟩
theorem Inv.bk (I:Inv X pins σ H s):∀b o,X.base.get? b=some o->s.heap.get? b=some o:=fun b o e=>(I.bs b o e).1
theorem Inv.mod (I:Inv X pins σ H s):Mod X.K X.mg X.base:=I.ok.mod
theorem Inv.kIn (I:Inv X pins σ H s):X.K.In s.heap:=I.ok.mod.kin.keeps I.bk
theorem Inv.lt (I:Inv X pins σ H s):X.env.locals<s.heap.objs.size:=let ⟨_,hn,_⟩:=I.loc;hn.lt
theorem Inv.sz (I:Inv X pins σ H s):X.s₀.heap.objs.size<=s.heap.objs.size:=zT3 I.ok.above (zW0 I.lt)
theorem Inv.nofs (I:Inv X pins σ H s){a:Addr}(h:s.heap.objs.size<=a):a∉X.fs:=fun hb=>by
 obtain⟨_,o,ho,_⟩:=I.ok.funs.mem hb;exact absurd (zR0 (zP6 ho) (zT3 I.sz h)) (zU5 _)
theorem Inv.cne (I:Inv X pins σ H s):∀x c,X.env.cells.lookup x=some c->c≠X.env.locals:=fun x c e z=>by
 obtain⟨v,o,ho,hd⟩:=I.cell x c e;obtain⟨m,⟨o',es,ep,ho',hd',_⟩,_⟩:=I.loc;rw[z,ho'] at ho;cases ho;rw[hd'] at hd;cases hd
theorem Inv.funs (I:Inv X pins σ H s):s.heap.FunFrames X.base X.outer:=by
 have all:∀(l:List Env),(∀b∈frs l,b∈X.fs)->X.s₀.heap.FunFrames X.base l->s.heap.FunFrames X.base l:=by
  intro l
  induction l with
  |nil=>intro _ _;trivial
  |cons env r ih=>
   intro hs hl;obtain⟨hk,⟨L,o,hf,hn,ho,hd⟩,hr⟩:=hl;have hL:L∈X.fs:=hs L (by unfold frs;rw[zX9,hf];exact zQ1);obtain⟨sl,e⟩:=I.base.slot L o ho (I.ok.frf L hL) hL fun z=>I.ok.exfs L z hL;exact⟨hk,⟨L,_,hf,hn,e,hd⟩,ih (fun b hb=>hs b (by unfold frs;rw[zX9,hf];exact zP5 _ hb)) hr⟩
 exact all X.outer (fun _ hb=>hb) I.ok.funs
theorem Inv.stack (I:Inv X pins σ H s):s.heap.FunFrames X.base X.stack:=by
 rcases I.ok.stk with e|⟨e,hf⟩
 ·rw[e];exact I.funs
 ·rw[e];obtain⟨m,hn,_⟩:=I.loc;refine .cons (by rw[I.ok.kind];decide) hf hn ?_ I.funs;exact Heap.get?_none_of_le (zT3 I.ok.bsz I.ok.above)
theorem Inv.stkSub (I:Inv X pins σ H s):∀b∈frs X.stack,b∈X.env.locals::X.fs:=fun b hb=>by
 rcases I.ok.stk with e|⟨e,hf⟩
 ·rw[e] at hb;exact zP5 _ hb
 ·rw[e] at hb;unfold frs at hb;rw[zX9,hf] at hb;exact hb
theorem Inv.stkFree (I:Inv X pins σ H s):∀b∈frs X.stack,H b=none:=fun b hb=>by
 rcases zP2.mp (I.stkSub b hb) with e|hb
 ·rw[e];exact I.free
 ·obtain⟨_,o,ho,_⟩:=I.ok.funs.mem hb;exact I.base.free b o ho (I.ok.frf b hb) fun z=>I.ok.exfs b z hb
theorem Inv.step {g':Array GenState}{t':Nat}{d':Drawn}{ch:List Addr}(I:Inv X pins σ H s)
  (hch:∀b∈ch,(b∈X.ex\/X.s₀.heap.objs.size<=b)/\b≠X.env.locals/\(∀x c,X.env.cells.lookup x=some c->c≠b)/\∀p∈X.pn++pins,p.1≠b)
  (keep:∀b o,b≠X.env.locals->b∉X.fs->b∉ch->s.heap.get? b=some o->H b=none->h'.get? b=some o)
  (slot:∀b o,b≠X.env.locals->b∈X.fs->b∉ch->s.heap.get? b=some o->H b=none->∃sl,h'.get? b=some {o with slots:=sl}) (free:∀b o,b∉ch->s.heap.get? b=some o->H b=none->H' b=none)
  (there:∀b o,b∉ch->s.heap.get? b=some o->∃o',h'.get? b=some o')
  (tups:∀b xs,H b=some (.tup xs)->H' b=some (.tup xs)) (frzs:∀b o u,H b=some (.frz o u)->H' b=some (.frz o u)) (tbls:∀b ps,H b=some (.tbl ps)->∃more,H' b=some (.tbl (ps++more)))
  (ns:∀m,s.heap.Ns X.env.locals m->h'.Ns X.env.locals m) (hok:HOk X.prog X.w H' h') (hg:AllBare g'):
  Inv X pins σ H' {s with heap:=h',gens:=g',drawn:=d',toks:=t'}:=by
 have neL:∀b o,X.s₀.heap.get? b=some o->b≠X.env.locals:=fun b o e=>zQ7 (zR0 (zP6 e) I.ok.above);have neC:∀b o,X.s₀.heap.get? b=some o->b∉X.ex->b∉ch:=fun b o e hx hb=>by
  rcases (hch b hb).1 with z|z
  ·exact hx z
  ·exact absurd (zR0 (zP6 e) z) (zU5 _)
 have cellK:∀x c,X.env.cells.lookup x=some c->∀v,s.heap.IsCell c v->h'.IsCell c v:=fun x c e v ⟨o,ho,hd⟩=>by
  have nch:c∉ch:=fun z=>(hch c z).2.2.1 x c e rfl;by_cases hc:c∈X.fs
  ·obtain⟨sl,q⟩:=slot c o (I.cne x c e) hc nch ho (I.freeC x c e);exact⟨_,q,hd⟩
  ·exact⟨o,keep c o (I.cne x c e) hc nch ho (I.freeC x c e),hd⟩
 refine⟨I.ok,I.os,hg,⟨fun b o e n hb hx=>?_,fun b o e n hb hx=>?_,fun b o e n hx=>?_,fun b o e hx=>?_,fun b xs e=>tups b xs (I.base.tups b xs e),fun b o xs e=>frzs b o xs (I.base.frzs b o xs e),fun b ps e=>?_⟩,?_,fun x c e=>?_,?_,fun x c e=>?_,fun p hp=>?_,hok,I.len⟩
 ·exact keep b o (neL b o e) hb (neC b o e hx) (I.base.keep b o e n hb hx) (I.base.free b o e n hx)
 ·obtain⟨sl,e1⟩:=I.base.slot b o e n hb hx;obtain⟨sl',e2⟩:=slot b _ (neL b o e) hb (neC b o e hx) e1 (I.base.free b o e n hx);exact⟨sl',e2⟩
 ·obtain⟨o',e1⟩:=I.base.there b o e hx;exact free b o' (neC b o e hx) e1 (I.base.free b o e n hx)
 ·obtain⟨o',e1⟩:=I.base.there b o e hx;exact there b o' (neC b o e hx) e1
 ·obtain⟨m1,e1⟩:=I.base.tbls b ps e;obtain⟨m2,e2⟩:=tbls b _ e1;exact⟨m1++m2,by rw[e2,Array.append_assoc]⟩
 ·obtain⟨m,hn,hl⟩:=I.loc;refine⟨m,ns m hn,fun i x v e1 e2 e3=>?_⟩;obtain⟨u,r,l⟩:=hl i x v e1 e2 e3;refine⟨u,r,?_⟩;rcases l with l|⟨k,c,e,z⟩
  ·exact .inl l
  ·exact .inr ⟨k,c,e,cellK x c e _ z⟩
 ·obtain⟨v,z⟩:=I.cell x c e;exact⟨v,cellK x c e v z⟩
 ·obtain⟨m,⟨o,_,_,ho,_⟩,_⟩:=I.loc;exact free _ o (fun z=>(hch _ z).2.1 rfl) ho I.free
 ·obtain⟨v,o,ho,hd⟩:=I.cell x c e;exact free c o (fun z=>(hch c z).2.2.1 x c e rfl) ho (I.freeC x c e)
 ·obtain⟨e,n,ne,nf,d⟩:=I.pin p hp;have nch:p.1∉ch:=fun z=>(hch p.1 z).2.2.2 p hp rfl;exact⟨keep p.1 p.2 ne nf nch e n,free p.1 p.2 nch e n,ne,nf,d⟩
theorem Inv.un {t':Nat}(I:Inv X pins σ H s)(u:Un X.fs [] H H' s.heap h')(hok:HOk X.prog X.w H' h'):Inv X pins σ H' {s with heap:=h',toks:=t'}:=by
 obtain⟨m,⟨o,es,ep,ho,r⟩,_⟩:=id I.loc;obtain⟨sl,hL⟩:=u.any ho I.free (by simp);exact I.step (g':=s.gens) (d':=s.drawn) (ch:=[]) (fun _ z=>nomatch z) (fun b o _ hb _ e n=>u.keep b o e n hb (by simp)) (fun b o _ hb _ e n=>u.slot b o e n hb (by simp)) (fun b o _ e n=>u.free b o e n (by simp)) (fun b o _ e=>u.there b o e (by simp)) u.tups u.frzs u.tbls (fun m' hm=>by
  obtain⟨o',es',ep',ho',r'⟩:=hm;rw[ho] at ho';cases ho';exact⟨_,es',ep',hL,r'⟩) hok I.bare
theorem Inv.call {g':Array GenState}{t':Nat}{d':Drawn}{ch:List Addr}(I:Inv X pins σ H s)(u:Un (frs X.stack) ch H H' s.heap h')(hok:HOk X.prog X.w H' h')(hg:AllBare g')
  (hch:∀b∈ch,(b∈X.ex\/X.s₀.heap.objs.size<=b)/\b≠X.env.locals/\(∀x c,X.env.cells.lookup x=some c->c≠b)/\∀p∈X.pn++pins,p.1≠b):
  Inv X pins σ H' {s with heap:=h',gens:=g',drawn:=d',toks:=t'}:=by
 obtain⟨m,⟨o,es,ep,ho,r⟩,_⟩:=id I.loc;obtain⟨sl,hL⟩:=u.any ho I.free fun z=>(hch _ z).2.1 rfl;exact I.step (ch:=ch) hch (fun b o hL hb hc e n=>u.keep b o e n (fun z=>(zP2.mp (I.stkSub b z)).elim hL hb) hc) (fun b o _ _ hc e n=>u.any e n hc) (fun b o hc e n=>u.free b o e n hc) (fun b o hc e=>u.there b o e hc) u.tups u.frzs u.tbls (fun m' hm=>by
  obtain⟨o',es',ep',ho',r'⟩:=hm;rw[ho] at ho';cases ho';exact⟨_,es',ep',hL,r'⟩) hok hg
theorem Inv.turned {t':Nat}{it:Addr}(I:Inv X pins σ H s)(k:∀b o,b≠it->s.heap.get? b=some o->h'.get? b=some o)(hn:H it=none)(hL:it≠X.env.locals)
  (h1:it∈X.ex\/X.s₀.heap.objs.size<=it) (h2:∀x c,X.env.cells.lookup x=some c->c≠it) (h3:∀p∈X.pn++pins,p.1≠it):Inv X pins σ H {s with heap:=h',toks:=t'}:=by
 have nit:∀b u,H b=some u->b≠it:=fun b u e z=>by rw[z,hn] at e;cases e
 refine I.step (g':=s.gens) (d':=s.drawn) (ch:=[it]) (fun b hb=>?_) (fun b o _ _ hc e _=>k b o (fun z=>hc (by simp[z])) e) (fun b o _ _ hc e _=>⟨o.slots,k b o (fun z=>hc (by simp[z])) e⟩) (fun _ _ _ _ n=>n)
  (fun b o hc e=>⟨o,k b o (fun z=>hc (by simp[z])) e⟩) (fun _ _ e=>e) (fun _ _ _ e=>e) (fun b ps e=>⟨#[],by rw[e];simp⟩) (fun m hm=>?_) (fun b u e=>?_) I.bare
 ·have e:b=it:=by simpa using hb
  subst e;exact⟨h1,hL,h2,h3⟩
 ·obtain⟨o,es,ep,ho,r⟩:=hm;exact⟨o,es,ep,k _ o (zS2 hL) ho,r⟩
 ·refine (I.hok b u e).stay (fun c v hc q=>k c v ?_ q) (fun _ q=>q) fun _ _ q=>q;rcases hc with z|z
  ·rw[z];exact nit b u e
  ·exact nit c _ z
theorem Inv.tok (I:Inv X pins σ H s)(t:Nat):Inv X pins σ H {s with toks:=t}:=I.un (h':=s.heap) (t':=t) Un.refl I.hok
theorem Inv.kept {t':Nat}(I:Inv X pins σ H s)(k:∀b u,s.heap.get? b=some u->h'.get? b=some u):Inv X pins σ H {s with heap:=h',toks:=t'}:=I.un (Un.kept k) (I.hok.kept k)
theorem Inv.laid {a:Addr}{o:HO}{t':Nat}(I:Inv X pins σ H s)(k:∀b u,s.heap.get? b=some u->h'.get? b=some u)(hp:s.heap.objs.size<=a)(new:zM X.prog X.w (upd H a o) h' a o):
  Inv X pins σ (upd H a o) {s with heap:=h',toks:=t'}:=I.un (Un.laid k hp (I.hok.fresh hp)) (I.hok.laid k hp new)
theorem Inv.write {x e:Addr}{o:HO}{t':Nat}(I:Inv X pins σ H s)(mu:Mut (H x))(he:e=x\/H e=some (.own x))(k:∀b u,b≠e->s.heap.get? b=some u->h'.get? b=some u)(heo:∃u,h'.get? e=some u)
  (new:zM X.prog X.w (upd H x o) h' x o):Inv X pins σ (upd H x o) {s with heap:=h',toks:=t'}:=I.un (Un.write mu he k heo) (I.hok.write mu he k heo new)
theorem Inv.pins_of {pins':List (Addr×Obj)}(I:Inv X pins σ H s)(h:∀p∈pins',s.heap.get? p.1=some p.2/\H p.1=none/\p.1≠X.env.locals/\p.1∉X.fs/\∀v,p.2.data≠.cell v):Inv X pins' σ H s:=
 ⟨I.ok,I.os,I.bare,I.base,I.loc,I.cell,I.free,I.freeC,fun p hp=>(zT1.mp hp).elim (fun z=>I.pin p (zY9 _ z)) (h p),I.hok,I.len⟩
theorem mV {N:List Str}(hN:N.Nodup){i j:Nat}{x:Str}(a:N[i]?=some x)(b:N[j]?=some x):i=j:=by
 obtain⟨h1,e1⟩:=zP1.mp a;obtain⟨h2,e2⟩:=zP1.mp b;exact (List.getElem_inj hN).mp (e1.trans e2.symm)
theorem pU {M:Model}{A:Around}{E:Value->Shared->Prop}{i:Nat}{x:Str}{v:V}{u:Value}{Q:Unit->Shared->Prop}(I:Inv X pins σ H s)(hN:X.N.Nodup)(hi:X.N[i]?=some x)(hx:Loc X.env.scope x)(r:RelV v u)
  (h:∀s',Inv X pins (σ.set i (some v)) H s'->(∃a,Heap.SameBut a s.heap s'.heap/\(a=X.env.locals\/X.env.cells.lookup x=some a))->Q () s') (hf:X.fn x=true\/X.env.scope.names.lookup x=some .local:=by first|exact .inl rfl|exact .inr rfl|assumption):wpAny M A (storeName X.env x u) Q E s:=by
 obtain⟨m,hn,hl⟩:=id I.loc;have hcls:(X.env.scope.kind == .class||(X.env.scope.kind == .module&&X.env.locals != X.env.globals))=false:=by rw[I.ok.kind];rfl
 have hiσ:i<σ.length:=by rw[I.len];exact (zP1.mp hi).1
 have cne:=I.cne;have tracked:∀{a:Addr} {h':Heap},(∃o,s.heap.get? a=some o/\H a=none)->Heap.SameBut a s.heap h'->HOk X.prog X.w H h':=fun {a h'} ha hs b ob e=>by
  obtain⟨_,_,hfree⟩:=ha;refine (I.hok b ob e).stay (fun c w' hc q=>(hs.2 c ?_).trans q) (fun _ q=>q) fun _ _ q=>q;rintro rfl;rcases hc with rfl|hc
  ·rw[hfree] at e;cases e
  ·rw[hfree] at hc;cases hc
 rcases hx with hk|hk
 ·refine wpAny_storeName_local hk hn (fun h' hn' hs=>?_) hcls;obtain⟨oL,_,_,hoL,_⟩:=id hn;refine h _ ⟨I.ok,I.os,I.bare,⟨fun b o e n hb hx=>?_,fun b o e n hb hx=>?_,I.base.free,fun b o e hx=>?_,I.base.tups,I.base.frzs,I.base.tbls⟩,⟨_,hn',fun j y v' e1 e2 e3=>?_⟩,fun y c e=>?_,I.free,I.freeC,fun p hp=>?_,tracked ⟨oL,hoL,I.free⟩ hs,by simpa using I.len⟩ ⟨_,hs,.inl rfl⟩
  ·exact (hs.2 b (zQ7 (zR0 (zP6 e) I.ok.above))).trans (I.base.keep b o e n hb hx)
  ·obtain⟨sl,e1⟩:=I.base.slot b o e n hb hx;exact⟨sl,(hs.2 b (zQ7 (zR0 (zP6 e) I.ok.above))).trans e1⟩
  ·obtain⟨o',e1⟩:=I.base.there b o e hx;exact⟨o',(hs.2 b (zQ7 (zR0 (zP6 e) I.ok.above))).trans e1⟩
  ·by_cases hj:j=i
   ·subst hj;rw[hi] at e1;cases e1;rw[zY0 hiσ] at e2;cases e2;exact⟨u,r,.inl ⟨hk,by simp⟩⟩
   ·rw[zU3 (zS2 hj)] at e2;obtain⟨u',r',q⟩:=hl j y v' e1 e2 e3;refine⟨u',r',?_⟩;rcases q with ⟨k,e⟩|⟨k,c,e,z⟩
    ·refine .inl ⟨k,?_⟩;have:y≠x:=fun e=>hj (mV hN e1 (e▸hi));simp[this,e]
    ·exact .inr ⟨k,c,e,z.sameBut hs (cne y c e)⟩
  ·obtain⟨w',z⟩:=I.cell y c e;exact⟨w',z.sameBut hs (cne y c e)⟩
  ·obtain⟨e,n,ne,nf,d⟩:=I.pin p hp;exact⟨(hs.2 p.1 ne).trans e,n,ne,nf,d⟩
 ·have hfn:X.fn x=true:=by
   rcases hf with z|z
   ·exact z
   ·rw[z] at hk;cases hk
  obtain⟨c,hc⟩:=I.ok.has x (.inl hk);obtain⟨w',z⟩:=I.cell x c hc;refine wpAny_storeName_cell I.ok.kind hk hc z (fun h' hc' hs=>?_);obtain⟨oc,hoc,hocd⟩:=id z;refine h {s with heap:=h'} ⟨I.ok,I.os,I.bare,⟨fun b o e n hb hx=>?_,fun b o e n hb hx=>?_,I.base.free,fun b o e hx=>?_,I.base.tups,I.base.frzs,I.base.tbls⟩,⟨m,hn.sameBut hs (zS2 (cne x c hc)),fun j y v' e1 e2 e3=>?_⟩,fun y c' e=>?_,I.free,I.freeC,fun p hp=>?_,tracked ⟨oc,hoc,I.freeC x c hc⟩ hs,by simpa using I.len⟩ ⟨c,hs,.inr hc⟩
  ·exact (hs.2 b (zQ7 (zR0 (zP6 e) (I.ok.cab x c hfn hc)))).trans (I.base.keep b o e n hb hx)
  ·obtain⟨sl,e1⟩:=I.base.slot b o e n hb hx;exact⟨sl,(hs.2 b (zQ7 (zR0 (zP6 e) (I.ok.cab x c hfn hc)))).trans e1⟩
  ·obtain⟨o',e1⟩:=I.base.there b o e hx;exact⟨o',(hs.2 b (zQ7 (zR0 (zP6 e) (I.ok.cab x c hfn hc)))).trans e1⟩
  ·by_cases hj:j=i
   ·subst hj;rw[hi] at e1;cases e1;rw[zY0 hiσ] at e2;cases e2;exact⟨u,r,.inr ⟨.inl hk,c,hc,hc'⟩⟩
   ·rw[zU3 (zS2 hj)] at e2;obtain⟨u',r',q⟩:=hl j y v' e1 e2 e3;refine⟨u',r',?_⟩;rcases q with q|⟨k,c',e,z'⟩
    ·exact .inl q
    ·refine .inr ⟨k,c',e,z'.sameBut hs ?_⟩;rintro rfl;exact hj (mV hN e1 (I.ok.inj _ _ _ e hc▸hi))
  ·by_cases hcc:c'=c
   ·subst hcc;exact⟨_,hc'⟩
   ·obtain⟨w2,z2⟩:=I.cell y c' e;exact⟨w2,z2.sameBut hs hcc⟩
  ·obtain⟨e,n,ne,nf,d⟩:=I.pin p hp;refine⟨(hs.2 p.1 ?_).trans e,n,ne,nf,d⟩;intro q;rw[q,hoc] at e;have q':oc=p.2:=zR7 e;exact d w' (by rw[<-q'];exact hocd)
theorem lh {M:Model}{A:Around}{E:Value->Shared->Prop}{i:Nat}{x:Str}{v:V}{u:Value}{Q:Unit->Shared->Prop}(I:Inv X pins σ H s)(hN:X.N.Nodup)(hi:X.N[i]?=some x)(hx:Loc X.env.scope x)(r:RelV v u)
  (h:∀s',Inv X pins (σ.set i (some v)) H s'->Q () s') (hf:X.fn x=true\/X.env.scope.names.lookup x=some .local:=by first|exact .inl rfl|exact .inr rfl|assumption):wpAny M A (storeName X.env x u) Q E s:=
 pU I hN hi hx r (fun s' I' _=>h s' I') hf
theorem Inv.call' {s':Shared}{ch:List Addr}(I:Inv X pins σ H s)(ho:s'.os=s.os)(u:Un (frs X.stack) ch H H' s.heap s'.heap)(hok:HOk X.prog X.w H' s'.heap)(hg:AllBare s'.gens)
  (hch:∀b∈ch,(b∈X.ex\/X.s₀.heap.objs.size<=b)/\b≠X.env.locals/\(∀x c,X.env.cells.lookup x=some c->c≠b)/\∀p∈X.pn++pins,p.1≠b):Inv X pins σ H' s':=by
 obtain⟨h',g',d',t',o'⟩:=s';have e:o'=s.os:=ho;subst e;exact I.call (g':=g') (t':=t') (d':=d') u hok hg hch
end
abbrev XK :=Value->Option Addr->Hp->Prop
abbrev St :=List (Option V)
abbrev VK :=V->Hp->Prop
abbrev TE :=St->Hp->VK->Prop
abbrev TT :=St->Hp->(Bool->Hp->Prop)->Prop
abbrev TA :=St->Hp->(List V->Hp->Prop)->Prop
structure Ends where
 nx:St->Hp->Prop
 rt:VK
 bk:St->Hp->Prop:=fun _ _=>False
 ct:St->Hp->Prop:=fun _ _=>False
abbrev TS :=Ends->St->Hp->Prop
def EP (X:Cx)(pins:List (Addr×Obj))(σ:St)(Q:VK)(u:Value)(s':Shared):Prop:=∃v H',Inv X pins σ H' s'/\RelV v u/\Q v H'
def TP (X:Cx)(pins:List (Addr×Obj))(σ:St)(Q:Bool->Hp->Prop)(b:Bool)(s':Shared):Prop:=∃H',Inv X pins σ H' s'/\Q b H'
def AP (X:Cx)(pins:List (Addr×Obj))(σ:St)(Q:List V->Hp->Prop)(us:List Value)(s':Shared):Prop:=∃vs H',Inv X pins σ H' s'/\Vals vs us/\Q vs H'
def SP (X:Cx)(pins:List (Addr×Obj))(D:Ends)(f:Flow)(s':Shared):Prop:=
 match f with
 |.next=>∃σ' H',Inv X pins σ' H' s'/\D.nx σ' H'
 |.brk=>∃σ' H',Inv X pins σ' H' s'/\D.bk σ' H'
 |.cont=>∃σ' H',Inv X pins σ' H' s'/\D.ct σ' H'
 |.ret u=>∃v σ' H',Inv X pins σ' H' s'/\RelV v u/\D.rt v H'
def PE (X:Cx)(e:Expr)(t:TE):Prop:=
 ∀(pins:List (Addr×Obj)) (s:Shared) (σ:St) (H:Hp) (Q:VK),Inv X pins σ H s->t σ H Q->wpAny (model X.prog X.w) X.A (eval e X.env) (EP X pins σ Q) X.xe s
def PT (X:Cx)(e:Expr)(t:TT):Prop:=
 ∀(pins:List (Addr×Obj)) (s:Shared) (σ:St) (H:Hp) (Q:Bool->Hp->Prop),Inv X pins σ H s->t σ H Q->wpAny (model X.prog X.w) X.A (isTrue e X.env (eval e X.env)) (TP X pins σ Q) X.xe s
def PW (X:Cx)(e:Expr)(t:TT):Prop:=
 ∀(whole:Sem Value) (pins:List (Addr×Obj)) (s:Shared) (σ:St) (H:Hp) (Q:Bool->Hp->Prop),Inv X pins σ H s->t σ H Q->wpAny (model X.prog X.w) X.A (isTrue e X.env whole) (TP X pins σ Q) X.xe s
theorem PW.pt {X:Cx}{e:Expr}{t:TT}(h:PW X e t):PT X e t:=h _
def PA (X:Cx)(es:List Expr)(t:TA):Prop:=
 ∀(pos:Pos) (pins:List (Addr×Obj)) (s:Shared) (σ:St) (H:Hp) (Q:List V->Hp->Prop),Inv X pins σ H s->t σ H Q->wpAny (model X.prog X.w) X.A (spliced (backTo pos (starEach es X.env))) (AP X pins σ Q) X.xe s
def PS (X:Cx)(st:Stmt)(t:TS):Prop:=
 ∀(pins:List (Addr×Obj)) (s:Shared) (σ:St) (H:Hp) (D:Ends),Inv X pins σ H s->t D σ H->wpAny (model X.prog X.w) X.A (exec st X.env) (SP X pins D) X.xe s
def PSs (X:Cx)(st:List Stmt)(t:TS):Prop:=
 ∀(pins:List (Addr×Obj)) (s:Shared) (σ:St) (H:Hp) (D:Ends),Inv X pins σ H s->t D σ H->wpAny (model X.prog X.w) X.A (execs st X.env) (SP X pins D) X.xe s
theorem thn {α:Type}{t:Sem α}{Q Q':α->Shared->Prop}{M:Model}{A:Around}{E:Value->Shared->Prop}{s:Shared}(h:wpAny M A t Q E s)(hQ:∀a s,Q a s->Q' a s):wpAny M A t Q' E s:=zT6 h hQ fun _ _ x=>x
section
variable {X:Cx}
theorem bin {a b:Expr}{ta tb:TE}(ha:PE X a ta)(hb:PE X b tb){pins:List (Addr×Obj)}{s:Shared}{σ:St}{H:Hp}{R:V->V->Hp->Prop}(I:Inv X pins σ H s)(h:ta σ H fun x H1=>tb σ H1 fun y H2=>R x y H2)
  {α:Type} {Q:α->Shared->Prop} {f:Value->Value->Sem α}
  (hf:∀v u s2 x y H2,Inv X pins σ H2 s2->RelV x v->RelV y u->R x y H2->wpAny (model X.prog X.w) X.A (f v u) Q X.xe s2):
  wpAny (model X.prog X.w) X.A (eval a X.env) (fun v s₁=>wpAny (model X.prog X.w) X.A (eval b X.env) (fun u s₂=>wpAny (model X.prog X.w) X.A (f v u) Q X.xe s₂) X.xe s₁) X.xe s:=by
 refine thn (ha pins s σ H _ I h) fun v s1 ⟨x,H1,I1,r1,q1⟩=>?_;refine thn (hb pins s1 σ H1 _ I1 q1) fun u s2 ⟨y,H2,I2,r2,q2⟩=>?_;exact hf v u s2 x y H2 I2 r1 r2 q2
def zA2 (i:Nat):TE:=fun σ H Q=>∃v,σ[i]?=some (some v)/\Q v H
def tC (v:V):TE:=fun _ H Q=>Q v H
theorem xH {i:Nat}{x:Str}{pos:Pos}(hN:X.N[i]?=some x)(hv:Vis X.env.scope x)(hd:(x == ("__debug__":Str))=false:=by decide)(hcd:(x == ("__classdict__":Str))=false:=by decide):PE X (.Name x pos) (zA2 i):=by
 intro pins s σ H Q I h;obtain⟨v,e,h⟩:=h;obtain⟨m,hn,hl⟩:=I.loc;obtain⟨u,r,l⟩:=hl i x v hN e hv;have fin:EP X pins σ Q u s:=⟨v,H,I,r,h⟩;rcases l with ⟨hk,hm⟩|⟨hk,c,hc,hcell⟩
 ·exact wpAny_Name (wpAny_loadName_local I.ok.kind hk hn hm fin) hd
 ·rcases hk with hk|hk
  ·exact wpAny_Name (wpAny_loadName_cell I.ok.kind hk hc hcell fin) hd
  ·exact wpAny_Name (wpAny_loadName_free I.ok.kind hk hc hcell fin hcd) hd
theorem zr {i j pos}:PE X (.Constant (.int i) j pos) (tC (.int i)):=fun _ _ _ H _ I h=>wpAny_Constant_int ⟨.int i,H,I.tok _,⟨_,rfl⟩,h⟩
theorem zE6 {b j pos}:PE X (.Constant (.bool b) j pos) (tC (.bl b)):=fun _ _ _ H _ I h=>Constant_bool ⟨.bl b,H,I,rfl,h⟩
theorem pY {j pos}:PE X (.Constant .none j pos) (tC .non):=fun _ _ _ H _ I h=>Constant_none ⟨.non,H,I,rfl,h⟩
theorem yp {x j pos}:PE X (.Constant (.str x) j pos) (tC (.str x)):=fun _ _ _ H _ I h=>Calls.Constant_str ⟨.str x,H,I.tok _,⟨_,rfl⟩,h⟩
def Gl (X:Cx)(x:Str):Prop:=X.env.kindOf x=some .globalImplicit
theorem sF {E:Value->Shared->Prop}{pins:List (Addr×Obj)}{s:Shared}{σ:St}{H:Hp}{x:Str}{u:Value}{pos:Pos}{Q:Value->Shared->Prop}(I:Inv X pins σ H s)(hg:Gl X x)(hm:X.mg x=some u)(h:Q u s)
  (hd:(x == ("__debug__":Str))=false:=by decide):wpAny (model X.prog X.w) X.A (eval (.Name x pos) X.env) Q E s:=
 Calls.Name_function_global I.ok.kind hg (Calls.loadGlobal_global (by rw[I.ok.glob];exact I.mod.glob.keeps I.bk) hm h) hd
theorem xq {E:Value->Shared->Prop}{pins:List (Addr×Obj)}{s:Shared}{σ:St}{H:Hp}{x:Str}{u:Value}{pos:Pos}{Q:Value->Shared->Prop}(I:Inv X pins σ H s)(hg:Gl X x)(hm:X.mg x=none)(hv:bootBuiltins x=some u)(h:Q u s)
  (hn:x≠"__name__":=by decide) (hd:(x == ("__debug__":Str))=false:=by decide):wpAny (model X.prog X.w) X.A (eval (.Name x pos) X.env) Q E s:=by
 obtain⟨mb,h1,h2⟩:=I.mod.blt;exact Calls.Name_function_global I.ok.kind hg (Calls.loadGlobal_builtin (by rw[I.ok.glob];exact I.mod.glob.keeps I.bk) hm (by rw[I.ok.blt];exact h1.keeps I.bk) ((h2 x hn).trans hv) h) hd
theorem uL {x:Str}{v:V}{u:Value}{pos:Pos}(hg:Gl X x)(hm:X.mg x=some u)(r:RelV v u)(hd:(x == ("__debug__":Str))=false:=by decide):PE X (.Name x pos) (tC v):=
 fun _ _ _ H _ I h=>sF I hg hm ⟨v,H,I,r,h⟩ hd
theorem vN {x:Str}{v:V}{u:Value}{pos:Pos}(hg:Gl X x)(hm:X.mg x=none)(hv:bootBuiltins x=some u)(r:RelV v u)(hn:x≠"__name__":=by decide)(hd:(x == ("__debug__":Str))=false:=by decide):PE X (.Name x pos) (tC v):=
 fun _ _ _ H _ I h=>xq I hg hm hv ⟨v,H,I,r,h⟩ hn hd
variable {a b:Expr}{ta tb:TE}{pos:Pos}
def PC (X:Cx)(op:CmpOp)(a b:Expr)(t:TE):Prop:=
 ∀(pins:List (Addr×Obj)) (s:Shared) (σ:St) (H:Hp) (Q:VK),Inv X pins σ H s->t σ H Q->
  wpAny (model X.prog X.w) X.A (eval a X.env) (fun v s₁=>wpAny (model X.prog X.w) X.A (eval b X.env) (fun u s₂=>wpAny (model X.prog X.w) X.A (compareOp op v u) (EP X pins σ Q) X.xe s₂) X.xe s₁) X.xe s
def tB (t:TE):TT:=fun σ H Q=>t σ H fun x H1=>∃c,x=.bl c/\Q c H1
theorem zL4 {op:CmpOp}{t:TE}(h:PC X op a b t)(h1:behindInMarks op b=false:=by first|exact nobehind _ (by decide) (by decide)|rfl):PT X (.Compare a [op] [b] pos) (tB t):=by
 intro pins s σ H Q I hw;refine wpAny_isTrue_Compare1 (thn (h pins s σ H _ I hw) fun v s1 h1=>thn h1 fun u s2 h2=>thn h2 fun c s3 ⟨x,H1,I1,r1,q1⟩=>?_) h1;obtain⟨d,rfl,q⟩:=q1;cases r1;exact zS6 ⟨H1,I1,q⟩
theorem zd0 {e:Expr}{t:TE}(h:PE X e t)(he:∀whole,isTrue e X.env whole=(do let v <-whole;standAt e.pos;holding [v] (truthy v)):=by intro _;rfl):PT X e (tB t):=by
 intro pins s σ H Q I hw;refine isTrue_plain (thn (h pins s σ H _ I hw) fun v s1 ⟨x,H1,I1,r1,q1⟩=>?_) (he _);obtain⟨d,rfl,q⟩:=q1;cases r1;exact zS6 ⟨H1,I1,q⟩
variable {tA tB':TT}{rest:List Expr}
def zM0 (t u:TT):TT:=fun σ H Q=>t σ H fun c H1=>if c=true then u σ H1 Q else Q false H1
def tOr (t u:TT):TT:=fun σ H Q=>t σ H fun c H1=>if c=true then Q true H1 else u σ H1 Q
def zN8 (t:TT):TT:=fun σ H Q=>t σ H fun c H1=>Q (!c) H1
theorem iU (ha:PT X a tA):PW X (.BoolOp .And [a] pos) tA:=by
 intro wh pins s σ H Q I h;refine isTrue_and (thn (ha pins s σ H Q I h) fun c s1 e=>?_);cases c with
 |true=>exact isTrue_and_nil e
 |false=>exact e
theorem lO (ha:PT X a tA):PW X (.BoolOp .Or [a] pos) tA:=by
 intro wh pins s σ H Q I h;refine isTrue_or (thn (ha pins s σ H Q I h) fun c s1 e=>?_);cases c with
 |false=>exact isTrue_or_nil e
 |true=>exact e
theorem aj (ha:PT X a tA)(hb:PW X (.BoolOp .And (b::rest) pos) tB'):PW X (.BoolOp .And (a::b::rest) pos) (zM0 tA tB'):=by
 intro wh pins s σ H Q I h;refine isTrue_and (thn (ha pins s σ H _ I h) fun c s1 ⟨H1,I1,q1⟩=>?_);cases c with
 |true=>exact hb wh pins s1 σ H1 Q I1 q1
 |false=>exact⟨H1,I1,q1⟩
theorem bG (ha:PT X a tA)(hb:PW X (.BoolOp .Or (b::rest) pos) tB'):PW X (.BoolOp .Or (a::b::rest) pos) (tOr tA tB'):=by
 intro wh pins s σ H Q I h;refine isTrue_or (thn (ha pins s σ H _ I h) fun c s1 ⟨H1,I1,q1⟩=>?_);cases c with
 |true=>exact⟨H1,I1,q1⟩
 |false=>exact hb wh pins s1 σ H1 Q I1 q1
theorem bj (ha:PT X a tA):PT X (.UnaryOp .Not a pos) (zN8 tA):=by
 intro pins s σ H Q I h;exact isTrue_not (ha pins s σ H (fun c H1=>Q (!c) H1) I h)
def zE1 (ta tb:TE):TE:=fun σ H Q=>ta σ H fun x H1=>∃c,x=.bl c/\if c=true then tb σ H1 Q else Q (.bl false) H1
def zO0 (ta tb:TE):TE:=fun σ H Q=>ta σ H fun x H1=>∃c,x=.bl c/\if c=true then Q (.bl true) H1 else tb σ H1 Q
def zF9 (ta:TE):TE:=fun σ H Q=>ta σ H fun x H1=>∃c,x=.bl c/\Q (.bl (!c)) H1
theorem xV {op}{t:TE}(h:PE X a t):PE X (.BoolOp op [a] pos) t:=fun pins s σ H Q I hw=>BoolOp_one (h pins s σ H Q I hw)
theorem xo (ha:PE X a ta)(hb:PE X (.BoolOp .And (b::rest) pos) tb):PE X (.BoolOp .And (a::b::rest) pos) (zE1 ta tb):=by
 intro pins s σ H Q I h;refine BoolOp_and (thn (ha pins s σ H _ I h) fun v s1 ⟨x,H1,I1,r1,q1⟩=>?_);obtain⟨c,rfl,q1⟩:=q1;cases r1;refine zS6 ?_;cases c with
 |true=>exact hb pins s1 σ H1 Q I1 q1
 |false=>exact⟨.bl false,H1,I1,rfl,q1⟩
theorem zs6 (ha:PE X a ta)(hb:PE X (.BoolOp .Or (b::rest) pos) tb):PE X (.BoolOp .Or (a::b::rest) pos) (zO0 ta tb):=by
 intro pins s σ H Q I h;refine BoolOp_or (thn (ha pins s σ H _ I h) fun v s1 ⟨x,H1,I1,r1,q1⟩=>?_);obtain⟨c,rfl,q1⟩:=q1;cases r1;refine zS6 ?_;cases c with
 |false=>exact hb pins s1 σ H1 Q I1 q1
 |true=>exact⟨.bl true,H1,I1,rfl,q1⟩
theorem bq (ha:PE X a ta):PE X (.UnaryOp .Not a pos) (zF9 ta):=by
 intro pins s σ H Q I h;refine UnaryOp_ (thn (ha pins s σ H _ I h) fun v s1 ⟨x,H1,I1,r1,q1⟩=>?_);obtain⟨c,rfl,q1⟩:=q1;cases r1;exact not_of (zS6 ⟨.bl (!c),H1,I1,rfl,q1⟩)
def tIf (t:TT)(ta tb:TE):TE:=fun σ H Q=>t σ H fun c H1=>if c=true then ta σ H1 Q else tb σ H1 Q
theorem cF {c:Expr}(hc:PT X c tA)(ha:PE X a ta)(hb:PE X b tb):PE X (.IfExp c a b pos) (tIf tA ta tb):=by
 intro pins s σ H Q I h;refine wpAny_IfExp (thn (hc pins s σ H _ I h) fun d s1 ⟨H1,I1,q1⟩=>?_);cases d with
 |true=>exact ha pins s1 σ H1 Q I1 q1
 |false=>exact hb pins s1 σ H1 Q I1 q1
end
def SqL (K:PySem.W.Frag)(H:Hp)(a:Addr)(xs:List V):Prop:=
 Rd H a (.lst xs)\/
  ∃(o:Obj) (its:Array Value) (n:Nat),K.lookup a=some o/\o.cls=.type "list"/\o.dict=none/\o.data=.seq its n/\its.size<=sizeLine/\Vals xs its.toList
def SqT (K:PySem.W.Frag)(H:Hp)(a:Addr)(xs:List V):Prop:=
 Rd H a (.tup xs)\/
  ∃(o:Obj) (its:Array Value) (n:Nat),K.lookup a=some o/\o.cls=.type "tuple"/\o.data=.seq its n/\its.size<=sizeLine/\Vals xs its.toList
def zN9 :Value->Option V
 |.none=>some .non
 |.bool b=>some (.bl b)
 |.int i _=>some (.int i)
 |.str x _=>some (.str x)
 |.bytes b _=>some (.byt b)
 |.float b _=>some (.flt b)
 |.ref a=>some (.ref a)
 |.type n=>some (.ty n)
 |_=>none
theorem RelV.abs {x:V}{u:Value}(r:RelV x u):zN9 u=some x:=by
 cases x with
 |non=>cases r;rfl
 |bl _=>cases r;rfl
 |int _=>obtain⟨t,rfl⟩:=r;rfl
 |str _=>obtain⟨t,rfl⟩:=r;rfl
 |byt _=>obtain⟨t,rfl⟩:=r;rfl
 |flt _=>obtain⟨t,rfl⟩:=r;rfl
 |ref _=>cases r;rfl
 |ty _=>cases r;rfl
theorem RelV.inj {x y:V}{u:Value}(r:RelV x u)(q:RelV y u):x=y:=zR7 (r.abs.symm.trans q.abs)
theorem Vals.inj :∀{xs ys:List V} {us:List Value},Vals xs us->Vals ys us->xs=ys
 |_,_,_,.nil,.nil=>rfl
 |_,_,_,.cons r t,.cons r' t'=>by rw[r.inj r',Vals.inj t t']
section
variable {X:Cx}{pins:List (Addr×Obj)}{σ:St}{H:Hp}{s:Shared}{a:Addr}{xs ys:List V}
theorem SqL.of {K:PySem.W.Frag}(h:H a=some (.lst xs)):SqL K H a xs:=.inl (.inl h)
theorem SqT.of {K:PySem.W.Frag}(h:H a=some (.tup xs)):SqT K H a xs:=.inl (.inl h)
theorem Inv.list (I:Inv X pins σ H s)(h:SqL X.K H a xs):∃its:List Value,Vals xs its/\PlainL s.heap a its.toArray/\xs.length<=sizeLine:=by
 rcases h with h|⟨o,its,n,hk,hc,hd,hs,hz,r⟩
 ·obtain⟨z,its,n,r,e⟩:=h.ok I.hok;exact⟨its,r,⟨_,n,e,rfl,rfl,rfl⟩,z⟩
 ·refine⟨its.toList,r,⟨o,n,I.kIn a o hk,hc,hd,by simpa using hs⟩,?_⟩;have e:=r.length;simp only[z61] at e;omega
theorem Inv.tuple (I:Inv X pins σ H s)(h:SqT X.K H a xs):∃its:List Value,Vals xs its/\IsTup s.heap a its.toArray/\xs.length<=sizeLine:=by
 rcases h with h|⟨o,its,n,hk,hc,hs,hz,r⟩
 ·obtain⟨z,its,r,p⟩:=h.ok I.hok;exact⟨its,r,p,z⟩
 ·refine⟨its.toList,r,⟨o,I.kIn a o hk,hc,n,by simpa using hs⟩,?_⟩;have e:=r.length;simp only[z61] at e;omega
theorem Inv.list_inj (I:Inv X pins σ H s)(h:SqL X.K H a xs)(h':SqL X.K H a ys):xs=ys:=by
 obtain⟨its,r,⟨o,n,e,_,_,d⟩,_⟩:=I.list h;obtain⟨its',r',⟨o',n',e',_,_,d'⟩,_⟩:=I.list h';rw[e] at e';cases e';rw[d] at d';injection d' with d1 _;have:its=its':=by simpa using congrArg Array.toList d1
 subst this;exact r.inj r'
theorem Inv.tuple_inj (I:Inv X pins σ H s)(h:SqT X.K H a xs)(h':SqT X.K H a ys):xs=ys:=by
 obtain⟨its,r,⟨o,e,_,n,d⟩,_⟩:=I.tuple h;obtain⟨its',r',⟨o',e',_,n',d'⟩,_⟩:=I.tuple h';rw[e] at e';cases e';rw[d] at d';injection d' with d1 _;have:its=its':=by simpa using congrArg Array.toList d1
 subst this;exact r.inj r'
end
abbrev Cx.wish (X:Cx)(E:Value->Shared->Prop):Cx:={X with xe:=E}
abbrev Cx.nox (X:Cx):Cx:=X.wish fun _ _=>False
theorem Cx.Ok.wish {X:Cx}(ok:X.Ok)(E:Value->Shared->Prop):(X.wish E).Ok:=
 ⟨ok.mod,ok.kind,ok.glob,ok.blt,ok.above,ok.inj,ok.has,ok.cab,ok.hd,ok.frames,ok.stk,ok.exf,ok.bs,ok.bsz,ok.noex,ok.exfs,ok.funs,ok.frf⟩
theorem Cx.Ok.unwish {X:Cx}{E:Value->Shared->Prop}(ok:(X.wish E).Ok):X.Ok:=
 ⟨ok.mod,ok.kind,ok.glob,ok.blt,ok.above,ok.inj,ok.has,ok.cab,ok.hd,ok.frames,ok.stk,ok.exf,ok.bs,ok.bsz,ok.noex,ok.exfs,ok.funs,ok.frf⟩
section
variable {X:Cx}{pins:List (Addr×Obj)}{σ:St}{H:Hp}{s:Shared}{E:Value->Shared->Prop}
theorem Inv.wish (I:Inv X pins σ H s)(E:Value->Shared->Prop):Inv (X.wish E) pins σ H s:=⟨I.ok.wish E,I.os,I.bare,I.base,I.loc,I.cell,I.free,I.freeC,I.pin,I.hok,I.len⟩
theorem Inv.unwish (I:Inv (X.wish E) pins σ H s):Inv X pins σ H s:=⟨I.ok.unwish,I.os,I.bare,I.base,I.loc,I.cell,I.free,I.freeC,I.pin,I.hok,I.len⟩
theorem SP.unwish {D:Ends}{f:Flow}{s':Shared}(h:SP (X.wish E) pins D f s'):SP X pins D f s':=by
 cases f with
 |next=>obtain⟨σ',H',I,q⟩:=h;exact⟨σ',H',I.unwish,q⟩
 |brk=>obtain⟨σ',H',I,q⟩:=h;exact⟨σ',H',I.unwish,q⟩
 |cont=>obtain⟨σ',H',I,q⟩:=h;exact⟨σ',H',I.unwish,q⟩
 |ret u=>obtain⟨v,σ',H',I,r,q⟩:=h;exact⟨v,σ',H',I.unwish,r,q⟩
theorem PSs.nox {st:List Stmt}{t:TS}(h:PSs X.nox st t):PSs X st t:=fun pins s σ H D I hw=>
 zT6 (h pins s σ H D (I.wish _) hw) (fun _ _ q=>q.unwish) fun _ _ z=>False.elim z
end
section
variable {X:Cx}{st:Stmt}{rest:List Stmt}{t u:TS}{e:Expr}{te:TE}{pos:Pos}
def zK1 :TS:=fun D σ H=>D.nx σ H
def zG0 (t u:TS):TS:=fun D σ H=>t {D with nx:=u D} σ H
theorem yE :PSs X [] zK1:=fun _ _ σ H _ I h=>z48 ⟨σ,H,I,h⟩
theorem zJ (h1:PS X st t)(h2:PSs X rest u):PSs X (st::rest) (zG0 t u):=by
 intro pins s σ H D I h;refine wpAny_execs_cons (thn (h1 pins s σ H {D with nx:=u D} I h) fun f s1 q=>?_);cases f with
 |next=>
  obtain⟨σ',H',I',q⟩:=q;exact h2 pins s1 σ' H' D I' q
 |ret v=>exact q
 |brk=>exact q
 |cont=>exact q
theorem zx (h1:PS X st t):PSs X [st] t:=by
 intro pins s σ H D I h;refine wpAny_execs_cons (thn (h1 pins s σ H D I h) fun f s1 q=>?_);cases f with
 |next=>exact z48 q
 |ret v=>exact q
 |brk=>exact q
 |cont=>exact q
theorem Inv.quiet {pins:List (Addr×Obj)}{σ:St}{H:Hp}{s:Shared}(I:Inv X pins σ H s):interactive X.env=false:=by simp[interactive,I.ok.kind]
def zJ5 (te:TE):TS:=fun D σ H=>te σ H fun _ H1=>D.nx σ H1
theorem iG (he:PE X e te)(hs:swapsWith e none pos.line X.env=pure false:=by rfl):PS X (.Expr e pos) (zJ5 te):=by
 intro pins s σ H D I h;exact wpAny_Expr_any (thn (he pins s σ H _ I h) fun v s1 ⟨x,H1,I1,r1,q1⟩=>⟨σ,H1,I1,q1⟩) I.quiet hs
def zN3 (te:TE):TS:=fun D σ H=>te σ H D.rt
theorem zB (he:PE X e te):PS X (.Return (some e) pos) (zN3 te):=by
 intro pins s σ H D I h;exact wpAny_Return_some (thn (he pins s σ H _ I h) fun v s1 ⟨x,H1,I1,r1,q1⟩=>⟨x,σ,H1,I1,r1,q1⟩)
def zO4 (c:TT)(t u:TS):TS:=fun D σ H=>c σ H fun b H1=>if b=true then t D σ H1 else u D σ H1
theorem wt {c:Expr}{a b:List Stmt}{tc:TT}(hc:PT X c tc)(ha:PSs X a t)(hb:PSs X b u):PS X (.If c a b pos) (zO4 tc t u):=by
 intro pins s σ H D I h;refine wpAny_If (thn (hc pins s σ H _ I h) fun d s1 ⟨H1,I1,q1⟩=>?_);cases d with
 |true=>exact ha pins s1 σ H1 D I1 q1
 |false=>exact hb pins s1 σ H1 D I1 q1
end
abbrev TG :=V->St->Hp->(St->Hp->Prop)->Prop
abbrev TGs :=List V->St->Hp->(St->Hp->Prop)->Prop
def PG (X:Cx)(target:Expr)(t:TG):Prop:=
 ∀(pins:List (Addr×Obj)) (s:Shared) (σ:St) (H:Hp) (v:V) (u:Value) (Q:St->Hp->Prop),Inv X pins σ H s->RelV v u->t v σ H Q->
  wpAny (model X.prog X.w) X.A (assign target X.env u) (fun _ s'=>∃σ' H',Inv X pins σ' H' s'/\Q σ' H') X.xe s
def PGs (X:Cx)(ts:List Expr)(t:TGs):Prop:=
 ∀(pins:List (Addr×Obj)) (s:Shared) (σ:St) (H:Hp) (vs:List V) (us:List Value) (Q:St->Hp->Prop),Inv X pins σ H s->Vals vs us->t vs σ H Q->
  wpAny (model X.prog X.w) X.A (assignInOrder ((assignEach ts X.env).map (·.2)) us) (fun _ s'=>∃σ' H',Inv X pins σ' H' s'/\Q σ' H') X.xe s
abbrev zA0 :=V->V->V->Hp->(Hp->Prop)->Prop
def zL2 (X:Cx)(t:zA0):Prop:=
 ∀(pins:List (Addr×Obj)) (s:Shared) (σ:St) (H:Hp) (o i v:V) (ov iv u:Value) (Q:Hp->Prop),Inv X pins σ H s->RelV o ov->RelV i iv->RelV v u->t o i v H Q->
  wpAny (model X.prog X.w) X.A (setItem ov iv u) (fun _ s'=>∃H',Inv X pins σ H' s'/\Q H') X.xe s
section
variable {X:Cx}{pos:Pos}
def pR (i:Nat):TG:=fun v σ H Q=>Q (σ.set i (some v)) H
theorem zK {i:Nat}{x:Str}(hN:X.N.Nodup)(hi:X.N[i]?=some x)(hx:Loc X.env.scope x)(hf:X.fn x=true\/X.env.scope.names.lookup x=some .local:=by first|exact .inl rfl|exact .inr rfl|assumption):PG X (.Name x pos) (pR i):=by
 intro pins s σ H v u Q I r h;exact wpAny_assign_Name (lh I hN hi hx r (fun s' I'=>⟨_,H,I',h⟩) hf)
def zE9 :TGs:=fun vs σ H Q=>vs=[]/\Q σ H
def zt0 (t:TG)(u:TGs):TGs:=fun vs σ H Q=>∃v r,vs=v::r/\t v σ H fun σ' H'=>u r σ' H' Q
theorem vR :PGs X [] zE9:=by
 intro pins s σ H vs us Q I r h;obtain⟨e,h⟩:=h;subst e;cases r;exact assignInOrder_nil ⟨σ,H,I,h⟩
theorem yM {e:Expr}{es:List Expr}{t:TG}{u:TGs}(h1:PG X e t)(h2:PGs X es u)
  (hs:(assignEach (e::es) X.env).map (·.2)=assign e X.env::(assignEach es X.env).map (·.2):=by rfl):PGs X (e::es) (zt0 t u):=by
 intro pins s σ H vs us Q I r h;obtain⟨v,vr,e1,h⟩:=h;subst e1;cases r with
 |cons r rr=>
  rw[hs];refine assignInOrder_cons (thn (h1 pins s σ H _ _ _ I r h) fun _ s1 ⟨σ1,H1,I1,q1⟩=>?_);exact h2 pins s1 σ1 H1 _ _ Q I1 rr q1
def zA9 (K:PySem.W.Frag)(n:Nat)(t:TGs):TG:=fun v σ H Q=>∃a xs,v=.ref a/\SqT K H a xs/\xs.length=n/\t xs σ H Q
theorem zC9 {es:List Expr}{k:Nat}{t:TGs}{n:Nat}(hc:X.calm=true)(h:PGs X es t)
  (hn:(assignEach es X.env).length=n:=by rfl) (hst:(assignEach es X.env).findIdx? (·.1)=none:=by rfl):PG X (.Tuple es k pos) (zA9 X.K n t):=by
 intro pins s σ H v u Q I r hw;obtain⟨a,xs,e1,hq,hl,hw⟩:=hw;subst e1;cases r;obtain⟨its,rv,ht,hz⟩:=I.tuple hq;refine assign_Tuple_tuple (I.ok.hd hc) ht (by simp[hn,<-hl,rv.length]) hst fun h' hx=>?_;have I1:Inv X pins σ H {s with heap:=h'}:=I.kept (t':=s.toks) fun b o e=>hx b o (zQ7 (zP6 e)) e;exact h pins _ σ H xs _ Q I1 (by simpa using rv) hw
def zK5 (to ti:TE)(t:zA0):TG:=fun v σ H Q=>to σ H fun o H1=>ti σ H1 fun i H2=>t o i v H2 fun H3=>Q σ H3
theorem kH {o i:Expr}{to ti:TE}{t:zA0}(ho:PE X o to)(hi:PE X i ti)(hs:zL2 X t)
  (ha:∀v,assign (.Subscript o i pos) X.env v=(do
   let ov <-holding [v] (eval o X.env)
   let iv <-holding [v,ov] (eval i X.env)
   standAt pos
   holding [v,ov,iv] (setItem ov iv v)
   release [v,ov,iv] []):=by intro _;rfl):PG X (.Subscript o i pos) (zK5 to ti t):=by
 intro pins s σ H v u Q I r h;rw[ha];refine zO7 (zU6 (thn (ho pins s σ H _ I h) fun ov s1 ⟨x,H1,I1,r1,q1⟩=>?_));refine zO7 (zU6 (thn (hi pins s1 σ H1 _ I1 q1) fun iv s2 ⟨y,H2,I2,r2,q2⟩=>?_));refine zO7 (wpAny_standAt (zO7 (zU6 (thn (hs pins s2 σ H2 x y v ov iv u _ I2 r1 r2 r q2) fun _ s3 ⟨H3,I3,q3⟩=>?_))));exact wpAny_release ⟨σ,H3,I3,q3⟩
def zy4 (te:TE)(g:TG):TS:=fun D σ H=>te σ H fun x H1=>g x σ H1 D.nx
theorem oC {tg e:Expr}{te:TE}{g:TG}(he:PE X e te)(hg:PG X tg g)(hs:swapsWithSole [tg] e pos.line X.env=pure false:=by rfl)(hw:swappedStores [tg] e X.env=pure none:=by rfl)
  (h1:(assignEach [tg] X.env).map (·.2)=[assign tg X.env]:=by rfl):PS X (.Assign [tg] e pos) (zy4 te g):=by
 intro pins s σ H D I h;refine wpAny_Assign_stores (thn (he pins s σ H _ I h) fun v s1 ⟨x,H1,I1,r1,q1⟩=>?_) hs hw;rw[h1];exact thn (hg pins s1 σ H1 x v _ I1 r1 q1) fun _ s2 q=>q
theorem va {i:Nat}{x:Str}{e:Expr}{te:TE}{pos':Pos}(hN:X.N.Nodup)(hi:X.N[i]?=some x)(hx:Loc X.env.scope x)(he:PE X e te)(hs:swapsWith e (some (.Name x pos')) pos.line X.env=pure false:=by rfl)(hf:X.fn x=true\/X.env.scope.names.lookup x=some .local:=by first|exact .inl rfl|exact .inr rfl|assumption):
  PS X (.Assign [.Name x pos'] e pos) (zy4 te (pR i)):=by
 intro pins s σ H D I h;refine wpAny_Assign_Name (thn (he pins s σ H _ I h) fun v s1 ⟨y,H1,I1,r1,q1⟩=>?_) hs;exact lh I1 hN hi hx r1 (fun s2 I2=>⟨_,H1,I2,q1⟩) hf
end
section
variable {X:Cx}{pos:Pos}
def zz1 (c:TT)(tb:TS):TS:=fun D σ H=>∃W:Nat->St->Hp->Prop,(∃m,W m σ H)/\∀m σ H,W m σ H->
 c σ H fun b H1=>if b=true then ∃N:St->Hp->Prop,(∀σ' H',N σ' H'->∃m',m'<m/\W m' σ' H')/\tb {D with nx:=N,ct:=N,bk:=D.nx} σ H1 else D.nx σ H1
theorem nY {c:Expr}{body:List Stmt}{tc:TT}{tb:TS}(hp:PassesOwn (model X.prog X.w) X.A X.env X.xe)(hc:PT X c tc)(hb:PSs X body tb):PS X (.While c body [] pos) (zz1 tc tb):=by
 intro pins s σ H D I h;obtain⟨W,⟨m0,w0⟩,turn⟩:=h;refine wpAny_While (codeAny_whileLoop (fun n s'=>∃σ' H',Inv X pins σ' H' s'/\W n σ' H') ?_ m0 ⟨σ,H,I,w0⟩);rintro n s1 ⟨σ1,H1,I1,w1⟩;refine zY4 hp (thn (hc pins s1 σ1 H1 _ I1 (turn n σ1 H1 w1)) fun b s2 ⟨H2,I2,q2⟩=>?_);cases b with
 |true=>
  obtain⟨N,hN,q2⟩:=q2;rw[if_pos rfl];refine zY4 hp (thn (hb pins s2 σ1 H2 _ I2 q2) fun f s3 q3=>?_);cases f with
  |next=>
   obtain⟨σ3,H3,I3,n3⟩:=q3;obtain⟨m',hm,w3⟩:=hN σ3 H3 n3;exact⟨m',hm,σ3,H3,I3,w3⟩
  |cont=>
   obtain⟨σ3,H3,I3,n3⟩:=q3;obtain⟨m',hm,w3⟩:=hN σ3 H3 n3;exact⟨m',hm,σ3,H3,I3,w3⟩
  |brk=>exact q3
  |ret v=>exact q3
 |false=>
  rw[if_neg zQ5];exact z48 ⟨σ1,H2,I2,q2⟩
end
structure It where
 go:Nat->Hp->Prop
 yld:Nat->Hp->V->Hp->Prop
 stop:Nat->Hp->Prop
def xC (X:Cx)(pins:List (Addr×Obj))(H:Hp)(b:Addr):Prop:=
 H b=none/\b≠X.env.locals/\b∉X.fs/\(b∈X.ex\/X.s₀.heap.objs.size<=b)/\(∀x c,X.env.cells.lookup x=some c->c≠b)/\∀p∈X.pn++pins,p.1≠b
theorem Inv.fpOk {X:Cx}{pins:List (Addr×Obj)}{σ:St}{H H':Hp}{s:Shared}{b:Addr}(I:Inv X pins σ H s)(hb:s.heap.objs.size<=b)(hn:H' b=none):xC X pins H' b:=by
 refine⟨hn,zZ2 (zR0 I.lt hb),I.nofs hb,.inr (zT3 I.sz hb),fun x c e z=>?_,fun p hp z=>?_⟩
 ·obtain⟨v,q⟩:=I.cell x c e;exact absurd (zR0 q.lt (by rw[z];exact hb)) (zU5 _)
 ·exact absurd (zR0 (zP6 (I.pin p hp).1) (by rw[z];exact hb)) (zU5 _)
structure Turn (P:Program)(w:World)(K:PySem.W.Frag)(tg:Expr)(J:It)(fp:List Addr)(it:Addr)(tn:Nat->Heap->Prop):Prop where
 mem:it∈fp
 obj:∀i h,tn i h->∀b∈fp,∃o,h.get? b=some o/\∀v,o.data≠.cell v
 keep:∀i h h',tn i h->(∀b∈fp,∀o,h.get? b=some o->h'.get? b=some o)->tn i h'
 item:∀(X:Cx),X.prog=P->X.w=w->X.K=K->X.calm=true->∀(i:Nat) (pins:List (Addr×Obj)) (s:Shared) (σ:St) (H:Hp) (E:Value->Shared->Prop),Inv X pins σ H s->(∀b∈fp,xC X pins H b)->tn i s.heap->J.go i H->
  wpAny (model P w) X.A (pyNext (.ref it)) (fun r s1=>∃u,r=some u/\
   wpAny (model P w) X.A (letOwnedTupleGo tg (.ref it) u) (fun _ s2=>∃x H',Inv X pins σ H' s2/\RelV x u/\J.yld i H x H'/\tn (i+1) s2.heap/\∀b∈fp,H' b=none) E s1) E s
 done:∀(X:Cx),X.prog=P->X.w=w->X.K=K->X.calm=true->∀(i:Nat) (pins:List (Addr×Obj)) (s:Shared) (σ:St) (H:Hp) (E:Value->Shared->Prop),Inv X pins σ H s->(∀b∈fp,xC X pins H b)->tn i s.heap->J.stop i H->
  wpAny (model P w) X.A (pyNext (.ref it)) (fun r s1=>r=none/\Inv X pins σ H s1) E s
 self:∀(A:Around) (i:Nat) (s:Shared) (Q:Value->Shared->Prop) (E:Value->Shared->Prop),tn i s.heap->Q (.ref it) s->wpAny (model P w) A (pyIter (.ref it)) Q E s
abbrev TI :=St->Hp->(It->Hp->Prop)->Prop
def PIE (X:Cx)(pins:List (Addr×Obj))(σ:St)(tg:Expr)(R:It->Hp->Prop)(itv:Value)(s2:Shared):Prop:=
 ∃(it:Addr) (fp:List Addr) (tn:Nat->Heap->Prop) (J:It) (H':Hp),itv=.ref it/\Inv X pins σ H' s2/\Turn X.prog X.w X.K tg J fp it tn/\tn 0 s2.heap/\(∀b∈fp,xC X pins H' b)/\R J H'
def PI (X:Cx)(tg iter:Expr)(wi:TI):Prop:=
 ∀(pins:List (Addr×Obj)) (s:Shared) (σ:St) (H:Hp) (R:It->Hp->Prop),Inv X pins σ H s->wi σ H R->
  wpAny (model X.prog X.w) X.A (eval iter X.env) (fun v s1=>wpAny (model X.prog X.w) X.A (pyIter v) (PIE X pins σ tg R) X.xe s1) X.xe s
theorem pT {M:Model}{A:Around}{E:Value->Shared->Prop}{s:Shared}{tg:Expr}{it:Addr}{u:Value}{o:Obj}{n:String}{vs:Array Value}{Q:Unit->Shared->Prop}(ho:s.heap.get? it=some o)(hc:o.cls=.type n)(hd:o.data=.fields vs)
  (hn:["enumerate","zip","dict_itemiterator","dict_reverseitemiterator","odict_iterator","itertools.zip_longest","itertools.pairwise"].contains n=false) (hQ:Q () s):wpAny M A (letOwnedTupleGo tg (.ref it) u) Q E s:=by
 unfold letOwnedTupleGo;cases tg<;>first
  |exact zP8 hQ
  |(cases u<;>first
    |exact zP8 hQ
    |(refine zO7 (wpAny_load ho ?_)
      rw[hc,hd];show wpAny M A (if (["enumerate","zip","dict_itemiterator","dict_reverseitemiterator","odict_iterator","itertools.zip_longest","itertools.pairwise"].contains n&&vs[0]? == some (rawInt _))=true then _ else _) Q E s;rw[if_neg (by intro h;rw[hn,zR6] at h;cases h)];exact zP8 hQ))
def Itl (K:PySem.W.Frag)(a:Addr):It:=
 ⟨fun i H=>∃xs x,SqL K H a xs/\xs[i]?=some x,fun i H x H'=>H'=H/\∀xs,SqL K H a xs->xs[i]?=some x,fun i H=>∃xs,SqL K H a xs/\xs.length<=i⟩
def Itt (K:PySem.W.Frag)(a:Addr):It:=
 ⟨fun i H=>∃xs x,SqT K H a xs/\xs[i]?=some x,fun i H x H'=>H'=H/\∀xs,SqT K H a xs->xs[i]?=some x,fun i H=>∃xs,SqT K H a xs/\xs.length<=i⟩
def Itr (lo:Int)(n:Nat):It:=⟨fun i _=>i<n,fun i H x H'=>H'=H/\x=.int (lo+i),fun i _=>n<=i⟩
theorem df {P:Program}{w:World}{K:PySem.W.Frag}{tg:Expr}(a it:Addr):Turn P w K tg (Itl K a) [it] it (fun i h=>h.IsListIter it a i) where
 mem:=by simp
 obj:=fun i h st b hb=>by
  have e:b=it:=by simpa using hb
  subst e;obtain⟨o,e,c,d⟩:=st;exact⟨o,e,fun v z=>by rw[d] at z;cases z⟩
 keep:=fun i h h' st k=>st.at fun o e=>k it (by simp) o e
 item:=by
  intro X hP hw hK hc i pins s σ H E I hf st hg;subst hP hw hK;obtain⟨xs,x,hq,hx⟩:=hg;obtain⟨its,rv,p,hz⟩:=I.list hq;obtain⟨u,hu,ru⟩:=rv.get hx;obtain⟨f0,f1,f2,f3,f4,f5⟩:=hf it (by simp);refine wpAny_pyNext_list_item st p.isList (x:=u) (by simpa using hu) fun h' st' sb=>?_;have I1:Inv X pins σ H {s with heap:=h'}:=I.turned (t':=s.toks) (fun b o hb e=>(sb.2 b hb).trans e) f0 f1 f3 f4 f5;obtain⟨o,e,c,d⟩:=id st';exact⟨u,rfl,pT (s:={s with heap:=h'}) e c d (by decide) ⟨x,H,I1,ru,⟨rfl,fun ys hy=>by rw[I.list_inj hy hq];exact hx⟩,st',fun b hb=>(hf b hb).1⟩⟩
 done:=by
  intro X hP hw hK hc i pins s σ H E I hf st hg;subst hP hw hK;obtain⟨xs,hq,hx⟩:=hg;obtain⟨its,rv,p,hz⟩:=I.list hq;obtain⟨f0,f1,f2,f3,f4,f5⟩:=hf it (by simp);have hl:=rv.length;exact wpAny_pyNext_list_end (I.ok.hd hc) st p.isList (by simp;omega) fun h' eb=>⟨rfl,I.turned (t':=s.toks) (fun b o hb e=>eb b o hb e) f0 f1 f3 f4 f5⟩
 self:=fun _ _ _ _ _ st h=>wpAny_pyIter_listiter st h
theorem kN {P:Program}{w:World}{K:PySem.W.Frag}{tg:Expr}(a it:Addr):Turn P w K tg (Itt K a) [it] it (fun i h=>h.IsTupleIter it a i) where
 mem:=by simp
 obj:=fun i h st b hb=>by
  have e:b=it:=by simpa using hb
  subst e;obtain⟨o,e,c,d⟩:=st;exact⟨o,e,fun v z=>by rw[d] at z;cases z⟩
 keep:=fun i h h' st k=>st.at fun o e=>k it (by simp) o e
 item:=by
  intro X hP hw hK hc i pins s σ H E I hf st hg;subst hP hw hK;obtain⟨xs,x,hq,hx⟩:=hg;obtain⟨its,rv,p,hz⟩:=I.tuple hq;obtain⟨u,hu,ru⟩:=rv.get hx;obtain⟨f0,f1,f2,f3,f4,f5⟩:=hf it (by simp);refine wpAny_pyNext_tuple_item st (show s.heap.IsTuple a its.toArray from p) (x:=u) (by simpa using hu) fun h' st' sb=>?_;have I1:Inv X pins σ H {s with heap:=h'}:=I.turned (t':=s.toks) (fun b o hb e=>(sb.2 b hb).trans e) f0 f1 f3 f4 f5;obtain⟨o,e,c,d⟩:=id st';exact⟨u,rfl,pT (s:={s with heap:=h'}) e c d (by decide) ⟨x,H,I1,ru,⟨rfl,fun ys hy=>by rw[I.tuple_inj hy hq];exact hx⟩,st',fun b hb=>(hf b hb).1⟩⟩
 done:=by
  intro X hP hw hK hc i pins s σ H E I hf st hg;subst hP hw hK;obtain⟨xs,hq,hx⟩:=hg;obtain⟨its,rv,p,hz⟩:=I.tuple hq;obtain⟨f0,f1,f2,f3,f4,f5⟩:=hf it (by simp);have hl:=rv.length;exact wpAny_pyNext_tuple_end (I.ok.hd hc) st (show s.heap.IsTuple a its.toArray from p) (by simp;omega) fun h' eb=>⟨rfl,I.turned (t':=s.toks) (fun b o hb e=>eb b o hb e) f0 f1 f3 f4 f5⟩
 self:=fun _ _ _ _ _ st h=>wpAny_pyIter_tupleiter st h
theorem jK {P:Program}{w:World}{K:PySem.W.Frag}{tg:Expr}(it:Addr)(lo:Int)(n:Nat):Turn P w K tg (Itr lo n) [it] it (fun i h=>IsRangeIter h it (lo+(i:Nat)*1) ((n:Int)-(i:Nat)) 1) where
 mem:=by simp
 obj:=fun i h st b hb=>by
  have e:b=it:=by simpa using hb
  subst e;exact⟨_,st,fun v z=>by
   have z':Data.fields _=Data.cell v:=z;cases z'⟩
 keep:=fun i h h' st k=>k it (by simp) _ st
 item:=by
  intro X hP hw hK hc i pins s σ H E I hf st hg;subst hP hw hK;obtain⟨f0,f1,f2,f3,f4,f5⟩:=hf it (by simp);have W:=Walks.range (prog:=X.prog) (w:=X.w) (I.ok.hd hc) it lo 1 n;refine W.item i s _ _ hg st fun v h' tk hv st' kk=>?_;obtain⟨t,rfl⟩:=hv;have I1:Inv X pins σ H {s with heap:=h',toks:=tk}:=I.turned (fun b o hb e=>kk b o (by simpa using hb) e) f0 f1 f3 f4 f5;refine⟨_,rfl,pT (s:={s with heap:=h',toks:=tk}) (n:="range_iterator") st' rfl rfl (by decide) ⟨.int (lo+i),H,I1,⟨t,?_⟩,⟨rfl,rfl⟩,st',fun b hb=>(hf b hb).1⟩⟩;rw[Int.mul_one]
 done:=by
  intro X hP hw hK hc i pins s σ H E I hf st hg;subst hP hw hK;obtain⟨f0,f1,f2,f3,f4,f5⟩:=hf it (by simp);exact wpAny_pyNext_range_end (I.ok.hd hc) st (by have:n<=i:=hg;omega) fun h' eb=>⟨rfl,I.turned (t':=s.toks) (fun b o hb e=>eb b o hb e) f0 f1 f3 f4 f5⟩
 self:=fun _ _ _ _ _ st h=>wpAny_pyIter_rangeiter st h
section
variable {X:Cx}{tg:Expr}
def zE0 (K:PySem.W.Frag)(tl:TE):TI:=fun σ H R=>tl σ H fun x H1=>∃a,x=.ref a/\(∃xs,SqL K H1 a xs)/\R (Itl K a) H1
def zO5 (K:PySem.W.Frag)(tl:TE):TI:=fun σ H R=>tl σ H fun x H1=>∃a,x=.ref a/\(∃xs,SqT K H1 a xs)/\R (Itt K a) H1
theorem iH {l:Expr}{tl:TE}(hl:PE X l tl):PI X tg l (zE0 X.K tl):=by
 intro pins s σ H R I h;refine thn (hl pins s σ H _ I h) fun v s1 ⟨x,H1,I1,r1,q1⟩=>?_;obtain⟨a,e,⟨xs,hq⟩,q⟩:=q1;subst e;cases r1;obtain⟨its,rv,p,hz⟩:=I1.list hq;refine zX3 p.isList ?_;refine⟨s1.heap.objs.size,[s1.heap.objs.size],_,_,H1,rfl,I1.kept (t':=s1.toks) fun b o e=>zO8 _ e,df a _,⟨_,zP9 _ rfl,rfl,rfl⟩,fun b hb=>?_,q⟩;have e:b=s1.heap.objs.size:=by simpa using hb
 subst e;exact I1.fpOk (zP3 _) (I1.hok.fresh (zP3 _))
theorem zw4 {l:Expr}{tl:TE}(hl:PE X l tl):PI X tg l (zO5 X.K tl):=by
 intro pins s σ H R I h;refine thn (hl pins s σ H _ I h) fun v s1 ⟨x,H1,I1,r1,q1⟩=>?_;obtain⟨a,e,⟨xs,hq⟩,q⟩:=q1;subst e;cases r1;obtain⟨its,rv,p,hz⟩:=I1.tuple hq;refine wpAny_pyIter_tuple (show s1.heap.IsTuple a its.toArray from p) ?_;refine⟨s1.heap.objs.size,[s1.heap.objs.size],_,_,H1,rfl,I1.kept (t':=s1.toks) fun b o e=>zO8 _ e,kN a _,⟨_,zP9 _ rfl,rfl,rfl⟩,fun b hb=>?_,q⟩;have e:b=s1.heap.objs.size:=by simpa using hb
 subst e;exact I1.fpOk (zP3 _) (I1.hok.fresh (zP3 _))
theorem lJ {pins:List (Addr×Obj)}{σ:St}{H:Hp}{s:Shared}{R:It->Hp->Prop}{E:Value->Shared->Prop}{lo hi:Int}{t u v:Tok}{tk:Nat}(I:Inv X pins σ H s)(h1:-(2 ^ 62)<=lo)(h2:lo<2 ^ 62)(h3:-(2 ^ 62)<=hi)(h4:hi<2 ^ 62)
  (q:R (Itr lo (hi-lo).toNat) H):wpAny (model X.prog X.w) X.A (pyIter (.ref s.heap.objs.size)) (PIE X pins σ tg R) E {s with heap:=s.heap.push {cls:=.type "range",data:=.fields #[.int lo t,.int hi u,.int 1 v]},toks:=tk}:=by
 refine wpAny_pyIter_range (IsRange.new ..) (small_one h1 h2 h3 h4) ?_;have I1:Inv X pins σ H {s with heap:=s.heap.push {cls:=.type "range",data:=.fields #[.int lo t,.int hi u,.int 1 v]},toks:=tk}:=I.kept fun b o e=>zO8 _ e;refine⟨(s.heap.push {cls:=.type "range",data:=.fields #[.int lo t,.int hi u,.int 1 v]}).objs.size,[(s.heap.push {cls:=.type "range",data:=.fields #[.int lo t,.int hi u,.int 1 v]}).objs.size],_,_,H,rfl,
  I1.kept (t':=tk) fun b o e=>zO8 _ e,jK _ lo (hi-lo).toNat,?_,fun b hb=>?_,q⟩
 ·have e1:lo+((0:Nat):Int)*1=lo:=by simp
  have e2:(((hi-lo).toNat:Nat):Int)-((0:Nat):Int)=Builtin.Range.rangeSize lo hi 1:=by rw[rangeSize_one];split<;>omega
  show IsRangeIter _ _ (lo+((0:Nat):Int)*1) ((((hi-lo).toNat:Nat):Int)-((0:Nat):Int)) 1;rw[e1,e2];exact zP9 _ rfl
 ·have e:b=(s.heap.push {cls:=.type "range",data:=.fields #[.int lo t,.int hi u,.int 1 v]}).objs.size:=by simpa using hb
  subst e;exact I1.fpOk (zP3 _) (I1.hok.fresh (zP3 _))
def zK8 (ta:TA):TI:=fun σ H R=>ta σ H fun vs H1=>∃j:Int,vs=[.int j]/\-(2 ^ 62)<=j/\j<2 ^ 62/\R (Itr 0 j.toNat) H1
def zH8 (ta:TA):TI:=fun σ H R=>ta σ H fun vs H1=>∃i j:Int,vs=[.int i,.int j]/\(-(2 ^ 62)<=i/\i<2 ^ 62/\-(2 ^ 62)<=j/\j<2 ^ 62)/\R (Itr i (j-i).toNat) H1
theorem eV {a:Expr}{ta:TA}{p pos:Pos}(hg:Gl X "range")(hm:X.mg "range"=none)(ha:PA X [a] ta)(hs:starEach [a] X.env=[(false,eval a X.env)]:=by rfl):PI X tg (.Call (.Name "range" p) [a] [] pos) (zK8 ta):=by
 intro pins s σ H R I h;refine Call_ (xq I hg hm boot_range (zS5 (thn (ha pos pins s σ H _ I h) fun us s1 ⟨vs,H1,I1,r1,q1⟩=>?_) hs rfl));obtain⟨j,e,q1,q2,q⟩:=q1;subst e;cases r1 with
 |cons r rr=>
  cases rr;obtain⟨t,rfl⟩:=r;exact call_range_1 (lJ I1 (by omega) (by omega) q1 q2 (by simpa using q))
theorem eZ {a b:Expr}{ta:TA}{p pos:Pos}(hg:Gl X "range")(hm:X.mg "range"=none)(ha:PA X [a,b] ta)(hs:starEach [a,b] X.env=[(false,eval a X.env),(false,eval b X.env)]:=by rfl)(hs2:starEach [b] X.env=[(false,eval b X.env)]:=by rfl):
  PI X tg (.Call (.Name "range" p) [a,b] [] pos) (zH8 ta):=by
 intro pins s σ H R I h;refine Call_ (xq I hg hm boot_range (zS5 (thn (ha pos pins s σ H _ I h) fun us s1 ⟨vs,H1,I1,r1,q1⟩=>?_) (by rw[hs,hs2]) (by rw[hs2];rfl)));obtain⟨i,j,e,⟨q1,q2,q3,q4⟩,q⟩:=q1;subst e;cases r1 with
 |cons r rr=>
  cases rr with
  |cons r' rr=>
   cases rr;obtain⟨t,rfl⟩:=r;obtain⟨t',rfl⟩:=r';exact call_range_2 (lJ I1 q1 q2 q3 q4 q)
def zL3 (wi:TI)(g:TG)(tb:TS):TS:=fun D σ H=>wi σ H fun J H1=>∃W:Nat->Nat->St->Hp->Prop,(∃m,W 0 m σ H1)/\∀i m σ H,W i m σ H->
 (J.stop i H/\D.nx σ H)\/(J.go i H/\∃N:St->Hp->Prop,(∀σ' H',N σ' H'->∃m',m'<m/\W (i+1) m' σ' H')/\∀x H',J.yld i H x H'->g x σ H' fun σ2 H2=>tb {D with nx:=N,ct:=N,bk:=D.nx} σ2 H2)
def qH (fp:List Addr)(h:Heap):List (Addr×Obj):=fp.filterMap fun b=>(h.get? b).map fun o=>(b,o)
theorem vc {fp:List Addr}{h:Heap}{b:Addr}{o:Obj}(hb:b∈fp)(e:h.get? b=some o):(b,o)∈qH fp h:=z64.mpr ⟨b,hb,by rw[e];rfl⟩
theorem fH {fp:List Addr}{h:Heap}{p:Addr×Obj}(hp:p∈qH fp h):p.1∈fp/\h.get? p.1=some p.2:=by
 obtain⟨b,hb,e⟩:=z64.mp hp;cases q:h.get? b with
 |none=>rw[q] at e;cases e
 |some o=>
  rw[q] at e;have e':(b,o)=p:=zR7 e;subst e';exact⟨hb,q⟩
theorem Inv.pinned {pins:List (Addr×Obj)}{σ:St}{H:Hp}{s:Shared}{fp:List Addr}(I:Inv X pins σ H s)(hf:∀b∈fp,xC X pins H b)(ho:∀b∈fp,∃o,s.heap.get? b=some o/\∀v,o.data≠.cell v):Inv X (pins++qH fp s.heap) σ H s:=
 I.pins_of fun p hp=>(zT1.mp hp).elim (fun z=>I.pin p (zS8 _ z)) fun z=>by
  obtain⟨hb,e⟩:=fH z;obtain⟨f0,f1,f2,_⟩:=hf p.1 hb;obtain⟨o,e',d⟩:=ho p.1 hb;rw[e] at e';cases e';exact⟨e,f0,f1,f2,d⟩
theorem Inv.unpinned {pins pl:List (Addr×Obj)}{σ:St}{H:Hp}{s:Shared}(I:Inv X (pins++pl) σ H s):Inv X pins σ H s:=I.pins_of fun p hp=>I.pin p (zS8 _ (zY9 _ hp))
theorem zy7 {iter:Expr}{body:List Stmt}{wi:TI}{g:TG}{tb:TS}{pos:Pos}(hp:PassesOwn (model X.prog X.w) X.A X.env X.xe)(hc:X.calm=true)(hi:PI X tg iter wi)(hg:PG X tg g)(hb:PSs X body tb)
  (hs:∀x,foldedSetIterable iter X.env x=pure x:=by intro _;rfl):PS X (.For tg iter body [] pos) (zL3 wi g tb):=by
 intro pins s σ H D I h;refine wpAny_For (thn (hi pins s σ H _ I h) fun v s1 h1=>thn h1 fun itv s2 h2=>?_) hs;obtain⟨it,fp,tn,J,H2,e,I2,T,st2,f2,W,⟨m0,w0⟩,turn⟩:=h2;subst e
 -- what stays true of the iterator's objects through the loop
 have stat:∀{H':Hp},(∀b∈fp,H' b=none)->∀b∈fp,xC X pins H' b:=fun hn b hb=>⟨hn b hb,(f2 b hb).2⟩;refine codeAny_forLoop_any (fun n s'=>∃i σ' H',Inv X pins σ' H' s'/\tn i s'.heap/\(∀b∈fp,H' b=none)/\W i n σ' H') ?_ m0 ⟨0,σ,H2,I2,st2,fun b hb=>(f2 b hb).1,w0⟩;rintro n s3 ⟨i,σ3,H3,I3,st3,fr3,w3⟩;rcases turn i n σ3 H3 w3 with ⟨stop,qn⟩|⟨go,N,hN,step⟩
 ·refine zY4 hp (thn (T.done X rfl rfl rfl hc i pins s3 σ3 H3 X.xe I3 (stat fr3) st3 stop) fun r s4 ⟨hr,I4⟩=>?_);subst hr;exact z48 ⟨σ3,H3,I4,qn⟩
 ·refine zY4 hp (thn (T.item X rfl rfl rfl hc i pins s3 σ3 H3 X.xe I3 (stat fr3) st3 go) fun r s4 ⟨u,hr,h4⟩=>?_);subst hr;refine zY4 hp (thn h4 fun _ s5 ⟨x,H5,I5,r5,y5,st5,fr5⟩=>?_);have I5':=I5.pinned (stat fr5) (T.obj _ _ st5);refine zY4 hp (thn (hg _ s5 σ3 H5 x u _ I5' r5 (step x H5 y5)) fun _ s6 ⟨σ6,H6,I6,q6⟩=>?_);refine zY4 hp (thn (hb _ s6 σ6 H6 _ I6 q6) fun f s7 q7=>?_);have again:∀{σ7:St} {H7:Hp},Inv X (pins++qH fp s5.heap) σ7 H7 s7->N σ7 H7->∃m,m<n/\∃i σ' H',Inv X pins σ' H' s7/\tn i s7.heap/\(∀b∈fp,H' b=none)/\W i m σ' H':=fun {σ7 H7} I7 n7=>by
   obtain⟨m',hm,w7⟩:=hN σ7 H7 n7;refine⟨m',hm,i+1,σ7,H7,I7.unpinned,T.keep _ _ _ st5 fun b hb o e=>(I7.pin (b,o) (zS8 _ (zS8 _ (vc hb e)))).1,fun b hb=>?_,w7⟩;obtain⟨o,e,d⟩:=T.obj _ _ st5 b hb;exact (I7.pin (b,o) (zS8 _ (zS8 _ (vc hb e)))).2.1
  cases f with
  |next=>obtain⟨σ7,H7,I7,n7⟩:=q7;exact again I7 n7
  |cont=>obtain⟨σ7,H7,I7,n7⟩:=q7;exact again I7 n7
  |brk=>obtain⟨σ7,H7,I7,q7⟩:=q7;exact⟨σ7,H7,I7.unpinned,q7⟩
  |ret v=>obtain⟨x7,σ7,H7,I7,r7,q7⟩:=q7;exact⟨x7,σ7,H7,I7.unpinned,r7,q7⟩
end
abbrev R2 :=V->V->Hp->VK->Prop
def OpR (X:Cx)(f:Value->Value->Sem Value)(r:R2):Prop:=
 ∀(pins:List (Addr×Obj)) (s:Shared) (σ:St) (H:Hp) (x y:V) (v u:Value) (Q:VK),Inv X pins σ H s->RelV x v->RelV y u->r x y H Q->
  wpAny (model X.prog X.w) X.A (f v u) (EP X pins σ Q) X.xe s
def UnR (X:Cx)(f:Value->Sem Value)(r:V->Hp->VK->Prop):Prop:=
 ∀(pins:List (Addr×Obj)) (s:Shared) (σ:St) (H:Hp) (x:V) (v:Value) (Q:VK),Inv X pins σ H s->RelV x v->r x H Q->
  wpAny (model X.prog X.w) X.A (f v) (EP X pins σ Q) X.xe s
def xj (X:Cx)(f:Value)(r:List V->Hp->VK->Prop):Prop:=
 ∀(pins:List (Addr×Obj)) (s:Shared) (σ:St) (H:Hp) (xs:List V) (us:List Value) (Q:VK),Inv X pins σ H s->Vals xs us->r xs H Q->
  wpAny (model X.prog X.w) X.A (call f us) (EP X pins σ Q) X.xe s
def zM8 (X:Cx)(r:V->Hp->(Bool->Hp->Prop)->Prop):Prop:=
 ∀(pins:List (Addr×Obj)) (s:Shared) (σ:St) (H:Hp) (x:V) (v:Value) (Q:Bool->Hp->Prop),Inv X pins σ H s->RelV x v->r x H Q->
  wpAny (model X.prog X.w) X.A (truthy v) (TP X pins σ Q) X.xe s
def tOp (r:R2)(ta tb:TE):TE:=fun σ H Q=>ta σ H fun x H1=>tb σ H1 fun y H2=>r x y H2 Q
def tUn (r:V->Hp->VK->Prop)(ta:TE):TE:=fun σ H Q=>ta σ H fun x H1=>r x H1 Q
def rI (C:Int->Int->Prop)(g:Int->Int->V):R2:=fun x y H Q=>∃i j,x=.int i/\y=.int j/\C i j/\Q (g i j) H
def rI0 (g:Int->Int->V):R2:=fun x y H Q=>∃i j,x=.int i/\y=.int j/\Q (g i j) H
def rU (g:Int->V):V->Hp->VK->Prop:=fun x H Q=>∃i,x=.int i/\Q (g i) H
section
variable {X:Cx}{a b c:Expr}{ta tb tc:TE}{pos:Pos}
theorem zD3 (ha:PE X a ta)(hb:PE X b tb){pins:List (Addr×Obj)}{s:Shared}{σ:St}{H:Hp}{R:V->V->Hp->Prop}(I:Inv X pins σ H s)
  (h:ta σ H fun x H1=>tb σ H1 fun y H2=>R x y H2) {Q:Value->Shared->Prop} {f:Value->Value->Sem Value}
  (hf:∀v u s2 x y H2,Inv X pins σ H2 s2->RelV x v->RelV y u->R x y H2->wpAny (model X.prog X.w) X.A (f v u) Q X.xe s2):
  wpAny (model X.prog X.w) X.A (eval a X.env) (fun v s₁=>wpAny (model X.prog X.w) X.A (eval b X.env) (fun u s₂=>wpAny (model X.prog X.w) X.A (f v u) Q X.xe s₂) X.xe s₁) X.xe s:=by
 refine thn (ha pins s σ H _ I h) fun v s1 ⟨x,H1,I1,r1,q1⟩=>?_;refine thn (hb pins s1 σ H1 _ I1 q1) fun u s2 ⟨y,H2,I2,r2,q2⟩=>?_;exact hf v u s2 x y H2 I2 r1 r2 q2
theorem yz {op:Operator}{r:R2}(ho:OpR X (binaryOp op) r)(ha:PE X a ta)(hb:PE X b tb):PE X (.BinOp a op b pos) (tOp r ta tb):=by
 intro pins s σ H Q I h;exact wpAny_BinOp (zD3 ha hb I h fun v u s2 x y H2 I2 rx ry q=>ho pins s2 σ H2 x y v u Q I2 rx ry q)
theorem dH {op:UnaryOp}{r:V->Hp->VK->Prop}(ho:UnR X (unaryOp op) r)(ha:PE X a ta):PE X (.UnaryOp op a pos) (tUn r ta):=by
 intro pins s σ H Q I h;exact UnaryOp_ (thn (ha pins s σ H _ I h) fun v s1 ⟨x,H1,I1,r1,q1⟩=>ho pins s1 σ H1 x v Q I1 r1 q1)
theorem opI {f:Value->Value->Sem Value}{C:Int->Int->Prop}{g:Int->Int->Int}
  (rule:∀(i j:Int) (t u:Tok) (s:Shared) (Q:Value->Shared->Prop) (E:Value->Shared->Prop),C i j->Q (.int (g i j) s.toks) {s with toks:=s.toks+1}->wpAny (model X.prog X.w) X.A (f (.int i t) (.int j u)) Q E s):
  OpR X f (rI C fun i j=>.int (g i j)):=by
 intro pins s σ H x y v u Q I rx ry h;obtain⟨i,j,rfl,rfl,hc,q⟩:=h;obtain⟨t,rfl⟩:=rx;obtain⟨t',rfl⟩:=ry;exact rule i j t t' s _ _ hc ⟨.int (g i j),H,I.tok _,⟨_,rfl⟩,q⟩
theorem zE3 {f:Value->Value->Sem Value}{g:Int->Int->Int}
  (rule:∀(i j:Int) (t u:Tok) (s:Shared) (Q:Value->Shared->Prop) (E:Value->Shared->Prop),Q (.int (g i j) s.toks) {s with toks:=s.toks+1}->wpAny (model X.prog X.w) X.A (f (.int i t) (.int j u)) Q E s):
  OpR X f (rI0 fun i j=>.int (g i j)):=by
 intro pins s σ H x y v u Q I rx ry h;obtain⟨i,j,rfl,rfl,q⟩:=h;obtain⟨t,rfl⟩:=rx;obtain⟨t',rfl⟩:=ry;exact rule i j t t' s _ _ ⟨.int (g i j),H,I.tok _,⟨_,rfl⟩,q⟩
theorem zr1 {f:Value->Value->Sem Value}{g:Int->Int->Bool}
  (rule:∀(i j:Int) (t u:Tok) (s:Shared) (Q:Value->Shared->Prop) (E:Value->Shared->Prop),Q (.bool (g i j)) s->wpAny (model X.prog X.w) X.A (f (.int i t) (.int j u)) Q E s):
  OpR X f (rI0 fun i j=>.bl (g i j)):=by
 intro pins s σ H x y v u Q I rx ry h;obtain⟨i,j,rfl,rfl,q⟩:=h;obtain⟨t,rfl⟩:=rx;obtain⟨t',rfl⟩:=ry;exact rule i j t t' s _ _ ⟨.bl (g i j),H,I,rfl,q⟩
def zu2 (i j:Int):Prop:=0<=j/\j<=1000000/\i.natAbs<2 ^ 64
def zv7 (i j:Int):Prop:=(-(2 ^ 64)<i/\i<2 ^ 64)\/(-(2 ^ 64)<j/\j<2 ^ 64)
theorem zv7.ok {i j:Int}(h:zv7 i j):IntMulOk i j:=by
 rcases h with ⟨h1,h2⟩|⟨h1,h2⟩
 ·exact .of_left (intBits_le_64 h1 h2)
 ·exact .of_right (intBits_le_64 h1 h2)
theorem tw :OpR X (binaryOp .Add) (rI0 fun i j=>.int (i+j)):=zE3 fun _ _ _ _ _ _ _ q=>add_int q
theorem bJ :OpR X (binaryOp .Sub) (rI0 fun i j=>.int (i-j)):=zE3 fun _ _ _ _ _ _ _ q=>sub_int q
theorem rD :OpR X (binaryOp .Mult) (rI zv7 fun i j=>.int (i*j)):=opI fun _ _ _ _ _ _ _ hc q=>mul_int q hc.ok
theorem uA :OpR X (binaryOp .Mod) (rI (fun _ j=>0<j) fun i j=>.int (i % j)):=opI fun i j _ _ _ _ _ hc q=>by
 have h1:(0:Int)<j:=hc;exact mod_int' (by omega) (by rw[Int.fmod_eq_emod_of_nonneg i (by omega)];exact q)
theorem cK :OpR X (binaryOp .Pow) (rI zu2 fun i j=>.int (i ^ j.toNat)):=opI fun _ _ _ _ _ _ _ hc q=>pow_int_small hc.1 hc.2.1 hc.2.2 q
theorem unI {f:Value->Sem Value}{g:Int->Int}
  (rule:∀(i:Int) (t:Tok) (s:Shared) (Q:Value->Shared->Prop) (E:Value->Shared->Prop),Q (.int (g i) s.toks) {s with toks:=s.toks+1}->wpAny (model X.prog X.w) X.A (f (.int i t)) Q E s):
  UnR X f (rU fun i=>.int (g i)):=by
 intro pins s σ H x v Q I rx h;obtain⟨i,rfl,q⟩:=h;obtain⟨t,rfl⟩:=rx;exact rule i t s _ _ ⟨.int (g i),H,I.tok _,⟨_,rfl⟩,q⟩
theorem ky :UnR X (unaryOp .USub) (rU fun i=>.int (-i)):=unI fun _ _ _ _ _ q=>neg_int q
end
def zF4 :V->V->Bool
 |.non,.non=>true|.non,.int _=>true|.int _,.non=>true|.non,.bl _=>true|.bl _,.non=>true|.non,.str _=>true|.str _,.non=>true
 |.int _,.int _=>true|.bl _,.bl _=>true|.str _,.str _=>true|.byt _,.byt _=>true
 |.int _,.str _=>true|.str _,.int _=>true|.bl _,.str _=>true|.str _,.bl _=>true
 |_,_=>false
def rEq :R2:=fun x y H Q=>zF4 x y=true/\Q (.bl (decide (x=y))) H
def rNe :R2:=fun x y H Q=>zF4 x y=true/\Q (.bl (!decide (x=y))) H
theorem jU {i j:Int}:decide (V.int i=V.int j)=(i == j):=by
 rw[z49];simp
theorem dR {i j:Bool}:decide (V.bl i=V.bl j)=(i == j):=by
 rw[z49];simp
theorem iI {i j:Str}:decide (V.str i=V.str j)=(i == j):=by
 rw[z49];simp
theorem hG {i j:Array UInt8}:decide (V.byt i=V.byt j)=(i.toList == j.toList):=by
 rw[z49];cases i;cases j;simp
section
variable {X:Cx}{a b c:Expr}{ta tb tc:TE}{pos:Pos}
theorem zI {pins:List (Addr×Obj)}{σ:St}{H:Hp}{s:Shared}{Q:VK}{k k':Bool}(I:Inv X pins σ H s)(q:Q (.bl k) H)(e:k=k'):EP X pins σ Q (.bool k') s:=by
 subst e;exact⟨.bl k,H,I,rfl,q⟩
theorem vo :OpR X (compareOp .Eq) rEq:=by
 intro pins s σ H x y v u Q I rx ry h;obtain⟨hs,q⟩:=h;cases x with
 |non=>
  cases rx;cases y with
  |non=>cases ry;exact PySem.EqNone.eq_none_none (zI I q (by simp))
  |bl j=>cases ry;exact PySem.EqNone.eq_none_bool (zI I q (by simp))
  |int j=>obtain⟨t',rfl⟩:=ry;exact PySem.EqNone.eq_none_int (zI I q (by simp))
  |str j=>obtain⟨t',rfl⟩:=ry;exact PySem.EqNone.eq_none_str (zI I q (by simp))
  |_=>exact absurd (show false=true from hs) zQ5
 |bl i=>
  cases rx;cases y with
  |non=>cases ry;exact PySem.EqNone.eq_bool_none (zI I q (by simp))
  |bl j=>cases ry;exact eq_bool (zI I q dR)
  |str j=>obtain⟨t',rfl⟩:=ry;exact PySem.EqMixed.eq_bool_str (zI I q (by simp))
  |_=>exact absurd (show false=true from hs) zQ5
 |int i=>
  obtain⟨t,rfl⟩:=rx;cases y with
  |non=>cases ry;exact PySem.EqNone.eq_int_none (zI I q (by simp))
  |int j=>obtain⟨t',rfl⟩:=ry;exact eq_int (zI I q jU)
  |str j=>obtain⟨t',rfl⟩:=ry;exact PySem.EqMixed.eq_int_str (zI I q (by simp))
  |_=>exact absurd (show false=true from hs) zQ5
 |str i=>
  obtain⟨t,rfl⟩:=rx;cases y with
  |non=>cases ry;exact PySem.EqNone.eq_str_none (zI I q (by simp))
  |bl j=>cases ry;exact PySem.EqMixed.eq_str_bool (zI I q (by simp))
  |int j=>obtain⟨t',rfl⟩:=ry;exact PySem.EqMixed.eq_str_int (zI I q (by simp))
  |str j=>obtain⟨t',rfl⟩:=ry;exact eq_str (zI I q iI)
  |_=>exact absurd (show false=true from hs) zQ5
 |byt i=>
  obtain⟨t,rfl⟩:=rx;cases y with
  |byt j=>obtain⟨t',rfl⟩:=ry;exact PySem.W.eq_bytes (zI I q hG)
  |_=>exact absurd (show false=true from hs) zQ5
 |_=>cases y<;>exact absurd (show false=true from hs) zQ5
theorem zI3 :OpR X (compareOp .NotEq) rNe:=by
 intro pins s σ H x y v u Q I rx ry h;obtain⟨hs,q⟩:=h;cases x with
 |non=>
  cases rx;cases y with
  |non=>cases ry;exact PySem.EqNone.ne_none_none (zI I q (by simp))
  |bl j=>cases ry;exact PySem.EqNone.ne_none_bool (zI I q (by simp))
  |int j=>obtain⟨t',rfl⟩:=ry;exact PySem.EqNone.ne_none_int (zI I q (by simp))
  |str j=>obtain⟨t',rfl⟩:=ry;exact PySem.EqNone.ne_none_str (zI I q (by simp))
  |_=>exact absurd (show false=true from hs) zQ5
 |bl i=>
  cases rx;cases y with
  |non=>cases ry;exact PySem.EqNone.ne_bool_none (zI I q (by simp))
  |bl j=>cases ry;exact ne_bool (zI I q (congrArg not dR))
  |str j=>obtain⟨t',rfl⟩:=ry;exact PySem.EqMixed.ne_bool_str (zI I q (by simp))
  |_=>exact absurd (show false=true from hs) zQ5
 |int i=>
  obtain⟨t,rfl⟩:=rx;cases y with
  |non=>cases ry;exact PySem.EqNone.ne_int_none (zI I q (by simp))
  |int j=>obtain⟨t',rfl⟩:=ry;exact ne_int (zI I q (congrArg not jU))
  |str j=>obtain⟨t',rfl⟩:=ry;exact PySem.EqMixed.ne_int_str (zI I q (by simp))
  |_=>exact absurd (show false=true from hs) zQ5
 |str i=>
  obtain⟨t,rfl⟩:=rx;cases y with
  |non=>cases ry;exact PySem.EqNone.ne_str_none (zI I q (by simp))
  |bl j=>cases ry;exact PySem.EqMixed.ne_str_bool (zI I q (by simp))
  |int j=>obtain⟨t',rfl⟩:=ry;exact PySem.EqMixed.ne_str_int (zI I q (by simp))
  |str j=>obtain⟨t',rfl⟩:=ry;exact ne_str (zI I q (congrArg not iI))
  |_=>exact absurd (show false=true from hs) zQ5
 |byt i=>
  obtain⟨t,rfl⟩:=rx;cases y with
  |byt j=>obtain⟨t',rfl⟩:=ry;exact PySem.W.ne_bytes (zI I q (congrArg not hG))
  |_=>exact absurd (show false=true from hs) zQ5
 |_=>cases y<;>exact absurd (show false=true from hs) zQ5
theorem pG :OpR X (compareOp .Lt) (rI0 fun i j=>.bl (decide (i<j))):=zr1 fun _ _ _ _ _ _ _ q=>lt_int q
theorem uc :OpR X (compareOp .LtE) (rI0 fun i j=>.bl (decide (i<=j))):=zr1 fun _ _ _ _ _ _ _ q=>le_int q
theorem iQ :OpR X (compareOp .Gt) (rI0 fun i j=>.bl (decide (j<i))):=zr1 fun _ _ _ _ _ _ _ q=>gt_int q
theorem zH9 :OpR X (compareOp .GtE) (rI0 fun i j=>.bl (decide (j<=i))):=zr1 fun _ _ _ _ _ _ _ q=>ge_int q
theorem jj :OpR X (compareOp .Is) (fun x y H Q=>y=.non/\Q (.bl (decide (x=.non))) H):=by
 intro pins s σ H x y v u Q I rx ry h;obtain⟨rfl,q⟩:=h;cases ry;refine is_none_gen (zI I q ?_);cases x<;>first
  |(cases rx;rfl)
  |(obtain⟨t,rfl⟩:=rx;rfl)
theorem zj3 :OpR X (compareOp .IsNot) (fun x y H Q=>y=.non/\Q (.bl (!decide (x=.non))) H):=by
 intro pins s σ H x y v u Q I rx ry h;obtain⟨rfl,q⟩:=h;cases ry;refine isnot_none_gen (zI I q ?_);cases x<;>first
  |(cases rx;rfl)
  |(obtain⟨t,rfl⟩:=rx;rfl)
theorem zG (b:Expr){op:CmpOp}(h:op≠.In:=by decide)(h2:op≠.NotIn:=by decide):behindInMarks op b=false:=by
 have e1:(op == CmpOp.In)=false:=by cases op<;>first|rfl|exact absurd rfl h
 have e2:(op == CmpOp.NotIn)=false:=by cases op<;>first|rfl|exact absurd rfl h2
 cases b<;>simp[behindInMarks,e1,e2]
theorem wk {op:CmpOp}{r:R2}(ho:OpR X (compareOp op) r)(ha:PE X a ta)(hb:PE X b tb)(hm:behindInMarks op b=false):PE X (.Compare a [op] [b] pos) (tOp r ta tb):=by
 intro pins s σ H Q I h;exact wpAny_Compare1 (zD3 ha hb I h fun v u s2 x y H2 I2 rx ry q=>ho pins s2 σ H2 x y v u Q I2 rx ry q) hm
def aF (t:TE):TT:=fun σ H Q=>t σ H fun x H'=>∃k,x=.bl k/\Q k H'
theorem ym {op:CmpOp}{r:R2}(ho:OpR X (compareOp op) r)(ha:PE X a ta)(hb:PE X b tb)(hm:behindInMarks op b=false):PT X (.Compare a [op] [b] pos) (aF (tOp r ta tb)):=by
 intro pins s σ H Q I h;refine wpAny_isTrue_Compare1 (thn (ha pins s σ H _ I h) fun v s1 ⟨x,H1,I1,r1,q1⟩=>thn (hb pins s1 σ H1 _ I1 q1) fun u s2 ⟨y,H2,I2,r2,q2⟩=>
  thn (ho pins s2 σ H2 x y v u _ I2 r1 r2 q2) fun c s3 ⟨z,H3,I3,r3,k,e,q3⟩=>?_) hm
 subst e;cases r3;exact zS6 ⟨H3,I3,q3⟩
def aW (r r':R2)(ta tb tc:TE):TE:=fun σ H Q=>ta σ H fun x H1=>tb σ H1 fun y H2=>r x y H2 fun z H3=>∃k,z=.bl k/\
 (if k=true then tc σ H3 fun w' H4=>r' y w' H4 Q else Q (.bl false) H3)
theorem rq {op op':CmpOp}{r r':R2}(ho:OpR X (compareOp op) r)(ho':OpR X (compareOp op') r')(ha:PE X a ta)(hb:PE X b tb)(hc:PE X c tc)
  (hm:lastMarks [op,op'] [b,c]=false:=by with_unfolding_all rfl):PE X (.Compare a [op,op'] [b,c] pos) (aW r r' ta tb tc):=by
 intro pins s σ H Q I h;refine Compare_chain (thn (ha pins s σ H _ I h) fun v s1 ⟨x,H1,I1,r1,q1⟩=>chain_link (thn (hb pins s1 σ H1 _ I1 q1) fun u s2 ⟨y,H2,I2,r2,q2⟩=>
  thn (ho pins s2 σ H2 x y v u _ I2 r1 r2 q2) fun d s3 ⟨z,H3,I3,r3,k,e,q3⟩=>?_)) hm
 subst e;cases r3;refine zS6 ?_;cases k with
 |false=>exact ite_ff ⟨.bl false,H3,I3,rfl,q3⟩
 |true=>exact ite_tt (chain_last (thn (hc pins s3 σ H3 _ I3 q3) fun w' s4 ⟨z',H4,I4,r4,q4⟩=>ho' pins s4 σ H4 y z' u w' Q I4 r2 r4 q4))
theorem zf1 {op op':CmpOp}{r r':R2}(ho:OpR X (compareOp op) r)(ho':OpR X (compareOp op') r')(ha:PE X a ta)(hb:PE X b tb)(hc:PE X c tc)
  (hm:lastMarks [op,op'] [b,c]=false:=by with_unfolding_all rfl):PT X (.Compare a [op,op'] [b,c] pos) (aF (aW r r' ta tb tc)):=by
 intro pins s σ H Q I h;refine isTrue_chain (thn (ha pins s σ H _ I h) fun v s1 ⟨x,H1,I1,r1,q1⟩=>test_link (thn (hb pins s1 σ H1 _ I1 q1) fun u s2 ⟨y,H2,I2,r2,q2⟩=>
  thn (ho pins s2 σ H2 x y v u _ I2 r1 r2 q2) fun d s3 ⟨z,H3,I3,r3,k,e,q3⟩=>?_)) hm
 subst e;cases r3;refine zS6 ?_;cases k with
 |false=>
  obtain⟨k',e',q'⟩:=q3;cases e';exact ite_ff ⟨H3,I3,q'⟩
 |true=>
  refine ite_tt (test_last (thn (hc pins s3 σ H3 _ I3 q3) fun w' s4 ⟨z',H4,I4,r4,q4⟩=>thn (ho' pins s4 σ H4 y z' u w' _ I4 r2 r4 q4) fun d' s5 ⟨z2,H5,I5,r5,k2,e2,q5⟩=>?_));subst e2;cases r5;exact zS6 ⟨H5,I5,q5⟩
def zI8 (K:PySem.W.Frag)(x:V)(H:Hp)(k:Bool):Prop:=
 match x with
 |.non=>k=false
 |.bl b=>k=b
 |.int i=>k=(i != 0)
 |.str y=>y.length<=sizeLine/\k=((y.length:Int) != 0)
 |.byt y=>y.size<=sizeLine/\k=((y.size:Int) != 0)
 |.ref p=>(∃xs,SqL K H p xs/\k=!xs.isEmpty)\/(∃xs,SqT K H p xs/\k=!xs.isEmpty)\/∃kvs,H p=some (.dK kvs)/\k=!kvs.isEmpty
 |_=>False
theorem jb {κ:Type}{kvs:List (κ×V)}{vs:List (κ×Value)}(r:KV kvs vs):(!vs.isEmpty)=!kvs.isEmpty:=by
 cases r<;>rfl
theorem rg {xs:List V}{its:List Value}(r:Vals xs its):(!its.toArray.isEmpty)=!xs.isEmpty:=by
 cases r<;>simp
theorem tK :(sizeLine:Nat)<2 ^ 63:=by rw[zU4];decide
theorem zw8 :zM8 X (fun x H Q=>∃k,zI8 X.K x H k/\Q k H):=by
 intro pins s σ H x v Q I rx h;obtain⟨k,e,q⟩:=h;have hl:=tK;have hs:sizeLine=16777216:=zU4;cases x with
 |non=>
  cases rx;have e':k=false:=e;subst e';exact truthy_none ⟨H,I,q⟩
 |bl b=>
  cases rx;have e':k=b:=e;subst e';exact zS6 ⟨H,I,q⟩
 |int i=>
  obtain⟨t,rfl⟩:=rx;have e':k=(i != 0):=e;subst e';exact PySem.P.truthy_int ⟨H,I,q⟩
 |str y=>
  obtain⟨t,rfl⟩:=rx;obtain⟨hy,e'⟩:y.length<=sizeLine/\k=((y.length:Int) != 0):=e;subst e';exact PySem.P.truthy_str (by omega) ⟨H,I.tok _,q⟩
 |byt y=>
  obtain⟨t,rfl⟩:=rx;obtain⟨hy,e'⟩:y.size<=sizeLine/\k=((y.size:Int) != 0):=e;subst e';exact PySem.W.truthy_bytes (by omega) ⟨H,I.tok _,q⟩
 |ref p=>
  cases rx;have e':(∃xs,SqL X.K H p xs/\k=!xs.isEmpty)\/(∃xs,SqT X.K H p xs/\k=!xs.isEmpty)\/∃kvs,H p=some (.dK kvs)/\k=!kvs.isEmpty:=e;rcases e' with ⟨xs,hx,e'⟩|⟨xs,hx,e'⟩|⟨kvs,hx,e'⟩
  ·subst e';obtain⟨its,r,pl,hz⟩:=I.list hx;have hlen:=r.length;exact wpAny_truthy_list pl.isList (by simp only[zQ0];omega) ⟨H,I.tok _,by rw[rg r];exact q⟩
  ·subst e';obtain⟨its,r,pl,hz⟩:=I.tuple hx;have hlen:=r.length;exact truthy_tuple pl (by simp only[zQ0];omega) ⟨H,I.tok _,by rw[rg r];exact q⟩
  ·subst e';obtain⟨hz,hS,vs,r,m⟩:kvs.length<=sizeLine/\(p == sysModules)=false/\∃vs,KV kvs vs/\s.heap.DictOf (yf X.prog X.w) p vs:=I.hok p _ hx;have hlen:kvs.length=vs.length:=Paired.length r;exact wpAny_truthy_dict hS m (by omega) ⟨H,I.tok _,by rw[jb r];exact q⟩
 |_=>exact (show False from e).elim
theorem aS (ha:PE X a ta)(he:∀whole,isTrue a X.env whole=(do let v <-whole;standAt a.pos;holding [v] (truthy v))):
  PT X a (fun σ H Q=>ta σ H fun x H'=>∃k,zI8 X.K x H' k/\Q k H'):=by
 intro pins s σ H Q I h;exact isTrue_plain (thn (ha pins s σ H _ I h) fun v s1 ⟨x,H1,I1,r1,q1⟩=>zw8 pins s1 σ H1 x v Q I1 r1 q1) (he _)
theorem vals1 {x:V}{us:List Value}(r:Vals [x] us):∃u,us=[u]/\RelV x u:=by
 cases r with
 |cons r1 r2=>cases r2;exact⟨_,rfl,r1⟩
theorem ly :xj X (.builtin "abs") (fun xs H Q=>∃i,xs=[.int i]/\Q (.int (if i<0 then -i else i)) H):=by
 intro pins s σ H xs us Q I r h;obtain⟨i,rfl,q⟩:=h;obtain⟨u,rfl,t,rfl⟩:=vals1 r;exact call_abs_int fun u tk=>⟨.int (if i<0 then -i else i),H,I.tok _,⟨_,rfl⟩,q⟩
theorem oM :xj X (.type "str") (fun xs H Q=>∃i,xs=[.int i]/\i.natAbs.log2<1920/\Q (.str (toString i)) H):=by
 intro pins s σ H xs us Q I r h;obtain⟨i,rfl,hz,q⟩:=h;obtain⟨u,rfl,t,rfl⟩:=vals1 r;exact PySem.P.str_of_int hz ⟨.str _,H,I.tok _,⟨_,rfl⟩,q⟩
end
structure kX (h:Heap)(x dx C:Addr)(mA:Str->Option Value):Prop where
 obj:h.get? x=some (PySem.W.instObj C dx)
 ns:h.Ns1 dx mA
 ne:dx≠x
theorem gK {h:Heap}{dx:Addr}{mA:Str->Option Value}(n:h.Ns1 dx mA):∃od,h.get? dx=some od/\∀name,PySem.W.lookIn name od=some (mA name):=by
 obtain⟨o,es,ep,ho,hd,hk,_,hm⟩:=n;refine⟨o,ho,fun name=>?_⟩;have e:=hm name;unfold nsFind findBy at e;rw[<-Array.find?_toList] at e;unfold PySem.W.lookIn;rw[hd];dsimp only;split
 ·rename_i y q;rw[q] at e;exact congrArg some e
 ·rename_i q;rw[q] at e;have a:es.toList.any (·.refKey)=false:=by
   rw[List.any_eq_false];intro y hy;obtain⟨z,t,hkey⟩:=hk y (Array.mem_toList_iff.mp hy);simp[DictEntry.refKey,hkey]
  have a':¬es.toList.any (·.refKey)=true:=by rw[a];exact zQ5
  rw[if_neg a'];exact congrArg some e
theorem kX.look {h:Heap}{x dx C:Addr}{mA:Str->Option Value}(I:kX h x dx C mA):∃od,PySem.W.InstAt h x (PySem.W.instObj C dx) C (some od)/\∀name,PySem.W.lookIn name od=some (mA name):=
 let ⟨od,ho,hl⟩:=gK I.ns
 ⟨od,⟨I.obj,rfl,rfl,ho⟩,hl⟩
section
variable {prog:Program}{w:World}{A:Around}{E:Value->Shared->Prop}{s:Shared}{K:PySem.W.Frag}{x dx C f:Addr}{mA:Str->Option Value}{name:Str}{v:Value}
theorem get_map {expr:Bool}{Q:Value->Shared->Prop}(X:K.In s.heap)(I:kX s.heap x dx C mA)(hg:PySem.W.plainGet K C name=true)(hh:PySem.W.hasDictIn K C=true)
  (ha:PySem.W.findIn K (.ref C) name=some none) (hv:mA name=some v) (hv':PySem.W.handedIn v=true) (h:Q v {s with toks:=s.toks+1}):
  wpAny (model prog w) A (getAttr (.ref x) name expr) Q E s:=by
 obtain⟨od,J,hl⟩:=I.look;exact PySem.W.get_value X J (z62 hg).1 (PySem.W.findObj_own hh ha rfl (by rw[hl,hv])) hv' h
theorem ab {pl:Sem Bool}{Q:Value×List Value->Shared->Prop}(X:K.In s.heap)(I:kX s.heap x dx C mA)(hg:PySem.W.plainGet K C name=true)
  (hf:PySem.W.findIn K (.ref C) name=some (some (.ref f))) (ht:PySem.W.isFn K (.ref f)=true) (hv:mA name=none) (h:Q (.ref f,[.ref x]) s):
  wpAny (model prog w) A (getMethod (.ref x) name pl) Q E s:=by
 obtain⟨od,J,hl⟩:=I.look;exact PySem.W.method_fn X J (z62 hg).1 (z62 hg).2 hf (beq_iff_eq.mp ht) (by show (PySem.W.lookIn name od).map (·.isSome)=some false;rw[hl,hv];rfl) h
theorem zl4 {ns:List Str}{Q:Unit->Shared->Prop}(X:K.In s.heap)(I:kX s.heap x dx C mA)
  (hs:PySem.W.findIn K (.ref C) "__setattr__"=some (some (.builtin "object.__setattr__"))) (hp:PySem.W.plainOver K C=true) (ht:PySem.W.takerIn K C name=some none) (hh:PySem.W.hasDictIn K C=true)
  (hw:PySem.Within mA ns) (hsz:ns.length<=sizeLine)
  (h:∀h',kX h' x dx C (fun y=>if y=name then some v else mA y)->Heap.SameBut dx s.heap h'->Q () {s with heap:=h',toks:=s.toks+2}):
  wpAny (model prog w) A (setAttr (.ref x) name v) Q E s:=by
 obtain⟨od,J,hl⟩:=I.look;refine PySem.W.set_plain X J hs (PySem.W.osa_open (s:={s with toks:=s.toks+1}) (r:=none) X J hp ht fun b=>?_);obtain⟨cd,hc,hd'⟩:=PySem.W.any_some hh;have hx:s.heap.get? x=some ⟨.ref C,some dx,.plain,#[]⟩:=I.obj;refine zO7 (zP8 (zO7 (zO7 (wpAny_loadPart hx (zO7 (PySem.W.Looks.here (s:={s with toks:=s.toks+1}) (PySem.W.looks_clsIn X hc) ?_))))));rw[hd'];refine zP8 (a:=some dx) (zO7 (zP8 (zO7 ?_)));refine wpAny_nsSet1 (s:={s with toks:=s.toks+1}) I.ns fun h' hn2 hs2=>?_;obtain⟨oD,esD,epD,hoD,hdD,hcD⟩:=hn2.count (PySem.Within.cons name v hw);refine zO7 (wpAny_lookBehind hoD (by rw[hdD];exact pastItsLine_dict (zT3 hcD (by rw[zQ4];omega))) ?_);exact zP8 (h _ ⟨(hs2.2 _ (zS2 I.ne)).trans I.obj,hn2,I.ne⟩ hs2)
theorem cE {R:Result->Shared->Prop}{vs:List Value}{kw:List (Str×Value)}(X:K.In s.heap)(hm:PySem.W.makesIn K C=true)
  (hi:PySem.W.findIn K (.ref C) "__init__"=some (some (.ref f))) (hf:PySem.W.typeIn K (.ref f)=some (.type "function"))
  (h:codeAny (model prog w) (A.under (.builtin "type.__call__" ⟨.ref C::vs,kw⟩)) (.call (.ref f) ⟨.ref (s.heap.objs.size+1)::vs,kw⟩) (PySem.W.InitBack (s.heap.objs.size+1) R)
   {s with heap:=(s.heap.push PySem.W.emptyDict).push (PySem.W.instObj C s.heap.objs.size)}):
  codeAny (model prog w) A (.call (.ref C) ⟨vs,kw⟩) R s:=by
 obtain⟨hh,g,d,t,os⟩:=s;exact PySem.W.make_core (PySem.W.makes_of X hm) (PySem.W.looks_findIn X hi) (fun self=>PySem.W.bind_fn X self hf) (.inl rfl) h
end
def wa (f:Str)(v:V):List (Str×V)->List (Str×V)
 |[]=>[(f,v)]
 |(g,x)::r=>if g=f then (g,v)::r else (g,x)::wa f v r
theorem yH (f g:Str)(v:V):∀fs:List (Str×V),(wa f v fs).lookup g=if g=f then some v else fs.lookup g
 |[]=>by
  show List.lookup g [(f,v)]=_;by_cases h:g=f
  ·have hb:(g == f)=true:=beq_iff_eq.mpr h;simp only[List.lookup,hb,if_pos h]
  ·have hb:(g == f)=false:=zX8.mpr h;simp only[List.lookup,hb,if_neg h]
 |(k,x)::r=>by
  have ih:=yH f g v r;rw[show wa f v ((k,x)::r)=(if k=f then (k,v)::r else (k,x)::wa f v r) from rfl];by_cases hk:k=f
  ·rw[if_pos hk];by_cases h:g=k
   ·have hb:(g == k)=true:=beq_iff_eq.mpr h;simp only[List.lookup,hb,if_pos (h.trans hk)]
   ·have hb:(g == k)=false:=zX8.mpr h;simp only[List.lookup,hb,if_neg (fun e:g=f=>h (e.trans hk.symm))]
  ·rw[if_neg hk];by_cases h:g=k
   ·have hb:(g == k)=true:=beq_iff_eq.mpr h;simp only[List.lookup,hb,if_neg (fun e:g=f=>hk (h.symm.trans e))]
   ·have hb:(g == k)=false:=zX8.mpr h;simp only[List.lookup,hb];exact ih
theorem tI (f:Str)(v:V):∀fs:List (Str×V),f∈(wa f v fs).map (·.1)/\∀g,g∈fs.map (·.1)->g∈(wa f v fs).map (·.1)
 |[]=>⟨by simp[wa],fun g h=>by simp at h⟩
 |(k,x)::r=>by
  obtain⟨i1,i2⟩:=tI f v r;rw[show wa f v ((k,x)::r)=(if k=f then (k,v)::r else (k,x)::wa f v r) from rfl];by_cases hk:k=f
  ·rw[if_pos hk];subst hk;exact⟨by simp,fun g h=>by simpa using h⟩
  ·rw[if_neg hk];refine⟨?_,fun g h=>?_⟩
   ·rw[zR4];exact zP5 _ i1
   ·rw[zR4] at h ⊢;rcases zP2.mp h with e|e
    ·exact zP2.mpr (.inl e)
    ·exact zP5 _ (i2 g e)
theorem sk (f:Str)(v:V):∀fs:List (Str×V),(wa f v fs).length<=fs.length+1
 |[]=>by simp[wa]
 |(k,x)::r=>by
  have ih:=sk f v r;rw[show wa f v ((k,x)::r)=(if k=f then (k,v)::r else (k,x)::wa f v r) from rfl];by_cases hk:k=f
  ·rw[if_pos hk,zQ4,zQ4];omega
  ·rw[if_neg hk,zQ4,zQ4];omega
theorem vZ.some_of {v:V}{o:Option Value}(r:vZ (some v) o):∃u,o=some u/\RelV v u:=by
 cases o with
 |none=>exact (show False from r).elim
 |some u=>exact⟨u,rfl,r⟩
theorem vZ.none_of {o:Option Value}(r:vZ none o):o=none:=by
 cases o with
 |none=>rfl
 |some u=>exact (show False from r).elim
theorem fY {v:V}{u:Value}(r:RelV v u):PySem.W.handedIn u=true:=by
 cases v with
 |non=>cases (show u=Value.none from r);rfl
 |bl b=>cases (show u=Value.bool b from r);rfl
 |int i=>obtain⟨t,e⟩:=(show ∃t,u=Value.int i t from r);cases e;rfl
 |str x=>obtain⟨t,e⟩:=(show ∃t,u=Value.str x t from r);cases e;rfl
 |byt b=>obtain⟨t,e⟩:=(show ∃t,u=Value.bytes b t from r);cases e;rfl
 |flt b=>obtain⟨t,e⟩:=(show ∃t,u=Value.float b t from r);cases e;rfl
 |ref a=>cases (show u=Value.ref a from r);rfl
 |ty n=>cases (show u=Value.type n from r);rfl
section
variable {P:Program}{w:World}{H H':Hp}{h h':Heap}{a C dx:Addr}{fs fs':List (Str×V)}
theorem sU (hok:HOk P w H h)(e:H a=some (.ins C dx fs)):∃mA,kX h a dx C mA/\(∀f,vZ (fs.lookup f) (mA f))/\PySem.Within mA (fs.map (·.1))/\fs.length<=1000/\H dx=some (.own a):=by
 obtain⟨d,z,ne,ob,mA,n,r,q⟩:=(show zM P w H h a (.ins C dx fs) from hok a _ e);exact⟨mA,⟨ob,n,ne⟩,r,q,z,d⟩
end
structure Cls (K:PySem.W.Frag)(C:Addr):Prop where
 pg:PySem.W.plainGet K C Str.empty=true
 hd:PySem.W.hasDictIn K C=true
 po:PySem.W.plainOver K C=true
 sa:PySem.W.findIn K (.ref C) "__setattr__"=some (some (.builtin "object.__setattr__"))
theorem Cls.get {K:PySem.W.Frag}{C:Addr}(c:Cls K C)(f:Str):PySem.W.plainGet K C f=true:=c.pg
def yR (K:PySem.W.Frag)(C:Addr)(f:Str):Prop:=PySem.W.findIn K (.ref C) f=some none
theorem yR.taker {K:PySem.W.Frag}{C:Addr}{f:Str}(n:yR K C f):PySem.W.takerIn K C f=some none:=by
 unfold PySem.W.takerIn;rw[show PySem.W.findIn K (.ref C) f=some none from n];rfl
structure Meth (K:PySem.W.Frag)(C:Addr)(m:Str)(f:Addr):Prop where
 at_:PySem.W.findIn K (.ref C) m=some (some (.ref f))
 fn:PySem.W.isFn K (.ref f)=true
 kp:PySem.W.keepIn K (.ref f)=true
section
variable {X:Cx}{pins:List (Addr×Obj)}{σ:St}{H:Hp}{s:Shared}{a C dx:Addr}{fs:List (Str×V)}{f:Str}{v:V}{A:Around}{E:Value->Shared->Prop}
theorem jr {b:Bool}{Q:Value->Shared->Prop}(I:Inv X pins σ H s)(e:H a=some (.ins C dx fs))(c:Cls X.K C)(n:yR X.K C f)(l:fs.lookup f=some v)
  (h:∀u s',Inv X pins σ H s'->RelV v u->Q u s'):wpAny (model X.prog X.w) A (getAttr (.ref a) f b) Q E s:=by
 obtain⟨mA,O,r,_,_,_⟩:=sU I.hok e;obtain⟨u,hu,ru⟩:=vZ.some_of (v:=v) (o:=mA f) (by rw[<-l];exact r f);exact get_map I.kIn O (c.get f) c.hd n hu (fY ru) (h u _ (I.tok _) ru)
theorem uy {m:Str}{g:Addr}{pl:Sem Bool}{Q:Value×List Value->Shared->Prop}(I:Inv X pins σ H s)(e:H a=some (.ins C dx fs))(c:Cls X.K C)(k:Meth X.K C m g)(l:fs.lookup m=none)
  (h:Q (.ref g,[.ref a]) s):wpAny (model X.prog X.w) A (getMethod (.ref a) m pl) Q E s:=by
 obtain⟨mA,O,r,_,_,_⟩:=sU I.hok e;have hn:mA m=none:=vZ.none_of (by rw[<-l];exact r m);exact ab I.kIn O (c.get m) k.at_ k.fn hn h
theorem jI {y:V}{u:Value}{Q:Unit->Shared->Prop}(I:Inv X pins σ H s)(e:H a=some (.ins C dx fs))(c:Cls X.K C)(n:yR X.K C f)(hl:fs.length<1000)(ry:RelV y u)
  (h:∀s',Inv X pins σ (upd H a (.ins C dx (wa f y fs))) s'->Q () s'):wpAny (model X.prog X.w) A (setAttr (.ref a) f u) Q E s:=by
 obtain⟨mA,O,r,wi,_,ho⟩:=sU I.hok e;have hz:(fs.map (·.1)).length<=sizeLine:=by rw[zO6,zU4];omega
 refine zl4 I.kIn O c.sa c.po n.taker c.hd wi hz fun h' O' sb=>h _ ?_;have hd:∃o,h'.get? dx=some o:=let ⟨o,_,_,e',_⟩:=O'.ns;⟨o,e'⟩;refine I.write (x:=a) (e:=dx) (by rw[e];exact True.intro) (.inr ho) (fun b q hb z=>(sb.2 b hb).trans z) hd ?_;refine⟨by rw[zh O.ne];exact ho,?_,O.ne,O'.obj,_,O'.ns,fun g=>?_,fun g hg=>?_⟩
 ·have:=sk f y fs;omega
 ·show vZ ((wa f y fs).lookup g) (if g=f then some u else mA g);rw[yH];by_cases q:g=f
  ·rw[if_pos q,if_pos q];exact ry
  ·rw[if_neg q,if_neg q];exact r g
 ·by_cases q:g=f
  ·rw[q];exact (tI f y fs).1
  ·refine (tI f y fs).2 g (wi g fun z=>hg ?_);show (if g=f then some u else mA g)=none;rw[if_neg q];exact z
theorem Inv.made (I:Inv X pins σ H s):Inv X pins σ (upd (upd H s.heap.objs.size (.own (s.heap.objs.size+1))) (s.heap.objs.size+1) (.ins C s.heap.objs.size []))
  {s with heap:=(s.heap.push PySem.W.emptyDict).push (PySem.W.instObj C s.heap.objs.size)}:=by
 have e1:(s.heap.push PySem.W.emptyDict).get? s.heap.objs.size=some PySem.W.emptyDict:=zP9 s.heap rfl;have e2:((s.heap.push PySem.W.emptyDict).push (PySem.W.instObj C s.heap.objs.size)).get? (s.heap.objs.size+1)=some (PySem.W.instObj C s.heap.objs.size):=by
  have:=zP9 (s.heap.push PySem.W.emptyDict) (o:=PySem.W.instObj C s.heap.objs.size) rfl
  rwa [zU7] at this
 have e3:(s.heap.push PySem.W.emptyDict).Ns s.heap.objs.size (fun _=>none):=⟨PySem.W.emptyDict,#[],_,e1,rfl,(fun e he=>absurd he (by simp)),fun _=>rfl⟩;have I1:=I.laid (a:=s.heap.objs.size) (o:=.own (s.heap.objs.size+1)) (h':=s.heap.push PySem.W.emptyDict) (t':=s.toks) (fun b u q=>zO8 _ q) (zP3 _) ⟨_,e1⟩;refine I1.laid (a:=s.heap.objs.size+1) (o:=.ins C s.heap.objs.size []) (t':=s.toks) (fun b u q=>zO8 _ q) (z50 (zU7 _ _)) ?_;have ne:s.heap.objs.size≠s.heap.objs.size+1:=zQ7 (zZ3 _);refine⟨by rw[zh ne,zk],zQ8 _,ne,e2,fun _=>none,(Heap.Ns1.of_empty e3).at fun o q=>zO8 _ q,fun _=>True.intro,fun y hy=>absurd rfl hy⟩
theorem zq0 {prog:Program}{w:World}{env:Env}{e:Expr}{f:Str}{pos:Pos}{s:Shared}{Q:Value->Shared->Prop}(hb:attributeBase e f env (eval e env)=eval e env)
  (h:wpAny (model prog w) A (eval e env) (fun o s₁=>wpAny (model prog w) A (getAttr o f true) Q E s₁) E s):wpAny (model prog w) A (eval (.Attribute e f pos) env) Q E s:=
 Attribute_any_ h (by rw[arm_eval_Attribute,hb])
end
def zL8 (K:PySem.W.Frag)(ta:TE)(f:Str):TE:=fun σ H Q=>ta σ H fun x H1=>∃a C dx fs v,x=.ref a/\H1 a=some (.ins C dx fs)/\Cls K C/\yR K C f/\fs.lookup f=some v/\Q v H1
def zN0 (K:PySem.W.Frag)(ta tv:TE)(f:Str):TS:=fun D σ H=>tv σ H fun y H1=>ta σ H1 fun x H2=>∃a C dx fs,x=.ref a/\H2 a=some (.ins C dx fs)/\Cls K C/\yR K C f/\fs.length<1000/\
 D.nx σ (upd H2 a (.ins C dx (wa f y fs)))
section
variable {X:Cx}{o e value:Expr}{f:Str}{pos pos' tpos:Pos}{ta tv:TE}
theorem ko (he:PE X e ta)(hb:attributeBase e f X.env (eval e X.env)=eval e X.env):PE X (.Attribute e f pos) (zL8 X.K ta f):=by
 intro pins s σ H Q I h;refine zq0 hb (thn (he pins s σ H _ I h) fun u s1 ⟨x,H1,I1,rx,a,C,dx,fs,v,ex,ea,c,n,l,q⟩=>?_);subst ex;obtain rfl:u=Value.ref a:=rx;exact jr I1 ea c n l fun u' s2 I2 ru=>⟨v,H1,I2,ru,q⟩
theorem nu (ha:PE X o ta)(hv:PE X value tv)(hs:swapsWith value (some (.Attribute o f pos')) pos.line X.env=pure false):PS X (.Assign [.Attribute o f pos'] value pos) (zN0 X.K ta tv f):=by
 intro pins s σ H D I h;refine plainObj_wpAny_Assign_Attribute (thn (hv pins s σ H _ I h) fun u s1 ⟨y,H1,I1,ry,q⟩=>thn (ha pins s1 σ H1 _ I1 q) fun ov s2 ⟨x,H2,I2,rx,a,C,dx,fs,ex,ea,c,n,l,q2⟩=>?_) hs;subst ex;obtain rfl:ov=Value.ref a:=rx;exact jI I2 ea c n l ry fun s3 I3=>⟨σ,_,I3,q2⟩
theorem zt1 {pl:Sem Bool}{m:Str}{apos:Pos}{args:List Expr}{pins:List (Addr×Obj)}{s:Shared}{σ:St}{H:Hp}{Q:Value->Shared->Prop}{te:TE}(he:PE X e te)(I:Inv X pins σ H s)
  (h:te σ H fun x H1=>∃a C dx fs g,x=.ref a/\H1 a=some (.ins C dx fs)/\Cls X.K C/\Meth X.K C m g/\fs.lookup m=none/\
   ∀s1,Inv X pins σ H1 s1->wpAny (model X.prog X.w) X.A (callWith pos (.ref g) [.ref a] (backTo pos (starEach args X.env)) (backToKw pos (keywordEach [] X.env))) Q X.xe s1)
  (ht:eval (.Call (.Attribute e m apos) args [] pos) X.env=(do
   let ov <-eval e X.env
   standAt apos.atName
   let (f,first) <-holding [ov] (getMethod ov m pl)
   callWith pos f first (backTo pos (starEach args X.env)) (backToKw pos (keywordEach [] X.env)))):
  wpAny (model X.prog X.w) X.A (eval (.Call (.Attribute e m apos) args [] pos) X.env) Q X.xe s:=by
 refine z45 (pl:=pl) (thn (he pins s σ H _ I h) fun u s1 ⟨x,H1,I1,rx,a,C,dx,fs,g,ex,ea,c,k,l,q⟩=>?_) ht;subst ex;obtain rfl:u=Value.ref a:=rx;exact uy I1 ea c k l (q s1 I1)
end
section
variable {X:Cx}{pins:List (Addr×Obj)}{σ:St}{H:Hp}{s:Shared}{A:Around}{E:Value->Shared->Prop}{Q:Value->Shared->Prop}{c:Value}{b:Bool}
inductive uS (K:PySem.W.Frag)(H:Hp):V->Value->Prop where
 |non:uS K H .non (.type "NoneType")
 |bl (x:Bool):uS K H (.bl x) (.type "bool")
 |int (i:Int):uS K H (.int i) (.type "int")
 |str (x:Str):uS K H (.str x) (.type "str")
 |flt (x:UInt64):uS K H (.flt x) (.type "float")
 |lst {a:Addr} {xs:List V} (e:H a=some (.lst xs)):uS K H (.ref a) (.type "list")
 |frz {a:Addr} {o:Obj} {xs:List V} (e:H a=some (.frz o (.lst xs))):uS K H (.ref a) (.type "list")
 |tup {a:Addr} {xs:List V} (e:H a=some (.tup xs)):uS K H (.ref a) (.type "tuple")
 |dK {a:Addr} {kvs:List (Key×V)} (e:H a=some (.dK kvs)):uS K H (.ref a) (.type "dict")
 |dT {a:Addr} {kvs:List (List Key×V)} (e:H a=some (.dT kvs)):uS K H (.ref a) (.type "dict")
 |ins {a C dx:Addr} {fs:List (Str×V)} (e:H a=some (.ins C dx fs)) (cl:Cls K C) (ha:PySem.W.findIn K (.ref C) "__class__"=some (some (.builtin "object.__class__")))
   (hn:PySem.W.specialIn K (.builtin "object.__class__") "__get__"=some (some (.builtin "getset_descriptor.__get__"))) (htk:PySem.W.takesIn K (.builtin "object.__class__")=some true)
   (hm:PySem.W.mroIn K C (.type "object")=some true):uS K H (.ref a) (.ref C)
theorem eM {x:V}{u t:Value}(I:Inv X pins σ H s)(rx:RelV x u)(ty:uS X.K H x t)(e:PySem.W.kitOne X.K t c=some b)(h:∀tk,Q (.bool b) {s with toks:=tk}):
  wpAny (model X.prog X.w) A (call (.builtin "isinstance") [u,c]) Q E s:=by
 cases ty with
 |non=>cases (show u=Value.none from rx);exact zV0 PySem.W.kitx_none I.kIn True.intro e (fun z=>nomatch z) h
 |bl y=>cases (show u=Value.bool y from rx);exact zV0 PySem.W.kitx_bool I.kIn True.intro e (fun z=>nomatch z) h
 |int i=>obtain⟨t,q⟩:=(show ∃t,u=Value.int i t from rx);cases q;exact zV0 PySem.W.kitx_int I.kIn True.intro e (fun z=>nomatch z) h
 |str y=>obtain⟨t,q⟩:=(show ∃t,u=Value.str y t from rx);cases q;exact zV0 PySem.W.kitx_str I.kIn True.intro e (fun z=>nomatch z) h
 |flt y=>obtain⟨t,q⟩:=(show ∃t,u=Value.float y t from rx);cases q;exact zV0 PySem.W.kitx_float I.kIn True.intro e (fun z=>nomatch z) h
 |@lst a xs ea=>
  cases (show u=Value.ref a from rx);obtain⟨_,_,n,_,h1⟩:=(show zM X.prog X.w H s.heap a (.lst xs) from I.hok a _ ea);exact zV0 PySem.W.kitx_list I.kIn ⟨_,h1,rfl⟩ e (fun z=>nomatch z) h
 |@frz a ob xs ea=>
  cases (show u=Value.ref a from rx);obtain⟨_,_,_,n,_,h1⟩:=(show zM X.prog X.w H s.heap a (.frz ob (.lst xs)) from I.hok a _ ea);exact zV0 PySem.W.kitx_list I.kIn ⟨_,h1,rfl⟩ e (fun z=>nomatch z) h
 |@tup a xs ea=>
  cases (show u=Value.ref a from rx);obtain⟨_,_,_,p⟩:=(show zM X.prog X.w H s.heap a (.tup xs) from I.hok a _ ea);obtain⟨o,h1,h2,_⟩:=p;exact zV0 PySem.W.kitx_tuple I.kIn ⟨o,h1,h2⟩ e (fun z=>nomatch z) h
 |@dK a kvs ea=>
  cases (show u=Value.ref a from rx);obtain⟨_,_,vs,_,p⟩:=(show zM X.prog X.w H s.heap a (.dK kvs) from I.hok a _ ea);obtain⟨o,es,ep,h1,h2,_⟩:=p;exact zV0 PySem.W.kitx_dict I.kIn ⟨o,h1,h2.1⟩ e (fun z=>nomatch z) h
 |@dT a kvs ea=>
  cases (show u=Value.ref a from rx);obtain⟨_,_,xs,_,o,es,ep,h1,h2,_⟩:=(show zM X.prog X.w H s.heap a (.dT kvs) from I.hok a _ ea);exact zV0 PySem.W.kitx_dict I.kIn ⟨o,h1,h2.1⟩ e (fun z=>nomatch z) h
 |@ins a C dx fs ea cl ha hn htk hm=>
  cases (show u=Value.ref a from rx);obtain⟨mA,O,_⟩:=sU I.hok ea;obtain⟨od,J,_⟩:=O.look;exact zV0 (PySem.W.kitx_own (cl.get _) cl.hd ha hn htk hm) I.kIn J e (fun z=>nomatch z) h
end
structure zV (k:Nat)(A:Around):Prop where
 hd:A.handled=none
 dp:A.depth+3*k+5<recursionLimit
 un:A.units+16*k+200<cLine
 gd:A.guards=some []
theorem zV.mono {j k:Nat}{A:Around}(r:zV k A)(h:j<=k):zV j A:=⟨r.hd,by have:=r.dp;omega,by have:=r.un;omega,r.gd⟩
theorem zV.deeper {k:Nat}{A:Around}(r:zV (k+1) A)(env:Env):zV k (A.deeper env):=
 ⟨r.hd,by have:=r.dp;show A.depth+1+3*k+5<_;omega,by have:=r.un;show A.units+3+16*k+200<_;omega,r.gd⟩
theorem zV.in1 {k:Nat}{A:Around}(r:zV (k+1) A):zV k A.in1:=
 ⟨r.hd,by have:=r.dp;show A.depth+3*k+5<_;omega,by have:=r.un;show A.units+1+16*k+200<_;omega,r.gd⟩
theorem ji {A:Around}{C:Addr}{us:List Value}{kw:List (Str×Value)}:(A.under (.builtin "type.__call__" ⟨.ref C::us,kw⟩)).depth=A.depth+1:=by
 first|rfl|simp[Around.under,Code.weight,Code.isCreation,Code.isGuard,Code.isCaller,Code.frames,Code.isFrame,guardIds]
theorem lX {A:Around}{C:Addr}{us:List Value}{kw:List (Str×Value)}:(A.under (.builtin "type.__call__" ⟨.ref C::us,kw⟩)).units=A.units+1:=by
 first|rfl|simp[Around.under,Code.cUnits,Code.frames,Code.isFrame]
theorem mF {A:Around}{C:Addr}{us:List Value}{kw:List (Str×Value)}:(A.under (.builtin "type.__call__" ⟨.ref C::us,kw⟩)).guards=A.guards:=by
 first|rfl|simp[Around.under,Code.guards,Code.isGuard,guardIds,pushGuards]
theorem zV.make {k:Nat}{A:Around}(r:zV (k+1) A)(C:Addr)(us:List Value)(kw:List (Str×Value)):zV k (A.under (.builtin "type.__call__" ⟨.ref C::us,kw⟩)):=
 ⟨r.hd,by have:=r.dp;rw[ji];omega,by have:=r.un;rw[lX];omega,(mF (A:=A)).trans r.gd⟩
theorem zV.depth {k:Nat}{A:Around}(r:zV k A):A.depth<recursionLimit:=by have:=r.dp;omega
theorem zV.units {k:Nat}{A:Around}(r:zV k A):A.units+64<cLine:=by have:=r.un;omega
def zF0 :TA:=fun _ H Q=>Q [] H
def zI0 (ta:TE)(tr:TA):TA:=fun σ H Q=>ta σ H fun x H1=>tr σ H1 fun xs H2=>Q (x::xs) H2
section
variable {X:Cx}{e:Expr}{es:List Expr}{te:TE}{t:TA}{pos:Pos}
theorem zu :PA X [] zF0:=fun _ _ _ _ H Q I h=>Calls.spliced_nil ⟨[],H,I,.nil,h⟩
theorem zg (ha:PE X e te)(hr:PA X es t)(hs:starEach (e::es) X.env=(false,eval e X.env)::starEach es X.env:=by rfl):PA X (e::es) (zI0 te t):=by
 intro pos pins s σ H Q I h;rw[hs];show wpAny _ _ (spliced ((false,eval e X.env)::backTo pos (starEach es X.env))) _ _ s;refine Calls.spliced_cons (thn (ha pins s σ H _ I h) fun u s1 ⟨x,H1,I1,r1,q1⟩=>?_);exact thn (hr pos pins s1 σ H1 _ I1 q1) fun us s2 ⟨xs,H2,I2,r2,q2⟩=>⟨x::xs,H2,I2,.cons r1 r2,q2⟩
def zN6 (t:TA):TE:=fun σ H Q=>t σ H fun xs H1=>xs.length<=sizeLine/\∀p,H1 p=none->Q (.ref p) (upd H1 p (.tup xs))
def zO1 (t:TA):TE:=fun σ H Q=>t σ H fun xs H1=>xs.length<=sizeLine/\∀p,H1 p=none->Q (.ref p) (upd H1 p (.lst xs))
theorem oK {x1}(h:PA X es t):PE X (.Tuple es x1 pos) (zN6 t):=by
 intro pins s σ H Q I hq;refine wpAny_Tuple_spliced (thn (h pos pins s σ H _ I hq) fun us s1 ⟨xs,H1,I1,r,z,q⟩=>⟨by rw[<-r.length];exact z,?_⟩);have hf:H1 s1.heap.objs.size=none:=I1.hok.fresh (zP3 _);refine⟨.ref s1.heap.objs.size,upd H1 s1.heap.objs.size (.tup xs),I1.laid (t':=s1.toks) (fun b u e=>zO8 _ e) (zP3 _) ?_,rfl,q _ hf⟩;exact⟨z,us,r,⟨_,zP9 _ rfl,rfl,_,rfl⟩⟩
theorem dI (h:PA X es t):PE X (.List es pos) (zO1 t):=by
 intro pins s σ H Q I hq;refine wpAny_List_spliced (thn (h pos pins s σ H _ I hq) fun us s1 ⟨xs,H1,I1,r,z,q⟩=>⟨by rw[<-r.length];exact z,?_⟩);have hf:H1 s1.heap.objs.size=none:=I1.hok.fresh (zP3 _);refine⟨.ref s1.heap.objs.size,upd H1 s1.heap.objs.size (.lst xs),I1.laid (t':=s1.toks) (fun b u e=>zO8 _ e) (zP3 _) ?_,rfl,q _ hf⟩;exact⟨z,us,0,r,zP9 _ rfl⟩
end
abbrev Sp :=List V->Hp->VK->XK->Prop
abbrev CXT :=List Env->Hp->Shared->XK->Value->Shared->Prop
structure tJ (P:Program)(w:World)(K:PySem.W.Frag)(mg:Str->Option Value)(base:Heap)(A:Around)(outer:List Env)(s:Shared)(H:Hp):Prop where
 frames:A.frames=some outer
 mod:Mod K mg base
 bs:∀b o,base.get? b=some o->s.heap.get? b=some o/\H b=none
 bsz:base.objs.size<=s.heap.objs.size
 funs:s.heap.FunFrames base outer
 frf:∀b∈frs outer,H b=none
 hok:HOk P w H s.heap
 bare:AllBare s.gens
def CE (outer:List Env)(P:Program)(w:World)(H:Hp)(s:Shared)(Q:VK)(u:Value)(s':Shared):Prop:=
 ∃v H',s'.os=s.os/\AllBare s'.gens/\Un (frs outer) [] H H' s.heap s'.heap/\HOk P w H' s'.heap/\RelV v u/\Q v H'
def CR (CX:CXT)(outer:List Env)(P:Program)(w:World)(H:Hp)(s:Shared)(Q:VK)(E:XK)(r:Result)(s':Shared):Prop:=
 match r with
 |.ok (.ret u)=>CE outer P w H s Q u s'
 |.ok _=>False
 |.error e=>CX outer H s E e s'
structure zC (P:Program)(w:World)(K:PySem.W.Frag)(mg:Str->Option Value)(base:Heap)(CX:CXT)(k:Nat)(f:Addr)(fd:FuncData)(ps:List Str)(sp:Sp):Prop where
 len:∀vs H Q E,sp vs H Q E->vs.length=ps.length
 run:∀(A:Around) (outer:List Env) (s:Shared) (H:Hp) (args:Args) (us:List Value) (vs:List V) (Q:VK) (E:XK),zV k A->tJ P w K mg base A outer s H->BindsTo s fd args (ps.zip us)->Vals vs us->sp vs H Q E->
  codeAny (model P w) A (.call (.ref f) args) (CR CX outer P w H s Q E) s
theorem zC.imp {P:Program}{w:World}{K:PySem.W.Frag}{mg:Str->Option Value}{base:Heap}{CX:CXT}{k:Nat}{f:Addr}{fd:FuncData}{ps:List Str}{sp sp':Sp}(F:zC P w K mg base CX k f fd ps sp)
  (h:∀vs H Q E,sp' vs H Q E->sp vs H Q E):zC P w K mg base CX k f fd ps sp':=
 ⟨fun vs H Q E q=>F.len vs H Q E (h _ _ _ _ q),fun A outer s H args us vs Q E hr he hb hv hs=>F.run A outer s H args us vs Q E hr he hb hv (h _ _ _ _ hs)⟩
theorem tJ.make {P:Program}{w:World}{K:PySem.W.Frag}{mg:Str->Option Value}{base:Heap}{A:Around}{outer:List Env}{s:Shared}{H:Hp}(e:tJ P w K mg base A outer s H)(C:Addr)(us:List Value)(kw:List (Str×Value)):
  tJ P w K mg base (A.under (.builtin "type.__call__" ⟨.ref C::us,kw⟩)) outer s H:=⟨by first|exact e.frames|(simpa[Around.under,Code.envs,Code.isFrame,pushEnvs] using e.frames),e.mod,e.bs,e.bsz,e.funs,e.frf,e.hok,e.bare⟩
theorem tJ.in1 {P:Program}{w:World}{K:PySem.W.Frag}{mg:Str->Option Value}{base:Heap}{A:Around}{outer:List Env}{s:Shared}{H:Hp}(e:tJ P w K mg base A outer s H):
  tJ P w K mg base A.in1 outer s H:=⟨e.frames,e.mod,e.bs,e.bsz,e.funs,e.frf,e.hok,e.bare⟩
section
variable {X:Cx}{pins:List (Addr×Obj)}{σ:St}{H:Hp}{s s':Shared}
theorem Inv.env0 (I:Inv X pins σ H s):tJ X.prog X.w X.K X.mg X.base X.A X.stack s H:=
 ⟨I.ok.frames,I.ok.mod,I.bs,zT3 I.ok.bsz I.sz,I.stack,I.stkFree,I.hok,I.bare⟩
theorem Inv.after {Q:VK}{u:Value}(I:Inv X pins σ H s)(h:CE X.stack X.prog X.w H s Q u s'):EP X pins σ Q u s':=by
 obtain⟨v,H',os,bare,un,hok,r,q⟩:=h;obtain⟨hh,g,d,t,os'⟩:=s';obtain rfl:os'=s.os:=os;exact⟨v,H',I.call (h':=hh) (g':=g) (d':=d) (t':=t) (ch:=[]) un hok bare (fun b z=>absurd z (by simp)),r,q⟩
end
def zI1 (sp:Sp)(dvs:List V)(E:XK)(t:TA):TE:=fun σ H Q=>t σ H fun vs H1=>sp (vs++dvs) H1 Q E
def zs4 (C:Addr)(m:Str)(sp:Sp)(dvs:List V)(E:XK)(ta:TE)(t:TA):TE:=fun σ H Q=>ta σ H fun x H1=>∃a dx fs,x=.ref a/\H1 a=some (.ins C dx fs)/\fs.lookup m=none/\
 t σ H1 fun vs H2=>sp (x::(vs++dvs)) H2 Q E
def zK0 (C:Addr)(sp:Sp)(dvs:List V)(E:XK)(t:TA):TE:=fun σ H Q=>t σ H fun vs H1=>∀x dx,H1 x=none->H1 dx=none->dx≠x->
 sp (.ref x::(vs++dvs)) (upd (upd H1 dx (.own x)) x (.ins C dx [])) (fun v H2=>v=.non/\Q (.ref x) H2) E
def Binds (K:PySem.W.Frag)(fd:FuncData)(ps:List Str)(ds:List Value):Prop:=
 ∀(s:Shared) (us:List Value),K.In s.heap->(us++ds).length=ps.length->BindsTo s fd ⟨us,[]⟩ (ps.zip (us++ds))
theorem Binds.all {K:PySem.W.Frag}{fd:FuncData}{ps:List Str}(h:∀us:List Value,us.length=ps.length->bindArgs fd ⟨us,[]⟩=pure (ps.zip us)):Binds K fd ps []:=fun s us _ hl=>by
 rw[zV1] at hl ⊢;exact .of_eq (h us hl)
def Passes (CX:CXT)(X:Cx)(E:XK):Prop:=∀(pins:List (Addr×Obj)) (σ:St) (H:Hp) (s:Shared) (e:Value) (s':Shared),Inv X pins σ H s->CX X.stack H s E e s'->X.xe e s'
section
variable {X:Cx}{CX:CXT}{k:Nat}{f C:Addr}{fd:FuncData}{ps:List Str}{sp:Sp}{dvs:List V}{ds:List Value}{E:XK}{x m:Str}{p pos apos:Pos}{e o:Expr}{es:List Expr}{ta:TE}{t:TA}
theorem lL {pins:List (Addr×Obj)}{σ:St}{H:Hp}{s:Shared}{Q:VK}{us:List Value}{vs:List V}(F:zC X.prog X.w X.K X.mg X.base CX k f fd ps sp)(hr:zV k X.A)(hb:Binds X.K fd ps ds)(hd:Vals dvs ds)(hx:Passes CX X E)
  (I:Inv X pins σ H s) (r:Vals vs us) (h:sp (vs++dvs) H Q E):wpAny (model X.prog X.w) X.A (call (.ref f) us) (EP X pins σ Q) X.xe s:=by
 have r2:Vals (vs++dvs) (us++ds):=r.append hd;have hl:(us++ds).length=ps.length:=by rw[<-r2.length];exact F.len _ _ _ _ h
 refine wpAny_call (z51 (F.run X.A X.stack s H ⟨us,[]⟩ (us++ds) (vs++dvs) Q E hr I.env0 (hb s us I.kIn hl) r2 h) fun r s' hq=>?_);cases r with
 |error e=>exact hx pins σ H s e s' I hq
 |ok fl=>
  cases fl with
  |ret u=>exact I.after hq
  |next=>exact False.elim hq
  |brk=>exact False.elim hq
  |cont=>exact False.elim hq
theorem zX (F:zC X.prog X.w X.K X.mg X.base CX k f fd ps sp)(hr:zV k X.A)(hg:Gl X x)(hm:X.mg x=some (.ref f))(hk:PySem.W.keepIn X.K (.ref f)=true)(hb:Binds X.K fd ps ds)(hd:Vals dvs ds)(hx:Passes CX X E)
  (ha:PA X (e::es) t) (hdb:(x == ("__debug__":Str))=false:=by decide) (he:starEach (e::es) X.env=(false,eval e X.env)::starEach es X.env:=by rfl) (hpl:(backTo pos (starEach es X.env)).any (·.1)=false:=by rfl):
  PE X (.Call (.Name x p) (e::es) [] pos) (zI1 sp dvs E t):=by
 intro pins s σ H Q I h;refine zZ7 (sF I hg hm ?_ hdb);refine z65 (h₀:=X.base) I.ok.mod.kin hk (thn (ha pos pins s σ H _ I h) fun us s1 ⟨vs,H1,I1,r,q⟩=>⟨I1.kIn,?_⟩) he hpl;exact lL F hr hb hd hx I1 r q
theorem zm6 {pl:Sem Bool}(he:PE X o ta)(c:Cls X.K C)(hm:Meth X.K C m f)(F:zC X.prog X.w X.K X.mg X.base CX k f fd ps sp)(hr:zV k X.A)(hb:Binds X.K fd ps ds)(hd:Vals dvs ds)(hx:Passes CX X E)(ha:PA X (e::es) t)
  (hst:starEach (e::es) X.env=(false,eval e X.env)::starEach es X.env:=by rfl) (hpl:(backTo pos (starEach es X.env)).any (·.1)=false:=by rfl)
  (ht:eval (.Call (.Attribute o m apos) (e::es) [] pos) X.env=(do
   let ov <-eval o X.env
   standAt apos.atName
   let (f,first) <-holding [ov] (getMethod ov m pl)
   callWith pos f first (backTo pos (starEach (e::es) X.env)) (backToKw pos (keywordEach [] X.env))):=by rfl):
  PE X (.Call (.Attribute o m apos) (e::es) [] pos) (zs4 C m sp dvs E ta t):=by
 intro pins s σ H Q I h;refine z45 (pl:=pl) (thn (he pins s σ H _ I h) fun u s1 ⟨x,H1,I1,rx,a,dx,fs,ex,ea,l,q⟩=>?_) ht;subst ex;obtain rfl:u=Value.ref a:=rx;refine uy I1 ea c hm l ?_;refine z65 (first:=[.ref a]) (h₀:=X.base) I.ok.mod.kin hm.kp (thn (ha pos pins s1 σ H1 _ I1 q) fun us s2 ⟨vs,H2,I2,r,q2⟩=>⟨I2.kIn,?_⟩) hst hpl;exact lL (us:=.ref a::us) (vs:=.ref a::vs) F hr hb hd hx I2 (.cons rfl r) q2
theorem zb0 {pl:Sem Bool}(he:PE X o ta)(c:Cls X.K C)(hm:Meth X.K C m f)(F:zC X.prog X.w X.K X.mg X.base CX k f fd ps sp)(hr:zV k X.A)(hb:Binds X.K fd ps ds)(hd:Vals dvs ds)(hx:Passes CX X E)
  (ht:eval (.Call (.Attribute o m apos) [] [] pos) X.env=(do
   let ov <-eval o X.env
   standAt apos.atName
   let (f,first) <-holding [ov] (getMethod ov m pl)
   callWith pos f first (backTo pos (starEach [] X.env)) (backToKw pos (keywordEach [] X.env))):=by rfl):
  PE X (.Call (.Attribute o m apos) [] [] pos) (zs4 C m sp dvs E ta zF0):=by
 intro pins s σ H Q I h;refine z45 (pl:=pl) (thn (he pins s σ H _ I h) fun u s1 ⟨x,H1,I1,rx,a,dx,fs,ex,ea,l,q⟩=>?_) ht;subst ex;obtain rfl:u=Value.ref a:=rx;refine uy I1 ea c hm l ?_;exact PySem.W.callWith_K0 (first:=[.ref a]) I1.kIn hm.kp (lL (us:=[.ref a]) (vs:=[.ref a]) F hr hb hd hx I1 (.cons rfl .nil) q)
structure Mk (K:PySem.W.Frag)(C f:Addr):Prop where
 makes:PySem.W.makesIn K C=true
 init:PySem.W.findIn K (.ref C) "__init__"=some (some (.ref f))
 fn:PySem.W.isFn K (.ref f)=true
 kp:PySem.W.keepIn K (.ref C)=true
theorem cq {pins:List (Addr×Obj)}{σ:St}{H:Hp}{s:Shared}{Q:VK}{us:List Value}{vs:List V}(M:Mk X.K C f)(F:zC X.prog X.w X.K X.mg X.base CX k f fd ps sp)(hr:zV (k+1) X.A)(hb:Binds X.K fd ps ds)(hd:Vals dvs ds)
  (hx:Passes CX X E) (I:Inv X pins σ H s) (r:Vals vs us)
  (h:∀x dx,H x=none->H dx=none->dx≠x->sp (.ref x::(vs++dvs)) (upd (upd H dx (.own x)) x (.ins C dx [])) (fun v H2=>v=.non/\Q (.ref x) H2) E):
  wpAny (model X.prog X.w) X.A (call (.ref C) us) (EP X pins σ Q) X.xe s:=by
 have hq:=h (s.heap.objs.size+1) s.heap.objs.size (I.hok.fresh (zY1 _)) (I.hok.fresh (zP3 _)) (zQ7 (zZ3 _));have I2:=Inv.made (C:=C) I;have r2:Vals (V.ref (s.heap.objs.size+1)::(vs++dvs)) (Value.ref (s.heap.objs.size+1)::(us++ds)):=.cons rfl (r.append hd);have hl:(Value.ref (s.heap.objs.size+1)::us++ds).length=ps.length:=by
  have e:=r2.length;rw[F.len _ _ _ _ hq] at e;exact e.symm
 refine wpAny_call (cE (f:=f) I.kIn M.makes M.init (beq_iff_eq.mp M.fn) (z51 (F.run _ X.stack _ _ ⟨Value.ref (s.heap.objs.size+1)::us,[]⟩ (Value.ref (s.heap.objs.size+1)::(us++ds)) _ _ E (hr.make C us [])
  (I2.env0.make C us []) (hb _ (Value.ref (s.heap.objs.size+1)::us) I2.kIn hl) r2 hq) fun r s' hq'=>?_))
 cases r with
 |error e=>exact hx pins σ _ _ e s' I2 hq'
 |ok fl=>
  cases fl with
  |ret u=>
   obtain⟨v,H',I3,rv,ev,q3⟩:=I2.after hq';subst ev;exact⟨rv,⟨V.ref (s.heap.objs.size+1),H',I3,rfl,q3⟩⟩
  |next=>exact False.elim hq'
  |brk=>exact False.elim hq'
  |cont=>exact False.elim hq'
theorem wq (M:Mk X.K C f)(F:zC X.prog X.w X.K X.mg X.base CX k f fd ps sp)(hr:zV (k+1) X.A)(hg:Gl X x)(hm:X.mg x=some (.ref C))(hb:Binds X.K fd ps ds)(hd:Vals dvs ds)(hx:Passes CX X E)
  (ha:PA X (e::es) t) (hdb:(x == ("__debug__":Str))=false:=by decide) (he:starEach (e::es) X.env=(false,eval e X.env)::starEach es X.env:=by rfl) (hpl:(backTo pos (starEach es X.env)).any (·.1)=false:=by rfl):
  PE X (.Call (.Name x p) (e::es) [] pos) (zK0 C sp dvs E t):=by
 intro pins s σ H Q I h;refine zZ7 (sF I hg hm ?_ hdb);refine z65 (h₀:=X.base) I.ok.mod.kin M.kp (thn (ha pos pins s σ H _ I h) fun us s1 ⟨vs,H1,I1,r,q⟩=>⟨I1.kIn,?_⟩) he hpl;exact cq M F hr hb hd hx I1 r q
end
section
variable {X:Cx}{CX:CXT}{k:Nat}{f C:Addr}{fd:FuncData}{ps ks:List Str}{sp:Sp}{E:XK}{x m:Str}{p pos apos kpos:Pos}{e o:Expr}{es:List Expr}{kws:List Keyword}{te ta:TE}{t tk:TA}{nm:Option Str}
variable {g:List Value->List Value->List Value}{gV:List V->List V->List V}
end
structure zo (N P:List Str)(sc:Scope):Prop where
 kind:sc.kind=.function
 co:sc.isCoroutine=false
 gen:sc.isGenerator=false
 nd:N.Nodup
 pre:N.take P.length=P
 par:∀x∈P,sc.names.lookup x=some .local\/sc.names.lookup x=some .cell
 nofree:∀y∈sc.names,y.2≠.free
theorem zo.o {N P:List Str}{sc:Scope}(h1:sc.kind=.function:=by rfl)(h2:sc.isCoroutine=false:=by rfl)(h3:sc.isGenerator=false:=by rfl)(h4:N.Nodup:=by decide +kernel)(h5:N.take P.length=P:=by rfl)(h6:∀x∈P,sc.names.lookup x=some .local\/sc.names.lookup x=some .cell:=by decide +kernel)(h7:∀y∈sc.names,y.2≠.free:=by decide +kernel):zo N P sc:=⟨h1,h2,h3,h4,h5,h6,h7⟩
theorem pw {kindOf:Str->Option NameKind}{x:Str}:∀{binds:List (Str×Value)} {m:Str->Option Value},(∀v,(x,v)∉binds)->bindL kindOf binds m x=m x
 |[],_,_=>rfl
 |(n,v)::r,m,h=>by
  unfold bindL;rw[pw fun w hw=>h w (zP5 _ hw)];split
  ·have:x≠n:=by rintro rfl;exact h v zQ1
   simp[this]
  ·rfl
theorem pS {kindOf:Str->Option NameKind}{x:Str}:∀{binds:List (Str×Value)} {m:Str->Option Value},(∀v,(x,v)∉binds)->bindC kindOf binds m x=m x
 |[],_,_=>rfl
 |(n,v)::r,m,h=>by
  unfold bindC;rw[pS fun w hw=>h w (zP5 _ hw)];split
  ·rfl
  ·have:x≠n:=by rintro rfl;exact h v zQ1
   simp[this]
theorem pC {kindOf:Str->Option NameKind}{x:Str}{v:Value}:∀{P:List Str} {vs:List Value} {i:Nat} {m:Str->Option Value},P.Nodup->P[i]?=some x->vs[i]?=some v->kindOf x=some .local->
  bindL kindOf (P.zip vs) m x=some v
 |[],_,_,_,_,h,_,_=>by simp at h
 |_::_,[],_,_,_,_,h,_=>by simp at h
 |p::P,w::vs,0,m,nd,h1,h2,hk=>by
  simp at h1 h2;subst h1;subst h2;show bindL kindOf ((p,w)::P.zip vs) m p=_;unfold bindL;rw[pw fun v hv=>(z52.mp nd).1 (List.of_mem_zip hv).1,if_pos hk];simp
 |p::P,w::vs,i+1,m,nd,h1,h2,hk=>by
  show bindL kindOf ((p,w)::P.zip vs) m x=_;unfold bindL;exact pC (i:=i) (z52.mp nd).2 (by simpa using h1) (by simpa using h2) hk
theorem pE {kindOf:Str->Option NameKind}{x:Str}{v:Value}:∀{P:List Str} {vs:List Value} {i:Nat} {m:Str->Option Value},P.Nodup->P[i]?=some x->vs[i]?=some v->kindOf x≠some .local->
  bindC kindOf (P.zip vs) m x=some v
 |[],_,_,_,_,h,_,_=>by simp at h
 |_::_,[],_,_,_,_,h,_=>by simp at h
 |p::P,w::vs,0,m,nd,h1,h2,hk=>by
  simp at h1 h2;subst h1;subst h2;show bindC kindOf ((p,w)::P.zip vs) m p=_;unfold bindC;rw[pS fun v hv=>(z52.mp nd).1 (List.of_mem_zip hv).1,if_neg hk];simp
 |p::P,w::vs,i+1,m,nd,h1,h2,hk=>by
  show bindC kindOf ((p,w)::P.zip vs) m x=_;unfold bindC;exact pE (i:=i) (z52.mp nd).2 (by simpa using h1) (by simpa using h2) hk
def start (N:List Str)(vs:List V):St:=vs.map some++List.replicate (N.length-vs.length) none
def ui (CX:CXT)(P:Program)(w:World)(K:PySem.W.Frag)(mg:Str->Option Value)(base:Heap)(N:List Str)(qual:Str)(scope:Scope)(f:Addr)(cd:Value)(A:Around)(outer:List Env)(s:Shared)(H:Hp)(E:XK):Cx where
 prog:=P
 w:=w
 K:=K
 mg:=mg
 base:=base
 A:=A.deeper (envOfC qual scope s.heap.objs.size f cd)
 N:=N
 s₀:=s
 H₀:=H
 env:=envOfC qual scope s.heap.objs.size f cd
 outer:=outer
 stack:=envOfC qual scope s.heap.objs.size f cd::outer
 ex:=[]
 calm:=true
 fn:=fun _=>true
 pn:=[]
 xe:=fun e s'=>wpAny (model P w) (A.deeper (envOfC qual scope s.heap.objs.size f cd)) (leaving (envOfC qual scope s.heap.objs.size f cd) e) (fun _ s''=>CX outer H s E e s'') (fun e' s''=>CX outer H s E e' s'') s'
theorem mC {sc:Scope}{n:Nat}{x:Str}(h:sc.names.lookup x=some .cell):∃c,(cellsFrom n sc.names []).lookup x=some c:=by
 have q:=PySem.W.cellsFrom_some sc.names n [] (.inl h);exact Option.isSome_iff_exists.mp q
theorem gH {CX:CXT}{P:Program}{w:World}{K:PySem.W.Frag}{mg:Str->Option Value}{base:Heap}{N ps:List Str}{qual:Str}{scope:Scope}{f:Addr}{cd:Value}{A:Around}{outer:List Env}{s s1:Shared}{H:Hp}{E:XK}{us:List Value}{vs:List V}
  (S:zo N ps scope) (hd:A.handled=none) (e0:tJ P w K mg base A outer s H) (hl:vs.length=ps.length) (r:Vals vs us)
  (x:InCallC s s.heap.objs.size (bindL (envOfC qual scope s.heap.objs.size f cd).kindOf (ps.zip us) fun _=>none) (cellsFrom (s.heap.objs.size+1) scope.names []) (bindC (envOfC qual scope s.heap.objs.size f cd).kindOf (ps.zip us) fun _=>none) s1):
  Inv (ui CX P w K mg base N qual scope f cd A outer s H E) [] (start N vs) H s1:=by
 have hpl:ps.length<=N.length:=by have:=congrArg List.length S.pre;rw[zS0] at this;omega
 obtain⟨h1,tk,rfl,hk⟩:=x.done;have noA:∀b:Addr,b∉(ui CX P w K mg base N qual scope f cd A outer s H E).ex:=fun b z=>absurd (show b∈([]:List Addr) from z) (by simp);refine⟨⟨e0.mod,S.kind,rfl,rfl,zP3 _,fun y z c h1 h2=>?_,fun y hy=>?_,fun y c _ h=>?_,fun _=>hd,Around.frames_deeper e0.frames,.inr ⟨rfl,rfl⟩,fun b z=>absurd z (noA b),e0.bs,e0.bsz,fun b _ _=>noA b,fun b z=>absurd z (noA b),e0.funs,e0.frf⟩,
  rfl,e0.bare,Un.kept hk,⟨_,x.toInCall.ns,fun i y v h1 h2 h3=>?_⟩,fun y c h=>⟨_,x.cell y c h⟩,e0.hok.fresh (zP3 _),fun y c h=>?_,fun p hp=>absurd (show p∈([]:List (Addr×Obj)) from hp) (by simp),e0.hok.kept hk,?_⟩
 ·exact name_of_addr x.apart (zU0 h1) (zU0 h2)
 ·have hy:scope.names.lookup y=some .cell\/scope.names.lookup y=some .free:=hy;rcases hy with hy|hy
  ·exact mC hy
  ·exact absurd rfl (S.nofree _ (zU0 hy))
 ·exact zW0 (x.above y c (zU0 h))
 ·have hi:i<vs.length:=by
   unfold start at h2;by_cases hi:i<vs.length
   ·exact hi
   ·rw[zY6 (by simpa using hi)] at h2;rw[zX6] at h2;split at h2<;>cases h2
  have ha:vs[i]?=some v:=by
   unfold start at h2;rw[zV6 (by simpa using hi),zQ2] at h2;cases e:vs[i]? with
   |none=>rw[e] at h2;cases h2
   |some a=>rw[e] at h2;cases h2;rfl
  obtain⟨u,hu,rv⟩:=r.get ha;have hp:ps[i]?=some y:=by rw[<-S.pre,z30 (by omega)];exact h1
  have ndP:ps.Nodup:=by rw[<-S.pre];exact S.nd.sublist (List.take_sublist _ _)
  refine⟨u,rv,?_⟩;rcases S.par y (zT2 hp) with k|k
  ·exact .inl ⟨k,pC ndP hp hu k⟩
  ·obtain⟨c,e⟩:=mC (n:=s.heap.objs.size+1) k;refine .inr ⟨.inl k,c,e,?_⟩;have q:=x.cell y c e;rw[pE ndP hp hu (by show scope.names.lookup y≠_;rw[k];decide)] at q;exact q
 ·exact e0.hok.fresh (zW0 (x.above y c (zU0 h)))
 ·unfold start;show _=N.length;rw[zQ6,zO6,List.length_replicate];omega
theorem dr {CX:CXT}{P:Program}{w:World}{K:PySem.W.Frag}{mg:Str->Option Value}{base:Heap}{k:Nat}{f:Addr}{name qual:Str}{params:Arguments}{body:List Stmt}{scope:Scope}{dV kV doc pm cdv ct oc:Value}{an od:Option Addr}
  {osl:Array (Option Value)} {N ps:List Str} {sp:Sp} (lk:K.lookup f=some ⟨oc,od,.func (PySem.W.fnOf name qual params body scope dV kV doc pm an cdv ct),osl⟩) (hcd:PySem.W.codeIn K cdv qual=true) (S:zo N ps scope)
  (len:∀vs H Q E,sp vs H Q E->vs.length=ps.length)
  (hbody:∀(A:Around) (outer:List Env) (s:Shared) (H:Hp) (vs:List V) (Q:VK) (E:XK),zV k (A.deeper (envOfC qual scope s.heap.objs.size f cdv))->sp vs H Q E->
   ∃t,PSs (ui CX P w K mg base N qual scope f cdv A outer s H E) body t/\t {nx:=fun _ H'=>Q .non H',rt:=Q} (start N vs) H):
  zC P w K mg base CX (k+1) f (PySem.W.fnOf name qual params body scope dV kV doc pm an cdv ct) ps sp:=by
 refine⟨len,fun A outer s H args us vs Q E hr e0 hb r hsp=>?_⟩;have hl:=len _ _ _ _ hsp;have KX:K.In s.heap:=e0.mod.kin.keeps fun b o e=>(e0.bs b o e).1;have lim:s.heap.NoLimit:=e0.mod.nolimit.keeps fun b o e=>(e0.bs b o e).1;have hkind:∀y∈ps.zip us,scope.names.lookup y.1=some .local\/(scope.names.lookup y.1=some .cell/\((cellsFrom (s.heap.objs.size+1) scope.names []).lookup y.1).isSome=true):=fun⟨n,v⟩ hy=>by
  rcases S.par n (List.of_mem_zip hy).1 with q|q
  ·exact .inl q
  ·exact .inr ⟨q,PySem.W.cellsFrom_some _ _ _ (.inl q)⟩
 refine codeAny_call_function hr.depth (KX _ _ lk) rfl S.co S.gen rfl (PySem.W.codeRec_of KX hcd) (hb _ _ _ _ ?_);refine wpAny_newFunctionEnv_cells S.kind hkind fun env he s1 x=>?_;subst he;refine⟨lim.keeps x.toInCall.keep,codeAny_func ?_⟩;obtain⟨t,ht,hq⟩:=hbody A outer s H vs Q E (hr.deeper _) hsp;have I:Inv (ui CX P w K mg base N qual scope f cdv A outer s H E) [] (start N vs) H s1:=gH S hr.hd e0 hl r x;refine zT6 (ht [] s1 (start N vs) H _ I hq) (fun fl s' hs=>?_) fun e s' hs=>hs;have fin:∀{σ':St} {H':Hp} {v:V} {u:Value},Inv (ui CX P w K mg base N qual scope f cdv A outer s H E) [] σ' H' s'->RelV v u->Q v H'->CE outer P w H s Q u s':=
  fun {σ' H' v u} J rv q=>⟨v,H',J.os,J.bare,J.base,J.hok,rv,q⟩
 cases fl with
 |ret u=>
  obtain⟨v,σ',H',J,rv,q⟩:=hs;exact fin J rv q
 |next=>
  obtain⟨σ',H',J,q⟩:=hs;exact fin (v:=V.non) (u:=Value.none) J rfl q
 |brk=>
  obtain⟨_,_,_,q⟩:=hs;exact False.elim q
 |cont=>
  obtain⟨_,_,_,q⟩:=hs;exact False.elim q
section
variable {X:Cx}{x:Str}{p pos:Pos}{e:Expr}{es:List Expr}{t:TA}{id T:String}{r:List V->Hp->VK->Prop}
def tCB (r:List V->Hp->VK->Prop)(t:TA):TE:=fun σ H Q=>t σ H fun vs H1=>r vs H1 Q
theorem yi (hc:xj X (.builtin id) r)(hg:Gl X x)(hm:X.mg x=none)(hv:bootBuiltins x=some (.builtin id))(ha:PA X (e::es) t)(hn:x≠"__name__":=by decide)(hdb:(x == ("__debug__":Str))=false:=by decide)
  (he:starEach (e::es) X.env=(false,eval e X.env)::starEach es X.env:=by rfl) (hpl:(backTo pos (starEach es X.env)).any (·.1)=false:=by rfl):PE X (.Call (.Name x p) (e::es) [] pos) (tCB r t):=by
 intro pins s σ H Q I h;refine zZ7 (xq I hg hm hv ?_ hn hdb);exact PyProof.Rows.callWith_builtin1 (thn (ha pos pins s σ H _ I h) fun us s1 ⟨vs,H1,I1,r1,q1⟩=>hc pins s1 σ H1 vs us Q I1 r1 q1) he hpl
theorem xu (hc:xj X (.type T) r)(hg:Gl X x)(hm:X.mg x=none)(hv:bootBuiltins x=some (.type T))(ha:PA X (e::es) t)(hn:x≠"__name__":=by decide)(hdb:(x == ("__debug__":Str))=false:=by decide)
  (he:starEach (e::es) X.env=(false,eval e X.env)::starEach es X.env:=by rfl) (hpl:(backTo pos (starEach es X.env)).any (·.1)=false:=by rfl):PE X (.Call (.Name x p) (e::es) [] pos) (tCB r t):=by
 intro pins s σ H Q I h;refine zZ7 (xq I hg hm hv ?_ hn hdb);exact zS5 (thn (ha pos pins s σ H _ I h) fun us s1 ⟨vs,H1,I1,r1,q1⟩=>hc pins s1 σ H1 vs us Q I1 r1 q1) he hpl
end
end L2
namespace HT
open PySem PyProof.Rows
section
open PySem.SeqAt
open PySem.AutoSeq1 (wpAny_loadPart')
open PySem.MeetsSeq PySem.MeetsSeq2 PySem.MeetsSeq3
end
section
variable {prog:Program}{w:World}{A:Around}{E:Value->Shared->Prop}{s:Shared}
def sIx (n d:Nat):Option Int->Nat
 |none=>d
 |some v=>if v<0 then (v+(n:Int)).toNat else min v.toNat n
theorem lH (n d:Nat):sIx n d none=d:=rfl
theorem zf5 (n d k:Nat):sIx n d (some (k:Int))=min k n:=by
 show (if (k:Int)<0 then ((k:Int)+(n:Int)).toNat else min (k:Int).toNat n)=min k n;rw[if_neg (by omega),zU2]
end
end HT
namespace L2
open PySem PySem.Spec PyProof.Rows
abbrev TO :=St->Hp->(Option Int->Hp->Prop)->Prop
def PO (X:Cx)(e:Option Expr)(t:TO):Prop:=
 ∀(pins:List (Addr×Obj)) (s:Shared) (σ:St) (H:Hp) (Q:Option Int->Hp->Prop),Inv X pins σ H s->t σ H Q->
  wpAny (model X.prog X.w) X.A (evalPart e X.env) (fun u s'=>∃o H',Inv X pins σ H' s'/\IsPart u o/\Q o H') X.xe s
def zf8 :TO:=fun _ H Q=>Q none H
def zI9 (t:TE):TO:=fun σ H Q=>t σ H fun x H1=>∃i,x=.int i/\Q (some i) H1
section
variable {X:Cx}{e:Expr}{te:TE}{lo hi:Option Expr}{tl th:TO}{pos p2:Pos}
theorem pZ :PO X none zf8:=by
 intro pins s σ H Q I h;rw[evalPart_none];exact zP8 ⟨none,H,I,.none,h⟩
theorem sQ (h:PE X e te):PO X (some e) (zI9 te):=by
 intro pins s σ H Q I hw;rw[evalPart_some];refine thn (h pins s σ H _ I hw) fun u s1 ⟨x,H1,I1,r1,q1⟩=>?_;obtain⟨i,rfl,q⟩:=q1;obtain⟨t,rfl⟩:=r1;exact⟨some i,H1,I1,.int i t,q⟩
def SlR (X:Cx)(r:V->Option Int->Option Int->Hp->VK->Prop):Prop:=
 ∀(pins:List (Addr×Obj)) (s:Shared) (σ:St) (H:Hp) (x:V) (v vl vu:Value) (lo hi:Option Int) (sl:Addr) (Q:VK),Inv X pins σ H s->RelV x v->s.heap.IsSliceOf sl vl vu .none->IsPart vl lo->IsPart vu hi->r x lo hi H Q->
  ∃T id,typeLookup (.type T) "__getitem__"=pure (some (.builtin id))/\s.TypeIs v T/\wpAny (model X.prog X.w) X.A (getItem v (.ref sl)) (EP X pins σ Q) X.xe s
def tSl (r:V->Option Int->Option Int->Hp->VK->Prop)(te:TE)(tl th:TO):TE:=fun σ H Q=>te σ H fun x H1=>tl σ H1 fun l H2=>th σ H2 fun u H3=>r x l u H3 Q
theorem rz {r:V->Option Int->Option Int->Hp->VK->Prop}(hr:SlR X r)(he:PE X e te)(hl:PO X lo tl)(hu:PO X hi th):PE X (.Subscript e (.Slice lo hi none p2) pos) (tSl r te tl th):=by
 intro pins s σ H Q I h;refine Subscript_ (thn (he pins s σ H _ I h) fun v s1 ⟨x,H1,I1,r1,q1⟩=>?_);refine wpAny_Slice (thn (hl pins s1 σ H1 _ I1 q1) fun vl s2 ⟨l,H2,I2,pl,q2⟩=>thn (hu pins s2 σ H2 _ I2 q2) fun vu s3 ⟨u,H3,I3,pu,q3⟩=>?_);rw[evalPart_none];refine zP8 ?_;have I4:Inv X pins σ H3 {s3 with heap:=s3.heap.push {cls:=.type "slice",data:=.fields #[vl,vu,.none]}}:=I3.kept (t':=s3.toks) fun b ob q=>zO8 _ q;obtain⟨T,id,hT,ht,hg⟩:=hr pins {s3 with heap:=s3.heap.push {cls:=.type "slice",data:=.fields #[vl,vu,.none]}} σ H3 x v vl vu l u s3.heap.objs.size Q I4 r1 (Heap.IsSliceOf.new ..) pl pu q3;show wpAny (model X.prog X.w) X.A (subscriptTail e (.Slice lo hi none p2) v (.ref s3.heap.objs.size)) (EP X pins σ Q) X.xe {s3 with heap:=s3.heap.push {cls:=.type "slice",data:=.fields #[vl,vu,.none]}};exact tail_any (ops:=[.ref s3.heap.objs.size,v]) ht hT hg (by with_unfolding_all rfl)
def mQ (xs:List V)(lo hi:Option Int):List V:=(xs.drop (HT.sIx xs.length 0 lo)).take (HT.sIx xs.length xs.length hi-HT.sIx xs.length 0 lo)
theorem nR (xs:List V)(lo hi:Option Int):(mQ xs lo hi).length<=xs.length:=by
 unfold mQ;rw[zS0,zW1];omega
end
def ixN (n:Nat)(i:Int):Option Nat:=if 0<=i then (if i<n then some i.toNat else none) else if -(n:Int)<=i then some (i+n).toNat else none
def atI {α:Type}(xs:List α)(i:Int):Option α:=(ixN xs.length i).bind fun j=>xs[j]?
theorem nB {n:Nat}{i:Int}{j:Nat}(h:ixN n i=some j):seqIndex? i n=some j/\j<n/\-(n:Int)<=i/\i<n:=by
 unfold ixN at h;by_cases h0:0<=i
 ·rw[if_pos h0] at h;by_cases h1:i<n
  ·rw[if_pos h1] at h;have e:i.toNat=j:=zR7 h;exact⟨by rw[seqIndex_of h0 h1,e],by omega,by omega,h1⟩
  ·rw[if_neg h1] at h;cases h
 ·rw[if_neg h0] at h;by_cases h1:-(n:Int)<=i
  ·rw[if_pos h1] at h;have e:(i+n).toNat=j:=zR7 h;exact⟨by rw[seqIndex_neg (by omega) h1,e],by omega,h1,by omega⟩
  ·rw[if_neg h1] at h;cases h
theorem oX {α:Type}{xs:List α}{i:Int}{v:α}(h:atI xs i=some v):∃j,seqIndex? i xs.length=some j/\xs[j]?=some v/\j<xs.length/\-(xs.length:Int)<=i/\i<xs.length:=by
 unfold atI at h;cases e:ixN xs.length i with
 |none=>rw[e] at h;cases h
 |some j=>
  rw[e] at h;obtain⟨h1,h2,h3,h4⟩:=nB e;exact⟨j,h1,h,h2,h3,h4⟩
theorem xA {α:Type}{xs:List α}{j:Nat}{v:α}(h:xs[j]?=some v):atI xs (j:Int)=some v:=by
 have hj:j<xs.length:=(zP1.mp h).1;have e:ixN xs.length (j:Int)=some j:=by
  unfold ixN;rw[if_pos (by omega),if_pos (by omega)];simp
 unfold atI;rw[e];exact h
def sY (b:Expr):Prop:=∀o i,subscripted b false o i=operate [o,i] (getItem o i)
def IxR (X:Cx)(r:R2):Prop:=
 ∀(value slice:Expr) (pins:List (Addr×Obj)) (s:Shared) (σ:St) (H:Hp) (x y:V) (v u:Value) (Q:VK),Inv X pins σ H s->RelV x v->RelV y u->r x y H Q->
  subscripted slice false v u=operate [v,u] (getItem v u)->wpAny (model X.prog X.w) X.A (subscriptTail value slice v u) (EP X pins σ Q) X.xe s
def MtR (X:Cx)(id:String)(r:V->List V->Hp->VK->Prop):Prop:=
 ∀(pins:List (Addr×Obj)) (s:Shared) (σ:St) (H:Hp) (x:V) (xs:List V) (v:Value) (us:List Value) (Q:VK),Inv X pins σ H s->RelV x v->Vals xs us->r x xs H Q->
  wpAny (model X.prog X.w) X.A (call (.builtin id) (v::us)) (EP X pins σ Q) X.xe s
section
variable {X:Cx}{a b:Expr}{ta tb:TE}{pos:Pos}
theorem IxR.or {r r':R2}(h:IxR X r)(h':IxR X r'):IxR X (fun x y H Q=>r x y H Q\/r' x y H Q):=by
 intro value slice pins s σ H x y v u Q I rx ry q hs;rcases q with q|q
 ·exact h value slice pins s σ H x y v u Q I rx ry q hs
 ·exact h' value slice pins s σ H x y v u Q I rx ry q hs
theorem zS {r:R2}(hr:IxR X r)(ha:PE X a ta)(hb:PE X b tb)(hs:sY b):PE X (.Subscript a b pos) (tOp r ta tb):=by
 intro pins s σ H Q I h;exact Subscript_ (zD3 ha hb I h fun v u s2 x y H2 I2 rx ry q=>hr a b pins s2 σ H2 x y v u Q I2 rx ry q (hs _ _))
def zC2 (K:PySem.W.Frag):R2:=fun x y H Q=>∃p xs i v,x=.ref p/\y=.int i/\SqL K H p xs/\atI xs i=some v/\Q v H
def zC3 (K:PySem.W.Frag):R2:=fun x y H Q=>∃p xs i v,x=.ref p/\y=.int i/\SqT K H p xs/\atI xs i=some v/\Q v H
def zL0 :R2:=fun x y H Q=>∃z i c,x=.str z/\y=.int i/\z.length<=sizeLine/\atI z.cps.toList i=some c/\Q (.str ⟨#[c]⟩) H
theorem zW :IxR X (zC2 X.K):=by
 intro value slice pins s σ H x y v u Q I rx ry h hs;obtain⟨p,xs,i,z,rfl,rfl,hq,he,q⟩:=h;cases rx;obtain⟨t,rfl⟩:=ry;obtain⟨its,r,pl,hz⟩:=I.list hq;obtain⟨j,h1,h2,h3,h4,h5⟩:=oX he;obtain⟨w,ew,rw'⟩:=r.get h2;have hl:=r.length;have hn:=tK;have fin:EP X pins σ Q w s:=⟨z,H,I,rw',q⟩;by_cases h0:0<=i
 ·have hj:i.toNat=j:=by
   rw[seqIndex_of h0 h5] at h1;exact zR7 h1
  exact item_listR pl.isList h0 (by omega) (by rw[hj];simpa using ew) fin hs
 ·have hj:(i+(its.toArray.size:Int)).toNat=j:=by
   rw[seqIndex_neg (by omega) h4] at h1;rw[zQ0,<-hl];exact zR7 h1
  exact subscriptTail_builtinR (x:=w) pl.isList.typeIs slot_list_getitem.lookup
   (wpAny_getItem_list_neg (Q:=fun r s'=>r=w/\EP X pins σ Q r s') pl.isList (by omega) (by rw[zQ0]<;>omega) (by omega) (by rw[hj];simpa using ew) ⟨rfl,fin⟩) hs
theorem yI :IxR X (zC3 X.K):=by
 intro value slice pins s σ H x y v u Q I rx ry h hs;obtain⟨p,xs,i,z,rfl,rfl,hq,he,q⟩:=h;cases rx;obtain⟨t,rfl⟩:=ry;obtain⟨its,r,pl,hz⟩:=I.tuple hq;obtain⟨j,h1,h2,h3,h4,h5⟩:=oX he;obtain⟨w,ew,rw'⟩:=r.get h2;have hl:=r.length;have hn:=tK;have fin:EP X pins σ Q w s:=⟨z,H,I,rw',q⟩;exact subscriptTail_builtinR (x:=w) pl.typeIs slot_tuple_getitem.lookup
  (getItem_tuple (j:=j) (Q:=fun r s'=>r=w/\EP X pins σ Q r s') pl (by omega) (by omega) (by rw[zQ0,<-hl];exact h1) (by simpa using ew) ⟨rfl,fin⟩) hs
theorem zA8 :IxR X zL0:=by
 intro value slice pins s σ H x y v u Q I rx ry h hs;obtain⟨z,i,c,rfl,rfl,hz,he,q⟩:=h;obtain⟨t,rfl⟩:=rx;obtain⟨t',rfl⟩:=ry;obtain⟨j,h1,h2,h3,h4,h5⟩:=oX he;have hl:z.cps.toList.length=z.length:=by simp[Str.length]
 rw[hl] at h1 h4 h5;have hn:=tK;exact tail_any (typeIs_str s z t) slot_str_getitem.lookup (getItem_str (c:=c) (by
  have e1:decide (i < -(2 ^ 63:Int))=false:=zR5 (by omega);have e2:decide (i≥2 ^ 63)=false:=zR5 (by omega);rw[e1,e2,z08]) (by rw[h1];simpa using h2) ⟨.str ⟨#[c]⟩,H,I.tok _,⟨_,rfl⟩,q⟩) hs
def rIx (K:PySem.W.Frag):R2:=fun x y H Q=>zC2 K x y H Q\/zC3 K x y H Q\/zL0 x y H Q
theorem zw2 :IxR X (rIx X.K):=zW.or (yI.or zA8)
theorem jd (its:List Value)(n j:Nat)(u:Value):Obj.mapSeq (·.setIfInBounds j u) {cls:=.type "list",data:=.seq its.toArray n}={cls:=.type "list",data:=.seq (its.set j u).toArray n}:=by simp[Obj.mapSeq]
theorem Inv.lst {pins:List (Addr×Obj)}{σ:St}{H:Hp}{s:Shared}{p:Addr}{xs:List V}(I:Inv X pins σ H s)(h:H p=some (.lst xs)):
  ∃(its:List Value) (n:Nat),Vals xs its/\s.heap.get? p=some {cls:=.type "list",data:=.seq its.toArray n}/\xs.length<=sizeLine:=by
 obtain⟨z,its,n,r,e⟩:=I.hok p _ h;exact⟨its,n,r,e,z⟩
theorem Inv.lstUpd {pins:List (Addr×Obj)}{σ:St}{H:Hp}{s:Shared}{p:Addr}{xs ys:List V}{its its':List Value}{n n':Nat}{f:Obj->Obj}(I:Inv X pins σ H s)(h:H p=some (.lst xs))
  (ho:s.heap.get? p=some {cls:=.type "list",data:=.seq its.toArray n}) (hf:f {cls:=.type "list",data:=.seq its.toArray n}={cls:=.type "list",data:=.seq its'.toArray n'}) (r:Vals ys its') (hz:ys.length<=sizeLine) (t:Nat):
  Inv X pins σ (upd H p (.lst ys)) {s with heap:=s.heap.update p f,toks:=t}:=by
 have e:(s.heap.update p f).get? p=some {cls:=.type "list",data:=.seq its'.toArray n'}:=by rw[z02 f ho (by rw[hf]<;>rfl),hf]
 refine I.write (x:=p) (e:=p) (by rw[h];trivial) (.inl rfl) (fun b u hb q=>(zR2 _ _ (zS2 hb)).trans q) ⟨_,e⟩ ?_;exact⟨hz,its',n',r,e⟩
def zs0 :V->V->V->Hp->(Hp->Prop)->Prop:=fun o i v H Q=>∃p xs k j,o=.ref p/\i=.int k/\H p=some (.lst xs)/\ixN xs.length k=some j/\Q (upd H p (.lst (xs.set j v)))
theorem set_list :zL2 X zs0:=by
 intro pins s σ H o i v ov iv u Q I ro ri rv h;obtain⟨p,xs,k,j,rfl,rfl,hp,hj,q⟩:=h;cases ro;obtain⟨t,rfl⟩:=ri;obtain⟨its,n,r,ho,hz⟩:=I.lst hp;obtain⟨h1,h2,h3,h4⟩:=nB hj;have hl:=r.length;have hn:=tK;have I':Inv X pins σ (upd H p (.lst (xs.set j v))) {s with heap:=s.heap.update p (Obj.mapSeq (·.setIfInBounds j u))}:=
  I.lstUpd hp ho (jd its n j u) (r.set rv j) (by rw[zV2];exact hz) s.toks
 by_cases h0:0<=k
 ·have hk:k.toNat=j:=by
   rw[seqIndex_of h0 h4] at h1;exact zR7 h1
  exact PySem.W.ki_setAt ho h0 (by omega) (by rw[zQ0,<-hl];exact h4) (by rw[hk];exact⟨_,I',q⟩)
 ·have hk:(k+(its.toArray.size:Int)).toNat=j:=by
   rw[seqIndex_neg (by omega) h3] at h1;rw[zQ0,<-hl];exact zR7 h1
  exact PySem.W.ki_setBack ho (by omega) (by rw[zQ0,<-hl];exact h3) (by omega) (by rw[hk];exact⟨_,I',q⟩)
theorem oA (lo hi:Option Int)(n:Nat):(sliceBounds lo hi none n).1=((HT.sIx n 0 lo:Nat):Int)/\(sliceBounds lo hi none n).2.1=((HT.sIx n n hi:Nat):Int)/\(sliceBounds lo hi none n).2.2=1:=by
 refine⟨?_,?_,rfl⟩
 ·cases lo with
  |none=>simp[sliceBounds,HT.sIx]
  |some i=>
   simp only[sliceBounds,HT.sIx,Option.getD_none,show (1:Int) > 0 by decide,zZ6];by_cases h:i<0
   ·simp only[h,zZ6]<;>omega
   ·simp only[h,zW3]<;>omega
 ·cases hi with
  |none=>simp[sliceBounds,HT.sIx]
  |some i=>
   simp only[sliceBounds,HT.sIx,Option.getD_none,show (1:Int) > 0 by decide,zZ6];by_cases h:i<0
   ·simp only[h,zZ6]<;>omega
   ·simp only[h,zW3]<;>omega
theorem qN (its:List Value)(lo hi:Option Int):slicePick its.toArray lo hi none=((its.drop (HT.sIx its.length 0 lo)).take (HT.sIx its.length its.length hi-HT.sIx its.length 0 lo)).toArray:=by
 obtain⟨h1,h2,h3⟩:=oA lo hi its.toArray.size;unfold slicePick;rw[h1,h2,h3];simp only[sliceRange_one,pick_run,zQ0]<;>rfl
def zN4 (K:PySem.W.Frag):V->Option Int->Option Int->Hp->VK->Prop:=fun x lo hi H Q=>∃a xs,x=.ref a/\SqL K H a xs/\∀p,H p=none->Q (.ref p) (upd H p (.lst (mQ xs lo hi)))
theorem oT :SlR X (zN4 X.K):=by
 intro pins s σ H x v vl vu lo hi sl Q I rx hs pl pu h;obtain⟨a,xs,rfl,hx,q⟩:=h;cases rx;obtain⟨its,r,ht,hz⟩:=I.list hx;have hlen:=r.length;refine⟨"list",_,slot_list_getitem.lookup,ht.isList.typeIs,?_⟩;refine wpAny_getItem_list_slice ht.isList hs pl pu .none (by simp) ?_ (by rw[zQ0]<;>omega);rw[qN,<-hlen];refine⟨.ref s.heap.objs.size,_,I.laid (t':=s.toks) (o:=.lst (mQ xs lo hi)) (fun b ob q=>zO8 _ q) (zP3 _) ?_,rfl,q _ (I.hok.fresh (zP3 _))⟩;exact⟨zT3 (nR xs lo hi) hz,_,0,(r.drop (HT.sIx xs.length 0 lo)).take (HT.sIx xs.length xs.length hi-HT.sIx xs.length 0 lo),zP9 _ rfl⟩
def su :V->Bool
 |.non=>true
 |.bl _=>true
 |.int _=>true
 |.str _=>true
 |_=>false
def eqV :V->V->Bool
 |.non,.non=>true
 |.bl a,.bl b=>a == b
 |.bl a,.int b=>(if a then 1 else 0)==b
 |.int a,.bl b=>a == (if b then 1 else 0)
 |.int a,.int b=>a == b
 |.str a,.str b=>a == b
 |_,_=>false
theorem zu0 {A:Around}{s:Shared}{y x:V}{u v:Value}(ry:RelV y u)(rx:RelV x v)(fy:su y=true)(fx:su x=true):SeqAt.EqAt A s u v (eqV y x):=by
 cases y with
 |non=>
  cases ry;cases x with
  |non=>cases rx;exact SeqAt.EqAt.same _
  |bl b=>cases rx;exact SeqAt.EqAt.none_bool b
  |int b=>obtain⟨t,rfl⟩:=rx;exact SeqAt.EqAt.none_int b t
  |str b=>obtain⟨t,rfl⟩:=rx;exact SeqAt.EqAt.none_str b t
  |_=>exact absurd (show false=true from fx) zQ5
 |bl a=>
  cases ry;cases x with
  |non=>cases rx;exact SeqAt.EqAt.bool_none a
  |bl b=>cases rx;exact SeqAt.EqAt.bool_bool a b
  |int b=>obtain⟨t,rfl⟩:=rx;exact SeqAt.EqAt.bool_int a b t
  |str b=>obtain⟨t,rfl⟩:=rx;exact SeqAt.EqAt.bool_str a b t
  |_=>exact absurd (show false=true from fx) zQ5
 |int a=>
  obtain⟨t',rfl⟩:=ry;cases x with
  |non=>cases rx;exact SeqAt.EqAt.int_none a t'
  |bl b=>cases rx;exact SeqAt.EqAt.int_bool a t' b
  |int b=>obtain⟨t,rfl⟩:=rx;exact SeqAt.EqAt.int_int a t' b t
  |str b=>obtain⟨t,rfl⟩:=rx;exact SeqAt.EqAt.int_str a t' b t
  |_=>exact absurd (show false=true from fx) zQ5
 |str a=>
  obtain⟨t',rfl⟩:=ry;cases x with
  |non=>cases rx;exact SeqAt.EqAt.str_none a t'
  |bl b=>cases rx;exact SeqAt.EqAt.str_bool a t' b
  |int b=>obtain⟨t,rfl⟩:=rx;exact SeqAt.EqAt.str_int a t' b t
  |str b=>obtain⟨t,rfl⟩:=rx;exact SeqAt.EqAt.str_str a t' b t
  |_=>exact absurd (show false=true from fx) zQ5
 |_=>exact absurd (show false=true from fy) zQ5
def eqU (x:V)(u:Value):Bool:=match u with
 |.none=>eqV .non x
 |.bool b=>eqV (.bl b) x
 |.int i _=>eqV (.int i) x
 |.str z _=>eqV (.str z) x
 |_=>false
theorem cG {x y:V}{u:Value}(r:RelV y u)(f:su y=true):eqU x u=eqV y x:=by
 cases y with
 |non=>cases r;rfl
 |bl b=>cases r;rfl
 |int i=>obtain⟨t,rfl⟩:=r;rfl
 |str z=>obtain⟨t,rfl⟩:=r;rfl
 |_=>exact absurd (show false=true from f) zQ5
theorem uR {x:V}:∀{xs:List V} {us:List Value},Vals xs us->xs.all su=true->us.any (eqU x)=xs.any fun y=>eqV y x
 |_,_,.nil,_=>rfl
 |y::xs,u::us,.cons r t,f=>by
  rw[List.all_cons,zR3] at f;rw[z42,z42,cG r f.1,uR t f.2]
theorem vv {A:Around}{s:Shared}{x:V}{v:Value}(rx:RelV x v)(fx:su x=true):∀{xs:List V} {us:List Value},Vals xs us->xs.all su=true->∀u∈us,SeqAt.EqAt A s u v (eqU x u)
 |_,_,.nil,_=>fun u hu=>by cases hu
 |y::xs,u::us,.cons r t,f=>fun u' hu=>by
  rw[List.all_cons,zR3] at f;rcases zP2.mp hu with rfl|hu
  ·rw[cG r f.1];exact zu0 r rx f.1 fx
  ·exact vv rx fx t f.2 u' hu
def inV (x:V)(xs:List V):Bool:=xs.any fun y=>eqV y x
def rIn (K:PySem.W.Frag)(neg:Bool):R2:=fun x y H Q=>∃p xs,y=.ref p/\(SqL K H p xs\/SqT K H p xs)/\su x=true/\xs.all su=true/\Q (.bl (if neg then !inV x xs else inV x xs)) H
theorem eJ :OpR X (compareOp .In) (rIn X.K false):=by
 intro pins s σ H x y v u Q I rx ry h;obtain⟨p,xs,rfl,hq,fx,fs,q⟩:=h;cases ry;rcases hq with hq|hq
 ·obtain⟨its,r,pl,hz⟩:=I.list hq;refine SeqAt.in_listAt (eqU x) pl.isList (fun w hw=>vv rx fx r fs w (by simpa using hw)) ⟨.bl _,H,I,rfl,?_⟩;rw[show its.toArray.any (eqU x)=its.any (eqU x) by simp,uR r fs];exact q
 ·obtain⟨its,r,pl,hz⟩:=I.tuple hq;refine SeqAt.in_tupleAt (eqU x) pl (fun w hw=>vv rx fx r fs w (by simpa using hw)) ⟨.bl _,H,I,rfl,?_⟩;rw[show its.toArray.any (eqU x)=its.any (eqU x) by simp,uR r fs];exact q
theorem oG :OpR X (compareOp .NotIn) (rIn X.K true):=by
 intro pins s σ H x y v u Q I rx ry h;obtain⟨p,xs,rfl,hq,fx,fs,q⟩:=h;cases ry;rcases hq with hq|hq
 ·obtain⟨its,r,pl,hz⟩:=I.list hq;refine SeqAt.notIn_listAt (eqU x) pl.isList (fun w hw=>vv rx fx r fs w (by simpa using hw)) ⟨.bl _,H,I,rfl,?_⟩;rw[show its.toArray.any (eqU x)=its.any (eqU x) by simp,uR r fs];exact q
 ·obtain⟨its,r,pl,hz⟩:=I.tuple hq;refine SeqAt.notIn_tupleAt (eqU x) pl (fun w hw=>vv rx fx r fs w (by simpa using hw)) ⟨.bl _,H,I,rfl,?_⟩;rw[show its.toArray.any (eqU x)=its.any (eqU x) by simp,uR r fs];exact q
theorem yx :xj X (.builtin "len") (fun xs H Q=>∃p ys,xs=[.ref p]/\(SqL X.K H p ys\/SqT X.K H p ys)/\Q (.int ys.length) H):=by
 intro pins s σ H xs us Q I r h;obtain⟨p,ys,rfl,hq,q⟩:=h;obtain⟨u,rfl,rx⟩:=vals1 r;cases rx;have hn:=tK;rcases hq with hq|hq
 ·obtain⟨its,r',pl,hz⟩:=I.list hq;have hlen:=r'.length;exact Calls.call_len_list pl.isList (by simp only[zQ0]<;>omega) ⟨.int ys.length,H,I.tok _,⟨s.toks+1,by rw[zQ0,hlen]⟩,q⟩
 ·obtain⟨its,r',pl,hz⟩:=I.tuple hq;have hlen:=r'.length;exact len_tuple pl (by simp only[zQ0]<;>omega) ⟨.int ys.length,H,I.tok _,⟨s.toks+1,by rw[zQ0,hlen]⟩,q⟩
theorem uW :xj X (.type "list") (fun xs H Q=>∃p ys,xs=[.ref p]/\(SqL X.K H p ys\/SqT X.K H p ys)/\∀l,H l=none->Q (.ref l) (upd H l (.lst ys))):=by
 intro pins s σ H xs us Q I r h;obtain⟨p,ys,rfl,hq,q⟩:=h;obtain⟨u,rfl,rx⟩:=vals1 r;cases rx;have fin:∀(its:List Value),Vals ys its->ys.length<=sizeLine->∀(h':Heap) (c':Nat),(∀b o',s.heap.get? b=some o'->h'.get? b=some o')->
   h'.get? s.heap.objs.size=some {cls:=.type "list",dict:=none,data:=.seq its.toArray c',slots:=#[]}->EP X pins σ Q (.ref s.heap.objs.size) {s with heap:=h'}:=fun its r' hz h' c' kp e=>
  ⟨.ref s.heap.objs.size,_,I.laid (t':=s.toks) kp (zP3 _) (show zM X.prog X.w _ h' _ (.lst ys) from ⟨hz,its,c',r',e⟩),rfl,q _ (I.hok.fresh (zP3 _))⟩
 rcases hq with hq|hq
 ·obtain⟨its,r',pl,hz⟩:=I.list hq;have hlen:=r'.length;obtain⟨o,ho,hc,n,hd⟩:=pl.isList;exact call_list_seq p (.inl rfl) ho hc hd (fun h' c' kp e=>fin its r' hz h' c' kp e) (by simp only[zQ0]<;>omega)
 ·obtain⟨its,r',pl,hz⟩:=I.tuple hq;have hlen:=r'.length;obtain⟨o,ho,hc,n,hd⟩:=pl;exact call_list_seq p (.inr rfl) ho hc hd (fun h' c' kp e=>fin its r' hz h' c' kp e) (by simp only[zQ0]<;>omega)
theorem qJ :xj X (.type "tuple") (fun xs H Q=>∃p ys,xs=[.ref p]/\((SqL X.K H p ys/\∀l,H l=none->Q (.ref l) (upd H l (.tup ys)))\/(SqT X.K H p ys/\Q (.ref p) H))):=by
 intro pins s σ H xs us Q I r h;obtain⟨p,ys,rfl,h⟩:=h;obtain⟨u,rfl,rx⟩:=vals1 r;cases rx;rcases h with ⟨hq,q⟩|⟨hq,q⟩
 ·obtain⟨its,r',pl,hz⟩:=I.list hq;have hlen:=r'.length;refine call_tuple_list pl.isList (fun h' kp=>?_) (by simp only[zQ0]<;>omega);have I1:Inv X pins σ H {s with heap:=h'}:=I.kept (t':=s.toks) kp;have I2:Inv X pins σ (upd H h'.objs.size (.tup ys)) {s with heap:=h'.push {cls:=.type "tuple",data:=.seq its.toArray}}:=
   I1.laid (t':=s.toks) (fun b o e=>zO8 _ e) (zP3 _) (show zM X.prog X.w _ _ _ (.tup ys) from ⟨hz,its,r',IsTup.new _ _⟩)
  exact⟨.ref h'.objs.size,_,I2,rfl,q _ (I1.hok.fresh (zP3 _))⟩
 ·obtain⟨its,r',pl,hz⟩:=I.tuple hq;exact call_tuple_same pl ⟨.ref p,H,I,rfl,q⟩
def tyV (K:PySem.W.Frag)(T:String)(x:V)(H:Hp):Prop:=match x with
 |.str _=>T="str"
 |.int _=>T="int"
 |.ref p=>(T="list"/\∃xs,SqL K H p xs)\/(T="tuple"/\∃o,K.lookup p=some o/\o.cls=.type "tuple"/\o.dict=none)\/
   (T="dict"/\((∃kvs,H p=some (.dK kvs))\/∃kvs,H p=some (.dT kvs)))\/(T="set"/\∃S n,H p=some (.set S n))
 |_=>False
theorem zx5 {pins:List (Addr×Obj)}{σ:St}{H:Hp}{s:Shared}{T:String}{x:V}{v:Value}(I:Inv X pins σ H s)(r:RelV x v)(ty:tyV X.K T x H):
  s.TypeIs v T/\∀a,v=.ref a->∃ob,s.heap.get? a=some ob/\ob.dict=none:=by
 cases x with
 |str z=>
  obtain⟨t,rfl⟩:=r;cases (show T="str" from ty);exact⟨typeIs_str s z t,fun _ e=>nomatch e⟩
 |int i=>
  obtain⟨t,rfl⟩:=r;cases (show T="int" from ty);exact⟨typeIs_int s i t,fun _ e=>nomatch e⟩
 |ref p=>
  cases r;rcases ty with ⟨rfl,xs,hq⟩|⟨rfl,o,hk,hc,hd⟩|⟨rfl,hk⟩|⟨rfl,S,n,hk⟩
  ·obtain⟨its,_,pl,_⟩:=I.list hq;refine⟨pl.isList.typeIs,fun a e=>?_⟩;cases e;obtain⟨o,n,e,c,hd,_⟩:=pl;exact⟨o,e,hd⟩
  ·refine⟨⟨o,I.kIn p o hk,hc⟩,fun a e=>?_⟩;cases e;exact⟨o,I.kIn _ o hk,hd⟩
  ·have z:∃o,s.heap.get? p=some o/\o.ExactDict:=by
    rcases hk with ⟨kvs,hk⟩|⟨kvs,hk⟩
    ·obtain⟨_,_,_,_,o,_,_,e,ex,_⟩:=I.hok p _ hk;exact⟨o,e,ex⟩
    ·obtain⟨_,_,_,_,o,_,_,e,ex,_⟩:=I.hok p _ hk;exact⟨o,e,ex⟩
   obtain⟨o,e,ex⟩:=z;refine⟨⟨o,e,ex.1⟩,fun a e2=>?_⟩;cases e2;exact⟨o,e,ex.2.1⟩
  ·obtain⟨o,_,_,_,e,ex,_⟩:=I.hok p _ hk;refine⟨⟨o,e,ex.1⟩,fun a e2=>?_⟩;cases e2;exact⟨o,e,ex.2.1⟩
 |_=>exact False.elim ty
def tBM (K:PySem.W.Frag)(T:String)(r:V->List V->Hp->VK->Prop)(to:TE)(t:TA):TE:=fun σ H Q=>to σ H fun x H1=>tyV K T x H1/\t σ H1 fun xs H2=>r x xs H2 Q
variable {o e:Expr}{es:List Expr}{to:TE}{t:TA}{name:Str}{apos cpos:Pos}{T id:String}{r:V->List V->Hp->VK->Prop}
theorem zt3 (pa:PlainAttrs T)(slot:Slot T name id)(hty:typeOf (.builtin id)=pure (.type "method_descriptor"))(hm:MtR X id r)(ho:PE X o to)(ha:PA X (e::es) t)
  (hbase:attributeBase o name X.env (eval o X.env)=eval o X.env:=by rfl)
  (hfew:((backTo cpos (starEach (e::es) X.env)).all (fun x=>!x.1)&&(backToKw cpos (keywordEach [] X.env)).all (fun x=>x.1.isSome)
   &&decide ((e::es).length+([]:List Keyword).length+(if ([]:List Keyword).isEmpty then 0 else 1)<30))=true:=by rfl)
  (hline:(apos.endLine == cpos.line)=true:=by rfl) (hs:starEach (e::es) X.env=(false,eval e X.env)::starEach es X.env:=by rfl) (hplain:(backTo cpos (starEach es X.env)).any (·.1)=false:=by rfl):
  PE X (.Call (.Attribute o name apos) (e::es) [] cpos) (tBM X.K T r to t):=by
 intro pins s σ H Q I h;refine wpAny_Call_method_late hbase hfew hline rfl (thn (ho pins s σ H _ I h) fun v s1 ⟨x,H1,I1,r1,ty,q1⟩=>?_);obtain⟨h1,h2⟩:=zx5 I1 r1 ty;refine⟨T,id,pa,slot,hty,h1,h2,?_⟩;have hA:=ha cpos pins s1 σ H1 _ I1 q1;rw[hs] at hA ⊢;refine Calls.callWith_builtin (by show (false||(backTo cpos (starEach es X.env)).any (·.1))=false;rw[hplain]<;>rfl) (Calls.evalArgs_plain ?_);exact thn hA fun us s2 ⟨vs,H2,I2,r2,q2⟩=>hm pins s2 σ H2 x vs v us Q I2 r1 r2 q2
/- xs.append(e),list.index on a module's tuple .. are MtR facts of 06m -/
end
def MtM (X:Cx)(id:String)(r:V->List V->Hp->VK->Prop):Prop:=
 ∀(pins:List (Addr×Obj)) (s:Shared) (σ:St) (H:Hp) (x:V) (xs:List V) (v:Value) (us:List Value) (Q:VK),Inv X pins σ H s->RelV x v->Vals xs us->r x xs H Q->
  wpAny (model X.prog X.w) X.A (call (.builtin id) (v::us)) (EP X pins σ Q) X.xe s
theorem Vals.one {x:V}{us:List Value}(h:Vals [x] us):∃u,us=[u]/\RelV x u:=by
 cases h with
 |cons r q=>cases q;exact⟨_,rfl,r⟩
theorem Vals.two {x y:V}{us:List Value}(h:Vals [x,y] us):∃u v,us=[u,v]/\RelV x u/\RelV y v:=by
 cases h with
 |cons r q=>
  cases q with
  |cons q z=>cases z;exact⟨_,_,rfl,r,q⟩
theorem Vals.eraseIdx :∀{xs:List V} {us:List Value} (i:Nat),Vals xs us->Vals (xs.eraseIdx i) (us.eraseIdx i)
 |_,_,_,.nil=>.nil
 |_,_,0,.cons _ t=>t
 |_,_,i+1,.cons r t=>.cons r (Vals.eraseIdx i t)
theorem pJ {α:Type}:∀(l:List α) (i:Nat),(l.eraseIdx i).length<=l.length
 |[],_=>zP3 _
 |_::_,0=>zY1 _
 |_::r,i+1=>Nat.succ_le_succ (pJ r i)
section
variable {X:Cx}{pins:List (Addr×Obj)}{σ:St}{H:Hp}{s:Shared}{l b:Addr}{xs ys zs:List V}
theorem Inv.lset {its its':List Value}{n:Nat}{f:Array Value->Array Value}{t':Nat}(I:Inv X pins σ H s)(hH:H l=some (.lst xs))
  (e:s.heap.get? l=some {cls:=.type "list",data:=.seq its.toArray n}) (hf:f its.toArray=its'.toArray) (hv:Vals ys its') (hz:ys.length<=sizeLine):
  Inv X pins σ (upd H l (.lst ys)) {s with heap:=s.heap.update l (Obj.mapSeq f),toks:=t'}:=by
 have q:=PySem.IsL.update e f;rw[hf] at q;refine I.write (x:=l) (e:=l) (by rw[hH];exact trivial) (.inl rfl) (fun b' u hb hu=>(zR2 s.heap (Obj.mapSeq f) (zS2 hb)).trans hu) ⟨_,q⟩ ?_;exact⟨hz,its',_,hv,q⟩
theorem Inv.lnew {its:List Value}{t':Nat}(I:Inv X pins σ H s)(hv:Vals ys its)(hz:ys.length<=sizeLine):
  Inv X pins σ (upd H s.heap.objs.size (.lst ys)) {s with heap:=s.heap.push {cls:=.type "list",data:=.seq its.toArray},toks:=t'}:=
 I.laid (fun _ _ q=>zO8 _ q) (zP3 _) ⟨hz,its,0,hv,zP9 _ rfl⟩
theorem Inv.fresh (I:Inv X pins σ H s):H s.heap.objs.size=none:=I.hok.fresh (zP3 _)
theorem Inv.lstM (I:Inv X pins σ H s)(hH:H l=some (.lst xs)):xs.length<=sizeLine/\∃(its:List Value) (n:Nat),Vals xs its/\xs.length=its.length/\s.heap.get? l=some {cls:=.type "list",data:=.seq its.toArray n}:=by
 obtain⟨z,its,n,r,e⟩:=I.hok l _ hH;exact⟨z,its,n,r,r.length,e⟩
theorem zb7 {n:Nat}(h:n<=sizeLine):Builtin.List.listTooLong n=false:=by
 unfold Builtin.List.listTooLong;exact zR5 (by omega)
end
section
variable {X:Cx}
def zi0 :V->List V->Hp->VK->Prop:=fun x vs H Q=>∃l xs y,x=.ref l/\vs=[y]/\H l=some (.lst xs)/\xs.length<sizeLine/\Q .non (upd H l (.lst (xs++[y])))
theorem pL :MtM X "list.append" zi0:=by
 intro pins s σ H x vs v us Q I rx rv h;obtain⟨l,xs,y,rfl,rfl,hH,hz,q⟩:=h;cases rx;obtain⟨u,rfl,ru⟩:=rv.one;obtain⟨z,its,n,r,hl,e⟩:=I.lstM hH;refine call_meets F.slot_list_append ⟨_,e,rfl⟩ F.entry_list_append (F.args_list_append_2 _ _) (PySem.list_append l its.toArray n u (by rw[zQ0];omega)) ⟨e,?_⟩;refine⟨.non,_,I.lset (its':=its++[u]) hH e (by simp) (r.append (.cons ru .nil)) ?_,rfl,q⟩;rw[zQ6,zR9];omega
def zl5 :V->List V->Hp->VK->Prop:=fun x vs H Q=>∃l b xs zs,x=.ref l/\vs=[.ref b]/\H l=some (.lst xs)/\H b=some (.lst zs)/\xs.length+zs.length<=sizeLine/\Q .non (upd H l (.lst (xs++zs)))
theorem zD6 :MtM X "list.extend" zl5:=by
 intro pins s σ H x vs v us Q I rx rv h;obtain⟨l,b,xs,zs,rfl,rfl,hH,hB,hz,q⟩:=h;cases rx;obtain⟨u,rfl,ru⟩:=rv.one;cases ru;obtain⟨z,its,n,r,hl,e⟩:=I.lstM hH;obtain⟨z2,its2,n2,r2,hl2,e2⟩:=I.lstM hB;have hsz:its.toArray.size+its2.toArray.size<=sizeLine:=by rw[zQ0,zQ0];omega
 have hlong:¬(!its.toArray.isEmpty&&Builtin.List.listTooLong (its.toArray.size+its2.toArray.size))=true:=by
  rw[zb7 hsz,zW8];exact zQ5
 refine call_meets F.slot_list_extend ⟨_,e,rfl⟩ F.entry_list_extend (F.args_list_extend_2 _ _)
  (AutoSeq1.list_extend_list_list_0 l its.toArray n b its2.toArray n2 hlong (by rw[zQ0];omega) (by omega)) ⟨e,e2,?_⟩
 refine⟨.non,_,I.lset (its':=its++its2) hH e (by simp) (r.append r2) ?_,rfl,q⟩;rw[zQ6];omega
def zz6 :V->List V->Hp->VK->Prop:=fun x vs H Q=>∃l xs i k y,x=.ref l/\vs=[.int i]/\H l=some (.lst xs)/\-(2 ^ 63)<=i/\i<2 ^ 63/\seqIndex? i xs.length=some k/\xs[k]?=some y/\Q y (upd H l (.lst (xs.eraseIdx k)))
theorem ak :MtM X "list.pop" zz6:=by
 intro pins s σ H x vs v us Q I rx rv h;obtain⟨l,xs,i,k,y,rfl,rfl,hH,h1,h2,hk,hy,q⟩:=h;cases rx;obtain⟨u,rfl,ru⟩:=rv.one;obtain⟨t,rfl⟩:=ru;obtain⟨z,its,n,r,hl,e⟩:=I.lstM hH;obtain⟨w,hw,rw'⟩:=r.get hy;refine call_meets F.slot_list_pop ⟨_,e,rfl⟩ F.entry_list_pop (F.args_list_pop_2 _ _)
  (MeetsSeq.list_pop_at l its.toArray n i t k w (fitsIndex_both h1 h2) (by rw[zQ0,<-hl];exact hk) (by rw[<-Array.getElem?_toList];exact hw) (by rw[zQ0];omega)) ⟨e,?_⟩
 refine⟨y,_,I.lset (its':=its.eraseIdx k) hH e ?_ (r.eraseIdx k) ?_,rw',q⟩
 ·show its.toArray.eraseIdxIfInBounds k=(its.eraseIdx k).toArray;rw[List.eraseIdxIfInBounds_toArray]
 ·have:=pJ xs k;omega
def zN2 :R2:=fun x y H Q=>∃l b xs zs,x=.ref l/\y=.ref b/\H l=some (.lst xs)/\H b=some (.lst zs)/\xs.length+zs.length<=sizeLine/\∀p,H p=none->Q (.ref p) (upd H p (.lst (xs++zs)))
theorem zC1 :OpR X (binaryOp .Add) zN2:=by
 intro pins s σ H x y v u Q I rx ry h;obtain⟨l,b,xs,zs,rfl,rfl,hH,hB,hz,q⟩:=h;cases rx;cases ry;obtain⟨z,its,n,r,hl,e⟩:=I.lstM hH;obtain⟨z2,its2,n2,r2,hl2,e2⟩:=I.lstM hB;refine PySem.P.add_list e e2 ?_ (by rw[zQ0,zQ0];omega);have ea:its.toArray++its2.toArray=(its++its2).toArray:=by simp
 rw[ea];exact⟨.ref _,_,I.lnew (t':=s.toks) (r.append r2) (by rw[zQ6];omega),rfl,q _ I.fresh⟩
end
section
variable {prog:Program}{w:World}{A:Around}{E:Value->Shared->Prop}{s:Shared}
end
section
variable {X:Cx}
end
end L2
namespace Att
open PySem PySem.W PySem.Calls PyProof.Rows
theorem sA {P:Params}{h:Heap}:∀(ns:List Int) (vs:List Value),WellAll P h vs (ns.map WData.int)->IntsAre vs ns:=by
 intro ns
 induction ns with
 |nil=>
  intro vs w;rw[z31] at w;cases w;exact .nil
 |cons n ns ih=>
  intro vs w;rw[zR4] at w;cases w with
  |cons a b=>
   cases a;exact .cons _ _ (ih _ b)
theorem fU {l:OpenLaw}{n:Nat}(hn:l.most=some n){P:Params}{h:Heap}{args:List WData}{vals:List Value}
  (hpre:l.row.toRowW.claim.pre args=true) (hwl:WellAll P h vals args):
  ∃a vs ns,vals=[Value.ref a]/\args=[WData.list (ns.map WData.int)]/\h.get? a=some {cls:=.type "list",data:=.seq vs.toArray}/\IntsAre vs ns/\ns.length<=n:=by
 have hsh:WShape.hasAll [] args [.list .int]=true:=(pre_splitW hpre).1;have hc:l.pre.holds [] {args:=args}=true:=(pre_splitW hpre).2;obtain⟨d,r,rfl,h1,h2⟩:=hasAllW_cons hsh;obtain rfl:=hasAllW_nil h2;obtain⟨xs,rfl,h3⟩:=hasW_list h1;obtain⟨ns,rfl⟩:=items_int h3;have hlen:ns.length<=n:=by
  unfold OpenLaw.pre at hc;have h4:(WTm.not (.lt (.lit (.int (n:Int))) (.len (.arg 0)))).holds [] {args:=[.list (ns.map .int)]}=true:=by
   have h4:=(holds_andW hc).1;rw[hn] at h4;exact h4
  have h5:=condW_of h4 (w_not (w_lt w_lit (w_len_list (w_arg rfl))));rw[zO6] at h5;refine Nat.le_of_not_lt fun q=>?_;have q':(n:Int)<((ns.length:Nat):Int):=by omega
  first
   |(rw[zS3 q'] at h5;exact absurd h5 (by decide))
   |(simp at h5;omega)
 cases hwl with
 |cons w1 w2=>
  cases w2;cases w1 with
  |list ho hall=>exact⟨_,_,ns,rfl,rfl,ho,sA ns _ hall,hlen⟩
theorem ff (l:OpenLaw)(args:List WData):l.row.toRowW.claim.post args (.bool true) args=true:=
 postW_of (r:=l.row.toRowW) (X:=(true == true))
  (show WShape.has [] (.bool true) .bool=true by first|rfl|decide|simp[WShape.has,WShape.arms,WShape.armsAll])
  (show (WTm.eq .res (.lit (.bool true))).value [] {args:=args,res:=some (.bool true),after:=args}=some (.bool (true == true)) from w_eq_bool (w_res rfl) w_lit) rfl
theorem attach_call {l:OpenLaw}{n:Nat}{q:Program}{loose:List Str}{XP:(Str->Option Value)->Heap->Prop}{YP:World->Heap->Prop}{d:DefRec}
  (hn:l.most=some n) (hdf:d.params.defaults=[])
  (call:∀(w:World) (s₀ s₁:Shared) (mg mb:Str->Option Value) (fa:Addr) (o:Obj) (pm cd doc:Value) (a:Addr) (vs:List Value) (ns:List Int),
   Ground q loose [] XP w s₀ mg mb s₁.heap->YP w s₁.heap->
   s₁.heap.get? fa=some o->o.data=.func (docDef d.name d.params d.body d.scope pm cd doc)->s₁.heap.CodeRec cd d.name->mg d.name=some (.ref fa)->
   s₁.heap.get? a=some {cls:=.type "list",data:=.seq vs.toArray}->IntsAre vs ns->ns.length<=n->s₁.gens=#[]->
   codeAny (model l.prog w) callerA (.call (.ref fa) ⟨[.ref a],[]⟩) (fun r s'=>r=.ok (.ret (.bool true))/\OldK s₁.heap s'.heap/\s'.os=s₁.os/\AllBare s'.gens) s₁):
  WalkO q loose XP YP l.row.toRowW d [] (fun f vs=>PySem.call f vs):=by
 intro w s₀ s₁ mg mb G Y fa o pm cd doc dV kV ho hd hcd hD hmg hg args vals as hpre hlay hrd hwl hlo;obtain rfl:dV=.none:=Dflts.none hD hdf;obtain rfl:kV=.none:=Dflts.noKw hD;obtain⟨a,vs,ns,rfl,rfl,hobj,hints,hlen⟩:=fU hn hpre hwl;refine enter_call (z51 (call w s₀ s₁ mg mb fa o pm cd doc a vs ns G Y ho (fd_plain hd) hcd hmg hobj hints hlen hg) fun r s' hq=>?_);obtain⟨rfl,h2,h3,h4⟩:=hq;exact⟨.inl ⟨.bool true,.bool true,[],rfl,fun _=>rfl,.bool true,ff l _,fun _=>⟨List.Pairwise.nil,fun _ hm=>(nomatch hm)⟩⟩,h2,h3,h4⟩
section
variable {prog:Program}{w:World}{A:Around}{E:Value->Shared->Prop}{s:Shared}{K:Frag}
end
end Att
namespace L2
open PySem PySem.Spec PyProof.Rows
theorem pk :∀{vs:List Value} {ns:List Int},IntsAre vs ns->Vals (ns.map V.int) vs
 |_,_,.nil=>.nil
 |_,_,.cons n t h=>.cons ⟨t,rfl⟩ (pk h)
def inClass (s:Stmt)(j:Nat):Stmt:=match s with
 |.ClassDef _ _ _ body _ _ _ _ _ _ _=>body.getD j (.Pass ⟨0,0,0,0⟩)
 |_=>.Pass ⟨0,0,0,0⟩
def zR (s:Stmt):Arguments:=match s with
 |.FunctionDef _ a _ _ _ _ _ _ _ _=>a
 |_=>{posonlyargs:=[],args:=[],vararg:=none,kwonlyargs:=[],kw_defaults:=[],kwarg:=none,defaults:=[]}
def zA (s:Stmt):List Stmt:=match s with
 |.FunctionDef _ _ b _ _ _ _ _ _ _=>b
 |_=>[]
def zc (s:Stmt):Scope:=match s with
 |.FunctionDef _ _ _ _ _ _ sc _ _ _=>sc
 |_=>{kind:=.function,names:=[],isGenerator:=false,isCoroutine:=false}
abbrev CX0 :CXT:=fun _ _ _ _ _ _=>False
abbrev E0 :XK:=fun _ _ _=>False
theorem yk {X:Cx}:Passes CX0 X E0:=fun _ _ _ _ _ _ _ h=>h.elim
structure Fun (K:PySem.W.Frag)(x qual:Str)(st:Stmt)(f:Addr)(fd:FuncData):Prop where
 ex:∃(oc:Value) (od:Option Addr) (kV doc pm:Value) (an:Option Addr) (cdv ct:Value) (osl:Array (Option Value)),
  fd=PySem.W.fnOf x qual (zR st) (zA st) (zc st) .none kV doc pm an cdv ct/\K.lookup f=some ⟨oc,od,.func fd,osl⟩/\PySem.W.codeIn K cdv qual=true
 kp:PySem.W.keepIn K (.ref f)=true
section
variable {P:Program}{w:World}{K:PySem.W.Frag}{mg:Str->Option Value}{base:Heap}
theorem Fun.ok {x qual:Str}{st:Stmt}{f:Addr}{fd:FuncData}{N ps:List Str}{k:Nat}{sp:Sp}(F:Fun K x qual st f fd)(S:zo N ps (zc st))(len:∀vs H Q E,sp vs H Q E->vs.length=ps.length)
  (hbody:∀(cdv:Value) (A:Around) (outer:List Env) (s:Shared) (H:Hp) (vs:List V) (Q:VK) (E:XK),zV k (A.deeper (envOfC qual (zc st) s.heap.objs.size f cdv))->sp vs H Q E->
   ∃t,PSs (ui CX0 P w K mg base N qual (zc st) f cdv A outer s H E).nox (zA st) t/\t {nx:=fun _ H'=>Q .non H',rt:=Q} (start N vs) H):zC P w K mg base CX0 (k+1) f fd ps sp:=by
 obtain⟨oc,od,kV,doc,pm,an,cdv,ct,osl,rfl,lk,hcd⟩:=F.ex;refine dr lk hcd S len fun A outer s H vs Q E hr hsp=>?_;obtain⟨t,h,q⟩:=hbody cdv A outer s H vs Q E hr hsp;exact⟨t,h.nox,q⟩
theorem Fun.binds {x qual:Str}{st:Stmt}{f:Addr}{fd:FuncData}{ps:List Str}(F:Fun K x qual st f fd)
  (h:∀(kV doc pm:Value) (an:Option Addr) (cdv ct:Value) (us:List Value),us.length=ps.length->bindArgs (PySem.W.fnOf x qual (zR st) (zA st) (zc st) .none kV doc pm an cdv ct) ⟨us,[]⟩=pure (ps.zip us)):Binds K fd ps []:=by
 obtain⟨oc,od,kV,doc,pm,an,cdv,ct,osl,rfl,lk,hcd⟩:=F.ex;exact .all (h kV doc pm an cdv ct)
theorem jS {x qual:Str}{st:Stmt}{f:Addr}{oc:Value}{od an:Option Addr}{osl:Array (Option Value)}{kV doc pm cdv ct:Value}(l:K.lookup f=some ⟨oc,od,.func (PySem.W.fnOf x qual (zR st) (zA st) (zc st) .none kV doc pm an cdv ct),osl⟩)
  (c:PySem.W.codeIn K cdv qual=true) (k:PySem.W.keepIn K (.ref f)=true):Fun K x qual st f (PySem.W.fnOf x qual (zR st) (zA st) (zc st) .none kV doc pm an cdv ct):=⟨⟨oc,od,kV,doc,pm,an,cdv,ct,osl,rfl,l,c⟩,k⟩
end
theorem yK {n:Nat}(h:n<=1000):n<sizeLine:=Nat.lt_of_le_of_lt h (by decide)
section
variable {X:Cx}
theorem pv (i:Nat){x:Str}{pos:Pos}(hN:X.N[i]?=some x:=by rfl)(hv:Vis X.env.scope x:=by first|exact Or.inl rfl|exact Or.inr (Or.inl rfl)|exact Or.inr (Or.inr rfl))(hd:(x == ("__debug__":Str))=false:=by decide)
  (hcd:(x == ("__classdict__":Str))=false:=by decide):PE X (.Name x pos) (zA2 i):=xH hN hv hd hcd
end
theorem uw {A B:Prop}(h:B):if false=true then A else B:=by
 rw[if_neg zQ5];exact h
theorem vY {A B:Prop}(h:A):if true=true then A else B:=by
 rw[if_pos rfl];exact h
theorem yF {c A B:Prop}[Decidable c](h1:c->A)(h2:¬c->B):if c then A else B:=by
 by_cases h:c
 ·rw[if_pos h];exact h1 h
 ·rw[if_neg h];exact h2 h
def zz (H H':Hp):Prop:=∀b o,H b=some o->H' b=some o
theorem zz.refl (H:Hp):zz H H:=fun _ _ h=>h
theorem zz.trans {H H1 H2:Hp}(a:zz H H1)(b:zz H1 H2):zz H H2:=fun c o h=>b c o (a c o h)
theorem zz.free {H H':Hp}(e:zz H H'){l:Addr}(h:H' l=Option.none):H l=Option.none:=by
 cases q:H l with
 |none=>rfl
 |some o=>
  rw[e l o q] at h;cases h
theorem zz.seq {K:PySem.W.Frag}{H H':Hp}{a:Addr}{xs:List V}(e:zz H H')(h:SqL K H a xs):SqL K H' a xs:=by
 rcases h with (h|⟨o,h⟩)|h
 ·exact .inl (.inl (e _ _ h))
 ·exact .inl (.inr ⟨o,e _ _ h⟩)
 ·exact .inr h
def uq (cells:List (Str×Addr)):List (Str×NameKind)->List (Str×Addr)->List (Str×Addr)
 |[],acc=>acc
 |(n,k)::r,acc=>uq cells r (if k=.free then (n,(cells.lookup n).getD 0)::acc else acc)
theorem ue {env:Env}{scope:Scope}(h:∀y∈scope.names,y.2=.free->∃c,env.cells.lookup y.1=some c):
  closureFor scope env=pure (uq env.cells scope.names []):=by
 have key:∀(ns:List (Str×NameKind)) (acc:List (Str×Addr)),(∀y∈ns,y.2=.free->∃c,env.cells.lookup y.1=some c)->
   (forIn ns acc fun (x:Str×NameKind) (r:List (Str×Addr))=>(if (x.2 == NameKind.free)=true then (do let a <-cellOf env x.1;pure (ForInStep.yield ((x.1,a)::r))) else pure (ForInStep.yield r):Sem (ForInStep (List (Str×Addr)))))=pure (uq env.cells ns acc):=by
  intro ns
  induction ns with
  |nil=>intro acc _;rfl
  |cons y r ih=>
   intro acc hy;obtain⟨n,k⟩:=y;rw[z54];have hr:∀z∈r,z.2=.free->∃c,env.cells.lookup z.1=some c:=fun z hz=>hy z (zP5 _ hz);by_cases hk:k=.free
   ·subst hk;obtain⟨c,hc⟩:=hy (n,.free) zQ1 rfl;have e1:cellOf env n=pure c:=by
     unfold cellOf;rw[hc]
    have e2:((NameKind.free == NameKind.free)=true):=rfl;simp only[e2,zZ6,e1,pure_bind];rw[ih _ hr];show _=pure (uq env.cells r (if NameKind.free=NameKind.free then (n,(env.cells.lookup n).getD 0)::acc else acc));rw[if_pos rfl,hc];rfl
   ·have e2:(k == NameKind.free)=false:=by simpa using hk
    simp only[e2,zS9,zW3,pure_bind];rw[ih _ hr];show _=pure (uq env.cells r (if k=NameKind.free then (n,(env.cells.lookup n).getD 0)::acc else acc));rw[if_neg hk]
 have q:=key scope.names [] h;unfold closureFor;simp only[] at q ⊢;rw[show (forIn scope.names ([]:List (Str×Addr)) fun (x:Str×NameKind) (r:List (Str×Addr))=>_)=_ from q];rfl
theorem mj {cells:List (Str×Addr)}:∀(ns:List (Str×NameKind)) (acc:List (Str×Addr)),(∀y∈ns,y.2=.free->∃c,cells.lookup y.1=some c)->
  ∀x c,(x,c)∈uq cells ns acc->(x,c)∈acc\/((x,NameKind.free)∈ns/\cells.lookup x=some c)
 |[],acc,_,x,c,h=>.inl h
 |(n,k)::r,acc,hy,x,c,h=>by
  have hr:∀z∈r,z.2=.free->∃c,cells.lookup z.1=some c:=fun z hz=>hy z (zP5 _ hz);have h':(x,c)∈uq cells r (if k=.free then (n,(cells.lookup n).getD 0)::acc else acc):=h;rcases mj r _ hr x c h' with q|⟨q1,q2⟩
  ·by_cases hk:k=.free
   ·rw[if_pos hk] at q;rcases zP2.mp q with e|q
    ·obtain⟨c',hc⟩:=hy (n,k) zQ1 hk;have e1:x=n:=congrArg Prod.fst e;have e2:c=(cells.lookup n).getD 0:=congrArg Prod.snd e;have hc':cells.lookup n=some c':=hc;rw[hc'] at e2;have e3:c=c':=e2;subst e1 e3 hk;exact .inr ⟨zQ1,hc'⟩
    ·exact .inl q
   ·rw[if_neg hk] at q;exact .inl q
  ·exact .inr ⟨zP5 _ q1,q2⟩
theorem lB {cells:List (Str×Addr)}:∀(ns:List (Str×NameKind)) (acc:List (Str×Addr)) (p:Str×Addr),p∈acc->p∈uq cells ns acc
 |[],_,_,h=>h
 |(n,k)::r,acc,p,h=>by
  show p∈uq cells r (if k=.free then (n,(cells.lookup n).getD 0)::acc else acc);refine lB r _ p ?_;split
  ·exact zP5 _ h
  ·exact h
theorem lF {cells:List (Str×Addr)}:∀(ns:List (Str×NameKind)) (acc:List (Str×Addr)) (x:Str),(x,NameKind.free)∈ns->∃c,(x,c)∈uq cells ns acc
 |[],_,_,h=>by simp at h
 |(n,k)::r,acc,x,h=>by
  show ∃c,(x,c)∈uq cells r (if k=.free then (n,(cells.lookup n).getD 0)::acc else acc);rcases zP2.mp h with e|h
  ·have e1:x=n:=congrArg Prod.fst e;have e2:NameKind.free=k:=congrArg Prod.snd e;subst e1 e2;rw[if_pos rfl];exact⟨_,lB r _ _ zQ1⟩
  ·exact lF r _ x h
theorem mem_lookup {x:Str}{c:Addr}:∀{l:List (Str×Addr)},(x,c)∈l->∃d,l.lookup x=some d
 |[],h=>by simp at h
 |(n,a)::r,h=>by
  rw[zT7];cases e:x == n with
  |true=>exact⟨a,rfl⟩
  |false=>
   rcases zP2.mp h with q|q
   ·have e1:x=n:=congrArg Prod.fst q;rw[e1] at e;simp at e
   ·exact mem_lookup q
structure zU (XN:List Str)(xs:Scope)(N:List Str)(imp:List (Option Nat))(scope:Scope):Prop where
 kind:scope.kind=.function
 nd:N.Nodup
 nocell:∀y∈scope.names,y.2≠.cell
 locs:∀y∈scope.names,y.2=.local->scope.names.lookup y.1=some .local
 frees:∀y∈scope.names,y.2=.free->xs.names.lookup y.1=some .cell\/xs.names.lookup y.1=some .free
 len:imp.length=N.length
 impsB:((imp.zip N).all fun p=>match p.1 with|none=>true|some j=>XN[j]? == some p.2&&scope.names.lookup p.2 == some .free)=true
theorem zU.imps {XN N:List Str}{xs scope:Scope}{imp:List (Option Nat)}(S:zU XN xs N imp scope):∀(i j:Nat),imp[i]?=some (some j)->∃x,N[i]?=some x/\XN[j]?=some x/\scope.names.lookup x=some .free:=by
 intro i j h;have hi:i<imp.length:=(zP1.mp h).1;have hn:i<N.length:=by rw[<-S.len];exact hi
 have hx:N[i]?=some N[i]:=zO9 hn;have hm:(some j,N[i])∈imp.zip N:=by
  have hz:(imp.zip N)[i]?=some (some j,N[i]):=by
   rw[List.getElem?_zip_eq_some];exact⟨h,hx⟩
  exact zT2 hz
 have q:=z05.mp S.impsB _ hm;have q':(XN[j]? == some N[i]&&scope.names.lookup N[i]==some .free)=true:=q;rw[zR3] at q';exact⟨N[i],hx,eq_of_beq q'.1,eq_of_beq q'.2⟩
def wK (imp:List (Option Nat))(σ:St):St:=imp.map fun o=>o.bind fun j=>(σ[j]?).bind id
theorem gR {imp:List (Option Nat)}{σ:St}{i:Nat}{v:V}(h:(wK imp σ)[i]?=some (some v)):∃j,imp[i]?=some (some j)/\σ[j]?=some (some v):=by
 unfold wK at h;rw[zQ2] at h;cases e:imp[i]? with
 |none=>rw[e] at h;cases h
 |some o=>
  rw[e] at h;have h':(o.bind fun j=>(σ[j]?).bind id)=some v:=zR7 h;cases o with
  |none=>cases h'
  |some j=>
   have h2:(σ[j]?).bind id=some v:=h';cases e2:σ[j]? with
   |none=>rw[e2] at h2;cases h2
   |some w=>
    rw[e2] at h2;have h3:w=some v:=h2;exact⟨j,rfl,by rw[e2,h3]⟩
def Cx.comp (X:Cx)(N:List Str)(scope:Scope)(C:Addr)(s2:Shared)(H2:Hp)(fp:List Addr):Cx where
 prog:=X.prog
 w:=X.w
 K:=X.K
 mg:=X.mg
 base:=X.base
 A:=X.A
 N:=N
 s₀:=s2
 H₀:=H2
 env:=compEnvC scope (uq X.env.cells scope.names []) C X.env
 outer:=X.stack
 stack:=X.stack
 ex:=fp
 fn:=fun _=>false
 calm:=X.calm
 pn:=[]
 xe:=fun _ _=>False
theorem uQ {env:Env}:∀{names:List (Str×NameKind)} {x:Str},
  (names.map fun (n,k)=>if (k == NameKind.free&&env.scope.kind == .function&&env.kindOf n == some .cell) then (n,NameKind.cell) else (n,k)).lookup x=some .cell\/
  (names.map fun (n,k)=>if (k == NameKind.free&&env.scope.kind == .function&&env.kindOf n == some .cell) then (n,NameKind.cell) else (n,k)).lookup x=some .free->
  (∀y∈names,y.2≠.cell)->(x,NameKind.free)∈names
 |[],x,h,_=>by simp at h
 |(n,k)::r,x,h,hc=>by
  have ih:=@uQ env r x;rw[zR4] at h;dsimp only at h;by_cases hx:x=n
  ·subst hx;by_cases hk:k=.free
   ·subst hk;exact zQ1
   ·have hk':(k == NameKind.free)=false:=by simpa using hk
    simp only[hk',zR6,zS9,zW3,zT7,beq_self_eq_true,zZ6] at h;rcases h with h|h
    ·have e:k=.cell:=zR7 h;exact absurd e (hc (x,k) zQ1)
    ·have e:k=.free:=zR7 h;exact absurd e hk
  ·have hxn:(x == n)=false:=by simpa using hx
   have step:∀(b:Bool) (l:List (Str×NameKind)),List.lookup x ((if b=true then (n,NameKind.cell) else (n,k))::l)=l.lookup x:=fun b l=>by
    cases b<;>simp[zT7,hxn]
   rw[step] at h;exact zP5 _ (ih h fun y hy=>hc y (zP5 _ hy))
theorem tW {env:Env}:∀{names:List (Str×NameKind)} {x:Str},names.lookup x=some .free->
  (names.map fun (n,k)=>if (k == NameKind.free&&env.scope.kind == .function&&env.kindOf n == some .cell) then (n,NameKind.cell) else (n,k)).lookup x=some .cell\/
  (names.map fun (n,k)=>if (k == NameKind.free&&env.scope.kind == .function&&env.kindOf n == some .cell) then (n,NameKind.cell) else (n,k)).lookup x=some .free
 |[],x,h=>by simp at h
 |(n,k)::r,x,h=>by
  have ih:=@tW env r x;rw[zR4];dsimp only;rw[zT7] at h;cases hx:x == n with
  |true=>
   rw[hx] at h;have e:k=.free:=zR7 h;subst e;by_cases hb:(NameKind.free == NameKind.free&&env.scope.kind == .function&&env.kindOf n == some .cell)=true
   ·left;rw[if_pos hb];simp[zT7,hx]
   ·right;rw[if_neg hb];simp[zT7,hx]
  |false=>
   rw[hx] at h;have step:∀(b:Bool) (l:List (Str×NameKind)),List.lookup x ((if b=true then (n,NameKind.cell) else (n,k))::l)=l.lookup x:=fun b l=>by
    cases b<;>simp[zT7,hx]
   rw[step];exact ih h
section
variable {X:Cx}{pins:List (Addr×Obj)}{σ:St}{H2 H':Hp}{s2 s':Shared}{fp:List Addr}{N:List Str}{imp:List (Option Nat)}{scope:Scope}{C acc:Addr}
theorem uh (I:Inv X pins σ H2 s2)(S:zU X.N X.env.scope N imp scope):∀y∈scope.names,y.2=.free->∃c,X.env.cells.lookup y.1=some c:=fun y hy hk=>I.ok.has y.1 (S.frees y hy hk)
theorem xS (I:Inv X pins σ H2 s2)(S:zU X.N X.env.scope N imp scope){x:Str}{c:Addr}(h:(uq X.env.cells scope.names []).lookup x=some c):(x,NameKind.free)∈scope.names/\X.env.cells.lookup x=some c:=by
 rcases mj scope.names [] (uh I S) x c (zU0 h) with q|q
 ·exact absurd q (by simp)
 ·exact q
theorem uV (I:Inv X pins σ H2 s2)(S:zU X.N X.env.scope N imp scope){x:Str}(h:(x,NameKind.free)∈scope.names):∃c,(uq X.env.cells scope.names []).lookup x=some c:=by
 obtain⟨c,hc⟩:=lF (cells:=X.env.cells) scope.names [] x h;exact mem_lookup hc
theorem ze4 {h1:Heap}{tk:Nat}{m:Str->Option Value}{n0:Nat}(I:Inv X pins σ H2 s2)(S:zU X.N X.env.scope N imp scope)(hf:∀b∈fp,xC X pins H2 b)(ho:∀b∈fp,∃o,s2.heap.get? b=some o)
  (hacc:acc=s2.heap.objs.size) (hC:C=s2.heap.objs.size+1) (old:∀b o,s2.heap.get? b=some o->h1.get? b=some o) (hn:h1.Ns C m)
  (hl:h1.get? acc=some {cls:=.type "list",data:=.seq ([]:List Value).toArray n0}):
  Inv (X.comp N scope C s2 H2 fp) [] (wK imp σ) (upd H2 acc (.lst [])) {s2 with heap:=h1,toks:=tk}:=by
 have fa:H2 acc=none:=I.hok.fresh (by rw[hacc];exact zP3 _);have cac:C≠acc:=by rw[hC,hacc];exact Nat.succ_ne_self _
 have clt:∀x c,X.env.cells.lookup x=some c->c<s2.heap.objs.size:=fun x c e=>by
  obtain⟨v,q⟩:=I.cell x c e;exact q.lt
 refine⟨⟨I.ok.mod,S.kind,I.ok.glob,I.ok.blt,?above,?inj,?has,?cab,I.ok.hd,I.ok.frames,.inl rfl,?exf,fun b o e=>I.bs b o e,zT3 I.ok.bsz I.sz,?noex,?exfs,I.stack,I.stkFree⟩,
  rfl,I.bare,Un.laid old (by rw[hacc];exact zP3 _) fa,⟨m,hn,?loc⟩,?cell,?free,?freeC,fun p hp=>absurd (show p∈([]:List (Addr×Obj)) from hp) (by simp),I.hok.laid old (by rw[hacc];exact zP3 _) ⟨zQ8 _,[],n0,.nil,hl⟩,?len⟩
 case above=>show s2.heap.objs.size<=C;rw[hC];exact zY1 _
 case inj=>exact fun x y c h1 h2=>I.ok.inj x y c (xS I S h1).2 (xS I S h2).2
 case has=>exact fun x hx=>uV I S (uQ (env:=X.env) hx S.nocell)
 case cab=>exact fun x c h _=>absurd h (by show ¬(false=true);simp)
 case exf=>
  intro b hb;obtain⟨o,hob⟩:=ho b hb;refine⟨?_,fun x c e=>(hf b hb).2.2.2.2.1 x c (xS I S e).2⟩;show b≠C;rw[hC];exact zQ7 (z39 (zP6 hob))
 case noex=>
  intro b o e hb;rcases (hf b hb).2.2.2.1 with z|z
  ·exact I.ok.noex b o e z
  ·exact absurd (zR0 (zP6 e) (zT3 I.ok.bsz z)) (zU5 _)
 case exfs=>
  intro b hb hz;rcases zP2.mp (I.stkSub b hz) with e|e
  ·exact (hf b hb).2.1 e
  ·exact (hf b hb).2.2.1 e
 case loc=>
  intro i x v e1 e2 e3;obtain⟨j,q1,q2⟩:=gR e2;obtain⟨y,n1,n2,n3⟩:=S.imps i j q1;have n1':(X.comp N scope C s2 H2 fp).N[i]?=some y:=n1;rw[n1'] at e1;have exy:y=x:=zR7 e1;subst exy;have hfr:=S.frees (y,.free) (zU0 n3) rfl;obtain⟨mX,hnX,hlX⟩:=I.loc;obtain⟨u,r,l⟩:=hlX j y v n2 q2 (.inr hfr);refine⟨u,r,?_⟩;rcases l with ⟨k,_⟩|⟨k,c,e,z⟩
  ·have k':X.env.scope.names.lookup y=some .local:=k;rcases hfr with z|z
   ·have z':X.env.scope.names.lookup y=some .cell:=z;rw[k'] at z';cases z'
   ·have z':X.env.scope.names.lookup y=some .free:=z;rw[k'] at z';cases z'
  ·obtain⟨d,hd⟩:=uV I S (zU0 n3);have hd2:=(xS I S hd).2;rw[e] at hd2;have edc:c=d:=zR7 hd2;subst edc;exact .inr ⟨tW (env:=X.env) n3,c,hd,z.keeps old⟩
 case cell=>
  intro x c e;obtain⟨v,q⟩:=I.cell x c (xS I S e).2;exact⟨v,q.keeps old⟩
 case free=>
  show upd H2 acc _ C=none;rw[zh cac];exact I.hok.fresh (by rw[hC];exact zY1 _)
 case freeC=>
  intro x c e;have e':=(xS I S e).2;have hlt:=clt x c e';show upd H2 acc _ c=none;rw[zh (by rw[hacc];exact zQ7 hlt)];exact I.freeC x c e'
 case len=>
  show (wK imp σ).length=N.length;unfold wK;rw[zO6];exact S.len
theorem eS {pl:List (Addr×Obj)}{τ:St}(I:Inv X pins σ H2 s2)(hf:∀b∈fp,xC X pins H2 b)(J:Inv (X.comp N scope C s2 H2 fp) pl τ H' s'):Inv X pins σ H' s':=
 I.call' (ch:=fp) J.os J.base J.hok J.bare fun b hb=>⟨(hf b hb).2.2.2.1,(hf b hb).2.1,(hf b hb).2.2.2.2.1,(hf b hb).2.2.2.2.2⟩
end
section
variable {prog:Program}{w:World}{A:Around}{R:Result->Shared->Prop}{s:Shared}
theorem oq {elt target iter:Expr}{ifs:List Expr}{scope:Scope}{pos:Pos}{it acc:Value}{env:Env}(I:Nat->Shared->Prop)
  (turn:∀n s,I n s->wpAny (model prog w) A (pyNext it) (fun r s1=>match r with
   |none=>R (.ok .next) s1
   |some v=>wpAny (model prog w) A (letOwnedTupleGo target it v) (fun _ s2=>wpAny (model prog w) A (assign target env v) (fun _ s3=>
     wpAny (model prog w) A (forIn ifs true fun c r=>if r=true then do let ok <-isTrue c env (eval c env);pure (ForInStep.yield ok) else pure (ForInStep.yield r)) (fun ok s4=>
      if ok=true then wpAny (model prog w) A (eval elt env) (fun x s5=>
       wpAny (model prog w) A (call (.builtin "list.append") [acc,x]) (fun _ s6=>∃m,m<n/\I m s6) (fun _ _=>False) s5) (fun _ _=>False) s4
      else ∃m,m<n/\I m s4) (fun _ _=>False) s3) (fun _ _=>False) s2) (fun _ _=>False) s1) (fun _ _=>False) s)
  (n:Nat) (h:I n s):codeAny (model prog w) A (.compLoop (.ListComp elt [⟨target,iter,ifs,0⟩] scope pos) 0 it acc env) R s:=by
 refine codeAny_loop rfl I (fun n s hI=>?_) n h;show wpAny _ A ((compTurn (.ListComp elt [⟨target,iter,ifs,0⟩] scope pos) 0 it acc env).onRaise (fun x=>do noteFrame x env;theTreesLotGoes x)) _ _ s;refine wpAny_noted ?_;rw[compTurn_list];refine zO7 (wpAny_standAt (zO7 (zT6 (turn n s hI) (fun r s1 h1=>?_) fun _ _ h'=>False.elim h')));cases r with
 |none=>exact zP8 h1
 |some v=>
  refine zO7 (zT6 h1 (fun _ s2 h2=>?_) fun _ _ h'=>False.elim h');refine zO7 (zT6 h2 (fun _ s3 h3=>zO7 (zT6 h3 (fun ok s4 h4=>?_) fun _ _ h'=>False.elim h')) fun _ _ h'=>False.elim h');cases ok with
  |false=>exact zP8 ⟨rfl,h4⟩
  |true=>
   exact zO7 (zO7 (zT6 h4 (fun x s5 h5=>zO7 (zT6 h5 (fun _ s6 h6=>zP8 (zP8 ⟨rfl,h6⟩)) fun _ _ h'=>False.elim h')) fun _ _ h'=>False.elim h'))
end
def vA (Y:Cx)(ifs:List Expr)(t:TT):Prop:=
 ∀(pins:List (Addr×Obj)) (s:Shared) (σ:St) (H:Hp) (Q:Bool->Hp->Prop),Inv Y pins σ H s->t σ H Q->
  wpAny (model Y.prog Y.w) Y.A (forIn ifs true fun c r=>if r=true then do let ok <-isTrue c Y.env (eval c Y.env);pure (ForInStep.yield ok) else pure (ForInStep.yield r)) (TP Y pins σ Q) Y.xe s
def zN5 :TT:=fun _ H Q=>Q true H
theorem zp8 {Y:Cx}:vA Y [] zN5:=fun _ _ _ H _ I h=>wpAny_tests_nil ⟨H,I,h⟩
theorem ib {Y:Cx}{c:Expr}{t:TT}(h:PT Y c t):vA Y [c] t:=fun pins s σ H Q I q=>wpAny_tests_one (h pins s σ H Q I q)
def oR (J:It)(acc:Addr)(g:TG)(tt:TT)(te:TE)(τ0:St)(H0:Hp)(Q:VK):Prop:=
 ∃W:Nat->Nat->List V->St->Hp->Prop,(∃m,W 0 m [] τ0 H0)/\∀i m ys τ H2,W i m ys τ H2->
  (J.stop i H2/\Q (.ref acc) H2)\/(J.go i H2/\∃N:List V->St->Hp->Prop,(∀ys' τ' H',N ys' τ' H'->∃m',m'<m/\W (i+1) m' ys' τ' H')/\
   ∀x H3,J.yld i H2 x H3->g x τ H3 fun τ2 H4=>tt τ2 H4 fun c H5=>
    if c=true then te τ2 H5 fun y H6=>H6 acc=some (.lst ys)/\ys.length<sizeLine/\N (ys++[y]) τ2 (upd H6 acc (.lst (ys++[y]))) else N ys τ2 H5)
def za3 (wi:TI)(imp:List (Option Nat))(g:TG)(tt:TT)(te:TE):TE:=fun σ H Q=>wi σ H fun J H1=>∀acc,H1 acc=none->oR J acc g tt te (wK imp σ) (upd H1 acc (.lst [])) Q
section
variable {X:Cx}{pins:List (Addr×Obj)}{σ:St}{elt iter tg:Expr}{ifs:List Expr}{scope:Scope}{pos:Pos}{wi:TI}{g:TG}{tt:TT}{te:TE}{N:List Str}{imp:List (Option Nat)}
theorem rE {H2:Hp}{s2:Shared}{it:Addr}{fp:List Addr}{tn:Nat->Heap->Prop}{J:It}{RR:Value->Addr->Result->Shared->Prop}{E:Value->Shared->Prop}{Q:VK}
  (hc:X.calm=true) (S:zU X.N X.env.scope N imp scope) (hg:∀C s2 H2 fp,PG (X.comp N scope C s2 H2 fp) tg g) (ht:∀C s2 H2 fp,vA (X.comp N scope C s2 H2 fp) ifs tt) (he:∀C s2 H2 fp,PE (X.comp N scope C s2 H2 fp) elt te)
  (I2:Inv X pins σ H2 s2) (T:Turn X.prog X.w X.K tg J fp it tn) (st2:tn 0 s2.heap) (f2:∀b∈fp,xC X pins H2 b)
  (hW:∀acc,H2 acc=none->oR J acc g tt te (wK imp σ) (upd H2 acc (.lst [])) Q)
  (hRR:∀a C H' s' m,Inv X pins σ H' s'->s'.heap.Ns C m->xC X pins H' C->Q (.ref a) H'->RR (.ref a) C (.ok .next) s'):
  wpAny (model X.prog X.w) X.A (newList []) (fun acc s3=>wpAny (model X.prog X.w) X.A (newFunctionEnv scope X.env.globals (uq X.env.cells scope.names []) [] X.env.qual none .none (some X.env)) (fun cenv s4=>
   codeAny (model X.prog X.w) X.A (.compStart (.ListComp elt [⟨tg,iter,ifs,0⟩] scope pos) 0 (.ref it) acc {cenv with scope:=relabel scope X.env}) (RR acc cenv.locals) s4) E s3) E s2:=by
 refine wpAny_newObj_type (wpAny_newFunctionEnv S.nocell (by intro y hy;simp at hy) (fun h1 hns1 hsb1=>?_) S.kind);dsimp only at hns1 hsb1 ⊢;generalize hHH:s2.heap.push {cls:=.type "list",dict:=none,data:=.seq ([]:List Value).toArray}=HH at hns1 hsb1 ⊢;have hC:HH.objs.size=s2.heap.objs.size+1:=by rw[<-hHH,zU7]
 have hDC:s2.heap.objs.size≠HH.objs.size:=by rw[hC];exact zQ7 (zZ3 _)
 have old:∀b o,s2.heap.get? b=some o->h1.get? b=some o:=fun b o e=>hsb1.extBut b o (by rw[hC];exact zQ7 (z39 (zP6 e))) (zO8 _ (hHH▸zO8 _ e));have hacc:h1.get? s2.heap.objs.size=some {cls:=.type "list",data:=.seq ([]:List Value).toArray}:=hsb1.extBut _ _ hDC (zO8 _ (hHH▸zP9 _ rfl));obtain⟨W,⟨m0,w0⟩,turn⟩:=hW s2.heap.objs.size I2.fresh;generalize hCC:HH.objs.size=C at hns1 hsb1 hC hDC ⊢;have ho:∀b∈fp,∃o,s2.heap.get? b=some o:=fun b hb=>let ⟨o,e,_⟩:=T.obj 0 _ st2 b hb;⟨o,e⟩;generalize hacc0:s2.heap.objs.size=acc at *;have loop:∀s3:Shared,s3={s2 with heap:=h1,toks:=s2.toks+([]:List (Str×Value)).length}->
   codeAny (model X.prog X.w) X.A (.compLoop (.ListComp elt [⟨tg,iter,ifs,0⟩] scope pos) 0 (.ref it) (.ref acc) (X.comp N scope C s2 H2 fp).env) (RR (.ref acc) C) s3:=by
  rintro s3 rfl;have I3:Inv (X.comp N scope C s2 H2 fp) [] (wK imp σ) (upd H2 acc (.lst [])) {s2 with heap:=h1,toks:=s2.toks+([]:List (Str×Value)).length}:=
   ze4 I2 S f2 ho hacc0.symm (by rw[hC,hacc0]) old hns1 hacc
  have fpn:∀b∈fp,upd H2 acc (.lst []) b=none:=fun b hb=>by
   obtain⟨o,e⟩:=ho b hb;rw[zh (by rw[<-hacc0];exact zQ7 (zP6 e))];exact (f2 b hb).1
  have stat:∀{H':Hp},(∀b∈fp,H' b=none)->∀b∈fp,xC (X.comp N scope C s2 H2 fp) [] H' b:=fun hn b hb=>by
   obtain⟨e1,e2⟩:=I3.ok.exf b hb;exact⟨hn b hb,e1,I3.ok.exfs b hb,.inl hb,e2,fun p hp=>absurd (show p∈([]:List (Addr×Obj)) from hp) (by simp)⟩
  refine oq (fun n s'=>∃i ys τ H',Inv (X.comp N scope C s2 H2 fp) [] τ H' s'/\tn i s'.heap/\(∀b∈fp,H' b=none)/\W i n ys τ H') ?_ m0
   ⟨0,[],_,_,I3,T.keep _ _ _ st2 fun b _ o e=>old b o e,fpn,w0⟩
  rintro n s4 ⟨i,ys,τ,H4,I4,st4,fr4,w4⟩;rcases turn i n ys τ H4 w4 with ⟨stop,qn⟩|⟨go,NN,hN,step⟩
  ·refine zT6 (T.done (X.comp N scope C s2 H2 fp) rfl rfl rfl hc i [] s4 τ H4 (fun _ _=>False) I4 (stat fr4) st4 stop) (fun r s5 ⟨hr,I5⟩=>?_) fun _ _ z=>z;subst hr;obtain⟨m5,hn5,_⟩:=id I5.loc;exact hRR acc C H4 s5 m5 (eS I2 f2 I5) hn5 (I2.fpOk (by rw[hC,hacc0];exact zY1 _) I5.free) qn
  ·refine zT6 (T.item (X.comp N scope C s2 H2 fp) rfl rfl rfl hc i [] s4 τ H4 (fun _ _=>False) I4 (stat fr4) st4 go) (fun r s5 ⟨u,hr,h5⟩=>?_) fun _ _ z=>z;subst hr;refine zT6 h5 (fun _ s6 ⟨x,H6,I6,r6,y6,st6,fr6⟩=>?_) fun _ _ z=>z;have I6':=I6.pinned (stat fr6) (T.obj _ _ st6);refine zT6 (hg C s2 H2 fp _ s6 τ H6 x u _ I6' r6 (step x H6 y6)) (fun _ s7 ⟨τ7,H7,I7,q7⟩=>?_) fun _ _ z=>z;refine zT6 (ht C s2 H2 fp _ s7 τ7 H7 _ I7 q7) (fun ok s8 ⟨H8,I8,q8⟩=>?_) fun _ _ z=>z;have again:∀{ys9:List V} {H9:Hp} {s9:Shared},Inv (X.comp N scope C s2 H2 fp) ([]++qH fp s6.heap) τ7 H9 s9->NN ys9 τ7 H9->∃m,m<n/\∃i ys τ H',Inv (X.comp N scope C s2 H2 fp) [] τ H' s9/\tn i s9.heap/\(∀b∈fp,H' b=none)/\W i m ys τ H':=fun {ys9 H9 s9} I9 n9=>by
    obtain⟨m',hm,w9⟩:=hN ys9 τ7 H9 n9;refine⟨m',hm,i+1,ys9,τ7,H9,I9.unpinned,T.keep _ _ _ st6 fun b hb o e=>(I9.pin (b,o) (zS8 _ (zS8 _ (vc hb e)))).1,fun b hb=>?_,w9⟩;obtain⟨o,e,d⟩:=T.obj _ _ st6 b hb;exact (I9.pin (b,o) (zS8 _ (zS8 _ (vc hb e)))).2.1
   cases ok with
   |false=>
    have q8':NN ys τ7 H8:=by
     have z:=q8;rw[if_neg zQ5] at z;exact z
    rw[if_neg zQ5];exact again I8 q8'
   |true=>
    rw[if_pos rfl] at q8 ⊢;refine zT6 (he C s2 H2 fp _ s8 τ7 H8 _ I8 q8) (fun v s9 ⟨y,H9,I9,r9,a9,z9,q9⟩=>?_) fun _ _ z=>z;refine zT6 (pL (X:=X.comp N scope C s2 H2 fp) _ s9 τ7 H9 (.ref acc) [y] (.ref acc) [v] (fun _ H10=>H10=upd H9 acc (.lst (ys++[y]))) I9 rfl (.cons r9 .nil) ⟨acc,ys,y,rfl,rfl,a9,z9,rfl⟩) (fun _ s10 ⟨_,H10,I10,_,e10⟩=>?_) fun _ _ z=>z;subst e10;exact again I10 q9
 exact codeAny_compStart_list (loop _ rfl) (T.self X.A 0 _ _ _ (T.keep _ _ _ st2 fun b _ o e=>old b o e) (loop _ rfl))
theorem zs7 (hc:X.calm=true)(S:zU X.N X.env.scope N imp scope)(hi:PI X tg iter wi)(hg:∀C s2 H2 fp,PG (X.comp N scope C s2 H2 fp) tg g)(ht:∀C s2 H2 fp,vA (X.comp N scope C s2 H2 fp) ifs tt)
  (he:∀C s2 H2 fp,PE (X.comp N scope C s2 H2 fp) elt te) (hs:∀x,foldedSetIterable iter X.env x=pure x:=by intro _;rfl):
  PE X (.ListComp elt [⟨tg,iter,ifs,0⟩] scope pos) (za3 wi imp g tt te):=by
 intro pins s σ H Q I h;rw[eval_ListComp];refine wpAny_comprehension_free (use:=none) rfl hs (ue (uh I S)) S.kind S.locs (thn (hi pins s σ H _ I h) fun v s1 h1=>thn h1 fun itv s2 h2=>?_);obtain⟨it,fp,tn,J,H2,e,I2,T,st2,f2,hW⟩:=h2;subst e;refine rE (RR:=fun acc C=>compPost (model X.prog X.w) X.A X.xe none (EP X pins σ Q) acc C) hc S hg ht he I2 T st2 f2 hW fun a C H' s' m I' hn f q=>?_;refine⟨m,hn,fun h' sb=>?_⟩;obtain⟨g0,g1,g2,g3,g4,g5⟩:=f;exact⟨.ref a,H',I'.turned (t':=s'.toks) (it:=C) (fun b o hb e=>(sb.2 b hb).trans e) g0 g1 g3 g4 g5,rfl,q⟩
theorem aM {i:Nat}{x:Str}{px:Pos}{spos:Pos}(hc:X.calm=true)(S:zU X.N X.env.scope N imp scope)(hi:PI X tg iter wi)(hg:∀C s2 H2 fp,PG (X.comp N scope C s2 H2 fp) tg g)(ht:∀C s2 H2 fp,vA (X.comp N scope C s2 H2 fp) ifs tt)
  (he:∀C s2 H2 fp,PE (X.comp N scope C s2 H2 fp) elt te) (hN:X.N.Nodup) (hx:X.N[i]?=some x) (hl:Loc X.env.scope x) (hsw:swapsWith (.ListComp elt [⟨tg,iter,ifs,0⟩] scope pos) (some (.Name x px)) spos.line X.env=pure true:=by rfl)
  (hf:X.fn x=true\/X.env.scope.names.lookup x=some .local:=by first|exact .inl rfl|exact .inr rfl|assumption) (hs:∀x,foldedSetIterable iter X.env x=pure x:=by intro _;rfl):
  PS X (.Assign [.Name x px] (.ListComp elt [⟨tg,iter,ifs,0⟩] scope pos) spos) (zy4 (za3 wi imp g tt te) (pR i)):=by
 intro pins s σ H D I h;rw[exec_Assign_Name_used _ _ _ _ hsw];refine zO7 (wpAny_standAt (zO7 ?_));show wpAny _ X.A (do let _ <-comprehension (.ListComp elt [⟨tg,iter,ifs,0⟩] scope pos) scope X.env _ (newList []) false (eval iter X.env) (some (assign (.Name x px) X.env))) _ _ s;refine zO7 (zT6 (wpAny_comprehension_free (use:=some (assign (.Name x px) X.env)) (Q:=fun _ s'=>SP X pins D .next s') rfl hs (ue (uh I S)) S.kind S.locs (thn (hi pins s σ H _ I h) fun v s1 h1=>thn h1 fun itv s2 h2=>?_))
  (fun _ s' hq=>zP8 (zP8 hq)) fun _ _ e=>e)
 obtain⟨it,fp,tn,J,H2,e,I2,T,st2,f2,hW⟩:=h2;subst e;refine rE (Q:=fun x H1=>pR i x σ H1 D.nx) (RR:=fun acc C=>compPost (model X.prog X.w) X.A X.xe (some (assign (.Name x px) X.env)) (fun _ s'=>SP X pins D .next s') acc C) hc S hg ht he I2 T st2 f2 hW fun a C H' s' m I' hn f q=>?_;show wpAny _ X.A (assign (.Name x px) X.env (.ref a)) _ _ _;obtain⟨g0,g1,g2,g3,g4,g5⟩:=f;refine wpAny_assign_Name (pU I' hN hx hl (show RelV (.ref a) (.ref a) from rfl) (fun s4 I4 hch=>?_) hf);obtain⟨ad,sb,had⟩:=hch;have hCa:C≠ad:=by
  rcases had with e|e
  ·rw[e];exact g1
  ·exact (g4 x ad e).symm
 refine⟨m,hn.sameBut sb hCa,fun h' sb2=>?_⟩;exact⟨_,H',I4.turned (t':=s4.toks) (it:=C) (fun b o hb e=>(sb2.2 b hb).trans e) g0 g1 g3 g4 g5,q⟩
end
mutual
inductive DV (H:Hp):V->PyData->Prop where
 |non:DV H .non .none
 |bl (b:Bool):DV H (.bl b) (.bool b)
 |int (i:Int):DV H (.int i) (.int i)
 |str (x:Str):DV H (.str x) (.str x)
 |lst {a:Addr} {xs:List V} {ds:List PyData}:H a=some (.lst xs)->DVs H xs ds->DV H (.ref a) (.list ds)
 |tup {a:Addr} {xs:List V} {ds:List PyData}:H a=some (.tup xs)->DVs H xs ds->DV H (.ref a) (.tuple ds)
inductive DVs (H:Hp):List V->List PyData->Prop where
 |nil:DVs H [] []
 |cons {x:V} {xs:List V} {d:PyData} {ds:List PyData}:DV H x d->DVs H xs ds->DVs H (x::xs) (d::ds)
end
section
variable {X:Cx}{pins:List (Addr×Obj)}{σ:St}{H:Hp}{s:Shared}
mutual
theorem DV.reads (I:Inv X pins σ H s):∀{x:V} {d:PyData} {u:Value},DV H x d->RelV x u->∃as,Reads s.heap u d as
 |_,_,u,.non,r=>by cases (show u=Value.none from r);exact⟨_,.none⟩
 |_,_,u,.bl b,r=>by cases (show u=Value.bool b from r);exact⟨_,.bool b⟩
 |_,_,u,.int i,r=>by obtain⟨t,rfl⟩:=(show ∃t,u=Value.int i t from r);exact⟨_,.int i t⟩
 |_,_,u,.str x,r=>by obtain⟨t,rfl⟩:=(show ∃t,u=Value.str x t from r);exact⟨_,.str x t⟩
 |_,_,u,.lst (a:=a) hq hs,r=>by
  cases (show u=Value.ref a from r);obtain⟨its,rv,p,hz⟩:=I.list (SqL.of hq);obtain⟨o,ho,hc,n,hd⟩:=p.isList;obtain⟨as,ra⟩:=DVs.reads I hs rv;exact⟨_,.list ho hc hd (by simpa using ra)⟩
 |_,_,u,.tup (a:=a) hq hs,r=>by
  cases (show u=Value.ref a from r);obtain⟨its,rv,p,hz⟩:=I.tuple (SqT.of hq);obtain⟨o,ho,hc,n,hd⟩:=p;obtain⟨as,ra⟩:=DVs.reads I hs rv;exact⟨_,.tuple ho hc hd (by simpa using ra)⟩
theorem DVs.reads (I:Inv X pins σ H s):∀{xs:List V} {ds:List PyData} {us:List Value},DVs H xs ds->Vals xs us->∃as,ReadsAll s.heap us ds as
 |_,_,_,.nil,.nil=>⟨_,.nil⟩
 |_,_,_,.cons h hs,.cons r rs=>by
  obtain⟨as,ra⟩:=DV.reads I h r;obtain⟨bs,rb⟩:=DVs.reads I hs rs;exact⟨_,.cons ra rb⟩
end
end
mutual
theorem DV.same {H H':Hp}(e:zz H H'):∀{x:V} {d:PyData},DV H x d->DV H' x d
 |_,_,.non=>.non
 |_,_,.bl b=>.bl b
 |_,_,.int i=>.int i
 |_,_,.str x=>.str x
 |_,_,.lst hq hs=>.lst (e _ _ hq) (DVs.same e hs)
 |_,_,.tup hq hs=>.tup (e _ _ hq) (DVs.same e hs)
theorem DVs.same {H H':Hp}(e:zz H H'):∀{xs:List V} {ds:List PyData},DVs H xs ds->DVs H' xs ds
 |_,_,.nil=>.nil
 |_,_,.cons h hs=>.cons (DV.same e h) (DVs.same e hs)
end
theorem DVs.length {H:Hp}:∀{xs:List V} {ds:List PyData},DVs H xs ds->xs.length=ds.length
 |_,_,.nil=>rfl
 |_,_,.cons _ hs=>by rw[zQ4,zQ4,DVs.length hs]
def tyD :PyData->String
 |.none=>"NoneType"
 |.bool _=>"bool"
 |.int _=>"int"
 |.str _=>"str"
 |.list _=>"list"
 |.tuple _=>"tuple"
 |.dict _=>"dict"
theorem DV.ty {K:PySem.W.Frag}{H:Hp}{x:V}{d:PyData}(h:DV H x d):uS K H x (.type (tyD d)):=by
 cases h with
 |non=>exact .non
 |bl b=>exact .bl b
 |int i=>exact .int i
 |str x=>exact .str x
 |lst e _=>exact .lst e
 |tup e _=>exact .tup e
def isInt :PyData->Bool
 |.int _=>true
 |.bool _=>true
 |_=>false
def isBool :PyData->Bool
 |.bool _=>true
 |_=>false
def isStr :PyData->Bool
 |.str _=>true
 |_=>false
def isList :PyData->Bool
 |.list _=>true
 |_=>false
def sL :PyData->Bool
 |.tuple _=>true
 |_=>false
def qS (T:String)(d:PyData):Option Bool:=
 if T="int" then some (isInt d) else if T="bool" then some (isBool d) else if T="str" then some (isStr d) else if T="list" then some (isList d) else if T="tuple" then some (sL d) else none
def zt9 (t T:String):Option Bool:=if (Value.type t == Value.type T)=true then some true else if PySem.W.kitMeta T=true then (fastBuiltinMro t).map (·.contains (Value.type T)) else none
theorem aK (K:PySem.W.Frag)(t T:String):PySem.W.kitOne K (.type t) (.type T)=zt9 t T:=rfl
theorem dZ :(["NoneType","bool","int","str","list","tuple"].all fun t=>["int","bool","str","list","tuple"].all fun T=>
  zt9 t T == some (if T="int" then t == "int"||t == "bool" else t == T))=true:=by decide +kernel
theorem zK9 (K:PySem.W.Frag){H:Hp}{x:V}{d:PyData}(h:DV H x d){T:String}{b:Bool}(e:qS T d=some b):PySem.W.kitOne K (.type (tyD d)) (.type T)=some b:=by
 rw[aK];have key:∀t∈["NoneType","bool","int","str","list","tuple"],∀T∈["int","bool","str","list","tuple"],zt9 t T=some (if T="int" then t == "int"||t == "bool" else t == T):=fun t ht T hT=>
  eq_of_beq (z05.mp (z05.mp dZ t ht) T hT)
 have hd:tyD d∈["NoneType","bool","int","str","list","tuple"]:=by cases h<;>simp[tyD]
 unfold qS at e;split at e
 ·rename_i eT;subst eT;rw[key _ hd "int" (by decide)];cases e;cases h<;>rfl
 ·split at e
  ·rename_i eT;subst eT;rw[key _ hd "bool" (by decide)];cases e;cases h<;>rfl
  ·split at e
   ·rename_i eT;subst eT;rw[key _ hd "str" (by decide)];cases e;cases h<;>rfl
   ·split at e
    ·rename_i eT;subst eT;rw[key _ hd "list" (by decide)];cases e;cases h<;>rfl
    ·split at e
     ·rename_i eT;subst eT;rw[key _ hd "tuple" (by decide)];cases e;cases h<;>rfl
     ·cases e
section
variable {X:Cx}
def zJ2 :R2:=fun x y H Q=>∃d e,DV H x d/\DV H y e/\SeqAt.shaped d=true/\SeqAt.shaped e=true/\Q (.bl (PyData.eqv d e)) H
def zJ8 :R2:=fun x y H Q=>∃d e,DV H x d/\DV H y e/\SeqAt.shaped d=true/\SeqAt.shaped e=true/\Q (.bl (!PyData.eqv d e)) H
theorem vI (hu:X.A.units+64<cLine):OpR X (compareOp .Eq) zJ2:=by
 intro pins s σ H x y v u Q I rx ry h;obtain⟨d,e,hd,he,sd,se,q⟩:=h;obtain⟨as,ra⟩:=hd.reads I rx;obtain⟨bs,rb⟩:=he.reads I ry;exact SeqAt.compareEq_shaped ra rb sd se hu ⟨.bl _,H,I,rfl,q⟩
theorem zC8 (hu:X.A.units+64<cLine):OpR X (compareOp .NotEq) zJ8:=by
 intro pins s σ H x y v u Q I rx ry h;obtain⟨d,e,hd,he,sd,se,q⟩:=h;obtain⟨as,ra⟩:=hd.reads I rx;obtain⟨bs,rb⟩:=he.reads I ry;exact SeqAt.compareNe_shaped ra rb sd se hu ⟨.bl _,H,I,rfl,q⟩
theorem za6 :xj X (.builtin "isinstance") (fun xs H Q=>∃x T t b,xs=[x,.ty T]/\uS X.K H x t/\PySem.W.kitOne X.K t (.type T)=some b/\Q (.bl b) H):=by
 intro pins s σ H xs us Q I r h;obtain⟨x,T,t,b,rfl,ty,e,q⟩:=h;obtain⟨u,v,rfl,rx,ry⟩:=Vals.two r;cases (show v=Value.type T from ry);exact eM I rx ty e fun tk=>⟨.bl b,H,I.tok tk,rfl,q⟩
theorem xP :xj X (.builtin "isinstance") (fun xs H Q=>∃x T d b,xs=[x,.ty T]/\DV H x d/\qS T d=some b/\Q (.bl b) H):=by
 intro pins s σ H xs us Q I r h;obtain⟨x,T,d,b,e,hd,ht,q⟩:=h;exact za6 pins s σ H xs us Q I r ⟨x,T,_,b,e,hd.ty,zK9 X.K hd ht,q⟩
def zr8 (i j:Int):Prop:=0<j/\j.natAbs.log2<9000
theorem uF :OpR X (binaryOp .FloorDiv) (rI zr8 fun i j=>.int (i / j)):=opI fun i j _ _ _ _ _ hc q=>by
 have h1:(0:Int)<j:=hc.1;refine floordiv_int (Int.ne_of_gt h1) ?_ (.inl (PyProof.noPylong_of_log2 hc.2));rw[Int.fdiv_eq_ediv_of_nonneg _ (Int.le_of_lt h1)];exact q
abbrev big :Int:=115792089237316195423570985008687907853269984665640564039457584007913129639936
theorem log2_small {j:Int}(h0:0<j)(h:j<big):j.natAbs.log2<9000:=by
 have hn:j.natAbs≠0:=by omega
 have h2:j.natAbs<2 ^ 256:=by
  have e:(2:Nat) ^ 256=115792089237316195423570985008687907853269984665640564039457584007913129639936:=by decide +kernel
  rw[e];unfold big at h;omega
 have h3:j.natAbs.log2<256:=(Nat.log2_lt hn).mpr h2;omega
theorem mq :xj X (.type "range") (fun xs H Q=>∃i j:Int,xs=[.int i,.int j]/\∀p,H p=none->Q (.ref p) (upd H p (.rng i j))):=by
 intro pins s σ H xs us Q I r h;obtain⟨i,j,rfl,q⟩:=h;obtain⟨u,v,rfl,⟨t,rfl⟩,⟨t',rfl⟩⟩:=Vals.two r;refine call_range_2 ⟨.ref s.heap.objs.size,_,I.laid (o:=.rng i j) (fun b u e=>zO8 _ e) (zP3 _) ⟨t,t',s.toks,zP9 _ rfl⟩,rfl,q _ (I.hok.fresh (zP3 _))⟩
def zt (lo:Int)(n:Nat):List Int:=(List.range n).map fun i=>lo+(i:Nat)
theorem zi (lo:Int)(n:Nat):(zt lo n).length=n:=by simp[zt]
theorem yy {lo:Int}{n i:Nat}(h:i<n):(zt lo n)[i]?=some (lo+(i:Nat)):=by simp[zt,h]
theorem qL {lo:Int}{n:Nat}{acc:Array Value}(h:ItemsOf (fun i v=>∃t,v=.int (lo+i*1) t) acc n):Vals ((zt lo n).map V.int) acc.toList:=by
 obtain⟨h1,h2⟩:=h;have key:∀(xs:List V) (us:List Value),xs.length=us.length->(∀(i:Nat) (x:V) (u:Value),xs[i]?=some x->us[i]?=some u->RelV x u)->Vals xs us:=by
  intro xs
  induction xs with
  |nil=>intro us hl _;cases us with|nil=>exact .nil|cons _ _=>simp at hl
  |cons x xs ih=>
   intro us hl hr;cases us with
   |nil=>simp at hl
   |cons u us=>exact .cons (hr 0 x u rfl rfl) (ih us (by simpa using hl) fun i x' u' e1 e2=>hr (i+1) x' u' (by simpa using e1) (by simpa using e2))
 refine key _ _ ?_ fun i x u e1 e2=>?_
 ·rw[zO6,zi];simp[h1]
 ·rw[zQ2] at e1;have hi:i<n:=by
   have:=(zP1.mp e2).1;simp[h1] at this;exact this
  rw[yy hi] at e1;have e1':V.int (lo+(i:Nat))=x:=zR7 e1;subst e1';obtain⟨t,ht⟩:=h2 i u (by simpa using e2);refine⟨t,?_⟩;rw[ht,Int.mul_one]
theorem qO (hc:X.calm=true):xj X (.type "list") (fun xs H Q=>∃(p:Addr) (lo hi:Int),xs=[.ref p]/\H p=some (.rng lo hi)/\(-(2 ^ 62)<=lo/\lo<2 ^ 62/\-(2 ^ 62)<=hi/\hi<2 ^ 62)/\(hi-lo).toNat<=sizeLine/\(hi-lo).toNat<=2 ^ 24/\
  ∀l,H l=none->Q (.ref l) (upd H l (.lst ((zt lo (hi-lo).toNat).map V.int)))):=by
 intro pins s σ H xs us Q I r h;obtain⟨p,lo,hi,rfl,hp,⟨b1,b2,b3,b4⟩,hz,hz2,q⟩:=h;obtain⟨u,rfl,rx⟩:=Vals.one r;cases (show u=Value.ref p from rx);obtain⟨t,t',t'',e⟩:=(show zM X.prog X.w H s.heap p (.rng lo hi) from I.hok p _ hp);refine call_list_range (I.ok.hd hc) e (small_one b1 b2 b3 b4) (n:=(hi-lo).toNat) (by rw[rangeSize_one];split<;>omega) hz2 fun h' tk acc' c' hk hl hit=>?_;refine⟨.ref s.heap.objs.size,_,I.laid (o:=.lst ((zt lo (hi-lo).toNat).map V.int)) (t':=tk) hk (zP3 _) ⟨by rw[zO6,zi];exact hz,acc'.toList,c',qL hit,by simpa using hl⟩,rfl,q _ (I.hok.fresh (zP3 _))⟩
theorem cD {bs:List Bool}:∀{us:List Value},Vals (bs.map V.bl) us->LSm.BoolsAre us bs:=by
 induction bs with
 |nil=>intro us h;cases h;exact .nil
 |cons b bs ih=>
  intro us h;cases h with
  |cons r rr=>
   cases (show _=Value.bool b from r);exact .cons b (ih rr)
end
def zm5 (X:Cx)(body:List Stmt):TS:=fun D σ H=>∃t,PSs X body t/\t D σ H
theorem ya {X:Cx}{body:List Stmt}:PSs X body (zm5 X body):=fun pins s σ H D I ⟨t,p,q⟩=>p pins s σ H D I q
theorem yb {X:Cx}{st:Stmt}{rest:List Stmt}{D:Ends}{σ:St}{H:Hp}(M:St->Hp->Prop)(h1:∃t,PS X st t/\t {D with nx:=M} σ H)(h2:∀σ' H',M σ' H'->∃t,PSs X rest t/\t D σ' H'):
  ∃t,PSs X (st::rest) t/\t D σ H:=by
 obtain⟨t1,p1,q1⟩:=h1;refine⟨fun D' σ' H'=>D'=D/\σ'=σ/\H'=H,?_,rfl,rfl,rfl⟩;intro pins s σ' H' D' I h;obtain⟨e1,e2,e3⟩:=h;subst e1 e2 e3;have step:PSs X (st::rest) (zG0 t1 fun D2 σ2 H2=>D2=D'/\M σ2 H2):=zJ p1 fun pins s σ2 H2 D2 I2 ⟨e,m⟩=>by
  subst e;obtain⟨t2,p2,q2⟩:=h2 σ2 H2 m;exact p2 pins s σ2 H2 _ I2 q2
 refine step pins s _ _ _ I ?_;show t1 {D' with nx:=fun σ2 H2=>D'=D'/\M σ2 H2} _ _;have e:(fun (σ2:St) (H2:Hp)=>D'=D'/\M σ2 H2)=M:=by
  funext σ2 H2
  exact propext ⟨fun z=>z.2,fun z=>⟨rfl,z⟩⟩
 rw[e];exact q1
theorem fL {K:PySem.W.Frag}{a acc:Addr}{xs:List V}{g:TG}{tt:TT}{te:TE}{Q:VK}{τ0:St}{H0:Hp}(Pv:Nat->List V->St->Hp->Prop)(h0:Pv 0 [] τ0 H0)(hl:∀i ys τ H,i<=xs.length->Pv i ys τ H->SqL K H a xs)
  (hs:∀i x ys τ H,xs[i]?=some x->Pv i ys τ H->g x τ H fun τ2 H4=>tt τ2 H4 fun c H5=>
   if c=true then te τ2 H5 fun y H6=>H6 acc=some (.lst ys)/\ys.length<sizeLine/\Pv (i+1) (ys++[y]) τ2 (upd H6 acc (.lst (ys++[y]))) else Pv (i+1) ys τ2 H5)
  (hd:∀ys τ H,Pv xs.length ys τ H->Q (.ref acc) H):
  oR (Itl K a) acc g tt te τ0 H0 Q:=by
 refine⟨fun i m ys τ H=>m=xs.length-i/\i<=xs.length/\Pv i ys τ H,⟨xs.length,by simp,zQ8 _,h0⟩,?_⟩;rintro i m ys τ H ⟨rfl,hi,p⟩;have q:=hl i ys τ H hi p;by_cases hlt:i<xs.length
 ·refine .inr ⟨⟨xs,xs[i],q,by simp[hlt]⟩,Pv (i+1),fun ys' τ' H' p'=>⟨xs.length-(i+1),by omega,rfl,hlt,p'⟩,fun x H' y=>?_⟩;obtain⟨e,y⟩:=y;subst e;exact hs i x ys τ _ (y xs q) p
 ·have e:i=xs.length:=by omega
  subst e;exact .inl ⟨⟨xs,q,zP3 _⟩,hd ys τ H p⟩
theorem at0 {α:Type}{x:α}{xs:List α}:atI (x::xs) 0=some x:=xA (j:=0) rfl
theorem ix0 {α:Type}{x:α}{xs:List α}:ixN (x::xs).length 0=some 0:=by
 unfold ixN;rw[if_pos (zV4 _),if_pos (by rw[zQ4];omega)];rfl
theorem zL7 {α:Type}{x:α}{xs:List α}:seqIndex? 0 (x::xs).length=some 0:=(nB ix0).1
theorem zb8 (ns:List Int)(lo hi:Option Int):∃ms:List Int,mQ (ns.map V.int) lo hi=ms.map V.int/\ms.length<=ns.length:=by
 refine⟨(ns.drop (HT.sIx (ns.map V.int).length 0 lo)).take (HT.sIx (ns.map V.int).length (ns.map V.int).length hi-HT.sIx (ns.map V.int).length 0 lo),?_,?_⟩
 ·unfold mQ;rw[List.map_take,List.map_drop]
 ·rw[zS0,zW1];omega
structure yL (H:Hp)(t b c:Addr):Prop where
 ex:∃(n:Int) (bs cs:List Int),b≠c/\H t=some (.lst [.ref b,.ref c,.int n])/\H b=some (.lst (bs.map V.int))/\H c=some (.lst (cs.map V.int))/\bs.length<=63/\cs.length<=63
theorem iB {b c:Addr}{n:Int}(bs:List Int):HO.lst [.ref b,.ref c,.int n]≠HO.lst (bs.map V.int):=by
 intro z;injection z with z;cases bs with
 |nil=>cases z
 |cons x r=>cases z
def nh (t b:Addr)(H H':Hp):Prop:=∀a,a≠t->a≠b->H' a=H a
theorem nh.trans {t b:Addr}{H H1 H2:Hp}(h:nh t b H H1)(k:nh t b H1 H2):nh t b H H2:=fun a h1 h2=>(k a h1 h2).trans (h a h1 h2)
def lM (K:PySem.W.Frag):Sp:=fun vs H Q _=>∃(a:Addr) (ns:List Int),vs=[.ref a]/\SqL K H a (ns.map V.int)/\ns.length<=63/\
 ∀(t b c:Addr) (H':Hp),yL H' t b c->H t=none->H b=none->H c=none->zz H H'->Q (.ref t) H'
def ze9 :Sp:=fun vs H Q _=>∃(t b c:Addr) (many:Int),vs=[.ref t,.int many]/\yL H t b c/\0<many/\many<big/\
 ∀(v:Int) (H':Hp),0<=v->v<many->yL H' t b c->nh t b H H'->Q (.int v) H'
theorem yL.free {H:Hp}{t b c l:Addr}(T:yL H t b c)(h:H l=none):l≠t/\l≠b/\l≠c:=by
 obtain⟨n,bs,cs,n1,e1,e2,e3,l1,l2⟩:=T.ex;exact⟨(zm e1 h).symm,(zm e2 h).symm,(zm e3 h).symm⟩
theorem yL.off {H H':Hp}{t b c:Addr}(T:yL H t b c)(h:∀a,a=t\/a=b\/a=c->H' a=H a):yL H' t b c:=by
 obtain⟨n,bs,cs,n1,e1,e2,e3,l1,l2⟩:=T.ex;exact⟨n,bs,cs,n1,by rw[h t (.inl rfl)];exact e1,by rw[h b (.inr (.inl rfl))];exact e2,by rw[h c (.inr (.inr rfl))];exact e3,l1,l2⟩
theorem za4 {H:Hp}{t b c l:Addr}{o:HO}(T:yL H t b c)(h:l≠t/\l≠b/\l≠c):yL (upd H l o) t b c:=
 T.off fun a ha=>zh (ha.elim (fun e=>e▸h.1.symm) fun ha=>ha.elim (fun e=>e▸h.2.1.symm) fun e=>e▸h.2.2.symm)
theorem fZ {H H':Hp}{t b c:Addr}(T:yL H t b c)(s:zz H H'):yL H' t b c:=by
 obtain⟨n,bs,cs,n1,e1,e2,e3,l1,l2⟩:=T.ex;exact⟨n,bs,cs,n1,s _ _ e1,s _ _ e2,s _ _ e3,l1,l2⟩
theorem yj {H:Hp}{p:Addr}{o:HO}(h:H p=none):zz H (upd H p o):=fun b u e=>by rw[zh (zm e h)];exact e
def yC :Addr:=(128:Nat)
def wc :Str:="cheapest_first.<locals>.<lambda>"
def rB (x:Addr):Prop:=x=yC
def tY (c:Addr):HO:=.ext fun h=>h.CodeRec (.ref c) wc
structure TabAt (H:Hp):Prop where
 ex:∃ps:Array Value,H yC=some (.tbl ps)/\TriplesOk ps.toList/\∀pos cv,codeAmong pos ps.toList=some cv->∃c,cv=.ref c/\H c=some (tY c)
theorem rH {H H':Hp}(T:TabAt H)(h:∀a o,(∀xs,o≠.lst xs)->H a=some o->H' a=some o):TabAt H':=by
 obtain⟨ps,e1,e2,e3⟩:=T.ex;refine⟨ps,h _ _ (fun xs z=>nomatch z) e1,e2,fun pos cv hc=>?_⟩;obtain⟨c,rfl,e4⟩:=e3 pos cv hc;exact⟨c,rfl,h _ _ (fun xs z=>nomatch z) e4⟩
def Plain (H:Hp)(l:Addr):Prop:=∀o,H l=some o->o≠tY l/\∀ps,o≠.tbl ps
theorem zi3 {H:Hp}{l:Addr}{o:HO}(T:TabAt H)(h:Plain H l):TabAt (upd H l o):=by
 obtain⟨ps,e1,e2,e3⟩:=T.ex;have n1:yC≠l:=fun z=>by rw[z] at e1;exact (h _ e1).2 ps rfl
 refine⟨ps,by rw[zh n1];exact e1,e2,fun pos cv hc=>?_⟩;obtain⟨c,rfl,e4⟩:=e3 pos cv hc;have n2:c≠l:=fun z=>by subst z;exact (h _ e4).1 rfl
 exact⟨c,rfl,by rw[zh n2];exact e4⟩
theorem eI {ps:Array Value}:∀ts,HO.tbl ps≠HO.tup ts:=fun _ z=>by cases z
theorem nj {H:Hp}{x:Addr}(T:TabAt H)(h:rB x):∃o,H x=some o/\(∀ts,o≠.tup ts)/\∀xs,o≠.lst xs:=by
 obtain⟨ps,e1,_⟩:=T.ex;exact⟨_,by rw[h];exact e1,eI,fun _ z=>by cases z⟩
theorem pd {H:Hp}{l:Addr}{xs:List V}(h:H l=some (.lst xs)):Plain H l:=fun o e=>by
 rw[h] at e;cases e;exact⟨(fun z=>by cases z),fun ps z=>by cases z⟩
theorem qD {H:Hp}{l:Addr}{xs:List (Key×V)}(h:H l=some (.dK xs)):Plain H l:=fun o e=>by
 rw[h] at e;cases e;exact⟨(fun z=>by cases z),fun ps z=>by cases z⟩
theorem eB {H:Hp}{l C dx:Addr}{fs:List (Str×V)}(h:H l=some (.ins C dx fs)):Plain H l:=fun o e=>by
 rw[h] at e;cases e;exact⟨(fun z=>by cases z),fun ps z=>by cases z⟩
theorem mx {H:Hp}{l:Addr}(T:TabAt H)(h:H l=none):¬rB l:=fun z=>by
 obtain⟨o,e,_⟩:=nj T z;rw[h] at e;cases e
theorem zf9 {H H':Hp}{t b:Addr}{xs ys:List V}(T:TabAt H)(ht:H t=some (.lst xs))(hb:H b=some (.lst ys))(off:nh t b H H'):TabAt H':=rH T fun a o no e=>by
 have n1:a≠t:=fun z=>by rw[z,ht] at e;cases e;exact no _ rfl
 have n2:a≠b:=fun z=>by rw[z,hb] at e;cases e;exact no _ rfl
 rw[off a n1 n2];exact e
theorem br {H H':Hp}(T:TabAt H)(h:zz H H'):TabAt H':=rH T fun a o _ e=>h a o e
def nL (K:PySem.W.Frag):Sp:=fun vs H Q _=>∃(a:Addr) (ns:List Int),vs=[.ref a]/\SqL K H a (ns.map V.int)/\ns.length<=63/\TabAt H/\∀H',Q (.bl true) H'
structure zB4 (mg:Str->Option Value):Prop where
 abs:mg "abs"=none
 list:mg "list"=none
 len:mg "len"=none
theorem zj1 (d:PyData):qS "int" d=some (isInt d):=by unfold qS;rw[if_pos rfl]
theorem qx (d:PyData):qS "bool" d=some (isBool d):=by unfold qS;rw[if_neg (by decide),if_pos rfl]
theorem qZ (d:PyData):qS "tuple" d=some (sL d):=by unfold qS;rw[if_neg (by decide),if_neg (by decide),if_neg (by decide),if_neg (by decide),if_pos rfl]
structure zH (n:Nat)(d:PyData):Prop where
 shw:d.showable=true
 nod:d.hasDict=false
 dep:d.depth<=8
 len:d.shown.length<=n
 lay:d.canLay0=true
theorem zH.mono {m n:Nat}{d:PyData}(h:zH m d)(e:m<=n):zH n d:=⟨h.shw,h.nod,h.dep,zT3 h.len e,h.lay⟩
theorem sr :∀(ts:List Str) (k:Nat) (acc:Str),(textFrom k acc ts).length<=acc.length+piled ts
 |[],_,acc=>by rw[piled_nil];exact zP3 _
 |t::r,k,acc=>by
  have h:=sr r (k+1) (acc++(if k > 0 then ", " else "":String)++t);rw[piled_cons];have e2:(Str.ofString (if k > 0 then ", " else "":String)).length<=2:=by
   split
   ·exact z50 rfl
   ·exact zQ8 _
  have e3:=z43 (acc++Str.ofString (if k > 0 then ", " else "":String)) t;have e4:=z43 acc (Str.ofString (if k > 0 then ", " else "":String));show (textFrom (k+1) (acc++Str.ofString (if k > 0 then ", " else "":String)++t) r).length<=_;have h':(textFrom (k+1) (acc++Str.ofString (if k > 0 then ", " else "":String)++t) r).length<=(acc++Str.ofString (if k > 0 then ", " else "":String)++t).length+piled r:=h;omega
theorem nQ (ts:List Str):(listText ts).length<=piled ts+2:=by
 unfold listText;rw[z43];have h:=sr ts 0 (Str.ofString "[");have e1:(Str.ofString "[").length=1:=rfl;have e2:(Str.ofString "]").length=1:=rfl;show (textFrom 0 (Str.ofString "[") ts).length+(Str.ofString "]").length<=_;omega
theorem nq (ts:List Str):(tupleText ts).length<=piled ts+3:=by
 cases ts with
 |nil=>decide +kernel
 |cons t r=>
  have h:=join_length_add (t::r) (by simp);unfold tupleText;rw[z43,z43];have e1:(Str.ofString "(").length=1:=rfl;have e2:(Str.ofString (if (t::r).length == 1 then ",)" else ")":String)).length<=2:=by
   split
   ·exact z50 rfl
   ·exact zW0 (show 1<2 by decide)
  show (Str.ofString "(").length+(Str.join ", " (t::r)).length+(Str.ofString (if (t::r).length == 1 then ",)" else ")":String)).length<=_;omega
theorem vD {n:Nat}:∀(ds:List PyData),(∀d∈ds,zH n d)->piled (PyData.shownAll ds)<=ds.length*(n+2)
 |[],_=>zQ8 _
 |d::r,h=>by
  have h1:=(h d zQ1).len;have h2:=vD r fun e he=>h e (zP5 _ he);show piled (d.shown::PyData.shownAll r)<=_;rw[piled_cons,zQ4,Nat.succ_mul];omega
structure ye (n:Nat)(ds:List PyData):Prop where
 all:∀d∈ds,zH n d
 dep:∀d∈ds,d.depth<=7
theorem ye.parts {n:Nat}:∀{ds:List PyData},ye n ds->PyData.showableAll ds=true/\PyData.hasDictAll ds=false/\PyData.depthAll ds<=7/\PyData.canLayAll0 ds=true
 |[],_=>⟨rfl,rfl,zQ8 _,rfl⟩
 |d::r,h=>by
  obtain⟨a,b,c,e⟩:=ye.parts (ds:=r) ⟨fun x hx=>h.all x (zP5 _ hx),fun x hx=>h.dep x (zP5 _ hx)⟩;have hd:=h.all d zQ1;have hp:=h.dep d zQ1;refine⟨?_,?_,?_,?_⟩
  ·simp only[PyData.showableAll,hd.shw,a,Bool.and_self]
  ·simp only[PyData.hasDictAll,hd.nod,b,Bool.or_self]
  ·simp only[PyData.depthAll];omega
  ·simp only[PyData.canLayAll0,hd.lay,e,Bool.and_self]
theorem zH.list {n m:Nat}{ds:List PyData}(h:ye n ds)(e:ds.length*(n+2)+2<=m):zH m (.list ds):=by
 obtain⟨a,b,c,f⟩:=h.parts;refine⟨by simp only[PyData.showable,a],by simp only[PyData.hasDict,b],by simp only[PyData.depth];omega,?_,by simp only[PyData.canLay0,f]⟩;show (listText (PyData.shownAll ds)).length<=m;have h1:=nQ (PyData.shownAll ds);have h2:=vD ds h.all;omega
theorem zH.tuple {n m:Nat}{ds:List PyData}(h:ye n ds)(e:ds.length*(n+2)+3<=m):zH m (.tuple ds):=by
 obtain⟨a,b,c,f⟩:=h.parts;refine⟨by simp only[PyData.showable,a],by simp only[PyData.hasDict,b],by simp only[PyData.depth];omega,?_,by simp only[PyData.canLay0,f]⟩;show (tupleText (PyData.shownAll ds)).length<=m;have h1:=nq (PyData.shownAll ds);have h2:=vD ds h.all;omega
theorem zd1 {i:Int}(h0:-big<i)(h1:i<big):i.natAbs.log2<1920:=by
 by_cases hn:i.natAbs=0
 ·rw[hn];decide
 ·have h2:i.natAbs<2 ^ 256:=by
   have e:(2:Nat) ^ 256=115792089237316195423570985008687907853269984665640564039457584007913129639936:=by decide +kernel
   rw[e];unfold big at h0 h1;omega
  have h3:i.natAbs.log2<256:=(Nat.log2_lt hn).mpr h2;omega
theorem zH.int {i:Int}(h0:-big<i)(h1:i<big):zH 2000 (.int i):=by
 have hl:=zd1 h0 h1;refine⟨by simp only[PyData.showable,zS1];exact hl,rfl,zQ8 _,?_,rfl⟩;have:=int_text_len_1921 hl;show (Str.ofString (toString i)).length<=2000;omega
theorem zH.none :zH 2000 .none:=⟨rfl,rfl,zQ8 _,by decide +kernel,rfl⟩
theorem zH.bool (b:Bool):zH 2000 (.bool b):=⟨rfl,rfl,zQ8 _,by cases b<;>decide +kernel,rfl⟩
theorem zH.shaped {n:Nat}{d:PyData}(h:zH n d):SeqAt.shaped d=true:=by
 unfold SeqAt.shaped;rw[h.lay,zR1,zS1];have:=h.dep;omega
section
variable {X:Cx}
theorem gG (hg:X.A.guards=some [])(hu:X.A.units+64<cLine):xj X (.builtin "repr") (fun xs H Q=>∃x d,xs=[x]/\DV H x d/\zH sizeLine d/\Q (.str d.shown) H):=by
 intro pins s σ H xs us Q I r h;obtain⟨x,d,rfl,hd,N,q⟩:=h;obtain⟨u,rfl,rx⟩:=Vals.one r;have big':∀{a:Addr},u=Value.ref a->wpAny (model X.prog X.w) X.A (call (.builtin "repr") [u]) (EP X pins σ Q) X.xe s:=fun {a} e=>by
  obtain⟨as,rd⟩:=hd.reads I rx;subst e;refine repr_of_reads' rd N.shw (PyData.noDict_hsm N.nod) hg (by have:=N.dep;omega) (fun _ _ e=>e) (fun h' t tk hk=>?_) N.len;exact⟨.str d.shown,H,I.kept hk,⟨t,rfl⟩,q⟩
 cases hd with
 |non=>cases (show u=Value.none from rx);exact P.repr_of_none ⟨.str _,H,I.tok _,⟨_,rfl⟩,q⟩
 |bl b=>cases (show u=Value.bool b from rx);exact P.repr_of_bool ⟨.str _,H,I.tok _,⟨_,rfl⟩,q⟩
 |int i=>
  obtain⟨t,rfl⟩:=(show ∃t,u=Value.int i t from rx);have hs:i.natAbs.log2<1920:=by
   have:=N.shw;simpa only[PyData.showable,zS1] using this
  exact P.repr_of_int hs ⟨.str _,H,I.tok _,⟨_,rfl⟩,q⟩
 |str y=>
  obtain⟨t,rfl⟩:=(show ∃t,u=Value.str y t from rx);exact P.repr_of_str ⟨.str _,H,I.tok _,⟨_,rfl⟩,q⟩ N.len
 |lst e _=>exact big' rx
 |tup e _=>exact big' rx
theorem gk {s:Shared}{h':Heap}{o:Obj}{q:Addr}(hq:q=s.heap.objs.size)(hk:∀b x,b∉[q]->(s.heap.push o).get? b=some x->h'.get? b=some x):∀b x,s.heap.get? b=some x->h'.get? b=some x:=fun b x e=>by
 refine hk b x (fun hm=>?_) (zO8 _ e);have e2:b=q:=by simpa using hm
 rw[e2,hq] at e;exact zU5 _ (zP6 e)
theorem fA (hc:X.calm=true):xj X (.builtin "all") (fun xs H Q=>∃(p:Addr) (bs:List Bool),xs=[.ref p]/\H p=some (.lst (bs.map V.bl))/\Q (.bl (bs.all id)) H):=by
 intro pins s σ H xs us Q I r h;obtain⟨p,bs,rfl,hp,q⟩:=h;obtain⟨u,rfl,rx⟩:=Vals.one r;cases (show u=Value.ref p from rx);obtain⟨its,rv,pl,hz⟩:=I.list (SqL.of hp);have hB:=cD rv;have hL:=pl.isList;have hlt:p<s.heap.objs.size:=I.hok.lt hp;refine call_all_walk (zX3 hL ⟨s.heap.objs.size,[s.heap.objs.size,p],[s.heap.objs.size],its.toArray.size,_,_,fun i=>(bs[i]?).getD true,rfl,
  Walks.list (A:=X.A.in1) (I.ok.hd hc) _ p (zQ7 hlt) its.toArray,⟨⟨_,zP9 _ rfl,rfl,rfl⟩,hL.push _⟩,fun i v s' Q' E' hP hQ=>?_,fun h' tk hk=>?_⟩)
 ·obtain⟨b,eb,rfl⟩:=hB.get i v (by simpa using hP);dsimp only at hQ;rw[eb] at hQ;exact zS6 hQ
 ·have ee:((List.range its.toArray.size).all fun i=>(bs[i]?).getD true)=bs.all id:=by
   rw[zQ0,hB.length];exact LSm.range_all bs
  rw[ee];exact⟨.bl _,H,I.kept (t':=tk) (gk rfl hk),rfl,q⟩
end
def yV :PyData->Bool
 |.int _=>true
 |_=>false
def yo (lo hi:Int):PyData->Bool
 |.int i=>decide (lo<=i)&&decide (i<=hi)
 |_=>false
def pairD :PyData->Bool
 |.tuple ds=>decide ((ds.length:Int)=2)
 |_=>false
abbrev uM :PyData->Bool:=yo 0 1000000
def rG :PyData->Bool
 |.tuple [a,b]=>uM a&&uM b
 |_=>false
def qI :PyData->Option Int
 |.tuple [.int a,.int b]=>if uM (.int a)&&uM (.int b) then some (b-a) else none
 |_=>none
def yv (d:PyData):Bool:=match qI d with
 |some k=>decide (0<=k)
 |none=>false
theorem tM (d:PyData):yV d=(isInt d&&!isBool d):=by cases d<;>rfl
theorem tT {d:PyData}(h:pairD d=true):∃a b,d=.tuple [a,b]:=by
 cases d with
 |tuple ds=>
  have h':(ds.length:Int)=2:=zT5 h
  match ds,h' with
  |[a,b],_=>exact⟨a,b,rfl⟩
  |[],z=>simp at z
  |[_],z=>simp at z
  |_::_::_::_,z=>simp at z;omega
 |_=>cases h
theorem rn (d:PyData):rG d=(qI d).isSome:=by
 unfold rG qI;split
 ·rename_i a b;cases a with
  |int i=>
   cases b with
   |int j=>
    show (uM (.int i)&&uM (.int j))=_;cases e:(uM (.int i)&&uM (.int j))<;>simp[e]
   |_=>simp[yo]
  |_=>simp[yo]
 ·rename_i h;split
  ·rename_i a b;exact absurd rfl (h (.int a) (.int b))
  ·rfl
theorem kY {d:PyData}(h:rG d=true):∃a b:Int,d=.tuple [.int a,.int b]/\qI d=some (b-a):=by
 rw[rn] at h;unfold qI at h ⊢;split at h
 ·rename_i a b;split at h
  ·rename_i hc;exact⟨a,b,rfl,by simp[hc]⟩
  ·cases h
 ·cases h
def yS (g:PyData->Bool):Sp:=fun vs H Q _=>∃x d,vs=[x]/\DV H x d/\Q (.bl (g d)) H
def vG :Sp:=fun vs H Q _=>∃x d lo hi,vs=[x,.int lo,.int hi]/\DV H x d/\Q (.bl (yo lo hi d)) H
theorem zq3 {n:Nat}:decide (V.int (n:Int)=V.int 2)=decide ((n:Int)=2):=by simp
noncomputable def sub (p:Addr->Prop)(H:Hp):Hp:=fun a=>open Classical in if p a then H a else none
theorem zj {p:Addr->Prop}{H:Hp}{a:Addr}{o:HO}(h:sub p H a=some o):p a/\H a=some o:=by
 unfold sub at h;split at h
 ·rename_i hp;exact⟨hp,h⟩
 ·cases h
theorem zE {p:Addr->Prop}{H:Hp}{a:Addr}{o:HO}(hp:p a)(h:H a=some o):sub p H a=some o:=by
 unfold sub;rw[if_pos hp];exact h
theorem zw {p q:Addr->Prop}{H H':Hp}(h:∀a o,p a->H a=some o->q a/\H' a=some o):zz (sub p H) (sub q H'):=fun a o e=>by
 obtain⟨hp,he⟩:=zj e;obtain⟨hq,he'⟩:=h a o hp he;exact zE hq he'
theorem xD {p:Addr->Prop}{H:Hp}:zz (sub p H) H:=fun _ _ e=>(zj e).2
theorem ye.snoc {n:Nat}{ds:List PyData}{d:PyData}(h:ye n ds)(hd:zH n d)(hp:d.depth<=7):ye n (ds++[d]):=
 ⟨fun e he=>(zT1.mp he).elim (h.all e) fun z=>by rw[zP7.mp z];exact hd,fun e he=>(zT1.mp he).elim (h.dep e) fun z=>by rw[zP7.mp z];exact hp⟩
theorem ye.nil {n:Nat}:ye n []:=⟨fun d hd=>by simp at hd,fun d hd=>by simp at hd⟩
theorem ye.two {n:Nat}{d e:PyData}(hd:zH n d)(he:zH n e)(h1:d.depth<=7)(h2:e.depth<=7):ye n [d,e]:=(ye.nil.snoc hd h1).snoc he h2
section
variable {X:Cx}{e:Expr}{es:List Expr}
def uK (X:Cx)(e:Expr):TE:=fun σ H Q=>∃t,PE X e t/\t σ H Q
theorem zl :PE X e (uK X e):=fun pins s σ H Q I ⟨t,p,q⟩=>p pins s σ H Q I q
def zI5 (X:Cx)(e:Expr):TT:=fun σ H Q=>∃t,PT X e t/\t σ H Q
theorem xN :PT X e (zI5 X e):=fun pins s σ H Q I ⟨t,p,q⟩=>p pins s σ H Q I q
def zC7 (X:Cx)(es:List Expr):TA:=fun σ H Q=>∃t,PA X es t/\t σ H Q
theorem yN :PA X es (zC7 X es):=fun pos pins s σ H Q I ⟨t,p,q⟩=>p pos pins s σ H Q I q
end
def ve :Key->PyData
 |.inl i=>.int i
 |.inr x=>.str x
def xcO (a C:Addr)(d:Option Addr):HO:=.ext fun h=>∃o vs,h.get? a=some o/\o.cls=.ref C/\o.dict=d/\o.data=.fields vs
mutual
inductive AV (H:Hp):V->PyData->Prop where
 |non:AV H .non .none
 |bl (b:Bool):AV H (.bl b) (.bool b)
 |int (i:Int):AV H (.int i) (.int i)
 |str (x:Str):AV H (.str x) (.str x)
 |lst {a:Addr} {xs:List V} {ds:List PyData}:H a=some (.lst xs)->AVs H xs ds->AV H (.ref a) (.list ds)
 |tup {a:Addr} {xs:List V} {ds:List PyData}:H a=some (.tup xs)->AVs H xs ds->AV H (.ref a) (.tuple ds)
 |ins {a C dx:Addr} {fs:List (Str×V)} {ds:List (PyData×PyData)}:H a=some (.ins C dx fs)->AVf H fs ds->AV H (.ref a) (.dict ((.int (C:Nat),.none)::ds))
 |dk {a:Addr} {o:Obj} {kvs:List (Key×V)} {ds:List (PyData×PyData)}:H a=some (.frz o (.dK kvs))->AVk H kvs ds->AV H (.ref a) (.dict ((.none,.none)::ds))
 |dt {a:Addr} {o:Obj} {kvs:List (List Key×V)} {ds:List (PyData×PyData)}:H a=some (.frz o (.dT kvs))->AVt H kvs ds->AV H (.ref a) (.dict ((.none,.bool true)::ds))
 |xc {a C dx:Addr} {fs:List (Str×V)} {ds:List (PyData×PyData)}:H a=some (xcO a C (some dx))->H dx=some (.xd fs)->AVf H fs ds->AV H (.ref a) (.dict ((.int (C:Nat),.bool true)::ds))
 |xn {a C:Addr}:H a=some (xcO a C none)->AV H (.ref a) (.dict [(.int (C:Nat),.bool false)])
inductive AVs (H:Hp):List V->List PyData->Prop where
 |nil:AVs H [] []
 |cons {x:V} {xs:List V} {d:PyData} {ds:List PyData}:AV H x d->AVs H xs ds->AVs H (x::xs) (d::ds)
inductive AVf (H:Hp):List (Str×V)->List (PyData×PyData)->Prop where
 |nil:AVf H [] []
 |cons {f:Str} {x:V} {fs:List (Str×V)} {d:PyData} {ds:List (PyData×PyData)}:AV H x d->AVf H fs ds->AVf H ((f,x)::fs) ((.str f,d)::ds)
inductive AVk (H:Hp):List (Key×V)->List (PyData×PyData)->Prop where
 |nil:AVk H [] []
 |cons {k:Key} {x:V} {fs:List (Key×V)} {d:PyData} {ds:List (PyData×PyData)}:AV H x d->AVk H fs ds->AVk H ((k,x)::fs) ((ve k,d)::ds)
inductive AVt (H:Hp):List (List Key×V)->List (PyData×PyData)->Prop where
 |nil:AVt H [] []
 |cons {k:List Key} {x:V} {fs:List (List Key×V)} {d:PyData} {ds:List (PyData×PyData)}:AV H x d->AVt H fs ds->AVt H ((k,x)::fs) ((.tuple (k.map ve),d)::ds)
end
mutual
theorem AV.same {H H':Hp}(e:zz H H'):∀{x:V} {d:PyData},AV H x d->AV H' x d
 |_,_,.non=>.non
 |_,_,.bl b=>.bl b
 |_,_,.int i=>.int i
 |_,_,.str x=>.str x
 |_,_,.lst hq hs=>.lst (e _ _ hq) (AVs.same e hs)
 |_,_,.tup hq hs=>.tup (e _ _ hq) (AVs.same e hs)
 |_,_,.ins hq hs=>.ins (e _ _ hq) (AVf.same e hs)
 |_,_,.dk hq hs=>.dk (e _ _ hq) (AVk.same e hs)
 |_,_,.dt hq hs=>.dt (e _ _ hq) (AVt.same e hs)
 |_,_,.xc hq hd hs=>.xc (e _ _ hq) (e _ _ hd) (AVf.same e hs)
 |_,_,.xn hq=>.xn (e _ _ hq)
theorem AVs.same {H H':Hp}(e:zz H H'):∀{xs:List V} {ds:List PyData},AVs H xs ds->AVs H' xs ds
 |_,_,.nil=>.nil
 |_,_,.cons h hs=>.cons (AV.same e h) (AVs.same e hs)
theorem AVf.same {H H':Hp}(e:zz H H'):∀{fs:List (Str×V)} {ds:List (PyData×PyData)},AVf H fs ds->AVf H' fs ds
 |_,_,.nil=>.nil
 |_,_,.cons h hs=>.cons (AV.same e h) (AVf.same e hs)
theorem AVk.same {H H':Hp}(e:zz H H'):∀{fs:List (Key×V)} {ds:List (PyData×PyData)},AVk H fs ds->AVk H' fs ds
 |_,_,.nil=>.nil
 |_,_,.cons h hs=>.cons (AV.same e h) (AVk.same e hs)
theorem AVt.same {H H':Hp}(e:zz H H'):∀{fs:List (List Key×V)} {ds:List (PyData×PyData)},AVt H fs ds->AVt H' fs ds
 |_,_,.nil=>.nil
 |_,_,.cons h hs=>.cons (AV.same e h) (AVt.same e hs)
end
mutual
theorem AV.dv {H:Hp}:∀{x:V} {d:PyData},AV H x d->d.hasDict=false->DV H x d
 |_,_,.non,_=>.non
 |_,_,.bl b,_=>.bl b
 |_,_,.int i,_=>.int i
 |_,_,.str x,_=>.str x
 |_,_,.lst hq hs,h=>.lst hq (AVs.dv hs (by simpa only[PyData.hasDict] using h))
 |_,_,.tup hq hs,h=>.tup hq (AVs.dv hs (by simpa only[PyData.hasDict] using h))
 |_,_,.ins hq hs,h=>by simp[PyData.hasDict] at h
 |_,_,.dk hq hs,h=>by simp[PyData.hasDict] at h
 |_,_,.dt hq hs,h=>by simp[PyData.hasDict] at h
 |_,_,.xc hq _ hs,h=>by simp[PyData.hasDict] at h
 |_,_,.xn hq,h=>by simp[PyData.hasDict] at h
theorem AVs.dv {H:Hp}:∀{xs:List V} {ds:List PyData},AVs H xs ds->PyData.hasDictAll ds=false->DVs H xs ds
 |_,_,.nil,_=>.nil
 |_,_,.cons h hs,e=>by
  simp only[PyData.hasDictAll,Bool.or_eq_false_iff] at e;exact .cons (AV.dv h e.1) (AVs.dv hs e.2)
end
mutual
theorem DV.av {H:Hp}:∀{x:V} {d:PyData},DV H x d->AV H x d
 |_,_,.non=>.non
 |_,_,.bl b=>.bl b
 |_,_,.int i=>.int i
 |_,_,.str x=>.str x
 |_,_,.lst hq hs=>.lst hq (DVs.av hs)
 |_,_,.tup hq hs=>.tup hq (DVs.av hs)
theorem DVs.av {H:Hp}:∀{xs:List V} {ds:List PyData},DVs H xs ds->AVs H xs ds
 |_,_,.nil=>.nil
 |_,_,.cons h hs=>.cons (DV.av h) (DVs.av hs)
end
theorem AVs.length {H:Hp}:∀{xs:List V} {ds:List PyData},AVs H xs ds->xs.length=ds.length
 |_,_,.nil=>rfl
 |_,_,.cons _ hs=>by rw[zQ4,zQ4,AVs.length hs]
theorem AVs.append {H:Hp}:∀{xs ys:List V} {ds es:List PyData},AVs H xs ds->AVs H ys es->AVs H (xs++ys) (ds++es)
 |_,_,_,_,.nil,h=>h
 |_,_,_,_,.cons a r,h=>.cons a (AVs.append r h)
theorem AVs.get {H:Hp}:∀{xs:List V} {ds:List PyData} {i:Nat} {d:PyData},AVs H xs ds->ds[i]?=some d->∃x,xs[i]?=some x/\AV H x d
 |_,_,_,_,.nil,e=>by simp at e
 |_,_,0,_,.cons a _,e=>by simp at e;subst e;exact⟨_,rfl,a⟩
 |_,_,i+1,d,.cons _ r,e=>by
  obtain⟨x,h1,h2⟩:=AVs.get (i:=i) (d:=d) r (by simpa using e);exact⟨x,by simpa using h1,h2⟩
theorem AVs.take {H:Hp}:∀{xs:List V} {ds:List PyData} (n:Nat),AVs H xs ds->AVs H (xs.take n) (ds.take n)
 |_,_,0,_=>.nil
 |_,_,_+1,.nil=>.nil
 |_,_,n+1,.cons a r=>.cons a (AVs.take n r)
theorem AVs.drop {H:Hp}:∀{xs:List V} {ds:List PyData} (n:Nat),AVs H xs ds->AVs H (xs.drop n) (ds.drop n)
 |_,_,0,r=>r
 |_,_,_+1,.nil=>.nil
 |_,_,n+1,.cons _ r=>AVs.drop n r
theorem AVs.set {H:Hp}{x:V}{d:PyData}(a:AV H x d):∀{xs:List V} {ds:List PyData} (i:Nat),AVs H xs ds->AVs H (xs.set i x) (ds.set i d)
 |_,_,_,.nil=>.nil
 |_,_,0,.cons _ r=>.cons a r
 |_,_,i+1,.cons q r=>.cons q (AVs.set a i r)
theorem AVs.atI {H:Hp}{xs:List V}{ds:List PyData}{i:Int}{d:PyData}(h:AVs H xs ds)(e:atI ds i=some d):∃x,L2.atI xs i=some x/\AV H x d:=by
 unfold L2.atI at e ⊢;rw[h.length];cases q:ixN ds.length i with
 |none=>rw[q] at e;cases e
 |some j=>
  rw[q] at e;exact h.get (i:=j) e
def cutD (ds:List PyData)(lo hi:Option Int):List PyData:=(ds.drop (HT.sIx ds.length 0 lo)).take (HT.sIx ds.length ds.length hi-HT.sIx ds.length 0 lo)
theorem AVs.cut {H:Hp}{xs:List V}{ds:List PyData}(h:AVs H xs ds)(lo hi:Option Int):AVs H (mQ xs lo hi) (cutD ds lo hi):=by
 unfold mQ cutD;rw[h.length];exact (h.drop _).take _
mutual
def noL :PyData->Bool
 |.list _=>false
 |.dict ((.none,_)::_)=>false
 |.dict kvs=>jP kvs
 |.tuple ds=>vW ds
 |_=>true
def vW :List PyData->Bool
 |[]=>true
 |d::r=>noL d&&vW r
def jP :List (PyData×PyData)->Bool
 |[]=>true
 |(_,d)::r=>noL d&&jP r
end
def Ob :HO->Prop
 |.lst _=>True
 |.dK _=>True
 |.frz _ _=>True
 |_=>False
mutual
theorem AV.noL {H H':Hp}(e:∀a o,¬Ob o->H a=some o->H' a=some o):∀{x:V} {d:PyData},AV H x d->noL d=true->AV H' x d
 |_,_,.non,_=>.non
 |_,_,.bl b,_=>.bl b
 |_,_,.int i,_=>.int i
 |_,_,.str x,_=>.str x
 |_,_,.lst _ _,h=>by simp[L2.noL] at h
 |_,_,.tup hq hs,h=>.tup (e _ _ (fun z=>z) hq) (AVs.noL e hs (by simpa only[L2.noL] using h))
 |_,_,.ins hq hs,h=>.ins (e _ _ (fun z=>z) hq) (AVf.noL e hs (by simpa[L2.noL,L2.jP] using h))
 |_,_,.dk _ _,h=>by simp[L2.noL] at h
 |_,_,.dt _ _,h=>by simp[L2.noL] at h
 |_,_,.xc hq hd hs,h=>.xc (e _ _ (fun z=>z) hq) (e _ _ (fun z=>z) hd) (AVf.noL e hs (by simpa[L2.noL,L2.jP] using h))
 |_,_,.xn hq,h=>.xn (e _ _ (fun z=>z) hq)
theorem AVs.noL {H H':Hp}(e:∀a o,¬Ob o->H a=some o->H' a=some o):∀{xs:List V} {ds:List PyData},AVs H xs ds->vW ds=true->AVs H' xs ds
 |_,_,.nil,_=>.nil
 |_,_,.cons h hs,q=>by
  simp only[L2.vW,zR3] at q;exact .cons (AV.noL e h q.1) (AVs.noL e hs q.2)
theorem AVf.noL {H H':Hp}(e:∀a o,¬Ob o->H a=some o->H' a=some o):∀{fs:List (Str×V)} {ds:List (PyData×PyData)},AVf H fs ds->jP ds=true->AVf H' fs ds
 |_,_,.nil,_=>.nil
 |_,_,.cons h hs,q=>by
  simp only[L2.jP,zR3] at q;exact .cons (AV.noL e h q.1) (AVf.noL e hs q.2)
end
structure Fr where
 H0:Hp
 O0:Addr->Prop
 tp:Option (Addr×Addr×Addr)
inductive A where
 |dat (d:PyData)
 |ow (c:PyData)
 |deep (d:PyData) (S:Addr->Prop)
 |tape
 |at (l:Addr)
 |exc (r:Fr) (q:PyData->Prop)
 |pin (l:Addr) (vs:List V) (ds:List PyData)
@[reducible] def A.own (ds:List PyData):A:=.ow (.list ds)
abbrev xm (ds:List (PyData×PyData)):PyData:=.dict ((.none,.none)::ds)
@[reducible] def A.dic (ds:List (PyData×PyData)):A:=.ow (xm ds)
abbrev Ev :=List (Option A)
def vp (o:HO):Prop:=∀ts,o≠.tup ts
theorem xy {xs:List V}:vp (.lst xs):=fun _ z=>by cases z
theorem Ob.notup {o:HO}(h:Ob o):vp o:=fun ts z=>by subst z;exact h
def NT (F:Fr)(x:Addr):Prop:=(∀t b c,F.tp=some (t,b,c)->x≠t/\x≠b)/\¬rB x
def Kz (F:Fr)(H H':Hp):Prop:=∀x o,H x=some o->NT F x->H' x=some o
structure zN (F:Fr)(H:Hp):Prop where
 tab:TabAt H
 ot:∀x,rB x->F.O0 x
 all:∀t b c,F.tp=some (t,b,c)->yL H t b c/\F.O0 t/\F.O0 b/\F.O0 c
instance {F:Fr} {H:Hp}:CoeFun (zN F H) (fun _=>∀t b c,F.tp=some (t,b,c)->yL H t b c/\F.O0 t/\F.O0 b/\F.O0 c):=⟨zN.all⟩
theorem zN.to {F F':Fr}{H:Hp}(t:zN F H)(hp:F'.tp=F.tp)(ho:∀x,F.O0 x->F'.O0 x):zN F' H:=⟨t.tab,fun x h=>ho x (t.ot x h),fun a b c e=>by
 obtain⟨h1,h2,h3,h4⟩:=t a b c (hp▸e);exact⟨h1,ho _ h2,ho _ h3,ho _ h4⟩⟩
theorem zN.re {F F':Fr}{H H':Hp}(t:zN F H)(t':zN F' H')(hp:F'.tp=F.tp):zN F H':=⟨t'.tab,t.ot,fun a b c e=>⟨(t' a b c (hp▸e)).1,(t a b c e).2⟩⟩
theorem zN.upd {F:Fr}{H:Hp}{l:Addr}{o:HO}(t:zN F H)(h:∀a b c,F.tp=some (a,b,c)->l≠a/\l≠b/\l≠c)(hp:Plain H l):zN F (upd H l o):=⟨zi3 t.tab hp,t.ot,fun a b c e=>⟨za4 (t a b c e).1 (h a b c e),(t a b c e).2⟩⟩
theorem zN.updO {F:Fr}{H:Hp}{l:Addr}{o:HO}(t:zN F H)(h:¬F.O0 l)(hp:Plain H l):zN F (L2.upd H l o):=t.upd (fun a b c e=>⟨fun z=>h (by rw[z];exact (t a b c e).2.1),fun z=>h (by rw[z];exact (t a b c e).2.2.1),fun z=>h (by rw[z];exact (t a b c e).2.2.2)⟩) hp
def foot (s:Option V):A->Addr->Prop
 |.ow _,x=>s=some (.ref x)
 |.deep _ S,x=>S x
 |_,_=>False
def Ow (F:Fr)(α:Ev)(σ:St)(x:Addr):Prop:=F.O0 x\/∃(i:Nat) (a:A) (s:Option V),α[i]?=some (some a)/\σ[i]?=some s/\foot s a x
noncomputable abbrev Gz (F:Fr)(α:Ev)(σ:St)(H:Hp):Hp:=sub (fun x=>¬Ow F α σ x) H
noncomputable def mw (S:Addr->Prop)(G H:Hp):Hp:=fun x=>open Classical in if S x then H x else match G x with
 |some (.lst _)=>none
 |o=>o
theorem qT {S:Addr->Prop}{G G' H H':Hp}(h:zz G G')(hS:∀x o,S x->H x=some o->H' x=some o):zz (mw S G H) (mw S G' H'):=fun x o e=>by
 unfold mw at e ⊢;by_cases z:S x
 ·rw[if_pos z] at e ⊢;exact hS x o z e
 ·rw[if_neg z] at e ⊢;cases q:G x with
  |none=>rw[q] at e;cases e
  |some u=>
   rw[h _ _ q];rw[q] at e;exact e
theorem dX {S:Addr->Prop}{G H:Hp}{x:Addr}{o:HO}(h:mw S G H x=some o):(S x/\H x=some o)\/(¬S x/\G x=some o):=by
 unfold mw at h;by_cases z:S x
 ·rw[if_pos z] at h;exact .inl ⟨z,h⟩
 ·rw[if_neg z] at h;split at h
  ·cases h
  ·exact .inr ⟨z,h⟩
inductive yX (G:Hp):HO->PyData->Prop where
 |lst {xs:List V} {ds:List PyData}:AVs G xs ds->yX G (.lst xs) (.list ds)
 |dk {kvs:List (Key×V)} {ds:List (PyData×PyData)}:AVk G kvs ds->yX G (.dK kvs) (xm ds)
theorem yX.ob {G:Hp}{o:HO}{c:PyData}(h:yX G o c):Ob o:=by cases h<;>trivial
theorem yX.same {G G':Hp}{o:HO}{c:PyData}(h:yX G o c)(s:zz G G'):yX G' o c:=by
 cases h with
 |lst h=>exact .lst (h.same s)
 |dk h=>exact .dk (h.same s)
theorem yX.av {G:Hp}{o:HO}{ds:List PyData}{l:Addr}(h:yX G o (.list ds))(e:G l=some o):AV G (.ref l) (.list ds):=by
 cases h with
 |lst h=>exact .lst e h
theorem yX.lst_inv {G:Hp}{o:HO}{ds:List PyData}(h:yX G o (.list ds)):∃xs,o=.lst xs/\AVs G xs ds:=by cases h;exact⟨_,rfl,by assumption⟩
theorem yX.dk_inv {G:Hp}{o:HO}{ds:List (PyData×PyData)}(h:yX G o (xm ds)):∃xs,o=.dK xs/\AVk G xs ds:=by cases h;exact⟨_,rfl,by assumption⟩
theorem yX.plain {G H:Hp}{o:HO}{c:PyData}{l:Addr}(h:yX G o c)(e:H l=some o):Plain H l:=by
 cases h with
 |lst h=>exact pd e
 |dk h=>exact qD e
structure Lnk (r F:Fr)(H:Hp):Prop where
 tp:r.tp=F.tp
 o:∀x,r.O0 x->F.O0 x
 ok:zN r H
 k:Kz r r.H0 H
def uo (G:Hp)(F:Fr)(H:Hp)(s:Option V):A->Prop
 |.dat d=>∃v,s=some v/\AV G v d
 |.ow c=>∃l o,s=some (.ref l)/\H l=some o/\yX G o c/\¬F.O0 l/\F.H0 l=none
 |.deep d S=>∃v,s=some v/\AV (mw S G H) v d/\∀x,S x->¬F.O0 x/\F.H0 x=none/\∃xs,H x=some (.lst xs)
 |.tape=>∃t b c,F.tp=some (t,b,c)/\s=some (.ref t)
 |.at l=>s=some (.ref l)
 |.exc r _=>Lnk r F H
 |.pin l vs ds=>s=some (.ref l)/\G l=some (.lst vs)/\AVs G vs ds
structure M (F:Fr)(α:Ev)(σ:St)(H:Hp):Prop where
 len:α.length=σ.length
 ok:∀(i:Nat) (a:A) (s:Option V),α[i]?=some (some a)->σ[i]?=some s->uo (Gz F α σ H) F H s a
 dj:∀(i j:Nat) (a b:A) (s t:Option V) (x:Addr),α[i]?=some (some a)->α[j]?=some (some b)->σ[i]?=some s->σ[j]?=some t->foot s a x->foot t b x->i=j
 xd:∀(i:Nat) (r:Fr) (q:PyData->Prop),α[i]?=some (some (.exc r q))->∀(j:Nat) (a:A) (s:Option V) (x:Addr),α[j]?=some (some a)->σ[j]?=some s->foot s a x->r.H0 x=none
 tp:zN F H
 keep:Kz F F.H0 H
 oex:∀x,F.O0 x->∃o,H x=some o/\vp o
theorem M.at' {F:Fr}{α:Ev}{σ:St}{H:Hp}(m:M F α σ H){i:Nat}{a:Option A}(e:α[i]?=some a):∃s,σ[i]?=some s:=by
 have:i<σ.length:=by rw[<-m.len];exact (zP1.mp e).1
 exact⟨_,zO9 this⟩
theorem nF {G:Hp}{F:Fr}{H:Hp}{s:Option V}{a:A}{x:Addr}(h:uo G F H s a)(f:foot s a x):¬F.O0 x/\F.H0 x=none/\∃o,H x=some o/\Ob o:=by
 cases a with
 |ow c=>
  obtain⟨l,o,h1,h2,h3,h4,h5⟩:=h;have f':s=some (.ref x):=f;rw[f'] at h1;cases h1;exact⟨h4,h5,o,h2,h3.ob⟩
 |deep d S=>
  obtain⟨v,h1,h2,h3⟩:=h;obtain⟨z1,z2,xs,z3⟩:=h3 x f;exact⟨z1,z2,_,z3,trivial⟩
 |dat d=>exact f.elim
 |tape=>exact f.elim
 |«at» l=>exact f.elim
 |exc r q=>exact f.elim
 |pin l vs ds=>exact f.elim
theorem Lnk.kz {r F:Fr}{H H':Hp}(l:Lnk r F H)(k:Kz F H H')(t:zN F H'):Lnk r F H':=⟨l.tp,l.o,l.ok.re t l.tp.symm,fun x o e n=>k x o (l.k x o e n) ⟨fun a b c z=>n.1 a b c (l.tp.trans z),n.2⟩⟩
theorem Lnk.none {r F:Fr}{H:Hp}(l:Lnk r F H){x:Addr}(h:H x=Option.none):r.H0 x=Option.none:=by
 cases q:r.H0 x with
 |none=>rfl
 |some o=>rw[l.k x o q ⟨fun a b c e=>⟨((l.ok a b c e).1.free h).1,((l.ok a b c e).1.free h).2.1⟩,mx l.ok.tab h⟩] at h;cases h
def noX :A->Prop
 |.exc _ _=>False
 |_=>True
theorem uo.stay {G G':Hp}{F F':Fr}{H H':Hp}{s:Option V}{a:A}(h:uo G F H s a)(g:zz G G')(hf:∀x o,foot s a x->H x=some o->H' x=some o/\¬F'.O0 x/\F'.H0 x=none)(hp:F'.tp=F.tp)(hl:∀r q,a=.exc r q->Lnk r F H->Lnk r F' H'):uo G' F' H' s a:=by
 cases a with
 |dat d=>obtain⟨v,h1,h2⟩:=h;exact⟨v,h1,h2.same g⟩
 |ow c=>
  obtain⟨l,o,h1,h2,h3,h4,h5⟩:=h;obtain⟨z1,z2,z3⟩:=hf l o h1 h2;exact⟨l,o,h1,z1,h3.same g,z2,z3⟩
 |deep d S=>
  obtain⟨v,h1,h2,h3⟩:=h;refine⟨v,h1,h2.same (qT g fun x o z e=>(hf x o z e).1),fun x z=>?_⟩;obtain⟨_,_,xs,e⟩:=h3 x z;obtain⟨z1,z2,z3⟩:=hf x _ z e;exact⟨z2,z3,xs,z1⟩
 |tape=>obtain⟨t,b,c,e,z⟩:=h;exact⟨t,b,c,hp.trans e,z⟩
 |«at» l=>exact h
 |exc r q=>exact hl r q rfl h
 |pin l vs ds=>exact⟨h.1,g _ _ h.2.1,h.2.2.same g⟩
section
variable {F:Fr}{α:Ev}{σ:St}{H H' H'':Hp}
theorem M.dat (m:M F α σ H)(i:Nat)(d:PyData)(e:α[i]?=some (some (.dat d))):∃v,σ[i]?=some (some v)/\AV (Gz F α σ H) v d:=by
 obtain⟨s,hs⟩:=m.at' e;obtain⟨v,rfl,h⟩:=m.ok i _ s e hs;exact⟨v,hs,h⟩
theorem M.owc (m:M F α σ H)(i:Nat)(c:PyData)(e:α[i]?=some (some (.ow c))):∃l o,σ[i]?=some (some (.ref l))/\H l=some o/\yX (Gz F α σ H) o c/\¬F.O0 l/\F.H0 l=none:=by
 obtain⟨s,hs⟩:=m.at' e;obtain⟨l,o,rfl,h⟩:=m.ok i _ s e hs;exact⟨l,o,hs,h⟩
theorem M.own (m:M F α σ H)(i:Nat)(ds:List PyData)(e:α[i]?=some (some (.own ds))):∃l xs,σ[i]?=some (some (.ref l))/\H l=some (.lst xs)/\AVs (Gz F α σ H) xs ds/\¬F.O0 l/\F.H0 l=none:=by
 obtain⟨l,o,h1,h2,h3,h4⟩:=m.owc i _ e;obtain⟨xs,rfl,h5⟩:=h3.lst_inv;exact⟨l,xs,h1,h2,h5,h4⟩
theorem M.dic (m:M F α σ H)(i:Nat)(ds:List (PyData×PyData))(e:α[i]?=some (some (.dic ds))):∃l xs,σ[i]?=some (some (.ref l))/\H l=some (.dK xs)/\AVk (Gz F α σ H) xs ds/\¬F.O0 l/\F.H0 l=none:=by
 obtain⟨l,o,h1,h2,h3,h4⟩:=m.owc i _ e;obtain⟨xs,rfl,h5⟩:=h3.dk_inv;exact⟨l,xs,h1,h2,h5,h4⟩
theorem M.tvar (m:M F α σ H)(i:Nat)(e:α[i]?=some (some .tape)):∃t b c,F.tp=some (t,b,c)/\σ[i]?=some (some (.ref t)):=by
 obtain⟨s,hs⟩:=m.at' e;obtain⟨t,b,c,h,rfl⟩:=m.ok i _ s e hs;exact⟨t,b,c,h,hs⟩
theorem M.lnk (m:M F α σ H){i:Nat}{r:Fr}{q:PyData->Prop}(e:α[i]?=some (some (.exc r q))):Lnk r F H:=by
 obtain⟨s,hs⟩:=m.at' e;exact m.ok i _ s e hs
theorem Kz.refl :Kz F H H:=fun _ _ e _=>e
theorem Kz.trans (h:Kz F H H')(k:Kz F H' H''):Kz F H H'':=fun x o e n=>k x o (h x o e n) n
theorem Kz.of_same (h:zz H H'):Kz F H H':=fun x o e _=>h x o e
theorem zN.same (t:zN F H)(h:zz H H'):zN F H':=⟨br t.tab h,t.ot,fun a b c e=>⟨fZ (t a b c e).1 h,(t a b c e).2⟩⟩
theorem zN.nt (t:zN F H){x:Addr}(h:¬F.O0 x):NT F x:=⟨fun a b c e=>⟨fun z=>h (z▸(t a b c e).2.1),fun z=>h (z▸(t a b c e).2.2.1)⟩,fun z=>h (t.ot x z)⟩
theorem ow0 {x:Addr}(h:¬Ow F α σ x):¬F.O0 x:=fun z=>h (.inl z)
theorem Kz.gz (k:Kz F H H')(t:zN F H):zz (Gz F α σ H) (Gz F α σ H'):=zw fun a o h e=>⟨h,k a o e (t.nt (ow0 h))⟩
theorem M.oex' (t:zN F H')(k:Kz F H H')(h:∀x,F.O0 x->∃o,H x=some o/\vp o):∀x,F.O0 x->∃o,H' x=some o/\vp o:=fun x hx=>by
 by_cases n:NT F x
 ·obtain⟨o,ho,hn⟩:=h x hx;exact⟨o,k _ _ ho n,hn⟩
 ·by_cases z:rB x
  ·obtain⟨o,ho,hn,_⟩:=nj t.tab z;exact⟨o,ho,hn⟩
  ·have:∃a b c,F.tp=some (a,b,c)/\¬(x≠a/\x≠b):=by
    refine Classical.byContradiction fun q=>n ⟨fun a b c e=>?_,z⟩;exact Classical.byContradiction fun w=>q ⟨a,b,c,e,w⟩
   obtain⟨a,b,c,e,w⟩:=this;obtain⟨n,bs,cs,_,e1,e2,e3,_⟩:=(t a b c e).1.ex;by_cases xa:x=a
   ·exact⟨_,xa▸e1,xy⟩
   ·by_cases xb:x=b
    ·exact⟨_,xb▸e2,xy⟩
    ·exact absurd ⟨xa,xb⟩ w
theorem M.kz (m:M F α σ H)(k:Kz F H H')(t:zN F H'):M F α σ H' where
 len:=m.len
 ok:=fun i a s e1 e2=>(m.ok i a s e1 e2).stay (k.gz m.tp) (fun x o hf e=>by
  obtain⟨h1,h2,_⟩:=nF (m.ok i a s e1 e2) hf;exact⟨k x o e (m.tp.nt h1),h1,h2⟩) rfl fun r _ _ l=>l.kz k t
 dj:=m.dj
 xd:=m.xd
 tp:=t
 keep:=m.keep.trans k
 oex:=M.oex' t k m.oex
theorem M.ft (m:M F α σ H){i:Nat}{a:A}{s:Option V}{x:Addr}(e1:α[i]?=some (some a))(e2:σ[i]?=some s)(f:foot s a x):¬F.O0 x/\F.H0 x=none/\∃o,H x=some o/\Ob o:=nF (m.ok i a s e1 e2) f
theorem M.owEx (m:M F α σ H){x:Addr}(h:Ow F α σ x):∃o,H x=some o/\vp o:=by
 rcases h with z|⟨i,a,s,e1,e2,f⟩
 ·exact m.oex x z
 ·obtain⟨_,_,o,ho,hb⟩:=m.ft e1 e2 f;exact⟨o,ho,hb.notup⟩
theorem M.fresh (m:M F α σ H){l:Addr}(h:H l=none):¬Ow F α σ l:=fun z=>by
 obtain⟨o,ho,_⟩:=m.owEx z;rw[h] at ho;cases ho
theorem M.fresh0 (m:M F α σ H){l:Addr}(h:H l=none):F.H0 l=none:=by
 cases q:F.H0 l with
 |none=>rfl
 |some o=>rw[m.keep l o q (m.tp.nt fun z=>m.fresh h (.inl z))] at h;cases h
theorem M.old (m:M F α σ H):zz (sub (fun x=>¬F.O0 x) F.H0) (Gz F α σ H):=fun a o e=>by
 obtain⟨h1,h2⟩:=zj e;refine zE ?_ (m.keep a o h2 (m.tp.nt h1));rintro (z|⟨i,b,s,e1,e2,f⟩)
 ·exact h1 z
 ·obtain⟨_,z,_⟩:=m.ft e1 e2 f;rw[h2] at z;cases z
noncomputable def Fr.up (F:Fr)(G:Hp):Fr:={F with H0:=fun x=>(F.H0 x).or (G x)}
theorem oO {G:Hp}{x:Addr}{o:HO}(h:F.H0 x=some o):(F.up G).H0 x=some o:=by show (F.H0 x).or (G x)=some o;rw[h];rfl
theorem jW {G:Hp}{x:Addr}(h:(F.up G).H0 x=none):F.H0 x=none:=by
 cases q:F.H0 x with
 |none=>rfl
 |some o=>rw[oO q] at h;cases h
theorem M.up (m:M F α σ H):M (F.up (Gz F α σ H)) α σ H where
 len:=m.len
 ok:=fun i a s e1 e2=>(m.ok i a s e1 e2).stay (fun _ _ e=>e) (fun x o hf e=>by
  obtain⟨h1,h2,_⟩:=m.ft e1 e2 hf;refine⟨e,h1,?_⟩;show (F.H0 x).or (Gz F α σ H x)=none;rw[h2];show Gz F α σ H x=none;cases q:Gz F α σ H x with
  |none=>rfl
  |some o=>exact absurd (.inr ⟨i,a,s,e1,e2,hf⟩) (zj q).1) rfl fun r _ _ l=>⟨l.tp,l.o,l.ok,l.k⟩
 dj:=m.dj
 xd:=m.xd
 tp:=m.tp.to rfl fun _ z=>z
 keep:=fun x o e n=>by
  have e':(F.H0 x).or (Gz F α σ H x)=some o:=e;cases q:F.H0 x with
  |none=>rw[q,Option.none_or] at e';exact (zj e').2
  |some o'=>rw[q] at e';cases e';exact m.keep x _ q n
 oex:=m.oex
theorem M.down {G:Hp}(m:M (F.up G) α σ H):M F α σ H where
 len:=m.len
 ok:=fun i a s e1 e2=>(m.ok i a s e1 e2).stay (fun _ _ e=>e) (fun x o hf e=>by
  obtain⟨h1,h2,_⟩:=m.ft e1 e2 hf;exact⟨e,h1,jW h2⟩) rfl fun r _ _ l=>⟨l.tp,l.o,l.ok,l.k⟩
 dj:=m.dj
 xd:=m.xd
 tp:=m.tp.to rfl fun _ z=>z
 keep:=fun x o e n=>m.keep x o (oO e) n
 oex:=m.oex
theorem M.upold {α0:Ev}{σ0:St}{H1:Hp}(m0:M F α0 σ0 H1)(m:M (F.up (Gz F α0 σ0 H1)) α σ H):zz (Gz F α0 σ0 H1) (Gz F α σ H):=fun a o e=>by
 obtain⟨h1,h2⟩:=zj e;have e0:(F.up (Gz F α0 σ0 H1)).H0 a=some o:=by
  show (F.H0 a).or (Gz F α0 σ0 H1 a)=some o;cases q:F.H0 a with
  |none=>exact e
  |some o'=>
   have:=m0.keep a o' q (m0.tp.nt (ow0 h1));rw[h2] at this;cases this;rfl
 exact m.old a o (zE (p:=fun x=>¬F.O0 x) (ow0 h1) e0)
end
def xf (F:Fr)(α:Ev)(σ:St)(H:Hp)(v:V)(H':Hp)(ds:List PyData):Prop:=
 ∃l xs,v=.ref l/\H l=none/\H' l=some (.lst xs)/\AVs (sub (fun x=>¬Ow F α σ x/\x≠l) H') xs ds
def jw (F:Fr)(α:Ev)(σ:St)(H:Hp)(v:V)(H':Hp)(c:PyData):Prop:=
 ∃l o,v=.ref l/\H l=none/\H' l=some o/\yX (sub (fun x=>¬Ow F α σ x/\x≠l) H') o c
theorem xf.c {F:Fr}{α:Ev}{σ:St}{H H':Hp}{v:V}{ds:List PyData}(h:xf F α σ H v H' ds):jw F α σ H v H' (.list ds):=by
 obtain⟨l,xs,h1,h2,h3,h4⟩:=h;exact⟨l,_,h1,h2,h3,.lst h4⟩
theorem xf.av {F:Fr}{α:Ev}{σ:St}{H H':Hp}{v:V}{ds:List PyData}(m:M F α σ H)(h:xf F α σ H v H' ds):AV (Gz F α σ H') v (.list ds):=by
 obtain⟨l,xs,rfl,h1,h2,h3⟩:=h;exact .lst (zE (m.fresh h1) h2) (h3.same (zw fun a o h e=>⟨h.1,e⟩))
section
variable (X:Cx)(α:Ev)
def EvD (e:Expr)(Q:PyData->Prop):Prop:=∀(F:Fr) (σ:St) (H:Hp) (R:VK),M F α σ H->(∀d v H',Q d->zN F H'->Kz F H H'->AV (Gz F α σ H') v d->R v H')->uK X e σ H R
def EvL (e:Expr)(Q:List PyData->Prop):Prop:=∀(F:Fr) (σ:St) (H:Hp) (R:VK),M F α σ H->(∀ds v H',Q ds->zN F H'->Kz F H H'->xf F α σ H v H' ds->R v H')->uK X e σ H R
def EvC (e:Expr)(Q:PyData->Prop):Prop:=∀(F:Fr) (σ:St) (H:Hp) (R:VK),M F α σ H->(∀c v H',Q c->zN F H'->Kz F H H'->jw F α σ H v H' c->R v H')->uK X e σ H R
def EvT (e:Expr)(Q:Bool->Prop):Prop:=∀(F:Fr) (σ:St) (H:Hp) (R:Bool->Hp->Prop),M F α σ H->(∀b H',Q b->zN F H'->Kz F H H'->R b H')->zI5 X e σ H R
def eN (F:Fr)(G:Hp)(v:V):A->Prop
 |.dat d=>AV G v d
 |.tape=>∃t b c,F.tp=some (t,b,c)/\v=.ref t
 |_=>False
inductive yr (F:Fr)(G:Hp):List V->List A->Prop where
 |nil:yr F G [] []
 |cons {v:V} {vs:List V} {a:A} {as:List A}:eN F G v a->yr F G vs as->yr F G (v::vs) (a::as)
def EvA (es:List Expr)(Q:List A->Prop):Prop:=∀(F:Fr) (σ:St) (H:Hp) (R:List V->Hp->Prop),M F α σ H->(∀as vs H',Q as->zN F H'->Kz F H H'->yr F (Gz F α σ H') vs as->R vs H')->zC7 X es σ H R
end
theorem eN.to {F F':Fr}{G G':Hp}(s:zz G G')(hp:F'.tp=F.tp){v:V}:∀{a:A},eN F G v a->eN F' G' v a
 |.dat _,h=>AV.same s h
 |.tape,⟨t,b,c,e,z⟩=>⟨t,b,c,hp.trans e,z⟩
 |.ow _,h=>h
 |.deep _ _,h=>h
 |.at _,h=>h
 |.exc _ _,h=>h
 |.pin _ _ _,h=>h
theorem yr.to {F F':Fr}{G G':Hp}(s:zz G G')(hp:F'.tp=F.tp):∀{vs:List V} {as:List A},yr F G vs as->yr F' G' vs as
 |_,_,.nil=>.nil
 |_,_,.cons h r=>.cons (h.to s hp) (yr.to s hp r)
theorem yr.length {F:Fr}{G:Hp}:∀{vs:List V} {as:List A},yr F G vs as->vs.length=as.length
 |_,_,.nil=>rfl
 |_,_,.cons _ r=>by rw[zQ4,zQ4,yr.length r]
def A.d :A->PyData
 |.dat d=>d
 |.ow c=>c
 |.deep d _=>d
 |_=>.none
def zk0 (F:Fr)(v:V)(H':Hp):A->Prop
 |.dat d=>AV (sub (fun x=>¬F.O0 x) H') v d
 |.ow c=>∃l xs ds,v=.ref l/\c=.list ds/\F.H0 l=none/\¬F.O0 l/\H' l=some (.lst xs)/\AVs (sub (fun x=>¬F.O0 x/\x≠l) H') xs ds
 |.deep d S=>AV (mw S (sub (fun x=>¬F.O0 x) H') H') v d/\∀x,S x->¬F.O0 x/\F.H0 x=none/\∃xs,H' x=some (.lst xs)
 |_=>False
def tS (F:Fr)(v:V)(H':Hp)(a:A):Prop:=zN F H'/\Kz F F.H0 H'/\zk0 F v H' a
def spA (φ:List A->(A->Prop)->Prop):Sp:=fun vs H Qc _=>∃(F:Fr) (as:List A) (Q:A->Prop),F.H0=H/\zN F H/\(∀x,F.O0 x->∃o,H x=some o/\vp o)/\yr F (sub (fun x=>¬F.O0 x) H) vs as/\φ as Q/\∀a v H',Q a->tS F v H' a->Qc v H'
theorem zk0.to {F F':Fr}{v:V}{H':Hp}{a:A}(r:zk0 F v H' a)(ho:∀x,F'.O0 x->F.O0 x)(h0:∀x,F.H0 x=none->F'.H0 x=none):zk0 F' v H' a:=by
 have s:zz (sub (fun x=>¬F.O0 x) H') (sub (fun x=>¬F'.O0 x) H'):=zw fun a o h e=>⟨fun z=>h (ho _ z),e⟩;cases a with
 |dat d=>exact AV.same s r
 |ow c=>
  obtain⟨l,xs,ds,h1,hc,h2,h3,h4,h5⟩:=r;exact⟨l,xs,ds,h1,hc,h0 _ h2,fun z=>h3 (ho _ z),h4,h5.same (zw fun a o h e=>⟨⟨fun z=>h.1 (ho _ z),h.2⟩,e⟩)⟩
 |deep d S=>
  obtain⟨h1,h2⟩:=r;refine⟨h1.same (qT s fun _ _ _ e=>e),fun x z=>?_⟩;obtain⟨z1,z2,z3⟩:=h2 x z;exact⟨fun w=>z1 (ho _ w),h0 _ z2,z3⟩
 |tape=>exact r
 |«at» _=>exact r
 |exc _ _=>exact r
 |pin _ _ _=>exact r
structure xJ where
 nx:Ev->Prop
 rt:A->Prop
 bk:Ev->Prop:=fun _=>False
 ct:Ev->Prop:=fun _=>False
structure mH (F:Fr)(E:xJ)(D:Ends):Prop where
 nx:∀α σ H,M F α σ H->E.nx α->D.nx σ H
 rt:∀a v H,tS F v H a->E.rt a->D.rt v H
 bk:∀α σ H,M F α σ H->E.bk α->D.bk σ H
 ct:∀α σ H,M F α σ H->E.ct α->D.ct σ H
def SvS (X:Cx)(α:Ev)(sts:List Stmt)(E:xJ):Prop:=∀(F:Fr) (σ:St) (H:Hp) (D:Ends),M F α σ H->mH F E D->zm5 X sts D σ H
theorem mH.up {F:Fr}{G:Hp}{E:xJ}{D:Ends}(e:mH F E D):mH (F.up G) E D where
 nx:=fun α σ H m q=>e.nx α σ H m.down q
 bk:=fun α σ H m q=>e.bk α σ H m.down q
 ct:=fun α σ H m q=>e.ct α σ H m.down q
 rt:=fun a v H r q=>e.rt a v H (by
  obtain⟨t,k,r⟩:=r;exact⟨t.to rfl fun _ z=>z,fun x o e n=>k x o (oO e) n,r.to (fun _ z=>z) fun x z=>jW z⟩) q
section
variable {X:Cx}{α:Ev}{e a b c:Expr}{es:List Expr}{pos p q:Pos}{Q:PyData->Prop}
theorem EvL.d (h:EvL X α e (fun ds=>Q (.list ds))):EvD X α e Q:=fun F σ H R m k=>h F σ H R m fun ds v H' q t z f=>k _ v H' q t z (f.av m)
theorem EvD.imp {Q':PyData->Prop}(h:EvD X α e Q')(k:∀d,Q' d->Q d):EvD X α e Q:=fun F σ H R m r=>h F σ H R m fun d v H' q=>r d v H' (k d q)
theorem zf (i:Nat){x:Str}{d:PyData}(hi:α[i]?=some (some (.dat d)))(q:Q d)(hN:X.N[i]?=some x:=by rfl)(hv:Vis X.env.scope x:=by first|exact Or.inl rfl|exact Or.inr (Or.inl rfl)|exact Or.inr (Or.inr rfl))
  (hd:(x == ("__debug__":Str))=false:=by decide) (hcd:(x == ("__classdict__":Str))=false:=by decide):EvD X α (.Name x pos) Q:=fun F σ H R m k=>by
 obtain⟨v,h1,h2⟩:=m.dat i d hi;exact⟨_,xH hN hv hd hcd,v,h1,k d v H q m.tp Kz.refl h2⟩
theorem zT {i:Int}{j:Nat}(q:Q (.int i)):EvD X α (.Constant (.int i) j pos) Q:=fun F σ H R m k=>⟨_,zr,k _ _ H q m.tp Kz.refl (.int i)⟩
theorem zr7 {i:Bool}{j:Nat}(q:Q (.bool i)):EvD X α (.Constant (.bool i) j pos) Q:=fun F σ H R m k=>⟨_,zE6,k _ _ H q m.tp Kz.refl (.bl i)⟩
theorem qk {j:Nat}(q:Q .none):EvD X α (.Constant .none j pos) Q:=fun F σ H R m k=>⟨_,pY,k _ _ H q m.tp Kz.refl .non⟩
theorem yc {x:Str}{j:Nat}(q:Q (.str x)):EvD X α (.Constant (.str x) j pos) Q:=fun F σ H R m k=>⟨_,yp,k _ _ H q m.tp Kz.refl (.str x)⟩
theorem zb4 {x:Str}{i:Int}(hg:Gl X x)(hm:∃t,X.mg x=some (.int i t))(q:Q (.int i))(hd:(x == ("__debug__":Str))=false:=by decide):EvD X α (.Name x pos) Q:=fun F σ H R m k=>by
 obtain⟨t,hm⟩:=hm;exact⟨_,uL hg hm (show RelV (.int i) (.int i t) from ⟨t,rfl⟩) hd,k _ _ H q m.tp Kz.refl (.int i)⟩
theorem tO {f:TE->TE->TE}(hf:PE X e (f (uK X a) (uK X b)))(hr:∀σ H R,f (uK X a) (uK X b) σ H R↔uK X a σ H (fun x H1=>uK X b σ H1 fun y H2=>f (tC x) (tC y) σ H2 R))
  (h:EvD X α a fun x=>EvD X α b fun y=>∀(F:Fr) (σ:St) (H:Hp) (vx vy:V) (R:VK),M F α σ H->AV (Gz F α σ H) vx x->AV (Gz F α σ H) vy y->(∀d v H',Q d->zN F H'->Kz F H H'->AV (Gz F α σ H') v d->R v H')->f (tC vx) (tC vy) σ H R):
  EvD X α e Q:=fun F σ H R m k=>by
 refine⟨_,hf,(hr σ H R).mpr ?_⟩;refine h F σ H _ m fun x vx H1 q1 t1 k1 r1=>?_;have m1:=m.kz k1 t1;refine q1 F σ H1 _ m1 fun y vy H2 q2 t2 k2 r2=>?_;exact q2 F σ H2 vx vy R (m1.kz k2 t2) (r1.same (k2.gz m1.tp)) r2 fun d v H' qd t3 k3 r3=>k d v H' qd t3 ((k1.trans k2).trans k3) r3
theorem AV.int_inv {H:Hp}{v:V}{i:Int}(h:AV H v (.int i)):v=.int i:=by cases h;rfl
theorem AV.bl_inv {H:Hp}{v:V}{i:Bool}(h:AV H v (.bool i)):v=.bl i:=by cases h;rfl
theorem AV.str_inv {H:Hp}{v:V}{i:Str}(h:AV H v (.str i)):v=.str i:=by cases h;rfl
theorem AV.tup_inv {H:Hp}{v:V}{ds:List PyData}(h:AV H v (.tuple ds)):∃a xs,v=.ref a/\H a=some (.tup xs)/\AVs H xs ds:=by cases h;exact⟨_,_,rfl,by assumption,by assumption⟩
theorem AV.lst_inv {H:Hp}{v:V}{ds:List PyData}(h:AV H v (.list ds)):∃a xs,v=.ref a/\H a=some (.lst xs)/\AVs H xs ds:=by cases h;exact⟨_,_,rfl,by assumption,by assumption⟩
theorem AV.non_inv {H:Hp}{v:V}(h:AV H v .none):v=.non:=by cases h;rfl
theorem AV.isnon {H:Hp}{v:V}{d:PyData}(h:AV H v d):decide (v=.non)=(match d with|.none=>true|_=>false):=by cases h<;>simp
theorem cz {op:Operator}{C:Int->Int->Prop}{g:Int->Int->V}{gd:Int->Int->PyData}(ho:OpR X (binaryOp op) (rI C g))(hg:∀H i j,AV H (g i j) (gd i j))
  (h:EvD X α a fun x=>EvD X α b fun y=>∃i j,x=.int i/\y=.int j/\C i j/\Q (gd i j)):EvD X α (.BinOp a op b pos) Q:=by
 refine tO (f:=tOp (rI C g)) (yz ho zl zl) (fun _ _ _=>Iff.rfl) (h.imp fun x h=>h.imp fun y ⟨i,j,e1,e2,hc,hq⟩=>?_);subst e1 e2;intro F σ H vx vy R m rx ry k;cases rx.int_inv;cases ry.int_inv;exact⟨i,j,rfl,rfl,hc,k _ _ H hq m.tp Kz.refl (hg _ i j)⟩
theorem ie {op:Operator}{g:Int->Int->V}{gd:Int->Int->PyData}(ho:OpR X (binaryOp op) (rI0 g))(hg:∀H i j,AV H (g i j) (gd i j))
  (h:EvD X α a fun x=>EvD X α b fun y=>∃i j,x=.int i/\y=.int j/\Q (gd i j)):EvD X α (.BinOp a op b pos) Q:=by
 refine tO (f:=tOp (rI0 g)) (yz ho zl zl) (fun _ _ _=>Iff.rfl) (h.imp fun x h=>h.imp fun y ⟨i,j,e1,e2,hq⟩=>?_);subst e1 e2;intro F σ H vx vy R m rx ry k;cases rx.int_inv;cases ry.int_inv;exact⟨i,j,rfl,rfl,k _ _ H hq m.tp Kz.refl (hg _ i j)⟩
theorem xx (h:EvD X α a fun x=>EvD X α b fun y=>∃i j,x=.int i/\y=.int j/\Q (.int (i+j))):EvD X α (.BinOp a .Add b pos) Q:=ie (gd:=fun i j=>.int (i+j)) tw (fun _ _ _=>.int _) h
theorem oQ (h:EvD X α a fun x=>EvD X α b fun y=>∃i j,x=.int i/\y=.int j/\Q (.int (i-j))):EvD X α (.BinOp a .Sub b pos) Q:=ie (gd:=fun i j=>.int (i-j)) bJ (fun _ _ _=>.int _) h
theorem zw9 (h:EvD X α a fun x=>EvD X α b fun y=>∃i j,x=.int i/\y=.int j/\zu2 i j/\Q (.int (i ^ j.toNat))):EvD X α (.BinOp a .Pow b pos) Q:=cz (gd:=fun i j=>.int (i ^ j.toNat)) cK (fun _ _ _=>.int _) h
theorem zq7 (h:EvD X α a fun x=>EvD X α b fun y=>∃i j,x=.int i/\y=.int j/\zr8 i j/\Q (.int (i / j))):EvD X α (.BinOp a .FloorDiv b pos) Q:=cz (gd:=fun i j=>.int (i / j)) uF (fun _ _ _=>.int _) h
theorem rp {i j r:Int}{p1 p2:Pos}{n1 n2:Nat}(hc:zu2 i j)(hr:i ^ j.toNat=r)(q:Q (.int r)):EvD X α (.BinOp (.Constant (.int i) n1 p1) .Pow (.Constant (.int j) n2 p2) pos) Q:=
 zw9 (zT (zT ⟨i,j,rfl,rfl,hc,hr▸q⟩))
theorem zB5 (h:EvD X α a fun x=>∃i,x=.int i/\Q (.int (-i))):EvD X α (.UnaryOp .USub a pos) Q:=fun F σ H R m k=>by
 refine⟨_,dH ky zl,?_⟩;refine h F σ H _ m fun x vx H1 q1 t1 k1 r1=>?_;obtain⟨i,rfl,q⟩:=q1;cases r1.int_inv;exact⟨i,rfl,k _ _ H1 q t1 k1 (.int _)⟩
theorem zo7 {op:CmpOp}{g:Int->Int->Bool}(ho:OpR X (compareOp op) (rI0 fun i j=>.bl (g i j)))(hm:behindInMarks op b=false)
  (h:EvD X α a fun x=>EvD X α b fun y=>∃i j,x=.int i/\y=.int j/\Q (.bool (g i j))):EvD X α (.Compare a [op] [b] pos) Q:=by
 refine tO (f:=tOp (rI0 fun i j=>.bl (g i j))) (wk ho zl zl hm) (fun _ _ _=>Iff.rfl) (h.imp fun x h=>h.imp fun y ⟨i,j,e1,e2,hq⟩=>?_);subst e1 e2;intro F σ H vx vy R m rx ry k;cases rx.int_inv;cases ry.int_inv;exact⟨i,j,rfl,rfl,k _ _ H hq m.tp Kz.refl (.bl _)⟩
theorem zr9 (h:EvD X α a fun x=>EvD X α b fun y=>∃i j,x=.int i/\y=.int j/\Q (.bool (decide (i<j)))):EvD X α (.Compare a [.Lt] [b] pos) Q:=zo7 pG (zG _) h
def vL :PyData->Bool
 |.none=>true
 |_=>false
theorem AV.non_iff {H:Hp}{v:V}{d:PyData}(h:AV H v d):decide (v=.non)=vL d:=by cases h<;>simp[vL]
theorem cS {op op':CmpOp}{g g':Int->Int->Bool}(ho:OpR X (compareOp op) (rI0 fun i j=>.bl (g i j)))(ho':OpR X (compareOp op') (rI0 fun i j=>.bl (g' i j)))(hm:lastMarks [op,op'] [b,c]=false)
  (h:EvD X α a fun x=>EvD X α b fun y=>∃i j,x=.int i/\y=.int j/\(if g i j=true then EvD X α c fun z=>∃k,z=.int k/\Q (.bool (g' j k)) else Q (.bool false))):EvD X α (.Compare a [op,op'] [b,c] pos) Q:=fun F σ H R m k=>by
 refine⟨_,rq ho ho' zl zl zl hm,?_⟩;refine h F σ H _ m fun x vx H1 q1 t1 k1 r1=>?_;have m1:=m.kz k1 t1;refine q1 F σ H1 _ m1 fun y vy H2 q2 t2 k2 r2=>?_;obtain⟨i,j,e1,e2,hq⟩:=q2;subst e1 e2;cases r1.int_inv;cases r2.int_inv;have m2:=m1.kz k2 t2;refine⟨i,j,rfl,rfl,_,rfl,?_⟩;cases hg:g i j with
 |true=>
  rw[hg] at hq;refine vY ?_;refine (by simpa using hq:EvD X α c _) F σ H2 _ m2 fun z vz H3 q3 t3 k3 r3=>?_;obtain⟨kk,rfl,hq3⟩:=q3;cases r3.int_inv;exact⟨j,kk,rfl,rfl,k _ _ H3 hq3 t3 ((k1.trans k2).trans k3) (.bl _)⟩
 |false=>
  rw[hg] at hq;exact uw (k _ _ H2 (by simpa using hq) t2 (k1.trans k2) (.bl _))
theorem oS {Q:Bool->Prop}(h:EvD X α e fun x=>∃k,x=.bool k/\Q k)(he:∀whole,isTrue e X.env whole=(do let v <-whole;standAt e.pos;holding [v] (truthy v)):=by intro _;rfl):EvT X α e Q:=fun F σ H R m k=>by
 refine⟨_,zd0 zl he,?_⟩;refine h F σ H _ m fun x vx H1 q1 t1 k1 r1=>?_;obtain⟨b,rfl,q⟩:=q1;cases r1.bl_inv;exact⟨b,rfl,k b H1 q t1 k1⟩
def Cmp (r:R2)(x y:PyData)(k:Bool):Prop:=∀(p:Addr->Prop) (H:Hp) (vx vy:V) (R:VK),AV (sub p H) vx x->AV (sub p H) vy y->R (.bl k) H->r vx vy H R
theorem wY {op:CmpOp}{r:R2}{Q:Bool->Prop}(ho:OpR X (compareOp op) r)(hm:behindInMarks op b=false)(h:EvD X α a fun x=>EvD X α b fun y=>∃k,Cmp r x y k/\Q k):EvT X α (.Compare a [op] [b] pos) Q:=fun F σ H R m k=>by
 refine⟨_,ym ho zl zl hm,?_⟩;refine h F σ H _ m fun x vx H1 q1 t1 k1 r1=>?_;have m1:=m.kz k1 t1;refine q1 F σ H1 _ m1 fun y vy H2 q2 t2 k2 r2=>?_;obtain⟨b,hc,q⟩:=q2;exact hc _ H2 vx vy _ (r1.same (k2.gz m1.tp)) r2 ⟨b,rfl,k b H2 q t2 (k1.trans k2)⟩
theorem zk3 {g:Int->Int->Bool}{i j:Int}:Cmp (rI0 fun i j=>.bl (g i j)) (.int i) (.int j) (g i j):=fun p H vx vy R rx ry h=>by
 cases rx.int_inv;cases ry.int_inv;exact⟨i,j,rfl,rfl,h⟩
theorem iO {op:CmpOp}{g:Int->Int->Bool}{Q:Bool->Prop}(ho:OpR X (compareOp op) (rI0 fun i j=>.bl (g i j)))(hm:behindInMarks op b=false)
  (h:EvD X α a fun x=>EvD X α b fun y=>∃i j,x=.int i/\y=.int j/\Q (g i j)):EvT X α (.Compare a [op] [b] pos) Q:=
 wY ho hm (h.imp fun x h=>h.imp fun y ⟨i,j,e1,e2,q⟩=>⟨_,by subst e1 e2;exact zk3,q⟩)
theorem ba {Q:Bool->Prop}(h:EvD X α a fun x=>EvD X α b fun y=>∃i j,x=.int i/\y=.int j/\Q (decide (i<j))):EvT X α (.Compare a [.Lt] [b] pos) Q:=iO pG (zG _) h
theorem dN {Q:Bool->Prop}(h:EvD X α a fun x=>EvD X α b fun y=>∃i j,x=.int i/\y=.int j/\Q (decide (j<i))):EvT X α (.Compare a [.Gt] [b] pos) Q:=iO iQ (zG _) h
theorem vE {j:Nat}{Q:Bool->Prop}(h:EvD X α a fun x=>Q (vL x)):EvT X α (.Compare a [.Is] [.Constant .none j p] pos) Q:=
 wY jj (zG _) (h.imp fun x h=>qk ⟨_,fun p H vx vy R rx ry z=>⟨ry.non_inv,by rw[rx.non_iff];exact z⟩,h⟩)
theorem zp2 {j:Nat}{Q:Bool->Prop}(h:EvD X α a fun x=>Q (!vL x)):EvT X α (.Compare a [.IsNot] [.Constant .none j p] pos) Q:=
 wY zj3 (zG _) (h.imp fun x h=>qk ⟨_,fun p H vx vy R rx ry z=>⟨ry.non_inv,by rw[rx.non_iff];exact z⟩,h⟩)
def zN7 :PyData->Option Bool
 |.none=>some false
 |.bool b=>some b
 |.int i=>some (i != 0)
 |.list ds=>some (!ds.isEmpty)
 |.tuple ds=>some (!ds.isEmpty)
 |_=>none
theorem AVs.isEmpty {H:Hp}{xs:List V}{ds:List PyData}(h:AVs H xs ds):xs.isEmpty=ds.isEmpty:=by cases h<;>rfl
theorem wC {Q:Bool->Prop}(h:EvD X α e fun x=>∃k,zN7 x=some k/\Q k)(he:∀whole,isTrue e X.env whole=(do let v <-whole;standAt e.pos;holding [v] (truthy v)):=by intro _;rfl):EvT X α e Q:=fun F σ H R m k=>by
 refine⟨_,aS zl he,?_⟩;refine h F σ H _ m fun x vx H1 q1 t1 k1 r1=>?_;obtain⟨b,hb,q⟩:=q1;refine⟨b,?_,k b H1 q t1 k1⟩;cases r1 with
 |non=>cases hb;rfl
 |bl z=>cases hb;rfl
 |int i=>cases hb;rfl
 |str s=>cases hb
 |lst h1 h2=>cases hb;exact .inl ⟨_,SqL.of (zj h1).2,by rw[h2.isEmpty]⟩
 |tup h1 h2=>cases hb;exact .inr (.inl ⟨_,SqT.of (zj h1).2,by rw[h2.isEmpty]⟩)
 |ins _ _=>cases hb
 |dk _ _=>cases hb
 |dt _ _=>cases hb
 |xc _ _ _=>cases hb
 |xn _=>cases hb
theorem wx {Q:Bool->Prop}(h:EvT X α a fun k=>Q (!k)):EvT X α (.UnaryOp .Not a pos) Q:=fun F σ H R m k=>by
 refine⟨_,bj xN,?_⟩;exact h F σ H _ m fun b H1 q1 t1 k1=>k _ H1 q1 t1 k1
def EvW (X:Cx)(α:Ev)(e:Expr)(Q:Bool->Prop):Prop:=∀(F:Fr) (σ:St) (H:Hp) (R:Bool->Hp->Prop),M F α σ H->(∀b H',Q b->zN F H'->Kz F H H'->R b H')->∃t,PW X e t/\t σ H R
def zM7 (X:Cx)(e:Expr):TT:=fun σ H Q=>∃t,PW X e t/\t σ H Q
theorem iJ :PW X e (zM7 X e):=fun w pins s σ H Q I ⟨t,p,q⟩=>p w pins s σ H Q I q
theorem EvW.t {Q:Bool->Prop}(h:EvW X α e Q):EvT X α e Q:=fun F σ H R m k=>by
 obtain⟨t,p,q⟩:=h F σ H R m k;exact⟨t,p.pt,q⟩
variable {rest:List Expr}
theorem iy {Q:Bool->Prop}(h:EvT X α a Q):EvW X α (.BoolOp .And [a] pos) Q:=fun F σ H R m k=>⟨_,iU xN,h F σ H R m k⟩
theorem aR {Q:Bool->Prop}(h:EvT X α a Q):EvW X α (.BoolOp .Or [a] pos) Q:=fun F σ H R m k=>⟨_,lO xN,h F σ H R m k⟩
theorem aY {Q:Bool->Prop}(h:EvT X α a fun k=>if k=true then EvW X α (.BoolOp .And (b::rest) pos) Q else Q false):EvW X α (.BoolOp .And (a::b::rest) pos) Q:=fun F σ H R m k=>by
 refine⟨_,aj xN iJ,?_⟩;refine h F σ H _ m fun c H1 q1 t1 k1=>?_;cases c with
 |true=>exact vY ((by simpa using q1:EvW X α _ Q) F σ H1 R (m.kz k1 t1) fun b H2 q2 t2 k2=>k b H2 q2 t2 (k1.trans k2))
 |false=>exact uw (k _ H1 (by simpa using q1) t1 k1)
theorem zc9 {Q:Bool->Prop}(h:EvT X α a fun k=>if k=true then Q true else EvW X α (.BoolOp .Or (b::rest) pos) Q):EvW X α (.BoolOp .Or (a::b::rest) pos) Q:=fun F σ H R m k=>by
 refine⟨_,bG xN iJ,?_⟩;refine h F σ H _ m fun c H1 q1 t1 k1=>?_;cases c with
 |false=>exact uw ((by simpa using q1:EvW X α _ Q) F σ H1 R (m.kz k1 t1) fun b H2 q2 t2 k2=>k b H2 q2 t2 (k1.trans k2))
 |true=>exact vY (k _ H1 (by simpa using q1) t1 k1)
theorem zy1 {op}(h:EvD X α a Q):EvD X α (.BoolOp op [a] pos) Q:=fun F σ H R m k=>⟨_,xV zl,h F σ H R m k⟩
theorem zA1 (h:EvD X α a fun x=>∃k,x=.bool k/\if k=true then EvD X α (.BoolOp .And (b::rest) pos) Q else Q (.bool false)):EvD X α (.BoolOp .And (a::b::rest) pos) Q:=fun F σ H R m k=>by
 refine⟨_,xo zl zl,?_⟩;refine h F σ H _ m fun x vx H1 q1 t1 k1 r1=>?_;obtain⟨c,rfl,q1⟩:=q1;cases r1.bl_inv;refine⟨c,rfl,?_⟩;cases c with
 |true=>exact vY ((by simpa using q1:EvD X α _ Q) F σ H1 R (m.kz k1 t1) fun d v H2 q2 t2 k2 r2=>k d v H2 q2 t2 (k1.trans k2) r2)
 |false=>exact uw (k _ _ H1 (by simpa using q1) t1 k1 (.bl _))
theorem zy2 (h:EvD X α a fun x=>∃k,x=.bool k/\Q (.bool (!k))):EvD X α (.UnaryOp .Not a pos) Q:=fun F σ H R m k=>by
 refine⟨_,bq zl,?_⟩;refine h F σ H _ m fun x vx H1 q1 t1 k1 r1=>?_;obtain⟨c,rfl,q⟩:=q1;cases r1.bl_inv;exact⟨c,rfl,k _ _ H1 q t1 k1 (.bl _)⟩
theorem ja (h:EvT X α c fun k=>if k=true then EvD X α a Q else EvD X α b Q):EvD X α (.IfExp c a b pos) Q:=fun F σ H R m k=>by
 refine⟨_,cF xN zl zl,?_⟩;refine h F σ H _ m fun x H1 q1 t1 k1=>?_;cases x with
 |true=>exact vY ((by simpa using q1:EvD X α _ Q) F σ H1 R (m.kz k1 t1) fun d v H2 q2 t2 k2 r2=>k d v H2 q2 t2 (k1.trans k2) r2)
 |false=>exact uw ((by simpa using q1:EvD X α _ Q) F σ H1 R (m.kz k1 t1) fun d v H2 q2 t2 k2 r2=>k d v H2 q2 t2 (k1.trans k2) r2)
theorem jF (hs:sY b)(h:EvD X α a fun x=>EvD X α b fun y=>∃ds i d,x=.list ds/\y=.int i/\atI ds i=some d/\Q d):EvD X α (.Subscript a b pos) Q:=by
 refine tO (f:=tOp (zC2 X.K)) (zS zW zl zl hs) (fun _ _ _=>Iff.rfl) (h.imp fun x h=>h.imp fun y ⟨ds,i,d,e1,e2,hat,hq⟩=>?_);subst e1 e2;intro F σ H vx vy R m rx ry k;obtain⟨a,xs,rfl,h1,h2⟩:=rx.lst_inv;cases ry.int_inv;obtain⟨v,hv,av⟩:=h2.atI hat;exact⟨a,xs,i,v,rfl,rfl,SqL.of (zj h1).2,hv,k d v H hq m.tp Kz.refl av⟩
theorem wy (hs:sY b)(h:EvD X α a fun x=>EvD X α b fun y=>∃ds i d,x=.tuple ds/\y=.int i/\atI ds i=some d/\Q d):EvD X α (.Subscript a b pos) Q:=by
 refine tO (f:=tOp (zC3 X.K)) (zS yI zl zl hs) (fun _ _ _=>Iff.rfl) (h.imp fun x h=>h.imp fun y ⟨ds,i,d,e1,e2,hat,hq⟩=>?_);subst e1 e2;intro F σ H vx vy R m rx ry k;obtain⟨a,xs,rfl,h1,h2⟩:=rx.tup_inv;cases ry.int_inv;obtain⟨v,hv,av⟩:=h2.atI hat;exact⟨a,xs,i,v,rfl,rfl,SqT.of (zj h1).2,hv,k d v H hq m.tp Kz.refl av⟩
def EvO (X:Cx)(α:Ev)(e:Option Expr)(Q:Option Int->Prop):Prop:=∀(F:Fr) (σ:St) (H:Hp) (R:Option Int->Hp->Prop),M F α σ H->(∀i H',Q i->zN F H'->Kz F H H'->R i H')->∃t,PO X e t/\t σ H R
def zM5 (X:Cx)(e:Option Expr):TO:=fun σ H Q=>∃t,PO X e t/\t σ H Q
theorem iF {e:Option Expr}:PO X e (zM5 X e):=fun pins s σ H Q I ⟨t,p,q⟩=>p pins s σ H Q I q
theorem vb {Q:Option Int->Prop}(q:Q none):EvO X α none Q:=fun F σ H R m k=>⟨_,pZ,k _ H q m.tp Kz.refl⟩
theorem vg {Q:Option Int->Prop}(h:EvD X α a fun x=>∃i,x=.int i/\Q (some i)):EvO X α (some a) Q:=fun F σ H R m k=>by
 refine⟨_,sQ zl,?_⟩;refine h F σ H _ m fun x vx H1 q1 t1 k1 r1=>?_;obtain⟨i,rfl,q⟩:=q1;cases r1.int_inv;exact⟨i,rfl,k _ H1 q t1 k1⟩
theorem M.lay {F:Fr}{σ:St}{H:Hp}{l:Addr}{xs:List V}{ds:List PyData}(m:M F α σ H)(hl:H l=none)(h:AVs (Gz F α σ H) xs ds):zN F (upd H l (.lst xs))/\Kz F H (upd H l (.lst xs))/\xf F α σ H (.ref l) (upd H l (.lst xs)) ds:=by
 refine⟨m.tp.same (yj hl),Kz.of_same (yj hl),l,xs,rfl,hl,zk,h.same (zw fun a o ha e=>?_)⟩;have:=zm e hl;exact⟨⟨ha,this⟩,by rw[zh this];exact e⟩
theorem sf {lo hi:Option Expr}{Q:List PyData->Prop}(h:EvD X α a fun x=>EvO X α lo fun l=>EvO X α hi fun u=>∃ds,x=.list ds/\Q (cutD ds l u)):EvL X α (.Subscript a (.Slice lo hi none p) pos) Q:=fun F σ H R m k=>by
 refine⟨_,rz oT zl iF iF,?_⟩;refine h F σ H _ m fun x vx H1 q1 t1 k1 r1=>?_;have m1:=m.kz k1 t1;refine q1 F σ H1 _ m1 fun l H2 q2 t2 k2=>?_;have m2:=m1.kz k2 t2;refine q2 F σ H2 _ m2 fun u H3 q3 t3 k3=>?_;have m3:=m2.kz k3 t3;obtain⟨ds,rfl,q⟩:=q3;obtain⟨a,xs,rfl,h1,h2⟩:=(r1.same ((k2.gz m1.tp).trans (k3.gz m2.tp))).lst_inv;refine⟨a,xs,rfl,SqL.of (zj h1).2,fun p hp=>?_⟩;obtain⟨g1,g2,g3⟩:=m3.lay hp (h2.cut l u);have kk:=(k1.trans k2).trans k3;obtain⟨l',xs',e1,e2,e3,e4⟩:=g3;refine k _ _ _ q g1 (kk.trans g2) ⟨l',xs',e1,?_,e3,e4⟩;cases z:H l' with
 |none=>rfl
 |some o=>rw[kk l' o z (m.tp.nt (ow0 (m3.fresh e2)))] at e2;cases e2
theorem xf.back {F:Fr}{σ:St}{H H1 H':Hp}{v:V}{ds:List PyData}(m:M F α σ H)(k:Kz F H H1)(t1:zN F H1)(h:xf F α σ H1 v H' ds):xf F α σ H v H' ds:=by
 obtain⟨l',xs',e1,e2,e3,e4⟩:=h;refine⟨l',xs',e1,?_,e3,e4⟩;cases z:H l' with
 |none=>rfl
 |some o=>rw[k l' o z (m.tp.nt (ow0 ((m.kz k t1).fresh e2)))] at e2;cases e2
theorem zp {Q:List A->Prop}(q:Q []):EvA X α [] Q:=fun F σ H R m k=>⟨_,zu,k _ _ H q m.tp Kz.refl .nil⟩
theorem zd {Q:List A->Prop}(h:EvD X α e fun d=>EvA X α es fun as=>Q (.dat d::as))(hs:starEach (e::es) X.env=(false,eval e X.env)::starEach es X.env:=by rfl):EvA X α (e::es) Q:=fun F σ H R m k=>by
 refine⟨_,zg zl yN hs,?_⟩;refine h F σ H _ m fun d v H1 q1 t1 k1 r1=>?_;have m1:=m.kz k1 t1;exact q1 F σ H1 _ m1 fun as vs H2 q2 t2 k2 r2=>k _ _ H2 q2 t2 (k1.trans k2) (.cons (r1.same (k2.gz m1.tp)) r2)
theorem zL {Q:List A->Prop}(i:Nat){x:Str}(hi:α[i]?=some (some .tape))(h:EvA X α es fun as=>Q (.tape::as))(hN:X.N[i]?=some x:=by rfl)(hv:Vis X.env.scope x:=by first|exact Or.inl rfl|exact Or.inr (Or.inl rfl)|exact Or.inr (Or.inr rfl))
  (hd:(x == ("__debug__":Str))=false:=by decide) (hcd:(x == ("__classdict__":Str))=false:=by decide) (hs:starEach (.Name x pos::es) X.env=(false,eval (.Name x pos) X.env)::starEach es X.env:=by rfl):EvA X α (.Name x pos::es) Q:=fun F σ H R m k=>by
 obtain⟨t,b,c,h1,h2⟩:=m.tvar i hi;refine⟨_,zg (xH hN hv hd hcd) yN hs,.ref t,h2,?_⟩;exact h F σ H _ m fun as vs H2 q2 t2 k2 r2=>k _ _ H2 q2 t2 k2 (.cons ⟨t,b,c,h1,rfl⟩ r2)
def datas :List A->Option (List PyData)
 |[]=>some []
 |.dat d::r=>(datas r).map (d::·)
 |_::_=>none
theorem yr.datas {F:Fr}{G:Hp}:∀{vs:List V} {as:List A} {ds:List PyData},yr F G vs as->L2.datas as=some ds->AVs G vs ds
 |_,_,ds,.nil,h=>by cases h;exact .nil
 |_,_,ds,.cons (a:=.dat d) (as:=as) h r,e=>by
  simp only[L2.datas,zQ9] at e;obtain⟨es,e1,rfl⟩:=e;exact .cons h (yr.datas r e1)
 |_,_,ds,.cons (a:=.ow _) h r,e=>by cases h
 |_,_,ds,.cons (a:=.deep _ _) h r,e=>by cases h
 |_,_,ds,.cons (a:=.exc _ _) h r,e=>by cases h
 |_,_,ds,.cons (a:=.pin _ _ _) h r,e=>by cases h
 |_,_,ds,.cons (a:=.tape) h r,e=>by cases e
 |_,_,ds,.cons (a:=.at _) h r,e=>by cases h
theorem yQ {n:Nat}(h:EvA X α es fun as=>∃ds,datas as=some ds/\ds.length<=1000/\Q (.tuple ds)):EvD X α (.Tuple es n pos) Q:=fun F σ H R m k=>by
 refine⟨_,oK yN,?_⟩;refine h F σ H _ m fun as vs H1 q1 t1 k1 r1=>?_;obtain⟨ds,e,hl,q⟩:=q1;have r:=r1.datas e;have m1:=m.kz k1 t1;refine⟨by rw[r.length];exact zW0 (yK hl),fun p hp=>?_⟩;refine k _ _ _ q (t1.same (yj hp)) (k1.trans (Kz.of_same (yj hp))) (.tup (xs:=vs) (zE (m1.fresh hp) zk) (r.same (zw fun a o ha e=>⟨ha,by rw[zh (zm e hp)];exact e⟩)))
theorem yD {Q:List PyData->Prop}(h:EvA X α es fun as=>∃ds,datas as=some ds/\ds.length<=1000/\Q ds):EvL X α (.List es pos) Q:=fun F σ H R m k=>by
 refine⟨_,dI yN,?_⟩;refine h F σ H _ m fun as vs H1 q1 t1 k1 r1=>?_;obtain⟨ds,e,hl,q⟩:=q1;have r:=r1.datas e;have m1:=m.kz k1 t1;refine⟨by rw[r.length];exact zW0 (yK hl),fun p hp=>?_⟩;obtain⟨g1,g2,g3⟩:=m1.lay hp r;exact k _ _ _ q g1 (k1.trans g2) (g3.back m k1 t1)
theorem xr {Q:List PyData->Prop}(h:EvD X α a fun x=>EvD X α b fun y=>∃ds es,x=.list ds/\y=.list es/\ds.length+es.length<=1000/\Q (ds++es)):EvL X α (.BinOp a .Add b pos) Q:=fun F σ H R m k=>by
 refine⟨_,yz zC1 zl zl,?_⟩;refine h F σ H _ m fun x vx H1 q1 t1 k1 r1=>?_;have m1:=m.kz k1 t1;refine q1 F σ H1 _ m1 fun y vy H2 q2 t2 k2 r2=>?_;have m2:=m1.kz k2 t2;obtain⟨ds,es,rfl,rfl,hl,q⟩:=q2;obtain⟨a,xs,rfl,h1,h2⟩:=(r1.same (k2.gz m1.tp)).lst_inv;obtain⟨b,ys,rfl,h3,h4⟩:=r2.lst_inv;refine⟨a,b,xs,ys,rfl,rfl,(zj h1).2,(zj h3).2,by rw[h2.length,h4.length];exact zW0 (yK hl),fun p hp=>?_⟩;obtain⟨g1,g2,g3⟩:=m2.lay hp (h2.append h4);exact k _ _ _ q g1 ((k1.trans k2).trans g2) (g3.back m (k1.trans k2) t2)
theorem wG {id:String}{x:Str}{r:List V->Hp->VK->Prop}(hc:xj X (.builtin id) r)(hg:Gl X x)(hm:X.mg x=none)(hv:bootBuiltins x=some (.builtin id))
  (h:EvA X α (e::es) fun as=>∀(F:Fr) (σ:St) (H:Hp) (vs:List V) (R:VK),M F α σ H->yr F (Gz F α σ H) vs as->(∀d v H',Q d->zN F H'->Kz F H H'->AV (Gz F α σ H') v d->R v H')->r vs H R)
  (hn:x≠"__name__":=by decide) (hdb:(x == ("__debug__":Str))=false:=by decide) (he:starEach (e::es) X.env=(false,eval e X.env)::starEach es X.env:=by rfl) (hpl:(backTo pos (starEach es X.env)).any (·.1)=false:=by rfl):
  EvD X α (.Call (.Name x p) (e::es) [] pos) Q:=fun F σ H R m k=>by
 refine⟨_,yi hc hg hm hv yN hn hdb he hpl,?_⟩;refine h F σ H _ m fun as vs H1 q1 t1 k1 r1=>?_;exact q1 F σ H1 vs R (m.kz k1 t1) r1 fun d v H' qd t2 k2 r2=>k d v H' qd t2 (k1.trans k2) r2
end
section
variable {X:Cx}{α:Ev}{e a b c:Expr}{es:List Expr}{pos p q:Pos}{Q:PyData->Prop}
theorem yr.one {F:Fr}{G:Hp}{vs:List V}{d:PyData}(h:yr F G vs [.dat d]):∃v,vs=[v]/\AV G v d:=by
 cases h with|cons h r=>cases r;exact⟨_,rfl,h⟩
theorem yr.two {F:Fr}{G:Hp}{vs:List V}{d e:PyData}(h:yr F G vs [.dat d,.dat e]):∃v u,vs=[v,u]/\AV G v d/\AV G u e:=by
 cases h with|cons h r=>obtain⟨u,rfl,h2⟩:=r.one;exact⟨_,u,rfl,h,h2⟩
def zM2 :PyData->Option Int
 |.list ds=>some ds.length
 |.tuple ds=>some ds.length
 |_=>none
theorem uv (hg:Gl X "len")(hm:X.mg "len"=none)(h:EvD X α e fun x=>∃n,zM2 x=some n/\Q (.int n))(he:starEach [e] X.env=(false,eval e X.env)::starEach [] X.env:=by rfl):
  EvD X α (.Call (.Name "len" p) [e] [] pos) Q:=by
 refine wG yx hg hm zZ1 (zd (h.imp fun x ⟨n,e1,q⟩=>zp ?_) he) (he:=he);intro F σ H vs R m rv k;obtain⟨v,rfl,av⟩:=rv.one;cases av with
 |lst h1 h2=>cases e1;rw[<-h2.length] at q;exact⟨_,_,rfl,.inl (SqL.of (zj h1).2),k _ _ H q m.tp Kz.refl (.int _)⟩
 |tup h1 h2=>cases e1;rw[<-h2.length] at q;exact⟨_,_,rfl,.inr (SqT.of (zj h1).2),k _ _ H q m.tp Kz.refl (.int _)⟩
 |_=>cases e1
theorem qf {T:String}{x:Str}{p1:Pos}(hg:Gl X "isinstance")(hm:X.mg "isinstance"=none)(hgT:Gl X x)(hmT:X.mg x=none)(hT:bootBuiltins x=some (.type T))
  (h:EvD X α a fun x=>∃k,x.hasDict=false/\qS T x=some k/\Q (.bool k)) (hnx:x≠"__name__":=by decide) (hdx:(x == ("__debug__":Str))=false:=by decide)
  (he:starEach [a,.Name x p1] X.env=(false,eval a X.env)::starEach [.Name x p1] X.env:=by rfl) (he2:starEach [.Name x p1] X.env=(false,eval (.Name x p1) X.env)::starEach [] X.env:=by rfl) (hpl:(backTo pos (starEach [.Name x p1] X.env)).any (·.1)=false:=by rfl):
  EvD X α (.Call (.Name "isinstance" p) [a,.Name x p1] [] pos) Q:=fun F σ H R m k=>by
 refine⟨_,yi xP hg hm zZ8 (zg zl (zg (vN hgT hmT hT (show RelV (.ty T) (.type T) from rfl) hnx hdx) zu he2) he) (he:=he) (hpl:=hpl),?_⟩;refine h F σ H _ m fun x vx H1 q1 t1 k1 r1=>?_;obtain⟨b,hd,e,q⟩:=q1;exact⟨vx,T,x,b,rfl,(r1.dv hd).same xD,e,k _ _ H1 q t1 k1 (.bl b)⟩
def wR :PyData->Option (List PyData)
 |.list ds=>some ds
 |.tuple ds=>some ds
 |_=>none
theorem jX {Q:List PyData->Prop}(hg:Gl X "list")(hm:X.mg "list"=none)(h:EvD X α e fun x=>∃ds,wR x=some ds/\Q ds)(he:starEach [e] X.env=(false,eval e X.env)::starEach [] X.env:=by rfl):
  EvL X α (.Call (.Name "list" p) [e] [] pos) Q:=fun F σ H R m k=>by
 refine⟨_,xu uW hg hm boot_list (zg zl zu he) (he:=he),?_⟩;refine h F σ H _ m fun x vx H1 q1 t1 k1 r1=>?_;obtain⟨ds,e1,q⟩:=q1;have m1:=m.kz k1 t1;have fin:∀{xs:List V},AVs (Gz F α σ H1) xs ds->∀l,H1 l=none->R (.ref l) (upd H1 l (.lst xs)):=fun {xs} h2 l hl=>by
  obtain⟨g1,g2,g3⟩:=m1.lay hl h2;exact k _ _ _ q g1 (k1.trans g2) (g3.back m k1 t1)
 cases r1 with
 |lst h1 h2=>cases e1;exact⟨_,_,rfl,.inl (SqL.of (zj h1).2),fin h2⟩
 |tup h1 h2=>cases e1;exact⟨_,_,rfl,.inr (SqT.of (zj h1).2),fin h2⟩
 |_=>cases e1
theorem AVs.bools {H:Hp}:∀{xs:List V} {bs:List Bool},AVs H xs (bs.map .bool)->xs=bs.map V.bl
 |_,[],.nil=>rfl
 |_,b::bs,.cons h r=>by rw[h.bl_inv,AVs.bools r];rfl
theorem kl (hc:X.calm=true)(hg:Gl X "all")(hm:X.mg "all"=none)(h:EvD X α e fun x=>∃bs:List Bool,x=.list (bs.map .bool)/\Q (.bool (bs.all id)))(he:starEach [e] X.env=(false,eval e X.env)::starEach [] X.env:=by rfl):
  EvD X α (.Call (.Name "all" p) [e] [] pos) Q:=by
 refine wG (fA hc) hg hm boot_all (zd (h.imp fun x ⟨bs,e1,q⟩=>zp ?_) he) (he:=he);intro F σ H vs R m rv k;subst e1;obtain⟨v,rfl,av⟩:=rv.one;obtain⟨a,xs,rfl,h1,h2⟩:=av.lst_inv;exact⟨a,bs,rfl,by rw[(zj h1).2,h2.bools],k _ _ H q m.tp Kz.refl (.bl _)⟩
theorem zn6 (hgu:X.A.guards=some [])(hu:X.A.units+64<cLine)(hg:Gl X "repr")(hm:X.mg "repr"=none)(h:EvD X α e fun x=>zH sizeLine x/\Q (.str x.shown))(he:starEach [e] X.env=(false,eval e X.env)::starEach [] X.env:=by rfl):
  EvD X α (.Call (.Name "repr" p) [e] [] pos) Q:=by
 refine wG (gG hgu hu) hg hm boot_repr (zd (h.imp fun x ⟨n,q⟩=>zp ?_) he) (he:=he);intro F σ H vs R m rv k;obtain⟨v,rfl,av⟩:=rv.one;exact⟨v,x,rfl,(av.dv n.nod).same xD,n,k _ _ H q m.tp Kz.refl (.str _)⟩
section
variable {k:Nat}{f:Addr}{fd:FuncData}{ps:List Str}{φ:List A->(A->Prop)->Prop}{x:Str}
theorem vf {F:Fr}{σ:St}{H:Hp}{vs:List V}{as:List A}{QA:A->Prop}{R:VK}(m:M F α σ H)(rv:yr F (Gz F α σ H) vs as)(hφ:φ as QA)
  (kk:∀a v H',QA a->tS ⟨H,Ow F α σ,F.tp⟩ v H' a->R v H') {E:XK}:spA φ (vs++[]) H R E:=by
 refine⟨⟨H,Ow F α σ,F.tp⟩,as,QA,rfl,?_,?_,?_,hφ,kk⟩
 ·exact m.tp.to rfl fun _ z=>.inl z
 ·exact fun y z=>m.owEx z
 ·rw[zV1];exact yr.to (F:=F) (F':=⟨H,Ow F α σ,F.tp⟩) (fun _ _ e=>e) rfl rv
theorem tS.back {F:Fr}{σ:St}{H H':Hp}{v:V}{a:A}(m:M F α σ H)(h:tS ⟨H,Ow F α σ,F.tp⟩ v H' a):zN F H'/\Kz F H H'/\AV (Gz F α σ H') v a.d:=by
 obtain⟨t,kz,r⟩:=h;refine⟨m.tp.re t rfl,kz,?_⟩;cases a with
 |dat d=>exact r
 |ow c=>
  obtain⟨l,xs,ds,rfl,rfl,h1,h2,h3,h4⟩:=r;exact .lst (zE h2 h3) (h4.same (zw fun a o h e=>⟨h.1,e⟩))
 |deep d S=>
  obtain⟨h1,h2⟩:=r;refine h1.same fun x o e=>?_;rcases dX e with ⟨z1,z2⟩|⟨_,z2⟩
  ·exact zE (h2 x z1).1 z2
  ·exact z2
 |tape=>exact r.elim
 |«at» _=>exact r.elim
 |exc _ _=>exact r.elim
 |pin _ _ _=>exact r.elim
theorem zq9 (G:zC X.prog X.w X.K X.mg X.base CX0 k f fd ps (spA φ))(hr:zV k X.A)(hg:Gl X x)(hm:X.mg x=some (.ref f))(hk:PySem.W.keepIn X.K (.ref f)=true)(hb:Binds X.K fd ps [])
  (h:EvA X α (e::es) fun as=>φ as fun a=>Q a.d) (hdb:(x == ("__debug__":Str))=false:=by decide) (he:starEach (e::es) X.env=(false,eval e X.env)::starEach es X.env:=by rfl) (hpl:(backTo pos (starEach es X.env)).any (·.1)=false:=by rfl):
  EvD X α (.Call (.Name x p) (e::es) [] pos) Q:=fun F σ H R m kk=>by
 refine⟨_,zX G hr hg hm hk hb .nil yk yN hdb he hpl,?_⟩;refine h F σ H _ m fun as vs H1 q1 t1 k1 r1=>?_;have m1:=m.kz k1 t1;refine vf m1 r1 q1 fun a v H' qa ra=>?_;obtain⟨g1,g2,g3⟩:=ra.back m1;exact kk _ v H' qa g1 (k1.trans g2) g3
theorem zl6 {Q:List PyData->Prop}(G:zC X.prog X.w X.K X.mg X.base CX0 k f fd ps (spA φ))(hr:zV k X.A)(hg:Gl X x)(hm:X.mg x=some (.ref f))(hk:PySem.W.keepIn X.K (.ref f)=true)(hb:Binds X.K fd ps [])
  (h:EvA X α (e::es) fun as=>φ as fun a=>∃ds,a=.own ds/\Q ds) (hdb:(x == ("__debug__":Str))=false:=by decide) (he:starEach (e::es) X.env=(false,eval e X.env)::starEach es X.env:=by rfl) (hpl:(backTo pos (starEach es X.env)).any (·.1)=false:=by rfl):
  EvL X α (.Call (.Name x p) (e::es) [] pos) Q:=fun F σ H R m kk=>by
 refine⟨_,zX G hr hg hm hk hb .nil yk yN hdb he hpl,?_⟩;refine h F σ H _ m fun as vs H1 q1 t1 k1 r1=>?_;have m1:=m.kz k1 t1;refine vf m1 r1 q1 fun a v H' qa ra=>?_;obtain⟨ds,rfl,q⟩:=qa;obtain⟨g1,g2,_⟩:=ra.back m1;obtain⟨_,_,l,xs,ds',rfl,hc,h1,h2,h3,h4⟩:=ra;cases hc;exact kk ds _ H' q g1 (k1.trans g2) (xf.back m k1 t1 ⟨l,xs,rfl,h1,h3,h4⟩)
end
theorem rW {i j:Nat}{x:Option A}(h:i≠j):(α.set i x)[j]?=α[j]?:=zU3 h
theorem zY {i:Nat}{x:Option A}{j:Nat}{y:Option A}(h:(α.set i x)[j]?=some y):(i=j/\x=y)\/(i≠j/\α[j]?=some y):=by
 by_cases hij:i=j
 ·subst hij;left;have hl:i<α.length:=by
   have:=(zP1.mp h).1
   rwa [zV2] at this
  rw[zY0 hl] at h;exact⟨rfl,zR7 h⟩
 ·right;rw[zU3 hij] at h;exact⟨hij,h⟩
theorem M.put {F:Fr}{σ:St}{H:Hp}{i:Nat}{b:Option A}(m:M F α σ H)(hf:∀s c x,σ[i]?=some s->b=some c->foot s c x->∃a,α[i]?=some (some a)/\foot s a x)
  (hok:∀s c,i<α.length->σ[i]?=some s->b=some c->uo (Gz F (α.set i b) σ H) F H s c) (hx:∀c,b=some c->noX c:=by intro c z;cases z;trivial):zz (Gz F α σ H) (Gz F (α.set i b) σ H)/\M F (α.set i b) σ H:=by
 have gs:zz (Gz F α σ H) (Gz F (α.set i b) σ H):=zw fun a o h e=>⟨fun z=>h (by
  rcases z with z|⟨j,c,s,e1,e2,f⟩
  ·exact .inl z
  ·rcases zY e1 with ⟨rfl,z⟩|⟨hj,e1'⟩
   ·obtain⟨a',h1,h2⟩:=hf s c a e2 z f;exact .inr ⟨i,a',s,h1,e2,h2⟩
   ·exact .inr ⟨j,c,s,e1',e2,f⟩),e⟩
 have old:∀{j:Nat} {c:A} {s:Option V} {x:Addr},(α.set i b)[j]?=some (some c)->σ[j]?=some s->foot s c x->∃a,α[j]?=some (some a)/\foot s a x:=fun {j c s x} e1 e2 f=>by
  rcases zY e1 with ⟨rfl,z⟩|⟨hj,e1'⟩
  ·exact hf s c x e2 z f
  ·exact⟨c,e1',f⟩
 refine⟨gs,by rw[zV2];exact m.len,fun j c s e1 e2=>?_,fun j k c d s t x e1 e2 h1 h2 f1 f2=>?_,fun j r q e j' c s x e1 e2 f=>?_,m.tp,m.keep,m.oex⟩
 ·rcases zY e1 with ⟨rfl,z⟩|⟨hj,e1'⟩
  ·refine hok s c ?_ e2 z;have:=(zP1.mp e1).1
   rwa [zV2] at this
  ·exact (m.ok j c s e1' e2).stay gs (fun x o f e=>⟨e,(m.ft e1' e2 f).1,(m.ft e1' e2 f).2.1⟩) rfl fun _ _ _ l=>l
 ·obtain⟨a',g1,g2⟩:=old e1 h1 f1;obtain⟨b',g3,g4⟩:=old e2 h2 f2;exact m.dj j k a' b' s t x g1 g3 h1 h2 g2 g4
 ·obtain⟨a',g1,g2⟩:=old e1 e2 f;rcases zY e with ⟨rfl,z⟩|⟨_,e'⟩
  ·exact (hx _ z).elim
  ·exact m.xd j r q e' j' a' s x g1 e2 g2
theorem M.gave {F:Fr}{σ:St}{H:Hp}{i:Nat}{a:A}{s:Option V}{b:Option A}{x:Addr}(m:M F α σ H)(e1:α[i]?=some (some a))(e2:σ[i]?=some s)(f:foot s a x)(hb:∀c,b=some c->¬foot s c x):¬Ow F (α.set i b) σ x:=by
 rintro (z|⟨j,c,t,h1,h2,g⟩)
 ·exact (m.ft e1 e2 f).1 z
 ·rcases zY h1 with ⟨rfl,z⟩|⟨hj,h1'⟩
  ·rw[e2] at h2;cases h2;exact hb c z g
  ·exact hj (m.dj i j a c s t x e1 h1' e2 h2 f g)
theorem za0 {F:Fr}{σ:St}{H:Hp}{i:Nat}{b:A}(hb:∀s x,¬foot s b x):zz (Gz F α σ H) (Gz F (α.set i (some b)) σ H):=zw fun a o h e=>⟨fun z=>h (by
 rcases z with z|⟨j,c,s,e1,e2,f⟩
 ·exact .inl z
 ·rcases zY e1 with ⟨rfl,z⟩|⟨hj,e1'⟩
  ·cases z;exact (hb _ _ f).elim
  ·exact .inr ⟨j,c,s,e1',e2,f⟩),e⟩
theorem M.frz {F:Fr}{σ:St}{H:Hp}{i:Nat}{ds:List PyData}(m:M F α σ H)(hi:α[i]?=some (some (.own ds))):M F (α.set i (some (.dat (.list ds)))) σ H:=
 (m.put (b:=some (.dat (.list ds))) (fun s c' x _ z f=>by cases z;exact f.elim) fun s c' _ e2 z=>by
  cases z;obtain⟨l,o,h1,h2,h3,h4,h5⟩:=m.owc i _ hi;rw[h1] at e2;cases e2;exact⟨.ref l,rfl,(h3.same (za0 (b:=.dat (.list ds)) fun _ _ f=>f)).av (zE (m.gave hi h1 rfl fun c z=>by cases z;exact id) h2)⟩).2
theorem zD5 {F:Fr}{σ:St}{H H':Hp}{i:Nat}{a:A}{b:Option A}(m:M F α σ H)(k:Kz F H H')(hi:α[i]?=some (some a))(x:Addr)(o:HO)(ho:¬Ob o)(h:Gz F (α.set i b) σ H' x=some o):Gz F α σ H' x=some o:=by
 obtain⟨h1,h2⟩:=zj h;refine zE ?_ h2;rintro (z|⟨j,c,s,e1,e2,f⟩)
 ·exact h1 (.inl z)
 ·by_cases hj:i=j
  ·subst hj;obtain⟨g1,g2,o',g3,g4⟩:=m.ft e1 e2 f;rw[k _ _ g3 (m.tp.nt g1)] at h2;cases h2;exact ho g4
  ·exact h1 (.inr ⟨j,c,s,by rw[rW hj];exact e1,e2,f⟩)
theorem kQ {Q:List PyData->Prop}{i:Nat}{a:A}{b:Option A}(hi:α[i]?=some (some a))(hm:∀F σ H,M F α σ H->M F (α.set i b) σ H)(h:EvL X (α.set i b) e fun d=>vW d=true/\Q d):EvL X α e Q:=fun F σ H R m k=>
 h F σ H R (hm F σ H m) fun d v H' q t kz r=>by
  obtain⟨l,xs,h1,h2,h3,h4⟩:=r;refine k d v H' q.2 t kz ⟨l,xs,h1,h2,h3,h4.noL (fun a ys hno z=>?_) q.1⟩;obtain⟨z1,z2⟩:=zj z;obtain⟨w1,w2⟩:=zj (zD5 m kz hi a ys hno (zE z1.1 z2));exact zE ⟨w1,z1.2⟩ w2
theorem jZ {Q:Bool->Prop}(i:Nat){ds:List PyData}(hi:α[i]?=some (some (.own ds)))(h:EvT X (α.set i (some (.dat (.list ds)))) e Q):EvT X α e Q:=fun F σ H R m k=>h F σ H R (m.frz hi) k
theorem jT {Q:List PyData->Prop}(i:Nat){ds:List PyData}(hi:α[i]?=some (some (.own ds)))(h:EvL X (α.set i (some (.dat (.list ds)))) e fun d=>vW d=true/\Q d):EvL X α e Q:=kQ hi (fun _ _ _ m=>m.frz hi) h
def ItW (p:Addr->Prop)(J:It)(ds:List PyData)(G:Hp):Prop:=∀(i:Nat) (H2:Hp) (q:Addr->Prop),zz G (sub q H2)->
 (∀d,ds[i]?=some d->J.go i H2/\∀x H3,J.yld i H2 x H3->zz H2 H3/\((∀a o,H3 a=some o->H2 a=none->q a)->AV (sub q H3) x d))/\(ds.length<=i->J.stop i H2)
def zv4 (X:Cx)(tg e:Expr):TI:=fun σ H R=>∃t,PI X tg e t/\t σ H R
theorem oj {tg e:Expr}:PI X tg e (zv4 X tg e):=fun pins s σ H R I ⟨t,p,q⟩=>p pins s σ H R I q
def EvI (X:Cx)(α:Ev)(tg e:Expr)(Q:List PyData->Prop):Prop:=∀(F:Fr) (σ:St) (H:Hp) (R:It->Hp->Prop),M F α σ H->
 (∀ds J H',Q ds->zN F H'->Kz F H H'->ItW (fun x=>¬Ow F α σ x) J ds (Gz F α σ H')->R J H')->zv4 X tg e σ H R
theorem wQ {tg:Expr}{Q:List PyData->Prop}(h:EvD X α e fun x=>∃ds,x=.list ds/\Q ds):EvI X α tg e Q:=fun F σ H R m k=>by
 refine⟨_,iH zl,?_⟩;refine h F σ H _ m fun x vx H1 q1 t1 k1 r1=>?_;obtain⟨ds,rfl,q⟩:=q1;obtain⟨a,xs,rfl,h1,h2⟩:=r1.lst_inv;refine⟨a,rfl,⟨xs,SqL.of (zj h1).2⟩,k ds _ H1 q t1 k1 fun i H2 p s=>⟨fun d hd=>?_,fun hl=>?_⟩⟩
 ·obtain⟨x,hx,av⟩:=h2.get hd;have ha:=SqL.of (K:=X.K) (zj (s _ _ h1)).2;refine⟨⟨xs,x,ha,hx⟩,fun x' H3 y=>?_⟩;obtain⟨e,y⟩:=y;subst e;have:=y xs ha;rw[hx] at this;cases this;exact⟨zz.refl _,fun _=>av.same s⟩
 ·exact⟨xs,SqL.of (zj (s _ _ h1)).2,by rw[h2.length];exact hl⟩
theorem pO {p:Addr->Prop}{lo:Int}{n:Nat}{G:Hp}:ItW p (Itr lo n) ((zt lo n).map .int) G:=fun i H2 q s=>⟨fun d hd=>by
  rw[zQ2,zQ9] at hd;obtain⟨z,h1,rfl⟩:=hd;have hi:i<n:=by
   have:=(zP1.mp h1).1
   rwa [zi] at this
  rw[yy hi] at h1;cases h1;refine⟨hi,fun x H3 y=>?_⟩;obtain⟨rfl,rfl⟩:=y;exact⟨zz.refl _,fun _=>.int _⟩,fun hl=>by
  rw[zO6,zi] at hl;exact hl⟩
theorem xQ {tg:Expr}{Q:List PyData->Prop}(hg:Gl X "range")(hm:X.mg "range"=none)(h:EvD X α a fun x=>∃j,x=.int j/\-(2 ^ 62)<=j/\j<2 ^ 62/\Q ((zt 0 j.toNat).map .int))(hs:starEach [a] X.env=[(false,eval a X.env)]:=by rfl):
  EvI X α tg (.Call (.Name "range" p) [a] [] pos) Q:=fun F σ H R m k=>by
 refine⟨_,eV hg hm (zg zl zu hs) hs,?_⟩;refine h F σ H _ m fun x vx H1 q1 t1 k1 r1=>?_;obtain⟨j,rfl,b1,b2,q⟩:=q1;cases r1.int_inv;exact⟨j,rfl,b1,b2,k _ _ H1 q t1 k1 pO⟩
theorem ph {tg:Expr}{Q:List PyData->Prop}(hg:Gl X "range")(hm:X.mg "range"=none)(h:EvD X α a fun x=>EvD X α b fun y=>∃i j,x=.int i/\y=.int j/\(-(2 ^ 62)<=i/\i<2 ^ 62/\-(2 ^ 62)<=j/\j<2 ^ 62)/\Q ((zt i (j-i).toNat).map .int))
  (hs:starEach [a,b] X.env=[(false,eval a X.env),(false,eval b X.env)]:=by rfl) (hs2:starEach [b] X.env=[(false,eval b X.env)]:=by rfl) (hs3:starEach [a,b] X.env=(false,eval a X.env)::starEach [b] X.env:=by rfl):
  EvI X α tg (.Call (.Name "range" p) [a,b] [] pos) Q:=fun F σ H R m k=>by
 refine⟨_,eZ hg hm (zg zl (zg zl zu hs2) hs3) hs hs2,?_⟩;refine h F σ H _ m fun x vx H1 q1 t1 k1 r1=>?_;have m1:=m.kz k1 t1;refine q1 F σ H1 _ m1 fun y vy H2 q2 t2 k2 r2=>?_;obtain⟨i,j,rfl,rfl,bb,q⟩:=q2;cases r1.int_inv;cases r2.int_inv;exact⟨i,j,rfl,bb,k _ _ H2 q t2 (k1.trans k2) pO⟩
end
inductive Pat where
 |one (i:Nat)
 |many (is:List Nat)
def vw :List Nat->List PyData->Ev->Option Ev
 |[],[],α=>some α
 |i::is,d::ds,α=>vw is ds (α.set i (some (.dat d)))
 |_,_,_=>none
def Pat.bind :Pat->PyData->Ev->Option Ev
 |.one i,d,α=>some (α.set i (some (.dat d)))
 |.many is,.tuple ds,α=>vw is ds α
 |_,_,_=>none
def gIs :List Nat->TGs
 |[]=>zE9
 |i::is=>zt0 (pR i) (gIs is)
def oY (K:PySem.W.Frag):Pat->TG
 |.one i=>pR i
 |.many is=>zA9 K is.length (gIs is)
def Pat.slots :Pat->List Nat
 |.one i=>[i]
 |.many is=>is
def isFree (α:Ev)(i:Nat):Bool:=match α[i]? with
 |some none=>true
 |_=>false
def Pat.free (p:Pat)(α:Ev):Bool:=p.slots.all (isFree α)
section
variable {X:Cx}{α α':Ev}{F:Fr}{σ:St}{H:Hp}
theorem M.store {i:Nat}{v:V}{b:A}{H':Hp}(m:M F α σ H)(t:zN F H')(k:Kz F H H')(hn:∀x,foot (some v) b x->H x=none)(hok:uo (sub (fun x=>¬Ow F α σ x/\¬foot (some v) b x) H') F H' (some v) b)(hx:noX b:=by trivial):M F (α.set i (some b)) (σ.set i (some v)) H':=by
 have m':=m.kz k t;have hs:∀{j:Nat} {c:A} {s:Option V},(α.set i (some b))[j]?=some (some c)->(σ.set i (some v))[j]?=some s->(i=j/\c=b/\s=some v)\/(i≠j/\α[j]?=some (some c)/\σ[j]?=some s):=fun {j c s} e1 e2=>by
  rcases zY e1 with ⟨rfl,z⟩|⟨hj,e1'⟩
  ·cases z;have hl:i<σ.length:=by
    have:=(zP1.mp e2).1
    rwa [zV2] at this
   rw[zY0 hl] at e2;cases e2;exact .inl ⟨rfl,rfl,rfl⟩
  ·rw[zU3 hj] at e2;exact .inr ⟨hj,e1',e2⟩
 have ow:∀{y:Addr},Ow F (α.set i (some b)) (σ.set i (some v)) y->Ow F α σ y\/foot (some v) b y:=fun {y} h=>by
  rcases h with z|⟨j,c,s,e1,e2,f⟩
  ·exact .inl (.inl z)
  ·rcases hs e1 e2 with ⟨_,rfl,rfl⟩|⟨_,g1,g2⟩
   ·exact .inr f
   ·exact .inl (.inr ⟨j,c,s,g1,g2,f⟩)
 have g1:zz (sub (fun x=>¬Ow F α σ x/\¬foot (some v) b x) H') (Gz F (α.set i (some b)) (σ.set i (some v)) H'):=zw fun a o h e=>⟨fun z=>(ow z).elim h.1 h.2,e⟩;have g0:zz (Gz F α σ H) (sub (fun x=>¬Ow F α σ x/\¬foot (some v) b x) H'):=zw fun a o h e=>⟨⟨h,fun z=>by rw[hn a z] at e;cases e⟩,k a o e (m.tp.nt (ow0 h))⟩;refine⟨by rw[zV2,zV2];exact m.len,fun j c s e1 e2=>?_,fun j j' c d s s' x e1 e2 h1 h2 f1 f2=>?_,fun j r q e j' c s x e1 e2 f=>?_,t,m.keep.trans k,m'.oex⟩
 ·rcases hs e1 e2 with ⟨rfl,rfl,rfl⟩|⟨_,z1,z2⟩
  ·exact hok.stay g1 (fun x o f e=>by
    obtain⟨w1,w2,_⟩:=nF hok f;exact⟨e,w1,w2⟩) rfl fun _ _ _ l=>l
  ·exact (m.ok j c s z1 z2).stay (g0.trans g1) (fun x o f e=>by
    obtain⟨w1,w2,_⟩:=m.ft z1 z2 f;exact⟨k x o e (m.tp.nt w1),w1,w2⟩) rfl fun _ _ _ l=>l.kz k t
 ·have nn:∀{j:Nat} {c:A} {s:Option V},α[j]?=some (some c)->σ[j]?=some s->foot s c x->¬foot (some v) b x:=fun {j c s} z1 z2 f g=>by
   obtain⟨_,_,o,w,_⟩:=m.ft z1 z2 f;rw[hn x g] at w;cases w
  rcases hs e1 h1 with ⟨rfl,rfl,rfl⟩|⟨_,z1,z2⟩
  ·rcases hs e2 h2 with ⟨rfl,_⟩|⟨_,w1,w2⟩
   ·rfl
   ·exact absurd f1 (nn w1 w2 f2)
  ·rcases hs e2 h2 with ⟨rfl,rfl,rfl⟩|⟨_,w1,w2⟩
   ·exact absurd f2 (nn z1 z2 f1)
   ·exact m.dj j j' c d s s' x z1 w1 z2 w2 f1 f2
 ·rcases zY e with ⟨rfl,z⟩|⟨_,e'⟩
  ·cases z;exact hx.elim
  ·rcases hs e1 e2 with ⟨rfl,rfl,rfl⟩|⟨_,z1,z2⟩
   ·exact (m.lnk e').none (hn x f)
   ·exact m.xd j r q e' j' c s x z1 z2 f
theorem M.set {i:Nat}{v:V}{d:PyData}(m:M F α σ H)(av:AV (Gz F α σ H) v d):M F (α.set i (some (.dat d))) (σ.set i (some v)) H:=
 m.store m.tp Kz.refl (fun x z=>z.elim) ⟨v,rfl,av.same (zw fun a o h e=>⟨⟨h,fun z=>z⟩,e⟩)⟩
theorem M.setC {i:Nat}{v:V}{c:PyData}{H':Hp}(m:M F α σ H)(t:zN F H')(k:Kz F H H')(fl:jw F α σ H v H' c):M F (α.set i (some (.ow c))) (σ.set i (some v)) H':=by
 obtain⟨l,o,rfl,h1,h2,h3⟩:=fl;have nl:¬Ow F α σ l:=m.fresh h1;refine m.store t k (fun x z=>?_) ⟨l,o,rfl,h2,h3.same (zw fun a o h e=>⟨⟨h.1,fun z=>h.2 (by cases z;rfl)⟩,e⟩),ow0 nl,m.fresh0 h1⟩;have z':some (V.ref l)=some (.ref x):=z;cases z';exact h1
theorem M.setOwn {i:Nat}{v:V}{ds:List PyData}{H':Hp}(m:M F α σ H)(t:zN F H')(k:Kz F H H')(fl:xf F α σ H v H' ds):M F (α.set i (some (.own ds))) (σ.set i (some v)) H':=m.setC t k fl.c
theorem M.wr {x:Addr}{o:HO}(m:M F α σ H)(hno:vp o)(ho:F.O0 x)(ht:∀t b c,F.tp=some (t,b,c)->x≠t/\x≠b/\x≠c)(h0:F.H0 x=none)(hpl:Plain H x)(hx:∀(i:Nat) r q,α[i]?=some (some (.exc r q))->r.H0 x=none):M F α σ (upd H x o):=by
 have gs:zz (Gz F α σ H) (Gz F α σ (upd H x o)):=zw fun a u h e=>⟨h,by rw[zh (fun z=>h (.inl (by rw[z];exact ho)))];exact e⟩;refine⟨m.len,fun j c s e1 e2=>?_,m.dj,m.xd,m.tp.upd ht hpl,fun y u e n=>?_,fun y hy=>?_⟩
 ·have:=m.ok j c s e1 e2;cases c with
  |exc r q=>
   have l:Lnk r F H:=this;exact⟨l.tp,l.o,l.ok.upd (fun a b c e=>ht a b c (l.tp▸e)) hpl,fun y u e n=>by rw[zh (zm e (hx j r q e1))];exact l.k y u e n⟩
  |_=>exact this.stay gs (fun y u f e=>by
    obtain⟨w1,w2,_⟩:=m.ft e1 e2 f;exact⟨by rw[zh (fun z=>w1 (by rw[z];exact ho))];exact e,w1,w2⟩) rfl fun _ _ z=>by cases z
 ·rw[zh (zm e h0)];exact m.keep y u e n
 ·by_cases z:y=x
  ·exact⟨o,by rw[z];exact zk,hno⟩
  ·obtain⟨u,hu,hn⟩:=m.oex y hy;exact⟨u,by rw[zh z];exact hu,hn⟩
theorem M.forget {α0:Ev}(m:M F α σ H)(hl:α0.length=α.length)(le:∀(i:Nat) a,α0[i]?=some (some a)->α[i]?=some (some a)):M F α0 σ H:=by
 have ow:∀{y:Addr},Ow F α0 σ y->Ow F α σ y:=fun {y} h=>by
  rcases h with z|⟨j,c,s,e1,e2,f⟩
  ·exact .inl z
  ·exact .inr ⟨j,c,s,le _ _ e1,e2,f⟩
 have gs:zz (Gz F α σ H) (Gz F α0 σ H):=zw fun a o h e=>⟨fun z=>h (ow z),e⟩;exact⟨hl.trans m.len,fun j c s e1 e2=>(m.ok j c s (le _ _ e1) e2).stay gs (fun x o f e=>⟨e,(m.ft (le _ _ e1) e2 f).1,(m.ft (le _ _ e1) e2 f).2.1⟩) rfl fun _ _ _ l=>l,fun j j' c d s s' x e1 e2=>m.dj j j' c d s s' x (le _ _ e1) (le _ _ e2),fun j r q e j' c s x e1=>m.xd j r q (le _ _ e) j' c s x (le _ _ e1),m.tp,m.keep,m.oex⟩
theorem qW {H:Hp}:∀{is:List Nat} {ds:List PyData} {α α':Ev} {σ:St} {xs:List V} {R:St->Hp->Prop},vw is ds α=some α'->M F α σ H->(∀G,zz (Gz F α σ H) G->AVs G xs ds)->(∀σ',M F α' σ' H->R σ' H)->gIs is xs σ H R
 |[],[],α,α',σ,xs,R,e,m,av,k=>by
  cases e;cases av _ (zz.refl _);exact⟨rfl,k σ m⟩
 |i::is,d::ds,α,α',σ,xs,R,e,m,av,k=>by
  cases h:av _ (zz.refl _) with
  |@cons x xs _ _ h1 h2=>
   refine⟨x,xs,rfl,?_⟩;have gs:zz (Gz F α σ H) (Gz F (α.set i (some (.dat d))) (σ.set i (some x)) H):=zw fun a o h e=>⟨fun z=>h (by
    rcases z with z|⟨j,c,s,e1,e2,f⟩
    ·exact .inl z
    ·rcases zY e1 with ⟨_,z⟩|⟨hj,e1'⟩
     ·cases z;exact f.elim
     ·rw[zU3 hj] at e2;exact .inr ⟨j,c,s,e1',e2,f⟩),e⟩
   exact qW (is:=is) (ds:=ds) e (m.set (i:=i) h1) (fun G s=>h2.same (gs.trans s)) k
 |[],_::_,_,_,_,_,_,e,_,_,_=>by cases e
 |_::_,[],_,_,_,_,_,e,_,_,_=>by cases e
theorem oZ {K:PySem.W.Frag}{pat:Pat}{d:PyData}{v:V}{R:St->Hp->Prop}(e:pat.bind d α=some α')(m:M F α σ H)(av:AV (Gz F α σ H) v d)(k:∀σ',M F α' σ' H->R σ' H):oY K pat v σ H R:=by
 cases pat with
 |one i=>cases e;exact k _ (m.set av)
 |many is=>
  cases d with
  |tuple ds=>
   obtain⟨a,xs,rfl,h1,h2⟩:=av.tup_inv;have hl:∀{is:List Nat} {ds:List PyData} {α α':Ev},vw is ds α=some α'->ds.length=is.length:=by
    intro is
    induction is with
    |nil=>intro ds α α' h;cases ds with|nil=>rfl|cons _ _=>cases h
    |cons i is ih=>intro ds α α' h;cases ds with|nil=>cases h|cons d ds=>rw[zQ4,zQ4,ih h]
   exact⟨a,xs,rfl,SqT.of (zj h1).2,by rw[h2.length];exact hl e,qW e m (fun G s=>h2.same s) k⟩
  |_=>cases e
theorem rA :∀{is:List Nat} {ds:List PyData} {α α':Ev},vw is ds α=some α'->α'.length=α.length
 |[],[],_,_,e=>by cases e;rfl
 |i::is,d::ds,α,α',e=>by
  have:=rA (is:=is) (ds:=ds) e
  rwa [zV2] at this
 |[],_::_,_,_,e=>by cases e
 |_::_,[],_,_,e=>by cases e
theorem qz :∀{is:List Nat} {ds:List PyData} {α α':Ev} {j:Nat},vw is ds α=some α'->j∉is->α'[j]?=α[j]?
 |[],[],_,_,_,e,_=>by cases e;rfl
 |i::is,d::ds,α,α',j,e,h=>by
  rw[qz (is:=is) (ds:=ds) e fun z=>h (zP5 _ z)];exact zU3 fun (z:i=j)=>h (by rw[<-z];exact zQ1)
 |[],_::_,_,_,_,e,_=>by cases e
 |_::_,[],_,_,_,e,_=>by cases e
theorem rR :∀{is:List Nat} {ds:List PyData} {α α':Ev} {j:Nat} {a:A},vw is ds α=some α'->α'[j]?=some (some a)->(∀d,a≠.dat d)->α[j]?=some (some a)
 |[],[],_,_,_,_,e,h,_=>by cases e;exact h
 |i::is,d::ds,α,α',j,a,e,h,hn=>by
  rcases zY (rR (is:=is) (ds:=ds) e h hn) with ⟨_,z⟩|⟨_,z⟩
  ·cases z;exact absurd rfl (hn d)
  ·exact z
 |[],_::_,_,_,_,_,e,_,_=>by cases e
 |_::_,[],_,_,_,_,e,_,_=>by cases e
theorem Pat.is_ok {pat:Pat}{d:PyData}(e:pat.bind d α=some α'):∃is ds,pat.slots=is/\vw is ds α=some α':=by
 cases pat with
 |one i=>cases e;exact⟨_,[d],rfl,rfl⟩
 |many is=>
  cases d with
  |tuple ds=>exact⟨_,ds,rfl,e⟩
  |_=>cases e
theorem Pat.back {pat:Pat}{d:PyData}(e:pat.bind d α=some α')(fr:pat.free α=true)(m:M F α' σ H):M F α σ H:=by
 obtain⟨is,ds,rfl,e⟩:=Pat.is_ok e;refine m.forget (rA e).symm fun j a h=>?_;by_cases hj:j∈pat.slots
 ·have:=z05.mp fr j hj;unfold isFree at this;rw[h] at this;cases this
 ·rw[qz e hj];exact h
end
section
variable {X:Cx}{α:Ev}
def zd6 (X:Cx)(α:Ev)(ifs:List Expr)(Q:Bool->Prop):Prop:=∀(F:Fr) (σ:St) (H:Hp) (R:Bool->Hp->Prop),M F α σ H->(∀b H',Q b->zN F H'->Kz F H H'->R b H')->∃t,vA X ifs t/\t σ H R
def zs5 (X:Cx)(ifs:List Expr):TT:=fun σ H R=>∃t,vA X ifs t/\t σ H R
theorem ir {ifs:List Expr}:vA X ifs (zs5 X ifs):=fun pins s σ H Q I ⟨t,p,q⟩=>p pins s σ H Q I q
theorem cQ {Q:Bool->Prop}(q:Q true):zd6 X α [] Q:=fun F σ H R m k=>⟨_,zp8,k _ H q m.tp Kz.refl⟩
theorem lP {c:Expr}{Q:Bool->Prop}(h:EvT X α c Q):zd6 X α [c] Q:=fun F σ H R m k=>⟨_,ib xN,h F σ H R m k⟩
def seen :Option A->Option A
 |some (.dat d)=>some (.dat d)
 |some .tape=>some .tape
 |_=>none
def xg (imp:List (Option Nat))(α:Ev):Ev:=imp.map fun o=>o.bind fun j=>(α[j]?).bind seen
theorem ll {imp:List (Option Nat)}{i:Nat}{a:A}(h:(xg imp α)[i]?=some (some a)):∃j,imp[i]?=some (some j)/\α[j]?=some (some a)/\((∃d,a=.dat d)\/a=.tape):=by
 unfold xg at h;rw[zQ2,zQ9] at h;obtain⟨o,h1,h2⟩:=h;cases o with
 |none=>cases h2
 |some j=>
  have h2':(α[j]?).bind seen=some a:=h2;cases q:α[j]? with
  |none=>rw[q] at h2';cases h2'
  |some b=>
   rw[q] at h2';cases b with
   |none=>cases h2'
   |some b=>
    cases b with
    |dat d=>cases h2';exact⟨j,h1,q,.inl ⟨d,rfl⟩⟩
    |tape=>cases h2';exact⟨j,h1,q,.inr rfl⟩
    |_=>cases h2'
theorem mi {imp:List (Option Nat)}{σ:St}{i j:Nat}{v:V}(h1:imp[i]?=some (some j))(h2:σ[j]?=some (some v)):(wK imp σ)[i]?=some (some v):=by
 unfold wK;rw[zQ2,h1];show some ((σ[j]?).bind id)=_;rw[h2];rfl
def xK (Y:Addr->Shared->Hp->List Addr->Cx)(pat:Pat)(ifs:List Expr)(elt:Expr)(α0:Ev):List PyData->List PyData->(List PyData->Prop)->Prop
 |[],acc,Q=>Q acc
 |d::ds,acc,Q=>∃α1,pat.bind d α0=some α1/\∀C s2 H2 fp,zd6 (Y C s2 H2 fp) α1 ifs fun k=>if k=true then ∀C s2 H2 fp,EvD (Y C s2 H2 fp) α1 elt fun y=>xK Y pat ifs elt α0 ds (acc++[y]) Q else xK Y pat ifs elt α0 ds acc Q
def eC (Y:Addr->Shared->Hp->List Addr->Cx)(e:Expr):TE:=fun σ H Q=>∀C s2 H2 fp,uK (Y C s2 H2 fp) e σ H Q
def tsC (Y:Addr->Shared->Hp->List Addr->Cx)(ifs:List Expr):TT:=fun σ H Q=>∀C s2 H2 fp,zs5 (Y C s2 H2 fp) ifs σ H Q
theorem iM {N:List Str}{imp:List (Option Nat)}{scope:Scope}{tg iter elt:Expr}{ifs:List Expr}{pat:Pat}{Q:List PyData->Prop}(hfree:pat.free (xg imp α)=true)
  (h:EvI X α tg iter fun ds=>ds.length<=1000/\xK (fun C s2 H2 fp=>X.comp N scope C s2 H2 fp) pat ifs elt (xg imp α) ds [] Q)
  (F:Fr) (σ:St) (H:Hp) (R:VK) (m:M F α σ H) (k:∀ds v H',Q ds->zN F H'->Kz F H H'->xf F α σ H v H' ds->R v H'):
  ∃Y:Addr->Shared->Hp->List Addr->Cx,Y=(fun C s2 H2 fp=>X.comp N scope C s2 H2 fp)/\za3 (zv4 X tg iter) imp (oY X.K pat) (tsC Y ifs) (eC Y elt) σ H R:=by
 refine⟨_,rfl,?_⟩;refine h F σ H _ m fun ds J H1 ⟨hl,q1⟩ t1 k1 itw acc hacc=>?_;have m1:=m.kz k1 t1;have nacc:¬Ow F α σ acc:=m1.fresh hacc
 let Fc:Fr:=⟨H1,fun x=>Ow F α σ x\/x=acc,F.tp⟩
 let Nd:Ev->Prop:=fun α1=>∀(j:Nat) a,α1[j]?=some (some a)->(∃d,a=.dat d)\/a=.tape
 have no0:Nd (xg imp α):=fun j a z=>by
  obtain⟨_,_,_,n⟩:=ll z;exact n
 have owc:∀{α1:Ev} {τ:St} {x:Addr},Nd α1->(Ow Fc α1 τ x↔Fc.O0 x):=fun {α1 τ x} hh=>⟨fun z=>z.elim id fun⟨j,a,s,e1,e2,f⟩=>by
  rcases hh j a e1 with ⟨d,rfl⟩|rfl
  ·exact f.elim
  ·exact f.elim,.inl⟩
 have gz:∀{α1 α2:Ev} {τ1 τ2:St} {H:Hp},Nd α1->Nd α2->zz (Gz Fc α1 τ1 H) (Gz Fc α2 τ2 H):=fun h1 h2=>zw fun a o h e=>⟨fun z=>h ((owc h1).mpr ((owc h2).mp z)),e⟩;have tpc:∀{H2:Hp},zN F H2->zN Fc H2:=fun t=>t.to rfl fun x z=>.inl (.inl z);have s01:zz H1 (upd H1 acc (.lst [])):=yj hacc;have mc0:M Fc (xg imp α) (wK imp σ) (upd H1 acc (.lst [])):=by
  have g1:zz (Gz F α σ H1) (Gz Fc (xg imp α) (wK imp σ) (upd H1 acc (.lst []))):=fun a o e=>by
   obtain⟨z1,z2⟩:=zj e;have na:a≠acc:=zm z2 hacc;exact zE (fun z=>((owc no0).mp z).elim z1 na) (by rw[zh na];exact z2)
  refine⟨by unfold xg wK;rw[zO6,zO6],fun i a s e1 e2=>?_,fun i j a b s t x e1 e2 _ _ f=>?_,fun i r q e=>(by rcases no0 i _ e with ⟨d,w⟩|w<;>cases w),tpc (t1.same s01),fun x o e _=>s01 x o e,?_⟩
  ·obtain⟨j,w1,w2,w3⟩:=ll e1;rcases w3 with ⟨d,rfl⟩|rfl
   ·obtain⟨v,g2,g3⟩:=m1.dat j d w2;rw[mi w1 g2] at e2;cases e2;exact⟨v,rfl,g3.same g1⟩
   ·obtain⟨t,b,c,g2,g3⟩:=m1.tvar j w2;rw[mi w1 g3] at e2;cases e2;exact⟨t,b,c,g2,rfl⟩
  ·rcases no0 i a e1 with ⟨d,rfl⟩|rfl
   ·exact f.elim
   ·exact f.elim
  ·rintro x (z|z)
   ·have:∃o,H1 x=some o/\vp o:=m1.owEx z;obtain⟨o,ho,hn⟩:=this;exact⟨o,s01 _ _ ho,hn⟩
   ·exact⟨_,by rw[z];exact zk,xy⟩
 refine⟨fun i n ys τ H2=>n=ds.length-i/\i<=ds.length/\∃ad:List PyData,M Fc (xg imp α) τ H2/\H2 acc=some (.lst ys)/\AVs (Gz Fc (xg imp α) τ H2) ys ad/\ad.length<=i/\xK (fun C s2 H2 fp=>X.comp N scope C s2 H2 fp) pat ifs elt (xg imp α) (ds.drop i) ad Q,
  ⟨ds.length,by simp,zQ8 _,[],mc0,zk,.nil,zP3 _,q1⟩,?_⟩
 rintro i n ys τ H2 ⟨rfl,hi,ad,m2,ha,av,had,cw⟩;have sG:zz (Gz F α σ H1) (Gz Fc (xg imp α) τ H2):=fun a o e=>by
  obtain⟨z1,z2⟩:=zj e;exact m2.old a o (zE (p:=fun x=>¬Fc.O0 x) (fun z=>z.elim z1 (zm z2 hacc)) z2)
 obtain⟨w1,w2⟩:=itw i H2 _ sG;by_cases hlt:i<ds.length
 ·have hd:ds[i]?=some ds[i]:=zO9 hlt;have hdr:ds.drop i=ds[i]::ds.drop (i+1):=zW9 hlt;rw[hdr] at cw;obtain⟨α1,eb,body⟩:=cw;obtain⟨go,yl⟩:=w1 _ hd;have no1:Nd α1:=fun j a z=>by
   obtain⟨is,ds',_,e⟩:=Pat.is_ok eb;by_cases hn:∀d,a≠.dat d
   ·exact no0 j a (rR e z hn)
   ·simp only[Classical.not_forall,Classical.not_not] at hn;exact .inl hn
  refine .inr ⟨go,fun ys' τ' H'=>∃ad:List PyData,M Fc (xg imp α) τ' H'/\H' acc=some (.lst ys')/\AVs (Gz Fc (xg imp α) τ' H') ys' ad/\ad.length<=i+1/\xK (fun C s2 H2 fp=>X.comp N scope C s2 H2 fp) pat ifs elt (xg imp α) (ds.drop (i+1)) ad Q,
   fun ys' τ' H' ⟨ad',r1,r2,r3,r4,r5⟩=>⟨ds.length-(i+1),by omega,rfl,hlt,ad',r1,r2,r3,r4,r5⟩,fun x H3 y=>?_⟩
  obtain⟨s23,avx⟩:=yl x H3 y;have m3:M Fc (xg imp α) τ H3:=m2.kz (Kz.of_same s23) (m2.tp.same s23);have avx':=avx fun a o _ e=>m2.fresh e;refine oZ eb m3 avx' fun τ1 m4 C s2 H2' fp=>?_;refine body C s2 H2' fp Fc τ1 H3 _ m4 fun b H5 qb t5 k5=>?_;have m5:=m4.kz k5 t5;have av5:AVs (Gz Fc (xg imp α) τ1 H5) ys ad:=av.same ((Kz.of_same s23).gz m2.tp |>.trans ((gz (τ2:=τ1) no0 no1).trans ((k5.gz m4.tp).trans (gz no1 no0))));have accN:NT Fc acc:=⟨fun t b c e=>by
   have:=(t1 t b c e).1.free hacc;exact⟨this.1,this.2.1⟩,mx t1.tab hacc⟩
  have ha5:H5 acc=some (.lst ys):=k5 _ _ (s23 _ _ ha) accN;cases b with
  |false=>
   have qb':xK (fun C s2 H2 fp=>X.comp N scope C s2 H2 fp) pat ifs elt (xg imp α) (ds.drop (i+1)) ad Q:=by simpa using qb
   exact uw ⟨ad,Pat.back eb hfree m5,ha5,av5,by omega,qb'⟩
  |true=>
   refine vY fun C s2 H2'' fp=>?_;have qe:EvD (X.comp N scope C s2 H2'' fp) α1 elt fun y=>xK (fun C s2 H2 fp=>X.comp N scope C s2 H2 fp) pat ifs elt (xg imp α) (ds.drop (i+1)) (ad++[y]) Q:=by
    have z:=qb;rw[if_pos rfl] at z;exact z C s2 H2'' fp
   refine qe Fc τ1 H5 _ m5 fun y v H6 qy t6 k6 r6=>?_;have m6:=m5.kz k6 t6;have ha6:H6 acc=some (.lst ys):=k6 _ _ ha5 accN;have hlen:ys.length<=i:=by rw[av.length];exact had
   have oacc:Fc.O0 acc:=.inr rfl;have tacc:∀t b c,Fc.tp=some (t,b,c)->acc≠t/\acc≠b/\acc≠c:=fun t b c e=>(t1 t b c e).1.free hacc;have m7:=(Pat.back eb hfree m6).wr (o:=.lst (ys++[v])) xy oacc tacc hacc (pd ha6) (fun i r q z=>by rcases no0 i _ z with ⟨d,w⟩|w<;>cases w);refine⟨ha6,yK (by omega),ad++[y],m7,zk,?_,by simp;omega,qy⟩;have g67:zz (Gz Fc (xg imp α) τ1 H6) (Gz Fc (xg imp α) τ1 (upd H6 acc (.lst (ys++[v])))):=zw fun a o h e=>⟨h,by rw[zh (fun z=>h (.inl (by rw[z];exact oacc)))];exact e⟩;exact ((av5.same ((gz (τ2:=τ1) no0 no1).trans ((k6.gz m5.tp).trans (gz no1 no0)))).append (.cons (r6.same (gz no1 no0)) .nil)).same g67
 ·have e:i=ds.length:=by omega
  subst e;rw[z06] at cw;refine .inl ⟨w2 (zP3 _),k ad _ H2 cw ?_ (k1.trans m2.keep) (xf.back m k1 t1 ⟨acc,ys,rfl,hacc,ha,av.same (zw fun a o h e=>⟨⟨fun z=>h (.inl (.inl z)),fun z=>h (.inl (.inr z))⟩,e⟩)⟩)⟩;exact m.tp.re m2.tp rfl
theorem zr6 {N:List Str}{imp:List (Option Nat)}{scope:Scope}{tg iter elt:Expr}{ifs:List Expr}{pat:Pat}{Q:List PyData->Prop}{pos:Pos}(hc:X.calm=true)(S:zU X.N X.env.scope N imp scope)(hfree:pat.free (xg imp α)=true)
  (hg:∀C s2 H2 fp,PG (X.comp N scope C s2 H2 fp) tg (oY X.K pat))
  (h:EvI X α tg iter fun ds=>ds.length<=1000/\xK (fun C s2 H2 fp=>X.comp N scope C s2 H2 fp) pat ifs elt (xg imp α) ds [] Q) (hs:∀x,foldedSetIterable iter X.env x=pure x:=by intro _;rfl):
  EvL X α (.ListComp elt [⟨tg,iter,ifs,0⟩] scope pos) Q:=fun F σ H R m k=>by
 obtain⟨Y,rfl,h⟩:=iM hfree h F σ H R m k;exact⟨_,zs7 hc S oj hg (fun C s2 H2 fp pins s σ H Q I h=>ir pins s σ H Q I (h C s2 H2 fp)) (fun C s2 H2 fp pins s σ H Q I h=>zl pins s σ H Q I (h C s2 H2 fp)) hs,h⟩
section
variable {E:xJ}{rest body:List Stmt}{e c tg iter:Expr}{pos p:Pos}
theorem mH.then {F:Fr}{D:Ends}(h:mH F E D):mH F {E with nx:=fun α'=>SvS X α' rest E} {D with nx:=zm5 X rest D}:=
 ⟨fun α' σ' H' m q=>q F σ' H' D m h,h.rt,h.bk,h.ct⟩
theorem zy (q:E.nx α):SvS X α [] E:=fun F σ H D m h=>⟨_,yE,h.nx _ _ _ m q⟩
theorem SvS.imp {sts:List Stmt}{E':xJ}(h:SvS X α sts E')(hn:∀α,E'.nx α->E.nx α)(hr:∀a,E'.rt a->E.rt a)(hb:∀α,E'.bk α->E.bk α)(hc:∀α,E'.ct α->E.ct α):SvS X α sts E:=fun F σ H D m r=>
 h F σ H D m ⟨fun α σ H m q=>r.nx α σ H m (hn _ q),fun a v H m q=>r.rt a v H m (hr _ q),fun α σ H m q=>r.bk α σ H m (hb _ q),fun α σ H m q=>r.ct α σ H m (hc _ q)⟩
theorem zP (i:Nat){x:Str}{pos':Pos}(hN:X.N.Nodup)(h:EvD X α e fun d=>SvS X (α.set i (some (.dat d))) rest E)(hi:X.N[i]?=some x:=by rfl)(hx:Loc X.env.scope x:=by first|exact Or.inl rfl|exact Or.inr rfl)
  (hs:swapsWith e (some (.Name x pos')) pos.line X.env=pure false:=by rfl) (hf:X.fn x=true\/X.env.scope.names.lookup x=some .local:=by first|exact .inl rfl|exact .inr rfl|assumption):SvS X α (.Assign [.Name x pos'] e pos::rest) E:=fun F σ H D m r=>by
 refine⟨_,zJ (va hN hi hx zl hs hf) ya,?_⟩;exact h F σ H _ m fun d v H1 q1 t1 k1 r1=>q1 F _ H1 D ((m.kz k1 t1).set r1) r
theorem xh (i:Nat){x:Str}{pos':Pos}(hN:X.N.Nodup)(h:EvL X α e fun ds=>SvS X (α.set i (some (.own ds))) rest E)(hi:X.N[i]?=some x:=by rfl)(hx:Loc X.env.scope x:=by first|exact Or.inl rfl|exact Or.inr rfl)
  (hs:swapsWith e (some (.Name x pos')) pos.line X.env=pure false:=by rfl) (hf:X.fn x=true\/X.env.scope.names.lookup x=some .local:=by first|exact .inl rfl|exact .inr rfl|assumption):SvS X α (.Assign [.Name x pos'] e pos::rest) E:=fun F σ H D m r=>by
 refine⟨_,zJ (va hN hi hx zl hs hf) ya,?_⟩;exact h F σ H _ m fun d v H1 q1 t1 k1 r1=>q1 F _ H1 D (m.setOwn t1 k1 r1) r
theorem zc2 (i:Nat){x:Str}{pos' cpos:Pos}{N:List Str}{imp:List (Option Nat)}{scope:Scope}{elt:Expr}{ifs:List Expr}{pat:Pat}(hN:X.N.Nodup)(hc:X.calm=true)(S:zU X.N X.env.scope N imp scope)(hfree:pat.free (xg imp α)=true)
  (hg:∀C s2 H2 fp,PG (X.comp N scope C s2 H2 fp) tg (oY X.K pat))
  (h:EvI X α tg iter fun ds=>ds.length<=1000/\xK (fun C s2 H2 fp=>X.comp N scope C s2 H2 fp) pat ifs elt (xg imp α) ds [] fun ds=>SvS X (α.set i (some (.own ds))) rest E)
  (hi:X.N[i]?=some x:=by rfl) (hx:Loc X.env.scope x:=by first|exact Or.inl rfl|exact Or.inr rfl) (hsw:swapsWith (.ListComp elt [⟨tg,iter,ifs,0⟩] scope cpos) (some (.Name x pos')) pos.line X.env=pure true:=by rfl)
  (hf:X.fn x=true\/X.env.scope.names.lookup x=some .local:=by first|exact .inl rfl|exact .inr rfl|assumption) (hs:∀x,foldedSetIterable iter X.env x=pure x:=by intro _;rfl):
  SvS X α (.Assign [.Name x pos'] (.ListComp elt [⟨tg,iter,ifs,0⟩] scope cpos) pos::rest) E:=fun F σ H D m r=>by
 obtain⟨Y,rfl,h⟩:=iM hfree h F σ H (fun v H'=>zm5 X rest D (σ.set i (some v)) H') m fun ds v H' q t k fl=>q F _ H' D (m.setOwn t k fl) r;exact⟨_,zJ (aM hc S oj hg (fun C s2 H2 fp pins s σ H Q I h=>ir pins s σ H Q I (h C s2 H2 fp)) (fun C s2 H2 fp pins s σ H Q I h=>zl pins s σ H Q I (h C s2 H2 fp)) hN hi hx hsw hf hs) ya,h⟩
theorem tS.dat {F:Fr}{σ:St}{H:Hp}{v:V}{d:PyData}(m:M F α σ H)(r:AV (Gz F α σ H) v d):tS F v H (.dat d):=
 ⟨m.tp,m.keep,r.same (zw fun a o h e=>⟨ow0 h,e⟩)⟩
theorem xU (h:EvD X α e fun d=>E.rt (.dat d)):SvS X α (.Return (some e) pos::rest) E:=fun F σ H D m r=>by
 refine⟨_,zJ (zB zl) ya,?_⟩;exact h F σ H _ m fun d v H1 q1 t1 k1 r1=>r.rt _ _ _ (tS.dat (m.kz k1 t1) r1) q1
theorem sI (h:EvL X α e fun ds=>E.rt (.own ds)):SvS X α (.Return (some e) pos::rest) E:=fun F σ H D m r=>by
 refine⟨_,zJ (zB zl) ya,?_⟩;refine h F σ H _ m fun d v H1 q1 t1 k1 r1=>r.rt _ _ _ ?_ q1;obtain⟨l,xs,h1,h2,h3,h4⟩:=r1;exact⟨t1,m.keep.trans k1,l,xs,_,h1,rfl,m.fresh0 h2,ow0 (m.fresh h2),h3,h4.same (zw fun a o h e=>⟨⟨ow0 h.1,h.2⟩,e⟩)⟩
theorem xB (i:Nat){x:Str}{ds:List PyData}(hi:α[i]?=some (some (.own ds)))(q:E.rt (.own ds))(hN:X.N[i]?=some x:=by rfl)(hv:Vis X.env.scope x:=by first|exact Or.inl rfl|exact Or.inr (Or.inl rfl)|exact Or.inr (Or.inr rfl))
  (hd:(x == ("__debug__":Str))=false:=by decide) (hcd:(x == ("__classdict__":Str))=false:=by decide):SvS X α (.Return (some (.Name x p)) pos::rest) E:=fun F σ H D m r=>by
 obtain⟨l,xs,h1,h2,h3,h4,h5⟩:=m.own i ds hi;refine⟨_,zJ (zB (xH hN hv hd hcd)) ya,.ref l,h1,r.rt (.own ds) _ _ ⟨m.tp,m.keep,l,xs,_,rfl,rfl,h5,h4,h2,h3.same (zw fun a o h e=>⟨⟨ow0 h,fun z=>h (by rw[z];exact .inr ⟨i,_,_,hi,h1,rfl⟩)⟩,e⟩)⟩ q⟩
theorem zq5 (i:Nat){x:Str}{pos':Pos}(hN:X.N.Nodup)(h:EvC X α e fun c=>SvS X (α.set i (some (.ow c))) rest E)(hi:X.N[i]?=some x:=by rfl)(hx:Loc X.env.scope x:=by first|exact Or.inl rfl|exact Or.inr rfl)
  (hs:swapsWith e (some (.Name x pos')) pos.line X.env=pure false:=by rfl) (hf:X.fn x=true\/X.env.scope.names.lookup x=some .local:=by first|exact .inl rfl|exact .inr rfl|assumption):SvS X α (.Assign [.Name x pos'] e pos::rest) E:=fun F σ H D m r=>by
 refine⟨_,zJ (va hN hi hx zl hs hf) ya,?_⟩;exact h F σ H _ m fun d v H1 q1 t1 k1 r1=>q1 F _ H1 D (m.setC t1 k1 r1) r
theorem xk {a b:List Stmt}(h:EvT X α c fun k=>SvS X α (if k=true then a else b) {E with nx:=fun α'=>SvS X α' rest E}):SvS X α (.If c a b pos::rest) E:=fun F σ H D m r=>by
 refine⟨_,zJ (wt xN ya ya) ya,?_⟩;refine h F σ H _ m fun k H1 q1 t1 k1=>?_;cases k with
 |true=>exact vY ((by simpa using q1:SvS X α a _) F σ H1 _ (m.kz k1 t1) r.then)
 |false=>exact uw ((by simpa using q1:SvS X α b _) F σ H1 _ (m.kz k1 t1) r.then)
theorem dM (i:Nat){ds:List PyData}{sts:List Stmt}(hi:α[i]?=some (some (.own ds)))(h:SvS X (α.set i (some (.dat (.list ds)))) sts E):SvS X α sts E:=fun F σ H D m r=>h F σ H D (m.frz hi) r
theorem M.wrC {F:Fr}{σ:St}{H:Hp}{i:Nat}{c c':PyData}{l:Addr}{o':HO}(m:M F α σ H)(hi:α[i]?=some (some (.ow c)))(hl:σ[i]?=some (some (.ref l)))(av:yX (Gz F α σ H) o' c'):
  M F (α.set i (some (.ow c'))) σ (upd H l o'):=by
 obtain⟨l',o,h1,h2,h3,h4,h5⟩:=m.owc i c hi;rw[hl] at h1;cases h1;have hs:∀{j:Nat} {a:A} {s:Option V},(α.set i (some (.ow c')))[j]?=some (some a)->σ[j]?=some s->(i=j/\a=.ow c'/\s=some (.ref l))\/(i≠j/\α[j]?=some (some a)):=fun {j a s} e1 e2=>by
  rcases zY e1 with ⟨rfl,z⟩|⟨hj,e1'⟩
  ·cases z;rw[hl] at e2;cases e2;exact .inl ⟨rfl,rfl,rfl⟩
  ·exact .inr ⟨hj,e1'⟩
 have oww:∀{y:Addr},Ow F (α.set i (some (.ow c'))) σ y->Ow F α σ y:=fun {y} h=>by
  rcases h with z|⟨j,a,s,e1,e2,f⟩
  ·exact .inl z
  ·rcases hs e1 e2 with ⟨rfl,rfl,rfl⟩|⟨hj,e1'⟩
   ·exact .inr ⟨i,_,_,hi,hl,f⟩
   ·exact .inr ⟨j,a,s,e1',e2,f⟩
 have ol:Ow F α σ l:=.inr ⟨i,_,_,hi,hl,rfl⟩;have gs:zz (Gz F α σ H) (Gz F (α.set i (some (.ow c'))) σ (upd H l o')):=zw fun a o h e=>⟨fun z=>h (oww z),by rw[zh (fun z=>h (by rw[z];exact ol))];exact e⟩;refine⟨by rw[zV2];exact m.len,fun j a s e1 e2=>?_,fun j j' a b s t x e1 e2 q1 q2 f1 f2=>?_,fun j r q e j' a s x e1 e2 f=>?_,m.tp.updO h4 (h3.plain h2),fun y o e n=>?_,fun y hy=>?_⟩
 ·rcases hs e1 e2 with ⟨rfl,rfl,rfl⟩|⟨hj,e1'⟩
  ·exact⟨l,o',rfl,zk,av.same gs,h4,h5⟩
  ·refine (m.ok j a s e1' e2).stay gs (fun y u f e=>?_) rfl fun r q ea k=>⟨k.tp,k.o,k.ok.updO (fun z=>h4 (k.o _ z)) (h3.plain h2),fun y u e n=>?_⟩
   ·obtain⟨w1,w2,_⟩:=m.ft e1' e2 f;refine⟨?_,w1,w2⟩;rw[zh fun z=>hj (m.dj i j _ a _ s l hi e1' hl e2 rfl (by rw[<-z];exact f))];exact e
   ·rw[zh (zm e (m.xd j r q (by rw[<-ea];exact e1') i _ _ l hi hl rfl))];exact k.k y u e n
 ·rcases hs e1 q1 with ⟨rfl,rfl,rfl⟩|⟨hj,e1'⟩
  ·rcases hs e2 q2 with ⟨rfl,_⟩|⟨hj',e2'⟩
   ·rfl
   ·exact m.dj i j' _ b _ t x hi e2' hl q2 f1 f2
  ·rcases hs e2 q2 with ⟨rfl,rfl,rfl⟩|⟨hj',e2'⟩
   ·exact m.dj j i a _ s _ x e1' hi q1 hl f1 f2
   ·exact m.dj j j' a b s t x e1' e2' q1 q2 f1 f2
 ·rcases zY e with ⟨_,z⟩|⟨_,e'⟩
  ·cases z
  ·rcases hs e1 e2 with ⟨rfl,rfl,rfl⟩|⟨_,e1'⟩
   ·exact m.xd j r q e' i _ _ x hi hl f
   ·exact m.xd j r q e' j' a s x e1' e2 f
 ·rw[zh (zm e h5)];exact m.keep y o e n
 ·rw[zh (fun z=>h4 (by rw[<-z];exact hy))];exact m.oex y hy
theorem M.wrOwn {F:Fr}{σ:St}{H:Hp}{i:Nat}{ds es:List PyData}{l:Addr}{ys:List V}(m:M F α σ H)(hi:α[i]?=some (some (.own ds)))(hl:σ[i]?=some (some (.ref l)))(av:AVs (Gz F α σ H) ys es):
  M F (α.set i (some (.own es))) σ (upd H l (.lst ys)):=m.wrC hi hl (.lst av)
theorem yu (i:Nat){x:Str}{ds:List PyData}{p1 p2 p3:Pos}(hi:α[i]?=some (some (.own ds)))(h:EvD X α e fun d=>ds.length<1000/\SvS X (α.set i (some (.own (ds++[d])))) rest E)
  (hN:X.N[i]?=some x:=by rfl) (hv:Vis X.env.scope x:=by first|exact Or.inl rfl|exact Or.inr (Or.inl rfl)|exact Or.inr (Or.inr rfl)) (hd:(x == ("__debug__":Str))=false:=by decide) (hcd:(x == ("__classdict__":Str))=false:=by decide)
  (hbase:attributeBase (.Name x p1) "append" X.env (eval (.Name x p1) X.env)=eval (.Name x p1) X.env:=by rfl) (hs:starEach [e] X.env=(false,eval e X.env)::starEach [] X.env:=by rfl)
  (hpl:((((backTo p3 (starEach [e] X.env)).all fun x=>!x.fst)&&(backToKw p3 (keywordEach [] X.env)).all fun x=>x.fst.isSome)&&decide (([e].length+([]:List Keyword).length+if ([]:List Keyword).isEmpty=true then 0 else 1)<30))=true:=by rfl)
  (hline:(p2.endLine == p3.line)=true:=by rfl) (hsw:swapsWith (.Call (.Attribute (.Name x p1) "append" p2) [e] [] p3) none pos.line X.env=pure false:=by rfl):SvS X α (.Expr (.Call (.Attribute (.Name x p1) "append" p2) [e] [] p3) pos::rest) E:=fun F σ H D m r=>by
 obtain⟨l,xs,h1,h2,h3,h4,h5⟩:=m.own i ds hi;refine⟨_,zJ (iG (zt3 PySem.F.plainAttrs_list PySem.F.slot_list_append PySem.F.type_list_append pL (xH hN hv hd hcd) (zg zl zu hs) hbase hpl hline hs) hsw) ya,?_⟩;refine⟨.ref l,h1,.inl ⟨rfl,_,SqL.of h2⟩,?_⟩;refine h F σ H _ m fun d v H1 q1 t1 k1 r1=>?_;have m1:=m.kz k1 t1;refine⟨l,xs,v,rfl,rfl,k1 _ _ h2 (m.tp.nt h4),by rw[h3.length];exact yK (zW0 q1.1),?_⟩;exact q1.2 F σ _ D (m1.wrOwn hi h1 ((h3.same (k1.gz m.tp)).append (.cons r1 .nil))) r
theorem zz8 (i:Nat){x:Str}{ix:Expr}{ds:List PyData}{p1 p2:Pos}(hi:α[i]?=some (some (.own ds)))(h:EvD X α e fun d=>EvD X α ix fun y=>∃k j,y=.int k/\ixN ds.length k=some j/\SvS X (α.set i (some (.own (ds.set j d)))) rest E)
  (hN:X.N[i]?=some x:=by rfl) (hv:Vis X.env.scope x:=by first|exact Or.inl rfl|exact Or.inr (Or.inl rfl)|exact Or.inr (Or.inr rfl)) (hd:(x == ("__debug__":Str))=false:=by decide) (hcd:(x == ("__classdict__":Str))=false:=by decide)
  (hs:swapsWithSole [.Subscript (.Name x p1) ix p2] e pos.line X.env=pure false:=by rfl) (hw:swappedStores [.Subscript (.Name x p1) ix p2] e X.env=pure none:=by rfl)
  (ha:(assignEach [.Subscript (.Name x p1) ix p2] X.env).map (·.2)=[assign (.Subscript (.Name x p1) ix p2) X.env]:=by rfl) (hps:PG X (.Subscript (.Name x p1) ix p2) (zK5 (zA2 i) (uK X ix) zs0):=by exact kH (xH rfl (by first|exact Or.inl rfl|exact Or.inr (Or.inl rfl)|exact Or.inr (Or.inr rfl))) zl set_list):
  SvS X α (.Assign [.Subscript (.Name x p1) ix p2] e pos::rest) E:=fun F σ H D m r=>by
 obtain⟨l,xs,h1,h2,h3,h4,h5⟩:=m.own i ds hi;refine⟨_,zJ (oC zl hps hs hw ha) ya,?_⟩;refine h F σ H _ m fun d v H1 q1 t1 k1 r1=>?_;have m1:=m.kz k1 t1;refine⟨.ref l,h1,?_⟩;refine q1 F σ H1 _ m1 fun y vy H2 q2 t2 k2 r2=>?_;have m2:=m1.kz k2 t2;obtain⟨k,j,rfl,hj,q⟩:=q2;cases r2.int_inv;refine⟨l,xs,k,j,rfl,rfl,k2 _ _ (k1 _ _ h2 (m.tp.nt h4)) (m.tp.nt h4),by rw[h3.length];exact hj,?_⟩;exact q F σ _ D (m2.wrOwn hi h1 (((h3.same (k1.gz m.tp)).same (k2.gz m1.tp)).set (r1.same (k2.gz m1.tp)) j)) r
def sx (X:Cx)(pat:Pat)(body rest:List Stmt)(E:xJ):List PyData->Ev->Prop
 |[],α=>SvS X α rest E
 |d::ds,α=>∃α1,pat.bind d α=some α1/\SvS X α1 body {nx:=sx X pat body rest E ds,ct:=sx X pat body rest E ds,bk:=fun α'=>SvS X α' rest E,rt:=E.rt}
theorem vF {pat:Pat}(hp:PassesOwn (model X.prog X.w) X.A X.env X.xe)(hc:X.calm=true)(hg:PG X tg (oY X.K pat))(h:EvI X α tg iter fun ds=>sx X pat body rest E ds α)
  (hs:∀x,foldedSetIterable iter X.env x=pure x:=by intro _;rfl):SvS X α (.For tg iter body [] pos::rest) E:=fun F σ H D m r=>by
 refine⟨_,zJ (zy7 hp hc oj hg ya hs) ya,?_⟩;refine h F σ H _ m fun ds J H1 q1 t1 k1 itw=>?_;have m1:=m.kz k1 t1;have mu:=m1.up;have ru:mH (F.up (Gz F α σ H1)) E D:=r.up;refine⟨fun i n σ' H'=>n=ds.length-i/\i<=ds.length/\∃α',M (F.up (Gz F α σ H1)) α' σ' H'/\sx X pat body rest E (ds.drop i) α',⟨ds.length,by simp,zQ8 _,α,mu,q1⟩,?_⟩;rintro i n σ' H' ⟨rfl,hi,α',m',lw⟩;obtain⟨w1,w2⟩:=itw i H' _ (m1.upold m');by_cases hlt:i<ds.length
 ·have hd:ds[i]?=some ds[i]:=zO9 hlt;rw[zW9 hlt] at lw;obtain⟨α1,eb,body⟩:=lw;obtain⟨go,yl⟩:=w1 _ hd;refine .inr ⟨go,fun σ'' H''=>∃α',M (F.up (Gz F α σ H1)) α' σ'' H''/\sx X pat _ rest E (ds.drop (i+1)) α',fun σ'' H'' ⟨α'',r1,r2⟩=>⟨ds.length-(i+1),by omega,rfl,hlt,α'',r1,r2⟩,fun x H3 y=>?_⟩;obtain⟨s23,avx⟩:=yl x H3 y;have m3:=m'.kz (Kz.of_same s23) (m'.tp.same s23);refine oZ eb m3 (avx fun a o _ e=>m'.fresh e) fun σ1 m4=>?_;exact body _ σ1 H3 _ m4 ⟨fun α2 σ2 H2 m2 q=>⟨α2,m2,q⟩,ru.rt,fun α2 σ2 H2 m2 q=>q _ σ2 H2 D m2 ru,fun α2 σ2 H2 m2 q=>⟨α2,m2,q⟩⟩
 ·have e:i=ds.length:=by omega
  subst e;rw[z06] at lw;exact .inl ⟨w2 (zP3 _),lw _ σ' H' D m' ru⟩
theorem yh {pat:Pat}{ds:List PyData}(P:Nat->Ev->Prop)(h0:P 0 α)(hs:∀i d α,ds[i]?=some d->P i α->∃α1,pat.bind d α=some α1/\SvS X α1 body {nx:=P (i+1),ct:=P (i+1),bk:=fun α'=>SvS X α' rest E,rt:=E.rt})
  (hd:∀α,P ds.length α->SvS X α rest E):sx X pat body rest E ds α:=by
 have key:∀n i α,n=ds.length-i->i<=ds.length->P i α->sx X pat body rest E (ds.drop i) α:=by
  intro n
  induction n with
  |zero=>
   intro i α hn hi p;have e:i=ds.length:=by omega
   subst e;rw[z06];exact hd α p
  |succ n ih=>
   intro i α hn hi p;have hlt:i<ds.length:=by omega
   rw[zW9 hlt];obtain⟨α1,e,b⟩:=hs i ds[i] α (zO9 hlt) p;exact⟨α1,e,b.imp (fun α p=>ih (i+1) α (by omega) hlt p) (fun _ z=>z) (fun _ z=>z) (fun α p=>ih (i+1) α (by omega) hlt p)⟩
 exact key _ 0 α rfl (zQ8 _) h0
end
end
section
variable {P:Program}{w:World}{K:PySem.W.Frag}{mg:Str->Option Value}{base:Heap}
theorem M.start {F:Fr}{N:List Str}{vs:List V}{as:List A}{H:Hp}(e:F.H0=H)(t:zN F H)(o:∀x,F.O0 x->∃u,H x=some u/\vp u)(rv:yr F (sub (fun x=>¬F.O0 x) H) vs as):
  M F (as.map some++List.replicate (N.length-as.length) none) (L2.start N vs) H:=by
 have hl:=rv.length;have g:∀{i:Nat} {a:A},(as.map some++List.replicate (N.length-as.length) none)[i]?=some (some a)->as[i]?=some a:=fun {i a} h=>by
  rcases zZ4 i as.length with z|z
  ·rw[zV6 (by rw[zO6];exact z),zQ2,zQ9] at h;obtain⟨b,h1,h2⟩:=h;cases h2;exact h1
  ·rw[zY6 (by rw[zO6];exact z),zX6] at h;split at h<;>cases h
 have at':∀{vs:List V} {as:List A} {i:Nat} {a:A},yr F (sub (fun x=>¬F.O0 x) H) vs as->as[i]?=some a->∃v,vs[i]?=some v/\eN F (sub (fun x=>¬F.O0 x) H) v a:=by
  intro vs as i a h
  induction h generalizing i with
  |nil=>intro e;simp at e
  |cons h r ih=>
   intro e;cases i with
   |zero=>simp at e;subst e;exact⟨_,rfl,h⟩
   |succ i=>obtain⟨v,h1,h2⟩:=ih (by simpa using e);exact⟨v,by simpa using h1,h2⟩
 have gv:∀{i:Nat} {v:V},vs[i]?=some v->(L2.start N vs)[i]?=some (some v):=fun {i v} h=>by
  have hi:i<vs.length:=(zP1.mp h).1;unfold L2.start;rw[zV6 (by rw[zO6];exact hi),zQ2,h];rfl
 have no:∀(i:Nat) a,(as.map some++List.replicate (N.length-as.length) none)[i]?=some (some a)->(∃d,a=.dat d)\/a=.tape:=fun i a z=>by
  obtain⟨v,_,h⟩:=at' rv (g z);cases a with
  |dat d=>exact .inl ⟨d,rfl⟩
  |tape=>exact .inr rfl
  |_=>exact h.elim
 have gs:zz (sub (fun x=>¬F.O0 x) H) (Gz F (as.map some++List.replicate (N.length-as.length) none) (L2.start N vs) H):=zw fun a o h e=>⟨fun z=>z.elim h fun⟨i,b,s,e1,_,f⟩=>by
  rcases no i b e1 with ⟨d,rfl⟩|rfl
  ·exact f.elim
  ·exact f.elim,e⟩
 refine⟨by unfold L2.start;simp[hl],fun i a s e1 e2=>?_,fun i j a b s t x e1 _ _ _ f=>?_,fun i r q z=>(by rcases no i _ z with ⟨d,w⟩|w<;>cases w),t,fun x o' h _=>by rw[<-e];exact h,o⟩
 ·obtain⟨v,h1,h2⟩:=at' rv (g e1);rw[gv h1] at e2;cases e2;rcases no i a e1 with ⟨d,rfl⟩|rfl
  ·exact⟨v,rfl,AV.same gs h2⟩
  ·obtain⟨t',b,c,h3,rfl⟩:=h2;exact⟨t',b,c,h3,rfl⟩
 ·rcases no i a e1 with ⟨d,rfl⟩|rfl
  ·exact f.elim
  ·exact f.elim
theorem fnA {x qual:Str}{st:Stmt}{f:Addr}{fd:FuncData}{N ps:List Str}{k:Nat}{φ:List A->(A->Prop)->Prop}(G:Fun K x qual st f fd)(S:zo N ps (zc st))(hlen:∀as Q,φ as Q->as.length=ps.length)
  (hbody:∀(cdv:Value) (A':Around) (outer:List Env) (s:Shared) (H:Hp) (E:XK) (as:List A) (Q:A->Prop),zV k (A'.deeper (envOfC qual (zc st) s.heap.objs.size f cdv))->φ as Q->
   SvS (ui CX0 P w K mg base N qual (zc st) f cdv A' outer s H E).nox (as.map some++List.replicate (N.length-as.length) none) (zA st) {nx:=fun _=>Q (.dat .none),rt:=Q}):zC P w K mg base CX0 (k+1) f fd ps (spA φ):=by
 refine G.ok S (fun vs H Q E h=>?_) (fun cdv A' outer s H vs Qc E hr h=>?_)
 ·obtain⟨F,as,Q',_,_,_,rv,hφ,_⟩:=h;rw[rv.length,hlen as _ hφ]
 ·obtain⟨F,as,Q',e,t,o,rv,hφ,kk⟩:=h;refine hbody cdv A' outer s H E as Q' hr hφ F _ H _ (M.start e t o rv) ⟨fun α σ H' m q=>?_,fun a v H' r q=>kk a v H' q r,fun _ _ _ _ z=>z.elim,fun _ _ _ _ z=>z.elim⟩;exact kk _ _ _ q ⟨m.tp,m.keep,.non⟩
end
section
variable {X:Cx}{pins:List (Addr×Obj)}{σ:St}{H:Hp}{s:Shared}{h':Heap}
theorem Inv.turnL {t':Nat}{ch:List Addr}(I:Inv X pins σ H s)(k:∀b o,b∉ch->s.heap.get? b=some o->h'.get? b=some o)(hf:∀b∈ch,xC X pins H b):Inv X pins σ H {s with heap:=h',toks:=t'}:=by
 have nit:∀b u,H b=some u->b∉ch:=fun b u e z=>by rw[(hf b z).1] at e;cases e
 refine I.step (g':=s.gens) (d':=s.drawn) (ch:=ch) (fun b hb=>?_) (fun b o _ _ hc e _=>k b o hc e) (fun b o _ _ hc e _=>⟨o.slots,k b o hc e⟩) (fun _ _ _ _ n=>n)
  (fun b o hc e=>⟨o,k b o hc e⟩) (fun _ _ e=>e) (fun _ _ _ e=>e) (fun b ps e=>⟨#[],by rw[e];simp⟩) (fun m hm=>?_) (fun b u e=>?_) I.bare
 ·obtain⟨_,f1,_,f3,f4,f5⟩:=hf b hb;exact⟨f3,f1,f4,f5⟩
 ·obtain⟨o,es,ep,ho,r⟩:=hm;exact⟨o,es,ep,k _ o (fun z=>(hf _ z).2.1 rfl) ho,r⟩
 ·refine (I.hok b u e).stay (fun c v hc q=>k c v ?_ q) (fun _ q=>q) fun _ _ q=>q;rcases hc with z|z
  ·rw[z];exact nit b u e
  ·exact nit c _ z
theorem Inv.turnLay {t':Nat}{ch:List Addr}{T:Addr}{o:HO}(I:Inv X pins σ H s)(k:∀b o,b∉ch->s.heap.get? b=some o->h'.get? b=some o)(hf:∀b∈ch,xC X pins H b)(hT:s.heap.objs.size<=T)(new:zM X.prog X.w (upd H T o) h' T o):
  Inv X pins σ (upd H T o) {s with heap:=h',toks:=t'}:=by
 have nit:∀b u,H b=some u->b∉ch:=fun b u e z=>by rw[(hf b z).1] at e;cases e
 have hn:H T=none:=I.hok.fresh hT;have lt:∀{b:Addr} {u:Obj},s.heap.get? b=some u->b≠T:=fun e=>zQ7 (zR0 (zP6 e) hT);refine I.step (g':=s.gens) (d':=s.drawn) (ch:=ch) (fun b hb=>?_) (fun b o _ _ hc e _=>k b o hc e) (fun b o _ _ hc e _=>⟨o.slots,k b o hc e⟩) (fun b u _ e n=>by rw[zh (lt e)];exact n)
  (fun b o hc e=>⟨o,k b o hc e⟩) (fun b xs e=>by rw[zh (zm e hn)];exact e) (fun b u xs e=>by rw[zh (zm e hn)];exact e) (fun b ps e=>⟨#[],by rw[zh (zm e hn),e];simp⟩) (fun m hm=>?_) (fun b u e=>?_) I.bare
 ·obtain⟨_,f1,_,f3,f4,f5⟩:=hf b hb;exact⟨f3,f1,f4,f5⟩
 ·obtain⟨o,es,ep,ho,r⟩:=hm;exact⟨o,es,ep,k _ o (fun z=>(hf _ z).2.1 rfl) ho,r⟩
 ·by_cases hb:b=T
  ·subst hb;rw[zk] at e;cases e;exact new
  ·rw[zh hb] at e;refine (I.hok b u e).stay (fun c v hc q=>k c v ?_ q) (fun c q=>by rw[zh (zm q hn)];exact q) fun c xs q=>by rw[zh (zm q hn)];exact q
   rcases hc with z|z
   ·rw[z];exact nit b u e
   ·exact nit c _ z
end
theorem uO {a b:Nat}(h:a<b):(a:Addr)≠b:=zQ7 h
theorem cP {a b:Nat}(h:b<a):(a:Addr)≠b:=zZ2 h
theorem eo (n l1 l2:Nat)(h1:l1<n)(h2:l2<n):ZipApart (n+4) (n+2) (n+3) n (n+1) l1 l2 where
 TIz:=uO (a:=n+2) (b:=n+4) (by omega)
 TOz:=uO (a:=n+3) (b:=n+4) (by omega)
 i1z:=uO (a:=n) (b:=n+4) (by omega)
 i2z:=uO (a:=n+1) (b:=n+4) (by omega)
 TITO:=uO (a:=n+2) (b:=n+3) (by omega)
 TIi1:=cP (a:=n+2) (b:=n) (by omega)
 TIi2:=cP (a:=n+2) (b:=n+1) (by omega)
 TOi1:=cP (a:=n+3) (b:=n) (by omega)
 TOi2:=cP (a:=n+3) (b:=n+1) (by omega)
 i12:=uO (a:=n) (b:=n+1) (by omega)
 l1z:=uO (a:=l1) (b:=n+4) (by omega)
 l1TO:=uO (a:=l1) (b:=n+3) (by omega)
 l1i1:=uO (a:=l1) (b:=n) (by omega)
 l1i2:=uO (a:=l1) (b:=n+1) (by omega)
 l2z:=uO (a:=l2) (b:=n+4) (by omega)
 l2TO:=uO (a:=l2) (b:=n+3) (by omega)
 l2i1:=uO (a:=l2) (b:=n) (by omega)
 l2i2:=uO (a:=l2) (b:=n+1) (by omega)
def Itz (K:PySem.W.Frag)(l1 l2:Addr):It:=
 ⟨fun i H=>∃xs ys x y,SqL K H l1 xs/\SqL K H l2 ys/\xs[i]?=some x/\ys[i]?=some y,
  fun i H v H'=>∃T x y,v=.ref T/\H T=none/\H'=upd H T (.tup [x,y])/\(∀xs,SqL K H l1 xs->xs[i]?=some x)/\∀ys,SqL K H l2 ys->ys[i]?=some y,
  fun i H=>∃xs ys,SqL K H l1 xs/\SqL K H l2 ys/\(xs.length<=i\/ys.length<=i)⟩
def Ite (K:PySem.W.Frag)(l:Addr):It:=
 ⟨fun i H=>∃xs x,SqL K H l xs/\xs[i]?=some x,
  fun i H v H'=>∃T x,v=.ref T/\H T=none/\H'=upd H T (.tup [.int i,x])/\∀xs,SqL K H l xs->xs[i]?=some x,
  fun i H=>∃xs,SqL K H l xs/\xs.length<=i⟩
theorem bz {P:Program}{w:World}{K:PySem.W.Frag}{elts:List Expr}{kk:Nat}{pos:Pos}{z TI TO i1 i2 l1 l2:Addr}(D:ZipApart z TI TO i1 i2 l1 l2):
  Turn P w K (.Tuple elts kk pos) (Itz K l1 l2) [z,TI,TO,i1,i2] z (fun i h=>IsZip h z TI TO .none/\IsPair h TI (.ref i1) (.ref i2)/\(∃a b,IsPair h TO a b)/\h.IsListIter i1 l1 i/\h.IsListIter i2 l2 i) where
 mem:=by simp
 obj:=fun i h st b hb=>by
  obtain⟨h1,h2,⟨a,c,h3⟩,⟨o1,e1,_,d1⟩,⟨o2,e2,_,d2⟩⟩:=st;simp only[zP2,zQ3,zS4] at hb;rcases hb with rfl|rfl|rfl|rfl|rfl
  ·exact⟨_,h1,fun v z=>by cases (show Data.fields _=Data.cell v from z)⟩
  ·exact⟨_,h2,fun v z=>by cases (show Data.seq _ _=Data.cell v from z)⟩
  ·exact⟨_,h3,fun v z=>by cases (show Data.seq _ _=Data.cell v from z)⟩
  ·exact⟨o1,e1,fun v z=>by rw[d1] at z;cases z⟩
  ·exact⟨o2,e2,fun v z=>by rw[d2] at z;cases z⟩
 keep:=fun i h h' st k=>by
  obtain⟨h1,h2,⟨a,c,h3⟩,h4,h5⟩:=st;exact⟨k z (by simp) _ h1,k TI (by simp) _ h2,⟨a,c,k TO (by simp) _ h3⟩,h4.at fun o e=>k i1 (by simp) o e,h5.at fun o e=>k i2 (by simp) o e⟩
 item:=by
  intro X hP hw hK hc i pins s σ H E I hf st hg;subst hP hw hK;obtain⟨xs,ys,x,y,hq1,hq2,hx,hy⟩:=hg;obtain⟨its1,rv1,p1,hz1⟩:=I.list hq1;obtain⟨its2,rv2,p2,hz2⟩:=I.list hq2;obtain⟨u,hu,ru⟩:=rv1.get hx;obtain⟨v,hv,rv⟩:=rv2.get hy;obtain⟨h1,h2,⟨a,c,h3⟩,h4,h5⟩:=st;refine wpAny_pyNext_zip_item D h1 h2 h3 h4 h5 p1.isList p2.isList (x:=u) (y:=v) (by simpa using hu) (by simpa using hv) fun h' a1 a2 a3 a4 a5 a6 hk=>⟨_,rfl,?_⟩;refine wpAny_letOwnedTupleGo_zip (s:={s with heap:=h'}) a1 fun h'' b1 b2=>?_;have hTz:s.heap.objs.size≠z:=zZ2 (zP6 h1);have hk2:∀b o,b∉[z,TI,TO,i1,i2]->s.heap.get? b=some o->h''.get? b=some o:=fun b o hb e=>by
   simp only[zP2,zQ3,zS4,not_or] at hb;exact b2.extBut _ _ hb.1 (hk b o hb.1 hb.2.2.1 hb.2.2.2.1 hb.2.2.2.2 e)
  have gT:h''.get? s.heap.objs.size=some {cls:=.type "tuple",data:=.seq #[u,v]}:=b2.extBut _ _ hTz a5;have J:=I.turnLay (t':=s.toks) (T:=s.heap.objs.size) (o:=.tup [x,y]) hk2 hf (zP3 _) ⟨by show 2<=sizeLine;decide,[u,v],.cons ru (.cons rv .nil),_,gT,rfl,0,rfl⟩;refine⟨.ref s.heap.objs.size,_,J,rfl,⟨_,x,y,rfl,I.hok.fresh (zP3 _),rfl,fun zs hz=>by rw[I.list_inj hz hq1];exact hx,fun zs hz=>by rw[I.list_inj hz hq2];exact hy⟩,⟨b1,b2.extBut _ _ D.TIz (hk _ _ D.TIz D.TITO D.TIi1 D.TIi2 h2),⟨u,v,b2.extBut _ _ D.TOz a2⟩,a3.extBut b2.extBut D.i1z,a4.extBut b2.extBut D.i2z⟩,fun b hb=>?_⟩;rw[zh]
  ·exact (hf b hb).1
  ·obtain⟨o,e,_⟩:=(show ∃o,s.heap.get? b=some o/\True from by
    simp only[zP2,zQ3,zS4] at hb;obtain⟨o1,e1,_⟩:=h4;obtain⟨o2,e2,_⟩:=h5;rcases hb with rfl|rfl|rfl|rfl|rfl
    ·exact⟨_,h1,trivial⟩
    ·exact⟨_,h2,trivial⟩
    ·exact⟨_,h3,trivial⟩
    ·exact⟨_,e1,trivial⟩
    ·exact⟨_,e2,trivial⟩)
   exact zQ7 (zP6 e)
 done:=by
  intro X hP hw hK hc i pins s σ H E I hf st hg;subst hP hw hK;obtain⟨xs,ys,hq1,hq2,hl⟩:=hg;obtain⟨its1,rv1,p1,hz1⟩:=I.list hq1;obtain⟨its2,rv2,p2,hz2⟩:=I.list hq2;obtain⟨h1,h2,⟨a,c,h3⟩,h4,h5⟩:=st;have e1:=rv1.length;have e2:=rv2.length;refine wpAny_pyNext_zip_end (I.ok.hd hc) D h1 h2 h3 h4 h5 p1.isList p2.isList (hl.imp (fun z=>by simp;omega) fun z=>by simp;omega) fun h' hk=>⟨rfl,?_⟩;exact I.turnL (t':=s.toks) (ch:=[z,TI,TO,i1,i2]) (fun b o hb e=>by
   simp only[zP2,zQ3,zS4,not_or] at hb;exact hk b o hb.1 hb.2.2.1 hb.2.2.2.1 hb.2.2.2.2 e) hf
 self:=fun A i s Q E st h=>wpAny_pyIter_zip st.1 h
theorem gg {P:Program}{w:World}{K:PySem.W.Frag}{elts:List Expr}{kk:Nat}{pos:Pos}{e it l:Addr}(hne:e≠it):
  Turn P w K (.Tuple elts kk pos) (Ite K l) [e,it] e (fun i h=>(∃old,IsEnum h e it i old)/\h.IsListIter it l i) where
 mem:=by simp
 obj:=fun i h st b hb=>by
  obtain⟨⟨old,h1⟩,⟨o1,e1,_,d1⟩⟩:=st;simp only[zP2,zQ3,zS4] at hb;rcases hb with rfl|rfl
  ·exact⟨_,h1,fun v z=>by cases (show Data.fields _=Data.cell v from z)⟩
  ·exact⟨o1,e1,fun v z=>by rw[d1] at z;cases z⟩
 keep:=fun i h h' st k=>by
  obtain⟨⟨old,h1⟩,h4⟩:=st;exact⟨⟨old,k e (by simp) _ h1⟩,h4.at fun o q=>k it (by simp) o q⟩
 item:=by
  intro X hP hw hK hc i pins s σ H E I hf st hg;subst hP hw hK;obtain⟨xs,x,hq1,hx⟩:=hg;obtain⟨its1,rv1,p1,hz1⟩:=I.list hq1;obtain⟨u,hu,ru⟩:=rv1.get hx;obtain⟨⟨old,h1⟩,h4⟩:=st;refine wpAny_pyNext_enum_item h1 h4 p1.isList (x:=u) (by simpa using hu) hne fun h' a1 a3 a5 a6 hk=>⟨_,rfl,?_⟩;refine wpAny_letOwnedTupleGo_enum (s:={s with heap:=h',toks:=s.toks+1}) a1 fun h'' b1 b2=>?_;have hTz:s.heap.objs.size≠e:=zZ2 (zP6 h1);have hk2:∀b o,b∉[e,it]->s.heap.get? b=some o->h''.get? b=some o:=fun b o hb q=>by
   simp only[zP2,zQ3,zS4,not_or] at hb;exact b2.extBut _ _ hb.1 (hk b o hb.1 hb.2 q)
  have gT:h''.get? s.heap.objs.size=some {cls:=.type "tuple",data:=.seq #[.int i s.toks,u]}:=b2.extBut _ _ hTz a5;have J:=I.turnLay (t':=s.toks+1) (T:=s.heap.objs.size) (o:=.tup [.int i,x]) hk2 hf (zP3 _) ⟨by show 2<=sizeLine;decide,[.int i s.toks,u],.cons ⟨_,rfl⟩ (.cons ru .nil),_,gT,rfl,0,rfl⟩;refine⟨.ref s.heap.objs.size,_,J,rfl,⟨_,x,rfl,I.hok.fresh (zP3 _),rfl,fun zs hz=>by rw[I.list_inj hz hq1];exact hx⟩,⟨⟨u,by simpa using b1⟩,a3.extBut b2.extBut hne.symm⟩,fun b hb=>?_⟩;rw[zh]
  ·exact (hf b hb).1
  ·obtain⟨o,q,_⟩:=(show ∃o,s.heap.get? b=some o/\True from by
    simp only[zP2,zQ3,zS4] at hb;obtain⟨o1,e1,_⟩:=h4;rcases hb with rfl|rfl
    ·exact⟨_,h1,trivial⟩
    ·exact⟨_,e1,trivial⟩)
   exact zQ7 (zP6 q)
 done:=by
  intro X hP hw hK hc i pins s σ H E I hf st hg;subst hP hw hK;obtain⟨xs,hq1,hl⟩:=hg;obtain⟨its1,rv1,p1,hz1⟩:=I.list hq1;obtain⟨⟨old,h1⟩,h4⟩:=st;have e1:=rv1.length;refine wpAny_pyNext_enum_end (I.ok.hd hc) h1 h4 p1.isList (by simp;omega) fun h' hk=>⟨rfl,?_⟩;exact I.turnL (t':=s.toks) (ch:=[e,it]) (fun b o hb q=>by
   simp only[zP2,zQ3,zS4,not_or] at hb;exact hk b o hb.2 q) hf
 self:=fun A i s Q E st h=>by
  obtain⟨⟨old,h1⟩,h4⟩:=st;exact wpAny_pyIter_enum h1 h
section
variable {X:Cx}{α:Ev}{elts:List Expr}{kk:Nat}{tp p pos:Pos}{a b:Expr}
def zL5 (K:PySem.W.Frag)(ta:TA):TI:=fun σ H R=>ta σ H fun vs H1=>∃l1 l2,vs=[.ref l1,.ref l2]/\(∃xs,SqL K H1 l1 xs)/\(∃ys,SqL K H1 l2 ys)/\R (Itz K l1 l2) H1
theorem zB2 {ta:TA}(hg:Gl X "zip")(hm:X.mg "zip"=none)(ha:PA X [a,b] ta)(hs:starEach [a,b] X.env=[(false,eval a X.env),(false,eval b X.env)]:=by rfl)(hs2:starEach [b] X.env=[(false,eval b X.env)]:=by rfl):
  PI X (.Tuple elts kk tp) (.Call (.Name "zip" p) [a,b] [] pos) (zL5 X.K ta):=by
 intro pins s σ H R I h;refine Call_ (xq I hg hm boot_zip (zS5 (thn (ha pos pins s σ H _ I h) fun us s1 ⟨vs,H1,I1,r1,q1⟩=>?_) (by rw[hs,hs2]) (by rw[hs2];rfl)));obtain⟨l1,l2,e,⟨xs,hq1⟩,⟨ys,hq2⟩,q⟩:=q1;subst e;obtain⟨u,v,rfl,ru,rv⟩:=Vals.two r1;cases (show u=Value.ref l1 from ru);cases (show v=Value.ref l2 from rv);obtain⟨its1,rv1,p1,hz1⟩:=I1.list hq1;obtain⟨its2,rv2,p2,hz2⟩:=I1.list hq2;refine call_zip_2 p1.isList p2.isList fun h' z1 z2 z3 z4 z5 z6 hk=>?_;refine wpAny_pyIter_zip (s:={s1 with heap:=h'}) z1 ?_;have lt1:l1<s1.heap.objs.size:=by obtain⟨o,e,_⟩:=p1.isList;exact zP6 e
 have lt2:l2<s1.heap.objs.size:=by obtain⟨o,e,_⟩:=p2.isList;exact zP6 e
 have fr:∀n,H1 (s1.heap.objs.size+n)=none:=fun n=>I1.hok.fresh (Nat.le_add_right _ _);have D:ZipApart (s1.heap.objs.size+4) (s1.heap.objs.size+2) (s1.heap.objs.size+3) s1.heap.objs.size (s1.heap.objs.size+1) l1 l2:=eo _ _ _ lt1 lt2;refine⟨_,_,_,_,H1,rfl,I1.kept (t':=s1.toks) fun b o e=>hk b o e,bz D,⟨z1,z2,⟨_,_,z3⟩,z4,z5⟩,fun b hb=>?_,q⟩;simp only[zP2,zQ3,zS4] at hb;have hb':s1.heap.objs.size<=b:=by
  have key:∀n b:Nat,n=s1.heap.objs.size->(b=n+4\/b=n+2\/b=n+3\/b=n\/b=n+1)->n<=b:=fun n b _ h=>by omega
  exact key _ _ rfl (by rcases hb with z|z|z|z|z<;>simp[z])
 exact I1.fpOk hb' (I1.hok.fresh hb')
def zE8 (K:PySem.W.Frag)(ta:TA):TI:=fun σ H R=>ta σ H fun vs H1=>∃l,vs=[.ref l]/\(∃xs,SqL K H1 l xs)/\R (Ite K l) H1
theorem zo4 {ta:TA}(hg:Gl X "enumerate")(hm:X.mg "enumerate"=none)(ha:PA X [a] ta)(hs:starEach [a] X.env=[(false,eval a X.env)]:=by rfl):
  PI X (.Tuple elts kk tp) (.Call (.Name "enumerate" p) [a] [] pos) (zE8 X.K ta):=by
 intro pins s σ H R I h;refine Call_ (xq I hg hm boot_enumerate (zS5 (thn (ha pos pins s σ H _ I h) fun us s1 ⟨vs,H1,I1,r1,q1⟩=>?_) hs rfl));obtain⟨l1,e,⟨xs,hq1⟩,q⟩:=q1;subst e;obtain⟨u,rfl,ru⟩:=Vals.one r1;cases (show u=Value.ref l1 from ru);obtain⟨its1,rv1,p1,hz1⟩:=I1.list hq1;refine call_enumerate_list p1.isList fun h' z1 z4 z6 hk=>?_;refine wpAny_pyIter_enum (s:={s1 with heap:=h'}) z1 ?_;refine⟨_,_,_,_,H1,rfl,I1.kept (t':=s1.toks) fun b o e=>hk b o e,gg (cP (a:=s1.heap.objs.size+1) (b:=s1.heap.objs.size) (zZ3 _)),⟨⟨_,z1⟩,z4⟩,fun b hb=>?_,q⟩;simp only[zP2,zQ3,zS4] at hb;have hb':s1.heap.objs.size<=b:=by
  have key:∀n b:Nat,n=s1.heap.objs.size->(b=n+1\/b=n)->n<=b:=fun n b _ h=>by omega
  exact key _ _ rfl hb
 exact I1.fpOk hb' (I1.hok.fresh hb')
def zb3 (ds es:List PyData):List PyData:=List.zipWith (fun d e=>.tuple [d,e]) ds es
theorem zv8 {Q:List PyData->Prop}(hg:Gl X "zip")(hm:X.mg "zip"=none)(h:EvD X α a fun x=>EvD X α b fun y=>∃ds es,x=.list ds/\y=.list es/\Q (zb3 ds es))
  (hs:starEach [a,b] X.env=[(false,eval a X.env),(false,eval b X.env)]:=by rfl) (hs2:starEach [b] X.env=[(false,eval b X.env)]:=by rfl) (hs3:starEach [a,b] X.env=(false,eval a X.env)::starEach [b] X.env:=by rfl):
  EvI X α (.Tuple elts kk tp) (.Call (.Name "zip" p) [a,b] [] pos) Q:=fun F σ H R m k=>by
 refine⟨_,zB2 hg hm (zg zl (zg zl zu hs2) hs3) hs hs2,?_⟩;refine h F σ H _ m fun x vx H1 q1 t1 k1 r1=>?_;have m1:=m.kz k1 t1;refine q1 F σ H1 _ m1 fun y vy H2 q2 t2 k2 r2=>?_;obtain⟨ds,es,rfl,rfl,q⟩:=q2;obtain⟨l1,xs,rfl,g1,g2⟩:=(r1.same (k2.gz m1.tp)).lst_inv;obtain⟨l2,ys,rfl,g3,g4⟩:=r2.lst_inv;refine⟨l1,l2,rfl,⟨xs,SqL.of (zj g1).2⟩,⟨ys,SqL.of (zj g3).2⟩,k _ _ H2 q t2 (k1.trans k2) fun i H3 p s=>⟨fun d hd=>?_,fun hl=>?_⟩⟩
 ·have s1:=SqL.of (K:=X.K) (zj (s _ _ g1)).2;have s2:=SqL.of (K:=X.K) (zj (s _ _ g3)).2;unfold zb3 at hd;rw[List.getElem?_zipWith] at hd;cases e1:ds[i]? with
  |none=>rw[e1] at hd;cases hd
  |some d1=>
   cases e2:es[i]? with
   |none=>rw[e1,e2] at hd;cases hd
   |some d2=>
    rw[e1,e2] at hd;cases hd;obtain⟨x1,hx1,av1⟩:=g2.get e1;obtain⟨x2,hx2,av2⟩:=g4.get e2;refine⟨⟨xs,ys,x1,x2,s1,s2,hx1,hx2⟩,fun v H4 y=>?_⟩;obtain⟨T,x,y,rfl,hT,rfl,hx,hy⟩:=y;have hx:=hx _ s1;have hy:=hy _ s2;rw[hx1] at hx;cases hx;rw[hx2] at hy;cases hy;refine⟨yj hT,fun fr=>?_⟩;have gs:zz (Gz F α σ H2) (sub p (upd H3 T (.tup [x1,x2]))):=fun a o e=>by
     obtain⟨z1,z2⟩:=zj (s a o e);exact zE z1 (by rw[zh (zm z2 hT)];exact z2)
    exact .tup (zE (fr T _ zk hT) zk) (.cons (av1.same gs) (.cons (av2.same gs) .nil))
 ·refine⟨xs,ys,SqL.of (zj (s _ _ g1)).2,SqL.of (zj (s _ _ g3)).2,?_⟩;unfold zb3 at hl;rw[List.length_zipWith,<-g2.length,<-g4.length] at hl;omega
def si (n:Nat):List PyData->List PyData
 |[]=>[]
 |d::ds=>.tuple [.int n,d]::si (n+1) ds
theorem wM :∀{ds:List PyData} {n i:Nat} {d:PyData},(si n ds)[i]?=some d->∃e,ds[i]?=some e/\d=.tuple [.int ((n+i:Nat):Int),e]
 |[],n,i,d,h=>by simp[si] at h
 |e::ds,n,0,d,h=>by simp[si] at h;exact⟨e,rfl,by simp[<-h]⟩
 |e::ds,n,i+1,d,h=>by
  simp only[si,z35] at h;obtain⟨e',h1,h2⟩:=wM h;exact⟨e',by simpa using h1,by rw[h2,Nat.add_assoc,Nat.add_comm 1 i]⟩
theorem wL :∀(ds:List PyData) (n:Nat),(si n ds).length=ds.length
 |[],_=>rfl
 |_::ds,n=>by simp[si,wL ds (n+1)]
theorem oi {Q:List PyData->Prop}(hg:Gl X "enumerate")(hm:X.mg "enumerate"=none)(h:EvD X α a fun x=>∃ds,x=.list ds/\Q (si 0 ds))(hs:starEach [a] X.env=[(false,eval a X.env)]:=by rfl):
  EvI X α (.Tuple elts kk tp) (.Call (.Name "enumerate" p) [a] [] pos) Q:=fun F σ H R m k=>by
 refine⟨_,zo4 hg hm (zg zl zu hs) hs,?_⟩;refine h F σ H _ m fun x vx H1 q1 t1 k1 r1=>?_;obtain⟨ds,rfl,q⟩:=q1;obtain⟨l1,xs,rfl,g1,g2⟩:=r1.lst_inv;refine⟨l1,rfl,⟨xs,SqL.of (zj g1).2⟩,k _ _ H1 q t1 k1 fun i H3 p s=>⟨fun d hd=>?_,fun hl=>?_⟩⟩
 ·have s1:=SqL.of (K:=X.K) (zj (s _ _ g1)).2;obtain⟨e,he,rfl⟩:=wM hd;obtain⟨x1,hx1,av1⟩:=g2.get he;refine⟨⟨xs,x1,s1,hx1⟩,fun v H4 y=>?_⟩;obtain⟨T,x,rfl,hT,rfl,hx⟩:=y;have hx:=hx _ s1;rw[hx1] at hx;cases hx;refine⟨yj hT,fun fr=>?_⟩;have gs:zz (Gz F α σ H1) (sub p (upd H3 T (.tup [.int i,x1]))):=fun a o e=>by
   obtain⟨z1,z2⟩:=zj (s a o e);exact zE z1 (by rw[zh (zm z2 hT)];exact z2)
  refine .tup (zE (fr T _ zk hT) zk) (.cons ?_ (.cons (av1.same gs) .nil));rw[z55];exact .int _
 ·refine⟨xs,SqL.of (zj (s _ _ g1)).2,?_⟩;rw[wL,<-g2.length] at hl;exact hl
end
structure Cal (P:Program)(w:World)(K:PySem.W.Frag)(mg:Str->Option Value)(base:Heap)(x:Str)(k:Nat)(φ:List A->(A->Prop)->Prop):Prop where
 ex:∃f fd ps,mg x=some (.ref f)/\PySem.W.keepIn K (.ref f)=true/\Binds K fd ps []/\zC P w K mg base CX0 k f fd ps (spA φ)
section
variable {X:Cx}{α:Ev}{e a b:Expr}{es:List Expr}{pos p:Pos}{Q:PyData->Prop}{k:Nat}{φ:List A->(A->Prop)->Prop}{x:Str}
theorem zZ (C:Cal X.prog X.w X.K X.mg X.base x k φ)(hr:zV k X.A)(hg:Gl X x)(h:EvA X α (e::es) fun as=>φ as fun a=>Q a.d)
  (hdb:(x == ("__debug__":Str))=false:=by decide) (he:starEach (e::es) X.env=(false,eval e X.env)::starEach es X.env:=by rfl) (hpl:(backTo pos (starEach es X.env)).any (·.1)=false:=by rfl):EvD X α (.Call (.Name x p) (e::es) [] pos) Q:=by
 obtain⟨f,fd,ps,h1,h2,h3,h4⟩:=C.ex;exact zq9 h4 hr hg h1 h2 h3 h hdb he hpl
theorem wA {Q:List PyData->Prop}(C:Cal X.prog X.w X.K X.mg X.base x k φ)(hr:zV k X.A)(hg:Gl X x)(h:EvA X α (e::es) fun as=>φ as fun a=>∃ds,a=.own ds/\Q ds)
  (hdb:(x == ("__debug__":Str))=false:=by decide) (he:starEach (e::es) X.env=(false,eval e X.env)::starEach es X.env:=by rfl) (hpl:(backTo pos (starEach es X.env)).any (·.1)=false:=by rfl):EvL X α (.Call (.Name x p) (e::es) [] pos) Q:=by
 obtain⟨f,fd,ps,h1,h2,h3,h4⟩:=C.ex;exact zl6 h4 hr hg h1 h2 h3 h hdb he hpl
end
section
variable {P:Program}{w:World}{K:PySem.W.Frag}{mg:Str->Option Value}{base:Heap}
theorem yT {x qual:Str}{st:Stmt}{f:Addr}{fd:FuncData}{N ps:List Str}{k:Nat}{φ:List A->(A->Prop)->Prop}(G:Fun K x qual st f fd)(hm:mg x=some (.ref f))(hb:Binds K fd ps [])(S:zo N ps (zc st))(hlen:∀as Q,φ as Q->as.length=ps.length)
  (hbody:∀(cdv:Value) (A':Around) (outer:List Env) (s:Shared) (H:Hp) (E:XK) (as:List A) (Q:A->Prop),zV k (A'.deeper (envOfC qual (zc st) s.heap.objs.size f cdv))->φ as Q->
   SvS (ui CX0 P w K mg base N qual (zc st) f cdv A' outer s H E).nox (as.map some++List.replicate (N.length-as.length) none) (zA st) {nx:=fun _=>Q (.dat .none),rt:=Q}):Cal P w K mg base x (k+1) φ:=
 ⟨f,fd,ps,hm,G.kp,hb,fnA G S hlen hbody⟩
theorem Cal.imp {x:Str}{k:Nat}{φ φ':List A->(A->Prop)->Prop}(C:Cal P w K mg base x k φ)(h:∀as Q,φ' as Q->φ as Q):Cal P w K mg base x k φ':=by
 obtain⟨f,fd,ps,h1,h2,h3,h4⟩:=C.ex;exact⟨f,fd,ps,h1,h2,h3,h4.imp fun vs H Q E ⟨F,as,Q',a,b,c,d,e,g⟩=>⟨F,as,Q',a,b,c,d,h _ _ e,g⟩⟩
def xt :List A->(A->Prop)->Prop:=fun as Q=>∃n:Int,as=[.tape,.dat (.int n)]/\0<n/\n<big/\∀v,0<=v->v<n->Q (.dat (.int v))
theorem cZ {f:Addr}{fd:FuncData}{x:Str}(hm:mg x=some (.ref f))(hk:PySem.W.keepIn K (.ref f)=true)(hb:Binds K fd ["_law_tape_here","_law_many"] [])(G:zC P w K mg base CX0 1 f fd ["_law_tape_here","_law_many"] ze9):Cal P w K mg base x 1 xt:=by
 refine⟨f,fd,_,hm,hk,hb,G.imp fun vs H Q E h=>?_⟩;obtain⟨F,as,Q',rfl,t,o,rv,⟨n,rfl,h0,h1,hq⟩,kk⟩:=h;cases rv with
 |cons a1 r=>
  obtain⟨ta,b,c,e,rfl⟩:=a1;obtain⟨v,rfl,av⟩:=r.one;cases av.int_inv;refine⟨ta,b,c,n,rfl,(t ta b c e).1,h0,h1,fun z H' z0 z1 TA off=>kk _ _ _ (hq z z0 z1) ⟨⟨(by
   obtain⟨_,_,_,_,e1,e2,_⟩:=(t ta b c e).1.ex;exact zf9 t.tab e1 e2 off),t.ot,fun t' b' c' e'=>?_⟩,fun y u hy n=>?_,.int z⟩⟩
  ·rw[e] at e';cases e';exact⟨TA,(t ta b c e).2⟩
  ·rw[off y (n.1 _ _ _ e).1 (n.1 _ _ _ e).2];exact hy
theorem M.tape {H:Hp}{t b c:Addr}{α:Ev}{σ:St}(T:yL H t b c)(TB:TabAt H)(hl:α.length=σ.length)(h:∀(i:Nat) a,α[i]?=some (some a)->a=.tape/\σ[i]?=some (some (.ref t))):M ⟨H,fun x=>x=t\/x=b\/x=c\/rB x,some (t,b,c)⟩ α σ H:=by
 refine⟨hl,fun i a s e1 e2=>?_,fun i j a b s u x e1 _ _ _ f=>?_,fun i r q e=>?_,⟨TB,fun x z=>.inr (.inr (.inr z)),fun t' b' c' e=>?_⟩,fun _ _ e _=>e,fun x hx=>?_⟩
 ·obtain⟨rfl,z⟩:=h i a e1;rw[z] at e2;cases e2;exact⟨t,b,c,rfl,rfl⟩
 ·obtain⟨rfl,_⟩:=h i a e1;exact f.elim
 ·cases (h i _ e).1
 ·cases e;exact⟨T,.inl rfl,.inr (.inl rfl),.inr (.inr (.inl rfl))⟩
 ·obtain⟨n,bs,cs,_,e1,e2,e3,_⟩:=T.ex;rcases hx with rfl|rfl|rfl|z
  ·exact⟨_,e1,xy⟩
  ·exact⟨_,e2,xy⟩
  ·exact⟨_,e3,xy⟩
  ·obtain⟨o,h1,h2,_⟩:=nj TB z;exact⟨o,h1,h2⟩
theorem zM1 {st:Stmt}{f fT:Addr}{fd fdT:FuncData}{N':List Str}{k:Nat}{p1 p2 p3 p4 p5:Pos}{rest:List Stmt}(G:Fun K "law" "law" st f fd)(S:zo ("_law_script"::"_law_tape_here"::N') ["_law_script"] (zc st))
  (GT:zC P w K mg base CX0 1 fT fdT ["_law_script"] (lM K)) (mT:mg "_law_tape"=some (.ref fT)) (kT:PySem.W.keepIn K (.ref fT)=true) (bT:Binds K fdT ["_law_script"] [])
  (hb:zA st=.Assign [.Name "_law_tape_here" p1] (.Call (.Name "_law_tape" p2) [.Name "_law_script" p3] [] p4) p5::rest) (hgl:(zc st).names.lookup ("_law_tape":Str)=some .globalImplicit) (hl:Loc (zc st) "_law_tape_here") (hv:Vis (zc st) "_law_script")
  (hbody:∀(cdv:Value) (A':Around) (outer:List Env) (s:Shared) (H:Hp) (E:XK),zV (k+1) (A'.deeper (envOfC "law" (zc st) s.heap.objs.size f cdv))->
   SvS (ui CX0 P w K mg base ("_law_script"::"_law_tape_here"::N') "law" (zc st) f cdv A' outer s H E).nox (none::some .tape::List.replicate N'.length none) rest {nx:=fun _=>False,rt:=fun a=>a=.dat (.bool true)}):
  zC P w K mg base CX0 (k+1+1) f fd ["_law_script"] (nL K):=by
 refine G.ok S (fun vs H Q E h=>?_) (fun cdv A' outer s H vs Qc E hr h=>?_)
 ·obtain⟨a,ns,rfl,_⟩:=h;rfl
 ·obtain⟨a,ns,rfl,hS,hn,tb,kk⟩:=h;rw[hb];refine yb (fun σ H1=>∃t b c,yL H1 t b c/\TabAt H1/\σ=some (.ref a)::some (.ref t)::List.replicate N'.length none)
   ⟨_,va (i:=1) S.nd rfl hl (zX GT (hr.mono (by omega)) hgl mT kT bT .nil yk (zg (xH (i:=0) rfl hv) zu)) (hf:=.inl rfl),?_⟩ ?_
  ·refine⟨.ref a,rfl,a,ns,rfl,hS,hn,fun t b c H' T _ _ _ sm=>⟨t,b,c,T,br tb sm,?_⟩⟩;show ((L2.start ("_law_script"::"_law_tape_here"::N') [.ref a]).set 1 (some (.ref t)))=_;unfold L2.start;simp[List.replicate_succ]
  ·rintro σ H1 ⟨t,b,c,T,TB,rfl⟩;refine hbody cdv A' outer s H E hr ⟨H1,fun x=>x=t\/x=b\/x=c\/rB x,some (t,b,c)⟩ _ H1 _ (M.tape T TB (by simp) fun i z e=>?_) ⟨fun _ _ _ _ z=>z.elim,fun z v H' r e=>?_,fun _ _ _ _ z=>z.elim,fun _ _ _ _ z=>z.elim⟩
   ·cases i with
    |zero=>simp at e
    |succ i=>
     cases i with
     |zero=>simp at e;subst e;exact⟨rfl,rfl⟩
     |succ i=>
      simp only[z35,zX6] at e;split at e<;>cases e
   ·cases e;obtain⟨_,_,r⟩:=r;rw[AV.bl_inv r];exact kk H'
end
section
variable {Y:Addr->Shared->Hp->List Addr->Cx}{pat:Pat}{ifs:List Expr}{elt:Expr}{α0:Ev}
theorem uz {ds acc:List PyData}{Q:List PyData->Prop}(p:PyData->Bool)(f:PyData->PyData)
  (hs:∀d∈ds,∃α1,pat.bind d α0=some α1/\(∀C s2 H2 fp (Q:Bool->Prop),Q (p d)->zd6 (Y C s2 H2 fp) α1 ifs Q)/\(p d=true->∀C s2 H2 fp (Q:PyData->Prop),Q (f d)->EvD (Y C s2 H2 fp) α1 elt Q))
  (hd:Q (acc++(ds.filter p).map f)):xK Y pat ifs elt α0 ds acc Q:=by
 induction ds generalizing acc with
 |nil=>
  show Q acc;simpa using hd
 |cons d ds ih=>
  obtain⟨α1,e,h1,h2⟩:=hs d zQ1;refine⟨α1,e,fun C s2 H2 fp=>h1 C s2 H2 fp _ ?_⟩;have ih':=fun acc=>ih (acc:=acc) fun d hd=>hs d (zP5 _ hd);cases hp:p d with
  |true=>
   rw[if_pos rfl];refine fun C s2 H2 fp=>h2 hp C s2 H2 fp _ (ih' _ ?_);simpa[z07,hp] using hd
  |false=>
   rw[if_neg (by decide)];refine ih' _ ?_;simpa[z07,hp] using hd
end
theorem mG {ds:List PyData}{v:Int}(h0:0<=v)(h1:v<ds.length):∃d,d∈ds/\atI ds v=some d:=by
 obtain⟨j,rfl⟩:=zX7 h0;have hj:j<ds.length:=by omega
 exact⟨ds[j],zT9 hj,xA (zO9 hj)⟩
theorem jJ (st:Stmt)(env:Env):execs [st] env=exec st env:=by
 rw[PySem.execs_cons];have:(fun f:Flow=>(match f with|.next=>execs [] env|f=>pure f:Sem Flow))=pure:=by
  funext f
  cases f<;>rfl
 exact (congrArg (fun g=>exec st env >>= g) this).trans (bind_pure _)
section
variable {X:Cx}{α:Ev}{e a b c:Expr}{es rest:List Expr}{pos p:Pos}{Q:PyData->Prop}{E:xJ}{st:Stmt}{sts sts':List Stmt}
theorem xY (P:Ev->Prop)(h1:SvS X α [st] {E with nx:=P})(h2:∀α',P α'->SvS X α' sts E):SvS X α (st::sts) E:=fun F σ H D m r=>by
 refine yb (fun σ' H'=>∃α',M F α' σ' H'/\P α') ?_ ?_
 ·obtain⟨t,p,q⟩:=h1 F σ H {D with nx:=fun σ' H'=>∃α',M F α' σ' H'/\P α'} m ⟨fun α' σ' H' m' z=>⟨α',m',z⟩,r.rt,r.bk,r.ct⟩;exact⟨t,fun pins s σ H D I h=>(by
   have:=p pins s σ H D I h;rw[jJ] at this;exact this),q⟩
 ·rintro σ' H' ⟨α',m',z⟩;exact h2 α' z F σ' H' D m' r
theorem bU {c:Prop}[Decidable c]{a b:List Stmt}(h1:c->SvS X α a E)(h2:¬c->SvS X α b E):SvS X α (if decide c=true then a else b) E:=by
 by_cases h:c
 ·rw[zS3 h];exact h1 h
 ·rw[zR5 h];exact h2 h
theorem zQ {k:Bool}{a b:List Stmt}(h1:k=true->SvS X α a E)(h2:k=false->SvS X α b E):SvS X α (if k=true then a else b) E:=by
 cases k with
 |true=>exact h1 rfl
 |false=>exact h2 rfl
theorem iV {i j:Int}:Cmp rEq (.int i) (.int j) (decide (i=j)):=fun p H vx vy R rx ry h=>by
 cases rx.int_inv;cases ry.int_inv;refine⟨rfl,?_⟩;rw[show decide (V.int i=V.int j)=decide (i=j) by simp];exact h
theorem zn8 {i j:Int}:Cmp rNe (.int i) (.int j) (!decide (i=j)):=fun p H vx vy R rx ry h=>by
 cases rx.int_inv;cases ry.int_inv;refine⟨rfl,?_⟩;rw[show decide (V.int i=V.int j)=decide (i=j) by simp];exact h
theorem iN {i j:Str}:Cmp rEq (.str i) (.str j) (decide (i=j)):=fun p H vx vy R rx ry h=>by
 cases rx.str_inv;cases ry.str_inv;refine⟨rfl,?_⟩;rw[show decide (V.str i=V.str j)=decide (i=j) by simp];exact h
theorem zD2 {op:CmpOp}{r:R2}(ho:OpR X (compareOp op) r)(hm:behindInMarks op b=false)(h:EvD X α a fun x=>EvD X α b fun y=>∃k,Cmp r x y k/\Q (.bool k)):EvD X α (.Compare a [op] [b] pos) Q:=fun F σ H R m k=>by
 refine⟨_,wk ho zl zl hm,?_⟩;refine h F σ H _ m fun x vx H1 q1 t1 k1 r1=>?_;have m1:=m.kz k1 t1;refine q1 F σ H1 _ m1 fun y vy H2 q2 t2 k2 r2=>?_;obtain⟨b,hc,q⟩:=q2;exact hc _ H2 vx vy _ (r1.same (k2.gz m1.tp)) r2 (k _ _ H2 q t2 (k1.trans k2) (.bl b))
theorem zx8 {Q:Bool->Prop}(h:EvD X α a fun x=>EvD X α b fun y=>∃i j,x=.int i/\y=.int j/\Q (decide (i=j))):EvT X α (.Compare a [.Eq] [b] pos) Q:=
 wY vo (zG _) (h.imp fun x h=>h.imp fun y ⟨i,j,e1,e2,q⟩=>⟨_,by subst e1 e2;exact iV,q⟩)
theorem zv9 {Q:Bool->Prop}(h:EvD X α a fun x=>EvD X α b fun y=>∃i j,x=.str i/\y=.str j/\Q (decide (i=j))):EvT X α (.Compare a [.Eq] [b] pos) Q:=
 wY vo (zG _) (h.imp fun x h=>h.imp fun y ⟨i,j,e1,e2,q⟩=>⟨_,by subst e1 e2;exact iN,q⟩)
theorem zi6 {p q:Bool}{Q:Bool->Prop}(ha:∀Q:Bool->Prop,Q p->EvT X α a Q)(hb:p=true->∀Q:Bool->Prop,Q q->EvW X α (.BoolOp .And (b::rest) pos) Q)(k:Q (p&&q)):EvW X α (.BoolOp .And (a::b::rest) pos) Q:=by
 refine aY (ha _ ?_);cases p with
 |true=>rw[if_pos rfl];exact hb rfl _ (by simpa using k)
 |false=>rw[if_neg (by decide)];simpa using k
theorem M.park {F:Fr}{σ:St}{H H1:Hp}{l:Addr}{o:HO}(m:M F α σ H)(k1:Kz F H H1)(t1:zN F H1)(hl:H l=none)(hl1:H1 l=some o)(no:vp o):M ⟨F.H0,fun x=>F.O0 x\/x=l,F.tp⟩ α σ H1:=by
 have m1:=m.kz k1 t1;have g0:zz (Gz F α σ H) (Gz ⟨F.H0,fun x=>F.O0 x\/x=l,F.tp⟩ α σ H1):=fun y o z=>by
  obtain⟨z1,z2⟩:=zj z;refine zE ?_ (k1 _ _ z2 (m.tp.nt (ow0 z1)));rintro ((w|w)|⟨i,a,s,e1,e2,f⟩)
  ·exact z1 (.inl w)
  ·rw[w,hl] at z2;cases z2
  ·exact z1 (.inr ⟨i,a,s,e1,e2,f⟩)
 refine⟨m.len,fun i a s e1 e2=>(m.ok i a s e1 e2).stay g0 (fun x o f e=>?_) rfl fun r q _ y=>?_,m.dj,m.xd,t1.to rfl fun _ z=>.inl z,fun y o z n=>m1.keep y o z n,fun y z=>?_⟩
 ·obtain⟨w1,w2,_⟩:=m.ft e1 e2 f;exact⟨k1 _ _ e (m.tp.nt w1),fun (w:F.O0 x\/x=l)=>w.elim w1 (fun w=>by rw[w,hl] at e;cases e),w2⟩
 ·have y':=y.kz k1 t1;exact⟨y'.tp,fun x z=>.inl (y'.o x z),y'.ok,y'.k⟩
 ·rcases z with z|z
  ·exact m1.oex y z
  ·exact⟨_,by rw[z];exact hl1,no⟩
end
structure NbT (mg:Str->Option Value):Prop where
 abs:mg "abs"=none
 list:mg "list"=none
 len:mg "len"=none
 range:mg "range"=none
 min:mg "min"=none
 max:mg "max"=none
 sorted:mg "sorted"=none
 isinstance:mg "isinstance"=none
 int:mg "int"=none
 bool:mg "bool"=none
 str:mg "str"=none
 tuple:mg "tuple"=none
 all:mg "all"=none
 any:mg "any"=none
 repr:mg "repr"=none
 zip:mg "zip"=none
 enumerate:mg "enumerate"=none
 reversed:mg "reversed"=none
 sum:mg "sum"=none
theorem wJ {X:Cx}{K:PySem.W.Frag}{es:List Expr}{k:Nat}{t:TGs}{n:Nat}{pos:Pos}(hK:X.K=K)(hc:X.calm=true)(h:PGs X es t)
  (hn:(assignEach es X.env).length=n:=by rfl) (hst:(assignEach es X.env).findIdx? (·.1)=none:=by rfl):PG X (.Tuple es k pos) (zA9 K n t):=by
 subst hK;exact zC9 hc h hn hst
end L2
namespace SortA
open PySem PySem.W PyProof.Rows
def run {α:Type}(lt:Nat->Nat->Bool):KasT α->α
 |.ret a=>a
 |.ask i j k=>run lt (k (lt i j))
theorem run_bind {α β:Type}(lt:Nat->Nat->Bool)(f:α->KasT β):∀t:KasT α,run lt (t.bind f)=run lt (f (run lt t))
 |.ret _=>rfl
 |.ask i j k=>run_bind lt f (k (lt i j))
structure Ord (lt:Nat->Nat->Bool):Prop where
 irr:∀a,lt a a=false
 tr:∀a b c,lt b a=false->lt c b=false->lt c a=false
 asy:∀a b,lt a b=true->lt b a=false
abbrev g (p:Array Nat)(i:Nat):Nat:=p.getD i 0
def Up (lt:Nat->Nat->Bool)(p:Array Nat)(m:Nat):Prop:=∀i j,i<=j->j<m->lt (g p j) (g p i)=false
def Down (lt:Nat->Nat->Bool)(p:Array Nat)(m:Nat):Prop:=∀i j,i<=j->j<m->lt (g p i) (g p j)=false
theorem cY {p q:Array Nat}{i j:Nat}(h:p[i]?=q[j]?):g p i=g q j:=by
 unfold g;rw[Array.getD_eq_getD_getElem?,Array.getD_eq_getD_getElem?,h]
variable {lt:Nat->Nat->Bool}
theorem Up.succ (O:Ord lt){p:Array Nat}{m:Nat}(h:Up lt p m)(hm:0<m)(e:lt (g p m) (g p (m-1))=false):Up lt p (m+1):=fun i j hij hj=>by
 by_cases e1:j<m
 ·exact h i j hij e1
 ·have ej:j=m:=by omega
  subst ej;by_cases e2:i=j
  ·subst e2;exact O.irr _
  ·exact O.tr _ _ _ (h i (j-1) (by omega) (by omega)) e
theorem Down.succ (O:Ord lt){p:Array Nat}{m:Nat}(h:Down lt p m)(hm:0<m)(e:lt (g p (m-1)) (g p m)=false):Down lt p (m+1):=fun i j hij hj=>by
 by_cases e1:j<m
 ·exact h i j hij e1
 ·have ej:j=m:=by omega
  subst ej;by_cases e2:i=j
  ·subst e2;exact O.irr _
  ·exact O.tr _ _ _ e (h i (j-1) (by omega) (by omega))
theorem zB7 (O:Ord lt)(p:Array Nat):Up lt p 1:=fun i j hij hj=>by
 have e1:i=0:=by omega
 have e2:j=0:=by omega
 rw[e1,e2];exact O.irr _
theorem jy (O:Ord lt)(p:Array Nat):∀(f n:Nat),0<n->Up lt p n->n<=run lt (kas_asc p f n)/\run lt (kas_asc p f n)<=n+f/\Up lt p (run lt (kas_asc p f n))/\
  (run lt (kas_asc p f n)<n+f->lt (g p (run lt (kas_asc p f n))) (g p (run lt (kas_asc p f n)-1))=true)
 |0,n,_,h=>⟨zP3 _,zP3 _,h,fun z=>absurd z (zU5 _)⟩
 |f+1,n,hn,h=>by
  show n<=run lt ((fun c=>if c=true then KasT.ret n else kas_asc p f (n+1)) (lt (p.getD n 0) (p.getD (n-1) 0)))/\_;cases e:lt (p.getD n 0) (p.getD (n-1) 0) with
  |true=>
   have er:run lt (kas_asc p (f+1) n)=n:=by
    show run lt ((fun c=>if c=true then KasT.ret n else kas_asc p f (n+1)) (lt (p.getD n 0) (p.getD (n-1) 0)))=n;rw[e];rfl
   rw[er];exact⟨zP3 _,by omega,h,fun _=>e⟩
  |false=>
   have er:run lt (kas_asc p (f+1) n)=run lt (kas_asc p f (n+1)):=by
    show run lt ((fun c=>if c=true then KasT.ret n else kas_asc p f (n+1)) (lt (p.getD n 0) (p.getD (n-1) 0)))=_;rw[e];rfl
   rw[er];obtain⟨a,b,c,d⟩:=jy O p f (n+1) (by omega) (h.succ O hn e);exact⟨by show n<=run lt (kas_asc p f (n+1));omega,by omega,c,fun z=>d (by omega)⟩
theorem tZ {p:Array Nat}{i j:Nat}(hj:j<=p.size)(k:Nat):g (kas_rev p i j) k=if i<=k/\k<j then g p (i+j-1-k) else g p k:=by
 have h:=getElem?_mirror_all (xs:=p) (i:=i) hj k;split
 ·rename_i c;rw[if_pos c] at h;exact cY h
 ·rename_i c;rw[if_neg c] at h;exact cY h
theorem xT (p:Array Nat)(i j:Nat):(kas_rev p i j).size=p.size:=mirror_size _ _ _ _
theorem yY (p:Array Nat)(i j:Nat):(kas_rev p i j).Perm p:=mirror_perm _ _ _ _
def Eqv (lt:Nat->Nat->Bool)(a b:Nat):Prop:=lt a b=false/\lt b a=false
theorem Down.eqv (O:Ord lt){p q:Array Nat}{n:Nat}(h:Down lt p n)(e:∀k,k<n->Eqv lt (g q k) (g p k)):Down lt q n:=fun i j hij hj=>
 O.tr _ _ _ (O.tr _ _ _ (e j hj).2 (h i j hij hj)) (e i (by omega)).1
def Last (lt:Nat->Nat->Bool)(p:Array Nat)(n q:Nat):Prop:=∀a b,n<=a+(q+1)->a<n->n<=b+(q+1)->b<n->lt (g p a) (g p b)=false
theorem rev_last (O:Ord lt){p:Array Nat}{n q:Nat}(hn:n<=p.size)(hq:q<n)(L:Last lt p n q):∀k,k<n->Eqv lt (g (kas_rev p (n-(q+1)) n) k) (g p k):=fun k hk=>by
 rw[tZ hn];split
 ·rename_i c;exact⟨L _ _ (by omega) (by omega) (by omega) hk,L _ _ (by omega) hk (by omega) (by omega)⟩
 ·exact⟨O.irr _,O.irr _⟩
theorem sP (O:Ord lt):∀(f:Nat) (p:Array Nat) (n q:Nat),q<n->n+f<=p.size->Down lt p n->Last lt p n q->
  ∃p' m q',run lt (kas_desc f p n q)=(p',m,q')/\n<=m/\m<=n+f/\p'.size=p.size/\p'.Perm p/\q'<m/\Down lt p' m/\Last lt p' m q'
 |0,p,n,q,hq,hs,h,L=>⟨p,n,q,rfl,zP3 _,zP3 _,rfl,z22 _,hq,h,L⟩
 |f+1,p,n,q,hq,hs,h,L=>by
  cases e:lt (p.getD n 0) (p.getD (n-1) 0) with
  |true=>
   by_cases hq0:q > 0
   ·have er:run lt (kas_desc (f+1) p n q)=run lt (kas_desc f (kas_rev p (n-(q+1)) n) (n+1) 0):=by
     show run lt ((fun c=>if c=true then (if q > 0 then kas_desc f (kas_rev p (n-(q+1)) n) (n+1) 0 else kas_desc f p (n+1) 0)
      else .ask (p.getD (n-1) 0) (p.getD n 0) fun d=>if d=true then .ret (p,n,q) else kas_desc f p (n+1) (q+1)) (lt (p.getD n 0) (p.getD (n-1) 0)))=_
     rw[e];show run lt (if q > 0 then _ else _)=_;rw[if_pos hq0]
    have ev:=rev_last O (by omega:n<=p.size) hq L;have h1:=h.eqv O ev;have hn:g (kas_rev p (n-(q+1)) n) n=g p n:=by rw[tZ (by omega),if_neg (by omega)]
    have h2:Down lt (kas_rev p (n-(q+1)) n) (n+1):=h1.succ O (by omega) (by
     rw[hn];exact O.tr _ _ _ (O.asy _ _ e) (ev (n-1) (by omega)).1)
    obtain⟨p',m,q',a,b,c,d1,d2,d3,d4,d5⟩:=sP O f (kas_rev p (n-(q+1)) n) (n+1) 0 (by omega) (by rw[xT];omega) h2 (fun a b h1 h2 h3 h4=>by
     have e1:a=n:=by omega
     have e2:b=n:=by omega
     rw[e1,e2];exact O.irr _)
    exact⟨p',m,q',er.trans a,by omega,by omega,by rw[d1,xT],d2.trans (yY _ _ _),d3,d4,d5⟩
   ·have er:run lt (kas_desc (f+1) p n q)=run lt (kas_desc f p (n+1) 0):=by
     show run lt ((fun c=>if c=true then (if q > 0 then kas_desc f (kas_rev p (n-(q+1)) n) (n+1) 0 else kas_desc f p (n+1) 0)
      else .ask (p.getD (n-1) 0) (p.getD n 0) fun d=>if d=true then .ret (p,n,q) else kas_desc f p (n+1) (q+1)) (lt (p.getD n 0) (p.getD (n-1) 0)))=_
     rw[e];show run lt (if q > 0 then _ else _)=_;rw[if_neg hq0]
    obtain⟨p',m,q',a,b,c,d1,d2,d3,d4,d5⟩:=sP O f p (n+1) 0 (by omega) (by omega) (h.succ O (by omega) (O.asy _ _ e)) (fun a b h1 h2 h3 h4=>by
     have e1:a=n:=by omega
     have e2:b=n:=by omega
     rw[e1,e2];exact O.irr _)
    exact⟨p',m,q',er.trans a,by omega,by omega,d1,d2,d3,d4,d5⟩
  |false=>
   cases e2:lt (p.getD (n-1) 0) (p.getD n 0) with
   |true=>
    have er:run lt (kas_desc (f+1) p n q)=(p,n,q):=by
     show run lt ((fun c=>if c=true then (if q > 0 then kas_desc f (kas_rev p (n-(q+1)) n) (n+1) 0 else kas_desc f p (n+1) 0)
      else .ask (p.getD (n-1) 0) (p.getD n 0) fun d=>if d=true then .ret (p,n,q) else kas_desc f p (n+1) (q+1)) (lt (p.getD n 0) (p.getD (n-1) 0)))=_
     rw[e];show run lt ((fun d=>if d=true then KasT.ret (p,n,q) else kas_desc f p (n+1) (q+1)) (lt (p.getD (n-1) 0) (p.getD n 0)))=_;rw[e2];rfl
    exact⟨p,n,q,er,zP3 _,by omega,rfl,z22 _,hq,h,L⟩
   |false=>
    have er:run lt (kas_desc (f+1) p n q)=run lt (kas_desc f p (n+1) (q+1)):=by
     show run lt ((fun c=>if c=true then (if q > 0 then kas_desc f (kas_rev p (n-(q+1)) n) (n+1) 0 else kas_desc f p (n+1) 0)
      else .ask (p.getD (n-1) 0) (p.getD n 0) fun d=>if d=true then .ret (p,n,q) else kas_desc f p (n+1) (q+1)) (lt (p.getD n 0) (p.getD (n-1) 0)))=_
     rw[e];show run lt ((fun d=>if d=true then KasT.ret (p,n,q) else kas_desc f p (n+1) (q+1)) (lt (p.getD (n-1) 0) (p.getD n 0)))=_;rw[e2];rfl
    have Ln:Last lt p (n+1) (q+1):=fun a b h1 h2 h3 h4=>by
     have two:∀a,n+1<=a+(q+1+1)->a<n+1->Eqv lt (g p a) (g p (n-1)):=fun a x1 x2=>by
      by_cases ea:a=n
      ·rw[ea];exact⟨e,e2⟩
      ·exact⟨L a (n-1) (by omega) (by omega) (by omega) (by omega),L (n-1) a (by omega) (by omega) (by omega) (by omega)⟩
     exact O.tr _ _ _ (two b h3 h4).2 (two a h1 h2).1
    obtain⟨p',m,q',a,b,c,d1,d2,d3,d4,d5⟩:=sP O f p (n+1) (q+1) (by omega) (by omega) (h.succ O (by omega) e2) Ln;exact⟨p',m,q',er.trans a,by omega,by omega,d1,d2,d3,d4,d5⟩
theorem zy9 {p:Array Nat}{n:Nat}(hn:n<=p.size)(h:Down lt p n):Up lt (kas_rev p 0 n) n:=fun i j hij hj=>by
 rw[tZ hn,tZ hn,if_pos (by omega),if_pos (by omega)];exact h _ _ (by omega) (by omega)
theorem my (O:Ord lt){p:Array Nat}{n nrem:Nat}(h0:0<n)(hn:n<=nrem)(hs:nrem<=p.size)(h:Down lt p n):
  ∃p' m,run lt (kas_tail3 n nrem p)=(m,p')/\1<=m/\m<=nrem/\p'.size=p.size/\p'.Perm p/\Up lt p' m:=by
 obtain⟨a,b,c,_⟩:=jy O (kas_rev p 0 n) (nrem-n) n h0 (zy9 (by omega) h);refine⟨kas_rev p 0 n,run lt (kas_asc (kas_rev p 0 n) (nrem-n) n),?_,by omega,by omega,xT _ _ _,yY _ _ _,c⟩;unfold kas_tail3;rw[run_bind];rfl
theorem sv (O:Ord lt){p:Array Nat}{n nrem:Nat}(h0:0<n)(hn:n+1<=nrem)(hs:nrem<=p.size)(h:Down lt p (n+1)):
  ∃p' m,run lt (kas_descPart n nrem p)=(m,p')/\1<=m/\m<=nrem/\p'.size=p.size/\p'.Perm p/\Up lt p' m:=by
 obtain⟨p1,m1,q1,e,a1,a2,a3,a4,a5,a6,a7⟩:=sP O (nrem-(n+1)) p (n+1) 0 (by omega) (by omega) h (fun a b h1 h2 h3 h4=>by
  have e1:a=n:=by omega
  have e2:b=n:=by omega
  rw[e1,e2];exact O.irr _)
 unfold kas_descPart;rw[run_bind,e];dsimp only;split
 ·obtain⟨p',m,b1,b2,b3,b4,b5,b6⟩:=my O (p:=kas_rev p1 (m1-(q1+1)) m1) (n:=m1) (nrem:=nrem) (by omega) (by omega) (by rw[xT];omega) (a6.eqv O (rev_last O (by omega) a5 a7));exact⟨p',m,b1,b2,b3,by rw[b4,xT,a3],(b5.trans (yY _ _ _)).trans a4,b6⟩
 ·obtain⟨p',m,b1,b2,b3,b4,b5,b6⟩:=my O (p:=p1) (n:=m1) (nrem:=nrem) (by omega) (by omega) (by omega) a6;exact⟨p',m,b1,b2,b3,by rw[b4,a3],b5.trans a4,b6⟩
theorem cM (O:Ord lt){p:Array Nat}{nrem:Nat}(h0:0<nrem)(hs:nrem<=p.size):
  ∃p' m,run lt (kas_count nrem p)=(m,p')/\1<=m/\m<=nrem/\p'.size=p.size/\p'.Perm p/\Up lt p' m:=by
 obtain⟨a,b,c,d⟩:=jy O p (nrem-1) 1 (by omega) (zB7 O p);unfold kas_count;rw[run_bind];generalize run lt (kas_asc p (nrem-1) 1)=n at a b c d;by_cases en:n=nrem
 ·rw[if_pos (by rw[en];simp)];exact⟨p,n,rfl,a,by omega,rfl,z22 _,c⟩
 ·rw[if_neg (by simpa using en)];have hd:=d (by omega);by_cases h1:n > 1
  ·rw[if_pos h1];cases e:lt (p.getD 0 0) (p.getD (n-1) 0) with
   |true=>
    refine⟨p,n,?_,a,by omega,rfl,z22 _,c⟩;show run lt ((fun c=>if c=true then KasT.ret (n,p) else kas_descPart n nrem (kas_rev p 0 n)) (lt (p.getD 0 0) (p.getD (n-1) 0)))=_;rw[e];rfl
   |false=>
    have all:∀k,k<n->Eqv lt (g p k) (g p 0):=fun k hk=>⟨c 0 k (by omega) hk,O.tr _ _ _ (c k (n-1) (by omega) (by omega)) e⟩;have hD:Down lt (kas_rev p 0 n) (n+1):=by
     have h2:Down lt (kas_rev p 0 n) n:=fun i j hij hj=>by
      rw[tZ (by omega),tZ (by omega),if_pos (by omega),if_pos (by omega)];exact O.tr _ _ _ (all _ (by omega)).2 (all _ (by omega)).1
     refine h2.succ O (by omega) ?_;rw[tZ (by omega),tZ (by omega),if_pos (by omega),if_neg (by omega)];have e0:lt (g p (n-1)) (g p n)=false:=O.asy _ _ hd;exact O.tr _ _ _ e0 (O.tr _ _ _ (all (n-1) (by omega)).2 (all _ (by omega)).1)
    obtain⟨p',m,b1,b2,b3,b4,b5,b6⟩:=sv O (p:=kas_rev p 0 n) (n:=n) (nrem:=nrem) (by omega) (by omega) (by rw[xT];omega) hD;refine⟨p',m,?_,b2,b3,by rw[b4,xT],b5.trans (yY _ _ _),b6⟩;rw[<-b1];show run lt ((fun c=>if c=true then KasT.ret (n,p) else kas_descPart n nrem (kas_rev p 0 n)) (lt (p.getD 0 0) (p.getD (n-1) 0)))=_;rw[e];rfl
  ·rw[if_neg h1];have e1:n=1:=by omega
   subst e1;refine sv O (by omega) (by omega) hs ?_;have d1:Down lt p 1:=fun i j hij hj=>by
    have e1:i=0:=by omega
    have e2:j=0:=by omega
    rw[e1,e2];exact O.irr _
   exact d1.succ O (by omega) (O.asy _ _ hd)
theorem qg (O:Ord lt){p:Array Nat}{k:Nat}(U:Up lt p k):∀(f l r:Nat),r<=l+f->l<=r->r<=k->(∀i,i<l->lt (g p k) (g p i)=false)->(∀i,r<=i->i<k->lt (g p k) (g p i)=true)->
  run lt (kas_place p k f l r)<=k/\(∀i,i<run lt (kas_place p k f l r)->lt (g p k) (g p i)=false)/\(∀i,run lt (kas_place p k f l r)<=i->i<k->lt (g p k) (g p i)=true)
 |0,l,r,h1,h2,h3,ha,hb=>by
  show l<=k/\_;exact⟨by omega,ha,fun i x y=>hb i (by have:l<=i:=x;omega) y⟩
 |f+1,l,r,h1,h2,h3,ha,hb=>by
  by_cases hlr:l≥r
  ·have er:run lt (kas_place p k (f+1) l r)=l:=by
    show run lt (if l≥r then _ else _)=_;rw[if_pos hlr];rfl
   rw[er];exact⟨by omega,ha,fun i x y=>hb i (by omega) y⟩
  ·cases e:lt (p.getD k 0) (p.getD ((l+r) / 2) 0) with
   |true=>
    have er:run lt (kas_place p k (f+1) l r)=run lt (kas_place p k f l ((l+r) / 2)):=by
     show run lt (if l≥r then _ else _)=_;rw[if_neg hlr];show run lt ((fun c=>if c=true then kas_place p k f l ((l+r) / 2) else kas_place p k f ((l+r) / 2+1) r) (lt (p.getD k 0) (p.getD ((l+r) / 2) 0)))=_;rw[e];rfl
    rw[er];refine qg O U f l ((l+r) / 2) (by omega) (by omega) (by omega) ha fun i x y=>?_;cases e3:lt (g p k) (g p i) with
    |true=>rfl
    |false=>
     have e4:lt (g p k) (g p ((l+r) / 2))=false:=O.tr _ _ _ (U ((l+r) / 2) i x y) e3;have e5:lt (g p k) (g p ((l+r) / 2))=true:=e;rw[e4] at e5;cases e5
   |false=>
    have er:run lt (kas_place p k (f+1) l r)=run lt (kas_place p k f ((l+r) / 2+1) r):=by
     show run lt (if l≥r then _ else _)=_;rw[if_neg hlr];show run lt ((fun c=>if c=true then kas_place p k f l ((l+r) / 2) else kas_place p k f ((l+r) / 2+1) r) (lt (p.getD k 0) (p.getD ((l+r) / 2) 0)))=_;rw[e];rfl
    rw[er];exact qg O U f ((l+r) / 2+1) r (by omega) (by omega) h3 (fun i hi=>O.tr _ _ _ (U i ((l+r) / 2) (by omega) (by omega)) e) hb
theorem gW (O:Ord lt){p:Array Nat}{k l:Nat}(hk:k<p.size)(hl:l<=k)(U:Up lt p k)(ha:∀i,i<l->lt (g p k) (g p i)=false)(hb:∀i,l<=i->i<k->lt (g p k) (g p i)=true):Up lt (bubble p k (k-l)) (k+1):=by
 have gb:∀i,g (bubble p k (k-l)) i=if i=l then g p k else if l<i/\i<=k then g p (i-1) else g p i:=fun i=>by
  have h:=getElem?_bubble hk (k-l) (by omega) i;have el:k-(k-l)=l:=by omega
  rw[el] at h;by_cases c:i=l
  ·rw[if_pos c] at h ⊢;exact cY h
  ·rw[if_neg c] at h ⊢;by_cases c2:l<i/\i<=k
   ·rw[if_pos c2] at h ⊢;exact cY h
   ·rw[if_neg c2] at h ⊢;exact cY h
 intro i j hij hj;have gl:g (bubble p k (k-l)) l=g p k:=by rw[gb,if_pos rfl]
 have gm:∀i,l<i->i<=k->g (bubble p k (k-l)) i=g p (i-1):=fun i x y=>by rw[gb,if_neg (by omega),if_pos ⟨x,y⟩]
 have gs:∀i,i<l->g (bubble p k (k-l)) i=g p i:=fun i x=>by rw[gb,if_neg (by omega),if_neg (by omega)]
 rcases Nat.lt_trichotomy i l with hi|hi|hi
 ·rw[gs i hi];rcases Nat.lt_trichotomy j l with h|h|h
  ·rw[gs j h];exact U _ _ (by omega) (by omega)
  ·rw[h,gl];exact ha i hi
  ·rw[gm j h (by omega)];exact U _ _ (by omega) (by omega)
 ·rw[hi,gl];rcases Nat.lt_trichotomy j l with h|h|h
  ·omega
  ·rw[h,gl];exact O.irr _
  ·rw[gm j h (by omega)];exact O.asy _ _ (hb (j-1) (by omega) (by omega))
 ·rw[gm i hi (by omega),gm j (by omega) (by omega)];exact U _ _ (by omega) (by omega)
theorem bN (O:Ord lt):∀(f:Nat) (p:Array Nat) (k:Nat),0<k->k+f<=p.size->Up lt p k->(run lt (kas_bin f p k)).size=p.size/\(run lt (kas_bin f p k)).Perm p/\Up lt (run lt (kas_bin f p k)) (k+f)
 |0,p,k,_,_,U=>⟨rfl,z22 _,U⟩
 |f+1,p,k,hk,hs,U=>by
  obtain⟨a,b,c⟩:=qg O U k 0 k (by omega) (by omega) (by omega) (fun i hi=>by omega) (fun i x y=>by omega);have er:run lt (kas_bin (f+1) p k)=run lt (kas_bin f (bubble p k (k-run lt (kas_place p k k 0 k))) (k+1)):=by
   show run lt ((kas_place p k k 0 k).bind _)=_;rw[run_bind]
  rw[er];obtain⟨x,y,z⟩:=bN O f (bubble p k (k-run lt (kas_place p k k 0 k))) (k+1) (by omega) (by rw[bubble_size];omega) (gW O (by omega) a U b c);have e:k+(f+1)=k+1+f:=by omega
  rw[e];exact⟨by rw[x,bubble_size],y.trans (bubble_perm _ _ _),z⟩
theorem zg2 (O:Ord lt){n:Nat}(h:0<n):(run lt (kas_sort n)).size=n/\(run lt (kas_sort n)).Perm (List.range n).toArray/\Up lt (run lt (kas_sort n)) n:=by
 obtain⟨p,m,e,a,b,c,d,u⟩:=cM O (p:=(List.range n).toArray) (nrem:=n) h (by simp);unfold kas_sort;rw[run_bind,e];dsimp only;have hs:p.size=n:=by rw[c];simp
 by_cases hm:m<n
 ·rw[if_pos hm];have em:max m 1=m:=by omega
  rw[em];obtain⟨x,y,z⟩:=bN O (n-m) p m (by omega) (by omega) u;refine⟨by rw[x,hs],y.trans d,?_⟩;have e:m+(n-m)=n:=by omega
  rw[e] at z;exact z
 ·rw[if_neg hm];have e:m=n:=by omega
  subst e;exact⟨hs,d,u⟩
end SortA
namespace SortA
open PySem PySem.W PyProof.Rows
def we {α:Type}(n:Nat)(P:α->Prop):KasT α->Prop
 |.ret a=>P a
 |.ask i j k=>i<n/\j<n/\∀b,we n P (k b)
theorem we.bind {α β:Type}{n:Nat}{P:α->Prop}{P':β->Prop}{f:α->KasT β}(h2:∀a,P a->we n P' (f a)):∀t:KasT α,we n P t->we n P' (t.bind f)
 |.ret a,h=>h2 a h
 |.ask i j k,⟨a,b,c⟩=>⟨a,b,fun x=>we.bind h2 (k x) (c x)⟩
def Bd (n:Nat)(p:Array Nat):Prop:=∀x∈p,x<n
theorem Bd.get {n:Nat}{p:Array Nat}(h:Bd n p)(hn:0<n)(i:Nat):p.getD i 0<n:=by
 by_cases hi:i<p.size
 ·have e:p.getD i 0=p[i]:=by simp[Array.getD,hi]
  rw[e];exact h _ (Array.getElem_mem hi)
 ·have e:p.getD i 0=0:=by simp[Array.getD,hi]
  rw[e];exact hn
theorem Bd.perm {n:Nat}{p q:Array Nat}(h:Bd n p)(e:q.Perm p):Bd n q:=fun x hx=>h x (e.mem_iff.mp hx)
theorem rO {n:Nat}{p:Array Nat}(B:Bd n p)(hn:0<n):∀f k,we n (fun _=>True) (kas_asc p f k)
 |0,_=>trivial
 |f+1,k=>⟨B.get hn _,B.get hn _,fun b=>by
  cases b with
  |true=>exact trivial
  |false=>exact rO B hn f (k+1)⟩
theorem vV {n:Nat}(hn:0<n):∀f (p:Array Nat) k q,Bd n p->we n (fun r:Array Nat×Nat×Nat=>Bd n r.1) (kas_desc f p k q)
 |0,_,_,_,B=>B
 |f+1,p,k,q,B=>⟨B.get hn _,B.get hn _,fun b=>by
  cases b with
  |true=>
   show we n _ (if q > 0 then _ else _);split
   ·exact vV hn f _ _ _ (B.perm (yY _ _ _))
   ·exact vV hn f _ _ _ B
  |false=>
   refine⟨B.get hn _,B.get hn _,fun b=>?_⟩;cases b with
   |true=>exact B
   |false=>exact vV hn f _ _ _ B⟩
theorem qh {n:Nat}{p:Array Nat}(B:Bd n p)(hn:0<n)(m r:Nat):we n (fun r:Nat×Array Nat=>Bd n r.2) (kas_tail3 m r p):=by
 unfold kas_tail3;refine we.bind (P:=fun _=>True) (fun a _=>?_) _ (rO (B.perm (yY _ _ _)) hn _ _);exact B.perm (yY _ _ _)
theorem uf {n:Nat}{p:Array Nat}(B:Bd n p)(hn:0<n)(m r:Nat):we n (fun r:Nat×Array Nat=>Bd n r.2) (kas_descPart m r p):=
 we.bind (fun a ha=>by
  split
  ·exact qh (Bd.perm ha (yY _ _ _)) hn _ _
  ·exact qh ha hn _ _) _ (vV hn _ _ _ _ B)
theorem jk {n:Nat}{p:Array Nat}(B:Bd n p)(hn:0<n)(r:Nat):we n (fun r:Nat×Array Nat=>Bd n r.2) (kas_count r p):=
 we.bind (fun a _=>by
  split
  ·exact B
  ·split
   ·refine⟨B.get hn _,B.get hn _,fun b=>?_⟩;cases b with
    |true=>exact B
    |false=>exact uf (B.perm (yY _ _ _)) hn _ _
   ·exact uf B hn _ _) _ (rO B hn _ _)
theorem ux {n:Nat}{p:Array Nat}(B:Bd n p)(hn:0<n)(k:Nat):∀f l r,we n (fun _=>True) (kas_place p k f l r)
 |0,_,_=>trivial
 |f+1,l,r=>by
  show we n _ (if l≥r then _ else _);split
  ·exact trivial
  ·refine⟨B.get hn _,B.get hn _,fun b=>?_⟩;cases b with
   |true=>exact ux B hn k f _ _
   |false=>exact ux B hn k f _ _
theorem nX {n:Nat}(hn:0<n):∀f (p:Array Nat) k,Bd n p->we n (fun _=>True) (kas_bin f p k)
 |0,_,_,_=>trivial
 |f+1,p,k,B=>we.bind (fun l _=>nX hn f _ _ (B.perm (bubble_perm _ _ _))) _ (ux B hn k _ _ _)
theorem gU {n:Nat}(hn:0<n):we n (fun _=>True) (kas_sort n):=
 we.bind (fun a ha=>by
  split
  ·exact nX hn _ _ _ ha
  ·exact trivial) _ (jk (fun x hx=>by simpa using hx) hn n)
theorem wp_run {α:Type}{n:Nat}{P:α->Prop}{cmp:Nat->Nat->(Bool->Shared->Prop)->Shared->Prop}{lt:Nat->Nat->Bool}{Q:α->Shared->Prop}{s:Shared}(hc:∀i j C,i<n->j<n->C (lt i j) s->cmp i j C s):
  ∀t:KasT α,we n P t->Q (run lt t) s->t.kasWp cmp Q s
 |.ret _,_,h=>h
 |.ask i j k,⟨a,b,c⟩,h=>hc i j _ a b (wp_run hc (k (lt i j)) (c _) h)
def lx (p q:Int×Int):Bool:=decide (p.1<q.1\/(p.1=q.1/\p.2<q.2))
def at2 (ps:List (Int×Int))(i:Nat):Int×Int:=ps.getD i (0,0)
theorem zy0 (ps:List (Int×Int)):Ord fun i j=>lx (at2 ps i) (at2 ps j) where
 irr:=fun a=>by simp[lx]
 tr:=fun a b c=>by
  unfold lx;generalize at2 ps a=x;generalize at2 ps b=y;generalize at2 ps c=z;simp only[z36];omega
 asy:=fun a b=>by
  unfold lx;generalize at2 ps a=x;generalize at2 ps b=y;simp only[z36,zS1];omega
theorem kJ (ps:List (Int×Int))(h:0<ps.length):∃ix:List Nat,run (fun i j=>lx (at2 ps i) (at2 ps j)) (kas_sort ps.length)=ix.toArray/\ix.length=ps.length/\(∀i∈ix,i<ps.length)/\(ix.map (at2 ps)).Perm ps/\(ix.map (at2 ps)).Pairwise (fun p q=>lx q p=false):=by
 obtain⟨a,b,c⟩:=zg2 (zy0 ps) h;generalize run (fun i j=>lx (at2 ps i) (at2 ps j)) (kas_sort ps.length)=r at a b c;have e:(List.range ps.length).map (at2 ps)=ps:=by
  apply List.ext_getElem
  ·simp
  ·intro i h1 h2;simp[at2,h2]
 have pl:r.toList.Perm (List.range ps.length):=by
  have:=Array.perm_iff_toList_perm.mp b;simpa using this
 refine⟨r.toList,by simp,by simpa using a,fun i hi=>by simpa using pl.mem_iff.mp hi,?_,?_⟩
 ·have:=pl.map (at2 ps);rw[e] at this;exact this
 ·rw[List.pairwise_map,z23];intro i j hi hj hij;have h1:j<r.size:=by simpa using hj
  have:=c i j (by omega) (by rw[<-a];exact h1);have ei:g r i=r.toList[i]:=by
   have:i<r.size:=by omega
   simp[g,Array.getD,this]
  have ej:g r j=r.toList[j]:=by simp[g,Array.getD,h1]
  rw[ei,ej] at this;exact this
end SortA
namespace L2
open PySem PySem.Spec PySem.Calls PySem.W PyProof.Rows SortA
section
variable {prog:Program}{w:World}{A:Around}{E:Value->Shared->Prop}{s:Shared}
def Prs (h:Heap):List Value->List (Int×Int)->Prop
 |[],[]=>True
 |v::vs,p::ps=>(∃a o t u n,v=.ref a/\h.get? a=some o/\o.cls=.type "tuple"/\o.data=.seq #[.int p.1 t,.int p.2 u] n)/\Prs h vs ps
 |_,_=>False
theorem Prs.len {h:Heap}:∀{vs:List Value} {ps:List (Int×Int)},Prs h vs ps->vs.length=ps.length
 |[],[],_=>rfl
 |[],_::_,h=>h.elim
 |_::_,[],h=>h.elim
 |_::_,_::_,⟨_,h⟩=>by simp[Prs.len h]
theorem Prs.at {h:Heap}:∀{vs:List Value} {ps:List (Int×Int)} (i:Nat),Prs h vs ps->i<ps.length->∃a o t u n,vs.getD i Value.none=.ref a/\h.get? a=some o/\o.cls=.type "tuple"/\o.data=.seq #[.int (at2 ps i).1 t,.int (at2 ps i).2 u] n
 |[],[],_,_,hi=>by simp at hi
 |[],_::_,_,h,_=>h.elim
 |_::_,[],_,h,_=>h.elim
 |_::_,_::_,0,⟨x,_⟩,_=>x
 |_::_,_::_,i+1,⟨_,r⟩,hi=>by
  obtain⟨a,o,t,u,n,e,q⟩:=Prs.at i r (by simpa using hi);exact⟨a,o,t,u,n,by simpa using e,q⟩
theorem Prs.tups {h:Heap}:∀{vs:List Value} {ps:List (Int×Int)},Prs h vs ps->∃fs:List Value,KatTups h vs fs/\fs.length=ps.length/\∀v∈fs,∃i t,v=.int i t
 |[],[],_=>⟨[],trivial,rfl,fun _ h=>by simp at h⟩
 |[],_::_,h=>h.elim
 |_::_,[],h=>h.elim
 |_::_,p::_,⟨⟨a,o,t,u,n,e,ho,hc,hd⟩,r⟩=>by
  obtain⟨fs,x,y,z⟩:=Prs.tups r;subst e;refine⟨.int p.1 t::fs,KatTups.cons ho hc hd (by simp) x,by simp[y],fun v hv=>?_⟩;rcases zP2.mp hv with rfl|hv
  ·exact⟨_,_,rfl⟩
  ·exact z v hv
theorem dG {a b:Addr}{oa ob:Obj}{p q:Int×Int}{t u t' u':Tok}{n k:Nat}{Q:Bool->Shared->Prop}(ha:s.heap.get? a=some oa)(da:oa.data=.seq #[.int p.1 t,.int p.2 u] n)(hb:s.heap.get? b=some ob)(db:ob.data=.seq #[.int q.1 t',.int q.2 u'] k)
  (h:Q (lx p q) s):wpAny (model prog w) A (keyLt' (tuples' true) (.ref a) (.ref b)) Q E s:=by
 refine kat_lt ha da hb db (kat_cons (wpAny_eqBool_int ?_));by_cases e:p.1=q.1
 ·have e1:(p.1 == q.1)=true:=by simp[e]
  rw[e1];refine kat_yes (kat_cons (wpAny_eqBool_int ?_));by_cases e2:p.2=q.2
  ·have e3:(p.2 == q.2)=true:=by simp[e2]
   rw[e3];refine kat_yes (kat_nil ?_);have:lx p q=false:=by simp[lx,e,e2]
   rw[this] at h;simpa using h
  ·have e3:(p.2 == q.2)=false:=by simp[e2]
   rw[e3];refine kat_no (kat_one _ _ (wpAny_lt_int ?_));have:lx p q=decide (p.2<q.2):=by simp[lx,e]
   rw[this] at h;exact h
 ·have e1:(p.1 == q.1)=false:=by simp[e]
  rw[e1];refine kat_no (oneLt_int ?_);have:lx p q=decide (p.1<q.1):=by simp[lx,e]
  rw[this] at h;exact h
theorem jR {vs:List Value}{ps:List (Int×Int)}(h2:2<=vs.length)(P:Prs s.heap vs ps){R:Array Nat->Shared->Prop}(hr:∀ix:List Nat,ix.length=ps.length->(∀i∈ix,i<ps.length)->(ix.map (at2 ps)).Perm ps->(ix.map (at2 ps)).Pairwise (fun p q=>lx q p=false)->R ix.toArray s):
  wpAny (model prog w) A (keyKind' vs.toArray) (fun κ s'=>(kas_sort vs.length).kasWp (kas_ask prog w A κ vs) R s') (fun _ _=>False) s:=by
 obtain⟨fs,t,hl,hi⟩:=P.tups;have hlen:=P.len;refine kat_kind (T:=.type "int") t (by omega) (fun v hv=>?_) (by decide) ?_
 ·obtain⟨i,t,rfl⟩:=hi v hv;exact .now
 ·have e:(Value.type "int" != Value.type "tuple")=true:=by decide
  rw[e];obtain⟨ix,e1,e2,e3,e4,e5⟩:=kJ ps (by omega);rw[hlen];refine wp_run (n:=ps.length) (P:=fun _=>True) (lt:=fun i j=>lx (at2 ps i) (at2 ps j)) (fun i j C hi hj hC=>?_) _ (gU (by omega)) ?_
  ·obtain⟨a,o,t,u,n,ea,ha,_,da⟩:=P.at i hi;obtain⟨b,o',t',u',n',eb,hb,_,db⟩:=P.at j hj;unfold kas_ask;rw[ea,eb];exact dG ha da hb db hC
  ·rw[e1];exact hr ix e2 e3 e4 e5
def Srt (vs:List Value)(ps:List (Int×Int))(out:List Value):Prop:=
 ∃ix:List Nat,out=ix.map (fun i=>vs.getD i Value.none)/\ix.length=ps.length/\(∀i∈ix,i<ps.length)/\(ix.map (at2 ps)).Perm ps/\(ix.map (at2 ps)).Pairwise (fun p q=>lx q p=false)
theorem Srt.len {vs:List Value}{ps:List (Int×Int)}{out:List Value}(h:Srt vs ps out):out.length=ps.length:=by
 obtain⟨ix,rfl,e,_⟩:=h;simp[e]
end
inductive PrV (H:Hp):List V->List (Int×Int)->Prop where
 |nil:PrV H [] []
 |cons {a:Addr} {xs:List V} {p:Int×Int} {ps:List (Int×Int)}:H a=some (.tup [.int p.1,.int p.2])->PrV H xs ps->PrV H (.ref a::xs) (p::ps)
section
variable {X:Cx}{pins:List (Addr×Obj)}{σ:St}{H H':Hp}{s:Shared}
theorem PrV.len {xs:List V}{ps:List (Int×Int)}(h:PrV H xs ps):xs.length=ps.length:=by
 induction h with
 |nil=>rfl
 |cons _ _ ih=>simp[ih]
theorem PrV.keep {xs:List V}{ps:List (Int×Int)}(k:∀a p q,H a=some (.tup [.int p,.int q])->H' a=some (.tup [.int p,.int q]))(h:PrV H xs ps):PrV H' xs ps:=by
 induction h with
 |nil=>exact .nil
 |cons e _ ih=>exact .cons (k _ _ _ e) ih
theorem PrV.app {xs ys:List V}{ps qs:List (Int×Int)}(h:PrV H xs ps)(h':PrV H ys qs):PrV H (xs++ys) (ps++qs):=by
 induction h with
 |nil=>exact h'
 |cons e _ ih=>exact .cons e ih
theorem PrV.prs (I:Inv X pins σ H s):∀{xs:List V} {ps:List (Int×Int)} {us:List Value},PrV H xs ps->Vals xs us->Prs s.heap us ps:=by
 intro xs ps us h
 induction h generalizing us with
 |nil=>intro r;cases r;exact trivial
 |@cons a xs p ps e _ ih=>
  intro r;cases r with
  |cons r rr=>
   cases (show _=Value.ref a from r);obtain⟨_,its,vi,o,ho,hc,n,hd⟩:=(show zM X.prog X.w H s.heap a (.tup [.int p.1,.int p.2]) from I.hok a _ e);obtain⟨u,v,rfl,⟨t,rfl⟩,⟨t',rfl⟩⟩:=Vals.two vi;exact⟨⟨a,o,t,t',n,rfl,ho,hc,hd⟩,ih rr⟩
theorem lj {xs:List V}{us:List Value}(r:Vals xs us):∀i x,xs[i]?=some x->RelV x (us.getD i Value.none):=by
 induction r with
 |nil=>intro i x h;simp at h
 |cons e _ ih=>
  intro i x h;cases i with
  |zero=>have h':=zR7 (by simpa using h);subst h';exact e
  |succ i=>exact ih i x (by simpa using h)
end
end L2
namespace Days
end Days
namespace L2
open PySem PySem.Spec PyProof.Rows Days
section
variable {X:Cx}{α:Ev}{e a b c tg:Expr}{pos p:Pos}{Q:PyData->Prop}{E:xJ}{sts:List Stmt}
theorem zl3 {pat:Pat}(hg:PG X tg (oY X.K pat))(h:EvD X α e fun d=>∃α1,pat.bind d α=some α1/\SvS X α1 sts E)
  (hs:swapsWithSole [tg] e pos.line X.env=pure false:=by rfl) (hw:swappedStores [tg] e X.env=pure none:=by rfl) (h1:(assignEach [tg] X.env).map (·.2)=[assign tg X.env]:=by rfl):SvS X α (.Assign [tg] e pos::sts) E:=fun F σ H D m r=>by
 refine⟨_,zJ (oC zl hg hs hw h1) ya,?_⟩;refine h F σ H _ m fun d v H1 q1 t1 k1 r1=>?_;obtain⟨α1,eb,q⟩:=q1;exact oZ eb (m.kz k1 t1) r1 fun σ' m'=>q F σ' H1 D m' r
end
theorem ar (ds:List PyData):ds.filter (fun _=>true)=ds:=List.filter_eq_self.mpr fun _ _=>rfl
section
variable {X:Cx}{α:Ev}{tg:Expr}{pos p:Pos}{E:xJ}{sts body:List Stmt}
end
def isNone :PyData->Bool
 |.none=>true
 |_=>false
theorem DV.non_iff {H:Hp}{x:V}{d:PyData}(h:DV H x d):decide (x=.non)=isNone d:=by
 cases h<;>simp[isNone]
abbrev eqS (d:PyData)(s:Str):Bool:=PyData.eqv d (.str s)
abbrev vC :PyData->Bool:=yo 0 1000000000000
def uG :PyData->Bool
 |.tuple [.int m,f]=>yo 2 14 (.int m)&&yo 1 (m-1) f
 |_=>false
def zD (w v:PyData):Bool:=
 if eqS w "price"=true then isNone v||vC v
 else if (eqS w "come"||eqS w "go")=true then isBool v
 else if (eqS w "least"||eqS w "most")=true then yo 1 14 v
 else if eqS w "deal"=true then isNone v||uG v
 else eqS w "fee"&&vC v
def xi :PyData->Bool
 |.tuple [w,a,b,v]=>yv (.tuple [a,b])&&zD w v
 |_=>false
abbrev words :List Str:=["price","come","go","least","most","deal","fee"]
theorem jc {x:Str}(h:(PyData.str x).canLay0=true):SeqAt.shaped (.str x)=true:=by
 unfold SeqAt.shaped;rw[h];rfl
def iC :Sp:=fun vs H Q _=>∃x y dw dv,vs=[x,y]/\DV H x dw/\SeqAt.shaped dw=true/\DV H y dv/\Q (.bl (zD dw dv)) H
def aw :Sp:=fun vs H Q _=>∃x d,vs=[x]/\DV H x d/\SeqAt.shaped d=true/\∀H',zz H H'->Q (.bl (xi d)) H'
theorem nG {ds:List PyData}(h:SeqAt.shaped (.tuple ds)=true):∀d∈ds,SeqAt.shaped d=true:=by
 unfold SeqAt.shaped at h;rw[zR3,zS1] at h;obtain⟨h1,h2⟩:=h;simp only[PyData.canLay0] at h1;simp only[PyData.depth] at h2;have key:∀(ds:List PyData),PyData.canLayAll0 ds=true->PyData.depthAll ds+1<=64->∀d∈ds,SeqAt.shaped d=true:=by
  intro ds
  induction ds with
  |nil=>intro _ _ d hd;simp at hd
  |cons e r ih=>
   intro a b d hd;simp only[PyData.canLayAll0,zR3] at a;simp only[PyData.depthAll] at b;rcases zP2.mp hd with z|z
   ·subst z;unfold SeqAt.shaped;rw[a.1,zR1,zS1];omega
   ·exact ih a.2 (by omega) d z
 exact key ds h1 (by omega)
def sC (x y z:V):List (Str×V):=wa "worth" z (wa "last" y (wa "first" x []))
theorem ao :¬(("worth":Str)="last"):=by decide +kernel
theorem zc6 :¬(("worth":Str)="first"):=by decide +kernel
theorem ze2 :¬(("last":Str)="first"):=by decide +kernel
theorem jx (x y z:V):(sC x y z).lookup ("first":Str)=some x:=by
 unfold sC;rw[yH,if_neg (fun e=>zc6 e.symm),yH,if_neg (fun e=>ze2 e.symm),yH,if_pos rfl]
theorem eQ (x y z:V):(sC x y z).lookup ("last":Str)=some y:=by
 unfold sC;rw[yH,if_neg (fun e=>ao e.symm),yH,if_pos rfl]
structure Cs where
 price:Addr
 come:Addr
 go:Addr
 least:Addr
 most:Addr
 deal:Addr
 fee:Addr
def Cs.of (c:Cs)(w:Str):Addr:=
 if w="price" then c.price else if w="come" then c.come else if w="go" then c.go else if w="least" then c.least else if w="most" then c.most else if w="deal" then c.deal else c.fee
structure wU (K:PySem.W.Frag)(C fI fT fE fW:Addr):Prop where
 cl:Cls K C
 nf:yR K C "first"
 nl:yR K C "last"
 nw:yR K C "worth"
 makes:Mk K C fI
 told:Meth K C "told" fT
 tells:Meth K C "tells" fE
 word:Meth K C "word" fW
def zv6 (C:Addr):Sp:=fun vs H Q _=>∃(p dx:Addr) (x y z:V),vs=[.ref p,x,y,z]/\H p=some (.ins C dx [])/\Q .non (upd H p (.ins C dx (sC x y z)))
def vK (w:Str):Sp:=fun vs H Q _=>∃p,vs=[.ref p]/\Q (.str w) H
def gc (C:Addr):Sp:=fun vs H Q _=>∃(p dx:Addr) (a b day:Int) (z:V),vs=[.ref p,.int day]/\H p=some (.ins C dx (sC (.int a) (.int b) z))/\Q (.bl (decide (a<=day)&&decide (day<=b))) H
def za7 (cs:Cs):Sp:=fun vs H Q _=>∃(w:Str) (x y z:V),vs=[.str w,x,y,z]/\w∈words/\∀(p dx:Addr) (H':Hp),H' p=some (.ins (cs.of w) dx (sC x y z))->H p=none->zz H H'->Q (.ref p) H'
def mY (cs:Cs):Sp:=fun vs H Q _=>∃x d,vs=[x]/\DV H x d/\SeqAt.shaped d=true/\(xi d=false->∀H',zz H H'->Q .non H')/\
 (∀(r:Addr) (w:Str) (x1 x2 x3:V) (p dx:Addr) (H':Hp),x=.ref r->xi d=true->w∈words->H r=some (.tup [.str w,x1,x2,x3])->H' p=some (.ins (cs.of w) dx (sC x1 x2 x3))->H p=none->zz H H'->Q (.ref p) H')
theorem vd {d:PyData}{s:Str}(h:eqS d s=true):d=.str s:=by
 cases d with
 |str x=>
  have h':(x == s)=true:=h;rw[eq_of_beq h']
 |_=>simp[PyData.eqv] at h
theorem mP {w v:PyData}(h:zD w v=true):∃s∈words,w=.str s:=by
 unfold zD at h;split at h
 ·rename_i e;exact⟨"price",by simp[words],vd e⟩
 ·split at h
  ·rename_i e;rcases (zX0 _ _).mp e with e|e
   ·exact⟨"come",by simp[words],vd e⟩
   ·exact⟨"go",by simp[words],vd e⟩
  ·split at h
   ·rename_i e;rcases (zX0 _ _).mp e with e|e
    ·exact⟨"least",by simp[words],vd e⟩
    ·exact⟨"most",by simp[words],vd e⟩
   ·split at h
    ·rename_i e;exact⟨"deal",by simp[words],vd e⟩
    ·rw[zR3] at h;exact⟨"fee",by simp[words],vd h.1⟩
theorem wg {d:PyData}(h:xi d=true):∃(s:Str) (a b v:PyData),s∈words/\d=.tuple [.str s,a,b,v]:=by
 unfold xi at h;split at h
 ·rename_i w a b v;rw[zR3] at h;obtain⟨s,hs,rfl⟩:=mP h.2;exact⟨s,a,b,v,hs,rfl⟩
 ·cases h
section
variable {X:Cx}
end
abbrev tQ (C:Addr)(fs:List (PyData×PyData)):PyData:=.dict ((.int (C:Nat),.none)::fs)
def qP :List (PyData×PyData)->Str->Option PyData
 |[],_=>none
 |(.str g,d)::r,f=>if f=g then some d else qP r f
 |_::r,f=>qP r f
theorem AVf.get {H:Hp}:∀{fs:List (Str×V)} {ds:List (PyData×PyData)} {f:Str} {d:PyData},AVf H fs ds->qP ds f=some d->∃v,fs.lookup f=some v/\AV H v d
 |_,_,f,d,.nil,e=>by cases e
 |_,_,f,d,.cons (f:=g) h r,e=>by
  rw[zT7];unfold qP at e;by_cases z:f=g
  ·subst z;rw[if_pos rfl] at e;cases e;exact⟨_,by simp,h⟩
  ·rw[if_neg z] at e;have z':(f == g)=false:=by simpa using z
   rw[z'];exact AVf.get r e
theorem AVf.none {H:Hp}:∀{fs:List (Str×V)} {ds:List (PyData×PyData)} {f:Str},AVf H fs ds->qP ds f=Option.none->fs.lookup f=Option.none
 |_,_,f,.nil,e=>rfl
 |_,_,f,.cons (f:=g) h r,e=>by
  rw[zT7];unfold qP at e;by_cases z:f=g
  ·subst z;rw[if_pos rfl] at e;cases e
  ·rw[if_neg z] at e;have z':(f == g)=false:=by simpa using z
   rw[z'];exact AVf.none r e
theorem AV.ins_inv {H:Hp}{v:V}{C:Addr}{ds:List (PyData×PyData)}(h:AV H v (tQ C ds)):∃a dx fs,v=.ref a/\H a=some (.ins C dx fs)/\AVf H fs ds:=by
 generalize e:tQ C ds=d at h;cases h with
 |@ins a C' dx fs ds' h1 h2=>
  injection e with e;injection e with e1 e2;have e3:(C:Int)=(C':Int):=by
   have:=congrArg Prod.fst e1;injection this
  have e4:C=C':=Int.ofNat.inj e3;subst e4 e2;exact⟨a,dx,fs,rfl,h1,h2⟩
 |_=>cases e
section
variable {X:Cx}{α:Ev}{o e:Expr}{es:List Expr}{pos apos p:Pos}{Q:PyData->Prop}{C:Addr}{f m:Str}
theorem aO (c:Cls X.K C)(na:yR X.K C f)(h:EvD X α o fun x=>∃fs d,x=tQ C fs/\qP fs f=some d/\Q d)(hb:attributeBase o f X.env (eval o X.env)=eval o X.env:=by rfl):EvD X α (.Attribute o f pos) Q:=fun F σ H R m k=>by
 refine⟨_,ko zl hb,?_⟩;refine h F σ H _ m fun x vx H1 q1 t1 k1 r1=>?_;obtain⟨fs,d,rfl,hf,q⟩:=q1;obtain⟨a,dx,gs,rfl,h1,h2⟩:=r1.ins_inv;obtain⟨v,hv,av⟩:=h2.get hf;exact⟨a,C,dx,gs,v,rfl,(zj h1).2,c,na,hv,k d v H1 q t1 k1 av⟩
structure sE (P:Program)(w:World)(K:PySem.W.Frag)(mg:Str->Option Value)(base:Heap)(C:Addr)(m:Str)(k:Nat)(φ:List A->(A->Prop)->Prop):Prop where
 ex:∃f fd ps,Cls K C/\Meth K C m f/\Binds K fd ps []/\zC P w K mg base CX0 k f fd ps (spA φ)
theorem xM {k:Nat}{φ:List A->(A->Prop)->Prop}{pl:Sem Bool}(M':sE X.prog X.w X.K X.mg X.base C m k φ)(hr:zV k X.A)(h:EvD X α o fun x=>∃fs,x=tQ C fs/\qP fs m=none/\EvA X α (e::es) fun as=>φ (.dat (tQ C fs)::as) fun a=>Q a.d)
  (hst:starEach (e::es) X.env=(false,eval e X.env)::starEach es X.env:=by rfl) (hpl:(backTo pos (starEach es X.env)).any (·.1)=false:=by rfl)
  (ht:eval (.Call (.Attribute o m apos) (e::es) [] pos) X.env=(do
   let ov <-eval o X.env
   standAt apos.atName
   let (f,first) <-holding [ov] (getMethod ov m pl)
   callWith pos f first (backTo pos (starEach (e::es) X.env)) (backToKw pos (keywordEach [] X.env))):=by rfl):EvD X α (.Call (.Attribute o m apos) (e::es) [] pos) Q:=fun F σ H R m' kk=>by
 obtain⟨f,fd,ps,c,hm,hb,G⟩:=M'.ex;refine⟨_,zm6 zl c hm G hr hb .nil yk yN hst hpl ht,?_⟩;refine h F σ H _ m' fun x vx H1 q1 t1 k1 r1=>?_;obtain⟨fs,rfl,hf,q⟩:=q1;have m1:=m'.kz k1 t1;obtain⟨a,dx,gs,rfl,h1,h2⟩:=r1.ins_inv;refine⟨a,dx,gs,rfl,(zj h1).2,h2.none hf,?_⟩;refine q F σ H1 _ m1 fun as vs H2 q2 t2 k2 r2=>?_;have m2:=m1.kz k2 t2;have cf:=vf (vs:=.ref a::vs) (as:=.dat (tQ C fs)::as) (R:=R) (E:=E0) m2 (.cons (r1.same (k2.gz m1.tp)) r2) q2 fun z v H' qa ra=>by
  obtain⟨g1,g2,g3⟩:=ra.back m2;exact kk _ v H' qa g1 ((k1.trans k2).trans g2) g3
 exact cf
theorem zb5 {k:Nat}{φ:List A->(A->Prop)->Prop}{pl:Sem Bool}(M':sE X.prog X.w X.K X.mg X.base C m k φ)(hr:zV k X.A)(h:EvD X α o fun x=>∃fs,x=tQ C fs/\qP fs m=none/\φ [.dat (tQ C fs)] fun a=>Q a.d)
  (ht:eval (.Call (.Attribute o m apos) [] [] pos) X.env=(do
   let ov <-eval o X.env
   standAt apos.atName
   let (f,first) <-holding [ov] (getMethod ov m pl)
   callWith pos f first (backTo pos (starEach [] X.env)) (backToKw pos (keywordEach [] X.env))):=by rfl):EvD X α (.Call (.Attribute o m apos) [] [] pos) Q:=fun F σ H R m' kk=>by
 obtain⟨f,fd,ps,c,hm,hb,G⟩:=M'.ex;refine⟨_,zb0 zl c hm G hr hb .nil yk ht,?_⟩;refine h F σ H _ m' fun x vx H1 q1 t1 k1 r1=>?_;obtain⟨fs,rfl,hf,q⟩:=q1;have m1:=m'.kz k1 t1;obtain⟨a,dx,gs,rfl,h1,h2⟩:=r1.ins_inv;refine⟨a,dx,gs,rfl,(zj h1).2,h2.none hf,?_⟩;have cf:=vf (vs:=[.ref a]) (as:=[.dat (tQ C fs)]) (R:=R) (E:=E0) m1 (.cons r1 .nil) q fun z v H' qa ra=>by
  obtain⟨g1,g2,g3⟩:=ra.back m1;exact kk _ v H' qa g1 (k1.trans g2) g3
 exact cf
def zp4 (F:Fr)(v:V)(H':Hp)(d:PyData):Prop:=zN F H'/\Kz F F.H0 H'/\AV (sub (fun x=>¬F.O0 x/\∀xs,F.H0 x≠some (.lst xs)) H') v d
def EvN (X:Cx)(α:Ev)(e:Expr)(Q:PyData->Prop):Prop:=∀(F:Fr) (σ:St) (H:Hp) (R:VK),M F α σ H->(∀d v H',Q d->zN F H'->Kz F H H'->AV (sub (fun x=>¬Ow F α σ x/\∀xs,H x≠some (.lst xs)) H') v d->R v H')->uK X e σ H R
theorem EvN.d (h:EvN X α e Q):EvD X α e Q:=fun F σ H R m k=>h F σ H R m fun d v H' q t z r=>k d v H' q t z (r.same (zw fun a o h e=>⟨h.1,e⟩))
def spI (C:Addr)(φ:List A->(A->Prop)->Prop):Sp:=fun vs H Qc _=>∃(F:Fr) (as:List A) (Q:A->Prop) (x dx:Addr) (vs':List V) (H1:Hp),vs=.ref x::vs'/\H1 x=none/\H1 dx=none/\dx≠x/\H=upd (upd H1 dx (.own x)) x (.ins C dx [])/\
 F.H0=H1/\zN F H1/\(∀y,F.O0 y->∃u,H1 y=some u/\vp u)/\yr F (sub (fun y=>¬F.O0 y) H1) vs' as/\φ as Q/\∀d H',Q (.dat d)->zp4 F (.ref x) H' d->Qc .non H'
structure zb1 (P:Program)(w:World)(K:PySem.W.Frag)(mg:Str->Option Value)(base:Heap)(x:Str)(k:Nat)(dvs:List V)(φ:List A->(A->Prop)->Prop):Prop where
 ex:∃C f fd ps ds,mg x=some (.ref C)/\Mk K C f/\Binds K fd ps ds/\Vals dvs ds/\zC P w K mg base CX0 k f fd ps (spI C φ)
theorem kn {F:Fr}{σ:St}{H:Hp}{vs:List V}{as:List A}{QA:A->Prop}{R:VK}{φ:List A->(A->Prop)->Prop}(m:M F α σ H)(rv:yr F (Gz F α σ H) vs as)(hφ:φ as QA)
  (kk:∀d v H',QA (.dat d)->zp4 ⟨H,Ow F α σ,F.tp⟩ v H' d->R v H') {E:XK} (x dx:Addr) (hx:H x=none) (hdx:H dx=none) (hne:dx≠x):spI C φ (.ref x::vs) (upd (upd H dx (.own x)) x (.ins C dx [])) (fun v H2=>v=.non/\R (.ref x) H2) E:=by
 refine⟨⟨H,Ow F α σ,F.tp⟩,as,QA,x,dx,vs,H,rfl,hx,hdx,hne,rfl,rfl,?_,?_,?_,hφ,fun d H' qa ra=>⟨rfl,kk d _ H' qa ra⟩⟩
 ·exact m.tp.to rfl fun _ z=>.inl z
 ·exact fun y z=>m.owEx z
 ·exact yr.to (F:=F) (F':=⟨H,Ow F α σ,F.tp⟩) (fun _ _ e=>e) rfl rv
theorem zp4.back {F:Fr}{σ:St}{H H1 H':Hp}{v:V}{d:PyData}(m:M F α σ H)(k1:Kz F H H1)(h:zp4 ⟨H1,Ow F α σ,F.tp⟩ v H' d):zN F H'/\Kz F H1 H'/\AV (sub (fun x=>¬Ow F α σ x/\∀xs,H x≠some (.lst xs)) H') v d:=by
 obtain⟨t,kz,r⟩:=h;refine⟨m.tp.re t rfl,kz,r.same (zw fun a o h e=>⟨⟨h.1,fun xs z=>h.2 xs (k1 _ _ z (m.tp.nt (ow0 h.1)))⟩,e⟩)⟩
theorem zn0 {k:Nat}{φ:List A->(A->Prop)->Prop}{x:Str}(M':zb1 X.prog X.w X.K X.mg X.base x k [] φ)(hr:zV (k+1) X.A)(hg:Gl X x)(h:EvA X α (e::es) fun as=>φ as fun a=>Q a.d)
  (hdb:(x == ("__debug__":Str))=false:=by decide) (he:starEach (e::es) X.env=(false,eval e X.env)::starEach es X.env:=by rfl) (hpl:(backTo pos (starEach es X.env)).any (·.1)=false:=by rfl):EvN X α (.Call (.Name x p) (e::es) [] pos) Q:=fun F σ H R m kk=>by
 obtain⟨C,f,fd,ps,ds,hm,hk,hb,hd,G⟩:=M'.ex;cases hd;refine⟨_,wq hk G hr hg hm hb .nil yk yN hdb he hpl,?_⟩;refine h F σ H _ m fun as vs H1 q1 t1 k1 r1=>?_;have m1:=m.kz k1 t1;intro y dx hy hdx hne;rw[zV1];refine kn m1 r1 q1 (fun d v H' qa ra=>?_) y dx hy hdx hne;obtain⟨g1,g2,g3⟩:=ra.back m k1;exact kk d v H' qa g1 (k1.trans g2) g3
end
structure zB8 (K:PySem.W.Frag)(x qual:Str)(st:Stmt)(dV:Value)(f:Addr)(fd:FuncData):Prop where
 ex:∃(oc:Value) (od:Option Addr) (kV doc pm:Value) (an:Option Addr) (cdv ct:Value) (osl:Array (Option Value)),
  fd=PySem.W.fnOf x qual (zR st) (zA st) (zc st) dV kV doc pm an cdv ct/\K.lookup f=some ⟨oc,od,.func fd,osl⟩/\PySem.W.codeIn K cdv qual=true
 kp:PySem.W.keepIn K (.ref f)=true
theorem zf2 {K:PySem.W.Frag}{x qual:Str}{st:Stmt}{f:Addr}{oc:Value}{od an:Option Addr}{osl:Array (Option Value)}{dV kV doc pm cdv ct:Value}(l:K.lookup f=some ⟨oc,od,.func (PySem.W.fnOf x qual (zR st) (zA st) (zc st) dV kV doc pm an cdv ct),osl⟩)
  (c:PySem.W.codeIn K cdv qual=true) (k:PySem.W.keepIn K (.ref f)=true):zB8 K x qual st dV f (PySem.W.fnOf x qual (zR st) (zA st) (zc st) dV kV doc pm an cdv ct):=⟨⟨oc,od,kV,doc,pm,an,cdv,ct,osl,rfl,l,c⟩,k⟩
section
variable {P:Program}{w:World}{K:PySem.W.Frag}{mg:Str->Option Value}{base:Heap}
theorem zG5 {qual:Str}{st:Stmt}{f C:Addr}{dV:Value}{fd:FuncData}{N:List Str}{x:Str}{k:Nat}{φ:List A->(A->Prop)->Prop}{fl:Str}{e:Expr}{p1 p2 p3:Pos}(G:zB8 K "__init__" qual st dV f fd)(S:zo ("self"::x::N) ["self",x] (zc st))(c:Cls K C)(na:yR K C fl)
  (hb:zA st=[.Assign [.Attribute (.Name "self" p1) fl p2] e p3]) (hlen:∀as Q,φ as Q->as.length=1)
  (hbody:∀(cdv:Value) (A':Around) (outer:List Env) (s:Shared) (H:Hp) (E:XK) (as:List A) (Q:A->Prop),zV k (A'.deeper (envOfC qual (zc st) s.heap.objs.size f cdv))->φ as Q->
   EvL (ui CX0 P w K mg base ("self"::x::N) qual (zc st) f cdv A' outer s H E).nox (none::as.map some++List.replicate N.length none) e fun ds=>vW ds=true/\Q (.dat (tQ C [(.str fl,.list ds)])))
  (hsw:∀(cdv:Value) (A':Around) (outer:List Env) (s:Shared) (H:Hp) (E:XK),swapsWith e (some (.Attribute (.Name "self" p1) fl p2)) p3.line (ui CX0 P w K mg base ("self"::x::N) qual (zc st) f cdv A' outer s H E).nox.env=pure false)
  (hv:Vis (zc st) "self"):zC P w K mg base CX0 (k+1) f fd ["self",x] (spI C φ):=by
 obtain⟨oc,od,kV,doc,pm,an,cdv,ct,osl,rfl,lk,hcd⟩:=G.ex;refine dr lk hcd S (fun vs H Q E h=>?_) fun A' outer s H vs Qc E hr h=>?_
 ·obtain⟨F,as,Q',y,dx,vs',H1,rfl,_,_,_,_,_,_,_,rv,hφ,_⟩:=h;rw[zQ4,rv.length,hlen as _ hφ];rfl
 ·obtain⟨F,as,Q',y,dx,vs',H1,rfl,hy,hdx,hne,rfl,rfl,t,o,rv,hφ,kk⟩:=h;have hl:=rv.length;have hl1:=hlen as _ hφ;rw[hb];refine⟨_,(show PSs _ _ _ from (zx (nu (X:=(ui CX0 P w K mg base ("self"::x::N) qual (zc st) f cdv A' outer s (upd (upd F.H0 dx (.own y)) y (.ins C dx [])) E).nox) (xH (i:=0) rfl hv) zl (hsw cdv A' outer s _ E))).nox),?_⟩
  let F2:Fr:=⟨F.H0,fun z=>F.O0 z\/z=y\/z=dx,F.tp⟩
  have s1:zz F.H0 (upd (upd F.H0 dx (.own y)) y (.ins C dx [])):=fun a u q=>by rw[zh (zm q hy),zh (zm q hdx)];exact q
  have noy:¬F.O0 y:=fun z=>by obtain⟨u,hu,_⟩:=o y z;rw[hy] at hu;cases hu
  have nodx:¬F.O0 dx:=fun z=>by obtain⟨u,hu,_⟩:=o dx z;rw[hdx] at hu;cases hu
  have t2:zN F2 (upd (upd F.H0 dx (.own y)) y (.ins C dx [])):=(t.same s1).to rfl fun _ z=>.inl z
  -- the names of the body
  have g:∀{i:Nat} {a:A},(none::as.map some++List.replicate N.length none:Ev)[i]?=some (some a)->∃j,i=j+1/\as[j]?=some a:=fun {i a} h=>by
   cases i with
   |zero=>simp at h
   |succ j=>
    refine⟨j,rfl,?_⟩;have h':(as.map some++List.replicate N.length none:Ev)[j]?=some (some a):=by simpa using h
    rcases zZ4 j as.length with z|z
    ·rw[zV6 (by rw[zO6];exact z),zQ2,zQ9] at h';obtain⟨b,h1,h2⟩:=h';cases h2;exact h1
    ·rw[zY6 (by rw[zO6];exact z),zX6] at h';split at h'<;>cases h'
  have at':∀{vs:List V} {as:List A} {i:Nat} {a:A},yr F (sub (fun x=>¬F.O0 x) F.H0) vs as->as[i]?=some a->∃v,vs[i]?=some v/\eN F (sub (fun x=>¬F.O0 x) F.H0) v a:=by
   intro vs as i a h
   induction h generalizing i with
   |nil=>intro e;simp at e
   |cons h r ih=>
    intro e;cases i with
    |zero=>simp at e;subst e;exact⟨_,rfl,h⟩
    |succ i=>obtain⟨v,h1,h2⟩:=ih (by simpa using e);exact⟨v,by simpa using h1,h2⟩
  have gv:∀{j:Nat} {v:V},vs'[j]?=some v->(L2.start ("self"::x::N) (.ref y::vs'))[j+1]?=some (some v):=fun {j v} h=>by
   have hj:j<vs'.length:=(zP1.mp h).1;unfold L2.start;rw[zV6 (by rw[zO6,zQ4];omega),zQ2,z35,h];rfl
  have no:∀(i:Nat) a,(none::as.map some++List.replicate N.length none:Ev)[i]?=some (some a)->(∃d,a=.dat d)\/a=.tape:=fun i a z=>by
   obtain⟨j,_,hj⟩:=g z;obtain⟨v,_,h⟩:=at' rv hj;cases a with
   |dat d=>exact .inl ⟨d,rfl⟩
   |tape=>exact .inr rfl
   |_=>exact h.elim
  have gs:zz (sub (fun x=>¬F.O0 x) F.H0) (Gz F2 (none::as.map some++List.replicate N.length none) (L2.start ("self"::x::N) (.ref y::vs')) (upd (upd F.H0 dx (.own y)) y (.ins C dx []))):=fun a u q=>by
   obtain⟨z1,z2⟩:=zj q;refine zE ?_ (s1 _ _ z2);rintro ((z|z|z)|⟨i,b,s,e,_,f⟩)
   ·exact z1 z
   ·rw[z,hy] at z2;cases z2
   ·rw[z,hdx] at z2;cases z2
   ·rcases no i b e with ⟨d,rfl⟩|rfl
    ·exact f.elim
    ·exact f.elim
  have m2:M F2 (none::as.map some++List.replicate N.length none) (L2.start ("self"::x::N) (.ref y::vs')) (upd (upd F.H0 dx (.own y)) y (.ins C dx [])):=by
   refine⟨by unfold L2.start;simp[hl,hl1],fun i a s e1 e2=>?_,fun i j a b s t x e1 _ _ _ f=>?_,fun i r q z=>(by rcases no i _ z with ⟨d,w⟩|w<;>cases w),t2,fun z u h _=>s1 z u h,fun z hz=>?_⟩
   ·obtain⟨j,rfl,hj⟩:=g e1;obtain⟨v,h1,h2⟩:=at' rv hj;rw[gv h1] at e2;cases e2;rcases no _ a e1 with ⟨d,rfl⟩|rfl
    ·exact⟨v,rfl,AV.same gs h2⟩
    ·obtain⟨t',b,c,h3,rfl⟩:=h2;exact⟨t',b,c,h3,rfl⟩
   ·rcases no i a e1 with ⟨d,rfl⟩|rfl
    ·exact f.elim
    ·exact f.elim
   ·rcases hz with q|q|q
    ·obtain⟨u,hu,hn⟩:=o z q;exact⟨u,s1 _ _ hu,hn⟩
    ·exact⟨_,by rw[q];exact zk,fun _ q=>by cases q⟩
    ·exact⟨_,by rw[q,zh hne];exact zk,fun _ q=>by cases q⟩
  refine hbody cdv A' outer s _ E as Q' hr hφ F2 _ _ _ m2 fun d v H2 qd t3 k3 r3=>?_;obtain⟨l,xs,rfl,hl0,hl2,avl⟩:=r3;obtain⟨nol,qd⟩:=qd;have nly:l≠y:=fun z=>by rw[z,zk] at hl0;cases hl0
  have nldx:l≠dx:=fun z=>by rw[z,zh hne,zk] at hl0;cases hl0
  have hl00:F.H0 l=none:=by rw[zh nly,zh nldx] at hl0;exact hl0
  have nol0:¬F.O0 l:=fun z=>by obtain⟨u,hu,_⟩:=o l z;rw[hl00] at hu;cases hu
  have nty:NT F2 y:=t.nt noy;have hy2:H2 y=some (.ins C dx []):=k3 _ _ zk nty;refine⟨.ref y,rfl,y,C,dx,[],rfl,hy2,c,na,by show 0<1000;decide,?_⟩;refine kk _ _ qd ⟨(t.re t3 rfl).updO noy (eB hy2),fun z u h n=>?_,?_⟩
  ·rw[zh (zm h hy)];exact k3 _ _ (s1 _ _ h) n
  ·refine AV.ins (zE ⟨noy,fun xs z=>by rw[hy] at z;cases z⟩ zk) (.cons (.lst (zE ⟨nol0,fun xs z=>by rw[hl00] at z;cases z⟩ (by rw[zh nly];exact hl2)) ?_) .nil);refine avl.noL (fun a u hno z=>?_) nol;obtain⟨z1,z2⟩:=zj z;have na:a≠y:=fun w=>z1.1 (.inl (.inr (.inl w)));refine zE ⟨fun w=>z1.1 (.inl (.inl w)),fun xs w=>?_⟩ (by rw[zh na];exact z2);have:H2 a=some (.lst xs):=k3 _ _ (s1 _ _ w) (t.nt fun w=>z1.1 (.inl (.inl w)));rw[z2] at this;cases this;exact hno trivial
end
section
variable {X:Cx}{α:Ev}{e e':Expr}{pos:Pos}{E:xJ}{sts:List Stmt}
end
def Itv (K:PySem.W.Frag)(a:Addr)(n:Nat):It:=
 ⟨fun i H=>∃xs x,SqL K H a xs/\xs.length=n/\i<n/\xs[n-1-i]?=some x,fun i H x H'=>H'=H/\∀xs,SqL K H a xs->xs[n-1-i]?=some x,fun i H=>n<=i⟩
theorem bp {P:Program}{w:World}{K:PySem.W.Frag}{tg:Expr}(a it:Addr)(n:Nat):Turn P w K tg (Itv K a n) [it] it (fun i h=>i<=n/\h.IsRevIter it a ((n:Int)-1-(i:Int))) where
 mem:=by simp
 obj:=fun i h st b hb=>by
  have e:b=it:=by simpa using hb
  subst e;obtain⟨_,o,e,c,d⟩:=st;exact⟨o,e,fun v z=>by rw[d] at z;cases z⟩
 keep:=fun i h h' st k=>⟨st.1,st.2.at fun o e=>k it (by simp) o e⟩
 item:=by
  intro X hP hw hK hc i pins s σ H E I hf st hg;subst hP hw hK;obtain⟨xs,x,hq,hl,hi,hx⟩:=hg;obtain⟨its,rv,p,hz⟩:=I.list hq;obtain⟨u,hu,ru⟩:=rv.get hx;obtain⟨f0,f1,f2,f3,f4,f5⟩:=hf it (by simp);have e1:((n:Int)-1-(i:Int))=((n-1-i:Nat):Int):=by omega
  have st':=st.2;rw[e1] at st';refine wpAny_pyNext_rev_item st' p.isList (x:=u) (by simpa using hu) fun h' st2 sb=>?_;have I1:Inv X pins σ H {s with heap:=h'}:=I.turned (t':=s.toks) (fun b o hb e=>(sb.2 b hb).trans e) f0 f1 f3 f4 f5;obtain⟨o,e,c,d⟩:=id st2;have e2:(((n-1-i:Nat):Int)-1)=(n:Int)-1-((i+1:Nat):Int):=by omega
  rw[e2] at st2;exact⟨u,rfl,pT (s:={s with heap:=h'}) e c d (by decide) ⟨x,H,I1,ru,⟨rfl,fun ys hy=>by rw[I.list_inj hy hq];exact hx⟩,⟨hi,st2⟩,fun b hb=>(hf b hb).1⟩⟩
 done:=by
  intro X hP hw hK hc i pins s σ H E I hf st hg;subst hP hw hK;have hi:i=n:=Nat.le_antisymm st.1 hg;obtain⟨f0,f1,f2,f3,f4,f5⟩:=hf it (by simp);have st':=st.2;rw[show ((n:Int)-1-(i:Int))=-1 by omega] at st';exact wpAny_pyNext_rev_end (I.ok.hd hc) st' fun h' eb=>⟨rfl,I.turned (t':=s.toks) (fun b o hb e=>eb b o hb e) f0 f1 f3 f4 f5⟩
 self:=fun A i s Q E st h=>wpAny_pyIter_revIter st.2 h
section
variable {X:Cx}{α:Ev}{tg:Expr}{p pos:Pos}{a:Expr}
def zO3 (K:PySem.W.Frag)(ta:TA):TI:=fun σ H R=>ta σ H fun vs H1=>∃l xs,vs=[.ref l]/\SqL K H1 l xs/\R (Itv K l xs.length) H1
theorem zw0 {ta:TA}(hg:Gl X "reversed")(hm:X.mg "reversed"=none)(ha:PA X [a] ta)(hs:starEach [a] X.env=[(false,eval a X.env)]:=by rfl):PI X tg (.Call (.Name "reversed" p) [a] [] pos) (zO3 X.K ta):=by
 intro pins s σ H R I h;refine Call_ (xq I hg hm boot_reversed (zS5 (thn (ha pos pins s σ H _ I h) fun us s1 ⟨vs,H1,I1,r1,q1⟩=>?_) hs rfl));obtain⟨l1,xs,e,hq1,q⟩:=q1;subst e;obtain⟨u,rfl,ru⟩:=Vals.one r1;cases (show u=Value.ref l1 from ru);obtain⟨its1,rv1,p1,hz1⟩:=I1.list hq1;have hlen:=rv1.length;refine call_reversed_list p1.isList ?_;have it0:({s1 with heap:=s1.heap.push (revObj l1 ((its1.toArray.size:Int)-1))}:Shared).heap.IsRevIter s1.heap.objs.size l1 ((xs.length:Int)-1-((0:Nat):Int)):=by
  refine⟨_,zP9 _ rfl,rfl,?_⟩;show Data.fields _=_;rw[zQ0,hlen];simp
 refine wpAny_pyIter_revIter it0 ?_;refine⟨_,_,_,_,H1,rfl,I1.kept (t':=s1.toks) fun b o e=>zO8 _ e,bp l1 _ xs.length,⟨zQ8 _,it0⟩,fun b hb=>?_,q⟩;have e:b=s1.heap.objs.size:=by simpa using hb
 subst e;exact I1.fpOk (zP3 _) (I1.hok.fresh (zP3 _))
theorem zB1 {Q:List PyData->Prop}(hg:Gl X "reversed")(hm:X.mg "reversed"=none)(h:EvD X α a fun x=>∃ds,x=.list ds/\Q ds.reverse)(hs:starEach [a] X.env=[(false,eval a X.env)]:=by rfl):
  EvI X α tg (.Call (.Name "reversed" p) [a] [] pos) Q:=fun F σ H R m k=>by
 refine⟨_,zw0 hg hm (zg zl zu hs) hs,?_⟩;refine h F σ H _ m fun x vx H1 q1 t1 k1 r1=>?_;obtain⟨ds,rfl,q⟩:=q1;obtain⟨l1,xs,rfl,g1,g2⟩:=r1.lst_inv;refine⟨l1,xs,rfl,SqL.of (zj g1).2,k _ _ H1 q t1 k1 fun i H3 p s=>⟨fun d hd=>?_,fun hl=>?_⟩⟩
 ·have s1:=SqL.of (K:=X.K) (zj (s _ _ g1)).2;have hi:i<ds.length:=by
   have:=(zP1.mp hd).1
   rwa [zU1] at this
  rw[z46 hi] at hd;obtain⟨x1,hx1,av1⟩:=g2.get hd;rw[<-g2.length] at hx1;refine⟨⟨xs,x1,s1,rfl,by rw[g2.length];exact hi,hx1⟩,fun v H4 y=>?_⟩;obtain⟨rfl,hy⟩:=y;have:=hy _ s1;rw[hx1] at this;cases this;exact⟨zz.refl _,fun _=>av1.same s⟩
 ·rw[zU1,<-g2.length] at hl;exact hl
end
def EnS (w:World):List DictEntry->List (Str×V)->Prop:=Paired fun e p=>e.hash=hashStr w p.1/\(∃t,e.key=.str p.1 t)/\RelV p.2 e.val
def iW (K:PySem.W.Frag)(w:World)(d:Addr)(tb:List (Str×V)):Prop:=
 ∃es n,K.lookup d=some ⟨.type "dict",none,.dict es n,#[]⟩/\EnS w es.toList tb/\(tb.map (·.1)).Nodup
theorem pM {P:Program}{w:World}:∀{es:List DictEntry} {tb:List (Str×V)},EnS w es tb->Pairs (PySem.strKind P w) es (List.zipWith (fun e (p:Str×V)=>(p.1,e.val)) es tb)
 |_,_,.nil=>.nil
 |e::_,p::_,.cons ⟨_,⟨t,ek⟩,_⟩ r=>.cons (by rw[ek];simp[PySem.strKind,Value.isStrOf]) rfl (pM r)
theorem iP {w:World}:∀{es:List DictEntry} {tb:List (Str×V)},EnS w es tb->(List.zipWith (fun e (p:Str×V)=>(p.1,e.val)) es tb).map (·.1)=tb.map (·.1)
 |_,_,.nil=>rfl
 |_,_,.cons _ r=>by simp only[List.zipWith_cons_cons,zR4,iP r]
theorem lq {P:Program}{w:World}:∀{es:List DictEntry} {tb:List (Str×V)},EnS w es tb->∀e∈es,∃k,(PySem.strKind P w).is k e.key=true/\e.hash=(PySem.strKind P w).hash k
 |_,_,.nil,e,he=>by simp at he
 |_,_,.cons (b:=p) ⟨h1,⟨t,ek⟩,_⟩ r,e,he=>by
  rcases zP2.mp he with rfl|he
  ·exact⟨p.1,by rw[ek];simp[PySem.strKind,Value.isStrOf],h1⟩
  ·exact lq r e he
theorem hU {w:World}{x:Str}{v:V}:∀{es:List DictEntry} {tb:List (Str×V)},EnS w es tb->tb.lookup x=some v->∃u,valueAt (List.zipWith (fun e (p:Str×V)=>(p.1,e.val)) es tb) x=some u/\RelV v u
 |_,_,.nil,e=>by simp at e
 |e::es,p::tb,.cons ⟨_,_,rv⟩ r,h=>by
  obtain⟨y,z⟩:=p;by_cases q:x=y
  ·subst q;simp only[List.lookup_cons_self,Option.some.injEq] at h;subst h;exact⟨e.val,by simp[valueAt],rv⟩
  ·rw[zT7,zX8.mpr q] at h;obtain⟨u,h1,h2⟩:=hU r h;refine⟨u,?_,h2⟩;rw[<-h1];simp[valueAt,zV7,zS2 q]
section
variable {X:Cx}{α:Ev}{p pos:Pos}{a:Expr}{g:Str}{Q:PyData->Prop}
def zu9 (i:Expr):Prop:=∀ov iv,subscripted i false ov iv=operate [ov,iv] (getItem ov iv)
theorem zM3 {prog:Program}{w:World}{A:Around}{E:Value->Shared->Prop}{s:Shared}{env:Env}{value slice:Expr}{pos:Pos}{T id:String}{Q:Value->Shared->Prop}
  (hl:typeLookup (.type T) "__getitem__"=pure (some (.builtin id))) (hs:zu9 slice)
  (h:wpAny (model prog w) A (eval value env) (fun o s₁=>wpAny (model prog w) A (eval slice env) (fun i s₂=>s₂.TypeIs o T/\wpAny (model prog w) A (getItem o i) Q E s₂) E s₁) E s):
  wpAny (model prog w) A (eval (.Subscript value slice pos) env) Q E s:=by
 refine Subscript_ (thn h fun o s₁ h₁=>thn h₁ fun i s₂ h₂=>?_);obtain⟨hT,h₂⟩:=h₂;unfold subscriptTail;refine zO7 ?_;rw[getitemInPython_of_ne hT.not_modules];refine zO7 (z24 hT hl ?_);have fin:wpAny (model prog w) A (subscripted slice false o i) (fun r s₃=>wpAny (model prog w) A (letTemporaryGo value o r >>= fun _=>pure r) Q E s₃) E s₂:=by
  rw[hs o i];exact wpAny_operating (thn h₂ fun r s₃ h₃=>zO7 (wpAny_letTemporaryGo (zP8 h₃)))
 first
  |exact zP8 (zO7 fin)
  |exact zO7 (zP8 (zO7 fin))
  |exact zO7 fin
theorem bL {d:Addr}{tb:List (Str×V)}{ty:TE}(hg:Gl X g)(hm:X.mg g=some (.ref d))(hd:iW X.K X.w d tb)(hi:PE X a ty)(hs:zu9 a)(hb:(g == ("__debug__":Str))=false:=by decide):
  PE X (.Subscript (.Name g p) a pos) (fun σ H Q=>ty σ H fun y H1=>∃x v,y=.str x/\tb.lookup x=some v/\Q v H1):=by
 intro pins s σ H Q I h;refine zM3 PySem.F.slot_dict_getitem.lookup hs (sF I hg hm (thn (hi pins s σ H _ I h) fun iv s2 ⟨y,H2,I2,ry,x,v,ey,ex,q2⟩=>?_) hb);subst ey;obtain⟨t,rfl⟩:=ry;obtain⟨es,n,hl,he,hn⟩:=hd;have dd:s2.heap.DictOf (PySem.strKind X.prog X.w) d (List.zipWith (fun e (p:Str×V)=>(p.1,e.val)) es.toList tb):=
  ⟨_,es,n,I2.kIn _ _ hl,⟨rfl,rfl,rfl⟩,rfl,fun e he'=>lq he e (by simpa using he'),pM he,by rw[iP he];exact hn⟩
 obtain⟨u,h1,h2⟩:=hU he ex;exact⟨dd.typeIs,wpAny_getItem_of (show (PySem.strKind X.prog X.w).is x (.str x t)=true by simp[PySem.strKind,Value.isStrOf]) dd.mapOf h1 ⟨v,H2,I2.tok _,h2,q2⟩⟩
def scV :PyData->Option V
 |.none=>some .non
 |.bool b=>some (.bl b)
 |.int i=>some (.int i)
 |.str x=>some (.str x)
 |_=>Option.none
theorem zy8 {H:Hp}{d:PyData}{v:V}(h:scV d=some v):AV H v d:=by
 cases d<;>simp[scV] at h<;>subst h<;>constructor
theorem aq {d:Addr}{tb:List (Str×V)}(hg:Gl X g)(hm:X.mg g=some (.ref d))(hd:iW X.K X.w d tb)(h:EvD X α a fun y=>∃x d v,y=.str x/\tb.lookup x=some v/\scV d=some v/\Q d)(hs:zu9 a:=by exact fun _ _=>rfl)
  (hb:(g == ("__debug__":Str))=false:=by decide):EvD X α (.Subscript (.Name g p) a pos) Q:=fun F σ H R m k=>by
 refine⟨_,bL hg hm hd zl hs hb,?_⟩;refine h F σ H _ m fun y vy H1 q1 t1 k1 r1=>?_;obtain⟨x,d',v,rfl,h1,h2,q⟩:=q1;cases r1.str_inv;exact⟨x,v,rfl,h1,k _ _ H1 q t1 k1 (zy8 h2)⟩
end
section
variable {X:Cx}{α:Ev}{p pos:Pos}{a b:Expr}{g:Str}{Q:PyData->Prop}
end
section
variable {X:Cx}{α:Ev}{p pos:Pos}{a b:Expr}{Q:PyData->Prop}
end
theorem lC {β γ:Type}{f g:β->Option γ}:∀{l:List β},(∀x∈l,f x=g x)->l.filterMap f=l.filterMap g
 |[],_=>rfl
 |a::l,h=>by rw[zX9,zX9,h a zQ1,lC fun x hx=>h x (zP5 _ hx)]
theorem fG (its:List Value):slicePick its.toArray none none (some (-1))=its.reverse.toArray:=by
 have key:∀(n:Nat),n=its.length->(List.filterMap (fun x=>its.toArray[x]?) ((List.range n).map fun (k:Nat)=>(((n:Int)-1)+(-1)*(k:Int)).toNat))=its.reverse:=by
  intro n hn;have e1:(List.filterMap (fun x=>its.toArray[x]?) ((List.range n).map fun (k:Nat)=>(((n:Int)-1)+(-1)*(k:Int)).toNat))=List.filterMap (fun x=>its.reverse.toArray[x]?) ((List.range n).map fun x=>0+x):=by
   rw[List.filterMap_map,List.filterMap_map];refine lC fun k hk=>?_;have hk:=z01.mp hk;show its.toArray[(((n:Int)-1)+(-1)*(k:Int)).toNat]?=its.reverse.toArray[0+k]?;rw[z55,z03,z03,z46 (by omega)]
   congr 1
   omega
  rw[e1,pick_run,List.drop_zero,show n=its.reverse.length by rw[zU1];exact hn];exact zW2
 have h:=key its.length rfl;unfold slicePick sliceBounds sliceRange;simp only[Option.getD_some,zQ0,show ¬((-1:Int) > 0) by decide,zW3];have hc:(if ((its.length:Int)-1) > -1 then (((its.length:Int)-1) - -1 - -1-1) / - -1 else 0)=(its.length:Int):=by
  split
  ·rw[show (- -1:Int)=1 from rfl,Int.ediv_one];omega
  ·omega
 rw[hc,zU2,h]
theorem Vals.rev :∀{xs:List V} {us:List Value},Vals xs us->Vals xs.reverse us.reverse
 |[],[],_=>.nil
 |x::xs,u::us,r=>by
  cases r with
  |cons a b=>
   rw[zX4,zX4];exact (Vals.rev b).append (.cons a .nil)
theorem AVs.rev {H:Hp}:∀{xs:List V} {ds:List PyData},AVs H xs ds->AVs H xs.reverse ds.reverse
 |[],[],_=>.nil
 |x::xs,d::ds,r=>by
  cases r with
  |cons a b=>
   rw[zX4,zX4];exact (AVs.rev b).append (.cons a .nil)
section
variable {X:Cx}{α:Ev}{a e:Expr}{pos p2 p3 p4:Pos}{n1:Nat}{te:TE}
theorem zh0 (he:PE X e te):PE X (.Subscript e (.Slice none none (some (.UnaryOp .USub (.Constant (.int 1) n1 p3) p4)) p2) pos) (fun σ H Q=>te σ H fun x H1=>∃a xs,x=.ref a/\SqL X.K H1 a xs/\∀p,H1 p=none->Q (.ref p) (upd H1 p (.lst xs.reverse))):=by
 intro pins s σ H Q I h;refine Subscript_ (thn (he pins s σ H _ I h) fun v s1 ⟨x,H1,I1,r1,q1⟩=>?_);refine wpAny_Slice ?_;rw[evalPart_none];refine zP8 ?_;refine zP8 ?_;refine thn (sQ (dH ky zr) pins s1 σ H1 (fun o H'=>o=some (-1)/\H'=H1) I1 ⟨_,rfl,_,rfl,rfl,rfl⟩) fun vs s2 ⟨o,H2,I2,po,e1,e2⟩=>?_;subst e1 e2;obtain⟨a,xs,rfl,hx,q⟩:=q1;cases r1;have I4:Inv X pins σ H2 {s2 with heap:=s2.heap.push {cls:=.type "slice",data:=.fields #[.none,.none,vs]}}:=I2.kept (t':=s2.toks) fun b ob q=>zO8 _ q;obtain⟨its,r,ht,hz⟩:=I4.list hx;have hlen:=r.length;refine tail_any (T:="list") (ops:=[.ref a,.ref s2.heap.objs.size]) ht.isList.typeIs slot_list_getitem.lookup ?_ (by with_unfolding_all rfl);refine wpAny_getItem_list_slice ht.isList (Heap.IsSliceOf.new ..) .none .none po (by decide) ?_ (by rw[zQ0]<;>omega);rw[fG];refine⟨.ref _,_,I4.laid (t':=s2.toks) (o:=.lst xs.reverse) (fun b ob q=>zO8 _ q) (zP3 _) ?_,rfl,q _ (I4.hok.fresh (zP3 _))⟩;exact⟨by rw[zU1];exact hz,_,0,r.rev,zP9 _ rfl⟩
theorem zo9 {Q:List PyData->Prop}(h:EvD X α a fun x=>∃ds,x=.list ds/\Q ds.reverse):EvL X α (.Subscript a (.Slice none none (some (.UnaryOp .USub (.Constant (.int 1) n1 p3) p4)) p2) pos) Q:=fun F σ H R m k=>by
 refine⟨_,zh0 zl,?_⟩;refine h F σ H _ m fun x vx H1 q1 t1 k1 r1=>?_;have m1:=m.kz k1 t1;obtain⟨ds,rfl,q⟩:=q1;obtain⟨a,xs,rfl,h1,h2⟩:=r1.lst_inv;refine⟨a,xs,rfl,SqL.of (zj h1).2,fun p hp=>?_⟩;obtain⟨g1,g2,g3⟩:=m1.lay hp h2.rev;exact k _ _ _ q g1 (k1.trans g2) (xf.back m k1 t1 g3)
end
def dJ (T:Addr)(H:Hp):Prop:=∀b:Addr,H b=none\/b=T\/∃o xs,H b=some (.frz o (.lst xs))
theorem eu {P:Program}{w:World}{K:PySem.W.Frag}{mg mb:Str->Option Value}{CX:CXT}{k:Nat}{fa a T:Addr}{fd:FuncData}{x:Str}{sp:Sp}{s₁:Shared}{vs:List Value}{ns:List Int}{ps:Array Value}
  (KX:K.In s₁.heap) (hns:s₁.heap.Ns mainGlobals mg) (hb:s₁.heap.Ns builtinsNs mb) (hbb:∀x:Str,x≠"__name__"->mb x=bootBuiltins x) (hlim:s₁.heap.NoLimit) (hg:s₁.gens=#[])
  (ha:s₁.heap.get? a=some {cls:=.type "list",data:=.seq vs.toArray}) (hi:IntsAre vs ns) (hl:ns.length<=sizeLine) (hr:zV k callerA)
  (hT:s₁.heap.get? T=some (PySem.W.tabObj ps)) (hKT:K.lookup T=none) (hct:isCodeTable s₁.heap T)
  (hbm:∃bm ob,mg "__builtins__"=some (.ref bm)/\bm≠builtinsNs/\s₁.heap.get? bm=some ob/\ob.cls=.type "module"/\ob.dict=some builtinsNs/\ob.data=.plain)
  (F:∀base:Heap,K.In base->base.Ns mainGlobals mg->base.BuiltinsAt mg T->zC P w K mg base CX k fa fd [x] sp) (hbind:∀(s:Shared) (u:Value),BindsTo s fd ⟨[u],[]⟩ [(x,u)])
  (hsp:∀H:Hp,dJ T H->H T=some (.tbl ps)->SqL K H a (ns.map V.int)->sp [.ref a] H (fun v _=>v=.bl true) fun _ _ _=>False)
  (hCX:∀H e s',CX [] H s₁ (fun _ _ _=>False) e s'->False):
  codeAny (model P w) callerA (.call (.ref fa) ⟨[.ref a],[]⟩) (fun r s'=>r=.ok (.ret (.bool true))/\OldK s₁.heap s'.heap/\s'.os=s₁.os/\AllBare s'.gens) s₁:=by
 have rv:=pk hi;have lenV:=hi.length;have haT:a≠T:=fun z=>by rw[z,hT] at ha;cases ha
 have core:∀H:Hp,dJ T H->H T=some (.tbl ps)->SqL K H a (ns.map V.int)->HOk P w H s₁.heap->(∀b,H b≠none->b=a\/b=T)->(H a≠none->K.lookup a=none)->
   codeAny (model P w) callerA (.call (.ref fa) ⟨[.ref a],[]⟩) (fun r s'=>r=.ok (.ret (.bool true))/\OldK s₁.heap s'.heap/\s'.os=s₁.os/\AllBare s'.gens) s₁:=by
  intro H hO hHT hS hok hA hK;have base_of:∀{b:Addr} {o:Obj},s₁.heap.get? b=some o->H b=none->(qK s₁.heap H).get? b=some o:=fun e n=>zc1 e n;have noA:∀{b:Addr} {o:Obj} {es:Array DictEntry} {ep:Nat},s₁.heap.get? b=some o->o.data=.dict es ep->H b=none:=fun {b o es ep} e d=>by
   cases q:H b with
   |none=>rfl
   |some u=>
    rcases hA b (by rw[q];simp) with e'|e'
    ·subst e';rw[ha] at e;cases e;have d':Data.seq vs.toArray _=Data.dict es ep:=d;cases d'
    ·subst e';rw[hT] at e;cases e;have d':Data.fields ps=Data.dict es ep:=d;cases d'
  have nsK:∀{b:Addr} {m:Str->Option Value},s₁.heap.Ns b m->(qK s₁.heap H).Ns b m:=fun {b m} ⟨o,es,ep,e,d,r⟩=>⟨o,es,ep,base_of e (noA e d),d,r⟩;have hKb:K.In (qK s₁.heap H):=fun b o e=>base_of (KX b o e) (by
   cases q:H b with
   |none=>rfl
   |some u=>
    rcases hA b (by rw[q];simp) with e'|e'
    ·subst e';rw[hK (by rw[q];simp)] at e;cases e
    ·subst e';rw[hKT] at e;cases e)
  have hM:Mod K mg (qK s₁.heap H):=⟨hKb,nsK hns,⟨mb,nsK hb,hbb⟩,let ⟨mc,h1,h2⟩:=hlim;⟨mc,nsK h1,h2⟩⟩;have hBA:(qK s₁.heap H).BuiltinsAt mg T:=by
   obtain⟨bm,ob,b1,b2,b3,b4,b5,b6⟩:=hbm;have n1:bm≠T:=fun z=>by rw[z,hT] at b3;cases b3;cases b4
   have n2:bm≠a:=fun z=>by rw[z,ha] at b3;cases b3;cases b6
   have n3:bm≠mainGlobals:=fun z=>by
    obtain⟨o,es,ep,e,d,_⟩:=hns;rw[z,e] at b3;cases b3;rw[d] at b6;cases b6
   exact⟨bm,ob,b1,b2,n3,n1,base_of b3 (by
    cases q:H bm with
    |none=>rfl
    |some u=>
          rcases hA bm (by rw[q];simp) with e'|e'
          ·exact absurd e' n2
          ·exact absurd e' n1),b4,b5,b6⟩
  have e0:tJ P w K mg (qK s₁.heap H) callerA [] s₁ H:=⟨rfl,hM,fun b o e=>zk2 e,z50 (fj _ _),trivial,fun b hb=>absurd (show b∈([]:List Addr) from hb) (by simp),hok,.of_eq hg⟩;refine z51 ((F _ hKb (nsK hns) hBA).run callerA [] s₁ H ⟨[.ref a],[]⟩ [.ref a] [.ref a] _ _ hr e0 (hbind s₁ (.ref a)) (.cons rfl .nil) (hsp H hO hHT hS)) fun r s' h=>?_;cases r with
  |error e=>exact (hCX H e s' h).elim
  |ok fl=>
   cases fl with
   |next=>exact False.elim h
   |brk=>exact False.elim h
   |cont=>exact False.elim h
   |ret u=>
    obtain⟨v,H',os,bare,un,hok',r',q⟩:=h;have q':v=.bl true:=q;subst q';obtain rfl:u=Value.bool true:=r';have old:∀b o,s₁.heap.get? b=some o->asItWas s₁.heap s'.heap b o:=fun b o e=>by
     cases q:H b with
     |none=>exact .inl (un.keep b o e q (by intro z;exact absurd (show b∈([]:List Addr) from z) (by simp)) (by simp))
     |some u=>
      rcases hO b with z|z|⟨ob,xs,z⟩
      ·rw[q] at z;cases z
      ·subst z;obtain⟨more,hm⟩:=un.tbls _ _ hHT;have e2:s'.heap.get? b=some {cls:=.none,data:=.fields (ps++more)}:=hok' _ _ hm;rw[hT] at e;cases e;exact .inr (.inl ⟨hct,rfl,ps,more,rfl,e2⟩)
      ·have z2:=un.frzs b ob _ z;obtain⟨e1,_⟩:=hok b _ z;obtain⟨e2,_⟩:=hok' b _ z2;rw[e] at e1;cases e1;exact .inl e2
    refine⟨rfl,⟨old,fun b o e=>?_⟩,os,bare⟩;rcases old b o e with z|⟨_,_,_,_,_,z⟩|⟨_,_,⟨o',_,_,z,_⟩,_⟩
    ·exact⟨_,z⟩
    ·exact⟨_,z⟩
    ·exact⟨_,z⟩
 cases hk:K.lookup a with
 |some o=>
  have e:=KX a o hk;rw[ha] at e;cases e;refine core (fun b=>if b=T then some (.tbl ps) else none) (fun b=>?_) (if_pos rfl) (.inr ⟨_,vs.toArray,_,hk,rfl,rfl,rfl,by rw[zQ0,lenV];exact hl,by simpa using rv⟩) (fun b u z=>?_) (fun b z=>?_) fun z=>absurd (if_neg haT) z
  ·by_cases h:b=T
   ·exact .inr (.inl h)
   ·exact .inl (if_neg h)
  ·by_cases h:b=T
   ·have z':=(if_pos h).symm.trans z;cases z';subst h;exact hT
   ·have z':=(if_neg h).symm.trans z;cases z'
  ·by_cases h:b=T
   ·exact .inr h
   ·exact absurd (if_neg h) z
 |none=>
  refine core (fun b=>if b=T then some (.tbl ps) else if b=a then some (.frz {cls:=.type "list",data:=.seq vs.toArray} (.lst (ns.map V.int))) else none) (fun b=>?_) (if_pos rfl) (.inl (.inr ⟨{cls:=.type "list",data:=.seq vs.toArray},(if_neg haT).trans (if_pos rfl)⟩)) (fun b u z=>?_) (fun b z=>?_) fun _=>hk
  ·by_cases h:b=T
   ·exact .inr (.inl h)
   ·by_cases hb:b=a
    ·exact .inr (.inr ⟨_,_,(if_neg h).trans (if_pos hb)⟩)
    ·exact .inl ((if_neg h).trans (if_neg hb))
  ·by_cases h:b=T
   ·have z':=(if_pos h).symm.trans z;cases z';subst h;exact hT
   ·have z:=(if_neg h).symm.trans z;by_cases hb:b=a
    ·have z':=(if_pos hb).symm.trans z;cases z';subst hb;exact⟨ha,by rw[zO6];exact hl,vs,_,rv,ha⟩
    ·have z':=(if_neg hb).symm.trans z;cases z'
  ·by_cases h:b=T
   ·exact .inr h
   ·by_cases hb:b=a
    ·exact .inl hb
    ·exact absurd ((if_neg h).trans (if_neg hb)) z
theorem aZ {l:PySem.W.OpenLaw}{n k:Nat}{q:Program}{loose:List Str}{XP:(Str->Option Value)->Heap->Prop}{YP:World->Heap->Prop}{d:DefRec}{K:Params->PySem.W.Frag}{CX:World->CXT}{sp:World->Sp}{x:Str}{T c:Addr}{ps:Array Value}
  (hn:l.most=some n) (hn2:n<=sizeLine) (hdf:d.params.defaults=[]) (hr:zV k callerA)
  (hY:∀(w:World) (h:Heap),YP w h->(K w.params).In h) (hYT:∀(w:World) (h:Heap),YP w h->h.get? T=some (PySem.W.tabObj ps))
  (hNo:∀w:World,(K w.params).lookup T=none) (hTab:∀w:World,∃o vs,(K w.params).lookup c=some o/\o.cls=.type "code"/\o.data=.fields vs/\vs[11]?=some (.ref T))
  (F:∀(w:World) (mg:Str->Option Value) (fa:Addr) (h:Heap),(K w.params).In h->h.Ns mainGlobals mg->mg d.name=some (.ref fa)->
   ∃fd:FuncData,(∀(s:Shared) (u:Value),BindsTo s fd ⟨[u],[]⟩ [(x,u)])/\
    ∀base:Heap,(K w.params).In base->base.Ns mainGlobals mg->base.BuiltinsAt mg T->zC l.prog w (K w.params) mg base (CX w) k fa fd [x] (sp w))
  (hsp:∀(w:World) (H:Hp) (a:Addr) (ns:List Int),ns.length<=n->dJ T H->H T=some (.tbl ps)->SqL (K w.params) H a (ns.map V.int)->sp w [.ref a] H (fun v _=>v=.bl true) fun _ _ _=>False)
  (hCX:∀(w:World) (H:Hp) (s:Shared) (e:Value) (s':Shared),CX w [] H s (fun _ _ _=>False) e s'->False):
  PySem.W.WalkO q loose XP YP l.row.toRowW d [] (fun f vs=>PySem.call f vs):=by
 refine Att.attach_call hn hdf fun w s₀ s₁ mg mb fa o pm cd doc a vs ns G Y ho hd hcd hmg hobj hints hlen hg=>?_;have KX:=hY w _ Y;obtain⟨oc,cv,t2,t3,t4,t5⟩:=hTab w;obtain⟨fd,hb,hF⟩:=F w mg fa _ KX G.T.g hmg;exact eu KX G.T.g G.T.b G.T.builtins G.T.nolimit hg hobj hints (zT3 hlen hn2) hr (hYT w _ Y) (hNo w) ⟨c,oc,cv,KX _ _ t2,t3,t4,t5⟩ G.T.bmain hF hb (fun H hO hT hS=>hsp w H a ns hlen hO hT hS) fun H e s'=>hCX w H s₁ e s'
theorem TabAt.same {H H':Hp}(T:TabAt H)(h:∀a o,(∀xs,o≠.lst xs)->H a=some o->H' a=some o):TabAt H':=rH T h
section
variable {X:Cx}{pins:List (Addr×Obj)}{σ:St}{H:Hp}{s:Shared}{h':Heap}
theorem Inv.tblMore {t':Nat}{p:Addr}{ps more:Array Value}{H':Hp}(I:Inv X pins σ H s)(h:H p=some (.tbl ps))(k:∀b u,b≠p->s.heap.get? b=some u->h'.get? b=some u)(e:h'.get? p=some (PySem.W.tabObj (ps++more)))
  (hp:H' p=some (.tbl (ps++more))) (hH:∀b,b≠p->b<s.heap.objs.size->H' b=H b) (new:∀b o,s.heap.objs.size<=b->H' b=some o->zM X.prog X.w H' h' b o):
  Inv X pins σ H' {s with heap:=h',toks:=t'}:=by
 have ne:∀b,H b=none->b≠p:=fun b n z=>by rw[z,h] at n;cases n
 have nt:∀b o,H b=some o->(∀qs,o≠.tbl qs)->b≠p:=fun b o q n z=>by rw[z,h] at q;cases q;exact n _ rfl
 have lt:∀b o,H b=some o->b<s.heap.objs.size:=fun b o q=>by
  rcases zZ4 b s.heap.objs.size with z|z
  ·exact z
  ·rw[I.hok.fresh z] at q;cases q
 have st:∀b o,H b=some o->(∀qs,o≠.tbl qs)->H' b=some o:=fun b o q n=>by rw[hH b (nt b o q n) (lt b o q)];exact q
 refine I.un ⟨fun b o q n _ _=>k b o (ne b n) q,fun b o q n _ _=>⟨o.slots,k b o (ne b n) q⟩,fun b o q n _=>by rw[hH b (ne b n) (zP6 q)];exact n,fun b o q _=>?_,fun b xs q=>st b _ q (fun _ z=>by cases z),fun b o u q=>st b _ q (fun _ z=>by cases z),fun b qs q=>?_⟩ fun b u q=>?_
 ·by_cases z:b=p
  ·exact⟨_,by rw[z];exact e⟩
  ·exact⟨o,k b o z q⟩
 ·by_cases z:b=p
  ·subst z;rw[h] at q;cases q;exact⟨more,hp⟩
  ·exact⟨#[],by rw[hH b z (lt b _ q),q];simp⟩
 ·by_cases z:b=p
  ·subst z;rw[hp] at q;cases q;exact e
  ·rcases zZ4 b s.heap.objs.size with l|l
   ·rw[hH b z l] at q;refine (I.hok b u q).stay (fun c v hc r=>k c v (fun w=>?_) r) (fun c r=>st c _ r fun _ z=>by cases z) fun c xs r=>st c _ r fun _ z=>by cases z
    subst w;rcases hc with rfl|hc
    ·exact z rfl
    ·rw[h] at hc;cases hc
   ·exact new b u l q
def ju (f c:Addr)(qual:Str)(params:Arguments)(body:Expr)(scope:Scope)(clos:List (Str×Addr)):HO:=
 .ext fun h=>∃(pm ctv:Value),h.get? f=some (PySem.W.kla_obj "<lambda>" qual params body scope clos pm c ctv)
theorem zp9 {P:Program}{w:World}{H:Hp}{h:Heap}{c:Addr}(r:h.CodeRec (.ref c) wc):zM P w H h c (tY c):=by
 refine⟨r,?_,fun h1 h2 p k=>?_⟩
 ·obtain⟨c',o,vs,t,e1,e2,_⟩:=r;cases e1;exact⟨o,e2⟩
 ·obtain⟨c',o,vs,t,e1,e2,e3⟩:=p;cases e1;exact⟨c,o,vs,t,rfl,k _ e2,e3⟩
theorem bu {P:Program}{w:World}{H:Hp}{h:Heap}{f c:Addr}{qual:Str}{params:Arguments}{body:Expr}{scope:Scope}{clos:List (Str×Addr)}{pm ctv:Value}(r:h.get? f=some (PySem.W.kla_obj "<lambda>" qual params body scope clos pm c ctv)):zM P w H h f (ju f c qual params body scope clos):=
 ⟨⟨pm,ctv,r⟩,⟨_,r⟩,fun h1 h2 ⟨pm',ctv',p⟩ k=>⟨pm',ctv',k _ p⟩⟩
theorem jn {pos:Pos}{a b:Int}{c cv:Value}(l:List Value):TriplesOk l->codeAmong pos (l++[rawInt a,rawInt b,c])=some cv->codeAmong pos l=some cv\/cv=c:=by
 induction l using TriplesOk.induct with
 |case1=>
  intro _ h;rw[zW5,rawInt,rawInt,codeAmong.eq_1] at h;split at h
  ·cases h;exact .inr rfl
  ·rw[codeAmong.eq_2 _ _ (by intro _ _ _ _ _ _ z;cases z)] at h;cases h
 |case2 i t j u d rest ih=>
  intro ok h;rw[TriplesOk.eq_2] at ok;rw[zZ5,zZ5,zZ5,codeAmong.eq_1] at h;rw[codeAmong.eq_1];split at h
  ·rename_i z;rw[if_pos z];exact .inl h
  ·rename_i z;rw[if_neg z];exact ih ok h
 |case3 t h1 h2=>
  intro ok;rw[TriplesOk.eq_3 t h1 h2] at ok;exact ok.elim
theorem dA {params:Arguments}{body:Expr}{scope:Scope}{lpos:Pos}{clos:List (Str×Addr)}{c:Addr}(I:Inv X pins σ H s)(hcl:closureFor scope X.env=pure clos)(hgl:X.env.globals=mainGlobals)(hco:X.env.code=.ref c)(hhd:PySem.W.CodeHd X.base c yC)
  (hbi:X.base.BuiltinsAt X.mg yC) (hdf:defaultsOf params X.env=([],[])) (hq:X.env.qual++("<lambda>":Str)=wc) (hne:mainGlobals≠yC) (T:TabAt H) {Q:Value->Shared->Prop}
  (h:∀(f c':Addr) (H':Hp) (s':Shared),Inv X pins σ H' s'->TabAt H'->(∀a o,a≠yC->H a=some o->H' a=some o)->(∀a ps,H a=some (.tbl ps)->∃qs,H' a=some (.tbl qs))->H f=none->H' f=some (ju f c' wc params body scope clos)->H' c'=some (tY c')->Q (.ref f) s'):
  wpAny (model X.prog X.w) X.A (eval (.Lambda params body scope lpos) X.env) Q X.xe s:=by
 refine PySem.W.kla_eval hdf ?_;rw[hq];obtain⟨ps,t1,t2,t3⟩:=T.ex;have hT:s.heap.get? yC=some (PySem.W.tabObj ps):=I.hok _ _ t1;have hb:∀b o,X.base.get? b=some o->s.heap.get? b=some o:=fun b o e=>(I.bs b o e).1;have hhd':PySem.W.CodeHd s.heap c yC:=by
  obtain⟨o,vs,f1,f2,f3,f4,f5,f6,f7,e1,e2⟩:=hhd;exact⟨o,vs,f1,f2,f3,f4,f5,f6,f7,hb _ _ e1,e2⟩
 have hbi':s.heap.BuiltinsAt X.mg yC:=by
  obtain⟨bm,o,e1,e2,e3,e4,e5,e6⟩:=hbi;exact⟨bm,o,e1,e2,e3,e4,hb _ _ e5,e6⟩
 have hns:s.heap.Ns mainGlobals X.mg:=by
  obtain⟨o,es,ep,e,d,r⟩:=I.ok.mod.glob;exact⟨o,es,ep,hb _ _ e,d,r⟩
 cases hc:codeAmong lpos ps.toList with
 |none=>
  refine PySem.W.kla_makeFunction hcl hgl hns hco hhd' hT t2 hc hne hbi' fun c' ctv h' tk ex l1 l2 cr ht=>?_;have hlt:c'<(h'.push (PySem.W.kla_obj "<lambda>" wc params body scope clos ((X.mg "__name__").getD Value.none) c' ctv)).objs.size:=by rw[size_push'];omega
  have n1:(c':Addr)≠h'.objs.size:=zQ7 l2;have szT:yC<s.heap.objs.size:=zP6 hT;have n2:(c':Addr)≠yC:=zZ2 (zR0 szT l1);have lf:s.heap.objs.size<=h'.objs.size:=zW0 (Nat.lt_of_le_of_lt l1 l2);have n3:(h'.objs.size:Addr)≠yC:=zZ2 (zR0 szT lf)
  let HN:Hp:=upd (upd (upd H h'.objs.size (ju h'.objs.size c' wc params body scope clos)) c' (tY c')) yC (.tbl (ps++#[rawInt ↑lpos.line,rawInt ↑lpos.col,Value.ref c']))
  have eP:HN yC=some (.tbl (ps++#[rawInt ↑lpos.line,rawInt ↑lpos.col,Value.ref c'])):=zk;have eC:HN c'=some (tY c'):=by show upd _ _ _ _=_;rw[zh n2,zk]
  have eF:HN h'.objs.size=some (ju h'.objs.size c' wc params body scope clos):=by show upd _ _ _ _=_;rw[zh n3,zh n1.symm,zk]
  have old:∀b,b≠yC->b<s.heap.objs.size->HN b=H b:=fun b nb lb=>by
   show upd _ _ _ _=_;rw[zh nb,zh (zQ7 (zR0 lb l1)),zh (zQ7 (zR0 lb lf))]
  have I1:Inv X pins σ HN {s with heap:=h'.push (PySem.W.kla_obj "<lambda>" wc params body scope clos ((X.mg "__name__").getD Value.none) c' ctv),toks:=tk}:=by
   refine I.tblMore (more:=#[rawInt ↑lpos.line,rawInt ↑lpos.col,Value.ref c']) t1 (fun b u nb e=>zO8 _ (ex b u nb e)) (zO8 _ ht) eP old fun b o lb e=>?_;by_cases z1:b=h'.objs.size
   ·subst z1;rw[eF] at e;cases e;exact bu (zP9 _ rfl)
   ·by_cases z2:b=c'
    ·subst z2;rw[eC] at e;cases e;obtain⟨c2,o,vs,t,e1,e2,e3⟩:=cr;cases e1;exact zp9 ⟨_,o,vs,t,rfl,zO8 _ e2,e3⟩
    ·have nb:b≠yC:=fun z=>absurd lb (Nat.not_le_of_lt (z▸szT));have e':HN b=H b:=by show upd _ _ _ _=_;rw[zh nb,zh z2,zh z1]
     rw[e',I.hok.fresh lb] at e;cases e
  have stay:∀a o,a≠yC->H a=some o->HN a=some o:=fun a o no e=>by
   have la:a<s.heap.objs.size:=by
    rcases zZ4 a s.heap.objs.size with z|z
    ·exact z
    ·rw[I.hok.fresh z] at e;cases e
   rw[old a no la];exact e
  refine h _ c' HN _ I1 ⟨_,eP,?_,fun pos cv hcv=>?_⟩ stay (fun a qs e=>?_) (I.hok.fresh lf) eF eC
  ·rw[Array.toList_append];exact TriplesOk_snoc _ _ _ _ t2
  ·rw[Array.toList_append] at hcv;rcases jn _ t2 hcv with z|z
   ·obtain⟨c2,rfl,e2⟩:=t3 _ _ z;exact⟨c2,rfl,stay _ _ (fun z=>by rw[z,t1] at e2;cases e2) e2⟩
   ·exact⟨c',z,eC⟩
  ·by_cases za:a=yC
   ·exact⟨_,by rw[za];exact eP⟩
   ·refine⟨qs,?_⟩;rw[old a za (by
     rcases zZ4 a s.heap.objs.size with z|z
     ·exact z
     ·rw[I.hok.fresh z] at e;cases e)]
    exact e
 |some cv=>
  obtain⟨c',rfl,t4⟩:=t3 _ _ hc;refine PySem.W.kla_makeFunctionHit hcl hgl hns hco hhd' hT t2 hc hbi' fun ctv h' tk k l=>?_;have hf:H h'.objs.size=none:=I.hok.fresh l;have k2:∀b u,s.heap.get? b=some u->(h'.push (PySem.W.kla_obj "<lambda>" wc params body scope clos ((X.mg "__name__").getD Value.none) c' ctv)).get? b=some u:=fun b u e=>zO8 _ (k b u e);have I1:=I.laid (t':=tk) (o:=ju h'.objs.size c' wc params body scope clos) k2 l (bu (zP9 _ rfl));have n1:∀a o,H a=some o->a≠h'.objs.size:=fun a o e z=>by rw[z,hf] at e;cases e
  refine h _ c' _ _ I1 (T.same fun a o _ e=>by rw[zh (n1 a o e)];exact e) (fun a o _ e=>by rw[zh (n1 a o e)];exact e) (fun a qs e=>⟨qs,by rw[zh (n1 a _ e)];exact e⟩) hf zk ?_;rw[zh (n1 _ _ t4)];exact t4
end
structure wN (x y:Str)(params:Arguments)(scope:Scope):Prop where
 kind:scope.kind=.function
 co:scope.isCoroutine=false
 gen:scope.isGenerator=false
 px:scope.names.lookup x=some .local
 py:scope.names.lookup y=some .free
 nocell:∀z∈scope.names,z.2≠NameKind.cell
 only:∀z∈scope.names,z.2=NameKind.free->z.1=y
 ne:x≠y
def nJ (P:Program)(w:World)(K:PySem.W.Frag)(mg:Str->Option Value)(base:Heap)(x y:Str)(scope:Scope)(f c cl:Addr)(A:Around)(outer:List Env)(s:Shared)(H:Hp):Cx where
 prog:=P
 w:=w
 K:=K
 mg:=mg
 base:=base
 A:=A.deeper (PySem.W.envX wc scope s.heap.objs.size f (.ref c) [(y,cl)])
 N:=[x,y]
 s₀:=s
 H₀:=H
 env:=PySem.W.envX wc scope s.heap.objs.size f (.ref c) [(y,cl)]
 outer:=outer
 stack:=PySem.W.envX wc scope s.heap.objs.size f (.ref c) [(y,cl)]::outer
 ex:=[]
 calm:=true
 fn:=fun _=>false
 pn:=[]
 xe:=fun _ _=>False
theorem gO {P:Program}{w:World}{K:PySem.W.Frag}{mg:Str->Option Value}{base:Heap}{x y:Str}{params:Arguments}{scope:Scope}{f c cl:Addr}{A:Around}{outer:List Env}{s:Shared}{H:Hp}{h':Heap}{tk:Nat}{v l:V}{u ul:Value}
  (S:wN x y params scope) (hd:A.handled=none) (e0:tJ P w K mg base A outer s H) (rv:RelV v u) (rl:RelV l ul) (hcl:s.heap.IsCell cl (some ul)) (fcl:H cl=none)
  (ns:h'.Ns s.heap.objs.size fun z=>[(x,u)].reverse.lookup z) (k:∀b o,s.heap.get? b=some o->h'.get? b=some o):
  Inv (nJ P w K mg base x y scope f c cl A outer s H) [] [some v,some l] H {s with heap:=h',toks:=tk}:=by
 have noA:∀b:Addr,b∉(nJ P w K mg base x y scope f c cl A outer s H).ex:=fun b z=>absurd (show b∈([]:List Addr) from z) (by simp);have one:∀z d,(nJ P w K mg base x y scope f c cl A outer s H).env.cells.lookup z=some d->z=y/\d=cl:=fun z d h=>by
  have h:List.lookup z [(y,cl)]=some d:=h;rw[zT7] at h;split at h
  ·rename_i e;cases h;exact⟨eq_of_beq e,rfl⟩
  ·cases h
 have hit:(nJ P w K mg base x y scope f c cl A outer s H).env.cells.lookup y=some cl:=by
  show List.lookup y [(y,cl)]=some cl;simp[zT7]
 have cell':h'.IsCell cl (some ul):=by
  obtain⟨o,e1,e2⟩:=hcl;exact⟨o,k _ _ e1,e2⟩
 refine⟨⟨e0.mod,S.kind,rfl,rfl,zP3 _,fun a b d h1 h2=>(one a d h1).1.trans (one b d h2).1.symm,fun z hz=>?_,fun z d hf _=>?_,fun _=>hd,Around.frames_deeper e0.frames,.inr ⟨rfl,rfl⟩,fun b z=>absurd z (noA b),e0.bs,e0.bsz,fun b _ _=>noA b,fun b z=>absurd z (noA b),e0.funs,e0.frf⟩,
  rfl,e0.bare,Un.kept k,⟨_,ns,fun i z v' h1 h2 h3=>?_⟩,fun z d h=>?_,e0.hok.fresh (zP3 _),fun z d h=>?_,fun p hp=>absurd (show p∈([]:List (Addr×Obj)) from hp) (by simp),e0.hok.kept k,rfl⟩
 ·have hz:scope.names.lookup z=some .cell\/scope.names.lookup z=some .free:=hz;rcases hz with hz|hz
  ·exact absurd rfl (S.nocell _ (zU0 hz))
  ·have:z=y:=S.only _ (zU0 hz) rfl;subst this;exact⟨cl,hit⟩
 ·exact absurd (show false=true from hf) zQ5
 ·have h1:([x,y]:List Str)[i]?=some z:=h1
  match i,h1,h2 with
  |0,h1,h2=>
   cases h1;cases h2;exact⟨u,rv,.inl ⟨S.px,by simp[zT7]⟩⟩
  |1,h1,h2=>
   cases h1;cases h2;exact⟨ul,rl,.inr ⟨.inr S.py,cl,hit,cell'⟩⟩
  |i+2,h1,h2=>simp at h1
 ·obtain⟨rfl,rfl⟩:=one z d h;exact⟨_,cell'⟩
 ·obtain⟨rfl,rfl⟩:=one z d h;exact fcl
theorem zj7 {P:Program}{w:World}{K:PySem.W.Frag}{mg:Str->Option Value}{base:Heap}{x y:Str}{params:Arguments}{body:Expr}{scope:Scope}{f c cl:Addr}{A:Around}{outer:List Env}{s:Shared}{H:Hp}{v l:V}{u ul:Value}{k:Nat}{Q:VK}{t:TE}
  (S:wN x y params scope) (hr:zV k A) (e0:tJ P w K mg base A outer s H) (hf:H f=some (ju f c wc params body scope [(y,cl)])) (hc:H c=some (tY c)) (hcl:s.heap.IsCell cl (some ul)) (fcl:H cl=none) (rv:RelV v u) (rl:RelV l ul)
  (hb:∀pm ctv,bindArgs (PySem.W.kla_fn "<lambda>" wc params body scope [(y,cl)] pm (.ref c) ctv) ⟨[u],[]⟩=pure [(x,u)])
  (ht:PE (nJ P w K mg base x y scope f c cl A outer s H) body t) (hq:t [some v,some l] H Q):
  codeAny (model P w) A (.call (.ref f) ⟨[u],[]⟩) (CR CX0 outer P w H s Q E0) s:=by
 obtain⟨⟨pm,ctv,ho⟩,_,_⟩:=e0.hok _ _ hf;have cr:s.heap.CodeRec (.ref c) wc:=(e0.hok _ _ hc).1;have lim:s.heap.NoLimit:=e0.mod.nolimit.keeps fun b o e=>(e0.bs b o e).1;refine PySem.W.kla_callFunE hr.depth ho rfl S.co S.gen rfl cr ?_;rw[hb];refine zP8 ?_;refine wpAny_newFunctionEnv S.nocell (fun z hz=>?_) (fun h' ns sb=>?_) S.kind
 ·rw[zP7.mp hz];exact S.px
 ·have kk:∀b o,s.heap.get? b=some o->h'.get? b=some o:=fun b o e=>sb.extBut b o (zQ7 (zP6 e)) (zO8 _ e);refine⟨lim.keeps kk,PySem.W.kla_codeExpr ?_⟩;have I:=gO (tk:=s.toks+[(x,u)].length) (f:=f) (c:=c) S hr.hd e0 rv rl hcl fcl ns kk;refine zT6 (ht [] _ _ H _ I hq) (fun u' s' hs=>?_) fun e s' hs=>hs.elim;obtain⟨v',H',J,r',q⟩:=hs;exact⟨v',H',J.os,J.bare,J.base,J.hok,r',q⟩
open PySem.W SortA
section
variable {X:Cx}{pins:List (Addr×Obj)}{σ:St}{H:Hp}{s:Shared}
def zd5 (X:Cx)(H1 H2:Hp)(s1 s2:Shared):Prop:=∀b o,s1.heap.get? b=some o->H1 b=none->b∉frs X.stack->s2.heap.get? b=some o/\H2 b=none
structure cU (X:Cx)(pins:List (Addr×Obj))(σ:St)(H:Hp)(D kS:Addr)(e1:Nat)(ps:List (Int×Int))(i:Nat)(s':Shared):Prop where
 ex:∃(H':Hp) (ks:List Value) (xs:List V) (e:Nat),Inv X pins σ H' s'/\(∀a o,H a=some o->H' a=some o)/\s'.heap.get? D=some (seqObj "list" #[] e1)/\s'.heap.get? kS=some (seqObj "list" ks.toArray e)/\H' D=none/\H' kS=none/\Vals xs ks/\PrV H' xs (ps.take i)
theorem eG {A:Around}{E:Value->Shared->Prop}{vs:List Value}{ps:List (Int×Int)}{f D kS:Addr}{e1:Nat}{Q:PUnit->Shared->Prop}(hlen:vs.length=ps.length)(h64:vs.length<64)(nD:D∉frs X.stack)(nK:kS∉frs X.stack)(hne:D≠kS)
  (fK:∀H',H' kS=none->xC X pins H' kS)
  (hcall:∀i v,vs[i]?=some v->∀H1 s1,Inv X pins σ H1 s1->(∀a o,H a=some o->H1 a=some o)->
   wpAny (model X.prog X.w) A (call (.ref f) [v]) (fun u s2=>∃t H2,u=.ref t/\Inv X pins σ H2 s2/\(∀a o,H1 a=some o->H2 a=some o)/\H2 t=some (.tup [.int (at2 ps i).1,.int (at2 ps i).2])/\zd5 X H1 H2 s1 s2) (fun _ _=>False) s1)
  (h0:cU X pins σ H D kS e1 ps 0 s) (hQ:∀s',cU X pins σ H D kS e1 ps vs.length s'->Q PUnit.unit s'):
  wpAny (model X.prog X.w) A (forIn vs PUnit.unit fun x __s=>do
   let __do_lift <-(call (.ref f) [x]).attempt
   match __do_lift with
    |Except.ok k=>do
     Builtin.List.listUpdate (.ref kS) fun x=>x.push k
     pure (ForInStep.yield PUnit.unit)
    |Except.error e=>do
     rule "list.sort.key-raised"
     let made <-Builtin.List.listItems (.ref kS)
     Builtin.List.listUpdate (.ref kS) fun x=>#[]
     letGo made.toList.reverse [e]
     Builtin.List.listUpdate (Value.ref D) fun x=>vs.toArray
     throw e
     pure (ForInStep.yield PUnit.unit)) Q E s:=by
 refine ksk_fold (cU X pins σ H D kS e1 ps) vs 0 s h0 (fun j x s' hj hI=>?_) (fun s' hI=>hQ s' (by simpa using hI));obtain⟨H1,ks,xs,e,I1,st,eD,eK,fD,fK',rv,pr⟩:=hI.ex;rw[z55] at pr ⊢;have hjl:j<ps.length:=by rw[<-hlen];exact (zP1.mp hj).1
 have lks:ks.length=j:=by rw[<-rv.length,pr.len,zS0];omega
 refine zO7 (wpAny_attempt (zT6 (hcall j x hj H1 s' I1 st) (fun u s2 hu=>?_) fun _ _ z=>z.elim));obtain⟨t,H2,rfl,I2,st2,et,kp⟩:=hu;obtain⟨eD2,fD2⟩:=kp D _ eD fD nD;obtain⟨eK2,fK2⟩:=kp kS _ eK fK' nK;refine zO7 (listUpdate_at eK2 rfl (zP8 ⟨rfl,?_⟩) (by rw[zQ0,lks,zU4];omega) (by rw[Array.size_push,zQ0,lks,zU4];omega));obtain⟨e',hk⟩:∃e',(s2.heap.update kS (Obj.mapSeq fun x=>x.push (Value.ref t))).get? kS=some (seqObj "list" (ks++[Value.ref t]).toArray e'):=by
  have:=zX1 eK2 fun x=>x.push (Value.ref t);rw[List.push_toArray] at this;exact⟨_,this⟩
 have kk:∀b o,b∉[kS]->s2.heap.get? b=some o->(s2.heap.update kS (Obj.mapSeq fun x=>x.push (Value.ref t))).get? b=some o:=fun b o nb q=>(zR2 _ _ (zS2 (by simpa using nb))).trans q;refine⟨H2,ks++[Value.ref t],xs++[V.ref t],e',I2.turnL (t':=s2.toks) kk (fun b hb=>by rw[zP7.mp hb];exact fK H2 fK2),fun a o q=>st2 a o (st a o q),kk D _ (by simpa using hne) eD2,hk,fD2,fK2,rv.append (.cons rfl .nil),?_⟩;rw[zW4,zO9 hjl];refine PrV.app (pr.keep fun a p q z=>st2 _ _ z) ?_;have ea:at2 ps j=ps[j]:=by unfold at2;rw[zP0,zO9 hjl];rfl
 rw[ea] at et;exact .cons et .nil
theorem kf {A:Around}{E:Value->Shared->Prop}{vs:List Value}{ps:List (Int×Int)}{f D:Addr}{n:Nat}{Pf:PySem.Fin->Shared->Prop}(I:Inv X pins σ H s)(ho:s.heap.get? D=some (seqObj "list" vs.toArray n))(hlen:vs.length=ps.length)(h64:vs.length<64)(fD:H D=none)
  (nD:D∉frs X.stack) (fpD:∀H',H' D=none->xC X pins H' D)
  (hcall:∀i v,vs[i]?=some v->∀H1 s1,Inv X pins σ H1 s1->(∀a o,H a=some o->H1 a=some o)->
   wpAny (model X.prog X.w) A (call (.ref f) [v]) (fun u s2=>∃t H2,u=.ref t/\Inv X pins σ H2 s2/\(∀a o,H1 a=some o->H2 a=some o)/\H2 t=some (.tup [.int (at2 ps i).1,.int (at2 ps i).2])/\zd5 X H1 H2 s1 s2) (fun _ _=>False) s1)
  (h:∀out H' s' c,Srt vs ps out->Inv X pins σ H' s'->(∀a o,H a=some o->H' a=some o)->s'.heap.get? D=some (seqObj "list" out.toArray c)->H' D=none->Pf (.done (.ret .none)) s'):
  wpAny (model X.prog X.w) A (ksk_tree D (.ref f) false) Pf E s:=by
 have hD:D<s.heap.objs.size:=zP6 ho;have s1:=z09 s.heap D (Obj.mapSeq fun _=>(#[]:Array Value));obtain⟨e1,ho1⟩:∃e1,(s.heap.update D (Obj.mapSeq fun _=>(#[]:Array Value))).get? D=some (seqObj "list" #[] e1):=⟨_,zX1 ho fun _=>#[]⟩;have hsz1:(s.heap.update D (Obj.mapSeq fun _=>(#[]:Array Value))).objs.size=s.heap.objs.size:=Heap.size_update _ _ _;unfold ksk_tree;refine zO7 (listItems_at ho rfl ?_);refine zO7 (listUpdate_at ho rfl ?_ (by rw[zQ0,zU4];omega) (zQ8 _));generalize hh1:s.heap.update D (Obj.mapSeq fun _=>(#[]:Array Value))=h1 at s1 ho1 hsz1;refine zO7 (seqEpoch_at ho1 rfl ?_);refine zO7 (wpAny_newTuple ?_ (by show vs.length<=_;rw[zU4];omega));refine zO7 (wpAny_newList ?_ (zQ8 _));refine zU6 ?_;show wpAny (model X.prog X.w) A (ksk_rest D (.ref f) false vs.toArray e1 (.ref (h1.push (seqObj "tuple" vs.toArray 0)).objs.size)) Pf E {s with heap:=(h1.push (seqObj "tuple" vs.toArray 0)).push (seqObj "list" #[] 0)};have kS0:(h1.push (seqObj "tuple" vs.toArray 0)).objs.size=s.heap.objs.size+1:=by rw[size_push',hsz1]
 have eK0:((h1.push (seqObj "tuple" vs.toArray 0)).push (seqObj "list" #[] 0)).get? (h1.push (seqObj "tuple" vs.toArray 0)).objs.size=some (seqObj "list" #[] 0):=zP9 _ rfl;have eD0:((h1.push (seqObj "tuple" vs.toArray 0)).push (seqObj "list" #[] 0)).get? D=some (seqObj "list" #[] e1):=zO8 _ (zO8 _ ho1);have k1:∀b o,b∉[D]->s.heap.get? b=some o->((h1.push (seqObj "tuple" vs.toArray 0)).push (seqObj "list" #[] 0)).get? b=some o:=fun b o hb e=>
  zO8 _ (zO8 _ ((s1.2 b (by simpa using hb)).trans e))
 have I0:Inv X pins σ H {s with heap:=(h1.push (seqObj "tuple" vs.toArray 0)).push (seqObj "list" #[] 0),toks:=s.toks}:=I.turnL k1 fun b hb=>by rw[zP7.mp hb];exact fpD H fD
 generalize (h1.push (seqObj "tuple" vs.toArray 0)).push (seqObj "list" #[] 0)=h2 at eK0 eD0 k1 I0;generalize hkS:(h1.push (seqObj "tuple" vs.toArray 0)).objs.size=kS at kS0 eK0;have lK:s.heap.objs.size<=kS:=by rw[kS0];exact zY1 _
 have fK:∀H',H' kS=none->xC X pins H' kS:=fun H' hn=>I.fpOk lK hn;have nK:(kS:Addr)∉frs X.stack:=fun z=>by
  rcases zP2.mp (I.stkSub _ z) with q|q
  ·exact (I.fpOk (H':=fun _=>none) lK rfl).2.1 q
  ·exact (I.fpOk (H':=fun _=>none) lK rfl).2.2.1 q
 have hne:D≠kS:=zQ7 (zR0 hD lK);have hK0:H kS=none:=I.hok.fresh lK;unfold ksk_rest;refine zO7 (wpAny_rule ?_);rw[z66];refine zO7 (eG (s:={s with heap:=h2}) hlen h64 nD nK hne fK hcall ⟨H,[],[],0,I0,fun _ _ q=>q,eD0,eK0,fD,hK0,.nil,.nil⟩ fun s' hI=>?_);obtain⟨H1,ks,xs,e,I1,st,eD,eK,fD1,fK1,rv,pr⟩:=hI.ex;rw[hlen,zW2] at pr;have lks:ks.length=vs.length:=by rw[<-rv.length,pr.len,hlen]
 refine zO7 (listItems_at eK rfl ?_);unfold ksk_end;dsimp only;rw[if_neg (by decide)];have P:Prs s'.heap ks ps:=pr.prs I1 rv;have tail:∀(st':SortSt) (out:List Value),out.length<=64->Srt vs ps out->failedOf st'=none->(arrOf st').map (·.2)=out.toArray->wpAny (model X.prog X.w) A (ksk_tail D false e1 (.ref kS) st') Pf E s':=by
  intro st' out lo so hf hout;unfold ksk_tail;dsimp only;rw[hout,hf];refine zO7 (listUpdate_at eK rfl ?_ (by rw[zQ0,lks,zU4];omega) (zQ8 _));have s3:=z09 s'.heap kS (Obj.mapSeq fun _=>(#[]:Array Value));have eD3:(s'.heap.update kS (Obj.mapSeq fun _=>(#[]:Array Value))).get? D=some (seqObj "list" #[] e1):=(s3.2 D hne).trans eD;have I3:Inv X pins σ H1 {s' with heap:=s'.heap.update kS (Obj.mapSeq fun _=>(#[]:Array Value)),toks:=s'.toks}:=I1.turnL (ch:=[kS]) (fun b o hb q=>(s3.2 b (by simpa using hb)).trans q) fun b hb=>by rw[zP7.mp hb];exact fK H1 fK1
  generalize s'.heap.update kS (Obj.mapSeq fun _=>(#[]:Array Value))=h3 at eD3 I3;refine zO7 (zY2 ?_);refine zO7 (seqEpoch_at eD3 rfl ?_);rw[if_neg (by decide)];refine zO7 (listUpdate_at eD3 rfl ?_ (zQ8 _) (by rw[zQ0,zU4];omega));have s4:=z09 h3 D (Obj.mapSeq fun _=>out.toArray);obtain⟨c4,eD4⟩:∃c4,(h3.update D (Obj.mapSeq fun _=>out.toArray)).get? D=some (seqObj "list" out.toArray c4):=⟨_,zX1 eD3 fun _=>out.toArray⟩;simp only[bne_self_eq_false,zS9,zW3];have I4:=I3.turnL (ch:=[D]) (t':=s'.toks) (h':=h3.update D (Obj.mapSeq fun _=>out.toArray)) (fun b o hb q=>(s4.2 b (by simpa using hb)).trans q) fun b hb=>by rw[zP7.mp hb];exact fpD H1 fD1
  exact zP8 (h out H1 _ c4 so I4 st eD4 fD1)
 by_cases hn2:vs.toArray.size<2
 ·rw[if_pos hn2,if_pos hn2];have hv:vs.length<2:=by simpa using hn2
  refine zO7 (zP8 ?_);refine zO7 (zP8 ?_);dsimp only;have so:Srt vs ps vs:=by
   match vs,ps,hv,hlen with
   |[],[],_,_=>exact⟨[],rfl,rfl,fun _ h=>by simp at h,.refl _,.nil⟩
   |[v],[p],_,_=>exact⟨[0],rfl,rfl,fun i h=>by simp at h;subst h;simp,.refl _,by simp⟩
   |_::_::_,_,hv,_=>simp only[zQ4] at hv;omega
  refine tail _ vs (by omega) so rfl ?_;rw[if_neg (by decide)];show (ks.toArray.zip vs.toArray).map (·.2)=vs.toArray;apply Array.toList_inj.mp;rw[Array.toList_map,Array.toList_zip];exact List.map_snd_zip (z50 lks.symm)
 ·rw[if_neg hn2,if_neg hn2,if_neg (by decide)];have h2:2<=vs.length:=by simp at hn2;omega
  have ask:=jR (prog:=X.prog) (w:=X.w) (A:=A) (s:=s') (by rw[lks];exact h2) P
   (R:=fun p s''=>Srt vs ps (p.toList.map fun i=>vs.getD i Value.none)/\s''=s') (fun ix a b c d=>⟨⟨ix,by simp,a,b,c,d⟩,rfl⟩)
  refine zO7 (zT6 ask (fun κ s0 hk=>?_) fun _ _ x=>x.elim);rw[lks] at hk;refine zO7 (zT6 (kat_run (Q:=fun st' s''=>∃p:Array Nat,p.size=vs.length/\arrOf st'=p.map (kas_item (ks.toArray.zip vs.toArray))/\failedOf st'=none/\Srt vs ps (p.toList.map fun i=>vs.getD i Value.none)/\s''=s')
   lks h2 h64 (fun p' st' s'' a1 a2 a3 a4=>⟨p',a1,a2,a3,a4⟩) hk) ?_ fun _ _ e=>e)
  rintro⟨⟨⟩,st'⟩ s'' ⟨p,hp,har,hf,so,rfl⟩;dsimp only;exact tail st' _ (by rw[so.len,<-hlen];omega) so hf (kat_snds lks har)
end
section
variable {X:Cx}{pins:List (Addr×Obj)}{σ:St}{H:Hp}{s:Shared}
theorem Inv.adopt {D:Addr}{o:HO}(I:Inv X pins σ H s)(fp:xC X pins H D)(new:zM X.prog X.w (upd H D o) s.heap D o):Inv X pins σ (upd H D o) s:=by
 have nD:=fp.1;have st:∀b u,H b=some u->upd H D o b=some u:=fun b u e=>by rw[zh (zm e nD)];exact e
 have:=I.step (g':=s.gens) (t':=s.toks) (d':=s.drawn) (h':=s.heap) (H':=upd H D o) (ch:=[D]) (fun b hb=>by rw[zP7.mp hb];exact⟨fp.2.2.2.1,fp.2.1,fp.2.2.2.2.1,fp.2.2.2.2.2⟩) (fun b u _ _ _ e _=>e) (fun b u _ _ _ e _=>⟨u.slots,e⟩) (fun b u hb e n=>by rw[zh (by simpa using hb)];exact n)
  (fun b u _ e=>⟨u,e⟩) (fun b xs e=>st b _ e) (fun b u xs e=>st b _ e) (fun b ps e=>⟨#[],by rw[st b _ e];simp⟩) (fun m hm=>hm) (fun b u e=>?_) I.bare
 ·exact this
 ·by_cases hb:b=D
  ·subst hb;rw[zk] at e;cases e;exact new
  ·rw[zh hb] at e;exact (I.hok b u e).stay (fun c v _ q=>q) (fun c q=>st c _ q) fun c xs q=>st c _ q
theorem oe {A:Around}{E:Value->Shared->Prop}{l f:Addr}{vs:List Value}{ps:List (Int×Int)}{Q:Value->Shared->Prop}(I:Inv X pins σ H s)(hl:s.heap.IsList l vs.toArray)(hlen:vs.length=ps.length)(h64:vs.length<64)
  (hcall:∀i v,vs[i]?=some v->∀H1 s1,Inv X pins σ H1 s1->(∀a o,H a=some o->H1 a=some o)->
   wpAny (model X.prog X.w) A.in1.in1 (call (.ref f) [v]) (fun u s2=>∃t H2,u=.ref t/\Inv X pins σ H2 s2/\(∀a o,H1 a=some o->H2 a=some o)/\H2 t=some (.tup [.int (at2 ps i).1,.int (at2 ps i).2])/\zd5 X H1 H2 s1 s2) (fun _ _=>False) s1)
  (h:∀D out H' s' c,s.heap.objs.size<=D->Srt vs ps out->Inv X pins σ H' s'->(∀a o,H a=some o->H' a=some o)->s'.heap.get? D=some (seqObj "list" out.toArray c)->H' D=none->xC X pins H' D->Q (.ref D) s'):
  wpAny (model X.prog X.w) A (call (.builtin "sorted") [.ref l] [("key",.ref f)]) Q E s:=by
 refine call_function_entry_kw kind_sorted plain_sorted entry_sorted (ksk_s1 _ _) ?_;unfold Builtin.«sorted»;refine zO7 (m:=checkCount "sorted" 1 1 _) (zP8 ?_);refine zO7 (collect_list hl ?_ (by rw[zU4];omega));refine zO7 (wpAny_newList ?_ (by rw[zU4];omega));have hsz:((s.heap.push (seqObj "list" #[] 0)).update s.heap.objs.size (Obj.mapSeq (·++vs.toArray))).objs.size=s.heap.objs.size+1:=by rw[Heap.size_update,size_push']
 have hoL:(((s.heap.push (seqObj "list" #[] 0)).update s.heap.objs.size (Obj.mapSeq (·++vs.toArray))).push (seqObj "list" vs.toArray 0)).get? (s.heap.objs.size+1)=some (seqObj "list" vs.toArray 0):=by rw[<-hsz];exact zP9 _ rfl
 have keep:∀b o,s.heap.get? b=some o->(((s.heap.push (seqObj "list" #[] 0)).update s.heap.objs.size (Obj.mapSeq (·++vs.toArray))).push (seqObj "list" vs.toArray 0)).get? b=some o:=fun b o q=>by
  have hlt:b<s.heap.objs.size:=zP6 q;rw[Heap.get?_push_ne _ _ _ (by rw[hsz];exact zQ7 (z39 hlt)),Heap.get?_update_ne _ _ _ _ (zQ7 hlt),Heap.get?_push_ne _ _ _ (zQ7 hlt)];exact q
 show wpAny _ _ _ _ _ {s with heap:=((s.heap.push (seqObj "list" #[] 0)).update s.heap.objs.size (Obj.mapSeq (·++vs.toArray))).push (seqObj "list" vs.toArray 0)};rw[hsz];have I1:Inv X pins σ H {s with heap:=((s.heap.push (seqObj "list" #[] 0)).update s.heap.objs.size (Obj.mapSeq (·++vs.toArray))).push (seqObj "list" vs.toArray 0),toks:=s.toks}:=I.kept keep;have lD:s.heap.objs.size<=s.heap.objs.size+1:=zY1 _;refine zO7 (zU6 (wpAny_call_entry_kw slot_list_sort ⟨_,hoL,rfl⟩ entry_list_sort ?body (ksk_l1 _ _)))
 case body=>
  rw[ksk_t1];refine kf (s:={s with heap:=((s.heap.push (seqObj "list" #[] 0)).update s.heap.objs.size (Obj.mapSeq (·++vs.toArray))).push (seqObj "list" vs.toArray 0)}) I1 hoL hlen h64 (I.hok.fresh lD) (fun z=>?_) (fun H' hn=>I.fpOk lD hn) hcall fun out H' s' c so I' st e fD=>?_
  ·rcases zP2.mp (I.stkSub _ z) with q|q
   ·exact (I.fpOk (H':=fun _=>none) lD rfl).2.1 q
   ·exact (I.fpOk (H':=fun _=>none) lD rfl).2.2.1 q
  ·exact⟨_,rfl,zP8 ⟨_,rfl,h _ out H' s' c lD so I' st e fD (I.fpOk lD fD)⟩⟩
end
section
variable {X:Cx}{a:Expr}{p pos kpos lpos p1 p2 p3 p4 p5 p6:Pos}{n1:Nat}{x y:Str}{params:Arguments}{scope:Scope}
abbrev pairE (x y:Str)(n1:Nat)(p1 p2 p3 p4 p5 p6:Pos):Expr:=.Tuple [.Subscript (.Name y p1) (.Name x p2) p3,.UnaryOp .USub (.Name x p4) p5] n1 p6
def keyOf (zs:List Int)(n:Int):Int×Int:=(zs.getD n.toNat 0,-n)
theorem zi4 {P:Program}{w:World}{K:PySem.W.Frag}{mg:Str->Option Value}{base:Heap}{f c cl l:Addr}{A:Around}{outer:List Env}{s:Shared}{H:Hp}{u ul:Value}{k:Nat}{n:Int}{zs:List Int}
  (S:wN x y params scope) (hr:zV k A) (e0:tJ P w K mg base A outer s H) (hf:H f=some (ju f c wc params (pairE x y n1 p1 p2 p3 p4 p5 p6) scope [(y,cl)])) (hc:H c=some (tY c)) (hcl:s.heap.IsCell cl (some ul)) (fcl:H cl=none) (rv:RelV (.int n) u) (rl:RelV (.ref l) ul)
  (hb:∀pm ctv,bindArgs (PySem.W.kla_fn "<lambda>" wc params (pairE x y n1 p1 p2 p3 p4 p5 p6) scope [(y,cl)] pm (.ref c) ctv) ⟨[u],[]⟩=pure [(x,u)])
  (hdx:(x == ("__debug__":Str))=false) (hdy:(y == ("__debug__":Str))=false) (hcx:(x == ("__classdict__":Str))=false) (hcy:(y == ("__classdict__":Str))=false)
  (hl:SqL K H l (zs.map V.int)) (h0:0<=n) (h1:n<zs.length):
  codeAny (model P w) A (.call (.ref f) ⟨[u],[]⟩) (CR CX0 outer P w H s (fun v H'=>∃t,v=.ref t/\H t=none/\H'=upd H t (.tup [.int (keyOf zs n).1,.int (keyOf zs n).2])) E0) s:=by
 obtain⟨j,rfl⟩:=zX7 h0;have hj:j<zs.length:=by omega
 refine zj7 S hr e0 hf hc hcl fcl rv rl hb (t:=_) (oK (zg (zS zW (xH (i:=1) rfl (Or.inr (Or.inr S.py)) hdy hcy) (xH (i:=0) rfl (Or.inl S.px) hdx hcx) (fun _ _=>rfl)) (zg (dH ky (xH (i:=0) rfl (Or.inl S.px) hdx hcx)) zu))) ?_;refine⟨_,rfl,_,rfl,l,_,_,.int (zs.getD j 0),rfl,rfl,hl,xA ?_,_,rfl,_,rfl,(by show 2<=sizeLine;decide),fun t ht=>⟨t,rfl,ht,?_⟩⟩
 ·rw[zQ2,zO9 hj,zP0,zO9 hj];rfl
 ·simp[keyOf]
def qC (ns zs ms:List Int):Prop:=ms.Perm ns/\ms.Pairwise fun m k=>lx (keyOf zs k) (keyOf zs m)=false
theorem za8 {ns zs:List Int}{vs out:List Value}(r:Vals (ns.map V.int) vs)(h:Srt vs (ns.map (keyOf zs)) out):∃ms,qC ns zs ms/\Vals (ms.map V.int) out:=by
 obtain⟨ix,rfl,hl,hb,hp,hw⟩:=h;have at_:∀i∈ix,at2 (ns.map (keyOf zs)) i=keyOf zs (ns.getD i 0):=fun i hi=>by
  have:=hb i hi;rw[zO6] at this;unfold at2;rw[zP0,zQ2,zO9 this,zP0,zO9 this];rfl
 have em:ix.map (at2 (ns.map (keyOf zs)))=(ix.map fun i=>ns.getD i 0).map (keyOf zs):=by
  rw[zU8];exact List.map_congr_left at_
 rw[em] at hp hw;have inv:∀l:List Int,(l.map (keyOf zs)).map (fun q=>-q.2)=l:=fun l=>by
  rw[zU8];have:((fun q:Int×Int=>-q.2)∘keyOf zs)=id:=by funext n;simp[keyOf]
  rw[this,List.map_id]
 refine⟨ix.map fun i=>ns.getD i 0,⟨?_,List.pairwise_map.mp hw⟩,?_⟩
 ·have:=hp.map (fun q=>-q.2)
  rwa [inv,inv] at this
 ·clear em hp hw hl
  induction ix with
  |nil=>exact .nil
  |cons i ix ih=>
   refine .cons ?_ (ih (fun k hk=>hb k (zP5 _ hk)) fun k hk=>at_ k (zP5 _ hk));have hi:=hb i zQ1;rw[zO6] at hi;refine lj r i _ ?_;show _=some (V.int (ns.getD i 0));rw[zQ2,zO9 hi,zP0,zO9 hi];rfl
theorem vh {K:PySem.W.Frag}{H H':Hp}{a:Addr}{xs:List V}(h:SqL K H a xs)(k:∀a o,(∀ps,o≠.tbl ps)->H a=some o->H' a=some o):SqL K H' a xs:=by
 rcases h with (h|⟨o,h⟩)|h
 ·exact .inl (.inl (k _ _ (fun _ z=>by cases z) h))
 ·exact .inl (.inr ⟨o,k _ _ (fun _ z=>by cases z) h⟩)
 ·exact .inr h
theorem kF {ta:TE}{j k:Nat}{c:Addr}(S:wN x y params scope)(hr:zV (k+2) X.A)(hg:Gl X "sorted")(hm:X.mg "sorted"=none)(hN:X.N[j]?=some y)(hy:X.env.scope.names.lookup y=some .cell)
  (hcl:∀cl,X.env.cells.lookup y=some cl->closureFor scope X.env=pure [(y,cl)]) (hgl:X.env.globals=mainGlobals) (hco:X.env.code=.ref c) (hhd:PySem.W.CodeHd X.base c yC) (hbi:X.base.BuiltinsAt X.mg yC) (hdf:defaultsOf params X.env=([],[])) (hq:X.env.qual++("<lambda>":Str)=wc) (hne:mainGlobals≠yC)
  (hb:∀u cl c' pm ctv,bindArgs (PySem.W.kla_fn "<lambda>" wc params (pairE x y n1 p1 p2 p3 p4 p5 p6) scope [(y,cl)] pm (.ref c') ctv) ⟨[u],[]⟩=pure [(x,u)])
  (hdx:(x == ("__debug__":Str))=false) (hdy:(y == ("__debug__":Str))=false) (hcx:(x == ("__classdict__":Str))=false) (hcy:(y == ("__classdict__":Str))=false) (ha:PE X a ta)
  (he:starEach [a] X.env=(false,eval a X.env)::starEach [] X.env:=by rfl) (he2:backTo pos (starEach [a] X.env)=(false,eval a X.env)::backTo pos (starEach [] X.env):=by rfl) (hpl:((backTo pos (starEach [a] X.env)).any fun x=>x.1)=false:=by rfl):
  PE X (.Call (.Name "sorted" p) [a] [⟨some "key",.Lambda params (pairE x y n1 p1 p2 p3 p4 p5 p6) scope lpos,kpos⟩] pos)
   (fun σ H Q=>ta σ H fun v H1=>∃l ns lp zs,v=.ref l/\SqL X.K H1 l (ns.map V.int)/\σ[j]?=some (some (.ref lp))/\SqL X.K H1 lp (zs.map V.int)/\ns.length<64/\(∀n∈ns,0<=n/\n<zs.length)/\TabAt H1/\
    ∀D H' ms,H1 D=none->H' D=some (.lst (ms.map V.int))->qC ns zs ms->TabAt H'->(∀a o,a≠yC->H1 a=some o->H' a=some o)->Q (.ref D) H'):=by
 intro pins s σ H Q I h;refine zZ7 (xq I hg hm boot_sorted ?_)
 let Pd:V->Hp->Prop:=fun v H1=>∃l ns lp zs,v=.ref l/\SqL X.K H1 l (ns.map V.int)/\σ[j]?=some (some (.ref lp))/\SqL X.K H1 lp (zs.map V.int)/\ns.length<64/\(∀n∈ns,0<=n/\n<zs.length)/\TabAt H1/\
    ∀D H' ms,H1 D=none->H' D=some (.lst (ms.map V.int))->qC ns zs ms->TabAt H'->(∀a o,a≠yC->H1 a=some o->H' a=some o)->Q (.ref D) H'
 refine callWith_kw (thn (zg ha zu he pos pins s σ H (fun vs H1=>match vs with|[v]=>Pd v H1|_=>False) I h) fun us s1 ⟨vs,H1,I1,r1,q1⟩=>?_) he2 hpl
 match vs,r1,q1 with
 |[v],r1,q1=>
  obtain⟨u,rfl,ru⟩:=vals1 r1;obtain⟨l,ns,lp,zs,rfl,hS,hσ,hZ,h64,hin,T,q⟩:=(show Pd v H1 from q1);obtain⟨m,hn,hl⟩:=id I1.loc;obtain⟨ul,rl,lk⟩:=hl j y _ hN hσ (.inr (.inl hy));obtain⟨cl,ecl,hcell⟩:∃cl,X.env.cells.lookup y=some cl/\s1.heap.IsCell cl (some ul):=by
   rcases lk with ⟨z,_⟩|⟨_,cl,z1,z2⟩
   ·have z:X.env.scope.names.lookup y=some .local:=z;rw[hy] at z;cases z
   ·exact⟨cl,z1,z2⟩
  show wpAny _ _ (evalAll ((do let v <-eval (.Lambda params (pairE x y n1 p1 p2 p3 p4 p5 p6) scope lpos) X.env;standAt pos;pure v)::[])) _ _ s1;refine wpAny_evalAll_cons (zO7 (dA I1 (hcl cl ecl) hgl hco hhd hbi hdf hq hne T fun f c' H2 s2 I2 T2 st2 tb2 hf hlam hcode=>zO7 (wpAny_standAt (zP8 (wpAny_evalAll_nil ?_)))));cases ru;show wpAny _ _ (call (.builtin "sorted") [.ref l] [("key",.ref f)]) _ _ s2;have st3:∀a o,(∀ps,o≠.tbl ps)->H1 a=some o->H2 a=some o:=fun a o no e=>st2 a o (fun z=>by
   obtain⟨ps,t1,_⟩:=T.ex;rw[z,t1] at e;cases e;exact no _ rfl) e
  have S2:=vh hS st3;have Z2:=vh hZ st3;obtain⟨its,r,ht,hz⟩:=I2.list S2;have lenI:its.length=ns.length:=by rw[<-r.length,zO6]
  refine oe (ps:=ns.map (keyOf zs)) I2 ht.isList (by rw[zO6];exact lenI) (by omega) (fun i v hv H3 s3 I3 st3=>?_) fun D out H' s' c0 lD so I' st e fD fp=>?_
  ·have hi:i<ns.length:=by rw[<-lenI];exact (zP1.mp hv).1
   have rv:RelV (.int ns[i]) v:=by
    have:=lj r i (.int ns[i]) (by rw[zQ2,zO9 hi];rfl)
    rwa [zP0,hv] at this
   obtain⟨m3,hn3,hl3⟩:=id I3.loc;obtain⟨ul3,rl3,lk3⟩:=hl3 j y _ hN hσ (.inr (.inl hy));have cell3:s3.heap.IsCell cl (some ul3):=by
    rcases lk3 with ⟨z,_⟩|⟨_,cl3,z1,z2⟩
    ·have z:X.env.scope.names.lookup y=some .local:=z;rw[hy] at z;cases z
    ·rw[ecl] at z1;cases z1;exact z2
   have hb3:=hin ns[i] (zT9 hi);have ek:at2 (ns.map (keyOf zs)) i=keyOf zs ns[i]:=by
    unfold at2;rw[zP0,zQ2,zO9 hi];rfl
   rw[ek];have Z3:=vh Z2 fun a o _ e=>st3 a o e;refine wpAny_call (z51 (zi4 S hr.in1.in1 I3.env0.in1.in1 (st3 _ _ hlam) (st3 _ _ hcode) cell3 (I3.freeC y cl ecl) rv rl3 (fun pm ctv=>hb _ _ _ pm ctv) hdx hdy hcx hcy Z3 hb3.1 hb3.2) fun rr s4 hq4=>?_);cases rr with
   |error e=>exact False.elim hq4
   |ok fl=>
    cases fl with
    |next=>exact False.elim hq4
    |brk=>exact False.elim hq4
    |cont=>exact False.elim hq4
    |ret u4=>
     obtain⟨v4,H4,os,bare,un,hok,r4,t,rfl,ht4,eH4⟩:=hq4;cases r4;obtain⟨hh,g,d,tk,os'⟩:=s4;obtain rfl:os'=s3.os:=os;refine⟨t,H4,rfl,I3.call (h':=hh) (g':=g) (d':=d) (t':=tk) (ch:=[]) un hok bare (fun b z=>absurd z (by simp)),fun a o e=>?_,by rw[eH4];exact zk,fun b o e n nf=>⟨un.keep b o e n nf (by simp),un.free b o e n (by simp)⟩⟩;rw[eH4,zh (zm e ht4)];exact e
  ·obtain⟨ms,sm,rm⟩:=za8 r so;have nD:∀a o,H' a=some o->a≠D:=fun a o e z=>by rw[z,fD] at e;cases e
   have h2D:H2 D=none:=I2.hok.fresh lD;have stD:∀a o,H2 a=some o->upd H' D (.lst (ms.map V.int)) a=some o:=fun a o e=>by rw[zh (nD a o (st a o e))];exact st a o e
   refine⟨.ref D,upd H' D (.lst (ms.map V.int)),I'.adopt fp ⟨?_,out,c0,rm,e⟩,rfl,q D _ ms ?_ zk sm (T2.same fun a o _ e=>stD a o e) fun a o no e=>stD a o (st2 a o no e)⟩
   ·rw[zO6,sm.1.length_eq,zU4];omega
   ·cases z:H1 D with
    |none=>rfl
    |some o=>
     by_cases nt:∀ps,o≠.tbl ps
     ·rw[st3 D o nt z] at h2D;cases h2D
     ·simp only[Classical.not_forall,Classical.not_not] at nt;obtain⟨qs,rfl⟩:=nt;obtain⟨qs',w'⟩:=tb2 D qs z;rw[w'] at h2D;cases h2D
end
section
variable {X:Cx}{α:Ev}{p q pos:Pos}{a b:Expr}
theorem qo {G:Hp}:∀ns:List Int,AVs G (ns.map V.int) (ns.map .int)
 |[]=>.nil
 |n::ns=>.cons (.int n) (qo ns)
theorem aT {Q:List PyData->Prop}(hc:X.calm=true)(hg:Gl X "list")(hm:X.mg "list"=none)(hg2:Gl X "range")(hm2:X.mg "range"=none)(h:EvD X α a fun x=>EvD X α b fun y=>∃i j,x=.int i/\y=.int j/\(-(2 ^ 62)<=i/\i<2 ^ 62/\-(2 ^ 62)<=j/\j<2 ^ 62)/\(j-i).toNat<=1000/\Q ((zt i (j-i).toNat).map .int))
  (he:starEach [.Call (.Name "range" q) [a,b] [] p] X.env=(false,eval (.Call (.Name "range" q) [a,b] [] p) X.env)::starEach [] X.env:=by rfl) (he2:starEach [a,b] X.env=(false,eval a X.env)::starEach [b] X.env:=by rfl) (he3:starEach [b] X.env=(false,eval b X.env)::starEach [] X.env:=by rfl)
  (hpl:(backTo p (starEach [b] X.env)).any (·.1)=false:=by rfl) {p0:Pos}:EvL X α (.Call (.Name "list" p0) [.Call (.Name "range" q) [a,b] [] p] [] pos) Q:=fun F σ H R m k=>by
 refine⟨_,xu (qO hc) hg hm boot_list (zg (xu mq hg2 hm2 boot_range (zg zl (zg zl zu he3) he2) (he:=he2) (hpl:=hpl)) zu he) (he:=he),?_⟩;refine h F σ H _ m fun x vx H1 q1 t1 k1 r1=>?_;have m1:=m.kz k1 t1;refine q1 F σ H1 _ m1 fun y vy H2 q2 t2 k2 r2=>?_;have m2:=m1.kz k2 t2;obtain⟨i,j,rfl,rfl,⟨b1,b2,b3,b4⟩,hz,q⟩:=q2;cases r1.int_inv;cases r2.int_inv;refine⟨i,j,rfl,fun r hr=>?_⟩;refine⟨r,i,j,rfl,zk,⟨b1,b2,b3,b4⟩,zW0 (yK hz),by omega,fun l hl=>?_⟩;have nlr:l≠r:=fun z=>by rw[z,zk] at hl;cases hl
 have hl':H2 l=none:=by rw[zh nlr] at hl;exact hl
 have kk:=k1.trans k2;have s1:zz H2 (upd (upd H2 r (.rng i j)) l (.lst ((zt i (j-i).toNat).map V.int))):=(yj hr).trans (yj hl);refine k _ _ _ q (t2.same s1) (kk.trans (Kz.of_same s1)) ⟨l,_,rfl,?_,zk,qo _⟩;cases z:H l with
 |none=>rfl
 |some o=>rw[kk l o z (m.tp.nt (ow0 (m2.fresh hl')))] at hl';cases hl'
end
section
variable {X:Cx}{α:Ev}{p pos:Pos}{a b:Expr}{Q:PyData->Prop}
end
theorem AVs.ints {H:Hp}:∀{xs:List V} {ns:List Int},AVs H xs (ns.map .int)->xs=ns.map V.int
 |_,[],.nil=>rfl
 |_,n::ns,.cons h hs=>by rw[zR4,AVs.ints hs,h.int_inv]
section
variable {X:Cx}{α:Ev}{a:Expr}{p pos kpos lpos p1 p2 p3 p4 p5 p6:Pos}{n1:Nat}{x y:Str}{params:Arguments}{scope:Scope}
structure bZ (X:Cx)(c:Addr)(x y:Str)(n1:Nat)(p1 p2 p3 p4 p5 p6:Pos)(params:Arguments)(scope:Scope):Prop where
 S:wN x y params scope
 hy:X.env.scope.names.lookup y=some .cell
 hcl:∀cl,X.env.cells.lookup y=some cl->closureFor scope X.env=pure [(y,cl)]
 hgl:X.env.globals=mainGlobals
 hco:X.env.code=.ref c
 hhd:PySem.W.CodeHd X.base c yC
 hbi:X.base.BuiltinsAt X.mg yC
 hdf:defaultsOf params X.env=([],[])
 hq:X.env.qual++("<lambda>":Str)=wc
 hne:mainGlobals≠yC
 hb:∀u cl c' pm ctv,bindArgs (PySem.W.kla_fn "<lambda>" wc params (pairE x y n1 p1 p2 p3 p4 p5 p6) scope [(y,cl)] pm (.ref c') ctv) ⟨[u],[]⟩=pure [(x,u)]
 hdx:(x == ("__debug__":Str))=false
 hdy:(y == ("__debug__":Str))=false
 hcx:(x == ("__classdict__":Str))=false
 hcy:(y == ("__classdict__":Str))=false
theorem kx {j k:Nat}{c:Addr}{Q:List PyData->Prop}(T:bZ X c x y n1 p1 p2 p3 p4 p5 p6 params scope)(hr:zV (k+2) X.A)(hg:Gl X "sorted")(hm:X.mg "sorted"=none)(hN:X.N[j]?=some y)
  (h:EvD X α a fun d=>∃ns zs:List Int,d=.list (ns.map .int)/\α[j]?=some (some (.dat (.list (zs.map .int))))/\ns.length<64/\(∀n∈ns,0<=n/\n<zs.length)/\∀ms,qC ns zs ms->Q (ms.map .int))
  (he:starEach [a] X.env=(false,eval a X.env)::starEach [] X.env:=by rfl) (he2:backTo pos (starEach [a] X.env)=(false,eval a X.env)::backTo pos (starEach [] X.env):=by rfl) (hpl:((backTo pos (starEach [a] X.env)).any fun x=>x.1)=false:=by rfl):
  EvL X α (.Call (.Name "sorted" p) [a] [⟨some "key",.Lambda params (pairE x y n1 p1 p2 p3 p4 p5 p6) scope lpos,kpos⟩] pos) Q:=fun F σ H R m k=>by
 refine⟨_,kF (j:=j) T.S hr hg hm hN T.hy T.hcl T.hgl T.hco T.hhd T.hbi T.hdf T.hq T.hne T.hb T.hdx T.hdy T.hcx T.hcy zl he he2 hpl,?_⟩;refine h F σ H _ m fun d vx H1 q1 t1 k1 r1=>?_;have m1:=m.kz k1 t1;obtain⟨ns,zs,rfl,hz,h64,hin,q⟩:=q1;obtain⟨l,xs,rfl,g1,g2⟩:=r1.lst_inv;obtain⟨v,s1,s2⟩:=m1.dat j _ hz;obtain⟨lp,ys,rfl,g3,g4⟩:=s2.lst_inv;cases g2.ints;cases g4.ints;refine⟨l,ns,lp,zs,rfl,SqL.of (zj g1).2,s1,SqL.of (zj g3).2,h64,hin,t1.tab,fun D H' ms hD hD' sm tb kp=>?_⟩;have tl:∀a xs,H1 a=some (.lst xs)->H' a=some (.lst xs):=fun a xs e=>kp a _ (fun z=>by
  obtain⟨ps,e1,_⟩:=t1.tab.ex;rw[z,e1] at e;cases e) e
 have kz:Kz F H1 H':=fun x o e n=>kp x o n.2 e;refine k _ _ H' (q ms sm) ⟨tb,t1.ot,fun t b c e=>⟨?_,(t1 t b c e).2⟩⟩ (k1.trans kz) ⟨D,_,rfl,?_,hD',qo _⟩
 ·obtain⟨n,bs,cs,n1,e1,e2,e3,l1,l2⟩:=(t1 t b c e).1.ex;exact⟨n,bs,cs,n1,tl _ _ e1,tl _ _ e2,tl _ _ e3,l1,l2⟩
 ·cases z:H D with
  |none=>rfl
  |some o=>rw[k1 D o z (m.tp.nt (ow0 (m1.fresh hD)))] at hD;cases hD
end
section
variable {P:Program}{w:World}{K:PySem.W.Frag}{mg:Str->Option Value}{base:Heap}
theorem zL9 {x qual:Str}{st:Stmt}{f:Addr}{N ps:List Str}{k:Nat}{φ:List A->(A->Prop)->Prop}{oc:Value}{od an:Option Addr}{osl:Array (Option Value)}{kV doc pm cdv ct:Value}
  (lk:K.lookup f=some ⟨oc,od,.func (PySem.W.fnOf x qual (zR st) (zA st) (zc st) .none kV doc pm an cdv ct),osl⟩) (hcd:PySem.W.codeIn K cdv qual=true) (S:zo N ps (zc st)) (hlen:∀as Q,φ as Q->as.length=ps.length)
  (hbody:∀(A':Around) (outer:List Env) (s:Shared) (H:Hp) (E:XK) (as:List A) (Q:A->Prop),zV k (A'.deeper (envOfC qual (zc st) s.heap.objs.size f cdv))->φ as Q->
   SvS (ui CX0 P w K mg base N qual (zc st) f cdv A' outer s H E).nox (as.map some++List.replicate (N.length-as.length) none) (zA st) {nx:=fun _=>Q (.dat .none),rt:=Q}):zC P w K mg base CX0 (k+1) f (PySem.W.fnOf x qual (zR st) (zA st) (zc st) .none kV doc pm an cdv ct) ps (spA φ):=by
 refine dr lk hcd S (fun vs H Q E h=>?_) (fun A' outer s H vs Qc E hr h=>?_)
 ·obtain⟨F,as,Q',_,_,_,rv,hφ,_⟩:=h;rw[rv.length,hlen as _ hφ]
 ·obtain⟨F,as,Q',e,t,o,rv,hφ,kk⟩:=h;have:=hbody A' outer s H E as Q' hr hφ F _ H {nx:=fun _ H'=>Qc .non H',rt:=Qc} (M.start e t o rv) ⟨fun α σ H' m q=>?_,fun a v H' r q=>kk a v H' q r,fun _ _ _ _ z=>z.elim,fun _ _ _ _ z=>z.elim⟩
  ·obtain⟨t,h,q⟩:=this;exact⟨t,h.nox,q⟩
  ·exact kk _ _ _ q ⟨m.tp,m.keep,.non⟩
end
section
variable {X:Cx}{α:Ev}{Q:PyData->Prop}{a b:Expr}{pos:Pos}
end
theorem mz (c:Int)(n:Nat):zt c (n+1)=zt c n++[c+(n:Nat)]:=by simp[zt,z56]
theorem yO {c m:Int}{n:Nat}:m∈zt c n↔c<=m/\m<c+n:=by
 simp only[zt,zT0,z01]
 constructor
 ·rintro⟨i,hi,rfl⟩;omega
 ·rintro⟨h1,h2⟩;exact⟨(m-c).toNat,by omega,by omega⟩
theorem pe (c:Int):∀n:Nat,(zt c n).Nodup
 |0=>by simp[zt]
 |n+1=>by
  rw[mz,List.nodup_append];refine⟨pe c n,by simp,?_⟩;intro a ha b hb;rw[yO] at ha;simp at hb;omega
def uB (zs:List Int)(many free i:Nat)(bs:List Bool):Prop:=
 bs.length=zs.length/\(∀j,i / many*many<=j->bs.getD j false=false)/\∀k,k<i / many->∃ms:List Int,qC (zt ((k*many:Nat):Int) many) zs ms/\∀q,q<many->bs.getD (ms.getD q 0).toNat false=decide (q<free)
theorem fc (zs:List Int){many:Nat}(free:Nat):uB zs many free 0 (List.replicate zs.length false):=by
 refine⟨by simp,fun j _=>?_,fun k hk=>?_⟩
 ·rw[zP0,zX6];split<;>rfl
 ·rw[Nat.zero_div] at hk;omega
theorem rf {i many:Nat}(h:0<many)(h1:i % many+1<many):(i+1) / many=i / many/\(i+1) % many=i % many+1:=by
 have e:=z25 i many;have e2:i+1=(i % many+1)+many*(i / many):=by omega
 constructor
 ·rw[e2,Nat.add_mul_div_left _ _ h,Nat.div_eq_of_lt h1,z55]
 ·rw[e2,Nat.add_mul_mod_self_left,Nat.mod_eq_of_lt h1]
theorem lI {i many:Nat}(h:0<many)(h1:i % many+1=many):(i+1) / many=i / many+1/\(i+1) % many=0/\(i / many+1)*many=i+1:=by
 have e:=z25 i many;have e3:many*(i / many+1)=i+1:=by rw[Nat.mul_add,Nat.mul_one];omega
 refine⟨?_,?_,?_⟩
 ·rw[<-e3,Nat.mul_div_cancel_left _ h]
 ·rw[<-e3,Nat.mul_mod_right]
 ·rw[Nat.mul_comm];exact e3
theorem gq {zs:List Int}{many free i:Nat}{bs:List Bool}(h:0<many)(h1:i % many+1<many)(m:uB zs many free i bs):uB zs many free (i+1) bs:=by
 unfold uB at *;rw[(rf h h1).1];exact m
theorem vO {lo:Int}{n:Nat}{zs ms:List Int}(s:qC (zt lo n) zs ms){q:Nat}(h:q<n):lo<=ms.getD q 0/\ms.getD q 0<lo+n:=by
 have hl:ms.length=n:=by rw[s.1.length_eq,zi]
 have:ms.getD q 0∈ms:=by
  rw[zP0,zO9 (by omega)];exact zT9 _
 exact yO.mp (s.1.mem_iff.mp this)
theorem fN {zs ms:List Int}{many free i:Nat}{bs bs':List Bool}(h:0<many)(h1:i % many+1=many)(m:uB zs many free i bs)(s:qC (zt ((i / many*many:Nat):Int) many) zs ms)
  (e0:bs'.length=bs.length) (e1:∀q,q<many->bs'.getD (ms.getD q 0).toNat false=decide (q<free)) (e2:∀j,(∀q,q<many->(ms.getD q 0).toNat≠j)->bs'.getD j false=bs.getD j false):uB zs many free (i+1) bs':=by
 obtain⟨d1,d2,d3⟩:=lI h h1;obtain⟨m1,m2,m3⟩:=m;refine⟨by rw[e0,m1],fun j hj=>?_,fun k hk=>?_⟩
 ·rw[d1,d3] at hj;have e:=z25 i many;have e4:i / many*many=many*(i / many):=Nat.mul_comm _ _;rw[e2 j fun q hq=>?_,m2 j (by omega)];have:=vO s hq;omega
 ·rw[d1] at hk;by_cases hk2:k=i / many
  ·subst hk2;exact⟨ms,s,e1⟩
  ·obtain⟨ms2,s2,f2⟩:=m3 k (by omega);refine⟨ms2,s2,fun q hq=>?_⟩;rw[e2 _ fun q2 hq2=>?_,f2 q hq];have a1:=vO s hq2;have a2:=vO s2 hq;have:(k+1)*many<=i / many*many:=zX2 _ (by omega);rw[Nat.add_mul,Nat.one_mul] at this;omega
theorem lu (f:Nat):∀n,((List.range n).map fun q=>decide (q<f)).count true=min f n
 |0=>by simp
 |n+1=>by
  rw[z56,zT4,List.count_append,lu f n];by_cases h:n<f
  ·simp[h];omega
  ·simp[h];omega
theorem zf3 {α:Type}(l:List α)(d:α)(a n:Nat)(h:a+n<=l.length):(l.drop a).take n=(zt (a:Int) n).map fun m=>l.getD m.toNat d:=by
 apply List.ext_getElem
 ·simp[zi];omega
 ·intro i h1 h2;have hi:i<n:=by simpa[zi] using h2
  simp only[zt,List.getElem_take,List.getElem_drop,List.getElem_map,List.getElem_range];rw[show ((a:Int)+(i:Nat)).toNat=a+i by omega,zP0,zO9 (by omega)];rfl
theorem uN {zs ms:List Int}{lo many free:Nat}{bs:List Bool}(s:qC (zt (lo:Int) many) zs ms)(hb:lo+many<=bs.length)(h:∀q,q<many->bs.getD (ms.getD q 0).toNat false=decide (q<free))(hf:free<=many):((bs.drop lo).take many).count true=free:=by
 have hl:ms.length=many:=by rw[s.1.length_eq,zi]
 rw[zf3 bs false lo many hb,<-(s.1.map fun m=>bs.getD m.toNat false).count_eq];have:ms.map (fun m=>bs.getD m.toNat false)=(List.range many).map fun q=>decide (q<free):=by
  apply List.ext_getElem
  ·simp[hl]
  ·intro i h1 h2;have hi:i<many:=by simpa using h2
   simp only[List.getElem_map,List.getElem_range];have:=h i hi;rw[zP0 (l:=ms),zO9 (by omega)] at this;exact this
 rw[this,lu];omega
theorem zu6 {lo:Int}{n:Nat}{zs ms:List Int}(s:qC (zt lo n) zs ms){m:Int}(h1:lo<=m)(h2:m<lo+n):∃q,q<n/\ms.getD q 0=m:=by
 have hl:ms.length=n:=by rw[s.1.length_eq,zi]
 obtain⟨q,hq,e⟩:=List.mem_iff_getElem.mp (s.1.mem_iff.mpr (yO.mpr ⟨h1,h2⟩));exact⟨q,by omega,by rw[zP0,zO9 hq];exact e⟩
open PySem (IsZip)
section
variable {prog:Program}{w:World}{A:Around}{E:Value->Shared->Prop}{s:Shared}
theorem mf {M:Model}{a:Addr}{Q:Option Obj->Shared->Prop}(h:Q (s.heap.get? a) s):wpAny M A (loadIfAlive a) Q E s:=fun Γ p hΓ=>by
 show Sem.wp M Γ (.loadIfAlive a .pure) _ _ p s;rw[Sem.wp_loadIfAlive];exact h
abbrev zO (f0 f1:Value)(TI TO:Addr):Obj:={cls:=.type "zip",dict:=none,data:=.fields #[f0,f1,.bool false,.ref TI,.ref TO],slots:=#[]}
abbrev tO3 (a b c:Value):Obj:={cls:=.type "tuple",data:=.seq #[a,b,c]}
theorem wz {T:Addr}{a b c x:Value}{k:Nat}{Q:Unit->Shared->Prop}(hT:s.heap.get? T=some (tO3 a b c))
  (h:∀h',h'.get? T=some {cls:=.type "tuple",data:=.seq ((#[a,b,c]:Array Value).setIfInBounds k x)}->Heap.SameBut T s.heap h'->Q () {s with heap:=h'}):
  wpAny (model prog w) A (updateSeq T (·.setIfInBounds k x)) Q E s:=by
 refine zW6 hT rfl (h _ ?_ (z09 ..));rw[z02 _ hT rfl];simp[Obj.mapSeq]
structure vq (h:Heap)(n:Nat)(l1 l2 l3:Addr)(k:Nat)(f0 f1 a b c:Value):Prop where
 z:h.get? (n+5:Nat)=some (zO f0 f1 (n+3:Nat) (n+4:Nat))
 ti:h.get? (n+3:Nat)=some (tO3 (.ref (n:Nat)) (.ref (n+1:Nat)) (.ref (n+2:Nat)))
 to:h.get? (n+4:Nat)=some (tO3 a b c)
 i1:h.IsListIter (n:Nat) l1 k
 i2:h.IsListIter (n+1:Nat) l2 k
 i3:h.IsListIter (n+2:Nat) l3 k
abbrev z3 (n:Nat):List Addr:=[(n:Nat),(n+1:Nat),(n+2:Nat),(n+3:Nat),(n+4:Nat),(n+5:Nat)]
theorem zv (a b:Nat)(h:a<b\/b<a):@Ne Addr a b:=fun e=>by
 have e:@Eq Nat a b:=e;omega
theorem jD {n l1 l2 l3:Nat}{k:Nat}{f1 a b c x y z:Value}{xs ys zs:Array Value}{Q:Value->Shared->Prop}(h1:l1<n)(h2:l2<n)(h3:l3<n)(Z:vq s.heap n l1 l2 l3 k .none f1 a b c)
  (hl1:s.heap.IsList l1 xs) (hl2:s.heap.IsList l2 ys) (hl3:s.heap.IsList l3 zs) (hx:xs[k]?=some x) (hy:ys[k]?=some y) (hz:zs[k]?=some z)
  (hQ:∀h',vq h' n l1 l2 l3 (k+1) (rawInt s.heap.objs.size) (.bool false) x y z->h'.get? s.heap.objs.size=some (tO3 x y z)->
   (∀c o,c∉z3 n->s.heap.get? c=some o->h'.get? c=some o)->Q (.ref s.heap.objs.size) {s with heap:=h'}):
  wpAny (model prog w) A (Builtin.«zip.__next__» ⟨[.ref (n+5:Nat)],[]⟩) (fun fin s'=>∃v,fin=.done (.ret v)/\Q v s') E s:=by
 obtain⟨hz0,hTI,hTO,g1,g2,g3⟩:=Z;show wpAny _ _ (field (.ref _) 2 >>= _) _ _ _;refine zO7 (zY3 hz0 rfl (x:=.bool false) rfl ?_);show wpAny _ _ (field (.ref _) 3 >>= _) _ _ _;refine zO7 (zY3 hz0 rfl (x:=.ref (n+3:Nat)) rfl ?_);refine zO7 (zU9 hTI rfl ?_);show wpAny _ _ (Builtin.SmallTypes.ownedTupleIsFree (.ref (n+5:Nat)) >>= _) _ _ _;refine zO7 ?_;unfold Builtin.SmallTypes.ownedTupleIsFree;refine zO7 (zY3 hz0 rfl (x:=.none) rfl (zP8 ?_));simp only[zZ6];refine zO7 (wpAny_rule ?_);refine zO7 (zY3 hz0 rfl (x:=.ref (n+4:Nat)) rfl ?_);refine zO7 (z32 hz0 (by simp) fun h₁ hz₁ hs₁=>?_)
 replace hz₁:h₁.get? (n+5:Nat)=some (zO .ellipsis f1 (n+3:Nat) (n+4:Nat)):=hz₁
 refine zO7 ?_;simp only[List.zipIdx_cons,List.zipIdx_nil,z54,List.forIn_nil];refine zO7 (zO7 (wpAny_onRaise ?_));show wpAny _ _ (Builtin.SmallTypes.nextOf (.ref (n:Nat)) >>= _) _ _ _;refine zO7 (zW7 (g1.extBut hs₁.extBut (by refine zv _ _ ?_;omega)) (hl1.extBut hs₁.extBut (by refine zv _ _ ?_;omega)) hx fun h₂ g1₂ hs₂=>zP8 ?_);have hTO₂:h₂.get? (n+4:Nat)=some (tO3 a b c):=hs₂.extBut _ _ (by refine zv _ _ ?_;omega) (hs₁.extBut _ _ (by refine zv _ _ ?_;omega) hTO);refine zO7 (zU9 hTO₂ rfl ?_);refine zO7 (wz hTO₂ fun h₃ hTO₃ hs₃=>?_)
 replace hTO₃:h₃.get? (n+4:Nat)=some (tO3 x b c):=hTO₃
 refine zO7 (zY2 (zP8 ?_));refine zO7 (zO7 (wpAny_onRaise ?_));show wpAny _ _ (Builtin.SmallTypes.nextOf (.ref (n+1:Nat)) >>= _) _ _ _;refine zO7 (zW7 (((g2.extBut hs₁.extBut (by refine zv _ _ ?_;omega)).extBut hs₂.extBut (by refine zv _ _ ?_;omega)).extBut hs₃.extBut (by refine zv _ _ ?_;omega))
  (((hl2.extBut hs₁.extBut (by refine zv _ _ ?_;omega)).extBut hs₂.extBut (by refine zv _ _ ?_;omega)).extBut hs₃.extBut (by refine zv _ _ ?_;omega)) hy fun h₄ g2₄ hs₄=>zP8 ?_)
 have hTO₄:h₄.get? (n+4:Nat)=some (tO3 x b c):=hs₄.extBut _ _ (by refine zv _ _ ?_;omega) hTO₃;refine zO7 (zU9 hTO₄ rfl ?_);refine zO7 (wz hTO₄ fun h₅ hTO₅ hs₅=>?_)
 replace hTO₅:h₅.get? (n+4:Nat)=some (tO3 x y c):=hTO₅
 refine zO7 (zY2 (zP8 ?_));refine zO7 (zO7 (wpAny_onRaise ?_));show wpAny _ _ (Builtin.SmallTypes.nextOf (.ref (n+2:Nat)) >>= _) _ _ _;refine zO7 (zW7 (((((g3.extBut hs₁.extBut (by refine zv _ _ ?_;omega)).extBut hs₂.extBut (by refine zv _ _ ?_;omega)).extBut hs₃.extBut (by refine zv _ _ ?_;omega)).extBut hs₄.extBut (by refine zv _ _ ?_;omega)).extBut hs₅.extBut (by refine zv _ _ ?_;omega))
  (((((hl3.extBut hs₁.extBut (by refine zv _ _ ?_;omega)).extBut hs₂.extBut (by refine zv _ _ ?_;omega)).extBut hs₃.extBut (by refine zv _ _ ?_;omega)).extBut hs₄.extBut (by refine zv _ _ ?_;omega)).extBut hs₅.extBut (by refine zv _ _ ?_;omega)) hz fun h₆ g3₆ hs₆=>zP8 ?_)
 have hTO₆:h₆.get? (n+4:Nat)=some (tO3 x y c):=hs₆.extBut _ _ (by refine zv _ _ ?_;omega) hTO₅;refine zO7 (zU9 hTO₆ rfl ?_);refine zO7 (wz hTO₆ fun h₇ hTO₇ hs₇=>?_)
 replace hTO₇:h₇.get? (n+4:Nat)=some (tO3 x y z):=hTO₇
 refine zO7 (zY2 (zP8 (zP8 ?_)));refine zO7 (zU9 hTO₇ rfl ?_);refine zO7 (wpAny_newTuple ?_);have hsz:h₇.objs.size=s.heap.objs.size:=by rw[hs₇.1,hs₆.1,hs₅.1,hs₄.1,hs₃.1,hs₂.1,hs₁.1]
 have up7:∀c o,c≠(n+5:Nat)->c≠(n:Nat)->c≠(n+4:Nat)->c≠(n+1:Nat)->c≠(n+2:Nat)->s.heap.get? c=some o->h₇.get? c=some o:=fun c o c1 c2 c3 c4 c5 e=>
  hs₇.extBut _ _ c3 (hs₆.extBut _ _ c5 (hs₅.extBut _ _ c3 (hs₄.extBut _ _ c4 (hs₃.extBut _ _ c3 (hs₂.extBut _ _ c2 (hs₁.extBut _ _ c1 e))))))
 have hz₇:h₇.get? (n+5:Nat)=some (zO .ellipsis f1 (n+3:Nat) (n+4:Nat)):=hs₇.extBut _ _ (by refine zv _ _ ?_;omega) (hs₆.extBut _ _ (by refine zv _ _ ?_;omega) (hs₅.extBut _ _ (by refine zv _ _ ?_;omega) (hs₄.extBut _ _ (by refine zv _ _ ?_;omega) (hs₃.extBut _ _ (by refine zv _ _ ?_;omega) (hs₂.extBut _ _ (by refine zv _ _ ?_;omega) hz₁)))));have g1₇:h₇.IsListIter (n:Nat) l1 (k+1):=((((g1₂.extBut hs₃.extBut (by refine zv _ _ ?_;omega)).extBut hs₄.extBut (by refine zv _ _ ?_;omega)).extBut hs₅.extBut (by refine zv _ _ ?_;omega)).extBut hs₆.extBut (by refine zv _ _ ?_;omega)).extBut hs₇.extBut (by refine zv _ _ ?_;omega);have g2₇:h₇.IsListIter (n+1:Nat) l2 (k+1):=((g2₄.extBut hs₅.extBut (by refine zv _ _ ?_;omega)).extBut hs₆.extBut (by refine zv _ _ ?_;omega)).extBut hs₇.extBut (by refine zv _ _ ?_;omega);have g3₇:h₇.IsListIter (n+2:Nat) l3 (k+1):=g3₆.extBut hs₇.extBut (by refine zv _ _ ?_;omega);have hTI₇:=up7 _ _ (by refine zv _ _ ?_;omega) (by refine zv _ _ ?_;omega) (by refine zv _ _ ?_;omega) (by refine zv _ _ ?_;omega) (by refine zv _ _ ?_;omega) hTI;have hzlt:(n+5:Nat)<h₇.objs.size:=zP6 hz₇;show wpAny _ _ (Builtin.SmallTypes.ownedTupleHandOut (.ref (n+5:Nat)) (.ref h₇.objs.size) >>= _) _ _ _;refine zO7 ?_;unfold Builtin.SmallTypes.ownedTupleHandOut;have hz₈:(h₇.push {cls:=.type "tuple",data:=.seq #[x,y,z]}).get? (n+5:Nat)=some (zO .ellipsis f1 (n+3:Nat) (n+4:Nat)):=zO8 _ hz₇;refine zO7 (z32 hz₈ (by simp) fun h₉ hz₉ hs₉=>?_)
 replace hz₉:h₉.get? (n+5:Nat)=some (zO (rawInt h₇.objs.size) f1 (n+3:Nat) (n+4:Nat)):=hz₉
 refine z32 hz₉ (by simp) fun hA hzA hsA=>?_
 replace hzA:hA.get? (n+5:Nat)=some (zO (rawInt h₇.objs.size) (.bool false) (n+3:Nat) (n+4:Nat)):=hzA
 have up:∀c o,c≠(n+5:Nat)->h₇.get? c=some o->hA.get? c=some o:=fun c o c1 e=>hsA.extBut _ _ c1 (hs₉.extBut _ _ c1 (zO8 _ e));have hTA:hA.get? h₇.objs.size=some (tO3 x y z):=hsA.extBut _ _ (zZ2 hzlt) (hs₉.extBut _ _ (zZ2 hzlt) (zP9 _ rfl));rw[hsz] at hzA hTA;refine zP8 ⟨_,rfl,?_⟩;show Q (.ref h₇.objs.size) _;rw[hsz];refine hQ hA ⟨hzA,up _ _ (by refine zv _ _ ?_;omega) hTI₇,up _ _ (by refine zv _ _ ?_;omega) hTO₇,g1₇.at fun o e=>up _ o (by refine zv _ _ ?_;omega) e,g2₇.at fun o e=>up _ o (by refine zv _ _ ?_;omega) e,g3₇.at fun o e=>up _ o (by refine zv _ _ ?_;omega) e⟩ hTA fun c o hc e=>?_;simp only[z3,zP2,zQ3,zS4,not_or] at hc;exact up c o hc.2.2.2.2.2 (up7 c o hc.2.2.2.2.2 hc.1 hc.2.2.2.2.1 hc.2.1 hc.2.2.1 e)
theorem qY {n l1 l2 l3 k T:Nat}{f1 a b c:Value}{ot:Obj}{Q:Bool->Shared->Prop}(h1:l1<n)(h2:l2<n)(h3:l3<n)(Z:vq s.heap n l1 l2 l3 k (rawInt (T:Nat)) f1 a b c)(hT:s.heap.get? T=some ot)
  (hQ:∀h' f1',vq h' n l1 l2 l3 k (rawInt (T:Nat)) f1' a b c->h'.objs.size=s.heap.objs.size->(∀c o,c≠(n+5:Nat)->s.heap.get? c=some o->h'.get? c=some o)->Q false {s with heap:=h'}):
  wpAny (model prog w) A (Builtin.SmallTypes.ownedTupleIsFree (.ref (n+5:Nat))) Q E s:=by
 obtain⟨hz0,hTI,hTO,g1,g2,g3⟩:=Z;unfold Builtin.SmallTypes.ownedTupleIsFree;refine zO7 (zY3 hz0 rfl (x:=rawInt (T:Nat)) rfl ?_);show wpAny _ _ (loadIfAlive ((T:Int).toNat) >>= _) _ _ _;refine zO7 (mf ?_);rw[show ((T:Int).toNat)=T from zU2 T,hT];show wpAny _ _ (field (.ref (n+5:Nat)) 1 >>= _) _ _ _;refine zO7 (zY3 hz0 rfl (x:=f1) rfl ?_);refine zZ9 (fun _=>?_) (fun _=>?_)
 ·refine zO7 (z32 hz0 (by simp) fun h₁ hz₁ hs₁=>zP8 ?_)
  replace hz₁:h₁.get? (n+5:Nat)=some (zO (rawInt (T:Nat)) (.bool true) (n+3:Nat) (n+4:Nat)):=hz₁
  exact hQ h₁ _ ⟨hz₁,hs₁.extBut _ _ (by refine zv _ _ ?_;omega) hTI,hs₁.extBut _ _ (by refine zv _ _ ?_;omega) hTO,g1.extBut hs₁.extBut (by refine zv _ _ ?_;omega),g2.extBut hs₁.extBut (by refine zv _ _ ?_;omega),g3.extBut hs₁.extBut (by refine zv _ _ ?_;omega)⟩ hs₁.1 fun c o hc e=>hs₁.extBut _ _ hc e
 ·exact zP8 (hQ s.heap f1 ⟨hz0,hTI,hTO,g1,g2,g3⟩ rfl fun _ _ _ e=>e)
theorem fV {n l1 l2 l3 k T:Nat}{f1 a b c x y z:Value}{ot:Obj}{xs ys zs:Array Value}{Q:Value->Shared->Prop}(h1:l1<n)(h2:l2<n)(h3:l3<n)(Z:vq s.heap n l1 l2 l3 k (rawInt (T:Nat)) f1 a b c)(hT:s.heap.get? T=some ot)
  (hl1:s.heap.IsList l1 xs) (hl2:s.heap.IsList l2 ys) (hl3:s.heap.IsList l3 zs) (hx:xs[k]?=some x) (hy:ys[k]?=some y) (hz:zs[k]?=some z)
  (hQ:∀h' f1',vq h' n l1 l2 l3 (k+1) (rawInt (T:Nat)) f1' a b c->h'.get? s.heap.objs.size=some (tO3 x y z)->
   (∀c o,c∉z3 n->s.heap.get? c=some o->h'.get? c=some o)->Q (.ref s.heap.objs.size) {s with heap:=h'}):
  wpAny (model prog w) A (Builtin.«zip.__next__» ⟨[.ref (n+5:Nat)],[]⟩) (fun fin s'=>∃v,fin=.done (.ret v)/\Q v s') E s:=by
 show wpAny _ _ (field (.ref _) 2 >>= _) _ _ _;refine zO7 (zY3 Z.z rfl (x:=.bool false) rfl ?_);show wpAny _ _ (field (.ref _) 3 >>= _) _ _ _;refine zO7 (zY3 Z.z rfl (x:=.ref (n+3:Nat)) rfl ?_);refine zO7 (zU9 Z.ti rfl ?_);show wpAny _ _ (Builtin.SmallTypes.ownedTupleIsFree (.ref (n+5:Nat)) >>= _) _ _ _;refine zO7 (qY h1 h2 h3 Z hT fun hB f1' ZB szB kB=>?_);obtain⟨hz0,hTI,hTO,g1,g2,g3⟩:=ZB
 replace hl1:hB.IsList l1 xs:=hl1.at fun o e=>kB _ o (by refine zv _ _ ?_;omega) e
 replace hl2:hB.IsList l2 ys:=hl2.at fun o e=>kB _ o (by refine zv _ _ ?_;omega) e
 replace hl3:hB.IsList l3 zs:=hl3.at fun o e=>kB _ o (by refine zv _ _ ?_;omega) e
 simp only[zS9,zW3];rw[z66];simp only[z54,List.forIn_nil];refine zO7 (zO7 (zO7 (zU6 ?_)));show wpAny _ _ (Builtin.SmallTypes.nextOf (.ref (n:Nat)) >>= _) _ _ _;refine zO7 (zW7 g1 hl1 hx fun h₂ g1₂ hs₂=>zP8 (zP8 ?_));refine zO7 (zO7 (zU6 ?_));show wpAny _ _ (Builtin.SmallTypes.nextOf (.ref (n+1:Nat)) >>= _) _ _ _;refine zO7 (zW7 (g2.extBut hs₂.extBut (by refine zv _ _ ?_;omega)) (hl2.extBut hs₂.extBut (by refine zv _ _ ?_;omega)) hy fun h₄ g2₄ hs₄=>zP8 (zP8 ?_));refine zO7 (zO7 (zU6 ?_));show wpAny _ _ (Builtin.SmallTypes.nextOf (.ref (n+2:Nat)) >>= _) _ _ _;refine zO7 (zW7 ((g3.extBut hs₂.extBut (by refine zv _ _ ?_;omega)).extBut hs₄.extBut (by refine zv _ _ ?_;omega)) ((hl3.extBut hs₂.extBut (by refine zv _ _ ?_;omega)).extBut hs₄.extBut (by refine zv _ _ ?_;omega)) hz fun h₆ g3₆ hs₆=>zP8 (zP8 (zP8 ?_)));refine zO7 (wpAny_newTuple ?_ (by show 3<=sizeLine;decide));have hsz:h₆.objs.size=s.heap.objs.size:=by rw[hs₆.1,hs₄.1,hs₂.1];exact szB
 have up6:∀c o,c≠(n:Nat)->c≠(n+1:Nat)->c≠(n+2:Nat)->hB.get? c=some o->h₆.get? c=some o:=fun c o c1 c2 c3 e=>hs₆.extBut _ _ c3 (hs₄.extBut _ _ c2 (hs₂.extBut _ _ c1 e));have up:∀c o,h₆.get? c=some o->(h₆.push {cls:=.type "tuple",data:=.seq #[x,y,z]}).get? c=some o:=fun c o e=>zO8 _ e;have g1₆:h₆.IsListIter (n:Nat) l1 (k+1):=(g1₂.extBut hs₄.extBut (by refine zv _ _ ?_;omega)).extBut hs₆.extBut (by refine zv _ _ ?_;omega);have g2₆:h₆.IsListIter (n+1:Nat) l2 (k+1):=g2₄.extBut hs₆.extBut (by refine zv _ _ ?_;omega);refine zP8 ⟨_,rfl,?_⟩;show Q (.ref h₆.objs.size) _;rw[hsz];refine hQ _ f1' ⟨up _ _ (up6 _ _ (by refine zv _ _ ?_;omega) (by refine zv _ _ ?_;omega) (by refine zv _ _ ?_;omega) hz0),up _ _ (up6 _ _ (by refine zv _ _ ?_;omega) (by refine zv _ _ ?_;omega) (by refine zv _ _ ?_;omega) hTI),up _ _ (up6 _ _ (by refine zv _ _ ?_;omega) (by refine zv _ _ ?_;omega) (by refine zv _ _ ?_;omega) hTO),g1₆.at fun o e=>up _ o e,g2₆.at fun o e=>up _ o e,g3₆.at fun o e=>up _ o e⟩ ?_ fun c o hc e=>?_
 ·rw[<-hsz];exact zP9 _ rfl
 ·simp only[z3,zP2,zQ3,zS4,not_or] at hc;exact up c o (up6 c o hc.1 hc.2.1 hc.2.2.1 (kB c o hc.2.2.2.2.2 e))
theorem zc4 {n l1 l2 l3 k T:Nat}{f1 a b c:Value}{ot:Obj}{xs:Array Value}{Q:PySem.Fin->Shared->Prop}(hh:A.handled=none)(h1:l1<n)(h2:l2<n)(h3:l3<n)(Z:vq s.heap n l1 l2 l3 k (rawInt (T:Nat)) f1 a b c)(hT:s.heap.get? T=some ot)
  (hl1:s.heap.IsList l1 xs) (hx:xs[k]?=none)
  (hE:∀h' e,(∀c o,c∉z3 n->s.heap.get? c=some o->h'.get? c=some o)->(∃o,h'.get? e=some o/\o.cls=.type "StopIteration")->E (.ref e) {s with heap:=h'}):
  wpAny (model prog w) A (Builtin.«zip.__next__» ⟨[.ref (n+5:Nat)],[]⟩) Q E s:=by
 show wpAny _ _ (field (.ref _) 2 >>= _) _ _ _;refine zO7 (zY3 Z.z rfl (x:=.bool false) rfl ?_);show wpAny _ _ (field (.ref _) 3 >>= _) _ _ _;refine zO7 (zY3 Z.z rfl (x:=.ref (n+3:Nat)) rfl ?_);refine zO7 (zU9 Z.ti rfl ?_);show wpAny _ _ (Builtin.SmallTypes.ownedTupleIsFree (.ref (n+5:Nat)) >>= _) _ _ _;refine zO7 (qY h1 h2 h3 Z hT fun hB f1' ZB szB kB=>?_)
 replace hl1:hB.IsList l1 xs:=hl1.at fun o e=>kB _ o (by refine zv _ _ ?_;omega) e
 simp only[zS9,zW3];rw[z66];simp only[z54,List.forIn_nil];refine zO7 (zO7 (zO7 (zU6 ?_)));show wpAny _ _ (Builtin.SmallTypes.nextOf (.ref (n:Nat)) >>= _) _ _ _;refine zO7 (wpAny_nextOf_list_end hh ZB.i1 hl1 hx fun h₂ e hs₂ he=>?_);refine hE h₂ e (fun c o hc q=>?_) he;simp only[z3,zP2,zQ3,zS4,not_or] at hc;exact hs₂ _ _ hc.1 (kB _ _ hc.2.2.2.2.2 q)
theorem mL {n l1 l2 l3 k:Nat}{f1 a b c x y z:Value}{xs ys zs:Array Value}{Q:Option Value->Shared->Prop}(h1:l1<n)(h2:l2<n)(h3:l3<n)(Z:vq s.heap n l1 l2 l3 k .none f1 a b c)
  (hl1:s.heap.IsList l1 xs) (hl2:s.heap.IsList l2 ys) (hl3:s.heap.IsList l3 zs) (hx:xs[k]?=some x) (hy:ys[k]?=some y) (hz:zs[k]?=some z)
  (hQ:∀h',vq h' n l1 l2 l3 (k+1) (rawInt s.heap.objs.size) (.bool false) x y z->h'.get? s.heap.objs.size=some (tO3 x y z)->
   (∀c o,c∉z3 n->s.heap.get? c=some o->h'.get? c=some o)->Q (some (.ref s.heap.objs.size)) {s with heap:=h'}):
  wpAny (model prog w) A (pyNext (.ref (n+5:Nat))) Q E s:=by
 have hT:s.TypeIs (.ref (n+5:Nat)) "zip":=⟨_,Z.z,rfl⟩;unfold pyNext;exact zO7 (wpAny_attempt (z37 (name:=Str.ofString "__next__") hT zV9
  (z44 zV9 hT z40
   (jD h1 h2 h3 Z hl1 hl2 hl3 hx hy hz fun h' a1 a2 a3=>zP8 (hQ h' a1 a2 a3)) (z38 _))))
theorem ka {n l1 l2 l3 k T:Nat}{f1 a b c x y z:Value}{ot:Obj}{xs ys zs:Array Value}{Q:Option Value->Shared->Prop}(h1:l1<n)(h2:l2<n)(h3:l3<n)(Z:vq s.heap n l1 l2 l3 k (rawInt (T:Nat)) f1 a b c)(hT:s.heap.get? T=some ot)
  (hl1:s.heap.IsList l1 xs) (hl2:s.heap.IsList l2 ys) (hl3:s.heap.IsList l3 zs) (hx:xs[k]?=some x) (hy:ys[k]?=some y) (hz:zs[k]?=some z)
  (hQ:∀h' f1',vq h' n l1 l2 l3 (k+1) (rawInt (T:Nat)) f1' a b c->h'.get? s.heap.objs.size=some (tO3 x y z)->
   (∀c o,c∉z3 n->s.heap.get? c=some o->h'.get? c=some o)->Q (some (.ref s.heap.objs.size)) {s with heap:=h'}):
  wpAny (model prog w) A (pyNext (.ref (n+5:Nat))) Q E s:=by
 have hT':s.TypeIs (.ref (n+5:Nat)) "zip":=⟨_,Z.z,rfl⟩;unfold pyNext;exact zO7 (wpAny_attempt (z37 (name:=Str.ofString "__next__") hT' zV9
  (z44 zV9 hT' z40
   (fV h1 h2 h3 Z hT hl1 hl2 hl3 hx hy hz fun h' f1' a1 a2 a3=>zP8 (hQ h' f1' a1 a2 a3)) (z38 _))))
theorem gF {n l1 l2 l3 k T:Nat}{f1 a b c:Value}{ot:Obj}{xs:Array Value}{Q:Option Value->Shared->Prop}(hh:A.handled=none)(h1:l1<n)(h2:l2<n)(h3:l3<n)(Z:vq s.heap n l1 l2 l3 k (rawInt (T:Nat)) f1 a b c)(hT:s.heap.get? T=some ot)
  (hl1:s.heap.IsList l1 xs) (hx:xs[k]?=none)
  (hQ:∀h',(∀c o,c∉z3 n->s.heap.get? c=some o->h'.get? c=some o)->Q none {s with heap:=h'}):
  wpAny (model prog w) A (pyNext (.ref (n+5:Nat))) Q E s:=by
 have hT':s.TypeIs (.ref (n+5:Nat)) "zip":=⟨_,Z.z,rfl⟩;unfold pyNext;refine zO7 (wpAny_attempt (z37 (name:=Str.ofString "__next__") hT' zV9
  (z44 zV9 hT' z40 (zc4 hh h1 h2 h3 Z hT hl1 hx fun h' e hk he=>?_) (z38 _))))
 obtain⟨o,ho,hc⟩:=he;refine zO7 (wpAny_isInstance (T:="StopIteration") (b:=true) ⟨o,ho,hc⟩ isSubtype_stop ?_);exact zP8 (hQ _ hk)
end
section
variable {X:Cx}{pins:List (Addr×Obj)}{σ:St}{H:Hp}{s:Shared}
def Tri (H0 H:Hp)(xs ys zs vs:List V)(i:Nat):Prop:=vs.length=i/\∀j,j<i->∃t x y z,vs[j]?=some (.ref t)/\xs[j]?=some x/\ys[j]?=some y/\zs[j]?=some z/\H t=some (.tup [x,y,z])/\H0 t=none
structure ZAt (X:Cx)(pins:List (Addr×Obj))(σ:St)(H:Hp)(n l1 l2 l3:Nat)(S:Addr)(xs ys zs:List V)(i:Nat)(s':Shared):Prop where
 ex:∃(H':Hp) (acc:List Value) (vs:List V) (e:Nat) (f0 f1 a b c:Value),Inv X pins σ H' s'/\(∀a o,H a=some o->H' a=some o)/\s'.heap.get? S=some {cls:=.type "list",dict:=none,data:=.seq acc.toArray e,slots:=#[]}/\H' S=none/\(∀b∈z3 n,H' b=none)/\
  vq s'.heap n l1 l2 l3 i f0 f1 a b c/\(i=0/\f0=.none\/∃(T:Nat) (ot:Obj),f0=rawInt (T:Nat)/\s'.heap.get? T=some ot/\T∉S::z3 n)/\Vals vs acc/\Tri H H' xs ys zs vs i
structure zz2 (X:Cx)(pins:List (Addr×Obj))(σ:St)(H:Hp)(S:Addr)(xs ys zs:List V)(s':Shared):Prop where
 ex:∃(H':Hp) (acc:List Value) (vs:List V) (e:Nat),Inv X pins σ H' s'/\(∀a o,H a=some o->H' a=some o)/\s'.heap.get? S=some {cls:=.type "list",dict:=none,data:=.seq acc.toArray e,slots:=#[]}/\H' S=none/\Vals vs acc/\Tri H H' xs ys zs vs xs.length
theorem Tri.snoc {H0 H H':Hp}{xs ys zs vs:List V}{i:Nat}{t:Addr}{x y z:V}(h:Tri H0 H xs ys zs vs i)(k:∀a o,H a=some o->H' a=some o)(hx:xs[i]?=some x)(hy:ys[i]?=some y)(hz:zs[i]?=some z)(ht:H' t=some (.tup [x,y,z]))(hn:H0 t=none):Tri H0 H' xs ys zs (vs++[.ref t]) (i+1):=by
 refine⟨by rw[zQ6,h.1];rfl,fun j hj=>?_⟩;rcases zZ4 j i with z'|z'
 ·obtain⟨t',x',y',z2,e1,e2,e3,e4,e5,e6⟩:=h.2 j z';exact⟨t',x',y',z2,by rw[zV6 (by rw[h.1];exact z')];exact e1,e2,e3,e4,k _ _ e5,e6⟩
 ·have:j=i:=by omega
  subst this;exact⟨t,x,y,z,by rw[zY6 (by rw[h.1];exact zP3 _),h.1];simp,hx,hy,hz,ht,hn⟩
theorem gA {A:Around}{R:Result->Shared->Prop}{n l1 l2 l3:Nat}{S:Addr}{xs ys zs:List V}(hh:A.handled=none)(h1:l1<n)(h2:l2<n)(h3:l3<n)(fS:∀H',H' S=none->xC X pins H' S)(fz:∀b∈z3 n,∀H',H' b=none->xC X pins H' b)(hSz:S∉z3 n)
  (q1:SqL X.K H l1 xs) (q2:SqL X.K H l2 ys) (q3:SqL X.K H l3 zs) (e2:ys.length=xs.length) (e3:zs.length=xs.length) (h0:0<xs.length) (hN:xs.length<=1000)
  (hR:∀s',zz2 X pins σ H S xs ys zs s'->R (.ok (.ret .none)) s'):
  ∀(k i:Nat) (s:Shared),xs.length-i=k->i<=xs.length->ZAt X pins σ H n l1 l2 l3 S xs ys zs i s->codeAny (model X.prog X.w) A (.builtin "list.extend.loop" ⟨[.ref S,.ref (n+5:Nat),.none],[]⟩) R s:=by
 have hh':A.in1.handled=none:=hh;intro k
 induction k with
 |zero=>
  intro i s hk hi hst;have hin:i=xs.length:=by omega
  subst hin;obtain⟨H',acc,vs,e,f0,f1,a,b,c,I,st,hS,nS,nz,Z,fr,rv,tr⟩:=hst.ex;refine z26 PySem.F.entry_extend_loop ?_;rw[zZ0 zV8 _];show wpAny _ A.in1 (pyNext (.ref (n+5:Nat)) >>= _) _ _ s;rcases fr with ⟨z,_⟩|⟨T,ot,rfl,hT,hTn⟩
  ·omega
  obtain⟨its1,rv1,p1,hz1⟩:=I.list (vh q1 fun a o _ e=>st a o e);refine zO7 (gF hh' h1 h2 h3 Z hT p1.isList (by rw[z03,zY5];rw[rv1.length];exact zP3 _) fun h' kk=>?_);refine zP8 (hR _ ⟨H',acc,vs,e,I.turnL (t':=s.toks) (ch:=z3 n) (fun b o hb q=>kk b o hb q) (fun b hb=>fz b hb H' (nz b hb)),st,kk _ _ hSz hS,nS,rv,tr⟩)
 |succ k ih=>
  intro i s hk hi hst;have hlt:i<xs.length:=by omega
  obtain⟨H',acc,vs,e,f0,f1,a,b,c,I,st,hS,nS,nz,Z,fr,rv,tr⟩:=hst.ex;refine z26 PySem.F.entry_extend_loop ?_;rw[zZ0 zV8 _];show wpAny _ A.in1 (pyNext (.ref (n+5:Nat)) >>= _) _ _ s;obtain⟨its1,rv1,p1,hz1⟩:=I.list (vh q1 fun a o _ e=>st a o e);obtain⟨its2,rv2,p2,hz2⟩:=I.list (vh q2 fun a o _ e=>st a o e);obtain⟨its3,rv3,p3,hz3⟩:=I.list (vh q3 fun a o _ e=>st a o e);have gx:xs[i]?=some xs[i]:=zO9 hlt;have gy:ys[i]?=some ys[i]:=zO9 (by omega);have gz:zs[i]?=some zs[i]:=zO9 (by omega);obtain⟨u,hu,ru⟩:=rv1.get gx;obtain⟨v,hv,rv'⟩:=rv2.get gy;obtain⟨w,hw,rw'⟩:=rv3.get gz;have lacc:acc.length=i:=by rw[<-rv.length,tr.1]
  have zlt:∀b∈z3 n,b<s.heap.objs.size:=fun b hb=>by
   have:∃o,s.heap.get? b=some o:=by
    simp only[z3,zP2,zQ3,zS4] at hb;obtain⟨o1,q1,_⟩:=Z.i1;obtain⟨o2,q2,_⟩:=Z.i2;obtain⟨o3,q3,_⟩:=Z.i3;rcases hb with rfl|rfl|rfl|rfl|rfl|rfl
    ·exact⟨_,q1⟩
    ·exact⟨_,q2⟩
    ·exact⟨_,q3⟩
    ·exact⟨_,Z.ti⟩
    ·exact⟨_,Z.to⟩
    ·exact⟨_,Z.z⟩
   obtain⟨o,q⟩:=this;exact zP6 q
  have main:∀(h':Heap) (f0' f1' a' b' c':Value),vq h' n l1 l2 l3 (i+1) f0' f1' a' b' c'->(∃(T:Nat) (ot:Obj),f0'=rawInt (T:Nat)/\h'.get? T=some ot/\T∉S::z3 n)->h'.get? s.heap.objs.size=some (tO3 u v w)->
    (∀c o,c∉z3 n->s.heap.get? c=some o->h'.get? c=some o)->wpAny (model X.prog X.w) A.in1 (updateSeq S (·.push (.ref s.heap.objs.size)) >>= fun _=>again (.builtin "list.extend.loop" ⟨[.ref S,.ref (n+5:Nat),.none],[]⟩))
     (fun fin s'=>match fin with|.done f=>R (.ok f) s'|.again c'=>c'.quiet=true/\codeAny (model X.prog X.w) A c' R s') (fun e s'=>R (.error e) s') {s with heap:=h'}:=by
   intro h' f0' f1' a' b' c' Z' ⟨T,ot,hf,hT,hTn⟩ gT kk;have nT:H' s.heap.objs.size=none:=I.hok.fresh (zP3 _);have nT0:H s.heap.objs.size=none:=by
    cases q:H s.heap.objs.size with
    |none=>rfl
    |some o=>rw[st _ _ q] at nT;cases nT
   have stT:∀a o,H' a=some o->upd H' s.heap.objs.size (.tup [xs[i],ys[i],zs[i]]) a=some o:=fun a o q=>by rw[zh (zm q nT)];exact q
   have J:=I.turnLay (t':=s.toks) (h':=h') (ch:=z3 n) (T:=s.heap.objs.size) (o:=.tup [xs[i],ys[i],zs[i]]) kk (fun b hb=>fz b hb H' (nz b hb)) (zP3 _) ⟨by show 3<=sizeLine;decide,[u,v,w],.cons ru (.cons rv' (.cons rw' .nil)),_,gT,rfl,0,rfl⟩;have hS':=kk _ _ hSz hS;have SltS:S<s.heap.objs.size:=zP6 hS;have nS':upd H' s.heap.objs.size (.tup [xs[i],ys[i],zs[i]]) S=none:=by rw[zh (zQ7 SltS)];exact nS
   obtain⟨e',hSn⟩:∃e',(h'.update S (Obj.mapSeq (·.push (Value.ref s.heap.objs.size)))).get? S=some {cls:=.type "list",dict:=none,data:=.seq (acc++[Value.ref s.heap.objs.size]).toArray e',slots:=#[]}:=by
    have:=zX1 (c:="list") hS' fun x=>x.push (Value.ref s.heap.objs.size);rw[List.push_toArray] at this;exact⟨_,this⟩
   refine zO7 ?_;refine zW6 hS' rfl (zP8 ⟨zY7 zV8 _,ih (i+1) _ (by omega) hlt ⟨_,acc++[.ref s.heap.objs.size],vs++[.ref s.heap.objs.size],e',f0',f1',a',b',c',
    J.turnL (t':=s.toks) (ch:=[S]) (fun b o hb q=>(zR2 _ _ (zS2 (by simpa using hb))).trans q) (fun b hb=>by rw[zP7.mp hb];exact fS _ nS'),fun a o q=>stT _ _ (st a o q),hSn,nS',fun b hb=>?_,?_,.inr ⟨T,ot,hf,?_,hTn⟩,rv.append (.cons (show RelV (.ref s.heap.objs.size) (.ref s.heap.objs.size) from rfl) .nil),tr.snoc stT gx gy gz zk nT0⟩⟩)
    (by rw[zQ0,lacc,zU4];omega) (by show (acc.toArray.push _).size<=sizeLine+1;rw[Array.size_push,zQ0,lacc,zU4];omega)
   ·rw[zh]
    ·exact nz b hb
    ·exact zQ7 (zlt b hb)
   ·have oth:∀b o,b≠S->h'.get? b=some o->(h'.update S (Obj.mapSeq (·.push (Value.ref s.heap.objs.size)))).get? b=some o:=fun b o hb q=>(zR2 _ _ (zS2 hb)).trans q;simp only[z3,zP2,zQ3,zS4,not_or] at hSz;obtain⟨d1,d2,d3,d4,d5,d6⟩:=hSz;exact⟨oth _ _ (zS2 d6) Z'.z,oth _ _ (zS2 d4) Z'.ti,oth _ _ (zS2 d5) Z'.to,Z'.i1.at fun o q=>oth _ o (zS2 d1) q,Z'.i2.at fun o q=>oth _ o (zS2 d2) q,Z'.i3.at fun o q=>oth _ o (zS2 d3) q⟩
   ·exact (zR2 _ _ (fun z=>hTn (by rw[<-z];exact zQ1))).trans hT
  rcases fr with ⟨_,rfl⟩|⟨T,ot,rfl,hT,hTn⟩
  ·refine zO7 (mL h1 h2 h3 Z p1.isList p2.isList p3.isList (by simpa using hu) (by simpa using hv) (by simpa using hw) fun h' Z' gT kk=>?_);refine main h' _ _ _ _ _ Z' ⟨s.heap.objs.size,_,rfl,gT,?_⟩ gT kk;intro z;rcases zP2.mp z with z|z
   ·exact absurd (zP6 hS) (by rw[<-z];exact zU5 _)
   ·exact absurd (zlt _ z) (zU5 _)
  ·refine zO7 (ka h1 h2 h3 Z hT p1.isList p2.isList p3.isList (by simpa using hu) (by simpa using hv) (by simpa using hw) fun h' f1' Z' gT kk=>?_);exact main h' _ _ _ _ _ Z' ⟨T,ot,rfl,kk _ _ (fun z=>hTn (zP5 _ z)) hT,hTn⟩ gT kk
end
theorem rh (a b c:Value):checkTypeCall "zip" ⟨[a,b,c],[]⟩=pure ():=by kernel_rfl
theorem qM (a b c:Value):checkBuiltinCall "zip.__new__" ⟨[.type "zip",a,b,c],[]⟩=pure ():=by kernel_rfl
theorem uj (a b c d:Value):argsOk "object.__init__" ⟨[a,b,c,d],[]⟩:=by unfold argsOk;rw[signature?_of (id:="object.__init__") (n:=['_','_','t','i','n','i','_','_']) (o:=['t','c','e','j','b','o']) (by kernel_rfl) PySem.F.owner_object];kernel_rfl
theorem kd :typeLookup (.type "zip") "__len__"=pure none:=by rw[z57,z04];kernel_rfl
theorem mn :typeLookup (.type "zip") "__length_hint__"=pure none:=by rw[z57,z04];kernel_rfl
abbrev itO (l:Addr):Obj:={cls:=.type "list_iterator",data:=.fields #[.ref l,.int 0 0]}
abbrev zh3 (h:Heap)(l1 l2 l3:Addr):Heap:=((h.push (itO l1)).push (itO l2)).push (itO l3)
abbrev zh4 (h:Heap)(l1 l2 l3:Addr):Heap:=(zh3 h l1 l2 l3).push (tO3 (.ref h.objs.size) (.ref (h.push (itO l1)).objs.size) (.ref ((h.push (itO l1)).push (itO l2)).objs.size))
abbrev zh5 (h:Heap)(l1 l2 l3:Addr):Heap:=(zh4 h l1 l2 l3).push (tO3 .none .none .none)
abbrev zh6 (h:Heap)(l1 l2 l3:Addr):Heap:=(zh5 h l1 l2 l3).push (zO .none (.bool false) (zh3 h l1 l2 l3).objs.size (zh4 h l1 l2 l3).objs.size)
theorem rT (l1 l2 l3:Addr)(xs ys zs:Array Value):
  Meets (Builtin.«zip.__new__» ⟨[.type "zip",.ref l1,.ref l2,.ref l3],[]⟩) (fun _ R s=>s.heap.IsList l1 xs/\s.heap.IsList l2 ys/\s.heap.IsList l3 zs/\
   R (.ok (.ret (.ref (zh5 s.heap l1 l2 l3).objs.size))) {s with heap:=zh6 s.heap l1 l2 l3}):=
 .of_wp fun prog w A R s h=>by
  obtain⟨hp,g,d,tk,os⟩:=s;obtain⟨hl1,hl2,hl3,h⟩:=h;have hsub:=sub_zip;have hL1:Heap.IsList (Shared.heap ⟨hp,g,d,tk,os⟩) l1 xs:=hl1;have hL2:Heap.IsList (Shared.heap ⟨hp.push {cls:=.type "list_iterator",data:=.fields #[.ref l1,.int 0 0]},g,d,tk,os⟩) l2 ys:=Heap.IsList.push hl2 _;have hL3:Heap.IsList (Shared.heap ⟨(hp.push {cls:=.type "list_iterator",data:=.fields #[.ref l1,.int 0 0]}).push {cls:=.type "list_iterator",data:=.fields #[.ref l2,.int 0 0]},g,d,tk,os⟩) l3 zs:=Heap.IsList.push (Heap.IsList.push hl3 _) _
  wp_walk using zX3 hL1,zX3 hL2,zX3 hL3
  exact⟨_,rfl,h⟩
section
variable {prog:Program}{w:World}{A:Around}{E:Value->Shared->Prop}{s:Shared}
theorem jz {l1 l2 l3:Addr}{xs ys zs:Array Value}{Q:Value->Shared->Prop}(hl1:s.heap.IsList l1 xs)(hl2:s.heap.IsList l2 ys)(hl3:s.heap.IsList l3 zs)
  (h:∀h',vq h' s.heap.objs.size l1 l2 l3 0 .none (.bool false) .none .none .none->h'.objs.size=s.heap.objs.size+6->(∀c o,s.heap.get? c=some o->h'.get? c=some o)->Q (.ref (s.heap.objs.size+5)) {s with heap:=h'}):
  wpAny (model prog w) A (call (.type "zip") [.ref l1,.ref l2,.ref l3]) Q E s:=by
 refine callType_new PySem.F.called_zip (by decide) (rh _ _ _) (qM _ _ _) (fun obj=>uj obj _ _ _) PySem.F.entry_zip_new
  (rT l1 l2 l3 xs ys zs) ⟨hl1,hl2,hl3,?_⟩
 have z1:(s.heap.push (itO l1)).objs.size=s.heap.objs.size+1:=zU7 ..;have z2:((s.heap.push (itO l1)).push (itO l2)).objs.size=s.heap.objs.size+2:=by rw[zU7,z1]
 have z3':(zh3 s.heap l1 l2 l3).objs.size=s.heap.objs.size+3:=by rw[zU7,z2]
 have z4:(zh4 s.heap l1 l2 l3).objs.size=s.heap.objs.size+4:=by rw[zU7,z3']
 have z5:(zh5 s.heap l1 l2 l3).objs.size=s.heap.objs.size+5:=by rw[zU7,z4]
 have z6:(zh6 s.heap l1 l2 l3).objs.size=s.heap.objs.size+6:=by rw[zU7,z5]
 have g6:(zh6 s.heap l1 l2 l3).get? (zh5 s.heap l1 l2 l3).objs.size=some _:=zP9 _ rfl;have g5:(zh6 s.heap l1 l2 l3).get? (zh4 s.heap l1 l2 l3).objs.size=some _:=zO8 _ (zP9 _ rfl);have g4:(zh6 s.heap l1 l2 l3).get? (zh3 s.heap l1 l2 l3).objs.size=some _:=zO8 _ (zO8 _ (zP9 _ rfl));have g3:(zh6 s.heap l1 l2 l3).get? ((s.heap.push (itO l1)).push (itO l2)).objs.size=some _:=zO8 _ (zO8 _ (zO8 _ (zP9 _ rfl)));have g2:(zh6 s.heap l1 l2 l3).get? (s.heap.push (itO l1)).objs.size=some _:=zO8 _ (zO8 _ (zO8 _ (zO8 _ (zP9 _ rfl))));have g1:(zh6 s.heap l1 l2 l3).get? s.heap.objs.size=some _:=zO8 _ (zO8 _ (zO8 _ (zO8 _ (zO8 _ (zP9 _ rfl)))));show _/\_;rw[z5,z4,z3'] at g6;rw[z4] at g5;rw[z3',z2,z1] at g4;rw[z2] at g3;rw[z1] at g2;rw[z5];exact⟨⟨_,g6,rfl⟩,h _ ⟨g6,g4,g5,⟨_,g1,rfl,rfl⟩,⟨_,g2,rfl,rfl⟩,⟨_,g3,rfl,rfl⟩⟩ z6 fun c o x=>
  zO8 _ (zO8 _ (zO8 _ (zO8 _ (zO8 _ (zO8 _ x)))))⟩
end
section
variable {X:Cx}{pins:List (Addr×Obj)}{σ:St}{H:Hp}{s:Shared}
theorem gu {A:Around}{R:Result->Shared->Prop}{n l1 l2 l3:Nat}{S:Addr}{xs ys zs:List V}(hh:A.handled=none)(h1:l1<n)(h2:l2<n)(h3:l3<n)(I:Inv X pins σ H s)(Z:vq s.heap n l1 l2 l3 0 .none (.bool false) .none .none .none)(hS:s.heap.get? S=some {cls:=.type "list",data:=.seq #[]})
  (nS:H S=none) (nz:∀b∈z3 n,H b=none) (fS:∀H',H' S=none->xC X pins H' S) (fz:∀b∈z3 n,∀H',H' b=none->xC X pins H' b) (hSz:S∉z3 n)
  (q1:SqL X.K H l1 xs) (q2:SqL X.K H l2 ys) (q3:SqL X.K H l3 zs) (e2:ys.length=xs.length) (e3:zs.length=xs.length) (h0:0<xs.length) (hN:xs.length<=1000)
  (hR:∀s',zz2 X pins σ H S xs ys zs s'->R (.ok (.ret .none)) s'):
  wpAny (model X.prog X.w) A.in1 (Builtin.«list.__init__» ⟨[.ref S,.ref (n+5:Nat)],[]⟩)
   (fun fin s'=>match fin with|.done f=>R (.ok f) s'|.again c'=>c'.quiet=true/\codeAny (model X.prog X.w) A c' R s') (fun e s'=>R (.error e) s') s:=by
 have hSz':=hSz;simp only[z3,zP2,zQ3,zS4,not_or] at hSz';obtain⟨d1,d2,d3,d4,d5,d6⟩:=hSz';show wpAny _ _ (do let old <-Builtin.List.listItems (.ref S);Builtin.List.listUpdate (.ref S) (fun _=>#[]);letGo old.toList.reverse;Builtin.List.listExtendWith (.ref S) (.ref (n+5:Nat)) .none) _ _ s;refine zO7 ?_;unfold Builtin.List.listItems;refine zO7 (zU9 hS rfl (zP8 ?_));show wpAny _ _ (updateSeq S (fun _=>#[]) >>= fun _=>letGo (#[]:Array Value).toList.reverse >>= fun _=>Builtin.List.listExtendWith (.ref S) (.ref (n+5:Nat)) .none) _ _ s;refine zO7 (zW6 hS rfl ?_);obtain⟨e',hS₂⟩:∃e',(s.heap.update S (Obj.mapSeq (fun _=>(#[]:Array Value)))).get? S=some {cls:=.type "list",dict:=none,data:=.seq #[] e',slots:=#[]}:=⟨_,zX1 (c:="list") hS fun _=>#[]⟩;have oth:∀b o,b≠S->s.heap.get? b=some o->(s.heap.update S (Obj.mapSeq (fun _=>(#[]:Array Value)))).get? b=some o:=
  fun b o hb e=>(zR2 _ _ (zS2 hb)).trans e
 have Z₂:vq (s.heap.update S (Obj.mapSeq (fun _=>(#[]:Array Value)))) n l1 l2 l3 0 .none (.bool false) .none .none .none:=⟨oth _ _ (zS2 d6) Z.z,oth _ _ (zS2 d4) Z.ti,oth _ _ (zS2 d5) Z.to,Z.i1.at fun o q=>oth _ o (zS2 d1) q,Z.i2.at fun o q=>oth _ o (zS2 d2) q,Z.i3.at fun o q=>oth _ o (zS2 d3) q⟩;refine zO7 (zY2 ?_);have I₂:Inv X pins σ H {s with heap:=s.heap.update S (Obj.mapSeq (fun _=>(#[]:Array Value))),toks:=s.toks}:=I.turnL (ch:=[S]) (fun b o hb q=>oth b o (by simpa using hb) q) fun b hb=>by rw[zP7.mp hb];exact fS H nS
 have hT:({s with heap:=s.heap.update S (Obj.mapSeq (fun _=>(#[]:Array Value)))}:Shared).TypeIs (.ref (n+5:Nat)) "zip":=⟨_,Z₂.z,rfl⟩;unfold Builtin.List.listExtendWith;refine zO7 (wpAny_typeOf hT ?_);have b1:Builtin.List.listSameRef (.ref S) (.ref (n+5:Nat))=false:=by simp[Builtin.List.listSameRef];exact d6
 have b2:(Value.type "zip" == Value.type "list")=false:=by decide
 have b3:(Value.type "zip" == Value.type "tuple")=false:=by decide
 simp only[b1,b2,b3,z08,zS9,zW3];refine zO7 (wpAny_pyIter_slot hT PySem.F.slot_zip_iter (z44 PySem.F.slot_zip_iter hT PySem.F.entry_zip_iter ?_ (PySem.F.args_zip_iter_1 _)));show wpAny _ _ (ret (.ref (n+5:Nat))) _ _ _;refine zP8 ⟨_,rfl,"zip",_,hT,zV9.lookup,?_⟩;refine zO7 (zU6 ?_);unfold Builtin.List.listLengthHint;refine zO7 (z24 hT kd ?_);show wpAny _ _ (specialOf (Value.ref (n+5:Nat)) (Str.ofString "__length_hint__") >>= _) _ _ _;refine zO7 (z24 hT mn ?_);refine zP8 ?_;have key:∀(h:Heap) (e:Nat),h.get? S=some {cls:=.type "list",dict:=none,data:=.seq #[] e,slots:=#[]}->(∀b o,b≠S->s.heap.get? b=some o->h.get? b=some o)->codeAny (model X.prog X.w) A (.builtin "list.extend.loop" ⟨[.ref S,.ref (n+5:Nat),.none],[]⟩) R {s with heap:=h}:=by
  intro h e hS' oth';refine gA hh h1 h2 h3 fS fz hSz q1 q2 q3 e2 e3 h0 hN hR xs.length 0 _ (by omega) (zQ8 _) ⟨H,[],[],e,.none,.bool false,.none,.none,.none,I.turnL (t':=s.toks) (ch:=[S]) (fun b o hb q=>oth' b o (by simpa using hb) q) (fun b hb=>by rw[zP7.mp hb];exact fS H nS),fun _ _ e=>e,hS',nS,nz,?_,.inl ⟨rfl,rfl⟩,.nil,rfl,fun j hj=>absurd hj (Nat.not_lt_zero _)⟩;exact⟨oth' _ _ (zS2 d6) Z.z,oth' _ _ (zS2 d4) Z.ti,oth' _ _ (zS2 d5) Z.to,Z.i1.at fun o q=>oth' _ o (zS2 d1) q,Z.i2.at fun o q=>oth' _ o (zS2 d2) q,Z.i3.at fun o q=>oth' _ o (zS2 d3) q⟩
 refine zZ9 (fun _=>?_) (fun _=>zP8 ⟨zY7 zV8 _,key _ _ hS₂ oth⟩);refine zO7 (wpAny_rule ?_);refine zO7 ?_;show wpAny _ _ (updateSeq S (·.push .none) >>= fun _=>updateSeq S (·.pop)) _ _ _;refine zO7 (zW6 hS₂ rfl ?_);obtain⟨e3',hS₃⟩:∃e',((s.heap.update S (Obj.mapSeq (fun _=>(#[]:Array Value)))).update S (Obj.mapSeq (·.push Value.none))).get? S=some {cls:=.type "list",dict:=none,data:=.seq #[.none] e',slots:=#[]}:=⟨_,zX1 (c:="list") hS₂ fun x=>x.push Value.none⟩;refine zW6 (hz:=by seq_fits) hS₃ rfl ?_;obtain⟨e4',hS₄⟩:∃e',(((s.heap.update S (Obj.mapSeq (fun _=>(#[]:Array Value)))).update S (Obj.mapSeq (·.push Value.none))).update S (Obj.mapSeq (·.pop))).get? S=some {cls:=.type "list",dict:=none,data:=.seq #[] e',slots:=#[]}:=⟨_,zX1 (c:="list") hS₃ fun x=>x.pop⟩;refine zP8 ⟨zY7 zV8 _,key _ _ hS₄ fun b o hb e=>?_⟩;exact (zR2 _ _ (zS2 hb)).trans ((zR2 _ _ (zS2 hb)).trans (oth b o hb e))
end
section
variable {X:Cx}{pins:List (Addr×Obj)}{σ:St}{H:Hp}{s:Shared}
theorem rP {A:Around}{E:Value->Shared->Prop}{Q:Value->Shared->Prop}{n l1 l2 l3:Nat}{xs ys zs:List V}(hh:A.handled=none)(h1:l1<n)(h2:l2<n)(h3:l3<n)(I:Inv X pins σ H s)(Z:vq s.heap n l1 l2 l3 0 .none (.bool false) .none .none .none)
  (nz:∀b∈z3 n,H b=none) (fz:∀b∈z3 n,∀H',H' b=none->xC X pins H' b)
  (q1:SqL X.K H l1 xs) (q2:SqL X.K H l2 ys) (q3:SqL X.K H l3 zs) (e2:ys.length=xs.length) (e3:zs.length=xs.length) (h0:0<xs.length) (hN:xs.length<=1000)
  (hQ:∀D s',s.heap.objs.size<=D->zz2 X pins σ H D xs ys zs s'->(∀H',H' D=none->xC X pins H' D)->Q (.ref D) s'):
  wpAny (model X.prog X.w) A (call (.type "list") [.ref (n+5:Nat)]) Q E s:=by
 refine callType_codes (Q₁:=fun obj s₁=>obj=.ref s.heap.objs.size/\s₁={s with heap:=s.heap.push {cls:=.type "list",data:=.seq #[]}}) PySem.F.called_list (PySem.F.typeCall_list_1 _) PySem.F.entry_list_init
  (code_list_new _ ⟨rfl,rfl⟩) fun obj s₁ h₁=>?_
 obtain⟨rfl,rfl⟩:=h₁;have hS:(s.heap.push {cls:=.type "list",data:=.seq #[]}).get? s.heap.objs.size=some {cls:=.type "list",data:=.seq #[]}:=zP9 _ rfl;have up:∀b o,s.heap.get? b=some o->(s.heap.push {cls:=.type "list",data:=.seq #[]}).get? b=some o:=fun b o e=>zO8 _ e;have fS:∀H':Hp,H' s.heap.objs.size=none->xC X pins H' s.heap.objs.size:=fun H' h=>I.fpOk (zP3 _) h;have hSz:s.heap.objs.size∉z3 n:=fun hb=>by
  have:∃o,s.heap.get? s.heap.objs.size=some o:=by
   simp only[z3,zP2,zQ3,zS4] at hb;obtain⟨o1,q1,_⟩:=Z.i1;obtain⟨o2,q2,_⟩:=Z.i2;obtain⟨o3,q3,_⟩:=Z.i3;rcases hb with z|z|z|z|z|z<;>rw[z]
   ·exact⟨_,q1⟩
   ·exact⟨_,q2⟩
   ·exact⟨_,q3⟩
   ·exact⟨_,Z.ti⟩
   ·exact⟨_,Z.to⟩
   ·exact⟨_,Z.z⟩
  obtain⟨o,q⟩:=this;exact absurd (zP6 q) (zU5 _)
 refine⟨⟨_,hS,rfl⟩,PySem.F.args_list_init_2 _ _,gu (A:=A.in1) hh h1 h2 h3 (I.kept (t':=s.toks) up) ⟨up _ _ Z.z,up _ _ Z.ti,up _ _ Z.to,Z.i1.at fun o q=>up _ o q,Z.i2.at fun o q=>up _ o q,Z.i3.at fun o q=>up _ o q⟩ hS (I.hok.fresh (zP3 _)) nz fS fz hSz q1 q2 q3 e2 e3 h0 hN fun s' ze=>⟨rfl,hQ _ s' (zP3 _) ze fS⟩⟩
variable {a b c:Expr}{p p0 pos pos2:Pos}
theorem mM {ta:TA}(hc:X.calm=true)(hgl:Gl X "list")(hml:X.mg "list"=none)(hg:Gl X "zip")(hm:X.mg "zip"=none)(ha:PA X [a,b,c] ta)
  (hs0:starEach [.Call (.Name "zip" p) [a,b,c] [] pos2] X.env=[(false,eval (.Call (.Name "zip" p) [a,b,c] [] pos2) X.env)]:=by rfl)
  (hs:starEach [a,b,c] X.env=(false,eval a X.env)::starEach [b,c] X.env:=by rfl) (hpl:(backTo pos2 (starEach [b,c] X.env)).any (·.1)=false:=by rfl):
  PE X (.Call (.Name "list" p0) [.Call (.Name "zip" p) [a,b,c] [] pos2] [] pos) (fun σ H Q=>ta σ H fun vs H1=>∃(l1 l2 l3:Addr) (xs ys zs:List V),vs=[.ref l1,.ref l2,.ref l3]/\SqL X.K H1 l1 xs/\SqL X.K H1 l2 ys/\SqL X.K H1 l3 zs/\ys.length=xs.length/\zs.length=xs.length/\0<xs.length/\xs.length<=1000/\
   ∀D H' vs,H1 D=none->(∀a o,H1 a=some o->H' a=some o)->H' D=some (.lst vs)->(∃H'',(∀a o,H'' a=some o->a≠D/\H' a=some o)/\Tri H1 H'' xs ys zs vs xs.length)->Q (.ref D) H'):=by
 intro pins s σ H Q I h;refine Call_ (xq I hgl hml boot_list (zS5 ?_ hs0 rfl));rw[hs0];show wpAny _ _ (spliced ((false,eval _ X.env)::backTo pos [])) _ _ s;refine Calls.spliced_cons ?_;refine Call_ (xq I hg hm boot_zip (zS5 (thn (ha pos2 pins s σ H _ I h) fun us s1 ⟨vs,H1,I1,r1,q1⟩=>?_) hs hpl));obtain⟨l1,l2,l3,xs,ys,zs,e,hq1,hq2,hq3,e2,e3,h0,hN,q⟩:=q1;subst e;obtain⟨u,v,w,rfl,ru,rv,rw'⟩:∃u v w,us=[u,v,w]/\RelV (.ref l1) u/\RelV (.ref l2) v/\RelV (.ref l3) w:=by
  cases r1 with
  |cons a r1=>
   cases r1 with
   |cons b r1=>
    cases r1 with
    |cons c r1=>
     cases r1;exact⟨_,_,_,rfl,a,b,c⟩
 cases (show u=Value.ref l1 from ru);cases (show v=Value.ref l2 from rv);cases (show w=Value.ref l3 from rw');obtain⟨its1,rv1,p1,hz1⟩:=I1.list hq1;obtain⟨its2,rv2,p2,hz2⟩:=I1.list hq2;obtain⟨its3,rv3,p3,hz3⟩:=I1.list hq3;refine jz p1.isList p2.isList p3.isList fun h' Z sz hk=>?_;have lt1:l1<s1.heap.objs.size:=by obtain⟨o,e,_⟩:=p1.isList;exact zP6 e
 have lt2:l2<s1.heap.objs.size:=by obtain⟨o,e,_⟩:=p2.isList;exact zP6 e
 have lt3:l3<s1.heap.objs.size:=by obtain⟨o,e,_⟩:=p3.isList;exact zP6 e
 have le:∀b∈z3 s1.heap.objs.size,s1.heap.objs.size<=b:=fun b hb=>by
  simp only[z3,zP2,zQ3,zS4] at hb;have key:∀n b:Nat,(b=n\/b=n+1\/b=n+2\/b=n+3\/b=n+4\/b=n+5)->n<=b:=fun n b h=>by omega
  exact key _ _ hb
 have I2:Inv X pins σ H1 {s1 with heap:=h',toks:=s1.toks}:=I1.kept fun b o e=>hk b o e;refine zT6 (Q:=_) (show wpAny _ _ (spliced []) (fun vs s₁=>vs=[]/\s₁={s1 with heap:=h'}) X.xe {s1 with heap:=h'} from zP8 ⟨rfl,rfl⟩) (fun vs s2 hv=>?_) fun _ _ z=>z;obtain⟨rfl,rfl⟩:=hv;refine rP (s:={s1 with heap:=h'}) (I.ok.hd hc) lt1 lt2 lt3 I2 Z (fun b hb=>I1.hok.fresh (le b hb)) (fun b hb H' hn=>I1.fpOk (le b hb) hn) hq1 hq2 hq3 e2 e3 h0 hN fun D s' lD ze fD=>?_;obtain⟨H',acc,vs,e,I',st,hD,nD,rvs,tri⟩:=ze.ex;have nD1:H1 D=none:=I2.hok.fresh lD;have stD:∀a o,H' a=some o->a≠D/\upd H' D (.lst vs) a=some o:=fun a o q=>by
  have n:a≠D:=fun z=>by rw[z,nD] at q;cases q
  exact⟨n,by rw[zh n];exact q⟩
 refine⟨.ref D,upd H' D (.lst vs),I'.adopt (fD H' nD) ⟨?_,acc,e,rvs,hD⟩,rfl,q D _ vs nD1 (fun a o q=>(stD a o (st a o q)).2) zk ⟨H',stD,tri⟩⟩;rw[tri.1,zU4];omega
end
def zf6 (a b c:PyData):PyData:=.tuple [a,b,c]
def wI :List PyData->List PyData->List PyData->List PyData
 |a::as,b::bs,c::cs=>zf6 a b c::wI as bs cs
 |_,_,_=>[]
theorem tN :∀{as bs cs:List PyData},bs.length=as.length->cs.length=as.length->(wI as bs cs).length=as.length
 |[],_,_,_,_=>rfl
 |a::as,b::bs,c::cs,h1,h2=>by rw[wI,zQ4,zQ4,tN (by simpa using h1) (by simpa using h2)]
theorem tR :∀{as bs cs:List PyData} {j:Nat} {d:PyData},(wI as bs cs)[j]?=some d->∃a b c,as[j]?=some a/\bs[j]?=some b/\cs[j]?=some c/\d=zf6 a b c
 |[],_,_,j,d,h=>by simp[wI] at h
 |a::as,[],_,j,d,h=>by simp[wI] at h
 |a::as,b::bs,[],j,d,h=>by simp[wI] at h
 |a::as,b::bs,c::cs,0,d,h=>by simp[wI] at h;exact⟨a,b,c,rfl,rfl,rfl,h.symm⟩
 |a::as,b::bs,c::cs,j+1,d,h=>by
  obtain⟨x,y,z,e1,e2,e3,e4⟩:=tR (as:=as) (bs:=bs) (cs:=cs) (j:=j) (d:=d) (by simpa[wI] using h);exact⟨x,y,z,by simpa using e1,by simpa using e2,by simpa using e3,e4⟩
theorem iT {G:Hp}:∀{vs:List V} {ds:List PyData},vs.length=ds.length->(∀(j:Nat) d,ds[j]?=some d->∃v,vs[j]?=some v/\AV G v d)->AVs G vs ds
 |[],[],_,_=>.nil
 |v::vs,d::ds,hl,h=>by
  obtain⟨v',e,a⟩:=h 0 d rfl;cases e;exact .cons a (iT (by simpa using hl) fun j d' hd=>h (j+1) d' (by simpa using hd))
section
variable {X:Cx}{α:Ev}{a b c:Expr}{p p0 pos pos2:Pos}
theorem mv {Q:List PyData->Prop}(hc:X.calm=true)(hgl:Gl X "list")(hml:X.mg "list"=none)(hg:Gl X "zip")(hm:X.mg "zip"=none)
  (h:EvA X α [a,b,c] fun as=>∃ds es fs,as=[.dat (.list ds),.dat (.list es),.dat (.list fs)]/\es.length=ds.length/\fs.length=ds.length/\0<ds.length/\ds.length<=1000/\Q (wI ds es fs))
  (hs0:starEach [.Call (.Name "zip" p) [a,b,c] [] pos2] X.env=[(false,eval (.Call (.Name "zip" p) [a,b,c] [] pos2) X.env)]:=by rfl)
  (hs:starEach [a,b,c] X.env=(false,eval a X.env)::starEach [b,c] X.env:=by rfl) (hpl:(backTo pos2 (starEach [b,c] X.env)).any (·.1)=false:=by rfl):
  EvL X α (.Call (.Name "list" p0) [.Call (.Name "zip" p) [a,b,c] [] pos2] [] pos) Q:=fun F σ H R m k=>by
 refine⟨_,mM hc hgl hml hg hm yN hs0 hs hpl,?_⟩;refine h F σ H _ m fun as vs H1 q1 t1 k1 rv=>?_;have m1:=m.kz k1 t1;obtain⟨ds,es,fs,rfl,l2,l3,l0,lN,q⟩:=q1;cases rv with
 |cons r1 rv=>
  cases rv with
  |cons r2 rv=>
   cases rv with
   |cons r3 rv=>
    cases rv;obtain⟨a1,xs,rfl,g1,A1⟩:=AV.lst_inv r1;obtain⟨a2,ys,rfl,g2,A2⟩:=AV.lst_inv r2;obtain⟨a3,zs,rfl,g3,A3⟩:=AV.lst_inv r3;have y1:=A1.length;have y2:=A2.length;have y3:=A3.length;refine⟨a1,a2,a3,xs,ys,zs,rfl,SqL.of (zj g1).2,SqL.of (zj g2).2,SqL.of (zj g3).2,by omega,by omega,by omega,by omega,fun D H' vs hD st hD' tr=>?_⟩;obtain⟨H'',sb,tri⟩:=tr;have sm:zz H1 H':=fun a o e=>st a o e;refine k _ _ H' q (t1.same sm) (k1.trans (Kz.of_same sm)) ⟨D,vs,rfl,?_,hD',?_⟩
    ·cases z:H D with
     |none=>rfl
     |some o=>rw[k1 D o z (m.tp.nt (ow0 (m1.fresh hD)))] at hD;cases hD
    ·have gs:zz (Gz F α σ H1) (sub (fun x=>¬Ow F α σ x/\x≠D) H'):=zw fun a o h e=>⟨⟨h,zm e hD⟩,st a o e⟩;refine iT (by rw[tri.1,tN l2 l3];exact y1) fun j d hd=>?_;obtain⟨d1,d2,d3,e1,e2,e3,rfl⟩:=tR hd;have hj:j<xs.length:=by rw[y1];exact (zP1.mp e1).1
     obtain⟨t,x,y,z,f1,f2,f3,f4,f5,f6⟩:=tri.2 j hj;obtain⟨x',ex,ax⟩:=A1.get e1;obtain⟨y',ey,ay⟩:=A2.get e2;obtain⟨z',ez,az⟩:=A3.get e3;rw[f2] at ex;cases ex;rw[f3] at ey;cases ey;rw[f4] at ez;cases ez;obtain⟨nt,ht⟩:=sb t _ f5;exact⟨_,f1,.tup (zE ⟨m1.fresh f6,nt⟩ ht) (.cons (ax.same gs) (.cons (ay.same gs) (.cons (az.same gs) .nil)))⟩
theorem rK :∀{ns:List Int} {its:List Value},Vals (ns.map V.int) its->∃ps:List (Int×Tok),its=ps.map (fun p=>Value.int p.1 p.2)/\ps.map (·.1)=ns
 |[],_,.nil=>⟨[],rfl,rfl⟩
 |n::ns,_,.cons h hs=>by
  obtain⟨ps,e1,e2⟩:=rK hs;obtain⟨t,rfl⟩:=h;exact⟨(n,t)::ps,by rw[e1];rfl,by rw[<-e2];rfl⟩
theorem rS (ps:List (Int×Tok))(k:Nat):numAt ps.toArray k=(ps.map (·.1)).getD k 0:=by
 unfold numAt;rw[z03,zP0,zQ2]
theorem vH (ps:List (Int×Tok)):∀k,k<=ps.length->preSum (numAt ps.toArray) k=((ps.map (·.1)).take k).sum
 |0,_=>by simp[preSum]
 |k+1,h=>by
  have hk:k<(ps.map (·.1)).length:=by rw[zO6];omega
  rw[preSum,vH ps k (by omega),rS,zW4,zO9 hk,List.sum_append,zP0,zO9 hk];simp
def Fits (ns:List Int):Prop:=∀k,k<=ns.length->-(2 ^ 62)<=(ns.take k).sum/\(ns.take k).sum<2 ^ 62
theorem eA (hc:X.calm=true):xj X (.builtin "sum") (fun xs H Q=>∃(l:Addr) (ns:List Int),xs=[.ref l]/\SqL X.K H l (ns.map V.int)/\(∀n∈ns,-(2 ^ 62)<=n/\n<2 ^ 62)/\Fits ns/\Q (.int ns.sum) H):=by
 intro pins s σ H xs us Q I r h;obtain⟨l,ns,rfl,hS,hb,hf,q⟩:=h;obtain⟨u,rfl,rx⟩:=Vals.one r;cases (show u=Value.ref l from rx);obtain⟨its,rv,p,hz⟩:=I.list hS;obtain⟨ps,rfl,rfl⟩:=rK rv;have hl:s.heap.IsList l (intItems ps.toArray):=by
  have:=p.isList
  rwa [show intItems ps.toArray=(ps.map fun p=>Value.int p.1 p.2).toArray by simp[intItems]]
 refine sum_intList (I.ok.hd hc) hl (fun j hj=>?_) fun h' tk t' hk=>?_
 ·have hj':j<ps.length:=by simpa using hj
  have hk:j<(ps.map (·.1)).length:=by rw[zO6];exact hj'
  rw[vH ps (j+1) (by omega),rS,zP0,zO9 hk];have h1:=hb _ (zT9 hk);have h2:=hf (j+1) (by omega);refine⟨⟨?_,?_⟩,?_,?_⟩
  ·show -(2 ^ 63)<=(ps.map (·.1))[j];omega
  ·show (ps.map (·.1))[j]<2 ^ 63;omega
  ·omega
  ·omega
 ·rw[show preSum (numAt ps.toArray) ps.toArray.size=(ps.map (·.1)).sum by rw[zQ0,vH ps ps.length (zP3 _),<-zO6 (f:=(·.1)) (as:=ps),zW2]];exact⟨.int _,H,I.kept (t':=tk) hk,⟨_,rfl⟩,q⟩
theorem zm1 {Q:PyData->Prop}{e:Expr}(hc:X.calm=true)(hg:Gl X "sum")(hm:X.mg "sum"=none)(h:EvD X α e fun x=>∃ns:List Int,x=.list (ns.map .int)/\(∀n∈ns,-(2 ^ 62)<=n/\n<2 ^ 62)/\Fits ns/\Q (.int ns.sum))(he:starEach [e] X.env=(false,eval e X.env)::starEach [] X.env:=by rfl):
  EvD X α (.Call (.Name "sum" p) [e] [] pos) Q:=by
 refine wG (eA hc) hg hm boot_sum (zd (h.imp fun x ⟨ns,e1,hb,hf,q⟩=>zp ?_) he) (he:=he);intro F σ H vs R m rv k;subst e1;obtain⟨v,rfl,av⟩:=rv.one;obtain⟨a,xs,rfl,h1,h2⟩:=av.lst_inv;cases h2.ints;exact⟨a,ns,rfl,SqL.of (zj h1).2,hb,hf,k _ _ H q m.tp Kz.refl (.int _)⟩
end
def yA :List Int->List Bool->List Int
 |z::zs,b::bs=>if b=true then yA zs bs else z::yA zs bs
 |_,_=>[]
theorem vU :∀{zs:List Int} {bs:List Bool} {z:Int},z∈yA zs bs->z∈zs
 |[],_,z,h=>by simp[yA] at h
 |y::zs,[],z,h=>by simp[yA] at h
 |y::zs,b::bs,z,h=>by
  rw[yA] at h;split at h
  ·exact zP5 _ (vU h)
  ·rcases zP2.mp h with e|h
   ·rw[e];exact zQ1
   ·exact zP5 _ (vU h)
theorem tj :∀(zs:List Int) (bs:List Bool),(yA zs bs).length<=zs.length
 |[],_=>by simp[yA]
 |y::zs,[]=>by simp[yA]
 |y::zs,b::bs=>by
  rw[yA];have:=tj zs bs;split
  ·rw[zQ4];omega
  ·rw[zQ4,zQ4];omega
theorem sum_bound :∀{ns:List Int} {m:Int},0<=m->(∀n∈ns,0<=n/\n<=m)->0<=ns.sum/\ns.sum<=ns.length*m
 |[],m,_,_=>by simp
 |n::ns,m,h0,h=>by
  obtain⟨a,b⟩:=sum_bound h0 fun x hx=>h x (zP5 _ hx);have:=h n zQ1;rw[zX5,zQ4,z58,Int.add_mul]
  constructor
  ·omega
  ·simp;omega
theorem jf {ns:List Int}(h:∀n∈ns,0<=n/\n<=1000000000000)(hl:ns.length<=1000):Fits ns:=fun k hk=>by
 obtain⟨a,b⟩:=sum_bound (ns:=ns.take k) (m:=1000000000000) (by decide) fun n hn=>h n (z59 hn);have:((ns.take k).length:Int)*1000000000000<=1000*1000000000000:=by
  apply Int.mul_le_mul_of_nonneg_right _ (by decide);rw[zS0];omega
 omega
def zz5 (p:Nat):PyData->PyData
 |.tuple [a,b,c]=>if p=1 then b else c
 |_=>.none
def sV :PyData->Bool
 |.tuple [_,_,.bool b]=>b
 |_=>false
theorem qB :∀{ds:List PyData} {zs:List Int} {bs:List Bool},zs.length=ds.length->bs.length=ds.length->((wI ds (zs.map .int) (bs.map .bool)).filter fun d=>!sV d).map (zz5 1)=(yA zs bs).map .int
 |[],[],[],_,_=>rfl
 |d::ds,z::zs,b::bs,h1,h2=>by
  have ih:=qB (ds:=ds) (zs:=zs) (bs:=bs) (by simpa using h1) (by simpa using h2);rw[zR4,zR4,wI,yA,z07];cases b with
  |true=>simpa[sV,zf6] using ih
  |false=>simp[sV,zf6,zz5];exact ih
def wF (d:PyData)(zs:List Int)(bs:List Bool):Prop:=(d=.none/\bs=List.replicate zs.length false)\/∃many free:Nat,d=.tuple [.int many,.int free]/\uB zs many free zs.length bs
theorem wF.len {d:PyData}{zs:List Int}{bs:List Bool}(h:wF d zs bs):bs.length=zs.length:=by
 rcases h with ⟨_,rfl⟩|⟨_,_,_,h⟩
 ·simp
 ·exact h.1
def zF :List Int->List Bool->Int
 |z::zs,b::bs=>(if b=true then z else 0)+zF zs bs
 |_,_=>0
theorem ur :∀{zs:List Int} {bs:List Bool},bs.length=zs.length->(yA zs bs).sum=zs.sum-zF zs bs
 |[],[],_=>by simp[yA,zF]
 |z::zs,b::bs,h=>by
  have ih:=ur (zs:=zs) (bs:=bs) (by simpa using h);rw[yA,zF,zX5];cases b with
  |true=>rw[if_pos rfl,if_pos rfl,ih];omega
  |false=>rw[if_neg (by decide),if_neg (by decide),zX5,ih];omega
theorem vQ :∀{zs ys:List Int} {bs cs:List Bool},bs.length=zs.length->zF (zs++ys) (bs++cs)=zF zs bs+zF ys cs
 |[],ys,[],cs,_=>by simp[zF]
 |z::zs,ys,b::bs,cs,h=>by
  rw[zZ5,zZ5,zF,zF,vQ (by simpa using h)];omega
theorem uk :∀{zs:List Int} {bs:List Bool},(∀b∈bs,b=false)->zF zs bs=0
 |[],_,_=>by simp[zF]
 |_::_,[],_=>by simp[zF]
 |z::zs,b::bs,h=>by
  rw[zF,h b zQ1,uk fun x hx=>h x (zP5 _ hx)];rfl
theorem mI :∀{zs ys:List Int} {bs:List Bool},ys.length=zs.length->(∀i,i<zs.length->zs.getD i 0<=ys.getD i 0)->zF zs bs<=zF ys bs
 |[],[],_,_,_=>by simp[zF]
 |_::_,_::_,[],_,_=>by simp[zF]
 |z::zs,y::ys,b::bs,hl,h=>by
  have ih:=mI (zs:=zs) (ys:=ys) (bs:=bs) (by simpa using hl) fun i hi=>by
   have:=h (i+1) (by simpa using hi);simpa using this
  have h0:=h 0 (by simp);simp at h0;rw[zF,zF];split<;>omega
theorem wO :∀{zs ys:List Int} {bs:List Bool} {d:Int},ys.length=zs.length->ys.sum=zs.sum+d->(∀i,i<zs.length->zs.getD i 0<=ys.getD i 0)->zF ys bs<=zF zs bs+d
 |[],[],_,d,_,hs,_=>by simp[zF] at hs ⊢;omega
 |z::zs,y::ys,[],d,hl,hs,h=>by
  have ih:=wO (zs:=zs) (ys:=ys) (bs:=[]) (d:=d-(y-z)) (by simpa using hl) (by rw[zX5,zX5] at hs;omega) fun i hi=>by
   have:=h (i+1) (by simpa using hi);simpa using this
  have h0:=h 0 (by simp);simp at h0;have e1:zF ys []=0:=by cases ys<;>rfl
  have e2:zF zs []=0:=by cases zs<;>rfl
  rw[e1,e2] at ih;show (0:Int)<=0+d;omega
 |z::zs,y::ys,b::bs,d,hl,hs,h=>by
  have ih:=wO (zs:=zs) (ys:=ys) (bs:=bs) (d:=d-(y-z)) (by simpa using hl) (by rw[zX5,zX5] at hs;omega) fun i hi=>by
   have:=h (i+1) (by simpa using hi);simpa using this
  have h0:=h 0 (by simp);simp at h0;rw[zF,zF];split<;>omega
theorem nM {t:Int}:∀{zs:List Int} {bs cs:List Bool},bs.length=zs.length->cs.length=zs.length->(∀i,i<zs.length->(bs.getD i false=true->zs.getD i 0<=t)/\(bs.getD i false=false->t<=zs.getD i 0))->
  zF zs bs-t*(bs.count true:Nat)<=zF zs cs-t*(cs.count true:Nat)
 |[],[],[],_,_,_=>by simp[zF]
 |z::zs,b::bs,c::cs,h1,h2,h=>by
  have ih:=nM (t:=t) (zs:=zs) (bs:=bs) (cs:=cs) (by simpa using h1) (by simpa using h2) fun i hi=>by
   have:=h (i+1) (by simpa using hi);simpa using this
  have h0:=h 0 (by simp);simp only[List.getD_cons_zero] at h0;rw[zF,zF];have eb:t*(((b::bs).count true:Nat):Int)=t*(bs.count true:Nat)+(if b=true then t else 0):=by
   cases b with
   |true=>rw[List.count_cons_self,z58,Int.mul_add,if_pos rfl];simp
   |false=>rw[List.count_cons_of_ne (by decide),if_neg (by decide)];simp
  have ecc:t*(((c::cs).count true:Nat):Int)=t*(cs.count true:Nat)+(if c=true then t else 0):=by
   cases c with
   |true=>rw[List.count_cons_self,z58,Int.mul_add,if_pos rfl];simp
   |false=>rw[List.count_cons_of_ne (by decide),if_neg (by decide)];simp
  rw[eb,ecc];generalize t*((bs.count true:Nat):Int)=x at *;generalize t*((cs.count true:Nat):Int)=y at *;cases b with
  |true=>
   have:=h0.1 rfl;cases c<;>simp<;>omega
  |false=>
   have:=h0.2 rfl;cases c<;>simp<;>omega
theorem js {zs ms:List Int}{lo many free:Nat}{bs cs:List Bool}(s:qC (zt (lo:Int) many) zs ms)(hz:lo+many<=zs.length)(hb:bs.length=zs.length)(h:∀q,q<many->bs.getD (ms.getD q 0).toNat false=decide (q<free))(f0:0<free)(hf:free<=many)(h0:∀z∈zs,0<=z)
  (hc:cs.length=many) (hn:free<=cs.count true):zF ((zs.drop lo).take many) ((bs.drop lo).take many)<=zF ((zs.drop lo).take many) cs:=by
 have hl:ms.length=many:=by rw[s.1.length_eq,zi]
 have lz:((zs.drop lo).take many).length=many:=by rw[zS0,zW1];omega
 have lb:((bs.drop lo).take many).length=many:=by rw[zS0,zW1];omega
 have gb:∀a,a<many->((bs.drop lo).take many).getD a false=bs.getD (lo+a) false:=fun a ha=>by rw[zP0,zP0,z30 ha,z33]
 have gz:∀a,a<many->((zs.drop lo).take many).getD a 0=zs.getD (lo+a) 0:=fun a ha=>by rw[zP0,zP0,z30 ha,z33]
 have up:∀p q,p<q->q<many->zs.getD (ms.getD p 0).toNat 0<=zs.getD (ms.getD q 0).toNat 0:=fun p q hpq hq=>by
  have w:=z23.mp s.2 p q (by omega) (by omega) hpq;have w:=of_decide_eq_false (show decide _=false from w);simp only[keyOf] at w;rw[zP0 (l:=ms),zP0 (l:=ms),zO9 (by omega),zO9 (by omega)];simp only[Option.getD_some];omega
 have line:=nM (t:=zs.getD (ms.getD (free-1) 0).toNat 0) (zs:=(zs.drop lo).take many) (bs:=(bs.drop lo).take many) (cs:=cs) (by rw[lb,lz]) (by rw[hc,lz]) fun i hi=>by
  rw[lz] at hi;rw[gb i hi,gz i hi];obtain⟨q,hq,e⟩:=zu6 s (m:=((lo+i:Nat):Int)) (by omega) (by omega);have fq:=h q hq;rw[e,zU2] at fq;have eq:zs.getD (lo+i) 0=zs.getD (ms.getD q 0).toNat 0:=by rw[e,zU2]
  rw[fq,eq]
  constructor
  ·intro hd;have hd:=zT5 hd;by_cases he:q=free-1
   ·rw[he];exact zV4 _
   ·exact up q (free-1) (by omega) (by omega)
  ·intro hd;have hd:=of_decide_eq_false hd;exact up (free-1) q (by omega) hq
 have hcnt:=uN s (by omega) h hf;rw[hcnt] at line;have t0:0<=zs.getD (ms.getD (free-1) 0).toNat 0:=by
  have:=vO s (q:=free-1) (by omega);have hlt:(ms.getD (free-1) 0).toNat<zs.length:=by omega
  rw[zP0 (l:=zs),zO9 hlt];exact h0 _ (zT9 _)
 generalize zs.getD (ms.getD (free-1) 0).toNat 0=t at *;have:t*(free:Nat)<=t*(cs.count true:Nat):=Int.mul_le_mul_of_nonneg_left (by omega) t0;omega
theorem pH {zs ys:List Int}{many free free':Nat}{bs cs:List Bool}(mk:uB zs many free zs.length bs)(mk':uB ys many free' ys.length cs)(hl:ys.length=zs.length)(f0:0<free)(hff:free<=free')(hf:free'<=many)(h0:∀z∈zs,0<=z):
  ∀k,k<=zs.length / many->zF (zs.take (k*many)) (bs.take (k*many))<=zF (zs.take (k*many)) (cs.take (k*many))
 |0,_=>by simp[zF]
 |k+1,hk=>by
  obtain⟨ms,s,f⟩:=mk.2.2 k hk;obtain⟨ms',s',f'⟩:=mk'.2.2 k (by rw[hl];exact hk);have hkm:(k+1)*many<=zs.length:=zT3 (zX2 _ hk) (Nat.div_mul_le_self _ _);rw[Nat.add_mul,Nat.one_mul] at hkm ⊢;have b1:=mk.1;have c1:=mk'.1;have ih:=pH mk mk' hl f0 hff hf h0 k (by omega);have one:=js (cs:=(cs.drop (k*many)).take many) s hkm b1 f f0 (by omega) h0 (by rw[zS0,zW1];omega) (by rw[uN s' (by omega) f' hf];exact hff);rw[List.take_add,List.take_add,List.take_add,vQ (by rw[zS0,zS0];omega),vQ (by rw[zS0,zS0];omega)];omega
theorem dQ {zs:List Int}{many free:Nat}{bs:List Bool}(ys:List Int)(hy:ys.length=zs.length)(mk:uB zs many free zs.length bs):zF ys bs=zF (ys.take (zs.length / many*many)) (bs.take (zs.length / many*many)):=by
 have hw:=Nat.div_mul_le_self zs.length many;have b1:=mk.1;have e1:zF ys bs=zF (ys.take (zs.length / many*many)++ys.drop (zs.length / many*many)) (bs.take (zs.length / many*many)++bs.drop (zs.length / many*many)):=by rw[List.take_append_drop,List.take_append_drop]
 rw[e1,vQ (by rw[zS0,zS0];omega),uk (zs:=ys.drop _) (bs:=bs.drop _) fun b hb=>?_,Int.add_zero];obtain⟨j,hj,rfl⟩:=List.mem_iff_getElem.mp hb;rw[List.getElem_drop];rw[zW1] at hj;have:=mk.2.1 (zs.length / many*many+j) (by omega);rw[zP0,zO9 (by omega)] at this;exact this
theorem ze6 {zs ys:List Int}{many free free':Nat}{bs cs:List Bool}(mk:uB zs many free zs.length bs)(mk':uB ys many free' ys.length cs)(hl:ys.length=zs.length)(f0:0<free)(hff:free<=free')(hf:free'<=many)(h0:∀z∈zs,0<=z):zF zs bs<=zF zs cs:=by
 have e2:=dQ zs hl.symm mk';rw[hl] at e2;rw[dQ zs rfl mk,e2];exact pH mk mk' hl f0 hff hf h0 _ (zP3 _)
def dB (d:PyData):Prop:=d=.none\/∃many free:Nat,d=.tuple [.int many,.int free]/\0<free/\free<many/\many<64
theorem mB {many free:Nat}{zs:List Int}{bs:List Bool}(h:wF (.tuple [.int many,.int free]) zs bs):uB zs many free zs.length bs:=by
 rcases h with ⟨h,_⟩|⟨m',f',h,mk⟩
 ·cases h
 ·injection h with h;injection h with h1 h2;injection h2 with h2 _;injection h1 with h1;injection h2 with h2;have e1:m'=many:=by omega
  have e2:f'=free:=by omega
  rw[e1,e2] at mk;exact mk
theorem me {zs:List Int}{bs:List Bool}(h:wF .none zs bs):zF zs bs=0:=by
 rcases h with ⟨_,rfl⟩|⟨_,_,h,_⟩
 ·exact uk fun b hb=>(List.mem_replicate.mp hb).2
 ·cases h
theorem kj {d:PyData}{zs ys:List Int}{bs cs:List Bool}{e:Int}(hb:wF d zs bs)(hc:wF d ys cs)(hd:dB d)(hl:ys.length=zs.length)(hs:ys.sum=zs.sum+e)(hle:∀i,i<zs.length->zs.getD i 0<=ys.getD i 0)(h0:∀z∈zs,0<=z)(h1:∀z∈ys,0<=z):
  (yA zs bs).sum<=(yA ys cs).sum/\(yA ys cs).sum<=(yA zs bs).sum+e:=by
 rw[ur hb.len,ur hc.len,hs];rcases hd with rfl|⟨many,free,rfl,f0,fm,_⟩
 ·rw[me hb,me hc];have:=wO (bs:=[]) hl hs hle;have e1:zF ys []=0:=by cases ys<;>rfl
  have e2:zF zs []=0:=by cases zs<;>rfl
  rw[e1,e2] at this;omega
 ·have mk:=mB hb;have mk':=mB hc;have a1:=ze6 mk mk' hl f0 (zP3 _) (by omega) h0;have a2:=ze6 mk' mk hl.symm f0 (zP3 _) (by omega) h1;have a3:=mI (bs:=cs) hl hle;have a4:=wO (bs:=bs) hl hs hle;omega
section
variable {κ:Type}[DecidableEq κ]
def tE (kvs:List (κ×V))(k:κ):Option V:=(kvs.find? fun kv=>decide (kv.1=k)).map (·.2)
def putK (kvs:List (κ×V))(k:κ)(v:V):List (κ×V):=
 if (kvs.any fun kv=>decide (kv.1=k))=true then kvs.map (fun kv=>if kv.1=k then (kv.1,v) else kv) else kvs++[(k,v)]
theorem uH {p:κ×V}{r:List (κ×V)}{k:κ}(e:p.1=k):tE (p::r) k=some p.2:=by simp[tE,zV7,e]
theorem vt {p:κ×V}{r:List (κ×V)}{k:κ}(e:¬p.1=k):tE (p::r) k=tE r k:=by simp[tE,zV7,e]
theorem rN (k:κ):∀kvs:List (κ×V),(kvs.any fun kv=>decide (kv.1=k))=(tE kvs k).isSome
 |[]=>rfl
 |p::r=>by
  rw[z42];by_cases e:p.1=k
  ·simp only[uH e,zS3 e,z60,Option.isSome_some]
  ·rw[vt e,zR5 e,zY8];exact rN k r
theorem vJ (kvs:List (κ×V))(k:κ)(v:V):(putK kvs k v).length<=kvs.length+1:=by
 unfold putK;split
 ·rw[zO6];omega
 ·rw[zQ6,zQ4,z27];omega
theorem vZ.isSome_eq {o:Option V}{u:Option Value}(r:vZ o u):o.isSome=u.isSome:=by
 cases o with
 |none=>cases u with
  |none=>rfl
  |some _=>exact (show False from r).elim
 |some _=>cases u with
  |none=>exact (show False from r).elim
  |some _=>rfl
theorem KV.val {kvs:List (κ×V)}{vs:List (κ×Value)}(r:KV kvs vs)(k:κ):vZ (tE kvs k) (valueAt vs k):=by
 unfold KV at r
 induction r with
 |nil=>exact True.intro
 |@cons p q ps qs h t ih=>
  obtain⟨h1,h2⟩:=h;by_cases e:p.1=k
  ·have e':q.1=k:=h1.symm.trans e;have b:valueAt (q::qs) k=some q.2:=by simp[valueAt,zV7,e']
   rw[uH e,b];exact h2
  ·have e':¬q.1=k:=fun z=>e (h1.trans z);have b:valueAt (q::qs) k=valueAt qs k:=by simp[valueAt,zV7,e']
   rw[vt e,b];exact ih
theorem KV.any {kvs:List (κ×V)}{vs:List (κ×Value)}(r:KV kvs vs)(k:κ):(kvs.any fun kv=>decide (kv.1=k))=vs.any fun kv=>decide (kv.1=k):=by
 unfold KV at r
 induction r with
 |nil=>rfl
 |cons h t ih=>rw[z42,z42,ih,h.1]
theorem KV.repl {kvs:List (κ×V)}{vs:List (κ×Value)}(r:KV kvs vs)(k:κ){y:V}{u:Value}(ry:RelV y u):
  KV (kvs.map fun kv=>if kv.1=k then (kv.1,y) else kv) (vs.map fun kv=>if kv.1=k then (kv.1,u) else kv):=by
 unfold KV at r ⊢
 induction r with
 |nil=>exact .nil
 |@cons p q ps qs h t ih=>
  rw[zR4,zR4];refine .cons ?_ ih;obtain⟨h1,h2⟩:=h;by_cases e:p.1=k
  ·rw[if_pos e,if_pos (h1.symm.trans e)];exact⟨h1,ry⟩
  ·rw[if_neg e,if_neg (fun z=>e (h1.trans z))];exact⟨h1,h2⟩
theorem KV.put {kvs:List (κ×V)}{vs:List (κ×Value)}(r:KV kvs vs)(k:κ){y:V}{u:Value}(ry:RelV y u):KV (putK kvs k y) (stored vs k u):=by
 unfold putK stored;rw[r.any k];by_cases e:(vs.any fun kv=>decide (kv.1=k))=true
 ·rw[if_pos e,if_pos e];exact r.repl k ry
 ·rw[if_neg e,if_neg e];exact Paired.snoc r ⟨rfl,ry⟩
theorem KV.length {kvs:List (κ×V)}{vs:List (κ×Value)}(r:KV kvs vs):kvs.length=vs.length:=Paired.length r
end
theorem pQ {P:Program}{w:World}{k:Key}{u:Value}(r:RelV (kV k) u):(yf P w).is k u=true:=by
 cases k with
 |inl i=>obtain⟨t,e⟩:=(show ∃t,u=Value.int i t from r);subst e;exact mR P w i t
 |inr x=>obtain⟨t,e⟩:=(show ∃t,u=Value.str x t from r);subst e;exact md P w x t
theorem pA {P:Program}{w:World}:∀{ks:List Key} {us:List Value},Vals (ks.map kV) us->ItemsAre (yf P w) ks us
 |[],_,r=>by rw[z31] at r;cases r;exact .nil
 |k::ks,_,r=>by
  rw[zR4] at r;cases r with
  |cons h t=>exact .cons (pQ h) (pA t)
abbrev KT (H:Hp):List (List Key×V)->List (List Key×Addr×Value)->Prop:=Paired fun p q=>p.1=q.1/\H q.2.1=some (.tup (p.1.map kV))/\RelV p.2 q.2.2
theorem KT.val {H:Hp}{kvs:List (List Key×V)}{xs:List (List Key×Addr×Value)}(r:KT H kvs xs)(k:List Key):vZ (tE kvs k) ((atKey xs k).map (·.2)):=by
 induction r with
 |nil=>exact True.intro
 |@cons p q ps qs h t ih=>
  obtain⟨h1,_,h2⟩:=h;by_cases e:p.1=k
  ·have e':q.1=k:=h1.symm.trans e;have b:atKey (q::qs) k=some q.2:=by simp[atKey,zV7,e']
   rw[uH e,b];exact h2
  ·have e':¬q.1=k:=fun z=>e (h1.trans z);have b:atKey (q::qs) k=atKey qs k:=by simp[atKey,zV7,e']
   rw[vt e,b];exact ih
theorem KT.repl {H:Hp}{kvs:List (List Key×V)}{xs:List (List Key×Addr×Value)}(r:KT H kvs xs)(k:List Key){y:V}{u:Value}(ry:RelV y u):
  KT H (kvs.map fun kv=>if kv.1=k then (kv.1,y) else kv) (xs.map (putAt k u)):=by
 induction r with
 |nil=>exact .nil
 |@cons p q ps qs h t ih=>
  rw[zR4,zR4];refine .cons ?_ ih;obtain⟨h1,h2,h3⟩:=h;unfold putAt;by_cases e:p.1=k
  ·rw[if_pos e,if_pos (h1.symm.trans e)];exact⟨h1,h2,ry⟩
  ·rw[if_neg e,if_neg (fun z=>e (h1.trans z))];exact⟨h1,h2,h3⟩
theorem KT.put {H:Hp}{kvs:List (List Key×V)}{xs:List (List Key×Addr×Value)}(r:KT H kvs xs)(k:List Key){b:Addr}{y:V}{u:Value}(hb:H b=some (.tup (k.map kV)))(ry:RelV y u):
  KT H (putK kvs k y) (storedH xs k b u):=by
 have e:(kvs.any fun kv=>decide (kv.1=k))=(atKey xs k).isSome:=by rw[rN,(r.val k).isSome_eq,Option.isSome_map]
 unfold putK storedH;rw[e];by_cases q:(atKey xs k).isSome=true
 ·rw[if_pos q,if_pos q];exact r.repl k ry
 ·rw[if_neg q,if_neg q];exact Paired.snoc r ⟨rfl,hb,ry⟩
theorem KT.keeps {H H':Hp}{kvs:List (List Key×V)}{xs:List (List Key×Addr×Value)}(r:KT H kvs xs)(ht:∀b ys,H b=some (.tup ys)->H' b=some (.tup ys)):KT H' kvs xs:=
 Paired.mapP r fun _ _ z=>⟨z.1,ht _ _ z.2.1,z.2.2⟩
section
variable {P:Program}{w:World}{H:Hp}{h:Heap}{a:Addr}
theorem zt2 {u:HO}(ok:HOk P w H h)(e:Rd H a u):zM P w H h a u:=e.ok ok
theorem qU {kvs:List (Key×V)}(ok:HOk P w H h)(e:Rd H a (.dK kvs)):kvs.length<=sizeLine/\(a == sysModules)=false/\∃vs,KV kvs vs/\h.DictOf (yf P w) a vs:=
 show zM P w H h a (.dK kvs) from zt2 ok e
theorem zs8 {kvs:List (Key×V)}(ok:HOk P w H h)(e:H a=some (.dK kvs)):kvs.length<=sizeLine/\(a == sysModules)=false/\∃vs,KV kvs vs/\h.DictOf (yf P w) a vs:=qU ok (.inl e)
theorem qm {ks:List Key}(ok:HOk P w H h)(e:H a=some (.tup (ks.map kV))):(tupleKind (yf P w)).is h ks a:=by
 obtain⟨_,its,r,o,h1,h2,n,h3⟩:=(show zM P w H h a (.tup (ks.map kV)) from ok a _ e);exact⟨o,its.toArray,n,h1,h2,h3,by simpa using pA r⟩
theorem pj {kvs:List (List Key×V)}(ok:HOk P w H h)(e:Rd H a (.dT kvs)):kvs.length<=sizeLine/\(a == sysModules)=false/\
  ∃xs,KT H kvs xs/\h.DictOfH (tupleKind (yf P w)) a xs:=by
 obtain⟨z,y,xs,r,o,es,ep,h1,h2,h3,h4,h5⟩:=(show zM P w H h a (.dT kvs) from zt2 ok e);refine⟨z,y,xs,r,o,es,ep,h1,h2,h3,h4,fun x hx=>?_,h5⟩;have all:∀{l:List (List Key×V)} {m:List (List Key×Addr×Value)},KT H l m->∀x∈m,(tupleKind (yf P w)).is h x.1 x.2.1:=by
  intro l m q
  induction q with
  |nil=>intro x hx;exact nomatch hx
  |@cons p q ps qs hq t ih=>
   intro x hx;rcases zP2.mp hx with e|hx
   ·subst e;exact qm ok (by rw[<-hq.1];exact hq.2.1)
   ·exact ih x hx
 exact all r x hx
theorem zI2 {kvs:List (List Key×V)}(ok:HOk P w H h)(e:H a=some (.dT kvs)):kvs.length<=sizeLine/\(a == sysModules)=false/\
  ∃xs,KT H kvs xs/\h.DictOfH (tupleKind (yf P w)) a xs:=pj ok (.inl e)
end
def kb (H:Hp)(a:Addr)(y:V)(r:Option V):Prop:=
 (∃kvs k,Rd H a (.dK kvs)/\y=kV k/\r=tE kvs k)\/∃kvs k b,Rd H a (.dT kvs)/\y=.ref b/\H b=some (.tup (k.map kV))/\r=tE kvs k
def zb2 (H:Hp)(a:Addr)(y v:V)(H':Hp):Prop:=
 (∃kvs k,H a=some (.dK kvs)/\y=kV k/\kvs.length<sizeLine/\H'=upd H a (.dK (putK kvs k v)))\/
 ∃kvs k b,H a=some (.dT kvs)/\y=.ref b/\H b=some (.tup (k.map kV))/\kvs.length<sizeLine/\H'=upd H a (.dT (putK kvs k v))
theorem zb2.k {H:Hp}{a:Addr}{kvs:List (Key×V)}{k:Key}{v:V}(e:H a=some (.dK kvs))(hl:kvs.length<sizeLine):zb2 H a (kV k) v (upd H a (.dK (putK kvs k v))):=.inl ⟨kvs,k,e,rfl,hl,rfl⟩
section
variable {X:Cx}{pins:List (Addr×Obj)}{σ:St}{H:Hp}{s:Shared}{a:Addr}{y v:V}{u r:Value}{o:Option V}{A:Around}{E:Value->Shared->Prop}
theorem Inv.big (I:Inv X pins σ H s):sysModules<s.heap.objs.size:=by
 have h:mainGlobals<s.heap.objs.size:=(I.mod.glob.keeps I.bk).lt;exact Nat.lt_trans (by decide) h
theorem gj {Q:Value->Shared->Prop}(hu:A.units+1<cLine)(I:Inv X pins σ H s)(g:kb H a y (some v))(ry:RelV y u)(h:∀w' s',Inv X pins σ H s'->RelV v w'->Q w' s'):
  wpAny (model X.prog X.w) A (getItem (.ref a) u) Q E s:=by
 rcases g with ⟨kvs,k,e,ey,l⟩|⟨kvs,k,b,e,ey,eb,l⟩
 ·subst ey;obtain⟨z,hd,vs,rel,dd⟩:=qU I.hok e;obtain⟨w',hw,rw'⟩:=vZ.some_of (v:=v) (o:=valueAt vs k) (by rw[l];exact rel.val k);exact wpAny_getItem_of (pQ ry) dd.mapOf hw (h w' _ (I.tok _) rw')
 ·subst ey;cases (show u=Value.ref b from ry);obtain⟨z,hd,xs,rel,dd⟩:=pj I.hok e;obtain⟨w',hw,rw'⟩:=vZ.some_of (v:=v) (o:=(atKey xs k).map (·.2)) (by rw[l];exact rel.val k);obtain⟨p,hp,hp2⟩:=zQ9.mp hw;refine wpAny_getItem_heap (z34 hu) (qm I.hok eb) dd hp ?_;rw[hp2];exact h w' _ (I.tok _) rw'
theorem zM6 {Q:Value->Shared->Prop}(hu:A.units+1<cLine)(I:Inv X pins σ H s)(g:kb H a y o)(ry:RelV y u)(h:∀s',Inv X pins σ H s'->Q (.bool o.isSome) s'):
  wpAny (model X.prog X.w) A (compareOp .In u (.ref a)) Q E s:=by
 rcases g with ⟨kvs,k,e,ey,l⟩|⟨kvs,k,b,e,ey,eb,l⟩
 ·subst ey;obtain⟨z,hd,vs,rel,dd⟩:=qU I.hok e;refine wpAny_in_of (pQ ry) hd dd.mapOf ?_;rw[<-(rel.val k).isSome_eq,<-l];exact h _ (I.tok _)
 ·subst ey;cases (show u=Value.ref b from ry);obtain⟨z,hd,xs,rel,dd⟩:=pj I.hok e;refine wpAny_in_heap (z34 hu) (qm I.hok eb) hd dd ?_;have q:=(rel.val k).isSome_eq;rw[Option.isSome_map] at q;rw[<-q,<-l];exact h _ (I.tok _)
theorem zh8 {Q:Value->Shared->Prop}(hu:A.units+1<cLine)(I:Inv X pins σ H s)(g:kb H a y o)(ry:RelV y u)(h:∀s',Inv X pins σ H s'->Q (.bool (!o.isSome)) s'):
  wpAny (model X.prog X.w) A (compareOp .NotIn u (.ref a)) Q E s:=by
 rcases g with ⟨kvs,k,e,ey,l⟩|⟨kvs,k,b,e,ey,eb,l⟩
 ·subst ey;obtain⟨z,hd,vs,rel,dd⟩:=qU I.hok e;refine wpAny_notIn_of (pQ ry) hd dd.mapOf ?_;rw[<-(rel.val k).isSome_eq,<-l];exact h _ (I.tok _)
 ·subst ey;cases (show u=Value.ref b from ry);obtain⟨z,hd,xs,rel,dd⟩:=pj I.hok e;refine wpAny_notIn_heap (z34 hu) (qm I.hok eb) hd dd ?_;have q:=(rel.val k).isSome_eq;rw[Option.isSome_map] at q;rw[<-q,<-l];exact h _ (I.tok _)
theorem oU {h':Heap}{t':Nat}{ob:HO}(I:Inv X pins σ H s)(mu:Mut (H a))(hs:Heap.SameBut a s.heap h')(he:∃q,h'.get? a=some q)(new:zM X.prog X.w (upd H a ob) h' a ob):
  Inv X pins σ (upd H a ob) {s with heap:=h',toks:=t'}:=
 I.write (x:=a) (e:=a) mu (.inl rfl) (fun b q hb z=>(hs.2 b hb).trans z) he new
theorem cO {P:Program}{w:World}{H':Hp}{h':Heap}{kvs:List (Key×V)}{vs:List (Key×Value)}(z:kvs.length<=sizeLine)(hd:(a == sysModules)=false)(rel:KV kvs vs)(dd:h'.DictOf (yf P w) a vs):
  zM P w H' h' a (.dK kvs):=⟨z,hd,vs,rel,dd⟩
theorem fX {H':Hp}{Q:Unit->Shared->Prop}(hu:A.units+1<cLine)(I:Inv X pins σ H s)(g:zb2 H a y v H')(ry:RelV y u)(rv:RelV v r)(h:∀s',Inv X pins σ H' s'->Q () s'):
  wpAny (model X.prog X.w) A (setItem (.ref a) u r) Q E s:=by
 rcases g with ⟨kvs,k,e,ey,l,eH⟩|⟨kvs,k,b,e,ey,eb,l,eH⟩
 ·subst ey eH;obtain⟨z,hd,vs,rel,dd⟩:=zs8 I.hok e;have hz:vs.length<=sizeLine:=by rw[<-rel.length];exact z
  have hl:(putK kvs k v).length<=sizeLine:=by have:=vJ kvs k v;omega
  refine wpAny_setItem_pairs (hsz:=hz) (pQ ry) dd fun h' dd' hs=>h _ ?_;have he:∃q,h'.get? a=some q:=let ⟨q,_,_,hq,_⟩:=dd';⟨q,hq⟩;exact oU I (by rw[e];exact True.intro) hs he (cO hl hd (rel.put k rv) dd')
 ·subst ey eH;cases (show u=Value.ref b from ry);obtain⟨z,hd,xs,rel,dd⟩:=zI2 I.hok e;have hz:xs.length<=sizeLine:=by rw[<-Paired.length rel];exact z
  have hl:(putK kvs k v).length<=sizeLine:=by have:=vJ kvs k v;omega
  refine wpAny_setItem_heap (hsz:=hz) (z34 hu) (qm I.hok eb) dd fun h' dd' hs=>h _ ?_;obtain⟨q,es,ep,hq,h2,h3,h4,_,h5⟩:=dd';refine oU I (by rw[e];exact True.intro) hs ⟨q,hq⟩ ⟨hl,hd,_,(rel.put k eb rv).keeps fun c ys ec=>?_,q,es,ep,hq,h2,h3,h4,h5⟩;rw[zh (au ec e (fun z=>nomatch z))];exact ec
end
section
variable {X:Cx}{pins:List (Addr×Obj)}{σ:St}{H:Hp}{s:Shared}{a:Addr}{kvs:List (Key×V)}{k:Key}{u:Value}{A:Around}{E:Value->Shared->Prop}
end
theorem lG {X:Cx}{pins:List (Addr×Obj)}{σ:St}{H:Hp}{s:Shared}{a:Addr}{y:V}{o:Option V}(I:Inv X pins σ H s)(g:kb H a y o):s.TypeIs (.ref a) "dict":=by
 rcases g with ⟨kvs,k,e,_,_⟩|⟨kvs,k,b,e,_,_,_⟩
 ·obtain⟨_,_,vs,_,dd⟩:=qU I.hok e;exact dd.typeIs
 ·obtain⟨_,_,xs,_,dd⟩:=pj I.hok e;exact dd.typeIs
def zK4 (td ty tv:TE):TS:=fun D σ H=>tv σ H fun v H1=>td σ H1 fun x H2=>ty σ H2 fun y H3=>∃a H4,x=.ref a/\zb2 H3 a y v H4/\D.nx σ H4
section
variable {X:Cx}{o i e value:Expr}{pos pos' tpos:Pos}{td ty tv:TE}
theorem zg3 (hu:X.A.units+1<cLine)(ho:PE X o td)(hi:PE X i ty)(hv:PE X value tv)(hs:swapsWith value (some (.Subscript o i pos')) pos.line X.env=pure false):
  PS X (.Assign [.Subscript o i pos'] value pos) (zK4 td ty tv):=by
 intro pins s σ H D I h;refine wpAny_Assign_Subscript (thn (hv pins s σ H _ I h) fun r s1 ⟨v,H1,I1,rv,q1⟩=>thn (ho pins s1 σ H1 _ I1 q1) fun u s2 ⟨x,H2,I2,rx,q2⟩=>thn (hi pins s2 σ H2 _ I2 q2) fun iv s3 ⟨y,H3,I3,ry,a,H4,ex,g,q3⟩=>?_) hs;subst ex;obtain rfl:u=Value.ref a:=rx;exact fX hu I3 g ry rv fun s4 I4=>⟨σ,H4,I4,q3⟩
end
theorem aD {P:Program}{w:World}{H:Hp}(h:Heap)(hb:sysModules<h.objs.size):zM P w H (h.push {cls:=.type "dict",data:=.dict #[]}) h.objs.size (.dK []):=
 ⟨zQ8 _,zX8.mpr (zS2 (zQ7 hb)),[],.nil,Heap.DictOf.new h⟩
section
variable {X:Cx}{pos:Pos}
end
def jN :List (TE×TE)->St->Hp->(List (V×V)->Hp->Prop)->Prop
 |[],_,H,Q=>Q [] H
 |(tk,tv)::r,σ,H,Q=>tk σ H fun x H1=>tv σ H1 fun y H2=>jN r σ H2 fun ps H3=>Q ((x,y)::ps) H3
abbrev VV :List (V×V)->List (Value×Value)->Prop:=Paired fun p q=>RelV p.1 q.1/\RelV p.2 q.2
def PPs (X:Cx)(pos:Pos)(keys:List (Option Expr))(values:List Expr)(trs:List (TE×TE)):Prop:=
 ∀(pins:List (Addr×Obj)) (s:Shared) (σ:St) (H:Hp) (Q:List (V×V)->Hp->Prop),Inv X pins σ H s->jN trs σ H Q->
  wpAny (model X.prog X.w) X.A (evalPairs (pairTrees keys values X.env pos)) (fun vs s'=>∃ps H',Inv X pins σ H' s'/\VV ps vs/\Q ps H') X.xe s
theorem zr5 {X:Cx}{pos:Pos}:PPs X pos [] [] []:=fun pins s σ H Q I h=>pairTrees_nil_walk ⟨[],H,I,.nil,h⟩
theorem zb9 {X:Cx}{pos:Pos}{k v:Expr}{ks:List (Option Expr)}{vs:List Expr}{tk tv:TE}{trs:List (TE×TE)}(hk:PE X k tk)(hv:PE X v tv)(hr:PPs X pos ks vs trs):
  PPs X pos (some k::ks) (v::vs) ((tk,tv)::trs):=fun pins s σ H Q I h=>
 pairTrees_cons_walk (thn (hk pins s σ H _ I h) fun u s1 ⟨x,H1,I1,rx,q1⟩=>thn (hv pins s1 σ H1 _ I1 q1) fun w2 s2 ⟨y,H2,I2,ry,q2⟩=>
  thn (hr pins s2 σ H2 _ I2 q2) fun ws s3 ⟨ps,H3,I3,rel,q3⟩=>⟨(x,y)::ps,H3,I3,.cons ⟨rx,ry⟩ rel,q3⟩)
def tL (kvs more:List (Key×V)):List (Key×V):=more.foldl (fun acc kv=>putK acc kv.1 kv.2) kvs
theorem KV.merge :∀{more:List (Key×V)} {rs:List (Key×Value)} {kvs:List (Key×V)} {vs:List (Key×Value)},KV more rs->KV kvs vs->KV (tL kvs more) (merged vs rs):=by
 intro more rs kvs vs r;unfold KV at r
 induction r generalizing kvs vs with
 |nil=>intro q;exact q
 |@cons p q ps qs h t ih=>
  intro r0;have e:KV (putK kvs p.1 p.2) (stored vs q.1 q.2):=by
   have:=r0.put p.1 h.2;rw[<-h.1];exact this
  exact ih e
theorem ud :∀(more kvs:List (Key×V)),(tL kvs more).length<=kvs.length+more.length
 |[],kvs=>by show kvs.length<=kvs.length+0;omega
 |p::r,kvs=>by
  have h1:=ud r (putK kvs p.1 p.2);have h2:=vJ kvs p.1 p.2;show (tL (putK kvs p.1 p.2) r).length<=_;rw[zQ4];omega
theorem sZ {P:Program}{w:World}:∀{kvs:List (Key×V)} {ws:List (Value×Value)},VV (kvs.map fun kv=>(kV kv.1,kv.2)) ws->∃rs,Carries (yf P w) ws rs/\KV kvs rs
 |[],_,r=>by rw[z31] at r;cases r;exact⟨[],True.intro,.nil⟩
 |p::kvs,_,r=>by
  rw[zR4] at r;cases r with
  |@cons a b as bs h t=>
   obtain⟨rs,c,q⟩:=sZ (P:=P) (w:=w) t;obtain⟨b1,b2⟩:=b;exact⟨(p.1,b2)::rs,⟨pQ h.1,rfl,c⟩,.cons ⟨rfl,h.2⟩ q⟩
def zJ0 (trs:List (TE×TE)):TE:=fun σ H Q=>∀p,H p=none->jN trs σ (upd H p (.dK [])) fun ps H2=>H2 p=some (.dK [])/\∃kvs:List (Key×V),ps=kvs.map (fun kv=>(kV kv.1,kv.2))/\kvs.length<=15/\Q (.ref p) (upd H2 p (.dK (tL [] kvs)))
theorem zo5 {X:Cx}{pos:Pos}{keys:List (Option Expr)}{values:List Expr}{trs:List (TE×TE)}(h:PPs X pos keys values trs)(hall:keys.all (·.isSome)=true)(hl:keys.length=values.length)(h0:keys≠[])
  (h15:keys.length<=15):PE X (.Dict keys values pos) (zJ0 trs):=by
 intro pins s σ H Q I q;have hn:=I.hok.fresh (zP3 s.heap.objs.size);have I1:=I.laid (a:=s.heap.objs.size) (o:=.dK []) (h':=s.heap.push {cls:=.type "dict",data:=.dict #[]}) (t':=s.toks) (fun _ _ q=>zO8 _ q) (zP3 _) (aD s.heap I.big);refine wpAny_Dict_walk (knd:=yf X.prog X.w) hall hl h0 h15 (thn (h pins _ σ _ _ I1 (q _ hn)) fun ws s2 ⟨ps,H2,I2,rel,e,kvs,ep,lk,q2⟩=>?_);subst ep;obtain⟨rs,c,rk⟩:=sZ (P:=X.prog) (w:=X.w) rel;obtain⟨z,hd,vs0,r0,dd⟩:=zs8 I2.hok e;cases r0;refine⟨rs,c,dd,fun h' dd' hs=>⟨.ref s.heap.objs.size,_,?_,rfl,q2⟩⟩;have hz:(tL [] kvs).length<=sizeLine:=by
  have h1:=ud kvs [];rw[z27] at h1;rw[zU4];omega
 have he:∃q,h'.get? s.heap.objs.size=some q:=let ⟨q,_,_,hq,_⟩:=dd';⟨q,hq⟩;exact oU I2 (by rw[e];exact True.intro) hs he (cO hz hd (rk.merge .nil) dd')
def IsD (H:Hp)(a:Addr):Prop:=(∃kvs,Rd H a (.dK kvs))\/∃kvs,Rd H a (.dT kvs)
theorem zx1 {X:Cx}{pins:List (Addr×Obj)}{σ:St}{H:Hp}{s:Shared}{a:Addr}(I:Inv X pins σ H s)(d:IsD H a):
  s.TypeIs (.ref a) "dict"/\(∀b,Value.ref a=.ref b->∃ob,s.heap.get? b=some ob/\ob.dict=none)/\(a == sysModules)=false:=by
 rcases d with ⟨kvs,e⟩|⟨kvs,e⟩
 ·obtain⟨_,hd,vs,_,dd⟩:=qU I.hok e;refine⟨dd.typeIs,fun b q=>?_,hd⟩;cases q;obtain⟨ob,_,_,h1,h2,_⟩:=dd;exact⟨ob,h1,h2.2.1⟩
 ·obtain⟨_,hd,xs,_,dd⟩:=pj I.hok e;refine⟨dd.typeIs,fun b q=>?_,hd⟩;cases q;obtain⟨ob,_,_,h1,h2,_⟩:=dd;exact⟨ob,h1,h2.2.1⟩
section
variable {X:Cx}{pins:List (Addr×Obj)}{σ:St}{H:Hp}{s:Shared}{a:Addr}{y d:V}{u r:Value}{o:Option V}{A:Around}{E:Value->Shared->Prop}
end
section
variable {X:Cx}{o e f:Expr}{apos cpos:Pos}{td ty tx:TE}
end
section
variable {X:Cx}{pins:List (Addr×Obj)}{σ:St}{H:Hp}{s:Shared}{a:Addr}{kvs:List (Key×V)}{A:Around}{E:Value->Shared->Prop}
end
section
variable {X:Cx}{pins:List (Addr×Obj)}{σ:St}{H:Hp}{s:Shared}{a:Addr}{y:V}{u:Value}{A:Around}{E:Value->Shared->Prop}
end
def kEq :PyData->Key->Bool
 |.int i,.inl j=>decide (i=j)
 |.str x,.inr y=>decide (x=y)
 |_,_=>false
theorem qw (k j:Key):kEq (ve k) j=decide (k=j):=by
 cases k<;>cases j<;>simp[kEq,ve]
def uD :List (PyData×PyData)->Key->Option PyData
 |[],_=>none
 |(p,d)::r,k=>if kEq p k=true then some d else uD r k
def putD (ds:List (PyData×PyData))(k:Key)(d:PyData):List (PyData×PyData):=
 if (uD ds k).isSome=true then ds.map (fun p=>if kEq p.1 k=true then (p.1,d) else p) else ds++[(ve k,d)]
theorem AVk.get {H:Hp}:∀{kvs:List (Key×V)} {ds:List (PyData×PyData)} {k:Key} {d:PyData},AVk H kvs ds->uD ds k=some d->∃v,tE kvs k=some v/\AV H v d
 |_,_,k,d,.nil,e=>by cases e
 |_,_,k,d,.cons (k:=j) h r,e=>by
  unfold uD at e;rw[qw] at e;by_cases z:j=k
  ·rw[zS3 z,if_pos rfl] at e;cases e;exact⟨_,uH z,h⟩
  ·rw[zR5 z,if_neg (by decide)] at e;rw[vt z];exact AVk.get r e
theorem AVk.none {H:Hp}:∀{kvs:List (Key×V)} {ds:List (PyData×PyData)} {k:Key},AVk H kvs ds->uD ds k=Option.none->tE kvs k=Option.none
 |_,_,k,.nil,e=>rfl
 |_,_,k,.cons (k:=j) h r,e=>by
  unfold uD at e;rw[qw] at e;by_cases z:j=k
  ·rw[zS3 z,if_pos rfl] at e;cases e
  ·rw[zR5 z,if_neg (by decide)] at e;rw[vt z];exact AVk.none r e
theorem AVk.some_iff {H:Hp}{kvs:List (Key×V)}{ds:List (PyData×PyData)}(h:AVk H kvs ds)(k:Key):(tE kvs k).isSome=(uD ds k).isSome:=by
 cases e:uD ds k with
 |none=>rw[h.none e];rfl
 |some d=>
  obtain⟨v,hv,_⟩:=h.get e;rw[hv];rfl
theorem AVk.length {H:Hp}:∀{kvs:List (Key×V)} {ds:List (PyData×PyData)},AVk H kvs ds->kvs.length=ds.length
 |_,_,.nil=>rfl
 |_,_,.cons _ r=>by rw[zQ4,zQ4,AVk.length r]
theorem AVk.snoc {H:Hp}{k:Key}{v:V}{d:PyData}(a:AV H v d):∀{kvs:List (Key×V)} {ds:List (PyData×PyData)},AVk H kvs ds->AVk H (kvs++[(k,v)]) (ds++[(ve k,d)])
 |_,_,.nil=>.cons a .nil
 |_,_,.cons h r=>.cons h (AVk.snoc a r)
theorem AVk.repl {H:Hp}{k:Key}{v:V}{d:PyData}(a:AV H v d):∀{kvs:List (Key×V)} {ds:List (PyData×PyData)},AVk H kvs ds->AVk H (kvs.map fun kv=>if kv.1=k then (kv.1,v) else kv) (ds.map fun p=>if kEq p.1 k=true then (p.1,d) else p)
 |_,_,.nil=>.nil
 |_,_,.cons (k:=j) h r=>by
  rw[zR4,zR4];show AVk H ((if j=k then (j,v) else (j,_))::_) ((if kEq (ve j) k=true then (ve j,d) else (ve j,_))::_);rw[qw];by_cases z:j=k
  ·rw[if_pos z,zS3 z,if_pos rfl];exact .cons a (AVk.repl a r)
  ·rw[if_neg z,zR5 z,if_neg (by decide)];exact .cons h (AVk.repl a r)
theorem AVk.put {H:Hp}{kvs:List (Key×V)}{ds:List (PyData×PyData)}{k:Key}{v:V}{d:PyData}(h:AVk H kvs ds)(a:AV H v d):AVk H (putK kvs k v) (putD ds k d):=by
 unfold putK putD;rw[rN,h.some_iff];split
 ·exact h.repl a
 ·exact h.snoc a
theorem AVk.at {H:Hp}:∀{kvs:List (Key×V)} {ds:List (PyData×PyData)} {i:Nat} {p:PyData×PyData},AVk H kvs ds->ds[i]?=some p->∃k v,kvs[i]?=some (k,v)/\p.1=ve k/\AV H v p.2
 |_,_,_,_,.nil,e=>by simp at e
 |_,_,0,_,.cons h _,e=>by simp at e;subst e;exact⟨_,_,rfl,rfl,h⟩
 |_,_,i+1,p,.cons _ r,e=>by
  obtain⟨k,v,h1,h2⟩:=AVk.at (i:=i) (p:=p) r (by simpa using e);exact⟨k,v,by simpa using h1,h2⟩
theorem iL {H:Hp}(k:Key):AV H (kV k) (ve k):=by cases k with
 |inl i=>exact .int i
 |inr x=>exact .str x
theorem sR {H:Hp}{v:V}{k:Key}(h:AV H v (ve k)):v=kV k:=by
 cases k with
 |inl i=>exact h.int_inv
 |inr x=>exact h.str_inv
theorem AV.dk_inv {H:Hp}{v:V}{ds:List (PyData×PyData)}(h:AV H v (xm ds)):∃a o kvs,v=.ref a/\H a=some (.frz o (.dK kvs))/\AVk H kvs ds:=by
 generalize e:xm ds=d at h;cases h with
 |dk h1 h2=>cases e;exact⟨_,_,_,rfl,h1,h2⟩
 |_=>cases e
theorem eE {H:Hp}{l:Addr}{o:Obj}{u:HO}(h:H l=some (.frz o u)):Plain H l:=by
 first
 |exact trivial
 |(intro v e;rw[h] at e;cases e;exact⟨(fun z=>by cases z),fun ps z=>by cases z⟩)
section
variable {X:Cx}{pins:List (Addr×Obj)}{σ:St}{H:Hp}{s:Shared}{l:Addr}{kvs:List (Key×V)}
def zK3 (X:Cx)(l:Addr):Prop:=∀o u,X.H₀ l≠some (.frz o u)
theorem Inv.fz (I:Inv X pins σ H s)(h:H l=some (.dK kvs)):zK3 X l/\∃o,Inv X pins σ (upd H l (.frz o (.dK kvs))) s:=by
 refine⟨(fun o u z=>by rw[I.base.frzs _ _ _ z] at h;cases h),?_⟩;obtain⟨z,y,vs,r,ob,es,ep,e,c⟩:=(show zM X.prog X.w H s.heap l (.dK kvs) from I.hok l _ h);refine⟨ob,I.write (h':=s.heap) (t':=s.toks) (x:=l) (e:=l) (by rw[h];exact trivial) (.inl rfl) (fun b u _ q=>q) ⟨ob,e⟩ ?_⟩;exact⟨e,z,y,vs,r,ob,es,ep,e,c⟩
theorem Inv.unfz {o:Obj}(hx:zK3 X l)(I:Inv X pins σ H s)(h:H l=some (.frz o (.dK kvs))):Inv X pins σ (upd H l (.dK kvs)) s:=by
 have ne:∀{b:Addr},H b=none->upd H l (.dK kvs) b=none:=fun {b} e=>by rw[zh fun z=>by rw[z,h] at e;cases e];exact e
 refine⟨I.ok,I.os,I.bare,⟨I.base.keep,I.base.slot,fun b ob q n hx'=>ne (I.base.free b ob q n hx'),I.base.there,fun b xs q=>?_,fun b ob u q=>?_,fun b ps q=>?_⟩,I.loc,I.cell,ne I.free,fun x c e=>ne (I.freeC x c e),fun p hp=>?_,fun b u q=>?_,I.len⟩
 ·have:=I.base.tups b xs q;rw[zh fun z=>by rw[z,h] at this;cases this];exact this
 ·rw[zh fun z=>by rw[z] at q;exact hx _ _ q];exact I.base.frzs b ob u q
 ·obtain⟨more,this⟩:=I.base.tbls b ps q;exact⟨more,by rw[zh fun z=>by rw[z,h] at this;cases this];exact this⟩
 ·obtain⟨h1,h2,h3⟩:=I.pin p hp;exact⟨h1,ne h2,h3⟩
 ·have st:∀{b:Addr} {u:HO},zM X.prog X.w H s.heap b u->zM X.prog X.w (upd H l (.dK kvs)) s.heap b u:=fun {b u} x=>x.stay (fun _ _ _ q=>q)
   (fun c e=>by rw[zh fun z=>by rw[z,h] at e;cases e];exact e) fun c xs e=>by rw[zh fun z=>by rw[z,h] at e;cases e];exact e
  by_cases z:b=l
  ·subst z;rw[zk] at q;cases q;obtain⟨_,w⟩:=(show zM X.prog X.w H s.heap b (.frz o (.dK kvs)) from I.hok b _ h);exact st w
  ·rw[zh z] at q;exact st (I.hok b u q)
end
section
variable {X:Cx}{e:Expr}{sts:List Stmt}
theorem zH3 {t:TE}{l:Addr}{kvs:List (Key×V)}(h:PE X e t):PE X e (fun σ H Q=>H l=some (.dK kvs)/\∀o,t σ (upd H l (.frz o (.dK kvs))) fun v H2=>H2 l=some (.frz o (.dK kvs))/\Q v (upd H2 l (.dK kvs))):=by
 intro pins s σ H Q I ⟨hl,q⟩;obtain⟨hx,o,I1⟩:=I.fz hl;refine thn (h pins s σ _ _ I1 (q o)) fun u s1 ⟨v,H2,I2,r,e,q2⟩=>?_;exact⟨v,_,I2.unfz hx e,r,q2⟩
theorem zB0 {t:TS}{l:Addr}{kvs:List (Key×V)}(h:PSs X sts t):PSs X sts (fun D σ H=>H l=some (.dK kvs)/\∀o,t D σ (upd H l (.frz o (.dK kvs)))):=by
 intro pins s σ H D I ⟨hl,q⟩;obtain⟨hx,o,I1⟩:=I.fz hl;exact h pins s σ _ _ I1 (q o)
end
section
variable {X:Cx}{α:Ev}{e a b:Expr}{pos p:Pos}{Q:PyData->Prop}
theorem M.fzk {F:Fr}{σ:St}{H:Hp}{i:Nat}{ds:List (PyData×PyData)}{l:Addr}{kvs:List (Key×V)}{o:Obj}(m:M F α σ H)(hi:α[i]?=some (some (.dic ds)))(hl:σ[i]?=some (some (.ref l)))(hH:H l=some (.dK kvs)):
  M F (α.set i (some (.dat (xm ds)))) σ (upd H l (.frz o (.dK kvs))):=by
 obtain⟨l',kvs',h1,h2,h3,h4,h5⟩:=m.dic i ds hi;rw[hl] at h1;cases h1;rw[hH] at h2;cases h2;have nl:¬Ow F (α.set i (some (.dat (xm ds)))) σ l:=m.gave hi hl rfl fun c z=>by cases z;exact id
 have ol:Ow F α σ l:=.inr ⟨i,_,_,hi,hl,rfl⟩;have gs:zz (Gz F α σ H) (Gz F (α.set i (some (.dat (xm ds)))) σ (upd H l (.frz o (.dK kvs)))):=fun x u e=>by
  obtain⟨z1,z2⟩:=zj (za0 (b:=.dat (xm ds)) (i:=i) (fun _ _ f=>f) x u e);exact zE z1 (by rw[zh fun z=>(zj e).1 (by rw[z];exact ol)];exact z2)
 have hp:Plain H l:=qD hH;refine⟨by rw[zV2];exact m.len,fun j c s e1 e2=>?_,fun j j' c d s t x e1 e2 q1 q2 f1 f2=>?_,fun j r q e j' c s x e1 e2 f=>?_,m.tp.updO h4 hp,fun y u e n=>?_,fun y hy=>?_⟩
 ·rcases zY e1 with ⟨rfl,z⟩|⟨hj,e1'⟩
  ·cases z;rw[hl] at e2;cases e2;exact⟨_,rfl,.dk (zE nl zk) (h3.same gs)⟩
  ·refine (m.ok j c s e1' e2).stay gs (fun y u f e=>?_) rfl fun r q ea k=>⟨k.tp,k.o,k.ok.updO (fun z=>h4 (k.o _ z)) hp,fun y u e n=>?_⟩
   ·obtain⟨w1,w2,_⟩:=m.ft e1' e2 f;refine⟨?_,w1,w2⟩;rw[zh fun z=>hj (m.dj i j _ c _ s l hi e1' hl e2 rfl (by rw[<-z];exact f))];exact e
   ·rw[zh (zm e (m.xd j r q (by rw[<-ea];exact e1') i _ _ l hi hl rfl))];exact k.k y u e n
 ·rcases zY e1 with ⟨rfl,z⟩|⟨hj,e1'⟩
  ·cases z;exact f1.elim
  ·rcases zY e2 with ⟨rfl,z⟩|⟨hj',e2'⟩
   ·cases z;exact f2.elim
   ·exact m.dj j j' c d s t x e1' e2' q1 q2 f1 f2
 ·rcases zY e with ⟨_,z⟩|⟨_,e'⟩
  ·cases z
  ·rcases zY e1 with ⟨rfl,z⟩|⟨hj,e1'⟩
   ·cases z;exact f.elim
   ·exact m.xd j r q e' j' c s x e1' e2 f
 ·rw[zh (zm e h5)];exact m.keep y u e n
 ·rw[zh (fun z=>h4 (by rw[<-z];exact hy))];exact m.oex y hy
theorem M.fzback {F:Fr}{σ:St}{H H2:Hp}{i:Nat}{ds:List (PyData×PyData)}{l:Addr}{kvs:List (Key×V)}{o:Obj}(m:M F α σ H)(hi:α[i]?=some (some (.dic ds)))(hl:σ[i]?=some (some (.ref l)))(hH:H l=some (.dK kvs))
  (t:zN F H2) (k:Kz F (upd H l (.frz o (.dK kvs))) H2):H2 l=some (.frz o (.dK kvs))/\zN F (upd H2 l (.dK kvs))/\Kz F H (upd H2 l (.dK kvs))/\
   ∀x u,¬Ob u->Gz F (α.set i (some (.dat (xm ds)))) σ H2 x=some u->Gz F α σ (upd H2 l (.dK kvs)) x=some u:=by
 obtain⟨l',kvs',h1,h2,h3,h4,h5⟩:=m.dic i ds hi;rw[hl] at h1;cases h1;rw[hH] at h2;cases h2;have e2:H2 l=some (.frz o (.dK kvs)):=k _ _ zk (m.tp.nt h4);have hp:Plain H2 l:=eE e2;refine⟨e2,t.updO h4 hp,fun x u e n=>?_,fun x u hu e=>?_⟩
 ·by_cases z:x=l
  ·subst z;rw[hH] at e;cases e;exact zk
  ·rw[zh z];exact k x u (by rw[zh z];exact e) n
 ·obtain⟨z1,z2⟩:=zj e;have nx:x≠l:=fun z=>by rw[z,e2] at z2;cases z2;exact hu trivial
  refine zE (fun q=>z1 ?_) (by rw[zh nx];exact z2);rcases q with z|⟨j,c,s,q1,q2,f⟩
  ·exact .inl z
  ·by_cases hj:i=j
   ·subst hj;rw[hi] at q1;cases q1;rw[hl] at q2;cases q2;have f':some (V.ref l)=some (.ref x):=f;cases f';exact absurd rfl nx
   ·exact .inr ⟨j,c,s,by rw[rW hj];exact q1,q2,f⟩
theorem ze5 {Q:List PyData->Prop}(i:Nat){ds:List (PyData×PyData)}(hi:α[i]?=some (some (.dic ds)))(h:EvL X (α.set i (some (.dat (xm ds)))) e fun d=>vW d=true/\Q d):EvL X α e Q:=fun F σ H R m k=>by
 obtain⟨l,kvs,h1,h2,h3,h4,h5⟩:=m.dic i ds hi;refine⟨_,zH3 (l:=l) (kvs:=kvs) zl,h2,fun o=>?_⟩;refine h F σ _ _ (m.fzk hi h1 h2) fun d v H' q t kz r=>?_;obtain⟨g1,g2,g3,g4⟩:=m.fzback hi h1 h2 t kz;obtain⟨l',xs,e1,e2,e3,e4⟩:=r;have nl:l'≠l:=fun z=>by rw[z,zk] at e2;cases e2
 rw[zh nl] at e2;refine⟨g1,k d v _ q.2 g2 g3 ⟨l',xs,e1,e2,by rw[zh nl];exact e3,e4.noL (fun x u hu z=>?_) q.1⟩⟩;obtain⟨w1,w2⟩:=zj z;obtain⟨y1,y2⟩:=zj (g4 x u hu (zE w1.1 w2));exact zE ⟨y1,w1.2⟩ y2
theorem zD0 (i:Nat){ds:List (PyData×PyData)}{sts:List Stmt}{E:xJ}(hi:α[i]?=some (some (.dic ds)))(h:SvS X (α.set i (some (.dat (xm ds)))) sts E):SvS X α sts E:=fun F σ H D m r=>by
 obtain⟨l,kvs,h1,h2,h3,h4,h5⟩:=m.dic i ds hi;exact⟨_,zB0 (l:=l) (kvs:=kvs) ya,h2,fun o=>h F σ _ D (m.fzk hi h1 h2) r⟩
theorem zm3 (i:Nat){x:Str}{ix:Expr}{ds:List (PyData×PyData)}{p1 p2:Pos}{rest:List Stmt}{E:xJ}(hu:X.A.units+1<cLine)(hi:α[i]?=some (some (.dic ds)))(h:EvD X α e fun d=>EvD X α ix fun y=>∃k,y=ve k/\ds.length<1000/\SvS X (α.set i (some (.dic (putD ds k d)))) rest E)
  (hN:X.N[i]?=some x:=by rfl) (hv:Vis X.env.scope x:=by first|exact Or.inl rfl|exact Or.inr (Or.inl rfl)|exact Or.inr (Or.inr rfl)) (hd:(x == ("__debug__":Str))=false:=by decide) (hcd:(x == ("__classdict__":Str))=false:=by decide)
  (hsw:swapsWith e (some (.Subscript (.Name x p1) ix p2)) pos.line X.env=pure false:=by rfl):
  SvS X α (.Assign [.Subscript (.Name x p1) ix p2] e pos::rest) E:=fun F σ H D m r=>by
 obtain⟨l,kvs,h1,h2,h3,h4,h5⟩:=m.dic i ds hi;refine⟨_,zJ (zg3 hu (xH hN hv hd hcd) zl zl hsw) ya,?_⟩;refine h F σ H _ m fun d v H1 q1 t1 k1 r1=>?_;have m1:=m.kz k1 t1;refine⟨.ref l,h1,?_⟩;refine q1 F σ H1 _ m1 fun y vy H2 q2 t2 k2 r2=>?_;have m2:=m1.kz k2 t2;obtain⟨k,rfl,hl,q⟩:=q2;cases sR r2;refine⟨l,_,rfl,zb2.k (k2 _ _ (k1 _ _ h2 (m.tp.nt h4)) (m.tp.nt h4)) (by rw[h3.length];exact yK (zW0 hl)),?_⟩;exact q F σ _ D (m2.wrC hi h1 (.dk (((h3.same (k1.gz m.tp)).same (k2.gz m1.tp)).put (r1.same (k2.gz m1.tp))))) r
end
section
variable {X:Cx}{α:Ev}{e a b:Expr}{pos p:Pos}{Q:PyData->Prop}
theorem za2 (h:EvD X α a fun y=>EvD X α b fun d=>∃k,y=ve k/\Q (xm [(ve k,d)])):EvC X α (.Dict [some a] [b] pos) Q:=fun F σ H R m kk=>by
 refine⟨_,zo5 (zb9 zl zl zr5) rfl rfl (List.cons_ne_nil _ _) (by show 1<=15;decide),fun l hl=>?_⟩;have s0:zz H (upd H l (.dK [])):=yj hl;have m0:=m.park (Kz.of_same s0) (m.tp.same s0) hl zk (fun _ z=>by cases z);refine h _ σ _ _ m0 fun y vy H1 q1 t1 k1 r1=>?_;have m1:=m0.kz k1 t1;refine q1 _ σ H1 _ m1 fun d v H2 q2 t2 k2 r2=>?_;obtain⟨k,rfl,q⟩:=q2;cases sR r1;have nl:¬Ow F α σ l:=m.fresh hl;have ntl:NT F l:=m.tp.nt (ow0 nl);have e2:H2 l=some (.dK []):=k2 _ _ (k1 _ _ zk ntl) ntl;have tF:zN F H2:=m.tp.re t2 rfl;refine⟨e2,[(k,v)],rfl,by show 1<=15;decide,?_⟩;refine kk _ _ _ q (tF.updO (ow0 nl) (qD e2)) (fun x o e n=>?_) ⟨l,_,rfl,hl,zk,?_⟩
 ·have nx:x≠l:=fun z=>by rw[z,hl] at e;cases e
  rw[zh nx];exact k2 _ _ (k1 _ _ (s0 _ _ e) n) n
 ·refine yX.dk (kvs:=tL [] [(k,v)]) ?_;refine AVk.cons (r2.same (zw fun x o h e=>?_)) .nil;have nx:x≠l:=fun z=>h (.inl (.inr z));exact⟨⟨fun z=>h (z.elim (fun z=>.inl (.inl z)) .inr),nx⟩,by rw[zh nx];exact e⟩
end
def epO (o:Obj):Nat:=match o.data with
 |.dict _ ep=>ep
 |_=>0
theorem Inv.fzAt {X:Cx}{pins:List (Addr×Obj)}{σ:St}{H:Hp}{s:Shared}{a:Addr}{o:Obj}{kvs:List (Key×V)}(I:Inv X pins σ H s)(h:H a=some (.frz o (.dK kvs))):
  kvs.length<=sizeLine/\(a == sysModules)=false/\∃vs,KV kvs vs/\s.heap.DictAt (yf X.prog X.w) a vs (epO o):=by
 obtain⟨ho,z,y,vs,r,ob,es,ep,e,c1,c2,c3⟩:=(show zM X.prog X.w H s.heap a (.frz o (.dK kvs)) from I.hok a _ h);rw[ho] at e;cases e;have ee:epO o=ep:=by unfold epO;rw[c2]
 rw[ee];exact⟨z,y,vs,r,o,es,ho,c1,c2,c3⟩
theorem KV.at {kvs:List (Key×V)}{vs:List (Key×Value)}(r:KV kvs vs):∀{i:Nat} {k:Key} {v:V},kvs[i]?=some (k,v)->∃u,vs[i]?=some (k,u)/\RelV v u:=by
 unfold KV at r
 induction r with
 |nil=>intro i k v e;simp at e
 |@cons p q ps qs h t ih=>
  intro i k v e;cases i with
  |zero=>
   simp at e;subst e;refine⟨q.2,?_,h.2⟩;have h1:k=q.1:=h.1;rw[h1];rfl
  |succ i=>
   obtain⟨u,h1,h2⟩:=ih (i:=i) (by simpa using e);exact⟨u,by simpa using h1,h2⟩
theorem ig {P:Program}{w:World}{k:Key}{u:Value}(h:(yf P w).is k u=true):RelV (kV k) u:=by
 rcases yg (show qE k u=true from h) with ⟨i,t,rfl,rfl⟩|⟨x,t,rfl,rfl⟩
 ·exact⟨t,rfl⟩
 ·exact⟨t,rfl⟩
def Itd (a:Addr)(o:Obj)(kvs:List (Key×V)):It:=⟨fun i H=>H a=some (.frz o (.dK kvs))/\i<kvs.length,fun i H x H'=>H'=H/\∃k v,kvs[i]?=some (k,v)/\x=kV k,fun i H=>H a=some (.frz o (.dK kvs))/\kvs.length<=i⟩
def zF7 (a:Addr)(o:Obj)(kvs:List (Key×V)):It:=⟨fun i H=>H a=some (.frz o (.dK kvs))/\i<kvs.length,fun i H x H'=>H'=H/\∃k v,kvs[i]?=some (k,v)/\x=v,fun i H=>H a=some (.frz o (.dK kvs))/\kvs.length<=i⟩
theorem fO {P:Program}{w:World}{K:PySem.W.Frag}{tg:Expr}(a it:Addr)(ob:Obj)(kvs:List (Key×V)):Turn P w K tg (Itd a ob kvs) [it] it (fun i h=>h.IsKeyIter it a i kvs.length (epO ob)) where
 mem:=by simp
 obj:=fun i h st b hb=>by
  have e:b=it:=by simpa using hb
  subst e;obtain⟨o,e,c,d⟩:=st;exact⟨o,e,fun v z=>by rw[d] at z;cases z⟩
 keep:=fun i h h' st k=>st.at fun o e=>k it (by simp) o e
 item:=by
  intro X hP hw hK hc i pins s σ H E I hf st hg;subst hP hw hK;obtain⟨hq,hi⟩:=hg;obtain⟨_,_,vs,rel,dd⟩:=I.fzAt hq;have hl:=rel.length;obtain⟨⟨k,v⟩,hx⟩:∃p,kvs[i]?=some p:=⟨kvs[i],zO9 hi⟩;obtain⟨u,hu,ru⟩:=rel.at hx;obtain⟨f0,f1,f2,f3,f4,f5⟩:=hf it (by simp);rw[hl] at st ⊢;refine wpAny_pyNext_dict_item st dd hu fun key h' hk st' sb=>?_;have I1:Inv X pins σ H {s with heap:=h'}:=I.turned (t':=s.toks) (fun b o hb e=>(sb.2 b hb).trans e) f0 f1 f3 f4 f5;obtain⟨o,e,c,d⟩:=id st';exact⟨key,rfl,pT (s:={s with heap:=h'}) e c d (by decide) ⟨kV k,H,I1,ig hk,⟨rfl,k,v,hx,rfl⟩,st',fun b hb=>(hf b hb).1⟩⟩
 done:=by
  intro X hP hw hK hc i pins s σ H E I hf st hg;subst hP hw hK;obtain⟨hq,hi⟩:=hg;obtain⟨_,_,vs,rel,dd⟩:=I.fzAt hq;have hl:=rel.length;obtain⟨f0,f1,f2,f3,f4,f5⟩:=hf it (by simp);rw[hl] at st;exact wpAny_pyNext_dict_end (I.ok.hd hc) st dd (zY5 (by omega)) fun h' eb=>⟨rfl,I.turned (t':=s.toks) (fun b o hb e=>eb b o hb e) f0 f1 f3 f4 f5⟩
 self:=fun _ _ _ _ _ st h=>wpAny_pyIter_keyiter st h
theorem fk {P:Program}{w:World}{K:PySem.W.Frag}{tg:Expr}(a it:Addr)(ob:Obj)(kvs:List (Key×V)):Turn P w K tg (zF7 a ob kvs) [it] it (fun i h=>h.IsValIter it a i kvs.length (epO ob)) where
 mem:=by simp
 obj:=fun i h st b hb=>by
  have e:b=it:=by simpa using hb
  subst e;obtain⟨o,e,c,d⟩:=st;exact⟨o,e,fun v z=>by rw[d] at z;cases z⟩
 keep:=fun i h h' st k=>st.at fun o e=>k it (by simp) o e
 item:=by
  intro X hP hw hK hc i pins s σ H E I hf st hg;subst hP hw hK;obtain⟨hq,hi⟩:=hg;obtain⟨_,_,vs,rel,dd⟩:=I.fzAt hq;have hl:=rel.length;obtain⟨⟨k,v⟩,hx⟩:∃p,kvs[i]?=some p:=⟨kvs[i],zO9 hi⟩;obtain⟨u,hu,ru⟩:=rel.at hx;obtain⟨f0,f1,f2,f3,f4,f5⟩:=hf it (by simp);rw[hl] at st ⊢;refine wpAny_pyNext_values_item st dd hu fun h' st' sb=>?_;have I1:Inv X pins σ H {s with heap:=h'}:=I.turned (t':=s.toks) (fun b o hb e=>(sb.2 b hb).trans e) f0 f1 f3 f4 f5;obtain⟨o,e,c,d⟩:=id st';exact⟨u,rfl,pT (s:={s with heap:=h'}) e c d (by decide) ⟨v,H,I1,ru,⟨rfl,k,v,hx,rfl⟩,st',fun b hb=>(hf b hb).1⟩⟩
 done:=by
  intro X hP hw hK hc i pins s σ H E I hf st hg;subst hP hw hK;obtain⟨hq,hi⟩:=hg;obtain⟨_,_,vs,rel,dd⟩:=I.fzAt hq;have hl:=rel.length;obtain⟨f0,f1,f2,f3,f4,f5⟩:=hf it (by simp);rw[hl] at st;exact wpAny_pyNext_values_end (I.ok.hd hc) st dd (zY5 (by omega)) fun h' eb=>⟨rfl,I.turned (t':=s.toks) (fun b o hb e=>eb b o hb e) f0 f1 f3 f4 f5⟩
 self:=fun _ _ _ _ _ st h=>wpAny_pyIter_valiter st h
section
variable {X:Cx}{tg:Expr}
theorem zm9 {l:Expr}{tl:TE}(hl:PE X l tl):PI X tg l (fun σ H R=>tl σ H fun x H1=>∃a o kvs,x=.ref a/\H1 a=some (.frz o (.dK kvs))/\R (Itd a o kvs) H1):=by
 intro pins s σ H R I h;refine thn (hl pins s σ H _ I h) fun v s1 ⟨x,H1,I1,r1,q1⟩=>?_;obtain⟨a,o,kvs,rfl,hq,q⟩:=q1;cases r1;obtain⟨_,hs,vs,rel,dd⟩:=I1.fzAt hq;refine wpAny_pyIter_dict hs dd ?_;refine⟨s1.heap.objs.size,[s1.heap.objs.size],_,_,H1,rfl,I1.kept (t':=s1.toks) fun b o e=>zO8 _ e,fO a _ o kvs,⟨_,zP9 _ rfl,rfl,by rw[rel.length];rfl⟩,fun b hb=>?_,q⟩;have e:b=s1.heap.objs.size:=by simpa using hb
 subst e;exact I1.fpOk (zP3 _) (I1.hok.fresh (zP3 _))
theorem zl1 {l:Expr}{tl:TE}{apos cpos:Pos}(hl:PE X l tl)(hbase:attributeBase l "values" X.env (eval l X.env)=eval l X.env:=by rfl)(hline:(apos.endLine == cpos.line)=true:=by rfl):
  PI X tg (.Call (.Attribute l "values" apos) [] [] cpos) (fun σ H R=>tl σ H fun x H1=>∃a o kvs,x=.ref a/\H1 a=some (.frz o (.dK kvs))/\R (zF7 a o kvs) H1):=by
 intro pins s σ H R I h;refine wpAny_Call_method0_late hbase hline (thn (hl pins s σ H _ I h) fun v s1 ⟨x,H1,I1,r1,q1⟩=>?_);obtain⟨a,o,kvs,rfl,hq,q⟩:=q1;cases r1;obtain⟨_,hs,vs,rel,dd⟩:=I1.fzAt hq;obtain⟨hT,hD,_⟩:=zx1 I1 (.inl ⟨kvs,.inr ⟨o,hq⟩⟩);refine⟨"dict","dict.values",PySem.F.plainAttrs_dict,PySem.F.slot_dict_values,PySem.F.type_dict_values,hT,hD,Calls.callWith_builtin rfl (PySem.evalArgs_none ?_)⟩;refine call_meetsIn PySem.F.slot_dict_values hT PySem.F.entry_dict_values (PySem.F.args_dict_values_1 _) (meets_dict_values (yf X.prog X.w) a hs) ⟨⟨vs,dd.dictOf⟩,?_⟩;have I2:Inv X pins σ H1 {s1 with heap:=s1.heap.push {cls:=.type "dict_values",data:=.fields #[.ref a]}}:=I1.kept (t':=s1.toks) fun b o e=>zO8 _ e;refine wpAny_pyIter_values (v:=s1.heap.objs.size) ⟨_,zP9 _ rfl,rfl,rfl⟩ (dd.push _) ?_;refine⟨(s1.heap.push {cls:=.type "dict_values",data:=.fields #[.ref a]}).objs.size,[(s1.heap.push {cls:=.type "dict_values",data:=.fields #[.ref a]}).objs.size],_,_,H1,rfl,I2.kept (t':=s1.toks) fun b o e=>zO8 _ e,fk a _ o kvs,⟨_,zP9 _ rfl,rfl,by rw[rel.length];rfl⟩,fun b hb=>?_,q⟩;have e:b=(s1.heap.push {cls:=.type "dict_values",data:=.fields #[.ref a]}).objs.size:=by simpa using hb
 subst e;exact I2.fpOk (zP3 _) (I2.hok.fresh (zP3 _))
end
section
variable {X:Cx}{α:Ev}{e a b tg:Expr}{pos p:Pos}{Q:List PyData->Prop}
theorem zg7 (h:EvD X α e fun x=>∃ds,x=xm ds/\Q (ds.map (·.1))):EvI X α tg e Q:=fun F σ H R m k=>by
 refine⟨_,zm9 zl,?_⟩;refine h F σ H _ m fun x vx H1 q1 t1 k1 r1=>?_;obtain⟨ds,rfl,q⟩:=q1;obtain⟨a,o,kvs,rfl,g1,g2⟩:=r1.dk_inv;refine⟨a,o,kvs,rfl,(zj g1).2,k _ _ H1 q t1 k1 fun i H2 pq s=>⟨fun d hd=>?_,fun hl=>?_⟩⟩
 ·rw[zQ2,zQ9] at hd;obtain⟨pr,hp,rfl⟩:=hd;obtain⟨kk,v,w1,w2,w3⟩:=g2.at hp;refine⟨⟨(zj (s _ _ g1)).2,(zP1.mp w1).1⟩,fun x H3 y=>?_⟩;obtain⟨rfl,k',v',z1,rfl⟩:=y;rw[w1] at z1;cases z1;refine⟨zz.refl _,fun _=>?_⟩;rw[w2];exact iL _
 ·rw[zO6] at hl;exact⟨(zj (s _ _ g1)).2,by rw[g2.length];exact hl⟩
theorem zp5 {apos cpos:Pos}(h:EvD X α e fun x=>∃ds,x=xm ds/\Q (ds.map (·.2)))(hbase:attributeBase e "values" X.env (eval e X.env)=eval e X.env:=by rfl)(hline:(apos.endLine == cpos.line)=true:=by rfl):
  EvI X α tg (.Call (.Attribute e "values" apos) [] [] cpos) Q:=fun F σ H R m k=>by
 refine⟨_,zl1 zl hbase hline,?_⟩;refine h F σ H _ m fun x vx H1 q1 t1 k1 r1=>?_;obtain⟨ds,rfl,q⟩:=q1;obtain⟨a,o,kvs,rfl,g1,g2⟩:=r1.dk_inv;refine⟨a,o,kvs,rfl,(zj g1).2,k _ _ H1 q t1 k1 fun i H2 pq s=>⟨fun d hd=>?_,fun hl=>?_⟩⟩
 ·rw[zQ2,zQ9] at hd;obtain⟨pr,hp,rfl⟩:=hd;obtain⟨kk,v,w1,w2,w3⟩:=g2.at hp;refine⟨⟨(zj (s _ _ g1)).2,(zP1.mp w1).1⟩,fun x H3 y=>?_⟩;obtain⟨rfl,k',v',z1,rfl⟩:=y;rw[w1] at z1;cases z1;exact⟨zz.refl _,fun _=>w3.same s⟩
 ·rw[zO6] at hl;exact⟨(zj (s _ _ g1)).2,by rw[g2.length];exact hl⟩
theorem qq (hc:X.calm=true):xj X (.type "list") (fun xs H Q=>∃a o kvs,xs=[.ref a]/\H a=some (.frz o (.dK kvs))/\∀l,H l=none->Q (.ref l) (upd H l (.lst (kvs.map fun p=>kV p.1)))):=by
 intro pins s σ H xs us Q I r h;obtain⟨a,o,kvs,rfl,hq,q⟩:=h;obtain⟨u,rfl,rx⟩:=vals1 r;cases rx;obtain⟨hz,hs,vs,rel,dd⟩:=I.fzAt hq;refine PySem.W.kdl_call (PySem.W.kdl_dict hs) (I.ok.hd hc) dd (by rw[<-rel.length];exact hz) fun h' tk acc' c' kp e it=>?_;refine⟨.ref s.heap.objs.size,_,I.laid (t':=tk) kp (zP3 _) (show zM X.prog X.w _ h' _ (.lst (kvs.map fun p=>kV p.1)) from ⟨by rw[zO6];exact hz,acc'.toList,c',?_,by simpa using e⟩),rfl,q _ (I.hok.fresh (zP3 _))⟩;have key:∀{as:List V} {bs:List Value},as.length=bs.length->(∀(j:Nat) x,as[j]?=some x->∃u,bs[j]?=some u/\RelV x u)->Vals as bs:=by
  intro as
  induction as with
  |nil=>intro bs h1 _;cases bs with|nil=>exact .nil|cons _ _=>simp at h1
  |cons x as ih=>
   intro bs h1 h2;cases bs with
   |nil=>simp at h1
   |cons y bs=>
    obtain⟨u,z1,z2⟩:=h2 0 x rfl;simp at z1;subst z1;exact .cons z2 (ih (by simpa using h1) fun j x' hx=>by simpa using h2 (j+1) x' (by simpa using hx))
 refine key (by rw[zO6,rel.length,z61];exact it.1.symm) fun j x hx=>?_;rw[zQ2,zQ9] at hx;obtain⟨⟨k,v⟩,h1,rfl⟩:=hx;obtain⟨w',h2,_⟩:=rel.at h1;have hj:j<acc'.size:=by rw[it.1];exact (zP1.mp h2).1
 obtain⟨k',x',z1,z2⟩:=it.2 j acc'[j] (by simp[hj]);rw[h2] at z1;cases z1;exact⟨acc'[j],by simp[hj],ig z2⟩
theorem mZ {H G:Hp}:∀{kvs:List (Key×V)} {ds:List (PyData×PyData)},AVk H kvs ds->AVs G (kvs.map fun p=>kV p.1) (ds.map (·.1))
 |_,_,.nil=>.nil
 |_,_,.cons h r=>.cons (iL _) (mZ r)
theorem dS (hc:X.calm=true)(hg:Gl X "list")(hm:X.mg "list"=none)(h:EvD X α e fun x=>∃ds,x=xm ds/\Q (ds.map (·.1)))(he:starEach [e] X.env=(false,eval e X.env)::starEach [] X.env:=by rfl):
  EvL X α (.Call (.Name "list" p) [e] [] pos) Q:=fun F σ H R m k=>by
 refine⟨_,xu (qq hc) hg hm boot_list (zg zl zu he) (he:=he),?_⟩;refine h F σ H _ m fun x vx H1 q1 t1 k1 r1=>?_;obtain⟨ds,rfl,q⟩:=q1;have m1:=m.kz k1 t1;obtain⟨a,o,kvs,rfl,g1,g2⟩:=r1.dk_inv;refine⟨a,o,kvs,rfl,(zj g1).2,fun l hl=>?_⟩;obtain⟨w1,w2,w3⟩:=m1.lay hl (mZ (G:=Gz F α σ H1) g2);exact k _ _ _ q w1 (k1.trans w2) (w3.back m k1 t1)
end
mutual
def ltD :PyData->PyData->Option Bool
 |.int a,.int b=>some (decide (a<b))
 |.str a,.str b=>some (decide (a.cps.toList<b.cps.toList))
 |.tuple xs,.tuple ys=>kU xs ys
 |_,_=>none
def kU :List PyData->List PyData->Option Bool
 |[],[]=>some false
 |[],_::_=>some true
 |_::_,[]=>some false
 |x::xs,y::ys=>if PyData.eqv x y=true then kU xs ys else ltD x y
end
def zx4 (A:Around)(s:Shared)(x y:PyData):Prop:=∀(v u:Value) (as bs:List Addr) (r:Bool),Reads s.heap v x as->Reads s.heap u y bs->x.canLay0=true->y.canLay0=true->ltD x y=some r->
 ∀(prog:Program) (w:World) (E:Value->Shared->Prop) (Q:Value->Shared->Prop),Q (.bool r) s->wpAny (model prog w) A (richCompare .Lt v u) Q E s
section
open PySem.SeqAt
open PySem.AutoSeq1 (wpAny_loadPart')
open PySem.MeetsSeq PySem.MeetsSeq2 PySem.MeetsSeq3
theorem zz7 (l b:Addr)(items items2:Array Value)(n n2:Nat)(dd dd2:Option Addr)(sl sl2:Array (Option Value))(xs ys:List PyData)(z:Bool)(hz0:kU xs ys=some z)(hcx:PyData.canLayAll0 xs=true)(hcy:PyData.canLayAll0 ys=true):
  Meets (Builtin.«tuple.__lt__» ⟨[.ref l,.ref b],[]⟩)
   (fun A R s=>s.heap.get? l=some {cls:=.type "tuple",dict:=dd,data:=.seq items n,slots:=sl}/\s.heap.get? b=some {cls:=.type "tuple",dict:=dd2,data:=.seq items2 n2,slots:=sl2}/\
    (∃as bs,ReadsAll s.heap items.toList xs as/\ReadsAll s.heap items2.toList ys bs)/\A.units+1+PyData.depthAll xs<cLine/\(∀x∈xs,∀y,zx4 A.in1 s x y)/\R (.ok (.ret (.bool z))) s):=
 .of_wp fun prog w A R s h=>by
  obtain⟨hp,g,d,tk,os⟩:=s;obtain⟨hl,hb,⟨as,bs,r1,r2⟩,hu,hlt,h⟩:=h;have f2:=AutoSeq1.sub_tuple_tuple;have z1:items.size=xs.length:=by simpa using SeqAt.ReadsAll.length _ _ _ r1
  have z2:items2.size=ys.length:=by simpa using SeqAt.ReadsAll.length _ _ _ r2
  wp_walk using z53 hl,z53 hb,wpAny_forIn_list _ (fun rest b s'=>b.1=none/\s'=⟨hp,g,d,tk,os⟩/\∃(vs ws:List Value) (xs' ys':List PyData) (as' bs':List Addr),rest=vs.zip ws/\
   ReadsAll hp vs xs' as'/\ReadsAll hp ws ys' bs'/\xs'.length+items2.size=ys'.length+items.size/\kU xs' ys'=some z/\PyData.canLayAll0 xs'=true/\PyData.canLayAll0 ys'=true/\(∀x∈xs',x∈xs)) _
  case turn=>
   rintro⟨y,x⟩ rest b s' ⟨hb',rfl,vs,ws,xs',ys',as',bs',hz,q1,q2,hlen,hR,c1,c2,hin⟩;cases q1 with
   |nil=>rw[List.zip_nil_left] at hz;cases hz
   |@cons v vs' d0 ds0 a1 a2 p1 q1'=>
    cases q2 with
    |nil=>rw[List.zip_nil_right] at hz;cases hz
    |@cons u us' e0 es0 b1 b2 p2 q2'=>
     rw[List.zip_cons_cons] at hz;injection hz with hyx hrest;injection hyx with hy hx;subst hy hx;simp only[PyData.canLayAll0,zR3] at c1 c2;have hd:d0.depth<=PyData.depthAll xs:=by
      have hm:=hin d0 zQ1;clear hlt hin h r1 hz0 hcx z1
      induction xs with
      |nil=>cases hm
      |cons a as ih=>
       simp only[PyData.depthAll];rcases zP2.mp hm with rfl|hm
       ·exact Nat.le_max_left _ _
       ·refine zT3 (ih ?_ hm) (Nat.le_max_right _ _);simp only[PyData.depthAll] at hu;have:=Nat.le_max_right a.depth (PyData.depthAll as);omega
     have hm:min d0.depth e0.depth<=d0.depth:=Nat.min_le_left _ _;have he:=SeqAt.eqAt_reads d0 e0 A.in1 ⟨hp,g,d,tk,os⟩ _ _ _ _ p1 p2 c1.1 c2.1 (by show A.units+1+min d0.depth e0.depth<cLine;omega);simp only[zQ4] at hlen;unfold kU at hR;refine zO7 (he prog w _ _ ?_);cases e:PyData.eqv d0 e0 with
     |true=>
      rw[e,if_pos rfl] at hR
      wp_walk
      exact⟨rfl,rfl,_,_,_,_,_,_,hrest,q1',q2',by omega,hR,c1.2,c2.2,fun x hx=>hin x (zP5 _ hx)⟩
     |false=>
      rw[e,if_neg (by decide)] at hR;have hri:=fun E Q hq=>hlt d0 (hin d0 zQ1) e0 _ _ _ _ z p1 p2 c1.1 c2.1 hR prog w E Q hq
      wp_walk using hri
      exact⟨_,rfl,by simpa using h⟩
  case fin=>
   rintro⟨b1,b2⟩ s' ⟨hb',rfl,vs,ws,xs',ys',as',bs',hz,q1,q2,hlen,hR,c1,c2,hin⟩;simp only at hb';subst hb';have hv:z=decide (items.size<items2.size):=by
    cases q1 with
    |nil=>
     cases q2 with
     |nil=>
      cases hR;simp only[z27] at hlen;exact (zR5 (by omega)).symm
     |cons p2 q2'=>
      cases hR;simp only[z27,zQ4] at hlen;exact (zS3 (by omega)).symm
    |cons p1 q1'=>
     cases q2 with
     |nil=>
      cases hR;simp only[z27,zQ4] at hlen;exact (zR5 (by omega)).symm
     |cons p2 q2'=>
      rw[List.zip_cons_cons] at hz;cases hz
   rw[hv] at h
   wp_walk
   exact⟨_,rfl,by simpa[Builtin.Tuple.tupleCompareSizes] using h⟩
  case h=>
   exact⟨rfl,rfl,items.toList,items2.toList,xs,ys,as,bs,rfl,r1,r2,by omega,hz0,hcx,hcy,fun x hx=>hx⟩
end
mutual
theorem qV :∀(d:PyData) (e:PyData) (A:Around) (s:Shared),A.units+d.depth<cLine->zx4 A s d e
 |.int a,e,A,s,hu=>fun v u as bs r r1 r2 _ _ h prog w E Q q=>by
  cases e with
  |int b=>
   cases h;cases r1;cases r2;exact (PyProof.Rows.lt_int q:wpAny (model prog w) A (compareOp .Lt _ _) Q E s)
  |_=>cases h
 |.str a,e,A,s,hu=>fun v u as bs r r1 r2 _ _ h prog w E Q q=>by
  cases e with
  |str b=>
   cases h;cases r1;cases r2;exact (lt_str q:wpAny (model prog w) A (compareOp .Lt _ _) Q E s)
  |_=>cases h
 |.tuple xs,e,A,s,hu=>fun v u as bs r r1 r2 c1 c2 h prog w E Q q=>by
  cases e with
  |tuple ys=>
   cases r1 with
   |@tuple a1 o1 vs n1 _ _ g1 g2 g3 g4=>
    cases r2 with
    |@tuple a2 o2 ws n2 _ _ k1 k2 k3 k4=>
     obtain⟨cls,dd,data,sl⟩:=o1;obtain⟨cls2,dd2,data2,sl2⟩:=o2;simp only at g2 g3 k2 k3;subst g2 g3 k2 k3;have hu':A.units+1+PyData.depthAll xs<cLine:=by
      simp only[PyData.depth] at hu;omega
     exact richCompare_meets_room (op:=.Lt) ⟨_,g1,rfl⟩ ⟨_,k1,rfl⟩ PySem.F.slot_tuple_lt PySem.F.entry_tuple_lt (PySem.F.args_tuple_lt_2 _ _) (zz7 a1 a2 vs ws n1 n2 dd dd2 sl sl2 xs ys r h (by simpa only[PyData.canLay0] using c1) (by simpa only[PyData.canLay0] using c2))
      ⟨g1,k1,⟨_,_,g4,k4⟩,hu',mK xs A.in1 s (show A.units+1+PyData.depthAll xs<cLine from hu'),show Value.bool r≠Value.notImplemented/\Q (.bool r) s from ⟨(fun x=>nomatch x),q⟩⟩ (by omega)
  |_=>cases h
 |.none,e,A,s,hu=>fun v u as bs r r1 r2 _ _ h=>by cases e<;>cases h
 |.bool _,e,A,s,hu=>fun v u as bs r r1 r2 _ _ h=>by cases e<;>cases h
 |.list _,e,A,s,hu=>fun v u as bs r r1 r2 _ _ h=>by cases e<;>cases h
 |.dict _,e,A,s,hu=>fun v u as bs r r1 r2 _ _ h=>by cases e<;>cases h
theorem mK :∀(xs:List PyData) (A:Around) (s:Shared),A.units+PyData.depthAll xs<cLine->∀x∈xs,∀y,zx4 A s x y
 |[],A,s,hu=>fun x hx=>by cases hx
 |d::ds,A,s,hu=>fun x hx y=>by
  simp only[PyData.depthAll] at hu;have h1:=Nat.le_max_left d.depth (PyData.depthAll ds);have h2:=Nat.le_max_right d.depth (PyData.depthAll ds);by_cases e:x=d
  ·rw[e];exact qV d y A s (by omega)
  ·exact mK ds A s (by omega) x ((zP2.mp hx).resolve_left e) y
end
section
variable {prog:Program}{w:World}{A:Around}{R:Result->Shared->Prop}{it:Addr}{fp wr:List Addr}{m:Nat}{P:Nat->Value->Prop}{St:Nat->Heap->Prop}
def rj (h0 h:Heap):Prop:=∀b o,h0.get? b=some o->h.get? b=some o
def zt7 (prog:Program)(w:World)(A:Around)(h0:Heap)(P:Nat->Value->Prop)(bt:Nat->Nat->Bool):Prop:=
 ∀i j x y (s:Shared) (Q:Value->Shared->Prop) (E:Value->Shared->Prop),P i x->P j y->rj h0 s.heap->Q (.bool (bt i j)) s->wpAny (model prog w) A (richCompare .Lt x y) Q E s
theorem gX (h0:Heap)(W:Walks prog w A.in1 it fp wr m P St)(bt:Nat->Nat->Bool)(hc:zt7 prog w A.in1 h0 P bt)(D:Addr)(hD:D∉fp)(h0D:h0.get? D=none)(h0w:∀b∈wr,h0.get? b=none):
  ∀(k j:Nat) (s:Shared) (x:Value) (c:Nat),m-(j+1)=k->j+1<=m->St (j+1) s.heap->rj h0 s.heap->P (argBest bt j) x->
  s.heap.get? D=some {cls:=.type "list",dict:=none,data:=.seq #[x,x] c,slots:=#[]}->
  (∀y h' tk,P (argBest bt (m-1)) y->(∀b o,b∉wr->b≠D->s.heap.get? b=some o->h'.get? b=some o)->R (.ok (.ret y)) {s with heap:=h',toks:=tk})->
  codeAny (model prog w) A (.builtin "min.loop" ⟨[.ref it,.none,.ref D],[]⟩) R s:=by
 have hDw:D∉wr:=fun q=>hD (W.sub _ q);have nm:(toString "min"++toString ".loop":String)="min.loop":=by decide
 intro k;induction k with
 |zero=>
  intro j s x c hk hj st kp px hS hR;have e:j+1=m:=by omega
  refine z26 z41 ?_;rw[zZ0 zV5 _];show wpAny _ A.in1 (seqItems? (.ref D) >>= _) _ _ s;refine zO7 (zU9 hS rfl ?_);show wpAny _ A.in1 (tryCatch (pyNext (.ref it)) _ >>= _) _ _ s;refine zO7 (wpAny_tryCatch (W.done s _ _ (e▸st) fun h' tk kk=>?_));have hS':=kk D _ hDw hS;show wpAny _ A.in1 (updateSeq D (fun _=>#[]) >>= _) _ _ _;refine zO7 (zW6 hS' rfl (zO7 (zY2 (zP8 ?_))));exact hR x _ tk (by rw[<-e];exact px) fun b o h1 h2 q=>(zR2 _ _ (zS2 h2)).trans (kk b o h1 q)
 |succ k ih=>
  intro j s x c hk hj st kp px hS hR;have lt:j+1<m:=by omega
  refine z26 z41 ?_;rw[zZ0 zV5 _];show wpAny _ A.in1 (seqItems? (.ref D) >>= _) _ _ s;refine zO7 (zU9 hS rfl ?_);show wpAny _ A.in1 (tryCatch (pyNext (.ref it)) _ >>= _) _ _ s;refine zO7 (wpAny_tryCatch (W.item (j+1) s _ _ lt st fun y h' tk py st' kk=>?_));have hS':=kk D _ hDw hS;have kp':rj h0 h':=fun b o q=>kk b o (fun z=>by rw[h0w b z] at q;cases q) (kp b o q);show wpAny _ A.in1 (tryCatch (holding [y,y] (richCompare .Lt y x >>= _)) _ >>= _) _ _ _;refine zO7 (wpAny_tryCatch (zU6 (zO7 (hc (j+1) (argBest bt j) y x _ _ _ py px kp' ?_))));refine zO7 (zU6 (zS6 (zO7 (zY2 (zP8 ?_)))));cases hb:bt (j+1) (argBest bt j) with
  |true=>
   simp only[zZ6];refine zO7 (zW6 hS' rfl (zO7 (zY2 ?_)));rw[nm];refine zP8 ⟨zY7 zV5 _,ih (j+1) _ y _ (by omega) lt (W.frame _ _ _ st' fun b hf o q=>?_) (fun b o q=>?_) (by simp only[argBest,hb,zZ6];exact py) (z02 _ hS' rfl) fun z h2 tk2 pz kz=>?_⟩
   ·exact (zR2 _ _ (fun z:D=b=>hD (by rw[z];exact hf))).trans q
   ·exact (zR2 _ _ (fun z:D=b=>by rw[<-z,h0D] at q;cases q)).trans (kp' b o q)
   ·exact hR z h2 tk2 pz fun b o h1 h3 q=>kz b o h1 h3 ((zR2 _ _ (zS2 h3)).trans (kk b o h1 q))
  |false=>
   simp only[zS9,zW3];refine zO7 (zY2 ?_);rw[nm];refine zP8 ⟨zY7 zV5 _,ih (j+1) _ x c (by omega) lt st' kp' (by simp only[argBest,hb,zS9,zW3];exact px) hS' fun z h2 tk2 pz kz=>?_⟩;exact hR z h2 tk2 pz fun b o h1 h3 q=>kz b o h1 h3 (kk b o h1 q)
theorem jv (h0:Heap)(W:Walks prog w A.in1 it fp wr m P St)(bt:Nat->Nat->Bool)(hc:zt7 prog w A.in1 h0 P bt)(D:Addr)(hD:D∉fp)(h0D:h0.get? D=none)(h0w:∀b∈wr,h0.get? b=none)(hm:0<m){s:Shared}{c:Nat}(st:St 0 s.heap)(kp:rj h0 s.heap)
  (hS:s.heap.get? D=some {cls:=.type "list",dict:=none,data:=.seq #[] c,slots:=#[]})
  (hR:∀y h' tk,P (argBest bt (m-1)) y->(∀b o,b∉wr->b≠D->s.heap.get? b=some o->h'.get? b=some o)->R (.ok (.ret y)) {s with heap:=h',toks:=tk}):
  codeAny (model prog w) A (.builtin "min.loop" ⟨[.ref it,.none,.ref D],[]⟩) R s:=by
 have hDw:D∉wr:=fun q=>hD (W.sub _ q);have nm:(toString "min"++toString ".loop":String)="min.loop":=by decide
 refine z26 z41 ?_;rw[zZ0 zV5 _];show wpAny _ A.in1 (seqItems? (.ref D) >>= _) _ _ s;refine zO7 (zU9 hS rfl ?_);show wpAny _ A.in1 (tryCatch (pyNext (.ref it)) _ >>= _) _ _ s;refine zO7 (wpAny_tryCatch (W.item 0 s _ _ hm st fun y h' tk py st' kk=>?_));have hS':=kk D _ hDw hS;have kp':rj h0 h':=fun b o q=>kk b o (fun z=>by rw[h0w b z] at q;cases q) (kp b o q);show wpAny _ A.in1 (updateSeq D (fun _=>#[y,y]) >>= _) _ _ _;refine zO7 (zW6 hS' rfl ?_);rw[nm];refine zP8 ⟨zY7 zV5 _,gX h0 W bt hc D hD h0D h0w _ 0 _ y _ rfl hm (W.frame _ _ _ st' fun b hf o q=>?_) (fun b o q=>?_) py (z02 _ hS' rfl) fun z h2 tk2 pz kz=>?_⟩
 ·exact (zR2 _ _ (fun z:D=b=>hD (by rw[z];exact hf))).trans q
 ·exact (zR2 _ _ (fun z:D=b=>by rw[<-z,h0D] at q;cases q)).trans (kp' b o q)
 ·exact hR z h2 tk2 pz fun b o h1 h3 q=>kz b o h1 h3 ((zR2 _ _ (zS2 h3)).trans (kk b o h1 q))
end
section
variable {prog:Program}{w:World}{A:Around}{E:Value->Shared->Prop}{s:Shared}
theorem di {l:Addr}{items:Array Value}{bt:Nat->Nat->Bool}{Q:Value->Shared->Prop}(hh:A.handled=none)(hl:s.heap.IsList l items)(h0:0<items.size)(hc:zt7 prog w A.in1 s.heap (fun i v=>items[i]?=some v) bt)
  (hQ:∀v h' tk,items[argBest bt (items.size-1)]?=some v->rj s.heap h'->Q v {s with heap:=h',toks:=tk}):wpAny (model prog w) A (call (.builtin "min") [.ref l]) Q E s:=by
 have nm:(toString "min"++toString ".loop":String)="min.loop":=by decide
 have hlt:l<s.heap.objs.size:=by obtain⟨_,e,_⟩:=hl;exact zP6 e
 refine call_function_tree PySem.F.kind_min PySem.F.plain_min PySem.F.entry_min (PySem.F.args_min1 _) ?_;show wpAny _ A.in1 (Builtin.Builtins.bindParams "min" ["key","default"] 0 ⟨[],[]⟩ >>= _) _ _ s;refine zO7 (wpAny_of_eq (show Builtin.Builtins.bindParams "min" ["key","default"] 0 ⟨[],[]⟩=pure [none,none] from rfl) (zO7 (zP8 ?_)));refine zO7 (zX3 hl ?_);refine zO7 (wpAny_newObj_type ?_);rw[nm];have W:=Walks.list (prog:=prog) (w:=w) (A:=A.in1) hh s.heap.objs.size l (zQ7 hlt) items;have up:rj s.heap ((s.heap.push {cls:=.type "list_iterator",data:=.fields #[.ref l,.int 0 0]}).push {cls:=.type "list",data:=.seq #[]}):=fun b o e=>zO8 _ (zO8 _ e);have sz:(s.heap.push {cls:=.type "list_iterator",data:=.fields #[.ref l,.int 0 0]}).objs.size=s.heap.objs.size+1:=zU7 _ _;refine zP8 ⟨zY7 zV5 _,jv s.heap W bt hc _ (fun q=>?_) (Heap.get?_none_of_le (by rw[sz];exact zY1 _)) (fun b hb=>?_) h0 (W.frame 0 (s.heap.push {cls:=.type "list_iterator",data:=.fields #[.ref l,.int 0 0]}) _ ⟨⟨_,zP9 _ rfl,rfl,rfl⟩,hl.push _⟩ fun b _ o e=>zO8 _ e) up (zP9 _ rfl) fun v h' tk pv kk=>?_⟩
 ·rcases zP2.mp q with z|z
  ·rw[sz] at z;exact absurd z (Nat.succ_ne_self _)
  ·rw[zP7,sz] at z;exact absurd hlt (by rw[<-z];exact Nat.not_lt.mpr (zY1 _))
 ·rw[zP7.mp hb];exact Heap.get?_none_of_le (zP3 _)
 ·refine hQ v h' tk pv fun b o e=>kk b o (fun z=>?_) (fun z=>?_) (up b o e)
  ·rw[zP7.mp z] at e;exact absurd (zP6 e) (zU5 _)
  ·have:=zP6 e;rw[z,sz] at this;exact absurd this (Nat.not_lt.mpr (zY1 _))
end
def uT (ds:List PyData)(i j:Nat):Bool:=match ds[i]?,ds[j]? with
 |some x,some y=>(ltD x y).getD false
 |_,_=>false
def minD :List PyData->PyData
 |[]=>.none
 |d::ds=>ds.foldl (fun b x=>if (ltD x b).getD false=true then x else b) d
theorem jQ (d:PyData)(ds:List PyData)(x:PyData):minD (d::(ds++[x]))=if (ltD x (minD (d::ds))).getD false=true then x else minD (d::ds):=by
 show List.foldl _ d (ds++[x])=_;rw[List.foldl_append];rfl
theorem nO {ds:List PyData}{i j:Nat}{x y:PyData}(h1:ds[i]?=some x)(h2:ds[j]?=some y):uT ds i j=(ltD x y).getD false:=by
 unfold uT;rw[h1,h2]
theorem dW (ds:List PyData):∀k,k<ds.length->ds[argBest (uT ds) k]?=some (minD (ds.take (k+1))):=by
 intro k
 induction k with
 |zero=>
  intro h;cases ds with
  |nil=>simp at h
  |cons d ds=>simp[argBest,minD]
 |succ k ih=>
  intro h;have ih':=ih (by omega);cases ds with
  |nil=>simp at h
  |cons d ds=>
   have hx:(d::ds)[k+1]?=some (d::ds)[k+1]:=zO9 h;have tk:(d::ds).take (k+1+1)=d::(ds.take k++[(d::ds)[k+1]]):=by
    have hk:k<ds.length:=by simpa using h
    rw[z20,zW4,zO9 hk];rfl
   have tk':(d::ds).take (k+1)=d::ds.take k:=z20;rw[tk,jQ,<-tk'];have e:uT (d::ds) (k+1) (argBest (uT (d::ds)) k)=(ltD (d::ds)[k+1] (minD ((d::ds).take (k+1)))).getD false:=nO hx ih';simp only[argBest];rw[e];split
   ·exact hx
   ·exact ih'
theorem tG {X:Cx}{pins:List (Addr×Obj)}{σ:St}{H:Hp}{s:Shared}(I:Inv X pins σ H s):∀{xs:List V} {ds:List PyData} {us:List Value} {i:Nat} {d:PyData},DVs H xs ds->Vals xs us->ds[i]?=some d->∃u as,us[i]?=some u/\Reads s.heap u d as
 |_,_,_,_,_,.nil,_,e=>by simp at e
 |_,_,_,i,d,.cons hx hs,.cons (b:=u) ru rs,e=>by
  cases i with
  |zero=>
   simp at e;subst e;obtain⟨as,ra⟩:=hx.reads I ru;exact⟨u,as,rfl,ra⟩
  |succ i=>
   obtain⟨u',as,h1,h2⟩:=tG I hs rs (i:=i) (by simpa using e);exact⟨u',as,by simpa using h1,h2⟩
def zD1 (ds:List PyData):Prop:=∀x∈ds,∀y∈ds,(ltD x y).isSome=true
section
variable {X:Cx}{α:Ev}{e:Expr}{pos p:Pos}{Q:PyData->Prop}
theorem dq (hc:X.calm=true)(hu:X.A.units+70<cLine):xj X (.builtin "min") (fun xs H Q=>∃(l:Addr) (vs:List V) (ds:List PyData),xs=[.ref l]/\H l=some (.lst vs)/\DVs H vs ds/\ds≠[]/\zD1 ds/\(∀d∈ds,d.canLay0=true/\d.depth<=60)/\∀(i:Nat) (v:V),vs[i]?=some v->ds[i]?=some (minD ds)->Q v H):=by
 intro pins s σ H xs us Q I r h;obtain⟨l,vs,ds,rfl,hl,dv,ne,cm,sh,q⟩:=h;obtain⟨u,rfl,rx⟩:=vals1 r;cases rx;obtain⟨its,rv,pl,hz⟩:=I.list (SqL.of hl);have l1:=rv.length;have l2:vs.length=ds.length:=dv.length;have h0:0<ds.length:=z21.mpr ne;refine di (bt:=uT ds) (I.ok.hd hc) pl.isList (by simp;omega) ?_ fun v h' tk hv kp=>?_
 ·intro i j x y s2 Q2 E2 hx hy kp q2;have hi:i<ds.length:=by have:=(Array.getElem?_eq_some_iff.mp hx).1;simp at this;omega
  have hj:j<ds.length:=by have:=(Array.getElem?_eq_some_iff.mp hy).1;simp at this;omega
  have ei:ds[i]?=some ds[i]:=zO9 hi;have ej:ds[j]?=some ds[j]:=zO9 hj;obtain⟨u1,as1,g1,g2⟩:=tG I dv rv ei;obtain⟨u2,as2,g3,g4⟩:=tG I dv rv ej;have e1:u1=x:=by have:=hx;simp at this;rw[g1] at this;exact zR7 this
  have e2:u2=y:=by have:=hy;simp at this;rw[g3] at this;exact zR7 this
  subst e1 e2;obtain⟨rr,hrr⟩:=Option.isSome_iff_exists.mp (cm _ (zT9 hi) _ (zT9 hj));have hs1:=sh _ (zT9 hi);have hs2:=sh _ (zT9 hj);refine qV ds[i] ds[j] X.A.in1 s2 (by show X.A.units+1+_<cLine;omega) _ _ _ _ rr (Reads.keeps kp g2) (Reads.keeps kp g4) hs1.1 hs2.1 hrr _ _ _ _ ?_;have:uT ds i j=rr:=by rw[nO ei ej,hrr];rfl
  rw[<-this];exact q2
 ·have hb:=dW ds (ds.length-1) (by omega);have e3:its.toArray.size-1=ds.length-1:=by simp;omega
  rw[e3] at hv;rw[show ds.length-1+1=ds.length by omega,zW2] at hb;have hv':its[argBest (uT ds) (ds.length-1)]?=some v:=by simpa using hv
  have hi:argBest (uT ds) (ds.length-1)<vs.length:=by have:=(zP1.mp hb).1;omega
  obtain⟨u',g1,g2⟩:=rv.get (zO9 hi);rw[hv'] at g1;cases g1;exact⟨_,H,I.kept (t':=tk) kp,g2,q _ _ (zO9 hi) hb⟩
theorem zq8 (hc:X.calm=true)(hu:X.A.units+70<cLine)(hg:Gl X "min")(hm:X.mg "min"=none)(h:EvD X α e fun x=>∃ds,x=.list ds/\ds≠[]/\PyData.hasDictAll ds=false/\zD1 ds/\(∀d∈ds,d.canLay0=true/\d.depth<=60)/\Q (minD ds))(he:starEach [e] X.env=(false,eval e X.env)::starEach [] X.env:=by rfl):
  EvD X α (.Call (.Name "min" p) [e] [] pos) Q:=by
 refine wG (dq hc hu) hg hm boot_min (zd (h.imp fun x ⟨ds,e1,ne,nd,cm,sh,q⟩=>zp ?_) he) (he:=he);intro F σ H vs R m rv k;subst e1;obtain⟨v,rfl,av⟩:=rv.one;obtain⟨a,xs,rfl,h1,h2⟩:=av.lst_inv;refine⟨a,xs,ds,rfl,(zj h1).2,(h2.dv nd).same xD,ne,cm,sh,fun i v hv hd=>?_⟩;obtain⟨x',g1,g2⟩:=h2.get hd;rw[hv] at g1;cases g1;exact k _ _ H q m.tp Kz.refl g2
def uU :List Int->Int
 |[]=>0
 |z::zs=>zs.foldl (fun b x=>if b<x then x else b) z
theorem fw (d:Int)(ds:List Int)(x:Int):uU (d::(ds++[x]))=if uU (d::ds)<x then x else uU (d::ds):=by
 show List.foldl _ d (ds++[x])=_;rw[List.foldl_append];rfl
def eU (zs:List Int)(i j:Nat):Bool:=decide (zs.getD i 0 > zs.getD j 0)
theorem zo8 {zs:List Int}{i j:Nat}{x y:Int}(h1:zs[i]?=some x)(h2:zs[j]?=some y):eU zs i j=decide (y<x):=by
 unfold eU;rw[zP0,zP0,h1,h2];rfl
theorem dF (zs:List Int):∀k,k<zs.length->zs[argBest (eU zs) k]?=some (uU (zs.take (k+1))):=by
 intro k
 induction k with
 |zero=>
  intro h;cases zs with
  |nil=>simp at h
  |cons d ds=>simp[argBest,uU]
 |succ k ih=>
  intro h;have ih':=ih (by omega);cases zs with
  |nil=>simp at h
  |cons d ds=>
   have hx:(d::ds)[k+1]?=some (d::ds)[k+1]:=zO9 h;have tk:(d::ds).take (k+1+1)=d::(ds.take k++[(d::ds)[k+1]]):=by
    have hk:k<ds.length:=by simpa using h
    rw[z20,zW4,zO9 hk];rfl
   have tk':(d::ds).take (k+1)=d::ds.take k:=z20;rw[tk,fw,<-tk'];have e:eU (d::ds) (k+1) (argBest (eU (d::ds)) k)=decide (uU ((d::ds).take (k+1))<(d::ds)[k+1]):=zo8 hx ih';simp only[argBest];rw[e];by_cases z:uU ((d::ds).take (k+1))<(d::ds)[k+1]
   ·rw[zS3 z,if_pos rfl,if_pos z];exact hx
   ·rw[zR5 z,if_neg (by decide),if_neg z];exact ih'
theorem fu (hc:X.calm=true):xj X (.builtin "max") (fun xs H Q=>∃(l:Addr) (zs:List Int),xs=[.ref l]/\H l=some (.lst (zs.map V.int))/\zs≠[]/\Q (.int (uU zs)) H):=by
 intro pins s σ H xs us Q I r h;obtain⟨l,zs,rfl,hl,ne,q⟩:=h;obtain⟨u,rfl,rx⟩:=vals1 r;cases rx;obtain⟨its,rv,pl,hz⟩:=I.list (SqL.of hl);have l1:=rv.length;rw[zO6] at l1;have h0:0<zs.length:=z21.mpr ne;have hlt:l<s.heap.objs.size:=by obtain⟨_,e,_⟩:=pl.isList;exact zP6 e
 have val:∀i v,its.toArray[i]?=some v->∃t,v=Value.int (zs.getD i 0) t:=fun i v hv=>by
  have hv':its[i]?=some v:=by simpa using hv
  have hi:i<(zs.map V.int).length:=by rw[zO6,l1];exact (zP1.mp hv').1
  obtain⟨u',g1,g2⟩:=rv.get (zO9 hi);rw[hv'] at g1;cases g1;rw[List.getElem_map] at g2;obtain⟨t,rfl⟩:=g2;refine⟨t,?_⟩;rw[zO6] at hi;rw[zP0,zO9 hi];rfl
 refine call_max_walk (zX3 pl.isList ⟨s.heap.objs.size,[s.heap.objs.size,l],[s.heap.objs.size],_,_,_,eU zs,rfl,Walks.list (A:=X.A.in1) (I.ok.hd hc) s.heap.objs.size l (zQ7 hlt) its.toArray,⟨⟨_,zP9 _ rfl,rfl,rfl⟩,pl.isList.push _⟩,fun b hb=>?_,by simp;omega,CmpOf.ints_gt (fun i=>zs.getD i 0) val,fun v h' tk hv kk=>?_⟩)
 ·show b<(s.heap.push _).objs.size;rw[zU7];rcases zP2.mp hb with z|z
  ·rw[z];exact zZ3 _
  ·rw[zP7.mp z];exact z39 hlt
 ·obtain⟨t,rfl⟩:=val _ _ hv;have hb:=dF zs (zs.length-1) (by omega);rw[show zs.length-1+1=zs.length by omega,zW2] at hb;have e3:its.toArray.size-1=zs.length-1:=by simp;omega
  rw[e3];refine⟨.int (uU zs),H,I.kept (t':=tk) (fun b o e=>kk b o (fun z=>?_) (zO8 _ e)),⟨t,?_⟩,q⟩
  ·rw[zP7.mp z] at e;exact absurd (zP6 e) (zU5 _)
  ·rw[zP0,hb];rfl
theorem AVs.intsV {H:Hp}:∀{xs:List V} {zs:List Int},AVs H xs (zs.map .int)->xs=zs.map V.int
 |_,[],.nil=>rfl
 |_,z::zs,.cons h r=>by rw[h.int_inv,AVs.intsV r];rfl
theorem zf7 (hc:X.calm=true)(hg:Gl X "max")(hm:X.mg "max"=none)(h:EvD X α e fun x=>∃zs:List Int,x=.list (zs.map .int)/\zs≠[]/\Q (.int (uU zs)))(he:starEach [e] X.env=(false,eval e X.env)::starEach [] X.env:=by rfl):
  EvD X α (.Call (.Name "max" p) [e] [] pos) Q:=by
 refine wG (fu hc) hg hm boot_max (zd (h.imp fun x ⟨zs,e1,ne,q⟩=>zp ?_) he) (he:=he);intro F σ H vs R m rv k;subst e1;obtain⟨v,rfl,av⟩:=rv.one;obtain⟨a,xs,rfl,h1,h2⟩:=av.lst_inv;have h3:=(zj h1).2;rw[h2.intsV] at h3;exact⟨a,zs,rfl,h3,ne,k _ _ H q m.tp Kz.refl (.int _)⟩
end
theorem jE :typeLookup (.type "list_reverseiterator") "__len__"=pure none:=by rw[z57,z04];kernel_rfl
theorem aJ :typeLookup (.type "list_reverseiterator") "__length_hint__"=pure (some (.builtin "list_reverseiterator.__length_hint__")):=by rw[z57,z04];kernel_rfl
section
variable {prog:Program}{w:World}{A:Around}{E:Value->Shared->Prop}{s:Shared}{it l:Addr}{items:Array Value}
theorem za5 {Q:Bool->Shared->Prop}(hT:s.TypeIs (.ref it) "list_reverseiterator")(h:Q false s):wpAny (model prog w) A (Builtin.List.listLengthHint (.ref it)) Q E s:=by
 unfold Builtin.List.listLengthHint;refine zO7 (z24 hT jE ?_);show wpAny _ _ (specialOf (Value.ref it) (Str.ofString "__length_hint__") >>= _) _ _ _;refine zO7 (z24 hT aJ ?_);generalize hid:("list_reverseiterator.__length_hint__":String)=id0
 wp_delta
 rw[show splitId id0=some ("list_reverseiterator","__length_hint__") from by subst hid;decide +kernel];subst hid;refine zO7 (wpAny_isInstance (T:="list_reverseiterator") (b:=true) hT (by rw[isSubtype_type];kernel_rfl) ?_);refine zZ9 (fun q=>absurd q (by decide)) fun _=>?_;refine zZ9 (fun _=>?_) fun q=>absurd (by decide +kernel) q;refine zZ9 (fun q=>absurd q (by decide +kernel)) fun _=>?_;exact zP8 h
theorem qR {Q:Value->Shared->Prop}(hh:A.handled=none)(hne:l≠it)(hr:s.heap.IsRevIter it l ((items.size:Int)-1))(hl:s.heap.IsList l items)(hn:items.size<=sizeLine)
  (hQ:∀h' tk acc c,(∀b o,b≠it->s.heap.get? b=some o->h'.get? b=some o)->h'.get? s.heap.objs.size=some {cls:=.type "list",dict:=none,data:=.seq acc c,slots:=#[]}->ItemsOf (fun i v=>items[items.size-1-i]?=some v) acc items.size->Q (.ref s.heap.objs.size) {s with heap:=h',toks:=tk}):
  wpAny (model prog w) A (call (.type "list") [.ref it]) Q E s:=by
 refine callType_codes (Q₁:=fun obj s₁=>obj=.ref s.heap.objs.size/\s₁={s with heap:=s.heap.push {cls:=.type "list",data:=.seq #[]}}) PySem.F.called_list (PySem.F.typeCall_list_1 _) PySem.F.entry_list_init
  (code_list_new _ ⟨rfl,rfl⟩) fun obj s₁ h₁=>?_
 obtain⟨rfl,rfl⟩:=h₁;generalize hSd:s.heap.objs.size=S at hQ ⊢;have hS:(s.heap.push {cls:=.type "list",data:=.seq #[]}).get? S=some {cls:=.type "list",data:=.seq #[]}:=by rw[<-hSd];exact zP9 _ rfl
 have up:∀b o,s.heap.get? b=some o->(s.heap.push {cls:=.type "list",data:=.seq #[]}).get? b=some o:=fun b o e=>zO8 _ e;have iS:it≠S:=by obtain⟨o,e,_⟩:=id hr;rw[<-hSd];exact zQ7 (zP6 e)
 have lS:l≠S:=by obtain⟨o,e,_⟩:=id hl;rw[<-hSd];exact zQ7 (zP6 e)
 have ltS:∀{b:Addr} {o:Obj},s.heap.get? b=some o->b≠S:=fun e=>by rw[<-hSd];exact zQ7 (zP6 e)
 have W:=Walks.listRev (prog:=prog) (w:=w) (A:=A.in1.in1) hh it l hne items;have hSf:S∉[it,l]:=by simp only[zP2,zQ3,zS4,not_or];exact⟨zS2 iS,zS2 lS⟩
 refine⟨⟨_,hS,rfl⟩,PySem.F.args_list_init_2 _ _,?_⟩;show wpAny _ _ (do let old <-Builtin.List.listItems (.ref S);Builtin.List.listUpdate (.ref S) (fun _=>#[]);letGo old.toList.reverse;Builtin.List.listExtendWith (.ref S) (.ref it) .none) _ _ _;refine zO7 ?_;unfold Builtin.List.listItems;refine zO7 (zU9 hS rfl (zP8 ?_));show wpAny _ _ (updateSeq S (fun _=>#[]) >>= fun _=>letGo (#[]:Array Value).toList.reverse >>= fun _=>Builtin.List.listExtendWith (.ref S) (.ref it) .none) _ _ _;refine zO7 (zW6 hS rfl ?_);obtain⟨e2,hS₂⟩:∃e',((s.heap.push {cls:=.type "list",data:=.seq #[]}).update S (Obj.mapSeq (fun _=>(#[]:Array Value)))).get? S=some {cls:=.type "list",dict:=none,data:=.seq #[] e',slots:=#[]}:=⟨_,zX1 (c:="list") hS fun _=>#[]⟩;have oth:∀b o,s.heap.get? b=some o->((s.heap.push {cls:=.type "list",data:=.seq #[]}).update S (Obj.mapSeq (fun _=>(#[]:Array Value)))).get? b=some o:=
  fun b o e=>(zR2 _ _ (zS2 (ltS e))).trans (up b o e)
 refine zO7 (zY2 ?_);have hT:({s with heap:=(s.heap.push {cls:=.type "list",data:=.seq #[]}).update S (Obj.mapSeq (fun _=>(#[]:Array Value)))}:Shared).TypeIs (.ref it) "list_reverseiterator":=Heap.IsRevIter.typeIs (hr.at fun o e=>oth _ o e);unfold Builtin.List.listExtendWith;refine zO7 (wpAny_typeOf hT ?_);have b1:Builtin.List.listSameRef (.ref S) (.ref it)=false:=by simp[Builtin.List.listSameRef];exact zS2 iS
 have b2:(Value.type "list_reverseiterator" == Value.type "list")=false:=by decide
 have b3:(Value.type "list_reverseiterator" == Value.type "tuple")=false:=by decide
 simp only[b1,b2,b3,z08,zS9,zW3];refine zO7 (wpAny_pyIter_revIter (hr.at fun o e=>oth _ o e) ?_);refine zO7 (zU6 (za5 hT ?_));have key:∀(h:Heap) (c₁ tk:Nat),h.get? S=some {cls:=.type "list",dict:=none,data:=.seq #[] c₁,slots:=#[]}->(∀b o,s.heap.get? b=some o->h.get? b=some o)->codeAny (model prog w) A.in1 (.builtin "list.extend.loop" ⟨[.ref S,.ref it,.none],[]⟩) (wants (fun v s'=>v=.none/\Q (.ref S) s') E) {s with heap:=h,toks:=tk}:=by
  intro h c₁ tk hS' oth';refine codeAny_extend_loopS W.toS hn S hSf .none items.size 0 _ #[] c₁ rfl (zQ8 _) ⟨zQ8 _,by simpa using hr.at fun o e=>oth' _ o e,hl.at fun o e=>oth' _ o e⟩ hS' (ItemsOf.nil _) fun s' acc' c' hm hS'' hacc=>?_;rw[Moved.eq_with hm];refine⟨rfl,hQ s'.heap s'.toks acc' c' (fun b o hb e=>hm.heap b o (fun z=>?_) (oth' b o e)) hS'' hacc⟩;rcases zP2.mp z with z|z
  ·exact ltS e z
  ·exact hb (zP7.mp z)
 refine zZ9 (fun q=>absurd q (by decide)) (fun _=>zP8 ⟨zY7 zV8 _,key _ _ _ hS₂ oth⟩)
end
section
variable {X:Cx}{α:Ev}{a e c:Expr}{p p0 pos pos2:Pos}{Q:List PyData->Prop}
theorem ki {ta:TA}(hc:X.calm=true)(hgl:Gl X "list")(hml:X.mg "list"=none)(hg:Gl X "reversed")(hm:X.mg "reversed"=none)(ha:PA X [a] ta)
  (hs0:starEach [.Call (.Name "reversed" p) [a] [] pos2] X.env=[(false,eval (.Call (.Name "reversed" p) [a] [] pos2) X.env)]:=by rfl) (hs:starEach [a] X.env=[(false,eval a X.env)]:=by rfl):
  PE X (.Call (.Name "list" p0) [.Call (.Name "reversed" p) [a] [] pos2] [] pos) (fun σ H Q=>ta σ H fun vs H1=>∃(l:Addr) (xs:List V),vs=[.ref l]/\SqL X.K H1 l xs/\∀D,H1 D=none->Q (.ref D) (upd H1 D (.lst xs.reverse))):=by
 intro pins s σ H Q I h;refine Call_ (xq I hgl hml boot_list (zS5 ?_ hs0 rfl));rw[hs0];show wpAny _ _ (spliced ((false,eval _ X.env)::backTo pos [])) _ _ s;refine Calls.spliced_cons ?_;refine Call_ (xq I hg hm boot_reversed (zS5 (thn (ha pos2 pins s σ H _ I h) fun us s1 ⟨vs,H1,I1,r1,q1⟩=>?_) hs rfl));obtain⟨l,xs,rfl,hq,q⟩:=q1;obtain⟨u,rfl,ru⟩:=Vals.one r1;cases (show u=Value.ref l from ru);obtain⟨its,rv,pl,hz⟩:=I1.list hq;have hlen:=rv.length;have llt:l<s1.heap.objs.size:=by obtain⟨o,e,_⟩:=pl.isList;exact zP6 e
 refine call_reversed_list pl.isList (Calls.spliced_nil ?_);generalize hI:s1.heap.objs.size=it;have I2:Inv X pins σ H1 {s1 with heap:=s1.heap.push (revObj l ((its.toArray.size:Int)-1))}:=I1.kept (t':=s1.toks) fun b o e=>zO8 _ e;have fI:∀H',H' it=none->xC X pins H' it:=fun H' hn=>by rw[<-hI] at hn ⊢;exact I1.fpOk (zP3 _) hn
 have nI:H1 it=none:=by rw[<-hI];exact I1.hok.fresh (zP3 _)
 refine qR (it:=it) (l:=l) (items:=its.toArray) (I1.ok.hd hc) (by rw[<-hI];exact zQ7 llt) (by rw[<-hI];exact⟨_,zP9 _ rfl,rfl,rfl⟩) (pl.isList.push _) (by simp;omega) fun h' tk acc c kp e ic=>?_;have szD:({s1 with heap:=s1.heap.push (revObj l ((its.toArray.size:Int)-1))}:Shared).heap.objs.size=s1.heap.objs.size+1:=zU7 _ _;generalize hD:({s1 with heap:=s1.heap.push (revObj l ((its.toArray.size:Int)-1))}:Shared).heap.objs.size=D at e ⊢;have Dsz:(s1.heap.push (revObj l ((its.toArray.size:Int)-1))).objs.size<=D:=by rw[<-hD];exact zP3 _
 have nD:H1 D=none:=I2.hok.fresh Dsz;refine⟨.ref D,upd H1 D (.lst xs.reverse),?_,rfl,q D nD⟩;refine I2.turnLay (ch:=[it]) (fun b o hb e=>kp b o (by simpa using hb) e) (fun b hb=>by rw[zP7.mp hb];exact fI H1 nI) Dsz ⟨by rw[zU1];exact hz,acc.toList,c,?_,by simpa using e⟩;have key:∀{as:List V} {bs:List Value},as.length=bs.length->(∀(j:Nat) x,as[j]?=some x->∃u,bs[j]?=some u/\RelV x u)->Vals as bs:=by
  intro as
  induction as with
  |nil=>intro bs h1 _;cases bs with|nil=>exact .nil|cons _ _=>simp at h1
  |cons x as ih=>
   intro bs h1 h2;cases bs with
   |nil=>simp at h1
   |cons y bs=>
    obtain⟨u,z1,z2⟩:=h2 0 x rfl;simp at z1;subst z1;exact .cons z2 (ih (by simpa using h1) fun j x' hx=>by simpa using h2 (j+1) x' (by simpa using hx))
 have sa:acc.size=xs.length:=by rw[ic.1];simp;omega
 refine key (by rw[zU1];exact sa.symm) fun j x hx=>?_;have hj:j<xs.length:=by have:=(zP1.mp hx).1;rwa [zU1] at this
 rw[z46 hj] at hx;obtain⟨u,g1,g2⟩:=rv.get hx;have z:its.toArray[its.toArray.size-1-j]?=some (acc[j]'(by omega)):=ic.2 j (acc[j]'(by omega)) (by simp[show j<acc.size by omega]);refine⟨acc[j]'(by omega),by simp[show j<acc.size by omega],?_⟩;have e1:its.toArray.size-1-j=xs.length-1-j:=by simp;omega
 rw[e1] at z;have z':its[xs.length-1-j]?=some (acc[j]'(by omega)):=by simpa using z
 rw[g1] at z';rw[<-zR7 z'];exact g2
theorem AVs.reverse {H:Hp}:∀{xs:List V} {ds:List PyData},AVs H xs ds->AVs H xs.reverse ds.reverse
 |_,_,.nil=>.nil
 |_,_,.cons h r=>by rw[zX4,zX4];exact (AVs.reverse r).append (.cons h .nil)
theorem jh (hc:X.calm=true)(hgl:Gl X "list")(hml:X.mg "list"=none)(hg:Gl X "reversed")(hm:X.mg "reversed"=none)(h:EvD X α a fun x=>∃ds,x=.list ds/\Q ds.reverse)
  (hs0:starEach [.Call (.Name "reversed" p) [a] [] pos2] X.env=[(false,eval (.Call (.Name "reversed" p) [a] [] pos2) X.env)]:=by rfl) (hs:starEach [a] X.env=[(false,eval a X.env)]:=by rfl):
  EvL X α (.Call (.Name "list" p0) [.Call (.Name "reversed" p) [a] [] pos2] [] pos) Q:=fun F σ H R m k=>by
 refine⟨_,ki hc hgl hml hg hm (zg zl zu hs) hs0 hs,?_⟩;refine h F σ H _ m fun x vx H1 q1 t1 k1 r1=>?_;obtain⟨ds,rfl,q⟩:=q1;have m1:=m.kz k1 t1;obtain⟨l,xs,rfl,g1,g2⟩:=r1.lst_inv;refine⟨l,xs,rfl,SqL.of (zj g1).2,fun D hD=>?_⟩;obtain⟨w1,w2,w3⟩:=m1.lay hD g2.reverse;exact k _ _ _ q w1 (k1.trans w2) (w3.back m k1 t1)
theorem nV {body rest:List Stmt}{E:xJ}(hp:PassesOwn (model X.prog X.w) X.A X.env X.xe)(P:Nat->Ev->Prop)(n0:Nat)(h0:P n0 α)
  (hs:∀n α,P n α->EvT X α c fun b=>if b=true then SvS X α body {nx:=fun α'=>∃n',n'<n/\P n' α',ct:=fun α'=>∃n',n'<n/\P n' α',bk:=fun α'=>SvS X α' rest E,rt:=E.rt} else SvS X α rest E):
  SvS X α (.While c body [] pos::rest) E:=fun F σ H D m r=>by
 refine⟨_,zJ (nY hp xN ya) ya,?_⟩;refine⟨fun n σ' H'=>∃α',M F α' σ' H'/\P n α',⟨n0,α,m,h0⟩,?_⟩;rintro n σ' H' ⟨α',m',p'⟩;refine hs n α' p' F σ' H' _ m' fun b H1 q t1 k1=>?_;have m1:=m'.kz k1 t1;cases b with
 |true=>
  rw[if_pos rfl] at q ⊢;refine⟨fun σ'' H''=>∃n',n'<n/\∃α'',M F α'' σ'' H''/\P n' α'',fun σ'' H'' ⟨n',h1,h2⟩=>⟨n',h1,h2⟩,?_⟩;exact q F σ' H1 _ m1 ⟨fun α2 σ2 H2 m2 ⟨n',h1,h2⟩=>⟨n',h1,α2,m2,h2⟩,r.rt,fun α2 σ2 H2 m2 q2=>q2 F σ2 H2 D m2 r,fun α2 σ2 H2 m2 ⟨n',h1,h2⟩=>⟨n',h1,α2,m2,h2⟩⟩
 |false=>
  rw[if_neg (by decide)] at q ⊢;exact q F σ' H1 D m1 r
end
def mD (Q:PyData->Prop):List PyData->Prop
 |[]=>True
 |d::r=>Q d/\mD Q r
theorem mD.mem {Q:PyData->Prop}:∀{ds:List PyData},mD Q ds->∀d∈ds,Q d
 |[],_,d,h=>by cases h
 |x::r,h,d,hd=>by
  rcases zP2.mp hd with rfl|hd
  ·exact h.1
  ·exact mD.mem h.2 d hd
theorem zo1 {x:PyData}{ds:List PyData}{v:Int}{Q:PyData->Prop}(hx:wR x=some ds)(h0:0<=v)(h1:v<ds.length)(h:mD Q ds):∃ds i d,wR x=some ds/\PyData.int v=.int i/\atI ds i=some d/\Q d:=by
 obtain⟨d,hd,e⟩:=mG h0 h1;exact⟨ds,v,d,hx,rfl,e,h.mem d hd⟩
theorem bw {x:PyData}{ds:List PyData}{v:Int}{Q:PyData->Prop}(P:PyData->Prop)(hx:wR x=some ds)(h0:0<=v)(h1:v<ds.length)(h:mD P ds)(k:∀d,P d->Q d):∃ds i d,wR x=some ds/\PyData.int v=.int i/\atI ds i=some d/\Q d:=by
 obtain⟨d,hd,e⟩:=mG h0 h1;exact⟨ds,v,d,hx,rfl,e,k d (h.mem d hd)⟩
theorem vk {k:Bool}{p q:Prop}(h1:k=true->p)(h2:k=false->q):if k=true then p else q:=by
 cases k with
 |true=>exact h1 rfl
 |false=>exact h2 rfl
theorem uY {i j:Int}:PyData.eqv (.int i) (.int j)=decide (i=j):=by
 show (i == j)=_;by_cases h:i=j<;>simp[h]
section
variable {X:Cx}{α:Ev}{e a b:Expr}{pos p:Pos}{E:xJ}{rest:List Stmt}
def EvR (X:Cx)(α:Ev)(e:Expr)(Q:PyData->Prop):Prop:=∀(F:Fr) (σ:St) (H:Hp) (R:VK),M F α σ H->(∀d v H',Q d->zN F H'->Kz F H H'->AV (sub (fun x=>¬F.O0 x/\∀xs,F.H0 x≠some (.lst xs)) H') v d->R v H')->uK X e σ H R
theorem lQ {Q:PyData->Prop}(h:EvD X α e fun d=>noL d=true/\Q d):EvR X α e Q:=fun F σ H R m k=>h F σ H R m fun d v H' q t kz r=>k d v H' q.2 t kz (r.noL (fun x o ho z=>by
 obtain⟨z1,z2⟩:=zj z;refine zE ⟨ow0 z1,fun xs w=>?_⟩ z2;have:=kz _ _ (m.keep _ _ w (m.tp.nt (ow0 z1))) (m.tp.nt (ow0 z1));rw[z2] at this;cases this;exact ho trivial) q.1)
theorem oV {Q:PyData->Prop}(h:EvL X α e fun ds=>vW ds=true/\Q (.list ds)):EvR X α e Q:=fun F σ H R m k=>h F σ H R m fun ds v H' q t kz r=>by
 obtain⟨l,xs,rfl,h2,h3,h4⟩:=r;refine k _ _ H' q.2 t kz (.lst (zE ⟨ow0 (m.fresh h2),fun xs w=>by rw[m.fresh0 h2] at w;cases w⟩ h3) (h4.noL (fun x o ho z=>?_) q.1));obtain⟨z1,z2⟩:=zj z;refine zE ⟨ow0 z1.1,fun xs w=>?_⟩ z2;have:=kz _ _ (m.keep _ _ w (m.tp.nt (ow0 z1.1))) (m.tp.nt (ow0 z1.1));rw[z2] at this;cases this;exact ho trivial
def zo2 (X:Cx)(α:Ev)(es:List Expr)(Q:List PyData->Prop):Prop:=∀(F:Fr) (σ:St) (H:Hp) (R:List V->Hp->Prop),M F α σ H->(∀ds vs H',Q ds->zN F H'->Kz F H H'->AVs (sub (fun x=>¬F.O0 x/\∀xs,F.H0 x≠some (.lst xs)) H') vs ds->R vs H')->zC7 X es σ H R
theorem iR {Q:List PyData->Prop}(q:Q []):zo2 X α [] Q:=fun F σ H R m k=>⟨_,zu,k _ _ H q m.tp Kz.refl .nil⟩
theorem wH {es:List Expr}{Q:List PyData->Prop}(h:EvR X α e fun d=>zo2 X α es fun ds=>Q (d::ds))(hs:starEach (e::es) X.env=(false,eval e X.env)::starEach es X.env:=by rfl):zo2 X α (e::es) Q:=fun F σ H R m k=>by
 refine⟨_,zg zl yN hs,?_⟩;refine h F σ H _ m fun d v H1 q1 t1 k1 r1=>?_;have m1:=m.kz k1 t1;exact q1 F σ H1 _ m1 fun as vs H2 q2 t2 k2 r2=>k _ _ H2 q2 t2 (k1.trans k2) (.cons (r1.same (zw fun x o z w=>⟨z,k2 _ _ w (m.tp.nt z.1)⟩)) r2)
theorem cu {n:Nat}{es:List Expr}{Q:PyData->Prop}(h:zo2 X α es fun ds=>ds.length<=1000/\Q (.tuple ds)):EvR X α (.Tuple es n pos) Q:=fun F σ H R m k=>by
 refine⟨_,oK yN,?_⟩;refine h F σ H _ m fun ds vs H1 q1 t1 k1 r1=>?_;have m1:=m.kz k1 t1;refine⟨by rw[r1.length];exact zW0 (yK q1.1),fun p hp=>?_⟩;exact k _ _ _ q1.2 (t1.same (yj hp)) (k1.trans (Kz.of_same (yj hp))) (.tup (zE ⟨ow0 (m1.fresh hp),fun xs w=>by rw[m1.fresh0 hp] at w;cases w⟩ zk) (r1.same (zw fun x o z w=>⟨z,by rw[zh (zm w hp)];exact w⟩)))
theorem iz (h:EvR X α e fun d=>∀S,E.rt (.deep d S)):SvS X α (.Return (some e) pos::rest) E:=fun F σ H D m r=>by
 refine⟨_,zJ (zB zl) ya,?_⟩;refine h F σ H _ m fun d v H1 q1 t1 k1 r1=>?_;have m1:=m.kz k1 t1;refine r.rt (.deep d fun y=>¬F.O0 y/\F.H0 y=none/\∃xs,H1 y=some (.lst xs)) _ _ ⟨t1,m.keep.trans k1,?_,?_⟩ (q1 _)
 ·refine r1.same fun y o z=>?_;obtain⟨z1,z2⟩:=zj z;unfold mw;by_cases w:¬F.O0 y/\F.H0 y=none/\∃xs,H1 y=some (.lst xs)
  ·rw[if_pos w];exact z2
  ·rw[if_neg w,zE (p:=fun x=>¬F.O0 x) z1.1 z2];cases o with
   |lst xs=>
    exfalso
    cases q:F.H0 y with
    |none=>exact w ⟨z1.1,q,xs,z2⟩
    |some o'=>
     have:=m1.keep y o' q (m.tp.nt z1.1);rw[z2] at this;cases this;exact z1.2 xs q
   |_=>rfl
 ·exact fun x z=>z
end
def zG6 :R2:=fun x y H R=>rEq x y H R\/zJ2 x y H R
def zD8 :R2:=fun x y H R=>rNe x y H R\/zJ8 x y H R
theorem zd9 {X:Cx}(hu:X.A.units+64<cLine):OpR X (compareOp .Eq) zG6:=fun pins s σ H x y v u Q I rx ry h=>h.elim (fun h=>vo _ _ _ _ _ _ _ _ _ I rx ry h) fun h=>vI hu _ _ _ _ _ _ _ _ _ I rx ry h
theorem zC6 {X:Cx}(hu:X.A.units+64<cLine):OpR X (compareOp .NotEq) zD8:=fun pins s σ H x y v u Q I rx ry h=>h.elim (fun h=>zI3 _ _ _ _ _ _ _ _ _ I rx ry h) fun h=>zC8 hu _ _ _ _ _ _ _ _ _ I rx ry h
theorem zj8 {i j:Str}:Cmp rNe (.str i) (.str j) (!decide (i=j)):=fun p H vx vy R rx ry h=>by
 cases rx.str_inv;cases ry.str_inv;refine⟨rfl,?_⟩;rw[show decide (V.str i=V.str j)=decide (i=j) by simp];exact h
def jA (x y:PyData)(Q:Bool->Prop):Prop:=∃k,Cmp zG6 x y k/\Cmp zD8 x y (!k)/\Q k
theorem zn7 {i j:Int}{Q:Bool->Prop}(h:Q (decide (i=j))):jA (.int i) (.int j) Q:=⟨_,fun p H vx vy R rx ry z=>.inl (iV p H vx vy R rx ry z),fun p H vx vy R rx ry z=>.inl (zn8 p H vx vy R rx ry z),h⟩
theorem zo0 {i j:Str}{Q:Bool->Prop}(h:Q (decide (i=j))):jA (.str i) (.str j) Q:=⟨_,fun p H vx vy R rx ry z=>.inl (iN p H vx vy R rx ry z),fun p H vx vy R rx ry z=>.inl (zj8 p H vx vy R rx ry z),h⟩
theorem eqk {x y:PyData}{Q:Bool->Prop}(s1:SeqAt.shaped x=true)(s2:SeqAt.shaped y=true)(d1:x.hasDict=false)(d2:y.hasDict=false)(h:Q (PyData.eqv x y)):jA x y Q:=
 ⟨_,fun p H vx vy R rx ry z=>.inr ⟨x,y,(rx.dv d1).same xD,(ry.dv d2).same xD,s1,s2,z⟩,fun p H vx vy R rx ry z=>.inr ⟨x,y,(rx.dv d1).same xD,(ry.dv d2).same xD,s1,s2,z⟩,h⟩
section
variable {X:Cx}{α:Ev}{a b:Expr}{pos:Pos}{Q:PyData->Prop}{T:Bool->Prop}
theorem zw3 (hu:X.A.units+64<cLine)(h:EvD X α a fun x=>EvD X α b fun y=>jA x y fun k=>Q (.bool k)):EvD X α (.Compare a [.Eq] [b] pos) Q:=zD2 (zd9 hu) (zG _) (h.imp fun x h=>h.imp fun y ⟨k,e,_,q⟩=>⟨k,e,q⟩)
theorem zx0 (hu:X.A.units+64<cLine)(h:EvD X α a fun x=>EvD X α b fun y=>jA x y T):EvT X α (.Compare a [.Eq] [b] pos) T:=wY (zd9 hu) (zG _) (h.imp fun x h=>h.imp fun y ⟨k,e,_,q⟩=>⟨k,e,q⟩)
theorem zy6 (hu:X.A.units+64<cLine)(h:EvD X α a fun x=>EvD X α b fun y=>jA x y fun k=>T (!k)):EvT X α (.Compare a [.NotEq] [b] pos) T:=wY (zC6 hu) (zG _) (h.imp fun x h=>h.imp fun y ⟨k,_,e,q⟩=>⟨!k,e,q⟩)
theorem ck {k:Bool}{p q:Prop}(e:k=true)(h:p):if k=true then p else q:=by rw[if_pos e];exact h
theorem hV {k:Bool}{p q:Prop}(e:k=false)(h:q):if k=true then p else q:=by rw[if_neg (by rw[e];decide)];exact h
variable {E:xJ}{s t:List Stmt}
theorem oP {k:Bool}(e:k=true)(h:SvS X α s E):SvS X α (if k=true then s else t) E:=by rw[if_pos e];exact h
theorem vT {k:Bool}(e:k=false)(h:SvS X α t E):SvS X α (if k=true then s else t) E:=by rw[if_neg (by rw[e];decide)];exact h
end
section
variable {X:Cx}{α:Ev}{a b:Expr}{pos:Pos}{Q:PyData->Prop}{T:Bool->Prop}
def zF1 :R2:=fun x y H Q=>∃a v,x=.ref a/\kb H a y (some v)/\Q v H
theorem zl9 (hu:X.A.units+1<cLine):IxR X zF1:=fun value slice pins s σ H x y v u Q I rx ry h hs=>by
 obtain⟨a,z,rfl,g,q⟩:=h;cases rx;exact tail_any (lG I g) PySem.F.slot_dict_getitem.lookup (gj hu I g ry fun w' s' I' r'=>⟨z,H,I',r',q⟩) hs
def eY (x y:PyData)(Q:PyData->Prop):Prop:=(∃ds i d,wR x=some ds/\y=.int i/\atI ds i=some d/\Q d)\/∃ds k d,x=xm ds/\y=ve k/\uD ds k=some d/\Q d
theorem ixk {x y:PyData}{ds:List PyData}{i:Int}{d:PyData}(h1:wR x=some ds)(h2:y=.int i)(h3:atI ds i=some d)(h:Q d):eY x y Q:=.inl ⟨ds,i,d,h1,h2,h3,h⟩
theorem uX {ds:List (PyData×PyData)}{k:Key}{d y:PyData}(h2:y=ve k)(h3:uD ds k=some d)(h:Q d):eY (xm ds) y Q:=.inr ⟨ds,k,d,rfl,h2,h3,h⟩
theorem oJ {x:PyData}{ds:List PyData}{v:Int}(hx:wR x=some ds)(h0:0<=v)(h1:v<ds.length)(h:mD Q ds):eY x (.int v) Q:=.inl (zo1 hx h0 h1 h)
theorem tV {x:PyData}{ds:List PyData}{v:Int}(P:PyData->Prop)(hx:wR x=some ds)(h0:0<=v)(h1:v<ds.length)(h:mD P ds)(k:∀d,P d->Q d):eY x (.int v) Q:=.inl (bw P hx h0 h1 h k)
theorem ug (hu:X.A.units+1<cLine)(hs:sY b)(h:EvD X α a fun x=>EvD X α b fun y=>eY x y Q):EvD X α (.Subscript a b pos) Q:=by
 refine tO (f:=tOp (fun x y H Q=>rIx X.K x y H Q\/zF1 x y H Q)) (zS (zw2.or (zl9 hu)) zl zl hs) (fun _ _ _=>Iff.rfl) (h.imp fun x h=>h.imp fun y h=>?_);intro F σ H vx vy R m rx ry k;rcases h with ⟨ds,i,d,e1,rfl,hat,hq⟩|⟨ds,kk,d,rfl,rfl,hv,hq⟩
 ·cases ry.int_inv;cases x with
  |list ds'=>
   cases e1;obtain⟨a,xs,rfl,h1,h2⟩:=rx.lst_inv;obtain⟨v,hv,av⟩:=h2.atI hat;exact .inl (.inl ⟨a,xs,i,v,rfl,rfl,SqL.of (zj h1).2,hv,k d v H hq m.tp Kz.refl av⟩)
  |tuple ds'=>
   cases e1;obtain⟨a,xs,rfl,h1,h2⟩:=rx.tup_inv;obtain⟨v,hv,av⟩:=h2.atI hat;exact .inl (.inr (.inl ⟨a,xs,i,v,rfl,rfl,SqT.of (zj h1).2,hv,k d v H hq m.tp Kz.refl av⟩))
  |_=>cases e1
 ·obtain⟨a,o,kvs,rfl,g1,g2⟩:=rx.dk_inv;obtain⟨v,w1,w2⟩:=g2.get hv;cases sR ry;exact .inr ⟨a,v,rfl,.inl ⟨kvs,kk,.inr ⟨o,(zj g1).2⟩,rfl,w1.symm⟩,k d v H hq m.tp Kz.refl w2⟩
def zh9 (K:PySem.W.Frag)(neg:Bool):R2:=fun x y H Q=>rIn K neg x y H Q\/∃a o,y=.ref a/\kb H a x o/\Q (.bl (if neg then !o.isSome else o.isSome)) H
theorem zt5 (hu:X.A.units+1<cLine):OpR X (compareOp .In) (zh9 X.K false):=fun pins s σ H x y v u Q I rx ry h=>by
 rcases h with h|⟨a,o,rfl,g,q⟩
 ·exact eJ pins s σ H x y v u Q I rx ry h
 ·cases ry;exact zM6 hu I g rx fun s' I'=>⟨.bl o.isSome,H,I',rfl,q⟩
theorem fB (hu:X.A.units+1<cLine):OpR X (compareOp .NotIn) (zh9 X.K true):=fun pins s σ H x y v u Q I rx ry h=>by
 rcases h with h|⟨a,o,rfl,g,q⟩
 ·exact oG pins s σ H x y v u Q I rx ry h
 ·cases ry;exact zh8 hu I g rx fun s' I'=>⟨.bl (!o.isSome),H,I',rfl,q⟩
def zn1 (X:Cx)(x y:PyData)(Q:Bool->Prop):Prop:=∃k,Cmp (zh9 X.K false) x y k/\Cmp (zh9 X.K true) x y (!k)/\Q k
theorem nH {x:PyData}{ds:List (PyData×PyData)}{k:Key}(e:x=ve k)(q:T (uD ds k).isSome):zn1 X x (xm ds) T:=by
 subst e;have key:∀(p:Addr->Prop) (H:Hp) (vx vy:V),AV (sub p H) vx (ve k)->AV (sub p H) vy (xm ds)->∃a o,vy=.ref a/\kb H a vx o/\o.isSome=(uD ds k).isSome:=fun p H vx vy rx ry=>by
  obtain⟨a,o,kvs,rfl,g1,g2⟩:=ry.dk_inv;cases sR rx;exact⟨a,_,rfl,.inl ⟨kvs,k,.inr ⟨o,(zj g1).2⟩,rfl,rfl⟩,g2.some_iff k⟩
 refine⟨_,fun p H vx vy R rx ry h=>?_,fun p H vx vy R rx ry h=>?_,q⟩
 ·obtain⟨a,o,e1,e2,e3⟩:=key p H vx vy rx ry;exact .inr ⟨a,o,e1,e2,by rw[if_neg (by decide),e3];exact h⟩
 ·obtain⟨a,o,e1,e2,e3⟩:=key p H vx vy rx ry;exact .inr ⟨a,o,e1,e2,by rw[if_pos rfl,e3];exact h⟩
theorem zB9 (hu:X.A.units+1<cLine)(h:EvD X α a fun x=>EvD X α b fun y=>zn1 X x y T)(hm:behindInMarks .In b=false:=by rfl):EvT X α (.Compare a [.In] [b] pos) T:=
 wY (zt5 hu) hm (h.imp fun x h=>h.imp fun y ⟨k,e,_,q⟩=>⟨k,e,q⟩)
theorem zq6 (hu:X.A.units+1<cLine)(h:EvD X α a fun x=>EvD X α b fun y=>zn1 X x y fun k=>T (!k))(hm:behindInMarks .NotIn b=false:=by rfl):EvT X α (.Compare a [.NotIn] [b] pos) T:=
 wY (fB hu) hm (h.imp fun x h=>h.imp fun y ⟨k,_,e,q⟩=>⟨!k,e,q⟩)
end
theorem zV.few {k:Nat}{A:Around}(h:zV k A):A.units+70<cLine:=by have:=h.un;omega
theorem zV.one {k:Nat}{A:Around}(h:zV k A):A.units+1<cLine:=by have:=h.units;omega
section
variable {X:Cx}{α:Ev}{E:xJ}{rest body:List Stmt}{e c tg iter:Expr}{pos p:Pos}
theorem wu (pat:Pat)(h:EvI X α tg iter fun ds=>sx X pat body rest E ds α)(hN:X.N.Nodup:=by assumption)(hp:PassesOwn (model X.prog X.w) X.A X.env X.xe:=by exact zV3)(hc:X.calm=true:=by rfl)
  (hg:PG X tg (oY X.K pat):=by first|exact zK (by assumption) rfl (Or.inl rfl)|exact zK (by assumption) rfl (Or.inr rfl)|exact wJ rfl rfl (by repeat (first|exact vR|refine yM (by first|exact zK (by assumption) rfl (Or.inl rfl)|exact zK (by assumption) rfl (Or.inr rfl)) ?_)))
  (hs:∀x,foldedSetIterable iter X.env x=pure x:=by intro _;rfl):SvS X α (.For tg iter body [] pos::rest) E:=vF hp hc hg h hs
def freeOk (xs:Scope)(y:Str×NameKind):Bool:=match y.2 with
 |.free=>match xs.names.lookup y.1 with
  |some .cell=>true
  |some .free=>true
  |_=>false
 |_=>true
theorem mS {xs scope:Scope}(h:scope.names.all (freeOk xs)=true):∀y∈scope.names,y.2=.free->xs.names.lookup y.1=some .cell\/xs.names.lookup y.1=some .free:=fun y hy e=>by
 have:=z05.mp h y hy;unfold freeOk at this;rw[e] at this;cases z:xs.names.lookup y.1 with
 |none=>rw[z] at this;cases this
 |some k=>
  rw[z] at this;cases k<;>first|exact .inl rfl|exact .inr rfl|cases this
theorem qF (N:List Str)(imp:List (Option Nat))(pat:Pat){scope:Scope}{elt:Expr}{ifs:List Expr}{Q:List PyData->Prop}(h:EvI X α tg iter fun ds=>ds.length<=1000/\xK (fun C s2 H2 fp=>X.comp N scope C s2 H2 fp) pat ifs elt (xg imp α) ds [] Q)
  (nd:N.Nodup:=by decide +kernel) (h1:scope.kind=.function:=by rfl) (h2:∀y∈scope.names,y.2≠.cell:=by decide +kernel) (h3:∀y∈scope.names,y.2=.local->scope.names.lookup y.1=some .local:=by decide +kernel) (h4:scope.names.all (freeOk X.env.scope)=true:=by rfl) (h5:imp.length=N.length:=by rfl)
  (h6:((imp.zip N).all fun p=>match p.1 with|none=>true|some j=>X.N[j]? == some p.2&&scope.names.lookup p.2 == some .free)=true:=by rfl) (hfree:pat.free (xg imp α)=true:=by rfl)
  (hg:∀C s2 H2 fp,N.Nodup->PG (X.comp N scope C s2 H2 fp) tg (oY X.K pat):=by intro _ _ _ _ hnd;first|exact zK hnd rfl (Or.inl rfl)|exact wJ rfl rfl (by repeat (first|exact vR|refine yM (zK hnd rfl (Or.inl rfl)) ?_)))
  (hc:X.calm=true:=by rfl) (hs:∀x,foldedSetIterable iter X.env x=pure x:=by intro _;rfl):EvL X α (.ListComp elt [⟨tg,iter,ifs,0⟩] scope pos) Q:=zr6 hc ⟨h1,nd,h2,h3,mS h4,h5,h6⟩ hfree (fun C s2 H2 fp=>hg C s2 H2 fp nd) h hs
theorem aa (i:Nat)(N:List Str)(imp:List (Option Nat))(pat:Pat){x:Str}{pos' cpos:Pos}{scope:Scope}{elt:Expr}{ifs:List Expr}(h:EvI X α tg iter fun ds=>ds.length<=1000/\xK (fun C s2 H2 fp=>X.comp N scope C s2 H2 fp) pat ifs elt (xg imp α) ds [] fun ds=>SvS X (α.set i (some (.own ds))) rest E)
  (hN:X.N.Nodup:=by assumption)
  (nd:N.Nodup:=by decide +kernel) (h1:scope.kind=.function:=by rfl) (h2:∀y∈scope.names,y.2≠.cell:=by decide +kernel) (h3:∀y∈scope.names,y.2=.local->scope.names.lookup y.1=some .local:=by decide +kernel) (h4:scope.names.all (freeOk X.env.scope)=true:=by rfl) (h5:imp.length=N.length:=by rfl)
  (h6:((imp.zip N).all fun p=>match p.1 with|none=>true|some j=>X.N[j]? == some p.2&&scope.names.lookup p.2 == some .free)=true:=by rfl) (hfree:pat.free (xg imp α)=true:=by rfl)
  (hg:∀C s2 H2 fp,N.Nodup->PG (X.comp N scope C s2 H2 fp) tg (oY X.K pat):=by intro _ _ _ _ hnd;first|exact zK hnd rfl (Or.inl rfl)|exact wJ rfl rfl (by repeat (first|exact vR|refine yM (zK hnd rfl (Or.inl rfl)) ?_)))
  (hc:X.calm=true:=by rfl)
  (hi:X.N[i]?=some x:=by rfl) (hx:Loc X.env.scope x:=by first|exact Or.inl rfl|exact Or.inr rfl) (hsw:swapsWith (.ListComp elt [⟨tg,iter,ifs,0⟩] scope cpos) (some (.Name x pos')) pos.line X.env=pure true:=by rfl)
  (hf:X.fn x=true\/X.env.scope.names.lookup x=some .local:=by first|exact .inl rfl|exact .inr rfl|assumption) (hs:∀x,foldedSetIterable iter X.env x=pure x:=by intro _;rfl):
  SvS X α (.Assign [.Name x pos'] (.ListComp elt [⟨tg,iter,ifs,0⟩] scope cpos) pos::rest) E:=zc2 i hN hc ⟨h1,nd,h2,h3,mS h4,h5,h6⟩ hfree (fun C s2 H2 fp=>hg C s2 H2 fp nd) h hi hx hsw hf hs
end
section
variable {Y:Addr->Shared->Hp->List Addr->Cx}{pat:Pat}{ifs:List Expr}{elt:Expr}{α0:Ev}{ι:Type}{g f:ι->PyData}{l:List ι}{acc:List PyData}{Q:List PyData->Prop}
theorem lE (p:ι->Bool)(f:ι->PyData)(hs:∀x∈l,∃α1,pat.bind (g x) α0=some α1/\(∀C s2 H2 fp (Q:Bool->Prop),Q (p x)->zd6 (Y C s2 H2 fp) α1 ifs Q)/\(p x=true->∀C s2 H2 fp (Q:PyData->Prop),Q (f x)->EvD (Y C s2 H2 fp) α1 elt Q))
  (hd:Q (acc++(l.filter p).map f)):xK Y pat ifs elt α0 (l.map g) acc Q:=by
 induction l generalizing acc with
 |nil=>
  show Q acc;simpa using hd
 |cons d ds ih=>
  obtain⟨α1,e,h1,h2⟩:=hs d zQ1;refine⟨α1,e,fun C s2 H2 fp=>h1 C s2 H2 fp _ ?_⟩;have ih':=fun acc=>ih (acc:=acc) fun d hd=>hs d (zP5 _ hd);cases hp:p d with
  |true=>
   rw[if_pos rfl];refine fun C s2 H2 fp=>h2 hp C s2 H2 fp _ (ih' _ ?_);simpa[z07,hp] using hd
  |false=>
   rw[if_neg (by decide)];refine ih' _ ?_;simpa[z07,hp] using hd
theorem xR (f:ι->PyData)(hs:∀x∈l,∃α1,pat.bind (g x) α0=some α1/\∀C s2 H2 fp (Q:PyData->Prop),Q (f x)->EvD (Y C s2 H2 fp) α1 elt Q)(hd:Q (acc++l.map f)):xK Y pat [] elt α0 (l.map g) acc Q:=
 lE (fun _=>true) f (fun x hx=>by
  obtain⟨α1,h1,h2⟩:=hs x hx;exact⟨α1,h1,fun _ _ _ _ _ k=>cQ k,fun _=>h2⟩) (by rw[List.filter_eq_self.mpr fun _ _=>rfl];exact hd)
end
abbrev Part :=Int×Int×Nat
abbrev Way :=Int×Int×Option Part
abbrev Co :=Nat->Int->Int->Option Int
inductive Cut (co:Co)(N:Nat):Int->Int->Int->List Part->Prop
 |nil (a:Int):Cut co N a a 0 []
 |cons {a e b x y:Int} {n:Nat} {ps:List Part} (h1:a<e) (h2:n<N) (h3:co n a e=some x) (h:Cut co N e b y ps):Cut co N a b (x+y) ((a,e,n)::ps)
section
variable {co:Co}{N:Nat}
theorem Cut.le {a b z:Int}{ps:List Part}(h:Cut co N a b z ps):a<=b:=by
 induction h with
 |nil a=>exact zV4 _
 |cons h1 _ _ _ ih=>omega
theorem Cut.app {a b e z y:Int}{ps qs:List Part}(h:Cut co N a b z ps)(h':Cut co N b e y qs):Cut co N a e (z+y) (ps++qs):=by
 induction h with
 |nil a=>rw[Int.zero_add];exact h'
 |cons h1 h2 h3 _ ih=>rw[Int.add_assoc,zZ5];exact .cons h1 h2 h3 (ih h')
theorem Cut.snoc {a b e z x:Int}{n:Nat}{ps:List Part}(h:Cut co N a b z ps)(h1:b<e)(h2:n<N)(h3:co n b e=some x):Cut co N a e (z+x) (ps++[(b,e,n)]):=by
 have:=h.app (.cons h1 h2 h3 (.nil e))
 rwa [Int.add_zero] at this
theorem Cut.last {a b z:Int}{ps:List Part}(h:Cut co N a b z ps):(ps=[]/\a=b/\z=0)\/∃qs d y x n,ps=qs++[(d,b,n)]/\Cut co N a d y qs/\d<b/\n<N/\co n d b=some x/\z=y+x:=by
 induction h with
 |nil a=>exact .inl ⟨rfl,rfl,rfl⟩
 |@cons a e b x y n ps h1 h2 h3 h ih=>
  right;rcases ih with ⟨rfl,rfl,rfl⟩|⟨qs,d,y',x',m,rfl,c,hd,hm,hx,rfl⟩
  ·exact⟨[],a,0,x,n,rfl,.nil a,h1,h2,h3,by omega⟩
  ·exact⟨(a,e,n)::qs,d,x+y',x',m,rfl,.cons h1 h2 h3 c,hd,hm,hx,by omega⟩
theorem Cut.len {a b z:Int}{ps:List Part}(h:Cut co N a b z ps):(ps.length:Int)<=b-a:=by
 induction h with
 |nil a=>simp
 |cons h1 _ _ _ ih=>rw[zQ4];omega
def zn9 (co:Co)(N:Nat)(a b z:Int):Prop:=(∃ps,Cut co N a b z ps)/\∀y ps,Cut co N a b y ps->z<=y
def ltQ (x y:Part):Bool:=decide (x.1<y.1)||(decide (x.1=y.1)&&(decide (x.2.1<y.2.1)||(decide (x.2.1=y.2.1)&&decide (x.2.2<y.2.2))))
def ltP (x y:Int×Part):Bool:=decide (x.1<y.1)||(decide (x.1=y.1)&&ltQ x.2 y.2)
def jm :List (Int×Part)->Int×Part
 |[]=>(0,0,0,0)
 |d::ds=>ds.foldl (fun b x=>if ltP x b=true then x else b) d
theorem zJ9 {x y:Int×Part}(h:ltP x y=true):x.1<=y.1:=by
 unfold ltP at h;simp only[zX0,zR3,zS1] at h;omega
theorem zJ1 {x y:Int×Part}(h:¬ltP x y=true):y.1<=x.1:=by
 unfold ltP at h;simp only[zX0,zR3,zS1,not_or] at h;omega
theorem iK :∀(ds:List (Int×Part)) (d:Int×Part),(ds.foldl (fun b x=>if ltP x b=true then x else b) d=d\/ds.foldl (fun b x=>if ltP x b=true then x else b) d∈ds)/\(ds.foldl (fun b x=>if ltP x b=true then x else b) d).1<=d.1/\∀x∈ds,(ds.foldl (fun b x=>if ltP x b=true then x else b) d).1<=x.1
 |[],d=>⟨.inl rfl,zV4 _,fun x hx=>by simp at hx⟩
 |y::ds,d=>by
  rw[z28];obtain⟨h1,h2,h3⟩:=iK ds (if ltP y d=true then y else d);by_cases h:ltP y d=true
  ·rw[if_pos h] at h1 h2 h3 ⊢;have:=zJ9 h;refine⟨.inr ?_,by omega,fun x hx=>?_⟩
   ·rcases h1 with e|e
    ·rw[e];exact zQ1
    ·exact zP5 _ e
   ·rcases zP2.mp hx with rfl|hx
    ·exact h2
    ·exact h3 x hx
  ·rw[if_neg h] at h1 h2 h3 ⊢;have:=zJ1 h;refine⟨h1.imp id fun e=>zP5 _ e,h2,fun x hx=>?_⟩;rcases zP2.mp hx with rfl|hx
   ·omega
   ·exact h3 x hx
theorem cc {ds:List (Int×Part)}(h:ds≠[]):jm ds∈ds:=by
 cases ds with
 |nil=>exact absurd rfl h
 |cons d ds=>
  rcases (iK ds d).1 with e|e
  ·show List.foldl _ d ds∈_;rw[e];exact zQ1
  ·exact zP5 _ e
theorem zh2 {ds:List (Int×Part)}{x:Int×Part}(h:x∈ds):(jm ds).1<=x.1:=by
 cases ds with
 |nil=>simp at h
 |cons d ds=>
  rcases zP2.mp h with rfl|h
  ·exact (iK ds x).2.1
  ·exact (iK ds d).2.2 x h
def dP (co:Co)(N:Nat)(day:Int)(w:Way):List (Int×Part):=(List.range N).filterMap fun n=>(co n w.1 day).map fun x=>(w.2.1+x,(w.1,day,n))
def tH (co:Co)(N:Nat)(W:List Way)(day:Int):List (Int×Part):=W.flatMap (dP co N day)
theorem oE {W:List Way}{day:Int}{p:Int×Part}:p∈tH co N W day↔∃w∈W,∃n x,n<N/\co n w.1 day=some x/\p=(w.2.1+x,(w.1,day,n)):=by
 unfold tH dP;simp only[List.mem_flatMap,z64,z01,zQ9]
 constructor
 ·rintro⟨w,hw,n,hn,x,hx,rfl⟩;exact⟨w,hw,n,x,hn,hx,rfl⟩
 ·rintro⟨w,hw,n,x,hn,hx,rfl⟩;exact⟨w,hw,n,hn,x,hx,rfl⟩
def ma (co:Co)(N:Nat)(W:List Way)(day:Int):List Way:=if tH co N W day=[] then W else W++[(day,(jm (tH co N W day)).1,some (jm (tH co N W day)).2)]
def yn (co:Co)(N:Nat)(c:Int):Nat->List Way
 |0=>[(c,0,none)]
 |k+1=>ma co N (yn co N c k) (c+1+k)
def yq (W:List Way)(d:Int):Option (Int×Option Part):=(W.find? fun w=>decide (w.1=d)).map (·.2)
structure wZ (co:Co)(N:Nat)(c:Int)(k:Nat)(W:List Way):Prop where
 first:∃r,W=(c,0,none)::r/\∀w∈r,c<w.1
 top:∀w∈W,w.1<=c+k
 sort:(W.map (·.1)).Pairwise (·<·)
 step:∀w∈W,w=(c,0,none)\/∃u∈W,∃n y,u.1<w.1/\n<N/\co n u.1 w.1=some y/\w=(w.1,u.2.1+y,some (u.1,w.1,n))
 shut:∀u∈W,∀d n y,u.1<d->d<=c+k->n<N->co n u.1 d=some y->∃w∈W,w.1=d/\w.2.1<=u.2.1+y
theorem wZ.low {c:Int}{k:Nat}{W:List Way}(h:wZ co N c k W):∀w∈W,c<=w.1:=fun w hw=>by
 obtain⟨r,rfl,hr⟩:=h.first;rcases zP2.mp hw with rfl|hw
 ·exact zV4 _
 ·have:=hr w hw;omega
theorem zo3 (c:Int):∀k,wZ co N c k (yn co N c k)
 |0=>by
  refine⟨⟨[],rfl,fun w hw=>by simp at hw⟩,fun w hw=>?_,by simp[yn],fun w hw=>?_,fun u hu d n y h1 h2 _ _=>?_⟩
  ·rw[zP7.mp hw];simp
  ·exact .inl (zP7.mp hw)
  ·rw[zP7.mp hu] at h1;simp only[Int.natCast_zero,Int.add_zero] at h2;have h1':c<d:=h1;omega
 |k+1=>by
  have ih:=zo3 c k;unfold yn ma;generalize yn co N c k=W at ih;obtain⟨r,hr,hr1⟩:=ih.first;by_cases e:tH co N W (c+1+k)=[]
  ·rw[if_pos e];refine⟨ih.first,fun w hw=>by have:=ih.top w hw;omega,ih.sort,ih.step,fun u hu d n y h1 h2 h3 h4=>?_⟩;by_cases hd:d<=c+k
   ·exact ih.shut u hu d n y h1 hd h3 h4
   ·have:d=c+1+k:=by omega
    subst this;have:=oE.mpr ⟨u,hu,n,y,h3,h4,rfl⟩;rw[e] at this;simp at this
  ·rw[if_neg e];have hm:=cc e;obtain⟨u0,hu0,n0,y0,hn0,hy0,em⟩:=oE.mp hm;refine⟨?_,fun w hw=>?_,?_,fun w hw=>?_,fun u hu d n y h1 h2 h3 h4=>?_⟩
   ·rw[hr];refine⟨r++[_],rfl,fun w hw=>?_⟩;rcases zT1.mp hw with hw|hw
    ·exact hr1 w hw
    ·rw[zP7.mp hw];show c<c+1+k;omega
   ·rcases zT1.mp hw with hw|hw
    ·have:=ih.top w hw;omega
    ·rw[zP7.mp hw];show c+1+k<=c+((k+1:Nat):Int);omega
   ·rw[zT4,List.pairwise_append];refine⟨ih.sort,by simp,fun a ha b hb=>?_⟩;obtain⟨w,hw,rfl⟩:=zT0.mp ha;have:=ih.top w hw;rw[zR4,z31,zP7] at hb;have hb:b=c+1+k:=hb;omega
   ·rcases zT1.mp hw with hw|hw
    ·rcases ih.step w hw with h|⟨u,hu,n,y,h⟩
     ·exact .inl h
     ·exact .inr ⟨u,zY9 _ hu,n,y,h⟩
    ·rw[zP7.mp hw];refine .inr ⟨u0,zY9 _ hu0,n0,y0,?_,hn0,hy0,?_⟩
     ·have:=ih.top u0 hu0;show u0.1<c+1+k;omega
     ·rw[em]
   ·have key:∀u∈W,u.1<d->∃w∈W++[(c+1+(k:Int),(jm (tH co N W (c+1+k))).1,some (jm (tH co N W (c+1+k))).2)],w.1=d/\(co n u.1 d=some y->w.2.1<=u.2.1+y)\/¬co n u.1 d=some y:=fun u hu h1=>by
     by_cases h4:co n u.1 d=some y
     ·by_cases hd:d<=c+k
      ·obtain⟨w,hw,e1,e2⟩:=ih.shut u hu d n y h1 hd h3 h4;exact⟨w,zY9 _ hw,.inl ⟨e1,fun _=>e2⟩⟩
      ·have:d=c+1+k:=by omega
       subst this;exact⟨_,zS8 _ (zP7.mpr rfl),.inl ⟨rfl,fun _=>zh2 (oE.mpr ⟨u,hu,n,y,h3,h4,rfl⟩)⟩⟩
     ·exact⟨_,zS8 _ (zP7.mpr rfl),.inr h4⟩
    rcases zT1.mp hu with hu|hu
    ·obtain⟨w,hw,h|h⟩:=key u hu h1
     ·exact⟨w,hw,h.1,h.2 h4⟩
     ·exact absurd h4 h
    ·rw[zP7.mp hu] at h1;have h1:c+1+(k:Int)<d:=h1;omega
theorem wZ.uniq {c:Int}{k:Nat}{W:List Way}(h:wZ co N c k W){u w:Way}(hu:u∈W)(hw:w∈W)(e:u.1=w.1):u=w:=by
 have hs:=h.sort;clear h
 induction W with
 |nil=>simp at hu
 |cons a W ih=>
  rw[zR4,List.pairwise_cons] at hs;rcases zP2.mp hu with rfl|hu'
  ·rcases zP2.mp hw with rfl|hw'
   ·rfl
   ·have:=hs.1 w.1 (zT0.mpr ⟨w,hw',rfl⟩);omega
  ·rcases zP2.mp hw with rfl|hw'
   ·have:=hs.1 u.1 (zT0.mpr ⟨u,hu',rfl⟩);omega
   ·exact ih hu' hw' hs.2
theorem find_some {W:List Way}{d:Int}{x:Int}{l:Option Part}(h:yq W d=some (x,l)):(d,x,l)∈W:=by
 unfold yq at h;obtain⟨w,hw,e⟩:=zQ9.mp h;have h1:=List.find?_some hw;rw[zS1] at h1;have h2:=List.mem_of_find?_eq_some hw;rw[show (d,x,l)=w by rw[<-h1,<-e]];exact h2
theorem find_none {W:List Way}{d:Int}(h:yq W d=none):∀w∈W,w.1≠d:=fun w hw e=>by
 unfold yq at h;rw[Option.map_eq_none_iff,List.find?_eq_none] at h;have:=h w hw;rw[zS3 e] at this;exact this rfl
theorem wZ.find {c:Int}{k:Nat}{W:List Way}(h:wZ co N c k W){d x:Int}{l:Option Part}(hw:(d,x,l)∈W):yq W d=some (x,l):=by
 cases e:yq W d with
 |none=>exact absurd rfl (find_none e _ hw)
 |some p=>
  have:=h.uniq (find_some e) hw rfl;rw[show p=(x,l) by injection this]
theorem wZ.least {c:Int}{k:Nat}{W:List Way}(h:wZ co N c k W):∀(m:Nat) {d z:Int} {ps:List Part},ps.length=m->Cut co N c d z ps->d<=c+k->∃w∈W,w.1=d/\w.2.1<=z
 |0,d,z,ps,hl,hc,hd=>by
  rcases hc.last with ⟨_,rfl,rfl⟩|⟨qs,_,_,_,_,rfl,_⟩
  ·obtain⟨r,rfl,_⟩:=h.first;exact⟨_,zQ1,rfl,zV4 _⟩
  ·simp at hl
 |m+1,d,z,ps,hl,hc,hd=>by
  rcases hc.last with ⟨rfl,_⟩|⟨qs,b,y,x,n,rfl,hc',hb,hn,hx,rfl⟩
  ·simp at hl
  ·obtain⟨u,hu,rfl,hle⟩:=h.least m (by simpa using hl) hc' (by omega);obtain⟨w,hw,e1,e2⟩:=h.shut u hu d n x hb hd hn hx;exact⟨w,hw,e1,by omega⟩
def vm (W:List Way)(c:Int):Nat->Int->List Part
 |0,_=>[]
 |f+1,d=>if d=c then [] else match yq W d with
  |some (_,some p)=>p::vm W c f p.1
  |_=>[]
theorem wZ.back {c:Int}{k:Nat}{W:List Way}(h:wZ co N c k W):∀(f:Nat) {d x:Int} {l:Option Part},(d,x,l)∈W->d-c<=f->Cut co N c d x (vm W c f d).reverse
 |0,d,x,l,hw,hf=>by
  have:=h.low _ hw;have hd:d=c:=by simp only[Int.natCast_zero] at hf;have:c<=d:=this;omega
  subst hd;obtain⟨r,hr,_⟩:=h.first;have:=h.uniq (w:=(d,0,none)) hw (by rw[hr];exact zQ1) rfl;injection this with _ e;injection e with e _;subst e;exact .nil _
 |f+1,d,x,l,hw,hf=>by
  rw[vm];rcases h.step _ hw with e|⟨u,hu,n,y,h1,h2,h3,e⟩
  ·injection e with e1 e2;injection e2 with e2 _;subst e1 e2;rw[if_pos rfl];exact .nil _
  ·have hlu:=h.low u hu;have h1:u.1<d:=h1;have h3:co n u.1 d=some y:=h3;have e:(d,x,l)=(d,u.2.1+y,some (u.1,d,n)):=e;injection e with _ e;injection e with e e';subst e e';rw[if_neg (by omega),h.find hw];show Cut co N c d _ ((u.1,d,n)::vm W c f u.1).reverse;rw[zX4];exact (h.back f (d:=u.1) (x:=u.2.1) (l:=u.2.2) hu (by omega)).snoc h1 h2 h3
def qv (W:List Way):List Int:=W.map (·.2.1)
def oz (W:List Way)(hi:Int)(d:Int):Int:=match yq W d with
 |some (x,_)=>x
 |none=>hi
end
theorem zi9 (a:Int)(k:Nat):zt a (k+1)=zt a k++[a+(k:Nat)]:=by
 unfold zt;rw[z56,zT4];rfl
theorem zz9 (f:Int->Int)(a:Int):∀k:Nat,((zt a k).map fun d=>f (d+1)-f d).sum=f (a+k)-f a
 |0=>by simp[zt]
 |k+1=>by
  rw[zi9,zT4,List.sum_append,zz9 f a k];simp only[zR4,z31,zX5,List.sum_nil];rw[show a+((k+1:Nat):Int)=a+k+1 by omega];omega
theorem zv3 (a:Int){n i k:Nat}(h:i+k<=n):((zt a n).drop i).take k=zt (a+i) k:=by
 refine List.ext_getElem? fun j=>?_;rw[List.getElem?_take];split
 ·rename_i hj;rw[z33,yy (by omega),yy hj]
  congr 1
  omega
 ·rw[zY5 (by rw[zi];omega)]
theorem zj2 :∀{zs:List Int} {z:Int},z∈zs->z<=uU zs:=by
 intro zs z h;cases zs with
 |nil=>simp at h
 |cons d ds=>
  have key:∀(l:List Int) (m:Int),m<=l.foldl (fun b x=>if b<x then x else b) m/\∀y∈l,y<=l.foldl (fun b x=>if b<x then x else b) m:=by
   intro l
   induction l with
   |nil=>exact fun m=>⟨zV4 _,fun y hy=>by simp at hy⟩
   |cons x l ih=>
    intro m;rw[z28];obtain⟨h1,h2⟩:=ih (if m<x then x else m);have hm:m<=(if m<x then x else m)/\x<=(if m<x then x else m):=by split<;>omega
    refine⟨by omega,fun y hy=>?_⟩;rcases zP2.mp hy with rfl|hy
    ·omega
    ·exact h2 y hy
  have:=key ds d;rcases zP2.mp h with rfl|h
  ·exact this.1
  ·exact this.2 z h
theorem cW {zs:List Int}(h:zs≠[]):uU zs∈zs:=by
 cases zs with
 |nil=>exact absurd rfl h
 |cons d ds=>
  have key:∀(l:List Int) (m:Int),l.foldl (fun b x=>if b<x then x else b) m=m\/l.foldl (fun b x=>if b<x then x else b) m∈l:=by
   intro l
   induction l with
   |nil=>exact fun m=>.inl rfl
   |cons x l ih=>
    intro m;rw[z28];rcases ih (if m<x then x else m) with e|e
    ·rw[e];split
     ·exact .inr zQ1
     ·exact .inl rfl
    ·exact .inr (zP5 _ e)
  rcases key ds d with e|e
  ·show List.foldl _ d ds∈_;rw[e];exact zQ1
  ·exact zP5 _ e
theorem gh (ds:List PyData){a:Int}(h:0<=a):cutD ds (some a) none=ds.drop a.toNat:=by
 obtain⟨n,rfl⟩:=zX7 h;unfold cutD;rw[HT.zf5,HT.lH,zU2];rcases Nat.le_total n ds.length with z|z
 ·rw[Nat.min_eq_left z,List.take_of_length_le (by rw[zW1];omega)]
 ·rw[Nat.min_eq_right z,List.drop_eq_nil_of_le (zP3 _),List.drop_eq_nil_of_le z,List.take_nil]
theorem cH (ds:List PyData):cutD ds none (some (-1))=ds.take (ds.length-1):=by
 unfold cutD;rw[HT.lH];have:HT.sIx ds.length ds.length (some (-1))=ds.length-1:=by
  show (if (-1:Int)<0 then ((-1:Int)+(ds.length:Int)).toNat else min (-1:Int).toNat ds.length)=_;rw[if_pos (by decide)];omega
 rw[this,List.drop_zero,Nat.sub_zero]
theorem zc7 (f:Int->Int)(c:Int)(n:Nat):zb3 (cutD (((zt c (n+1)).map f).map PyData.int) none (some (-1))) (cutD (((zt c (n+1)).map f).map PyData.int) (some 1) none)=(zt c n).map fun d=>.tuple [.int (f d),.int (f (d+1))]:=by
 rw[cH,gh _ (by decide)];unfold zb3;refine List.ext_getElem? fun j=>?_;rw[List.getElem?_zipWith];simp only[zO6,zi,List.getElem?_take,z33,zQ2];by_cases h:j<n
 ·rw[if_pos (by omega),yy (by omega),yy h,show (1:Int).toNat+j=j+1 from by rw[Nat.add_comm];rfl,yy (by omega)];show some _=some _;rw[show c+((j+1:Nat):Int)=c+(j:Nat)+1 by omega]
 ·rw[if_neg (by omega),zY5 (l:=zt c n) (by rw[zi];omega)];rfl
section
variable {co:Co}{N:Nat}
def zj5 (W:List Way):Int:=uU (qv W)
def hW (W:List Way)(d:Int):Int:=oz W (zj5 W) d
def wB (W:List Way)(c:Int)(n:Nat):List Int:=(zt c n).map fun d=>hW W (d+1)-hW W d
theorem wW {W:List Way}{d x:Int}{l:Option Part}(h:yq W d=some (x,l)):hW W d=x:=by unfold hW oz;rw[h]
theorem sS {W:List Way}{d:Int}(h:yq W d=none):hW W d=zj5 W:=by unfold hW oz;rw[h]
theorem zF6 (W:List Way)(d:Int):hW W d<=zj5 W:=by
 cases e:yq W d with
 |none=>rw[sS e];exact zV4 _
 |some p=>
  rw[wW (x:=p.1) (l:=p.2) e];exact zj2 (zT0.mpr ⟨_,find_some (x:=p.1) (l:=p.2) e,rfl⟩)
theorem gD (W:List Way)(c:Int)(n:Nat):(wB W c n).length=n:=by unfold wB;rw[zO6,zi]
theorem gZ (W:List Way)(c:Int)(n:Nat):(wB W c n).sum=hW W (c+n)-hW W c:=zz9 _ _ _
theorem gf {W:List Way}{c:Int}{n i k:Nat}(h:i+k<=n):(((wB W c n).drop i).take k).sum=hW W (c+i+k)-hW W (c+i):=by
 unfold wB;rw[<-List.map_drop,<-List.map_take,zv3 c h,zz9]
theorem wZ.zero {c:Int}{k:Nat}{W:List Way}(h:wZ co N c k W):yq W c=some (0,none):=h.find (by
 obtain⟨r,rfl,_⟩:=h.first;exact zQ1)
theorem wZ.had {c:Int}{k:Nat}{W:List Way}(h:wZ co N c k W){x:Int}{l:Option Part}(e:yq W (c+k)=some (x,l)):zn9 co N c (c+k) x:=by
 have hw:=find_some e;refine⟨⟨_,h.back k hw (by omega)⟩,fun y ps hc=>?_⟩;obtain⟨w,hw',e1,e2⟩:=h.least _ rfl hc (zV4 _);have:=h.uniq hw hw' e1.symm;rw[show x=w.2.1 by rw[<-this]];exact e2
theorem wZ.off {c:Int}{k:Nat}{W:List Way}(h:wZ co N c k W)(e:yq W (c+k)=none){z:Int}{ps:List Part}:¬Cut co N c (c+k) z ps:=fun hc=>by
 obtain⟨w,hw,e1,_⟩:=h.least _ rfl hc (zV4 _);exact find_none e w hw e1
def xI (p:Part):PyData:=.tuple [.int p.1,.int p.2.1,.int p.2.2]
def dE :Option Part->PyData
 |none=>.none
 |some p=>xI p
def sD (w:Way):PyData×PyData:=(.int w.1,.tuple [.int w.2.1,dE w.2.2])
def wX (p:Int×Part):PyData:=.tuple [.int p.1,xI p.2]
theorem xF (d:Int):∀W:List Way,uD (W.map sD) (.inl d)=(yq W d).map fun p=>.tuple [.int p.1,dE p.2]
 |[]=>rfl
 |w::W=>by
  rw[zR4];unfold sD;rw[uD];unfold yq;rw[zV7];show (if decide (w.1=d)=true then _ else _)=_;by_cases h:w.1=d
  ·rw[zS3 h,if_pos rfl];rfl
  ·rw[zR5 h,if_neg (by decide)];exact xF d W
theorem ah {W:List Way}{d x:Int}{l:Option Part}(h:yq W d=none):putD (W.map sD) (.inl d) (.tuple [.int x,dE l])=(W++[(d,x,l)]).map sD:=by
 unfold putD;rw[xF,h,Option.map_none,if_neg (by decide),zT4];rfl
theorem aG (p q:Part):PyData.eqv (xI p) (xI q)=decide (p=q):=by
 obtain⟨a,b,n⟩:=p;obtain⟨a',b',n'⟩:=q;have:PyData.eqv (xI (a,b,n)) (xI (a',b',n'))=(decide (a=a')&&(decide (b=b')&&(decide ((n:Int)=n')&&true))):=by
  rw[<-uY,<-uY,<-uY];rfl
 rw[this];by_cases h1:a=a'<;>by_cases h2:b=b'<;>by_cases h3:n=n'<;>simp[h1,h2,h3]<;>omega
theorem zj4 (p q:Part):ltD (xI p) (xI q)=some (ltQ p q):=by
 obtain⟨a,b,n⟩:=p;obtain⟨a',b',n'⟩:=q;unfold xI ltD;simp only[kU,uY,ltQ];by_cases h1:a=a'
 ·subst h1;by_cases h2:b=b'
  ·subst h2;by_cases h3:(n:Int)=n'
   ·have:n=n':=by omega
    subst this;simp
   ·simp only[decide_true,zZ6,zR5 h3,zS9,zW3,ltD,Int.lt_irrefl,decide_false,zY8,zR1];rw[show decide ((n:Int)<n')=decide (n<n') by by_cases h:n<n'<;>simp[h]]
  ·simp only[decide_true,zZ6,zR5 h2,zS9,zW3,ltD,Int.lt_irrefl,decide_false,zY8,zR1,zR6,z08]
 ·simp only[zR5 h1,zS9,zW3,ltD,zR6,z08]
theorem zc5 (p q:Int×Part):ltD (wX p) (wX q)=some (ltP p q):=by
 obtain⟨z,p⟩:=p;obtain⟨y,q⟩:=q;unfold wX ltD;simp only[kU,uY,ltP,aG];by_cases h1:z=y
 ·subst h1;by_cases h2:p=q
  ·subst h2;simp[ltQ]
  ·simp only[decide_true,zZ6,zR5 h2,zS9,zW3,zj4,Int.lt_irrefl,decide_false,zY8,zR1]
 ·simp only[zR5 h1,zS9,zW3,ltD,zR6,z08]
theorem zg4 :∀{ds:List (Int×Part)},ds≠[]->minD (ds.map wX)=wX (jm ds)
 |[],h=>absurd rfl h
 |d::ds,_=>by
  show List.foldl _ (wX d) (ds.map wX)=wX (List.foldl _ d ds);rename_i hh;clear hh
  induction ds generalizing d with
  |nil=>rfl
  |cons x ds ih=>
   rw[zR4,z28,z28,zc5];show List.foldl _ (if ltP x d=true then wX x else wX d) _=_;rw[<-ih];split<;>rfl
theorem aV (ds:List (Int×Part)):zD1 (ds.map wX):=fun x hx y hy=>by
 obtain⟨p,_,rfl⟩:=zT0.mp hx;obtain⟨q,_,rfl⟩:=zT0.mp hy;rw[zc5];rfl
def nW (co:Co)(N:Nat)(c g:Int):PyData:=
 match yq (yn co N c (g-c).toNat) g with
 |none=>.tuple [.str "off",.list ((yn co N c (g-c).toNat).map fun w=>.int w.1)]
 |some (x,_)=>.tuple [.str "had",.int x,.list ((vm (yn co N c (g-c).toNat) c (g-c).toNat g).reverse.map xI),.list ((wB (yn co N c (g-c).toNat) c (g-c).toNat).map .int)]
end
section
variable {X:Cx}{α:Ev}{a b e:Expr}{pos p:Pos}{Q:PyData->Prop}
end
section
variable {X:Cx}{α:Ev}{a b c e:Expr}{pos p:Pos}{Q:PyData->Prop}{T:Bool->Prop}
theorem mW {op op':CmpOp}{g g':Int->Int->Bool}(ho:OpR X (compareOp op) (rI0 fun i j=>.bl (g i j)))(ho':OpR X (compareOp op') (rI0 fun i j=>.bl (g' i j)))(hm:lastMarks [op,op'] [b,c]=false)
  (h:EvD X α a fun x=>EvD X α b fun y=>∃i j,x=.int i/\y=.int j/\(if g i j=true then EvD X α c fun z=>∃k,z=.int k/\T (g' j k) else T false)):EvT X α (.Compare a [op,op'] [b,c] pos) T:=fun F σ H R m k=>by
 refine⟨_,zf1 ho ho' zl zl zl hm,?_⟩;refine h F σ H _ m fun x vx H1 q1 t1 k1 r1=>?_;have m1:=m.kz k1 t1;refine q1 F σ H1 _ m1 fun y vy H2 q2 t2 k2 r2=>?_;obtain⟨i,j,e1,e2,hq⟩:=q2;subst e1 e2;cases r1.int_inv;cases r2.int_inv;have m2:=m1.kz k2 t2;refine⟨i,j,rfl,rfl,_,rfl,?_⟩;cases hg:g i j with
 |true=>
  rw[hg] at hq;refine vY ?_;refine (by simpa using hq:EvD X α c _) F σ H2 _ m2 fun z vz H3 q3 t3 k3 r3=>?_;obtain⟨kk,rfl,hq3⟩:=q3;cases r3.int_inv;exact⟨j,kk,rfl,rfl,_,rfl,k _ H3 hq3 t3 ((k1.trans k2).trans k3)⟩
 |false=>
  rw[hg] at hq;exact uw ⟨_,rfl,k _ H2 (by simpa using hq) t2 (k1.trans k2)⟩
theorem zg0 (h:EvD X α a fun x=>EvD X α b fun y=>∃i j,x=.int i/\y=.int j/\(if decide (i<j)=true then EvD X α c fun z=>∃k,z=.int k/\T (decide (j<=k)) else T false))(hm:lastMarks [.Lt,.LtE] [b,c]=false:=by rfl):EvT X α (.Compare a [.Lt,.LtE] [b,c] pos) T:=mW pG uc hm h
theorem zm4 (h:EvD X α a fun x=>EvD X α b fun y=>∃i j,x=.int i/\y=.int j/\(if decide (i<=j)=true then EvD X α c fun z=>∃k,z=.int k/\T (decide (j<k)) else T false))(hm:lastMarks [.LtE,.Lt] [b,c]=false:=by rfl):EvT X α (.Compare a [.LtE,.Lt] [b,c] pos) T:=mW uc pG hm h
theorem zo6 (h:EvD X α a fun x=>EvD X α b fun y=>∃i j,x=.int i/\y=.int j/\(if decide (i<=j)=true then EvD X α c fun z=>∃k,z=.int k/\Q (.bool (decide (j<k))) else Q (.bool false)))(hm:lastMarks [.LtE,.Lt] [b,c]=false:=by rfl):EvD X α (.Compare a [.LtE,.Lt] [b,c] pos) Q:=cS uc pG hm h
end
section
variable {X:Cx}{α:Ev}{a b c e:Expr}{pos p p2 pos2:Pos}{Q:PyData->Prop}{T:Bool->Prop}
end
section
variable {X:Cx}{α:Ev}{a b c d e:Expr}{pos p:Pos}{ta tb tc td:TE}{T:Bool->Prop}
def zi5 (r r' r2:R2)(ta tb tc td:TE):TE:=fun σ H Q=>ta σ H fun x H1=>tb σ H1 fun y H2=>r x y H2 fun z H3=>∃k,z=.bl k/\
 (if k=true then tc σ H3 fun w' H4=>r' y w' H4 fun z' H5=>∃k',z'=.bl k'/\(if k'=true then td σ H5 fun u H6=>r2 w' u H6 Q else Q (.bl false) H5) else Q (.bl false) H3)
theorem fQ {op op' op2:CmpOp}{r r' r2:R2}(ho:OpR X (compareOp op) r)(ho':OpR X (compareOp op') r')(ho2:OpR X (compareOp op2) r2)(ha:PE X a ta)(hb:PE X b tb)(hc:PE X c tc)(hd:PE X d td)
  (hm:lastMarks [op,op',op2] [b,c,d]=false):PT X (.Compare a [op,op',op2] [b,c,d] pos) (aF (zi5 r r' r2 ta tb tc td)):=by
 intro pins s σ H Q I h;refine isTrue_chain (thn (ha pins s σ H _ I h) fun v s1 ⟨x,H1,I1,r1,q1⟩=>test_link (thn (hb pins s1 σ H1 _ I1 q1) fun u s2 ⟨y,H2,I2,r2,q2⟩=>
  thn (ho pins s2 σ H2 x y v u _ I2 r1 r2 q2) fun d s3 ⟨z,H3,I3,r3,k,e,q3⟩=>?_)) hm
 subst e;cases r3;refine zS6 ?_;cases k with
 |false=>
  obtain⟨k',e',q'⟩:=q3;cases e';exact ite_ff ⟨H3,I3,q'⟩
 |true=>
  refine ite_tt (test_link (thn (hc pins s3 σ H3 _ I3 q3) fun w' s4 ⟨z',H4,I4,r4,q4⟩=>thn (ho' pins s4 σ H4 y z' u w' _ I4 r2 r4 q4) fun d' s5 ⟨z2,H5,I5,r5,k2,e2,q5⟩=>?_));subst e2;cases r5;refine zS6 ?_;cases k2 with
  |false=>
   obtain⟨k',e',q'⟩:=q5;cases e';exact ite_ff ⟨H5,I5,q'⟩
  |true=>
   refine ite_tt (test_last (thn (hd pins s5 σ H5 _ I5 q5) fun w2 s6 ⟨z3,H6,I6,r6,q6⟩=>thn (ho2 pins s6 σ H6 z' z3 w' w2 _ I6 r4 r6 q6) fun d' s7 ⟨z4,H7,I7,r7,k3,e3,q7⟩=>?_));subst e3;cases r7;exact zS6 ⟨H7,I7,q7⟩
theorem fi (h:EvD X α a fun x=>EvD X α b fun y=>∃i j,x=.int i/\y=.int j/\(if decide (i<=j)=true then EvD X α c fun z=>∃k,z=.int k/\(if decide (j<k)=true then EvD X α d fun u=>∃m,u=.int m/\T (decide (k<=m)) else T false) else T false))(hm:lastMarks [.LtE,.Lt,.LtE] [b,c,d]=false:=by rfl):
  EvT X α (.Compare a [.LtE,.Lt,.LtE] [b,c,d] pos) T:=fun F σ H R m k=>by
 refine⟨_,fQ uc pG uc zl zl zl zl hm,?_⟩;refine h F σ H _ m fun x vx H1 q1 t1 k1 r1=>?_;have m1:=m.kz k1 t1;refine q1 F σ H1 _ m1 fun y vy H2 q2 t2 k2 r2=>?_;obtain⟨i,j,e1,e2,hq⟩:=q2;subst e1 e2;cases r1.int_inv;cases r2.int_inv;have m2:=m1.kz k2 t2;refine⟨i,j,rfl,rfl,_,rfl,?_⟩;cases hg:decide (i<=j) with
 |true=>
  rw[hg,if_pos rfl] at hq;refine vY ?_;refine hq F σ H2 _ m2 fun z vz H3 q3 t3 k3 r3=>?_;have m3:=m2.kz k3 t3;obtain⟨kk,rfl,hq3⟩:=q3;cases r3.int_inv;refine⟨j,kk,rfl,rfl,_,rfl,?_⟩;cases hg2:decide (j<kk) with
  |true=>
   rw[hg2,if_pos rfl] at hq3;refine vY ?_;refine hq3 F σ H3 _ m3 fun u vu H4 q4 t4 k4 r4=>?_;obtain⟨mm,rfl,hq4⟩:=q4;cases r4.int_inv;exact⟨kk,mm,rfl,rfl,_,rfl,k _ H4 hq4 t4 (((k1.trans k2).trans k3).trans k4)⟩
  |false=>
   rw[hg2,if_neg (by decide)] at hq3;exact uw ⟨_,rfl,k _ H3 hq3 t3 ((k1.trans k2).trans k3)⟩
 |false=>
  rw[hg,if_neg (by decide)] at hq;exact uw ⟨_,rfl,k _ H2 hq t2 (k1.trans k2)⟩
end
theorem lR {X:Cx}{α:Ev}{e tg:Expr}{Q:List PyData->Prop}(h:EvD X α e fun x=>∃ds,x=.tuple ds/\Q ds):EvI X α tg e Q:=fun F σ H R m k=>by
 refine⟨_,zw4 zl,?_⟩;refine h F σ H _ m fun x vx H1 q1 t1 k1 r1=>?_;obtain⟨ds,rfl,q⟩:=q1;obtain⟨a,xs,rfl,h1,h2⟩:=r1.tup_inv;refine⟨a,rfl,⟨xs,SqT.of (zj h1).2⟩,k ds _ H1 q t1 k1 fun i H2 p s=>⟨fun d hd=>?_,fun hl=>?_⟩⟩
 ·obtain⟨x,hx,av⟩:=h2.get hd;have ha:=SqT.of (K:=X.K) (zj (s _ _ h1)).2;refine⟨⟨xs,x,ha,hx⟩,fun x' H3 y=>?_⟩;obtain⟨e,y⟩:=y;subst e;have:=y xs ha;rw[hx] at this;cases this;exact⟨zz.refl _,fun _=>av.same s⟩
 ·exact⟨xs,SqT.of (zj (s _ _ h1)).2,by rw[h2.length];exact hl⟩
section
variable {X:Cx}{α:Ev}{a b c d e:Expr}{pos p:Pos}{T:Bool->Prop}
end
abbrev bF (X:Cx)(P:Program)(w:World)(K:PySem.W.Frag)(mg:Str->Option Value)(base:Heap):Prop:=X.prog=P/\X.w=w/\X.K=K/\X.mg=mg/\X.base=base
section
variable {X:Cx}{α:Ev}{e o:Expr}{es:List Expr}{pos p apos:Pos}{Q:PyData->Prop}{k:Nat}{φ:List A->(A->Prop)->Prop}{x m:Str}{C:Addr}{pl:Sem Bool}{P:Program}{w:World}{K:PySem.W.Frag}{mg:Str->Option Value}{base:Heap}
theorem zl2 (D:Cal P w K mg base x k φ)(hX:bF X P w K mg base)(hr:zV k X.A)(hg:Gl X x)(h:EvA X α (e::es) fun as=>φ as fun a=>Q a.d)
  (hdb:(x == ("__debug__":Str))=false:=by decide) (he:starEach (e::es) X.env=(false,eval e X.env)::starEach es X.env:=by rfl) (hpl:(backTo pos (starEach es X.env)).any (·.1)=false:=by rfl):EvD X α (.Call (.Name x p) (e::es) [] pos) Q:=by
 obtain⟨rfl,rfl,rfl,rfl,rfl⟩:=hX;exact zZ D hr hg h hdb he hpl
theorem zn2 {Q:List PyData->Prop}(D:Cal P w K mg base x k φ)(hX:bF X P w K mg base)(hr:zV k X.A)(hg:Gl X x)(h:EvA X α (e::es) fun as=>φ as fun a=>∃ds,a=.own ds/\Q ds)
  (hdb:(x == ("__debug__":Str))=false:=by decide) (he:starEach (e::es) X.env=(false,eval e X.env)::starEach es X.env:=by rfl) (hpl:(backTo pos (starEach es X.env)).any (·.1)=false:=by rfl):EvL X α (.Call (.Name x p) (e::es) [] pos) Q:=by
 obtain⟨rfl,rfl,rfl,rfl,rfl⟩:=hX;exact wA D hr hg h hdb he hpl
theorem zd7 (D:zb1 P w K mg base x k [] φ)(hX:bF X P w K mg base)(hr:zV (k+1) X.A)(hg:Gl X x)(h:EvA X α (e::es) fun as=>φ as fun a=>Q a.d)
  (hdb:(x == ("__debug__":Str))=false:=by decide) (he:starEach (e::es) X.env=(false,eval e X.env)::starEach es X.env:=by rfl) (hpl:(backTo pos (starEach es X.env)).any (·.1)=false:=by rfl):EvN X α (.Call (.Name x p) (e::es) [] pos) Q:=by
 obtain⟨rfl,rfl,rfl,rfl,rfl⟩:=hX;exact zn0 D hr hg h hdb he hpl
end
section
variable {X:Cx}{α:Ev}{pos:Pos}{Q:PyData->Prop}
end
end L2
set_option maxHeartbeats 4000000
namespace K53
open PySem PySem.Spec PyProof.Rows L2
def top (i:Nat):Stmt:=PySem.Challenge.pw_stayprice_k53_looker_at_cuts.main.body.getD i (.Pass ⟨0,0,0,0⟩)
abbrev pf :Stmt:=top 56
abbrev ag :Stmt:=top 57
def dh :Scope:=match zA pf with
 |[.Return (some (.List (.ListComp _ _ sc _::_) _)) _]=>sc
 |_=>zc pf
section
variable {P:Program}{w:World}{K:PySem.W.Frag}{mg:Str->Option Value}{base:Heap}
theorem zu8 :zo ["_law_script"] ["_law_script"] (zc pf):=.o
theorem cR :zU ["_law_script"] (zc pf) ["_law_cell"] [none] dh:=⟨rfl,by decide +kernel,by decide +kernel,by decide +kernel,by decide +kernel,rfl,by decide +kernel⟩
theorem zn5 {f:Addr}{fd:FuncData}(F:Fun K "_law_tape" "_law_tape" pf f fd)(T:zB4 mg):zC P w K mg base CX0 1 f fd ["_law_script"] (lM K):=by
 refine F.ok zu8 (fun vs H Q E h=>?_) (fun cdv A outer s H vs Q E hr h=>?_)
 ·obtain⟨a,ns,rfl,_⟩:=h;rfl
 ·obtain⟨a,ns,rfl,hS,hlen,k⟩:=h;refine⟨_,zx (zB (dI (zg
   (zs7 rfl cR (iH (rz oT (pv 0) pZ (sQ zr)))
    (fun _ _ _ _=>zK (i:=0) cR.nd rfl (Or.inl rfl))
    (fun _ _ _ _=>ib (ym zH9 (yi ly (by rfl) T.abs boot_abs (zg (pv 0) zu)) (yz cK zr zr) (zG _)))
    (fun _ _ _ _=>yi ly (by rfl) T.abs boot_abs (zg (pv 0) zu)))
   (zg (xu uW (by rfl) T.list boot_list (zg (rz oT (pv 0) pZ (sQ zr)) zu))
   (zg zr zu))))),?_⟩
  -- script[:63]
  refine⟨_,rfl,63,rfl,a,_,rfl,hS,fun l hl=>?_⟩;obtain⟨ms,em,lm⟩:=zb8 ns none (some 63);rw[em];refine⟨l,rfl,⟨_,SqL.of zk⟩,fun acc hacc=>?_⟩;have nal:acc≠l:=fun z=>by rw[z,zk] at hacc;cases hacc
  have hacc':H acc=none:=by rw[zh nal] at hacc;exact hacc
  have s0:zz H (upd H l (.lst (ms.map V.int))):=fun b o e=>by rw[zh (zm e hl)];exact e
  refine fL (K:=K) (a:=l) (xs:=ms.map V.int) (fun i ys τ H2=>∃(bs:List Int) (v:Option V),ys=bs.map V.int/\bs.length<=i/\τ=[v]/\H2=upd (upd H l (.lst (ms.map V.int))) acc (.lst (bs.map V.int)))
   ⟨[],none,rfl,zP3 _,rfl,rfl⟩ ?_ ?_ ?_
  ·rintro i ys τ H2 _ ⟨bs,v,rfl,_,rfl,rfl⟩;exact SqL.of (by rw[zh nal.symm,zk])
  ·rintro i x ys τ H2 hx ⟨bs,v,rfl,hb,rfl,rfl⟩;have hi:i<ms.length:=by
    have:=(zP1.mp hx).1
    rwa [zO6] at this
   obtain⟨z,rfl⟩:∃z,x=V.int z:=by
    rw[zQ2] at hx;cases e:ms[i]? with
    |none=>rw[e] at hx;cases hx
    |some z=>rw[e] at hx;exact⟨z,(zR7 hx).symm⟩
   refine⟨_,rfl,z,rfl,_,_,rfl,rfl,⟨by decide,by decide,by decide⟩,_,_,rfl,rfl,_,rfl,?_⟩;refine yF (fun _=>?_) (fun _=>?_)
   ·refine⟨_,rfl,z,rfl,zk,?_,bs++[if z<0 then -z else z],_,?_,?_,rfl,?_⟩
    ·rw[zO6];exact yK (by omega)
    ·rw[zT4];rfl
    ·rw[zQ6];simp;omega
    ·rw[sM,zT4];rfl
   ·exact⟨bs,_,rfl,by omega,rfl,rfl⟩
  ·rintro ys τ H2 ⟨bs,v,rfl,hb,rfl,rfl⟩;rw[zO6] at hb
   -- list(script[:63])
   have s1:zz H (upd (upd H l (.lst (ms.map V.int))) acc (.lst (bs.map V.int))):=fun b o e=>by rw[zh (zm e hacc')];exact s0 b o e
   refine⟨_,rfl,63,rfl,a,_,rfl,s1.seq hS,fun l2 hl2=>?_⟩;rw[em];refine⟨l2,_,rfl,.inl (SqL.of zk),fun c hc=>?_⟩;refine⟨(by show 3<=sizeLine;decide),fun t ht=>?_⟩;have n1:l2≠acc:=fun z=>by rw[z,zk] at hl2;cases hl2
   have n2:c≠l2:=fun z=>by rw[z,zk] at hc;cases hc
   have hc2:upd (upd H l (.lst (ms.map V.int))) acc (.lst (bs.map V.int)) c=none:=by rw[zh n2] at hc;exact hc
   have n3:c≠acc:=fun z=>by rw[z,zk] at hc2;cases hc2
   have n4:t≠c:=fun z=>by rw[z,zk] at ht;cases ht
   have ht2:upd (upd (upd H l (.lst (ms.map V.int))) acc (.lst (bs.map V.int))) l2 (.lst (ms.map V.int)) t=none:=by rw[zh n4] at ht;exact ht
   have n5:t≠l2:=fun z=>by rw[z,zk] at ht2;cases ht2
   have ht3:upd (upd H l (.lst (ms.map V.int))) acc (.lst (bs.map V.int)) t=none:=by rw[zh n5] at ht2;exact ht2
   have n6:t≠acc:=fun z=>by rw[z,zk] at ht3;cases ht3
   refine k t acc c _ ⟨0,bs,ms,n3.symm,zk,?_,?_,by omega,by omega⟩ (s1.free ht3) hacc' (s1.free hc2) fun b o e=>?_
   ·rw[zh n6.symm,zh n3.symm,zh n1.symm,zk]
   ·rw[zh n4.symm,zk]
   ·have e1:=s1 b o e;rw[zh (zm e1 ht3),zh (zm e1 hc2),zh (zm e1 hl2)];exact e1
theorem tq :zo ["_law_tape_here","_law_many","_law_found","_law_cell","_law_number"] ["_law_tape_here","_law_many"] (zc ag):=.o
theorem zg6 {f:Addr}{fd:FuncData}(F:Fun K "_law_draw" "_law_draw" ag f fd)(T:zB4 mg):zC P w K mg base CX0 1 f fd ["_law_tape_here","_law_many"] ze9:=by
 refine F.ok tq (fun vs H Q E h=>?_) (fun cdv A outer s H vs Q E hr h=>?_)
 ·obtain⟨t,b,c,many,rfl,_⟩:=h;rfl
 ·obtain⟨t,b,c,many,rfl,⟨n,bs,cs,nbc,ht,hb,hc,lb,lc⟩,hm0,hm1,k⟩:=h;have ntb:t≠b:=au ht hb (iB bs);have ntc:t≠c:=au ht hc (iB cs);have hlog:many.natAbs.log2<9000:=log2_small hm0 hm1
  -- tape[2]=tape[2]+1
  refine yb (fun σ H1=>σ=[some (.ref t),some (.int many),none,none,none]/\H1=upd H t (.lst [.ref b,.ref c,.int (n+1)]))
   ⟨_,oC (yz tw (zS zW (pv 0) zr (fun _ _=>rfl)) zr) (kH (pv 0) zr set_list),?_⟩ ?_
  ·exact⟨_,rfl,t,_,2,_,rfl,rfl,SqL.of ht,rfl,_,_,rfl,rfl,_,rfl,t,_,2,2,rfl,rfl,ht,rfl,rfl,rfl⟩
  rintro σ H1 ⟨rfl,hH1⟩;have ht1:H1 t=some (.lst [.ref b,.ref c,.int (n+1)]):=by rw[hH1];exact zk
  have hb1:H1 b=some (.lst (bs.map V.int)):=by rw[hH1,zh ntb.symm];exact hb
  have hc1:H1 c=some (.lst (cs.map V.int)):=by rw[hH1,zh ntc.symm];exact hc
  have off1:nh t b H H1:=fun a h1 h2=>by rw[hH1,zh h1]
  clear hH1
  -- while len(tape[0]) > 0 and tape[0][0]==0:tape[0].pop(0)
  refine yb (fun σ H2=>∃bs2:List Int,bs2.length<=63/\σ=[some (.ref t),some (.int many),none,none,none]/\H2 t=some (.lst [.ref b,.ref c,.int (n+1)])/\H2 b=some (.lst (bs2.map V.int))/\H2 c=some (.lst (cs.map V.int))/\nh t b H H2)
   ⟨_,nY zV3 (aj (ym iQ (yi yx (by rfl) T.len zZ1 (zg (zS zW (pv 0) zr (fun _ _=>rfl)) zu)) zr (zG _))
     (iU (ym vo (zS zW (zS zW (pv 0) zr (fun _ _=>rfl)) zr (fun _ _=>rfl)) zr (zG _)))).pt
    (zx (iG (zt3 PySem.F.plainAttrs_list PySem.F.slot_list_pop PySem.F.type_list_pop ak (zS zW (pv 0) zr (fun _ _=>rfl)) (zg zr zu)))),?_⟩ ?_
  ·refine⟨fun m σ H2=>∃bs2:List Int,m=bs2.length/\bs2.length<=63/\σ=[some (.ref t),some (.int many),none,none,none]/\H2 t=some (.lst [.ref b,.ref c,.int (n+1)])/\H2 b=some (.lst (bs2.map V.int))/\H2 c=some (.lst (cs.map V.int))/\nh t b H H2,
    ⟨_,bs,rfl,lb,rfl,ht1,hb1,hc1,off1⟩,?_⟩
   rintro m σ H2 ⟨bs2,rfl,lb2,rfl,ht2,hb2,hc2,off2⟩;refine⟨_,rfl,t,_,0,_,rfl,rfl,SqL.of ht2,rfl,b,_,rfl,.inl (SqL.of hb2),_,_,rfl,rfl,_,rfl,?_⟩;refine yF (fun _=>?_) (fun _=>?_)
   ·cases bs2 with
    |nil=>rename_i z;simp at z
    |cons z r=>
     refine⟨_,rfl,t,_,0,_,rfl,rfl,SqL.of ht2,rfl,b,_,0,_,rfl,rfl,SqL.of hb2,at0,rfl,_,rfl,?_⟩;refine yF (fun _=>?_) (fun _=>?_)
     ·refine⟨_,fun σ' H' h'=>h',_,rfl,t,_,0,_,rfl,rfl,SqL.of ht2,rfl,.inl ⟨rfl,_,SqL.of hb2⟩,b,_,0,0,_,rfl,rfl,hb2,by decide,by decide,zL7,rfl,r.length,?_,r,rfl,?_,rfl,?_,zk,?_,?_⟩
      ·simp
      ·simp at lb2;omega
      ·rw[zh ntb];exact ht2
      ·rw[zh nbc.symm];exact hc2
      ·exact off2.trans fun a h1 h2=>by rw[zh h2]
     ·exact⟨_,lb2,rfl,ht2,hb2,hc2,off2⟩
   ·exact⟨_,lb2,rfl,ht2,hb2,hc2,off2⟩
  rintro σ H2 ⟨bs2,lb2,rfl,ht2,hb2,hc2,off2⟩
  -- if len(tape[0]) > 0:..
  refine yb (fun σ H3=>σ=[some (.ref t),some (.int many),none,none,none]/\H2=H3)
   ⟨_,wt (ym iQ (yi yx (by rfl) T.len zZ1 (zg (zS zW (pv 0) zr (fun _ _=>rfl)) zu)) zr (zG _))
    (zJ (va (i:=2) tq.nd rfl (Or.inl rfl) (yz uA (zS zW (zS zW (pv 0) zr (fun _ _=>rfl)) zr (fun _ _=>rfl)) (pv 1)))
    (zJ (oC (yz uF (zS zW (zS zW (pv 0) zr (fun _ _=>rfl)) zr (fun _ _=>rfl)) (pv 1)) (kH (zS zW (pv 0) zr (fun _ _=>rfl)) zr set_list))
    (zx (zB (pv 2))))) yE,?_⟩ ?_
  ·refine⟨_,rfl,t,_,0,_,rfl,rfl,SqL.of ht2,rfl,b,_,rfl,.inl (SqL.of hb2),_,_,rfl,rfl,_,rfl,?_⟩;refine yF (fun _=>?_) (fun _=>?_)
   ·cases bs2 with
    |nil=>rename_i z;simp at z
    |cons z r=>
     refine⟨_,rfl,t,_,0,_,rfl,rfl,SqL.of ht2,rfl,b,_,0,_,rfl,rfl,SqL.of hb2,at0,_,rfl,_,_,rfl,rfl,hm0,?_⟩;refine⟨_,rfl,t,_,0,_,rfl,rfl,SqL.of ht2,rfl,b,_,0,_,rfl,rfl,SqL.of hb2,at0,_,rfl,_,_,rfl,rfl,⟨hm0,hlog⟩,?_⟩;refine⟨_,rfl,t,_,0,_,rfl,rfl,SqL.of ht2,rfl,b,_,0,0,rfl,rfl,hb2,ix0,_,rfl,?_⟩;refine k _ _ (z29 _ (Int.ne_of_gt hm0)) (z00 _ hm0) ⟨n+1,(z / many)::r,cs,nbc,?_,zk,?_,?_,lc⟩ ?_
     ·rw[zh ntb];exact ht2
     ·rw[zh nbc.symm];exact hc2
     ·simpa using lb2
     ·exact off2.trans fun a h1 h2=>by rw[zh h2]
   ·exact⟨rfl,rfl⟩
  rintro σ H3 ⟨rfl,rfl⟩
  -- cell=5;if len(tape[1]) > 0:..
  refine yb (fun σ H3=>σ=[some (.ref t),some (.int many),none,some (.int 5),none]/\H2=H3) ⟨_,va (i:=3) tq.nd rfl (Or.inl rfl) zr,rfl,rfl⟩ ?_;rintro σ H3 ⟨rfl,rfl⟩;refine yb (fun σ H3=>∃z:Int,σ=[some (.ref t),some (.int many),none,some (.int z),none]/\H2=H3)
   ⟨_,wt (ym iQ (yi yx (by rfl) T.len zZ1 (zg (zS zW (pv 0) zr (fun _ _=>rfl)) zu)) zr (zG _))
    (zx (va (i:=3) tq.nd rfl (Or.inl rfl) (zS zW (zS zW (pv 0) zr (fun _ _=>rfl)) (yz uA (zS zW (pv 0) zr (fun _ _=>rfl)) (yi yx (by rfl) T.len zZ1 (zg (zS zW (pv 0) zr (fun _ _=>rfl)) zu))) (fun _ _=>rfl)))) yE,?_⟩ ?_
  ·refine⟨_,rfl,t,_,1,_,rfl,rfl,SqL.of ht2,rfl,c,_,rfl,.inl (SqL.of hc2),_,_,rfl,rfl,_,rfl,?_⟩;refine yF (fun hpos=>?_) (fun _=>?_)
   ·have hpos':0<cs.length:=by simpa using hpos
    have hp:(0:Int)<((cs.map V.int).length:Int):=by rw[zO6];omega
    have h1:=z29 (n+1) (Int.ne_of_gt hp);have h2:=z00 (n+1) hp;obtain⟨j,hj⟩:=zX7 h1;have hjl:j<cs.length:=by rw[hj,zO6] at h2;omega
    refine⟨_,rfl,t,_,1,_,rfl,rfl,SqL.of ht2,rfl,_,rfl,t,_,2,_,rfl,rfl,SqL.of ht2,rfl,_,rfl,t,_,1,_,rfl,rfl,SqL.of ht2,rfl,c,_,rfl,.inl (SqL.of hc2),_,_,rfl,rfl,hp,c,_,_,V.int cs[j],rfl,rfl,SqL.of hc2,?_,cs[j],rfl,rfl⟩;rw[hj];exact xA (by rw[zQ2,zO9 hjl];rfl)
   ·exact⟨5,rfl,rfl⟩
  rintro σ H3 ⟨z,rfl,rfl⟩
  -- the numbers
  refine yb (fun σ H3=>∃y:Int,(0<=y/\y<2147483647)/\σ=[some (.ref t),some (.int many),none,some (.int z),some (.int y)]/\H2=H3)
   ⟨_,va (i:=4) tq.nd rfl (Or.inl rfl) (yz uA (yz rD (yz tw (yz tw (yz uA (pv 3) zr) (yz rD zr (zS zW (pv 0) zr (fun _ _=>rfl)))) zr) zr) zr),?_⟩ ?_
  ·exact⟨_,rfl,_,_,rfl,rfl,(by show (0:Int)<999983;decide),_,rfl,t,_,2,_,rfl,rfl,SqL.of ht2,rfl,_,_,rfl,rfl,.inl ⟨by decide,by decide⟩,_,_,rfl,rfl,_,_,rfl,rfl,_,_,rfl,rfl,.inr ⟨by decide,by decide⟩,_,_,rfl,rfl,(by show (0:Int)<2147483647;decide),
    _,⟨z29 _ (by decide),z00 _ (by decide)⟩,rfl,rfl⟩
  rintro σ H3 ⟨y,⟨hy0,hy1⟩,rfl,rfl⟩;refine yb (fun σ H3=>∃y:Int,(0<=y/\y<2147483647)/\σ=[some (.ref t),some (.int many),none,some (.int z),some (.int y)]/\H2=H3)
   ⟨_,va (i:=4) tq.nd rfl (Or.inl rfl) (yz uA (yz tw (yz tw (yz rD (pv 4) (pv 4)) (yz rD zr (zS zW (pv 0) zr (fun _ _=>rfl)))) zr) zr),?_⟩ ?_
  ·refine⟨_,rfl,_,rfl,_,_,rfl,rfl,.inl ⟨by omega,by omega⟩,_,rfl,t,_,2,_,rfl,rfl,SqL.of ht2,rfl,_,_,rfl,rfl,.inl ⟨by decide,by decide⟩,_,_,rfl,rfl,_,_,rfl,rfl,_,_,rfl,rfl,(by show (0:Int)<2147483629;decide),
    _,⟨z29 _ (by decide),Int.lt_trans (z00 _ (by decide)) (by decide)⟩,rfl,rfl⟩
  rintro σ H3 ⟨y2,⟨hy0,hy1⟩,rfl,rfl⟩;refine⟨_,zx (zB (yz uA (yz uF (yz uA (yz rD (yz uF (pv 4) zr) zr) zr) zr) (pv 1))),?_⟩;refine⟨_,rfl,_,_,rfl,rfl,⟨by decide,by decide +kernel⟩,_,_,rfl,rfl,.inr ⟨by decide,by decide⟩,_,_,rfl,rfl,(by show (0:Int)<2147483587;decide),_,_,rfl,rfl,⟨by decide,by decide +kernel⟩,_,rfl,_,_,rfl,rfl,hm0,?_⟩;exact k _ _ (z29 _ (Int.ne_of_gt hm0)) (z00 _ hm0) ⟨n+1,bs2,cs,nbc,ht2,hb2,hc2,lb2,lc⟩ off2
end
abbrev tD :Stmt:=top 3
abbrev oN :Stmt:=top 4
abbrev aQ :Stmt:=top 5
abbrev zt8 :Stmt:=top 6
abbrev aL :Stmt:=top 7
abbrev qr :Stmt:=top 8
structure ml (mg:Str->Option Value)(fW fI fP fD fPD:Addr):Prop where
 isi:mg "isinstance"=none
 int:mg "int"=none
 bool:mg "bool"=none
 tuple:mg "tuple"=none
 len:mg "len"=none
 last:∃t,mg "LAST_DAY"=some (.int 1000000 t)
 most:∃t,mg "MOST_NIGHTS"=some (.int 14 t)
 whole:mg "is_whole"=some (.ref fW)
 within:mg "is_whole_within"=some (.ref fI)
 pair:mg "is_pair"=some (.ref fP)
 day:mg "is_day"=some (.ref fD)
 days:mg "is_pair_of_days"=some (.ref fPD)
section
variable {P:Program}{w:World}{K:PySem.W.Frag}{mg:Str->Option Value}{base:Heap}{fW fI fP fD fPD:Addr}
theorem sO :zo ["thing"] ["thing"] (zc tD):=.o
theorem aI {f:Addr}{fd:FuncData}(F:Fun K "is_whole" "is_whole" tD f fd)(T:ml mg fW fI fP fD fPD):zC P w K mg base CX0 1 f fd ["thing"] (yS yV):=by
 refine F.ok sO (fun vs H Q E h=>?_) (fun cdv A outer s H vs Q E hr h=>?_)
 ·obtain⟨x,d,rfl,_⟩:=h;rfl
 ·obtain⟨x,d,rfl,hd,q⟩:=h;refine⟨_,zx (zB (xo (yi xP (by rfl) T.isi zZ8 (zg (pv 0) (zg (vN (v:=.ty "int") (by rfl) T.int boot_int rfl) zu)))
   (xV (bq (yi xP (by rfl) T.isi zZ8 (zg (pv 0) (zg (vN (v:=.ty "bool") (by rfl) T.bool boot_bool rfl) zu))))))),?_⟩
  rw[tM] at q;refine⟨_,rfl,x,"int",d,_,rfl,hd,zj1 d,_,rfl,?_⟩;refine yF (fun h=>?_) (fun h=>?_)
  ·rw[h,zR1] at q;exact⟨_,rfl,x,"bool",d,_,rfl,hd,qx d,_,rfl,q⟩
  ·rw[zS7.mpr h,zR6] at q;exact q
theorem cj :zo ["thing","lowest","highest"] ["thing","lowest","highest"] (zc oN):=.o
theorem gY {f:Addr}{fd fdW:FuncData}(F:Fun K "is_whole_within" "is_whole_within" oN f fd)(T:ml mg fW fI fP fD fPD)(FW:Fun K "is_whole" "is_whole" tD fW fdW)(bW:Binds K fdW ["thing"] []):
  zC P w K mg base CX0 2 f fd ["thing","lowest","highest"] vG:=by
 have GW:zC P w K mg base CX0 1 fW fdW ["thing"] (yS yV):=aI FW T;refine F.ok cj (fun vs H Q E h=>?_) (fun cdv A outer s H vs Q E hr h=>?_)
 ·obtain⟨x,d,lo,hi,rfl,_⟩:=h;rfl
 ·obtain⟨x,d,lo,hi,rfl,hd,q⟩:=h;refine⟨_,zx (zB (xo (zX GW hr (by rfl) T.whole FW.kp bW .nil yk (zg (pv 0) zu)) (xV (rq uc uc (pv 1) (pv 0) (pv 2))))),?_⟩;refine⟨_,rfl,x,d,rfl,hd,_,rfl,?_⟩;cases hd with
  |int i=>
   have q':Q (.bl (decide (lo<=i)&&decide (i<=hi))) H:=q;refine vY ⟨_,rfl,_,rfl,_,_,rfl,rfl,_,rfl,?_⟩;refine yF (fun h=>?_) (fun h=>?_)
   ·rw[h,zR1] at q';exact⟨_,rfl,_,_,rfl,rfl,q'⟩
   ·rw[zS7.mpr h,zR6] at q';exact q'
  |_=>exact uw q
theorem zx2 :zo ["thing"] ["thing"] (zc aQ):=.o
theorem zj9 {f:Addr}{fd:FuncData}(F:Fun K "is_pair" "is_pair" aQ f fd)(T:ml mg fW fI fP fD fPD):zC P w K mg base CX0 1 f fd ["thing"] (yS pairD):=by
 refine F.ok zx2 (fun vs H Q E h=>?_) (fun cdv A outer s H vs Q E hr h=>?_)
 ·obtain⟨x,d,rfl,_⟩:=h;rfl
 ·obtain⟨x,d,rfl,hd,q⟩:=h;refine⟨_,zx (zB (xo (yi xP (by rfl) T.isi zZ8 (zg (pv 0) (zg (vN (v:=.ty "tuple") (by rfl) T.tuple boot_tuple rfl) zu)))
   (xV (wk vo (yi yx (by rfl) T.len zZ1 (zg (pv 0) zu)) zr (zG _))))),?_⟩
  refine⟨_,rfl,x,"tuple",d,_,rfl,hd,qZ d,_,rfl,?_⟩;cases hd with
  |@tup a xs ds e hs=>
   refine vY ⟨_,rfl,a,_,rfl,.inr (SqT.of e),rfl,?_⟩;rw[zq3,hs.length];exact q
  |_=>exact uw q
theorem zJ6 :zo ["thing"] ["thing"] (zc zt8):=.o
theorem zC5 {f:Addr}{fd fdI:FuncData}(F:Fun K "is_day" "is_day" zt8 f fd)(T:ml mg fW fI fP fD fPD)(GI:zC P w K mg base CX0 2 fI fdI ["thing","lowest","highest"] vG)(kI:PySem.W.keepIn K (.ref fI)=true)(bI:Binds K fdI ["thing","lowest","highest"] []):
  zC P w K mg base CX0 3 f fd ["thing"] (yS uM):=by
 obtain⟨tl,hl⟩:=T.last;refine F.ok zJ6 (fun vs H Q E h=>?_) (fun cdv A outer s H vs Q E hr h=>?_)
 ·obtain⟨x,d,rfl,_⟩:=h;rfl
 ·obtain⟨x,d,rfl,hd,q⟩:=h;refine⟨_,zx (zB (zX GI hr (by rfl) T.within kI bI .nil yk (zg (pv 0) (zg zr (zg (uL (v:=.int 1000000) (by rfl) hl ⟨tl,rfl⟩) zu))))),?_⟩;exact⟨_,rfl,x,d,_,_,rfl,hd,q⟩
theorem zy3 :zo ["thing"] ["thing"] (zc aL):=.o
theorem zi8 {f:Addr}{fd fdP fdD:FuncData}(F:Fun K "is_pair_of_days" "is_pair_of_days" aL f fd)(T:ml mg fW fI fP fD fPD)(GP:zC P w K mg base CX0 1 fP fdP ["thing"] (yS pairD))(kP:PySem.W.keepIn K (.ref fP)=true)(bP:Binds K fdP ["thing"] [])
  (GD:zC P w K mg base CX0 3 fD fdD ["thing"] (yS uM)) (kD:PySem.W.keepIn K (.ref fD)=true) (bD:Binds K fdD ["thing"] []):zC P w K mg base CX0 4 f fd ["thing"] (yS rG):=by
 refine F.ok zy3 (fun vs H Q E h=>?_) (fun cdv A outer s H vs Q E hr h=>?_)
 ·obtain⟨x,d,rfl,_⟩:=h;rfl
 ·obtain⟨x,d,rfl,hd,q⟩:=h;have hr1:zV 1 _:=hr.mono (by decide);refine⟨_,zx (zB (xo (zX GP hr1 (by rfl) T.pair kP bP .nil yk (zg (pv 0) zu))
   (xo (zX GD hr (by rfl) T.day kD bD .nil yk (zg (zS yI (pv 0) zr (fun _ _=>rfl)) zu))
   (xV (zX GD hr (by rfl) T.day kD bD .nil yk (zg (zS yI (pv 0) zr (fun _ _=>rfl)) zu)))))),?_⟩
  refine⟨_,rfl,x,d,rfl,hd,_,rfl,?_⟩;refine yF (fun h=>?_) (fun h=>?_)
  ·obtain⟨a,b,rfl⟩:=tT h;cases hd with
   |tup e hs=>
    cases hs with
    |cons ha hs=>
     cases hs with
     |cons hb hs=>
      cases hs;have q':Q (.bl (uM a&&uM b)) H:=q;refine⟨_,rfl,_,_,0,_,rfl,rfl,SqT.of e,rfl,_,_,rfl,ha,_,rfl,?_⟩;refine yF (fun h=>?_) (fun h=>?_)
      ·rw[h,zR1] at q';exact⟨_,rfl,_,_,1,_,rfl,rfl,SqT.of e,rfl,_,_,rfl,hb,q'⟩
      ·rw[zS7.mpr h,zR6] at q';exact q'
  ·have e:rG d=false:=by
    unfold rG;split
    ·exact absurd rfl h
    ·rfl
   rw[e] at q;exact q
theorem de :zo ["thing"] ["thing"] (zc qr):=.o
theorem jq {f:Addr}{fd fdP:FuncData}(F:Fun K "is_stretch" "is_stretch" qr f fd)(T:ml mg fW fI fP fD fPD)(G:zC P w K mg base CX0 4 fPD fdP ["thing"] (yS rG))(kP:PySem.W.keepIn K (.ref fPD)=true)(bP:Binds K fdP ["thing"] []):
  zC P w K mg base CX0 5 f fd ["thing"] (yS yv):=by
 refine F.ok de (fun vs H Q E h=>?_) (fun cdv A outer s H vs Q E hr h=>?_)
 ·obtain⟨x,d,rfl,_⟩:=h;rfl
 ·obtain⟨x,d,rfl,hd,q⟩:=h;refine⟨_,zx (zB (xo (zX G hr (by rfl) T.days kP bP .nil yk (zg (pv 0) zu))
   (xV (wk uc (zS yI (pv 0) zr (fun _ _=>rfl)) (zS yI (pv 0) zr (fun _ _=>rfl)) (zG _))))),?_⟩
  refine⟨_,rfl,x,d,rfl,hd,_,rfl,?_⟩;refine yF (fun h=>?_) (fun h=>?_)
  ·obtain⟨a,b,rfl,ef⟩:=kY h;unfold yv at q;rw[ef] at q;have q':Q (.bl (decide (0<=b-a))) H:=q;have eq1:decide (0<=b-a)=decide (a<=b):=by
    rw[decide_eq_decide];omega
   rw[eq1] at q';cases hd with
   |tup e hs=>
    cases hs with
    |cons ha hs=>
     cases ha;cases hs with
     |cons hb hs=>
      cases hb;cases hs;exact⟨_,rfl,_,_,0,_,rfl,rfl,SqT.of e,rfl,_,rfl,_,_,1,_,rfl,rfl,SqT.of e,rfl,_,_,rfl,rfl,q'⟩
  ·rw[rn] at h;unfold yv at q;cases ef:qI d with
   |some k=>rw[ef] at h;exact absurd rfl h
   |none=>
    rw[ef] at q;exact q
end
abbrev jY :Stmt:=inClass (top 30) 0
abbrev jt :Stmt:=inClass (top 30) 3
abbrev oH :Stmt:=inClass (top 31) 0
abbrev kG :Stmt:=inClass (top 32) 0
abbrev zA7 :Stmt:=inClass (top 33) 0
abbrev nv :Stmt:=inClass (top 34) 0
abbrev jC :Stmt:=inClass (top 35) 0
abbrev ke :Stmt:=inClass (top 36) 0
abbrev bQ :Stmt:=inClass (top 37) 0
abbrev jg :Stmt:=top 39
abbrev om :Stmt:=top 40
abbrev je :Stmt:=top 41
abbrev oy :Stmt:=top 42
abbrev aA :Stmt:=top 43
abbrev ng :Stmt:=top 44
structure lW (mg:Str->Option Value)(fW fI fP fD fPD fS fC fDl fWo fR fM:Addr)(cs:Cs):Prop where
 d:ml mg fW fI fP fD fPD
 coinsMost:∃t,mg "MOST_COINS"=some (.int 1000000000000 t)
 stretch:mg "is_stretch"=some (.ref fS)
 coins:mg "is_coins"=some (.ref fC)
 deal:mg "is_deal"=some (.ref fDl)
 worth:mg "is_worth"=some (.ref fWo)
 rule:mg "is_rule"=some (.ref fR)
 made:mg "made"=some (.ref fM)
 cPrice:mg "Price"=some (.ref cs.price)
 cCome:mg "Come"=some (.ref cs.come)
 cGo:mg "Go"=some (.ref cs.go)
 cLeast:mg "Least"=some (.ref cs.least)
 cMost:mg "Most"=some (.ref cs.most)
 cDeal:mg "Deal"=some (.ref cs.deal)
 cFee:mg "Fee"=some (.ref cs.fee)
section
variable {P:Program}{w:World}{K:PySem.W.Frag}{mg:Str->Option Value}{base:Heap}{fW fI fP fD fPD fS fC fDl fWo fR fM:Addr}{cs:Cs}
theorem zB6 :zo ["self","first","last","worth"] ["self","first","last","worth"] (zc jY):=.o
theorem wV {f C fT fE fWd:Addr}{fd:FuncData}(F:Fun K "__init__" "Rule.__init__" jY f fd)(R:wU K C f fT fE fWd):zC P w K mg base CX0 1 f fd ["self","first","last","worth"] (zv6 C):=by
 refine F.ok zB6 (fun vs H Q E h=>?_) (fun cdv A outer s H vs Q E hr h=>?_)
 ·obtain⟨p,dx,x,y,z,rfl,_⟩:=h;rfl
 ·obtain⟨p,dx,x,y,z,rfl,hp,q⟩:=h;refine⟨_,zJ (nu (pv 0) (pv 1) rfl) (zJ (nu (pv 0) (pv 2) rfl) (zx (nu (pv 0) (pv 3) rfl))),?_⟩;refine⟨_,rfl,_,rfl,p,C,dx,[],rfl,hp,R.cl,R.nf,(by show 0<1000;decide),?_⟩;refine⟨_,rfl,_,rfl,p,C,dx,_,rfl,zk,R.cl,R.nl,(by show 1<1000;decide),?_⟩;refine⟨_,rfl,_,rfl,p,C,dx,wa "last" y (wa "first" x []),rfl,zk,R.cl,R.nw,?_,?_⟩
  ·show (if ("first":Str)="last" then _ else _:List (Str×V)).length<1000;rw[if_neg (fun e=>ze2 e.symm)];show 2<1000
   decide
  ·rw[sM,sM];exact q
theorem cN :zo ["self"] ["self"] (zc oH):=.o
theorem zr3 :zo ["self"] ["self"] (zc kG):=.o
theorem zJ7 :zo ["self"] ["self"] (zc zA7):=.o
theorem ze8 :zo ["self"] ["self"] (zc nv):=.o
theorem zn4 :zo ["self"] ["self"] (zc jC):=.o
theorem zp1 :zo ["self"] ["self"] (zc ke):=.o
theorem zx9 :zo ["self"] ["self"] (zc bQ):=.o
theorem gp {f:Addr}{fd:FuncData}(F:Fun K "word" "Price.word" oH f fd):zC P w K mg base CX0 1 f fd ["self"] (vK "price"):=by
 refine F.ok cN (fun vs H Q E h=>?_) (fun cdv A outer s H vs Q E hr h=>?_)
 ·obtain⟨p,rfl,_⟩:=h;rfl
 ·obtain⟨p,rfl,q⟩:=h;exact⟨_,zx (zB yp),q⟩
theorem aP {f:Addr}{fd:FuncData}(F:Fun K "word" "Come.word" kG f fd):zC P w K mg base CX0 1 f fd ["self"] (vK "come"):=by
 refine F.ok zr3 (fun vs H Q E h=>?_) (fun cdv A outer s H vs Q E hr h=>?_)
 ·obtain⟨p,rfl,_⟩:=h;rfl
 ·obtain⟨p,rfl,q⟩:=h;exact⟨_,zx (zB yp),q⟩
theorem zv5 {f:Addr}{fd:FuncData}(F:Fun K "word" "Go.word" zA7 f fd):zC P w K mg base CX0 1 f fd ["self"] (vK "go"):=by
 refine F.ok zJ7 (fun vs H Q E h=>?_) (fun cdv A outer s H vs Q E hr h=>?_)
 ·obtain⟨p,rfl,_⟩:=h;rfl
 ·obtain⟨p,rfl,q⟩:=h;exact⟨_,zx (zB yp),q⟩
theorem eW {f:Addr}{fd:FuncData}(F:Fun K "word" "Least.word" nv f fd):zC P w K mg base CX0 1 f fd ["self"] (vK "least"):=by
 refine F.ok ze8 (fun vs H Q E h=>?_) (fun cdv A outer s H vs Q E hr h=>?_)
 ·obtain⟨p,rfl,_⟩:=h;rfl
 ·obtain⟨p,rfl,q⟩:=h;exact⟨_,zx (zB yp),q⟩
theorem bO {f:Addr}{fd:FuncData}(F:Fun K "word" "Most.word" jC f fd):zC P w K mg base CX0 1 f fd ["self"] (vK "most"):=by
 refine F.ok zn4 (fun vs H Q E h=>?_) (fun cdv A outer s H vs Q E hr h=>?_)
 ·obtain⟨p,rfl,_⟩:=h;rfl
 ·obtain⟨p,rfl,q⟩:=h;exact⟨_,zx (zB yp),q⟩
theorem dC {f:Addr}{fd:FuncData}(F:Fun K "word" "Deal.word" ke f fd):zC P w K mg base CX0 1 f fd ["self"] (vK "deal"):=by
 refine F.ok zp1 (fun vs H Q E h=>?_) (fun cdv A outer s H vs Q E hr h=>?_)
 ·obtain⟨p,rfl,_⟩:=h;rfl
 ·obtain⟨p,rfl,q⟩:=h;exact⟨_,zx (zB yp),q⟩
theorem zp0 {f:Addr}{fd:FuncData}(F:Fun K "word" "Fee.word" bQ f fd):zC P w K mg base CX0 1 f fd ["self"] (vK "fee"):=by
 refine F.ok zx9 (fun vs H Q E h=>?_) (fun cdv A outer s H vs Q E hr h=>?_)
 ·obtain⟨p,rfl,_⟩:=h;rfl
 ·obtain⟨p,rfl,q⟩:=h;exact⟨_,zx (zB yp),q⟩
theorem zg9 :zo ["self","day"] ["self","day"] (zc jt):=.o
theorem xZ {f C fIn fT fWd:Addr}{fd:FuncData}(F:Fun K "tells" "Rule.tells" jt f fd)(R:wU K C fIn fT f fWd):zC P w K mg base CX0 1 f fd ["self","day"] (gc C):=by
 refine F.ok zg9 (fun vs H Q E h=>?_) (fun cdv A outer s H vs Q E hr h=>?_)
 ·obtain⟨p,dx,a,b,day,z,rfl,_⟩:=h;rfl
 ·obtain⟨p,dx,a,b,day,z,rfl,hp,q⟩:=h;refine⟨_,zx (zB (rq uc uc (ko (pv 0) rfl) (pv 1) (ko (pv 0) rfl))),?_⟩;refine⟨_,rfl,p,C,dx,_,_,rfl,hp,R.cl,R.nf,jx _ _ _,_,rfl,_,_,rfl,rfl,_,rfl,?_⟩;refine yF (fun h=>?_) (fun h=>?_)
  ·rw[h,zR1] at q;exact⟨_,rfl,p,C,dx,_,_,rfl,hp,R.cl,R.nl,eQ _ _ _,_,_,rfl,rfl,q⟩
  ·rw[zS7.mpr h,zR6] at q;exact q
theorem zm7 :zo ["thing"] ["thing"] (zc jg):=.o
theorem cJ {f:Addr}{fd fdI:FuncData}(F:Fun K "is_coins" "is_coins" jg f fd)(T:lW mg fW fI fP fD fPD fS fC fDl fWo fR fM cs)(GI:zC P w K mg base CX0 2 fI fdI ["thing","lowest","highest"] vG)(kI:PySem.W.keepIn K (.ref fI)=true)(bI:Binds K fdI ["thing","lowest","highest"] []):
  zC P w K mg base CX0 3 f fd ["thing"] (yS vC):=by
 obtain⟨tl,hl⟩:=T.coinsMost;refine F.ok zm7 (fun vs H Q E h=>?_) (fun cdv A outer s H vs Q E hr h=>?_)
 ·obtain⟨x,d,rfl,_⟩:=h;rfl
 ·obtain⟨x,d,rfl,hd,q⟩:=h;refine⟨_,zx (zB (zX GI hr (by rfl) T.d.within kI bI .nil yk (zg (pv 0) (zg zr (zg (uL (v:=.int 1000000000000) (by rfl) hl ⟨tl,rfl⟩) zu))))),?_⟩;exact⟨_,rfl,x,d,_,_,rfl,hd,q⟩
theorem zd3 :zo ["thing"] ["thing"] (zc om):=.o
theorem gS {f:Addr}{fd fdI fdP:FuncData}(F:Fun K "is_deal" "is_deal" om f fd)(T:lW mg fW fI fP fD fPD fS fC fDl fWo fR fM cs)(GI:zC P w K mg base CX0 2 fI fdI ["thing","lowest","highest"] vG)(kI:PySem.W.keepIn K (.ref fI)=true)(bI:Binds K fdI ["thing","lowest","highest"] [])
  (GP:zC P w K mg base CX0 1 fP fdP ["thing"] (yS pairD)) (kP:PySem.W.keepIn K (.ref fP)=true) (bP:Binds K fdP ["thing"] []):zC P w K mg base CX0 3 f fd ["thing"] (yS uG):=by
 obtain⟨tm,hm⟩:=T.d.most;refine F.ok zd3 (fun vs H Q E h=>?_) (fun cdv A outer s H vs Q E hr h=>?_)
 ·obtain⟨x,d,rfl,_⟩:=h;rfl
 ·obtain⟨x,d,rfl,hd,q⟩:=h;have hr1:zV 1 _:=hr.mono (by decide);refine⟨_,zx (zB (xo (zX GP hr1 (by rfl) T.d.pair kP bP .nil yk (zg (pv 0) zu))
   (xo (zX GI hr (by rfl) T.d.within kI bI .nil yk (zg (zS yI (pv 0) zr (fun _ _=>rfl)) (zg zr (zg (uL (v:=.int 14) (by rfl) hm ⟨tm,rfl⟩) zu))))
   (xV (zX GI hr (by rfl) T.d.within kI bI .nil yk (zg (zS yI (pv 0) zr (fun _ _=>rfl)) (zg zr (zg (yz bJ (zS yI (pv 0) zr (fun _ _=>rfl)) zr) zu)))))))),?_⟩
  refine⟨_,rfl,x,d,rfl,hd,_,rfl,?_⟩;refine yF (fun h=>?_) (fun h=>?_)
  ·obtain⟨a,b,rfl⟩:=tT h;cases hd with
   |tup e hs=>
    cases hs with
    |cons ha hs=>
     cases hs with
     |cons hb hs=>
      cases hs;refine⟨_,rfl,_,_,0,_,rfl,rfl,SqT.of e,rfl,_,_,_,_,rfl,ha,_,rfl,?_⟩;cases ha with
      |int m=>
       have q':Q (.bl (yo 2 14 (.int m)&&yo 1 (m-1) b)) H:=q;refine yF (fun h=>?_) (fun h=>?_)
       ·rw[h,zR1] at q';exact⟨_,rfl,_,_,1,_,rfl,rfl,SqT.of e,rfl,_,rfl,_,_,0,_,rfl,rfl,SqT.of e,rfl,_,_,rfl,rfl,_,_,_,_,rfl,hb,q'⟩
       ·rw[zS7.mpr h,zR6] at q';exact q'
      |_=>exact uw q
  ·have e:uG d=false:=by
    unfold uG;split
    ·exact absurd rfl h
    ·rfl
   rw[e] at q;exact q
theorem zm8 :zo ["word","thing"] ["word","thing"] (zc je):=.o
theorem za1 {f:Addr}{fd fdI fdC fdDl:FuncData}(F:Fun K "is_worth" "is_worth" je f fd)(T:lW mg fW fI fP fD fPD fS fC fDl fWo fR fM cs)(GI:zC P w K mg base CX0 2 fI fdI ["thing","lowest","highest"] vG)(kI:PySem.W.keepIn K (.ref fI)=true)(bI:Binds K fdI ["thing","lowest","highest"] [])
  (GC:zC P w K mg base CX0 3 fC fdC ["thing"] (yS vC)) (kC:PySem.W.keepIn K (.ref fC)=true) (bC:Binds K fdC ["thing"] []) (GDl:zC P w K mg base CX0 3 fDl fdDl ["thing"] (yS uG)) (kDl:PySem.W.keepIn K (.ref fDl)=true) (bDl:Binds K fdDl ["thing"] []):
  zC P w K mg base CX0 4 f fd ["word","thing"] iC:=by
 obtain⟨tm,hm⟩:=T.d.most;refine F.ok zm8 (fun vs H Q E h=>?_) (fun cdv A outer s H vs Q E hr h=>?_)
 ·obtain⟨x,y,dw,dv,rfl,_⟩:=h;rfl
 ·obtain⟨x,y,dw,dv,rfl,hx,sw,hy,q⟩:=h;have hr2:zV 2 _:=hr.mono (by decide);have hu:=hr.units;have st:∀{z:Str},z∈words->SeqAt.shaped (.str z)=true:=fun {z} hz=>jc (by
   simp only[words,zP2,zQ3,zS4] at hz;rcases hz with rfl|rfl|rfl|rfl|rfl|rfl|rfl<;>decide +kernel)
  unfold zD at q
  -- if word == 'price'
  refine yb (fun σ H1=>σ=[some x,some y]/\eqS dw "price"=false/\H=H1)
   ⟨_,wt (ym (vI hu) (pv 0) yp (zG _)) (zx (zB (zs6 (wk jj (pv 1) pY (zG _)) (xV (zX GC hr (by rfl) T.coins kC bC .nil yk (zg (pv 1) zu)))))) yE,?_⟩ ?_
  ·refine⟨_,rfl,dw,.str "price",hx,.str _,sw,st (by simp[words]),_,rfl,?_⟩;refine yF (fun h=>?_) (fun h=>⟨rfl,zS7.mpr h,rfl⟩);rw[if_pos h] at q;refine⟨_,rfl,rfl,_,rfl,?_⟩;rw[hy.non_iff];refine yF (fun h2=>?_) (fun h2=>?_)
   ·rw[h2,z60] at q;exact q
   ·rw[zS7.mpr h2,zY8] at q;exact⟨_,rfl,y,dv,rfl,hy,q⟩
  rintro σ H1 ⟨rfl,e1,rfl⟩;rw[e1,if_neg zQ5] at q
  -- if word == 'come' or word == 'go'
  refine yb (fun σ H1=>σ=[some x,some y]/\(eqS dw "come"||eqS dw "go")=false/\H=H1)
   ⟨_,wt (PW.pt (bG (ym (vI hu) (pv 0) yp (zG _)) (lO (ym (vI hu) (pv 0) yp (zG _))))) (zx (zB (yi xP (by rfl) T.d.isi zZ8 (zg (pv 1) (zg (vN (v:=.ty "bool") (by rfl) T.d.bool boot_bool rfl) zu))))) yE,?_⟩ ?_
  ·refine⟨_,rfl,dw,.str "come",hx,.str _,sw,st (by simp[words]),_,rfl,?_⟩;refine yF (fun h=>?_) (fun h=>?_)
   ·have h':eqS dw "come"=true:=h;rw[h',z60,if_pos rfl] at q;exact vY ⟨_,rfl,y,"bool",dv,_,rfl,hy,qx dv,q⟩
   ·have h':eqS dw "come"=false:=zS7.mpr h;refine⟨_,rfl,dw,.str "go",hx,.str _,sw,st (by simp[words]),_,rfl,?_⟩;refine yF (fun h2=>?_) (fun h2=>?_)
    ·have h2':eqS dw "go"=true:=h2;rw[h',h2',zY8,if_pos rfl] at q;exact⟨_,rfl,y,"bool",dv,_,rfl,hy,qx dv,q⟩
    ·have h2':eqS dw "go"=false:=zS7.mpr h2;exact⟨rfl,by rw[h',h2'];rfl,rfl⟩
  rintro σ H1 ⟨rfl,e2,rfl⟩;rw[e2,if_neg zQ5] at q
  -- if word == 'least' or word == 'most'
  refine yb (fun σ H1=>σ=[some x,some y]/\(eqS dw "least"||eqS dw "most")=false/\H=H1)
   ⟨_,wt (PW.pt (bG (ym (vI hu) (pv 0) yp (zG _)) (lO (ym (vI hu) (pv 0) yp (zG _))))) (zx (zB (zX GI hr2 (by rfl) T.d.within kI bI .nil yk (zg (pv 1) (zg zr (zg (uL (v:=.int 14) (by rfl) hm ⟨tm,rfl⟩) zu)))))) yE,?_⟩ ?_
  ·refine⟨_,rfl,dw,.str "least",hx,.str _,sw,st (by simp[words]),_,rfl,?_⟩;refine yF (fun h=>?_) (fun h=>?_)
   ·have h':eqS dw "least"=true:=h;rw[h',z60,if_pos rfl] at q;exact vY ⟨_,rfl,y,dv,_,_,rfl,hy,q⟩
   ·have h':eqS dw "least"=false:=zS7.mpr h;refine⟨_,rfl,dw,.str "most",hx,.str _,sw,st (by simp[words]),_,rfl,?_⟩;refine yF (fun h2=>?_) (fun h2=>?_)
    ·have h2':eqS dw "most"=true:=h2;rw[h',h2',zY8,if_pos rfl] at q;exact⟨_,rfl,y,dv,_,_,rfl,hy,q⟩
    ·have h2':eqS dw "most"=false:=zS7.mpr h2;exact⟨rfl,by rw[h',h2'];rfl,rfl⟩
  rintro σ H1 ⟨rfl,e3,rfl⟩;rw[e3,if_neg zQ5] at q
  -- if word == 'deal'
  refine yb (fun σ H1=>σ=[some x,some y]/\eqS dw "deal"=false/\H=H1)
   ⟨_,wt (ym (vI hu) (pv 0) yp (zG _)) (zx (zB (zs6 (wk jj (pv 1) pY (zG _)) (xV (zX GDl hr (by rfl) T.deal kDl bDl .nil yk (zg (pv 1) zu)))))) yE,?_⟩ ?_
  ·refine⟨_,rfl,dw,.str "deal",hx,.str _,sw,st (by simp[words]),_,rfl,?_⟩;refine yF (fun h=>?_) (fun h=>⟨rfl,zS7.mpr h,rfl⟩);rw[if_pos h] at q;refine⟨_,rfl,rfl,_,rfl,?_⟩;rw[hy.non_iff];refine yF (fun h2=>?_) (fun h2=>?_)
   ·rw[h2,z60] at q;exact q
   ·rw[zS7.mpr h2,zY8] at q;exact⟨_,rfl,y,dv,rfl,hy,q⟩
  rintro σ H1 ⟨rfl,e4,rfl⟩;rw[e4,if_neg zQ5] at q;refine⟨_,zx (zB (xo (wk (vI hu) (pv 0) yp (zG _)) (xV (zX GC hr (by rfl) T.coins kC bC .nil yk (zg (pv 1) zu))))),?_⟩;refine⟨_,rfl,dw,.str "fee",hx,.str _,sw,st (by simp[words]),_,rfl,?_⟩;refine yF (fun h=>?_) (fun h=>?_)
  ·have h':eqS dw "fee"=true:=h;rw[h',zR1] at q;exact⟨_,rfl,y,dv,rfl,hy,q⟩
  ·have h':eqS dw "fee"=false:=zS7.mpr h;rw[h',zR6] at q;exact q
theorem bx :zo ["thing"] ["thing"] (zc oy):=.o
theorem gJ {f:Addr}{fd fdS fdWo:FuncData}(F:Fun K "is_rule" "is_rule" oy f fd)(T:lW mg fW fI fP fD fPD fS fC fDl fWo fR fM cs)(GS:zC P w K mg base CX0 5 fS fdS ["thing"] (yS yv))(kS:PySem.W.keepIn K (.ref fS)=true)(bS:Binds K fdS ["thing"] [])
  (GW:zC P w K mg base CX0 4 fWo fdWo ["word","thing"] iC) (kW:PySem.W.keepIn K (.ref fWo)=true) (bW:Binds K fdWo ["word","thing"] []):zC P w K mg base CX0 6 f fd ["thing"] aw:=by
 refine F.ok bx (fun vs H Q E h=>?_) (fun cdv A outer s H vs Q E hr h=>?_)
 ·obtain⟨x,d,rfl,_⟩:=h;rfl
 ·obtain⟨x,d,rfl,hd,sd,q⟩:=h;have hr4:zV 4 _:=hr.mono (by decide);refine⟨_,zx (zB (xo (yi xP (by rfl) T.d.isi zZ8 (zg (pv 0) (zg (vN (v:=.ty "tuple") (by rfl) T.d.tuple boot_tuple rfl) zu)))
   (xo (wk vo (yi yx (by rfl) T.d.len zZ1 (zg (pv 0) zu)) zr (zG _))
   (xo (zX GS hr (by rfl) T.stretch kS bS .nil yk (zg (oK (zg (zS yI (pv 0) zr (fun _ _=>rfl)) (zg (zS yI (pv 0) zr (fun _ _=>rfl)) zu))) zu))
   (xV (zX GW hr4 (by rfl) T.worth kW bW .nil yk (zg (zS yI (pv 0) zr (fun _ _=>rfl)) (zg (zS yI (pv 0) zr (fun _ _=>rfl)) zu)))))))),?_⟩
  refine⟨_,rfl,x,"tuple",d,_,rfl,hd,qZ d,_,rfl,?_⟩;cases hd with
  |@tup a xs ds e hs=>
   refine vY ⟨_,rfl,a,_,rfl,.inr (SqT.of e),rfl,_,rfl,?_⟩;cases hs with
   |nil=>exact yF (fun h=>absurd h (by simp)) (fun _=>q H (zz.refl H))
   |@cons xw _ dw _ hw hs=>
   cases hs with
   |nil=>exact yF (fun h=>absurd h (by simp)) (fun _=>q H (zz.refl H))
   |@cons xa _ da _ ha hs=>
   cases hs with
   |nil=>exact yF (fun h=>absurd h (by simp)) (fun _=>q H (zz.refl H))
   |@cons xb _ db _ hb hs=>
   cases hs with
   |nil=>exact yF (fun h=>absurd h (by simp)) (fun _=>q H (zz.refl H))
   |@cons xv _ dv _ hv hs=>
   cases hs with
   |cons _ _=>exact yF (fun h=>absurd h (by simp;omega)) (fun _=>q H (zz.refl H))
   |nil=>
    refine yF (fun _=>?_) (fun h=>absurd rfl h);refine⟨_,rfl,a,_,1,_,rfl,rfl,SqT.of e,rfl,_,rfl,a,_,2,_,rfl,rfl,SqT.of e,rfl,(by show 2<=sizeLine;decide),fun p hp=>?_⟩;have s1:zz H (upd H p (.tup [xa,xb])):=yj hp;refine⟨_,.tuple [da,db],rfl,.tup zk (.cons (ha.same s1) (.cons (hb.same s1) .nil)),_,rfl,?_⟩;have q':Q (.bl (yv (.tuple [da,db])&&zD dw dv)) (upd H p (.tup [xa,xb])):=q _ s1;refine yF (fun h=>?_) (fun h=>?_)
    ·rw[h,zR1] at q';exact⟨_,rfl,a,_,0,_,rfl,rfl,SqT.of (s1 _ _ e),rfl,_,rfl,a,_,3,_,rfl,rfl,SqT.of (s1 _ _ e),rfl,_,_,_,_,rfl,hw.same s1,nG sd dw (by simp),hv.same s1,q'⟩
    ·rw[zS7.mpr h,zR6] at q';exact q'
  |_=>exact uw (q H (zz.refl H))
end
section
variable {P:Program}{w:World}{K:PySem.W.Frag}{mg:Str->Option Value}{base:Heap}{fW fI fP fD fPD fS fC fDl fWo fR fM:Addr}{cs:Cs}
structure bV (K:PySem.W.Frag)(cs:Cs)(fIn fTo fTe w1 w2 w3 w4 w5 w6 w7:Addr):Prop where
 price:wU K cs.price fIn fTo fTe w1
 come:wU K cs.come fIn fTo fTe w2
 go:wU K cs.go fIn fTo fTe w3
 least:wU K cs.least fIn fTo fTe w4
 most:wU K cs.most fIn fTo fTe w5
 deal:wU K cs.deal fIn fTo fTe w6
 fee:wU K cs.fee fIn fTo fTe w7
theorem uE (cs:Cs):cs.of "price"=cs.price:=by unfold Cs.of;rw[if_pos rfl]
theorem sW (cs:Cs):cs.of "come"=cs.come:=by unfold Cs.of;rw[if_neg (by decide +kernel),if_pos rfl]
theorem iu (cs:Cs):cs.of "go"=cs.go:=by unfold Cs.of;rw[if_neg (by decide +kernel),if_neg (by decide +kernel),if_pos rfl]
theorem uP (cs:Cs):cs.of "least"=cs.least:=by unfold Cs.of;rw[if_neg (by decide +kernel),if_neg (by decide +kernel),if_neg (by decide +kernel),if_pos rfl]
theorem sJ (cs:Cs):cs.of "most"=cs.most:=by unfold Cs.of;rw[if_neg (by decide +kernel),if_neg (by decide +kernel),if_neg (by decide +kernel),if_neg (by decide +kernel),if_pos rfl]
theorem sX (cs:Cs):cs.of "deal"=cs.deal:=by unfold Cs.of;rw[if_neg (by decide +kernel),if_neg (by decide +kernel),if_neg (by decide +kernel),if_neg (by decide +kernel),if_neg (by decide +kernel),if_pos rfl]
theorem nk (cs:Cs):cs.of "fee"=cs.fee:=by unfold Cs.of;rw[if_neg (by decide +kernel),if_neg (by decide +kernel),if_neg (by decide +kernel),if_neg (by decide +kernel),if_neg (by decide +kernel),if_neg (by decide +kernel)]
theorem tf {x y:Str}(h:decide (V.str x=V.str y)=true):x=y:=by
 have:=zT5 h;injection this
theorem tu {x y:Str}(h:¬decide (V.str x=V.str y)=true):x≠y:=fun e=>h (by rw[e];exact zS3 rfl)
theorem xW {C p dx:Addr}{H:Hp}{x y z:V}{Q:VK}(k:∀(p dx:Addr) (H':Hp),H' p=some (.ins C dx (sC x y z))->H p=none->zz H H'->Q (.ref p) H')(hp:H p=none)(hx:H dx=none)(n:dx≠p):
  Q (.ref p) (upd (upd (upd H dx (.own p)) p (.ins C dx [])) p (.ins C dx (sC x y z))):=by
 refine k p dx _ zk hp fun a o e=>?_;rw[sM,zh (zm e hp),zh (zm e hx)];exact e
theorem zv1 :zo ["word","first","last","worth"] ["word","first","last","worth"] (zc aA):=.o
theorem zm2 {f fIn fTo fTe w1 w2 w3 w4 w5 w6 w7:Addr}{fd fdIn:FuncData}(F:Fun K "made" "made" aA f fd)(T:lW mg fW fI fP fD fPD fS fC fDl fWo fR fM cs)(A7:bV K cs fIn fTo fTe w1 w2 w3 w4 w5 w6 w7)
  (FI:Fun K "__init__" "Rule.__init__" jY fIn fdIn) (bI:Binds K fdIn ["self","first","last","worth"] []):zC P w K mg base CX0 3 f fd ["word","first","last","worth"] (za7 cs):=by
 refine F.ok zv1 (fun vs H Q E h=>?_) (fun cdv A outer s H vs Q E hr h=>?_)
 ·obtain⟨wd,x,y,z,rfl,_⟩:=h;rfl
 ·obtain⟨wd,x,y,z,rfl,hw,k⟩:=h;refine yb (fun σ H1=>σ=[some (.str wd),some x,some y,some z]/\wd≠"price"/\H=H1)
   ⟨_,wt (ym vo (pv 0) yp (zG _)) (zx (zB (wq A7.price.makes (wV FI A7.price) hr (by rfl) T.cPrice bI .nil yk (zg (pv 1) (zg (pv 2) (zg (pv 3) zu)))))) yE,?_⟩ ?_
  ·refine⟨_,rfl,rfl,_,rfl,yF (fun h=>?_) (fun h=>⟨rfl,tu h,rfl⟩)⟩;rw[tf h,uE] at k;exact⟨_,rfl,_,rfl,_,rfl,fun p dx hp hx n=>⟨p,dx,_,_,_,rfl,zk,rfl,xW k hp hx n⟩⟩
  rintro σ H1 ⟨rfl,n1,rfl⟩;refine yb (fun σ H1=>σ=[some (.str wd),some x,some y,some z]/\wd≠"come"/\H=H1)
   ⟨_,wt (ym vo (pv 0) yp (zG _)) (zx (zB (wq A7.come.makes (wV FI A7.come) hr (by rfl) T.cCome bI .nil yk (zg (pv 1) (zg (pv 2) (zg (pv 3) zu)))))) yE,?_⟩ ?_
  ·refine⟨_,rfl,rfl,_,rfl,yF (fun h=>?_) (fun h=>⟨rfl,tu h,rfl⟩)⟩;rw[tf h,sW] at k;exact⟨_,rfl,_,rfl,_,rfl,fun p dx hp hx n=>⟨p,dx,_,_,_,rfl,zk,rfl,xW k hp hx n⟩⟩
  rintro σ H1 ⟨rfl,n2,rfl⟩;refine yb (fun σ H1=>σ=[some (.str wd),some x,some y,some z]/\wd≠"go"/\H=H1)
   ⟨_,wt (ym vo (pv 0) yp (zG _)) (zx (zB (wq A7.go.makes (wV FI A7.go) hr (by rfl) T.cGo bI .nil yk (zg (pv 1) (zg (pv 2) (zg (pv 3) zu)))))) yE,?_⟩ ?_
  ·refine⟨_,rfl,rfl,_,rfl,yF (fun h=>?_) (fun h=>⟨rfl,tu h,rfl⟩)⟩;rw[tf h,iu] at k;exact⟨_,rfl,_,rfl,_,rfl,fun p dx hp hx n=>⟨p,dx,_,_,_,rfl,zk,rfl,xW k hp hx n⟩⟩
  rintro σ H1 ⟨rfl,n3,rfl⟩;refine yb (fun σ H1=>σ=[some (.str wd),some x,some y,some z]/\wd≠"least"/\H=H1)
   ⟨_,wt (ym vo (pv 0) yp (zG _)) (zx (zB (wq A7.least.makes (wV FI A7.least) hr (by rfl) T.cLeast bI .nil yk (zg (pv 1) (zg (pv 2) (zg (pv 3) zu)))))) yE,?_⟩ ?_
  ·refine⟨_,rfl,rfl,_,rfl,yF (fun h=>?_) (fun h=>⟨rfl,tu h,rfl⟩)⟩;rw[tf h,uP] at k;exact⟨_,rfl,_,rfl,_,rfl,fun p dx hp hx n=>⟨p,dx,_,_,_,rfl,zk,rfl,xW k hp hx n⟩⟩
  rintro σ H1 ⟨rfl,n4,rfl⟩;refine yb (fun σ H1=>σ=[some (.str wd),some x,some y,some z]/\wd≠"most"/\H=H1)
   ⟨_,wt (ym vo (pv 0) yp (zG _)) (zx (zB (wq A7.most.makes (wV FI A7.most) hr (by rfl) T.cMost bI .nil yk (zg (pv 1) (zg (pv 2) (zg (pv 3) zu)))))) yE,?_⟩ ?_
  ·refine⟨_,rfl,rfl,_,rfl,yF (fun h=>?_) (fun h=>⟨rfl,tu h,rfl⟩)⟩;rw[tf h,sJ] at k;exact⟨_,rfl,_,rfl,_,rfl,fun p dx hp hx n=>⟨p,dx,_,_,_,rfl,zk,rfl,xW k hp hx n⟩⟩
  rintro σ H1 ⟨rfl,n5,rfl⟩;refine yb (fun σ H1=>σ=[some (.str wd),some x,some y,some z]/\wd≠"deal"/\H=H1)
   ⟨_,wt (ym vo (pv 0) yp (zG _)) (zx (zB (wq A7.deal.makes (wV FI A7.deal) hr (by rfl) T.cDeal bI .nil yk (zg (pv 1) (zg (pv 2) (zg (pv 3) zu)))))) yE,?_⟩ ?_
  ·refine⟨_,rfl,rfl,_,rfl,yF (fun h=>?_) (fun h=>⟨rfl,tu h,rfl⟩)⟩;rw[tf h,sX] at k;exact⟨_,rfl,_,rfl,_,rfl,fun p dx hp hx n=>⟨p,dx,_,_,_,rfl,zk,rfl,xW k hp hx n⟩⟩
  rintro σ H1 ⟨rfl,n6,rfl⟩;have e7:wd="fee":=by
   simp only[words,zP2,zQ3,zS4] at hw;rcases hw with e|e|e|e|e|e|e
   ·exact absurd e n1
   ·exact absurd e n2
   ·exact absurd e n3
   ·exact absurd e n4
   ·exact absurd e n5
   ·exact absurd e n6
   ·exact e
  rw[e7,nk] at k;refine⟨_,zx (zB (wq A7.fee.makes (wV FI A7.fee) hr (by rfl) T.cFee bI .nil yk (zg (pv 1) (zg (pv 2) (zg (pv 3) zu))))),?_⟩;exact⟨_,rfl,_,rfl,_,rfl,fun p dx hp hx n=>⟨p,dx,_,_,_,rfl,zk,rfl,xW k hp hx n⟩⟩
theorem bf :zo ["thing"] ["thing"] (zc ng):=.o
theorem gE {f:Addr}{fd fdR fdM:FuncData}(F:Fun K "rule_of" "rule_of" ng f fd)(T:lW mg fW fI fP fD fPD fS fC fDl fWo fR fM cs)(GR:zC P w K mg base CX0 6 fR fdR ["thing"] aw)(kR:PySem.W.keepIn K (.ref fR)=true)(bR:Binds K fdR ["thing"] [])
  (GM:zC P w K mg base CX0 3 fM fdM ["word","first","last","worth"] (za7 cs)) (kM:PySem.W.keepIn K (.ref fM)=true) (bM:Binds K fdM ["word","first","last","worth"] []):zC P w K mg base CX0 7 f fd ["thing"] (mY cs):=by
 refine F.ok bf (fun vs H Q E h=>?_) (fun cdv A outer s H vs Q E hr h=>?_)
 ·obtain⟨x,d,rfl,_⟩:=h;rfl
 ·obtain⟨x,d,rfl,hd,sd,k0,k1⟩:=h;have hr3:zV 3 _:=hr.mono (by decide);refine yb (fun σ H1=>σ=[some x]/\xi d=true/\zz H H1)
   ⟨_,wt (bj (zd0 (zX GR hr (by rfl) T.rule kR bR .nil yk (zg (pv 0) zu)))) (zx (zB pY)) yE,?_⟩ ?_
  ·refine⟨_,rfl,x,d,rfl,hd,sd,fun H1 s1=>⟨_,rfl,?_⟩⟩;refine yF (fun h=>?_) (fun h=>?_)
   ·exact k0 (by simpa using h) H1 s1
   ·exact⟨rfl,by simpa using h,s1⟩
  rintro σ H1 ⟨rfl,er,s1⟩;obtain⟨sw,da,db,dv,hsw,rfl⟩:=wg er;cases hd with
  |@tup r xs ds e hs=>
   cases hs with
   |@cons xw _ _ _ hw hs=>
    cases hw;cases hs with
    |@cons xa _ _ _ ha hs=>
     cases hs with
     |@cons xb _ _ _ hb hs=>
      cases hs with
      |@cons xv _ _ _ hv hs=>
       cases hs;have e1:=s1 _ _ e;refine⟨_,zx (zB (zX GM hr3 (by rfl) T.made kM bM .nil yk (zg (zS yI (pv 0) zr (fun _ _=>rfl)) (zg (zS yI (pv 0) zr (fun _ _=>rfl)) (zg (zS yI (pv 0) zr (fun _ _=>rfl)) (zg (zS yI (pv 0) zr (fun _ _=>rfl)) zu)))))),?_⟩;refine⟨_,rfl,r,_,0,_,rfl,rfl,SqT.of e1,rfl,_,rfl,r,_,1,_,rfl,rfl,SqT.of e1,rfl,_,rfl,r,_,2,_,rfl,rfl,SqT.of e1,rfl,_,rfl,r,_,3,_,rfl,rfl,SqT.of e1,rfl,sw,_,_,_,rfl,hsw,fun p dx H2 h2 hp s2=>?_⟩;exact k1 r sw xa xb xv p dx H2 rfl er hsw e h2 (s1.free hp) (s1.trans s2)
end
abbrev dD :Stmt:=top 48
abbrev xG :Stmt:=inClass (top 47) 0
def pF (C:Addr)(a b v:PyData):PyData:=tQ C [(.str "first",a),(.str "last",b),(.str "worth",v)]
def tU (cs:Cs):PyData->PyData
 |.tuple [.str w,a,b,v]=>pF (cs.of w) a b v
 |_=>.none
def yW (C:Addr)(cs:Cs)(ds:List PyData):PyData:=tQ C [(.str "kept",.list (ds.map (tU cs)))]
def Rules (ds:List PyData):Prop:=∀d∈ds,xi d=true/\SeqAt.shaped d=true/\d.hasDict=false
def rC (cs:Cs):List A->(A->Prop)->Prop:=fun as Q=>∃d,as=[.dat d]/\d.hasDict=false/\SeqAt.shaped d=true/\(xi d=false->Q (.dat .none))/\(xi d=true->Q (.dat (tU cs d)))
def ku (cs:Cs):List A->(A->Prop)->Prop:=fun as Q=>∃ds,as=[.dat (.list ds)]/\Rules ds/\ds.length<=24/\Q (.own (ds.map (tU cs)))
def pV (C:Addr)(cs:Cs):List A->(A->Prop)->Prop:=fun as Q=>∃ds,(as=[.dat (.list ds)]\/(as=[.dat .none]/\ds=[]))/\Rules ds/\ds.length<=24/\Q (.dat (yW C cs ds))
theorem jV (x y z:V):sC x y z=[(("first":Str),x),(("last":Str),y),(("worth":Str),z)]:=by
 unfold sC;show wa "worth" z (if ("first":Str)="last" then _ else _)=_;rw[if_neg (fun e=>ze2 e.symm)];show (if ("first":Str)="worth" then _ else _)=_;rw[if_neg (fun e=>zc6 e.symm)];show _::(if ("last":Str)="worth" then _ else _)=_;rw[if_neg (fun e=>ao e.symm)];rfl
theorem qj {cs:Cs}{d:PyData}(h:xi d=true):∃(s:Str) (a b v:PyData),s∈words/\d=.tuple [.str s,a,b,v]/\tU cs d=pF (cs.of s) a b v:=by
 obtain⟨s,a,b,v,hs,rfl⟩:=wg h;exact⟨s,a,b,v,hs,rfl,rfl⟩
section
variable {P:Program}{w:World}{K:PySem.W.Frag}{mg:Str->Option Value}{base:Heap}{cs:Cs}
theorem kg {k:Nat}{f:Addr}{fd:FuncData}{ps:List Str}(hm:mg "rule_of"=some (.ref f))(hk:PySem.W.keepIn K (.ref f)=true)(hb:Binds K fd ps [])(G:zC P w K mg base CX0 k f fd ps (mY cs)):Cal P w K mg base "rule_of" k (rC cs):=by
 refine⟨f,fd,_,hm,hk,hb,G.imp fun vs H Q E h=>?_⟩;obtain⟨F,as,Q',rfl,t,o,rv,⟨d,rfl,nd,sh,q0,q1⟩,kk⟩:=h;obtain⟨x,rfl,av⟩:=rv.one;have oo:∀{a:Addr},F.H0 a=none->¬F.O0 a:=fun {a} e z=>by
  obtain⟨u,hu,_⟩:=o a z;rw[e] at hu;cases hu
 refine⟨x,d,rfl,(av.dv nd).same xD,sh,fun hr H' s=>kk _ _ _ (q0 hr) ⟨t.same s,Kz.of_same s,.non⟩,fun r wd x1 x2 x3 p dx H' hx hr hw he hp' hp s=>kk _ _ _ (q1 hr) ⟨t.same s,Kz.of_same s,?_⟩⟩;subst hx;obtain⟨s',a,b,v,_,rfl⟩:=wg hr;obtain⟨r',xs,e1,e2,e3⟩:=av.tup_inv;cases e1;have e4:=(zj e2).2;rw[he] at e4;cases e4;have gs:zz (sub (fun x=>¬F.O0 x) F.H0) (sub (fun x=>¬F.O0 x) H'):=zw fun a u h e=>⟨h,s _ _ e⟩;cases e3 with
 |cons g1 e3=>
  cases g1.str_inv;cases e3 with
  |cons g2 e3=>
   cases e3 with
   |cons g3 e3=>
    cases e3 with
    |cons g4 e3=>
     cases e3;rw[jV] at hp';exact .ins (zE (oo hp) hp') (.cons (g2.same gs) (.cons (g3.same gs) (.cons (g4.same gs) .nil)))
theorem zc0 :zo ["things","kept","number","thing","rule"] ["things"] (zc dD):=.o
theorem bX {f:Addr}{fd:FuncData}(F:Fun K "kept_rules" "kept_rules" dD f fd)(hm:mg "kept_rules"=some (.ref f))(hb:Binds K fd ["things"] [])(nb:NbT mg)(gM:∃t,mg "MOST_RULES"=some (.int 24 t))(CRO:Cal P w K mg base "rule_of" 7 (rC cs)):Cal P w K mg base "kept_rules" 8 (ku cs):=by
 refine yT F hm hb zc0 (fun as Q h=>?_) (fun cdv A' outer s H E as Q hr h=>?_)
 ·obtain⟨ds,rfl,_⟩:=h;rfl
 ·obtain⟨ds,rfl,rd,hl,q⟩:=h;refine xh 1 zc0.nd (yD (zp (⟨_,rfl,zP4 rfl,?_⟩)));refine vF (pat:=.many [2,3]) zV3 rfl (wJ (n:=2) (K:=K) rfl rfl (yM (zK (i:=2) zc0.nd rfl (Or.inl rfl)) (yM (zK (i:=3) zc0.nd rfl (Or.inl rfl)) (vR)))) (oi (by rfl) nb.enumerate (zf 0 rfl (⟨_,rfl,?_⟩)));refine yh (fun i α=>∃v2 v3 v4,α=[some (.dat (.list ds)),some (.own ((ds.take i).map (tU cs))),v2,v3,v4]) ⟨none,none,none,rfl⟩ ?_ ?_
  ·rintro i d α hd ⟨v2,v3,v4,rfl⟩;obtain⟨e,he,rfl⟩:=wM hd;obtain⟨r1,r2,r3⟩:=rd e (zT2 he);have hi:i<ds.length:=(zP1.mp he).1;refine⟨_,rfl,?_⟩;refine zP 4 zc0.nd (zZ CRO hr (by rfl) (zd (zf 3 rfl (zp (⟨_,rfl,r3,r2,fun z=>(by rw[r1] at z;cases z),fun _=>?_⟩)))));refine xk (vE (zf 4 rfl ?_));obtain⟨s',a,b,v,hs,rfl,ei⟩:=qj (cs:=cs) r1;refine zQ (fun h=>by rw[show (A.dat (tU cs (.tuple [.str s',a,b,v]))).d=pF (cs.of s') a b v from rfl] at h;cases h) (fun _=>zy ?_);refine yu 1 rfl (zf 4 rfl ⟨by rw[zO6,zS0];omega,?_⟩);refine zy ⟨some (.dat (.int ((0+i:Nat):Int))),some (.dat (.tuple [.str s',a,b,v])),some (.dat (tU cs (.tuple [.str s',a,b,v]))),?_⟩;rw[zW4,he,zT4];rfl
  ·rintro α ⟨v2,v3,v4,rfl⟩;rw[wL,zW2];refine xk (jZ 1 rfl (dN (uv (by rfl) nb.len (zf 1 rfl ⟨_,rfl,zb4 (by rfl) gM ⟨_,_,rfl,rfl,?_⟩⟩))));refine bU (fun h=>?_) (fun _=>zy ?_)
   ·rw[zO6] at h;omega
   ·exact xB 1 rfl q
theorem zM4 :zo ["self","rules"] ["self","rules"] (zc xG):=.o
theorem eL {w' v:PyData}(h:zD w' v=true):noL v=true:=by
 have wi:∀{lo hi:Int} {x:PyData},yo lo hi x=true->noL x=true:=fun {lo hi x} h=>by
  cases x with
  |int i=>rfl
  |_=>cases h
 have nn:∀{x:PyData},isNone x=true->noL x=true:=fun {x} h=>by
  cases x with
  |none=>rfl
  |_=>cases h
 unfold zD at h;split at h
 ·rcases (zX0 _ _).mp h with h|h
  ·exact nn h
  ·exact wi h
 ·split at h
  ·cases v with
   |bool b=>rfl
   |_=>cases h
  ·split at h
   ·exact wi h
   ·split at h
    ·rcases (zX0 _ _).mp h with h|h
     ·exact nn h
     ·unfold uG at h;split at h
      ·rw[zR3] at h;simp only[noL,vW,wi h.2,Bool.and_self]
      ·cases h
    ·rw[zR3] at h;exact wi h.2
theorem cb {s':Str}{a b v:PyData}(h:xi (.tuple [.str s',a,b,v])=true):noL a=true/\noL b=true/\noL v=true:=by
 have h':(yv (.tuple [a,b])&&zD (.str s') v)=true:=h;rw[zR3] at h';refine⟨?_,?_,eL h'.2⟩
 ·have:=h'.1;unfold yv qI at this;split at this
  ·rename_i k e;split at e
   ·rename_i z;cases z;rfl
   ·cases e
  ·cases this
 ·have:=h'.1;unfold yv qI at this;split at this
  ·rename_i k e;split at e
   ·rename_i z;cases z;rfl
   ·cases e
  ·cases this
theorem nP {ds:List PyData}(rd:Rules ds):vW (ds.map (tU cs))=true:=by
 induction ds with
 |nil=>rfl
 |cons d r ih=>
  have ih':=ih fun x hx=>rd x (zP5 _ hx);have h1:=(rd d zQ1).1;obtain⟨s',a,b,v,hs,rfl,ei⟩:=qj (cs:=cs) h1;obtain⟨z1,z2,z3⟩:=cb h1;rw[zR4,ei];simp only[vW,ih',Bool.and_true];simp[pF,tQ,noL,jP,z1,z2,z3]
theorem ze1 {f C:Addr}{dV:Value}{fd:FuncData}(F:zB8 K "__init__" "Book.__init__" xG dV f fd)(c:Cls K C)(na:yR K C "kept")(CK:Cal P w K mg base "kept_rules" 8 (ku cs)):zC P w K mg base CX0 9 f fd ["self","rules"] (spI C (pV C cs)):=by
 refine zG5 (N:=[]) F zM4 c na rfl (fun as Q h=>?_) (fun cdv A' outer s H E as Q hr h=>?_) (fun _ _ _ _ _ _=>rfl) (Or.inl rfl)
 ·obtain⟨ds,h|⟨h,_⟩,_⟩:=h<;>rw[h]<;>rfl
 ·obtain⟨ds,h|⟨h,hz⟩,rd,hl,q⟩:=h
  ·subst h;exact wA CK hr (by rfl) (zd (ja (vE (zf 1 rfl (uw (zf 1 rfl (zp ⟨_,rfl,rd,hl,_,rfl,nP rd,q⟩)))))))
  ·subst h hz;exact wA CK hr (by rfl) (zd (ja (vE (zf 1 rfl (vY (EvL.d (yD (zp ⟨_,rfl,zP4 rfl,zp ⟨[],rfl,rd,hl,_,rfl,nP rd,q⟩⟩))))))))
end
abbrev oI :Stmt:=inClass (top 47) 2
abbrev kE :Stmt:=top 38
def tbU :List (Str×V):=[("price",.non),("come",.bl true),("go",.bl true),("least",.int 1),("most",.int 14),("deal",.non),("fee",.int 0)]
def ze3 (x:Str):PyData:=if x="price"\/x="deal" then .none else if x="come"\/x="go" then .bool true else if x="least" then .int 1 else if x="most" then .int 14 else .int 0
theorem zC0 {x:Str}(h:x∈words):∃v,tbU.lookup x=some v/\scV (ze3 x)=some v:=by
 simp only[words,zP2,zQ3,zS4] at h;rcases h with rfl|rfl|rfl|rfl|rfl|rfl|rfl
 ·exact⟨.non,by decide +kernel,by decide +kernel⟩
 ·exact⟨.bl true,by decide +kernel,by decide +kernel⟩
 ·exact⟨.bl true,by decide +kernel,by decide +kernel⟩
 ·exact⟨.int 1,by decide +kernel,by decide +kernel⟩
 ·exact⟨.int 14,by decide +kernel,by decide +kernel⟩
 ·exact⟨.non,by decide +kernel,by decide +kernel⟩
 ·exact⟨.int 0,by decide +kernel,by decide +kernel⟩
def zq4 (w:Str)(day:Int):PyData->Bool
 |.tuple [.str x,.int a,.int b,_]=>decide (x=w)&&(decide (a<=day)&&decide (day<=b))
 |_=>false
def hJ :PyData->PyData
 |.tuple [_,_,_,v]=>v
 |_=>.none
def zq (ds:List PyData)(w:Str)(day:Int):PyData:=match ds.reverse.find? (zq4 w day) with
 |some d=>hJ d
 |none=>ze3 w
theorem rX {p:PyData->Bool}{e:PyData}:∀{l:List PyData} {i:Nat},(∀j<i,∀d,l[j]?=some d->p d=false)->l[i]?=some e->p e=true->l.find? p=some e
 |[],i,_,h,_=>by simp at h
 |d::l,0,_,h,q=>by
  simp at h;subst h;simp[zV7,q]
 |d::l,i+1,a,h,q=>by
  have hd:=a 0 (Nat.succ_pos _) d rfl;rw[zV7,hd];exact rX (i:=i) (fun j hj x hx=>a (j+1) (Nat.succ_lt_succ hj) x (by simpa using hx)) (by simpa using h) q
theorem zk1 {p:PyData->Bool}{l:List PyData}(h:∀(j:Nat) d,l[j]?=some d->p d=false):l.find? p=none:=by
 rw[List.find?_eq_none];intro x hx;obtain⟨j,hj⟩:=List.mem_iff_getElem?.mp hx;rw[h j x hj];simp
theorem qA {d:PyData}(h:xi d=true):∃(s:Str) (i j:Int) (v:PyData),s∈words/\d=.tuple [.str s,.int i,.int j,v]/\0<=i/\i<=j/\j<=1000000/\zD (.str s) v=true:=by
 obtain⟨s,a,b,v,hs,rfl⟩:=wg h;have h':(yv (.tuple [a,b])&&zD (.str s) v)=true:=h;rw[zR3] at h';have h1:=h'.1;unfold yv qI at h1;split at h1
 ·rename_i k e;split at e
  ·rename_i z;cases z;split at e
   ·rename_i q;cases e;rw[zR3] at q;rename_i a' b';have qa:(decide (0<=a')&&decide (a'<=1000000))=true:=q.1;have qb:(decide (0<=b')&&decide (b'<=1000000))=true:=q.2;rw[zR3,zS1,zS1] at qa qb;have h2:=zT5 h1;exact⟨s,a',b',v,hs,rfl,qa.1,by omega,qb.2,h'.2⟩
   ·cases e
  ·cases e
 ·cases h1
theorem eR (a b v:PyData):qP [(.str "first",a),(.str "last",b),(.str "worth",v)] "worth"=some v:=by
 show (if ("worth":Str)="first" then _ else _)=_;rw[if_neg zc6];show (if ("worth":Str)="last" then _ else _)=_;rw[if_neg ao];show (if ("worth":Str)="worth" then _ else _)=_;rw[if_pos rfl]
def nC :List A->(A->Prop)->Prop:=fun as Q=>∃x,as=[.dat (.str x)]/\x∈words/\Q (.dat (ze3 x))
def jH (C:Addr)(w:Str):List A->(A->Prop)->Prop:=fun as Q=>∃a b v,as=[.dat (pF C a b v)]/\Q (.dat (.str w))
def qu (C:Addr):List A->(A->Prop)->Prop:=fun as Q=>∃(a b day:Int) (v:PyData),as=[.dat (pF C (.int a) (.int b) v),.dat (.int day)]/\Q (.dat (.bool (decide (a<=day)&&decide (day<=b))))
def uZ (C:Addr)(cs:Cs):List A->(A->Prop)->Prop:=fun as Q=>∃ds x day,as=[.dat (yW C cs ds),.dat (.str x),.dat (.int day)]/\Rules ds/\x∈words/\Q (.dat (zq ds x day))
section
variable {P:Program}{w:World}{K:PySem.W.Frag}{mg:Str->Option Value}{base:Heap}{cs:Cs}
theorem zL6 :zo ["word"] ["word"] (zc kE):=.o
theorem eO {f dU:Addr}{fd:FuncData}(F:Fun K "usual" "usual" kE f fd)(hm:mg "usual"=some (.ref f))(hb:Binds K fd ["word"] [])(mU:mg "USUAL"=some (.ref dU))(DU:iW K w dU tbU):Cal P w K mg base "usual" 1 nC:=by
 refine yT F hm hb zL6 (fun as Q h=>?_) (fun cdv A' outer s H E as Q hr h=>?_)
 ·obtain⟨x,rfl,_⟩:=h;rfl
 ·obtain⟨x,rfl,hx,q⟩:=h;obtain⟨v,h1,h2⟩:=zC0 hx;exact xU (aq (by rfl) mU DU (zf 0 rfl ⟨x,ze3 x,v,rfl,h1,h2,q⟩))
theorem xl {C f fIn fT fE:Addr}{fd:FuncData}{wd:Str}(R:wU K C fIn fT fE f)(hb:Binds K fd ["self"] [])(G:zC P w K mg base CX0 1 f fd ["self"] (vK wd)):sE P w K mg base C "word" 1 (jH C wd):=by
 refine⟨f,fd,_,R.cl,R.word,hb,G.imp fun vs H Q E h=>?_⟩;obtain⟨F,as,Q',rfl,t,o,rv,⟨a,b,v,rfl,q⟩,kk⟩:=h;obtain⟨x,rfl,av⟩:=rv.one;obtain⟨p,dx,fs,rfl,h1,h2⟩:=av.ins_inv;exact⟨p,rfl,kk _ _ _ q ⟨t,Kz.refl,.str _⟩⟩
theorem yG {C f fIn fT fWd:Addr}{fd:FuncData}(R:wU K C fIn fT f fWd)(hb:Binds K fd ["self","day"] [])(G:zC P w K mg base CX0 1 f fd ["self","day"] (gc C)):sE P w K mg base C "tells" 1 (qu C):=by
 refine⟨f,fd,_,R.cl,R.tells,hb,G.imp fun vs H Q E h=>?_⟩;obtain⟨F,as,Q',rfl,t,o,rv,⟨a,b,day,v,rfl,q⟩,kk⟩:=h;obtain⟨x,y,rfl,av,ay⟩:=rv.two;cases ay.int_inv;obtain⟨p,dx,fs,rfl,h1,h2⟩:=av.ins_inv;cases h2 with
 |cons g1 h2=>
  cases h2 with
  |cons g2 h2=>
   cases h2 with
   |cons g3 h2=>
    cases h2;cases g1.int_inv;cases g2.int_inv;exact⟨p,dx,a,b,day,_,rfl,by rw[jV];exact (zj h1).2,kk _ _ _ q ⟨t,Kz.refl,.bl _⟩⟩
theorem zE5 :zo ["self","word","day","rule"] ["self","word","day"] (zc oI):=.o
theorem eh {f C:Addr}{fd:FuncData}(F:Fun K "tells_of" "Book.tells_of" oI f fd)(c:Cls K C)(na:yR K C "kept")(nb:NbT mg)(CU:Cal P w K mg base "usual" 1 nC)(OW:∀u∈words,sE P w K mg base (cs.of u) "word" 1 (jH (cs.of u) u))(OR:∀u∈words,sE P w K mg base (cs.of u) "tells" 1 (qu (cs.of u)))
  (OC:∀u∈words,Cls K (cs.of u)/\yR K (cs.of u) "worth"):zC P w K mg base CX0 2 f fd ["self","word","day"] (spA (uZ C cs)):=by
 refine fnA F zE5 (fun as Q h=>?_) (fun cdv A' outer s H E as Q hr h=>?_)
 ·obtain⟨ds,x,d,rfl,_⟩:=h;rfl
 ·obtain⟨ds,x,day,rfl,rd,hx,q⟩:=h;refine vF (pat:=.one 3) zV3 rfl (zK (i:=3) zE5.nd rfl (Or.inl rfl)) (zB1 (by rfl) nb.reversed (aO c na (zf 0 rfl ⟨_,_,rfl,rfl,⟨_,rfl,?_⟩⟩)));refine yh (fun i α=>(∃v3,α=[some (.dat (yW C cs ds)),some (.dat (.str x)),some (.dat (.int day)),v3])/\∀j<i,∀d,ds.reverse[j]?=some d->zq4 x day d=false) ⟨⟨none,rfl⟩,fun j hj=>absurd hj (Nat.not_lt_zero _)⟩ ?_ ?_
  ·rintro i d α hd ⟨⟨v3,rfl⟩,hno⟩;rw[<-List.map_reverse,zQ2,zQ9] at hd;obtain⟨e,he,rfl⟩:=hd;have hme:e∈ds:=List.mem_reverse.mp (zT2 he);obtain⟨u,a,b,v,hu,rfl,_,_,_,_⟩:=qA (rd e hme).1;refine⟨_,rfl,?_⟩;refine xk (EvW.t (zi6 (fun _ k=>zv9 (zb5 (OW u hu) hr (zf 3 rfl ⟨_,rfl,rfl,_,_,_,rfl,zf 1 rfl ⟨_,_,rfl,rfl,k⟩⟩)))
    (fun hp _ k=>iy (oS (xM (OR u hu) hr (zf 3 rfl ⟨_,rfl,rfl,zd (zf 2 rfl (zp ⟨_,_,_,_,rfl,_,rfl,k⟩))⟩)))) ?_))
   refine zQ (fun h=>?_) (fun h=>?_)
   ·refine xU (aO (OC u hu).1 (OC u hu).2 (zf 3 rfl ⟨_,_,rfl,eR _ _ _,?_⟩));have e1:ds.reverse.find? (zq4 x day)=some (.tuple [.str u,.int a,.int b,v]):=rX hno he h;unfold zq at q;rw[e1] at q;exact q
   ·refine zy (zy ⟨⟨_,rfl⟩,fun j hj d' hd'=>?_⟩);rcases zZ4 j i with z|z
    ·exact hno j z d' hd'
    ·have:j=i:=by omega
     subst this;rw[he] at hd';cases hd';exact h
  ·rintro α ⟨⟨v3,rfl⟩,hno⟩;refine xU (zZ CU (hr.mono (by decide)) (by rfl) (zd (zf 1 rfl (zp ⟨x,rfl,hx,?_⟩))));have e1:ds.reverse.find? (zq4 x day)=none:=zk1 fun j d hd=>hno j (by
    have:=(zP1.mp hd).1;rw[zU1,zO6]
    rwa [zU1] at this) d hd
   unfold zq at q;rw[e1] at q;exact q
end
theorem xE (d:PyData):zD (.str "price") d=(isNone d||vC d):=by unfold zD;rw[if_pos (by decide +kernel)]
theorem rQ (d:PyData):zD (.str "come") d=isBool d:=by unfold zD;rw[if_neg (by decide +kernel),if_pos (by decide +kernel)]
theorem mO (d:PyData):zD (.str "go") d=isBool d:=by unfold zD;rw[if_neg (by decide +kernel),if_pos (by decide +kernel)]
theorem tX (d:PyData):zD (.str "least") d=yo 1 14 d:=by unfold zD;rw[if_neg (by decide +kernel),if_neg (by decide +kernel),if_pos (by decide +kernel)]
theorem rZ (d:PyData):zD (.str "most") d=yo 1 14 d:=by unfold zD;rw[if_neg (by decide +kernel),if_neg (by decide +kernel),if_pos (by decide +kernel)]
theorem uu (d:PyData):zD (.str "deal") d=(isNone d||uG d):=by unfold zD;rw[if_neg (by decide +kernel),if_neg (by decide +kernel),if_neg (by decide +kernel),if_pos (by decide +kernel)]
theorem pI (d:PyData):zD (.str "fee") d=vC d:=by
 unfold zD;rw[if_neg (by decide +kernel),if_neg (by decide +kernel),if_neg (by decide +kernel),if_neg (by decide +kernel),show eqS (.str "fee") "fee"=true by decide +kernel,zR1]
theorem within_int {lo hi i:Int}(h1:lo<=i)(h2:i<=hi):yo lo hi (.int i)=true:=by
 show (decide (lo<=i)&&decide (i<=hi))=true;rw[zS3 h1,zS3 h2]<;>rfl
theorem zc8 {i:Int}(h0:-2000000000000<=i)(h1:i<=2000000000000):zH 2000 (.int i):=zH.int (by unfold big;omega) (by unfold big;omega)
def og :List A->(A->Prop)->Prop:=fun as Q=>as=[.tape]/\∀z:Int,0<=z->z<=1000000000000->Q (.dat (.int z))
def mN :List A->(A->Prop)->Prop:=fun as Q=>∃wd,as=[.tape,.dat (.str wd)]/\wd∈words/\∀d,zD (.str wd) d=true->zH 5000 d->d.depth<=1->Q (.dat d)
theorem zf4 {m f:Int}(h0:2<=m)(h1:m<=14)(h2:1<=f)(h3:f<m):zD (.str "deal") (.tuple [.int m,.int f])=true/\zH 5000 (.tuple [.int m,.int f])/\(PyData.tuple [.int m,.int f]).depth<=1:=by
 have hbig:(1000001:Int)<big:=by decide
 have hneg:-big<(0:Int):=by decide
 refine⟨?_,zH.tuple (n:=2000) (ye.two (zH.int (by omega) (by omega)) (zH.int (by omega) (by omega)) (zQ8 _) (zQ8 _)) (by show 2*(2000+2)+3<=5000;decide),by simp[PyData.depth,PyData.depthAll]⟩;rw[uu];show (false||(yo 2 14 (.int m)&&yo 1 (m-1) (.int f)))=true;rw[within_int h0 h1,within_int h2 (by omega)];rfl
end K53
set_option compiler.extract_closed false
set_option hygiene false in
local macro_rules
 |`(tactic| exists $f,$a)=>`(tactic| first|refine $f 0 $a ?_|refine $f 1 $a ?_|refine $f 2 $a ?_|refine $f 3 $a ?_|refine $f 4 $a ?_|refine $f 5 $a ?_|refine $f 6 $a ?_|refine $f 7 $a ?_|refine $f 8 $a ?_|refine $f 9 $a ?_|refine $f 10 $a ?_|refine $f 11 $a ?_|refine $f 12 $a ?_|refine $f 13 $a ?_|refine $f 14 $a ?_|refine $f 15 $a ?_|refine $f 16 $a ?_|refine $f 17 $a ?_)
 |`(tactic| exists $f)=>`(tactic| with_reducible refine $f ?_)
 |`(tactic| specialize $p)=>`(tactic| with_reducible show $p)
set_option hygiene false in
local macro_rules
 |`(tactic| and_intros)=>`(tactic| repeat (first
  |((specialize EvD _ _ _ _);first
   |((specialize EvD _ _ (.Name _ _) _);exists zf,rfl)
   |((specialize EvD _ _ (.Constant _ _ _) _);first|exists zT|exists yc|exists zr7|exists qk)
   |((specialize EvD _ _ (.BinOp (.Constant (.int 10) _ _) .Pow (.Constant (.int 6) _ _) _) _);refine rp (r:=1000000) ⟨by decide,by decide,by decide⟩ (by decide) ?_)
   |((specialize EvD _ _ (.BinOp (.Constant (.int 10) _ _) .Pow (.Constant (.int 12) _ _) _) _);refine rp (r:=1000000000000) ⟨by decide,by decide,by decide⟩ (by decide) ?_)
   |((specialize EvD _ _ (.BinOp (.Constant (.int 10) _ _) .Pow (.Constant (.int 9) _ _) _) _);refine rp (r:=1000000000) ⟨by decide,by decide,by decide⟩ (by decide) ?_)
   |((specialize EvD _ _ (.BinOp (.Constant (.int 10) _ _) .Pow (.Constant (.int 11) _ _) _) _);refine rp (r:=100000000000) ⟨by decide,by decide,by decide⟩ (by decide) ?_)
   |((specialize EvD _ _ (.BinOp _ .Add (.List _ _) _) _);refine EvL.d (xr ?_))
   |((specialize EvD _ _ (.BinOp (.List _ _) .Add _ _) _);refine EvL.d (xr ?_))
   |((specialize EvD _ _ (.BinOp (.Subscript _ (.Slice _ _ none _) _) .Add _ _) _);refine EvL.d (xr ?_))
   |((specialize EvD _ _ (.BinOp _ .Add (.Subscript _ (.Slice _ _ none _) _) _) _);refine EvL.d (xr ?_))
   |((specialize EvD _ _ (.BinOp (.Call (.Attribute _ "rules" _) _ _ _) .Add _ _) _);refine EvL.d (xr ?_))
   |exists xx
   |exists oQ
   |exists zq7
   |exists zB5
   |exists zy2
   |exists yQ
   |((specialize EvD _ _ (.Subscript _ (.Slice _ _ none _) _) _);refine EvL.d (sf ?_))
   |((specialize EvD _ _ (.Subscript _ _ _) _);refine ug hr.one (fun _ _=>rfl) ?_)
   |((specialize EvD _ _ (.List _ _) _);refine EvL.d (yD ?_))
   |((specialize EvD _ _ (.Call (.Name "len" _) _ _ _) _);refine uv (by rfl) nb.len ?_)
   |((specialize EvD _ _ (.Call (.Name "list" _) _ _ _) _);refine EvL.d (jX (by rfl) nb.list ?_))
   |((specialize EvD _ _ (.Call (.Name "repr" _) _ _ _) _);refine zn6 hr.gd hr.units (by rfl) nb.repr ?_)
   |((specialize EvD _ _ (.Call (.Name "isinstance" _) _ _ _) _);first|refine qf (by rfl) nb.isinstance (by rfl) nb.int boot_int ?_|refine qf (by rfl) nb.isinstance (by rfl) nb.bool boot_bool ?_|refine qf (by rfl) nb.isinstance (by rfl) nb.str boot_str ?_|refine qf (by rfl) nb.isinstance (by rfl) nb.list boot_list ?_|refine qf (by rfl) nb.isinstance (by rfl) nb.tuple boot_tuple ?_)
   |((specialize EvD _ _ (.Call (.Name _ _) _ _ _) _);first|refine zl2 (by with_reducible assumption) (by exact⟨rfl,rfl,rfl,rfl,rfl⟩) (hr.mono (by decide)) (by rfl) ?_|refine EvN.d (zd7 (by with_reducible assumption) (by exact⟨rfl,rfl,rfl,rfl,rfl⟩) (hr.mono (by decide)) (by rfl) ?_))
   |((specialize EvD _ _ (.Compare _ [_] _ _) _);first|exists zr9|((specialize EvD _ _ (.Compare _ [.Eq] _ _) _);refine zw3 hr.units ?_))
   |((specialize EvD _ _ (.Compare _ [_,_] _ _) _);first|refine zo6 ?_)
   |((specialize EvD _ _ (.BoolOp _ _ _) _);first|exists zA1|exists zy1)
   |exists ja)
  |((specialize EvA _ _ _ _);first
   |exists zp
   |((specialize EvA _ _ (.Name "_law_tape_here" _::_) _);exists zL,rfl)
   |refine zd ?_)
  |((specialize EvT _ _ _ _);first
   |((specialize EvT _ _ (.Compare _ [_] _ _) _);first|exists ba|exists dN|exists vE|exists zp2|((specialize EvT _ _ (.Compare _ [.Eq] _ _) _);refine zx0 hr.units ?_)|((specialize EvT _ _ (.Compare _ [.NotEq] _ _) _);refine zy6 hr.units ?_)|((specialize EvT _ _ (.Compare _ [.In] _ _) _);refine zB9 hr.one ?_)|((specialize EvT _ _ (.Compare _ [.NotIn] _ _) _);refine zq6 hr.one ?_))
   |((specialize EvT _ _ (.Compare _ [_,_] _ _) _);first|refine zm4 ?_|refine zg0 ?_)
   |exists wx
   |((specialize EvT _ _ (.BoolOp _ _ _) _);exists EvW.t)
   |refine wC ?_)
  |((specialize EvL _ _ _ _);first
   |exists yD
   |((specialize EvL _ _ (.Call (.Name "list" _) _ _ _) _);refine jX (by rfl) nb.list ?_)
   |((specialize EvL _ _ (.Call (.Name _ _) _ _ _) _);refine zn2 (by with_reducible assumption) (by exact⟨rfl,rfl,rfl,rfl,rfl⟩) (hr.mono (by decide)) (by rfl) ?_)
   |((specialize EvL _ _ (.Subscript _ (.Slice _ _ none _) _) _);refine sf ?_)
   |((specialize EvL _ _ (.BinOp _ .Add _ _) _);refine xr ?_))
  |((specialize EvW _ _ _ _);first
   |exists aY
   |exists zc9
   |exists iy
   |exists aR)
  |((specialize EvO _ _ _ _);first
   |exists vb
   |exists vg)
  |((specialize eY _ _ _);first
   |refine ixk rfl rfl rfl ?_)
  |((specialize zn1 _ _ _ _);first
   |refine ink rfl rfl ?_
   |refine inkT rfl rfl ?_)
  |((specialize jA _ _ _);first
   |exists zn7
   |exists zo0
   |refine eqk rfl rfl rfl rfl ?_)
  |((specialize SvS _ _ _ _);first
   |((specialize SvS _ (List.set _ _ _) _ _);dsimp only[List.set])
   |((specialize SvS _ _ (zA _) _);show SvS _ _ (_::_) _)
   |((specialize SvS _ _ (.Assign [.Name _ _] (.List [] _) _::_) _);exists xh,nd)
   |((specialize SvS _ _ (.Assign [.Name _ _] _ _::_) _);exists zP,nd)
   |((specialize SvS _ _ (.Expr (.Call (.Attribute _ "append" _) _ _ _) _::_) _);exists yu,rfl)
   |((specialize SvS _ _ (.Return (some (.Name _ _)) _::_) _);exists xB,rfl)
   |exists xU
   |exists xk
   |exists zy
   |((with_reducible refine oP ?hk ?_);case hk=>first|rfl|decide +kernel)
   |((with_reducible refine vT ?hk ?_);case hk=>first|rfl|decide +kernel))
  |((specialize xt _ _);refine⟨_,rfl,by first|decide|omega,by first|decide|(show _<big;unfold big;omega),fun _ _ _=>?_⟩)
  |((with_reducible refine ck ?hk ?_);case hk=>first|rfl|decide +kernel)
  |((with_reducible refine hV ?hk ?_);case hk=>first|rfl|decide +kernel)
  |refine⟨_,_,rfl,rfl,?_⟩
  |refine⟨_,_,_,rfl,rfl,rfl,?_⟩
  |refine⟨_,rfl,zP4 rfl,?_⟩
  |refine⟨_,rfl,rfl,?_⟩
  |refine⟨_,rfl,?_⟩))
namespace K53
open PySem PySem.Spec PyProof.Rows L2
abbrev nE :Stmt:=top 58
abbrev oh :Stmt:=top 59
section
variable {P:Program}{w:World}{K:PySem.W.Frag}{mg:Str->Option Value}{base:Heap}{cs:Cs}
theorem zH7 :zo ["_law_tape_here"] ["_law_tape_here"] (zc nE):=.o
theorem fg {f:Addr}{fd:FuncData}(F:Fun K "_law_coins" "_law_coins" nE f fd)(hm:mg "_law_coins"=some (.ref f))(hb:Binds K fd ["_law_tape_here"] [])(CD:Cal P w K mg base "_law_draw" 1 xt):Cal P w K mg base "_law_coins" 2 og:=by
 refine yT F hm hb zH7 (fun as Q h=>?_) (fun cdv A' outer s H E as Q hr h=>?_)
 ·obtain⟨rfl,_⟩:=h;rfl
 ·obtain⟨rfl,q⟩:=h;have nd:=zH7.nd;and_intros;exact oJ rfl (by assumption) (by assumption) ⟨q _ (by omega) (by omega),q _ (by omega) (by omega),q _ (by omega) (by omega),q _ (by omega) (by omega),q _ (by omega) (by omega),trivial⟩
theorem zK2 :zo ["_law_tape_here","_law_word","_law_many"] ["_law_tape_here","_law_word"] (zc oh):=.o
theorem gP {f:Addr}{fd:FuncData}(F:Fun K "_law_worth" "_law_worth" oh f fd)(hm:mg "_law_worth"=some (.ref f))(hb:Binds K fd ["_law_tape_here","_law_word"] [])(CD:Cal P w K mg base "_law_draw" 1 xt)(CC:Cal P w K mg base "_law_coins" 2 og):Cal P w K mg base "_law_worth" 3 mN:=by
 refine yT F hm hb zK2 (fun as Q h=>?_) (fun cdv A' outer s H E as Q hr h=>?_)
 ·obtain⟨wd,rfl,_⟩:=h;rfl
 ·obtain⟨wd,rfl,hw,q⟩:=h;have nd:=zK2.nd;have qc:∀z:Int,0<=z->z<=1000000000000->vC (.int z)=true:=fun z h0 h1=>within_int h0 h1;have hbig:(1000000000001:Int)<big:=by decide
  have hneg:-big<(0:Int):=by decide
  have nc:∀z:Int,0<=z->z<=1000000000000->zH 5000 (.int z):=fun z h0 h1=>(zH.int (by omega) (by omega)).mono (by decide);have qn:zD (.str wd) .none=true->Q (.dat .none):=fun h=>q _ h (zH.none.mono (by decide)) (zQ8 _);have qi:∀z:Int,0<=z->z<=1000000000000->zD (.str wd) (.int z)=true->Q (.dat (.int z)):=fun z a b h=>q _ h (nc z a b) (zQ8 _);have qd:∀m f:Int,wd="deal"->2<=m->m<=14->1<=f->f<m->Q (.dat (.tuple [.int m,.int f])):=fun m f e a b c d=>by
   subst e;obtain⟨x,y,z⟩:=zf4 a b c d;exact q _ x y z
  have qp:∀z:Int,0<=z->z<=1000000000000->wd="price"->Q (.dat (.int z)):=fun z a b e=>by
   subst e;exact qi z a b (by rw[xE,qc z a b,Bool.or_true])
  simp only[words,zP2,zQ3,zS4] at hw;rcases hw with rfl|rfl|rfl|rfl|rfl|rfl|rfl
  ·and_intros;refine⟨rfl,fun z1 a1 b1=>?_⟩;and_intros;refine⟨rfl,fun z2 a2 b2=>?_⟩;and_intros;exact oJ rfl (by assumption) (by assumption) ⟨qn (by rw[xE]<;>rfl),qp z1 a1 b1 rfl,qp z2 a2 b2 rfl,trivial⟩
  ·and_intros;exact q _ (by rw[rQ]<;>rfl) ((zH.bool _).mono (by decide)) (zQ8 _)
  ·and_intros;exact q _ (by rw[mO]<;>rfl) ((zH.bool _).mono (by decide)) (zQ8 _)
  ·and_intros;exact qi _ (by omega) (by omega) (by rw[tX];exact within_int (by omega) (by omega))
  ·and_intros;exact qi _ (by omega) (by omega) (by rw[rZ];exact within_int (by omega) (by omega))
  ·and_intros;exact oJ rfl (by assumption) (by assumption) ⟨qn (by rw[uu]<;>rfl),qd _ _ rfl (by omega) (by omega) (by omega) (by omega),qd _ _ rfl (by omega) (by omega) (by omega) (by omega),qd _ _ rfl (by omega) (by omega) (by omega) (by omega),trivial⟩
  ·and_intros;refine⟨rfl,fun z1 a1 b1=>?_⟩;exact qi z1 a1 b1 (by rw[pI];exact qc z1 a1 b1)
end
structure rM (d:PyData):Prop where
 rule:xi d=true
 nice:zH 20011 d
 dep:d.depth<=2
 wn:zH 5000 (hJ d)
def yt (ds:List PyData):Prop:=∀d∈ds,rM d
theorem pP {s:Str}(h:s∈words):zH 2000 (.str s):=by
 simp only[words,zP2,zQ3,zS4] at h;rcases h with rfl|rfl|rfl|rfl|rfl|rfl|rfl<;>exact⟨rfl,rfl,zQ8 _,by decide +kernel,by decide +kernel⟩
theorem rM.of {s:Str}{i j:Int}{d:PyData}(hs:s∈words)(i0:0<=i)(ij:i<=j)(j1:j<=1000000)(hw:zD (.str s) d=true)(hn:zH 5000 d)(hd:d.depth<=1):rM (.tuple [.str s,.int i,.int j,d]):=by
 have hbig:(1000001:Int)<big:=by decide
 have hneg:-big<(0:Int):=by decide
 have na:ye 5000 [.str s,.int i,.int j,d]:=by
  constructor
  ·intro x hx;simp only[zP2,zQ3,zS4] at hx;rcases hx with rfl|rfl|rfl|rfl
   ·exact (pP hs).mono (by decide)
   ·exact (zH.int (by omega) (by omega)).mono (by decide)
   ·exact (zH.int (by omega) (by omega)).mono (by decide)
   ·exact hn
  ·intro x hx;simp only[zP2,zQ3,zS4] at hx;rcases hx with rfl|rfl|rfl|rfl
   ·exact zQ8 _
   ·exact zQ8 _
   ·exact zQ8 _
   ·omega
 refine⟨?_,zH.tuple na (by show 4*(5000+2)+3<=20011;decide),?_,hn⟩
 ·show (yv (.tuple [.int i,.int j])&&zD (.str s) d)=true;rw[hw,Bool.and_true];unfold yv qI;have h1:(uM (.int i)&&uM (.int j))=true:=by
   show ((decide (0<=i)&&decide (i<=1000000))&&(decide (0<=j)&&decide (j<=1000000)))=true;simp only[zR3,zS1];omega
  simp only[h1,zZ6,zS1];omega
 ·simp only[PyData.depth,PyData.depthAll];omega
theorem yt.rules {ds:List PyData}(h:yt ds):Rules ds:=fun d hd=>⟨(h d hd).rule,(h d hd).nice.shaped,(h d hd).nice.nod⟩
theorem zk8 {ds:List PyData}{lo hi:Option Int}{d:PyData}(h:d∈L2.cutD ds lo hi):d∈ds:=by
 unfold L2.cutD at h;exact List.mem_of_mem_drop (z59 h)
theorem zk6 {ds:List PyData}{lo hi:Option Int}:(L2.cutD ds lo hi).length<=ds.length:=by
 unfold L2.cutD;rw[zS0,zW1];omega
def Bd (bs dy:Int):Prop:=0<=bs/\bs<=999980/\1<=dy/\dy<=14
theorem dY {c:Int}(h0:0<=c)(h1:c<=1000000000000):vC (.int c)=true:=within_int h0 h1
def vM (lo hi:Int)(d:PyData):Prop:=∃(s:Str) (i j:Int) (v:PyData),d=.tuple [.str s,.int i,.int j,v]/\s∈words/\lo<=i/\i<=j/\j<=hi/\zD (.str s) v=true/\zH 5000 v/\v.depth<=1
def yw (lo hi:Int)(ds:List PyData):Prop:=∀d∈ds,vM lo hi d
theorem vM.of {lo hi:Int}{s:Str}{i j:Int}{d:PyData}(hs:s∈words)(i0:lo<=i)(ij:i<=j)(j1:j<=hi)(hw:zD (.str s) d=true)(hn:zH 5000 d)(hd:d.depth<=1):vM lo hi (.tuple [.str s,.int i,.int j,d]):=⟨s,i,j,d,rfl,hs,i0,ij,j1,hw,hn,hd⟩
theorem vM.ok {lo hi:Int}{d:PyData}(h:vM lo hi d)(h0:0<=lo)(h1:hi<=1000000):rM d:=by
 obtain⟨s,i,j,v,rfl,hs,i0,ij,j1,hw,hn,hd⟩:=h;exact rM.of hs (by omega) ij (by omega) hw hn hd
theorem yw.ok {lo hi:Int}{ds:List PyData}(h:yw lo hi ds)(h0:0<=lo)(h1:hi<=1000000):yt ds:=fun d hd=>(h d hd).ok h0 h1
theorem yw.snoc {lo hi:Int}{ds:List PyData}{d:PyData}(h:yw lo hi ds)(hd:vM lo hi d):yw lo hi (ds++[d]):=fun x hx=>by
 rcases zT1.mp hx with hx|hx
 ·exact h x hx
 ·rw[zP7.mp hx];exact hd
theorem yw.app {lo hi:Int}{ds es:List PyData}(h:yw lo hi ds)(h':yw lo hi es):yw lo hi (ds++es):=fun x hx=>by
 rcases zT1.mp hx with hx|hx
 ·exact h x hx
 ·exact h' x hx
theorem yw.nil {lo hi:Int}:yw lo hi []:=fun x hx=>by simp at hx
theorem rY {lo hi i j c:Int}(i0:lo<=i)(ij:i<=j)(j1:j<=hi)(h0:0<=c)(h1:c<=1000000000000):vM lo hi (.tuple [.str "price",.int i,.int j,.int c]):=
 vM.of (by simp[words]) i0 ij j1 (by rw[xE,dY h0 h1,Bool.or_true]) ((zc8 (by omega) (by omega)).mono (by decide)) (zQ8 _)
theorem lY {lo hi i j:Int}(i0:lo<=i)(ij:i<=j)(j1:j<=hi):vM lo hi (.tuple [.str "price",.int i,.int j,.none]):=
 vM.of (by simp[words]) i0 ij j1 (by rw[xE]<;>rfl) (zH.none.mono (by decide)) (zQ8 _)
def BdW (bs dy:Int):Prop:=0<=bs/\bs<=1000000/\1<=dy/\dy<=20
abbrev pW :Stmt:=top 60
abbrev ny :Stmt:=top 61
abbrev oW :Stmt:=top 62
def vB :List A->(A->Prop)->Prop:=fun as Q=>∃bs dy:Int,as=[.tape,.dat (.int bs),.dat (.int dy)]/\BdW bs dy/\∀ds,yw bs (bs+dy+5) ds->ds.length<=5->Q (.own ds)
def rJ :List A->(A->Prop)->Prop:=fun as Q=>∃bs dy:Int,as=[.tape,.dat (.int bs),.dat (.int dy)]/\BdW bs dy/\∀ds,yw bs (bs+dy+5) ds->ds.length<=10->Q (.dat (.list ds))
section
variable {P:Program}{w:World}{K:PySem.W.Frag}{mg:Str->Option Value}{base:Heap}
theorem ze0 :zo ["_law_tape_here","_law_base","_law_days","_law_found","_law_k","_law_first","_law_worth_here"] ["_law_tape_here","_law_base","_law_days"] (zc pW):=.o
theorem jG {f:Addr}{fd:FuncData}(F:Fun K "_law_price_rules" "_law_price_rules" pW f fd)(hm:mg "_law_price_rules"=some (.ref f))(hb:Binds K fd ["_law_tape_here","_law_base","_law_days"] [])(nb:NbT mg)(CD:Cal P w K mg base "_law_draw" 1 xt)(CC:Cal P w K mg base "_law_coins" 2 og):Cal P w K mg base "_law_price_rules" 3 vB:=by
 refine yT F hm hb ze0 (fun as Q h=>?_) (fun cdv A' outer s H E as Q hr h=>?_)
 ·obtain⟨bs,dy,rfl,_⟩:=h;rfl
 ·obtain⟨bs,dy,rfl,⟨b1,b2,b3,b4⟩,q⟩:=h;have hbig:(1000001:Int)<big:=by decide
  refine xh 3 ze0.nd (yD (zd (yQ (zd (yc (zd (zf 1 rfl (zd (xx (zf 1 rfl (zf 2 rfl (⟨_,_,rfl,rfl,zd (zZ CC hr (by rfl) (zL 0 rfl (zp (⟨rfl,fun c1 p1 q1=>zp (⟨_,rfl,zP4 rfl,zp (⟨_,rfl,zP4 rfl,?_⟩)⟩)⟩))))⟩))))))))))));refine vF (pat:=.one 4) zV3 rfl (zK (i:=4) ze0.nd rfl (by first|exact Or.inl rfl|exact Or.inr rfl)) (xQ (by rfl) nb.range (zZ CD (hr.mono (by decide)) (by rfl) (zL 0 rfl (zd (zT (zp (⟨_,rfl,by decide,by decide,fun v2 h2 g2=>⟨_,rfl,by omega,by omega,?_⟩⟩)))))));refine yh (fun i α=>∃v4 v5 v6 ds,α=[some .tape,some (.dat (.int bs)),some (.dat (.int dy)),some (.own ds),v4,v5,v6]/\yw bs (bs+dy+5) ds/\ds.length<=1+i) ⟨none,none,none,_,rfl,yw.nil.snoc (rY (by omega) (by omega) (by omega) p1 q1),zP3 _⟩ ?_ ?_
  ·rintro i d α hd ⟨v4,v5,v6,ds,rfl,ro,ld⟩;have hi:i<4:=by
    have:=(zP1.mp hd).1;rw[zO6,zi] at this;omega
   refine⟨_,rfl,?_⟩;refine zP 5 ze0.nd (xx (zf 1 rfl (zZ CD (hr.mono (by decide)) (by rfl) (zL 0 rfl (zd (zf 2 rfl (zp (⟨_,rfl,by omega,by omega,fun v3 h3 g3=>⟨_,_,rfl,rfl,?_⟩⟩))))))));refine zP 6 ze0.nd (EvD.imp (Q':=fun d=>d=.none\/∃c:Int,d=.int c/\0<=c/\c<=1000000000000) (jF (fun _ _=>rfl) (EvL.d (yD (zd (qk (zd (zZ CC hr (by rfl) (zL 0 rfl (zp (⟨rfl,fun c7 p7 q7=>zd (zZ CC hr (by rfl) (zL 0 rfl (zp (⟨rfl,fun c6 p6 q6=>zd (zZ CC hr (by rfl) (zL 0 rfl (zp (⟨rfl,fun c5 p5 q5=>zp (⟨_,rfl,zP4 rfl,zZ CD (hr.mono (by decide)) (by rfl) (zL 0 rfl (zd (zT (zp (⟨_,rfl,by decide,by decide,fun v4 h4 g4=>?pick⟩)))))⟩)⟩))))⟩))))⟩)))))))))) ?_)
   case pick=>
    obtain⟨z,hz,e⟩:=mG (ds:=[PyData.none,.int c7,.int c6,.int c5]) h4 g4;refine⟨_,_,z,rfl,rfl,e,?_⟩;simp only[zP2,zQ3,zS4] at hz;rcases hz with rfl|rfl|rfl|rfl
    ·exact .inl rfl
    ·exact .inr ⟨_,rfl,p7,q7⟩
    ·exact .inr ⟨_,rfl,p6,q6⟩
    ·exact .inr ⟨_,rfl,p5,q5⟩
   intro d6 hd6;refine yu 3 rfl (yQ (zd (yc (zd (zf 5 rfl (zd (xx (zf 5 rfl (zZ CD (hr.mono (by decide)) (by rfl) (zL 0 rfl (zd (zT (zp (⟨_,rfl,by decide,by decide,fun v8 h8 g8=>⟨_,_,rfl,rfl,zd (zf 6 rfl (zp (⟨_,rfl,zP4 rfl,⟨by omega,?_⟩⟩)))⟩⟩))))))))))))));refine zy ⟨some (.dat d),some (.dat (.int (bs+v3))),some (.dat d6),ds++[.tuple [.str "price",.int (bs+v3),.int (bs+v3+v8),d6]],rfl,ro.snoc ?_,by rw[zQ6,zR9];omega⟩;rcases hd6 with rfl|⟨c,rfl,c0,c1⟩
   ·exact lY (by omega) (by omega) (by omega)
   ·exact rY (by omega) (by omega) (by omega) c0 c1
  ·rintro α ⟨v4,v5,v6,ds,rfl,ro,ld⟩;rw[zO6,zi] at ld;exact xB 3 rfl (q ds ro (by omega))
theorem cx :zo ["_law_tape_here","_law_base","_law_days","_law_found","_law_k","_law_word","_law_first"] ["_law_tape_here","_law_base","_law_days"] (zc ny):=.o
theorem jL {f:Addr}{fd:FuncData}(F:Fun K "_law_other_rules" "_law_other_rules" ny f fd)(hm:mg "_law_other_rules"=some (.ref f))(hb:Binds K fd ["_law_tape_here","_law_base","_law_days"] [])(nb:NbT mg)(CD:Cal P w K mg base "_law_draw" 1 xt)(CW:Cal P w K mg base "_law_worth" 3 mN):Cal P w K mg base "_law_other_rules" 4 vB:=by
 refine yT F hm hb cx (fun as Q h=>?_) (fun cdv A' outer s H E as Q hr h=>?_)
 ·obtain⟨bs,dy,rfl,_⟩:=h;rfl
 ·obtain⟨bs,dy,rfl,⟨b1,b2,b3,b4⟩,q⟩:=h;have hbig:(1000001:Int)<big:=by decide
  refine xh 3 cx.nd (yD (zp (⟨_,rfl,zP4 rfl,?_⟩)));refine vF (pat:=.one 4) zV3 rfl (zK (i:=4) cx.nd rfl (by first|exact Or.inl rfl|exact Or.inr rfl)) (xQ (by rfl) nb.range (zZ CD (hr.mono (by decide)) (by rfl) (zL 0 rfl (zd (zT (zp (⟨_,rfl,by decide,by decide,fun v1 h1 g1=>⟨_,rfl,by omega,by omega,?_⟩⟩)))))));refine yh (fun i α=>∃v4 v5 v6 ds,α=[some .tape,some (.dat (.int bs)),some (.dat (.int dy)),some (.own ds),v4,v5,v6]/\yw bs (bs+dy+5) ds/\ds.length<=i) ⟨none,none,none,_,rfl,yw.nil,zP3 _⟩ ?_ ?_
  ·rintro i d α hd ⟨v4,v5,v6,ds,rfl,ro,ld⟩;have hi:i<5:=by
    have:=(zP1.mp hd).1;rw[zO6,zi] at this;omega
   refine⟨_,rfl,?_⟩;refine zP 5 cx.nd (EvD.imp (Q':=fun d=>∃x,d=.str x/\x∈words) (jF (fun _ _=>rfl) (EvL.d (yD (zd (yc (zd (yc (zd (yc (zd (yc (zd (yc (zd (yc (zp (⟨_,rfl,zP4 rfl,zZ CD (hr.mono (by decide)) (by rfl) (zL 0 rfl (zd (zT (zp (⟨_,rfl,by decide,by decide,fun v2 h2 g2=>?pick⟩)))))⟩))))))))))))))))) ?_)
   case pick=>
    obtain⟨z,hz,e⟩:=mG (ds:=[PyData.str "come",.str "go",.str "least",.str "most",.str "deal",.str "fee"]) h2 g2;refine⟨_,_,z,rfl,rfl,e,?_⟩;simp only[zP2,zQ3,zS4] at hz;rcases hz with rfl|rfl|rfl|rfl|rfl|rfl<;>exact⟨_,rfl,by simp[words]⟩
   rintro _ ⟨wd,rfl,hw⟩;refine zP 6 cx.nd (xx (zf 1 rfl (zZ CD (hr.mono (by decide)) (by rfl) (zL 0 rfl (zd (zf 2 rfl (zp (⟨_,rfl,by omega,by omega,fun v3 h3 g3=>⟨_,_,rfl,rfl,?_⟩⟩))))))));refine yu 3 rfl (yQ (zd (zf 5 rfl (zd (zf 6 rfl (zd (xx (zf 6 rfl (zZ CD (hr.mono (by decide)) (by rfl) (zL 0 rfl (zd (zT (zp (⟨_,rfl,by decide,by decide,fun v5 h5 g5=>⟨_,_,rfl,rfl,zd (zZ CW hr (by rfl) (zL 0 rfl (zd (zf 5 rfl (zp (⟨_,rfl,hw,fun d4 a4 b4 c4=>zp (⟨_,rfl,zP4 rfl,⟨by omega,?_⟩⟩)⟩))))))⟩⟩))))))))))))));exact zy ⟨some (.dat d),some (.dat (.str wd)),some (.dat (.int (bs+v3))),ds++[.tuple [.str wd,.int (bs+v3),.int (bs+v3+v5),d4]],rfl,ro.snoc (vM.of hw (by omega) (by omega) (by omega) a4 b4 c4),by rw[zQ6,zR9];omega⟩
  ·rintro α ⟨v4,v5,v6,ds,rfl,ro,ld⟩;rw[zO6,zi] at ld;exact xB 3 rfl (q ds ro (by omega))
theorem zu3 :zo ["_law_tape_here","_law_base","_law_days","_law_ones","_law_others"] ["_law_tape_here","_law_base","_law_days"] (zc oW):=.o
theorem jM {f:Addr}{fd:FuncData}(F:Fun K "_law_rules" "_law_rules" oW f fd)(hm:mg "_law_rules"=some (.ref f))(hb:Binds K fd ["_law_tape_here","_law_base","_law_days"] [])(CD:Cal P w K mg base "_law_draw" 1 xt)(CP:Cal P w K mg base "_law_price_rules" 3 vB)(CO:Cal P w K mg base "_law_other_rules" 4 vB):Cal P w K mg base "_law_rules" 5 rJ:=by
 refine yT F hm hb zu3 (fun as Q h=>?_) (fun cdv A' outer s H E as Q hr h=>?_)
 ·obtain⟨bs,dy,rfl,_⟩:=h;rfl
 ·obtain⟨bs,dy,rfl,bd,q⟩:=h;refine zP 3 zu3.nd (EvL.d (wA CP (hr.mono (by decide)) (by rfl) (zL 0 rfl (zd (zf 1 rfl (zd (zf 2 rfl (zp (⟨_,_,rfl,bd,fun ds1 r1 l1=>⟨_,rfl,?_⟩⟩)))))))));refine zP 4 zu3.nd (EvL.d (wA CO hr (by rfl) (zL 0 rfl (zd (zf 1 rfl (zd (zf 2 rfl (zp (⟨_,_,rfl,bd,fun ds2 r2 l2=>⟨_,rfl,?_⟩⟩)))))))));refine xU (jF (fun _ _=>rfl) (EvL.d (yD (zd (EvL.d (xr (zf 3 rfl (zf 4 rfl (⟨_,_,rfl,rfl,by omega,zd (EvL.d (xr (zf 4 rfl (zf 3 rfl (⟨_,_,rfl,rfl,by omega,zp (⟨_,rfl,zP4 rfl,zZ CD (hr.mono (by decide)) (by rfl) (zL 0 rfl (zd (zT (zp (⟨_,rfl,by decide,by decide,fun v3 h3 g3=>?_⟩)))))⟩)⟩)))))⟩)))))))));obtain⟨z,hz,e⟩:=mG (ds:=[PyData.list (ds1++ds2),.list (ds2++ds1)]) h3 g3;refine⟨_,_,z,rfl,rfl,e,?_⟩;simp only[zP2,zQ3,zS4] at hz;rcases hz with rfl|rfl
  ·exact q _ (r1.app r2) (by rw[zQ6];omega)
  ·exact q _ (r2.app r1) (by rw[zQ6];omega)
def cy :List A->(A->Prop)->Prop:=fun as Q=>∃bs dy:Int,as=[.tape,.dat (.int bs),.dat (.int dy)]/\Bd bs dy/\∀ds,yt ds->ds.length<=5->Q (.own ds)
def dO :List A->(A->Prop)->Prop:=fun as Q=>∃bs dy:Int,as=[.tape,.dat (.int bs),.dat (.int dy)]/\Bd bs dy/\∀ds,yt ds->ds.length<=10->Q (.dat (.list ds))
theorem zD7 {x:Str}{k:Nat}(C:Cal P w K mg base x k vB):Cal P w K mg base x k cy:=C.imp fun as Q h=>by
 obtain⟨bs,dy,rfl,⟨b1,b2,b3,b4⟩,q⟩:=h;exact⟨bs,dy,rfl,⟨b1,by omega,b3,by omega⟩,fun ds rw l=>q ds (rw.ok (by omega) (by omega)) l⟩
theorem fJ {x:Str}{k:Nat}(C:Cal P w K mg base x k rJ):Cal P w K mg base x k dO:=C.imp fun as Q h=>by
 obtain⟨bs,dy,rfl,⟨b1,b2,b3,b4⟩,q⟩:=h;exact⟨bs,dy,rfl,⟨b1,by omega,b3,by omega⟩,fun ds rw l=>q ds (rw.ok (by omega) (by omega)) l⟩
end
abbrev ox :Stmt:=top 9
def rF :List A->(A->Prop)->Prop:=fun as Q=>∃c g:Int,as=[.dat (.tuple [.int c,.int g])]/\-100<=c/\c<g/\g<=c+500/\c<=1000100/\Q (.own ((zt c (g-c).toNat).map .int))
section
variable {P:Program}{w:World}{K:PySem.W.Frag}{mg:Str->Option Value}{base:Heap}{cs:Cs}
theorem zO2 :zo ["stay"] ["stay"] (zc ox):=.o
theorem kr {f:Addr}{fd:FuncData}(F:Fun K "nights_of" "nights_of" ox f fd)(hm:mg "nights_of"=some (.ref f))(hb:Binds K fd ["stay"] [])(nb:NbT mg):Cal P w K mg base "nights_of" 1 rF:=by
 refine yT F hm hb zO2 (fun as Q h=>?_) (fun cdv A' outer s H E as Q hr h=>?_)
 ·obtain⟨c,g,rfl,_⟩:=h;rfl
 ·obtain⟨c,g,rfl,h1,h2,h3,h4,q⟩:=h;exact sI (aT rfl (by rfl) nb.list (by rfl) nb.range (wy (fun _ _=>rfl) (zf 0 rfl (zT (⟨_,_,_,rfl,rfl,rfl,wy (fun _ _=>rfl) (zf 0 rfl (zT (⟨_,_,_,rfl,rfl,rfl,⟨_,_,rfl,rfl,⟨by omega,by omega,by omega,by omega⟩,by omega,q⟩⟩)))⟩)))))
end
abbrev yU :Stmt:=top 16
def pK :Arguments×Scope:=match zA yU with
 |[.Return (some (.Call _ _ [⟨_,.Lambda ps _ sc _,_⟩] _)) _]=>(ps,sc)
 |_=>(zR yU,zc yU)
section
variable {P:Program}{w:World}{K:PySem.W.Frag}{mg:Str->Option Value}{base:Heap}
theorem zk4 :zo ["prices","places"] ["prices","places"] (zc yU):=.o
theorem zK6 :wN "place" "prices" pK.1 pK.2:=⟨rfl,rfl,rfl,rfl,rfl,by decide +kernel,by decide +kernel,by decide⟩
theorem zx3 {f c:Addr}{A':Around}{outer:List Env}{s:Shared}{H:Hp}{E:XK}{n1:Nat}{p1 p2 p3 p4 p5 p6:Pos}(hhd:PySem.W.codeHdIn K c yC=true)(KX:K.In base)(hbi:base.BuiltinsAt mg yC):
  bZ (ui CX0 P w K mg base ["prices","places"] "cheapest_first" (zc yU) f (.ref c) A' outer s H E).nox c "place" "prices" n1 p1 p2 p3 p4 p5 p6 pK.1 pK.2 where
 S:=zK6
 hy:=rfl
 hcl:=fun cl h=>by
  have e:pK.2.names=[(("prices":Str),NameKind.free),(("place":Str),NameKind.local)]\/pK.2.names=[(("place":Str),NameKind.local),(("prices":Str),NameKind.free)]:=by decide +kernel
  unfold closureFor;rcases e with e|e<;>rw[e]<;>simp[cellOf,h]
 hgl:=rfl
 hco:=rfl
 hhd:=PySem.W.codeHd_of_K KX hhd
 hbi:=hbi
 hdf:=rfl
 hq:=rfl
 hne:=by decide
 hb:=fun u cl c' pm ctv=>rfl
 hdx:=by decide
 hdy:=by decide
 hcx:=by decide
 hcy:=by decide
def nr :List A->(A->Prop)->Prop:=fun as Q=>∃ns zs:List Int,as=[.dat (.list (zs.map .int)),.dat (.list (ns.map .int))]/\ns.length<64/\(∀n∈ns,0<=n/\n<zs.length)/\∀ms,qC ns zs ms->Q (.own (ms.map .int))
theorem fo {f c:Addr}{oc:Value}{od an:Option Addr}{osl:Array (Option Value)}{kV doc pm ct:Value}(lk:K.lookup f=some ⟨oc,od,.func (PySem.W.fnOf "cheapest_first" "cheapest_first" (zR yU) (zA yU) (zc yU) .none kV doc pm an (.ref c) ct),osl⟩)(hcd:PySem.W.codeIn K (.ref c) "cheapest_first"=true)(kp:PySem.W.keepIn K (.ref f)=true)
  (hm:mg "cheapest_first"=some (.ref f)) (hb:Binds K (PySem.W.fnOf "cheapest_first" "cheapest_first" (zR yU) (zA yU) (zc yU) .none kV doc pm an (.ref c) ct) ["prices","places"] []) (nb:NbT mg) (hhd:PySem.W.codeHdIn K c yC=true) (KX:K.In base) (hbi:base.BuiltinsAt mg yC):Cal P w K mg base "cheapest_first" 3 nr:=by
 refine⟨f,_,_,hm,kp,hb,zL9 lk hcd zk4 (fun as Q h=>by obtain⟨ns,zs,rfl,_⟩:=h;rfl) fun A' outer s H E as Q hr h=>?_⟩;obtain⟨ns,zs,rfl,h64,hin,q⟩:=h;exact sI (kx (j:=0) (k:=0) (zx3 hhd KX hbi) hr (by rfl) nb.sorted rfl (zf 1 rfl ⟨ns,zs,rfl,rfl,h64,hin,fun ms sm=>q ms sm⟩))
end
abbrev vP :Stmt:=top 17
def zF3 :Scope:=match zA vP with
 |.Assign _ (.ListComp _ _ sc _) _::_=>sc
 |_=>zc vP
def rL :List A->(A->Prop)->Prop:=fun as Q=>∃(zs:List Int) (d:PyData),as=[.dat (.list (zs.map .int)),.dat d]/\zs.length<=500/\
 ((d=.none/\Q (.own ((List.replicate zs.length false).map .bool)))\/∃many free:Nat,d=.tuple [.int many,.int free]/\0<many/\many<64/\∀bs,uB zs many free zs.length bs->Q (.own (bs.map .bool)))
theorem gQ (ns:List Int):vW (ns.map .int)=true:=by
 induction ns with
 |nil=>rfl
 |cons n ns ih=>rw[zR4,vW,ih];rfl
section
variable {P:Program}{w:World}{K:PySem.W.Frag}{mg:Str->Option Value}{base:Heap}
theorem km :zo ["prices","deal","marks","bundle","place","rank","other"] ["prices","deal"] (zc vP):=.o
theorem zI6 :zU ["prices","deal","marks","bundle","place","rank","other"] (zc vP) ["price"] [none] zF3:=⟨rfl,by decide +kernel,by decide +kernel,by decide +kernel,by decide +kernel,rfl,by decide +kernel⟩
theorem jo {f:Addr}{fd:FuncData}(F:Fun K "marked" "marked" vP f fd)(hm:mg "marked"=some (.ref f))(hb:Binds K fd ["prices","deal"] [])(nb:NbT mg)(CC:Cal P w K mg base "cheapest_first" 3 nr):Cal P w K mg base "marked" 4 rL:=by
 refine yT F hm hb km (fun as Q h=>?_) (fun cdv A' outer s H E as Q hr h=>?_)
 ·obtain⟨zs,d,rfl,_⟩:=h;rfl
 ·obtain⟨zs,d,rfl,hlen,h⟩:=h;refine zc2 2 (pat:=.one 0) km.nd rfl zI6 rfl (fun _ _ _ _=>zK (i:=0) zI6.nd rfl (Or.inl rfl)) (wQ (zf 0 rfl ⟨_,rfl,?_,?comp⟩))
  ·rw[zO6];omega
  refine uz (fun _=>true) (fun _=>.bool false) (fun d hd=>⟨_,rfl,fun _ _ _ _ _ k=>cQ k,fun _ _ _ _ _ _ k=>zr7 k⟩) ?_;have e0:([]:List PyData)++List.map (fun _=>PyData.bool false) (List.filter (fun _=>true) (List.map PyData.int zs))=(List.replicate zs.length false).map .bool:=by
   rw[zW5,ar,zU8,List.map_replicate];exact List.eq_replicate_iff.mpr ⟨by simp,by simp⟩
  rw[e0];rcases h with ⟨rfl,q⟩|⟨many,free,rfl,hp,hm64,q⟩
  ·refine xk (vE (zf 1 rfl ?_));exact xB 2 rfl q
  refine xk (vE (zf 1 rfl (zy ?_)));refine xh 3 km.nd (yD (zp ⟨_,rfl,zQ8 _,?_⟩));refine vF (pat:=.one 4) zV3 rfl (zK (i:=4) km.nd rfl (Or.inl rfl)) (xQ (by rfl) nb.range (uv (by rfl) nb.len (zf 0 rfl ⟨_,rfl,⟨_,rfl,by omega,by rw[zO6];omega,?_⟩⟩)));refine yh (fun i α=>∃(bs:List Bool) (o4 o5 o6:Option A),uB zs many free i bs/\α=[some (.dat (.list (zs.map .int))),some (.dat (.tuple [.int many,.int free])),some (.own (bs.map .bool)),some (.own ((zt ((i / many*many:Nat):Int) (i % many)).map .int)),o4,o5,o6]) ?_ ?_ ?_
  ·refine⟨_,none,none,none,fc zs free,?_⟩;rw[Nat.zero_mod,Nat.zero_div];rfl
  ·rintro i d α hd ⟨bs,o4,o5,o6,mk,rfl⟩;have hi:i<zs.length:=by
    have:=(zP1.mp hd).1;simpa[zi] using this
   obtain rfl:d=.int (i:Int):=by
    rw[zQ2,yy (by simpa using hi)] at hd;simpa using hd.symm
   refine⟨_,rfl,?_⟩;have hmod:=Nat.mod_lt i hp;refine yu 3 rfl (zf 4 rfl ⟨by rw[zO6,zi];omega,?_⟩);have eb:List.map PyData.int (zt ((i / many*many:Nat):Int) (i % many))++[PyData.int (i:Int)]=(zt ((i / many*many:Nat):Int) (i % many+1)).map .int:=by
    have e:=z25 i many;have e4:i / many*many=many*(i / many):=Nat.mul_comm _ _;rw[mz,zT4]
    congr 1
    simp only[zR4,z31]
    congr 2
    omega
   rw[eb];refine xk (jZ 3 rfl (zx8 (uv (by rfl) nb.len (zf 3 rfl ⟨_,rfl,wy (fun _ _=>rfl) (zf 1 rfl (zT ⟨_,_,_,rfl,rfl,at0,_,_,rfl,rfl,?_⟩))⟩))));refine bU (fun hc=>?_) (fun hc=>zy ?_)
   ·have hfull:i % many+1=many:=by
     rw[zO6,zi] at hc;omega
    rw[hfull];have hin:∀n∈zt ((i / many*many:Nat):Int) many,0<=n/\n<zs.length:=fun n hn=>by
     rw[yO] at hn;have e:=z25 i many;have e4:i / many*many=many*(i / many):=Nat.mul_comm _ _;omega
    refine vF (pat:=.many [5,6]) zV3 rfl (wJ (n:=2) (K:=K) rfl rfl (yM (zK (i:=5) km.nd rfl (Or.inl rfl)) (yM (zK (i:=6) km.nd rfl (Or.inl rfl)) (vR))))
     (oi (by rfl) nb.enumerate (EvL.d (jT 3 rfl (wA CC hr (by rfl) (zd (zf 0 rfl (zd (zf 3 rfl (zp ⟨_,zs,rfl,by rw[zi];exact hm64,hin,fun ms sm=>⟨_,rfl,gQ ms,_,rfl,?_⟩⟩)))))))))
    have hml:ms.length=many:=by rw[sm.1.length_eq,zi]
    refine yh (fun r α=>∃(bs':List Bool) (p5 p6:Option A),(bs'.length=bs.length/\(∀q,q<r->bs'.getD (ms.getD q 0).toNat false=decide (q<free))/\∀j,(∀q,q<r->(ms.getD q 0).toNat≠j)->bs'.getD j false=bs.getD j false)/\
     α=[some (.dat (.list (zs.map .int))),some (.dat (.tuple [.int many,.int free])),some (.own (bs'.map .bool)),some (.own ((zt ((i / many*many:Nat):Int) many).map .int)),some (.dat (.int i)),p5,p6]) ?_ ?_ ?_
    ·exact⟨bs,o5,o6,⟨rfl,fun q h=>absurd h (Nat.not_lt_zero _),fun _ _=>rfl⟩,rfl⟩
    ·rintro r d α hd ⟨bs',p5,p6,⟨f0,f1,f2⟩,rfl⟩;obtain⟨e,he,rfl⟩:=wM hd;have hr':r<ms.length:=by
      have:=(zP1.mp he).1;simpa using this
     obtain rfl:e=.int (ms.getD r 0):=by
      rw[zQ2,zO9 hr'] at he;rw[zP0,zO9 hr'];simpa using he.symm
     refine⟨_,rfl,?_⟩;have hmem:=vO sm (q:=r) (by omega);have hub:=hin (ms.getD r 0) (yO.mpr hmem);obtain⟨j,hj⟩:=zX7 hub.1;rw[hj];have jl:j<bs'.length:=by rw[f0,mk.1];omega
     refine zz8 2 rfl (zr9 (zf 5 rfl (wy (fun _ _=>rfl) (zf 1 rfl (zT ⟨_,_,_,rfl,rfl,xA (j:=1) rfl,_,_,rfl,rfl,zf 6 rfl ⟨_,j,rfl,?_,zy ?_⟩⟩)))))
     ·unfold ixN;rw[if_pos (by omega),if_pos (by rw[zO6];omega)];simp
     ·refine⟨bs'.set j (decide (r<free)),some (.dat (.int ((0+r:Nat):Int))),some (.dat (.int (j:Int))),⟨?_,fun q hq=>?_,fun l hl=>?_⟩,?_⟩
      ·rw[zV2,f0]
      ·by_cases hqr:q=r
       ·subst hqr;rw[hj,zU2,zP0,zY0 jl];rfl
       ·have hne:(ms.getD q 0).toNat≠j:=fun z=>by
         have nd:ms.Nodup:=sm.1.nodup_iff.mpr (pe _ _);have a1:=(vO sm (q:=q) (by omega)).1;have z2:ms.getD q 0=ms.getD r 0:=by rw[hj];omega
         rw[zP0,zP0,zO9 (by omega),zO9 hr'] at z2;exact (z23.mp nd q r (by omega) hr' (by omega)) z2
        rw[zP0,zU3 hne.symm,<-zP0,f1 q (by omega)]
      ·have hne:j≠l:=fun z=>hl r (zZ3 _) (by rw[hj];omega);rw[zP0,zU3 hne,<-zP0,f2 l fun q hq=>hl q (by omega)]
      ·have ed:decide (((0+r:Nat):Int)<(free:Int))=decide (r<free):=by rw[decide_eq_decide];omega
       rw[ed,List.map_set];rfl
    ·rintro α ⟨bs',p5,p6,⟨f0,f1,f2⟩,rfl⟩;refine xh 3 km.nd (yD (zp ⟨_,rfl,zQ8 _,zy ?_⟩));rw[wL,zO6,hml] at f1 f2;refine zy ?_;refine⟨bs',some (.dat (.int i)),p5,p6,fN hp hfull mk sm f0 f1 f2,?_⟩;rw[(lI hp hfull).2.1];rfl
   ·have hmore:i % many+1<many:=by
     rw[zO6,zi] at hc;omega
    refine zy ?_;refine⟨bs,some (.dat (.int i)),o5,o6,gq hp hmore mk,?_⟩;rw[(rf hp hmore).1,(rf hp hmore).2];rfl
  ·rintro α ⟨bs,o4,o5,o6,mk,rfl⟩;have el:(List.map PyData.int (zt 0 ((List.map PyData.int zs).length:Int).toNat)).length=zs.length:=by simp[zi]
   rw[el] at mk;exact xB 2 rfl (q bs mk)
end
abbrev sNP :Stmt:=top 18
abbrev sq :Stmt:=top 19
def zp3 :Scope:=match (zA sq).getD 5 (.Pass ⟨0,0,0,0⟩) with
 |.Assign _ (.Call _ [.ListComp _ _ sc _] _ _) _=>sc
 |_=>zc sq
def zL1 (C:Addr)(cs:Cs):List A->(A->Prop)->Prop:=fun as Q=>∃(ds:List PyData) (ns:List Int) (pr:Int->Int),as=[.dat (yW C cs ds),.dat (.list (ns.map .int))]/\Rules ds/\ns.length<=900/\(∀z∈ns,zq ds "price" z=.int (pr z))/\Q (.own ((ns.map pr).map .int))
def aH (C:Addr)(cs:Cs):List A->(A->Prop)->Prop:=fun as Q=>∃(ds:List PyData) (c g fee:Int) (pr:Int->Int),as=[.dat (yW C cs ds),.dat (.tuple [.int c,.int g])]/\Rules ds/\0<=c/\c<g/\g<=c+400/\c<=1000000/\(∀z,c<=z->z<g->zq ds "price" z=.int (pr z)/\0<=pr z/\pr z<=1000000000000)/\
 (zq ds "deal" c=.none\/∃many free:Nat,zq ds "deal" c=.tuple [.int many,.int free]/\0<many/\many<64)/\zq ds "fee" c=.int fee/\
 ∀bs,wF (zq ds "deal" c) ((zt c (g-c).toNat).map pr) bs->Q (.dat (.tuple [.int ((yA ((zt c (g-c).toNat).map pr) bs).sum+fee),.list (wI ((zt c (g-c).toNat).map .int) (((zt c (g-c).toNat).map pr).map .int) (bs.map .bool)),.int fee]))
section
variable {P:Program}{w:World}{K:PySem.W.Frag}{mg:Str->Option Value}{base:Heap}{cs:Cs}
theorem zn3 :zo ["book","nights","prices","night","price"] ["book","nights"] (zc sNP):=.o
theorem zw7 {f C:Addr}{fd:FuncData}(F:Fun K "night_prices" "night_prices" sNP f fd)(hm:mg "night_prices"=some (.ref f))(hb:Binds K fd ["book","nights"] [])(MT:sE P w K mg base C "tells_of" 2 (uZ C cs)):Cal P w K mg base "night_prices" 3 (zL1 C cs):=by
 refine yT F hm hb zn3 (fun as Q h=>?_) (fun cdv A' outer s H E as Q hr h=>?_)
 ·obtain⟨ds,ns,pr,rfl,_⟩:=h;rfl
 ·obtain⟨ds,ns,pr,rfl,rd,hl,hp,q⟩:=h;refine xh 2 zn3.nd (yD (zp ⟨_,rfl,zQ8 _,?_⟩));refine vF (pat:=.one 3) zV3 rfl (zK (i:=3) zn3.nd rfl (Or.inl rfl)) (wQ (zf 1 rfl ⟨_,rfl,?_⟩));refine yh (fun i α=>∃o3 o4:Option A,α=[some (.dat (yW C cs ds)),some (.dat (.list (ns.map .int))),some (.own (((ns.take i).map pr).map .int)),o3,o4]) ⟨none,none,rfl⟩ ?_ ?_
  ·rintro i d α hd ⟨o3,o4,rfl⟩;rw[zQ2,zQ9] at hd;obtain⟨z,hz,rfl⟩:=hd;have hi:i<ns.length:=(zP1.mp hz).1;have e:=hp z (zT2 hz);refine⟨_,rfl,?_⟩;refine zP 4 zn3.nd (xM MT hr (zf 0 rfl ⟨_,rfl,rfl,zd (yc (zd (zf 3 rfl (zp ⟨ds,_,_,rfl,rd,by simp[words],?_⟩))))⟩));show SvS _ (List.set _ _ (some (.dat (zq ds "price" z)))) _ _;rw[e];refine xk (vE (zf 4 rfl ?_));refine zQ (fun h=>by cases h) (fun _=>zy ?_);refine yu 2 rfl (zf 4 rfl ⟨by rw[zO6,zO6,zS0];omega,zy ⟨some (.dat (.int z)),some (.dat (.int (pr z))),?_⟩⟩);rw[zW4,hz,zT4,zT4];rfl
  ·rintro α ⟨o3,o4,rfl⟩;rw[zO6,zW2];exact xB 2 rfl q
theorem kK :zo ["book","stay","nights","prices","marks","fee","rows","paid"] ["book","stay"] (zc sq):=.o
theorem zI4 :zU ["book","stay","nights","prices","marks","fee","rows","paid"] (zc sq) ["row"] [none] zp3:=⟨rfl,by decide +kernel,by decide +kernel,by decide +kernel,by decide +kernel,rfl,by decide +kernel⟩
theorem zf0 {f C:Addr}{fd:FuncData}(F:Fun K "bill" "bill" sq f fd)(hm:mg "bill"=some (.ref f))(hb:Binds K fd ["book","stay"] [])(nb:NbT mg)(MT:sE P w K mg base C "tells_of" 2 (uZ C cs))(CN:Cal P w K mg base "nights_of" 1 rF)(CP:Cal P w K mg base "night_prices" 3 (zL1 C cs))(CM:Cal P w K mg base "marked" 4 rL):
  Cal P w K mg base "bill" 5 (aH C cs):=by
 refine yT F hm hb kK (fun as Q h=>?_) (fun cdv A' outer s H E as Q hr h=>?_)
 ·obtain⟨ds,c,g,fee,pr,rfl,_⟩:=h;rfl
 ·obtain⟨ds,c,g,fee,pr,rfl,rd,c0,cg,gl,c1,hpr,hdeal,hfee,q⟩:=h;generalize hn:(g-c).toNat=n at q;have hn0:0<n:=by omega
  have hn4:n<=400:=by omega
  refine zP 2 kK.nd (EvL.d (wA CN (hr.mono (by decide)) (by rfl) (zd (zf 1 rfl (zp ⟨c,g,rfl,by omega,cg,by omega,by omega,_,rfl,?_⟩)))));rw[hn];refine zP 3 kK.nd (EvL.d (wA CP (hr.mono (by decide)) (by rfl) (zd (zf 0 rfl (zd (zf 2 rfl (zp ⟨ds,zt c n,pr,rfl,rd,by rw[zi];omega,fun z hz=>(hpr z (yO.mp hz).1 (by have:=(yO.mp hz).2;omega)).1,_,rfl,?_⟩)))))));have lz:((zt c n).map pr).length=n:=by rw[zO6,zi]
  refine zP 4 kK.nd (EvL.d (wA CM hr (by rfl) (zd (zf 3 rfl (zd (xM MT (hr.mono (by decide)) (zf 0 rfl ⟨_,rfl,rfl,zd (yc (zd (wy (fun _ _=>rfl) (zf 1 rfl (zT ⟨_,_,_,rfl,rfl,at0,zp ⟨ds,_,_,rfl,rd,by simp[words],zp ⟨_,_,rfl,by omega,?_⟩⟩⟩)))))⟩)))))));have key:∀bs,wF (zq ds "deal" c) ((zt c n).map pr) bs->SvS (ui CX0 P w K mg base ["book","stay","nights","prices","marks","fee","rows","paid"] "bill" (zc sq) f cdv A' outer s H E).nox
    [some (.dat (yW C cs ds)),some (.dat (.tuple [.int c,.int g])),some (.dat (.list ((zt c n).map .int))),some (.dat (.list (((zt c n).map pr).map .int))),some (.dat (.list (bs.map .bool))),none,none,none] ((zA sq).drop 3) {nx:=fun _=>Q (.dat .none),rt:=Q}:=by
   intro bs mk;have lb:=mk.len;refine zP 5 kK.nd (xM MT (hr.mono (by decide)) (zf 0 rfl ⟨_,rfl,rfl,zd (yc (zd (wy (fun _ _=>rfl) (zf 1 rfl (zT ⟨_,_,_,rfl,rfl,at0,zp ⟨ds,_,_,rfl,rd,by simp[words],?_⟩⟩)))))⟩));show SvS _ (List.set _ _ (some (.dat (zq ds "fee" c)))) _ _;rw[hfee];refine zP 6 kK.nd (EvL.d (mv rfl (by rfl) nb.list (by rfl) nb.zip (zd (zf 2 rfl (zd (zf 3 rfl (zd (zf 4 rfl (zp ⟨_,_,_,rfl,?_,?_,?_,?_,?_⟩)))))))))
   ·rw[zO6,zO6,zO6]
   ·rw[zO6,zO6,lb,lz,zi]
   ·rw[zO6,zi];omega
   ·rw[zO6,zi];omega
   have pm:∀z∈yA ((zt c n).map pr) bs,0<=z/\z<=1000000000000:=fun z hz=>by
    obtain⟨y,hy,rfl⟩:=zT0.mp (vU hz);have hy:=yO.mp hy;exact (hpr y hy.1 (by omega)).2
   refine zP 7 kK.nd (zm1 rfl (by rfl) nb.sum (EvL.d (zr6 (pat:=.one 0) rfl zI4 rfl (fun _ _ _ _=>zK (i:=0) zI4.nd rfl (Or.inl rfl)) (wQ (zf 6 rfl ⟨_,rfl,?_,?comp⟩)))))
   ·rw[tN (by rw[zO6,zO6,zO6]) (by rw[zO6,zO6,lb,lz,zi]),zO6,zi];omega
   refine uz (fun d=>!sV d) (zz5 1) (fun d hd=>?_) ?_
   ·obtain⟨j,hj⟩:=List.mem_iff_getElem?.mp hd;obtain⟨x,y,z,e1,e2,e3,rfl⟩:=tR hj;rw[zQ2,zQ9] at e3;obtain⟨b,_,rfl⟩:=e3;exact⟨_,rfl,fun _ _ _ _ _ k=>lP (wx (oS (wy (fun _ _=>rfl) (zf 0 rfl (zT ⟨_,_,_,rfl,rfl,xA (j:=2) rfl,⟨_,rfl,k⟩⟩))))),fun _ _ _ _ _ _ k=>wy (fun _ _=>rfl) (zf 0 rfl (zT ⟨_,_,_,rfl,rfl,xA (j:=1) rfl,k⟩))⟩
   ·rw[zW5,qB (by rw[lz,zO6,zi]) (by rw[lb,lz,zO6,zi])];refine⟨_,rfl,fun z hz=>by have:=pm z hz;omega,jf pm (zT3 (tj _ _) (by omega)),?_⟩;exact xU (yQ (zd (xx (zf 7 rfl (zf 5 rfl ⟨_,_,rfl,rfl,zd (zf 6 rfl (zd (zf 5 rfl (zp ⟨_,rfl,zP4 rfl,q bs mk⟩))))⟩)))))
  rcases hdeal with hd|⟨many,free,hd,m0,m64⟩
  ·exact .inl ⟨hd,⟨_,rfl,key _ (.inl ⟨hd,rfl⟩)⟩⟩
  ·exact .inr ⟨many,free,hd,m0,m64,fun bs mk=>⟨_,rfl,key bs (.inr ⟨many,free,hd,mk⟩)⟩⟩
end
abbrev pN :Stmt:=top 21
abbrev zv2 :Stmt:=top 22
abbrev zA4 :Stmt:=top 23
theorem gr {x:Str}(h:x∈words):zD (.str x) (ze3 x)=true:=by
 simp only[words,zP2,zQ3,zS4] at h;rcases h with rfl|rfl|rfl|rfl|rfl|rfl|rfl<;>decide +kernel
theorem yJ {ds:List PyData}(h:∀d∈ds,xi d=true){x:Str}(hx:x∈words)(day:Int):zD (.str x) (zq ds x day)=true:=by
 unfold zq;split
 ·rename_i d e;obtain⟨u,i,j,v,hu,rfl,_,_,_,hw⟩:=qA (h d (List.mem_reverse.mp (List.mem_of_find?_eq_some e)));have:=List.find?_some e;have h2:(decide (u=x)&&(decide (i<=day)&&decide (day<=j)))=true:=this;rw[zR3,zS1] at h2;rw[<-h2.1];exact hw
 ·exact gr hx
def isF :PyData->Bool
 |.bool b=>!b
 |_=>false
def intOf :PyData->Int
 |.int i=>i
 |_=>0
theorem xp {lo hi:Int}{d:PyData}(h:yo lo hi d=true):∃i,d=.int i/\lo<=i/\i<=hi:=by
 cases d with
 |int i=>
  have h':(decide (lo<=i)&&decide (i<=hi))=true:=h;rw[zR3,zS1,zS1] at h';exact⟨i,rfl,h'⟩
 |_=>cases h
theorem bool_inv {d:PyData}(h:isBool d=true):∃b,d=.bool b:=by
 cases d with
 |bool b=>exact⟨b,rfl⟩
 |_=>cases h
section
variable {ds:List PyData}(h:∀d∈ds,xi d=true)(day:Int)
include h
theorem zw6 :∃b,zq ds "come" day=.bool b:=bool_inv (by rw[<-rQ];exact yJ h (by simp[words]) day)
theorem zN1 :∃b,zq ds "go" day=.bool b:=bool_inv (by rw[<-mO];exact yJ h (by simp[words]) day)
theorem zk7 :∃i,zq ds "least" day=.int i/\1<=i/\i<=14:=xp (by rw[<-tX];exact yJ h (by simp[words]) day)
theorem zz0 :∃i,zq ds "most" day=.int i/\1<=i/\i<=14:=xp (by rw[<-rZ];exact yJ h (by simp[words]) day)
theorem zJ4 :∃i,zq ds "fee" day=.int i/\0<=i/\i<=1000000000000:=xp (by
 have:=yJ h (x:="fee") (by simp[words]) day;rw[pI] at this;exact this)
theorem zj6 :zq ds "price" day=.none\/∃i,zq ds "price" day=.int i/\0<=i/\i<=1000000000000:=by
 have:=yJ h (x:="price") (by simp[words]) day;rw[xE,zX0] at this;rcases this with z|z
 ·left;cases e:zq ds "price" day with
  |none=>rfl
  |_=>rw[e] at z;cases z
 ·exact .inr (xp z)
end
def pB (x:Str)(d:Int):PyData:=.tuple [.str x,.int d]
def xO (ds:List PyData)(c:Int)(n:Nat):List PyData:=((zt c n).filter fun z=>vL (zq ds "price" z)).map (pB "price")
def opt (b:Bool)(d:PyData):List PyData:=if b=true then [d] else []
def vn (ds:List PyData)(c g:Int):List PyData:=xO ds c (g-c).toNat++opt (isF (zq ds "come" c)) (pB "come" c)++opt (isF (zq ds "go" g)) (pB "go" g)++opt (decide (g-c<intOf (zq ds "least" c))) (pB "least" c)++opt (decide (intOf (zq ds "most" c)<g-c)) (pB "most" c)
theorem wj (b:Bool)(d:PyData):(opt b d).length<=1:=by unfold opt;split<;>simp
theorem sy (ds:List PyData)(c:Int)(n:Nat):(xO ds c n).length<=n:=by
 unfold xO;rw[zO6];have:=List.length_filter_le (fun z=>vL (zq ds "price" z)) (zt c n);rw[zi] at this;exact this
def dz (C:Addr)(cs:Cs):List A->(A->Prop)->Prop:=fun as Q=>∃ds c g,as=[.dat (yW C cs ds),.dat (.tuple [.int c,.int g])]/\Rules ds/\-100<=c/\c<g/\g<=c+100/\c<=1000100/\Q (.own (vn ds c g))
def zq1 :Scope:=match zA pN with
 |[_,_,.Assign _ (.ListComp _ _ sc _) _,_,_,_,_,_]=>sc
 |_=>zc pN
section
variable {P:Program}{w:World}{K:PySem.W.Frag}{mg:Str->Option Value}{base:Heap}{cs:Cs}
theorem zh1 :zo ["book","stay","come","go","told"] ["book","stay"] (zc pN):=.o
theorem zE7 :zU ["book","stay","come","go","told"] (zc pN) ["night","book"] [none,some 0] zq1:=⟨rfl,by decide +kernel,by decide +kernel,by decide +kernel,by decide +kernel,rfl,by decide +kernel⟩
theorem mE (ds:List PyData)(ns:List Int)(f:PyData->Bool)(hf:∀z,f (.int z)=vL (zq ds "price" z))(g:PyData->PyData)(hg:∀z,g (.int z)=pB "price" z):((ns.map PyData.int).filter f).map g=(ns.filter fun z=>vL (zq ds "price" z)).map (pB "price"):=by
 rw[List.filter_map,zU8];have e1:(f∘PyData.int)=fun z=>vL (zq ds "price" z):=funext hf;have e2:(g∘PyData.int)=pB "price":=funext hg;rw[e1,e2]
def zH5 :PyData->Int
 |.int z=>z
 |_=>0
theorem aB {f C:Addr}{fd:FuncData}(F:Fun K "bars" "bars" pN f fd)(hm:mg "bars"=some (.ref f))(hb:Binds K fd ["book","stay"] [])(CN:Cal P w K mg base "nights_of" 1 rF)(MT:sE P w K mg base C "tells_of" 2 (uZ C cs)):Cal P w K mg base "bars" 3 (dz C cs):=by
 refine yT F hm hb zh1 (fun as Q h=>?_) (fun cdv A' outer s H E as Q hr h=>?_)
 ·obtain⟨ds,c,g,rfl,_⟩:=h;rfl
 ·obtain⟨ds,c,g,rfl,rd,c0,cg,g1,c1,q⟩:=h;have rr:∀d∈ds,xi d=true:=fun d hd=>(rd d hd).1;refine zP 2 zh1.nd (wy (fun _ _=>rfl) (zf 1 rfl (zT (⟨_,_,_,rfl,rfl,rfl,?_⟩))));refine zP 3 zh1.nd (wy (fun _ _=>rfl) (zf 1 rfl (zT (⟨_,_,_,rfl,rfl,rfl,?_⟩))));refine xY (fun α=>α=[some (.dat (yW C cs ds)),some (.dat (.tuple [.int c,.int g])),some (.dat (.int c)),some (.dat (.int g)),some (.own (xO ds c (g-c).toNat))]) ?_ ?_
  ·refine zc2 4 (pat:=.one 0) zh1.nd rfl zE7 rfl (fun _ _ _ _=>zK (i:=0) zE7.nd rfl (by first|exact Or.inl rfl|exact Or.inr rfl)) (wQ (EvL.d (wA CN (hr.mono (by decide)) (by rfl) (zd (zf 1 rfl (zp (⟨c,g,rfl,by omega,by omega,by omega,by omega,⟨_,rfl,⟨_,rfl,⟨by rw[zO6,zi];omega,?comp⟩⟩⟩⟩)))))))
   case comp=>
    refine uz (fun d=>vL (zq ds "price" (zH5 d))) (fun d=>pB "price" (zH5 d)) (fun d hd=>?_) ?_
    ·obtain⟨z,_,rfl⟩:=zT0.mp hd;refine⟨_,rfl,fun C s2 H2 fp Q k=>lP (vE (xM MT hr (zf 1 rfl ⟨_,rfl,rfl,zd (yc (zd (zf 0 rfl (zp ⟨ds,_,_,rfl,rd,by simp[words],k⟩))))⟩))),fun _ C s2 H2 fp Q k=>yQ (zd (yc (zd (zf 0 rfl (zp (⟨_,rfl,zP4 rfl,k⟩))))))⟩
    ·refine zy ?_;rw[zW5,mE ds _ _ (fun _=>rfl) _ (fun _=>rfl)];rfl
  rintro α rfl;have n0:=sy ds c (g-c).toNat;obtain⟨bc,ec⟩:=zw6 rr c;obtain⟨bg,eg⟩:=zN1 rr g;obtain⟨il,el,_,_⟩:=zk7 rr c;obtain⟨im,em,_,_⟩:=zz0 rr c;refine xY (fun α=>α=[some (.dat (yW C cs ds)),some (.dat (.tuple [.int c,.int g])),some (.dat (.int c)),some (.dat (.int g)),some (.own (xO ds c (g-c).toNat++opt (isF (zq ds "come" c)) (pB "come" c)))]) ?_ ?_
  ·refine xk (wx (oS (xM MT hr (zf 0 rfl ⟨_,rfl,rfl,zd (yc (zd (zf 2 rfl (zp ⟨ds,_,_,rfl,rd,by simp[words],⟨bc,ec,?_⟩⟩))))⟩))));rw[ec];refine zQ (fun hc=>?_) (fun hc=>?_)
   ·refine yu 4 rfl (yQ (zd (yc (zd (zf 2 rfl (zp (⟨_,rfl,zP4 rfl,⟨by omega,zy (zy ?_)⟩⟩)))))));have hb:isF (PyData.bool bc)=true:=hc;rw[hb]<;>rfl
   ·refine zy (zy ?_);have hb:isF (PyData.bool bc)=false:=hc;rw[hb,show opt false (pB "come" c)=[] from rfl,zV1]
  rintro α rfl;have l1:(xO ds c (g-c).toNat++opt (isF (zq ds "come" c)) (pB "come" c)).length<=101:=by
   have:=wj (isF (zq ds "come" c)) (pB "come" c);rw[zQ6];omega
  generalize eacc1:xO ds c (g-c).toNat++opt (isF (zq ds "come" c)) (pB "come" c)=acc1 at l1;refine xY (fun α=>α=[some (.dat (yW C cs ds)),some (.dat (.tuple [.int c,.int g])),some (.dat (.int c)),some (.dat (.int g)),some (.own (acc1++opt (isF (zq ds "go" g)) (pB "go" g)))]) ?_ ?_
  ·refine xk (wx (oS (xM MT hr (zf 0 rfl ⟨_,rfl,rfl,zd (yc (zd (zf 3 rfl (zp ⟨ds,_,_,rfl,rd,by simp[words],⟨bg,eg,?_⟩⟩))))⟩))));rw[eg];refine zQ (fun hc=>?_) (fun hc=>?_)
   ·refine yu 4 rfl (yQ (zd (yc (zd (zf 3 rfl (zp (⟨_,rfl,zP4 rfl,⟨by omega,zy (zy ?_)⟩⟩)))))));have hb:isF (PyData.bool bg)=true:=hc;rw[hb]<;>rfl
   ·refine zy (zy ?_);have hb:isF (PyData.bool bg)=false:=hc;rw[hb,show opt false (pB "go" g)=[] from rfl,zV1]
  rintro α rfl;have l2:(acc1++opt (isF (zq ds "go" g)) (pB "go" g)).length<=102:=by
   have:=wj (isF (zq ds "go" g)) (pB "go" g);rw[zQ6];omega
  generalize eacc2:acc1++opt (isF (zq ds "go" g)) (pB "go" g)=acc2 at l2;refine xY (fun α=>α=[some (.dat (yW C cs ds)),some (.dat (.tuple [.int c,.int g])),some (.dat (.int c)),some (.dat (.int g)),some (.own (acc2++opt (decide (g-c<intOf (zq ds "least" c))) (pB "least" c)))]) ?_ ?_
  ·refine xk (ba (oQ (zf 3 rfl (zf 2 rfl (⟨_,_,rfl,rfl,xM MT hr (zf 0 rfl ⟨_,rfl,rfl,zd (yc (zd (zf 2 rfl (zp ⟨ds,_,_,rfl,rd,by simp[words],⟨_,il,rfl,el,?_⟩⟩))))⟩)⟩)))));rw[el];refine zQ (fun hc=>?_) (fun hc=>?_)
   ·refine yu 4 rfl (yQ (zd (yc (zd (zf 2 rfl (zp (⟨_,rfl,zP4 rfl,⟨by omega,zy (zy ?_)⟩⟩)))))));have hb:decide (g-c<intOf (PyData.int il))=true:=hc;rw[hb]<;>rfl
   ·refine zy (zy ?_);have hb:decide (g-c<intOf (PyData.int il))=false:=hc;rw[hb,show opt false (pB "least" c)=[] from rfl,zV1]
  rintro α rfl;have l3:(acc2++opt (decide (g-c<intOf (zq ds "least" c))) (pB "least" c)).length<=103:=by
   have:=wj (decide (g-c<intOf (zq ds "least" c))) (pB "least" c);rw[zQ6];omega
  generalize eacc3:acc2++opt (decide (g-c<intOf (zq ds "least" c))) (pB "least" c)=acc3 at l3;refine xY (fun α=>α=[some (.dat (yW C cs ds)),some (.dat (.tuple [.int c,.int g])),some (.dat (.int c)),some (.dat (.int g)),some (.own (acc3++opt (decide (intOf (zq ds "most" c)<g-c)) (pB "most" c)))]) ?_ ?_
  ·refine xk (dN (oQ (zf 3 rfl (zf 2 rfl (⟨_,_,rfl,rfl,xM MT hr (zf 0 rfl ⟨_,rfl,rfl,zd (yc (zd (zf 2 rfl (zp ⟨ds,_,_,rfl,rd,by simp[words],⟨_,im,rfl,em,?_⟩⟩))))⟩)⟩)))));rw[em];refine zQ (fun hc=>?_) (fun hc=>?_)
   ·refine yu 4 rfl (yQ (zd (yc (zd (zf 2 rfl (zp (⟨_,rfl,zP4 rfl,⟨by omega,zy (zy ?_)⟩⟩)))))));have hb:decide (intOf (PyData.int im)<g-c)=true:=hc;rw[hb]<;>rfl
   ·refine zy (zy ?_);have hb:decide (intOf (PyData.int im)<g-c)=false:=hc;rw[hb,show opt false (pB "most" c)=[] from rfl,zV1]
  rintro α rfl;have l4:(acc3++opt (decide (intOf (zq ds "most" c)<g-c)) (pB "most" c)).length<=104:=by
   have:=wj (decide (intOf (zq ds "most" c)<g-c)) (pB "most" c);rw[zQ6];omega
  generalize eacc4:acc3++opt (decide (intOf (zq ds "most" c)<g-c)) (pB "most" c)=acc4 at l4;have eb:vn ds c g=acc4:=by
   unfold vn;rw[eacc1,eacc2,eacc3,eacc4]
  rw[eb] at q;exact xB 4 rfl q
end
theorem ai {d:PyData}(h:uG d=true):∃many free:Nat,d=.tuple [.int many,.int free]/\0<free/\free<many/\many<64:=by
 unfold uG at h;split at h
 ·rename_i m r;rw[zR3] at h;obtain⟨i,e,i0,i1⟩:=xp h.1;obtain⟨j,e2,j0,j1⟩:=xp h.2;subst e2;injection e with e;subst e;refine⟨m.toNat,j.toNat,?_,by omega,by omega,by omega⟩;rw[show ((m.toNat:Nat):Int)=m by omega,show ((j.toNat:Nat):Int)=j by omega]
 ·cases h
theorem ze7 {ds:List PyData}(h:∀d∈ds,xi d=true)(day:Int):dB (zq ds "deal" day):=by
 have:=yJ h (x:="deal") (by simp[words]) day;rw[uu,zX0] at this;rcases this with z|z
 ·left;cases e:zq ds "deal" day with
  |none=>rfl
  |_=>rw[e] at z;cases z
 ·exact .inr (ai z)
theorem yt.all {ds:List PyData}(h:yt ds):∀d∈ds,xi d=true:=fun d hd=>(h d hd).rule
def nZ (ds:List PyData)(c g:Int):Prop:=∀z,c<=z->z<g->vL (zq ds "price" z)=false
def prs (ds:List PyData)(c g:Int):List Int:=(zt c (g-c).toNat).map fun z=>intOf (zq ds "price" z)
def uI (ds:List PyData)(c:Int):Int:=intOf (zq ds "fee" c)
theorem rV {ds:List PyData}{c g z:Int}(h:yt ds)(s:nZ ds c g)(h0:c<=z)(h1:z<g):zq ds "price" z=.int (intOf (zq ds "price" z))/\0<=intOf (zq ds "price" z)/\intOf (zq ds "price" z)<=1000000000000:=by
 rcases zj6 h.all z with e|⟨i,e,i0,i1⟩
 ·have:=s z h0 h1;rw[e] at this;cases this
 ·rw[e];exact⟨rfl,i0,i1⟩
theorem iw {ds:List PyData}(h:yt ds)(c:Int):zq ds "fee" c=.int (uI ds c)/\0<=uI ds c/\uI ds c<=1000000000000:=by
 obtain⟨i,e,i0,i1⟩:=zJ4 h.all c;unfold uI;rw[e];exact⟨rfl,i0,i1⟩
def yB (c g:Int):Prop:=0<=c/\c<g/\g<=c+14/\g<=1000000
def iX (C:Addr)(cs:Cs):List A->(A->Prop)->Prop:=fun as Q=>∃(ds:List PyData) (c g:Int),as=[.dat (yW C cs ds),.dat (.tuple [.int c,.int g])]/\yt ds/\yB c g/\nZ ds c g/\
 ∀bs rows,wF (zq ds "deal" c) (prs ds c g) bs->Q (.dat (.tuple [.int ((yA (prs ds c g) bs).sum+uI ds c),rows,.int (uI ds c)]))
def vX (ds:List PyData)(c g:Int):Bool:=(vn ds c g).isEmpty
noncomputable def zg5 (ds:List PyData)(c g:Int):List Bool:=Classical.epsilon fun bs=>wF (zq ds "deal" c) (prs ds c g) bs
noncomputable def coD (ds:List PyData)(c g:Int):Int:=(yA (prs ds c g) (zg5 ds c g)).sum+uI ds c
noncomputable def coO (ds:List PyData)(c g:Int):Option Int:=if vX ds c g=true then some (coD ds c g) else none
def oD :Option Int->PyData
 |some z=>.int z
 |none=>.none
theorem nA {ds:List PyData}{c g y:Int}(ro:yt ds)(so:nZ ds c g)(h:y∈prs ds c g):0<=y/\y<=1000000000000:=by
 obtain⟨z,hz,rfl⟩:=zT0.mp h;have hz:=yO.mp hz;exact (rV ro so hz.1 (by omega)).2
theorem cV {b:Int}:∀{ns:List Int},(∀n∈ns,0<=n/\n<=b)->0<=ns.sum/\ns.sum<=b*ns.length
 |[],_=>by simp
 |n::ns,h=>by
  have h1:=h n zQ1;have h2:=cV fun m hm=>h m (zP5 _ hm);rw[zX5,zQ4];have:b*((ns.length+1:Nat):Int)=b*ns.length+b:=by rw[z58,Int.mul_add];simp
  omega
theorem zH1 {ds:List PyData}{c g:Int}{bs:List Bool}(ro:yt ds)(so:nZ ds c g)(mk:wF (zq ds "deal" c) (prs ds c g) bs):(yA (prs ds c g) bs).sum+uI ds c=coD ds c g:=by
 have h2:wF (zq ds "deal" c) (prs ds c g) (zg5 ds c g):=Classical.epsilon_spec (p:=fun bs=>wF (zq ds "deal" c) (prs ds c g) bs) ⟨bs,mk⟩;have:=kj (e:=0) mk h2 (ze7 ro.all c) rfl (by simp) (fun i hi=>zV4 _) (fun z hz=>(nA ro so hz).1) fun z hz=>(nA ro so hz).1;unfold coD;omega
theorem wo {α:Type}{a b:List α}:(a++b).isEmpty=(a.isEmpty&&b.isEmpty):=by cases a<;>rfl
theorem sH {b:Bool}{d:PyData}:(opt b d).isEmpty=!b:=by cases b<;>rfl
theorem zr4 {ds:List PyData}{c g:Int}:vX ds c g=true↔nZ ds c g/\isF (zq ds "come" c)=false/\isF (zq ds "go" g)=false/\¬g-c<intOf (zq ds "least" c)/\¬intOf (zq ds "most" c)<g-c:=by
 unfold vX vn;rw[wo,wo,wo,wo,sH,sH,sH,sH];have:(xO ds c (g-c).toNat).isEmpty=true↔nZ ds c g:=by
  unfold xO nZ;rw[List.isEmpty_iff,z63,List.filter_eq_nil_iff];refine⟨fun h z z0 z1=>?_,fun h z hz=>?_⟩
  ·have:=h z (yO.mpr ⟨z0,by omega⟩);simpa using this
  ·have hz:=yO.mp hz;rw[h z hz.1 (by omega)];decide
 simp only[zR3,this,Bool.not_eq_true',z36,and_assoc]
theorem qt {ds:List PyData}{c g:Int}(h:vX ds c g=true):nZ ds c g:=(zr4.mp h).1
theorem mJ {ds:List PyData}{c g:Int}(cg:c<=g){d:PyData}(h:d∈vn ds c g):∃(x:Str) (z:Int),d=pB x z/\x∈words/\c<=z/\z<=g:=by
 unfold vn at h;simp only[zT1] at h;have ho:∀{b:Bool} {x:Str} {z:Int},d∈opt b (pB x z)->d=pB x z:=fun {b x z} h=>by
  cases b
  ·simp[opt] at h
  ·simpa[opt] using h
 rcases h with (((h|h)|h)|h)|h
 ·obtain⟨z,hz,rfl⟩:=zT0.mp h;have hz:=yO.mp (z47.mp hz).1;exact⟨_,z,rfl,by simp[words],hz.1,by omega⟩
 ·exact⟨_,c,ho h,by simp[words],by omega,by omega⟩
 ·exact⟨_,g,ho h,by simp[words],by omega,by omega⟩
 ·exact⟨_,c,ho h,by simp[words],by omega,by omega⟩
 ·exact⟨_,c,ho h,by simp[words],by omega,by omega⟩
theorem ia {x:Str}{z:Int}(hx:x∈words)(h0:-100<=z)(h1:z<=2000000):zH 5000 (pB x z)/\(pB x z).depth<=1:=by
 have hbig:(2000001:Int)<big:=by decide
 have hneg:-big<(-100:Int):=by decide
 exact⟨zH.tuple (n:=2000) (ye.two (pP hx) (zH.int (by omega) (by omega)) (zQ8 _) (zQ8 _)) (by show 2*(2000+2)+3<=5000;decide),by simp[pB,PyData.depth,PyData.depthAll]⟩
theorem af {ds:List PyData}{c g:Int}:(vn ds c g).length<=(g-c).toNat+4:=by
 unfold vn;simp only[zQ6];have h0:=sy ds c (g-c).toNat;have h1:=wj (isF (zq ds "come" c)) (pB "come" c);have h2:=wj (isF (zq ds "go" g)) (pB "go" g);have h3:=wj (decide (g-c<intOf (zq ds "least" c))) (pB "least" c);have h4:=wj (decide (intOf (zq ds "most" c)<g-c)) (pB "most" c);omega
theorem qX {ds:List PyData}{c g:Int}(sb:yB c g):zH sizeLine (.list (vn ds c g)):=by
 obtain⟨c0,cg,g1,g2⟩:=sb;refine zH.list (n:=5000) ⟨fun d hd=>?_,fun d hd=>?_⟩ ?_
 ·obtain⟨x,z,rfl,hx,a,b⟩:=mJ (by omega) hd;exact (ia hx (by omega) (by omega)).1
 ·obtain⟨x,z,rfl,hx,a,b⟩:=mJ (by omega) hd;have:=(ia hx (z:=z) (by omega) (by omega)).2;omega
 ·have h2:(vn ds c g).length*(5000+2)<=18*(5000+2):=zX2 _ (by have:=af (ds:=ds) (c:=c) (g:=g);omega);have h3:18*(5000+2)+2<=sizeLine:=by decide
  omega
theorem zD4 {ds:List PyData}{c g:Int}(ro:yt ds)(sb:yB c g)(h:vX ds c g=true):0<=coD ds c g/\coD ds c g<=15000000000000:=by
 obtain⟨c0,cg,g1,g2⟩:=sb;have so:=qt h;have f:=(iw ro c).2;have s:=cV (b:=1000000000000) (ns:=yA (prs ds c g) (zg5 ds c g)) fun n hn=>nA ro so (vU hn);have l:=tj (prs ds c g) (zg5 ds c g);have l2:(prs ds c g).length<=14:=by unfold prs;rw[zO6,zi];omega
 unfold coD;omega
theorem pX {ds:List PyData}:PyData.eqv (.list ds) (.list [])=ds.isEmpty:=by
 cases ds<;>rfl
def lA (C:Addr)(cs:Cs):List A->(A->Prop)->Prop:=fun as Q=>∃(ds:List PyData) (c g:Int),as=[.dat (yW C cs ds),.dat (.tuple [.int c,.int g])]/\yt ds/\yB c g/\Q (.dat (.bool (vX ds c g)))
def zs2 (C:Addr)(cs:Cs):List A->(A->Prop)->Prop:=fun as Q=>∃(ds:List PyData) (c g:Int),as=[.dat (yW C cs ds),.dat (.tuple [.int c,.int g])]/\yt ds/\yB c g/\Q (.dat (oD (coO ds c g)))
section
variable {P:Program}{w:World}{K:PySem.W.Frag}{mg:Str->Option Value}{base:Heap}{cs:Cs}
theorem gC {C:Addr}(CB:Cal P w K mg base "bill" 5 (aH C cs)):Cal P w K mg base "bill" 5 (iX C cs):=by
 refine CB.imp fun as Q h=>?_;obtain⟨ds,c,g,rfl,ro,⟨c0,cg,g1,g2⟩,so,q⟩:=h;refine⟨ds,c,g,uI ds c,fun z=>intOf (zq ds "price" z),rfl,ro.rules,c0,cg,by omega,by omega,fun z z0 z1=>rV ro so z0 z1,?_,(iw ro c).1,fun bs mk=>q bs _ mk⟩;rcases ze7 ro.all c with e|⟨m,f,e,f0,fm,m6⟩
 ·exact .inl e
 ·exact .inr ⟨m,f,e,by omega,m6⟩
theorem zK7 :zo ["book","stay"] ["book","stay"] (zc zv2):=.o
theorem zp7 {f C:Addr}{fd:FuncData}(F:Fun K "can_be_had" "can_be_had" zv2 f fd)(hm:mg "can_be_had"=some (.ref f))(hb:Binds K fd ["book","stay"] [])(CB:Cal P w K mg base "bars" 3 (dz C cs)):Cal P w K mg base "can_be_had" 4 (lA C cs):=by
 refine yT F hm hb zK7 (fun as Q h=>?_) (fun cdv A' outer s H E as Q hr h=>?_)
 ·obtain⟨ds,c,g,rfl,_⟩:=h;rfl
 ·obtain⟨ds,c,g,rfl,ro,sb,q⟩:=h;obtain⟨c0,cg,g1,g2⟩:=id sb;have nd:=zK7.nd;and_intros;refine⟨ds,c,g,rfl,ro.rules,by omega,by omega,by omega,by omega,?_⟩;and_intros;exact eqk (qX sb).shaped rfl (qX sb).nod rfl (by rw[show PyData.eqv (A.own (vn ds c g)).d (.list [])=vX ds c g from pX];exact q)
theorem zG8 :zo ["book","stay"] ["book","stay"] (zc zA4):=.o
theorem zl7 {f C:Addr}{fd:FuncData}(F:Fun K "cost_or_none" "cost_or_none" zA4 f fd)(hm:mg "cost_or_none"=some (.ref f))(hb:Binds K fd ["book","stay"] [])(CH:Cal P w K mg base "can_be_had" 4 (lA C cs))(CL:Cal P w K mg base "bill" 5 (iX C cs)):Cal P w K mg base "cost_or_none" 6 (zs2 C cs):=by
 refine yT F hm hb zG8 (fun as Q h=>?_) (fun cdv A' outer s H E as Q hr h=>?_)
 ·obtain⟨ds,c,g,rfl,_⟩:=h;rfl
 ·obtain⟨ds,c,g,rfl,ro,sb,q⟩:=h;have nd:=zG8.nd;and_intros;refine⟨ds,c,g,rfl,ro,sb,?_⟩;and_intros;refine vk (fun e=>?_) (fun e=>?_)
  ·and_intros;refine⟨ds,c,g,rfl,ro,sb,qt e,fun bs rows mk=>?_⟩;and_intros;show Q _;rw[zH1 ro (qt e) mk];unfold coO at q;rw[if_pos e] at q;exact q
  ·and_intros;unfold coO at q;rw[if_neg (by rw[e];decide)] at q;exact q
end
abbrev zA6 :Stmt:=top 50
abbrev sLW :Stmt:=top 51
abbrev kO :Stmt:=top 52
abbrev kh :Stmt:=top 53
abbrev zd2 :Stmt:=top 54
instance (c g:Int):Decidable (yB c g):=by unfold yB;infer_instance
noncomputable def coB (Bs:List (List PyData)):Co:=fun n b e=>if yB b e then coO (Bs.getD n []) b e else none
def yP (Bs:List (List PyData)):Prop:=∀ds∈Bs,yt ds
def yd (C:Addr)(cs:Cs)(Bs:List (List PyData)):PyData:=.list (Bs.map (yW C cs))
theorem zr2 {Bs:List (List PyData)}{n:Nat}{ds:List PyData}{b e:Int}(h:Bs[n]?=some ds)(sb:yB b e):coB Bs n b e=coO ds b e:=by
 unfold coB;rw[if_pos sb,zP0,h];rfl
theorem nN {Bs:List (List PyData)}{n:Nat}{b e x:Int}(bo:yP Bs)(hn:n<Bs.length)(h:coB Bs n b e=some x):yB b e/\vX (Bs.getD n []) b e=true/\x=coD (Bs.getD n []) b e/\0<=x/\x<=15000000000000:=by
 unfold coB at h;split at h
 ·rename_i sb;unfold coO at h;split at h
  ·rename_i hh;cases h;have:=zD4 (bo _ (by rw[zP0,zO9 hn];exact zT9 hn)) sb hh;exact⟨sb,hh,rfl,this.1,this.2⟩
  ·cases h
 ·cases h
noncomputable abbrev arrOf (Bs:List (List PyData))(W:List Way)(day:Int):List (Int×Part):=tH (coB Bs) Bs.length W day
noncomputable abbrev jO (Bs:List (List PyData))(c g:Int):List Way:=yn (coB Bs) Bs.length c (g-c).toNat
noncomputable abbrev bestOf (Bs:List (List PyData))(c g:Int):PyData:=nW (coB Bs) Bs.length c g
def zt4 (C:Addr)(cs:Cs):List A->(A->Prop)->Prop:=fun as Q=>∃(Bs:List (List PyData)) (W:List Way) (day:Int),as=[.dat (yd C cs Bs),.dat (xm (W.map sD)),.dat (.int day)]/\yP Bs/\Bs.length<=8/\W.length<=20/\(∀w∈W,yB w.1 day/\yq W w.1=some w.2)/\Q (.own ((arrOf Bs W day).map wX))
def zH2 (C:Addr)(cs:Cs):List A->(A->Prop)->Prop:=fun as Q=>∃(Bs:List (List PyData)) (c g:Int),as=[.dat (yd C cs Bs),.dat (.tuple [.int c,.int g])]/\yP Bs/\Bs.length<=8/\yB c g/\Q (.dat (xm ((jO Bs c g).map sD)))
def cn (W:List Way)(c g:Int):Prop:=W.length<=20/\∃(co:Co) (N:Nat),wZ co N c (g-c).toNat W
def iZ :List A->(A->Prop)->Prop:=fun as Q=>∃(W:List Way) (c g:Int),as=[.dat (xm (W.map sD)),.dat (.tuple [.int c,.int g])]/\cn W c g/\yB c g/\(∃p,yq W g=some p)/\Q (.own ((vm W c (g-c).toNat g).reverse.map xI))
def iY :List A->(A->Prop)->Prop:=fun as Q=>∃(W:List Way) (c g:Int),as=[.dat (xm (W.map sD)),.dat (.tuple [.int c,.int g])]/\cn W c g/\yB c g/\Q (.own ((wB W c (g-c).toNat).map .int))
def bH (C:Addr)(cs:Cs):List A->(A->Prop)->Prop:=fun as Q=>∃(Bs:List (List PyData)) (c g:Int),as=[.dat (yd C cs Bs),.dat (.tuple [.int c,.int g])]/\yP Bs/\Bs.length<=8/\yB c g/\∀S,Q (.deep (bestOf Bs c g) S)
theorem qG {co:Co}{N:Nat}{c:Int}:∀k,(yn co N c k).length<=k+1
 |0=>zP3 _
 |k+1=>by
  have:=qG (co:=co) (N:=N) (c:=c) k;unfold yn ma;split
  ·omega
  ·rw[zQ6,zR9];omega
theorem wD {α:Type}{f:α->PyData}(h:∀x,noL (f x)=true):∀l:List α,vW (l.map f)=true
 |[]=>rfl
 |x::l=>by rw[zR4,vW,h x,wD h l]<;>rfl
theorem xX {α:Type}{f:α->PyData}(h:∀x,(f x).hasDict=false):∀l:List α,PyData.hasDictAll (l.map f)=false
 |[]=>rfl
 |x::l=>by rw[zR4,PyData.hasDictAll,h x,xX h l]<;>rfl
theorem isEmpty_map {α β:Type}{f:α->β}{l:List α}:(l.map f).isEmpty=l.isEmpty:=by cases l<;>rfl
section
variable {P:Program}{w:World}{K:PySem.W.Frag}{mg:Str->Option Value}{base:Heap}{cs:Cs}
theorem iD {co:Co}{N:Nat}{day:Int}:∀W:List Way,(tH co N W day).length<=W.length*N
 |[]=>by simp[tH]
 |w::W=>by
  have ih:=iD (co:=co) (N:=N) (day:=day) W;unfold tH at ih ⊢;rw[List.flatMap_cons,zQ6,zQ4,Nat.add_mul];have:(dP co N day w).length<=N:=by
   unfold dP;exact zT3 (List.length_filterMap_le _ _) (by simp)
  omega
def tP (co:Co)(j:Nat)(day:Int)(w:Way):List (Int×Part):=(List.range j).filterMap fun n=>(co n w.1 day).map fun x=>(w.2.1+x,(w.1,day,n))
theorem za9 {co:Co}{j:Nat}{day:Int}{w:Way}:(tP co j day w).length<=j:=by
 unfold tP;exact zT3 (List.length_filterMap_le _ _) (by simp)
theorem zH6 :zo ["books","ways","day","found","begin","number","book","coins"] ["books","ways","day"] (zc zA6):=.o
theorem zg1 {f C:Addr}{fd:FuncData}(F:Fun K "arrivals" "arrivals" zA6 f fd)(hm:mg "arrivals"=some (.ref f))(hb:Binds K fd ["books","ways","day"] [])(nb:NbT mg)(CN:Cal P w K mg base "cost_or_none" 6 (zs2 C cs)):Cal P w K mg base "arrivals" 7 (zt4 C cs):=by
 refine yT F hm hb zH6 (fun as Q h=>?_) (fun cdv A' outer s H E as Q hr h=>?_)
 ·obtain⟨Bs,W,day,rfl,_⟩:=h;rfl
 ·obtain⟨Bs,W,day,rfl,bo,bl,wl,ws,q⟩:=h;have nd:=zH6.nd;refine xh 3 nd ?_;and_intros;refine wu (.one 4) (zg7 (zf 1 rfl ⟨_,rfl,?_⟩));refine yh (fun i α=>∃o4 o5 o6 o7:Option A,α=[some (.dat (yd C cs Bs)),some (.dat (xm (W.map sD))),some (.dat (.int day)),some (.own ((arrOf Bs (W.take i) day).map wX)),o4,o5,o6,o7]) ⟨none,none,none,none,rfl⟩ ?_ ?_
  ·rintro i d α hd ⟨o4,o5,o6,o7,rfl⟩;rw[zQ2,zQ2,Option.map_map,zQ9] at hd;obtain⟨u,hu,rfl⟩:=hd;have um:=zT2 hu;have hi:=(zP1.mp hu).1;refine⟨_,rfl,?_⟩;refine wu (.many [5,6]) (oi (by rfl) nb.enumerate (zf 0 rfl ⟨_,rfl,?_⟩));refine yh (fun j α=>∃o5 o6 o7:Option A,α=[some (.dat (yd C cs Bs)),some (.dat (xm (W.map sD))),some (.dat (.int day)),some (.own ((arrOf Bs (W.take i) day++tP (coB Bs) j day u).map wX)),some (.dat (.int u.1)),o5,o6,o7]) ⟨o5,o6,o7,by rw[show tP (coB Bs) 0 day u=[] from rfl,zV1]<;>rfl⟩ ?_ ?_
   ·rintro j d α hd ⟨o5,o6,o7,rfl⟩;obtain⟨e,he,rfl⟩:=wM hd;rw[zQ2,zQ9] at he;obtain⟨ds,hds,rfl⟩:=he;have hj:=(zP1.mp hds).1;have ej:=zr2 hds (ws u um).1;have sj:tP (coB Bs) (j+1) day u=tP (coB Bs) j day u++((coB Bs j u.1 day).map fun x=>(u.2.1+x,(u.1,day,j))).toList:=by
     unfold tP;rw[z56,List.filterMap_append];simp only[zX9,List.filterMap_nil];cases (coB Bs j u.1 day)<;>rfl
    refine⟨_,rfl,?_⟩;and_intros;refine⟨ds,u.1,day,rfl,bo ds (zT2 hds),(ws u um).1,?_⟩;and_intros;refine zQ (fun hc=>?_) (fun hc=>?_)
    ·cases ex:coO ds u.1 day with
     |none=>rw[ex] at hc;cases hc
     |some x=>
      and_intros;refine uX (k:=.inl u.1) rfl (by rw[xF,(ws u um).2]<;>rfl) ?_;and_intros;refine⟨?_,?_⟩
      ·have l1:(arrOf Bs (W.take i) day).length<=(W.take i).length*Bs.length:=iD _;have l2:=za9 (co:=coB Bs) (j:=j) (day:=day) (w:=u);have l3:(W.take i).length*Bs.length<=20*8:=Nat.mul_le_mul (by rw[zS0];omega) bl;rw[zO6,zQ6];omega
      ·and_intros;have e1:List.map wX (arrOf Bs (W.take i) day++tP (coB Bs) (j+1) day u)=List.map wX (arrOf Bs (W.take i) day++tP (coB Bs) j day u)++[wX (u.2.1+x,(u.1,day,j))]:=by
        rw[sj,ej,ex,<-List.append_assoc,zT4 (l₂:=(Option.map _ _).toList)];rfl
       exact⟨_,_,_,by rw[e1,z55]<;>rfl⟩
    ·and_intros;have hn:coO ds u.1 day=none:=by
      cases ex:coO ds u.1 day with
      |none=>rfl
      |some x=>rw[ex] at hc;cases hc
     have e1:tP (coB Bs) (j+1) day u=tP (coB Bs) j day u:=by
      rw[sj,ej,hn];simp only[Option.map_none,Option.toList_none,zV1]
     exact⟨_,_,_,by rw[e1]<;>rfl⟩
   ·rintro α ⟨o5,o6,o7,rfl⟩;and_intros;have:arrOf Bs (W.take (i+1)) day=arrOf Bs (W.take i) day++tP (coB Bs) Bs.length day u:=by
     unfold arrOf tH;rw[zW4,hu,List.flatMap_append];simp[dP,tP]
    exact⟨_,_,_,_,by rw[this,wL,zO6]⟩
  ·rintro α ⟨o4,o5,o6,o7,rfl⟩;rw[zO6,zO6,zW2];exact xB 3 rfl q
theorem zD9 :zo ["books","stay","ways","day","found"] ["books","stay"] (zc sLW):=.o
theorem zz3 {f C:Addr}{fd:FuncData}(F:Fun K "least_ways" "least_ways" sLW f fd)(hm:mg "least_ways"=some (.ref f))(hb:Binds K fd ["books","stay"] [])(nb:NbT mg)(CA:Cal P w K mg base "arrivals" 7 (zt4 C cs)):Cal P w K mg base "least_ways" 8 (zH2 C cs):=by
 refine yT F hm hb zD9 (fun as Q h=>?_) (fun cdv A' outer s H E as Q hr h=>?_)
 ·obtain⟨Bs,c,g,rfl,_⟩:=h;rfl
 ·obtain⟨Bs,c,g,rfl,bo,bl,⟨c0,cg,g1,g2⟩,q⟩:=h;have nd:=zD9.nd;refine zq5 2 nd (za2 ?_);and_intros;refine⟨.inl c,rfl,?_⟩;refine wu (.one 3) (ph (by rfl) nb.range ?_);and_intros;refine⟨⟨by omega,by omega,by omega,by omega⟩,?_⟩;refine yh (fun i α=>∃o3 o4:Option A,α=[some (.dat (yd C cs Bs)),some (.dat (.tuple [.int c,.int g])),some (.dic ((yn (coB Bs) Bs.length c i).map sD)),o3,o4]) ⟨none,none,rfl⟩ ?_ ?_
  ·rintro i d α hd ⟨o3,o4,rfl⟩;rw[zQ2,zQ9] at hd;obtain⟨z,hz,rfl⟩:=hd;have hi:=(zP1.mp hz).1;rw[zi] at hi;rw[yy hi] at hz;cases hz;have hi':(i:Int)<g-c:=by omega
   have iv:=zo3 (co:=coB Bs) (N:=Bs.length) c i;have wl:=qG (co:=coB Bs) (N:=Bs.length) (c:=c) i;refine⟨_,rfl,?_⟩;refine zP 4 nd (EvL.d (ze5 2 rfl ?_));and_intros;refine⟨Bs,yn (coB Bs) Bs.length c i,c+1+(i:Int),rfl,bo,bl,by omega,fun u hu=>⟨?_,iv.find hu⟩,?_⟩
   ·have h1:=iv.low u hu;have h2:=iv.top u hu;exact⟨by omega,by omega,by omega,by omega⟩
   refine⟨_,rfl,wD (fun _=>rfl) _,?_⟩;and_intros;have nx:yn (coB Bs) Bs.length c (i+1)=ma (coB Bs) Bs.length (yn (coB Bs) Bs.length c i) (c+1+(i:Int)):=rfl;unfold ma at nx;rw[show (!(List.map wX (arrOf Bs (yn (coB Bs) Bs.length c i) (c+1+(i:Int)))).isEmpty)=!(arrOf Bs (yn (coB Bs) Bs.length c i) (c+1+(i:Int))).isEmpty by rw[isEmpty_map]];refine zQ (fun hc=>?_) (fun hc=>?_)
   ·have ne:arrOf Bs (yn (coB Bs) Bs.length c i) (c+1+(i:Int))≠[]:=fun e=>by rw[e] at hc;cases hc
    rw[if_neg ne] at nx;refine zm3 2 hr.one rfl (zq8 rfl hr.few (by rfl) nb.min ?_);and_intros;refine⟨fun e=>ne (z63.mp e),xX (fun _=>rfl) _,aV _,fun d hd=>?_,?_⟩
    ·obtain⟨p,_,rfl⟩:=zT0.mp hd;exact⟨rfl,by simp[wX,xI,PyData.depth,PyData.depthAll]⟩
    rw[zg4 ne];and_intros;refine⟨.inl (c+1+(i:Int)),rfl,by rw[zO6];omega,?_⟩;and_intros;have fn:yq (yn (coB Bs) Bs.length c i) (c+1+(i:Int))=none:=by
     cases e:yq (yn (coB Bs) Bs.length c i) (c+1+(i:Int)) with
     |none=>rfl
     |some p=>
      have:=iv.top _ (find_some (x:=p.1) (l:=p.2) e);have:c+1+(i:Int)<=c+i:=this;omega
    exact⟨_,_,by rw[nx,<-ah fn]<;>rfl⟩
   ·have e:arrOf Bs (yn (coB Bs) Bs.length c i) (c+1+(i:Int))=[]:=by
     cases e:arrOf Bs (yn (coB Bs) Bs.length c i) (c+1+(i:Int)) with
     |nil=>rfl
     |cons a l=>rw[e] at hc;cases hc
    rw[if_pos e] at nx;and_intros;exact⟨_,_,by rw[nx]<;>rfl⟩
  ·rintro α ⟨o3,o4,rfl⟩;rw[zO6,zi,show (g+1-(c+1)).toNat=(g-c).toNat by omega];refine zD0 2 rfl ?_;and_intros;exact q
theorem zE2 :zo ["ways","stay","backwards","day","part"] ["ways","stay"] (zc kO):=.o
theorem zl8 {f:Addr}{fd:FuncData}(F:Fun K "cut_of" "cut_of" kO f fd)(hm:mg "cut_of"=some (.ref f))(hb:Binds K fd ["ways","stay"] [])(nb:NbT mg):Cal P w K mg base "cut_of" 1 iZ:=by
 refine yT F hm hb zE2 (fun as Q h=>?_) (fun cdv A' outer s H E as Q hr h=>?_)
 ·obtain⟨W,c,g,rfl,_⟩:=h;rfl
 ·obtain⟨W,c,g,rfl,⟨wl,co,N,iv⟩,⟨c0,cg,g1,g2⟩,⟨p0,hp0⟩,q⟩:=h;have nd:=zE2.nd;refine xh 2 nd ?_;and_intros;generalize hn:(g-c).toNat=n at iv q;refine nV zV3 (fun m α=>∃(o4:Option A) (d:Int) (p:Int×Option Part) (acc:List Part),α=[some (.dat (xm (W.map sD))),some (.dat (.tuple [.int c,.int g])),some (.own (acc.map xI)),some (.dat (.int d)),o4]/\yq W d=some p/\d-c<=m/\acc.length+m<=n/\vm W c n g=acc++vm W c m d) n ⟨none,g,p0,[],rfl,hp0,by omega,by simp,rfl⟩ ?_;rintro m α ⟨o4,d,p,acc,rfl,fd,dm,al,eb⟩;have wm:=find_some (x:=p.1) (l:=p.2) fd;have lo:c<=d:=iv.low _ wm;and_intros;refine vk (fun hc=>?_) (fun hc=>?_)
  ·have hdc:d≠c:=by simpa using hc
   obtain⟨m,rfl⟩:∃k,m=k+1:=⟨m-1,by omega⟩;rcases iv.step _ wm with e|⟨u,hu,k,y,h1,h2,h3,e⟩
   ·injection e with e _;exact absurd e hdc
   have h1:u.1<d:=h1;have e:(d,p.1,p.2)=(d,u.2.1+y,some (u.1,d,k)):=e;have ep:p=(u.2.1+y,some (u.1,d,k)):=by injection e
   and_intros;refine uX (k:=.inl d) rfl (by rw[xF,fd]<;>rfl) ?_;rw[ep];and_intros;refine⟨by rw[zO6];omega,?_⟩;and_intros;refine⟨m,by omega,_,u.1,u.2,acc++[(u.1,d,k)],by rw[zT4]<;>rfl,iv.find hu,by omega,by rw[zQ6,zR9];omega,?_⟩;rw[eb,vm,if_neg hdc,fd,ep,List.append_assoc];rfl
  ·have hdc:d=c:=by simpa using hc
   subst hdc;refine sI (jT 2 rfl (jh rfl (by rfl) nb.list (by rfl) nb.reversed ?_));and_intros;have:vm W d m d=[]:=by cases m<;>simp[vm]
   rw[this,zV1] at eb;rw[eb] at q;rw[<-List.map_reverse];exact⟨wD (fun _=>rfl) _,q⟩
theorem zH0 :zo ["ways","stay","highest","heights"] ["ways","stay"] (zc kh):=.o
theorem gI {f:Addr}{fd:FuncData}(F:Fun K "paper_of" "paper_of" kh f fd)(hm:mg "paper_of"=some (.ref f))(hb:Binds K fd ["ways","stay"] [])(nb:NbT mg):Cal P w K mg base "paper_of" 1 iY:=by
 refine yT F hm hb zH0 (fun as Q h=>?_) (fun cdv A' outer s H E as Q hr h=>?_)
 ·obtain⟨W,c,g,rfl,_⟩:=h;rfl
 ·obtain⟨W,c,g,rfl,⟨wl,co,N,iv⟩,⟨c0,cg,g1,g2⟩,q⟩:=h;have nd:=zH0.nd;refine zP 2 nd (zf7 rfl (by rfl) nb.max (EvL.d (qF ["way"] [none] (.one 0) (zp5 ?_))));and_intros;refine⟨by rw[zO6,zO6];omega,?_⟩;rw[zU8];refine xR (fun u=>.int u.2.1) (fun u hu=>⟨_,rfl,fun _ _ _ _ _ k=>?_⟩) ?_
  ·and_intros;exact k
  refine⟨qv W,by unfold qv;rw[zU8]<;>rfl,fun e=>?_,?_⟩
  ·obtain⟨r,hr,_⟩:=iv.first;rw[hr] at e;cases e
  generalize hn:(g-c).toNat=n at iv q;refine aa 3 ["day","ways","highest"] [none,some 0,some 2] (.one 0) (ph (by rfl) nb.range ?_);and_intros;refine⟨⟨by omega,by omega,by omega,by omega⟩,by rw[zO6,zi];omega,?_⟩;rw[show (g+1-c).toNat=n+1 by omega];refine xR (fun d=>.int (hW W d)) (fun d hd=>⟨_,rfl,fun _ _ _ _ _ k=>?_⟩) ?_
  ·and_intros;refine nH (k:=.inl d) rfl ?_;rw[xF];cases e:yq W d with
   |none=>
    and_intros;rw[sS e] at k;exact k
   |some p=>
    and_intros;refine uX (k:=.inl d) rfl (by rw[xF,e]<;>rfl) ?_;and_intros;rw[wW (x:=p.1) (l:=p.2) e] at k;exact k
  refine dM 3 rfl ?_;refine sI (qF ["lower","higher"] [none,none] (.many [0,1]) (zv8 (by rfl) nb.zip ?_));and_intros;have e0:(zt c (n+1)).map (fun d=>PyData.int (hW W d))=((zt c (n+1)).map (hW W)).map PyData.int:=by rw[zU8]<;>rfl
  rw[zW5,e0,zc7];refine⟨by rw[zO6,zi];omega,?_⟩;refine xR (fun d=>.int (hW W (d+1)-hW W d)) (fun d hd=>⟨_,rfl,fun _ _ _ _ _ k=>?_⟩) ?_
  ·and_intros;exact k
  ·unfold wB at q;rw[zU8] at q;exact q
theorem zF5 :zo ["books","stay","ways"] ["books","stay"] (zc zd2):=.o
theorem ae {f C:Addr}{fd:FuncData}(F:Fun K "best" "best" zd2 f fd)(hm:mg "best"=some (.ref f))(hb:Binds K fd ["books","stay"] [])(nb:NbT mg)(CL:Cal P w K mg base "least_ways" 8 (zH2 C cs))(CC:Cal P w K mg base "cut_of" 1 iZ)(CP:Cal P w K mg base "paper_of" 1 iY):Cal P w K mg base "best" 9 (bH C cs):=by
 refine yT F hm hb zF5 (fun as Q h=>?_) (fun cdv A' outer s H E as Q hr h=>?_)
 ·obtain⟨Bs,c,g,rfl,_⟩:=h;rfl
 ·obtain⟨Bs,c,g,rfl,bo,bl,sb,q⟩:=h;obtain⟨c0,cg,g1,g2⟩:=id sb;have nd:=zF5.nd;have iv:=zo3 (co:=coB Bs) (N:=Bs.length) c (g-c).toNat;have wl:=qG (co:=coB Bs) (N:=Bs.length) (c:=c) (g-c).toNat;have wb:cn (jO Bs c g) c g:=⟨by show (yn _ _ _ _).length<=20;omega,_,_,iv⟩;and_intros;refine⟨Bs,c,g,rfl,bo,bl,sb,?_⟩;and_intros;refine nH (k:=.inl g) rfl ?_;rw[xF];unfold bestOf nW at q;cases e:yq (jO Bs c g) g with
  |none=>
   rw[e] at q;refine oP rfl ?_;refine iz (cu (wH (lQ (yc ⟨rfl,?_⟩))));refine wH (oV (dS rfl (by rfl) nb.list (zf 2 rfl ⟨_,rfl,?_⟩)));rw[zU8];refine⟨wD (fun _=>rfl) _,iR ⟨zP4 rfl,?_⟩⟩;exact q
  |some p=>
   rw[e] at q;refine vT rfl (zy ?_);refine iz (cu (wH (lQ (yc ⟨rfl,?_⟩))));refine wH (lQ ?_);and_intros;refine uX (k:=.inl g) rfl (by rw[xF,e]<;>rfl) ?_;and_intros;refine⟨rfl,wH (oV ?_)⟩;and_intros;refine⟨_,c,g,rfl,wb,sb,⟨p,e⟩,_,rfl,wD (fun _=>rfl) _,wH (oV ?_)⟩;and_intros;refine⟨_,c,g,rfl,wb,sb,_,rfl,wD (fun _=>rfl) _,iR ⟨zP4 rfl,?_⟩⟩;exact q
end
structure zr0 (Bs:List (List PyData))(c g x:Int)(ps:List Part)(pp:List Int):Prop where
 eq:bestOf Bs c g=.tuple [.str "had",.int x,.list (ps.map xI),.list (pp.map .int)]
 cut:Cut (coB Bs) Bs.length c g x ps
 least:∀y qs,Cut (coB Bs) Bs.length c g y qs->x<=y
 plen:pp.length=(g-c).toNat
 psum:pp.sum=x
 paper:∀n b e y,n<Bs.length->c<=b->b<e->e<=g->coB Bs n b e=some y->((pp.drop (b-c).toNat).take (e-b).toNat).sum<=y
 pbd:∀n∈pp,-300000000000000<=n/\n<=300000000000000
theorem zA5 {co:Co}{N:Nat}{a b z:Int}{ps:List Part}(h:Cut co N a b z ps)(h0:∀n b e x,n<N->co n b e=some x->0<=x/\x<=15000000000000):0<=z/\z<=15000000000000*(b-a):=by
 induction h with
 |nil a=>omega
 |@cons a e b x z n ps h1 h2 h3 h ih=>
  have:=h0 _ _ _ _ h2 h3;omega
theorem zs3 {co:Co}{N:Nat}{c:Int}{n:Nat}{W:List Way}(iv:wZ co N c n W)(hn:n<=14)(h0:∀n b e x,n<N->co n b e=some x->0<=x/\x<=15000000000000)(d:Int):0<=hW W d/\hW W d<=210000000000000:=by
 have one:∀w∈W,0<=w.2.1/\w.2.1<=210000000000000:=fun w hw=>by
  have t:=iv.top w hw;have l:=iv.low w hw;have:=zA5 (iv.back n (d:=w.1) (x:=w.2.1) (l:=w.2.2) hw (by omega)) h0;omega
 cases e:yq W d with
 |some p=>
  rw[wW (x:=p.1) (l:=p.2) e];exact one _ (find_some (x:=p.1) (l:=p.2) e)
 |none=>
  rw[sS e];have:uU (qv W)∈qv W:=cW fun z=>by
   obtain⟨r,hr,_⟩:=iv.first;rw[hr] at z;cases z
  unfold qv at this;obtain⟨w,hw,ew⟩:=zT0.mp this;have:=one w hw;unfold zj5 qv;rw[<-ew];exact this
structure zk5 (Bs:List (List PyData))(c g:Int)(ds:List Int):Prop where
 eq:bestOf Bs c g=.tuple [.str "off",.list (ds.map .int)]
 none:∀y qs,¬Cut (coB Bs) Bs.length c g y qs
 first:∃r,ds=c::r
 sort:ds.Pairwise (·<·)
 rng:∀d∈ds,c<=d/\d<g
 shut:∀d∈ds,∀e n y,d<e->e<=g->n<Bs.length->coB Bs n d e=some y->e∈ds
theorem lZ {Bs:List (List PyData)}{c g:Int}(bo:yP Bs)(sb:yB c g):(∃x ps pp,zr0 Bs c g x ps pp)\/∃ds,zk5 Bs c g ds:=by
 obtain⟨c0,cg,g1,g2⟩:=sb;obtain⟨n,hn⟩:∃n:Nat,g=c+n:=⟨(g-c).toNat,by omega⟩;subst hn;have en:(c+(n:Int)-c).toNat=n:=by omega
 have iv:=zo3 (co:=coB Bs) (N:=Bs.length) c n;have h0:∀m b e x,m<Bs.length->coB Bs m b e=some x->0<=x:=fun m b e x hm h=>(nN bo hm h).2.2.2.1;have eq:bestOf Bs c (c+n)=_:=rfl;unfold bestOf nW at eq;rw[en] at eq;cases e:yq (yn (coB Bs) Bs.length c n) (c+n) with
 |none=>
  right;rw[e] at eq;refine⟨(yn (coB Bs) Bs.length c n).map (·.1),?_,fun y qs=>iv.off e,?_,iv.sort,fun d hd=>?_,fun d hd k m y h1 h2 h3 h4=>?_⟩
  ·unfold bestOf nW;rw[en,e,zU8];rfl
  ·obtain⟨r,hr,_⟩:=iv.first;rw[hr];exact⟨_,rfl⟩
  ·obtain⟨u,hu,rfl⟩:=zT0.mp hd;have h1:=iv.low u hu;have h2:=iv.top u hu;have h3:=find_none e u hu;exact⟨h1,by omega⟩
  ·obtain⟨u,hu,rfl⟩:=zT0.mp hd;obtain⟨v,hv,e1,_⟩:=iv.shut u hu k m y h1 h2 h3 h4;exact zT0.mpr ⟨v,hv,e1⟩
 |some p=>
  left;have hd:=iv.had (x:=p.1) (l:=p.2) e;refine⟨p.1,(vm (yn (coB Bs) Bs.length c n) c n (c+n)).reverse,wB (yn (coB Bs) Bs.length c n) c n,?_,iv.back n (find_some (x:=p.1) (l:=p.2) e) (by omega),hd.2,?_,?_,fun m b k y h1 h2 h3 h4 h5=>?_,?_⟩
  ·unfold bestOf nW;rw[en,e]
  ·rw[gD,en]
  ·rw[gZ,wW (x:=p.1) (l:=p.2) e,wW iv.zero];omega
  rotate_left
  ·intro n' hn';unfold wB at hn';obtain⟨d,_,rfl⟩:=zT0.mp hn';have b0:∀m b e x,m<Bs.length->coB Bs m b e=some x->0<=x/\x<=15000000000000:=fun m b e x hm h=>(nN bo hm h).2.2.2;have h1:=zs3 iv (by omega) b0 (d+1);have h2:=zs3 iv (by omega) b0 d;omega
  ·rw[gf (by omega),show c+((b-c).toNat:Int)=b by omega,show b+((k-b).toNat:Int)=k by omega];cases eb:yq (yn (coB Bs) Bs.length c n) b with
   |none=>
    have:=zF6 (yn (coB Bs) Bs.length c n) k;rw[sS eb];have:=h0 _ _ _ _ h1 h5;omega
   |some q=>
    obtain⟨v,hv,e1,e2⟩:=iv.shut _ (find_some (x:=q.1) (l:=q.2) eb) k m y h3 h4 h1 h5;rw[wW (x:=q.1) (l:=q.2) eb,wW (x:=v.2.1) (l:=v.2.2) (iv.find (by rw[<-e1];exact hv))];exact Int.sub_left_le_of_le_add e2
theorem lV {Bs:List (List PyData)}{n:Nat}(hn:n<Bs.length):∃ds,Bs[n]?=some ds/\Bs.getD n []=ds:=⟨Bs[n],zO9 hn,by rw[zP0,zO9 hn]<;>rfl⟩
abbrev ou :Stmt:=top 64
def mh (C:Addr)(cs:Cs):List A->(A->Prop)->Prop:=fun as Q=>∃bs dy:Int,as=[.tape,.dat (.int bs),.dat (.int dy)]/\Bd bs dy/\∀Bs,yP Bs->1<=Bs.length->Bs.length<=4->(∀ds∈Bs,ds.length<=10)->(∀ds∈Bs,yw bs (bs+dy+5) ds)->Q (.own (Bs.map (yW C cs)))
section
variable {P:Program}{w:World}{K:PySem.W.Frag}{mg:Str->Option Value}{base:Heap}{cs:Cs}
theorem zF2 :zo ["_law_tape_here","_law_base","_law_days","_law_found","_law_k"] ["_law_tape_here","_law_base","_law_days"] (zc ou):=.o
theorem kZ {f C:Addr}{fd:FuncData}(F:Fun K "_law_books" "_law_books" ou f fd)(hm:mg "_law_books"=some (.ref f))(hb:Binds K fd ["_law_tape_here","_law_base","_law_days"] [])(nb:NbT mg)(CD:Cal P w K mg base "_law_draw" 1 xt)(CR:Cal P w K mg base "_law_rules" 5 rJ)(CK:zb1 P w K mg base "Book" 9 [] (pV C cs)):Cal P w K mg base "_law_books" 11 (mh C cs):=by
 refine yT F hm hb zF2 (fun as Q h=>?_) (fun cdv A' outer s H E as Q hr h=>?_)
 ·obtain⟨bs,dy,rfl,_⟩:=h;rfl
 ·obtain⟨bs,dy,rfl,bd,q⟩:=h;have nd:=zF2.nd;refine xh 3 nd ?_;and_intros;refine wu (.one 4) (xQ (by rfl) nb.range ?_);and_intros;rename_i v h0 h1;refine⟨by omega,by omega,?_⟩;refine yh (fun i α=>∃(o4:Option A) (Bs:List (List PyData)),α=[some .tape,some (.dat (.int bs)),some (.dat (.int dy)),some (.own (Bs.map (yW C cs))),o4]/\(∀ds∈Bs,yw bs (bs+dy+5) ds)/\Bs.length=i/\∀ds∈Bs,ds.length<=10) ⟨none,[],rfl,fun _ h=>by simp at h,rfl,fun _ h=>by simp at h⟩ ?_ ?_
  ·rintro i d α hd ⟨o4,Bs,rfl,bo,bl,dl⟩;have hi:=(zP1.mp hd).1;rw[zO6,zi] at hi;refine⟨_,rfl,?_⟩;and_intros;refine⟨bs,dy,rfl,⟨bd.1,by have:=bd.2.1;omega,bd.2.2.1,by have:=bd.2.2.2;omega⟩,fun ds ro ld=>?_⟩;and_intros;refine tV (fun d=>∃b:Int,d=.int b) rfl (by assumption) (by assumption) ⟨⟨_,rfl⟩,⟨_,rfl⟩,trivial⟩ ?_;rintro _ ⟨b,rfl⟩;and_intros;have rc:yw bs (bs+dy+5) (L2.cutD ds none (some b)):=fun d hd=>ro d (zk8 hd);have lc:=zT3 (zk6 (ds:=ds) (lo:=none) (hi:=some b)) ld;refine⟨_,.inl rfl,(rc.ok bd.1 (by have:=bd.2.1;have:=bd.2.2.2;omega)).rules,by omega,?_⟩;and_intros;refine⟨by rw[zO6];omega,?_⟩;and_intros;refine⟨_,Bs++[L2.cutD ds none (some b)],by rw[zT4]<;>rfl,fun x hx=>?_,by rw[zQ6,bl]<;>rfl,fun x hx=>?_⟩
   ·rcases zT1.mp hx with hx|hx
    ·exact bo x hx
    ·rw[zP7.mp hx];exact rc
   ·rcases zT1.mp hx with hx|hx
    ·exact dl x hx
    ·rw[zP7.mp hx];exact lc
  ·rintro α ⟨o4,Bs,rfl,bo,bl,dl⟩;rw[zO6,zi] at bl;exact xB 3 rfl (q Bs (fun ds hd=>(bo ds hd).ok bd.1 (by have:=bd.2.1;have:=bd.2.2.2;omega)) (by omega) (by omega) dl bo)
def iE (C:Addr)(cs:Cs):List A->(A->Prop)->Prop:=fun as Q=>∃bs dy:Int,as=[.tape,.dat (.int bs),.dat (.int dy)]/\Bd bs dy/\∀Bs,yP Bs->1<=Bs.length->Bs.length<=4->(∀ds∈Bs,ds.length<=10)->Q (.own (Bs.map (yW C cs)))
theorem bE {C:Addr}{x:Str}{k:Nat}(CB:Cal P w K mg base x k (mh C cs)):Cal P w K mg base x k (iE C cs):=CB.imp fun as Q h=>by
 obtain⟨bs,dy,rfl,bd,q⟩:=h;exact⟨bs,dy,rfl,bd,fun Bs h1 h2 h3 h4 _=>q Bs h1 h2 h3 h4⟩
end
abbrev aC :Stmt:=top 63
def cI :List A->(A->Prop)->Prop:=fun as Q=>∃bs dy:Int,as=[.tape,.dat (.int bs),.dat (.int dy)]/\Bd bs dy/\∀c g:Int,bs<=c->c<g->g<=bs+dy->Q (.dat (.tuple [.int c,.int g]))
section
variable {P:Program}{w:World}{K:PySem.W.Frag}{mg:Str->Option Value}{base:Heap}
theorem zu1 :zo ["_law_tape_here","_law_base","_law_days","_law_many","_law_come"] ["_law_tape_here","_law_base","_law_days"] (zc aC):=.o
theorem aN {f:Addr}{fd:FuncData}(F:Fun K "_law_stay" "_law_stay" aC f fd)(hm:mg "_law_stay"=some (.ref f))(hb:Binds K fd ["_law_tape_here","_law_base","_law_days"] [])(CD:Cal P w K mg base "_law_draw" 1 xt):Cal P w K mg base "_law_stay" 2 cI:=by
 refine yT F hm hb zu1 (fun as Q h=>?_) (fun cdv A' outer s H E as Q hr h=>?_)
 ·obtain⟨bs,dy,rfl,_⟩:=h;rfl
 ·obtain⟨bs,dy,rfl,⟨b1,b2,b3,b4⟩,q⟩:=h;have hbig:(1000001:Int)<big:=by decide
  refine zP 3 zu1.nd (xx (zT (zZ CD hr (by rfl) (zL 0 rfl (zd (zf 2 rfl (zp (⟨_,rfl,by omega,by omega,fun v1 h1 g1=>⟨_,_,rfl,rfl,?_⟩⟩))))))));refine zP 4 zu1.nd (xx (zf 1 rfl (zZ CD hr (by rfl) (zL 0 rfl (zd (xx (oQ (zf 2 rfl (zf 3 rfl (⟨_,_,rfl,rfl,zT (⟨_,_,rfl,rfl,zp (⟨_,rfl,by omega,by omega,fun v2 h2 g2=>⟨_,_,rfl,rfl,?_⟩⟩)⟩)⟩))))))))));refine xU (yQ (zd (zf 4 rfl (zd (xx (zf 4 rfl (zf 3 rfl (⟨_,_,rfl,rfl,zp (⟨_,rfl,zP4 rfl,?_⟩)⟩))))))));exact q _ _ (by omega) (by omega) (by omega)
end
section
variable {X:Cx}{α:Ev}{a b e tg:Expr}{p pos apos:Pos}{Q:PyData->Prop}
theorem zm0 (hg:Gl X "str")(hm:X.mg "str"=none)(h:EvD X α e fun x=>∃i:Int,x=.int i/\i.natAbs.log2<1920/\Q (.str (toString i)))(he:starEach [e] X.env=(false,eval e X.env)::starEach [] X.env:=by rfl):
  EvD X α (.Call (.Name "str" p) [e] [] pos) Q:=fun F σ H R m k=>by
 refine⟨_,xu oM hg hm boot_str (zg zl zu he) (he:=he),?_⟩;refine h F σ H _ m fun x vx H1 q1 t1 k1 r1=>?_;obtain⟨i,rfl,hz,q⟩:=q1;cases r1.int_inv;exact⟨i,rfl,hz,k _ _ H1 q t1 k1 (.str _)⟩
theorem zq2 (hg:Gl X "tuple")(hm:X.mg "tuple"=none)(h:EvD X α e fun x=>∃ds,x=.list ds/\Q (.tuple ds))(he:starEach [e] X.env=(false,eval e X.env)::starEach [] X.env:=by rfl):
  EvD X α (.Call (.Name "tuple" p) [e] [] pos) Q:=fun F σ H R m k=>by
 refine⟨_,xu qJ hg hm boot_tuple (zg zl zu he) (he:=he),?_⟩;refine h F σ H _ m fun x vx H1 q1 t1 k1 r1=>?_;obtain⟨ds,rfl,q⟩:=q1;have m1:=m.kz k1 t1;obtain⟨l,xs,rfl,h1,h2⟩:=r1.lst_inv;refine⟨_,xs,rfl,.inl ⟨SqL.of (zj h1).2,fun l' hl=>?_⟩⟩;exact k _ _ _ q (t1.same (yj hl)) (k1.trans (Kz.of_same (yj hl))) (.tup (xs:=xs) (zE (m1.fresh hl) zk) (h2.same (zw fun a o ha e=>⟨ha,by rw[zh (zm e hl)];exact e⟩)))
end
abbrev sT :Stmt:=top 25
abbrev kL :Stmt:=top 26
abbrev zw5 :Stmt:=top 65
abbrev P3 :=Int×Int×Int
def pD (p:P3):PyData:=.tuple [.int p.1,.int p.2.1,.int p.2.2]
theorem gB (zs:List Int):(PyData.list (zs.map .int)).hasDict=false:=by
 rw[PyData.hasDict];exact xX (fun _=>rfl) zs
def ub (Bs:List (List PyData))(c g:Int)(p:P3):Bool:=decide (c<=p.1)&&(decide (p.1<p.2.1)&&(decide (p.2.1<=g)&&(decide (0<=p.2.2)&&(decide (p.2.2<Bs.length)&&vX (Bs.getD p.2.2.toNat []) p.1 p.2.1))))
def qQ (Bs:List (List PyData))(c g:Int):Int->List P3->Bool
 |day,[]=>decide (day=g)
 |day,p::ps=>ub Bs c g p&&(decide (p.1=day)&&qQ Bs c g p.2.1 ps)
def zs1 :List A->(A->Prop)->Prop:=fun as Q=>∃z:Int,as=[.dat (.int z)]/\Q (.dat (.bool true))
def cT (C:Addr)(cs:Cs):List A->(A->Prop)->Prop:=fun as Q=>∃(Bs:List (List PyData)) (c g:Int) (p:P3),as=[.dat (yd C cs Bs),.dat (.tuple [.int c,.int g]),.dat (pD p)]/\yP Bs/\yB c g/\Q (.dat (.bool (ub Bs c g p)))
theorem gL {ι:Type}(l:List ι):l.map (fun _=>PyData.bool true)=(l.map fun _=>true).map .bool:=by rw[zU8]<;>rfl
structure ThB (d:PyData):Prop where
 nod:d.hasDict=false
 sh:SeqAt.shaped d=true
 lst:∀ts,d=.list ts->ts.length<=1000/\∀t∈ts,∀ds,t=.tuple ds->ds.length<=1000
def p3? :PyData->Option P3
 |.tuple [.int a,.int b,.int c]=>some (a,b,c)
 |_=>none
theorem oF {d:PyData}{p:P3}(h:p3? d=some p):d=pD p:=by
 unfold p3? at h;split at h
 ·cases h;rfl
 ·cases h
def ua (Bs:List (List PyData))(c g:Int):Int->List PyData->Bool
 |day,[]=>decide (day=g)
 |day,d::r=>match p3? d with
  |some p=>ub Bs c g p&&(decide (p.1=day)&&ua Bs c g p.2.1 r)
  |none=>false
def du (Bs:List (List PyData))(c g:Int):PyData->Bool
 |.list ts=>ua Bs c g c ts
 |_=>false
theorem ik (Bs:List (List PyData))(c g:Int):∀(day:Int) (ps:List P3),ua Bs c g day (ps.map pD)=qQ Bs c g day ps
 |_,[]=>rfl
 |day,p::ps=>by
  show (ub Bs c g p&&(decide (p.1=day)&&ua Bs c g p.2.1 (ps.map pD)))=_;rw[ik Bs c g p.2.1 ps];rfl
theorem mr {Bs:List (List PyData)}{c g:Int}{d:PyData}(h:p3? d=none):∀{ts:List PyData} (day:Int),d∈ts->ua Bs c g day ts=false
 |t::r,day,hd=>by
  rcases zP2.mp hd with rfl|hd
  ·show (match p3? d with|some p=>_|none=>false)=false;rw[h]
  ·show (match p3? t with|some p=>ub Bs c g p&&(decide (p.1=day)&&ua Bs c g p.2.1 r)|none=>false)=false;cases p3? t with
   |none=>rfl
   |some p=>show (ub Bs c g p&&(decide (p.1=day)&&ua Bs c g p.2.1 r))=false;rw[mr h p.2.1 hd,zW8,zW8]
theorem zd4 :∀{ts:List PyData},(∀d∈ts,p3? d≠none)->∃ps:List P3,ts=ps.map pD
 |[],_=>⟨[],rfl⟩
 |t::r,h=>by
  obtain⟨ps,rfl⟩:=zd4 fun d hd=>h d (zP5 _ hd);cases e:p3? t with
  |none=>exact absurd e (h t zQ1)
  |some p=>exact⟨p::ps,by rw[oF e];rfl⟩
theorem vS {ts:List PyData}(h:PyData.hasDictAll ts=false):∀d∈ts,d.hasDict=false:=by
 induction ts with
 |nil=>intro d hd;cases hd
 |cons t r ih=>
  simp only[PyData.hasDictAll,Bool.or_eq_false_iff] at h;intro d hd;rcases zP2.mp hd with rfl|hd
  ·exact h.1
  ·exact ih h.2 d hd
theorem aX {ds:List PyData}(h:p3? (.tuple ds)=none)(hl:ds.length=3):(ds.map fun d=>yV d).all id=false:=by
 match ds,hl with
 |[a,b,c],_=>
  show (yV a&&(yV b&&(yV c&&true)))=false;cases a with
  |int i=>
   cases b with
   |int j=>
    cases c with
    |int k=>cases h
    |_=>rfl
   |_=>rfl
  |_=>rfl
def zh7 :List A->(A->Prop)->Prop:=fun as Q=>∃d,as=[.dat d]/\d.hasDict=false/\Q (.dat (.bool (yV d)))
def iA (C:Addr)(cs:Cs):List A->(A->Prop)->Prop:=fun as Q=>∃(Bs:List (List PyData)) (c g:Int) (d:PyData),as=[.dat (yd C cs Bs),.dat (.tuple [.int c,.int g]),.dat d]/\p3? d=none/\d.hasDict=false/\(∀ds,d=.tuple ds->ds.length<=1000)/\Q (.dat (.bool false))
def lg (C:Addr)(cs:Cs):List A->(A->Prop)->Prop:=fun as Q=>∃(Bs:List (List PyData)) (c g:Int) (d:PyData),as=[.dat (yd C cs Bs),.dat (.tuple [.int c,.int g]),.dat d]/\yP Bs/\yB c g/\ThB d/\Q (.dat (.bool (du Bs c g d)))
section
variable {P:Program}{w:World}{K:PySem.W.Frag}{mg:Str->Option Value}{base:Heap}{cs:Cs}
theorem zx7 {f:Addr}{fd:FuncData}(F:Fun K "is_whole" "is_whole" tD f fd)(hm:mg "is_whole"=some (.ref f))(hb:Binds K fd ["thing"] [])(nb:NbT mg):Cal P w K mg base "is_whole" 1 zh7:=by
 refine yT F hm hb sO (fun as Q h=>?_) (fun cdv A' outer s H E as Q hr h=>?_)
 ·obtain⟨d,rfl,_⟩:=h;rfl
 ·obtain⟨d,rfl,nd,q⟩:=h;rw[tM] at q;and_intros;refine⟨_,nd,rfl,?_⟩;cases h1:isInt d with
  |false=>rw[h1] at q;and_intros;exact q
  |true=>
   rw[h1] at q;and_intros;refine⟨_,nd,rfl,?_⟩;and_intros;exact q
theorem zF8 :zo ["_law_thing"] ["_law_thing"] (zc zw5):=.o
theorem zi7 {f:Addr}{fd:FuncData}(F:Fun K "_law_whole" "_law_whole" zw5 f fd)(hm:mg "_law_whole"=some (.ref f))(hb:Binds K fd ["_law_thing"] [])(nb:NbT mg):Cal P w K mg base "_law_whole" 1 zh7:=by
 refine yT F hm hb zF8 (fun as Q h=>?_) (fun cdv A' outer s H E as Q hr h=>?_)
 ·obtain⟨d,rfl,_⟩:=h;rfl
 ·obtain⟨d,rfl,nd,q⟩:=h;rw[tM] at q;and_intros;refine⟨_,nd,rfl,?_⟩;cases h1:isInt d with
  |false=>rw[h1] at q;and_intros;exact q
  |true=>
   rw[h1] at q;and_intros;refine⟨_,nd,rfl,?_⟩;and_intros;exact q
end
section
variable {P:Program}{w:World}{K:PySem.W.Frag}{mg:Str->Option Value}{base:Heap}{cs:Cs}
theorem zk9 {f:Addr}{fd:FuncData}(F:Fun K "is_whole" "is_whole" tD f fd)(hm:mg "is_whole"=some (.ref f))(hb:Binds K fd ["thing"] [])(nb:NbT mg):Cal P w K mg base "is_whole" 1 zs1:=by
 refine yT F hm hb sO (fun as Q h=>?_) (fun cdv A' outer s H E as Q hr h=>?_)
 ·obtain⟨z,rfl,_⟩:=h;rfl
 ·obtain⟨z,rfl,q⟩:=h;have nd:=sO.nd;and_intros;exact q
theorem zi2 :zo ["books","stay","thing"] ["books","stay","thing"] (zc sT):=.o
theorem bB {f C:Addr}{fd:FuncData}(F:Fun K "is_part" "is_part" sT f fd)(hm:mg "is_part"=some (.ref f))(hb:Binds K fd ["books","stay","thing"] [])(nb:NbT mg)(CW:Cal P w K mg base "is_whole" 1 zs1)(CH:Cal P w K mg base "can_be_had" 4 (lA C cs)):Cal P w K mg base "is_part" 5 (cT C cs):=by
 refine yT F hm hb zi2 (fun as Q h=>?_) (fun cdv A' outer s H E as Q hr h=>?_)
 ·obtain⟨Bs,c,g,p,rfl,_⟩:=h;rfl
 ·obtain⟨Bs,c,g,⟨b,e,n⟩,rfl,bo,⟨c0,cg,g1,g2⟩,q⟩:=h;have nd:=zi2.nd;refine xY (fun α=>α=[some (.dat (yd C cs Bs)),some (.dat (.tuple [.int c,.int g])),some (.dat (.tuple [.int b,.int e,.int n]))]) ?_ ?_
  ·and_intros;rfl
  rintro α rfl;refine xY (fun α=>α=[some (.dat (yd C cs Bs)),some (.dat (.tuple [.int c,.int g])),some (.dat (.tuple [.int b,.int e,.int n]))]) ?_ ?_
  ·refine xk (wx (wC (kl rfl (by rfl) nb.all (EvL.d (qF ["number"] [none] (.one 0) (lR (zf 2 rfl ⟨_,rfl,zP4 rfl,?_⟩)))))));refine xR (g:=PyData.int) (l:=[b,e,n]) (fun _=>.bool true) (fun z hz=>⟨_,rfl,fun _ _ _ _ _ k=>?_⟩) ?_
   ·and_intros;exact k
   rw[zW5,gL];and_intros;rfl
  rintro α rfl;unfold ub at q;refine xY (fun α=>α=[some (.dat (yd C cs Bs)),some (.dat (.tuple [.int c,.int g])),some (.dat (.tuple [.int b,.int e,.int n]))]/\c<=b/\b<e/\e<=g) ?_ ?_
  ·refine xk (wx (fi ?_));and_intros;refine vk (fun h1=>?_) (fun h1=>?_)
   ·and_intros;refine vk (fun h2=>?_) (fun h2=>?_)
    ·and_intros;refine zQ (fun h3=>?_) (fun h3=>?_)
     ·and_intros;have h3:decide (e<=g)=false:=by simpa using h3
      simp only[h1,h2,h3,zR1,zR6] at q;exact q
     ·and_intros;have h3:e<=g:=by simpa using h3
      exact⟨rfl,zT5 h1,zT5 h2,h3⟩
    ·and_intros;simp only[h1,h2,zR1,zR6] at q;exact q
   ·and_intros;simp only[h1,zR6] at q;exact q
  rintro α ⟨rfl,h1,h2,h3⟩;simp only[zS3 h1,zS3 h2,zS3 h3,zR1] at q;and_intros;refine vk (fun h4=>?_) (fun h4=>?_)
  ·and_intros;rw[zO6];refine vk (fun h5=>?_) (fun h5=>?_)
   ·have h4':=zT5 h4;have h5':=zT5 h5;obtain⟨m,rfl⟩:∃m:Nat,n=m:=⟨n.toNat,by omega⟩;have hm':m<Bs.length:=by omega
    obtain⟨ds,hn,en⟩:=lV hm';and_intros;refine ixk rfl rfl (xA (j:=m) (by rw[zQ2,hn]<;>rfl)) ?_;and_intros;refine⟨ds,b,e,rfl,bo ds (zT2 hn),⟨by omega,by omega,by omega,by omega⟩,?_⟩;rw[zU2,en] at q;simp only[h4,h5,zR1] at q;exact q
   ·and_intros;simp only[h4,h5,zR1,zR6] at q;exact q
  ·and_intros;simp only[h4,zR6] at q;exact q
theorem fF {f C:Addr}{fd:FuncData}(F:Fun K "is_part" "is_part" sT f fd)(hm:mg "is_part"=some (.ref f))(hb:Binds K fd ["books","stay","thing"] [])(nb:NbT mg)(CW:Cal P w K mg base "is_whole" 1 zh7):Cal P w K mg base "is_part" 5 (iA C cs):=by
 refine yT F hm hb zi2 (fun as Q h=>?_) (fun cdv A' outer s H E as Q hr h=>?_)
 ·obtain⟨Bs,c,g,d,rfl,_⟩:=h;rfl
 ·obtain⟨Bs,c,g,d,rfl,bad,ndd,dl,q⟩:=h;have nd:=zi2.nd;and_intros;refine⟨_,ndd,rfl,?_⟩;cases ht:sL d with
  |false=>
   and_intros;exact q
  |true=>
   obtain⟨ds,rfl⟩:∃ds,d=.tuple ds:=by cases d<;>first|exact⟨_,rfl⟩|cases ht
   have l1:=dl ds rfl;and_intros;by_cases h3:ds.length=3
   ·refine vT (by simp[h3]) ?_;refine zy ?_;refine xk (wx (wC (kl rfl (by rfl) nb.all (EvL.d (qF ["number"] [none] (.one 0) (lR (zf 2 rfl ⟨_,rfl,l1,?_⟩)))))));have hn:∀d∈ds,d.hasDict=false:=vS (by simpa[PyData.hasDict] using ndd);refine cast (congrArg (fun z=>xK _ _ _ _ _ z _ _) (List.map_id' ds)) ?_;refine xR (l:=ds) (g:=fun d=>d) (fun d=>.bool (yV d)) (fun d hd=>⟨_,rfl,fun _ _ _ _ _ k=>?_⟩) ?_
    ·and_intros;exact⟨hn d hd,k⟩
    rw[zW5,show ds.map (fun d=>PyData.bool (yV d))=(ds.map fun d=>yV d).map .bool by rw[zU8];rfl];refine⟨_,rfl,?_⟩;rw[aX bad h3];and_intros;exact q
   ·refine oP (by simp;omega) ?_;and_intros;exact q
theorem zG7 :zo ["books","stay","thing","day","part"] ["books","stay","thing"] (zc kL):=.o
theorem kq {f C:Addr}{fd:FuncData}(F:Fun K "is_cut" "is_cut" kL f fd)(hm:mg "is_cut"=some (.ref f))(hb:Binds K fd ["books","stay","thing"] [])(nb:NbT mg)(CP:Cal P w K mg base "is_part" 5 (cT C cs))(CN:Cal P w K mg base "is_part" 5 (iA C cs)):Cal P w K mg base "is_cut" 6 (lg C cs):=by
 refine yT F hm hb zG7 (fun as Q h=>?_) (fun cdv A' outer s H E as Q hr h=>?_)
 ·obtain⟨Bs,c,g,d,rfl,_⟩:=h;rfl
 ·obtain⟨Bs,c,g,d,rfl,bo,sb,tb,q⟩:=h;have nd:=zG7.nd;and_intros;refine⟨_,tb.nod,rfl,?_⟩;cases ht:isList d with
  |false=>
   have e:du Bs c g d=false:=by cases d<;>first|rfl|cases ht
   rw[e] at q;and_intros;exact q
  |true=>
   obtain⟨ts,rfl⟩:∃ts,d=.list ts:=by cases d<;>first|exact⟨_,rfl⟩|cases ht
   have q:Q (.dat (.bool (ua Bs c g c ts))):=q;obtain⟨l1,l2⟩:=tb.lst ts rfl;have hn:∀d∈ts,d.hasDict=false:=vS (by simpa[PyData.hasDict] using tb.nod);and_intros;refine wu (.one 4) (wQ ?_);and_intros;refine yh (fun i α=>∃(o4:Option A) (day:Int),α=[some (.dat (yd C cs Bs)),some (.dat (.tuple [.int c,.int g])),some (.dat (.list ts)),some (.dat (.int day)),o4]/\ua Bs c g c ts=ua Bs c g day (ts.drop i)) ⟨none,c,rfl,rfl⟩ ?_ ?_
   ·rintro i d α hd ⟨o4,day,rfl,ec⟩;have hi:=(zP1.mp hd).1;have dm:=zT2 hd;rw[zW9 hi,show ts[i]=d from (zP1.mp hd).2,ua] at ec;refine⟨_,rfl,?_⟩;cases hp:p3? d with
    |none=>
     rw[hp] at ec;rw[ec] at q;refine xk (EvW.t (zc9 (wx (wC (zZ CN (hr.mono (by decide)) (by rfl) ?_)))));refine zd (zf 0 rfl (zd (zf 1 rfl (zd (zf 4 rfl (zp ?_))))));refine⟨Bs,c,g,d,rfl,hp,hn d dm,l2 d dm,⟨_,rfl,?_⟩⟩;and_intros;exact q
    |some p=>
     rw[hp] at ec;have ec:ua Bs c g c ts=(ub Bs c g p&&(decide (p.1=day)&&ua Bs c g p.2.1 (ts.drop (i+1)))):=ec;obtain rfl:=oF hp;refine xk (EvW.t (zc9 (wx (wC (zZ CP (hr.mono (by decide)) (by rfl) ?_)))));refine zd (zf 0 rfl (zd (zf 1 rfl (zd (zf 4 rfl (zp ?_))))));refine⟨Bs,c,g,p,rfl,bo,sb,⟨_,rfl,?_⟩⟩;refine vk (fun h1=>?_) (fun h1=>?_)
     ·have h1:ub Bs c g p=false:=by simpa using h1
      rw[h1,zR6] at ec;rw[ec] at q;and_intros;exact q
     ·have h1:ub Bs c g p=true:=by simpa using h1
      rw[h1,zR1] at ec;unfold pD;and_intros;refine zQ (fun h2=>?_) (fun h2=>?_)
      ·have h2:decide (p.1=day)=false:=by simpa using h2
       rw[h2,zR6] at ec;rw[ec] at q;and_intros;exact q
      ·have h2:decide (p.1=day)=true:=by simpa using h2
       rw[h2,zR1] at ec;and_intros;exact⟨_,_,rfl,ec⟩
   ·rintro α ⟨o4,day,rfl,ec⟩;rw[z06,ua] at ec;rw[ec] at q;and_intros;exact q
end
abbrev bY :Stmt:=top 66
abbrev zv0 :Stmt:=top 69
def zd8 (C:Addr)(cs:Cs):List A->(A->Prop)->Prop:=fun as Q=>∃(Bs:List (List PyData)) (c g:Int) (ps:List P3),as=[.dat (yd C cs Bs),.dat (.tuple [.int c,.int g]),.dat (.list (ps.map pD))]/\yP Bs/\yB c g/\ps.length<=1000/\Q (.dat (.bool (qQ Bs c g c ps)))
section
variable {P:Program}{w:World}{K:PySem.W.Frag}{mg:Str->Option Value}{base:Heap}{cs:Cs}
abbrev nLC :List Str:=["_law_books_here","_law_stay_here","_law_cut","_law_day","_law_begin","_law_end","_law_number"]
theorem zH4 :zo nLC ["_law_books_here","_law_stay_here","_law_cut"] (zc bY):=.o
theorem zc3 {f C:Addr}{fd:FuncData}(F:Fun K "_law_is_cut" "_law_is_cut" bY f fd)(hm:mg "_law_is_cut"=some (.ref f))(hb:Binds K fd ["_law_books_here","_law_stay_here","_law_cut"] [])(nb:NbT mg)(CH:Cal P w K mg base "can_be_had" 4 (lA C cs)):Cal P w K mg base "_law_is_cut" 5 (zd8 C cs):=by
 refine yT F hm hb zH4 (fun as Q h=>?_) (fun cdv A' outer s H E as Q hr h=>?_)
 ·obtain⟨Bs,c,g,ps,rfl,_⟩:=h;rfl
 ·obtain⟨Bs,c,g,ps,rfl,bo,⟨c0,cg,g1,g2⟩,pl,q⟩:=h;have nd:=zH4.nd;and_intros;refine wu (.many [4,5,6]) (wQ ?_);and_intros;refine yh (fun i α=>∃(o4 o5 o6:Option A) (day:Int),α=[some (.dat (yd C cs Bs)),some (.dat (.tuple [.int c,.int g])),some (.dat (.list (ps.map pD))),some (.dat (.int day)),o4,o5,o6]/\c<=day/\qQ Bs c g c ps=qQ Bs c g day (ps.drop i)) ⟨none,none,none,c,rfl,zV4 _,rfl⟩ ?_ ?_
  ·rintro i d α hd ⟨o4,o5,o6,day,rfl,cd,ec⟩;rw[zQ2,zQ9] at hd;obtain⟨⟨b,e,n⟩,hp,rfl⟩:=hd;have hi:=(zP1.mp hp).1;rw[zW9 hi,show ps[i]=(b,e,n) from (zP1.mp hp).2,qQ] at ec;have ec:qQ Bs c g c ps=((decide (c<=b)&&(decide (b<e)&&(decide (e<=g)&&(decide (0<=n)&&(decide (n<Bs.length)&&vX (Bs.getD n.toNat []) b e)))))&&(decide (b=day)&&qQ Bs c g e (ps.drop (i+1)))):=ec;have no:∀x:Bool,qQ Bs c g c ps=false->(x=false->Q (.dat (.bool x))):=fun x h hx=>by rw[hx,<-h];exact q
   refine⟨_,rfl,?_⟩;and_intros;refine vk (fun h1=>?_) (fun h1=>?_)
   ·have h1:decide (b=day)=false:=by simpa using h1
    rw[h1,zR6,zW8] at ec;rw[ec] at q;and_intros;exact q
   have h1:b=day:=by simpa using h1
   rw[zS3 (show c<=b by omega),zS3 h1,zR1,zR1] at ec;and_intros;refine vk (fun h2=>?_) (fun h2=>?_)
   rotate_left
   ·simp only[h2,zR1,zR6,zW8] at ec;rw[ec] at q;and_intros;exact q
   and_intros;refine vk (fun h3=>?_) (fun h3=>?_)
   ·have h3:decide (e<=g)=false:=by simpa using h3
    simp only[h2,h3,zR1,zR6,zW8] at ec;rw[ec] at q;and_intros;exact q
   have h3:decide (e<=g)=true:=by simpa using h3
   and_intros;refine vk (fun h4=>?_) (fun h4=>?_)
   rotate_left
   ·simp only[h2,h3,h4,zR1,zR6,zW8] at ec;rw[ec] at q;and_intros;exact q
   and_intros;rw[zO6];refine zQ (fun h5=>?_) (fun h5=>?_)
   ·have h5:decide (n<(Bs.length:Int))=false:=by simpa using h5
    simp only[h2,h3,h4,h5,zR1,zR6,zW8] at ec;rw[ec] at q;and_intros;exact q
   have h5:decide (n<(Bs.length:Int))=true:=by simpa using h5
   have h2':=zT5 h2;have h3':=zT5 h3;have h4':=zT5 h4;have h5':=zT5 h5;obtain⟨m,rfl⟩:∃m:Nat,n=m:=⟨n.toNat,by omega⟩;have hm':m<Bs.length:=by omega
   obtain⟨ds,hn,en⟩:=lV hm';rw[zU2,en] at ec;and_intros;refine ixk rfl rfl (xA (j:=m) (by rw[zQ2,hn]<;>rfl)) ?_;and_intros;refine⟨ds,b,e,rfl,bo ds (zT2 hn),⟨by omega,by omega,by omega,by omega⟩,?_⟩;and_intros;refine zQ (fun h6=>?_) (fun h6=>?_)
   ·have h6:vX ds b e=false:=by simpa using h6
    simp only[h2,h3,h4,h5,h6,zR1,zR6,zW8] at ec;rw[ec] at q;and_intros;exact q
   have h6:vX ds b e=true:=by simpa using h6
   simp only[h2,h3,h4,h5,h6,zR1] at ec;and_intros;exact⟨_,_,_,_,rfl,by omega,ec⟩
  ·rintro α ⟨o4,o5,o6,day,rfl,cd,ec⟩;rw[zO6,z06,qQ] at ec;rw[ec] at q;and_intros;exact q
end
def cL (C:Addr)(cs:Cs):List A->(A->Prop)->Prop:=fun as Q=>∃(Bs:List (List PyData)) (c g:Int) (d:PyData),as=[.dat (yd C cs Bs),.dat (.tuple [.int c,.int g]),.dat d]/\yP Bs/\yB c g/\ThB d/\Q (.dat (.bool (du Bs c g d)))
theorem zu7 {ds:List PyData}(h:ds.length≠3):p3? (.tuple ds)=none:=by
 unfold p3?;split
 ·rename_i e;cases e;exact absurd rfl h
 ·rfl
section
variable {P:Program}{w:World}{K:PySem.W.Frag}{mg:Str->Option Value}{base:Heap}{cs:Cs}
abbrev nDu :List Str:=["_law_books_here","_law_stay_here","_law_thing","_law_part"]
theorem zG4 :zo nDu ["_law_books_here","_law_stay_here","_law_thing"] (zc zv0):=.o
theorem zg8 {f C:Addr}{fd:FuncData}(F:Fun K "_law_due" "_law_due" zv0 f fd)(hm:mg "_law_due"=some (.ref f))(hb:Binds K fd ["_law_books_here","_law_stay_here","_law_thing"] [])(nb:NbT mg)(CW:Cal P w K mg base "_law_whole" 1 zh7)(CL:Cal P w K mg base "_law_is_cut" 5 (zd8 C cs)):Cal P w K mg base "_law_due" 6 (cL C cs):=by
 refine yT F hm hb zG4 (fun as Q h=>?_) (fun cdv A' outer s H E as Q hr h=>?_)
 ·obtain⟨Bs,c,g,d,rfl,_⟩:=h;rfl
 ·obtain⟨Bs,c,g,d,rfl,bo,sb,tb,q⟩:=h;have nd:=zG4.nd;and_intros;refine⟨_,tb.nod,rfl,?_⟩;cases ht:isList d with
  |false=>
   have e:du Bs c g d=false:=by cases d<;>first|rfl|cases ht
   rw[e] at q;and_intros;exact q
  |true=>
   obtain⟨ts,rfl⟩:∃ts,d=.list ts:=by cases d<;>first|exact⟨_,rfl⟩|cases ht
   have q:Q (.dat (.bool (ua Bs c g c ts))):=q;obtain⟨l1,l2⟩:=tb.lst ts rfl;have hn:∀d∈ts,d.hasDict=false:=vS (by simpa[PyData.hasDict] using tb.nod);obtain⟨c0,cg,g1,g2⟩:=sb;and_intros;refine eqk tb.sh rfl tb.nod rfl ?_;rw[pX];by_cases h0:ts=[]
   ·subst h0;have e:ua Bs c g c []=false:=zR5 (by omega);rw[e] at q;and_intros;exact q
   refine vT (by cases ts with|nil=>exact absurd rfl h0|cons _ _=>rfl) ?_;and_intros;refine wu (.one 3) (wQ ?_);and_intros;refine yh (fun i α=>∃(o3:Option A),α=[some (.dat (yd C cs Bs)),some (.dat (.tuple [.int c,.int g])),some (.dat (.list ts)),o3]/\∀d∈ts.take i,p3? d≠none) ⟨none,rfl,fun d hd=>by simp at hd⟩ ?_ ?_
   ·rintro i d α hd ⟨o3,rfl,ha⟩;have dm:=zT2 hd;have dn:=hn d dm;refine⟨_,rfl,?_⟩;have bad:p3? d=none->Q (.dat (.bool false)):=fun h=>by rw[<-mr (Bs:=Bs) (c:=c) (g:=g) h c dm];exact q
    and_intros;refine⟨_,dn,rfl,?_⟩;cases hu:sL d with
    |false=>
     and_intros;exact bad (by cases d<;>first|rfl|cases hu)
    |true=>
     obtain⟨ds,rfl⟩:∃ds,d=.tuple ds:=by cases d<;>first|exact⟨_,rfl⟩|cases hu
     have l3:=l2 _ dm ds rfl;and_intros;by_cases h3:ds.length=3
     ·refine hV (by simp[h3]) ?_;refine aR (wx (wC (kl rfl (by rfl) nb.all (EvL.d (qF ["_law_one"] [none] (.one 0) (lR (zf 3 rfl ⟨_,rfl,l3,?_⟩)))))));have hn':∀d∈ds,d.hasDict=false:=vS (by simpa[PyData.hasDict] using dn);refine cast (congrArg (fun z=>xK _ _ _ _ _ z _ _) (List.map_id' ds)) ?_;refine xR (l:=ds) (g:=fun d=>d) (fun d=>.bool (yV d)) (fun d hd=>⟨_,rfl,fun _ _ _ _ _ k=>?_⟩) ?_
      ·and_intros;exact⟨hn' d hd,k⟩
      rw[zW5,show ds.map (fun d=>PyData.bool (yV d))=(ds.map fun d=>yV d).map .bool by rw[zU8];rfl];refine⟨_,rfl,?_⟩;cases hp:p3? (.tuple ds) with
      |none=>
       rw[aX hp h3];and_intros;exact bad hp
      |some p=>
       have ep:=oF hp;have e3:(ds.map fun d=>yV d).all id=true:=by
        obtain rfl:ds=[.int p.1,.int p.2.1,.int p.2.2]:=by unfold pD at ep;cases ep;rfl
        rfl
       rw[e3];and_intros;intro d' hd';rw[zW4,hd] at hd';rcases zT1.mp hd' with h|h
       ·exact ha d' h
       ·rw[zP7.mp h,hp];exact fun z=>by cases z
     ·refine ck (by simp;omega) ?_;and_intros;exact bad (zu7 h3)
   ·rintro α ⟨o3,rfl,ha⟩;rw[zW2] at ha;obtain⟨ps,rfl⟩:=zd4 ha;rw[ik] at q;rw[zO6] at l1;and_intros;exact⟨Bs,c,g,ps,rfl,bo,⟨c0,cg,g1,g2⟩,l1,q⟩
end
abbrev jB :Stmt:=top 67
structure PsB (Bs:List (List PyData))(c g:Int)(ps:List P3):Prop where
 all:∀p∈ps,c<=p.1/\p.1<p.2.1/\p.2.1<=g/\0<=p.2.2/\p.2.2<Bs.length
 len:ps.length<=14
structure zp6 (Bs:List (List PyData))(c g:Int)(ps:List P3):Prop extends PsB Bs c g ps where
 ne:ps≠[]
def iq (C:Addr)(cs:Cs):List A->(A->Prop)->Prop:=fun as Q=>∃(Bs:List (List PyData)) (c g:Int),as=[.tape,.dat (yd C cs Bs),.dat (.tuple [.int c,.int g])]/\yP Bs/\0<Bs.length/\Bs.length<=8/\yB c g/\∀ps,zp6 Bs c g ps->Q (.own (ps.map pD))
theorem bh :∀zs:List Int,PyData.canLayAll0 (zs.map PyData.int)=true/\PyData.depthAll (zs.map PyData.int)=0
 |[]=>⟨by simp[PyData.canLayAll0],by simp[PyData.depthAll]⟩
 |z::r=>by
  obtain⟨a,b⟩:=bh r;simp only[zR4,PyData.canLayAll0,PyData.depthAll,PyData.canLay0,PyData.depth,a,b];exact⟨rfl,by omega⟩
theorem zG2 (zs:List Int):SeqAt.shaped (.list (zs.map .int))=true:=by
 obtain⟨a,b⟩:=bh zs;unfold SeqAt.shaped;simp only[PyData.canLay0,PyData.depth,a,b,zR1,zS1];omega
section
variable {P:Program}{w:World}{K:PySem.W.Frag}{mg:Str->Option Value}{base:Heap}{cs:Cs}
abbrev nPt :List Str:=["_law_tape_here","_law_books_here","_law_stay_here","_law_found","_law_day","_law_end","_law_some","_law_number"]
theorem zE4 :zo nPt ["_law_tape_here","_law_books_here","_law_stay_here"] (zc jB):=.o
theorem fv {f C:Addr}{fd:FuncData}(F:Fun K "_law_parts" "_law_parts" jB f fd)(hm:mg "_law_parts"=some (.ref f))(hb:Binds K fd ["_law_tape_here","_law_books_here","_law_stay_here"] [])(nb:NbT mg)(CD:Cal P w K mg base "_law_draw" 1 xt)(CH:Cal P w K mg base "can_be_had" 4 (lA C cs)):Cal P w K mg base "_law_parts" 5 (iq C cs):=by
 refine yT F hm hb zE4 (fun as Q h=>?_) (fun cdv A' outer s H E as Q hr h=>?_)
 ·obtain⟨Bs,c,g,rfl,_⟩:=h;rfl
 ·obtain⟨Bs,c,g,rfl,bo,b0,b8,⟨c0,cg,g1,g2⟩,q⟩:=h;have nd:=zE4.nd;have bg:(1000:Int)<big:=by decide
  refine xh 3 nd (yD (zp ⟨_,rfl,zP4 rfl,?_⟩));and_intros;refine nV zV3 (fun n α=>∃(ps:List P3) (day:Int) (o5 o6 o7:Option A),α=[some .tape,some (.dat (yd C cs Bs)),some (.dat (.tuple [.int c,.int g])),some (.own (ps.map pD)),some (.dat (.int day)),o5,o6,o7]/\n=(g-day).toNat/\c<=day/\day<=g/\PsB Bs c g ps/\(ps.length:Int)<=day-c/\(day=c\/ps≠[])) (g-c).toNat ⟨[],c,none,none,none,rfl,rfl,zV4 _,by omega,⟨fun p hp=>by simp at hp,zQ8 _⟩,by simp,.inl rfl⟩ ?_;rintro n α ⟨ps,day,o5,o6,o7,rfl,rfl,cd,dg,pb,pl,pn⟩;and_intros;by_cases hd:day<g
  ·refine ck (zS3 hd) ?_;and_intros;rename_i v1 h1 g1';have e0:day<day+1+v1:=by omega
   have e1:day+1+v1<=g:=by omega
   generalize day+1+v1=en at e0 e1 ⊢;refine aa 6 ["_law_number","_law_books_here","_law_day","_law_end"] [none,some 1,some 4,some 5] (.one 0) (xQ (by rfl) nb.range ?_);and_intros;rw[zO6];refine⟨by omega,by omega,by rw[zO6,zi];omega,?_⟩;rw[zU2];refine lE (l:=zt 0 Bs.length) (g:=.int) (fun k=>vX (Bs.getD k.toNat []) day en) (fun k=>.int k) (fun k hk=>?_) ?_
   ·obtain⟨m,hm',rfl⟩:∃m:Nat,m<Bs.length/\k=m:=by
     unfold zt at hk;obtain⟨m,hm,rfl⟩:=zT0.mp hk;exact⟨m,z01.mp hm,by omega⟩
    obtain⟨ds,hn,en'⟩:=lV hm';refine⟨_,rfl,fun C s2 H2 fp Q k=>lP ?_,fun _ C s2 H2 fp Q k=>zf 0 rfl k⟩;rw[zU2,en'] at k;and_intros;refine ixk rfl rfl (xA (j:=m) (by rw[zQ2,hn]<;>rfl)) ?_;and_intros;refine⟨ds,day,en,rfl,bo ds (zT2 hn),⟨by omega,by omega,by omega,by omega⟩,?_⟩;and_intros;exact k
   have fl:∀z∈(zt 0 Bs.length).filter (fun k=>vX (Bs.getD k.toNat []) day en),0<=z/\z<Bs.length:=fun z hz=>by
    have hz:=(z47.mp hz).1;unfold zt at hz;obtain⟨m,hm,rfl⟩:=zT0.mp hz;have:=z01.mp hm;omega
   have fn:((zt 0 Bs.length).filter (fun k=>vX (Bs.getD k.toNat []) day en)).length<=8:=zT3 (List.length_filter_le ..) (by rw[zi];exact b8);generalize (zt 0 Bs.length).filter (fun k=>vX (Bs.getD k.toNat []) day en)=zs at fl fn ⊢;rw[zW5];refine dM 6 rfl ?_;refine zP 7 nd (zZ CD (hr.mono (by decide)) (by rfl) (zL 0 rfl (zd (uv (by rfl) nb.len (zf 1 rfl ⟨_,rfl,zp ⟨_,rfl,?_,?_,fun v2 h2 g2'=>?_⟩⟩)))))
   ·rw[zO6];omega
   ·rw[zO6];omega
   rw[zO6] at g2';refine xY (fun α=>∃nn:Int,α=[some .tape,some (.dat (yd C cs Bs)),some (.dat (.tuple [.int c,.int g])),some (.own (ps.map pD)),some (.dat (.int day)),some (.dat (.int en)),some (.dat (.list (zs.map .int))),some (.dat (.int nn))]/\0<=nn/\nn<Bs.length) ?_ ?_
   ·and_intros;refine eqk (zG2 zs) rfl (gB zs) rfl ?_;rw[pX];refine vk (fun hz=>?_) (fun hz=>?_)
    ·have hz:zs≠[]:=fun e=>by rw[e] at hz;cases hz
     have hzl:0<zs.length:=z21.mpr hz;and_intros;refine zQ (fun _=>?_) (fun _=>?_)
     ·refine zP 7 nd (ug hr.one (fun _ _=>rfl) (zf 6 rfl (zZ CD (hr.mono (by decide)) (by rfl) (zL 0 rfl (zd (uv (by rfl) nb.len (zf 6 rfl ⟨_,rfl,zp ⟨_,rfl,?_,?_,fun v3 h3 g3=>?_⟩⟩)))))))
      ·rw[zO6];omega
      ·rw[zO6];omega
      rw[zO6] at g3;have vl:v3.toNat<zs.length:=by omega
      have hat:atI (zs.map PyData.int) v3=some (.int zs[v3.toNat]):=by
       unfold atI ixN;rw[if_pos h3,zO6,if_pos g3];show (zs.map PyData.int)[v3.toNat]?=_;rw[zQ2,zO9 vl];rfl
      have zb:=fl _ (zT9 vl);refine ixk rfl rfl hat (zy (zy ?_));exact⟨_,rfl,zb.1,zb.2⟩
     ·refine zy (zy ?_);exact⟨v2,rfl,h2,g2'⟩
    ·and_intros;exact⟨h2,g2'⟩
   rintro α ⟨nn,rfl,n0,n1⟩;refine yu 3 rfl ?_;and_intros;refine⟨by rw[zO6];have:=pb.len;omega,?_⟩;refine zP 4 nd (zf 5 rfl ?_);refine zy ⟨(g-en).toNat,by omega,ps++[(day,en,nn)],en,some (.dat (.int en)),some (.dat (.list (zs.map .int))),some (.dat (.int nn)),?_,rfl,by omega,e1,⟨fun p hp=>?_,?_⟩,?_,.inr (by simp)⟩
   ·rw[zT4];rfl
   ·rcases zT1.mp hp with h|h
    ·exact pb.all p h
    ·rw[zP7.mp h];exact⟨cd,e0,e1,n0,n1⟩
   ·rw[zQ6,zR9];omega
   ·rw[zQ6,zR9];omega
  ·refine hV (zR5 hd) ?_;and_intros;exact q ps ⟨pb,pn.resolve_left (by omega)⟩
end
abbrev zu4 :Stmt:=top 68
structure lr (d:PyData):Prop where
 ni:zH sizeLine d
 th:ThB d
theorem zH.str {x:Str}(h1:PyData.strOk x=true)(h2:(PyData.str x).showable=true)(h3:(PyData.str x).shown.length<=2000):zH 2000 (.str x):=⟨h2,rfl,zQ8 _,h3,by simp only[PyData.canLay0];exact h1⟩
structure Flt (d:PyData):Prop where
 ni:zH 2000 d
 dp:d.depth=0
structure Prt (d:PyData):Prop where
 ni:zH 9000 d
 dp:d.depth<=1
 ln:∀ds,d=.tuple ds->ds.length<=1000
theorem ip {i:Int}(h0:-big<i)(h1:i<big):Flt (.int i):=⟨zH.int h0 h1,by simp[PyData.depth]⟩
theorem uJ :Flt .none:=⟨zH.none,by simp[PyData.depth]⟩
theorem aE (b:Bool):Flt (.bool b):=⟨zH.bool b,by simp[PyData.depth]⟩
theorem sN {x:Str}(h1:PyData.strOk x=true)(h2:(PyData.str x).showable=true)(h3:(PyData.str x).shown.length<=2000):Flt (.str x):=⟨zH.str h1 h2 h3,by simp[PyData.depth]⟩
theorem Flt.prt {d:PyData}(h:Flt d)(hd:∀ds,d≠.tuple ds):Prt d:=⟨h.ni.mono (by decide),by rw[h.dp];decide,fun ds e=>absurd e (hd ds)⟩
theorem zG1 {ds:List PyData}(h:∀d∈ds,Flt d):ye 2000 ds/\PyData.depthAll ds=0:=by
 refine⟨⟨fun d hd=>(h d hd).ni,fun d hd=>by rw[(h d hd).dp];decide⟩,?_⟩
 induction ds with
 |nil=>simp[PyData.depthAll]
 |cons d r ih=>
  have h1:=(h d zQ1).dp;have h2:=ih fun e he=>h e (zP5 _ he);simp only[PyData.depthAll,h1,h2];omega
theorem uC {ds:List PyData}(h:∀d∈ds,Flt d)(hl:ds.length<=4):Prt (.tuple ds):=by
 obtain⟨a,b⟩:=zG1 h;have:ds.length*(2000+2)<=4*(2000+2):=zX2 _ hl;exact⟨zH.tuple a (by omega),by simp only[PyData.depth,b];omega,fun e he=>by cases he;omega⟩
theorem zj0 {ds:List PyData}(h:∀d∈ds,Flt d)(hl:ds.length<=4):Prt (.list ds):=by
 obtain⟨a,b⟩:=zG1 h;have:ds.length*(2000+2)<=4*(2000+2):=zX2 _ hl;exact⟨zH.list a (by omega),by simp only[PyData.depth,b];omega,fun e he=>by cases he⟩
theorem zb6 {n:Nat}:∀{ds:List PyData},(∀d∈ds,d.depth<=n)->PyData.depthAll ds<=n
 |[],_=>by simp[PyData.depthAll]
 |d::r,h=>by
  have h1:=h d zQ1;have h2:=zb6 (ds:=r) fun e he=>h e (zP5 _ he);simp only[PyData.depthAll];omega
theorem zt6 {ds:List PyData}(h:∀d∈ds,Prt d)(hl:ds.length<=40):zH 400000 (.list ds)/\zH 400000 (.tuple ds)/\PyData.depthAll ds<=1:=by
 have na:ye 9000 ds:=⟨fun d hd=>(h d hd).ni,fun d hd=>by have:=(h d hd).dp;omega⟩;have:ds.length*(9000+2)<=40*(9000+2):=zX2 _ hl;exact⟨zH.list na (by omega),zH.tuple na (by omega),zb6 fun d hd=>(h d hd).dp⟩
theorem vj {ds:List PyData}(h:∀d∈ds,Prt d)(hl:ds.length<=40):lr (.list ds):=by
 obtain⟨a,b,c⟩:=zt6 h hl;have h6:400000<=sizeLine:=by decide
 exact⟨a.mono h6,a.nod,a.shaped,fun ts e=>by cases e;exact⟨by omega,fun t ht=>(h t ht).ln⟩⟩
theorem zA3 {ds:List PyData}(h:∀d∈ds,Prt d)(hl:ds.length<=40):lr (.tuple ds):=by
 obtain⟨a,b,c⟩:=zt6 h hl;have h6:400000<=sizeLine:=by decide
 exact⟨b.mono h6,b.nod,b.shaped,fun ts e=>by cases e⟩
theorem cA {d:PyData}(h:Flt d)(hd:∀ds,d≠.list ds):lr d:=⟨h.ni.mono (by decide),h.ni.nod,h.ni.shaped,fun ts e=>absurd e (hd ts)⟩
theorem zI7 {ds:List PyData}(h:∀d∈ds,Prt d)(hl:ds.length<=40):lr (.tuple [.list ds])/\lr (.list [.list ds]):=by
 obtain⟨a,b,c⟩:=zt6 h hl;have na:ye 400000 [PyData.list ds]:=⟨fun d hd=>by rw[zP7.mp hd];exact a,fun d hd=>by rw[zP7.mp hd];simp only[PyData.depth];omega⟩;have h6:400005<=sizeLine:=by decide
 have t:=zH.tuple (m:=400005) na (by rw[zR9];decide);have l:=zH.list (m:=400005) na (by rw[zR9];decide);refine⟨⟨t.mono h6,t.nod,t.shaped,fun ts e=>by cases e⟩,⟨l.mono h6,l.nod,l.shaped,fun ts e=>?_⟩⟩;cases e;exact⟨zP4 rfl,fun t ht ds' e=>by rw[zP7.mp ht] at e;cases e⟩
section
variable {Bs:List (List PyData)}{c g:Int}{ps:List P3}
theorem yZ {i:Int}(h0:-10<=i)(h1:i<=2000000):Flt (.int i):=by
 have a:-big<(-10:Int):=by decide
 have b:(2000000:Int)<big:=by decide
 exact ip (by omega) (by omega)
theorem kA {a b n:Int}(ha:-10<=a/\a<=2000000)(hb:-10<=b/\b<=2000000)(hn:-10<=n/\n<=2000000):∀d∈[PyData.int a,.int b,.int n],Flt d:=fun d hd=>by
 simp only[zP2,zQ3,zS4] at hd;rcases hd with rfl|rfl|rfl
 ·exact yZ ha.1 ha.2
 ·exact yZ hb.1 hb.2
 ·exact yZ hn.1 hn.2
theorem bK (sb:yB c g)(bl:Bs.length<=8)(h:PsB Bs c g ps):∀d∈ps.map pD,Prt d:=fun d hd=>by
 obtain⟨p,hp,rfl⟩:=zT0.mp hd;obtain⟨h1,h2,h3,h4,h5⟩:=h.all p hp;obtain⟨c0,cg,g1,g2⟩:=sb;exact uC (kA ⟨by omega,by omega⟩ ⟨by omega,by omega⟩ ⟨by omega,by omega⟩) (zP4 rfl)
end
def zs9 (C:Addr)(cs:Cs):List A->(A->Prop)->Prop:=fun as Q=>∃(Bs:List (List PyData)) (c g:Int) (ps:List P3),as=[.tape,.dat (yd C cs Bs),.dat (.tuple [.int c,.int g]),.dat (.list (ps.map pD))]/\Bs.length<=8/\yB c g/\zp6 Bs c g ps/\∀d,lr d->Q (.dat d)
theorem cX {ds:List PyData}{l u:Option Int}{d:PyData}(h:d∈cutD ds l u):d∈ds:=List.mem_of_mem_drop (z59 h)
theorem bA (ds:List PyData)(l u:Option Int):(cutD ds l u).length<=ds.length:=by
 unfold L2.cutD;rw[zS0,zW1];omega
section
variable {P:Program}{w:World}{K:PySem.W.Frag}{mg:Str->Option Value}{base:Heap}{cs:Cs}
abbrev nSp :List Str:=["_law_tape_here","_law_books_here","_law_stay_here","_law_cut","_law_way","_law_at","_law_begin","_law_end","_law_number","_law_part","_law_parts_here"]
theorem zG9 :zo nSp ["_law_tape_here","_law_books_here","_law_stay_here","_law_cut"] (zc zu4):=.o
abbrev stS (C:Addr)(cs:Cs)(Bs:List (List PyData))(c g:Int)(ds:List PyData)(k v b e n:Int)(o9 o10:Option A):Ev:=[some .tape,some (.dat (yd C cs Bs)),some (.dat (.tuple [.int c,.int g])),some (.dat (.list ds)),some (.dat (.int k)),some (.dat (.int v)),some (.dat (.int b)),some (.dat (.int e)),some (.dat (.int n)),o9,o10]
theorem zl0 {f C:Addr}{fd:FuncData}(F:Fun K "_law_spoilt" "_law_spoilt" zu4 f fd)(hm:mg "_law_spoilt"=some (.ref f))(hb:Binds K fd ["_law_tape_here","_law_books_here","_law_stay_here","_law_cut"] [])(nb:NbT mg)(CD:Cal P w K mg base "_law_draw" 1 xt):Cal P w K mg base "_law_spoilt" 2 (zs9 C cs):=by
 refine yT F hm hb zG9 (fun as Q h=>?_) (fun cdv A' outer s H E as Q hr h=>?_)
 ·obtain⟨Bs,c,g,ps,rfl,_⟩:=h;rfl
 ·obtain⟨Bs,c,g,ps,rfl,b8,sb,po,q⟩:=h;have nd:=zG9.nd;have bg:(1000:Int)<big:=by decide
  have pp:=bK sb b8 po.toPsB;have p0:0<ps.length:=z21.mpr po.ne;have p14:=po.len;obtain⟨c0,cg,g1,g2⟩:=sb;refine zP 4 nd (zZ CD (hr.mono (by decide)) (by rfl) (zL 0 rfl (zd (zT (zp ⟨12,rfl,by decide,by decide,fun k k0 k1=>?_⟩)))));refine zP 5 nd (zZ CD (hr.mono (by decide)) (by rfl) (zL 0 rfl (zd (uv (by rfl) nb.len (zf 3 rfl ⟨_,rfl,zp ⟨_,rfl,?_,?_,fun v v0 v1=>?_⟩⟩)))))
  ·rw[zO6];omega
  ·rw[zO6];omega
  rw[zO6] at v1;have vl:v.toNat<ps.length:=by omega
  have hat:atI (ps.map pD) v=some (pD ps[v.toNat]):=by
   unfold atI ixN;rw[if_pos v0,zO6,if_pos v1];show (ps.map pD)[v.toNat]?=_;rw[zQ2,zO9 vl];rfl
  obtain⟨hb1,hb2,hb3,hb4,hb5⟩:=po.all _ (zT9 vl);generalize ps[v.toNat]=p at hat hb1 hb2 hb3 hb4 hb5;obtain⟨b,e,n⟩:=p;have dl:(ps.map pD).length<=14:=by rw[zO6];exact p14
  have at2:Prt (pD (b,e,n)):=uC (kA ⟨by omega,by omega⟩ ⟨by omega,by omega⟩ ⟨by omega,by omega⟩) (zP4 rfl);generalize ps.map pD=ds at pp hat dl;have hb1:c<=b:=hb1;have hb2:b<e:=hb2;have hb3:e<=g:=hb3;have hb4:0<=n:=hb4;have hb5:n<Bs.length:=hb5;refine zl3 (pat:=.many [6,7,8]) (wJ (n:=3) (K:=K) rfl rfl (yM (zK (i:=6) nd rfl (Or.inl rfl)) (yM (zK (i:=7) nd rfl (Or.inl rfl)) (yM (zK (i:=8) nd rfl (Or.inl rfl)) vR)))) (ug hr.one (fun _ _=>rfl) (zf 3 rfl (zf 5 rfl (ixk rfl rfl hat ⟨_,rfl,?_⟩))));have cp:∀l u,∀d∈cutD ds l u,Prt d:=fun l u d hd=>pp d (cX hd);have cl:∀l u,(cutD ds l u).length<=14:=fun l u=>zT3 (bA ds l u) dl;have cat:∀{xs ys:List PyData},(∀d∈xs,Prt d)->(∀d∈ys,Prt d)->∀d∈xs++ys,Prt d:=fun h1 h2 d hd=>(zT1.mp hd).elim (h1 d) (h2 d);have one:∀{x:PyData},Prt x->∀d∈[x],Prt d:=fun h d hd=>by rw[zP7.mp hd];exact h
  have w1:=cl none (some v);have w2:=cl (some (v+1)) none;have w3:=cl (some v) none;refine xk (ba (zf 4 rfl (zT ⟨_,_,rfl,rfl,?_⟩)));refine zQ (fun hk=>?_) (fun hk=>zy ?_)
  ·have hk:=zT5 hk;refine xU (ug hr.one (fun _ _=>rfl) (EvL.d (yD ?_)));refine zd (EvL.d (xr ?_));refine EvL.d (sf (zf 3 rfl (vb (vg (zf 5 rfl ?_)))));refine⟨_,rfl,_,rfl,?_⟩;refine EvL.d (sf (zf 3 rfl (vg (xx (zf 5 rfl (zT ?_))))));refine⟨_,_,rfl,rfl,_,rfl,vb ⟨_,rfl,?_⟩⟩;refine⟨_,_,rfl,rfl,by omega,?_⟩;refine zd (EvL.d (xr ?_));refine EvL.d (xr ?_);refine EvL.d (sf (zf 3 rfl (vb (vg (zf 5 rfl ?_)))));refine⟨_,rfl,_,rfl,?_⟩;refine EvL.d (yD (zd (ug hr.one (fun _ _=>rfl) (zf 3 rfl (zf 5 rfl (ixk rfl rfl hat (zp ⟨_,rfl,zP4 rfl,?_⟩)))))));refine⟨_,_,rfl,rfl,by simp only[zR9];omega,?_⟩;refine EvL.d (sf (zf 3 rfl (vg (zf 5 rfl ?_))));refine⟨_,rfl,vb ⟨_,rfl,?_⟩⟩;refine⟨_,_,rfl,rfl,by simp only[zQ6,zR9];omega,?_⟩;refine zd (EvL.d (zo9 (zf 3 rfl ⟨_,rfl,?_⟩)));refine zp ⟨_,rfl,zP4 rfl,?_⟩;refine zf 4 rfl ?_;refine tV lr rfl k0 hk ⟨vj (cat (cp _ _) (cp _ _)) (by simp only[zQ6];omega),vj (cat (cat (cp _ _) (one at2)) (cp _ _)) (by simp only[zQ6,zR9];omega),vj (fun d hd=>pp d (List.mem_reverse.mp hd)) (by rw[zU1];omega),trivial⟩ (fun d hd=>q d hd)
  ·show SvS _ (stS C cs Bs c g ds k v b e n none none) _ _;refine xY (fun α=>∃(x:PyData) (o10:Option A),α=stS C cs Bs c g ds k v b e n (some (.dat x)) o10/\Prt x) ?_ ?_
   ·have fb:Flt (.int b):=yZ (by omega) (by omega);have fe:Flt (.int e):=yZ (by omega) (by omega);have fn:Flt (.int n):=yZ (by omega) (by omega);have tr:∀{x y z:PyData},Flt x->Flt y->Flt z->Prt (.tuple [x,y,z]):=fun h1 h2 h3=>uC (fun d hd=>by
     simp only[zP2,zQ3,zS4] at hd;rcases hd with rfl|rfl|rfl<;>assumption) (zP4 rfl)
    and_intros;refine zQ (fun _=>?_) (fun _=>?_)
    ·refine zP 9 nd (yQ (zd (zf 6 rfl (zd (zf 7 rfl (zd ?_))))));and_intros;refine rp (r:=10 ^ 60) ⟨by decide,by decide,by decide⟩ rfl ?_;and_intros;rename_i v2 h2 g2';refine tV Flt rfl h2 g2' ⟨yZ (by decide) (by decide),yZ (by omega) (by rw[zO6];omega),aE _,uJ,ip (by decide) (by decide),trivial⟩ (fun d hd=>?_);refine zp ⟨_,rfl,zP4 rfl,?_⟩
     repeat refine zy ?_
     exact⟨_,none,rfl,tr fb fe hd⟩
    and_intros;refine zQ (fun _=>?_) (fun _=>?_)
    ·and_intros;rename_i v2 h2 g2';refine tV Prt rfl h2 g2' ⟨zj0 (kA ⟨by omega,by omega⟩ ⟨by omega,by omega⟩ ⟨by omega,by omega⟩) (zP4 rfl),uC (fun d hd=>by
      simp only[zP2,zQ3,zS4] at hd;rcases hd with rfl|rfl<;>assumption) (zP4 rfl),uC (fun d hd=>by
      simp only[zP2,zQ3,zS4] at hd;rcases hd with rfl|rfl|rfl|rfl
      ·exact fb
      ·exact fe
      ·exact fn
      ·exact yZ (by decide) (by decide)) (zP4 rfl),uJ.prt (fun _ h=>by cases h),(sN (by decide +kernel) (by decide +kernel) (by decide +kernel)).prt (fun _ h=>by cases h),trivial⟩ (fun d hd=>?_)
     repeat refine zy ?_
     exact⟨d,_,rfl,hd⟩
    and_intros;refine zQ (fun _=>?_) (fun _=>?_)
    ·and_intros;exact⟨_,none,rfl,tr fb (yZ (by omega) (by omega)) fn⟩
    and_intros;refine zQ (fun _=>?_) (fun _=>?_)
    ·and_intros;exact⟨_,none,rfl,tr (yZ (by omega) (by omega)) fe fn⟩
    and_intros;refine zQ (fun _=>?_) (fun _=>?_)
    ·and_intros;exact⟨_,none,rfl,tr fe fb fn⟩
    and_intros;refine zQ (fun _=>?_) (fun _=>?_)
    ·refine zP 10 nd (EvL.d (yD ?_));refine zd (yQ (zd (zf 6 rfl (zd (qk (zd (zf 8 rfl (zp ⟨_,rfl,zP4 rfl,?_⟩))))))));refine zd (yQ (zd (yc (zd (zf 7 rfl (zd (zf 8 rfl (zp ⟨_,rfl,zP4 rfl,?_⟩))))))));refine zd (yQ (zd (zf 6 rfl (zd (zf 7 rfl (zd (zm0 (by rfl) nb.str (zf 8 rfl ⟨n,rfl,?_,zp ⟨_,rfl,zP4 rfl,?_⟩⟩))))))))
     ·have:n=0\/n=1\/n=2\/n=3\/n=4\/n=5\/n=6\/n=7:=by omega
      rcases this with rfl|rfl|rfl|rfl|rfl|rfl|rfl|rfl<;>decide
     refine zp ⟨_,rfl,zP4 rfl,?_⟩;have fs:Flt (.str (toString n)):=by
      have:n=0\/n=1\/n=2\/n=3\/n=4\/n=5\/n=6\/n=7:=by omega
      rcases this with rfl|rfl|rfl|rfl|rfl|rfl|rfl|rfl<;>exact sN (by decide +kernel) (by decide +kernel) (by decide +kernel)
     refine zP 9 nd (ug hr.one (fun _ _=>rfl) (zf 10 rfl (zZ CD (hr.mono (by decide)) (by rfl) (zL 0 rfl (zd (zT (zp ⟨3,rfl,by decide,by decide,fun v2 h2 g2'=>?_⟩)))))));refine tV Prt rfl h2 g2' ⟨tr fb uJ fn,tr (sN (by decide +kernel) (by decide +kernel) (by decide +kernel)) fe fn,tr fb fe fs,trivial⟩ (fun d hd=>?_)
     repeat refine zy ?_
     exact⟨d,_,rfl,hd⟩
    and_intros;refine zQ (fun _=>?_) (fun _=>?_)
    ·refine xU (ug hr.one (fun _ _=>rfl) (EvL.d (yD (zd (zq2 (by rfl) nb.tuple (zf 3 rfl ⟨_,rfl,?_⟩))))));and_intros;rename_i v2 h2 g2';obtain⟨ti,li⟩:=zI7 pp (show ds.length<=40 by omega);refine tV lr rfl h2 g2' ⟨zA3 pp (by omega),cA uJ (fun _ h=>by cases h),vj (fun d hd=>by cases hd) (zQ8 _),cA (sN (by decide +kernel) (by decide +kernel) (by decide +kernel)) (fun _ h=>by cases h),ti,li,trivial⟩ (fun d hd=>q d hd)
    ·refine xU (EvL.d ?_);and_intros;exact q _ (vj pp (by omega))
   ·rintro α ⟨x,o10,rfl,px⟩;refine xU (EvL.d (xr ?_));refine EvL.d (xr ?_);refine EvL.d (sf (zf 3 rfl (vb (vg (zf 5 rfl ?_)))));refine⟨_,rfl,_,rfl,?_⟩;refine EvL.d (yD (zd (zf 9 rfl (zp ⟨_,rfl,zP4 rfl,?_⟩))));refine⟨_,_,rfl,rfl,by simp only[zR9];omega,?_⟩;refine EvL.d (sf (zf 3 rfl (vg (xx (zf 5 rfl (zT ?_))))));refine⟨_,_,rfl,rfl,_,rfl,vb ⟨_,rfl,?_⟩⟩;refine⟨_,_,rfl,rfl,by simp only[zQ6,zR9];omega,?_⟩;exact q _ (vj (cat (cat (cp _ _) (one px)) (cp _ _)) (by simp only[zQ6,zR9];omega))
end
abbrev oB :Stmt:=top 70
def p3 (p:Part):P3:=(p.1,p.2.1,(p.2.2:Int))
theorem zJ3 (ps:List Part):(ps.map p3).map pD=ps.map xI:=by rw[zU8]<;>rfl
theorem zi1 {co:Co}{N:Nat}{a b z:Int}{ps:List Part}(h:Cut co N a b z ps):∀p∈ps,a<=p.1/\p.1<p.2.1/\p.2.1<=b/\p.2.2<N:=by
 induction h with
 |nil a=>intro p hp;cases hp
 |@cons a e b x y n ps h1 h2 h3 h ih=>
  intro p hp;have hle:=h.le;rcases zP2.mp hp with rfl|hp
  ·exact⟨zV4 _,h1,hle,h2⟩
  ·obtain⟨i1,i2,i3,i4⟩:=ih p hp;exact⟨by omega,i2,i3,i4⟩
theorem zC4 {Bs:List (List PyData)}{c g x:Int}{ps:List Part}(sb:yB c g)(h:Cut (coB Bs) Bs.length c g x ps):zp6 Bs c g (ps.map p3):=by
 obtain⟨c0,cg,g1,g2⟩:=sb;refine⟨⟨fun p hp=>?_,?_⟩,fun e=>?_⟩
 ·obtain⟨q,hq,rfl⟩:=zT0.mp hp;obtain⟨i1,i2,i3,i4⟩:=zi1 h q hq;exact⟨i1,i2,i3,by show (0:Int)<=(q.2.2:Int);omega,by show (q.2.2:Int)<_;omega⟩
 ·rw[zO6];have:=h.len;omega
 ·rw[z63] at e;subst e;cases h;omega
abbrev NmL :List Str:=["_law_script","_law_tape_here","_law_days","_law_base","_law_books_here","_law_turn","_law_stay_here","_law_cut","_law_told","_law_by","_law_thing","_law_kept"]
theorem zG3 :zo NmL ["_law_script"] (zc oB):=.o
section
variable {P:Program}{w:World}{K:PySem.W.Frag}{mg:Str->Option Value}{base:Heap}{cs:Cs}
abbrev stL (C:Addr)(cs:Cs)(dy b:Int)(Bs:List (List PyData))(r:Nat->Option A):Ev:=[none,some .tape,some (.dat (.int dy)),some (.dat (.int b)),some (.dat (yd C cs Bs)),r 0,r 1,r 2,r 3,r 4,r 5,r 6]
theorem zx6 {f fT C:Addr}{fd fdT:FuncData}(F:Fun K "law" "law" oB f fd)(nb:NbT mg)(GT:zC P w K mg base CX0 1 fT fdT ["_law_script"] (lM K))(mT:mg "_law_tape"=some (.ref fT))(kT:PySem.W.keepIn K (.ref fT)=true)(bT:Binds K fdT ["_law_script"] [])
  (CD:Cal P w K mg base "_law_draw" 1 xt) (CB:Cal P w K mg base "_law_books" 11 (iE C cs)) (CBe:Cal P w K mg base "best" 9 (bH C cs)) (CS:Cal P w K mg base "_law_stay" 2 cI) (CP:Cal P w K mg base "_law_parts" 5 (iq C cs)) (CI:Cal P w K mg base "is_cut" 6 (lg C cs)) (CDu:Cal P w K mg base "_law_due" 6 (cL C cs)) (CSp:Cal P w K mg base "_law_spoilt" 2 (zs9 C cs)):
  zC P w K mg base CX0 13 f fd ["_law_script"] (nL K):=by
 refine zM1 (k:=11) F zG3 GT mT kT bT rfl rfl (Or.inl rfl) (Or.inl rfl) (fun cdv A' outer s H E hr=>?_);have nd:=zG3.nd;and_intros;refine⟨⟨by decide,by decide +kernel⟩,?_⟩;rename_i v1 a1 b1 v2 a2 b2 v3 a3 b3;refine tV (fun d=>∃dy:Int,d=.int dy/\3<=dy/\dy<=14) rfl (by omega) (by show _<(2:Int);omega) ⟨⟨_,rfl,by omega,by omega⟩,⟨_,rfl,by omega,by omega⟩,trivial⟩ ?_;rintro _ ⟨dy,rfl,d0,d1⟩;and_intros;refine tV (fun d=>∃b:Int,d=.int b/\0<=b/\b<=999980) rfl (by assumption) (by assumption) ⟨⟨_,rfl,by omega,by omega⟩,⟨_,rfl,by omega,by omega⟩,⟨_,rfl,by omega,by omega⟩,trivial⟩ ?_;rintro _ ⟨b,rfl,b0,b1⟩;and_intros;refine⟨b,dy,rfl,⟨b0,b1,by omega,by omega⟩,fun Bs bo bl0 bl1 dl0=>?_⟩;and_intros;refine wu (.one 5) (xQ (by rfl) nb.range ?_);and_intros;refine⟨by decide,by decide,?_⟩;refine yh (fun i α=>∃r:Nat->Option A,α=stL C cs dy b Bs r) ⟨fun _=>none,rfl⟩ ?_ ?_
 ·rintro i d α hd ⟨r,rfl⟩;refine⟨_,rfl,?_⟩;and_intros;refine⟨b,dy,rfl,⟨b0,b1,by omega,by omega⟩,fun c g h1 h2 h3=>?_⟩;have sg:yB c g:=⟨by omega,by omega,by omega,by omega⟩;and_intros;refine⟨Bs,c,g,rfl,bo,by omega,by omega,sg,fun ps po=>?_⟩;and_intros;refine⟨Bs,c,g,rfl,bo,by omega,sg,fun S=>?_⟩;refine xY (fun α=>∃(ps:List P3) (o5 o8:Option A),zp6 Bs c g ps/\α=[none,some .tape,some (.dat (.int dy)),some (.dat (.int b)),some (.dat (yd C cs Bs)),o5,some (.dat (.tuple [.int c,.int g])),some (.dat (.list (ps.map pD))),o8,r 4,r 5,r 6]) ?_ ?_
  ·rcases lZ bo sg with ⟨x,ps2,pp2,hw⟩|⟨ds,hw⟩
   ·rw[hw.eq];and_intros;refine zQ (fun _=>?_) (fun _=>?_)
    ·and_intros;refine⟨ps2.map p3,some (.dat d),some (.dat (.tuple [.str "had",.int x,.list (ps2.map xI),.list (pp2.map .int)])),zC4 sg hw.cut,?_⟩;rw[zJ3];rfl
    ·and_intros;exact⟨ps,some (.dat d),_,po,rfl⟩
   ·rw[hw.eq];and_intros;exact⟨ps,some (.dat d),_,po,rfl⟩
  rintro α ⟨ps,o5,o8,po,rfl⟩;have pp:=bK sg (by omega) po.toPsB;have pl:=po.len;have th:=vj pp (by rw[zO6];omega);and_intros;refine⟨Bs,c,g,_,rfl,bo,sg,th.th,?_⟩;and_intros;refine⟨Bs,c,g,_,rfl,bo,sg,th.th,?_⟩;and_intros;have self:∀x:Bool,(!(PyData.eqv (.bool x) (.bool x)))=false:=fun x=>by cases x<;>rfl
  refine vT (self _) ?_;and_intros;refine⟨Bs,c,g,ps,rfl,by omega,sg,po,fun th tk=>?_⟩;and_intros;refine⟨tk.ni,?_⟩;and_intros;refine⟨Bs,c,g,_,rfl,bo,sg,tk.th,?_⟩;and_intros;refine⟨Bs,c,g,_,rfl,bo,sg,tk.th,?_⟩;and_intros;refine hV (self _) ?_;and_intros;refine⟨tk.ni,?_⟩;and_intros;refine vT (by rw[zS3 rfl];rfl) ?_;refine zy (zy ?_);exact⟨fun i=>[o5,some (.dat (.tuple [.int c,.int g])),some (.dat (.list (ps.map pD))),o8,some (.dat (.bool (du Bs c g th))),some (.dat th),some (.dat (.str th.shown))].getD i none,rfl⟩
 ·rintro α ⟨r,rfl⟩;and_intros;rfl
end
def FnF (K:PySem.W.Frag)(f:Addr)(nm ql:Str)(st:Stmt):Prop:=∃fd,Fun K nm ql st f fd
theorem mkF {K:PySem.W.Frag}{f:Addr}{nm ql:Str}{st:Stmt}{oc kV dc pm cd ct:Value}{od an:Option Addr}{sl:Array (Option Value)}(l:K.lookup f=some ⟨oc,od,.func (PySem.W.fnOf nm ql (zR st) (zA st) (zc st) .none kV dc pm an cd ct),sl⟩)(c:PySem.W.codeIn K cd ql=true)(k:PySem.W.keepIn K (.ref f)=true):FnF K f nm ql st:=⟨_,jS l c k⟩
def FnG (K:PySem.W.Frag)(f:Addr)(nm:Str)(st:Stmt):Prop:=PySem.W.nsIn K mainGlobals nm=some (some (.ref f))/\FnF K f nm nm st
theorem mkG {K:PySem.W.Frag}{f:Addr}{nm:Str}{st:Stmt}{oc kV dc pm cd ct:Value}{od an:Option Addr}{sl:Array (Option Value)}(a:PySem.W.nsIn K mainGlobals nm=some (some (.ref f)))(l:K.lookup f=some ⟨oc,od,.func (PySem.W.fnOf nm nm (zR st) (zA st) (zc st) .none kV dc pm an cd ct),sl⟩)(c:PySem.W.codeIn K cd nm=true)(k:PySem.W.keepIn K (.ref f)=true):FnG K f nm st:=⟨a,mkF l c k⟩
theorem FnF.get {K:PySem.W.Frag}{f:Addr}{nm ql:Str}{st:Stmt}(ps:List Str)(h:FnF K f nm ql st)(hb:∀(kV doc pm:Value) (an:Option Addr) (cdv ct:Value) (us:List Value),us.length=ps.length->bindArgs (PySem.W.fnOf nm ql (zR st) (zA st) (zc st) .none kV doc pm an cdv ct) ⟨us,[]⟩=pure (ps.zip us)):∃fd,Fun K nm ql st f fd/\Binds K fd ps []:=by
 obtain⟨fd,F⟩:=h;exact⟨fd,F,F.binds hb⟩
theorem FnG.get {K:PySem.W.Frag}{h0:Heap}{mg:Str->Option Value}{f:Addr}{nm:Str}{st:Stmt}(ps:List Str)(h:FnG K f nm st)(X:K.In h0)(G:h0.Ns mainGlobals mg)(hb:∀(kV doc pm:Value) (an:Option Addr) (cdv ct:Value) (us:List Value),us.length=ps.length->bindArgs (PySem.W.fnOf nm nm (zR st) (zA st) (zc st) .none kV doc pm an cdv ct) ⟨us,[]⟩=pure (ps.zip us)):∃fd,mg nm=some (.ref f)/\Fun K nm nm st f fd/\Binds K fd ps []:=by
 obtain⟨a,fd,F⟩:=h;exact⟨fd,zT8 X G a,F,F.binds hb⟩
theorem mkR {K:PySem.W.Frag}{C gi gt ge gw:Addr}(pg:PySem.W.plainGet K C Str.empty=true)(hd:PySem.W.hasDictIn K C=true)(po:PySem.W.plainOver K C=true)(sa:PySem.W.findIn K (.ref C) "__setattr__"=some (some (.builtin "object.__setattr__")))(n1:PySem.W.findIn K (.ref C) "first"=some none)(n2:PySem.W.findIn K (.ref C) "last"=some none)(n3:PySem.W.findIn K (.ref C) "worth"=some none)(mk:PySem.W.makesIn K C=true)(f1:PySem.W.findIn K (.ref C) "__init__"=some (some (.ref gi)))(i1:PySem.W.isFn K (.ref gi)=true)(kc:PySem.W.keepIn K (.ref C)=true)(f2:PySem.W.findIn K (.ref C) "told"=some (some (.ref gt)))(i2:PySem.W.isFn K (.ref gt)=true)(k2:PySem.W.keepIn K (.ref gt)=true)(f3:PySem.W.findIn K (.ref C) "tells"=some (some (.ref ge)))(i3:PySem.W.isFn K (.ref ge)=true)(k3:PySem.W.keepIn K (.ref ge)=true)(f4:PySem.W.findIn K (.ref C) "word"=some (some (.ref gw)))(i4:PySem.W.isFn K (.ref gw)=true)(k4:PySem.W.keepIn K (.ref gw)=true):wU K C gi gt ge gw:=⟨⟨pg,hd,po,sa⟩,n1,n2,n3,⟨mk,f1,i1,kc⟩,⟨f2,i2,k2⟩,⟨f3,i3,k3⟩,⟨f4,i4,k4⟩⟩
theorem fh {K:PySem.W.Frag}{dT:Addr}{oc kV doc pm cdv ct:Value}{od an:Option Addr}{n:Nat}{sl:Array (Option Value)}(lk:K.lookup dT=some ⟨oc,od,.seq #[.none] n,sl⟩):
  Binds K (PySem.W.fnOf "__init__" "Book.__init__" (zR xG) (zA xG) (zc xG) (.ref dT) kV doc pm an cdv ct) ["self","rules"] [.none]:=fun s us hk hl=>by
 match us,(show us.length=1 by rw[zQ6] at hl;simpa using hl) with
 |[u],_=>exact BindsTo.of_defaults (T:=dT) rfl (hk _ _ lk) rfl rfl rfl
theorem gn {K:PySem.W.Frag}{dT:Addr}{oc kV doc pm cdv ct:Value}{od an:Option Addr}{n:Nat}{sl:Array (Option Value)}(lk:K.lookup dT=some ⟨oc,od,.seq #[.none] n,sl⟩):
  Binds K (PySem.W.fnOf "__init__" "Book.__init__" (zR xG) (zA xG) (zc xG) (.ref dT) kV doc pm an cdv ct) ["self","rules"] []:=fun s us hk hl=>by
 rw[zV1] at hl ⊢
 match us,hl with
 |[u,v],_=>exact BindsTo.of_defaults (T:=dT) rfl (hk _ _ lk) rfl rfl rfl
theorem zu5 {P:Str->Prop}(h1:P "price")(h2:P "come")(h3:P "go")(h4:P "least")(h5:P "most")(h6:P "deal")(h7:P "fee"):∀u∈words,P u:=by
 intro u hu;simp only[words,zP2,zQ3,zS4] at hu;rcases hu with rfl|rfl|rfl|rfl|rfl|rfl|rfl<;>assumption
theorem us1 {α:Type}{p:List α->Prop}(h:∀a,p [a])(us:List α)(hl:us.length=1):p us:=by
 obtain⟨a,rfl⟩:=List.length_eq_one_iff.mp hl;exact h a
theorem us2 {α:Type}{p:List α->Prop}(h:∀a b,p [a,b])(us:List α)(hl:us.length=2):p us:=by
 cases us with
 |nil=>cases hl
 |cons a us=>exact us1 (p:=fun us=>p (a::us)) (h a) us (Nat.succ.inj hl)
theorem us3 {α:Type}{p:List α->Prop}(h:∀a b c,p [a,b,c])(us:List α)(hl:us.length=3):p us:=by
 cases us with
 |nil=>cases hl
 |cons a us=>exact us2 (p:=fun us=>p (a::us)) (h a) us (Nat.succ.inj hl)
theorem us4 {α:Type}{p:List α->Prop}(h:∀a b c d,p [a,b,c,d])(us:List α)(hl:us.length=4):p us:=by
 cases us with
 |nil=>cases hl
 |cons a us=>exact us3 (p:=fun us=>p (a::us)) (h a) us (Nat.succ.inj hl)
theorem all_mk {l:PySem.W.OpenLaw}{w:World}{K:PySem.W.Frag}{h:Heap}{mg:Str->Option Value}{fa cC f1 f2 f3 f4 f5 f6 f7 f8 f9 f10 f11 f12 f13 f14 f15 f16 f17 f18 f19 f20 f21 f22 f23 f24 f25 f26 f27 f28 f29 f30 f31 f32 f33 f34 f35 f36 f37 f38 f39 f40 f41 f42 f43 f44 g_init g_told g_tells g_wPrice g_wCome g_wGo g_wLeast g_wMost g_wDeal g_wFee CPrice CCome CGo CLeast CMost CDeal CFee CB dT g_binit g_btells dU:Addr}(X:K.In h)(G:h.Ns mainGlobals mg)(hfa:mg "law"=some (.ref fa))
  {od14 an14 od44 an44 odB anB odT:Option Addr} {sl14 sl44 slB slT:Array (Option Value)} {oc14 kV14 dc14 pm14 ct14 oc44 kV44 dc44 pm44 ct44 cd44 ocB kVB dcB pmB ctB cdB ocT:Value} {tk1 tk2 tk3 tk4 tu1 tu2 tu3 tu4 tu5 tu6 tu7 tu8 tu9 tu10:Tok} {hu1 hu2 hu3 hu4 hu5 hu6 hu7:Int} {nT nU:Nat}
  (q1:FnG K f1 "is_whole" tD)
  (q2:FnG K f2 "is_whole_within" oN)
  (q3:FnG K f3 "is_pair" aQ)
  (q4:FnG K f4 "is_day" zt8)
  (q5:FnG K f5 "is_pair_of_days" aL)
  (q6:FnG K f6 "is_stretch" qr)
  (q7:FnG K f7 "is_coins" jg)
  (q8:FnG K f8 "is_deal" om)
  (q9:FnG K f9 "is_worth" je)
  (q10:FnG K f10 "is_rule" oy)
  (q11:FnG K f11 "made" aA)
  (q12:FnG K f12 "rule_of" ng)
  (q13:FnG K f13 "nights_of" ox)
  (a14:PySem.W.nsIn K mainGlobals "cheapest_first"=some (some (.ref f14)))
  (l14:K.lookup f14=some ⟨oc14,od14,.func (PySem.W.fnOf "cheapest_first" "cheapest_first" (zR yU) (zA yU) (zc yU) .none kV14 dc14 pm14 an14 (.ref cC) ct14),sl14⟩)
  (c14:PySem.W.codeIn K (.ref cC) "cheapest_first"=true)
  (k14:PySem.W.keepIn K (.ref f14)=true)
  (q15:FnG K f15 "marked" vP)
  (q16:FnG K f16 "night_prices" sNP)
  (q17:FnG K f17 "bill" sq)
  (q18:FnG K f18 "bars" pN)
  (q19:FnG K f19 "can_be_had" zv2)
  (q20:FnG K f20 "cost_or_none" zA4)
  (q21:FnG K f21 "is_part" sT)
  (q22:FnG K f22 "is_cut" kL)
  (q23:FnG K f23 "usual" kE)
  (q24:FnG K f24 "kept_rules" dD)
  (q25:FnG K f25 "arrivals" zA6)
  (q26:FnG K f26 "least_ways" sLW)
  (q27:FnG K f27 "cut_of" kO)
  (q28:FnG K f28 "paper_of" kh)
  (q29:FnG K f29 "best" zd2)
  (q30:FnG K f30 "_law_tape" pf)
  (q31:FnG K f31 "_law_draw" ag)
  (q32:FnG K f32 "_law_coins" nE)
  (q33:FnG K f33 "_law_worth" oh)
  (q34:FnG K f34 "_law_price_rules" pW)
  (q35:FnG K f35 "_law_other_rules" ny)
  (q36:FnG K f36 "_law_rules" oW)
  (q37:FnG K f37 "_law_stay" aC)
  (q38:FnG K f38 "_law_books" ou)
  (q39:FnG K f39 "_law_whole" zw5)
  (q40:FnG K f40 "_law_is_cut" bY)
  (q41:FnG K f41 "_law_parts" jB)
  (q42:FnG K f42 "_law_spoilt" zu4)
  (q43:FnG K f43 "_law_due" zv0)
  (a44:PySem.W.nsIn K mainGlobals "law"=some (some (.ref f44)))
  (l44:K.lookup f44=some ⟨oc44,od44,.func (PySem.W.fnOf "law" "law" (zR oB) (zA oB) (zc oB) .none kV44 dc44 pm44 an44 cd44 ct44),sl44⟩)
  (c44:PySem.W.codeIn K cd44 "law"=true)
  (k44:PySem.W.keepIn K (.ref f44)=true)
  (aCPrice:PySem.W.nsIn K mainGlobals "Price"=some (some (.ref CPrice)))
  (aCCome:PySem.W.nsIn K mainGlobals "Come"=some (some (.ref CCome)))
  (aCGo:PySem.W.nsIn K mainGlobals "Go"=some (some (.ref CGo)))
  (aCLeast:PySem.W.nsIn K mainGlobals "Least"=some (some (.ref CLeast)))
  (aCMost:PySem.W.nsIn K mainGlobals "Most"=some (some (.ref CMost)))
  (aCDeal:PySem.W.nsIn K mainGlobals "Deal"=some (some (.ref CDeal)))
  (aCFee:PySem.W.nsIn K mainGlobals "Fee"=some (some (.ref CFee)))
  (RPrice:wU K CPrice g_init g_told g_tells g_wPrice)
  (RCome:wU K CCome g_init g_told g_tells g_wCome)
  (RGo:wU K CGo g_init g_told g_tells g_wGo)
  (RLeast:wU K CLeast g_init g_told g_tells g_wLeast)
  (RMost:wU K CMost g_init g_told g_tells g_wMost)
  (RDeal:wU K CDeal g_init g_told g_tells g_wDeal)
  (RFee:wU K CFee g_init g_told g_tells g_wFee)
  (q_init:FnF K g_init "__init__" "Rule.__init__" jY)
  (q_tells:FnF K g_tells "tells" "Rule.tells" jt)
  (q_wPrice:FnF K g_wPrice "word" "Price.word" oH)
  (q_wCome:FnF K g_wCome "word" "Come.word" kG)
  (q_wGo:FnF K g_wGo "word" "Go.word" zA7)
  (q_wLeast:FnF K g_wLeast "word" "Least.word" nv)
  (q_wMost:FnF K g_wMost "word" "Most.word" jC)
  (q_wDeal:FnF K g_wDeal "word" "Deal.word" ke)
  (q_wFee:FnF K g_wFee "word" "Fee.word" bQ)
  (aCB:PySem.W.nsIn K mainGlobals "Book"=some (some (.ref CB)))
  (fi_binit:PySem.W.findIn K (.ref CB) "__init__"=some (some (.ref g_binit)))
  (is_binit:PySem.W.isFn K (.ref g_binit)=true)
  (l_binit:K.lookup g_binit=some ⟨ocB,odB,.func (PySem.W.fnOf "__init__" "Book.__init__" (zR xG) (zA xG) (zc xG) (.ref dT) kVB dcB pmB anB cdB ctB),slB⟩)
  (c_binit:PySem.W.codeIn K cdB "Book.__init__"=true)
  (k_binit:PySem.W.keepIn K (.ref g_binit)=true)
  (lT:K.lookup dT=some ⟨ocT,odT,.seq #[.none] nT,slT⟩)
  (fi_btells:PySem.W.findIn K (.ref CB) "tells_of"=some (some (.ref g_btells)))
  (is_btells:PySem.W.isFn K (.ref g_btells)=true)
  (q_btells:FnF K g_btells "tells_of" "Book.tells_of" oI)
  (pgB:PySem.W.plainGet K CB Str.empty=true)
  (hdB:PySem.W.hasDictIn K CB=true)
  (poB:PySem.W.plainOver K CB=true)
  (saB:PySem.W.findIn K (.ref CB) "__setattr__"=some (some (.builtin "object.__setattr__")))
  (mkB:PySem.W.makesIn K CB=true)
  (kcB:PySem.W.keepIn K (.ref CB)=true)
  (noB:PySem.W.findIn K (.ref CB) "kept"=some none)
  (z1:PySem.W.nsIn K mainGlobals "abs"=some none)
  (z2:PySem.W.nsIn K mainGlobals "list"=some none)
  (z3:PySem.W.nsIn K mainGlobals "len"=some none)
  (z4:PySem.W.nsIn K mainGlobals "range"=some none)
  (z5:PySem.W.nsIn K mainGlobals "min"=some none)
  (z6:PySem.W.nsIn K mainGlobals "max"=some none)
  (z7:PySem.W.nsIn K mainGlobals "sorted"=some none)
  (z8:PySem.W.nsIn K mainGlobals "isinstance"=some none)
  (z9:PySem.W.nsIn K mainGlobals "int"=some none)
  (z10:PySem.W.nsIn K mainGlobals "bool"=some none)
  (z11:PySem.W.nsIn K mainGlobals "str"=some none)
  (z12:PySem.W.nsIn K mainGlobals "tuple"=some none)
  (z13:PySem.W.nsIn K mainGlobals "all"=some none)
  (z14:PySem.W.nsIn K mainGlobals "any"=some none)
  (z15:PySem.W.nsIn K mainGlobals "repr"=some none)
  (z16:PySem.W.nsIn K mainGlobals "zip"=some none)
  (z17:PySem.W.nsIn K mainGlobals "enumerate"=some none)
  (z18:PySem.W.nsIn K mainGlobals "reversed"=some none)
  (z19:PySem.W.nsIn K mainGlobals "sum"=some none)
  (gi1:PySem.W.nsIn K mainGlobals "LAST_DAY"=some (some (.int 1000000 tk1)))
  (gi2:PySem.W.nsIn K mainGlobals "MOST_NIGHTS"=some (some (.int 14 tk2)))
  (gi3:PySem.W.nsIn K mainGlobals "MOST_COINS"=some (some (.int 1000000000000 tk3)))
  (gi4:PySem.W.nsIn K mainGlobals "MOST_RULES"=some (some (.int 24 tk4)))
  (aU:PySem.W.nsIn K mainGlobals "USUAL"=some (some (.ref dU)))
  (lU:K.lookup dU=some ⟨.type "dict",none,.dict #[⟨hu1,.str "price" tu1,.none⟩,⟨hu2,.str "come" tu2,.bool true⟩,⟨hu3,.str "go" tu3,.bool true⟩,⟨hu4,.str "least" tu4,.int 1 tu8⟩,⟨hu5,.str "most" tu5,.int 14 tu9⟩,⟨hu6,.str "deal" tu6,.none⟩,⟨hu7,.str "fee" tu7,.int 0 tu10⟩] nU,#[]⟩)
  (hh1:hu1=hashStr w "price")
  (hh2:hu2=hashStr w "come")
  (hh3:hu3=hashStr w "go")
  (hh4:hu4=hashStr w "least")
  (hh5:hu5=hashStr w "most")
  (hh6:hu6=hashStr w "deal")
  (hh7:hu7=hashStr w "fee")
  (hhd:PySem.W.codeHdIn K cC yC=true):
  ∃fd:FuncData,(∀(s:Shared) (v:Value),BindsTo s fd ⟨[v],[]⟩ [("_law_script",v)])/\∀base:Heap,K.In base->base.Ns mainGlobals mg->base.BuiltinsAt mg yC->zC l.prog w K mg base CX0 13 fa fd ["_law_script"] (nL K):=by
 have e:=hfa.symm.trans (zT8 X G a44);cases e;have nb:NbT mg:=⟨zR8 X G z1,zR8 X G z2,zR8 X G z3,zR8 X G z4,zR8 X G z5,zR8 X G z6,zR8 X G z7,zR8 X G z8,zR8 X G z9,zR8 X G z10,zR8 X G z11,zR8 X G z12,zR8 X G z13,zR8 X G z14,zR8 X G z15,zR8 X G z16,zR8 X G z17,zR8 X G z18,zR8 X G z19⟩;obtain⟨_,m_is_whole,F_is_whole,b_is_whole⟩:=q1.get ["thing"] X G fun _ _ _ _ _ _=>us1 fun _=>rfl;obtain⟨_,m_is_whole_within,F_is_whole_within,b_is_whole_within⟩:=q2.get ["thing","lowest","highest"] X G fun _ _ _ _ _ _=>us3 fun _ _ _=>rfl;obtain⟨_,m_is_pair,F_is_pair,b_is_pair⟩:=q3.get ["thing"] X G fun _ _ _ _ _ _=>us1 fun _=>rfl;obtain⟨_,m_is_day,F_is_day,b_is_day⟩:=q4.get ["thing"] X G fun _ _ _ _ _ _=>us1 fun _=>rfl;obtain⟨_,m_is_pair_of_days,F_is_pair_of_days,b_is_pair_of_days⟩:=q5.get ["thing"] X G fun _ _ _ _ _ _=>us1 fun _=>rfl;obtain⟨_,m_is_stretch,F_is_stretch,b_is_stretch⟩:=q6.get ["thing"] X G fun _ _ _ _ _ _=>us1 fun _=>rfl;obtain⟨_,m_is_coins,F_is_coins,b_is_coins⟩:=q7.get ["thing"] X G fun _ _ _ _ _ _=>us1 fun _=>rfl;obtain⟨_,m_is_deal,F_is_deal,b_is_deal⟩:=q8.get ["thing"] X G fun _ _ _ _ _ _=>us1 fun _=>rfl;obtain⟨_,m_is_worth,F_is_worth,b_is_worth⟩:=q9.get ["word","thing"] X G fun _ _ _ _ _ _=>us2 fun _ _=>rfl;obtain⟨_,m_is_rule,F_is_rule,b_is_rule⟩:=q10.get ["thing"] X G fun _ _ _ _ _ _=>us1 fun _=>rfl;obtain⟨_,m_made,F_made,b_made⟩:=q11.get ["word","first","last","worth"] X G fun _ _ _ _ _ _=>us4 fun _ _ _ _=>rfl;obtain⟨_,m_rule_of,F_rule_of,b_rule_of⟩:=q12.get ["thing"] X G fun _ _ _ _ _ _=>us1 fun _=>rfl;obtain⟨_,m_nights_of,F_nights_of,b_nights_of⟩:=q13.get ["stay"] X G fun _ _ _ _ _ _=>us1 fun _=>rfl;have m_cheapest_first:mg "cheapest_first"=some (.ref f14):=zT8 X G a14;have F_cheapest_first:=jS (st:=yU) l14 c14 k14;have b_cheapest_first:=F_cheapest_first.binds (ps:=["prices","places"]) fun _ _ _ _ _ _=>us2 fun _ _=>rfl;obtain⟨_,m_marked,F_marked,b_marked⟩:=q15.get ["prices","deal"] X G fun _ _ _ _ _ _=>us2 fun _ _=>rfl;obtain⟨_,m_night_prices,F_night_prices,b_night_prices⟩:=q16.get ["book","nights"] X G fun _ _ _ _ _ _=>us2 fun _ _=>rfl;obtain⟨_,m_bill,F_bill,b_bill⟩:=q17.get ["book","stay"] X G fun _ _ _ _ _ _=>us2 fun _ _=>rfl;obtain⟨_,m_bars,F_bars,b_bars⟩:=q18.get ["book","stay"] X G fun _ _ _ _ _ _=>us2 fun _ _=>rfl;obtain⟨_,m_can_be_had,F_can_be_had,b_can_be_had⟩:=q19.get ["book","stay"] X G fun _ _ _ _ _ _=>us2 fun _ _=>rfl;obtain⟨_,m_cost_or_none,F_cost_or_none,b_cost_or_none⟩:=q20.get ["book","stay"] X G fun _ _ _ _ _ _=>us2 fun _ _=>rfl;obtain⟨_,m_is_part,F_is_part,b_is_part⟩:=q21.get ["books","stay","thing"] X G fun _ _ _ _ _ _=>us3 fun _ _ _=>rfl;obtain⟨_,m_is_cut,F_is_cut,b_is_cut⟩:=q22.get ["books","stay","thing"] X G fun _ _ _ _ _ _=>us3 fun _ _ _=>rfl;obtain⟨_,m_usual,F_usual,b_usual⟩:=q23.get ["word"] X G fun _ _ _ _ _ _=>us1 fun _=>rfl;obtain⟨_,m_kept_rules,F_kept_rules,b_kept_rules⟩:=q24.get ["things"] X G fun _ _ _ _ _ _=>us1 fun _=>rfl;obtain⟨_,m_arrivals,F_arrivals,b_arrivals⟩:=q25.get ["books","ways","day"] X G fun _ _ _ _ _ _=>us3 fun _ _ _=>rfl;obtain⟨_,m_least_ways,F_least_ways,b_least_ways⟩:=q26.get ["books","stay"] X G fun _ _ _ _ _ _=>us2 fun _ _=>rfl;obtain⟨_,m_cut_of,F_cut_of,b_cut_of⟩:=q27.get ["ways","stay"] X G fun _ _ _ _ _ _=>us2 fun _ _=>rfl;obtain⟨_,m_paper_of,F_paper_of,b_paper_of⟩:=q28.get ["ways","stay"] X G fun _ _ _ _ _ _=>us2 fun _ _=>rfl;obtain⟨_,m_best,F_best,b_best⟩:=q29.get ["books","stay"] X G fun _ _ _ _ _ _=>us2 fun _ _=>rfl;obtain⟨_,m__law_tape,F__law_tape,b__law_tape⟩:=q30.get ["_law_script"] X G fun _ _ _ _ _ _=>us1 fun _=>rfl;obtain⟨_,m__law_draw,F__law_draw,b__law_draw⟩:=q31.get ["_law_tape_here","_law_many"] X G fun _ _ _ _ _ _=>us2 fun _ _=>rfl;obtain⟨_,m__law_coins,F__law_coins,b__law_coins⟩:=q32.get ["_law_tape_here"] X G fun _ _ _ _ _ _=>us1 fun _=>rfl;obtain⟨_,m__law_worth,F__law_worth,b__law_worth⟩:=q33.get ["_law_tape_here","_law_word"] X G fun _ _ _ _ _ _=>us2 fun _ _=>rfl;obtain⟨_,m__law_price_rules,F__law_price_rules,b__law_price_rules⟩:=q34.get ["_law_tape_here","_law_base","_law_days"] X G fun _ _ _ _ _ _=>us3 fun _ _ _=>rfl;obtain⟨_,m__law_other_rules,F__law_other_rules,b__law_other_rules⟩:=q35.get ["_law_tape_here","_law_base","_law_days"] X G fun _ _ _ _ _ _=>us3 fun _ _ _=>rfl;obtain⟨_,m__law_rules,F__law_rules,b__law_rules⟩:=q36.get ["_law_tape_here","_law_base","_law_days"] X G fun _ _ _ _ _ _=>us3 fun _ _ _=>rfl;obtain⟨_,m__law_stay,F__law_stay,b__law_stay⟩:=q37.get ["_law_tape_here","_law_base","_law_days"] X G fun _ _ _ _ _ _=>us3 fun _ _ _=>rfl;obtain⟨_,m__law_books,F__law_books,b__law_books⟩:=q38.get ["_law_tape_here","_law_base","_law_days"] X G fun _ _ _ _ _ _=>us3 fun _ _ _=>rfl;obtain⟨_,m__law_whole,F__law_whole,b__law_whole⟩:=q39.get ["_law_thing"] X G fun _ _ _ _ _ _=>us1 fun _=>rfl;obtain⟨_,m__law_is_cut,F__law_is_cut,b__law_is_cut⟩:=q40.get ["_law_books_here","_law_stay_here","_law_cut"] X G fun _ _ _ _ _ _=>us3 fun _ _ _=>rfl;obtain⟨_,m__law_parts,F__law_parts,b__law_parts⟩:=q41.get ["_law_tape_here","_law_books_here","_law_stay_here"] X G fun _ _ _ _ _ _=>us3 fun _ _ _=>rfl;obtain⟨_,m__law_spoilt,F__law_spoilt,b__law_spoilt⟩:=q42.get ["_law_tape_here","_law_books_here","_law_stay_here","_law_cut"] X G fun _ _ _ _ _ _=>us4 fun _ _ _ _=>rfl;obtain⟨_,m__law_due,F__law_due,b__law_due⟩:=q43.get ["_law_books_here","_law_stay_here","_law_thing"] X G fun _ _ _ _ _ _=>us3 fun _ _ _=>rfl;have F_law:=jS (st:=oB) l44 c44 k44;have b_law:=F_law.binds (ps:=["_law_script"]) fun _ _ _ _ _ _=>us1 fun _=>rfl;obtain⟨_,F_init,b_init⟩:=q_init.get ["self","first","last","worth"] fun _ _ _ _ _ _=>us4 fun _ _ _ _=>rfl;obtain⟨_,F_tells,b_tells⟩:=q_tells.get ["self","day"] fun _ _ _ _ _ _=>us2 fun _ _=>rfl;obtain⟨_,F_wPrice,b_wPrice⟩:=q_wPrice.get ["self"] fun _ _ _ _ _ _=>us1 fun _=>rfl;obtain⟨_,F_wCome,b_wCome⟩:=q_wCome.get ["self"] fun _ _ _ _ _ _=>us1 fun _=>rfl;obtain⟨_,F_wGo,b_wGo⟩:=q_wGo.get ["self"] fun _ _ _ _ _ _=>us1 fun _=>rfl;obtain⟨_,F_wLeast,b_wLeast⟩:=q_wLeast.get ["self"] fun _ _ _ _ _ _=>us1 fun _=>rfl;obtain⟨_,F_wMost,b_wMost⟩:=q_wMost.get ["self"] fun _ _ _ _ _ _=>us1 fun _=>rfl;obtain⟨_,F_wDeal,b_wDeal⟩:=q_wDeal.get ["self"] fun _ _ _ _ _ _=>us1 fun _=>rfl;obtain⟨_,F_wFee,b_wFee⟩:=q_wFee.get ["self"] fun _ _ _ _ _ _=>us1 fun _=>rfl;obtain⟨_,F_btells,b_btells⟩:=q_btells.get ["self","word","day"] fun _ _ _ _ _ _=>us3 fun _ _ _=>rfl;have TD:ml mg f1 f2 f3 f4 f5:=⟨nb.isinstance,nb.int,nb.bool,nb.tuple,nb.len,⟨tk1,zT8 X G gi1⟩,⟨tk2,zT8 X G gi2⟩,m_is_whole,m_is_whole_within,m_is_pair,m_is_day,m_is_pair_of_days⟩;have TR:lW mg f1 f2 f3 f4 f5 f6 f7 f8 f9 f10 f11 ⟨CPrice,CCome,CGo,CLeast,CMost,CDeal,CFee⟩:=⟨TD,⟨tk3,zT8 X G gi3⟩,m_is_stretch,m_is_coins,m_is_deal,m_is_worth,m_is_rule,m_made,zT8 X G aCPrice,zT8 X G aCCome,zT8 X G aCGo,zT8 X G aCLeast,zT8 X G aCMost,zT8 X G aCDeal,zT8 X G aCFee⟩;have TT:zB4 mg:=⟨nb.abs,nb.list,nb.len⟩;have A7:bV K ⟨CPrice,CCome,CGo,CLeast,CMost,CDeal,CFee⟩ g_init g_told g_tells g_wPrice g_wCome g_wGo g_wLeast g_wMost g_wDeal g_wFee:=⟨RPrice,RCome,RGo,RLeast,RMost,RDeal,RFee⟩;refine⟨PySem.W.fnOf "law" "law" (zR oB) (zA oB) (zc oB) .none kV44 dc44 pm44 an44 cd44 ct44,fun s v=>.of_eq rfl,fun base KX _ hbi=>?_⟩;have G_in:=gY (P:=l.prog) (w:=w) (base:=base) F_is_whole_within TD F_is_whole b_is_whole;have G_pair:=zj9 (P:=l.prog) (w:=w) (base:=base) F_is_pair TD;have G_day:=zC5 F_is_day TD G_in F_is_whole_within.kp b_is_whole_within;have G_days:=zi8 F_is_pair_of_days TD G_pair F_is_pair.kp b_is_pair G_day F_is_day.kp b_is_day;have G_stretch:=jq F_is_stretch TD G_days F_is_pair_of_days.kp b_is_pair_of_days;have G_coins:=cJ F_is_coins TR G_in F_is_whole_within.kp b_is_whole_within;have G_deal:=gS F_is_deal TR G_in F_is_whole_within.kp b_is_whole_within G_pair F_is_pair.kp b_is_pair;have G_worth:=za1 F_is_worth TR G_in F_is_whole_within.kp b_is_whole_within G_coins F_is_coins.kp b_is_coins G_deal F_is_deal.kp b_is_deal;have G_rule:=gJ F_is_rule TR G_stretch F_is_stretch.kp b_is_stretch G_worth F_is_worth.kp b_is_worth;have G_made:=zm2 (P:=l.prog) (w:=w) (base:=base) F_made TR A7 F_init b_init;have G_ruleOf:=gE F_rule_of TR G_rule F_is_rule.kp b_is_rule G_made F_made.kp b_made;have CRO:Cal l.prog w K mg base "rule_of" 7 (rC ⟨CPrice,CCome,CGo,CLeast,CMost,CDeal,CFee⟩):=kg m_rule_of F_rule_of.kp b_rule_of G_ruleOf;have CKe:Cal l.prog w K mg base "kept_rules" 8 (ku ⟨CPrice,CCome,CGo,CLeast,CMost,CDeal,CFee⟩):=bX F_kept_rules m_kept_rules b_kept_rules nb ⟨tk4,zT8 X G gi4⟩ CRO;have cB:Cls K CB:=⟨pgB,hdB,poB,saB⟩;have GBI:=ze1 (zf2 (st:=xG) l_binit c_binit k_binit) cB noB CKe;have m_Book:mg "Book"=some (.ref CB):=zT8 X G aCB;have MkB:Mk K CB g_binit:=⟨mkB,fi_binit,is_binit,kcB⟩;have CBk:zb1 l.prog w K mg base "Book" 9 [] (pV CB ⟨CPrice,CCome,CGo,CLeast,CMost,CDeal,CFee⟩):=⟨CB,g_binit,_,_,_,m_Book,MkB,gn lT,.nil,GBI⟩;have CBk0:zb1 l.prog w K mg base "Book" 9 [.non] (pV CB ⟨CPrice,CCome,CGo,CLeast,CMost,CDeal,CFee⟩):=⟨CB,g_binit,_,_,_,m_Book,MkB,fh lT,.cons rfl .nil,GBI⟩;have DU:iW K w dU tbU:=⟨_,nU,lU,.cons ⟨hh1,⟨_,rfl⟩,rfl⟩ (.cons ⟨hh2,⟨_,rfl⟩,rfl⟩ (.cons ⟨hh3,⟨_,rfl⟩,rfl⟩ (.cons ⟨hh4,⟨_,rfl⟩,⟨_,rfl⟩⟩ (.cons ⟨hh5,⟨_,rfl⟩,⟨_,rfl⟩⟩ (.cons ⟨hh6,⟨_,rfl⟩,rfl⟩ (.cons ⟨hh7,⟨_,rfl⟩,⟨_,rfl⟩⟩ (.nil))))))),by decide +kernel⟩;have CU:Cal l.prog w K mg base "usual" 1 nC:=eO F_usual m_usual b_usual (zT8 X G aU) DU;have OW:∀u∈words,sE l.prog w K mg base ((⟨CPrice,CCome,CGo,CLeast,CMost,CDeal,CFee⟩:Cs).of u) "word" 1 (jH ((⟨CPrice,CCome,CGo,CLeast,CMost,CDeal,CFee⟩:Cs).of u) u):=zu5 (by rw[uE];exact xl RPrice b_wPrice (gp F_wPrice)) (by rw[sW];exact xl RCome b_wCome (aP F_wCome)) (by rw[iu];exact xl RGo b_wGo (zv5 F_wGo)) (by rw[uP];exact xl RLeast b_wLeast (eW F_wLeast)) (by rw[sJ];exact xl RMost b_wMost (bO F_wMost)) (by rw[sX];exact xl RDeal b_wDeal (dC F_wDeal)) (by rw[nk];exact xl RFee b_wFee (zp0 F_wFee));have ORT:∀u∈words,sE l.prog w K mg base ((⟨CPrice,CCome,CGo,CLeast,CMost,CDeal,CFee⟩:Cs).of u) "tells" 1 (qu ((⟨CPrice,CCome,CGo,CLeast,CMost,CDeal,CFee⟩:Cs).of u)):=zu5 (by rw[uE];exact yG RPrice b_tells (xZ F_tells RPrice)) (by rw[sW];exact yG RCome b_tells (xZ F_tells RCome)) (by rw[iu];exact yG RGo b_tells (xZ F_tells RGo)) (by rw[uP];exact yG RLeast b_tells (xZ F_tells RLeast)) (by rw[sJ];exact yG RMost b_tells (xZ F_tells RMost)) (by rw[sX];exact yG RDeal b_tells (xZ F_tells RDeal)) (by rw[nk];exact yG RFee b_tells (xZ F_tells RFee));have OC:∀u∈words,Cls K ((⟨CPrice,CCome,CGo,CLeast,CMost,CDeal,CFee⟩:Cs).of u)/\yR K ((⟨CPrice,CCome,CGo,CLeast,CMost,CDeal,CFee⟩:Cs).of u) "worth":=zu5 (by rw[uE];exact⟨RPrice.cl,RPrice.nw⟩) (by rw[sW];exact⟨RCome.cl,RCome.nw⟩) (by rw[iu];exact⟨RGo.cl,RGo.nw⟩) (by rw[uP];exact⟨RLeast.cl,RLeast.nw⟩) (by rw[sJ];exact⟨RMost.cl,RMost.nw⟩) (by rw[sX];exact⟨RDeal.cl,RDeal.nw⟩) (by rw[nk];exact⟨RFee.cl,RFee.nw⟩);have MTe:sE l.prog w K mg base CB "tells_of" 2 (uZ CB ⟨CPrice,CCome,CGo,CLeast,CMost,CDeal,CFee⟩):=⟨g_btells,_,_,cB,⟨fi_btells,is_btells,F_btells.kp⟩,b_btells,eh F_btells cB noB nb CU OW ORT OC⟩;have CD:Cal l.prog w K mg base "_law_draw" 1 xt:=cZ m__law_draw F__law_draw.kp b__law_draw (zg6 F__law_draw TT);have CCo:=fg F__law_coins m__law_coins b__law_coins CD;have CW:=gP F__law_worth m__law_worth b__law_worth CD CCo;have CPR:=jG F__law_price_rules m__law_price_rules b__law_price_rules nb CD CCo;have CO:=jL F__law_other_rules m__law_other_rules b__law_other_rules nb CD CW;have CRW:=jM F__law_rules m__law_rules b__law_rules CD CPR CO;have CRF:=fJ CRW;have CSt:=aN F__law_stay m__law_stay b__law_stay CD;have CN:=kr (P:=l.prog) (w:=w) (base:=base) F_nights_of m_nights_of b_nights_of nb;have CC:Cal l.prog w K mg base "cheapest_first" 3 nr:=fo l14 c14 k14 m_cheapest_first b_cheapest_first nb hhd KX hbi;have CMa:Cal l.prog w K mg base "marked" 4 rL:=jo F_marked m_marked b_marked nb CC;have CNP:=zw7 F_night_prices m_night_prices b_night_prices MTe;have CBi:=gC (zf0 F_bill m_bill b_bill nb MTe CN CNP CMa);have CBa:=aB F_bars m_bars b_bars CN MTe;have CHa:=zp7 F_can_be_had m_can_be_had b_can_be_had CBa;have CCN:=zl7 F_cost_or_none m_cost_or_none b_cost_or_none CHa CBi;have CAr:=zg1 F_arrivals m_arrivals b_arrivals nb CCN;have CLW:=zz3 F_least_ways m_least_ways b_least_ways nb CAr;have CCu:=zl8 (P:=l.prog) (w:=w) (base:=base) F_cut_of m_cut_of b_cut_of nb;have CPa:=gI (P:=l.prog) (w:=w) (base:=base) F_paper_of m_paper_of b_paper_of nb;have CBe:=ae F_best m_best b_best nb CLW CCu CPa;have CWI:=zk9 (P:=l.prog) (w:=w) (base:=base) F_is_whole m_is_whole b_is_whole nb;have CWG:=zx7 (P:=l.prog) (w:=w) (base:=base) F_is_whole m_is_whole b_is_whole nb;have CIP:=bB F_is_part m_is_part b_is_part nb CWI CHa;have CIC:=kq F_is_cut m_is_cut b_is_cut nb CIP (fF F_is_part m_is_part b_is_part nb CWG);have CBW:=kZ F__law_books m__law_books b__law_books nb CD CRW CBk;have CBs:=bE CBW;have CLh:=zi7 (P:=l.prog) (w:=w) (base:=base) F__law_whole m__law_whole b__law_whole nb;have CLC:=zc3 F__law_is_cut m__law_is_cut b__law_is_cut nb CHa;have CPt:=fv F__law_parts m__law_parts b__law_parts nb CD CHa;have CSp:=zl0 (C:=CB) (cs:=⟨CPrice,CCome,CGo,CLeast,CMost,CDeal,CFee⟩) F__law_spoilt m__law_spoilt b__law_spoilt nb CD;have CDu:=zg8 F__law_due m__law_due b__law_due nb CLh CLC;exact zx6 F_law nb (zn5 F__law_tape TT) m__law_tape F__law_tape.kp b__law_tape CD CBs CBe CSt CPt CIC CDu CSp
theorem walk {l:PySem.W.OpenLaw}{q:Program}{loose:List Str}{XP:(Str->Option Value)->Heap->Prop}{YP:World->Heap->Prop}{d:DefRec}{K:Params->PySem.W.Frag}{c:Addr}(hn:l.most=some 63)(hdf:d.params.defaults=[])
  (hY:∀(w:World) (h:Heap),YP w h->(K w.params).In h) (hYT:∀(w:World) (h:Heap),YP w h->h.get? yC=some (PySem.W.tabObj #[]))
  (hNo:∀w:World,(K w.params).lookup yC=none) (hTab:∀w:World,∃o vs,(K w.params).lookup c=some o/\o.cls=.type "code"/\o.data=.fields vs/\vs[11]?=some (.ref yC))
  (F:∀(w:World) (mg:Str->Option Value) (fa:Addr) (h:Heap),(K w.params).In h->h.Ns mainGlobals mg->mg d.name=some (.ref fa)->
   ∃fd:FuncData,(∀(s:Shared) (u:Value),BindsTo s fd ⟨[u],[]⟩ [("_law_script",u)])/\∀base:Heap,(K w.params).In base->base.Ns mainGlobals mg->base.BuiltinsAt mg yC->zC l.prog w (K w.params) mg base CX0 13 fa fd ["_law_script"] (nL (K w.params))):
  PySem.W.WalkO q loose XP YP l.row.toRowW d [] (fun f vs=>PySem.call f vs):=
 L2.aZ (n:=63) (k:=13) (x:="_law_script") (CX:=fun _=>CX0) (sp:=fun w=>nL (K w.params)) hn (by decide) hdf ⟨rfl,by decide,by decide,rfl⟩ hY hYT hNo hTab F (fun _ H a ns hl _ hT hS=>⟨a,ns,rfl,hS,hl,⟨#[],hT,trivial,fun pos cv hc=>by cases hc⟩,fun _=>rfl⟩) fun _ _ _ _ _ z=>z
end K53
namespace PySem.W.Fast
def tw1827682357787144688:=Nat
def tw12443166055755762205:=Nat
def tw7432840425892163845:=Nat
def tw16788287583256721601:=Nat
def tw9039095554344224801:=Nat
def tw14210461534666878553:=Nat
def tw15136846185616498054:=Nat
def tw15116427494453930585:=Nat
def tw12867982648930845757:=Nat
def tw12459172915808729375:=Nat
def tw4278434547464567879:=Nat
def tw14900024554949775468:=Nat
def tw8715859424956299743:=Nat
def tw12885950620138132200:=Nat
def tw6395191651763966829:=Nat
def tw3843778482143373133:=Nat
def tw16565794915981142435:=Nat
def tw16508094561829918145:=Nat
def tw18276972202471490862:=Nat
def tw1165478799875247942:=Nat
def tw7372247801578321180:=Nat
def tw1664230952733538466:=Nat
def tw15216413689812092069:=Nat
def tw3339447840591209716:=Nat
def tw2607177297559867716:=Nat
def tw3873755392225415184:=Nat
def tw7851748971608095791:=Nat
def tw3966323267830842439:=Nat
def tw467151934584325298:=Nat
def tw17329066030522660569:=Nat
def tw15936716830815935821:=Nat
def tw9873658514886395191:=Nat
def tw9227349199017072325:=Nat
def tw12692703636316321158:=Nat
def tw8877310609688861265:=Nat
def tw4754240371937390934:=Nat
def tw3649945664165908361:=Nat
def tw15106220231652937824:=Nat
def tw8738469477093793789:=Nat
def tw12311450693364088388:=Nat
def tw11614819169656259877:=Nat
def tw5136844049508774456:=Nat
def tw4961042041302103122:=Nat
def tw1880082361892916509:=Nat
def tw11320825738251320226:=Nat
def tw8633021612526047931:=Nat
def tw8230943720657555853:=Nat
def tw2467507272722138649:=Nat
def tw17528741937303621304:=Nat
def tw1930710727083463995:=Nat
def tw11644268977641304653:=Nat
def tw972290142524218272:=Nat
def tw17806071039974425896:=Nat
def tw16494433071174719178:=Nat
def tw6033503079993307323:=Nat
def tw15908557983234738737:=Nat
def tw2998674989019916111:=Nat
def tw2301042178149343709:=Nat
def tw16965362968134053809:=Nat
def tw11716537551718567262:=Nat
def tw4968434350747237830:=Nat
def tw1058269188330590233:=Nat
def tw10731973614901494166:=Nat
def tw1295455898098007828:=Nat
def tw6342104906025599329:=Nat
def tw1812798694940757727:=Nat
def tw4776813872917354002:=Nat
def tw15451055399397231561:=Nat
def tw2032545202027106194:=Nat
def tw10207193232822323053:=Nat
def tw4701831947362739086:=Nat
def tw13141627053595059169:=Nat
def tw11293024084358087830:=Nat
def tw6029075850633557319:=Nat
def tw2421232302019622708:=Nat
def tw12417879015790246624:=Nat
def tw13341088285986204185:=Nat
def tw10193133837905213867:=Nat
def tw16267841425004691853:=Nat
def tw7897886608772382636:=Nat
def tw17723538947707024939:=Nat
def tw12046645188983732640:=Nat
def tw2337117443063630847:=Nat
def tw9896373458813336412:=Nat
def tw13499662957266286904:=Nat
def tw12853706750162903165:=Nat
def tw12916249490833939247:=Nat
def tw11043140713035033680:=Nat
def tw14294966250595660306:=Nat
def tw16555693649695829414:=Nat
def tw3961306560798952417:=Nat
def tw9405187985415282549:=Nat
def tw10286456054003097724:=Nat
def tw4388913988981220205:=Nat
def tw789572672328148204:=Nat
def tw4061600977593680048:=Nat
def tw14550174733085359965:=Nat
def tw3278136164693061336:=Nat
def tw16925982593458081985:=Nat
def tw12132028275580946132:=Nat
def tw15528362165015042243:=Nat
def tw12438791676744575339:=Nat
def tw12912329633947539256:=Nat
def tw12191882604248459460:=Nat
def tw2154492063639546615:=Nat
def tw15642087306924139461:=Nat
def tw4468693096978506112:=Nat
def tw12417634763538525050:=Nat
def tw9697223121063449318:=Nat
def tw1551333940714255349:=Nat
def tw9469359041736224537:=Nat
def tw12591965079490817327:=Nat
def tw7197409342083196087:=Nat
def tw3351003107925715712:=Nat
def tw15108185778308557839:=Nat
def tw3570791118841811759:=Nat
def tw16449514553885668586:=Nat
def tw7742662826012862120:=Nat
def tw108685410698405211:=Nat
def tw4709762251595268033:=Nat
def tw9437674281108176335:=Nat
def tw6944722393541306651:=Nat
def tw13616321218485189390:=Nat
def tw3786686145789650657:=Nat
def tw14151179125312521600:=Nat
def tw14394460205984722472:=Nat
def tw15949211233249874642:=Nat
def tw10309385603500915172:=Nat
def tw9445595538308088653:=Nat
def tw9494619146746736917:=Nat
def tw18286791371209414067:=Nat
def tw7259709880825968946:=Nat
def tw3247208773622930183:=Nat
def tw5810111525049963814:=Nat
def tw9593158617393000997:=Nat
def tw7603593750585816883:=Nat
def tw2383288044554586515:=Nat
def tw4330187624471848478:=Nat
def tw2202302313108531437:=Nat
def tw7422108556176945880:=Nat
def tw6900436722919061180:=Nat
def tw11092530663654973869:=Nat
def tw3155314271688859079:=Nat
def tw3650330447846452136:=Nat
def tw1573714766770496592:=Nat
def tw10745268644860892325:=Nat
def tw2831779855788829218:=Nat
def tw6681603756276630006:=Nat
def tw5094350904988138329:=Nat
def tw14364865676366580678:=Nat
def tw18070999932510195634:=Nat
def tw14768293370186143061:=Nat
def tw17186860996831803815:=Nat
def tw1657662545452181040:=Nat
def tw3068299560536272991:=Nat
def tw15947060687813210506:=Nat
def tw12162323540358384450:=Nat
def tw1648700728010824594:=Nat
def tw17779749248106534280:=Nat
def tw17884033037804440905:=Nat
def tw14799468316297257251:=Nat
def tw9849723478892459489:=Nat
def tw12207693183273945551:=Nat
def tw4869479821232210598:=Nat
def tw6141929902053151611:=Nat
def tw2039354212136892863:=Nat
def tw10517323264560725112:=Nat
def tw18263128502411828686:=Nat
def tw4094852545381355391:=Nat
def tw12423417147843737651:=Nat
def tw12526339998218092726:=Nat
def tw6897243039984503415:=Nat
def tw1114406567091471744:=Nat
def tw16636388764265729656:=Nat
def tw17344380260261824017:=Nat
def tw3965175811696231707:=Nat
def tw16612286853959359559:=Nat
def tw17290135558944923402:=Nat
def tw11486903273895284065:=Nat
def tw3955209917100424617:=Nat
def tw15253114675061994083:=Nat
def tw7413834182155028124:=Nat
def tw15347770916593083800:=Nat
def tw14293850449677929718:=Nat
def tw10402275633649577953:=Nat
def tw17171245931119736782:=Nat
def tw13242984457737002446:=Nat
def tw3848368711143933658:=Nat
def tw9878199462697849549:=Nat
def tw4333824208968317022:=Nat
def tw11530775685399042810:=Nat
def tw9679789372543981237:=Nat
def tw10618337366673377535:=Nat
def tw11539808222247292798:=Nat
def tw9253308701406728687:=Nat
def tw14194059485307806741:=Nat
def tw5871077254522676398:=Nat
def tw11210448975360331179:=Nat
def tw9645657444442308345:=Nat
def tw10262558583774032001:=Nat
def tw8149974791497165840:=Nat
def tw15171477740850794852:=Nat
def tw8381970516533437099:=Nat
def tw16265086490724671101:=Nat
def tw8354407732164714155:=Nat
def tw15442766570444312254:=Nat
def tw2292493768493855110:=Nat
def tw13576688452265286566:=Nat
def tw14767427643350543540:=Nat
def tw10508632226730600598:=Nat
def tw15127246771148503990:=Nat
def tw6912460276102098780:=Nat
def tw8472850892710006995:=Nat
def tw1958543623420499205:=Nat
def tw12521759666439146560:=Nat
def tw4718281614948860891:=Nat
def tw17702119461420182979:=Nat
def tw607068414913127150:=Nat
def tw18309043868844081459:=Nat
def tw3995892289279624291:=Nat
def tw3118874646716583274:=Nat
def tw13628753403677073648:=Nat
def tw2754367705163320649:=Nat
def tw6234160698665802141:=Nat
def tw9405003678482778885:=Nat
def tw9648865903987295257:=Nat
def tw11220743671619274162:=Nat
def tw1064400514806039639:=Nat
def tw4975685858327946601:=Nat
def tw13488157549753599823:=Nat
def tw11017094735604537936:=Nat
def tw8138818839575630418:=Nat
def tw2985575825002325274:=Nat
def tw11913040448816342279:=Nat
def tw12075113590090976352:=Nat
def tw10962185329105296415:=Nat
def tw11328551135503967159:=Nat
def tw3507965463417595719:=Nat
def tw16482144025211893457:=Nat
def tw2409418875480074390:=Nat
def tw478903916592657661:=Nat
def tw6208523304231796381:=Nat
def tw9746145169124220650:=Nat
def tw3013212997285803942:=Nat
def tw6048262472005971249:=Nat
def tw10648006768483198731:=Nat
end PySem.W.Fast
open PySem PySem.W PyProof.Rows
set_option maxRecDepth 100000 in
theorem PySem.Challenge.cw_stayprice_k53_looker_at_cuts_holds : PySem.Challenge.rw_stayprice_k53_looker_at_cuts.Holds := by
 w_on;o_law;k_head;(case hw=>w_witness2)
 k_fill
 refine K53.walk (l:=PySem.Challenge.rw_stayprice_k53_looker_at_cuts) (c:=(132:Nat)) rfl rfl (fun w h Y=>PySem.W.km_in_of Y) (fun w h Y=>PySem.W.km_tabs_of Y _ (zP7.mpr rfl)) ?hno ?htab ?hF
 case hno=>intro w;kernel_rfl
 case htab=>intro w;exact⟨_,_,by k_is,rfl,rfl,rfl⟩
 case hF=>
  intro w mg fa h KX G hmg
  refine' K53.all_mk KX G hmg (K53.mkG ?_ ?_ ?_ ?_) (K53.mkG ?_ ?_ ?_ ?_) (K53.mkG ?_ ?_ ?_ ?_) (K53.mkG ?_ ?_ ?_ ?_) (K53.mkG ?_ ?_ ?_ ?_) (K53.mkG ?_ ?_ ?_ ?_) (K53.mkG ?_ ?_ ?_ ?_) (K53.mkG ?_ ?_ ?_ ?_) (K53.mkG ?_ ?_ ?_ ?_) (K53.mkG ?_ ?_ ?_ ?_) (K53.mkG ?_ ?_ ?_ ?_) (K53.mkG ?_ ?_ ?_ ?_) (K53.mkG ?_ ?_ ?_ ?_) ?_ ?_ ?_ ?_ (K53.mkG ?_ ?_ ?_ ?_) (K53.mkG ?_ ?_ ?_ ?_) (K53.mkG ?_ ?_ ?_ ?_) (K53.mkG ?_ ?_ ?_ ?_) (K53.mkG ?_ ?_ ?_ ?_) (K53.mkG ?_ ?_ ?_ ?_) (K53.mkG ?_ ?_ ?_ ?_) (K53.mkG ?_ ?_ ?_ ?_) (K53.mkG ?_ ?_ ?_ ?_) (K53.mkG ?_ ?_ ?_ ?_) (K53.mkG ?_ ?_ ?_ ?_) (K53.mkG ?_ ?_ ?_ ?_) (K53.mkG ?_ ?_ ?_ ?_) (K53.mkG ?_ ?_ ?_ ?_) (K53.mkG ?_ ?_ ?_ ?_) (K53.mkG ?_ ?_ ?_ ?_) (K53.mkG ?_ ?_ ?_ ?_) (K53.mkG ?_ ?_ ?_ ?_) (K53.mkG ?_ ?_ ?_ ?_) (K53.mkG ?_ ?_ ?_ ?_) (K53.mkG ?_ ?_ ?_ ?_) (K53.mkG ?_ ?_ ?_ ?_) (K53.mkG ?_ ?_ ?_ ?_) (K53.mkG ?_ ?_ ?_ ?_) (K53.mkG ?_ ?_ ?_ ?_) (K53.mkG ?_ ?_ ?_ ?_) (K53.mkG ?_ ?_ ?_ ?_) (K53.mkG ?_ ?_ ?_ ?_) (K53.mkG ?_ ?_ ?_ ?_) ?_ ?_ ?_ ?_ ?_ ?_ ?_ ?_ ?_ ?_ ?_ (K53.mkR ?_ ?_ ?_ ?_ ?_ ?_ ?_ ?_ ?_ ?_ ?_ ?_ ?_ ?_ ?_ ?_ ?_ ?_ ?_ ?_) (K53.mkR ?_ ?_ ?_ ?_ ?_ ?_ ?_ ?_ ?_ ?_ ?_ ?_ ?_ ?_ ?_ ?_ ?_ ?_ ?_ ?_) (K53.mkR ?_ ?_ ?_ ?_ ?_ ?_ ?_ ?_ ?_ ?_ ?_ ?_ ?_ ?_ ?_ ?_ ?_ ?_ ?_ ?_) (K53.mkR ?_ ?_ ?_ ?_ ?_ ?_ ?_ ?_ ?_ ?_ ?_ ?_ ?_ ?_ ?_ ?_ ?_ ?_ ?_ ?_) (K53.mkR ?_ ?_ ?_ ?_ ?_ ?_ ?_ ?_ ?_ ?_ ?_ ?_ ?_ ?_ ?_ ?_ ?_ ?_ ?_ ?_) (K53.mkR ?_ ?_ ?_ ?_ ?_ ?_ ?_ ?_ ?_ ?_ ?_ ?_ ?_ ?_ ?_ ?_ ?_ ?_ ?_ ?_) (K53.mkR ?_ ?_ ?_ ?_ ?_ ?_ ?_ ?_ ?_ ?_ ?_ ?_ ?_ ?_ ?_ ?_ ?_ ?_ ?_ ?_) (K53.mkF ?_ ?_ ?_) (K53.mkF ?_ ?_ ?_) (K53.mkF ?_ ?_ ?_) (K53.mkF ?_ ?_ ?_) (K53.mkF ?_ ?_ ?_) (K53.mkF ?_ ?_ ?_) (K53.mkF ?_ ?_ ?_) (K53.mkF ?_ ?_ ?_) (K53.mkF ?_ ?_ ?_) ?_ ?_ ?_ ?_ ?_ ?_ ?_ ?_ ?_ (K53.mkF ?_ ?_ ?_) ?_ ?_ ?_ ?_ ?_ ?_ ?_ ?_ ?_ ?_ ?_ ?_ ?_ ?_ ?_ ?_ ?_ ?_ ?_ ?_ ?_ ?_ ?_ ?_ ?_ ?_ ?_ ?_ ?_ ?_ ?_ ?_ ?_ ?_ ?_ ?_ ?_ ?_ ?_ ?_
  all_goals try (show _=_;first|k_is|kernel_rfl)
