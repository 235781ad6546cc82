import PyProof.Rows.All
import Wide.All
import OpenK.AllK
import Wide.FinOn
import Lean
import PyProof.EqAt
import PyProof.EqKinds
import PyProof.TupleCall
import PySem.Challenge.RW_stayprice_k55_looker_at_other_papers
set_option maxHeartbeats 0
set_option Elab.async false
set_option linter.all false
set_option maxRecDepth 100000
def zW3 := @_root_.List.length_map
def zW4 := @_root_.PySem.wpAny_bind
def zW5 := @_root_.PySem.Heap.get?_push_of_some
def zW6 := @_root_.List.getElem?_eq_getElem
def zW7 := @_root_.List.getElem?_eq_some_iff
def zW8 := @_root_.List.getD_eq_getElem?_getD
def zW9 := @_root_.Nat.le_refl
def zX0 := @_root_.List.mem_cons
def zX1 := @_root_.List.getElem?_map
def zX2 := @_root_.PySem.Heap.lt_size
def zX3 := @_root_.List.mem_cons_of_mem
def zX4 := @_root_.PySem.Heap.get?_push_size
def zX5 := @_root_.List.mem_singleton
def zX6 := @_root_.PySem.wpAny_pure
def zX7 := @_root_.List.mem_cons_self
def zX8 := @_root_.List.size_toArray
def zX9 := @_root_.List.length_cons
def zY0 := @_root_.Option.map_eq_some_iff
def zY1 := @_root_.Bool.false_ne_true
def zY2 := @_root_.List.map_cons
def zY3 := @_root_.List.not_mem_nil
def zY4 := @_root_.Nat.ne_of_lt
def zY5 := @_root_.Nat.le_of_ble_eq_true
def zY6 := @_root_.List.length_append
def zY7 := @_root_.Bool.and_eq_true
def zY8 := @_root_.Nat.zero_le
def zY9 := @_root_.Nat.lt_of_lt_of_le
def zZ0 := @_root_.PySem.Heap.get?_update_other
def zZ1 := @_root_.decide_eq_false
def zZ2 := @_root_.Option.some.inj
def zZ3 := @_root_.PySem.W.mg_none_of
def zZ4 := @_root_.List.length_take
def zZ5 := @_root_.decide_eq_true_eq
def zZ6 := @_root_.List.map_map
def zZ7 := @_root_.PyProof.Rows.callWith_type1
def zZ8 := @_root_.Ne.symm
def zZ9 := @_root_.List.map_append
def z00 := @_root_.List.mem_append_right
def z01 := @_root_.Bool.false_and
def z02 := @_root_.decide_eq_true
def z03 := @_root_.Bool.true_and
def z04 := @_root_.Bool.eq_false_iff
def z05 := @_root_.Bool.false_eq_true
def z06 := @_root_.List.mem_map
def z07 := @_root_.or_false
def z08 := @_root_.List.nil_append
def z09 := @_root_.PySem.wpAny_truthy_bool
def z20 := @_root_.List.mem_append
def z21 := @_root_.of_decide_eq_true
def z22 := @_root_.PySem.wpAny_mono
def z23 := @_root_.Int.le_refl
def z24 := @_root_.Nat.le_trans
def z25 := @_root_.List.lookup_cons
def z26 := @_root_.PySem.W.mg_of
def z27 := @_root_.List.mem_of_getElem?
def z28 := @_root_.List.getElem_mem
def z29 := @_root_.PySem.mem_of_lookup
def z30 := @_root_.Int.toNat_natCast
def z31 := @_root_.List.sum_cons
def z32 := @_root_.List.getElem?_set_ne
def z33 := @_root_.List.length_set
def z34 := @_root_.PySem.sizeLine_eq
def z35 := @_root_.Nat.lt_irrefl
def z36 := @_root_.PySem.wpAny_holding
def z37 := @_root_.PySem.Heap.size_push
def z38 := @_root_.PySem.wpAny_seqItems
def z39 := @_root_.PySem.W.kia_one
def z40 := @_root_.List.append_nil
def z41 := @_root_.List.find?_cons
def z42 := @_root_.PySem.PassesOwn.never
def z43 := @_root_.PySem.F.plain_min_loop
def z44 := @_root_.List.getElem?_append_left
def z45 := @_root_.PySem.F.plain_extend_loop
def z46 := @_root_.List.length_singleton
def z47 := @_root_.PySem.F.slot_zip_next
def z48 := @_root_.Nat.le_of_lt
def z49 := @_root_.List.length_drop
def z50 := @_root_.Int.eq_ofNat_of_zero_le
def z51 := @_root_.PySem.wpAny_pyIter_list
def z52 := @_root_.List.take_add_one
def z53 := @_root_.Option.isSome_map
def z54 := @_root_.PySem.wpAny_updateSeq
def z55 := @_root_.List.length_reverse
def z56 := @_root_.PySem.wpAny_nextOf_list_item
def z57 := @_root_.if_false
def z58 := @_root_.Nat.le_succ
def z59 := @_root_.Bool.eq_iff_iff
def z60 := @_root_.Bool.or_eq_true
def z61 := @_root_.PyProof.Rows.get?_update_seq
def z62 := @_root_.List.getElem?_replicate
def z63 := @_root_.beq_eq_false_iff_ne
def z64 := @_root_.List.all_eq_true
def z65 := @_root_.List.cons_append
def z66 := @_root_.List.take_length
def z67 := @_root_.List.getElem?_set_self
def z68 := @_root_.PySem.wpAny_letGo
def z69 := @_root_.PySem.wpAny_field
def z70 := @_root_.of_decide_eq_false
def z71 := @_root_.List.pairwise_cons
def z72 := @_root_.PySem.wpAny_passesOwn
def z73 := @_root_.List.getElem?_eq_none
def z74 := @_root_.List.getElem?_append_right
def z75 := @_root_.List.any_cons
def z76 := @_root_.PySem.plainId_quiet
def z77 := @_root_.Bool.false_or
def z78 := @_root_.List.mem_append_left
def z79 := @_root_.List.drop_eq_getElem_cons
def z80 := @_root_.PySem.Around.under_plainId
def z81 := @_root_.List.mem_of_mem_take
def z82 := @_root_.PySem.boot_len
def z83 := @_root_.Nat.ne_of_gt
def z84 := @_root_.Nat.lt_succ_self
def z85 := @_root_.Nat.lt_or_ge
def z86 := @_root_.List.filter_cons
def z87 := @_root_.List.map_congr_left
def z88 := @_root_.if_true
def z89 := @_root_.PySem.wpAny_Call_Name_kw
def z90 := @_root_.PyProof.Rows.boot_isinstance
def z91 := @_root_.PySem.wpAny_ite_split
def z92 := @_root_.Int.natCast_add
def z93 := @_root_.List.getElem?_drop
def z94 := @_root_.Int.emod_lt_of_pos
def z95 := @_root_.List.take_of_length_le
def z96 := @_root_.PySem.Heap.get?_update_self
def z97 := @_root_.PySem.builtinLookup_eq_fast
def z98 := @_root_.List.mem_iff_getElem
def z99 := @_root_.Bool.or_false
def ya0 := @_root_.List.filterMap_cons
def ya1 := @_root_.PySem.Heap.SameBut.update
def ya2 := @_root_.List.take_succ_cons
def ya3 := @_root_.List.map_eq_nil_iff
def ya4 := @_root_.Array.Perm.refl
def ya5 := @_root_.List.pairwise_iff_getElem
def ya6 := @_root_.PySem.wpAny_specialOf
def ya7 := @_root_.Nat.div_add_mod
def ya8 := @_root_.PySem.codeAny_builtin
def ya9 := @_root_.List.length_nil
def yb0 := @_root_.List.foldl_cons
def yb1 := @_root_.Int.emod_nonneg
def yb2 := @_root_.Option.isSome_iff_exists
def yb3 := @_root_.List.getElem?_take_of_lt
def yb4 := @_root_.List.map_nil
def yb5 := @_root_.PySem.wpAny_setField_rec
def yb6 := @_root_.PySem.tupleKind_room_in1
def yb7 := @_root_.List.getElem?_cons_succ
def yb8 := @_root_.decide_eq_false_iff_not
def yb9 := @_root_.PySem.wpAny_callSpecial?_slot
def yc0 := @_root_.PySem.F.args_zip_next_1
def yc1 := @_root_.Nat.lt_succ_of_lt
def yc2 := @_root_.PySem.F.entry_zip_next
def yc3 := @_root_.PySem.F.entry_min_loop
def yc4 := @_root_.List.all_cons
def yc5 := @_root_.PySem.strLen_append
def yc6 := @_root_.List.drop_length
def yc7 := @_root_.PySem.wpAny_call_entry
def yc8 := @_root_.PySem.W.methodCall_KW
def yc9 := @_root_.List.mem_filter
def yd0 := @_root_.PySem.wpAny_execs_nil
def yd1 := @_root_.Nat.le_of_eq
def yd2 := @_root_.PySem.codeAny_mono
def yd3 := @_root_.List.nodup_cons
def yd4 := @_root_.PySem.wpAny_loadPart'
def yd5 := @_root_.List.forIn_cons
def yd6 := @_root_.List.range_succ
def yd7 := @_root_.Nat.mul_le_mul_right
def yd8 := @_root_.PySem.typeLookup_type
def yd9 := @_root_.Bool.true_or
def ye0 := @_root_.Array.length_toList
def ye1 := @_root_.PySem.W.plainGet_of
def ye2 := @_root_.List.mem_filterMap
def ye3 := @_root_.PySem.W.callWith_K
def ye4 := @_root_.List.forIn_toArray
def ye5 := @_root_.List.map_take
def ye6 := @_root_.Bool.and_self
noncomputable section
namespace L2
open PySem PySem.Spec PyProof.Rows
abbrev Key :=Sum Int Str
noncomputable def qZ :Key->Value->Bool
 |.inl k,v=>Value.isInt k v
 |.inr x,v=>Value.isStrOf x v
noncomputable def zV7 (w:World):Key->Int
 |.inl k=>hashInt k
 |.inr x=>hashStr w x
theorem yk :∀{k:Key} {v:Value},qZ k v=true->(∃i t,k=Sum.inl i/\v=Value.int i t)\/(∃x t,k=Sum.inr x/\v=Value.str x t)
 |.inl i,v,h=>by
  obtain⟨t,e⟩:=Value.isInt_shape (k:=i) (v:=v) h;exact .inl ⟨i,t,rfl,e⟩
 |.inr x,v,h=>by
  obtain⟨t,e⟩:=Value.isStrOf_shape (x:=x) (v:=v) h;exact .inr ⟨x,t,rfl,e⟩
theorem dq (i:Int)(t:Tok):qZ (.inl i) (.int i t)=true:=by simp[qZ,Value.isInt]
theorem cn (x:Str)(t:Tok):qZ (.inr x) (.str x t)=true:=by simp[qZ,Value.isStrOf]
theorem zE2 (a b:Int):decide ((Sum.inl a:Key)=Sum.inl b)=(a == b):=by
 by_cases e:a=b
 ·subst e;simp
 ·have h:¬(Sum.inl a:Key)=Sum.inl b:=fun q=>e (Sum.inl.inj q);rw[zZ1 h];exact (z63.mpr e).symm
theorem zI6 (a b:Str):decide ((Sum.inr a:Key)=Sum.inr b)=decide (a=b):=by
 by_cases e:a=b
 ·subst e;simp
 ·have h:¬(Sum.inr a:Key)=Sum.inr b:=fun q=>e (Sum.inr.inj q);rw[zZ1 h,zZ1 e]
theorem zI2 (a:Int)(b:Str):decide ((Sum.inl a:Key)=Sum.inr b)=false:=zZ1 (fun q=>nomatch q)
theorem zG5 (a:Str)(b:Int):decide ((Sum.inr a:Key)=Sum.inl b)=false:=zZ1 (fun q=>nomatch q)
noncomputable def yh (prog:Program)(w:World):PySem.KeyKind prog w Key where
 is:=qZ
 hash:=zV7 w
 inj:=fun v a b ha hb=>by
  rcases yk ha with ⟨i,t,rfl,rfl⟩|⟨x,t,rfl,rfl⟩
  ·rcases yk hb with ⟨j,u,rfl,e⟩|⟨y,u,rfl,e⟩
   ·injection e with e1 _;rw[e1]
   ·exact nomatch e
  ·rcases yk hb with ⟨j,u,rfl,e⟩|⟨y,u,rfl,e⟩
   ·exact nomatch e
   ·injection e with e1 _;rw[e1]
 byValue:=fun k v h=>by
  rcases yk h with ⟨i,t,rfl,rfl⟩|⟨x,t,rfl,rfl⟩<;>rfl
 pyHash:=fun hv h=>by
  rcases yk hv with ⟨i,t,rfl,rfl⟩|⟨x,t,rfl,rfl⟩
  ·exact wpAny_pyHash_int h
  ·exact wpAny_pyHash_str h
 eqBool:=fun hu hv h=>by
  rcases yk hu with ⟨i,t,rfl,rfl⟩|⟨x,t,rfl,rfl⟩
  ·rcases yk hv with ⟨j,u,rfl,rfl⟩|⟨y,u,rfl,rfl⟩
   ·rw[zE2] at h;exact wpAny_eqBool_int h
   ·rw[zI2] at h;exact SeqAt.EqAt.int_str i t y u _ _ _ _ h
  ·rcases yk hv with ⟨j,u,rfl,rfl⟩|⟨y,u,rfl,rfl⟩
   ·rw[zG5] at h;exact SeqAt.EqAt.str_int x t j u _ _ _ _ h
   ·rw[zI6] at h;exact wpAny_eqBool_str h
 «strs»:=fun k x t v h=>by
  rcases yk h with ⟨i,u,rfl,e⟩|⟨y,u,rfl,e⟩
  ·exact nomatch e
  ·injection e with e1 _;subst e1;cases v<;>rfl
theorem lB (prog:Program)(w:World)(i:Int)(t:Tok):(yh prog w).is (.inl i) (.int i t)=true:=dq i t
theorem ly (prog:Program)(w:World)(x:Str)(t:Tok):(yh prog w).is (.inr x) (.str x t)=true:=cn x t
inductive V where
 |non|bl (b:Bool)|int (i:Int)|str (x:Str)|byt (b:Array UInt8)|flt (b:UInt64)|ref (a:Addr)|ty (n:String)
 deriving DecidableEq
def RelV :V->Value->Prop
 |.non,u=>u=Value.none
 |.bl b,u=>u=Value.bool b
 |.int i,u=>∃t,u=Value.int i t
 |.str x,u=>∃t,u=Value.str x t
 |.byt b,u=>∃t,u=Value.bytes b t
 |.flt b,u=>∃t,u=Value.float b t
 |.ref a,u=>u=Value.ref a
 |.ty n,u=>u=Value.type n
abbrev Vals :List V->List Value->Prop:=Paired RelV
theorem Vals.length {xs:List V}{us:List Value}(r:Vals xs us):xs.length=us.length:=Paired.length r
theorem Vals.get :∀{xs:List V} {us:List Value} {i:Nat} {x:V},Vals xs us->xs[i]?=some x->∃u,us[i]?=some u/\RelV x u
 |_,_,_,_,.nil,e=>by simp at e
 |_,_,0,_,.cons r _,e=>by simp at e;subst e;exact⟨_,rfl,r⟩
 |_,_,i+1,x,.cons _ t,e=>by
  obtain⟨u,h1,h2⟩:=Vals.get (i:=i) (x:=x) t (by simpa using e);exact⟨u,by simpa using h1,h2⟩
theorem Vals.set {x:V}{u:Value}(r:RelV x u):∀{xs:List V} {us:List Value} (i:Nat),Vals xs us->Vals (xs.set i x) (us.set i u)
 |_,_,_,.nil=>.nil
 |_,_,0,.cons _ t=>.cons r t
 |_,_,i+1,.cons q t=>.cons q (Vals.set r i t)
theorem Vals.append :∀{xs ys:List V} {us ws:List Value},Vals xs us->Vals ys ws->Vals (xs++ys) (us++ws)
 |_,_,_,_,.nil,s=>s
 |_,_,_,_,.cons r t,s=>.cons r (Vals.append t s)
theorem Vals.take :∀{xs:List V} {us:List Value} (n:Nat),Vals xs us->Vals (xs.take n) (us.take n)
 |_,_,0,_=>.nil
 |_,_,_+1,.nil=>.nil
 |_,_,n+1,.cons r t=>.cons r (Vals.take n t)
theorem Vals.drop :∀{xs:List V} {us:List Value} (n:Nat),Vals xs us->Vals (xs.drop n) (us.drop n)
 |_,_,0,r=>r
 |_,_,_+1,.nil=>.nil
 |_,_,n+1,.cons _ t=>Vals.drop n t
def uq :Option V->Option Value->Prop
 |some v,some u=>RelV v u
 |none,none=>True
 |_,_=>False
def KV {κ:Type}:List (κ×V)->List (κ×Value)->Prop:=Paired fun (p:κ×V) (q:κ×Value)=>p.1=q.1/\RelV p.2 q.2
noncomputable def kV :Key->V
 |.inl i=>.int i
 |.inr x=>.str x
inductive HO where
  |lst (xs:List V)
  |tup (xs:List V)
  |dK (kvs:List (Key×V))|dT (kvs:List (List Key×V))
  |set (S:Int->Bool) (n:Nat)
  |ins (C dx:Addr) (fs:List (Str×V))
  |own (x:Addr)
  |xd (fs:List (Str×V))
  |met (f x:Addr)
  |rng (lo hi:Int)
  |frz (o:Obj) (u:HO)
  |tbl (ps:Array Value)
  |ext (φ:Heap->Prop)
abbrev Hp :=Addr->Option HO
noncomputable def upd (H:Hp)(a:Addr)(o:HO):Hp:=fun b=>if b=a then some o else H b
theorem zk {H:Hp}{a:Addr}{o:HO}:upd H a o a=some o:=by unfold upd;rw[if_pos rfl]
theorem zg {H:Hp}{a b:Addr}{o:HO}(h:b≠a):upd H a o b=H b:=by unfold upd;rw[if_neg h]
theorem rq {H:Hp}{a:Addr}{o u:HO}:upd (upd H a o) a u=upd H a u:=by funext b;unfold upd;split<;>rfl
theorem za5 {H:Hp}{a b:Addr}{o u:HO}(h:H a=some o)(h':H b=some u)(d:o≠u):a≠b:=by intro e;subst e;rw[h] at h';exact d (zZ2 h')
theorem zo {H:Hp}{a b:Addr}{o:HO}(h:H a=some o)(h':H b=none):a≠b:=by intro e;subst e;rw[h] at h';cases h'
section
variable (P:Program)(w:World)
def zS (H:Hp)(h:Heap)(a:Addr):HO->Prop
 |.lst xs=>xs.length<=sizeLine/\∃(its:List Value) (n:Nat),Vals xs its/\h.get? a=some {cls:=.type "list",data:=.seq its.toArray n}
 |.tup xs=>xs.length<=sizeLine/\∃its:List Value,Vals xs its/\IsTup h a its.toArray
 |.dK kvs=>kvs.length<=sizeLine/\(a == sysModules)=false/\∃vs,KV kvs vs/\h.DictOf (yh P w) a vs
 |.dT kvs=>kvs.length<=sizeLine/\(a == sysModules)=false/\∃xs:List (List Key×Addr×Value),
   Paired (fun (p:List Key×V) (q:List Key×Addr×Value)=>p.1=q.1/\H q.2.1=some (.tup (p.1.map kV))/\RelV p.2 q.2.2) kvs xs/\
   ∃o es ep,h.get? a=some o/\o.ExactDict/\o.data=.dict es ep/\es.toList=xs.map (entryOfKey (tupleKind (yh P w)))/\(xs.map (·.1)).Nodup
 |.set S n=>h.SetOf (intKind P w) a S n
 |.ins C dx fs=>H dx=some (.own a)/\fs.length<=1000/\dx≠a/\h.get? a=some (PySem.W.instObj C dx)/\
   ∃mA,h.Ns1 dx mA/\(∀f,uq (fs.lookup f) (mA f))/\PySem.Within mA (fs.map (·.1))
 |.own _=>∃o,h.get? a=some o
 |.xd fs=>∃mA,h.Ns1 a mA/\∀f,uq (fs.lookup f) (mA f)
 |.rng lo hi=>∃t u v,h.get? a=some {cls:=.type "range",data:=.fields #[.int lo t,.int hi u,.int 1 v]}
 |.frz o u=>h.get? a=some o/\zS H h a u
 |.tbl ps=>h.get? a=some {cls:=.none,data:=.fields ps}
 |.met f x=>h.get? a=some (PySem.W.methodObj (.ref f) (.ref x))
 |.ext φ=>φ h/\(∃o,h.get? a=some o)/\∀h1 h2:Heap,φ h1->(∀o,h1.get? a=some o->h2.get? a=some o)->φ h2
def HOk (H:Hp)(h:Heap):Prop:=∀a o,H a=some o->zS P w H h a o
end
section
variable {P:Program}{w:World}{H H':Hp}{h h':Heap}{a:Addr}{o:HO}
theorem zS.lt (x:zS P w H h a o):a<h.objs.size:=by
 cases o with
 |lst xs=>obtain⟨_,_,_,_,e⟩:=x;exact zX2 e
 |tup xs=>obtain⟨_,_,_,p⟩:=x;exact p.lt
 |dK kvs=>obtain⟨_,_,_,_,o,_,_,e,_⟩:=x;exact zX2 e
 |dT kvs=>obtain⟨_,_,_,_,o,_,_,e,_⟩:=x;exact zX2 e
 |set S n=>obtain⟨o,_,_,_,e,_⟩:=x;exact zX2 e
 |ins C dx fs=>obtain⟨_,_,_,e,_⟩:=x;exact zX2 e
 |own y=>obtain⟨_,e⟩:=x;exact zX2 e
 |xd fs=>obtain⟨_,⟨_,_,_,e,_⟩,_⟩:=x;exact zX2 e
 |rng lo hi=>obtain⟨_,_,_,e⟩:=x;exact zX2 e
 |frz ob u=>obtain⟨e,_⟩:=x;exact zX2 e
 |tbl ps=>exact zX2 (show h.get? a=some _ from x)
 |met f y=>exact zX2 (show h.get? a=some _ from x)
 |ext φ=>obtain⟨_,⟨_,e⟩,_⟩:=x;exact zX2 e
theorem Paired.mapP {α β:Type}{F G:α->β->Prop}:∀{l₁:List α} {l₂:List β},Paired F l₁ l₂->(∀a b,F a b->G a b)->Paired G l₁ l₂
 |_,_,.nil,_=>.nil
 |_,_,.cons r t,f=>.cons (f _ _ r) (Paired.mapP t f)
theorem zS.stay (x:zS P w H h a o)(k:∀b u,(b=a\/H b=some (.own a))->h.get? b=some u->h'.get? b=some u)
  (ho:∀b,H b=some (.own a)->H' b=some (.own a)) (ht:∀b xs,H b=some (.tup xs)->H' b=some (.tup xs)):zS P w H' h' a o:=by
 induction o with
 |lst xs=>obtain⟨z,its,n,r,e⟩:=x;exact⟨z,its,n,r,k _ _ (.inl rfl) e⟩
 |tup xs=>obtain⟨z,its,r,ob,e,c⟩:=x;exact⟨z,its,r,ob,k _ _ (.inl rfl) e,c⟩
 |dK kvs=>obtain⟨z,y,vs,r,ob,es,ep,e,c⟩:=x;exact⟨z,y,vs,r,ob,es,ep,k _ _ (.inl rfl) e,c⟩
 |dT kvs=>
  obtain⟨z,y,xs,r,ob,es,ep,e,c⟩:=x;exact⟨z,y,xs,Paired.mapP r fun p q z=>⟨z.1,ht _ _ z.2.1,z.2.2⟩,ob,es,ep,k _ _ (.inl rfl) e,c⟩
 |set S n=>obtain⟨ob,es,ep,t,e,c⟩:=x;exact⟨ob,es,ep,t,k _ _ (.inl rfl) e,c⟩
 |ins C dx fs=>
  obtain⟨d,z,ne,e,mA,⟨od,es,ep,e2,c⟩,r⟩:=x;exact⟨ho _ d,z,ne,k _ _ (.inl rfl) e,mA,⟨od,es,ep,k _ _ (.inr d) e2,c⟩,r⟩
 |own y=>obtain⟨ob,e⟩:=x;exact⟨ob,k _ _ (.inl rfl) e⟩
 |xd fs=>obtain⟨mA,⟨od,es,ep,e,c⟩,r⟩:=x;exact⟨mA,⟨od,es,ep,k _ _ (.inl rfl) e,c⟩,r⟩
 |rng lo hi=>obtain⟨t,u,v,e⟩:=x;exact⟨t,u,v,k _ _ (.inl rfl) e⟩
 |frz ob u ih=>obtain⟨e,q⟩:=x;exact⟨k _ _ (.inl rfl) e,ih q⟩
 |tbl ps=>
  have e:h.get? a=some {cls:=.none,data:=.fields ps}:=x;show h'.get? a=some {cls:=.none,data:=.fields ps};exact k a _ (.inl rfl) e
 |met f y=>
  have e:h.get? a=some (PySem.W.methodObj (.ref f) (.ref y)):=x;show h'.get? a=some (PySem.W.methodObj (.ref f) (.ref y));exact k a _ (.inl rfl) e
 |ext φ=>obtain⟨p,⟨o,e⟩,st⟩:=x;exact⟨st _ _ p fun o q=>k _ _ (.inl rfl) q,⟨o,k _ _ (.inl rfl) e⟩,st⟩
theorem HOk.lt (x:HOk P w H h)(e:H a=some o):a<h.objs.size:=(x a o e).lt
theorem HOk.fresh (x:HOk P w H h)(e:h.objs.size<=a):H a=none:=by
 cases q:H a with
 |none=>rfl
 |some u=>exact absurd (zY9 (x.lt q) e) (z35 _)
theorem HOk.kept (x:HOk P w H h)(k:∀b u,h.get? b=some u->h'.get? b=some u):HOk P w H h':=fun a o e=>
 (x a o e).stay (fun b u _ q=>k b u q) (fun _ q=>q) fun _ _ q=>q
theorem HOk.laid (x:HOk P w H h)(k:∀b u,h.get? b=some u->h'.get? b=some u)(hp:h.objs.size<=a)(new:zS P w (upd H a o) h' a o):HOk P w (upd H a o) h':=fun b u e=>by
 have hn:=x.fresh hp;by_cases hb:b=a
 ·subst hb;rw[zk] at e;cases e;exact new
 ·rw[zg hb] at e;exact (x b u e).stay (fun c v _ q=>k c v q) (fun c q=>by rw[zg (zo q hn)];exact q) fun c xs q=>by rw[zg (zo q hn)];exact q
end
def Rd (H:Hp)(a:Addr)(u:HO):Prop:=H a=some u\/∃o,H a=some (.frz o u)
theorem Rd.ok {P:Program}{w:World}{H:Hp}{h:Heap}{a:Addr}{u:HO}(r:Rd H a u)(x:HOk P w H h):zS P w H h a u:=by
 rcases r with r|⟨o,r⟩
 ·exact x a u r
 ·obtain⟨_,q⟩:=x a _ r;exact q
def Mut :Option HO->Prop
 |some (.lst _)=>True
 |some (.dK _)=>True
 |some (.dT _)=>True
 |some (.set _ _)=>True
 |some (.ins _ _ _)=>True
 |some (.ext _)=>True
 |_=>False
section
variable {P:Program}{w:World}{H:Hp}{h h':Heap}{x e:Addr}{o':HO}
theorem HOk.write (ok:HOk P w H h)(mu:Mut (H x))(he:e=x\/H e=some (.own x))(k:∀b u,b≠e->h.get? b=some u->h'.get? b=some u)(heo:∃u,h'.get? e=some u)
  (new:zS P w (upd H x o') h' x o'):HOk P w (upd H x o') h':=fun b u q=>by
 have nown:∀c y,H c=some (.own y)->c≠x:=fun c y r z=>by subst z;rw[r] at mu;exact mu
 have ntup:∀c xs,H c=some (.tup xs)->c≠x:=fun c xs r z=>by subst z;rw[r] at mu;exact mu
 by_cases hb:b=x
 ·subst hb;rw[zk] at q;cases q;exact new
 ·rw[zg hb] at q;by_cases hbe:b=e
  ·have q':H b=some (.own x):=by
    rcases he with z|z
    ·exact absurd (hbe.trans z) hb
    ·rw[hbe];exact z
   rw[q] at q';cases q';obtain⟨v,hv⟩:=heo;exact⟨v,by rw[hbe];exact hv⟩
  ·refine (ok b u q).stay (fun c v hc r=>k c v ?_ r) (fun c r=>by rw[zg (nown c b r)];exact r) fun c xs r=>by rw[zg (ntup c xs r)];exact r
   rcases hc with rfl|hc
   ·exact hbe
   ·rintro rfl;rcases he with z|z
    ·exact nown c b hc z
    ·rw[hc] at z;cases z;exact hb rfl
end
structure Un (fs ex:List Addr)(H H':Hp)(h h':Heap):Prop where
 keep:∀b o,h.get? b=some o->H b=none->b∉fs->b∉ex->h'.get? b=some o
 slot:∀b o,h.get? b=some o->H b=none->b∈fs->b∉ex->∃sl,h'.get? b=some {o with slots:=sl}
 free:∀b o,h.get? b=some o->H b=none->b∉ex->H' b=none
 there:∀b o,h.get? b=some o->b∉ex->∃o',h'.get? b=some o'
 tups:∀b xs,H b=some (.tup xs)->H' b=some (.tup xs)
 frzs:∀b o u,H b=some (.frz o u)->H' b=some (.frz o u)
 tbls:∀b ps,H b=some (.tbl ps)->∃more,H' b=some (.tbl (ps++more))
section
variable {fs fs' ex ex':List Addr}{H H1 H2:Hp}{h h1 h2 h':Heap}{a x e:Addr}{o:HO}
theorem Un.any (u:Un fs ex H H1 h h1){b:Addr}{ob:Obj}(q:h.get? b=some ob)(n:H b=none)(hx:b∉ex):∃sl,h1.get? b=some {ob with slots:=sl}:=by
 by_cases hb:b∈fs
 ·exact u.slot b ob q n hb hx
 ·exact⟨ob.slots,u.keep b ob q n hb hx⟩
theorem Un.kept (k:∀b u,h.get? b=some u->h'.get? b=some u):Un fs ex H H h h':=
 ⟨fun b ob q _ _ _=>k b ob q,fun b ob q _ _ _=>⟨ob.slots,k b ob q⟩,fun _ _ _ n _=>n,fun b ob q _=>⟨ob,k b ob q⟩,fun _ _ q=>q,fun _ _ _ q=>q,fun _ ps q=>⟨#[],by rw[q];simp⟩⟩
theorem Un.refl :Un fs ex H H h h:=Un.kept fun _ _ q=>q
theorem Un.laid (k:∀b u,h.get? b=some u->h'.get? b=some u)(hp:h.objs.size<=a)(hn:H a=none):Un fs ex H (upd H a o) h h' where
 keep:=fun b u q _ _ _=>k b u q
 slot:=fun b u q _ _ _=>⟨u.slots,k b u q⟩
 free:=fun b u q n _=>by rw[zg (zY4 (zY9 (zX2 q) hp))];exact n
 there:=fun b u q _=>⟨u,k b u q⟩
 tups:=fun b xs q=>by rw[zg (zo q hn)];exact q
 frzs:=fun b u xs q=>by rw[zg (zo q hn)];exact q
 tbls:=fun b ps q=>⟨#[],by rw[zg (zo q hn),q];simp⟩
theorem Un.write (mu:Mut (H x))(he:e=x\/H e=some (.own x))(k:∀b u,b≠e->h.get? b=some u->h'.get? b=some u)(heo:∃u,h'.get? e=some u):Un fs ex H (upd H x o) h h':=by
 have hx:∀b,H b=none->b≠x:=fun b n z=>by subst z;rw[n] at mu;exact mu
 have hb:∀b,H b=none->b≠e:=fun b n z=>by
  subst z;rcases he with r|r
  ·exact hx b n r
  ·rw[n] at r;cases r
 have hm:∀b u,H b=some u->¬Mut (some u)->b≠x:=fun b u q nm z=>by subst z;rw[q] at mu;exact nm mu
 refine⟨fun b u q n _ _=>k b u (hb b n) q,fun b u q n _ _=>⟨u.slots,k b u (hb b n) q⟩,fun b u q n _=>by rw[zg (hx b n)];exact n,fun b u q _=>?_,
  fun b xs q=>by rw[zg (hm b _ q fun z=>z)];exact q,fun b u xs q=>by rw[zg (hm b _ q fun z=>z)];exact q,fun b ps q=>⟨#[],by rw[zg (hm b _ q fun z=>z),q];simp⟩⟩
 by_cases hbe:b=e
 ·subst hbe;exact heo
 ·exact⟨u,k b u hbe q⟩
end
noncomputable def trk (h:Heap)(H:Hp):List Addr:=(List.range h.objs.size).filter fun a=>(H a).isSome
noncomputable def ph (h:Heap)(H:Hp):Heap:=PySem.W.hideAll h (trk h H)
theorem cW (h:Heap)(H:Hp):(ph h H).objs.size=h.objs.size:=PySem.W.hideAll_size _ _
theorem aa {h:Heap}{H:Hp}{b:Addr}{o:Obj}(e:h.get? b=some o)(n:H b=none):(ph h H).get? b=some o:=
 PySem.W.hideAll_get _ e fun hm=>by
  have q:(H b).isSome=true:=(yc9.mp hm).2;rw[n] at q;simp at q
theorem zq4 {h:Heap}{H:Hp}{b:Addr}{o:Obj}(e:(ph h H).get? b=some o):h.get? b=some o/\H b=none:=by
 have e':h.get? b=some o:=PySem.W.of_hideAll (trk h H) e;refine⟨e',?_⟩;cases q:H b with
 |none=>rfl
 |some x=>
  have hm:b∈trk h H:=yc9.mpr ⟨List.mem_range.mpr (zX2 e'),by simp[q]⟩;have z:(ph h H).get? b=none:=PySem.W.hideAll_none (trk h H) hm;rw[z] at e;cases e
structure Mod (K:PySem.W.Frag)(mg:Str->Option Value)(base:Heap):Prop where
 kin:K.In base
 glob:base.Ns mainGlobals mg
 blt:∃mb,base.Ns builtinsNs mb/\∀x:Str,x≠"__name__"->mb x=bootBuiltins x
 nolimit:base.NoLimit
structure Cx where
 prog:Program
 w:World
 K:PySem.W.Frag
 mg:Str->Option Value
 base:Heap
 A:Around
 N:List Str
 s₀:Shared
 H₀:Hp
 env:Env
 outer:List Env
 stack:List Env
 ex:List Addr
 fn:Str->Bool
 calm:Bool
 pn:List (Addr×Obj)
 xe:Value->Shared->Prop
noncomputable def frs (l:List Env):List Addr:=l.filterMap (·.frame)
noncomputable abbrev Cx.fs (X:Cx):List Addr:=frs X.outer
def Vis (sc:Scope)(x:Str):Prop:=sc.names.lookup x=some .local\/sc.names.lookup x=some .cell\/sc.names.lookup x=some .free
def Loc (sc:Scope)(x:Str):Prop:=sc.names.lookup x=some .local\/sc.names.lookup x=some .cell
def Look (env:Env)(h:Heap)(m:Str->Option Value)(x:Str)(u:Value):Prop:=
 (env.kindOf x=some .local/\m x=some u)\/((env.kindOf x=some .cell\/env.kindOf x=some .free)/\∃c,env.cells.lookup x=some c/\h.IsCell c (some u))
structure Cx.Ok (X:Cx):Prop where
 mod:Mod X.K X.mg X.base
 kind:X.env.scope.kind=.function
 glob:X.env.globals=mainGlobals
 blt:X.env.builtins=builtinsNs
 above:X.s₀.heap.objs.size<=X.env.locals
 inj:∀x y c,X.env.cells.lookup x=some c->X.env.cells.lookup y=some c->x=y
 has:∀x,(X.env.kindOf x=some .cell\/X.env.kindOf x=some .free)->∃c,X.env.cells.lookup x=some c
 cab:∀x c,X.fn x=true->X.env.cells.lookup x=some c->X.s₀.heap.objs.size<=c
 hd:X.calm=true->X.A.handled=none
 frames:X.A.frames=some X.stack
 stk:X.stack=X.outer\/(X.stack=X.env::X.outer/\X.env.frame=some X.env.locals)
 exf:∀b∈X.ex,b≠X.env.locals/\∀x c,X.env.cells.lookup x=some c->c≠b
 bs:∀b o,X.base.get? b=some o->X.s₀.heap.get? b=some o/\X.H₀ b=none
 bsz:X.base.objs.size<=X.s₀.heap.objs.size
 noex:∀b o,X.base.get? b=some o->b∉X.ex
 exfs:∀b∈X.ex,b∉X.fs
 funs:X.s₀.heap.FunFrames X.base X.outer
 frf:∀b∈X.fs,X.H₀ b=none
structure Inv (X:Cx)(pins:List (Addr×Obj))(σ:List (Option V))(H:Hp)(s:Shared):Prop where
 ok:X.Ok
 os:s.os=X.s₀.os
 bare:AllBare s.gens
 base:Un X.fs X.ex X.H₀ H X.s₀.heap s.heap
 loc:∃m,s.heap.Ns X.env.locals m/\∀(i:Nat) (x:Str) (v:V),X.N[i]?=some x->σ[i]?=some (some v)->Vis X.env.scope x->∃u,RelV v u/\Look X.env s.heap m x u
 cell:∀x c,X.env.cells.lookup x=some c->∃v,s.heap.IsCell c v
 free:H X.env.locals=none
 freeC:∀x c,X.env.cells.lookup x=some c->H c=none
 pin:∀p∈X.pn++pins,s.heap.get? p.1=some p.2/\H p.1=none/\p.1≠X.env.locals/\p.1∉X.fs/\∀v,p.2.data≠.cell v
 hok:HOk X.prog X.w H s.heap
 len:σ.length=X.N.length
section
variable {X:Cx}{pins:List (Addr×Obj)}{σ:List (Option V)}{H H':Hp}{s:Shared}{h':Heap}
theorem Cx.Ok.nofr (ok:X.Ok){b:Addr}{o:Obj}(e:X.base.get? b=some o):b∉X.fs:=fun hb=>by
 have:=(ok.funs.mem hb).1;rw[e] at this;cases this
theorem Inv.bs (I:Inv X pins σ H s):∀b o,X.base.get? b=some o->s.heap.get? b=some o/\H b=none:=fun b o e=>
 ⟨I.base.keep b o (I.ok.bs b o e).1 (I.ok.bs b o e).2 (I.ok.nofr e) (I.ok.noex b o e),I.base.free b o (I.ok.bs b o e).1 (I.ok.bs b o e).2 (I.ok.noex b o e)⟩
theorem Inv.bk (I:Inv X pins σ H s):∀b o,X.base.get? b=some o->s.heap.get? b=some o:=fun b o e=>(I.bs b o e).1
theorem Inv.mod (I:Inv X pins σ H s):Mod X.K X.mg X.base:=I.ok.mod
theorem Inv.kIn (I:Inv X pins σ H s):X.K.In s.heap:=I.ok.mod.kin.keeps I.bk
theorem Inv.lt (I:Inv X pins σ H s):X.env.locals<s.heap.objs.size:=let ⟨_,hn,_⟩:=I.loc;hn.lt
theorem Inv.sz (I:Inv X pins σ H s):X.s₀.heap.objs.size<=s.heap.objs.size:=z24 I.ok.above (z48 I.lt)
theorem Inv.nofs (I:Inv X pins σ H s){a:Addr}(h:s.heap.objs.size<=a):a∉X.fs:=fun hb=>by
 obtain⟨_,o,ho,_⟩:=I.ok.funs.mem hb;exact absurd (zY9 (zX2 ho) (z24 I.sz h)) (z35 _)
theorem Inv.cne (I:Inv X pins σ H s):∀x c,X.env.cells.lookup x=some c->c≠X.env.locals:=fun x c e z=>by
 obtain⟨v,o,ho,hd⟩:=I.cell x c e;obtain⟨m,⟨o',es,ep,ho',hd',_⟩,_⟩:=I.loc;rw[z,ho'] at ho;cases ho;rw[hd'] at hd;cases hd
theorem Inv.funs (I:Inv X pins σ H s):s.heap.FunFrames X.base X.outer:=by
 have all:∀(l:List Env),(∀b∈frs l,b∈X.fs)->X.s₀.heap.FunFrames X.base l->s.heap.FunFrames X.base l:=by
  intro l
  induction l with
  |nil=>intro _ _;trivial
  |cons env r ih=>
   intro hs hl;obtain⟨hk,⟨L,o,hf,hn,ho,hd⟩,hr⟩:=hl;have hL:L∈X.fs:=hs L (by unfold frs;rw[ya0,hf];exact zX7);obtain⟨sl,e⟩:=I.base.slot L o ho (I.ok.frf L hL) hL fun z=>I.ok.exfs L z hL;exact⟨hk,⟨L,_,hf,hn,e,hd⟩,ih (fun b hb=>hs b (by unfold frs;rw[ya0,hf];exact zX3 _ hb)) hr⟩
 exact all X.outer (fun _ hb=>hb) I.ok.funs
theorem Inv.stack (I:Inv X pins σ H s):s.heap.FunFrames X.base X.stack:=by
 rcases I.ok.stk with e|⟨e,hf⟩
 ·rw[e];exact I.funs
 ·rw[e];obtain⟨m,hn,_⟩:=I.loc;refine .cons (by rw[I.ok.kind];decide) hf hn ?_ I.funs;exact Heap.get?_none_of_le (z24 I.ok.bsz I.ok.above)
theorem Inv.stkSub (I:Inv X pins σ H s):∀b∈frs X.stack,b∈X.env.locals::X.fs:=fun b hb=>by
 rcases I.ok.stk with e|⟨e,hf⟩
 ·rw[e] at hb;exact zX3 _ hb
 ·rw[e] at hb;unfold frs at hb;rw[ya0,hf] at hb;exact hb
theorem Inv.stkFree (I:Inv X pins σ H s):∀b∈frs X.stack,H b=none:=fun b hb=>by
 rcases zX0.mp (I.stkSub b hb) with e|hb
 ·rw[e];exact I.free
 ·obtain⟨_,o,ho,_⟩:=I.ok.funs.mem hb;exact I.base.free b o ho (I.ok.frf b hb) fun z=>I.ok.exfs b z hb
theorem Inv.step {g':Array GenState}{t':Nat}{d':Drawn}{ch:List Addr}(I:Inv X pins σ H s)
  (hch:∀b∈ch,(b∈X.ex\/X.s₀.heap.objs.size<=b)/\b≠X.env.locals/\(∀x c,X.env.cells.lookup x=some c->c≠b)/\∀p∈X.pn++pins,p.1≠b)
  (keep:∀b o,b≠X.env.locals->b∉X.fs->b∉ch->s.heap.get? b=some o->H b=none->h'.get? b=some o)
  (slot:∀b o,b≠X.env.locals->b∈X.fs->b∉ch->s.heap.get? b=some o->H b=none->∃sl,h'.get? b=some {o with slots:=sl}) (free:∀b o,b∉ch->s.heap.get? b=some o->H b=none->H' b=none)
  (there:∀b o,b∉ch->s.heap.get? b=some o->∃o',h'.get? b=some o')
  (tups:∀b xs,H b=some (.tup xs)->H' b=some (.tup xs)) (frzs:∀b o u,H b=some (.frz o u)->H' b=some (.frz o u)) (tbls:∀b ps,H b=some (.tbl ps)->∃more,H' b=some (.tbl (ps++more)))
  (ns:∀m,s.heap.Ns X.env.locals m->h'.Ns X.env.locals m) (hok:HOk X.prog X.w H' h') (hg:AllBare g'):
  Inv X pins σ H' {s with heap:=h',gens:=g',drawn:=d',toks:=t'}:=by
 have neL:∀b o,X.s₀.heap.get? b=some o->b≠X.env.locals:=fun b o e=>zY4 (zY9 (zX2 e) I.ok.above);have neC:∀b o,X.s₀.heap.get? b=some o->b∉X.ex->b∉ch:=fun b o e hx hb=>by
  rcases (hch b hb).1 with z|z
  ·exact hx z
  ·exact absurd (zY9 (zX2 e) z) (z35 _)
 have cellK:∀x c,X.env.cells.lookup x=some c->∀v,s.heap.IsCell c v->h'.IsCell c v:=fun x c e v ⟨o,ho,hd⟩=>by
  have nch:c∉ch:=fun z=>(hch c z).2.2.1 x c e rfl;by_cases hc:c∈X.fs
  ·obtain⟨sl,q⟩:=slot c o (I.cne x c e) hc nch ho (I.freeC x c e);exact⟨_,q,hd⟩
  ·exact⟨o,keep c o (I.cne x c e) hc nch ho (I.freeC x c e),hd⟩
 refine⟨I.ok,I.os,hg,⟨fun b o e n hb hx=>?_,fun b o e n hb hx=>?_,fun b o e n hx=>?_,fun b o e hx=>?_,fun b xs e=>tups b xs (I.base.tups b xs e),fun b o xs e=>frzs b o xs (I.base.frzs b o xs e),fun b ps e=>?_⟩,?_,fun x c e=>?_,?_,fun x c e=>?_,fun p hp=>?_,hok,I.len⟩
 ·exact keep b o (neL b o e) hb (neC b o e hx) (I.base.keep b o e n hb hx) (I.base.free b o e n hx)
 ·obtain⟨sl,e1⟩:=I.base.slot b o e n hb hx;obtain⟨sl',e2⟩:=slot b _ (neL b o e) hb (neC b o e hx) e1 (I.base.free b o e n hx);exact⟨sl',e2⟩
 ·obtain⟨o',e1⟩:=I.base.there b o e hx;exact free b o' (neC b o e hx) e1 (I.base.free b o e n hx)
 ·obtain⟨o',e1⟩:=I.base.there b o e hx;exact there b o' (neC b o e hx) e1
 ·obtain⟨m1,e1⟩:=I.base.tbls b ps e;obtain⟨m2,e2⟩:=tbls b _ e1;exact⟨m1++m2,by rw[e2,Array.append_assoc]⟩
 ·obtain⟨m,hn,hl⟩:=I.loc;refine⟨m,ns m hn,fun i x v e1 e2 e3=>?_⟩;obtain⟨u,r,l⟩:=hl i x v e1 e2 e3;refine⟨u,r,?_⟩;rcases l with l|⟨k,c,e,z⟩
  ·exact .inl l
  ·exact .inr ⟨k,c,e,cellK x c e _ z⟩
 ·obtain⟨v,z⟩:=I.cell x c e;exact⟨v,cellK x c e v z⟩
 ·obtain⟨m,⟨o,_,_,ho,_⟩,_⟩:=I.loc;exact free _ o (fun z=>(hch _ z).2.1 rfl) ho I.free
 ·obtain⟨v,o,ho,hd⟩:=I.cell x c e;exact free c o (fun z=>(hch c z).2.2.1 x c e rfl) ho (I.freeC x c e)
 ·obtain⟨e,n,ne,nf,d⟩:=I.pin p hp;have nch:p.1∉ch:=fun z=>(hch p.1 z).2.2.2 p hp rfl;exact⟨keep p.1 p.2 ne nf nch e n,free p.1 p.2 nch e n,ne,nf,d⟩
theorem Inv.un {t':Nat}(I:Inv X pins σ H s)(u:Un X.fs [] H H' s.heap h')(hok:HOk X.prog X.w H' h'):Inv X pins σ H' {s with heap:=h',toks:=t'}:=by
 obtain⟨m,⟨o,es,ep,ho,r⟩,_⟩:=id I.loc;obtain⟨sl,hL⟩:=u.any ho I.free (by simp);exact I.step (g':=s.gens) (d':=s.drawn) (ch:=[]) (fun _ z=>nomatch z) (fun b o _ hb _ e n=>u.keep b o e n hb (by simp)) (fun b o _ hb _ e n=>u.slot b o e n hb (by simp)) (fun b o _ e n=>u.free b o e n (by simp)) (fun b o _ e=>u.there b o e (by simp)) u.tups u.frzs u.tbls (fun m' hm=>by
  obtain⟨o',es',ep',ho',r'⟩:=hm;rw[ho] at ho';cases ho';exact⟨_,es',ep',hL,r'⟩) hok I.bare
theorem Inv.call {g':Array GenState}{t':Nat}{d':Drawn}{ch:List Addr}(I:Inv X pins σ H s)(u:Un (frs X.stack) ch H H' s.heap h')(hok:HOk X.prog X.w H' h')(hg:AllBare g')
  (hch:∀b∈ch,(b∈X.ex\/X.s₀.heap.objs.size<=b)/\b≠X.env.locals/\(∀x c,X.env.cells.lookup x=some c->c≠b)/\∀p∈X.pn++pins,p.1≠b):
  Inv X pins σ H' {s with heap:=h',gens:=g',drawn:=d',toks:=t'}:=by
 obtain⟨m,⟨o,es,ep,ho,r⟩,_⟩:=id I.loc;obtain⟨sl,hL⟩:=u.any ho I.free fun z=>(hch _ z).2.1 rfl;exact I.step (ch:=ch) hch (fun b o hL hb hc e n=>u.keep b o e n (fun z=>(zX0.mp (I.stkSub b z)).elim hL hb) hc) (fun b o _ _ hc e n=>u.any e n hc) (fun b o hc e n=>u.free b o e n hc) (fun b o hc e=>u.there b o e hc) u.tups u.frzs u.tbls (fun m' hm=>by
  obtain⟨o',es',ep',ho',r'⟩:=hm;rw[ho] at ho';cases ho';exact⟨_,es',ep',hL,r'⟩) hok hg
theorem Inv.turned {t':Nat}{it:Addr}(I:Inv X pins σ H s)(k:∀b o,b≠it->s.heap.get? b=some o->h'.get? b=some o)(hn:H it=none)(hL:it≠X.env.locals)
  (h1:it∈X.ex\/X.s₀.heap.objs.size<=it) (h2:∀x c,X.env.cells.lookup x=some c->c≠it) (h3:∀p∈X.pn++pins,p.1≠it):Inv X pins σ H {s with heap:=h',toks:=t'}:=by
 have nit:∀b u,H b=some u->b≠it:=fun b u e z=>by rw[z,hn] at e;cases e
 refine I.step (g':=s.gens) (d':=s.drawn) (ch:=[it]) (fun b hb=>?_) (fun b o _ _ hc e _=>k b o (fun z=>hc (by simp[z])) e) (fun b o _ _ hc e _=>⟨o.slots,k b o (fun z=>hc (by simp[z])) e⟩) (fun _ _ _ _ n=>n)
  (fun b o hc e=>⟨o,k b o (fun z=>hc (by simp[z])) e⟩) (fun _ _ e=>e) (fun _ _ _ e=>e) (fun b ps e=>⟨#[],by rw[e];simp⟩) (fun m hm=>?_) (fun b u e=>?_) I.bare
 ·have e:b=it:=by simpa using hb
  subst e;exact⟨h1,hL,h2,h3⟩
 ·obtain⟨o,es,ep,ho,r⟩:=hm;exact⟨o,es,ep,k _ o (zZ8 hL) ho,r⟩
 ·refine (I.hok b u e).stay (fun c v hc q=>k c v ?_ q) (fun _ q=>q) fun _ _ q=>q;rcases hc with z|z
  ·rw[z];exact nit b u e
  ·exact nit c _ z
theorem Inv.tok (I:Inv X pins σ H s)(t:Nat):Inv X pins σ H {s with toks:=t}:=I.un (h':=s.heap) (t':=t) Un.refl I.hok
theorem Inv.kept {t':Nat}(I:Inv X pins σ H s)(k:∀b u,s.heap.get? b=some u->h'.get? b=some u):Inv X pins σ H {s with heap:=h',toks:=t'}:=I.un (Un.kept k) (I.hok.kept k)
theorem Inv.laid {a:Addr}{o:HO}{t':Nat}(I:Inv X pins σ H s)(k:∀b u,s.heap.get? b=some u->h'.get? b=some u)(hp:s.heap.objs.size<=a)(new:zS X.prog X.w (upd H a o) h' a o):
  Inv X pins σ (upd H a o) {s with heap:=h',toks:=t'}:=I.un (Un.laid k hp (I.hok.fresh hp)) (I.hok.laid k hp new)
theorem Inv.write {x e:Addr}{o:HO}{t':Nat}(I:Inv X pins σ H s)(mu:Mut (H x))(he:e=x\/H e=some (.own x))(k:∀b u,b≠e->s.heap.get? b=some u->h'.get? b=some u)(heo:∃u,h'.get? e=some u)
  (new:zS X.prog X.w (upd H x o) h' x o):Inv X pins σ (upd H x o) {s with heap:=h',toks:=t'}:=I.un (Un.write mu he k heo) (I.hok.write mu he k heo new)
theorem Inv.pins_of {pins':List (Addr×Obj)}(I:Inv X pins σ H s)(h:∀p∈pins',s.heap.get? p.1=some p.2/\H p.1=none/\p.1≠X.env.locals/\p.1∉X.fs/\∀v,p.2.data≠.cell v):Inv X pins' σ H s:=
 ⟨I.ok,I.os,I.bare,I.base,I.loc,I.cell,I.free,I.freeC,fun p hp=>(z20.mp hp).elim (fun z=>I.pin p (z78 _ z)) (h p),I.hok,I.len⟩
theorem mE {N:List Str}(hN:N.Nodup){i j:Nat}{x:Str}(a:N[i]?=some x)(b:N[j]?=some x):i=j:=by
 obtain⟨h1,e1⟩:=zW7.mp a;obtain⟨h2,e2⟩:=zW7.mp b;exact (List.getElem_inj hN).mp (e1.trans e2.symm)
theorem pL {M:Model}{A:Around}{E:Value->Shared->Prop}{i:Nat}{x:Str}{v:V}{u:Value}{Q:Unit->Shared->Prop}(I:Inv X pins σ H s)(hN:X.N.Nodup)(hi:X.N[i]?=some x)(hx:Loc X.env.scope x)(r:RelV v u)
  (h:∀s',Inv X pins (σ.set i (some v)) H s'->(∃a,Heap.SameBut a s.heap s'.heap/\(a=X.env.locals\/X.env.cells.lookup x=some a))->Q () s') (hf:X.fn x=true\/X.env.scope.names.lookup x=some .local:=by first|exact .inl rfl|exact .inr rfl|assumption):wpAny M A (storeName X.env x u) Q E s:=by
 obtain⟨m,hn,hl⟩:=id I.loc;have hcls:(X.env.scope.kind == .class||(X.env.scope.kind == .module&&X.env.locals != X.env.globals))=false:=by rw[I.ok.kind];rfl
 have hiσ:i<σ.length:=by rw[I.len];exact (zW7.mp hi).1
 have cne:=I.cne;have tracked:∀{a:Addr} {h':Heap},(∃o,s.heap.get? a=some o/\H a=none)->Heap.SameBut a s.heap h'->HOk X.prog X.w H h':=fun {a h'} ha hs b ob e=>by
  obtain⟨_,_,hfree⟩:=ha;refine (I.hok b ob e).stay (fun c w' hc q=>(hs.2 c ?_).trans q) (fun _ q=>q) fun _ _ q=>q;rintro rfl;rcases hc with rfl|hc
  ·rw[hfree] at e;cases e
  ·rw[hfree] at hc;cases hc
 rcases hx with hk|hk
 ·refine wpAny_storeName_local hk hn (fun h' hn' hs=>?_) hcls;obtain⟨oL,_,_,hoL,_⟩:=id hn;refine h _ ⟨I.ok,I.os,I.bare,⟨fun b o e n hb hx=>?_,fun b o e n hb hx=>?_,I.base.free,fun b o e hx=>?_,I.base.tups,I.base.frzs,I.base.tbls⟩,⟨_,hn',fun j y v' e1 e2 e3=>?_⟩,fun y c e=>?_,I.free,I.freeC,fun p hp=>?_,tracked ⟨oL,hoL,I.free⟩ hs,by simpa using I.len⟩ ⟨_,hs,.inl rfl⟩
  ·exact (hs.2 b (zY4 (zY9 (zX2 e) I.ok.above))).trans (I.base.keep b o e n hb hx)
  ·obtain⟨sl,e1⟩:=I.base.slot b o e n hb hx;exact⟨sl,(hs.2 b (zY4 (zY9 (zX2 e) I.ok.above))).trans e1⟩
  ·obtain⟨o',e1⟩:=I.base.there b o e hx;exact⟨o',(hs.2 b (zY4 (zY9 (zX2 e) I.ok.above))).trans e1⟩
  ·by_cases hj:j=i
   ·subst hj;rw[hi] at e1;cases e1;rw[z67 hiσ] at e2;cases e2;exact⟨u,r,.inl ⟨hk,by simp⟩⟩
   ·rw[z32 (zZ8 hj)] at e2;obtain⟨u',r',q⟩:=hl j y v' e1 e2 e3;refine⟨u',r',?_⟩;rcases q with ⟨k,e⟩|⟨k,c,e,z⟩
    ·refine .inl ⟨k,?_⟩;have:y≠x:=fun e=>hj (mE hN e1 (e▸hi));simp[this,e]
    ·exact .inr ⟨k,c,e,z.sameBut hs (cne y c e)⟩
  ·obtain⟨w',z⟩:=I.cell y c e;exact⟨w',z.sameBut hs (cne y c e)⟩
  ·obtain⟨e,n,ne,nf,d⟩:=I.pin p hp;exact⟨(hs.2 p.1 ne).trans e,n,ne,nf,d⟩
 ·have hfn:X.fn x=true:=by
   rcases hf with z|z
   ·exact z
   ·rw[z] at hk;cases hk
  obtain⟨c,hc⟩:=I.ok.has x (.inl hk);obtain⟨w',z⟩:=I.cell x c hc;refine wpAny_storeName_cell I.ok.kind hk hc z (fun h' hc' hs=>?_);obtain⟨oc,hoc,hocd⟩:=id z;refine h {s with heap:=h'} ⟨I.ok,I.os,I.bare,⟨fun b o e n hb hx=>?_,fun b o e n hb hx=>?_,I.base.free,fun b o e hx=>?_,I.base.tups,I.base.frzs,I.base.tbls⟩,⟨m,hn.sameBut hs (zZ8 (cne x c hc)),fun j y v' e1 e2 e3=>?_⟩,fun y c' e=>?_,I.free,I.freeC,fun p hp=>?_,tracked ⟨oc,hoc,I.freeC x c hc⟩ hs,by simpa using I.len⟩ ⟨c,hs,.inr hc⟩
  ·exact (hs.2 b (zY4 (zY9 (zX2 e) (I.ok.cab x c hfn hc)))).trans (I.base.keep b o e n hb hx)
  ·obtain⟨sl,e1⟩:=I.base.slot b o e n hb hx;exact⟨sl,(hs.2 b (zY4 (zY9 (zX2 e) (I.ok.cab x c hfn hc)))).trans e1⟩
  ·obtain⟨o',e1⟩:=I.base.there b o e hx;exact⟨o',(hs.2 b (zY4 (zY9 (zX2 e) (I.ok.cab x c hfn hc)))).trans e1⟩
  ·by_cases hj:j=i
   ·subst hj;rw[hi] at e1;cases e1;rw[z67 hiσ] at e2;cases e2;exact⟨u,r,.inr ⟨.inl hk,c,hc,hc'⟩⟩
   ·rw[z32 (zZ8 hj)] at e2;obtain⟨u',r',q⟩:=hl j y v' e1 e2 e3;refine⟨u',r',?_⟩;rcases q with q|⟨k,c',e,z'⟩
    ·exact .inl q
    ·refine .inr ⟨k,c',e,z'.sameBut hs ?_⟩;rintro rfl;exact hj (mE hN e1 (I.ok.inj _ _ _ e hc▸hi))
  ·by_cases hcc:c'=c
   ·subst hcc;exact⟨_,hc'⟩
   ·obtain⟨w2,z2⟩:=I.cell y c' e;exact⟨w2,z2.sameBut hs hcc⟩
  ·obtain⟨e,n,ne,nf,d⟩:=I.pin p hp;refine⟨(hs.2 p.1 ?_).trans e,n,ne,nf,d⟩;intro q;rw[q,hoc] at e;have q':oc=p.2:=zZ2 e;exact d w' (by rw[<-q'];exact hocd)
theorem mC {M:Model}{A:Around}{E:Value->Shared->Prop}{i:Nat}{x:Str}{v:V}{u:Value}{Q:Unit->Shared->Prop}(I:Inv X pins σ H s)(hN:X.N.Nodup)(hi:X.N[i]?=some x)(hx:Loc X.env.scope x)(r:RelV v u)
  (h:∀s',Inv X pins (σ.set i (some v)) H s'->Q () s') (hf:X.fn x=true\/X.env.scope.names.lookup x=some .local:=by first|exact .inl rfl|exact .inr rfl|assumption):wpAny M A (storeName X.env x u) Q E s:=
 pL I hN hi hx r (fun s' I' _=>h s' I') hf
theorem Inv.call' {s':Shared}{ch:List Addr}(I:Inv X pins σ H s)(ho:s'.os=s.os)(u:Un (frs X.stack) ch H H' s.heap s'.heap)(hok:HOk X.prog X.w H' s'.heap)(hg:AllBare s'.gens)
  (hch:∀b∈ch,(b∈X.ex\/X.s₀.heap.objs.size<=b)/\b≠X.env.locals/\(∀x c,X.env.cells.lookup x=some c->c≠b)/\∀p∈X.pn++pins,p.1≠b):Inv X pins σ H' s':=by
 obtain⟨h',g',d',t',o'⟩:=s';have e:o'=s.os:=ho;subst e;exact I.call (g':=g') (t':=t') (d':=d') u hok hg hch
end
abbrev XK :=Value->Option Addr->Hp->Prop
abbrev St :=List (Option V)
abbrev VK :=V->Hp->Prop
abbrev TE :=St->Hp->VK->Prop
abbrev TT :=St->Hp->(Bool->Hp->Prop)->Prop
abbrev TA :=St->Hp->(List V->Hp->Prop)->Prop
structure Ends where
 nx:St->Hp->Prop
 rt:VK
 bk:St->Hp->Prop:=fun _ _=>False
 ct:St->Hp->Prop:=fun _ _=>False
abbrev TS :=Ends->St->Hp->Prop
def EP (X:Cx)(pins:List (Addr×Obj))(σ:St)(Q:VK)(u:Value)(s':Shared):Prop:=∃v H',Inv X pins σ H' s'/\RelV v u/\Q v H'
def TP (X:Cx)(pins:List (Addr×Obj))(σ:St)(Q:Bool->Hp->Prop)(b:Bool)(s':Shared):Prop:=∃H',Inv X pins σ H' s'/\Q b H'
def AP (X:Cx)(pins:List (Addr×Obj))(σ:St)(Q:List V->Hp->Prop)(us:List Value)(s':Shared):Prop:=∃vs H',Inv X pins σ H' s'/\Vals vs us/\Q vs H'
def SP (X:Cx)(pins:List (Addr×Obj))(D:Ends)(f:Flow)(s':Shared):Prop:=
 match f with
 |.next=>∃σ' H',Inv X pins σ' H' s'/\D.nx σ' H'
 |.brk=>∃σ' H',Inv X pins σ' H' s'/\D.bk σ' H'
 |.cont=>∃σ' H',Inv X pins σ' H' s'/\D.ct σ' H'
 |.ret u=>∃v σ' H',Inv X pins σ' H' s'/\RelV v u/\D.rt v H'
def PE (X:Cx)(e:Expr)(t:TE):Prop:=
 ∀(pins:List (Addr×Obj)) (s:Shared) (σ:St) (H:Hp) (Q:VK),Inv X pins σ H s->t σ H Q->wpAny (model X.prog X.w) X.A (eval e X.env) (EP X pins σ Q) X.xe s
def PT (X:Cx)(e:Expr)(t:TT):Prop:=
 ∀(pins:List (Addr×Obj)) (s:Shared) (σ:St) (H:Hp) (Q:Bool->Hp->Prop),Inv X pins σ H s->t σ H Q->wpAny (model X.prog X.w) X.A (isTrue e X.env (eval e X.env)) (TP X pins σ Q) X.xe s
def PW (X:Cx)(e:Expr)(t:TT):Prop:=
 ∀(whole:Sem Value) (pins:List (Addr×Obj)) (s:Shared) (σ:St) (H:Hp) (Q:Bool->Hp->Prop),Inv X pins σ H s->t σ H Q->wpAny (model X.prog X.w) X.A (isTrue e X.env whole) (TP X pins σ Q) X.xe s
theorem PW.pt {X:Cx}{e:Expr}{t:TT}(h:PW X e t):PT X e t:=h _
def PA (X:Cx)(es:List Expr)(t:TA):Prop:=
 ∀(pos:Pos) (pins:List (Addr×Obj)) (s:Shared) (σ:St) (H:Hp) (Q:List V->Hp->Prop),Inv X pins σ H s->t σ H Q->wpAny (model X.prog X.w) X.A (spliced (backTo pos (starEach es X.env))) (AP X pins σ Q) X.xe s
def PS (X:Cx)(st:Stmt)(t:TS):Prop:=
 ∀(pins:List (Addr×Obj)) (s:Shared) (σ:St) (H:Hp) (D:Ends),Inv X pins σ H s->t D σ H->wpAny (model X.prog X.w) X.A (exec st X.env) (SP X pins D) X.xe s
def PSs (X:Cx)(st:List Stmt)(t:TS):Prop:=
 ∀(pins:List (Addr×Obj)) (s:Shared) (σ:St) (H:Hp) (D:Ends),Inv X pins σ H s->t D σ H->wpAny (model X.prog X.w) X.A (execs st X.env) (SP X pins D) X.xe s
theorem thn {α:Type}{t:Sem α}{Q Q':α->Shared->Prop}{M:Model}{A:Around}{E:Value->Shared->Prop}{s:Shared}(h:wpAny M A t Q E s)(hQ:∀a s,Q a s->Q' a s):wpAny M A t Q' E s:=z22 h hQ fun _ _ x=>x
section
variable {X:Cx}
theorem bin {a b:Expr}{ta tb:TE}(ha:PE X a ta)(hb:PE X b tb){pins:List (Addr×Obj)}{s:Shared}{σ:St}{H:Hp}{R:V->V->Hp->Prop}(I:Inv X pins σ H s)(h:ta σ H fun x H1=>tb σ H1 fun y H2=>R x y H2)
  {α:Type} {Q:α->Shared->Prop} {f:Value->Value->Sem α}
  (hf:∀v u s2 x y H2,Inv X pins σ H2 s2->RelV x v->RelV y u->R x y H2->wpAny (model X.prog X.w) X.A (f v u) Q X.xe s2):
  wpAny (model X.prog X.w) X.A (eval a X.env) (fun v s₁=>wpAny (model X.prog X.w) X.A (eval b X.env) (fun u s₂=>wpAny (model X.prog X.w) X.A (f v u) Q X.xe s₂) X.xe s₁) X.xe s:=by
 refine thn (ha pins s σ H _ I h) fun v s1 ⟨x,H1,I1,r1,q1⟩=>?_;refine thn (hb pins s1 σ H1 _ I1 q1) fun u s2 ⟨y,H2,I2,r2,q2⟩=>?_;exact hf v u s2 x y H2 I2 r1 r2 q2
def zC2 (i:Nat):TE:=fun σ H Q=>∃v,σ[i]?=some (some v)/\Q v H
def tC (v:V):TE:=fun _ H Q=>Q v H
theorem xQ {i:Nat}{x:Str}{pos:Pos}(hN:X.N[i]?=some x)(hv:Vis X.env.scope x)(hd:(x == ("__debug__":Str))=false:=by decide)(hcd:(x == ("__classdict__":Str))=false:=by decide):PE X (.Name x pos) (zC2 i):=by
 intro pins s σ H Q I h;obtain⟨v,e,h⟩:=h;obtain⟨m,hn,hl⟩:=I.loc;obtain⟨u,r,l⟩:=hl i x v hN e hv;have fin:EP X pins σ Q u s:=⟨v,H,I,r,h⟩;rcases l with ⟨hk,hm⟩|⟨hk,c,hc,hcell⟩
 ·exact wpAny_Name (wpAny_loadName_local I.ok.kind hk hn hm fin) hd
 ·rcases hk with hk|hk
  ·exact wpAny_Name (wpAny_loadName_cell I.ok.kind hk hc hcell fin) hd
  ·exact wpAny_Name (wpAny_loadName_free I.ok.kind hk hc hcell fin hcd) hd
theorem zt {i j pos}:PE X (.Constant (.int i) j pos) (tC (.int i)):=fun _ _ _ H _ I h=>wpAny_Constant_int ⟨.int i,H,I.tok _,⟨_,rfl⟩,h⟩
theorem zQ2 {b j pos}:PE X (.Constant (.bool b) j pos) (tC (.bl b)):=fun _ _ _ H _ I h=>Constant_bool ⟨.bl b,H,I,rfl,h⟩
theorem qQ {j pos}:PE X (.Constant .none j pos) (tC .non):=fun _ _ _ H _ I h=>Constant_none ⟨.non,H,I,rfl,h⟩
theorem yw {x j pos}:PE X (.Constant (.str x) j pos) (tC (.str x)):=fun _ _ _ H _ I h=>Calls.Constant_str ⟨.str x,H,I.tok _,⟨_,rfl⟩,h⟩
def Gl (X:Cx)(x:Str):Prop:=X.env.kindOf x=some .globalImplicit
theorem rj {E:Value->Shared->Prop}{pins:List (Addr×Obj)}{s:Shared}{σ:St}{H:Hp}{x:Str}{u:Value}{pos:Pos}{Q:Value->Shared->Prop}(I:Inv X pins σ H s)(hg:Gl X x)(hm:X.mg x=some u)(h:Q u s)
  (hd:(x == ("__debug__":Str))=false:=by decide):wpAny (model X.prog X.w) X.A (eval (.Name x pos) X.env) Q E s:=
 Calls.Name_function_global I.ok.kind hg (Calls.loadGlobal_global (by rw[I.ok.glob];exact I.mod.glob.keeps I.bk) hm h) hd
theorem xx {E:Value->Shared->Prop}{pins:List (Addr×Obj)}{s:Shared}{σ:St}{H:Hp}{x:Str}{u:Value}{pos:Pos}{Q:Value->Shared->Prop}(I:Inv X pins σ H s)(hg:Gl X x)(hm:X.mg x=none)(hv:bootBuiltins x=some u)(h:Q u s)
  (hn:x≠"__name__":=by decide) (hd:(x == ("__debug__":Str))=false:=by decide):wpAny (model X.prog X.w) X.A (eval (.Name x pos) X.env) Q E s:=by
 obtain⟨mb,h1,h2⟩:=I.mod.blt;exact Calls.Name_function_global I.ok.kind hg (Calls.loadGlobal_builtin (by rw[I.ok.glob];exact I.mod.glob.keeps I.bk) hm (by rw[I.ok.blt];exact h1.keeps I.bk) ((h2 x hn).trans hv) h) hd
theorem tJ {x:Str}{v:V}{u:Value}{pos:Pos}(hg:Gl X x)(hm:X.mg x=some u)(r:RelV v u)(hd:(x == ("__debug__":Str))=false:=by decide):PE X (.Name x pos) (tC v):=
 fun _ _ _ H _ I h=>rj I hg hm ⟨v,H,I,r,h⟩ hd
theorem ue {x:Str}{v:V}{u:Value}{pos:Pos}(hg:Gl X x)(hm:X.mg x=none)(hv:bootBuiltins x=some u)(r:RelV v u)(hn:x≠"__name__":=by decide)(hd:(x == ("__debug__":Str))=false:=by decide):PE X (.Name x pos) (tC v):=
 fun _ _ _ H _ I h=>xx I hg hm hv ⟨v,H,I,r,h⟩ hn hd
variable {a b:Expr}{ta tb:TE}{pos:Pos}
def PC (X:Cx)(op:CmpOp)(a b:Expr)(t:TE):Prop:=
 ∀(pins:List (Addr×Obj)) (s:Shared) (σ:St) (H:Hp) (Q:VK),Inv X pins σ H s->t σ H Q->
  wpAny (model X.prog X.w) X.A (eval a X.env) (fun v s₁=>wpAny (model X.prog X.w) X.A (eval b X.env) (fun u s₂=>wpAny (model X.prog X.w) X.A (compareOp op v u) (EP X pins σ Q) X.xe s₂) X.xe s₁) X.xe s
def tB (t:TE):TT:=fun σ H Q=>t σ H fun x H1=>∃c,x=.bl c/\Q c H1
theorem zU4 {op:CmpOp}{t:TE}(h:PC X op a b t)(h1:behindInMarks op b=false:=by first|exact nobehind _ (by decide) (by decide)|rfl):PT X (.Compare a [op] [b] pos) (tB t):=by
 intro pins s σ H Q I hw;refine wpAny_isTrue_Compare1 (thn (h pins s σ H _ I hw) fun v s1 h1=>thn h1 fun u s2 h2=>thn h2 fun c s3 ⟨x,H1,I1,r1,q1⟩=>?_) h1;obtain⟨d,rfl,q⟩:=q1;cases r1;exact z09 ⟨H1,I1,q⟩
theorem zl8 {e:Expr}{t:TE}(h:PE X e t)(he:∀whole,isTrue e X.env whole=(do let v <-whole;standAt e.pos;holding [v] (truthy v)):=by intro _;rfl):PT X e (tB t):=by
 intro pins s σ H Q I hw;refine isTrue_plain (thn (h pins s σ H _ I hw) fun v s1 ⟨x,H1,I1,r1,q1⟩=>?_) (he _);obtain⟨d,rfl,q⟩:=q1;cases r1;exact z09 ⟨H1,I1,q⟩
variable {tA tB':TT}{rest:List Expr}
def zT8 (t u:TT):TT:=fun σ H Q=>t σ H fun c H1=>if c=true then u σ H1 Q else Q false H1
def tOr (t u:TT):TT:=fun σ H Q=>t σ H fun c H1=>if c=true then Q true H1 else u σ H1 Q
def zU2 (t:TT):TT:=fun σ H Q=>t σ H fun c H1=>Q (!c) H1
theorem gn (ha:PT X a tA):PW X (.BoolOp .And [a] pos) tA:=by
 intro wh pins s σ H Q I h;refine isTrue_and (thn (ha pins s σ H Q I h) fun c s1 e=>?_);cases c with
 |true=>exact isTrue_and_nil e
 |false=>exact e
theorem iz (ha:PT X a tA):PW X (.BoolOp .Or [a] pos) tA:=by
 intro wh pins s σ H Q I h;refine isTrue_or (thn (ha pins s σ H Q I h) fun c s1 e=>?_);cases c with
 |false=>exact isTrue_or_nil e
 |true=>exact e
theorem bL (ha:PT X a tA)(hb:PW X (.BoolOp .And (b::rest) pos) tB'):PW X (.BoolOp .And (a::b::rest) pos) (zT8 tA tB'):=by
 intro wh pins s σ H Q I h;refine isTrue_and (thn (ha pins s σ H _ I h) fun c s1 ⟨H1,I1,q1⟩=>?_);cases c with
 |true=>exact hb wh pins s1 σ H1 Q I1 q1
 |false=>exact⟨H1,I1,q1⟩
theorem zd3 (ha:PT X a tA)(hb:PW X (.BoolOp .Or (b::rest) pos) tB'):PW X (.BoolOp .Or (a::b::rest) pos) (tOr tA tB'):=by
 intro wh pins s σ H Q I h;refine isTrue_or (thn (ha pins s σ H _ I h) fun c s1 ⟨H1,I1,q1⟩=>?_);cases c with
 |true=>exact⟨H1,I1,q1⟩
 |false=>exact hb wh pins s1 σ H1 Q I1 q1
theorem au (ha:PT X a tA):PT X (.UnaryOp .Not a pos) (zU2 tA):=by
 intro pins s σ H Q I h;exact isTrue_not (ha pins s σ H (fun c H1=>Q (!c) H1) I h)
def zK7 (ta tb:TE):TE:=fun σ H Q=>ta σ H fun x H1=>∃c,x=.bl c/\if c=true then tb σ H1 Q else Q (.bl false) H1
def zT0 (ta tb:TE):TE:=fun σ H Q=>ta σ H fun x H1=>∃c,x=.bl c/\if c=true then Q (.bl true) H1 else tb σ H1 Q
def zO5 (ta:TE):TE:=fun σ H Q=>ta σ H fun x H1=>∃c,x=.bl c/\Q (.bl (!c)) H1
theorem we {op}{t:TE}(h:PE X a t):PE X (.BoolOp op [a] pos) t:=fun pins s σ H Q I hw=>BoolOp_one (h pins s σ H Q I hw)
theorem xC (ha:PE X a ta)(hb:PE X (.BoolOp .And (b::rest) pos) tb):PE X (.BoolOp .And (a::b::rest) pos) (zK7 ta tb):=by
 intro pins s σ H Q I h;refine BoolOp_and (thn (ha pins s σ H _ I h) fun v s1 ⟨x,H1,I1,r1,q1⟩=>?_);obtain⟨c,rfl,q1⟩:=q1;cases r1;refine z09 ?_;cases c with
 |true=>exact hb pins s1 σ H1 Q I1 q1
 |false=>exact⟨.bl false,H1,I1,rfl,q1⟩
theorem aF (ha:PE X a ta)(hb:PE X (.BoolOp .Or (b::rest) pos) tb):PE X (.BoolOp .Or (a::b::rest) pos) (zT0 ta tb):=by
 intro pins s σ H Q I h;refine BoolOp_or (thn (ha pins s σ H _ I h) fun v s1 ⟨x,H1,I1,r1,q1⟩=>?_);obtain⟨c,rfl,q1⟩:=q1;cases r1;refine z09 ?_;cases c with
 |false=>exact hb pins s1 σ H1 Q I1 q1
 |true=>exact⟨.bl true,H1,I1,rfl,q1⟩
theorem zm0 (ha:PE X a ta):PE X (.UnaryOp .Not a pos) (zO5 ta):=by
 intro pins s σ H Q I h;refine UnaryOp_ (thn (ha pins s σ H _ I h) fun v s1 ⟨x,H1,I1,r1,q1⟩=>?_);obtain⟨c,rfl,q1⟩:=q1;cases r1;exact not_of (z09 ⟨.bl (!c),H1,I1,rfl,q1⟩)
def tIf (t:TT)(ta tb:TE):TE:=fun σ H Q=>t σ H fun c H1=>if c=true then ta σ H1 Q else tb σ H1 Q
theorem zf6 {c:Expr}(hc:PT X c tA)(ha:PE X a ta)(hb:PE X b tb):PE X (.IfExp c a b pos) (tIf tA ta tb):=by
 intro pins s σ H Q I h;refine wpAny_IfExp (thn (hc pins s σ H _ I h) fun d s1 ⟨H1,I1,q1⟩=>?_);cases d with
 |true=>exact ha pins s1 σ H1 Q I1 q1
 |false=>exact hb pins s1 σ H1 Q I1 q1
end
def SqL (K:PySem.W.Frag)(H:Hp)(a:Addr)(xs:List V):Prop:=
 Rd H a (.lst xs)\/
  ∃(o:Obj) (its:Array Value) (n:Nat),K.lookup a=some o/\o.cls=.type "list"/\o.dict=none/\o.data=.seq its n/\its.size<=sizeLine/\Vals xs its.toList
def SqT (K:PySem.W.Frag)(H:Hp)(a:Addr)(xs:List V):Prop:=
 Rd H a (.tup xs)\/
  ∃(o:Obj) (its:Array Value) (n:Nat),K.lookup a=some o/\o.cls=.type "tuple"/\o.data=.seq its n/\its.size<=sizeLine/\Vals xs its.toList
noncomputable def zV1 :Value->Option V
 |.none=>some .non
 |.bool b=>some (.bl b)
 |.int i _=>some (.int i)
 |.str x _=>some (.str x)
 |.bytes b _=>some (.byt b)
 |.float b _=>some (.flt b)
 |.ref a=>some (.ref a)
 |.type n=>some (.ty n)
 |_=>none
theorem RelV.abs {x:V}{u:Value}(r:RelV x u):zV1 u=some x:=by
 cases x with
 |non=>cases r;rfl
 |bl _=>cases r;rfl
 |int _=>obtain⟨t,rfl⟩:=r;rfl
 |str _=>obtain⟨t,rfl⟩:=r;rfl
 |byt _=>obtain⟨t,rfl⟩:=r;rfl
 |flt _=>obtain⟨t,rfl⟩:=r;rfl
 |ref _=>cases r;rfl
 |ty _=>cases r;rfl
theorem RelV.inj {x y:V}{u:Value}(r:RelV x u)(q:RelV y u):x=y:=zZ2 (r.abs.symm.trans q.abs)
theorem Vals.inj :∀{xs ys:List V} {us:List Value},Vals xs us->Vals ys us->xs=ys
 |_,_,_,.nil,.nil=>rfl
 |_,_,_,.cons r t,.cons r' t'=>by rw[r.inj r',Vals.inj t t']
section
variable {X:Cx}{pins:List (Addr×Obj)}{σ:St}{H:Hp}{s:Shared}{a:Addr}{xs ys:List V}
theorem SqL.of {K:PySem.W.Frag}(h:H a=some (.lst xs)):SqL K H a xs:=.inl (.inl h)
theorem SqT.of {K:PySem.W.Frag}(h:H a=some (.tup xs)):SqT K H a xs:=.inl (.inl h)
theorem Inv.list (I:Inv X pins σ H s)(h:SqL X.K H a xs):∃its:List Value,Vals xs its/\PlainL s.heap a its.toArray/\xs.length<=sizeLine:=by
 rcases h with h|⟨o,its,n,hk,hc,hd,hs,hz,r⟩
 ·obtain⟨z,its,n,r,e⟩:=h.ok I.hok;exact⟨its,r,⟨_,n,e,rfl,rfl,rfl⟩,z⟩
 ·refine⟨its.toList,r,⟨o,n,I.kIn a o hk,hc,hd,by simpa using hs⟩,?_⟩;have e:=r.length;simp only[ye0] at e;omega
theorem Inv.tuple (I:Inv X pins σ H s)(h:SqT X.K H a xs):∃its:List Value,Vals xs its/\IsTup s.heap a its.toArray/\xs.length<=sizeLine:=by
 rcases h with h|⟨o,its,n,hk,hc,hs,hz,r⟩
 ·obtain⟨z,its,r,p⟩:=h.ok I.hok;exact⟨its,r,p,z⟩
 ·refine⟨its.toList,r,⟨o,I.kIn a o hk,hc,n,by simpa using hs⟩,?_⟩;have e:=r.length;simp only[ye0] at e;omega
theorem Inv.list_inj (I:Inv X pins σ H s)(h:SqL X.K H a xs)(h':SqL X.K H a ys):xs=ys:=by
 obtain⟨its,r,⟨o,n,e,_,_,d⟩,_⟩:=I.list h;obtain⟨its',r',⟨o',n',e',_,_,d'⟩,_⟩:=I.list h';rw[e] at e';cases e';rw[d] at d';injection d' with d1 _;have:its=its':=by simpa using congrArg Array.toList d1
 subst this;exact r.inj r'
theorem Inv.tuple_inj (I:Inv X pins σ H s)(h:SqT X.K H a xs)(h':SqT X.K H a ys):xs=ys:=by
 obtain⟨its,r,⟨o,e,_,n,d⟩,_⟩:=I.tuple h;obtain⟨its',r',⟨o',e',_,n',d'⟩,_⟩:=I.tuple h';rw[e] at e';cases e';rw[d] at d';injection d' with d1 _;have:its=its':=by simpa using congrArg Array.toList d1
 subst this;exact r.inj r'
end
noncomputable abbrev Cx.wish (X:Cx)(E:Value->Shared->Prop):Cx:={X with xe:=E}
noncomputable abbrev Cx.nox (X:Cx):Cx:=X.wish fun _ _=>False
theorem Cx.Ok.wish {X:Cx}(ok:X.Ok)(E:Value->Shared->Prop):(X.wish E).Ok:=
 ⟨ok.mod,ok.kind,ok.glob,ok.blt,ok.above,ok.inj,ok.has,ok.cab,ok.hd,ok.frames,ok.stk,ok.exf,ok.bs,ok.bsz,ok.noex,ok.exfs,ok.funs,ok.frf⟩
theorem Cx.Ok.unwish {X:Cx}{E:Value->Shared->Prop}(ok:(X.wish E).Ok):X.Ok:=
 ⟨ok.mod,ok.kind,ok.glob,ok.blt,ok.above,ok.inj,ok.has,ok.cab,ok.hd,ok.frames,ok.stk,ok.exf,ok.bs,ok.bsz,ok.noex,ok.exfs,ok.funs,ok.frf⟩
section
variable {X:Cx}{pins:List (Addr×Obj)}{σ:St}{H:Hp}{s:Shared}{E:Value->Shared->Prop}
theorem Inv.wish (I:Inv X pins σ H s)(E:Value->Shared->Prop):Inv (X.wish E) pins σ H s:=⟨I.ok.wish E,I.os,I.bare,I.base,I.loc,I.cell,I.free,I.freeC,I.pin,I.hok,I.len⟩
theorem Inv.unwish (I:Inv (X.wish E) pins σ H s):Inv X pins σ H s:=⟨I.ok.unwish,I.os,I.bare,I.base,I.loc,I.cell,I.free,I.freeC,I.pin,I.hok,I.len⟩
theorem SP.unwish {D:Ends}{f:Flow}{s':Shared}(h:SP (X.wish E) pins D f s'):SP X pins D f s':=by
 cases f with
 |next=>obtain⟨σ',H',I,q⟩:=h;exact⟨σ',H',I.unwish,q⟩
 |brk=>obtain⟨σ',H',I,q⟩:=h;exact⟨σ',H',I.unwish,q⟩
 |cont=>obtain⟨σ',H',I,q⟩:=h;exact⟨σ',H',I.unwish,q⟩
 |ret u=>obtain⟨v,σ',H',I,r,q⟩:=h;exact⟨v,σ',H',I.unwish,r,q⟩
theorem PSs.nox {st:List Stmt}{t:TS}(h:PSs X.nox st t):PSs X st t:=fun pins s σ H D I hw=>
 z22 (h pins s σ H D (I.wish _) hw) (fun _ _ q=>q.unwish) fun _ _ z=>False.elim z
end
section
variable {X:Cx}{st:Stmt}{rest:List Stmt}{t u:TS}{e:Expr}{te:TE}{pos:Pos}
def zP2 :TS:=fun D σ H=>D.nx σ H
def zK9 (t u:TS):TS:=fun D σ H=>t {D with nx:=u D} σ H
theorem yN :PSs X [] zP2:=fun _ _ σ H _ I h=>yd0 ⟨σ,H,I,h⟩
theorem zT (h1:PS X st t)(h2:PSs X rest u):PSs X (st::rest) (zK9 t u):=by
 intro pins s σ H D I h;refine wpAny_execs_cons (thn (h1 pins s σ H {D with nx:=u D} I h) fun f s1 q=>?_);cases f with
 |next=>
  obtain⟨σ',H',I',q⟩:=q;exact h2 pins s1 σ' H' D I' q
 |ret v=>exact q
 |brk=>exact q
 |cont=>exact q
theorem zy (h1:PS X st t):PSs X [st] t:=by
 intro pins s σ H D I h;refine wpAny_execs_cons (thn (h1 pins s σ H D I h) fun f s1 q=>?_);cases f with
 |next=>exact yd0 q
 |ret v=>exact q
 |brk=>exact q
 |cont=>exact q
theorem Inv.quiet {pins:List (Addr×Obj)}{σ:St}{H:Hp}{s:Shared}(I:Inv X pins σ H s):interactive X.env=false:=by simp[interactive,I.ok.kind]
def zN4 (te:TE):TS:=fun D σ H=>te σ H fun _ H1=>D.nx σ H1
theorem fo (he:PE X e te)(hs:swapsWith e none pos.line X.env=pure false:=by rfl):PS X (.Expr e pos) (zN4 te):=by
 intro pins s σ H D I h;exact wpAny_Expr_any (thn (he pins s σ H _ I h) fun v s1 ⟨x,H1,I1,r1,q1⟩=>⟨σ,H1,I1,q1⟩) I.quiet hs
def zV6 (te:TE):TS:=fun D σ H=>te σ H D.rt
theorem zD (he:PE X e te):PS X (.Return (some e) pos) (zV6 te):=by
 intro pins s σ H D I h;exact wpAny_Return_some (thn (he pins s σ H _ I h) fun v s1 ⟨x,H1,I1,r1,q1⟩=>⟨x,σ,H1,I1,r1,q1⟩)
def zU5 (c:TT)(t u:TS):TS:=fun D σ H=>c σ H fun b H1=>if b=true then t D σ H1 else u D σ H1
theorem wB {c:Expr}{a b:List Stmt}{tc:TT}(hc:PT X c tc)(ha:PSs X a t)(hb:PSs X b u):PS X (.If c a b pos) (zU5 tc t u):=by
 intro pins s σ H D I h;refine wpAny_If (thn (hc pins s σ H _ I h) fun d s1 ⟨H1,I1,q1⟩=>?_);cases d with
 |true=>exact ha pins s1 σ H1 D I1 q1
 |false=>exact hb pins s1 σ H1 D I1 q1
end
abbrev TG :=V->St->Hp->(St->Hp->Prop)->Prop
abbrev TGs :=List V->St->Hp->(St->Hp->Prop)->Prop
def PG (X:Cx)(target:Expr)(t:TG):Prop:=
 ∀(pins:List (Addr×Obj)) (s:Shared) (σ:St) (H:Hp) (v:V) (u:Value) (Q:St->Hp->Prop),Inv X pins σ H s->RelV v u->t v σ H Q->
  wpAny (model X.prog X.w) X.A (assign target X.env u) (fun _ s'=>∃σ' H',Inv X pins σ' H' s'/\Q σ' H') X.xe s
def PGs (X:Cx)(ts:List Expr)(t:TGs):Prop:=
 ∀(pins:List (Addr×Obj)) (s:Shared) (σ:St) (H:Hp) (vs:List V) (us:List Value) (Q:St->Hp->Prop),Inv X pins σ H s->Vals vs us->t vs σ H Q->
  wpAny (model X.prog X.w) X.A (assignInOrder ((assignEach ts X.env).map (·.2)) us) (fun _ s'=>∃σ' H',Inv X pins σ' H' s'/\Q σ' H') X.xe s
abbrev zF9 :=V->V->V->Hp->(Hp->Prop)->Prop
def zN2 (X:Cx)(t:zF9):Prop:=
 ∀(pins:List (Addr×Obj)) (s:Shared) (σ:St) (H:Hp) (o i v:V) (ov iv u:Value) (Q:Hp->Prop),Inv X pins σ H s->RelV o ov->RelV i iv->RelV v u->t o i v H Q->
  wpAny (model X.prog X.w) X.A (setItem ov iv u) (fun _ s'=>∃H',Inv X pins σ H' s'/\Q H') X.xe s
section
variable {X:Cx}{pos:Pos}
def oA (i:Nat):TG:=fun v σ H Q=>Q (σ.set i (some v)) H
theorem yb {i:Nat}{x:Str}(hN:X.N.Nodup)(hi:X.N[i]?=some x)(hx:Loc X.env.scope x)(hf:X.fn x=true\/X.env.scope.names.lookup x=some .local:=by first|exact .inl rfl|exact .inr rfl|assumption):PG X (.Name x pos) (oA i):=by
 intro pins s σ H v u Q I r h;exact wpAny_assign_Name (mC I hN hi hx r (fun s' I'=>⟨_,H,I',h⟩) hf)
def zR2 :TGs:=fun vs σ H Q=>vs=[]/\Q σ H
def zA8 (t:TG)(u:TGs):TGs:=fun vs σ H Q=>∃v r,vs=v::r/\t v σ H fun σ' H'=>u r σ' H' Q
theorem tH :PGs X [] zR2:=by
 intro pins s σ H vs us Q I r h;obtain⟨e,h⟩:=h;subst e;cases r;exact assignInOrder_nil ⟨σ,H,I,h⟩
theorem wj {e:Expr}{es:List Expr}{t:TG}{u:TGs}(h1:PG X e t)(h2:PGs X es u)
  (hs:(assignEach (e::es) X.env).map (·.2)=assign e X.env::(assignEach es X.env).map (·.2):=by rfl):PGs X (e::es) (zA8 t u):=by
 intro pins s σ H vs us Q I r h;obtain⟨v,vr,e1,h⟩:=h;subst e1;cases r with
 |cons r rr=>
  rw[hs];refine assignInOrder_cons (thn (h1 pins s σ H _ _ _ I r h) fun _ s1 ⟨σ1,H1,I1,q1⟩=>?_);exact h2 pins s1 σ1 H1 _ _ Q I1 rr q1
def zG0 (K:PySem.W.Frag)(n:Nat)(t:TGs):TG:=fun v σ H Q=>∃a xs,v=.ref a/\SqT K H a xs/\xs.length=n/\t xs σ H Q
theorem zK1 {es:List Expr}{k:Nat}{t:TGs}{n:Nat}(hc:X.calm=true)(h:PGs X es t)
  (hn:(assignEach es X.env).length=n:=by rfl) (hst:(assignEach es X.env).findIdx? (·.1)=none:=by rfl):PG X (.Tuple es k pos) (zG0 X.K n t):=by
 intro pins s σ H v u Q I r hw;obtain⟨a,xs,e1,hq,hl,hw⟩:=hw;subst e1;cases r;obtain⟨its,rv,ht,hz⟩:=I.tuple hq;refine assign_Tuple_tuple (I.ok.hd hc) ht (by simp[hn,<-hl,rv.length]) hst fun h' hx=>?_;have I1:Inv X pins σ H {s with heap:=h'}:=I.kept (t':=s.toks) fun b o e=>hx b o (zY4 (zX2 e)) e;exact h pins _ σ H xs _ Q I1 (by simpa using rv) hw
def zR4 (to ti:TE)(t:zF9):TG:=fun v σ H Q=>to σ H fun o H1=>ti σ H1 fun i H2=>t o i v H2 fun H3=>Q σ H3
theorem iw {o i:Expr}{to ti:TE}{t:zF9}(ho:PE X o to)(hi:PE X i ti)(hs:zN2 X t)
  (ha:∀v,assign (.Subscript o i pos) X.env v=(do
   let ov <-holding [v] (eval o X.env)
   let iv <-holding [v,ov] (eval i X.env)
   standAt pos
   holding [v,ov,iv] (setItem ov iv v)
   release [v,ov,iv] []):=by intro _;rfl):PG X (.Subscript o i pos) (zR4 to ti t):=by
 intro pins s σ H v u Q I r h;rw[ha];refine zW4 (z36 (thn (ho pins s σ H _ I h) fun ov s1 ⟨x,H1,I1,r1,q1⟩=>?_));refine zW4 (z36 (thn (hi pins s1 σ H1 _ I1 q1) fun iv s2 ⟨y,H2,I2,r2,q2⟩=>?_));refine zW4 (wpAny_standAt (zW4 (z36 (thn (hs pins s2 σ H2 x y v ov iv u _ I2 r1 r2 r q2) fun _ s3 ⟨H3,I3,q3⟩=>?_))));exact wpAny_release ⟨σ,H3,I3,q3⟩
def zI5 (te:TE)(g:TG):TS:=fun D σ H=>te σ H fun x H1=>g x σ H1 D.nx
theorem iC {tg e:Expr}{te:TE}{g:TG}(he:PE X e te)(hg:PG X tg g)(hs:swapsWithSole [tg] e pos.line X.env=pure false:=by rfl)(hw:swappedStores [tg] e X.env=pure none:=by rfl)
  (h1:(assignEach [tg] X.env).map (·.2)=[assign tg X.env]:=by rfl):PS X (.Assign [tg] e pos) (zI5 te g):=by
 intro pins s σ H D I h;refine wpAny_Assign_stores (thn (he pins s σ H _ I h) fun v s1 ⟨x,H1,I1,r1,q1⟩=>?_) hs hw;rw[h1];exact thn (hg pins s1 σ H1 x v _ I1 r1 q1) fun _ s2 q=>q
theorem vw {i:Nat}{x:Str}{e:Expr}{te:TE}{pos':Pos}(hN:X.N.Nodup)(hi:X.N[i]?=some x)(hx:Loc X.env.scope x)(he:PE X e te)(hs:swapsWith e (some (.Name x pos')) pos.line X.env=pure false:=by rfl)(hf:X.fn x=true\/X.env.scope.names.lookup x=some .local:=by first|exact .inl rfl|exact .inr rfl|assumption):
  PS X (.Assign [.Name x pos'] e pos) (zI5 te (oA i)):=by
 intro pins s σ H D I h;refine wpAny_Assign_Name (thn (he pins s σ H _ I h) fun v s1 ⟨y,H1,I1,r1,q1⟩=>?_) hs;exact mC I1 hN hi hx r1 (fun s2 I2=>⟨_,H1,I2,q1⟩) hf
end
section
variable {X:Cx}{pos:Pos}
def zB3 (c:TT)(tb:TS):TS:=fun D σ H=>∃W:Nat->St->Hp->Prop,(∃m,W m σ H)/\∀m σ H,W m σ H->
 c σ H fun b H1=>if b=true then ∃N:St->Hp->Prop,(∀σ' H',N σ' H'->∃m',m'<m/\W m' σ' H')/\tb {D with nx:=N,ct:=N,bk:=D.nx} σ H1 else D.nx σ H1
theorem my {c:Expr}{body:List Stmt}{tc:TT}{tb:TS}(hp:PassesOwn (model X.prog X.w) X.A X.env X.xe)(hc:PT X c tc)(hb:PSs X body tb):PS X (.While c body [] pos) (zB3 tc tb):=by
 intro pins s σ H D I h;obtain⟨W,⟨m0,w0⟩,turn⟩:=h;refine wpAny_While (codeAny_whileLoop (fun n s'=>∃σ' H',Inv X pins σ' H' s'/\W n σ' H') ?_ m0 ⟨σ,H,I,w0⟩);rintro n s1 ⟨σ1,H1,I1,w1⟩;refine z72 hp (thn (hc pins s1 σ1 H1 _ I1 (turn n σ1 H1 w1)) fun b s2 ⟨H2,I2,q2⟩=>?_);cases b with
 |true=>
  obtain⟨N,hN,q2⟩:=q2;rw[if_pos rfl];refine z72 hp (thn (hb pins s2 σ1 H2 _ I2 q2) fun f s3 q3=>?_);cases f with
  |next=>
   obtain⟨σ3,H3,I3,n3⟩:=q3;obtain⟨m',hm,w3⟩:=hN σ3 H3 n3;exact⟨m',hm,σ3,H3,I3,w3⟩
  |cont=>
   obtain⟨σ3,H3,I3,n3⟩:=q3;obtain⟨m',hm,w3⟩:=hN σ3 H3 n3;exact⟨m',hm,σ3,H3,I3,w3⟩
  |brk=>exact q3
  |ret v=>exact q3
 |false=>
  rw[if_neg zY1];exact yd0 ⟨σ1,H2,I2,q2⟩
end
structure It where
 go:Nat->Hp->Prop
 yld:Nat->Hp->V->Hp->Prop
 stop:Nat->Hp->Prop
def xN (X:Cx)(pins:List (Addr×Obj))(H:Hp)(b:Addr):Prop:=
 H b=none/\b≠X.env.locals/\b∉X.fs/\(b∈X.ex\/X.s₀.heap.objs.size<=b)/\(∀x c,X.env.cells.lookup x=some c->c≠b)/\∀p∈X.pn++pins,p.1≠b
theorem Inv.fpOk {X:Cx}{pins:List (Addr×Obj)}{σ:St}{H H':Hp}{s:Shared}{b:Addr}(I:Inv X pins σ H s)(hb:s.heap.objs.size<=b)(hn:H' b=none):xN X pins H' b:=by
 refine⟨hn,z83 (zY9 I.lt hb),I.nofs hb,.inr (z24 I.sz hb),fun x c e z=>?_,fun p hp z=>?_⟩
 ·obtain⟨v,q⟩:=I.cell x c e;exact absurd (zY9 q.lt (by rw[z];exact hb)) (z35 _)
 ·exact absurd (zY9 (zX2 (I.pin p hp).1) (by rw[z];exact hb)) (z35 _)
structure Turn (P:Program)(w:World)(K:PySem.W.Frag)(tg:Expr)(J:It)(fp:List Addr)(it:Addr)(tn:Nat->Heap->Prop):Prop where
 mem:it∈fp
 obj:∀i h,tn i h->∀b∈fp,∃o,h.get? b=some o/\∀v,o.data≠.cell v
 keep:∀i h h',tn i h->(∀b∈fp,∀o,h.get? b=some o->h'.get? b=some o)->tn i h'
 item:∀(X:Cx),X.prog=P->X.w=w->X.K=K->X.calm=true->∀(i:Nat) (pins:List (Addr×Obj)) (s:Shared) (σ:St) (H:Hp) (E:Value->Shared->Prop),Inv X pins σ H s->(∀b∈fp,xN X pins H b)->tn i s.heap->J.go i H->
  wpAny (model P w) X.A (pyNext (.ref it)) (fun r s1=>∃u,r=some u/\
   wpAny (model P w) X.A (letOwnedTupleGo tg (.ref it) u) (fun _ s2=>∃x H',Inv X pins σ H' s2/\RelV x u/\J.yld i H x H'/\tn (i+1) s2.heap/\∀b∈fp,H' b=none) E s1) E s
 done:∀(X:Cx),X.prog=P->X.w=w->X.K=K->X.calm=true->∀(i:Nat) (pins:List (Addr×Obj)) (s:Shared) (σ:St) (H:Hp) (E:Value->Shared->Prop),Inv X pins σ H s->(∀b∈fp,xN X pins H b)->tn i s.heap->J.stop i H->
  wpAny (model P w) X.A (pyNext (.ref it)) (fun r s1=>r=none/\Inv X pins σ H s1) E s
 self:∀(A:Around) (i:Nat) (s:Shared) (Q:Value->Shared->Prop) (E:Value->Shared->Prop),tn i s.heap->Q (.ref it) s->wpAny (model P w) A (pyIter (.ref it)) Q E s
abbrev TI :=St->Hp->(It->Hp->Prop)->Prop
def PIE (X:Cx)(pins:List (Addr×Obj))(σ:St)(tg:Expr)(R:It->Hp->Prop)(itv:Value)(s2:Shared):Prop:=
 ∃(it:Addr) (fp:List Addr) (tn:Nat->Heap->Prop) (J:It) (H':Hp),itv=.ref it/\Inv X pins σ H' s2/\Turn X.prog X.w X.K tg J fp it tn/\tn 0 s2.heap/\(∀b∈fp,xN X pins H' b)/\R J H'
def PI (X:Cx)(tg iter:Expr)(wi:TI):Prop:=
 ∀(pins:List (Addr×Obj)) (s:Shared) (σ:St) (H:Hp) (R:It->Hp->Prop),Inv X pins σ H s->wi σ H R->
  wpAny (model X.prog X.w) X.A (eval iter X.env) (fun v s1=>wpAny (model X.prog X.w) X.A (pyIter v) (PIE X pins σ tg R) X.xe s1) X.xe s
theorem rG {M:Model}{A:Around}{E:Value->Shared->Prop}{s:Shared}{tg:Expr}{it:Addr}{u:Value}{o:Obj}{n:String}{vs:Array Value}{Q:Unit->Shared->Prop}(ho:s.heap.get? it=some o)(hc:o.cls=.type n)(hd:o.data=.fields vs)
  (hn:["enumerate","zip","dict_itemiterator","dict_reverseitemiterator","odict_iterator","itertools.zip_longest","itertools.pairwise"].contains n=false) (hQ:Q () s):wpAny M A (letOwnedTupleGo tg (.ref it) u) Q E s:=by
 unfold letOwnedTupleGo;cases tg<;>first
  |exact zX6 hQ
  |(cases u<;>first
    |exact zX6 hQ
    |(refine zW4 (wpAny_load ho ?_)
      rw[hc,hd];show wpAny M A (if (["enumerate","zip","dict_itemiterator","dict_reverseitemiterator","odict_iterator","itertools.zip_longest","itertools.pairwise"].contains n&&vs[0]? == some (rawInt _))=true then _ else _) Q E s;rw[if_neg (by intro h;rw[hn,z01] at h;cases h)];exact zX6 hQ))
noncomputable def Itl (K:PySem.W.Frag)(a:Addr):It:=
 ⟨fun i H=>∃xs x,SqL K H a xs/\xs[i]?=some x,fun i H x H'=>H'=H/\∀xs,SqL K H a xs->xs[i]?=some x,fun i H=>∃xs,SqL K H a xs/\xs.length<=i⟩
noncomputable def Itt (K:PySem.W.Frag)(a:Addr):It:=
 ⟨fun i H=>∃xs x,SqT K H a xs/\xs[i]?=some x,fun i H x H'=>H'=H/\∀xs,SqT K H a xs->xs[i]?=some x,fun i H=>∃xs,SqT K H a xs/\xs.length<=i⟩
noncomputable def Itr (lo:Int)(n:Nat):It:=⟨fun i _=>i<n,fun i H x H'=>H'=H/\x=.int (lo+i),fun i _=>n<=i⟩
theorem cq {P:Program}{w:World}{K:PySem.W.Frag}{tg:Expr}(a it:Addr):Turn P w K tg (Itl K a) [it] it (fun i h=>h.IsListIter it a i) where
 mem:=by simp
 obj:=fun i h st b hb=>by
  have e:b=it:=by simpa using hb
  subst e;obtain⟨o,e,c,d⟩:=st;exact⟨o,e,fun v z=>by rw[d] at z;cases z⟩
 keep:=fun i h h' st k=>st.at fun o e=>k it (by simp) o e
 item:=by
  intro X hP hw hK hc i pins s σ H E I hf st hg;subst hP hw hK;obtain⟨xs,x,hq,hx⟩:=hg;obtain⟨its,rv,p,hz⟩:=I.list hq;obtain⟨u,hu,ru⟩:=rv.get hx;obtain⟨f0,f1,f2,f3,f4,f5⟩:=hf it (by simp);refine wpAny_pyNext_list_item st p.isList (x:=u) (by simpa using hu) fun h' st' sb=>?_;have I1:Inv X pins σ H {s with heap:=h'}:=I.turned (t':=s.toks) (fun b o hb e=>(sb.2 b hb).trans e) f0 f1 f3 f4 f5;obtain⟨o,e,c,d⟩:=id st';exact⟨u,rfl,rG (s:={s with heap:=h'}) e c d (by decide) ⟨x,H,I1,ru,⟨rfl,fun ys hy=>by rw[I.list_inj hy hq];exact hx⟩,st',fun b hb=>(hf b hb).1⟩⟩
 done:=by
  intro X hP hw hK hc i pins s σ H E I hf st hg;subst hP hw hK;obtain⟨xs,hq,hx⟩:=hg;obtain⟨its,rv,p,hz⟩:=I.list hq;obtain⟨f0,f1,f2,f3,f4,f5⟩:=hf it (by simp);have hl:=rv.length;exact wpAny_pyNext_list_end (I.ok.hd hc) st p.isList (by simp;omega) fun h' eb=>⟨rfl,I.turned (t':=s.toks) (fun b o hb e=>eb b o hb e) f0 f1 f3 f4 f5⟩
 self:=fun _ _ _ _ _ st h=>wpAny_pyIter_listiter st h
theorem jF {P:Program}{w:World}{K:PySem.W.Frag}{tg:Expr}(a it:Addr):Turn P w K tg (Itt K a) [it] it (fun i h=>h.IsTupleIter it a i) where
 mem:=by simp
 obj:=fun i h st b hb=>by
  have e:b=it:=by simpa using hb
  subst e;obtain⟨o,e,c,d⟩:=st;exact⟨o,e,fun v z=>by rw[d] at z;cases z⟩
 keep:=fun i h h' st k=>st.at fun o e=>k it (by simp) o e
 item:=by
  intro X hP hw hK hc i pins s σ H E I hf st hg;subst hP hw hK;obtain⟨xs,x,hq,hx⟩:=hg;obtain⟨its,rv,p,hz⟩:=I.tuple hq;obtain⟨u,hu,ru⟩:=rv.get hx;obtain⟨f0,f1,f2,f3,f4,f5⟩:=hf it (by simp);refine wpAny_pyNext_tuple_item st (show s.heap.IsTuple a its.toArray from p) (x:=u) (by simpa using hu) fun h' st' sb=>?_;have I1:Inv X pins σ H {s with heap:=h'}:=I.turned (t':=s.toks) (fun b o hb e=>(sb.2 b hb).trans e) f0 f1 f3 f4 f5;obtain⟨o,e,c,d⟩:=id st';exact⟨u,rfl,rG (s:={s with heap:=h'}) e c d (by decide) ⟨x,H,I1,ru,⟨rfl,fun ys hy=>by rw[I.tuple_inj hy hq];exact hx⟩,st',fun b hb=>(hf b hb).1⟩⟩
 done:=by
  intro X hP hw hK hc i pins s σ H E I hf st hg;subst hP hw hK;obtain⟨xs,hq,hx⟩:=hg;obtain⟨its,rv,p,hz⟩:=I.tuple hq;obtain⟨f0,f1,f2,f3,f4,f5⟩:=hf it (by simp);have hl:=rv.length;exact wpAny_pyNext_tuple_end (I.ok.hd hc) st (show s.heap.IsTuple a its.toArray from p) (by simp;omega) fun h' eb=>⟨rfl,I.turned (t':=s.toks) (fun b o hb e=>eb b o hb e) f0 f1 f3 f4 f5⟩
 self:=fun _ _ _ _ _ st h=>wpAny_pyIter_tupleiter st h
theorem jd {P:Program}{w:World}{K:PySem.W.Frag}{tg:Expr}(it:Addr)(lo:Int)(n:Nat):Turn P w K tg (Itr lo n) [it] it (fun i h=>IsRangeIter h it (lo+(i:Nat)*1) ((n:Int)-(i:Nat)) 1) where
 mem:=by simp
 obj:=fun i h st b hb=>by
  have e:b=it:=by simpa using hb
  subst e;exact⟨_,st,fun v z=>by
   have z':Data.fields _=Data.cell v:=z;cases z'⟩
 keep:=fun i h h' st k=>k it (by simp) _ st
 item:=by
  intro X hP hw hK hc i pins s σ H E I hf st hg;subst hP hw hK;obtain⟨f0,f1,f2,f3,f4,f5⟩:=hf it (by simp);have W:=Walks.range (prog:=X.prog) (w:=X.w) (I.ok.hd hc) it lo 1 n;refine W.item i s _ _ hg st fun v h' tk hv st' kk=>?_;obtain⟨t,rfl⟩:=hv;have I1:Inv X pins σ H {s with heap:=h',toks:=tk}:=I.turned (fun b o hb e=>kk b o (by simpa using hb) e) f0 f1 f3 f4 f5;refine⟨_,rfl,rG (s:={s with heap:=h',toks:=tk}) (n:="range_iterator") st' rfl rfl (by decide) ⟨.int (lo+i),H,I1,⟨t,?_⟩,⟨rfl,rfl⟩,st',fun b hb=>(hf b hb).1⟩⟩;rw[Int.mul_one]
 done:=by
  intro X hP hw hK hc i pins s σ H E I hf st hg;subst hP hw hK;obtain⟨f0,f1,f2,f3,f4,f5⟩:=hf it (by simp);exact wpAny_pyNext_range_end (I.ok.hd hc) st (by have:n<=i:=hg;omega) fun h' eb=>⟨rfl,I.turned (t':=s.toks) (fun b o hb e=>eb b o hb e) f0 f1 f3 f4 f5⟩
 self:=fun _ _ _ _ _ st h=>wpAny_pyIter_rangeiter st h
section
variable {X:Cx}{tg:Expr}
def zP4 (K:PySem.W.Frag)(tl:TE):TI:=fun σ H R=>tl σ H fun x H1=>∃a,x=.ref a/\(∃xs,SqL K H1 a xs)/\R (Itl K a) H1
def zT1 (K:PySem.W.Frag)(tl:TE):TI:=fun σ H R=>tl σ H fun x H1=>∃a,x=.ref a/\(∃xs,SqT K H1 a xs)/\R (Itt K a) H1
theorem gI {l:Expr}{tl:TE}(hl:PE X l tl):PI X tg l (zP4 X.K tl):=by
 intro pins s σ H R I h;refine thn (hl pins s σ H _ I h) fun v s1 ⟨x,H1,I1,r1,q1⟩=>?_;obtain⟨a,e,⟨xs,hq⟩,q⟩:=q1;subst e;cases r1;obtain⟨its,rv,p,hz⟩:=I1.list hq;refine z51 p.isList ?_;refine⟨s1.heap.objs.size,[s1.heap.objs.size],_,_,H1,rfl,I1.kept (t':=s1.toks) fun b o e=>zW5 _ e,cq a _,⟨_,zX4 _ rfl,rfl,rfl⟩,fun b hb=>?_,q⟩;have e:b=s1.heap.objs.size:=by simpa using hb
 subst e;exact I1.fpOk (zW9 _) (I1.hok.fresh (zW9 _))
theorem zJ7 {l:Expr}{tl:TE}(hl:PE X l tl):PI X tg l (zT1 X.K tl):=by
 intro pins s σ H R I h;refine thn (hl pins s σ H _ I h) fun v s1 ⟨x,H1,I1,r1,q1⟩=>?_;obtain⟨a,e,⟨xs,hq⟩,q⟩:=q1;subst e;cases r1;obtain⟨its,rv,p,hz⟩:=I1.tuple hq;refine wpAny_pyIter_tuple (show s1.heap.IsTuple a its.toArray from p) ?_;refine⟨s1.heap.objs.size,[s1.heap.objs.size],_,_,H1,rfl,I1.kept (t':=s1.toks) fun b o e=>zW5 _ e,jF a _,⟨_,zX4 _ rfl,rfl,rfl⟩,fun b hb=>?_,q⟩;have e:b=s1.heap.objs.size:=by simpa using hb
 subst e;exact I1.fpOk (zW9 _) (I1.hok.fresh (zW9 _))
theorem ky {pins:List (Addr×Obj)}{σ:St}{H:Hp}{s:Shared}{R:It->Hp->Prop}{E:Value->Shared->Prop}{lo hi:Int}{t u v:Tok}{tk:Nat}(I:Inv X pins σ H s)(h1:-(2 ^ 62)<=lo)(h2:lo<2 ^ 62)(h3:-(2 ^ 62)<=hi)(h4:hi<2 ^ 62)
  (q:R (Itr lo (hi-lo).toNat) H):wpAny (model X.prog X.w) X.A (pyIter (.ref s.heap.objs.size)) (PIE X pins σ tg R) E {s with heap:=s.heap.push {cls:=.type "range",data:=.fields #[.int lo t,.int hi u,.int 1 v]},toks:=tk}:=by
 refine wpAny_pyIter_range (IsRange.new ..) (small_one h1 h2 h3 h4) ?_;have I1:Inv X pins σ H {s with heap:=s.heap.push {cls:=.type "range",data:=.fields #[.int lo t,.int hi u,.int 1 v]},toks:=tk}:=I.kept fun b o e=>zW5 _ e;refine⟨(s.heap.push {cls:=.type "range",data:=.fields #[.int lo t,.int hi u,.int 1 v]}).objs.size,[(s.heap.push {cls:=.type "range",data:=.fields #[.int lo t,.int hi u,.int 1 v]}).objs.size],_,_,H,rfl,
  I1.kept (t':=tk) fun b o e=>zW5 _ e,jd _ lo (hi-lo).toNat,?_,fun b hb=>?_,q⟩
 ·have e1:lo+((0:Nat):Int)*1=lo:=by simp
  have e2:(((hi-lo).toNat:Nat):Int)-((0:Nat):Int)=Builtin.Range.rangeSize lo hi 1:=by rw[rangeSize_one];split<;>omega
  show IsRangeIter _ _ (lo+((0:Nat):Int)*1) ((((hi-lo).toNat:Nat):Int)-((0:Nat):Int)) 1;rw[e1,e2];exact zX4 _ rfl
 ·have e:b=(s.heap.push {cls:=.type "range",data:=.fields #[.int lo t,.int hi u,.int 1 v]}).objs.size:=by simpa using hb
  subst e;exact I1.fpOk (zW9 _) (I1.hok.fresh (zW9 _))
def zL7 (ta:TA):TI:=fun σ H R=>ta σ H fun vs H1=>∃j:Int,vs=[.int j]/\-(2 ^ 62)<=j/\j<2 ^ 62/\R (Itr 0 j.toNat) H1
def zP9 (ta:TA):TI:=fun σ H R=>ta σ H fun vs H1=>∃i j:Int,vs=[.int i,.int j]/\(-(2 ^ 62)<=i/\i<2 ^ 62/\-(2 ^ 62)<=j/\j<2 ^ 62)/\R (Itr i (j-i).toNat) H1
theorem cO {a:Expr}{ta:TA}{p pos:Pos}(hg:Gl X "range")(hm:X.mg "range"=none)(ha:PA X [a] ta)(hs:starEach [a] X.env=[(false,eval a X.env)]:=by rfl):PI X tg (.Call (.Name "range" p) [a] [] pos) (zL7 ta):=by
 intro pins s σ H R I h;refine Call_ (xx I hg hm boot_range (zZ7 (thn (ha pos pins s σ H _ I h) fun us s1 ⟨vs,H1,I1,r1,q1⟩=>?_) hs rfl));obtain⟨j,e,q1,q2,q⟩:=q1;subst e;cases r1 with
 |cons r rr=>
  cases rr;obtain⟨t,rfl⟩:=r;exact call_range_1 (ky I1 (by omega) (by omega) q1 q2 (by simpa using q))
theorem dz {a b:Expr}{ta:TA}{p pos:Pos}(hg:Gl X "range")(hm:X.mg "range"=none)(ha:PA X [a,b] ta)(hs:starEach [a,b] X.env=[(false,eval a X.env),(false,eval b X.env)]:=by rfl)(hs2:starEach [b] X.env=[(false,eval b X.env)]:=by rfl):
  PI X tg (.Call (.Name "range" p) [a,b] [] pos) (zP9 ta):=by
 intro pins s σ H R I h;refine Call_ (xx I hg hm boot_range (zZ7 (thn (ha pos pins s σ H _ I h) fun us s1 ⟨vs,H1,I1,r1,q1⟩=>?_) (by rw[hs,hs2]) (by rw[hs2];rfl)));obtain⟨i,j,e,⟨q1,q2,q3,q4⟩,q⟩:=q1;subst e;cases r1 with
 |cons r rr=>
  cases rr with
  |cons r' rr=>
   cases rr;obtain⟨t,rfl⟩:=r;obtain⟨t',rfl⟩:=r';exact call_range_2 (ky I1 q1 q2 q3 q4 q)
def zT5 (wi:TI)(g:TG)(tb:TS):TS:=fun D σ H=>wi σ H fun J H1=>∃W:Nat->Nat->St->Hp->Prop,(∃m,W 0 m σ H1)/\∀i m σ H,W i m σ H->
 (J.stop i H/\D.nx σ H)\/(J.go i H/\∃N:St->Hp->Prop,(∀σ' H',N σ' H'->∃m',m'<m/\W (i+1) m' σ' H')/\∀x H',J.yld i H x H'->g x σ H' fun σ2 H2=>tb {D with nx:=N,ct:=N,bk:=D.nx} σ2 H2)
noncomputable def qw (fp:List Addr)(h:Heap):List (Addr×Obj):=fp.filterMap fun b=>(h.get? b).map fun o=>(b,o)
theorem vA {fp:List Addr}{h:Heap}{b:Addr}{o:Obj}(hb:b∈fp)(e:h.get? b=some o):(b,o)∈qw fp h:=ye2.mpr ⟨b,hb,by rw[e];rfl⟩
theorem bq {fp:List Addr}{h:Heap}{p:Addr×Obj}(hp:p∈qw fp h):p.1∈fp/\h.get? p.1=some p.2:=by
 obtain⟨b,hb,e⟩:=ye2.mp hp;cases q:h.get? b with
 |none=>rw[q] at e;cases e
 |some o=>
  rw[q] at e;have e':(b,o)=p:=zZ2 e;subst e';exact⟨hb,q⟩
theorem Inv.pinned {pins:List (Addr×Obj)}{σ:St}{H:Hp}{s:Shared}{fp:List Addr}(I:Inv X pins σ H s)(hf:∀b∈fp,xN X pins H b)(ho:∀b∈fp,∃o,s.heap.get? b=some o/\∀v,o.data≠.cell v):Inv X (pins++qw fp s.heap) σ H s:=
 I.pins_of fun p hp=>(z20.mp hp).elim (fun z=>I.pin p (z00 _ z)) fun z=>by
  obtain⟨hb,e⟩:=bq z;obtain⟨f0,f1,f2,_⟩:=hf p.1 hb;obtain⟨o,e',d⟩:=ho p.1 hb;rw[e] at e';cases e';exact⟨e,f0,f1,f2,d⟩
theorem Inv.unpinned {pins pl:List (Addr×Obj)}{σ:St}{H:Hp}{s:Shared}(I:Inv X (pins++pl) σ H s):Inv X pins σ H s:=I.pins_of fun p hp=>I.pin p (z00 _ (z78 _ hp))
theorem zI3 {iter:Expr}{body:List Stmt}{wi:TI}{g:TG}{tb:TS}{pos:Pos}(hp:PassesOwn (model X.prog X.w) X.A X.env X.xe)(hc:X.calm=true)(hi:PI X tg iter wi)(hg:PG X tg g)(hb:PSs X body tb)
  (hs:∀x,foldedSetIterable iter X.env x=pure x:=by intro _;rfl):PS X (.For tg iter body [] pos) (zT5 wi g tb):=by
 intro pins s σ H D I h;refine wpAny_For (thn (hi pins s σ H _ I h) fun v s1 h1=>thn h1 fun itv s2 h2=>?_) hs;obtain⟨it,fp,tn,J,H2,e,I2,T,st2,f2,W,⟨m0,w0⟩,turn⟩:=h2;subst e
 -- what stays true of the iterator's objects through the loop
 have stat:∀{H':Hp},(∀b∈fp,H' b=none)->∀b∈fp,xN X pins H' b:=fun hn b hb=>⟨hn b hb,(f2 b hb).2⟩;refine codeAny_forLoop_any (fun n s'=>∃i σ' H',Inv X pins σ' H' s'/\tn i s'.heap/\(∀b∈fp,H' b=none)/\W i n σ' H') ?_ m0 ⟨0,σ,H2,I2,st2,fun b hb=>(f2 b hb).1,w0⟩;rintro n s3 ⟨i,σ3,H3,I3,st3,fr3,w3⟩;rcases turn i n σ3 H3 w3 with ⟨stop,qn⟩|⟨go,N,hN,step⟩
 ·refine z72 hp (thn (T.done X rfl rfl rfl hc i pins s3 σ3 H3 X.xe I3 (stat fr3) st3 stop) fun r s4 ⟨hr,I4⟩=>?_);subst hr;exact yd0 ⟨σ3,H3,I4,qn⟩
 ·refine z72 hp (thn (T.item X rfl rfl rfl hc i pins s3 σ3 H3 X.xe I3 (stat fr3) st3 go) fun r s4 ⟨u,hr,h4⟩=>?_);subst hr;refine z72 hp (thn h4 fun _ s5 ⟨x,H5,I5,r5,y5,st5,fr5⟩=>?_);have I5':=I5.pinned (stat fr5) (T.obj _ _ st5);refine z72 hp (thn (hg _ s5 σ3 H5 x u _ I5' r5 (step x H5 y5)) fun _ s6 ⟨σ6,H6,I6,q6⟩=>?_);refine z72 hp (thn (hb _ s6 σ6 H6 _ I6 q6) fun f s7 q7=>?_);have again:∀{σ7:St} {H7:Hp},Inv X (pins++qw fp s5.heap) σ7 H7 s7->N σ7 H7->∃m,m<n/\∃i σ' H',Inv X pins σ' H' s7/\tn i s7.heap/\(∀b∈fp,H' b=none)/\W i m σ' H':=fun {σ7 H7} I7 n7=>by
   obtain⟨m',hm,w7⟩:=hN σ7 H7 n7;refine⟨m',hm,i+1,σ7,H7,I7.unpinned,T.keep _ _ _ st5 fun b hb o e=>(I7.pin (b,o) (z00 _ (z00 _ (vA hb e)))).1,fun b hb=>?_,w7⟩;obtain⟨o,e,d⟩:=T.obj _ _ st5 b hb;exact (I7.pin (b,o) (z00 _ (z00 _ (vA hb e)))).2.1
  cases f with
  |next=>obtain⟨σ7,H7,I7,n7⟩:=q7;exact again I7 n7
  |cont=>obtain⟨σ7,H7,I7,n7⟩:=q7;exact again I7 n7
  |brk=>obtain⟨σ7,H7,I7,q7⟩:=q7;exact⟨σ7,H7,I7.unpinned,q7⟩
  |ret v=>obtain⟨x7,σ7,H7,I7,r7,q7⟩:=q7;exact⟨x7,σ7,H7,I7.unpinned,r7,q7⟩
end
abbrev R2 :=V->V->Hp->VK->Prop
def OpR (X:Cx)(f:Value->Value->Sem Value)(r:R2):Prop:=
 ∀(pins:List (Addr×Obj)) (s:Shared) (σ:St) (H:Hp) (x y:V) (v u:Value) (Q:VK),Inv X pins σ H s->RelV x v->RelV y u->r x y H Q->
  wpAny (model X.prog X.w) X.A (f v u) (EP X pins σ Q) X.xe s
def UnR (X:Cx)(f:Value->Sem Value)(r:V->Hp->VK->Prop):Prop:=
 ∀(pins:List (Addr×Obj)) (s:Shared) (σ:St) (H:Hp) (x:V) (v:Value) (Q:VK),Inv X pins σ H s->RelV x v->r x H Q->
  wpAny (model X.prog X.w) X.A (f v) (EP X pins σ Q) X.xe s
def xK (X:Cx)(f:Value)(r:List V->Hp->VK->Prop):Prop:=
 ∀(pins:List (Addr×Obj)) (s:Shared) (σ:St) (H:Hp) (xs:List V) (us:List Value) (Q:VK),Inv X pins σ H s->Vals xs us->r xs H Q->
  wpAny (model X.prog X.w) X.A (call f us) (EP X pins σ Q) X.xe s
def zW1 (X:Cx)(r:V->Hp->(Bool->Hp->Prop)->Prop):Prop:=
 ∀(pins:List (Addr×Obj)) (s:Shared) (σ:St) (H:Hp) (x:V) (v:Value) (Q:Bool->Hp->Prop),Inv X pins σ H s->RelV x v->r x H Q->
  wpAny (model X.prog X.w) X.A (truthy v) (TP X pins σ Q) X.xe s
def tOp (r:R2)(ta tb:TE):TE:=fun σ H Q=>ta σ H fun x H1=>tb σ H1 fun y H2=>r x y H2 Q
def tUn (r:V->Hp->VK->Prop)(ta:TE):TE:=fun σ H Q=>ta σ H fun x H1=>r x H1 Q
def rI (C:Int->Int->Prop)(g:Int->Int->V):R2:=fun x y H Q=>∃i j,x=.int i/\y=.int j/\C i j/\Q (g i j) H
def rI0 (g:Int->Int->V):R2:=fun x y H Q=>∃i j,x=.int i/\y=.int j/\Q (g i j) H
def rU (g:Int->V):V->Hp->VK->Prop:=fun x H Q=>∃i,x=.int i/\Q (g i) H
section
variable {X:Cx}{a b c:Expr}{ta tb tc:TE}{pos:Pos}
theorem zI1 (ha:PE X a ta)(hb:PE X b tb){pins:List (Addr×Obj)}{s:Shared}{σ:St}{H:Hp}{R:V->V->Hp->Prop}(I:Inv X pins σ H s)
  (h:ta σ H fun x H1=>tb σ H1 fun y H2=>R x y H2) {Q:Value->Shared->Prop} {f:Value->Value->Sem Value}
  (hf:∀v u s2 x y H2,Inv X pins σ H2 s2->RelV x v->RelV y u->R x y H2->wpAny (model X.prog X.w) X.A (f v u) Q X.xe s2):
  wpAny (model X.prog X.w) X.A (eval a X.env) (fun v s₁=>wpAny (model X.prog X.w) X.A (eval b X.env) (fun u s₂=>wpAny (model X.prog X.w) X.A (f v u) Q X.xe s₂) X.xe s₁) X.xe s:=by
 refine thn (ha pins s σ H _ I h) fun v s1 ⟨x,H1,I1,r1,q1⟩=>?_;refine thn (hb pins s1 σ H1 _ I1 q1) fun u s2 ⟨y,H2,I2,r2,q2⟩=>?_;exact hf v u s2 x y H2 I2 r1 r2 q2
theorem yJ {op:Operator}{r:R2}(ho:OpR X (binaryOp op) r)(ha:PE X a ta)(hb:PE X b tb):PE X (.BinOp a op b pos) (tOp r ta tb):=by
 intro pins s σ H Q I h;exact wpAny_BinOp (zI1 ha hb I h fun v u s2 x y H2 I2 rx ry q=>ho pins s2 σ H2 x y v u Q I2 rx ry q)
theorem zy6 {op:UnaryOp}{r:V->Hp->VK->Prop}(ho:UnR X (unaryOp op) r)(ha:PE X a ta):PE X (.UnaryOp op a pos) (tUn r ta):=by
 intro pins s σ H Q I h;exact UnaryOp_ (thn (ha pins s σ H _ I h) fun v s1 ⟨x,H1,I1,r1,q1⟩=>ho pins s1 σ H1 x v Q I1 r1 q1)
theorem opI {f:Value->Value->Sem Value}{C:Int->Int->Prop}{g:Int->Int->Int}
  (rule:∀(i j:Int) (t u:Tok) (s:Shared) (Q:Value->Shared->Prop) (E:Value->Shared->Prop),C i j->Q (.int (g i j) s.toks) {s with toks:=s.toks+1}->wpAny (model X.prog X.w) X.A (f (.int i t) (.int j u)) Q E s):
  OpR X f (rI C fun i j=>.int (g i j)):=by
 intro pins s σ H x y v u Q I rx ry h;obtain⟨i,j,rfl,rfl,hc,q⟩:=h;obtain⟨t,rfl⟩:=rx;obtain⟨t',rfl⟩:=ry;exact rule i j t t' s _ _ hc ⟨.int (g i j),H,I.tok _,⟨_,rfl⟩,q⟩
theorem zM8 {f:Value->Value->Sem Value}{g:Int->Int->Int}
  (rule:∀(i j:Int) (t u:Tok) (s:Shared) (Q:Value->Shared->Prop) (E:Value->Shared->Prop),Q (.int (g i j) s.toks) {s with toks:=s.toks+1}->wpAny (model X.prog X.w) X.A (f (.int i t) (.int j u)) Q E s):
  OpR X f (rI0 fun i j=>.int (g i j)):=by
 intro pins s σ H x y v u Q I rx ry h;obtain⟨i,j,rfl,rfl,q⟩:=h;obtain⟨t,rfl⟩:=rx;obtain⟨t',rfl⟩:=ry;exact rule i j t t' s _ _ ⟨.int (g i j),H,I.tok _,⟨_,rfl⟩,q⟩
theorem zp4 {f:Value->Value->Sem Value}{g:Int->Int->Bool}
  (rule:∀(i j:Int) (t u:Tok) (s:Shared) (Q:Value->Shared->Prop) (E:Value->Shared->Prop),Q (.bool (g i j)) s->wpAny (model X.prog X.w) X.A (f (.int i t) (.int j u)) Q E s):
  OpR X f (rI0 fun i j=>.bl (g i j)):=by
 intro pins s σ H x y v u Q I rx ry h;obtain⟨i,j,rfl,rfl,q⟩:=h;obtain⟨t,rfl⟩:=rx;obtain⟨t',rfl⟩:=ry;exact rule i j t t' s _ _ ⟨.bl (g i j),H,I,rfl,q⟩
def zE5 (i j:Int):Prop:=0<=j/\j<=1000000/\i.natAbs<2 ^ 64
def zD3 (i j:Int):Prop:=(-(2 ^ 64)<i/\i<2 ^ 64)\/(-(2 ^ 64)<j/\j<2 ^ 64)
theorem zD3.ok {i j:Int}(h:zD3 i j):IntMulOk i j:=by
 rcases h with ⟨h1,h2⟩|⟨h1,h2⟩
 ·exact .of_left (intBits_le_64 h1 h2)
 ·exact .of_right (intBits_le_64 h1 h2)
theorem tU :OpR X (binaryOp .Add) (rI0 fun i j=>.int (i+j)):=zM8 fun _ _ _ _ _ _ _ q=>add_int q
theorem zd2 :OpR X (binaryOp .Sub) (rI0 fun i j=>.int (i-j)):=zM8 fun _ _ _ _ _ _ _ q=>sub_int q
theorem qY :OpR X (binaryOp .Mult) (rI zD3 fun i j=>.int (i*j)):=opI fun _ _ _ _ _ _ _ hc q=>mul_int q hc.ok
theorem uG :OpR X (binaryOp .Mod) (rI (fun _ j=>0<j) fun i j=>.int (i % j)):=opI fun i j _ _ _ _ _ hc q=>by
 have h1:(0:Int)<j:=hc;exact mod_int' (by omega) (by rw[Int.fmod_eq_emod_of_nonneg i (by omega)];exact q)
theorem zk1 :OpR X (binaryOp .Pow) (rI zE5 fun i j=>.int (i ^ j.toNat)):=opI fun _ _ _ _ _ _ _ hc q=>pow_int_small hc.1 hc.2.1 hc.2.2 q
theorem unI {f:Value->Sem Value}{g:Int->Int}
  (rule:∀(i:Int) (t:Tok) (s:Shared) (Q:Value->Shared->Prop) (E:Value->Shared->Prop),Q (.int (g i) s.toks) {s with toks:=s.toks+1}->wpAny (model X.prog X.w) X.A (f (.int i t)) Q E s):
  UnR X f (rU fun i=>.int (g i)):=by
 intro pins s σ H x v Q I rx h;obtain⟨i,rfl,q⟩:=h;obtain⟨t,rfl⟩:=rx;exact rule i t s _ _ ⟨.int (g i),H,I.tok _,⟨_,rfl⟩,q⟩
theorem zg5 :UnR X (unaryOp .USub) (rU fun i=>.int (-i)):=unI fun _ _ _ _ _ q=>neg_int q
end
noncomputable def zN7 :V->V->Bool
 |.non,.non=>true|.non,.int _=>true|.int _,.non=>true|.non,.bl _=>true|.bl _,.non=>true|.non,.str _=>true|.str _,.non=>true
 |.int _,.int _=>true|.bl _,.bl _=>true|.str _,.str _=>true|.byt _,.byt _=>true
 |.int _,.str _=>true|.str _,.int _=>true|.bl _,.str _=>true|.str _,.bl _=>true
 |_,_=>false
def rEq :R2:=fun x y H Q=>zN7 x y=true/\Q (.bl (decide (x=y))) H
def rNe :R2:=fun x y H Q=>zN7 x y=true/\Q (.bl (!decide (x=y))) H
theorem ff {i j:Int}:decide (V.int i=V.int j)=(i == j):=by
 rw[z59];simp
theorem zf5 {i j:Bool}:decide (V.bl i=V.bl j)=(i == j):=by
 rw[z59];simp
theorem gZ {i j:Str}:decide (V.str i=V.str j)=(i == j):=by
 rw[z59];simp
theorem gG {i j:Array UInt8}:decide (V.byt i=V.byt j)=(i.toList == j.toList):=by
 rw[z59];cases i;cases j;simp
section
variable {X:Cx}{a b c:Expr}{ta tb tc:TE}{pos:Pos}
theorem zJ {pins:List (Addr×Obj)}{σ:St}{H:Hp}{s:Shared}{Q:VK}{k k':Bool}(I:Inv X pins σ H s)(q:Q (.bl k) H)(e:k=k'):EP X pins σ Q (.bool k') s:=by
 subst e;exact⟨.bl k,H,I,rfl,q⟩
theorem vE :OpR X (compareOp .Eq) rEq:=by
 intro pins s σ H x y v u Q I rx ry h;obtain⟨hs,q⟩:=h;cases x with
 |non=>
  cases rx;cases y with
  |non=>cases ry;exact PySem.EqNone.eq_none_none (zJ I q (by simp))
  |bl j=>cases ry;exact PySem.EqNone.eq_none_bool (zJ I q (by simp))
  |int j=>obtain⟨t',rfl⟩:=ry;exact PySem.EqNone.eq_none_int (zJ I q (by simp))
  |str j=>obtain⟨t',rfl⟩:=ry;exact PySem.EqNone.eq_none_str (zJ I q (by simp))
  |_=>exact absurd (show false=true from hs) zY1
 |bl i=>
  cases rx;cases y with
  |non=>cases ry;exact PySem.EqNone.eq_bool_none (zJ I q (by simp))
  |bl j=>cases ry;exact eq_bool (zJ I q zf5)
  |str j=>obtain⟨t',rfl⟩:=ry;exact PySem.EqMixed.eq_bool_str (zJ I q (by simp))
  |_=>exact absurd (show false=true from hs) zY1
 |int i=>
  obtain⟨t,rfl⟩:=rx;cases y with
  |non=>cases ry;exact PySem.EqNone.eq_int_none (zJ I q (by simp))
  |int j=>obtain⟨t',rfl⟩:=ry;exact eq_int (zJ I q ff)
  |str j=>obtain⟨t',rfl⟩:=ry;exact PySem.EqMixed.eq_int_str (zJ I q (by simp))
  |_=>exact absurd (show false=true from hs) zY1
 |str i=>
  obtain⟨t,rfl⟩:=rx;cases y with
  |non=>cases ry;exact PySem.EqNone.eq_str_none (zJ I q (by simp))
  |bl j=>cases ry;exact PySem.EqMixed.eq_str_bool (zJ I q (by simp))
  |int j=>obtain⟨t',rfl⟩:=ry;exact PySem.EqMixed.eq_str_int (zJ I q (by simp))
  |str j=>obtain⟨t',rfl⟩:=ry;exact eq_str (zJ I q gZ)
  |_=>exact absurd (show false=true from hs) zY1
 |byt i=>
  obtain⟨t,rfl⟩:=rx;cases y with
  |byt j=>obtain⟨t',rfl⟩:=ry;exact PySem.W.eq_bytes (zJ I q gG)
  |_=>exact absurd (show false=true from hs) zY1
 |_=>cases y<;>exact absurd (show false=true from hs) zY1
theorem zL2 :OpR X (compareOp .NotEq) rNe:=by
 intro pins s σ H x y v u Q I rx ry h;obtain⟨hs,q⟩:=h;cases x with
 |non=>
  cases rx;cases y with
  |non=>cases ry;exact PySem.EqNone.ne_none_none (zJ I q (by simp))
  |bl j=>cases ry;exact PySem.EqNone.ne_none_bool (zJ I q (by simp))
  |int j=>obtain⟨t',rfl⟩:=ry;exact PySem.EqNone.ne_none_int (zJ I q (by simp))
  |str j=>obtain⟨t',rfl⟩:=ry;exact PySem.EqNone.ne_none_str (zJ I q (by simp))
  |_=>exact absurd (show false=true from hs) zY1
 |bl i=>
  cases rx;cases y with
  |non=>cases ry;exact PySem.EqNone.ne_bool_none (zJ I q (by simp))
  |bl j=>cases ry;exact ne_bool (zJ I q (congrArg not zf5))
  |str j=>obtain⟨t',rfl⟩:=ry;exact PySem.EqMixed.ne_bool_str (zJ I q (by simp))
  |_=>exact absurd (show false=true from hs) zY1
 |int i=>
  obtain⟨t,rfl⟩:=rx;cases y with
  |non=>cases ry;exact PySem.EqNone.ne_int_none (zJ I q (by simp))
  |int j=>obtain⟨t',rfl⟩:=ry;exact ne_int (zJ I q (congrArg not ff))
  |str j=>obtain⟨t',rfl⟩:=ry;exact PySem.EqMixed.ne_int_str (zJ I q (by simp))
  |_=>exact absurd (show false=true from hs) zY1
 |str i=>
  obtain⟨t,rfl⟩:=rx;cases y with
  |non=>cases ry;exact PySem.EqNone.ne_str_none (zJ I q (by simp))
  |bl j=>cases ry;exact PySem.EqMixed.ne_str_bool (zJ I q (by simp))
  |int j=>obtain⟨t',rfl⟩:=ry;exact PySem.EqMixed.ne_str_int (zJ I q (by simp))
  |str j=>obtain⟨t',rfl⟩:=ry;exact ne_str (zJ I q (congrArg not gZ))
  |_=>exact absurd (show false=true from hs) zY1
 |byt i=>
  obtain⟨t,rfl⟩:=rx;cases y with
  |byt j=>obtain⟨t',rfl⟩:=ry;exact PySem.W.ne_bytes (zJ I q (congrArg not gG))
  |_=>exact absurd (show false=true from hs) zY1
 |_=>cases y<;>exact absurd (show false=true from hs) zY1
theorem gO :OpR X (compareOp .Lt) (rI0 fun i j=>.bl (decide (i<j))):=zp4 fun _ _ _ _ _ _ _ q=>lt_int q
theorem tj :OpR X (compareOp .LtE) (rI0 fun i j=>.bl (decide (i<=j))):=zp4 fun _ _ _ _ _ _ _ q=>le_int q
theorem lI :OpR X (compareOp .Gt) (rI0 fun i j=>.bl (decide (j<i))):=zp4 fun _ _ _ _ _ _ _ q=>gt_int q
theorem zm2 :OpR X (compareOp .GtE) (rI0 fun i j=>.bl (decide (j<=i))):=zp4 fun _ _ _ _ _ _ _ q=>ge_int q
theorem mq :OpR X (compareOp .Is) (fun x y H Q=>y=.non/\Q (.bl (decide (x=.non))) H):=by
 intro pins s σ H x y v u Q I rx ry h;obtain⟨rfl,q⟩:=h;cases ry;refine is_none_gen (zJ I q ?_);cases x<;>first
  |(cases rx;rfl)
  |(obtain⟨t,rfl⟩:=rx;rfl)
theorem zn9 :OpR X (compareOp .IsNot) (fun x y H Q=>y=.non/\Q (.bl (!decide (x=.non))) H):=by
 intro pins s σ H x y v u Q I rx ry h;obtain⟨rfl,q⟩:=h;cases ry;refine isnot_none_gen (zJ I q ?_);cases x<;>first
  |(cases rx;rfl)
  |(obtain⟨t,rfl⟩:=rx;rfl)
theorem zC (b:Expr){op:CmpOp}(h:op≠.In:=by decide)(h2:op≠.NotIn:=by decide):behindInMarks op b=false:=by
 have e1:(op == CmpOp.In)=false:=by cases op<;>first|rfl|exact absurd rfl h
 have e2:(op == CmpOp.NotIn)=false:=by cases op<;>first|rfl|exact absurd rfl h2
 cases b<;>simp[behindInMarks,e1,e2]
theorem xT {op:CmpOp}{r:R2}(ho:OpR X (compareOp op) r)(ha:PE X a ta)(hb:PE X b tb)(hm:behindInMarks op b=false):PE X (.Compare a [op] [b] pos) (tOp r ta tb):=by
 intro pins s σ H Q I h;exact wpAny_Compare1 (zI1 ha hb I h fun v u s2 x y H2 I2 rx ry q=>ho pins s2 σ H2 x y v u Q I2 rx ry q) hm
def zy1 (t:TE):TT:=fun σ H Q=>t σ H fun x H'=>∃k,x=.bl k/\Q k H'
theorem yr {op:CmpOp}{r:R2}(ho:OpR X (compareOp op) r)(ha:PE X a ta)(hb:PE X b tb)(hm:behindInMarks op b=false):PT X (.Compare a [op] [b] pos) (zy1 (tOp r ta tb)):=by
 intro pins s σ H Q I h;refine wpAny_isTrue_Compare1 (thn (ha pins s σ H _ I h) fun v s1 ⟨x,H1,I1,r1,q1⟩=>thn (hb pins s1 σ H1 _ I1 q1) fun u s2 ⟨y,H2,I2,r2,q2⟩=>
  thn (ho pins s2 σ H2 x y v u _ I2 r1 r2 q2) fun c s3 ⟨z,H3,I3,r3,k,e,q3⟩=>?_) hm
 subst e;cases r3;exact z09 ⟨H3,I3,q3⟩
def zE4 (r r':R2)(ta tb tc:TE):TE:=fun σ H Q=>ta σ H fun x H1=>tb σ H1 fun y H2=>r x y H2 fun z H3=>∃k,z=.bl k/\
 (if k=true then tc σ H3 fun w' H4=>r' y w' H4 Q else Q (.bl false) H3)
theorem qj {op op':CmpOp}{r r':R2}(ho:OpR X (compareOp op) r)(ho':OpR X (compareOp op') r')(ha:PE X a ta)(hb:PE X b tb)(hc:PE X c tc)
  (hm:lastMarks [op,op'] [b,c]=false:=by with_unfolding_all rfl):PE X (.Compare a [op,op'] [b,c] pos) (zE4 r r' ta tb tc):=by
 intro pins s σ H Q I h;refine Compare_chain (thn (ha pins s σ H _ I h) fun v s1 ⟨x,H1,I1,r1,q1⟩=>chain_link (thn (hb pins s1 σ H1 _ I1 q1) fun u s2 ⟨y,H2,I2,r2,q2⟩=>
  thn (ho pins s2 σ H2 x y v u _ I2 r1 r2 q2) fun d s3 ⟨z,H3,I3,r3,k,e,q3⟩=>?_)) hm
 subst e;cases r3;refine z09 ?_;cases k with
 |false=>exact ite_ff ⟨.bl false,H3,I3,rfl,q3⟩
 |true=>exact ite_tt (chain_last (thn (hc pins s3 σ H3 _ I3 q3) fun w' s4 ⟨z',H4,I4,r4,q4⟩=>ho' pins s4 σ H4 y z' u w' Q I4 r2 r4 q4))
def zO0 (K:PySem.W.Frag)(x:V)(H:Hp)(k:Bool):Prop:=
 match x with
 |.non=>k=false
 |.bl b=>k=b
 |.int i=>k=(i != 0)
 |.str y=>y.length<=sizeLine/\k=((y.length:Int) != 0)
 |.byt y=>y.size<=sizeLine/\k=((y.size:Int) != 0)
 |.ref p=>(∃xs,SqL K H p xs/\k=!xs.isEmpty)\/(∃xs,SqT K H p xs/\k=!xs.isEmpty)\/∃kvs,H p=some (.dK kvs)/\k=!kvs.isEmpty
 |_=>False
theorem iO {κ:Type}{kvs:List (κ×V)}{vs:List (κ×Value)}(r:KV kvs vs):(!vs.isEmpty)=!kvs.isEmpty:=by
 cases r<;>rfl
theorem qC {xs:List V}{its:List Value}(r:Vals xs its):(!its.toArray.isEmpty)=!xs.isEmpty:=by
 cases r<;>simp
theorem tT :(sizeLine:Nat)<2 ^ 63:=by rw[z34];decide
theorem zD0 :zW1 X (fun x H Q=>∃k,zO0 X.K x H k/\Q k H):=by
 intro pins s σ H x v Q I rx h;obtain⟨k,e,q⟩:=h;have hl:=tT;have hs:sizeLine=16777216:=z34;cases x with
 |non=>
  cases rx;have e':k=false:=e;subst e';exact truthy_none ⟨H,I,q⟩
 |bl b=>
  cases rx;have e':k=b:=e;subst e';exact z09 ⟨H,I,q⟩
 |int i=>
  obtain⟨t,rfl⟩:=rx;have e':k=(i != 0):=e;subst e';exact PySem.P.truthy_int ⟨H,I,q⟩
 |str y=>
  obtain⟨t,rfl⟩:=rx;obtain⟨hy,e'⟩:y.length<=sizeLine/\k=((y.length:Int) != 0):=e;subst e';exact PySem.P.truthy_str (by omega) ⟨H,I.tok _,q⟩
 |byt y=>
  obtain⟨t,rfl⟩:=rx;obtain⟨hy,e'⟩:y.size<=sizeLine/\k=((y.size:Int) != 0):=e;subst e';exact PySem.W.truthy_bytes (by omega) ⟨H,I.tok _,q⟩
 |ref p=>
  cases rx;have e':(∃xs,SqL X.K H p xs/\k=!xs.isEmpty)\/(∃xs,SqT X.K H p xs/\k=!xs.isEmpty)\/∃kvs,H p=some (.dK kvs)/\k=!kvs.isEmpty:=e;rcases e' with ⟨xs,hx,e'⟩|⟨xs,hx,e'⟩|⟨kvs,hx,e'⟩
  ·subst e';obtain⟨its,r,pl,hz⟩:=I.list hx;have hlen:=r.length;exact wpAny_truthy_list pl.isList (by simp only[zX8];omega) ⟨H,I.tok _,by rw[qC r];exact q⟩
  ·subst e';obtain⟨its,r,pl,hz⟩:=I.tuple hx;have hlen:=r.length;exact truthy_tuple pl (by simp only[zX8];omega) ⟨H,I.tok _,by rw[qC r];exact q⟩
  ·subst e';obtain⟨hz,hS,vs,r,m⟩:kvs.length<=sizeLine/\(p == sysModules)=false/\∃vs,KV kvs vs/\s.heap.DictOf (yh X.prog X.w) p vs:=I.hok p _ hx;have hlen:kvs.length=vs.length:=Paired.length r;exact wpAny_truthy_dict hS m (by omega) ⟨H,I.tok _,by rw[iO r];exact q⟩
 |_=>exact (show False from e).elim
theorem za4 (ha:PE X a ta)(he:∀whole,isTrue a X.env whole=(do let v <-whole;standAt a.pos;holding [v] (truthy v))):
  PT X a (fun σ H Q=>ta σ H fun x H'=>∃k,zO0 X.K x H' k/\Q k H'):=by
 intro pins s σ H Q I h;exact isTrue_plain (thn (ha pins s σ H _ I h) fun v s1 ⟨x,H1,I1,r1,q1⟩=>zD0 pins s1 σ H1 x v Q I1 r1 q1) (he _)
theorem vals1 {x:V}{us:List Value}(r:Vals [x] us):∃u,us=[u]/\RelV x u:=by
 cases r with
 |cons r1 r2=>cases r2;exact⟨_,rfl,r1⟩
theorem mD :xK X (.builtin "abs") (fun xs H Q=>∃i,xs=[.int i]/\Q (.int (if i<0 then -i else i)) H):=by
 intro pins s σ H xs us Q I r h;obtain⟨i,rfl,q⟩:=h;obtain⟨u,rfl,t,rfl⟩:=vals1 r;exact call_abs_int fun u tk=>⟨.int (if i<0 then -i else i),H,I.tok _,⟨_,rfl⟩,q⟩
theorem cL :xK X (.type "int") (fun xs H Q=>(∃i,xs=[.int i]/\Q (.int i) H)\/∃k,xs=[.bl k]/\Q (.int (if k then 1 else 0)) H):=by
 intro pins s σ H xs us Q I r h;rcases h with ⟨i,rfl,q⟩|⟨k,rfl,q⟩
 ·obtain⟨u,rfl,t,rfl⟩:=vals1 r;exact call_int_int ⟨.int i,H,I,⟨_,rfl⟩,q⟩
 ·obtain⟨u,rfl,r1⟩:=vals1 r;cases r1;exact call_int_bool ⟨.int (if k then 1 else 0),H,I.tok _,⟨_,rfl⟩,q⟩
end
structure iu (h:Heap)(x dx C:Addr)(mA:Str->Option Value):Prop where
 obj:h.get? x=some (PySem.W.instObj C dx)
 ns:h.Ns1 dx mA
 ne:dx≠x
theorem dQ {h:Heap}{dx:Addr}{mA:Str->Option Value}(n:h.Ns1 dx mA):∃od,h.get? dx=some od/\∀name,PySem.W.lookIn name od=some (mA name):=by
 obtain⟨o,es,ep,ho,hd,hk,_,hm⟩:=n;refine⟨o,ho,fun name=>?_⟩;have e:=hm name;unfold nsFind findBy at e;rw[<-Array.find?_toList] at e;unfold PySem.W.lookIn;rw[hd];dsimp only;split
 ·rename_i y q;rw[q] at e;exact congrArg some e
 ·rename_i q;rw[q] at e;have a:es.toList.any (·.refKey)=false:=by
   rw[List.any_eq_false];intro y hy;obtain⟨z,t,hkey⟩:=hk y (Array.mem_toList_iff.mp hy);simp[DictEntry.refKey,hkey]
  have a':¬es.toList.any (·.refKey)=true:=by rw[a];exact zY1
  rw[if_neg a'];exact congrArg some e
theorem iu.look {h:Heap}{x dx C:Addr}{mA:Str->Option Value}(I:iu h x dx C mA):∃od,PySem.W.InstAt h x (PySem.W.instObj C dx) C (some od)/\∀name,PySem.W.lookIn name od=some (mA name):=
 let ⟨od,ho,hl⟩:=dQ I.ns
 ⟨od,⟨I.obj,rfl,rfl,ho⟩,hl⟩
section
variable {prog:Program}{w:World}{A:Around}{E:Value->Shared->Prop}{s:Shared}{K:PySem.W.Frag}{x dx C f:Addr}{mA:Str->Option Value}{name:Str}{v:Value}
theorem get_map {expr:Bool}{Q:Value->Shared->Prop}(X:K.In s.heap)(I:iu s.heap x dx C mA)(hg:PySem.W.plainGet K C name=true)(hh:PySem.W.hasDictIn K C=true)
  (ha:PySem.W.findIn K (.ref C) name=some none) (hv:mA name=some v) (hv':PySem.W.handedIn v=true) (h:Q v {s with toks:=s.toks+1}):
  wpAny (model prog w) A (getAttr (.ref x) name expr) Q E s:=by
 obtain⟨od,J,hl⟩:=I.look;exact PySem.W.get_value X J (ye1 hg).1 (PySem.W.findObj_own hh ha rfl (by rw[hl,hv])) hv' h
theorem zm3 {pl:Sem Bool}{Q:Value×List Value->Shared->Prop}(X:K.In s.heap)(I:iu s.heap x dx C mA)(hg:PySem.W.plainGet K C name=true)
  (hf:PySem.W.findIn K (.ref C) name=some (some (.ref f))) (ht:PySem.W.isFn K (.ref f)=true) (hv:mA name=none) (h:Q (.ref f,[.ref x]) s):
  wpAny (model prog w) A (getMethod (.ref x) name pl) Q E s:=by
 obtain⟨od,J,hl⟩:=I.look;exact PySem.W.method_fn X J (ye1 hg).1 (ye1 hg).2 hf (beq_iff_eq.mp ht) (by show (PySem.W.lookIn name od).map (·.isSome)=some false;rw[hl,hv];rfl) h
theorem zn6 {ns:List Str}{Q:Unit->Shared->Prop}(X:K.In s.heap)(I:iu s.heap x dx C mA)
  (hs:PySem.W.findIn K (.ref C) "__setattr__"=some (some (.builtin "object.__setattr__"))) (hp:PySem.W.plainOver K C=true) (ht:PySem.W.takerIn K C name=some none) (hh:PySem.W.hasDictIn K C=true)
  (hw:PySem.Within mA ns) (hsz:ns.length<=sizeLine)
  (h:∀h',iu h' x dx C (fun y=>if y=name then some v else mA y)->Heap.SameBut dx s.heap h'->Q () {s with heap:=h',toks:=s.toks+2}):
  wpAny (model prog w) A (setAttr (.ref x) name v) Q E s:=by
 obtain⟨od,J,hl⟩:=I.look;refine PySem.W.set_plain X J hs (PySem.W.osa_open (s:={s with toks:=s.toks+1}) (r:=none) X J hp ht fun b=>?_);obtain⟨cd,hc,hd'⟩:=PySem.W.any_some hh;have hx:s.heap.get? x=some ⟨.ref C,some dx,.plain,#[]⟩:=I.obj;refine zW4 (zX6 (zW4 (zW4 (wpAny_loadPart hx (zW4 (PySem.W.Looks.here (s:={s with toks:=s.toks+1}) (PySem.W.looks_clsIn X hc) ?_))))));rw[hd'];refine zX6 (a:=some dx) (zW4 (zX6 (zW4 ?_)));refine wpAny_nsSet1 (s:={s with toks:=s.toks+1}) I.ns fun h' hn2 hs2=>?_;obtain⟨oD,esD,epD,hoD,hdD,hcD⟩:=hn2.count (PySem.Within.cons name v hw);refine zW4 (wpAny_lookBehind hoD (by rw[hdD];exact pastItsLine_dict (z24 hcD (by rw[zX9];omega))) ?_);exact zX6 (h _ ⟨(hs2.2 _ (zZ8 I.ne)).trans I.obj,hn2,I.ne⟩ hs2)
theorem bX {R:Result->Shared->Prop}{vs:List Value}{kw:List (Str×Value)}(X:K.In s.heap)(hm:PySem.W.makesIn K C=true)
  (hi:PySem.W.findIn K (.ref C) "__init__"=some (some (.ref f))) (hf:PySem.W.typeIn K (.ref f)=some (.type "function"))
  (h:codeAny (model prog w) (A.under (.builtin "type.__call__" ⟨.ref C::vs,kw⟩)) (.call (.ref f) ⟨.ref (s.heap.objs.size+1)::vs,kw⟩) (PySem.W.InitBack (s.heap.objs.size+1) R)
   {s with heap:=(s.heap.push PySem.W.emptyDict).push (PySem.W.instObj C s.heap.objs.size)}):
  codeAny (model prog w) A (.call (.ref C) ⟨vs,kw⟩) R s:=by
 obtain⟨hh,g,d,t,os⟩:=s;exact PySem.W.make_core (PySem.W.makes_of X hm) (PySem.W.looks_findIn X hi) (fun self=>PySem.W.bind_fn X self hf) (.inl rfl) h
end
noncomputable def wt (f:Str)(v:V):List (Str×V)->List (Str×V)
 |[]=>[(f,v)]
 |(g,x)::r=>if g=f then (g,v)::r else (g,x)::wt f v r
theorem yR (f g:Str)(v:V):∀fs:List (Str×V),(wt f v fs).lookup g=if g=f then some v else fs.lookup g
 |[]=>by
  show List.lookup g [(f,v)]=_;by_cases h:g=f
  ·have hb:(g == f)=true:=beq_iff_eq.mpr h;simp only[List.lookup,hb,if_pos h]
  ·have hb:(g == f)=false:=z63.mpr h;simp only[List.lookup,hb,if_neg h]
 |(k,x)::r=>by
  have ih:=yR f g v r;rw[show wt f v ((k,x)::r)=(if k=f then (k,v)::r else (k,x)::wt f v r) from rfl];by_cases hk:k=f
  ·rw[if_pos hk];by_cases h:g=k
   ·have hb:(g == k)=true:=beq_iff_eq.mpr h;simp only[List.lookup,hb,if_pos (h.trans hk)]
   ·have hb:(g == k)=false:=z63.mpr h;simp only[List.lookup,hb,if_neg (fun e:g=f=>h (e.trans hk.symm))]
  ·rw[if_neg hk];by_cases h:g=k
   ·have hb:(g == k)=true:=beq_iff_eq.mpr h;simp only[List.lookup,hb,if_neg (fun e:g=f=>hk (h.symm.trans e))]
   ·have hb:(g == k)=false:=z63.mpr h;simp only[List.lookup,hb];exact ih
theorem su (f:Str)(v:V):∀fs:List (Str×V),f∈(wt f v fs).map (·.1)/\∀g,g∈fs.map (·.1)->g∈(wt f v fs).map (·.1)
 |[]=>⟨by simp[wt],fun g h=>by simp at h⟩
 |(k,x)::r=>by
  obtain⟨i1,i2⟩:=su f v r;rw[show wt f v ((k,x)::r)=(if k=f then (k,v)::r else (k,x)::wt f v r) from rfl];by_cases hk:k=f
  ·rw[if_pos hk];subst hk;exact⟨by simp,fun g h=>by simpa using h⟩
  ·rw[if_neg hk];refine⟨?_,fun g h=>?_⟩
   ·rw[zY2];exact zX3 _ i1
   ·rw[zY2] at h ⊢;rcases zX0.mp h with e|e
    ·exact zX0.mpr (.inl e)
    ·exact zX3 _ (i2 g e)
theorem sF (f:Str)(v:V):∀fs:List (Str×V),(wt f v fs).length<=fs.length+1
 |[]=>by simp[wt]
 |(k,x)::r=>by
  have ih:=sF f v r;rw[show wt f v ((k,x)::r)=(if k=f then (k,v)::r else (k,x)::wt f v r) from rfl];by_cases hk:k=f
  ·rw[if_pos hk,zX9,zX9];omega
  ·rw[if_neg hk,zX9,zX9];omega
theorem uq.some_of {v:V}{o:Option Value}(r:uq (some v) o):∃u,o=some u/\RelV v u:=by
 cases o with
 |none=>exact (show False from r).elim
 |some u=>exact⟨u,rfl,r⟩
theorem uq.none_of {o:Option Value}(r:uq none o):o=none:=by
 cases o with
 |none=>rfl
 |some u=>exact (show False from r).elim
theorem eh {v:V}{u:Value}(r:RelV v u):PySem.W.handedIn u=true:=by
 cases v with
 |non=>cases (show u=Value.none from r);rfl
 |bl b=>cases (show u=Value.bool b from r);rfl
 |int i=>obtain⟨t,e⟩:=(show ∃t,u=Value.int i t from r);cases e;rfl
 |str x=>obtain⟨t,e⟩:=(show ∃t,u=Value.str x t from r);cases e;rfl
 |byt b=>obtain⟨t,e⟩:=(show ∃t,u=Value.bytes b t from r);cases e;rfl
 |flt b=>obtain⟨t,e⟩:=(show ∃t,u=Value.float b t from r);cases e;rfl
 |ref a=>cases (show u=Value.ref a from r);rfl
 |ty n=>cases (show u=Value.type n from r);rfl
section
variable {P:Program}{w:World}{H H':Hp}{h h':Heap}{a C dx:Addr}{fs fs':List (Str×V)}
theorem rz (hok:HOk P w H h)(e:H a=some (.ins C dx fs)):∃mA,iu h a dx C mA/\(∀f,uq (fs.lookup f) (mA f))/\PySem.Within mA (fs.map (·.1))/\fs.length<=1000/\H dx=some (.own a):=by
 obtain⟨d,z,ne,ob,mA,n,r,q⟩:=(show zS P w H h a (.ins C dx fs) from hok a _ e);exact⟨mA,⟨ob,n,ne⟩,r,q,z,d⟩
end
structure Cls (K:PySem.W.Frag)(C:Addr):Prop where
 pg:PySem.W.plainGet K C Str.empty=true
 hd:PySem.W.hasDictIn K C=true
 po:PySem.W.plainOver K C=true
 sa:PySem.W.findIn K (.ref C) "__setattr__"=some (some (.builtin "object.__setattr__"))
theorem Cls.get {K:PySem.W.Frag}{C:Addr}(c:Cls K C)(f:Str):PySem.W.plainGet K C f=true:=c.pg
def xj (K:PySem.W.Frag)(C:Addr)(f:Str):Prop:=PySem.W.findIn K (.ref C) f=some none
theorem xj.taker {K:PySem.W.Frag}{C:Addr}{f:Str}(n:xj K C f):PySem.W.takerIn K C f=some none:=by
 unfold PySem.W.takerIn;rw[show PySem.W.findIn K (.ref C) f=some none from n];rfl
structure Meth (K:PySem.W.Frag)(C:Addr)(m:Str)(f:Addr):Prop where
 at_:PySem.W.findIn K (.ref C) m=some (some (.ref f))
 fn:PySem.W.isFn K (.ref f)=true
 kp:PySem.W.keepIn K (.ref f)=true
section
variable {X:Cx}{pins:List (Addr×Obj)}{σ:St}{H:Hp}{s:Shared}{a C dx:Addr}{fs:List (Str×V)}{f:Str}{v:V}{A:Around}{E:Value->Shared->Prop}
theorem jZ {b:Bool}{Q:Value->Shared->Prop}(I:Inv X pins σ H s)(e:H a=some (.ins C dx fs))(c:Cls X.K C)(n:xj X.K C f)(l:fs.lookup f=some v)
  (h:∀u s',Inv X pins σ H s'->RelV v u->Q u s'):wpAny (model X.prog X.w) A (getAttr (.ref a) f b) Q E s:=by
 obtain⟨mA,O,r,_,_,_⟩:=rz I.hok e;obtain⟨u,hu,ru⟩:=uq.some_of (v:=v) (o:=mA f) (by rw[<-l];exact r f);exact get_map I.kIn O (c.get f) c.hd n hu (eh ru) (h u _ (I.tok _) ru)
theorem uL {m:Str}{g:Addr}{pl:Sem Bool}{Q:Value×List Value->Shared->Prop}(I:Inv X pins σ H s)(e:H a=some (.ins C dx fs))(c:Cls X.K C)(k:Meth X.K C m g)(l:fs.lookup m=none)
  (h:Q (.ref g,[.ref a]) s):wpAny (model X.prog X.w) A (getMethod (.ref a) m pl) Q E s:=by
 obtain⟨mA,O,r,_,_,_⟩:=rz I.hok e;have hn:mA m=none:=uq.none_of (by rw[<-l];exact r m);exact zm3 I.kIn O (c.get m) k.at_ k.fn hn h
theorem jV {y:V}{u:Value}{Q:Unit->Shared->Prop}(I:Inv X pins σ H s)(e:H a=some (.ins C dx fs))(c:Cls X.K C)(n:xj X.K C f)(hl:fs.length<1000)(ry:RelV y u)
  (h:∀s',Inv X pins σ (upd H a (.ins C dx (wt f y fs))) s'->Q () s'):wpAny (model X.prog X.w) A (setAttr (.ref a) f u) Q E s:=by
 obtain⟨mA,O,r,wi,_,ho⟩:=rz I.hok e;have hz:(fs.map (·.1)).length<=sizeLine:=by rw[zW3,z34];omega
 refine zn6 I.kIn O c.sa c.po n.taker c.hd wi hz fun h' O' sb=>h _ ?_;have hd:∃o,h'.get? dx=some o:=let ⟨o,_,_,e',_⟩:=O'.ns;⟨o,e'⟩;refine I.write (x:=a) (e:=dx) (by rw[e];exact True.intro) (.inr ho) (fun b q hb z=>(sb.2 b hb).trans z) hd ?_;refine⟨by rw[zg O.ne];exact ho,?_,O.ne,O'.obj,_,O'.ns,fun g=>?_,fun g hg=>?_⟩
 ·have:=sF f y fs;omega
 ·show uq ((wt f y fs).lookup g) (if g=f then some u else mA g);rw[yR];by_cases q:g=f
  ·rw[if_pos q,if_pos q];exact ry
  ·rw[if_neg q,if_neg q];exact r g
 ·by_cases q:g=f
  ·rw[q];exact (su f y fs).1
  ·refine (su f y fs).2 g (wi g fun z=>hg ?_);show (if g=f then some u else mA g)=none;rw[if_neg q];exact z
theorem Inv.made (I:Inv X pins σ H s):Inv X pins σ (upd (upd H s.heap.objs.size (.own (s.heap.objs.size+1))) (s.heap.objs.size+1) (.ins C s.heap.objs.size []))
  {s with heap:=(s.heap.push PySem.W.emptyDict).push (PySem.W.instObj C s.heap.objs.size)}:=by
 have e1:(s.heap.push PySem.W.emptyDict).get? s.heap.objs.size=some PySem.W.emptyDict:=zX4 s.heap rfl;have e2:((s.heap.push PySem.W.emptyDict).push (PySem.W.instObj C s.heap.objs.size)).get? (s.heap.objs.size+1)=some (PySem.W.instObj C s.heap.objs.size):=by
  have:=zX4 (s.heap.push PySem.W.emptyDict) (o:=PySem.W.instObj C s.heap.objs.size) rfl
  rwa [z37] at this
 have e3:(s.heap.push PySem.W.emptyDict).Ns s.heap.objs.size (fun _=>none):=⟨PySem.W.emptyDict,#[],_,e1,rfl,(fun e he=>absurd he (by simp)),fun _=>rfl⟩;have I1:=I.laid (a:=s.heap.objs.size) (o:=.own (s.heap.objs.size+1)) (h':=s.heap.push PySem.W.emptyDict) (t':=s.toks) (fun b u q=>zW5 _ q) (zW9 _) ⟨_,e1⟩;refine I1.laid (a:=s.heap.objs.size+1) (o:=.ins C s.heap.objs.size []) (t':=s.toks) (fun b u q=>zW5 _ q) (yd1 (z37 _ _)) ?_;have ne:s.heap.objs.size≠s.heap.objs.size+1:=zY4 (z84 _);refine⟨by rw[zg ne,zk],zY8 _,ne,e2,fun _=>none,(Heap.Ns1.of_empty e3).at fun o q=>zW5 _ q,fun _=>True.intro,fun y hy=>absurd rfl hy⟩
theorem zs6 {prog:Program}{w:World}{env:Env}{e:Expr}{f:Str}{pos:Pos}{s:Shared}{Q:Value->Shared->Prop}(hb:attributeBase e f env (eval e env)=eval e env)
  (h:wpAny (model prog w) A (eval e env) (fun o s₁=>wpAny (model prog w) A (getAttr o f true) Q E s₁) E s):wpAny (model prog w) A (eval (.Attribute e f pos) env) Q E s:=
 Attribute_any_ h (by rw[arm_eval_Attribute,hb])
end
def zV4 (K:PySem.W.Frag)(ta:TE)(f:Str):TE:=fun σ H Q=>ta σ H fun x H1=>∃a C dx fs v,x=.ref a/\H1 a=some (.ins C dx fs)/\Cls K C/\xj K C f/\fs.lookup f=some v/\Q v H1
def zU1 (K:PySem.W.Frag)(ta tv:TE)(f:Str):TS:=fun D σ H=>tv σ H fun y H1=>ta σ H1 fun x H2=>∃a C dx fs,x=.ref a/\H2 a=some (.ins C dx fs)/\Cls K C/\xj K C f/\fs.length<1000/\
 D.nx σ (upd H2 a (.ins C dx (wt f y fs)))
section
variable {X:Cx}{o e value:Expr}{f:Str}{pos pos' tpos:Pos}{ta tv:TE}
theorem jB (he:PE X e ta)(hb:attributeBase e f X.env (eval e X.env)=eval e X.env):PE X (.Attribute e f pos) (zV4 X.K ta f):=by
 intro pins s σ H Q I h;refine zs6 hb (thn (he pins s σ H _ I h) fun u s1 ⟨x,H1,I1,rx,a,C,dx,fs,v,ex,ea,c,n,l,q⟩=>?_);subst ex;obtain rfl:u=Value.ref a:=rx;exact jZ I1 ea c n l fun u' s2 I2 ru=>⟨v,H1,I2,ru,q⟩
theorem nY (ha:PE X o ta)(hv:PE X value tv)(hs:swapsWith value (some (.Attribute o f pos')) pos.line X.env=pure false):PS X (.Assign [.Attribute o f pos'] value pos) (zU1 X.K ta tv f):=by
 intro pins s σ H D I h;refine plainObj_wpAny_Assign_Attribute (thn (hv pins s σ H _ I h) fun u s1 ⟨y,H1,I1,ry,q⟩=>thn (ha pins s1 σ H1 _ I1 q) fun ov s2 ⟨x,H2,I2,rx,a,C,dx,fs,ex,ea,c,n,l,q2⟩=>?_) hs;subst ex;obtain rfl:ov=Value.ref a:=rx;exact jV I2 ea c n l ry fun s3 I3=>⟨σ,_,I3,q2⟩
theorem zA9 {pl:Sem Bool}{m:Str}{apos:Pos}{args:List Expr}{pins:List (Addr×Obj)}{s:Shared}{σ:St}{H:Hp}{Q:Value->Shared->Prop}{te:TE}(he:PE X e te)(I:Inv X pins σ H s)
  (h:te σ H fun x H1=>∃a C dx fs g,x=.ref a/\H1 a=some (.ins C dx fs)/\Cls X.K C/\Meth X.K C m g/\fs.lookup m=none/\
   ∀s1,Inv X pins σ H1 s1->wpAny (model X.prog X.w) X.A (callWith pos (.ref g) [.ref a] (backTo pos (starEach args X.env)) (backToKw pos (keywordEach [] X.env))) Q X.xe s1)
  (ht:eval (.Call (.Attribute e m apos) args [] pos) X.env=(do
   let ov <-eval e X.env
   standAt apos.atName
   let (f,first) <-holding [ov] (getMethod ov m pl)
   callWith pos f first (backTo pos (starEach args X.env)) (backToKw pos (keywordEach [] X.env)))):
  wpAny (model X.prog X.w) X.A (eval (.Call (.Attribute e m apos) args [] pos) X.env) Q X.xe s:=by
 refine yc8 (pl:=pl) (thn (he pins s σ H _ I h) fun u s1 ⟨x,H1,I1,rx,a,C,dx,fs,g,ex,ea,c,k,l,q⟩=>?_) ht;subst ex;obtain rfl:u=Value.ref a:=rx;exact uL I1 ea c k l (q s1 I1)
end
section
variable {X:Cx}{pins:List (Addr×Obj)}{σ:St}{H:Hp}{s:Shared}{A:Around}{E:Value->Shared->Prop}{Q:Value->Shared->Prop}{c:Value}{b:Bool}
inductive tw (K:PySem.W.Frag)(H:Hp):V->Value->Prop where
 |non:tw K H .non (.type "NoneType")
 |bl (x:Bool):tw K H (.bl x) (.type "bool")
 |int (i:Int):tw K H (.int i) (.type "int")
 |str (x:Str):tw K H (.str x) (.type "str")
 |flt (x:UInt64):tw K H (.flt x) (.type "float")
 |lst {a:Addr} {xs:List V} (e:H a=some (.lst xs)):tw K H (.ref a) (.type "list")
 |frz {a:Addr} {o:Obj} {xs:List V} (e:H a=some (.frz o (.lst xs))):tw K H (.ref a) (.type "list")
 |tup {a:Addr} {xs:List V} (e:H a=some (.tup xs)):tw K H (.ref a) (.type "tuple")
 |dK {a:Addr} {kvs:List (Key×V)} (e:H a=some (.dK kvs)):tw K H (.ref a) (.type "dict")
 |dT {a:Addr} {kvs:List (List Key×V)} (e:H a=some (.dT kvs)):tw K H (.ref a) (.type "dict")
 |ins {a C dx:Addr} {fs:List (Str×V)} (e:H a=some (.ins C dx fs)) (cl:Cls K C) (ha:PySem.W.findIn K (.ref C) "__class__"=some (some (.builtin "object.__class__")))
   (hn:PySem.W.specialIn K (.builtin "object.__class__") "__get__"=some (some (.builtin "getset_descriptor.__get__"))) (htk:PySem.W.takesIn K (.builtin "object.__class__")=some true)
   (hm:PySem.W.mroIn K C (.type "object")=some true):tw K H (.ref a) (.ref C)
theorem cV {x:V}{u t:Value}(I:Inv X pins σ H s)(rx:RelV x u)(ty:tw X.K H x t)(e:PySem.W.kitOne X.K t c=some b)(h:∀tk,Q (.bool b) {s with toks:=tk}):
  wpAny (model X.prog X.w) A (call (.builtin "isinstance") [u,c]) Q E s:=by
 cases ty with
 |non=>cases (show u=Value.none from rx);exact z39 PySem.W.kitx_none I.kIn True.intro e (fun z=>nomatch z) h
 |bl y=>cases (show u=Value.bool y from rx);exact z39 PySem.W.kitx_bool I.kIn True.intro e (fun z=>nomatch z) h
 |int i=>obtain⟨t,q⟩:=(show ∃t,u=Value.int i t from rx);cases q;exact z39 PySem.W.kitx_int I.kIn True.intro e (fun z=>nomatch z) h
 |str y=>obtain⟨t,q⟩:=(show ∃t,u=Value.str y t from rx);cases q;exact z39 PySem.W.kitx_str I.kIn True.intro e (fun z=>nomatch z) h
 |flt y=>obtain⟨t,q⟩:=(show ∃t,u=Value.float y t from rx);cases q;exact z39 PySem.W.kitx_float I.kIn True.intro e (fun z=>nomatch z) h
 |@lst a xs ea=>
  cases (show u=Value.ref a from rx);obtain⟨_,_,n,_,h1⟩:=(show zS X.prog X.w H s.heap a (.lst xs) from I.hok a _ ea);exact z39 PySem.W.kitx_list I.kIn ⟨_,h1,rfl⟩ e (fun z=>nomatch z) h
 |@frz a ob xs ea=>
  cases (show u=Value.ref a from rx);obtain⟨_,_,_,n,_,h1⟩:=(show zS X.prog X.w H s.heap a (.frz ob (.lst xs)) from I.hok a _ ea);exact z39 PySem.W.kitx_list I.kIn ⟨_,h1,rfl⟩ e (fun z=>nomatch z) h
 |@tup a xs ea=>
  cases (show u=Value.ref a from rx);obtain⟨_,_,_,p⟩:=(show zS X.prog X.w H s.heap a (.tup xs) from I.hok a _ ea);obtain⟨o,h1,h2,_⟩:=p;exact z39 PySem.W.kitx_tuple I.kIn ⟨o,h1,h2⟩ e (fun z=>nomatch z) h
 |@dK a kvs ea=>
  cases (show u=Value.ref a from rx);obtain⟨_,_,vs,_,p⟩:=(show zS X.prog X.w H s.heap a (.dK kvs) from I.hok a _ ea);obtain⟨o,es,ep,h1,h2,_⟩:=p;exact z39 PySem.W.kitx_dict I.kIn ⟨o,h1,h2.1⟩ e (fun z=>nomatch z) h
 |@dT a kvs ea=>
  cases (show u=Value.ref a from rx);obtain⟨_,_,xs,_,o,es,ep,h1,h2,_⟩:=(show zS X.prog X.w H s.heap a (.dT kvs) from I.hok a _ ea);exact z39 PySem.W.kitx_dict I.kIn ⟨o,h1,h2.1⟩ e (fun z=>nomatch z) h
 |@ins a C dx fs ea cl ha hn htk hm=>
  cases (show u=Value.ref a from rx);obtain⟨mA,O,_⟩:=rz I.hok ea;obtain⟨od,J,_⟩:=O.look;exact z39 (PySem.W.kitx_own (cl.get _) cl.hd ha hn htk hm) I.kIn J e (fun z=>nomatch z) h
end
structure zX (k:Nat)(A:Around):Prop where
 hd:A.handled=none
 dp:A.depth+3*k+5<recursionLimit
 un:A.units+16*k+200<cLine
 gd:A.guards=some []
theorem zX.mono {j k:Nat}{A:Around}(r:zX k A)(h:j<=k):zX j A:=⟨r.hd,by have:=r.dp;omega,by have:=r.un;omega,r.gd⟩
theorem zX.deeper {k:Nat}{A:Around}(r:zX (k+1) A)(env:Env):zX k (A.deeper env):=
 ⟨r.hd,by have:=r.dp;show A.depth+1+3*k+5<_;omega,by have:=r.un;show A.units+3+16*k+200<_;omega,r.gd⟩
theorem zX.in1 {k:Nat}{A:Around}(r:zX (k+1) A):zX k A.in1:=
 ⟨r.hd,by have:=r.dp;show A.depth+3*k+5<_;omega,by have:=r.un;show A.units+1+16*k+200<_;omega,r.gd⟩
theorem jP {A:Around}{C:Addr}{us:List Value}{kw:List (Str×Value)}:(A.under (.builtin "type.__call__" ⟨.ref C::us,kw⟩)).depth=A.depth+1:=by
 first|rfl|simp[Around.under,Code.weight,Code.isCreation,Code.isGuard,Code.isCaller,Code.frames,Code.isFrame,guardIds]
theorem kL {A:Around}{C:Addr}{us:List Value}{kw:List (Str×Value)}:(A.under (.builtin "type.__call__" ⟨.ref C::us,kw⟩)).units=A.units+1:=by
 first|rfl|simp[Around.under,Code.cUnits,Code.frames,Code.isFrame]
theorem lJ {A:Around}{C:Addr}{us:List Value}{kw:List (Str×Value)}:(A.under (.builtin "type.__call__" ⟨.ref C::us,kw⟩)).guards=A.guards:=by
 first|rfl|simp[Around.under,Code.guards,Code.isGuard,guardIds,pushGuards]
theorem zX.make {k:Nat}{A:Around}(r:zX (k+1) A)(C:Addr)(us:List Value)(kw:List (Str×Value)):zX k (A.under (.builtin "type.__call__" ⟨.ref C::us,kw⟩)):=
 ⟨r.hd,by have:=r.dp;rw[jP];omega,by have:=r.un;rw[kL];omega,(lJ (A:=A)).trans r.gd⟩
theorem zX.depth {k:Nat}{A:Around}(r:zX k A):A.depth<recursionLimit:=by have:=r.dp;omega
theorem zX.units {k:Nat}{A:Around}(r:zX k A):A.units+64<cLine:=by have:=r.un;omega
def zN1 :TA:=fun _ H Q=>Q [] H
def zS2 (ta:TE)(tr:TA):TA:=fun σ H Q=>ta σ H fun x H1=>tr σ H1 fun xs H2=>Q (x::xs) H2
section
variable {X:Cx}{e:Expr}{es:List Expr}{te:TE}{t:TA}{pos:Pos}
theorem zw :PA X [] zN1:=fun _ _ _ _ H Q I h=>Calls.spliced_nil ⟨[],H,I,.nil,h⟩
theorem zd (ha:PE X e te)(hr:PA X es t)(hs:starEach (e::es) X.env=(false,eval e X.env)::starEach es X.env:=by rfl):PA X (e::es) (zS2 te t):=by
 intro pos pins s σ H Q I h;rw[hs];show wpAny _ _ (spliced ((false,eval e X.env)::backTo pos (starEach es X.env))) _ _ s;refine Calls.spliced_cons (thn (ha pins s σ H _ I h) fun u s1 ⟨x,H1,I1,r1,q1⟩=>?_);exact thn (hr pos pins s1 σ H1 _ I1 q1) fun us s2 ⟨xs,H2,I2,r2,q2⟩=>⟨x::xs,H2,I2,.cons r1 r2,q2⟩
def zT3 (t:TA):TE:=fun σ H Q=>t σ H fun xs H1=>xs.length<=sizeLine/\∀p,H1 p=none->Q (.ref p) (upd H1 p (.tup xs))
def zU6 (t:TA):TE:=fun σ H Q=>t σ H fun xs H1=>xs.length<=sizeLine/\∀p,H1 p=none->Q (.ref p) (upd H1 p (.lst xs))
theorem oF {x1}(h:PA X es t):PE X (.Tuple es x1 pos) (zT3 t):=by
 intro pins s σ H Q I hq;refine wpAny_Tuple_spliced (thn (h pos pins s σ H _ I hq) fun us s1 ⟨xs,H1,I1,r,z,q⟩=>⟨by rw[<-r.length];exact z,?_⟩);have hf:H1 s1.heap.objs.size=none:=I1.hok.fresh (zW9 _);refine⟨.ref s1.heap.objs.size,upd H1 s1.heap.objs.size (.tup xs),I1.laid (t':=s1.toks) (fun b u e=>zW5 _ e) (zW9 _) ?_,rfl,q _ hf⟩;exact⟨z,us,r,⟨_,zX4 _ rfl,rfl,_,rfl⟩⟩
theorem aJ (h:PA X es t):PE X (.List es pos) (zU6 t):=by
 intro pins s σ H Q I hq;refine wpAny_List_spliced (thn (h pos pins s σ H _ I hq) fun us s1 ⟨xs,H1,I1,r,z,q⟩=>⟨by rw[<-r.length];exact z,?_⟩);have hf:H1 s1.heap.objs.size=none:=I1.hok.fresh (zW9 _);refine⟨.ref s1.heap.objs.size,upd H1 s1.heap.objs.size (.lst xs),I1.laid (t':=s1.toks) (fun b u e=>zW5 _ e) (zW9 _) ?_,rfl,q _ hf⟩;exact⟨z,us,0,r,zX4 _ rfl⟩
end
abbrev Sp :=List V->Hp->VK->XK->Prop
abbrev CXT :=List Env->Hp->Shared->XK->Value->Shared->Prop
structure tZ (P:Program)(w:World)(K:PySem.W.Frag)(mg:Str->Option Value)(base:Heap)(A:Around)(outer:List Env)(s:Shared)(H:Hp):Prop where
 frames:A.frames=some outer
 mod:Mod K mg base
 bs:∀b o,base.get? b=some o->s.heap.get? b=some o/\H b=none
 bsz:base.objs.size<=s.heap.objs.size
 funs:s.heap.FunFrames base outer
 frf:∀b∈frs outer,H b=none
 hok:HOk P w H s.heap
 bare:AllBare s.gens
def CE (outer:List Env)(P:Program)(w:World)(H:Hp)(s:Shared)(Q:VK)(u:Value)(s':Shared):Prop:=
 ∃v H',s'.os=s.os/\AllBare s'.gens/\Un (frs outer) [] H H' s.heap s'.heap/\HOk P w H' s'.heap/\RelV v u/\Q v H'
def CR (CX:CXT)(outer:List Env)(P:Program)(w:World)(H:Hp)(s:Shared)(Q:VK)(E:XK)(r:Result)(s':Shared):Prop:=
 match r with
 |.ok (.ret u)=>CE outer P w H s Q u s'
 |.ok _=>False
 |.error e=>CX outer H s E e s'
structure zE (P:Program)(w:World)(K:PySem.W.Frag)(mg:Str->Option Value)(base:Heap)(CX:CXT)(k:Nat)(f:Addr)(fd:FuncData)(ps:List Str)(sp:Sp):Prop where
 len:∀vs H Q E,sp vs H Q E->vs.length=ps.length
 run:∀(A:Around) (outer:List Env) (s:Shared) (H:Hp) (args:Args) (us:List Value) (vs:List V) (Q:VK) (E:XK),zX k A->tZ P w K mg base A outer s H->BindsTo s fd args (ps.zip us)->Vals vs us->sp vs H Q E->
  codeAny (model P w) A (.call (.ref f) args) (CR CX outer P w H s Q E) s
theorem zE.imp {P:Program}{w:World}{K:PySem.W.Frag}{mg:Str->Option Value}{base:Heap}{CX:CXT}{k:Nat}{f:Addr}{fd:FuncData}{ps:List Str}{sp sp':Sp}(F:zE P w K mg base CX k f fd ps sp)
  (h:∀vs H Q E,sp' vs H Q E->sp vs H Q E):zE P w K mg base CX k f fd ps sp':=
 ⟨fun vs H Q E q=>F.len vs H Q E (h _ _ _ _ q),fun A outer s H args us vs Q E hr he hb hv hs=>F.run A outer s H args us vs Q E hr he hb hv (h _ _ _ _ hs)⟩
theorem tZ.make {P:Program}{w:World}{K:PySem.W.Frag}{mg:Str->Option Value}{base:Heap}{A:Around}{outer:List Env}{s:Shared}{H:Hp}(e:tZ P w K mg base A outer s H)(C:Addr)(us:List Value)(kw:List (Str×Value)):
  tZ P w K mg base (A.under (.builtin "type.__call__" ⟨.ref C::us,kw⟩)) outer s H:=⟨by first|exact e.frames|(simpa[Around.under,Code.envs,Code.isFrame,pushEnvs] using e.frames),e.mod,e.bs,e.bsz,e.funs,e.frf,e.hok,e.bare⟩
theorem tZ.in1 {P:Program}{w:World}{K:PySem.W.Frag}{mg:Str->Option Value}{base:Heap}{A:Around}{outer:List Env}{s:Shared}{H:Hp}(e:tZ P w K mg base A outer s H):
  tZ P w K mg base A.in1 outer s H:=⟨e.frames,e.mod,e.bs,e.bsz,e.funs,e.frf,e.hok,e.bare⟩
section
variable {X:Cx}{pins:List (Addr×Obj)}{σ:St}{H:Hp}{s s':Shared}
theorem Inv.env0 (I:Inv X pins σ H s):tZ X.prog X.w X.K X.mg X.base X.A X.stack s H:=
 ⟨I.ok.frames,I.ok.mod,I.bs,z24 I.ok.bsz I.sz,I.stack,I.stkFree,I.hok,I.bare⟩
theorem Inv.after {Q:VK}{u:Value}(I:Inv X pins σ H s)(h:CE X.stack X.prog X.w H s Q u s'):EP X pins σ Q u s':=by
 obtain⟨v,H',os,bare,un,hok,r,q⟩:=h;obtain⟨hh,g,d,t,os'⟩:=s';obtain rfl:os'=s.os:=os;exact⟨v,H',I.call (h':=hh) (g':=g) (d':=d) (t':=t) (ch:=[]) un hok bare (fun b z=>absurd z (by simp)),r,q⟩
end
def zK8 (sp:Sp)(dvs:List V)(E:XK)(t:TA):TE:=fun σ H Q=>t σ H fun vs H1=>sp (vs++dvs) H1 Q E
def zA0 (C:Addr)(m:Str)(sp:Sp)(dvs:List V)(E:XK)(ta:TE)(t:TA):TE:=fun σ H Q=>ta σ H fun x H1=>∃a dx fs,x=.ref a/\H1 a=some (.ins C dx fs)/\fs.lookup m=none/\
 t σ H1 fun vs H2=>sp (x::(vs++dvs)) H2 Q E
def zR5 (C:Addr)(sp:Sp)(dvs:List V)(E:XK)(t:TA):TE:=fun σ H Q=>t σ H fun vs H1=>∀x dx,H1 x=none->H1 dx=none->dx≠x->
 sp (.ref x::(vs++dvs)) (upd (upd H1 dx (.own x)) x (.ins C dx [])) (fun v H2=>v=.non/\Q (.ref x) H2) E
def Binds (K:PySem.W.Frag)(fd:FuncData)(ps:List Str)(ds:List Value):Prop:=
 ∀(s:Shared) (us:List Value),K.In s.heap->(us++ds).length=ps.length->BindsTo s fd ⟨us,[]⟩ (ps.zip (us++ds))
theorem Binds.all {K:PySem.W.Frag}{fd:FuncData}{ps:List Str}(h:∀us:List Value,us.length=ps.length->bindArgs fd ⟨us,[]⟩=pure (ps.zip us)):Binds K fd ps []:=fun s us _ hl=>by
 rw[z40] at hl ⊢;exact .of_eq (h us hl)
def Passes (CX:CXT)(X:Cx)(E:XK):Prop:=∀(pins:List (Addr×Obj)) (σ:St) (H:Hp) (s:Shared) (e:Value) (s':Shared),Inv X pins σ H s->CX X.stack H s E e s'->X.xe e s'
section
variable {X:Cx}{CX:CXT}{k:Nat}{f C:Addr}{fd:FuncData}{ps:List Str}{sp:Sp}{dvs:List V}{ds:List Value}{E:XK}{x m:Str}{p pos apos:Pos}{e o:Expr}{es:List Expr}{ta:TE}{t:TA}
theorem jX {pins:List (Addr×Obj)}{σ:St}{H:Hp}{s:Shared}{Q:VK}{us:List Value}{vs:List V}(F:zE X.prog X.w X.K X.mg X.base CX k f fd ps sp)(hr:zX k X.A)(hb:Binds X.K fd ps ds)(hd:Vals dvs ds)(hx:Passes CX X E)
  (I:Inv X pins σ H s) (r:Vals vs us) (h:sp (vs++dvs) H Q E):wpAny (model X.prog X.w) X.A (call (.ref f) us) (EP X pins σ Q) X.xe s:=by
 have r2:Vals (vs++dvs) (us++ds):=r.append hd;have hl:(us++ds).length=ps.length:=by rw[<-r2.length];exact F.len _ _ _ _ h
 refine wpAny_call (yd2 (F.run X.A X.stack s H ⟨us,[]⟩ (us++ds) (vs++dvs) Q E hr I.env0 (hb s us I.kIn hl) r2 h) fun r s' hq=>?_);cases r with
 |error e=>exact hx pins σ H s e s' I hq
 |ok fl=>
  cases fl with
  |ret u=>exact I.after hq
  |next=>exact False.elim hq
  |brk=>exact False.elim hq
  |cont=>exact False.elim hq
theorem zZ (F:zE X.prog X.w X.K X.mg X.base CX k f fd ps sp)(hr:zX k X.A)(hg:Gl X x)(hm:X.mg x=some (.ref f))(hk:PySem.W.keepIn X.K (.ref f)=true)(hb:Binds X.K fd ps ds)(hd:Vals dvs ds)(hx:Passes CX X E)
  (ha:PA X (e::es) t) (hdb:(x == ("__debug__":Str))=false:=by decide) (he:starEach (e::es) X.env=(false,eval e X.env)::starEach es X.env:=by rfl) (hpl:(backTo pos (starEach es X.env)).any (·.1)=false:=by rfl):
  PE X (.Call (.Name x p) (e::es) [] pos) (zK8 sp dvs E t):=by
 intro pins s σ H Q I h;refine z89 (rj I hg hm ?_ hdb);refine ye3 (h₀:=X.base) I.ok.mod.kin hk (thn (ha pos pins s σ H _ I h) fun us s1 ⟨vs,H1,I1,r,q⟩=>⟨I1.kIn,?_⟩) he hpl;exact jX F hr hb hd hx I1 r q
theorem zv7 {pl:Sem Bool}(he:PE X o ta)(c:Cls X.K C)(hm:Meth X.K C m f)(F:zE X.prog X.w X.K X.mg X.base CX k f fd ps sp)(hr:zX k X.A)(hb:Binds X.K fd ps ds)(hd:Vals dvs ds)(hx:Passes CX X E)(ha:PA X (e::es) t)
  (hst:starEach (e::es) X.env=(false,eval e X.env)::starEach es X.env:=by rfl) (hpl:(backTo pos (starEach es X.env)).any (·.1)=false:=by rfl)
  (ht:eval (.Call (.Attribute o m apos) (e::es) [] pos) X.env=(do
   let ov <-eval o X.env
   standAt apos.atName
   let (f,first) <-holding [ov] (getMethod ov m pl)
   callWith pos f first (backTo pos (starEach (e::es) X.env)) (backToKw pos (keywordEach [] X.env))):=by rfl):
  PE X (.Call (.Attribute o m apos) (e::es) [] pos) (zA0 C m sp dvs E ta t):=by
 intro pins s σ H Q I h;refine yc8 (pl:=pl) (thn (he pins s σ H _ I h) fun u s1 ⟨x,H1,I1,rx,a,dx,fs,ex,ea,l,q⟩=>?_) ht;subst ex;obtain rfl:u=Value.ref a:=rx;refine uL I1 ea c hm l ?_;refine ye3 (first:=[.ref a]) (h₀:=X.base) I.ok.mod.kin hm.kp (thn (ha pos pins s1 σ H1 _ I1 q) fun us s2 ⟨vs,H2,I2,r,q2⟩=>⟨I2.kIn,?_⟩) hst hpl;exact jX (us:=.ref a::us) (vs:=.ref a::vs) F hr hb hd hx I2 (.cons rfl r) q2
theorem aV {pl:Sem Bool}(he:PE X o ta)(c:Cls X.K C)(hm:Meth X.K C m f)(F:zE X.prog X.w X.K X.mg X.base CX k f fd ps sp)(hr:zX k X.A)(hb:Binds X.K fd ps ds)(hd:Vals dvs ds)(hx:Passes CX X E)
  (ht:eval (.Call (.Attribute o m apos) [] [] pos) X.env=(do
   let ov <-eval o X.env
   standAt apos.atName
   let (f,first) <-holding [ov] (getMethod ov m pl)
   callWith pos f first (backTo pos (starEach [] X.env)) (backToKw pos (keywordEach [] X.env))):=by rfl):
  PE X (.Call (.Attribute o m apos) [] [] pos) (zA0 C m sp dvs E ta zN1):=by
 intro pins s σ H Q I h;refine yc8 (pl:=pl) (thn (he pins s σ H _ I h) fun u s1 ⟨x,H1,I1,rx,a,dx,fs,ex,ea,l,q⟩=>?_) ht;subst ex;obtain rfl:u=Value.ref a:=rx;refine uL I1 ea c hm l ?_;exact PySem.W.callWith_K0 (first:=[.ref a]) I1.kIn hm.kp (jX (us:=[.ref a]) (vs:=[.ref a]) F hr hb hd hx I1 (.cons rfl .nil) q)
structure Mk (K:PySem.W.Frag)(C f:Addr):Prop where
 makes:PySem.W.makesIn K C=true
 init:PySem.W.findIn K (.ref C) "__init__"=some (some (.ref f))
 fn:PySem.W.isFn K (.ref f)=true
 kp:PySem.W.keepIn K (.ref C)=true
theorem ze7 {pins:List (Addr×Obj)}{σ:St}{H:Hp}{s:Shared}{Q:VK}{us:List Value}{vs:List V}(M:Mk X.K C f)(F:zE X.prog X.w X.K X.mg X.base CX k f fd ps sp)(hr:zX (k+1) X.A)(hb:Binds X.K fd ps ds)(hd:Vals dvs ds)
  (hx:Passes CX X E) (I:Inv X pins σ H s) (r:Vals vs us)
  (h:∀x dx,H x=none->H dx=none->dx≠x->sp (.ref x::(vs++dvs)) (upd (upd H dx (.own x)) x (.ins C dx [])) (fun v H2=>v=.non/\Q (.ref x) H2) E):
  wpAny (model X.prog X.w) X.A (call (.ref C) us) (EP X pins σ Q) X.xe s:=by
 have hq:=h (s.heap.objs.size+1) s.heap.objs.size (I.hok.fresh (z58 _)) (I.hok.fresh (zW9 _)) (zY4 (z84 _));have I2:=Inv.made (C:=C) I;have r2:Vals (V.ref (s.heap.objs.size+1)::(vs++dvs)) (Value.ref (s.heap.objs.size+1)::(us++ds)):=.cons rfl (r.append hd);have hl:(Value.ref (s.heap.objs.size+1)::us++ds).length=ps.length:=by
  have e:=r2.length;rw[F.len _ _ _ _ hq] at e;exact e.symm
 refine wpAny_call (bX (f:=f) I.kIn M.makes M.init (beq_iff_eq.mp M.fn) (yd2 (F.run _ X.stack _ _ ⟨Value.ref (s.heap.objs.size+1)::us,[]⟩ (Value.ref (s.heap.objs.size+1)::(us++ds)) _ _ E (hr.make C us [])
  (I2.env0.make C us []) (hb _ (Value.ref (s.heap.objs.size+1)::us) I2.kIn hl) r2 hq) fun r s' hq'=>?_))
 cases r with
 |error e=>exact hx pins σ _ _ e s' I2 hq'
 |ok fl=>
  cases fl with
  |ret u=>
   obtain⟨v,H',I3,rv,ev,q3⟩:=I2.after hq';subst ev;exact⟨rv,⟨V.ref (s.heap.objs.size+1),H',I3,rfl,q3⟩⟩
  |next=>exact False.elim hq'
  |brk=>exact False.elim hq'
  |cont=>exact False.elim hq'
theorem wC (M:Mk X.K C f)(F:zE X.prog X.w X.K X.mg X.base CX k f fd ps sp)(hr:zX (k+1) X.A)(hg:Gl X x)(hm:X.mg x=some (.ref C))(hb:Binds X.K fd ps ds)(hd:Vals dvs ds)(hx:Passes CX X E)
  (ha:PA X (e::es) t) (hdb:(x == ("__debug__":Str))=false:=by decide) (he:starEach (e::es) X.env=(false,eval e X.env)::starEach es X.env:=by rfl) (hpl:(backTo pos (starEach es X.env)).any (·.1)=false:=by rfl):
  PE X (.Call (.Name x p) (e::es) [] pos) (zR5 C sp dvs E t):=by
 intro pins s σ H Q I h;refine z89 (rj I hg hm ?_ hdb);refine ye3 (h₀:=X.base) I.ok.mod.kin M.kp (thn (ha pos pins s σ H _ I h) fun us s1 ⟨vs,H1,I1,r,q⟩=>⟨I1.kIn,?_⟩) he hpl;exact ze7 M F hr hb hd hx I1 r q
end
section
variable {X:Cx}{CX:CXT}{k:Nat}{f C:Addr}{fd:FuncData}{ps ks:List Str}{sp:Sp}{E:XK}{x m:Str}{p pos apos kpos:Pos}{e o:Expr}{es:List Expr}{kws:List Keyword}{te ta:TE}{t tk:TA}{nm:Option Str}
variable {g:List Value->List Value->List Value}{gV:List V->List V->List V}
end
structure zm (N P:List Str)(sc:Scope):Prop where
 kind:sc.kind=.function
 co:sc.isCoroutine=false
 gen:sc.isGenerator=false
 nd:N.Nodup
 pre:N.take P.length=P
 par:∀x∈P,sc.names.lookup x=some .local\/sc.names.lookup x=some .cell
 nofree:∀y∈sc.names,y.2≠.free
theorem zm.o {N P:List Str}{sc:Scope}(h1:sc.kind=.function:=by rfl)(h2:sc.isCoroutine=false:=by rfl)(h3:sc.isGenerator=false:=by rfl)(h4:N.Nodup:=by decide +kernel)(h5:N.take P.length=P:=by rfl)(h6:∀x∈P,sc.names.lookup x=some .local\/sc.names.lookup x=some .cell:=by decide +kernel)(h7:∀y∈sc.names,y.2≠.free:=by decide +kernel):zm N P sc:=⟨h1,h2,h3,h4,h5,h6,h7⟩
theorem ou {kindOf:Str->Option NameKind}{x:Str}:∀{binds:List (Str×Value)} {m:Str->Option Value},(∀v,(x,v)∉binds)->bindL kindOf binds m x=m x
 |[],_,_=>rfl
 |(n,v)::r,m,h=>by
  unfold bindL;rw[ou fun w hw=>h w (zX3 _ hw)];split
  ·have:x≠n:=by rintro rfl;exact h v zX7
   simp[this]
  ·rfl
theorem pP {kindOf:Str->Option NameKind}{x:Str}:∀{binds:List (Str×Value)} {m:Str->Option Value},(∀v,(x,v)∉binds)->bindC kindOf binds m x=m x
 |[],_,_=>rfl
 |(n,v)::r,m,h=>by
  unfold bindC;rw[pP fun w hw=>h w (zX3 _ hw)];split
  ·rfl
  ·have:x≠n:=by rintro rfl;exact h v zX7
   simp[this]
theorem pZ {kindOf:Str->Option NameKind}{x:Str}{v:Value}:∀{P:List Str} {vs:List Value} {i:Nat} {m:Str->Option Value},P.Nodup->P[i]?=some x->vs[i]?=some v->kindOf x=some .local->
  bindL kindOf (P.zip vs) m x=some v
 |[],_,_,_,_,h,_,_=>by simp at h
 |_::_,[],_,_,_,_,h,_=>by simp at h
 |p::P,w::vs,0,m,nd,h1,h2,hk=>by
  simp at h1 h2;subst h1;subst h2;show bindL kindOf ((p,w)::P.zip vs) m p=_;unfold bindL;rw[ou fun v hv=>(yd3.mp nd).1 (List.of_mem_zip hv).1,if_pos hk];simp
 |p::P,w::vs,i+1,m,nd,h1,h2,hk=>by
  show bindL kindOf ((p,w)::P.zip vs) m x=_;unfold bindL;exact pZ (i:=i) (yd3.mp nd).2 (by simpa using h1) (by simpa using h2) hk
theorem pJ {kindOf:Str->Option NameKind}{x:Str}{v:Value}:∀{P:List Str} {vs:List Value} {i:Nat} {m:Str->Option Value},P.Nodup->P[i]?=some x->vs[i]?=some v->kindOf x≠some .local->
  bindC kindOf (P.zip vs) m x=some v
 |[],_,_,_,_,h,_,_=>by simp at h
 |_::_,[],_,_,_,_,h,_=>by simp at h
 |p::P,w::vs,0,m,nd,h1,h2,hk=>by
  simp at h1 h2;subst h1;subst h2;show bindC kindOf ((p,w)::P.zip vs) m p=_;unfold bindC;rw[pP fun v hv=>(yd3.mp nd).1 (List.of_mem_zip hv).1,if_neg hk];simp
 |p::P,w::vs,i+1,m,nd,h1,h2,hk=>by
  show bindC kindOf ((p,w)::P.zip vs) m x=_;unfold bindC;exact pJ (i:=i) (yd3.mp nd).2 (by simpa using h1) (by simpa using h2) hk
noncomputable def start (N:List Str)(vs:List V):St:=vs.map some++List.replicate (N.length-vs.length) none
noncomputable def uu (CX:CXT)(P:Program)(w:World)(K:PySem.W.Frag)(mg:Str->Option Value)(base:Heap)(N:List Str)(qual:Str)(scope:Scope)(f:Addr)(cd:Value)(A:Around)(outer:List Env)(s:Shared)(H:Hp)(E:XK):Cx where
 prog:=P
 w:=w
 K:=K
 mg:=mg
 base:=base
 A:=A.deeper (envOfC qual scope s.heap.objs.size f cd)
 N:=N
 s₀:=s
 H₀:=H
 env:=envOfC qual scope s.heap.objs.size f cd
 outer:=outer
 stack:=envOfC qual scope s.heap.objs.size f cd::outer
 ex:=[]
 calm:=true
 fn:=fun _=>true
 pn:=[]
 xe:=fun e s'=>wpAny (model P w) (A.deeper (envOfC qual scope s.heap.objs.size f cd)) (leaving (envOfC qual scope s.heap.objs.size f cd) e) (fun _ s''=>CX outer H s E e s'') (fun e' s''=>CX outer H s E e' s'') s'
theorem mR {sc:Scope}{n:Nat}{x:Str}(h:sc.names.lookup x=some .cell):∃c,(cellsFrom n sc.names []).lookup x=some c:=by
 have q:=PySem.W.cellsFrom_some sc.names n [] (.inl h);exact yb2.mp q
theorem eI {CX:CXT}{P:Program}{w:World}{K:PySem.W.Frag}{mg:Str->Option Value}{base:Heap}{N ps:List Str}{qual:Str}{scope:Scope}{f:Addr}{cd:Value}{A:Around}{outer:List Env}{s s1:Shared}{H:Hp}{E:XK}{us:List Value}{vs:List V}
  (S:zm N ps scope) (hd:A.handled=none) (e0:tZ P w K mg base A outer s H) (hl:vs.length=ps.length) (r:Vals vs us)
  (x:InCallC s s.heap.objs.size (bindL (envOfC qual scope s.heap.objs.size f cd).kindOf (ps.zip us) fun _=>none) (cellsFrom (s.heap.objs.size+1) scope.names []) (bindC (envOfC qual scope s.heap.objs.size f cd).kindOf (ps.zip us) fun _=>none) s1):
  Inv (uu CX P w K mg base N qual scope f cd A outer s H E) [] (start N vs) H s1:=by
 have hpl:ps.length<=N.length:=by have:=congrArg List.length S.pre;rw[zZ4] at this;omega
 obtain⟨h1,tk,rfl,hk⟩:=x.done;have noA:∀b:Addr,b∉(uu CX P w K mg base N qual scope f cd A outer s H E).ex:=fun b z=>absurd (show b∈([]:List Addr) from z) (by simp);refine⟨⟨e0.mod,S.kind,rfl,rfl,zW9 _,fun y z c h1 h2=>?_,fun y hy=>?_,fun y c _ h=>?_,fun _=>hd,Around.frames_deeper e0.frames,.inr ⟨rfl,rfl⟩,fun b z=>absurd z (noA b),e0.bs,e0.bsz,fun b _ _=>noA b,fun b z=>absurd z (noA b),e0.funs,e0.frf⟩,
  rfl,e0.bare,Un.kept hk,⟨_,x.toInCall.ns,fun i y v h1 h2 h3=>?_⟩,fun y c h=>⟨_,x.cell y c h⟩,e0.hok.fresh (zW9 _),fun y c h=>?_,fun p hp=>absurd (show p∈([]:List (Addr×Obj)) from hp) (by simp),e0.hok.kept hk,?_⟩
 ·exact name_of_addr x.apart (z29 h1) (z29 h2)
 ·have hy:scope.names.lookup y=some .cell\/scope.names.lookup y=some .free:=hy;rcases hy with hy|hy
  ·exact mR hy
  ·exact absurd rfl (S.nofree _ (z29 hy))
 ·exact z48 (x.above y c (z29 h))
 ·have hi:i<vs.length:=by
   unfold start at h2;by_cases hi:i<vs.length
   ·exact hi
   ·rw[z74 (by simpa using hi)] at h2;rw[z62] at h2;split at h2<;>cases h2
  have ha:vs[i]?=some v:=by
   unfold start at h2;rw[z44 (by simpa using hi),zX1] at h2;cases e:vs[i]? with
   |none=>rw[e] at h2;cases h2
   |some a=>rw[e] at h2;cases h2;rfl
  obtain⟨u,hu,rv⟩:=r.get ha;have hp:ps[i]?=some y:=by rw[<-S.pre,yb3 (by omega)];exact h1
  have ndP:ps.Nodup:=by rw[<-S.pre];exact S.nd.sublist (List.take_sublist _ _)
  refine⟨u,rv,?_⟩;rcases S.par y (z27 hp) with k|k
  ·exact .inl ⟨k,pZ ndP hp hu k⟩
  ·obtain⟨c,e⟩:=mR (n:=s.heap.objs.size+1) k;refine .inr ⟨.inl k,c,e,?_⟩;have q:=x.cell y c e;rw[pJ ndP hp hu (by show scope.names.lookup y≠_;rw[k];decide)] at q;exact q
 ·exact e0.hok.fresh (z48 (x.above y c (z29 h)))
 ·unfold start;show _=N.length;rw[zY6,zW3,List.length_replicate];omega
theorem ai {CX:CXT}{P:Program}{w:World}{K:PySem.W.Frag}{mg:Str->Option Value}{base:Heap}{k:Nat}{f:Addr}{name qual:Str}{params:Arguments}{body:List Stmt}{scope:Scope}{dV kV doc pm cdv ct oc:Value}{an od:Option Addr}
  {osl:Array (Option Value)} {N ps:List Str} {sp:Sp} (lk:K.lookup f=some ⟨oc,od,.func (PySem.W.fnOf name qual params body scope dV kV doc pm an cdv ct),osl⟩) (hcd:PySem.W.codeIn K cdv qual=true) (S:zm N ps scope)
  (len:∀vs H Q E,sp vs H Q E->vs.length=ps.length)
  (hbody:∀(A:Around) (outer:List Env) (s:Shared) (H:Hp) (vs:List V) (Q:VK) (E:XK),zX k (A.deeper (envOfC qual scope s.heap.objs.size f cdv))->sp vs H Q E->
   ∃t,PSs (uu CX P w K mg base N qual scope f cdv A outer s H E) body t/\t {nx:=fun _ H'=>Q .non H',rt:=Q} (start N vs) H):
  zE P w K mg base CX (k+1) f (PySem.W.fnOf name qual params body scope dV kV doc pm an cdv ct) ps sp:=by
 refine⟨len,fun A outer s H args us vs Q E hr e0 hb r hsp=>?_⟩;have hl:=len _ _ _ _ hsp;have KX:K.In s.heap:=e0.mod.kin.keeps fun b o e=>(e0.bs b o e).1;have lim:s.heap.NoLimit:=e0.mod.nolimit.keeps fun b o e=>(e0.bs b o e).1;have hkind:∀y∈ps.zip us,scope.names.lookup y.1=some .local\/(scope.names.lookup y.1=some .cell/\((cellsFrom (s.heap.objs.size+1) scope.names []).lookup y.1).isSome=true):=fun⟨n,v⟩ hy=>by
  rcases S.par n (List.of_mem_zip hy).1 with q|q
  ·exact .inl q
  ·exact .inr ⟨q,PySem.W.cellsFrom_some _ _ _ (.inl q)⟩
 refine codeAny_call_function hr.depth (KX _ _ lk) rfl S.co S.gen rfl (PySem.W.codeRec_of KX hcd) (hb _ _ _ _ ?_);refine wpAny_newFunctionEnv_cells S.kind hkind fun env he s1 x=>?_;subst he;refine⟨lim.keeps x.toInCall.keep,codeAny_func ?_⟩;obtain⟨t,ht,hq⟩:=hbody A outer s H vs Q E (hr.deeper _) hsp;have I:Inv (uu CX P w K mg base N qual scope f cdv A outer s H E) [] (start N vs) H s1:=eI S hr.hd e0 hl r x;refine z22 (ht [] s1 (start N vs) H _ I hq) (fun fl s' hs=>?_) fun e s' hs=>hs;have fin:∀{σ':St} {H':Hp} {v:V} {u:Value},Inv (uu CX P w K mg base N qual scope f cdv A outer s H E) [] σ' H' s'->RelV v u->Q v H'->CE outer P w H s Q u s':=
  fun {σ' H' v u} J rv q=>⟨v,H',J.os,J.bare,J.base,J.hok,rv,q⟩
 cases fl with
 |ret u=>
  obtain⟨v,σ',H',J,rv,q⟩:=hs;exact fin J rv q
 |next=>
  obtain⟨σ',H',J,q⟩:=hs;exact fin (v:=V.non) (u:=Value.none) J rfl q
 |brk=>
  obtain⟨_,_,_,q⟩:=hs;exact False.elim q
 |cont=>
  obtain⟨_,_,_,q⟩:=hs;exact False.elim q
section
variable {X:Cx}{x:Str}{p pos:Pos}{e:Expr}{es:List Expr}{t:TA}{id T:String}{r:List V->Hp->VK->Prop}
def tCB (r:List V->Hp->VK->Prop)(t:TA):TE:=fun σ H Q=>t σ H fun vs H1=>r vs H1 Q
theorem yo (hc:xK X (.builtin id) r)(hg:Gl X x)(hm:X.mg x=none)(hv:bootBuiltins x=some (.builtin id))(ha:PA X (e::es) t)(hn:x≠"__name__":=by decide)(hdb:(x == ("__debug__":Str))=false:=by decide)
  (he:starEach (e::es) X.env=(false,eval e X.env)::starEach es X.env:=by rfl) (hpl:(backTo pos (starEach es X.env)).any (·.1)=false:=by rfl):PE X (.Call (.Name x p) (e::es) [] pos) (tCB r t):=by
 intro pins s σ H Q I h;refine z89 (xx I hg hm hv ?_ hn hdb);exact PyProof.Rows.callWith_builtin1 (thn (ha pos pins s σ H _ I h) fun us s1 ⟨vs,H1,I1,r1,q1⟩=>hc pins s1 σ H1 vs us Q I1 r1 q1) he hpl
theorem xX (hc:xK X (.type T) r)(hg:Gl X x)(hm:X.mg x=none)(hv:bootBuiltins x=some (.type T))(ha:PA X (e::es) t)(hn:x≠"__name__":=by decide)(hdb:(x == ("__debug__":Str))=false:=by decide)
  (he:starEach (e::es) X.env=(false,eval e X.env)::starEach es X.env:=by rfl) (hpl:(backTo pos (starEach es X.env)).any (·.1)=false:=by rfl):PE X (.Call (.Name x p) (e::es) [] pos) (tCB r t):=by
 intro pins s σ H Q I h;refine z89 (xx I hg hm hv ?_ hn hdb);exact zZ7 (thn (ha pos pins s σ H _ I h) fun us s1 ⟨vs,H1,I1,r1,q1⟩=>hc pins s1 σ H1 vs us Q I1 r1 q1) he hpl
end
end L2
namespace HT
open PySem PyProof.Rows
section
open PySem.SeqAt
open PySem.AutoSeq1 (wpAny_loadPart')
open PySem.MeetsSeq PySem.MeetsSeq2 PySem.MeetsSeq3
end
section
variable {prog:Program}{w:World}{A:Around}{E:Value->Shared->Prop}{s:Shared}
noncomputable def sIx (n d:Nat):Option Int->Nat
 |none=>d
 |some v=>if v<0 then (v+(n:Int)).toNat else min v.toNat n
theorem qE (n d:Nat):sIx n d none=d:=rfl
theorem fJ (n d k:Nat):sIx n d (some (k:Int))=min k n:=by
 show (if (k:Int)<0 then ((k:Int)+(n:Int)).toNat else min (k:Int).toNat n)=min k n;rw[if_neg (by omega),z30]
end
end HT
namespace L2
open PySem PySem.Spec PyProof.Rows
abbrev TO :=St->Hp->(Option Int->Hp->Prop)->Prop
def PO (X:Cx)(e:Option Expr)(t:TO):Prop:=
 ∀(pins:List (Addr×Obj)) (s:Shared) (σ:St) (H:Hp) (Q:Option Int->Hp->Prop),Inv X pins σ H s->t σ H Q->
  wpAny (model X.prog X.w) X.A (evalPart e X.env) (fun u s'=>∃o H',Inv X pins σ H' s'/\IsPart u o/\Q o H') X.xe s
def zs3 :TO:=fun _ H Q=>Q none H
def zO8 (t:TE):TO:=fun σ H Q=>t σ H fun x H1=>∃i,x=.int i/\Q (some i) H1
section
variable {X:Cx}{e:Expr}{te:TE}{lo hi:Option Expr}{tl th:TO}{pos p2:Pos}
theorem oR :PO X none zs3:=by
 intro pins s σ H Q I h;rw[evalPart_none];exact zX6 ⟨none,H,I,.none,h⟩
theorem nW (h:PE X e te):PO X (some e) (zO8 te):=by
 intro pins s σ H Q I hw;rw[evalPart_some];refine thn (h pins s σ H _ I hw) fun u s1 ⟨x,H1,I1,r1,q1⟩=>?_;obtain⟨i,rfl,q⟩:=q1;obtain⟨t,rfl⟩:=r1;exact⟨some i,H1,I1,.int i t,q⟩
def SlR (X:Cx)(r:V->Option Int->Option Int->Hp->VK->Prop):Prop:=
 ∀(pins:List (Addr×Obj)) (s:Shared) (σ:St) (H:Hp) (x:V) (v vl vu:Value) (lo hi:Option Int) (sl:Addr) (Q:VK),Inv X pins σ H s->RelV x v->s.heap.IsSliceOf sl vl vu .none->IsPart vl lo->IsPart vu hi->r x lo hi H Q->
  ∃T id,typeLookup (.type T) "__getitem__"=pure (some (.builtin id))/\s.TypeIs v T/\wpAny (model X.prog X.w) X.A (getItem v (.ref sl)) (EP X pins σ Q) X.xe s
def tSl (r:V->Option Int->Option Int->Hp->VK->Prop)(te:TE)(tl th:TO):TE:=fun σ H Q=>te σ H fun x H1=>tl σ H1 fun l H2=>th σ H2 fun u H3=>r x l u H3 Q
theorem qD {r:V->Option Int->Option Int->Hp->VK->Prop}(hr:SlR X r)(he:PE X e te)(hl:PO X lo tl)(hu:PO X hi th):PE X (.Subscript e (.Slice lo hi none p2) pos) (tSl r te tl th):=by
 intro pins s σ H Q I h;refine Subscript_ (thn (he pins s σ H _ I h) fun v s1 ⟨x,H1,I1,r1,q1⟩=>?_);refine wpAny_Slice (thn (hl pins s1 σ H1 _ I1 q1) fun vl s2 ⟨l,H2,I2,pl,q2⟩=>thn (hu pins s2 σ H2 _ I2 q2) fun vu s3 ⟨u,H3,I3,pu,q3⟩=>?_);rw[evalPart_none];refine zX6 ?_;have I4:Inv X pins σ H3 {s3 with heap:=s3.heap.push {cls:=.type "slice",data:=.fields #[vl,vu,.none]}}:=I3.kept (t':=s3.toks) fun b ob q=>zW5 _ q;obtain⟨T,id,hT,ht,hg⟩:=hr pins {s3 with heap:=s3.heap.push {cls:=.type "slice",data:=.fields #[vl,vu,.none]}} σ H3 x v vl vu l u s3.heap.objs.size Q I4 r1 (Heap.IsSliceOf.new ..) pl pu q3;show wpAny (model X.prog X.w) X.A (subscriptTail e (.Slice lo hi none p2) v (.ref s3.heap.objs.size)) (EP X pins σ Q) X.xe {s3 with heap:=s3.heap.push {cls:=.type "slice",data:=.fields #[vl,vu,.none]}};exact tail_any (ops:=[.ref s3.heap.objs.size,v]) ht hT hg (by with_unfolding_all rfl)
noncomputable def mx (xs:List V)(lo hi:Option Int):List V:=(xs.drop (HT.sIx xs.length 0 lo)).take (HT.sIx xs.length xs.length hi-HT.sIx xs.length 0 lo)
theorem ko (xs:List V)(lo hi:Option Int):(mx xs lo hi).length<=xs.length:=by
 unfold mx;rw[zZ4,z49];omega
end
noncomputable def ixN (n:Nat)(i:Int):Option Nat:=if 0<=i then (if i<n then some i.toNat else none) else if -(n:Int)<=i then some (i+n).toNat else none
noncomputable def atI {α:Type}(xs:List α)(i:Int):Option α:=(ixN xs.length i).bind fun j=>xs[j]?
theorem nF {n:Nat}{i:Int}{j:Nat}(h:ixN n i=some j):seqIndex? i n=some j/\j<n/\-(n:Int)<=i/\i<n:=by
 unfold ixN at h;by_cases h0:0<=i
 ·rw[if_pos h0] at h;by_cases h1:i<n
  ·rw[if_pos h1] at h;have e:i.toNat=j:=zZ2 h;exact⟨by rw[seqIndex_of h0 h1,e],by omega,by omega,h1⟩
  ·rw[if_neg h1] at h;cases h
 ·rw[if_neg h0] at h;by_cases h1:-(n:Int)<=i
  ·rw[if_pos h1] at h;have e:(i+n).toNat=j:=zZ2 h;exact⟨by rw[seqIndex_neg (by omega) h1,e],by omega,h1,by omega⟩
  ·rw[if_neg h1] at h;cases h
theorem nE {α:Type}{xs:List α}{i:Int}{v:α}(h:atI xs i=some v):∃j,seqIndex? i xs.length=some j/\xs[j]?=some v/\j<xs.length/\-(xs.length:Int)<=i/\i<xs.length:=by
 unfold atI at h;cases e:ixN xs.length i with
 |none=>rw[e] at h;cases h
 |some j=>
  rw[e] at h;obtain⟨h1,h2,h3,h4⟩:=nF e;exact⟨j,h1,h,h2,h3,h4⟩
theorem yH {α:Type}{xs:List α}{j:Nat}{v:α}(h:xs[j]?=some v):atI xs (j:Int)=some v:=by
 have hj:j<xs.length:=(zW7.mp h).1;have e:ixN xs.length (j:Int)=some j:=by
  unfold ixN;rw[if_pos (by omega),if_pos (by omega)];simp
 unfold atI;rw[e];exact h
theorem bH {α:Type}(xs:List α)(v:α):atI (xs++[v]) (-1)=some v:=by
 have hl:(xs++[v]).length=xs.length+1:=by simp
 have e:ixN (xs++[v]).length (-1)=some xs.length:=by
  unfold ixN;rw[hl,if_neg (by decide),if_pos (by omega)]
  congr 1
  omega
 unfold atI;rw[e];show (xs++[v])[xs.length]?=some v;simp
def rD (b:Expr):Prop:=∀o i,subscripted b false o i=operate [o,i] (getItem o i)
def IxR (X:Cx)(r:R2):Prop:=
 ∀(value slice:Expr) (pins:List (Addr×Obj)) (s:Shared) (σ:St) (H:Hp) (x y:V) (v u:Value) (Q:VK),Inv X pins σ H s->RelV x v->RelV y u->r x y H Q->
  subscripted slice false v u=operate [v,u] (getItem v u)->wpAny (model X.prog X.w) X.A (subscriptTail value slice v u) (EP X pins σ Q) X.xe s
def MtR (X:Cx)(id:String)(r:V->List V->Hp->VK->Prop):Prop:=
 ∀(pins:List (Addr×Obj)) (s:Shared) (σ:St) (H:Hp) (x:V) (xs:List V) (v:Value) (us:List Value) (Q:VK),Inv X pins σ H s->RelV x v->Vals xs us->r x xs H Q->
  wpAny (model X.prog X.w) X.A (call (.builtin id) (v::us)) (EP X pins σ Q) X.xe s
section
variable {X:Cx}{a b:Expr}{ta tb:TE}{pos:Pos}
theorem IxR.or {r r':R2}(h:IxR X r)(h':IxR X r'):IxR X (fun x y H Q=>r x y H Q\/r' x y H Q):=by
 intro value slice pins s σ H x y v u Q I rx ry q hs;rcases q with q|q
 ·exact h value slice pins s σ H x y v u Q I rx ry q hs
 ·exact h' value slice pins s σ H x y v u Q I rx ry q hs
theorem zW {r:R2}(hr:IxR X r)(ha:PE X a ta)(hb:PE X b tb)(hs:rD b):PE X (.Subscript a b pos) (tOp r ta tb):=by
 intro pins s σ H Q I h;exact Subscript_ (zI1 ha hb I h fun v u s2 x y H2 I2 rx ry q=>hr a b pins s2 σ H2 x y v u Q I2 rx ry q (hs _ _))
def zD1 (K:PySem.W.Frag):R2:=fun x y H Q=>∃p xs i v,x=.ref p/\y=.int i/\SqL K H p xs/\atI xs i=some v/\Q v H
def zB7 (K:PySem.W.Frag):R2:=fun x y H Q=>∃p xs i v,x=.ref p/\y=.int i/\SqT K H p xs/\atI xs i=some v/\Q v H
def zR0 :R2:=fun x y H Q=>∃z i c,x=.str z/\y=.int i/\z.length<=sizeLine/\atI z.cps.toList i=some c/\Q (.str ⟨#[c]⟩) H
theorem ya :IxR X (zD1 X.K):=by
 intro value slice pins s σ H x y v u Q I rx ry h hs;obtain⟨p,xs,i,z,rfl,rfl,hq,he,q⟩:=h;cases rx;obtain⟨t,rfl⟩:=ry;obtain⟨its,r,pl,hz⟩:=I.list hq;obtain⟨j,h1,h2,h3,h4,h5⟩:=nE he;obtain⟨w,ew,rw'⟩:=r.get h2;have hl:=r.length;have hn:=tT;have fin:EP X pins σ Q w s:=⟨z,H,I,rw',q⟩;by_cases h0:0<=i
 ·have hj:i.toNat=j:=by
   rw[seqIndex_of h0 h5] at h1;exact zZ2 h1
  exact item_listR pl.isList h0 (by omega) (by rw[hj];simpa using ew) fin hs
 ·have hj:(i+(its.toArray.size:Int)).toNat=j:=by
   rw[seqIndex_neg (by omega) h4] at h1;rw[zX8,<-hl];exact zZ2 h1
  exact subscriptTail_builtinR (x:=w) pl.isList.typeIs slot_list_getitem.lookup
   (wpAny_getItem_list_neg (Q:=fun r s'=>r=w/\EP X pins σ Q r s') pl.isList (by omega) (by rw[zX8]<;>omega) (by omega) (by rw[hj];simpa using ew) ⟨rfl,fin⟩) hs
theorem yU :IxR X (zB7 X.K):=by
 intro value slice pins s σ H x y v u Q I rx ry h hs;obtain⟨p,xs,i,z,rfl,rfl,hq,he,q⟩:=h;cases rx;obtain⟨t,rfl⟩:=ry;obtain⟨its,r,pl,hz⟩:=I.tuple hq;obtain⟨j,h1,h2,h3,h4,h5⟩:=nE he;obtain⟨w,ew,rw'⟩:=r.get h2;have hl:=r.length;have hn:=tT;have fin:EP X pins σ Q w s:=⟨z,H,I,rw',q⟩;exact subscriptTail_builtinR (x:=w) pl.typeIs slot_tuple_getitem.lookup
  (getItem_tuple (j:=j) (Q:=fun r s'=>r=w/\EP X pins σ Q r s') pl (by omega) (by omega) (by rw[zX8,<-hl];exact h1) (by simpa using ew) ⟨rfl,fin⟩) hs
theorem zH2 :IxR X zR0:=by
 intro value slice pins s σ H x y v u Q I rx ry h hs;obtain⟨z,i,c,rfl,rfl,hz,he,q⟩:=h;obtain⟨t,rfl⟩:=rx;obtain⟨t',rfl⟩:=ry;obtain⟨j,h1,h2,h3,h4,h5⟩:=nE he;have hl:z.cps.toList.length=z.length:=by simp[Str.length]
 rw[hl] at h1 h4 h5;have hn:=tT;exact tail_any (typeIs_str s z t) slot_str_getitem.lookup (getItem_str (c:=c) (by
  have e1:decide (i < -(2 ^ 63:Int))=false:=zZ1 (by omega);have e2:decide (i≥2 ^ 63)=false:=zZ1 (by omega);rw[e1,e2,z99]) (by rw[h1];simpa using h2) ⟨.str ⟨#[c]⟩,H,I.tok _,⟨_,rfl⟩,q⟩) hs
def rIx (K:PySem.W.Frag):R2:=fun x y H Q=>zD1 K x y H Q\/zB7 K x y H Q\/zR0 x y H Q
theorem zI4 :IxR X (rIx X.K):=ya.or (yU.or zH2)
theorem iQ (its:List Value)(n j:Nat)(u:Value):Obj.mapSeq (·.setIfInBounds j u) {cls:=.type "list",data:=.seq its.toArray n}={cls:=.type "list",data:=.seq (its.set j u).toArray n}:=by simp[Obj.mapSeq]
theorem Inv.lst {pins:List (Addr×Obj)}{σ:St}{H:Hp}{s:Shared}{p:Addr}{xs:List V}(I:Inv X pins σ H s)(h:H p=some (.lst xs)):
  ∃(its:List Value) (n:Nat),Vals xs its/\s.heap.get? p=some {cls:=.type "list",data:=.seq its.toArray n}/\xs.length<=sizeLine:=by
 obtain⟨z,its,n,r,e⟩:=I.hok p _ h;exact⟨its,n,r,e,z⟩
theorem Inv.lstUpd {pins:List (Addr×Obj)}{σ:St}{H:Hp}{s:Shared}{p:Addr}{xs ys:List V}{its its':List Value}{n n':Nat}{f:Obj->Obj}(I:Inv X pins σ H s)(h:H p=some (.lst xs))
  (ho:s.heap.get? p=some {cls:=.type "list",data:=.seq its.toArray n}) (hf:f {cls:=.type "list",data:=.seq its.toArray n}={cls:=.type "list",data:=.seq its'.toArray n'}) (r:Vals ys its') (hz:ys.length<=sizeLine) (t:Nat):
  Inv X pins σ (upd H p (.lst ys)) {s with heap:=s.heap.update p f,toks:=t}:=by
 have e:(s.heap.update p f).get? p=some {cls:=.type "list",data:=.seq its'.toArray n'}:=by rw[z96 f ho (by rw[hf]<;>rfl),hf]
 refine I.write (x:=p) (e:=p) (by rw[h];trivial) (.inl rfl) (fun b u hb q=>(zZ0 _ _ (zZ8 hb)).trans q) ⟨_,e⟩ ?_;exact⟨hz,its',n',r,e⟩
def zz7 :V->V->V->Hp->(Hp->Prop)->Prop:=fun o i v H Q=>∃p xs k j,o=.ref p/\i=.int k/\H p=some (.lst xs)/\ixN xs.length k=some j/\Q (upd H p (.lst (xs.set j v)))
theorem set_list :zN2 X zz7:=by
 intro pins s σ H o i v ov iv u Q I ro ri rv h;obtain⟨p,xs,k,j,rfl,rfl,hp,hj,q⟩:=h;cases ro;obtain⟨t,rfl⟩:=ri;obtain⟨its,n,r,ho,hz⟩:=I.lst hp;obtain⟨h1,h2,h3,h4⟩:=nF hj;have hl:=r.length;have hn:=tT;have I':Inv X pins σ (upd H p (.lst (xs.set j v))) {s with heap:=s.heap.update p (Obj.mapSeq (·.setIfInBounds j u))}:=
  I.lstUpd hp ho (iQ its n j u) (r.set rv j) (by rw[z33];exact hz) s.toks
 by_cases h0:0<=k
 ·have hk:k.toNat=j:=by
   rw[seqIndex_of h0 h4] at h1;exact zZ2 h1
  exact PySem.W.ki_setAt ho h0 (by omega) (by rw[zX8,<-hl];exact h4) (by rw[hk];exact⟨_,I',q⟩)
 ·have hk:(k+(its.toArray.size:Int)).toNat=j:=by
   rw[seqIndex_neg (by omega) h3] at h1;rw[zX8,<-hl];exact zZ2 h1
  exact PySem.W.ki_setBack ho (by omega) (by rw[zX8,<-hl];exact h3) (by omega) (by rw[hk];exact⟨_,I',q⟩)
theorem nQ (lo hi:Option Int)(n:Nat):(sliceBounds lo hi none n).1=((HT.sIx n 0 lo:Nat):Int)/\(sliceBounds lo hi none n).2.1=((HT.sIx n n hi:Nat):Int)/\(sliceBounds lo hi none n).2.2=1:=by
 refine⟨?_,?_,rfl⟩
 ·cases lo with
  |none=>simp[sliceBounds,HT.sIx]
  |some i=>
   simp only[sliceBounds,HT.sIx,Option.getD_none,show (1:Int) > 0 by decide,z88];by_cases h:i<0
   ·simp only[h,z88]<;>omega
   ·simp only[h,z57]<;>omega
 ·cases hi with
  |none=>simp[sliceBounds,HT.sIx]
  |some i=>
   simp only[sliceBounds,HT.sIx,Option.getD_none,show (1:Int) > 0 by decide,z88];by_cases h:i<0
   ·simp only[h,z88]<;>omega
   ·simp only[h,z57]<;>omega
theorem pj (its:List Value)(lo hi:Option Int):slicePick its.toArray lo hi none=((its.drop (HT.sIx its.length 0 lo)).take (HT.sIx its.length its.length hi-HT.sIx its.length 0 lo)).toArray:=by
 obtain⟨h1,h2,h3⟩:=nQ lo hi its.toArray.size;unfold slicePick;rw[h1,h2,h3];simp only[sliceRange_one,pick_run,zX8]<;>rfl
def zW2 (K:PySem.W.Frag):V->Option Int->Option Int->Hp->VK->Prop:=fun x lo hi H Q=>∃a xs,x=.ref a/\SqL K H a xs/\∀p,H p=none->Q (.ref p) (upd H p (.lst (mx xs lo hi)))
theorem nv :SlR X (zW2 X.K):=by
 intro pins s σ H x v vl vu lo hi sl Q I rx hs pl pu h;obtain⟨a,xs,rfl,hx,q⟩:=h;cases rx;obtain⟨its,r,ht,hz⟩:=I.list hx;have hlen:=r.length;refine⟨"list",_,slot_list_getitem.lookup,ht.isList.typeIs,?_⟩;refine wpAny_getItem_list_slice ht.isList hs pl pu .none (by simp) ?_ (by rw[zX8]<;>omega);rw[pj,<-hlen];refine⟨.ref s.heap.objs.size,_,I.laid (t':=s.toks) (o:=.lst (mx xs lo hi)) (fun b ob q=>zW5 _ q) (zW9 _) ?_,rfl,q _ (I.hok.fresh (zW9 _))⟩;exact⟨z24 (ko xs lo hi) hz,_,0,(r.drop (HT.sIx xs.length 0 lo)).take (HT.sIx xs.length xs.length hi-HT.sIx xs.length 0 lo),zX4 _ rfl⟩
noncomputable def uw :V->Bool
 |.non=>true
 |.bl _=>true
 |.int _=>true
 |.str _=>true
 |_=>false
noncomputable def eqV :V->V->Bool
 |.non,.non=>true
 |.bl a,.bl b=>a == b
 |.bl a,.int b=>(if a then 1 else 0)==b
 |.int a,.bl b=>a == (if b then 1 else 0)
 |.int a,.int b=>a == b
 |.str a,.str b=>a == b
 |_,_=>false
theorem zC9 {A:Around}{s:Shared}{y x:V}{u v:Value}(ry:RelV y u)(rx:RelV x v)(fy:uw y=true)(fx:uw x=true):SeqAt.EqAt A s u v (eqV y x):=by
 cases y with
 |non=>
  cases ry;cases x with
  |non=>cases rx;exact SeqAt.EqAt.same _
  |bl b=>cases rx;exact SeqAt.EqAt.none_bool b
  |int b=>obtain⟨t,rfl⟩:=rx;exact SeqAt.EqAt.none_int b t
  |str b=>obtain⟨t,rfl⟩:=rx;exact SeqAt.EqAt.none_str b t
  |_=>exact absurd (show false=true from fx) zY1
 |bl a=>
  cases ry;cases x with
  |non=>cases rx;exact SeqAt.EqAt.bool_none a
  |bl b=>cases rx;exact SeqAt.EqAt.bool_bool a b
  |int b=>obtain⟨t,rfl⟩:=rx;exact SeqAt.EqAt.bool_int a b t
  |str b=>obtain⟨t,rfl⟩:=rx;exact SeqAt.EqAt.bool_str a b t
  |_=>exact absurd (show false=true from fx) zY1
 |int a=>
  obtain⟨t',rfl⟩:=ry;cases x with
  |non=>cases rx;exact SeqAt.EqAt.int_none a t'
  |bl b=>cases rx;exact SeqAt.EqAt.int_bool a t' b
  |int b=>obtain⟨t,rfl⟩:=rx;exact SeqAt.EqAt.int_int a t' b t
  |str b=>obtain⟨t,rfl⟩:=rx;exact SeqAt.EqAt.int_str a t' b t
  |_=>exact absurd (show false=true from fx) zY1
 |str a=>
  obtain⟨t',rfl⟩:=ry;cases x with
  |non=>cases rx;exact SeqAt.EqAt.str_none a t'
  |bl b=>cases rx;exact SeqAt.EqAt.str_bool a t' b
  |int b=>obtain⟨t,rfl⟩:=rx;exact SeqAt.EqAt.str_int a t' b t
  |str b=>obtain⟨t,rfl⟩:=rx;exact SeqAt.EqAt.str_str a t' b t
  |_=>exact absurd (show false=true from fx) zY1
 |_=>exact absurd (show false=true from fy) zY1
noncomputable def eqU (x:V)(u:Value):Bool:=match u with
 |.none=>eqV .non x
 |.bool b=>eqV (.bl b) x
 |.int i _=>eqV (.int i) x
 |.str z _=>eqV (.str z) x
 |_=>false
theorem zl4 {x y:V}{u:Value}(r:RelV y u)(f:uw y=true):eqU x u=eqV y x:=by
 cases y with
 |non=>cases r;rfl
 |bl b=>cases r;rfl
 |int i=>obtain⟨t,rfl⟩:=r;rfl
 |str z=>obtain⟨t,rfl⟩:=r;rfl
 |_=>exact absurd (show false=true from f) zY1
theorem uV {x:V}:∀{xs:List V} {us:List Value},Vals xs us->xs.all uw=true->us.any (eqU x)=xs.any fun y=>eqV y x
 |_,_,.nil,_=>rfl
 |y::xs,u::us,.cons r t,f=>by
  rw[yc4,zY7] at f;rw[z75,z75,zl4 r f.1,uV t f.2]
theorem vS {A:Around}{s:Shared}{x:V}{v:Value}(rx:RelV x v)(fx:uw x=true):∀{xs:List V} {us:List Value},Vals xs us->xs.all uw=true->∀u∈us,SeqAt.EqAt A s u v (eqU x u)
 |_,_,.nil,_=>fun u hu=>by cases hu
 |y::xs,u::us,.cons r t,f=>fun u' hu=>by
  rw[yc4,zY7] at f;rcases zX0.mp hu with rfl|hu
  ·rw[zl4 r f.1];exact zC9 r rx f.1 fx
  ·exact vS rx fx t f.2 u' hu
noncomputable def inV (x:V)(xs:List V):Bool:=xs.any fun y=>eqV y x
def rIn (K:PySem.W.Frag)(neg:Bool):R2:=fun x y H Q=>∃p xs,y=.ref p/\(SqL K H p xs\/SqT K H p xs)/\uw x=true/\xs.all uw=true/\Q (.bl (if neg then !inV x xs else inV x xs)) H
theorem dF :OpR X (compareOp .In) (rIn X.K false):=by
 intro pins s σ H x y v u Q I rx ry h;obtain⟨p,xs,rfl,hq,fx,fs,q⟩:=h;cases ry;rcases hq with hq|hq
 ·obtain⟨its,r,pl,hz⟩:=I.list hq;refine SeqAt.in_listAt (eqU x) pl.isList (fun w hw=>vS rx fx r fs w (by simpa using hw)) ⟨.bl _,H,I,rfl,?_⟩;rw[show its.toArray.any (eqU x)=its.any (eqU x) by simp,uV r fs];exact q
 ·obtain⟨its,r,pl,hz⟩:=I.tuple hq;refine SeqAt.in_tupleAt (eqU x) pl (fun w hw=>vS rx fx r fs w (by simpa using hw)) ⟨.bl _,H,I,rfl,?_⟩;rw[show its.toArray.any (eqU x)=its.any (eqU x) by simp,uV r fs];exact q
theorem mi :OpR X (compareOp .NotIn) (rIn X.K true):=by
 intro pins s σ H x y v u Q I rx ry h;obtain⟨p,xs,rfl,hq,fx,fs,q⟩:=h;cases ry;rcases hq with hq|hq
 ·obtain⟨its,r,pl,hz⟩:=I.list hq;refine SeqAt.notIn_listAt (eqU x) pl.isList (fun w hw=>vS rx fx r fs w (by simpa using hw)) ⟨.bl _,H,I,rfl,?_⟩;rw[show its.toArray.any (eqU x)=its.any (eqU x) by simp,uV r fs];exact q
 ·obtain⟨its,r,pl,hz⟩:=I.tuple hq;refine SeqAt.notIn_tupleAt (eqU x) pl (fun w hw=>vS rx fx r fs w (by simpa using hw)) ⟨.bl _,H,I,rfl,?_⟩;rw[show its.toArray.any (eqU x)=its.any (eqU x) by simp,uV r fs];exact q
theorem yF :xK X (.builtin "len") (fun xs H Q=>∃p ys,xs=[.ref p]/\(SqL X.K H p ys\/SqT X.K H p ys)/\Q (.int ys.length) H):=by
 intro pins s σ H xs us Q I r h;obtain⟨p,ys,rfl,hq,q⟩:=h;obtain⟨u,rfl,rx⟩:=vals1 r;cases rx;have hn:=tT;rcases hq with hq|hq
 ·obtain⟨its,r',pl,hz⟩:=I.list hq;have hlen:=r'.length;exact Calls.call_len_list pl.isList (by simp only[zX8]<;>omega) ⟨.int ys.length,H,I.tok _,⟨s.toks+1,by rw[zX8,hlen]⟩,q⟩
 ·obtain⟨its,r',pl,hz⟩:=I.tuple hq;have hlen:=r'.length;exact len_tuple pl (by simp only[zX8]<;>omega) ⟨.int ys.length,H,I.tok _,⟨s.toks+1,by rw[zX8,hlen]⟩,q⟩
theorem uW :xK X (.type "list") (fun xs H Q=>∃p ys,xs=[.ref p]/\(SqL X.K H p ys\/SqT X.K H p ys)/\∀l,H l=none->Q (.ref l) (upd H l (.lst ys))):=by
 intro pins s σ H xs us Q I r h;obtain⟨p,ys,rfl,hq,q⟩:=h;obtain⟨u,rfl,rx⟩:=vals1 r;cases rx;have fin:∀(its:List Value),Vals ys its->ys.length<=sizeLine->∀(h':Heap) (c':Nat),(∀b o',s.heap.get? b=some o'->h'.get? b=some o')->
   h'.get? s.heap.objs.size=some {cls:=.type "list",dict:=none,data:=.seq its.toArray c',slots:=#[]}->EP X pins σ Q (.ref s.heap.objs.size) {s with heap:=h'}:=fun its r' hz h' c' kp e=>
  ⟨.ref s.heap.objs.size,_,I.laid (t':=s.toks) kp (zW9 _) (show zS X.prog X.w _ h' _ (.lst ys) from ⟨hz,its,c',r',e⟩),rfl,q _ (I.hok.fresh (zW9 _))⟩
 rcases hq with hq|hq
 ·obtain⟨its,r',pl,hz⟩:=I.list hq;have hlen:=r'.length;obtain⟨o,ho,hc,n,hd⟩:=pl.isList;exact call_list_seq p (.inl rfl) ho hc hd (fun h' c' kp e=>fin its r' hz h' c' kp e) (by simp only[zX8]<;>omega)
 ·obtain⟨its,r',pl,hz⟩:=I.tuple hq;have hlen:=r'.length;obtain⟨o,ho,hc,n,hd⟩:=pl;exact call_list_seq p (.inr rfl) ho hc hd (fun h' c' kp e=>fin its r' hz h' c' kp e) (by simp only[zX8]<;>omega)
def tyV (K:PySem.W.Frag)(T:String)(x:V)(H:Hp):Prop:=match x with
 |.str _=>T="str"
 |.int _=>T="int"
 |.ref p=>(T="list"/\∃xs,SqL K H p xs)\/(T="tuple"/\∃o,K.lookup p=some o/\o.cls=.type "tuple"/\o.dict=none)\/
   (T="dict"/\((∃kvs,H p=some (.dK kvs))\/∃kvs,H p=some (.dT kvs)))\/(T="set"/\∃S n,H p=some (.set S n))
 |_=>False
theorem zC0 {pins:List (Addr×Obj)}{σ:St}{H:Hp}{s:Shared}{T:String}{x:V}{v:Value}(I:Inv X pins σ H s)(r:RelV x v)(ty:tyV X.K T x H):
  s.TypeIs v T/\∀a,v=.ref a->∃ob,s.heap.get? a=some ob/\ob.dict=none:=by
 cases x with
 |str z=>
  obtain⟨t,rfl⟩:=r;cases (show T="str" from ty);exact⟨typeIs_str s z t,fun _ e=>nomatch e⟩
 |int i=>
  obtain⟨t,rfl⟩:=r;cases (show T="int" from ty);exact⟨typeIs_int s i t,fun _ e=>nomatch e⟩
 |ref p=>
  cases r;rcases ty with ⟨rfl,xs,hq⟩|⟨rfl,o,hk,hc,hd⟩|⟨rfl,hk⟩|⟨rfl,S,n,hk⟩
  ·obtain⟨its,_,pl,_⟩:=I.list hq;refine⟨pl.isList.typeIs,fun a e=>?_⟩;cases e;obtain⟨o,n,e,c,hd,_⟩:=pl;exact⟨o,e,hd⟩
  ·refine⟨⟨o,I.kIn p o hk,hc⟩,fun a e=>?_⟩;cases e;exact⟨o,I.kIn _ o hk,hd⟩
  ·have z:∃o,s.heap.get? p=some o/\o.ExactDict:=by
    rcases hk with ⟨kvs,hk⟩|⟨kvs,hk⟩
    ·obtain⟨_,_,_,_,o,_,_,e,ex,_⟩:=I.hok p _ hk;exact⟨o,e,ex⟩
    ·obtain⟨_,_,_,_,o,_,_,e,ex,_⟩:=I.hok p _ hk;exact⟨o,e,ex⟩
   obtain⟨o,e,ex⟩:=z;refine⟨⟨o,e,ex.1⟩,fun a e2=>?_⟩;cases e2;exact⟨o,e,ex.2.1⟩
  ·obtain⟨o,_,_,_,e,ex,_⟩:=I.hok p _ hk;refine⟨⟨o,e,ex.1⟩,fun a e2=>?_⟩;cases e2;exact⟨o,e,ex.2.1⟩
 |_=>exact False.elim ty
def tBM (K:PySem.W.Frag)(T:String)(r:V->List V->Hp->VK->Prop)(to:TE)(t:TA):TE:=fun σ H Q=>to σ H fun x H1=>tyV K T x H1/\t σ H1 fun xs H2=>r x xs H2 Q
variable {o e:Expr}{es:List Expr}{to:TE}{t:TA}{name:Str}{apos cpos:Pos}{T id:String}{r:V->List V->Hp->VK->Prop}
theorem zy7 (pa:PlainAttrs T)(slot:Slot T name id)(hty:typeOf (.builtin id)=pure (.type "method_descriptor"))(hm:MtR X id r)(ho:PE X o to)(ha:PA X (e::es) t)
  (hbase:attributeBase o name X.env (eval o X.env)=eval o X.env:=by rfl)
  (hfew:((backTo cpos (starEach (e::es) X.env)).all (fun x=>!x.1)&&(backToKw cpos (keywordEach [] X.env)).all (fun x=>x.1.isSome)
   &&decide ((e::es).length+([]:List Keyword).length+(if ([]:List Keyword).isEmpty then 0 else 1)<30))=true:=by rfl)
  (hline:(apos.endLine == cpos.line)=true:=by rfl) (hs:starEach (e::es) X.env=(false,eval e X.env)::starEach es X.env:=by rfl) (hplain:(backTo cpos (starEach es X.env)).any (·.1)=false:=by rfl):
  PE X (.Call (.Attribute o name apos) (e::es) [] cpos) (tBM X.K T r to t):=by
 intro pins s σ H Q I h;refine wpAny_Call_method_late hbase hfew hline rfl (thn (ho pins s σ H _ I h) fun v s1 ⟨x,H1,I1,r1,ty,q1⟩=>?_);obtain⟨h1,h2⟩:=zC0 I1 r1 ty;refine⟨T,id,pa,slot,hty,h1,h2,?_⟩;have hA:=ha cpos pins s1 σ H1 _ I1 q1;rw[hs] at hA ⊢;refine Calls.callWith_builtin (by show (false||(backTo cpos (starEach es X.env)).any (·.1))=false;rw[hplain]<;>rfl) (Calls.evalArgs_plain ?_);exact thn hA fun us s2 ⟨vs,H2,I2,r2,q2⟩=>hm pins s2 σ H2 x vs v us Q I2 r1 r2 q2
/- xs.append(e),list.index on a module's tuple .. are MtR facts of 06m -/
end
def MtM (X:Cx)(id:String)(r:V->List V->Hp->VK->Prop):Prop:=
 ∀(pins:List (Addr×Obj)) (s:Shared) (σ:St) (H:Hp) (x:V) (xs:List V) (v:Value) (us:List Value) (Q:VK),Inv X pins σ H s->RelV x v->Vals xs us->r x xs H Q->
  wpAny (model X.prog X.w) X.A (call (.builtin id) (v::us)) (EP X pins σ Q) X.xe s
theorem Vals.one {x:V}{us:List Value}(h:Vals [x] us):∃u,us=[u]/\RelV x u:=by
 cases h with
 |cons r q=>cases q;exact⟨_,rfl,r⟩
theorem Vals.two {x y:V}{us:List Value}(h:Vals [x,y] us):∃u v,us=[u,v]/\RelV x u/\RelV y v:=by
 cases h with
 |cons r q=>
  cases q with
  |cons q z=>cases z;exact⟨_,_,rfl,r,q⟩
theorem Vals.eraseIdx :∀{xs:List V} {us:List Value} (i:Nat),Vals xs us->Vals (xs.eraseIdx i) (us.eraseIdx i)
 |_,_,_,.nil=>.nil
 |_,_,0,.cons _ t=>t
 |_,_,i+1,.cons r t=>.cons r (Vals.eraseIdx i t)
theorem om {α:Type}:∀(l:List α) (i:Nat),(l.eraseIdx i).length<=l.length
 |[],_=>zW9 _
 |_::_,0=>z58 _
 |_::r,i+1=>Nat.succ_le_succ (om r i)
section
variable {X:Cx}{pins:List (Addr×Obj)}{σ:St}{H:Hp}{s:Shared}{l b:Addr}{xs ys zs:List V}
theorem Inv.lset {its its':List Value}{n:Nat}{f:Array Value->Array Value}{t':Nat}(I:Inv X pins σ H s)(hH:H l=some (.lst xs))
  (e:s.heap.get? l=some {cls:=.type "list",data:=.seq its.toArray n}) (hf:f its.toArray=its'.toArray) (hv:Vals ys its') (hz:ys.length<=sizeLine):
  Inv X pins σ (upd H l (.lst ys)) {s with heap:=s.heap.update l (Obj.mapSeq f),toks:=t'}:=by
 have q:=PySem.IsL.update e f;rw[hf] at q;refine I.write (x:=l) (e:=l) (by rw[hH];exact trivial) (.inl rfl) (fun b' u hb hu=>(zZ0 s.heap (Obj.mapSeq f) (zZ8 hb)).trans hu) ⟨_,q⟩ ?_;exact⟨hz,its',_,hv,q⟩
theorem Inv.lnew {its:List Value}{t':Nat}(I:Inv X pins σ H s)(hv:Vals ys its)(hz:ys.length<=sizeLine):
  Inv X pins σ (upd H s.heap.objs.size (.lst ys)) {s with heap:=s.heap.push {cls:=.type "list",data:=.seq its.toArray},toks:=t'}:=
 I.laid (fun _ _ q=>zW5 _ q) (zW9 _) ⟨hz,its,0,hv,zX4 _ rfl⟩
theorem Inv.fresh (I:Inv X pins σ H s):H s.heap.objs.size=none:=I.hok.fresh (zW9 _)
theorem Inv.lstM (I:Inv X pins σ H s)(hH:H l=some (.lst xs)):xs.length<=sizeLine/\∃(its:List Value) (n:Nat),Vals xs its/\xs.length=its.length/\s.heap.get? l=some {cls:=.type "list",data:=.seq its.toArray n}:=by
 obtain⟨z,its,n,r,e⟩:=I.hok l _ hH;exact⟨z,its,n,r,r.length,e⟩
theorem zg9 {n:Nat}(h:n<=sizeLine):Builtin.List.listTooLong n=false:=by
 unfold Builtin.List.listTooLong;exact zZ1 (by omega)
end
section
variable {X:Cx}
def zo8 :V->List V->Hp->VK->Prop:=fun x vs H Q=>∃l xs y,x=.ref l/\vs=[y]/\H l=some (.lst xs)/\xs.length<sizeLine/\Q .non (upd H l (.lst (xs++[y])))
theorem pQ :MtM X "list.append" zo8:=by
 intro pins s σ H x vs v us Q I rx rv h;obtain⟨l,xs,y,rfl,rfl,hH,hz,q⟩:=h;cases rx;obtain⟨u,rfl,ru⟩:=rv.one;obtain⟨z,its,n,r,hl,e⟩:=I.lstM hH;refine call_meets F.slot_list_append ⟨_,e,rfl⟩ F.entry_list_append (F.args_list_append_2 _ _) (PySem.list_append l its.toArray n u (by rw[zX8];omega)) ⟨e,?_⟩;refine⟨.non,_,I.lset (its':=its++[u]) hH e (by simp) (r.append (.cons ru .nil)) ?_,rfl,q⟩;rw[zY6,z46];omega
def zu8 :V->List V->Hp->VK->Prop:=fun x vs H Q=>∃l b xs zs,x=.ref l/\vs=[.ref b]/\H l=some (.lst xs)/\H b=some (.lst zs)/\xs.length+zs.length<=sizeLine/\Q .non (upd H l (.lst (xs++zs)))
theorem zK4 :MtM X "list.extend" zu8:=by
 intro pins s σ H x vs v us Q I rx rv h;obtain⟨l,b,xs,zs,rfl,rfl,hH,hB,hz,q⟩:=h;cases rx;obtain⟨u,rfl,ru⟩:=rv.one;cases ru;obtain⟨z,its,n,r,hl,e⟩:=I.lstM hH;obtain⟨z2,its2,n2,r2,hl2,e2⟩:=I.lstM hB;have hsz:its.toArray.size+its2.toArray.size<=sizeLine:=by rw[zX8,zX8];omega
 have hlong:¬(!its.toArray.isEmpty&&Builtin.List.listTooLong (its.toArray.size+its2.toArray.size))=true:=by
  rw[zg9 hsz,Bool.and_false];exact zY1
 refine call_meets F.slot_list_extend ⟨_,e,rfl⟩ F.entry_list_extend (F.args_list_extend_2 _ _)
  (AutoSeq1.list_extend_list_list_0 l its.toArray n b its2.toArray n2 hlong (by rw[zX8];omega) (by omega)) ⟨e,e2,?_⟩
 refine⟨.non,_,I.lset (its':=its++its2) hH e (by simp) (r.append r2) ?_,rfl,q⟩;rw[zY6];omega
def zG6 :V->List V->Hp->VK->Prop:=fun x vs H Q=>∃l xs i k y,x=.ref l/\vs=[.int i]/\H l=some (.lst xs)/\-(2 ^ 63)<=i/\i<2 ^ 63/\seqIndex? i xs.length=some k/\xs[k]?=some y/\Q y (upd H l (.lst (xs.eraseIdx k)))
theorem bE :MtM X "list.pop" zG6:=by
 intro pins s σ H x vs v us Q I rx rv h;obtain⟨l,xs,i,k,y,rfl,rfl,hH,h1,h2,hk,hy,q⟩:=h;cases rx;obtain⟨u,rfl,ru⟩:=rv.one;obtain⟨t,rfl⟩:=ru;obtain⟨z,its,n,r,hl,e⟩:=I.lstM hH;obtain⟨w,hw,rw'⟩:=r.get hy;refine call_meets F.slot_list_pop ⟨_,e,rfl⟩ F.entry_list_pop (F.args_list_pop_2 _ _)
  (MeetsSeq.list_pop_at l its.toArray n i t k w (fitsIndex_both h1 h2) (by rw[zX8,<-hl];exact hk) (by rw[<-Array.getElem?_toList];exact hw) (by rw[zX8];omega)) ⟨e,?_⟩
 refine⟨y,_,I.lset (its':=its.eraseIdx k) hH e ?_ (r.eraseIdx k) ?_,rw',q⟩
 ·show its.toArray.eraseIdxIfInBounds k=(its.eraseIdx k).toArray;rw[List.eraseIdxIfInBounds_toArray]
 ·have:=om xs k;omega
def zU7 :R2:=fun x y H Q=>∃l b xs zs,x=.ref l/\y=.ref b/\H l=some (.lst xs)/\H b=some (.lst zs)/\xs.length+zs.length<=sizeLine/\∀p,H p=none->Q (.ref p) (upd H p (.lst (xs++zs)))
theorem zB4 :OpR X (binaryOp .Add) zU7:=by
 intro pins s σ H x y v u Q I rx ry h;obtain⟨l,b,xs,zs,rfl,rfl,hH,hB,hz,q⟩:=h;cases rx;cases ry;obtain⟨z,its,n,r,hl,e⟩:=I.lstM hH;obtain⟨z2,its2,n2,r2,hl2,e2⟩:=I.lstM hB;refine PySem.P.add_list e e2 ?_ (by rw[zX8,zX8];omega);have ea:its.toArray++its2.toArray=(its++its2).toArray:=by simp
 rw[ea];exact⟨.ref _,_,I.lnew (t':=s.toks) (r.append r2) (by rw[zY6];omega),rfl,q _ I.fresh⟩
end
section
variable {prog:Program}{w:World}{A:Around}{E:Value->Shared->Prop}{s:Shared}
end
section
variable {X:Cx}
end
end L2
namespace Att
open PySem PySem.W PySem.Calls PyProof.Rows
theorem rf {P:Params}{h:Heap}:∀(ns:List Int) (vs:List Value),WellAll P h vs (ns.map WData.int)->IntsAre vs ns:=by
 intro ns
 induction ns with
 |nil=>
  intro vs w;rw[yb4] at w;cases w;exact .nil
 |cons n ns ih=>
  intro vs w;rw[zY2] at w;cases w with
  |cons a b=>
   cases a;exact .cons _ _ (ih _ b)
theorem cQ {l:OpenLaw}{n:Nat}(hn:l.most=some n){P:Params}{h:Heap}{args:List WData}{vals:List Value}
  (hpre:l.row.toRowW.claim.pre args=true) (hwl:WellAll P h vals args):
  ∃a vs ns,vals=[Value.ref a]/\args=[WData.list (ns.map WData.int)]/\h.get? a=some {cls:=.type "list",data:=.seq vs.toArray}/\IntsAre vs ns/\ns.length<=n:=by
 have hsh:WShape.hasAll [] args [.list .int]=true:=(pre_splitW hpre).1;have hc:l.pre.holds [] {args:=args}=true:=(pre_splitW hpre).2;obtain⟨d,r,rfl,h1,h2⟩:=hasAllW_cons hsh;obtain rfl:=hasAllW_nil h2;obtain⟨xs,rfl,h3⟩:=hasW_list h1;obtain⟨ns,rfl⟩:=items_int h3;have hlen:ns.length<=n:=by
  unfold OpenLaw.pre at hc;have h4:(WTm.not (.lt (.lit (.int (n:Int))) (.len (.arg 0)))).holds [] {args:=[.list (ns.map .int)]}=true:=by
   have h4:=(holds_andW hc).1;rw[hn] at h4;exact h4
  have h5:=condW_of h4 (w_not (w_lt w_lit (w_len_list (w_arg rfl))));rw[zW3] at h5;refine Nat.le_of_not_lt fun q=>?_;have q':(n:Int)<((ns.length:Nat):Int):=by omega
  first
   |(rw[z02 q'] at h5;exact absurd h5 (by decide))
   |(simp at h5;omega)
 cases hwl with
 |cons w1 w2=>
  cases w2;cases w1 with
  |list ho hall=>exact⟨_,_,ns,rfl,rfl,ho,rf ns _ hall,hlen⟩
theorem cZ (l:OpenLaw)(args:List WData):l.row.toRowW.claim.post args (.bool true) args=true:=
 postW_of (r:=l.row.toRowW) (X:=(true == true))
  (show WShape.has [] (.bool true) .bool=true by first|rfl|decide|simp[WShape.has,WShape.arms,WShape.armsAll])
  (show (WTm.eq .res (.lit (.bool true))).value [] {args:=args,res:=some (.bool true),after:=args}=some (.bool (true == true)) from w_eq_bool (w_res rfl) w_lit) rfl
theorem attach_call {l:OpenLaw}{n:Nat}{q:Program}{loose:List Str}{XP:(Str->Option Value)->Heap->Prop}{YP:World->Heap->Prop}{d:DefRec}
  (hn:l.most=some n) (hdf:d.params.defaults=[])
  (call:∀(w:World) (s₀ s₁:Shared) (mg mb:Str->Option Value) (fa:Addr) (o:Obj) (pm cd doc:Value) (a:Addr) (vs:List Value) (ns:List Int),
   Ground q loose [] XP w s₀ mg mb s₁.heap->YP w s₁.heap->
   s₁.heap.get? fa=some o->o.data=.func (docDef d.name d.params d.body d.scope pm cd doc)->s₁.heap.CodeRec cd d.name->mg d.name=some (.ref fa)->
   s₁.heap.get? a=some {cls:=.type "list",data:=.seq vs.toArray}->IntsAre vs ns->ns.length<=n->s₁.gens=#[]->
   codeAny (model l.prog w) callerA (.call (.ref fa) ⟨[.ref a],[]⟩) (fun r s'=>r=.ok (.ret (.bool true))/\OldK s₁.heap s'.heap/\s'.os=s₁.os/\AllBare s'.gens) s₁):
  WalkO q loose XP YP l.row.toRowW d [] (fun f vs=>PySem.call f vs):=by
 intro w s₀ s₁ mg mb G Y fa o pm cd doc dV kV ho hd hcd hD hmg hg args vals as hpre hlay hrd hwl hlo;obtain rfl:dV=.none:=Dflts.none hD hdf;obtain rfl:kV=.none:=Dflts.noKw hD;obtain⟨a,vs,ns,rfl,rfl,hobj,hints,hlen⟩:=cQ hn hpre hwl;refine enter_call (yd2 (call w s₀ s₁ mg mb fa o pm cd doc a vs ns G Y ho (fd_plain hd) hcd hmg hobj hints hlen hg) fun r s' hq=>?_);obtain⟨rfl,h2,h3,h4⟩:=hq;exact⟨.inl ⟨.bool true,.bool true,[],rfl,fun _=>rfl,.bool true,cZ l _,fun _=>⟨List.Pairwise.nil,fun _ hm=>(nomatch hm)⟩⟩,h2,h3,h4⟩
section
variable {prog:Program}{w:World}{A:Around}{E:Value->Shared->Prop}{s:Shared}{K:Frag}
end
end Att
namespace L2
open PySem PySem.Spec PyProof.Rows
theorem pN :∀{vs:List Value} {ns:List Int},IntsAre vs ns->Vals (ns.map V.int) vs
 |_,_,.nil=>.nil
 |_,_,.cons n t h=>.cons ⟨t,rfl⟩ (pN h)
noncomputable def inClass (s:Stmt)(j:Nat):Stmt:=match s with
 |.ClassDef _ _ _ body _ _ _ _ _ _ _=>body.getD j (.Pass ⟨0,0,0,0⟩)
 |_=>.Pass ⟨0,0,0,0⟩
noncomputable def zV (s:Stmt):Arguments:=match s with
 |.FunctionDef _ a _ _ _ _ _ _ _ _=>a
 |_=>{posonlyargs:=[],args:=[],vararg:=none,kwonlyargs:=[],kw_defaults:=[],kwarg:=none,defaults:=[]}
noncomputable def zA (s:Stmt):List Stmt:=match s with
 |.FunctionDef _ _ b _ _ _ _ _ _ _=>b
 |_=>[]
noncomputable def zb (s:Stmt):Scope:=match s with
 |.FunctionDef _ _ _ _ _ _ sc _ _ _=>sc
 |_=>{kind:=.function,names:=[],isGenerator:=false,isCoroutine:=false}
abbrev CX0 :CXT:=fun _ _ _ _ _ _=>False
abbrev E0 :XK:=fun _ _ _=>False
theorem yp {X:Cx}:Passes CX0 X E0:=fun _ _ _ _ _ _ _ h=>h.elim
structure Fun (K:PySem.W.Frag)(x qual:Str)(st:Stmt)(f:Addr)(fd:FuncData):Prop where
 ex:∃(oc:Value) (od:Option Addr) (kV doc pm:Value) (an:Option Addr) (cdv ct:Value) (osl:Array (Option Value)),
  fd=PySem.W.fnOf x qual (zV st) (zA st) (zb st) .none kV doc pm an cdv ct/\K.lookup f=some ⟨oc,od,.func fd,osl⟩/\PySem.W.codeIn K cdv qual=true
 kp:PySem.W.keepIn K (.ref f)=true
section
variable {P:Program}{w:World}{K:PySem.W.Frag}{mg:Str->Option Value}{base:Heap}
theorem Fun.ok {x qual:Str}{st:Stmt}{f:Addr}{fd:FuncData}{N ps:List Str}{k:Nat}{sp:Sp}(F:Fun K x qual st f fd)(S:zm N ps (zb st))(len:∀vs H Q E,sp vs H Q E->vs.length=ps.length)
  (hbody:∀(cdv:Value) (A:Around) (outer:List Env) (s:Shared) (H:Hp) (vs:List V) (Q:VK) (E:XK),zX k (A.deeper (envOfC qual (zb st) s.heap.objs.size f cdv))->sp vs H Q E->
   ∃t,PSs (uu CX0 P w K mg base N qual (zb st) f cdv A outer s H E).nox (zA st) t/\t {nx:=fun _ H'=>Q .non H',rt:=Q} (start N vs) H):zE P w K mg base CX0 (k+1) f fd ps sp:=by
 obtain⟨oc,od,kV,doc,pm,an,cdv,ct,osl,rfl,lk,hcd⟩:=F.ex;refine ai lk hcd S len fun A outer s H vs Q E hr hsp=>?_;obtain⟨t,h,q⟩:=hbody cdv A outer s H vs Q E hr hsp;exact⟨t,h.nox,q⟩
theorem Fun.binds {x qual:Str}{st:Stmt}{f:Addr}{fd:FuncData}{ps:List Str}(F:Fun K x qual st f fd)
  (h:∀(kV doc pm:Value) (an:Option Addr) (cdv ct:Value) (us:List Value),us.length=ps.length->bindArgs (PySem.W.fnOf x qual (zV st) (zA st) (zb st) .none kV doc pm an cdv ct) ⟨us,[]⟩=pure (ps.zip us)):Binds K fd ps []:=by
 obtain⟨oc,od,kV,doc,pm,an,cdv,ct,osl,rfl,lk,hcd⟩:=F.ex;exact .all (h kV doc pm an cdv ct)
theorem kO {x qual:Str}{st:Stmt}{f:Addr}{oc:Value}{od an:Option Addr}{osl:Array (Option Value)}{kV doc pm cdv ct:Value}(l:K.lookup f=some ⟨oc,od,.func (PySem.W.fnOf x qual (zV st) (zA st) (zb st) .none kV doc pm an cdv ct),osl⟩)
  (c:PySem.W.codeIn K cdv qual=true) (k:PySem.W.keepIn K (.ref f)=true):Fun K x qual st f (PySem.W.fnOf x qual (zV st) (zA st) (zb st) .none kV doc pm an cdv ct):=⟨⟨oc,od,kV,doc,pm,an,cdv,ct,osl,rfl,l,c⟩,k⟩
end
theorem yW {n:Nat}(h:n<=1000):n<sizeLine:=Nat.lt_of_le_of_lt h (by decide)
section
variable {X:Cx}
theorem pv (i:Nat){x:Str}{pos:Pos}(hN:X.N[i]?=some x:=by rfl)(hv:Vis X.env.scope x:=by first|exact Or.inl rfl|exact Or.inr (Or.inl rfl)|exact Or.inr (Or.inr rfl))(hd:(x == ("__debug__":Str))=false:=by decide)
  (hcd:(x == ("__classdict__":Str))=false:=by decide):PE X (.Name x pos) (zC2 i):=xQ hN hv hd hcd
end
theorem uM {A B:Prop}(h:B):if false=true then A else B:=by
 rw[if_neg zY1];exact h
theorem uo {A B:Prop}(h:A):if true=true then A else B:=by
 rw[if_pos rfl];exact h
theorem yQ {c A B:Prop}[Decidable c](h1:c->A)(h2:¬c->B):if c then A else B:=by
 by_cases h:c
 ·rw[if_pos h];exact h1 h
 ·rw[if_neg h];exact h2 h
def zB (H H':Hp):Prop:=∀b o,H b=some o->H' b=some o
theorem zB.refl (H:Hp):zB H H:=fun _ _ h=>h
theorem zB.trans {H H1 H2:Hp}(a:zB H H1)(b:zB H1 H2):zB H H2:=fun c o h=>b c o (a c o h)
theorem zB.free {H H':Hp}(e:zB H H'){l:Addr}(h:H' l=Option.none):H l=Option.none:=by
 cases q:H l with
 |none=>rfl
 |some o=>
  rw[e l o q] at h;cases h
theorem zB.seq {K:PySem.W.Frag}{H H':Hp}{a:Addr}{xs:List V}(e:zB H H')(h:SqL K H a xs):SqL K H' a xs:=by
 rcases h with (h|⟨o,h⟩)|h
 ·exact .inl (.inl (e _ _ h))
 ·exact .inl (.inr ⟨o,e _ _ h⟩)
 ·exact .inr h
noncomputable def uz (cells:List (Str×Addr)):List (Str×NameKind)->List (Str×Addr)->List (Str×Addr)
 |[],acc=>acc
 |(n,k)::r,acc=>uz cells r (if k=.free then (n,(cells.lookup n).getD 0)::acc else acc)
theorem uy {env:Env}{scope:Scope}(h:∀y∈scope.names,y.2=.free->∃c,env.cells.lookup y.1=some c):
  closureFor scope env=pure (uz env.cells scope.names []):=by
 have key:∀(ns:List (Str×NameKind)) (acc:List (Str×Addr)),(∀y∈ns,y.2=.free->∃c,env.cells.lookup y.1=some c)->
   (forIn ns acc fun (x:Str×NameKind) (r:List (Str×Addr))=>(if (x.2 == NameKind.free)=true then (do let a <-cellOf env x.1;pure (ForInStep.yield ((x.1,a)::r))) else pure (ForInStep.yield r):Sem (ForInStep (List (Str×Addr)))))=pure (uz env.cells ns acc):=by
  intro ns
  induction ns with
  |nil=>intro acc _;rfl
  |cons y r ih=>
   intro acc hy;obtain⟨n,k⟩:=y;rw[yd5];have hr:∀z∈r,z.2=.free->∃c,env.cells.lookup z.1=some c:=fun z hz=>hy z (zX3 _ hz);by_cases hk:k=.free
   ·subst hk;obtain⟨c,hc⟩:=hy (n,.free) zX7 rfl;have e1:cellOf env n=pure c:=by
     unfold cellOf;rw[hc]
    have e2:((NameKind.free == NameKind.free)=true):=rfl;simp only[e2,z88,e1,pure_bind];rw[ih _ hr];show _=pure (uz env.cells r (if NameKind.free=NameKind.free then (n,(env.cells.lookup n).getD 0)::acc else acc));rw[if_pos rfl,hc];rfl
   ·have e2:(k == NameKind.free)=false:=by simpa using hk
    simp only[e2,z05,z57,pure_bind];rw[ih _ hr];show _=pure (uz env.cells r (if k=NameKind.free then (n,(env.cells.lookup n).getD 0)::acc else acc));rw[if_neg hk]
 have q:=key scope.names [] h;unfold closureFor;simp only[] at q ⊢;rw[show (forIn scope.names ([]:List (Str×Addr)) fun (x:Str×NameKind) (r:List (Str×Addr))=>_)=_ from q];rfl
theorem kG {cells:List (Str×Addr)}:∀(ns:List (Str×NameKind)) (acc:List (Str×Addr)),(∀y∈ns,y.2=.free->∃c,cells.lookup y.1=some c)->
  ∀x c,(x,c)∈uz cells ns acc->(x,c)∈acc\/((x,NameKind.free)∈ns/\cells.lookup x=some c)
 |[],acc,_,x,c,h=>.inl h
 |(n,k)::r,acc,hy,x,c,h=>by
  have hr:∀z∈r,z.2=.free->∃c,cells.lookup z.1=some c:=fun z hz=>hy z (zX3 _ hz);have h':(x,c)∈uz cells r (if k=.free then (n,(cells.lookup n).getD 0)::acc else acc):=h;rcases kG r _ hr x c h' with q|⟨q1,q2⟩
  ·by_cases hk:k=.free
   ·rw[if_pos hk] at q;rcases zX0.mp q with e|q
    ·obtain⟨c',hc⟩:=hy (n,k) zX7 hk;have e1:x=n:=congrArg Prod.fst e;have e2:c=(cells.lookup n).getD 0:=congrArg Prod.snd e;have hc':cells.lookup n=some c':=hc;rw[hc'] at e2;have e3:c=c':=e2;subst e1 e3 hk;exact .inr ⟨zX7,hc'⟩
    ·exact .inl q
   ·rw[if_neg hk] at q;exact .inl q
  ·exact .inr ⟨zX3 _ q1,q2⟩
theorem lZ {cells:List (Str×Addr)}:∀(ns:List (Str×NameKind)) (acc:List (Str×Addr)) (p:Str×Addr),p∈acc->p∈uz cells ns acc
 |[],_,_,h=>h
 |(n,k)::r,acc,p,h=>by
  show p∈uz cells r (if k=.free then (n,(cells.lookup n).getD 0)::acc else acc);refine lZ r _ p ?_;split
  ·exact zX3 _ h
  ·exact h
theorem lu {cells:List (Str×Addr)}:∀(ns:List (Str×NameKind)) (acc:List (Str×Addr)) (x:Str),(x,NameKind.free)∈ns->∃c,(x,c)∈uz cells ns acc
 |[],_,_,h=>by simp at h
 |(n,k)::r,acc,x,h=>by
  show ∃c,(x,c)∈uz cells r (if k=.free then (n,(cells.lookup n).getD 0)::acc else acc);rcases zX0.mp h with e|h
  ·have e1:x=n:=congrArg Prod.fst e;have e2:NameKind.free=k:=congrArg Prod.snd e;subst e1 e2;rw[if_pos rfl];exact⟨_,lZ r _ _ zX7⟩
  ·exact lu r _ x h
theorem mem_lookup {x:Str}{c:Addr}:∀{l:List (Str×Addr)},(x,c)∈l->∃d,l.lookup x=some d
 |[],h=>by simp at h
 |(n,a)::r,h=>by
  rw[z25];cases e:x == n with
  |true=>exact⟨a,rfl⟩
  |false=>
   rcases zX0.mp h with q|q
   ·have e1:x=n:=congrArg Prod.fst q;rw[e1] at e;simp at e
   ·exact mem_lookup q
structure zY (XN:List Str)(xs:Scope)(N:List Str)(imp:List (Option Nat))(scope:Scope):Prop where
 kind:scope.kind=.function
 nd:N.Nodup
 nocell:∀y∈scope.names,y.2≠.cell
 locs:∀y∈scope.names,y.2=.local->scope.names.lookup y.1=some .local
 frees:∀y∈scope.names,y.2=.free->xs.names.lookup y.1=some .cell\/xs.names.lookup y.1=some .free
 len:imp.length=N.length
 impsB:((imp.zip N).all fun p=>match p.1 with|none=>true|some j=>XN[j]? == some p.2&&scope.names.lookup p.2 == some .free)=true
theorem zY.imps {XN N:List Str}{xs scope:Scope}{imp:List (Option Nat)}(S:zY XN xs N imp scope):∀(i j:Nat),imp[i]?=some (some j)->∃x,N[i]?=some x/\XN[j]?=some x/\scope.names.lookup x=some .free:=by
 intro i j h;have hi:i<imp.length:=(zW7.mp h).1;have hn:i<N.length:=by rw[<-S.len];exact hi
 have hx:N[i]?=some N[i]:=zW6 hn;have hm:(some j,N[i])∈imp.zip N:=by
  have hz:(imp.zip N)[i]?=some (some j,N[i]):=by
   rw[List.getElem?_zip_eq_some];exact⟨h,hx⟩
  exact z27 hz
 have q:=z64.mp S.impsB _ hm;have q':(XN[j]? == some N[i]&&scope.names.lookup N[i]==some .free)=true:=q;rw[zY7] at q';exact⟨N[i],hx,eq_of_beq q'.1,eq_of_beq q'.2⟩
noncomputable def wQ (imp:List (Option Nat))(σ:St):St:=imp.map fun o=>o.bind fun j=>(σ[j]?).bind id
theorem bu {imp:List (Option Nat)}{σ:St}{i:Nat}{v:V}(h:(wQ imp σ)[i]?=some (some v)):∃j,imp[i]?=some (some j)/\σ[j]?=some (some v):=by
 unfold wQ at h;rw[zX1] at h;cases e:imp[i]? with
 |none=>rw[e] at h;cases h
 |some o=>
  rw[e] at h;have h':(o.bind fun j=>(σ[j]?).bind id)=some v:=zZ2 h;cases o with
  |none=>cases h'
  |some j=>
   have h2:(σ[j]?).bind id=some v:=h';cases e2:σ[j]? with
   |none=>rw[e2] at h2;cases h2
   |some w=>
    rw[e2] at h2;have h3:w=some v:=h2;exact⟨j,rfl,by rw[e2,h3]⟩
noncomputable def Cx.comp (X:Cx)(N:List Str)(scope:Scope)(C:Addr)(s2:Shared)(H2:Hp)(fp:List Addr):Cx where
 prog:=X.prog
 w:=X.w
 K:=X.K
 mg:=X.mg
 base:=X.base
 A:=X.A
 N:=N
 s₀:=s2
 H₀:=H2
 env:=compEnvC scope (uz X.env.cells scope.names []) C X.env
 outer:=X.stack
 stack:=X.stack
 ex:=fp
 fn:=fun _=>false
 calm:=X.calm
 pn:=[]
 xe:=fun _ _=>False
theorem tq {env:Env}:∀{names:List (Str×NameKind)} {x:Str},
  (names.map fun (n,k)=>if (k == NameKind.free&&env.scope.kind == .function&&env.kindOf n == some .cell) then (n,NameKind.cell) else (n,k)).lookup x=some .cell\/
  (names.map fun (n,k)=>if (k == NameKind.free&&env.scope.kind == .function&&env.kindOf n == some .cell) then (n,NameKind.cell) else (n,k)).lookup x=some .free->
  (∀y∈names,y.2≠.cell)->(x,NameKind.free)∈names
 |[],x,h,_=>by simp at h
 |(n,k)::r,x,h,hc=>by
  have ih:=@tq env r x;rw[zY2] at h;dsimp only at h;by_cases hx:x=n
  ·subst hx;by_cases hk:k=.free
   ·subst hk;exact zX7
   ·have hk':(k == NameKind.free)=false:=by simpa using hk
    simp only[hk',z01,z05,z57,z25,beq_self_eq_true,z88] at h;rcases h with h|h
    ·have e:k=.cell:=zZ2 h;exact absurd e (hc (x,k) zX7)
    ·have e:k=.free:=zZ2 h;exact absurd e hk
  ·have hxn:(x == n)=false:=by simpa using hx
   have step:∀(b:Bool) (l:List (Str×NameKind)),List.lookup x ((if b=true then (n,NameKind.cell) else (n,k))::l)=l.lookup x:=fun b l=>by
    cases b<;>simp[z25,hxn]
   rw[step] at h;exact zX3 _ (ih h fun y hy=>hc y (zX3 _ hy))
theorem sS {env:Env}:∀{names:List (Str×NameKind)} {x:Str},names.lookup x=some .free->
  (names.map fun (n,k)=>if (k == NameKind.free&&env.scope.kind == .function&&env.kindOf n == some .cell) then (n,NameKind.cell) else (n,k)).lookup x=some .cell\/
  (names.map fun (n,k)=>if (k == NameKind.free&&env.scope.kind == .function&&env.kindOf n == some .cell) then (n,NameKind.cell) else (n,k)).lookup x=some .free
 |[],x,h=>by simp at h
 |(n,k)::r,x,h=>by
  have ih:=@sS env r x;rw[zY2];dsimp only;rw[z25] at h;cases hx:x == n with
  |true=>
   rw[hx] at h;have e:k=.free:=zZ2 h;subst e;by_cases hb:(NameKind.free == NameKind.free&&env.scope.kind == .function&&env.kindOf n == some .cell)=true
   ·left;rw[if_pos hb];simp[z25,hx]
   ·right;rw[if_neg hb];simp[z25,hx]
  |false=>
   rw[hx] at h;have step:∀(b:Bool) (l:List (Str×NameKind)),List.lookup x ((if b=true then (n,NameKind.cell) else (n,k))::l)=l.lookup x:=fun b l=>by
    cases b<;>simp[z25,hx]
   rw[step];exact ih h
section
variable {X:Cx}{pins:List (Addr×Obj)}{σ:St}{H2 H':Hp}{s2 s':Shared}{fp:List Addr}{N:List Str}{imp:List (Option Nat)}{scope:Scope}{C acc:Addr}
theorem uI (I:Inv X pins σ H2 s2)(S:zY X.N X.env.scope N imp scope):∀y∈scope.names,y.2=.free->∃c,X.env.cells.lookup y.1=some c:=fun y hy hk=>I.ok.has y.1 (S.frees y hy hk)
theorem xV (I:Inv X pins σ H2 s2)(S:zY X.N X.env.scope N imp scope){x:Str}{c:Addr}(h:(uz X.env.cells scope.names []).lookup x=some c):(x,NameKind.free)∈scope.names/\X.env.cells.lookup x=some c:=by
 rcases kG scope.names [] (uI I S) x c (z29 h) with q|q
 ·exact absurd q (by simp)
 ·exact q
theorem tL (I:Inv X pins σ H2 s2)(S:zY X.N X.env.scope N imp scope){x:Str}(h:(x,NameKind.free)∈scope.names):∃c,(uz X.env.cells scope.names []).lookup x=some c:=by
 obtain⟨c,hc⟩:=lu (cells:=X.env.cells) scope.names [] x h;exact mem_lookup hc
theorem ze3 {h1:Heap}{tk:Nat}{m:Str->Option Value}{n0:Nat}(I:Inv X pins σ H2 s2)(S:zY X.N X.env.scope N imp scope)(hf:∀b∈fp,xN X pins H2 b)(ho:∀b∈fp,∃o,s2.heap.get? b=some o)
  (hacc:acc=s2.heap.objs.size) (hC:C=s2.heap.objs.size+1) (old:∀b o,s2.heap.get? b=some o->h1.get? b=some o) (hn:h1.Ns C m)
  (hl:h1.get? acc=some {cls:=.type "list",data:=.seq ([]:List Value).toArray n0}):
  Inv (X.comp N scope C s2 H2 fp) [] (wQ imp σ) (upd H2 acc (.lst [])) {s2 with heap:=h1,toks:=tk}:=by
 have fa:H2 acc=none:=I.hok.fresh (by rw[hacc];exact zW9 _);have cac:C≠acc:=by rw[hC,hacc];exact Nat.succ_ne_self _
 have clt:∀x c,X.env.cells.lookup x=some c->c<s2.heap.objs.size:=fun x c e=>by
  obtain⟨v,q⟩:=I.cell x c e;exact q.lt
 refine⟨⟨I.ok.mod,S.kind,I.ok.glob,I.ok.blt,?above,?inj,?has,?cab,I.ok.hd,I.ok.frames,.inl rfl,?exf,fun b o e=>I.bs b o e,z24 I.ok.bsz I.sz,?noex,?exfs,I.stack,I.stkFree⟩,
  rfl,I.bare,Un.laid old (by rw[hacc];exact zW9 _) fa,⟨m,hn,?loc⟩,?cell,?free,?freeC,fun p hp=>absurd (show p∈([]:List (Addr×Obj)) from hp) (by simp),I.hok.laid old (by rw[hacc];exact zW9 _) ⟨zY8 _,[],n0,.nil,hl⟩,?len⟩
 case above=>show s2.heap.objs.size<=C;rw[hC];exact z58 _
 case inj=>exact fun x y c h1 h2=>I.ok.inj x y c (xV I S h1).2 (xV I S h2).2
 case has=>exact fun x hx=>tL I S (tq (env:=X.env) hx S.nocell)
 case cab=>exact fun x c h _=>absurd h (by show ¬(false=true);simp)
 case exf=>
  intro b hb;obtain⟨o,hob⟩:=ho b hb;refine⟨?_,fun x c e=>(hf b hb).2.2.2.2.1 x c (xV I S e).2⟩;show b≠C;rw[hC];exact zY4 (yc1 (zX2 hob))
 case noex=>
  intro b o e hb;rcases (hf b hb).2.2.2.1 with z|z
  ·exact I.ok.noex b o e z
  ·exact absurd (zY9 (zX2 e) (z24 I.ok.bsz z)) (z35 _)
 case exfs=>
  intro b hb hz;rcases zX0.mp (I.stkSub b hz) with e|e
  ·exact (hf b hb).2.1 e
  ·exact (hf b hb).2.2.1 e
 case loc=>
  intro i x v e1 e2 e3;obtain⟨j,q1,q2⟩:=bu e2;obtain⟨y,n1,n2,n3⟩:=S.imps i j q1;have n1':(X.comp N scope C s2 H2 fp).N[i]?=some y:=n1;rw[n1'] at e1;have exy:y=x:=zZ2 e1;subst exy;have hfr:=S.frees (y,.free) (z29 n3) rfl;obtain⟨mX,hnX,hlX⟩:=I.loc;obtain⟨u,r,l⟩:=hlX j y v n2 q2 (.inr hfr);refine⟨u,r,?_⟩;rcases l with ⟨k,_⟩|⟨k,c,e,z⟩
  ·have k':X.env.scope.names.lookup y=some .local:=k;rcases hfr with z|z
   ·have z':X.env.scope.names.lookup y=some .cell:=z;rw[k'] at z';cases z'
   ·have z':X.env.scope.names.lookup y=some .free:=z;rw[k'] at z';cases z'
  ·obtain⟨d,hd⟩:=tL I S (z29 n3);have hd2:=(xV I S hd).2;rw[e] at hd2;have edc:c=d:=zZ2 hd2;subst edc;exact .inr ⟨sS (env:=X.env) n3,c,hd,z.keeps old⟩
 case cell=>
  intro x c e;obtain⟨v,q⟩:=I.cell x c (xV I S e).2;exact⟨v,q.keeps old⟩
 case free=>
  show upd H2 acc _ C=none;rw[zg cac];exact I.hok.fresh (by rw[hC];exact z58 _)
 case freeC=>
  intro x c e;have e':=(xV I S e).2;have hlt:=clt x c e';show upd H2 acc _ c=none;rw[zg (by rw[hacc];exact zY4 hlt)];exact I.freeC x c e'
 case len=>
  show (wQ imp σ).length=N.length;unfold wQ;rw[zW3];exact S.len
theorem cJ {pl:List (Addr×Obj)}{τ:St}(I:Inv X pins σ H2 s2)(hf:∀b∈fp,xN X pins H2 b)(J:Inv (X.comp N scope C s2 H2 fp) pl τ H' s'):Inv X pins σ H' s':=
 I.call' (ch:=fp) J.os J.base J.hok J.bare fun b hb=>⟨(hf b hb).2.2.2.1,(hf b hb).2.1,(hf b hb).2.2.2.2.1,(hf b hb).2.2.2.2.2⟩
end
section
variable {prog:Program}{w:World}{A:Around}{R:Result->Shared->Prop}{s:Shared}
theorem oE {elt target iter:Expr}{ifs:List Expr}{scope:Scope}{pos:Pos}{it acc:Value}{env:Env}(I:Nat->Shared->Prop)
  (turn:∀n s,I n s->wpAny (model prog w) A (pyNext it) (fun r s1=>match r with
   |none=>R (.ok .next) s1
   |some v=>wpAny (model prog w) A (letOwnedTupleGo target it v) (fun _ s2=>wpAny (model prog w) A (assign target env v) (fun _ s3=>
     wpAny (model prog w) A (forIn ifs true fun c r=>if r=true then do let ok <-isTrue c env (eval c env);pure (ForInStep.yield ok) else pure (ForInStep.yield r)) (fun ok s4=>
      if ok=true then wpAny (model prog w) A (eval elt env) (fun x s5=>
       wpAny (model prog w) A (call (.builtin "list.append") [acc,x]) (fun _ s6=>∃m,m<n/\I m s6) (fun _ _=>False) s5) (fun _ _=>False) s4
      else ∃m,m<n/\I m s4) (fun _ _=>False) s3) (fun _ _=>False) s2) (fun _ _=>False) s1) (fun _ _=>False) s)
  (n:Nat) (h:I n s):codeAny (model prog w) A (.compLoop (.ListComp elt [⟨target,iter,ifs,0⟩] scope pos) 0 it acc env) R s:=by
 refine codeAny_loop rfl I (fun n s hI=>?_) n h;show wpAny _ A ((compTurn (.ListComp elt [⟨target,iter,ifs,0⟩] scope pos) 0 it acc env).onRaise (fun x=>do noteFrame x env;theTreesLotGoes x)) _ _ s;refine wpAny_noted ?_;rw[compTurn_list];refine zW4 (wpAny_standAt (zW4 (z22 (turn n s hI) (fun r s1 h1=>?_) fun _ _ h'=>False.elim h')));cases r with
 |none=>exact zX6 h1
 |some v=>
  refine zW4 (z22 h1 (fun _ s2 h2=>?_) fun _ _ h'=>False.elim h');refine zW4 (z22 h2 (fun _ s3 h3=>zW4 (z22 h3 (fun ok s4 h4=>?_) fun _ _ h'=>False.elim h')) fun _ _ h'=>False.elim h');cases ok with
  |false=>exact zX6 ⟨rfl,h4⟩
  |true=>
   exact zW4 (zW4 (z22 h4 (fun x s5 h5=>zW4 (z22 h5 (fun _ s6 h6=>zX6 (zX6 ⟨rfl,h6⟩)) fun _ _ h'=>False.elim h')) fun _ _ h'=>False.elim h'))
end
def vZ (Y:Cx)(ifs:List Expr)(t:TT):Prop:=
 ∀(pins:List (Addr×Obj)) (s:Shared) (σ:St) (H:Hp) (Q:Bool->Hp->Prop),Inv Y pins σ H s->t σ H Q->
  wpAny (model Y.prog Y.w) Y.A (forIn ifs true fun c r=>if r=true then do let ok <-isTrue c Y.env (eval c Y.env);pure (ForInStep.yield ok) else pure (ForInStep.yield r)) (TP Y pins σ Q) Y.xe s
def zV9 :TT:=fun _ H Q=>Q true H
theorem zp0 {Y:Cx}:vZ Y [] zV9:=fun _ _ _ H _ I h=>wpAny_tests_nil ⟨H,I,h⟩
theorem fN {Y:Cx}{c:Expr}{t:TT}(h:PT Y c t):vZ Y [c] t:=fun pins s σ H Q I q=>wpAny_tests_one (h pins s σ H Q I q)
def ny (J:It)(acc:Addr)(g:TG)(tt:TT)(te:TE)(τ0:St)(H0:Hp)(Q:VK):Prop:=
 ∃W:Nat->Nat->List V->St->Hp->Prop,(∃m,W 0 m [] τ0 H0)/\∀i m ys τ H2,W i m ys τ H2->
  (J.stop i H2/\Q (.ref acc) H2)\/(J.go i H2/\∃N:List V->St->Hp->Prop,(∀ys' τ' H',N ys' τ' H'->∃m',m'<m/\W (i+1) m' ys' τ' H')/\
   ∀x H3,J.yld i H2 x H3->g x τ H3 fun τ2 H4=>tt τ2 H4 fun c H5=>
    if c=true then te τ2 H5 fun y H6=>H6 acc=some (.lst ys)/\ys.length<sizeLine/\N (ys++[y]) τ2 (upd H6 acc (.lst (ys++[y]))) else N ys τ2 H5)
def aT (wi:TI)(imp:List (Option Nat))(g:TG)(tt:TT)(te:TE):TE:=fun σ H Q=>wi σ H fun J H1=>∀acc,H1 acc=none->ny J acc g tt te (wQ imp σ) (upd H1 acc (.lst [])) Q
section
variable {X:Cx}{pins:List (Addr×Obj)}{σ:St}{elt iter tg:Expr}{ifs:List Expr}{scope:Scope}{pos:Pos}{wi:TI}{g:TG}{tt:TT}{te:TE}{N:List Str}{imp:List (Option Nat)}
theorem rO {H2:Hp}{s2:Shared}{it:Addr}{fp:List Addr}{tn:Nat->Heap->Prop}{J:It}{RR:Value->Addr->Result->Shared->Prop}{E:Value->Shared->Prop}{Q:VK}
  (hc:X.calm=true) (S:zY X.N X.env.scope N imp scope) (hg:∀C s2 H2 fp,PG (X.comp N scope C s2 H2 fp) tg g) (ht:∀C s2 H2 fp,vZ (X.comp N scope C s2 H2 fp) ifs tt) (he:∀C s2 H2 fp,PE (X.comp N scope C s2 H2 fp) elt te)
  (I2:Inv X pins σ H2 s2) (T:Turn X.prog X.w X.K tg J fp it tn) (st2:tn 0 s2.heap) (f2:∀b∈fp,xN X pins H2 b)
  (hW:∀acc,H2 acc=none->ny J acc g tt te (wQ imp σ) (upd H2 acc (.lst [])) Q)
  (hRR:∀a C H' s' m,Inv X pins σ H' s'->s'.heap.Ns C m->xN X pins H' C->Q (.ref a) H'->RR (.ref a) C (.ok .next) s'):
  wpAny (model X.prog X.w) X.A (newList []) (fun acc s3=>wpAny (model X.prog X.w) X.A (newFunctionEnv scope X.env.globals (uz X.env.cells scope.names []) [] X.env.qual none .none (some X.env)) (fun cenv s4=>
   codeAny (model X.prog X.w) X.A (.compStart (.ListComp elt [⟨tg,iter,ifs,0⟩] scope pos) 0 (.ref it) acc {cenv with scope:=relabel scope X.env}) (RR acc cenv.locals) s4) E s3) E s2:=by
 refine wpAny_newObj_type (wpAny_newFunctionEnv S.nocell (by intro y hy;simp at hy) (fun h1 hns1 hsb1=>?_) S.kind);dsimp only at hns1 hsb1 ⊢;generalize hHH:s2.heap.push {cls:=.type "list",dict:=none,data:=.seq ([]:List Value).toArray}=HH at hns1 hsb1 ⊢;have hC:HH.objs.size=s2.heap.objs.size+1:=by rw[<-hHH,z37]
 have hDC:s2.heap.objs.size≠HH.objs.size:=by rw[hC];exact zY4 (z84 _)
 have old:∀b o,s2.heap.get? b=some o->h1.get? b=some o:=fun b o e=>hsb1.extBut b o (by rw[hC];exact zY4 (yc1 (zX2 e))) (zW5 _ (hHH▸zW5 _ e));have hacc:h1.get? s2.heap.objs.size=some {cls:=.type "list",data:=.seq ([]:List Value).toArray}:=hsb1.extBut _ _ hDC (zW5 _ (hHH▸zX4 _ rfl));obtain⟨W,⟨m0,w0⟩,turn⟩:=hW s2.heap.objs.size I2.fresh;generalize hCC:HH.objs.size=C at hns1 hsb1 hC hDC ⊢;have ho:∀b∈fp,∃o,s2.heap.get? b=some o:=fun b hb=>let ⟨o,e,_⟩:=T.obj 0 _ st2 b hb;⟨o,e⟩;generalize hacc0:s2.heap.objs.size=acc at *;have loop:∀s3:Shared,s3={s2 with heap:=h1,toks:=s2.toks+([]:List (Str×Value)).length}->
   codeAny (model X.prog X.w) X.A (.compLoop (.ListComp elt [⟨tg,iter,ifs,0⟩] scope pos) 0 (.ref it) (.ref acc) (X.comp N scope C s2 H2 fp).env) (RR (.ref acc) C) s3:=by
  rintro s3 rfl;have I3:Inv (X.comp N scope C s2 H2 fp) [] (wQ imp σ) (upd H2 acc (.lst [])) {s2 with heap:=h1,toks:=s2.toks+([]:List (Str×Value)).length}:=
   ze3 I2 S f2 ho hacc0.symm (by rw[hC,hacc0]) old hns1 hacc
  have fpn:∀b∈fp,upd H2 acc (.lst []) b=none:=fun b hb=>by
   obtain⟨o,e⟩:=ho b hb;rw[zg (by rw[<-hacc0];exact zY4 (zX2 e))];exact (f2 b hb).1
  have stat:∀{H':Hp},(∀b∈fp,H' b=none)->∀b∈fp,xN (X.comp N scope C s2 H2 fp) [] H' b:=fun hn b hb=>by
   obtain⟨e1,e2⟩:=I3.ok.exf b hb;exact⟨hn b hb,e1,I3.ok.exfs b hb,.inl hb,e2,fun p hp=>absurd (show p∈([]:List (Addr×Obj)) from hp) (by simp)⟩
  refine oE (fun n s'=>∃i ys τ H',Inv (X.comp N scope C s2 H2 fp) [] τ H' s'/\tn i s'.heap/\(∀b∈fp,H' b=none)/\W i n ys τ H') ?_ m0
   ⟨0,[],_,_,I3,T.keep _ _ _ st2 fun b _ o e=>old b o e,fpn,w0⟩
  rintro n s4 ⟨i,ys,τ,H4,I4,st4,fr4,w4⟩;rcases turn i n ys τ H4 w4 with ⟨stop,qn⟩|⟨go,NN,hN,step⟩
  ·refine z22 (T.done (X.comp N scope C s2 H2 fp) rfl rfl rfl hc i [] s4 τ H4 (fun _ _=>False) I4 (stat fr4) st4 stop) (fun r s5 ⟨hr,I5⟩=>?_) fun _ _ z=>z;subst hr;obtain⟨m5,hn5,_⟩:=id I5.loc;exact hRR acc C H4 s5 m5 (cJ I2 f2 I5) hn5 (I2.fpOk (by rw[hC,hacc0];exact z58 _) I5.free) qn
  ·refine z22 (T.item (X.comp N scope C s2 H2 fp) rfl rfl rfl hc i [] s4 τ H4 (fun _ _=>False) I4 (stat fr4) st4 go) (fun r s5 ⟨u,hr,h5⟩=>?_) fun _ _ z=>z;subst hr;refine z22 h5 (fun _ s6 ⟨x,H6,I6,r6,y6,st6,fr6⟩=>?_) fun _ _ z=>z;have I6':=I6.pinned (stat fr6) (T.obj _ _ st6);refine z22 (hg C s2 H2 fp _ s6 τ H6 x u _ I6' r6 (step x H6 y6)) (fun _ s7 ⟨τ7,H7,I7,q7⟩=>?_) fun _ _ z=>z;refine z22 (ht C s2 H2 fp _ s7 τ7 H7 _ I7 q7) (fun ok s8 ⟨H8,I8,q8⟩=>?_) fun _ _ z=>z;have again:∀{ys9:List V} {H9:Hp} {s9:Shared},Inv (X.comp N scope C s2 H2 fp) ([]++qw fp s6.heap) τ7 H9 s9->NN ys9 τ7 H9->∃m,m<n/\∃i ys τ H',Inv (X.comp N scope C s2 H2 fp) [] τ H' s9/\tn i s9.heap/\(∀b∈fp,H' b=none)/\W i m ys τ H':=fun {ys9 H9 s9} I9 n9=>by
    obtain⟨m',hm,w9⟩:=hN ys9 τ7 H9 n9;refine⟨m',hm,i+1,ys9,τ7,H9,I9.unpinned,T.keep _ _ _ st6 fun b hb o e=>(I9.pin (b,o) (z00 _ (z00 _ (vA hb e)))).1,fun b hb=>?_,w9⟩;obtain⟨o,e,d⟩:=T.obj _ _ st6 b hb;exact (I9.pin (b,o) (z00 _ (z00 _ (vA hb e)))).2.1
   cases ok with
   |false=>
    have q8':NN ys τ7 H8:=by
     have z:=q8;rw[if_neg zY1] at z;exact z
    rw[if_neg zY1];exact again I8 q8'
   |true=>
    rw[if_pos rfl] at q8 ⊢;refine z22 (he C s2 H2 fp _ s8 τ7 H8 _ I8 q8) (fun v s9 ⟨y,H9,I9,r9,a9,z9,q9⟩=>?_) fun _ _ z=>z;refine z22 (pQ (X:=X.comp N scope C s2 H2 fp) _ s9 τ7 H9 (.ref acc) [y] (.ref acc) [v] (fun _ H10=>H10=upd H9 acc (.lst (ys++[y]))) I9 rfl (.cons r9 .nil) ⟨acc,ys,y,rfl,rfl,a9,z9,rfl⟩) (fun _ s10 ⟨_,H10,I10,_,e10⟩=>?_) fun _ _ z=>z;subst e10;exact again I10 q9
 exact codeAny_compStart_list (loop _ rfl) (T.self X.A 0 _ _ _ (T.keep _ _ _ st2 fun b _ o e=>old b o e) (loop _ rfl))
theorem zy0 (hc:X.calm=true)(S:zY X.N X.env.scope N imp scope)(hi:PI X tg iter wi)(hg:∀C s2 H2 fp,PG (X.comp N scope C s2 H2 fp) tg g)(ht:∀C s2 H2 fp,vZ (X.comp N scope C s2 H2 fp) ifs tt)
  (he:∀C s2 H2 fp,PE (X.comp N scope C s2 H2 fp) elt te) (hs:∀x,foldedSetIterable iter X.env x=pure x:=by intro _;rfl):
  PE X (.ListComp elt [⟨tg,iter,ifs,0⟩] scope pos) (aT wi imp g tt te):=by
 intro pins s σ H Q I h;rw[eval_ListComp];refine wpAny_comprehension_free (use:=none) rfl hs (uy (uI I S)) S.kind S.locs (thn (hi pins s σ H _ I h) fun v s1 h1=>thn h1 fun itv s2 h2=>?_);obtain⟨it,fp,tn,J,H2,e,I2,T,st2,f2,hW⟩:=h2;subst e;refine rO (RR:=fun acc C=>compPost (model X.prog X.w) X.A X.xe none (EP X pins σ Q) acc C) hc S hg ht he I2 T st2 f2 hW fun a C H' s' m I' hn f q=>?_;refine⟨m,hn,fun h' sb=>?_⟩;obtain⟨g0,g1,g2,g3,g4,g5⟩:=f;exact⟨.ref a,H',I'.turned (t':=s'.toks) (it:=C) (fun b o hb e=>(sb.2 b hb).trans e) g0 g1 g3 g4 g5,rfl,q⟩
theorem zl3 {i:Nat}{x:Str}{px:Pos}{spos:Pos}(hc:X.calm=true)(S:zY X.N X.env.scope N imp scope)(hi:PI X tg iter wi)(hg:∀C s2 H2 fp,PG (X.comp N scope C s2 H2 fp) tg g)(ht:∀C s2 H2 fp,vZ (X.comp N scope C s2 H2 fp) ifs tt)
  (he:∀C s2 H2 fp,PE (X.comp N scope C s2 H2 fp) elt te) (hN:X.N.Nodup) (hx:X.N[i]?=some x) (hl:Loc X.env.scope x) (hsw:swapsWith (.ListComp elt [⟨tg,iter,ifs,0⟩] scope pos) (some (.Name x px)) spos.line X.env=pure true:=by rfl)
  (hf:X.fn x=true\/X.env.scope.names.lookup x=some .local:=by first|exact .inl rfl|exact .inr rfl|assumption) (hs:∀x,foldedSetIterable iter X.env x=pure x:=by intro _;rfl):
  PS X (.Assign [.Name x px] (.ListComp elt [⟨tg,iter,ifs,0⟩] scope pos) spos) (zI5 (aT wi imp g tt te) (oA i)):=by
 intro pins s σ H D I h;rw[exec_Assign_Name_used _ _ _ _ hsw];refine zW4 (wpAny_standAt (zW4 ?_));show wpAny _ X.A (do let _ <-comprehension (.ListComp elt [⟨tg,iter,ifs,0⟩] scope pos) scope X.env _ (newList []) false (eval iter X.env) (some (assign (.Name x px) X.env))) _ _ s;refine zW4 (z22 (wpAny_comprehension_free (use:=some (assign (.Name x px) X.env)) (Q:=fun _ s'=>SP X pins D .next s') rfl hs (uy (uI I S)) S.kind S.locs (thn (hi pins s σ H _ I h) fun v s1 h1=>thn h1 fun itv s2 h2=>?_))
  (fun _ s' hq=>zX6 (zX6 hq)) fun _ _ e=>e)
 obtain⟨it,fp,tn,J,H2,e,I2,T,st2,f2,hW⟩:=h2;subst e;refine rO (Q:=fun x H1=>oA i x σ H1 D.nx) (RR:=fun acc C=>compPost (model X.prog X.w) X.A X.xe (some (assign (.Name x px) X.env)) (fun _ s'=>SP X pins D .next s') acc C) hc S hg ht he I2 T st2 f2 hW fun a C H' s' m I' hn f q=>?_;show wpAny _ X.A (assign (.Name x px) X.env (.ref a)) _ _ _;obtain⟨g0,g1,g2,g3,g4,g5⟩:=f;refine wpAny_assign_Name (pL I' hN hx hl (show RelV (.ref a) (.ref a) from rfl) (fun s4 I4 hch=>?_) hf);obtain⟨ad,sb,had⟩:=hch;have hCa:C≠ad:=by
  rcases had with e|e
  ·rw[e];exact g1
  ·exact (g4 x ad e).symm
 refine⟨m,hn.sameBut sb hCa,fun h' sb2=>?_⟩;exact⟨_,H',I4.turned (t':=s4.toks) (it:=C) (fun b o hb e=>(sb2.2 b hb).trans e) g0 g1 g3 g4 g5,q⟩
end
mutual
inductive DV (H:Hp):V->PyData->Prop where
 |non:DV H .non .none
 |bl (b:Bool):DV H (.bl b) (.bool b)
 |int (i:Int):DV H (.int i) (.int i)
 |str (x:Str):DV H (.str x) (.str x)
 |lst {a:Addr} {xs:List V} {ds:List PyData}:H a=some (.lst xs)->DVs H xs ds->DV H (.ref a) (.list ds)
 |tup {a:Addr} {xs:List V} {ds:List PyData}:H a=some (.tup xs)->DVs H xs ds->DV H (.ref a) (.tuple ds)
inductive DVs (H:Hp):List V->List PyData->Prop where
 |nil:DVs H [] []
 |cons {x:V} {xs:List V} {d:PyData} {ds:List PyData}:DV H x d->DVs H xs ds->DVs H (x::xs) (d::ds)
end
section
variable {X:Cx}{pins:List (Addr×Obj)}{σ:St}{H:Hp}{s:Shared}
mutual
theorem DV.reads (I:Inv X pins σ H s):∀{x:V} {d:PyData} {u:Value},DV H x d->RelV x u->∃as,Reads s.heap u d as
 |_,_,u,.non,r=>by cases (show u=Value.none from r);exact⟨_,.none⟩
 |_,_,u,.bl b,r=>by cases (show u=Value.bool b from r);exact⟨_,.bool b⟩
 |_,_,u,.int i,r=>by obtain⟨t,rfl⟩:=(show ∃t,u=Value.int i t from r);exact⟨_,.int i t⟩
 |_,_,u,.str x,r=>by obtain⟨t,rfl⟩:=(show ∃t,u=Value.str x t from r);exact⟨_,.str x t⟩
 |_,_,u,.lst (a:=a) hq hs,r=>by
  cases (show u=Value.ref a from r);obtain⟨its,rv,p,hz⟩:=I.list (SqL.of hq);obtain⟨o,ho,hc,n,hd⟩:=p.isList;obtain⟨as,ra⟩:=DVs.reads I hs rv;exact⟨_,.list ho hc hd (by simpa using ra)⟩
 |_,_,u,.tup (a:=a) hq hs,r=>by
  cases (show u=Value.ref a from r);obtain⟨its,rv,p,hz⟩:=I.tuple (SqT.of hq);obtain⟨o,ho,hc,n,hd⟩:=p;obtain⟨as,ra⟩:=DVs.reads I hs rv;exact⟨_,.tuple ho hc hd (by simpa using ra)⟩
theorem DVs.reads (I:Inv X pins σ H s):∀{xs:List V} {ds:List PyData} {us:List Value},DVs H xs ds->Vals xs us->∃as,ReadsAll s.heap us ds as
 |_,_,_,.nil,.nil=>⟨_,.nil⟩
 |_,_,_,.cons h hs,.cons r rs=>by
  obtain⟨as,ra⟩:=DV.reads I h r;obtain⟨bs,rb⟩:=DVs.reads I hs rs;exact⟨_,.cons ra rb⟩
end
end
mutual
theorem DV.same {H H':Hp}(e:zB H H'):∀{x:V} {d:PyData},DV H x d->DV H' x d
 |_,_,.non=>.non
 |_,_,.bl b=>.bl b
 |_,_,.int i=>.int i
 |_,_,.str x=>.str x
 |_,_,.lst hq hs=>.lst (e _ _ hq) (DVs.same e hs)
 |_,_,.tup hq hs=>.tup (e _ _ hq) (DVs.same e hs)
theorem DVs.same {H H':Hp}(e:zB H H'):∀{xs:List V} {ds:List PyData},DVs H xs ds->DVs H' xs ds
 |_,_,.nil=>.nil
 |_,_,.cons h hs=>.cons (DV.same e h) (DVs.same e hs)
end
theorem DVs.length {H:Hp}:∀{xs:List V} {ds:List PyData},DVs H xs ds->xs.length=ds.length
 |_,_,.nil=>rfl
 |_,_,.cons _ hs=>by rw[zX9,zX9,DVs.length hs]
noncomputable def tyD :PyData->String
 |.none=>"NoneType"
 |.bool _=>"bool"
 |.int _=>"int"
 |.str _=>"str"
 |.list _=>"list"
 |.tuple _=>"tuple"
 |.dict _=>"dict"
theorem DV.ty {K:PySem.W.Frag}{H:Hp}{x:V}{d:PyData}(h:DV H x d):tw K H x (.type (tyD d)):=by
 cases h with
 |non=>exact .non
 |bl b=>exact .bl b
 |int i=>exact .int i
 |str x=>exact .str x
 |lst e _=>exact .lst e
 |tup e _=>exact .tup e
noncomputable def isInt :PyData->Bool
 |.int _=>true
 |.bool _=>true
 |_=>false
noncomputable def isBool :PyData->Bool
 |.bool _=>true
 |_=>false
noncomputable def isStr :PyData->Bool
 |.str _=>true
 |_=>false
noncomputable def isList :PyData->Bool
 |.list _=>true
 |_=>false
noncomputable def fQ :PyData->Bool
 |.tuple _=>true
 |_=>false
noncomputable def pk (T:String)(d:PyData):Option Bool:=
 if T="int" then some (isInt d) else if T="bool" then some (isBool d) else if T="str" then some (isStr d) else if T="list" then some (isList d) else if T="tuple" then some (fQ d) else none
noncomputable def zG9 (t T:String):Option Bool:=if (Value.type t == Value.type T)=true then some true else if PySem.W.kitMeta T=true then (fastBuiltinMro t).map (·.contains (Value.type T)) else none
theorem zb6 (K:PySem.W.Frag)(t T:String):PySem.W.kitOne K (.type t) (.type T)=zG9 t T:=rfl
theorem zm5 :(["NoneType","bool","int","str","list","tuple"].all fun t=>["int","bool","str","list","tuple"].all fun T=>
  zG9 t T == some (if T="int" then t == "int"||t == "bool" else t == T))=true:=by decide +kernel
theorem zQ9 (K:PySem.W.Frag){H:Hp}{x:V}{d:PyData}(h:DV H x d){T:String}{b:Bool}(e:pk T d=some b):PySem.W.kitOne K (.type (tyD d)) (.type T)=some b:=by
 rw[zb6];have key:∀t∈["NoneType","bool","int","str","list","tuple"],∀T∈["int","bool","str","list","tuple"],zG9 t T=some (if T="int" then t == "int"||t == "bool" else t == T):=fun t ht T hT=>
  eq_of_beq (z64.mp (z64.mp zm5 t ht) T hT)
 have hd:tyD d∈["NoneType","bool","int","str","list","tuple"]:=by cases h<;>simp[tyD]
 unfold pk at e;split at e
 ·rename_i eT;subst eT;rw[key _ hd "int" (by decide)];cases e;cases h<;>rfl
 ·split at e
  ·rename_i eT;subst eT;rw[key _ hd "bool" (by decide)];cases e;cases h<;>rfl
  ·split at e
   ·rename_i eT;subst eT;rw[key _ hd "str" (by decide)];cases e;cases h<;>rfl
   ·split at e
    ·rename_i eT;subst eT;rw[key _ hd "list" (by decide)];cases e;cases h<;>rfl
    ·split at e
     ·rename_i eT;subst eT;rw[key _ hd "tuple" (by decide)];cases e;cases h<;>rfl
     ·cases e
section
variable {X:Cx}
def zN6 :R2:=fun x y H Q=>∃d e,DV H x d/\DV H y e/\SeqAt.shaped d=true/\SeqAt.shaped e=true/\Q (.bl (PyData.eqv d e)) H
def zP5 :R2:=fun x y H Q=>∃d e,DV H x d/\DV H y e/\SeqAt.shaped d=true/\SeqAt.shaped e=true/\Q (.bl (!PyData.eqv d e)) H
theorem vL (hu:X.A.units+64<cLine):OpR X (compareOp .Eq) zN6:=by
 intro pins s σ H x y v u Q I rx ry h;obtain⟨d,e,hd,he,sd,se,q⟩:=h;obtain⟨as,ra⟩:=hd.reads I rx;obtain⟨bs,rb⟩:=he.reads I ry;exact SeqAt.compareEq_shaped ra rb sd se hu ⟨.bl _,H,I,rfl,q⟩
theorem zH7 (hu:X.A.units+64<cLine):OpR X (compareOp .NotEq) zP5:=by
 intro pins s σ H x y v u Q I rx ry h;obtain⟨d,e,hd,he,sd,se,q⟩:=h;obtain⟨as,ra⟩:=hd.reads I rx;obtain⟨bs,rb⟩:=he.reads I ry;exact SeqAt.compareNe_shaped ra rb sd se hu ⟨.bl _,H,I,rfl,q⟩
theorem zd7 :xK X (.builtin "isinstance") (fun xs H Q=>∃x T t b,xs=[x,.ty T]/\tw X.K H x t/\PySem.W.kitOne X.K t (.type T)=some b/\Q (.bl b) H):=by
 intro pins s σ H xs us Q I r h;obtain⟨x,T,t,b,rfl,ty,e,q⟩:=h;obtain⟨u,v,rfl,rx,ry⟩:=Vals.two r;cases (show v=Value.type T from ry);exact cV I rx ty e fun tk=>⟨.bl b,H,I.tok tk,rfl,q⟩
theorem xW :xK X (.builtin "isinstance") (fun xs H Q=>∃x T d b,xs=[x,.ty T]/\DV H x d/\pk T d=some b/\Q (.bl b) H):=by
 intro pins s σ H xs us Q I r h;obtain⟨x,T,d,b,e,hd,ht,q⟩:=h;exact zd7 pins s σ H xs us Q I r ⟨x,T,_,b,e,hd.ty,zQ9 X.K hd ht,q⟩
def zz4 (i j:Int):Prop:=0<j/\j.natAbs.log2<9000
theorem tG :OpR X (binaryOp .FloorDiv) (rI zz4 fun i j=>.int (i / j)):=opI fun i j _ _ _ _ _ hc q=>by
 have h1:(0:Int)<j:=hc.1;refine floordiv_int (Int.ne_of_gt h1) ?_ (.inl (PyProof.noPylong_of_log2 hc.2));rw[Int.fdiv_eq_ediv_of_nonneg _ (Int.le_of_lt h1)];exact q
noncomputable abbrev big :Int:=115792089237316195423570985008687907853269984665640564039457584007913129639936
theorem log2_small {j:Int}(h0:0<j)(h:j<big):j.natAbs.log2<9000:=by
 have hn:j.natAbs≠0:=by omega
 have h2:j.natAbs<2 ^ 256:=by
  have e:(2:Nat) ^ 256=115792089237316195423570985008687907853269984665640564039457584007913129639936:=by decide +kernel
  rw[e];unfold big at h;omega
 have h3:j.natAbs.log2<256:=(Nat.log2_lt hn).mpr h2;omega
theorem lh :xK X (.type "range") (fun xs H Q=>∃i j:Int,xs=[.int i,.int j]/\∀p,H p=none->Q (.ref p) (upd H p (.rng i j))):=by
 intro pins s σ H xs us Q I r h;obtain⟨i,j,rfl,q⟩:=h;obtain⟨u,v,rfl,⟨t,rfl⟩,⟨t',rfl⟩⟩:=Vals.two r;refine call_range_2 ⟨.ref s.heap.objs.size,_,I.laid (o:=.rng i j) (fun b u e=>zW5 _ e) (zW9 _) ⟨t,t',s.toks,zX4 _ rfl⟩,rfl,q _ (I.hok.fresh (zW9 _))⟩
noncomputable def zp (lo:Int)(n:Nat):List Int:=(List.range n).map fun i=>lo+(i:Nat)
theorem zc (lo:Int)(n:Nat):(zp lo n).length=n:=by simp[zp]
theorem zK {lo:Int}{n i:Nat}(h:i<n):(zp lo n)[i]?=some (lo+(i:Nat)):=by simp[zp,h]
theorem pd {lo:Int}{n:Nat}{acc:Array Value}(h:ItemsOf (fun i v=>∃t,v=.int (lo+i*1) t) acc n):Vals ((zp lo n).map V.int) acc.toList:=by
 obtain⟨h1,h2⟩:=h;have key:∀(xs:List V) (us:List Value),xs.length=us.length->(∀(i:Nat) (x:V) (u:Value),xs[i]?=some x->us[i]?=some u->RelV x u)->Vals xs us:=by
  intro xs
  induction xs with
  |nil=>intro us hl _;cases us with|nil=>exact .nil|cons _ _=>simp at hl
  |cons x xs ih=>
   intro us hl hr;cases us with
   |nil=>simp at hl
   |cons u us=>exact .cons (hr 0 x u rfl rfl) (ih us (by simpa using hl) fun i x' u' e1 e2=>hr (i+1) x' u' (by simpa using e1) (by simpa using e2))
 refine key _ _ ?_ fun i x u e1 e2=>?_
 ·rw[zW3,zc];simp[h1]
 ·rw[zX1] at e1;have hi:i<n:=by
   have:=(zW7.mp e2).1;simp[h1] at this;exact this
  rw[zK hi] at e1;have e1':V.int (lo+(i:Nat))=x:=zZ2 e1;subst e1';obtain⟨t,ht⟩:=h2 i u (by simpa using e2);refine⟨t,?_⟩;rw[ht,Int.mul_one]
theorem pf (hc:X.calm=true):xK X (.type "list") (fun xs H Q=>∃(p:Addr) (lo hi:Int),xs=[.ref p]/\H p=some (.rng lo hi)/\(-(2 ^ 62)<=lo/\lo<2 ^ 62/\-(2 ^ 62)<=hi/\hi<2 ^ 62)/\(hi-lo).toNat<=sizeLine/\(hi-lo).toNat<=2 ^ 24/\
  ∀l,H l=none->Q (.ref l) (upd H l (.lst ((zp lo (hi-lo).toNat).map V.int)))):=by
 intro pins s σ H xs us Q I r h;obtain⟨p,lo,hi,rfl,hp,⟨b1,b2,b3,b4⟩,hz,hz2,q⟩:=h;obtain⟨u,rfl,rx⟩:=Vals.one r;cases (show u=Value.ref p from rx);obtain⟨t,t',t'',e⟩:=(show zS X.prog X.w H s.heap p (.rng lo hi) from I.hok p _ hp);refine call_list_range (I.ok.hd hc) e (small_one b1 b2 b3 b4) (n:=(hi-lo).toNat) (by rw[rangeSize_one];split<;>omega) hz2 fun h' tk acc' c' hk hl hit=>?_;refine⟨.ref s.heap.objs.size,_,I.laid (o:=.lst ((zp lo (hi-lo).toNat).map V.int)) (t':=tk) hk (zW9 _) ⟨by rw[zW3,zc];exact hz,acc'.toList,c',pd hit,by simpa using hl⟩,rfl,q _ (I.hok.fresh (zW9 _))⟩
theorem lW {bs:List Bool}:∀{us:List Value},Vals (bs.map V.bl) us->LSm.BoolsAre us bs:=by
 induction bs with
 |nil=>intro us h;cases h;exact .nil
 |cons b bs ih=>
  intro us h;cases h with
  |cons r rr=>
   cases (show _=Value.bool b from r);exact .cons b (ih rr)
end
def zs0 (X:Cx)(body:List Stmt):TS:=fun D σ H=>∃t,PSs X body t/\t D σ H
theorem yj {X:Cx}{body:List Stmt}:PSs X body (zs0 X body):=fun pins s σ H D I ⟨t,p,q⟩=>p pins s σ H D I q
theorem yf {X:Cx}{st:Stmt}{rest:List Stmt}{D:Ends}{σ:St}{H:Hp}(M:St->Hp->Prop)(h1:∃t,PS X st t/\t {D with nx:=M} σ H)(h2:∀σ' H',M σ' H'->∃t,PSs X rest t/\t D σ' H'):
  ∃t,PSs X (st::rest) t/\t D σ H:=by
 obtain⟨t1,p1,q1⟩:=h1;refine⟨fun D' σ' H'=>D'=D/\σ'=σ/\H'=H,?_,rfl,rfl,rfl⟩;intro pins s σ' H' D' I h;obtain⟨e1,e2,e3⟩:=h;subst e1 e2 e3;have step:PSs X (st::rest) (zK9 t1 fun D2 σ2 H2=>D2=D'/\M σ2 H2):=zT p1 fun pins s σ2 H2 D2 I2 ⟨e,m⟩=>by
  subst e;obtain⟨t2,p2,q2⟩:=h2 σ2 H2 m;exact p2 pins s σ2 H2 _ I2 q2
 refine step pins s _ _ _ I ?_;show t1 {D' with nx:=fun σ2 H2=>D'=D'/\M σ2 H2} _ _;have e:(fun (σ2:St) (H2:Hp)=>D'=D'/\M σ2 H2)=M:=by
  funext σ2 H2
  exact propext ⟨fun z=>z.2,fun z=>⟨rfl,z⟩⟩
 rw[e];exact q1
theorem cu {K:PySem.W.Frag}{a acc:Addr}{xs:List V}{g:TG}{tt:TT}{te:TE}{Q:VK}{τ0:St}{H0:Hp}(Pv:Nat->List V->St->Hp->Prop)(h0:Pv 0 [] τ0 H0)(hl:∀i ys τ H,i<=xs.length->Pv i ys τ H->SqL K H a xs)
  (hs:∀i x ys τ H,xs[i]?=some x->Pv i ys τ H->g x τ H fun τ2 H4=>tt τ2 H4 fun c H5=>
   if c=true then te τ2 H5 fun y H6=>H6 acc=some (.lst ys)/\ys.length<sizeLine/\Pv (i+1) (ys++[y]) τ2 (upd H6 acc (.lst (ys++[y]))) else Pv (i+1) ys τ2 H5)
  (hd:∀ys τ H,Pv xs.length ys τ H->Q (.ref acc) H):
  ny (Itl K a) acc g tt te τ0 H0 Q:=by
 refine⟨fun i m ys τ H=>m=xs.length-i/\i<=xs.length/\Pv i ys τ H,⟨xs.length,by simp,zY8 _,h0⟩,?_⟩;rintro i m ys τ H ⟨rfl,hi,p⟩;have q:=hl i ys τ H hi p;by_cases hlt:i<xs.length
 ·refine .inr ⟨⟨xs,xs[i],q,by simp[hlt]⟩,Pv (i+1),fun ys' τ' H' p'=>⟨xs.length-(i+1),by omega,rfl,hlt,p'⟩,fun x H' y=>?_⟩;obtain⟨e,y⟩:=y;subst e;exact hs i x ys τ _ (y xs q) p
 ·have e:i=xs.length:=by omega
  subst e;exact .inl ⟨⟨xs,q,zW9 _⟩,hd ys τ H p⟩
theorem at0 {α:Type}{x:α}{xs:List α}:atI (x::xs) 0=some x:=yH (j:=0) rfl
theorem ix0 {α:Type}{x:α}{xs:List α}:ixN (x::xs).length 0=some 0:=by
 unfold ixN;rw[if_pos (z23 _),if_pos (by rw[zX9];omega)];rfl
theorem zV5 {α:Type}{x:α}{xs:List α}:seqIndex? 0 (x::xs).length=some 0:=(nF ix0).1
theorem aq (ns:List Int)(lo hi:Option Int):∃ms:List Int,mx (ns.map V.int) lo hi=ms.map V.int/\ms.length<=ns.length:=by
 refine⟨(ns.drop (HT.sIx (ns.map V.int).length 0 lo)).take (HT.sIx (ns.map V.int).length (ns.map V.int).length hi-HT.sIx (ns.map V.int).length 0 lo),?_,?_⟩
 ·unfold mx;rw[ye5,List.map_drop]
 ·rw[zZ4,z49];omega
structure yZ (H:Hp)(t b c:Addr):Prop where
 ex:∃(n:Int) (bs cs:List Int),b≠c/\H t=some (.lst [.ref b,.ref c,.int n])/\H b=some (.lst (bs.map V.int))/\H c=some (.lst (cs.map V.int))/\bs.length<=63/\cs.length<=63
theorem gA {b c:Addr}{n:Int}(bs:List Int):HO.lst [.ref b,.ref c,.int n]≠HO.lst (bs.map V.int):=by
 intro z;injection z with z;cases bs with
 |nil=>cases z
 |cons x r=>cases z
def oC (t b:Addr)(H H':Hp):Prop:=∀a,a≠t->a≠b->H' a=H a
theorem oC.trans {t b:Addr}{H H1 H2:Hp}(h:oC t b H H1)(k:oC t b H1 H2):oC t b H H2:=fun a h1 h2=>(k a h1 h2).trans (h a h1 h2)
def jq (K:PySem.W.Frag):Sp:=fun vs H Q _=>∃(a:Addr) (ns:List Int),vs=[.ref a]/\SqL K H a (ns.map V.int)/\ns.length<=63/\
 ∀(t b c:Addr) (H':Hp),yZ H' t b c->H t=none->H b=none->H c=none->zB H H'->Q (.ref t) H'
def bA :Sp:=fun vs H Q _=>∃(t b c:Addr) (many:Int),vs=[.ref t,.int many]/\yZ H t b c/\0<many/\many<big/\
 ∀(v:Int) (H':Hp),0<=v->v<many->yZ H' t b c->oC t b H H'->Q (.int v) H'
theorem yZ.free {H:Hp}{t b c l:Addr}(T:yZ H t b c)(h:H l=none):l≠t/\l≠b/\l≠c:=by
 obtain⟨n,bs,cs,n1,e1,e2,e3,l1,l2⟩:=T.ex;exact⟨(zo e1 h).symm,(zo e2 h).symm,(zo e3 h).symm⟩
theorem yZ.off {H H':Hp}{t b c:Addr}(T:yZ H t b c)(h:∀a,a=t\/a=b\/a=c->H' a=H a):yZ H' t b c:=by
 obtain⟨n,bs,cs,n1,e1,e2,e3,l1,l2⟩:=T.ex;exact⟨n,bs,cs,n1,by rw[h t (.inl rfl)];exact e1,by rw[h b (.inr (.inl rfl))];exact e2,by rw[h c (.inr (.inr rfl))];exact e3,l1,l2⟩
theorem zk0 {H:Hp}{t b c l:Addr}{o:HO}(T:yZ H t b c)(h:l≠t/\l≠b/\l≠c):yZ (upd H l o) t b c:=
 T.off fun a ha=>zg (ha.elim (fun e=>e▸h.1.symm) fun ha=>ha.elim (fun e=>e▸h.2.1.symm) fun e=>e▸h.2.2.symm)
theorem eX {H H':Hp}{t b c:Addr}(T:yZ H t b c)(s:zB H H'):yZ H' t b c:=by
 obtain⟨n,bs,cs,n1,e1,e2,e3,l1,l2⟩:=T.ex;exact⟨n,bs,cs,n1,s _ _ e1,s _ _ e2,s _ _ e3,l1,l2⟩
theorem yB {H:Hp}{p:Addr}{o:HO}(h:H p=none):zB H (upd H p o):=fun b u e=>by rw[zg (zo e h)];exact e
theorem shaped_ints (ns:List Int):SeqAt.shaped (.list (ns.map PyData.int))=true/\SeqAt.shaped (.tuple (ns.map PyData.int))=true:=by
 have h1:PyData.canLayAll0 (ns.map PyData.int)=true:=by
  induction ns with
  |nil=>rfl
  |cons n r ih=>simp only[zY2,PyData.canLayAll0,PyData.canLay0,ih,ye6]
 have h2:PyData.depthAll (ns.map PyData.int)=0:=by
  clear h1
  induction ns with
  |nil=>rfl
  |cons n r ih=>simp only[zY2,PyData.depthAll,PyData.depth,ih,Nat.max_self]
 constructor<;>simp[SeqAt.shaped,PyData.canLay0,PyData.depth,h1,h2]
noncomputable def yL :Addr:=(147:Nat)
noncomputable def wu :Str:="cheapest_first.<locals>.<lambda>"
def qT (x:Addr):Prop:=x=yL
noncomputable def sI (c:Addr):HO:=.ext fun h=>h.CodeRec (.ref c) wu
structure TabAt (H:Hp):Prop where
 ex:∃ps:Array Value,H yL=some (.tbl ps)/\TriplesOk ps.toList/\∀pos cv,codeAmong pos ps.toList=some cv->∃c,cv=.ref c/\H c=some (sI c)
theorem rY {H H':Hp}(T:TabAt H)(h:∀a o,(∀xs,o≠.lst xs)->H a=some o->H' a=some o):TabAt H':=by
 obtain⟨ps,e1,e2,e3⟩:=T.ex;refine⟨ps,h _ _ (fun xs z=>nomatch z) e1,e2,fun pos cv hc=>?_⟩;obtain⟨c,rfl,e4⟩:=e3 pos cv hc;exact⟨c,rfl,h _ _ (fun xs z=>nomatch z) e4⟩
def Plain (H:Hp)(l:Addr):Prop:=∀o,H l=some o->o≠sI l/\∀ps,o≠.tbl ps
theorem zv0 {H:Hp}{l:Addr}{o:HO}(T:TabAt H)(h:Plain H l):TabAt (upd H l o):=by
 obtain⟨ps,e1,e2,e3⟩:=T.ex;have n1:yL≠l:=fun z=>by rw[z] at e1;exact (h _ e1).2 ps rfl
 refine⟨ps,by rw[zg n1];exact e1,e2,fun pos cv hc=>?_⟩;obtain⟨c,rfl,e4⟩:=e3 pos cv hc;have n2:c≠l:=fun z=>by subst z;exact (h _ e4).1 rfl
 exact⟨c,rfl,by rw[zg n2];exact e4⟩
theorem cp {ps:Array Value}:∀ts,HO.tbl ps≠HO.tup ts:=fun _ z=>by cases z
theorem oI {H:Hp}{x:Addr}(T:TabAt H)(h:qT x):∃o,H x=some o/\(∀ts,o≠.tup ts)/\∀xs,o≠.lst xs:=by
 obtain⟨ps,e1,_⟩:=T.ex;exact⟨_,by rw[h];exact e1,cp,fun _ z=>by cases z⟩
theorem pG {H:Hp}{l:Addr}{xs:List V}(h:H l=some (.lst xs)):Plain H l:=fun o e=>by
 rw[h] at e;cases e;exact⟨(fun z=>by cases z),fun ps z=>by cases z⟩
theorem qI {H:Hp}{l:Addr}{xs:List (Key×V)}(h:H l=some (.dK xs)):Plain H l:=fun o e=>by
 rw[h] at e;cases e;exact⟨(fun z=>by cases z),fun ps z=>by cases z⟩
theorem dS {H:Hp}{l C dx:Addr}{fs:List (Str×V)}(h:H l=some (.ins C dx fs)):Plain H l:=fun o e=>by
 rw[h] at e;cases e;exact⟨(fun z=>by cases z),fun ps z=>by cases z⟩
theorem lH {H:Hp}{l:Addr}(T:TabAt H)(h:H l=none):¬qT l:=fun z=>by
 obtain⟨o,e,_⟩:=oI T z;rw[h] at e;cases e
theorem zr6 {H H':Hp}{t b:Addr}{xs ys:List V}(T:TabAt H)(ht:H t=some (.lst xs))(hb:H b=some (.lst ys))(off:oC t b H H'):TabAt H':=rY T fun a o no e=>by
 have n1:a≠t:=fun z=>by rw[z,ht] at e;cases e;exact no _ rfl
 have n2:a≠b:=fun z=>by rw[z,hb] at e;cases e;exact no _ rfl
 rw[off a n1 n2];exact e
theorem zc4 {H H':Hp}(T:TabAt H)(h:zB H H'):TabAt H':=rY T fun a o _ e=>h a o e
def mQ (K:PySem.W.Frag):Sp:=fun vs H Q _=>∃(a:Addr) (ns:List Int),vs=[.ref a]/\SqL K H a (ns.map V.int)/\ns.length<=63/\TabAt H/\∀H',Q (.bl true) H'
structure zB9 (mg:Str->Option Value):Prop where
 abs:mg "abs"=none
 list:mg "list"=none
 len:mg "len"=none
theorem zt7 (d:PyData):pk "int" d=some (isInt d):=by unfold pk;rw[if_pos rfl]
theorem qH (d:PyData):pk "bool" d=some (isBool d):=by unfold pk;rw[if_neg (by decide),if_pos rfl]
theorem oj (d:PyData):pk "tuple" d=some (fQ d):=by unfold pk;rw[if_neg (by decide),if_neg (by decide),if_neg (by decide),if_neg (by decide),if_pos rfl]
structure yn (n:Nat)(d:PyData):Prop where
 shw:d.showable=true
 nod:d.hasDict=false
 dep:d.depth<=8
 len:d.shown.length<=n
 lay:d.canLay0=true
theorem yn.mono {m n:Nat}{d:PyData}(h:yn m d)(e:m<=n):yn n d:=⟨h.shw,h.nod,h.dep,z24 h.len e,h.lay⟩
theorem sQ :∀(ts:List Str) (k:Nat) (acc:Str),(textFrom k acc ts).length<=acc.length+piled ts
 |[],_,acc=>by rw[piled_nil];exact zW9 _
 |t::r,k,acc=>by
  have h:=sQ r (k+1) (acc++(if k > 0 then ", " else "":String)++t);rw[piled_cons];have e2:(Str.ofString (if k > 0 then ", " else "":String)).length<=2:=by
   split
   ·exact yd1 rfl
   ·exact zY8 _
  have e3:=yc5 (acc++Str.ofString (if k > 0 then ", " else "":String)) t;have e4:=yc5 acc (Str.ofString (if k > 0 then ", " else "":String));show (textFrom (k+1) (acc++Str.ofString (if k > 0 then ", " else "":String)++t) r).length<=_;have h':(textFrom (k+1) (acc++Str.ofString (if k > 0 then ", " else "":String)++t) r).length<=(acc++Str.ofString (if k > 0 then ", " else "":String)++t).length+piled r:=h;omega
theorem kn (ts:List Str):(listText ts).length<=piled ts+2:=by
 unfold listText;rw[yc5];have h:=sQ ts 0 (Str.ofString "[");have e1:(Str.ofString "[").length=1:=rfl;have e2:(Str.ofString "]").length=1:=rfl;show (textFrom 0 (Str.ofString "[") ts).length+(Str.ofString "]").length<=_;omega
theorem nP (ts:List Str):(tupleText ts).length<=piled ts+3:=by
 cases ts with
 |nil=>decide +kernel
 |cons t r=>
  have h:=join_length_add (t::r) (by simp);unfold tupleText;rw[yc5,yc5];have e1:(Str.ofString "(").length=1:=rfl;have e2:(Str.ofString (if (t::r).length == 1 then ",)" else ")":String)).length<=2:=by
   split
   ·exact yd1 rfl
   ·exact z48 (show 1<2 by decide)
  show (Str.ofString "(").length+(Str.join ", " (t::r)).length+(Str.ofString (if (t::r).length == 1 then ",)" else ")":String)).length<=_;omega
theorem vT {n:Nat}:∀(ds:List PyData),(∀d∈ds,yn n d)->piled (PyData.shownAll ds)<=ds.length*(n+2)
 |[],_=>zY8 _
 |d::r,h=>by
  have h1:=(h d zX7).len;have h2:=vT r fun e he=>h e (zX3 _ he);show piled (d.shown::PyData.shownAll r)<=_;rw[piled_cons,zX9,Nat.succ_mul];omega
structure yy (n:Nat)(ds:List PyData):Prop where
 all:∀d∈ds,yn n d
 dep:∀d∈ds,d.depth<=7
theorem yy.parts {n:Nat}:∀{ds:List PyData},yy n ds->PyData.showableAll ds=true/\PyData.hasDictAll ds=false/\PyData.depthAll ds<=7/\PyData.canLayAll0 ds=true
 |[],_=>⟨rfl,rfl,zY8 _,rfl⟩
 |d::r,h=>by
  obtain⟨a,b,c,e⟩:=yy.parts (ds:=r) ⟨fun x hx=>h.all x (zX3 _ hx),fun x hx=>h.dep x (zX3 _ hx)⟩;have hd:=h.all d zX7;have hp:=h.dep d zX7;refine⟨?_,?_,?_,?_⟩
  ·simp only[PyData.showableAll,hd.shw,a,ye6]
  ·simp only[PyData.hasDictAll,hd.nod,b,Bool.or_self]
  ·simp only[PyData.depthAll];omega
  ·simp only[PyData.canLayAll0,hd.lay,e,ye6]
theorem yn.list {n m:Nat}{ds:List PyData}(h:yy n ds)(e:ds.length*(n+2)+2<=m):yn m (.list ds):=by
 obtain⟨a,b,c,f⟩:=h.parts;refine⟨by simp only[PyData.showable,a],by simp only[PyData.hasDict,b],by simp only[PyData.depth];omega,?_,by simp only[PyData.canLay0,f]⟩;show (listText (PyData.shownAll ds)).length<=m;have h1:=kn (PyData.shownAll ds);have h2:=vT ds h.all;omega
theorem yn.tuple {n m:Nat}{ds:List PyData}(h:yy n ds)(e:ds.length*(n+2)+3<=m):yn m (.tuple ds):=by
 obtain⟨a,b,c,f⟩:=h.parts;refine⟨by simp only[PyData.showable,a],by simp only[PyData.hasDict,b],by simp only[PyData.depth];omega,?_,by simp only[PyData.canLay0,f]⟩;show (tupleText (PyData.shownAll ds)).length<=m;have h1:=nP (PyData.shownAll ds);have h2:=vT ds h.all;omega
theorem zi8 {i:Int}(h0:-big<i)(h1:i<big):i.natAbs.log2<1920:=by
 by_cases hn:i.natAbs=0
 ·rw[hn];decide
 ·have h2:i.natAbs<2 ^ 256:=by
   have e:(2:Nat) ^ 256=115792089237316195423570985008687907853269984665640564039457584007913129639936:=by decide +kernel
   rw[e];unfold big at h0 h1;omega
  have h3:i.natAbs.log2<256:=(Nat.log2_lt hn).mpr h2;omega
theorem yn.int {i:Int}(h0:-big<i)(h1:i<big):yn 2000 (.int i):=by
 have hl:=zi8 h0 h1;refine⟨by simp only[PyData.showable,zZ5];exact hl,rfl,zY8 _,?_,rfl⟩;have:=int_text_len_1921 hl;show (Str.ofString (toString i)).length<=2000;omega
theorem yn.none :yn 2000 .none:=⟨rfl,rfl,zY8 _,by decide +kernel,rfl⟩
theorem yn.bool (b:Bool):yn 2000 (.bool b):=⟨rfl,rfl,zY8 _,by cases b<;>decide +kernel,rfl⟩
theorem yn.shaped {n:Nat}{d:PyData}(h:yn n d):SeqAt.shaped d=true:=by
 unfold SeqAt.shaped;rw[h.lay,z03,zZ5];have:=h.dep;omega
section
variable {X:Cx}
theorem pY {s:Shared}{h':Heap}{o:Obj}{q:Addr}(hq:q=s.heap.objs.size)(hk:∀b x,b∉[q]->(s.heap.push o).get? b=some x->h'.get? b=some x):∀b x,s.heap.get? b=some x->h'.get? b=some x:=fun b x e=>by
 refine hk b x (fun hm=>?_) (zW5 _ e);have e2:b=q:=by simpa using hm
 rw[e2,hq] at e;exact z35 _ (zX2 e)
theorem bh (hc:X.calm=true):xK X (.builtin "all") (fun xs H Q=>∃(p:Addr) (bs:List Bool),xs=[.ref p]/\H p=some (.lst (bs.map V.bl))/\Q (.bl (bs.all id)) H):=by
 intro pins s σ H xs us Q I r h;obtain⟨p,bs,rfl,hp,q⟩:=h;obtain⟨u,rfl,rx⟩:=Vals.one r;cases (show u=Value.ref p from rx);obtain⟨its,rv,pl,hz⟩:=I.list (SqL.of hp);have hB:=lW rv;have hL:=pl.isList;have hlt:p<s.heap.objs.size:=I.hok.lt hp;refine call_all_walk (z51 hL ⟨s.heap.objs.size,[s.heap.objs.size,p],[s.heap.objs.size],its.toArray.size,_,_,fun i=>(bs[i]?).getD true,rfl,
  Walks.list (A:=X.A.in1) (I.ok.hd hc) _ p (zY4 hlt) its.toArray,⟨⟨_,zX4 _ rfl,rfl,rfl⟩,hL.push _⟩,fun i v s' Q' E' hP hQ=>?_,fun h' tk hk=>?_⟩)
 ·obtain⟨b,eb,rfl⟩:=hB.get i v (by simpa using hP);dsimp only at hQ;rw[eb] at hQ;exact z09 hQ
 ·have ee:((List.range its.toArray.size).all fun i=>(bs[i]?).getD true)=bs.all id:=by
   rw[zX8,hB.length];exact LSm.range_all bs
  rw[ee];exact⟨.bl _,H,I.kept (t':=tk) (pY rfl hk),rfl,q⟩
theorem dW (hc:X.calm=true):xK X (.builtin "any") (fun xs H Q=>∃(p:Addr) (bs:List Bool),xs=[.ref p]/\H p=some (.lst (bs.map V.bl))/\Q (.bl (bs.any id)) H):=by
 intro pins s σ H xs us Q I r h;obtain⟨p,bs,rfl,hp,q⟩:=h;obtain⟨u,rfl,rx⟩:=Vals.one r;cases (show u=Value.ref p from rx);obtain⟨its,rv,pl,hz⟩:=I.list (SqL.of hp);have hB:=lW rv;have hL:=pl.isList;have hlt:p<s.heap.objs.size:=I.hok.lt hp;refine call_any_walk (z51 hL ⟨s.heap.objs.size,[s.heap.objs.size,p],[s.heap.objs.size],its.toArray.size,_,_,fun i=>(bs[i]?).getD false,rfl,
  Walks.list (A:=X.A.in1) (I.ok.hd hc) _ p (zY4 hlt) its.toArray,⟨⟨_,zX4 _ rfl,rfl,rfl⟩,hL.push _⟩,fun i v s' Q' E' hP hQ=>?_,fun h' tk hk=>?_⟩)
 ·obtain⟨b,eb,rfl⟩:=hB.get i v (by simpa using hP);dsimp only at hQ;rw[eb] at hQ;exact z09 hQ
 ·have ee:((List.range its.toArray.size).any fun i=>(bs[i]?).getD false)=bs.any id:=by
   rw[zX8,hB.length];exact LSm.range_any bs
  rw[ee];exact⟨.bl _,H,I.kept (t':=tk) (pY rfl hk),rfl,q⟩
end
noncomputable def jA :PyData->Bool
 |.int _=>true
 |_=>false
noncomputable def yv (lo hi:Int):PyData->Bool
 |.int i=>decide (lo<=i)&&decide (i<=hi)
 |_=>false
noncomputable def pairD :PyData->Bool
 |.tuple ds=>decide ((ds.length:Int)=2)
 |_=>false
noncomputable abbrev tI :PyData->Bool:=yv 0 1000000
noncomputable def qA :PyData->Bool
 |.tuple [a,b]=>tI a&&tI b
 |_=>false
noncomputable def pA :PyData->Option Int
 |.tuple [.int a,.int b]=>if tI (.int a)&&tI (.int b) then some (b-a) else none
 |_=>none
noncomputable def yD (d:PyData):Bool:=match pA d with
 |some k=>decide (0<=k)
 |none=>false
theorem dA (d:PyData):jA d=(isInt d&&!isBool d):=by cases d<;>rfl
theorem sU {d:PyData}(h:pairD d=true):∃a b,d=.tuple [a,b]:=by
 cases d with
 |tuple ds=>
  have h':(ds.length:Int)=2:=z21 h
  match ds,h' with
  |[a,b],_=>exact⟨a,b,rfl⟩
  |[],z=>simp at z
  |[_],z=>simp at z
  |_::_::_::_,z=>simp at z;omega
 |_=>cases h
theorem rV (d:PyData):qA d=(pA d).isSome:=by
 unfold qA pA;split
 ·rename_i a b;cases a with
  |int i=>
   cases b with
   |int j=>
    show (tI (.int i)&&tI (.int j))=_;cases e:(tI (.int i)&&tI (.int j))<;>simp[e]
   |_=>simp[yv]
  |_=>simp[yv]
 ·rename_i h;split
  ·rename_i a b;exact absurd rfl (h (.int a) (.int b))
  ·rfl
theorem jQ {d:PyData}(h:qA d=true):∃a b:Int,d=.tuple [.int a,.int b]/\pA d=some (b-a):=by
 rw[rV] at h;unfold pA at h ⊢;split at h
 ·rename_i a b;split at h
  ·rename_i hc;exact⟨a,b,rfl,by simp[hc]⟩
  ·cases h
 ·cases h
def xk (g:PyData->Bool):Sp:=fun vs H Q _=>∃x d,vs=[x]/\DV H x d/\Q (.bl (g d)) H
def vW :Sp:=fun vs H Q _=>∃x d lo hi,vs=[x,.int lo,.int hi]/\DV H x d/\Q (.bl (yv lo hi d)) H
theorem zo5 {n:Nat}:decide (V.int (n:Int)=V.int 2)=decide ((n:Int)=2):=by simp
noncomputable def sub (p:Addr->Prop)(H:Hp):Hp:=fun a=>open Classical in if p a then H a else none
theorem zi {p:Addr->Prop}{H:Hp}{a:Addr}{o:HO}(h:sub p H a=some o):p a/\H a=some o:=by
 unfold sub at h;split at h
 ·rename_i hp;exact⟨hp,h⟩
 ·cases h
theorem zH {p:Addr->Prop}{H:Hp}{a:Addr}{o:HO}(hp:p a)(h:H a=some o):sub p H a=some o:=by
 unfold sub;rw[if_pos hp];exact h
theorem zz {p q:Addr->Prop}{H H':Hp}(h:∀a o,p a->H a=some o->q a/\H' a=some o):zB (sub p H) (sub q H'):=fun a o e=>by
 obtain⟨hp,he⟩:=zi e;obtain⟨hq,he'⟩:=h a o hp he;exact zH hq he'
theorem xZ {p:Addr->Prop}{H:Hp}:zB (sub p H) H:=fun _ _ e=>(zi e).2
theorem yy.snoc {n:Nat}{ds:List PyData}{d:PyData}(h:yy n ds)(hd:yn n d)(hp:d.depth<=7):yy n (ds++[d]):=
 ⟨fun e he=>(z20.mp he).elim (h.all e) fun z=>by rw[zX5.mp z];exact hd,fun e he=>(z20.mp he).elim (h.dep e) fun z=>by rw[zX5.mp z];exact hp⟩
theorem yy.nil {n:Nat}:yy n []:=⟨fun d hd=>by simp at hd,fun d hd=>by simp at hd⟩
theorem yy.two {n:Nat}{d e:PyData}(hd:yn n d)(he:yn n e)(h1:d.depth<=7)(h2:e.depth<=7):yy n [d,e]:=(yy.nil.snoc hd h1).snoc he h2
section
variable {X:Cx}{e:Expr}{es:List Expr}
def tf (X:Cx)(e:Expr):TE:=fun σ H Q=>∃t,PE X e t/\t σ H Q
theorem zj :PE X e (tf X e):=fun pins s σ H Q I ⟨t,p,q⟩=>p pins s σ H Q I q
def zO6 (X:Cx)(e:Expr):TT:=fun σ H Q=>∃t,PT X e t/\t σ H Q
theorem xJ :PT X e (zO6 X e):=fun pins s σ H Q I ⟨t,p,q⟩=>p pins s σ H Q I q
def zD8 (X:Cx)(es:List Expr):TA:=fun σ H Q=>∃t,PA X es t/\t σ H Q
theorem xh :PA X es (zD8 X es):=fun pos pins s σ H Q I ⟨t,p,q⟩=>p pos pins s σ H Q I q
end
noncomputable def vj :Key->PyData
 |.inl i=>.int i
 |.inr x=>.str x
noncomputable def xcO (a C:Addr)(d:Option Addr):HO:=.ext fun h=>∃o vs,h.get? a=some o/\o.cls=.ref C/\o.dict=d/\o.data=.fields vs
mutual
inductive AV (H:Hp):V->PyData->Prop where
 |non:AV H .non .none
 |bl (b:Bool):AV H (.bl b) (.bool b)
 |int (i:Int):AV H (.int i) (.int i)
 |str (x:Str):AV H (.str x) (.str x)
 |lst {a:Addr} {xs:List V} {ds:List PyData}:H a=some (.lst xs)->AVs H xs ds->AV H (.ref a) (.list ds)
 |tup {a:Addr} {xs:List V} {ds:List PyData}:H a=some (.tup xs)->AVs H xs ds->AV H (.ref a) (.tuple ds)
 |ins {a C dx:Addr} {fs:List (Str×V)} {ds:List (PyData×PyData)}:H a=some (.ins C dx fs)->AVf H fs ds->AV H (.ref a) (.dict ((.int (C:Nat),.none)::ds))
 |dk {a:Addr} {o:Obj} {kvs:List (Key×V)} {ds:List (PyData×PyData)}:H a=some (.frz o (.dK kvs))->AVk H kvs ds->AV H (.ref a) (.dict ((.none,.none)::ds))
 |dt {a:Addr} {o:Obj} {kvs:List (List Key×V)} {ds:List (PyData×PyData)}:H a=some (.frz o (.dT kvs))->AVt H kvs ds->AV H (.ref a) (.dict ((.none,.bool true)::ds))
 |xc {a C dx:Addr} {fs:List (Str×V)} {ds:List (PyData×PyData)}:H a=some (xcO a C (some dx))->H dx=some (.xd fs)->AVf H fs ds->AV H (.ref a) (.dict ((.int (C:Nat),.bool true)::ds))
 |xn {a C:Addr}:H a=some (xcO a C none)->AV H (.ref a) (.dict [(.int (C:Nat),.bool false)])
inductive AVs (H:Hp):List V->List PyData->Prop where
 |nil:AVs H [] []
 |cons {x:V} {xs:List V} {d:PyData} {ds:List PyData}:AV H x d->AVs H xs ds->AVs H (x::xs) (d::ds)
inductive AVf (H:Hp):List (Str×V)->List (PyData×PyData)->Prop where
 |nil:AVf H [] []
 |cons {f:Str} {x:V} {fs:List (Str×V)} {d:PyData} {ds:List (PyData×PyData)}:AV H x d->AVf H fs ds->AVf H ((f,x)::fs) ((.str f,d)::ds)
inductive AVk (H:Hp):List (Key×V)->List (PyData×PyData)->Prop where
 |nil:AVk H [] []
 |cons {k:Key} {x:V} {fs:List (Key×V)} {d:PyData} {ds:List (PyData×PyData)}:AV H x d->AVk H fs ds->AVk H ((k,x)::fs) ((vj k,d)::ds)
inductive AVt (H:Hp):List (List Key×V)->List (PyData×PyData)->Prop where
 |nil:AVt H [] []
 |cons {k:List Key} {x:V} {fs:List (List Key×V)} {d:PyData} {ds:List (PyData×PyData)}:AV H x d->AVt H fs ds->AVt H ((k,x)::fs) ((.tuple (k.map vj),d)::ds)
end
mutual
theorem AV.same {H H':Hp}(e:zB H H'):∀{x:V} {d:PyData},AV H x d->AV H' x d
 |_,_,.non=>.non
 |_,_,.bl b=>.bl b
 |_,_,.int i=>.int i
 |_,_,.str x=>.str x
 |_,_,.lst hq hs=>.lst (e _ _ hq) (AVs.same e hs)
 |_,_,.tup hq hs=>.tup (e _ _ hq) (AVs.same e hs)
 |_,_,.ins hq hs=>.ins (e _ _ hq) (AVf.same e hs)
 |_,_,.dk hq hs=>.dk (e _ _ hq) (AVk.same e hs)
 |_,_,.dt hq hs=>.dt (e _ _ hq) (AVt.same e hs)
 |_,_,.xc hq hd hs=>.xc (e _ _ hq) (e _ _ hd) (AVf.same e hs)
 |_,_,.xn hq=>.xn (e _ _ hq)
theorem AVs.same {H H':Hp}(e:zB H H'):∀{xs:List V} {ds:List PyData},AVs H xs ds->AVs H' xs ds
 |_,_,.nil=>.nil
 |_,_,.cons h hs=>.cons (AV.same e h) (AVs.same e hs)
theorem AVf.same {H H':Hp}(e:zB H H'):∀{fs:List (Str×V)} {ds:List (PyData×PyData)},AVf H fs ds->AVf H' fs ds
 |_,_,.nil=>.nil
 |_,_,.cons h hs=>.cons (AV.same e h) (AVf.same e hs)
theorem AVk.same {H H':Hp}(e:zB H H'):∀{fs:List (Key×V)} {ds:List (PyData×PyData)},AVk H fs ds->AVk H' fs ds
 |_,_,.nil=>.nil
 |_,_,.cons h hs=>.cons (AV.same e h) (AVk.same e hs)
theorem AVt.same {H H':Hp}(e:zB H H'):∀{fs:List (List Key×V)} {ds:List (PyData×PyData)},AVt H fs ds->AVt H' fs ds
 |_,_,.nil=>.nil
 |_,_,.cons h hs=>.cons (AV.same e h) (AVt.same e hs)
end
mutual
theorem AV.dv {H:Hp}:∀{x:V} {d:PyData},AV H x d->d.hasDict=false->DV H x d
 |_,_,.non,_=>.non
 |_,_,.bl b,_=>.bl b
 |_,_,.int i,_=>.int i
 |_,_,.str x,_=>.str x
 |_,_,.lst hq hs,h=>.lst hq (AVs.dv hs (by simpa only[PyData.hasDict] using h))
 |_,_,.tup hq hs,h=>.tup hq (AVs.dv hs (by simpa only[PyData.hasDict] using h))
 |_,_,.ins hq hs,h=>by simp[PyData.hasDict] at h
 |_,_,.dk hq hs,h=>by simp[PyData.hasDict] at h
 |_,_,.dt hq hs,h=>by simp[PyData.hasDict] at h
 |_,_,.xc hq _ hs,h=>by simp[PyData.hasDict] at h
 |_,_,.xn hq,h=>by simp[PyData.hasDict] at h
theorem AVs.dv {H:Hp}:∀{xs:List V} {ds:List PyData},AVs H xs ds->PyData.hasDictAll ds=false->DVs H xs ds
 |_,_,.nil,_=>.nil
 |_,_,.cons h hs,e=>by
  simp only[PyData.hasDictAll,Bool.or_eq_false_iff] at e;exact .cons (AV.dv h e.1) (AVs.dv hs e.2)
end
mutual
theorem DV.av {H:Hp}:∀{x:V} {d:PyData},DV H x d->AV H x d
 |_,_,.non=>.non
 |_,_,.bl b=>.bl b
 |_,_,.int i=>.int i
 |_,_,.str x=>.str x
 |_,_,.lst hq hs=>.lst hq (DVs.av hs)
 |_,_,.tup hq hs=>.tup hq (DVs.av hs)
theorem DVs.av {H:Hp}:∀{xs:List V} {ds:List PyData},DVs H xs ds->AVs H xs ds
 |_,_,.nil=>.nil
 |_,_,.cons h hs=>.cons (DV.av h) (DVs.av hs)
end
theorem AVs.length {H:Hp}:∀{xs:List V} {ds:List PyData},AVs H xs ds->xs.length=ds.length
 |_,_,.nil=>rfl
 |_,_,.cons _ hs=>by rw[zX9,zX9,AVs.length hs]
theorem AVs.append {H:Hp}:∀{xs ys:List V} {ds es:List PyData},AVs H xs ds->AVs H ys es->AVs H (xs++ys) (ds++es)
 |_,_,_,_,.nil,h=>h
 |_,_,_,_,.cons a r,h=>.cons a (AVs.append r h)
theorem AVs.get {H:Hp}:∀{xs:List V} {ds:List PyData} {i:Nat} {d:PyData},AVs H xs ds->ds[i]?=some d->∃x,xs[i]?=some x/\AV H x d
 |_,_,_,_,.nil,e=>by simp at e
 |_,_,0,_,.cons a _,e=>by simp at e;subst e;exact⟨_,rfl,a⟩
 |_,_,i+1,d,.cons _ r,e=>by
  obtain⟨x,h1,h2⟩:=AVs.get (i:=i) (d:=d) r (by simpa using e);exact⟨x,by simpa using h1,h2⟩
theorem AVs.take {H:Hp}:∀{xs:List V} {ds:List PyData} (n:Nat),AVs H xs ds->AVs H (xs.take n) (ds.take n)
 |_,_,0,_=>.nil
 |_,_,_+1,.nil=>.nil
 |_,_,n+1,.cons a r=>.cons a (AVs.take n r)
theorem AVs.drop {H:Hp}:∀{xs:List V} {ds:List PyData} (n:Nat),AVs H xs ds->AVs H (xs.drop n) (ds.drop n)
 |_,_,0,r=>r
 |_,_,_+1,.nil=>.nil
 |_,_,n+1,.cons _ r=>AVs.drop n r
theorem AVs.set {H:Hp}{x:V}{d:PyData}(a:AV H x d):∀{xs:List V} {ds:List PyData} (i:Nat),AVs H xs ds->AVs H (xs.set i x) (ds.set i d)
 |_,_,_,.nil=>.nil
 |_,_,0,.cons _ r=>.cons a r
 |_,_,i+1,.cons q r=>.cons q (AVs.set a i r)
theorem AVs.atI {H:Hp}{xs:List V}{ds:List PyData}{i:Int}{d:PyData}(h:AVs H xs ds)(e:atI ds i=some d):∃x,L2.atI xs i=some x/\AV H x d:=by
 unfold L2.atI at e ⊢;rw[h.length];cases q:ixN ds.length i with
 |none=>rw[q] at e;cases e
 |some j=>
  rw[q] at e;exact h.get (i:=j) e
noncomputable def cutD (ds:List PyData)(lo hi:Option Int):List PyData:=(ds.drop (HT.sIx ds.length 0 lo)).take (HT.sIx ds.length ds.length hi-HT.sIx ds.length 0 lo)
theorem AVs.cut {H:Hp}{xs:List V}{ds:List PyData}(h:AVs H xs ds)(lo hi:Option Int):AVs H (mx xs lo hi) (cutD ds lo hi):=by
 unfold mx cutD;rw[h.length];exact (h.drop _).take _
mutual
noncomputable def noL :PyData->Bool
 |.list _=>false
 |.dict ((.none,_)::_)=>false
 |.dict kvs=>je kvs
 |.tuple ds=>ur ds
 |_=>true
noncomputable def ur :List PyData->Bool
 |[]=>true
 |d::r=>noL d&&ur r
noncomputable def je :List (PyData×PyData)->Bool
 |[]=>true
 |(_,d)::r=>noL d&&je r
end
def Ob :HO->Prop
 |.lst _=>True
 |.dK _=>True
 |.frz _ _=>True
 |_=>False
mutual
theorem AV.noL {H H':Hp}(e:∀a o,¬Ob o->H a=some o->H' a=some o):∀{x:V} {d:PyData},AV H x d->noL d=true->AV H' x d
 |_,_,.non,_=>.non
 |_,_,.bl b,_=>.bl b
 |_,_,.int i,_=>.int i
 |_,_,.str x,_=>.str x
 |_,_,.lst _ _,h=>by simp[L2.noL] at h
 |_,_,.tup hq hs,h=>.tup (e _ _ (fun z=>z) hq) (AVs.noL e hs (by simpa only[L2.noL] using h))
 |_,_,.ins hq hs,h=>.ins (e _ _ (fun z=>z) hq) (AVf.noL e hs (by simpa[L2.noL,L2.je] using h))
 |_,_,.dk _ _,h=>by simp[L2.noL] at h
 |_,_,.dt _ _,h=>by simp[L2.noL] at h
 |_,_,.xc hq hd hs,h=>.xc (e _ _ (fun z=>z) hq) (e _ _ (fun z=>z) hd) (AVf.noL e hs (by simpa[L2.noL,L2.je] using h))
 |_,_,.xn hq,h=>.xn (e _ _ (fun z=>z) hq)
theorem AVs.noL {H H':Hp}(e:∀a o,¬Ob o->H a=some o->H' a=some o):∀{xs:List V} {ds:List PyData},AVs H xs ds->ur ds=true->AVs H' xs ds
 |_,_,.nil,_=>.nil
 |_,_,.cons h hs,q=>by
  simp only[L2.ur,zY7] at q;exact .cons (AV.noL e h q.1) (AVs.noL e hs q.2)
theorem AVf.noL {H H':Hp}(e:∀a o,¬Ob o->H a=some o->H' a=some o):∀{fs:List (Str×V)} {ds:List (PyData×PyData)},AVf H fs ds->je ds=true->AVf H' fs ds
 |_,_,.nil,_=>.nil
 |_,_,.cons h hs,q=>by
  simp only[L2.je,zY7] at q;exact .cons (AV.noL e h q.1) (AVf.noL e hs q.2)
end
structure Fr where
 H0:Hp
 O0:Addr->Prop
 tp:Option (Addr×Addr×Addr)
inductive A where
 |dat (d:PyData)
 |ow (c:PyData)
 |deep (d:PyData) (S:Addr->Prop)
 |tape
 |at (l:Addr)
 |exc (r:Fr) (q:PyData->Prop)
 |pin (l:Addr) (vs:List V) (ds:List PyData)
@[reducible] noncomputable def A.own (ds:List PyData):A:=.ow (.list ds)
noncomputable abbrev yP (ds:List (PyData×PyData)):PyData:=.dict ((.none,.none)::ds)
@[reducible] noncomputable def A.dic (ds:List (PyData×PyData)):A:=.ow (yP ds)
abbrev Ev :=List (Option A)
def vG (o:HO):Prop:=∀ts,o≠.tup ts
theorem xH {xs:List V}:vG (.lst xs):=fun _ z=>by cases z
theorem Ob.notup {o:HO}(h:Ob o):vG o:=fun ts z=>by subst z;exact h
def NT (F:Fr)(x:Addr):Prop:=(∀t b c,F.tp=some (t,b,c)->x≠t/\x≠b)/\¬qT x
def Kz (F:Fr)(H H':Hp):Prop:=∀x o,H x=some o->NT F x->H' x=some o
structure zR (F:Fr)(H:Hp):Prop where
 tab:TabAt H
 ot:∀x,qT x->F.O0 x
 all:∀t b c,F.tp=some (t,b,c)->yZ H t b c/\F.O0 t/\F.O0 b/\F.O0 c
instance {F:Fr} {H:Hp}:CoeFun (zR F H) (fun _=>∀t b c,F.tp=some (t,b,c)->yZ H t b c/\F.O0 t/\F.O0 b/\F.O0 c):=⟨zR.all⟩
theorem zR.to {F F':Fr}{H:Hp}(t:zR F H)(hp:F'.tp=F.tp)(ho:∀x,F.O0 x->F'.O0 x):zR F' H:=⟨t.tab,fun x h=>ho x (t.ot x h),fun a b c e=>by
 obtain⟨h1,h2,h3,h4⟩:=t a b c (hp▸e);exact⟨h1,ho _ h2,ho _ h3,ho _ h4⟩⟩
theorem zR.re {F F':Fr}{H H':Hp}(t:zR F H)(t':zR F' H')(hp:F'.tp=F.tp):zR F H':=⟨t'.tab,t.ot,fun a b c e=>⟨(t' a b c (hp▸e)).1,(t a b c e).2⟩⟩
theorem zR.upd {F:Fr}{H:Hp}{l:Addr}{o:HO}(t:zR F H)(h:∀a b c,F.tp=some (a,b,c)->l≠a/\l≠b/\l≠c)(hp:Plain H l):zR F (upd H l o):=⟨zv0 t.tab hp,t.ot,fun a b c e=>⟨zk0 (t a b c e).1 (h a b c e),(t a b c e).2⟩⟩
theorem zR.updO {F:Fr}{H:Hp}{l:Addr}{o:HO}(t:zR F H)(h:¬F.O0 l)(hp:Plain H l):zR F (L2.upd H l o):=t.upd (fun a b c e=>⟨fun z=>h (by rw[z];exact (t a b c e).2.1),fun z=>h (by rw[z];exact (t a b c e).2.2.1),fun z=>h (by rw[z];exact (t a b c e).2.2.2)⟩) hp
def foot (s:Option V):A->Addr->Prop
 |.ow _,x=>s=some (.ref x)
 |.deep _ S,x=>S x
 |_,_=>False
def Ow (F:Fr)(α:Ev)(σ:St)(x:Addr):Prop:=F.O0 x\/∃(i:Nat) (a:A) (s:Option V),α[i]?=some (some a)/\σ[i]?=some s/\foot s a x
noncomputable abbrev Gz (F:Fr)(α:Ev)(σ:St)(H:Hp):Hp:=sub (fun x=>¬Ow F α σ x) H
noncomputable def lX (S:Addr->Prop)(G H:Hp):Hp:=fun x=>open Classical in if S x then H x else match G x with
 |some (.lst _)=>none
 |o=>o
theorem pO {S:Addr->Prop}{G G' H H':Hp}(h:zB G G')(hS:∀x o,S x->H x=some o->H' x=some o):zB (lX S G H) (lX S G' H'):=fun x o e=>by
 unfold lX at e ⊢;by_cases z:S x
 ·rw[if_pos z] at e ⊢;exact hS x o z e
 ·rw[if_neg z] at e ⊢;cases q:G x with
  |none=>rw[q] at e;cases e
  |some u=>
   rw[h _ _ q];rw[q] at e;exact e
theorem aM {S:Addr->Prop}{G H:Hp}{x:Addr}{o:HO}(h:lX S G H x=some o):(S x/\H x=some o)\/(¬S x/\G x=some o):=by
 unfold lX at h;by_cases z:S x
 ·rw[if_pos z] at h;exact .inl ⟨z,h⟩
 ·rw[if_neg z] at h;split at h
  ·cases h
  ·exact .inr ⟨z,h⟩
inductive xm (G:Hp):HO->PyData->Prop where
 |lst {xs:List V} {ds:List PyData}:AVs G xs ds->xm G (.lst xs) (.list ds)
 |dk {kvs:List (Key×V)} {ds:List (PyData×PyData)}:AVk G kvs ds->xm G (.dK kvs) (yP ds)
theorem xm.ob {G:Hp}{o:HO}{c:PyData}(h:xm G o c):Ob o:=by cases h<;>trivial
theorem xm.same {G G':Hp}{o:HO}{c:PyData}(h:xm G o c)(s:zB G G'):xm G' o c:=by
 cases h with
 |lst h=>exact .lst (h.same s)
 |dk h=>exact .dk (h.same s)
theorem xm.av {G:Hp}{o:HO}{ds:List PyData}{l:Addr}(h:xm G o (.list ds))(e:G l=some o):AV G (.ref l) (.list ds):=by
 cases h with
 |lst h=>exact .lst e h
theorem xm.lst_inv {G:Hp}{o:HO}{ds:List PyData}(h:xm G o (.list ds)):∃xs,o=.lst xs/\AVs G xs ds:=by cases h;exact⟨_,rfl,by assumption⟩
theorem xm.dk_inv {G:Hp}{o:HO}{ds:List (PyData×PyData)}(h:xm G o (yP ds)):∃xs,o=.dK xs/\AVk G xs ds:=by cases h;exact⟨_,rfl,by assumption⟩
theorem xm.plain {G H:Hp}{o:HO}{c:PyData}{l:Addr}(h:xm G o c)(e:H l=some o):Plain H l:=by
 cases h with
 |lst h=>exact pG e
 |dk h=>exact qI e
structure Lnk (r F:Fr)(H:Hp):Prop where
 tp:r.tp=F.tp
 o:∀x,r.O0 x->F.O0 x
 ok:zR r H
 k:Kz r r.H0 H
def uO (G:Hp)(F:Fr)(H:Hp)(s:Option V):A->Prop
 |.dat d=>∃v,s=some v/\AV G v d
 |.ow c=>∃l o,s=some (.ref l)/\H l=some o/\xm G o c/\¬F.O0 l/\F.H0 l=none
 |.deep d S=>∃v,s=some v/\AV (lX S G H) v d/\∀x,S x->¬F.O0 x/\F.H0 x=none/\∃xs,H x=some (.lst xs)
 |.tape=>∃t b c,F.tp=some (t,b,c)/\s=some (.ref t)
 |.at l=>s=some (.ref l)
 |.exc r _=>Lnk r F H
 |.pin l vs ds=>s=some (.ref l)/\G l=some (.lst vs)/\AVs G vs ds
structure M (F:Fr)(α:Ev)(σ:St)(H:Hp):Prop where
 len:α.length=σ.length
 ok:∀(i:Nat) (a:A) (s:Option V),α[i]?=some (some a)->σ[i]?=some s->uO (Gz F α σ H) F H s a
 dj:∀(i j:Nat) (a b:A) (s t:Option V) (x:Addr),α[i]?=some (some a)->α[j]?=some (some b)->σ[i]?=some s->σ[j]?=some t->foot s a x->foot t b x->i=j
 xd:∀(i:Nat) (r:Fr) (q:PyData->Prop),α[i]?=some (some (.exc r q))->∀(j:Nat) (a:A) (s:Option V) (x:Addr),α[j]?=some (some a)->σ[j]?=some s->foot s a x->r.H0 x=none
 tp:zR F H
 keep:Kz F F.H0 H
 oex:∀x,F.O0 x->∃o,H x=some o/\vG o
theorem M.at' {F:Fr}{α:Ev}{σ:St}{H:Hp}(m:M F α σ H){i:Nat}{a:Option A}(e:α[i]?=some a):∃s,σ[i]?=some s:=by
 have:i<σ.length:=by rw[<-m.len];exact (zW7.mp e).1
 exact⟨_,zW6 this⟩
theorem nB {G:Hp}{F:Fr}{H:Hp}{s:Option V}{a:A}{x:Addr}(h:uO G F H s a)(f:foot s a x):¬F.O0 x/\F.H0 x=none/\∃o,H x=some o/\Ob o:=by
 cases a with
 |ow c=>
  obtain⟨l,o,h1,h2,h3,h4,h5⟩:=h;have f':s=some (.ref x):=f;rw[f'] at h1;cases h1;exact⟨h4,h5,o,h2,h3.ob⟩
 |deep d S=>
  obtain⟨v,h1,h2,h3⟩:=h;obtain⟨z1,z2,xs,z3⟩:=h3 x f;exact⟨z1,z2,_,z3,trivial⟩
 |dat d=>exact f.elim
 |tape=>exact f.elim
 |«at» l=>exact f.elim
 |exc r q=>exact f.elim
 |pin l vs ds=>exact f.elim
theorem Lnk.kz {r F:Fr}{H H':Hp}(l:Lnk r F H)(k:Kz F H H')(t:zR F H'):Lnk r F H':=⟨l.tp,l.o,l.ok.re t l.tp.symm,fun x o e n=>k x o (l.k x o e n) ⟨fun a b c z=>n.1 a b c (l.tp.trans z),n.2⟩⟩
theorem Lnk.none {r F:Fr}{H:Hp}(l:Lnk r F H){x:Addr}(h:H x=Option.none):r.H0 x=Option.none:=by
 cases q:r.H0 x with
 |none=>rfl
 |some o=>rw[l.k x o q ⟨fun a b c e=>⟨((l.ok a b c e).1.free h).1,((l.ok a b c e).1.free h).2.1⟩,lH l.ok.tab h⟩] at h;cases h
def noX :A->Prop
 |.exc _ _=>False
 |_=>True
theorem uO.stay {G G':Hp}{F F':Fr}{H H':Hp}{s:Option V}{a:A}(h:uO G F H s a)(g:zB G G')(hf:∀x o,foot s a x->H x=some o->H' x=some o/\¬F'.O0 x/\F'.H0 x=none)(hp:F'.tp=F.tp)(hl:∀r q,a=.exc r q->Lnk r F H->Lnk r F' H'):uO G' F' H' s a:=by
 cases a with
 |dat d=>obtain⟨v,h1,h2⟩:=h;exact⟨v,h1,h2.same g⟩
 |ow c=>
  obtain⟨l,o,h1,h2,h3,h4,h5⟩:=h;obtain⟨z1,z2,z3⟩:=hf l o h1 h2;exact⟨l,o,h1,z1,h3.same g,z2,z3⟩
 |deep d S=>
  obtain⟨v,h1,h2,h3⟩:=h;refine⟨v,h1,h2.same (pO g fun x o z e=>(hf x o z e).1),fun x z=>?_⟩;obtain⟨_,_,xs,e⟩:=h3 x z;obtain⟨z1,z2,z3⟩:=hf x _ z e;exact⟨z2,z3,xs,z1⟩
 |tape=>obtain⟨t,b,c,e,z⟩:=h;exact⟨t,b,c,hp.trans e,z⟩
 |«at» l=>exact h
 |exc r q=>exact hl r q rfl h
 |pin l vs ds=>exact⟨h.1,g _ _ h.2.1,h.2.2.same g⟩
section
variable {F:Fr}{α:Ev}{σ:St}{H H' H'':Hp}
theorem M.dat (m:M F α σ H)(i:Nat)(d:PyData)(e:α[i]?=some (some (.dat d))):∃v,σ[i]?=some (some v)/\AV (Gz F α σ H) v d:=by
 obtain⟨s,hs⟩:=m.at' e;obtain⟨v,rfl,h⟩:=m.ok i _ s e hs;exact⟨v,hs,h⟩
theorem M.owc (m:M F α σ H)(i:Nat)(c:PyData)(e:α[i]?=some (some (.ow c))):∃l o,σ[i]?=some (some (.ref l))/\H l=some o/\xm (Gz F α σ H) o c/\¬F.O0 l/\F.H0 l=none:=by
 obtain⟨s,hs⟩:=m.at' e;obtain⟨l,o,rfl,h⟩:=m.ok i _ s e hs;exact⟨l,o,hs,h⟩
theorem M.own (m:M F α σ H)(i:Nat)(ds:List PyData)(e:α[i]?=some (some (.own ds))):∃l xs,σ[i]?=some (some (.ref l))/\H l=some (.lst xs)/\AVs (Gz F α σ H) xs ds/\¬F.O0 l/\F.H0 l=none:=by
 obtain⟨l,o,h1,h2,h3,h4⟩:=m.owc i _ e;obtain⟨xs,rfl,h5⟩:=h3.lst_inv;exact⟨l,xs,h1,h2,h5,h4⟩
theorem M.dic (m:M F α σ H)(i:Nat)(ds:List (PyData×PyData))(e:α[i]?=some (some (.dic ds))):∃l xs,σ[i]?=some (some (.ref l))/\H l=some (.dK xs)/\AVk (Gz F α σ H) xs ds/\¬F.O0 l/\F.H0 l=none:=by
 obtain⟨l,o,h1,h2,h3,h4⟩:=m.owc i _ e;obtain⟨xs,rfl,h5⟩:=h3.dk_inv;exact⟨l,xs,h1,h2,h5,h4⟩
theorem M.tvar (m:M F α σ H)(i:Nat)(e:α[i]?=some (some .tape)):∃t b c,F.tp=some (t,b,c)/\σ[i]?=some (some (.ref t)):=by
 obtain⟨s,hs⟩:=m.at' e;obtain⟨t,b,c,h,rfl⟩:=m.ok i _ s e hs;exact⟨t,b,c,h,hs⟩
theorem M.lnk (m:M F α σ H){i:Nat}{r:Fr}{q:PyData->Prop}(e:α[i]?=some (some (.exc r q))):Lnk r F H:=by
 obtain⟨s,hs⟩:=m.at' e;exact m.ok i _ s e hs
theorem Kz.refl :Kz F H H:=fun _ _ e _=>e
theorem Kz.trans (h:Kz F H H')(k:Kz F H' H''):Kz F H H'':=fun x o e n=>k x o (h x o e n) n
theorem Kz.of_same (h:zB H H'):Kz F H H':=fun x o e _=>h x o e
theorem zR.same (t:zR F H)(h:zB H H'):zR F H':=⟨zc4 t.tab h,t.ot,fun a b c e=>⟨eX (t a b c e).1 h,(t a b c e).2⟩⟩
theorem zR.nt (t:zR F H){x:Addr}(h:¬F.O0 x):NT F x:=⟨fun a b c e=>⟨fun z=>h (z▸(t a b c e).2.1),fun z=>h (z▸(t a b c e).2.2.1)⟩,fun z=>h (t.ot x z)⟩
theorem ow0 {x:Addr}(h:¬Ow F α σ x):¬F.O0 x:=fun z=>h (.inl z)
theorem Kz.gz (k:Kz F H H')(t:zR F H):zB (Gz F α σ H) (Gz F α σ H'):=zz fun a o h e=>⟨h,k a o e (t.nt (ow0 h))⟩
theorem M.oex' (t:zR F H')(k:Kz F H H')(h:∀x,F.O0 x->∃o,H x=some o/\vG o):∀x,F.O0 x->∃o,H' x=some o/\vG o:=fun x hx=>by
 by_cases n:NT F x
 ·obtain⟨o,ho,hn⟩:=h x hx;exact⟨o,k _ _ ho n,hn⟩
 ·by_cases z:qT x
  ·obtain⟨o,ho,hn,_⟩:=oI t.tab z;exact⟨o,ho,hn⟩
  ·have:∃a b c,F.tp=some (a,b,c)/\¬(x≠a/\x≠b):=by
    refine Classical.byContradiction fun q=>n ⟨fun a b c e=>?_,z⟩;exact Classical.byContradiction fun w=>q ⟨a,b,c,e,w⟩
   obtain⟨a,b,c,e,w⟩:=this;obtain⟨n,bs,cs,_,e1,e2,e3,_⟩:=(t a b c e).1.ex;by_cases xa:x=a
   ·exact⟨_,xa▸e1,xH⟩
   ·by_cases xb:x=b
    ·exact⟨_,xb▸e2,xH⟩
    ·exact absurd ⟨xa,xb⟩ w
theorem M.kz (m:M F α σ H)(k:Kz F H H')(t:zR F H'):M F α σ H' where
 len:=m.len
 ok:=fun i a s e1 e2=>(m.ok i a s e1 e2).stay (k.gz m.tp) (fun x o hf e=>by
  obtain⟨h1,h2,_⟩:=nB (m.ok i a s e1 e2) hf;exact⟨k x o e (m.tp.nt h1),h1,h2⟩) rfl fun r _ _ l=>l.kz k t
 dj:=m.dj
 xd:=m.xd
 tp:=t
 keep:=m.keep.trans k
 oex:=M.oex' t k m.oex
theorem M.ft (m:M F α σ H){i:Nat}{a:A}{s:Option V}{x:Addr}(e1:α[i]?=some (some a))(e2:σ[i]?=some s)(f:foot s a x):¬F.O0 x/\F.H0 x=none/\∃o,H x=some o/\Ob o:=nB (m.ok i a s e1 e2) f
theorem M.owEx (m:M F α σ H){x:Addr}(h:Ow F α σ x):∃o,H x=some o/\vG o:=by
 rcases h with z|⟨i,a,s,e1,e2,f⟩
 ·exact m.oex x z
 ·obtain⟨_,_,o,ho,hb⟩:=m.ft e1 e2 f;exact⟨o,ho,hb.notup⟩
theorem M.fresh (m:M F α σ H){l:Addr}(h:H l=none):¬Ow F α σ l:=fun z=>by
 obtain⟨o,ho,_⟩:=m.owEx z;rw[h] at ho;cases ho
theorem M.fresh0 (m:M F α σ H){l:Addr}(h:H l=none):F.H0 l=none:=by
 cases q:F.H0 l with
 |none=>rfl
 |some o=>rw[m.keep l o q (m.tp.nt fun z=>m.fresh h (.inl z))] at h;cases h
theorem M.old (m:M F α σ H):zB (sub (fun x=>¬F.O0 x) F.H0) (Gz F α σ H):=fun a o e=>by
 obtain⟨h1,h2⟩:=zi e;refine zH ?_ (m.keep a o h2 (m.tp.nt h1));rintro (z|⟨i,b,s,e1,e2,f⟩)
 ·exact h1 z
 ·obtain⟨_,z,_⟩:=m.ft e1 e2 f;rw[h2] at z;cases z
noncomputable def Fr.up (F:Fr)(G:Hp):Fr:={F with H0:=fun x=>(F.H0 x).or (G x)}
theorem oX {G:Hp}{x:Addr}{o:HO}(h:F.H0 x=some o):(F.up G).H0 x=some o:=by show (F.H0 x).or (G x)=some o;rw[h];rfl
theorem fF {G:Hp}{x:Addr}(h:(F.up G).H0 x=none):F.H0 x=none:=by
 cases q:F.H0 x with
 |none=>rfl
 |some o=>rw[oX q] at h;cases h
theorem M.up (m:M F α σ H):M (F.up (Gz F α σ H)) α σ H where
 len:=m.len
 ok:=fun i a s e1 e2=>(m.ok i a s e1 e2).stay (fun _ _ e=>e) (fun x o hf e=>by
  obtain⟨h1,h2,_⟩:=m.ft e1 e2 hf;refine⟨e,h1,?_⟩;show (F.H0 x).or (Gz F α σ H x)=none;rw[h2];show Gz F α σ H x=none;cases q:Gz F α σ H x with
  |none=>rfl
  |some o=>exact absurd (.inr ⟨i,a,s,e1,e2,hf⟩) (zi q).1) rfl fun r _ _ l=>⟨l.tp,l.o,l.ok,l.k⟩
 dj:=m.dj
 xd:=m.xd
 tp:=m.tp.to rfl fun _ z=>z
 keep:=fun x o e n=>by
  have e':(F.H0 x).or (Gz F α σ H x)=some o:=e;cases q:F.H0 x with
  |none=>rw[q,Option.none_or] at e';exact (zi e').2
  |some o'=>rw[q] at e';cases e';exact m.keep x _ q n
 oex:=m.oex
theorem M.down {G:Hp}(m:M (F.up G) α σ H):M F α σ H where
 len:=m.len
 ok:=fun i a s e1 e2=>(m.ok i a s e1 e2).stay (fun _ _ e=>e) (fun x o hf e=>by
  obtain⟨h1,h2,_⟩:=m.ft e1 e2 hf;exact⟨e,h1,fF h2⟩) rfl fun r _ _ l=>⟨l.tp,l.o,l.ok,l.k⟩
 dj:=m.dj
 xd:=m.xd
 tp:=m.tp.to rfl fun _ z=>z
 keep:=fun x o e n=>m.keep x o (oX e) n
 oex:=m.oex
theorem M.upold {α0:Ev}{σ0:St}{H1:Hp}(m0:M F α0 σ0 H1)(m:M (F.up (Gz F α0 σ0 H1)) α σ H):zB (Gz F α0 σ0 H1) (Gz F α σ H):=fun a o e=>by
 obtain⟨h1,h2⟩:=zi e;have e0:(F.up (Gz F α0 σ0 H1)).H0 a=some o:=by
  show (F.H0 a).or (Gz F α0 σ0 H1 a)=some o;cases q:F.H0 a with
  |none=>exact e
  |some o'=>
   have:=m0.keep a o' q (m0.tp.nt (ow0 h1));rw[h2] at this;cases this;rfl
 exact m.old a o (zH (p:=fun x=>¬F.O0 x) (ow0 h1) e0)
end
def xD (F:Fr)(α:Ev)(σ:St)(H:Hp)(v:V)(H':Hp)(ds:List PyData):Prop:=
 ∃l xs,v=.ref l/\H l=none/\H' l=some (.lst xs)/\AVs (sub (fun x=>¬Ow F α σ x/\x≠l) H') xs ds
def jk (F:Fr)(α:Ev)(σ:St)(H:Hp)(v:V)(H':Hp)(c:PyData):Prop:=
 ∃l o,v=.ref l/\H l=none/\H' l=some o/\xm (sub (fun x=>¬Ow F α σ x/\x≠l) H') o c
theorem xD.c {F:Fr}{α:Ev}{σ:St}{H H':Hp}{v:V}{ds:List PyData}(h:xD F α σ H v H' ds):jk F α σ H v H' (.list ds):=by
 obtain⟨l,xs,h1,h2,h3,h4⟩:=h;exact⟨l,_,h1,h2,h3,.lst h4⟩
theorem xD.av {F:Fr}{α:Ev}{σ:St}{H H':Hp}{v:V}{ds:List PyData}(m:M F α σ H)(h:xD F α σ H v H' ds):AV (Gz F α σ H') v (.list ds):=by
 obtain⟨l,xs,rfl,h1,h2,h3⟩:=h;exact .lst (zH (m.fresh h1) h2) (h3.same (zz fun a o h e=>⟨h.1,e⟩))
section
variable (X:Cx)(α:Ev)
def EvD (e:Expr)(Q:PyData->Prop):Prop:=∀(F:Fr) (σ:St) (H:Hp) (R:VK),M F α σ H->(∀d v H',Q d->zR F H'->Kz F H H'->AV (Gz F α σ H') v d->R v H')->tf X e σ H R
def EvL (e:Expr)(Q:List PyData->Prop):Prop:=∀(F:Fr) (σ:St) (H:Hp) (R:VK),M F α σ H->(∀ds v H',Q ds->zR F H'->Kz F H H'->xD F α σ H v H' ds->R v H')->tf X e σ H R
def EvC (e:Expr)(Q:PyData->Prop):Prop:=∀(F:Fr) (σ:St) (H:Hp) (R:VK),M F α σ H->(∀c v H',Q c->zR F H'->Kz F H H'->jk F α σ H v H' c->R v H')->tf X e σ H R
def EvT (e:Expr)(Q:Bool->Prop):Prop:=∀(F:Fr) (σ:St) (H:Hp) (R:Bool->Hp->Prop),M F α σ H->(∀b H',Q b->zR F H'->Kz F H H'->R b H')->zO6 X e σ H R
def dB (F:Fr)(G:Hp)(v:V):A->Prop
 |.dat d=>AV G v d
 |.tape=>∃t b c,F.tp=some (t,b,c)/\v=.ref t
 |_=>False
inductive yx (F:Fr)(G:Hp):List V->List A->Prop where
 |nil:yx F G [] []
 |cons {v:V} {vs:List V} {a:A} {as:List A}:dB F G v a->yx F G vs as->yx F G (v::vs) (a::as)
def EvA (es:List Expr)(Q:List A->Prop):Prop:=∀(F:Fr) (σ:St) (H:Hp) (R:List V->Hp->Prop),M F α σ H->(∀as vs H',Q as->zR F H'->Kz F H H'->yx F (Gz F α σ H') vs as->R vs H')->zD8 X es σ H R
end
theorem dB.to {F F':Fr}{G G':Hp}(s:zB G G')(hp:F'.tp=F.tp){v:V}:∀{a:A},dB F G v a->dB F' G' v a
 |.dat _,h=>AV.same s h
 |.tape,⟨t,b,c,e,z⟩=>⟨t,b,c,hp.trans e,z⟩
 |.ow _,h=>h
 |.deep _ _,h=>h
 |.at _,h=>h
 |.exc _ _,h=>h
 |.pin _ _ _,h=>h
theorem yx.to {F F':Fr}{G G':Hp}(s:zB G G')(hp:F'.tp=F.tp):∀{vs:List V} {as:List A},yx F G vs as->yx F' G' vs as
 |_,_,.nil=>.nil
 |_,_,.cons h r=>.cons (h.to s hp) (yx.to s hp r)
theorem yx.length {F:Fr}{G:Hp}:∀{vs:List V} {as:List A},yx F G vs as->vs.length=as.length
 |_,_,.nil=>rfl
 |_,_,.cons _ r=>by rw[zX9,zX9,yx.length r]
noncomputable def A.d :A->PyData
 |.dat d=>d
 |.ow c=>c
 |.deep d _=>d
 |_=>.none
def zq6 (F:Fr)(v:V)(H':Hp):A->Prop
 |.dat d=>AV (sub (fun x=>¬F.O0 x) H') v d
 |.ow c=>∃l xs ds,v=.ref l/\c=.list ds/\F.H0 l=none/\¬F.O0 l/\H' l=some (.lst xs)/\AVs (sub (fun x=>¬F.O0 x/\x≠l) H') xs ds
 |.deep d S=>AV (lX S (sub (fun x=>¬F.O0 x) H') H') v d/\∀x,S x->¬F.O0 x/\F.H0 x=none/\∃xs,H' x=some (.lst xs)
 |_=>False
def sH (F:Fr)(v:V)(H':Hp)(a:A):Prop:=zR F H'/\Kz F F.H0 H'/\zq6 F v H' a
def spA (φ:List A->(A->Prop)->Prop):Sp:=fun vs H Qc _=>∃(F:Fr) (as:List A) (Q:A->Prop),F.H0=H/\zR F H/\(∀x,F.O0 x->∃o,H x=some o/\vG o)/\yx F (sub (fun x=>¬F.O0 x) H) vs as/\φ as Q/\∀a v H',Q a->sH F v H' a->Qc v H'
theorem zq6.to {F F':Fr}{v:V}{H':Hp}{a:A}(r:zq6 F v H' a)(ho:∀x,F'.O0 x->F.O0 x)(h0:∀x,F.H0 x=none->F'.H0 x=none):zq6 F' v H' a:=by
 have s:zB (sub (fun x=>¬F.O0 x) H') (sub (fun x=>¬F'.O0 x) H'):=zz fun a o h e=>⟨fun z=>h (ho _ z),e⟩;cases a with
 |dat d=>exact AV.same s r
 |ow c=>
  obtain⟨l,xs,ds,h1,hc,h2,h3,h4,h5⟩:=r;exact⟨l,xs,ds,h1,hc,h0 _ h2,fun z=>h3 (ho _ z),h4,h5.same (zz fun a o h e=>⟨⟨fun z=>h.1 (ho _ z),h.2⟩,e⟩)⟩
 |deep d S=>
  obtain⟨h1,h2⟩:=r;refine⟨h1.same (pO s fun _ _ _ e=>e),fun x z=>?_⟩;obtain⟨z1,z2,z3⟩:=h2 x z;exact⟨fun w=>z1 (ho _ w),h0 _ z2,z3⟩
 |tape=>exact r
 |«at» _=>exact r
 |exc _ _=>exact r
 |pin _ _ _=>exact r
structure xy where
 nx:Ev->Prop
 rt:A->Prop
 bk:Ev->Prop:=fun _=>False
 ct:Ev->Prop:=fun _=>False
structure mP (F:Fr)(E:xy)(D:Ends):Prop where
 nx:∀α σ H,M F α σ H->E.nx α->D.nx σ H
 rt:∀a v H,sH F v H a->E.rt a->D.rt v H
 bk:∀α σ H,M F α σ H->E.bk α->D.bk σ H
 ct:∀α σ H,M F α σ H->E.ct α->D.ct σ H
def SvS (X:Cx)(α:Ev)(sts:List Stmt)(E:xy):Prop:=∀(F:Fr) (σ:St) (H:Hp) (D:Ends),M F α σ H->mP F E D->zs0 X sts D σ H
theorem mP.up {F:Fr}{G:Hp}{E:xy}{D:Ends}(e:mP F E D):mP (F.up G) E D where
 nx:=fun α σ H m q=>e.nx α σ H m.down q
 bk:=fun α σ H m q=>e.bk α σ H m.down q
 ct:=fun α σ H m q=>e.ct α σ H m.down q
 rt:=fun a v H r q=>e.rt a v H (by
  obtain⟨t,k,r⟩:=r;exact⟨t.to rfl fun _ z=>z,fun x o e n=>k x o (oX e) n,r.to (fun _ z=>z) fun x z=>fF z⟩) q
section
variable {X:Cx}{α:Ev}{e a b c:Expr}{es:List Expr}{pos p q:Pos}{Q:PyData->Prop}
theorem EvL.d (h:EvL X α e (fun ds=>Q (.list ds))):EvD X α e Q:=fun F σ H R m k=>h F σ H R m fun ds v H' q t z f=>k _ v H' q t z (f.av m)
theorem EvD.imp {Q':PyData->Prop}(h:EvD X α e Q')(k:∀d,Q' d->Q d):EvD X α e Q:=fun F σ H R m r=>h F σ H R m fun d v H' q=>r d v H' (k d q)
theorem zf (i:Nat){x:Str}{d:PyData}(hi:α[i]?=some (some (.dat d)))(q:Q d)(hN:X.N[i]?=some x:=by rfl)(hv:Vis X.env.scope x:=by first|exact Or.inl rfl|exact Or.inr (Or.inl rfl)|exact Or.inr (Or.inr rfl))
  (hd:(x == ("__debug__":Str))=false:=by decide) (hcd:(x == ("__classdict__":Str))=false:=by decide):EvD X α (.Name x pos) Q:=fun F σ H R m k=>by
 obtain⟨v,h1,h2⟩:=m.dat i d hi;exact⟨_,xQ hN hv hd hcd,v,h1,k d v H q m.tp Kz.refl h2⟩
theorem yc {i:Int}{j:Nat}(q:Q (.int i)):EvD X α (.Constant (.int i) j pos) Q:=fun F σ H R m k=>⟨_,zt,k _ _ H q m.tp Kz.refl (.int i)⟩
theorem zz5 {i:Bool}{j:Nat}(q:Q (.bool i)):EvD X α (.Constant (.bool i) j pos) Q:=fun F σ H R m k=>⟨_,zQ2,k _ _ H q m.tp Kz.refl (.bl i)⟩
theorem oW {j:Nat}(q:Q .none):EvD X α (.Constant .none j pos) Q:=fun F σ H R m k=>⟨_,qQ,k _ _ H q m.tp Kz.refl .non⟩
theorem yd {x:Str}{j:Nat}(q:Q (.str x)):EvD X α (.Constant (.str x) j pos) Q:=fun F σ H R m k=>⟨_,yw,k _ _ H q m.tp Kz.refl (.str x)⟩
theorem zm1 {x:Str}{i:Int}(hg:Gl X x)(hm:∃t,X.mg x=some (.int i t))(q:Q (.int i))(hd:(x == ("__debug__":Str))=false:=by decide):EvD X α (.Name x pos) Q:=fun F σ H R m k=>by
 obtain⟨t,hm⟩:=hm;exact⟨_,tJ hg hm (show RelV (.int i) (.int i t) from ⟨t,rfl⟩) hd,k _ _ H q m.tp Kz.refl (.int i)⟩
theorem tY {f:TE->TE->TE}(hf:PE X e (f (tf X a) (tf X b)))(hr:∀σ H R,f (tf X a) (tf X b) σ H R↔tf X a σ H (fun x H1=>tf X b σ H1 fun y H2=>f (tC x) (tC y) σ H2 R))
  (h:EvD X α a fun x=>EvD X α b fun y=>∀(F:Fr) (σ:St) (H:Hp) (vx vy:V) (R:VK),M F α σ H->AV (Gz F α σ H) vx x->AV (Gz F α σ H) vy y->(∀d v H',Q d->zR F H'->Kz F H H'->AV (Gz F α σ H') v d->R v H')->f (tC vx) (tC vy) σ H R):
  EvD X α e Q:=fun F σ H R m k=>by
 refine⟨_,hf,(hr σ H R).mpr ?_⟩;refine h F σ H _ m fun x vx H1 q1 t1 k1 r1=>?_;have m1:=m.kz k1 t1;refine q1 F σ H1 _ m1 fun y vy H2 q2 t2 k2 r2=>?_;exact q2 F σ H2 vx vy R (m1.kz k2 t2) (r1.same (k2.gz m1.tp)) r2 fun d v H' qd t3 k3 r3=>k d v H' qd t3 ((k1.trans k2).trans k3) r3
theorem AV.int_inv {H:Hp}{v:V}{i:Int}(h:AV H v (.int i)):v=.int i:=by cases h;rfl
theorem AV.bl_inv {H:Hp}{v:V}{i:Bool}(h:AV H v (.bool i)):v=.bl i:=by cases h;rfl
theorem AV.str_inv {H:Hp}{v:V}{i:Str}(h:AV H v (.str i)):v=.str i:=by cases h;rfl
theorem AV.tup_inv {H:Hp}{v:V}{ds:List PyData}(h:AV H v (.tuple ds)):∃a xs,v=.ref a/\H a=some (.tup xs)/\AVs H xs ds:=by cases h;exact⟨_,_,rfl,by assumption,by assumption⟩
theorem AV.lst_inv {H:Hp}{v:V}{ds:List PyData}(h:AV H v (.list ds)):∃a xs,v=.ref a/\H a=some (.lst xs)/\AVs H xs ds:=by cases h;exact⟨_,_,rfl,by assumption,by assumption⟩
theorem AV.non_inv {H:Hp}{v:V}(h:AV H v .none):v=.non:=by cases h;rfl
theorem AV.isnon {H:Hp}{v:V}{d:PyData}(h:AV H v d):decide (v=.non)=(match d with|.none=>true|_=>false):=by cases h<;>simp
theorem za2 {op:Operator}{C:Int->Int->Prop}{g:Int->Int->V}{gd:Int->Int->PyData}(ho:OpR X (binaryOp op) (rI C g))(hg:∀H i j,AV H (g i j) (gd i j))
  (h:EvD X α a fun x=>EvD X α b fun y=>∃i j,x=.int i/\y=.int j/\C i j/\Q (gd i j)):EvD X α (.BinOp a op b pos) Q:=by
 refine tY (f:=tOp (rI C g)) (yJ ho zj zj) (fun _ _ _=>Iff.rfl) (h.imp fun x h=>h.imp fun y ⟨i,j,e1,e2,hc,hq⟩=>?_);subst e1 e2;intro F σ H vx vy R m rx ry k;cases rx.int_inv;cases ry.int_inv;exact⟨i,j,rfl,rfl,hc,k _ _ H hq m.tp Kz.refl (hg _ i j)⟩
theorem gE {op:Operator}{g:Int->Int->V}{gd:Int->Int->PyData}(ho:OpR X (binaryOp op) (rI0 g))(hg:∀H i j,AV H (g i j) (gd i j))
  (h:EvD X α a fun x=>EvD X α b fun y=>∃i j,x=.int i/\y=.int j/\Q (gd i j)):EvD X α (.BinOp a op b pos) Q:=by
 refine tY (f:=tOp (rI0 g)) (yJ ho zj zj) (fun _ _ _=>Iff.rfl) (h.imp fun x h=>h.imp fun y ⟨i,j,e1,e2,hq⟩=>?_);subst e1 e2;intro F σ H vx vy R m rx ry k;cases rx.int_inv;cases ry.int_inv;exact⟨i,j,rfl,rfl,k _ _ H hq m.tp Kz.refl (hg _ i j)⟩
theorem xG (h:EvD X α a fun x=>EvD X α b fun y=>∃i j,x=.int i/\y=.int j/\Q (.int (i+j))):EvD X α (.BinOp a .Add b pos) Q:=gE (gd:=fun i j=>.int (i+j)) tU (fun _ _ _=>.int _) h
theorem oO (h:EvD X α a fun x=>EvD X α b fun y=>∃i j,x=.int i/\y=.int j/\Q (.int (i-j))):EvD X α (.BinOp a .Sub b pos) Q:=gE (gd:=fun i j=>.int (i-j)) zd2 (fun _ _ _=>.int _) h
theorem zC1 (h:EvD X α a fun x=>EvD X α b fun y=>∃i j,x=.int i/\y=.int j/\zE5 i j/\Q (.int (i ^ j.toNat))):EvD X α (.BinOp a .Pow b pos) Q:=za2 (gd:=fun i j=>.int (i ^ j.toNat)) zk1 (fun _ _ _=>.int _) h
theorem zt0 (h:EvD X α a fun x=>EvD X α b fun y=>∃i j,x=.int i/\y=.int j/\zz4 i j/\Q (.int (i / j))):EvD X α (.BinOp a .FloorDiv b pos) Q:=za2 (gd:=fun i j=>.int (i / j)) tG (fun _ _ _=>.int _) h
theorem bz {i j r:Int}{p1 p2:Pos}{n1 n2:Nat}(hc:zE5 i j)(hr:i ^ j.toNat=r)(q:Q (.int r)):EvD X α (.BinOp (.Constant (.int i) n1 p1) .Pow (.Constant (.int j) n2 p2) pos) Q:=
 zC1 (yc (yc ⟨i,j,rfl,rfl,hc,hr▸q⟩))
theorem zD4 (h:EvD X α a fun x=>∃i,x=.int i/\Q (.int (-i))):EvD X α (.UnaryOp .USub a pos) Q:=fun F σ H R m k=>by
 refine⟨_,zy6 zg5 zj,?_⟩;refine h F σ H _ m fun x vx H1 q1 t1 k1 r1=>?_;obtain⟨i,rfl,q⟩:=q1;cases r1.int_inv;exact⟨i,rfl,k _ _ H1 q t1 k1 (.int _)⟩
theorem mn {op:CmpOp}{g:Int->Int->Bool}(ho:OpR X (compareOp op) (rI0 fun i j=>.bl (g i j)))(hm:behindInMarks op b=false)
  (h:EvD X α a fun x=>EvD X α b fun y=>∃i j,x=.int i/\y=.int j/\Q (.bool (g i j))):EvD X α (.Compare a [op] [b] pos) Q:=by
 refine tY (f:=tOp (rI0 fun i j=>.bl (g i j))) (xT ho zj zj hm) (fun _ _ _=>Iff.rfl) (h.imp fun x h=>h.imp fun y ⟨i,j,e1,e2,hq⟩=>?_);subst e1 e2;intro F σ H vx vy R m rx ry k;cases rx.int_inv;cases ry.int_inv;exact⟨i,j,rfl,rfl,k _ _ H hq m.tp Kz.refl (.bl _)⟩
theorem zz6 (h:EvD X α a fun x=>EvD X α b fun y=>∃i j,x=.int i/\y=.int j/\Q (.bool (decide (i<j)))):EvD X α (.Compare a [.Lt] [b] pos) Q:=mn gO (zC _) h
theorem zO2 (h:EvD X α a fun x=>EvD X α b fun y=>∃i j,x=.int i/\y=.int j/\Q (.bool (decide (j<i)))):EvD X α (.Compare a [.Gt] [b] pos) Q:=mn lI (zC _) h
theorem zR7 (h:EvD X α a fun x=>EvD X α b fun y=>∃i j,x=.int i/\y=.int j/\Q (.bool (decide (j<=i)))):EvD X α (.Compare a [.GtE] [b] pos) Q:=mn zm2 (zC _) h
noncomputable def vF :PyData->Bool
 |.none=>true
 |_=>false
theorem AV.non_iff {H:Hp}{v:V}{d:PyData}(h:AV H v d):decide (v=.non)=vF d:=by cases h<;>simp[vF]
theorem zB2 {j:Nat}(h:EvD X α a fun x=>Q (.bool (vF x))):EvD X α (.Compare a [.Is] [.Constant .none j p] pos) Q:=fun F σ H R m k=>by
 refine⟨_,xT mq zj qQ (zC _),?_⟩;refine h F σ H _ m fun x vx H1 q1 t1 k1 r1=>⟨rfl,?_⟩;rw[r1.non_iff];exact k _ _ H1 q1 t1 k1 (.bl _)
theorem zi6 {op op':CmpOp}{g g':Int->Int->Bool}(ho:OpR X (compareOp op) (rI0 fun i j=>.bl (g i j)))(ho':OpR X (compareOp op') (rI0 fun i j=>.bl (g' i j)))(hm:lastMarks [op,op'] [b,c]=false)
  (h:EvD X α a fun x=>EvD X α b fun y=>∃i j,x=.int i/\y=.int j/\(if g i j=true then EvD X α c fun z=>∃k,z=.int k/\Q (.bool (g' j k)) else Q (.bool false))):EvD X α (.Compare a [op,op'] [b,c] pos) Q:=fun F σ H R m k=>by
 refine⟨_,qj ho ho' zj zj zj hm,?_⟩;refine h F σ H _ m fun x vx H1 q1 t1 k1 r1=>?_;have m1:=m.kz k1 t1;refine q1 F σ H1 _ m1 fun y vy H2 q2 t2 k2 r2=>?_;obtain⟨i,j,e1,e2,hq⟩:=q2;subst e1 e2;cases r1.int_inv;cases r2.int_inv;have m2:=m1.kz k2 t2;refine⟨i,j,rfl,rfl,_,rfl,?_⟩;cases hg:g i j with
 |true=>
  rw[hg] at hq;refine uo ?_;refine (by simpa using hq:EvD X α c _) F σ H2 _ m2 fun z vz H3 q3 t3 k3 r3=>?_;obtain⟨kk,rfl,hq3⟩:=q3;cases r3.int_inv;exact⟨j,kk,rfl,rfl,k _ _ H3 hq3 t3 ((k1.trans k2).trans k3) (.bl _)⟩
 |false=>
  rw[hg] at hq;exact uM (k _ _ H2 (by simpa using hq) t2 (k1.trans k2) (.bl _))
theorem nC {Q:Bool->Prop}(h:EvD X α e fun x=>∃k,x=.bool k/\Q k)(he:∀whole,isTrue e X.env whole=(do let v <-whole;standAt e.pos;holding [v] (truthy v)):=by intro _;rfl):EvT X α e Q:=fun F σ H R m k=>by
 refine⟨_,zl8 zj he,?_⟩;refine h F σ H _ m fun x vx H1 q1 t1 k1 r1=>?_;obtain⟨b,rfl,q⟩:=q1;cases r1.bl_inv;exact⟨b,rfl,k b H1 q t1 k1⟩
def Cmp (r:R2)(x y:PyData)(k:Bool):Prop:=∀(p:Addr->Prop) (H:Hp) (vx vy:V) (R:VK),AV (sub p H) vx x->AV (sub p H) vy y->R (.bl k) H->r vx vy H R
theorem wD {op:CmpOp}{r:R2}{Q:Bool->Prop}(ho:OpR X (compareOp op) r)(hm:behindInMarks op b=false)(h:EvD X α a fun x=>EvD X α b fun y=>∃k,Cmp r x y k/\Q k):EvT X α (.Compare a [op] [b] pos) Q:=fun F σ H R m k=>by
 refine⟨_,yr ho zj zj hm,?_⟩;refine h F σ H _ m fun x vx H1 q1 t1 k1 r1=>?_;have m1:=m.kz k1 t1;refine q1 F σ H1 _ m1 fun y vy H2 q2 t2 k2 r2=>?_;obtain⟨b,hc,q⟩:=q2;exact hc _ H2 vx vy _ (r1.same (k2.gz m1.tp)) r2 ⟨b,rfl,k b H2 q t2 (k1.trans k2)⟩
theorem zr3 {g:Int->Int->Bool}{i j:Int}:Cmp (rI0 fun i j=>.bl (g i j)) (.int i) (.int j) (g i j):=fun p H vx vy R rx ry h=>by
 cases rx.int_inv;cases ry.int_inv;exact⟨i,j,rfl,rfl,h⟩
theorem rE {op:CmpOp}{g:Int->Int->Bool}{Q:Bool->Prop}(ho:OpR X (compareOp op) (rI0 fun i j=>.bl (g i j)))(hm:behindInMarks op b=false)
  (h:EvD X α a fun x=>EvD X α b fun y=>∃i j,x=.int i/\y=.int j/\Q (g i j)):EvT X α (.Compare a [op] [b] pos) Q:=
 wD ho hm (h.imp fun x h=>h.imp fun y ⟨i,j,e1,e2,q⟩=>⟨_,by subst e1 e2;exact zr3,q⟩)
theorem zy3 {Q:Bool->Prop}(h:EvD X α a fun x=>EvD X α b fun y=>∃i j,x=.int i/\y=.int j/\Q (decide (i<j))):EvT X α (.Compare a [.Lt] [b] pos) Q:=rE gO (zC _) h
theorem zy8 {Q:Bool->Prop}(h:EvD X α a fun x=>EvD X α b fun y=>∃i j,x=.int i/\y=.int j/\Q (decide (i<=j))):EvT X α (.Compare a [.LtE] [b] pos) Q:=rE tj (zC _) h
theorem zj5 {Q:Bool->Prop}(h:EvD X α a fun x=>EvD X α b fun y=>∃i j,x=.int i/\y=.int j/\Q (decide (j<i))):EvT X α (.Compare a [.Gt] [b] pos) Q:=rE lI (zC _) h
theorem zS9 {Q:Bool->Prop}(h:EvD X α a fun x=>EvD X α b fun y=>∃i j,x=.int i/\y=.int j/\Q (decide (j<=i))):EvT X α (.Compare a [.GtE] [b] pos) Q:=rE zm2 (zC _) h
theorem vO {j:Nat}{Q:Bool->Prop}(h:EvD X α a fun x=>Q (vF x)):EvT X α (.Compare a [.Is] [.Constant .none j p] pos) Q:=
 wD mq (zC _) (h.imp fun x h=>oW ⟨_,fun p H vx vy R rx ry z=>⟨ry.non_inv,by rw[rx.non_iff];exact z⟩,h⟩)
theorem zq8 {j:Nat}{Q:Bool->Prop}(h:EvD X α a fun x=>Q (!vF x)):EvT X α (.Compare a [.IsNot] [.Constant .none j p] pos) Q:=
 wD zn9 (zC _) (h.imp fun x h=>oW ⟨_,fun p H vx vy R rx ry z=>⟨ry.non_inv,by rw[rx.non_iff];exact z⟩,h⟩)
noncomputable def zV3 :PyData->Option Bool
 |.none=>some false
 |.bool b=>some b
 |.int i=>some (i != 0)
 |.list ds=>some (!ds.isEmpty)
 |.tuple ds=>some (!ds.isEmpty)
 |_=>none
theorem AVs.isEmpty {H:Hp}{xs:List V}{ds:List PyData}(h:AVs H xs ds):xs.isEmpty=ds.isEmpty:=by cases h<;>rfl
theorem qV {Q:Bool->Prop}(h:EvD X α e fun x=>∃k,zV3 x=some k/\Q k)(he:∀whole,isTrue e X.env whole=(do let v <-whole;standAt e.pos;holding [v] (truthy v)):=by intro _;rfl):EvT X α e Q:=fun F σ H R m k=>by
 refine⟨_,za4 zj he,?_⟩;refine h F σ H _ m fun x vx H1 q1 t1 k1 r1=>?_;obtain⟨b,hb,q⟩:=q1;refine⟨b,?_,k b H1 q t1 k1⟩;cases r1 with
 |non=>cases hb;rfl
 |bl z=>cases hb;rfl
 |int i=>cases hb;rfl
 |str s=>cases hb
 |lst h1 h2=>cases hb;exact .inl ⟨_,SqL.of (zi h1).2,by rw[h2.isEmpty]⟩
 |tup h1 h2=>cases hb;exact .inr (.inl ⟨_,SqT.of (zi h1).2,by rw[h2.isEmpty]⟩)
 |ins _ _=>cases hb
 |dk _ _=>cases hb
 |dt _ _=>cases hb
 |xc _ _ _=>cases hb
 |xn _=>cases hb
theorem sD {Q:Bool->Prop}(h:EvT X α a fun k=>Q (!k)):EvT X α (.UnaryOp .Not a pos) Q:=fun F σ H R m k=>by
 refine⟨_,au xJ,?_⟩;exact h F σ H _ m fun b H1 q1 t1 k1=>k _ H1 q1 t1 k1
def EvW (X:Cx)(α:Ev)(e:Expr)(Q:Bool->Prop):Prop:=∀(F:Fr) (σ:St) (H:Hp) (R:Bool->Hp->Prop),M F α σ H->(∀b H',Q b->zR F H'->Kz F H H'->R b H')->∃t,PW X e t/\t σ H R
def zT2 (X:Cx)(e:Expr):TT:=fun σ H Q=>∃t,PW X e t/\t σ H Q
theorem hJ :PW X e (zT2 X e):=fun w pins s σ H Q I ⟨t,p,q⟩=>p w pins s σ H Q I q
theorem EvW.t {Q:Bool->Prop}(h:EvW X α e Q):EvT X α e Q:=fun F σ H R m k=>by
 obtain⟨t,p,q⟩:=h F σ H R m k;exact⟨t,p.pt,q⟩
variable {rest:List Expr}
theorem mj {Q:Bool->Prop}(h:EvT X α a Q):EvW X α (.BoolOp .And [a] pos) Q:=fun F σ H R m k=>⟨_,gn xJ,h F σ H R m k⟩
theorem zm6 {Q:Bool->Prop}(h:EvT X α a Q):EvW X α (.BoolOp .Or [a] pos) Q:=fun F σ H R m k=>⟨_,iz xJ,h F σ H R m k⟩
theorem zc9 {Q:Bool->Prop}(h:EvT X α a fun k=>if k=true then EvW X α (.BoolOp .And (b::rest) pos) Q else Q false):EvW X α (.BoolOp .And (a::b::rest) pos) Q:=fun F σ H R m k=>by
 refine⟨_,bL xJ hJ,?_⟩;refine h F σ H _ m fun c H1 q1 t1 k1=>?_;cases c with
 |true=>exact uo ((by simpa using q1:EvW X α _ Q) F σ H1 R (m.kz k1 t1) fun b H2 q2 t2 k2=>k b H2 q2 t2 (k1.trans k2))
 |false=>exact uM (k _ H1 (by simpa using q1) t1 k1)
theorem zS6 {Q:Bool->Prop}(h:EvT X α a fun k=>if k=true then Q true else EvW X α (.BoolOp .Or (b::rest) pos) Q):EvW X α (.BoolOp .Or (a::b::rest) pos) Q:=fun F σ H R m k=>by
 refine⟨_,zd3 xJ hJ,?_⟩;refine h F σ H _ m fun c H1 q1 t1 k1=>?_;cases c with
 |false=>exact uM ((by simpa using q1:EvW X α _ Q) F σ H1 R (m.kz k1 t1) fun b H2 q2 t2 k2=>k b H2 q2 t2 (k1.trans k2))
 |true=>exact uo (k _ H1 (by simpa using q1) t1 k1)
theorem aG {op}(h:EvD X α a Q):EvD X α (.BoolOp op [a] pos) Q:=fun F σ H R m k=>⟨_,we zj,h F σ H R m k⟩
theorem zE9 (h:EvD X α a fun x=>∃k,x=.bool k/\if k=true then EvD X α (.BoolOp .And (b::rest) pos) Q else Q (.bool false)):EvD X α (.BoolOp .And (a::b::rest) pos) Q:=fun F σ H R m k=>by
 refine⟨_,xC zj zj,?_⟩;refine h F σ H _ m fun x vx H1 q1 t1 k1 r1=>?_;obtain⟨c,rfl,q1⟩:=q1;cases r1.bl_inv;refine⟨c,rfl,?_⟩;cases c with
 |true=>exact uo ((by simpa using q1:EvD X α _ Q) F σ H1 R (m.kz k1 t1) fun d v H2 q2 t2 k2 r2=>k d v H2 q2 t2 (k1.trans k2) r2)
 |false=>exact uM (k _ _ H1 (by simpa using q1) t1 k1 (.bl _))
theorem zP1 (h:EvD X α a fun x=>∃k,x=.bool k/\if k=true then Q (.bool true) else EvD X α (.BoolOp .Or (b::rest) pos) Q):EvD X α (.BoolOp .Or (a::b::rest) pos) Q:=fun F σ H R m k=>by
 refine⟨_,aF zj zj,?_⟩;refine h F σ H _ m fun x vx H1 q1 t1 k1 r1=>?_;obtain⟨c,rfl,q1⟩:=q1;cases r1.bl_inv;refine⟨c,rfl,?_⟩;cases c with
 |false=>exact uM ((by simpa using q1:EvD X α _ Q) F σ H1 R (m.kz k1 t1) fun d v H2 q2 t2 k2 r2=>k d v H2 q2 t2 (k1.trans k2) r2)
 |true=>exact uo (k _ _ H1 (by simpa using q1) t1 k1 (.bl _))
theorem zi2 (h:EvD X α a fun x=>∃k,x=.bool k/\Q (.bool (!k))):EvD X α (.UnaryOp .Not a pos) Q:=fun F σ H R m k=>by
 refine⟨_,zm0 zj,?_⟩;refine h F σ H _ m fun x vx H1 q1 t1 k1 r1=>?_;obtain⟨c,rfl,q⟩:=q1;cases r1.bl_inv;exact⟨c,rfl,k _ _ H1 q t1 k1 (.bl _)⟩
theorem iI (h:EvT X α c fun k=>if k=true then EvD X α a Q else EvD X α b Q):EvD X α (.IfExp c a b pos) Q:=fun F σ H R m k=>by
 refine⟨_,zf6 xJ zj zj,?_⟩;refine h F σ H _ m fun x H1 q1 t1 k1=>?_;cases x with
 |true=>exact uo ((by simpa using q1:EvD X α _ Q) F σ H1 R (m.kz k1 t1) fun d v H2 q2 t2 k2 r2=>k d v H2 q2 t2 (k1.trans k2) r2)
 |false=>exact uM ((by simpa using q1:EvD X α _ Q) F σ H1 R (m.kz k1 t1) fun d v H2 q2 t2 k2 r2=>k d v H2 q2 t2 (k1.trans k2) r2)
theorem jc (hs:rD b)(h:EvD X α a fun x=>EvD X α b fun y=>∃ds i d,x=.list ds/\y=.int i/\atI ds i=some d/\Q d):EvD X α (.Subscript a b pos) Q:=by
 refine tY (f:=tOp (zD1 X.K)) (zW ya zj zj hs) (fun _ _ _=>Iff.rfl) (h.imp fun x h=>h.imp fun y ⟨ds,i,d,e1,e2,hat,hq⟩=>?_);subst e1 e2;intro F σ H vx vy R m rx ry k;obtain⟨a,xs,rfl,h1,h2⟩:=rx.lst_inv;cases ry.int_inv;obtain⟨v,hv,av⟩:=h2.atI hat;exact⟨a,xs,i,v,rfl,rfl,SqL.of (zi h1).2,hv,k d v H hq m.tp Kz.refl av⟩
theorem wG (hs:rD b)(h:EvD X α a fun x=>EvD X α b fun y=>∃ds i d,x=.tuple ds/\y=.int i/\atI ds i=some d/\Q d):EvD X α (.Subscript a b pos) Q:=by
 refine tY (f:=tOp (zB7 X.K)) (zW yU zj zj hs) (fun _ _ _=>Iff.rfl) (h.imp fun x h=>h.imp fun y ⟨ds,i,d,e1,e2,hat,hq⟩=>?_);subst e1 e2;intro F σ H vx vy R m rx ry k;obtain⟨a,xs,rfl,h1,h2⟩:=rx.tup_inv;cases ry.int_inv;obtain⟨v,hv,av⟩:=h2.atI hat;exact⟨a,xs,i,v,rfl,rfl,SqT.of (zi h1).2,hv,k d v H hq m.tp Kz.refl av⟩
def EvO (X:Cx)(α:Ev)(e:Option Expr)(Q:Option Int->Prop):Prop:=∀(F:Fr) (σ:St) (H:Hp) (R:Option Int->Hp->Prop),M F α σ H->(∀i H',Q i->zR F H'->Kz F H H'->R i H')->∃t,PO X e t/\t σ H R
def zT4 (X:Cx)(e:Option Expr):TO:=fun σ H Q=>∃t,PO X e t/\t σ H Q
theorem fU {e:Option Expr}:PO X e (zT4 X e):=fun pins s σ H Q I ⟨t,p,q⟩=>p pins s σ H Q I q
theorem zr9 {Q:Option Int->Prop}(q:Q none):EvO X α none Q:=fun F σ H R m k=>⟨_,oR,k _ H q m.tp Kz.refl⟩
theorem zv9 {Q:Option Int->Prop}(h:EvD X α a fun x=>∃i,x=.int i/\Q (some i)):EvO X α (some a) Q:=fun F σ H R m k=>by
 refine⟨_,nW zj,?_⟩;refine h F σ H _ m fun x vx H1 q1 t1 k1 r1=>?_;obtain⟨i,rfl,q⟩:=q1;cases r1.int_inv;exact⟨i,rfl,k _ H1 q t1 k1⟩
theorem M.lay {F:Fr}{σ:St}{H:Hp}{l:Addr}{xs:List V}{ds:List PyData}(m:M F α σ H)(hl:H l=none)(h:AVs (Gz F α σ H) xs ds):zR F (upd H l (.lst xs))/\Kz F H (upd H l (.lst xs))/\xD F α σ H (.ref l) (upd H l (.lst xs)) ds:=by
 refine⟨m.tp.same (yB hl),Kz.of_same (yB hl),l,xs,rfl,hl,zk,h.same (zz fun a o ha e=>?_)⟩;have:=zo e hl;exact⟨⟨ha,this⟩,by rw[zg this];exact e⟩
theorem zy9 {lo hi:Option Expr}{Q:List PyData->Prop}(h:EvD X α a fun x=>EvO X α lo fun l=>EvO X α hi fun u=>∃ds,x=.list ds/\Q (cutD ds l u)):EvL X α (.Subscript a (.Slice lo hi none p) pos) Q:=fun F σ H R m k=>by
 refine⟨_,qD nv zj fU fU,?_⟩;refine h F σ H _ m fun x vx H1 q1 t1 k1 r1=>?_;have m1:=m.kz k1 t1;refine q1 F σ H1 _ m1 fun l H2 q2 t2 k2=>?_;have m2:=m1.kz k2 t2;refine q2 F σ H2 _ m2 fun u H3 q3 t3 k3=>?_;have m3:=m2.kz k3 t3;obtain⟨ds,rfl,q⟩:=q3;obtain⟨a,xs,rfl,h1,h2⟩:=(r1.same ((k2.gz m1.tp).trans (k3.gz m2.tp))).lst_inv;refine⟨a,xs,rfl,SqL.of (zi h1).2,fun p hp=>?_⟩;obtain⟨g1,g2,g3⟩:=m3.lay hp (h2.cut l u);have kk:=(k1.trans k2).trans k3;obtain⟨l',xs',e1,e2,e3,e4⟩:=g3;refine k _ _ _ q g1 (kk.trans g2) ⟨l',xs',e1,?_,e3,e4⟩;cases z:H l' with
 |none=>rfl
 |some o=>rw[kk l' o z (m.tp.nt (ow0 (m3.fresh e2)))] at e2;cases e2
theorem xD.back {F:Fr}{σ:St}{H H1 H':Hp}{v:V}{ds:List PyData}(m:M F α σ H)(k:Kz F H H1)(t1:zR F H1)(h:xD F α σ H1 v H' ds):xD F α σ H v H' ds:=by
 obtain⟨l',xs',e1,e2,e3,e4⟩:=h;refine⟨l',xs',e1,?_,e3,e4⟩;cases z:H l' with
 |none=>rfl
 |some o=>rw[k l' o z (m.tp.nt (ow0 ((m.kz k t1).fresh e2)))] at e2;cases e2
theorem zv {Q:List A->Prop}(q:Q []):EvA X α [] Q:=fun F σ H R m k=>⟨_,zw,k _ _ H q m.tp Kz.refl .nil⟩
theorem zh {Q:List A->Prop}(h:EvD X α e fun d=>EvA X α es fun as=>Q (.dat d::as))(hs:starEach (e::es) X.env=(false,eval e X.env)::starEach es X.env:=by rfl):EvA X α (e::es) Q:=fun F σ H R m k=>by
 refine⟨_,zd zj xh hs,?_⟩;refine h F σ H _ m fun d v H1 q1 t1 k1 r1=>?_;have m1:=m.kz k1 t1;exact q1 F σ H1 _ m1 fun as vs H2 q2 t2 k2 r2=>k _ _ H2 q2 t2 (k1.trans k2) (.cons (r1.same (k2.gz m1.tp)) r2)
theorem yi {Q:List A->Prop}(i:Nat){x:Str}(hi:α[i]?=some (some .tape))(h:EvA X α es fun as=>Q (.tape::as))(hN:X.N[i]?=some x:=by rfl)(hv:Vis X.env.scope x:=by first|exact Or.inl rfl|exact Or.inr (Or.inl rfl)|exact Or.inr (Or.inr rfl))
  (hd:(x == ("__debug__":Str))=false:=by decide) (hcd:(x == ("__classdict__":Str))=false:=by decide) (hs:starEach (.Name x pos::es) X.env=(false,eval (.Name x pos) X.env)::starEach es X.env:=by rfl):EvA X α (.Name x pos::es) Q:=fun F σ H R m k=>by
 obtain⟨t,b,c,h1,h2⟩:=m.tvar i hi;refine⟨_,zd (xQ hN hv hd hcd) xh hs,.ref t,h2,?_⟩;exact h F σ H _ m fun as vs H2 q2 t2 k2 r2=>k _ _ H2 q2 t2 k2 (.cons ⟨t,b,c,h1,rfl⟩ r2)
noncomputable def datas :List A->Option (List PyData)
 |[]=>some []
 |.dat d::r=>(datas r).map (d::·)
 |_::_=>none
theorem yx.datas {F:Fr}{G:Hp}:∀{vs:List V} {as:List A} {ds:List PyData},yx F G vs as->L2.datas as=some ds->AVs G vs ds
 |_,_,ds,.nil,h=>by cases h;exact .nil
 |_,_,ds,.cons (a:=.dat d) (as:=as) h r,e=>by
  simp only[L2.datas,zY0] at e;obtain⟨es,e1,rfl⟩:=e;exact .cons h (yx.datas r e1)
 |_,_,ds,.cons (a:=.ow _) h r,e=>by cases h
 |_,_,ds,.cons (a:=.deep _ _) h r,e=>by cases h
 |_,_,ds,.cons (a:=.exc _ _) h r,e=>by cases h
 |_,_,ds,.cons (a:=.pin _ _ _) h r,e=>by cases h
 |_,_,ds,.cons (a:=.tape) h r,e=>by cases e
 |_,_,ds,.cons (a:=.at _) h r,e=>by cases h
theorem xO {n:Nat}(h:EvA X α es fun as=>∃ds,datas as=some ds/\ds.length<=1000/\Q (.tuple ds)):EvD X α (.Tuple es n pos) Q:=fun F σ H R m k=>by
 refine⟨_,oF xh,?_⟩;refine h F σ H _ m fun as vs H1 q1 t1 k1 r1=>?_;obtain⟨ds,e,hl,q⟩:=q1;have r:=r1.datas e;have m1:=m.kz k1 t1;refine⟨by rw[r.length];exact z48 (yW hl),fun p hp=>?_⟩;refine k _ _ _ q (t1.same (yB hp)) (k1.trans (Kz.of_same (yB hp))) (.tup (xs:=vs) (zH (m1.fresh hp) zk) (r.same (zz fun a o ha e=>⟨ha,by rw[zg (zo e hp)];exact e⟩)))
theorem xP {Q:List PyData->Prop}(h:EvA X α es fun as=>∃ds,datas as=some ds/\ds.length<=1000/\Q ds):EvL X α (.List es pos) Q:=fun F σ H R m k=>by
 refine⟨_,aJ xh,?_⟩;refine h F σ H _ m fun as vs H1 q1 t1 k1 r1=>?_;obtain⟨ds,e,hl,q⟩:=q1;have r:=r1.datas e;have m1:=m.kz k1 t1;refine⟨by rw[r.length];exact z48 (yW hl),fun p hp=>?_⟩;obtain⟨g1,g2,g3⟩:=m1.lay hp r;exact k _ _ _ q g1 (k1.trans g2) (g3.back m k1 t1)
theorem iN {Q:List PyData->Prop}(h:EvD X α a fun x=>EvD X α b fun y=>∃ds es,x=.list ds/\y=.list es/\ds.length+es.length<=1000/\Q (ds++es)):EvL X α (.BinOp a .Add b pos) Q:=fun F σ H R m k=>by
 refine⟨_,yJ zB4 zj zj,?_⟩;refine h F σ H _ m fun x vx H1 q1 t1 k1 r1=>?_;have m1:=m.kz k1 t1;refine q1 F σ H1 _ m1 fun y vy H2 q2 t2 k2 r2=>?_;have m2:=m1.kz k2 t2;obtain⟨ds,es,rfl,rfl,hl,q⟩:=q2;obtain⟨a,xs,rfl,h1,h2⟩:=(r1.same (k2.gz m1.tp)).lst_inv;obtain⟨b,ys,rfl,h3,h4⟩:=r2.lst_inv;refine⟨a,b,xs,ys,rfl,rfl,(zi h1).2,(zi h3).2,by rw[h2.length,h4.length];exact z48 (yW hl),fun p hp=>?_⟩;obtain⟨g1,g2,g3⟩:=m2.lay hp (h2.append h4);exact k _ _ _ q g1 ((k1.trans k2).trans g2) (g3.back m (k1.trans k2) t2)
theorem wR {id:String}{x:Str}{r:List V->Hp->VK->Prop}(hc:xK X (.builtin id) r)(hg:Gl X x)(hm:X.mg x=none)(hv:bootBuiltins x=some (.builtin id))
  (h:EvA X α (e::es) fun as=>∀(F:Fr) (σ:St) (H:Hp) (vs:List V) (R:VK),M F α σ H->yx F (Gz F α σ H) vs as->(∀d v H',Q d->zR F H'->Kz F H H'->AV (Gz F α σ H') v d->R v H')->r vs H R)
  (hn:x≠"__name__":=by decide) (hdb:(x == ("__debug__":Str))=false:=by decide) (he:starEach (e::es) X.env=(false,eval e X.env)::starEach es X.env:=by rfl) (hpl:(backTo pos (starEach es X.env)).any (·.1)=false:=by rfl):
  EvD X α (.Call (.Name x p) (e::es) [] pos) Q:=fun F σ H R m k=>by
 refine⟨_,yo hc hg hm hv xh hn hdb he hpl,?_⟩;refine h F σ H _ m fun as vs H1 q1 t1 k1 r1=>?_;exact q1 F σ H1 vs R (m.kz k1 t1) r1 fun d v H' qd t2 k2 r2=>k d v H' qd t2 (k1.trans k2) r2
end
section
variable {X:Cx}{α:Ev}{e a b c:Expr}{es:List Expr}{pos p q:Pos}{Q:PyData->Prop}
theorem yx.one {F:Fr}{G:Hp}{vs:List V}{d:PyData}(h:yx F G vs [.dat d]):∃v,vs=[v]/\AV G v d:=by
 cases h with|cons h r=>cases r;exact⟨_,rfl,h⟩
theorem yx.two {F:Fr}{G:Hp}{vs:List V}{d e:PyData}(h:yx F G vs [.dat d,.dat e]):∃v u,vs=[v,u]/\AV G v d/\AV G u e:=by
 cases h with|cons h r=>obtain⟨u,rfl,h2⟩:=r.one;exact⟨_,u,rfl,h,h2⟩
noncomputable def zW0 :PyData->Option Int
 |.list ds=>some ds.length
 |.tuple ds=>some ds.length
 |_=>none
theorem nL (hg:Gl X "len")(hm:X.mg "len"=none)(h:EvD X α e fun x=>∃n,zW0 x=some n/\Q (.int n))(he:starEach [e] X.env=(false,eval e X.env)::starEach [] X.env:=by rfl):
  EvD X α (.Call (.Name "len" p) [e] [] pos) Q:=by
 refine wR yF hg hm z82 (zh (h.imp fun x ⟨n,e1,q⟩=>zv ?_) he) (he:=he);intro F σ H vs R m rv k;obtain⟨v,rfl,av⟩:=rv.one;cases av with
 |lst h1 h2=>cases e1;rw[<-h2.length] at q;exact⟨_,_,rfl,.inl (SqL.of (zi h1).2),k _ _ H q m.tp Kz.refl (.int _)⟩
 |tup h1 h2=>cases e1;rw[<-h2.length] at q;exact⟨_,_,rfl,.inr (SqT.of (zi h1).2),k _ _ H q m.tp Kz.refl (.int _)⟩
 |_=>cases e1
theorem oH {T:String}{x:Str}{p1:Pos}(hg:Gl X "isinstance")(hm:X.mg "isinstance"=none)(hgT:Gl X x)(hmT:X.mg x=none)(hT:bootBuiltins x=some (.type T))
  (h:EvD X α a fun x=>∃k,x.hasDict=false/\pk T x=some k/\Q (.bool k)) (hnx:x≠"__name__":=by decide) (hdx:(x == ("__debug__":Str))=false:=by decide)
  (he:starEach [a,.Name x p1] X.env=(false,eval a X.env)::starEach [.Name x p1] X.env:=by rfl) (he2:starEach [.Name x p1] X.env=(false,eval (.Name x p1) X.env)::starEach [] X.env:=by rfl) (hpl:(backTo pos (starEach [.Name x p1] X.env)).any (·.1)=false:=by rfl):
  EvD X α (.Call (.Name "isinstance" p) [a,.Name x p1] [] pos) Q:=fun F σ H R m k=>by
 refine⟨_,yo xW hg hm z90 (zd zj (zd (ue hgT hmT hT (show RelV (.ty T) (.type T) from rfl) hnx hdx) zw he2) he) (he:=he) (hpl:=hpl),?_⟩;refine h F σ H _ m fun x vx H1 q1 t1 k1 r1=>?_;obtain⟨b,hd,e,q⟩:=q1;exact⟨vx,T,x,b,rfl,(r1.dv hd).same xZ,e,k _ _ H1 q t1 k1 (.bl b)⟩
noncomputable def vt :PyData->Option (List PyData)
 |.list ds=>some ds
 |.tuple ds=>some ds
 |_=>none
theorem me {Q:List PyData->Prop}(hg:Gl X "list")(hm:X.mg "list"=none)(h:EvD X α e fun x=>∃ds,vt x=some ds/\Q ds)(he:starEach [e] X.env=(false,eval e X.env)::starEach [] X.env:=by rfl):
  EvL X α (.Call (.Name "list" p) [e] [] pos) Q:=fun F σ H R m k=>by
 refine⟨_,xX uW hg hm boot_list (zd zj zw he) (he:=he),?_⟩;refine h F σ H _ m fun x vx H1 q1 t1 k1 r1=>?_;obtain⟨ds,e1,q⟩:=q1;have m1:=m.kz k1 t1;have fin:∀{xs:List V},AVs (Gz F α σ H1) xs ds->∀l,H1 l=none->R (.ref l) (upd H1 l (.lst xs)):=fun {xs} h2 l hl=>by
  obtain⟨g1,g2,g3⟩:=m1.lay hl h2;exact k _ _ _ q g1 (k1.trans g2) (g3.back m k1 t1)
 cases r1 with
 |lst h1 h2=>cases e1;exact⟨_,_,rfl,.inl (SqL.of (zi h1).2),fin h2⟩
 |tup h1 h2=>cases e1;exact⟨_,_,rfl,.inr (SqT.of (zi h1).2),fin h2⟩
 |_=>cases e1
theorem AVs.bools {H:Hp}:∀{xs:List V} {bs:List Bool},AVs H xs (bs.map .bool)->xs=bs.map V.bl
 |_,[],.nil=>rfl
 |_,b::bs,.cons h r=>by rw[h.bl_inv,AVs.bools r];rfl
theorem oN (hc:X.calm=true)(hg:Gl X "all")(hm:X.mg "all"=none)(h:EvD X α e fun x=>∃bs:List Bool,x=.list (bs.map .bool)/\Q (.bool (bs.all id)))(he:starEach [e] X.env=(false,eval e X.env)::starEach [] X.env:=by rfl):
  EvD X α (.Call (.Name "all" p) [e] [] pos) Q:=by
 refine wR (bh hc) hg hm boot_all (zh (h.imp fun x ⟨bs,e1,q⟩=>zv ?_) he) (he:=he);intro F σ H vs R m rv k;subst e1;obtain⟨v,rfl,av⟩:=rv.one;obtain⟨a,xs,rfl,h1,h2⟩:=av.lst_inv;exact⟨a,bs,rfl,by rw[(zi h1).2,h2.bools],k _ _ H q m.tp Kz.refl (.bl _)⟩
theorem bQ (hc:X.calm=true)(hg:Gl X "any")(hm:X.mg "any"=none)(h:EvD X α e fun x=>∃bs:List Bool,x=.list (bs.map .bool)/\Q (.bool (bs.any id)))(he:starEach [e] X.env=(false,eval e X.env)::starEach [] X.env:=by rfl):
  EvD X α (.Call (.Name "any" p) [e] [] pos) Q:=by
 refine wR (dW hc) hg hm boot_any (zh (h.imp fun x ⟨bs,e1,q⟩=>zv ?_) he) (he:=he);intro F σ H vs R m rv k;subst e1;obtain⟨v,rfl,av⟩:=rv.one;obtain⟨a,xs,rfl,h1,h2⟩:=av.lst_inv;exact⟨a,bs,rfl,by rw[(zi h1).2,h2.bools],k _ _ H q m.tp Kz.refl (.bl _)⟩
section
variable {k:Nat}{f:Addr}{fd:FuncData}{ps:List Str}{φ:List A->(A->Prop)->Prop}{x:Str}
theorem vB {F:Fr}{σ:St}{H:Hp}{vs:List V}{as:List A}{QA:A->Prop}{R:VK}(m:M F α σ H)(rv:yx F (Gz F α σ H) vs as)(hφ:φ as QA)
  (kk:∀a v H',QA a->sH ⟨H,Ow F α σ,F.tp⟩ v H' a->R v H') {E:XK}:spA φ (vs++[]) H R E:=by
 refine⟨⟨H,Ow F α σ,F.tp⟩,as,QA,rfl,?_,?_,?_,hφ,kk⟩
 ·exact m.tp.to rfl fun _ z=>.inl z
 ·exact fun y z=>m.owEx z
 ·rw[z40];exact yx.to (F:=F) (F':=⟨H,Ow F α σ,F.tp⟩) (fun _ _ e=>e) rfl rv
theorem sH.back {F:Fr}{σ:St}{H H':Hp}{v:V}{a:A}(m:M F α σ H)(h:sH ⟨H,Ow F α σ,F.tp⟩ v H' a):zR F H'/\Kz F H H'/\AV (Gz F α σ H') v a.d:=by
 obtain⟨t,kz,r⟩:=h;refine⟨m.tp.re t rfl,kz,?_⟩;cases a with
 |dat d=>exact r
 |ow c=>
  obtain⟨l,xs,ds,rfl,rfl,h1,h2,h3,h4⟩:=r;exact .lst (zH h2 h3) (h4.same (zz fun a o h e=>⟨h.1,e⟩))
 |deep d S=>
  obtain⟨h1,h2⟩:=r;refine h1.same fun x o e=>?_;rcases aM e with ⟨z1,z2⟩|⟨_,z2⟩
  ·exact zH (h2 x z1).1 z2
  ·exact z2
 |tape=>exact r.elim
 |«at» _=>exact r.elim
 |exc _ _=>exact r.elim
 |pin _ _ _=>exact r.elim
theorem zr5 (G:zE X.prog X.w X.K X.mg X.base CX0 k f fd ps (spA φ))(hr:zX k X.A)(hg:Gl X x)(hm:X.mg x=some (.ref f))(hk:PySem.W.keepIn X.K (.ref f)=true)(hb:Binds X.K fd ps [])
  (h:EvA X α (e::es) fun as=>φ as fun a=>Q a.d) (hdb:(x == ("__debug__":Str))=false:=by decide) (he:starEach (e::es) X.env=(false,eval e X.env)::starEach es X.env:=by rfl) (hpl:(backTo pos (starEach es X.env)).any (·.1)=false:=by rfl):
  EvD X α (.Call (.Name x p) (e::es) [] pos) Q:=fun F σ H R m kk=>by
 refine⟨_,zZ G hr hg hm hk hb .nil yp xh hdb he hpl,?_⟩;refine h F σ H _ m fun as vs H1 q1 t1 k1 r1=>?_;have m1:=m.kz k1 t1;refine vB m1 r1 q1 fun a v H' qa ra=>?_;obtain⟨g1,g2,g3⟩:=ra.back m1;exact kk _ v H' qa g1 (k1.trans g2) g3
theorem zx7 {Q:List PyData->Prop}(G:zE X.prog X.w X.K X.mg X.base CX0 k f fd ps (spA φ))(hr:zX k X.A)(hg:Gl X x)(hm:X.mg x=some (.ref f))(hk:PySem.W.keepIn X.K (.ref f)=true)(hb:Binds X.K fd ps [])
  (h:EvA X α (e::es) fun as=>φ as fun a=>∃ds,a=.own ds/\Q ds) (hdb:(x == ("__debug__":Str))=false:=by decide) (he:starEach (e::es) X.env=(false,eval e X.env)::starEach es X.env:=by rfl) (hpl:(backTo pos (starEach es X.env)).any (·.1)=false:=by rfl):
  EvL X α (.Call (.Name x p) (e::es) [] pos) Q:=fun F σ H R m kk=>by
 refine⟨_,zZ G hr hg hm hk hb .nil yp xh hdb he hpl,?_⟩;refine h F σ H _ m fun as vs H1 q1 t1 k1 r1=>?_;have m1:=m.kz k1 t1;refine vB m1 r1 q1 fun a v H' qa ra=>?_;obtain⟨ds,rfl,q⟩:=qa;obtain⟨g1,g2,_⟩:=ra.back m1;obtain⟨_,_,l,xs,ds',rfl,hc,h1,h2,h3,h4⟩:=ra;cases hc;exact kk ds _ H' q g1 (k1.trans g2) (xD.back m k1 t1 ⟨l,xs,rfl,h1,h3,h4⟩)
end
theorem qh {i j:Nat}{x:Option A}(h:i≠j):(α.set i x)[j]?=α[j]?:=z32 h
theorem ye {i:Nat}{x:Option A}{j:Nat}{y:Option A}(h:(α.set i x)[j]?=some y):(i=j/\x=y)\/(i≠j/\α[j]?=some y):=by
 by_cases hij:i=j
 ·subst hij;left;have hl:i<α.length:=by
   have:=(zW7.mp h).1
   rwa [z33] at this
  rw[z67 hl] at h;exact⟨rfl,zZ2 h⟩
 ·right;rw[z32 hij] at h;exact⟨hij,h⟩
theorem M.put {F:Fr}{σ:St}{H:Hp}{i:Nat}{b:Option A}(m:M F α σ H)(hf:∀s c x,σ[i]?=some s->b=some c->foot s c x->∃a,α[i]?=some (some a)/\foot s a x)
  (hok:∀s c,i<α.length->σ[i]?=some s->b=some c->uO (Gz F (α.set i b) σ H) F H s c) (hx:∀c,b=some c->noX c:=by intro c z;cases z;trivial):zB (Gz F α σ H) (Gz F (α.set i b) σ H)/\M F (α.set i b) σ H:=by
 have gs:zB (Gz F α σ H) (Gz F (α.set i b) σ H):=zz fun a o h e=>⟨fun z=>h (by
  rcases z with z|⟨j,c,s,e1,e2,f⟩
  ·exact .inl z
  ·rcases ye e1 with ⟨rfl,z⟩|⟨hj,e1'⟩
   ·obtain⟨a',h1,h2⟩:=hf s c a e2 z f;exact .inr ⟨i,a',s,h1,e2,h2⟩
   ·exact .inr ⟨j,c,s,e1',e2,f⟩),e⟩
 have old:∀{j:Nat} {c:A} {s:Option V} {x:Addr},(α.set i b)[j]?=some (some c)->σ[j]?=some s->foot s c x->∃a,α[j]?=some (some a)/\foot s a x:=fun {j c s x} e1 e2 f=>by
  rcases ye e1 with ⟨rfl,z⟩|⟨hj,e1'⟩
  ·exact hf s c x e2 z f
  ·exact⟨c,e1',f⟩
 refine⟨gs,by rw[z33];exact m.len,fun j c s e1 e2=>?_,fun j k c d s t x e1 e2 h1 h2 f1 f2=>?_,fun j r q e j' c s x e1 e2 f=>?_,m.tp,m.keep,m.oex⟩
 ·rcases ye e1 with ⟨rfl,z⟩|⟨hj,e1'⟩
  ·refine hok s c ?_ e2 z;have:=(zW7.mp e1).1
   rwa [z33] at this
  ·exact (m.ok j c s e1' e2).stay gs (fun x o f e=>⟨e,(m.ft e1' e2 f).1,(m.ft e1' e2 f).2.1⟩) rfl fun _ _ _ l=>l
 ·obtain⟨a',g1,g2⟩:=old e1 h1 f1;obtain⟨b',g3,g4⟩:=old e2 h2 f2;exact m.dj j k a' b' s t x g1 g3 h1 h2 g2 g4
 ·obtain⟨a',g1,g2⟩:=old e1 e2 f;rcases ye e with ⟨rfl,z⟩|⟨_,e'⟩
  ·exact (hx _ z).elim
  ·exact m.xd j r q e' j' a' s x g1 e2 g2
theorem M.gave {F:Fr}{σ:St}{H:Hp}{i:Nat}{a:A}{s:Option V}{b:Option A}{x:Addr}(m:M F α σ H)(e1:α[i]?=some (some a))(e2:σ[i]?=some s)(f:foot s a x)(hb:∀c,b=some c->¬foot s c x):¬Ow F (α.set i b) σ x:=by
 rintro (z|⟨j,c,t,h1,h2,g⟩)
 ·exact (m.ft e1 e2 f).1 z
 ·rcases ye h1 with ⟨rfl,z⟩|⟨hj,h1'⟩
  ·rw[e2] at h2;cases h2;exact hb c z g
  ·exact hj (m.dj i j a c s t x e1 h1' e2 h2 f g)
theorem bU {F:Fr}{σ:St}{H:Hp}{i:Nat}{b:A}(hb:∀s x,¬foot s b x):zB (Gz F α σ H) (Gz F (α.set i (some b)) σ H):=zz fun a o h e=>⟨fun z=>h (by
 rcases z with z|⟨j,c,s,e1,e2,f⟩
 ·exact .inl z
 ·rcases ye e1 with ⟨rfl,z⟩|⟨hj,e1'⟩
  ·cases z;exact (hb _ _ f).elim
  ·exact .inr ⟨j,c,s,e1',e2,f⟩),e⟩
theorem M.frz {F:Fr}{σ:St}{H:Hp}{i:Nat}{ds:List PyData}(m:M F α σ H)(hi:α[i]?=some (some (.own ds))):M F (α.set i (some (.dat (.list ds)))) σ H:=
 (m.put (b:=some (.dat (.list ds))) (fun s c' x _ z f=>by cases z;exact f.elim) fun s c' _ e2 z=>by
  cases z;obtain⟨l,o,h1,h2,h3,h4,h5⟩:=m.owc i _ hi;rw[h1] at e2;cases e2;exact⟨.ref l,rfl,(h3.same (bU (b:=.dat (.list ds)) fun _ _ f=>f)).av (zH (m.gave hi h1 rfl fun c z=>by cases z;exact id) h2)⟩).2
theorem za7 {F:Fr}{σ:St}{H H':Hp}{i:Nat}{a:A}{b:Option A}(m:M F α σ H)(k:Kz F H H')(hi:α[i]?=some (some a))(x:Addr)(o:HO)(ho:¬Ob o)(h:Gz F (α.set i b) σ H' x=some o):Gz F α σ H' x=some o:=by
 obtain⟨h1,h2⟩:=zi h;refine zH ?_ h2;rintro (z|⟨j,c,s,e1,e2,f⟩)
 ·exact h1 (.inl z)
 ·by_cases hj:i=j
  ·subst hj;obtain⟨g1,g2,o',g3,g4⟩:=m.ft e1 e2 f;rw[k _ _ g3 (m.tp.nt g1)] at h2;cases h2;exact ho g4
  ·exact h1 (.inr ⟨j,c,s,by rw[qh hj];exact e1,e2,f⟩)
theorem iW {Q:List PyData->Prop}{i:Nat}{a:A}{b:Option A}(hi:α[i]?=some (some a))(hm:∀F σ H,M F α σ H->M F (α.set i b) σ H)(h:EvL X (α.set i b) e fun d=>ur d=true/\Q d):EvL X α e Q:=fun F σ H R m k=>
 h F σ H R (hm F σ H m) fun d v H' q t kz r=>by
  obtain⟨l,xs,h1,h2,h3,h4⟩:=r;refine k d v H' q.2 t kz ⟨l,xs,h1,h2,h3,h4.noL (fun a ys hno z=>?_) q.1⟩;obtain⟨z1,z2⟩:=zi z;obtain⟨w1,w2⟩:=zi (za7 m kz hi a ys hno (zH z1.1 z2));exact zH ⟨w1,z1.2⟩ w2
theorem fX (i:Nat){ds:List PyData}(hi:α[i]?=some (some (.own ds)))(h:EvD X (α.set i (some (.dat (.list ds)))) e fun d=>noL d=true/\Q d):EvD X α e Q:=fun F σ H R m k=>
 h F σ H R (m.frz hi) fun d v H' q t kz r=>k d v H' q.2 t kz (r.noL (za7 m kz hi) q.1)
theorem fG {Q:Bool->Prop}(i:Nat){ds:List PyData}(hi:α[i]?=some (some (.own ds)))(h:EvT X (α.set i (some (.dat (.list ds)))) e Q):EvT X α e Q:=fun F σ H R m k=>h F σ H R (m.frz hi) k
theorem hG {Q:List PyData->Prop}(i:Nat){ds:List PyData}(hi:α[i]?=some (some (.own ds)))(h:EvL X (α.set i (some (.dat (.list ds)))) e fun d=>ur d=true/\Q d):EvL X α e Q:=iW hi (fun _ _ _ m=>m.frz hi) h
def ItW (p:Addr->Prop)(J:It)(ds:List PyData)(G:Hp):Prop:=∀(i:Nat) (H2:Hp) (q:Addr->Prop),zB G (sub q H2)->
 (∀d,ds[i]?=some d->J.go i H2/\∀x H3,J.yld i H2 x H3->zB H2 H3/\((∀a o,H3 a=some o->H2 a=none->q a)->AV (sub q H3) x d))/\(ds.length<=i->J.stop i H2)
def zE6 (X:Cx)(tg e:Expr):TI:=fun σ H R=>∃t,PI X tg e t/\t σ H R
theorem nh {tg e:Expr}:PI X tg e (zE6 X tg e):=fun pins s σ H R I ⟨t,p,q⟩=>p pins s σ H R I q
def EvI (X:Cx)(α:Ev)(tg e:Expr)(Q:List PyData->Prop):Prop:=∀(F:Fr) (σ:St) (H:Hp) (R:It->Hp->Prop),M F α σ H->
 (∀ds J H',Q ds->zR F H'->Kz F H H'->ItW (fun x=>¬Ow F α σ x) J ds (Gz F α σ H')->R J H')->zE6 X tg e σ H R
theorem yX {tg:Expr}{Q:List PyData->Prop}(h:EvD X α e fun x=>∃ds,x=.list ds/\Q ds):EvI X α tg e Q:=fun F σ H R m k=>by
 refine⟨_,gI zj,?_⟩;refine h F σ H _ m fun x vx H1 q1 t1 k1 r1=>?_;obtain⟨ds,rfl,q⟩:=q1;obtain⟨a,xs,rfl,h1,h2⟩:=r1.lst_inv;refine⟨a,rfl,⟨xs,SqL.of (zi h1).2⟩,k ds _ H1 q t1 k1 fun i H2 p s=>⟨fun d hd=>?_,fun hl=>?_⟩⟩
 ·obtain⟨x,hx,av⟩:=h2.get hd;have ha:=SqL.of (K:=X.K) (zi (s _ _ h1)).2;refine⟨⟨xs,x,ha,hx⟩,fun x' H3 y=>?_⟩;obtain⟨e,y⟩:=y;subst e;have:=y xs ha;rw[hx] at this;cases this;exact⟨zB.refl _,fun _=>av.same s⟩
 ·exact⟨xs,SqL.of (zi (s _ _ h1)).2,by rw[h2.length];exact hl⟩
theorem pM {p:Addr->Prop}{lo:Int}{n:Nat}{G:Hp}:ItW p (Itr lo n) ((zp lo n).map .int) G:=fun i H2 q s=>⟨fun d hd=>by
  rw[zX1,zY0] at hd;obtain⟨z,h1,rfl⟩:=hd;have hi:i<n:=by
   have:=(zW7.mp h1).1
   rwa [zc] at this
  rw[zK hi] at h1;cases h1;refine⟨hi,fun x H3 y=>?_⟩;obtain⟨rfl,rfl⟩:=y;exact⟨zB.refl _,fun _=>.int _⟩,fun hl=>by
  rw[zW3,zc] at hl;exact hl⟩
theorem xF {tg:Expr}{Q:List PyData->Prop}(hg:Gl X "range")(hm:X.mg "range"=none)(h:EvD X α a fun x=>∃j,x=.int j/\-(2 ^ 62)<=j/\j<2 ^ 62/\Q ((zp 0 j.toNat).map .int))(hs:starEach [a] X.env=[(false,eval a X.env)]:=by rfl):
  EvI X α tg (.Call (.Name "range" p) [a] [] pos) Q:=fun F σ H R m k=>by
 refine⟨_,cO hg hm (zd zj zw hs) hs,?_⟩;refine h F σ H _ m fun x vx H1 q1 t1 k1 r1=>?_;obtain⟨j,rfl,b1,b2,q⟩:=q1;cases r1.int_inv;exact⟨j,rfl,b1,b2,k _ _ H1 q t1 k1 pM⟩
theorem xo {tg:Expr}{Q:List PyData->Prop}(hg:Gl X "range")(hm:X.mg "range"=none)(h:EvD X α a fun x=>EvD X α b fun y=>∃i j,x=.int i/\y=.int j/\(-(2 ^ 62)<=i/\i<2 ^ 62/\-(2 ^ 62)<=j/\j<2 ^ 62)/\Q ((zp i (j-i).toNat).map .int))
  (hs:starEach [a,b] X.env=[(false,eval a X.env),(false,eval b X.env)]:=by rfl) (hs2:starEach [b] X.env=[(false,eval b X.env)]:=by rfl) (hs3:starEach [a,b] X.env=(false,eval a X.env)::starEach [b] X.env:=by rfl):
  EvI X α tg (.Call (.Name "range" p) [a,b] [] pos) Q:=fun F σ H R m k=>by
 refine⟨_,dz hg hm (zd zj (zd zj zw hs2) hs3) hs hs2,?_⟩;refine h F σ H _ m fun x vx H1 q1 t1 k1 r1=>?_;have m1:=m.kz k1 t1;refine q1 F σ H1 _ m1 fun y vy H2 q2 t2 k2 r2=>?_;obtain⟨i,j,rfl,rfl,bb,q⟩:=q2;cases r1.int_inv;cases r2.int_inv;exact⟨i,j,rfl,bb,k _ _ H2 q t2 (k1.trans k2) pM⟩
end
inductive Pat where
 |one (i:Nat)
 |many (is:List Nat)
noncomputable def ud :List Nat->List PyData->Ev->Option Ev
 |[],[],α=>some α
 |i::is,d::ds,α=>ud is ds (α.set i (some (.dat d)))
 |_,_,_=>none
noncomputable def Pat.bind :Pat->PyData->Ev->Option Ev
 |.one i,d,α=>some (α.set i (some (.dat d)))
 |.many is,.tuple ds,α=>ud is ds α
 |_,_,_=>none
def gIs :List Nat->TGs
 |[]=>zR2
 |i::is=>zA8 (oA i) (gIs is)
def lM (K:PySem.W.Frag):Pat->TG
 |.one i=>oA i
 |.many is=>zG0 K is.length (gIs is)
noncomputable def Pat.slots :Pat->List Nat
 |.one i=>[i]
 |.many is=>is
noncomputable def isFree (α:Ev)(i:Nat):Bool:=match α[i]? with
 |some none=>true
 |_=>false
noncomputable def Pat.free (p:Pat)(α:Ev):Bool:=p.slots.all (isFree α)
section
variable {X:Cx}{α α':Ev}{F:Fr}{σ:St}{H:Hp}
theorem M.store {i:Nat}{v:V}{b:A}{H':Hp}(m:M F α σ H)(t:zR F H')(k:Kz F H H')(hn:∀x,foot (some v) b x->H x=none)(hok:uO (sub (fun x=>¬Ow F α σ x/\¬foot (some v) b x) H') F H' (some v) b)(hx:noX b:=by trivial):M F (α.set i (some b)) (σ.set i (some v)) H':=by
 have m':=m.kz k t;have hs:∀{j:Nat} {c:A} {s:Option V},(α.set i (some b))[j]?=some (some c)->(σ.set i (some v))[j]?=some s->(i=j/\c=b/\s=some v)\/(i≠j/\α[j]?=some (some c)/\σ[j]?=some s):=fun {j c s} e1 e2=>by
  rcases ye e1 with ⟨rfl,z⟩|⟨hj,e1'⟩
  ·cases z;have hl:i<σ.length:=by
    have:=(zW7.mp e2).1
    rwa [z33] at this
   rw[z67 hl] at e2;cases e2;exact .inl ⟨rfl,rfl,rfl⟩
  ·rw[z32 hj] at e2;exact .inr ⟨hj,e1',e2⟩
 have ow:∀{y:Addr},Ow F (α.set i (some b)) (σ.set i (some v)) y->Ow F α σ y\/foot (some v) b y:=fun {y} h=>by
  rcases h with z|⟨j,c,s,e1,e2,f⟩
  ·exact .inl (.inl z)
  ·rcases hs e1 e2 with ⟨_,rfl,rfl⟩|⟨_,g1,g2⟩
   ·exact .inr f
   ·exact .inl (.inr ⟨j,c,s,g1,g2,f⟩)
 have g1:zB (sub (fun x=>¬Ow F α σ x/\¬foot (some v) b x) H') (Gz F (α.set i (some b)) (σ.set i (some v)) H'):=zz fun a o h e=>⟨fun z=>(ow z).elim h.1 h.2,e⟩;have g0:zB (Gz F α σ H) (sub (fun x=>¬Ow F α σ x/\¬foot (some v) b x) H'):=zz fun a o h e=>⟨⟨h,fun z=>by rw[hn a z] at e;cases e⟩,k a o e (m.tp.nt (ow0 h))⟩;refine⟨by rw[z33,z33];exact m.len,fun j c s e1 e2=>?_,fun j j' c d s s' x e1 e2 h1 h2 f1 f2=>?_,fun j r q e j' c s x e1 e2 f=>?_,t,m.keep.trans k,m'.oex⟩
 ·rcases hs e1 e2 with ⟨rfl,rfl,rfl⟩|⟨_,z1,z2⟩
  ·exact hok.stay g1 (fun x o f e=>by
    obtain⟨w1,w2,_⟩:=nB hok f;exact⟨e,w1,w2⟩) rfl fun _ _ _ l=>l
  ·exact (m.ok j c s z1 z2).stay (g0.trans g1) (fun x o f e=>by
    obtain⟨w1,w2,_⟩:=m.ft z1 z2 f;exact⟨k x o e (m.tp.nt w1),w1,w2⟩) rfl fun _ _ _ l=>l.kz k t
 ·have nn:∀{j:Nat} {c:A} {s:Option V},α[j]?=some (some c)->σ[j]?=some s->foot s c x->¬foot (some v) b x:=fun {j c s} z1 z2 f g=>by
   obtain⟨_,_,o,w,_⟩:=m.ft z1 z2 f;rw[hn x g] at w;cases w
  rcases hs e1 h1 with ⟨rfl,rfl,rfl⟩|⟨_,z1,z2⟩
  ·rcases hs e2 h2 with ⟨rfl,_⟩|⟨_,w1,w2⟩
   ·rfl
   ·exact absurd f1 (nn w1 w2 f2)
  ·rcases hs e2 h2 with ⟨rfl,rfl,rfl⟩|⟨_,w1,w2⟩
   ·exact absurd f2 (nn z1 z2 f1)
   ·exact m.dj j j' c d s s' x z1 w1 z2 w2 f1 f2
 ·rcases ye e with ⟨rfl,z⟩|⟨_,e'⟩
  ·cases z;exact hx.elim
  ·rcases hs e1 e2 with ⟨rfl,rfl,rfl⟩|⟨_,z1,z2⟩
   ·exact (m.lnk e').none (hn x f)
   ·exact m.xd j r q e' j' c s x z1 z2 f
theorem M.set {i:Nat}{v:V}{d:PyData}(m:M F α σ H)(av:AV (Gz F α σ H) v d):M F (α.set i (some (.dat d))) (σ.set i (some v)) H:=
 m.store m.tp Kz.refl (fun x z=>z.elim) ⟨v,rfl,av.same (zz fun a o h e=>⟨⟨h,fun z=>z⟩,e⟩)⟩
theorem M.setC {i:Nat}{v:V}{c:PyData}{H':Hp}(m:M F α σ H)(t:zR F H')(k:Kz F H H')(fl:jk F α σ H v H' c):M F (α.set i (some (.ow c))) (σ.set i (some v)) H':=by
 obtain⟨l,o,rfl,h1,h2,h3⟩:=fl;have nl:¬Ow F α σ l:=m.fresh h1;refine m.store t k (fun x z=>?_) ⟨l,o,rfl,h2,h3.same (zz fun a o h e=>⟨⟨h.1,fun z=>h.2 (by cases z;rfl)⟩,e⟩),ow0 nl,m.fresh0 h1⟩;have z':some (V.ref l)=some (.ref x):=z;cases z';exact h1
theorem M.setOwn {i:Nat}{v:V}{ds:List PyData}{H':Hp}(m:M F α σ H)(t:zR F H')(k:Kz F H H')(fl:xD F α σ H v H' ds):M F (α.set i (some (.own ds))) (σ.set i (some v)) H':=m.setC t k fl.c
theorem M.wr {x:Addr}{o:HO}(m:M F α σ H)(hno:vG o)(ho:F.O0 x)(ht:∀t b c,F.tp=some (t,b,c)->x≠t/\x≠b/\x≠c)(h0:F.H0 x=none)(hpl:Plain H x)(hx:∀(i:Nat) r q,α[i]?=some (some (.exc r q))->r.H0 x=none):M F α σ (upd H x o):=by
 have gs:zB (Gz F α σ H) (Gz F α σ (upd H x o)):=zz fun a u h e=>⟨h,by rw[zg (fun z=>h (.inl (by rw[z];exact ho)))];exact e⟩;refine⟨m.len,fun j c s e1 e2=>?_,m.dj,m.xd,m.tp.upd ht hpl,fun y u e n=>?_,fun y hy=>?_⟩
 ·have:=m.ok j c s e1 e2;cases c with
  |exc r q=>
   have l:Lnk r F H:=this;exact⟨l.tp,l.o,l.ok.upd (fun a b c e=>ht a b c (l.tp▸e)) hpl,fun y u e n=>by rw[zg (zo e (hx j r q e1))];exact l.k y u e n⟩
  |_=>exact this.stay gs (fun y u f e=>by
    obtain⟨w1,w2,_⟩:=m.ft e1 e2 f;exact⟨by rw[zg (fun z=>w1 (by rw[z];exact ho))];exact e,w1,w2⟩) rfl fun _ _ z=>by cases z
 ·rw[zg (zo e h0)];exact m.keep y u e n
 ·by_cases z:y=x
  ·exact⟨o,by rw[z];exact zk,hno⟩
  ·obtain⟨u,hu,hn⟩:=m.oex y hy;exact⟨u,by rw[zg z];exact hu,hn⟩
theorem M.forget {α0:Ev}(m:M F α σ H)(hl:α0.length=α.length)(le:∀(i:Nat) a,α0[i]?=some (some a)->α[i]?=some (some a)):M F α0 σ H:=by
 have ow:∀{y:Addr},Ow F α0 σ y->Ow F α σ y:=fun {y} h=>by
  rcases h with z|⟨j,c,s,e1,e2,f⟩
  ·exact .inl z
  ·exact .inr ⟨j,c,s,le _ _ e1,e2,f⟩
 have gs:zB (Gz F α σ H) (Gz F α0 σ H):=zz fun a o h e=>⟨fun z=>h (ow z),e⟩;exact⟨hl.trans m.len,fun j c s e1 e2=>(m.ok j c s (le _ _ e1) e2).stay gs (fun x o f e=>⟨e,(m.ft (le _ _ e1) e2 f).1,(m.ft (le _ _ e1) e2 f).2.1⟩) rfl fun _ _ _ l=>l,fun j j' c d s s' x e1 e2=>m.dj j j' c d s s' x (le _ _ e1) (le _ _ e2),fun j r q e j' c s x e1=>m.xd j r q (le _ _ e) j' c s x (le _ _ e1),m.tp,m.keep,m.oex⟩
theorem ox {H:Hp}:∀{is:List Nat} {ds:List PyData} {α α':Ev} {σ:St} {xs:List V} {R:St->Hp->Prop},ud is ds α=some α'->M F α σ H->(∀G,zB (Gz F α σ H) G->AVs G xs ds)->(∀σ',M F α' σ' H->R σ' H)->gIs is xs σ H R
 |[],[],α,α',σ,xs,R,e,m,av,k=>by
  cases e;cases av _ (zB.refl _);exact⟨rfl,k σ m⟩
 |i::is,d::ds,α,α',σ,xs,R,e,m,av,k=>by
  cases h:av _ (zB.refl _) with
  |@cons x xs _ _ h1 h2=>
   refine⟨x,xs,rfl,?_⟩;have gs:zB (Gz F α σ H) (Gz F (α.set i (some (.dat d))) (σ.set i (some x)) H):=zz fun a o h e=>⟨fun z=>h (by
    rcases z with z|⟨j,c,s,e1,e2,f⟩
    ·exact .inl z
    ·rcases ye e1 with ⟨_,z⟩|⟨hj,e1'⟩
     ·cases z;exact f.elim
     ·rw[z32 hj] at e2;exact .inr ⟨j,c,s,e1',e2,f⟩),e⟩
   exact ox (is:=is) (ds:=ds) e (m.set (i:=i) h1) (fun G s=>h2.same (gs.trans s)) k
 |[],_::_,_,_,_,_,_,e,_,_,_=>by cases e
 |_::_,[],_,_,_,_,_,e,_,_,_=>by cases e
theorem fA {K:PySem.W.Frag}{pat:Pat}{d:PyData}{v:V}{R:St->Hp->Prop}(e:pat.bind d α=some α')(m:M F α σ H)(av:AV (Gz F α σ H) v d)(k:∀σ',M F α' σ' H->R σ' H):lM K pat v σ H R:=by
 cases pat with
 |one i=>cases e;exact k _ (m.set av)
 |many is=>
  cases d with
  |tuple ds=>
   obtain⟨a,xs,rfl,h1,h2⟩:=av.tup_inv;have hl:∀{is:List Nat} {ds:List PyData} {α α':Ev},ud is ds α=some α'->ds.length=is.length:=by
    intro is
    induction is with
    |nil=>intro ds α α' h;cases ds with|nil=>rfl|cons _ _=>cases h
    |cons i is ih=>intro ds α α' h;cases ds with|nil=>cases h|cons d ds=>rw[zX9,zX9,ih h]
   exact⟨a,xs,rfl,SqT.of (zi h1).2,by rw[h2.length];exact hl e,ox e m (fun G s=>h2.same s) k⟩
  |_=>cases e
theorem qx :∀{is:List Nat} {ds:List PyData} {α α':Ev},ud is ds α=some α'->α'.length=α.length
 |[],[],_,_,e=>by cases e;rfl
 |i::is,d::ds,α,α',e=>by
  have:=qx (is:=is) (ds:=ds) e
  rwa [z33] at this
 |[],_::_,_,_,e=>by cases e
 |_::_,[],_,_,e=>by cases e
theorem qO :∀{is:List Nat} {ds:List PyData} {α α':Ev} {j:Nat},ud is ds α=some α'->j∉is->α'[j]?=α[j]?
 |[],[],_,_,_,e,_=>by cases e;rfl
 |i::is,d::ds,α,α',j,e,h=>by
  rw[qO (is:=is) (ds:=ds) e fun z=>h (zX3 _ z)];exact z32 fun (z:i=j)=>h (by rw[<-z];exact zX7)
 |[],_::_,_,_,_,e,_=>by cases e
 |_::_,[],_,_,_,e,_=>by cases e
theorem qK :∀{is:List Nat} {ds:List PyData} {α α':Ev} {j:Nat} {a:A},ud is ds α=some α'->α'[j]?=some (some a)->(∀d,a≠.dat d)->α[j]?=some (some a)
 |[],[],_,_,_,_,e,h,_=>by cases e;exact h
 |i::is,d::ds,α,α',j,a,e,h,hn=>by
  rcases ye (qK (is:=is) (ds:=ds) e h hn) with ⟨_,z⟩|⟨_,z⟩
  ·cases z;exact absurd rfl (hn d)
  ·exact z
 |[],_::_,_,_,_,_,e,_,_=>by cases e
 |_::_,[],_,_,_,_,e,_,_=>by cases e
theorem Pat.is_ok {pat:Pat}{d:PyData}(e:pat.bind d α=some α'):∃is ds,pat.slots=is/\ud is ds α=some α':=by
 cases pat with
 |one i=>cases e;exact⟨_,[d],rfl,rfl⟩
 |many is=>
  cases d with
  |tuple ds=>exact⟨_,ds,rfl,e⟩
  |_=>cases e
theorem Pat.back {pat:Pat}{d:PyData}(e:pat.bind d α=some α')(fr:pat.free α=true)(m:M F α' σ H):M F α σ H:=by
 obtain⟨is,ds,rfl,e⟩:=Pat.is_ok e;refine m.forget (qx e).symm fun j a h=>?_;by_cases hj:j∈pat.slots
 ·have:=z64.mp fr j hj;unfold isFree at this;rw[h] at this;cases this
 ·rw[qO e hj];exact h
end
section
variable {X:Cx}{α:Ev}
def zc5 (X:Cx)(α:Ev)(ifs:List Expr)(Q:Bool->Prop):Prop:=∀(F:Fr) (σ:St) (H:Hp) (R:Bool->Hp->Prop),M F α σ H->(∀b H',Q b->zR F H'->Kz F H H'->R b H')->∃t,vZ X ifs t/\t σ H R
def zA1 (X:Cx)(ifs:List Expr):TT:=fun σ H R=>∃t,vZ X ifs t/\t σ H R
theorem gX {ifs:List Expr}:vZ X ifs (zA1 X ifs):=fun pins s σ H Q I ⟨t,p,q⟩=>p pins s σ H Q I q
theorem aD {Q:Bool->Prop}(q:Q true):zc5 X α [] Q:=fun F σ H R m k=>⟨_,zp0,k _ H q m.tp Kz.refl⟩
theorem kN {c:Expr}{Q:Bool->Prop}(h:EvT X α c Q):zc5 X α [c] Q:=fun F σ H R m k=>⟨_,fN xJ,h F σ H R m k⟩
noncomputable def seen :Option A->Option A
 |some (.dat d)=>some (.dat d)
 |some .tape=>some .tape
 |_=>none
noncomputable def xp (imp:List (Option Nat))(α:Ev):Ev:=imp.map fun o=>o.bind fun j=>(α[j]?).bind seen
theorem kE {imp:List (Option Nat)}{i:Nat}{a:A}(h:(xp imp α)[i]?=some (some a)):∃j,imp[i]?=some (some j)/\α[j]?=some (some a)/\((∃d,a=.dat d)\/a=.tape):=by
 unfold xp at h;rw[zX1,zY0] at h;obtain⟨o,h1,h2⟩:=h;cases o with
 |none=>cases h2
 |some j=>
  have h2':(α[j]?).bind seen=some a:=h2;cases q:α[j]? with
  |none=>rw[q] at h2';cases h2'
  |some b=>
   rw[q] at h2';cases b with
   |none=>cases h2'
   |some b=>
    cases b with
    |dat d=>cases h2';exact⟨j,h1,q,.inl ⟨d,rfl⟩⟩
    |tape=>cases h2';exact⟨j,h1,q,.inr rfl⟩
    |_=>cases h2'
theorem kf {imp:List (Option Nat)}{σ:St}{i j:Nat}{v:V}(h1:imp[i]?=some (some j))(h2:σ[j]?=some (some v)):(wQ imp σ)[i]?=some (some v):=by
 unfold wQ;rw[zX1,h1];show some ((σ[j]?).bind id)=_;rw[h2];rfl
def wA (Y:Addr->Shared->Hp->List Addr->Cx)(pat:Pat)(ifs:List Expr)(elt:Expr)(α0:Ev):List PyData->List PyData->(List PyData->Prop)->Prop
 |[],acc,Q=>Q acc
 |d::ds,acc,Q=>∃α1,pat.bind d α0=some α1/\∀C s2 H2 fp,zc5 (Y C s2 H2 fp) α1 ifs fun k=>if k=true then ∀C s2 H2 fp,EvD (Y C s2 H2 fp) α1 elt fun y=>wA Y pat ifs elt α0 ds (acc++[y]) Q else wA Y pat ifs elt α0 ds acc Q
def eC (Y:Addr->Shared->Hp->List Addr->Cx)(e:Expr):TE:=fun σ H Q=>∀C s2 H2 fp,tf (Y C s2 H2 fp) e σ H Q
def tsC (Y:Addr->Shared->Hp->List Addr->Cx)(ifs:List Expr):TT:=fun σ H Q=>∀C s2 H2 fp,zA1 (Y C s2 H2 fp) ifs σ H Q
theorem fj {N:List Str}{imp:List (Option Nat)}{scope:Scope}{tg iter elt:Expr}{ifs:List Expr}{pat:Pat}{Q:List PyData->Prop}(hfree:pat.free (xp imp α)=true)
  (h:EvI X α tg iter fun ds=>ds.length<=1000/\wA (fun C s2 H2 fp=>X.comp N scope C s2 H2 fp) pat ifs elt (xp imp α) ds [] Q)
  (F:Fr) (σ:St) (H:Hp) (R:VK) (m:M F α σ H) (k:∀ds v H',Q ds->zR F H'->Kz F H H'->xD F α σ H v H' ds->R v H'):
  ∃Y:Addr->Shared->Hp->List Addr->Cx,Y=(fun C s2 H2 fp=>X.comp N scope C s2 H2 fp)/\aT (zE6 X tg iter) imp (lM X.K pat) (tsC Y ifs) (eC Y elt) σ H R:=by
 refine⟨_,rfl,?_⟩;refine h F σ H _ m fun ds J H1 ⟨hl,q1⟩ t1 k1 itw acc hacc=>?_;have m1:=m.kz k1 t1;have nacc:¬Ow F α σ acc:=m1.fresh hacc
 let Fc:Fr:=⟨H1,fun x=>Ow F α σ x\/x=acc,F.tp⟩
 let Nd:Ev->Prop:=fun α1=>∀(j:Nat) a,α1[j]?=some (some a)->(∃d,a=.dat d)\/a=.tape
 have no0:Nd (xp imp α):=fun j a z=>by
  obtain⟨_,_,_,n⟩:=kE z;exact n
 have owc:∀{α1:Ev} {τ:St} {x:Addr},Nd α1->(Ow Fc α1 τ x↔Fc.O0 x):=fun {α1 τ x} hh=>⟨fun z=>z.elim id fun⟨j,a,s,e1,e2,f⟩=>by
  rcases hh j a e1 with ⟨d,rfl⟩|rfl
  ·exact f.elim
  ·exact f.elim,.inl⟩
 have gz:∀{α1 α2:Ev} {τ1 τ2:St} {H:Hp},Nd α1->Nd α2->zB (Gz Fc α1 τ1 H) (Gz Fc α2 τ2 H):=fun h1 h2=>zz fun a o h e=>⟨fun z=>h ((owc h1).mpr ((owc h2).mp z)),e⟩;have tpc:∀{H2:Hp},zR F H2->zR Fc H2:=fun t=>t.to rfl fun x z=>.inl (.inl z);have s01:zB H1 (upd H1 acc (.lst [])):=yB hacc;have mc0:M Fc (xp imp α) (wQ imp σ) (upd H1 acc (.lst [])):=by
  have g1:zB (Gz F α σ H1) (Gz Fc (xp imp α) (wQ imp σ) (upd H1 acc (.lst []))):=fun a o e=>by
   obtain⟨z1,z2⟩:=zi e;have na:a≠acc:=zo z2 hacc;exact zH (fun z=>((owc no0).mp z).elim z1 na) (by rw[zg na];exact z2)
  refine⟨by unfold xp wQ;rw[zW3,zW3],fun i a s e1 e2=>?_,fun i j a b s t x e1 e2 _ _ f=>?_,fun i r q e=>(by rcases no0 i _ e with ⟨d,w⟩|w<;>cases w),tpc (t1.same s01),fun x o e _=>s01 x o e,?_⟩
  ·obtain⟨j,w1,w2,w3⟩:=kE e1;rcases w3 with ⟨d,rfl⟩|rfl
   ·obtain⟨v,g2,g3⟩:=m1.dat j d w2;rw[kf w1 g2] at e2;cases e2;exact⟨v,rfl,g3.same g1⟩
   ·obtain⟨t,b,c,g2,g3⟩:=m1.tvar j w2;rw[kf w1 g3] at e2;cases e2;exact⟨t,b,c,g2,rfl⟩
  ·rcases no0 i a e1 with ⟨d,rfl⟩|rfl
   ·exact f.elim
   ·exact f.elim
  ·rintro x (z|z)
   ·have:∃o,H1 x=some o/\vG o:=m1.owEx z;obtain⟨o,ho,hn⟩:=this;exact⟨o,s01 _ _ ho,hn⟩
   ·exact⟨_,by rw[z];exact zk,xH⟩
 refine⟨fun i n ys τ H2=>n=ds.length-i/\i<=ds.length/\∃ad:List PyData,M Fc (xp imp α) τ H2/\H2 acc=some (.lst ys)/\AVs (Gz Fc (xp imp α) τ H2) ys ad/\ad.length<=i/\wA (fun C s2 H2 fp=>X.comp N scope C s2 H2 fp) pat ifs elt (xp imp α) (ds.drop i) ad Q,
  ⟨ds.length,by simp,zY8 _,[],mc0,zk,.nil,zW9 _,q1⟩,?_⟩
 rintro i n ys τ H2 ⟨rfl,hi,ad,m2,ha,av,had,cw⟩;have sG:zB (Gz F α σ H1) (Gz Fc (xp imp α) τ H2):=fun a o e=>by
  obtain⟨z1,z2⟩:=zi e;exact m2.old a o (zH (p:=fun x=>¬Fc.O0 x) (fun z=>z.elim z1 (zo z2 hacc)) z2)
 obtain⟨w1,w2⟩:=itw i H2 _ sG;by_cases hlt:i<ds.length
 ·have hd:ds[i]?=some ds[i]:=zW6 hlt;have hdr:ds.drop i=ds[i]::ds.drop (i+1):=z79 hlt;rw[hdr] at cw;obtain⟨α1,eb,body⟩:=cw;obtain⟨go,yl⟩:=w1 _ hd;have no1:Nd α1:=fun j a z=>by
   obtain⟨is,ds',_,e⟩:=Pat.is_ok eb;by_cases hn:∀d,a≠.dat d
   ·exact no0 j a (qK e z hn)
   ·simp only[Classical.not_forall,Classical.not_not] at hn;exact .inl hn
  refine .inr ⟨go,fun ys' τ' H'=>∃ad:List PyData,M Fc (xp imp α) τ' H'/\H' acc=some (.lst ys')/\AVs (Gz Fc (xp imp α) τ' H') ys' ad/\ad.length<=i+1/\wA (fun C s2 H2 fp=>X.comp N scope C s2 H2 fp) pat ifs elt (xp imp α) (ds.drop (i+1)) ad Q,
   fun ys' τ' H' ⟨ad',r1,r2,r3,r4,r5⟩=>⟨ds.length-(i+1),by omega,rfl,hlt,ad',r1,r2,r3,r4,r5⟩,fun x H3 y=>?_⟩
  obtain⟨s23,avx⟩:=yl x H3 y;have m3:M Fc (xp imp α) τ H3:=m2.kz (Kz.of_same s23) (m2.tp.same s23);have avx':=avx fun a o _ e=>m2.fresh e;refine fA eb m3 avx' fun τ1 m4 C s2 H2' fp=>?_;refine body C s2 H2' fp Fc τ1 H3 _ m4 fun b H5 qb t5 k5=>?_;have m5:=m4.kz k5 t5;have av5:AVs (Gz Fc (xp imp α) τ1 H5) ys ad:=av.same ((Kz.of_same s23).gz m2.tp |>.trans ((gz (τ2:=τ1) no0 no1).trans ((k5.gz m4.tp).trans (gz no1 no0))));have accN:NT Fc acc:=⟨fun t b c e=>by
   have:=(t1 t b c e).1.free hacc;exact⟨this.1,this.2.1⟩,lH t1.tab hacc⟩
  have ha5:H5 acc=some (.lst ys):=k5 _ _ (s23 _ _ ha) accN;cases b with
  |false=>
   have qb':wA (fun C s2 H2 fp=>X.comp N scope C s2 H2 fp) pat ifs elt (xp imp α) (ds.drop (i+1)) ad Q:=by simpa using qb
   exact uM ⟨ad,Pat.back eb hfree m5,ha5,av5,by omega,qb'⟩
  |true=>
   refine uo fun C s2 H2'' fp=>?_;have qe:EvD (X.comp N scope C s2 H2'' fp) α1 elt fun y=>wA (fun C s2 H2 fp=>X.comp N scope C s2 H2 fp) pat ifs elt (xp imp α) (ds.drop (i+1)) (ad++[y]) Q:=by
    have z:=qb;rw[if_pos rfl] at z;exact z C s2 H2'' fp
   refine qe Fc τ1 H5 _ m5 fun y v H6 qy t6 k6 r6=>?_;have m6:=m5.kz k6 t6;have ha6:H6 acc=some (.lst ys):=k6 _ _ ha5 accN;have hlen:ys.length<=i:=by rw[av.length];exact had
   have oacc:Fc.O0 acc:=.inr rfl;have tacc:∀t b c,Fc.tp=some (t,b,c)->acc≠t/\acc≠b/\acc≠c:=fun t b c e=>(t1 t b c e).1.free hacc;have m7:=(Pat.back eb hfree m6).wr (o:=.lst (ys++[v])) xH oacc tacc hacc (pG ha6) (fun i r q z=>by rcases no0 i _ z with ⟨d,w⟩|w<;>cases w);refine⟨ha6,yW (by omega),ad++[y],m7,zk,?_,by simp;omega,qy⟩;have g67:zB (Gz Fc (xp imp α) τ1 H6) (Gz Fc (xp imp α) τ1 (upd H6 acc (.lst (ys++[v])))):=zz fun a o h e=>⟨h,by rw[zg (fun z=>h (.inl (by rw[z];exact oacc)))];exact e⟩;exact ((av5.same ((gz (τ2:=τ1) no0 no1).trans ((k6.gz m5.tp).trans (gz no1 no0)))).append (.cons (r6.same (gz no1 no0)) .nil)).same g67
 ·have e:i=ds.length:=by omega
  subst e;rw[yc6] at cw;refine .inl ⟨w2 (zW9 _),k ad _ H2 cw ?_ (k1.trans m2.keep) (xD.back m k1 t1 ⟨acc,ys,rfl,hacc,ha,av.same (zz fun a o h e=>⟨⟨fun z=>h (.inl (.inl z)),fun z=>h (.inl (.inr z))⟩,e⟩)⟩)⟩;exact m.tp.re m2.tp rfl
theorem zA7 {N:List Str}{imp:List (Option Nat)}{scope:Scope}{tg iter elt:Expr}{ifs:List Expr}{pat:Pat}{Q:List PyData->Prop}{pos:Pos}(hc:X.calm=true)(S:zY X.N X.env.scope N imp scope)(hfree:pat.free (xp imp α)=true)
  (hg:∀C s2 H2 fp,PG (X.comp N scope C s2 H2 fp) tg (lM X.K pat))
  (h:EvI X α tg iter fun ds=>ds.length<=1000/\wA (fun C s2 H2 fp=>X.comp N scope C s2 H2 fp) pat ifs elt (xp imp α) ds [] Q) (hs:∀x,foldedSetIterable iter X.env x=pure x:=by intro _;rfl):
  EvL X α (.ListComp elt [⟨tg,iter,ifs,0⟩] scope pos) Q:=fun F σ H R m k=>by
 obtain⟨Y,rfl,h⟩:=fj hfree h F σ H R m k;exact⟨_,zy0 hc S nh hg (fun C s2 H2 fp pins s σ H Q I h=>gX pins s σ H Q I (h C s2 H2 fp)) (fun C s2 H2 fp pins s σ H Q I h=>zj pins s σ H Q I (h C s2 H2 fp)) hs,h⟩
section
variable {E:xy}{rest body:List Stmt}{e c tg iter:Expr}{pos p:Pos}
theorem mP.then {F:Fr}{D:Ends}(h:mP F E D):mP F {E with nx:=fun α'=>SvS X α' rest E} {D with nx:=zs0 X rest D}:=
 ⟨fun α' σ' H' m q=>q F σ' H' D m h,h.rt,h.bk,h.ct⟩
theorem zu (q:E.nx α):SvS X α [] E:=fun F σ H D m h=>⟨_,yN,h.nx _ _ _ m q⟩
theorem SvS.imp {sts:List Stmt}{E':xy}(h:SvS X α sts E')(hn:∀α,E'.nx α->E.nx α)(hr:∀a,E'.rt a->E.rt a)(hb:∀α,E'.bk α->E.bk α)(hc:∀α,E'.ct α->E.ct α):SvS X α sts E:=fun F σ H D m r=>
 h F σ H D m ⟨fun α σ H m q=>r.nx α σ H m (hn _ q),fun a v H m q=>r.rt a v H m (hr _ q),fun α σ H m q=>r.bk α σ H m (hb _ q),fun α σ H m q=>r.ct α σ H m (hc _ q)⟩
theorem zQ (i:Nat){x:Str}{pos':Pos}(hN:X.N.Nodup)(h:EvD X α e fun d=>SvS X (α.set i (some (.dat d))) rest E)(hi:X.N[i]?=some x:=by rfl)(hx:Loc X.env.scope x:=by first|exact Or.inl rfl|exact Or.inr rfl)
  (hs:swapsWith e (some (.Name x pos')) pos.line X.env=pure false:=by rfl) (hf:X.fn x=true\/X.env.scope.names.lookup x=some .local:=by first|exact .inl rfl|exact .inr rfl|assumption):SvS X α (.Assign [.Name x pos'] e pos::rest) E:=fun F σ H D m r=>by
 refine⟨_,zT (vw hN hi hx zj hs hf) yj,?_⟩;exact h F σ H _ m fun d v H1 q1 t1 k1 r1=>q1 F _ H1 D ((m.kz k1 t1).set r1) r
theorem yV (i:Nat){x:Str}{pos':Pos}(hN:X.N.Nodup)(h:EvL X α e fun ds=>SvS X (α.set i (some (.own ds))) rest E)(hi:X.N[i]?=some x:=by rfl)(hx:Loc X.env.scope x:=by first|exact Or.inl rfl|exact Or.inr rfl)
  (hs:swapsWith e (some (.Name x pos')) pos.line X.env=pure false:=by rfl) (hf:X.fn x=true\/X.env.scope.names.lookup x=some .local:=by first|exact .inl rfl|exact .inr rfl|assumption):SvS X α (.Assign [.Name x pos'] e pos::rest) E:=fun F σ H D m r=>by
 refine⟨_,zT (vw hN hi hx zj hs hf) yj,?_⟩;exact h F σ H _ m fun d v H1 q1 t1 k1 r1=>q1 F _ H1 D (m.setOwn t1 k1 r1) r
theorem ze4 (i:Nat){x:Str}{pos' cpos:Pos}{N:List Str}{imp:List (Option Nat)}{scope:Scope}{elt:Expr}{ifs:List Expr}{pat:Pat}(hN:X.N.Nodup)(hc:X.calm=true)(S:zY X.N X.env.scope N imp scope)(hfree:pat.free (xp imp α)=true)
  (hg:∀C s2 H2 fp,PG (X.comp N scope C s2 H2 fp) tg (lM X.K pat))
  (h:EvI X α tg iter fun ds=>ds.length<=1000/\wA (fun C s2 H2 fp=>X.comp N scope C s2 H2 fp) pat ifs elt (xp imp α) ds [] fun ds=>SvS X (α.set i (some (.own ds))) rest E)
  (hi:X.N[i]?=some x:=by rfl) (hx:Loc X.env.scope x:=by first|exact Or.inl rfl|exact Or.inr rfl) (hsw:swapsWith (.ListComp elt [⟨tg,iter,ifs,0⟩] scope cpos) (some (.Name x pos')) pos.line X.env=pure true:=by rfl)
  (hf:X.fn x=true\/X.env.scope.names.lookup x=some .local:=by first|exact .inl rfl|exact .inr rfl|assumption) (hs:∀x,foldedSetIterable iter X.env x=pure x:=by intro _;rfl):
  SvS X α (.Assign [.Name x pos'] (.ListComp elt [⟨tg,iter,ifs,0⟩] scope cpos) pos::rest) E:=fun F σ H D m r=>by
 obtain⟨Y,rfl,h⟩:=fj hfree h F σ H (fun v H'=>zs0 X rest D (σ.set i (some v)) H') m fun ds v H' q t k fl=>q F _ H' D (m.setOwn t k fl) r;exact⟨_,zT (zl3 hc S nh hg (fun C s2 H2 fp pins s σ H Q I h=>gX pins s σ H Q I (h C s2 H2 fp)) (fun C s2 H2 fp pins s σ H Q I h=>zj pins s σ H Q I (h C s2 H2 fp)) hN hi hx hsw hf hs) yj,h⟩
theorem sH.dat {F:Fr}{σ:St}{H:Hp}{v:V}{d:PyData}(m:M F α σ H)(r:AV (Gz F α σ H) v d):sH F v H (.dat d):=
 ⟨m.tp,m.keep,r.same (zz fun a o h e=>⟨ow0 h,e⟩)⟩
theorem wF (h:EvD X α e fun d=>E.rt (.dat d)):SvS X α (.Return (some e) pos::rest) E:=fun F σ H D m r=>by
 refine⟨_,zT (zD zj) yj,?_⟩;exact h F σ H _ m fun d v H1 q1 t1 k1 r1=>r.rt _ _ _ (sH.dat (m.kz k1 t1) r1) q1
theorem tN (h:EvL X α e fun ds=>E.rt (.own ds)):SvS X α (.Return (some e) pos::rest) E:=fun F σ H D m r=>by
 refine⟨_,zT (zD zj) yj,?_⟩;refine h F σ H _ m fun d v H1 q1 t1 k1 r1=>r.rt _ _ _ ?_ q1;obtain⟨l,xs,h1,h2,h3,h4⟩:=r1;exact⟨t1,m.keep.trans k1,l,xs,_,h1,rfl,m.fresh0 h2,ow0 (m.fresh h2),h3,h4.same (zz fun a o h e=>⟨⟨ow0 h.1,h.2⟩,e⟩)⟩
theorem xr (i:Nat){x:Str}{ds:List PyData}(hi:α[i]?=some (some (.own ds)))(q:E.rt (.own ds))(hN:X.N[i]?=some x:=by rfl)(hv:Vis X.env.scope x:=by first|exact Or.inl rfl|exact Or.inr (Or.inl rfl)|exact Or.inr (Or.inr rfl))
  (hd:(x == ("__debug__":Str))=false:=by decide) (hcd:(x == ("__classdict__":Str))=false:=by decide):SvS X α (.Return (some (.Name x p)) pos::rest) E:=fun F σ H D m r=>by
 obtain⟨l,xs,h1,h2,h3,h4,h5⟩:=m.own i ds hi;refine⟨_,zT (zD (xQ hN hv hd hcd)) yj,.ref l,h1,r.rt (.own ds) _ _ ⟨m.tp,m.keep,l,xs,_,rfl,rfl,h5,h4,h2,h3.same (zz fun a o h e=>⟨⟨ow0 h,fun z=>h (by rw[z];exact .inr ⟨i,_,_,hi,h1,rfl⟩)⟩,e⟩)⟩ q⟩
theorem gL (i:Nat){x:Str}{pos':Pos}(hN:X.N.Nodup)(h:EvC X α e fun c=>SvS X (α.set i (some (.ow c))) rest E)(hi:X.N[i]?=some x:=by rfl)(hx:Loc X.env.scope x:=by first|exact Or.inl rfl|exact Or.inr rfl)
  (hs:swapsWith e (some (.Name x pos')) pos.line X.env=pure false:=by rfl) (hf:X.fn x=true\/X.env.scope.names.lookup x=some .local:=by first|exact .inl rfl|exact .inr rfl|assumption):SvS X α (.Assign [.Name x pos'] e pos::rest) E:=fun F σ H D m r=>by
 refine⟨_,zT (vw hN hi hx zj hs hf) yj,?_⟩;exact h F σ H _ m fun d v H1 q1 t1 k1 r1=>q1 F _ H1 D (m.setC t1 k1 r1) r
theorem xf {a b:List Stmt}(h:EvT X α c fun k=>SvS X α (if k=true then a else b) {E with nx:=fun α'=>SvS X α' rest E}):SvS X α (.If c a b pos::rest) E:=fun F σ H D m r=>by
 refine⟨_,zT (wB xJ yj yj) yj,?_⟩;refine h F σ H _ m fun k H1 q1 t1 k1=>?_;cases k with
 |true=>exact uo ((by simpa using q1:SvS X α a _) F σ H1 _ (m.kz k1 t1) r.then)
 |false=>exact uM ((by simpa using q1:SvS X α b _) F σ H1 _ (m.kz k1 t1) r.then)
theorem qS (i:Nat){ds:List PyData}{sts:List Stmt}(hi:α[i]?=some (some (.own ds)))(h:SvS X (α.set i (some (.dat (.list ds)))) sts E):SvS X α sts E:=fun F σ H D m r=>h F σ H D (m.frz hi) r
theorem M.wrC {F:Fr}{σ:St}{H:Hp}{i:Nat}{c c':PyData}{l:Addr}{o':HO}(m:M F α σ H)(hi:α[i]?=some (some (.ow c)))(hl:σ[i]?=some (some (.ref l)))(av:xm (Gz F α σ H) o' c'):
  M F (α.set i (some (.ow c'))) σ (upd H l o'):=by
 obtain⟨l',o,h1,h2,h3,h4,h5⟩:=m.owc i c hi;rw[hl] at h1;cases h1;have hs:∀{j:Nat} {a:A} {s:Option V},(α.set i (some (.ow c')))[j]?=some (some a)->σ[j]?=some s->(i=j/\a=.ow c'/\s=some (.ref l))\/(i≠j/\α[j]?=some (some a)):=fun {j a s} e1 e2=>by
  rcases ye e1 with ⟨rfl,z⟩|⟨hj,e1'⟩
  ·cases z;rw[hl] at e2;cases e2;exact .inl ⟨rfl,rfl,rfl⟩
  ·exact .inr ⟨hj,e1'⟩
 have oww:∀{y:Addr},Ow F (α.set i (some (.ow c'))) σ y->Ow F α σ y:=fun {y} h=>by
  rcases h with z|⟨j,a,s,e1,e2,f⟩
  ·exact .inl z
  ·rcases hs e1 e2 with ⟨rfl,rfl,rfl⟩|⟨hj,e1'⟩
   ·exact .inr ⟨i,_,_,hi,hl,f⟩
   ·exact .inr ⟨j,a,s,e1',e2,f⟩
 have ol:Ow F α σ l:=.inr ⟨i,_,_,hi,hl,rfl⟩;have gs:zB (Gz F α σ H) (Gz F (α.set i (some (.ow c'))) σ (upd H l o')):=zz fun a o h e=>⟨fun z=>h (oww z),by rw[zg (fun z=>h (by rw[z];exact ol))];exact e⟩;refine⟨by rw[z33];exact m.len,fun j a s e1 e2=>?_,fun j j' a b s t x e1 e2 q1 q2 f1 f2=>?_,fun j r q e j' a s x e1 e2 f=>?_,m.tp.updO h4 (h3.plain h2),fun y o e n=>?_,fun y hy=>?_⟩
 ·rcases hs e1 e2 with ⟨rfl,rfl,rfl⟩|⟨hj,e1'⟩
  ·exact⟨l,o',rfl,zk,av.same gs,h4,h5⟩
  ·refine (m.ok j a s e1' e2).stay gs (fun y u f e=>?_) rfl fun r q ea k=>⟨k.tp,k.o,k.ok.updO (fun z=>h4 (k.o _ z)) (h3.plain h2),fun y u e n=>?_⟩
   ·obtain⟨w1,w2,_⟩:=m.ft e1' e2 f;refine⟨?_,w1,w2⟩;rw[zg fun z=>hj (m.dj i j _ a _ s l hi e1' hl e2 rfl (by rw[<-z];exact f))];exact e
   ·rw[zg (zo e (m.xd j r q (by rw[<-ea];exact e1') i _ _ l hi hl rfl))];exact k.k y u e n
 ·rcases hs e1 q1 with ⟨rfl,rfl,rfl⟩|⟨hj,e1'⟩
  ·rcases hs e2 q2 with ⟨rfl,_⟩|⟨hj',e2'⟩
   ·rfl
   ·exact m.dj i j' _ b _ t x hi e2' hl q2 f1 f2
  ·rcases hs e2 q2 with ⟨rfl,rfl,rfl⟩|⟨hj',e2'⟩
   ·exact m.dj j i a _ s _ x e1' hi q1 hl f1 f2
   ·exact m.dj j j' a b s t x e1' e2' q1 q2 f1 f2
 ·rcases ye e with ⟨_,z⟩|⟨_,e'⟩
  ·cases z
  ·rcases hs e1 e2 with ⟨rfl,rfl,rfl⟩|⟨_,e1'⟩
   ·exact m.xd j r q e' i _ _ x hi hl f
   ·exact m.xd j r q e' j' a s x e1' e2 f
 ·rw[zg (zo e h5)];exact m.keep y o e n
 ·rw[zg (fun z=>h4 (by rw[<-z];exact hy))];exact m.oex y hy
theorem M.wrOwn {F:Fr}{σ:St}{H:Hp}{i:Nat}{ds es:List PyData}{l:Addr}{ys:List V}(m:M F α σ H)(hi:α[i]?=some (some (.own ds)))(hl:σ[i]?=some (some (.ref l)))(av:AVs (Gz F α σ H) ys es):
  M F (α.set i (some (.own es))) σ (upd H l (.lst ys)):=m.wrC hi hl (.lst av)
theorem yz (i:Nat){x:Str}{ds:List PyData}{p1 p2 p3:Pos}(hi:α[i]?=some (some (.own ds)))(h:EvD X α e fun d=>ds.length<1000/\SvS X (α.set i (some (.own (ds++[d])))) rest E)
  (hN:X.N[i]?=some x:=by rfl) (hv:Vis X.env.scope x:=by first|exact Or.inl rfl|exact Or.inr (Or.inl rfl)|exact Or.inr (Or.inr rfl)) (hd:(x == ("__debug__":Str))=false:=by decide) (hcd:(x == ("__classdict__":Str))=false:=by decide)
  (hbase:attributeBase (.Name x p1) "append" X.env (eval (.Name x p1) X.env)=eval (.Name x p1) X.env:=by rfl) (hs:starEach [e] X.env=(false,eval e X.env)::starEach [] X.env:=by rfl)
  (hpl:((((backTo p3 (starEach [e] X.env)).all fun x=>!x.fst)&&(backToKw p3 (keywordEach [] X.env)).all fun x=>x.fst.isSome)&&decide (([e].length+([]:List Keyword).length+if ([]:List Keyword).isEmpty=true then 0 else 1)<30))=true:=by rfl)
  (hline:(p2.endLine == p3.line)=true:=by rfl) (hsw:swapsWith (.Call (.Attribute (.Name x p1) "append" p2) [e] [] p3) none pos.line X.env=pure false:=by rfl):SvS X α (.Expr (.Call (.Attribute (.Name x p1) "append" p2) [e] [] p3) pos::rest) E:=fun F σ H D m r=>by
 obtain⟨l,xs,h1,h2,h3,h4,h5⟩:=m.own i ds hi;refine⟨_,zT (fo (zy7 PySem.F.plainAttrs_list PySem.F.slot_list_append PySem.F.type_list_append pQ (xQ hN hv hd hcd) (zd zj zw hs) hbase hpl hline hs) hsw) yj,?_⟩;refine⟨.ref l,h1,.inl ⟨rfl,_,SqL.of h2⟩,?_⟩;refine h F σ H _ m fun d v H1 q1 t1 k1 r1=>?_;have m1:=m.kz k1 t1;refine⟨l,xs,v,rfl,rfl,k1 _ _ h2 (m.tp.nt h4),by rw[h3.length];exact yW (z48 q1.1),?_⟩;exact q1.2 F σ _ D (m1.wrOwn hi h1 ((h3.same (k1.gz m.tp)).append (.cons r1 .nil))) r
theorem zf3 (i:Nat){x:Str}{ix:Expr}{ds:List PyData}{p1 p2:Pos}(hi:α[i]?=some (some (.own ds)))(h:EvD X α e fun d=>EvD X α ix fun y=>∃k j,y=.int k/\ixN ds.length k=some j/\SvS X (α.set i (some (.own (ds.set j d)))) rest E)
  (hN:X.N[i]?=some x:=by rfl) (hv:Vis X.env.scope x:=by first|exact Or.inl rfl|exact Or.inr (Or.inl rfl)|exact Or.inr (Or.inr rfl)) (hd:(x == ("__debug__":Str))=false:=by decide) (hcd:(x == ("__classdict__":Str))=false:=by decide)
  (hs:swapsWithSole [.Subscript (.Name x p1) ix p2] e pos.line X.env=pure false:=by rfl) (hw:swappedStores [.Subscript (.Name x p1) ix p2] e X.env=pure none:=by rfl)
  (ha:(assignEach [.Subscript (.Name x p1) ix p2] X.env).map (·.2)=[assign (.Subscript (.Name x p1) ix p2) X.env]:=by rfl) (hps:PG X (.Subscript (.Name x p1) ix p2) (zR4 (zC2 i) (tf X ix) zz7):=by exact iw (xQ rfl (by first|exact Or.inl rfl|exact Or.inr (Or.inl rfl)|exact Or.inr (Or.inr rfl))) zj set_list):
  SvS X α (.Assign [.Subscript (.Name x p1) ix p2] e pos::rest) E:=fun F σ H D m r=>by
 obtain⟨l,xs,h1,h2,h3,h4,h5⟩:=m.own i ds hi;refine⟨_,zT (iC zj hps hs hw ha) yj,?_⟩;refine h F σ H _ m fun d v H1 q1 t1 k1 r1=>?_;have m1:=m.kz k1 t1;refine⟨.ref l,h1,?_⟩;refine q1 F σ H1 _ m1 fun y vy H2 q2 t2 k2 r2=>?_;have m2:=m1.kz k2 t2;obtain⟨k,j,rfl,hj,q⟩:=q2;cases r2.int_inv;refine⟨l,xs,k,j,rfl,rfl,k2 _ _ (k1 _ _ h2 (m.tp.nt h4)) (m.tp.nt h4),by rw[h3.length];exact hj,?_⟩;exact q F σ _ D (m2.wrOwn hi h1 (((h3.same (k1.gz m.tp)).same (k2.gz m1.tp)).set (r1.same (k2.gz m1.tp)) j)) r
def sE (X:Cx)(pat:Pat)(body rest:List Stmt)(E:xy):List PyData->Ev->Prop
 |[],α=>SvS X α rest E
 |d::ds,α=>∃α1,pat.bind d α=some α1/\SvS X α1 body {nx:=sE X pat body rest E ds,ct:=sE X pat body rest E ds,bk:=fun α'=>SvS X α' rest E,rt:=E.rt}
theorem vK {pat:Pat}(hp:PassesOwn (model X.prog X.w) X.A X.env X.xe)(hc:X.calm=true)(hg:PG X tg (lM X.K pat))(h:EvI X α tg iter fun ds=>sE X pat body rest E ds α)
  (hs:∀x,foldedSetIterable iter X.env x=pure x:=by intro _;rfl):SvS X α (.For tg iter body [] pos::rest) E:=fun F σ H D m r=>by
 refine⟨_,zT (zI3 hp hc nh hg yj hs) yj,?_⟩;refine h F σ H _ m fun ds J H1 q1 t1 k1 itw=>?_;have m1:=m.kz k1 t1;have mu:=m1.up;have ru:mP (F.up (Gz F α σ H1)) E D:=r.up;refine⟨fun i n σ' H'=>n=ds.length-i/\i<=ds.length/\∃α',M (F.up (Gz F α σ H1)) α' σ' H'/\sE X pat body rest E (ds.drop i) α',⟨ds.length,by simp,zY8 _,α,mu,q1⟩,?_⟩;rintro i n σ' H' ⟨rfl,hi,α',m',lw⟩;obtain⟨w1,w2⟩:=itw i H' _ (m1.upold m');by_cases hlt:i<ds.length
 ·have hd:ds[i]?=some ds[i]:=zW6 hlt;rw[z79 hlt] at lw;obtain⟨α1,eb,body⟩:=lw;obtain⟨go,yl⟩:=w1 _ hd;refine .inr ⟨go,fun σ'' H''=>∃α',M (F.up (Gz F α σ H1)) α' σ'' H''/\sE X pat _ rest E (ds.drop (i+1)) α',fun σ'' H'' ⟨α'',r1,r2⟩=>⟨ds.length-(i+1),by omega,rfl,hlt,α'',r1,r2⟩,fun x H3 y=>?_⟩;obtain⟨s23,avx⟩:=yl x H3 y;have m3:=m'.kz (Kz.of_same s23) (m'.tp.same s23);refine fA eb m3 (avx fun a o _ e=>m'.fresh e) fun σ1 m4=>?_;exact body _ σ1 H3 _ m4 ⟨fun α2 σ2 H2 m2 q=>⟨α2,m2,q⟩,ru.rt,fun α2 σ2 H2 m2 q=>q _ σ2 H2 D m2 ru,fun α2 σ2 H2 m2 q=>⟨α2,m2,q⟩⟩
 ·have e:i=ds.length:=by omega
  subst e;rw[yc6] at lw;exact .inl ⟨w2 (zW9 _),lw _ σ' H' D m' ru⟩
theorem zN {pat:Pat}{ds:List PyData}(P:Nat->Ev->Prop)(h0:P 0 α)(hs:∀i d α,ds[i]?=some d->P i α->∃α1,pat.bind d α=some α1/\SvS X α1 body {nx:=P (i+1),ct:=P (i+1),bk:=fun α'=>SvS X α' rest E,rt:=E.rt})
  (hd:∀α,P ds.length α->SvS X α rest E):sE X pat body rest E ds α:=by
 have key:∀n i α,n=ds.length-i->i<=ds.length->P i α->sE X pat body rest E (ds.drop i) α:=by
  intro n
  induction n with
  |zero=>
   intro i α hn hi p;have e:i=ds.length:=by omega
   subst e;rw[yc6];exact hd α p
  |succ n ih=>
   intro i α hn hi p;have hlt:i<ds.length:=by omega
   rw[z79 hlt];obtain⟨α1,e,b⟩:=hs i ds[i] α (zW6 hlt) p;exact⟨α1,e,b.imp (fun α p=>ih (i+1) α (by omega) hlt p) (fun _ z=>z) (fun _ z=>z) (fun α p=>ih (i+1) α (by omega) hlt p)⟩
 exact key _ 0 α rfl (zY8 _) h0
end
end
section
variable {P:Program}{w:World}{K:PySem.W.Frag}{mg:Str->Option Value}{base:Heap}
theorem M.start {F:Fr}{N:List Str}{vs:List V}{as:List A}{H:Hp}(e:F.H0=H)(t:zR F H)(o:∀x,F.O0 x->∃u,H x=some u/\vG u)(rv:yx F (sub (fun x=>¬F.O0 x) H) vs as):
  M F (as.map some++List.replicate (N.length-as.length) none) (L2.start N vs) H:=by
 have hl:=rv.length;have g:∀{i:Nat} {a:A},(as.map some++List.replicate (N.length-as.length) none)[i]?=some (some a)->as[i]?=some a:=fun {i a} h=>by
  rcases z85 i as.length with z|z
  ·rw[z44 (by rw[zW3];exact z),zX1,zY0] at h;obtain⟨b,h1,h2⟩:=h;cases h2;exact h1
  ·rw[z74 (by rw[zW3];exact z),z62] at h;split at h<;>cases h
 have at':∀{vs:List V} {as:List A} {i:Nat} {a:A},yx F (sub (fun x=>¬F.O0 x) H) vs as->as[i]?=some a->∃v,vs[i]?=some v/\dB F (sub (fun x=>¬F.O0 x) H) v a:=by
  intro vs as i a h
  induction h generalizing i with
  |nil=>intro e;simp at e
  |cons h r ih=>
   intro e;cases i with
   |zero=>simp at e;subst e;exact⟨_,rfl,h⟩
   |succ i=>obtain⟨v,h1,h2⟩:=ih (by simpa using e);exact⟨v,by simpa using h1,h2⟩
 have gv:∀{i:Nat} {v:V},vs[i]?=some v->(L2.start N vs)[i]?=some (some v):=fun {i v} h=>by
  have hi:i<vs.length:=(zW7.mp h).1;unfold L2.start;rw[z44 (by rw[zW3];exact hi),zX1,h];rfl
 have no:∀(i:Nat) a,(as.map some++List.replicate (N.length-as.length) none)[i]?=some (some a)->(∃d,a=.dat d)\/a=.tape:=fun i a z=>by
  obtain⟨v,_,h⟩:=at' rv (g z);cases a with
  |dat d=>exact .inl ⟨d,rfl⟩
  |tape=>exact .inr rfl
  |_=>exact h.elim
 have gs:zB (sub (fun x=>¬F.O0 x) H) (Gz F (as.map some++List.replicate (N.length-as.length) none) (L2.start N vs) H):=zz fun a o h e=>⟨fun z=>z.elim h fun⟨i,b,s,e1,_,f⟩=>by
  rcases no i b e1 with ⟨d,rfl⟩|rfl
  ·exact f.elim
  ·exact f.elim,e⟩
 refine⟨by unfold L2.start;simp[hl],fun i a s e1 e2=>?_,fun i j a b s t x e1 _ _ _ f=>?_,fun i r q z=>(by rcases no i _ z with ⟨d,w⟩|w<;>cases w),t,fun x o' h _=>by rw[<-e];exact h,o⟩
 ·obtain⟨v,h1,h2⟩:=at' rv (g e1);rw[gv h1] at e2;cases e2;rcases no i a e1 with ⟨d,rfl⟩|rfl
  ·exact⟨v,rfl,AV.same gs h2⟩
  ·obtain⟨t',b,c,h3,rfl⟩:=h2;exact⟨t',b,c,h3,rfl⟩
 ·rcases no i a e1 with ⟨d,rfl⟩|rfl
  ·exact f.elim
  ·exact f.elim
theorem fnA {x qual:Str}{st:Stmt}{f:Addr}{fd:FuncData}{N ps:List Str}{k:Nat}{φ:List A->(A->Prop)->Prop}(G:Fun K x qual st f fd)(S:zm N ps (zb st))(hlen:∀as Q,φ as Q->as.length=ps.length)
  (hbody:∀(cdv:Value) (A':Around) (outer:List Env) (s:Shared) (H:Hp) (E:XK) (as:List A) (Q:A->Prop),zX k (A'.deeper (envOfC qual (zb st) s.heap.objs.size f cdv))->φ as Q->
   SvS (uu CX0 P w K mg base N qual (zb st) f cdv A' outer s H E).nox (as.map some++List.replicate (N.length-as.length) none) (zA st) {nx:=fun _=>Q (.dat .none),rt:=Q}):zE P w K mg base CX0 (k+1) f fd ps (spA φ):=by
 refine G.ok S (fun vs H Q E h=>?_) (fun cdv A' outer s H vs Qc E hr h=>?_)
 ·obtain⟨F,as,Q',_,_,_,rv,hφ,_⟩:=h;rw[rv.length,hlen as _ hφ]
 ·obtain⟨F,as,Q',e,t,o,rv,hφ,kk⟩:=h;refine hbody cdv A' outer s H E as Q' hr hφ F _ H _ (M.start e t o rv) ⟨fun α σ H' m q=>?_,fun a v H' r q=>kk a v H' q r,fun _ _ _ _ z=>z.elim,fun _ _ _ _ z=>z.elim⟩;exact kk _ _ _ q ⟨m.tp,m.keep,.non⟩
end
section
variable {X:Cx}{pins:List (Addr×Obj)}{σ:St}{H:Hp}{s:Shared}{h':Heap}
theorem Inv.turnL {t':Nat}{ch:List Addr}(I:Inv X pins σ H s)(k:∀b o,b∉ch->s.heap.get? b=some o->h'.get? b=some o)(hf:∀b∈ch,xN X pins H b):Inv X pins σ H {s with heap:=h',toks:=t'}:=by
 have nit:∀b u,H b=some u->b∉ch:=fun b u e z=>by rw[(hf b z).1] at e;cases e
 refine I.step (g':=s.gens) (d':=s.drawn) (ch:=ch) (fun b hb=>?_) (fun b o _ _ hc e _=>k b o hc e) (fun b o _ _ hc e _=>⟨o.slots,k b o hc e⟩) (fun _ _ _ _ n=>n)
  (fun b o hc e=>⟨o,k b o hc e⟩) (fun _ _ e=>e) (fun _ _ _ e=>e) (fun b ps e=>⟨#[],by rw[e];simp⟩) (fun m hm=>?_) (fun b u e=>?_) I.bare
 ·obtain⟨_,f1,_,f3,f4,f5⟩:=hf b hb;exact⟨f3,f1,f4,f5⟩
 ·obtain⟨o,es,ep,ho,r⟩:=hm;exact⟨o,es,ep,k _ o (fun z=>(hf _ z).2.1 rfl) ho,r⟩
 ·refine (I.hok b u e).stay (fun c v hc q=>k c v ?_ q) (fun _ q=>q) fun _ _ q=>q;rcases hc with z|z
  ·rw[z];exact nit b u e
  ·exact nit c _ z
theorem Inv.turnLay {t':Nat}{ch:List Addr}{T:Addr}{o:HO}(I:Inv X pins σ H s)(k:∀b o,b∉ch->s.heap.get? b=some o->h'.get? b=some o)(hf:∀b∈ch,xN X pins H b)(hT:s.heap.objs.size<=T)(new:zS X.prog X.w (upd H T o) h' T o):
  Inv X pins σ (upd H T o) {s with heap:=h',toks:=t'}:=by
 have nit:∀b u,H b=some u->b∉ch:=fun b u e z=>by rw[(hf b z).1] at e;cases e
 have hn:H T=none:=I.hok.fresh hT;have lt:∀{b:Addr} {u:Obj},s.heap.get? b=some u->b≠T:=fun e=>zY4 (zY9 (zX2 e) hT);refine I.step (g':=s.gens) (d':=s.drawn) (ch:=ch) (fun b hb=>?_) (fun b o _ _ hc e _=>k b o hc e) (fun b o _ _ hc e _=>⟨o.slots,k b o hc e⟩) (fun b u _ e n=>by rw[zg (lt e)];exact n)
  (fun b o hc e=>⟨o,k b o hc e⟩) (fun b xs e=>by rw[zg (zo e hn)];exact e) (fun b u xs e=>by rw[zg (zo e hn)];exact e) (fun b ps e=>⟨#[],by rw[zg (zo e hn),e];simp⟩) (fun m hm=>?_) (fun b u e=>?_) I.bare
 ·obtain⟨_,f1,_,f3,f4,f5⟩:=hf b hb;exact⟨f3,f1,f4,f5⟩
 ·obtain⟨o,es,ep,ho,r⟩:=hm;exact⟨o,es,ep,k _ o (fun z=>(hf _ z).2.1 rfl) ho,r⟩
 ·by_cases hb:b=T
  ·subst hb;rw[zk] at e;cases e;exact new
  ·rw[zg hb] at e;refine (I.hok b u e).stay (fun c v hc q=>k c v ?_ q) (fun c q=>by rw[zg (zo q hn)];exact q) fun c xs q=>by rw[zg (zo q hn)];exact q
   rcases hc with z|z
   ·rw[z];exact nit b u e
   ·exact nit c _ z
end
theorem uU {a b:Nat}(h:a<b):(a:Addr)≠b:=zY4 h
theorem aW {a b:Nat}(h:b<a):(a:Addr)≠b:=z83 h
theorem eY (n l1 l2:Nat)(h1:l1<n)(h2:l2<n):ZipApart (n+4) (n+2) (n+3) n (n+1) l1 l2 where
 TIz:=uU (a:=n+2) (b:=n+4) (by omega)
 TOz:=uU (a:=n+3) (b:=n+4) (by omega)
 i1z:=uU (a:=n) (b:=n+4) (by omega)
 i2z:=uU (a:=n+1) (b:=n+4) (by omega)
 TITO:=uU (a:=n+2) (b:=n+3) (by omega)
 TIi1:=aW (a:=n+2) (b:=n) (by omega)
 TIi2:=aW (a:=n+2) (b:=n+1) (by omega)
 TOi1:=aW (a:=n+3) (b:=n) (by omega)
 TOi2:=aW (a:=n+3) (b:=n+1) (by omega)
 i12:=uU (a:=n) (b:=n+1) (by omega)
 l1z:=uU (a:=l1) (b:=n+4) (by omega)
 l1TO:=uU (a:=l1) (b:=n+3) (by omega)
 l1i1:=uU (a:=l1) (b:=n) (by omega)
 l1i2:=uU (a:=l1) (b:=n+1) (by omega)
 l2z:=uU (a:=l2) (b:=n+4) (by omega)
 l2TO:=uU (a:=l2) (b:=n+3) (by omega)
 l2i1:=uU (a:=l2) (b:=n) (by omega)
 l2i2:=uU (a:=l2) (b:=n+1) (by omega)
noncomputable def Itz (K:PySem.W.Frag)(l1 l2:Addr):It:=
 ⟨fun i H=>∃xs ys x y,SqL K H l1 xs/\SqL K H l2 ys/\xs[i]?=some x/\ys[i]?=some y,
  fun i H v H'=>∃T x y,v=.ref T/\H T=none/\H'=upd H T (.tup [x,y])/\(∀xs,SqL K H l1 xs->xs[i]?=some x)/\∀ys,SqL K H l2 ys->ys[i]?=some y,
  fun i H=>∃xs ys,SqL K H l1 xs/\SqL K H l2 ys/\(xs.length<=i\/ys.length<=i)⟩
noncomputable def Ite (K:PySem.W.Frag)(l:Addr):It:=
 ⟨fun i H=>∃xs x,SqL K H l xs/\xs[i]?=some x,
  fun i H v H'=>∃T x,v=.ref T/\H T=none/\H'=upd H T (.tup [.int i,x])/\∀xs,SqL K H l xs->xs[i]?=some x,
  fun i H=>∃xs,SqL K H l xs/\xs.length<=i⟩
theorem zk9 {P:Program}{w:World}{K:PySem.W.Frag}{elts:List Expr}{kk:Nat}{pos:Pos}{z TI TO i1 i2 l1 l2:Addr}(D:ZipApart z TI TO i1 i2 l1 l2):
  Turn P w K (.Tuple elts kk pos) (Itz K l1 l2) [z,TI,TO,i1,i2] z (fun i h=>IsZip h z TI TO .none/\IsPair h TI (.ref i1) (.ref i2)/\(∃a b,IsPair h TO a b)/\h.IsListIter i1 l1 i/\h.IsListIter i2 l2 i) where
 mem:=by simp
 obj:=fun i h st b hb=>by
  obtain⟨h1,h2,⟨a,c,h3⟩,⟨o1,e1,_,d1⟩,⟨o2,e2,_,d2⟩⟩:=st;simp only[zX0,zY3,z07] at hb;rcases hb with rfl|rfl|rfl|rfl|rfl
  ·exact⟨_,h1,fun v z=>by cases (show Data.fields _=Data.cell v from z)⟩
  ·exact⟨_,h2,fun v z=>by cases (show Data.seq _ _=Data.cell v from z)⟩
  ·exact⟨_,h3,fun v z=>by cases (show Data.seq _ _=Data.cell v from z)⟩
  ·exact⟨o1,e1,fun v z=>by rw[d1] at z;cases z⟩
  ·exact⟨o2,e2,fun v z=>by rw[d2] at z;cases z⟩
 keep:=fun i h h' st k=>by
  obtain⟨h1,h2,⟨a,c,h3⟩,h4,h5⟩:=st;exact⟨k z (by simp) _ h1,k TI (by simp) _ h2,⟨a,c,k TO (by simp) _ h3⟩,h4.at fun o e=>k i1 (by simp) o e,h5.at fun o e=>k i2 (by simp) o e⟩
 item:=by
  intro X hP hw hK hc i pins s σ H E I hf st hg;subst hP hw hK;obtain⟨xs,ys,x,y,hq1,hq2,hx,hy⟩:=hg;obtain⟨its1,rv1,p1,hz1⟩:=I.list hq1;obtain⟨its2,rv2,p2,hz2⟩:=I.list hq2;obtain⟨u,hu,ru⟩:=rv1.get hx;obtain⟨v,hv,rv⟩:=rv2.get hy;obtain⟨h1,h2,⟨a,c,h3⟩,h4,h5⟩:=st;refine wpAny_pyNext_zip_item D h1 h2 h3 h4 h5 p1.isList p2.isList (x:=u) (y:=v) (by simpa using hu) (by simpa using hv) fun h' a1 a2 a3 a4 a5 a6 hk=>⟨_,rfl,?_⟩;refine wpAny_letOwnedTupleGo_zip (s:={s with heap:=h'}) a1 fun h'' b1 b2=>?_;have hTz:s.heap.objs.size≠z:=z83 (zX2 h1);have hk2:∀b o,b∉[z,TI,TO,i1,i2]->s.heap.get? b=some o->h''.get? b=some o:=fun b o hb e=>by
   simp only[zX0,zY3,z07,not_or] at hb;exact b2.extBut _ _ hb.1 (hk b o hb.1 hb.2.2.1 hb.2.2.2.1 hb.2.2.2.2 e)
  have gT:h''.get? s.heap.objs.size=some {cls:=.type "tuple",data:=.seq #[u,v]}:=b2.extBut _ _ hTz a5;have J:=I.turnLay (t':=s.toks) (T:=s.heap.objs.size) (o:=.tup [x,y]) hk2 hf (zW9 _) ⟨by show 2<=sizeLine;decide,[u,v],.cons ru (.cons rv .nil),_,gT,rfl,0,rfl⟩;refine⟨.ref s.heap.objs.size,_,J,rfl,⟨_,x,y,rfl,I.hok.fresh (zW9 _),rfl,fun zs hz=>by rw[I.list_inj hz hq1];exact hx,fun zs hz=>by rw[I.list_inj hz hq2];exact hy⟩,⟨b1,b2.extBut _ _ D.TIz (hk _ _ D.TIz D.TITO D.TIi1 D.TIi2 h2),⟨u,v,b2.extBut _ _ D.TOz a2⟩,a3.extBut b2.extBut D.i1z,a4.extBut b2.extBut D.i2z⟩,fun b hb=>?_⟩;rw[zg]
  ·exact (hf b hb).1
  ·obtain⟨o,e,_⟩:=(show ∃o,s.heap.get? b=some o/\True from by
    simp only[zX0,zY3,z07] at hb;obtain⟨o1,e1,_⟩:=h4;obtain⟨o2,e2,_⟩:=h5;rcases hb with rfl|rfl|rfl|rfl|rfl
    ·exact⟨_,h1,trivial⟩
    ·exact⟨_,h2,trivial⟩
    ·exact⟨_,h3,trivial⟩
    ·exact⟨_,e1,trivial⟩
    ·exact⟨_,e2,trivial⟩)
   exact zY4 (zX2 e)
 done:=by
  intro X hP hw hK hc i pins s σ H E I hf st hg;subst hP hw hK;obtain⟨xs,ys,hq1,hq2,hl⟩:=hg;obtain⟨its1,rv1,p1,hz1⟩:=I.list hq1;obtain⟨its2,rv2,p2,hz2⟩:=I.list hq2;obtain⟨h1,h2,⟨a,c,h3⟩,h4,h5⟩:=st;have e1:=rv1.length;have e2:=rv2.length;refine wpAny_pyNext_zip_end (I.ok.hd hc) D h1 h2 h3 h4 h5 p1.isList p2.isList (hl.imp (fun z=>by simp;omega) fun z=>by simp;omega) fun h' hk=>⟨rfl,?_⟩;exact I.turnL (t':=s.toks) (ch:=[z,TI,TO,i1,i2]) (fun b o hb e=>by
   simp only[zX0,zY3,z07,not_or] at hb;exact hk b o hb.1 hb.2.2.1 hb.2.2.2.1 hb.2.2.2.2 e) hf
 self:=fun A i s Q E st h=>wpAny_pyIter_zip st.1 h
theorem cG {P:Program}{w:World}{K:PySem.W.Frag}{elts:List Expr}{kk:Nat}{pos:Pos}{e it l:Addr}(hne:e≠it):
  Turn P w K (.Tuple elts kk pos) (Ite K l) [e,it] e (fun i h=>(∃old,IsEnum h e it i old)/\h.IsListIter it l i) where
 mem:=by simp
 obj:=fun i h st b hb=>by
  obtain⟨⟨old,h1⟩,⟨o1,e1,_,d1⟩⟩:=st;simp only[zX0,zY3,z07] at hb;rcases hb with rfl|rfl
  ·exact⟨_,h1,fun v z=>by cases (show Data.fields _=Data.cell v from z)⟩
  ·exact⟨o1,e1,fun v z=>by rw[d1] at z;cases z⟩
 keep:=fun i h h' st k=>by
  obtain⟨⟨old,h1⟩,h4⟩:=st;exact⟨⟨old,k e (by simp) _ h1⟩,h4.at fun o q=>k it (by simp) o q⟩
 item:=by
  intro X hP hw hK hc i pins s σ H E I hf st hg;subst hP hw hK;obtain⟨xs,x,hq1,hx⟩:=hg;obtain⟨its1,rv1,p1,hz1⟩:=I.list hq1;obtain⟨u,hu,ru⟩:=rv1.get hx;obtain⟨⟨old,h1⟩,h4⟩:=st;refine wpAny_pyNext_enum_item h1 h4 p1.isList (x:=u) (by simpa using hu) hne fun h' a1 a3 a5 a6 hk=>⟨_,rfl,?_⟩;refine wpAny_letOwnedTupleGo_enum (s:={s with heap:=h',toks:=s.toks+1}) a1 fun h'' b1 b2=>?_;have hTz:s.heap.objs.size≠e:=z83 (zX2 h1);have hk2:∀b o,b∉[e,it]->s.heap.get? b=some o->h''.get? b=some o:=fun b o hb q=>by
   simp only[zX0,zY3,z07,not_or] at hb;exact b2.extBut _ _ hb.1 (hk b o hb.1 hb.2 q)
  have gT:h''.get? s.heap.objs.size=some {cls:=.type "tuple",data:=.seq #[.int i s.toks,u]}:=b2.extBut _ _ hTz a5;have J:=I.turnLay (t':=s.toks+1) (T:=s.heap.objs.size) (o:=.tup [.int i,x]) hk2 hf (zW9 _) ⟨by show 2<=sizeLine;decide,[.int i s.toks,u],.cons ⟨_,rfl⟩ (.cons ru .nil),_,gT,rfl,0,rfl⟩;refine⟨.ref s.heap.objs.size,_,J,rfl,⟨_,x,rfl,I.hok.fresh (zW9 _),rfl,fun zs hz=>by rw[I.list_inj hz hq1];exact hx⟩,⟨⟨u,by simpa using b1⟩,a3.extBut b2.extBut hne.symm⟩,fun b hb=>?_⟩;rw[zg]
  ·exact (hf b hb).1
  ·obtain⟨o,q,_⟩:=(show ∃o,s.heap.get? b=some o/\True from by
    simp only[zX0,zY3,z07] at hb;obtain⟨o1,e1,_⟩:=h4;rcases hb with rfl|rfl
    ·exact⟨_,h1,trivial⟩
    ·exact⟨_,e1,trivial⟩)
   exact zY4 (zX2 q)
 done:=by
  intro X hP hw hK hc i pins s σ H E I hf st hg;subst hP hw hK;obtain⟨xs,hq1,hl⟩:=hg;obtain⟨its1,rv1,p1,hz1⟩:=I.list hq1;obtain⟨⟨old,h1⟩,h4⟩:=st;have e1:=rv1.length;refine wpAny_pyNext_enum_end (I.ok.hd hc) h1 h4 p1.isList (by simp;omega) fun h' hk=>⟨rfl,?_⟩;exact I.turnL (t':=s.toks) (ch:=[e,it]) (fun b o hb q=>by
   simp only[zX0,zY3,z07,not_or] at hb;exact hk b o hb.2 q) hf
 self:=fun A i s Q E st h=>by
  obtain⟨⟨old,h1⟩,h4⟩:=st;exact wpAny_pyIter_enum h1 h
section
variable {X:Cx}{α:Ev}{elts:List Expr}{kk:Nat}{tp p pos:Pos}{a b:Expr}
def zV0 (K:PySem.W.Frag)(ta:TA):TI:=fun σ H R=>ta σ H fun vs H1=>∃l1 l2,vs=[.ref l1,.ref l2]/\(∃xs,SqL K H1 l1 xs)/\(∃ys,SqL K H1 l2 ys)/\R (Itz K l1 l2) H1
theorem zB0 {ta:TA}(hg:Gl X "zip")(hm:X.mg "zip"=none)(ha:PA X [a,b] ta)(hs:starEach [a,b] X.env=[(false,eval a X.env),(false,eval b X.env)]:=by rfl)(hs2:starEach [b] X.env=[(false,eval b X.env)]:=by rfl):
  PI X (.Tuple elts kk tp) (.Call (.Name "zip" p) [a,b] [] pos) (zV0 X.K ta):=by
 intro pins s σ H R I h;refine Call_ (xx I hg hm boot_zip (zZ7 (thn (ha pos pins s σ H _ I h) fun us s1 ⟨vs,H1,I1,r1,q1⟩=>?_) (by rw[hs,hs2]) (by rw[hs2];rfl)));obtain⟨l1,l2,e,⟨xs,hq1⟩,⟨ys,hq2⟩,q⟩:=q1;subst e;obtain⟨u,v,rfl,ru,rv⟩:=Vals.two r1;cases (show u=Value.ref l1 from ru);cases (show v=Value.ref l2 from rv);obtain⟨its1,rv1,p1,hz1⟩:=I1.list hq1;obtain⟨its2,rv2,p2,hz2⟩:=I1.list hq2;refine call_zip_2 p1.isList p2.isList fun h' z1 z2 z3 z4 z5 z6 hk=>?_;refine wpAny_pyIter_zip (s:={s1 with heap:=h'}) z1 ?_;have lt1:l1<s1.heap.objs.size:=by obtain⟨o,e,_⟩:=p1.isList;exact zX2 e
 have lt2:l2<s1.heap.objs.size:=by obtain⟨o,e,_⟩:=p2.isList;exact zX2 e
 have fr:∀n,H1 (s1.heap.objs.size+n)=none:=fun n=>I1.hok.fresh (Nat.le_add_right _ _);have D:ZipApart (s1.heap.objs.size+4) (s1.heap.objs.size+2) (s1.heap.objs.size+3) s1.heap.objs.size (s1.heap.objs.size+1) l1 l2:=eY _ _ _ lt1 lt2;refine⟨_,_,_,_,H1,rfl,I1.kept (t':=s1.toks) fun b o e=>hk b o e,zk9 D,⟨z1,z2,⟨_,_,z3⟩,z4,z5⟩,fun b hb=>?_,q⟩;simp only[zX0,zY3,z07] at hb;have hb':s1.heap.objs.size<=b:=by
  have key:∀n b:Nat,n=s1.heap.objs.size->(b=n+4\/b=n+2\/b=n+3\/b=n\/b=n+1)->n<=b:=fun n b _ h=>by omega
  exact key _ _ rfl (by rcases hb with z|z|z|z|z<;>simp[z])
 exact I1.fpOk hb' (I1.hok.fresh hb')
def zL0 (K:PySem.W.Frag)(ta:TA):TI:=fun σ H R=>ta σ H fun vs H1=>∃l,vs=[.ref l]/\(∃xs,SqL K H1 l xs)/\R (Ite K l) H1
theorem zo0 {ta:TA}(hg:Gl X "enumerate")(hm:X.mg "enumerate"=none)(ha:PA X [a] ta)(hs:starEach [a] X.env=[(false,eval a X.env)]:=by rfl):
  PI X (.Tuple elts kk tp) (.Call (.Name "enumerate" p) [a] [] pos) (zL0 X.K ta):=by
 intro pins s σ H R I h;refine Call_ (xx I hg hm boot_enumerate (zZ7 (thn (ha pos pins s σ H _ I h) fun us s1 ⟨vs,H1,I1,r1,q1⟩=>?_) hs rfl));obtain⟨l1,e,⟨xs,hq1⟩,q⟩:=q1;subst e;obtain⟨u,rfl,ru⟩:=Vals.one r1;cases (show u=Value.ref l1 from ru);obtain⟨its1,rv1,p1,hz1⟩:=I1.list hq1;refine call_enumerate_list p1.isList fun h' z1 z4 z6 hk=>?_;refine wpAny_pyIter_enum (s:={s1 with heap:=h'}) z1 ?_;refine⟨_,_,_,_,H1,rfl,I1.kept (t':=s1.toks) fun b o e=>hk b o e,cG (aW (a:=s1.heap.objs.size+1) (b:=s1.heap.objs.size) (z84 _)),⟨⟨_,z1⟩,z4⟩,fun b hb=>?_,q⟩;simp only[zX0,zY3,z07] at hb;have hb':s1.heap.objs.size<=b:=by
  have key:∀n b:Nat,n=s1.heap.objs.size->(b=n+1\/b=n)->n<=b:=fun n b _ h=>by omega
  exact key _ _ rfl hb
 exact I1.fpOk hb' (I1.hok.fresh hb')
noncomputable def bj (ds es:List PyData):List PyData:=List.zipWith (fun d e=>.tuple [d,e]) ds es
theorem zk5 {Q:List PyData->Prop}(hg:Gl X "zip")(hm:X.mg "zip"=none)(h:EvD X α a fun x=>EvD X α b fun y=>∃ds es,x=.list ds/\y=.list es/\Q (bj ds es))
  (hs:starEach [a,b] X.env=[(false,eval a X.env),(false,eval b X.env)]:=by rfl) (hs2:starEach [b] X.env=[(false,eval b X.env)]:=by rfl) (hs3:starEach [a,b] X.env=(false,eval a X.env)::starEach [b] X.env:=by rfl):
  EvI X α (.Tuple elts kk tp) (.Call (.Name "zip" p) [a,b] [] pos) Q:=fun F σ H R m k=>by
 refine⟨_,zB0 hg hm (zd zj (zd zj zw hs2) hs3) hs hs2,?_⟩;refine h F σ H _ m fun x vx H1 q1 t1 k1 r1=>?_;have m1:=m.kz k1 t1;refine q1 F σ H1 _ m1 fun y vy H2 q2 t2 k2 r2=>?_;obtain⟨ds,es,rfl,rfl,q⟩:=q2;obtain⟨l1,xs,rfl,g1,g2⟩:=(r1.same (k2.gz m1.tp)).lst_inv;obtain⟨l2,ys,rfl,g3,g4⟩:=r2.lst_inv;refine⟨l1,l2,rfl,⟨xs,SqL.of (zi g1).2⟩,⟨ys,SqL.of (zi g3).2⟩,k _ _ H2 q t2 (k1.trans k2) fun i H3 p s=>⟨fun d hd=>?_,fun hl=>?_⟩⟩
 ·have s1:=SqL.of (K:=X.K) (zi (s _ _ g1)).2;have s2:=SqL.of (K:=X.K) (zi (s _ _ g3)).2;unfold bj at hd;rw[List.getElem?_zipWith] at hd;cases e1:ds[i]? with
  |none=>rw[e1] at hd;cases hd
  |some d1=>
   cases e2:es[i]? with
   |none=>rw[e1,e2] at hd;cases hd
   |some d2=>
    rw[e1,e2] at hd;cases hd;obtain⟨x1,hx1,av1⟩:=g2.get e1;obtain⟨x2,hx2,av2⟩:=g4.get e2;refine⟨⟨xs,ys,x1,x2,s1,s2,hx1,hx2⟩,fun v H4 y=>?_⟩;obtain⟨T,x,y,rfl,hT,rfl,hx,hy⟩:=y;have hx:=hx _ s1;have hy:=hy _ s2;rw[hx1] at hx;cases hx;rw[hx2] at hy;cases hy;refine⟨yB hT,fun fr=>?_⟩;have gs:zB (Gz F α σ H2) (sub p (upd H3 T (.tup [x1,x2]))):=fun a o e=>by
     obtain⟨z1,z2⟩:=zi (s a o e);exact zH z1 (by rw[zg (zo z2 hT)];exact z2)
    exact .tup (zH (fr T _ zk hT) zk) (.cons (av1.same gs) (.cons (av2.same gs) .nil))
 ·refine⟨xs,ys,SqL.of (zi (s _ _ g1)).2,SqL.of (zi (s _ _ g3)).2,?_⟩;unfold bj at hl;rw[List.length_zipWith,<-g2.length,<-g4.length] at hl;omega
noncomputable def sO (n:Nat):List PyData->List PyData
 |[]=>[]
 |d::ds=>.tuple [.int n,d]::sO (n+1) ds
theorem wK :∀{ds:List PyData} {n i:Nat} {d:PyData},(sO n ds)[i]?=some d->∃e,ds[i]?=some e/\d=.tuple [.int ((n+i:Nat):Int),e]
 |[],n,i,d,h=>by simp[sO] at h
 |e::ds,n,0,d,h=>by simp[sO] at h;exact⟨e,rfl,by simp[<-h]⟩
 |e::ds,n,i+1,d,h=>by
  simp only[sO,yb7] at h;obtain⟨e',h1,h2⟩:=wK h;exact⟨e',by simpa using h1,by rw[h2,Nat.add_assoc,Nat.add_comm 1 i]⟩
theorem va :∀(ds:List PyData) (n:Nat),(sO n ds).length=ds.length
 |[],_=>rfl
 |_::ds,n=>by simp[sO,va ds (n+1)]
theorem oZ {Q:List PyData->Prop}(hg:Gl X "enumerate")(hm:X.mg "enumerate"=none)(h:EvD X α a fun x=>∃ds,x=.list ds/\Q (sO 0 ds))(hs:starEach [a] X.env=[(false,eval a X.env)]:=by rfl):
  EvI X α (.Tuple elts kk tp) (.Call (.Name "enumerate" p) [a] [] pos) Q:=fun F σ H R m k=>by
 refine⟨_,zo0 hg hm (zd zj zw hs) hs,?_⟩;refine h F σ H _ m fun x vx H1 q1 t1 k1 r1=>?_;obtain⟨ds,rfl,q⟩:=q1;obtain⟨l1,xs,rfl,g1,g2⟩:=r1.lst_inv;refine⟨l1,rfl,⟨xs,SqL.of (zi g1).2⟩,k _ _ H1 q t1 k1 fun i H3 p s=>⟨fun d hd=>?_,fun hl=>?_⟩⟩
 ·have s1:=SqL.of (K:=X.K) (zi (s _ _ g1)).2;obtain⟨e,he,rfl⟩:=wK hd;obtain⟨x1,hx1,av1⟩:=g2.get he;refine⟨⟨xs,x1,s1,hx1⟩,fun v H4 y=>?_⟩;obtain⟨T,x,rfl,hT,rfl,hx⟩:=y;have hx:=hx _ s1;rw[hx1] at hx;cases hx;refine⟨yB hT,fun fr=>?_⟩;have gs:zB (Gz F α σ H1) (sub p (upd H3 T (.tup [.int i,x1]))):=fun a o e=>by
   obtain⟨z1,z2⟩:=zi (s a o e);exact zH z1 (by rw[zg (zo z2 hT)];exact z2)
  refine .tup (zH (fr T _ zk hT) zk) (.cons ?_ (.cons (av1.same gs) .nil));rw[Nat.zero_add];exact .int _
 ·refine⟨xs,SqL.of (zi (s _ _ g1)).2,?_⟩;rw[va,<-g2.length] at hl;exact hl
end
structure Cal (P:Program)(w:World)(K:PySem.W.Frag)(mg:Str->Option Value)(base:Heap)(x:Str)(k:Nat)(φ:List A->(A->Prop)->Prop):Prop where
 ex:∃f fd ps,mg x=some (.ref f)/\PySem.W.keepIn K (.ref f)=true/\Binds K fd ps []/\zE P w K mg base CX0 k f fd ps (spA φ)
section
variable {X:Cx}{α:Ev}{e a b:Expr}{es:List Expr}{pos p:Pos}{Q:PyData->Prop}{k:Nat}{φ:List A->(A->Prop)->Prop}{x:Str}
theorem yA (C:Cal X.prog X.w X.K X.mg X.base x k φ)(hr:zX k X.A)(hg:Gl X x)(h:EvA X α (e::es) fun as=>φ as fun a=>Q a.d)
  (hdb:(x == ("__debug__":Str))=false:=by decide) (he:starEach (e::es) X.env=(false,eval e X.env)::starEach es X.env:=by rfl) (hpl:(backTo pos (starEach es X.env)).any (·.1)=false:=by rfl):EvD X α (.Call (.Name x p) (e::es) [] pos) Q:=by
 obtain⟨f,fd,ps,h1,h2,h3,h4⟩:=C.ex;exact zr5 h4 hr hg h1 h2 h3 h hdb he hpl
theorem wI {Q:List PyData->Prop}(C:Cal X.prog X.w X.K X.mg X.base x k φ)(hr:zX k X.A)(hg:Gl X x)(h:EvA X α (e::es) fun as=>φ as fun a=>∃ds,a=.own ds/\Q ds)
  (hdb:(x == ("__debug__":Str))=false:=by decide) (he:starEach (e::es) X.env=(false,eval e X.env)::starEach es X.env:=by rfl) (hpl:(backTo pos (starEach es X.env)).any (·.1)=false:=by rfl):EvL X α (.Call (.Name x p) (e::es) [] pos) Q:=by
 obtain⟨f,fd,ps,h1,h2,h3,h4⟩:=C.ex;exact zx7 h4 hr hg h1 h2 h3 h hdb he hpl
end
section
variable {P:Program}{w:World}{K:PySem.W.Frag}{mg:Str->Option Value}{base:Heap}
theorem yM {x qual:Str}{st:Stmt}{f:Addr}{fd:FuncData}{N ps:List Str}{k:Nat}{φ:List A->(A->Prop)->Prop}(G:Fun K x qual st f fd)(hm:mg x=some (.ref f))(hb:Binds K fd ps [])(S:zm N ps (zb st))(hlen:∀as Q,φ as Q->as.length=ps.length)
  (hbody:∀(cdv:Value) (A':Around) (outer:List Env) (s:Shared) (H:Hp) (E:XK) (as:List A) (Q:A->Prop),zX k (A'.deeper (envOfC qual (zb st) s.heap.objs.size f cdv))->φ as Q->
   SvS (uu CX0 P w K mg base N qual (zb st) f cdv A' outer s H E).nox (as.map some++List.replicate (N.length-as.length) none) (zA st) {nx:=fun _=>Q (.dat .none),rt:=Q}):Cal P w K mg base x (k+1) φ:=
 ⟨f,fd,ps,hm,G.kp,hb,fnA G S hlen hbody⟩
theorem Cal.imp {x:Str}{k:Nat}{φ φ':List A->(A->Prop)->Prop}(C:Cal P w K mg base x k φ)(h:∀as Q,φ' as Q->φ as Q):Cal P w K mg base x k φ':=by
 obtain⟨f,fd,ps,h1,h2,h3,h4⟩:=C.ex;exact⟨f,fd,ps,h1,h2,h3,h4.imp fun vs H Q E ⟨F,as,Q',a,b,c,d,e,g⟩=>⟨F,as,Q',a,b,c,d,h _ _ e,g⟩⟩
def xI :List A->(A->Prop)->Prop:=fun as Q=>∃n:Int,as=[.tape,.dat (.int n)]/\0<n/\n<big/\∀v,0<=v->v<n->Q (.dat (.int v))
theorem aP {f:Addr}{fd:FuncData}{x:Str}(hm:mg x=some (.ref f))(hk:PySem.W.keepIn K (.ref f)=true)(hb:Binds K fd ["_law_tape_here","_law_many"] [])(G:zE P w K mg base CX0 1 f fd ["_law_tape_here","_law_many"] bA):Cal P w K mg base x 1 xI:=by
 refine⟨f,fd,_,hm,hk,hb,G.imp fun vs H Q E h=>?_⟩;obtain⟨F,as,Q',rfl,t,o,rv,⟨n,rfl,h0,h1,hq⟩,kk⟩:=h;cases rv with
 |cons a1 r=>
  obtain⟨ta,b,c,e,rfl⟩:=a1;obtain⟨v,rfl,av⟩:=r.one;cases av.int_inv;refine⟨ta,b,c,n,rfl,(t ta b c e).1,h0,h1,fun z H' z0 z1 TA off=>kk _ _ _ (hq z z0 z1) ⟨⟨(by
   obtain⟨_,_,_,_,e1,e2,_⟩:=(t ta b c e).1.ex;exact zr6 t.tab e1 e2 off),t.ot,fun t' b' c' e'=>?_⟩,fun y u hy n=>?_,.int z⟩⟩
  ·rw[e] at e';cases e';exact⟨TA,(t ta b c e).2⟩
  ·rw[off y (n.1 _ _ _ e).1 (n.1 _ _ _ e).2];exact hy
theorem M.tape {H:Hp}{t b c:Addr}{α:Ev}{σ:St}(T:yZ H t b c)(TB:TabAt H)(hl:α.length=σ.length)(h:∀(i:Nat) a,α[i]?=some (some a)->a=.tape/\σ[i]?=some (some (.ref t))):M ⟨H,fun x=>x=t\/x=b\/x=c\/qT x,some (t,b,c)⟩ α σ H:=by
 refine⟨hl,fun i a s e1 e2=>?_,fun i j a b s u x e1 _ _ _ f=>?_,fun i r q e=>?_,⟨TB,fun x z=>.inr (.inr (.inr z)),fun t' b' c' e=>?_⟩,fun _ _ e _=>e,fun x hx=>?_⟩
 ·obtain⟨rfl,z⟩:=h i a e1;rw[z] at e2;cases e2;exact⟨t,b,c,rfl,rfl⟩
 ·obtain⟨rfl,_⟩:=h i a e1;exact f.elim
 ·cases (h i _ e).1
 ·cases e;exact⟨T,.inl rfl,.inr (.inl rfl),.inr (.inr (.inl rfl))⟩
 ·obtain⟨n,bs,cs,_,e1,e2,e3,_⟩:=T.ex;rcases hx with rfl|rfl|rfl|z
  ·exact⟨_,e1,xH⟩
  ·exact⟨_,e2,xH⟩
  ·exact⟨_,e3,xH⟩
  ·obtain⟨o,h1,h2,_⟩:=oI TB z;exact⟨o,h1,h2⟩
theorem zV8 {st:Stmt}{f fT:Addr}{fd fdT:FuncData}{N':List Str}{k:Nat}{p1 p2 p3 p4 p5:Pos}{rest:List Stmt}(G:Fun K "law" "law" st f fd)(S:zm ("_law_script"::"_law_tape_here"::N') ["_law_script"] (zb st))
  (GT:zE P w K mg base CX0 1 fT fdT ["_law_script"] (jq K)) (mT:mg "_law_tape"=some (.ref fT)) (kT:PySem.W.keepIn K (.ref fT)=true) (bT:Binds K fdT ["_law_script"] [])
  (hb:zA st=.Assign [.Name "_law_tape_here" p1] (.Call (.Name "_law_tape" p2) [.Name "_law_script" p3] [] p4) p5::rest) (hgl:(zb st).names.lookup ("_law_tape":Str)=some .globalImplicit) (hl:Loc (zb st) "_law_tape_here") (hv:Vis (zb st) "_law_script")
  (hbody:∀(cdv:Value) (A':Around) (outer:List Env) (s:Shared) (H:Hp) (E:XK),zX (k+1) (A'.deeper (envOfC "law" (zb st) s.heap.objs.size f cdv))->
   SvS (uu CX0 P w K mg base ("_law_script"::"_law_tape_here"::N') "law" (zb st) f cdv A' outer s H E).nox (none::some .tape::List.replicate N'.length none) rest {nx:=fun _=>False,rt:=fun a=>a=.dat (.bool true)}):
  zE P w K mg base CX0 (k+1+1) f fd ["_law_script"] (mQ K):=by
 refine G.ok S (fun vs H Q E h=>?_) (fun cdv A' outer s H vs Qc E hr h=>?_)
 ·obtain⟨a,ns,rfl,_⟩:=h;rfl
 ·obtain⟨a,ns,rfl,hS,hn,tb,kk⟩:=h;rw[hb];refine yf (fun σ H1=>∃t b c,yZ H1 t b c/\TabAt H1/\σ=some (.ref a)::some (.ref t)::List.replicate N'.length none)
   ⟨_,vw (i:=1) S.nd rfl hl (zZ GT (hr.mono (by omega)) hgl mT kT bT .nil yp (zd (xQ (i:=0) rfl hv) zw)) (hf:=.inl rfl),?_⟩ ?_
  ·refine⟨.ref a,rfl,a,ns,rfl,hS,hn,fun t b c H' T _ _ _ sm=>⟨t,b,c,T,zc4 tb sm,?_⟩⟩;show ((L2.start ("_law_script"::"_law_tape_here"::N') [.ref a]).set 1 (some (.ref t)))=_;unfold L2.start;simp[List.replicate_succ]
  ·rintro σ H1 ⟨t,b,c,T,TB,rfl⟩;refine hbody cdv A' outer s H E hr ⟨H1,fun x=>x=t\/x=b\/x=c\/qT x,some (t,b,c)⟩ _ H1 _ (M.tape T TB (by simp) fun i z e=>?_) ⟨fun _ _ _ _ z=>z.elim,fun z v H' r e=>?_,fun _ _ _ _ z=>z.elim,fun _ _ _ _ z=>z.elim⟩
   ·cases i with
    |zero=>simp at e
    |succ i=>
     cases i with
     |zero=>simp at e;subst e;exact⟨rfl,rfl⟩
     |succ i=>
      simp only[yb7,z62] at e;split at e<;>cases e
   ·cases e;obtain⟨_,_,r⟩:=r;rw[AV.bl_inv r];exact kk H'
end
section
variable {Y:Addr->Shared->Hp->List Addr->Cx}{pat:Pat}{ifs:List Expr}{elt:Expr}{α0:Ev}
theorem uE {ds acc:List PyData}{Q:List PyData->Prop}(p:PyData->Bool)(f:PyData->PyData)
  (hs:∀d∈ds,∃α1,pat.bind d α0=some α1/\(∀C s2 H2 fp (Q:Bool->Prop),Q (p d)->zc5 (Y C s2 H2 fp) α1 ifs Q)/\(p d=true->∀C s2 H2 fp (Q:PyData->Prop),Q (f d)->EvD (Y C s2 H2 fp) α1 elt Q))
  (hd:Q (acc++(ds.filter p).map f)):wA Y pat ifs elt α0 ds acc Q:=by
 induction ds generalizing acc with
 |nil=>
  show Q acc;simpa using hd
 |cons d ds ih=>
  obtain⟨α1,e,h1,h2⟩:=hs d zX7;refine⟨α1,e,fun C s2 H2 fp=>h1 C s2 H2 fp _ ?_⟩;have ih':=fun acc=>ih (acc:=acc) fun d hd=>hs d (zX3 _ hd);cases hp:p d with
  |true=>
   rw[if_pos rfl];refine fun C s2 H2 fp=>h2 hp C s2 H2 fp _ (ih' _ ?_);simpa[z86,hp] using hd
  |false=>
   rw[if_neg (by decide)];refine ih' _ ?_;simpa[z86,hp] using hd
end
theorem mO {ds:List PyData}{v:Int}(h0:0<=v)(h1:v<ds.length):∃d,d∈ds/\atI ds v=some d:=by
 obtain⟨j,rfl⟩:=z50 h0;have hj:j<ds.length:=by omega
 exact⟨ds[j],z28 hj,yH (zW6 hj)⟩
theorem jf (st:Stmt)(env:Env):execs [st] env=exec st env:=by
 rw[PySem.execs_cons];have:(fun f:Flow=>(match f with|.next=>execs [] env|f=>pure f:Sem Flow))=pure:=by
  funext f
  cases f<;>rfl
 exact (congrArg (fun g=>exec st env >>= g) this).trans (bind_pure _)
section
variable {X:Cx}{α:Ev}{e a b c:Expr}{es rest:List Expr}{pos p:Pos}{Q:PyData->Prop}{E:xy}{st:Stmt}{sts sts':List Stmt}
theorem zP (P:Ev->Prop)(h1:SvS X α [st] {E with nx:=P})(h2:∀α',P α'->SvS X α' sts E):SvS X α (st::sts) E:=fun F σ H D m r=>by
 refine yf (fun σ' H'=>∃α',M F α' σ' H'/\P α') ?_ ?_
 ·obtain⟨t,p,q⟩:=h1 F σ H {D with nx:=fun σ' H'=>∃α',M F α' σ' H'/\P α'} m ⟨fun α' σ' H' m' z=>⟨α',m',z⟩,r.rt,r.bk,r.ct⟩;exact⟨t,fun pins s σ H D I h=>(by
   have:=p pins s σ H D I h;rw[jf] at this;exact this),q⟩
 ·rintro σ' H' ⟨α',m',z⟩;exact h2 α' z F σ' H' D m' r
theorem zm4 {c:Prop}[Decidable c]{a b:List Stmt}(h1:c->SvS X α a E)(h2:¬c->SvS X α b E):SvS X α (if decide c=true then a else b) E:=by
 by_cases h:c
 ·rw[z02 h];exact h1 h
 ·rw[zZ1 h];exact h2 h
theorem yq {k:Bool}{a b:List Stmt}(h1:k=true->SvS X α a E)(h2:k=false->SvS X α b E):SvS X α (if k=true then a else b) E:=by
 cases k with
 |true=>exact h1 rfl
 |false=>exact h2 rfl
theorem gD {i j:Int}:Cmp rEq (.int i) (.int j) (decide (i=j)):=fun p H vx vy R rx ry h=>by
 cases rx.int_inv;cases ry.int_inv;refine⟨rfl,?_⟩;rw[show decide (V.int i=V.int j)=decide (i=j) by simp];exact h
theorem zu7 {i j:Int}:Cmp rNe (.int i) (.int j) (!decide (i=j)):=fun p H vx vy R rx ry h=>by
 cases rx.int_inv;cases ry.int_inv;refine⟨rfl,?_⟩;rw[show decide (V.int i=V.int j)=decide (i=j) by simp];exact h
theorem hU {i j:Str}:Cmp rEq (.str i) (.str j) (decide (i=j)):=fun p H vx vy R rx ry h=>by
 cases rx.str_inv;cases ry.str_inv;refine⟨rfl,?_⟩;rw[show decide (V.str i=V.str j)=decide (i=j) by simp];exact h
theorem jS {op:CmpOp}{r:R2}(ho:OpR X (compareOp op) r)(hm:behindInMarks op b=false)(h:EvD X α a fun x=>EvD X α b fun y=>∃k,Cmp r x y k/\Q (.bool k)):EvD X α (.Compare a [op] [b] pos) Q:=fun F σ H R m k=>by
 refine⟨_,xT ho zj zj hm,?_⟩;refine h F σ H _ m fun x vx H1 q1 t1 k1 r1=>?_;have m1:=m.kz k1 t1;refine q1 F σ H1 _ m1 fun y vy H2 q2 t2 k2 r2=>?_;obtain⟨b,hc,q⟩:=q2;exact hc _ H2 vx vy _ (r1.same (k2.gz m1.tp)) r2 (k _ _ H2 q t2 (k1.trans k2) (.bl b))
theorem zK3 {Q:Bool->Prop}(h:EvD X α a fun x=>EvD X α b fun y=>∃i j,x=.int i/\y=.int j/\Q (decide (i=j))):EvT X α (.Compare a [.Eq] [b] pos) Q:=
 wD vE (zC _) (h.imp fun x h=>h.imp fun y ⟨i,j,e1,e2,q⟩=>⟨_,by subst e1 e2;exact gD,q⟩)
theorem zG1 {Q:Bool->Prop}(h:EvD X α a fun x=>EvD X α b fun y=>∃i j,x=.str i/\y=.str j/\Q (decide (i=j))):EvT X α (.Compare a [.Eq] [b] pos) Q:=
 wD vE (zC _) (h.imp fun x h=>h.imp fun y ⟨i,j,e1,e2,q⟩=>⟨_,by subst e1 e2;exact hU,q⟩)
theorem zn8 {p q:Bool}{Q:Bool->Prop}(ha:∀Q:Bool->Prop,Q p->EvT X α a Q)(hb:p=true->∀Q:Bool->Prop,Q q->EvW X α (.BoolOp .And (b::rest) pos) Q)(k:Q (p&&q)):EvW X α (.BoolOp .And (a::b::rest) pos) Q:=by
 refine zc9 (ha _ ?_);cases p with
 |true=>rw[if_pos rfl];exact hb rfl _ (by simpa using k)
 |false=>rw[if_neg (by decide)];simpa using k
theorem M.park {F:Fr}{σ:St}{H H1:Hp}{l:Addr}{o:HO}(m:M F α σ H)(k1:Kz F H H1)(t1:zR F H1)(hl:H l=none)(hl1:H1 l=some o)(no:vG o):M ⟨F.H0,fun x=>F.O0 x\/x=l,F.tp⟩ α σ H1:=by
 have m1:=m.kz k1 t1;have g0:zB (Gz F α σ H) (Gz ⟨F.H0,fun x=>F.O0 x\/x=l,F.tp⟩ α σ H1):=fun y o z=>by
  obtain⟨z1,z2⟩:=zi z;refine zH ?_ (k1 _ _ z2 (m.tp.nt (ow0 z1)));rintro ((w|w)|⟨i,a,s,e1,e2,f⟩)
  ·exact z1 (.inl w)
  ·rw[w,hl] at z2;cases z2
  ·exact z1 (.inr ⟨i,a,s,e1,e2,f⟩)
 refine⟨m.len,fun i a s e1 e2=>(m.ok i a s e1 e2).stay g0 (fun x o f e=>?_) rfl fun r q _ y=>?_,m.dj,m.xd,t1.to rfl fun _ z=>.inl z,fun y o z n=>m1.keep y o z n,fun y z=>?_⟩
 ·obtain⟨w1,w2,_⟩:=m.ft e1 e2 f;exact⟨k1 _ _ e (m.tp.nt w1),fun (w:F.O0 x\/x=l)=>w.elim w1 (fun w=>by rw[w,hl] at e;cases e),w2⟩
 ·have y':=y.kz k1 t1;exact⟨y'.tp,fun x z=>.inl (y'.o x z),y'.ok,y'.k⟩
 ·rcases z with z|z
  ·exact m1.oex y z
  ·exact⟨_,by rw[z];exact hl1,no⟩
end
structure NbT (mg:Str->Option Value):Prop where
 abs:mg "abs"=none
 list:mg "list"=none
 len:mg "len"=none
 range:mg "range"=none
 min:mg "min"=none
 max:mg "max"=none
 sorted:mg "sorted"=none
 isinstance:mg "isinstance"=none
 int:mg "int"=none
 bool:mg "bool"=none
 str:mg "str"=none
 tuple:mg "tuple"=none
 all:mg "all"=none
 any:mg "any"=none
 repr:mg "repr"=none
 zip:mg "zip"=none
 enumerate:mg "enumerate"=none
 reversed:mg "reversed"=none
 sum:mg "sum"=none
theorem vP {X:Cx}{K:PySem.W.Frag}{es:List Expr}{k:Nat}{t:TGs}{n:Nat}{pos:Pos}(hK:X.K=K)(hc:X.calm=true)(h:PGs X es t)
  (hn:(assignEach es X.env).length=n:=by rfl) (hst:(assignEach es X.env).findIdx? (·.1)=none:=by rfl):PG X (.Tuple es k pos) (zG0 K n t):=by
 subst hK;exact zK1 hc h hn hst
end L2
namespace SortA
open PySem PySem.W PyProof.Rows
noncomputable def run {α:Type}(lt:Nat->Nat->Bool):KasT α->α
 |.ret a=>a
 |.ask i j k=>run lt (k (lt i j))
theorem run_bind {α β:Type}(lt:Nat->Nat->Bool)(f:α->KasT β):∀t:KasT α,run lt (t.bind f)=run lt (f (run lt t))
 |.ret _=>rfl
 |.ask i j k=>run_bind lt f (k (lt i j))
structure Ord (lt:Nat->Nat->Bool):Prop where
 irr:∀a,lt a a=false
 tr:∀a b c,lt b a=false->lt c b=false->lt c a=false
 asy:∀a b,lt a b=true->lt b a=false
noncomputable abbrev g (p:Array Nat)(i:Nat):Nat:=p.getD i 0
def Up (lt:Nat->Nat->Bool)(p:Array Nat)(m:Nat):Prop:=∀i j,i<=j->j<m->lt (g p j) (g p i)=false
def Down (lt:Nat->Nat->Bool)(p:Array Nat)(m:Nat):Prop:=∀i j,i<=j->j<m->lt (g p i) (g p j)=false
theorem zm8 {p q:Array Nat}{i j:Nat}(h:p[i]?=q[j]?):g p i=g q j:=by
 unfold g;rw[Array.getD_eq_getD_getElem?,Array.getD_eq_getD_getElem?,h]
variable {lt:Nat->Nat->Bool}
theorem Up.succ (O:Ord lt){p:Array Nat}{m:Nat}(h:Up lt p m)(hm:0<m)(e:lt (g p m) (g p (m-1))=false):Up lt p (m+1):=fun i j hij hj=>by
 by_cases e1:j<m
 ·exact h i j hij e1
 ·have ej:j=m:=by omega
  subst ej;by_cases e2:i=j
  ·subst e2;exact O.irr _
  ·exact O.tr _ _ _ (h i (j-1) (by omega) (by omega)) e
theorem Down.succ (O:Ord lt){p:Array Nat}{m:Nat}(h:Down lt p m)(hm:0<m)(e:lt (g p (m-1)) (g p m)=false):Down lt p (m+1):=fun i j hij hj=>by
 by_cases e1:j<m
 ·exact h i j hij e1
 ·have ej:j=m:=by omega
  subst ej;by_cases e2:i=j
  ·subst e2;exact O.irr _
  ·exact O.tr _ _ _ e (h i (j-1) (by omega) (by omega))
theorem zF7 (O:Ord lt)(p:Array Nat):Up lt p 1:=fun i j hij hj=>by
 have e1:i=0:=by omega
 have e2:j=0:=by omega
 rw[e1,e2];exact O.irr _
theorem jH (O:Ord lt)(p:Array Nat):∀(f n:Nat),0<n->Up lt p n->n<=run lt (kas_asc p f n)/\run lt (kas_asc p f n)<=n+f/\Up lt p (run lt (kas_asc p f n))/\
  (run lt (kas_asc p f n)<n+f->lt (g p (run lt (kas_asc p f n))) (g p (run lt (kas_asc p f n)-1))=true)
 |0,n,_,h=>⟨zW9 _,zW9 _,h,fun z=>absurd z (z35 _)⟩
 |f+1,n,hn,h=>by
  show n<=run lt ((fun c=>if c=true then KasT.ret n else kas_asc p f (n+1)) (lt (p.getD n 0) (p.getD (n-1) 0)))/\_;cases e:lt (p.getD n 0) (p.getD (n-1) 0) with
  |true=>
   have er:run lt (kas_asc p (f+1) n)=n:=by
    show run lt ((fun c=>if c=true then KasT.ret n else kas_asc p f (n+1)) (lt (p.getD n 0) (p.getD (n-1) 0)))=n;rw[e];rfl
   rw[er];exact⟨zW9 _,by omega,h,fun _=>e⟩
  |false=>
   have er:run lt (kas_asc p (f+1) n)=run lt (kas_asc p f (n+1)):=by
    show run lt ((fun c=>if c=true then KasT.ret n else kas_asc p f (n+1)) (lt (p.getD n 0) (p.getD (n-1) 0)))=_;rw[e];rfl
   rw[er];obtain⟨a,b,c,d⟩:=jH O p f (n+1) (by omega) (h.succ O hn e);exact⟨by show n<=run lt (kas_asc p f (n+1));omega,by omega,c,fun z=>d (by omega)⟩
theorem sV {p:Array Nat}{i j:Nat}(hj:j<=p.size)(k:Nat):g (kas_rev p i j) k=if i<=k/\k<j then g p (i+j-1-k) else g p k:=by
 have h:=getElem?_mirror_all (xs:=p) (i:=i) hj k;split
 ·rename_i c;rw[if_pos c] at h;exact zm8 h
 ·rename_i c;rw[if_neg c] at h;exact zm8 h
theorem wg (p:Array Nat)(i j:Nat):(kas_rev p i j).size=p.size:=mirror_size _ _ _ _
theorem xu (p:Array Nat)(i j:Nat):(kas_rev p i j).Perm p:=mirror_perm _ _ _ _
def Eqv (lt:Nat->Nat->Bool)(a b:Nat):Prop:=lt a b=false/\lt b a=false
theorem Down.eqv (O:Ord lt){p q:Array Nat}{n:Nat}(h:Down lt p n)(e:∀k,k<n->Eqv lt (g q k) (g p k)):Down lt q n:=fun i j hij hj=>
 O.tr _ _ _ (O.tr _ _ _ (e j hj).2 (h i j hij hj)) (e i (by omega)).1
def Last (lt:Nat->Nat->Bool)(p:Array Nat)(n q:Nat):Prop:=∀a b,n<=a+(q+1)->a<n->n<=b+(q+1)->b<n->lt (g p a) (g p b)=false
theorem rev_last (O:Ord lt){p:Array Nat}{n q:Nat}(hn:n<=p.size)(hq:q<n)(L:Last lt p n q):∀k,k<n->Eqv lt (g (kas_rev p (n-(q+1)) n) k) (g p k):=fun k hk=>by
 rw[sV hn];split
 ·rename_i c;exact⟨L _ _ (by omega) (by omega) (by omega) hk,L _ _ (by omega) hk (by omega) (by omega)⟩
 ·exact⟨O.irr _,O.irr _⟩
theorem rB (O:Ord lt):∀(f:Nat) (p:Array Nat) (n q:Nat),q<n->n+f<=p.size->Down lt p n->Last lt p n q->
  ∃p' m q',run lt (kas_desc f p n q)=(p',m,q')/\n<=m/\m<=n+f/\p'.size=p.size/\p'.Perm p/\q'<m/\Down lt p' m/\Last lt p' m q'
 |0,p,n,q,hq,hs,h,L=>⟨p,n,q,rfl,zW9 _,zW9 _,rfl,ya4 _,hq,h,L⟩
 |f+1,p,n,q,hq,hs,h,L=>by
  cases e:lt (p.getD n 0) (p.getD (n-1) 0) with
  |true=>
   by_cases hq0:q > 0
   ·have er:run lt (kas_desc (f+1) p n q)=run lt (kas_desc f (kas_rev p (n-(q+1)) n) (n+1) 0):=by
     show run lt ((fun c=>if c=true then (if q > 0 then kas_desc f (kas_rev p (n-(q+1)) n) (n+1) 0 else kas_desc f p (n+1) 0)
      else .ask (p.getD (n-1) 0) (p.getD n 0) fun d=>if d=true then .ret (p,n,q) else kas_desc f p (n+1) (q+1)) (lt (p.getD n 0) (p.getD (n-1) 0)))=_
     rw[e];show run lt (if q > 0 then _ else _)=_;rw[if_pos hq0]
    have ev:=rev_last O (by omega:n<=p.size) hq L;have h1:=h.eqv O ev;have hn:g (kas_rev p (n-(q+1)) n) n=g p n:=by rw[sV (by omega),if_neg (by omega)]
    have h2:Down lt (kas_rev p (n-(q+1)) n) (n+1):=h1.succ O (by omega) (by
     rw[hn];exact O.tr _ _ _ (O.asy _ _ e) (ev (n-1) (by omega)).1)
    obtain⟨p',m,q',a,b,c,d1,d2,d3,d4,d5⟩:=rB O f (kas_rev p (n-(q+1)) n) (n+1) 0 (by omega) (by rw[wg];omega) h2 (fun a b h1 h2 h3 h4=>by
     have e1:a=n:=by omega
     have e2:b=n:=by omega
     rw[e1,e2];exact O.irr _)
    exact⟨p',m,q',er.trans a,by omega,by omega,by rw[d1,wg],d2.trans (xu _ _ _),d3,d4,d5⟩
   ·have er:run lt (kas_desc (f+1) p n q)=run lt (kas_desc f p (n+1) 0):=by
     show run lt ((fun c=>if c=true then (if q > 0 then kas_desc f (kas_rev p (n-(q+1)) n) (n+1) 0 else kas_desc f p (n+1) 0)
      else .ask (p.getD (n-1) 0) (p.getD n 0) fun d=>if d=true then .ret (p,n,q) else kas_desc f p (n+1) (q+1)) (lt (p.getD n 0) (p.getD (n-1) 0)))=_
     rw[e];show run lt (if q > 0 then _ else _)=_;rw[if_neg hq0]
    obtain⟨p',m,q',a,b,c,d1,d2,d3,d4,d5⟩:=rB O f p (n+1) 0 (by omega) (by omega) (h.succ O (by omega) (O.asy _ _ e)) (fun a b h1 h2 h3 h4=>by
     have e1:a=n:=by omega
     have e2:b=n:=by omega
     rw[e1,e2];exact O.irr _)
    exact⟨p',m,q',er.trans a,by omega,by omega,d1,d2,d3,d4,d5⟩
  |false=>
   cases e2:lt (p.getD (n-1) 0) (p.getD n 0) with
   |true=>
    have er:run lt (kas_desc (f+1) p n q)=(p,n,q):=by
     show run lt ((fun c=>if c=true then (if q > 0 then kas_desc f (kas_rev p (n-(q+1)) n) (n+1) 0 else kas_desc f p (n+1) 0)
      else .ask (p.getD (n-1) 0) (p.getD n 0) fun d=>if d=true then .ret (p,n,q) else kas_desc f p (n+1) (q+1)) (lt (p.getD n 0) (p.getD (n-1) 0)))=_
     rw[e];show run lt ((fun d=>if d=true then KasT.ret (p,n,q) else kas_desc f p (n+1) (q+1)) (lt (p.getD (n-1) 0) (p.getD n 0)))=_;rw[e2];rfl
    exact⟨p,n,q,er,zW9 _,by omega,rfl,ya4 _,hq,h,L⟩
   |false=>
    have er:run lt (kas_desc (f+1) p n q)=run lt (kas_desc f p (n+1) (q+1)):=by
     show run lt ((fun c=>if c=true then (if q > 0 then kas_desc f (kas_rev p (n-(q+1)) n) (n+1) 0 else kas_desc f p (n+1) 0)
      else .ask (p.getD (n-1) 0) (p.getD n 0) fun d=>if d=true then .ret (p,n,q) else kas_desc f p (n+1) (q+1)) (lt (p.getD n 0) (p.getD (n-1) 0)))=_
     rw[e];show run lt ((fun d=>if d=true then KasT.ret (p,n,q) else kas_desc f p (n+1) (q+1)) (lt (p.getD (n-1) 0) (p.getD n 0)))=_;rw[e2];rfl
    have Ln:Last lt p (n+1) (q+1):=fun a b h1 h2 h3 h4=>by
     have two:∀a,n+1<=a+(q+1+1)->a<n+1->Eqv lt (g p a) (g p (n-1)):=fun a x1 x2=>by
      by_cases ea:a=n
      ·rw[ea];exact⟨e,e2⟩
      ·exact⟨L a (n-1) (by omega) (by omega) (by omega) (by omega),L (n-1) a (by omega) (by omega) (by omega) (by omega)⟩
     exact O.tr _ _ _ (two b h3 h4).2 (two a h1 h2).1
    obtain⟨p',m,q',a,b,c,d1,d2,d3,d4,d5⟩:=rB O f p (n+1) (q+1) (by omega) (by omega) (h.succ O (by omega) e2) Ln;exact⟨p',m,q',er.trans a,by omega,by omega,d1,d2,d3,d4,d5⟩
theorem zG3 {p:Array Nat}{n:Nat}(hn:n<=p.size)(h:Down lt p n):Up lt (kas_rev p 0 n) n:=fun i j hij hj=>by
 rw[sV hn,sV hn,if_pos (by omega),if_pos (by omega)];exact h _ _ (by omega) (by omega)
theorem lE (O:Ord lt){p:Array Nat}{n nrem:Nat}(h0:0<n)(hn:n<=nrem)(hs:nrem<=p.size)(h:Down lt p n):
  ∃p' m,run lt (kas_tail3 n nrem p)=(m,p')/\1<=m/\m<=nrem/\p'.size=p.size/\p'.Perm p/\Up lt p' m:=by
 obtain⟨a,b,c,_⟩:=jH O (kas_rev p 0 n) (nrem-n) n h0 (zG3 (by omega) h);refine⟨kas_rev p 0 n,run lt (kas_asc (kas_rev p 0 n) (nrem-n) n),?_,by omega,by omega,wg _ _ _,xu _ _ _,c⟩;unfold kas_tail3;rw[run_bind];rfl
theorem sP (O:Ord lt){p:Array Nat}{n nrem:Nat}(h0:0<n)(hn:n+1<=nrem)(hs:nrem<=p.size)(h:Down lt p (n+1)):
  ∃p' m,run lt (kas_descPart n nrem p)=(m,p')/\1<=m/\m<=nrem/\p'.size=p.size/\p'.Perm p/\Up lt p' m:=by
 obtain⟨p1,m1,q1,e,a1,a2,a3,a4,a5,a6,a7⟩:=rB O (nrem-(n+1)) p (n+1) 0 (by omega) (by omega) h (fun a b h1 h2 h3 h4=>by
  have e1:a=n:=by omega
  have e2:b=n:=by omega
  rw[e1,e2];exact O.irr _)
 unfold kas_descPart;rw[run_bind,e];dsimp only;split
 ·obtain⟨p',m,b1,b2,b3,b4,b5,b6⟩:=lE O (p:=kas_rev p1 (m1-(q1+1)) m1) (n:=m1) (nrem:=nrem) (by omega) (by omega) (by rw[wg];omega) (a6.eqv O (rev_last O (by omega) a5 a7));exact⟨p',m,b1,b2,b3,by rw[b4,wg,a3],(b5.trans (xu _ _ _)).trans a4,b6⟩
 ·obtain⟨p',m,b1,b2,b3,b4,b5,b6⟩:=lE O (p:=p1) (n:=m1) (nrem:=nrem) (by omega) (by omega) (by omega) a6;exact⟨p',m,b1,b2,b3,by rw[b4,a3],b5.trans a4,b6⟩
theorem za3 (O:Ord lt){p:Array Nat}{nrem:Nat}(h0:0<nrem)(hs:nrem<=p.size):
  ∃p' m,run lt (kas_count nrem p)=(m,p')/\1<=m/\m<=nrem/\p'.size=p.size/\p'.Perm p/\Up lt p' m:=by
 obtain⟨a,b,c,d⟩:=jH O p (nrem-1) 1 (by omega) (zF7 O p);unfold kas_count;rw[run_bind];generalize run lt (kas_asc p (nrem-1) 1)=n at a b c d;by_cases en:n=nrem
 ·rw[if_pos (by rw[en];simp)];exact⟨p,n,rfl,a,by omega,rfl,ya4 _,c⟩
 ·rw[if_neg (by simpa using en)];have hd:=d (by omega);by_cases h1:n > 1
  ·rw[if_pos h1];cases e:lt (p.getD 0 0) (p.getD (n-1) 0) with
   |true=>
    refine⟨p,n,?_,a,by omega,rfl,ya4 _,c⟩;show run lt ((fun c=>if c=true then KasT.ret (n,p) else kas_descPart n nrem (kas_rev p 0 n)) (lt (p.getD 0 0) (p.getD (n-1) 0)))=_;rw[e];rfl
   |false=>
    have all:∀k,k<n->Eqv lt (g p k) (g p 0):=fun k hk=>⟨c 0 k (by omega) hk,O.tr _ _ _ (c k (n-1) (by omega) (by omega)) e⟩;have hD:Down lt (kas_rev p 0 n) (n+1):=by
     have h2:Down lt (kas_rev p 0 n) n:=fun i j hij hj=>by
      rw[sV (by omega),sV (by omega),if_pos (by omega),if_pos (by omega)];exact O.tr _ _ _ (all _ (by omega)).2 (all _ (by omega)).1
     refine h2.succ O (by omega) ?_;rw[sV (by omega),sV (by omega),if_pos (by omega),if_neg (by omega)];have e0:lt (g p (n-1)) (g p n)=false:=O.asy _ _ hd;exact O.tr _ _ _ e0 (O.tr _ _ _ (all (n-1) (by omega)).2 (all _ (by omega)).1)
    obtain⟨p',m,b1,b2,b3,b4,b5,b6⟩:=sP O (p:=kas_rev p 0 n) (n:=n) (nrem:=nrem) (by omega) (by omega) (by rw[wg];omega) hD;refine⟨p',m,?_,b2,b3,by rw[b4,wg],b5.trans (xu _ _ _),b6⟩;rw[<-b1];show run lt ((fun c=>if c=true then KasT.ret (n,p) else kas_descPart n nrem (kas_rev p 0 n)) (lt (p.getD 0 0) (p.getD (n-1) 0)))=_;rw[e];rfl
  ·rw[if_neg h1];have e1:n=1:=by omega
   subst e1;refine sP O (by omega) (by omega) hs ?_;have d1:Down lt p 1:=fun i j hij hj=>by
    have e1:i=0:=by omega
    have e2:j=0:=by omega
    rw[e1,e2];exact O.irr _
   exact d1.succ O (by omega) (O.asy _ _ hd)
theorem qG (O:Ord lt){p:Array Nat}{k:Nat}(U:Up lt p k):∀(f l r:Nat),r<=l+f->l<=r->r<=k->(∀i,i<l->lt (g p k) (g p i)=false)->(∀i,r<=i->i<k->lt (g p k) (g p i)=true)->
  run lt (kas_place p k f l r)<=k/\(∀i,i<run lt (kas_place p k f l r)->lt (g p k) (g p i)=false)/\(∀i,run lt (kas_place p k f l r)<=i->i<k->lt (g p k) (g p i)=true)
 |0,l,r,h1,h2,h3,ha,hb=>by
  show l<=k/\_;exact⟨by omega,ha,fun i x y=>hb i (by have:l<=i:=x;omega) y⟩
 |f+1,l,r,h1,h2,h3,ha,hb=>by
  by_cases hlr:l≥r
  ·have er:run lt (kas_place p k (f+1) l r)=l:=by
    show run lt (if l≥r then _ else _)=_;rw[if_pos hlr];rfl
   rw[er];exact⟨by omega,ha,fun i x y=>hb i (by omega) y⟩
  ·cases e:lt (p.getD k 0) (p.getD ((l+r) / 2) 0) with
   |true=>
    have er:run lt (kas_place p k (f+1) l r)=run lt (kas_place p k f l ((l+r) / 2)):=by
     show run lt (if l≥r then _ else _)=_;rw[if_neg hlr];show run lt ((fun c=>if c=true then kas_place p k f l ((l+r) / 2) else kas_place p k f ((l+r) / 2+1) r) (lt (p.getD k 0) (p.getD ((l+r) / 2) 0)))=_;rw[e];rfl
    rw[er];refine qG O U f l ((l+r) / 2) (by omega) (by omega) (by omega) ha fun i x y=>?_;cases e3:lt (g p k) (g p i) with
    |true=>rfl
    |false=>
     have e4:lt (g p k) (g p ((l+r) / 2))=false:=O.tr _ _ _ (U ((l+r) / 2) i x y) e3;have e5:lt (g p k) (g p ((l+r) / 2))=true:=e;rw[e4] at e5;cases e5
   |false=>
    have er:run lt (kas_place p k (f+1) l r)=run lt (kas_place p k f ((l+r) / 2+1) r):=by
     show run lt (if l≥r then _ else _)=_;rw[if_neg hlr];show run lt ((fun c=>if c=true then kas_place p k f l ((l+r) / 2) else kas_place p k f ((l+r) / 2+1) r) (lt (p.getD k 0) (p.getD ((l+r) / 2) 0)))=_;rw[e];rfl
    rw[er];exact qG O U f ((l+r) / 2+1) r (by omega) (by omega) h3 (fun i hi=>O.tr _ _ _ (U i ((l+r) / 2) (by omega) (by omega)) e) hb
theorem dP (O:Ord lt){p:Array Nat}{k l:Nat}(hk:k<p.size)(hl:l<=k)(U:Up lt p k)(ha:∀i,i<l->lt (g p k) (g p i)=false)(hb:∀i,l<=i->i<k->lt (g p k) (g p i)=true):Up lt (bubble p k (k-l)) (k+1):=by
 have gb:∀i,g (bubble p k (k-l)) i=if i=l then g p k else if l<i/\i<=k then g p (i-1) else g p i:=fun i=>by
  have h:=getElem?_bubble hk (k-l) (by omega) i;have el:k-(k-l)=l:=by omega
  rw[el] at h;by_cases c:i=l
  ·rw[if_pos c] at h ⊢;exact zm8 h
  ·rw[if_neg c] at h ⊢;by_cases c2:l<i/\i<=k
   ·rw[if_pos c2] at h ⊢;exact zm8 h
   ·rw[if_neg c2] at h ⊢;exact zm8 h
 intro i j hij hj;have gl:g (bubble p k (k-l)) l=g p k:=by rw[gb,if_pos rfl]
 have gm:∀i,l<i->i<=k->g (bubble p k (k-l)) i=g p (i-1):=fun i x y=>by rw[gb,if_neg (by omega),if_pos ⟨x,y⟩]
 have gs:∀i,i<l->g (bubble p k (k-l)) i=g p i:=fun i x=>by rw[gb,if_neg (by omega),if_neg (by omega)]
 rcases Nat.lt_trichotomy i l with hi|hi|hi
 ·rw[gs i hi];rcases Nat.lt_trichotomy j l with h|h|h
  ·rw[gs j h];exact U _ _ (by omega) (by omega)
  ·rw[h,gl];exact ha i hi
  ·rw[gm j h (by omega)];exact U _ _ (by omega) (by omega)
 ·rw[hi,gl];rcases Nat.lt_trichotomy j l with h|h|h
  ·omega
  ·rw[h,gl];exact O.irr _
  ·rw[gm j h (by omega)];exact O.asy _ _ (hb (j-1) (by omega) (by omega))
 ·rw[gm i hi (by omega),gm j (by omega) (by omega)];exact U _ _ (by omega) (by omega)
theorem zd8 (O:Ord lt):∀(f:Nat) (p:Array Nat) (k:Nat),0<k->k+f<=p.size->Up lt p k->(run lt (kas_bin f p k)).size=p.size/\(run lt (kas_bin f p k)).Perm p/\Up lt (run lt (kas_bin f p k)) (k+f)
 |0,p,k,_,_,U=>⟨rfl,ya4 _,U⟩
 |f+1,p,k,hk,hs,U=>by
  obtain⟨a,b,c⟩:=qG O U k 0 k (by omega) (by omega) (by omega) (fun i hi=>by omega) (fun i x y=>by omega);have er:run lt (kas_bin (f+1) p k)=run lt (kas_bin f (bubble p k (k-run lt (kas_place p k k 0 k))) (k+1)):=by
   show run lt ((kas_place p k k 0 k).bind _)=_;rw[run_bind]
  rw[er];obtain⟨x,y,z⟩:=zd8 O f (bubble p k (k-run lt (kas_place p k k 0 k))) (k+1) (by omega) (by rw[bubble_size];omega) (dP O (by omega) a U b c);have e:k+(f+1)=k+1+f:=by omega
  rw[e];exact⟨by rw[x,bubble_size],y.trans (bubble_perm _ _ _),z⟩
theorem zr4 (O:Ord lt){n:Nat}(h:0<n):(run lt (kas_sort n)).size=n/\(run lt (kas_sort n)).Perm (List.range n).toArray/\Up lt (run lt (kas_sort n)) n:=by
 obtain⟨p,m,e,a,b,c,d,u⟩:=za3 O (p:=(List.range n).toArray) (nrem:=n) h (by simp);unfold kas_sort;rw[run_bind,e];dsimp only;have hs:p.size=n:=by rw[c];simp
 by_cases hm:m<n
 ·rw[if_pos hm];have em:max m 1=m:=by omega
  rw[em];obtain⟨x,y,z⟩:=zd8 O (n-m) p m (by omega) (by omega) u;refine⟨by rw[x,hs],y.trans d,?_⟩;have e:m+(n-m)=n:=by omega
  rw[e] at z;exact z
 ·rw[if_neg hm];have e:m=n:=by omega
  subst e;exact⟨hs,d,u⟩
end SortA
namespace SortA
open PySem PySem.W PyProof.Rows
def wq {α:Type}(n:Nat)(P:α->Prop):KasT α->Prop
 |.ret a=>P a
 |.ask i j k=>i<n/\j<n/\∀b,wq n P (k b)
theorem wq.bind {α β:Type}{n:Nat}{P:α->Prop}{P':β->Prop}{f:α->KasT β}(h2:∀a,P a->wq n P' (f a)):∀t:KasT α,wq n P t->wq n P' (t.bind f)
 |.ret a,h=>h2 a h
 |.ask i j k,⟨a,b,c⟩=>⟨a,b,fun x=>wq.bind h2 (k x) (c x)⟩
def Bd (n:Nat)(p:Array Nat):Prop:=∀x∈p,x<n
theorem Bd.get {n:Nat}{p:Array Nat}(h:Bd n p)(hn:0<n)(i:Nat):p.getD i 0<n:=by
 by_cases hi:i<p.size
 ·have e:p.getD i 0=p[i]:=by simp[Array.getD,hi]
  rw[e];exact h _ (Array.getElem_mem hi)
 ·have e:p.getD i 0=0:=by simp[Array.getD,hi]
  rw[e];exact hn
theorem Bd.perm {n:Nat}{p q:Array Nat}(h:Bd n p)(e:q.Perm p):Bd n q:=fun x hx=>h x (e.mem_iff.mp hx)
theorem rW {n:Nat}{p:Array Nat}(B:Bd n p)(hn:0<n):∀f k,wq n (fun _=>True) (kas_asc p f k)
 |0,_=>trivial
 |f+1,k=>⟨B.get hn _,B.get hn _,fun b=>by
  cases b with
  |true=>exact trivial
  |false=>exact rW B hn f (k+1)⟩
theorem uf {n:Nat}(hn:0<n):∀f (p:Array Nat) k q,Bd n p->wq n (fun r:Array Nat×Nat×Nat=>Bd n r.1) (kas_desc f p k q)
 |0,_,_,_,B=>B
 |f+1,p,k,q,B=>⟨B.get hn _,B.get hn _,fun b=>by
  cases b with
  |true=>
   show wq n _ (if q > 0 then _ else _);split
   ·exact uf hn f _ _ _ (B.perm (xu _ _ _))
   ·exact uf hn f _ _ _ B
  |false=>
   refine⟨B.get hn _,B.get hn _,fun b=>?_⟩;cases b with
   |true=>exact B
   |false=>exact uf hn f _ _ _ B⟩
theorem qM {n:Nat}{p:Array Nat}(B:Bd n p)(hn:0<n)(m r:Nat):wq n (fun r:Nat×Array Nat=>Bd n r.2) (kas_tail3 m r p):=by
 unfold kas_tail3;refine wq.bind (P:=fun _=>True) (fun a _=>?_) _ (rW (B.perm (xu _ _ _)) hn _ _);exact B.perm (xu _ _ _)
theorem ux {n:Nat}{p:Array Nat}(B:Bd n p)(hn:0<n)(m r:Nat):wq n (fun r:Nat×Array Nat=>Bd n r.2) (kas_descPart m r p):=
 wq.bind (fun a ha=>by
  split
  ·exact qM (Bd.perm ha (xu _ _ _)) hn _ _
  ·exact qM ha hn _ _) _ (uf hn _ _ _ _ B)
theorem ju {n:Nat}{p:Array Nat}(B:Bd n p)(hn:0<n)(r:Nat):wq n (fun r:Nat×Array Nat=>Bd n r.2) (kas_count r p):=
 wq.bind (fun a _=>by
  split
  ·exact B
  ·split
   ·refine⟨B.get hn _,B.get hn _,fun b=>?_⟩;cases b with
    |true=>exact B
    |false=>exact ux (B.perm (xu _ _ _)) hn _ _
   ·exact ux B hn _ _) _ (rW B hn _ _)
theorem uD {n:Nat}{p:Array Nat}(B:Bd n p)(hn:0<n)(k:Nat):∀f l r,wq n (fun _=>True) (kas_place p k f l r)
 |0,_,_=>trivial
 |f+1,l,r=>by
  show wq n _ (if l≥r then _ else _);split
  ·exact trivial
  ·refine⟨B.get hn _,B.get hn _,fun b=>?_⟩;cases b with
   |true=>exact uD B hn k f _ _
   |false=>exact uD B hn k f _ _
theorem ke {n:Nat}(hn:0<n):∀f (p:Array Nat) k,Bd n p->wq n (fun _=>True) (kas_bin f p k)
 |0,_,_,_=>trivial
 |f+1,p,k,B=>wq.bind (fun l _=>ke hn f _ _ (B.perm (bubble_perm _ _ _))) _ (uD B hn k _ _ _)
theorem cT {n:Nat}(hn:0<n):wq n (fun _=>True) (kas_sort n):=
 wq.bind (fun a ha=>by
  split
  ·exact ke hn _ _ _ ha
  ·exact trivial) _ (ju (fun x hx=>by simpa using hx) hn n)
theorem wp_run {α:Type}{n:Nat}{P:α->Prop}{cmp:Nat->Nat->(Bool->Shared->Prop)->Shared->Prop}{lt:Nat->Nat->Bool}{Q:α->Shared->Prop}{s:Shared}(hc:∀i j C,i<n->j<n->C (lt i j) s->cmp i j C s):
  ∀t:KasT α,wq n P t->Q (run lt t) s->t.kasWp cmp Q s
 |.ret _,_,h=>h
 |.ask i j k,⟨a,b,c⟩,h=>hc i j _ a b (wp_run hc (k (lt i j)) (c _) h)
noncomputable def lx (p q:Int×Int):Bool:=decide (p.1<q.1\/(p.1=q.1/\p.2<q.2))
noncomputable def at2 (ps:List (Int×Int))(i:Nat):Int×Int:=ps.getD i (0,0)
theorem zH3 (ps:List (Int×Int)):Ord fun i j=>lx (at2 ps i) (at2 ps j) where
 irr:=fun a=>by simp[lx]
 tr:=fun a b c=>by
  unfold lx;generalize at2 ps a=x;generalize at2 ps b=y;generalize at2 ps c=z;simp only[yb8];omega
 asy:=fun a b=>by
  unfold lx;generalize at2 ps a=x;generalize at2 ps b=y;simp only[yb8,zZ5];omega
theorem kU (ps:List (Int×Int))(h:0<ps.length):∃ix:List Nat,run (fun i j=>lx (at2 ps i) (at2 ps j)) (kas_sort ps.length)=ix.toArray/\ix.length=ps.length/\(∀i∈ix,i<ps.length)/\(ix.map (at2 ps)).Perm ps/\(ix.map (at2 ps)).Pairwise (fun p q=>lx q p=false):=by
 obtain⟨a,b,c⟩:=zr4 (zH3 ps) h;generalize run (fun i j=>lx (at2 ps i) (at2 ps j)) (kas_sort ps.length)=r at a b c;have e:(List.range ps.length).map (at2 ps)=ps:=by
  apply List.ext_getElem
  ·simp
  ·intro i h1 h2;simp[at2,h2]
 have pl:r.toList.Perm (List.range ps.length):=by
  have:=Array.perm_iff_toList_perm.mp b;simpa using this
 refine⟨r.toList,by simp,by simpa using a,fun i hi=>by simpa using pl.mem_iff.mp hi,?_,?_⟩
 ·have:=pl.map (at2 ps);rw[e] at this;exact this
 ·rw[List.pairwise_map,ya5];intro i j hi hj hij;have h1:j<r.size:=by simpa using hj
  have:=c i j (by omega) (by rw[<-a];exact h1);have ei:g r i=r.toList[i]:=by
   have:i<r.size:=by omega
   simp[g,Array.getD,this]
  have ej:g r j=r.toList[j]:=by simp[g,Array.getD,h1]
  rw[ei,ej] at this;exact this
end SortA
namespace L2
open PySem PySem.Spec PySem.Calls PySem.W PyProof.Rows SortA
section
variable {prog:Program}{w:World}{A:Around}{E:Value->Shared->Prop}{s:Shared}
def Prs (h:Heap):List Value->List (Int×Int)->Prop
 |[],[]=>True
 |v::vs,p::ps=>(∃a o t u n,v=.ref a/\h.get? a=some o/\o.cls=.type "tuple"/\o.data=.seq #[.int p.1 t,.int p.2 u] n)/\Prs h vs ps
 |_,_=>False
theorem Prs.len {h:Heap}:∀{vs:List Value} {ps:List (Int×Int)},Prs h vs ps->vs.length=ps.length
 |[],[],_=>rfl
 |[],_::_,h=>h.elim
 |_::_,[],h=>h.elim
 |_::_,_::_,⟨_,h⟩=>by simp[Prs.len h]
theorem Prs.at {h:Heap}:∀{vs:List Value} {ps:List (Int×Int)} (i:Nat),Prs h vs ps->i<ps.length->∃a o t u n,vs.getD i Value.none=.ref a/\h.get? a=some o/\o.cls=.type "tuple"/\o.data=.seq #[.int (at2 ps i).1 t,.int (at2 ps i).2 u] n
 |[],[],_,_,hi=>by simp at hi
 |[],_::_,_,h,_=>h.elim
 |_::_,[],_,h,_=>h.elim
 |_::_,_::_,0,⟨x,_⟩,_=>x
 |_::_,_::_,i+1,⟨_,r⟩,hi=>by
  obtain⟨a,o,t,u,n,e,q⟩:=Prs.at i r (by simpa using hi);exact⟨a,o,t,u,n,by simpa using e,q⟩
theorem Prs.tups {h:Heap}:∀{vs:List Value} {ps:List (Int×Int)},Prs h vs ps->∃fs:List Value,KatTups h vs fs/\fs.length=ps.length/\∀v∈fs,∃i t,v=.int i t
 |[],[],_=>⟨[],trivial,rfl,fun _ h=>by simp at h⟩
 |[],_::_,h=>h.elim
 |_::_,[],h=>h.elim
 |_::_,p::_,⟨⟨a,o,t,u,n,e,ho,hc,hd⟩,r⟩=>by
  obtain⟨fs,x,y,z⟩:=Prs.tups r;subst e;refine⟨.int p.1 t::fs,KatTups.cons ho hc hd (by simp) x,by simp[y],fun v hv=>?_⟩;rcases zX0.mp hv with rfl|hv
  ·exact⟨_,_,rfl⟩
  ·exact z v hv
theorem zm7 {a b:Addr}{oa ob:Obj}{p q:Int×Int}{t u t' u':Tok}{n k:Nat}{Q:Bool->Shared->Prop}(ha:s.heap.get? a=some oa)(da:oa.data=.seq #[.int p.1 t,.int p.2 u] n)(hb:s.heap.get? b=some ob)(db:ob.data=.seq #[.int q.1 t',.int q.2 u'] k)
  (h:Q (lx p q) s):wpAny (model prog w) A (keyLt' (tuples' true) (.ref a) (.ref b)) Q E s:=by
 refine kat_lt ha da hb db (kat_cons (wpAny_eqBool_int ?_));by_cases e:p.1=q.1
 ·have e1:(p.1 == q.1)=true:=by simp[e]
  rw[e1];refine kat_yes (kat_cons (wpAny_eqBool_int ?_));by_cases e2:p.2=q.2
  ·have e3:(p.2 == q.2)=true:=by simp[e2]
   rw[e3];refine kat_yes (kat_nil ?_);have:lx p q=false:=by simp[lx,e,e2]
   rw[this] at h;simpa using h
  ·have e3:(p.2 == q.2)=false:=by simp[e2]
   rw[e3];refine kat_no (kat_one _ _ (wpAny_lt_int ?_));have:lx p q=decide (p.2<q.2):=by simp[lx,e]
   rw[this] at h;exact h
 ·have e1:(p.1 == q.1)=false:=by simp[e]
  rw[e1];refine kat_no (oneLt_int ?_);have:lx p q=decide (p.1<q.1):=by simp[lx,e]
  rw[this] at h;exact h
theorem jb {vs:List Value}{ps:List (Int×Int)}(h2:2<=vs.length)(P:Prs s.heap vs ps){R:Array Nat->Shared->Prop}(hr:∀ix:List Nat,ix.length=ps.length->(∀i∈ix,i<ps.length)->(ix.map (at2 ps)).Perm ps->(ix.map (at2 ps)).Pairwise (fun p q=>lx q p=false)->R ix.toArray s):
  wpAny (model prog w) A (keyKind' vs.toArray) (fun κ s'=>(kas_sort vs.length).kasWp (kas_ask prog w A κ vs) R s') (fun _ _=>False) s:=by
 obtain⟨fs,t,hl,hi⟩:=P.tups;have hlen:=P.len;refine kat_kind (T:=.type "int") t (by omega) (fun v hv=>?_) (by decide) ?_
 ·obtain⟨i,t,rfl⟩:=hi v hv;exact .now
 ·have e:(Value.type "int" != Value.type "tuple")=true:=by decide
  rw[e];obtain⟨ix,e1,e2,e3,e4,e5⟩:=kU ps (by omega);rw[hlen];refine wp_run (n:=ps.length) (P:=fun _=>True) (lt:=fun i j=>lx (at2 ps i) (at2 ps j)) (fun i j C hi hj hC=>?_) _ (cT (by omega)) ?_
  ·obtain⟨a,o,t,u,n,ea,ha,_,da⟩:=P.at i hi;obtain⟨b,o',t',u',n',eb,hb,_,db⟩:=P.at j hj;unfold kas_ask;rw[ea,eb];exact zm7 ha da hb db hC
  ·rw[e1];exact hr ix e2 e3 e4 e5
def Srt (vs:List Value)(ps:List (Int×Int))(out:List Value):Prop:=
 ∃ix:List Nat,out=ix.map (fun i=>vs.getD i Value.none)/\ix.length=ps.length/\(∀i∈ix,i<ps.length)/\(ix.map (at2 ps)).Perm ps/\(ix.map (at2 ps)).Pairwise (fun p q=>lx q p=false)
theorem Srt.len {vs:List Value}{ps:List (Int×Int)}{out:List Value}(h:Srt vs ps out):out.length=ps.length:=by
 obtain⟨ix,rfl,e,_⟩:=h;simp[e]
end
inductive PrV (H:Hp):List V->List (Int×Int)->Prop where
 |nil:PrV H [] []
 |cons {a:Addr} {xs:List V} {p:Int×Int} {ps:List (Int×Int)}:H a=some (.tup [.int p.1,.int p.2])->PrV H xs ps->PrV H (.ref a::xs) (p::ps)
section
variable {X:Cx}{pins:List (Addr×Obj)}{σ:St}{H H':Hp}{s:Shared}
theorem PrV.len {xs:List V}{ps:List (Int×Int)}(h:PrV H xs ps):xs.length=ps.length:=by
 induction h with
 |nil=>rfl
 |cons _ _ ih=>simp[ih]
theorem PrV.keep {xs:List V}{ps:List (Int×Int)}(k:∀a p q,H a=some (.tup [.int p,.int q])->H' a=some (.tup [.int p,.int q]))(h:PrV H xs ps):PrV H' xs ps:=by
 induction h with
 |nil=>exact .nil
 |cons e _ ih=>exact .cons (k _ _ _ e) ih
theorem PrV.app {xs ys:List V}{ps qs:List (Int×Int)}(h:PrV H xs ps)(h':PrV H ys qs):PrV H (xs++ys) (ps++qs):=by
 induction h with
 |nil=>exact h'
 |cons e _ ih=>exact .cons e ih
theorem PrV.prs (I:Inv X pins σ H s):∀{xs:List V} {ps:List (Int×Int)} {us:List Value},PrV H xs ps->Vals xs us->Prs s.heap us ps:=by
 intro xs ps us h
 induction h generalizing us with
 |nil=>intro r;cases r;exact trivial
 |@cons a xs p ps e _ ih=>
  intro r;cases r with
  |cons r rr=>
   cases (show _=Value.ref a from r);obtain⟨_,its,vi,o,ho,hc,n,hd⟩:=(show zS X.prog X.w H s.heap a (.tup [.int p.1,.int p.2]) from I.hok a _ e);obtain⟨u,v,rfl,⟨t,rfl⟩,⟨t',rfl⟩⟩:=Vals.two vi;exact⟨⟨a,o,t,t',n,rfl,ho,hc,hd⟩,ih rr⟩
theorem kg {xs:List V}{us:List Value}(r:Vals xs us):∀i x,xs[i]?=some x->RelV x (us.getD i Value.none):=by
 induction r with
 |nil=>intro i x h;simp at h
 |cons e _ ih=>
  intro i x h;cases i with
  |zero=>have h':=zZ2 (by simpa using h);subst h';exact e
  |succ i=>exact ih i x (by simpa using h)
end
end L2
namespace Days
end Days
namespace L2
open PySem PySem.Spec PyProof.Rows Days
section
variable {X:Cx}{α:Ev}{e a b c tg:Expr}{pos p:Pos}{Q:PyData->Prop}{E:xy}{sts:List Stmt}
end
theorem zc6 (ds:List PyData):ds.filter (fun _=>true)=ds:=List.filter_eq_self.mpr fun _ _=>rfl
section
variable {X:Cx}{α:Ev}{tg:Expr}{pos p:Pos}{E:xy}{sts body:List Stmt}
end
noncomputable def isNone :PyData->Bool
 |.none=>true
 |_=>false
theorem DV.non_iff {H:Hp}{x:V}{d:PyData}(h:DV H x d):decide (x=.non)=isNone d:=by
 cases h<;>simp[isNone]
noncomputable abbrev eqS (d:PyData)(s:Str):Bool:=PyData.eqv d (.str s)
noncomputable abbrev vY :PyData->Bool:=yv 0 1000000000000
noncomputable def uT :PyData->Bool
 |.tuple [.int m,f]=>yv 2 14 (.int m)&&yv 1 (m-1) f
 |_=>false
noncomputable def zF (w v:PyData):Bool:=
 if eqS w "price"=true then isNone v||vY v
 else if (eqS w "come"||eqS w "go")=true then isBool v
 else if (eqS w "least"||eqS w "most")=true then yv 1 14 v
 else if eqS w "deal"=true then isNone v||uT v
 else eqS w "fee"&&vY v
noncomputable def xA :PyData->Bool
 |.tuple [w,a,b,v]=>yD (.tuple [a,b])&&zF w v
 |_=>false
noncomputable abbrev words :List Str:=["price","come","go","least","most","deal","fee"]
theorem iB {x:Str}(h:(PyData.str x).canLay0=true):SeqAt.shaped (.str x)=true:=by
 unfold SeqAt.shaped;rw[h];rfl
def gR :Sp:=fun vs H Q _=>∃x y dw dv,vs=[x,y]/\DV H x dw/\SeqAt.shaped dw=true/\DV H y dv/\Q (.bl (zF dw dv)) H
def zl9 :Sp:=fun vs H Q _=>∃x d,vs=[x]/\DV H x d/\SeqAt.shaped d=true/\∀H',zB H H'->Q (.bl (xA d)) H'
theorem oS {ds:List PyData}(h:SeqAt.shaped (.tuple ds)=true):∀d∈ds,SeqAt.shaped d=true:=by
 unfold SeqAt.shaped at h;rw[zY7,zZ5] at h;obtain⟨h1,h2⟩:=h;simp only[PyData.canLay0] at h1;simp only[PyData.depth] at h2;have key:∀(ds:List PyData),PyData.canLayAll0 ds=true->PyData.depthAll ds+1<=64->∀d∈ds,SeqAt.shaped d=true:=by
  intro ds
  induction ds with
  |nil=>intro _ _ d hd;simp at hd
  |cons e r ih=>
   intro a b d hd;simp only[PyData.canLayAll0,zY7] at a;simp only[PyData.depthAll] at b;rcases zX0.mp hd with z|z
   ·subst z;unfold SeqAt.shaped;rw[a.1,z03,zZ5];omega
   ·exact ih a.2 (by omega) d z
 exact key ds h1 (by omega)
noncomputable def sY (x y z:V):List (Str×V):=wt "worth" z (wt "last" y (wt "first" x []))
theorem aH :¬(("worth":Str)="last"):=by decide +kernel
theorem aB :¬(("worth":Str)="first"):=by decide +kernel
theorem zf8 :¬(("last":Str)="first"):=by decide +kernel
theorem jJ (x y z:V):(sY x y z).lookup ("first":Str)=some x:=by
 unfold sY;rw[yR,if_neg (fun e=>aB e.symm),yR,if_neg (fun e=>zf8 e.symm),yR,if_pos rfl]
theorem eA (x y z:V):(sY x y z).lookup ("last":Str)=some y:=by
 unfold sY;rw[yR,if_neg (fun e=>aH e.symm),yR,if_pos rfl]
structure Cs where
 price:Addr
 come:Addr
 go:Addr
 least:Addr
 most:Addr
 deal:Addr
 fee:Addr
noncomputable def Cs.of (c:Cs)(w:Str):Addr:=
 if w="price" then c.price else if w="come" then c.come else if w="go" then c.go else if w="least" then c.least else if w="most" then c.most else if w="deal" then c.deal else c.fee
structure vq (K:PySem.W.Frag)(C fI fT fE fW:Addr):Prop where
 cl:Cls K C
 nf:xj K C "first"
 nl:xj K C "last"
 nw:xj K C "worth"
 makes:Mk K C fI
 told:Meth K C "told" fT
 tells:Meth K C "tells" fE
 word:Meth K C "word" fW
def zE0 (C:Addr):Sp:=fun vs H Q _=>∃(p dx:Addr) (x y z:V),vs=[.ref p,x,y,z]/\H p=some (.ins C dx [])/\Q .non (upd H p (.ins C dx (sY x y z)))
def vR (w:Str):Sp:=fun vs H Q _=>∃p,vs=[.ref p]/\Q (.str w) H
def gh (C:Addr):Sp:=fun vs H Q _=>∃(p dx:Addr) (a b day:Int) (z:V),vs=[.ref p,.int day]/\H p=some (.ins C dx (sY (.int a) (.int b) z))/\Q (.bl (decide (a<=day)&&decide (day<=b))) H
def ah (cs:Cs):Sp:=fun vs H Q _=>∃(w:Str) (x y z:V),vs=[.str w,x,y,z]/\w∈words/\∀(p dx:Addr) (H':Hp),H' p=some (.ins (cs.of w) dx (sY x y z))->H p=none->zB H H'->Q (.ref p) H'
def lr (cs:Cs):Sp:=fun vs H Q _=>∃x d,vs=[x]/\DV H x d/\SeqAt.shaped d=true/\(xA d=false->∀H',zB H H'->Q .non H')/\
 (∀(r:Addr) (w:Str) (x1 x2 x3:V) (p dx:Addr) (H':Hp),x=.ref r->xA d=true->w∈words->H r=some (.tup [.str w,x1,x2,x3])->H' p=some (.ins (cs.of w) dx (sY x1 x2 x3))->H p=none->zB H H'->Q (.ref p) H')
theorem vp {d:PyData}{s:Str}(h:eqS d s=true):d=.str s:=by
 cases d with
 |str x=>
  have h':(x == s)=true:=h;rw[eq_of_beq h']
 |_=>simp[PyData.eqv] at h
theorem ll {w v:PyData}(h:zF w v=true):∃s∈words,w=.str s:=by
 unfold zF at h;split at h
 ·rename_i e;exact⟨"price",by simp[words],vp e⟩
 ·split at h
  ·rename_i e;rcases (z60 _ _).mp e with e|e
   ·exact⟨"come",by simp[words],vp e⟩
   ·exact⟨"go",by simp[words],vp e⟩
  ·split at h
   ·rename_i e;rcases (z60 _ _).mp e with e|e
    ·exact⟨"least",by simp[words],vp e⟩
    ·exact⟨"most",by simp[words],vp e⟩
   ·split at h
    ·rename_i e;exact⟨"deal",by simp[words],vp e⟩
    ·rw[zY7] at h;exact⟨"fee",by simp[words],vp h.1⟩
theorem wx {d:PyData}(h:xA d=true):∃(s:Str) (a b v:PyData),s∈words/\d=.tuple [.str s,a,b,v]:=by
 unfold xA at h;split at h
 ·rename_i w a b v;rw[zY7] at h;obtain⟨s,hs,rfl⟩:=ll h.2;exact⟨s,a,b,v,hs,rfl⟩
 ·cases h
section
variable {X:Cx}
end
noncomputable abbrev sC (C:Addr)(fs:List (PyData×PyData)):PyData:=.dict ((.int (C:Nat),.none)::fs)
noncomputable def pE :List (PyData×PyData)->Str->Option PyData
 |[],_=>none
 |(.str g,d)::r,f=>if f=g then some d else pE r f
 |_::r,f=>pE r f
theorem AVf.get {H:Hp}:∀{fs:List (Str×V)} {ds:List (PyData×PyData)} {f:Str} {d:PyData},AVf H fs ds->pE ds f=some d->∃v,fs.lookup f=some v/\AV H v d
 |_,_,f,d,.nil,e=>by cases e
 |_,_,f,d,.cons (f:=g) h r,e=>by
  rw[z25];unfold pE at e;by_cases z:f=g
  ·subst z;rw[if_pos rfl] at e;cases e;exact⟨_,by simp,h⟩
  ·rw[if_neg z] at e;have z':(f == g)=false:=by simpa using z
   rw[z'];exact AVf.get r e
theorem AVf.none {H:Hp}:∀{fs:List (Str×V)} {ds:List (PyData×PyData)} {f:Str},AVf H fs ds->pE ds f=Option.none->fs.lookup f=Option.none
 |_,_,f,.nil,e=>rfl
 |_,_,f,.cons (f:=g) h r,e=>by
  rw[z25];unfold pE at e;by_cases z:f=g
  ·subst z;rw[if_pos rfl] at e;cases e
  ·rw[if_neg z] at e;have z':(f == g)=false:=by simpa using z
   rw[z'];exact AVf.none r e
theorem AV.ins_inv {H:Hp}{v:V}{C:Addr}{ds:List (PyData×PyData)}(h:AV H v (sC C ds)):∃a dx fs,v=.ref a/\H a=some (.ins C dx fs)/\AVf H fs ds:=by
 generalize e:sC C ds=d at h;cases h with
 |@ins a C' dx fs ds' h1 h2=>
  injection e with e;injection e with e1 e2;have e3:(C:Int)=(C':Int):=by
   have:=congrArg Prod.fst e1;injection this
  have e4:C=C':=Int.ofNat.inj e3;subst e4 e2;exact⟨a,dx,fs,rfl,h1,h2⟩
 |_=>cases e
section
variable {X:Cx}{α:Ev}{o e:Expr}{es:List Expr}{pos apos p:Pos}{Q:PyData->Prop}{C:Addr}{f m:Str}
theorem zh8 (c:Cls X.K C)(na:xj X.K C f)(h:EvD X α o fun x=>∃fs d,x=sC C fs/\pE fs f=some d/\Q d)(hb:attributeBase o f X.env (eval o X.env)=eval o X.env:=by rfl):EvD X α (.Attribute o f pos) Q:=fun F σ H R m k=>by
 refine⟨_,jB zj hb,?_⟩;refine h F σ H _ m fun x vx H1 q1 t1 k1 r1=>?_;obtain⟨fs,d,rfl,hf,q⟩:=q1;obtain⟨a,dx,gs,rfl,h1,h2⟩:=r1.ins_inv;obtain⟨v,hv,av⟩:=h2.get hf;exact⟨a,C,dx,gs,v,rfl,(zi h1).2,c,na,hv,k d v H1 q t1 k1 av⟩
structure sX (P:Program)(w:World)(K:PySem.W.Frag)(mg:Str->Option Value)(base:Heap)(C:Addr)(m:Str)(k:Nat)(φ:List A->(A->Prop)->Prop):Prop where
 ex:∃f fd ps,Cls K C/\Meth K C m f/\Binds K fd ps []/\zE P w K mg base CX0 k f fd ps (spA φ)
theorem xU {k:Nat}{φ:List A->(A->Prop)->Prop}{pl:Sem Bool}(M':sX X.prog X.w X.K X.mg X.base C m k φ)(hr:zX k X.A)(h:EvD X α o fun x=>∃fs,x=sC C fs/\pE fs m=none/\EvA X α (e::es) fun as=>φ (.dat (sC C fs)::as) fun a=>Q a.d)
  (hst:starEach (e::es) X.env=(false,eval e X.env)::starEach es X.env:=by rfl) (hpl:(backTo pos (starEach es X.env)).any (·.1)=false:=by rfl)
  (ht:eval (.Call (.Attribute o m apos) (e::es) [] pos) X.env=(do
   let ov <-eval o X.env
   standAt apos.atName
   let (f,first) <-holding [ov] (getMethod ov m pl)
   callWith pos f first (backTo pos (starEach (e::es) X.env)) (backToKw pos (keywordEach [] X.env))):=by rfl):EvD X α (.Call (.Attribute o m apos) (e::es) [] pos) Q:=fun F σ H R m' kk=>by
 obtain⟨f,fd,ps,c,hm,hb,G⟩:=M'.ex;refine⟨_,zv7 zj c hm G hr hb .nil yp xh hst hpl ht,?_⟩;refine h F σ H _ m' fun x vx H1 q1 t1 k1 r1=>?_;obtain⟨fs,rfl,hf,q⟩:=q1;have m1:=m'.kz k1 t1;obtain⟨a,dx,gs,rfl,h1,h2⟩:=r1.ins_inv;refine⟨a,dx,gs,rfl,(zi h1).2,h2.none hf,?_⟩;refine q F σ H1 _ m1 fun as vs H2 q2 t2 k2 r2=>?_;have m2:=m1.kz k2 t2;have cf:=vB (vs:=.ref a::vs) (as:=.dat (sC C fs)::as) (R:=R) (E:=E0) m2 (.cons (r1.same (k2.gz m1.tp)) r2) q2 fun z v H' qa ra=>by
  obtain⟨g1,g2,g3⟩:=ra.back m2;exact kk _ v H' qa g1 ((k1.trans k2).trans g2) g3
 exact cf
theorem zc7 {k:Nat}{φ:List A->(A->Prop)->Prop}{pl:Sem Bool}(M':sX X.prog X.w X.K X.mg X.base C m k φ)(hr:zX k X.A)(h:EvD X α o fun x=>∃fs,x=sC C fs/\pE fs m=none/\φ [.dat (sC C fs)] fun a=>Q a.d)
  (ht:eval (.Call (.Attribute o m apos) [] [] pos) X.env=(do
   let ov <-eval o X.env
   standAt apos.atName
   let (f,first) <-holding [ov] (getMethod ov m pl)
   callWith pos f first (backTo pos (starEach [] X.env)) (backToKw pos (keywordEach [] X.env))):=by rfl):EvD X α (.Call (.Attribute o m apos) [] [] pos) Q:=fun F σ H R m' kk=>by
 obtain⟨f,fd,ps,c,hm,hb,G⟩:=M'.ex;refine⟨_,aV zj c hm G hr hb .nil yp ht,?_⟩;refine h F σ H _ m' fun x vx H1 q1 t1 k1 r1=>?_;obtain⟨fs,rfl,hf,q⟩:=q1;have m1:=m'.kz k1 t1;obtain⟨a,dx,gs,rfl,h1,h2⟩:=r1.ins_inv;refine⟨a,dx,gs,rfl,(zi h1).2,h2.none hf,?_⟩;have cf:=vB (vs:=[.ref a]) (as:=[.dat (sC C fs)]) (R:=R) (E:=E0) m1 (.cons r1 .nil) q fun z v H' qa ra=>by
  obtain⟨g1,g2,g3⟩:=ra.back m1;exact kk _ v H' qa g1 (k1.trans g2) g3
 exact cf
def zt3 (F:Fr)(v:V)(H':Hp)(d:PyData):Prop:=zR F H'/\Kz F F.H0 H'/\AV (sub (fun x=>¬F.O0 x/\∀xs,F.H0 x≠some (.lst xs)) H') v d
def EvN (X:Cx)(α:Ev)(e:Expr)(Q:PyData->Prop):Prop:=∀(F:Fr) (σ:St) (H:Hp) (R:VK),M F α σ H->(∀d v H',Q d->zR F H'->Kz F H H'->AV (sub (fun x=>¬Ow F α σ x/\∀xs,H x≠some (.lst xs)) H') v d->R v H')->tf X e σ H R
theorem EvN.d (h:EvN X α e Q):EvD X α e Q:=fun F σ H R m k=>h F σ H R m fun d v H' q t z r=>k d v H' q t z (r.same (zz fun a o h e=>⟨h.1,e⟩))
def spI (C:Addr)(φ:List A->(A->Prop)->Prop):Sp:=fun vs H Qc _=>∃(F:Fr) (as:List A) (Q:A->Prop) (x dx:Addr) (vs':List V) (H1:Hp),vs=.ref x::vs'/\H1 x=none/\H1 dx=none/\dx≠x/\H=upd (upd H1 dx (.own x)) x (.ins C dx [])/\
 F.H0=H1/\zR F H1/\(∀y,F.O0 y->∃u,H1 y=some u/\vG u)/\yx F (sub (fun y=>¬F.O0 y) H1) vs' as/\φ as Q/\∀d H',Q (.dat d)->zt3 F (.ref x) H' d->Qc .non H'
structure zg8 (P:Program)(w:World)(K:PySem.W.Frag)(mg:Str->Option Value)(base:Heap)(x:Str)(k:Nat)(dvs:List V)(φ:List A->(A->Prop)->Prop):Prop where
 ex:∃C f fd ps ds,mg x=some (.ref C)/\Mk K C f/\Binds K fd ps ds/\Vals dvs ds/\zE P w K mg base CX0 k f fd ps (spI C φ)
theorem jg {F:Fr}{σ:St}{H:Hp}{vs:List V}{as:List A}{QA:A->Prop}{R:VK}{φ:List A->(A->Prop)->Prop}(m:M F α σ H)(rv:yx F (Gz F α σ H) vs as)(hφ:φ as QA)
  (kk:∀d v H',QA (.dat d)->zt3 ⟨H,Ow F α σ,F.tp⟩ v H' d->R v H') {E:XK} (x dx:Addr) (hx:H x=none) (hdx:H dx=none) (hne:dx≠x):spI C φ (.ref x::vs) (upd (upd H dx (.own x)) x (.ins C dx [])) (fun v H2=>v=.non/\R (.ref x) H2) E:=by
 refine⟨⟨H,Ow F α σ,F.tp⟩,as,QA,x,dx,vs,H,rfl,hx,hdx,hne,rfl,rfl,?_,?_,?_,hφ,fun d H' qa ra=>⟨rfl,kk d _ H' qa ra⟩⟩
 ·exact m.tp.to rfl fun _ z=>.inl z
 ·exact fun y z=>m.owEx z
 ·exact yx.to (F:=F) (F':=⟨H,Ow F α σ,F.tp⟩) (fun _ _ e=>e) rfl rv
theorem zt3.back {F:Fr}{σ:St}{H H1 H':Hp}{v:V}{d:PyData}(m:M F α σ H)(k1:Kz F H H1)(h:zt3 ⟨H1,Ow F α σ,F.tp⟩ v H' d):zR F H'/\Kz F H1 H'/\AV (sub (fun x=>¬Ow F α σ x/\∀xs,H x≠some (.lst xs)) H') v d:=by
 obtain⟨t,kz,r⟩:=h;refine⟨m.tp.re t rfl,kz,r.same (zz fun a o h e=>⟨⟨h.1,fun xs z=>h.2 xs (k1 _ _ z (m.tp.nt (ow0 h.1)))⟩,e⟩)⟩
theorem zq0 {k:Nat}{φ:List A->(A->Prop)->Prop}{x:Str}(M':zg8 X.prog X.w X.K X.mg X.base x k [] φ)(hr:zX (k+1) X.A)(hg:Gl X x)(h:EvA X α (e::es) fun as=>φ as fun a=>Q a.d)
  (hdb:(x == ("__debug__":Str))=false:=by decide) (he:starEach (e::es) X.env=(false,eval e X.env)::starEach es X.env:=by rfl) (hpl:(backTo pos (starEach es X.env)).any (·.1)=false:=by rfl):EvN X α (.Call (.Name x p) (e::es) [] pos) Q:=fun F σ H R m kk=>by
 obtain⟨C,f,fd,ps,ds,hm,hk,hb,hd,G⟩:=M'.ex;cases hd;refine⟨_,wC hk G hr hg hm hb .nil yp xh hdb he hpl,?_⟩;refine h F σ H _ m fun as vs H1 q1 t1 k1 r1=>?_;have m1:=m.kz k1 t1;intro y dx hy hdx hne;rw[z40];refine jg m1 r1 q1 (fun d v H' qa ra=>?_) y dx hy hdx hne;obtain⟨g1,g2,g3⟩:=ra.back m k1;exact kk d v H' qa g1 (k1.trans g2) g3
end
structure zF5 (K:PySem.W.Frag)(x qual:Str)(st:Stmt)(dV:Value)(f:Addr)(fd:FuncData):Prop where
 ex:∃(oc:Value) (od:Option Addr) (kV doc pm:Value) (an:Option Addr) (cdv ct:Value) (osl:Array (Option Value)),
  fd=PySem.W.fnOf x qual (zV st) (zA st) (zb st) dV kV doc pm an cdv ct/\K.lookup f=some ⟨oc,od,.func fd,osl⟩/\PySem.W.codeIn K cdv qual=true
 kp:PySem.W.keepIn K (.ref f)=true
theorem zu4 {K:PySem.W.Frag}{x qual:Str}{st:Stmt}{f:Addr}{oc:Value}{od an:Option Addr}{osl:Array (Option Value)}{dV kV doc pm cdv ct:Value}(l:K.lookup f=some ⟨oc,od,.func (PySem.W.fnOf x qual (zV st) (zA st) (zb st) dV kV doc pm an cdv ct),osl⟩)
  (c:PySem.W.codeIn K cdv qual=true) (k:PySem.W.keepIn K (.ref f)=true):zF5 K x qual st dV f (PySem.W.fnOf x qual (zV st) (zA st) (zb st) dV kV doc pm an cdv ct):=⟨⟨oc,od,kV,doc,pm,an,cdv,ct,osl,rfl,l,c⟩,k⟩
section
variable {P:Program}{w:World}{K:PySem.W.Frag}{mg:Str->Option Value}{base:Heap}
theorem zQ7 {qual:Str}{st:Stmt}{f C:Addr}{dV:Value}{fd:FuncData}{N:List Str}{x:Str}{k:Nat}{φ:List A->(A->Prop)->Prop}{fl:Str}{e:Expr}{p1 p2 p3:Pos}(G:zF5 K "__init__" qual st dV f fd)(S:zm ("self"::x::N) ["self",x] (zb st))(c:Cls K C)(na:xj K C fl)
  (hb:zA st=[.Assign [.Attribute (.Name "self" p1) fl p2] e p3]) (hlen:∀as Q,φ as Q->as.length=1)
  (hbody:∀(cdv:Value) (A':Around) (outer:List Env) (s:Shared) (H:Hp) (E:XK) (as:List A) (Q:A->Prop),zX k (A'.deeper (envOfC qual (zb st) s.heap.objs.size f cdv))->φ as Q->
   EvL (uu CX0 P w K mg base ("self"::x::N) qual (zb st) f cdv A' outer s H E).nox (none::as.map some++List.replicate N.length none) e fun ds=>ur ds=true/\Q (.dat (sC C [(.str fl,.list ds)])))
  (hsw:∀(cdv:Value) (A':Around) (outer:List Env) (s:Shared) (H:Hp) (E:XK),swapsWith e (some (.Attribute (.Name "self" p1) fl p2)) p3.line (uu CX0 P w K mg base ("self"::x::N) qual (zb st) f cdv A' outer s H E).nox.env=pure false)
  (hv:Vis (zb st) "self"):zE P w K mg base CX0 (k+1) f fd ["self",x] (spI C φ):=by
 obtain⟨oc,od,kV,doc,pm,an,cdv,ct,osl,rfl,lk,hcd⟩:=G.ex;refine ai lk hcd S (fun vs H Q E h=>?_) fun A' outer s H vs Qc E hr h=>?_
 ·obtain⟨F,as,Q',y,dx,vs',H1,rfl,_,_,_,_,_,_,_,rv,hφ,_⟩:=h;rw[zX9,rv.length,hlen as _ hφ];rfl
 ·obtain⟨F,as,Q',y,dx,vs',H1,rfl,hy,hdx,hne,rfl,rfl,t,o,rv,hφ,kk⟩:=h;have hl:=rv.length;have hl1:=hlen as _ hφ;rw[hb];refine⟨_,(show PSs _ _ _ from (zy (nY (X:=(uu CX0 P w K mg base ("self"::x::N) qual (zb st) f cdv A' outer s (upd (upd F.H0 dx (.own y)) y (.ins C dx [])) E).nox) (xQ (i:=0) rfl hv) zj (hsw cdv A' outer s _ E))).nox),?_⟩
  let F2:Fr:=⟨F.H0,fun z=>F.O0 z\/z=y\/z=dx,F.tp⟩
  have s1:zB F.H0 (upd (upd F.H0 dx (.own y)) y (.ins C dx [])):=fun a u q=>by rw[zg (zo q hy),zg (zo q hdx)];exact q
  have noy:¬F.O0 y:=fun z=>by obtain⟨u,hu,_⟩:=o y z;rw[hy] at hu;cases hu
  have nodx:¬F.O0 dx:=fun z=>by obtain⟨u,hu,_⟩:=o dx z;rw[hdx] at hu;cases hu
  have t2:zR F2 (upd (upd F.H0 dx (.own y)) y (.ins C dx [])):=(t.same s1).to rfl fun _ z=>.inl z
  -- the names of the body
  have g:∀{i:Nat} {a:A},(none::as.map some++List.replicate N.length none:Ev)[i]?=some (some a)->∃j,i=j+1/\as[j]?=some a:=fun {i a} h=>by
   cases i with
   |zero=>simp at h
   |succ j=>
    refine⟨j,rfl,?_⟩;have h':(as.map some++List.replicate N.length none:Ev)[j]?=some (some a):=by simpa using h
    rcases z85 j as.length with z|z
    ·rw[z44 (by rw[zW3];exact z),zX1,zY0] at h';obtain⟨b,h1,h2⟩:=h';cases h2;exact h1
    ·rw[z74 (by rw[zW3];exact z),z62] at h';split at h'<;>cases h'
  have at':∀{vs:List V} {as:List A} {i:Nat} {a:A},yx F (sub (fun x=>¬F.O0 x) F.H0) vs as->as[i]?=some a->∃v,vs[i]?=some v/\dB F (sub (fun x=>¬F.O0 x) F.H0) v a:=by
   intro vs as i a h
   induction h generalizing i with
   |nil=>intro e;simp at e
   |cons h r ih=>
    intro e;cases i with
    |zero=>simp at e;subst e;exact⟨_,rfl,h⟩
    |succ i=>obtain⟨v,h1,h2⟩:=ih (by simpa using e);exact⟨v,by simpa using h1,h2⟩
  have gv:∀{j:Nat} {v:V},vs'[j]?=some v->(L2.start ("self"::x::N) (.ref y::vs'))[j+1]?=some (some v):=fun {j v} h=>by
   have hj:j<vs'.length:=(zW7.mp h).1;unfold L2.start;rw[z44 (by rw[zW3,zX9];omega),zX1,yb7,h];rfl
  have no:∀(i:Nat) a,(none::as.map some++List.replicate N.length none:Ev)[i]?=some (some a)->(∃d,a=.dat d)\/a=.tape:=fun i a z=>by
   obtain⟨j,_,hj⟩:=g z;obtain⟨v,_,h⟩:=at' rv hj;cases a with
   |dat d=>exact .inl ⟨d,rfl⟩
   |tape=>exact .inr rfl
   |_=>exact h.elim
  have gs:zB (sub (fun x=>¬F.O0 x) F.H0) (Gz F2 (none::as.map some++List.replicate N.length none) (L2.start ("self"::x::N) (.ref y::vs')) (upd (upd F.H0 dx (.own y)) y (.ins C dx []))):=fun a u q=>by
   obtain⟨z1,z2⟩:=zi q;refine zH ?_ (s1 _ _ z2);rintro ((z|z|z)|⟨i,b,s,e,_,f⟩)
   ·exact z1 z
   ·rw[z,hy] at z2;cases z2
   ·rw[z,hdx] at z2;cases z2
   ·rcases no i b e with ⟨d,rfl⟩|rfl
    ·exact f.elim
    ·exact f.elim
  have m2:M F2 (none::as.map some++List.replicate N.length none) (L2.start ("self"::x::N) (.ref y::vs')) (upd (upd F.H0 dx (.own y)) y (.ins C dx [])):=by
   refine⟨by unfold L2.start;simp[hl,hl1],fun i a s e1 e2=>?_,fun i j a b s t x e1 _ _ _ f=>?_,fun i r q z=>(by rcases no i _ z with ⟨d,w⟩|w<;>cases w),t2,fun z u h _=>s1 z u h,fun z hz=>?_⟩
   ·obtain⟨j,rfl,hj⟩:=g e1;obtain⟨v,h1,h2⟩:=at' rv hj;rw[gv h1] at e2;cases e2;rcases no _ a e1 with ⟨d,rfl⟩|rfl
    ·exact⟨v,rfl,AV.same gs h2⟩
    ·obtain⟨t',b,c,h3,rfl⟩:=h2;exact⟨t',b,c,h3,rfl⟩
   ·rcases no i a e1 with ⟨d,rfl⟩|rfl
    ·exact f.elim
    ·exact f.elim
   ·rcases hz with q|q|q
    ·obtain⟨u,hu,hn⟩:=o z q;exact⟨u,s1 _ _ hu,hn⟩
    ·exact⟨_,by rw[q];exact zk,fun _ q=>by cases q⟩
    ·exact⟨_,by rw[q,zg hne];exact zk,fun _ q=>by cases q⟩
  refine hbody cdv A' outer s _ E as Q' hr hφ F2 _ _ _ m2 fun d v H2 qd t3 k3 r3=>?_;obtain⟨l,xs,rfl,hl0,hl2,avl⟩:=r3;obtain⟨nol,qd⟩:=qd;have nly:l≠y:=fun z=>by rw[z,zk] at hl0;cases hl0
  have nldx:l≠dx:=fun z=>by rw[z,zg hne,zk] at hl0;cases hl0
  have hl00:F.H0 l=none:=by rw[zg nly,zg nldx] at hl0;exact hl0
  have nol0:¬F.O0 l:=fun z=>by obtain⟨u,hu,_⟩:=o l z;rw[hl00] at hu;cases hu
  have nty:NT F2 y:=t.nt noy;have hy2:H2 y=some (.ins C dx []):=k3 _ _ zk nty;refine⟨.ref y,rfl,y,C,dx,[],rfl,hy2,c,na,by show 0<1000;decide,?_⟩;refine kk _ _ qd ⟨(t.re t3 rfl).updO noy (dS hy2),fun z u h n=>?_,?_⟩
  ·rw[zg (zo h hy)];exact k3 _ _ (s1 _ _ h) n
  ·refine AV.ins (zH ⟨noy,fun xs z=>by rw[hy] at z;cases z⟩ zk) (.cons (.lst (zH ⟨nol0,fun xs z=>by rw[hl00] at z;cases z⟩ (by rw[zg nly];exact hl2)) ?_) .nil);refine avl.noL (fun a u hno z=>?_) nol;obtain⟨z1,z2⟩:=zi z;have na:a≠y:=fun w=>z1.1 (.inl (.inr (.inl w)));refine zH ⟨fun w=>z1.1 (.inl (.inl w)),fun xs w=>?_⟩ (by rw[zg na];exact z2);have:H2 a=some (.lst xs):=k3 _ _ (s1 _ _ w) (t.nt fun w=>z1.1 (.inl (.inl w)));rw[z2] at this;cases this;exact hno trivial
end
section
variable {X:Cx}{α:Ev}{e e':Expr}{pos:Pos}{E:xy}{sts:List Stmt}
end
noncomputable def Itv (K:PySem.W.Frag)(a:Addr)(n:Nat):It:=
 ⟨fun i H=>∃xs x,SqL K H a xs/\xs.length=n/\i<n/\xs[n-1-i]?=some x,fun i H x H'=>H'=H/\∀xs,SqL K H a xs->xs[n-1-i]?=some x,fun i H=>n<=i⟩
theorem ze8 {P:Program}{w:World}{K:PySem.W.Frag}{tg:Expr}(a it:Addr)(n:Nat):Turn P w K tg (Itv K a n) [it] it (fun i h=>i<=n/\h.IsRevIter it a ((n:Int)-1-(i:Int))) where
 mem:=by simp
 obj:=fun i h st b hb=>by
  have e:b=it:=by simpa using hb
  subst e;obtain⟨_,o,e,c,d⟩:=st;exact⟨o,e,fun v z=>by rw[d] at z;cases z⟩
 keep:=fun i h h' st k=>⟨st.1,st.2.at fun o e=>k it (by simp) o e⟩
 item:=by
  intro X hP hw hK hc i pins s σ H E I hf st hg;subst hP hw hK;obtain⟨xs,x,hq,hl,hi,hx⟩:=hg;obtain⟨its,rv,p,hz⟩:=I.list hq;obtain⟨u,hu,ru⟩:=rv.get hx;obtain⟨f0,f1,f2,f3,f4,f5⟩:=hf it (by simp);have e1:((n:Int)-1-(i:Int))=((n-1-i:Nat):Int):=by omega
  have st':=st.2;rw[e1] at st';refine wpAny_pyNext_rev_item st' p.isList (x:=u) (by simpa using hu) fun h' st2 sb=>?_;have I1:Inv X pins σ H {s with heap:=h'}:=I.turned (t':=s.toks) (fun b o hb e=>(sb.2 b hb).trans e) f0 f1 f3 f4 f5;obtain⟨o,e,c,d⟩:=id st2;have e2:(((n-1-i:Nat):Int)-1)=(n:Int)-1-((i+1:Nat):Int):=by omega
  rw[e2] at st2;exact⟨u,rfl,rG (s:={s with heap:=h'}) e c d (by decide) ⟨x,H,I1,ru,⟨rfl,fun ys hy=>by rw[I.list_inj hy hq];exact hx⟩,⟨hi,st2⟩,fun b hb=>(hf b hb).1⟩⟩
 done:=by
  intro X hP hw hK hc i pins s σ H E I hf st hg;subst hP hw hK;have hi:i=n:=Nat.le_antisymm st.1 hg;obtain⟨f0,f1,f2,f3,f4,f5⟩:=hf it (by simp);have st':=st.2;rw[show ((n:Int)-1-(i:Int))=-1 by omega] at st';exact wpAny_pyNext_rev_end (I.ok.hd hc) st' fun h' eb=>⟨rfl,I.turned (t':=s.toks) (fun b o hb e=>eb b o hb e) f0 f1 f3 f4 f5⟩
 self:=fun A i s Q E st h=>wpAny_pyIter_revIter st.2 h
section
variable {X:Cx}{α:Ev}{tg:Expr}{p pos:Pos}{a:Expr}
def zU0 (K:PySem.W.Frag)(ta:TA):TI:=fun σ H R=>ta σ H fun vs H1=>∃l xs,vs=[.ref l]/\SqL K H1 l xs/\R (Itv K l xs.length) H1
theorem zJ3 {ta:TA}(hg:Gl X "reversed")(hm:X.mg "reversed"=none)(ha:PA X [a] ta)(hs:starEach [a] X.env=[(false,eval a X.env)]:=by rfl):PI X tg (.Call (.Name "reversed" p) [a] [] pos) (zU0 X.K ta):=by
 intro pins s σ H R I h;refine Call_ (xx I hg hm boot_reversed (zZ7 (thn (ha pos pins s σ H _ I h) fun us s1 ⟨vs,H1,I1,r1,q1⟩=>?_) hs rfl));obtain⟨l1,xs,e,hq1,q⟩:=q1;subst e;obtain⟨u,rfl,ru⟩:=Vals.one r1;cases (show u=Value.ref l1 from ru);obtain⟨its1,rv1,p1,hz1⟩:=I1.list hq1;have hlen:=rv1.length;refine call_reversed_list p1.isList ?_;have it0:({s1 with heap:=s1.heap.push (revObj l1 ((its1.toArray.size:Int)-1))}:Shared).heap.IsRevIter s1.heap.objs.size l1 ((xs.length:Int)-1-((0:Nat):Int)):=by
  refine⟨_,zX4 _ rfl,rfl,?_⟩;show Data.fields _=_;rw[zX8,hlen];simp
 refine wpAny_pyIter_revIter it0 ?_;refine⟨_,_,_,_,H1,rfl,I1.kept (t':=s1.toks) fun b o e=>zW5 _ e,ze8 l1 _ xs.length,⟨zY8 _,it0⟩,fun b hb=>?_,q⟩;have e:b=s1.heap.objs.size:=by simpa using hb
 subst e;exact I1.fpOk (zW9 _) (I1.hok.fresh (zW9 _))
theorem zC3 {Q:List PyData->Prop}(hg:Gl X "reversed")(hm:X.mg "reversed"=none)(h:EvD X α a fun x=>∃ds,x=.list ds/\Q ds.reverse)(hs:starEach [a] X.env=[(false,eval a X.env)]:=by rfl):
  EvI X α tg (.Call (.Name "reversed" p) [a] [] pos) Q:=fun F σ H R m k=>by
 refine⟨_,zJ3 hg hm (zd zj zw hs) hs,?_⟩;refine h F σ H _ m fun x vx H1 q1 t1 k1 r1=>?_;obtain⟨ds,rfl,q⟩:=q1;obtain⟨l1,xs,rfl,g1,g2⟩:=r1.lst_inv;refine⟨l1,xs,rfl,SqL.of (zi g1).2,k _ _ H1 q t1 k1 fun i H3 p s=>⟨fun d hd=>?_,fun hl=>?_⟩⟩
 ·have s1:=SqL.of (K:=X.K) (zi (s _ _ g1)).2;have hi:i<ds.length:=by
   have:=(zW7.mp hd).1
   rwa [z55] at this
  rw[List.getElem?_reverse hi] at hd;obtain⟨x1,hx1,av1⟩:=g2.get hd;rw[<-g2.length] at hx1;refine⟨⟨xs,x1,s1,rfl,by rw[g2.length];exact hi,hx1⟩,fun v H4 y=>?_⟩;obtain⟨rfl,hy⟩:=y;have:=hy _ s1;rw[hx1] at this;cases this;exact⟨zB.refl _,fun _=>av1.same s⟩
 ·rw[z55,<-g2.length] at hl;exact hl
end
def EnS (w:World):List DictEntry->List (Str×V)->Prop:=Paired fun e p=>e.hash=hashStr w p.1/\(∃t,e.key=.str p.1 t)/\RelV p.2 e.val
def gY (K:PySem.W.Frag)(w:World)(d:Addr)(tb:List (Str×V)):Prop:=
 ∃es n,K.lookup d=some ⟨.type "dict",none,.dict es n,#[]⟩/\EnS w es.toList tb/\(tb.map (·.1)).Nodup
theorem pW {P:Program}{w:World}:∀{es:List DictEntry} {tb:List (Str×V)},EnS w es tb->Pairs (PySem.strKind P w) es (List.zipWith (fun e (p:Str×V)=>(p.1,e.val)) es tb)
 |_,_,.nil=>.nil
 |e::_,p::_,.cons ⟨_,⟨t,ek⟩,_⟩ r=>.cons (by rw[ek];simp[PySem.strKind,Value.isStrOf]) rfl (pW r)
theorem fY {w:World}:∀{es:List DictEntry} {tb:List (Str×V)},EnS w es tb->(List.zipWith (fun e (p:Str×V)=>(p.1,e.val)) es tb).map (·.1)=tb.map (·.1)
 |_,_,.nil=>rfl
 |_,_,.cons _ r=>by simp only[List.zipWith_cons_cons,zY2,fY r]
theorem kj {P:Program}{w:World}:∀{es:List DictEntry} {tb:List (Str×V)},EnS w es tb->∀e∈es,∃k,(PySem.strKind P w).is k e.key=true/\e.hash=(PySem.strKind P w).hash k
 |_,_,.nil,e,he=>by simp at he
 |_,_,.cons (b:=p) ⟨h1,⟨t,ek⟩,_⟩ r,e,he=>by
  rcases zX0.mp he with rfl|he
  ·exact⟨p.1,by rw[ek];simp[PySem.strKind,Value.isStrOf],h1⟩
  ·exact kj r e he
theorem fV {w:World}{x:Str}{v:V}:∀{es:List DictEntry} {tb:List (Str×V)},EnS w es tb->tb.lookup x=some v->∃u,valueAt (List.zipWith (fun e (p:Str×V)=>(p.1,e.val)) es tb) x=some u/\RelV v u
 |_,_,.nil,e=>by simp at e
 |e::es,p::tb,.cons ⟨_,_,rv⟩ r,h=>by
  obtain⟨y,z⟩:=p;by_cases q:x=y
  ·subst q;simp only[List.lookup_cons_self,Option.some.injEq] at h;subst h;exact⟨e.val,by simp[valueAt],rv⟩
  ·rw[z25,z63.mpr q] at h;obtain⟨u,h1,h2⟩:=fV r h;refine⟨u,?_,h2⟩;rw[<-h1];simp[valueAt,z41,zZ8 q]
section
variable {X:Cx}{α:Ev}{p pos:Pos}{a:Expr}{g:Str}{Q:PyData->Prop}
def zJ8 (i:Expr):Prop:=∀ov iv,subscripted i false ov iv=operate [ov,iv] (getItem ov iv)
theorem zT9 {prog:Program}{w:World}{A:Around}{E:Value->Shared->Prop}{s:Shared}{env:Env}{value slice:Expr}{pos:Pos}{T id:String}{Q:Value->Shared->Prop}
  (hl:typeLookup (.type T) "__getitem__"=pure (some (.builtin id))) (hs:zJ8 slice)
  (h:wpAny (model prog w) A (eval value env) (fun o s₁=>wpAny (model prog w) A (eval slice env) (fun i s₂=>s₂.TypeIs o T/\wpAny (model prog w) A (getItem o i) Q E s₂) E s₁) E s):
  wpAny (model prog w) A (eval (.Subscript value slice pos) env) Q E s:=by
 refine Subscript_ (thn h fun o s₁ h₁=>thn h₁ fun i s₂ h₂=>?_);obtain⟨hT,h₂⟩:=h₂;unfold subscriptTail;refine zW4 ?_;rw[getitemInPython_of_ne hT.not_modules];refine zW4 (ya6 hT hl ?_);have fin:wpAny (model prog w) A (subscripted slice false o i) (fun r s₃=>wpAny (model prog w) A (letTemporaryGo value o r >>= fun _=>pure r) Q E s₃) E s₂:=by
  rw[hs o i];exact wpAny_operating (thn h₂ fun r s₃ h₃=>zW4 (wpAny_letTemporaryGo (zX6 h₃)))
 first
  |exact zX6 (zW4 fin)
  |exact zW4 (zX6 (zW4 fin))
  |exact zW4 fin
theorem zg6 {d:Addr}{tb:List (Str×V)}{ty:TE}(hg:Gl X g)(hm:X.mg g=some (.ref d))(hd:gY X.K X.w d tb)(hi:PE X a ty)(hs:zJ8 a)(hb:(g == ("__debug__":Str))=false:=by decide):
  PE X (.Subscript (.Name g p) a pos) (fun σ H Q=>ty σ H fun y H1=>∃x v,y=.str x/\tb.lookup x=some v/\Q v H1):=by
 intro pins s σ H Q I h;refine zT9 PySem.F.slot_dict_getitem.lookup hs (rj I hg hm (thn (hi pins s σ H _ I h) fun iv s2 ⟨y,H2,I2,ry,x,v,ey,ex,q2⟩=>?_) hb);subst ey;obtain⟨t,rfl⟩:=ry;obtain⟨es,n,hl,he,hn⟩:=hd;have dd:s2.heap.DictOf (PySem.strKind X.prog X.w) d (List.zipWith (fun e (p:Str×V)=>(p.1,e.val)) es.toList tb):=
  ⟨_,es,n,I2.kIn _ _ hl,⟨rfl,rfl,rfl⟩,rfl,fun e he'=>kj he e (by simpa using he'),pW he,by rw[fY he];exact hn⟩
 obtain⟨u,h1,h2⟩:=fV he ex;exact⟨dd.typeIs,wpAny_getItem_of (show (PySem.strKind X.prog X.w).is x (.str x t)=true by simp[PySem.strKind,Value.isStrOf]) dd.mapOf h1 ⟨v,H2,I2.tok _,h2,q2⟩⟩
noncomputable def scV :PyData->Option V
 |.none=>some .non
 |.bool b=>some (.bl b)
 |.int i=>some (.int i)
 |.str x=>some (.str x)
 |_=>Option.none
theorem zF6 {H:Hp}{d:PyData}{v:V}(h:scV d=some v):AV H v d:=by
 cases d<;>simp[scV] at h<;>subst h<;>constructor
theorem bY {d:Addr}{tb:List (Str×V)}(hg:Gl X g)(hm:X.mg g=some (.ref d))(hd:gY X.K X.w d tb)(h:EvD X α a fun y=>∃x d v,y=.str x/\tb.lookup x=some v/\scV d=some v/\Q d)(hs:zJ8 a:=by exact fun _ _=>rfl)
  (hb:(g == ("__debug__":Str))=false:=by decide):EvD X α (.Subscript (.Name g p) a pos) Q:=fun F σ H R m k=>by
 refine⟨_,zg6 hg hm hd zj hs hb,?_⟩;refine h F σ H _ m fun y vy H1 q1 t1 k1 r1=>?_;obtain⟨x,d',v,rfl,h1,h2,q⟩:=q1;cases r1.str_inv;exact⟨x,v,rfl,h1,k _ _ H1 q t1 k1 (zF6 h2)⟩
end
section
variable {X:Cx}{α:Ev}{p pos:Pos}{a b:Expr}{g:Str}{Q:PyData->Prop}
noncomputable def qq :PyData->Bool
 |.none=>true
 |.bool _=>true
 |.int _=>true
 |.str _=>true
 |_=>false
theorem gW {H:Hp}{v:V}{d:PyData}(h:AV H v d)(f:qq d=true):uw v=true/\scV d=some v:=by
 cases h<;>first|exact⟨rfl,rfl⟩|cases f
theorem km {H:Hp}:∀{xs:List V} {ds:List PyData},AVs H xs ds->ds.all qq=true->xs.all uw=true/\ds.map scV=xs.map some
 |_,_,.nil,_=>⟨rfl,rfl⟩
 |_,_,.cons h r,f=>by
  rw[yc4,zY7] at f;obtain⟨h1,h2⟩:=gW h f.1;obtain⟨h3,h4⟩:=km r f.2;exact⟨by rw[yc4,h1,h3];rfl,by rw[zY2,zY2,h2,h4]⟩
noncomputable def inD (x:PyData)(ds:List PyData):Bool:=ds.any fun y=>match scV y,scV x with
 |some u,some v=>eqV u v
 |_,_=>false
theorem fi {v:V}{x:PyData}(hx:scV x=some v):∀{xs:List V} {ds:List PyData},ds.map scV=xs.map some->inV v xs=inD x ds
 |[],[],_=>rfl
 |[],_::_,e=>by cases e
 |_::_,[],e=>by cases e
 |u::xs,d::ds,e=>by
  rw[zY2,zY2] at e;injection e with e1 e2;have ih:=fi hx e2;unfold inV inD at ih ⊢;rw[z75,z75,ih,e1,hx]
theorem zj3 {neg:Bool}{x:PyData}{ds:List PyData}(fx:qq x=true)(fs:ds.all qq=true):Cmp (rIn X.K neg) x (.list ds) (if neg then !inD x ds else inD x ds):=fun p H vx vy R rx ry h=>by
 obtain⟨ad,xs,rfl,g1,g2⟩:=ry.lst_inv;obtain⟨f1,s1⟩:=gW rx fx;obtain⟨f2,s2⟩:=km g2 fs;refine⟨ad,xs,rfl,.inl (SqL.of (zi g1).2),f1,f2,?_⟩;rw[fi s1 s2];exact h
end
section
variable {X:Cx}{α:Ev}{p pos:Pos}{a b:Expr}{Q:PyData->Prop}
end
section
variable {X:Cx}{α:Ev}{a e:Expr}{pos p2 p3 p4:Pos}{n1:Nat}{te:TE}
end
def zj0 (T:Addr)(H:Hp):Prop:=∀b:Addr,H b=none\/b=T\/∃o xs,H b=some (.frz o (.lst xs))
theorem dE {P:Program}{w:World}{K:PySem.W.Frag}{mg mb:Str->Option Value}{CX:CXT}{k:Nat}{fa a T:Addr}{fd:FuncData}{x:Str}{sp:Sp}{s₁:Shared}{vs:List Value}{ns:List Int}{ps:Array Value}
  (KX:K.In s₁.heap) (hns:s₁.heap.Ns mainGlobals mg) (hb:s₁.heap.Ns builtinsNs mb) (hbb:∀x:Str,x≠"__name__"->mb x=bootBuiltins x) (hlim:s₁.heap.NoLimit) (hg:s₁.gens=#[])
  (ha:s₁.heap.get? a=some {cls:=.type "list",data:=.seq vs.toArray}) (hi:IntsAre vs ns) (hl:ns.length<=sizeLine) (hr:zX k callerA)
  (hT:s₁.heap.get? T=some (PySem.W.tabObj ps)) (hKT:K.lookup T=none) (hct:isCodeTable s₁.heap T)
  (hbm:∃bm ob,mg "__builtins__"=some (.ref bm)/\bm≠builtinsNs/\s₁.heap.get? bm=some ob/\ob.cls=.type "module"/\ob.dict=some builtinsNs/\ob.data=.plain)
  (F:∀base:Heap,K.In base->base.Ns mainGlobals mg->base.BuiltinsAt mg T->zE P w K mg base CX k fa fd [x] sp) (hbind:∀(s:Shared) (u:Value),BindsTo s fd ⟨[u],[]⟩ [(x,u)])
  (hsp:∀H:Hp,zj0 T H->H T=some (.tbl ps)->SqL K H a (ns.map V.int)->sp [.ref a] H (fun v _=>v=.bl true) fun _ _ _=>False)
  (hCX:∀H e s',CX [] H s₁ (fun _ _ _=>False) e s'->False):
  codeAny (model P w) callerA (.call (.ref fa) ⟨[.ref a],[]⟩) (fun r s'=>r=.ok (.ret (.bool true))/\OldK s₁.heap s'.heap/\s'.os=s₁.os/\AllBare s'.gens) s₁:=by
 have rv:=pN hi;have lenV:=hi.length;have haT:a≠T:=fun z=>by rw[z,hT] at ha;cases ha
 have core:∀H:Hp,zj0 T H->H T=some (.tbl ps)->SqL K H a (ns.map V.int)->HOk P w H s₁.heap->(∀b,H b≠none->b=a\/b=T)->(H a≠none->K.lookup a=none)->
   codeAny (model P w) callerA (.call (.ref fa) ⟨[.ref a],[]⟩) (fun r s'=>r=.ok (.ret (.bool true))/\OldK s₁.heap s'.heap/\s'.os=s₁.os/\AllBare s'.gens) s₁:=by
  intro H hO hHT hS hok hA hK;have base_of:∀{b:Addr} {o:Obj},s₁.heap.get? b=some o->H b=none->(ph s₁.heap H).get? b=some o:=fun e n=>aa e n;have noA:∀{b:Addr} {o:Obj} {es:Array DictEntry} {ep:Nat},s₁.heap.get? b=some o->o.data=.dict es ep->H b=none:=fun {b o es ep} e d=>by
   cases q:H b with
   |none=>rfl
   |some u=>
    rcases hA b (by rw[q];simp) with e'|e'
    ·subst e';rw[ha] at e;cases e;have d':Data.seq vs.toArray _=Data.dict es ep:=d;cases d'
    ·subst e';rw[hT] at e;cases e;have d':Data.fields ps=Data.dict es ep:=d;cases d'
  have nsK:∀{b:Addr} {m:Str->Option Value},s₁.heap.Ns b m->(ph s₁.heap H).Ns b m:=fun {b m} ⟨o,es,ep,e,d,r⟩=>⟨o,es,ep,base_of e (noA e d),d,r⟩;have hKb:K.In (ph s₁.heap H):=fun b o e=>base_of (KX b o e) (by
   cases q:H b with
   |none=>rfl
   |some u=>
    rcases hA b (by rw[q];simp) with e'|e'
    ·subst e';rw[hK (by rw[q];simp)] at e;cases e
    ·subst e';rw[hKT] at e;cases e)
  have hM:Mod K mg (ph s₁.heap H):=⟨hKb,nsK hns,⟨mb,nsK hb,hbb⟩,let ⟨mc,h1,h2⟩:=hlim;⟨mc,nsK h1,h2⟩⟩;have hBA:(ph s₁.heap H).BuiltinsAt mg T:=by
   obtain⟨bm,ob,b1,b2,b3,b4,b5,b6⟩:=hbm;have n1:bm≠T:=fun z=>by rw[z,hT] at b3;cases b3;cases b4
   have n2:bm≠a:=fun z=>by rw[z,ha] at b3;cases b3;cases b6
   have n3:bm≠mainGlobals:=fun z=>by
    obtain⟨o,es,ep,e,d,_⟩:=hns;rw[z,e] at b3;cases b3;rw[d] at b6;cases b6
   exact⟨bm,ob,b1,b2,n3,n1,base_of b3 (by
    cases q:H bm with
    |none=>rfl
    |some u=>
          rcases hA bm (by rw[q];simp) with e'|e'
          ·exact absurd e' n2
          ·exact absurd e' n1),b4,b5,b6⟩
  have e0:tZ P w K mg (ph s₁.heap H) callerA [] s₁ H:=⟨rfl,hM,fun b o e=>zq4 e,yd1 (cW _ _),trivial,fun b hb=>absurd (show b∈([]:List Addr) from hb) (by simp),hok,.of_eq hg⟩;refine yd2 ((F _ hKb (nsK hns) hBA).run callerA [] s₁ H ⟨[.ref a],[]⟩ [.ref a] [.ref a] _ _ hr e0 (hbind s₁ (.ref a)) (.cons rfl .nil) (hsp H hO hHT hS)) fun r s' h=>?_;cases r with
  |error e=>exact (hCX H e s' h).elim
  |ok fl=>
   cases fl with
   |next=>exact False.elim h
   |brk=>exact False.elim h
   |cont=>exact False.elim h
   |ret u=>
    obtain⟨v,H',os,bare,un,hok',r',q⟩:=h;have q':v=.bl true:=q;subst q';obtain rfl:u=Value.bool true:=r';have old:∀b o,s₁.heap.get? b=some o->asItWas s₁.heap s'.heap b o:=fun b o e=>by
     cases q:H b with
     |none=>exact .inl (un.keep b o e q (by intro z;exact absurd (show b∈([]:List Addr) from z) (by simp)) (by simp))
     |some u=>
      rcases hO b with z|z|⟨ob,xs,z⟩
      ·rw[q] at z;cases z
      ·subst z;obtain⟨more,hm⟩:=un.tbls _ _ hHT;have e2:s'.heap.get? b=some {cls:=.none,data:=.fields (ps++more)}:=hok' _ _ hm;rw[hT] at e;cases e;exact .inr (.inl ⟨hct,rfl,ps,more,rfl,e2⟩)
      ·have z2:=un.frzs b ob _ z;obtain⟨e1,_⟩:=hok b _ z;obtain⟨e2,_⟩:=hok' b _ z2;rw[e] at e1;cases e1;exact .inl e2
    refine⟨rfl,⟨old,fun b o e=>?_⟩,os,bare⟩;rcases old b o e with z|⟨_,_,_,_,_,z⟩|⟨_,_,⟨o',_,_,z,_⟩,_⟩
    ·exact⟨_,z⟩
    ·exact⟨_,z⟩
    ·exact⟨_,z⟩
 cases hk:K.lookup a with
 |some o=>
  have e:=KX a o hk;rw[ha] at e;cases e;refine core (fun b=>if b=T then some (.tbl ps) else none) (fun b=>?_) (if_pos rfl) (.inr ⟨_,vs.toArray,_,hk,rfl,rfl,rfl,by rw[zX8,lenV];exact hl,by simpa using rv⟩) (fun b u z=>?_) (fun b z=>?_) fun z=>absurd (if_neg haT) z
  ·by_cases h:b=T
   ·exact .inr (.inl h)
   ·exact .inl (if_neg h)
  ·by_cases h:b=T
   ·have z':=(if_pos h).symm.trans z;cases z';subst h;exact hT
   ·have z':=(if_neg h).symm.trans z;cases z'
  ·by_cases h:b=T
   ·exact .inr h
   ·exact absurd (if_neg h) z
 |none=>
  refine core (fun b=>if b=T then some (.tbl ps) else if b=a then some (.frz {cls:=.type "list",data:=.seq vs.toArray} (.lst (ns.map V.int))) else none) (fun b=>?_) (if_pos rfl) (.inl (.inr ⟨{cls:=.type "list",data:=.seq vs.toArray},(if_neg haT).trans (if_pos rfl)⟩)) (fun b u z=>?_) (fun b z=>?_) fun _=>hk
  ·by_cases h:b=T
   ·exact .inr (.inl h)
   ·by_cases hb:b=a
    ·exact .inr (.inr ⟨_,_,(if_neg h).trans (if_pos hb)⟩)
    ·exact .inl ((if_neg h).trans (if_neg hb))
  ·by_cases h:b=T
   ·have z':=(if_pos h).symm.trans z;cases z';subst h;exact hT
   ·have z:=(if_neg h).symm.trans z;by_cases hb:b=a
    ·have z':=(if_pos hb).symm.trans z;cases z';subst hb;exact⟨ha,by rw[zW3];exact hl,vs,_,rv,ha⟩
    ·have z':=(if_neg hb).symm.trans z;cases z'
  ·by_cases h:b=T
   ·exact .inr h
   ·by_cases hb:b=a
    ·exact .inl hb
    ·exact absurd ((if_neg h).trans (if_neg hb)) z
theorem ze2 {l:PySem.W.OpenLaw}{n k:Nat}{q:Program}{loose:List Str}{XP:(Str->Option Value)->Heap->Prop}{YP:World->Heap->Prop}{d:DefRec}{K:Params->PySem.W.Frag}{CX:World->CXT}{sp:World->Sp}{x:Str}{T c:Addr}{ps:Array Value}
  (hn:l.most=some n) (hn2:n<=sizeLine) (hdf:d.params.defaults=[]) (hr:zX k callerA)
  (hY:∀(w:World) (h:Heap),YP w h->(K w.params).In h) (hYT:∀(w:World) (h:Heap),YP w h->h.get? T=some (PySem.W.tabObj ps))
  (hNo:∀w:World,(K w.params).lookup T=none) (hTab:∀w:World,∃o vs,(K w.params).lookup c=some o/\o.cls=.type "code"/\o.data=.fields vs/\vs[11]?=some (.ref T))
  (F:∀(w:World) (mg:Str->Option Value) (fa:Addr) (h:Heap),(K w.params).In h->h.Ns mainGlobals mg->mg d.name=some (.ref fa)->
   ∃fd:FuncData,(∀(s:Shared) (u:Value),BindsTo s fd ⟨[u],[]⟩ [(x,u)])/\
    ∀base:Heap,(K w.params).In base->base.Ns mainGlobals mg->base.BuiltinsAt mg T->zE l.prog w (K w.params) mg base (CX w) k fa fd [x] (sp w))
  (hsp:∀(w:World) (H:Hp) (a:Addr) (ns:List Int),ns.length<=n->zj0 T H->H T=some (.tbl ps)->SqL (K w.params) H a (ns.map V.int)->sp w [.ref a] H (fun v _=>v=.bl true) fun _ _ _=>False)
  (hCX:∀(w:World) (H:Hp) (s:Shared) (e:Value) (s':Shared),CX w [] H s (fun _ _ _=>False) e s'->False):
  PySem.W.WalkO q loose XP YP l.row.toRowW d [] (fun f vs=>PySem.call f vs):=by
 refine Att.attach_call hn hdf fun w s₀ s₁ mg mb fa o pm cd doc a vs ns G Y ho hd hcd hmg hobj hints hlen hg=>?_;have KX:=hY w _ Y;obtain⟨oc,cv,t2,t3,t4,t5⟩:=hTab w;obtain⟨fd,hb,hF⟩:=F w mg fa _ KX G.T.g hmg;exact dE KX G.T.g G.T.b G.T.builtins G.T.nolimit hg hobj hints (z24 hlen hn2) hr (hYT w _ Y) (hNo w) ⟨c,oc,cv,KX _ _ t2,t3,t4,t5⟩ G.T.bmain hF hb (fun H hO hT hS=>hsp w H a ns hlen hO hT hS) fun H e s'=>hCX w H s₁ e s'
theorem TabAt.same {H H':Hp}(T:TabAt H)(h:∀a o,(∀xs,o≠.lst xs)->H a=some o->H' a=some o):TabAt H':=rY T h
section
variable {X:Cx}{pins:List (Addr×Obj)}{σ:St}{H:Hp}{s:Shared}{h':Heap}
theorem Inv.tblMore {t':Nat}{p:Addr}{ps more:Array Value}{H':Hp}(I:Inv X pins σ H s)(h:H p=some (.tbl ps))(k:∀b u,b≠p->s.heap.get? b=some u->h'.get? b=some u)(e:h'.get? p=some (PySem.W.tabObj (ps++more)))
  (hp:H' p=some (.tbl (ps++more))) (hH:∀b,b≠p->b<s.heap.objs.size->H' b=H b) (new:∀b o,s.heap.objs.size<=b->H' b=some o->zS X.prog X.w H' h' b o):
  Inv X pins σ H' {s with heap:=h',toks:=t'}:=by
 have ne:∀b,H b=none->b≠p:=fun b n z=>by rw[z,h] at n;cases n
 have nt:∀b o,H b=some o->(∀qs,o≠.tbl qs)->b≠p:=fun b o q n z=>by rw[z,h] at q;cases q;exact n _ rfl
 have lt:∀b o,H b=some o->b<s.heap.objs.size:=fun b o q=>by
  rcases z85 b s.heap.objs.size with z|z
  ·exact z
  ·rw[I.hok.fresh z] at q;cases q
 have st:∀b o,H b=some o->(∀qs,o≠.tbl qs)->H' b=some o:=fun b o q n=>by rw[hH b (nt b o q n) (lt b o q)];exact q
 refine I.un ⟨fun b o q n _ _=>k b o (ne b n) q,fun b o q n _ _=>⟨o.slots,k b o (ne b n) q⟩,fun b o q n _=>by rw[hH b (ne b n) (zX2 q)];exact n,fun b o q _=>?_,fun b xs q=>st b _ q (fun _ z=>by cases z),fun b o u q=>st b _ q (fun _ z=>by cases z),fun b qs q=>?_⟩ fun b u q=>?_
 ·by_cases z:b=p
  ·exact⟨_,by rw[z];exact e⟩
  ·exact⟨o,k b o z q⟩
 ·by_cases z:b=p
  ·subst z;rw[h] at q;cases q;exact⟨more,hp⟩
  ·exact⟨#[],by rw[hH b z (lt b _ q),q];simp⟩
 ·by_cases z:b=p
  ·subst z;rw[hp] at q;cases q;exact e
  ·rcases z85 b s.heap.objs.size with l|l
   ·rw[hH b z l] at q;refine (I.hok b u q).stay (fun c v hc r=>k c v (fun w=>?_) r) (fun c r=>st c _ r fun _ z=>by cases z) fun c xs r=>st c _ r fun _ z=>by cases z
    subst w;rcases hc with rfl|hc
    ·exact z rfl
    ·rw[h] at hc;cases hc
   ·exact new b u l q
noncomputable def jO (f c:Addr)(qual:Str)(params:Arguments)(body:Expr)(scope:Scope)(clos:List (Str×Addr)):HO:=
 .ext fun h=>∃(pm ctv:Value),h.get? f=some (PySem.W.kla_obj "<lambda>" qual params body scope clos pm c ctv)
theorem zp5 {P:Program}{w:World}{H:Hp}{h:Heap}{c:Addr}(r:h.CodeRec (.ref c) wu):zS P w H h c (sI c):=by
 refine⟨r,?_,fun h1 h2 p k=>?_⟩
 ·obtain⟨c',o,vs,t,e1,e2,_⟩:=r;cases e1;exact⟨o,e2⟩
 ·obtain⟨c',o,vs,t,e1,e2,e3⟩:=p;cases e1;exact⟨c,o,vs,t,rfl,k _ e2,e3⟩
theorem zb7 {P:Program}{w:World}{H:Hp}{h:Heap}{f c:Addr}{qual:Str}{params:Arguments}{body:Expr}{scope:Scope}{clos:List (Str×Addr)}{pm ctv:Value}(r:h.get? f=some (PySem.W.kla_obj "<lambda>" qual params body scope clos pm c ctv)):zS P w H h f (jO f c qual params body scope clos):=
 ⟨⟨pm,ctv,r⟩,⟨_,r⟩,fun h1 h2 ⟨pm',ctv',p⟩ k=>⟨pm',ctv',k _ p⟩⟩
theorem jC {pos:Pos}{a b:Int}{c cv:Value}(l:List Value):TriplesOk l->codeAmong pos (l++[rawInt a,rawInt b,c])=some cv->codeAmong pos l=some cv\/cv=c:=by
 induction l using TriplesOk.induct with
 |case1=>
  intro _ h;rw[z08,rawInt,rawInt,codeAmong.eq_1] at h;split at h
  ·cases h;exact .inr rfl
  ·rw[codeAmong.eq_2 _ _ (by intro _ _ _ _ _ _ z;cases z)] at h;cases h
 |case2 i t j u d rest ih=>
  intro ok h;rw[TriplesOk.eq_2] at ok;rw[z65,z65,z65,codeAmong.eq_1] at h;rw[codeAmong.eq_1];split at h
  ·rename_i z;rw[if_pos z];exact .inl h
  ·rename_i z;rw[if_neg z];exact ih ok h
 |case3 t h1 h2=>
  intro ok;rw[TriplesOk.eq_3 t h1 h2] at ok;exact ok.elim
theorem zi3 {params:Arguments}{body:Expr}{scope:Scope}{lpos:Pos}{clos:List (Str×Addr)}{c:Addr}(I:Inv X pins σ H s)(hcl:closureFor scope X.env=pure clos)(hgl:X.env.globals=mainGlobals)(hco:X.env.code=.ref c)(hhd:PySem.W.CodeHd X.base c yL)
  (hbi:X.base.BuiltinsAt X.mg yL) (hdf:defaultsOf params X.env=([],[])) (hq:X.env.qual++("<lambda>":Str)=wu) (hne:mainGlobals≠yL) (T:TabAt H) {Q:Value->Shared->Prop}
  (h:∀(f c':Addr) (H':Hp) (s':Shared),Inv X pins σ H' s'->TabAt H'->(∀a o,a≠yL->H a=some o->H' a=some o)->(∀a ps,H a=some (.tbl ps)->∃qs,H' a=some (.tbl qs))->H f=none->H' f=some (jO f c' wu params body scope clos)->H' c'=some (sI c')->Q (.ref f) s'):
  wpAny (model X.prog X.w) X.A (eval (.Lambda params body scope lpos) X.env) Q X.xe s:=by
 refine PySem.W.kla_eval hdf ?_;rw[hq];obtain⟨ps,t1,t2,t3⟩:=T.ex;have hT:s.heap.get? yL=some (PySem.W.tabObj ps):=I.hok _ _ t1;have hb:∀b o,X.base.get? b=some o->s.heap.get? b=some o:=fun b o e=>(I.bs b o e).1;have hhd':PySem.W.CodeHd s.heap c yL:=by
  obtain⟨o,vs,f1,f2,f3,f4,f5,f6,f7,e1,e2⟩:=hhd;exact⟨o,vs,f1,f2,f3,f4,f5,f6,f7,hb _ _ e1,e2⟩
 have hbi':s.heap.BuiltinsAt X.mg yL:=by
  obtain⟨bm,o,e1,e2,e3,e4,e5,e6⟩:=hbi;exact⟨bm,o,e1,e2,e3,e4,hb _ _ e5,e6⟩
 have hns:s.heap.Ns mainGlobals X.mg:=by
  obtain⟨o,es,ep,e,d,r⟩:=I.ok.mod.glob;exact⟨o,es,ep,hb _ _ e,d,r⟩
 cases hc:codeAmong lpos ps.toList with
 |none=>
  refine PySem.W.kla_makeFunction hcl hgl hns hco hhd' hT t2 hc hne hbi' fun c' ctv h' tk ex l1 l2 cr ht=>?_;have hlt:c'<(h'.push (PySem.W.kla_obj "<lambda>" wu params body scope clos ((X.mg "__name__").getD Value.none) c' ctv)).objs.size:=by rw[size_push'];omega
  have n1:(c':Addr)≠h'.objs.size:=zY4 l2;have szT:yL<s.heap.objs.size:=zX2 hT;have n2:(c':Addr)≠yL:=z83 (zY9 szT l1);have lf:s.heap.objs.size<=h'.objs.size:=z48 (Nat.lt_of_le_of_lt l1 l2);have n3:(h'.objs.size:Addr)≠yL:=z83 (zY9 szT lf)
  let HN:Hp:=upd (upd (upd H h'.objs.size (jO h'.objs.size c' wu params body scope clos)) c' (sI c')) yL (.tbl (ps++#[rawInt ↑lpos.line,rawInt ↑lpos.col,Value.ref c']))
  have eP:HN yL=some (.tbl (ps++#[rawInt ↑lpos.line,rawInt ↑lpos.col,Value.ref c'])):=zk;have eC:HN c'=some (sI c'):=by show upd _ _ _ _=_;rw[zg n2,zk]
  have eF:HN h'.objs.size=some (jO h'.objs.size c' wu params body scope clos):=by show upd _ _ _ _=_;rw[zg n3,zg n1.symm,zk]
  have old:∀b,b≠yL->b<s.heap.objs.size->HN b=H b:=fun b nb lb=>by
   show upd _ _ _ _=_;rw[zg nb,zg (zY4 (zY9 lb l1)),zg (zY4 (zY9 lb lf))]
  have I1:Inv X pins σ HN {s with heap:=h'.push (PySem.W.kla_obj "<lambda>" wu params body scope clos ((X.mg "__name__").getD Value.none) c' ctv),toks:=tk}:=by
   refine I.tblMore (more:=#[rawInt ↑lpos.line,rawInt ↑lpos.col,Value.ref c']) t1 (fun b u nb e=>zW5 _ (ex b u nb e)) (zW5 _ ht) eP old fun b o lb e=>?_;by_cases z1:b=h'.objs.size
   ·subst z1;rw[eF] at e;cases e;exact zb7 (zX4 _ rfl)
   ·by_cases z2:b=c'
    ·subst z2;rw[eC] at e;cases e;obtain⟨c2,o,vs,t,e1,e2,e3⟩:=cr;cases e1;exact zp5 ⟨_,o,vs,t,rfl,zW5 _ e2,e3⟩
    ·have nb:b≠yL:=fun z=>absurd lb (Nat.not_le_of_lt (z▸szT));have e':HN b=H b:=by show upd _ _ _ _=_;rw[zg nb,zg z2,zg z1]
     rw[e',I.hok.fresh lb] at e;cases e
  have stay:∀a o,a≠yL->H a=some o->HN a=some o:=fun a o no e=>by
   have la:a<s.heap.objs.size:=by
    rcases z85 a s.heap.objs.size with z|z
    ·exact z
    ·rw[I.hok.fresh z] at e;cases e
   rw[old a no la];exact e
  refine h _ c' HN _ I1 ⟨_,eP,?_,fun pos cv hcv=>?_⟩ stay (fun a qs e=>?_) (I.hok.fresh lf) eF eC
  ·rw[Array.toList_append];exact TriplesOk_snoc _ _ _ _ t2
  ·rw[Array.toList_append] at hcv;rcases jC _ t2 hcv with z|z
   ·obtain⟨c2,rfl,e2⟩:=t3 _ _ z;exact⟨c2,rfl,stay _ _ (fun z=>by rw[z,t1] at e2;cases e2) e2⟩
   ·exact⟨c',z,eC⟩
  ·by_cases za:a=yL
   ·exact⟨_,by rw[za];exact eP⟩
   ·refine⟨qs,?_⟩;rw[old a za (by
     rcases z85 a s.heap.objs.size with z|z
     ·exact z
     ·rw[I.hok.fresh z] at e;cases e)]
    exact e
 |some cv=>
  obtain⟨c',rfl,t4⟩:=t3 _ _ hc;refine PySem.W.kla_makeFunctionHit hcl hgl hns hco hhd' hT t2 hc hbi' fun ctv h' tk k l=>?_;have hf:H h'.objs.size=none:=I.hok.fresh l;have k2:∀b u,s.heap.get? b=some u->(h'.push (PySem.W.kla_obj "<lambda>" wu params body scope clos ((X.mg "__name__").getD Value.none) c' ctv)).get? b=some u:=fun b u e=>zW5 _ (k b u e);have I1:=I.laid (t':=tk) (o:=jO h'.objs.size c' wu params body scope clos) k2 l (zb7 (zX4 _ rfl));have n1:∀a o,H a=some o->a≠h'.objs.size:=fun a o e z=>by rw[z,hf] at e;cases e
  refine h _ c' _ _ I1 (T.same fun a o _ e=>by rw[zg (n1 a o e)];exact e) (fun a o _ e=>by rw[zg (n1 a o e)];exact e) (fun a qs e=>⟨qs,by rw[zg (n1 a _ e)];exact e⟩) hf zk ?_;rw[zg (n1 _ _ t4)];exact t4
end
structure wV (x y:Str)(params:Arguments)(scope:Scope):Prop where
 kind:scope.kind=.function
 co:scope.isCoroutine=false
 gen:scope.isGenerator=false
 px:scope.names.lookup x=some .local
 py:scope.names.lookup y=some .free
 nocell:∀z∈scope.names,z.2≠NameKind.cell
 only:∀z∈scope.names,z.2=NameKind.free->z.1=y
 ne:x≠y
noncomputable def kA (P:Program)(w:World)(K:PySem.W.Frag)(mg:Str->Option Value)(base:Heap)(x y:Str)(scope:Scope)(f c cl:Addr)(A:Around)(outer:List Env)(s:Shared)(H:Hp):Cx where
 prog:=P
 w:=w
 K:=K
 mg:=mg
 base:=base
 A:=A.deeper (PySem.W.envX wu scope s.heap.objs.size f (.ref c) [(y,cl)])
 N:=[x,y]
 s₀:=s
 H₀:=H
 env:=PySem.W.envX wu scope s.heap.objs.size f (.ref c) [(y,cl)]
 outer:=outer
 stack:=PySem.W.envX wu scope s.heap.objs.size f (.ref c) [(y,cl)]::outer
 ex:=[]
 calm:=true
 fn:=fun _=>false
 pn:=[]
 xe:=fun _ _=>False
theorem eV {P:Program}{w:World}{K:PySem.W.Frag}{mg:Str->Option Value}{base:Heap}{x y:Str}{params:Arguments}{scope:Scope}{f c cl:Addr}{A:Around}{outer:List Env}{s:Shared}{H:Hp}{h':Heap}{tk:Nat}{v l:V}{u ul:Value}
  (S:wV x y params scope) (hd:A.handled=none) (e0:tZ P w K mg base A outer s H) (rv:RelV v u) (rl:RelV l ul) (hcl:s.heap.IsCell cl (some ul)) (fcl:H cl=none)
  (ns:h'.Ns s.heap.objs.size fun z=>[(x,u)].reverse.lookup z) (k:∀b o,s.heap.get? b=some o->h'.get? b=some o):
  Inv (kA P w K mg base x y scope f c cl A outer s H) [] [some v,some l] H {s with heap:=h',toks:=tk}:=by
 have noA:∀b:Addr,b∉(kA P w K mg base x y scope f c cl A outer s H).ex:=fun b z=>absurd (show b∈([]:List Addr) from z) (by simp);have one:∀z d,(kA P w K mg base x y scope f c cl A outer s H).env.cells.lookup z=some d->z=y/\d=cl:=fun z d h=>by
  have h:List.lookup z [(y,cl)]=some d:=h;rw[z25] at h;split at h
  ·rename_i e;cases h;exact⟨eq_of_beq e,rfl⟩
  ·cases h
 have hit:(kA P w K mg base x y scope f c cl A outer s H).env.cells.lookup y=some cl:=by
  show List.lookup y [(y,cl)]=some cl;simp[z25]
 have cell':h'.IsCell cl (some ul):=by
  obtain⟨o,e1,e2⟩:=hcl;exact⟨o,k _ _ e1,e2⟩
 refine⟨⟨e0.mod,S.kind,rfl,rfl,zW9 _,fun a b d h1 h2=>(one a d h1).1.trans (one b d h2).1.symm,fun z hz=>?_,fun z d hf _=>?_,fun _=>hd,Around.frames_deeper e0.frames,.inr ⟨rfl,rfl⟩,fun b z=>absurd z (noA b),e0.bs,e0.bsz,fun b _ _=>noA b,fun b z=>absurd z (noA b),e0.funs,e0.frf⟩,
  rfl,e0.bare,Un.kept k,⟨_,ns,fun i z v' h1 h2 h3=>?_⟩,fun z d h=>?_,e0.hok.fresh (zW9 _),fun z d h=>?_,fun p hp=>absurd (show p∈([]:List (Addr×Obj)) from hp) (by simp),e0.hok.kept k,rfl⟩
 ·have hz:scope.names.lookup z=some .cell\/scope.names.lookup z=some .free:=hz;rcases hz with hz|hz
  ·exact absurd rfl (S.nocell _ (z29 hz))
  ·have:z=y:=S.only _ (z29 hz) rfl;subst this;exact⟨cl,hit⟩
 ·exact absurd (show false=true from hf) zY1
 ·have h1:([x,y]:List Str)[i]?=some z:=h1
  match i,h1,h2 with
  |0,h1,h2=>
   cases h1;cases h2;exact⟨u,rv,.inl ⟨S.px,by simp[z25]⟩⟩
  |1,h1,h2=>
   cases h1;cases h2;exact⟨ul,rl,.inr ⟨.inr S.py,cl,hit,cell'⟩⟩
  |i+2,h1,h2=>simp at h1
 ·obtain⟨rfl,rfl⟩:=one z d h;exact⟨_,cell'⟩
 ·obtain⟨rfl,rfl⟩:=one z d h;exact fcl
theorem zu3 {P:Program}{w:World}{K:PySem.W.Frag}{mg:Str->Option Value}{base:Heap}{x y:Str}{params:Arguments}{body:Expr}{scope:Scope}{f c cl:Addr}{A:Around}{outer:List Env}{s:Shared}{H:Hp}{v l:V}{u ul:Value}{k:Nat}{Q:VK}{t:TE}
  (S:wV x y params scope) (hr:zX k A) (e0:tZ P w K mg base A outer s H) (hf:H f=some (jO f c wu params body scope [(y,cl)])) (hc:H c=some (sI c)) (hcl:s.heap.IsCell cl (some ul)) (fcl:H cl=none) (rv:RelV v u) (rl:RelV l ul)
  (hb:∀pm ctv,bindArgs (PySem.W.kla_fn "<lambda>" wu params body scope [(y,cl)] pm (.ref c) ctv) ⟨[u],[]⟩=pure [(x,u)])
  (ht:PE (kA P w K mg base x y scope f c cl A outer s H) body t) (hq:t [some v,some l] H Q):
  codeAny (model P w) A (.call (.ref f) ⟨[u],[]⟩) (CR CX0 outer P w H s Q E0) s:=by
 obtain⟨⟨pm,ctv,ho⟩,_,_⟩:=e0.hok _ _ hf;have cr:s.heap.CodeRec (.ref c) wu:=(e0.hok _ _ hc).1;have lim:s.heap.NoLimit:=e0.mod.nolimit.keeps fun b o e=>(e0.bs b o e).1;refine PySem.W.kla_callFunE hr.depth ho rfl S.co S.gen rfl cr ?_;rw[hb];refine zX6 ?_;refine wpAny_newFunctionEnv S.nocell (fun z hz=>?_) (fun h' ns sb=>?_) S.kind
 ·rw[zX5.mp hz];exact S.px
 ·have kk:∀b o,s.heap.get? b=some o->h'.get? b=some o:=fun b o e=>sb.extBut b o (zY4 (zX2 e)) (zW5 _ e);refine⟨lim.keeps kk,PySem.W.kla_codeExpr ?_⟩;have I:=eV (tk:=s.toks+[(x,u)].length) (f:=f) (c:=c) S hr.hd e0 rv rl hcl fcl ns kk;refine z22 (ht [] _ _ H _ I hq) (fun u' s' hs=>?_) fun e s' hs=>hs.elim;obtain⟨v',H',J,r',q⟩:=hs;exact⟨v',H',J.os,J.bare,J.base,J.hok,r',q⟩
open PySem.W SortA
section
variable {X:Cx}{pins:List (Addr×Obj)}{σ:St}{H:Hp}{s:Shared}
def ag (X:Cx)(H1 H2:Hp)(s1 s2:Shared):Prop:=∀b o,s1.heap.get? b=some o->H1 b=none->b∉frs X.stack->s2.heap.get? b=some o/\H2 b=none
structure aS (X:Cx)(pins:List (Addr×Obj))(σ:St)(H:Hp)(D kS:Addr)(e1:Nat)(ps:List (Int×Int))(i:Nat)(s':Shared):Prop where
 ex:∃(H':Hp) (ks:List Value) (xs:List V) (e:Nat),Inv X pins σ H' s'/\(∀a o,H a=some o->H' a=some o)/\s'.heap.get? D=some (seqObj "list" #[] e1)/\s'.heap.get? kS=some (seqObj "list" ks.toArray e)/\H' D=none/\H' kS=none/\Vals xs ks/\PrV H' xs (ps.take i)
theorem eZ {A:Around}{E:Value->Shared->Prop}{vs:List Value}{ps:List (Int×Int)}{f D kS:Addr}{e1:Nat}{Q:PUnit->Shared->Prop}(hlen:vs.length=ps.length)(h64:vs.length<64)(nD:D∉frs X.stack)(nK:kS∉frs X.stack)(hne:D≠kS)
  (fK:∀H',H' kS=none->xN X pins H' kS)
  (hcall:∀i v,vs[i]?=some v->∀H1 s1,Inv X pins σ H1 s1->(∀a o,H a=some o->H1 a=some o)->
   wpAny (model X.prog X.w) A (call (.ref f) [v]) (fun u s2=>∃t H2,u=.ref t/\Inv X pins σ H2 s2/\(∀a o,H1 a=some o->H2 a=some o)/\H2 t=some (.tup [.int (at2 ps i).1,.int (at2 ps i).2])/\ag X H1 H2 s1 s2) (fun _ _=>False) s1)
  (h0:aS X pins σ H D kS e1 ps 0 s) (hQ:∀s',aS X pins σ H D kS e1 ps vs.length s'->Q PUnit.unit s'):
  wpAny (model X.prog X.w) A (forIn vs PUnit.unit fun x __s=>do
   let __do_lift <-(call (.ref f) [x]).attempt
   match __do_lift with
    |Except.ok k=>do
     Builtin.List.listUpdate (.ref kS) fun x=>x.push k
     pure (ForInStep.yield PUnit.unit)
    |Except.error e=>do
     rule "list.sort.key-raised"
     let made <-Builtin.List.listItems (.ref kS)
     Builtin.List.listUpdate (.ref kS) fun x=>#[]
     letGo made.toList.reverse [e]
     Builtin.List.listUpdate (Value.ref D) fun x=>vs.toArray
     throw e
     pure (ForInStep.yield PUnit.unit)) Q E s:=by
 refine ksk_fold (aS X pins σ H D kS e1 ps) vs 0 s h0 (fun j x s' hj hI=>?_) (fun s' hI=>hQ s' (by simpa using hI));obtain⟨H1,ks,xs,e,I1,st,eD,eK,fD,fK',rv,pr⟩:=hI.ex;rw[Nat.zero_add] at pr ⊢;have hjl:j<ps.length:=by rw[<-hlen];exact (zW7.mp hj).1
 have lks:ks.length=j:=by rw[<-rv.length,pr.len,zZ4];omega
 refine zW4 (wpAny_attempt (z22 (hcall j x hj H1 s' I1 st) (fun u s2 hu=>?_) fun _ _ z=>z.elim));obtain⟨t,H2,rfl,I2,st2,et,kp⟩:=hu;obtain⟨eD2,fD2⟩:=kp D _ eD fD nD;obtain⟨eK2,fK2⟩:=kp kS _ eK fK' nK;refine zW4 (listUpdate_at eK2 rfl (zX6 ⟨rfl,?_⟩) (by rw[zX8,lks,z34];omega) (by rw[Array.size_push,zX8,lks,z34];omega));obtain⟨e',hk⟩:∃e',(s2.heap.update kS (Obj.mapSeq fun x=>x.push (Value.ref t))).get? kS=some (seqObj "list" (ks++[Value.ref t]).toArray e'):=by
  have:=z61 eK2 fun x=>x.push (Value.ref t);rw[List.push_toArray] at this;exact⟨_,this⟩
 have kk:∀b o,b∉[kS]->s2.heap.get? b=some o->(s2.heap.update kS (Obj.mapSeq fun x=>x.push (Value.ref t))).get? b=some o:=fun b o nb q=>(zZ0 _ _ (zZ8 (by simpa using nb))).trans q;refine⟨H2,ks++[Value.ref t],xs++[V.ref t],e',I2.turnL (t':=s2.toks) kk (fun b hb=>by rw[zX5.mp hb];exact fK H2 fK2),fun a o q=>st2 a o (st a o q),kk D _ (by simpa using hne) eD2,hk,fD2,fK2,rv.append (.cons rfl .nil),?_⟩;rw[z52,zW6 hjl];refine PrV.app (pr.keep fun a p q z=>st2 _ _ z) ?_;have ea:at2 ps j=ps[j]:=by unfold at2;rw[zW8,zW6 hjl];rfl
 rw[ea] at et;exact .cons et .nil
theorem iY {A:Around}{E:Value->Shared->Prop}{vs:List Value}{ps:List (Int×Int)}{f D:Addr}{n:Nat}{Pf:PySem.Fin->Shared->Prop}(I:Inv X pins σ H s)(ho:s.heap.get? D=some (seqObj "list" vs.toArray n))(hlen:vs.length=ps.length)(h64:vs.length<64)(fD:H D=none)
  (nD:D∉frs X.stack) (fpD:∀H',H' D=none->xN X pins H' D)
  (hcall:∀i v,vs[i]?=some v->∀H1 s1,Inv X pins σ H1 s1->(∀a o,H a=some o->H1 a=some o)->
   wpAny (model X.prog X.w) A (call (.ref f) [v]) (fun u s2=>∃t H2,u=.ref t/\Inv X pins σ H2 s2/\(∀a o,H1 a=some o->H2 a=some o)/\H2 t=some (.tup [.int (at2 ps i).1,.int (at2 ps i).2])/\ag X H1 H2 s1 s2) (fun _ _=>False) s1)
  (h:∀out H' s' c,Srt vs ps out->Inv X pins σ H' s'->(∀a o,H a=some o->H' a=some o)->s'.heap.get? D=some (seqObj "list" out.toArray c)->H' D=none->Pf (.done (.ret .none)) s'):
  wpAny (model X.prog X.w) A (ksk_tree D (.ref f) false) Pf E s:=by
 have hD:D<s.heap.objs.size:=zX2 ho;have s1:=ya1 s.heap D (Obj.mapSeq fun _=>(#[]:Array Value));obtain⟨e1,ho1⟩:∃e1,(s.heap.update D (Obj.mapSeq fun _=>(#[]:Array Value))).get? D=some (seqObj "list" #[] e1):=⟨_,z61 ho fun _=>#[]⟩;have hsz1:(s.heap.update D (Obj.mapSeq fun _=>(#[]:Array Value))).objs.size=s.heap.objs.size:=Heap.size_update _ _ _;unfold ksk_tree;refine zW4 (listItems_at ho rfl ?_);refine zW4 (listUpdate_at ho rfl ?_ (by rw[zX8,z34];omega) (zY8 _));generalize hh1:s.heap.update D (Obj.mapSeq fun _=>(#[]:Array Value))=h1 at s1 ho1 hsz1;refine zW4 (seqEpoch_at ho1 rfl ?_);refine zW4 (wpAny_newTuple ?_ (by show vs.length<=_;rw[z34];omega));refine zW4 (wpAny_newList ?_ (zY8 _));refine z36 ?_;show wpAny (model X.prog X.w) A (ksk_rest D (.ref f) false vs.toArray e1 (.ref (h1.push (seqObj "tuple" vs.toArray 0)).objs.size)) Pf E {s with heap:=(h1.push (seqObj "tuple" vs.toArray 0)).push (seqObj "list" #[] 0)};have kS0:(h1.push (seqObj "tuple" vs.toArray 0)).objs.size=s.heap.objs.size+1:=by rw[size_push',hsz1]
 have eK0:((h1.push (seqObj "tuple" vs.toArray 0)).push (seqObj "list" #[] 0)).get? (h1.push (seqObj "tuple" vs.toArray 0)).objs.size=some (seqObj "list" #[] 0):=zX4 _ rfl;have eD0:((h1.push (seqObj "tuple" vs.toArray 0)).push (seqObj "list" #[] 0)).get? D=some (seqObj "list" #[] e1):=zW5 _ (zW5 _ ho1);have k1:∀b o,b∉[D]->s.heap.get? b=some o->((h1.push (seqObj "tuple" vs.toArray 0)).push (seqObj "list" #[] 0)).get? b=some o:=fun b o hb e=>
  zW5 _ (zW5 _ ((s1.2 b (by simpa using hb)).trans e))
 have I0:Inv X pins σ H {s with heap:=(h1.push (seqObj "tuple" vs.toArray 0)).push (seqObj "list" #[] 0),toks:=s.toks}:=I.turnL k1 fun b hb=>by rw[zX5.mp hb];exact fpD H fD
 generalize (h1.push (seqObj "tuple" vs.toArray 0)).push (seqObj "list" #[] 0)=h2 at eK0 eD0 k1 I0;generalize hkS:(h1.push (seqObj "tuple" vs.toArray 0)).objs.size=kS at kS0 eK0;have lK:s.heap.objs.size<=kS:=by rw[kS0];exact z58 _
 have fK:∀H',H' kS=none->xN X pins H' kS:=fun H' hn=>I.fpOk lK hn;have nK:(kS:Addr)∉frs X.stack:=fun z=>by
  rcases zX0.mp (I.stkSub _ z) with q|q
  ·exact (I.fpOk (H':=fun _=>none) lK rfl).2.1 q
  ·exact (I.fpOk (H':=fun _=>none) lK rfl).2.2.1 q
 have hne:D≠kS:=zY4 (zY9 hD lK);have hK0:H kS=none:=I.hok.fresh lK;unfold ksk_rest;refine zW4 (wpAny_rule ?_);rw[ye4];refine zW4 (eZ (s:={s with heap:=h2}) hlen h64 nD nK hne fK hcall ⟨H,[],[],0,I0,fun _ _ q=>q,eD0,eK0,fD,hK0,.nil,.nil⟩ fun s' hI=>?_);obtain⟨H1,ks,xs,e,I1,st,eD,eK,fD1,fK1,rv,pr⟩:=hI.ex;rw[hlen,z66] at pr;have lks:ks.length=vs.length:=by rw[<-rv.length,pr.len,hlen]
 refine zW4 (listItems_at eK rfl ?_);unfold ksk_end;dsimp only;rw[if_neg (by decide)];have P:Prs s'.heap ks ps:=pr.prs I1 rv;have tail:∀(st':SortSt) (out:List Value),out.length<=64->Srt vs ps out->failedOf st'=none->(arrOf st').map (·.2)=out.toArray->wpAny (model X.prog X.w) A (ksk_tail D false e1 (.ref kS) st') Pf E s':=by
  intro st' out lo so hf hout;unfold ksk_tail;dsimp only;rw[hout,hf];refine zW4 (listUpdate_at eK rfl ?_ (by rw[zX8,lks,z34];omega) (zY8 _));have s3:=ya1 s'.heap kS (Obj.mapSeq fun _=>(#[]:Array Value));have eD3:(s'.heap.update kS (Obj.mapSeq fun _=>(#[]:Array Value))).get? D=some (seqObj "list" #[] e1):=(s3.2 D hne).trans eD;have I3:Inv X pins σ H1 {s' with heap:=s'.heap.update kS (Obj.mapSeq fun _=>(#[]:Array Value)),toks:=s'.toks}:=I1.turnL (ch:=[kS]) (fun b o hb q=>(s3.2 b (by simpa using hb)).trans q) fun b hb=>by rw[zX5.mp hb];exact fK H1 fK1
  generalize s'.heap.update kS (Obj.mapSeq fun _=>(#[]:Array Value))=h3 at eD3 I3;refine zW4 (z68 ?_);refine zW4 (seqEpoch_at eD3 rfl ?_);rw[if_neg (by decide)];refine zW4 (listUpdate_at eD3 rfl ?_ (zY8 _) (by rw[zX8,z34];omega));have s4:=ya1 h3 D (Obj.mapSeq fun _=>out.toArray);obtain⟨c4,eD4⟩:∃c4,(h3.update D (Obj.mapSeq fun _=>out.toArray)).get? D=some (seqObj "list" out.toArray c4):=⟨_,z61 eD3 fun _=>out.toArray⟩;simp only[bne_self_eq_false,z05,z57];have I4:=I3.turnL (ch:=[D]) (t':=s'.toks) (h':=h3.update D (Obj.mapSeq fun _=>out.toArray)) (fun b o hb q=>(s4.2 b (by simpa using hb)).trans q) fun b hb=>by rw[zX5.mp hb];exact fpD H1 fD1
  exact zX6 (h out H1 _ c4 so I4 st eD4 fD1)
 by_cases hn2:vs.toArray.size<2
 ·rw[if_pos hn2,if_pos hn2];have hv:vs.length<2:=by simpa using hn2
  refine zW4 (zX6 ?_);refine zW4 (zX6 ?_);dsimp only;have so:Srt vs ps vs:=by
   match vs,ps,hv,hlen with
   |[],[],_,_=>exact⟨[],rfl,rfl,fun _ h=>by simp at h,.refl _,.nil⟩
   |[v],[p],_,_=>exact⟨[0],rfl,rfl,fun i h=>by simp at h;subst h;simp,.refl _,by simp⟩
   |_::_::_,_,hv,_=>simp only[zX9] at hv;omega
  refine tail _ vs (by omega) so rfl ?_;rw[if_neg (by decide)];show (ks.toArray.zip vs.toArray).map (·.2)=vs.toArray;apply Array.toList_inj.mp;rw[Array.toList_map,Array.toList_zip];exact List.map_snd_zip (yd1 lks.symm)
 ·rw[if_neg hn2,if_neg hn2,if_neg (by decide)];have h2:2<=vs.length:=by simp at hn2;omega
  have ask:=jb (prog:=X.prog) (w:=X.w) (A:=A) (s:=s') (by rw[lks];exact h2) P
   (R:=fun p s''=>Srt vs ps (p.toList.map fun i=>vs.getD i Value.none)/\s''=s') (fun ix a b c d=>⟨⟨ix,by simp,a,b,c,d⟩,rfl⟩)
  refine zW4 (z22 ask (fun κ s0 hk=>?_) fun _ _ x=>x.elim);rw[lks] at hk;refine zW4 (z22 (kat_run (Q:=fun st' s''=>∃p:Array Nat,p.size=vs.length/\arrOf st'=p.map (kas_item (ks.toArray.zip vs.toArray))/\failedOf st'=none/\Srt vs ps (p.toList.map fun i=>vs.getD i Value.none)/\s''=s')
   lks h2 h64 (fun p' st' s'' a1 a2 a3 a4=>⟨p',a1,a2,a3,a4⟩) hk) ?_ fun _ _ e=>e)
  rintro⟨⟨⟩,st'⟩ s'' ⟨p,hp,har,hf,so,rfl⟩;dsimp only;exact tail st' _ (by rw[so.len,<-hlen];omega) so hf (kat_snds lks har)
end
section
variable {X:Cx}{pins:List (Addr×Obj)}{σ:St}{H:Hp}{s:Shared}
theorem Inv.adopt {D:Addr}{o:HO}(I:Inv X pins σ H s)(fp:xN X pins H D)(new:zS X.prog X.w (upd H D o) s.heap D o):Inv X pins σ (upd H D o) s:=by
 have nD:=fp.1;have st:∀b u,H b=some u->upd H D o b=some u:=fun b u e=>by rw[zg (zo e nD)];exact e
 have:=I.step (g':=s.gens) (t':=s.toks) (d':=s.drawn) (h':=s.heap) (H':=upd H D o) (ch:=[D]) (fun b hb=>by rw[zX5.mp hb];exact⟨fp.2.2.2.1,fp.2.1,fp.2.2.2.2.1,fp.2.2.2.2.2⟩) (fun b u _ _ _ e _=>e) (fun b u _ _ _ e _=>⟨u.slots,e⟩) (fun b u hb e n=>by rw[zg (by simpa using hb)];exact n)
  (fun b u _ e=>⟨u,e⟩) (fun b xs e=>st b _ e) (fun b u xs e=>st b _ e) (fun b ps e=>⟨#[],by rw[st b _ e];simp⟩) (fun m hm=>hm) (fun b u e=>?_) I.bare
 ·exact this
 ·by_cases hb:b=D
  ·subst hb;rw[zk] at e;cases e;exact new
  ·rw[zg hb] at e;exact (I.hok b u e).stay (fun c v _ q=>q) (fun c q=>st c _ q) fun c xs q=>st c _ q
theorem oG {A:Around}{E:Value->Shared->Prop}{l f:Addr}{vs:List Value}{ps:List (Int×Int)}{Q:Value->Shared->Prop}(I:Inv X pins σ H s)(hl:s.heap.IsList l vs.toArray)(hlen:vs.length=ps.length)(h64:vs.length<64)
  (hcall:∀i v,vs[i]?=some v->∀H1 s1,Inv X pins σ H1 s1->(∀a o,H a=some o->H1 a=some o)->
   wpAny (model X.prog X.w) A.in1.in1 (call (.ref f) [v]) (fun u s2=>∃t H2,u=.ref t/\Inv X pins σ H2 s2/\(∀a o,H1 a=some o->H2 a=some o)/\H2 t=some (.tup [.int (at2 ps i).1,.int (at2 ps i).2])/\ag X H1 H2 s1 s2) (fun _ _=>False) s1)
  (h:∀D out H' s' c,s.heap.objs.size<=D->Srt vs ps out->Inv X pins σ H' s'->(∀a o,H a=some o->H' a=some o)->s'.heap.get? D=some (seqObj "list" out.toArray c)->H' D=none->xN X pins H' D->Q (.ref D) s'):
  wpAny (model X.prog X.w) A (call (.builtin "sorted") [.ref l] [("key",.ref f)]) Q E s:=by
 refine call_function_entry_kw kind_sorted plain_sorted entry_sorted (ksk_s1 _ _) ?_;unfold Builtin.«sorted»;refine zW4 (m:=checkCount "sorted" 1 1 _) (zX6 ?_);refine zW4 (collect_list hl ?_ (by rw[z34];omega));refine zW4 (wpAny_newList ?_ (by rw[z34];omega));have hsz:((s.heap.push (seqObj "list" #[] 0)).update s.heap.objs.size (Obj.mapSeq (·++vs.toArray))).objs.size=s.heap.objs.size+1:=by rw[Heap.size_update,size_push']
 have hoL:(((s.heap.push (seqObj "list" #[] 0)).update s.heap.objs.size (Obj.mapSeq (·++vs.toArray))).push (seqObj "list" vs.toArray 0)).get? (s.heap.objs.size+1)=some (seqObj "list" vs.toArray 0):=by rw[<-hsz];exact zX4 _ rfl
 have keep:∀b o,s.heap.get? b=some o->(((s.heap.push (seqObj "list" #[] 0)).update s.heap.objs.size (Obj.mapSeq (·++vs.toArray))).push (seqObj "list" vs.toArray 0)).get? b=some o:=fun b o q=>by
  have hlt:b<s.heap.objs.size:=zX2 q;rw[Heap.get?_push_ne _ _ _ (by rw[hsz];exact zY4 (yc1 hlt)),Heap.get?_update_ne _ _ _ _ (zY4 hlt),Heap.get?_push_ne _ _ _ (zY4 hlt)];exact q
 show wpAny _ _ _ _ _ {s with heap:=((s.heap.push (seqObj "list" #[] 0)).update s.heap.objs.size (Obj.mapSeq (·++vs.toArray))).push (seqObj "list" vs.toArray 0)};rw[hsz];have I1:Inv X pins σ H {s with heap:=((s.heap.push (seqObj "list" #[] 0)).update s.heap.objs.size (Obj.mapSeq (·++vs.toArray))).push (seqObj "list" vs.toArray 0),toks:=s.toks}:=I.kept keep;have lD:s.heap.objs.size<=s.heap.objs.size+1:=z58 _;refine zW4 (z36 (wpAny_call_entry_kw slot_list_sort ⟨_,hoL,rfl⟩ entry_list_sort ?body (ksk_l1 _ _)))
 case body=>
  rw[ksk_t1];refine iY (s:={s with heap:=((s.heap.push (seqObj "list" #[] 0)).update s.heap.objs.size (Obj.mapSeq (·++vs.toArray))).push (seqObj "list" vs.toArray 0)}) I1 hoL hlen h64 (I.hok.fresh lD) (fun z=>?_) (fun H' hn=>I.fpOk lD hn) hcall fun out H' s' c so I' st e fD=>?_
  ·rcases zX0.mp (I.stkSub _ z) with q|q
   ·exact (I.fpOk (H':=fun _=>none) lD rfl).2.1 q
   ·exact (I.fpOk (H':=fun _=>none) lD rfl).2.2.1 q
  ·exact⟨_,rfl,zX6 ⟨_,rfl,h _ out H' s' c lD so I' st e fD (I.fpOk lD fD)⟩⟩
end
section
variable {X:Cx}{a:Expr}{p pos kpos lpos p1 p2 p3 p4 p5 p6:Pos}{n1:Nat}{x y:Str}{params:Arguments}{scope:Scope}
noncomputable abbrev pairE (x y:Str)(n1:Nat)(p1 p2 p3 p4 p5 p6:Pos):Expr:=.Tuple [.Subscript (.Name y p1) (.Name x p2) p3,.UnaryOp .USub (.Name x p4) p5] n1 p6
noncomputable def keyOf (zs:List Int)(n:Int):Int×Int:=(zs.getD n.toNat 0,-n)
theorem zn2 {P:Program}{w:World}{K:PySem.W.Frag}{mg:Str->Option Value}{base:Heap}{f c cl l:Addr}{A:Around}{outer:List Env}{s:Shared}{H:Hp}{u ul:Value}{k:Nat}{n:Int}{zs:List Int}
  (S:wV x y params scope) (hr:zX k A) (e0:tZ P w K mg base A outer s H) (hf:H f=some (jO f c wu params (pairE x y n1 p1 p2 p3 p4 p5 p6) scope [(y,cl)])) (hc:H c=some (sI c)) (hcl:s.heap.IsCell cl (some ul)) (fcl:H cl=none) (rv:RelV (.int n) u) (rl:RelV (.ref l) ul)
  (hb:∀pm ctv,bindArgs (PySem.W.kla_fn "<lambda>" wu params (pairE x y n1 p1 p2 p3 p4 p5 p6) scope [(y,cl)] pm (.ref c) ctv) ⟨[u],[]⟩=pure [(x,u)])
  (hdx:(x == ("__debug__":Str))=false) (hdy:(y == ("__debug__":Str))=false) (hcx:(x == ("__classdict__":Str))=false) (hcy:(y == ("__classdict__":Str))=false)
  (hl:SqL K H l (zs.map V.int)) (h0:0<=n) (h1:n<zs.length):
  codeAny (model P w) A (.call (.ref f) ⟨[u],[]⟩) (CR CX0 outer P w H s (fun v H'=>∃t,v=.ref t/\H t=none/\H'=upd H t (.tup [.int (keyOf zs n).1,.int (keyOf zs n).2])) E0) s:=by
 obtain⟨j,rfl⟩:=z50 h0;have hj:j<zs.length:=by omega
 refine zu3 S hr e0 hf hc hcl fcl rv rl hb (t:=_) (oF (zd (zW ya (xQ (i:=1) rfl (Or.inr (Or.inr S.py)) hdy hcy) (xQ (i:=0) rfl (Or.inl S.px) hdx hcx) (fun _ _=>rfl)) (zd (zy6 zg5 (xQ (i:=0) rfl (Or.inl S.px) hdx hcx)) zw))) ?_;refine⟨_,rfl,_,rfl,l,_,_,.int (zs.getD j 0),rfl,rfl,hl,yH ?_,_,rfl,_,rfl,(by show 2<=sizeLine;decide),fun t ht=>⟨t,rfl,ht,?_⟩⟩
 ·rw[zX1,zW6 hj,zW8,zW6 hj];rfl
 ·simp[keyOf]
def rR (ns zs ms:List Int):Prop:=ms.Perm ns/\ms.Pairwise fun m k=>lx (keyOf zs k) (keyOf zs m)=false
theorem za1 {ns zs:List Int}{vs out:List Value}(r:Vals (ns.map V.int) vs)(h:Srt vs (ns.map (keyOf zs)) out):∃ms,rR ns zs ms/\Vals (ms.map V.int) out:=by
 obtain⟨ix,rfl,hl,hb,hp,hw⟩:=h;have at_:∀i∈ix,at2 (ns.map (keyOf zs)) i=keyOf zs (ns.getD i 0):=fun i hi=>by
  have:=hb i hi;rw[zW3] at this;unfold at2;rw[zW8,zX1,zW6 this,zW8,zW6 this];rfl
 have em:ix.map (at2 (ns.map (keyOf zs)))=(ix.map fun i=>ns.getD i 0).map (keyOf zs):=by
  rw[zZ6];exact z87 at_
 rw[em] at hp hw;have inv:∀l:List Int,(l.map (keyOf zs)).map (fun q=>-q.2)=l:=fun l=>by
  rw[zZ6];have:((fun q:Int×Int=>-q.2)∘keyOf zs)=id:=by funext n;simp[keyOf]
  rw[this,List.map_id]
 refine⟨ix.map fun i=>ns.getD i 0,⟨?_,List.pairwise_map.mp hw⟩,?_⟩
 ·have:=hp.map (fun q=>-q.2)
  rwa [inv,inv] at this
 ·clear em hp hw hl
  induction ix with
  |nil=>exact .nil
  |cons i ix ih=>
   refine .cons ?_ (ih (fun k hk=>hb k (zX3 _ hk)) fun k hk=>at_ k (zX3 _ hk));have hi:=hb i zX7;rw[zW3] at hi;refine kg r i _ ?_;show _=some (V.int (ns.getD i 0));rw[zX1,zW6 hi,zW8,zW6 hi];rfl
theorem vf {K:PySem.W.Frag}{H H':Hp}{a:Addr}{xs:List V}(h:SqL K H a xs)(k:∀a o,(∀ps,o≠.tbl ps)->H a=some o->H' a=some o):SqL K H' a xs:=by
 rcases h with (h|⟨o,h⟩)|h
 ·exact .inl (.inl (k _ _ (fun _ z=>by cases z) h))
 ·exact .inl (.inr ⟨o,k _ _ (fun _ z=>by cases z) h⟩)
 ·exact .inr h
theorem ib {ta:TE}{j k:Nat}{c:Addr}(S:wV x y params scope)(hr:zX (k+2) X.A)(hg:Gl X "sorted")(hm:X.mg "sorted"=none)(hN:X.N[j]?=some y)(hy:X.env.scope.names.lookup y=some .cell)
  (hcl:∀cl,X.env.cells.lookup y=some cl->closureFor scope X.env=pure [(y,cl)]) (hgl:X.env.globals=mainGlobals) (hco:X.env.code=.ref c) (hhd:PySem.W.CodeHd X.base c yL) (hbi:X.base.BuiltinsAt X.mg yL) (hdf:defaultsOf params X.env=([],[])) (hq:X.env.qual++("<lambda>":Str)=wu) (hne:mainGlobals≠yL)
  (hb:∀u cl c' pm ctv,bindArgs (PySem.W.kla_fn "<lambda>" wu params (pairE x y n1 p1 p2 p3 p4 p5 p6) scope [(y,cl)] pm (.ref c') ctv) ⟨[u],[]⟩=pure [(x,u)])
  (hdx:(x == ("__debug__":Str))=false) (hdy:(y == ("__debug__":Str))=false) (hcx:(x == ("__classdict__":Str))=false) (hcy:(y == ("__classdict__":Str))=false) (ha:PE X a ta)
  (he:starEach [a] X.env=(false,eval a X.env)::starEach [] X.env:=by rfl) (he2:backTo pos (starEach [a] X.env)=(false,eval a X.env)::backTo pos (starEach [] X.env):=by rfl) (hpl:((backTo pos (starEach [a] X.env)).any fun x=>x.1)=false:=by rfl):
  PE X (.Call (.Name "sorted" p) [a] [⟨some "key",.Lambda params (pairE x y n1 p1 p2 p3 p4 p5 p6) scope lpos,kpos⟩] pos)
   (fun σ H Q=>ta σ H fun v H1=>∃l ns lp zs,v=.ref l/\SqL X.K H1 l (ns.map V.int)/\σ[j]?=some (some (.ref lp))/\SqL X.K H1 lp (zs.map V.int)/\ns.length<64/\(∀n∈ns,0<=n/\n<zs.length)/\TabAt H1/\
    ∀D H' ms,H1 D=none->H' D=some (.lst (ms.map V.int))->rR ns zs ms->TabAt H'->(∀a o,a≠yL->H1 a=some o->H' a=some o)->Q (.ref D) H'):=by
 intro pins s σ H Q I h;refine z89 (xx I hg hm boot_sorted ?_)
 let Pd:V->Hp->Prop:=fun v H1=>∃l ns lp zs,v=.ref l/\SqL X.K H1 l (ns.map V.int)/\σ[j]?=some (some (.ref lp))/\SqL X.K H1 lp (zs.map V.int)/\ns.length<64/\(∀n∈ns,0<=n/\n<zs.length)/\TabAt H1/\
    ∀D H' ms,H1 D=none->H' D=some (.lst (ms.map V.int))->rR ns zs ms->TabAt H'->(∀a o,a≠yL->H1 a=some o->H' a=some o)->Q (.ref D) H'
 refine callWith_kw (thn (zd ha zw he pos pins s σ H (fun vs H1=>match vs with|[v]=>Pd v H1|_=>False) I h) fun us s1 ⟨vs,H1,I1,r1,q1⟩=>?_) he2 hpl
 match vs,r1,q1 with
 |[v],r1,q1=>
  obtain⟨u,rfl,ru⟩:=vals1 r1;obtain⟨l,ns,lp,zs,rfl,hS,hσ,hZ,h64,hin,T,q⟩:=(show Pd v H1 from q1);obtain⟨m,hn,hl⟩:=id I1.loc;obtain⟨ul,rl,lk⟩:=hl j y _ hN hσ (.inr (.inl hy));obtain⟨cl,ecl,hcell⟩:∃cl,X.env.cells.lookup y=some cl/\s1.heap.IsCell cl (some ul):=by
   rcases lk with ⟨z,_⟩|⟨_,cl,z1,z2⟩
   ·have z:X.env.scope.names.lookup y=some .local:=z;rw[hy] at z;cases z
   ·exact⟨cl,z1,z2⟩
  show wpAny _ _ (evalAll ((do let v <-eval (.Lambda params (pairE x y n1 p1 p2 p3 p4 p5 p6) scope lpos) X.env;standAt pos;pure v)::[])) _ _ s1;refine wpAny_evalAll_cons (zW4 (zi3 I1 (hcl cl ecl) hgl hco hhd hbi hdf hq hne T fun f c' H2 s2 I2 T2 st2 tb2 hf hlam hcode=>zW4 (wpAny_standAt (zX6 (wpAny_evalAll_nil ?_)))));cases ru;show wpAny _ _ (call (.builtin "sorted") [.ref l] [("key",.ref f)]) _ _ s2;have st3:∀a o,(∀ps,o≠.tbl ps)->H1 a=some o->H2 a=some o:=fun a o no e=>st2 a o (fun z=>by
   obtain⟨ps,t1,_⟩:=T.ex;rw[z,t1] at e;cases e;exact no _ rfl) e
  have S2:=vf hS st3;have Z2:=vf hZ st3;obtain⟨its,r,ht,hz⟩:=I2.list S2;have lenI:its.length=ns.length:=by rw[<-r.length,zW3]
  refine oG (ps:=ns.map (keyOf zs)) I2 ht.isList (by rw[zW3];exact lenI) (by omega) (fun i v hv H3 s3 I3 st3=>?_) fun D out H' s' c0 lD so I' st e fD fp=>?_
  ·have hi:i<ns.length:=by rw[<-lenI];exact (zW7.mp hv).1
   have rv:RelV (.int ns[i]) v:=by
    have:=kg r i (.int ns[i]) (by rw[zX1,zW6 hi];rfl)
    rwa [zW8,hv] at this
   obtain⟨m3,hn3,hl3⟩:=id I3.loc;obtain⟨ul3,rl3,lk3⟩:=hl3 j y _ hN hσ (.inr (.inl hy));have cell3:s3.heap.IsCell cl (some ul3):=by
    rcases lk3 with ⟨z,_⟩|⟨_,cl3,z1,z2⟩
    ·have z:X.env.scope.names.lookup y=some .local:=z;rw[hy] at z;cases z
    ·rw[ecl] at z1;cases z1;exact z2
   have hb3:=hin ns[i] (z28 hi);have ek:at2 (ns.map (keyOf zs)) i=keyOf zs ns[i]:=by
    unfold at2;rw[zW8,zX1,zW6 hi];rfl
   rw[ek];have Z3:=vf Z2 fun a o _ e=>st3 a o e;refine wpAny_call (yd2 (zn2 S hr.in1.in1 I3.env0.in1.in1 (st3 _ _ hlam) (st3 _ _ hcode) cell3 (I3.freeC y cl ecl) rv rl3 (fun pm ctv=>hb _ _ _ pm ctv) hdx hdy hcx hcy Z3 hb3.1 hb3.2) fun rr s4 hq4=>?_);cases rr with
   |error e=>exact False.elim hq4
   |ok fl=>
    cases fl with
    |next=>exact False.elim hq4
    |brk=>exact False.elim hq4
    |cont=>exact False.elim hq4
    |ret u4=>
     obtain⟨v4,H4,os,bare,un,hok,r4,t,rfl,ht4,eH4⟩:=hq4;cases r4;obtain⟨hh,g,d,tk,os'⟩:=s4;obtain rfl:os'=s3.os:=os;refine⟨t,H4,rfl,I3.call (h':=hh) (g':=g) (d':=d) (t':=tk) (ch:=[]) un hok bare (fun b z=>absurd z (by simp)),fun a o e=>?_,by rw[eH4];exact zk,fun b o e n nf=>⟨un.keep b o e n nf (by simp),un.free b o e n (by simp)⟩⟩;rw[eH4,zg (zo e ht4)];exact e
  ·obtain⟨ms,sm,rm⟩:=za1 r so;have nD:∀a o,H' a=some o->a≠D:=fun a o e z=>by rw[z,fD] at e;cases e
   have h2D:H2 D=none:=I2.hok.fresh lD;have stD:∀a o,H2 a=some o->upd H' D (.lst (ms.map V.int)) a=some o:=fun a o e=>by rw[zg (nD a o (st a o e))];exact st a o e
   refine⟨.ref D,upd H' D (.lst (ms.map V.int)),I'.adopt fp ⟨?_,out,c0,rm,e⟩,rfl,q D _ ms ?_ zk sm (T2.same fun a o _ e=>stD a o e) fun a o no e=>stD a o (st2 a o no e)⟩
   ·rw[zW3,sm.1.length_eq,z34];omega
   ·cases z:H1 D with
    |none=>rfl
    |some o=>
     by_cases nt:∀ps,o≠.tbl ps
     ·rw[st3 D o nt z] at h2D;cases h2D
     ·simp only[Classical.not_forall,Classical.not_not] at nt;obtain⟨qs,rfl⟩:=nt;obtain⟨qs',w'⟩:=tb2 D qs z;rw[w'] at h2D;cases h2D
end
section
variable {X:Cx}{α:Ev}{p q pos:Pos}{a b:Expr}
theorem qz {G:Hp}:∀ns:List Int,AVs G (ns.map V.int) (ns.map .int)
 |[]=>.nil
 |n::ns=>.cons (.int n) (qz ns)
theorem aY {Q:List PyData->Prop}(hc:X.calm=true)(hg:Gl X "list")(hm:X.mg "list"=none)(hg2:Gl X "range")(hm2:X.mg "range"=none)(h:EvD X α a fun x=>EvD X α b fun y=>∃i j,x=.int i/\y=.int j/\(-(2 ^ 62)<=i/\i<2 ^ 62/\-(2 ^ 62)<=j/\j<2 ^ 62)/\(j-i).toNat<=1000/\Q ((zp i (j-i).toNat).map .int))
  (he:starEach [.Call (.Name "range" q) [a,b] [] p] X.env=(false,eval (.Call (.Name "range" q) [a,b] [] p) X.env)::starEach [] X.env:=by rfl) (he2:starEach [a,b] X.env=(false,eval a X.env)::starEach [b] X.env:=by rfl) (he3:starEach [b] X.env=(false,eval b X.env)::starEach [] X.env:=by rfl)
  (hpl:(backTo p (starEach [b] X.env)).any (·.1)=false:=by rfl) {p0:Pos}:EvL X α (.Call (.Name "list" p0) [.Call (.Name "range" q) [a,b] [] p] [] pos) Q:=fun F σ H R m k=>by
 refine⟨_,xX (pf hc) hg hm boot_list (zd (xX lh hg2 hm2 boot_range (zd zj (zd zj zw he3) he2) (he:=he2) (hpl:=hpl)) zw he) (he:=he),?_⟩;refine h F σ H _ m fun x vx H1 q1 t1 k1 r1=>?_;have m1:=m.kz k1 t1;refine q1 F σ H1 _ m1 fun y vy H2 q2 t2 k2 r2=>?_;have m2:=m1.kz k2 t2;obtain⟨i,j,rfl,rfl,⟨b1,b2,b3,b4⟩,hz,q⟩:=q2;cases r1.int_inv;cases r2.int_inv;refine⟨i,j,rfl,fun r hr=>?_⟩;refine⟨r,i,j,rfl,zk,⟨b1,b2,b3,b4⟩,z48 (yW hz),by omega,fun l hl=>?_⟩;have nlr:l≠r:=fun z=>by rw[z,zk] at hl;cases hl
 have hl':H2 l=none:=by rw[zg nlr] at hl;exact hl
 have kk:=k1.trans k2;have s1:zB H2 (upd (upd H2 r (.rng i j)) l (.lst ((zp i (j-i).toNat).map V.int))):=(yB hr).trans (yB hl);refine k _ _ _ q (t2.same s1) (kk.trans (Kz.of_same s1)) ⟨l,_,rfl,?_,zk,qz _⟩;cases z:H l with
 |none=>rfl
 |some o=>rw[kk l o z (m.tp.nt (ow0 (m2.fresh hl')))] at hl';cases hl'
end
section
variable {X:Cx}{α:Ev}{p pos:Pos}{a b:Expr}{Q:PyData->Prop}
end
theorem AVs.ints {H:Hp}:∀{xs:List V} {ns:List Int},AVs H xs (ns.map .int)->xs=ns.map V.int
 |_,[],.nil=>rfl
 |_,n::ns,.cons h hs=>by rw[zY2,AVs.ints hs,h.int_inv]
section
variable {X:Cx}{α:Ev}{a:Expr}{p pos kpos lpos p1 p2 p3 p4 p5 p6:Pos}{n1:Nat}{x y:Str}{params:Arguments}{scope:Scope}
structure zk4 (X:Cx)(c:Addr)(x y:Str)(n1:Nat)(p1 p2 p3 p4 p5 p6:Pos)(params:Arguments)(scope:Scope):Prop where
 S:wV x y params scope
 hy:X.env.scope.names.lookup y=some .cell
 hcl:∀cl,X.env.cells.lookup y=some cl->closureFor scope X.env=pure [(y,cl)]
 hgl:X.env.globals=mainGlobals
 hco:X.env.code=.ref c
 hhd:PySem.W.CodeHd X.base c yL
 hbi:X.base.BuiltinsAt X.mg yL
 hdf:defaultsOf params X.env=([],[])
 hq:X.env.qual++("<lambda>":Str)=wu
 hne:mainGlobals≠yL
 hb:∀u cl c' pm ctv,bindArgs (PySem.W.kla_fn "<lambda>" wu params (pairE x y n1 p1 p2 p3 p4 p5 p6) scope [(y,cl)] pm (.ref c') ctv) ⟨[u],[]⟩=pure [(x,u)]
 hdx:(x == ("__debug__":Str))=false
 hdy:(y == ("__debug__":Str))=false
 hcx:(x == ("__classdict__":Str))=false
 hcy:(y == ("__classdict__":Str))=false
theorem jN {j k:Nat}{c:Addr}{Q:List PyData->Prop}(T:zk4 X c x y n1 p1 p2 p3 p4 p5 p6 params scope)(hr:zX (k+2) X.A)(hg:Gl X "sorted")(hm:X.mg "sorted"=none)(hN:X.N[j]?=some y)
  (h:EvD X α a fun d=>∃ns zs:List Int,d=.list (ns.map .int)/\α[j]?=some (some (.dat (.list (zs.map .int))))/\ns.length<64/\(∀n∈ns,0<=n/\n<zs.length)/\∀ms,rR ns zs ms->Q (ms.map .int))
  (he:starEach [a] X.env=(false,eval a X.env)::starEach [] X.env:=by rfl) (he2:backTo pos (starEach [a] X.env)=(false,eval a X.env)::backTo pos (starEach [] X.env):=by rfl) (hpl:((backTo pos (starEach [a] X.env)).any fun x=>x.1)=false:=by rfl):
  EvL X α (.Call (.Name "sorted" p) [a] [⟨some "key",.Lambda params (pairE x y n1 p1 p2 p3 p4 p5 p6) scope lpos,kpos⟩] pos) Q:=fun F σ H R m k=>by
 refine⟨_,ib (j:=j) T.S hr hg hm hN T.hy T.hcl T.hgl T.hco T.hhd T.hbi T.hdf T.hq T.hne T.hb T.hdx T.hdy T.hcx T.hcy zj he he2 hpl,?_⟩;refine h F σ H _ m fun d vx H1 q1 t1 k1 r1=>?_;have m1:=m.kz k1 t1;obtain⟨ns,zs,rfl,hz,h64,hin,q⟩:=q1;obtain⟨l,xs,rfl,g1,g2⟩:=r1.lst_inv;obtain⟨v,s1,s2⟩:=m1.dat j _ hz;obtain⟨lp,ys,rfl,g3,g4⟩:=s2.lst_inv;cases g2.ints;cases g4.ints;refine⟨l,ns,lp,zs,rfl,SqL.of (zi g1).2,s1,SqL.of (zi g3).2,h64,hin,t1.tab,fun D H' ms hD hD' sm tb kp=>?_⟩;have tl:∀a xs,H1 a=some (.lst xs)->H' a=some (.lst xs):=fun a xs e=>kp a _ (fun z=>by
  obtain⟨ps,e1,_⟩:=t1.tab.ex;rw[z,e1] at e;cases e) e
 have kz:Kz F H1 H':=fun x o e n=>kp x o n.2 e;refine k _ _ H' (q ms sm) ⟨tb,t1.ot,fun t b c e=>⟨?_,(t1 t b c e).2⟩⟩ (k1.trans kz) ⟨D,_,rfl,?_,hD',qz _⟩
 ·obtain⟨n,bs,cs,n1,e1,e2,e3,l1,l2⟩:=(t1 t b c e).1.ex;exact⟨n,bs,cs,n1,tl _ _ e1,tl _ _ e2,tl _ _ e3,l1,l2⟩
 ·cases z:H D with
  |none=>rfl
  |some o=>rw[k1 D o z (m.tp.nt (ow0 (m1.fresh hD)))] at hD;cases hD
end
section
variable {P:Program}{w:World}{K:PySem.W.Frag}{mg:Str->Option Value}{base:Heap}
theorem zU9 {x qual:Str}{st:Stmt}{f:Addr}{N ps:List Str}{k:Nat}{φ:List A->(A->Prop)->Prop}{oc:Value}{od an:Option Addr}{osl:Array (Option Value)}{kV doc pm cdv ct:Value}
  (lk:K.lookup f=some ⟨oc,od,.func (PySem.W.fnOf x qual (zV st) (zA st) (zb st) .none kV doc pm an cdv ct),osl⟩) (hcd:PySem.W.codeIn K cdv qual=true) (S:zm N ps (zb st)) (hlen:∀as Q,φ as Q->as.length=ps.length)
  (hbody:∀(A':Around) (outer:List Env) (s:Shared) (H:Hp) (E:XK) (as:List A) (Q:A->Prop),zX k (A'.deeper (envOfC qual (zb st) s.heap.objs.size f cdv))->φ as Q->
   SvS (uu CX0 P w K mg base N qual (zb st) f cdv A' outer s H E).nox (as.map some++List.replicate (N.length-as.length) none) (zA st) {nx:=fun _=>Q (.dat .none),rt:=Q}):zE P w K mg base CX0 (k+1) f (PySem.W.fnOf x qual (zV st) (zA st) (zb st) .none kV doc pm an cdv ct) ps (spA φ):=by
 refine ai lk hcd S (fun vs H Q E h=>?_) (fun A' outer s H vs Qc E hr h=>?_)
 ·obtain⟨F,as,Q',_,_,_,rv,hφ,_⟩:=h;rw[rv.length,hlen as _ hφ]
 ·obtain⟨F,as,Q',e,t,o,rv,hφ,kk⟩:=h;have:=hbody A' outer s H E as Q' hr hφ F _ H {nx:=fun _ H'=>Qc .non H',rt:=Qc} (M.start e t o rv) ⟨fun α σ H' m q=>?_,fun a v H' r q=>kk a v H' q r,fun _ _ _ _ z=>z.elim,fun _ _ _ _ z=>z.elim⟩
  ·obtain⟨t,h,q⟩:=this;exact⟨t,h.nox,q⟩
  ·exact kk _ _ _ q ⟨m.tp,m.keep,.non⟩
end
section
variable {X:Cx}{α:Ev}{Q:PyData->Prop}{a b:Expr}{pos:Pos}
end
theorem kh (c:Int)(n:Nat):zp c (n+1)=zp c n++[c+(n:Nat)]:=by simp[zp,yd6]
theorem yO {c m:Int}{n:Nat}:m∈zp c n↔c<=m/\m<c+n:=by
 simp only[zp,z06,List.mem_range]
 constructor
 ·rintro⟨i,hi,rfl⟩;omega
 ·rintro⟨h1,h2⟩;exact⟨(m-c).toNat,by omega,by omega⟩
theorem pK (c:Int):∀n:Nat,(zp c n).Nodup
 |0=>by simp[zp]
 |n+1=>by
  rw[kh,List.nodup_append];refine⟨pK c n,by simp,?_⟩;intro a ha b hb;rw[yO] at ha;simp at hb;omega
def uH (zs:List Int)(many free i:Nat)(bs:List Bool):Prop:=
 bs.length=zs.length/\(∀j,i / many*many<=j->bs.getD j false=false)/\∀k,k<i / many->∃ms:List Int,rR (zp ((k*many:Nat):Int) many) zs ms/\∀q,q<many->bs.getD (ms.getD q 0).toNat false=decide (q<free)
theorem dX (zs:List Int){many:Nat}(free:Nat):uH zs many free 0 (List.replicate zs.length false):=by
 refine⟨by simp,fun j _=>?_,fun k hk=>?_⟩
 ·rw[zW8,z62];split<;>rfl
 ·rw[Nat.zero_div] at hk;omega
theorem qJ {i many:Nat}(h:0<many)(h1:i % many+1<many):(i+1) / many=i / many/\(i+1) % many=i % many+1:=by
 have e:=ya7 i many;have e2:i+1=(i % many+1)+many*(i / many):=by omega
 constructor
 ·rw[e2,Nat.add_mul_div_left _ _ h,Nat.div_eq_of_lt h1,Nat.zero_add]
 ·rw[e2,Nat.add_mul_mod_self_left,Nat.mod_eq_of_lt h1]
theorem mJ {i many:Nat}(h:0<many)(h1:i % many+1=many):(i+1) / many=i / many+1/\(i+1) % many=0/\(i / many+1)*many=i+1:=by
 have e:=ya7 i many;have e3:many*(i / many+1)=i+1:=by rw[Nat.mul_add,Nat.mul_one];omega
 refine⟨?_,?_,?_⟩
 ·rw[<-e3,Nat.mul_div_cancel_left _ h]
 ·rw[<-e3,Nat.mul_mod_right]
 ·rw[Nat.mul_comm];exact e3
theorem bf {zs:List Int}{many free i:Nat}{bs:List Bool}(h:0<many)(h1:i % many+1<many)(m:uH zs many free i bs):uH zs many free (i+1) bs:=by
 unfold uH at *;rw[(qJ h h1).1];exact m
theorem ug {lo:Int}{n:Nat}{zs ms:List Int}(s:rR (zp lo n) zs ms){q:Nat}(h:q<n):lo<=ms.getD q 0/\ms.getD q 0<lo+n:=by
 have hl:ms.length=n:=by rw[s.1.length_eq,zc]
 have:ms.getD q 0∈ms:=by
  rw[zW8,zW6 (by omega)];exact z28 _
 exact yO.mp (s.1.mem_iff.mp this)
theorem di {zs ms:List Int}{many free i:Nat}{bs bs':List Bool}(h:0<many)(h1:i % many+1=many)(m:uH zs many free i bs)(s:rR (zp ((i / many*many:Nat):Int) many) zs ms)
  (e0:bs'.length=bs.length) (e1:∀q,q<many->bs'.getD (ms.getD q 0).toNat false=decide (q<free)) (e2:∀j,(∀q,q<many->(ms.getD q 0).toNat≠j)->bs'.getD j false=bs.getD j false):uH zs many free (i+1) bs':=by
 obtain⟨d1,d2,d3⟩:=mJ h h1;obtain⟨m1,m2,m3⟩:=m;refine⟨by rw[e0,m1],fun j hj=>?_,fun k hk=>?_⟩
 ·rw[d1,d3] at hj;have e:=ya7 i many;have e4:i / many*many=many*(i / many):=Nat.mul_comm _ _;rw[e2 j fun q hq=>?_,m2 j (by omega)];have:=ug s hq;omega
 ·rw[d1] at hk;by_cases hk2:k=i / many
  ·subst hk2;exact⟨ms,s,e1⟩
  ·obtain⟨ms2,s2,f2⟩:=m3 k (by omega);refine⟨ms2,s2,fun q hq=>?_⟩;rw[e2 _ fun q2 hq2=>?_,f2 q hq];have a1:=ug s hq2;have a2:=ug s2 hq;have:(k+1)*many<=i / many*many:=yd7 _ (by omega);rw[Nat.add_mul,Nat.one_mul] at this;omega
theorem kr (f:Nat):∀n,((List.range n).map fun q=>decide (q<f)).count true=min f n
 |0=>by simp
 |n+1=>by
  rw[yd6,zZ9,List.count_append,kr f n];by_cases h:n<f
  ·simp[h];omega
  ·simp[h];omega
theorem zs5 {α:Type}(l:List α)(d:α)(a n:Nat)(h:a+n<=l.length):(l.drop a).take n=(zp (a:Int) n).map fun m=>l.getD m.toNat d:=by
 apply List.ext_getElem
 ·simp[zc];omega
 ·intro i h1 h2;have hi:i<n:=by simpa[zc] using h2
  simp only[zp,List.getElem_take,List.getElem_drop,List.getElem_map,List.getElem_range];rw[show ((a:Int)+(i:Nat)).toNat=a+i by omega,zW8,zW6 (by omega)];rfl
theorem tK {zs ms:List Int}{lo many free:Nat}{bs:List Bool}(s:rR (zp (lo:Int) many) zs ms)(hb:lo+many<=bs.length)(h:∀q,q<many->bs.getD (ms.getD q 0).toNat false=decide (q<free))(hf:free<=many):((bs.drop lo).take many).count true=free:=by
 have hl:ms.length=many:=by rw[s.1.length_eq,zc]
 rw[zs5 bs false lo many hb,<-(s.1.map fun m=>bs.getD m.toNat false).count_eq];have:ms.map (fun m=>bs.getD m.toNat false)=(List.range many).map fun q=>decide (q<free):=by
  apply List.ext_getElem
  ·simp[hl]
  ·intro i h1 h2;have hi:i<many:=by simpa using h2
   simp only[List.getElem_map,List.getElem_range];have:=h i hi;rw[zW8 (l:=ms),zW6 (by omega)] at this;exact this
 rw[this,kr];omega
theorem zJ1 {lo:Int}{n:Nat}{zs ms:List Int}(s:rR (zp lo n) zs ms){m:Int}(h1:lo<=m)(h2:m<lo+n):∃q,q<n/\ms.getD q 0=m:=by
 have hl:ms.length=n:=by rw[s.1.length_eq,zc]
 obtain⟨q,hq,e⟩:=z98.mp (s.1.mem_iff.mpr (yO.mpr ⟨h1,h2⟩));exact⟨q,by omega,by rw[zW8,zW6 hq];exact e⟩
open PySem (IsZip)
section
variable {prog:Program}{w:World}{A:Around}{E:Value->Shared->Prop}{s:Shared}
theorem mK {M:Model}{a:Addr}{Q:Option Obj->Shared->Prop}(h:Q (s.heap.get? a) s):wpAny M A (loadIfAlive a) Q E s:=fun Γ p hΓ=>by
 show Sem.wp M Γ (.loadIfAlive a .pure) _ _ p s;rw[Sem.wp_loadIfAlive];exact h
noncomputable abbrev zO (f0 f1:Value)(TI TO:Addr):Obj:={cls:=.type "zip",dict:=none,data:=.fields #[f0,f1,.bool false,.ref TI,.ref TO],slots:=#[]}
noncomputable abbrev tO3 (a b c:Value):Obj:={cls:=.type "tuple",data:=.seq #[a,b,c]}
theorem wH {T:Addr}{a b c x:Value}{k:Nat}{Q:Unit->Shared->Prop}(hT:s.heap.get? T=some (tO3 a b c))
  (h:∀h',h'.get? T=some {cls:=.type "tuple",data:=.seq ((#[a,b,c]:Array Value).setIfInBounds k x)}->Heap.SameBut T s.heap h'->Q () {s with heap:=h'}):
  wpAny (model prog w) A (updateSeq T (·.setIfInBounds k x)) Q E s:=by
 refine z54 hT rfl (h _ ?_ (ya1 ..));rw[z96 _ hT rfl];simp[Obj.mapSeq]
structure vI (h:Heap)(n:Nat)(l1 l2 l3:Addr)(k:Nat)(f0 f1 a b c:Value):Prop where
 z:h.get? (n+5:Nat)=some (zO f0 f1 (n+3:Nat) (n+4:Nat))
 ti:h.get? (n+3:Nat)=some (tO3 (.ref (n:Nat)) (.ref (n+1:Nat)) (.ref (n+2:Nat)))
 to:h.get? (n+4:Nat)=some (tO3 a b c)
 i1:h.IsListIter (n:Nat) l1 k
 i2:h.IsListIter (n+1:Nat) l2 k
 i3:h.IsListIter (n+2:Nat) l3 k
noncomputable abbrev z3 (n:Nat):List Addr:=[(n:Nat),(n+1:Nat),(n+2:Nat),(n+3:Nat),(n+4:Nat),(n+5:Nat)]
theorem zx (a b:Nat)(h:a<b\/b<a):@Ne Addr a b:=fun e=>by
 have e:@Eq Nat a b:=e;omega
theorem iD {n l1 l2 l3:Nat}{k:Nat}{f1 a b c x y z:Value}{xs ys zs:Array Value}{Q:Value->Shared->Prop}(h1:l1<n)(h2:l2<n)(h3:l3<n)(Z:vI s.heap n l1 l2 l3 k .none f1 a b c)
  (hl1:s.heap.IsList l1 xs) (hl2:s.heap.IsList l2 ys) (hl3:s.heap.IsList l3 zs) (hx:xs[k]?=some x) (hy:ys[k]?=some y) (hz:zs[k]?=some z)
  (hQ:∀h',vI h' n l1 l2 l3 (k+1) (rawInt s.heap.objs.size) (.bool false) x y z->h'.get? s.heap.objs.size=some (tO3 x y z)->
   (∀c o,c∉z3 n->s.heap.get? c=some o->h'.get? c=some o)->Q (.ref s.heap.objs.size) {s with heap:=h'}):
  wpAny (model prog w) A (Builtin.«zip.__next__» ⟨[.ref (n+5:Nat)],[]⟩) (fun fin s'=>∃v,fin=.done (.ret v)/\Q v s') E s:=by
 obtain⟨hz0,hTI,hTO,g1,g2,g3⟩:=Z;show wpAny _ _ (field (.ref _) 2 >>= _) _ _ _;refine zW4 (z69 hz0 rfl (x:=.bool false) rfl ?_);show wpAny _ _ (field (.ref _) 3 >>= _) _ _ _;refine zW4 (z69 hz0 rfl (x:=.ref (n+3:Nat)) rfl ?_);refine zW4 (z38 hTI rfl ?_);show wpAny _ _ (Builtin.SmallTypes.ownedTupleIsFree (.ref (n+5:Nat)) >>= _) _ _ _;refine zW4 ?_;unfold Builtin.SmallTypes.ownedTupleIsFree;refine zW4 (z69 hz0 rfl (x:=.none) rfl (zX6 ?_));simp only[z88];refine zW4 (wpAny_rule ?_);refine zW4 (z69 hz0 rfl (x:=.ref (n+4:Nat)) rfl ?_);refine zW4 (yb5 hz0 (by simp) fun h₁ hz₁ hs₁=>?_)
 replace hz₁:h₁.get? (n+5:Nat)=some (zO .ellipsis f1 (n+3:Nat) (n+4:Nat)):=hz₁
 refine zW4 ?_;simp only[List.zipIdx_cons,List.zipIdx_nil,yd5,List.forIn_nil];refine zW4 (zW4 (wpAny_onRaise ?_));show wpAny _ _ (Builtin.SmallTypes.nextOf (.ref (n:Nat)) >>= _) _ _ _;refine zW4 (z56 (g1.extBut hs₁.extBut (by refine zx _ _ ?_;omega)) (hl1.extBut hs₁.extBut (by refine zx _ _ ?_;omega)) hx fun h₂ g1₂ hs₂=>zX6 ?_);have hTO₂:h₂.get? (n+4:Nat)=some (tO3 a b c):=hs₂.extBut _ _ (by refine zx _ _ ?_;omega) (hs₁.extBut _ _ (by refine zx _ _ ?_;omega) hTO);refine zW4 (z38 hTO₂ rfl ?_);refine zW4 (wH hTO₂ fun h₃ hTO₃ hs₃=>?_)
 replace hTO₃:h₃.get? (n+4:Nat)=some (tO3 x b c):=hTO₃
 refine zW4 (z68 (zX6 ?_));refine zW4 (zW4 (wpAny_onRaise ?_));show wpAny _ _ (Builtin.SmallTypes.nextOf (.ref (n+1:Nat)) >>= _) _ _ _;refine zW4 (z56 (((g2.extBut hs₁.extBut (by refine zx _ _ ?_;omega)).extBut hs₂.extBut (by refine zx _ _ ?_;omega)).extBut hs₃.extBut (by refine zx _ _ ?_;omega))
  (((hl2.extBut hs₁.extBut (by refine zx _ _ ?_;omega)).extBut hs₂.extBut (by refine zx _ _ ?_;omega)).extBut hs₃.extBut (by refine zx _ _ ?_;omega)) hy fun h₄ g2₄ hs₄=>zX6 ?_)
 have hTO₄:h₄.get? (n+4:Nat)=some (tO3 x b c):=hs₄.extBut _ _ (by refine zx _ _ ?_;omega) hTO₃;refine zW4 (z38 hTO₄ rfl ?_);refine zW4 (wH hTO₄ fun h₅ hTO₅ hs₅=>?_)
 replace hTO₅:h₅.get? (n+4:Nat)=some (tO3 x y c):=hTO₅
 refine zW4 (z68 (zX6 ?_));refine zW4 (zW4 (wpAny_onRaise ?_));show wpAny _ _ (Builtin.SmallTypes.nextOf (.ref (n+2:Nat)) >>= _) _ _ _;refine zW4 (z56 (((((g3.extBut hs₁.extBut (by refine zx _ _ ?_;omega)).extBut hs₂.extBut (by refine zx _ _ ?_;omega)).extBut hs₃.extBut (by refine zx _ _ ?_;omega)).extBut hs₄.extBut (by refine zx _ _ ?_;omega)).extBut hs₅.extBut (by refine zx _ _ ?_;omega))
  (((((hl3.extBut hs₁.extBut (by refine zx _ _ ?_;omega)).extBut hs₂.extBut (by refine zx _ _ ?_;omega)).extBut hs₃.extBut (by refine zx _ _ ?_;omega)).extBut hs₄.extBut (by refine zx _ _ ?_;omega)).extBut hs₅.extBut (by refine zx _ _ ?_;omega)) hz fun h₆ g3₆ hs₆=>zX6 ?_)
 have hTO₆:h₆.get? (n+4:Nat)=some (tO3 x y c):=hs₆.extBut _ _ (by refine zx _ _ ?_;omega) hTO₅;refine zW4 (z38 hTO₆ rfl ?_);refine zW4 (wH hTO₆ fun h₇ hTO₇ hs₇=>?_)
 replace hTO₇:h₇.get? (n+4:Nat)=some (tO3 x y z):=hTO₇
 refine zW4 (z68 (zX6 (zX6 ?_)));refine zW4 (z38 hTO₇ rfl ?_);refine zW4 (wpAny_newTuple ?_);have hsz:h₇.objs.size=s.heap.objs.size:=by rw[hs₇.1,hs₆.1,hs₅.1,hs₄.1,hs₃.1,hs₂.1,hs₁.1]
 have up7:∀c o,c≠(n+5:Nat)->c≠(n:Nat)->c≠(n+4:Nat)->c≠(n+1:Nat)->c≠(n+2:Nat)->s.heap.get? c=some o->h₇.get? c=some o:=fun c o c1 c2 c3 c4 c5 e=>
  hs₇.extBut _ _ c3 (hs₆.extBut _ _ c5 (hs₅.extBut _ _ c3 (hs₄.extBut _ _ c4 (hs₃.extBut _ _ c3 (hs₂.extBut _ _ c2 (hs₁.extBut _ _ c1 e))))))
 have hz₇:h₇.get? (n+5:Nat)=some (zO .ellipsis f1 (n+3:Nat) (n+4:Nat)):=hs₇.extBut _ _ (by refine zx _ _ ?_;omega) (hs₆.extBut _ _ (by refine zx _ _ ?_;omega) (hs₅.extBut _ _ (by refine zx _ _ ?_;omega) (hs₄.extBut _ _ (by refine zx _ _ ?_;omega) (hs₃.extBut _ _ (by refine zx _ _ ?_;omega) (hs₂.extBut _ _ (by refine zx _ _ ?_;omega) hz₁)))));have g1₇:h₇.IsListIter (n:Nat) l1 (k+1):=((((g1₂.extBut hs₃.extBut (by refine zx _ _ ?_;omega)).extBut hs₄.extBut (by refine zx _ _ ?_;omega)).extBut hs₅.extBut (by refine zx _ _ ?_;omega)).extBut hs₆.extBut (by refine zx _ _ ?_;omega)).extBut hs₇.extBut (by refine zx _ _ ?_;omega);have g2₇:h₇.IsListIter (n+1:Nat) l2 (k+1):=((g2₄.extBut hs₅.extBut (by refine zx _ _ ?_;omega)).extBut hs₆.extBut (by refine zx _ _ ?_;omega)).extBut hs₇.extBut (by refine zx _ _ ?_;omega);have g3₇:h₇.IsListIter (n+2:Nat) l3 (k+1):=g3₆.extBut hs₇.extBut (by refine zx _ _ ?_;omega);have hTI₇:=up7 _ _ (by refine zx _ _ ?_;omega) (by refine zx _ _ ?_;omega) (by refine zx _ _ ?_;omega) (by refine zx _ _ ?_;omega) (by refine zx _ _ ?_;omega) hTI;have hzlt:(n+5:Nat)<h₇.objs.size:=zX2 hz₇;show wpAny _ _ (Builtin.SmallTypes.ownedTupleHandOut (.ref (n+5:Nat)) (.ref h₇.objs.size) >>= _) _ _ _;refine zW4 ?_;unfold Builtin.SmallTypes.ownedTupleHandOut;have hz₈:(h₇.push {cls:=.type "tuple",data:=.seq #[x,y,z]}).get? (n+5:Nat)=some (zO .ellipsis f1 (n+3:Nat) (n+4:Nat)):=zW5 _ hz₇;refine zW4 (yb5 hz₈ (by simp) fun h₉ hz₉ hs₉=>?_)
 replace hz₉:h₉.get? (n+5:Nat)=some (zO (rawInt h₇.objs.size) f1 (n+3:Nat) (n+4:Nat)):=hz₉
 refine yb5 hz₉ (by simp) fun hA hzA hsA=>?_
 replace hzA:hA.get? (n+5:Nat)=some (zO (rawInt h₇.objs.size) (.bool false) (n+3:Nat) (n+4:Nat)):=hzA
 have up:∀c o,c≠(n+5:Nat)->h₇.get? c=some o->hA.get? c=some o:=fun c o c1 e=>hsA.extBut _ _ c1 (hs₉.extBut _ _ c1 (zW5 _ e));have hTA:hA.get? h₇.objs.size=some (tO3 x y z):=hsA.extBut _ _ (z83 hzlt) (hs₉.extBut _ _ (z83 hzlt) (zX4 _ rfl));rw[hsz] at hzA hTA;refine zX6 ⟨_,rfl,?_⟩;show Q (.ref h₇.objs.size) _;rw[hsz];refine hQ hA ⟨hzA,up _ _ (by refine zx _ _ ?_;omega) hTI₇,up _ _ (by refine zx _ _ ?_;omega) hTO₇,g1₇.at fun o e=>up _ o (by refine zx _ _ ?_;omega) e,g2₇.at fun o e=>up _ o (by refine zx _ _ ?_;omega) e,g3₇.at fun o e=>up _ o (by refine zx _ _ ?_;omega) e⟩ hTA fun c o hc e=>?_;simp only[z3,zX0,zY3,z07,not_or] at hc;exact up c o hc.2.2.2.2.2 (up7 c o hc.2.2.2.2.2 hc.1 hc.2.2.2.2.1 hc.2.1 hc.2.2.1 e)
theorem oz {n l1 l2 l3 k T:Nat}{f1 a b c:Value}{ot:Obj}{Q:Bool->Shared->Prop}(h1:l1<n)(h2:l2<n)(h3:l3<n)(Z:vI s.heap n l1 l2 l3 k (rawInt (T:Nat)) f1 a b c)(hT:s.heap.get? T=some ot)
  (hQ:∀h' f1',vI h' n l1 l2 l3 k (rawInt (T:Nat)) f1' a b c->h'.objs.size=s.heap.objs.size->(∀c o,c≠(n+5:Nat)->s.heap.get? c=some o->h'.get? c=some o)->Q false {s with heap:=h'}):
  wpAny (model prog w) A (Builtin.SmallTypes.ownedTupleIsFree (.ref (n+5:Nat))) Q E s:=by
 obtain⟨hz0,hTI,hTO,g1,g2,g3⟩:=Z;unfold Builtin.SmallTypes.ownedTupleIsFree;refine zW4 (z69 hz0 rfl (x:=rawInt (T:Nat)) rfl ?_);show wpAny _ _ (loadIfAlive ((T:Int).toNat) >>= _) _ _ _;refine zW4 (mK ?_);rw[show ((T:Int).toNat)=T from z30 T,hT];show wpAny _ _ (field (.ref (n+5:Nat)) 1 >>= _) _ _ _;refine zW4 (z69 hz0 rfl (x:=f1) rfl ?_);refine z91 (fun _=>?_) (fun _=>?_)
 ·refine zW4 (yb5 hz0 (by simp) fun h₁ hz₁ hs₁=>zX6 ?_)
  replace hz₁:h₁.get? (n+5:Nat)=some (zO (rawInt (T:Nat)) (.bool true) (n+3:Nat) (n+4:Nat)):=hz₁
  exact hQ h₁ _ ⟨hz₁,hs₁.extBut _ _ (by refine zx _ _ ?_;omega) hTI,hs₁.extBut _ _ (by refine zx _ _ ?_;omega) hTO,g1.extBut hs₁.extBut (by refine zx _ _ ?_;omega),g2.extBut hs₁.extBut (by refine zx _ _ ?_;omega),g3.extBut hs₁.extBut (by refine zx _ _ ?_;omega)⟩ hs₁.1 fun c o hc e=>hs₁.extBut _ _ hc e
 ·exact zX6 (hQ s.heap f1 ⟨hz0,hTI,hTO,g1,g2,g3⟩ rfl fun _ _ _ e=>e)
theorem eN {n l1 l2 l3 k T:Nat}{f1 a b c x y z:Value}{ot:Obj}{xs ys zs:Array Value}{Q:Value->Shared->Prop}(h1:l1<n)(h2:l2<n)(h3:l3<n)(Z:vI s.heap n l1 l2 l3 k (rawInt (T:Nat)) f1 a b c)(hT:s.heap.get? T=some ot)
  (hl1:s.heap.IsList l1 xs) (hl2:s.heap.IsList l2 ys) (hl3:s.heap.IsList l3 zs) (hx:xs[k]?=some x) (hy:ys[k]?=some y) (hz:zs[k]?=some z)
  (hQ:∀h' f1',vI h' n l1 l2 l3 (k+1) (rawInt (T:Nat)) f1' a b c->h'.get? s.heap.objs.size=some (tO3 x y z)->
   (∀c o,c∉z3 n->s.heap.get? c=some o->h'.get? c=some o)->Q (.ref s.heap.objs.size) {s with heap:=h'}):
  wpAny (model prog w) A (Builtin.«zip.__next__» ⟨[.ref (n+5:Nat)],[]⟩) (fun fin s'=>∃v,fin=.done (.ret v)/\Q v s') E s:=by
 show wpAny _ _ (field (.ref _) 2 >>= _) _ _ _;refine zW4 (z69 Z.z rfl (x:=.bool false) rfl ?_);show wpAny _ _ (field (.ref _) 3 >>= _) _ _ _;refine zW4 (z69 Z.z rfl (x:=.ref (n+3:Nat)) rfl ?_);refine zW4 (z38 Z.ti rfl ?_);show wpAny _ _ (Builtin.SmallTypes.ownedTupleIsFree (.ref (n+5:Nat)) >>= _) _ _ _;refine zW4 (oz h1 h2 h3 Z hT fun hB f1' ZB szB kB=>?_);obtain⟨hz0,hTI,hTO,g1,g2,g3⟩:=ZB
 replace hl1:hB.IsList l1 xs:=hl1.at fun o e=>kB _ o (by refine zx _ _ ?_;omega) e
 replace hl2:hB.IsList l2 ys:=hl2.at fun o e=>kB _ o (by refine zx _ _ ?_;omega) e
 replace hl3:hB.IsList l3 zs:=hl3.at fun o e=>kB _ o (by refine zx _ _ ?_;omega) e
 simp only[z05,z57];rw[ye4];simp only[yd5,List.forIn_nil];refine zW4 (zW4 (zW4 (z36 ?_)));show wpAny _ _ (Builtin.SmallTypes.nextOf (.ref (n:Nat)) >>= _) _ _ _;refine zW4 (z56 g1 hl1 hx fun h₂ g1₂ hs₂=>zX6 (zX6 ?_));refine zW4 (zW4 (z36 ?_));show wpAny _ _ (Builtin.SmallTypes.nextOf (.ref (n+1:Nat)) >>= _) _ _ _;refine zW4 (z56 (g2.extBut hs₂.extBut (by refine zx _ _ ?_;omega)) (hl2.extBut hs₂.extBut (by refine zx _ _ ?_;omega)) hy fun h₄ g2₄ hs₄=>zX6 (zX6 ?_));refine zW4 (zW4 (z36 ?_));show wpAny _ _ (Builtin.SmallTypes.nextOf (.ref (n+2:Nat)) >>= _) _ _ _;refine zW4 (z56 ((g3.extBut hs₂.extBut (by refine zx _ _ ?_;omega)).extBut hs₄.extBut (by refine zx _ _ ?_;omega)) ((hl3.extBut hs₂.extBut (by refine zx _ _ ?_;omega)).extBut hs₄.extBut (by refine zx _ _ ?_;omega)) hz fun h₆ g3₆ hs₆=>zX6 (zX6 (zX6 ?_)));refine zW4 (wpAny_newTuple ?_ (by show 3<=sizeLine;decide));have hsz:h₆.objs.size=s.heap.objs.size:=by rw[hs₆.1,hs₄.1,hs₂.1];exact szB
 have up6:∀c o,c≠(n:Nat)->c≠(n+1:Nat)->c≠(n+2:Nat)->hB.get? c=some o->h₆.get? c=some o:=fun c o c1 c2 c3 e=>hs₆.extBut _ _ c3 (hs₄.extBut _ _ c2 (hs₂.extBut _ _ c1 e));have up:∀c o,h₆.get? c=some o->(h₆.push {cls:=.type "tuple",data:=.seq #[x,y,z]}).get? c=some o:=fun c o e=>zW5 _ e;have g1₆:h₆.IsListIter (n:Nat) l1 (k+1):=(g1₂.extBut hs₄.extBut (by refine zx _ _ ?_;omega)).extBut hs₆.extBut (by refine zx _ _ ?_;omega);have g2₆:h₆.IsListIter (n+1:Nat) l2 (k+1):=g2₄.extBut hs₆.extBut (by refine zx _ _ ?_;omega);refine zX6 ⟨_,rfl,?_⟩;show Q (.ref h₆.objs.size) _;rw[hsz];refine hQ _ f1' ⟨up _ _ (up6 _ _ (by refine zx _ _ ?_;omega) (by refine zx _ _ ?_;omega) (by refine zx _ _ ?_;omega) hz0),up _ _ (up6 _ _ (by refine zx _ _ ?_;omega) (by refine zx _ _ ?_;omega) (by refine zx _ _ ?_;omega) hTI),up _ _ (up6 _ _ (by refine zx _ _ ?_;omega) (by refine zx _ _ ?_;omega) (by refine zx _ _ ?_;omega) hTO),g1₆.at fun o e=>up _ o e,g2₆.at fun o e=>up _ o e,g3₆.at fun o e=>up _ o e⟩ ?_ fun c o hc e=>?_
 ·rw[<-hsz];exact zX4 _ rfl
 ·simp only[z3,zX0,zY3,z07,not_or] at hc;exact up c o (up6 c o hc.1 hc.2.1 hc.2.2.1 (kB c o hc.2.2.2.2.2 e))
theorem aE {n l1 l2 l3 k T:Nat}{f1 a b c:Value}{ot:Obj}{xs:Array Value}{Q:PySem.Fin->Shared->Prop}(hh:A.handled=none)(h1:l1<n)(h2:l2<n)(h3:l3<n)(Z:vI s.heap n l1 l2 l3 k (rawInt (T:Nat)) f1 a b c)(hT:s.heap.get? T=some ot)
  (hl1:s.heap.IsList l1 xs) (hx:xs[k]?=none)
  (hE:∀h' e,(∀c o,c∉z3 n->s.heap.get? c=some o->h'.get? c=some o)->(∃o,h'.get? e=some o/\o.cls=.type "StopIteration")->E (.ref e) {s with heap:=h'}):
  wpAny (model prog w) A (Builtin.«zip.__next__» ⟨[.ref (n+5:Nat)],[]⟩) Q E s:=by
 show wpAny _ _ (field (.ref _) 2 >>= _) _ _ _;refine zW4 (z69 Z.z rfl (x:=.bool false) rfl ?_);show wpAny _ _ (field (.ref _) 3 >>= _) _ _ _;refine zW4 (z69 Z.z rfl (x:=.ref (n+3:Nat)) rfl ?_);refine zW4 (z38 Z.ti rfl ?_);show wpAny _ _ (Builtin.SmallTypes.ownedTupleIsFree (.ref (n+5:Nat)) >>= _) _ _ _;refine zW4 (oz h1 h2 h3 Z hT fun hB f1' ZB szB kB=>?_)
 replace hl1:hB.IsList l1 xs:=hl1.at fun o e=>kB _ o (by refine zx _ _ ?_;omega) e
 simp only[z05,z57];rw[ye4];simp only[yd5,List.forIn_nil];refine zW4 (zW4 (zW4 (z36 ?_)));show wpAny _ _ (Builtin.SmallTypes.nextOf (.ref (n:Nat)) >>= _) _ _ _;refine zW4 (wpAny_nextOf_list_end hh ZB.i1 hl1 hx fun h₂ e hs₂ he=>?_);refine hE h₂ e (fun c o hc q=>?_) he;simp only[z3,zX0,zY3,z07,not_or] at hc;exact hs₂ _ _ hc.1 (kB _ _ hc.2.2.2.2.2 q)
theorem lL {n l1 l2 l3 k:Nat}{f1 a b c x y z:Value}{xs ys zs:Array Value}{Q:Option Value->Shared->Prop}(h1:l1<n)(h2:l2<n)(h3:l3<n)(Z:vI s.heap n l1 l2 l3 k .none f1 a b c)
  (hl1:s.heap.IsList l1 xs) (hl2:s.heap.IsList l2 ys) (hl3:s.heap.IsList l3 zs) (hx:xs[k]?=some x) (hy:ys[k]?=some y) (hz:zs[k]?=some z)
  (hQ:∀h',vI h' n l1 l2 l3 (k+1) (rawInt s.heap.objs.size) (.bool false) x y z->h'.get? s.heap.objs.size=some (tO3 x y z)->
   (∀c o,c∉z3 n->s.heap.get? c=some o->h'.get? c=some o)->Q (some (.ref s.heap.objs.size)) {s with heap:=h'}):
  wpAny (model prog w) A (pyNext (.ref (n+5:Nat))) Q E s:=by
 have hT:s.TypeIs (.ref (n+5:Nat)) "zip":=⟨_,Z.z,rfl⟩;unfold pyNext;exact zW4 (wpAny_attempt (yb9 (name:=Str.ofString "__next__") hT z47
  (yc7 z47 hT yc2
   (iD h1 h2 h3 Z hl1 hl2 hl3 hx hy hz fun h' a1 a2 a3=>zX6 (hQ h' a1 a2 a3)) (yc0 _))))
theorem iy {n l1 l2 l3 k T:Nat}{f1 a b c x y z:Value}{ot:Obj}{xs ys zs:Array Value}{Q:Option Value->Shared->Prop}(h1:l1<n)(h2:l2<n)(h3:l3<n)(Z:vI s.heap n l1 l2 l3 k (rawInt (T:Nat)) f1 a b c)(hT:s.heap.get? T=some ot)
  (hl1:s.heap.IsList l1 xs) (hl2:s.heap.IsList l2 ys) (hl3:s.heap.IsList l3 zs) (hx:xs[k]?=some x) (hy:ys[k]?=some y) (hz:zs[k]?=some z)
  (hQ:∀h' f1',vI h' n l1 l2 l3 (k+1) (rawInt (T:Nat)) f1' a b c->h'.get? s.heap.objs.size=some (tO3 x y z)->
   (∀c o,c∉z3 n->s.heap.get? c=some o->h'.get? c=some o)->Q (some (.ref s.heap.objs.size)) {s with heap:=h'}):
  wpAny (model prog w) A (pyNext (.ref (n+5:Nat))) Q E s:=by
 have hT':s.TypeIs (.ref (n+5:Nat)) "zip":=⟨_,Z.z,rfl⟩;unfold pyNext;exact zW4 (wpAny_attempt (yb9 (name:=Str.ofString "__next__") hT' z47
  (yc7 z47 hT' yc2
   (eN h1 h2 h3 Z hT hl1 hl2 hl3 hx hy hz fun h' f1' a1 a2 a3=>zX6 (hQ h' f1' a1 a2 a3)) (yc0 _))))
theorem eQ {n l1 l2 l3 k T:Nat}{f1 a b c:Value}{ot:Obj}{xs:Array Value}{Q:Option Value->Shared->Prop}(hh:A.handled=none)(h1:l1<n)(h2:l2<n)(h3:l3<n)(Z:vI s.heap n l1 l2 l3 k (rawInt (T:Nat)) f1 a b c)(hT:s.heap.get? T=some ot)
  (hl1:s.heap.IsList l1 xs) (hx:xs[k]?=none)
  (hQ:∀h',(∀c o,c∉z3 n->s.heap.get? c=some o->h'.get? c=some o)->Q none {s with heap:=h'}):
  wpAny (model prog w) A (pyNext (.ref (n+5:Nat))) Q E s:=by
 have hT':s.TypeIs (.ref (n+5:Nat)) "zip":=⟨_,Z.z,rfl⟩;unfold pyNext;refine zW4 (wpAny_attempt (yb9 (name:=Str.ofString "__next__") hT' z47
  (yc7 z47 hT' yc2 (aE hh h1 h2 h3 Z hT hl1 hx fun h' e hk he=>?_) (yc0 _))))
 obtain⟨o,ho,hc⟩:=he;refine zW4 (wpAny_isInstance (T:="StopIteration") (b:=true) ⟨o,ho,hc⟩ isSubtype_stop ?_);exact zX6 (hQ _ hk)
end
section
variable {X:Cx}{pins:List (Addr×Obj)}{σ:St}{H:Hp}{s:Shared}
def Tri (H0 H:Hp)(xs ys zs vs:List V)(i:Nat):Prop:=vs.length=i/\∀j,j<i->∃t x y z,vs[j]?=some (.ref t)/\xs[j]?=some x/\ys[j]?=some y/\zs[j]?=some z/\H t=some (.tup [x,y,z])/\H0 t=none
structure ZAt (X:Cx)(pins:List (Addr×Obj))(σ:St)(H:Hp)(n l1 l2 l3:Nat)(S:Addr)(xs ys zs:List V)(i:Nat)(s':Shared):Prop where
 ex:∃(H':Hp) (acc:List Value) (vs:List V) (e:Nat) (f0 f1 a b c:Value),Inv X pins σ H' s'/\(∀a o,H a=some o->H' a=some o)/\s'.heap.get? S=some {cls:=.type "list",dict:=none,data:=.seq acc.toArray e,slots:=#[]}/\H' S=none/\(∀b∈z3 n,H' b=none)/\
  vI s'.heap n l1 l2 l3 i f0 f1 a b c/\(i=0/\f0=.none\/∃(T:Nat) (ot:Obj),f0=rawInt (T:Nat)/\s'.heap.get? T=some ot/\T∉S::z3 n)/\Vals vs acc/\Tri H H' xs ys zs vs i
structure zK2 (X:Cx)(pins:List (Addr×Obj))(σ:St)(H:Hp)(S:Addr)(xs ys zs:List V)(s':Shared):Prop where
 ex:∃(H':Hp) (acc:List Value) (vs:List V) (e:Nat),Inv X pins σ H' s'/\(∀a o,H a=some o->H' a=some o)/\s'.heap.get? S=some {cls:=.type "list",dict:=none,data:=.seq acc.toArray e,slots:=#[]}/\H' S=none/\Vals vs acc/\Tri H H' xs ys zs vs xs.length
theorem Tri.snoc {H0 H H':Hp}{xs ys zs vs:List V}{i:Nat}{t:Addr}{x y z:V}(h:Tri H0 H xs ys zs vs i)(k:∀a o,H a=some o->H' a=some o)(hx:xs[i]?=some x)(hy:ys[i]?=some y)(hz:zs[i]?=some z)(ht:H' t=some (.tup [x,y,z]))(hn:H0 t=none):Tri H0 H' xs ys zs (vs++[.ref t]) (i+1):=by
 refine⟨by rw[zY6,h.1];rfl,fun j hj=>?_⟩;rcases z85 j i with z'|z'
 ·obtain⟨t',x',y',z2,e1,e2,e3,e4,e5,e6⟩:=h.2 j z';exact⟨t',x',y',z2,by rw[z44 (by rw[h.1];exact z')];exact e1,e2,e3,e4,k _ _ e5,e6⟩
 ·have:j=i:=by omega
  subst this;exact⟨t,x,y,z,by rw[z74 (by rw[h.1];exact zW9 _),h.1];simp,hx,hy,hz,ht,hn⟩
theorem cc {A:Around}{R:Result->Shared->Prop}{n l1 l2 l3:Nat}{S:Addr}{xs ys zs:List V}(hh:A.handled=none)(h1:l1<n)(h2:l2<n)(h3:l3<n)(fS:∀H',H' S=none->xN X pins H' S)(fz:∀b∈z3 n,∀H',H' b=none->xN X pins H' b)(hSz:S∉z3 n)
  (q1:SqL X.K H l1 xs) (q2:SqL X.K H l2 ys) (q3:SqL X.K H l3 zs) (e2:ys.length=xs.length) (e3:zs.length=xs.length) (h0:0<xs.length) (hN:xs.length<=1000)
  (hR:∀s',zK2 X pins σ H S xs ys zs s'->R (.ok (.ret .none)) s'):
  ∀(k i:Nat) (s:Shared),xs.length-i=k->i<=xs.length->ZAt X pins σ H n l1 l2 l3 S xs ys zs i s->codeAny (model X.prog X.w) A (.builtin "list.extend.loop" ⟨[.ref S,.ref (n+5:Nat),.none],[]⟩) R s:=by
 have hh':A.in1.handled=none:=hh;intro k
 induction k with
 |zero=>
  intro i s hk hi hst;have hin:i=xs.length:=by omega
  subst hin;obtain⟨H',acc,vs,e,f0,f1,a,b,c,I,st,hS,nS,nz,Z,fr,rv,tr⟩:=hst.ex;refine ya8 PySem.F.entry_extend_loop ?_;rw[z80 z45 _];show wpAny _ A.in1 (pyNext (.ref (n+5:Nat)) >>= _) _ _ s;rcases fr with ⟨z,_⟩|⟨T,ot,rfl,hT,hTn⟩
  ·omega
  obtain⟨its1,rv1,p1,hz1⟩:=I.list (vf q1 fun a o _ e=>st a o e);refine zW4 (eQ hh' h1 h2 h3 Z hT p1.isList (by rw[List.getElem?_toArray,z73];rw[rv1.length];exact zW9 _) fun h' kk=>?_);refine zX6 (hR _ ⟨H',acc,vs,e,I.turnL (t':=s.toks) (ch:=z3 n) (fun b o hb q=>kk b o hb q) (fun b hb=>fz b hb H' (nz b hb)),st,kk _ _ hSz hS,nS,rv,tr⟩)
 |succ k ih=>
  intro i s hk hi hst;have hlt:i<xs.length:=by omega
  obtain⟨H',acc,vs,e,f0,f1,a,b,c,I,st,hS,nS,nz,Z,fr,rv,tr⟩:=hst.ex;refine ya8 PySem.F.entry_extend_loop ?_;rw[z80 z45 _];show wpAny _ A.in1 (pyNext (.ref (n+5:Nat)) >>= _) _ _ s;obtain⟨its1,rv1,p1,hz1⟩:=I.list (vf q1 fun a o _ e=>st a o e);obtain⟨its2,rv2,p2,hz2⟩:=I.list (vf q2 fun a o _ e=>st a o e);obtain⟨its3,rv3,p3,hz3⟩:=I.list (vf q3 fun a o _ e=>st a o e);have gx:xs[i]?=some xs[i]:=zW6 hlt;have gy:ys[i]?=some ys[i]:=zW6 (by omega);have gz:zs[i]?=some zs[i]:=zW6 (by omega);obtain⟨u,hu,ru⟩:=rv1.get gx;obtain⟨v,hv,rv'⟩:=rv2.get gy;obtain⟨w,hw,rw'⟩:=rv3.get gz;have lacc:acc.length=i:=by rw[<-rv.length,tr.1]
  have zlt:∀b∈z3 n,b<s.heap.objs.size:=fun b hb=>by
   have:∃o,s.heap.get? b=some o:=by
    simp only[z3,zX0,zY3,z07] at hb;obtain⟨o1,q1,_⟩:=Z.i1;obtain⟨o2,q2,_⟩:=Z.i2;obtain⟨o3,q3,_⟩:=Z.i3;rcases hb with rfl|rfl|rfl|rfl|rfl|rfl
    ·exact⟨_,q1⟩
    ·exact⟨_,q2⟩
    ·exact⟨_,q3⟩
    ·exact⟨_,Z.ti⟩
    ·exact⟨_,Z.to⟩
    ·exact⟨_,Z.z⟩
   obtain⟨o,q⟩:=this;exact zX2 q
  have main:∀(h':Heap) (f0' f1' a' b' c':Value),vI h' n l1 l2 l3 (i+1) f0' f1' a' b' c'->(∃(T:Nat) (ot:Obj),f0'=rawInt (T:Nat)/\h'.get? T=some ot/\T∉S::z3 n)->h'.get? s.heap.objs.size=some (tO3 u v w)->
    (∀c o,c∉z3 n->s.heap.get? c=some o->h'.get? c=some o)->wpAny (model X.prog X.w) A.in1 (updateSeq S (·.push (.ref s.heap.objs.size)) >>= fun _=>again (.builtin "list.extend.loop" ⟨[.ref S,.ref (n+5:Nat),.none],[]⟩))
     (fun fin s'=>match fin with|.done f=>R (.ok f) s'|.again c'=>c'.quiet=true/\codeAny (model X.prog X.w) A c' R s') (fun e s'=>R (.error e) s') {s with heap:=h'}:=by
   intro h' f0' f1' a' b' c' Z' ⟨T,ot,hf,hT,hTn⟩ gT kk;have nT:H' s.heap.objs.size=none:=I.hok.fresh (zW9 _);have nT0:H s.heap.objs.size=none:=by
    cases q:H s.heap.objs.size with
    |none=>rfl
    |some o=>rw[st _ _ q] at nT;cases nT
   have stT:∀a o,H' a=some o->upd H' s.heap.objs.size (.tup [xs[i],ys[i],zs[i]]) a=some o:=fun a o q=>by rw[zg (zo q nT)];exact q
   have J:=I.turnLay (t':=s.toks) (h':=h') (ch:=z3 n) (T:=s.heap.objs.size) (o:=.tup [xs[i],ys[i],zs[i]]) kk (fun b hb=>fz b hb H' (nz b hb)) (zW9 _) ⟨by show 3<=sizeLine;decide,[u,v,w],.cons ru (.cons rv' (.cons rw' .nil)),_,gT,rfl,0,rfl⟩;have hS':=kk _ _ hSz hS;have SltS:S<s.heap.objs.size:=zX2 hS;have nS':upd H' s.heap.objs.size (.tup [xs[i],ys[i],zs[i]]) S=none:=by rw[zg (zY4 SltS)];exact nS
   obtain⟨e',hSn⟩:∃e',(h'.update S (Obj.mapSeq (·.push (Value.ref s.heap.objs.size)))).get? S=some {cls:=.type "list",dict:=none,data:=.seq (acc++[Value.ref s.heap.objs.size]).toArray e',slots:=#[]}:=by
    have:=z61 (c:="list") hS' fun x=>x.push (Value.ref s.heap.objs.size);rw[List.push_toArray] at this;exact⟨_,this⟩
   refine zW4 ?_;refine z54 hS' rfl (zX6 ⟨z76 z45 _,ih (i+1) _ (by omega) hlt ⟨_,acc++[.ref s.heap.objs.size],vs++[.ref s.heap.objs.size],e',f0',f1',a',b',c',
    J.turnL (t':=s.toks) (ch:=[S]) (fun b o hb q=>(zZ0 _ _ (zZ8 (by simpa using hb))).trans q) (fun b hb=>by rw[zX5.mp hb];exact fS _ nS'),fun a o q=>stT _ _ (st a o q),hSn,nS',fun b hb=>?_,?_,.inr ⟨T,ot,hf,?_,hTn⟩,rv.append (.cons (show RelV (.ref s.heap.objs.size) (.ref s.heap.objs.size) from rfl) .nil),tr.snoc stT gx gy gz zk nT0⟩⟩)
    (by rw[zX8,lacc,z34];omega) (by show (acc.toArray.push _).size<=sizeLine+1;rw[Array.size_push,zX8,lacc,z34];omega)
   ·rw[zg]
    ·exact nz b hb
    ·exact zY4 (zlt b hb)
   ·have oth:∀b o,b≠S->h'.get? b=some o->(h'.update S (Obj.mapSeq (·.push (Value.ref s.heap.objs.size)))).get? b=some o:=fun b o hb q=>(zZ0 _ _ (zZ8 hb)).trans q;simp only[z3,zX0,zY3,z07,not_or] at hSz;obtain⟨d1,d2,d3,d4,d5,d6⟩:=hSz;exact⟨oth _ _ (zZ8 d6) Z'.z,oth _ _ (zZ8 d4) Z'.ti,oth _ _ (zZ8 d5) Z'.to,Z'.i1.at fun o q=>oth _ o (zZ8 d1) q,Z'.i2.at fun o q=>oth _ o (zZ8 d2) q,Z'.i3.at fun o q=>oth _ o (zZ8 d3) q⟩
   ·exact (zZ0 _ _ (fun z=>hTn (by rw[<-z];exact zX7))).trans hT
  rcases fr with ⟨_,rfl⟩|⟨T,ot,rfl,hT,hTn⟩
  ·refine zW4 (lL h1 h2 h3 Z p1.isList p2.isList p3.isList (by simpa using hu) (by simpa using hv) (by simpa using hw) fun h' Z' gT kk=>?_);refine main h' _ _ _ _ _ Z' ⟨s.heap.objs.size,_,rfl,gT,?_⟩ gT kk;intro z;rcases zX0.mp z with z|z
   ·exact absurd (zX2 hS) (by rw[<-z];exact z35 _)
   ·exact absurd (zlt _ z) (z35 _)
  ·refine zW4 (iy h1 h2 h3 Z hT p1.isList p2.isList p3.isList (by simpa using hu) (by simpa using hv) (by simpa using hw) fun h' f1' Z' gT kk=>?_);exact main h' _ _ _ _ _ Z' ⟨T,ot,rfl,kk _ _ (fun z=>hTn (zX3 _ z)) hT,hTn⟩ gT kk
end
theorem rN (a b c:Value):checkTypeCall "zip" ⟨[a,b,c],[]⟩=pure ():=by kernel_rfl
theorem pC (a b c:Value):checkBuiltinCall "zip.__new__" ⟨[.type "zip",a,b,c],[]⟩=pure ():=by kernel_rfl
theorem uN (a b c d:Value):argsOk "object.__init__" ⟨[a,b,c,d],[]⟩:=by unfold argsOk;rw[signature?_of (id:="object.__init__") (n:=['_','_','t','i','n','i','_','_']) (o:=['t','c','e','j','b','o']) (by kernel_rfl) PySem.F.owner_object];kernel_rfl
theorem iZ :typeLookup (.type "zip") "__len__"=pure none:=by rw[yd8,z97];kernel_rfl
theorem kb :typeLookup (.type "zip") "__length_hint__"=pure none:=by rw[yd8,z97];kernel_rfl
noncomputable abbrev itO (l:Addr):Obj:={cls:=.type "list_iterator",data:=.fields #[.ref l,.int 0 0]}
noncomputable abbrev zh3 (h:Heap)(l1 l2 l3:Addr):Heap:=((h.push (itO l1)).push (itO l2)).push (itO l3)
noncomputable abbrev zh4 (h:Heap)(l1 l2 l3:Addr):Heap:=(zh3 h l1 l2 l3).push (tO3 (.ref h.objs.size) (.ref (h.push (itO l1)).objs.size) (.ref ((h.push (itO l1)).push (itO l2)).objs.size))
noncomputable abbrev zh5 (h:Heap)(l1 l2 l3:Addr):Heap:=(zh4 h l1 l2 l3).push (tO3 .none .none .none)
noncomputable abbrev zh6 (h:Heap)(l1 l2 l3:Addr):Heap:=(zh5 h l1 l2 l3).push (zO .none (.bool false) (zh3 h l1 l2 l3).objs.size (zh4 h l1 l2 l3).objs.size)
theorem qU (l1 l2 l3:Addr)(xs ys zs:Array Value):
  Meets (Builtin.«zip.__new__» ⟨[.type "zip",.ref l1,.ref l2,.ref l3],[]⟩) (fun _ R s=>s.heap.IsList l1 xs/\s.heap.IsList l2 ys/\s.heap.IsList l3 zs/\
   R (.ok (.ret (.ref (zh5 s.heap l1 l2 l3).objs.size))) {s with heap:=zh6 s.heap l1 l2 l3}):=
 .of_wp fun prog w A R s h=>by
  obtain⟨hp,g,d,tk,os⟩:=s;obtain⟨hl1,hl2,hl3,h⟩:=h;have hsub:=sub_zip;have hL1:Heap.IsList (Shared.heap ⟨hp,g,d,tk,os⟩) l1 xs:=hl1;have hL2:Heap.IsList (Shared.heap ⟨hp.push {cls:=.type "list_iterator",data:=.fields #[.ref l1,.int 0 0]},g,d,tk,os⟩) l2 ys:=Heap.IsList.push hl2 _;have hL3:Heap.IsList (Shared.heap ⟨(hp.push {cls:=.type "list_iterator",data:=.fields #[.ref l1,.int 0 0]}).push {cls:=.type "list_iterator",data:=.fields #[.ref l2,.int 0 0]},g,d,tk,os⟩) l3 zs:=Heap.IsList.push (Heap.IsList.push hl3 _) _
  wp_walk using z51 hL1,z51 hL2,z51 hL3
  exact⟨_,rfl,h⟩
section
variable {prog:Program}{w:World}{A:Around}{E:Value->Shared->Prop}{s:Shared}
theorem jr {l1 l2 l3:Addr}{xs ys zs:Array Value}{Q:Value->Shared->Prop}(hl1:s.heap.IsList l1 xs)(hl2:s.heap.IsList l2 ys)(hl3:s.heap.IsList l3 zs)
  (h:∀h',vI h' s.heap.objs.size l1 l2 l3 0 .none (.bool false) .none .none .none->h'.objs.size=s.heap.objs.size+6->(∀c o,s.heap.get? c=some o->h'.get? c=some o)->Q (.ref (s.heap.objs.size+5)) {s with heap:=h'}):
  wpAny (model prog w) A (call (.type "zip") [.ref l1,.ref l2,.ref l3]) Q E s:=by
 refine callType_new PySem.F.called_zip (by decide) (rN _ _ _) (pC _ _ _) (fun obj=>uN obj _ _ _) PySem.F.entry_zip_new
  (qU l1 l2 l3 xs ys zs) ⟨hl1,hl2,hl3,?_⟩
 have z1:(s.heap.push (itO l1)).objs.size=s.heap.objs.size+1:=z37 ..;have z2:((s.heap.push (itO l1)).push (itO l2)).objs.size=s.heap.objs.size+2:=by rw[z37,z1]
 have z3':(zh3 s.heap l1 l2 l3).objs.size=s.heap.objs.size+3:=by rw[z37,z2]
 have z4:(zh4 s.heap l1 l2 l3).objs.size=s.heap.objs.size+4:=by rw[z37,z3']
 have z5:(zh5 s.heap l1 l2 l3).objs.size=s.heap.objs.size+5:=by rw[z37,z4]
 have z6:(zh6 s.heap l1 l2 l3).objs.size=s.heap.objs.size+6:=by rw[z37,z5]
 have g6:(zh6 s.heap l1 l2 l3).get? (zh5 s.heap l1 l2 l3).objs.size=some _:=zX4 _ rfl;have g5:(zh6 s.heap l1 l2 l3).get? (zh4 s.heap l1 l2 l3).objs.size=some _:=zW5 _ (zX4 _ rfl);have g4:(zh6 s.heap l1 l2 l3).get? (zh3 s.heap l1 l2 l3).objs.size=some _:=zW5 _ (zW5 _ (zX4 _ rfl));have g3:(zh6 s.heap l1 l2 l3).get? ((s.heap.push (itO l1)).push (itO l2)).objs.size=some _:=zW5 _ (zW5 _ (zW5 _ (zX4 _ rfl)));have g2:(zh6 s.heap l1 l2 l3).get? (s.heap.push (itO l1)).objs.size=some _:=zW5 _ (zW5 _ (zW5 _ (zW5 _ (zX4 _ rfl))));have g1:(zh6 s.heap l1 l2 l3).get? s.heap.objs.size=some _:=zW5 _ (zW5 _ (zW5 _ (zW5 _ (zW5 _ (zX4 _ rfl)))));show _/\_;rw[z5,z4,z3'] at g6;rw[z4] at g5;rw[z3',z2,z1] at g4;rw[z2] at g3;rw[z1] at g2;rw[z5];exact⟨⟨_,g6,rfl⟩,h _ ⟨g6,g4,g5,⟨_,g1,rfl,rfl⟩,⟨_,g2,rfl,rfl⟩,⟨_,g3,rfl,rfl⟩⟩ z6 fun c o x=>
  zW5 _ (zW5 _ (zW5 _ (zW5 _ (zW5 _ (zW5 _ x)))))⟩
end
section
variable {X:Cx}{pins:List (Addr×Obj)}{σ:St}{H:Hp}{s:Shared}
theorem cy {A:Around}{R:Result->Shared->Prop}{n l1 l2 l3:Nat}{S:Addr}{xs ys zs:List V}(hh:A.handled=none)(h1:l1<n)(h2:l2<n)(h3:l3<n)(I:Inv X pins σ H s)(Z:vI s.heap n l1 l2 l3 0 .none (.bool false) .none .none .none)(hS:s.heap.get? S=some {cls:=.type "list",data:=.seq #[]})
  (nS:H S=none) (nz:∀b∈z3 n,H b=none) (fS:∀H',H' S=none->xN X pins H' S) (fz:∀b∈z3 n,∀H',H' b=none->xN X pins H' b) (hSz:S∉z3 n)
  (q1:SqL X.K H l1 xs) (q2:SqL X.K H l2 ys) (q3:SqL X.K H l3 zs) (e2:ys.length=xs.length) (e3:zs.length=xs.length) (h0:0<xs.length) (hN:xs.length<=1000)
  (hR:∀s',zK2 X pins σ H S xs ys zs s'->R (.ok (.ret .none)) s'):
  wpAny (model X.prog X.w) A.in1 (Builtin.«list.__init__» ⟨[.ref S,.ref (n+5:Nat)],[]⟩)
   (fun fin s'=>match fin with|.done f=>R (.ok f) s'|.again c'=>c'.quiet=true/\codeAny (model X.prog X.w) A c' R s') (fun e s'=>R (.error e) s') s:=by
 have hSz':=hSz;simp only[z3,zX0,zY3,z07,not_or] at hSz';obtain⟨d1,d2,d3,d4,d5,d6⟩:=hSz';show wpAny _ _ (do let old <-Builtin.List.listItems (.ref S);Builtin.List.listUpdate (.ref S) (fun _=>#[]);letGo old.toList.reverse;Builtin.List.listExtendWith (.ref S) (.ref (n+5:Nat)) .none) _ _ s;refine zW4 ?_;unfold Builtin.List.listItems;refine zW4 (z38 hS rfl (zX6 ?_));show wpAny _ _ (updateSeq S (fun _=>#[]) >>= fun _=>letGo (#[]:Array Value).toList.reverse >>= fun _=>Builtin.List.listExtendWith (.ref S) (.ref (n+5:Nat)) .none) _ _ s;refine zW4 (z54 hS rfl ?_);obtain⟨e',hS₂⟩:∃e',(s.heap.update S (Obj.mapSeq (fun _=>(#[]:Array Value)))).get? S=some {cls:=.type "list",dict:=none,data:=.seq #[] e',slots:=#[]}:=⟨_,z61 (c:="list") hS fun _=>#[]⟩;have oth:∀b o,b≠S->s.heap.get? b=some o->(s.heap.update S (Obj.mapSeq (fun _=>(#[]:Array Value)))).get? b=some o:=
  fun b o hb e=>(zZ0 _ _ (zZ8 hb)).trans e
 have Z₂:vI (s.heap.update S (Obj.mapSeq (fun _=>(#[]:Array Value)))) n l1 l2 l3 0 .none (.bool false) .none .none .none:=⟨oth _ _ (zZ8 d6) Z.z,oth _ _ (zZ8 d4) Z.ti,oth _ _ (zZ8 d5) Z.to,Z.i1.at fun o q=>oth _ o (zZ8 d1) q,Z.i2.at fun o q=>oth _ o (zZ8 d2) q,Z.i3.at fun o q=>oth _ o (zZ8 d3) q⟩;refine zW4 (z68 ?_);have I₂:Inv X pins σ H {s with heap:=s.heap.update S (Obj.mapSeq (fun _=>(#[]:Array Value))),toks:=s.toks}:=I.turnL (ch:=[S]) (fun b o hb q=>oth b o (by simpa using hb) q) fun b hb=>by rw[zX5.mp hb];exact fS H nS
 have hT:({s with heap:=s.heap.update S (Obj.mapSeq (fun _=>(#[]:Array Value)))}:Shared).TypeIs (.ref (n+5:Nat)) "zip":=⟨_,Z₂.z,rfl⟩;unfold Builtin.List.listExtendWith;refine zW4 (wpAny_typeOf hT ?_);have b1:Builtin.List.listSameRef (.ref S) (.ref (n+5:Nat))=false:=by simp[Builtin.List.listSameRef];exact d6
 have b2:(Value.type "zip" == Value.type "list")=false:=by decide
 have b3:(Value.type "zip" == Value.type "tuple")=false:=by decide
 simp only[b1,b2,b3,z99,z05,z57];refine zW4 (wpAny_pyIter_slot hT PySem.F.slot_zip_iter (yc7 PySem.F.slot_zip_iter hT PySem.F.entry_zip_iter ?_ (PySem.F.args_zip_iter_1 _)));show wpAny _ _ (ret (.ref (n+5:Nat))) _ _ _;refine zX6 ⟨_,rfl,"zip",_,hT,z47.lookup,?_⟩;refine zW4 (z36 ?_);unfold Builtin.List.listLengthHint;refine zW4 (ya6 hT iZ ?_);show wpAny _ _ (specialOf (Value.ref (n+5:Nat)) (Str.ofString "__length_hint__") >>= _) _ _ _;refine zW4 (ya6 hT kb ?_);refine zX6 ?_;have key:∀(h:Heap) (e:Nat),h.get? S=some {cls:=.type "list",dict:=none,data:=.seq #[] e,slots:=#[]}->(∀b o,b≠S->s.heap.get? b=some o->h.get? b=some o)->codeAny (model X.prog X.w) A (.builtin "list.extend.loop" ⟨[.ref S,.ref (n+5:Nat),.none],[]⟩) R {s with heap:=h}:=by
  intro h e hS' oth';refine cc hh h1 h2 h3 fS fz hSz q1 q2 q3 e2 e3 h0 hN hR xs.length 0 _ (by omega) (zY8 _) ⟨H,[],[],e,.none,.bool false,.none,.none,.none,I.turnL (t':=s.toks) (ch:=[S]) (fun b o hb q=>oth' b o (by simpa using hb) q) (fun b hb=>by rw[zX5.mp hb];exact fS H nS),fun _ _ e=>e,hS',nS,nz,?_,.inl ⟨rfl,rfl⟩,.nil,rfl,fun j hj=>absurd hj (Nat.not_lt_zero _)⟩;exact⟨oth' _ _ (zZ8 d6) Z.z,oth' _ _ (zZ8 d4) Z.ti,oth' _ _ (zZ8 d5) Z.to,Z.i1.at fun o q=>oth' _ o (zZ8 d1) q,Z.i2.at fun o q=>oth' _ o (zZ8 d2) q,Z.i3.at fun o q=>oth' _ o (zZ8 d3) q⟩
 refine z91 (fun _=>?_) (fun _=>zX6 ⟨z76 z45 _,key _ _ hS₂ oth⟩);refine zW4 (wpAny_rule ?_);refine zW4 ?_;show wpAny _ _ (updateSeq S (·.push .none) >>= fun _=>updateSeq S (·.pop)) _ _ _;refine zW4 (z54 hS₂ rfl ?_);obtain⟨e3',hS₃⟩:∃e',((s.heap.update S (Obj.mapSeq (fun _=>(#[]:Array Value)))).update S (Obj.mapSeq (·.push Value.none))).get? S=some {cls:=.type "list",dict:=none,data:=.seq #[.none] e',slots:=#[]}:=⟨_,z61 (c:="list") hS₂ fun x=>x.push Value.none⟩;refine z54 (hz:=by seq_fits) hS₃ rfl ?_;obtain⟨e4',hS₄⟩:∃e',(((s.heap.update S (Obj.mapSeq (fun _=>(#[]:Array Value)))).update S (Obj.mapSeq (·.push Value.none))).update S (Obj.mapSeq (·.pop))).get? S=some {cls:=.type "list",dict:=none,data:=.seq #[] e',slots:=#[]}:=⟨_,z61 (c:="list") hS₃ fun x=>x.pop⟩;refine zX6 ⟨z76 z45 _,key _ _ hS₄ fun b o hb e=>?_⟩;exact (zZ0 _ _ (zZ8 hb)).trans ((zZ0 _ _ (zZ8 hb)).trans (oth b o hb e))
end
section
variable {X:Cx}{pins:List (Addr×Obj)}{σ:St}{H:Hp}{s:Shared}
theorem qN {A:Around}{E:Value->Shared->Prop}{Q:Value->Shared->Prop}{n l1 l2 l3:Nat}{xs ys zs:List V}(hh:A.handled=none)(h1:l1<n)(h2:l2<n)(h3:l3<n)(I:Inv X pins σ H s)(Z:vI s.heap n l1 l2 l3 0 .none (.bool false) .none .none .none)
  (nz:∀b∈z3 n,H b=none) (fz:∀b∈z3 n,∀H',H' b=none->xN X pins H' b)
  (q1:SqL X.K H l1 xs) (q2:SqL X.K H l2 ys) (q3:SqL X.K H l3 zs) (e2:ys.length=xs.length) (e3:zs.length=xs.length) (h0:0<xs.length) (hN:xs.length<=1000)
  (hQ:∀D s',s.heap.objs.size<=D->zK2 X pins σ H D xs ys zs s'->(∀H',H' D=none->xN X pins H' D)->Q (.ref D) s'):
  wpAny (model X.prog X.w) A (call (.type "list") [.ref (n+5:Nat)]) Q E s:=by
 refine callType_codes (Q₁:=fun obj s₁=>obj=.ref s.heap.objs.size/\s₁={s with heap:=s.heap.push {cls:=.type "list",data:=.seq #[]}}) PySem.F.called_list (PySem.F.typeCall_list_1 _) PySem.F.entry_list_init
  (code_list_new _ ⟨rfl,rfl⟩) fun obj s₁ h₁=>?_
 obtain⟨rfl,rfl⟩:=h₁;have hS:(s.heap.push {cls:=.type "list",data:=.seq #[]}).get? s.heap.objs.size=some {cls:=.type "list",data:=.seq #[]}:=zX4 _ rfl;have up:∀b o,s.heap.get? b=some o->(s.heap.push {cls:=.type "list",data:=.seq #[]}).get? b=some o:=fun b o e=>zW5 _ e;have fS:∀H':Hp,H' s.heap.objs.size=none->xN X pins H' s.heap.objs.size:=fun H' h=>I.fpOk (zW9 _) h;have hSz:s.heap.objs.size∉z3 n:=fun hb=>by
  have:∃o,s.heap.get? s.heap.objs.size=some o:=by
   simp only[z3,zX0,zY3,z07] at hb;obtain⟨o1,q1,_⟩:=Z.i1;obtain⟨o2,q2,_⟩:=Z.i2;obtain⟨o3,q3,_⟩:=Z.i3;rcases hb with z|z|z|z|z|z<;>rw[z]
   ·exact⟨_,q1⟩
   ·exact⟨_,q2⟩
   ·exact⟨_,q3⟩
   ·exact⟨_,Z.ti⟩
   ·exact⟨_,Z.to⟩
   ·exact⟨_,Z.z⟩
  obtain⟨o,q⟩:=this;exact absurd (zX2 q) (z35 _)
 refine⟨⟨_,hS,rfl⟩,PySem.F.args_list_init_2 _ _,cy (A:=A.in1) hh h1 h2 h3 (I.kept (t':=s.toks) up) ⟨up _ _ Z.z,up _ _ Z.ti,up _ _ Z.to,Z.i1.at fun o q=>up _ o q,Z.i2.at fun o q=>up _ o q,Z.i3.at fun o q=>up _ o q⟩ hS (I.hok.fresh (zW9 _)) nz fS fz hSz q1 q2 q3 e2 e3 h0 hN fun s' ze=>⟨rfl,hQ _ s' (zW9 _) ze fS⟩⟩
variable {a b c:Expr}{p p0 pos pos2:Pos}
theorem mz {ta:TA}(hc:X.calm=true)(hgl:Gl X "list")(hml:X.mg "list"=none)(hg:Gl X "zip")(hm:X.mg "zip"=none)(ha:PA X [a,b,c] ta)
  (hs0:starEach [.Call (.Name "zip" p) [a,b,c] [] pos2] X.env=[(false,eval (.Call (.Name "zip" p) [a,b,c] [] pos2) X.env)]:=by rfl)
  (hs:starEach [a,b,c] X.env=(false,eval a X.env)::starEach [b,c] X.env:=by rfl) (hpl:(backTo pos2 (starEach [b,c] X.env)).any (·.1)=false:=by rfl):
  PE X (.Call (.Name "list" p0) [.Call (.Name "zip" p) [a,b,c] [] pos2] [] pos) (fun σ H Q=>ta σ H fun vs H1=>∃(l1 l2 l3:Addr) (xs ys zs:List V),vs=[.ref l1,.ref l2,.ref l3]/\SqL X.K H1 l1 xs/\SqL X.K H1 l2 ys/\SqL X.K H1 l3 zs/\ys.length=xs.length/\zs.length=xs.length/\0<xs.length/\xs.length<=1000/\
   ∀D H' vs,H1 D=none->(∀a o,H1 a=some o->H' a=some o)->H' D=some (.lst vs)->(∃H'',(∀a o,H'' a=some o->a≠D/\H' a=some o)/\Tri H1 H'' xs ys zs vs xs.length)->Q (.ref D) H'):=by
 intro pins s σ H Q I h;refine Call_ (xx I hgl hml boot_list (zZ7 ?_ hs0 rfl));rw[hs0];show wpAny _ _ (spliced ((false,eval _ X.env)::backTo pos [])) _ _ s;refine Calls.spliced_cons ?_;refine Call_ (xx I hg hm boot_zip (zZ7 (thn (ha pos2 pins s σ H _ I h) fun us s1 ⟨vs,H1,I1,r1,q1⟩=>?_) hs hpl));obtain⟨l1,l2,l3,xs,ys,zs,e,hq1,hq2,hq3,e2,e3,h0,hN,q⟩:=q1;subst e;obtain⟨u,v,w,rfl,ru,rv,rw'⟩:∃u v w,us=[u,v,w]/\RelV (.ref l1) u/\RelV (.ref l2) v/\RelV (.ref l3) w:=by
  cases r1 with
  |cons a r1=>
   cases r1 with
   |cons b r1=>
    cases r1 with
    |cons c r1=>
     cases r1;exact⟨_,_,_,rfl,a,b,c⟩
 cases (show u=Value.ref l1 from ru);cases (show v=Value.ref l2 from rv);cases (show w=Value.ref l3 from rw');obtain⟨its1,rv1,p1,hz1⟩:=I1.list hq1;obtain⟨its2,rv2,p2,hz2⟩:=I1.list hq2;obtain⟨its3,rv3,p3,hz3⟩:=I1.list hq3;refine jr p1.isList p2.isList p3.isList fun h' Z sz hk=>?_;have lt1:l1<s1.heap.objs.size:=by obtain⟨o,e,_⟩:=p1.isList;exact zX2 e
 have lt2:l2<s1.heap.objs.size:=by obtain⟨o,e,_⟩:=p2.isList;exact zX2 e
 have lt3:l3<s1.heap.objs.size:=by obtain⟨o,e,_⟩:=p3.isList;exact zX2 e
 have le:∀b∈z3 s1.heap.objs.size,s1.heap.objs.size<=b:=fun b hb=>by
  simp only[z3,zX0,zY3,z07] at hb;have key:∀n b:Nat,(b=n\/b=n+1\/b=n+2\/b=n+3\/b=n+4\/b=n+5)->n<=b:=fun n b h=>by omega
  exact key _ _ hb
 have I2:Inv X pins σ H1 {s1 with heap:=h',toks:=s1.toks}:=I1.kept fun b o e=>hk b o e;refine z22 (Q:=_) (show wpAny _ _ (spliced []) (fun vs s₁=>vs=[]/\s₁={s1 with heap:=h'}) X.xe {s1 with heap:=h'} from zX6 ⟨rfl,rfl⟩) (fun vs s2 hv=>?_) fun _ _ z=>z;obtain⟨rfl,rfl⟩:=hv;refine qN (s:={s1 with heap:=h'}) (I.ok.hd hc) lt1 lt2 lt3 I2 Z (fun b hb=>I1.hok.fresh (le b hb)) (fun b hb H' hn=>I1.fpOk (le b hb) hn) hq1 hq2 hq3 e2 e3 h0 hN fun D s' lD ze fD=>?_;obtain⟨H',acc,vs,e,I',st,hD,nD,rvs,tri⟩:=ze.ex;have nD1:H1 D=none:=I2.hok.fresh lD;have stD:∀a o,H' a=some o->a≠D/\upd H' D (.lst vs) a=some o:=fun a o q=>by
  have n:a≠D:=fun z=>by rw[z,nD] at q;cases q
  exact⟨n,by rw[zg n];exact q⟩
 refine⟨.ref D,upd H' D (.lst vs),I'.adopt (fD H' nD) ⟨?_,acc,e,rvs,hD⟩,rfl,q D _ vs nD1 (fun a o q=>(stD a o (st a o q)).2) zk ⟨H',stD,tri⟩⟩;rw[tri.1,z34];omega
end
noncomputable def zo9 (a b c:PyData):PyData:=.tuple [a,b,c]
noncomputable def vd :List PyData->List PyData->List PyData->List PyData
 |a::as,b::bs,c::cs=>zo9 a b c::vd as bs cs
 |_,_,_=>[]
theorem sq :∀{as bs cs:List PyData},bs.length=as.length->cs.length=as.length->(vd as bs cs).length=as.length
 |[],_,_,_,_=>rfl
 |a::as,b::bs,c::cs,h1,h2=>by rw[vd,zX9,zX9,sq (by simpa using h1) (by simpa using h2)]
theorem si :∀{as bs cs:List PyData} {j:Nat} {d:PyData},(vd as bs cs)[j]?=some d->∃a b c,as[j]?=some a/\bs[j]?=some b/\cs[j]?=some c/\d=zo9 a b c
 |[],_,_,j,d,h=>by simp[vd] at h
 |a::as,[],_,j,d,h=>by simp[vd] at h
 |a::as,b::bs,[],j,d,h=>by simp[vd] at h
 |a::as,b::bs,c::cs,0,d,h=>by simp[vd] at h;exact⟨a,b,c,rfl,rfl,rfl,h.symm⟩
 |a::as,b::bs,c::cs,j+1,d,h=>by
  obtain⟨x,y,z,e1,e2,e3,e4⟩:=si (as:=as) (bs:=bs) (cs:=cs) (j:=j) (d:=d) (by simpa[vd] using h);exact⟨x,y,z,by simpa using e1,by simpa using e2,by simpa using e3,e4⟩
theorem fw {G:Hp}:∀{vs:List V} {ds:List PyData},vs.length=ds.length->(∀(j:Nat) d,ds[j]?=some d->∃v,vs[j]?=some v/\AV G v d)->AVs G vs ds
 |[],[],_,_=>.nil
 |v::vs,d::ds,hl,h=>by
  obtain⟨v',e,a⟩:=h 0 d rfl;cases e;exact .cons a (fw (by simpa using hl) fun j d' hd=>h (j+1) d' (by simpa using hd))
section
variable {X:Cx}{α:Ev}{a b c:Expr}{p p0 pos pos2:Pos}
theorem kF {Q:List PyData->Prop}(hc:X.calm=true)(hgl:Gl X "list")(hml:X.mg "list"=none)(hg:Gl X "zip")(hm:X.mg "zip"=none)
  (h:EvA X α [a,b,c] fun as=>∃ds es fs,as=[.dat (.list ds),.dat (.list es),.dat (.list fs)]/\es.length=ds.length/\fs.length=ds.length/\0<ds.length/\ds.length<=1000/\Q (vd ds es fs))
  (hs0:starEach [.Call (.Name "zip" p) [a,b,c] [] pos2] X.env=[(false,eval (.Call (.Name "zip" p) [a,b,c] [] pos2) X.env)]:=by rfl)
  (hs:starEach [a,b,c] X.env=(false,eval a X.env)::starEach [b,c] X.env:=by rfl) (hpl:(backTo pos2 (starEach [b,c] X.env)).any (·.1)=false:=by rfl):
  EvL X α (.Call (.Name "list" p0) [.Call (.Name "zip" p) [a,b,c] [] pos2] [] pos) Q:=fun F σ H R m k=>by
 refine⟨_,mz hc hgl hml hg hm xh hs0 hs hpl,?_⟩;refine h F σ H _ m fun as vs H1 q1 t1 k1 rv=>?_;have m1:=m.kz k1 t1;obtain⟨ds,es,fs,rfl,l2,l3,l0,lN,q⟩:=q1;cases rv with
 |cons r1 rv=>
  cases rv with
  |cons r2 rv=>
   cases rv with
   |cons r3 rv=>
    cases rv;obtain⟨a1,xs,rfl,g1,A1⟩:=AV.lst_inv r1;obtain⟨a2,ys,rfl,g2,A2⟩:=AV.lst_inv r2;obtain⟨a3,zs,rfl,g3,A3⟩:=AV.lst_inv r3;have y1:=A1.length;have y2:=A2.length;have y3:=A3.length;refine⟨a1,a2,a3,xs,ys,zs,rfl,SqL.of (zi g1).2,SqL.of (zi g2).2,SqL.of (zi g3).2,by omega,by omega,by omega,by omega,fun D H' vs hD st hD' tr=>?_⟩;obtain⟨H'',sb,tri⟩:=tr;have sm:zB H1 H':=fun a o e=>st a o e;refine k _ _ H' q (t1.same sm) (k1.trans (Kz.of_same sm)) ⟨D,vs,rfl,?_,hD',?_⟩
    ·cases z:H D with
     |none=>rfl
     |some o=>rw[k1 D o z (m.tp.nt (ow0 (m1.fresh hD)))] at hD;cases hD
    ·have gs:zB (Gz F α σ H1) (sub (fun x=>¬Ow F α σ x/\x≠D) H'):=zz fun a o h e=>⟨⟨h,zo e hD⟩,st a o e⟩;refine fw (by rw[tri.1,sq l2 l3];exact y1) fun j d hd=>?_;obtain⟨d1,d2,d3,e1,e2,e3,rfl⟩:=si hd;have hj:j<xs.length:=by rw[y1];exact (zW7.mp e1).1
     obtain⟨t,x,y,z,f1,f2,f3,f4,f5,f6⟩:=tri.2 j hj;obtain⟨x',ex,ax⟩:=A1.get e1;obtain⟨y',ey,ay⟩:=A2.get e2;obtain⟨z',ez,az⟩:=A3.get e3;rw[f2] at ex;cases ex;rw[f3] at ey;cases ey;rw[f4] at ez;cases ez;obtain⟨nt,ht⟩:=sb t _ f5;exact⟨_,f1,.tup (zH ⟨m1.fresh f6,nt⟩ ht) (.cons (ax.same gs) (.cons (ay.same gs) (.cons (az.same gs) .nil)))⟩
theorem qg :∀{ns:List Int} {its:List Value},Vals (ns.map V.int) its->∃ps:List (Int×Tok),its=ps.map (fun p=>Value.int p.1 p.2)/\ps.map (·.1)=ns
 |[],_,.nil=>⟨[],rfl,rfl⟩
 |n::ns,_,.cons h hs=>by
  obtain⟨ps,e1,e2⟩:=qg hs;obtain⟨t,rfl⟩:=h;exact⟨(n,t)::ps,by rw[e1];rfl,by rw[<-e2];rfl⟩
theorem qR (ps:List (Int×Tok))(k:Nat):numAt ps.toArray k=(ps.map (·.1)).getD k 0:=by
 unfold numAt;rw[List.getElem?_toArray,zW8,zX1]
theorem vU (ps:List (Int×Tok)):∀k,k<=ps.length->preSum (numAt ps.toArray) k=((ps.map (·.1)).take k).sum
 |0,_=>by simp[preSum]
 |k+1,h=>by
  have hk:k<(ps.map (·.1)).length:=by rw[zW3];omega
  rw[preSum,vU ps k (by omega),qR,z52,zW6 hk,List.sum_append,zW8,zW6 hk];simp
def Fits (ns:List Int):Prop:=∀k,k<=ns.length->-(2 ^ 62)<=(ns.take k).sum/\(ns.take k).sum<2 ^ 62
theorem eS (hc:X.calm=true):xK X (.builtin "sum") (fun xs H Q=>∃(l:Addr) (ns:List Int),xs=[.ref l]/\SqL X.K H l (ns.map V.int)/\(∀n∈ns,-(2 ^ 62)<=n/\n<2 ^ 62)/\Fits ns/\Q (.int ns.sum) H):=by
 intro pins s σ H xs us Q I r h;obtain⟨l,ns,rfl,hS,hb,hf,q⟩:=h;obtain⟨u,rfl,rx⟩:=Vals.one r;cases (show u=Value.ref l from rx);obtain⟨its,rv,p,hz⟩:=I.list hS;obtain⟨ps,rfl,rfl⟩:=qg rv;have hl:s.heap.IsList l (intItems ps.toArray):=by
  have:=p.isList
  rwa [show intItems ps.toArray=(ps.map fun p=>Value.int p.1 p.2).toArray by simp[intItems]]
 refine sum_intList (I.ok.hd hc) hl (fun j hj=>?_) fun h' tk t' hk=>?_
 ·have hj':j<ps.length:=by simpa using hj
  have hk:j<(ps.map (·.1)).length:=by rw[zW3];exact hj'
  rw[vU ps (j+1) (by omega),qR,zW8,zW6 hk];have h1:=hb _ (z28 hk);have h2:=hf (j+1) (by omega);refine⟨⟨?_,?_⟩,?_,?_⟩
  ·show -(2 ^ 63)<=(ps.map (·.1))[j];omega
  ·show (ps.map (·.1))[j]<2 ^ 63;omega
  ·omega
  ·omega
 ·rw[show preSum (numAt ps.toArray) ps.toArray.size=(ps.map (·.1)).sum by rw[zX8,vU ps ps.length (zW9 _),<-zW3 (f:=(·.1)) (as:=ps),z66]];exact⟨.int _,H,I.kept (t':=tk) hk,⟨_,rfl⟩,q⟩
theorem mh {Q:PyData->Prop}{e:Expr}(hc:X.calm=true)(hg:Gl X "sum")(hm:X.mg "sum"=none)(h:EvD X α e fun x=>∃ns:List Int,x=.list (ns.map .int)/\(∀n∈ns,-(2 ^ 62)<=n/\n<2 ^ 62)/\Fits ns/\Q (.int ns.sum))(he:starEach [e] X.env=(false,eval e X.env)::starEach [] X.env:=by rfl):
  EvD X α (.Call (.Name "sum" p) [e] [] pos) Q:=by
 refine wR (eS hc) hg hm boot_sum (zh (h.imp fun x ⟨ns,e1,hb,hf,q⟩=>zv ?_) he) (he:=he);intro F σ H vs R m rv k;subst e1;obtain⟨v,rfl,av⟩:=rv.one;obtain⟨a,xs,rfl,h1,h2⟩:=av.lst_inv;cases h2.ints;exact⟨a,ns,rfl,SqL.of (zi h1).2,hb,hf,k _ _ H q m.tp Kz.refl (.int _)⟩
end
noncomputable def yI :List Int->List Bool->List Int
 |z::zs,b::bs=>if b=true then yI zs bs else z::yI zs bs
 |_,_=>[]
theorem uh :∀{zs:List Int} {bs:List Bool} {z:Int},z∈yI zs bs->z∈zs
 |[],_,z,h=>by simp[yI] at h
 |y::zs,[],z,h=>by simp[yI] at h
 |y::zs,b::bs,z,h=>by
  rw[yI] at h;split at h
  ·exact zX3 _ (uh h)
  ·rcases zX0.mp h with e|h
   ·rw[e];exact zX7
   ·exact zX3 _ (uh h)
theorem tS :∀(zs:List Int) (bs:List Bool),(yI zs bs).length<=zs.length
 |[],_=>by simp[yI]
 |y::zs,[]=>by simp[yI]
 |y::zs,b::bs=>by
  rw[yI];have:=tS zs bs;split
  ·rw[zX9];omega
  ·rw[zX9,zX9];omega
theorem sum_bound :∀{ns:List Int} {m:Int},0<=m->(∀n∈ns,0<=n/\n<=m)->0<=ns.sum/\ns.sum<=ns.length*m
 |[],m,_,_=>by simp
 |n::ns,m,h0,h=>by
  obtain⟨a,b⟩:=sum_bound h0 fun x hx=>h x (zX3 _ hx);have:=h n zX7;rw[z31,zX9,z92,Int.add_mul]
  constructor
  ·omega
  ·simp;omega
theorem iX {ns:List Int}(h:∀n∈ns,0<=n/\n<=1000000000000)(hl:ns.length<=1000):Fits ns:=fun k hk=>by
 obtain⟨a,b⟩:=sum_bound (ns:=ns.take k) (m:=1000000000000) (by decide) fun n hn=>h n (z81 hn);have:((ns.take k).length:Int)*1000000000000<=1000*1000000000000:=by
  apply Int.mul_le_mul_of_nonneg_right _ (by decide);rw[zZ4];omega
 omega
noncomputable def zI8 (p:Nat):PyData->PyData
 |.tuple [a,b,c]=>if p=1 then b else c
 |_=>.none
noncomputable def rg :PyData->Bool
 |.tuple [_,_,.bool b]=>b
 |_=>false
theorem rQ :∀{ds:List PyData} {zs:List Int} {bs:List Bool},zs.length=ds.length->bs.length=ds.length->((vd ds (zs.map .int) (bs.map .bool)).filter fun d=>!rg d).map (zI8 1)=(yI zs bs).map .int
 |[],[],[],_,_=>rfl
 |d::ds,z::zs,b::bs,h1,h2=>by
  have ih:=rQ (ds:=ds) (zs:=zs) (bs:=bs) (by simpa using h1) (by simpa using h2);rw[zY2,zY2,vd,yI,z86];cases b with
  |true=>simpa[rg,zo9] using ih
  |false=>simp[rg,zo9,zI8];exact ih
def wO (d:PyData)(zs:List Int)(bs:List Bool):Prop:=(d=.none/\bs=List.replicate zs.length false)\/∃many free:Nat,d=.tuple [.int many,.int free]/\uH zs many free zs.length bs
theorem wO.len {d:PyData}{zs:List Int}{bs:List Bool}(h:wO d zs bs):bs.length=zs.length:=by
 rcases h with ⟨_,rfl⟩|⟨_,_,_,h⟩
 ·simp
 ·exact h.1
noncomputable def zG :List Int->List Bool->Int
 |z::zs,b::bs=>(if b=true then z else 0)+zG zs bs
 |_,_=>0
theorem uF :∀{zs:List Int} {bs:List Bool},bs.length=zs.length->(yI zs bs).sum=zs.sum-zG zs bs
 |[],[],_=>by simp[yI,zG]
 |z::zs,b::bs,h=>by
  have ih:=uF (zs:=zs) (bs:=bs) (by simpa using h);rw[yI,zG,z31];cases b with
  |true=>rw[if_pos rfl,if_pos rfl,ih];omega
  |false=>rw[if_neg (by decide),if_neg (by decide),z31,ih];omega
theorem ui :∀{zs ys:List Int} {bs cs:List Bool},bs.length=zs.length->zG (zs++ys) (bs++cs)=zG zs bs+zG ys cs
 |[],ys,[],cs,_=>by simp[zG]
 |z::zs,ys,b::bs,cs,h=>by
  rw[z65,z65,zG,zG,ui (by simpa using h)];omega
theorem uC :∀{zs:List Int} {bs:List Bool},(∀b∈bs,b=false)->zG zs bs=0
 |[],_,_=>by simp[zG]
 |_::_,[],_=>by simp[zG]
 |z::zs,b::bs,h=>by
  rw[zG,h b zX7,uC fun x hx=>h x (zX3 _ hx)];rfl
theorem mS :∀{zs ys:List Int} {bs:List Bool},ys.length=zs.length->(∀i,i<zs.length->zs.getD i 0<=ys.getD i 0)->zG zs bs<=zG ys bs
 |[],[],_,_,_=>by simp[zG]
 |_::_,_::_,[],_,_=>by simp[zG]
 |z::zs,y::ys,b::bs,hl,h=>by
  have ih:=mS (zs:=zs) (ys:=ys) (bs:=bs) (by simpa using hl) fun i hi=>by
   have:=h (i+1) (by simpa using hi);simpa using this
  have h0:=h 0 (by simp);simp at h0;rw[zG,zG];split<;>omega
theorem vC :∀{zs ys:List Int} {bs:List Bool} {d:Int},ys.length=zs.length->ys.sum=zs.sum+d->(∀i,i<zs.length->zs.getD i 0<=ys.getD i 0)->zG ys bs<=zG zs bs+d
 |[],[],_,d,_,hs,_=>by simp[zG] at hs ⊢;omega
 |z::zs,y::ys,[],d,hl,hs,h=>by
  have ih:=vC (zs:=zs) (ys:=ys) (bs:=[]) (d:=d-(y-z)) (by simpa using hl) (by rw[z31,z31] at hs;omega) fun i hi=>by
   have:=h (i+1) (by simpa using hi);simpa using this
  have h0:=h 0 (by simp);simp at h0;have e1:zG ys []=0:=by cases ys<;>rfl
  have e2:zG zs []=0:=by cases zs<;>rfl
  rw[e1,e2] at ih;show (0:Int)<=0+d;omega
 |z::zs,y::ys,b::bs,d,hl,hs,h=>by
  have ih:=vC (zs:=zs) (ys:=ys) (bs:=bs) (d:=d-(y-z)) (by simpa using hl) (by rw[z31,z31] at hs;omega) fun i hi=>by
   have:=h (i+1) (by simpa using hi);simpa using this
  have h0:=h 0 (by simp);simp at h0;rw[zG,zG];split<;>omega
theorem ku {t:Int}:∀{zs:List Int} {bs cs:List Bool},bs.length=zs.length->cs.length=zs.length->(∀i,i<zs.length->(bs.getD i false=true->zs.getD i 0<=t)/\(bs.getD i false=false->t<=zs.getD i 0))->
  zG zs bs-t*(bs.count true:Nat)<=zG zs cs-t*(cs.count true:Nat)
 |[],[],[],_,_,_=>by simp[zG]
 |z::zs,b::bs,c::cs,h1,h2,h=>by
  have ih:=ku (t:=t) (zs:=zs) (bs:=bs) (cs:=cs) (by simpa using h1) (by simpa using h2) fun i hi=>by
   have:=h (i+1) (by simpa using hi);simpa using this
  have h0:=h 0 (by simp);simp only[List.getD_cons_zero] at h0;rw[zG,zG];have eb:t*(((b::bs).count true:Nat):Int)=t*(bs.count true:Nat)+(if b=true then t else 0):=by
   cases b with
   |true=>rw[List.count_cons_self,z92,Int.mul_add,if_pos rfl];simp
   |false=>rw[List.count_cons_of_ne (by decide),if_neg (by decide)];simp
  have ecc:t*(((c::cs).count true:Nat):Int)=t*(cs.count true:Nat)+(if c=true then t else 0):=by
   cases c with
   |true=>rw[List.count_cons_self,z92,Int.mul_add,if_pos rfl];simp
   |false=>rw[List.count_cons_of_ne (by decide),if_neg (by decide)];simp
  rw[eb,ecc];generalize t*((bs.count true:Nat):Int)=x at *;generalize t*((cs.count true:Nat):Int)=y at *;cases b with
  |true=>
   have:=h0.1 rfl;cases c<;>simp<;>omega
  |false=>
   have:=h0.2 rfl;cases c<;>simp<;>omega
theorem iJ {zs ms:List Int}{lo many free:Nat}{bs cs:List Bool}(s:rR (zp (lo:Int) many) zs ms)(hz:lo+many<=zs.length)(hb:bs.length=zs.length)(h:∀q,q<many->bs.getD (ms.getD q 0).toNat false=decide (q<free))(f0:0<free)(hf:free<=many)(h0:∀z∈zs,0<=z)
  (hc:cs.length=many) (hn:free<=cs.count true):zG ((zs.drop lo).take many) ((bs.drop lo).take many)<=zG ((zs.drop lo).take many) cs:=by
 have hl:ms.length=many:=by rw[s.1.length_eq,zc]
 have lz:((zs.drop lo).take many).length=many:=by rw[zZ4,z49];omega
 have lb:((bs.drop lo).take many).length=many:=by rw[zZ4,z49];omega
 have gb:∀a,a<many->((bs.drop lo).take many).getD a false=bs.getD (lo+a) false:=fun a ha=>by rw[zW8,zW8,yb3 ha,z93]
 have gz:∀a,a<many->((zs.drop lo).take many).getD a 0=zs.getD (lo+a) 0:=fun a ha=>by rw[zW8,zW8,yb3 ha,z93]
 have up:∀p q,p<q->q<many->zs.getD (ms.getD p 0).toNat 0<=zs.getD (ms.getD q 0).toNat 0:=fun p q hpq hq=>by
  have w:=ya5.mp s.2 p q (by omega) (by omega) hpq;have w:=z70 (show decide _=false from w);simp only[keyOf] at w;rw[zW8 (l:=ms),zW8 (l:=ms),zW6 (by omega),zW6 (by omega)];simp only[Option.getD_some];omega
 have line:=ku (t:=zs.getD (ms.getD (free-1) 0).toNat 0) (zs:=(zs.drop lo).take many) (bs:=(bs.drop lo).take many) (cs:=cs) (by rw[lb,lz]) (by rw[hc,lz]) fun i hi=>by
  rw[lz] at hi;rw[gb i hi,gz i hi];obtain⟨q,hq,e⟩:=zJ1 s (m:=((lo+i:Nat):Int)) (by omega) (by omega);have fq:=h q hq;rw[e,z30] at fq;have eq:zs.getD (lo+i) 0=zs.getD (ms.getD q 0).toNat 0:=by rw[e,z30]
  rw[fq,eq]
  constructor
  ·intro hd;have hd:=z21 hd;by_cases he:q=free-1
   ·rw[he];exact z23 _
   ·exact up q (free-1) (by omega) (by omega)
  ·intro hd;have hd:=z70 hd;exact up (free-1) q (by omega) hq
 have hcnt:=tK s (by omega) h hf;rw[hcnt] at line;have t0:0<=zs.getD (ms.getD (free-1) 0).toNat 0:=by
  have:=ug s (q:=free-1) (by omega);have hlt:(ms.getD (free-1) 0).toNat<zs.length:=by omega
  rw[zW8 (l:=zs),zW6 hlt];exact h0 _ (z28 _)
 generalize zs.getD (ms.getD (free-1) 0).toNat 0=t at *;have:t*(free:Nat)<=t*(cs.count true:Nat):=Int.mul_le_mul_of_nonneg_left (by omega) t0;omega
theorem pI {zs ys:List Int}{many free free':Nat}{bs cs:List Bool}(mk:uH zs many free zs.length bs)(mk':uH ys many free' ys.length cs)(hl:ys.length=zs.length)(f0:0<free)(hff:free<=free')(hf:free'<=many)(h0:∀z∈zs,0<=z):
  ∀k,k<=zs.length / many->zG (zs.take (k*many)) (bs.take (k*many))<=zG (zs.take (k*many)) (cs.take (k*many))
 |0,_=>by simp[zG]
 |k+1,hk=>by
  obtain⟨ms,s,f⟩:=mk.2.2 k hk;obtain⟨ms',s',f'⟩:=mk'.2.2 k (by rw[hl];exact hk);have hkm:(k+1)*many<=zs.length:=z24 (yd7 _ hk) (Nat.div_mul_le_self _ _);rw[Nat.add_mul,Nat.one_mul] at hkm ⊢;have b1:=mk.1;have c1:=mk'.1;have ih:=pI mk mk' hl f0 hff hf h0 k (by omega);have one:=iJ (cs:=(cs.drop (k*many)).take many) s hkm b1 f f0 (by omega) h0 (by rw[zZ4,z49];omega) (by rw[tK s' (by omega) f' hf];exact hff);rw[List.take_add,List.take_add,List.take_add,ui (by rw[zZ4,zZ4];omega),ui (by rw[zZ4,zZ4];omega)];omega
theorem bV {zs:List Int}{many free:Nat}{bs:List Bool}(ys:List Int)(hy:ys.length=zs.length)(mk:uH zs many free zs.length bs):zG ys bs=zG (ys.take (zs.length / many*many)) (bs.take (zs.length / many*many)):=by
 have hw:=Nat.div_mul_le_self zs.length many;have b1:=mk.1;have e1:zG ys bs=zG (ys.take (zs.length / many*many)++ys.drop (zs.length / many*many)) (bs.take (zs.length / many*many)++bs.drop (zs.length / many*many)):=by rw[List.take_append_drop,List.take_append_drop]
 rw[e1,ui (by rw[zZ4,zZ4];omega),uC (zs:=ys.drop _) (bs:=bs.drop _) fun b hb=>?_,Int.add_zero];obtain⟨j,hj,rfl⟩:=z98.mp hb;rw[List.getElem_drop];rw[z49] at hj;have:=mk.2.1 (zs.length / many*many+j) (by omega);rw[zW8,zW6 (by omega)] at this;exact this
theorem za8 {zs ys:List Int}{many free free':Nat}{bs cs:List Bool}(mk:uH zs many free zs.length bs)(mk':uH ys many free' ys.length cs)(hl:ys.length=zs.length)(f0:0<free)(hff:free<=free')(hf:free'<=many)(h0:∀z∈zs,0<=z):zG zs bs<=zG zs cs:=by
 have e2:=bV zs hl.symm mk';rw[hl] at e2;rw[bV zs rfl mk,e2];exact pI mk mk' hl f0 hff hf h0 _ (zW9 _)
def zc0 (d:PyData):Prop:=d=.none\/∃many free:Nat,d=.tuple [.int many,.int free]/\0<free/\free<many/\many<64
theorem lP {many free:Nat}{zs:List Int}{bs:List Bool}(h:wO (.tuple [.int many,.int free]) zs bs):uH zs many free zs.length bs:=by
 rcases h with ⟨h,_⟩|⟨m',f',h,mk⟩
 ·cases h
 ·injection h with h;injection h with h1 h2;injection h2 with h2 _;injection h1 with h1;injection h2 with h2;have e1:m'=many:=by omega
  have e2:f'=free:=by omega
  rw[e1,e2] at mk;exact mk
theorem mZ {zs:List Int}{bs:List Bool}(h:wO .none zs bs):zG zs bs=0:=by
 rcases h with ⟨_,rfl⟩|⟨_,_,h,_⟩
 ·exact uC fun b hb=>(List.mem_replicate.mp hb).2
 ·cases h
theorem jw {d:PyData}{zs ys:List Int}{bs cs:List Bool}{e:Int}(hb:wO d zs bs)(hc:wO d ys cs)(hd:zc0 d)(hl:ys.length=zs.length)(hs:ys.sum=zs.sum+e)(hle:∀i,i<zs.length->zs.getD i 0<=ys.getD i 0)(h0:∀z∈zs,0<=z)(h1:∀z∈ys,0<=z):
  (yI zs bs).sum<=(yI ys cs).sum/\(yI ys cs).sum<=(yI zs bs).sum+e:=by
 rw[uF hb.len,uF hc.len,hs];rcases hd with rfl|⟨many,free,rfl,f0,fm,_⟩
 ·rw[mZ hb,mZ hc];have:=vC (bs:=[]) hl hs hle;have e1:zG ys []=0:=by cases ys<;>rfl
  have e2:zG zs []=0:=by cases zs<;>rfl
  rw[e1,e2] at this;omega
 ·have mk:=lP hb;have mk':=lP hc;have a1:=za8 mk mk' hl f0 (zW9 _) (by omega) h0;have a2:=za8 mk' mk hl.symm f0 (zW9 _) (by omega) h1;have a3:=mS (bs:=cs) hl hle;have a4:=vC (bs:=bs) hl hs hle;omega
section
variable {κ:Type}[DecidableEq κ]
noncomputable def sk (kvs:List (κ×V))(k:κ):Option V:=(kvs.find? fun kv=>decide (kv.1=k)).map (·.2)
noncomputable def putK (kvs:List (κ×V))(k:κ)(v:V):List (κ×V):=
 if (kvs.any fun kv=>decide (kv.1=k))=true then kvs.map (fun kv=>if kv.1=k then (kv.1,v) else kv) else kvs++[(k,v)]
theorem uY {p:κ×V}{r:List (κ×V)}{k:κ}(e:p.1=k):sk (p::r) k=some p.2:=by simp[sk,z41,e]
theorem vQ {p:κ×V}{r:List (κ×V)}{k:κ}(e:¬p.1=k):sk (p::r) k=sk r k:=by simp[sk,z41,e]
theorem qm (k:κ):∀kvs:List (κ×V),(kvs.any fun kv=>decide (kv.1=k))=(sk kvs k).isSome
 |[]=>rfl
 |p::r=>by
  rw[z75];by_cases e:p.1=k
  ·simp only[uY e,z02 e,yd9,Option.isSome_some]
  ·rw[vQ e,zZ1 e,z77];exact qm k r
theorem ua (kvs:List (κ×V))(k:κ)(v:V):(putK kvs k v).length<=kvs.length+1:=by
 unfold putK;split
 ·rw[zW3];omega
 ·rw[zY6,zX9,ya9];omega
theorem uq.isSome_eq {o:Option V}{u:Option Value}(r:uq o u):o.isSome=u.isSome:=by
 cases o with
 |none=>cases u with
  |none=>rfl
  |some _=>exact (show False from r).elim
 |some _=>cases u with
  |none=>exact (show False from r).elim
  |some _=>rfl
theorem KV.val {kvs:List (κ×V)}{vs:List (κ×Value)}(r:KV kvs vs)(k:κ):uq (sk kvs k) (valueAt vs k):=by
 unfold KV at r
 induction r with
 |nil=>exact True.intro
 |@cons p q ps qs h t ih=>
  obtain⟨h1,h2⟩:=h;by_cases e:p.1=k
  ·have e':q.1=k:=h1.symm.trans e;have b:valueAt (q::qs) k=some q.2:=by simp[valueAt,z41,e']
   rw[uY e,b];exact h2
  ·have e':¬q.1=k:=fun z=>e (h1.trans z);have b:valueAt (q::qs) k=valueAt qs k:=by simp[valueAt,z41,e']
   rw[vQ e,b];exact ih
theorem KV.any {kvs:List (κ×V)}{vs:List (κ×Value)}(r:KV kvs vs)(k:κ):(kvs.any fun kv=>decide (kv.1=k))=vs.any fun kv=>decide (kv.1=k):=by
 unfold KV at r
 induction r with
 |nil=>rfl
 |cons h t ih=>rw[z75,z75,ih,h.1]
theorem KV.repl {kvs:List (κ×V)}{vs:List (κ×Value)}(r:KV kvs vs)(k:κ){y:V}{u:Value}(ry:RelV y u):
  KV (kvs.map fun kv=>if kv.1=k then (kv.1,y) else kv) (vs.map fun kv=>if kv.1=k then (kv.1,u) else kv):=by
 unfold KV at r ⊢
 induction r with
 |nil=>exact .nil
 |@cons p q ps qs h t ih=>
  rw[zY2,zY2];refine .cons ?_ ih;obtain⟨h1,h2⟩:=h;by_cases e:p.1=k
  ·rw[if_pos e,if_pos (h1.symm.trans e)];exact⟨h1,ry⟩
  ·rw[if_neg e,if_neg (fun z=>e (h1.trans z))];exact⟨h1,h2⟩
theorem KV.put {kvs:List (κ×V)}{vs:List (κ×Value)}(r:KV kvs vs)(k:κ){y:V}{u:Value}(ry:RelV y u):KV (putK kvs k y) (stored vs k u):=by
 unfold putK stored;rw[r.any k];by_cases e:(vs.any fun kv=>decide (kv.1=k))=true
 ·rw[if_pos e,if_pos e];exact r.repl k ry
 ·rw[if_neg e,if_neg e];exact Paired.snoc r ⟨rfl,ry⟩
theorem KV.length {kvs:List (κ×V)}{vs:List (κ×Value)}(r:KV kvs vs):kvs.length=vs.length:=Paired.length r
end
theorem pS {P:Program}{w:World}{k:Key}{u:Value}(r:RelV (kV k) u):(yh P w).is k u=true:=by
 cases k with
 |inl i=>obtain⟨t,e⟩:=(show ∃t,u=Value.int i t from r);subst e;exact lB P w i t
 |inr x=>obtain⟨t,e⟩:=(show ∃t,u=Value.str x t from r);subst e;exact ly P w x t
theorem oy {P:Program}{w:World}:∀{ks:List Key} {us:List Value},Vals (ks.map kV) us->ItemsAre (yh P w) ks us
 |[],_,r=>by rw[yb4] at r;cases r;exact .nil
 |k::ks,_,r=>by
  rw[zY2] at r;cases r with
  |cons h t=>exact .cons (pS h) (oy t)
abbrev KT (H:Hp):List (List Key×V)->List (List Key×Addr×Value)->Prop:=Paired fun p q=>p.1=q.1/\H q.2.1=some (.tup (p.1.map kV))/\RelV p.2 q.2.2
theorem KT.val {H:Hp}{kvs:List (List Key×V)}{xs:List (List Key×Addr×Value)}(r:KT H kvs xs)(k:List Key):uq (sk kvs k) ((atKey xs k).map (·.2)):=by
 induction r with
 |nil=>exact True.intro
 |@cons p q ps qs h t ih=>
  obtain⟨h1,_,h2⟩:=h;by_cases e:p.1=k
  ·have e':q.1=k:=h1.symm.trans e;have b:atKey (q::qs) k=some q.2:=by simp[atKey,z41,e']
   rw[uY e,b];exact h2
  ·have e':¬q.1=k:=fun z=>e (h1.trans z);have b:atKey (q::qs) k=atKey qs k:=by simp[atKey,z41,e']
   rw[vQ e,b];exact ih
theorem KT.repl {H:Hp}{kvs:List (List Key×V)}{xs:List (List Key×Addr×Value)}(r:KT H kvs xs)(k:List Key){y:V}{u:Value}(ry:RelV y u):
  KT H (kvs.map fun kv=>if kv.1=k then (kv.1,y) else kv) (xs.map (putAt k u)):=by
 induction r with
 |nil=>exact .nil
 |@cons p q ps qs h t ih=>
  rw[zY2,zY2];refine .cons ?_ ih;obtain⟨h1,h2,h3⟩:=h;unfold putAt;by_cases e:p.1=k
  ·rw[if_pos e,if_pos (h1.symm.trans e)];exact⟨h1,h2,ry⟩
  ·rw[if_neg e,if_neg (fun z=>e (h1.trans z))];exact⟨h1,h2,h3⟩
theorem KT.put {H:Hp}{kvs:List (List Key×V)}{xs:List (List Key×Addr×Value)}(r:KT H kvs xs)(k:List Key){b:Addr}{y:V}{u:Value}(hb:H b=some (.tup (k.map kV)))(ry:RelV y u):
  KT H (putK kvs k y) (storedH xs k b u):=by
 have e:(kvs.any fun kv=>decide (kv.1=k))=(atKey xs k).isSome:=by rw[qm,(r.val k).isSome_eq,z53]
 unfold putK storedH;rw[e];by_cases q:(atKey xs k).isSome=true
 ·rw[if_pos q,if_pos q];exact r.repl k ry
 ·rw[if_neg q,if_neg q];exact Paired.snoc r ⟨rfl,hb,ry⟩
theorem KT.keeps {H H':Hp}{kvs:List (List Key×V)}{xs:List (List Key×Addr×Value)}(r:KT H kvs xs)(ht:∀b ys,H b=some (.tup ys)->H' b=some (.tup ys)):KT H' kvs xs:=
 Paired.mapP r fun _ _ z=>⟨z.1,ht _ _ z.2.1,z.2.2⟩
section
variable {P:Program}{w:World}{H:Hp}{h:Heap}{a:Addr}
theorem zz1 {u:HO}(ok:HOk P w H h)(e:Rd H a u):zS P w H h a u:=e.ok ok
theorem oq {kvs:List (Key×V)}(ok:HOk P w H h)(e:Rd H a (.dK kvs)):kvs.length<=sizeLine/\(a == sysModules)=false/\∃vs,KV kvs vs/\h.DictOf (yh P w) a vs:=
 show zS P w H h a (.dK kvs) from zz1 ok e
theorem zy2 {kvs:List (Key×V)}(ok:HOk P w H h)(e:H a=some (.dK kvs)):kvs.length<=sizeLine/\(a == sysModules)=false/\∃vs,KV kvs vs/\h.DictOf (yh P w) a vs:=oq ok (.inl e)
theorem qL {ks:List Key}(ok:HOk P w H h)(e:H a=some (.tup (ks.map kV))):(tupleKind (yh P w)).is h ks a:=by
 obtain⟨_,its,r,o,h1,h2,n,h3⟩:=(show zS P w H h a (.tup (ks.map kV)) from ok a _ e);exact⟨o,its.toArray,n,h1,h2,h3,by simpa using oy r⟩
theorem pT {kvs:List (List Key×V)}(ok:HOk P w H h)(e:Rd H a (.dT kvs)):kvs.length<=sizeLine/\(a == sysModules)=false/\
  ∃xs,KT H kvs xs/\h.DictOfH (tupleKind (yh P w)) a xs:=by
 obtain⟨z,y,xs,r,o,es,ep,h1,h2,h3,h4,h5⟩:=(show zS P w H h a (.dT kvs) from zz1 ok e);refine⟨z,y,xs,r,o,es,ep,h1,h2,h3,h4,fun x hx=>?_,h5⟩;have all:∀{l:List (List Key×V)} {m:List (List Key×Addr×Value)},KT H l m->∀x∈m,(tupleKind (yh P w)).is h x.1 x.2.1:=by
  intro l m q
  induction q with
  |nil=>intro x hx;exact nomatch hx
  |@cons p q ps qs hq t ih=>
   intro x hx;rcases zX0.mp hx with e|hx
   ·subst e;exact qL ok (by rw[<-hq.1];exact hq.2.1)
   ·exact ih x hx
 exact all r x hx
theorem zL3 {kvs:List (List Key×V)}(ok:HOk P w H h)(e:H a=some (.dT kvs)):kvs.length<=sizeLine/\(a == sysModules)=false/\
  ∃xs,KT H kvs xs/\h.DictOfH (tupleKind (yh P w)) a xs:=pT ok (.inl e)
end
def jj (H:Hp)(a:Addr)(y:V)(r:Option V):Prop:=
 (∃kvs k,Rd H a (.dK kvs)/\y=kV k/\r=sk kvs k)\/∃kvs k b,Rd H a (.dT kvs)/\y=.ref b/\H b=some (.tup (k.map kV))/\r=sk kvs k
def zb9 (H:Hp)(a:Addr)(y v:V)(H':Hp):Prop:=
 (∃kvs k,H a=some (.dK kvs)/\y=kV k/\kvs.length<sizeLine/\H'=upd H a (.dK (putK kvs k v)))\/
 ∃kvs k b,H a=some (.dT kvs)/\y=.ref b/\H b=some (.tup (k.map kV))/\kvs.length<sizeLine/\H'=upd H a (.dT (putK kvs k v))
theorem zb9.k {H:Hp}{a:Addr}{kvs:List (Key×V)}{k:Key}{v:V}(e:H a=some (.dK kvs))(hl:kvs.length<sizeLine):zb9 H a (kV k) v (upd H a (.dK (putK kvs k v))):=.inl ⟨kvs,k,e,rfl,hl,rfl⟩
section
variable {X:Cx}{pins:List (Addr×Obj)}{σ:St}{H:Hp}{s:Shared}{a:Addr}{y v:V}{u r:Value}{o:Option V}{A:Around}{E:Value->Shared->Prop}
theorem Inv.big (I:Inv X pins σ H s):sysModules<s.heap.objs.size:=by
 have h:mainGlobals<s.heap.objs.size:=(I.mod.glob.keeps I.bk).lt;exact Nat.lt_trans (by decide) h
theorem cz {Q:Value->Shared->Prop}(hu:A.units+1<cLine)(I:Inv X pins σ H s)(g:jj H a y (some v))(ry:RelV y u)(h:∀w' s',Inv X pins σ H s'->RelV v w'->Q w' s'):
  wpAny (model X.prog X.w) A (getItem (.ref a) u) Q E s:=by
 rcases g with ⟨kvs,k,e,ey,l⟩|⟨kvs,k,b,e,ey,eb,l⟩
 ·subst ey;obtain⟨z,hd,vs,rel,dd⟩:=oq I.hok e;obtain⟨w',hw,rw'⟩:=uq.some_of (v:=v) (o:=valueAt vs k) (by rw[l];exact rel.val k);exact wpAny_getItem_of (pS ry) dd.mapOf hw (h w' _ (I.tok _) rw')
 ·subst ey;cases (show u=Value.ref b from ry);obtain⟨z,hd,xs,rel,dd⟩:=pT I.hok e;obtain⟨w',hw,rw'⟩:=uq.some_of (v:=v) (o:=(atKey xs k).map (·.2)) (by rw[l];exact rel.val k);obtain⟨p,hp,hp2⟩:=zY0.mp hw;refine wpAny_getItem_heap (yb6 hu) (qL I.hok eb) dd hp ?_;rw[hp2];exact h w' _ (I.tok _) rw'
theorem zU3 {Q:Value->Shared->Prop}(hu:A.units+1<cLine)(I:Inv X pins σ H s)(g:jj H a y o)(ry:RelV y u)(h:∀s',Inv X pins σ H s'->Q (.bool o.isSome) s'):
  wpAny (model X.prog X.w) A (compareOp .In u (.ref a)) Q E s:=by
 rcases g with ⟨kvs,k,e,ey,l⟩|⟨kvs,k,b,e,ey,eb,l⟩
 ·subst ey;obtain⟨z,hd,vs,rel,dd⟩:=oq I.hok e;refine wpAny_in_of (pS ry) hd dd.mapOf ?_;rw[<-(rel.val k).isSome_eq,<-l];exact h _ (I.tok _)
 ·subst ey;cases (show u=Value.ref b from ry);obtain⟨z,hd,xs,rel,dd⟩:=pT I.hok e;refine wpAny_in_heap (yb6 hu) (qL I.hok eb) hd dd ?_;have q:=(rel.val k).isSome_eq;rw[z53] at q;rw[<-q,<-l];exact h _ (I.tok _)
theorem zw1 {Q:Value->Shared->Prop}(hu:A.units+1<cLine)(I:Inv X pins σ H s)(g:jj H a y o)(ry:RelV y u)(h:∀s',Inv X pins σ H s'->Q (.bool (!o.isSome)) s'):
  wpAny (model X.prog X.w) A (compareOp .NotIn u (.ref a)) Q E s:=by
 rcases g with ⟨kvs,k,e,ey,l⟩|⟨kvs,k,b,e,ey,eb,l⟩
 ·subst ey;obtain⟨z,hd,vs,rel,dd⟩:=oq I.hok e;refine wpAny_notIn_of (pS ry) hd dd.mapOf ?_;rw[<-(rel.val k).isSome_eq,<-l];exact h _ (I.tok _)
 ·subst ey;cases (show u=Value.ref b from ry);obtain⟨z,hd,xs,rel,dd⟩:=pT I.hok e;refine wpAny_notIn_heap (yb6 hu) (qL I.hok eb) hd dd ?_;have q:=(rel.val k).isSome_eq;rw[z53] at q;rw[<-q,<-l];exact h _ (I.tok _)
theorem nO {h':Heap}{t':Nat}{ob:HO}(I:Inv X pins σ H s)(mu:Mut (H a))(hs:Heap.SameBut a s.heap h')(he:∃q,h'.get? a=some q)(new:zS X.prog X.w (upd H a ob) h' a ob):
  Inv X pins σ (upd H a ob) {s with heap:=h',toks:=t'}:=
 I.write (x:=a) (e:=a) mu (.inl rfl) (fun b q hb z=>(hs.2 b hb).trans z) he new
theorem aL {P:Program}{w:World}{H':Hp}{h':Heap}{kvs:List (Key×V)}{vs:List (Key×Value)}(z:kvs.length<=sizeLine)(hd:(a == sysModules)=false)(rel:KV kvs vs)(dd:h'.DictOf (yh P w) a vs):
  zS P w H' h' a (.dK kvs):=⟨z,hd,vs,rel,dd⟩
theorem bp {H':Hp}{Q:Unit->Shared->Prop}(hu:A.units+1<cLine)(I:Inv X pins σ H s)(g:zb9 H a y v H')(ry:RelV y u)(rv:RelV v r)(h:∀s',Inv X pins σ H' s'->Q () s'):
  wpAny (model X.prog X.w) A (setItem (.ref a) u r) Q E s:=by
 rcases g with ⟨kvs,k,e,ey,l,eH⟩|⟨kvs,k,b,e,ey,eb,l,eH⟩
 ·subst ey eH;obtain⟨z,hd,vs,rel,dd⟩:=zy2 I.hok e;have hz:vs.length<=sizeLine:=by rw[<-rel.length];exact z
  have hl:(putK kvs k v).length<=sizeLine:=by have:=ua kvs k v;omega
  refine wpAny_setItem_pairs (hsz:=hz) (pS ry) dd fun h' dd' hs=>h _ ?_;have he:∃q,h'.get? a=some q:=let ⟨q,_,_,hq,_⟩:=dd';⟨q,hq⟩;exact nO I (by rw[e];exact True.intro) hs he (aL hl hd (rel.put k rv) dd')
 ·subst ey eH;cases (show u=Value.ref b from ry);obtain⟨z,hd,xs,rel,dd⟩:=zL3 I.hok e;have hz:xs.length<=sizeLine:=by rw[<-Paired.length rel];exact z
  have hl:(putK kvs k v).length<=sizeLine:=by have:=ua kvs k v;omega
  refine wpAny_setItem_heap (hsz:=hz) (yb6 hu) (qL I.hok eb) dd fun h' dd' hs=>h _ ?_;obtain⟨q,es,ep,hq,h2,h3,h4,_,h5⟩:=dd';refine nO I (by rw[e];exact True.intro) hs ⟨q,hq⟩ ⟨hl,hd,_,(rel.put k eb rv).keeps fun c ys ec=>?_,q,es,ep,hq,h2,h3,h4,h5⟩;rw[zg (za5 ec e (fun z=>nomatch z))];exact ec
end
section
variable {X:Cx}{pins:List (Addr×Obj)}{σ:St}{H:Hp}{s:Shared}{a:Addr}{kvs:List (Key×V)}{k:Key}{u:Value}{A:Around}{E:Value->Shared->Prop}
end
theorem kH {X:Cx}{pins:List (Addr×Obj)}{σ:St}{H:Hp}{s:Shared}{a:Addr}{y:V}{o:Option V}(I:Inv X pins σ H s)(g:jj H a y o):s.TypeIs (.ref a) "dict":=by
 rcases g with ⟨kvs,k,e,_,_⟩|⟨kvs,k,b,e,_,_,_⟩
 ·obtain⟨_,_,vs,_,dd⟩:=oq I.hok e;exact dd.typeIs
 ·obtain⟨_,_,xs,_,dd⟩:=pT I.hok e;exact dd.typeIs
def zO3 (td ty tv:TE):TS:=fun D σ H=>tv σ H fun v H1=>td σ H1 fun x H2=>ty σ H2 fun y H3=>∃a H4,x=.ref a/\zb9 H3 a y v H4/\D.nx σ H4
section
variable {X:Cx}{o i e value:Expr}{pos pos' tpos:Pos}{td ty tv:TE}
theorem zn1 (hu:X.A.units+1<cLine)(ho:PE X o td)(hi:PE X i ty)(hv:PE X value tv)(hs:swapsWith value (some (.Subscript o i pos')) pos.line X.env=pure false):
  PS X (.Assign [.Subscript o i pos'] value pos) (zO3 td ty tv):=by
 intro pins s σ H D I h;refine wpAny_Assign_Subscript (thn (hv pins s σ H _ I h) fun r s1 ⟨v,H1,I1,rv,q1⟩=>thn (ho pins s1 σ H1 _ I1 q1) fun u s2 ⟨x,H2,I2,rx,q2⟩=>thn (hi pins s2 σ H2 _ I2 q2) fun iv s3 ⟨y,H3,I3,ry,a,H4,ex,g,q3⟩=>?_) hs;subst ex;obtain rfl:u=Value.ref a:=rx;exact bp hu I3 g ry rv fun s4 I4=>⟨σ,H4,I4,q3⟩
end
theorem za9 {P:Program}{w:World}{H:Hp}(h:Heap)(hb:sysModules<h.objs.size):zS P w H (h.push {cls:=.type "dict",data:=.dict #[]}) h.objs.size (.dK []):=
 ⟨zY8 _,z63.mpr (zZ8 (zY4 hb)),[],.nil,Heap.DictOf.new h⟩
section
variable {X:Cx}{pos:Pos}
end
def jy :List (TE×TE)->St->Hp->(List (V×V)->Hp->Prop)->Prop
 |[],_,H,Q=>Q [] H
 |(tk,tv)::r,σ,H,Q=>tk σ H fun x H1=>tv σ H1 fun y H2=>jy r σ H2 fun ps H3=>Q ((x,y)::ps) H3
abbrev VV :List (V×V)->List (Value×Value)->Prop:=Paired fun p q=>RelV p.1 q.1/\RelV p.2 q.2
def PPs (X:Cx)(pos:Pos)(keys:List (Option Expr))(values:List Expr)(trs:List (TE×TE)):Prop:=
 ∀(pins:List (Addr×Obj)) (s:Shared) (σ:St) (H:Hp) (Q:List (V×V)->Hp->Prop),Inv X pins σ H s->jy trs σ H Q->
  wpAny (model X.prog X.w) X.A (evalPairs (pairTrees keys values X.env pos)) (fun vs s'=>∃ps H',Inv X pins σ H' s'/\VV ps vs/\Q ps H') X.xe s
theorem zo7 {X:Cx}{pos:Pos}:PPs X pos [] [] []:=fun pins s σ H Q I h=>pairTrees_nil_walk ⟨[],H,I,.nil,h⟩
theorem ze0 {X:Cx}{pos:Pos}{k v:Expr}{ks:List (Option Expr)}{vs:List Expr}{tk tv:TE}{trs:List (TE×TE)}(hk:PE X k tk)(hv:PE X v tv)(hr:PPs X pos ks vs trs):
  PPs X pos (some k::ks) (v::vs) ((tk,tv)::trs):=fun pins s σ H Q I h=>
 pairTrees_cons_walk (thn (hk pins s σ H _ I h) fun u s1 ⟨x,H1,I1,rx,q1⟩=>thn (hv pins s1 σ H1 _ I1 q1) fun w2 s2 ⟨y,H2,I2,ry,q2⟩=>
  thn (hr pins s2 σ H2 _ I2 q2) fun ws s3 ⟨ps,H3,I3,rel,q3⟩=>⟨(x,y)::ps,H3,I3,.cons ⟨rx,ry⟩ rel,q3⟩)
noncomputable def sv (kvs more:List (Key×V)):List (Key×V):=more.foldl (fun acc kv=>putK acc kv.1 kv.2) kvs
theorem KV.merge :∀{more:List (Key×V)} {rs:List (Key×Value)} {kvs:List (Key×V)} {vs:List (Key×Value)},KV more rs->KV kvs vs->KV (sv kvs more) (merged vs rs):=by
 intro more rs kvs vs r;unfold KV at r
 induction r generalizing kvs vs with
 |nil=>intro q;exact q
 |@cons p q ps qs h t ih=>
  intro r0;have e:KV (putK kvs p.1 p.2) (stored vs q.1 q.2):=by
   have:=r0.put p.1 h.2;rw[<-h.1];exact this
  exact ih e
theorem uv :∀(more kvs:List (Key×V)),(sv kvs more).length<=kvs.length+more.length
 |[],kvs=>by show kvs.length<=kvs.length+0;omega
 |p::r,kvs=>by
  have h1:=uv r (putK kvs p.1 p.2);have h2:=ua kvs p.1 p.2;show (sv (putK kvs p.1 p.2) r).length<=_;rw[zX9];omega
theorem rX {P:Program}{w:World}:∀{kvs:List (Key×V)} {ws:List (Value×Value)},VV (kvs.map fun kv=>(kV kv.1,kv.2)) ws->∃rs,Carries (yh P w) ws rs/\KV kvs rs
 |[],_,r=>by rw[yb4] at r;cases r;exact⟨[],True.intro,.nil⟩
 |p::kvs,_,r=>by
  rw[zY2] at r;cases r with
  |@cons a b as bs h t=>
   obtain⟨rs,c,q⟩:=rX (P:=P) (w:=w) t;obtain⟨b1,b2⟩:=b;exact⟨(p.1,b2)::rs,⟨pS h.1,rfl,c⟩,.cons ⟨rfl,h.2⟩ q⟩
def zM2 (trs:List (TE×TE)):TE:=fun σ H Q=>∀p,H p=none->jy trs σ (upd H p (.dK [])) fun ps H2=>H2 p=some (.dK [])/\∃kvs:List (Key×V),ps=kvs.map (fun kv=>(kV kv.1,kv.2))/\kvs.length<=15/\Q (.ref p) (upd H2 p (.dK (sv [] kvs)))
theorem zu5 {X:Cx}{pos:Pos}{keys:List (Option Expr)}{values:List Expr}{trs:List (TE×TE)}(h:PPs X pos keys values trs)(hall:keys.all (·.isSome)=true)(hl:keys.length=values.length)(h0:keys≠[])
  (h15:keys.length<=15):PE X (.Dict keys values pos) (zM2 trs):=by
 intro pins s σ H Q I q;have hn:=I.hok.fresh (zW9 s.heap.objs.size);have I1:=I.laid (a:=s.heap.objs.size) (o:=.dK []) (h':=s.heap.push {cls:=.type "dict",data:=.dict #[]}) (t':=s.toks) (fun _ _ q=>zW5 _ q) (zW9 _) (za9 s.heap I.big);refine wpAny_Dict_walk (knd:=yh X.prog X.w) hall hl h0 h15 (thn (h pins _ σ _ _ I1 (q _ hn)) fun ws s2 ⟨ps,H2,I2,rel,e,kvs,ep,lk,q2⟩=>?_);subst ep;obtain⟨rs,c,rk⟩:=rX (P:=X.prog) (w:=X.w) rel;obtain⟨z,hd,vs0,r0,dd⟩:=zy2 I2.hok e;cases r0;refine⟨rs,c,dd,fun h' dd' hs=>⟨.ref s.heap.objs.size,_,?_,rfl,q2⟩⟩;have hz:(sv [] kvs).length<=sizeLine:=by
  have h1:=uv kvs [];rw[ya9] at h1;rw[z34];omega
 have he:∃q,h'.get? s.heap.objs.size=some q:=let ⟨q,_,_,hq,_⟩:=dd';⟨q,hq⟩;exact nO I2 (by rw[e];exact True.intro) hs he (aL hz hd (rk.merge .nil) dd')
def IsD (H:Hp)(a:Addr):Prop:=(∃kvs,Rd H a (.dK kvs))\/∃kvs,Rd H a (.dT kvs)
theorem zE1 {X:Cx}{pins:List (Addr×Obj)}{σ:St}{H:Hp}{s:Shared}{a:Addr}(I:Inv X pins σ H s)(d:IsD H a):
  s.TypeIs (.ref a) "dict"/\(∀b,Value.ref a=.ref b->∃ob,s.heap.get? b=some ob/\ob.dict=none)/\(a == sysModules)=false:=by
 rcases d with ⟨kvs,e⟩|⟨kvs,e⟩
 ·obtain⟨_,hd,vs,_,dd⟩:=oq I.hok e;refine⟨dd.typeIs,fun b q=>?_,hd⟩;cases q;obtain⟨ob,_,_,h1,h2,_⟩:=dd;exact⟨ob,h1,h2.2.1⟩
 ·obtain⟨_,hd,xs,_,dd⟩:=pT I.hok e;refine⟨dd.typeIs,fun b q=>?_,hd⟩;cases q;obtain⟨ob,_,_,h1,h2,_⟩:=dd;exact⟨ob,h1,h2.2.1⟩
section
variable {X:Cx}{pins:List (Addr×Obj)}{σ:St}{H:Hp}{s:Shared}{a:Addr}{y d:V}{u r:Value}{o:Option V}{A:Around}{E:Value->Shared->Prop}
end
section
variable {X:Cx}{o e f:Expr}{apos cpos:Pos}{td ty tx:TE}
end
section
variable {X:Cx}{pins:List (Addr×Obj)}{σ:St}{H:Hp}{s:Shared}{a:Addr}{kvs:List (Key×V)}{A:Around}{E:Value->Shared->Prop}
end
section
variable {X:Cx}{pins:List (Addr×Obj)}{σ:St}{H:Hp}{s:Shared}{a:Addr}{y:V}{u:Value}{A:Around}{E:Value->Shared->Prop}
end
noncomputable def kEq :PyData->Key->Bool
 |.int i,.inl j=>decide (i=j)
 |.str x,.inr y=>decide (x=y)
 |_,_=>false
theorem uX (k j:Key):kEq (vj k) j=decide (k=j):=by
 cases k<;>cases j<;>simp[kEq,vj]
noncomputable def tP :List (PyData×PyData)->Key->Option PyData
 |[],_=>none
 |(p,d)::r,k=>if kEq p k=true then some d else tP r k
noncomputable def putD (ds:List (PyData×PyData))(k:Key)(d:PyData):List (PyData×PyData):=
 if (tP ds k).isSome=true then ds.map (fun p=>if kEq p.1 k=true then (p.1,d) else p) else ds++[(vj k,d)]
theorem AVk.get {H:Hp}:∀{kvs:List (Key×V)} {ds:List (PyData×PyData)} {k:Key} {d:PyData},AVk H kvs ds->tP ds k=some d->∃v,sk kvs k=some v/\AV H v d
 |_,_,k,d,.nil,e=>by cases e
 |_,_,k,d,.cons (k:=j) h r,e=>by
  unfold tP at e;rw[uX] at e;by_cases z:j=k
  ·rw[z02 z,if_pos rfl] at e;cases e;exact⟨_,uY z,h⟩
  ·rw[zZ1 z,if_neg (by decide)] at e;rw[vQ z];exact AVk.get r e
theorem AVk.none {H:Hp}:∀{kvs:List (Key×V)} {ds:List (PyData×PyData)} {k:Key},AVk H kvs ds->tP ds k=Option.none->sk kvs k=Option.none
 |_,_,k,.nil,e=>rfl
 |_,_,k,.cons (k:=j) h r,e=>by
  unfold tP at e;rw[uX] at e;by_cases z:j=k
  ·rw[z02 z,if_pos rfl] at e;cases e
  ·rw[zZ1 z,if_neg (by decide)] at e;rw[vQ z];exact AVk.none r e
theorem AVk.some_iff {H:Hp}{kvs:List (Key×V)}{ds:List (PyData×PyData)}(h:AVk H kvs ds)(k:Key):(sk kvs k).isSome=(tP ds k).isSome:=by
 cases e:tP ds k with
 |none=>rw[h.none e];rfl
 |some d=>
  obtain⟨v,hv,_⟩:=h.get e;rw[hv];rfl
theorem AVk.length {H:Hp}:∀{kvs:List (Key×V)} {ds:List (PyData×PyData)},AVk H kvs ds->kvs.length=ds.length
 |_,_,.nil=>rfl
 |_,_,.cons _ r=>by rw[zX9,zX9,AVk.length r]
theorem AVk.snoc {H:Hp}{k:Key}{v:V}{d:PyData}(a:AV H v d):∀{kvs:List (Key×V)} {ds:List (PyData×PyData)},AVk H kvs ds->AVk H (kvs++[(k,v)]) (ds++[(vj k,d)])
 |_,_,.nil=>.cons a .nil
 |_,_,.cons h r=>.cons h (AVk.snoc a r)
theorem AVk.repl {H:Hp}{k:Key}{v:V}{d:PyData}(a:AV H v d):∀{kvs:List (Key×V)} {ds:List (PyData×PyData)},AVk H kvs ds->AVk H (kvs.map fun kv=>if kv.1=k then (kv.1,v) else kv) (ds.map fun p=>if kEq p.1 k=true then (p.1,d) else p)
 |_,_,.nil=>.nil
 |_,_,.cons (k:=j) h r=>by
  rw[zY2,zY2];show AVk H ((if j=k then (j,v) else (j,_))::_) ((if kEq (vj j) k=true then (vj j,d) else (vj j,_))::_);rw[uX];by_cases z:j=k
  ·rw[if_pos z,z02 z,if_pos rfl];exact .cons a (AVk.repl a r)
  ·rw[if_neg z,zZ1 z,if_neg (by decide)];exact .cons h (AVk.repl a r)
theorem AVk.put {H:Hp}{kvs:List (Key×V)}{ds:List (PyData×PyData)}{k:Key}{v:V}{d:PyData}(h:AVk H kvs ds)(a:AV H v d):AVk H (putK kvs k v) (putD ds k d):=by
 unfold putK putD;rw[qm,h.some_iff];split
 ·exact h.repl a
 ·exact h.snoc a
theorem AVk.at {H:Hp}:∀{kvs:List (Key×V)} {ds:List (PyData×PyData)} {i:Nat} {p:PyData×PyData},AVk H kvs ds->ds[i]?=some p->∃k v,kvs[i]?=some (k,v)/\p.1=vj k/\AV H v p.2
 |_,_,_,_,.nil,e=>by simp at e
 |_,_,0,_,.cons h _,e=>by simp at e;subst e;exact⟨_,_,rfl,rfl,h⟩
 |_,_,i+1,p,.cons _ r,e=>by
  obtain⟨k,v,h1,h2⟩:=AVk.at (i:=i) (p:=p) r (by simpa using e);exact⟨k,v,by simpa using h1,h2⟩
theorem gK {H:Hp}(k:Key):AV H (kV k) (vj k):=by cases k with
 |inl i=>exact .int i
 |inr x=>exact .str x
theorem rn {H:Hp}{v:V}{k:Key}(h:AV H v (vj k)):v=kV k:=by
 cases k with
 |inl i=>exact h.int_inv
 |inr x=>exact h.str_inv
theorem AV.dk_inv {H:Hp}{v:V}{ds:List (PyData×PyData)}(h:AV H v (yP ds)):∃a o kvs,v=.ref a/\H a=some (.frz o (.dK kvs))/\AVk H kvs ds:=by
 generalize e:yP ds=d at h;cases h with
 |dk h1 h2=>cases e;exact⟨_,_,_,rfl,h1,h2⟩
 |_=>cases e
theorem cY {H:Hp}{l:Addr}{o:Obj}{u:HO}(h:H l=some (.frz o u)):Plain H l:=by
 first
 |exact trivial
 |(intro v e;rw[h] at e;cases e;exact⟨(fun z=>by cases z),fun ps z=>by cases z⟩)
section
variable {X:Cx}{pins:List (Addr×Obj)}{σ:St}{H:Hp}{s:Shared}{l:Addr}{kvs:List (Key×V)}
def zR9 (X:Cx)(l:Addr):Prop:=∀o u,X.H₀ l≠some (.frz o u)
theorem Inv.fz (I:Inv X pins σ H s)(h:H l=some (.dK kvs)):zR9 X l/\∃o,Inv X pins σ (upd H l (.frz o (.dK kvs))) s:=by
 refine⟨(fun o u z=>by rw[I.base.frzs _ _ _ z] at h;cases h),?_⟩;obtain⟨z,y,vs,r,ob,es,ep,e,c⟩:=(show zS X.prog X.w H s.heap l (.dK kvs) from I.hok l _ h);refine⟨ob,I.write (h':=s.heap) (t':=s.toks) (x:=l) (e:=l) (by rw[h];exact trivial) (.inl rfl) (fun b u _ q=>q) ⟨ob,e⟩ ?_⟩;exact⟨e,z,y,vs,r,ob,es,ep,e,c⟩
theorem Inv.unfz {o:Obj}(hx:zR9 X l)(I:Inv X pins σ H s)(h:H l=some (.frz o (.dK kvs))):Inv X pins σ (upd H l (.dK kvs)) s:=by
 have ne:∀{b:Addr},H b=none->upd H l (.dK kvs) b=none:=fun {b} e=>by rw[zg fun z=>by rw[z,h] at e;cases e];exact e
 refine⟨I.ok,I.os,I.bare,⟨I.base.keep,I.base.slot,fun b ob q n hx'=>ne (I.base.free b ob q n hx'),I.base.there,fun b xs q=>?_,fun b ob u q=>?_,fun b ps q=>?_⟩,I.loc,I.cell,ne I.free,fun x c e=>ne (I.freeC x c e),fun p hp=>?_,fun b u q=>?_,I.len⟩
 ·have:=I.base.tups b xs q;rw[zg fun z=>by rw[z,h] at this;cases this];exact this
 ·rw[zg fun z=>by rw[z] at q;exact hx _ _ q];exact I.base.frzs b ob u q
 ·obtain⟨more,this⟩:=I.base.tbls b ps q;exact⟨more,by rw[zg fun z=>by rw[z,h] at this;cases this];exact this⟩
 ·obtain⟨h1,h2,h3⟩:=I.pin p hp;exact⟨h1,ne h2,h3⟩
 ·have st:∀{b:Addr} {u:HO},zS X.prog X.w H s.heap b u->zS X.prog X.w (upd H l (.dK kvs)) s.heap b u:=fun {b u} x=>x.stay (fun _ _ _ q=>q)
   (fun c e=>by rw[zg fun z=>by rw[z,h] at e;cases e];exact e) fun c xs e=>by rw[zg fun z=>by rw[z,h] at e;cases e];exact e
  by_cases z:b=l
  ·subst z;rw[zk] at q;cases q;obtain⟨_,w⟩:=(show zS X.prog X.w H s.heap b (.frz o (.dK kvs)) from I.hok b _ h);exact st w
  ·rw[zg z] at q;exact st (I.hok b u q)
end
section
variable {X:Cx}{e:Expr}{sts:List Stmt}
theorem zz3 {t:TE}{l:Addr}{kvs:List (Key×V)}(h:PE X e t):PE X e (fun σ H Q=>H l=some (.dK kvs)/\∀o,t σ (upd H l (.frz o (.dK kvs))) fun v H2=>H2 l=some (.frz o (.dK kvs))/\Q v (upd H2 l (.dK kvs))):=by
 intro pins s σ H Q I ⟨hl,q⟩;obtain⟨hx,o,I1⟩:=I.fz hl;refine thn (h pins s σ _ _ I1 (q o)) fun u s1 ⟨v,H2,I2,r,e,q2⟩=>?_;exact⟨v,_,I2.unfz hx e,r,q2⟩
theorem zM1 {t:TT}{l:Addr}{kvs:List (Key×V)}(h:PT X e t):PT X e (fun σ H Q=>H l=some (.dK kvs)/\∀o,t σ (upd H l (.frz o (.dK kvs))) fun v H2=>H2 l=some (.frz o (.dK kvs))/\Q v (upd H2 l (.dK kvs))):=by
 intro pins s σ H Q I ⟨hl,q⟩;obtain⟨hx,o,I1⟩:=I.fz hl;refine thn (h pins s σ _ _ I1 (q o)) fun u s1 ⟨H2,I2,e,q2⟩=>?_;exact⟨_,I2.unfz hx e,q2⟩
theorem zB8 {t:TS}{l:Addr}{kvs:List (Key×V)}(h:PSs X sts t):PSs X sts (fun D σ H=>H l=some (.dK kvs)/\∀o,t D σ (upd H l (.frz o (.dK kvs)))):=by
 intro pins s σ H D I ⟨hl,q⟩;obtain⟨hx,o,I1⟩:=I.fz hl;exact h pins s σ _ _ I1 (q o)
end
section
variable {X:Cx}{α:Ev}{e a b:Expr}{pos p:Pos}{Q:PyData->Prop}
theorem M.fzk {F:Fr}{σ:St}{H:Hp}{i:Nat}{ds:List (PyData×PyData)}{l:Addr}{kvs:List (Key×V)}{o:Obj}(m:M F α σ H)(hi:α[i]?=some (some (.dic ds)))(hl:σ[i]?=some (some (.ref l)))(hH:H l=some (.dK kvs)):
  M F (α.set i (some (.dat (yP ds)))) σ (upd H l (.frz o (.dK kvs))):=by
 obtain⟨l',kvs',h1,h2,h3,h4,h5⟩:=m.dic i ds hi;rw[hl] at h1;cases h1;rw[hH] at h2;cases h2;have nl:¬Ow F (α.set i (some (.dat (yP ds)))) σ l:=m.gave hi hl rfl fun c z=>by cases z;exact id
 have ol:Ow F α σ l:=.inr ⟨i,_,_,hi,hl,rfl⟩;have gs:zB (Gz F α σ H) (Gz F (α.set i (some (.dat (yP ds)))) σ (upd H l (.frz o (.dK kvs)))):=fun x u e=>by
  obtain⟨z1,z2⟩:=zi (bU (b:=.dat (yP ds)) (i:=i) (fun _ _ f=>f) x u e);exact zH z1 (by rw[zg fun z=>(zi e).1 (by rw[z];exact ol)];exact z2)
 have hp:Plain H l:=qI hH;refine⟨by rw[z33];exact m.len,fun j c s e1 e2=>?_,fun j j' c d s t x e1 e2 q1 q2 f1 f2=>?_,fun j r q e j' c s x e1 e2 f=>?_,m.tp.updO h4 hp,fun y u e n=>?_,fun y hy=>?_⟩
 ·rcases ye e1 with ⟨rfl,z⟩|⟨hj,e1'⟩
  ·cases z;rw[hl] at e2;cases e2;exact⟨_,rfl,.dk (zH nl zk) (h3.same gs)⟩
  ·refine (m.ok j c s e1' e2).stay gs (fun y u f e=>?_) rfl fun r q ea k=>⟨k.tp,k.o,k.ok.updO (fun z=>h4 (k.o _ z)) hp,fun y u e n=>?_⟩
   ·obtain⟨w1,w2,_⟩:=m.ft e1' e2 f;refine⟨?_,w1,w2⟩;rw[zg fun z=>hj (m.dj i j _ c _ s l hi e1' hl e2 rfl (by rw[<-z];exact f))];exact e
   ·rw[zg (zo e (m.xd j r q (by rw[<-ea];exact e1') i _ _ l hi hl rfl))];exact k.k y u e n
 ·rcases ye e1 with ⟨rfl,z⟩|⟨hj,e1'⟩
  ·cases z;exact f1.elim
  ·rcases ye e2 with ⟨rfl,z⟩|⟨hj',e2'⟩
   ·cases z;exact f2.elim
   ·exact m.dj j j' c d s t x e1' e2' q1 q2 f1 f2
 ·rcases ye e with ⟨_,z⟩|⟨_,e'⟩
  ·cases z
  ·rcases ye e1 with ⟨rfl,z⟩|⟨hj,e1'⟩
   ·cases z;exact f.elim
   ·exact m.xd j r q e' j' c s x e1' e2 f
 ·rw[zg (zo e h5)];exact m.keep y u e n
 ·rw[zg (fun z=>h4 (by rw[<-z];exact hy))];exact m.oex y hy
theorem M.fzback {F:Fr}{σ:St}{H H2:Hp}{i:Nat}{ds:List (PyData×PyData)}{l:Addr}{kvs:List (Key×V)}{o:Obj}(m:M F α σ H)(hi:α[i]?=some (some (.dic ds)))(hl:σ[i]?=some (some (.ref l)))(hH:H l=some (.dK kvs))
  (t:zR F H2) (k:Kz F (upd H l (.frz o (.dK kvs))) H2):H2 l=some (.frz o (.dK kvs))/\zR F (upd H2 l (.dK kvs))/\Kz F H (upd H2 l (.dK kvs))/\
   ∀x u,¬Ob u->Gz F (α.set i (some (.dat (yP ds)))) σ H2 x=some u->Gz F α σ (upd H2 l (.dK kvs)) x=some u:=by
 obtain⟨l',kvs',h1,h2,h3,h4,h5⟩:=m.dic i ds hi;rw[hl] at h1;cases h1;rw[hH] at h2;cases h2;have e2:H2 l=some (.frz o (.dK kvs)):=k _ _ zk (m.tp.nt h4);have hp:Plain H2 l:=cY e2;refine⟨e2,t.updO h4 hp,fun x u e n=>?_,fun x u hu e=>?_⟩
 ·by_cases z:x=l
  ·subst z;rw[hH] at e;cases e;exact zk
  ·rw[zg z];exact k x u (by rw[zg z];exact e) n
 ·obtain⟨z1,z2⟩:=zi e;have nx:x≠l:=fun z=>by rw[z,e2] at z2;cases z2;exact hu trivial
  refine zH (fun q=>z1 ?_) (by rw[zg nx];exact z2);rcases q with z|⟨j,c,s,q1,q2,f⟩
  ·exact .inl z
  ·by_cases hj:i=j
   ·subst hj;rw[hi] at q1;cases q1;rw[hl] at q2;cases q2;have f':some (V.ref l)=some (.ref x):=f;cases f';exact absurd rfl nx
   ·exact .inr ⟨j,c,s,by rw[qh hj];exact q1,q2,f⟩
theorem zi0 (i:Nat){ds:List (PyData×PyData)}(hi:α[i]?=some (some (.dic ds)))(h:EvD X (α.set i (some (.dat (yP ds)))) e fun d=>noL d=true/\Q d):EvD X α e Q:=fun F σ H R m k=>by
 obtain⟨l,kvs,h1,h2,h3,h4,h5⟩:=m.dic i ds hi;refine⟨_,zz3 (l:=l) (kvs:=kvs) zj,h2,fun o=>?_⟩;refine h F σ _ _ (m.fzk hi h1 h2) fun d v H' q t kz r=>?_;obtain⟨g1,g2,g3,g4⟩:=m.fzback hi h1 h2 t kz;exact⟨g1,k d v _ q.2 g2 g3 (r.noL g4 q.1)⟩
theorem kl {Q:Bool->Prop}(i:Nat){ds:List (PyData×PyData)}(hi:α[i]?=some (some (.dic ds)))(h:EvT X (α.set i (some (.dat (yP ds)))) e Q):EvT X α e Q:=fun F σ H R m k=>by
 obtain⟨l,kvs,h1,h2,h3,h4,h5⟩:=m.dic i ds hi;refine⟨_,zM1 (l:=l) (kvs:=kvs) xJ,h2,fun o=>?_⟩;refine h F σ _ _ (m.fzk hi h1 h2) fun d H' q t kz=>?_;obtain⟨g1,g2,g3,g4⟩:=m.fzback hi h1 h2 t kz;exact⟨g1,k d _ q g2 g3⟩
theorem zl2 {Q:List PyData->Prop}(i:Nat){ds:List (PyData×PyData)}(hi:α[i]?=some (some (.dic ds)))(h:EvL X (α.set i (some (.dat (yP ds)))) e fun d=>ur d=true/\Q d):EvL X α e Q:=fun F σ H R m k=>by
 obtain⟨l,kvs,h1,h2,h3,h4,h5⟩:=m.dic i ds hi;refine⟨_,zz3 (l:=l) (kvs:=kvs) zj,h2,fun o=>?_⟩;refine h F σ _ _ (m.fzk hi h1 h2) fun d v H' q t kz r=>?_;obtain⟨g1,g2,g3,g4⟩:=m.fzback hi h1 h2 t kz;obtain⟨l',xs,e1,e2,e3,e4⟩:=r;have nl:l'≠l:=fun z=>by rw[z,zk] at e2;cases e2
 rw[zg nl] at e2;refine⟨g1,k d v _ q.2 g2 g3 ⟨l',xs,e1,e2,by rw[zg nl];exact e3,e4.noL (fun x u hu z=>?_) q.1⟩⟩;obtain⟨w1,w2⟩:=zi z;obtain⟨y1,y2⟩:=zi (g4 x u hu (zH w1.1 w2));exact zH ⟨y1,w1.2⟩ y2
theorem zi7 (i:Nat){ds:List (PyData×PyData)}{sts:List Stmt}{E:xy}(hi:α[i]?=some (some (.dic ds)))(h:SvS X (α.set i (some (.dat (yP ds)))) sts E):SvS X α sts E:=fun F σ H D m r=>by
 obtain⟨l,kvs,h1,h2,h3,h4,h5⟩:=m.dic i ds hi;exact⟨_,zB8 (l:=l) (kvs:=kvs) yj,h2,fun o=>h F σ _ D (m.fzk hi h1 h2) r⟩
theorem ng (i:Nat){x:Str}{ix:Expr}{ds:List (PyData×PyData)}{p1 p2:Pos}{rest:List Stmt}{E:xy}(hu:X.A.units+1<cLine)(hi:α[i]?=some (some (.dic ds)))(h:EvD X α e fun d=>EvD X α ix fun y=>∃k,y=vj k/\ds.length<1000/\SvS X (α.set i (some (.dic (putD ds k d)))) rest E)
  (hN:X.N[i]?=some x:=by rfl) (hv:Vis X.env.scope x:=by first|exact Or.inl rfl|exact Or.inr (Or.inl rfl)|exact Or.inr (Or.inr rfl)) (hd:(x == ("__debug__":Str))=false:=by decide) (hcd:(x == ("__classdict__":Str))=false:=by decide)
  (hsw:swapsWith e (some (.Subscript (.Name x p1) ix p2)) pos.line X.env=pure false:=by rfl):
  SvS X α (.Assign [.Subscript (.Name x p1) ix p2] e pos::rest) E:=fun F σ H D m r=>by
 obtain⟨l,kvs,h1,h2,h3,h4,h5⟩:=m.dic i ds hi;refine⟨_,zT (zn1 hu (xQ hN hv hd hcd) zj zj hsw) yj,?_⟩;refine h F σ H _ m fun d v H1 q1 t1 k1 r1=>?_;have m1:=m.kz k1 t1;refine⟨.ref l,h1,?_⟩;refine q1 F σ H1 _ m1 fun y vy H2 q2 t2 k2 r2=>?_;have m2:=m1.kz k2 t2;obtain⟨k,rfl,hl,q⟩:=q2;cases rn r2;refine⟨l,_,rfl,zb9.k (k2 _ _ (k1 _ _ h2 (m.tp.nt h4)) (m.tp.nt h4)) (by rw[h3.length];exact yW (z48 hl)),?_⟩;exact q F σ _ D (m2.wrC hi h1 (.dk (((h3.same (k1.gz m.tp)).same (k2.gz m1.tp)).put (r1.same (k2.gz m1.tp))))) r
end
section
variable {X:Cx}{α:Ev}{e a b:Expr}{pos p:Pos}{Q:PyData->Prop}
theorem kJ (h:EvD X α a fun y=>EvD X α b fun d=>∃k,y=vj k/\Q (yP [(vj k,d)])):EvC X α (.Dict [some a] [b] pos) Q:=fun F σ H R m kk=>by
 refine⟨_,zu5 (ze0 zj zj zo7) rfl rfl (List.cons_ne_nil _ _) (by show 1<=15;decide),fun l hl=>?_⟩;have s0:zB H (upd H l (.dK [])):=yB hl;have m0:=m.park (Kz.of_same s0) (m.tp.same s0) hl zk (fun _ z=>by cases z);refine h _ σ _ _ m0 fun y vy H1 q1 t1 k1 r1=>?_;have m1:=m0.kz k1 t1;refine q1 _ σ H1 _ m1 fun d v H2 q2 t2 k2 r2=>?_;obtain⟨k,rfl,q⟩:=q2;cases rn r1;have nl:¬Ow F α σ l:=m.fresh hl;have ntl:NT F l:=m.tp.nt (ow0 nl);have e2:H2 l=some (.dK []):=k2 _ _ (k1 _ _ zk ntl) ntl;have tF:zR F H2:=m.tp.re t2 rfl;refine⟨e2,[(k,v)],rfl,by show 1<=15;decide,?_⟩;refine kk _ _ _ q (tF.updO (ow0 nl) (qI e2)) (fun x o e n=>?_) ⟨l,_,rfl,hl,zk,?_⟩
 ·have nx:x≠l:=fun z=>by rw[z,hl] at e;cases e
  rw[zg nx];exact k2 _ _ (k1 _ _ (s0 _ _ e) n) n
 ·refine xm.dk (kvs:=sv [] [(k,v)]) ?_;refine AVk.cons (r2.same (zz fun x o h e=>?_)) .nil;have nx:x≠l:=fun z=>h (.inl (.inr z));exact⟨⟨fun z=>h (z.elim (fun z=>.inl (.inl z)) .inr),nx⟩,by rw[zg nx];exact e⟩
end
noncomputable def epO (o:Obj):Nat:=match o.data with
 |.dict _ ep=>ep
 |_=>0
theorem Inv.fzAt {X:Cx}{pins:List (Addr×Obj)}{σ:St}{H:Hp}{s:Shared}{a:Addr}{o:Obj}{kvs:List (Key×V)}(I:Inv X pins σ H s)(h:H a=some (.frz o (.dK kvs))):
  kvs.length<=sizeLine/\(a == sysModules)=false/\∃vs,KV kvs vs/\s.heap.DictAt (yh X.prog X.w) a vs (epO o):=by
 obtain⟨ho,z,y,vs,r,ob,es,ep,e,c1,c2,c3⟩:=(show zS X.prog X.w H s.heap a (.frz o (.dK kvs)) from I.hok a _ h);rw[ho] at e;cases e;have ee:epO o=ep:=by unfold epO;rw[c2]
 rw[ee];exact⟨z,y,vs,r,o,es,ho,c1,c2,c3⟩
theorem KV.at {kvs:List (Key×V)}{vs:List (Key×Value)}(r:KV kvs vs):∀{i:Nat} {k:Key} {v:V},kvs[i]?=some (k,v)->∃u,vs[i]?=some (k,u)/\RelV v u:=by
 unfold KV at r
 induction r with
 |nil=>intro i k v e;simp at e
 |@cons p q ps qs h t ih=>
  intro i k v e;cases i with
  |zero=>
   simp at e;subst e;refine⟨q.2,?_,h.2⟩;have h1:k=q.1:=h.1;rw[h1];rfl
  |succ i=>
   obtain⟨u,h1,h2⟩:=ih (i:=i) (by simpa using e);exact⟨u,by simpa using h1,h2⟩
theorem gB {P:Program}{w:World}{k:Key}{u:Value}(h:(yh P w).is k u=true):RelV (kV k) u:=by
 rcases yk (show qZ k u=true from h) with ⟨i,t,rfl,rfl⟩|⟨x,t,rfl,rfl⟩
 ·exact⟨t,rfl⟩
 ·exact⟨t,rfl⟩
noncomputable def Itd (a:Addr)(o:Obj)(kvs:List (Key×V)):It:=⟨fun i H=>H a=some (.frz o (.dK kvs))/\i<kvs.length,fun i H x H'=>H'=H/\∃k v,kvs[i]?=some (k,v)/\x=kV k,fun i H=>H a=some (.frz o (.dK kvs))/\kvs.length<=i⟩
noncomputable def zS8 (a:Addr)(o:Obj)(kvs:List (Key×V)):It:=⟨fun i H=>H a=some (.frz o (.dK kvs))/\i<kvs.length,fun i H x H'=>H'=H/\∃k v,kvs[i]?=some (k,v)/\x=v,fun i H=>H a=some (.frz o (.dK kvs))/\kvs.length<=i⟩
theorem dr {P:Program}{w:World}{K:PySem.W.Frag}{tg:Expr}(a it:Addr)(ob:Obj)(kvs:List (Key×V)):Turn P w K tg (Itd a ob kvs) [it] it (fun i h=>h.IsKeyIter it a i kvs.length (epO ob)) where
 mem:=by simp
 obj:=fun i h st b hb=>by
  have e:b=it:=by simpa using hb
  subst e;obtain⟨o,e,c,d⟩:=st;exact⟨o,e,fun v z=>by rw[d] at z;cases z⟩
 keep:=fun i h h' st k=>st.at fun o e=>k it (by simp) o e
 item:=by
  intro X hP hw hK hc i pins s σ H E I hf st hg;subst hP hw hK;obtain⟨hq,hi⟩:=hg;obtain⟨_,_,vs,rel,dd⟩:=I.fzAt hq;have hl:=rel.length;obtain⟨⟨k,v⟩,hx⟩:∃p,kvs[i]?=some p:=⟨kvs[i],zW6 hi⟩;obtain⟨u,hu,ru⟩:=rel.at hx;obtain⟨f0,f1,f2,f3,f4,f5⟩:=hf it (by simp);rw[hl] at st ⊢;refine wpAny_pyNext_dict_item st dd hu fun key h' hk st' sb=>?_;have I1:Inv X pins σ H {s with heap:=h'}:=I.turned (t':=s.toks) (fun b o hb e=>(sb.2 b hb).trans e) f0 f1 f3 f4 f5;obtain⟨o,e,c,d⟩:=id st';exact⟨key,rfl,rG (s:={s with heap:=h'}) e c d (by decide) ⟨kV k,H,I1,gB hk,⟨rfl,k,v,hx,rfl⟩,st',fun b hb=>(hf b hb).1⟩⟩
 done:=by
  intro X hP hw hK hc i pins s σ H E I hf st hg;subst hP hw hK;obtain⟨hq,hi⟩:=hg;obtain⟨_,_,vs,rel,dd⟩:=I.fzAt hq;have hl:=rel.length;obtain⟨f0,f1,f2,f3,f4,f5⟩:=hf it (by simp);rw[hl] at st;exact wpAny_pyNext_dict_end (I.ok.hd hc) st dd (z73 (by omega)) fun h' eb=>⟨rfl,I.turned (t':=s.toks) (fun b o hb e=>eb b o hb e) f0 f1 f3 f4 f5⟩
 self:=fun _ _ _ _ _ st h=>wpAny_pyIter_keyiter st h
theorem eJ {P:Program}{w:World}{K:PySem.W.Frag}{tg:Expr}(a it:Addr)(ob:Obj)(kvs:List (Key×V)):Turn P w K tg (zS8 a ob kvs) [it] it (fun i h=>h.IsValIter it a i kvs.length (epO ob)) where
 mem:=by simp
 obj:=fun i h st b hb=>by
  have e:b=it:=by simpa using hb
  subst e;obtain⟨o,e,c,d⟩:=st;exact⟨o,e,fun v z=>by rw[d] at z;cases z⟩
 keep:=fun i h h' st k=>st.at fun o e=>k it (by simp) o e
 item:=by
  intro X hP hw hK hc i pins s σ H E I hf st hg;subst hP hw hK;obtain⟨hq,hi⟩:=hg;obtain⟨_,_,vs,rel,dd⟩:=I.fzAt hq;have hl:=rel.length;obtain⟨⟨k,v⟩,hx⟩:∃p,kvs[i]?=some p:=⟨kvs[i],zW6 hi⟩;obtain⟨u,hu,ru⟩:=rel.at hx;obtain⟨f0,f1,f2,f3,f4,f5⟩:=hf it (by simp);rw[hl] at st ⊢;refine wpAny_pyNext_values_item st dd hu fun h' st' sb=>?_;have I1:Inv X pins σ H {s with heap:=h'}:=I.turned (t':=s.toks) (fun b o hb e=>(sb.2 b hb).trans e) f0 f1 f3 f4 f5;obtain⟨o,e,c,d⟩:=id st';exact⟨u,rfl,rG (s:={s with heap:=h'}) e c d (by decide) ⟨v,H,I1,ru,⟨rfl,k,v,hx,rfl⟩,st',fun b hb=>(hf b hb).1⟩⟩
 done:=by
  intro X hP hw hK hc i pins s σ H E I hf st hg;subst hP hw hK;obtain⟨hq,hi⟩:=hg;obtain⟨_,_,vs,rel,dd⟩:=I.fzAt hq;have hl:=rel.length;obtain⟨f0,f1,f2,f3,f4,f5⟩:=hf it (by simp);rw[hl] at st;exact wpAny_pyNext_values_end (I.ok.hd hc) st dd (z73 (by omega)) fun h' eb=>⟨rfl,I.turned (t':=s.toks) (fun b o hb e=>eb b o hb e) f0 f1 f3 f4 f5⟩
 self:=fun _ _ _ _ _ st h=>wpAny_pyIter_valiter st h
section
variable {X:Cx}{tg:Expr}
theorem zu1 {l:Expr}{tl:TE}(hl:PE X l tl):PI X tg l (fun σ H R=>tl σ H fun x H1=>∃a o kvs,x=.ref a/\H1 a=some (.frz o (.dK kvs))/\R (Itd a o kvs) H1):=by
 intro pins s σ H R I h;refine thn (hl pins s σ H _ I h) fun v s1 ⟨x,H1,I1,r1,q1⟩=>?_;obtain⟨a,o,kvs,rfl,hq,q⟩:=q1;cases r1;obtain⟨_,hs,vs,rel,dd⟩:=I1.fzAt hq;refine wpAny_pyIter_dict hs dd ?_;refine⟨s1.heap.objs.size,[s1.heap.objs.size],_,_,H1,rfl,I1.kept (t':=s1.toks) fun b o e=>zW5 _ e,dr a _ o kvs,⟨_,zX4 _ rfl,rfl,by rw[rel.length];rfl⟩,fun b hb=>?_,q⟩;have e:b=s1.heap.objs.size:=by simpa using hb
 subst e;exact I1.fpOk (zW9 _) (I1.hok.fresh (zW9 _))
theorem zn3 {l:Expr}{tl:TE}{apos cpos:Pos}(hl:PE X l tl)(hbase:attributeBase l "values" X.env (eval l X.env)=eval l X.env:=by rfl)(hline:(apos.endLine == cpos.line)=true:=by rfl):
  PI X tg (.Call (.Attribute l "values" apos) [] [] cpos) (fun σ H R=>tl σ H fun x H1=>∃a o kvs,x=.ref a/\H1 a=some (.frz o (.dK kvs))/\R (zS8 a o kvs) H1):=by
 intro pins s σ H R I h;refine wpAny_Call_method0_late hbase hline (thn (hl pins s σ H _ I h) fun v s1 ⟨x,H1,I1,r1,q1⟩=>?_);obtain⟨a,o,kvs,rfl,hq,q⟩:=q1;cases r1;obtain⟨_,hs,vs,rel,dd⟩:=I1.fzAt hq;obtain⟨hT,hD,_⟩:=zE1 I1 (.inl ⟨kvs,.inr ⟨o,hq⟩⟩);refine⟨"dict","dict.values",PySem.F.plainAttrs_dict,PySem.F.slot_dict_values,PySem.F.type_dict_values,hT,hD,Calls.callWith_builtin rfl (PySem.evalArgs_none ?_)⟩;refine call_meetsIn PySem.F.slot_dict_values hT PySem.F.entry_dict_values (PySem.F.args_dict_values_1 _) (meets_dict_values (yh X.prog X.w) a hs) ⟨⟨vs,dd.dictOf⟩,?_⟩;have I2:Inv X pins σ H1 {s1 with heap:=s1.heap.push {cls:=.type "dict_values",data:=.fields #[.ref a]}}:=I1.kept (t':=s1.toks) fun b o e=>zW5 _ e;refine wpAny_pyIter_values (v:=s1.heap.objs.size) ⟨_,zX4 _ rfl,rfl,rfl⟩ (dd.push _) ?_;refine⟨(s1.heap.push {cls:=.type "dict_values",data:=.fields #[.ref a]}).objs.size,[(s1.heap.push {cls:=.type "dict_values",data:=.fields #[.ref a]}).objs.size],_,_,H1,rfl,I2.kept (t':=s1.toks) fun b o e=>zW5 _ e,eJ a _ o kvs,⟨_,zX4 _ rfl,rfl,by rw[rel.length];rfl⟩,fun b hb=>?_,q⟩;have e:b=(s1.heap.push {cls:=.type "dict_values",data:=.fields #[.ref a]}).objs.size:=by simpa using hb
 subst e;exact I2.fpOk (zW9 _) (I2.hok.fresh (zW9 _))
end
section
variable {X:Cx}{α:Ev}{e a b tg:Expr}{pos p:Pos}{Q:List PyData->Prop}
theorem zt4 (h:EvD X α e fun x=>∃ds,x=yP ds/\Q (ds.map (·.1))):EvI X α tg e Q:=fun F σ H R m k=>by
 refine⟨_,zu1 zj,?_⟩;refine h F σ H _ m fun x vx H1 q1 t1 k1 r1=>?_;obtain⟨ds,rfl,q⟩:=q1;obtain⟨a,o,kvs,rfl,g1,g2⟩:=r1.dk_inv;refine⟨a,o,kvs,rfl,(zi g1).2,k _ _ H1 q t1 k1 fun i H2 pq s=>⟨fun d hd=>?_,fun hl=>?_⟩⟩
 ·rw[zX1,zY0] at hd;obtain⟨pr,hp,rfl⟩:=hd;obtain⟨kk,v,w1,w2,w3⟩:=g2.at hp;refine⟨⟨(zi (s _ _ g1)).2,(zW7.mp w1).1⟩,fun x H3 y=>?_⟩;obtain⟨rfl,k',v',z1,rfl⟩:=y;rw[w1] at z1;cases z1;refine⟨zB.refl _,fun _=>?_⟩;rw[w2];exact gK _
 ·rw[zW3] at hl;exact⟨(zi (s _ _ g1)).2,by rw[g2.length];exact hl⟩
theorem gQ {apos cpos:Pos}(h:EvD X α e fun x=>∃ds,x=yP ds/\Q (ds.map (·.2)))(hbase:attributeBase e "values" X.env (eval e X.env)=eval e X.env:=by rfl)(hline:(apos.endLine == cpos.line)=true:=by rfl):
  EvI X α tg (.Call (.Attribute e "values" apos) [] [] cpos) Q:=fun F σ H R m k=>by
 refine⟨_,zn3 zj hbase hline,?_⟩;refine h F σ H _ m fun x vx H1 q1 t1 k1 r1=>?_;obtain⟨ds,rfl,q⟩:=q1;obtain⟨a,o,kvs,rfl,g1,g2⟩:=r1.dk_inv;refine⟨a,o,kvs,rfl,(zi g1).2,k _ _ H1 q t1 k1 fun i H2 pq s=>⟨fun d hd=>?_,fun hl=>?_⟩⟩
 ·rw[zX1,zY0] at hd;obtain⟨pr,hp,rfl⟩:=hd;obtain⟨kk,v,w1,w2,w3⟩:=g2.at hp;refine⟨⟨(zi (s _ _ g1)).2,(zW7.mp w1).1⟩,fun x H3 y=>?_⟩;obtain⟨rfl,k',v',z1,rfl⟩:=y;rw[w1] at z1;cases z1;exact⟨zB.refl _,fun _=>w3.same s⟩
 ·rw[zW3] at hl;exact⟨(zi (s _ _ g1)).2,by rw[g2.length];exact hl⟩
theorem rP (hc:X.calm=true):xK X (.type "list") (fun xs H Q=>∃a o kvs,xs=[.ref a]/\H a=some (.frz o (.dK kvs))/\∀l,H l=none->Q (.ref l) (upd H l (.lst (kvs.map fun p=>kV p.1)))):=by
 intro pins s σ H xs us Q I r h;obtain⟨a,o,kvs,rfl,hq,q⟩:=h;obtain⟨u,rfl,rx⟩:=vals1 r;cases rx;obtain⟨hz,hs,vs,rel,dd⟩:=I.fzAt hq;refine PySem.W.kdl_call (PySem.W.kdl_dict hs) (I.ok.hd hc) dd (by rw[<-rel.length];exact hz) fun h' tk acc' c' kp e it=>?_;refine⟨.ref s.heap.objs.size,_,I.laid (t':=tk) kp (zW9 _) (show zS X.prog X.w _ h' _ (.lst (kvs.map fun p=>kV p.1)) from ⟨by rw[zW3];exact hz,acc'.toList,c',?_,by simpa using e⟩),rfl,q _ (I.hok.fresh (zW9 _))⟩;have key:∀{as:List V} {bs:List Value},as.length=bs.length->(∀(j:Nat) x,as[j]?=some x->∃u,bs[j]?=some u/\RelV x u)->Vals as bs:=by
  intro as
  induction as with
  |nil=>intro bs h1 _;cases bs with|nil=>exact .nil|cons _ _=>simp at h1
  |cons x as ih=>
   intro bs h1 h2;cases bs with
   |nil=>simp at h1
   |cons y bs=>
    obtain⟨u,z1,z2⟩:=h2 0 x rfl;simp at z1;subst z1;exact .cons z2 (ih (by simpa using h1) fun j x' hx=>by simpa using h2 (j+1) x' (by simpa using hx))
 refine key (by rw[zW3,rel.length,ye0];exact it.1.symm) fun j x hx=>?_;rw[zX1,zY0] at hx;obtain⟨⟨k,v⟩,h1,rfl⟩:=hx;obtain⟨w',h2,_⟩:=rel.at h1;have hj:j<acc'.size:=by rw[it.1];exact (zW7.mp h2).1
 obtain⟨k',x',z1,z2⟩:=it.2 j acc'[j] (by simp[hj]);rw[h2] at z1;cases z1;exact⟨acc'[j],by simp[hj],gB z2⟩
theorem lC {H G:Hp}:∀{kvs:List (Key×V)} {ds:List (PyData×PyData)},AVk H kvs ds->AVs G (kvs.map fun p=>kV p.1) (ds.map (·.1))
 |_,_,.nil=>.nil
 |_,_,.cons h r=>.cons (gK _) (lC r)
theorem ze9 (hc:X.calm=true)(hg:Gl X "list")(hm:X.mg "list"=none)(h:EvD X α e fun x=>∃ds,x=yP ds/\Q (ds.map (·.1)))(he:starEach [e] X.env=(false,eval e X.env)::starEach [] X.env:=by rfl):
  EvL X α (.Call (.Name "list" p) [e] [] pos) Q:=fun F σ H R m k=>by
 refine⟨_,xX (rP hc) hg hm boot_list (zd zj zw he) (he:=he),?_⟩;refine h F σ H _ m fun x vx H1 q1 t1 k1 r1=>?_;obtain⟨ds,rfl,q⟩:=q1;have m1:=m.kz k1 t1;obtain⟨a,o,kvs,rfl,g1,g2⟩:=r1.dk_inv;refine⟨a,o,kvs,rfl,(zi g1).2,fun l hl=>?_⟩;obtain⟨w1,w2,w3⟩:=m1.lay hl (lC (G:=Gz F α σ H1) g2);exact k _ _ _ q w1 (k1.trans w2) (w3.back m k1 t1)
end
mutual
noncomputable def ltD :PyData->PyData->Option Bool
 |.int a,.int b=>some (decide (a<b))
 |.str a,.str b=>some (decide (a.cps.toList<b.cps.toList))
 |.tuple xs,.tuple ys=>iL xs ys
 |_,_=>none
noncomputable def iL :List PyData->List PyData->Option Bool
 |[],[]=>some false
 |[],_::_=>some true
 |_::_,[]=>some false
 |x::xs,y::ys=>if PyData.eqv x y=true then iL xs ys else ltD x y
end
def zB1 (A:Around)(s:Shared)(x y:PyData):Prop:=∀(v u:Value) (as bs:List Addr) (r:Bool),Reads s.heap v x as->Reads s.heap u y bs->x.canLay0=true->y.canLay0=true->ltD x y=some r->
 ∀(prog:Program) (w:World) (E:Value->Shared->Prop) (Q:Value->Shared->Prop),Q (.bool r) s->wpAny (model prog w) A (richCompare .Lt v u) Q E s
section
open PySem.SeqAt
open PySem.AutoSeq1 (wpAny_loadPart')
open PySem.MeetsSeq PySem.MeetsSeq2 PySem.MeetsSeq3
theorem zF4 (l b:Addr)(items items2:Array Value)(n n2:Nat)(dd dd2:Option Addr)(sl sl2:Array (Option Value))(xs ys:List PyData)(z:Bool)(hz0:iL xs ys=some z)(hcx:PyData.canLayAll0 xs=true)(hcy:PyData.canLayAll0 ys=true):
  Meets (Builtin.«tuple.__lt__» ⟨[.ref l,.ref b],[]⟩)
   (fun A R s=>s.heap.get? l=some {cls:=.type "tuple",dict:=dd,data:=.seq items n,slots:=sl}/\s.heap.get? b=some {cls:=.type "tuple",dict:=dd2,data:=.seq items2 n2,slots:=sl2}/\
    (∃as bs,ReadsAll s.heap items.toList xs as/\ReadsAll s.heap items2.toList ys bs)/\A.units+1+PyData.depthAll xs<cLine/\(∀x∈xs,∀y,zB1 A.in1 s x y)/\R (.ok (.ret (.bool z))) s):=
 .of_wp fun prog w A R s h=>by
  obtain⟨hp,g,d,tk,os⟩:=s;obtain⟨hl,hb,⟨as,bs,r1,r2⟩,hu,hlt,h⟩:=h;have f2:=AutoSeq1.sub_tuple_tuple;have z1:items.size=xs.length:=by simpa using SeqAt.ReadsAll.length _ _ _ r1
  have z2:items2.size=ys.length:=by simpa using SeqAt.ReadsAll.length _ _ _ r2
  wp_walk using yd4 hl,yd4 hb,wpAny_forIn_list _ (fun rest b s'=>b.1=none/\s'=⟨hp,g,d,tk,os⟩/\∃(vs ws:List Value) (xs' ys':List PyData) (as' bs':List Addr),rest=vs.zip ws/\
   ReadsAll hp vs xs' as'/\ReadsAll hp ws ys' bs'/\xs'.length+items2.size=ys'.length+items.size/\iL xs' ys'=some z/\PyData.canLayAll0 xs'=true/\PyData.canLayAll0 ys'=true/\(∀x∈xs',x∈xs)) _
  case turn=>
   rintro⟨y,x⟩ rest b s' ⟨hb',rfl,vs,ws,xs',ys',as',bs',hz,q1,q2,hlen,hR,c1,c2,hin⟩;cases q1 with
   |nil=>rw[List.zip_nil_left] at hz;cases hz
   |@cons v vs' d0 ds0 a1 a2 p1 q1'=>
    cases q2 with
    |nil=>rw[List.zip_nil_right] at hz;cases hz
    |@cons u us' e0 es0 b1 b2 p2 q2'=>
     rw[List.zip_cons_cons] at hz;injection hz with hyx hrest;injection hyx with hy hx;subst hy hx;simp only[PyData.canLayAll0,zY7] at c1 c2;have hd:d0.depth<=PyData.depthAll xs:=by
      have hm:=hin d0 zX7;clear hlt hin h r1 hz0 hcx z1
      induction xs with
      |nil=>cases hm
      |cons a as ih=>
       simp only[PyData.depthAll];rcases zX0.mp hm with rfl|hm
       ·exact Nat.le_max_left _ _
       ·refine z24 (ih ?_ hm) (Nat.le_max_right _ _);simp only[PyData.depthAll] at hu;have:=Nat.le_max_right a.depth (PyData.depthAll as);omega
     have hm:min d0.depth e0.depth<=d0.depth:=Nat.min_le_left _ _;have he:=SeqAt.eqAt_reads d0 e0 A.in1 ⟨hp,g,d,tk,os⟩ _ _ _ _ p1 p2 c1.1 c2.1 (by show A.units+1+min d0.depth e0.depth<cLine;omega);simp only[zX9] at hlen;unfold iL at hR;refine zW4 (he prog w _ _ ?_);cases e:PyData.eqv d0 e0 with
     |true=>
      rw[e,if_pos rfl] at hR
      wp_walk
      exact⟨rfl,rfl,_,_,_,_,_,_,hrest,q1',q2',by omega,hR,c1.2,c2.2,fun x hx=>hin x (zX3 _ hx)⟩
     |false=>
      rw[e,if_neg (by decide)] at hR;have hri:=fun E Q hq=>hlt d0 (hin d0 zX7) e0 _ _ _ _ z p1 p2 c1.1 c2.1 hR prog w E Q hq
      wp_walk using hri
      exact⟨_,rfl,by simpa using h⟩
  case fin=>
   rintro⟨b1,b2⟩ s' ⟨hb',rfl,vs,ws,xs',ys',as',bs',hz,q1,q2,hlen,hR,c1,c2,hin⟩;simp only at hb';subst hb';have hv:z=decide (items.size<items2.size):=by
    cases q1 with
    |nil=>
     cases q2 with
     |nil=>
      cases hR;simp only[ya9] at hlen;exact (zZ1 (by omega)).symm
     |cons p2 q2'=>
      cases hR;simp only[ya9,zX9] at hlen;exact (z02 (by omega)).symm
    |cons p1 q1'=>
     cases q2 with
     |nil=>
      cases hR;simp only[ya9,zX9] at hlen;exact (zZ1 (by omega)).symm
     |cons p2 q2'=>
      rw[List.zip_cons_cons] at hz;cases hz
   rw[hv] at h
   wp_walk
   exact⟨_,rfl,by simpa[Builtin.Tuple.tupleCompareSizes] using h⟩
  case h=>
   exact⟨rfl,rfl,items.toList,items2.toList,xs,ys,as,bs,rfl,r1,r2,by omega,hz0,hcx,hcy,fun x hx=>hx⟩
end
mutual
theorem pU :∀(d:PyData) (e:PyData) (A:Around) (s:Shared),A.units+d.depth<cLine->zB1 A s d e
 |.int a,e,A,s,hu=>fun v u as bs r r1 r2 _ _ h prog w E Q q=>by
  cases e with
  |int b=>
   cases h;cases r1;cases r2;exact (PyProof.Rows.lt_int q:wpAny (model prog w) A (compareOp .Lt _ _) Q E s)
  |_=>cases h
 |.str a,e,A,s,hu=>fun v u as bs r r1 r2 _ _ h prog w E Q q=>by
  cases e with
  |str b=>
   cases h;cases r1;cases r2;exact (lt_str q:wpAny (model prog w) A (compareOp .Lt _ _) Q E s)
  |_=>cases h
 |.tuple xs,e,A,s,hu=>fun v u as bs r r1 r2 c1 c2 h prog w E Q q=>by
  cases e with
  |tuple ys=>
   cases r1 with
   |@tuple a1 o1 vs n1 _ _ g1 g2 g3 g4=>
    cases r2 with
    |@tuple a2 o2 ws n2 _ _ k1 k2 k3 k4=>
     obtain⟨cls,dd,data,sl⟩:=o1;obtain⟨cls2,dd2,data2,sl2⟩:=o2;simp only at g2 g3 k2 k3;subst g2 g3 k2 k3;have hu':A.units+1+PyData.depthAll xs<cLine:=by
      simp only[PyData.depth] at hu;omega
     exact richCompare_meets_room (op:=.Lt) ⟨_,g1,rfl⟩ ⟨_,k1,rfl⟩ PySem.F.slot_tuple_lt PySem.F.entry_tuple_lt (PySem.F.args_tuple_lt_2 _ _) (zF4 a1 a2 vs ws n1 n2 dd dd2 sl sl2 xs ys r h (by simpa only[PyData.canLay0] using c1) (by simpa only[PyData.canLay0] using c2))
      ⟨g1,k1,⟨_,_,g4,k4⟩,hu',lR xs A.in1 s (show A.units+1+PyData.depthAll xs<cLine from hu'),show Value.bool r≠Value.notImplemented/\Q (.bool r) s from ⟨(fun x=>nomatch x),q⟩⟩ (by omega)
  |_=>cases h
 |.none,e,A,s,hu=>fun v u as bs r r1 r2 _ _ h=>by cases e<;>cases h
 |.bool _,e,A,s,hu=>fun v u as bs r r1 r2 _ _ h=>by cases e<;>cases h
 |.list _,e,A,s,hu=>fun v u as bs r r1 r2 _ _ h=>by cases e<;>cases h
 |.dict _,e,A,s,hu=>fun v u as bs r r1 r2 _ _ h=>by cases e<;>cases h
theorem lR :∀(xs:List PyData) (A:Around) (s:Shared),A.units+PyData.depthAll xs<cLine->∀x∈xs,∀y,zB1 A s x y
 |[],A,s,hu=>fun x hx=>by cases hx
 |d::ds,A,s,hu=>fun x hx y=>by
  simp only[PyData.depthAll] at hu;have h1:=Nat.le_max_left d.depth (PyData.depthAll ds);have h2:=Nat.le_max_right d.depth (PyData.depthAll ds);by_cases e:x=d
  ·rw[e];exact pU d y A s (by omega)
  ·exact lR ds A s (by omega) x ((zX0.mp hx).resolve_left e) y
end
section
variable {prog:Program}{w:World}{A:Around}{R:Result->Shared->Prop}{it:Addr}{fp wr:List Addr}{m:Nat}{P:Nat->Value->Prop}{St:Nat->Heap->Prop}
def qv (h0 h:Heap):Prop:=∀b o,h0.get? b=some o->h.get? b=some o
def zC6 (prog:Program)(w:World)(A:Around)(h0:Heap)(P:Nat->Value->Prop)(bt:Nat->Nat->Bool):Prop:=
 ∀i j x y (s:Shared) (Q:Value->Shared->Prop) (E:Value->Shared->Prop),P i x->P j y->qv h0 s.heap->Q (.bool (bt i j)) s->wpAny (model prog w) A (richCompare .Lt x y) Q E s
theorem dD (h0:Heap)(W:Walks prog w A.in1 it fp wr m P St)(bt:Nat->Nat->Bool)(hc:zC6 prog w A.in1 h0 P bt)(D:Addr)(hD:D∉fp)(h0D:h0.get? D=none)(h0w:∀b∈wr,h0.get? b=none):
  ∀(k j:Nat) (s:Shared) (x:Value) (c:Nat),m-(j+1)=k->j+1<=m->St (j+1) s.heap->qv h0 s.heap->P (argBest bt j) x->
  s.heap.get? D=some {cls:=.type "list",dict:=none,data:=.seq #[x,x] c,slots:=#[]}->
  (∀y h' tk,P (argBest bt (m-1)) y->(∀b o,b∉wr->b≠D->s.heap.get? b=some o->h'.get? b=some o)->R (.ok (.ret y)) {s with heap:=h',toks:=tk})->
  codeAny (model prog w) A (.builtin "min.loop" ⟨[.ref it,.none,.ref D],[]⟩) R s:=by
 have hDw:D∉wr:=fun q=>hD (W.sub _ q);have nm:(toString "min"++toString ".loop":String)="min.loop":=by decide
 intro k;induction k with
 |zero=>
  intro j s x c hk hj st kp px hS hR;have e:j+1=m:=by omega
  refine ya8 yc3 ?_;rw[z80 z43 _];show wpAny _ A.in1 (seqItems? (.ref D) >>= _) _ _ s;refine zW4 (z38 hS rfl ?_);show wpAny _ A.in1 (tryCatch (pyNext (.ref it)) _ >>= _) _ _ s;refine zW4 (wpAny_tryCatch (W.done s _ _ (e▸st) fun h' tk kk=>?_));have hS':=kk D _ hDw hS;show wpAny _ A.in1 (updateSeq D (fun _=>#[]) >>= _) _ _ _;refine zW4 (z54 hS' rfl (zW4 (z68 (zX6 ?_))));exact hR x _ tk (by rw[<-e];exact px) fun b o h1 h2 q=>(zZ0 _ _ (zZ8 h2)).trans (kk b o h1 q)
 |succ k ih=>
  intro j s x c hk hj st kp px hS hR;have lt:j+1<m:=by omega
  refine ya8 yc3 ?_;rw[z80 z43 _];show wpAny _ A.in1 (seqItems? (.ref D) >>= _) _ _ s;refine zW4 (z38 hS rfl ?_);show wpAny _ A.in1 (tryCatch (pyNext (.ref it)) _ >>= _) _ _ s;refine zW4 (wpAny_tryCatch (W.item (j+1) s _ _ lt st fun y h' tk py st' kk=>?_));have hS':=kk D _ hDw hS;have kp':qv h0 h':=fun b o q=>kk b o (fun z=>by rw[h0w b z] at q;cases q) (kp b o q);show wpAny _ A.in1 (tryCatch (holding [y,y] (richCompare .Lt y x >>= _)) _ >>= _) _ _ _;refine zW4 (wpAny_tryCatch (z36 (zW4 (hc (j+1) (argBest bt j) y x _ _ _ py px kp' ?_))));refine zW4 (z36 (z09 (zW4 (z68 (zX6 ?_)))));cases hb:bt (j+1) (argBest bt j) with
  |true=>
   simp only[z88];refine zW4 (z54 hS' rfl (zW4 (z68 ?_)));rw[nm];refine zX6 ⟨z76 z43 _,ih (j+1) _ y _ (by omega) lt (W.frame _ _ _ st' fun b hf o q=>?_) (fun b o q=>?_) (by simp only[argBest,hb,z88];exact py) (z96 _ hS' rfl) fun z h2 tk2 pz kz=>?_⟩
   ·exact (zZ0 _ _ (fun z:D=b=>hD (by rw[z];exact hf))).trans q
   ·exact (zZ0 _ _ (fun z:D=b=>by rw[<-z,h0D] at q;cases q)).trans (kp' b o q)
   ·exact hR z h2 tk2 pz fun b o h1 h3 q=>kz b o h1 h3 ((zZ0 _ _ (zZ8 h3)).trans (kk b o h1 q))
  |false=>
   simp only[z05,z57];refine zW4 (z68 ?_);rw[nm];refine zX6 ⟨z76 z43 _,ih (j+1) _ x c (by omega) lt st' kp' (by simp only[argBest,hb,z05,z57];exact px) hS' fun z h2 tk2 pz kz=>?_⟩;exact hR z h2 tk2 pz fun b o h1 h3 q=>kz b o h1 h3 (kk b o h1 q)
theorem ik (h0:Heap)(W:Walks prog w A.in1 it fp wr m P St)(bt:Nat->Nat->Bool)(hc:zC6 prog w A.in1 h0 P bt)(D:Addr)(hD:D∉fp)(h0D:h0.get? D=none)(h0w:∀b∈wr,h0.get? b=none)(hm:0<m){s:Shared}{c:Nat}(st:St 0 s.heap)(kp:qv h0 s.heap)
  (hS:s.heap.get? D=some {cls:=.type "list",dict:=none,data:=.seq #[] c,slots:=#[]})
  (hR:∀y h' tk,P (argBest bt (m-1)) y->(∀b o,b∉wr->b≠D->s.heap.get? b=some o->h'.get? b=some o)->R (.ok (.ret y)) {s with heap:=h',toks:=tk}):
  codeAny (model prog w) A (.builtin "min.loop" ⟨[.ref it,.none,.ref D],[]⟩) R s:=by
 have hDw:D∉wr:=fun q=>hD (W.sub _ q);have nm:(toString "min"++toString ".loop":String)="min.loop":=by decide
 refine ya8 yc3 ?_;rw[z80 z43 _];show wpAny _ A.in1 (seqItems? (.ref D) >>= _) _ _ s;refine zW4 (z38 hS rfl ?_);show wpAny _ A.in1 (tryCatch (pyNext (.ref it)) _ >>= _) _ _ s;refine zW4 (wpAny_tryCatch (W.item 0 s _ _ hm st fun y h' tk py st' kk=>?_));have hS':=kk D _ hDw hS;have kp':qv h0 h':=fun b o q=>kk b o (fun z=>by rw[h0w b z] at q;cases q) (kp b o q);show wpAny _ A.in1 (updateSeq D (fun _=>#[y,y]) >>= _) _ _ _;refine zW4 (z54 hS' rfl ?_);rw[nm];refine zX6 ⟨z76 z43 _,dD h0 W bt hc D hD h0D h0w _ 0 _ y _ rfl hm (W.frame _ _ _ st' fun b hf o q=>?_) (fun b o q=>?_) py (z96 _ hS' rfl) fun z h2 tk2 pz kz=>?_⟩
 ·exact (zZ0 _ _ (fun z:D=b=>hD (by rw[z];exact hf))).trans q
 ·exact (zZ0 _ _ (fun z:D=b=>by rw[<-z,h0D] at q;cases q)).trans (kp' b o q)
 ·exact hR z h2 tk2 pz fun b o h1 h3 q=>kz b o h1 h3 ((zZ0 _ _ (zZ8 h3)).trans (kk b o h1 q))
end
section
variable {prog:Program}{w:World}{A:Around}{E:Value->Shared->Prop}{s:Shared}
theorem cK {l:Addr}{items:Array Value}{bt:Nat->Nat->Bool}{Q:Value->Shared->Prop}(hh:A.handled=none)(hl:s.heap.IsList l items)(h0:0<items.size)(hc:zC6 prog w A.in1 s.heap (fun i v=>items[i]?=some v) bt)
  (hQ:∀v h' tk,items[argBest bt (items.size-1)]?=some v->qv s.heap h'->Q v {s with heap:=h',toks:=tk}):wpAny (model prog w) A (call (.builtin "min") [.ref l]) Q E s:=by
 have nm:(toString "min"++toString ".loop":String)="min.loop":=by decide
 have hlt:l<s.heap.objs.size:=by obtain⟨_,e,_⟩:=hl;exact zX2 e
 refine call_function_tree PySem.F.kind_min PySem.F.plain_min PySem.F.entry_min (PySem.F.args_min1 _) ?_;show wpAny _ A.in1 (Builtin.Builtins.bindParams "min" ["key","default"] 0 ⟨[],[]⟩ >>= _) _ _ s;refine zW4 (wpAny_of_eq (show Builtin.Builtins.bindParams "min" ["key","default"] 0 ⟨[],[]⟩=pure [none,none] from rfl) (zW4 (zX6 ?_)));refine zW4 (z51 hl ?_);refine zW4 (wpAny_newObj_type ?_);rw[nm];have W:=Walks.list (prog:=prog) (w:=w) (A:=A.in1) hh s.heap.objs.size l (zY4 hlt) items;have up:qv s.heap ((s.heap.push {cls:=.type "list_iterator",data:=.fields #[.ref l,.int 0 0]}).push {cls:=.type "list",data:=.seq #[]}):=fun b o e=>zW5 _ (zW5 _ e);have sz:(s.heap.push {cls:=.type "list_iterator",data:=.fields #[.ref l,.int 0 0]}).objs.size=s.heap.objs.size+1:=z37 _ _;refine zX6 ⟨z76 z43 _,ik s.heap W bt hc _ (fun q=>?_) (Heap.get?_none_of_le (by rw[sz];exact z58 _)) (fun b hb=>?_) h0 (W.frame 0 (s.heap.push {cls:=.type "list_iterator",data:=.fields #[.ref l,.int 0 0]}) _ ⟨⟨_,zX4 _ rfl,rfl,rfl⟩,hl.push _⟩ fun b _ o e=>zW5 _ e) up (zX4 _ rfl) fun v h' tk pv kk=>?_⟩
 ·rcases zX0.mp q with z|z
  ·rw[sz] at z;exact absurd z (Nat.succ_ne_self _)
  ·rw[zX5,sz] at z;exact absurd hlt (by rw[<-z];exact Nat.not_lt.mpr (z58 _))
 ·rw[zX5.mp hb];exact Heap.get?_none_of_le (zW9 _)
 ·refine hQ v h' tk pv fun b o e=>kk b o (fun z=>?_) (fun z=>?_) (up b o e)
  ·rw[zX5.mp z] at e;exact absurd (zX2 e) (z35 _)
  ·have:=zX2 e;rw[z,sz] at this;exact absurd this (Nat.not_lt.mpr (z58 _))
end
noncomputable def uR (ds:List PyData)(i j:Nat):Bool:=match ds[i]?,ds[j]? with
 |some x,some y=>(ltD x y).getD false
 |_,_=>false
noncomputable def minD :List PyData->PyData
 |[]=>.none
 |d::ds=>ds.foldl (fun b x=>if (ltD x b).getD false=true then x else b) d
theorem kZ (d:PyData)(ds:List PyData)(x:PyData):minD (d::(ds++[x]))=if (ltD x (minD (d::ds))).getD false=true then x else minD (d::ds):=by
 show List.foldl _ d (ds++[x])=_;rw[List.foldl_append];rfl
theorem mB {ds:List PyData}{i j:Nat}{x y:PyData}(h1:ds[i]?=some x)(h2:ds[j]?=some y):uR ds i j=(ltD x y).getD false:=by
 unfold uR;rw[h1,h2]
theorem zg1 (ds:List PyData):∀k,k<ds.length->ds[argBest (uR ds) k]?=some (minD (ds.take (k+1))):=by
 intro k
 induction k with
 |zero=>
  intro h;cases ds with
  |nil=>simp at h
  |cons d ds=>simp[argBest,minD]
 |succ k ih=>
  intro h;have ih':=ih (by omega);cases ds with
  |nil=>simp at h
  |cons d ds=>
   have hx:(d::ds)[k+1]?=some (d::ds)[k+1]:=zW6 h;have tk:(d::ds).take (k+1+1)=d::(ds.take k++[(d::ds)[k+1]]):=by
    have hk:k<ds.length:=by simpa using h
    rw[ya2,z52,zW6 hk];rfl
   have tk':(d::ds).take (k+1)=d::ds.take k:=ya2;rw[tk,kZ,<-tk'];have e:uR (d::ds) (k+1) (argBest (uR (d::ds)) k)=(ltD (d::ds)[k+1] (minD ((d::ds).take (k+1)))).getD false:=mB hx ih';simp only[argBest];rw[e];split
   ·exact hx
   ·exact ih'
theorem tX {X:Cx}{pins:List (Addr×Obj)}{σ:St}{H:Hp}{s:Shared}(I:Inv X pins σ H s):∀{xs:List V} {ds:List PyData} {us:List Value} {i:Nat} {d:PyData},DVs H xs ds->Vals xs us->ds[i]?=some d->∃u as,us[i]?=some u/\Reads s.heap u d as
 |_,_,_,_,_,.nil,_,e=>by simp at e
 |_,_,_,i,d,.cons hx hs,.cons (b:=u) ru rs,e=>by
  cases i with
  |zero=>
   simp at e;subst e;obtain⟨as,ra⟩:=hx.reads I ru;exact⟨u,as,rfl,ra⟩
  |succ i=>
   obtain⟨u',as,h1,h2⟩:=tX I hs rs (i:=i) (by simpa using e);exact⟨u',as,by simpa using h1,h2⟩
def zF0 (ds:List PyData):Prop:=∀x∈ds,∀y∈ds,(ltD x y).isSome=true
section
variable {X:Cx}{α:Ev}{e:Expr}{pos p:Pos}{Q:PyData->Prop}
theorem cI (hc:X.calm=true)(hu:X.A.units+70<cLine):xK X (.builtin "min") (fun xs H Q=>∃(l:Addr) (vs:List V) (ds:List PyData),xs=[.ref l]/\H l=some (.lst vs)/\DVs H vs ds/\ds≠[]/\zF0 ds/\(∀d∈ds,d.canLay0=true/\d.depth<=60)/\∀(i:Nat) (v:V),vs[i]?=some v->ds[i]?=some (minD ds)->Q v H):=by
 intro pins s σ H xs us Q I r h;obtain⟨l,vs,ds,rfl,hl,dv,ne,cm,sh,q⟩:=h;obtain⟨u,rfl,rx⟩:=vals1 r;cases rx;obtain⟨its,rv,pl,hz⟩:=I.list (SqL.of hl);have l1:=rv.length;have l2:vs.length=ds.length:=dv.length;have h0:0<ds.length:=List.length_pos_iff.mpr ne;refine cK (bt:=uR ds) (I.ok.hd hc) pl.isList (by simp;omega) ?_ fun v h' tk hv kp=>?_
 ·intro i j x y s2 Q2 E2 hx hy kp q2;have hi:i<ds.length:=by have:=(Array.getElem?_eq_some_iff.mp hx).1;simp at this;omega
  have hj:j<ds.length:=by have:=(Array.getElem?_eq_some_iff.mp hy).1;simp at this;omega
  have ei:ds[i]?=some ds[i]:=zW6 hi;have ej:ds[j]?=some ds[j]:=zW6 hj;obtain⟨u1,as1,g1,g2⟩:=tX I dv rv ei;obtain⟨u2,as2,g3,g4⟩:=tX I dv rv ej;have e1:u1=x:=by have:=hx;simp at this;rw[g1] at this;exact zZ2 this
  have e2:u2=y:=by have:=hy;simp at this;rw[g3] at this;exact zZ2 this
  subst e1 e2;obtain⟨rr,hrr⟩:=yb2.mp (cm _ (z28 hi) _ (z28 hj));have hs1:=sh _ (z28 hi);have hs2:=sh _ (z28 hj);refine pU ds[i] ds[j] X.A.in1 s2 (by show X.A.units+1+_<cLine;omega) _ _ _ _ rr (Reads.keeps kp g2) (Reads.keeps kp g4) hs1.1 hs2.1 hrr _ _ _ _ ?_;have:uR ds i j=rr:=by rw[mB ei ej,hrr];rfl
  rw[<-this];exact q2
 ·have hb:=zg1 ds (ds.length-1) (by omega);have e3:its.toArray.size-1=ds.length-1:=by simp;omega
  rw[e3] at hv;rw[show ds.length-1+1=ds.length by omega,z66] at hb;have hv':its[argBest (uR ds) (ds.length-1)]?=some v:=by simpa using hv
  have hi:argBest (uR ds) (ds.length-1)<vs.length:=by have:=(zW7.mp hb).1;omega
  obtain⟨u',g1,g2⟩:=rv.get (zW6 hi);rw[hv'] at g1;cases g1;exact⟨_,H,I.kept (t':=tk) kp,g2,q _ _ (zW6 hi) hb⟩
theorem zu9 (hc:X.calm=true)(hu:X.A.units+70<cLine)(hg:Gl X "min")(hm:X.mg "min"=none)(h:EvD X α e fun x=>∃ds,x=.list ds/\ds≠[]/\PyData.hasDictAll ds=false/\zF0 ds/\(∀d∈ds,d.canLay0=true/\d.depth<=60)/\Q (minD ds))(he:starEach [e] X.env=(false,eval e X.env)::starEach [] X.env:=by rfl):
  EvD X α (.Call (.Name "min" p) [e] [] pos) Q:=by
 refine wR (cI hc hu) hg hm boot_min (zh (h.imp fun x ⟨ds,e1,ne,nd,cm,sh,q⟩=>zv ?_) he) (he:=he);intro F σ H vs R m rv k;subst e1;obtain⟨v,rfl,av⟩:=rv.one;obtain⟨a,xs,rfl,h1,h2⟩:=av.lst_inv;refine⟨a,xs,ds,rfl,(zi h1).2,(h2.dv nd).same xZ,ne,cm,sh,fun i v hv hd=>?_⟩;obtain⟨x',g1,g2⟩:=h2.get hd;rw[hv] at g1;cases g1;exact k _ _ H q m.tp Kz.refl g2
noncomputable def uJ :List Int->Int
 |[]=>0
 |z::zs=>zs.foldl (fun b x=>if b<x then x else b) z
theorem cD (d:Int)(ds:List Int)(x:Int):uJ (d::(ds++[x]))=if uJ (d::ds)<x then x else uJ (d::ds):=by
 show List.foldl _ d (ds++[x])=_;rw[List.foldl_append];rfl
noncomputable def cM (zs:List Int)(i j:Nat):Bool:=decide (zs.getD i 0 > zs.getD j 0)
theorem zv6 {zs:List Int}{i j:Nat}{x y:Int}(h1:zs[i]?=some x)(h2:zs[j]?=some y):cM zs i j=decide (y<x):=by
 unfold cM;rw[zW8,zW8,h1,h2];rfl
theorem aO (zs:List Int):∀k,k<zs.length->zs[argBest (cM zs) k]?=some (uJ (zs.take (k+1))):=by
 intro k
 induction k with
 |zero=>
  intro h;cases zs with
  |nil=>simp at h
  |cons d ds=>simp[argBest,uJ]
 |succ k ih=>
  intro h;have ih':=ih (by omega);cases zs with
  |nil=>simp at h
  |cons d ds=>
   have hx:(d::ds)[k+1]?=some (d::ds)[k+1]:=zW6 h;have tk:(d::ds).take (k+1+1)=d::(ds.take k++[(d::ds)[k+1]]):=by
    have hk:k<ds.length:=by simpa using h
    rw[ya2,z52,zW6 hk];rfl
   have tk':(d::ds).take (k+1)=d::ds.take k:=ya2;rw[tk,cD,<-tk'];have e:cM (d::ds) (k+1) (argBest (cM (d::ds)) k)=decide (uJ ((d::ds).take (k+1))<(d::ds)[k+1]):=zv6 hx ih';simp only[argBest];rw[e];by_cases z:uJ ((d::ds).take (k+1))<(d::ds)[k+1]
   ·rw[z02 z,if_pos rfl,if_pos z];exact hx
   ·rw[zZ1 z,if_neg (by decide),if_neg z];exact ih'
theorem cx (hc:X.calm=true):xK X (.builtin "max") (fun xs H Q=>∃(l:Addr) (zs:List Int),xs=[.ref l]/\H l=some (.lst (zs.map V.int))/\zs≠[]/\Q (.int (uJ zs)) H):=by
 intro pins s σ H xs us Q I r h;obtain⟨l,zs,rfl,hl,ne,q⟩:=h;obtain⟨u,rfl,rx⟩:=vals1 r;cases rx;obtain⟨its,rv,pl,hz⟩:=I.list (SqL.of hl);have l1:=rv.length;rw[zW3] at l1;have h0:0<zs.length:=List.length_pos_iff.mpr ne;have hlt:l<s.heap.objs.size:=by obtain⟨_,e,_⟩:=pl.isList;exact zX2 e
 have val:∀i v,its.toArray[i]?=some v->∃t,v=Value.int (zs.getD i 0) t:=fun i v hv=>by
  have hv':its[i]?=some v:=by simpa using hv
  have hi:i<(zs.map V.int).length:=by rw[zW3,l1];exact (zW7.mp hv').1
  obtain⟨u',g1,g2⟩:=rv.get (zW6 hi);rw[hv'] at g1;cases g1;rw[List.getElem_map] at g2;obtain⟨t,rfl⟩:=g2;refine⟨t,?_⟩;rw[zW3] at hi;rw[zW8,zW6 hi];rfl
 refine call_max_walk (z51 pl.isList ⟨s.heap.objs.size,[s.heap.objs.size,l],[s.heap.objs.size],_,_,_,cM zs,rfl,Walks.list (A:=X.A.in1) (I.ok.hd hc) s.heap.objs.size l (zY4 hlt) its.toArray,⟨⟨_,zX4 _ rfl,rfl,rfl⟩,pl.isList.push _⟩,fun b hb=>?_,by simp;omega,CmpOf.ints_gt (fun i=>zs.getD i 0) val,fun v h' tk hv kk=>?_⟩)
 ·show b<(s.heap.push _).objs.size;rw[z37];rcases zX0.mp hb with z|z
  ·rw[z];exact z84 _
  ·rw[zX5.mp z];exact yc1 hlt
 ·obtain⟨t,rfl⟩:=val _ _ hv;have hb:=aO zs (zs.length-1) (by omega);rw[show zs.length-1+1=zs.length by omega,z66] at hb;have e3:its.toArray.size-1=zs.length-1:=by simp;omega
  rw[e3];refine⟨.int (uJ zs),H,I.kept (t':=tk) (fun b o e=>kk b o (fun z=>?_) (zW5 _ e)),⟨t,?_⟩,q⟩
  ·rw[zX5.mp z] at e;exact absurd (zX2 e) (z35 _)
  ·rw[zW8,hb];rfl
theorem AVs.intsV {H:Hp}:∀{xs:List V} {zs:List Int},AVs H xs (zs.map .int)->xs=zs.map V.int
 |_,[],.nil=>rfl
 |_,z::zs,.cons h r=>by rw[h.int_inv,AVs.intsV r];rfl
theorem gg (hc:X.calm=true)(hg:Gl X "max")(hm:X.mg "max"=none)(h:EvD X α e fun x=>∃zs:List Int,x=.list (zs.map .int)/\zs≠[]/\Q (.int (uJ zs)))(he:starEach [e] X.env=(false,eval e X.env)::starEach [] X.env:=by rfl):
  EvD X α (.Call (.Name "max" p) [e] [] pos) Q:=by
 refine wR (cx hc) hg hm boot_max (zh (h.imp fun x ⟨zs,e1,ne,q⟩=>zv ?_) he) (he:=he);intro F σ H vs R m rv k;subst e1;obtain⟨v,rfl,av⟩:=rv.one;obtain⟨a,xs,rfl,h1,h2⟩:=av.lst_inv;have h3:=(zi h1).2;rw[h2.intsV] at h3;exact⟨a,zs,rfl,h3,ne,k _ _ H q m.tp Kz.refl (.int _)⟩
end
theorem jI :typeLookup (.type "list_reverseiterator") "__len__"=pure none:=by rw[yd8,z97];kernel_rfl
theorem bJ :typeLookup (.type "list_reverseiterator") "__length_hint__"=pure (some (.builtin "list_reverseiterator.__length_hint__")):=by rw[yd8,z97];kernel_rfl
section
variable {prog:Program}{w:World}{A:Around}{E:Value->Shared->Prop}{s:Shared}{it l:Addr}{items:Array Value}
theorem bx {Q:Bool->Shared->Prop}(hT:s.TypeIs (.ref it) "list_reverseiterator")(h:Q false s):wpAny (model prog w) A (Builtin.List.listLengthHint (.ref it)) Q E s:=by
 unfold Builtin.List.listLengthHint;refine zW4 (ya6 hT jI ?_);show wpAny _ _ (specialOf (Value.ref it) (Str.ofString "__length_hint__") >>= _) _ _ _;refine zW4 (ya6 hT bJ ?_);generalize hid:("list_reverseiterator.__length_hint__":String)=id0
 wp_delta
 rw[show splitId id0=some ("list_reverseiterator","__length_hint__") from by subst hid;decide +kernel];subst hid;refine zW4 (wpAny_isInstance (T:="list_reverseiterator") (b:=true) hT (by rw[isSubtype_type];kernel_rfl) ?_);refine z91 (fun q=>absurd q (by decide)) fun _=>?_;refine z91 (fun _=>?_) fun q=>absurd (by decide +kernel) q;refine z91 (fun q=>absurd q (by decide +kernel)) fun _=>?_;exact zX6 h
theorem pF {Q:Value->Shared->Prop}(hh:A.handled=none)(hne:l≠it)(hr:s.heap.IsRevIter it l ((items.size:Int)-1))(hl:s.heap.IsList l items)(hn:items.size<=sizeLine)
  (hQ:∀h' tk acc c,(∀b o,b≠it->s.heap.get? b=some o->h'.get? b=some o)->h'.get? s.heap.objs.size=some {cls:=.type "list",dict:=none,data:=.seq acc c,slots:=#[]}->ItemsOf (fun i v=>items[items.size-1-i]?=some v) acc items.size->Q (.ref s.heap.objs.size) {s with heap:=h',toks:=tk}):
  wpAny (model prog w) A (call (.type "list") [.ref it]) Q E s:=by
 refine callType_codes (Q₁:=fun obj s₁=>obj=.ref s.heap.objs.size/\s₁={s with heap:=s.heap.push {cls:=.type "list",data:=.seq #[]}}) PySem.F.called_list (PySem.F.typeCall_list_1 _) PySem.F.entry_list_init
  (code_list_new _ ⟨rfl,rfl⟩) fun obj s₁ h₁=>?_
 obtain⟨rfl,rfl⟩:=h₁;generalize hSd:s.heap.objs.size=S at hQ ⊢;have hS:(s.heap.push {cls:=.type "list",data:=.seq #[]}).get? S=some {cls:=.type "list",data:=.seq #[]}:=by rw[<-hSd];exact zX4 _ rfl
 have up:∀b o,s.heap.get? b=some o->(s.heap.push {cls:=.type "list",data:=.seq #[]}).get? b=some o:=fun b o e=>zW5 _ e;have iS:it≠S:=by obtain⟨o,e,_⟩:=id hr;rw[<-hSd];exact zY4 (zX2 e)
 have lS:l≠S:=by obtain⟨o,e,_⟩:=id hl;rw[<-hSd];exact zY4 (zX2 e)
 have ltS:∀{b:Addr} {o:Obj},s.heap.get? b=some o->b≠S:=fun e=>by rw[<-hSd];exact zY4 (zX2 e)
 have W:=Walks.listRev (prog:=prog) (w:=w) (A:=A.in1.in1) hh it l hne items;have hSf:S∉[it,l]:=by simp only[zX0,zY3,z07,not_or];exact⟨zZ8 iS,zZ8 lS⟩
 refine⟨⟨_,hS,rfl⟩,PySem.F.args_list_init_2 _ _,?_⟩;show wpAny _ _ (do let old <-Builtin.List.listItems (.ref S);Builtin.List.listUpdate (.ref S) (fun _=>#[]);letGo old.toList.reverse;Builtin.List.listExtendWith (.ref S) (.ref it) .none) _ _ _;refine zW4 ?_;unfold Builtin.List.listItems;refine zW4 (z38 hS rfl (zX6 ?_));show wpAny _ _ (updateSeq S (fun _=>#[]) >>= fun _=>letGo (#[]:Array Value).toList.reverse >>= fun _=>Builtin.List.listExtendWith (.ref S) (.ref it) .none) _ _ _;refine zW4 (z54 hS rfl ?_);obtain⟨e2,hS₂⟩:∃e',((s.heap.push {cls:=.type "list",data:=.seq #[]}).update S (Obj.mapSeq (fun _=>(#[]:Array Value)))).get? S=some {cls:=.type "list",dict:=none,data:=.seq #[] e',slots:=#[]}:=⟨_,z61 (c:="list") hS fun _=>#[]⟩;have oth:∀b o,s.heap.get? b=some o->((s.heap.push {cls:=.type "list",data:=.seq #[]}).update S (Obj.mapSeq (fun _=>(#[]:Array Value)))).get? b=some o:=
  fun b o e=>(zZ0 _ _ (zZ8 (ltS e))).trans (up b o e)
 refine zW4 (z68 ?_);have hT:({s with heap:=(s.heap.push {cls:=.type "list",data:=.seq #[]}).update S (Obj.mapSeq (fun _=>(#[]:Array Value)))}:Shared).TypeIs (.ref it) "list_reverseiterator":=Heap.IsRevIter.typeIs (hr.at fun o e=>oth _ o e);unfold Builtin.List.listExtendWith;refine zW4 (wpAny_typeOf hT ?_);have b1:Builtin.List.listSameRef (.ref S) (.ref it)=false:=by simp[Builtin.List.listSameRef];exact zZ8 iS
 have b2:(Value.type "list_reverseiterator" == Value.type "list")=false:=by decide
 have b3:(Value.type "list_reverseiterator" == Value.type "tuple")=false:=by decide
 simp only[b1,b2,b3,z99,z05,z57];refine zW4 (wpAny_pyIter_revIter (hr.at fun o e=>oth _ o e) ?_);refine zW4 (z36 (bx hT ?_));have key:∀(h:Heap) (c₁ tk:Nat),h.get? S=some {cls:=.type "list",dict:=none,data:=.seq #[] c₁,slots:=#[]}->(∀b o,s.heap.get? b=some o->h.get? b=some o)->codeAny (model prog w) A.in1 (.builtin "list.extend.loop" ⟨[.ref S,.ref it,.none],[]⟩) (wants (fun v s'=>v=.none/\Q (.ref S) s') E) {s with heap:=h,toks:=tk}:=by
  intro h c₁ tk hS' oth';refine codeAny_extend_loopS W.toS hn S hSf .none items.size 0 _ #[] c₁ rfl (zY8 _) ⟨zY8 _,by simpa using hr.at fun o e=>oth' _ o e,hl.at fun o e=>oth' _ o e⟩ hS' (ItemsOf.nil _) fun s' acc' c' hm hS'' hacc=>?_;rw[Moved.eq_with hm];refine⟨rfl,hQ s'.heap s'.toks acc' c' (fun b o hb e=>hm.heap b o (fun z=>?_) (oth' b o e)) hS'' hacc⟩;rcases zX0.mp z with z|z
  ·exact ltS e z
  ·exact hb (zX5.mp z)
 refine z91 (fun q=>absurd q (by decide)) (fun _=>zX6 ⟨z76 z45 _,key _ _ _ hS₂ oth⟩)
end
section
variable {X:Cx}{α:Ev}{a e c:Expr}{p p0 pos pos2:Pos}{Q:List PyData->Prop}
theorem iM {ta:TA}(hc:X.calm=true)(hgl:Gl X "list")(hml:X.mg "list"=none)(hg:Gl X "reversed")(hm:X.mg "reversed"=none)(ha:PA X [a] ta)
  (hs0:starEach [.Call (.Name "reversed" p) [a] [] pos2] X.env=[(false,eval (.Call (.Name "reversed" p) [a] [] pos2) X.env)]:=by rfl) (hs:starEach [a] X.env=[(false,eval a X.env)]:=by rfl):
  PE X (.Call (.Name "list" p0) [.Call (.Name "reversed" p) [a] [] pos2] [] pos) (fun σ H Q=>ta σ H fun vs H1=>∃(l:Addr) (xs:List V),vs=[.ref l]/\SqL X.K H1 l xs/\∀D,H1 D=none->Q (.ref D) (upd H1 D (.lst xs.reverse))):=by
 intro pins s σ H Q I h;refine Call_ (xx I hgl hml boot_list (zZ7 ?_ hs0 rfl));rw[hs0];show wpAny _ _ (spliced ((false,eval _ X.env)::backTo pos [])) _ _ s;refine Calls.spliced_cons ?_;refine Call_ (xx I hg hm boot_reversed (zZ7 (thn (ha pos2 pins s σ H _ I h) fun us s1 ⟨vs,H1,I1,r1,q1⟩=>?_) hs rfl));obtain⟨l,xs,rfl,hq,q⟩:=q1;obtain⟨u,rfl,ru⟩:=Vals.one r1;cases (show u=Value.ref l from ru);obtain⟨its,rv,pl,hz⟩:=I1.list hq;have hlen:=rv.length;have llt:l<s1.heap.objs.size:=by obtain⟨o,e,_⟩:=pl.isList;exact zX2 e
 refine call_reversed_list pl.isList (Calls.spliced_nil ?_);generalize hI:s1.heap.objs.size=it;have I2:Inv X pins σ H1 {s1 with heap:=s1.heap.push (revObj l ((its.toArray.size:Int)-1))}:=I1.kept (t':=s1.toks) fun b o e=>zW5 _ e;have fI:∀H',H' it=none->xN X pins H' it:=fun H' hn=>by rw[<-hI] at hn ⊢;exact I1.fpOk (zW9 _) hn
 have nI:H1 it=none:=by rw[<-hI];exact I1.hok.fresh (zW9 _)
 refine pF (it:=it) (l:=l) (items:=its.toArray) (I1.ok.hd hc) (by rw[<-hI];exact zY4 llt) (by rw[<-hI];exact⟨_,zX4 _ rfl,rfl,rfl⟩) (pl.isList.push _) (by simp;omega) fun h' tk acc c kp e ic=>?_;have szD:({s1 with heap:=s1.heap.push (revObj l ((its.toArray.size:Int)-1))}:Shared).heap.objs.size=s1.heap.objs.size+1:=z37 _ _;generalize hD:({s1 with heap:=s1.heap.push (revObj l ((its.toArray.size:Int)-1))}:Shared).heap.objs.size=D at e ⊢;have Dsz:(s1.heap.push (revObj l ((its.toArray.size:Int)-1))).objs.size<=D:=by rw[<-hD];exact zW9 _
 have nD:H1 D=none:=I2.hok.fresh Dsz;refine⟨.ref D,upd H1 D (.lst xs.reverse),?_,rfl,q D nD⟩;refine I2.turnLay (ch:=[it]) (fun b o hb e=>kp b o (by simpa using hb) e) (fun b hb=>by rw[zX5.mp hb];exact fI H1 nI) Dsz ⟨by rw[z55];exact hz,acc.toList,c,?_,by simpa using e⟩;have key:∀{as:List V} {bs:List Value},as.length=bs.length->(∀(j:Nat) x,as[j]?=some x->∃u,bs[j]?=some u/\RelV x u)->Vals as bs:=by
  intro as
  induction as with
  |nil=>intro bs h1 _;cases bs with|nil=>exact .nil|cons _ _=>simp at h1
  |cons x as ih=>
   intro bs h1 h2;cases bs with
   |nil=>simp at h1
   |cons y bs=>
    obtain⟨u,z1,z2⟩:=h2 0 x rfl;simp at z1;subst z1;exact .cons z2 (ih (by simpa using h1) fun j x' hx=>by simpa using h2 (j+1) x' (by simpa using hx))
 have sa:acc.size=xs.length:=by rw[ic.1];simp;omega
 refine key (by rw[z55];exact sa.symm) fun j x hx=>?_;have hj:j<xs.length:=by have:=(zW7.mp hx).1;rwa [z55] at this
 rw[List.getElem?_reverse hj] at hx;obtain⟨u,g1,g2⟩:=rv.get hx;have z:its.toArray[its.toArray.size-1-j]?=some (acc[j]'(by omega)):=ic.2 j (acc[j]'(by omega)) (by simp[show j<acc.size by omega]);refine⟨acc[j]'(by omega),by simp[show j<acc.size by omega],?_⟩;have e1:its.toArray.size-1-j=xs.length-1-j:=by simp;omega
 rw[e1] at z;have z':its[xs.length-1-j]?=some (acc[j]'(by omega)):=by simpa using z
 rw[g1] at z';rw[<-zZ2 z'];exact g2
theorem AVs.reverse {H:Hp}:∀{xs:List V} {ds:List PyData},AVs H xs ds->AVs H xs.reverse ds.reverse
 |_,_,.nil=>.nil
 |_,_,.cons h r=>by rw[List.reverse_cons,List.reverse_cons];exact (AVs.reverse r).append (.cons h .nil)
theorem jt (hc:X.calm=true)(hgl:Gl X "list")(hml:X.mg "list"=none)(hg:Gl X "reversed")(hm:X.mg "reversed"=none)(h:EvD X α a fun x=>∃ds,x=.list ds/\Q ds.reverse)
  (hs0:starEach [.Call (.Name "reversed" p) [a] [] pos2] X.env=[(false,eval (.Call (.Name "reversed" p) [a] [] pos2) X.env)]:=by rfl) (hs:starEach [a] X.env=[(false,eval a X.env)]:=by rfl):
  EvL X α (.Call (.Name "list" p0) [.Call (.Name "reversed" p) [a] [] pos2] [] pos) Q:=fun F σ H R m k=>by
 refine⟨_,iM hc hgl hml hg hm (zd zj zw hs) hs0 hs,?_⟩;refine h F σ H _ m fun x vx H1 q1 t1 k1 r1=>?_;obtain⟨ds,rfl,q⟩:=q1;have m1:=m.kz k1 t1;obtain⟨l,xs,rfl,g1,g2⟩:=r1.lst_inv;refine⟨l,xs,rfl,SqL.of (zi g1).2,fun D hD=>?_⟩;obtain⟨w1,w2,w3⟩:=m1.lay hD g2.reverse;exact k _ _ _ q w1 (k1.trans w2) (w3.back m k1 t1)
theorem lj {body rest:List Stmt}{E:xy}(hp:PassesOwn (model X.prog X.w) X.A X.env X.xe)(P:Nat->Ev->Prop)(n0:Nat)(h0:P n0 α)
  (hs:∀n α,P n α->EvT X α c fun b=>if b=true then SvS X α body {nx:=fun α'=>∃n',n'<n/\P n' α',ct:=fun α'=>∃n',n'<n/\P n' α',bk:=fun α'=>SvS X α' rest E,rt:=E.rt} else SvS X α rest E):
  SvS X α (.While c body [] pos::rest) E:=fun F σ H D m r=>by
 refine⟨_,zT (my hp xJ yj) yj,?_⟩;refine⟨fun n σ' H'=>∃α',M F α' σ' H'/\P n α',⟨n0,α,m,h0⟩,?_⟩;rintro n σ' H' ⟨α',m',p'⟩;refine hs n α' p' F σ' H' _ m' fun b H1 q t1 k1=>?_;have m1:=m'.kz k1 t1;cases b with
 |true=>
  rw[if_pos rfl] at q ⊢;refine⟨fun σ'' H''=>∃n',n'<n/\∃α'',M F α'' σ'' H''/\P n' α'',fun σ'' H'' ⟨n',h1,h2⟩=>⟨n',h1,h2⟩,?_⟩;exact q F σ' H1 _ m1 ⟨fun α2 σ2 H2 m2 ⟨n',h1,h2⟩=>⟨n',h1,α2,m2,h2⟩,r.rt,fun α2 σ2 H2 m2 q2=>q2 F σ2 H2 D m2 r,fun α2 σ2 H2 m2 ⟨n',h1,h2⟩=>⟨n',h1,α2,m2,h2⟩⟩
 |false=>
  rw[if_neg (by decide)] at q ⊢;exact q F σ' H1 D m1 r
end
def mG (Q:PyData->Prop):List PyData->Prop
 |[]=>True
 |d::r=>Q d/\mG Q r
theorem mG.mem {Q:PyData->Prop}:∀{ds:List PyData},mG Q ds->∀d∈ds,Q d
 |[],_,d,h=>by cases h
 |x::r,h,d,hd=>by
  rcases zX0.mp hd with rfl|hd
  ·exact h.1
  ·exact mG.mem h.2 d hd
theorem zp3 {x:PyData}{ds:List PyData}{v:Int}{Q:PyData->Prop}(hx:vt x=some ds)(h0:0<=v)(h1:v<ds.length)(h:mG Q ds):∃ds i d,vt x=some ds/\PyData.int v=.int i/\atI ds i=some d/\Q d:=by
 obtain⟨d,hd,e⟩:=mO h0 h1;exact⟨ds,v,d,hx,rfl,e,h.mem d hd⟩
theorem aX {x:PyData}{ds:List PyData}{v:Int}{Q:PyData->Prop}(P:PyData->Prop)(hx:vt x=some ds)(h0:0<=v)(h1:v<ds.length)(h:mG P ds)(k:∀d,P d->Q d):∃ds i d,vt x=some ds/\PyData.int v=.int i/\atI ds i=some d/\Q d:=by
 obtain⟨d,hd,e⟩:=mO h0 h1;exact⟨ds,v,d,hx,rfl,e,k d (h.mem d hd)⟩
theorem vc {k:Bool}{p q:Prop}(h1:k=true->p)(h2:k=false->q):if k=true then p else q:=by
 cases k with
 |true=>exact h1 rfl
 |false=>exact h2 rfl
theorem vm {i j:Int}:PyData.eqv (.int i) (.int j)=decide (i=j):=by
 show (i == j)=_;by_cases h:i=j<;>simp[h]
section
variable {X:Cx}{α:Ev}{e a b:Expr}{pos p:Pos}{E:xy}{rest:List Stmt}
def EvR (X:Cx)(α:Ev)(e:Expr)(Q:PyData->Prop):Prop:=∀(F:Fr) (σ:St) (H:Hp) (R:VK),M F α σ H->(∀d v H',Q d->zR F H'->Kz F H H'->AV (sub (fun x=>¬F.O0 x/\∀xs,F.H0 x≠some (.lst xs)) H') v d->R v H')->tf X e σ H R
theorem ja {Q:PyData->Prop}(h:EvD X α e fun d=>noL d=true/\Q d):EvR X α e Q:=fun F σ H R m k=>h F σ H R m fun d v H' q t kz r=>k d v H' q.2 t kz (r.noL (fun x o ho z=>by
 obtain⟨z1,z2⟩:=zi z;refine zH ⟨ow0 z1,fun xs w=>?_⟩ z2;have:=kz _ _ (m.keep _ _ w (m.tp.nt (ow0 z1))) (m.tp.nt (ow0 z1));rw[z2] at this;cases this;exact ho trivial) q.1)
theorem oQ {Q:PyData->Prop}(h:EvL X α e fun ds=>ur ds=true/\Q (.list ds)):EvR X α e Q:=fun F σ H R m k=>h F σ H R m fun ds v H' q t kz r=>by
 obtain⟨l,xs,rfl,h2,h3,h4⟩:=r;refine k _ _ H' q.2 t kz (.lst (zH ⟨ow0 (m.fresh h2),fun xs w=>by rw[m.fresh0 h2] at w;cases w⟩ h3) (h4.noL (fun x o ho z=>?_) q.1));obtain⟨z1,z2⟩:=zi z;refine zH ⟨ow0 z1.1,fun xs w=>?_⟩ z2;have:=kz _ _ (m.keep _ _ w (m.tp.nt (ow0 z1.1))) (m.tp.nt (ow0 z1.1));rw[z2] at this;cases this;exact ho trivial
def zs8 (X:Cx)(α:Ev)(es:List Expr)(Q:List PyData->Prop):Prop:=∀(F:Fr) (σ:St) (H:Hp) (R:List V->Hp->Prop),M F α σ H->(∀ds vs H',Q ds->zR F H'->Kz F H H'->AVs (sub (fun x=>¬F.O0 x/\∀xs,F.H0 x≠some (.lst xs)) H') vs ds->R vs H')->zD8 X es σ H R
theorem gu {Q:List PyData->Prop}(q:Q []):zs8 X α [] Q:=fun F σ H R m k=>⟨_,zw,k _ _ H q m.tp Kz.refl .nil⟩
theorem wY {es:List Expr}{Q:List PyData->Prop}(h:EvR X α e fun d=>zs8 X α es fun ds=>Q (d::ds))(hs:starEach (e::es) X.env=(false,eval e X.env)::starEach es X.env:=by rfl):zs8 X α (e::es) Q:=fun F σ H R m k=>by
 refine⟨_,zd zj xh hs,?_⟩;refine h F σ H _ m fun d v H1 q1 t1 k1 r1=>?_;have m1:=m.kz k1 t1;exact q1 F σ H1 _ m1 fun as vs H2 q2 t2 k2 r2=>k _ _ H2 q2 t2 (k1.trans k2) (.cons (r1.same (zz fun x o z w=>⟨z,k2 _ _ w (m.tp.nt z.1)⟩)) r2)
theorem zd4 {n:Nat}{es:List Expr}{Q:PyData->Prop}(h:zs8 X α es fun ds=>ds.length<=1000/\Q (.tuple ds)):EvR X α (.Tuple es n pos) Q:=fun F σ H R m k=>by
 refine⟨_,oF xh,?_⟩;refine h F σ H _ m fun ds vs H1 q1 t1 k1 r1=>?_;have m1:=m.kz k1 t1;refine⟨by rw[r1.length];exact z48 (yW q1.1),fun p hp=>?_⟩;exact k _ _ _ q1.2 (t1.same (yB hp)) (k1.trans (Kz.of_same (yB hp))) (.tup (zH ⟨ow0 (m1.fresh hp),fun xs w=>by rw[m1.fresh0 hp] at w;cases w⟩ zk) (r1.same (zz fun x o z w=>⟨z,by rw[zg (zo w hp)];exact w⟩)))
theorem fc (h:EvR X α e fun d=>∀S,E.rt (.deep d S)):SvS X α (.Return (some e) pos::rest) E:=fun F σ H D m r=>by
 refine⟨_,zT (zD zj) yj,?_⟩;refine h F σ H _ m fun d v H1 q1 t1 k1 r1=>?_;have m1:=m.kz k1 t1;refine r.rt (.deep d fun y=>¬F.O0 y/\F.H0 y=none/\∃xs,H1 y=some (.lst xs)) _ _ ⟨t1,m.keep.trans k1,?_,?_⟩ (q1 _)
 ·refine r1.same fun y o z=>?_;obtain⟨z1,z2⟩:=zi z;unfold lX;by_cases w:¬F.O0 y/\F.H0 y=none/\∃xs,H1 y=some (.lst xs)
  ·rw[if_pos w];exact z2
  ·rw[if_neg w,zH (p:=fun x=>¬F.O0 x) z1.1 z2];cases o with
   |lst xs=>
    exfalso
    cases q:F.H0 y with
    |none=>exact w ⟨z1.1,q,xs,z2⟩
    |some o'=>
     have:=m1.keep y o' q (m.tp.nt z1.1);rw[z2] at this;cases this;exact z1.2 xs q
   |_=>rfl
 ·exact fun x z=>z
end
def zO7 :R2:=fun x y H R=>rEq x y H R\/zN6 x y H R
def zM6 :R2:=fun x y H R=>rNe x y H R\/zP5 x y H R
theorem zh9 {X:Cx}(hu:X.A.units+64<cLine):OpR X (compareOp .Eq) zO7:=fun pins s σ H x y v u Q I rx ry h=>h.elim (fun h=>vE _ _ _ _ _ _ _ _ _ I rx ry h) fun h=>vL hu _ _ _ _ _ _ _ _ _ I rx ry h
theorem zl7 {X:Cx}(hu:X.A.units+64<cLine):OpR X (compareOp .NotEq) zM6:=fun pins s σ H x y v u Q I rx ry h=>h.elim (fun h=>zL2 _ _ _ _ _ _ _ _ _ I rx ry h) fun h=>zH7 hu _ _ _ _ _ _ _ _ _ I rx ry h
theorem zr8 {i j:Str}:Cmp rNe (.str i) (.str j) (!decide (i=j)):=fun p H vx vy R rx ry h=>by
 cases rx.str_inv;cases ry.str_inv;refine⟨rfl,?_⟩;rw[show decide (V.str i=V.str j)=decide (i=j) by simp];exact h
def nZ (x y:PyData)(Q:Bool->Prop):Prop:=∃k,Cmp zO7 x y k/\Cmp zM6 x y (!k)/\Q k
theorem zx8 {i j:Int}{Q:Bool->Prop}(h:Q (decide (i=j))):nZ (.int i) (.int j) Q:=⟨_,fun p H vx vy R rx ry z=>.inl (gD p H vx vy R rx ry z),fun p H vx vy R rx ry z=>.inl (zu7 p H vx vy R rx ry z),h⟩
theorem nM {i j:Str}{Q:Bool->Prop}(h:Q (decide (i=j))):nZ (.str i) (.str j) Q:=⟨_,fun p H vx vy R rx ry z=>.inl (hU p H vx vy R rx ry z),fun p H vx vy R rx ry z=>.inl (zr8 p H vx vy R rx ry z),h⟩
theorem eqk {x y:PyData}{Q:Bool->Prop}(s1:SeqAt.shaped x=true)(s2:SeqAt.shaped y=true)(d1:x.hasDict=false)(d2:y.hasDict=false)(h:Q (PyData.eqv x y)):nZ x y Q:=
 ⟨_,fun p H vx vy R rx ry z=>.inr ⟨x,y,(rx.dv d1).same xZ,(ry.dv d2).same xZ,s1,s2,z⟩,fun p H vx vy R rx ry z=>.inr ⟨x,y,(rx.dv d1).same xZ,(ry.dv d2).same xZ,s1,s2,z⟩,h⟩
theorem lg {i j:Bool}{Q:Bool->Prop}(h:Q (i == j)):nZ (.bool i) (.bool j) Q:=eqk rfl rfl rfl rfl (by simpa[PyData.eqv] using h)
section
variable {X:Cx}{α:Ev}{a b:Expr}{pos:Pos}{Q:PyData->Prop}{T:Bool->Prop}
theorem zC4 (hu:X.A.units+64<cLine)(h:EvD X α a fun x=>EvD X α b fun y=>nZ x y fun k=>Q (.bool k)):EvD X α (.Compare a [.Eq] [b] pos) Q:=jS (zh9 hu) (zC _) (h.imp fun x h=>h.imp fun y ⟨k,e,_,q⟩=>⟨k,e,q⟩)
theorem zJ4 (hu:X.A.units+64<cLine)(h:EvD X α a fun x=>EvD X α b fun y=>nZ x y fun k=>Q (.bool (!k))):EvD X α (.Compare a [.NotEq] [b] pos) Q:=jS (zl7 hu) (zC _) (h.imp fun x h=>h.imp fun y ⟨k,_,e,q⟩=>⟨!k,e,q⟩)
theorem iP (hu:X.A.units+64<cLine)(h:EvD X α a fun x=>EvD X α b fun y=>nZ x y T):EvT X α (.Compare a [.Eq] [b] pos) T:=wD (zh9 hu) (zC _) (h.imp fun x h=>h.imp fun y ⟨k,e,_,q⟩=>⟨k,e,q⟩)
theorem zK0 (hu:X.A.units+64<cLine)(h:EvD X α a fun x=>EvD X α b fun y=>nZ x y fun k=>T (!k)):EvT X α (.Compare a [.NotEq] [b] pos) T:=wD (zl7 hu) (zC _) (h.imp fun x h=>h.imp fun y ⟨k,_,e,q⟩=>⟨!k,e,q⟩)
theorem bN {k:Bool}{p q:Prop}(e:k=true)(h:p):if k=true then p else q:=by rw[if_pos e];exact h
theorem zj4 {k:Bool}{p q:Prop}(e:k=false)(h:q):if k=true then p else q:=by rw[if_neg (by rw[e];decide)];exact h
variable {E:xy}{s t:List Stmt}
theorem uQ {k:Bool}(e:k=true)(h:SvS X α s E):SvS X α (if k=true then s else t) E:=by rw[if_pos e];exact h
theorem ve {k:Bool}(e:k=false)(h:SvS X α t E):SvS X α (if k=true then s else t) E:=by rw[if_neg (by rw[e];decide)];exact h
end
section
variable {X:Cx}{α:Ev}{a b:Expr}{pos:Pos}{Q:PyData->Prop}{T:Bool->Prop}
def zQ8 :R2:=fun x y H Q=>∃a v,x=.ref a/\jj H a y (some v)/\Q v H
theorem zr7 (hu:X.A.units+1<cLine):IxR X zQ8:=fun value slice pins s σ H x y v u Q I rx ry h hs=>by
 obtain⟨a,z,rfl,g,q⟩:=h;cases rx;exact tail_any (kH I g) PySem.F.slot_dict_getitem.lookup (cz hu I g ry fun w' s' I' r'=>⟨z,H,I',r',q⟩) hs
def js (x y:PyData)(Q:PyData->Prop):Prop:=(∃ds i d,vt x=some ds/\y=.int i/\atI ds i=some d/\Q d)\/∃ds k d,x=yP ds/\y=vj k/\tP ds k=some d/\Q d
theorem ixk {x y:PyData}{ds:List PyData}{i:Int}{d:PyData}(h1:vt x=some ds)(h2:y=.int i)(h3:atI ds i=some d)(h:Q d):js x y Q:=.inl ⟨ds,i,d,h1,h2,h3,h⟩
theorem mw {d:PyData}{r:List PyData}(h:Q d):js (.tuple (d::r)) (.int 0) Q:=ixk rfl rfl (yH (j:=0) rfl) h
theorem xt {ds:List (PyData×PyData)}{k:Key}{d y:PyData}(h2:y=vj k)(h3:tP ds k=some d)(h:Q d):js (yP ds) y Q:=.inr ⟨ds,k,d,rfl,h2,h3,h⟩
theorem nj {x:PyData}{ds:List PyData}{v:Int}(hx:vt x=some ds)(h0:0<=v)(h1:v<ds.length)(h:mG Q ds):js x (.int v) Q:=.inl (zp3 hx h0 h1 h)
theorem gk {x:PyData}{ds:List PyData}{v:Int}(P:PyData->Prop)(hx:vt x=some ds)(h0:0<=v)(h1:v<ds.length)(h:mG P ds)(k:∀d,P d->Q d):js x (.int v) Q:=.inl (aX P hx h0 h1 h k)
theorem vn (hu:X.A.units+1<cLine)(hs:rD b)(h:EvD X α a fun x=>EvD X α b fun y=>js x y Q):EvD X α (.Subscript a b pos) Q:=by
 refine tY (f:=tOp (fun x y H Q=>rIx X.K x y H Q\/zQ8 x y H Q)) (zW (zI4.or (zr7 hu)) zj zj hs) (fun _ _ _=>Iff.rfl) (h.imp fun x h=>h.imp fun y h=>?_);intro F σ H vx vy R m rx ry k;rcases h with ⟨ds,i,d,e1,rfl,hat,hq⟩|⟨ds,kk,d,rfl,rfl,hv,hq⟩
 ·cases ry.int_inv;cases x with
  |list ds'=>
   cases e1;obtain⟨a,xs,rfl,h1,h2⟩:=rx.lst_inv;obtain⟨v,hv,av⟩:=h2.atI hat;exact .inl (.inl ⟨a,xs,i,v,rfl,rfl,SqL.of (zi h1).2,hv,k d v H hq m.tp Kz.refl av⟩)
  |tuple ds'=>
   cases e1;obtain⟨a,xs,rfl,h1,h2⟩:=rx.tup_inv;obtain⟨v,hv,av⟩:=h2.atI hat;exact .inl (.inr (.inl ⟨a,xs,i,v,rfl,rfl,SqT.of (zi h1).2,hv,k d v H hq m.tp Kz.refl av⟩))
  |_=>cases e1
 ·obtain⟨a,o,kvs,rfl,g1,g2⟩:=rx.dk_inv;obtain⟨v,w1,w2⟩:=g2.get hv;cases rn ry;exact .inr ⟨a,v,rfl,.inl ⟨kvs,kk,.inr ⟨o,(zi g1).2⟩,rfl,w1.symm⟩,k d v H hq m.tp Kz.refl w2⟩
def zv2 (K:PySem.W.Frag)(neg:Bool):R2:=fun x y H Q=>rIn K neg x y H Q\/∃a o,y=.ref a/\jj H a x o/\Q (.bl (if neg then !o.isSome else o.isSome)) H
theorem zf0 (hu:X.A.units+1<cLine):OpR X (compareOp .In) (zv2 X.K false):=fun pins s σ H x y v u Q I rx ry h=>by
 rcases h with h|⟨a,o,rfl,g,q⟩
 ·exact dF pins s σ H x y v u Q I rx ry h
 ·cases ry;exact zU3 hu I g rx fun s' I'=>⟨.bl o.isSome,H,I',rfl,q⟩
theorem dh (hu:X.A.units+1<cLine):OpR X (compareOp .NotIn) (zv2 X.K true):=fun pins s σ H x y v u Q I rx ry h=>by
 rcases h with h|⟨a,o,rfl,g,q⟩
 ·exact mi pins s σ H x y v u Q I rx ry h
 ·cases ry;exact zw1 hu I g rx fun s' I'=>⟨.bl (!o.isSome),H,I',rfl,q⟩
def cj (X:Cx)(x y:PyData)(Q:Bool->Prop):Prop:=∃k,Cmp (zv2 X.K false) x y k/\Cmp (zv2 X.K true) x y (!k)/\Q k
theorem ink {x:PyData}{ds:List PyData}(f1:qq x=true)(f2:ds.all qq=true)(q:T (inD x ds)):cj X x (.list ds) T:=
 ⟨_,fun p H vx vy R rx ry h=>.inl (zj3 (X:=X) (neg:=false) f1 f2 p H vx vy R rx ry h),fun p H vx vy R rx ry h=>.inl (zj3 (X:=X) (neg:=true) f1 f2 p H vx vy R rx ry h),q⟩
theorem wa {x:PyData}{ds:List (PyData×PyData)}{k:Key}(e:x=vj k)(q:T (tP ds k).isSome):cj X x (yP ds) T:=by
 subst e;have key:∀(p:Addr->Prop) (H:Hp) (vx vy:V),AV (sub p H) vx (vj k)->AV (sub p H) vy (yP ds)->∃a o,vy=.ref a/\jj H a vx o/\o.isSome=(tP ds k).isSome:=fun p H vx vy rx ry=>by
  obtain⟨a,o,kvs,rfl,g1,g2⟩:=ry.dk_inv;cases rn rx;exact⟨a,_,rfl,.inl ⟨kvs,k,.inr ⟨o,(zi g1).2⟩,rfl,rfl⟩,g2.some_iff k⟩
 refine⟨_,fun p H vx vy R rx ry h=>?_,fun p H vx vy R rx ry h=>?_,q⟩
 ·obtain⟨a,o,e1,e2,e3⟩:=key p H vx vy rx ry;exact .inr ⟨a,o,e1,e2,by rw[if_neg (by decide),e3];exact h⟩
 ·obtain⟨a,o,e1,e2,e3⟩:=key p H vx vy rx ry;exact .inr ⟨a,o,e1,e2,by rw[if_pos rfl,e3];exact h⟩
theorem zF8 (hu:X.A.units+1<cLine)(h:EvD X α a fun x=>EvD X α b fun y=>cj X x y T)(hm:behindInMarks .In b=false:=by rfl):EvT X α (.Compare a [.In] [b] pos) T:=
 wD (zf0 hu) hm (h.imp fun x h=>h.imp fun y ⟨k,e,_,q⟩=>⟨k,e,q⟩)
theorem zp1 (hu:X.A.units+1<cLine)(h:EvD X α a fun x=>EvD X α b fun y=>cj X x y fun k=>T (!k))(hm:behindInMarks .NotIn b=false:=by rfl):EvT X α (.Compare a [.NotIn] [b] pos) T:=
 wD (dh hu) hm (h.imp fun x h=>h.imp fun y ⟨k,_,e,q⟩=>⟨!k,e,q⟩)
theorem zC8 (hu:X.A.units+1<cLine)(h:EvD X α a fun x=>EvD X α b fun y=>cj X x y fun k=>Q (.bool k))(hm:behindInMarks .In b=false:=by rfl):EvD X α (.Compare a [.In] [b] pos) Q:=
 jS (zf0 hu) hm (h.imp fun x h=>h.imp fun y ⟨k,e,_,q⟩=>⟨k,e,q⟩)
end
theorem zX.few {k:Nat}{A:Around}(h:zX k A):A.units+70<cLine:=by have:=h.un;omega
theorem zX.one {k:Nat}{A:Around}(h:zX k A):A.units+1<cLine:=by have:=h.units;omega
section
variable {X:Cx}{α:Ev}{E:xy}{rest body:List Stmt}{e c tg iter:Expr}{pos p:Pos}
theorem yG (pat:Pat)(h:EvI X α tg iter fun ds=>sE X pat body rest E ds α)(hN:X.N.Nodup:=by assumption)(hp:PassesOwn (model X.prog X.w) X.A X.env X.xe:=by exact z42)(hc:X.calm=true:=by rfl)
  (hg:PG X tg (lM X.K pat):=by first|exact yb (by assumption) rfl (Or.inl rfl)|exact yb (by assumption) rfl (Or.inr rfl)|exact vP rfl rfl (by repeat (first|exact tH|refine wj (by first|exact yb (by assumption) rfl (Or.inl rfl)|exact yb (by assumption) rfl (Or.inr rfl)) ?_)))
  (hs:∀x,foldedSetIterable iter X.env x=pure x:=by intro _;rfl):SvS X α (.For tg iter body [] pos::rest) E:=vK hp hc hg h hs
noncomputable def freeOk (xs:Scope)(y:Str×NameKind):Bool:=match y.2 with
 |.free=>match xs.names.lookup y.1 with
  |some .cell=>true
  |some .free=>true
  |_=>false
 |_=>true
theorem mH {xs scope:Scope}(h:scope.names.all (freeOk xs)=true):∀y∈scope.names,y.2=.free->xs.names.lookup y.1=some .cell\/xs.names.lookup y.1=some .free:=fun y hy e=>by
 have:=z64.mp h y hy;unfold freeOk at this;rw[e] at this;cases z:xs.names.lookup y.1 with
 |none=>rw[z] at this;cases this
 |some k=>
  rw[z] at this;cases k<;>first|exact .inl rfl|exact .inr rfl|cases this
theorem wo (N:List Str)(imp:List (Option Nat))(pat:Pat){scope:Scope}{elt:Expr}{ifs:List Expr}{Q:List PyData->Prop}(h:EvI X α tg iter fun ds=>ds.length<=1000/\wA (fun C s2 H2 fp=>X.comp N scope C s2 H2 fp) pat ifs elt (xp imp α) ds [] Q)
  (nd:N.Nodup:=by decide +kernel) (h1:scope.kind=.function:=by rfl) (h2:∀y∈scope.names,y.2≠.cell:=by decide +kernel) (h3:∀y∈scope.names,y.2=.local->scope.names.lookup y.1=some .local:=by decide +kernel) (h4:scope.names.all (freeOk X.env.scope)=true:=by rfl) (h5:imp.length=N.length:=by rfl)
  (h6:((imp.zip N).all fun p=>match p.1 with|none=>true|some j=>X.N[j]? == some p.2&&scope.names.lookup p.2 == some .free)=true:=by rfl) (hfree:pat.free (xp imp α)=true:=by rfl)
  (hg:∀C s2 H2 fp,N.Nodup->PG (X.comp N scope C s2 H2 fp) tg (lM X.K pat):=by intro _ _ _ _ hnd;first|exact yb hnd rfl (Or.inl rfl)|exact vP rfl rfl (by repeat (first|exact tH|refine wj (yb hnd rfl (Or.inl rfl)) ?_)))
  (hc:X.calm=true:=by rfl) (hs:∀x,foldedSetIterable iter X.env x=pure x:=by intro _;rfl):EvL X α (.ListComp elt [⟨tg,iter,ifs,0⟩] scope pos) Q:=zA7 hc ⟨h1,nd,h2,h3,mH h4,h5,h6⟩ hfree (fun C s2 H2 fp=>hg C s2 H2 fp nd) h hs
theorem jR (i:Nat)(N:List Str)(imp:List (Option Nat))(pat:Pat){x:Str}{pos' cpos:Pos}{scope:Scope}{elt:Expr}{ifs:List Expr}(h:EvI X α tg iter fun ds=>ds.length<=1000/\wA (fun C s2 H2 fp=>X.comp N scope C s2 H2 fp) pat ifs elt (xp imp α) ds [] fun ds=>SvS X (α.set i (some (.own ds))) rest E)
  (hN:X.N.Nodup:=by assumption)
  (nd:N.Nodup:=by decide +kernel) (h1:scope.kind=.function:=by rfl) (h2:∀y∈scope.names,y.2≠.cell:=by decide +kernel) (h3:∀y∈scope.names,y.2=.local->scope.names.lookup y.1=some .local:=by decide +kernel) (h4:scope.names.all (freeOk X.env.scope)=true:=by rfl) (h5:imp.length=N.length:=by rfl)
  (h6:((imp.zip N).all fun p=>match p.1 with|none=>true|some j=>X.N[j]? == some p.2&&scope.names.lookup p.2 == some .free)=true:=by rfl) (hfree:pat.free (xp imp α)=true:=by rfl)
  (hg:∀C s2 H2 fp,N.Nodup->PG (X.comp N scope C s2 H2 fp) tg (lM X.K pat):=by intro _ _ _ _ hnd;first|exact yb hnd rfl (Or.inl rfl)|exact vP rfl rfl (by repeat (first|exact tH|refine wj (yb hnd rfl (Or.inl rfl)) ?_)))
  (hc:X.calm=true:=by rfl)
  (hi:X.N[i]?=some x:=by rfl) (hx:Loc X.env.scope x:=by first|exact Or.inl rfl|exact Or.inr rfl) (hsw:swapsWith (.ListComp elt [⟨tg,iter,ifs,0⟩] scope cpos) (some (.Name x pos')) pos.line X.env=pure true:=by rfl)
  (hf:X.fn x=true\/X.env.scope.names.lookup x=some .local:=by first|exact .inl rfl|exact .inr rfl|assumption) (hs:∀x,foldedSetIterable iter X.env x=pure x:=by intro _;rfl):
  SvS X α (.Assign [.Name x pos'] (.ListComp elt [⟨tg,iter,ifs,0⟩] scope cpos) pos::rest) E:=ze4 i hN hc ⟨h1,nd,h2,h3,mH h4,h5,h6⟩ hfree (fun C s2 H2 fp=>hg C s2 H2 fp nd) h hi hx hsw hf hs
end
section
variable {Y:Addr->Shared->Hp->List Addr->Cx}{pat:Pat}{ifs:List Expr}{elt:Expr}{α0:Ev}{ι:Type}{g f:ι->PyData}{l:List ι}{acc:List PyData}{Q:List PyData->Prop}
theorem lV (p:ι->Bool)(f:ι->PyData)(hs:∀x∈l,∃α1,pat.bind (g x) α0=some α1/\(∀C s2 H2 fp (Q:Bool->Prop),Q (p x)->zc5 (Y C s2 H2 fp) α1 ifs Q)/\(p x=true->∀C s2 H2 fp (Q:PyData->Prop),Q (f x)->EvD (Y C s2 H2 fp) α1 elt Q))
  (hd:Q (acc++(l.filter p).map f)):wA Y pat ifs elt α0 (l.map g) acc Q:=by
 induction l generalizing acc with
 |nil=>
  show Q acc;simpa using hd
 |cons d ds ih=>
  obtain⟨α1,e,h1,h2⟩:=hs d zX7;refine⟨α1,e,fun C s2 H2 fp=>h1 C s2 H2 fp _ ?_⟩;have ih':=fun acc=>ih (acc:=acc) fun d hd=>hs d (zX3 _ hd);cases hp:p d with
  |true=>
   rw[if_pos rfl];refine fun C s2 H2 fp=>h2 hp C s2 H2 fp _ (ih' _ ?_);simpa[z86,hp] using hd
  |false=>
   rw[if_neg (by decide)];refine ih' _ ?_;simpa[z86,hp] using hd
theorem ym (f:ι->PyData)(hs:∀x∈l,∃α1,pat.bind (g x) α0=some α1/\∀C s2 H2 fp (Q:PyData->Prop),Q (f x)->EvD (Y C s2 H2 fp) α1 elt Q)(hd:Q (acc++l.map f)):wA Y pat [] elt α0 (l.map g) acc Q:=
 lV (fun _=>true) f (fun x hx=>by
  obtain⟨α1,h1,h2⟩:=hs x hx;exact⟨α1,h1,fun _ _ _ _ _ k=>aD k,fun _=>h2⟩) (by rw[List.filter_eq_self.mpr fun _ _=>rfl];exact hd)
end
abbrev Part :=Int×Int×Nat
abbrev Way :=Int×Int×Option Part
abbrev Co :=Nat->Int->Int->Option Int
inductive Cut (co:Co)(N:Nat):Int->Int->Int->List Part->Prop
 |nil (a:Int):Cut co N a a 0 []
 |cons {a e b x y:Int} {n:Nat} {ps:List Part} (h1:a<e) (h2:n<N) (h3:co n a e=some x) (h:Cut co N e b y ps):Cut co N a b (x+y) ((a,e,n)::ps)
section
variable {co:Co}{N:Nat}
theorem Cut.le {a b z:Int}{ps:List Part}(h:Cut co N a b z ps):a<=b:=by
 induction h with
 |nil a=>exact z23 _
 |cons h1 _ _ _ ih=>omega
theorem Cut.app {a b e z y:Int}{ps qs:List Part}(h:Cut co N a b z ps)(h':Cut co N b e y qs):Cut co N a e (z+y) (ps++qs):=by
 induction h with
 |nil a=>rw[Int.zero_add];exact h'
 |cons h1 h2 h3 _ ih=>rw[Int.add_assoc,z65];exact .cons h1 h2 h3 (ih h')
theorem Cut.snoc {a b e z x:Int}{n:Nat}{ps:List Part}(h:Cut co N a b z ps)(h1:b<e)(h2:n<N)(h3:co n b e=some x):Cut co N a e (z+x) (ps++[(b,e,n)]):=by
 have:=h.app (.cons h1 h2 h3 (.nil e))
 rwa [Int.add_zero] at this
theorem Cut.last {a b z:Int}{ps:List Part}(h:Cut co N a b z ps):(ps=[]/\a=b/\z=0)\/∃qs d y x n,ps=qs++[(d,b,n)]/\Cut co N a d y qs/\d<b/\n<N/\co n d b=some x/\z=y+x:=by
 induction h with
 |nil a=>exact .inl ⟨rfl,rfl,rfl⟩
 |@cons a e b x y n ps h1 h2 h3 h ih=>
  right;rcases ih with ⟨rfl,rfl,rfl⟩|⟨qs,d,y',x',m,rfl,c,hd,hm,hx,rfl⟩
  ·exact⟨[],a,0,x,n,rfl,.nil a,h1,h2,h3,by omega⟩
  ·exact⟨(a,e,n)::qs,d,x+y',x',m,rfl,.cons h1 h2 h3 c,hd,hm,hx,by omega⟩
theorem Cut.len {a b z:Int}{ps:List Part}(h:Cut co N a b z ps):(ps.length:Int)<=b-a:=by
 induction h with
 |nil a=>simp
 |cons h1 _ _ _ ih=>rw[zX9];omega
def fZ (co:Co)(N:Nat)(a b z:Int):Prop:=(∃ps,Cut co N a b z ps)/\∀y ps,Cut co N a b y ps->z<=y
noncomputable def ltQ (x y:Part):Bool:=decide (x.1<y.1)||(decide (x.1=y.1)&&(decide (x.2.1<y.2.1)||(decide (x.2.1=y.2.1)&&decide (x.2.2<y.2.2))))
noncomputable def ltP (x y:Int×Part):Bool:=decide (x.1<y.1)||(decide (x.1=y.1)&&ltQ x.2 y.2)
noncomputable def jU :List (Int×Part)->Int×Part
 |[]=>(0,0,0,0)
 |d::ds=>ds.foldl (fun b x=>if ltP x b=true then x else b) d
theorem zS4 {x y:Int×Part}(h:ltP x y=true):x.1<=y.1:=by
 unfold ltP at h;simp only[z60,zY7,zZ5] at h;omega
theorem zS5 {x y:Int×Part}(h:¬ltP x y=true):y.1<=x.1:=by
 unfold ltP at h;simp only[z60,zY7,zZ5,not_or] at h;omega
theorem gU :∀(ds:List (Int×Part)) (d:Int×Part),(ds.foldl (fun b x=>if ltP x b=true then x else b) d=d\/ds.foldl (fun b x=>if ltP x b=true then x else b) d∈ds)/\(ds.foldl (fun b x=>if ltP x b=true then x else b) d).1<=d.1/\∀x∈ds,(ds.foldl (fun b x=>if ltP x b=true then x else b) d).1<=x.1
 |[],d=>⟨.inl rfl,z23 _,fun x hx=>by simp at hx⟩
 |y::ds,d=>by
  rw[yb0];obtain⟨h1,h2,h3⟩:=gU ds (if ltP y d=true then y else d);by_cases h:ltP y d=true
  ·rw[if_pos h] at h1 h2 h3 ⊢;have:=zS4 h;refine⟨.inr ?_,by omega,fun x hx=>?_⟩
   ·rcases h1 with e|e
    ·rw[e];exact zX7
    ·exact zX3 _ e
   ·rcases zX0.mp hx with rfl|hx
    ·exact h2
    ·exact h3 x hx
  ·rw[if_neg h] at h1 h2 h3 ⊢;have:=zS5 h;refine⟨h1.imp id fun e=>zX3 _ e,h2,fun x hx=>?_⟩;rcases zX0.mp hx with rfl|hx
   ·omega
   ·exact h3 x hx
theorem bw {ds:List (Int×Part)}(h:ds≠[]):jU ds∈ds:=by
 cases ds with
 |nil=>exact absurd rfl h
 |cons d ds=>
  rcases (gU ds d).1 with e|e
  ·show List.foldl _ d ds∈_;rw[e];exact zX7
  ·exact zX3 _ e
theorem zq9 {ds:List (Int×Part)}{x:Int×Part}(h:x∈ds):(jU ds).1<=x.1:=by
 cases ds with
 |nil=>simp at h
 |cons d ds=>
  rcases zX0.mp h with rfl|h
  ·exact (gU ds x).2.1
  ·exact (gU ds d).2.2 x h
noncomputable def zj1 (co:Co)(N:Nat)(day:Int)(w:Way):List (Int×Part):=(List.range N).filterMap fun n=>(co n w.1 day).map fun x=>(w.2.1+x,(w.1,day,n))
noncomputable def sy (co:Co)(N:Nat)(W:List Way)(day:Int):List (Int×Part):=W.flatMap (zj1 co N day)
theorem mr {W:List Way}{day:Int}{p:Int×Part}:p∈sy co N W day↔∃w∈W,∃n x,n<N/\co n w.1 day=some x/\p=(w.2.1+x,(w.1,day,n)):=by
 unfold sy zj1;simp only[List.mem_flatMap,ye2,List.mem_range,zY0]
 constructor
 ·rintro⟨w,hw,n,hn,x,hx,rfl⟩;exact⟨w,hw,n,x,hn,hx,rfl⟩
 ·rintro⟨w,hw,n,x,hn,hx,rfl⟩;exact⟨w,hw,n,hn,x,hx,rfl⟩
noncomputable def mL (co:Co)(N:Nat)(W:List Way)(day:Int):List Way:=if sy co N W day=[] then W else W++[(day,(jU (sy co N W day)).1,some (jU (sy co N W day)).2)]
noncomputable def yu (co:Co)(N:Nat)(c:Int):Nat->List Way
 |0=>[(c,0,none)]
 |k+1=>mL co N (yu co N c k) (c+1+k)
noncomputable def zr (W:List Way)(d:Int):Option (Int×Option Part):=(W.find? fun w=>decide (w.1=d)).map (·.2)
structure vg (co:Co)(N:Nat)(c:Int)(k:Nat)(W:List Way):Prop where
 first:∃r,W=(c,0,none)::r/\∀w∈r,c<w.1
 top:∀w∈W,w.1<=c+k
 sort:(W.map (·.1)).Pairwise (·<·)
 step:∀w∈W,w=(c,0,none)\/∃u∈W,∃n y,u.1<w.1/\n<N/\co n u.1 w.1=some y/\w=(w.1,u.2.1+y,some (u.1,w.1,n))
 shut:∀u∈W,∀d n y,u.1<d->d<=c+k->n<N->co n u.1 d=some y->∃w∈W,w.1=d/\w.2.1<=u.2.1+y
theorem vg.low {c:Int}{k:Nat}{W:List Way}(h:vg co N c k W):∀w∈W,c<=w.1:=fun w hw=>by
 obtain⟨r,rfl,hr⟩:=h.first;rcases zX0.mp hw with rfl|hw
 ·exact z23 _
 ·have:=hr w hw;omega
theorem zq5 (c:Int):∀k,vg co N c k (yu co N c k)
 |0=>by
  refine⟨⟨[],rfl,fun w hw=>by simp at hw⟩,fun w hw=>?_,by simp[yu],fun w hw=>?_,fun u hu d n y h1 h2 _ _=>?_⟩
  ·rw[zX5.mp hw];simp
  ·exact .inl (zX5.mp hw)
  ·rw[zX5.mp hu] at h1;simp only[Int.natCast_zero,Int.add_zero] at h2;have h1':c<d:=h1;omega
 |k+1=>by
  have ih:=zq5 c k;unfold yu mL;generalize yu co N c k=W at ih;obtain⟨r,hr,hr1⟩:=ih.first;by_cases e:sy co N W (c+1+k)=[]
  ·rw[if_pos e];refine⟨ih.first,fun w hw=>by have:=ih.top w hw;omega,ih.sort,ih.step,fun u hu d n y h1 h2 h3 h4=>?_⟩;by_cases hd:d<=c+k
   ·exact ih.shut u hu d n y h1 hd h3 h4
   ·have:d=c+1+k:=by omega
    subst this;have:=mr.mpr ⟨u,hu,n,y,h3,h4,rfl⟩;rw[e] at this;simp at this
  ·rw[if_neg e];have hm:=bw e;obtain⟨u0,hu0,n0,y0,hn0,hy0,em⟩:=mr.mp hm;refine⟨?_,fun w hw=>?_,?_,fun w hw=>?_,fun u hu d n y h1 h2 h3 h4=>?_⟩
   ·rw[hr];refine⟨r++[_],rfl,fun w hw=>?_⟩;rcases z20.mp hw with hw|hw
    ·exact hr1 w hw
    ·rw[zX5.mp hw];show c<c+1+k;omega
   ·rcases z20.mp hw with hw|hw
    ·have:=ih.top w hw;omega
    ·rw[zX5.mp hw];show c+1+k<=c+((k+1:Nat):Int);omega
   ·rw[zZ9,List.pairwise_append];refine⟨ih.sort,by simp,fun a ha b hb=>?_⟩;obtain⟨w,hw,rfl⟩:=z06.mp ha;have:=ih.top w hw;rw[zY2,yb4,zX5] at hb;have hb:b=c+1+k:=hb;omega
   ·rcases z20.mp hw with hw|hw
    ·rcases ih.step w hw with h|⟨u,hu,n,y,h⟩
     ·exact .inl h
     ·exact .inr ⟨u,z78 _ hu,n,y,h⟩
    ·rw[zX5.mp hw];refine .inr ⟨u0,z78 _ hu0,n0,y0,?_,hn0,hy0,?_⟩
     ·have:=ih.top u0 hu0;show u0.1<c+1+k;omega
     ·rw[em]
   ·have key:∀u∈W,u.1<d->∃w∈W++[(c+1+(k:Int),(jU (sy co N W (c+1+k))).1,some (jU (sy co N W (c+1+k))).2)],w.1=d/\(co n u.1 d=some y->w.2.1<=u.2.1+y)\/¬co n u.1 d=some y:=fun u hu h1=>by
     by_cases h4:co n u.1 d=some y
     ·by_cases hd:d<=c+k
      ·obtain⟨w,hw,e1,e2⟩:=ih.shut u hu d n y h1 hd h3 h4;exact⟨w,z78 _ hw,.inl ⟨e1,fun _=>e2⟩⟩
      ·have:d=c+1+k:=by omega
       subst this;exact⟨_,z00 _ (zX5.mpr rfl),.inl ⟨rfl,fun _=>zq9 (mr.mpr ⟨u,hu,n,y,h3,h4,rfl⟩)⟩⟩
     ·exact⟨_,z00 _ (zX5.mpr rfl),.inr h4⟩
    rcases z20.mp hu with hu|hu
    ·obtain⟨w,hw,h|h⟩:=key u hu h1
     ·exact⟨w,hw,h.1,h.2 h4⟩
     ·exact absurd h4 h
    ·rw[zX5.mp hu] at h1;have h1:c+1+(k:Int)<d:=h1;omega
theorem vg.uniq {c:Int}{k:Nat}{W:List Way}(h:vg co N c k W){u w:Way}(hu:u∈W)(hw:w∈W)(e:u.1=w.1):u=w:=by
 have hs:=h.sort;clear h
 induction W with
 |nil=>simp at hu
 |cons a W ih=>
  rw[zY2,z71] at hs;rcases zX0.mp hu with rfl|hu'
  ·rcases zX0.mp hw with rfl|hw'
   ·rfl
   ·have:=hs.1 w.1 (z06.mpr ⟨w,hw',rfl⟩);omega
  ·rcases zX0.mp hw with rfl|hw'
   ·have:=hs.1 u.1 (z06.mpr ⟨u,hu',rfl⟩);omega
   ·exact ih hu' hw' hs.2
theorem find_some {W:List Way}{d:Int}{x:Int}{l:Option Part}(h:zr W d=some (x,l)):(d,x,l)∈W:=by
 unfold zr at h;obtain⟨w,hw,e⟩:=zY0.mp h;have h1:=List.find?_some hw;rw[zZ5] at h1;have h2:=List.mem_of_find?_eq_some hw;rw[show (d,x,l)=w by rw[<-h1,<-e]];exact h2
theorem find_none {W:List Way}{d:Int}(h:zr W d=none):∀w∈W,w.1≠d:=fun w hw e=>by
 unfold zr at h;rw[Option.map_eq_none_iff,List.find?_eq_none] at h;have:=h w hw;rw[z02 e] at this;exact this rfl
theorem vg.find {c:Int}{k:Nat}{W:List Way}(h:vg co N c k W){d x:Int}{l:Option Part}(hw:(d,x,l)∈W):zr W d=some (x,l):=by
 cases e:zr W d with
 |none=>exact absurd rfl (find_none e _ hw)
 |some p=>
  have:=h.uniq (find_some e) hw rfl;rw[show p=(x,l) by injection this]
theorem vg.least {c:Int}{k:Nat}{W:List Way}(h:vg co N c k W):∀(m:Nat) {d z:Int} {ps:List Part},ps.length=m->Cut co N c d z ps->d<=c+k->∃w∈W,w.1=d/\w.2.1<=z
 |0,d,z,ps,hl,hc,hd=>by
  rcases hc.last with ⟨_,rfl,rfl⟩|⟨qs,_,_,_,_,rfl,_⟩
  ·obtain⟨r,rfl,_⟩:=h.first;exact⟨_,zX7,rfl,z23 _⟩
  ·simp at hl
 |m+1,d,z,ps,hl,hc,hd=>by
  rcases hc.last with ⟨rfl,_⟩|⟨qs,b,y,x,n,rfl,hc',hb,hn,hx,rfl⟩
  ·simp at hl
  ·obtain⟨u,hu,rfl,hle⟩:=h.least m (by simpa using hl) hc' (by omega);obtain⟨w,hw,e1,e2⟩:=h.shut u hu d n x hb hd hn hx;exact⟨w,hw,e1,by omega⟩
noncomputable def vD (W:List Way)(c:Int):Nat->Int->List Part
 |0,_=>[]
 |f+1,d=>if d=c then [] else match zr W d with
  |some (_,some p)=>p::vD W c f p.1
  |_=>[]
theorem vg.back {c:Int}{k:Nat}{W:List Way}(h:vg co N c k W):∀(f:Nat) {d x:Int} {l:Option Part},(d,x,l)∈W->d-c<=f->Cut co N c d x (vD W c f d).reverse
 |0,d,x,l,hw,hf=>by
  have:=h.low _ hw;have hd:d=c:=by simp only[Int.natCast_zero] at hf;have:c<=d:=this;omega
  subst hd;obtain⟨r,hr,_⟩:=h.first;have:=h.uniq (w:=(d,0,none)) hw (by rw[hr];exact zX7) rfl;injection this with _ e;injection e with e _;subst e;exact .nil _
 |f+1,d,x,l,hw,hf=>by
  rw[vD];rcases h.step _ hw with e|⟨u,hu,n,y,h1,h2,h3,e⟩
  ·injection e with e1 e2;injection e2 with e2 _;subst e1 e2;rw[if_pos rfl];exact .nil _
  ·have hlu:=h.low u hu;have h1:u.1<d:=h1;have h3:co n u.1 d=some y:=h3;have e:(d,x,l)=(d,u.2.1+y,some (u.1,d,n)):=e;injection e with _ e;injection e with e e';subst e e';rw[if_neg (by omega),h.find hw];show Cut co N c d _ ((u.1,d,n)::vD W c f u.1).reverse;rw[List.reverse_cons];exact (h.back f (d:=u.1) (x:=u.2.1) (l:=u.2.2) hu (by omega)).snoc h1 h2 h3
noncomputable def wM (W:List Way):List Int:=W.map (·.2.1)
noncomputable def nG (W:List Way)(hi:Int)(d:Int):Int:=match zr W d with
 |some (x,_)=>x
 |none=>hi
end
theorem fH (a:Int)(k:Nat):zp a (k+1)=zp a k++[a+(k:Nat)]:=by
 unfold zp;rw[yd6,zZ9];rfl
theorem zq2 (f:Int->Int)(a:Int):∀k:Nat,((zp a k).map fun d=>f (d+1)-f d).sum=f (a+k)-f a
 |0=>by simp[zp]
 |k+1=>by
  rw[fH,zZ9,List.sum_append,zq2 f a k];simp only[zY2,yb4,z31,List.sum_nil];rw[show a+((k+1:Nat):Int)=a+k+1 by omega];omega
theorem aA (a:Int){n i k:Nat}(h:i+k<=n):((zp a n).drop i).take k=zp (a+i) k:=by
 refine List.ext_getElem? fun j=>?_;rw[List.getElem?_take];split
 ·rename_i hj;rw[z93,zK (by omega),zK hj]
  congr 1
  omega
 ·rw[z73 (by rw[zc];omega)]
theorem zw4 :∀{zs:List Int} {z:Int},z∈zs->z<=uJ zs:=by
 intro zs z h;cases zs with
 |nil=>simp at h
 |cons d ds=>
  have key:∀(l:List Int) (m:Int),m<=l.foldl (fun b x=>if b<x then x else b) m/\∀y∈l,y<=l.foldl (fun b x=>if b<x then x else b) m:=by
   intro l
   induction l with
   |nil=>exact fun m=>⟨z23 _,fun y hy=>by simp at hy⟩
   |cons x l ih=>
    intro m;rw[yb0];obtain⟨h1,h2⟩:=ih (if m<x then x else m);have hm:m<=(if m<x then x else m)/\x<=(if m<x then x else m):=by split<;>omega
    refine⟨by omega,fun y hy=>?_⟩;rcases zX0.mp hy with rfl|hy
    ·omega
    ·exact h2 y hy
  have:=key ds d;rcases zX0.mp h with rfl|h
  ·exact this.1
  ·exact this.2 z h
theorem kq {zs:List Int}(h:zs≠[]):uJ zs∈zs:=by
 cases zs with
 |nil=>exact absurd rfl h
 |cons d ds=>
  have key:∀(l:List Int) (m:Int),l.foldl (fun b x=>if b<x then x else b) m=m\/l.foldl (fun b x=>if b<x then x else b) m∈l:=by
   intro l
   induction l with
   |nil=>exact fun m=>.inl rfl
   |cons x l ih=>
    intro m;rw[yb0];rcases ih (if m<x then x else m) with e|e
    ·rw[e];split
     ·exact .inr zX7
     ·exact .inl rfl
    ·exact .inr (zX3 _ e)
  rcases key ds d with e|e
  ·show List.foldl _ d ds∈_;rw[e];exact zX7
  ·exact zX3 _ e
theorem pV (ds:List PyData){a:Int}(h:0<=a):cutD ds (some a) none=ds.drop a.toNat:=by
 obtain⟨n,rfl⟩:=z50 h;unfold cutD;rw[HT.fJ,HT.qE,z30];rcases Nat.le_total n ds.length with z|z
 ·rw[Nat.min_eq_left z,z95 (by rw[z49];omega)]
 ·rw[Nat.min_eq_right z,List.drop_eq_nil_of_le (zW9 _),List.drop_eq_nil_of_le z,List.take_nil]
theorem zv3 (ds:List PyData){a:Int}(h:0<=a):cutD ds none (some a)=ds.take a.toNat:=by
 obtain⟨n,rfl⟩:=z50 h;unfold cutD;rw[HT.fJ,HT.qE,z30,List.drop_zero,Nat.sub_zero];rcases Nat.le_total n ds.length with z|z
 ·rw[Nat.min_eq_left z]
 ·rw[Nat.min_eq_right z,z95 (zW9 _),z95 z]
theorem ki (ds:List PyData):cutD ds none (some (-1))=ds.take (ds.length-1):=by
 unfold cutD;rw[HT.qE];have:HT.sIx ds.length ds.length (some (-1))=ds.length-1:=by
  show (if (-1:Int)<0 then ((-1:Int)+(ds.length:Int)).toNat else min (-1:Int).toNat ds.length)=_;rw[if_pos (by decide)];omega
 rw[this,List.drop_zero,Nat.sub_zero]
theorem zc2 (f:Int->Int)(c:Int)(n:Nat):bj (cutD (((zp c (n+1)).map f).map PyData.int) none (some (-1))) (cutD (((zp c (n+1)).map f).map PyData.int) (some 1) none)=(zp c n).map fun d=>.tuple [.int (f d),.int (f (d+1))]:=by
 rw[ki,pV _ (by decide)];unfold bj;refine List.ext_getElem? fun j=>?_;rw[List.getElem?_zipWith];simp only[zW3,zc,List.getElem?_take,z93,zX1];by_cases h:j<n
 ·rw[if_pos (by omega),zK (by omega),zK h,show (1:Int).toNat+j=j+1 from by rw[Nat.add_comm];rfl,zK (by omega)];show some _=some _;rw[show c+((j+1:Nat):Int)=c+(j:Nat)+1 by omega]
 ·rw[if_neg (by omega),z73 (l:=zp c n) (by rw[zc];omega)];rfl
section
variable {co:Co}{N:Nat}
noncomputable def jM (W:List Way):Int:=uJ (wM W)
noncomputable def hW (W:List Way)(d:Int):Int:=nG W (jM W) d
noncomputable def wJ (W:List Way)(c:Int)(n:Nat):List Int:=(zp c n).map fun d=>hW W (d+1)-hW W d
theorem yY {W:List Way}{d x:Int}{l:Option Part}(h:zr W d=some (x,l)):hW W d=x:=by unfold hW nG;rw[h]
theorem vv {W:List Way}{d:Int}(h:zr W d=none):hW W d=jM W:=by unfold hW nG;rw[h]
theorem zy5 (W:List Way)(d:Int):hW W d<=jM W:=by
 cases e:zr W d with
 |none=>rw[vv e];exact z23 _
 |some p=>
  rw[yY (x:=p.1) (l:=p.2) e];exact zw4 (z06.mpr ⟨_,find_some (x:=p.1) (l:=p.2) e,rfl⟩)
theorem cR (W:List Way)(c:Int)(n:Nat):(wJ W c n).length=n:=by unfold wJ;rw[zW3,zc]
theorem cN (W:List Way)(c:Int)(n:Nat):(wJ W c n).sum=hW W (c+n)-hW W c:=zq2 _ _ _
theorem eW {W:List Way}{c:Int}{n i k:Nat}(h:i+k<=n):(((wJ W c n).drop i).take k).sum=hW W (c+i+k)-hW W (c+i):=by
 unfold wJ;rw[<-List.map_drop,<-ye5,aA c h,zq2]
theorem vg.zero {c:Int}{k:Nat}{W:List Way}(h:vg co N c k W):zr W c=some (0,none):=h.find (by
 obtain⟨r,rfl,_⟩:=h.first;exact zX7)
theorem vg.had {c:Int}{k:Nat}{W:List Way}(h:vg co N c k W){x:Int}{l:Option Part}(e:zr W (c+k)=some (x,l)):fZ co N c (c+k) x:=by
 have hw:=find_some e;refine⟨⟨_,h.back k hw (by omega)⟩,fun y ps hc=>?_⟩;obtain⟨w,hw',e1,e2⟩:=h.least _ rfl hc (z23 _);have:=h.uniq hw hw' e1.symm;rw[show x=w.2.1 by rw[<-this]];exact e2
theorem vg.off {c:Int}{k:Nat}{W:List Way}(h:vg co N c k W)(e:zr W (c+k)=none){z:Int}{ps:List Part}:¬Cut co N c (c+k) z ps:=fun hc=>by
 obtain⟨w,hw,e1,_⟩:=h.least _ rfl hc (z23 _);exact find_none e w hw e1
noncomputable def yg (p:Part):PyData:=.tuple [.int p.1,.int p.2.1,.int p.2.2]
noncomputable def fu :Option Part->PyData
 |none=>.none
 |some p=>yg p
noncomputable def xY (w:Way):PyData×PyData:=(.int w.1,.tuple [.int w.2.1,fu w.2.2])
noncomputable def vo (p:Int×Part):PyData:=.tuple [.int p.1,yg p.2]
theorem zU (d:Int):∀W:List Way,tP (W.map xY) (.inl d)=(zr W d).map fun p=>.tuple [.int p.1,fu p.2]
 |[]=>rfl
 |w::W=>by
  rw[zY2];unfold xY;rw[tP];unfold zr;rw[z41];show (if decide (w.1=d)=true then _ else _)=_;by_cases h:w.1=d
  ·rw[z02 h,if_pos rfl];rfl
  ·rw[zZ1 h,if_neg (by decide)];exact zU d W
theorem zd6 {W:List Way}{d x:Int}{l:Option Part}(h:zr W d=none):putD (W.map xY) (.inl d) (.tuple [.int x,fu l])=(W++[(d,x,l)]).map xY:=by
 unfold putD;rw[zU,h,Option.map_none,if_neg (by decide),zZ9];rfl
theorem zb5 (p q:Part):PyData.eqv (yg p) (yg q)=decide (p=q):=by
 obtain⟨a,b,n⟩:=p;obtain⟨a',b',n'⟩:=q;have:PyData.eqv (yg (a,b,n)) (yg (a',b',n'))=(decide (a=a')&&(decide (b=b')&&(decide ((n:Int)=n')&&true))):=by
  rw[<-vm,<-vm,<-vm];rfl
 rw[this];by_cases h1:a=a'<;>by_cases h2:b=b'<;>by_cases h3:n=n'<;>simp[h1,h2,h3]<;>omega
theorem zq3 (p q:Part):ltD (yg p) (yg q)=some (ltQ p q):=by
 obtain⟨a,b,n⟩:=p;obtain⟨a',b',n'⟩:=q;unfold yg ltD;simp only[iL,vm,ltQ];by_cases h1:a=a'
 ·subst h1;by_cases h2:b=b'
  ·subst h2;by_cases h3:(n:Int)=n'
   ·have:n=n':=by omega
    subst this;simp
   ·simp only[decide_true,z88,zZ1 h3,z05,z57,ltD,Int.lt_irrefl,decide_false,z77,z03];rw[show decide ((n:Int)<n')=decide (n<n') by by_cases h:n<n'<;>simp[h]]
  ·simp only[decide_true,z88,zZ1 h2,z05,z57,ltD,Int.lt_irrefl,decide_false,z77,z03,z01,z99]
 ·simp only[zZ1 h1,z05,z57,ltD,z01,z99]
theorem ak (p q:Int×Part):ltD (vo p) (vo q)=some (ltP p q):=by
 obtain⟨z,p⟩:=p;obtain⟨y,q⟩:=q;unfold vo ltD;simp only[iL,vm,ltP,zb5];by_cases h1:z=y
 ·subst h1;by_cases h2:p=q
  ·subst h2;simp[ltQ]
  ·simp only[decide_true,z88,zZ1 h2,z05,z57,zq3,Int.lt_irrefl,decide_false,z77,z03]
 ·simp only[zZ1 h1,z05,z57,ltD,z01,z99]
theorem zp7 :∀{ds:List (Int×Part)},ds≠[]->minD (ds.map vo)=vo (jU ds)
 |[],h=>absurd rfl h
 |d::ds,_=>by
  show List.foldl _ (vo d) (ds.map vo)=vo (List.foldl _ d ds);rename_i hh;clear hh
  induction ds generalizing d with
  |nil=>rfl
  |cons x ds ih=>
   rw[zY2,yb0,yb0,ak];show List.foldl _ (if ltP x d=true then vo x else vo d) _=_;rw[<-ih];split<;>rfl
theorem zh1 (ds:List (Int×Part)):zF0 (ds.map vo):=fun x hx y hy=>by
 obtain⟨p,_,rfl⟩:=z06.mp hx;obtain⟨q,_,rfl⟩:=z06.mp hy;rw[ak];rfl
noncomputable def mY (co:Co)(N:Nat)(c g:Int):PyData:=
 match zr (yu co N c (g-c).toNat) g with
 |none=>.tuple [.str "off",.list ((yu co N c (g-c).toNat).map fun w=>.int w.1)]
 |some (x,_)=>.tuple [.str "had",.int x,.list ((vD (yu co N c (g-c).toNat) c (g-c).toNat g).reverse.map yg),.list ((wJ (yu co N c (g-c).toNat) c (g-c).toNat).map .int)]
end
section
variable {X:Cx}{α:Ev}{a b e:Expr}{pos p:Pos}{Q:PyData->Prop}
theorem fits_of {ns:List Int}{B:Int}(h:∀n∈ns,-B<=n/\n<=B)(hb:0<=B)(hB:B<=1000000000000000)(hl:ns.length<=1000):(∀n∈ns,-(2 ^ 62)<=n/\n<2 ^ 62)/\Fits ns:=by
 refine⟨fun n hn=>by have:=h n hn;omega,fun k hk=>?_⟩;have key:∀l:List Int,(∀n∈l,-B<=n/\n<=B)->-(B*l.length)<=l.sum/\l.sum<=B*l.length:=by
  intro l
  induction l with
  |nil=>intro _;simp
  |cons x l ih=>
   intro hl;have h1:=hl x zX7;have h2:=ih fun n hn=>hl n (zX3 _ hn);rw[z31,zX9,z92,Int.mul_add];simp only[Int.natCast_one,Int.mul_one];omega
 have h1:=key (ns.take k) fun n hn=>h n (z81 hn);have h2:B*((ns.take k).length:Int)<=1000000000000000*1000:=Int.mul_le_mul hB (by rw[zZ4];omega) (Int.natCast_nonneg _) (by decide);omega
theorem zv4 (B:Int)(hc:X.calm=true)(hg:Gl X "sum")(hm:X.mg "sum"=none)(h:EvD X α e fun x=>∃ns:List Int,x=.list (ns.map .int)/\(∀n∈ns,-B<=n/\n<=B)/\ns.length<=1000/\Q (.int ns.sum))(hb:0<=B/\B<=1000000000000000:=by decide)(he:starEach [e] X.env=(false,eval e X.env)::starEach [] X.env:=by rfl):
  EvD X α (.Call (.Name "sum" p) [e] [] pos) Q:=
 mh hc hg hm (h.imp fun x ⟨ns,e1,h1,h2,q⟩=>⟨ns,e1,(fits_of h1 hb.1 hb.2 h2).1,(fits_of h1 hb.1 hb.2 h2).2,q⟩) he
end
section
variable {X:Cx}{α:Ev}{a b c e:Expr}{pos p:Pos}{Q:PyData->Prop}{T:Bool->Prop}
theorem zp6 (h:EvD X α a fun x=>EvD X α b fun y=>∃i j,x=.int i/\y=.int j/\(if decide (i<=j)=true then EvD X α c fun z=>∃k,z=.int k/\Q (.bool (decide (j<k))) else Q (.bool false)))(hm:lastMarks [.LtE,.Lt] [b,c]=false:=by rfl):EvD X α (.Compare a [.LtE,.Lt] [b,c] pos) Q:=zi6 tj gO hm h
theorem zd0 :OpR X (compareOp .IsNot) (fun x y H Q=>∃i j,x=.bl i/\y=.bl j/\Q (.bl (i != j)) H):=by
 intro pins s σ H x y v u Q I rx ry h;obtain⟨i,j,rfl,rfl,q⟩:=h;cases rx;cases ry;exact isnot_bool (zJ I q rfl)
theorem zd5 (h:EvD X α a fun x=>EvD X α b fun y=>∃i j,x=.bool i/\y=.bool j/\T (i != j)):EvT X α (.Compare a [.IsNot] [b] pos) T:=
 wD zd0 (zC _) (h.imp fun x h=>h.imp fun y ⟨i,j,e1,e2,q⟩=>⟨i != j,fun p H vx vy R rx ry z=>by
  subst e1 e2;cases rx.bl_inv;cases ry.bl_inv;exact⟨i,j,rfl,rfl,z⟩,q⟩)
theorem zt6 (hg:Gl X "int")(hm:X.mg "int"=none)(h:EvD X α e fun x=>∃k,x=.bool k/\Q (.int (if k then 1 else 0)))(he:starEach [e] X.env=(false,eval e X.env)::starEach [] X.env:=by rfl):
  EvD X α (.Call (.Name "int" p) [e] [] pos) Q:=fun F σ H R m k=>by
 refine⟨_,xX cL hg hm boot_int (zd zj zw he) (he:=he),?_⟩;refine h F σ H _ m fun x vx H1 q1 t1 k1 r1=>?_;obtain⟨b,rfl,q⟩:=q1;cases r1.bl_inv;exact .inr ⟨b,rfl,k _ _ H1 q t1 k1 (.int _)⟩
end
section
variable {X:Cx}{α:Ev}{a b c e:Expr}{pos p p2 pos2:Pos}{Q:PyData->Prop}{T:Bool->Prop}
end
section
variable {X:Cx}{α:Ev}{a b c d e:Expr}{pos p:Pos}{ta tb tc td:TE}{T:Bool->Prop}
def zw7 (r r' r2:R2)(ta tb tc td:TE):TE:=fun σ H Q=>ta σ H fun x H1=>tb σ H1 fun y H2=>r x y H2 fun z H3=>∃k,z=.bl k/\
 (if k=true then tc σ H3 fun w' H4=>r' y w' H4 fun z' H5=>∃k',z'=.bl k'/\(if k'=true then td σ H5 fun u H6=>r2 w' u H6 Q else Q (.bl false) H5) else Q (.bl false) H3)
theorem cH {op op' op2:CmpOp}{r r' r2:R2}(ho:OpR X (compareOp op) r)(ho':OpR X (compareOp op') r')(ho2:OpR X (compareOp op2) r2)(ha:PE X a ta)(hb:PE X b tb)(hc:PE X c tc)(hd:PE X d td)
  (hm:lastMarks [op,op',op2] [b,c,d]=false):PT X (.Compare a [op,op',op2] [b,c,d] pos) (zy1 (zw7 r r' r2 ta tb tc td)):=by
 intro pins s σ H Q I h;refine isTrue_chain (thn (ha pins s σ H _ I h) fun v s1 ⟨x,H1,I1,r1,q1⟩=>test_link (thn (hb pins s1 σ H1 _ I1 q1) fun u s2 ⟨y,H2,I2,r2,q2⟩=>
  thn (ho pins s2 σ H2 x y v u _ I2 r1 r2 q2) fun d s3 ⟨z,H3,I3,r3,k,e,q3⟩=>?_)) hm
 subst e;cases r3;refine z09 ?_;cases k with
 |false=>
  obtain⟨k',e',q'⟩:=q3;cases e';exact ite_ff ⟨H3,I3,q'⟩
 |true=>
  refine ite_tt (test_link (thn (hc pins s3 σ H3 _ I3 q3) fun w' s4 ⟨z',H4,I4,r4,q4⟩=>thn (ho' pins s4 σ H4 y z' u w' _ I4 r2 r4 q4) fun d' s5 ⟨z2,H5,I5,r5,k2,e2,q5⟩=>?_));subst e2;cases r5;refine z09 ?_;cases k2 with
  |false=>
   obtain⟨k',e',q'⟩:=q5;cases e';exact ite_ff ⟨H5,I5,q'⟩
  |true=>
   refine ite_tt (test_last (thn (hd pins s5 σ H5 _ I5 q5) fun w2 s6 ⟨z3,H6,I6,r6,q6⟩=>thn (ho2 pins s6 σ H6 z' z3 w' w2 _ I6 r4 r6 q6) fun d' s7 ⟨z4,H7,I7,r7,k3,e3,q7⟩=>?_));subst e3;cases r7;exact z09 ⟨H7,I7,q7⟩
theorem dC (h:EvD X α a fun x=>EvD X α b fun y=>∃i j,x=.int i/\y=.int j/\(if decide (i<=j)=true then EvD X α c fun z=>∃k,z=.int k/\(if decide (j<k)=true then EvD X α d fun u=>∃m,u=.int m/\T (decide (k<=m)) else T false) else T false))(hm:lastMarks [.LtE,.Lt,.LtE] [b,c,d]=false:=by rfl):
  EvT X α (.Compare a [.LtE,.Lt,.LtE] [b,c,d] pos) T:=fun F σ H R m k=>by
 refine⟨_,cH tj gO tj zj zj zj zj hm,?_⟩;refine h F σ H _ m fun x vx H1 q1 t1 k1 r1=>?_;have m1:=m.kz k1 t1;refine q1 F σ H1 _ m1 fun y vy H2 q2 t2 k2 r2=>?_;obtain⟨i,j,e1,e2,hq⟩:=q2;subst e1 e2;cases r1.int_inv;cases r2.int_inv;have m2:=m1.kz k2 t2;refine⟨i,j,rfl,rfl,_,rfl,?_⟩;cases hg:decide (i<=j) with
 |true=>
  rw[hg,if_pos rfl] at hq;refine uo ?_;refine hq F σ H2 _ m2 fun z vz H3 q3 t3 k3 r3=>?_;have m3:=m2.kz k3 t3;obtain⟨kk,rfl,hq3⟩:=q3;cases r3.int_inv;refine⟨j,kk,rfl,rfl,_,rfl,?_⟩;cases hg2:decide (j<kk) with
  |true=>
   rw[hg2,if_pos rfl] at hq3;refine uo ?_;refine hq3 F σ H3 _ m3 fun u vu H4 q4 t4 k4 r4=>?_;obtain⟨mm,rfl,hq4⟩:=q4;cases r4.int_inv;exact⟨kk,mm,rfl,rfl,_,rfl,k _ H4 hq4 t4 (((k1.trans k2).trans k3).trans k4)⟩
  |false=>
   rw[hg2,if_neg (by decide)] at hq3;exact uM ⟨_,rfl,k _ H3 hq3 t3 ((k1.trans k2).trans k3)⟩
 |false=>
  rw[hg,if_neg (by decide)] at hq;exact uM ⟨_,rfl,k _ H2 hq t2 (k1.trans k2)⟩
end
theorem zB5 {X:Cx}{α:Ev}{e tg:Expr}{Q:List PyData->Prop}(h:EvD X α e fun x=>∃ds,x=.tuple ds/\Q ds):EvI X α tg e Q:=fun F σ H R m k=>by
 refine⟨_,zJ7 zj,?_⟩;refine h F σ H _ m fun x vx H1 q1 t1 k1 r1=>?_;obtain⟨ds,rfl,q⟩:=q1;obtain⟨a,xs,rfl,h1,h2⟩:=r1.tup_inv;refine⟨a,rfl,⟨xs,SqT.of (zi h1).2⟩,k ds _ H1 q t1 k1 fun i H2 p s=>⟨fun d hd=>?_,fun hl=>?_⟩⟩
 ·obtain⟨x,hx,av⟩:=h2.get hd;have ha:=SqT.of (K:=X.K) (zi (s _ _ h1)).2;refine⟨⟨xs,x,ha,hx⟩,fun x' H3 y=>?_⟩;obtain⟨e,y⟩:=y;subst e;have:=y xs ha;rw[hx] at this;cases this;exact⟨zB.refl _,fun _=>av.same s⟩
 ·exact⟨xs,SqT.of (zi (s _ _ h1)).2,by rw[h2.length];exact hl⟩
section
variable {X:Cx}{α:Ev}{a b c d e:Expr}{pos p:Pos}{T:Bool->Prop}
theorem aI {ns:List Int}(h:∀n∈ns,-300000000000000000<=n/\n<=300000000000000000)(hl:ns.length<=14):(∀n∈ns,-(2 ^ 62)<=n/\n<2 ^ 62)/\Fits ns:=by
 refine⟨fun n hn=>by have:=h n hn;omega,fun k hk=>?_⟩;have key:∀l:List Int,(∀n∈l,-300000000000000000<=n/\n<=300000000000000000)->-(300000000000000000*l.length)<=l.sum/\l.sum<=300000000000000000*l.length:=by
  intro l
  induction l with
  |nil=>intro _;simp
  |cons x l ih=>
   intro hl;have h1:=hl x zX7;have h2:=ih fun n hn=>hl n (zX3 _ hn);rw[z31,zX9,z92];omega
 have h1:=key (ns.take k) fun n hn=>h n (z81 hn);have h2:((ns.take k).length:Int)<=14:=by rw[zZ4];omega
 omega
theorem zx4 {Q:PyData->Prop}(hc:X.calm=true)(hg:Gl X "sum")(hm:X.mg "sum"=none)(h:EvD X α e fun x=>∃ns:List Int,x=.list (ns.map .int)/\(∀n∈ns,-300000000000000000<=n/\n<=300000000000000000)/\ns.length<=14/\Q (.int ns.sum))(he:starEach [e] X.env=(false,eval e X.env)::starEach [] X.env:=by rfl):
  EvD X α (.Call (.Name "sum" p) [e] [] pos) Q:=
 mh hc hg hm (h.imp fun x ⟨ns,e1,h1,h2,q⟩=>⟨ns,e1,(aI h1 h2).1,(aI h1 h2).2,q⟩) he
end
abbrev zi4 (X:Cx)(P:Program)(w:World)(K:PySem.W.Frag)(mg:Str->Option Value)(base:Heap):Prop:=X.prog=P/\X.w=w/\X.K=K/\X.mg=mg/\X.base=base
section
variable {X:Cx}{α:Ev}{e o:Expr}{es:List Expr}{pos p apos:Pos}{Q:PyData->Prop}{k:Nat}{φ:List A->(A->Prop)->Prop}{x m:Str}{C:Addr}{pl:Sem Bool}{P:Program}{w:World}{K:PySem.W.Frag}{mg:Str->Option Value}{base:Heap}
theorem zo2 (D:Cal P w K mg base x k φ)(hX:zi4 X P w K mg base)(hr:zX k X.A)(hg:Gl X x)(h:EvA X α (e::es) fun as=>φ as fun a=>Q a.d)
  (hdb:(x == ("__debug__":Str))=false:=by decide) (he:starEach (e::es) X.env=(false,eval e X.env)::starEach es X.env:=by rfl) (hpl:(backTo pos (starEach es X.env)).any (·.1)=false:=by rfl):EvD X α (.Call (.Name x p) (e::es) [] pos) Q:=by
 obtain⟨rfl,rfl,rfl,rfl,rfl⟩:=hX;exact yA D hr hg h hdb he hpl
theorem zo3 {Q:List PyData->Prop}(D:Cal P w K mg base x k φ)(hX:zi4 X P w K mg base)(hr:zX k X.A)(hg:Gl X x)(h:EvA X α (e::es) fun as=>φ as fun a=>∃ds,a=.own ds/\Q ds)
  (hdb:(x == ("__debug__":Str))=false:=by decide) (he:starEach (e::es) X.env=(false,eval e X.env)::starEach es X.env:=by rfl) (hpl:(backTo pos (starEach es X.env)).any (·.1)=false:=by rfl):EvL X α (.Call (.Name x p) (e::es) [] pos) Q:=by
 obtain⟨rfl,rfl,rfl,rfl,rfl⟩:=hX;exact wI D hr hg h hdb he hpl
theorem ze5 (D:zg8 P w K mg base x k [] φ)(hX:zi4 X P w K mg base)(hr:zX (k+1) X.A)(hg:Gl X x)(h:EvA X α (e::es) fun as=>φ as fun a=>Q a.d)
  (hdb:(x == ("__debug__":Str))=false:=by decide) (he:starEach (e::es) X.env=(false,eval e X.env)::starEach es X.env:=by rfl) (hpl:(backTo pos (starEach es X.env)).any (·.1)=false:=by rfl):EvN X α (.Call (.Name x p) (e::es) [] pos) Q:=by
 obtain⟨rfl,rfl,rfl,rfl,rfl⟩:=hX;exact zq0 D hr hg h hdb he hpl
end
section
variable {X:Cx}{α:Ev}{pos:Pos}{Q:PyData->Prop}
end
section
variable {X:Cx}{α:Ev}{e ix:Expr}{pos:Pos}{rest:List Stmt}{E:xy}
end
noncomputable def zn7 (lo:Int)(n:Nat):It:=⟨fun i _=>i<n,fun i H x H'=>H'=H/\x=.int (lo-i),fun i _=>n<=i⟩
theorem cX {P:Program}{w:World}{K:PySem.W.Frag}{tg:Expr}(it:Addr)(lo:Int)(n:Nat):Turn P w K tg (zn7 lo n) [it] it (fun i h=>IsRangeIter h it (lo+(i:Nat)*(-1)) ((n:Int)-(i:Nat)) (-1)) where
 mem:=by simp
 obj:=fun i h st b hb=>by
  have e:b=it:=by simpa using hb
  subst e;exact⟨_,st,fun v z=>by
   have z':Data.fields _=Data.cell v:=z;cases z'⟩
 keep:=fun i h h' st k=>k it (by simp) _ st
 item:=by
  intro X hP hw hK hc i pins s σ H E I hf st hg;subst hP hw hK;obtain⟨f0,f1,f2,f3,f4,f5⟩:=hf it (by simp);have W:=Walks.range (prog:=X.prog) (w:=X.w) (I.ok.hd hc) it lo (-1) n;refine W.item i s _ _ hg st fun v h' tk hv st' kk=>?_;obtain⟨t,rfl⟩:=hv;have I1:Inv X pins σ H {s with heap:=h',toks:=tk}:=I.turned (fun b o hb e=>kk b o (by simpa using hb) e) f0 f1 f3 f4 f5;refine⟨_,rfl,rG (s:={s with heap:=h',toks:=tk}) (n:="range_iterator") st' rfl rfl (by decide) ⟨.int (lo-i),H,I1,⟨t,?_⟩,⟨rfl,rfl⟩,st',fun b hb=>(hf b hb).1⟩⟩;rw[Int.mul_neg,Int.mul_one];rfl
 done:=by
  intro X hP hw hK hc i pins s σ H E I hf st hg;subst hP hw hK;obtain⟨f0,f1,f2,f3,f4,f5⟩:=hf it (by simp);exact wpAny_pyNext_range_end (I.ok.hd hc) st (by have:n<=i:=hg;omega) fun h' eb=>⟨rfl,I.turned (t':=s.toks) (fun b o hb e=>eb b o hb e) f0 f1 f3 f4 f5⟩
 self:=fun _ _ _ _ _ st h=>wpAny_pyIter_rangeiter st h
section
variable {X:Cx}{tg:Expr}
theorem dG {pins:List (Addr×Obj)}{σ:St}{H:Hp}{s:Shared}{R:It->Hp->Prop}{E:Value->Shared->Prop}{lo hi:Int}{t u v:Tok}{tk:Nat}(I:Inv X pins σ H s)(h1:-(2 ^ 62)<=lo)(h2:lo<2 ^ 62)(h3:-(2 ^ 62)<=hi)(h4:hi<2 ^ 62)
  (q:R (zn7 lo (lo-hi).toNat) H):wpAny (model X.prog X.w) X.A (pyIter (.ref s.heap.objs.size)) (PIE X pins σ tg R) E {s with heap:=s.heap.push {cls:=.type "range",data:=.fields #[.int lo t,.int hi u,.int (-1) v]},toks:=tk}:=by
 refine wpAny_pyIter_range (IsRange.new ..) (small_down h1 h2 h3 h4) ?_;have I1:Inv X pins σ H {s with heap:=s.heap.push {cls:=.type "range",data:=.fields #[.int lo t,.int hi u,.int (-1) v]},toks:=tk}:=I.kept fun b o e=>zW5 _ e;refine⟨(s.heap.push {cls:=.type "range",data:=.fields #[.int lo t,.int hi u,.int (-1) v]}).objs.size,[(s.heap.push {cls:=.type "range",data:=.fields #[.int lo t,.int hi u,.int (-1) v]}).objs.size],_,_,H,rfl,
  I1.kept (t':=tk) fun b o e=>zW5 _ e,cX _ lo (lo-hi).toNat,?_,fun b hb=>?_,q⟩
 ·have e1:lo+((0:Nat):Int)*(-1)=lo:=by simp
  have e2:(((lo-hi).toNat:Nat):Int)-((0:Nat):Int)=Builtin.Range.rangeSize lo hi (-1):=by rw[rangeSize_downNat];simp
  show IsRangeIter _ _ (lo+((0:Nat):Int)*(-1)) ((((lo-hi).toNat:Nat):Int)-((0:Nat):Int)) (-1);rw[e1,e2];exact zX4 _ rfl
 ·have e:b=(s.heap.push {cls:=.type "range",data:=.fields #[.int lo t,.int hi u,.int (-1) v]}).objs.size:=by simpa using hb
  subst e;exact I1.fpOk (zW9 _) (I1.hok.fresh (zW9 _))
def zM0 (ta:TA):TI:=fun σ H R=>ta σ H fun vs H1=>∃i j:Int,vs=[.int i,.int j,.int (-1)]/\(-(2 ^ 62)<=i/\i<2 ^ 62/\-(2 ^ 62)<=j/\j<2 ^ 62)/\R (zn7 i (i-j).toNat) H1
theorem eu {a b c:Expr}{ta:TA}{p pos:Pos}(hg:Gl X "range")(hm:X.mg "range"=none)(ha:PA X [a,b,c] ta)(hs:starEach [a,b,c] X.env=[(false,eval a X.env),(false,eval b X.env),(false,eval c X.env)]:=by rfl)(hs2:starEach [b,c] X.env=[(false,eval b X.env),(false,eval c X.env)]:=by rfl):
  PI X tg (.Call (.Name "range" p) [a,b,c] [] pos) (zM0 ta):=by
 intro pins s σ H R I h;refine Call_ (xx I hg hm boot_range (zZ7 (thn (ha pos pins s σ H _ I h) fun us s1 ⟨vs,H1,I1,r1,q1⟩=>?_) (by rw[hs,hs2]) (by rw[hs2];rfl)));obtain⟨i,j,e,⟨q1,q2,q3,q4⟩,q⟩:=q1;subst e;cases r1 with
 |cons r rr=>
  cases rr with
  |cons r' rr=>
   cases rr with
   |cons r'' rr=>
    cases rr;obtain⟨t,rfl⟩:=r;obtain⟨t',rfl⟩:=r';obtain⟨t'',rfl⟩:=r'';exact call_range_3 (by decide) (dG I1 q1 q2 q3 q4 q) (Or.inl (PyProof.noPylong_small (by omega)))
noncomputable def wX (lo:Int)(n:Nat):List Int:=(List.range n).map fun i=>lo-(i:Nat)
theorem xg (lo:Int)(n:Nat):(wX lo n).length=n:=by simp[wX]
theorem uZ {lo:Int}{n i:Nat}(h:i<n):(wX lo n)[i]?=some (lo-(i:Nat)):=by simp[wX,h]
theorem ab {p:Addr->Prop}{lo:Int}{n:Nat}{G:Hp}:ItW p (zn7 lo n) ((wX lo n).map .int) G:=fun i H2 q s=>⟨fun d hd=>by
  rw[zX1,zY0] at hd;obtain⟨z,h1,rfl⟩:=hd;have hi:i<n:=by
   have:=(zW7.mp h1).1
   rwa [xg] at this
  rw[uZ hi] at h1;cases h1;refine⟨hi,fun x H3 y=>?_⟩;obtain⟨rfl,rfl⟩:=y;exact⟨zB.refl _,fun _=>.int _⟩,fun hl=>by
  rw[zW3,xg] at hl;exact hl⟩
variable {α:Ev}{a b c:Expr}{p pos:Pos}
theorem eU {tg:Expr}{Q:List PyData->Prop}(hg:Gl X "range")(hm:X.mg "range"=none)(h:EvD X α a fun x=>EvD X α b fun y=>EvD X α c fun z=>∃i j,x=.int i/\y=.int j/\z=.int (-1)/\(-(2 ^ 62)<=i/\i<2 ^ 62/\-(2 ^ 62)<=j/\j<2 ^ 62)/\Q ((wX i (i-j).toNat).map .int))
  (hs:starEach [a,b,c] X.env=[(false,eval a X.env),(false,eval b X.env),(false,eval c X.env)]:=by rfl) (hs2:starEach [b,c] X.env=[(false,eval b X.env),(false,eval c X.env)]:=by rfl) (hs3:starEach [a,b,c] X.env=(false,eval a X.env)::starEach [b,c] X.env:=by rfl) (hs4:starEach [b,c] X.env=(false,eval b X.env)::starEach [c] X.env:=by rfl) (hs5:starEach [c] X.env=(false,eval c X.env)::starEach [] X.env:=by rfl):
  EvI X α tg (.Call (.Name "range" p) [a,b,c] [] pos) Q:=fun F σ H R m k=>by
 refine⟨_,eu hg hm (zd zj (zd zj (zd zj zw hs5) hs4) hs3) hs hs2,?_⟩;refine h F σ H _ m fun x vx H1 q1 t1 k1 r1=>?_;have m1:=m.kz k1 t1;refine q1 F σ H1 _ m1 fun y vy H2 q2 t2 k2 r2=>?_;have m2:=m1.kz k2 t2;refine q2 F σ H2 _ m2 fun z vz H3 q3 t3 k3 r3=>?_;obtain⟨i,j,rfl,rfl,rfl,bb,q⟩:=q3;cases r1.int_inv;cases r2.int_inv;cases r3.int_inv;exact⟨i,j,rfl,bb,k _ _ H3 q t3 ((k1.trans k2).trans k3) ab⟩
end
end L2
set_option maxHeartbeats 4000000
namespace K55
open PySem PySem.Spec PyProof.Rows L2
noncomputable def top (i:Nat):Stmt:=PySem.Challenge.pw_stayprice_k55_looker_at_other_papers.main.body.getD i (.Pass ⟨0,0,0,0⟩)
noncomputable abbrev pX :Stmt:=top 67
noncomputable abbrev zi1 :Stmt:=top 68
noncomputable def dN :Scope:=match zA pX with
 |[.Return (some (.List (.ListComp _ _ sc _::_) _)) _]=>sc
 |_=>zb pX
section
variable {P:Program}{w:World}{K:PySem.W.Frag}{mg:Str->Option Value}{base:Heap}
theorem zH0 :zm ["_law_script"] ["_law_script"] (zb pX):=.o
theorem bB :zY ["_law_script"] (zb pX) ["_law_cell"] [none] dN:=⟨rfl,by decide +kernel,by decide +kernel,by decide +kernel,by decide +kernel,rfl,by decide +kernel⟩
theorem zv1 {f:Addr}{fd:FuncData}(F:Fun K "_law_tape" "_law_tape" pX f fd)(T:zB9 mg):zE P w K mg base CX0 1 f fd ["_law_script"] (jq K):=by
 refine F.ok zH0 (fun vs H Q E h=>?_) (fun cdv A outer s H vs Q E hr h=>?_)
 ·obtain⟨a,ns,rfl,_⟩:=h;rfl
 ·obtain⟨a,ns,rfl,hS,hlen,k⟩:=h;refine⟨_,zy (zD (aJ (zd
   (zy0 rfl bB (gI (qD nv (pv 0) oR (nW zt)))
    (fun _ _ _ _=>yb (i:=0) bB.nd rfl (Or.inl rfl))
    (fun _ _ _ _=>fN (yr zm2 (yo mD (by rfl) T.abs boot_abs (zd (pv 0) zw)) (yJ zk1 zt zt) (zC _)))
    (fun _ _ _ _=>yo mD (by rfl) T.abs boot_abs (zd (pv 0) zw)))
   (zd (xX uW (by rfl) T.list boot_list (zd (qD nv (pv 0) oR (nW zt)) zw))
   (zd zt zw))))),?_⟩
  -- script[:63]
  refine⟨_,rfl,63,rfl,a,_,rfl,hS,fun l hl=>?_⟩;obtain⟨ms,em,lm⟩:=aq ns none (some 63);rw[em];refine⟨l,rfl,⟨_,SqL.of zk⟩,fun acc hacc=>?_⟩;have nal:acc≠l:=fun z=>by rw[z,zk] at hacc;cases hacc
  have hacc':H acc=none:=by rw[zg nal] at hacc;exact hacc
  have s0:zB H (upd H l (.lst (ms.map V.int))):=fun b o e=>by rw[zg (zo e hl)];exact e
  refine cu (K:=K) (a:=l) (xs:=ms.map V.int) (fun i ys τ H2=>∃(bs:List Int) (v:Option V),ys=bs.map V.int/\bs.length<=i/\τ=[v]/\H2=upd (upd H l (.lst (ms.map V.int))) acc (.lst (bs.map V.int)))
   ⟨[],none,rfl,zW9 _,rfl,rfl⟩ ?_ ?_ ?_
  ·rintro i ys τ H2 _ ⟨bs,v,rfl,_,rfl,rfl⟩;exact SqL.of (by rw[zg nal.symm,zk])
  ·rintro i x ys τ H2 hx ⟨bs,v,rfl,hb,rfl,rfl⟩;have hi:i<ms.length:=by
    have:=(zW7.mp hx).1
    rwa [zW3] at this
   obtain⟨z,rfl⟩:∃z,x=V.int z:=by
    rw[zX1] at hx;cases e:ms[i]? with
    |none=>rw[e] at hx;cases hx
    |some z=>rw[e] at hx;exact⟨z,(zZ2 hx).symm⟩
   refine⟨_,rfl,z,rfl,_,_,rfl,rfl,⟨by decide,by decide,by decide⟩,_,_,rfl,rfl,_,rfl,?_⟩;refine yQ (fun _=>?_) (fun _=>?_)
   ·refine⟨_,rfl,z,rfl,zk,?_,bs++[if z<0 then -z else z],_,?_,?_,rfl,?_⟩
    ·rw[zW3];exact yW (by omega)
    ·rw[zZ9];rfl
    ·rw[zY6];simp;omega
    ·rw[rq,zZ9];rfl
   ·exact⟨bs,_,rfl,by omega,rfl,rfl⟩
  ·rintro ys τ H2 ⟨bs,v,rfl,hb,rfl,rfl⟩;rw[zW3] at hb
   -- list(script[:63])
   have s1:zB H (upd (upd H l (.lst (ms.map V.int))) acc (.lst (bs.map V.int))):=fun b o e=>by rw[zg (zo e hacc')];exact s0 b o e
   refine⟨_,rfl,63,rfl,a,_,rfl,s1.seq hS,fun l2 hl2=>?_⟩;rw[em];refine⟨l2,_,rfl,.inl (SqL.of zk),fun c hc=>?_⟩;refine⟨(by show 3<=sizeLine;decide),fun t ht=>?_⟩;have n1:l2≠acc:=fun z=>by rw[z,zk] at hl2;cases hl2
   have n2:c≠l2:=fun z=>by rw[z,zk] at hc;cases hc
   have hc2:upd (upd H l (.lst (ms.map V.int))) acc (.lst (bs.map V.int)) c=none:=by rw[zg n2] at hc;exact hc
   have n3:c≠acc:=fun z=>by rw[z,zk] at hc2;cases hc2
   have n4:t≠c:=fun z=>by rw[z,zk] at ht;cases ht
   have ht2:upd (upd (upd H l (.lst (ms.map V.int))) acc (.lst (bs.map V.int))) l2 (.lst (ms.map V.int)) t=none:=by rw[zg n4] at ht;exact ht
   have n5:t≠l2:=fun z=>by rw[z,zk] at ht2;cases ht2
   have ht3:upd (upd H l (.lst (ms.map V.int))) acc (.lst (bs.map V.int)) t=none:=by rw[zg n5] at ht2;exact ht2
   have n6:t≠acc:=fun z=>by rw[z,zk] at ht3;cases ht3
   refine k t acc c _ ⟨0,bs,ms,n3.symm,zk,?_,?_,by omega,by omega⟩ (s1.free ht3) hacc' (s1.free hc2) fun b o e=>?_
   ·rw[zg n6.symm,zg n3.symm,zg n1.symm,zk]
   ·rw[zg n4.symm,zk]
   ·have e1:=s1 b o e;rw[zg (zo e1 ht3),zg (zo e1 hc2),zg (zo e1 hl2)];exact e1
theorem sA :zm ["_law_tape_here","_law_many","_law_found","_law_cell","_law_number"] ["_law_tape_here","_law_many"] (zb zi1):=.o
theorem zs2 {f:Addr}{fd:FuncData}(F:Fun K "_law_draw" "_law_draw" zi1 f fd)(T:zB9 mg):zE P w K mg base CX0 1 f fd ["_law_tape_here","_law_many"] bA:=by
 refine F.ok sA (fun vs H Q E h=>?_) (fun cdv A outer s H vs Q E hr h=>?_)
 ·obtain⟨t,b,c,many,rfl,_⟩:=h;rfl
 ·obtain⟨t,b,c,many,rfl,⟨n,bs,cs,nbc,ht,hb,hc,lb,lc⟩,hm0,hm1,k⟩:=h;have ntb:t≠b:=za5 ht hb (gA bs);have ntc:t≠c:=za5 ht hc (gA cs);have hlog:many.natAbs.log2<9000:=log2_small hm0 hm1
  -- tape[2]=tape[2]+1
  refine yf (fun σ H1=>σ=[some (.ref t),some (.int many),none,none,none]/\H1=upd H t (.lst [.ref b,.ref c,.int (n+1)]))
   ⟨_,iC (yJ tU (zW ya (pv 0) zt (fun _ _=>rfl)) zt) (iw (pv 0) zt set_list),?_⟩ ?_
  ·exact⟨_,rfl,t,_,2,_,rfl,rfl,SqL.of ht,rfl,_,_,rfl,rfl,_,rfl,t,_,2,2,rfl,rfl,ht,rfl,rfl,rfl⟩
  rintro σ H1 ⟨rfl,hH1⟩;have ht1:H1 t=some (.lst [.ref b,.ref c,.int (n+1)]):=by rw[hH1];exact zk
  have hb1:H1 b=some (.lst (bs.map V.int)):=by rw[hH1,zg ntb.symm];exact hb
  have hc1:H1 c=some (.lst (cs.map V.int)):=by rw[hH1,zg ntc.symm];exact hc
  have off1:oC t b H H1:=fun a h1 h2=>by rw[hH1,zg h1]
  clear hH1
  -- while len(tape[0]) > 0 and tape[0][0]==0:tape[0].pop(0)
  refine yf (fun σ H2=>∃bs2:List Int,bs2.length<=63/\σ=[some (.ref t),some (.int many),none,none,none]/\H2 t=some (.lst [.ref b,.ref c,.int (n+1)])/\H2 b=some (.lst (bs2.map V.int))/\H2 c=some (.lst (cs.map V.int))/\oC t b H H2)
   ⟨_,my z42 (bL (yr lI (yo yF (by rfl) T.len z82 (zd (zW ya (pv 0) zt (fun _ _=>rfl)) zw)) zt (zC _))
     (gn (yr vE (zW ya (zW ya (pv 0) zt (fun _ _=>rfl)) zt (fun _ _=>rfl)) zt (zC _)))).pt
    (zy (fo (zy7 PySem.F.plainAttrs_list PySem.F.slot_list_pop PySem.F.type_list_pop bE (zW ya (pv 0) zt (fun _ _=>rfl)) (zd zt zw)))),?_⟩ ?_
  ·refine⟨fun m σ H2=>∃bs2:List Int,m=bs2.length/\bs2.length<=63/\σ=[some (.ref t),some (.int many),none,none,none]/\H2 t=some (.lst [.ref b,.ref c,.int (n+1)])/\H2 b=some (.lst (bs2.map V.int))/\H2 c=some (.lst (cs.map V.int))/\oC t b H H2,
    ⟨_,bs,rfl,lb,rfl,ht1,hb1,hc1,off1⟩,?_⟩
   rintro m σ H2 ⟨bs2,rfl,lb2,rfl,ht2,hb2,hc2,off2⟩;refine⟨_,rfl,t,_,0,_,rfl,rfl,SqL.of ht2,rfl,b,_,rfl,.inl (SqL.of hb2),_,_,rfl,rfl,_,rfl,?_⟩;refine yQ (fun _=>?_) (fun _=>?_)
   ·cases bs2 with
    |nil=>rename_i z;simp at z
    |cons z r=>
     refine⟨_,rfl,t,_,0,_,rfl,rfl,SqL.of ht2,rfl,b,_,0,_,rfl,rfl,SqL.of hb2,at0,rfl,_,rfl,?_⟩;refine yQ (fun _=>?_) (fun _=>?_)
     ·refine⟨_,fun σ' H' h'=>h',_,rfl,t,_,0,_,rfl,rfl,SqL.of ht2,rfl,.inl ⟨rfl,_,SqL.of hb2⟩,b,_,0,0,_,rfl,rfl,hb2,by decide,by decide,zV5,rfl,r.length,?_,r,rfl,?_,rfl,?_,zk,?_,?_⟩
      ·simp
      ·simp at lb2;omega
      ·rw[zg ntb];exact ht2
      ·rw[zg nbc.symm];exact hc2
      ·exact off2.trans fun a h1 h2=>by rw[zg h2]
     ·exact⟨_,lb2,rfl,ht2,hb2,hc2,off2⟩
   ·exact⟨_,lb2,rfl,ht2,hb2,hc2,off2⟩
  rintro σ H2 ⟨bs2,lb2,rfl,ht2,hb2,hc2,off2⟩
  -- if len(tape[0]) > 0:..
  refine yf (fun σ H3=>σ=[some (.ref t),some (.int many),none,none,none]/\H2=H3)
   ⟨_,wB (yr lI (yo yF (by rfl) T.len z82 (zd (zW ya (pv 0) zt (fun _ _=>rfl)) zw)) zt (zC _))
    (zT (vw (i:=2) sA.nd rfl (Or.inl rfl) (yJ uG (zW ya (zW ya (pv 0) zt (fun _ _=>rfl)) zt (fun _ _=>rfl)) (pv 1)))
    (zT (iC (yJ tG (zW ya (zW ya (pv 0) zt (fun _ _=>rfl)) zt (fun _ _=>rfl)) (pv 1)) (iw (zW ya (pv 0) zt (fun _ _=>rfl)) zt set_list))
    (zy (zD (pv 2))))) yN,?_⟩ ?_
  ·refine⟨_,rfl,t,_,0,_,rfl,rfl,SqL.of ht2,rfl,b,_,rfl,.inl (SqL.of hb2),_,_,rfl,rfl,_,rfl,?_⟩;refine yQ (fun _=>?_) (fun _=>?_)
   ·cases bs2 with
    |nil=>rename_i z;simp at z
    |cons z r=>
     refine⟨_,rfl,t,_,0,_,rfl,rfl,SqL.of ht2,rfl,b,_,0,_,rfl,rfl,SqL.of hb2,at0,_,rfl,_,_,rfl,rfl,hm0,?_⟩;refine⟨_,rfl,t,_,0,_,rfl,rfl,SqL.of ht2,rfl,b,_,0,_,rfl,rfl,SqL.of hb2,at0,_,rfl,_,_,rfl,rfl,⟨hm0,hlog⟩,?_⟩;refine⟨_,rfl,t,_,0,_,rfl,rfl,SqL.of ht2,rfl,b,_,0,0,rfl,rfl,hb2,ix0,_,rfl,?_⟩;refine k _ _ (yb1 _ (Int.ne_of_gt hm0)) (z94 _ hm0) ⟨n+1,(z / many)::r,cs,nbc,?_,zk,?_,?_,lc⟩ ?_
     ·rw[zg ntb];exact ht2
     ·rw[zg nbc.symm];exact hc2
     ·simpa using lb2
     ·exact off2.trans fun a h1 h2=>by rw[zg h2]
   ·exact⟨rfl,rfl⟩
  rintro σ H3 ⟨rfl,rfl⟩
  -- cell=5;if len(tape[1]) > 0:..
  refine yf (fun σ H3=>σ=[some (.ref t),some (.int many),none,some (.int 5),none]/\H2=H3) ⟨_,vw (i:=3) sA.nd rfl (Or.inl rfl) zt,rfl,rfl⟩ ?_;rintro σ H3 ⟨rfl,rfl⟩;refine yf (fun σ H3=>∃z:Int,σ=[some (.ref t),some (.int many),none,some (.int z),none]/\H2=H3)
   ⟨_,wB (yr lI (yo yF (by rfl) T.len z82 (zd (zW ya (pv 0) zt (fun _ _=>rfl)) zw)) zt (zC _))
    (zy (vw (i:=3) sA.nd rfl (Or.inl rfl) (zW ya (zW ya (pv 0) zt (fun _ _=>rfl)) (yJ uG (zW ya (pv 0) zt (fun _ _=>rfl)) (yo yF (by rfl) T.len z82 (zd (zW ya (pv 0) zt (fun _ _=>rfl)) zw))) (fun _ _=>rfl)))) yN,?_⟩ ?_
  ·refine⟨_,rfl,t,_,1,_,rfl,rfl,SqL.of ht2,rfl,c,_,rfl,.inl (SqL.of hc2),_,_,rfl,rfl,_,rfl,?_⟩;refine yQ (fun hpos=>?_) (fun _=>?_)
   ·have hpos':0<cs.length:=by simpa using hpos
    have hp:(0:Int)<((cs.map V.int).length:Int):=by rw[zW3];omega
    have h1:=yb1 (n+1) (Int.ne_of_gt hp);have h2:=z94 (n+1) hp;obtain⟨j,hj⟩:=z50 h1;have hjl:j<cs.length:=by rw[hj,zW3] at h2;omega
    refine⟨_,rfl,t,_,1,_,rfl,rfl,SqL.of ht2,rfl,_,rfl,t,_,2,_,rfl,rfl,SqL.of ht2,rfl,_,rfl,t,_,1,_,rfl,rfl,SqL.of ht2,rfl,c,_,rfl,.inl (SqL.of hc2),_,_,rfl,rfl,hp,c,_,_,V.int cs[j],rfl,rfl,SqL.of hc2,?_,cs[j],rfl,rfl⟩;rw[hj];exact yH (by rw[zX1,zW6 hjl];rfl)
   ·exact⟨5,rfl,rfl⟩
  rintro σ H3 ⟨z,rfl,rfl⟩
  -- the numbers
  refine yf (fun σ H3=>∃y:Int,(0<=y/\y<2147483647)/\σ=[some (.ref t),some (.int many),none,some (.int z),some (.int y)]/\H2=H3)
   ⟨_,vw (i:=4) sA.nd rfl (Or.inl rfl) (yJ uG (yJ qY (yJ tU (yJ tU (yJ uG (pv 3) zt) (yJ qY zt (zW ya (pv 0) zt (fun _ _=>rfl)))) zt) zt) zt),?_⟩ ?_
  ·exact⟨_,rfl,_,_,rfl,rfl,(by show (0:Int)<999983;decide),_,rfl,t,_,2,_,rfl,rfl,SqL.of ht2,rfl,_,_,rfl,rfl,.inl ⟨by decide,by decide⟩,_,_,rfl,rfl,_,_,rfl,rfl,_,_,rfl,rfl,.inr ⟨by decide,by decide⟩,_,_,rfl,rfl,(by show (0:Int)<2147483647;decide),
    _,⟨yb1 _ (by decide),z94 _ (by decide)⟩,rfl,rfl⟩
  rintro σ H3 ⟨y,⟨hy0,hy1⟩,rfl,rfl⟩;refine yf (fun σ H3=>∃y:Int,(0<=y/\y<2147483647)/\σ=[some (.ref t),some (.int many),none,some (.int z),some (.int y)]/\H2=H3)
   ⟨_,vw (i:=4) sA.nd rfl (Or.inl rfl) (yJ uG (yJ tU (yJ tU (yJ qY (pv 4) (pv 4)) (yJ qY zt (zW ya (pv 0) zt (fun _ _=>rfl)))) zt) zt),?_⟩ ?_
  ·refine⟨_,rfl,_,rfl,_,_,rfl,rfl,.inl ⟨by omega,by omega⟩,_,rfl,t,_,2,_,rfl,rfl,SqL.of ht2,rfl,_,_,rfl,rfl,.inl ⟨by decide,by decide⟩,_,_,rfl,rfl,_,_,rfl,rfl,_,_,rfl,rfl,(by show (0:Int)<2147483629;decide),
    _,⟨yb1 _ (by decide),Int.lt_trans (z94 _ (by decide)) (by decide)⟩,rfl,rfl⟩
  rintro σ H3 ⟨y2,⟨hy0,hy1⟩,rfl,rfl⟩;refine⟨_,zy (zD (yJ uG (yJ tG (yJ uG (yJ qY (yJ tG (pv 4) zt) zt) zt) zt) (pv 1))),?_⟩;refine⟨_,rfl,_,_,rfl,rfl,⟨by decide,by decide +kernel⟩,_,_,rfl,rfl,.inr ⟨by decide,by decide⟩,_,_,rfl,rfl,(by show (0:Int)<2147483587;decide),_,_,rfl,rfl,⟨by decide,by decide +kernel⟩,_,rfl,_,_,rfl,rfl,hm0,?_⟩;exact k _ _ (yb1 _ (Int.ne_of_gt hm0)) (z94 _ hm0) ⟨n+1,bs2,cs,nbc,ht2,hb2,hc2,lb2,lc⟩ off2
end
noncomputable abbrev qu :Stmt:=top 3
noncomputable abbrev ml :Stmt:=top 4
noncomputable abbrev zf9 :Stmt:=top 5
noncomputable abbrev zG7 :Stmt:=top 6
noncomputable abbrev aR :Stmt:=top 7
noncomputable abbrev qt :Stmt:=top 8
structure lG (mg:Str->Option Value)(fW fI fP fD fPD:Addr):Prop where
 isi:mg "isinstance"=none
 int:mg "int"=none
 bool:mg "bool"=none
 tuple:mg "tuple"=none
 len:mg "len"=none
 last:∃t,mg "LAST_DAY"=some (.int 1000000 t)
 most:∃t,mg "MOST_NIGHTS"=some (.int 14 t)
 whole:mg "is_whole"=some (.ref fW)
 within:mg "is_whole_within"=some (.ref fI)
 pair:mg "is_pair"=some (.ref fP)
 day:mg "is_day"=some (.ref fD)
 days:mg "is_pair_of_days"=some (.ref fPD)
section
variable {P:Program}{w:World}{K:PySem.W.Frag}{mg:Str->Option Value}{base:Heap}{fW fI fP fD fPD:Addr}
theorem oK :zm ["thing"] ["thing"] (zb qu):=.o
theorem zk2 {f:Addr}{fd:FuncData}(F:Fun K "is_whole" "is_whole" qu f fd)(T:lG mg fW fI fP fD fPD):zE P w K mg base CX0 1 f fd ["thing"] (xk jA):=by
 refine F.ok oK (fun vs H Q E h=>?_) (fun cdv A outer s H vs Q E hr h=>?_)
 ·obtain⟨x,d,rfl,_⟩:=h;rfl
 ·obtain⟨x,d,rfl,hd,q⟩:=h;refine⟨_,zy (zD (xC (yo xW (by rfl) T.isi z90 (zd (pv 0) (zd (ue (v:=.ty "int") (by rfl) T.int boot_int rfl) zw)))
   (we (zm0 (yo xW (by rfl) T.isi z90 (zd (pv 0) (zd (ue (v:=.ty "bool") (by rfl) T.bool boot_bool rfl) zw))))))),?_⟩
  rw[dA] at q;refine⟨_,rfl,x,"int",d,_,rfl,hd,zt7 d,_,rfl,?_⟩;refine yQ (fun h=>?_) (fun h=>?_)
  ·rw[h,z03] at q;exact⟨_,rfl,x,"bool",d,_,rfl,hd,qH d,_,rfl,q⟩
  ·rw[z04.mpr h,z01] at q;exact q
theorem zl1 :zm ["thing","lowest","highest"] ["thing","lowest","highest"] (zb ml):=.o
theorem br {f:Addr}{fd fdW:FuncData}(F:Fun K "is_whole_within" "is_whole_within" ml f fd)(T:lG mg fW fI fP fD fPD)(FW:Fun K "is_whole" "is_whole" qu fW fdW)(bW:Binds K fdW ["thing"] []):
  zE P w K mg base CX0 2 f fd ["thing","lowest","highest"] vW:=by
 have GW:zE P w K mg base CX0 1 fW fdW ["thing"] (xk jA):=zk2 FW T;refine F.ok zl1 (fun vs H Q E h=>?_) (fun cdv A outer s H vs Q E hr h=>?_)
 ·obtain⟨x,d,lo,hi,rfl,_⟩:=h;rfl
 ·obtain⟨x,d,lo,hi,rfl,hd,q⟩:=h;refine⟨_,zy (zD (xC (zZ GW hr (by rfl) T.whole FW.kp bW .nil yp (zd (pv 0) zw)) (we (qj tj tj (pv 1) (pv 0) (pv 2))))),?_⟩;refine⟨_,rfl,x,d,rfl,hd,_,rfl,?_⟩;cases hd with
  |int i=>
   have q':Q (.bl (decide (lo<=i)&&decide (i<=hi))) H:=q;refine uo ⟨_,rfl,_,rfl,_,_,rfl,rfl,_,rfl,?_⟩;refine yQ (fun h=>?_) (fun h=>?_)
   ·rw[h,z03] at q';exact⟨_,rfl,_,_,rfl,rfl,q'⟩
   ·rw[z04.mpr h,z01] at q';exact q'
  |_=>exact uM q
theorem zJ6 :zm ["thing"] ["thing"] (zb zf9):=.o
theorem zr2 {f:Addr}{fd:FuncData}(F:Fun K "is_pair" "is_pair" zf9 f fd)(T:lG mg fW fI fP fD fPD):zE P w K mg base CX0 1 f fd ["thing"] (xk pairD):=by
 refine F.ok zJ6 (fun vs H Q E h=>?_) (fun cdv A outer s H vs Q E hr h=>?_)
 ·obtain⟨x,d,rfl,_⟩:=h;rfl
 ·obtain⟨x,d,rfl,hd,q⟩:=h;refine⟨_,zy (zD (xC (yo xW (by rfl) T.isi z90 (zd (pv 0) (zd (ue (v:=.ty "tuple") (by rfl) T.tuple boot_tuple rfl) zw)))
   (we (xT vE (yo yF (by rfl) T.len z82 (zd (pv 0) zw)) zt (zC _))))),?_⟩
  refine⟨_,rfl,x,"tuple",d,_,rfl,hd,oj d,_,rfl,?_⟩;cases hd with
  |@tup a xs ds e hs=>
   refine uo ⟨_,rfl,a,_,rfl,.inr (SqT.of e),rfl,?_⟩;rw[zo5,hs.length];exact q
  |_=>exact uM q
theorem zO1 :zm ["thing"] ["thing"] (zb zG7):=.o
theorem zF1 {f:Addr}{fd fdI:FuncData}(F:Fun K "is_day" "is_day" zG7 f fd)(T:lG mg fW fI fP fD fPD)(GI:zE P w K mg base CX0 2 fI fdI ["thing","lowest","highest"] vW)(kI:PySem.W.keepIn K (.ref fI)=true)(bI:Binds K fdI ["thing","lowest","highest"] []):
  zE P w K mg base CX0 3 f fd ["thing"] (xk tI):=by
 obtain⟨tl,hl⟩:=T.last;refine F.ok zO1 (fun vs H Q E h=>?_) (fun cdv A outer s H vs Q E hr h=>?_)
 ·obtain⟨x,d,rfl,_⟩:=h;rfl
 ·obtain⟨x,d,rfl,hd,q⟩:=h;refine⟨_,zy (zD (zZ GI hr (by rfl) T.within kI bI .nil yp (zd (pv 0) (zd zt (zd (tJ (v:=.int 1000000) (by rfl) hl ⟨tl,rfl⟩) zw))))),?_⟩;exact⟨_,rfl,x,d,_,_,rfl,hd,q⟩
theorem zI9 :zm ["thing"] ["thing"] (zb aR):=.o
theorem zo4 {f:Addr}{fd fdP fdD:FuncData}(F:Fun K "is_pair_of_days" "is_pair_of_days" aR f fd)(T:lG mg fW fI fP fD fPD)(GP:zE P w K mg base CX0 1 fP fdP ["thing"] (xk pairD))(kP:PySem.W.keepIn K (.ref fP)=true)(bP:Binds K fdP ["thing"] [])
  (GD:zE P w K mg base CX0 3 fD fdD ["thing"] (xk tI)) (kD:PySem.W.keepIn K (.ref fD)=true) (bD:Binds K fdD ["thing"] []):zE P w K mg base CX0 4 f fd ["thing"] (xk qA):=by
 refine F.ok zI9 (fun vs H Q E h=>?_) (fun cdv A outer s H vs Q E hr h=>?_)
 ·obtain⟨x,d,rfl,_⟩:=h;rfl
 ·obtain⟨x,d,rfl,hd,q⟩:=h;have hr1:zX 1 _:=hr.mono (by decide);refine⟨_,zy (zD (xC (zZ GP hr1 (by rfl) T.pair kP bP .nil yp (zd (pv 0) zw))
   (xC (zZ GD hr (by rfl) T.day kD bD .nil yp (zd (zW yU (pv 0) zt (fun _ _=>rfl)) zw))
   (we (zZ GD hr (by rfl) T.day kD bD .nil yp (zd (zW yU (pv 0) zt (fun _ _=>rfl)) zw)))))),?_⟩
  refine⟨_,rfl,x,d,rfl,hd,_,rfl,?_⟩;refine yQ (fun h=>?_) (fun h=>?_)
  ·obtain⟨a,b,rfl⟩:=sU h;cases hd with
   |tup e hs=>
    cases hs with
    |cons ha hs=>
     cases hs with
     |cons hb hs=>
      cases hs;have q':Q (.bl (tI a&&tI b)) H:=q;refine⟨_,rfl,_,_,0,_,rfl,rfl,SqT.of e,rfl,_,_,rfl,ha,_,rfl,?_⟩;refine yQ (fun h=>?_) (fun h=>?_)
      ·rw[h,z03] at q';exact⟨_,rfl,_,_,1,_,rfl,rfl,SqT.of e,rfl,_,_,rfl,hb,q'⟩
      ·rw[z04.mpr h,z01] at q';exact q'
  ·have e:qA d=false:=by
    unfold qA;split
    ·exact absurd rfl h
    ·rfl
   rw[e] at q;exact q
theorem cP :zm ["thing"] ["thing"] (zb qt):=.o
theorem jT {f:Addr}{fd fdP:FuncData}(F:Fun K "is_stretch" "is_stretch" qt f fd)(T:lG mg fW fI fP fD fPD)(G:zE P w K mg base CX0 4 fPD fdP ["thing"] (xk qA))(kP:PySem.W.keepIn K (.ref fPD)=true)(bP:Binds K fdP ["thing"] []):
  zE P w K mg base CX0 5 f fd ["thing"] (xk yD):=by
 refine F.ok cP (fun vs H Q E h=>?_) (fun cdv A outer s H vs Q E hr h=>?_)
 ·obtain⟨x,d,rfl,_⟩:=h;rfl
 ·obtain⟨x,d,rfl,hd,q⟩:=h;refine⟨_,zy (zD (xC (zZ G hr (by rfl) T.days kP bP .nil yp (zd (pv 0) zw))
   (we (xT tj (zW yU (pv 0) zt (fun _ _=>rfl)) (zW yU (pv 0) zt (fun _ _=>rfl)) (zC _))))),?_⟩
  refine⟨_,rfl,x,d,rfl,hd,_,rfl,?_⟩;refine yQ (fun h=>?_) (fun h=>?_)
  ·obtain⟨a,b,rfl,ef⟩:=jQ h;unfold yD at q;rw[ef] at q;have q':Q (.bl (decide (0<=b-a))) H:=q;have eq1:decide (0<=b-a)=decide (a<=b):=by
    rw[decide_eq_decide];omega
   rw[eq1] at q';cases hd with
   |tup e hs=>
    cases hs with
    |cons ha hs=>
     cases ha;cases hs with
     |cons hb hs=>
      cases hb;cases hs;exact⟨_,rfl,_,_,0,_,rfl,rfl,SqT.of e,rfl,_,rfl,_,_,1,_,rfl,rfl,SqT.of e,rfl,_,_,rfl,rfl,q'⟩
  ·rw[rV] at h;unfold yD at q;cases ef:pA d with
   |some k=>rw[ef] at h;exact absurd rfl h
   |none=>
    rw[ef] at q;exact q
end
noncomputable abbrev fL :Stmt:=inClass (top 41) 0
noncomputable abbrev iG :Stmt:=inClass (top 41) 3
noncomputable abbrev nV :Stmt:=inClass (top 42) 0
noncomputable abbrev ie :Stmt:=inClass (top 43) 0
noncomputable abbrev zJ0 :Stmt:=inClass (top 44) 0
noncomputable abbrev md :Stmt:=inClass (top 45) 0
noncomputable abbrev jh :Stmt:=inClass (top 46) 0
noncomputable abbrev iA :Stmt:=inClass (top 47) 0
noncomputable abbrev zb8 :Stmt:=inClass (top 48) 0
noncomputable abbrev iU :Stmt:=top 50
noncomputable abbrev oV :Stmt:=top 51
noncomputable abbrev kQ :Stmt:=top 52
noncomputable abbrev nX :Stmt:=top 53
noncomputable abbrev zg7 :Stmt:=top 54
noncomputable abbrev nN :Stmt:=top 55
structure jE (mg:Str->Option Value)(fW fI fP fD fPD fS fC fDl fWo fR fM:Addr)(cs:Cs):Prop where
 d:lG mg fW fI fP fD fPD
 coinsMost:∃t,mg "MOST_COINS"=some (.int 1000000000000 t)
 stretch:mg "is_stretch"=some (.ref fS)
 coins:mg "is_coins"=some (.ref fC)
 deal:mg "is_deal"=some (.ref fDl)
 worth:mg "is_worth"=some (.ref fWo)
 rule:mg "is_rule"=some (.ref fR)
 made:mg "made"=some (.ref fM)
 cPrice:mg "Price"=some (.ref cs.price)
 cCome:mg "Come"=some (.ref cs.come)
 cGo:mg "Go"=some (.ref cs.go)
 cLeast:mg "Least"=some (.ref cs.least)
 cMost:mg "Most"=some (.ref cs.most)
 cDeal:mg "Deal"=some (.ref cs.deal)
 cFee:mg "Fee"=some (.ref cs.fee)
section
variable {P:Program}{w:World}{K:PySem.W.Frag}{mg:Str->Option Value}{base:Heap}{fW fI fP fD fPD fS fC fDl fWo fR fM:Addr}{cs:Cs}
theorem zE8 :zm ["self","first","last","worth"] ["self","first","last","worth"] (zb fL):=.o
theorem vh {f C fT fE fWd:Addr}{fd:FuncData}(F:Fun K "__init__" "Rule.__init__" fL f fd)(R:vq K C f fT fE fWd):zE P w K mg base CX0 1 f fd ["self","first","last","worth"] (zE0 C):=by
 refine F.ok zE8 (fun vs H Q E h=>?_) (fun cdv A outer s H vs Q E hr h=>?_)
 ·obtain⟨p,dx,x,y,z,rfl,_⟩:=h;rfl
 ·obtain⟨p,dx,x,y,z,rfl,hp,q⟩:=h;refine⟨_,zT (nY (pv 0) (pv 1) rfl) (zT (nY (pv 0) (pv 2) rfl) (zy (nY (pv 0) (pv 3) rfl))),?_⟩;refine⟨_,rfl,_,rfl,p,C,dx,[],rfl,hp,R.cl,R.nf,(by show 0<1000;decide),?_⟩;refine⟨_,rfl,_,rfl,p,C,dx,_,rfl,zk,R.cl,R.nl,(by show 1<1000;decide),?_⟩;refine⟨_,rfl,_,rfl,p,C,dx,wt "last" y (wt "first" x []),rfl,zk,R.cl,R.nw,?_,?_⟩
  ·show (if ("first":Str)="last" then _ else _:List (Str×V)).length<1000;rw[if_neg (fun e=>zf8 e.symm)];show 2<1000
   decide
  ·rw[rq,rq];exact q
theorem zg3 :zm ["self"] ["self"] (zb nV):=.o
theorem zt1 :zm ["self"] ["self"] (zb ie):=.o
theorem zO9 :zm ["self"] ["self"] (zb zJ0):=.o
theorem zj8 :zm ["self"] ["self"] (zb md):=.o
theorem zv5 :zm ["self"] ["self"] (zb jh):=.o
theorem zt5 :zm ["self"] ["self"] (zb iA):=.o
theorem zF2 :zm ["self"] ["self"] (zb zb8):=.o
theorem dO {f:Addr}{fd:FuncData}(F:Fun K "word" "Price.word" nV f fd):zE P w K mg base CX0 1 f fd ["self"] (vR "price"):=by
 refine F.ok zg3 (fun vs H Q E h=>?_) (fun cdv A outer s H vs Q E hr h=>?_)
 ·obtain⟨p,rfl,_⟩:=h;rfl
 ·obtain⟨p,rfl,q⟩:=h;exact⟨_,zy (zD yw),q⟩
theorem zb3 {f:Addr}{fd:FuncData}(F:Fun K "word" "Come.word" ie f fd):zE P w K mg base CX0 1 f fd ["self"] (vR "come"):=by
 refine F.ok zt1 (fun vs H Q E h=>?_) (fun cdv A outer s H vs Q E hr h=>?_)
 ·obtain⟨p,rfl,_⟩:=h;rfl
 ·obtain⟨p,rfl,q⟩:=h;exact⟨_,zy (zD yw),q⟩
theorem zG8 {f:Addr}{fd:FuncData}(F:Fun K "word" "Go.word" zJ0 f fd):zE P w K mg base CX0 1 f fd ["self"] (vR "go"):=by
 refine F.ok zO9 (fun vs H Q E h=>?_) (fun cdv A outer s H vs Q E hr h=>?_)
 ·obtain⟨p,rfl,_⟩:=h;rfl
 ·obtain⟨p,rfl,q⟩:=h;exact⟨_,zy (zD yw),q⟩
theorem eR {f:Addr}{fd:FuncData}(F:Fun K "word" "Least.word" md f fd):zE P w K mg base CX0 1 f fd ["self"] (vR "least"):=by
 refine F.ok zj8 (fun vs H Q E h=>?_) (fun cdv A outer s H vs Q E hr h=>?_)
 ·obtain⟨p,rfl,_⟩:=h;rfl
 ·obtain⟨p,rfl,q⟩:=h;exact⟨_,zy (zD yw),q⟩
theorem bZ {f:Addr}{fd:FuncData}(F:Fun K "word" "Most.word" jh f fd):zE P w K mg base CX0 1 f fd ["self"] (vR "most"):=by
 refine F.ok zv5 (fun vs H Q E h=>?_) (fun cdv A outer s H vs Q E hr h=>?_)
 ·obtain⟨p,rfl,_⟩:=h;rfl
 ·obtain⟨p,rfl,q⟩:=h;exact⟨_,zy (zD yw),q⟩
theorem zb1 {f:Addr}{fd:FuncData}(F:Fun K "word" "Deal.word" iA f fd):zE P w K mg base CX0 1 f fd ["self"] (vR "deal"):=by
 refine F.ok zt5 (fun vs H Q E h=>?_) (fun cdv A outer s H vs Q E hr h=>?_)
 ·obtain⟨p,rfl,_⟩:=h;rfl
 ·obtain⟨p,rfl,q⟩:=h;exact⟨_,zy (zD yw),q⟩
theorem zx3 {f:Addr}{fd:FuncData}(F:Fun K "word" "Fee.word" zb8 f fd):zE P w K mg base CX0 1 f fd ["self"] (vR "fee"):=by
 refine F.ok zF2 (fun vs H Q E h=>?_) (fun cdv A outer s H vs Q E hr h=>?_)
 ·obtain⟨p,rfl,_⟩:=h;rfl
 ·obtain⟨p,rfl,q⟩:=h;exact⟨_,zy (zD yw),q⟩
theorem zn5 :zm ["self","day"] ["self","day"] (zb iG):=.o
theorem wc {f C fIn fT fWd:Addr}{fd:FuncData}(F:Fun K "tells" "Rule.tells" iG f fd)(R:vq K C fIn fT f fWd):zE P w K mg base CX0 1 f fd ["self","day"] (gh C):=by
 refine F.ok zn5 (fun vs H Q E h=>?_) (fun cdv A outer s H vs Q E hr h=>?_)
 ·obtain⟨p,dx,a,b,day,z,rfl,_⟩:=h;rfl
 ·obtain⟨p,dx,a,b,day,z,rfl,hp,q⟩:=h;refine⟨_,zy (zD (qj tj tj (jB (pv 0) rfl) (pv 1) (jB (pv 0) rfl))),?_⟩;refine⟨_,rfl,p,C,dx,_,_,rfl,hp,R.cl,R.nf,jJ _ _ _,_,rfl,_,_,rfl,rfl,_,rfl,?_⟩;refine yQ (fun h=>?_) (fun h=>?_)
  ·rw[h,z03] at q;exact⟨_,rfl,p,C,dx,_,_,rfl,hp,R.cl,R.nl,eA _ _ _,_,_,rfl,rfl,q⟩
  ·rw[z04.mpr h,z01] at q;exact q
theorem zw6 :zm ["thing"] ["thing"] (zb iU):=.o
theorem zm9 {f:Addr}{fd fdI:FuncData}(F:Fun K "is_coins" "is_coins" iU f fd)(T:jE mg fW fI fP fD fPD fS fC fDl fWo fR fM cs)(GI:zE P w K mg base CX0 2 fI fdI ["thing","lowest","highest"] vW)(kI:PySem.W.keepIn K (.ref fI)=true)(bI:Binds K fdI ["thing","lowest","highest"] []):
  zE P w K mg base CX0 3 f fd ["thing"] (xk vY):=by
 obtain⟨tl,hl⟩:=T.coinsMost;refine F.ok zw6 (fun vs H Q E h=>?_) (fun cdv A outer s H vs Q E hr h=>?_)
 ·obtain⟨x,d,rfl,_⟩:=h;rfl
 ·obtain⟨x,d,rfl,hd,q⟩:=h;refine⟨_,zy (zD (zZ GI hr (by rfl) T.d.within kI bI .nil yp (zd (pv 0) (zd zt (zd (tJ (v:=.int 1000000000000) (by rfl) hl ⟨tl,rfl⟩) zw))))),?_⟩;exact⟨_,rfl,x,d,_,_,rfl,hd,q⟩
theorem zg0 :zm ["thing"] ["thing"] (zb oV):=.o
theorem eL {f:Addr}{fd fdI fdP:FuncData}(F:Fun K "is_deal" "is_deal" oV f fd)(T:jE mg fW fI fP fD fPD fS fC fDl fWo fR fM cs)(GI:zE P w K mg base CX0 2 fI fdI ["thing","lowest","highest"] vW)(kI:PySem.W.keepIn K (.ref fI)=true)(bI:Binds K fdI ["thing","lowest","highest"] [])
  (GP:zE P w K mg base CX0 1 fP fdP ["thing"] (xk pairD)) (kP:PySem.W.keepIn K (.ref fP)=true) (bP:Binds K fdP ["thing"] []):zE P w K mg base CX0 3 f fd ["thing"] (xk uT):=by
 obtain⟨tm,hm⟩:=T.d.most;refine F.ok zg0 (fun vs H Q E h=>?_) (fun cdv A outer s H vs Q E hr h=>?_)
 ·obtain⟨x,d,rfl,_⟩:=h;rfl
 ·obtain⟨x,d,rfl,hd,q⟩:=h;have hr1:zX 1 _:=hr.mono (by decide);refine⟨_,zy (zD (xC (zZ GP hr1 (by rfl) T.d.pair kP bP .nil yp (zd (pv 0) zw))
   (xC (zZ GI hr (by rfl) T.d.within kI bI .nil yp (zd (zW yU (pv 0) zt (fun _ _=>rfl)) (zd zt (zd (tJ (v:=.int 14) (by rfl) hm ⟨tm,rfl⟩) zw))))
   (we (zZ GI hr (by rfl) T.d.within kI bI .nil yp (zd (zW yU (pv 0) zt (fun _ _=>rfl)) (zd zt (zd (yJ zd2 (zW yU (pv 0) zt (fun _ _=>rfl)) zt) zw)))))))),?_⟩
  refine⟨_,rfl,x,d,rfl,hd,_,rfl,?_⟩;refine yQ (fun h=>?_) (fun h=>?_)
  ·obtain⟨a,b,rfl⟩:=sU h;cases hd with
   |tup e hs=>
    cases hs with
    |cons ha hs=>
     cases hs with
     |cons hb hs=>
      cases hs;refine⟨_,rfl,_,_,0,_,rfl,rfl,SqT.of e,rfl,_,_,_,_,rfl,ha,_,rfl,?_⟩;cases ha with
      |int m=>
       have q':Q (.bl (yv 2 14 (.int m)&&yv 1 (m-1) b)) H:=q;refine yQ (fun h=>?_) (fun h=>?_)
       ·rw[h,z03] at q';exact⟨_,rfl,_,_,1,_,rfl,rfl,SqT.of e,rfl,_,rfl,_,_,0,_,rfl,rfl,SqT.of e,rfl,_,_,rfl,rfl,_,_,_,_,rfl,hb,q'⟩
       ·rw[z04.mpr h,z01] at q';exact q'
      |_=>exact uM q
  ·have e:uT d=false:=by
    unfold uT;split
    ·exact absurd rfl h
    ·rfl
   rw[e] at q;exact q
theorem zs9 :zm ["word","thing"] ["word","thing"] (zb kQ):=.o
theorem zk3 {f:Addr}{fd fdI fdC fdDl:FuncData}(F:Fun K "is_worth" "is_worth" kQ f fd)(T:jE mg fW fI fP fD fPD fS fC fDl fWo fR fM cs)(GI:zE P w K mg base CX0 2 fI fdI ["thing","lowest","highest"] vW)(kI:PySem.W.keepIn K (.ref fI)=true)(bI:Binds K fdI ["thing","lowest","highest"] [])
  (GC:zE P w K mg base CX0 3 fC fdC ["thing"] (xk vY)) (kC:PySem.W.keepIn K (.ref fC)=true) (bC:Binds K fdC ["thing"] []) (GDl:zE P w K mg base CX0 3 fDl fdDl ["thing"] (xk uT)) (kDl:PySem.W.keepIn K (.ref fDl)=true) (bDl:Binds K fdDl ["thing"] []):
  zE P w K mg base CX0 4 f fd ["word","thing"] gR:=by
 obtain⟨tm,hm⟩:=T.d.most;refine F.ok zs9 (fun vs H Q E h=>?_) (fun cdv A outer s H vs Q E hr h=>?_)
 ·obtain⟨x,y,dw,dv,rfl,_⟩:=h;rfl
 ·obtain⟨x,y,dw,dv,rfl,hx,sw,hy,q⟩:=h;have hr2:zX 2 _:=hr.mono (by decide);have hu:=hr.units;have st:∀{z:Str},z∈words->SeqAt.shaped (.str z)=true:=fun {z} hz=>iB (by
   simp only[words,zX0,zY3,z07] at hz;rcases hz with rfl|rfl|rfl|rfl|rfl|rfl|rfl<;>decide +kernel)
  unfold zF at q
  -- if word == 'price'
  refine yf (fun σ H1=>σ=[some x,some y]/\eqS dw "price"=false/\H=H1)
   ⟨_,wB (yr (vL hu) (pv 0) yw (zC _)) (zy (zD (aF (xT mq (pv 1) qQ (zC _)) (we (zZ GC hr (by rfl) T.coins kC bC .nil yp (zd (pv 1) zw)))))) yN,?_⟩ ?_
  ·refine⟨_,rfl,dw,.str "price",hx,.str _,sw,st (by simp[words]),_,rfl,?_⟩;refine yQ (fun h=>?_) (fun h=>⟨rfl,z04.mpr h,rfl⟩);rw[if_pos h] at q;refine⟨_,rfl,rfl,_,rfl,?_⟩;rw[hy.non_iff];refine yQ (fun h2=>?_) (fun h2=>?_)
   ·rw[h2,yd9] at q;exact q
   ·rw[z04.mpr h2,z77] at q;exact⟨_,rfl,y,dv,rfl,hy,q⟩
  rintro σ H1 ⟨rfl,e1,rfl⟩;rw[e1,if_neg zY1] at q
  -- if word == 'come' or word == 'go'
  refine yf (fun σ H1=>σ=[some x,some y]/\(eqS dw "come"||eqS dw "go")=false/\H=H1)
   ⟨_,wB (PW.pt (zd3 (yr (vL hu) (pv 0) yw (zC _)) (iz (yr (vL hu) (pv 0) yw (zC _))))) (zy (zD (yo xW (by rfl) T.d.isi z90 (zd (pv 1) (zd (ue (v:=.ty "bool") (by rfl) T.d.bool boot_bool rfl) zw))))) yN,?_⟩ ?_
  ·refine⟨_,rfl,dw,.str "come",hx,.str _,sw,st (by simp[words]),_,rfl,?_⟩;refine yQ (fun h=>?_) (fun h=>?_)
   ·have h':eqS dw "come"=true:=h;rw[h',yd9,if_pos rfl] at q;exact uo ⟨_,rfl,y,"bool",dv,_,rfl,hy,qH dv,q⟩
   ·have h':eqS dw "come"=false:=z04.mpr h;refine⟨_,rfl,dw,.str "go",hx,.str _,sw,st (by simp[words]),_,rfl,?_⟩;refine yQ (fun h2=>?_) (fun h2=>?_)
    ·have h2':eqS dw "go"=true:=h2;rw[h',h2',z77,if_pos rfl] at q;exact⟨_,rfl,y,"bool",dv,_,rfl,hy,qH dv,q⟩
    ·have h2':eqS dw "go"=false:=z04.mpr h2;exact⟨rfl,by rw[h',h2'];rfl,rfl⟩
  rintro σ H1 ⟨rfl,e2,rfl⟩;rw[e2,if_neg zY1] at q
  -- if word == 'least' or word == 'most'
  refine yf (fun σ H1=>σ=[some x,some y]/\(eqS dw "least"||eqS dw "most")=false/\H=H1)
   ⟨_,wB (PW.pt (zd3 (yr (vL hu) (pv 0) yw (zC _)) (iz (yr (vL hu) (pv 0) yw (zC _))))) (zy (zD (zZ GI hr2 (by rfl) T.d.within kI bI .nil yp (zd (pv 1) (zd zt (zd (tJ (v:=.int 14) (by rfl) hm ⟨tm,rfl⟩) zw)))))) yN,?_⟩ ?_
  ·refine⟨_,rfl,dw,.str "least",hx,.str _,sw,st (by simp[words]),_,rfl,?_⟩;refine yQ (fun h=>?_) (fun h=>?_)
   ·have h':eqS dw "least"=true:=h;rw[h',yd9,if_pos rfl] at q;exact uo ⟨_,rfl,y,dv,_,_,rfl,hy,q⟩
   ·have h':eqS dw "least"=false:=z04.mpr h;refine⟨_,rfl,dw,.str "most",hx,.str _,sw,st (by simp[words]),_,rfl,?_⟩;refine yQ (fun h2=>?_) (fun h2=>?_)
    ·have h2':eqS dw "most"=true:=h2;rw[h',h2',z77,if_pos rfl] at q;exact⟨_,rfl,y,dv,_,_,rfl,hy,q⟩
    ·have h2':eqS dw "most"=false:=z04.mpr h2;exact⟨rfl,by rw[h',h2'];rfl,rfl⟩
  rintro σ H1 ⟨rfl,e3,rfl⟩;rw[e3,if_neg zY1] at q
  -- if word == 'deal'
  refine yf (fun σ H1=>σ=[some x,some y]/\eqS dw "deal"=false/\H=H1)
   ⟨_,wB (yr (vL hu) (pv 0) yw (zC _)) (zy (zD (aF (xT mq (pv 1) qQ (zC _)) (we (zZ GDl hr (by rfl) T.deal kDl bDl .nil yp (zd (pv 1) zw)))))) yN,?_⟩ ?_
  ·refine⟨_,rfl,dw,.str "deal",hx,.str _,sw,st (by simp[words]),_,rfl,?_⟩;refine yQ (fun h=>?_) (fun h=>⟨rfl,z04.mpr h,rfl⟩);rw[if_pos h] at q;refine⟨_,rfl,rfl,_,rfl,?_⟩;rw[hy.non_iff];refine yQ (fun h2=>?_) (fun h2=>?_)
   ·rw[h2,yd9] at q;exact q
   ·rw[z04.mpr h2,z77] at q;exact⟨_,rfl,y,dv,rfl,hy,q⟩
  rintro σ H1 ⟨rfl,e4,rfl⟩;rw[e4,if_neg zY1] at q;refine⟨_,zy (zD (xC (xT (vL hu) (pv 0) yw (zC _)) (we (zZ GC hr (by rfl) T.coins kC bC .nil yp (zd (pv 1) zw))))),?_⟩;refine⟨_,rfl,dw,.str "fee",hx,.str _,sw,st (by simp[words]),_,rfl,?_⟩;refine yQ (fun h=>?_) (fun h=>?_)
  ·have h':eqS dw "fee"=true:=h;rw[h',z03] at q;exact⟨_,rfl,y,dv,rfl,hy,q⟩
  ·have h':eqS dw "fee"=false:=z04.mpr h;rw[h',z01] at q;exact q
theorem aN :zm ["thing"] ["thing"] (zb nX):=.o
theorem ba {f:Addr}{fd fdS fdWo:FuncData}(F:Fun K "is_rule" "is_rule" nX f fd)(T:jE mg fW fI fP fD fPD fS fC fDl fWo fR fM cs)(GS:zE P w K mg base CX0 5 fS fdS ["thing"] (xk yD))(kS:PySem.W.keepIn K (.ref fS)=true)(bS:Binds K fdS ["thing"] [])
  (GW:zE P w K mg base CX0 4 fWo fdWo ["word","thing"] gR) (kW:PySem.W.keepIn K (.ref fWo)=true) (bW:Binds K fdWo ["word","thing"] []):zE P w K mg base CX0 6 f fd ["thing"] zl9:=by
 refine F.ok aN (fun vs H Q E h=>?_) (fun cdv A outer s H vs Q E hr h=>?_)
 ·obtain⟨x,d,rfl,_⟩:=h;rfl
 ·obtain⟨x,d,rfl,hd,sd,q⟩:=h;have hr4:zX 4 _:=hr.mono (by decide);refine⟨_,zy (zD (xC (yo xW (by rfl) T.d.isi z90 (zd (pv 0) (zd (ue (v:=.ty "tuple") (by rfl) T.d.tuple boot_tuple rfl) zw)))
   (xC (xT vE (yo yF (by rfl) T.d.len z82 (zd (pv 0) zw)) zt (zC _))
   (xC (zZ GS hr (by rfl) T.stretch kS bS .nil yp (zd (oF (zd (zW yU (pv 0) zt (fun _ _=>rfl)) (zd (zW yU (pv 0) zt (fun _ _=>rfl)) zw))) zw))
   (we (zZ GW hr4 (by rfl) T.worth kW bW .nil yp (zd (zW yU (pv 0) zt (fun _ _=>rfl)) (zd (zW yU (pv 0) zt (fun _ _=>rfl)) zw)))))))),?_⟩
  refine⟨_,rfl,x,"tuple",d,_,rfl,hd,oj d,_,rfl,?_⟩;cases hd with
  |@tup a xs ds e hs=>
   refine uo ⟨_,rfl,a,_,rfl,.inr (SqT.of e),rfl,_,rfl,?_⟩;cases hs with
   |nil=>exact yQ (fun h=>absurd h (by simp)) (fun _=>q H (zB.refl H))
   |@cons xw _ dw _ hw hs=>
   cases hs with
   |nil=>exact yQ (fun h=>absurd h (by simp)) (fun _=>q H (zB.refl H))
   |@cons xa _ da _ ha hs=>
   cases hs with
   |nil=>exact yQ (fun h=>absurd h (by simp)) (fun _=>q H (zB.refl H))
   |@cons xb _ db _ hb hs=>
   cases hs with
   |nil=>exact yQ (fun h=>absurd h (by simp)) (fun _=>q H (zB.refl H))
   |@cons xv _ dv _ hv hs=>
   cases hs with
   |cons _ _=>exact yQ (fun h=>absurd h (by simp;omega)) (fun _=>q H (zB.refl H))
   |nil=>
    refine yQ (fun _=>?_) (fun h=>absurd rfl h);refine⟨_,rfl,a,_,1,_,rfl,rfl,SqT.of e,rfl,_,rfl,a,_,2,_,rfl,rfl,SqT.of e,rfl,(by show 2<=sizeLine;decide),fun p hp=>?_⟩;have s1:zB H (upd H p (.tup [xa,xb])):=yB hp;refine⟨_,.tuple [da,db],rfl,.tup zk (.cons (ha.same s1) (.cons (hb.same s1) .nil)),_,rfl,?_⟩;have q':Q (.bl (yD (.tuple [da,db])&&zF dw dv)) (upd H p (.tup [xa,xb])):=q _ s1;refine yQ (fun h=>?_) (fun h=>?_)
    ·rw[h,z03] at q';exact⟨_,rfl,a,_,0,_,rfl,rfl,SqT.of (s1 _ _ e),rfl,_,rfl,a,_,3,_,rfl,rfl,SqT.of (s1 _ _ e),rfl,_,_,_,_,rfl,hw.same s1,oS sd dw (by simp),hv.same s1,q'⟩
    ·rw[z04.mpr h,z01] at q';exact q'
  |_=>exact uM (q H (zB.refl H))
end
section
variable {P:Program}{w:World}{K:PySem.W.Frag}{mg:Str->Option Value}{base:Heap}{fW fI fP fD fPD fS fC fDl fWo fR fM:Addr}{cs:Cs}
structure aC (K:PySem.W.Frag)(cs:Cs)(fIn fTo fTe w1 w2 w3 w4 w5 w6 w7:Addr):Prop where
 price:vq K cs.price fIn fTo fTe w1
 come:vq K cs.come fIn fTo fTe w2
 go:vq K cs.go fIn fTo fTe w3
 least:vq K cs.least fIn fTo fTe w4
 most:vq K cs.most fIn fTo fTe w5
 deal:vq K cs.deal fIn fTo fTe w6
 fee:vq K cs.fee fIn fTo fTe w7
theorem tM (cs:Cs):cs.of "price"=cs.price:=by unfold Cs.of;rw[if_pos rfl]
theorem rA (cs:Cs):cs.of "come"=cs.come:=by unfold Cs.of;rw[if_neg (by decide +kernel),if_pos rfl]
theorem gq (cs:Cs):cs.of "go"=cs.go:=by unfold Cs.of;rw[if_neg (by decide +kernel),if_neg (by decide +kernel),if_pos rfl]
theorem tE (cs:Cs):cs.of "least"=cs.least:=by unfold Cs.of;rw[if_neg (by decide +kernel),if_neg (by decide +kernel),if_neg (by decide +kernel),if_pos rfl]
theorem rp (cs:Cs):cs.of "most"=cs.most:=by unfold Cs.of;rw[if_neg (by decide +kernel),if_neg (by decide +kernel),if_neg (by decide +kernel),if_neg (by decide +kernel),if_pos rfl]
theorem rC (cs:Cs):cs.of "deal"=cs.deal:=by unfold Cs.of;rw[if_neg (by decide +kernel),if_neg (by decide +kernel),if_neg (by decide +kernel),if_neg (by decide +kernel),if_neg (by decide +kernel),if_pos rfl]
theorem mv (cs:Cs):cs.of "fee"=cs.fee:=by unfold Cs.of;rw[if_neg (by decide +kernel),if_neg (by decide +kernel),if_neg (by decide +kernel),if_neg (by decide +kernel),if_neg (by decide +kernel),if_neg (by decide +kernel)]
theorem tV {x y:Str}(h:decide (V.str x=V.str y)=true):x=y:=by
 have:=z21 h;injection this
theorem sx {x y:Str}(h:¬decide (V.str x=V.str y)=true):x≠y:=fun e=>h (by rw[e];exact z02 rfl)
theorem wk {C p dx:Addr}{H:Hp}{x y z:V}{Q:VK}(k:∀(p dx:Addr) (H':Hp),H' p=some (.ins C dx (sY x y z))->H p=none->zB H H'->Q (.ref p) H')(hp:H p=none)(hx:H dx=none)(n:dx≠p):
  Q (.ref p) (upd (upd (upd H dx (.own p)) p (.ins C dx [])) p (.ins C dx (sY x y z))):=by
 refine k p dx _ zk hp fun a o e=>?_;rw[rq,zg (zo e hp),zg (zo e hx)];exact e
theorem zD9 :zm ["word","first","last","worth"] ["word","first","last","worth"] (zb zg7):=.o
theorem zr1 {f fIn fTo fTe w1 w2 w3 w4 w5 w6 w7:Addr}{fd fdIn:FuncData}(F:Fun K "made" "made" zg7 f fd)(T:jE mg fW fI fP fD fPD fS fC fDl fWo fR fM cs)(A7:aC K cs fIn fTo fTe w1 w2 w3 w4 w5 w6 w7)
  (FI:Fun K "__init__" "Rule.__init__" fL fIn fdIn) (bI:Binds K fdIn ["self","first","last","worth"] []):zE P w K mg base CX0 3 f fd ["word","first","last","worth"] (ah cs):=by
 refine F.ok zD9 (fun vs H Q E h=>?_) (fun cdv A outer s H vs Q E hr h=>?_)
 ·obtain⟨wd,x,y,z,rfl,_⟩:=h;rfl
 ·obtain⟨wd,x,y,z,rfl,hw,k⟩:=h;refine yf (fun σ H1=>σ=[some (.str wd),some x,some y,some z]/\wd≠"price"/\H=H1)
   ⟨_,wB (yr vE (pv 0) yw (zC _)) (zy (zD (wC A7.price.makes (vh FI A7.price) hr (by rfl) T.cPrice bI .nil yp (zd (pv 1) (zd (pv 2) (zd (pv 3) zw)))))) yN,?_⟩ ?_
  ·refine⟨_,rfl,rfl,_,rfl,yQ (fun h=>?_) (fun h=>⟨rfl,sx h,rfl⟩)⟩;rw[tV h,tM] at k;exact⟨_,rfl,_,rfl,_,rfl,fun p dx hp hx n=>⟨p,dx,_,_,_,rfl,zk,rfl,wk k hp hx n⟩⟩
  rintro σ H1 ⟨rfl,n1,rfl⟩;refine yf (fun σ H1=>σ=[some (.str wd),some x,some y,some z]/\wd≠"come"/\H=H1)
   ⟨_,wB (yr vE (pv 0) yw (zC _)) (zy (zD (wC A7.come.makes (vh FI A7.come) hr (by rfl) T.cCome bI .nil yp (zd (pv 1) (zd (pv 2) (zd (pv 3) zw)))))) yN,?_⟩ ?_
  ·refine⟨_,rfl,rfl,_,rfl,yQ (fun h=>?_) (fun h=>⟨rfl,sx h,rfl⟩)⟩;rw[tV h,rA] at k;exact⟨_,rfl,_,rfl,_,rfl,fun p dx hp hx n=>⟨p,dx,_,_,_,rfl,zk,rfl,wk k hp hx n⟩⟩
  rintro σ H1 ⟨rfl,n2,rfl⟩;refine yf (fun σ H1=>σ=[some (.str wd),some x,some y,some z]/\wd≠"go"/\H=H1)
   ⟨_,wB (yr vE (pv 0) yw (zC _)) (zy (zD (wC A7.go.makes (vh FI A7.go) hr (by rfl) T.cGo bI .nil yp (zd (pv 1) (zd (pv 2) (zd (pv 3) zw)))))) yN,?_⟩ ?_
  ·refine⟨_,rfl,rfl,_,rfl,yQ (fun h=>?_) (fun h=>⟨rfl,sx h,rfl⟩)⟩;rw[tV h,gq] at k;exact⟨_,rfl,_,rfl,_,rfl,fun p dx hp hx n=>⟨p,dx,_,_,_,rfl,zk,rfl,wk k hp hx n⟩⟩
  rintro σ H1 ⟨rfl,n3,rfl⟩;refine yf (fun σ H1=>σ=[some (.str wd),some x,some y,some z]/\wd≠"least"/\H=H1)
   ⟨_,wB (yr vE (pv 0) yw (zC _)) (zy (zD (wC A7.least.makes (vh FI A7.least) hr (by rfl) T.cLeast bI .nil yp (zd (pv 1) (zd (pv 2) (zd (pv 3) zw)))))) yN,?_⟩ ?_
  ·refine⟨_,rfl,rfl,_,rfl,yQ (fun h=>?_) (fun h=>⟨rfl,sx h,rfl⟩)⟩;rw[tV h,tE] at k;exact⟨_,rfl,_,rfl,_,rfl,fun p dx hp hx n=>⟨p,dx,_,_,_,rfl,zk,rfl,wk k hp hx n⟩⟩
  rintro σ H1 ⟨rfl,n4,rfl⟩;refine yf (fun σ H1=>σ=[some (.str wd),some x,some y,some z]/\wd≠"most"/\H=H1)
   ⟨_,wB (yr vE (pv 0) yw (zC _)) (zy (zD (wC A7.most.makes (vh FI A7.most) hr (by rfl) T.cMost bI .nil yp (zd (pv 1) (zd (pv 2) (zd (pv 3) zw)))))) yN,?_⟩ ?_
  ·refine⟨_,rfl,rfl,_,rfl,yQ (fun h=>?_) (fun h=>⟨rfl,sx h,rfl⟩)⟩;rw[tV h,rp] at k;exact⟨_,rfl,_,rfl,_,rfl,fun p dx hp hx n=>⟨p,dx,_,_,_,rfl,zk,rfl,wk k hp hx n⟩⟩
  rintro σ H1 ⟨rfl,n5,rfl⟩;refine yf (fun σ H1=>σ=[some (.str wd),some x,some y,some z]/\wd≠"deal"/\H=H1)
   ⟨_,wB (yr vE (pv 0) yw (zC _)) (zy (zD (wC A7.deal.makes (vh FI A7.deal) hr (by rfl) T.cDeal bI .nil yp (zd (pv 1) (zd (pv 2) (zd (pv 3) zw)))))) yN,?_⟩ ?_
  ·refine⟨_,rfl,rfl,_,rfl,yQ (fun h=>?_) (fun h=>⟨rfl,sx h,rfl⟩)⟩;rw[tV h,rC] at k;exact⟨_,rfl,_,rfl,_,rfl,fun p dx hp hx n=>⟨p,dx,_,_,_,rfl,zk,rfl,wk k hp hx n⟩⟩
  rintro σ H1 ⟨rfl,n6,rfl⟩;have e7:wd="fee":=by
   simp only[words,zX0,zY3,z07] at hw;rcases hw with e|e|e|e|e|e|e
   ·exact absurd e n1
   ·exact absurd e n2
   ·exact absurd e n3
   ·exact absurd e n4
   ·exact absurd e n5
   ·exact absurd e n6
   ·exact e
  rw[e7,mv] at k;refine⟨_,zy (zD (wC A7.fee.makes (vh FI A7.fee) hr (by rfl) T.cFee bI .nil yp (zd (pv 1) (zd (pv 2) (zd (pv 3) zw))))),?_⟩;exact⟨_,rfl,_,rfl,_,rfl,fun p dx hp hx n=>⟨p,dx,_,_,_,rfl,zk,rfl,wk k hp hx n⟩⟩
theorem zg2 :zm ["thing"] ["thing"] (zb nN):=.o
theorem du {f:Addr}{fd fdR fdM:FuncData}(F:Fun K "rule_of" "rule_of" nN f fd)(T:jE mg fW fI fP fD fPD fS fC fDl fWo fR fM cs)(GR:zE P w K mg base CX0 6 fR fdR ["thing"] zl9)(kR:PySem.W.keepIn K (.ref fR)=true)(bR:Binds K fdR ["thing"] [])
  (GM:zE P w K mg base CX0 3 fM fdM ["word","first","last","worth"] (ah cs)) (kM:PySem.W.keepIn K (.ref fM)=true) (bM:Binds K fdM ["word","first","last","worth"] []):zE P w K mg base CX0 7 f fd ["thing"] (lr cs):=by
 refine F.ok zg2 (fun vs H Q E h=>?_) (fun cdv A outer s H vs Q E hr h=>?_)
 ·obtain⟨x,d,rfl,_⟩:=h;rfl
 ·obtain⟨x,d,rfl,hd,sd,k0,k1⟩:=h;have hr3:zX 3 _:=hr.mono (by decide);refine yf (fun σ H1=>σ=[some x]/\xA d=true/\zB H H1)
   ⟨_,wB (au (zl8 (zZ GR hr (by rfl) T.rule kR bR .nil yp (zd (pv 0) zw)))) (zy (zD qQ)) yN,?_⟩ ?_
  ·refine⟨_,rfl,x,d,rfl,hd,sd,fun H1 s1=>⟨_,rfl,?_⟩⟩;refine yQ (fun h=>?_) (fun h=>?_)
   ·exact k0 (by simpa using h) H1 s1
   ·exact⟨rfl,by simpa using h,s1⟩
  rintro σ H1 ⟨rfl,er,s1⟩;obtain⟨sw,da,db,dv,hsw,rfl⟩:=wx er;cases hd with
  |@tup r xs ds e hs=>
   cases hs with
   |@cons xw _ _ _ hw hs=>
    cases hw;cases hs with
    |@cons xa _ _ _ ha hs=>
     cases hs with
     |@cons xb _ _ _ hb hs=>
      cases hs with
      |@cons xv _ _ _ hv hs=>
       cases hs;have e1:=s1 _ _ e;refine⟨_,zy (zD (zZ GM hr3 (by rfl) T.made kM bM .nil yp (zd (zW yU (pv 0) zt (fun _ _=>rfl)) (zd (zW yU (pv 0) zt (fun _ _=>rfl)) (zd (zW yU (pv 0) zt (fun _ _=>rfl)) (zd (zW yU (pv 0) zt (fun _ _=>rfl)) zw)))))),?_⟩;refine⟨_,rfl,r,_,0,_,rfl,rfl,SqT.of e1,rfl,_,rfl,r,_,1,_,rfl,rfl,SqT.of e1,rfl,_,rfl,r,_,2,_,rfl,rfl,SqT.of e1,rfl,_,rfl,r,_,3,_,rfl,rfl,SqT.of e1,rfl,sw,_,_,_,rfl,hsw,fun p dx H2 h2 hp s2=>?_⟩;exact k1 r sw xa xb xv p dx H2 rfl er hsw e h2 (s1.free hp) (s1.trans s2)
end
noncomputable abbrev zb4 :Stmt:=top 59
noncomputable abbrev xR :Stmt:=inClass (top 58) 0
noncomputable def oh (C:Addr)(a b v:PyData):PyData:=sC C [(.str "first",a),(.str "last",b),(.str "worth",v)]
noncomputable def sR (cs:Cs):PyData->PyData
 |.tuple [.str w,a,b,v]=>oh (cs.of w) a b v
 |_=>.none
noncomputable def yK (C:Addr)(cs:Cs)(ds:List PyData):PyData:=sC C [(.str "kept",.list (ds.map (sR cs)))]
def Rules (ds:List PyData):Prop:=∀d∈ds,xA d=true/\SeqAt.shaped d=true/\d.hasDict=false
def qB (cs:Cs):List A->(A->Prop)->Prop:=fun as Q=>∃d,as=[.dat d]/\d.hasDict=false/\SeqAt.shaped d=true/\(xA d=false->Q (.dat .none))/\(xA d=true->Q (.dat (sR cs d)))
def ji (cs:Cs):List A->(A->Prop)->Prop:=fun as Q=>∃ds,as=[.dat (.list ds)]/\Rules ds/\ds.length<=24/\Q (.own (ds.map (sR cs)))
def nr (C:Addr)(cs:Cs):List A->(A->Prop)->Prop:=fun as Q=>∃ds,(as=[.dat (.list ds)]\/(as=[.dat .none]/\ds=[]))/\Rules ds/\ds.length<=24/\Q (.dat (yK C cs ds))
theorem fh (x y z:V):sY x y z=[(("first":Str),x),(("last":Str),y),(("worth":Str),z)]:=by
 unfold sY;show wt "worth" z (if ("first":Str)="last" then _ else _)=_;rw[if_neg (fun e=>zf8 e.symm)];show (if ("first":Str)="worth" then _ else _)=_;rw[if_neg (fun e=>aB e.symm)];show _::(if ("last":Str)="worth" then _ else _)=_;rw[if_neg (fun e=>aH e.symm)];rfl
theorem qr {cs:Cs}{d:PyData}(h:xA d=true):∃(s:Str) (a b v:PyData),s∈words/\d=.tuple [.str s,a,b,v]/\sR cs d=oh (cs.of s) a b v:=by
 obtain⟨s,a,b,v,hs,rfl⟩:=wx h;exact⟨s,a,b,v,hs,rfl,rfl⟩
section
variable {P:Program}{w:World}{K:PySem.W.Frag}{mg:Str->Option Value}{base:Heap}{cs:Cs}
theorem ir {k:Nat}{f:Addr}{fd:FuncData}{ps:List Str}(hm:mg "rule_of"=some (.ref f))(hk:PySem.W.keepIn K (.ref f)=true)(hb:Binds K fd ps [])(G:zE P w K mg base CX0 k f fd ps (lr cs)):Cal P w K mg base "rule_of" k (qB cs):=by
 refine⟨f,fd,_,hm,hk,hb,G.imp fun vs H Q E h=>?_⟩;obtain⟨F,as,Q',rfl,t,o,rv,⟨d,rfl,nd,sh,q0,q1⟩,kk⟩:=h;obtain⟨x,rfl,av⟩:=rv.one;have oo:∀{a:Addr},F.H0 a=none->¬F.O0 a:=fun {a} e z=>by
  obtain⟨u,hu,_⟩:=o a z;rw[e] at hu;cases hu
 refine⟨x,d,rfl,(av.dv nd).same xZ,sh,fun hr H' s=>kk _ _ _ (q0 hr) ⟨t.same s,Kz.of_same s,.non⟩,fun r wd x1 x2 x3 p dx H' hx hr hw he hp' hp s=>kk _ _ _ (q1 hr) ⟨t.same s,Kz.of_same s,?_⟩⟩;subst hx;obtain⟨s',a,b,v,_,rfl⟩:=wx hr;obtain⟨r',xs,e1,e2,e3⟩:=av.tup_inv;cases e1;have e4:=(zi e2).2;rw[he] at e4;cases e4;have gs:zB (sub (fun x=>¬F.O0 x) F.H0) (sub (fun x=>¬F.O0 x) H'):=zz fun a u h e=>⟨h,s _ _ e⟩;cases e3 with
 |cons g1 e3=>
  cases g1.str_inv;cases e3 with
  |cons g2 e3=>
   cases e3 with
   |cons g3 e3=>
    cases e3 with
    |cons g4 e3=>
     cases e3;rw[fh] at hp';exact .ins (zH (oo hp) hp') (.cons (g2.same gs) (.cons (g3.same gs) (.cons (g4.same gs) .nil)))
theorem zb0 :zm ["things","kept","number","thing","rule"] ["things"] (zb zb4):=.o
theorem zj7 {f:Addr}{fd:FuncData}(F:Fun K "kept_rules" "kept_rules" zb4 f fd)(hm:mg "kept_rules"=some (.ref f))(hb:Binds K fd ["things"] [])(nb:NbT mg)(gM:∃t,mg "MOST_RULES"=some (.int 24 t))(CRO:Cal P w K mg base "rule_of" 7 (qB cs)):Cal P w K mg base "kept_rules" 8 (ji cs):=by
 refine yM F hm hb zb0 (fun as Q h=>?_) (fun cdv A' outer s H E as Q hr h=>?_)
 ·obtain⟨ds,rfl,_⟩:=h;rfl
 ·obtain⟨ds,rfl,rd,hl,q⟩:=h;refine yV 1 zb0.nd (xP (zv (⟨_,rfl,zY5 rfl,?_⟩)));refine vK (pat:=.many [2,3]) z42 rfl (vP (n:=2) (K:=K) rfl rfl (wj (yb (i:=2) zb0.nd rfl (Or.inl rfl)) (wj (yb (i:=3) zb0.nd rfl (Or.inl rfl)) (tH)))) (oZ (by rfl) nb.enumerate (zf 0 rfl (⟨_,rfl,?_⟩)));refine zN (fun i α=>∃v2 v3 v4,α=[some (.dat (.list ds)),some (.own ((ds.take i).map (sR cs))),v2,v3,v4]) ⟨none,none,none,rfl⟩ ?_ ?_
  ·rintro i d α hd ⟨v2,v3,v4,rfl⟩;obtain⟨e,he,rfl⟩:=wK hd;obtain⟨r1,r2,r3⟩:=rd e (z27 he);have hi:i<ds.length:=(zW7.mp he).1;refine⟨_,rfl,?_⟩;refine zQ 4 zb0.nd (yA CRO hr (by rfl) (zh (zf 3 rfl (zv (⟨_,rfl,r3,r2,fun z=>(by rw[r1] at z;cases z),fun _=>?_⟩)))));refine xf (vO (zf 4 rfl ?_));obtain⟨s',a,b,v,hs,rfl,ei⟩:=qr (cs:=cs) r1;refine yq (fun h=>by rw[show (A.dat (sR cs (.tuple [.str s',a,b,v]))).d=oh (cs.of s') a b v from rfl] at h;cases h) (fun _=>zu ?_);refine yz 1 rfl (zf 4 rfl ⟨by rw[zW3,zZ4];omega,?_⟩);refine zu ⟨some (.dat (.int ((0+i:Nat):Int))),some (.dat (.tuple [.str s',a,b,v])),some (.dat (sR cs (.tuple [.str s',a,b,v]))),?_⟩;rw[z52,he,zZ9];rfl
  ·rintro α ⟨v2,v3,v4,rfl⟩;rw[va,z66];refine xf (fG 1 rfl (zj5 (nL (by rfl) nb.len (zf 1 rfl ⟨_,rfl,zm1 (by rfl) gM ⟨_,_,rfl,rfl,?_⟩⟩))));refine zm4 (fun h=>?_) (fun _=>zu ?_)
   ·rw[zW3] at h;omega
   ·exact xr 1 rfl q
theorem zT6 :zm ["self","rules"] ["self","rules"] (zb xR):=.o
theorem df {w' v:PyData}(h:zF w' v=true):noL v=true:=by
 have wi:∀{lo hi:Int} {x:PyData},yv lo hi x=true->noL x=true:=fun {lo hi x} h=>by
  cases x with
  |int i=>rfl
  |_=>cases h
 have nn:∀{x:PyData},isNone x=true->noL x=true:=fun {x} h=>by
  cases x with
  |none=>rfl
  |_=>cases h
 unfold zF at h;split at h
 ·rcases (z60 _ _).mp h with h|h
  ·exact nn h
  ·exact wi h
 ·split at h
  ·cases v with
   |bool b=>rfl
   |_=>cases h
  ·split at h
   ·exact wi h
   ·split at h
    ·rcases (z60 _ _).mp h with h|h
     ·exact nn h
     ·unfold uT at h;split at h
      ·rw[zY7] at h;simp only[noL,ur,wi h.2,ye6]
      ·cases h
    ·rw[zY7] at h;exact wi h.2
theorem zj2 {s':Str}{a b v:PyData}(h:xA (.tuple [.str s',a,b,v])=true):noL a=true/\noL b=true/\noL v=true:=by
 have h':(yD (.tuple [a,b])&&zF (.str s') v)=true:=h;rw[zY7] at h';refine⟨?_,?_,df h'.2⟩
 ·have:=h'.1;unfold yD pA at this;split at this
  ·rename_i k e;split at e
   ·rename_i z;cases z;rfl
   ·cases e
  ·cases this
 ·have:=h'.1;unfold yD pA at this;split at this
  ·rename_i k e;split at e
   ·rename_i z;cases z;rfl
   ·cases e
  ·cases this
theorem kd {ds:List PyData}(rd:Rules ds):ur (ds.map (sR cs))=true:=by
 induction ds with
 |nil=>rfl
 |cons d r ih=>
  have ih':=ih fun x hx=>rd x (zX3 _ hx);have h1:=(rd d zX7).1;obtain⟨s',a,b,v,hs,rfl,ei⟩:=qr (cs:=cs) h1;obtain⟨z1,z2,z3⟩:=zj2 h1;rw[zY2,ei];simp only[ur,ih',Bool.and_true];simp[oh,sC,noL,je,z1,z2,z3]
theorem za0 {f C:Addr}{dV:Value}{fd:FuncData}(F:zF5 K "__init__" "Book.__init__" xR dV f fd)(c:Cls K C)(na:xj K C "kept")(CK:Cal P w K mg base "kept_rules" 8 (ji cs)):zE P w K mg base CX0 9 f fd ["self","rules"] (spI C (nr C cs)):=by
 refine zQ7 (N:=[]) F zT6 c na rfl (fun as Q h=>?_) (fun cdv A' outer s H E as Q hr h=>?_) (fun _ _ _ _ _ _=>rfl) (Or.inl rfl)
 ·obtain⟨ds,h|⟨h,_⟩,_⟩:=h<;>rw[h]<;>rfl
 ·obtain⟨ds,h|⟨h,hz⟩,rd,hl,q⟩:=h
  ·subst h;exact wI CK hr (by rfl) (zh (iI (vO (zf 1 rfl (uM (zf 1 rfl (zv ⟨_,rfl,rd,hl,_,rfl,kd rd,q⟩)))))))
  ·subst h hz;exact wI CK hr (by rfl) (zh (iI (vO (zf 1 rfl (uo (EvL.d (xP (zv ⟨_,rfl,zY5 rfl,zv ⟨[],rfl,rd,hl,_,rfl,kd rd,q⟩⟩))))))))
end
noncomputable abbrev oP :Stmt:=inClass (top 58) 2
noncomputable abbrev kX :Stmt:=top 49
noncomputable def tbU :List (Str×V):=[("price",.non),("come",.bl true),("go",.bl true),("least",.int 1),("most",.int 14),("deal",.non),("fee",.int 0)]
noncomputable def zk8 (x:Str):PyData:=if x="price"\/x="deal" then .none else if x="come"\/x="go" then .bool true else if x="least" then .int 1 else if x="most" then .int 14 else .int 0
theorem zJ2 {x:Str}(h:x∈words):∃v,tbU.lookup x=some v/\scV (zk8 x)=some v:=by
 simp only[words,zX0,zY3,z07] at h;rcases h with rfl|rfl|rfl|rfl|rfl|rfl|rfl
 ·exact⟨.non,by decide +kernel,by decide +kernel⟩
 ·exact⟨.bl true,by decide +kernel,by decide +kernel⟩
 ·exact⟨.bl true,by decide +kernel,by decide +kernel⟩
 ·exact⟨.int 1,by decide +kernel,by decide +kernel⟩
 ·exact⟨.int 14,by decide +kernel,by decide +kernel⟩
 ·exact⟨.non,by decide +kernel,by decide +kernel⟩
 ·exact⟨.int 0,by decide +kernel,by decide +kernel⟩
noncomputable def zx6 (w:Str)(day:Int):PyData->Bool
 |.tuple [.str x,.int a,.int b,_]=>decide (x=w)&&(decide (a<=day)&&decide (day<=b))
 |_=>false
noncomputable def fk :PyData->PyData
 |.tuple [_,_,_,v]=>v
 |_=>.none
noncomputable def zq (ds:List PyData)(w:Str)(day:Int):PyData:=match ds.reverse.find? (zx6 w day) with
 |some d=>fk d
 |none=>zk8 w
theorem rM {p:PyData->Bool}{e:PyData}:∀{l:List PyData} {i:Nat},(∀j<i,∀d,l[j]?=some d->p d=false)->l[i]?=some e->p e=true->l.find? p=some e
 |[],i,_,h,_=>by simp at h
 |d::l,0,_,h,q=>by
  simp at h;subst h;simp[z41,q]
 |d::l,i+1,a,h,q=>by
  have hd:=a 0 (Nat.succ_pos _) d rfl;rw[z41,hd];exact rM (i:=i) (fun j hj x hx=>a (j+1) (Nat.succ_lt_succ hj) x (by simpa using hx)) (by simpa using h) q
theorem zx2 {p:PyData->Bool}{l:List PyData}(h:∀(j:Nat) d,l[j]?=some d->p d=false):l.find? p=none:=by
 rw[List.find?_eq_none];intro x hx;obtain⟨j,hj⟩:=List.mem_iff_getElem?.mp hx;rw[h j x hj];simp
theorem qP {d:PyData}(h:xA d=true):∃(s:Str) (i j:Int) (v:PyData),s∈words/\d=.tuple [.str s,.int i,.int j,v]/\0<=i/\i<=j/\j<=1000000/\zF (.str s) v=true:=by
 obtain⟨s,a,b,v,hs,rfl⟩:=wx h;have h':(yD (.tuple [a,b])&&zF (.str s) v)=true:=h;rw[zY7] at h';have h1:=h'.1;unfold yD pA at h1;split at h1
 ·rename_i k e;split at e
  ·rename_i z;cases z;split at e
   ·rename_i q;cases e;rw[zY7] at q;rename_i a' b';have qa:(decide (0<=a')&&decide (a'<=1000000))=true:=q.1;have qb:(decide (0<=b')&&decide (b'<=1000000))=true:=q.2;rw[zY7,zZ5,zZ5] at qa qb;have h2:=z21 h1;exact⟨s,a',b',v,hs,rfl,qa.1,by omega,qb.2,h'.2⟩
   ·cases e
  ·cases e
 ·cases h1
theorem eM (a b v:PyData):pE [(.str "first",a),(.str "last",b),(.str "worth",v)] "worth"=some v:=by
 show (if ("worth":Str)="first" then _ else _)=_;rw[if_neg aB];show (if ("worth":Str)="last" then _ else _)=_;rw[if_neg aH];show (if ("worth":Str)="worth" then _ else _)=_;rw[if_pos rfl]
def nu :List A->(A->Prop)->Prop:=fun as Q=>∃x,as=[.dat (.str x)]/\x∈words/\Q (.dat (zk8 x))
def jm (C:Addr)(w:Str):List A->(A->Prop)->Prop:=fun as Q=>∃a b v,as=[.dat (oh C a b v)]/\Q (.dat (.str w))
def qf (C:Addr):List A->(A->Prop)->Prop:=fun as Q=>∃(a b day:Int) (v:PyData),as=[.dat (oh C (.int a) (.int b) v),.dat (.int day)]/\Q (.dat (.bool (decide (a<=day)&&decide (day<=b))))
def tO (C:Addr)(cs:Cs):List A->(A->Prop)->Prop:=fun as Q=>∃ds x day,as=[.dat (yK C cs ds),.dat (.str x),.dat (.int day)]/\Rules ds/\x∈words/\Q (.dat (zq ds x day))
section
variable {P:Program}{w:World}{K:PySem.W.Frag}{mg:Str->Option Value}{base:Heap}{cs:Cs}
theorem zU8 :zm ["word"] ["word"] (zb kX):=.o
theorem dR {f dU:Addr}{fd:FuncData}(F:Fun K "usual" "usual" kX f fd)(hm:mg "usual"=some (.ref f))(hb:Binds K fd ["word"] [])(mU:mg "USUAL"=some (.ref dU))(DU:gY K w dU tbU):Cal P w K mg base "usual" 1 nu:=by
 refine yM F hm hb zU8 (fun as Q h=>?_) (fun cdv A' outer s H E as Q hr h=>?_)
 ·obtain⟨x,rfl,_⟩:=h;rfl
 ·obtain⟨x,rfl,hx,q⟩:=h;obtain⟨v,h1,h2⟩:=zJ2 hx;exact wF (bY (by rfl) mU DU (zf 0 rfl ⟨x,zk8 x,v,rfl,h1,h2,q⟩))
theorem xB {C f fIn fT fE:Addr}{fd:FuncData}{wd:Str}(R:vq K C fIn fT fE f)(hb:Binds K fd ["self"] [])(G:zE P w K mg base CX0 1 f fd ["self"] (vR wd)):sX P w K mg base C "word" 1 (jm C wd):=by
 refine⟨f,fd,_,R.cl,R.word,hb,G.imp fun vs H Q E h=>?_⟩;obtain⟨F,as,Q',rfl,t,o,rv,⟨a,b,v,rfl,q⟩,kk⟩:=h;obtain⟨x,rfl,av⟩:=rv.one;obtain⟨p,dx,fs,rfl,h1,h2⟩:=av.ins_inv;exact⟨p,rfl,kk _ _ _ q ⟨t,Kz.refl,.str _⟩⟩
theorem yS {C f fIn fT fWd:Addr}{fd:FuncData}(R:vq K C fIn fT f fWd)(hb:Binds K fd ["self","day"] [])(G:zE P w K mg base CX0 1 f fd ["self","day"] (gh C)):sX P w K mg base C "tells" 1 (qf C):=by
 refine⟨f,fd,_,R.cl,R.tells,hb,G.imp fun vs H Q E h=>?_⟩;obtain⟨F,as,Q',rfl,t,o,rv,⟨a,b,day,v,rfl,q⟩,kk⟩:=h;obtain⟨x,y,rfl,av,ay⟩:=rv.two;cases ay.int_inv;obtain⟨p,dx,fs,rfl,h1,h2⟩:=av.ins_inv;cases h2 with
 |cons g1 h2=>
  cases h2 with
  |cons g2 h2=>
   cases h2 with
   |cons g3 h2=>
    cases h2;cases g1.int_inv;cases g2.int_inv;exact⟨p,dx,a,b,day,_,rfl,by rw[fh];exact (zi h1).2,kk _ _ _ q ⟨t,Kz.refl,.bl _⟩⟩
theorem zQ1 :zm ["self","word","day","rule"] ["self","word","day"] (zb oP):=.o
theorem eG {f C:Addr}{fd:FuncData}(F:Fun K "tells_of" "Book.tells_of" oP f fd)(c:Cls K C)(na:xj K C "kept")(nb:NbT mg)(CU:Cal P w K mg base "usual" 1 nu)(OW:∀u∈words,sX P w K mg base (cs.of u) "word" 1 (jm (cs.of u) u))(OR:∀u∈words,sX P w K mg base (cs.of u) "tells" 1 (qf (cs.of u)))
  (OC:∀u∈words,Cls K (cs.of u)/\xj K (cs.of u) "worth"):zE P w K mg base CX0 2 f fd ["self","word","day"] (spA (tO C cs)):=by
 refine fnA F zQ1 (fun as Q h=>?_) (fun cdv A' outer s H E as Q hr h=>?_)
 ·obtain⟨ds,x,d,rfl,_⟩:=h;rfl
 ·obtain⟨ds,x,day,rfl,rd,hx,q⟩:=h;refine vK (pat:=.one 3) z42 rfl (yb (i:=3) zQ1.nd rfl (Or.inl rfl)) (zC3 (by rfl) nb.reversed (zh8 c na (zf 0 rfl ⟨_,_,rfl,rfl,⟨_,rfl,?_⟩⟩)));refine zN (fun i α=>(∃v3,α=[some (.dat (yK C cs ds)),some (.dat (.str x)),some (.dat (.int day)),v3])/\∀j<i,∀d,ds.reverse[j]?=some d->zx6 x day d=false) ⟨⟨none,rfl⟩,fun j hj=>absurd hj (Nat.not_lt_zero _)⟩ ?_ ?_
  ·rintro i d α hd ⟨⟨v3,rfl⟩,hno⟩;rw[<-List.map_reverse,zX1,zY0] at hd;obtain⟨e,he,rfl⟩:=hd;have hme:e∈ds:=List.mem_reverse.mp (z27 he);obtain⟨u,a,b,v,hu,rfl,_,_,_,_⟩:=qP (rd e hme).1;refine⟨_,rfl,?_⟩;refine xf (EvW.t (zn8 (fun _ k=>zG1 (zc7 (OW u hu) hr (zf 3 rfl ⟨_,rfl,rfl,_,_,_,rfl,zf 1 rfl ⟨_,_,rfl,rfl,k⟩⟩)))
    (fun hp _ k=>mj (nC (xU (OR u hu) hr (zf 3 rfl ⟨_,rfl,rfl,zh (zf 2 rfl (zv ⟨_,_,_,_,rfl,_,rfl,k⟩))⟩)))) ?_))
   refine yq (fun h=>?_) (fun h=>?_)
   ·refine wF (zh8 (OC u hu).1 (OC u hu).2 (zf 3 rfl ⟨_,_,rfl,eM _ _ _,?_⟩));have e1:ds.reverse.find? (zx6 x day)=some (.tuple [.str u,.int a,.int b,v]):=rM hno he h;unfold zq at q;rw[e1] at q;exact q
   ·refine zu (zu ⟨⟨_,rfl⟩,fun j hj d' hd'=>?_⟩);rcases z85 j i with z|z
    ·exact hno j z d' hd'
    ·have:j=i:=by omega
     subst this;rw[he] at hd';cases hd';exact h
  ·rintro α ⟨⟨v3,rfl⟩,hno⟩;refine wF (yA CU (hr.mono (by decide)) (by rfl) (zh (zf 1 rfl (zv ⟨x,rfl,hx,?_⟩))));have e1:ds.reverse.find? (zx6 x day)=none:=zx2 fun j d hd=>hno j (by
    have:=(zW7.mp hd).1;rw[z55,zW3]
    rwa [z55] at this) d hd
   unfold zq at q;rw[e1] at q;exact q
end
theorem xM (d:PyData):zF (.str "price") d=(isNone d||vY d):=by unfold zF;rw[if_pos (by decide +kernel)]
theorem qW (d:PyData):zF (.str "come") d=isBool d:=by unfold zF;rw[if_neg (by decide +kernel),if_pos (by decide +kernel)]
theorem lQ (d:PyData):zF (.str "go") d=isBool d:=by unfold zF;rw[if_neg (by decide +kernel),if_pos (by decide +kernel)]
theorem sT (d:PyData):zF (.str "least") d=yv 1 14 d:=by unfold zF;rw[if_neg (by decide +kernel),if_neg (by decide +kernel),if_pos (by decide +kernel)]
theorem rH (d:PyData):zF (.str "most") d=yv 1 14 d:=by unfold zF;rw[if_neg (by decide +kernel),if_neg (by decide +kernel),if_pos (by decide +kernel)]
theorem uB (d:PyData):zF (.str "deal") d=(isNone d||uT d):=by unfold zF;rw[if_neg (by decide +kernel),if_neg (by decide +kernel),if_neg (by decide +kernel),if_pos (by decide +kernel)]
theorem oi (d:PyData):zF (.str "fee") d=vY d:=by
 unfold zF;rw[if_neg (by decide +kernel),if_neg (by decide +kernel),if_neg (by decide +kernel),if_neg (by decide +kernel),show eqS (.str "fee") "fee"=true by decide +kernel,z03]
theorem within_int {lo hi i:Int}(h1:lo<=i)(h2:i<=hi):yv lo hi (.int i)=true:=by
 show (decide (lo<=i)&&decide (i<=hi))=true;rw[z02 h1,z02 h2]<;>rfl
theorem aK {i:Int}(h0:-2000000000000<=i)(h1:i<=2000000000000):yn 2000 (.int i):=yn.int (by unfold big;omega) (by unfold big;omega)
def nA :List A->(A->Prop)->Prop:=fun as Q=>as=[.tape]/\∀z:Int,0<=z->z<=1000000000000->Q (.dat (.int z))
def mI :List A->(A->Prop)->Prop:=fun as Q=>∃wd,as=[.tape,.dat (.str wd)]/\wd∈words/\∀d,zF (.str wd) d=true->yn 5000 d->d.depth<=1->Q (.dat d)
theorem zp2 {m f:Int}(h0:2<=m)(h1:m<=14)(h2:1<=f)(h3:f<m):zF (.str "deal") (.tuple [.int m,.int f])=true/\yn 5000 (.tuple [.int m,.int f])/\(PyData.tuple [.int m,.int f]).depth<=1:=by
 have hbig:(1000001:Int)<big:=by decide
 have hneg:-big<(0:Int):=by decide
 refine⟨?_,yn.tuple (n:=2000) (yy.two (yn.int (by omega) (by omega)) (yn.int (by omega) (by omega)) (zY8 _) (zY8 _)) (by show 2*(2000+2)+3<=5000;decide),by simp[PyData.depth,PyData.depthAll]⟩;rw[uB];show (false||(yv 2 14 (.int m)&&yv 1 (m-1) (.int f)))=true;rw[within_int h0 h1,within_int h2 (by omega)];rfl
end K55
set_option compiler.extract_closed false
set_option hygiene false in
local macro_rules
 |`(tactic| exists $f,$a)=>`(tactic| first|refine $f 0 $a ?_|refine $f 1 $a ?_|refine $f 2 $a ?_|refine $f 3 $a ?_|refine $f 4 $a ?_|refine $f 5 $a ?_|refine $f 6 $a ?_|refine $f 7 $a ?_|refine $f 8 $a ?_|refine $f 9 $a ?_|refine $f 10 $a ?_|refine $f 11 $a ?_|refine $f 12 $a ?_|refine $f 13 $a ?_|refine $f 14 $a ?_|refine $f 15 $a ?_|refine $f 16 $a ?_)
 |`(tactic| exists $f)=>`(tactic| with_reducible refine $f ?_)
 |`(tactic| specialize $p)=>`(tactic| with_reducible show $p)
set_option hygiene false in
local macro_rules
 |`(tactic| ext)=>`(tactic| repeat (first
  |((specialize EvD _ _ _ _);first
   |((specialize EvD _ _ (.Name _ _) _);exists zf,rfl)
   |((specialize EvD _ _ (.Constant _ _ _) _);first|exists yc|exists yd|exists zz5|exists oW)
   |((specialize EvD _ _ (.BinOp (.Constant (.int 10) _ _) .Pow (.Constant (.int 6) _ _) _) _);refine bz (r:=1000000) ⟨by decide,by decide,by decide⟩ (by decide) ?_)
   |((specialize EvD _ _ (.BinOp (.Constant (.int 10) _ _) .Pow (.Constant (.int 12) _ _) _) _);refine bz (r:=1000000000000) ⟨by decide,by decide,by decide⟩ (by decide) ?_)
   |exists xG
   |exists oO
   |exists zt0
   |exists zD4
   |exists zi2
   |exists xO
   |((specialize EvD _ _ (.Subscript _ (.Slice _ _ none _) _) _);refine EvL.d (zy9 ?_))
   |((specialize EvD _ _ (.Subscript _ _ _) _);refine vn hr.one (fun _ _=>rfl) ?_)
   |((specialize EvD _ _ (.List _ _) _);refine EvL.d (xP ?_))
   |((specialize EvD _ _ (.Call (.Name "len" _) _ _ _) _);refine nL (by rfl) nb.len ?_)
   |((specialize EvD _ _ (.Call (.Name "list" _) _ _ _) _);refine EvL.d (me (by rfl) nb.list ?_))
   |((specialize EvD _ _ (.Call (.Name "isinstance" _) _ _ _) _);first|refine oH (by rfl) nb.isinstance (by rfl) nb.int boot_int ?_|refine oH (by rfl) nb.isinstance (by rfl) nb.bool boot_bool ?_|refine oH (by rfl) nb.isinstance (by rfl) nb.list boot_list ?_|refine oH (by rfl) nb.isinstance (by rfl) nb.tuple boot_tuple ?_)
   |((specialize EvD _ _ (.Call (.Name "int" _) _ _ _) _);refine zt6 (by rfl) nb.int ?_)
   |((specialize EvD _ _ (.Call (.Name _ _) _ _ _) _);first|refine zo2 (by with_reducible assumption) (by exact⟨rfl,rfl,rfl,rfl,rfl⟩) (hr.mono (by decide)) (by rfl) ?_|refine EvN.d (ze5 (by with_reducible assumption) (by exact⟨rfl,rfl,rfl,rfl,rfl⟩) (hr.mono (by decide)) (by rfl) ?_))
   |((specialize EvD _ _ (.Compare _ [_] _ _) _);first|exists zz6|exists zO2|exists zR7|exists zB2|((specialize EvD _ _ (.Compare _ [.Eq] _ _) _);refine zC4 hr.units ?_)|((specialize EvD _ _ (.Compare _ [.NotEq] _ _) _);refine zJ4 hr.units ?_)|((specialize EvD _ _ (.Compare _ [.In] _ _) _);refine zC8 hr.one ?_))
   |((specialize EvD _ _ (.Compare _ [_,_] _ _) _);first|refine zp6 ?_)
   |((specialize EvD _ _ (.BoolOp _ _ _) _);first|exists zE9|exists zP1|exists aG)
   |exists iI)
  |((specialize EvA _ _ _ _);first
   |exists zv
   |((specialize EvA _ _ (.Name "_law_tape_here" _::_) _);exists yi,rfl)
   |refine zh ?_)
  |((specialize EvT _ _ _ _);first
   |((specialize EvT _ _ (.Compare _ [_] _ _) _);first|exists zy3|exists zy8|exists zj5|exists zS9|exists vO|exists zq8|((specialize EvT _ _ (.Compare _ [.Eq] _ _) _);refine iP hr.units ?_)|((specialize EvT _ _ (.Compare _ [.NotEq] _ _) _);refine zK0 hr.units ?_)|((specialize EvT _ _ (.Compare _ [.In] _ _) _);refine zF8 hr.one ?_)|((specialize EvT _ _ (.Compare _ [.NotIn] _ _) _);refine zp1 hr.one ?_)|((specialize EvT _ _ (.Compare _ [.IsNot] [.Constant (.bool _) _ _] _) _);refine zd5 ?_))
   |exists sD
   |((specialize EvT _ _ (.BoolOp _ _ _) _);exists EvW.t)
   |refine qV ?_)
  |((specialize EvL _ _ _ _);first
   |exists xP
   |((specialize EvL _ _ (.Call (.Name "list" _) _ _ _) _);refine me (by rfl) nb.list ?_)
   |((specialize EvL _ _ (.Call (.Name _ _) _ _ _) _);refine zo3 (by with_reducible assumption) (by exact⟨rfl,rfl,rfl,rfl,rfl⟩) (hr.mono (by decide)) (by rfl) ?_)
   |((specialize EvL _ _ (.Subscript _ (.Slice _ _ none _) _) _);refine zy9 ?_)
   |((specialize EvL _ _ (.BinOp _ .Add _ _) _);refine iN ?_))
  |((specialize EvW _ _ _ _);first
   |exists zc9
   |exists zS6
   |exists mj
   |exists zm6)
  |((specialize EvO _ _ _ _);first
   |exists zr9
   |exists zv9)
  |((specialize js _ _ _);first
   |refine ixk rfl rfl rfl ?_
   |refine mw ?_)
  |((specialize cj _ _ _ _);first
   |refine ink rfl rfl ?_
   |refine inkT rfl rfl ?_)
  |((specialize nZ _ _ _);first
   |exists zx8
   |exists nM
   |exists lg
   |refine eqk rfl rfl rfl rfl ?_)
  |((specialize SvS _ _ _ _);first
   |((specialize SvS _ (List.set _ _ _) _ _);dsimp only[List.set])
   |((specialize SvS _ _ (zA _) _);show SvS _ _ (_::_) _)
   |((specialize SvS _ _ (.Assign [.Name _ _] (.List [] _) _::_) _);exists yV,nd)
   |((specialize SvS _ _ (.Assign [.Name _ _] _ _::_) _);exists zQ,nd)
   |((specialize SvS _ _ (.Expr (.Call (.Attribute _ "append" _) _ _ _) _::_) _);exists yz,rfl)
   |((specialize SvS _ _ (.Return (some (.Name _ _)) _::_) _);exists xr,rfl)
   |exists wF
   |exists xf
   |exists zu
   |((with_reducible refine uQ ?hk ?_);case hk=>first|rfl|decide +kernel)
   |((with_reducible refine ve ?hk ?_);case hk=>first|rfl|decide +kernel))
  |((specialize xI _ _);refine⟨_,rfl,by first|decide|omega,by first|decide|(show _<big;unfold big;omega),fun _ _ _=>?_⟩)
  |((with_reducible refine bN ?hk ?_);case hk=>first|rfl|decide +kernel)
  |((with_reducible refine zj4 ?hk ?_);case hk=>first|rfl|decide +kernel)
  |refine⟨_,_,rfl,rfl,?_⟩
  |refine⟨_,_,_,rfl,rfl,rfl,?_⟩
  |refine⟨_,rfl,zY5 rfl,?_⟩
  |refine⟨_,rfl,rfl,?_⟩
  |refine⟨_,rfl,?_⟩))
namespace K55
open PySem PySem.Spec PyProof.Rows L2
noncomputable abbrev oM :Stmt:=top 69
noncomputable abbrev oT :Stmt:=top 70
section
variable {P:Program}{w:World}{K:PySem.W.Frag}{mg:Str->Option Value}{base:Heap}{cs:Cs}
theorem zS1 :zm ["_law_tape_here"] ["_law_tape_here"] (zb oM):=.o
theorem dn {f:Addr}{fd:FuncData}(F:Fun K "_law_coins" "_law_coins" oM f fd)(hm:mg "_law_coins"=some (.ref f))(hb:Binds K fd ["_law_tape_here"] [])(CD:Cal P w K mg base "_law_draw" 1 xI):Cal P w K mg base "_law_coins" 2 nA:=by
 refine yM F hm hb zS1 (fun as Q h=>?_) (fun cdv A' outer s H E as Q hr h=>?_)
 ·obtain⟨rfl,_⟩:=h;rfl
 ·obtain⟨rfl,q⟩:=h;have nd:=zS1.nd;ext;exact nj rfl (by assumption) (by assumption) ⟨q _ (by omega) (by omega),q _ (by omega) (by omega),q _ (by omega) (by omega),q _ (by omega) (by omega),q _ (by omega) (by omega),trivial⟩
theorem zS7 :zm ["_law_tape_here","_law_word","_law_many"] ["_law_tape_here","_law_word"] (zb oT):=.o
theorem dM {f:Addr}{fd:FuncData}(F:Fun K "_law_worth" "_law_worth" oT f fd)(hm:mg "_law_worth"=some (.ref f))(hb:Binds K fd ["_law_tape_here","_law_word"] [])(CD:Cal P w K mg base "_law_draw" 1 xI)(CC:Cal P w K mg base "_law_coins" 2 nA):Cal P w K mg base "_law_worth" 3 mI:=by
 refine yM F hm hb zS7 (fun as Q h=>?_) (fun cdv A' outer s H E as Q hr h=>?_)
 ·obtain⟨wd,rfl,_⟩:=h;rfl
 ·obtain⟨wd,rfl,hw,q⟩:=h;have nd:=zS7.nd;have qc:∀z:Int,0<=z->z<=1000000000000->vY (.int z)=true:=fun z h0 h1=>within_int h0 h1;have hbig:(1000000000001:Int)<big:=by decide
  have hneg:-big<(0:Int):=by decide
  have nc:∀z:Int,0<=z->z<=1000000000000->yn 5000 (.int z):=fun z h0 h1=>(yn.int (by omega) (by omega)).mono (by decide);have qn:zF (.str wd) .none=true->Q (.dat .none):=fun h=>q _ h (yn.none.mono (by decide)) (zY8 _);have qi:∀z:Int,0<=z->z<=1000000000000->zF (.str wd) (.int z)=true->Q (.dat (.int z)):=fun z a b h=>q _ h (nc z a b) (zY8 _);have qd:∀m f:Int,wd="deal"->2<=m->m<=14->1<=f->f<m->Q (.dat (.tuple [.int m,.int f])):=fun m f e a b c d=>by
   subst e;obtain⟨x,y,z⟩:=zp2 a b c d;exact q _ x y z
  have qp:∀z:Int,0<=z->z<=1000000000000->wd="price"->Q (.dat (.int z)):=fun z a b e=>by
   subst e;exact qi z a b (by rw[xM,qc z a b,Bool.or_true])
  simp only[words,zX0,zY3,z07] at hw;rcases hw with rfl|rfl|rfl|rfl|rfl|rfl|rfl
  ·ext;refine⟨rfl,fun z1 a1 b1=>?_⟩;ext;refine⟨rfl,fun z2 a2 b2=>?_⟩;ext;exact nj rfl (by assumption) (by assumption) ⟨qn (by rw[xM]<;>rfl),qp z1 a1 b1 rfl,qp z2 a2 b2 rfl,trivial⟩
  ·ext;exact q _ (by rw[qW]<;>rfl) ((yn.bool _).mono (by decide)) (zY8 _)
  ·ext;exact q _ (by rw[lQ]<;>rfl) ((yn.bool _).mono (by decide)) (zY8 _)
  ·ext;exact qi _ (by omega) (by omega) (by rw[sT];exact within_int (by omega) (by omega))
  ·ext;exact qi _ (by omega) (by omega) (by rw[rH];exact within_int (by omega) (by omega))
  ·ext;exact nj rfl (by assumption) (by assumption) ⟨qn (by rw[uB]<;>rfl),qd _ _ rfl (by omega) (by omega) (by omega) (by omega),qd _ _ rfl (by omega) (by omega) (by omega) (by omega),qd _ _ rfl (by omega) (by omega) (by omega) (by omega),trivial⟩
  ·ext;refine⟨rfl,fun z1 a1 b1=>?_⟩;exact qi z1 a1 b1 (by rw[oi];exact qc z1 a1 b1)
end
structure rJ (d:PyData):Prop where
 rule:xA d=true
 nice:yn 20011 d
 dep:d.depth<=2
 wn:yn 5000 (fk d)
def yt (ds:List PyData):Prop:=∀d∈ds,rJ d
theorem oe {s:Str}(h:s∈words):yn 2000 (.str s):=by
 simp only[words,zX0,zY3,z07] at h;rcases h with rfl|rfl|rfl|rfl|rfl|rfl|rfl<;>exact⟨rfl,rfl,zY8 _,by decide +kernel,by decide +kernel⟩
theorem rJ.of {s:Str}{i j:Int}{d:PyData}(hs:s∈words)(i0:0<=i)(ij:i<=j)(j1:j<=1000000)(hw:zF (.str s) d=true)(hn:yn 5000 d)(hd:d.depth<=1):rJ (.tuple [.str s,.int i,.int j,d]):=by
 have hbig:(1000001:Int)<big:=by decide
 have hneg:-big<(0:Int):=by decide
 have na:yy 5000 [.str s,.int i,.int j,d]:=by
  constructor
  ·intro x hx;simp only[zX0,zY3,z07] at hx;rcases hx with rfl|rfl|rfl|rfl
   ·exact (oe hs).mono (by decide)
   ·exact (yn.int (by omega) (by omega)).mono (by decide)
   ·exact (yn.int (by omega) (by omega)).mono (by decide)
   ·exact hn
  ·intro x hx;simp only[zX0,zY3,z07] at hx;rcases hx with rfl|rfl|rfl|rfl
   ·exact zY8 _
   ·exact zY8 _
   ·exact zY8 _
   ·omega
 refine⟨?_,yn.tuple na (by show 4*(5000+2)+3<=20011;decide),?_,hn⟩
 ·show (yD (.tuple [.int i,.int j])&&zF (.str s) d)=true;rw[hw,Bool.and_true];unfold yD pA;have h1:(tI (.int i)&&tI (.int j))=true:=by
   show ((decide (0<=i)&&decide (i<=1000000))&&(decide (0<=j)&&decide (j<=1000000)))=true;simp only[zY7,zZ5];omega
  simp only[h1,z88,zZ5];omega
 ·simp only[PyData.depth,PyData.depthAll];omega
theorem yt.rules {ds:List PyData}(h:yt ds):Rules ds:=fun d hd=>⟨(h d hd).rule,(h d hd).nice.shaped,(h d hd).nice.nod⟩
theorem zt2 {ds:List PyData}{lo hi:Option Int}{d:PyData}(h:d∈L2.cutD ds lo hi):d∈ds:=by
 unfold L2.cutD at h;exact List.mem_of_mem_drop (z81 h)
theorem zq7 {ds:List PyData}{lo hi:Option Int}:(L2.cutD ds lo hi).length<=ds.length:=by
 unfold L2.cutD;rw[zZ4,z49];omega
def Bd (bs dy:Int):Prop:=0<=bs/\bs<=999980/\1<=dy/\dy<=14
theorem zl5 {c:Int}(h0:0<=c)(h1:c<=1000000000000):vY (.int c)=true:=within_int h0 h1
def vJ (lo hi:Int)(d:PyData):Prop:=∃(s:Str) (i j:Int) (v:PyData),d=.tuple [.str s,.int i,.int j,v]/\s∈words/\lo<=i/\i<=j/\j<=hi/\zF (.str s) v=true/\yn 5000 v/\v.depth<=1
def yC (lo hi:Int)(ds:List PyData):Prop:=∀d∈ds,vJ lo hi d
theorem vJ.of {lo hi:Int}{s:Str}{i j:Int}{d:PyData}(hs:s∈words)(i0:lo<=i)(ij:i<=j)(j1:j<=hi)(hw:zF (.str s) d=true)(hn:yn 5000 d)(hd:d.depth<=1):vJ lo hi (.tuple [.str s,.int i,.int j,d]):=⟨s,i,j,d,rfl,hs,i0,ij,j1,hw,hn,hd⟩
theorem vJ.ok {lo hi:Int}{d:PyData}(h:vJ lo hi d)(h0:0<=lo)(h1:hi<=1000000):rJ d:=by
 obtain⟨s,i,j,v,rfl,hs,i0,ij,j1,hw,hn,hd⟩:=h;exact rJ.of hs (by omega) ij (by omega) hw hn hd
theorem yC.ok {lo hi:Int}{ds:List PyData}(h:yC lo hi ds)(h0:0<=lo)(h1:hi<=1000000):yt ds:=fun d hd=>(h d hd).ok h0 h1
theorem yC.snoc {lo hi:Int}{ds:List PyData}{d:PyData}(h:yC lo hi ds)(hd:vJ lo hi d):yC lo hi (ds++[d]):=fun x hx=>by
 rcases z20.mp hx with hx|hx
 ·exact h x hx
 ·rw[zX5.mp hx];exact hd
theorem yC.app {lo hi:Int}{ds es:List PyData}(h:yC lo hi ds)(h':yC lo hi es):yC lo hi (ds++es):=fun x hx=>by
 rcases z20.mp hx with hx|hx
 ·exact h x hx
 ·exact h' x hx
theorem yC.nil {lo hi:Int}:yC lo hi []:=fun x hx=>by simp at hx
theorem rL {lo hi i j c:Int}(i0:lo<=i)(ij:i<=j)(j1:j<=hi)(h0:0<=c)(h1:c<=1000000000000):vJ lo hi (.tuple [.str "price",.int i,.int j,.int c]):=
 vJ.of (by simp[words]) i0 ij j1 (by rw[xM,zl5 h0 h1,Bool.or_true]) ((aK (by omega) (by omega)).mono (by decide)) (zY8 _)
theorem jx {lo hi i j:Int}(i0:lo<=i)(ij:i<=j)(j1:j<=hi):vJ lo hi (.tuple [.str "price",.int i,.int j,.none]):=
 vJ.of (by simp[words]) i0 ij j1 (by rw[xM]<;>rfl) (yn.none.mono (by decide)) (zY8 _)
def BdW (bs dy:Int):Prop:=0<=bs/\bs<=1000000/\1<=dy/\dy<=20
noncomputable abbrev nH :Stmt:=top 71
noncomputable abbrev mf :Stmt:=top 72
noncomputable abbrev nk :Stmt:=top 73
def vN :List A->(A->Prop)->Prop:=fun as Q=>∃bs dy:Int,as=[.tape,.dat (.int bs),.dat (.int dy)]/\BdW bs dy/\∀ds,yC bs (bs+dy+5) ds->ds.length<=5->Q (.own ds)
def rF :List A->(A->Prop)->Prop:=fun as Q=>∃bs dy:Int,as=[.tape,.dat (.int bs),.dat (.int dy)]/\BdW bs dy/\∀ds,yC bs (bs+dy+5) ds->ds.length<=10->Q (.dat (.list ds))
section
variable {P:Program}{w:World}{K:PySem.W.Frag}{mg:Str->Option Value}{base:Heap}
theorem zk7 :zm ["_law_tape_here","_law_base","_law_days","_law_found","_law_k","_law_first","_law_worth_here"] ["_law_tape_here","_law_base","_law_days"] (zb nH):=.o
theorem iH {f:Addr}{fd:FuncData}(F:Fun K "_law_price_rules" "_law_price_rules" nH f fd)(hm:mg "_law_price_rules"=some (.ref f))(hb:Binds K fd ["_law_tape_here","_law_base","_law_days"] [])(nb:NbT mg)(CD:Cal P w K mg base "_law_draw" 1 xI)(CC:Cal P w K mg base "_law_coins" 2 nA):Cal P w K mg base "_law_price_rules" 3 vN:=by
 refine yM F hm hb zk7 (fun as Q h=>?_) (fun cdv A' outer s H E as Q hr h=>?_)
 ·obtain⟨bs,dy,rfl,_⟩:=h;rfl
 ·obtain⟨bs,dy,rfl,⟨b1,b2,b3,b4⟩,q⟩:=h;have hbig:(1000001:Int)<big:=by decide
  refine yV 3 zk7.nd (xP (zh (xO (zh (yd (zh (zf 1 rfl (zh (xG (zf 1 rfl (zf 2 rfl (⟨_,_,rfl,rfl,zh (yA CC hr (by rfl) (yi 0 rfl (zv (⟨rfl,fun c1 p1 q1=>zv (⟨_,rfl,zY5 rfl,zv (⟨_,rfl,zY5 rfl,?_⟩)⟩)⟩))))⟩))))))))))));refine vK (pat:=.one 4) z42 rfl (yb (i:=4) zk7.nd rfl (by first|exact Or.inl rfl|exact Or.inr rfl)) (xF (by rfl) nb.range (yA CD (hr.mono (by decide)) (by rfl) (yi 0 rfl (zh (yc (zv (⟨_,rfl,by decide,by decide,fun v2 h2 g2=>⟨_,rfl,by omega,by omega,?_⟩⟩)))))));refine zN (fun i α=>∃v4 v5 v6 ds,α=[some .tape,some (.dat (.int bs)),some (.dat (.int dy)),some (.own ds),v4,v5,v6]/\yC bs (bs+dy+5) ds/\ds.length<=1+i) ⟨none,none,none,_,rfl,yC.nil.snoc (rL (by omega) (by omega) (by omega) p1 q1),zW9 _⟩ ?_ ?_
  ·rintro i d α hd ⟨v4,v5,v6,ds,rfl,ro,ld⟩;have hi:i<4:=by
    have:=(zW7.mp hd).1;rw[zW3,zc] at this;omega
   refine⟨_,rfl,?_⟩;refine zQ 5 zk7.nd (xG (zf 1 rfl (yA CD (hr.mono (by decide)) (by rfl) (yi 0 rfl (zh (zf 2 rfl (zv (⟨_,rfl,by omega,by omega,fun v3 h3 g3=>⟨_,_,rfl,rfl,?_⟩⟩))))))));refine zQ 6 zk7.nd (EvD.imp (Q':=fun d=>d=.none\/∃c:Int,d=.int c/\0<=c/\c<=1000000000000) (jc (fun _ _=>rfl) (EvL.d (xP (zh (oW (zh (yA CC hr (by rfl) (yi 0 rfl (zv (⟨rfl,fun c7 p7 q7=>zh (yA CC hr (by rfl) (yi 0 rfl (zv (⟨rfl,fun c6 p6 q6=>zh (yA CC hr (by rfl) (yi 0 rfl (zv (⟨rfl,fun c5 p5 q5=>zv (⟨_,rfl,zY5 rfl,yA CD (hr.mono (by decide)) (by rfl) (yi 0 rfl (zh (yc (zv (⟨_,rfl,by decide,by decide,fun v4 h4 g4=>?pick⟩)))))⟩)⟩))))⟩))))⟩)))))))))) ?_)
   case pick=>
    obtain⟨z,hz,e⟩:=mO (ds:=[PyData.none,.int c7,.int c6,.int c5]) h4 g4;refine⟨_,_,z,rfl,rfl,e,?_⟩;simp only[zX0,zY3,z07] at hz;rcases hz with rfl|rfl|rfl|rfl
    ·exact .inl rfl
    ·exact .inr ⟨_,rfl,p7,q7⟩
    ·exact .inr ⟨_,rfl,p6,q6⟩
    ·exact .inr ⟨_,rfl,p5,q5⟩
   intro d6 hd6;refine yz 3 rfl (xO (zh (yd (zh (zf 5 rfl (zh (xG (zf 5 rfl (yA CD (hr.mono (by decide)) (by rfl) (yi 0 rfl (zh (yc (zv (⟨_,rfl,by decide,by decide,fun v8 h8 g8=>⟨_,_,rfl,rfl,zh (zf 6 rfl (zv (⟨_,rfl,zY5 rfl,⟨by omega,?_⟩⟩)))⟩⟩))))))))))))));refine zu ⟨some (.dat d),some (.dat (.int (bs+v3))),some (.dat d6),ds++[.tuple [.str "price",.int (bs+v3),.int (bs+v3+v8),d6]],rfl,ro.snoc ?_,by rw[zY6,z46];omega⟩;rcases hd6 with rfl|⟨c,rfl,c0,c1⟩
   ·exact jx (by omega) (by omega) (by omega)
   ·exact rL (by omega) (by omega) (by omega) c0 c1
  ·rintro α ⟨v4,v5,v6,ds,rfl,ro,ld⟩;rw[zW3,zc] at ld;exact xr 3 rfl (q ds ro (by omega))
theorem zd1 :zm ["_law_tape_here","_law_base","_law_days","_law_found","_law_k","_law_word","_law_first"] ["_law_tape_here","_law_base","_law_days"] (zb mf):=.o
theorem iq {f:Addr}{fd:FuncData}(F:Fun K "_law_other_rules" "_law_other_rules" mf f fd)(hm:mg "_law_other_rules"=some (.ref f))(hb:Binds K fd ["_law_tape_here","_law_base","_law_days"] [])(nb:NbT mg)(CD:Cal P w K mg base "_law_draw" 1 xI)(CW:Cal P w K mg base "_law_worth" 3 mI):Cal P w K mg base "_law_other_rules" 4 vN:=by
 refine yM F hm hb zd1 (fun as Q h=>?_) (fun cdv A' outer s H E as Q hr h=>?_)
 ·obtain⟨bs,dy,rfl,_⟩:=h;rfl
 ·obtain⟨bs,dy,rfl,⟨b1,b2,b3,b4⟩,q⟩:=h;have hbig:(1000001:Int)<big:=by decide
  refine yV 3 zd1.nd (xP (zv (⟨_,rfl,zY5 rfl,?_⟩)));refine vK (pat:=.one 4) z42 rfl (yb (i:=4) zd1.nd rfl (by first|exact Or.inl rfl|exact Or.inr rfl)) (xF (by rfl) nb.range (yA CD (hr.mono (by decide)) (by rfl) (yi 0 rfl (zh (yc (zv (⟨_,rfl,by decide,by decide,fun v1 h1 g1=>⟨_,rfl,by omega,by omega,?_⟩⟩)))))));refine zN (fun i α=>∃v4 v5 v6 ds,α=[some .tape,some (.dat (.int bs)),some (.dat (.int dy)),some (.own ds),v4,v5,v6]/\yC bs (bs+dy+5) ds/\ds.length<=i) ⟨none,none,none,_,rfl,yC.nil,zW9 _⟩ ?_ ?_
  ·rintro i d α hd ⟨v4,v5,v6,ds,rfl,ro,ld⟩;have hi:i<5:=by
    have:=(zW7.mp hd).1;rw[zW3,zc] at this;omega
   refine⟨_,rfl,?_⟩;refine zQ 5 zd1.nd (EvD.imp (Q':=fun d=>∃x,d=.str x/\x∈words) (jc (fun _ _=>rfl) (EvL.d (xP (zh (yd (zh (yd (zh (yd (zh (yd (zh (yd (zh (yd (zv (⟨_,rfl,zY5 rfl,yA CD (hr.mono (by decide)) (by rfl) (yi 0 rfl (zh (yc (zv (⟨_,rfl,by decide,by decide,fun v2 h2 g2=>?pick⟩)))))⟩))))))))))))))))) ?_)
   case pick=>
    obtain⟨z,hz,e⟩:=mO (ds:=[PyData.str "come",.str "go",.str "least",.str "most",.str "deal",.str "fee"]) h2 g2;refine⟨_,_,z,rfl,rfl,e,?_⟩;simp only[zX0,zY3,z07] at hz;rcases hz with rfl|rfl|rfl|rfl|rfl|rfl<;>exact⟨_,rfl,by simp[words]⟩
   rintro _ ⟨wd,rfl,hw⟩;refine zQ 6 zd1.nd (xG (zf 1 rfl (yA CD (hr.mono (by decide)) (by rfl) (yi 0 rfl (zh (zf 2 rfl (zv (⟨_,rfl,by omega,by omega,fun v3 h3 g3=>⟨_,_,rfl,rfl,?_⟩⟩))))))));refine yz 3 rfl (xO (zh (zf 5 rfl (zh (zf 6 rfl (zh (xG (zf 6 rfl (yA CD (hr.mono (by decide)) (by rfl) (yi 0 rfl (zh (yc (zv (⟨_,rfl,by decide,by decide,fun v5 h5 g5=>⟨_,_,rfl,rfl,zh (yA CW hr (by rfl) (yi 0 rfl (zh (zf 5 rfl (zv (⟨_,rfl,hw,fun d4 a4 b4 c4=>zv (⟨_,rfl,zY5 rfl,⟨by omega,?_⟩⟩)⟩))))))⟩⟩))))))))))))));exact zu ⟨some (.dat d),some (.dat (.str wd)),some (.dat (.int (bs+v3))),ds++[.tuple [.str wd,.int (bs+v3),.int (bs+v3+v5),d4]],rfl,ro.snoc (vJ.of hw (by omega) (by omega) (by omega) a4 b4 c4),by rw[zY6,z46];omega⟩
  ·rintro α ⟨v4,v5,v6,ds,rfl,ro,ld⟩;rw[zW3,zc] at ld;exact xr 3 rfl (q ds ro (by omega))
theorem zC5 :zm ["_law_tape_here","_law_base","_law_days","_law_ones","_law_others"] ["_law_tape_here","_law_base","_law_days"] (zb nk):=.o
theorem iF {f:Addr}{fd:FuncData}(F:Fun K "_law_rules" "_law_rules" nk f fd)(hm:mg "_law_rules"=some (.ref f))(hb:Binds K fd ["_law_tape_here","_law_base","_law_days"] [])(CD:Cal P w K mg base "_law_draw" 1 xI)(CP:Cal P w K mg base "_law_price_rules" 3 vN)(CO:Cal P w K mg base "_law_other_rules" 4 vN):Cal P w K mg base "_law_rules" 5 rF:=by
 refine yM F hm hb zC5 (fun as Q h=>?_) (fun cdv A' outer s H E as Q hr h=>?_)
 ·obtain⟨bs,dy,rfl,_⟩:=h;rfl
 ·obtain⟨bs,dy,rfl,bd,q⟩:=h;refine zQ 3 zC5.nd (EvL.d (wI CP (hr.mono (by decide)) (by rfl) (yi 0 rfl (zh (zf 1 rfl (zh (zf 2 rfl (zv (⟨_,_,rfl,bd,fun ds1 r1 l1=>⟨_,rfl,?_⟩⟩)))))))));refine zQ 4 zC5.nd (EvL.d (wI CO hr (by rfl) (yi 0 rfl (zh (zf 1 rfl (zh (zf 2 rfl (zv (⟨_,_,rfl,bd,fun ds2 r2 l2=>⟨_,rfl,?_⟩⟩)))))))));refine wF (jc (fun _ _=>rfl) (EvL.d (xP (zh (EvL.d (iN (zf 3 rfl (zf 4 rfl (⟨_,_,rfl,rfl,by omega,zh (EvL.d (iN (zf 4 rfl (zf 3 rfl (⟨_,_,rfl,rfl,by omega,zv (⟨_,rfl,zY5 rfl,yA CD (hr.mono (by decide)) (by rfl) (yi 0 rfl (zh (yc (zv (⟨_,rfl,by decide,by decide,fun v3 h3 g3=>?_⟩)))))⟩)⟩)))))⟩)))))))));obtain⟨z,hz,e⟩:=mO (ds:=[PyData.list (ds1++ds2),.list (ds2++ds1)]) h3 g3;refine⟨_,_,z,rfl,rfl,e,?_⟩;simp only[zX0,zY3,z07] at hz;rcases hz with rfl|rfl
  ·exact q _ (r1.app r2) (by rw[zY6];omega)
  ·exact q _ (r2.app r1) (by rw[zY6];omega)
def zi5 :List A->(A->Prop)->Prop:=fun as Q=>∃bs dy:Int,as=[.tape,.dat (.int bs),.dat (.int dy)]/\Bd bs dy/\∀ds,yt ds->ds.length<=5->Q (.own ds)
def ao :List A->(A->Prop)->Prop:=fun as Q=>∃bs dy:Int,as=[.tape,.dat (.int bs),.dat (.int dy)]/\Bd bs dy/\∀ds,yt ds->ds.length<=10->Q (.dat (.list ds))
theorem zK5 {x:Str}{k:Nat}(C:Cal P w K mg base x k vN):Cal P w K mg base x k zi5:=C.imp fun as Q h=>by
 obtain⟨bs,dy,rfl,⟨b1,b2,b3,b4⟩,q⟩:=h;exact⟨bs,dy,rfl,⟨b1,by omega,b3,by omega⟩,fun ds rw l=>q ds (rw.ok (by omega) (by omega)) l⟩
theorem cF {x:Str}{k:Nat}(C:Cal P w K mg base x k rF):Cal P w K mg base x k ao:=C.imp fun as Q h=>by
 obtain⟨bs,dy,rfl,⟨b1,b2,b3,b4⟩,q⟩:=h;exact⟨bs,dy,rfl,⟨b1,by omega,b3,by omega⟩,fun ds rw l=>q ds (rw.ok (by omega) (by omega)) l⟩
end
noncomputable abbrev ma :Stmt:=top 9
def qo :List A->(A->Prop)->Prop:=fun as Q=>∃c g:Int,as=[.dat (.tuple [.int c,.int g])]/\-100<=c/\c<g/\g<=c+500/\c<=1000100/\Q (.own ((zp c (g-c).toNat).map .int))
section
variable {P:Program}{w:World}{K:PySem.W.Frag}{mg:Str->Option Value}{base:Heap}{cs:Cs}
theorem zV2 :zm ["stay"] ["stay"] (zb ma):=.o
theorem jz {f:Addr}{fd:FuncData}(F:Fun K "nights_of" "nights_of" ma f fd)(hm:mg "nights_of"=some (.ref f))(hb:Binds K fd ["stay"] [])(nb:NbT mg):Cal P w K mg base "nights_of" 1 qo:=by
 refine yM F hm hb zV2 (fun as Q h=>?_) (fun cdv A' outer s H E as Q hr h=>?_)
 ·obtain⟨c,g,rfl,_⟩:=h;rfl
 ·obtain⟨c,g,rfl,h1,h2,h3,h4,q⟩:=h;exact tN (aY rfl (by rfl) nb.list (by rfl) nb.range (wG (fun _ _=>rfl) (zf 0 rfl (yc (⟨_,_,_,rfl,rfl,rfl,wG (fun _ _=>rfl) (zf 0 rfl (yc (⟨_,_,_,rfl,rfl,rfl,⟨_,_,rfl,rfl,⟨by omega,by omega,by omega,by omega⟩,by omega,q⟩⟩)))⟩)))))
end
noncomputable abbrev xi :Stmt:=top 17
noncomputable def pH :Arguments×Scope:=match zA xi with
 |[.Return (some (.Call _ _ [⟨_,.Lambda ps _ sc _,_⟩] _)) _]=>(ps,sc)
 |_=>(zV xi,zb xi)
section
variable {P:Program}{w:World}{K:PySem.W.Frag}{mg:Str->Option Value}{base:Heap}
theorem zv8 :zm ["prices","places"] ["prices","places"] (zb xi):=.o
theorem zR6 :wV "place" "prices" pH.1 pH.2:=⟨rfl,rfl,rfl,rfl,rfl,by decide +kernel,by decide +kernel,by decide⟩
theorem zG4 {f c:Addr}{A':Around}{outer:List Env}{s:Shared}{H:Hp}{E:XK}{n1:Nat}{p1 p2 p3 p4 p5 p6:Pos}(hhd:PySem.W.codeHdIn K c yL=true)(KX:K.In base)(hbi:base.BuiltinsAt mg yL):
  zk4 (uu CX0 P w K mg base ["prices","places"] "cheapest_first" (zb xi) f (.ref c) A' outer s H E).nox c "place" "prices" n1 p1 p2 p3 p4 p5 p6 pH.1 pH.2 where
 S:=zR6
 hy:=rfl
 hcl:=fun cl h=>by
  have e:pH.2.names=[(("prices":Str),NameKind.free),(("place":Str),NameKind.local)]\/pH.2.names=[(("place":Str),NameKind.local),(("prices":Str),NameKind.free)]:=by decide +kernel
  unfold closureFor;rcases e with e|e<;>rw[e]<;>simp[cellOf,h]
 hgl:=rfl
 hco:=rfl
 hhd:=PySem.W.codeHd_of_K KX hhd
 hbi:=hbi
 hdf:=rfl
 hq:=rfl
 hne:=by decide
 hb:=fun u cl c' pm ctv=>rfl
 hdx:=by decide
 hdy:=by decide
 hcx:=by decide
 hcy:=by decide
def oJ :List A->(A->Prop)->Prop:=fun as Q=>∃ns zs:List Int,as=[.dat (.list (zs.map .int)),.dat (.list (ns.map .int))]/\ns.length<64/\(∀n∈ns,0<=n/\n<zs.length)/\∀ms,rR ns zs ms->Q (.own (ms.map .int))
theorem cS {f c:Addr}{oc:Value}{od an:Option Addr}{osl:Array (Option Value)}{kV doc pm ct:Value}(lk:K.lookup f=some ⟨oc,od,.func (PySem.W.fnOf "cheapest_first" "cheapest_first" (zV xi) (zA xi) (zb xi) .none kV doc pm an (.ref c) ct),osl⟩)(hcd:PySem.W.codeIn K (.ref c) "cheapest_first"=true)(kp:PySem.W.keepIn K (.ref f)=true)
  (hm:mg "cheapest_first"=some (.ref f)) (hb:Binds K (PySem.W.fnOf "cheapest_first" "cheapest_first" (zV xi) (zA xi) (zb xi) .none kV doc pm an (.ref c) ct) ["prices","places"] []) (nb:NbT mg) (hhd:PySem.W.codeHdIn K c yL=true) (KX:K.In base) (hbi:base.BuiltinsAt mg yL):Cal P w K mg base "cheapest_first" 3 oJ:=by
 refine⟨f,_,_,hm,kp,hb,zU9 lk hcd zv8 (fun as Q h=>by obtain⟨ns,zs,rfl,_⟩:=h;rfl) fun A' outer s H E as Q hr h=>?_⟩;obtain⟨ns,zs,rfl,h64,hin,q⟩:=h;exact tN (jN (j:=0) (k:=0) (zG4 hhd KX hbi) hr (by rfl) nb.sorted rfl (zf 1 rfl ⟨ns,zs,rfl,rfl,h64,hin,fun ms sm=>q ms sm⟩))
end
noncomputable abbrev uk :Stmt:=top 18
noncomputable def zP6 :Scope:=match zA uk with
 |.Assign _ (.ListComp _ _ sc _) _::_=>sc
 |_=>zb uk
def qX :List A->(A->Prop)->Prop:=fun as Q=>∃(zs:List Int) (d:PyData),as=[.dat (.list (zs.map .int)),.dat d]/\zs.length<=500/\
 ((d=.none/\Q (.own ((List.replicate zs.length false).map .bool)))\/∃many free:Nat,d=.tuple [.int many,.int free]/\0<many/\many<64/\∀bs,uH zs many free zs.length bs->Q (.own (bs.map .bool)))
theorem dI (ns:List Int):ur (ns.map .int)=true:=by
 induction ns with
 |nil=>rfl
 |cons n ns ih=>rw[zY2,ur,ih];rfl
section
variable {P:Program}{w:World}{K:PySem.W.Frag}{mg:Str->Option Value}{base:Heap}
theorem ip :zm ["prices","deal","marks","bundle","place","rank","other"] ["prices","deal"] (zb uk):=.o
theorem zL8 :zY ["prices","deal","marks","bundle","place","rank","other"] (zb uk) ["price"] [none] zP6:=⟨rfl,by decide +kernel,by decide +kernel,by decide +kernel,by decide +kernel,rfl,by decide +kernel⟩
theorem jD {f:Addr}{fd:FuncData}(F:Fun K "marked" "marked" uk f fd)(hm:mg "marked"=some (.ref f))(hb:Binds K fd ["prices","deal"] [])(nb:NbT mg)(CC:Cal P w K mg base "cheapest_first" 3 oJ):Cal P w K mg base "marked" 4 qX:=by
 refine yM F hm hb ip (fun as Q h=>?_) (fun cdv A' outer s H E as Q hr h=>?_)
 ·obtain⟨zs,d,rfl,_⟩:=h;rfl
 ·obtain⟨zs,d,rfl,hlen,h⟩:=h;refine ze4 2 (pat:=.one 0) ip.nd rfl zL8 rfl (fun _ _ _ _=>yb (i:=0) zL8.nd rfl (Or.inl rfl)) (yX (zf 0 rfl ⟨_,rfl,?_,?comp⟩))
  ·rw[zW3];omega
  refine uE (fun _=>true) (fun _=>.bool false) (fun d hd=>⟨_,rfl,fun _ _ _ _ _ k=>aD k,fun _ _ _ _ _ _ k=>zz5 k⟩) ?_;have e0:([]:List PyData)++List.map (fun _=>PyData.bool false) (List.filter (fun _=>true) (List.map PyData.int zs))=(List.replicate zs.length false).map .bool:=by
   rw[z08,zc6,zZ6,List.map_replicate];exact List.eq_replicate_iff.mpr ⟨by simp,by simp⟩
  rw[e0];rcases h with ⟨rfl,q⟩|⟨many,free,rfl,hp,hm64,q⟩
  ·refine xf (vO (zf 1 rfl ?_));exact xr 2 rfl q
  refine xf (vO (zf 1 rfl (zu ?_)));refine yV 3 ip.nd (xP (zv ⟨_,rfl,zY8 _,?_⟩));refine vK (pat:=.one 4) z42 rfl (yb (i:=4) ip.nd rfl (Or.inl rfl)) (xF (by rfl) nb.range (nL (by rfl) nb.len (zf 0 rfl ⟨_,rfl,⟨_,rfl,by omega,by rw[zW3];omega,?_⟩⟩)));refine zN (fun i α=>∃(bs:List Bool) (o4 o5 o6:Option A),uH zs many free i bs/\α=[some (.dat (.list (zs.map .int))),some (.dat (.tuple [.int many,.int free])),some (.own (bs.map .bool)),some (.own ((zp ((i / many*many:Nat):Int) (i % many)).map .int)),o4,o5,o6]) ?_ ?_ ?_
  ·refine⟨_,none,none,none,dX zs free,?_⟩;rw[Nat.zero_mod,Nat.zero_div];rfl
  ·rintro i d α hd ⟨bs,o4,o5,o6,mk,rfl⟩;have hi:i<zs.length:=by
    have:=(zW7.mp hd).1;simpa[zc] using this
   obtain rfl:d=.int (i:Int):=by
    rw[zX1,zK (by simpa using hi)] at hd;simpa using hd.symm
   refine⟨_,rfl,?_⟩;have hmod:=Nat.mod_lt i hp;refine yz 3 rfl (zf 4 rfl ⟨by rw[zW3,zc];omega,?_⟩);have eb:List.map PyData.int (zp ((i / many*many:Nat):Int) (i % many))++[PyData.int (i:Int)]=(zp ((i / many*many:Nat):Int) (i % many+1)).map .int:=by
    have e:=ya7 i many;have e4:i / many*many=many*(i / many):=Nat.mul_comm _ _;rw[kh,zZ9]
    congr 1
    simp only[zY2,yb4]
    congr 2
    omega
   rw[eb];refine xf (fG 3 rfl (zK3 (nL (by rfl) nb.len (zf 3 rfl ⟨_,rfl,wG (fun _ _=>rfl) (zf 1 rfl (yc ⟨_,_,_,rfl,rfl,at0,_,_,rfl,rfl,?_⟩))⟩))));refine zm4 (fun hc=>?_) (fun hc=>zu ?_)
   ·have hfull:i % many+1=many:=by
     rw[zW3,zc] at hc;omega
    rw[hfull];have hin:∀n∈zp ((i / many*many:Nat):Int) many,0<=n/\n<zs.length:=fun n hn=>by
     rw[yO] at hn;have e:=ya7 i many;have e4:i / many*many=many*(i / many):=Nat.mul_comm _ _;omega
    refine vK (pat:=.many [5,6]) z42 rfl (vP (n:=2) (K:=K) rfl rfl (wj (yb (i:=5) ip.nd rfl (Or.inl rfl)) (wj (yb (i:=6) ip.nd rfl (Or.inl rfl)) (tH))))
     (oZ (by rfl) nb.enumerate (EvL.d (hG 3 rfl (wI CC hr (by rfl) (zh (zf 0 rfl (zh (zf 3 rfl (zv ⟨_,zs,rfl,by rw[zc];exact hm64,hin,fun ms sm=>⟨_,rfl,dI ms,_,rfl,?_⟩⟩)))))))))
    have hml:ms.length=many:=by rw[sm.1.length_eq,zc]
    refine zN (fun r α=>∃(bs':List Bool) (p5 p6:Option A),(bs'.length=bs.length/\(∀q,q<r->bs'.getD (ms.getD q 0).toNat false=decide (q<free))/\∀j,(∀q,q<r->(ms.getD q 0).toNat≠j)->bs'.getD j false=bs.getD j false)/\
     α=[some (.dat (.list (zs.map .int))),some (.dat (.tuple [.int many,.int free])),some (.own (bs'.map .bool)),some (.own ((zp ((i / many*many:Nat):Int) many).map .int)),some (.dat (.int i)),p5,p6]) ?_ ?_ ?_
    ·exact⟨bs,o5,o6,⟨rfl,fun q h=>absurd h (Nat.not_lt_zero _),fun _ _=>rfl⟩,rfl⟩
    ·rintro r d α hd ⟨bs',p5,p6,⟨f0,f1,f2⟩,rfl⟩;obtain⟨e,he,rfl⟩:=wK hd;have hr':r<ms.length:=by
      have:=(zW7.mp he).1;simpa using this
     obtain rfl:e=.int (ms.getD r 0):=by
      rw[zX1,zW6 hr'] at he;rw[zW8,zW6 hr'];simpa using he.symm
     refine⟨_,rfl,?_⟩;have hmem:=ug sm (q:=r) (by omega);have hub:=hin (ms.getD r 0) (yO.mpr hmem);obtain⟨j,hj⟩:=z50 hub.1;rw[hj];have jl:j<bs'.length:=by rw[f0,mk.1];omega
     refine zf3 2 rfl (zz6 (zf 5 rfl (wG (fun _ _=>rfl) (zf 1 rfl (yc ⟨_,_,_,rfl,rfl,yH (j:=1) rfl,_,_,rfl,rfl,zf 6 rfl ⟨_,j,rfl,?_,zu ?_⟩⟩)))))
     ·unfold ixN;rw[if_pos (by omega),if_pos (by rw[zW3];omega)];simp
     ·refine⟨bs'.set j (decide (r<free)),some (.dat (.int ((0+r:Nat):Int))),some (.dat (.int (j:Int))),⟨?_,fun q hq=>?_,fun l hl=>?_⟩,?_⟩
      ·rw[z33,f0]
      ·by_cases hqr:q=r
       ·subst hqr;rw[hj,z30,zW8,z67 jl];rfl
       ·have hne:(ms.getD q 0).toNat≠j:=fun z=>by
         have nd:ms.Nodup:=sm.1.nodup_iff.mpr (pK _ _);have a1:=(ug sm (q:=q) (by omega)).1;have z2:ms.getD q 0=ms.getD r 0:=by rw[hj];omega
         rw[zW8,zW8,zW6 (by omega),zW6 hr'] at z2;exact (ya5.mp nd q r (by omega) hr' (by omega)) z2
        rw[zW8,z32 hne.symm,<-zW8,f1 q (by omega)]
      ·have hne:j≠l:=fun z=>hl r (z84 _) (by rw[hj];omega);rw[zW8,z32 hne,<-zW8,f2 l fun q hq=>hl q (by omega)]
      ·have ed:decide (((0+r:Nat):Int)<(free:Int))=decide (r<free):=by rw[decide_eq_decide];omega
       rw[ed,List.map_set];rfl
    ·rintro α ⟨bs',p5,p6,⟨f0,f1,f2⟩,rfl⟩;refine yV 3 ip.nd (xP (zv ⟨_,rfl,zY8 _,zu ?_⟩));rw[va,zW3,hml] at f1 f2;refine zu ?_;refine⟨bs',some (.dat (.int i)),p5,p6,di hp hfull mk sm f0 f1 f2,?_⟩;rw[(mJ hp hfull).2.1];rfl
   ·have hmore:i % many+1<many:=by
     rw[zW3,zc] at hc;omega
    refine zu ?_;refine⟨bs,some (.dat (.int i)),o5,o6,bf hp hmore mk,?_⟩;rw[(qJ hp hmore).1,(qJ hp hmore).2];rfl
  ·rintro α ⟨bs,o4,o5,o6,mk,rfl⟩;have el:(List.map PyData.int (zp 0 ((List.map PyData.int zs).length:Int).toNat)).length=zs.length:=by simp[zc]
   rw[el] at mk;exact xr 2 rfl (q bs mk)
end
noncomputable abbrev sNP :Stmt:=top 19
noncomputable abbrev sJ :Stmt:=top 20
noncomputable def zs1 :Scope:=match (zA sJ).getD 5 (.Pass ⟨0,0,0,0⟩) with
 |.Assign _ (.Call _ [.ListComp _ _ sc _] _ _) _=>sc
 |_=>zb sJ
def zQ5 (C:Addr)(cs:Cs):List A->(A->Prop)->Prop:=fun as Q=>∃(ds:List PyData) (ns:List Int) (pr:Int->Int),as=[.dat (yK C cs ds),.dat (.list (ns.map .int))]/\Rules ds/\ns.length<=900/\(∀z∈ns,zq ds "price" z=.int (pr z))/\Q (.own ((ns.map pr).map .int))
def zh7 (C:Addr)(cs:Cs):List A->(A->Prop)->Prop:=fun as Q=>∃(ds:List PyData) (c g fee:Int) (pr:Int->Int),as=[.dat (yK C cs ds),.dat (.tuple [.int c,.int g])]/\Rules ds/\0<=c/\c<g/\g<=c+400/\c<=1000000/\(∀z,c<=z->z<g->zq ds "price" z=.int (pr z)/\0<=pr z/\pr z<=1000000000000)/\
 (zq ds "deal" c=.none\/∃many free:Nat,zq ds "deal" c=.tuple [.int many,.int free]/\0<many/\many<64)/\zq ds "fee" c=.int fee/\
 ∀bs,wO (zq ds "deal" c) ((zp c (g-c).toNat).map pr) bs->Q (.dat (.tuple [.int ((yI ((zp c (g-c).toNat).map pr) bs).sum+fee),.list (vd ((zp c (g-c).toNat).map .int) (((zp c (g-c).toNat).map pr).map .int) (bs.map .bool)),.int fee]))
section
variable {P:Program}{w:World}{K:PySem.W.Frag}{mg:Str->Option Value}{base:Heap}{cs:Cs}
theorem zw0 :zm ["book","nights","prices","night","price"] ["book","nights"] (zb sNP):=.o
theorem zH5 {f C:Addr}{fd:FuncData}(F:Fun K "night_prices" "night_prices" sNP f fd)(hm:mg "night_prices"=some (.ref f))(hb:Binds K fd ["book","nights"] [])(MT:sX P w K mg base C "tells_of" 2 (tO C cs)):Cal P w K mg base "night_prices" 3 (zQ5 C cs):=by
 refine yM F hm hb zw0 (fun as Q h=>?_) (fun cdv A' outer s H E as Q hr h=>?_)
 ·obtain⟨ds,ns,pr,rfl,_⟩:=h;rfl
 ·obtain⟨ds,ns,pr,rfl,rd,hl,hp,q⟩:=h;refine yV 2 zw0.nd (xP (zv ⟨_,rfl,zY8 _,?_⟩));refine vK (pat:=.one 3) z42 rfl (yb (i:=3) zw0.nd rfl (Or.inl rfl)) (yX (zf 1 rfl ⟨_,rfl,?_⟩));refine zN (fun i α=>∃o3 o4:Option A,α=[some (.dat (yK C cs ds)),some (.dat (.list (ns.map .int))),some (.own (((ns.take i).map pr).map .int)),o3,o4]) ⟨none,none,rfl⟩ ?_ ?_
  ·rintro i d α hd ⟨o3,o4,rfl⟩;rw[zX1,zY0] at hd;obtain⟨z,hz,rfl⟩:=hd;have hi:i<ns.length:=(zW7.mp hz).1;have e:=hp z (z27 hz);refine⟨_,rfl,?_⟩;refine zQ 4 zw0.nd (xU MT hr (zf 0 rfl ⟨_,rfl,rfl,zh (yd (zh (zf 3 rfl (zv ⟨ds,_,_,rfl,rd,by simp[words],?_⟩))))⟩));show SvS _ (List.set _ _ (some (.dat (zq ds "price" z)))) _ _;rw[e];refine xf (vO (zf 4 rfl ?_));refine yq (fun h=>by cases h) (fun _=>zu ?_);refine yz 2 rfl (zf 4 rfl ⟨by rw[zW3,zW3,zZ4];omega,zu ⟨some (.dat (.int z)),some (.dat (.int (pr z))),?_⟩⟩);rw[z52,hz,zZ9,zZ9];rfl
  ·rintro α ⟨o3,o4,rfl⟩;rw[zW3,z66];exact xr 2 rfl q
theorem kY :zm ["book","stay","nights","prices","marks","fee","rows","paid"] ["book","stay"] (zb sJ):=.o
theorem zN8 :zY ["book","stay","nights","prices","marks","fee","rows","paid"] (zb sJ) ["row"] [none] zs1:=⟨rfl,by decide +kernel,by decide +kernel,by decide +kernel,by decide +kernel,rfl,by decide +kernel⟩
theorem zl0 {f C:Addr}{fd:FuncData}(F:Fun K "bill" "bill" sJ f fd)(hm:mg "bill"=some (.ref f))(hb:Binds K fd ["book","stay"] [])(nb:NbT mg)(MT:sX P w K mg base C "tells_of" 2 (tO C cs))(CN:Cal P w K mg base "nights_of" 1 qo)(CP:Cal P w K mg base "night_prices" 3 (zQ5 C cs))(CM:Cal P w K mg base "marked" 4 qX):
  Cal P w K mg base "bill" 5 (zh7 C cs):=by
 refine yM F hm hb kY (fun as Q h=>?_) (fun cdv A' outer s H E as Q hr h=>?_)
 ·obtain⟨ds,c,g,fee,pr,rfl,_⟩:=h;rfl
 ·obtain⟨ds,c,g,fee,pr,rfl,rd,c0,cg,gl,c1,hpr,hdeal,hfee,q⟩:=h;generalize hn:(g-c).toNat=n at q;have hn0:0<n:=by omega
  have hn4:n<=400:=by omega
  refine zQ 2 kY.nd (EvL.d (wI CN (hr.mono (by decide)) (by rfl) (zh (zf 1 rfl (zv ⟨c,g,rfl,by omega,cg,by omega,by omega,_,rfl,?_⟩)))));rw[hn];refine zQ 3 kY.nd (EvL.d (wI CP (hr.mono (by decide)) (by rfl) (zh (zf 0 rfl (zh (zf 2 rfl (zv ⟨ds,zp c n,pr,rfl,rd,by rw[zc];omega,fun z hz=>(hpr z (yO.mp hz).1 (by have:=(yO.mp hz).2;omega)).1,_,rfl,?_⟩)))))));have lz:((zp c n).map pr).length=n:=by rw[zW3,zc]
  refine zQ 4 kY.nd (EvL.d (wI CM hr (by rfl) (zh (zf 3 rfl (zh (xU MT (hr.mono (by decide)) (zf 0 rfl ⟨_,rfl,rfl,zh (yd (zh (wG (fun _ _=>rfl) (zf 1 rfl (yc ⟨_,_,_,rfl,rfl,at0,zv ⟨ds,_,_,rfl,rd,by simp[words],zv ⟨_,_,rfl,by omega,?_⟩⟩⟩)))))⟩)))))));have key:∀bs,wO (zq ds "deal" c) ((zp c n).map pr) bs->SvS (uu CX0 P w K mg base ["book","stay","nights","prices","marks","fee","rows","paid"] "bill" (zb sJ) f cdv A' outer s H E).nox
    [some (.dat (yK C cs ds)),some (.dat (.tuple [.int c,.int g])),some (.dat (.list ((zp c n).map .int))),some (.dat (.list (((zp c n).map pr).map .int))),some (.dat (.list (bs.map .bool))),none,none,none] ((zA sJ).drop 3) {nx:=fun _=>Q (.dat .none),rt:=Q}:=by
   intro bs mk;have lb:=mk.len;refine zQ 5 kY.nd (xU MT (hr.mono (by decide)) (zf 0 rfl ⟨_,rfl,rfl,zh (yd (zh (wG (fun _ _=>rfl) (zf 1 rfl (yc ⟨_,_,_,rfl,rfl,at0,zv ⟨ds,_,_,rfl,rd,by simp[words],?_⟩⟩)))))⟩));show SvS _ (List.set _ _ (some (.dat (zq ds "fee" c)))) _ _;rw[hfee];refine zQ 6 kY.nd (EvL.d (kF rfl (by rfl) nb.list (by rfl) nb.zip (zh (zf 2 rfl (zh (zf 3 rfl (zh (zf 4 rfl (zv ⟨_,_,_,rfl,?_,?_,?_,?_,?_⟩)))))))))
   ·rw[zW3,zW3,zW3]
   ·rw[zW3,zW3,lb,lz,zc]
   ·rw[zW3,zc];omega
   ·rw[zW3,zc];omega
   have pm:∀z∈yI ((zp c n).map pr) bs,0<=z/\z<=1000000000000:=fun z hz=>by
    obtain⟨y,hy,rfl⟩:=z06.mp (uh hz);have hy:=yO.mp hy;exact (hpr y hy.1 (by omega)).2
   refine zQ 7 kY.nd (mh rfl (by rfl) nb.sum (EvL.d (zA7 (pat:=.one 0) rfl zN8 rfl (fun _ _ _ _=>yb (i:=0) zN8.nd rfl (Or.inl rfl)) (yX (zf 6 rfl ⟨_,rfl,?_,?comp⟩)))))
   ·rw[sq (by rw[zW3,zW3,zW3]) (by rw[zW3,zW3,lb,lz,zc]),zW3,zc];omega
   refine uE (fun d=>!rg d) (zI8 1) (fun d hd=>?_) ?_
   ·obtain⟨j,hj⟩:=List.mem_iff_getElem?.mp hd;obtain⟨x,y,z,e1,e2,e3,rfl⟩:=si hj;rw[zX1,zY0] at e3;obtain⟨b,_,rfl⟩:=e3;exact⟨_,rfl,fun _ _ _ _ _ k=>kN (sD (nC (wG (fun _ _=>rfl) (zf 0 rfl (yc ⟨_,_,_,rfl,rfl,yH (j:=2) rfl,⟨_,rfl,k⟩⟩))))),fun _ _ _ _ _ _ k=>wG (fun _ _=>rfl) (zf 0 rfl (yc ⟨_,_,_,rfl,rfl,yH (j:=1) rfl,k⟩))⟩
   ·rw[z08,rQ (by rw[lz,zW3,zc]) (by rw[lb,lz,zW3,zc])];refine⟨_,rfl,fun z hz=>by have:=pm z hz;omega,iX pm (z24 (tS _ _) (by omega)),?_⟩;exact wF (xO (zh (xG (zf 7 rfl (zf 5 rfl ⟨_,_,rfl,rfl,zh (zf 6 rfl (zh (zf 5 rfl (zv ⟨_,rfl,zY5 rfl,q bs mk⟩))))⟩)))))
  rcases hdeal with hd|⟨many,free,hd,m0,m64⟩
  ·exact .inl ⟨hd,⟨_,rfl,key _ (.inl ⟨hd,rfl⟩)⟩⟩
  ·exact .inr ⟨many,free,hd,m0,m64,fun bs mk=>⟨_,rfl,key bs (.inr ⟨many,free,hd,mk⟩)⟩⟩
end
noncomputable abbrev pR :Stmt:=top 22
noncomputable abbrev zE3 :Stmt:=top 23
noncomputable abbrev zh2 :Stmt:=top 24
noncomputable abbrev zI0 :Stmt:=top 25
theorem dZ {x:Str}(h:x∈words):zF (.str x) (zk8 x)=true:=by
 simp only[words,zX0,zY3,z07] at h;rcases h with rfl|rfl|rfl|rfl|rfl|rfl|rfl<;>decide +kernel
theorem yT {ds:List PyData}(h:∀d∈ds,xA d=true){x:Str}(hx:x∈words)(day:Int):zF (.str x) (zq ds x day)=true:=by
 unfold zq;split
 ·rename_i d e;obtain⟨u,i,j,v,hu,rfl,_,_,_,hw⟩:=qP (h d (List.mem_reverse.mp (List.mem_of_find?_eq_some e)));have:=List.find?_some e;have h2:(decide (u=x)&&(decide (i<=day)&&decide (day<=j)))=true:=this;rw[zY7,zZ5] at h2;rw[<-h2.1];exact hw
 ·exact dZ hx
noncomputable def isF :PyData->Bool
 |.bool b=>!b
 |_=>false
noncomputable def intOf :PyData->Int
 |.int i=>i
 |_=>0
theorem xE {lo hi:Int}{d:PyData}(h:yv lo hi d=true):∃i,d=.int i/\lo<=i/\i<=hi:=by
 cases d with
 |int i=>
  have h':(decide (lo<=i)&&decide (i<=hi))=true:=h;rw[zY7,zZ5,zZ5] at h';exact⟨i,rfl,h'⟩
 |_=>cases h
theorem bool_inv {d:PyData}(h:isBool d=true):∃b,d=.bool b:=by
 cases d with
 |bool b=>exact⟨b,rfl⟩
 |_=>cases h
section
variable {ds:List PyData}(h:∀d∈ds,xA d=true)(day:Int)
include h
theorem zH6 :∃b,zq ds "come" day=.bool b:=bool_inv (by rw[<-qW];exact yT h (by simp[words]) day)
theorem zT7 :∃b,zq ds "go" day=.bool b:=bool_inv (by rw[<-lQ];exact yT h (by simp[words]) day)
theorem zw8 :∃i,zq ds "least" day=.int i/\1<=i/\i<=14:=xE (by rw[<-sT];exact yT h (by simp[words]) day)
theorem zD7 :∃i,zq ds "most" day=.int i/\1<=i/\i<=14:=xE (by rw[<-rH];exact yT h (by simp[words]) day)
theorem zL6 :∃i,zq ds "fee" day=.int i/\0<=i/\i<=1000000000000:=xE (by
 have:=yT h (x:="fee") (by simp[words]) day;rw[oi] at this;exact this)
theorem zw5 :zq ds "price" day=.none\/∃i,zq ds "price" day=.int i/\0<=i/\i<=1000000000000:=by
 have:=yT h (x:="price") (by simp[words]) day;rw[xM,z60] at this;rcases this with z|z
 ·left;cases e:zq ds "price" day with
  |none=>rfl
  |_=>rw[e] at z;cases z
 ·exact .inr (xE z)
end
noncomputable def pB (x:Str)(d:Int):PyData:=.tuple [.str x,.int d]
noncomputable def xS (ds:List PyData)(c:Int)(n:Nat):List PyData:=((zp c n).filter fun z=>vF (zq ds "price" z)).map (pB "price")
noncomputable def opt (b:Bool)(d:PyData):List PyData:=if b=true then [d] else []
noncomputable def wU (ds:List PyData)(c g:Int):List PyData:=xS ds c (g-c).toNat++opt (isF (zq ds "come" c)) (pB "come" c)++opt (isF (zq ds "go" g)) (pB "go" g)++opt (decide (g-c<intOf (zq ds "least" c))) (pB "least" c)++opt (decide (intOf (zq ds "most" c)<g-c)) (pB "most" c)
theorem wz (b:Bool)(d:PyData):(opt b d).length<=1:=by unfold opt;split<;>simp
theorem sM (ds:List PyData)(c:Int)(n:Nat):(xS ds c n).length<=n:=by
 unfold xS;rw[zW3];have:=List.length_filter_le (fun z=>vF (zq ds "price" z)) (zp c n);rw[zc] at this;exact this
def iE (C:Addr)(cs:Cs):List A->(A->Prop)->Prop:=fun as Q=>∃ds c g,as=[.dat (yK C cs ds),.dat (.tuple [.int c,.int g])]/\Rules ds/\-100<=c/\c<g/\g<=c+100/\c<=1000100/\Q (.own (wU ds c g))
noncomputable def zx0 :Scope:=match zA pR with
 |[_,_,.Assign _ (.ListComp _ _ sc _) _,_,_,_,_,_]=>sc
 |_=>zb pR
section
variable {P:Program}{w:World}{K:PySem.W.Frag}{mg:Str->Option Value}{base:Heap}{cs:Cs}
theorem zx1 :zm ["book","stay","come","go","told"] ["book","stay"] (zb pR):=.o
theorem zP0 :zY ["book","stay","come","go","told"] (zb pR) ["night","book"] [none,some 0] zx0:=⟨rfl,by decide +kernel,by decide +kernel,by decide +kernel,by decide +kernel,rfl,by decide +kernel⟩
theorem lF (ds:List PyData)(ns:List Int)(f:PyData->Bool)(hf:∀z,f (.int z)=vF (zq ds "price" z))(g:PyData->PyData)(hg:∀z,g (.int z)=pB "price" z):((ns.map PyData.int).filter f).map g=(ns.filter fun z=>vF (zq ds "price" z)).map (pB "price"):=by
 rw[List.filter_map,zZ6];have e1:(f∘PyData.int)=fun z=>vF (zq ds "price" z):=funext hf;have e2:(g∘PyData.int)=pB "price":=funext hg;rw[e1,e2]
noncomputable def zM5 :PyData->Int
 |.int z=>z
 |_=>0
theorem zf1 {f C:Addr}{fd:FuncData}(F:Fun K "bars" "bars" pR f fd)(hm:mg "bars"=some (.ref f))(hb:Binds K fd ["book","stay"] [])(CN:Cal P w K mg base "nights_of" 1 qo)(MT:sX P w K mg base C "tells_of" 2 (tO C cs)):Cal P w K mg base "bars" 3 (iE C cs):=by
 refine yM F hm hb zx1 (fun as Q h=>?_) (fun cdv A' outer s H E as Q hr h=>?_)
 ·obtain⟨ds,c,g,rfl,_⟩:=h;rfl
 ·obtain⟨ds,c,g,rfl,rd,c0,cg,g1,c1,q⟩:=h;have rr:∀d∈ds,xA d=true:=fun d hd=>(rd d hd).1;refine zQ 2 zx1.nd (wG (fun _ _=>rfl) (zf 1 rfl (yc (⟨_,_,_,rfl,rfl,rfl,?_⟩))));refine zQ 3 zx1.nd (wG (fun _ _=>rfl) (zf 1 rfl (yc (⟨_,_,_,rfl,rfl,rfl,?_⟩))));refine zP (fun α=>α=[some (.dat (yK C cs ds)),some (.dat (.tuple [.int c,.int g])),some (.dat (.int c)),some (.dat (.int g)),some (.own (xS ds c (g-c).toNat))]) ?_ ?_
  ·refine ze4 4 (pat:=.one 0) zx1.nd rfl zP0 rfl (fun _ _ _ _=>yb (i:=0) zP0.nd rfl (by first|exact Or.inl rfl|exact Or.inr rfl)) (yX (EvL.d (wI CN (hr.mono (by decide)) (by rfl) (zh (zf 1 rfl (zv (⟨c,g,rfl,by omega,by omega,by omega,by omega,⟨_,rfl,⟨_,rfl,⟨by rw[zW3,zc];omega,?comp⟩⟩⟩⟩)))))))
   case comp=>
    refine uE (fun d=>vF (zq ds "price" (zM5 d))) (fun d=>pB "price" (zM5 d)) (fun d hd=>?_) ?_
    ·obtain⟨z,_,rfl⟩:=z06.mp hd;refine⟨_,rfl,fun C s2 H2 fp Q k=>kN (vO (xU MT hr (zf 1 rfl ⟨_,rfl,rfl,zh (yd (zh (zf 0 rfl (zv ⟨ds,_,_,rfl,rd,by simp[words],k⟩))))⟩))),fun _ C s2 H2 fp Q k=>xO (zh (yd (zh (zf 0 rfl (zv (⟨_,rfl,zY5 rfl,k⟩))))))⟩
    ·refine zu ?_;rw[z08,lF ds _ _ (fun _=>rfl) _ (fun _=>rfl)];rfl
  rintro α rfl;have n0:=sM ds c (g-c).toNat;obtain⟨bc,ec⟩:=zH6 rr c;obtain⟨bg,eg⟩:=zT7 rr g;obtain⟨il,el,_,_⟩:=zw8 rr c;obtain⟨im,em,_,_⟩:=zD7 rr c;refine zP (fun α=>α=[some (.dat (yK C cs ds)),some (.dat (.tuple [.int c,.int g])),some (.dat (.int c)),some (.dat (.int g)),some (.own (xS ds c (g-c).toNat++opt (isF (zq ds "come" c)) (pB "come" c)))]) ?_ ?_
  ·refine xf (sD (nC (xU MT hr (zf 0 rfl ⟨_,rfl,rfl,zh (yd (zh (zf 2 rfl (zv ⟨ds,_,_,rfl,rd,by simp[words],⟨bc,ec,?_⟩⟩))))⟩))));rw[ec];refine yq (fun hc=>?_) (fun hc=>?_)
   ·refine yz 4 rfl (xO (zh (yd (zh (zf 2 rfl (zv (⟨_,rfl,zY5 rfl,⟨by omega,zu (zu ?_)⟩⟩)))))));have hb:isF (PyData.bool bc)=true:=hc;rw[hb]<;>rfl
   ·refine zu (zu ?_);have hb:isF (PyData.bool bc)=false:=hc;rw[hb,show opt false (pB "come" c)=[] from rfl,z40]
  rintro α rfl;have l1:(xS ds c (g-c).toNat++opt (isF (zq ds "come" c)) (pB "come" c)).length<=101:=by
   have:=wz (isF (zq ds "come" c)) (pB "come" c);rw[zY6];omega
  generalize eacc1:xS ds c (g-c).toNat++opt (isF (zq ds "come" c)) (pB "come" c)=acc1 at l1;refine zP (fun α=>α=[some (.dat (yK C cs ds)),some (.dat (.tuple [.int c,.int g])),some (.dat (.int c)),some (.dat (.int g)),some (.own (acc1++opt (isF (zq ds "go" g)) (pB "go" g)))]) ?_ ?_
  ·refine xf (sD (nC (xU MT hr (zf 0 rfl ⟨_,rfl,rfl,zh (yd (zh (zf 3 rfl (zv ⟨ds,_,_,rfl,rd,by simp[words],⟨bg,eg,?_⟩⟩))))⟩))));rw[eg];refine yq (fun hc=>?_) (fun hc=>?_)
   ·refine yz 4 rfl (xO (zh (yd (zh (zf 3 rfl (zv (⟨_,rfl,zY5 rfl,⟨by omega,zu (zu ?_)⟩⟩)))))));have hb:isF (PyData.bool bg)=true:=hc;rw[hb]<;>rfl
   ·refine zu (zu ?_);have hb:isF (PyData.bool bg)=false:=hc;rw[hb,show opt false (pB "go" g)=[] from rfl,z40]
  rintro α rfl;have l2:(acc1++opt (isF (zq ds "go" g)) (pB "go" g)).length<=102:=by
   have:=wz (isF (zq ds "go" g)) (pB "go" g);rw[zY6];omega
  generalize eacc2:acc1++opt (isF (zq ds "go" g)) (pB "go" g)=acc2 at l2;refine zP (fun α=>α=[some (.dat (yK C cs ds)),some (.dat (.tuple [.int c,.int g])),some (.dat (.int c)),some (.dat (.int g)),some (.own (acc2++opt (decide (g-c<intOf (zq ds "least" c))) (pB "least" c)))]) ?_ ?_
  ·refine xf (zy3 (oO (zf 3 rfl (zf 2 rfl (⟨_,_,rfl,rfl,xU MT hr (zf 0 rfl ⟨_,rfl,rfl,zh (yd (zh (zf 2 rfl (zv ⟨ds,_,_,rfl,rd,by simp[words],⟨_,il,rfl,el,?_⟩⟩))))⟩)⟩)))));rw[el];refine yq (fun hc=>?_) (fun hc=>?_)
   ·refine yz 4 rfl (xO (zh (yd (zh (zf 2 rfl (zv (⟨_,rfl,zY5 rfl,⟨by omega,zu (zu ?_)⟩⟩)))))));have hb:decide (g-c<intOf (PyData.int il))=true:=hc;rw[hb]<;>rfl
   ·refine zu (zu ?_);have hb:decide (g-c<intOf (PyData.int il))=false:=hc;rw[hb,show opt false (pB "least" c)=[] from rfl,z40]
  rintro α rfl;have l3:(acc2++opt (decide (g-c<intOf (zq ds "least" c))) (pB "least" c)).length<=103:=by
   have:=wz (decide (g-c<intOf (zq ds "least" c))) (pB "least" c);rw[zY6];omega
  generalize eacc3:acc2++opt (decide (g-c<intOf (zq ds "least" c))) (pB "least" c)=acc3 at l3;refine zP (fun α=>α=[some (.dat (yK C cs ds)),some (.dat (.tuple [.int c,.int g])),some (.dat (.int c)),some (.dat (.int g)),some (.own (acc3++opt (decide (intOf (zq ds "most" c)<g-c)) (pB "most" c)))]) ?_ ?_
  ·refine xf (zj5 (oO (zf 3 rfl (zf 2 rfl (⟨_,_,rfl,rfl,xU MT hr (zf 0 rfl ⟨_,rfl,rfl,zh (yd (zh (zf 2 rfl (zv ⟨ds,_,_,rfl,rd,by simp[words],⟨_,im,rfl,em,?_⟩⟩))))⟩)⟩)))));rw[em];refine yq (fun hc=>?_) (fun hc=>?_)
   ·refine yz 4 rfl (xO (zh (yd (zh (zf 2 rfl (zv (⟨_,rfl,zY5 rfl,⟨by omega,zu (zu ?_)⟩⟩)))))));have hb:decide (intOf (PyData.int im)<g-c)=true:=hc;rw[hb]<;>rfl
   ·refine zu (zu ?_);have hb:decide (intOf (PyData.int im)<g-c)=false:=hc;rw[hb,show opt false (pB "most" c)=[] from rfl,z40]
  rintro α rfl;have l4:(acc3++opt (decide (intOf (zq ds "most" c)<g-c)) (pB "most" c)).length<=104:=by
   have:=wz (decide (intOf (zq ds "most" c)<g-c)) (pB "most" c);rw[zY6];omega
  generalize eacc4:acc3++opt (decide (intOf (zq ds "most" c)<g-c)) (pB "most" c)=acc4 at l4;have eb:wU ds c g=acc4:=by
   unfold wU;rw[eacc1,eacc2,eacc3,eacc4]
  rw[eb] at q;exact xr 4 rfl q
end
theorem zc8 {d:PyData}(h:uT d=true):∃many free:Nat,d=.tuple [.int many,.int free]/\0<free/\free<many/\many<64:=by
 unfold uT at h;split at h
 ·rename_i m r;rw[zY7] at h;obtain⟨i,e,i0,i1⟩:=xE h.1;obtain⟨j,e2,j0,j1⟩:=xE h.2;subst e2;injection e with e;subst e;refine⟨m.toNat,j.toNat,?_,by omega,by omega,by omega⟩;rw[show ((m.toNat:Nat):Int)=m by omega,show ((j.toNat:Nat):Int)=j by omega]
 ·cases h
theorem zb2 {ds:List PyData}(h:∀d∈ds,xA d=true)(day:Int):zc0 (zq ds "deal" day):=by
 have:=yT h (x:="deal") (by simp[words]) day;rw[uB,z60] at this;rcases this with z|z
 ·left;cases e:zq ds "deal" day with
  |none=>rfl
  |_=>rw[e] at z;cases z
 ·exact .inr (zc8 z)
theorem yt.all {ds:List PyData}(h:yt ds):∀d∈ds,xA d=true:=fun d hd=>(h d hd).rule
def lO (ds:List PyData)(c g:Int):Prop:=∀z,c<=z->z<g->vF (zq ds "price" z)=false
noncomputable def prs (ds:List PyData)(c g:Int):List Int:=(zp c (g-c).toNat).map fun z=>intOf (zq ds "price" z)
noncomputable def tD (ds:List PyData)(c:Int):Int:=intOf (zq ds "fee" c)
theorem qk {ds:List PyData}{c g z:Int}(h:yt ds)(s:lO ds c g)(h0:c<=z)(h1:z<g):zq ds "price" z=.int (intOf (zq ds "price" z))/\0<=intOf (zq ds "price" z)/\intOf (zq ds "price" z)<=1000000000000:=by
 rcases zw5 h.all z with e|⟨i,e,i0,i1⟩
 ·have:=s z h0 h1;rw[e] at this;cases this
 ·rw[e];exact⟨rfl,i0,i1⟩
theorem fB {ds:List PyData}(h:yt ds)(c:Int):zq ds "fee" c=.int (tD ds c)/\0<=tD ds c/\tD ds c<=1000000000000:=by
 obtain⟨i,e,i0,i1⟩:=zL6 h.all c;unfold tD;rw[e];exact⟨rfl,i0,i1⟩
def zL (c g:Int):Prop:=0<=c/\c<g/\g<=c+14/\g<=1000000
def oY (C:Addr)(cs:Cs):List A->(A->Prop)->Prop:=fun as Q=>∃(ds:List PyData) (c g:Int),as=[.dat (yK C cs ds),.dat (.tuple [.int c,.int g])]/\yt ds/\zL c g/\lO ds c g/\
 ∀bs rows,wO (zq ds "deal" c) (prs ds c g) bs->Q (.dat (.tuple [.int ((yI (prs ds c g) bs).sum+tD ds c),rows,.int (tD ds c)]))
noncomputable def vH (ds:List PyData)(c g:Int):Bool:=(wU ds c g).isEmpty
noncomputable def zu0 (ds:List PyData)(c g:Int):List Bool:=Classical.epsilon fun bs=>wO (zq ds "deal" c) (prs ds c g) bs
noncomputable def coD (ds:List PyData)(c g:Int):Int:=(yI (prs ds c g) (zu0 ds c g)).sum+tD ds c
noncomputable def coO (ds:List PyData)(c g:Int):Option Int:=if vH ds c g=true then some (coD ds c g) else none
noncomputable def oD :Option Int->PyData
 |some z=>.int z
 |none=>.none
theorem nq {ds:List PyData}{c g y:Int}(ro:yt ds)(so:lO ds c g)(h:y∈prs ds c g):0<=y/\y<=1000000000000:=by
 obtain⟨z,hz,rfl⟩:=z06.mp h;have hz:=yO.mp hz;exact (qk ro so hz.1 (by omega)).2
theorem af {b:Int}:∀{ns:List Int},(∀n∈ns,0<=n/\n<=b)->0<=ns.sum/\ns.sum<=b*ns.length
 |[],_=>by simp
 |n::ns,h=>by
  have h1:=h n zX7;have h2:=af fun m hm=>h m (zX3 _ hm);rw[z31,zX9];have:b*((ns.length+1:Nat):Int)=b*ns.length+b:=by rw[z92,Int.mul_add];simp
  omega
theorem zz8 {ds:List PyData}{c g:Int}{bs:List Bool}(ro:yt ds)(so:lO ds c g)(mk:wO (zq ds "deal" c) (prs ds c g) bs):(yI (prs ds c g) bs).sum+tD ds c=coD ds c g:=by
 have h2:wO (zq ds "deal" c) (prs ds c g) (zu0 ds c g):=Classical.epsilon_spec (p:=fun bs=>wO (zq ds "deal" c) (prs ds c g) bs) ⟨bs,mk⟩;have:=jw (e:=0) mk h2 (zb2 ro.all c) rfl (by simp) (fun i hi=>z23 _) (fun z hz=>(nq ro so hz).1) fun z hz=>(nq ro so hz).1;unfold coD;omega
theorem wy {α:Type}{a b:List α}:(a++b).isEmpty=(a.isEmpty&&b.isEmpty):=by cases a<;>rfl
theorem rh {b:Bool}{d:PyData}:(opt b d).isEmpty=!b:=by cases b<;>rfl
theorem zr0 {ds:List PyData}{c g:Int}:vH ds c g=true↔lO ds c g/\isF (zq ds "come" c)=false/\isF (zq ds "go" g)=false/\¬g-c<intOf (zq ds "least" c)/\¬intOf (zq ds "most" c)<g-c:=by
 unfold vH wU;rw[wy,wy,wy,wy,rh,rh,rh,rh];have:(xS ds c (g-c).toNat).isEmpty=true↔lO ds c g:=by
  unfold xS lO;rw[List.isEmpty_iff,ya3,List.filter_eq_nil_iff];refine⟨fun h z z0 z1=>?_,fun h z hz=>?_⟩
  ·have:=h z (yO.mpr ⟨z0,by omega⟩);simpa using this
  ·have hz:=yO.mp hz;rw[h z hz.1 (by omega)];decide
 simp only[zY7,this,Bool.not_eq_true',yb8,and_assoc]
theorem vM {ds:List PyData}{c g:Int}(h:vH ds c g=true):lO ds c g:=(zr0.mp h).1
theorem mV {ds:List PyData}{c g:Int}(cg:c<=g){d:PyData}(h:d∈wU ds c g):∃(x:Str) (z:Int),d=pB x z/\x∈words/\c<=z/\z<=g:=by
 unfold wU at h;simp only[z20] at h;have ho:∀{b:Bool} {x:Str} {z:Int},d∈opt b (pB x z)->d=pB x z:=fun {b x z} h=>by
  cases b
  ·simp[opt] at h
  ·simpa[opt] using h
 rcases h with (((h|h)|h)|h)|h
 ·obtain⟨z,hz,rfl⟩:=z06.mp h;have hz:=yO.mp (yc9.mp hz).1;exact⟨_,z,rfl,by simp[words],hz.1,by omega⟩
 ·exact⟨_,c,ho h,by simp[words],by omega,by omega⟩
 ·exact⟨_,g,ho h,by simp[words],by omega,by omega⟩
 ·exact⟨_,c,ho h,by simp[words],by omega,by omega⟩
 ·exact⟨_,c,ho h,by simp[words],by omega,by omega⟩
theorem fO {x:Str}{z:Int}(hx:x∈words)(h0:-100<=z)(h1:z<=2000000):yn 5000 (pB x z)/\(pB x z).depth<=1:=by
 have hbig:(2000001:Int)<big:=by decide
 have hneg:-big<(-100:Int):=by decide
 exact⟨yn.tuple (n:=2000) (yy.two (oe hx) (yn.int (by omega) (by omega)) (zY8 _) (zY8 _)) (by show 2*(2000+2)+3<=5000;decide),by simp[pB,PyData.depth,PyData.depthAll]⟩
theorem zn0 {ds:List PyData}{c g:Int}:(wU ds c g).length<=(g-c).toNat+4:=by
 unfold wU;simp only[zY6];have h0:=sM ds c (g-c).toNat;have h1:=wz (isF (zq ds "come" c)) (pB "come" c);have h2:=wz (isF (zq ds "go" g)) (pB "go" g);have h3:=wz (decide (g-c<intOf (zq ds "least" c))) (pB "least" c);have h4:=wz (decide (intOf (zq ds "most" c)<g-c)) (pB "most" c);omega
theorem oB {ds:List PyData}{c g:Int}(sb:zL c g):yn sizeLine (.list (wU ds c g)):=by
 obtain⟨c0,cg,g1,g2⟩:=sb;refine yn.list (n:=5000) ⟨fun d hd=>?_,fun d hd=>?_⟩ ?_
 ·obtain⟨x,z,rfl,hx,a,b⟩:=mV (by omega) hd;exact (fO hx (by omega) (by omega)).1
 ·obtain⟨x,z,rfl,hx,a,b⟩:=mV (by omega) hd;have:=(fO hx (z:=z) (by omega) (by omega)).2;omega
 ·have h2:(wU ds c g).length*(5000+2)<=18*(5000+2):=yd7 _ (by have:=zn0 (ds:=ds) (c:=c) (g:=g);omega);have h3:18*(5000+2)+2<=sizeLine:=by decide
  omega
theorem ar {ds:List PyData}{c g:Int}(ro:yt ds)(sb:zL c g)(h:vH ds c g=true):0<=coD ds c g/\coD ds c g<=15000000000000:=by
 obtain⟨c0,cg,g1,g2⟩:=sb;have so:=vM h;have f:=(fB ro c).2;have s:=af (b:=1000000000000) (ns:=yI (prs ds c g) (zu0 ds c g)) fun n hn=>nq ro so (uh hn);have l:=tS (prs ds c g) (zu0 ds c g);have l2:(prs ds c g).length<=14:=by unfold prs;rw[zW3,zc];omega
 unfold coD;omega
theorem gC {ds:List PyData}:PyData.eqv (.list ds) (.list [])=ds.isEmpty:=by
 cases ds<;>rfl
def lq (C:Addr)(cs:Cs):List A->(A->Prop)->Prop:=fun as Q=>∃(ds:List PyData) (c g:Int),as=[.dat (yK C cs ds),.dat (.tuple [.int c,.int g])]/\yt ds/\zL c g/\Q (.dat (.bool (vH ds c g)))
def aZ (C:Addr)(cs:Cs):List A->(A->Prop)->Prop:=fun as Q=>∃(ds:List PyData) (c g:Int),as=[.dat (yK C cs ds),.dat (.tuple [.int c,.int g])]/\yt ds/\zL c g/\Q (.dat (oD (coO ds c g)))
def jn (C:Addr)(cs:Cs):List A->(A->Prop)->Prop:=fun as Q=>∃(ds:List PyData) (c g:Int),as=[.dat (yK C cs ds),.dat (.tuple [.int c,.int g])]/\yt ds/\zL c g/\vH ds c g=true/\Q (.dat (.int (coD ds c g)))
section
variable {P:Program}{w:World}{K:PySem.W.Frag}{mg:Str->Option Value}{base:Heap}{cs:Cs}
theorem eO {C:Addr}(CB:Cal P w K mg base "bill" 5 (zh7 C cs)):Cal P w K mg base "bill" 5 (oY C cs):=by
 refine CB.imp fun as Q h=>?_;obtain⟨ds,c,g,rfl,ro,⟨c0,cg,g1,g2⟩,so,q⟩:=h;refine⟨ds,c,g,tD ds c,fun z=>intOf (zq ds "price" z),rfl,ro.rules,c0,cg,by omega,by omega,fun z z0 z1=>qk ro so z0 z1,?_,(fB ro c).1,fun bs mk=>q bs _ mk⟩;rcases zb2 ro.all c with e|⟨m,f,e,f0,fm,m6⟩
 ·exact .inl e
 ·exact .inr ⟨m,f,e,by omega,m6⟩
theorem zN0 :zm ["book","stay"] ["book","stay"] (zb zE3):=.o
theorem zw9 {f C:Addr}{fd:FuncData}(F:Fun K "can_be_had" "can_be_had" zE3 f fd)(hm:mg "can_be_had"=some (.ref f))(hb:Binds K fd ["book","stay"] [])(CB:Cal P w K mg base "bars" 3 (iE C cs)):Cal P w K mg base "can_be_had" 4 (lq C cs):=by
 refine yM F hm hb zN0 (fun as Q h=>?_) (fun cdv A' outer s H E as Q hr h=>?_)
 ·obtain⟨ds,c,g,rfl,_⟩:=h;rfl
 ·obtain⟨ds,c,g,rfl,ro,sb,q⟩:=h;obtain⟨c0,cg,g1,g2⟩:=id sb;have nd:=zN0.nd;ext;refine⟨ds,c,g,rfl,ro.rules,by omega,by omega,by omega,by omega,?_⟩;ext;exact eqk (oB sb).shaped rfl (oB sb).nod rfl (by rw[show PyData.eqv (A.own (wU ds c g)).d (.list [])=vH ds c g from gC];exact q)
theorem zz9 :zm ["book","stay","found"] ["book","stay"] (zb zh2):=.o
theorem aw {f C:Addr}{fd:FuncData}(F:Fun K "cost" "cost" zh2 f fd)(hm:mg "cost"=some (.ref f))(hb:Binds K fd ["book","stay"] [])(CB:Cal P w K mg base "bars" 3 (iE C cs))(CL:Cal P w K mg base "bill" 5 (oY C cs)):Cal P w K mg base "cost" 6 (jn C cs):=by
 refine yM F hm hb zz9 (fun as Q h=>?_) (fun cdv A' outer s H E as Q hr h=>?_)
 ·obtain⟨ds,c,g,rfl,_⟩:=h;rfl
 ·obtain⟨ds,c,g,rfl,ro,sb,hh,q⟩:=h;obtain⟨c0,cg,g1,g2⟩:=id sb;have nd:=zz9.nd;have e0:wU ds c g=[]:=List.isEmpty_iff.mp hh;ext;refine⟨ds,c,g,rfl,ro.rules,by omega,by omega,by omega,by omega,?_⟩;rw[e0];ext;refine⟨ds,c,g,rfl,ro,sb,vM hh,fun bs rows mk=>?_⟩;ext;show Q _;rw[zz8 ro (vM hh) mk];exact q
theorem zP8 :zm ["book","stay"] ["book","stay"] (zb zI0):=.o
theorem zp8 {f C:Addr}{fd:FuncData}(F:Fun K "cost_or_none" "cost_or_none" zI0 f fd)(hm:mg "cost_or_none"=some (.ref f))(hb:Binds K fd ["book","stay"] [])(CH:Cal P w K mg base "can_be_had" 4 (lq C cs))(CL:Cal P w K mg base "bill" 5 (oY C cs)):Cal P w K mg base "cost_or_none" 6 (aZ C cs):=by
 refine yM F hm hb zP8 (fun as Q h=>?_) (fun cdv A' outer s H E as Q hr h=>?_)
 ·obtain⟨ds,c,g,rfl,_⟩:=h;rfl
 ·obtain⟨ds,c,g,rfl,ro,sb,q⟩:=h;have nd:=zP8.nd;ext;refine⟨ds,c,g,rfl,ro,sb,?_⟩;ext;refine vc (fun e=>?_) (fun e=>?_)
  ·ext;refine⟨ds,c,g,rfl,ro,sb,vM e,fun bs rows mk=>?_⟩;ext;show Q _;rw[zz8 ro (vM e) mk];unfold coO at q;rw[if_pos e] at q;exact q
  ·ext;unfold coO at q;rw[if_neg (by rw[e];decide)] at q;exact q
end
noncomputable abbrev zI7 :Stmt:=top 61
noncomputable abbrev sLW :Stmt:=top 62
noncomputable abbrev jY :Stmt:=top 63
noncomputable abbrev jG :Stmt:=top 64
noncomputable abbrev zc1 :Stmt:=top 65
instance (c g:Int):Decidable (zL c g):=by unfold zL;infer_instance
noncomputable def coB (Bs:List (List PyData)):Co:=fun n b e=>if zL b e then coO (Bs.getD n []) b e else none
def zM (Bs:List (List PyData)):Prop:=∀ds∈Bs,yt ds
noncomputable def zI (C:Addr)(cs:Cs)(Bs:List (List PyData)):PyData:=.list (Bs.map (yK C cs))
theorem tR {Bs:List (List PyData)}{n:Nat}{ds:List PyData}{b e:Int}(h:Bs[n]?=some ds)(sb:zL b e):coB Bs n b e=coO ds b e:=by
 unfold coB;rw[if_pos sb,zW8,h];rfl
theorem wW {Bs:List (List PyData)}{n:Nat}{b e x:Int}(bo:zM Bs)(hn:n<Bs.length)(h:coB Bs n b e=some x):zL b e/\vH (Bs.getD n []) b e=true/\x=coD (Bs.getD n []) b e/\0<=x/\x<=15000000000000:=by
 unfold coB at h;split at h
 ·rename_i sb;unfold coO at h;split at h
  ·rename_i hh;cases h;have:=ar (bo _ (by rw[zW8,zW6 hn];exact z28 hn)) sb hh;exact⟨sb,hh,rfl,this.1,this.2⟩
  ·cases h
 ·cases h
noncomputable abbrev arrOf (Bs:List (List PyData))(W:List Way)(day:Int):List (Int×Part):=sy (coB Bs) Bs.length W day
noncomputable abbrev iV (Bs:List (List PyData))(c g:Int):List Way:=yu (coB Bs) Bs.length c (g-c).toNat
noncomputable abbrev bestOf (Bs:List (List PyData))(c g:Int):PyData:=mY (coB Bs) Bs.length c g
def zA4 (C:Addr)(cs:Cs):List A->(A->Prop)->Prop:=fun as Q=>∃(Bs:List (List PyData)) (W:List Way) (day:Int),as=[.dat (zI C cs Bs),.dat (yP (W.map xY)),.dat (.int day)]/\zM Bs/\Bs.length<=8/\W.length<=20/\(∀w∈W,zL w.1 day/\zr W w.1=some w.2)/\Q (.own ((arrOf Bs W day).map vo))
def zQ0 (C:Addr)(cs:Cs):List A->(A->Prop)->Prop:=fun as Q=>∃(Bs:List (List PyData)) (c g:Int),as=[.dat (zI C cs Bs),.dat (.tuple [.int c,.int g])]/\zM Bs/\Bs.length<=8/\zL c g/\Q (.dat (yP ((iV Bs c g).map xY)))
def zj9 (W:List Way)(c g:Int):Prop:=W.length<=20/\∃(co:Co) (N:Nat),vg co N c (g-c).toNat W
def hV :List A->(A->Prop)->Prop:=fun as Q=>∃(W:List Way) (c g:Int),as=[.dat (yP (W.map xY)),.dat (.tuple [.int c,.int g])]/\zj9 W c g/\zL c g/\(∃p,zr W g=some p)/\Q (.own ((vD W c (g-c).toNat g).reverse.map yg))
def gj :List A->(A->Prop)->Prop:=fun as Q=>∃(W:List Way) (c g:Int),as=[.dat (yP (W.map xY)),.dat (.tuple [.int c,.int g])]/\zj9 W c g/\zL c g/\Q (.own ((wJ W c (g-c).toNat).map .int))
def za6 (C:Addr)(cs:Cs):List A->(A->Prop)->Prop:=fun as Q=>∃(Bs:List (List PyData)) (c g:Int),as=[.dat (zI C cs Bs),.dat (.tuple [.int c,.int g])]/\zM Bs/\Bs.length<=8/\zL c g/\∀S,Q (.deep (bestOf Bs c g) S)
theorem rT {co:Co}{N:Nat}{c:Int}:∀k,(yu co N c k).length<=k+1
 |0=>zW9 _
 |k+1=>by
  have:=rT (co:=co) (N:=N) (c:=c) k;unfold yu mL;split
  ·omega
  ·rw[zY6,z46];omega
theorem wL {α:Type}{f:α->PyData}(h:∀x,noL (f x)=true):∀l:List α,ur (l.map f)=true
 |[]=>rfl
 |x::l=>by rw[zY2,ur,h x,wL h l]<;>rfl
theorem xq {α:Type}{f:α->PyData}(h:∀x,(f x).hasDict=false):∀l:List α,PyData.hasDictAll (l.map f)=false
 |[]=>rfl
 |x::l=>by rw[zY2,PyData.hasDictAll,h x,xq h l]<;>rfl
theorem isEmpty_map {α β:Type}{f:α->β}{l:List α}:(l.map f).isEmpty=l.isEmpty:=by cases l<;>rfl
section
variable {P:Program}{w:World}{K:PySem.W.Frag}{mg:Str->Option Value}{base:Heap}{cs:Cs}
theorem gr {co:Co}{N:Nat}{day:Int}:∀W:List Way,(sy co N W day).length<=W.length*N
 |[]=>by simp[sy]
 |w::W=>by
  have ih:=gr (co:=co) (N:=N) (day:=day) W;unfold sy at ih ⊢;rw[List.flatMap_cons,zY6,zX9,Nat.add_mul];have:(zj1 co N day w).length<=N:=by
   unfold zj1;exact z24 (List.length_filterMap_le _ _) (by simp)
  omega
noncomputable def sr (co:Co)(j:Nat)(day:Int)(w:Way):List (Int×Part):=(List.range j).filterMap fun n=>(co n w.1 day).map fun x=>(w.2.1+x,(w.1,day,n))
theorem zf4 {co:Co}{j:Nat}{day:Int}{w:Way}:(sr co j day w).length<=j:=by
 unfold sr;exact z24 (List.length_filterMap_le _ _) (by simp)
theorem zL1 :zm ["books","ways","day","found","begin","number","book","coins"] ["books","ways","day"] (zb zI7):=.o
theorem zs7 {f C:Addr}{fd:FuncData}(F:Fun K "arrivals" "arrivals" zI7 f fd)(hm:mg "arrivals"=some (.ref f))(hb:Binds K fd ["books","ways","day"] [])(nb:NbT mg)(CN:Cal P w K mg base "cost_or_none" 6 (aZ C cs)):Cal P w K mg base "arrivals" 7 (zA4 C cs):=by
 refine yM F hm hb zL1 (fun as Q h=>?_) (fun cdv A' outer s H E as Q hr h=>?_)
 ·obtain⟨Bs,W,day,rfl,_⟩:=h;rfl
 ·obtain⟨Bs,W,day,rfl,bo,bl,wl,ws,q⟩:=h;have nd:=zL1.nd;refine yV 3 nd ?_;ext;refine yG (.one 4) (zt4 (zf 1 rfl ⟨_,rfl,?_⟩));refine zN (fun i α=>∃o4 o5 o6 o7:Option A,α=[some (.dat (zI C cs Bs)),some (.dat (yP (W.map xY))),some (.dat (.int day)),some (.own ((arrOf Bs (W.take i) day).map vo)),o4,o5,o6,o7]) ⟨none,none,none,none,rfl⟩ ?_ ?_
  ·rintro i d α hd ⟨o4,o5,o6,o7,rfl⟩;rw[zX1,zX1,Option.map_map,zY0] at hd;obtain⟨u,hu,rfl⟩:=hd;have um:=z27 hu;have hi:=(zW7.mp hu).1;refine⟨_,rfl,?_⟩;refine yG (.many [5,6]) (oZ (by rfl) nb.enumerate (zf 0 rfl ⟨_,rfl,?_⟩));refine zN (fun j α=>∃o5 o6 o7:Option A,α=[some (.dat (zI C cs Bs)),some (.dat (yP (W.map xY))),some (.dat (.int day)),some (.own ((arrOf Bs (W.take i) day++sr (coB Bs) j day u).map vo)),some (.dat (.int u.1)),o5,o6,o7]) ⟨o5,o6,o7,by rw[show sr (coB Bs) 0 day u=[] from rfl,z40]<;>rfl⟩ ?_ ?_
   ·rintro j d α hd ⟨o5,o6,o7,rfl⟩;obtain⟨e,he,rfl⟩:=wK hd;rw[zX1,zY0] at he;obtain⟨ds,hds,rfl⟩:=he;have hj:=(zW7.mp hds).1;have ej:=tR hds (ws u um).1;have sj:sr (coB Bs) (j+1) day u=sr (coB Bs) j day u++((coB Bs j u.1 day).map fun x=>(u.2.1+x,(u.1,day,j))).toList:=by
     unfold sr;rw[yd6,List.filterMap_append];simp only[ya0,List.filterMap_nil];cases (coB Bs j u.1 day)<;>rfl
    refine⟨_,rfl,?_⟩;ext;refine⟨ds,u.1,day,rfl,bo ds (z27 hds),(ws u um).1,?_⟩;ext;refine yq (fun hc=>?_) (fun hc=>?_)
    ·cases ex:coO ds u.1 day with
     |none=>rw[ex] at hc;cases hc
     |some x=>
      ext;refine xt (k:=.inl u.1) rfl (by rw[zU,(ws u um).2]<;>rfl) ?_;ext;refine⟨?_,?_⟩
      ·have l1:(arrOf Bs (W.take i) day).length<=(W.take i).length*Bs.length:=gr _;have l2:=zf4 (co:=coB Bs) (j:=j) (day:=day) (w:=u);have l3:(W.take i).length*Bs.length<=20*8:=Nat.mul_le_mul (by rw[zZ4];omega) bl;rw[zW3,zY6];omega
      ·ext;have e1:List.map vo (arrOf Bs (W.take i) day++sr (coB Bs) (j+1) day u)=List.map vo (arrOf Bs (W.take i) day++sr (coB Bs) j day u)++[vo (u.2.1+x,(u.1,day,j))]:=by
        rw[sj,ej,ex,<-List.append_assoc,zZ9 (l₂:=(Option.map _ _).toList)];rfl
       exact⟨_,_,_,by rw[e1,Nat.zero_add]<;>rfl⟩
    ·ext;have hn:coO ds u.1 day=none:=by
      cases ex:coO ds u.1 day with
      |none=>rfl
      |some x=>rw[ex] at hc;cases hc
     have e1:sr (coB Bs) (j+1) day u=sr (coB Bs) j day u:=by
      rw[sj,ej,hn];simp only[Option.map_none,Option.toList_none,z40]
     exact⟨_,_,_,by rw[e1]<;>rfl⟩
   ·rintro α ⟨o5,o6,o7,rfl⟩;ext;have:arrOf Bs (W.take (i+1)) day=arrOf Bs (W.take i) day++sr (coB Bs) Bs.length day u:=by
     unfold arrOf sy;rw[z52,hu,List.flatMap_append];simp[zj1,sr]
    exact⟨_,_,_,_,by rw[this,va,zW3]⟩
  ·rintro α ⟨o4,o5,o6,o7,rfl⟩;rw[zW3,zW3,z66];exact xr 3 rfl q
theorem zN3 :zm ["books","stay","ways","day","found"] ["books","stay"] (zb sLW):=.o
theorem zF3 {f C:Addr}{fd:FuncData}(F:Fun K "least_ways" "least_ways" sLW f fd)(hm:mg "least_ways"=some (.ref f))(hb:Binds K fd ["books","stay"] [])(nb:NbT mg)(CA:Cal P w K mg base "arrivals" 7 (zA4 C cs)):Cal P w K mg base "least_ways" 8 (zQ0 C cs):=by
 refine yM F hm hb zN3 (fun as Q h=>?_) (fun cdv A' outer s H E as Q hr h=>?_)
 ·obtain⟨Bs,c,g,rfl,_⟩:=h;rfl
 ·obtain⟨Bs,c,g,rfl,bo,bl,⟨c0,cg,g1,g2⟩,q⟩:=h;have nd:=zN3.nd;refine gL 2 nd (kJ ?_);ext;refine⟨.inl c,rfl,?_⟩;refine yG (.one 3) (xo (by rfl) nb.range ?_);ext;refine⟨⟨by omega,by omega,by omega,by omega⟩,?_⟩;refine zN (fun i α=>∃o3 o4:Option A,α=[some (.dat (zI C cs Bs)),some (.dat (.tuple [.int c,.int g])),some (.dic ((yu (coB Bs) Bs.length c i).map xY)),o3,o4]) ⟨none,none,rfl⟩ ?_ ?_
  ·rintro i d α hd ⟨o3,o4,rfl⟩;rw[zX1,zY0] at hd;obtain⟨z,hz,rfl⟩:=hd;have hi:=(zW7.mp hz).1;rw[zc] at hi;rw[zK hi] at hz;cases hz;have hi':(i:Int)<g-c:=by omega
   have iv:=zq5 (co:=coB Bs) (N:=Bs.length) c i;have wl:=rT (co:=coB Bs) (N:=Bs.length) (c:=c) i;refine⟨_,rfl,?_⟩;refine zQ 4 nd (EvL.d (zl2 2 rfl ?_));ext;refine⟨Bs,yu (coB Bs) Bs.length c i,c+1+(i:Int),rfl,bo,bl,by omega,fun u hu=>⟨?_,iv.find hu⟩,?_⟩
   ·have h1:=iv.low u hu;have h2:=iv.top u hu;exact⟨by omega,by omega,by omega,by omega⟩
   refine⟨_,rfl,wL (fun _=>rfl) _,?_⟩;ext;have nx:yu (coB Bs) Bs.length c (i+1)=mL (coB Bs) Bs.length (yu (coB Bs) Bs.length c i) (c+1+(i:Int)):=rfl;unfold mL at nx;rw[show (!(List.map vo (arrOf Bs (yu (coB Bs) Bs.length c i) (c+1+(i:Int)))).isEmpty)=!(arrOf Bs (yu (coB Bs) Bs.length c i) (c+1+(i:Int))).isEmpty by rw[isEmpty_map]];refine yq (fun hc=>?_) (fun hc=>?_)
   ·have ne:arrOf Bs (yu (coB Bs) Bs.length c i) (c+1+(i:Int))≠[]:=fun e=>by rw[e] at hc;cases hc
    rw[if_neg ne] at nx;refine ng 2 hr.one rfl (zu9 rfl hr.few (by rfl) nb.min ?_);ext;refine⟨fun e=>ne (ya3.mp e),xq (fun _=>rfl) _,zh1 _,fun d hd=>?_,?_⟩
    ·obtain⟨p,_,rfl⟩:=z06.mp hd;exact⟨rfl,by simp[vo,yg,PyData.depth,PyData.depthAll]⟩
    rw[zp7 ne];ext;refine⟨.inl (c+1+(i:Int)),rfl,by rw[zW3];omega,?_⟩;ext;have fn:zr (yu (coB Bs) Bs.length c i) (c+1+(i:Int))=none:=by
     cases e:zr (yu (coB Bs) Bs.length c i) (c+1+(i:Int)) with
     |none=>rfl
     |some p=>
      have:=iv.top _ (find_some (x:=p.1) (l:=p.2) e);have:c+1+(i:Int)<=c+i:=this;omega
    exact⟨_,_,by rw[nx,<-zd6 fn]<;>rfl⟩
   ·have e:arrOf Bs (yu (coB Bs) Bs.length c i) (c+1+(i:Int))=[]:=by
     cases e:arrOf Bs (yu (coB Bs) Bs.length c i) (c+1+(i:Int)) with
     |nil=>rfl
     |cons a l=>rw[e] at hc;cases hc
    rw[if_pos e] at nx;ext;exact⟨_,_,by rw[nx]<;>rfl⟩
  ·rintro α ⟨o3,o4,rfl⟩;rw[zW3,zc,show (g+1-(c+1)).toNat=(g-c).toNat by omega];refine zi7 2 rfl ?_;ext;exact q
theorem zS3 :zm ["ways","stay","backwards","day","part"] ["ways","stay"] (zb jY):=.o
theorem zn4 {f:Addr}{fd:FuncData}(F:Fun K "cut_of" "cut_of" jY f fd)(hm:mg "cut_of"=some (.ref f))(hb:Binds K fd ["ways","stay"] [])(nb:NbT mg):Cal P w K mg base "cut_of" 1 hV:=by
 refine yM F hm hb zS3 (fun as Q h=>?_) (fun cdv A' outer s H E as Q hr h=>?_)
 ·obtain⟨W,c,g,rfl,_⟩:=h;rfl
 ·obtain⟨W,c,g,rfl,⟨wl,co,N,iv⟩,⟨c0,cg,g1,g2⟩,⟨p0,hp0⟩,q⟩:=h;have nd:=zS3.nd;refine yV 2 nd ?_;ext;generalize hn:(g-c).toNat=n at iv q;refine lj z42 (fun m α=>∃(o4:Option A) (d:Int) (p:Int×Option Part) (acc:List Part),α=[some (.dat (yP (W.map xY))),some (.dat (.tuple [.int c,.int g])),some (.own (acc.map yg)),some (.dat (.int d)),o4]/\zr W d=some p/\d-c<=m/\acc.length+m<=n/\vD W c n g=acc++vD W c m d) n ⟨none,g,p0,[],rfl,hp0,by omega,by simp,rfl⟩ ?_;rintro m α ⟨o4,d,p,acc,rfl,fd,dm,al,eb⟩;have wm:=find_some (x:=p.1) (l:=p.2) fd;have lo:c<=d:=iv.low _ wm;ext;refine vc (fun hc=>?_) (fun hc=>?_)
  ·have hdc:d≠c:=by simpa using hc
   obtain⟨m,rfl⟩:∃k,m=k+1:=⟨m-1,by omega⟩;rcases iv.step _ wm with e|⟨u,hu,k,y,h1,h2,h3,e⟩
   ·injection e with e _;exact absurd e hdc
   have h1:u.1<d:=h1;have e:(d,p.1,p.2)=(d,u.2.1+y,some (u.1,d,k)):=e;have ep:p=(u.2.1+y,some (u.1,d,k)):=by injection e
   ext;refine xt (k:=.inl d) rfl (by rw[zU,fd]<;>rfl) ?_;rw[ep];ext;refine⟨by rw[zW3];omega,?_⟩;ext;refine⟨m,by omega,_,u.1,u.2,acc++[(u.1,d,k)],by rw[zZ9]<;>rfl,iv.find hu,by omega,by rw[zY6,z46];omega,?_⟩;rw[eb,vD,if_neg hdc,fd,ep,List.append_assoc];rfl
  ·have hdc:d=c:=by simpa using hc
   subst hdc;refine tN (hG 2 rfl (jt rfl (by rfl) nb.list (by rfl) nb.reversed ?_));ext;have:vD W d m d=[]:=by cases m<;>simp[vD]
   rw[this,z40] at eb;rw[eb] at q;rw[<-List.map_reverse];exact⟨wL (fun _=>rfl) _,q⟩
theorem zQ3 :zm ["ways","stay","highest","heights"] ["ways","stay"] (zb jG):=.o
theorem dJ {f:Addr}{fd:FuncData}(F:Fun K "paper_of" "paper_of" jG f fd)(hm:mg "paper_of"=some (.ref f))(hb:Binds K fd ["ways","stay"] [])(nb:NbT mg):Cal P w K mg base "paper_of" 1 gj:=by
 refine yM F hm hb zQ3 (fun as Q h=>?_) (fun cdv A' outer s H E as Q hr h=>?_)
 ·obtain⟨W,c,g,rfl,_⟩:=h;rfl
 ·obtain⟨W,c,g,rfl,⟨wl,co,N,iv⟩,⟨c0,cg,g1,g2⟩,q⟩:=h;have nd:=zQ3.nd;refine zQ 2 nd (gg rfl (by rfl) nb.max (EvL.d (wo ["way"] [none] (.one 0) (gQ ?_))));ext;refine⟨by rw[zW3,zW3];omega,?_⟩;rw[zZ6];refine ym (fun u=>.int u.2.1) (fun u hu=>⟨_,rfl,fun _ _ _ _ _ k=>?_⟩) ?_
  ·ext;exact k
  refine⟨wM W,by unfold wM;rw[zZ6]<;>rfl,fun e=>?_,?_⟩
  ·obtain⟨r,hr,_⟩:=iv.first;rw[hr] at e;cases e
  generalize hn:(g-c).toNat=n at iv q;refine jR 3 ["day","ways","highest"] [none,some 0,some 2] (.one 0) (xo (by rfl) nb.range ?_);ext;refine⟨⟨by omega,by omega,by omega,by omega⟩,by rw[zW3,zc];omega,?_⟩;rw[show (g+1-c).toNat=n+1 by omega];refine ym (fun d=>.int (hW W d)) (fun d hd=>⟨_,rfl,fun _ _ _ _ _ k=>?_⟩) ?_
  ·ext;refine wa (k:=.inl d) rfl ?_;rw[zU];cases e:zr W d with
   |none=>
    ext;rw[vv e] at k;exact k
   |some p=>
    ext;refine xt (k:=.inl d) rfl (by rw[zU,e]<;>rfl) ?_;ext;rw[yY (x:=p.1) (l:=p.2) e] at k;exact k
  refine qS 3 rfl ?_;refine tN (wo ["lower","higher"] [none,none] (.many [0,1]) (zk5 (by rfl) nb.zip ?_));ext;have e0:(zp c (n+1)).map (fun d=>PyData.int (hW W d))=((zp c (n+1)).map (hW W)).map PyData.int:=by rw[zZ6]<;>rfl
  rw[z08,e0,zc2];refine⟨by rw[zW3,zc];omega,?_⟩;refine ym (fun d=>.int (hW W (d+1)-hW W d)) (fun d hd=>⟨_,rfl,fun _ _ _ _ _ k=>?_⟩) ?_
  ·ext;exact k
  ·unfold wJ at q;rw[zZ6] at q;exact q
theorem zM9 :zm ["books","stay","ways"] ["books","stay"] (zb zc1):=.o
theorem zg4 {f C:Addr}{fd:FuncData}(F:Fun K "best" "best" zc1 f fd)(hm:mg "best"=some (.ref f))(hb:Binds K fd ["books","stay"] [])(nb:NbT mg)(CL:Cal P w K mg base "least_ways" 8 (zQ0 C cs))(CC:Cal P w K mg base "cut_of" 1 hV)(CP:Cal P w K mg base "paper_of" 1 gj):Cal P w K mg base "best" 9 (za6 C cs):=by
 refine yM F hm hb zM9 (fun as Q h=>?_) (fun cdv A' outer s H E as Q hr h=>?_)
 ·obtain⟨Bs,c,g,rfl,_⟩:=h;rfl
 ·obtain⟨Bs,c,g,rfl,bo,bl,sb,q⟩:=h;obtain⟨c0,cg,g1,g2⟩:=id sb;have nd:=zM9.nd;have iv:=zq5 (co:=coB Bs) (N:=Bs.length) c (g-c).toNat;have wl:=rT (co:=coB Bs) (N:=Bs.length) (c:=c) (g-c).toNat;have wb:zj9 (iV Bs c g) c g:=⟨by show (yu _ _ _ _).length<=20;omega,_,_,iv⟩;ext;refine⟨Bs,c,g,rfl,bo,bl,sb,?_⟩;ext;refine wa (k:=.inl g) rfl ?_;rw[zU];unfold bestOf mY at q;cases e:zr (iV Bs c g) g with
  |none=>
   rw[e] at q;refine uQ rfl ?_;refine fc (zd4 (wY (ja (yd ⟨rfl,?_⟩))));refine wY (oQ (ze9 rfl (by rfl) nb.list (zf 2 rfl ⟨_,rfl,?_⟩)));rw[zZ6];refine⟨wL (fun _=>rfl) _,gu ⟨zY5 rfl,?_⟩⟩;exact q
  |some p=>
   rw[e] at q;refine ve rfl (zu ?_);refine fc (zd4 (wY (ja (yd ⟨rfl,?_⟩))));refine wY (ja ?_);ext;refine xt (k:=.inl g) rfl (by rw[zU,e]<;>rfl) ?_;ext;refine⟨rfl,wY (oQ ?_)⟩;ext;refine⟨_,c,g,rfl,wb,sb,⟨p,e⟩,_,rfl,wL (fun _=>rfl) _,wY (oQ ?_)⟩;ext;refine⟨_,c,g,rfl,wb,sb,_,rfl,wL (fun _=>rfl) _,gu ⟨zY5 rfl,?_⟩⟩;exact q
end
structure zw2 (Bs:List (List PyData))(c g x:Int)(ps:List Part)(pp:List Int):Prop where
 eq:bestOf Bs c g=.tuple [.str "had",.int x,.list (ps.map yg),.list (pp.map .int)]
 cut:Cut (coB Bs) Bs.length c g x ps
 least:∀y qs,Cut (coB Bs) Bs.length c g y qs->x<=y
 plen:pp.length=(g-c).toNat
 psum:pp.sum=x
 paper:∀n b e y,n<Bs.length->c<=b->b<e->e<=g->coB Bs n b e=some y->((pp.drop (b-c).toNat).take (e-b).toNat).sum<=y
 pbd:∀n∈pp,-300000000000000<=n/\n<=300000000000000
theorem zl6 {co:Co}{N:Nat}{a b z:Int}{ps:List Part}(h:Cut co N a b z ps)(h0:∀n b e x,n<N->co n b e=some x->0<=x/\x<=15000000000000):0<=z/\z<=15000000000000*(b-a):=by
 induction h with
 |nil a=>omega
 |@cons a e b x z n ps h1 h2 h3 h ih=>
  have:=h0 _ _ _ _ h2 h3;omega
theorem zA2 {co:Co}{N:Nat}{c:Int}{n:Nat}{W:List Way}(iv:vg co N c n W)(hn:n<=14)(h0:∀n b e x,n<N->co n b e=some x->0<=x/\x<=15000000000000)(d:Int):0<=hW W d/\hW W d<=210000000000000:=by
 have one:∀w∈W,0<=w.2.1/\w.2.1<=210000000000000:=fun w hw=>by
  have t:=iv.top w hw;have l:=iv.low w hw;have:=zl6 (iv.back n (d:=w.1) (x:=w.2.1) (l:=w.2.2) hw (by omega)) h0;omega
 cases e:zr W d with
 |some p=>
  rw[yY (x:=p.1) (l:=p.2) e];exact one _ (find_some (x:=p.1) (l:=p.2) e)
 |none=>
  rw[vv e];have:uJ (wM W)∈wM W:=kq fun z=>by
   obtain⟨r,hr,_⟩:=iv.first;rw[hr] at z;cases z
  unfold wM at this;obtain⟨w,hw,ew⟩:=z06.mp this;have:=one w hw;unfold jM wM;rw[<-ew];exact this
structure zu6 (Bs:List (List PyData))(c g:Int)(ds:List Int):Prop where
 eq:bestOf Bs c g=.tuple [.str "off",.list (ds.map .int)]
 none:∀y qs,¬Cut (coB Bs) Bs.length c g y qs
 first:∃r,ds=c::r
 sort:ds.Pairwise (·<·)
 rng:∀d∈ds,c<=d/\d<g
 shut:∀d∈ds,∀e n y,d<e->e<=g->n<Bs.length->coB Bs n d e=some y->e∈ds
theorem jL {Bs:List (List PyData)}{c g:Int}(bo:zM Bs)(sb:zL c g):(∃x ps pp,zw2 Bs c g x ps pp)\/∃ds,zu6 Bs c g ds:=by
 obtain⟨c0,cg,g1,g2⟩:=sb;obtain⟨n,hn⟩:∃n:Nat,g=c+n:=⟨(g-c).toNat,by omega⟩;subst hn;have en:(c+(n:Int)-c).toNat=n:=by omega
 have iv:=zq5 (co:=coB Bs) (N:=Bs.length) c n;have h0:∀m b e x,m<Bs.length->coB Bs m b e=some x->0<=x:=fun m b e x hm h=>(wW bo hm h).2.2.2.1;have eq:bestOf Bs c (c+n)=_:=rfl;unfold bestOf mY at eq;rw[en] at eq;cases e:zr (yu (coB Bs) Bs.length c n) (c+n) with
 |none=>
  right;rw[e] at eq;refine⟨(yu (coB Bs) Bs.length c n).map (·.1),?_,fun y qs=>iv.off e,?_,iv.sort,fun d hd=>?_,fun d hd k m y h1 h2 h3 h4=>?_⟩
  ·unfold bestOf mY;rw[en,e,zZ6];rfl
  ·obtain⟨r,hr,_⟩:=iv.first;rw[hr];exact⟨_,rfl⟩
  ·obtain⟨u,hu,rfl⟩:=z06.mp hd;have h1:=iv.low u hu;have h2:=iv.top u hu;have h3:=find_none e u hu;exact⟨h1,by omega⟩
  ·obtain⟨u,hu,rfl⟩:=z06.mp hd;obtain⟨v,hv,e1,_⟩:=iv.shut u hu k m y h1 h2 h3 h4;exact z06.mpr ⟨v,hv,e1⟩
 |some p=>
  left;have hd:=iv.had (x:=p.1) (l:=p.2) e;refine⟨p.1,(vD (yu (coB Bs) Bs.length c n) c n (c+n)).reverse,wJ (yu (coB Bs) Bs.length c n) c n,?_,iv.back n (find_some (x:=p.1) (l:=p.2) e) (by omega),hd.2,?_,?_,fun m b k y h1 h2 h3 h4 h5=>?_,?_⟩
  ·unfold bestOf mY;rw[en,e]
  ·rw[cR,en]
  ·rw[cN,yY (x:=p.1) (l:=p.2) e,yY iv.zero];omega
  rotate_left
  ·intro n' hn';unfold wJ at hn';obtain⟨d,_,rfl⟩:=z06.mp hn';have b0:∀m b e x,m<Bs.length->coB Bs m b e=some x->0<=x/\x<=15000000000000:=fun m b e x hm h=>(wW bo hm h).2.2.2;have h1:=zA2 iv (by omega) b0 (d+1);have h2:=zA2 iv (by omega) b0 d;omega
  ·rw[eW (by omega),show c+((b-c).toNat:Int)=b by omega,show b+((k-b).toNat:Int)=k by omega];cases eb:zr (yu (coB Bs) Bs.length c n) b with
   |none=>
    have:=zy5 (yu (coB Bs) Bs.length c n) k;rw[vv eb];have:=h0 _ _ _ _ h1 h5;omega
   |some q=>
    obtain⟨v,hv,e1,e2⟩:=iv.shut _ (find_some (x:=q.1) (l:=q.2) eb) k m y h3 h4 h1 h5;rw[yY (x:=q.1) (l:=q.2) eb,yY (x:=v.2.1) (l:=v.2.2) (iv.find (by rw[<-e1];exact hv))];exact Int.sub_left_le_of_le_add e2
theorem jv {Bs:List (List PyData)}{n:Nat}(hn:n<Bs.length):∃ds,Bs[n]?=some ds/\Bs.getD n []=ds:=⟨Bs[n],zW6 hn,by rw[zW8,zW6 hn]<;>rfl⟩
noncomputable abbrev nJ :Stmt:=top 75
def mM (C:Addr)(cs:Cs):List A->(A->Prop)->Prop:=fun as Q=>∃bs dy:Int,as=[.tape,.dat (.int bs),.dat (.int dy)]/\Bd bs dy/\∀Bs,zM Bs->1<=Bs.length->Bs.length<=4->(∀ds∈Bs,ds.length<=10)->(∀ds∈Bs,yC bs (bs+dy+5) ds)->Q (.own (Bs.map (yK C cs)))
section
variable {P:Program}{w:World}{K:PySem.W.Frag}{mg:Str->Option Value}{base:Heap}{cs:Cs}
theorem zN5 :zm ["_law_tape_here","_law_base","_law_days","_law_found","_law_k"] ["_law_tape_here","_law_base","_law_days"] (zb nJ):=.o
theorem iT {f C:Addr}{fd:FuncData}(F:Fun K "_law_books" "_law_books" nJ f fd)(hm:mg "_law_books"=some (.ref f))(hb:Binds K fd ["_law_tape_here","_law_base","_law_days"] [])(nb:NbT mg)(CD:Cal P w K mg base "_law_draw" 1 xI)(CR:Cal P w K mg base "_law_rules" 5 rF)(CK:zg8 P w K mg base "Book" 9 [] (nr C cs)):Cal P w K mg base "_law_books" 11 (mM C cs):=by
 refine yM F hm hb zN5 (fun as Q h=>?_) (fun cdv A' outer s H E as Q hr h=>?_)
 ·obtain⟨bs,dy,rfl,_⟩:=h;rfl
 ·obtain⟨bs,dy,rfl,bd,q⟩:=h;have nd:=zN5.nd;refine yV 3 nd ?_;ext;refine yG (.one 4) (xF (by rfl) nb.range ?_);ext;rename_i v h0 h1;refine⟨by omega,by omega,?_⟩;refine zN (fun i α=>∃(o4:Option A) (Bs:List (List PyData)),α=[some .tape,some (.dat (.int bs)),some (.dat (.int dy)),some (.own (Bs.map (yK C cs))),o4]/\(∀ds∈Bs,yC bs (bs+dy+5) ds)/\Bs.length=i/\∀ds∈Bs,ds.length<=10) ⟨none,[],rfl,fun _ h=>by simp at h,rfl,fun _ h=>by simp at h⟩ ?_ ?_
  ·rintro i d α hd ⟨o4,Bs,rfl,bo,bl,dl⟩;have hi:=(zW7.mp hd).1;rw[zW3,zc] at hi;refine⟨_,rfl,?_⟩;ext;refine⟨bs,dy,rfl,⟨bd.1,by have:=bd.2.1;omega,bd.2.2.1,by have:=bd.2.2.2;omega⟩,fun ds ro ld=>?_⟩;ext;refine gk (fun d=>∃b:Int,d=.int b) rfl (by assumption) (by assumption) ⟨⟨_,rfl⟩,⟨_,rfl⟩,trivial⟩ ?_;rintro _ ⟨b,rfl⟩;ext;have rc:yC bs (bs+dy+5) (L2.cutD ds none (some b)):=fun d hd=>ro d (zt2 hd);have lc:=z24 (zq7 (ds:=ds) (lo:=none) (hi:=some b)) ld;refine⟨_,.inl rfl,(rc.ok bd.1 (by have:=bd.2.1;have:=bd.2.2.2;omega)).rules,by omega,?_⟩;ext;refine⟨by rw[zW3];omega,?_⟩;ext;refine⟨_,Bs++[L2.cutD ds none (some b)],by rw[zZ9]<;>rfl,fun x hx=>?_,by rw[zY6,bl]<;>rfl,fun x hx=>?_⟩
   ·rcases z20.mp hx with hx|hx
    ·exact bo x hx
    ·rw[zX5.mp hx];exact rc
   ·rcases z20.mp hx with hx|hx
    ·exact dl x hx
    ·rw[zX5.mp hx];exact lc
  ·rintro α ⟨o4,Bs,rfl,bo,bl,dl⟩;rw[zW3,zc] at bl;exact xr 3 rfl (q Bs (fun ds hd=>(bo ds hd).ok bd.1 (by have:=bd.2.1;have:=bd.2.2.2;omega)) (by omega) (by omega) dl bo)
def gP (C:Addr)(cs:Cs):List A->(A->Prop)->Prop:=fun as Q=>∃bs dy:Int,as=[.tape,.dat (.int bs),.dat (.int dy)]/\Bd bs dy/\∀Bs,zM Bs->1<=Bs.length->Bs.length<=4->(∀ds∈Bs,ds.length<=10)->Q (.own (Bs.map (yK C cs)))
theorem ze6 {C:Addr}{x:Str}{k:Nat}(CB:Cal P w K mg base x k (mM C cs)):Cal P w K mg base x k (gP C cs):=CB.imp fun as Q h=>by
 obtain⟨bs,dy,rfl,bd,q⟩:=h;exact⟨bs,dy,rfl,bd,fun Bs h1 h2 h3 h4 _=>q Bs h1 h2 h3 h4⟩
end
noncomputable abbrev zi9 :Stmt:=top 74
def zk6 :List A->(A->Prop)->Prop:=fun as Q=>∃bs dy:Int,as=[.tape,.dat (.int bs),.dat (.int dy)]/\Bd bs dy/\∀c g:Int,bs<=c->c<g->g<=bs+dy->Q (.dat (.tuple [.int c,.int g]))
section
variable {P:Program}{w:World}{K:PySem.W.Frag}{mg:Str->Option Value}{base:Heap}
theorem zC7 :zm ["_law_tape_here","_law_base","_law_days","_law_many","_law_come"] ["_law_tape_here","_law_base","_law_days"] (zb zi9):=.o
theorem aj {f:Addr}{fd:FuncData}(F:Fun K "_law_stay" "_law_stay" zi9 f fd)(hm:mg "_law_stay"=some (.ref f))(hb:Binds K fd ["_law_tape_here","_law_base","_law_days"] [])(CD:Cal P w K mg base "_law_draw" 1 xI):Cal P w K mg base "_law_stay" 2 zk6:=by
 refine yM F hm hb zC7 (fun as Q h=>?_) (fun cdv A' outer s H E as Q hr h=>?_)
 ·obtain⟨bs,dy,rfl,_⟩:=h;rfl
 ·obtain⟨bs,dy,rfl,⟨b1,b2,b3,b4⟩,q⟩:=h;have hbig:(1000001:Int)<big:=by decide
  refine zQ 3 zC7.nd (xG (yc (yA CD hr (by rfl) (yi 0 rfl (zh (zf 2 rfl (zv (⟨_,rfl,by omega,by omega,fun v1 h1 g1=>⟨_,_,rfl,rfl,?_⟩⟩))))))));refine zQ 4 zC7.nd (xG (zf 1 rfl (yA CD hr (by rfl) (yi 0 rfl (zh (xG (oO (zf 2 rfl (zf 3 rfl (⟨_,_,rfl,rfl,yc (⟨_,_,rfl,rfl,zv (⟨_,rfl,by omega,by omega,fun v2 h2 g2=>⟨_,_,rfl,rfl,?_⟩⟩)⟩)⟩))))))))));refine wF (xO (zh (zf 4 rfl (zh (xG (zf 4 rfl (zf 3 rfl (⟨_,_,rfl,rfl,zv (⟨_,rfl,zY5 rfl,?_⟩)⟩))))))));exact q _ _ (by omega) (by omega) (by omega)
end
noncomputable abbrev oU :Stmt:=top 27
noncomputable abbrev kK :Stmt:=top 28
abbrev P3 :=Int×Int×Int
noncomputable def pD (p:P3):PyData:=.tuple [.int p.1,.int p.2.1,.int p.2.2]
theorem rZ (ps:List P3):(PyData.list (ps.map pD)).hasDict=false:=by
 rw[PyData.hasDict];exact xq (fun _=>rfl) ps
theorem uj (zs:List Int):(PyData.list (zs.map .int)).hasDict=false:=by
 rw[PyData.hasDict];exact xq (fun _=>rfl) zs
noncomputable def tQ (Bs:List (List PyData))(c g:Int)(p:P3):Bool:=decide (c<=p.1)&&(decide (p.1<p.2.1)&&(decide (p.2.1<=g)&&(decide (0<=p.2.2)&&(decide (p.2.2<Bs.length)&&vH (Bs.getD p.2.2.toNat []) p.1 p.2.1))))
noncomputable def uK (Bs:List (List PyData))(c g:Int):Int->List P3->Bool
 |day,[]=>decide (day=g)
 |day,p::ps=>tQ Bs c g p&&(decide (p.1=day)&&uK Bs c g p.2.1 ps)
def gS :List A->(A->Prop)->Prop:=fun as Q=>∃z:Int,as=[.dat (.int z)]/\Q (.dat (.bool true))
def zf7 (C:Addr)(cs:Cs):List A->(A->Prop)->Prop:=fun as Q=>∃(Bs:List (List PyData)) (c g:Int) (p:P3),as=[.dat (zI C cs Bs),.dat (.tuple [.int c,.int g]),.dat (pD p)]/\zM Bs/\zL c g/\Q (.dat (.bool (tQ Bs c g p)))
def gp (C:Addr)(cs:Cs):List A->(A->Prop)->Prop:=fun as Q=>∃(Bs:List (List PyData)) (c g:Int) (ps:List P3),as=[.dat (zI C cs Bs),.dat (.tuple [.int c,.int g]),.dat (.list (ps.map pD))]/\zM Bs/\zL c g/\Q (.dat (.bool (uK Bs c g c ps)))
theorem cA {ι:Type}(l:List ι):(l.map fun _=>true).all id=true:=by simp
theorem og {ι:Type}(l:List ι):l.map (fun _=>PyData.bool true)=(l.map fun _=>true).map .bool:=by rw[zZ6]<;>rfl
section
variable {P:Program}{w:World}{K:PySem.W.Frag}{mg:Str->Option Value}{base:Heap}{cs:Cs}
theorem zq1 {f:Addr}{fd:FuncData}(F:Fun K "is_whole" "is_whole" qu f fd)(hm:mg "is_whole"=some (.ref f))(hb:Binds K fd ["thing"] [])(nb:NbT mg):Cal P w K mg base "is_whole" 1 gS:=by
 refine yM F hm hb oK (fun as Q h=>?_) (fun cdv A' outer s H E as Q hr h=>?_)
 ·obtain⟨z,rfl,_⟩:=h;rfl
 ·obtain⟨z,rfl,q⟩:=h;have nd:=oK.nd;ext;exact q
theorem zM7 :zm ["books","stay","thing"] ["books","stay","thing"] (zb oU):=.o
theorem bK {f C:Addr}{fd:FuncData}(F:Fun K "is_part" "is_part" oU f fd)(hm:mg "is_part"=some (.ref f))(hb:Binds K fd ["books","stay","thing"] [])(nb:NbT mg)(CW:Cal P w K mg base "is_whole" 1 gS)(CH:Cal P w K mg base "can_be_had" 4 (lq C cs)):Cal P w K mg base "is_part" 5 (zf7 C cs):=by
 refine yM F hm hb zM7 (fun as Q h=>?_) (fun cdv A' outer s H E as Q hr h=>?_)
 ·obtain⟨Bs,c,g,p,rfl,_⟩:=h;rfl
 ·obtain⟨Bs,c,g,⟨b,e,n⟩,rfl,bo,⟨c0,cg,g1,g2⟩,q⟩:=h;have nd:=zM7.nd;refine zP (fun α=>α=[some (.dat (zI C cs Bs)),some (.dat (.tuple [.int c,.int g])),some (.dat (.tuple [.int b,.int e,.int n]))]) ?_ ?_
  ·ext;rfl
  rintro α rfl;refine zP (fun α=>α=[some (.dat (zI C cs Bs)),some (.dat (.tuple [.int c,.int g])),some (.dat (.tuple [.int b,.int e,.int n]))]) ?_ ?_
  ·refine xf (sD (qV (oN rfl (by rfl) nb.all (EvL.d (wo ["number"] [none] (.one 0) (zB5 (zf 2 rfl ⟨_,rfl,zY5 rfl,?_⟩)))))));refine ym (g:=PyData.int) (l:=[b,e,n]) (fun _=>.bool true) (fun z hz=>⟨_,rfl,fun _ _ _ _ _ k=>?_⟩) ?_
   ·ext;exact k
   rw[z08,og];ext;rfl
  rintro α rfl;unfold tQ at q;refine zP (fun α=>α=[some (.dat (zI C cs Bs)),some (.dat (.tuple [.int c,.int g])),some (.dat (.tuple [.int b,.int e,.int n]))]/\c<=b/\b<e/\e<=g) ?_ ?_
  ·refine xf (sD (dC ?_));ext;refine vc (fun h1=>?_) (fun h1=>?_)
   ·ext;refine vc (fun h2=>?_) (fun h2=>?_)
    ·ext;refine yq (fun h3=>?_) (fun h3=>?_)
     ·ext;have h3:decide (e<=g)=false:=by simpa using h3
      simp only[h1,h2,h3,z03,z01] at q;exact q
     ·ext;have h3:e<=g:=by simpa using h3
      exact⟨rfl,z21 h1,z21 h2,h3⟩
    ·ext;simp only[h1,h2,z03,z01] at q;exact q
   ·ext;simp only[h1,z01] at q;exact q
  rintro α ⟨rfl,h1,h2,h3⟩;simp only[z02 h1,z02 h2,z02 h3,z03] at q;ext;refine vc (fun h4=>?_) (fun h4=>?_)
  ·ext;rw[zW3];refine vc (fun h5=>?_) (fun h5=>?_)
   ·have h4':=z21 h4;have h5':=z21 h5;obtain⟨m,rfl⟩:∃m:Nat,n=m:=⟨n.toNat,by omega⟩;have hm':m<Bs.length:=by omega
    obtain⟨ds,hn,en⟩:=jv hm';ext;refine ixk rfl rfl (yH (j:=m) (by rw[zX1,hn]<;>rfl)) ?_;ext;refine⟨ds,b,e,rfl,bo ds (z27 hn),⟨by omega,by omega,by omega,by omega⟩,?_⟩;rw[z30,en] at q;simp only[h4,h5,z03] at q;exact q
   ·ext;simp only[h4,h5,z03,z01] at q;exact q
  ·ext;simp only[h4,z01] at q;exact q
theorem zO4 :zm ["books","stay","thing","day","part"] ["books","stay","thing"] (zb kK):=.o
theorem eE {f C:Addr}{fd:FuncData}(F:Fun K "is_cut" "is_cut" kK f fd)(hm:mg "is_cut"=some (.ref f))(hb:Binds K fd ["books","stay","thing"] [])(nb:NbT mg)(CP:Cal P w K mg base "is_part" 5 (zf7 C cs)):Cal P w K mg base "is_cut" 6 (gp C cs):=by
 refine yM F hm hb zO4 (fun as Q h=>?_) (fun cdv A' outer s H E as Q hr h=>?_)
 ·obtain⟨Bs,c,g,ps,rfl,_⟩:=h;rfl
 ·obtain⟨Bs,c,g,ps,rfl,bo,sb,q⟩:=h;have nd:=zO4.nd;refine zP (fun α=>α=[some (.dat (zI C cs Bs)),some (.dat (.tuple [.int c,.int g])),some (.dat (.list (ps.map pD))),none,none]) ?_ ?_
  ·ext;refine⟨_,rZ _,rfl,?_⟩;ext;rfl
  rintro α rfl;ext;refine yG (.one 4) (yX ?_);ext;refine zN (fun i α=>∃(o4:Option A) (day:Int),α=[some (.dat (zI C cs Bs)),some (.dat (.tuple [.int c,.int g])),some (.dat (.list (ps.map pD))),some (.dat (.int day)),o4]/\uK Bs c g c ps=uK Bs c g day (ps.drop i)) ⟨none,c,rfl,rfl⟩ ?_ ?_
  ·rintro i d α hd ⟨o4,day,rfl,ec⟩;rw[zX1,zY0] at hd;obtain⟨p,hp,rfl⟩:=hd;have hi:=(zW7.mp hp).1;rw[z79 hi,show ps[i]=p from (zW7.mp hp).2,uK] at ec;refine⟨_,rfl,?_⟩;ext;refine⟨Bs,c,g,p,rfl,bo,sb,?_⟩;ext;refine vc (fun h1=>?_) (fun h1=>?_)
   ·have h1:tQ Bs c g p=false:=by simpa using h1
    rw[h1,z01] at ec;rw[ec] at q;ext;exact q
   ·have h1:tQ Bs c g p=true:=by simpa using h1
    rw[h1,z03] at ec;unfold pD;ext;refine yq (fun h2=>?_) (fun h2=>?_)
    ·have h2:decide (p.1=day)=false:=by simpa using h2
     rw[h2,z01] at ec;rw[ec] at q;ext;exact q
    ·have h2:decide (p.1=day)=true:=by simpa using h2
     rw[h2,z03] at ec;ext;exact⟨_,_,rfl,ec⟩
  ·rintro α ⟨o4,day,rfl,ec⟩;rw[zW3,yc6,uK] at ec;rw[ec] at q;ext;exact q
end
noncomputable abbrev bO :Stmt:=top 29
noncomputable abbrev zG2 :Stmt:=top 30
noncomputable abbrev zD5 :Stmt:=top 31
noncomputable abbrev zH1 :Stmt:=top 32
noncomputable abbrev iK :Stmt:=top 33
noncomputable def tr (p:Prop):Bool:=@decide p (Classical.propDecidable p)
theorem ni {p:Prop}(h:p):tr p=true:=by unfold tr;exact @decide_eq_true p (Classical.propDecidable p) h
theorem sW {p:Prop}(h:¬p):tr p=false:=by unfold tr;exact @decide_eq_false p (Classical.propDecidable p) h
theorem vV {p:Prop}:tr p=true↔p:=by unfold tr;exact @decide_eq_true_iff p (Classical.propDecidable p)
def ig (Bs:List (List PyData))(p:P3):Prop:=0<=p.2.2/\p.2.2<Bs.length/\zL p.1 p.2.1/\vH (Bs.getD p.2.2.toNat []) p.1 p.2.1=true
noncomputable def vk (Bs:List (List PyData))(ps:List P3):Int:=(ps.map fun p=>coD (Bs.getD p.2.2.toNat []) p.1 p.2.1).sum
theorem zx5 {Bs:List (List PyData)}{c g:Int}{p:P3}(sb:zL c g)(h:tQ Bs c g p=true):ig Bs p/\c<=p.1/\p.1<p.2.1/\p.2.1<=g:=by
 unfold tQ at h;simp only[zY7,zZ5] at h;obtain⟨h1,h2,h3,h4,h5,h6⟩:=h;obtain⟨c0,cg,g1,g2⟩:=sb;exact⟨⟨h4,h5,⟨by omega,by omega,by omega,by omega⟩,h6⟩,h1,h2,h3⟩
theorem gH {Bs:List (List PyData)}{c g:Int}(sb:zL c g):∀{ps:List P3} {day:Int},uK Bs c g day ps=true->(∀p∈ps,ig Bs p)/\(ps.length:Int)<=g-day
 |[],day,h=>by
  unfold uK at h;have:=z21 h;exact⟨(fun _ h=>by cases h),by simp;omega⟩
 |p::ps,day,h=>by
  unfold uK at h;simp only[zY7,zZ5] at h;obtain⟨h1,h2,h3⟩:=h;obtain⟨i1,i2,i3,i4⟩:=zx5 sb h1;obtain⟨j1,j2⟩:=gH sb h3;refine⟨fun q hq=>?_,by rw[zX9];omega⟩;rcases zX0.mp hq with rfl|hq
  ·exact i1
  ·exact j1 q hq
def uc (Bs:List (List PyData))(b e x:Int):Prop:=∀ds∈Bs,∀y,coO ds b e=some y->x<=y
def sf (Bs:List (List PyData))(c g:Int)(pp:List Int):Prop:=∀i j:Nat,c+i+j<g->uc Bs (c+i) (c+i+j+1) ((pp.drop i).take (j+1)).sum
def wN (Bs:List (List PyData))(c g x:Int)(ps:List P3)(pp:List Int):Prop:=uK Bs c g c ps=true/\x=vk Bs ps/\pp.length=(g-c).toNat/\x=pp.sum/\sf Bs c g pp
def jW (pp:List Int):Prop:=pp.length<=1000/\∀n∈pp,-300000000000000000<=n/\n<=300000000000000000
def zQ4 (C:Addr)(cs:Cs):List A->(A->Prop)->Prop:=fun as Q=>∃(Bs:List (List PyData)) (ps:List P3),as=[.dat (zI C cs Bs),.dat (.list (ps.map pD))]/\zM Bs/\(∀p∈ps,ig Bs p)/\ps.length<=20/\Q (.dat (.int (vk Bs ps)))
def bG :List A->(A->Prop)->Prop:=fun as Q=>∃zs:List Int,as=[.dat (.list (zs.map .int))]/\zs.length<=1000/\Q (.dat (.bool true))
def zA3 (C:Addr)(cs:Cs):List A->(A->Prop)->Prop:=fun as Q=>∃(Bs:List (List PyData)) (b e x:Int),as=[.dat (zI C cs Bs),.dat (.tuple [.int b,.int e]),.dat (.int x)]/\zM Bs/\Bs.length<=8/\zL b e/\Q (.dat (.bool (tr (uc Bs b e x))))
def zz0 (C:Addr)(cs:Cs):List A->(A->Prop)->Prop:=fun as Q=>∃(Bs:List (List PyData)) (c g:Int) (pp:List Int),as=[.dat (zI C cs Bs),.dat (.tuple [.int c,.int g]),.dat (.list (pp.map .int))]/\zM Bs/\Bs.length<=8/\zL c g/\pp.length=(g-c).toNat/\Q (.dat (.bool (tr (sf Bs c g pp))))
def gN (C:Addr)(cs:Cs):List A->(A->Prop)->Prop:=fun as Q=>∃(Bs:List (List PyData)) (c g x:Int) (ps:List P3) (pp:List Int),as=[.dat (zI C cs Bs),.dat (.tuple [.int c,.int g]),.dat (.int x),.dat (.list (ps.map pD)),.dat (.list (pp.map .int))]/\zM Bs/\Bs.length<=8/\zL c g/\jW pp/\Q (.dat (.bool (tr (wN Bs c g x ps pp))))
section
variable {P:Program}{w:World}{K:PySem.W.Frag}{mg:Str->Option Value}{base:Heap}{cs:Cs}
theorem zP7 :zm ["books","cut"] ["books","cut"] (zb bO):=.o
theorem zJ5 {f C:Addr}{fd:FuncData}(F:Fun K "cut_coins" "cut_coins" bO f fd)(hm:mg "cut_coins"=some (.ref f))(hb:Binds K fd ["books","cut"] [])(nb:NbT mg)(CC:Cal P w K mg base "cost" 6 (jn C cs)):Cal P w K mg base "cut_coins" 7 (zQ4 C cs):=by
 refine yM F hm hb zP7 (fun as Q h=>?_) (fun cdv A' outer s H E as Q hr h=>?_)
 ·obtain⟨Bs,ps,rfl,_⟩:=h;rfl
 ·obtain⟨Bs,ps,rfl,bo,pin,pl,q⟩:=h;have nd:=zP7.nd;refine wF (zv4 15000000000000 rfl (by rfl) nb.sum (EvL.d (wo ["part","books"] [none,some 0] (.one 0) (yX ?_))));ext;refine⟨by rw[zW3];omega,?_⟩;have get:∀p∈ps,∃ds,Bs[p.2.2.toNat]?=some ds/\Bs.getD p.2.2.toNat []=ds/\yt ds:=fun p hp=>by
   obtain⟨h1,h2,_⟩:=pin p hp;obtain⟨ds,a,b⟩:=jv (Bs:=Bs) (n:=p.2.2.toNat) (by omega);exact⟨ds,a,b,bo ds (z27 a)⟩
  refine ym (fun p=>.int (coD (Bs.getD p.2.2.toNat []) p.1 p.2.1)) (fun p hp=>⟨_,rfl,fun _ _ _ _ _ k=>?_⟩) ?_
  ·obtain⟨ds,a,b,ro⟩:=get p hp;obtain⟨h1,h2,h3,h4⟩:=pin p hp;rw[b] at k h4;unfold pD;ext;refine ixk rfl rfl (i:=p.2.2) (by rw[show p.2.2=((p.2.2.toNat:Nat):Int) by omega];exact yH (j:=p.2.2.toNat) (by rw[zX1,a]<;>rfl)) ?_;ext;exact⟨ds,p.1,p.2.1,rfl,ro,h3,h4,k⟩
  rw[z08,show ps.map (fun p=>PyData.int (coD (Bs.getD p.2.2.toNat []) p.1 p.2.1))=(ps.map fun p=>coD (Bs.getD p.2.2.toNat []) p.1 p.2.1).map .int by rw[zZ6]<;>rfl];refine⟨_,rfl,fun n hn=>?_,by rw[zW3];omega,?_⟩
  ·obtain⟨p,hp,rfl⟩:=z06.mp hn;obtain⟨ds,a,b,ro⟩:=get p hp;obtain⟨h1,h2,h3,h4⟩:=pin p hp;rw[b] at h4;have:=ar ro h3 h4;rw[b];omega
  ·exact q
theorem zy4 :zm ["thing"] ["thing"] (zb zG2):=.o
theorem zs4 {f:Addr}{fd:FuncData}(F:Fun K "is_list_of_wholes" "is_list_of_wholes" zG2 f fd)(hm:mg "is_list_of_wholes"=some (.ref f))(hb:Binds K fd ["thing"] [])(nb:NbT mg)(CW:Cal P w K mg base "is_whole" 1 gS):Cal P w K mg base "is_list_of_wholes" 2 bG:=by
 refine yM F hm hb zy4 (fun as Q h=>?_) (fun cdv A' outer s H E as Q hr h=>?_)
 ·obtain⟨zs,rfl,_⟩:=h;rfl
 ·obtain⟨zs,rfl,zl,q⟩:=h;have nd:=zy4.nd;ext;refine⟨_,uj _,rfl,?_⟩;ext;refine oN rfl (by rfl) nb.all (EvL.d (wo ["number"] [none] (.one 0) (yX ?_)));ext;refine⟨by rw[zW3];exact zl,?_⟩;refine ym (fun _=>.bool true) (fun z hz=>⟨_,rfl,fun _ _ _ _ _ k=>?_⟩) ?_
  ·ext;exact k
  rw[z08,og];ext;rw[cA];exact q
theorem zz2 :zm ["books","stay","coins","told"] ["books","stay","coins"] (zb zD5):=.o
theorem zp9 {f C:Addr}{fd:FuncData}(F:Fun K "costs_no_less" "costs_no_less" zD5 f fd)(hm:mg "costs_no_less"=some (.ref f))(hb:Binds K fd ["books","stay","coins"] [])(nb:NbT mg)(CN:Cal P w K mg base "cost_or_none" 6 (aZ C cs)):Cal P w K mg base "costs_no_less" 7 (zA3 C cs):=by
 refine yM F hm hb zz2 (fun as Q h=>?_) (fun cdv A' outer s H E as Q hr h=>?_)
 ·obtain⟨Bs,b,e,x,rfl,_⟩:=h;rfl
 ·obtain⟨Bs,b,e,x,rfl,bo,bl,sb,q⟩:=h;have nd:=zz2.nd;refine jR 3 ["book","stay"] [none,some 1] (.one 0) (yX ?_);ext;refine⟨by rw[zW3];omega,?_⟩;refine ym (fun ds=>oD (coO ds b e)) (fun ds hd=>⟨_,rfl,fun _ _ _ _ _ k=>?_⟩) ?_
  ·ext;exact⟨ds,b,e,rfl,bo ds hd,sb,k⟩
  rw[z08];refine qS 3 rfl ?_;refine wF (oN rfl (by rfl) nb.all (EvL.d (wo ["other","coins"] [none,some 2] (.one 0) (yX ?_))));ext;refine⟨by rw[zW3];omega,?_⟩;refine ym (fun ds=>.bool (match coO ds b e with|none=>true|some y=>decide (x<=y))) (fun ds hd=>⟨_,rfl,fun _ _ _ _ _ k=>?_⟩) ?_
  ·cases hx:coO ds b e with
   |none=>
    rw[hx] at k;ext;exact k
   |some y=>
    rw[hx] at k;ext;exact k
  rw[z08,show Bs.map (fun ds=>PyData.bool (match coO ds b e with|none=>true|some y=>decide (x<=y)))=(Bs.map fun ds=>(match coO ds b e with|none=>true|some y=>decide (x<=y))).map .bool by rw[zZ6]<;>rfl];ext;have:(Bs.map fun ds=>(match coO ds b e with|none=>true|some y=>decide (x<=y))).all id=tr (uc Bs b e x):=by
   rw[z59,vV,List.all_map,z64];unfold uc;refine forall_congr' fun ds=>forall_congr' fun _=>?_;simp only[Function.comp,id];cases coO ds b e with
   |none=>simp
   |some y=>simp
  rw[this];exact q
theorem zA6 :zm ["books","stay","paper","begin","coins","night"] ["books","stay","paper"] (zb zH1):=.o
theorem zc3 {pp:List Int}{i:Nat}(h:i<pp.length):(pp.take (i+1)).sum=(pp.take i).sum+pp.getD i 0:=by
 rw[z52,zW6 h,List.sum_append,zW8,zW6 h];simp
theorem zt8 {f C:Addr}{fd:FuncData}(F:Fun K "no_part_costs_less" "no_part_costs_less" zH1 f fd)(hm:mg "no_part_costs_less"=some (.ref f))(hb:Binds K fd ["books","stay","paper"] [])(nb:NbT mg)(CN:Cal P w K mg base "costs_no_less" 7 (zA3 C cs)):Cal P w K mg base "no_part_costs_less" 8 (zz0 C cs):=by
 refine yM F hm hb zA6 (fun as Q h=>?_) (fun cdv A' outer s H E as Q hr h=>?_)
 ·obtain⟨Bs,c,g,pp,rfl,_⟩:=h;rfl
 ·obtain⟨Bs,c,g,pp,rfl,bo,bl,⟨c0,cg,g1,g2⟩,pl,q⟩:=h;have nd:=zA6.nd;refine yG (.one 3) (xo (by rfl) nb.range ?_);ext;refine⟨⟨by omega,by omega,by omega,by omega⟩,?_⟩;refine zN (fun i α=>∃o3 o4 o5:Option A,α=[some (.dat (zI C cs Bs)),some (.dat (.tuple [.int c,.int g])),some (.dat (.list (pp.map .int))),o3,o4,o5]/\∀i' j:Nat,i'<i->c+i'+j<g->uc Bs (c+i') (c+i'+j+1) ((pp.drop i').take (j+1)).sum) ⟨none,none,none,rfl,fun i' j h=>by omega⟩ ?_ ?_
  ·rintro i d α hd ⟨o3,o4,o5,rfl,hi0⟩;rw[zX1,zY0] at hd;obtain⟨u,hu,rfl⟩:=hd;have hi:=(zW7.mp hu).1;rw[zc] at hi;rw[zK hi] at hu;cases hu;refine⟨_,rfl,?_⟩;ext;refine yG (.one 5) (xo (by rfl) nb.range ?_);ext;refine⟨⟨by omega,by omega,by omega,by omega⟩,?_⟩;refine zN (fun j α=>∃o5:Option A,α=[some (.dat (zI C cs Bs)),some (.dat (.tuple [.int c,.int g])),some (.dat (.list (pp.map .int))),some (.dat (.int (c+(i:Int)))),some (.dat (.int ((pp.drop i).take j).sum)),o5]/\∀j':Nat,j'<j->uc Bs (c+i) (c+i+j'+1) ((pp.drop i).take (j'+1)).sum) ⟨o5,by simp,fun j' h=>by omega⟩ ?_ ?_
   ·rintro j d α hd ⟨o5,rfl,hj0⟩;rw[zX1,zY0] at hd;obtain⟨v,hv,rfl⟩:=hd;have hj:=(zW7.mp hv).1;rw[zc] at hj;rw[zK hj] at hv;cases hv;have hij:i+j<pp.length:=by omega
    refine⟨_,rfl,?_⟩;ext;refine ixk rfl rfl (i:=c+(i:Int)+(j:Int)-c) (by rw[show c+(i:Int)+(j:Int)-c=((i+j:Nat):Int) by omega];exact yH (j:=i+j) (by rw[zX1,zW6 hij]<;>rfl)) ?_;ext;have es:((pp.drop i).take j).sum+pp[i+j]=((pp.drop i).take (j+1)).sum:=by
     rw[zc3 (by rw[z49];omega),zW8,z93,zW6 hij];rfl
    rw[es];refine⟨Bs,c+i,c+i+j+1,_,rfl,bo,bl,⟨by omega,by omega,by omega,by omega⟩,?_⟩;ext;refine yq (fun h=>?_) (fun h=>?_)
    ·have h:tr (uc Bs (c+i) (c+i+j+1) ((pp.drop i).take (j+1)).sum)=false:=by simpa using h
     rw[sW (p:=sf Bs c g pp) fun z=>by rw[ni (z i j (by omega))] at h;cases h] at q;ext;exact q
    ·have h:tr (uc Bs (c+i) (c+i+j+1) ((pp.drop i).take (j+1)).sum)=true:=by simpa using h
     ext;intro j' hj';by_cases e:j'=j
     ·subst e;exact vV.mp h
     ·exact hj0 j' (by omega)
   ·rintro α ⟨o5,rfl,hj0⟩;rw[zW3,zc] at hj0;ext;refine⟨_,_,_,rfl,fun i' j' hi' hj'=>?_⟩;by_cases e:i'=i
    ·subst e;exact hj0 j' (by omega)
    ·exact hi0 i' j' (by omega) hj'
  ·rintro α ⟨o3,o4,o5,rfl,hi0⟩;rw[zW3,zc] at hi0;rw[ni (p:=sf Bs c g pp) fun i j h=>hi0 i j (by omega) h] at q;ext;exact q
theorem zR1 :zm ["books","stay","coins","cut","paper"] ["books","stay","coins","cut","paper"] (zb iK):=.o
theorem eB {f C:Addr}{fd:FuncData}(F:Fun K "is_had" "is_had" iK f fd)(hm:mg "is_had"=some (.ref f))(hb:Binds K fd ["books","stay","coins","cut","paper"] [])(nb:NbT mg)(CW:Cal P w K mg base "is_whole" 1 gS)(CI:Cal P w K mg base "is_cut" 6 (gp C cs))(CC:Cal P w K mg base "cut_coins" 7 (zQ4 C cs))(CL:Cal P w K mg base "is_list_of_wholes" 2 bG)(CN:Cal P w K mg base "no_part_costs_less" 8 (zz0 C cs)):Cal P w K mg base "is_had" 9 (gN C cs):=by
 refine yM F hm hb zR1 (fun as Q h=>?_) (fun cdv A' outer s H E as Q hr h=>?_)
 ·obtain⟨Bs,c,g,x,ps,pp,rfl,_⟩:=h;rfl
 ·obtain⟨Bs,c,g,x,ps,pp,rfl,bo,bl,sb,⟨pl,pb⟩,q⟩:=h;obtain⟨c0,cg,g1,g2⟩:=id sb;have nd:=zR1.nd;refine zP (fun α=>α=[some (.dat (zI C cs Bs)),some (.dat (.tuple [.int c,.int g])),some (.dat (.int x)),some (.dat (.list (ps.map pD))),some (.dat (.list (pp.map .int)))]/\uK Bs c g c ps=true/\x=vk Bs ps) ?_ ?_
  ·ext;refine⟨Bs,c,g,ps,rfl,bo,sb,?_⟩;ext;refine vc (fun h=>?_) (fun h=>?_)
   ·have h:uK Bs c g c ps=false:=by simpa using h
    rw[sW (p:=wN Bs c g x ps pp) fun z=>by rw[z.1] at h;cases h] at q;ext;exact q
   ·have h:uK Bs c g c ps=true:=by simpa using h
    obtain⟨h1,h2⟩:=gH sb h;ext;refine⟨Bs,ps,rfl,bo,h1,by omega,?_⟩;ext;refine yq (fun h3=>?_) (fun h3=>?_)
    ·have h3:¬x=vk Bs ps:=by
      have h3':(!PyData.eqv (.int x) (.int (vk Bs ps)))=true:=h3;rw[vm] at h3';simpa using h3'
     rw[sW (p:=wN Bs c g x ps pp) fun z=>h3 z.2.1] at q;ext;exact q
    ·have h3:x=vk Bs ps:=by
      have h3':(!PyData.eqv (.int x) (.int (vk Bs ps)))=false:=h3;rw[vm] at h3';simpa using h3'
     ext;exact⟨rfl,h,h3⟩
  rintro α ⟨rfl,k1,k2⟩;refine zP (fun α=>α=[some (.dat (zI C cs Bs)),some (.dat (.tuple [.int c,.int g])),some (.dat (.int x)),some (.dat (.list (ps.map pD))),some (.dat (.list (pp.map .int)))]/\pp.length=(g-c).toNat/\x=pp.sum) ?_ ?_
  ·ext;refine⟨pl,?_⟩;ext;rw[zW3];refine vc (fun h=>?_) (fun h=>?_)
   ·have h:¬((pp.length:Nat):Int)=g-c:=by simpa using h
    rw[sW (p:=wN Bs c g x ps pp) fun z=>by have:=z.2.2.1;omega] at q;ext;exact q
   ·have h:((pp.length:Nat):Int)=g-c:=by simpa using h
    ext;refine zx4 rfl (by rfl) nb.sum ?_;ext;refine⟨pb,by omega,?_⟩;ext;refine yq (fun h3=>?_) (fun h3=>?_)
    ·have h3:¬x=pp.sum:=by simpa using h3
     rw[sW (p:=wN Bs c g x ps pp) fun z=>h3 z.2.2.2.1] at q;ext;exact q
    ·have h3:x=pp.sum:=by simpa using h3
     ext;exact⟨rfl,by omega,h3⟩
  rintro α ⟨rfl,k3,k4⟩;ext;refine⟨Bs,c,g,pp,rfl,bo,bl,sb,k3,?_⟩;rw[show tr (sf Bs c g pp)=tr (wN Bs c g x ps pp) by rw[z59,vV,vV];exact⟨fun z=>⟨k1,k2,k3,k4,z⟩,fun z=>z.2.2.2.2⟩];exact q
end
noncomputable abbrev iR :Stmt:=top 34
noncomputable abbrev nR :Stmt:=top 35
noncomputable abbrev ia :Stmt:=top 36
noncomputable abbrev ae :Stmt:=top 37
def sN (Bs:List (List PyData))(d g:Int)(ds:List Int):Prop:=∃e n,d<e/\e<=g/\¬e∈ds/\n<Bs.length/\(coB Bs n d e).isSome=true
def vX (ds:List Int)(c:Int):Prop:=(∃r,ds=c::r)/\ds.Pairwise (·<·)
def sL (Bs:List (List PyData))(c g:Int)(ds:List Int):Prop:=vX ds c/\(∀d∈ds,d<g)/\∀d∈ds,¬sN Bs d g ds
def gc (C:Addr)(cs:Cs):List A->(A->Prop)->Prop:=fun as Q=>∃(Bs:List (List PyData)) (d g:Int) (ds:List Int),as=[.dat (zI C cs Bs),.dat (.int d),.dat (.int g),.dat (.list (ds.map .int))]/\zM Bs/\Bs.length<=8/\zL d g/\Q (.dat (.bool (tr (sN Bs d g ds))))
def lA :List A->(A->Prop)->Prop:=fun as Q=>∃(ds:List Int) (c:Int),as=[.dat (.list (ds.map .int)),.dat (.int c)]/\ds.length<=1000/\Q (.dat (.bool (tr (vX ds c))))
def gF (C:Addr)(cs:Cs):List A->(A->Prop)->Prop:=fun as Q=>∃(Bs:List (List PyData)) (c g:Int) (ds:List Int),as=[.dat (zI C cs Bs),.dat (.tuple [.int c,.int g]),.dat (.list (ds.map .int))]/\zM Bs/\Bs.length<=8/\zL c g/\ds.length<=1000/\Q (.dat (.bool (tr (sL Bs c g ds))))
noncomputable def mW (x:Int)(ps:List P3)(pp:List Int):PyData:=.tuple [.str "had",.int x,.list (ps.map pD),.list (pp.map .int)]
noncomputable def zH9 (ds:List Int):PyData:=.tuple [.str "off",.list (ds.map .int)]
def rS (C:Addr)(cs:Cs):List A->(A->Prop)->Prop:=fun as Q=>∃(Bs:List (List PyData)) (c g:Int) (th:PyData),as=[.dat (zI C cs Bs),.dat (.tuple [.int c,.int g]),.dat th]/\zM Bs/\Bs.length<=8/\zL c g/\
 ((∃(x:Int) (ps:List P3) (pp:List Int),th=mW x ps pp/\jW pp/\Q (.dat (.bool (tr (wN Bs c g x ps pp)))))\/∃ds:List Int,th=zH9 ds/\ds.length<=1000/\Q (.dat (.bool (tr (sL Bs c g ds)))))
noncomputable def adj :List Int->List (Int×Int)
 |a::b::r=>(a,b)::adj (b::r)
 |_=>[]
theorem zu2 :∀ds:List Int,bj (L2.cutD (ds.map PyData.int) none (some (-1))) (L2.cutD (ds.map PyData.int) (some 1) none)=(adj ds).map fun p=>.tuple [.int p.1,.int p.2]:=by
 have key:∀ds:List Int,List.zipWith (fun d e=>PyData.tuple [d,e]) ((ds.map PyData.int).take ((ds.map PyData.int).length-1)) ((ds.map PyData.int).drop 1)=(adj ds).map fun p=>.tuple [.int p.1,.int p.2]:=by
  intro ds
  induction ds with
  |nil=>rfl
  |cons a r ih=>
   cases r with
   |nil=>rfl
   |cons b r=>
    have e:(List.map PyData.int (a::b::r)).length-1=(List.map PyData.int (b::r)).length-1+1:=by simp
    rw[e];show PyData.tuple [.int a,.int b]::List.zipWith _ (List.take _ (List.map PyData.int (b::r))) (List.drop 1 (List.map PyData.int (b::r)))=_;rw[ih];rfl
 intro ds;rw[ki,pV _ (by decide)];exact key ds
theorem fg :∀ds:List Int,(adj ds).length<=ds.length
 |[]=>zW9 _
 |[_]=>zY8 _
 |a::b::r=>by
  have:=fg (b::r);simp only[adj,zX9] at this ⊢;omega
theorem rK :∀ds:List Int,((adj ds).all fun p=>decide (p.1<p.2))=true↔ds.Pairwise (·<·)
 |[]=>by simp[adj]
 |[a]=>by simp[adj]
 |a::b::r=>by
  have ih:=rK (b::r);simp only[adj,yc4,zY7,zZ5,ih]
  constructor
  ·rintro⟨h1,h2⟩;refine z71.mpr ⟨fun x hx=>?_,h2⟩;rcases zX0.mp hx with rfl|hx
   ·exact h1
   ·have:=(z71.mp h2).1 x hx;omega
  ·intro h;exact⟨(z71.mp h).1 b zX7,(z71.mp h).2⟩
theorem zt9 (ds:List Int):(ds.map PyData.int).all qq=true:=by
 rw[List.all_map,z64];intro z _;rfl
theorem zA5 {z:Int}:∀{ds:List Int},inD (.int z) (ds.map .int)=decide (z∈ds)
 |[]=>rfl
 |d::ds=>by
  have ih:=zA5 (z:=z) (ds:=ds);rw[zY2];unfold inD at ih ⊢;rw[z75,ih];by_cases h:z=d
  ·subst h;simp[scV,eqV]
  ·simp[scV,eqV,h,zZ8 h]
section
variable {P:Program}{w:World}{K:PySem.W.Frag}{mg:Str->Option Value}{base:Heap}{cs:Cs}
theorem zP3 :zm ["books","day","go","days","other"] ["books","day","go","days"] (zb iR):=.o
theorem dY {f C:Addr}{fd:FuncData}(F:Fun K "leads_out" "leads_out" iR f fd)(hm:mg "leads_out"=some (.ref f))(hb:Binds K fd ["books","day","go","days"] [])(nb:NbT mg)(CH:Cal P w K mg base "can_be_had" 4 (lq C cs)):Cal P w K mg base "leads_out" 5 (gc C cs):=by
 refine yM F hm hb zP3 (fun as Q h=>?_) (fun cdv A' outer s H E as Q hr h=>?_)
 ·obtain⟨Bs,d,g,ds,rfl,_⟩:=h;rfl
 ·obtain⟨Bs,d,g,ds,rfl,bo,bl,⟨c0,cg,g1,g2⟩,q⟩:=h;have nd:=zP3.nd;refine yG (.one 4) (xo (by rfl) nb.range ?_);ext;refine⟨⟨by omega,by omega,by omega,by omega⟩,?_⟩;refine zN (fun i α=>∃o4:Option A,α=[some (.dat (zI C cs Bs)),some (.dat (.int d)),some (.dat (.int g)),some (.dat (.list (ds.map .int))),o4]/\∀i' n:Nat,i'<i->¬d+1+i'∈ds->n<Bs.length->(coB Bs n d (d+1+i')).isSome=false) ⟨none,rfl,fun i' n h=>by omega⟩ ?_ ?_
  ·rintro i x α hx ⟨o4,rfl,hi0⟩;rw[zX1,zY0] at hx;obtain⟨u,hu,rfl⟩:=hx;have hi:=(zW7.mp hu).1;rw[zc] at hi;rw[zK hi] at hu;cases hu;have sbe:zL d (d+1+(i:Int)):=⟨by omega,by omega,by omega,by omega⟩;refine⟨_,rfl,?_⟩;ext;refine ink rfl (zt9 _) ?_;rw[zA5];refine vc (fun h=>?_) (fun h=>?_)
   ·have h:¬d+1+(i:Int)∈ds:=by simpa using h
    refine mj (qV (bQ rfl (by rfl) nb.any (EvL.d (wo ["book","day","other"] [none,some 1,some 4] (.one 0) (yX ?_)))));ext;refine⟨by rw[zW3];omega,?_⟩;refine ym (fun b=>.bool (vH b d (d+1+(i:Int)))) (fun b hb=>⟨_,rfl,fun _ _ _ _ _ k=>?_⟩) ?_
    ·ext;exact⟨b,d,d+1+(i:Int),rfl,bo b hb,sbe,k⟩
    rw[z08,show Bs.map (fun b=>PyData.bool (vH b d (d+1+(i:Int))))=(Bs.map fun b=>vH b d (d+1+(i:Int))).map .bool by rw[zZ6]<;>rfl];ext;refine yq (fun h2=>?_) (fun h2=>?_)
    ·rw[List.any_map,List.any_eq_true] at h2;obtain⟨b,hb,hh⟩:=h2;have hh:vH b d (d+1+(i:Int))=true:=hh;obtain⟨n,hn,rfl⟩:=z98.mp hb;rw[ni (p:=sN Bs d g ds) ⟨d+1+i,n,by omega,by omega,h,hn,by rw[tR (zW6 hn) sbe,coO,if_pos hh]<;>rfl⟩] at q;ext;exact q
    ·ext;intro i' n hi' hm' hn;by_cases e:i'=i
     ·subst e;rw[List.any_map,List.any_eq_false] at h2;have:¬vH Bs[n] d (d+1+(i':Int))=true:=h2 _ (z28 hn);rw[tR (zW6 hn) sbe,coO,if_neg this];rfl
     ·exact hi0 i' n (by omega) hm' hn
   ·have h:d+1+(i:Int)∈ds:=by simpa using h
    ext;intro i' n hi' hm' hn;by_cases e:i'=i
    ·subst e;exact absurd h hm'
    ·exact hi0 i' n (by omega) hm' hn
  ·rintro α ⟨o4,rfl,hi0⟩;rw[zW3,zc] at hi0;rw[sW (p:=sN Bs d g ds) fun⟨e,n,e1,e2,e3,e4,e5⟩=>by
    have:=hi0 (e-d-1).toNat n (by omega) (by rw[show d+1+((e-d-1).toNat:Int)=e by omega];exact e3) e4;rw[show d+1+((e-d-1).toNat:Int)=e by omega,e5] at this;cases this] at q
   ext;exact q
theorem zL9 :zm ["days","first"] ["days","first"] (zb nR):=.o
theorem jo {f:Addr}{fd:FuncData}(F:Fun K "is_rising_from" "is_rising_from" nR f fd)(hm:mg "is_rising_from"=some (.ref f))(hb:Binds K fd ["days","first"] [])(nb:NbT mg):Cal P w K mg base "is_rising_from" 1 lA:=by
 refine yM F hm hb zL9 (fun as Q h=>?_) (fun cdv A' outer s H E as Q hr h=>?_)
 ·obtain⟨ds,c,rfl,_⟩:=h;rfl
 ·obtain⟨ds,c,rfl,dl,q⟩:=h;have nd:=zL9.nd;ext;refine eqk (shaped_ints _).1 rfl (uj _) rfl ?_;rw[gC,isEmpty_map];cases ds with
  |nil=>
   rw[sW (p:=vX [] c) fun⟨⟨r,h⟩,_⟩=>by cases h] at q;ext;exact q
  |cons d r=>
   ext;refine ixk rfl rfl (yH (j:=0) rfl) ?_;ext;refine vc (fun h=>?_) (fun h=>?_)
   ·have h:d=c:=z21 h;subst h;refine aG (oN rfl (by rfl) nb.all (EvL.d (wo ["lower","higher"] [none,none] (.many [0,1]) (zk5 (by rfl) nb.zip ?_))));ext;rw[zu2];refine⟨by rw[zW3];exact z24 (fg _) dl,?_⟩;refine ym (fun p=>.bool (decide (p.1<p.2))) (fun p hp=>⟨_,rfl,fun _ _ _ _ _ k=>?_⟩) ?_
    ·ext;exact k
    rw[z08,show (adj (d::r)).map (fun p=>PyData.bool (decide (p.1<p.2)))=((adj (d::r)).map fun p=>decide (p.1<p.2)).map .bool by rw[zZ6]<;>rfl];ext;rw[show ((adj (d::r)).map fun p=>decide (p.1<p.2)).all id=tr (vX (d::r) d) by
     rw[z59,vV,List.all_map];exact⟨fun z=>⟨⟨r,rfl⟩,(rK _).mp z⟩,fun z=>(rK _).mpr z.2⟩]
    exact q
   ·have h:¬d=c:=z70 h;rw[sW (p:=vX (d::r) c) fun⟨⟨r',e⟩,_⟩=>by injection e with e;exact h e] at q;exact q
theorem zR8 :zm ["books","stay","days"] ["books","stay","days"] (zb ia):=.o
theorem cE {f C:Addr}{fd:FuncData}(F:Fun K "is_off" "is_off" ia f fd)(hm:mg "is_off"=some (.ref f))(hb:Binds K fd ["books","stay","days"] [])(nb:NbT mg)(CL:Cal P w K mg base "is_list_of_wholes" 2 bG)(CR:Cal P w K mg base "is_rising_from" 1 lA)(CLe:Cal P w K mg base "leads_out" 5 (gc C cs)):Cal P w K mg base "is_off" 6 (gF C cs):=by
 refine yM F hm hb zR8 (fun as Q h=>?_) (fun cdv A' outer s H E as Q hr h=>?_)
 ·obtain⟨Bs,c,g,ds,rfl,_⟩:=h;rfl
 ·obtain⟨Bs,c,g,ds,rfl,bo,bl,sb,dl,q⟩:=h;obtain⟨c0,cg,g1,g2⟩:=id sb;have nd:=zR8.nd;refine zP (fun α=>α=[some (.dat (zI C cs Bs)),some (.dat (.tuple [.int c,.int g])),some (.dat (.list (ds.map .int)))]/\vX ds c/\∀d∈ds,d<g) ?_ ?_
  ·ext;refine⟨dl,?_⟩;ext;refine⟨ds,c,rfl,dl,?_⟩;ext;refine vc (fun h=>?_) (fun h=>?_)
   ·have h:tr (vX ds c)=false:=by simpa using h
    rw[sW (p:=sL Bs c g ds) fun z=>by rw[ni z.1] at h;cases h] at q;ext;exact q
   ·have h:tr (vX ds c)=true:=by simpa using h
    have ri:=vV.mp h;obtain⟨⟨r,er⟩,pw⟩:=id ri;obtain⟨init,l,el⟩:∃init l,ds=init++[l]:=⟨ds.dropLast,ds.getLast (by rw[er];simp),(List.dropLast_concat_getLast _).symm⟩;have hl:∀d∈ds,d<=l:=fun d hd=>by
     rw[el] at hd pw;rcases z20.mp hd with hd|hd
     ·have:=(List.pairwise_append.mp pw).2.2 d hd l (zX5.mpr rfl);omega
     ·rw[zX5.mp hd];omega
    ext;refine ixk rfl rfl (i:=-1) (d:=.int l) (by rw[el,zZ9];exact bH _ _) ?_;ext;refine yq (fun h2=>?_) (fun h2=>?_)
    ·have h2:=z21 h2;rw[sW (p:=sL Bs c g ds) fun z=>by
      have:=z.2.1 l (by rw[el];exact z00 _ (zX5.mpr rfl));omega] at q
     ext;exact q
    ·have h2:=z70 h2;ext;exact⟨rfl,ri,fun d hd=>by have:=hl d hd;omega⟩
  rintro α ⟨rfl,ri,lt⟩;have ge:∀d∈ds,c<=d:=fun d hd=>by
   obtain⟨⟨r,er⟩,pw⟩:=ri;rw[er] at hd pw;rcases zX0.mp hd with rfl|hd
   ·omega
   ·have:=(z71.mp pw).1 d hd;omega
  refine wF (zi2 (bQ rfl (by rfl) nb.any (EvL.d (wo ["day","books","stay","days"] [none,some 0,some 1,some 2] (.one 0) (yX ?_)))));ext;refine⟨by rw[zW3];exact dl,?_⟩;refine ym (fun d=>.bool (tr (sN Bs d g ds))) (fun d hd=>⟨_,rfl,fun _ _ _ _ _ k=>?_⟩) ?_
  ·ext;have:=ge d hd;have:=lt d hd;exact⟨Bs,d,g,ds,rfl,bo,bl,⟨by omega,by omega,by omega,by omega⟩,k⟩
  rw[z08,show ds.map (fun d=>PyData.bool (tr (sN Bs d g ds)))=(ds.map fun d=>tr (sN Bs d g ds)).map .bool by rw[zZ6]<;>rfl];ext;rw[show (!(ds.map fun d=>tr (sN Bs d g ds)).any id)=tr (sL Bs c g ds) by
   rw[z59,vV,Bool.not_eq_true',List.any_map,List.any_eq_false];exact⟨fun z=>⟨ri,lt,fun d hd hl=>z d hd (ni hl)⟩,fun z d hd hl=>z.2.2 d hd (vV.mp hl)⟩]
  exact q
theorem zM4 :zm ["books","stay","thing"] ["books","stay","thing"] (zb ae):=.o
theorem mN (x:Int)(ps:List P3)(pp:List Int):(mW x ps pp).hasDict=false:=by
 have h1:=rZ ps;have h2:=uj pp;rw[PyData.hasDict] at h1 h2;simp[mW,PyData.hasDict,PyData.hasDictAll,h1,h2]
theorem lY (ds:List Int):(zH9 ds).hasDict=false:=by
 have h2:=uj ds;rw[PyData.hasDict] at h2;simp[zH9,PyData.hasDict,PyData.hasDictAll,h2]
theorem zj6 {f C:Addr}{fd:FuncData}(F:Fun K "lets_by" "lets_by" ae f fd)(hm:mg "lets_by"=some (.ref f))(hb:Binds K fd ["books","stay","thing"] [])(nb:NbT mg)(CH:Cal P w K mg base "is_had" 9 (gN C cs))(CO:Cal P w K mg base "is_off" 6 (gF C cs)):Cal P w K mg base "lets_by" 10 (rS C cs):=by
 refine yM F hm hb zM4 (fun as Q h=>?_) (fun cdv A' outer s H E as Q hr h=>?_)
 ·obtain⟨Bs,c,g,th,rfl,_⟩:=h;rfl
 ·obtain⟨Bs,c,g,th,rfl,bo,bl,sb,h⟩:=h;have nd:=zM4.nd;rcases h with ⟨x,ps,pp,rfl,pb,q⟩|⟨ds,rfl,dl,q⟩
  ·refine zP (fun α=>α=[some (.dat (zI C cs Bs)),some (.dat (.tuple [.int c,.int g])),some (.dat (.tuple [.str "had",.int x,.list (ps.map pD),.list (pp.map .int)]))]) ?_ ?_
   ·ext;refine⟨_,mN _ _ _,rfl,?_⟩;ext;rfl
   rintro α rfl;ext;exact⟨Bs,c,g,x,ps,pp,rfl,bo,bl,sb,pb,q⟩
  ·refine zP (fun α=>α=[some (.dat (zI C cs Bs)),some (.dat (.tuple [.int c,.int g])),some (.dat (.tuple [.str "off",.list (ds.map .int)]))]) ?_ ?_
   ·ext;refine⟨_,lY _,rfl,?_⟩;ext;rfl
   rintro α rfl;ext;exact⟨Bs,c,g,ds,rfl,bo,bl,sb,dl,q⟩
end
noncomputable def p3 (p:Part):P3:=(p.1,p.2.1,(p.2.2:Int))
theorem mF (ps:List Part):(ps.map p3).map pD=ps.map yg:=by rw[zZ6]<;>rfl
theorem fb {Bs:List (List PyData)}(bo:zM Bs){c g:Int}{a y:Int}{ps:List Part}(h:Cut (coB Bs) Bs.length a g y ps)(ca:c<=a):uK Bs c g a (ps.map p3)=true/\vk Bs (ps.map p3)=y:=by
 induction h with
 |nil a=>exact⟨by show decide (a=a)=true;simp,rfl⟩
 |@cons a e g x y n ps h1 h2 h3 h ih=>
  obtain⟨i1,i2⟩:=ih (by omega);obtain⟨s1,s2,s3,_⟩:=wW bo h2 h3;have:=h.le;refine⟨?_,?_⟩
  ·show (tQ Bs c g (a,e,(n:Int))&&(decide (a=a)&&uK Bs c g e (ps.map p3)))=true;rw[i1];unfold tQ;simp only[z30,s2,Bool.and_true,zY7,zZ5];exact⟨⟨by omega,by omega,by omega,by omega,by omega⟩,trivial⟩
  ·unfold vk at i2 ⊢;rw[zY2,zY2,z31,i2];show coD (Bs.getD ((n:Int)).toNat []) a e+y=_;rw[z30,<-s3]
theorem eo {Bs:List (List PyData)}{c g:Int}{pp:List Int}(sb:zL c g)(h:∀n b e y,n<Bs.length->c<=b->b<e->e<=g->coB Bs n b e=some y->((pp.drop (b-c).toNat).take (e-b).toNat).sum<=y):sf Bs c g pp:=fun i j hij ds hd y hy=>by
 obtain⟨n,hn,rfl⟩:=z98.mp hd;obtain⟨c0,cg,g1,g2⟩:=sb;have:=h n (c+i) (c+i+j+1) y hn (by omega) (by omega) (by omega) (by rw[tR (zW6 hn) ⟨by omega,by omega,by omega,by omega⟩];exact hy);rw[show (c+i-c).toNat=i by omega,show (c+i+j+1-(c+i)).toNat=j+1 by omega] at this;exact this
theorem qF {Bs:List (List PyData)}(bo:zM Bs){c g x:Int}{ps:List Part}{pp:List Int}(sb:zL c g)(hc:Cut (coB Bs) Bs.length c g x ps)(hl:pp.length=(g-c).toNat)(hs:pp.sum=x)(hp:∀n b e y,n<Bs.length->c<=b->b<e->e<=g->coB Bs n b e=some y->((pp.drop (b-c).toNat).take (e-b).toNat).sum<=y):wN Bs c g x (ps.map p3) pp:=by
 obtain⟨h1,h2⟩:=fb bo hc (c:=c) (z23 _);exact⟨h1,h2.symm,hl,hs.symm,eo sb hp⟩
theorem zf2 {Bs:List (List PyData)}{c g:Int}{ds:List Int}(h1:∃r,ds=c::r)(h2:ds.Pairwise (·<·))(h3:∀d∈ds,d<g)(h4:∀d∈ds,∀e n y,d<e->e<=g->n<Bs.length->coB Bs n d e=some y->e∈ds):sL Bs c g ds:=
 ⟨⟨h1,h2⟩,h3,fun d hd ⟨e,n,e1,e2,e3,e4,e5⟩=>by
  obtain⟨y,hy⟩:=yb2.mp e5;exact e3 (h4 d hd e n y e1 e2 e4 hy)⟩
theorem fv {pp:List Int}{c g:Int}(sb:zL c g)(hl:pp.length=(g-c).toNat)(hb:∀n∈pp,-300000000000000<=n/\n<=300000000000000):jW pp:=by
 obtain⟨_,_,h1,_⟩:=sb;exact⟨by omega,fun n hn=>by have:=hb n hn;omega⟩
section
end
noncomputable def tW (W:List Way)(d x:Int)(l:Option Part):List Way:=if (zr W d).isSome=true then W.map (fun w=>if w.1=d then (d,x,l) else w) else W++[(d,x,l)]
theorem gJ (W:List Way)(d x:Int)(l:Option Part):putD (W.map xY) (.inl d) (.tuple [.int x,fu l])=(tW W d x l).map xY:=by
 unfold putD tW;rw[zU,z53];split
 ·rw[zZ6,zZ6];refine z87 fun w _=>?_;show (if kEq (.int w.1) (.inl d)=true then _ else _)=xY (if w.1=d then _ else _);have:kEq (.int w.1) (.inl d)=decide (w.1=d):=uX (.inl w.1) (.inl d) |>.trans (by simp);rw[this];by_cases h:w.1=d
  ·rw[if_pos h,if_pos (z02 h),<-h];rfl
  ·rw[if_neg h,if_neg (by simpa using h)]
 ·rw[zZ9];rfl
theorem yE (w:Way)(W:List Way)(d:Int):zr (w::W) d=if w.1=d then some w.2 else zr W d:=by
 unfold zr;rw[z41];by_cases h:w.1=d
 ·rw[if_pos h,z02 h];rfl
 ·rw[if_neg h,zZ1 h]
theorem ze1 (W V:List Way)(d:Int):zr (W++V) d=(zr W d).or (zr V d):=by
 induction W with
 |nil=>rfl
 |cons w W ih=>
  rw[z65,yE,yE,ih];split<;>rfl
theorem zd9 (W:List Way)(d x:Int)(l:Option Part)(e:Int):zr (tW W d x l) e=if e=d then some (x,l) else zr W e:=by
 unfold tW;split
 ·rename_i h
  induction W with
  |nil=>cases h
  |cons w W ih=>
   rw[zY2,yE,yE];rw[yE] at h;by_cases h1:w.1=d
   ·rw[if_pos h1];show (if d=e then _ else _)=_;by_cases h2:e=d
    ·rw[if_pos h2.symm,if_pos h2]
    ·rw[if_neg fun z=>h2 z.symm,if_neg h2,if_neg fun z=>h2 (z.symm.trans h1)];clear ih h
     induction W with
     |nil=>rfl
     |cons v W ih=>
      rw[zY2,yE,yE,ih];by_cases h3:v.1=d
      ·rw[if_pos h3];show (if d=e then _ else _)=_;rw[if_neg fun z=>h2 z.symm,if_neg fun z=>h2 (z.symm.trans h3)]
      ·rw[if_neg h3]
   ·rw[if_neg h1] at h ⊢;rw[ih h];by_cases h2:w.1=e
    ·rw[if_pos h2,if_pos h2,if_neg fun z=>h1 (h2.trans z)]
    ·rw[if_neg h2,if_neg h2]
 ·rename_i h;rw[ze1,yE];have hn:zr W d=none:=by cases e:zr W d with
   |none=>rfl
   |some p=>rw[e] at h;exact absurd rfl h
  by_cases h2:e=d
  ·subst h2;rw[hn,if_pos rfl,if_pos rfl];rfl
  ·rw[if_neg h2];show (zr W e).or (if d=e then _ else _)=_;rw[if_neg fun z=>h2 z.symm];cases zr W e<;>rfl
theorem zw3 (W:List Way)(d x:Int)(l:Option Part):(tW W d x l).length<=W.length+1/\((zr W d).isSome=true->(tW W d x l).length=W.length):=by
 unfold tW;split
 ·rw[zW3];exact⟨z58 _,fun _=>rfl⟩
 ·rename_i h;rw[zY6];exact⟨zW9 _,fun z=>absurd z h⟩
theorem gf {W:List Way}{d x:Int}{l:Option Part}{w:Way}(h:w∈tW W d x l):w=(d,x,l)\/(w∈W/\w.1≠d):=by
 unfold tW at h;split at h
 ·obtain⟨v,hv,e⟩:=z06.mp h;by_cases hd:v.1=d
  ·rw[if_pos hd] at e;exact .inl e.symm
  ·rw[if_neg hd] at e;exact .inr ⟨e▸hv,e▸hd⟩
 ·rename_i hf;rcases z20.mp h with h|h
  ·refine .inr ⟨h,find_none ?_ w h⟩;cases e:zr W d with
   |none=>rfl
   |some p=>rw[e] at hf;exact absurd rfl hf
  ·exact .inl (zX5.mp h)
section
variable {co:Co}{N:Nat}{g:Int}
def Fwd (co:Co)(N:Nat)(g:Int)(W:List Way)(d x:Int)(l:Option Part):Prop:=∃e n z y l',l=some (d,e,n)/\d<e/\e<=g/\n<N/\co n d e=some z/\zr W e=some (y,l')/\x=z+y
structure wZ (co:Co)(N:Nat)(g a:Int)(W:List Way):Prop where
 zero:zr W g=some (0,none)
 low:∀w∈W,a<=w.1/\w.1<=g
 mem:∀w∈W,zr W w.1=some w.2
 step:∀d x l,zr W d=some (x,l)->(d=g/\x=0)\/Fwd co N g W d x l
 least:∀d e n z y l',a<=d->d<e->e<=g->n<N->co n d e=some z->zr W e=some (y,l')->∃x l,zr W d=some (x,l)/\x<=z+y
 len:(W.length:Int)<=g-a+1
structure xl (co:Co)(N:Nat)(g day:Int)(W W':List Way)(S:Int->Nat->Prop):Prop where
 else_:∀d,d≠day->zr W' d=zr W d
 low:∀w∈W',day<=w.1/\w.1<=g
 mem:∀w∈W',zr W' w.1=some w.2
 one:∀x l,zr W' day=some (x,l)->Fwd co N g W day x l
 least:∀e n z y l',S e n->day<e->e<=g->n<N->co n day e=some z->zr W e=some (y,l')->∃x l,zr W' day=some (x,l)/\x<=z+y
 len:(W'.length:Int)<=g-day+1/\(zr W' day=none->(W'.length:Int)<=g-day)
theorem xl.start {day:Int}{W:List Way}(h:wZ co N g (day+1) W):xl co N g day W W fun _ _=>False:=by
 have hn:zr W day=none:=by
  cases e:zr W day with
  |none=>rfl
  |some p=>have:=(h.low _ (find_some (x:=p.1) (l:=p.2) e)).1;have:day+1<=day:=this;omega
 have hl:=h.len;exact⟨fun _ _=>rfl,fun w hw=>by have:=h.low w hw;omega,h.mem,(fun x l e=>by rw[hn] at e;cases e),fun _ _ _ _ _ z=>z.elim,by omega,fun _=>by omega⟩
theorem xl.done {day:Int}{W W':List Way}(dg:day<g)(h:wZ co N g (day+1) W)(k:xl co N g day W W' fun _ _=>True):wZ co N g day W':=by
 have up:∀d p,d≠day->zr W d=some p->zr W' d=some p:=fun d p hd e=>by rw[k.else_ d hd];exact e
 refine⟨up g _ (by omega) h.zero,k.low,k.mem,fun d x l e=>?_,fun d e n z y l' h1 h2 h3 h4 h5 h6=>?_,k.len.1⟩
 ·by_cases hd:d=day
  ·subst hd;obtain⟨e',n,z,y,l',q1,q2,q3,q4,q5,q6,q7⟩:=k.one x l e;exact .inr ⟨e',n,z,y,l',q1,q2,q3,q4,q5,up e' _ (by omega) q6,q7⟩
  ·rw[k.else_ d hd] at e;rcases h.step d x l e with q|⟨e',n,z,y,l',q1,q2,q3,q4,q5,q6,q7⟩
   ·exact .inl q
   ·have:=(h.low _ (find_some (x:=y) (l:=l') q6)).1;have:day+1<=e':=this;exact .inr ⟨e',n,z,y,l',q1,q2,q3,q4,q5,up e' _ (by omega) q6,q7⟩
 ·rw[k.else_ e (by omega)] at h6;by_cases hd:d=day
  ·subst hd;exact k.least e n z y l' trivial h2 h3 h4 h5 h6
  ·rw[k.else_ d hd];exact h.least d e n z y l' (by omega) h2 h3 h4 h5 h6
theorem xl.put {day e y z:Int}{n:Nat}{l':Option Part}{W W':List Way}{S S':Int->Nat->Prop}(h:xl co N g day W W' S)(hS:∀e' n',S' e' n'->S e' n'\/(e'=e/\n'=n))(de:day<e)(eg:e<=g)(hn:n<N)(hc:co n day e=some z)(hf:zr W e=some (y,l'))(hlt:∀x l,zr W' day=some (x,l)->z+y<=x):xl co N g day W (tW W' day (z+y) (some (day,e,n))) S':=by
 have fd:=zd9 W' day (z+y) (some (day,e,n));refine⟨fun d hd=>by rw[fd,if_neg hd];exact h.else_ d hd,fun w hw=>?_,fun w hw=>?_,fun x l q=>?_,fun e' n' z' y' l'' hs q1 q2 q3 q4 q5=>?_,?_⟩
 ·rcases gf hw with rfl|hw
  ·exact⟨z23 _,by show day<=g;omega⟩
  ·exact h.low w hw.1
 ·rcases gf hw with rfl|hw
  ·rw[fd,if_pos rfl]
  ·rw[fd,if_neg hw.2];exact h.mem w hw.1
 ·rw[fd,if_pos rfl] at q;cases q;exact⟨e,n,z,y,l',rfl,de,eg,hn,hc,hf,rfl⟩
 ·refine⟨_,_,by rw[fd,if_pos rfl],?_⟩;rcases hS e' n' hs with hs|⟨rfl,rfl⟩
  ·obtain⟨x,l,e1,e2⟩:=h.least e' n' z' y' l'' hs q1 q2 q3 q4 q5;have:=hlt x l e1;omega
  ·rw[hc] at q4;cases q4;rw[hf] at q5;cases q5;exact z23 _
 ·have sl:=zw3 W' day (z+y) (some (day,e,n));refine⟨?_,fun z=>by rw[fd,if_pos rfl] at z;cases z⟩;cases q:zr W' day with
  |none=>have:=h.len.2 q;have:=sl.1;omega
  |some p=>have:=sl.2 (by rw[q];rfl);have:=h.len.1;omega
theorem xl.skip {day e:Int}{n:Nat}{W W':List Way}{S S':Int->Nat->Prop}(h:xl co N g day W W' S)(hS:∀e' n',S' e' n'->S e' n'\/(e'=e/\n'=n))(hx:∀z y l',co n day e=some z->zr W e=some (y,l')->∃x l,zr W' day=some (x,l)/\x<=z+y):xl co N g day W W' S':=
 ⟨h.else_,h.low,h.mem,h.one,fun e' n' z' y' l'' hs q1 q2 q3 q4 q5=>by
  rcases hS e' n' hs with hs|⟨rfl,rfl⟩
  ·exact h.least e' n' z' y' l'' hs q1 q2 q3 q4 q5
  ·exact hx z' y' l'' q4 q5,h.len⟩
theorem xl.mono {day:Int}{W W':List Way}{S S':Int->Nat->Prop}(h:xl co N g day W W' S)(hS:∀e n,day<e->e<=g->n<N->S' e n->S e n):xl co N g day W W' S':=
 ⟨h.else_,h.low,h.mem,h.one,fun e n z y l' hs q1 q2 q3 q4 q5=>h.least e n z y l' (hS e n q1 q2 q3 hs) q1 q2 q3 q4 q5,h.len⟩
variable {c:Int}{W:List Way}
theorem wZ.le (h:wZ co N g c W){a z:Int}{ps:List Part}(hc:Cut co N a g z ps)(ca:c<=a):∃x l,zr W a=some (x,l)/\x<=z:=by
 induction hc with
 |nil a=>exact⟨0,none,h.zero,z23 _⟩
 |@cons a e g x y n ps h1 h2 h3 hc ih=>
  obtain⟨x',l',e1,e2⟩:=ih h (by omega);obtain⟨u,l,e3,e4⟩:=h.least a e n x x' l' ca h1 hc.le h2 h3 e1;exact⟨u,l,e3,by omega⟩
theorem wZ.cut (h:wZ co N g c W):∀(m:Nat) {d x:Int} {l:Option Part},g-d<=m->zr W d=some (x,l)->∃ps,Cut co N d g x ps
 |m,d,x,l,hm,e=>by
  have lo:=(h.low _ (find_some (x:=x) (l:=l) e)).2;have lo:d<=g:=lo;rcases h.step d x l e with ⟨rfl,rfl⟩|⟨e',n,z,y,l',rfl,q2,q3,q4,q5,q6,rfl⟩
  ·exact⟨[],.nil d⟩
  ·cases m with
   |zero=>exact absurd hm (by omega)
   |succ m=>
    obtain⟨ps,hp⟩:=h.cut m (by omega) q6;exact⟨_,.cons q2 q4 q5 hp⟩
theorem wZ.leastOf (h:wZ co N g c W){x:Int}{l:Option Part}(e:zr W c=some (x,l)):fZ co N c g x:=by
 refine⟨h.cut (g-c).toNat (by omega) e,fun y ps hc=>?_⟩;obtain⟨x',l',e1,e2⟩:=h.le hc (z23 _);rw[e] at e1;cases e1;exact e2
noncomputable def pe (W:List Way)(c:Int)(n:Nat):List Int:=(zp c n).map fun d=>hW W d-hW W (d+1)
theorem ka (W:List Way)(c:Int)(n:Nat):(pe W c n).length=n:=by unfold pe;rw[zW3,zc]
theorem zR3 (f:Int->Int)(a:Int)(k:Nat):((zp a k).map fun d=>f d-f (d+1)).sum=f a-f (a+k):=by
 have:=zq2 (fun d=>- f d) a k;rw[show (zp a k).map (fun d=>- f (d+1) - - f d)=(zp a k).map fun d=>f d-f (d+1) from z87 fun d _=>by omega] at this;omega
theorem kx {W:List Way}{c:Int}{n i k:Nat}(h:i+k<=n):(((pe W c n).drop i).take k).sum=hW W (c+i)-hW W (c+i+k):=by
 unfold pe;rw[<-List.map_drop,<-ye5,aA c h];exact zR3 _ _ _
theorem wZ.bd (h:wZ co N g c W)(hg:g<=c+14)(h0:∀n b e x,n<N->co n b e=some x->0<=x/\x<=15000000000000)(d:Int):0<=hW W d/\hW W d<=210000000000000:=by
 have one:∀w∈W,0<=w.2.1/\w.2.1<=210000000000000:=fun w hw=>by
  obtain⟨ps,hc⟩:=h.cut (g-w.1).toNat (x:=w.2.1) (l:=w.2.2) (by omega) (h.mem w hw);have:=zl6 hc h0;have:=h.low w hw;omega
 cases e:zr W d with
 |some p=>
  rw[yY (x:=p.1) (l:=p.2) e];exact one _ (find_some (x:=p.1) (l:=p.2) e)
 |none=>
  rw[vv e];have:uJ (wM W)∈wM W:=kq fun z=>by
   have:=find_some h.zero;have:W≠[]:=List.ne_nil_of_mem this;exact this (ya3.mp z)
  unfold wM at this;obtain⟨w,hw,ew⟩:=z06.mp this;have:=one w hw;unfold jM wM;rw[<-ew];exact this
theorem wZ.paper (h:wZ co N g c W)(h0:∀n b e x,n<N->co n b e=some x->0<=x){n:Nat}{b e y:Int}(hn:n<N)(cb:c<=b)(be:b<e)(eg:e<=g)(hy:co n b e=some y):hW W b-hW W e<=y:=by
 cases q:zr W e with
 |none=>
  rw[vv q];have:=zy5 W b;have:=h0 _ _ _ _ hn hy;omega
 |some p=>
  obtain⟨x,l,e1,e2⟩:=h.least b e n y p.1 p.2 cb be eg hn hy q;rw[yY e1,yY (x:=p.1) (l:=p.2) q];omega
end
noncomputable abbrev sGo :Stmt:=top 76
noncomputable abbrev zE7 :Stmt:=top 77
noncomputable abbrev bF :Stmt:=top 78
def zQ6 (C:Addr)(cs:Cs):List A->(A->Prop)->Prop:=fun as Q=>∃(Bs:List (List PyData)) (c g:Int),as=[.dat (zI C cs Bs),.dat (.tuple [.int c,.int g])]/\zM Bs/\Bs.length<=8/\zL c g/\∀W,wZ (coB Bs) Bs.length g c W->Q (.dat (yP (W.map xY)))
def aQ :List A->(A->Prop)->Prop:=fun as Q=>∃(W:List Way) (c g:Int),as=[.dat (yP (W.map xY)),.dat (.tuple [.int c,.int g])]/\W≠[]/\W.length<=100/\zL c g/\Q (.own ((pe W c (g-c).toNat).map .int))
def jK (Bs:List (List PyData)):List A->(A->Prop)->Prop:=fun as Q=>∃(W:List Way) (c g x:Int) (l:Option Part),as=[.dat (yP (W.map xY)),.dat (.tuple [.int c,.int g])]/\wZ (coB Bs) Bs.length g c W/\zL c g/\zr W c=some (x,l)/\∀ps,Cut (coB Bs) Bs.length c g x ps->Q (.own (ps.map yg))
section
variable {P:Program}{w:World}{K:PySem.W.Frag}{mg:Str->Option Value}{base:Heap}{cs:Cs}
theorem zD2 {ds:List PyData}{v:Int}{d:PyData}(v0:0<=v)(hv:ds[v.toNat]?=some d):atI ds v=some d:=by
 have:v.toNat<ds.length:=(zW7.mp hv).1;unfold atI ixN;rw[if_pos v0,if_pos (by omega)];exact hv
theorem zx9 (l:List PyData)(d:PyData):atI (l++[d]) (-1)=some d:=by
 unfold atI ixN;rw[if_neg (by decide),if_pos (by rw[zY6,z46];omega)];show (l++[d])[(-1+((l++[d]).length:Int)).toNat]?=some d;rw[zY6,z46,show (-1+((l.length+1:Nat):Int)).toNat=l.length by omega];simp
theorem zN9 :zm ["_law_books_here","_law_stay_here","_law_found","_law_day","_law_end","_law_number","_law_coins_here"] ["_law_books_here","_law_stay_here"] (zb sGo):=.o
noncomputable abbrev stG (C:Addr)(cs:Cs)(Bs:List (List PyData))(c g:Int)(W:List Way)(o3 o4 o5 o6:Option A):Ev:=[some (.dat (zI C cs Bs)),some (.dat (.tuple [.int c,.int g])),some (.dic (W.map xY)),o3,o4,o5,o6]
def GI1 (C:Addr)(cs:Cs)(Bs:List (List PyData))(c g a:Int)(α:Ev):Prop:=∃(r:Nat->Option A) (W:List Way),α=stG C cs Bs c g W (r 0) (r 1) (r 2) (r 3)/\wZ (coB Bs) Bs.length g a W
def GI2 (C:Addr)(cs:Cs)(Bs:List (List PyData))(c g day:Int)(W:List Way)(S:Int->Nat->Prop)(α:Ev):Prop:=∃(r:Nat->Option A) (W':List Way),α=stG C cs Bs c g W' (some (.dat (.int day))) (r 0) (r 1) (r 2)/\xl (coB Bs) Bs.length g day W W' S
def GI3 (C:Addr)(cs:Cs)(Bs:List (List PyData))(c g day e:Int)(W:List Way)(S:Int->Nat->Prop)(α:Ev):Prop:=∃(r:Nat->Option A) (W':List Way),α=stG C cs Bs c g W' (some (.dat (.int day))) (some (.dat (.int e))) (r 0) (r 1)/\xl (coB Bs) Bs.length g day W W' S
section
variable {C:Addr}{Bs:List (List PyData)}{c g day e a:Int}{W W':List Way}{S:Int->Nat->Prop}
theorem gi1 (a0 a1 a2 a3:Option A)(h:wZ (coB Bs) Bs.length g a W):GI1 C cs Bs c g a (stG C cs Bs c g W a0 a1 a2 a3):=⟨fun i=>[a0,a1,a2,a3].getD i none,W,rfl,h⟩
theorem gi2 (a0 a1 a2:Option A)(h:xl (coB Bs) Bs.length g day W W' S):GI2 C cs Bs c g day W S (stG C cs Bs c g W' (some (.dat (.int day))) a0 a1 a2):=⟨fun i=>[a0,a1,a2].getD i none,W',rfl,h⟩
theorem gi3 (a0 a1:Option A)(h:xl (coB Bs) Bs.length g day W W' S):GI3 C cs Bs c g day e W S (stG C cs Bs c g W' (some (.dat (.int day))) (some (.dat (.int e))) a0 a1):=⟨fun i=>[a0,a1].getD i none,W',rfl,h⟩
theorem zK6 {α:Ev}(a0 a1:Option A)(W':List Way)(he:α=stG C cs Bs c g W' (some (.dat (.int day))) (some (.dat (.int e))) a0 a1)(h:xl (coB Bs) Bs.length g day W W' S):GI3 C cs Bs c g day e W S α:=he▸gi3 a0 a1 h
end
theorem zB6 {f C:Addr}{fd:FuncData}(F:Fun K "_law_to_go" "_law_to_go" sGo f fd)(hm:mg "_law_to_go"=some (.ref f))(hb:Binds K fd ["_law_books_here","_law_stay_here"] [])(nb:NbT mg)(CH:Cal P w K mg base "can_be_had" 4 (lq C cs))(CC:Cal P w K mg base "cost" 6 (jn C cs)):Cal P w K mg base "_law_to_go" 8 (zQ6 C cs):=by
 refine yM F hm hb zN9 (fun as Q h=>?_) (fun cdv A' outer s H E as Q hr h=>?_)
 ·obtain⟨Bs,c,g,rfl,_⟩:=h;rfl
 ·obtain⟨Bs,c,g,rfl,bo,bl,⟨c0,cg,g1,g2⟩,q⟩:=h;have nd:=zN9.nd;refine gL 2 nd (kJ ?_);ext;refine⟨.inl g,rfl,?_⟩;have iv0:wZ (coB Bs) Bs.length g g [(g,0,none)]:=by
   refine⟨?_,fun w hw=>?_,fun w hw=>?_,fun d x l e=>?_,fun d e n z y l' h1 h2 h3=>?_,?_⟩
   ·rw[yE,if_pos rfl]
   ·rw[zX5.mp hw];exact⟨z23 _,z23 _⟩
   ·rw[zX5.mp hw,yE,if_pos rfl]
   ·rw[yE] at e;split at e
    ·rename_i hd;cases e;exact .inl ⟨hd.symm,rfl⟩
    ·cases e
   ·exact absurd h2 (by omega)
   ·show ((1:Nat):Int)<=_;omega
  refine yG (.one 3) (eU (by rfl) nb.range ?_);ext;refine⟨rfl,⟨by omega,by omega,by omega,by omega⟩,?_⟩;refine zN (fun i α=>GI1 C cs Bs c g (g-(i:Nat)) α) (gi1 none none none none (W:=[(g,0,none)]) (by rw[show g-((0:Nat):Int)=g by simp];exact iv0)) ?_ ?_
  ·rintro i d α hd ⟨r1,W,rfl,iv⟩;rw[zX1] at hd;obtain⟨e,he,rfl⟩:=zY0.mp hd;have hi:i<(g-1-(c-1)).toNat:=by
    have:=(zW7.mp he).1
    rwa [xg] at this
   rw[uZ hi] at he;obtain⟨day,hday⟩:∃day,day=g-1-(i:Nat):=⟨_,rfl⟩;obtain rfl:day=e:=by rw[hday];simpa using he
   rw[show g-(i:Nat)=day+1 by omega] at iv;refine⟨_,rfl,?_⟩;refine yG (.one 4) (xo (by rfl) nb.range ?_);ext;refine⟨⟨by omega,by omega,by omega,by omega⟩,?_⟩;refine zN (fun j α=>GI2 C cs Bs c g day W (fun e _=>e<day+1+(j:Nat)) α) (gi2 _ _ _ ((xl.start iv).mono fun e n h1 _ _ h=>absurd h (by simp;omega))) ?_ ?_
   ·rintro j d α hd ⟨r2,W',rfl,ck⟩;rw[zX1] at hd;obtain⟨e,he,rfl⟩:=zY0.mp hd;have hj:j<(g+1-(day+1)).toNat:=by
     have:=(zW7.mp he).1
     rwa [zc] at this
    rw[zK hj] at he;have he':day+1+(j:Nat)=e:=by simpa using he
    have sb:zL day e:=⟨by omega,by omega,by omega,by omega⟩;refine⟨_,rfl,?_⟩;refine yG (.one 5) (xF (by rfl) nb.range ?_);ext;rw[zW3];refine⟨by omega,by omega,?_⟩;rw[z30];refine zN (fun n α=>GI3 C cs Bs c g day e W (fun e' n'=>e'<e\/(e'=e/\n'<n)) α) (gi3 _ _ (ck.mono fun e' n' h1 _ _ h=>by omega)) ?_ ?_
    ·rintro n d α hd ⟨r3,W',rfl,ck⟩;rw[zX1] at hd;obtain⟨k,hk,rfl⟩:=zY0.mp hd;have hn:n<Bs.length:=by
      have:=(zW7.mp hk).1
      rwa [zc] at this
     rw[zK hn] at hk;obtain rfl:(n:Int)=k:=by simpa using hk
     have hS:∀e' n',(e'<e\/(e'=e/\n'<n+1))->(e'<e\/(e'=e/\n'<n))\/(e'=e/\n'=n):=fun e' n' h=>by omega
     have fe:zr W' e=zr W e:=ck.else_ e (by omega);obtain⟨ds,e1,e2⟩:=jv hn;have co1:coB Bs n day e=coO ds day e:=tR e1 sb;refine⟨_,rfl,?_⟩;have bk:(Bs.map (yK C cs))[n]?=some (yK C cs ds):=by rw[zX1,e1];rfl
     have ro:=bo ds (z27 e1);refine xf (kl 2 rfl ?_);ext;refine wa (k:=.inl e) rfl ?_;rw[zU,z53,fe];cases hfe:zr W e with
     |none=>
      refine zj4 rfl ?_;exact zu (zu (gi3 _ _ (ck.skip hS fun z y l' h1 h2=>by rw[hfe] at h2;cases h2)))
     |some p=>
      refine bN rfl ?_;ext;refine ixk rfl rfl (yH (j:=n) bk) ?_;ext;refine⟨ds,day,e,rfl,ro,sb,_,rfl,?_⟩;by_cases hh:vH ds day e=true
      ·rw[hh];have hco:coB Bs n day e=some (coD ds day e):=by
        rw[co1];unfold coO;rw[if_pos hh]
       refine uQ rfl ?_;refine zQ 6 nd (xG (yA CC (hr.mono (by decide)) (by rfl) (zh (vn hr.one (fun _ _=>rfl) (zf 0 rfl (zf 5 rfl (ixk rfl rfl (yH (j:=n) bk) (zh (xO (zh (zf 3 rfl (zh (zf 4 rfl (zv ⟨_,rfl,zY5 rfl,zv ⟨ds,day,e,rfl,ro,sb,hh,?_⟩⟩))))))))))))));refine zi0 2 rfl (vn hr.one (fun _ _=>rfl) (vn hr.one (fun _ _=>rfl) (zf 2 rfl (zf 4 rfl (xt (k:=.inl e) rfl (by rw[zU,fe,hfe]<;>rfl) (yc (mw ⟨rfl,⟨_,_,rfl,rfl,?_⟩⟩)))))));refine xf (kl 2 rfl ?_);ext;refine wa (k:=.inl day) rfl ?_;rw[zU,z53];have put:(∀x l,zr W' day=some (x,l)->coD ds day e+p.1<=x)->xl (coB Bs) Bs.length g day W (tW W' day (coD ds day e+p.1) (some (day,e,n))) fun e' n'=>e'<e\/(e'=e/\n'<n+1):=fun hl=>ck.put (l':=p.2) hS (by omega) (by omega) hn hco hfe hl;have wl:=ck.len.1;cases hfd:zr W' day with
       |none=>
        refine bN rfl ?_;rw[if_pos rfl];refine ng 2 hr.one rfl ?_;ext;refine⟨.inl day,rfl,by rw[zW3];omega,?_⟩;refine zu (zu (zu (zK6 (some (.dat (.int (n:Nat)))) (some (.dat (.int (coD ds day e+p.1)))) (tW W' day (coD ds day e+p.1) (some (day,e,n))) ?_ (put fun x l h=>by rw[hfd] at h;cases h))));unfold stG;rw[<-gJ];rfl
       |some pr=>
        refine zj4 rfl ?_;refine zm6 (zy8 (zf 6 rfl (vn hr.one (fun _ _=>rfl) (vn hr.one (fun _ _=>rfl) (zf 2 rfl (zf 3 rfl (xt (k:=.inl day) rfl (by rw[zU,hfd]<;>rfl) (yc (mw ⟨_,_,rfl,rfl,?_⟩)))))))));refine yq (fun hle=>?_) (fun hle=>?_)
        ·have hle':=z21 hle;refine ng 2 hr.one rfl ?_;ext;refine⟨.inl day,rfl,by rw[zW3];omega,?_⟩;refine zu (zu (zu (zK6 (some (.dat (.int (n:Nat)))) (some (.dat (.int (coD ds day e+p.1)))) (tW W' day (coD ds day e+p.1) (some (day,e,n))) ?_ (put fun x l h=>by rw[hfd] at h;cases h;exact hle'))));unfold stG;rw[<-gJ];rfl
        ·have hle':=z70 hle;refine zu (zu (zu (gi3 _ _ (ck.skip hS fun z y l' h1 h2=>?_))));rw[hco] at h1;cases h1;rw[hfe] at h2;cases h2;exact⟨pr.1,pr.2,hfd,by omega⟩
      ·rw[show vH ds day e=false by simpa using hh];refine ve rfl ?_;refine zu (zu (gi3 _ _ (ck.skip hS fun z y l' h1 h2=>?_)));rw[co1] at h1;unfold coO at h1;rw[if_neg hh] at h1;cases h1
    rintro α ⟨r3,W',rfl,ck⟩;rw[zW3,zc] at ck;exact zu (gi2 _ _ _ (ck.mono fun e' n' h1 h2 h3 h=>by omega))
   rintro α ⟨r2,W',rfl,ck⟩;rw[zW3,zc] at ck;refine zu (gi1 _ _ _ _ ?_);rw[show g-((i+1:Nat):Int)=day by omega];exact (ck.mono fun e n h1 h2 h3 _=>by omega).done (by omega) iv
  rintro α ⟨r1,W,rfl,iv⟩;rw[zW3,xg,show g-((g-1-(c-1)).toNat:Int)=c by omega] at iv;refine zi7 2 rfl ?_;ext;exact q W iv
theorem zL5 :zm ["_law_found","_law_stay_here","_law_most","_law_heights","_law_day","_law_here"] ["_law_found","_law_stay_here"] (zb zE7):=.o
theorem zo6 {f:Addr}{fd:FuncData}(F:Fun K "_law_paper" "_law_paper" zE7 f fd)(hm:mg "_law_paper"=some (.ref f))(hb:Binds K fd ["_law_found","_law_stay_here"] [])(nb:NbT mg):Cal P w K mg base "_law_paper" 1 aQ:=by
 refine yM F hm hb zL5 (fun as Q h=>?_) (fun cdv A' outer s H E as Q hr h=>?_)
 ·obtain⟨W,c,g,rfl,_⟩:=h;rfl
 ·obtain⟨W,c,g,rfl,wn,wl,⟨c0,cg,g1,g2⟩,q⟩:=h;have nd:=zL5.nd;refine zQ 2 nd (gg rfl (by rfl) nb.max (EvL.d (wo ["_law_coins_here","_law_part"] [none,none] (.many [0,1]) (gQ ?_))));ext;rw[zZ6];refine⟨by rw[zW3];omega,?_⟩;refine ym (fun w=>.int w.2.1) (fun w hw=>⟨_,rfl,fun _ _ _ _ Q q=>?_⟩) ?_
  ·ext;exact q
  rw[z08];refine⟨wM W,by unfold wM;rw[zZ6];rfl,fun z=>wn (ya3.mp z),?_⟩;refine yV 3 nd ?_;ext;refine yG (.one 4) (xo (by rfl) nb.range ?_);ext;refine⟨⟨by omega,by omega,by omega,by omega⟩,?_⟩;refine zN (fun i α=>∃o4 o5:Option A,α=[some (.dat (yP (W.map xY))),some (.dat (.tuple [.int c,.int g])),some (.dat (.int (jM W))),some (.own (((zp c i).map (hW W)).map .int)),o4,o5]) ⟨none,none,rfl⟩ ?_ ?_
  ·rintro i d α hd ⟨o4,o5,rfl⟩;rw[zX1] at hd;obtain⟨e,he,rfl⟩:=zY0.mp hd;have hi:i<(g+1-c).toNat:=by
    have:=(zW7.mp he).1
    rwa [zc] at this
   rw[zK hi] at he;obtain rfl:c+(i:Nat)=e:=by simpa using he
   refine⟨_,rfl,?_⟩;refine zQ 5 nd (zf 2 rfl ?_);refine zP (fun α=>α=[some (.dat (yP (W.map xY))),some (.dat (.tuple [.int c,.int g])),some (.dat (.int (jM W))),some (.own (((zp c i).map (hW W)).map .int)),some (.dat (.int (c+(i:Nat)))),some (.dat (.int (hW W (c+(i:Nat)))))]) ?_ ?_
   ·ext;refine wa (k:=.inl (c+(i:Nat))) rfl ?_;rw[zU];cases q:zr W (c+(i:Nat)) with
    |none=>
     refine ve rfl ?_;rw[vv q];exact zu (zu rfl)
    |some p=>
     refine uQ rfl ?_;ext;refine xt (k:=.inl (c+(i:Nat))) rfl (by rw[zU,q]<;>rfl) ?_;ext;rw[yY (x:=p.1) (l:=p.2) q]<;>rfl
   rintro α rfl;refine yz 3 rfl (zf 5 rfl ⟨by rw[zW3,zW3,zc];omega,?_⟩);refine zu ⟨some (.dat (.int (c+(i:Nat)))),some (.dat (.int (hW W (c+(i:Nat))))),?_⟩;rw[fH,zZ9,zZ9];rfl
  rintro α ⟨o4,o5,rfl⟩;rw[zW3,zc];refine qS 3 rfl ?_;refine tN (wo ["_law_k","_law_heights"] [none,some 3] (.one 0) (xF (by rfl) nb.range ?_));ext;rw[zW3,zW3,zc,show (((g+1-c).toNat:Nat):Int)-1=g-c by omega];refine⟨by omega,by omega,by rw[zW3,zc];omega,?_⟩;have hat:∀j:Int,0<=j->j<=g-c->atI (((zp c (g+1-c).toNat).map (hW W)).map PyData.int) j=some (.int (hW W (c+j))):=fun j j0 j1=>by
   refine zD2 j0 ?_;rw[zX1,zX1,zK (by omega),show ((j.toNat:Nat):Int)=j by omega];rfl
  refine ym (fun k=>.int (hW W (c+k)-hW W (c+(k+1)))) (fun k hk=>⟨_,rfl,fun _ _ _ _ Q q=>?_⟩) ?_
  ·obtain⟨k0,k1⟩:=yO.mp hk;ext;refine ixk rfl rfl (hat k k0 (by omega)) ?_;ext;refine ixk rfl rfl (hat (k+1) (by omega) (by omega)) ?_;ext;exact q
  rw[z08];have e:(zp 0 (g-c).toNat).map (fun k=>PyData.int (hW W (c+k)-hW W (c+(k+1))))=(pe W c (g-c).toNat).map .int:=by
   unfold pe zp;rw[zZ6,zZ6,zZ6];refine z87 fun i _=>?_;show PyData.int (hW W (c+(0+(i:Nat)))-hW W (c+(0+(i:Nat)+1)))=PyData.int (hW W (c+(i:Nat))-hW W (c+(i:Nat)+1));rw[Int.zero_add,Int.add_assoc c (i:Nat) 1]
  rw[e];exact q
theorem zL4 :zm ["_law_found","_law_stay_here","_law_parts","_law_day"] ["_law_found","_law_stay_here"] (zb bF):=.o
theorem zh0 {f:Addr}{fd:FuncData}(Bs:List (List PyData))(F:Fun K "_law_cut" "_law_cut" bF f fd)(hm:mg "_law_cut"=some (.ref f))(hb:Binds K fd ["_law_found","_law_stay_here"] [])(nb:NbT mg):Cal P w K mg base "_law_cut" 1 (jK Bs):=by
 refine yM F hm hb zL4 (fun as Q h=>?_) (fun cdv A' outer s H E as Q hr h=>?_)
 ·obtain⟨W,c,g,x,l,rfl,_⟩:=h;rfl
 ·obtain⟨W,c,g,x,l,rfl,iv,⟨c0,cg,g1,g2⟩,hf,q⟩:=h;have nd:=zL4.nd;refine yV 2 nd ?_;ext;refine lj z42 (fun m α=>∃(ps:List Part) (d y x':Int) (l':Option Part),α=[some (.dat (yP (W.map xY))),some (.dat (.tuple [.int c,.int g])),some (.own (ps.map yg)),some (.dat (.int d))]/\Cut (coB Bs) Bs.length c d y ps/\zr W d=some (x',l')/\y+x'=x/\g-d<=m) (g-c).toNat ⟨[],c,0,x,l,rfl,.nil c,hf,by omega,by omega⟩ ?_;rintro m α ⟨ps,d,y,x',l',rfl,hc,fd,ex,dm⟩;have pl:=hc.len;have lo:=iv.low _ (find_some fd);have lo:c<=d/\d<=g:=lo;ext;refine vc (fun h=>?_) (fun h=>?_)
  ·have h':=z21 h;rcases iv.step d x' l' fd with ⟨rfl,_⟩|⟨e,n,z,u,l'',rfl,q2,q3,q4,q5,q6,rfl⟩
   ·exact absurd h' (by omega)
   ext;refine xt (k:=.inl d) rfl (by rw[zU,fd]<;>rfl) ?_;ext;refine⟨by rw[zW3];omega,?_⟩;refine zQ 3 nd (fX 2 rfl ?_);ext;refine ixk rfl rfl (zx9 (ps.map yg) (yg (d,e,n))) ?_;ext;refine⟨rfl,zu ?_⟩;refine⟨m-1,by omega,ps++[(d,e,n)],e,y+z,u,l'',by rw[zZ9];rfl,hc.snoc q2 q4 q5,q6,by omega,by omega⟩
  ·have h':=z70 h;obtain rfl:d=g:=by omega
   rw[iv.zero] at fd;cases fd;obtain rfl:y=x:=by omega
   exact xr 2 rfl (q ps hc)
end
noncomputable abbrev sZ :Stmt:=top 79
noncomputable abbrev NmL :List Str:=["_law_script","_law_tape_here","_law_days","_law_base","_law_books_here","_law_turn","_law_stay_here","_law_told","_law_found","_law_some","_law_coins_here","_law_paper_here","_law_cut_here","_law_thing","_law_at","_law_more","_law_bent"]
theorem uA :zm NmL ["_law_script"] (zb sZ):=.o
theorem zo1 {Bs:List (List PyData)}(bo:zM Bs)(n:Nat):zM (Bs.take n):=fun d hd=>bo d (z81 hd)
noncomputable def zS0 :List Stmt:=match (zA sZ).getD 5 (.Pass ⟨0,0,0,0⟩) with
 |.For _ _ b _ _=>b
 |_=>[]
noncomputable abbrev stB (k:Nat):Stmt:=zS0.getD k (.Pass ⟨0,0,0,0⟩)
noncomputable def ifA :List Stmt:=match stB 4 with
 |.If _ a _ _=>a
 |_=>[]
noncomputable def ifE :List Stmt:=match stB 4 with
 |.If _ _ b _=>b
 |_=>[]
noncomputable abbrev stO (k:Nat):Stmt:=ifA.getD k (.Pass ⟨0,0,0,0⟩)
noncomputable abbrev stH (k:Nat):Stmt:=ifE.getD k (.Pass ⟨0,0,0,0⟩)
noncomputable abbrev cxL (P:Program)(w:World)(K:PySem.W.Frag)(mg:Str->Option Value)(base:Heap)(f:Addr)(cdv:Value)(A':Around)(outer:List Env)(s:Shared)(H:Hp)(E:XK):Cx:=(uu CX0 P w K mg base NmL "law" (zb sZ) f cdv A' outer s H E).nox
abbrev RmL (f:Addr)(cdv:Value)(A':Around)(s:Shared):Prop:=zX (11+1) (A'.deeper (envOfC "law" (zb sZ) s.heap.objs.size f cdv))
noncomputable abbrev tdH (z:Int)(ps:List Part)(pp:List Int):PyData:=.tuple [.str "had",.int z,.list (ps.map yg),.list (pp.map .int)]
noncomputable abbrev stL (C:Addr)(cs:Cs)(dy b:Int)(Bs:List (List PyData))(d:PyData)(c g:Int)(td:PyData)(W:List Way)(o9 o10 o11 o12 o13 o14 o15 o16:Option A):Ev:=[none,some .tape,some (.dat (.int dy)),some (.dat (.int b)),some (.dat (zI C cs Bs)),some (.dat d),some (.dat (.tuple [.int c,.int g])),some (.dat td),some (.dat (yP (W.map xY))),o9,o10,o11,o12,o13,o14,o15,o16]
section
variable {P:Program}{w:World}{K:PySem.W.Frag}{mg:Str->Option Value}{base:Heap}{cs:Cs}{f C:Addr}{cdv:Value}{A':Around}{outer:List Env}{s:Shared}{H:Hp}{E:XK}{En:xy}{dy b c g x z:Int}{Bs:List (List PyData)}{td d:PyData}{W:List Way}{ps qs:List Part}{pp ds:List Int}{l:Option Part}{o9 o10 o11 o12 o13 o14 o15 o16:Option A}
theorem s3 (hr:RmL f cdv A' s){u:Str}{tu:List PyData}(ht:td=.tuple (.str u::tu))(h:decide (u="had")=(zr W c).isSome):SvS (cxL P w K mg base f cdv A' outer s H E) (stL C cs dy b Bs d c g td W o9 o10 o11 o12 o13 o14 o15 o16) [stB 3] {En with nx:=fun α=>α=stL C cs dy b Bs d c g td W o9 o10 o11 o12 o13 o14 o15 o16}:=by
 have nd:=uA.nd;subst ht;refine xf ?_;ext;refine wa (k:=.inl c) rfl ?_;rw[zU,z53,<-h];refine lg ?_;refine ve (by simp) ?_;ext;rfl
theorem qo0 (nb:NbT mg)(hr:RmL f cdv A' s)(sg:zL c g):SvS (cxL P w K mg base f cdv A' outer s H E) (stL C cs dy b Bs d c g td W o9 o10 o11 o12 o13 o14 o15 o16) [stO 0] {En with nx:=fun α=>α=stL C cs dy b Bs d c g td W (some (.dat (.list (((zp c (g-c).toNat).filter fun e=>(zr W e).isNone).map .int)))) o10 o11 o12 o13 o14 o15 o16}:=by
 have nd:=uA.nd;obtain⟨c0,cg,g1,g2⟩:=sg;refine jR 9 ["_law_day","_law_found"] [none,some 8] (.one 0) (xo (by rfl) nb.range ?_);ext;refine⟨⟨by omega,by omega,by omega,by omega⟩,by rw[zW3,zc];omega,?_⟩;refine lV (fun e=>(zr W e).isNone) .int (fun e he=>⟨_,rfl,fun C' s2 H2 fp Q q=>kN ?_,fun _ C' s2 H2 fp Q q=>zf 0 rfl q⟩) ?_
 ·ext;refine wa (k:=.inl e) rfl ?_;rw[zU,z53];cases h:zr W e<;>rw[h] at q<;>exact q
 rw[z08];exact qS 9 rfl (zu rfl)
theorem qo1 (nb:NbT mg)(hr:RmL f cdv A' s)(CL:Cal P w K mg base "lets_by" 10 (rS C cs))(bo:zM Bs)(bl:Bs.length<=8)(sg:zL c g)(dl:ds.length<=1000)(ok:sL Bs c g ds):SvS (cxL P w K mg base f cdv A' outer s H E) (stL C cs dy b Bs d c g td W (some (.dat (.list (ds.map .int)))) o10 o11 o12 o13 o14 o15 o16) [stO 1] {En with nx:=fun α=>α=stL C cs dy b Bs d c g td W (some (.dat (.list (ds.map .int)))) o10 o11 o12 o13 o14 o15 o16}:=by
 have nd:=uA.nd;refine xf ?_;ext;refine⟨Bs,c,g,_,rfl,bo,bl,sg,.inr ⟨ds,rfl,dl,?_⟩⟩;rw[ni ok];ext;rfl
theorem qh0 (hr:RmL f cdv A' s)(hf:zr W c=some (x,l)):SvS (cxL P w K mg base f cdv A' outer s H E) (stL C cs dy b Bs d c g td W o9 o10 o11 o12 o13 o14 o15 o16) [stH 0] {En with nx:=fun α=>α=stL C cs dy b Bs d c g td W o9 (some (.dat (.int x))) o11 o12 o13 o14 o15 o16}:=by
 have nd:=uA.nd;refine zQ 10 nd ?_;ext;refine xt (k:=.inl c) rfl (by rw[zU,hf]<;>rfl) ?_;ext;rfl
theorem qh1 (hr:RmL f cdv A' s)(CP:Cal P w K mg base "_law_paper" 1 aQ)(wn:W≠[])(wl:W.length<=100)(sg:zL c g):SvS (cxL P w K mg base f cdv A' outer s H E) (stL C cs dy b Bs d c g td W o9 o10 o11 o12 o13 o14 o15 o16) [stH 1] {En with nx:=fun α=>α=stL C cs dy b Bs d c g td W o9 o10 (some (.dat (.list ((pe W c (g-c).toNat).map .int)))) o12 o13 o14 o15 o16}:=by
 have nd:=uA.nd;refine zQ 11 nd ?_;ext;refine⟨W,c,g,rfl,wn,wl,sg,?_⟩;exact zu rfl
theorem qh2 (hr:RmL f cdv A' s)(CCu:Cal P w K mg base "_law_cut" 1 (jK Bs))(iv:wZ (coB Bs) Bs.length g c W)(sg:zL c g)(hf:zr W c=some (x,l)):SvS (cxL P w K mg base f cdv A' outer s H E) (stL C cs dy b Bs d c g td W o9 o10 o11 o12 o13 o14 o15 o16) [stH 2] {En with nx:=fun α=>∃qs:List Part,Cut (coB Bs) Bs.length c g x qs/\α=stL C cs dy b Bs d c g td W o9 o10 o11 (some (.dat (.list (qs.map yg)))) o13 o14 o15 o16}:=by
 have nd:=uA.nd;refine zQ 12 nd ?_;ext;refine⟨W,c,g,x,l,rfl,iv,sg,hf,fun qs hc=>?_⟩;exact zu ⟨qs,hc,rfl⟩
theorem qh3 (hr:RmL f cdv A' s):SvS (cxL P w K mg base f cdv A' outer s H E) (stL C cs dy b Bs d c g (tdH x ps pp) W o9 (some (.dat (.int x))) o11 o12 o13 o14 o15 o16) [stH 3] {En with nx:=fun α=>α=stL C cs dy b Bs d c g (tdH x ps pp) W o9 (some (.dat (.int x))) o11 o12 o13 o14 o15 o16}:=by
 have nd:=uA.nd;refine xf ?_;ext;refine ve (by simp) ?_;ext;rfl
theorem qh4 (nb:NbT mg)(hr:RmL f cdv A' s)(CL:Cal P w K mg base "lets_by" 10 (rS C cs))(bo:zM Bs)(bl:Bs.length<=8)(sg:zL c g){us:List Int}(pb:jW us)(pp':jW pp)(k1:wN Bs c g x (qs.map p3) us)(k2:wN Bs c g x (ps.map p3) us)(k3:wN Bs c g x (qs.map p3) pp):SvS (cxL P w K mg base f cdv A' outer s H E) (stL C cs dy b Bs d c g (tdH x ps pp) W o9 (some (.dat (.int x))) (some (.dat (.list (us.map .int)))) (some (.dat (.list (qs.map yg)))) o13 o14 o15 o16) [stH 4] {En with nx:=fun α=>∃o13,α=stL C cs dy b Bs d c g (tdH x ps pp) W o9 (some (.dat (.int x))) (some (.dat (.list (us.map .int)))) (some (.dat (.list (qs.map yg)))) o13 o14 o15 o16}:=by
 have nd:=uA.nd;refine yG (.one 13) (yX ?_);ext;refine⟨Bs,c,g,_,rfl,bo,bl,sg,.inl ⟨x,qs.map p3,us,by unfold mW;rw[mF],pb,?_⟩⟩;rw[ni k1];ext;refine⟨Bs,c,g,_,rfl,bo,bl,sg,.inl ⟨x,ps.map p3,us,by unfold mW;rw[mF],pb,?_⟩⟩;rw[ni k2];ext;refine⟨Bs,c,g,_,rfl,bo,bl,sg,.inl ⟨x,qs.map p3,pp,by unfold mW;rw[mF],pp',?_⟩⟩;rw[ni k3];ext;exact zu ⟨_,rfl⟩
theorem qh5 (nb:NbT mg)(hr:RmL f cdv A' s)(CD:Cal P w K mg base "_law_draw" 1 xI){us:List Int}(u0:0<us.length)(u1:us.length<=14):SvS (cxL P w K mg base f cdv A' outer s H E) (stL C cs dy b Bs d c g (tdH x ps pp) W o9 (some (.dat (.int x))) (some (.dat (.list (us.map .int)))) (some (.dat (.list (qs.map yg)))) o13 o14 o15 o16) [stH 5] {En with nx:=fun α=>∃k:Nat,k<us.length/\α=stL C cs dy b Bs d c g (tdH x ps pp) W o9 (some (.dat (.int x))) (some (.dat (.list (us.map .int)))) (some (.dat (.list (qs.map yg)))) o13 (some (.dat (.int k))) o15 o16}:=by
 have nd:=uA.nd;have hbig:(1000:Int)<big:=by decide
 refine zQ 14 nd ?_;ext;rw[zW3];refine⟨by omega,by omega,fun v v0 v1=>?_⟩;obtain⟨n,rfl⟩:∃n:Nat,v=n:=⟨v.toNat,by omega⟩;exact zu ⟨n,by omega,rfl⟩
theorem qh6 (hr:RmL f cdv A' s)(CD:Cal P w K mg base "_law_draw" 1 xI){us:List Int}:SvS (cxL P w K mg base f cdv A' outer s H E) (stL C cs dy b Bs d c g (tdH x ps pp) W o9 (some (.dat (.int x))) (some (.dat (.list (us.map .int)))) (some (.dat (.list (qs.map yg)))) o13 o14 o15 o16) [stH 6] {En with nx:=fun α=>∃m:Int,(m=1\/m=-1)/\α=stL C cs dy b Bs d c g (tdH x ps pp) W o9 (some (.dat (.int x))) (some (.dat (.list (us.map .int)))) (some (.dat (.list (qs.map yg)))) o13 o14 (some (.dat (.int m))) o16}:=by
 have nd:=uA.nd;refine zQ 15 nd ?_;ext;refine gk (fun d=>∃m:Int,d=.int m/\(m=1\/m=-1)) rfl (by assumption) (by assumption) ⟨⟨_,rfl,.inl rfl⟩,⟨_,rfl,.inr rfl⟩,trivial⟩ ?_;rintro _ ⟨m,rfl,hm⟩;exact zu ⟨m,hm,rfl⟩
theorem qh7 (nb:NbT mg)(hr:RmL f cdv A' s){us:List Int}:SvS (cxL P w K mg base f cdv A' outer s H E) (stL C cs dy b Bs d c g (tdH x ps pp) W o9 (some (.dat (.int x))) (some (.dat (.list (us.map .int)))) (some (.dat (.list (qs.map yg)))) o13 o14 o15 o16) [stH 7] {En with nx:=fun α=>α=stL C cs dy b Bs d c g (tdH x ps pp) W o9 (some (.dat (.int x))) (some (.dat (.list (us.map .int)))) (some (.dat (.list (qs.map yg)))) o13 o14 o15 (some (.own (us.map .int)))}:=by
 have nd:=uA.nd;refine yV 16 nd (me (by rfl) nb.list (zf 11 rfl ⟨_,rfl,?_⟩));exact zu rfl
theorem qh8 (hr:RmL f cdv A' s){us:List Int}{k:Nat}{m:Int}(hk:k<us.length):SvS (cxL P w K mg base f cdv A' outer s H E) (stL C cs dy b Bs d c g (tdH x ps pp) W o9 (some (.dat (.int x))) (some (.dat (.list (us.map .int)))) (some (.dat (.list (qs.map yg)))) o13 (some (.dat (.int k))) (some (.dat (.int m))) (some (.own (us.map .int)))) [stH 8] {En with nx:=fun α=>α=stL C cs dy b Bs d c g (tdH x ps pp) W o9 (some (.dat (.int x))) (some (.dat (.list (us.map .int)))) (some (.dat (.list (qs.map yg)))) o13 (some (.dat (.int k))) (some (.dat (.int m))) (some (.own ((us.set k (us[k]+m)).map .int)))}:=by
 have nd:=uA.nd;have hu:(us.map PyData.int)[k]?=some (.int us[k]):=by rw[zX1,zW6 hk];rfl
 refine zf3 16 rfl (xG (fX 16 rfl (vn hr.one (fun _ _=>rfl) (zf 16 rfl (zf 14 rfl (ixk rfl rfl (yH (j:=k) hu) ⟨rfl,zf 15 rfl ⟨_,_,rfl,rfl,zf 14 rfl ⟨k,k,rfl,?_,?_⟩⟩⟩))))))
 ·unfold ixN;rw[if_pos (by omega),if_pos (by rw[zW3];omega)];simp
 ·refine zu ?_;show _=_;unfold stL;rw[List.map_set]<;>rfl
theorem qh9 (nb:NbT mg)(hr:RmL f cdv A' s)(CL:Cal P w K mg base "lets_by" 10 (rS C cs))(bo:zM Bs)(bl:Bs.length<=8)(sg:zL c g){us vs:List Int}{m:Int}(pb:jW vs)(k1:¬wN Bs c g x (qs.map p3) vs)(k2:¬wN Bs c g (x+m) (qs.map p3) vs):SvS (cxL P w K mg base f cdv A' outer s H E) (stL C cs dy b Bs d c g (tdH x ps pp) W o9 (some (.dat (.int x))) (some (.dat (.list (us.map .int)))) (some (.dat (.list (qs.map yg)))) o13 o14 (some (.dat (.int m))) (some (.dat (.list (vs.map .int))))) [stH 9] {En with nx:=fun α=>∃o13,α=stL C cs dy b Bs d c g (tdH x ps pp) W o9 (some (.dat (.int x))) (some (.dat (.list (us.map .int)))) (some (.dat (.list (qs.map yg)))) o13 o14 (some (.dat (.int m))) (some (.dat (.list (vs.map .int))))}:=by
 have nd:=uA.nd;refine yG (.one 13) (yX ?_);ext;refine⟨Bs,c,g,_,rfl,bo,bl,sg,.inl ⟨x,qs.map p3,vs,by unfold mW;rw[mF],pb,?_⟩⟩;rw[sW k1];ext;refine⟨Bs,c,g,_,rfl,bo,bl,sg,.inl ⟨x+m,qs.map p3,vs,by unfold mW;rw[mF],pb,?_⟩⟩;rw[sW k2];ext;exact zu ⟨_,rfl⟩
end
section
variable {P:Program}{w:World}{K:PySem.W.Frag}{mg:Str->Option Value}{base:Heap}{cs:Cs}
theorem zD6 {Bs:List (List PyData)}{c g:Int}{W:List Way}(sg:zL c g)(iv:wZ (coB Bs) Bs.length g c W)(hn:zr W c=none):sL Bs c g ((zp c (g-c).toNat).filter fun e=>(zr W e).isNone):=by
 obtain⟨c0,cg,g1,g2⟩:=sg;obtain⟨m,hm⟩:∃m:Nat,(g-c).toNat=m+1:=⟨(g-c).toNat-1,by omega⟩;have mem:∀{e:Int},e∈(zp c (g-c).toNat).filter (fun e=>(zr W e).isNone)↔(c<=e/\e<g)/\zr W e=none:=fun {e}=>by rw[yc9,yO,show c+((g-c).toNat:Int)=g by omega,Option.isNone_iff_eq_none]
 refine zf2 ?_ ?_ (fun d hd=>(mem.mp hd).1.2) fun d hd e n y h1 h2 h3 h4=>?_
 ·refine⟨((zp (c+1) m).filter fun e=>(zr W e).isNone),?_⟩;have:zp c (g-c).toNat=c::zp (c+1) m:=by
   rw[hm];unfold zp;rw[List.range_succ_eq_map,zY2,zZ6];refine congr (congrArg _ (by simp)) (z87 fun i _=>?_);show c+((i+1:Nat):Int)=c+1+(i:Nat);omega
  rw[this,z86,hn];rfl
 ·refine List.Pairwise.filter _ ?_;unfold zp;exact List.pairwise_map.mpr (List.Pairwise.imp (fun h=>by omega) List.pairwise_lt_range)
 ·have hd':=mem.mp hd;cases q:zr W e with
  |none=>
   refine mem.mpr ⟨⟨by omega,?_⟩,q⟩;rcases Int.lt_or_eq_of_le h2 with h|h
   ·exact h
   ·rw[h,iv.zero] at q;cases q
  |some p=>
   obtain⟨x,l,e1,_⟩:=iv.least d e n y p.1 p.2 hd'.1.1 h1 h2 h3 h4 q;rw[hd'.2] at e1;cases e1
theorem sum_set {us:List Int}{k:Nat}(hk:k<us.length)(m:Int):(us.set k (us[k]+m)).sum=us.sum+m:=by
 induction us generalizing k with
 |nil=>simp at hk
 |cons u us ih=>
  cases k with
  |zero=>simp only[List.set_cons_zero,List.getElem_cons_zero,z31];omega
  |succ k=>
   simp only[List.set_cons_succ,List.getElem_cons_succ,z31];rw[ih (by simpa using hk)];omega
def zM3 (C:Addr)(cs:Cs)(dy b:Int)(Bs:List (List PyData))(α:Ev):Prop:=∃r:Nat->Option A,α=[none,some .tape,some (.dat (.int dy)),some (.dat (.int b)),some (.dat (zI C cs Bs)),r 0,r 1,r 2,r 3,r 4,r 5,r 6,r 7,r 8,r 9,r 10,r 11]
theorem zH4 {C:Addr}{dy b:Int}{Bs:List (List PyData)}(a0 a1 a2 a3 a4 a5 a6 a7 a8 a9 a10 a11:Option A):zM3 C cs dy b Bs [none,some .tape,some (.dat (.int dy)),some (.dat (.int b)),some (.dat (zI C cs Bs)),a0,a1,a2,a3,a4,a5,a6,a7,a8,a9,a10,a11]:=⟨fun i=>[a0,a1,a2,a3,a4,a5,a6,a7,a8,a9,a10,a11].getD i none,rfl⟩
theorem zH8 {f fT C:Addr}{fd fdT:FuncData}(F:Fun K "law" "law" sZ f fd)(nb:NbT mg)(GT:zE P w K mg base CX0 1 fT fdT ["_law_script"] (jq K))(mT:mg "_law_tape"=some (.ref fT))(kT:PySem.W.keepIn K (.ref fT)=true)(bT:Binds K fdT ["_law_script"] [])
  (CD:Cal P w K mg base "_law_draw" 1 xI) (CB:Cal P w K mg base "_law_books" 11 (gP C cs)) (CBe:Cal P w K mg base "best" 9 (za6 C cs)) (CS:Cal P w K mg base "_law_stay" 2 zk6) (CG:Cal P w K mg base "_law_to_go" 8 (zQ6 C cs)) (CP:Cal P w K mg base "_law_paper" 1 aQ) (CCu:∀Bs,Cal P w K mg base "_law_cut" 1 (jK Bs)) (CL:Cal P w K mg base "lets_by" 10 (rS C cs)):
  zE P w K mg base CX0 13 f fd ["_law_script"] (mQ K):=by
 refine zV8 (k:=11) F uA GT mT kT bT rfl rfl (Or.inl rfl) (Or.inl rfl) (fun cdv A' outer s H E hr=>?_);have nd:=uA.nd;ext;refine⟨⟨by decide,by decide +kernel⟩,?_⟩;rename_i v1 a1 b1 v2 a2 b2 v3 a3 b3;refine gk (fun d=>∃dy:Int,d=.int dy/\2<=dy/\dy<=14) rfl (by omega) (by show _<(2:Int);omega) ⟨⟨_,rfl,by omega,by omega⟩,⟨_,rfl,by omega,by omega⟩,trivial⟩ ?_;rintro _ ⟨dy,rfl,d0,d1⟩;ext;refine gk (fun d=>∃b:Int,d=.int b/\0<=b/\b<=999980) rfl (by assumption) (by assumption) ⟨⟨_,rfl,by omega,by omega⟩,⟨_,rfl,by omega,by omega⟩,⟨_,rfl,by omega,by omega⟩,trivial⟩ ?_;rintro _ ⟨b,rfl,b0,b1⟩;ext;refine⟨b,dy,rfl,⟨b0,b1,by omega,by omega⟩,fun Bs0 bo0 bl0 bl1 dl0=>?_⟩;refine zP (fun α=>∃Bs,zM Bs/\Bs.length<=8/\α=[none,some .tape,some (.dat (.int dy)),some (.dat (.int b)),some (.dat (zI C cs Bs)),none,none,none,none,none,none,none,none,none,none,none,none]) ?_ ?_
 ·ext;refine yq (fun _=>?_) (fun _=>?_)
  ·ext;rw[show L2.cutD (Bs0.map (yK C cs)) none (some 2)=(Bs0.take 2).map (yK C cs) by rw[zv3 _ (by decide),<-ye5]<;>rfl];exact⟨_,zo1 bo0 2,by rw[zZ4];omega,rfl⟩
  ·ext;exact⟨_,bo0,by omega,rfl⟩
 rintro α ⟨Bs,bo,bl,rfl⟩;refine yG (.one 5) (xF (by rfl) nb.range ?_);ext;refine⟨by split<;>omega,by split<;>omega,?_⟩;refine zN (fun i α=>zM3 C cs dy b Bs α) (zH4 none none none none none none none none none none none none) ?_ ?_
 ·rintro i d α hd ⟨r,rfl⟩;refine⟨_,rfl,?_⟩;ext;refine⟨b,dy,rfl,⟨b0,b1,by omega,by omega⟩,fun c g h1 h2 h3=>?_⟩;have sg:zL c g:=⟨by omega,by omega,by omega,by omega⟩;ext;refine⟨Bs,c,g,rfl,bo,by omega,sg,fun S=>?_⟩;ext;refine⟨Bs,c,g,rfl,bo,bl,sg,fun W iv=>?_⟩;have wn:W≠[]:=List.ne_nil_of_mem (find_some iv.zero);have wl:W.length<=100:=by have:=iv.len;omega
  have h00:∀n b e x,n<Bs.length->coB Bs n b e=some x->0<=x:=fun n b e x hn h=>(wW bo hn h).2.2.2.1;rcases jL bo sg with ⟨z,ps,pp,hw⟩|⟨ds,hw⟩
  ·obtain⟨x,l,hf,hx⟩:=iv.le hw.cut (z23 _);have ls:=iv.leastOf hf;obtain rfl:z=x:=by
    obtain⟨⟨qs,hq⟩,_⟩:=ls;have:=hw.least _ _ hq;omega
   show SvS (cxL P w K mg base f cdv A' outer s H E) (stL C cs dy b Bs d c g (bestOf Bs c g) W (r 4) (r 5) (r 6) (r 7) (r 8) (r 9) (r 10) (r 11)) _ _;rw[hw.eq];refine zP _ (s3 hr rfl (by rw[hf];exact z02 rfl)) ?_;rintro α rfl;refine xf (iP hr.units (vn hr.one (fun _ _=>rfl) (zf 7 rfl (yc (mw (yd (nM ?_)))))));refine ve (by decide +kernel) ?_;refine zP _ (qh0 hr hf) ?_;rintro α rfl;refine zP _ (qh1 hr CP wn wl sg) ?_;rintro α rfl;refine zP _ (qh2 hr (CCu Bs) iv sg hf) ?_;rintro α ⟨qs,hq,rfl⟩;refine zP _ (qh3 hr) ?_;rintro α rfl;obtain⟨us,hus⟩:∃us,us=pe W c (g-c).toNat:=⟨_,rfl⟩;have ul:us.length=(g-c).toNat:=by rw[hus,ka]
   have uS:us.sum=z:=by
    have:=kx (W:=W) (c:=c) (n:=(g-c).toNat) (i:=0) (k:=(g-c).toNat) (by omega);rw[List.drop_zero,z95 (by rw[ka];omega),<-hus] at this;rw[this,show c+((0:Nat):Int)=c by simp,show c+((g-c).toNat:Int)=g by omega,yY hf,yY iv.zero];omega
   have uP:∀n b e y,n<Bs.length->c<=b->b<e->e<=g->coB Bs n b e=some y->((us.drop (b-c).toNat).take (e-b).toNat).sum<=y:=fun n b e y hn cb be eg hy=>by
    rw[hus,kx (by omega),show c+((b-c).toNat:Int)=b by omega,show b+((e-b).toNat:Int)=e by omega];exact iv.paper h00 hn cb be eg hy
   have ub:∀n∈us,-300000000000000<=n/\n<=300000000000000:=fun n hn=>by
    rw[hus] at hn;unfold pe at hn;obtain⟨e,_,rfl⟩:=z06.mp hn;have b1:=iv.bd (by omega) (fun n b e x hn h=>(wW bo hn h).2.2.2) e;have b2:=iv.bd (by omega) (fun n b e x hn h=>(wW bo hn h).2.2.2) (e+1);omega
   rw[<-hus];have pb:=fv sg ul ub;refine zP _ (qh4 nb hr CL bo bl sg pb (fv sg hw.plen hw.pbd) (qF bo sg hq ul uS uP) (qF bo sg hw.cut ul uS uP) (qF bo sg hq hw.plen hw.psum hw.paper)) ?_;rintro α ⟨o13',rfl⟩;refine zP _ (qh5 nb hr CD (by omega) (by omega)) ?_;rintro α ⟨k,hk,rfl⟩;refine zP _ (qh6 hr CD) ?_;rintro α ⟨m,hm,rfl⟩;refine zP _ (qh7 nb hr) ?_;rintro α rfl;refine zP _ (qh8 hr hk) ?_;rintro α rfl;refine qS 16 rfl ?_;have vs:=sum_set hk m;have vb:jW (us.set k (us[k]+m)):=by
    refine⟨by rw[z33];omega,fun n hn=>?_⟩;have hv:=ub us[k] (z28 hk);rcases List.mem_or_eq_of_mem_set hn with h|rfl
    ·have:=ub n h;omega
    ·omega
   refine zP _ (qh9 nb hr CL bo bl sg vb (fun z=>?_) (fun z=>?_)) ?_
   ·have:=z.2.2.2.1;omega
   ·have h1:=z.2.1;have h2:=(fb bo hq (c:=c) (z23 _)).2;omega
   rintro α ⟨o13'',rfl⟩;exact zu (zu (zH4 _ _ _ _ _ _ _ _ _ _ _ _))
  ·have hn:zr W c=none:=by
    cases q:zr W c with
    |none=>rfl
    |some p=>
     obtain⟨⟨qs,hq⟩,_⟩:=iv.leastOf (x:=p.1) (l:=p.2) q;exact absurd hq (hw.none _ _)
   show SvS (cxL P w K mg base f cdv A' outer s H E) (stL C cs dy b Bs d c g (bestOf Bs c g) W (r 4) (r 5) (r 6) (r 7) (r 8) (r 9) (r 10) (r 11)) _ _;rw[hw.eq];refine zP _ (s3 hr rfl (by rw[hn];decide +kernel)) ?_;rintro α rfl;refine xf (iP hr.units (vn hr.one (fun _ _=>rfl) (zf 7 rfl (yc (mw (yd (nM ?_)))))));refine uQ (by decide +kernel) ?_;refine zP _ (qo0 nb hr sg) ?_;rintro α rfl;have ok:=zD6 sg iv hn;refine zP _ (qo1 nb hr CL bo bl sg (by have:=List.length_filter_le (fun e:Int=>(zr W e).isNone) (zp c (g-c).toNat);rw[zc] at this;omega) ok) ?_;rintro α rfl;exact zu (zu (zH4 _ _ _ _ _ _ _ _ _ _ _ _))
 rintro α ⟨r,rfl⟩;ext;rfl
end
def FnF (K:PySem.W.Frag)(f:Addr)(nm ql:Str)(st:Stmt):Prop:=∃fd,Fun K nm ql st f fd
theorem mkF {K:PySem.W.Frag}{f:Addr}{nm ql:Str}{st:Stmt}{oc kV dc pm cd ct:Value}{od an:Option Addr}{sl:Array (Option Value)}(l:K.lookup f=some ⟨oc,od,.func (PySem.W.fnOf nm ql (zV st) (zA st) (zb st) .none kV dc pm an cd ct),sl⟩)(c:PySem.W.codeIn K cd ql=true)(k:PySem.W.keepIn K (.ref f)=true):FnF K f nm ql st:=⟨_,kO l c k⟩
def FnG (K:PySem.W.Frag)(f:Addr)(nm:Str)(st:Stmt):Prop:=PySem.W.nsIn K mainGlobals nm=some (some (.ref f))/\FnF K f nm nm st
theorem mkG {K:PySem.W.Frag}{f:Addr}{nm:Str}{st:Stmt}{oc kV dc pm cd ct:Value}{od an:Option Addr}{sl:Array (Option Value)}(a:PySem.W.nsIn K mainGlobals nm=some (some (.ref f)))(l:K.lookup f=some ⟨oc,od,.func (PySem.W.fnOf nm nm (zV st) (zA st) (zb st) .none kV dc pm an cd ct),sl⟩)(c:PySem.W.codeIn K cd nm=true)(k:PySem.W.keepIn K (.ref f)=true):FnG K f nm st:=⟨a,mkF l c k⟩
theorem FnF.get {K:PySem.W.Frag}{f:Addr}{nm ql:Str}{st:Stmt}(ps:List Str)(h:FnF K f nm ql st)(hb:∀(kV doc pm:Value) (an:Option Addr) (cdv ct:Value) (us:List Value),us.length=ps.length->bindArgs (PySem.W.fnOf nm ql (zV st) (zA st) (zb st) .none kV doc pm an cdv ct) ⟨us,[]⟩=pure (ps.zip us)):∃fd,Fun K nm ql st f fd/\Binds K fd ps []:=by
 obtain⟨fd,F⟩:=h;exact⟨fd,F,F.binds hb⟩
theorem FnG.get {K:PySem.W.Frag}{h0:Heap}{mg:Str->Option Value}{f:Addr}{nm:Str}{st:Stmt}(ps:List Str)(h:FnG K f nm st)(X:K.In h0)(G:h0.Ns mainGlobals mg)(hb:∀(kV doc pm:Value) (an:Option Addr) (cdv ct:Value) (us:List Value),us.length=ps.length->bindArgs (PySem.W.fnOf nm nm (zV st) (zA st) (zb st) .none kV doc pm an cdv ct) ⟨us,[]⟩=pure (ps.zip us)):∃fd,mg nm=some (.ref f)/\Fun K nm nm st f fd/\Binds K fd ps []:=by
 obtain⟨a,fd,F⟩:=h;exact⟨fd,z26 X G a,F,F.binds hb⟩
theorem mkR {K:PySem.W.Frag}{C gi gt ge gw:Addr}(pg:PySem.W.plainGet K C Str.empty=true)(hd:PySem.W.hasDictIn K C=true)(po:PySem.W.plainOver K C=true)(sa:PySem.W.findIn K (.ref C) "__setattr__"=some (some (.builtin "object.__setattr__")))(n1:PySem.W.findIn K (.ref C) "first"=some none)(n2:PySem.W.findIn K (.ref C) "last"=some none)(n3:PySem.W.findIn K (.ref C) "worth"=some none)(mk:PySem.W.makesIn K C=true)(f1:PySem.W.findIn K (.ref C) "__init__"=some (some (.ref gi)))(i1:PySem.W.isFn K (.ref gi)=true)(kc:PySem.W.keepIn K (.ref C)=true)(f2:PySem.W.findIn K (.ref C) "told"=some (some (.ref gt)))(i2:PySem.W.isFn K (.ref gt)=true)(k2:PySem.W.keepIn K (.ref gt)=true)(f3:PySem.W.findIn K (.ref C) "tells"=some (some (.ref ge)))(i3:PySem.W.isFn K (.ref ge)=true)(k3:PySem.W.keepIn K (.ref ge)=true)(f4:PySem.W.findIn K (.ref C) "word"=some (some (.ref gw)))(i4:PySem.W.isFn K (.ref gw)=true)(k4:PySem.W.keepIn K (.ref gw)=true):vq K C gi gt ge gw:=⟨⟨pg,hd,po,sa⟩,n1,n2,n3,⟨mk,f1,i1,kc⟩,⟨f2,i2,k2⟩,⟨f3,i3,k3⟩,⟨f4,i4,k4⟩⟩
theorem cU {K:PySem.W.Frag}{dT:Addr}{oc kV doc pm cdv ct:Value}{od an:Option Addr}{n:Nat}{sl:Array (Option Value)}(lk:K.lookup dT=some ⟨oc,od,.seq #[.none] n,sl⟩):
  Binds K (PySem.W.fnOf "__init__" "Book.__init__" (zV xR) (zA xR) (zb xR) (.ref dT) kV doc pm an cdv ct) ["self","rules"] [.none]:=fun s us hk hl=>by
 match us,(show us.length=1 by rw[zY6] at hl;simpa using hl) with
 |[u],_=>exact BindsTo.of_defaults (T:=dT) rfl (hk _ _ lk) rfl rfl rfl
theorem dH {K:PySem.W.Frag}{dT:Addr}{oc kV doc pm cdv ct:Value}{od an:Option Addr}{n:Nat}{sl:Array (Option Value)}(lk:K.lookup dT=some ⟨oc,od,.seq #[.none] n,sl⟩):
  Binds K (PySem.W.fnOf "__init__" "Book.__init__" (zV xR) (zA xR) (zb xR) (.ref dT) kV doc pm an cdv ct) ["self","rules"] []:=fun s us hk hl=>by
 rw[z40] at hl ⊢
 match us,hl with
 |[u,v],_=>exact BindsTo.of_defaults (T:=dT) rfl (hk _ _ lk) rfl rfl rfl
theorem zJ9 {P:Str->Prop}(h1:P "price")(h2:P "come")(h3:P "go")(h4:P "least")(h5:P "most")(h6:P "deal")(h7:P "fee"):∀u∈words,P u:=by
 intro u hu;simp only[words,zX0,zY3,z07] at hu;rcases hu with rfl|rfl|rfl|rfl|rfl|rfl|rfl<;>assumption
theorem us1 {α:Type}{p:List α->Prop}(h:∀a,p [a])(us:List α)(hl:us.length=1):p us:=by
 obtain⟨a,rfl⟩:=List.length_eq_one_iff.mp hl;exact h a
theorem us2 {α:Type}{p:List α->Prop}(h:∀a b,p [a,b])(us:List α)(hl:us.length=2):p us:=by
 cases us with
 |nil=>cases hl
 |cons a us=>exact us1 (p:=fun us=>p (a::us)) (h a) us (Nat.succ.inj hl)
theorem us3 {α:Type}{p:List α->Prop}(h:∀a b c,p [a,b,c])(us:List α)(hl:us.length=3):p us:=by
 cases us with
 |nil=>cases hl
 |cons a us=>exact us2 (p:=fun us=>p (a::us)) (h a) us (Nat.succ.inj hl)
theorem us4 {α:Type}{p:List α->Prop}(h:∀a b c d,p [a,b,c,d])(us:List α)(hl:us.length=4):p us:=by
 cases us with
 |nil=>cases hl
 |cons a us=>exact us3 (p:=fun us=>p (a::us)) (h a) us (Nat.succ.inj hl)
theorem us5 {α:Type}{p:List α->Prop}(h:∀a b c d e,p [a,b,c,d,e])(us:List α)(hl:us.length=5):p us:=by
 cases us with
 |nil=>cases hl
 |cons a us=>exact us4 (p:=fun us=>p (a::us)) (h a) us (Nat.succ.inj hl)
theorem all_mk {l:PySem.W.OpenLaw}{w:World}{K:PySem.W.Frag}{h:Heap}{mg:Str->Option Value}{fa cC f1 f2 f3 f4 f5 f6 f7 f8 f9 f10 f11 f12 f13 f14 f15 f16 f17 f18 f19 f20 f21 f22 f23 f24 f25 f26 f27 f28 f29 f30 f31 f32 f33 f34 f35 f36 f37 f38 f39 f40 f41 f42 f43 f44 f45 f46 f47 f48 f49 f50 f51 f52 g_init g_told g_tells g_wPrice g_wCome g_wGo g_wLeast g_wMost g_wDeal g_wFee CPrice CCome CGo CLeast CMost CDeal CFee CB dT g_binit g_btells dU:Addr}(X:K.In h)(G:h.Ns mainGlobals mg)(hfa:mg "law"=some (.ref fa))
  {od14 an14 od52 an52 odB anB odT:Option Addr} {sl14 sl52 slB slT:Array (Option Value)} {oc14 kV14 dc14 pm14 ct14 oc52 kV52 dc52 pm52 ct52 cd52 ocB kVB dcB pmB ctB cdB ocT:Value} {tk1 tk2 tk3 tk4 tu1 tu2 tu3 tu4 tu5 tu6 tu7 tu8 tu9 tu10:Tok} {hu1 hu2 hu3 hu4 hu5 hu6 hu7:Int} {nT nU:Nat}
  (q1:FnG K f1 "is_whole" qu)
  (q2:FnG K f2 "is_whole_within" ml)
  (q3:FnG K f3 "is_pair" zf9)
  (q4:FnG K f4 "is_day" zG7)
  (q5:FnG K f5 "is_pair_of_days" aR)
  (q6:FnG K f6 "is_stretch" qt)
  (q7:FnG K f7 "is_coins" iU)
  (q8:FnG K f8 "is_deal" oV)
  (q9:FnG K f9 "is_worth" kQ)
  (q10:FnG K f10 "is_rule" nX)
  (q11:FnG K f11 "made" zg7)
  (q12:FnG K f12 "rule_of" nN)
  (q13:FnG K f13 "nights_of" ma)
  (a14:PySem.W.nsIn K mainGlobals "cheapest_first"=some (some (.ref f14)))
  (l14:K.lookup f14=some ⟨oc14,od14,.func (PySem.W.fnOf "cheapest_first" "cheapest_first" (zV xi) (zA xi) (zb xi) .none kV14 dc14 pm14 an14 (.ref cC) ct14),sl14⟩)
  (c14:PySem.W.codeIn K (.ref cC) "cheapest_first"=true)
  (k14:PySem.W.keepIn K (.ref f14)=true)
  (q15:FnG K f15 "marked" uk)
  (q16:FnG K f16 "night_prices" sNP)
  (q17:FnG K f17 "bill" sJ)
  (q18:FnG K f18 "bars" pR)
  (q19:FnG K f19 "can_be_had" zE3)
  (q20:FnG K f20 "cost" zh2)
  (q21:FnG K f21 "cost_or_none" zI0)
  (q22:FnG K f22 "is_part" oU)
  (q23:FnG K f23 "is_cut" kK)
  (q24:FnG K f24 "cut_coins" bO)
  (q25:FnG K f25 "is_list_of_wholes" zG2)
  (q26:FnG K f26 "costs_no_less" zD5)
  (q27:FnG K f27 "no_part_costs_less" zH1)
  (q28:FnG K f28 "is_had" iK)
  (q29:FnG K f29 "leads_out" iR)
  (q30:FnG K f30 "is_rising_from" nR)
  (q31:FnG K f31 "is_off" ia)
  (q32:FnG K f32 "lets_by" ae)
  (q33:FnG K f33 "usual" kX)
  (q34:FnG K f34 "kept_rules" zb4)
  (q35:FnG K f35 "arrivals" zI7)
  (q36:FnG K f36 "least_ways" sLW)
  (q37:FnG K f37 "cut_of" jY)
  (q38:FnG K f38 "paper_of" jG)
  (q39:FnG K f39 "best" zc1)
  (q40:FnG K f40 "_law_tape" pX)
  (q41:FnG K f41 "_law_draw" zi1)
  (q42:FnG K f42 "_law_coins" oM)
  (q43:FnG K f43 "_law_worth" oT)
  (q44:FnG K f44 "_law_price_rules" nH)
  (q45:FnG K f45 "_law_other_rules" mf)
  (q46:FnG K f46 "_law_rules" nk)
  (q47:FnG K f47 "_law_stay" zi9)
  (q48:FnG K f48 "_law_books" nJ)
  (q49:FnG K f49 "_law_to_go" sGo)
  (q50:FnG K f50 "_law_paper" zE7)
  (q51:FnG K f51 "_law_cut" bF)
  (a52:PySem.W.nsIn K mainGlobals "law"=some (some (.ref f52)))
  (l52:K.lookup f52=some ⟨oc52,od52,.func (PySem.W.fnOf "law" "law" (zV sZ) (zA sZ) (zb sZ) .none kV52 dc52 pm52 an52 cd52 ct52),sl52⟩)
  (c52:PySem.W.codeIn K cd52 "law"=true)
  (k52:PySem.W.keepIn K (.ref f52)=true)
  (aCPrice:PySem.W.nsIn K mainGlobals "Price"=some (some (.ref CPrice)))
  (aCCome:PySem.W.nsIn K mainGlobals "Come"=some (some (.ref CCome)))
  (aCGo:PySem.W.nsIn K mainGlobals "Go"=some (some (.ref CGo)))
  (aCLeast:PySem.W.nsIn K mainGlobals "Least"=some (some (.ref CLeast)))
  (aCMost:PySem.W.nsIn K mainGlobals "Most"=some (some (.ref CMost)))
  (aCDeal:PySem.W.nsIn K mainGlobals "Deal"=some (some (.ref CDeal)))
  (aCFee:PySem.W.nsIn K mainGlobals "Fee"=some (some (.ref CFee)))
  (RPrice:vq K CPrice g_init g_told g_tells g_wPrice)
  (RCome:vq K CCome g_init g_told g_tells g_wCome)
  (RGo:vq K CGo g_init g_told g_tells g_wGo)
  (RLeast:vq K CLeast g_init g_told g_tells g_wLeast)
  (RMost:vq K CMost g_init g_told g_tells g_wMost)
  (RDeal:vq K CDeal g_init g_told g_tells g_wDeal)
  (RFee:vq K CFee g_init g_told g_tells g_wFee)
  (q_init:FnF K g_init "__init__" "Rule.__init__" fL)
  (q_tells:FnF K g_tells "tells" "Rule.tells" iG)
  (q_wPrice:FnF K g_wPrice "word" "Price.word" nV)
  (q_wCome:FnF K g_wCome "word" "Come.word" ie)
  (q_wGo:FnF K g_wGo "word" "Go.word" zJ0)
  (q_wLeast:FnF K g_wLeast "word" "Least.word" md)
  (q_wMost:FnF K g_wMost "word" "Most.word" jh)
  (q_wDeal:FnF K g_wDeal "word" "Deal.word" iA)
  (q_wFee:FnF K g_wFee "word" "Fee.word" zb8)
  (aCB:PySem.W.nsIn K mainGlobals "Book"=some (some (.ref CB)))
  (fi_binit:PySem.W.findIn K (.ref CB) "__init__"=some (some (.ref g_binit)))
  (is_binit:PySem.W.isFn K (.ref g_binit)=true)
  (l_binit:K.lookup g_binit=some ⟨ocB,odB,.func (PySem.W.fnOf "__init__" "Book.__init__" (zV xR) (zA xR) (zb xR) (.ref dT) kVB dcB pmB anB cdB ctB),slB⟩)
  (c_binit:PySem.W.codeIn K cdB "Book.__init__"=true)
  (k_binit:PySem.W.keepIn K (.ref g_binit)=true)
  (lT:K.lookup dT=some ⟨ocT,odT,.seq #[.none] nT,slT⟩)
  (fi_btells:PySem.W.findIn K (.ref CB) "tells_of"=some (some (.ref g_btells)))
  (is_btells:PySem.W.isFn K (.ref g_btells)=true)
  (q_btells:FnF K g_btells "tells_of" "Book.tells_of" oP)
  (pgB:PySem.W.plainGet K CB Str.empty=true)
  (hdB:PySem.W.hasDictIn K CB=true)
  (poB:PySem.W.plainOver K CB=true)
  (saB:PySem.W.findIn K (.ref CB) "__setattr__"=some (some (.builtin "object.__setattr__")))
  (mkB:PySem.W.makesIn K CB=true)
  (kcB:PySem.W.keepIn K (.ref CB)=true)
  (noB:PySem.W.findIn K (.ref CB) "kept"=some none)
  (z1:PySem.W.nsIn K mainGlobals "abs"=some none)
  (z2:PySem.W.nsIn K mainGlobals "list"=some none)
  (z3:PySem.W.nsIn K mainGlobals "len"=some none)
  (z4:PySem.W.nsIn K mainGlobals "range"=some none)
  (z5:PySem.W.nsIn K mainGlobals "min"=some none)
  (z6:PySem.W.nsIn K mainGlobals "max"=some none)
  (z7:PySem.W.nsIn K mainGlobals "sorted"=some none)
  (z8:PySem.W.nsIn K mainGlobals "isinstance"=some none)
  (z9:PySem.W.nsIn K mainGlobals "int"=some none)
  (z10:PySem.W.nsIn K mainGlobals "bool"=some none)
  (z11:PySem.W.nsIn K mainGlobals "str"=some none)
  (z12:PySem.W.nsIn K mainGlobals "tuple"=some none)
  (z13:PySem.W.nsIn K mainGlobals "all"=some none)
  (z14:PySem.W.nsIn K mainGlobals "any"=some none)
  (z15:PySem.W.nsIn K mainGlobals "repr"=some none)
  (z16:PySem.W.nsIn K mainGlobals "zip"=some none)
  (z17:PySem.W.nsIn K mainGlobals "enumerate"=some none)
  (z18:PySem.W.nsIn K mainGlobals "reversed"=some none)
  (z19:PySem.W.nsIn K mainGlobals "sum"=some none)
  (gi1:PySem.W.nsIn K mainGlobals "LAST_DAY"=some (some (.int 1000000 tk1)))
  (gi2:PySem.W.nsIn K mainGlobals "MOST_NIGHTS"=some (some (.int 14 tk2)))
  (gi3:PySem.W.nsIn K mainGlobals "MOST_COINS"=some (some (.int 1000000000000 tk3)))
  (gi4:PySem.W.nsIn K mainGlobals "MOST_RULES"=some (some (.int 24 tk4)))
  (aU:PySem.W.nsIn K mainGlobals "USUAL"=some (some (.ref dU)))
  (lU:K.lookup dU=some ⟨.type "dict",none,.dict #[⟨hu1,.str "price" tu1,.none⟩,⟨hu2,.str "come" tu2,.bool true⟩,⟨hu3,.str "go" tu3,.bool true⟩,⟨hu4,.str "least" tu4,.int 1 tu8⟩,⟨hu5,.str "most" tu5,.int 14 tu9⟩,⟨hu6,.str "deal" tu6,.none⟩,⟨hu7,.str "fee" tu7,.int 0 tu10⟩] nU,#[]⟩)
  (hh1:hu1=hashStr w "price")
  (hh2:hu2=hashStr w "come")
  (hh3:hu3=hashStr w "go")
  (hh4:hu4=hashStr w "least")
  (hh5:hu5=hashStr w "most")
  (hh6:hu6=hashStr w "deal")
  (hh7:hu7=hashStr w "fee")
  (hhd:PySem.W.codeHdIn K cC yL=true):
  ∃fd:FuncData,(∀(s:Shared) (v:Value),BindsTo s fd ⟨[v],[]⟩ [("_law_script",v)])/\∀base:Heap,K.In base->base.Ns mainGlobals mg->base.BuiltinsAt mg yL->zE l.prog w K mg base CX0 13 fa fd ["_law_script"] (mQ K):=by
 have e:=hfa.symm.trans (z26 X G a52);cases e;have nb:NbT mg:=⟨zZ3 X G z1,zZ3 X G z2,zZ3 X G z3,zZ3 X G z4,zZ3 X G z5,zZ3 X G z6,zZ3 X G z7,zZ3 X G z8,zZ3 X G z9,zZ3 X G z10,zZ3 X G z11,zZ3 X G z12,zZ3 X G z13,zZ3 X G z14,zZ3 X G z15,zZ3 X G z16,zZ3 X G z17,zZ3 X G z18,zZ3 X G z19⟩;obtain⟨_,m_is_whole,F_is_whole,b_is_whole⟩:=q1.get ["thing"] X G fun _ _ _ _ _ _=>us1 fun _=>rfl;obtain⟨_,m_is_whole_within,F_is_whole_within,b_is_whole_within⟩:=q2.get ["thing","lowest","highest"] X G fun _ _ _ _ _ _=>us3 fun _ _ _=>rfl;obtain⟨_,m_is_pair,F_is_pair,b_is_pair⟩:=q3.get ["thing"] X G fun _ _ _ _ _ _=>us1 fun _=>rfl;obtain⟨_,m_is_day,F_is_day,b_is_day⟩:=q4.get ["thing"] X G fun _ _ _ _ _ _=>us1 fun _=>rfl;obtain⟨_,m_is_pair_of_days,F_is_pair_of_days,b_is_pair_of_days⟩:=q5.get ["thing"] X G fun _ _ _ _ _ _=>us1 fun _=>rfl;obtain⟨_,m_is_stretch,F_is_stretch,b_is_stretch⟩:=q6.get ["thing"] X G fun _ _ _ _ _ _=>us1 fun _=>rfl;obtain⟨_,m_is_coins,F_is_coins,b_is_coins⟩:=q7.get ["thing"] X G fun _ _ _ _ _ _=>us1 fun _=>rfl;obtain⟨_,m_is_deal,F_is_deal,b_is_deal⟩:=q8.get ["thing"] X G fun _ _ _ _ _ _=>us1 fun _=>rfl;obtain⟨_,m_is_worth,F_is_worth,b_is_worth⟩:=q9.get ["word","thing"] X G fun _ _ _ _ _ _=>us2 fun _ _=>rfl;obtain⟨_,m_is_rule,F_is_rule,b_is_rule⟩:=q10.get ["thing"] X G fun _ _ _ _ _ _=>us1 fun _=>rfl;obtain⟨_,m_made,F_made,b_made⟩:=q11.get ["word","first","last","worth"] X G fun _ _ _ _ _ _=>us4 fun _ _ _ _=>rfl;obtain⟨_,m_rule_of,F_rule_of,b_rule_of⟩:=q12.get ["thing"] X G fun _ _ _ _ _ _=>us1 fun _=>rfl;obtain⟨_,m_nights_of,F_nights_of,b_nights_of⟩:=q13.get ["stay"] X G fun _ _ _ _ _ _=>us1 fun _=>rfl;have m_cheapest_first:mg "cheapest_first"=some (.ref f14):=z26 X G a14;have F_cheapest_first:=kO (st:=xi) l14 c14 k14;have b_cheapest_first:=F_cheapest_first.binds (ps:=["prices","places"]) fun _ _ _ _ _ _=>us2 fun _ _=>rfl;obtain⟨_,m_marked,F_marked,b_marked⟩:=q15.get ["prices","deal"] X G fun _ _ _ _ _ _=>us2 fun _ _=>rfl;obtain⟨_,m_night_prices,F_night_prices,b_night_prices⟩:=q16.get ["book","nights"] X G fun _ _ _ _ _ _=>us2 fun _ _=>rfl;obtain⟨_,m_bill,F_bill,b_bill⟩:=q17.get ["book","stay"] X G fun _ _ _ _ _ _=>us2 fun _ _=>rfl;obtain⟨_,m_bars,F_bars,b_bars⟩:=q18.get ["book","stay"] X G fun _ _ _ _ _ _=>us2 fun _ _=>rfl;obtain⟨_,m_can_be_had,F_can_be_had,b_can_be_had⟩:=q19.get ["book","stay"] X G fun _ _ _ _ _ _=>us2 fun _ _=>rfl;obtain⟨_,m_cost,F_cost,b_cost⟩:=q20.get ["book","stay"] X G fun _ _ _ _ _ _=>us2 fun _ _=>rfl;obtain⟨_,m_cost_or_none,F_cost_or_none,b_cost_or_none⟩:=q21.get ["book","stay"] X G fun _ _ _ _ _ _=>us2 fun _ _=>rfl;obtain⟨_,m_is_part,F_is_part,b_is_part⟩:=q22.get ["books","stay","thing"] X G fun _ _ _ _ _ _=>us3 fun _ _ _=>rfl;obtain⟨_,m_is_cut,F_is_cut,b_is_cut⟩:=q23.get ["books","stay","thing"] X G fun _ _ _ _ _ _=>us3 fun _ _ _=>rfl;obtain⟨_,m_cut_coins,F_cut_coins,b_cut_coins⟩:=q24.get ["books","cut"] X G fun _ _ _ _ _ _=>us2 fun _ _=>rfl;obtain⟨_,m_is_list_of_wholes,F_is_list_of_wholes,b_is_list_of_wholes⟩:=q25.get ["thing"] X G fun _ _ _ _ _ _=>us1 fun _=>rfl;obtain⟨_,m_costs_no_less,F_costs_no_less,b_costs_no_less⟩:=q26.get ["books","stay","coins"] X G fun _ _ _ _ _ _=>us3 fun _ _ _=>rfl;obtain⟨_,m_no_part_costs_less,F_no_part_costs_less,b_no_part_costs_less⟩:=q27.get ["books","stay","paper"] X G fun _ _ _ _ _ _=>us3 fun _ _ _=>rfl;obtain⟨_,m_is_had,F_is_had,b_is_had⟩:=q28.get ["books","stay","coins","cut","paper"] X G fun _ _ _ _ _ _=>us5 fun _ _ _ _ _=>rfl;obtain⟨_,m_leads_out,F_leads_out,b_leads_out⟩:=q29.get ["books","day","go","days"] X G fun _ _ _ _ _ _=>us4 fun _ _ _ _=>rfl;obtain⟨_,m_is_rising_from,F_is_rising_from,b_is_rising_from⟩:=q30.get ["days","first"] X G fun _ _ _ _ _ _=>us2 fun _ _=>rfl;obtain⟨_,m_is_off,F_is_off,b_is_off⟩:=q31.get ["books","stay","days"] X G fun _ _ _ _ _ _=>us3 fun _ _ _=>rfl;obtain⟨_,m_lets_by,F_lets_by,b_lets_by⟩:=q32.get ["books","stay","thing"] X G fun _ _ _ _ _ _=>us3 fun _ _ _=>rfl;obtain⟨_,m_usual,F_usual,b_usual⟩:=q33.get ["word"] X G fun _ _ _ _ _ _=>us1 fun _=>rfl;obtain⟨_,m_kept_rules,F_kept_rules,b_kept_rules⟩:=q34.get ["things"] X G fun _ _ _ _ _ _=>us1 fun _=>rfl;obtain⟨_,m_arrivals,F_arrivals,b_arrivals⟩:=q35.get ["books","ways","day"] X G fun _ _ _ _ _ _=>us3 fun _ _ _=>rfl;obtain⟨_,m_least_ways,F_least_ways,b_least_ways⟩:=q36.get ["books","stay"] X G fun _ _ _ _ _ _=>us2 fun _ _=>rfl;obtain⟨_,m_cut_of,F_cut_of,b_cut_of⟩:=q37.get ["ways","stay"] X G fun _ _ _ _ _ _=>us2 fun _ _=>rfl;obtain⟨_,m_paper_of,F_paper_of,b_paper_of⟩:=q38.get ["ways","stay"] X G fun _ _ _ _ _ _=>us2 fun _ _=>rfl;obtain⟨_,m_best,F_best,b_best⟩:=q39.get ["books","stay"] X G fun _ _ _ _ _ _=>us2 fun _ _=>rfl;obtain⟨_,m__law_tape,F__law_tape,b__law_tape⟩:=q40.get ["_law_script"] X G fun _ _ _ _ _ _=>us1 fun _=>rfl;obtain⟨_,m__law_draw,F__law_draw,b__law_draw⟩:=q41.get ["_law_tape_here","_law_many"] X G fun _ _ _ _ _ _=>us2 fun _ _=>rfl;obtain⟨_,m__law_coins,F__law_coins,b__law_coins⟩:=q42.get ["_law_tape_here"] X G fun _ _ _ _ _ _=>us1 fun _=>rfl;obtain⟨_,m__law_worth,F__law_worth,b__law_worth⟩:=q43.get ["_law_tape_here","_law_word"] X G fun _ _ _ _ _ _=>us2 fun _ _=>rfl;obtain⟨_,m__law_price_rules,F__law_price_rules,b__law_price_rules⟩:=q44.get ["_law_tape_here","_law_base","_law_days"] X G fun _ _ _ _ _ _=>us3 fun _ _ _=>rfl;obtain⟨_,m__law_other_rules,F__law_other_rules,b__law_other_rules⟩:=q45.get ["_law_tape_here","_law_base","_law_days"] X G fun _ _ _ _ _ _=>us3 fun _ _ _=>rfl;obtain⟨_,m__law_rules,F__law_rules,b__law_rules⟩:=q46.get ["_law_tape_here","_law_base","_law_days"] X G fun _ _ _ _ _ _=>us3 fun _ _ _=>rfl;obtain⟨_,m__law_stay,F__law_stay,b__law_stay⟩:=q47.get ["_law_tape_here","_law_base","_law_days"] X G fun _ _ _ _ _ _=>us3 fun _ _ _=>rfl;obtain⟨_,m__law_books,F__law_books,b__law_books⟩:=q48.get ["_law_tape_here","_law_base","_law_days"] X G fun _ _ _ _ _ _=>us3 fun _ _ _=>rfl;obtain⟨_,m__law_to_go,F__law_to_go,b__law_to_go⟩:=q49.get ["_law_books_here","_law_stay_here"] X G fun _ _ _ _ _ _=>us2 fun _ _=>rfl;obtain⟨_,m__law_paper,F__law_paper,b__law_paper⟩:=q50.get ["_law_found","_law_stay_here"] X G fun _ _ _ _ _ _=>us2 fun _ _=>rfl;obtain⟨_,m__law_cut,F__law_cut,b__law_cut⟩:=q51.get ["_law_found","_law_stay_here"] X G fun _ _ _ _ _ _=>us2 fun _ _=>rfl;have F_law:=kO (st:=sZ) l52 c52 k52;have b_law:=F_law.binds (ps:=["_law_script"]) fun _ _ _ _ _ _=>us1 fun _=>rfl;obtain⟨_,F_init,b_init⟩:=q_init.get ["self","first","last","worth"] fun _ _ _ _ _ _=>us4 fun _ _ _ _=>rfl;obtain⟨_,F_tells,b_tells⟩:=q_tells.get ["self","day"] fun _ _ _ _ _ _=>us2 fun _ _=>rfl;obtain⟨_,F_wPrice,b_wPrice⟩:=q_wPrice.get ["self"] fun _ _ _ _ _ _=>us1 fun _=>rfl;obtain⟨_,F_wCome,b_wCome⟩:=q_wCome.get ["self"] fun _ _ _ _ _ _=>us1 fun _=>rfl;obtain⟨_,F_wGo,b_wGo⟩:=q_wGo.get ["self"] fun _ _ _ _ _ _=>us1 fun _=>rfl;obtain⟨_,F_wLeast,b_wLeast⟩:=q_wLeast.get ["self"] fun _ _ _ _ _ _=>us1 fun _=>rfl;obtain⟨_,F_wMost,b_wMost⟩:=q_wMost.get ["self"] fun _ _ _ _ _ _=>us1 fun _=>rfl;obtain⟨_,F_wDeal,b_wDeal⟩:=q_wDeal.get ["self"] fun _ _ _ _ _ _=>us1 fun _=>rfl;obtain⟨_,F_wFee,b_wFee⟩:=q_wFee.get ["self"] fun _ _ _ _ _ _=>us1 fun _=>rfl;obtain⟨_,F_btells,b_btells⟩:=q_btells.get ["self","word","day"] fun _ _ _ _ _ _=>us3 fun _ _ _=>rfl;have TD:lG mg f1 f2 f3 f4 f5:=⟨nb.isinstance,nb.int,nb.bool,nb.tuple,nb.len,⟨tk1,z26 X G gi1⟩,⟨tk2,z26 X G gi2⟩,m_is_whole,m_is_whole_within,m_is_pair,m_is_day,m_is_pair_of_days⟩;have TR:jE mg f1 f2 f3 f4 f5 f6 f7 f8 f9 f10 f11 ⟨CPrice,CCome,CGo,CLeast,CMost,CDeal,CFee⟩:=⟨TD,⟨tk3,z26 X G gi3⟩,m_is_stretch,m_is_coins,m_is_deal,m_is_worth,m_is_rule,m_made,z26 X G aCPrice,z26 X G aCCome,z26 X G aCGo,z26 X G aCLeast,z26 X G aCMost,z26 X G aCDeal,z26 X G aCFee⟩;have TT:zB9 mg:=⟨nb.abs,nb.list,nb.len⟩;have A7:aC K ⟨CPrice,CCome,CGo,CLeast,CMost,CDeal,CFee⟩ g_init g_told g_tells g_wPrice g_wCome g_wGo g_wLeast g_wMost g_wDeal g_wFee:=⟨RPrice,RCome,RGo,RLeast,RMost,RDeal,RFee⟩;refine⟨PySem.W.fnOf "law" "law" (zV sZ) (zA sZ) (zb sZ) .none kV52 dc52 pm52 an52 cd52 ct52,fun s v=>.of_eq rfl,fun base KX _ hbi=>?_⟩;have G_in:=br (P:=l.prog) (w:=w) (base:=base) F_is_whole_within TD F_is_whole b_is_whole;have G_pair:=zr2 (P:=l.prog) (w:=w) (base:=base) F_is_pair TD;have G_day:=zF1 F_is_day TD G_in F_is_whole_within.kp b_is_whole_within;have G_days:=zo4 F_is_pair_of_days TD G_pair F_is_pair.kp b_is_pair G_day F_is_day.kp b_is_day;have G_stretch:=jT F_is_stretch TD G_days F_is_pair_of_days.kp b_is_pair_of_days;have G_coins:=zm9 F_is_coins TR G_in F_is_whole_within.kp b_is_whole_within;have G_deal:=eL F_is_deal TR G_in F_is_whole_within.kp b_is_whole_within G_pair F_is_pair.kp b_is_pair;have G_worth:=zk3 F_is_worth TR G_in F_is_whole_within.kp b_is_whole_within G_coins F_is_coins.kp b_is_coins G_deal F_is_deal.kp b_is_deal;have G_rule:=ba F_is_rule TR G_stretch F_is_stretch.kp b_is_stretch G_worth F_is_worth.kp b_is_worth;have G_made:=zr1 (P:=l.prog) (w:=w) (base:=base) F_made TR A7 F_init b_init;have G_ruleOf:=du F_rule_of TR G_rule F_is_rule.kp b_is_rule G_made F_made.kp b_made;have CRO:Cal l.prog w K mg base "rule_of" 7 (qB ⟨CPrice,CCome,CGo,CLeast,CMost,CDeal,CFee⟩):=ir m_rule_of F_rule_of.kp b_rule_of G_ruleOf;have CKe:Cal l.prog w K mg base "kept_rules" 8 (ji ⟨CPrice,CCome,CGo,CLeast,CMost,CDeal,CFee⟩):=zj7 F_kept_rules m_kept_rules b_kept_rules nb ⟨tk4,z26 X G gi4⟩ CRO;have cB:Cls K CB:=⟨pgB,hdB,poB,saB⟩;have GBI:=za0 (zu4 (st:=xR) l_binit c_binit k_binit) cB noB CKe;have m_Book:mg "Book"=some (.ref CB):=z26 X G aCB;have MkB:Mk K CB g_binit:=⟨mkB,fi_binit,is_binit,kcB⟩;have CBk:zg8 l.prog w K mg base "Book" 9 [] (nr CB ⟨CPrice,CCome,CGo,CLeast,CMost,CDeal,CFee⟩):=⟨CB,g_binit,_,_,_,m_Book,MkB,dH lT,.nil,GBI⟩;have CBk0:zg8 l.prog w K mg base "Book" 9 [.non] (nr CB ⟨CPrice,CCome,CGo,CLeast,CMost,CDeal,CFee⟩):=⟨CB,g_binit,_,_,_,m_Book,MkB,cU lT,.cons rfl .nil,GBI⟩;have DU:gY K w dU tbU:=⟨_,nU,lU,.cons ⟨hh1,⟨_,rfl⟩,rfl⟩ (.cons ⟨hh2,⟨_,rfl⟩,rfl⟩ (.cons ⟨hh3,⟨_,rfl⟩,rfl⟩ (.cons ⟨hh4,⟨_,rfl⟩,⟨_,rfl⟩⟩ (.cons ⟨hh5,⟨_,rfl⟩,⟨_,rfl⟩⟩ (.cons ⟨hh6,⟨_,rfl⟩,rfl⟩ (.cons ⟨hh7,⟨_,rfl⟩,⟨_,rfl⟩⟩ (.nil))))))),by decide +kernel⟩;have CU:Cal l.prog w K mg base "usual" 1 nu:=dR F_usual m_usual b_usual (z26 X G aU) DU;have OW:∀u∈words,sX l.prog w K mg base ((⟨CPrice,CCome,CGo,CLeast,CMost,CDeal,CFee⟩:Cs).of u) "word" 1 (jm ((⟨CPrice,CCome,CGo,CLeast,CMost,CDeal,CFee⟩:Cs).of u) u):=zJ9 (by rw[tM];exact xB RPrice b_wPrice (dO F_wPrice)) (by rw[rA];exact xB RCome b_wCome (zb3 F_wCome)) (by rw[gq];exact xB RGo b_wGo (zG8 F_wGo)) (by rw[tE];exact xB RLeast b_wLeast (eR F_wLeast)) (by rw[rp];exact xB RMost b_wMost (bZ F_wMost)) (by rw[rC];exact xB RDeal b_wDeal (zb1 F_wDeal)) (by rw[mv];exact xB RFee b_wFee (zx3 F_wFee));have ORT:∀u∈words,sX l.prog w K mg base ((⟨CPrice,CCome,CGo,CLeast,CMost,CDeal,CFee⟩:Cs).of u) "tells" 1 (qf ((⟨CPrice,CCome,CGo,CLeast,CMost,CDeal,CFee⟩:Cs).of u)):=zJ9 (by rw[tM];exact yS RPrice b_tells (wc F_tells RPrice)) (by rw[rA];exact yS RCome b_tells (wc F_tells RCome)) (by rw[gq];exact yS RGo b_tells (wc F_tells RGo)) (by rw[tE];exact yS RLeast b_tells (wc F_tells RLeast)) (by rw[rp];exact yS RMost b_tells (wc F_tells RMost)) (by rw[rC];exact yS RDeal b_tells (wc F_tells RDeal)) (by rw[mv];exact yS RFee b_tells (wc F_tells RFee));have OC:∀u∈words,Cls K ((⟨CPrice,CCome,CGo,CLeast,CMost,CDeal,CFee⟩:Cs).of u)/\xj K ((⟨CPrice,CCome,CGo,CLeast,CMost,CDeal,CFee⟩:Cs).of u) "worth":=zJ9 (by rw[tM];exact⟨RPrice.cl,RPrice.nw⟩) (by rw[rA];exact⟨RCome.cl,RCome.nw⟩) (by rw[gq];exact⟨RGo.cl,RGo.nw⟩) (by rw[tE];exact⟨RLeast.cl,RLeast.nw⟩) (by rw[rp];exact⟨RMost.cl,RMost.nw⟩) (by rw[rC];exact⟨RDeal.cl,RDeal.nw⟩) (by rw[mv];exact⟨RFee.cl,RFee.nw⟩);have MTe:sX l.prog w K mg base CB "tells_of" 2 (tO CB ⟨CPrice,CCome,CGo,CLeast,CMost,CDeal,CFee⟩):=⟨g_btells,_,_,cB,⟨fi_btells,is_btells,F_btells.kp⟩,b_btells,eG F_btells cB noB nb CU OW ORT OC⟩;have CD:Cal l.prog w K mg base "_law_draw" 1 xI:=aP m__law_draw F__law_draw.kp b__law_draw (zs2 F__law_draw TT);have CCo:=dn F__law_coins m__law_coins b__law_coins CD;have CW:=dM F__law_worth m__law_worth b__law_worth CD CCo;have CPR:=iH F__law_price_rules m__law_price_rules b__law_price_rules nb CD CCo;have CO:=iq F__law_other_rules m__law_other_rules b__law_other_rules nb CD CW;have CRW:=iF F__law_rules m__law_rules b__law_rules CD CPR CO;have CRF:=cF CRW;have CSt:=aj F__law_stay m__law_stay b__law_stay CD;have CN:=jz (P:=l.prog) (w:=w) (base:=base) F_nights_of m_nights_of b_nights_of nb;have CC:Cal l.prog w K mg base "cheapest_first" 3 oJ:=cS l14 c14 k14 m_cheapest_first b_cheapest_first nb hhd KX hbi;have CMa:Cal l.prog w K mg base "marked" 4 qX:=jD F_marked m_marked b_marked nb CC;have CNP:=zH5 F_night_prices m_night_prices b_night_prices MTe;have CBi:=eO (zl0 F_bill m_bill b_bill nb MTe CN CNP CMa);have CBa:=zf1 F_bars m_bars b_bars CN MTe;have CHa:=zw9 F_can_be_had m_can_be_had b_can_be_had CBa;have CCs:=aw F_cost m_cost b_cost CBa CBi;have CCN:=zp8 F_cost_or_none m_cost_or_none b_cost_or_none CHa CBi;have CAr:=zs7 F_arrivals m_arrivals b_arrivals nb CCN;have CLW:=zF3 F_least_ways m_least_ways b_least_ways nb CAr;have CCu:=zn4 (P:=l.prog) (w:=w) (base:=base) F_cut_of m_cut_of b_cut_of nb;have CPa:=dJ (P:=l.prog) (w:=w) (base:=base) F_paper_of m_paper_of b_paper_of nb;have CBe:=zg4 F_best m_best b_best nb CLW CCu CPa;have CWI:=zq1 (P:=l.prog) (w:=w) (base:=base) F_is_whole m_is_whole b_is_whole nb;have CIP:=bK F_is_part m_is_part b_is_part nb CWI CHa;have CIC:=eE F_is_cut m_is_cut b_is_cut nb CIP;have CCC:=zJ5 F_cut_coins m_cut_coins b_cut_coins nb CCs;have CLW1:=zs4 F_is_list_of_wholes m_is_list_of_wholes b_is_list_of_wholes nb CWI;have CNL:=zp9 F_costs_no_less m_costs_no_less b_costs_no_less nb CCN;have CNP1:=zt8 F_no_part_costs_less m_no_part_costs_less b_no_part_costs_less nb CNL;have CIH:=eB F_is_had m_is_had b_is_had nb CWI CIC CCC CLW1 CNP1;have CLO:=dY F_leads_out m_leads_out b_leads_out nb CHa;have CIR:=jo (P:=l.prog) (w:=w) (base:=base) F_is_rising_from m_is_rising_from b_is_rising_from nb;have CIO:=cE F_is_off m_is_off b_is_off nb CLW1 CIR CLO;have CLB:=zj6 F_lets_by m_lets_by b_lets_by nb CIH CIO;have CBW:=iT F__law_books m__law_books b__law_books nb CD CRW CBk;have CBs:=ze6 CBW;have CGo:=zB6 F__law_to_go m__law_to_go b__law_to_go nb CHa CCs;have CPp:=zo6 (P:=l.prog) (w:=w) (base:=base) F__law_paper m__law_paper b__law_paper nb;have CCt:=fun Bs=>zh0 (P:=l.prog) (w:=w) (base:=base) Bs F__law_cut m__law_cut b__law_cut nb;exact zH8 F_law nb (zv1 F__law_tape TT) m__law_tape F__law_tape.kp b__law_tape CD CBs CBe CSt CGo CPp CCt CLB
theorem walk {l:PySem.W.OpenLaw}{q:Program}{loose:List Str}{XP:(Str->Option Value)->Heap->Prop}{YP:World->Heap->Prop}{d:DefRec}{K:Params->PySem.W.Frag}{c:Addr}(hn:l.most=some 63)(hdf:d.params.defaults=[])
  (hY:∀(w:World) (h:Heap),YP w h->(K w.params).In h) (hYT:∀(w:World) (h:Heap),YP w h->h.get? yL=some (PySem.W.tabObj #[]))
  (hNo:∀w:World,(K w.params).lookup yL=none) (hTab:∀w:World,∃o vs,(K w.params).lookup c=some o/\o.cls=.type "code"/\o.data=.fields vs/\vs[11]?=some (.ref yL))
  (F:∀(w:World) (mg:Str->Option Value) (fa:Addr) (h:Heap),(K w.params).In h->h.Ns mainGlobals mg->mg d.name=some (.ref fa)->
   ∃fd:FuncData,(∀(s:Shared) (u:Value),BindsTo s fd ⟨[u],[]⟩ [("_law_script",u)])/\∀base:Heap,(K w.params).In base->base.Ns mainGlobals mg->base.BuiltinsAt mg yL->zE l.prog w (K w.params) mg base CX0 13 fa fd ["_law_script"] (mQ (K w.params))):
  PySem.W.WalkO q loose XP YP l.row.toRowW d [] (fun f vs=>PySem.call f vs):=
 L2.ze2 (n:=63) (k:=13) (x:="_law_script") (CX:=fun _=>CX0) (sp:=fun w=>mQ (K w.params)) hn (by decide) hdf ⟨rfl,by decide,by decide,rfl⟩ hY hYT hNo hTab F (fun _ H a ns hl _ hT hS=>⟨a,ns,rfl,hS,hl,⟨#[],hT,trivial,fun pos cv hc=>by cases hc⟩,fun _=>rfl⟩) fun _ _ _ _ _ z=>z
end K55
namespace PySem.W.Fast
def tw263362338358031456:=Nat
def tw395941957786721688:=Nat
def tw13896440142597353636:=Nat
def tw17221685203702191692:=Nat
def tw15317945154872429808:=Nat
def tw8882082818217837512:=Nat
def tw14239861596423478941:=Nat
def tw12852519222164931740:=Nat
def tw4848337455177701105:=Nat
def tw3456362055524476349:=Nat
def tw12960213501463211660:=Nat
def tw12005444147104127022:=Nat
def tw9117159783533488383:=Nat
def tw4884779802947789567:=Nat
def tw17252266188797476567:=Nat
def tw9208582031281068946:=Nat
def tw1002749564151724238:=Nat
def tw9558966839743512358:=Nat
def tw11276493061834130525:=Nat
def tw1408080296763838425:=Nat
def tw13184297667227169812:=Nat
def tw12683221814270266775:=Nat
def tw4872907089330173101:=Nat
def tw15204443324000024832:=Nat
def tw18138511767447054534:=Nat
def tw16578755915127424001:=Nat
def tw17690614271203764895:=Nat
def tw17806314218944452494:=Nat
def tw10535346992063634891:=Nat
def tw8813725815112508320:=Nat
def tw9949022193019449068:=Nat
def tw16762786289117346017:=Nat
def tw11465140983368998644:=Nat
def tw15106616831940761844:=Nat
def tw4045679247104677001:=Nat
def tw17432303759230409240:=Nat
def tw12434360863325257459:=Nat
def tw17580163305172293615:=Nat
def tw7054143273318550596:=Nat
def tw9656533748094017416:=Nat
def tw18372924698089336120:=Nat
def tw6166578568435035732:=Nat
def tw2072959355830047034:=Nat
def tw16285781370724429378:=Nat
def tw14591505477426637408:=Nat
def tw12749372480153191071:=Nat
def tw969405916472303103:=Nat
def tw14992540843832825948:=Nat
def tw18062884061189343759:=Nat
def tw8867882940716221705:=Nat
def tw4890420595917226476:=Nat
def tw8403119205235404412:=Nat
def tw2241957185477369053:=Nat
def tw1455028581036148850:=Nat
def tw9389426202513714067:=Nat
def tw13509106278672390199:=Nat
def tw12207218453071768571:=Nat
def tw13027932398636229723:=Nat
def tw14489612926791549367:=Nat
def tw5443728958375860050:=Nat
def tw16365582428143248791:=Nat
def tw6547201283326805408:=Nat
def tw360954238917367074:=Nat
def tw15158121329091759247:=Nat
def tw11861796547566644601:=Nat
def tw10320861231545029239:=Nat
def tw249888109157936736:=Nat
def tw8252600922422899492:=Nat
def tw4187052902259798087:=Nat
def tw16169959247489597376:=Nat
def tw11961174874501754982:=Nat
def tw8033238939811361255:=Nat
def tw17772360967463854012:=Nat
def tw14612441826352449287:=Nat
def tw10898409862474957938:=Nat
def tw7510832248321228525:=Nat
def tw4005429603881117158:=Nat
def tw11481111871639484793:=Nat
def tw4462744337228563514:=Nat
def tw16309248121779221991:=Nat
def tw14821470571623237494:=Nat
def tw14645224530783348379:=Nat
def tw16307217127354055861:=Nat
def tw1109867267506903030:=Nat
def tw8139163116510964854:=Nat
def tw11894419613574758156:=Nat
def tw15246285796226210226:=Nat
def tw12717157693167860567:=Nat
def tw18066346756225924038:=Nat
def tw187860442345327205:=Nat
def tw6533318838562239208:=Nat
def tw17101187731498276226:=Nat
def tw10964322343594029675:=Nat
def tw13522243955829298281:=Nat
def tw12178608561927110232:=Nat
def tw8026833812876081058:=Nat
def tw965506251471835328:=Nat
def tw8025459094768949061:=Nat
def tw17646969991717159527:=Nat
def tw6465417381184880892:=Nat
def tw3918903219808400308:=Nat
def tw8347950722930708200:=Nat
def tw879639063358622397:=Nat
def tw8500334552286096445:=Nat
def tw16831211958045241175:=Nat
def tw16998415476399750668:=Nat
def tw1886235075359756125:=Nat
def tw5255515400819010724:=Nat
def tw2857910763435432896:=Nat
def tw15318493108238233463:=Nat
def tw11415729983006555713:=Nat
def tw17856275409609199988:=Nat
def tw12188301859163383787:=Nat
def tw7928470740147261020:=Nat
def tw11755400227378838202:=Nat
def tw13712587770969749396:=Nat
def tw253661754910280174:=Nat
def tw9898422196018841264:=Nat
def tw11702321597686675126:=Nat
def tw6474757237900465678:=Nat
def tw12474532064855881433:=Nat
def tw12716839870185961531:=Nat
def tw3240920326101367852:=Nat
def tw15793645654312256239:=Nat
def tw13403635455121737859:=Nat
def tw9568666206445321669:=Nat
def tw17171715124142056741:=Nat
def tw910895418072258181:=Nat
def tw2328621187777219100:=Nat
def tw1568425476795683381:=Nat
def tw5979447024888898976:=Nat
def tw657044953528264476:=Nat
def tw17180666866762357259:=Nat
def tw17491013578364563523:=Nat
def tw295643417674310933:=Nat
def tw3581333100376781649:=Nat
def tw18276700342140575468:=Nat
def tw15268507914533910087:=Nat
def tw12217612537933029656:=Nat
def tw18075965021015848199:=Nat
def tw15665456119316764813:=Nat
def tw17744750949354659585:=Nat
def tw7937381402228028345:=Nat
def tw1800227843416984458:=Nat
def tw12342788991223445522:=Nat
def tw11252056840515153419:=Nat
def tw11420042687269161554:=Nat
def tw7692906346567000951:=Nat
def tw12488953797719568132:=Nat
def tw7399098399206441509:=Nat
def tw12881269094283804919:=Nat
def tw16517936525538462176:=Nat
def tw9011385135516281945:=Nat
def tw14475631291864577917:=Nat
def tw8912146479481836239:=Nat
def tw7180950757296744620:=Nat
def tw13752616812715036149:=Nat
def tw6309503306329563912:=Nat
def tw1886845709845773482:=Nat
def tw12754104023988833389:=Nat
def tw9453859302547809995:=Nat
def tw9200114970322863081:=Nat
def tw12892519555272429768:=Nat
def tw4432126894859921517:=Nat
def tw6044708166447136834:=Nat
def tw15886426155116473824:=Nat
def tw207901194795940281:=Nat
def tw9042035861682505034:=Nat
def tw11199459899639598751:=Nat
def tw10587400265737923563:=Nat
def tw15602671110847698498:=Nat
def tw398316768601065730:=Nat
def tw4351509031007796646:=Nat
def tw12306046897125457520:=Nat
def tw9932654670202819572:=Nat
def tw12310215874487483593:=Nat
def tw16994488623473586891:=Nat
def tw5303903156399868077:=Nat
def tw2055320573944859259:=Nat
def tw3436688673480764469:=Nat
def tw299716713697395314:=Nat
def tw6030825495285772299:=Nat
def tw1587977240787591152:=Nat
def tw11361821699145089148:=Nat
def tw826472445531376492:=Nat
def tw9712014382531598051:=Nat
def tw11334101781083283136:=Nat
def tw12438784498735814444:=Nat
def tw3786703272563797822:=Nat
def tw5702195455489286089:=Nat
def tw4985126254820245002:=Nat
def tw4423348943804545063:=Nat
def tw12994430468654253662:=Nat
def tw12795983079124111998:=Nat
def tw1128531495634856902:=Nat
def tw1747233302061799935:=Nat
def tw15764614854459859393:=Nat
def tw16088968566199299311:=Nat
def tw4914202414883199941:=Nat
def tw8831008860178452918:=Nat
def tw12373583889989315059:=Nat
def tw940027879978207203:=Nat
def tw12942919772572633721:=Nat
def tw15850030007496305386:=Nat
def tw16409226344642034896:=Nat
def tw1610107308053704255:=Nat
def tw9923623922879488762:=Nat
def tw15776538936827185826:=Nat
def tw8934350435447845033:=Nat
def tw13245039664238972148:=Nat
def tw12563422872547722346:=Nat
def tw8932422330256824557:=Nat
def tw12123939792536163185:=Nat
def tw9395595141050305437:=Nat
def tw3044604555522688675:=Nat
def tw18184034203896979241:=Nat
def tw1946748317036967743:=Nat
def tw4283719711648952535:=Nat
def tw8837643331273057731:=Nat
def tw6588811276255553986:=Nat
def tw12470554476758770383:=Nat
def tw8056529148081079071:=Nat
def tw10034533133077941834:=Nat
def tw2048809529492074366:=Nat
def tw13833094071358778373:=Nat
def tw17525697822725987030:=Nat
def tw12407706545621421105:=Nat
def tw5101602266799757046:=Nat
def tw3596280522760539472:=Nat
def tw872496448221077063:=Nat
def tw37437795293499094:=Nat
def tw6063254295857501996:=Nat
def tw1797152900967575862:=Nat
def tw6194704003466894810:=Nat
def tw4622854051594685605:=Nat
def tw14725042668758456607:=Nat
def tw6846485020869551867:=Nat
def tw18232599483208181081:=Nat
def tw9560869599645480508:=Nat
def tw4777338050507295493:=Nat
def tw15074094328988104220:=Nat
def tw12520866921068472636:=Nat
def tw2265286658291197073:=Nat
def tw15808693780622244064:=Nat
def tw7954490785251134079:=Nat
def tw13071062550354767053:=Nat
def tw460469404403604931:=Nat
def tw15190009123880981426:=Nat
def tw11029097319822165469:=Nat
def tw14119328877978618095:=Nat
def tw11192625108576009178:=Nat
def tw964012310507719039:=Nat
def tw7477802296924318037:=Nat
def tw7911252929283197416:=Nat
def tw13314077229853517853:=Nat
def tw12886735407937200777:=Nat
def tw8299653913086191839:=Nat
def tw8679220654047800813:=Nat
def tw1418095159273864020:=Nat
def tw15394264648080218123:=Nat
def tw8576154418385725179:=Nat
def tw6096592981291015727:=Nat
def tw8972307172877259567:=Nat
def tw12223501807494094200:=Nat
def tw5671697514823765107:=Nat
def tw4515887103081662193:=Nat
def tw14432846009221710920:=Nat
def tw14206981365916620807:=Nat
def tw1390049505708519227:=Nat
def tw3553180891340090624:=Nat
def tw7793292829963056898:=Nat
def tw17904876378436074897:=Nat
end PySem.W.Fast
open PySem PySem.W PyProof.Rows
set_option maxRecDepth 100000 in
theorem PySem.Challenge.cw_stayprice_k55_looker_at_other_papers_holds : PySem.Challenge.rw_stayprice_k55_looker_at_other_papers.Holds := by
 w_on;o_law;k_head;(case hw=>w_witness2)
 k_fill
 refine K55.walk (l:=PySem.Challenge.rw_stayprice_k55_looker_at_other_papers) (c:=(151:Nat)) rfl rfl (fun w h Y=>PySem.W.km_in_of Y) (fun w h Y=>PySem.W.km_tabs_of Y _ (zX5.mpr rfl)) ?hno ?htab ?hF
 case hno=>intro w;kernel_rfl
 case htab=>intro w;exact⟨_,_,by k_is,rfl,rfl,rfl⟩
 case hF=>
  intro w mg fa h KX G hmg
  refine' K55.all_mk KX G hmg (K55.mkG ?_ ?_ ?_ ?_) (K55.mkG ?_ ?_ ?_ ?_) (K55.mkG ?_ ?_ ?_ ?_) (K55.mkG ?_ ?_ ?_ ?_) (K55.mkG ?_ ?_ ?_ ?_) (K55.mkG ?_ ?_ ?_ ?_) (K55.mkG ?_ ?_ ?_ ?_) (K55.mkG ?_ ?_ ?_ ?_) (K55.mkG ?_ ?_ ?_ ?_) (K55.mkG ?_ ?_ ?_ ?_) (K55.mkG ?_ ?_ ?_ ?_) (K55.mkG ?_ ?_ ?_ ?_) (K55.mkG ?_ ?_ ?_ ?_) ?_ ?_ ?_ ?_ (K55.mkG ?_ ?_ ?_ ?_) (K55.mkG ?_ ?_ ?_ ?_) (K55.mkG ?_ ?_ ?_ ?_) (K55.mkG ?_ ?_ ?_ ?_) (K55.mkG ?_ ?_ ?_ ?_) (K55.mkG ?_ ?_ ?_ ?_) (K55.mkG ?_ ?_ ?_ ?_) (K55.mkG ?_ ?_ ?_ ?_) (K55.mkG ?_ ?_ ?_ ?_) (K55.mkG ?_ ?_ ?_ ?_) (K55.mkG ?_ ?_ ?_ ?_) (K55.mkG ?_ ?_ ?_ ?_) (K55.mkG ?_ ?_ ?_ ?_) (K55.mkG ?_ ?_ ?_ ?_) (K55.mkG ?_ ?_ ?_ ?_) (K55.mkG ?_ ?_ ?_ ?_) (K55.mkG ?_ ?_ ?_ ?_) (K55.mkG ?_ ?_ ?_ ?_) (K55.mkG ?_ ?_ ?_ ?_) (K55.mkG ?_ ?_ ?_ ?_) (K55.mkG ?_ ?_ ?_ ?_) (K55.mkG ?_ ?_ ?_ ?_) (K55.mkG ?_ ?_ ?_ ?_) (K55.mkG ?_ ?_ ?_ ?_) (K55.mkG ?_ ?_ ?_ ?_) (K55.mkG ?_ ?_ ?_ ?_) (K55.mkG ?_ ?_ ?_ ?_) (K55.mkG ?_ ?_ ?_ ?_) (K55.mkG ?_ ?_ ?_ ?_) (K55.mkG ?_ ?_ ?_ ?_) (K55.mkG ?_ ?_ ?_ ?_) (K55.mkG ?_ ?_ ?_ ?_) (K55.mkG ?_ ?_ ?_ ?_) (K55.mkG ?_ ?_ ?_ ?_) (K55.mkG ?_ ?_ ?_ ?_) (K55.mkG ?_ ?_ ?_ ?_) (K55.mkG ?_ ?_ ?_ ?_) ?_ ?_ ?_ ?_ ?_ ?_ ?_ ?_ ?_ ?_ ?_ (K55.mkR ?_ ?_ ?_ ?_ ?_ ?_ ?_ ?_ ?_ ?_ ?_ ?_ ?_ ?_ ?_ ?_ ?_ ?_ ?_ ?_) (K55.mkR ?_ ?_ ?_ ?_ ?_ ?_ ?_ ?_ ?_ ?_ ?_ ?_ ?_ ?_ ?_ ?_ ?_ ?_ ?_ ?_) (K55.mkR ?_ ?_ ?_ ?_ ?_ ?_ ?_ ?_ ?_ ?_ ?_ ?_ ?_ ?_ ?_ ?_ ?_ ?_ ?_ ?_) (K55.mkR ?_ ?_ ?_ ?_ ?_ ?_ ?_ ?_ ?_ ?_ ?_ ?_ ?_ ?_ ?_ ?_ ?_ ?_ ?_ ?_) (K55.mkR ?_ ?_ ?_ ?_ ?_ ?_ ?_ ?_ ?_ ?_ ?_ ?_ ?_ ?_ ?_ ?_ ?_ ?_ ?_ ?_) (K55.mkR ?_ ?_ ?_ ?_ ?_ ?_ ?_ ?_ ?_ ?_ ?_ ?_ ?_ ?_ ?_ ?_ ?_ ?_ ?_ ?_) (K55.mkR ?_ ?_ ?_ ?_ ?_ ?_ ?_ ?_ ?_ ?_ ?_ ?_ ?_ ?_ ?_ ?_ ?_ ?_ ?_ ?_) (K55.mkF ?_ ?_ ?_) (K55.mkF ?_ ?_ ?_) (K55.mkF ?_ ?_ ?_) (K55.mkF ?_ ?_ ?_) (K55.mkF ?_ ?_ ?_) (K55.mkF ?_ ?_ ?_) (K55.mkF ?_ ?_ ?_) (K55.mkF ?_ ?_ ?_) (K55.mkF ?_ ?_ ?_) ?_ ?_ ?_ ?_ ?_ ?_ ?_ ?_ ?_ (K55.mkF ?_ ?_ ?_) ?_ ?_ ?_ ?_ ?_ ?_ ?_ ?_ ?_ ?_ ?_ ?_ ?_ ?_ ?_ ?_ ?_ ?_ ?_ ?_ ?_ ?_ ?_ ?_ ?_ ?_ ?_ ?_ ?_ ?_ ?_ ?_ ?_ ?_ ?_ ?_ ?_ ?_ ?_ ?_
  all_goals try (show _=_;first|k_is|kernel_rfl)
