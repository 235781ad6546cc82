import PyProof.Rows.All
import Wide.All
import OpenK.AllK
import Wide.FinOn
import Lean
import PyProof.EqAt
import PyProof.EqKinds
import PyProof.TupleCall
import PyProof.AttrMissHeap
import PyProof.DictRoadsH
import KE.KDictOf
import PyProof.P3In
import PySem.Challenge.RW_stayprice_k72_books_unlike
set_option Elab.async false
set_option linter.all false
set_option maxRecDepth 100000
def zg0 := @_root_.PySem.wpAny_bind
def zg1 := @_root_.PyProof.Rows.wpS_bind
def zg2 := @_root_.PyProof.Rows.wpS_pure
def zg3 := @_root_.List.mem_cons
def zg4 := @_root_.PySem.wpAny_pure
def zg5 := @_root_.Nat.le_refl
def zg6 := @_root_.getElem?_pos
def zg7 := @_root_.List.mem_cons_of_mem
def zg8 := @_root_.PySem.Heap.get?_push_of_some
def zg9 := @_root_.List.not_mem_nil
def zh0 := @_root_.List.getElem?_eq_getElem
def zh1 := @_root_.List.getElem?_eq_some_iff
def zh2 := @_root_.List.mem_append_right
def zh3 := @_root_.List.mem_cons_self
def zh4 := @_root_.List.length_map
def zh5 := @_root_.Bool.false_ne_true
def zh6 := @_root_.List.size_toArray
def zh7 := @_root_.PySem.Heap.lt_size
def zh8 := @_root_.List.mem_append_left
def zh9 := @_root_.PySem.Heap.get?_push_size
def zi0 := @_root_.List.mem_append
def zi1 := @_root_.Nat.le_of_ble_eq_true
def zi2 := @_root_.List.append_assoc
def zi3 := @_root_.Nat.ne_of_lt
def zi4 := @_root_.List.take_append_drop
def zi5 := @_root_.Nat.zero_le
def zi6 := @_root_.List.getElem?_map
def zi7 := @_root_.decide_eq_false
def zi8 := @_root_.PySem.W.mg_none_of
def zi9 := @_root_.Bool.and_eq_true
def zj0 := @_root_.Option.map_eq_some_iff
def zj1 := @_root_.List.pairwise_append
def zj2 := @_root_.List.length_append
def zj3 := @_root_.Nat.lt_of_lt_of_le
def zj4 := @_root_.List.mem_singleton
def zj5 := @_root_.List.length_cons
def zj6 := @_root_.Array.toList_append
def zj7 := @_root_.List.mem_of_getElem?
def zj8 := @_root_.or_false
def zj9 := @_root_.List.drop_eq_getElem_cons
def zk0 := @_root_.Option.some.inj
def zk1 := @_root_.decide_eq_true
def zk2 := @_root_.PySem.wpAny_ite_split
def zk3 := @_root_.Bool.eq_false_iff
def zk4 := @_root_.decide_eq_true_eq
def zk5 := @_root_.List.Perm.append_left
def zk6 := @_root_.List.length_set
def zk7 := @_root_.Nat.le_trans
def zk8 := @_root_.PyProof.Rows.wpS_forRange
def zk9 := @_root_.PySem.W.mg_of
def zl0 := @_root_.Nat.lt_or_ge
def zl1 := @_root_.Int.le_trans
def zl2 := @_root_.List.find?_cons
def zl3 := @_root_.List.map_cons
def zl4 := @_root_.List.getElem?_append_left
def zl5 := @_root_.Array.length_toList
def zl6 := @_root_.PySem.wpAny_mono
def zl7 := @_root_.PySem.wpAny_truthy_bool
def zl8 := @_root_.Bool.false_and
def zl9 := @_root_.PySem.W.kia_one
def zm0 := @_root_.List.getElem?_set_ne
def zm1 := @_root_.List.lookup_cons
def zm2 := @_root_.List.getElem_mem
def zm3 := @_root_.Nat.le_of_lt
def zm4 := @_root_.PySem.mem_of_lookup
def zm5 := @_root_.Array.getElem?_eq_getElem
def zm6 := @_root_.PyProof.Rows.wpS_modify
def zm7 := @_root_.List.perm_append_comm
def zm8 := @_root_.List.length_take
def zm9 := @_root_.List.take_length
def zn0 := @_root_.Bool.true_and
def zn1 := @_root_.List.mem_of_mem_drop
def zn2 := @_root_.List.mem_of_mem_take
def zn3 := @_root_.List.getElem?_replicate
def zn4 := @_root_.Nat.lt_succ_of_lt
def zn5 := @_root_.PySem.wpAny_newObj_type
def zn6 := @_root_.PyProof.Rows.wpS_mono
def zn7 := @_root_.Bool.or_eq_true
def zn8 := @_root_.List.replicate_succ
def zn9 := @_root_.List.getElem?_set_self
def zo0 := @_root_.PySem.wpAny_holding
def zo1 := @_root_.List.getElem?_append_right
def zo2 := @_root_.PySem.wpAny_call_entry
def zo3 := @_root_.Array.getElem?_toList
def zo4 := @_root_.Int.le_refl
def zo5 := @_root_.Nat.le_of_eq
def zo6 := @_root_.List.append_nil
def zo7 := @_root_.PySem.wpAny_rule
def zo8 := @_root_.List.take_sublist
def zo9 := @_root_.List.drop_sublist
def zp0 := @_root_.PySem.wpAny_setState_of
def zp1 := @_root_.Array.toList_push
def zp2 := @_root_.List.take_add_one
def zp3 := @_root_.beq_eq_false_iff_ne
def zp4 := @_root_.Nat.lt_succ_self
def zp5 := @_root_.List.drop_length
def zp6 := @_root_.PySem.wpAny_askSetting
def zp7 := @_root_.Nat.le_succ
def zp8 := @_root_.List.Perm.append_right
def zp9 := @_root_.PyProof.Rows.callWith_type1
def zq0 := @_root_.Int.le_of_lt
def zq1 := @_root_.PySem.wpAny_setField_rec
def zq2 := @_root_.List.flatten_cons
def zq3 := @_root_.of_decide_eq_true
def zq4 := @_root_.List.pairwise_iff_getElem
def zq5 := @_root_.PySem.Around.under_plainId
def zq6 := @_root_.List.extract_eq_take_drop
def zq7 := @_root_.Array.toList_reverse
def zq8 := @_root_.PyProof.Rows.wpS_reverse
def zq9 := @_root_.PySem.F.called_set
def zr0 := @_root_.PySem.wpAny_setEntries_of
def zr1 := @_root_.List.reverse_append
def zr2 := @_root_.PySem.F.plainAttrs_list
def zr3 := @_root_.List.length_eq_zero_iff
def zr4 := @_root_.PySem.wpAny_callSpecial?_slot
def zr5 := @_root_.Nat.lt_irrefl
def zr6 := @_root_.PyProof.Rows.boot_isinstance
def zr7 := @_root_.PySem.codeAny_builtin
def zr8 := @_root_.PySem.sizeLine_eq
def zr9 := @_root_.PySem.Heap.get?_update_other
def zs0 := @_root_.PySem.wpAny_of_eq
def zs1 := @_root_.PySem.Heap.size_push
def zs2 := @_root_.PySem.Heap.get?_update_self
def zs3 := @_root_.List.getElem?_eq_none
def zs4 := @_root_.PyProof.Rows.wpS_get
def zs5 := @_root_.beq_iff_eq
def zs6 := @_root_.Array.toList_extract
def zs7 := @_root_.List.mem_iff_getElem
def zs8 := @_root_.List.mem_reverse
def zs9 := @_root_.Ne.symm
def zt0 := @_root_.List.filterMap_cons
def zt1 := @_root_.List.length_reverse
def zt2 := @_root_.List.getElem_of_mem
def zt3 := @_root_.PySem.wpAny_passesOwn
def zt4 := @_root_.List.nodup_cons
def zt5 := @_root_.PySem.PassesOwn.never
def zt6 := @_root_.PySem.codeAny_mono
def zt7 := @_root_.PySem.wpAny_Call_Name_kw
def zt8 := @_root_.List.getElem?_take_of_lt
def zt9 := @_root_.Int.emod_lt_of_pos
def zu0 := @_root_.if_true
def zu1 := @_root_.PyProof.Rows.K_mirror_equal
def zu2 := @_root_.List.getElem?_cons_succ
def zu3 := @_root_.List.pairwise_singleton
def zu4 := @_root_.decide_eq_false_iff_not
def zu5 := @_root_.PySem.fits_of_scanBound
def zu6 := @_root_.Int.toNat_natCast
def zu7 := @_root_.PySem.strLen_append
def zu8 := @_root_.PySem.wpAny_attempt
def zu9 := @_root_.List.length_drop
def zv0 := @_root_.List.all_eq_true
def zv1 := @_root_.PySem.W.methodCall_KW
def zv2 := @_root_.Nat.ne_of_gt
def zv3 := @_root_.Bool.eq_iff_iff
def zv4 := @_root_.PySem.call_meets
def zv5 := @_root_.Bool.or_eq_false_iff
def zv6 := @_root_.Nat.lt_trans
def zv7 := @_root_.Nat.not_lt_zero
def zv8 := @_root_.Nat.min_eq_left
def zv9 := @_root_.Array.Perm.refl
def zw0 := @_root_.Int.emod_nonneg
def zw1 := @_root_.List.getElem?_of_mem
def zw2 := @_root_.PySem.W.plainGet_of
def zw3 := @_root_.List.take_take
def zw4 := @_root_.PySem.W.callWith_K
def zw5 := @_root_.Bool.false_eq_true
def zw6 := @_root_.List.all_cons
def zw7 := @_root_.List.any_cons
def zw8 := @_root_.Bool.false_or
namespace L2
open PySem PySem.Spec PyProof.Rows
abbrev Key :=Sum Int Str
def rK :Key→Value→Bool
 |.inl k,v=>Value.isInt k v
 |.inr x,v=>Value.isStrOf x v
def ze5 (w:World):Key→Int
 |.inl k=>hashInt k
 |.inr x=>hashStr w x
theorem zZ :∀{k:Key} {v:Value},rK k v=true→(∃i t,k=Sum.inl i∧v=Value.int i t)∨(∃x t,k=Sum.inr x∧v=Value.str x t)
 |.inl i,v,h=>by
  obtain⟨t,e⟩:=Value.isInt_shape (k:=i) (v:=v) h
  exact .inl ⟨i,t,rfl,e⟩
 |.inr x,v,h=>by
  obtain⟨t,e⟩:=Value.isStrOf_shape (x:=x) (v:=v) h
  exact .inr ⟨x,t,rfl,e⟩
theorem kX (i:Int)(t:Tok):rK (.inl i) (.int i t)=true:=by simp[rK,Value.isInt]
theorem jd (x:Str)(t:Tok):rK (.inr x) (.str x t)=true:=by simp[rK,Value.isStrOf]
theorem bO (a b:Int):decide ((Sum.inl a:Key)=Sum.inl b)=(a == b):=by
 by_cases e:a=b
 ·subst e;simp
 ·have h:¬(Sum.inl a:Key)=Sum.inl b:=fun q=>e (Sum.inl.inj q)
  rw[zi7 h]
  exact (zp3.mpr e).symm
theorem bh (a b:Str):decide ((Sum.inr a:Key)=Sum.inr b)=decide (a=b):=by
 by_cases e:a=b
 ·subst e;simp
 ·have h:¬(Sum.inr a:Key)=Sum.inr b:=fun q=>e (Sum.inr.inj q)
  rw[zi7 h,zi7 e]
theorem bK (a:Int)(b:Str):decide ((Sum.inl a:Key)=Sum.inr b)=false:=zi7 (fun q=>nomatch q)
theorem bY (a:Str)(b:Int):decide ((Sum.inr a:Key)=Sum.inl b)=false:=zi7 (fun q=>nomatch q)
def yJ (prog:Program)(w:World):PySem.KeyKind prog w Key where
 is:=rK
 hash:=ze5 w
 inj:=fun v a b ha hb=>by
  rcases zZ ha with ⟨i,t,rfl,rfl⟩|⟨x,t,rfl,rfl⟩
  ·rcases zZ hb with ⟨j,u,rfl,e⟩|⟨y,u,rfl,e⟩
   ·injection e with e1 _;rw[e1]
   ·exact nomatch e
  ·rcases zZ hb with ⟨j,u,rfl,e⟩|⟨y,u,rfl,e⟩
   ·exact nomatch e
   ·injection e with e1 _;rw[e1]
 byValue:=fun k v h=>by
  rcases zZ h with ⟨i,t,rfl,rfl⟩|⟨x,t,rfl,rfl⟩<;>rfl
 pyHash:=fun hv h=>by
  rcases zZ hv with ⟨i,t,rfl,rfl⟩|⟨x,t,rfl,rfl⟩
  ·exact wpAny_pyHash_int h
  ·exact wpAny_pyHash_str h
 eqBool:=fun hu hv h=>by
  rcases zZ hu with ⟨i,t,rfl,rfl⟩|⟨x,t,rfl,rfl⟩
  ·rcases zZ hv with ⟨j,u,rfl,rfl⟩|⟨y,u,rfl,rfl⟩
   ·rw[bO] at h;exact wpAny_eqBool_int h
   ·rw[bK] at h;exact SeqAt.EqAt.int_str i t y u _ _ _ _ h
  ·rcases zZ hv with ⟨j,u,rfl,rfl⟩|⟨y,u,rfl,rfl⟩
   ·rw[bY] at h;exact SeqAt.EqAt.str_int x t j u _ _ _ _ h
   ·rw[bh] at h;exact wpAny_eqBool_str h
 «strs»:=fun k x t v h=>by
  rcases zZ h with ⟨i,u,rfl,e⟩|⟨y,u,rfl,e⟩
  ·exact nomatch e
  ·injection e with e1 _
   subst e1
   cases v<;>rfl
theorem pf (prog:Program)(w:World)(i:Int)(t:Tok):(yJ prog w).is (.inl i) (.int i t)=true:=kX i t
theorem pB (prog:Program)(w:World)(x:Str)(t:Tok):(yJ prog w).is (.inr x) (.str x t)=true:=jd x t
inductive V where
 |non|bl (b:Bool)|int (i:Int)|str (x:Str)|byt (b:Array UInt8)|flt (b:UInt64)|ref (a:Addr)|ty (n:String)
 deriving DecidableEq
def RelV :V→Value→Prop
 |.non,u=>u=Value.none
 |.bl b,u=>u=Value.bool b
 |.int i,u=>∃t,u=Value.int i t
 |.str x,u=>∃t,u=Value.str x t
 |.byt b,u=>∃t,u=Value.bytes b t
 |.flt b,u=>∃t,u=Value.float b t
 |.ref a,u=>u=Value.ref a
 |.ty n,u=>u=Value.type n
abbrev Vals :List V→List Value→Prop:=Paired RelV
theorem Vals.length {xs:List V}{us:List Value}(r:Vals xs us):xs.length=us.length:=Paired.length r
theorem Vals.get :∀{xs:List V} {us:List Value} {i:Nat} {x:V},Vals xs us→xs[i]?=some x→∃u,us[i]?=some u∧RelV x u
 |_,_,_,_,.nil,e=>by simp at e
 |_,_,0,_,.cons r _,e=>by simp at e;subst e;exact⟨_,rfl,r⟩
 |_,_,i+1,x,.cons _ t,e=>by
  obtain⟨u,h1,h2⟩:=Vals.get (i:=i) (x:=x) t (by simpa using e)
  exact⟨u,by simpa using h1,h2⟩
theorem Vals.set {x:V}{u:Value}(r:RelV x u):∀{xs:List V} {us:List Value} (i:Nat),Vals xs us→Vals (xs.set i x) (us.set i u)
 |_,_,_,.nil=>.nil
 |_,_,0,.cons _ t=>.cons r t
 |_,_,i+1,.cons q t=>.cons q (Vals.set r i t)
theorem Vals.append :∀{xs ys:List V} {us ws:List Value},Vals xs us→Vals ys ws→Vals (xs++ys) (us++ws)
 |_,_,_,_,.nil,s=>s
 |_,_,_,_,.cons r t,s=>.cons r (Vals.append t s)
theorem Vals.take :∀{xs:List V} {us:List Value} (n:Nat),Vals xs us→Vals (xs.take n) (us.take n)
 |_,_,0,_=>.nil
 |_,_,_+1,.nil=>.nil
 |_,_,n+1,.cons r t=>.cons r (Vals.take n t)
theorem Vals.drop :∀{xs:List V} {us:List Value} (n:Nat),Vals xs us→Vals (xs.drop n) (us.drop n)
 |_,_,0,r=>r
 |_,_,_+1,.nil=>.nil
 |_,_,n+1,.cons _ t=>Vals.drop n t
def vI :Option V→Option Value→Prop
 |some v,some u=>RelV v u
 |none,none=>True
 |_,_=>False
def KV {κ:Type}:List (κ×V)→List (κ×Value)→Prop:=Paired fun (p:κ×V) (q:κ×Value)=>p.1=q.1∧RelV p.2 q.2
def kV :Key→V
 |.inl i=>.int i
 |.inr x=>.str x
inductive HO where
  |lst (xs:List V)
  |tup (xs:List V)
  |dK (kvs:List (Key×V))|dT (kvs:List (List Key×V))
  |set (S:Int→Bool) (n:Nat)
  |ins (C dx:Addr) (fs:List (Str×V))
  |own (x:Addr)
  |xd (fs:List (Str×V))
  |met (f x:Addr)
  |rng (lo hi:Int)
  |frz (o:Obj) (u:HO)
  |tbl (ps:Array Value)
  |ext (φ:Heap→Prop)
abbrev Hp :=Addr→Option HO
def upd (H:Hp)(a:Addr)(o:HO):Hp:=fun b=>if b=a then some o else H b
theorem zj {H:Hp}{a:Addr}{o:HO}:upd H a o a=some o:=by unfold upd;rw[if_pos rfl]
theorem zk {H:Hp}{a b:Addr}{o:HO}(h:b≠a):upd H a o b=H b:=by unfold upd;rw[if_neg h]
theorem qM {H:Hp}{a:Addr}{o u:HO}:upd (upd H a o) a u=upd H a u:=by
 funext b;unfold upd;split<;>rfl
theorem zo {H:Hp}{a b:Addr}{o:HO}(h:H a=some o)(h':H b=none):a≠b:=by
 intro e;subst e;rw[h] at h';cases h'
section
variable (P:Program)(w:World)
def yq (H:Hp)(h:Heap)(a:Addr):HO→Prop
 |.lst xs=>xs.length≤sizeLine∧∃(its:List Value) (n:Nat),Vals xs its∧h.get? a=some {cls:=.type "list",data:=.seq its.toArray n}
 |.tup xs=>xs.length≤sizeLine∧∃its:List Value,Vals xs its∧IsTup h a its.toArray
 |.dK kvs=>kvs.length≤sizeLine∧(a == sysModules)=false∧∃vs,KV kvs vs∧h.DictOf (yJ P w) a vs
 |.dT kvs=>kvs.length≤sizeLine∧(a == sysModules)=false∧∃xs:List (List Key×Addr×Value),
   Paired (fun (p:List Key×V) (q:List Key×Addr×Value)=>p.1=q.1∧H q.2.1=some (.tup (p.1.map kV))∧RelV p.2 q.2.2) kvs xs∧
   ∃o es ep,h.get? a=some o∧o.ExactDict∧o.data=.dict es ep∧es.toList=xs.map (entryOfKey (tupleKind (yJ P w)))∧(xs.map (·.1)).Nodup
 |.set S n=>h.SetOf (intKind P w) a S n
 |.ins C dx fs=>H dx=some (.own a)∧fs.length≤1000∧dx≠a∧h.get? a=some (PySem.W.instObj C dx)∧
   ∃mA,h.Ns1 dx mA∧(∀f,vI (fs.lookup f) (mA f))∧PySem.Within mA (fs.map (·.1))
 |.own _=>∃o,h.get? a=some o
 |.xd fs=>∃mA,h.Ns1 a mA∧∀f,vI (fs.lookup f) (mA f)
 |.rng lo hi=>∃t u v,h.get? a=some {cls:=.type "range",data:=.fields #[.int lo t,.int hi u,.int 1 v]}
 |.frz o u=>h.get? a=some o∧yq H h a u
 |.tbl ps=>h.get? a=some {cls:=.none,data:=.fields ps}
 |.met f x=>h.get? a=some (PySem.W.methodObj (.ref f) (.ref x))
 |.ext φ=>φ h∧(∃o,h.get? a=some o)∧∀h1 h2:Heap,φ h1→(∀o,h1.get? a=some o→h2.get? a=some o)→φ h2
def HOk (H:Hp)(h:Heap):Prop:=∀a o,H a=some o→yq P w H h a o
end
section
variable {P:Program}{w:World}{H H':Hp}{h h':Heap}{a:Addr}{o:HO}
theorem yq.lt (x:yq P w H h a o):a<h.objs.size:=by
 cases o with
 |lst xs=>obtain⟨_,_,_,_,e⟩:=x;exact zh7 e
 |tup xs=>obtain⟨_,_,_,p⟩:=x;exact p.lt
 |dK kvs=>obtain⟨_,_,_,_,o,_,_,e,_⟩:=x;exact zh7 e
 |dT kvs=>obtain⟨_,_,_,_,o,_,_,e,_⟩:=x;exact zh7 e
 |set S n=>obtain⟨o,_,_,_,e,_⟩:=x;exact zh7 e
 |ins C dx fs=>obtain⟨_,_,_,e,_⟩:=x;exact zh7 e
 |own y=>obtain⟨_,e⟩:=x;exact zh7 e
 |xd fs=>obtain⟨_,⟨_,_,_,e,_⟩,_⟩:=x;exact zh7 e
 |rng lo hi=>obtain⟨_,_,_,e⟩:=x;exact zh7 e
 |frz ob u=>obtain⟨e,_⟩:=x;exact zh7 e
 |tbl ps=>exact zh7 (show h.get? a=some _ from x)
 |met f y=>exact zh7 (show h.get? a=some _ from x)
 |ext φ=>obtain⟨_,⟨_,e⟩,_⟩:=x;exact zh7 e
theorem Paired.mapP {α β:Type}{F G:α→β→Prop}:∀{l₁:List α} {l₂:List β},Paired F l₁ l₂→(∀a b,F a b→G a b)→Paired G l₁ l₂
 |_,_,.nil,_=>.nil
 |_,_,.cons r t,f=>.cons (f _ _ r) (Paired.mapP t f)
theorem yq.stay (x:yq P w H h a o)(k:∀b u,(b=a∨H b=some (.own a))→h.get? b=some u→h'.get? b=some u)
  (ho:∀b,H b=some (.own a)→H' b=some (.own a)) (ht:∀b xs,H b=some (.tup xs)→H' b=some (.tup xs)):yq P w H' h' a o:=by
 induction o with
 |lst xs=>obtain⟨z,its,n,r,e⟩:=x;exact⟨z,its,n,r,k _ _ (.inl rfl) e⟩
 |tup xs=>obtain⟨z,its,r,ob,e,c⟩:=x;exact⟨z,its,r,ob,k _ _ (.inl rfl) e,c⟩
 |dK kvs=>obtain⟨z,y,vs,r,ob,es,ep,e,c⟩:=x;exact⟨z,y,vs,r,ob,es,ep,k _ _ (.inl rfl) e,c⟩
 |dT kvs=>
  obtain⟨z,y,xs,r,ob,es,ep,e,c⟩:=x
  exact⟨z,y,xs,Paired.mapP r fun p q z=>⟨z.1,ht _ _ z.2.1,z.2.2⟩,ob,es,ep,k _ _ (.inl rfl) e,c⟩
 |set S n=>obtain⟨ob,es,ep,t,e,c⟩:=x;exact⟨ob,es,ep,t,k _ _ (.inl rfl) e,c⟩
 |ins C dx fs=>
  obtain⟨d,z,ne,e,mA,⟨od,es,ep,e2,c⟩,r⟩:=x
  exact⟨ho _ d,z,ne,k _ _ (.inl rfl) e,mA,⟨od,es,ep,k _ _ (.inr d) e2,c⟩,r⟩
 |own y=>obtain⟨ob,e⟩:=x;exact⟨ob,k _ _ (.inl rfl) e⟩
 |xd fs=>obtain⟨mA,⟨od,es,ep,e,c⟩,r⟩:=x;exact⟨mA,⟨od,es,ep,k _ _ (.inl rfl) e,c⟩,r⟩
 |rng lo hi=>obtain⟨t,u,v,e⟩:=x;exact⟨t,u,v,k _ _ (.inl rfl) e⟩
 |frz ob u ih=>obtain⟨e,q⟩:=x;exact⟨k _ _ (.inl rfl) e,ih q⟩
 |tbl ps=>
  have e:h.get? a=some {cls:=.none,data:=.fields ps}:=x
  show h'.get? a=some {cls:=.none,data:=.fields ps}
  exact k a _ (.inl rfl) e
 |met f y=>
  have e:h.get? a=some (PySem.W.methodObj (.ref f) (.ref y)):=x
  show h'.get? a=some (PySem.W.methodObj (.ref f) (.ref y))
  exact k a _ (.inl rfl) e
 |ext φ=>obtain⟨p,⟨o,e⟩,st⟩:=x;exact⟨st _ _ p fun o q=>k _ _ (.inl rfl) q,⟨o,k _ _ (.inl rfl) e⟩,st⟩
theorem HOk.lt (x:HOk P w H h)(e:H a=some o):a<h.objs.size:=(x a o e).lt
theorem HOk.fresh (x:HOk P w H h)(e:h.objs.size≤a):H a=none:=by
 cases q:H a with
 |none=>rfl
 |some u=>exact absurd (zj3 (x.lt q) e) (zr5 _)
theorem HOk.kept (x:HOk P w H h)(k:∀b u,h.get? b=some u→h'.get? b=some u):HOk P w H h':=fun a o e=>
 (x a o e).stay (fun b u _ q=>k b u q) (fun _ q=>q) fun _ _ q=>q
theorem HOk.laid (x:HOk P w H h)(k:∀b u,h.get? b=some u→h'.get? b=some u)(hp:h.objs.size≤a)(new:yq P w (upd H a o) h' a o):HOk P w (upd H a o) h':=fun b u e=>by
 have hn:=x.fresh hp
 by_cases hb:b=a
 ·subst hb;rw[zj] at e;cases e;exact new
 ·rw[zk hb] at e
  exact (x b u e).stay (fun c v _ q=>k c v q) (fun c q=>by rw[zk (zo q hn)];exact q) fun c xs q=>by rw[zk (zo q hn)];exact q
end
def Rd (H:Hp)(a:Addr)(u:HO):Prop:=H a=some u∨∃o,H a=some (.frz o u)
theorem Rd.ok {P:Program}{w:World}{H:Hp}{h:Heap}{a:Addr}{u:HO}(r:Rd H a u)(x:HOk P w H h):yq P w H h a u:=by
 rcases r with r|⟨o,r⟩
 ·exact x a u r
 ·obtain⟨_,q⟩:=x a _ r
  exact q
def Mut :Option HO→Prop
 |some (.lst _)=>True
 |some (.dK _)=>True
 |some (.dT _)=>True
 |some (.set _ _)=>True
 |some (.ins _ _ _)=>True
 |some (.ext _)=>True
 |_=>False
section
variable {P:Program}{w:World}{H:Hp}{h h':Heap}{x e:Addr}{o':HO}
theorem HOk.write (ok:HOk P w H h)(mu:Mut (H x))(he:e=x∨H e=some (.own x))(k:∀b u,b≠e→h.get? b=some u→h'.get? b=some u)(heo:∃u,h'.get? e=some u)
  (new:yq P w (upd H x o') h' x o'):HOk P w (upd H x o') h':=fun b u q=>by
 have nown:∀c y,H c=some (.own y)→c≠x:=fun c y r z=>by subst z;rw[r] at mu;exact mu
 have ntup:∀c xs,H c=some (.tup xs)→c≠x:=fun c xs r z=>by subst z;rw[r] at mu;exact mu
 by_cases hb:b=x
 ·subst hb;rw[zj] at q;cases q;exact new
 ·rw[zk hb] at q
  by_cases hbe:b=e
  ·have q':H b=some (.own x):=by
    rcases he with z|z
    ·exact absurd (hbe.trans z) hb
    ·rw[hbe];exact z
   rw[q] at q';cases q'
   obtain⟨v,hv⟩:=heo
   exact⟨v,by rw[hbe];exact hv⟩
  ·refine (ok b u q).stay (fun c v hc r=>k c v ?_ r) (fun c r=>by rw[zk (nown c b r)];exact r) fun c xs r=>by rw[zk (ntup c xs r)];exact r
   rcases hc with rfl|hc
   ·exact hbe
   ·rintro rfl
    rcases he with z|z
    ·exact nown c b hc z
    ·rw[hc] at z;cases z;exact hb rfl
end
structure Un (fs ex:List Addr)(H H':Hp)(h h':Heap):Prop where
 keep:∀b o,h.get? b=some o→H b=none→b∉fs→b∉ex→h'.get? b=some o
 slot:∀b o,h.get? b=some o→H b=none→b∈fs→b∉ex→∃sl,h'.get? b=some {o with slots:=sl}
 free:∀b o,h.get? b=some o→H b=none→b∉ex→H' b=none
 there:∀b o,h.get? b=some o→b∉ex→∃o',h'.get? b=some o'
 tups:∀b xs,H b=some (.tup xs)→H' b=some (.tup xs)
 frzs:∀b o u,H b=some (.frz o u)→H' b=some (.frz o u)
 tbls:∀b ps,H b=some (.tbl ps)→∃more,H' b=some (.tbl (ps++more))
section
variable {fs fs' ex ex':List Addr}{H H1 H2:Hp}{h h1 h2 h':Heap}{a x e:Addr}{o:HO}
theorem Un.any (u:Un fs ex H H1 h h1){b:Addr}{ob:Obj}(q:h.get? b=some ob)(n:H b=none)(hx:b∉ex):∃sl,h1.get? b=some {ob with slots:=sl}:=by
 by_cases hb:b∈fs
 ·exact u.slot b ob q n hb hx
 ·exact⟨ob.slots,u.keep b ob q n hb hx⟩
theorem Un.kept (k:∀b u,h.get? b=some u→h'.get? b=some u):Un fs ex H H h h':=
 ⟨fun b ob q _ _ _=>k b ob q,fun b ob q _ _ _=>⟨ob.slots,k b ob q⟩,fun _ _ _ n _=>n,fun b ob q _=>⟨ob,k b ob q⟩,fun _ _ q=>q,fun _ _ _ q=>q,fun _ ps q=>⟨#[],by rw[q];simp⟩⟩
theorem Un.refl :Un fs ex H H h h:=Un.kept fun _ _ q=>q
theorem Un.laid (k:∀b u,h.get? b=some u→h'.get? b=some u)(hp:h.objs.size≤a)(hn:H a=none):Un fs ex H (upd H a o) h h' where
 keep:=fun b u q _ _ _=>k b u q
 slot:=fun b u q _ _ _=>⟨u.slots,k b u q⟩
 free:=fun b u q n _=>by rw[zk (zi3 (zj3 (zh7 q) hp))];exact n
 there:=fun b u q _=>⟨u,k b u q⟩
 tups:=fun b xs q=>by rw[zk (zo q hn)];exact q
 frzs:=fun b u xs q=>by rw[zk (zo q hn)];exact q
 tbls:=fun b ps q=>⟨#[],by rw[zk (zo q hn),q];simp⟩
theorem Un.write (mu:Mut (H x))(he:e=x∨H e=some (.own x))(k:∀b u,b≠e→h.get? b=some u→h'.get? b=some u)(heo:∃u,h'.get? e=some u):Un fs ex H (upd H x o) h h':=by
 have hx:∀b,H b=none→b≠x:=fun b n z=>by subst z;rw[n] at mu;exact mu
 have hb:∀b,H b=none→b≠e:=fun b n z=>by
  subst z
  rcases he with r|r
  ·exact hx b n r
  ·rw[n] at r;cases r
 have hm:∀b u,H b=some u→¬Mut (some u)→b≠x:=fun b u q nm z=>by subst z;rw[q] at mu;exact nm mu
 refine⟨fun b u q n _ _=>k b u (hb b n) q,fun b u q n _ _=>⟨u.slots,k b u (hb b n) q⟩,fun b u q n _=>by rw[zk (hx b n)];exact n,fun b u q _=>?_,
  fun b xs q=>by rw[zk (hm b _ q fun z=>z)];exact q,fun b u xs q=>by rw[zk (hm b _ q fun z=>z)];exact q,fun b ps q=>⟨#[],by rw[zk (hm b _ q fun z=>z),q];simp⟩⟩
 by_cases hbe:b=e
 ·subst hbe;exact heo
 ·exact⟨u,k b u hbe q⟩
end
def trk (h:Heap)(H:Hp):List Addr:=(List.range h.objs.size).filter fun a=>(H a).isSome
def qk (h:Heap)(H:Hp):Heap:=PySem.W.hideAll h (trk h H)
theorem kA (h:Heap)(H:Hp):(qk h H).objs.size=h.objs.size:=PySem.W.hideAll_size _ _
theorem jV {h:Heap}{H:Hp}{b:Addr}{o:Obj}(e:h.get? b=some o)(n:H b=none):(qk h H).get? b=some o:=
 PySem.W.hideAll_get _ e fun hm=>by
  have q:(H b).isSome=true:=(List.mem_filter.mp hm).2
  rw[n] at q;simp at q
theorem dq {h:Heap}{H:Hp}{b:Addr}{o:Obj}(e:(qk h H).get? b=some o):h.get? b=some o∧H b=none:=by
 have e':h.get? b=some o:=PySem.W.of_hideAll (trk h H) e
 refine⟨e',?_⟩
 cases q:H b with
 |none=>rfl
 |some x=>
  have hm:b∈trk h H:=List.mem_filter.mpr ⟨List.mem_range.mpr (zh7 e'),by simp[q]⟩
  have z:(qk h H).get? b=none:=PySem.W.hideAll_none (trk h H) hm
  rw[z] at e;cases e
structure Mod (K:PySem.W.Frag)(mg:Str→Option Value)(base:Heap):Prop where
 kin:K.In base
 glob:base.Ns mainGlobals mg
 blt:∃mb,base.Ns builtinsNs mb∧∀x:Str,x≠"__name__"→mb x=bootBuiltins x
 nolimit:base.NoLimit
structure Cx where
 prog:Program
 w:World
 K:PySem.W.Frag
 mg:Str→Option Value
 base:Heap
 A:Around
 N:List Str
 s₀:Shared
 H₀:Hp
 env:Env
 outer:List Env
 stack:List Env
 ex:List Addr
 fn:Str→Bool
 calm:Bool
 pn:List (Addr×Obj)
 xe:Value→Shared→Prop
def frs (l:List Env):List Addr:=l.filterMap (·.frame)
abbrev Cx.fs (X:Cx):List Addr:=frs X.outer
def Vis (sc:Scope)(x:Str):Prop:=sc.names.lookup x=some .local∨sc.names.lookup x=some .cell∨sc.names.lookup x=some .free
def Loc (sc:Scope)(x:Str):Prop:=sc.names.lookup x=some .local∨sc.names.lookup x=some .cell
def Look (env:Env)(h:Heap)(m:Str→Option Value)(x:Str)(u:Value):Prop:=
 (env.kindOf x=some .local∧m x=some u)∨((env.kindOf x=some .cell∨env.kindOf x=some .free)∧∃c,env.cells.lookup x=some c∧h.IsCell c (some u))
structure Cx.Ok (X:Cx):Prop where
 mod:Mod X.K X.mg X.base
 kind:X.env.scope.kind=.function
 glob:X.env.globals=mainGlobals
 blt:X.env.builtins=builtinsNs
 above:X.s₀.heap.objs.size≤X.env.locals
 inj:∀x y c,X.env.cells.lookup x=some c→X.env.cells.lookup y=some c→x=y
 has:∀x,(X.env.kindOf x=some .cell∨X.env.kindOf x=some .free)→∃c,X.env.cells.lookup x=some c
 cab:∀x c,X.fn x=true→X.env.cells.lookup x=some c→X.s₀.heap.objs.size≤c
 hd:X.calm=true→X.A.handled=none
 frames:X.A.frames=some X.stack
 stk:X.stack=X.outer∨(X.stack=X.env::X.outer∧X.env.frame=some X.env.locals)
 exf:∀b∈X.ex,b≠X.env.locals∧∀x c,X.env.cells.lookup x=some c→c≠b
 bs:∀b o,X.base.get? b=some o→X.s₀.heap.get? b=some o∧X.H₀ b=none
 bsz:X.base.objs.size≤X.s₀.heap.objs.size
 noex:∀b o,X.base.get? b=some o→b∉X.ex
 exfs:∀b∈X.ex,b∉X.fs
 funs:X.s₀.heap.FunFrames X.base X.outer
 frf:∀b∈X.fs,X.H₀ b=none
structure Inv (X:Cx)(pins:List (Addr×Obj))(σ:List (Option V))(H:Hp)(s:Shared):Prop where
 ok:X.Ok
 os:s.os=X.s₀.os
 bare:AllBare s.gens
 base:Un X.fs X.ex X.H₀ H X.s₀.heap s.heap
 loc:∃m,s.heap.Ns X.env.locals m∧∀(i:Nat) (x:Str) (v:V),X.N[i]?=some x→σ[i]?=some (some v)→Vis X.env.scope x→∃u,RelV v u∧Look X.env s.heap m x u
 cell:∀x c,X.env.cells.lookup x=some c→∃v,s.heap.IsCell c v
 free:H X.env.locals=none
 freeC:∀x c,X.env.cells.lookup x=some c→H c=none
 pin:∀p∈X.pn++pins,s.heap.get? p.1=some p.2∧H p.1=none∧p.1≠X.env.locals∧p.1∉X.fs∧∀v,p.2.data≠.cell v
 hok:HOk X.prog X.w H s.heap
 len:σ.length=X.N.length
section
variable {X:Cx}{pins:List (Addr×Obj)}{σ:List (Option V)}{H H':Hp}{s:Shared}{h':Heap}
theorem Cx.Ok.nofr (ok:X.Ok){b:Addr}{o:Obj}(e:X.base.get? b=some o):b∉X.fs:=fun hb=>by
 have:=(ok.funs.mem hb).1
 rw[e] at this;cases this
theorem Inv.bs (I:Inv X pins σ H s):∀b o,X.base.get? b=some o→s.heap.get? b=some o∧H b=none:=fun b o e=>
 ⟨I.base.keep b o (I.ok.bs b o e).1 (I.ok.bs b o e).2 (I.ok.nofr e) (I.ok.noex b o e),I.base.free b o (I.ok.bs b o e).1 (I.ok.bs b o e).2 (I.ok.noex b o e)⟩
theorem Inv.bk (I:Inv X pins σ H s):∀b o,X.base.get? b=some o→s.heap.get? b=some o:=fun b o e=>(I.bs b o e).1
theorem Inv.mod (I:Inv X pins σ H s):Mod X.K X.mg X.base:=I.ok.mod
theorem Inv.kIn (I:Inv X pins σ H s):X.K.In s.heap:=I.ok.mod.kin.keeps I.bk
theorem Inv.lt (I:Inv X pins σ H s):X.env.locals<s.heap.objs.size:=let ⟨_,hn,_⟩:=I.loc;hn.lt
theorem Inv.sz (I:Inv X pins σ H s):X.s₀.heap.objs.size≤s.heap.objs.size:=zk7 I.ok.above (zm3 I.lt)
theorem Inv.nofs (I:Inv X pins σ H s){a:Addr}(h:s.heap.objs.size≤a):a∉X.fs:=fun hb=>by
 obtain⟨_,o,ho,_⟩:=I.ok.funs.mem hb
 exact absurd (zj3 (zh7 ho) (zk7 I.sz h)) (zr5 _)
theorem Inv.cne (I:Inv X pins σ H s):∀x c,X.env.cells.lookup x=some c→c≠X.env.locals:=fun x c e z=>by
 obtain⟨v,o,ho,hd⟩:=I.cell x c e
 obtain⟨m,⟨o',es,ep,ho',hd',_⟩,_⟩:=I.loc
 rw[z,ho'] at ho;cases ho;rw[hd'] at hd;cases hd
theorem Inv.funs (I:Inv X pins σ H s):s.heap.FunFrames X.base X.outer:=by
 have all:∀(l:List Env),(∀b∈frs l,b∈X.fs)→X.s₀.heap.FunFrames X.base l→s.heap.FunFrames X.base l:=by
  intro l
  induction l with
  |nil=>intro _ _;trivial
  |cons env r ih=>
   intro hs hl
   obtain⟨hk,⟨L,o,hf,hn,ho,hd⟩,hr⟩:=hl
   have hL:L∈X.fs:=hs L (by unfold frs;rw[zt0,hf];exact zh3)
   obtain⟨sl,e⟩:=I.base.slot L o ho (I.ok.frf L hL) hL fun z=>I.ok.exfs L z hL
   exact⟨hk,⟨L,_,hf,hn,e,hd⟩,ih (fun b hb=>hs b (by unfold frs;rw[zt0,hf];exact zg7 _ hb)) hr⟩
 exact all X.outer (fun _ hb=>hb) I.ok.funs
theorem Inv.stack (I:Inv X pins σ H s):s.heap.FunFrames X.base X.stack:=by
 rcases I.ok.stk with e|⟨e,hf⟩
 ·rw[e];exact I.funs
 ·rw[e]
  obtain⟨m,hn,_⟩:=I.loc
  refine .cons (by rw[I.ok.kind];decide) hf hn ?_ I.funs
  exact Heap.get?_none_of_le (zk7 I.ok.bsz I.ok.above)
theorem Inv.stkSub (I:Inv X pins σ H s):∀b∈frs X.stack,b∈X.env.locals::X.fs:=fun b hb=>by
 rcases I.ok.stk with e|⟨e,hf⟩
 ·rw[e] at hb;exact zg7 _ hb
 ·rw[e] at hb
  unfold frs at hb
  rw[zt0,hf] at hb
  exact hb
theorem Inv.stkFree (I:Inv X pins σ H s):∀b∈frs X.stack,H b=none:=fun b hb=>by
 rcases zg3.mp (I.stkSub b hb) with e|hb
 ·rw[e];exact I.free
 ·obtain⟨_,o,ho,_⟩:=I.ok.funs.mem hb
  exact I.base.free b o ho (I.ok.frf b hb) fun z=>I.ok.exfs b z hb
theorem Inv.step {g':Array GenState}{t':Nat}{d':Drawn}{ch:List Addr}(I:Inv X pins σ H s)
  (hch:∀b∈ch,(b∈X.ex∨X.s₀.heap.objs.size≤b)∧b≠X.env.locals∧(∀x c,X.env.cells.lookup x=some c→c≠b)∧∀p∈X.pn++pins,p.1≠b)
  (keep:∀b o,b≠X.env.locals→b∉X.fs→b∉ch→s.heap.get? b=some o→H b=none→h'.get? b=some o)
  (slot:∀b o,b≠X.env.locals→b∈X.fs→b∉ch→s.heap.get? b=some o→H b=none→∃sl,h'.get? b=some {o with slots:=sl}) (free:∀b o,b∉ch→s.heap.get? b=some o→H b=none→H' b=none)
  (there:∀b o,b∉ch→s.heap.get? b=some o→∃o',h'.get? b=some o')
  (tups:∀b xs,H b=some (.tup xs)→H' b=some (.tup xs)) (frzs:∀b o u,H b=some (.frz o u)→H' b=some (.frz o u)) (tbls:∀b ps,H b=some (.tbl ps)→∃more,H' b=some (.tbl (ps++more)))
  (ns:∀m,s.heap.Ns X.env.locals m→h'.Ns X.env.locals m) (hok:HOk X.prog X.w H' h') (hg:AllBare g'):
  Inv X pins σ H' {s with heap:=h',gens:=g',drawn:=d',toks:=t'}:=by
 have neL:∀b o,X.s₀.heap.get? b=some o→b≠X.env.locals:=fun b o e=>zi3 (zj3 (zh7 e) I.ok.above)
 have neC:∀b o,X.s₀.heap.get? b=some o→b∉X.ex→b∉ch:=fun b o e hx hb=>by
  rcases (hch b hb).1 with z|z
  ·exact hx z
  ·exact absurd (zj3 (zh7 e) z) (zr5 _)
 have cellK:∀x c,X.env.cells.lookup x=some c→∀v,s.heap.IsCell c v→h'.IsCell c v:=fun x c e v ⟨o,ho,hd⟩=>by
  have nch:c∉ch:=fun z=>(hch c z).2.2.1 x c e rfl
  by_cases hc:c∈X.fs
  ·obtain⟨sl,q⟩:=slot c o (I.cne x c e) hc nch ho (I.freeC x c e)
   exact⟨_,q,hd⟩
  ·exact⟨o,keep c o (I.cne x c e) hc nch ho (I.freeC x c e),hd⟩
 refine⟨I.ok,I.os,hg,⟨fun b o e n hb hx=>?_,fun b o e n hb hx=>?_,fun b o e n hx=>?_,fun b o e hx=>?_,fun b xs e=>tups b xs (I.base.tups b xs e),fun b o xs e=>frzs b o xs (I.base.frzs b o xs e),fun b ps e=>?_⟩,?_,fun x c e=>?_,?_,fun x c e=>?_,fun p hp=>?_,hok,I.len⟩
 ·exact keep b o (neL b o e) hb (neC b o e hx) (I.base.keep b o e n hb hx) (I.base.free b o e n hx)
 ·obtain⟨sl,e1⟩:=I.base.slot b o e n hb hx
  obtain⟨sl',e2⟩:=slot b _ (neL b o e) hb (neC b o e hx) e1 (I.base.free b o e n hx)
  exact⟨sl',e2⟩
 ·obtain⟨o',e1⟩:=I.base.there b o e hx
  exact free b o' (neC b o e hx) e1 (I.base.free b o e n hx)
 ·obtain⟨o',e1⟩:=I.base.there b o e hx
  exact there b o' (neC b o e hx) e1
 ·obtain⟨m1,e1⟩:=I.base.tbls b ps e
  obtain⟨m2,e2⟩:=tbls b _ e1
  exact⟨m1++m2,by rw[e2,Array.append_assoc]⟩
 ·obtain⟨m,hn,hl⟩:=I.loc
  refine⟨m,ns m hn,fun i x v e1 e2 e3=>?_⟩
  obtain⟨u,r,l⟩:=hl i x v e1 e2 e3
  refine⟨u,r,?_⟩
  rcases l with l|⟨k,c,e,z⟩
  ·exact .inl l
  ·exact .inr ⟨k,c,e,cellK x c e _ z⟩
 ·obtain⟨v,z⟩:=I.cell x c e
  exact⟨v,cellK x c e v z⟩
 ·obtain⟨m,⟨o,_,_,ho,_⟩,_⟩:=I.loc
  exact free _ o (fun z=>(hch _ z).2.1 rfl) ho I.free
 ·obtain⟨v,o,ho,hd⟩:=I.cell x c e
  exact free c o (fun z=>(hch c z).2.2.1 x c e rfl) ho (I.freeC x c e)
 ·obtain⟨e,n,ne,nf,d⟩:=I.pin p hp
  have nch:p.1∉ch:=fun z=>(hch p.1 z).2.2.2 p hp rfl
  exact⟨keep p.1 p.2 ne nf nch e n,free p.1 p.2 nch e n,ne,nf,d⟩
theorem Inv.un {t':Nat}(I:Inv X pins σ H s)(u:Un X.fs [] H H' s.heap h')(hok:HOk X.prog X.w H' h'):Inv X pins σ H' {s with heap:=h',toks:=t'}:=by
 obtain⟨m,⟨o,es,ep,ho,r⟩,_⟩:=id I.loc
 obtain⟨sl,hL⟩:=u.any ho I.free (by simp)
 exact I.step (g':=s.gens) (d':=s.drawn) (ch:=[]) (fun _ z=>nomatch z) (fun b o _ hb _ e n=>u.keep b o e n hb (by simp)) (fun b o _ hb _ e n=>u.slot b o e n hb (by simp)) (fun b o _ e n=>u.free b o e n (by simp)) (fun b o _ e=>u.there b o e (by simp)) u.tups u.frzs u.tbls (fun m' hm=>by
  obtain⟨o',es',ep',ho',r'⟩:=hm
  rw[ho] at ho';cases ho'
  exact⟨_,es',ep',hL,r'⟩) hok I.bare
theorem Inv.call {g':Array GenState}{t':Nat}{d':Drawn}{ch:List Addr}(I:Inv X pins σ H s)(u:Un (frs X.stack) ch H H' s.heap h')(hok:HOk X.prog X.w H' h')(hg:AllBare g')
  (hch:∀b∈ch,(b∈X.ex∨X.s₀.heap.objs.size≤b)∧b≠X.env.locals∧(∀x c,X.env.cells.lookup x=some c→c≠b)∧∀p∈X.pn++pins,p.1≠b):
  Inv X pins σ H' {s with heap:=h',gens:=g',drawn:=d',toks:=t'}:=by
 obtain⟨m,⟨o,es,ep,ho,r⟩,_⟩:=id I.loc
 obtain⟨sl,hL⟩:=u.any ho I.free fun z=>(hch _ z).2.1 rfl
 exact I.step (ch:=ch) hch (fun b o hL hb hc e n=>u.keep b o e n (fun z=>(zg3.mp (I.stkSub b z)).elim hL hb) hc) (fun b o _ _ hc e n=>u.any e n hc) (fun b o hc e n=>u.free b o e n hc) (fun b o hc e=>u.there b o e hc) u.tups u.frzs u.tbls (fun m' hm=>by
  obtain⟨o',es',ep',ho',r'⟩:=hm
  rw[ho] at ho';cases ho'
  exact⟨_,es',ep',hL,r'⟩) hok hg
theorem Inv.turned {t':Nat}{it:Addr}(I:Inv X pins σ H s)(k:∀b o,b≠it→s.heap.get? b=some o→h'.get? b=some o)(hn:H it=none)(hL:it≠X.env.locals)
  (h1:it∈X.ex∨X.s₀.heap.objs.size≤it) (h2:∀x c,X.env.cells.lookup x=some c→c≠it) (h3:∀p∈X.pn++pins,p.1≠it):Inv X pins σ H {s with heap:=h',toks:=t'}:=by
 have nit:∀b u,H b=some u→b≠it:=fun b u e z=>by rw[z,hn] at e;cases e
 refine I.step (g':=s.gens) (d':=s.drawn) (ch:=[it]) (fun b hb=>?_) (fun b o _ _ hc e _=>k b o (fun z=>hc (by simp[z])) e) (fun b o _ _ hc e _=>⟨o.slots,k b o (fun z=>hc (by simp[z])) e⟩) (fun _ _ _ _ n=>n)
  (fun b o hc e=>⟨o,k b o (fun z=>hc (by simp[z])) e⟩) (fun _ _ e=>e) (fun _ _ _ e=>e) (fun b ps e=>⟨#[],by rw[e];simp⟩) (fun m hm=>?_) (fun b u e=>?_) I.bare
 ·have e:b=it:=by simpa using hb
  subst e
  exact⟨h1,hL,h2,h3⟩
 ·obtain⟨o,es,ep,ho,r⟩:=hm
  exact⟨o,es,ep,k _ o (zs9 hL) ho,r⟩
 ·refine (I.hok b u e).stay (fun c v hc q=>k c v ?_ q) (fun _ q=>q) fun _ _ q=>q
  rcases hc with z|z
  ·rw[z];exact nit b u e
  ·exact nit c _ z
theorem Inv.tok (I:Inv X pins σ H s)(t:Nat):Inv X pins σ H {s with toks:=t}:=I.un (h':=s.heap) (t':=t) Un.refl I.hok
theorem Inv.kept {t':Nat}(I:Inv X pins σ H s)(k:∀b u,s.heap.get? b=some u→h'.get? b=some u):Inv X pins σ H {s with heap:=h',toks:=t'}:=I.un (Un.kept k) (I.hok.kept k)
theorem Inv.laid {a:Addr}{o:HO}{t':Nat}(I:Inv X pins σ H s)(k:∀b u,s.heap.get? b=some u→h'.get? b=some u)(hp:s.heap.objs.size≤a)(new:yq X.prog X.w (upd H a o) h' a o):
  Inv X pins σ (upd H a o) {s with heap:=h',toks:=t'}:=I.un (Un.laid k hp (I.hok.fresh hp)) (I.hok.laid k hp new)
theorem Inv.write {x e:Addr}{o:HO}{t':Nat}(I:Inv X pins σ H s)(mu:Mut (H x))(he:e=x∨H e=some (.own x))(k:∀b u,b≠e→s.heap.get? b=some u→h'.get? b=some u)(heo:∃u,h'.get? e=some u)
  (new:yq X.prog X.w (upd H x o) h' x o):Inv X pins σ (upd H x o) {s with heap:=h',toks:=t'}:=I.un (Un.write mu he k heo) (I.hok.write mu he k heo new)
theorem Inv.pins_of {pins':List (Addr×Obj)}(I:Inv X pins σ H s)(h:∀p∈pins',s.heap.get? p.1=some p.2∧H p.1=none∧p.1≠X.env.locals∧p.1∉X.fs∧∀v,p.2.data≠.cell v):Inv X pins' σ H s:=
 ⟨I.ok,I.os,I.bare,I.base,I.loc,I.cell,I.free,I.freeC,fun p hp=>(zi0.mp hp).elim (fun z=>I.pin p (zh8 _ z)) (h p),I.hok,I.len⟩
theorem qZ {N:List Str}(hN:N.Nodup){i j:Nat}{x:Str}(a:N[i]?=some x)(b:N[j]?=some x):i=j:=by
 obtain⟨h1,e1⟩:=zh1.mp a
 obtain⟨h2,e2⟩:=zh1.mp b
 exact (List.getElem_inj hN).mp (e1.trans e2.symm)
theorem lX {M:Model}{A:Around}{E:Value→Shared→Prop}{i:Nat}{x:Str}{v:V}{u:Value}{Q:Unit→Shared→Prop}(I:Inv X pins σ H s)(hN:X.N.Nodup)(hi:X.N[i]?=some x)(hx:Loc X.env.scope x)(r:RelV v u)
  (h:∀s',Inv X pins (σ.set i (some v)) H s'→(∃a,Heap.SameBut a s.heap s'.heap∧(a=X.env.locals∨X.env.cells.lookup x=some a))→Q () s') (hf:X.fn x=true∨X.env.scope.names.lookup x=some .local:=by first|exact .inl rfl|exact .inr rfl|assumption):wpAny M A (storeName X.env x u) Q E s:=by
 obtain⟨m,hn,hl⟩:=id I.loc
 have hcls:(X.env.scope.kind == .class||(X.env.scope.kind == .module&&X.env.locals != X.env.globals))=false:=by rw[I.ok.kind];rfl
 have hiσ:i<σ.length:=by rw[I.len];exact (zh1.mp hi).1
 have cne:=I.cne
 have tracked:∀{a:Addr} {h':Heap},(∃o,s.heap.get? a=some o∧H a=none)→Heap.SameBut a s.heap h'→HOk X.prog X.w H h':=fun {a h'} ha hs b ob e=>by
  obtain⟨_,_,hfree⟩:=ha
  refine (I.hok b ob e).stay (fun c w' hc q=>(hs.2 c ?_).trans q) (fun _ q=>q) fun _ _ q=>q
  rintro rfl
  rcases hc with rfl|hc
  ·rw[hfree] at e;cases e
  ·rw[hfree] at hc;cases hc
 rcases hx with hk|hk
 ·refine wpAny_storeName_local hk hn (fun h' hn' hs=>?_) hcls
  obtain⟨oL,_,_,hoL,_⟩:=id hn
  refine h _ ⟨I.ok,I.os,I.bare,⟨fun b o e n hb hx=>?_,fun b o e n hb hx=>?_,I.base.free,fun b o e hx=>?_,I.base.tups,I.base.frzs,I.base.tbls⟩,⟨_,hn',fun j y v' e1 e2 e3=>?_⟩,fun y c e=>?_,I.free,I.freeC,fun p hp=>?_,tracked ⟨oL,hoL,I.free⟩ hs,by simpa using I.len⟩ ⟨_,hs,.inl rfl⟩
  ·exact (hs.2 b (zi3 (zj3 (zh7 e) I.ok.above))).trans (I.base.keep b o e n hb hx)
  ·obtain⟨sl,e1⟩:=I.base.slot b o e n hb hx
   exact⟨sl,(hs.2 b (zi3 (zj3 (zh7 e) I.ok.above))).trans e1⟩
  ·obtain⟨o',e1⟩:=I.base.there b o e hx
   exact⟨o',(hs.2 b (zi3 (zj3 (zh7 e) I.ok.above))).trans e1⟩
  ·by_cases hj:j=i
   ·subst hj
    rw[hi] at e1;cases e1
    rw[zn9 hiσ] at e2
    cases e2
    exact⟨u,r,.inl ⟨hk,by simp⟩⟩
   ·rw[zm0 (zs9 hj)] at e2
    obtain⟨u',r',q⟩:=hl j y v' e1 e2 e3
    refine⟨u',r',?_⟩
    rcases q with ⟨k,e⟩|⟨k,c,e,z⟩
    ·refine .inl ⟨k,?_⟩
     have:y≠x:=fun e=>hj (qZ hN e1 (e▸hi))
     simp[this,e]
    ·exact .inr ⟨k,c,e,z.sameBut hs (cne y c e)⟩
  ·obtain⟨w',z⟩:=I.cell y c e
   exact⟨w',z.sameBut hs (cne y c e)⟩
  ·obtain⟨e,n,ne,nf,d⟩:=I.pin p hp
   exact⟨(hs.2 p.1 ne).trans e,n,ne,nf,d⟩
 ·have hfn:X.fn x=true:=by
   rcases hf with z|z
   ·exact z
   ·rw[z] at hk;cases hk
  obtain⟨c,hc⟩:=I.ok.has x (.inl hk)
  obtain⟨w',z⟩:=I.cell x c hc
  refine wpAny_storeName_cell I.ok.kind hk hc z (fun h' hc' hs=>?_)
  obtain⟨oc,hoc,hocd⟩:=id z
  refine h {s with heap:=h'} ⟨I.ok,I.os,I.bare,⟨fun b o e n hb hx=>?_,fun b o e n hb hx=>?_,I.base.free,fun b o e hx=>?_,I.base.tups,I.base.frzs,I.base.tbls⟩,⟨m,hn.sameBut hs (zs9 (cne x c hc)),fun j y v' e1 e2 e3=>?_⟩,fun y c' e=>?_,I.free,I.freeC,fun p hp=>?_,tracked ⟨oc,hoc,I.freeC x c hc⟩ hs,by simpa using I.len⟩ ⟨c,hs,.inr hc⟩
  ·exact (hs.2 b (zi3 (zj3 (zh7 e) (I.ok.cab x c hfn hc)))).trans (I.base.keep b o e n hb hx)
  ·obtain⟨sl,e1⟩:=I.base.slot b o e n hb hx
   exact⟨sl,(hs.2 b (zi3 (zj3 (zh7 e) (I.ok.cab x c hfn hc)))).trans e1⟩
  ·obtain⟨o',e1⟩:=I.base.there b o e hx
   exact⟨o',(hs.2 b (zi3 (zj3 (zh7 e) (I.ok.cab x c hfn hc)))).trans e1⟩
  ·by_cases hj:j=i
   ·subst hj
    rw[hi] at e1;cases e1
    rw[zn9 hiσ] at e2
    cases e2
    exact⟨u,r,.inr ⟨.inl hk,c,hc,hc'⟩⟩
   ·rw[zm0 (zs9 hj)] at e2
    obtain⟨u',r',q⟩:=hl j y v' e1 e2 e3
    refine⟨u',r',?_⟩
    rcases q with q|⟨k,c',e,z'⟩
    ·exact .inl q
    ·refine .inr ⟨k,c',e,z'.sameBut hs ?_⟩
     rintro rfl
     exact hj (qZ hN e1 (I.ok.inj _ _ _ e hc▸hi))
  ·by_cases hcc:c'=c
   ·subst hcc;exact⟨_,hc'⟩
   ·obtain⟨w2,z2⟩:=I.cell y c' e
    exact⟨w2,z2.sameBut hs hcc⟩
  ·obtain⟨e,n,ne,nf,d⟩:=I.pin p hp
   refine⟨(hs.2 p.1 ?_).trans e,n,ne,nf,d⟩
   intro q
   rw[q,hoc] at e
   have q':oc=p.2:=zk0 e
   exact d w' (by rw[←q'];exact hocd)
theorem og {M:Model}{A:Around}{E:Value→Shared→Prop}{i:Nat}{x:Str}{v:V}{u:Value}{Q:Unit→Shared→Prop}(I:Inv X pins σ H s)(hN:X.N.Nodup)(hi:X.N[i]?=some x)(hx:Loc X.env.scope x)(r:RelV v u)
  (h:∀s',Inv X pins (σ.set i (some v)) H s'→Q () s') (hf:X.fn x=true∨X.env.scope.names.lookup x=some .local:=by first|exact .inl rfl|exact .inr rfl|assumption):wpAny M A (storeName X.env x u) Q E s:=
 lX I hN hi hx r (fun s' I' _=>h s' I') hf
theorem Inv.call' {s':Shared}{ch:List Addr}(I:Inv X pins σ H s)(ho:s'.os=s.os)(u:Un (frs X.stack) ch H H' s.heap s'.heap)(hok:HOk X.prog X.w H' s'.heap)(hg:AllBare s'.gens)
  (hch:∀b∈ch,(b∈X.ex∨X.s₀.heap.objs.size≤b)∧b≠X.env.locals∧(∀x c,X.env.cells.lookup x=some c→c≠b)∧∀p∈X.pn++pins,p.1≠b):Inv X pins σ H' s':=by
 obtain⟨h',g',d',t',o'⟩:=s'
 have e:o'=s.os:=ho
 subst e
 exact I.call (g':=g') (t':=t') (d':=d') u hok hg hch
end
abbrev XK :=Value→Option Addr→Hp→Prop
abbrev St :=List (Option V)
abbrev VK :=V→Hp→Prop
abbrev TE :=St→Hp→VK→Prop
abbrev TT :=St→Hp→(Bool→Hp→Prop)→Prop
abbrev TA :=St→Hp→(List V→Hp→Prop)→Prop
structure Ends where
 nx:St→Hp→Prop
 rt:VK
 bk:St→Hp→Prop:=fun _ _=>False
 ct:St→Hp→Prop:=fun _ _=>False
abbrev TS :=Ends→St→Hp→Prop
def EP (X:Cx)(pins:List (Addr×Obj))(σ:St)(Q:VK)(u:Value)(s':Shared):Prop:=∃v H',Inv X pins σ H' s'∧RelV v u∧Q v H'
def TP (X:Cx)(pins:List (Addr×Obj))(σ:St)(Q:Bool→Hp→Prop)(b:Bool)(s':Shared):Prop:=∃H',Inv X pins σ H' s'∧Q b H'
def AP (X:Cx)(pins:List (Addr×Obj))(σ:St)(Q:List V→Hp→Prop)(us:List Value)(s':Shared):Prop:=∃vs H',Inv X pins σ H' s'∧Vals vs us∧Q vs H'
def SP (X:Cx)(pins:List (Addr×Obj))(D:Ends)(f:Flow)(s':Shared):Prop:=
 match f with
 |.next=>∃σ' H',Inv X pins σ' H' s'∧D.nx σ' H'
 |.brk=>∃σ' H',Inv X pins σ' H' s'∧D.bk σ' H'
 |.cont=>∃σ' H',Inv X pins σ' H' s'∧D.ct σ' H'
 |.ret u=>∃v σ' H',Inv X pins σ' H' s'∧RelV v u∧D.rt v H'
def PE (X:Cx)(e:Expr)(t:TE):Prop:=
 ∀(pins:List (Addr×Obj)) (s:Shared) (σ:St) (H:Hp) (Q:VK),Inv X pins σ H s→t σ H Q→wpAny (model X.prog X.w) X.A (eval e X.env) (EP X pins σ Q) X.xe s
def PT (X:Cx)(e:Expr)(t:TT):Prop:=
 ∀(pins:List (Addr×Obj)) (s:Shared) (σ:St) (H:Hp) (Q:Bool→Hp→Prop),Inv X pins σ H s→t σ H Q→wpAny (model X.prog X.w) X.A (isTrue e X.env (eval e X.env)) (TP X pins σ Q) X.xe s
def PW (X:Cx)(e:Expr)(t:TT):Prop:=
 ∀(whole:Sem Value) (pins:List (Addr×Obj)) (s:Shared) (σ:St) (H:Hp) (Q:Bool→Hp→Prop),Inv X pins σ H s→t σ H Q→wpAny (model X.prog X.w) X.A (isTrue e X.env whole) (TP X pins σ Q) X.xe s
theorem PW.pt {X:Cx}{e:Expr}{t:TT}(h:PW X e t):PT X e t:=h _
def PA (X:Cx)(es:List Expr)(t:TA):Prop:=
 ∀(pos:Pos) (pins:List (Addr×Obj)) (s:Shared) (σ:St) (H:Hp) (Q:List V→Hp→Prop),Inv X pins σ H s→t σ H Q→wpAny (model X.prog X.w) X.A (spliced (backTo pos (starEach es X.env))) (AP X pins σ Q) X.xe s
def PS (X:Cx)(st:Stmt)(t:TS):Prop:=
 ∀(pins:List (Addr×Obj)) (s:Shared) (σ:St) (H:Hp) (D:Ends),Inv X pins σ H s→t D σ H→wpAny (model X.prog X.w) X.A (exec st X.env) (SP X pins D) X.xe s
def PSs (X:Cx)(st:List Stmt)(t:TS):Prop:=
 ∀(pins:List (Addr×Obj)) (s:Shared) (σ:St) (H:Hp) (D:Ends),Inv X pins σ H s→t D σ H→wpAny (model X.prog X.w) X.A (execs st X.env) (SP X pins D) X.xe s
theorem thn {α:Type}{t:Sem α}{Q Q':α→Shared→Prop}{M:Model}{A:Around}{E:Value→Shared→Prop}{s:Shared}(h:wpAny M A t Q E s)(hQ:∀a s,Q a s→Q' a s):wpAny M A t Q' E s:=zl6 h hQ fun _ _ x=>x
section
variable {X:Cx}
theorem bin {a b:Expr}{ta tb:TE}(ha:PE X a ta)(hb:PE X b tb){pins:List (Addr×Obj)}{s:Shared}{σ:St}{H:Hp}{R:V→V→Hp→Prop}(I:Inv X pins σ H s)(h:ta σ H fun x H1=>tb σ H1 fun y H2=>R x y H2)
  {α:Type} {Q:α→Shared→Prop} {f:Value→Value→Sem α}
  (hf:∀v u s2 x y H2,Inv X pins σ H2 s2→RelV x v→RelV y u→R x y H2→wpAny (model X.prog X.w) X.A (f v u) Q X.xe s2):
  wpAny (model X.prog X.w) X.A (eval a X.env) (fun v s₁=>wpAny (model X.prog X.w) X.A (eval b X.env) (fun u s₂=>wpAny (model X.prog X.w) X.A (f v u) Q X.xe s₂) X.xe s₁) X.xe s:=by
 refine thn (ha pins s σ H _ I h) fun v s1 ⟨x,H1,I1,r1,q1⟩=>?_
 refine thn (hb pins s1 σ H1 _ I1 q1) fun u s2 ⟨y,H2,I2,r2,q2⟩=>?_
 exact hf v u s2 x y H2 I2 r1 r2 q2
def iX (i:Nat):TE:=fun σ H Q=>∃v,σ[i]?=some (some v)∧Q v H
def tC (v:V):TE:=fun _ H Q=>Q v H
theorem yR {i:Nat}{x:Str}{pos:Pos}(hN:X.N[i]?=some x)(hv:Vis X.env.scope x)(hd:(x == ("__debug__":Str))=false:=by decide)(hcd:(x == ("__classdict__":Str))=false:=by decide):PE X (.Name x pos) (iX i):=by
 intro pins s σ H Q I h
 obtain⟨v,e,h⟩:=h
 obtain⟨m,hn,hl⟩:=I.loc
 obtain⟨u,r,l⟩:=hl i x v hN e hv
 have fin:EP X pins σ Q u s:=⟨v,H,I,r,h⟩
 rcases l with ⟨hk,hm⟩|⟨hk,c,hc,hcell⟩
 ·exact wpAny_Name (wpAny_loadName_local I.ok.kind hk hn hm fin) hd
 ·rcases hk with hk|hk
  ·exact wpAny_Name (wpAny_loadName_cell I.ok.kind hk hc hcell fin) hd
  ·exact wpAny_Name (wpAny_loadName_free I.ok.kind hk hc hcell fin hcd) hd
theorem zz {i j pos}:PE X (.Constant (.int i) j pos) (tC (.int i)):=fun _ _ _ H _ I h=>wpAny_Constant_int ⟨.int i,H,I.tok _,⟨_,rfl⟩,h⟩
theorem za6 {b j pos}:PE X (.Constant (.bool b) j pos) (tC (.bl b)):=fun _ _ _ H _ I h=>Constant_bool ⟨.bl b,H,I,rfl,h⟩
theorem qK {j pos}:PE X (.Constant .none j pos) (tC .non):=fun _ _ _ H _ I h=>Constant_none ⟨.non,H,I,rfl,h⟩
theorem ye {x j pos}:PE X (.Constant (.str x) j pos) (tC (.str x)):=fun _ _ _ H _ I h=>Calls.Constant_str ⟨.str x,H,I.tok _,⟨_,rfl⟩,h⟩
def Gl (X:Cx)(x:Str):Prop:=X.env.kindOf x=some .globalImplicit
theorem vK {E:Value→Shared→Prop}{pins:List (Addr×Obj)}{s:Shared}{σ:St}{H:Hp}{x:Str}{u:Value}{pos:Pos}{Q:Value→Shared→Prop}(I:Inv X pins σ H s)(hg:Gl X x)(hm:X.mg x=some u)(h:Q u s)
  (hd:(x == ("__debug__":Str))=false:=by decide):wpAny (model X.prog X.w) X.A (eval (.Name x pos) X.env) Q E s:=
 Calls.Name_function_global I.ok.kind hg (Calls.loadGlobal_global (by rw[I.ok.glob];exact I.mod.glob.keeps I.bk) hm h) hd
theorem vZ {E:Value→Shared→Prop}{pins:List (Addr×Obj)}{s:Shared}{σ:St}{H:Hp}{x:Str}{u:Value}{pos:Pos}{Q:Value→Shared→Prop}(I:Inv X pins σ H s)(hg:Gl X x)(hm:X.mg x=none)(hv:bootBuiltins x=some u)(h:Q u s)
  (hn:x≠"__name__":=by decide) (hd:(x == ("__debug__":Str))=false:=by decide):wpAny (model X.prog X.w) X.A (eval (.Name x pos) X.env) Q E s:=by
 obtain⟨mb,h1,h2⟩:=I.mod.blt
 exact Calls.Name_function_global I.ok.kind hg (Calls.loadGlobal_builtin (by rw[I.ok.glob];exact I.mod.glob.keeps I.bk) hm (by rw[I.ok.blt];exact h1.keeps I.bk) ((h2 x hn).trans hv) h) hd
theorem vH {x:Str}{v:V}{u:Value}{pos:Pos}(hg:Gl X x)(hm:X.mg x=some u)(r:RelV v u)(hd:(x == ("__debug__":Str))=false:=by decide):PE X (.Name x pos) (tC v):=
 fun _ _ _ H _ I h=>vK I hg hm ⟨v,H,I,r,h⟩ hd
theorem wX {x:Str}{v:V}{u:Value}{pos:Pos}(hg:Gl X x)(hm:X.mg x=none)(hv:bootBuiltins x=some u)(r:RelV v u)(hn:x≠"__name__":=by decide)(hd:(x == ("__debug__":Str))=false:=by decide):PE X (.Name x pos) (tC v):=
 fun _ _ _ H _ I h=>vZ I hg hm hv ⟨v,H,I,r,h⟩ hn hd
variable {a b:Expr}{ta tb:TE}{pos:Pos}
def PC (X:Cx)(op:CmpOp)(a b:Expr)(t:TE):Prop:=
 ∀(pins:List (Addr×Obj)) (s:Shared) (σ:St) (H:Hp) (Q:VK),Inv X pins σ H s→t σ H Q→
  wpAny (model X.prog X.w) X.A (eval a X.env) (fun v s₁=>wpAny (model X.prog X.w) X.A (eval b X.env) (fun u s₂=>wpAny (model X.prog X.w) X.A (compareOp op v u) (EP X pins σ Q) X.xe s₂) X.xe s₁) X.xe s
def tB (t:TE):TT:=fun σ H Q=>t σ H fun x H1=>∃c,x=.bl c∧Q c H1
theorem zd2 {op:CmpOp}{t:TE}(h:PC X op a b t)(h1:behindInMarks op b=false:=by first|exact nobehind _ (by decide) (by decide)|rfl):PT X (.Compare a [op] [b] pos) (tB t):=by
 intro pins s σ H Q I hw
 refine wpAny_isTrue_Compare1 (thn (h pins s σ H _ I hw) fun v s1 h1=>thn h1 fun u s2 h2=>thn h2 fun c s3 ⟨x,H1,I1,r1,q1⟩=>?_) h1
 obtain⟨d,rfl,q⟩:=q1
 cases r1
 exact zl7 ⟨H1,I1,q⟩
theorem iM {e:Expr}{t:TE}(h:PE X e t)(he:∀whole,isTrue e X.env whole=(do let v ←whole;standAt e.pos;holding [v] (truthy v)):=by intro _;rfl):PT X e (tB t):=by
 intro pins s σ H Q I hw
 refine isTrue_plain (thn (h pins s σ H _ I hw) fun v s1 ⟨x,H1,I1,r1,q1⟩=>?_) (he _)
 obtain⟨d,rfl,q⟩:=q1
 cases r1
 exact zl7 ⟨H1,I1,q⟩
variable {tA tB':TT}{rest:List Expr}
def zd9 (t u:TT):TT:=fun σ H Q=>t σ H fun c H1=>if c=true then u σ H1 Q else Q false H1
def tOr (t u:TT):TT:=fun σ H Q=>t σ H fun c H1=>if c=true then Q true H1 else u σ H1 Q
def zd6 (t:TT):TT:=fun σ H Q=>t σ H fun c H1=>Q (!c) H1
theorem eN (ha:PT X a tA):PW X (.BoolOp .And [a] pos) tA:=by
 intro wh pins s σ H Q I h
 refine isTrue_and (thn (ha pins s σ H Q I h) fun c s1 e=>?_)
 cases c with
 |true=>exact isTrue_and_nil e
 |false=>exact e
theorem nE (ha:PT X a tA):PW X (.BoolOp .Or [a] pos) tA:=by
 intro wh pins s σ H Q I h
 refine isTrue_or (thn (ha pins s σ H Q I h) fun c s1 e=>?_)
 cases c with
 |false=>exact isTrue_or_nil e
 |true=>exact e
theorem cR (ha:PT X a tA)(hb:PW X (.BoolOp .And (b::rest) pos) tB'):PW X (.BoolOp .And (a::b::rest) pos) (zd9 tA tB'):=by
 intro wh pins s σ H Q I h
 refine isTrue_and (thn (ha pins s σ H _ I h) fun c s1 ⟨H1,I1,q1⟩=>?_)
 cases c with
 |true=>exact hb wh pins s1 σ H1 Q I1 q1
 |false=>exact⟨H1,I1,q1⟩
theorem gH (ha:PT X a tA)(hb:PW X (.BoolOp .Or (b::rest) pos) tB'):PW X (.BoolOp .Or (a::b::rest) pos) (tOr tA tB'):=by
 intro wh pins s σ H Q I h
 refine isTrue_or (thn (ha pins s σ H _ I h) fun c s1 ⟨H1,I1,q1⟩=>?_)
 cases c with
 |true=>exact⟨H1,I1,q1⟩
 |false=>exact hb wh pins s1 σ H1 Q I1 q1
theorem iL (ha:PT X a tA):PT X (.UnaryOp .Not a pos) (zd6 tA):=by
 intro pins s σ H Q I h
 exact isTrue_not (ha pins s σ H (fun c H1=>Q (!c) H1) I h)
def zc6 (ta tb:TE):TE:=fun σ H Q=>ta σ H fun x H1=>∃c,x=.bl c∧if c=true then tb σ H1 Q else Q (.bl false) H1
def zd8 (ta tb:TE):TE:=fun σ H Q=>ta σ H fun x H1=>∃c,x=.bl c∧if c=true then Q (.bl true) H1 else tb σ H1 Q
def zc0 (ta:TE):TE:=fun σ H Q=>ta σ H fun x H1=>∃c,x=.bl c∧Q (.bl (!c)) H1
theorem xM {op}{t:TE}(h:PE X a t):PE X (.BoolOp op [a] pos) t:=fun pins s σ H Q I hw=>BoolOp_one (h pins s σ H Q I hw)
theorem xm (ha:PE X a ta)(hb:PE X (.BoolOp .And (b::rest) pos) tb):PE X (.BoolOp .And (a::b::rest) pos) (zc6 ta tb):=by
 intro pins s σ H Q I h
 refine BoolOp_and (thn (ha pins s σ H _ I h) fun v s1 ⟨x,H1,I1,r1,q1⟩=>?_)
 obtain⟨c,rfl,q1⟩:=q1
 cases r1
 refine zl7 ?_
 cases c with
 |true=>exact hb pins s1 σ H1 Q I1 q1
 |false=>exact⟨.bl false,H1,I1,rfl,q1⟩
theorem dR (ha:PE X a ta)(hb:PE X (.BoolOp .Or (b::rest) pos) tb):PE X (.BoolOp .Or (a::b::rest) pos) (zd8 ta tb):=by
 intro pins s σ H Q I h
 refine BoolOp_or (thn (ha pins s σ H _ I h) fun v s1 ⟨x,H1,I1,r1,q1⟩=>?_)
 obtain⟨c,rfl,q1⟩:=q1
 cases r1
 refine zl7 ?_
 cases c with
 |false=>exact hb pins s1 σ H1 Q I1 q1
 |true=>exact⟨.bl true,H1,I1,rfl,q1⟩
theorem bG (ha:PE X a ta):PE X (.UnaryOp .Not a pos) (zc0 ta):=by
 intro pins s σ H Q I h
 refine UnaryOp_ (thn (ha pins s σ H _ I h) fun v s1 ⟨x,H1,I1,r1,q1⟩=>?_)
 obtain⟨c,rfl,q1⟩:=q1
 cases r1
 exact not_of (zl7 ⟨.bl (!c),H1,I1,rfl,q1⟩)
def tIf (t:TT)(ta tb:TE):TE:=fun σ H Q=>t σ H fun c H1=>if c=true then ta σ H1 Q else tb σ H1 Q
theorem jX {c:Expr}(hc:PT X c tA)(ha:PE X a ta)(hb:PE X b tb):PE X (.IfExp c a b pos) (tIf tA ta tb):=by
 intro pins s σ H Q I h
 refine wpAny_IfExp (thn (hc pins s σ H _ I h) fun d s1 ⟨H1,I1,q1⟩=>?_)
 cases d with
 |true=>exact ha pins s1 σ H1 Q I1 q1
 |false=>exact hb pins s1 σ H1 Q I1 q1
end
def SqL (K:PySem.W.Frag)(H:Hp)(a:Addr)(xs:List V):Prop:=
 Rd H a (.lst xs)∨
  ∃(o:Obj) (its:Array Value) (n:Nat),K.lookup a=some o∧o.cls=.type "list"∧o.dict=none∧o.data=.seq its n∧its.size≤sizeLine∧Vals xs its.toList
def SqT (K:PySem.W.Frag)(H:Hp)(a:Addr)(xs:List V):Prop:=
 Rd H a (.tup xs)∨
  ∃(o:Obj) (its:Array Value) (n:Nat),K.lookup a=some o∧o.cls=.type "tuple"∧o.data=.seq its n∧its.size≤sizeLine∧Vals xs its.toList
def ze9 :Value→Option V
 |.none=>some .non
 |.bool b=>some (.bl b)
 |.int i _=>some (.int i)
 |.str x _=>some (.str x)
 |.bytes b _=>some (.byt b)
 |.float b _=>some (.flt b)
 |.ref a=>some (.ref a)
 |.type n=>some (.ty n)
 |_=>none
theorem RelV.abs {x:V}{u:Value}(r:RelV x u):ze9 u=some x:=by
 cases x with
 |non=>cases r;rfl
 |bl _=>cases r;rfl
 |int _=>obtain⟨t,rfl⟩:=r;rfl
 |str _=>obtain⟨t,rfl⟩:=r;rfl
 |byt _=>obtain⟨t,rfl⟩:=r;rfl
 |flt _=>obtain⟨t,rfl⟩:=r;rfl
 |ref _=>cases r;rfl
 |ty _=>cases r;rfl
theorem RelV.inj {x y:V}{u:Value}(r:RelV x u)(q:RelV y u):x=y:=zk0 (r.abs.symm.trans q.abs)
theorem Vals.inj :∀{xs ys:List V} {us:List Value},Vals xs us→Vals ys us→xs=ys
 |_,_,_,.nil,.nil=>rfl
 |_,_,_,.cons r t,.cons r' t'=>by rw[r.inj r',Vals.inj t t']
section
variable {X:Cx}{pins:List (Addr×Obj)}{σ:St}{H:Hp}{s:Shared}{a:Addr}{xs ys:List V}
theorem SqL.of {K:PySem.W.Frag}(h:H a=some (.lst xs)):SqL K H a xs:=.inl (.inl h)
theorem SqT.of {K:PySem.W.Frag}(h:H a=some (.tup xs)):SqT K H a xs:=.inl (.inl h)
theorem Inv.list (I:Inv X pins σ H s)(h:SqL X.K H a xs):∃its:List Value,Vals xs its∧PlainL s.heap a its.toArray∧xs.length≤sizeLine:=by
 rcases h with h|⟨o,its,n,hk,hc,hd,hs,hz,r⟩
 ·obtain⟨z,its,n,r,e⟩:=h.ok I.hok
  exact⟨its,r,⟨_,n,e,rfl,rfl,rfl⟩,z⟩
 ·refine⟨its.toList,r,⟨o,n,I.kIn a o hk,hc,hd,by simpa using hs⟩,?_⟩
  have e:=r.length
  simp only[zl5] at e
  omega
theorem Inv.tuple (I:Inv X pins σ H s)(h:SqT X.K H a xs):∃its:List Value,Vals xs its∧IsTup s.heap a its.toArray∧xs.length≤sizeLine:=by
 rcases h with h|⟨o,its,n,hk,hc,hs,hz,r⟩
 ·obtain⟨z,its,r,p⟩:=h.ok I.hok
  exact⟨its,r,p,z⟩
 ·refine⟨its.toList,r,⟨o,I.kIn a o hk,hc,n,by simpa using hs⟩,?_⟩
  have e:=r.length
  simp only[zl5] at e
  omega
theorem Inv.list_inj (I:Inv X pins σ H s)(h:SqL X.K H a xs)(h':SqL X.K H a ys):xs=ys:=by
 obtain⟨its,r,⟨o,n,e,_,_,d⟩,_⟩:=I.list h
 obtain⟨its',r',⟨o',n',e',_,_,d'⟩,_⟩:=I.list h'
 rw[e] at e';cases e'
 rw[d] at d'
 injection d' with d1 _
 have:its=its':=by simpa using congrArg Array.toList d1
 subst this
 exact r.inj r'
theorem Inv.tuple_inj (I:Inv X pins σ H s)(h:SqT X.K H a xs)(h':SqT X.K H a ys):xs=ys:=by
 obtain⟨its,r,⟨o,e,_,n,d⟩,_⟩:=I.tuple h
 obtain⟨its',r',⟨o',e',_,n',d'⟩,_⟩:=I.tuple h'
 rw[e] at e';cases e'
 rw[d] at d'
 injection d' with d1 _
 have:its=its':=by simpa using congrArg Array.toList d1
 subst this
 exact r.inj r'
end
abbrev Cx.wish (X:Cx)(E:Value→Shared→Prop):Cx:={X with xe:=E}
abbrev Cx.nox (X:Cx):Cx:=X.wish fun _ _=>False
theorem Cx.Ok.wish {X:Cx}(ok:X.Ok)(E:Value→Shared→Prop):(X.wish E).Ok:=
 ⟨ok.mod,ok.kind,ok.glob,ok.blt,ok.above,ok.inj,ok.has,ok.cab,ok.hd,ok.frames,ok.stk,ok.exf,ok.bs,ok.bsz,ok.noex,ok.exfs,ok.funs,ok.frf⟩
theorem Cx.Ok.unwish {X:Cx}{E:Value→Shared→Prop}(ok:(X.wish E).Ok):X.Ok:=
 ⟨ok.mod,ok.kind,ok.glob,ok.blt,ok.above,ok.inj,ok.has,ok.cab,ok.hd,ok.frames,ok.stk,ok.exf,ok.bs,ok.bsz,ok.noex,ok.exfs,ok.funs,ok.frf⟩
section
variable {X:Cx}{pins:List (Addr×Obj)}{σ:St}{H:Hp}{s:Shared}{E:Value→Shared→Prop}
theorem Inv.wish (I:Inv X pins σ H s)(E:Value→Shared→Prop):Inv (X.wish E) pins σ H s:=⟨I.ok.wish E,I.os,I.bare,I.base,I.loc,I.cell,I.free,I.freeC,I.pin,I.hok,I.len⟩
theorem Inv.unwish (I:Inv (X.wish E) pins σ H s):Inv X pins σ H s:=⟨I.ok.unwish,I.os,I.bare,I.base,I.loc,I.cell,I.free,I.freeC,I.pin,I.hok,I.len⟩
theorem SP.unwish {D:Ends}{f:Flow}{s':Shared}(h:SP (X.wish E) pins D f s'):SP X pins D f s':=by
 cases f with
 |next=>obtain⟨σ',H',I,q⟩:=h;exact⟨σ',H',I.unwish,q⟩
 |brk=>obtain⟨σ',H',I,q⟩:=h;exact⟨σ',H',I.unwish,q⟩
 |cont=>obtain⟨σ',H',I,q⟩:=h;exact⟨σ',H',I.unwish,q⟩
 |ret u=>obtain⟨v,σ',H',I,r,q⟩:=h;exact⟨v,σ',H',I.unwish,r,q⟩
theorem PSs.nox {st:List Stmt}{t:TS}(h:PSs X.nox st t):PSs X st t:=fun pins s σ H D I hw=>
 zl6 (h pins s σ H D (I.wish _) hw) (fun _ _ q=>q.unwish) fun _ _ z=>False.elim z
end
section
variable {X:Cx}{st:Stmt}{rest:List Stmt}{t u:TS}{e:Expr}{te:TE}{pos:Pos}
def aC :TS:=fun D σ H=>D.nx σ H
def za2 (t u:TS):TS:=fun D σ H=>t {D with nx:=u D} σ H
theorem yz :PSs X [] aC:=fun _ _ σ H _ I h=>wpAny_execs_nil ⟨σ,H,I,h⟩
theorem zG (h1:PS X st t)(h2:PSs X rest u):PSs X (st::rest) (za2 t u):=by
 intro pins s σ H D I h
 refine wpAny_execs_cons (thn (h1 pins s σ H {D with nx:=u D} I h) fun f s1 q=>?_)
 cases f with
 |next=>
  obtain⟨σ',H',I',q⟩:=q
  exact h2 pins s1 σ' H' D I' q
 |ret v=>exact q
 |brk=>exact q
 |cont=>exact q
theorem zx (h1:PS X st t):PSs X [st] t:=by
 intro pins s σ H D I h
 refine wpAny_execs_cons (thn (h1 pins s σ H D I h) fun f s1 q=>?_)
 cases f with
 |next=>exact wpAny_execs_nil q
 |ret v=>exact q
 |brk=>exact q
 |cont=>exact q
theorem Inv.quiet {pins:List (Addr×Obj)}{σ:St}{H:Hp}{s:Shared}(I:Inv X pins σ H s):interactive X.env=false:=by simp[interactive,I.ok.kind]
def aK (te:TE):TS:=fun D σ H=>te σ H fun _ H1=>D.nx σ H1
theorem uO (he:PE X e te)(hs:swapsWith e none pos.line X.env=pure false:=by rfl):PS X (.Expr e pos) (aK te):=by
 intro pins s σ H D I h
 exact wpAny_Expr_any (thn (he pins s σ H _ I h) fun v s1 ⟨x,H1,I1,r1,q1⟩=>⟨σ,H1,I1,q1⟩) I.quiet hs
def zd1 (te:TE):TS:=fun D σ H=>te σ H D.rt
theorem zC (he:PE X e te):PS X (.Return (some e) pos) (zd1 te):=by
 intro pins s σ H D I h
 exact wpAny_Return_some (thn (he pins s σ H _ I h) fun v s1 ⟨x,H1,I1,r1,q1⟩=>⟨x,σ,H1,I1,r1,q1⟩)
def ze0 (c:TT)(t u:TS):TS:=fun D σ H=>c σ H fun b H1=>if b=true then t D σ H1 else u D σ H1
theorem xR {c:Expr}{a b:List Stmt}{tc:TT}(hc:PT X c tc)(ha:PSs X a t)(hb:PSs X b u):PS X (.If c a b pos) (ze0 tc t u):=by
 intro pins s σ H D I h
 refine wpAny_If (thn (hc pins s σ H _ I h) fun d s1 ⟨H1,I1,q1⟩=>?_)
 cases d with
 |true=>exact ha pins s1 σ H1 D I1 q1
 |false=>exact hb pins s1 σ H1 D I1 q1
end
abbrev TG :=V→St→Hp→(St→Hp→Prop)→Prop
abbrev TGs :=List V→St→Hp→(St→Hp→Prop)→Prop
def PG (X:Cx)(target:Expr)(t:TG):Prop:=
 ∀(pins:List (Addr×Obj)) (s:Shared) (σ:St) (H:Hp) (v:V) (u:Value) (Q:St→Hp→Prop),Inv X pins σ H s→RelV v u→t v σ H Q→
  wpAny (model X.prog X.w) X.A (assign target X.env u) (fun _ s'=>∃σ' H',Inv X pins σ' H' s'∧Q σ' H') X.xe s
def PGs (X:Cx)(ts:List Expr)(t:TGs):Prop:=
 ∀(pins:List (Addr×Obj)) (s:Shared) (σ:St) (H:Hp) (vs:List V) (us:List Value) (Q:St→Hp→Prop),Inv X pins σ H s→Vals vs us→t vs σ H Q→
  wpAny (model X.prog X.w) X.A (assignInOrder ((assignEach ts X.env).map (·.2)) us) (fun _ s'=>∃σ' H',Inv X pins σ' H' s'∧Q σ' H') X.xe s
abbrev bZ :=V→V→V→Hp→(Hp→Prop)→Prop
def aV (X:Cx)(t:bZ):Prop:=
 ∀(pins:List (Addr×Obj)) (s:Shared) (σ:St) (H:Hp) (o i v:V) (ov iv u:Value) (Q:Hp→Prop),Inv X pins σ H s→RelV o ov→RelV i iv→RelV v u→t o i v H Q→
  wpAny (model X.prog X.w) X.A (setItem ov iv u) (fun _ s'=>∃H',Inv X pins σ H' s'∧Q H') X.xe s
section
variable {X:Cx}{pos:Pos}
def oh (i:Nat):TG:=fun v σ H Q=>Q (σ.set i (some v)) H
theorem yr {i:Nat}{x:Str}(hN:X.N.Nodup)(hi:X.N[i]?=some x)(hx:Loc X.env.scope x)(hf:X.fn x=true∨X.env.scope.names.lookup x=some .local:=by first|exact .inl rfl|exact .inr rfl|assumption):PG X (.Name x pos) (oh i):=by
 intro pins s σ H v u Q I r h
 exact wpAny_assign_Name (og I hN hi hx r (fun s' I'=>⟨_,H,I',h⟩) hf)
def fK :TGs:=fun vs σ H Q=>vs=[]∧Q σ H
def rE (t:TG)(u:TGs):TGs:=fun vs σ H Q=>∃v r,vs=v::r∧t v σ H fun σ' H'=>u r σ' H' Q
theorem uW :PGs X [] fK:=by
 intro pins s σ H vs us Q I r h
 obtain⟨e,h⟩:=h
 subst e
 cases r
 exact assignInOrder_nil ⟨σ,H,I,h⟩
theorem yM {e:Expr}{es:List Expr}{t:TG}{u:TGs}(h1:PG X e t)(h2:PGs X es u)
  (hs:(assignEach (e::es) X.env).map (·.2)=assign e X.env::(assignEach es X.env).map (·.2):=by rfl):PGs X (e::es) (rE t u):=by
 intro pins s σ H vs us Q I r h
 obtain⟨v,vr,e1,h⟩:=h
 subst e1
 cases r with
 |cons r rr=>
  rw[hs]
  refine assignInOrder_cons (thn (h1 pins s σ H _ _ _ I r h) fun _ s1 ⟨σ1,H1,I1,q1⟩=>?_)
  exact h2 pins s1 σ1 H1 _ _ Q I1 rr q1
def jG (K:PySem.W.Frag)(n:Nat)(t:TGs):TG:=fun v σ H Q=>∃a xs,v=.ref a∧SqT K H a xs∧xs.length=n∧t xs σ H Q
theorem gO {es:List Expr}{k:Nat}{t:TGs}{n:Nat}(hc:X.calm=true)(h:PGs X es t)
  (hn:(assignEach es X.env).length=n:=by rfl) (hst:(assignEach es X.env).findIdx? (·.1)=none:=by rfl):PG X (.Tuple es k pos) (jG X.K n t):=by
 intro pins s σ H v u Q I r hw
 obtain⟨a,xs,e1,hq,hl,hw⟩:=hw
 subst e1
 cases r
 obtain⟨its,rv,ht,hz⟩:=I.tuple hq
 refine assign_Tuple_tuple (I.ok.hd hc) ht (by simp[hn,←hl,rv.length]) hst fun h' hx=>?_
 have I1:Inv X pins σ H {s with heap:=h'}:=I.kept (t':=s.toks) fun b o e=>hx b o (zi3 (zh7 e)) e
 exact h pins _ σ H xs _ Q I1 (by simpa using rv) hw
def gX (to ti:TE)(t:bZ):TG:=fun v σ H Q=>to σ H fun o H1=>ti σ H1 fun i H2=>t o i v H2 fun H3=>Q σ H3
theorem tT {o i:Expr}{to ti:TE}{t:bZ}(ho:PE X o to)(hi:PE X i ti)(hs:aV X t)
  (ha:∀v,assign (.Subscript o i pos) X.env v=(do
   let ov ←holding [v] (eval o X.env)
   let iv ←holding [v,ov] (eval i X.env)
   standAt pos
   holding [v,ov,iv] (setItem ov iv v)
   release [v,ov,iv] []):=by intro _;rfl):PG X (.Subscript o i pos) (gX to ti t):=by
 intro pins s σ H v u Q I r h
 rw[ha]
 refine zg0 (zo0 (thn (ho pins s σ H _ I h) fun ov s1 ⟨x,H1,I1,r1,q1⟩=>?_))
 refine zg0 (zo0 (thn (hi pins s1 σ H1 _ I1 q1) fun iv s2 ⟨y,H2,I2,r2,q2⟩=>?_))
 refine zg0 (wpAny_standAt (zg0 (zo0 (thn (hs pins s2 σ H2 x y v ov iv u _ I2 r1 r2 r q2) fun _ s3 ⟨H3,I3,q3⟩=>?_))))
 exact wpAny_release ⟨σ,H3,I3,q3⟩
def aM (te:TE)(g:TG):TS:=fun D σ H=>te σ H fun x H1=>g x σ H1 D.nx
theorem tW {tg e:Expr}{te:TE}{g:TG}(he:PE X e te)(hg:PG X tg g)(hs:swapsWithSole [tg] e pos.line X.env=pure false:=by rfl)(hw:swappedStores [tg] e X.env=pure none:=by rfl)
  (h1:(assignEach [tg] X.env).map (·.2)=[assign tg X.env]:=by rfl):PS X (.Assign [tg] e pos) (aM te g):=by
 intro pins s σ H D I h
 refine wpAny_Assign_stores (thn (he pins s σ H _ I h) fun v s1 ⟨x,H1,I1,r1,q1⟩=>?_) hs hw
 rw[h1]
 exact thn (hg pins s1 σ H1 x v _ I1 r1 q1) fun _ s2 q=>q
theorem qT {i:Nat}{x:Str}{e:Expr}{te:TE}{pos':Pos}(hN:X.N.Nodup)(hi:X.N[i]?=some x)(hx:Loc X.env.scope x)(he:PE X e te)(hs:swapsWith e (some (.Name x pos')) pos.line X.env=pure false:=by rfl)(hf:X.fn x=true∨X.env.scope.names.lookup x=some .local:=by first|exact .inl rfl|exact .inr rfl|assumption):
  PS X (.Assign [.Name x pos'] e pos) (aM te (oh i)):=by
 intro pins s σ H D I h
 refine wpAny_Assign_Name (thn (he pins s σ H _ I h) fun v s1 ⟨y,H1,I1,r1,q1⟩=>?_) hs
 exact og I1 hN hi hx r1 (fun s2 I2=>⟨_,H1,I2,q1⟩) hf
end
section
variable {X:Cx}{pos:Pos}
end
structure It where
 go:Nat→Hp→Prop
 yld:Nat→Hp→V→Hp→Prop
 stop:Nat→Hp→Prop
def vW (X:Cx)(pins:List (Addr×Obj))(H:Hp)(b:Addr):Prop:=
 H b=none∧b≠X.env.locals∧b∉X.fs∧(b∈X.ex∨X.s₀.heap.objs.size≤b)∧(∀x c,X.env.cells.lookup x=some c→c≠b)∧∀p∈X.pn++pins,p.1≠b
theorem Inv.fpOk {X:Cx}{pins:List (Addr×Obj)}{σ:St}{H H':Hp}{s:Shared}{b:Addr}(I:Inv X pins σ H s)(hb:s.heap.objs.size≤b)(hn:H' b=none):vW X pins H' b:=by
 refine⟨hn,zv2 (zj3 I.lt hb),I.nofs hb,.inr (zk7 I.sz hb),fun x c e z=>?_,fun p hp z=>?_⟩
 ·obtain⟨v,q⟩:=I.cell x c e
  exact absurd (zj3 q.lt (by rw[z];exact hb)) (zr5 _)
 ·exact absurd (zj3 (zh7 (I.pin p hp).1) (by rw[z];exact hb)) (zr5 _)
structure Turn (P:Program)(w:World)(K:PySem.W.Frag)(tg:Expr)(J:It)(fp:List Addr)(it:Addr)(tn:Nat→Heap→Prop):Prop where
 mem:it∈fp
 obj:∀i h,tn i h→∀b∈fp,∃o,h.get? b=some o∧∀v,o.data≠.cell v
 keep:∀i h h',tn i h→(∀b∈fp,∀o,h.get? b=some o→h'.get? b=some o)→tn i h'
 item:∀(X:Cx),X.prog=P→X.w=w→X.K=K→X.calm=true→∀(i:Nat) (pins:List (Addr×Obj)) (s:Shared) (σ:St) (H:Hp) (E:Value→Shared→Prop),Inv X pins σ H s→(∀b∈fp,vW X pins H b)→tn i s.heap→J.go i H→
  wpAny (model P w) X.A (pyNext (.ref it)) (fun r s1=>∃u,r=some u∧
   wpAny (model P w) X.A (letOwnedTupleGo tg (.ref it) u) (fun _ s2=>∃x H',Inv X pins σ H' s2∧RelV x u∧J.yld i H x H'∧tn (i+1) s2.heap∧∀b∈fp,H' b=none) E s1) E s
 done:∀(X:Cx),X.prog=P→X.w=w→X.K=K→X.calm=true→∀(i:Nat) (pins:List (Addr×Obj)) (s:Shared) (σ:St) (H:Hp) (E:Value→Shared→Prop),Inv X pins σ H s→(∀b∈fp,vW X pins H b)→tn i s.heap→J.stop i H→
  wpAny (model P w) X.A (pyNext (.ref it)) (fun r s1=>r=none∧Inv X pins σ H s1) E s
 self:∀(A:Around) (i:Nat) (s:Shared) (Q:Value→Shared→Prop) (E:Value→Shared→Prop),tn i s.heap→Q (.ref it) s→wpAny (model P w) A (pyIter (.ref it)) Q E s
abbrev TI :=St→Hp→(It→Hp→Prop)→Prop
def PIE (X:Cx)(pins:List (Addr×Obj))(σ:St)(tg:Expr)(R:It→Hp→Prop)(itv:Value)(s2:Shared):Prop:=
 ∃(it:Addr) (fp:List Addr) (tn:Nat→Heap→Prop) (J:It) (H':Hp),itv=.ref it∧Inv X pins σ H' s2∧Turn X.prog X.w X.K tg J fp it tn∧tn 0 s2.heap∧(∀b∈fp,vW X pins H' b)∧R J H'
def PI (X:Cx)(tg iter:Expr)(wi:TI):Prop:=
 ∀(pins:List (Addr×Obj)) (s:Shared) (σ:St) (H:Hp) (R:It→Hp→Prop),Inv X pins σ H s→wi σ H R→
  wpAny (model X.prog X.w) X.A (eval iter X.env) (fun v s1=>wpAny (model X.prog X.w) X.A (pyIter v) (PIE X pins σ tg R) X.xe s1) X.xe s
theorem pZ {M:Model}{A:Around}{E:Value→Shared→Prop}{s:Shared}{tg:Expr}{it:Addr}{u:Value}{o:Obj}{n:String}{vs:Array Value}{Q:Unit→Shared→Prop}(ho:s.heap.get? it=some o)(hc:o.cls=.type n)(hd:o.data=.fields vs)
  (hn:["enumerate","zip","dict_itemiterator","dict_reverseitemiterator","odict_iterator","itertools.zip_longest","itertools.pairwise"].contains n=false) (hQ:Q () s):wpAny M A (letOwnedTupleGo tg (.ref it) u) Q E s:=by
 unfold letOwnedTupleGo
 cases tg<;>first
  |exact zg4 hQ
  |(cases u<;>first
    |exact zg4 hQ
    |(refine zg0 (wpAny_load ho ?_)
      rw[hc,hd]
      show wpAny M A (if (["enumerate","zip","dict_itemiterator","dict_reverseitemiterator","odict_iterator","itertools.zip_longest","itertools.pairwise"].contains n&&vs[0]? == some (rawInt _))=true then _ else _) Q E s
      rw[if_neg (by intro h;rw[hn,zl8] at h;cases h)]
      exact zg4 hQ))
def Itl (K:PySem.W.Frag)(a:Addr):It:=
 ⟨fun i H=>∃xs x,SqL K H a xs∧xs[i]?=some x,fun i H x H'=>H'=H∧∀xs,SqL K H a xs→xs[i]?=some x,fun i H=>∃xs,SqL K H a xs∧xs.length≤i⟩
def Itt (K:PySem.W.Frag)(a:Addr):It:=
 ⟨fun i H=>∃xs x,SqT K H a xs∧xs[i]?=some x,fun i H x H'=>H'=H∧∀xs,SqT K H a xs→xs[i]?=some x,fun i H=>∃xs,SqT K H a xs∧xs.length≤i⟩
def Itr (lo:Int)(n:Nat):It:=⟨fun i _=>i<n,fun i H x H'=>H'=H∧x=.int (lo+i),fun i _=>n≤i⟩
theorem lW {P:Program}{w:World}{K:PySem.W.Frag}{tg:Expr}(a it:Addr):Turn P w K tg (Itl K a) [it] it (fun i h=>h.IsListIter it a i) where
 mem:=by simp
 obj:=fun i h st b hb=>by
  have e:b=it:=by simpa using hb
  subst e
  obtain⟨o,e,c,d⟩:=st
  exact⟨o,e,fun v z=>by rw[d] at z;cases z⟩
 keep:=fun i h h' st k=>st.at fun o e=>k it (by simp) o e
 item:=by
  intro X hP hw hK hc i pins s σ H E I hf st hg
  subst hP hw hK
  obtain⟨xs,x,hq,hx⟩:=hg
  obtain⟨its,rv,p,hz⟩:=I.list hq
  obtain⟨u,hu,ru⟩:=rv.get hx
  obtain⟨f0,f1,f2,f3,f4,f5⟩:=hf it (by simp)
  refine wpAny_pyNext_list_item st p.isList (x:=u) (by simpa using hu) fun h' st' sb=>?_
  have I1:Inv X pins σ H {s with heap:=h'}:=I.turned (t':=s.toks) (fun b o hb e=>(sb.2 b hb).trans e) f0 f1 f3 f4 f5
  obtain⟨o,e,c,d⟩:=id st'
  exact⟨u,rfl,pZ (s:={s with heap:=h'}) e c d (by decide) ⟨x,H,I1,ru,⟨rfl,fun ys hy=>by rw[I.list_inj hy hq];exact hx⟩,st',fun b hb=>(hf b hb).1⟩⟩
 done:=by
  intro X hP hw hK hc i pins s σ H E I hf st hg
  subst hP hw hK
  obtain⟨xs,hq,hx⟩:=hg
  obtain⟨its,rv,p,hz⟩:=I.list hq
  obtain⟨f0,f1,f2,f3,f4,f5⟩:=hf it (by simp)
  have hl:=rv.length
  exact wpAny_pyNext_list_end (I.ok.hd hc) st p.isList (by simp;omega) fun h' eb=>⟨rfl,I.turned (t':=s.toks) (fun b o hb e=>eb b o hb e) f0 f1 f3 f4 f5⟩
 self:=fun _ _ _ _ _ st h=>wpAny_pyIter_listiter st h
theorem ni {P:Program}{w:World}{K:PySem.W.Frag}{tg:Expr}(a it:Addr):Turn P w K tg (Itt K a) [it] it (fun i h=>h.IsTupleIter it a i) where
 mem:=by simp
 obj:=fun i h st b hb=>by
  have e:b=it:=by simpa using hb
  subst e
  obtain⟨o,e,c,d⟩:=st
  exact⟨o,e,fun v z=>by rw[d] at z;cases z⟩
 keep:=fun i h h' st k=>st.at fun o e=>k it (by simp) o e
 item:=by
  intro X hP hw hK hc i pins s σ H E I hf st hg
  subst hP hw hK
  obtain⟨xs,x,hq,hx⟩:=hg
  obtain⟨its,rv,p,hz⟩:=I.tuple hq
  obtain⟨u,hu,ru⟩:=rv.get hx
  obtain⟨f0,f1,f2,f3,f4,f5⟩:=hf it (by simp)
  refine wpAny_pyNext_tuple_item st (show s.heap.IsTuple a its.toArray from p) (x:=u) (by simpa using hu) fun h' st' sb=>?_
  have I1:Inv X pins σ H {s with heap:=h'}:=I.turned (t':=s.toks) (fun b o hb e=>(sb.2 b hb).trans e) f0 f1 f3 f4 f5
  obtain⟨o,e,c,d⟩:=id st'
  exact⟨u,rfl,pZ (s:={s with heap:=h'}) e c d (by decide) ⟨x,H,I1,ru,⟨rfl,fun ys hy=>by rw[I.tuple_inj hy hq];exact hx⟩,st',fun b hb=>(hf b hb).1⟩⟩
 done:=by
  intro X hP hw hK hc i pins s σ H E I hf st hg
  subst hP hw hK
  obtain⟨xs,hq,hx⟩:=hg
  obtain⟨its,rv,p,hz⟩:=I.tuple hq
  obtain⟨f0,f1,f2,f3,f4,f5⟩:=hf it (by simp)
  have hl:=rv.length
  exact wpAny_pyNext_tuple_end (I.ok.hd hc) st (show s.heap.IsTuple a its.toArray from p) (by simp;omega) fun h' eb=>⟨rfl,I.turned (t':=s.toks) (fun b o hb e=>eb b o hb e) f0 f1 f3 f4 f5⟩
 self:=fun _ _ _ _ _ st h=>wpAny_pyIter_tupleiter st h
theorem nX {P:Program}{w:World}{K:PySem.W.Frag}{tg:Expr}(it:Addr)(lo:Int)(n:Nat):Turn P w K tg (Itr lo n) [it] it (fun i h=>IsRangeIter h it (lo+(i:Nat)*1) ((n:Int)-(i:Nat)) 1) where
 mem:=by simp
 obj:=fun i h st b hb=>by
  have e:b=it:=by simpa using hb
  subst e
  exact⟨_,st,fun v z=>by
   have z':Data.fields _=Data.cell v:=z
   cases z'⟩
 keep:=fun i h h' st k=>k it (by simp) _ st
 item:=by
  intro X hP hw hK hc i pins s σ H E I hf st hg
  subst hP hw hK
  obtain⟨f0,f1,f2,f3,f4,f5⟩:=hf it (by simp)
  have W:=Walks.range (prog:=X.prog) (w:=X.w) (I.ok.hd hc) it lo 1 n
  refine W.item i s _ _ hg st fun v h' tk hv st' kk=>?_
  obtain⟨t,rfl⟩:=hv
  have I1:Inv X pins σ H {s with heap:=h',toks:=tk}:=I.turned (fun b o hb e=>kk b o (by simpa using hb) e) f0 f1 f3 f4 f5
  refine⟨_,rfl,pZ (s:={s with heap:=h',toks:=tk}) (n:="range_iterator") st' rfl rfl (by decide) ⟨.int (lo+i),H,I1,⟨t,?_⟩,⟨rfl,rfl⟩,st',fun b hb=>(hf b hb).1⟩⟩
  rw[Int.mul_one]
 done:=by
  intro X hP hw hK hc i pins s σ H E I hf st hg
  subst hP hw hK
  obtain⟨f0,f1,f2,f3,f4,f5⟩:=hf it (by simp)
  exact wpAny_pyNext_range_end (I.ok.hd hc) st (by have:n≤i:=hg;omega) fun h' eb=>⟨rfl,I.turned (t':=s.toks) (fun b o hb e=>eb b o hb e) f0 f1 f3 f4 f5⟩
 self:=fun _ _ _ _ _ st h=>wpAny_pyIter_rangeiter st h
section
variable {X:Cx}{tg:Expr}
def zb1 (K:PySem.W.Frag)(tl:TE):TI:=fun σ H R=>tl σ H fun x H1=>∃a,x=.ref a∧(∃xs,SqL K H1 a xs)∧R (Itl K a) H1
def zd3 (K:PySem.W.Frag)(tl:TE):TI:=fun σ H R=>tl σ H fun x H1=>∃a,x=.ref a∧(∃xs,SqT K H1 a xs)∧R (Itt K a) H1
theorem my {l:Expr}{tl:TE}(hl:PE X l tl):PI X tg l (zb1 X.K tl):=by
 intro pins s σ H R I h
 refine thn (hl pins s σ H _ I h) fun v s1 ⟨x,H1,I1,r1,q1⟩=>?_
 obtain⟨a,e,⟨xs,hq⟩,q⟩:=q1
 subst e
 cases r1
 obtain⟨its,rv,p,hz⟩:=I1.list hq
 refine wpAny_pyIter_list p.isList ?_
 refine⟨s1.heap.objs.size,[s1.heap.objs.size],_,_,H1,rfl,I1.kept (t':=s1.toks) fun b o e=>zg8 _ e,lW a _,⟨_,zh9 _ rfl,rfl,rfl⟩,fun b hb=>?_,q⟩
 have e:b=s1.heap.objs.size:=by simpa using hb
 subst e
 exact I1.fpOk (zg5 _) (I1.hok.fresh (zg5 _))
theorem bo {l:Expr}{tl:TE}(hl:PE X l tl):PI X tg l (zd3 X.K tl):=by
 intro pins s σ H R I h
 refine thn (hl pins s σ H _ I h) fun v s1 ⟨x,H1,I1,r1,q1⟩=>?_
 obtain⟨a,e,⟨xs,hq⟩,q⟩:=q1
 subst e
 cases r1
 obtain⟨its,rv,p,hz⟩:=I1.tuple hq
 refine wpAny_pyIter_tuple (show s1.heap.IsTuple a its.toArray from p) ?_
 refine⟨s1.heap.objs.size,[s1.heap.objs.size],_,_,H1,rfl,I1.kept (t':=s1.toks) fun b o e=>zg8 _ e,ni a _,⟨_,zh9 _ rfl,rfl,rfl⟩,fun b hb=>?_,q⟩
 have e:b=s1.heap.objs.size:=by simpa using hb
 subst e
 exact I1.fpOk (zg5 _) (I1.hok.fresh (zg5 _))
theorem iW {pins:List (Addr×Obj)}{σ:St}{H:Hp}{s:Shared}{R:It→Hp→Prop}{E:Value→Shared→Prop}{lo hi:Int}{t u v:Tok}{tk:Nat}(I:Inv X pins σ H s)(h1:-(2 ^ 62)≤lo)(h2:lo<2 ^ 62)(h3:-(2 ^ 62)≤hi)(h4:hi<2 ^ 62)
  (q:R (Itr lo (hi-lo).toNat) H):wpAny (model X.prog X.w) X.A (pyIter (.ref s.heap.objs.size)) (PIE X pins σ tg R) E {s with heap:=s.heap.push {cls:=.type "range",data:=.fields #[.int lo t,.int hi u,.int 1 v]},toks:=tk}:=by
 refine wpAny_pyIter_range (IsRange.new ..) (small_one h1 h2 h3 h4) ?_
 have I1:Inv X pins σ H {s with heap:=s.heap.push {cls:=.type "range",data:=.fields #[.int lo t,.int hi u,.int 1 v]},toks:=tk}:=I.kept fun b o e=>zg8 _ e
 refine⟨(s.heap.push {cls:=.type "range",data:=.fields #[.int lo t,.int hi u,.int 1 v]}).objs.size,[(s.heap.push {cls:=.type "range",data:=.fields #[.int lo t,.int hi u,.int 1 v]}).objs.size],_,_,H,rfl,
  I1.kept (t':=tk) fun b o e=>zg8 _ e,nX _ lo (hi-lo).toNat,?_,fun b hb=>?_,q⟩
 ·have e1:lo+((0:Nat):Int)*1=lo:=by simp
  have e2:(((hi-lo).toNat:Nat):Int)-((0:Nat):Int)=Builtin.Range.rangeSize lo hi 1:=by rw[rangeSize_one];split<;>omega
  show IsRangeIter _ _ (lo+((0:Nat):Int)*1) ((((hi-lo).toNat:Nat):Int)-((0:Nat):Int)) 1
  rw[e1,e2]
  exact zh9 _ rfl
 ·have e:b=(s.heap.push {cls:=.type "range",data:=.fields #[.int lo t,.int hi u,.int 1 v]}).objs.size:=by simpa using hb
  subst e
  exact I1.fpOk (zg5 _) (I1.hok.fresh (zg5 _))
def aH (ta:TA):TI:=fun σ H R=>ta σ H fun vs H1=>∃j:Int,vs=[.int j]∧-(2 ^ 62)≤j∧j<2 ^ 62∧R (Itr 0 j.toNat) H1
theorem lY {a:Expr}{ta:TA}{p pos:Pos}(hg:Gl X "range")(hm:X.mg "range"=none)(ha:PA X [a] ta)(hs:starEach [a] X.env=[(false,eval a X.env)]:=by rfl):PI X tg (.Call (.Name "range" p) [a] [] pos) (aH ta):=by
 intro pins s σ H R I h
 refine Call_ (vZ I hg hm boot_range (zp9 (thn (ha pos pins s σ H _ I h) fun us s1 ⟨vs,H1,I1,r1,q1⟩=>?_) hs rfl))
 obtain⟨j,e,q1,q2,q⟩:=q1
 subst e
 cases r1 with
 |cons r rr=>
  cases rr
  obtain⟨t,rfl⟩:=r
  exact call_range_1 (iW I1 (by omega) (by omega) q1 q2 (by simpa using q))
def zf9 (wi:TI)(g:TG)(tb:TS):TS:=fun D σ H=>wi σ H fun J H1=>∃W:Nat→Nat→St→Hp→Prop,(∃m,W 0 m σ H1)∧∀i m σ H,W i m σ H→
 (J.stop i H∧D.nx σ H)∨(J.go i H∧∃N:St→Hp→Prop,(∀σ' H',N σ' H'→∃m',m'<m∧W (i+1) m' σ' H')∧∀x H',J.yld i H x H'→g x σ H' fun σ2 H2=>tb {D with nx:=N,ct:=N,bk:=D.nx} σ2 H2)
def tU (fp:List Addr)(h:Heap):List (Addr×Obj):=fp.filterMap fun b=>(h.get? b).map fun o=>(b,o)
theorem wm {fp:List Addr}{h:Heap}{b:Addr}{o:Obj}(hb:b∈fp)(e:h.get? b=some o):(b,o)∈tU fp h:=List.mem_filterMap.mpr ⟨b,hb,by rw[e];rfl⟩
theorem kB {fp:List Addr}{h:Heap}{p:Addr×Obj}(hp:p∈tU fp h):p.1∈fp∧h.get? p.1=some p.2:=by
 obtain⟨b,hb,e⟩:=List.mem_filterMap.mp hp
 cases q:h.get? b with
 |none=>rw[q] at e;cases e
 |some o=>
  rw[q] at e
  have e':(b,o)=p:=zk0 e
  subst e'
  exact⟨hb,q⟩
theorem Inv.pinned {pins:List (Addr×Obj)}{σ:St}{H:Hp}{s:Shared}{fp:List Addr}(I:Inv X pins σ H s)(hf:∀b∈fp,vW X pins H b)(ho:∀b∈fp,∃o,s.heap.get? b=some o∧∀v,o.data≠.cell v):Inv X (pins++tU fp s.heap) σ H s:=
 I.pins_of fun p hp=>(zi0.mp hp).elim (fun z=>I.pin p (zh2 _ z)) fun z=>by
  obtain⟨hb,e⟩:=kB z
  obtain⟨f0,f1,f2,_⟩:=hf p.1 hb
  obtain⟨o,e',d⟩:=ho p.1 hb
  rw[e] at e';cases e'
  exact⟨e,f0,f1,f2,d⟩
theorem Inv.unpinned {pins pl:List (Addr×Obj)}{σ:St}{H:Hp}{s:Shared}(I:Inv X (pins++pl) σ H s):Inv X pins σ H s:=I.pins_of fun p hp=>I.pin p (zh2 _ (zh8 _ hp))
theorem gc {iter:Expr}{body:List Stmt}{wi:TI}{g:TG}{tb:TS}{pos:Pos}(hp:PassesOwn (model X.prog X.w) X.A X.env X.xe)(hc:X.calm=true)(hi:PI X tg iter wi)(hg:PG X tg g)(hb:PSs X body tb)
  (hs:∀x,foldedSetIterable iter X.env x=pure x:=by intro _;rfl):PS X (.For tg iter body [] pos) (zf9 wi g tb):=by
 intro pins s σ H D I h
 refine wpAny_For (thn (hi pins s σ H _ I h) fun v s1 h1=>thn h1 fun itv s2 h2=>?_) hs
 obtain⟨it,fp,tn,J,H2,e,I2,T,st2,f2,W,⟨m0,w0⟩,turn⟩:=h2
 subst e
 -- what stays true of the iterator's objects through the loop
 have stat:∀{H':Hp},(∀b∈fp,H' b=none)→∀b∈fp,vW X pins H' b:=fun hn b hb=>⟨hn b hb,(f2 b hb).2⟩
 refine codeAny_forLoop_any (fun n s'=>∃i σ' H',Inv X pins σ' H' s'∧tn i s'.heap∧(∀b∈fp,H' b=none)∧W i n σ' H') ?_ m0 ⟨0,σ,H2,I2,st2,fun b hb=>(f2 b hb).1,w0⟩
 rintro n s3 ⟨i,σ3,H3,I3,st3,fr3,w3⟩
 rcases turn i n σ3 H3 w3 with ⟨stop,qn⟩|⟨go,N,hN,step⟩
 ·refine zt3 hp (thn (T.done X rfl rfl rfl hc i pins s3 σ3 H3 X.xe I3 (stat fr3) st3 stop) fun r s4 ⟨hr,I4⟩=>?_)
  subst hr
  exact wpAny_execs_nil ⟨σ3,H3,I4,qn⟩
 ·refine zt3 hp (thn (T.item X rfl rfl rfl hc i pins s3 σ3 H3 X.xe I3 (stat fr3) st3 go) fun r s4 ⟨u,hr,h4⟩=>?_)
  subst hr
  refine zt3 hp (thn h4 fun _ s5 ⟨x,H5,I5,r5,y5,st5,fr5⟩=>?_)
  have I5':=I5.pinned (stat fr5) (T.obj _ _ st5)
  refine zt3 hp (thn (hg _ s5 σ3 H5 x u _ I5' r5 (step x H5 y5)) fun _ s6 ⟨σ6,H6,I6,q6⟩=>?_)
  refine zt3 hp (thn (hb _ s6 σ6 H6 _ I6 q6) fun f s7 q7=>?_)
  have again:∀{σ7:St} {H7:Hp},Inv X (pins++tU fp s5.heap) σ7 H7 s7→N σ7 H7→∃m,m<n∧∃i σ' H',Inv X pins σ' H' s7∧tn i s7.heap∧(∀b∈fp,H' b=none)∧W i m σ' H':=fun {σ7 H7} I7 n7=>by
   obtain⟨m',hm,w7⟩:=hN σ7 H7 n7
   refine⟨m',hm,i+1,σ7,H7,I7.unpinned,T.keep _ _ _ st5 fun b hb o e=>(I7.pin (b,o) (zh2 _ (zh2 _ (wm hb e)))).1,fun b hb=>?_,w7⟩
   obtain⟨o,e,d⟩:=T.obj _ _ st5 b hb
   exact (I7.pin (b,o) (zh2 _ (zh2 _ (wm hb e)))).2.1
  cases f with
  |next=>obtain⟨σ7,H7,I7,n7⟩:=q7;exact again I7 n7
  |cont=>obtain⟨σ7,H7,I7,n7⟩:=q7;exact again I7 n7
  |brk=>obtain⟨σ7,H7,I7,q7⟩:=q7;exact⟨σ7,H7,I7.unpinned,q7⟩
  |ret v=>obtain⟨x7,σ7,H7,I7,r7,q7⟩:=q7;exact⟨x7,σ7,H7,I7.unpinned,r7,q7⟩
end
abbrev R2 :=V→V→Hp→VK→Prop
def OpR (X:Cx)(f:Value→Value→Sem Value)(r:R2):Prop:=
 ∀(pins:List (Addr×Obj)) (s:Shared) (σ:St) (H:Hp) (x y:V) (v u:Value) (Q:VK),Inv X pins σ H s→RelV x v→RelV y u→r x y H Q→
  wpAny (model X.prog X.w) X.A (f v u) (EP X pins σ Q) X.xe s
def UnR (X:Cx)(f:Value→Sem Value)(r:V→Hp→VK→Prop):Prop:=
 ∀(pins:List (Addr×Obj)) (s:Shared) (σ:St) (H:Hp) (x:V) (v:Value) (Q:VK),Inv X pins σ H s→RelV x v→r x H Q→
  wpAny (model X.prog X.w) X.A (f v) (EP X pins σ Q) X.xe s
def wt (X:Cx)(f:Value)(r:List V→Hp→VK→Prop):Prop:=
 ∀(pins:List (Addr×Obj)) (s:Shared) (σ:St) (H:Hp) (xs:List V) (us:List Value) (Q:VK),Inv X pins σ H s→Vals xs us→r xs H Q→
  wpAny (model X.prog X.w) X.A (call f us) (EP X pins σ Q) X.xe s
def zf6 (X:Cx)(r:V→Hp→(Bool→Hp→Prop)→Prop):Prop:=
 ∀(pins:List (Addr×Obj)) (s:Shared) (σ:St) (H:Hp) (x:V) (v:Value) (Q:Bool→Hp→Prop),Inv X pins σ H s→RelV x v→r x H Q→
  wpAny (model X.prog X.w) X.A (truthy v) (TP X pins σ Q) X.xe s
def tOp (r:R2)(ta tb:TE):TE:=fun σ H Q=>ta σ H fun x H1=>tb σ H1 fun y H2=>r x y H2 Q
def tUn (r:V→Hp→VK→Prop)(ta:TE):TE:=fun σ H Q=>ta σ H fun x H1=>r x H1 Q
def rI (C:Int→Int→Prop)(g:Int→Int→V):R2:=fun x y H Q=>∃i j,x=.int i∧y=.int j∧C i j∧Q (g i j) H
def rI0 (g:Int→Int→V):R2:=fun x y H Q=>∃i j,x=.int i∧y=.int j∧Q (g i j) H
def rU (g:Int→V):V→Hp→VK→Prop:=fun x H Q=>∃i,x=.int i∧Q (g i) H
section
variable {X:Cx}{a b c:Expr}{ta tb tc:TE}{pos:Pos}
theorem cS (ha:PE X a ta)(hb:PE X b tb){pins:List (Addr×Obj)}{s:Shared}{σ:St}{H:Hp}{R:V→V→Hp→Prop}(I:Inv X pins σ H s)
  (h:ta σ H fun x H1=>tb σ H1 fun y H2=>R x y H2) {Q:Value→Shared→Prop} {f:Value→Value→Sem Value}
  (hf:∀v u s2 x y H2,Inv X pins σ H2 s2→RelV x v→RelV y u→R x y H2→wpAny (model X.prog X.w) X.A (f v u) Q X.xe s2):
  wpAny (model X.prog X.w) X.A (eval a X.env) (fun v s₁=>wpAny (model X.prog X.w) X.A (eval b X.env) (fun u s₂=>wpAny (model X.prog X.w) X.A (f v u) Q X.xe s₂) X.xe s₁) X.xe s:=by
 refine thn (ha pins s σ H _ I h) fun v s1 ⟨x,H1,I1,r1,q1⟩=>?_
 refine thn (hb pins s1 σ H1 _ I1 q1) fun u s2 ⟨y,H2,I2,r2,q2⟩=>?_
 exact hf v u s2 x y H2 I2 r1 r2 q2
theorem yQ {op:Operator}{r:R2}(ho:OpR X (binaryOp op) r)(ha:PE X a ta)(hb:PE X b tb):PE X (.BinOp a op b pos) (tOp r ta tb):=by
 intro pins s σ H Q I h
 exact wpAny_BinOp (cS ha hb I h fun v u s2 x y H2 I2 rx ry q=>ho pins s2 σ H2 x y v u Q I2 rx ry q)
theorem aQ {op:UnaryOp}{r:V→Hp→VK→Prop}(ho:UnR X (unaryOp op) r)(ha:PE X a ta):PE X (.UnaryOp op a pos) (tUn r ta):=by
 intro pins s σ H Q I h
 exact UnaryOp_ (thn (ha pins s σ H _ I h) fun v s1 ⟨x,H1,I1,r1,q1⟩=>ho pins s1 σ H1 x v Q I1 r1 q1)
theorem opI {f:Value→Value→Sem Value}{C:Int→Int→Prop}{g:Int→Int→Int}
  (rule:∀(i j:Int) (t u:Tok) (s:Shared) (Q:Value→Shared→Prop) (E:Value→Shared→Prop),C i j→Q (.int (g i j) s.toks) {s with toks:=s.toks+1}→wpAny (model X.prog X.w) X.A (f (.int i t) (.int j u)) Q E s):
  OpR X f (rI C fun i j=>.int (g i j)):=by
 intro pins s σ H x y v u Q I rx ry h
 obtain⟨i,j,rfl,rfl,hc,q⟩:=h
 obtain⟨t,rfl⟩:=rx
 obtain⟨t',rfl⟩:=ry
 exact rule i j t t' s _ _ hc ⟨.int (g i j),H,I.tok _,⟨_,rfl⟩,q⟩
theorem aZ {f:Value→Value→Sem Value}{g:Int→Int→Int}
  (rule:∀(i j:Int) (t u:Tok) (s:Shared) (Q:Value→Shared→Prop) (E:Value→Shared→Prop),Q (.int (g i j) s.toks) {s with toks:=s.toks+1}→wpAny (model X.prog X.w) X.A (f (.int i t) (.int j u)) Q E s):
  OpR X f (rI0 fun i j=>.int (g i j)):=by
 intro pins s σ H x y v u Q I rx ry h
 obtain⟨i,j,rfl,rfl,q⟩:=h
 obtain⟨t,rfl⟩:=rx
 obtain⟨t',rfl⟩:=ry
 exact rule i j t t' s _ _ ⟨.int (g i j),H,I.tok _,⟨_,rfl⟩,q⟩
theorem eG {f:Value→Value→Sem Value}{g:Int→Int→Bool}
  (rule:∀(i j:Int) (t u:Tok) (s:Shared) (Q:Value→Shared→Prop) (E:Value→Shared→Prop),Q (.bool (g i j)) s→wpAny (model X.prog X.w) X.A (f (.int i t) (.int j u)) Q E s):
  OpR X f (rI0 fun i j=>.bl (g i j)):=by
 intro pins s σ H x y v u Q I rx ry h
 obtain⟨i,j,rfl,rfl,q⟩:=h
 obtain⟨t,rfl⟩:=rx
 obtain⟨t',rfl⟩:=ry
 exact rule i j t t' s _ _ ⟨.bl (g i j),H,I,rfl,q⟩
def bV (i j:Int):Prop:=0≤j∧j≤1000000∧i.natAbs<2 ^ 64
def fY (i j:Int):Prop:=(-(2 ^ 64)<i∧i<2 ^ 64)∨(-(2 ^ 64)<j∧j<2 ^ 64)
theorem fY.ok {i j:Int}(h:fY i j):IntMulOk i j:=by
 rcases h with ⟨h1,h2⟩|⟨h1,h2⟩
 ·exact .of_left (intBits_le_64 h1 h2)
 ·exact .of_right (intBits_le_64 h1 h2)
theorem qR :OpR X (binaryOp .Add) (rI0 fun i j=>.int (i+j)):=aZ fun _ _ _ _ _ _ _ q=>add_int q
theorem jU :OpR X (binaryOp .Sub) (rI0 fun i j=>.int (i-j)):=aZ fun _ _ _ _ _ _ _ q=>sub_int q
theorem rR :OpR X (binaryOp .Mult) (rI fY fun i j=>.int (i*j)):=opI fun _ _ _ _ _ _ _ hc q=>mul_int q hc.ok
theorem sF :OpR X (binaryOp .Mod) (rI (fun _ j=>0<j) fun i j=>.int (i % j)):=opI fun i j _ _ _ _ _ hc q=>by
 have h1:(0:Int)<j:=hc
 exact mod_int' (by omega) (by rw[Int.fmod_eq_emod_of_nonneg i (by omega)];exact q)
theorem ax :OpR X (binaryOp .Pow) (rI bV fun i j=>.int (i ^ j.toNat)):=opI fun _ _ _ _ _ _ _ hc q=>pow_int_small hc.1 hc.2.1 hc.2.2 q
theorem unI {f:Value→Sem Value}{g:Int→Int}
  (rule:∀(i:Int) (t:Tok) (s:Shared) (Q:Value→Shared→Prop) (E:Value→Shared→Prop),Q (.int (g i) s.toks) {s with toks:=s.toks+1}→wpAny (model X.prog X.w) X.A (f (.int i t)) Q E s):
  UnR X f (rU fun i=>.int (g i)):=by
 intro pins s σ H x v Q I rx h
 obtain⟨i,rfl,q⟩:=h
 obtain⟨t,rfl⟩:=rx
 exact rule i t s _ _ ⟨.int (g i),H,I.tok _,⟨_,rfl⟩,q⟩
theorem bf :UnR X (unaryOp .USub) (rU fun i=>.int (-i)):=unI fun _ _ _ _ _ q=>neg_int q
end
def zb6 :V→V→Bool
 |.non,.non=>true|.non,.int _=>true|.int _,.non=>true|.non,.bl _=>true|.bl _,.non=>true|.non,.str _=>true|.str _,.non=>true
 |.int _,.int _=>true|.bl _,.bl _=>true|.str _,.str _=>true|.byt _,.byt _=>true
 |.int _,.str _=>true|.str _,.int _=>true|.bl _,.str _=>true|.str _,.bl _=>true
 |_,_=>false
def rEq :R2:=fun x y H Q=>zb6 x y=true∧Q (.bl (decide (x=y))) H
def rNe :R2:=fun x y H Q=>zb6 x y=true∧Q (.bl (!decide (x=y))) H
theorem mW {i j:Int}:decide (V.int i=V.int j)=(i == j):=by
 rw[zv3]
 simp
theorem jy {i j:Bool}:decide (V.bl i=V.bl j)=(i == j):=by
 rw[zv3]
 simp
theorem mK {i j:Str}:decide (V.str i=V.str j)=(i == j):=by
 rw[zv3]
 simp
theorem mH {i j:Array UInt8}:decide (V.byt i=V.byt j)=(i.toList == j.toList):=by
 rw[zv3]
 cases i
 cases j
 simp
section
variable {X:Cx}{a b c:Expr}{ta tb tc:TE}{pos:Pos}
theorem zF {pins:List (Addr×Obj)}{σ:St}{H:Hp}{s:Shared}{Q:VK}{k k':Bool}(I:Inv X pins σ H s)(q:Q (.bl k) H)(e:k=k'):EP X pins σ Q (.bool k') s:=by
 subst e
 exact⟨.bl k,H,I,rfl,q⟩
theorem wu :OpR X (compareOp .Eq) rEq:=by
 intro pins s σ H x y v u Q I rx ry h
 obtain⟨hs,q⟩:=h
 cases x with
 |non=>
  cases rx
  cases y with
  |non=>cases ry;exact PySem.EqNone.eq_none_none (zF I q (by simp))
  |bl j=>cases ry;exact PySem.EqNone.eq_none_bool (zF I q (by simp))
  |int j=>obtain⟨t',rfl⟩:=ry;exact PySem.EqNone.eq_none_int (zF I q (by simp))
  |str j=>obtain⟨t',rfl⟩:=ry;exact PySem.EqNone.eq_none_str (zF I q (by simp))
  |_=>exact absurd (show false=true from hs) zh5
 |bl i=>
  cases rx
  cases y with
  |non=>cases ry;exact PySem.EqNone.eq_bool_none (zF I q (by simp))
  |bl j=>cases ry;exact eq_bool (zF I q jy)
  |str j=>obtain⟨t',rfl⟩:=ry;exact PySem.EqMixed.eq_bool_str (zF I q (by simp))
  |_=>exact absurd (show false=true from hs) zh5
 |int i=>
  obtain⟨t,rfl⟩:=rx
  cases y with
  |non=>cases ry;exact PySem.EqNone.eq_int_none (zF I q (by simp))
  |int j=>obtain⟨t',rfl⟩:=ry;exact eq_int (zF I q mW)
  |str j=>obtain⟨t',rfl⟩:=ry;exact PySem.EqMixed.eq_int_str (zF I q (by simp))
  |_=>exact absurd (show false=true from hs) zh5
 |str i=>
  obtain⟨t,rfl⟩:=rx
  cases y with
  |non=>cases ry;exact PySem.EqNone.eq_str_none (zF I q (by simp))
  |bl j=>cases ry;exact PySem.EqMixed.eq_str_bool (zF I q (by simp))
  |int j=>obtain⟨t',rfl⟩:=ry;exact PySem.EqMixed.eq_str_int (zF I q (by simp))
  |str j=>obtain⟨t',rfl⟩:=ry;exact eq_str (zF I q mK)
  |_=>exact absurd (show false=true from hs) zh5
 |byt i=>
  obtain⟨t,rfl⟩:=rx
  cases y with
  |byt j=>obtain⟨t',rfl⟩:=ry;exact PySem.W.eq_bytes (zF I q mH)
  |_=>exact absurd (show false=true from hs) zh5
 |_=>cases y<;>exact absurd (show false=true from hs) zh5
theorem za7 :OpR X (compareOp .NotEq) rNe:=by
 intro pins s σ H x y v u Q I rx ry h
 obtain⟨hs,q⟩:=h
 cases x with
 |non=>
  cases rx
  cases y with
  |non=>cases ry;exact PySem.EqNone.ne_none_none (zF I q (by simp))
  |bl j=>cases ry;exact PySem.EqNone.ne_none_bool (zF I q (by simp))
  |int j=>obtain⟨t',rfl⟩:=ry;exact PySem.EqNone.ne_none_int (zF I q (by simp))
  |str j=>obtain⟨t',rfl⟩:=ry;exact PySem.EqNone.ne_none_str (zF I q (by simp))
  |_=>exact absurd (show false=true from hs) zh5
 |bl i=>
  cases rx
  cases y with
  |non=>cases ry;exact PySem.EqNone.ne_bool_none (zF I q (by simp))
  |bl j=>cases ry;exact ne_bool (zF I q (congrArg not jy))
  |str j=>obtain⟨t',rfl⟩:=ry;exact PySem.EqMixed.ne_bool_str (zF I q (by simp))
  |_=>exact absurd (show false=true from hs) zh5
 |int i=>
  obtain⟨t,rfl⟩:=rx
  cases y with
  |non=>cases ry;exact PySem.EqNone.ne_int_none (zF I q (by simp))
  |int j=>obtain⟨t',rfl⟩:=ry;exact ne_int (zF I q (congrArg not mW))
  |str j=>obtain⟨t',rfl⟩:=ry;exact PySem.EqMixed.ne_int_str (zF I q (by simp))
  |_=>exact absurd (show false=true from hs) zh5
 |str i=>
  obtain⟨t,rfl⟩:=rx
  cases y with
  |non=>cases ry;exact PySem.EqNone.ne_str_none (zF I q (by simp))
  |bl j=>cases ry;exact PySem.EqMixed.ne_str_bool (zF I q (by simp))
  |int j=>obtain⟨t',rfl⟩:=ry;exact PySem.EqMixed.ne_str_int (zF I q (by simp))
  |str j=>obtain⟨t',rfl⟩:=ry;exact ne_str (zF I q (congrArg not mK))
  |_=>exact absurd (show false=true from hs) zh5
 |byt i=>
  obtain⟨t,rfl⟩:=rx
  cases y with
  |byt j=>obtain⟨t',rfl⟩:=ry;exact PySem.W.ne_bytes (zF I q (congrArg not mH))
  |_=>exact absurd (show false=true from hs) zh5
 |_=>cases y<;>exact absurd (show false=true from hs) zh5
theorem aT :OpR X (compareOp .Lt) (rI0 fun i j=>.bl (decide (i<j))):=eG fun _ _ _ _ _ _ _ q=>lt_int q
theorem tG :OpR X (compareOp .LtE) (rI0 fun i j=>.bl (decide (i≤j))):=eG fun _ _ _ _ _ _ _ q=>le_int q
theorem cm :OpR X (compareOp .Gt) (rI0 fun i j=>.bl (decide (j<i))):=eG fun _ _ _ _ _ _ _ q=>gt_int q
theorem aN :OpR X (compareOp .GtE) (rI0 fun i j=>.bl (decide (j≤i))):=eG fun _ _ _ _ _ _ _ q=>ge_int q
theorem oS :OpR X (compareOp .Is) (fun x y H Q=>y=.non∧Q (.bl (decide (x=.non))) H):=by
 intro pins s σ H x y v u Q I rx ry h
 obtain⟨rfl,q⟩:=h
 cases ry
 refine is_none_gen (zF I q ?_)
 cases x<;>first
  |(cases rx;rfl)
  |(obtain⟨t,rfl⟩:=rx;rfl)
theorem fO :OpR X (compareOp .IsNot) (fun x y H Q=>y=.non∧Q (.bl (!decide (x=.non))) H):=by
 intro pins s σ H x y v u Q I rx ry h
 obtain⟨rfl,q⟩:=h
 cases ry
 refine isnot_none_gen (zF I q ?_)
 cases x<;>first
  |(cases rx;rfl)
  |(obtain⟨t,rfl⟩:=rx;rfl)
theorem zJ (b:Expr){op:CmpOp}(h:op≠.In:=by decide)(h2:op≠.NotIn:=by decide):behindInMarks op b=false:=by
 have e1:(op == CmpOp.In)=false:=by cases op<;>first|rfl|exact absurd rfl h
 have e2:(op == CmpOp.NotIn)=false:=by cases op<;>first|rfl|exact absurd rfl h2
 cases b<;>simp[behindInMarks,e1,e2]
theorem wa {op:CmpOp}{r:R2}(ho:OpR X (compareOp op) r)(ha:PE X a ta)(hb:PE X b tb)(hm:behindInMarks op b=false):PE X (.Compare a [op] [b] pos) (tOp r ta tb):=by
 intro pins s σ H Q I h
 exact wpAny_Compare1 (cS ha hb I h fun v u s2 x y H2 I2 rx ry q=>ho pins s2 σ H2 x y v u Q I2 rx ry q) hm
def cj (t:TE):TT:=fun σ H Q=>t σ H fun x H'=>∃k,x=.bl k∧Q k H'
theorem yt {op:CmpOp}{r:R2}(ho:OpR X (compareOp op) r)(ha:PE X a ta)(hb:PE X b tb)(hm:behindInMarks op b=false):PT X (.Compare a [op] [b] pos) (cj (tOp r ta tb)):=by
 intro pins s σ H Q I h
 refine wpAny_isTrue_Compare1 (thn (ha pins s σ H _ I h) fun v s1 ⟨x,H1,I1,r1,q1⟩=>thn (hb pins s1 σ H1 _ I1 q1) fun u s2 ⟨y,H2,I2,r2,q2⟩=>
  thn (ho pins s2 σ H2 x y v u _ I2 r1 r2 q2) fun c s3 ⟨z,H3,I3,r3,k,e,q3⟩=>?_) hm
 subst e
 cases r3
 exact zl7 ⟨H3,I3,q3⟩
def gP (r r':R2)(ta tb tc:TE):TE:=fun σ H Q=>ta σ H fun x H1=>tb σ H1 fun y H2=>r x y H2 fun z H3=>∃k,z=.bl k∧
 (if k=true then tc σ H3 fun w' H4=>r' y w' H4 Q else Q (.bl false) H3)
theorem pM {op op':CmpOp}{r r':R2}(ho:OpR X (compareOp op) r)(ho':OpR X (compareOp op') r')(ha:PE X a ta)(hb:PE X b tb)(hc:PE X c tc)
  (hm:lastMarks [op,op'] [b,c]=false:=by with_unfolding_all rfl):PE X (.Compare a [op,op'] [b,c] pos) (gP r r' ta tb tc):=by
 intro pins s σ H Q I h
 refine Compare_chain (thn (ha pins s σ H _ I h) fun v s1 ⟨x,H1,I1,r1,q1⟩=>chain_link (thn (hb pins s1 σ H1 _ I1 q1) fun u s2 ⟨y,H2,I2,r2,q2⟩=>
  thn (ho pins s2 σ H2 x y v u _ I2 r1 r2 q2) fun d s3 ⟨z,H3,I3,r3,k,e,q3⟩=>?_)) hm
 subst e
 cases r3
 refine zl7 ?_
 cases k with
 |false=>exact ite_ff ⟨.bl false,H3,I3,rfl,q3⟩
 |true=>exact ite_tt (chain_last (thn (hc pins s3 σ H3 _ I3 q3) fun w' s4 ⟨z',H4,I4,r4,q4⟩=>ho' pins s4 σ H4 y z' u w' Q I4 r2 r4 q4))
theorem jv {op op':CmpOp}{r r':R2}(ho:OpR X (compareOp op) r)(ho':OpR X (compareOp op') r')(ha:PE X a ta)(hb:PE X b tb)(hc:PE X c tc)
  (hm:lastMarks [op,op'] [b,c]=false:=by with_unfolding_all rfl):PT X (.Compare a [op,op'] [b,c] pos) (cj (gP r r' ta tb tc)):=by
 intro pins s σ H Q I h
 refine isTrue_chain (thn (ha pins s σ H _ I h) fun v s1 ⟨x,H1,I1,r1,q1⟩=>test_link (thn (hb pins s1 σ H1 _ I1 q1) fun u s2 ⟨y,H2,I2,r2,q2⟩=>
  thn (ho pins s2 σ H2 x y v u _ I2 r1 r2 q2) fun d s3 ⟨z,H3,I3,r3,k,e,q3⟩=>?_)) hm
 subst e
 cases r3
 refine zl7 ?_
 cases k with
 |false=>
  obtain⟨k',e',q'⟩:=q3
  cases e'
  exact ite_ff ⟨H3,I3,q'⟩
 |true=>
  refine ite_tt (test_last (thn (hc pins s3 σ H3 _ I3 q3) fun w' s4 ⟨z',H4,I4,r4,q4⟩=>thn (ho' pins s4 σ H4 y z' u w' _ I4 r2 r4 q4) fun d' s5 ⟨z2,H5,I5,r5,k2,e2,q5⟩=>?_))
  subst e2
  cases r5
  exact zl7 ⟨H5,I5,q5⟩
def aB (K:PySem.W.Frag)(x:V)(H:Hp)(k:Bool):Prop:=
 match x with
 |.non=>k=false
 |.bl b=>k=b
 |.int i=>k=(i != 0)
 |.str y=>y.length≤sizeLine∧k=((y.length:Int) != 0)
 |.byt y=>y.size≤sizeLine∧k=((y.size:Int) != 0)
 |.ref p=>(∃xs,SqL K H p xs∧k=!xs.isEmpty)∨(∃xs,SqT K H p xs∧k=!xs.isEmpty)∨∃kvs,H p=some (.dK kvs)∧k=!kvs.isEmpty
 |_=>False
theorem oT {κ:Type}{kvs:List (κ×V)}{vs:List (κ×Value)}(r:KV kvs vs):(!vs.isEmpty)=!kvs.isEmpty:=by
 cases r<;>rfl
theorem tX {xs:List V}{its:List Value}(r:Vals xs its):(!its.toArray.isEmpty)=!xs.isEmpty:=by
 cases r<;>simp
theorem ug :(sizeLine:Nat)<2 ^ 63:=by rw[zr8];decide
theorem ai :zf6 X (fun x H Q=>∃k,aB X.K x H k∧Q k H):=by
 intro pins s σ H x v Q I rx h
 obtain⟨k,e,q⟩:=h
 have hl:=ug
 have hs:sizeLine=16777216:=zr8
 cases x with
 |non=>
  cases rx
  have e':k=false:=e
  subst e'
  exact truthy_none ⟨H,I,q⟩
 |bl b=>
  cases rx
  have e':k=b:=e
  subst e'
  exact zl7 ⟨H,I,q⟩
 |int i=>
  obtain⟨t,rfl⟩:=rx
  have e':k=(i != 0):=e
  subst e'
  exact PySem.P.truthy_int ⟨H,I,q⟩
 |str y=>
  obtain⟨t,rfl⟩:=rx
  obtain⟨hy,e'⟩:y.length≤sizeLine∧k=((y.length:Int) != 0):=e
  subst e'
  exact PySem.P.truthy_str (by omega) ⟨H,I.tok _,q⟩
 |byt y=>
  obtain⟨t,rfl⟩:=rx
  obtain⟨hy,e'⟩:y.size≤sizeLine∧k=((y.size:Int) != 0):=e
  subst e'
  exact PySem.W.truthy_bytes (by omega) ⟨H,I.tok _,q⟩
 |ref p=>
  cases rx
  have e':(∃xs,SqL X.K H p xs∧k=!xs.isEmpty)∨(∃xs,SqT X.K H p xs∧k=!xs.isEmpty)∨∃kvs,H p=some (.dK kvs)∧k=!kvs.isEmpty:=e
  rcases e' with ⟨xs,hx,e'⟩|⟨xs,hx,e'⟩|⟨kvs,hx,e'⟩
  ·subst e'
   obtain⟨its,r,pl,hz⟩:=I.list hx
   have hlen:=r.length
   exact wpAny_truthy_list pl.isList (by simp only[zh6];omega) ⟨H,I.tok _,by rw[tX r];exact q⟩
  ·subst e'
   obtain⟨its,r,pl,hz⟩:=I.tuple hx
   have hlen:=r.length
   exact truthy_tuple pl (by simp only[zh6];omega) ⟨H,I.tok _,by rw[tX r];exact q⟩
  ·subst e'
   obtain⟨hz,hS,vs,r,m⟩:kvs.length≤sizeLine∧(p == sysModules)=false∧∃vs,KV kvs vs∧s.heap.DictOf (yJ X.prog X.w) p vs:=I.hok p _ hx
   have hlen:kvs.length=vs.length:=Paired.length r
   exact wpAny_truthy_dict hS m (by omega) ⟨H,I.tok _,by rw[oT r];exact q⟩
 |_=>exact (show False from e).elim
theorem iP (ha:PE X a ta)(he:∀whole,isTrue a X.env whole=(do let v ←whole;standAt a.pos;holding [v] (truthy v))):
  PT X a (fun σ H Q=>ta σ H fun x H'=>∃k,aB X.K x H' k∧Q k H'):=by
 intro pins s σ H Q I h
 exact isTrue_plain (thn (ha pins s σ H _ I h) fun v s1 ⟨x,H1,I1,r1,q1⟩=>ai pins s1 σ H1 x v Q I1 r1 q1) (he _)
theorem vals1 {x:V}{us:List Value}(r:Vals [x] us):∃u,us=[u]∧RelV x u:=by
 cases r with
 |cons r1 r2=>cases r2;exact⟨_,rfl,r1⟩
theorem vals2 {x y:V}{us:List Value}(r:Vals [x,y] us):∃u w',us=[u,w']∧RelV x u∧RelV y w':=by
 cases r with
 |cons r1 r2=>
  cases r2 with
  |cons r3 r4=>cases r4;exact⟨_,_,rfl,r1,r3⟩
theorem lu (hc:X.calm=true):wt X (.builtin "max") (fun xs H Q=>∃i j,xs=[.int i,.int j]∧Q (.int (if j > i then j else i)) H):=by
 intro pins s σ H xs us Q I r h
 obtain⟨i,j,rfl,q⟩:=h
 obtain⟨u,w',rfl,⟨t,rfl⟩,⟨t',rfl⟩⟩:=vals2 r
 refine max_two_ints (I.ok.hd hc) fun h' tk k=>⟨_,H,I.kept k,?_,q⟩
 by_cases hj:j > i
 ·rw[if_pos hj,if_pos hj];exact⟨_,rfl⟩
 ·rw[if_neg hj,if_neg hj];exact⟨_,rfl⟩
theorem kn (hc:X.calm=true):wt X (.builtin "min") (fun xs H Q=>∃i j,xs=[.int i,.int j]∧Q (.int (if j<i then j else i)) H):=by
 intro pins s σ H xs us Q I r h
 obtain⟨i,j,rfl,q⟩:=h
 obtain⟨u,w',rfl,⟨t,rfl⟩,⟨t',rfl⟩⟩:=vals2 r
 refine min_two_ints (I.ok.hd hc) fun h' tk k=>⟨_,H,I.kept k,?_,q⟩
 by_cases hj:j<i
 ·rw[if_pos hj,if_pos hj];exact⟨_,rfl⟩
 ·rw[if_neg hj,if_neg hj];exact⟨_,rfl⟩
end
structure oV (h:Heap)(x dx C:Addr)(mA:Str→Option Value):Prop where
 obj:h.get? x=some (PySem.W.instObj C dx)
 ns:h.Ns1 dx mA
 ne:dx≠x
theorem kF {h:Heap}{dx:Addr}{mA:Str→Option Value}(n:h.Ns1 dx mA):∃od,h.get? dx=some od∧∀name,PySem.W.lookIn name od=some (mA name):=by
 obtain⟨o,es,ep,ho,hd,hk,_,hm⟩:=n
 refine⟨o,ho,fun name=>?_⟩
 have e:=hm name
 unfold nsFind findBy at e
 rw[←Array.find?_toList] at e
 unfold PySem.W.lookIn
 rw[hd]
 dsimp only
 split
 ·rename_i y q
  rw[q] at e
  exact congrArg some e
 ·rename_i q
  rw[q] at e
  have a:es.toList.any (·.refKey)=false:=by
   rw[List.any_eq_false]
   intro y hy
   obtain⟨z,t,hkey⟩:=hk y (Array.mem_toList_iff.mp hy)
   simp[DictEntry.refKey,hkey]
  have a':¬es.toList.any (·.refKey)=true:=by rw[a];exact zh5
  rw[if_neg a']
  exact congrArg some e
theorem oV.look {h:Heap}{x dx C:Addr}{mA:Str→Option Value}(I:oV h x dx C mA):∃od,PySem.W.InstAt h x (PySem.W.instObj C dx) C (some od)∧∀name,PySem.W.lookIn name od=some (mA name):=
 let ⟨od,ho,hl⟩:=kF I.ns
 ⟨od,⟨I.obj,rfl,rfl,ho⟩,hl⟩
section
variable {prog:Program}{w:World}{A:Around}{E:Value→Shared→Prop}{s:Shared}{K:PySem.W.Frag}{x dx C f:Addr}{mA:Str→Option Value}{name:Str}{v:Value}
theorem get_map {expr:Bool}{Q:Value→Shared→Prop}(X:K.In s.heap)(I:oV s.heap x dx C mA)(hg:PySem.W.plainGet K C name=true)(hh:PySem.W.hasDictIn K C=true)
  (ha:PySem.W.findIn K (.ref C) name=some none) (hv:mA name=some v) (hv':PySem.W.handedIn v=true) (h:Q v {s with toks:=s.toks+1}):
  wpAny (model prog w) A (getAttr (.ref x) name expr) Q E s:=by
 obtain⟨od,J,hl⟩:=I.look
 exact PySem.W.get_value X J (zw2 hg).1 (PySem.W.findObj_own hh ha rfl (by rw[hl,hv])) hv' h
theorem jL {pl:Sem Bool}{Q:Value×List Value→Shared→Prop}(X:K.In s.heap)(I:oV s.heap x dx C mA)(hg:PySem.W.plainGet K C name=true)
  (hf:PySem.W.findIn K (.ref C) name=some (some (.ref f))) (ht:PySem.W.isFn K (.ref f)=true) (hv:mA name=none) (h:Q (.ref f,[.ref x]) s):
  wpAny (model prog w) A (getMethod (.ref x) name pl) Q E s:=by
 obtain⟨od,J,hl⟩:=I.look
 exact PySem.W.method_fn X J (zw2 hg).1 (zw2 hg).2 hf (zs5.mp ht) (by show (PySem.W.lookIn name od).map (·.isSome)=some false;rw[hl,hv];rfl) h
theorem df {ns:List Str}{Q:Unit→Shared→Prop}(X:K.In s.heap)(I:oV s.heap x dx C mA)
  (hs:PySem.W.findIn K (.ref C) "__setattr__"=some (some (.builtin "object.__setattr__"))) (hp:PySem.W.plainOver K C=true) (ht:PySem.W.takerIn K C name=some none) (hh:PySem.W.hasDictIn K C=true)
  (hw:PySem.Within mA ns) (hsz:ns.length≤sizeLine)
  (h:∀h',oV h' x dx C (fun y=>if y=name then some v else mA y)→Heap.SameBut dx s.heap h'→Q () {s with heap:=h',toks:=s.toks+2}):
  wpAny (model prog w) A (setAttr (.ref x) name v) Q E s:=by
 obtain⟨od,J,hl⟩:=I.look
 refine PySem.W.set_plain X J hs (PySem.W.osa_open (s:={s with toks:=s.toks+1}) (r:=none) X J hp ht fun b=>?_)
 obtain⟨cd,hc,hd'⟩:=PySem.W.any_some hh
 have hx:s.heap.get? x=some ⟨.ref C,some dx,.plain,#[]⟩:=I.obj
 refine zg0 (zg4 (zg0 (zg0 (wpAny_loadPart hx (zg0 (PySem.W.Looks.here (s:={s with toks:=s.toks+1}) (PySem.W.looks_clsIn X hc) ?_))))))
 rw[hd']
 refine zg4 (a:=some dx) (zg0 (zg4 (zg0 ?_)))
 refine wpAny_nsSet1 (s:={s with toks:=s.toks+1}) I.ns fun h' hn2 hs2=>?_
 obtain⟨oD,esD,epD,hoD,hdD,hcD⟩:=hn2.count (PySem.Within.cons name v hw)
 refine zg0 (wpAny_lookBehind hoD (by rw[hdD];exact pastItsLine_dict (zk7 hcD (by rw[zj5];omega))) ?_)
 exact zg4 (h _ ⟨(hs2.2 _ (zs9 I.ne)).trans I.obj,hn2,I.ne⟩ hs2)
theorem jO {R:Result→Shared→Prop}{vs:List Value}{kw:List (Str×Value)}(X:K.In s.heap)(hm:PySem.W.makesIn K C=true)
  (hi:PySem.W.findIn K (.ref C) "__init__"=some (some (.ref f))) (hf:PySem.W.typeIn K (.ref f)=some (.type "function"))
  (h:codeAny (model prog w) (A.under (.builtin "type.__call__" ⟨.ref C::vs,kw⟩)) (.call (.ref f) ⟨.ref (s.heap.objs.size+1)::vs,kw⟩) (PySem.W.InitBack (s.heap.objs.size+1) R)
   {s with heap:=(s.heap.push PySem.W.emptyDict).push (PySem.W.instObj C s.heap.objs.size)}):
  codeAny (model prog w) A (.call (.ref C) ⟨vs,kw⟩) R s:=by
 obtain⟨hh,g,d,t,os⟩:=s
 exact PySem.W.make_core (PySem.W.makes_of X hm) (PySem.W.looks_findIn X hi) (fun self=>PySem.W.bind_fn X self hf) (.inl rfl) h
end
def xF (f:Str)(v:V):List (Str×V)→List (Str×V)
 |[]=>[(f,v)]
 |(g,x)::r=>if g=f then (g,v)::r else (g,x)::xF f v r
theorem zL (f g:Str)(v:V):∀fs:List (Str×V),(xF f v fs).lookup g=if g=f then some v else fs.lookup g
 |[]=>by
  show List.lookup g [(f,v)]=_
  by_cases h:g=f
  ·have hb:(g == f)=true:=zs5.mpr h
   simp only[List.lookup,hb,if_pos h]
  ·have hb:(g == f)=false:=zp3.mpr h
   simp only[List.lookup,hb,if_neg h]
 |(k,x)::r=>by
  have ih:=zL f g v r
  rw[show xF f v ((k,x)::r)=(if k=f then (k,v)::r else (k,x)::xF f v r) from rfl]
  by_cases hk:k=f
  ·rw[if_pos hk]
   by_cases h:g=k
   ·have hb:(g == k)=true:=zs5.mpr h
    simp only[List.lookup,hb,if_pos (h.trans hk)]
   ·have hb:(g == k)=false:=zp3.mpr h
    simp only[List.lookup,hb,if_neg (fun e:g=f=>h (e.trans hk.symm))]
  ·rw[if_neg hk]
   by_cases h:g=k
   ·have hb:(g == k)=true:=zs5.mpr h
    simp only[List.lookup,hb,if_neg (fun e:g=f=>hk (h.symm.trans e))]
   ·have hb:(g == k)=false:=zp3.mpr h
    simp only[List.lookup,hb]
    exact ih
theorem uk (f:Str)(v:V):∀fs:List (Str×V),f∈(xF f v fs).map (·.1)∧∀g,g∈fs.map (·.1)→g∈(xF f v fs).map (·.1)
 |[]=>⟨by simp[xF],fun g h=>by simp at h⟩
 |(k,x)::r=>by
  obtain⟨i1,i2⟩:=uk f v r
  rw[show xF f v ((k,x)::r)=(if k=f then (k,v)::r else (k,x)::xF f v r) from rfl]
  by_cases hk:k=f
  ·rw[if_pos hk]
   subst hk
   exact⟨by simp,fun g h=>by simpa using h⟩
  ·rw[if_neg hk]
   refine⟨?_,fun g h=>?_⟩
   ·rw[zl3]
    exact zg7 _ i1
   ·rw[zl3] at h ⊢
    rcases zg3.mp h with e|e
    ·exact zg3.mpr (.inl e)
    ·exact zg7 _ (i2 g e)
theorem uG (f:Str)(v:V):∀fs:List (Str×V),(xF f v fs).length≤fs.length+1
 |[]=>by simp[xF]
 |(k,x)::r=>by
  have ih:=uG f v r
  rw[show xF f v ((k,x)::r)=(if k=f then (k,v)::r else (k,x)::xF f v r) from rfl]
  by_cases hk:k=f
  ·rw[if_pos hk,zj5,zj5];omega
  ·rw[if_neg hk,zj5,zj5];omega
theorem vI.some_of {v:V}{o:Option Value}(r:vI (some v) o):∃u,o=some u∧RelV v u:=by
 cases o with
 |none=>exact (show False from r).elim
 |some u=>exact⟨u,rfl,r⟩
theorem vI.none_of {o:Option Value}(r:vI none o):o=none:=by
 cases o with
 |none=>rfl
 |some u=>exact (show False from r).elim
theorem kJ {v:V}{u:Value}(r:RelV v u):PySem.W.handedIn u=true:=by
 cases v with
 |non=>cases (show u=Value.none from r);rfl
 |bl b=>cases (show u=Value.bool b from r);rfl
 |int i=>obtain⟨t,e⟩:=(show ∃t,u=Value.int i t from r);cases e;rfl
 |str x=>obtain⟨t,e⟩:=(show ∃t,u=Value.str x t from r);cases e;rfl
 |byt b=>obtain⟨t,e⟩:=(show ∃t,u=Value.bytes b t from r);cases e;rfl
 |flt b=>obtain⟨t,e⟩:=(show ∃t,u=Value.float b t from r);cases e;rfl
 |ref a=>cases (show u=Value.ref a from r);rfl
 |ty n=>cases (show u=Value.type n from r);rfl
section
variable {P:Program}{w:World}{H H':Hp}{h h':Heap}{a C dx:Addr}{fs fs':List (Str×V)}
theorem uY (hok:HOk P w H h)(e:H a=some (.ins C dx fs)):∃mA,oV h a dx C mA∧(∀f,vI (fs.lookup f) (mA f))∧PySem.Within mA (fs.map (·.1))∧fs.length≤1000∧H dx=some (.own a):=by
 obtain⟨d,z,ne,ob,mA,n,r,q⟩:=(show yq P w H h a (.ins C dx fs) from hok a _ e)
 exact⟨mA,⟨ob,n,ne⟩,r,q,z,d⟩
end
structure Cls (K:PySem.W.Frag)(C:Addr):Prop where
 pg:PySem.W.plainGet K C Str.empty=true
 hd:PySem.W.hasDictIn K C=true
 po:PySem.W.plainOver K C=true
 sa:PySem.W.findIn K (.ref C) "__setattr__"=some (some (.builtin "object.__setattr__"))
theorem Cls.get {K:PySem.W.Frag}{C:Addr}(c:Cls K C)(f:Str):PySem.W.plainGet K C f=true:=c.pg
def yE (K:PySem.W.Frag)(C:Addr)(f:Str):Prop:=PySem.W.findIn K (.ref C) f=some none
theorem yE.taker {K:PySem.W.Frag}{C:Addr}{f:Str}(n:yE K C f):PySem.W.takerIn K C f=some none:=by
 unfold PySem.W.takerIn
 rw[show PySem.W.findIn K (.ref C) f=some none from n]
 rfl
structure Meth (K:PySem.W.Frag)(C:Addr)(m:Str)(f:Addr):Prop where
 at_:PySem.W.findIn K (.ref C) m=some (some (.ref f))
 fn:PySem.W.isFn K (.ref f)=true
 kp:PySem.W.keepIn K (.ref f)=true
section
variable {X:Cx}{pins:List (Addr×Obj)}{σ:St}{H:Hp}{s:Shared}{a C dx:Addr}{fs:List (Str×V)}{f:Str}{v:V}{A:Around}{E:Value→Shared→Prop}
theorem nA {b:Bool}{Q:Value→Shared→Prop}(I:Inv X pins σ H s)(e:H a=some (.ins C dx fs))(c:Cls X.K C)(n:yE X.K C f)(l:fs.lookup f=some v)
  (h:∀u s',Inv X pins σ H s'→RelV v u→Q u s'):wpAny (model X.prog X.w) A (getAttr (.ref a) f b) Q E s:=by
 obtain⟨mA,O,r,_,_,_⟩:=uY I.hok e
 obtain⟨u,hu,ru⟩:=vI.some_of (v:=v) (o:=mA f) (by rw[←l];exact r f)
 exact get_map I.kIn O (c.get f) c.hd n hu (kJ ru) (h u _ (I.tok _) ru)
theorem vt {m:Str}{g:Addr}{pl:Sem Bool}{Q:Value×List Value→Shared→Prop}(I:Inv X pins σ H s)(e:H a=some (.ins C dx fs))(c:Cls X.K C)(k:Meth X.K C m g)(l:fs.lookup m=none)
  (h:Q (.ref g,[.ref a]) s):wpAny (model X.prog X.w) A (getMethod (.ref a) m pl) Q E s:=by
 obtain⟨mA,O,r,_,_,_⟩:=uY I.hok e
 have hn:mA m=none:=vI.none_of (by rw[←l];exact r m)
 exact jL I.kIn O (c.get m) k.at_ k.fn hn h
theorem nu {y:V}{u:Value}{Q:Unit→Shared→Prop}(I:Inv X pins σ H s)(e:H a=some (.ins C dx fs))(c:Cls X.K C)(n:yE X.K C f)(hl:fs.length<1000)(ry:RelV y u)
  (h:∀s',Inv X pins σ (upd H a (.ins C dx (xF f y fs))) s'→Q () s'):wpAny (model X.prog X.w) A (setAttr (.ref a) f u) Q E s:=by
 obtain⟨mA,O,r,wi,_,ho⟩:=uY I.hok e
 have hz:(fs.map (·.1)).length≤sizeLine:=by rw[zh4,zr8];omega
 refine df I.kIn O c.sa c.po n.taker c.hd wi hz fun h' O' sb=>h _ ?_
 have hd:∃o,h'.get? dx=some o:=let ⟨o,_,_,e',_⟩:=O'.ns;⟨o,e'⟩
 refine I.write (x:=a) (e:=dx) (by rw[e];exact True.intro) (.inr ho) (fun b q hb z=>(sb.2 b hb).trans z) hd ?_
 refine⟨by rw[zk O.ne];exact ho,?_,O.ne,O'.obj,_,O'.ns,fun g=>?_,fun g hg=>?_⟩
 ·have:=uG f y fs;omega
 ·show vI ((xF f y fs).lookup g) (if g=f then some u else mA g)
  rw[zL]
  by_cases q:g=f
  ·rw[if_pos q,if_pos q];exact ry
  ·rw[if_neg q,if_neg q];exact r g
 ·by_cases q:g=f
  ·rw[q];exact (uk f y fs).1
  ·refine (uk f y fs).2 g (wi g fun z=>hg ?_)
   show (if g=f then some u else mA g)=none
   rw[if_neg q];exact z
theorem Inv.made (I:Inv X pins σ H s):Inv X pins σ (upd (upd H s.heap.objs.size (.own (s.heap.objs.size+1))) (s.heap.objs.size+1) (.ins C s.heap.objs.size []))
  {s with heap:=(s.heap.push PySem.W.emptyDict).push (PySem.W.instObj C s.heap.objs.size)}:=by
 have e1:(s.heap.push PySem.W.emptyDict).get? s.heap.objs.size=some PySem.W.emptyDict:=zh9 s.heap rfl
 have e2:((s.heap.push PySem.W.emptyDict).push (PySem.W.instObj C s.heap.objs.size)).get? (s.heap.objs.size+1)=some (PySem.W.instObj C s.heap.objs.size):=by
  have:=zh9 (s.heap.push PySem.W.emptyDict) (o:=PySem.W.instObj C s.heap.objs.size) rfl
  rwa [zs1] at this
 have e3:(s.heap.push PySem.W.emptyDict).Ns s.heap.objs.size (fun _=>none):=⟨PySem.W.emptyDict,#[],_,e1,rfl,(fun e he=>absurd he (by simp)),fun _=>rfl⟩
 have I1:=I.laid (a:=s.heap.objs.size) (o:=.own (s.heap.objs.size+1)) (h':=s.heap.push PySem.W.emptyDict) (t':=s.toks) (fun b u q=>zg8 _ q) (zg5 _) ⟨_,e1⟩
 refine I1.laid (a:=s.heap.objs.size+1) (o:=.ins C s.heap.objs.size []) (t':=s.toks) (fun b u q=>zg8 _ q) (zo5 (zs1 _ _)) ?_
 have ne:s.heap.objs.size≠s.heap.objs.size+1:=zi3 (zp4 _)
 refine⟨by rw[zk ne,zj],zi5 _,ne,e2,fun _=>none,(Heap.Ns1.of_empty e3).at fun o q=>zg8 _ q,fun _=>True.intro,fun y hy=>absurd rfl hy⟩
theorem dI {prog:Program}{w:World}{env:Env}{e:Expr}{f:Str}{pos:Pos}{s:Shared}{Q:Value→Shared→Prop}(hb:attributeBase e f env (eval e env)=eval e env)
  (h:wpAny (model prog w) A (eval e env) (fun o s₁=>wpAny (model prog w) A (getAttr o f true) Q E s₁) E s):wpAny (model prog w) A (eval (.Attribute e f pos) env) Q E s:=
 Attribute_any_ h (by rw[arm_eval_Attribute,hb])
end
def ze7 (K:PySem.W.Frag)(ta:TE)(f:Str):TE:=fun σ H Q=>ta σ H fun x H1=>∃a C dx fs v,x=.ref a∧H1 a=some (.ins C dx fs)∧Cls K C∧yE K C f∧fs.lookup f=some v∧Q v H1
def ze8 (K:PySem.W.Frag)(ta tv:TE)(f:Str):TS:=fun D σ H=>tv σ H fun y H1=>ta σ H1 fun x H2=>∃a C dx fs,x=.ref a∧H2 a=some (.ins C dx fs)∧Cls K C∧yE K C f∧fs.length<1000∧
 D.nx σ (upd H2 a (.ins C dx (xF f y fs)))
section
variable {X:Cx}{o e value:Expr}{f:Str}{pos pos' tpos:Pos}{ta tv:TE}
theorem vY (he:PE X e ta)(hb:attributeBase e f X.env (eval e X.env)=eval e X.env):PE X (.Attribute e f pos) (ze7 X.K ta f):=by
 intro pins s σ H Q I h
 refine dI hb (thn (he pins s σ H _ I h) fun u s1 ⟨x,H1,I1,rx,a,C,dx,fs,v,ex,ea,c,n,l,q⟩=>?_)
 subst ex
 obtain rfl:u=Value.ref a:=rx
 exact nA I1 ea c n l fun u' s2 I2 ru=>⟨v,H1,I2,ru,q⟩
theorem qF (ha:PE X o ta)(hv:PE X value tv)(hs:swapsWith value (some (.Attribute o f pos')) pos.line X.env=pure false):PS X (.Assign [.Attribute o f pos'] value pos) (ze8 X.K ta tv f):=by
 intro pins s σ H D I h
 refine plainObj_wpAny_Assign_Attribute (thn (hv pins s σ H _ I h) fun u s1 ⟨y,H1,I1,ry,q⟩=>thn (ha pins s1 σ H1 _ I1 q) fun ov s2 ⟨x,H2,I2,rx,a,C,dx,fs,ex,ea,c,n,l,q2⟩=>?_) hs
 subst ex
 obtain rfl:ov=Value.ref a:=rx
 exact nu I2 ea c n l ry fun s3 I3=>⟨σ,_,I3,q2⟩
theorem dS {pl:Sem Bool}{m:Str}{apos:Pos}{args:List Expr}{pins:List (Addr×Obj)}{s:Shared}{σ:St}{H:Hp}{Q:Value→Shared→Prop}{te:TE}(he:PE X e te)(I:Inv X pins σ H s)
  (h:te σ H fun x H1=>∃a C dx fs g,x=.ref a∧H1 a=some (.ins C dx fs)∧Cls X.K C∧Meth X.K C m g∧fs.lookup m=none∧
   ∀s1,Inv X pins σ H1 s1→wpAny (model X.prog X.w) X.A (callWith pos (.ref g) [.ref a] (backTo pos (starEach args X.env)) (backToKw pos (keywordEach [] X.env))) Q X.xe s1)
  (ht:eval (.Call (.Attribute e m apos) args [] pos) X.env=(do
   let ov ←eval e X.env
   standAt apos.atName
   let (f,first) ←holding [ov] (getMethod ov m pl)
   callWith pos f first (backTo pos (starEach args X.env)) (backToKw pos (keywordEach [] X.env)))):
  wpAny (model X.prog X.w) X.A (eval (.Call (.Attribute e m apos) args [] pos) X.env) Q X.xe s:=by
 refine zv1 (pl:=pl) (thn (he pins s σ H _ I h) fun u s1 ⟨x,H1,I1,rx,a,C,dx,fs,g,ex,ea,c,k,l,q⟩=>?_) ht
 subst ex
 obtain rfl:u=Value.ref a:=rx
 exact vt I1 ea c k l (q s1 I1)
end
section
variable {X:Cx}{pins:List (Addr×Obj)}{σ:St}{H:Hp}{s:Shared}{A:Around}{E:Value→Shared→Prop}{Q:Value→Shared→Prop}{c:Value}{b:Bool}
inductive vw (K:PySem.W.Frag)(H:Hp):V→Value→Prop where
 |non:vw K H .non (.type "NoneType")
 |bl (x:Bool):vw K H (.bl x) (.type "bool")
 |int (i:Int):vw K H (.int i) (.type "int")
 |str (x:Str):vw K H (.str x) (.type "str")
 |flt (x:UInt64):vw K H (.flt x) (.type "float")
 |lst {a:Addr} {xs:List V} (e:H a=some (.lst xs)):vw K H (.ref a) (.type "list")
 |frz {a:Addr} {o:Obj} {xs:List V} (e:H a=some (.frz o (.lst xs))):vw K H (.ref a) (.type "list")
 |tup {a:Addr} {xs:List V} (e:H a=some (.tup xs)):vw K H (.ref a) (.type "tuple")
 |dK {a:Addr} {kvs:List (Key×V)} (e:H a=some (.dK kvs)):vw K H (.ref a) (.type "dict")
 |dT {a:Addr} {kvs:List (List Key×V)} (e:H a=some (.dT kvs)):vw K H (.ref a) (.type "dict")
 |ins {a C dx:Addr} {fs:List (Str×V)} (e:H a=some (.ins C dx fs)) (cl:Cls K C) (ha:PySem.W.findIn K (.ref C) "__class__"=some (some (.builtin "object.__class__")))
   (hn:PySem.W.specialIn K (.builtin "object.__class__") "__get__"=some (some (.builtin "getset_descriptor.__get__"))) (htk:PySem.W.takesIn K (.builtin "object.__class__")=some true)
   (hm:PySem.W.mroIn K C (.type "object")=some true):vw K H (.ref a) (.ref C)
theorem jh {x:V}{u t:Value}(I:Inv X pins σ H s)(rx:RelV x u)(ty:vw X.K H x t)(e:PySem.W.kitOne X.K t c=some b)(h:∀tk,Q (.bool b) {s with toks:=tk}):
  wpAny (model X.prog X.w) A (call (.builtin "isinstance") [u,c]) Q E s:=by
 cases ty with
 |non=>cases (show u=Value.none from rx);exact zl9 PySem.W.kitx_none I.kIn True.intro e (fun z=>nomatch z) h
 |bl y=>cases (show u=Value.bool y from rx);exact zl9 PySem.W.kitx_bool I.kIn True.intro e (fun z=>nomatch z) h
 |int i=>obtain⟨t,q⟩:=(show ∃t,u=Value.int i t from rx);cases q;exact zl9 PySem.W.kitx_int I.kIn True.intro e (fun z=>nomatch z) h
 |str y=>obtain⟨t,q⟩:=(show ∃t,u=Value.str y t from rx);cases q;exact zl9 PySem.W.kitx_str I.kIn True.intro e (fun z=>nomatch z) h
 |flt y=>obtain⟨t,q⟩:=(show ∃t,u=Value.float y t from rx);cases q;exact zl9 PySem.W.kitx_float I.kIn True.intro e (fun z=>nomatch z) h
 |@lst a xs ea=>
  cases (show u=Value.ref a from rx)
  obtain⟨_,_,n,_,h1⟩:=(show yq X.prog X.w H s.heap a (.lst xs) from I.hok a _ ea)
  exact zl9 PySem.W.kitx_list I.kIn ⟨_,h1,rfl⟩ e (fun z=>nomatch z) h
 |@frz a ob xs ea=>
  cases (show u=Value.ref a from rx)
  obtain⟨_,_,_,n,_,h1⟩:=(show yq X.prog X.w H s.heap a (.frz ob (.lst xs)) from I.hok a _ ea)
  exact zl9 PySem.W.kitx_list I.kIn ⟨_,h1,rfl⟩ e (fun z=>nomatch z) h
 |@tup a xs ea=>
  cases (show u=Value.ref a from rx)
  obtain⟨_,_,_,p⟩:=(show yq X.prog X.w H s.heap a (.tup xs) from I.hok a _ ea)
  obtain⟨o,h1,h2,_⟩:=p
  exact zl9 PySem.W.kitx_tuple I.kIn ⟨o,h1,h2⟩ e (fun z=>nomatch z) h
 |@dK a kvs ea=>
  cases (show u=Value.ref a from rx)
  obtain⟨_,_,vs,_,p⟩:=(show yq X.prog X.w H s.heap a (.dK kvs) from I.hok a _ ea)
  obtain⟨o,es,ep,h1,h2,_⟩:=p
  exact zl9 PySem.W.kitx_dict I.kIn ⟨o,h1,h2.1⟩ e (fun z=>nomatch z) h
 |@dT a kvs ea=>
  cases (show u=Value.ref a from rx)
  obtain⟨_,_,xs,_,o,es,ep,h1,h2,_⟩:=(show yq X.prog X.w H s.heap a (.dT kvs) from I.hok a _ ea)
  exact zl9 PySem.W.kitx_dict I.kIn ⟨o,h1,h2.1⟩ e (fun z=>nomatch z) h
 |@ins a C dx fs ea cl ha hn htk hm=>
  cases (show u=Value.ref a from rx)
  obtain⟨mA,O,_⟩:=uY I.hok ea
  obtain⟨od,J,_⟩:=O.look
  exact zl9 (PySem.W.kitx_own (cl.get _) cl.hd ha hn htk hm) I.kIn J e (fun z=>nomatch z) h
end
structure zY (k:Nat)(A:Around):Prop where
 hd:A.handled=none
 dp:A.depth+3*k+5<recursionLimit
 un:A.units+16*k+200<cLine
 gd:A.guards=some []
theorem zY.mono {j k:Nat}{A:Around}(r:zY k A)(h:j≤k):zY j A:=⟨r.hd,by have:=r.dp;omega,by have:=r.un;omega,r.gd⟩
theorem zY.deeper {k:Nat}{A:Around}(r:zY (k+1) A)(env:Env):zY k (A.deeper env):=
 ⟨r.hd,by have:=r.dp;show A.depth+1+3*k+5<_;omega,by have:=r.un;show A.units+3+16*k+200<_;omega,r.gd⟩
theorem nG {A:Around}{C:Addr}{us:List Value}{kw:List (Str×Value)}:(A.under (.builtin "type.__call__" ⟨.ref C::us,kw⟩)).depth=A.depth+1:=by
 first|rfl|simp[Around.under,Code.weight,Code.isCreation,Code.isGuard,Code.isCaller,Code.frames,Code.isFrame,guardIds]
theorem nJ {A:Around}{C:Addr}{us:List Value}{kw:List (Str×Value)}:(A.under (.builtin "type.__call__" ⟨.ref C::us,kw⟩)).units=A.units+1:=by
 first|rfl|simp[Around.under,Code.cUnits,Code.frames,Code.isFrame]
theorem pb {A:Around}{C:Addr}{us:List Value}{kw:List (Str×Value)}:(A.under (.builtin "type.__call__" ⟨.ref C::us,kw⟩)).guards=A.guards:=by
 first|rfl|simp[Around.under,Code.guards,Code.isGuard,guardIds,pushGuards]
theorem zY.make {k:Nat}{A:Around}(r:zY (k+1) A)(C:Addr)(us:List Value)(kw:List (Str×Value)):zY k (A.under (.builtin "type.__call__" ⟨.ref C::us,kw⟩)):=
 ⟨r.hd,by have:=r.dp;rw[nG];omega,by have:=r.un;rw[nJ];omega,(pb (A:=A)).trans r.gd⟩
theorem zY.depth {k:Nat}{A:Around}(r:zY k A):A.depth<recursionLimit:=by have:=r.dp;omega
theorem zY.units {k:Nat}{A:Around}(r:zY k A):A.units+64<cLine:=by have:=r.un;omega
def zc4 :TA:=fun _ H Q=>Q [] H
def aD (ta:TE)(tr:TA):TA:=fun σ H Q=>ta σ H fun x H1=>tr σ H1 fun xs H2=>Q (x::xs) H2
section
variable {X:Cx}{e:Expr}{es:List Expr}{te:TE}{t:TA}{pos:Pos}
theorem zv :PA X [] zc4:=fun _ _ _ _ H Q I h=>Calls.spliced_nil ⟨[],H,I,.nil,h⟩
theorem ze (ha:PE X e te)(hr:PA X es t)(hs:starEach (e::es) X.env=(false,eval e X.env)::starEach es X.env:=by rfl):PA X (e::es) (aD te t):=by
 intro pos pins s σ H Q I h
 rw[hs]
 show wpAny _ _ (spliced ((false,eval e X.env)::backTo pos (starEach es X.env))) _ _ s
 refine Calls.spliced_cons (thn (ha pins s σ H _ I h) fun u s1 ⟨x,H1,I1,r1,q1⟩=>?_)
 exact thn (hr pos pins s1 σ H1 _ I1 q1) fun us s2 ⟨xs,H2,I2,r2,q2⟩=>⟨x::xs,H2,I2,.cons r1 r2,q2⟩
def zd7 (t:TA):TE:=fun σ H Q=>t σ H fun xs H1=>xs.length≤sizeLine∧∀p,H1 p=none→Q (.ref p) (upd H1 p (.tup xs))
def ze2 (t:TA):TE:=fun σ H Q=>t σ H fun xs H1=>xs.length≤sizeLine∧∀p,H1 p=none→Q (.ref p) (upd H1 p (.lst xs))
theorem oY {x1}(h:PA X es t):PE X (.Tuple es x1 pos) (zd7 t):=by
 intro pins s σ H Q I hq
 refine wpAny_Tuple_spliced (thn (h pos pins s σ H _ I hq) fun us s1 ⟨xs,H1,I1,r,z,q⟩=>⟨by rw[←r.length];exact z,?_⟩)
 have hf:H1 s1.heap.objs.size=none:=I1.hok.fresh (zg5 _)
 refine⟨.ref s1.heap.objs.size,upd H1 s1.heap.objs.size (.tup xs),I1.laid (t':=s1.toks) (fun b u e=>zg8 _ e) (zg5 _) ?_,rfl,q _ hf⟩
 exact⟨z,us,r,⟨_,zh9 _ rfl,rfl,_,rfl⟩⟩
theorem jD (h:PA X es t):PE X (.List es pos) (ze2 t):=by
 intro pins s σ H Q I hq
 refine wpAny_List_spliced (thn (h pos pins s σ H _ I hq) fun us s1 ⟨xs,H1,I1,r,z,q⟩=>⟨by rw[←r.length];exact z,?_⟩)
 have hf:H1 s1.heap.objs.size=none:=I1.hok.fresh (zg5 _)
 refine⟨.ref s1.heap.objs.size,upd H1 s1.heap.objs.size (.lst xs),I1.laid (t':=s1.toks) (fun b u e=>zg8 _ e) (zg5 _) ?_,rfl,q _ hf⟩
 exact⟨z,us,0,r,zh9 _ rfl⟩
end
abbrev Sp :=List V→Hp→VK→XK→Prop
abbrev CXT :=List Env→Hp→Shared→XK→Value→Shared→Prop
structure nO (P:Program)(w:World)(K:PySem.W.Frag)(mg:Str→Option Value)(base:Heap)(A:Around)(outer:List Env)(s:Shared)(H:Hp):Prop where
 frames:A.frames=some outer
 mod:Mod K mg base
 bs:∀b o,base.get? b=some o→s.heap.get? b=some o∧H b=none
 bsz:base.objs.size≤s.heap.objs.size
 funs:s.heap.FunFrames base outer
 frf:∀b∈frs outer,H b=none
 hok:HOk P w H s.heap
 bare:AllBare s.gens
def CE (outer:List Env)(P:Program)(w:World)(H:Hp)(s:Shared)(Q:VK)(u:Value)(s':Shared):Prop:=
 ∃v H',s'.os=s.os∧AllBare s'.gens∧Un (frs outer) [] H H' s.heap s'.heap∧HOk P w H' s'.heap∧RelV v u∧Q v H'
def CR (CX:CXT)(outer:List Env)(P:Program)(w:World)(H:Hp)(s:Shared)(Q:VK)(E:XK)(r:Result)(s':Shared):Prop:=
 match r with
 |.ok (.ret u)=>CE outer P w H s Q u s'
 |.ok _=>False
 |.error e=>CX outer H s E e s'
structure zD (P:Program)(w:World)(K:PySem.W.Frag)(mg:Str→Option Value)(base:Heap)(CX:CXT)(k:Nat)(f:Addr)(fd:FuncData)(ps:List Str)(sp:Sp):Prop where
 len:∀vs H Q E,sp vs H Q E→vs.length=ps.length
 run:∀(A:Around) (outer:List Env) (s:Shared) (H:Hp) (args:Args) (us:List Value) (vs:List V) (Q:VK) (E:XK),zY k A→nO P w K mg base A outer s H→BindsTo s fd args (ps.zip us)→Vals vs us→sp vs H Q E→
  codeAny (model P w) A (.call (.ref f) args) (CR CX outer P w H s Q E) s
theorem zD.imp {P:Program}{w:World}{K:PySem.W.Frag}{mg:Str→Option Value}{base:Heap}{CX:CXT}{k:Nat}{f:Addr}{fd:FuncData}{ps:List Str}{sp sp':Sp}(F:zD P w K mg base CX k f fd ps sp)
  (h:∀vs H Q E,sp' vs H Q E→sp vs H Q E):zD P w K mg base CX k f fd ps sp':=
 ⟨fun vs H Q E q=>F.len vs H Q E (h _ _ _ _ q),fun A outer s H args us vs Q E hr he hb hv hs=>F.run A outer s H args us vs Q E hr he hb hv (h _ _ _ _ hs)⟩
theorem nO.make {P:Program}{w:World}{K:PySem.W.Frag}{mg:Str→Option Value}{base:Heap}{A:Around}{outer:List Env}{s:Shared}{H:Hp}(e:nO P w K mg base A outer s H)(C:Addr)(us:List Value)(kw:List (Str×Value)):
  nO P w K mg base (A.under (.builtin "type.__call__" ⟨.ref C::us,kw⟩)) outer s H:=⟨by first|exact e.frames|(simpa[Around.under,Code.envs,Code.isFrame,pushEnvs] using e.frames),e.mod,e.bs,e.bsz,e.funs,e.frf,e.hok,e.bare⟩
section
variable {X:Cx}{pins:List (Addr×Obj)}{σ:St}{H:Hp}{s s':Shared}
theorem Inv.env0 (I:Inv X pins σ H s):nO X.prog X.w X.K X.mg X.base X.A X.stack s H:=
 ⟨I.ok.frames,I.ok.mod,I.bs,zk7 I.ok.bsz I.sz,I.stack,I.stkFree,I.hok,I.bare⟩
theorem Inv.after {Q:VK}{u:Value}(I:Inv X pins σ H s)(h:CE X.stack X.prog X.w H s Q u s'):EP X pins σ Q u s':=by
 obtain⟨v,H',os,bare,un,hok,r,q⟩:=h
 obtain⟨hh,g,d,t,os'⟩:=s'
 obtain rfl:os'=s.os:=os
 exact⟨v,H',I.call (h':=hh) (g':=g) (d':=d) (t':=t) (ch:=[]) un hok bare (fun b z=>absurd z (by simp)),r,q⟩
end
def aW (sp:Sp)(dvs:List V)(E:XK)(t:TA):TE:=fun σ H Q=>t σ H fun vs H1=>sp (vs++dvs) H1 Q E
def cq (C:Addr)(m:Str)(sp:Sp)(dvs:List V)(E:XK)(ta:TE)(t:TA):TE:=fun σ H Q=>ta σ H fun x H1=>∃a dx fs,x=.ref a∧H1 a=some (.ins C dx fs)∧fs.lookup m=none∧
 t σ H1 fun vs H2=>sp (x::(vs++dvs)) H2 Q E
def za5 (C:Addr)(sp:Sp)(dvs:List V)(E:XK)(t:TA):TE:=fun σ H Q=>t σ H fun vs H1=>∀x dx,H1 x=none→H1 dx=none→dx≠x→
 sp (.ref x::(vs++dvs)) (upd (upd H1 dx (.own x)) x (.ins C dx [])) (fun v H2=>v=.non∧Q (.ref x) H2) E
def Binds (K:PySem.W.Frag)(fd:FuncData)(ps:List Str)(ds:List Value):Prop:=
 ∀(s:Shared) (us:List Value),K.In s.heap→(us++ds).length=ps.length→BindsTo s fd ⟨us,[]⟩ (ps.zip (us++ds))
theorem Binds.all {K:PySem.W.Frag}{fd:FuncData}{ps:List Str}(h:∀us:List Value,us.length=ps.length→bindArgs fd ⟨us,[]⟩=pure (ps.zip us)):Binds K fd ps []:=fun s us _ hl=>by
 rw[zo6] at hl ⊢
 exact .of_eq (h us hl)
def Passes (CX:CXT)(X:Cx)(E:XK):Prop:=∀(pins:List (Addr×Obj)) (σ:St) (H:Hp) (s:Shared) (e:Value) (s':Shared),Inv X pins σ H s→CX X.stack H s E e s'→X.xe e s'
section
variable {X:Cx}{CX:CXT}{k:Nat}{f C:Addr}{fd:FuncData}{ps:List Str}{sp:Sp}{dvs:List V}{ds:List Value}{E:XK}{x m:Str}{p pos apos:Pos}{e o:Expr}{es:List Expr}{ta:TE}{t:TA}
theorem nY {pins:List (Addr×Obj)}{σ:St}{H:Hp}{s:Shared}{Q:VK}{us:List Value}{vs:List V}(F:zD X.prog X.w X.K X.mg X.base CX k f fd ps sp)(hr:zY k X.A)(hb:Binds X.K fd ps ds)(hd:Vals dvs ds)(hx:Passes CX X E)
  (I:Inv X pins σ H s) (r:Vals vs us) (h:sp (vs++dvs) H Q E):wpAny (model X.prog X.w) X.A (call (.ref f) us) (EP X pins σ Q) X.xe s:=by
 have r2:Vals (vs++dvs) (us++ds):=r.append hd
 have hl:(us++ds).length=ps.length:=by rw[←r2.length];exact F.len _ _ _ _ h
 refine wpAny_call (zt6 (F.run X.A X.stack s H ⟨us,[]⟩ (us++ds) (vs++dvs) Q E hr I.env0 (hb s us I.kIn hl) r2 h) fun r s' hq=>?_)
 cases r with
 |error e=>exact hx pins σ H s e s' I hq
 |ok fl=>
  cases fl with
  |ret u=>exact I.after hq
  |next=>exact False.elim hq
  |brk=>exact False.elim hq
  |cont=>exact False.elim hq
theorem zM (F:zD X.prog X.w X.K X.mg X.base CX k f fd ps sp)(hr:zY k X.A)(hg:Gl X x)(hm:X.mg x=some (.ref f))(hk:PySem.W.keepIn X.K (.ref f)=true)(hb:Binds X.K fd ps ds)(hd:Vals dvs ds)(hx:Passes CX X E)
  (ha:PA X (e::es) t) (hdb:(x == ("__debug__":Str))=false:=by decide) (he:starEach (e::es) X.env=(false,eval e X.env)::starEach es X.env:=by rfl) (hpl:(backTo pos (starEach es X.env)).any (·.1)=false:=by rfl):
  PE X (.Call (.Name x p) (e::es) [] pos) (aW sp dvs E t):=by
 intro pins s σ H Q I h
 refine zt7 (vK I hg hm ?_ hdb)
 refine zw4 (h₀:=X.base) I.ok.mod.kin hk (thn (ha pos pins s σ H _ I h) fun us s1 ⟨vs,H1,I1,r,q⟩=>⟨I1.kIn,?_⟩) he hpl
 exact nY F hr hb hd hx I1 r q
theorem et {pl:Sem Bool}(he:PE X o ta)(c:Cls X.K C)(hm:Meth X.K C m f)(F:zD X.prog X.w X.K X.mg X.base CX k f fd ps sp)(hr:zY k X.A)(hb:Binds X.K fd ps ds)(hd:Vals dvs ds)(hx:Passes CX X E)(ha:PA X (e::es) t)
  (hst:starEach (e::es) X.env=(false,eval e X.env)::starEach es X.env:=by rfl) (hpl:(backTo pos (starEach es X.env)).any (·.1)=false:=by rfl)
  (ht:eval (.Call (.Attribute o m apos) (e::es) [] pos) X.env=(do
   let ov ←eval o X.env
   standAt apos.atName
   let (f,first) ←holding [ov] (getMethod ov m pl)
   callWith pos f first (backTo pos (starEach (e::es) X.env)) (backToKw pos (keywordEach [] X.env))):=by rfl):
  PE X (.Call (.Attribute o m apos) (e::es) [] pos) (cq C m sp dvs E ta t):=by
 intro pins s σ H Q I h
 refine zv1 (pl:=pl) (thn (he pins s σ H _ I h) fun u s1 ⟨x,H1,I1,rx,a,dx,fs,ex,ea,l,q⟩=>?_) ht
 subst ex
 obtain rfl:u=Value.ref a:=rx
 refine vt I1 ea c hm l ?_
 refine zw4 (first:=[.ref a]) (h₀:=X.base) I.ok.mod.kin hm.kp (thn (ha pos pins s1 σ H1 _ I1 q) fun us s2 ⟨vs,H2,I2,r,q2⟩=>⟨I2.kIn,?_⟩) hst hpl
 exact nY (us:=.ref a::us) (vs:=.ref a::vs) F hr hb hd hx I2 (.cons rfl r) q2
theorem pR {pl:Sem Bool}(he:PE X o ta)(c:Cls X.K C)(hm:Meth X.K C m f)(F:zD X.prog X.w X.K X.mg X.base CX k f fd ps sp)(hr:zY k X.A)(hb:Binds X.K fd ps ds)(hd:Vals dvs ds)(hx:Passes CX X E)
  (ht:eval (.Call (.Attribute o m apos) [] [] pos) X.env=(do
   let ov ←eval o X.env
   standAt apos.atName
   let (f,first) ←holding [ov] (getMethod ov m pl)
   callWith pos f first (backTo pos (starEach [] X.env)) (backToKw pos (keywordEach [] X.env))):=by rfl):
  PE X (.Call (.Attribute o m apos) [] [] pos) (cq C m sp dvs E ta zc4):=by
 intro pins s σ H Q I h
 refine zv1 (pl:=pl) (thn (he pins s σ H _ I h) fun u s1 ⟨x,H1,I1,rx,a,dx,fs,ex,ea,l,q⟩=>?_) ht
 subst ex
 obtain rfl:u=Value.ref a:=rx
 refine vt I1 ea c hm l ?_
 exact PySem.W.callWith_K0 (first:=[.ref a]) I1.kIn hm.kp (nY (us:=[.ref a]) (vs:=[.ref a]) F hr hb hd hx I1 (.cons rfl .nil) q)
structure Mk (K:PySem.W.Frag)(C f:Addr):Prop where
 makes:PySem.W.makesIn K C=true
 init:PySem.W.findIn K (.ref C) "__init__"=some (some (.ref f))
 fn:PySem.W.isFn K (.ref f)=true
 kp:PySem.W.keepIn K (.ref C)=true
theorem gG {pins:List (Addr×Obj)}{σ:St}{H:Hp}{s:Shared}{Q:VK}{us:List Value}{vs:List V}(M:Mk X.K C f)(F:zD X.prog X.w X.K X.mg X.base CX k f fd ps sp)(hr:zY (k+1) X.A)(hb:Binds X.K fd ps ds)(hd:Vals dvs ds)
  (hx:Passes CX X E) (I:Inv X pins σ H s) (r:Vals vs us)
  (h:∀x dx,H x=none→H dx=none→dx≠x→sp (.ref x::(vs++dvs)) (upd (upd H dx (.own x)) x (.ins C dx [])) (fun v H2=>v=.non∧Q (.ref x) H2) E):
  wpAny (model X.prog X.w) X.A (call (.ref C) us) (EP X pins σ Q) X.xe s:=by
 have hq:=h (s.heap.objs.size+1) s.heap.objs.size (I.hok.fresh (zp7 _)) (I.hok.fresh (zg5 _)) (zi3 (zp4 _))
 have I2:=Inv.made (C:=C) I
 have r2:Vals (V.ref (s.heap.objs.size+1)::(vs++dvs)) (Value.ref (s.heap.objs.size+1)::(us++ds)):=.cons rfl (r.append hd)
 have hl:(Value.ref (s.heap.objs.size+1)::us++ds).length=ps.length:=by
  have e:=r2.length
  rw[F.len _ _ _ _ hq] at e
  exact e.symm
 refine wpAny_call (jO (f:=f) I.kIn M.makes M.init (zs5.mp M.fn) (zt6 (F.run _ X.stack _ _ ⟨Value.ref (s.heap.objs.size+1)::us,[]⟩ (Value.ref (s.heap.objs.size+1)::(us++ds)) _ _ E (hr.make C us [])
  (I2.env0.make C us []) (hb _ (Value.ref (s.heap.objs.size+1)::us) I2.kIn hl) r2 hq) fun r s' hq'=>?_))
 cases r with
 |error e=>exact hx pins σ _ _ e s' I2 hq'
 |ok fl=>
  cases fl with
  |ret u=>
   obtain⟨v,H',I3,rv,ev,q3⟩:=I2.after hq'
   subst ev
   exact⟨rv,⟨V.ref (s.heap.objs.size+1),H',I3,rfl,q3⟩⟩
  |next=>exact False.elim hq'
  |brk=>exact False.elim hq'
  |cont=>exact False.elim hq'
theorem xI (M:Mk X.K C f)(F:zD X.prog X.w X.K X.mg X.base CX k f fd ps sp)(hr:zY (k+1) X.A)(hg:Gl X x)(hm:X.mg x=some (.ref C))(hb:Binds X.K fd ps ds)(hd:Vals dvs ds)(hx:Passes CX X E)
  (ha:PA X (e::es) t) (hdb:(x == ("__debug__":Str))=false:=by decide) (he:starEach (e::es) X.env=(false,eval e X.env)::starEach es X.env:=by rfl) (hpl:(backTo pos (starEach es X.env)).any (·.1)=false:=by rfl):
  PE X (.Call (.Name x p) (e::es) [] pos) (za5 C sp dvs E t):=by
 intro pins s σ H Q I h
 refine zt7 (vK I hg hm ?_ hdb)
 refine zw4 (h₀:=X.base) I.ok.mod.kin M.kp (thn (ha pos pins s σ H _ I h) fun us s1 ⟨vs,H1,I1,r,q⟩=>⟨I1.kIn,?_⟩) he hpl
 exact gG M F hr hb hd hx I1 r q
end
section
variable {X:Cx}{CX:CXT}{k:Nat}{f C:Addr}{fd:FuncData}{ps ks:List Str}{sp:Sp}{E:XK}{x m:Str}{p pos apos kpos:Pos}{e o:Expr}{es:List Expr}{kws:List Keyword}{te ta:TE}{t tk:TA}{nm:Option Str}
variable {g:List Value→List Value→List Value}{gV:List V→List V→List V}
end
structure zm (N P:List Str)(sc:Scope):Prop where
 kind:sc.kind=.function
 co:sc.isCoroutine=false
 gen:sc.isGenerator=false
 nd:N.Nodup
 pre:N.take P.length=P
 par:∀x∈P,sc.names.lookup x=some .local∨sc.names.lookup x=some .cell
 nofree:∀y∈sc.names,y.2≠.free
theorem rL {kindOf:Str→Option NameKind}{x:Str}:∀{binds:List (Str×Value)} {m:Str→Option Value},(∀v,(x,v)∉binds)→bindL kindOf binds m x=m x
 |[],_,_=>rfl
 |(n,v)::r,m,h=>by
  unfold bindL
  rw[rL fun w hw=>h w (zg7 _ hw)]
  split
  ·have:x≠n:=by rintro rfl;exact h v zh3
   simp[this]
  ·rfl
theorem rj {kindOf:Str→Option NameKind}{x:Str}:∀{binds:List (Str×Value)} {m:Str→Option Value},(∀v,(x,v)∉binds)→bindC kindOf binds m x=m x
 |[],_,_=>rfl
 |(n,v)::r,m,h=>by
  unfold bindC
  rw[rj fun w hw=>h w (zg7 _ hw)]
  split
  ·rfl
  ·have:x≠n:=by rintro rfl;exact h v zh3
   simp[this]
theorem sU {kindOf:Str→Option NameKind}{x:Str}{v:Value}:∀{P:List Str} {vs:List Value} {i:Nat} {m:Str→Option Value},P.Nodup→P[i]?=some x→vs[i]?=some v→kindOf x=some .local→
  bindL kindOf (P.zip vs) m x=some v
 |[],_,_,_,_,h,_,_=>by simp at h
 |_::_,[],_,_,_,_,h,_=>by simp at h
 |p::P,w::vs,0,m,nd,h1,h2,hk=>by
  simp at h1 h2;subst h1;subst h2
  show bindL kindOf ((p,w)::P.zip vs) m p=_
  unfold bindL
  rw[rL fun v hv=>(zt4.mp nd).1 (List.of_mem_zip hv).1,if_pos hk]
  simp
 |p::P,w::vs,i+1,m,nd,h1,h2,hk=>by
  show bindL kindOf ((p,w)::P.zip vs) m x=_
  unfold bindL
  exact sU (i:=i) (zt4.mp nd).2 (by simpa using h1) (by simpa using h2) hk
theorem sX {kindOf:Str→Option NameKind}{x:Str}{v:Value}:∀{P:List Str} {vs:List Value} {i:Nat} {m:Str→Option Value},P.Nodup→P[i]?=some x→vs[i]?=some v→kindOf x≠some .local→
  bindC kindOf (P.zip vs) m x=some v
 |[],_,_,_,_,h,_,_=>by simp at h
 |_::_,[],_,_,_,_,h,_=>by simp at h
 |p::P,w::vs,0,m,nd,h1,h2,hk=>by
  simp at h1 h2;subst h1;subst h2
  show bindC kindOf ((p,w)::P.zip vs) m p=_
  unfold bindC
  rw[rj fun v hv=>(zt4.mp nd).1 (List.of_mem_zip hv).1,if_neg hk]
  simp
 |p::P,w::vs,i+1,m,nd,h1,h2,hk=>by
  show bindC kindOf ((p,w)::P.zip vs) m x=_
  unfold bindC
  exact sX (i:=i) (zt4.mp nd).2 (by simpa using h1) (by simpa using h2) hk
def start (N:List Str)(vs:List V):St:=vs.map some++List.replicate (N.length-vs.length) none
def uM (CX:CXT)(P:Program)(w:World)(K:PySem.W.Frag)(mg:Str→Option Value)(base:Heap)(N:List Str)(qual:Str)(scope:Scope)(f:Addr)(cd:Value)(A:Around)(outer:List Env)(s:Shared)(H:Hp)(E:XK):Cx where
 prog:=P
 w:=w
 K:=K
 mg:=mg
 base:=base
 A:=A.deeper (envOfC qual scope s.heap.objs.size f cd)
 N:=N
 s₀:=s
 H₀:=H
 env:=envOfC qual scope s.heap.objs.size f cd
 outer:=outer
 stack:=envOfC qual scope s.heap.objs.size f cd::outer
 ex:=[]
 calm:=true
 fn:=fun _=>true
 pn:=[]
 xe:=fun e s'=>wpAny (model P w) (A.deeper (envOfC qual scope s.heap.objs.size f cd)) (leaving (envOfC qual scope s.heap.objs.size f cd) e) (fun _ s''=>CX outer H s E e s'') (fun e' s''=>CX outer H s E e' s'') s'
theorem oq {sc:Scope}{n:Nat}{x:Str}(h:sc.names.lookup x=some .cell):∃c,(cellsFrom n sc.names []).lookup x=some c:=by
 have q:=PySem.W.cellsFrom_some sc.names n [] (.inl h)
 exact Option.isSome_iff_exists.mp q
theorem lQ {CX:CXT}{P:Program}{w:World}{K:PySem.W.Frag}{mg:Str→Option Value}{base:Heap}{N ps:List Str}{qual:Str}{scope:Scope}{f:Addr}{cd:Value}{A:Around}{outer:List Env}{s s1:Shared}{H:Hp}{E:XK}{us:List Value}{vs:List V}
  (S:zm N ps scope) (hd:A.handled=none) (e0:nO P w K mg base A outer s H) (hl:vs.length=ps.length) (r:Vals vs us)
  (x:InCallC s s.heap.objs.size (bindL (envOfC qual scope s.heap.objs.size f cd).kindOf (ps.zip us) fun _=>none) (cellsFrom (s.heap.objs.size+1) scope.names []) (bindC (envOfC qual scope s.heap.objs.size f cd).kindOf (ps.zip us) fun _=>none) s1):
  Inv (uM CX P w K mg base N qual scope f cd A outer s H E) [] (start N vs) H s1:=by
 have hpl:ps.length≤N.length:=by have:=congrArg List.length S.pre;rw[zm8] at this;omega
 obtain⟨h1,tk,rfl,hk⟩:=x.done
 have noA:∀b:Addr,b∉(uM CX P w K mg base N qual scope f cd A outer s H E).ex:=fun b z=>absurd (show b∈([]:List Addr) from z) (by simp)
 refine⟨⟨e0.mod,S.kind,rfl,rfl,zg5 _,fun y z c h1 h2=>?_,fun y hy=>?_,fun y c _ h=>?_,fun _=>hd,Around.frames_deeper e0.frames,.inr ⟨rfl,rfl⟩,fun b z=>absurd z (noA b),e0.bs,e0.bsz,fun b _ _=>noA b,fun b z=>absurd z (noA b),e0.funs,e0.frf⟩,
  rfl,e0.bare,Un.kept hk,⟨_,x.toInCall.ns,fun i y v h1 h2 h3=>?_⟩,fun y c h=>⟨_,x.cell y c h⟩,e0.hok.fresh (zg5 _),fun y c h=>?_,fun p hp=>absurd (show p∈([]:List (Addr×Obj)) from hp) (by simp),e0.hok.kept hk,?_⟩
 ·exact name_of_addr x.apart (zm4 h1) (zm4 h2)
 ·have hy:scope.names.lookup y=some .cell∨scope.names.lookup y=some .free:=hy
  rcases hy with hy|hy
  ·exact oq hy
  ·exact absurd rfl (S.nofree _ (zm4 hy))
 ·exact zm3 (x.above y c (zm4 h))
 ·have hi:i<vs.length:=by
   unfold start at h2
   by_cases hi:i<vs.length
   ·exact hi
   ·rw[zo1 (by simpa using hi)] at h2
    rw[zn3] at h2
    split at h2<;>cases h2
  have ha:vs[i]?=some v:=by
   unfold start at h2
   rw[zl4 (by simpa using hi),zi6] at h2
   cases e:vs[i]? with
   |none=>rw[e] at h2;cases h2
   |some a=>rw[e] at h2;cases h2;rfl
  obtain⟨u,hu,rv⟩:=r.get ha
  have hp:ps[i]?=some y:=by
   rw[←S.pre,zt8 (by omega)];exact h1
  have ndP:ps.Nodup:=by rw[←S.pre];exact S.nd.sublist (zo8 _ _)
  refine⟨u,rv,?_⟩
  rcases S.par y (zj7 hp) with k|k
  ·exact .inl ⟨k,sU ndP hp hu k⟩
  ·obtain⟨c,e⟩:=oq (n:=s.heap.objs.size+1) k
   refine .inr ⟨.inl k,c,e,?_⟩
   have q:=x.cell y c e
   rw[sX ndP hp hu (by show scope.names.lookup y≠_;rw[k];decide)] at q
   exact q
 ·exact e0.hok.fresh (zm3 (x.above y c (zm4 h)))
 ·unfold start
  show _=N.length
  rw[zj2,zh4,List.length_replicate]
  omega
theorem dW {CX:CXT}{P:Program}{w:World}{K:PySem.W.Frag}{mg:Str→Option Value}{base:Heap}{k:Nat}{f:Addr}{name qual:Str}{params:Arguments}{body:List Stmt}{scope:Scope}{dV kV doc pm cdv ct oc:Value}{an od:Option Addr}
  {osl:Array (Option Value)} {N ps:List Str} {sp:Sp} (lk:K.lookup f=some ⟨oc,od,.func (PySem.W.fnOf name qual params body scope dV kV doc pm an cdv ct),osl⟩) (hcd:PySem.W.codeIn K cdv qual=true) (S:zm N ps scope)
  (len:∀vs H Q E,sp vs H Q E→vs.length=ps.length)
  (hbody:∀(A:Around) (outer:List Env) (s:Shared) (H:Hp) (vs:List V) (Q:VK) (E:XK),zY k (A.deeper (envOfC qual scope s.heap.objs.size f cdv))→sp vs H Q E→
   ∃t,PSs (uM CX P w K mg base N qual scope f cdv A outer s H E) body t∧t {nx:=fun _ H'=>Q .non H',rt:=Q} (start N vs) H):
  zD P w K mg base CX (k+1) f (PySem.W.fnOf name qual params body scope dV kV doc pm an cdv ct) ps sp:=by
 refine⟨len,fun A outer s H args us vs Q E hr e0 hb r hsp=>?_⟩
 have hl:=len _ _ _ _ hsp
 have KX:K.In s.heap:=e0.mod.kin.keeps fun b o e=>(e0.bs b o e).1
 have lim:s.heap.NoLimit:=e0.mod.nolimit.keeps fun b o e=>(e0.bs b o e).1
 have hkind:∀y∈ps.zip us,scope.names.lookup y.1=some .local∨(scope.names.lookup y.1=some .cell∧((cellsFrom (s.heap.objs.size+1) scope.names []).lookup y.1).isSome=true):=fun⟨n,v⟩ hy=>by
  rcases S.par n (List.of_mem_zip hy).1 with q|q
  ·exact .inl q
  ·exact .inr ⟨q,PySem.W.cellsFrom_some _ _ _ (.inl q)⟩
 refine codeAny_call_function hr.depth (KX _ _ lk) rfl S.co S.gen rfl (PySem.W.codeRec_of KX hcd) (hb _ _ _ _ ?_)
 refine wpAny_newFunctionEnv_cells S.kind hkind fun env he s1 x=>?_
 subst he
 refine⟨lim.keeps x.toInCall.keep,codeAny_func ?_⟩
 obtain⟨t,ht,hq⟩:=hbody A outer s H vs Q E (hr.deeper _) hsp
 have I:Inv (uM CX P w K mg base N qual scope f cdv A outer s H E) [] (start N vs) H s1:=lQ S hr.hd e0 hl r x
 refine zl6 (ht [] s1 (start N vs) H _ I hq) (fun fl s' hs=>?_) fun e s' hs=>hs
 have fin:∀{σ':St} {H':Hp} {v:V} {u:Value},Inv (uM CX P w K mg base N qual scope f cdv A outer s H E) [] σ' H' s'→RelV v u→Q v H'→CE outer P w H s Q u s':=
  fun {σ' H' v u} J rv q=>⟨v,H',J.os,J.bare,J.base,J.hok,rv,q⟩
 cases fl with
 |ret u=>
  obtain⟨v,σ',H',J,rv,q⟩:=hs
  exact fin J rv q
 |next=>
  obtain⟨σ',H',J,q⟩:=hs
  exact fin (v:=V.non) (u:=Value.none) J rfl q
 |brk=>
  obtain⟨_,_,_,q⟩:=hs
  exact False.elim q
 |cont=>
  obtain⟨_,_,_,q⟩:=hs
  exact False.elim q
section
variable {X:Cx}{x:Str}{p pos:Pos}{e:Expr}{es:List Expr}{t:TA}{id T:String}{r:List V→Hp→VK→Prop}
def tCB (r:List V→Hp→VK→Prop)(t:TA):TE:=fun σ H Q=>t σ H fun vs H1=>r vs H1 Q
theorem yw (hc:wt X (.builtin id) r)(hg:Gl X x)(hm:X.mg x=none)(hv:bootBuiltins x=some (.builtin id))(ha:PA X (e::es) t)(hn:x≠"__name__":=by decide)(hdb:(x == ("__debug__":Str))=false:=by decide)
  (he:starEach (e::es) X.env=(false,eval e X.env)::starEach es X.env:=by rfl) (hpl:(backTo pos (starEach es X.env)).any (·.1)=false:=by rfl):PE X (.Call (.Name x p) (e::es) [] pos) (tCB r t):=by
 intro pins s σ H Q I h
 refine zt7 (vZ I hg hm hv ?_ hn hdb)
 exact PyProof.Rows.callWith_builtin1 (thn (ha pos pins s σ H _ I h) fun us s1 ⟨vs,H1,I1,r1,q1⟩=>hc pins s1 σ H1 vs us Q I1 r1 q1) he hpl
theorem rp (hc:wt X (.type T) r)(hg:Gl X x)(hm:X.mg x=none)(hv:bootBuiltins x=some (.type T))(ha:PA X (e::es) t)(hn:x≠"__name__":=by decide)(hdb:(x == ("__debug__":Str))=false:=by decide)
  (he:starEach (e::es) X.env=(false,eval e X.env)::starEach es X.env:=by rfl) (hpl:(backTo pos (starEach es X.env)).any (·.1)=false:=by rfl):PE X (.Call (.Name x p) (e::es) [] pos) (tCB r t):=by
 intro pins s σ H Q I h
 refine zt7 (vZ I hg hm hv ?_ hn hdb)
 exact zp9 (thn (ha pos pins s σ H _ I h) fun us s1 ⟨vs,H1,I1,r1,q1⟩=>hc pins s1 σ H1 vs us Q I1 r1 q1) he hpl
end
end L2
namespace HT
open PySem PyProof.Rows
section
open PySem.SeqAt
open PySem.AutoSeq1 (wpAny_loadPart')
open PySem.MeetsSeq PySem.MeetsSeq2 PySem.MeetsSeq3
end
section
variable {prog:Program}{w:World}{A:Around}{E:Value→Shared→Prop}{s:Shared}
def sIx (n d:Nat):Option Int→Nat
 |none=>d
 |some v=>if v<0 then (v+(n:Int)).toNat else min v.toNat n
end
end HT
namespace L2
open PySem PySem.Spec PyProof.Rows
abbrev TO :=St→Hp→(Option Int→Hp→Prop)→Prop
def PO (X:Cx)(e:Option Expr)(t:TO):Prop:=
 ∀(pins:List (Addr×Obj)) (s:Shared) (σ:St) (H:Hp) (Q:Option Int→Hp→Prop),Inv X pins σ H s→t σ H Q→
  wpAny (model X.prog X.w) X.A (evalPart e X.env) (fun u s'=>∃o H',Inv X pins σ H' s'∧IsPart u o∧Q o H') X.xe s
def gY :TO:=fun _ H Q=>Q none H
def aF (t:TE):TO:=fun σ H Q=>t σ H fun x H1=>∃i,x=.int i∧Q (some i) H1
theorem intsAre_of {ns:List Int}:∀{us:List Value},Vals (ns.map V.int) us→IntsAre us ns:=by
 induction ns with
 |nil=>intro us r;rw[List.map_nil] at r;cases r;exact .nil
 |cons n ns ih=>
  intro us r
  rw[zl3] at r
  cases r with
  |cons r1 r2=>
   obtain⟨t,e⟩:=r1
   subst e
   exact .cons n t (ih r2)
section
variable {X:Cx}{e:Expr}{te:TE}{lo hi:Option Expr}{tl th:TO}{pos p2:Pos}
theorem eK :PO X none gY:=by
 intro pins s σ H Q I h
 rw[evalPart_none]
 exact zg4 ⟨none,H,I,.none,h⟩
theorem gU (h:PE X e te):PO X (some e) (aF te):=by
 intro pins s σ H Q I hw
 rw[evalPart_some]
 refine thn (h pins s σ H _ I hw) fun u s1 ⟨x,H1,I1,r1,q1⟩=>?_
 obtain⟨i,rfl,q⟩:=q1
 obtain⟨t,rfl⟩:=r1
 exact⟨some i,H1,I1,.int i t,q⟩
def SlR (X:Cx)(r:V→Option Int→Option Int→Hp→VK→Prop):Prop:=
 ∀(pins:List (Addr×Obj)) (s:Shared) (σ:St) (H:Hp) (x:V) (v vl vu:Value) (lo hi:Option Int) (sl:Addr) (Q:VK),Inv X pins σ H s→RelV x v→s.heap.IsSliceOf sl vl vu .none→IsPart vl lo→IsPart vu hi→r x lo hi H Q→
  ∃T id,typeLookup (.type T) "__getitem__"=pure (some (.builtin id))∧s.TypeIs v T∧wpAny (model X.prog X.w) X.A (getItem v (.ref sl)) (EP X pins σ Q) X.xe s
def tSl (r:V→Option Int→Option Int→Hp→VK→Prop)(te:TE)(tl th:TO):TE:=fun σ H Q=>te σ H fun x H1=>tl σ H1 fun l H2=>th σ H2 fun u H3=>r x l u H3 Q
theorem gf {r:V→Option Int→Option Int→Hp→VK→Prop}(hr:SlR X r)(he:PE X e te)(hl:PO X lo tl)(hu:PO X hi th):PE X (.Subscript e (.Slice lo hi none p2) pos) (tSl r te tl th):=by
 intro pins s σ H Q I h
 refine Subscript_ (thn (he pins s σ H _ I h) fun v s1 ⟨x,H1,I1,r1,q1⟩=>?_)
 refine wpAny_Slice (thn (hl pins s1 σ H1 _ I1 q1) fun vl s2 ⟨l,H2,I2,pl,q2⟩=>thn (hu pins s2 σ H2 _ I2 q2) fun vu s3 ⟨u,H3,I3,pu,q3⟩=>?_)
 rw[evalPart_none]
 refine zg4 ?_
 have I4:Inv X pins σ H3 {s3 with heap:=s3.heap.push {cls:=.type "slice",data:=.fields #[vl,vu,.none]}}:=I3.kept (t':=s3.toks) fun b ob q=>zg8 _ q
 obtain⟨T,id,hT,ht,hg⟩:=hr pins {s3 with heap:=s3.heap.push {cls:=.type "slice",data:=.fields #[vl,vu,.none]}} σ H3 x v vl vu l u s3.heap.objs.size Q I4 r1 (Heap.IsSliceOf.new ..) pl pu q3
 show wpAny (model X.prog X.w) X.A (subscriptTail e (.Slice lo hi none p2) v (.ref s3.heap.objs.size)) (EP X pins σ Q) X.xe {s3 with heap:=s3.heap.push {cls:=.type "slice",data:=.fields #[vl,vu,.none]}}
 exact tail_any (ops:=[.ref s3.heap.objs.size,v]) ht hT hg (by with_unfolding_all rfl)
def lp (xs:List V)(lo hi:Option Int):List V:=(xs.drop (HT.sIx xs.length 0 lo)).take (HT.sIx xs.length xs.length hi-HT.sIx xs.length 0 lo)
theorem pA (xs:List V)(lo hi:Option Int):(lp xs lo hi).length≤xs.length:=by
 unfold lp
 rw[zm8,zu9]
 omega
end
def ixN (n:Nat)(i:Int):Option Nat:=if 0≤i then (if i<n then some i.toNat else none) else if -(n:Int)≤i then some (i+n).toNat else none
def atI {α:Type}(xs:List α)(i:Int):Option α:=(ixN xs.length i).bind fun j=>xs[j]?
theorem qA {n:Nat}{i:Int}{j:Nat}(h:ixN n i=some j):seqIndex? i n=some j∧j<n∧-(n:Int)≤i∧i<n:=by
 unfold ixN at h
 by_cases h0:0≤i
 ·rw[if_pos h0] at h
  by_cases h1:i<n
  ·rw[if_pos h1] at h
   have e:i.toNat=j:=zk0 h
   exact⟨by rw[seqIndex_of h0 h1,e],by omega,by omega,h1⟩
  ·rw[if_neg h1] at h;cases h
 ·rw[if_neg h0] at h
  by_cases h1:-(n:Int)≤i
  ·rw[if_pos h1] at h
   have e:(i+n).toNat=j:=zk0 h
   exact⟨by rw[seqIndex_neg (by omega) h1,e],by omega,h1,by omega⟩
  ·rw[if_neg h1] at h;cases h
theorem rY {α:Type}{xs:List α}{i:Int}{v:α}(h:atI xs i=some v):∃j,seqIndex? i xs.length=some j∧xs[j]?=some v∧j<xs.length∧-(xs.length:Int)≤i∧i<xs.length:=by
 unfold atI at h
 cases e:ixN xs.length i with
 |none=>rw[e] at h;cases h
 |some j=>
  rw[e] at h
  obtain⟨h1,h2,h3,h4⟩:=qA e
  exact⟨j,h1,h,h2,h3,h4⟩
theorem fb {α:Type}{xs:List α}{j:Nat}{v:α}(h:xs[j]?=some v):atI xs (j:Int)=some v:=by
 have hj:j<xs.length:=(zh1.mp h).1
 have e:ixN xs.length (j:Int)=some j:=by
  unfold ixN
  rw[if_pos (by omega),if_pos (by omega)];simp
 unfold atI;rw[e];exact h
def uR (b:Expr):Prop:=∀o i,subscripted b false o i=operate [o,i] (getItem o i)
def IxR (X:Cx)(r:R2):Prop:=
 ∀(value slice:Expr) (pins:List (Addr×Obj)) (s:Shared) (σ:St) (H:Hp) (x y:V) (v u:Value) (Q:VK),Inv X pins σ H s→RelV x v→RelV y u→r x y H Q→
  subscripted slice false v u=operate [v,u] (getItem v u)→wpAny (model X.prog X.w) X.A (subscriptTail value slice v u) (EP X pins σ Q) X.xe s
def MtR (X:Cx)(id:String)(r:V→List V→Hp→VK→Prop):Prop:=
 ∀(pins:List (Addr×Obj)) (s:Shared) (σ:St) (H:Hp) (x:V) (xs:List V) (v:Value) (us:List Value) (Q:VK),Inv X pins σ H s→RelV x v→Vals xs us→r x xs H Q→
  wpAny (model X.prog X.w) X.A (call (.builtin id) (v::us)) (EP X pins σ Q) X.xe s
section
variable {X:Cx}{a b:Expr}{ta tb:TE}{pos:Pos}
theorem IxR.or {r r':R2}(h:IxR X r)(h':IxR X r'):IxR X (fun x y H Q=>r x y H Q∨r' x y H Q):=by
 intro value slice pins s σ H x y v u Q I rx ry q hs
 rcases q with q|q
 ·exact h value slice pins s σ H x y v u Q I rx ry q hs
 ·exact h' value slice pins s σ H x y v u Q I rx ry q hs
theorem yo {r:R2}(hr:IxR X r)(ha:PE X a ta)(hb:PE X b tb)(hs:uR b):PE X (.Subscript a b pos) (tOp r ta tb):=by
 intro pins s σ H Q I h
 exact Subscript_ (cS ha hb I h fun v u s2 x y H2 I2 rx ry q=>hr a b pins s2 σ H2 x y v u Q I2 rx ry q (hs _ _))
def cM (K:PySem.W.Frag):R2:=fun x y H Q=>∃p xs i v,x=.ref p∧y=.int i∧SqL K H p xs∧atI xs i=some v∧Q v H
def cP (K:PySem.W.Frag):R2:=fun x y H Q=>∃p xs i v,x=.ref p∧y=.int i∧SqT K H p xs∧atI xs i=some v∧Q v H
def aS :R2:=fun x y H Q=>∃z i c,x=.str z∧y=.int i∧z.length≤sizeLine∧atI z.cps.toList i=some c∧Q (.str ⟨#[c]⟩) H
theorem xp :IxR X (cM X.K):=by
 intro value slice pins s σ H x y v u Q I rx ry h hs
 obtain⟨p,xs,i,z,rfl,rfl,hq,he,q⟩:=h
 cases rx
 obtain⟨t,rfl⟩:=ry
 obtain⟨its,r,pl,hz⟩:=I.list hq
 obtain⟨j,h1,h2,h3,h4,h5⟩:=rY he
 obtain⟨w,ew,rw'⟩:=r.get h2
 have hl:=r.length
 have hn:=ug
 have fin:EP X pins σ Q w s:=⟨z,H,I,rw',q⟩
 by_cases h0:0≤i
 ·have hj:i.toNat=j:=by
   rw[seqIndex_of h0 h5] at h1
   exact zk0 h1
  exact item_listR pl.isList h0 (by omega) (by rw[hj];simpa using ew) fin hs
 ·have hj:(i+(its.toArray.size:Int)).toNat=j:=by
   rw[seqIndex_neg (by omega) h4] at h1
   rw[zh6,←hl]
   exact zk0 h1
  exact subscriptTail_builtinR (x:=w) pl.isList.typeIs slot_list_getitem.lookup
   (wpAny_getItem_list_neg (Q:=fun r s'=>r=w∧EP X pins σ Q r s') pl.isList (by omega) (by rw[zh6]<;>omega) (by omega) (by rw[hj];simpa using ew) ⟨rfl,fin⟩) hs
theorem yv :IxR X (cP X.K):=by
 intro value slice pins s σ H x y v u Q I rx ry h hs
 obtain⟨p,xs,i,z,rfl,rfl,hq,he,q⟩:=h
 cases rx
 obtain⟨t,rfl⟩:=ry
 obtain⟨its,r,pl,hz⟩:=I.tuple hq
 obtain⟨j,h1,h2,h3,h4,h5⟩:=rY he
 obtain⟨w,ew,rw'⟩:=r.get h2
 have hl:=r.length
 have hn:=ug
 have fin:EP X pins σ Q w s:=⟨z,H,I,rw',q⟩
 exact subscriptTail_builtinR (x:=w) pl.typeIs slot_tuple_getitem.lookup
  (getItem_tuple (j:=j) (Q:=fun r s'=>r=w∧EP X pins σ Q r s') pl (by omega) (by omega) (by rw[zh6,←hl];exact h1) (by simpa using ew) ⟨rfl,fin⟩) hs
theorem bB :IxR X aS:=by
 intro value slice pins s σ H x y v u Q I rx ry h hs
 obtain⟨z,i,c,rfl,rfl,hz,he,q⟩:=h
 obtain⟨t,rfl⟩:=rx
 obtain⟨t',rfl⟩:=ry
 obtain⟨j,h1,h2,h3,h4,h5⟩:=rY he
 have hl:z.cps.toList.length=z.length:=by simp[Str.length]
 rw[hl] at h1 h4 h5
 have hn:=ug
 exact tail_any (typeIs_str s z t) slot_str_getitem.lookup (getItem_str (c:=c) (by
  have e1:decide (i < -(2 ^ 63:Int))=false:=zi7 (by omega)
  have e2:decide (i≥2 ^ 63)=false:=zi7 (by omega)
  rw[e1,e2,Bool.or_false]) (by rw[h1];simpa using h2) ⟨.str ⟨#[c]⟩,H,I.tok _,⟨_,rfl⟩,q⟩) hs
def rIx (K:PySem.W.Frag):R2:=fun x y H Q=>cM K x y H Q∨cP K x y H Q∨aS x y H Q
theorem cA :IxR X (rIx X.K):=xp.or (yv.or bB)
theorem nc (its:List Value)(n j:Nat)(u:Value):Obj.mapSeq (·.setIfInBounds j u) {cls:=.type "list",data:=.seq its.toArray n}={cls:=.type "list",data:=.seq (its.set j u).toArray n}:=by
 simp[Obj.mapSeq]
theorem Inv.lst {pins:List (Addr×Obj)}{σ:St}{H:Hp}{s:Shared}{p:Addr}{xs:List V}(I:Inv X pins σ H s)(h:H p=some (.lst xs)):
  ∃(its:List Value) (n:Nat),Vals xs its∧s.heap.get? p=some {cls:=.type "list",data:=.seq its.toArray n}∧xs.length≤sizeLine:=by
 obtain⟨z,its,n,r,e⟩:=I.hok p _ h
 exact⟨its,n,r,e,z⟩
theorem Inv.lstUpd {pins:List (Addr×Obj)}{σ:St}{H:Hp}{s:Shared}{p:Addr}{xs ys:List V}{its its':List Value}{n n':Nat}{f:Obj→Obj}(I:Inv X pins σ H s)(h:H p=some (.lst xs))
  (ho:s.heap.get? p=some {cls:=.type "list",data:=.seq its.toArray n}) (hf:f {cls:=.type "list",data:=.seq its.toArray n}={cls:=.type "list",data:=.seq its'.toArray n'}) (r:Vals ys its') (hz:ys.length≤sizeLine) (t:Nat):
  Inv X pins σ (upd H p (.lst ys)) {s with heap:=s.heap.update p f,toks:=t}:=by
 have e:(s.heap.update p f).get? p=some {cls:=.type "list",data:=.seq its'.toArray n'}:=by
  rw[zs2 f ho (by rw[hf]<;>rfl),hf]
 refine I.write (x:=p) (e:=p) (by rw[h];trivial) (.inl rfl) (fun b u hb q=>(zr9 _ _ (zs9 hb)).trans q) ⟨_,e⟩ ?_
 exact⟨hz,its',n',r,e⟩
def mv :V→V→V→Hp→(Hp→Prop)→Prop:=fun o i v H Q=>∃p xs k j,o=.ref p∧i=.int k∧H p=some (.lst xs)∧ixN xs.length k=some j∧Q (upd H p (.lst (xs.set j v)))
theorem set_list :aV X mv:=by
 intro pins s σ H o i v ov iv u Q I ro ri rv h
 obtain⟨p,xs,k,j,rfl,rfl,hp,hj,q⟩:=h
 cases ro
 obtain⟨t,rfl⟩:=ri
 obtain⟨its,n,r,ho,hz⟩:=I.lst hp
 obtain⟨h1,h2,h3,h4⟩:=qA hj
 have hl:=r.length
 have hn:=ug
 have I':Inv X pins σ (upd H p (.lst (xs.set j v))) {s with heap:=s.heap.update p (Obj.mapSeq (·.setIfInBounds j u))}:=
  I.lstUpd hp ho (nc its n j u) (r.set rv j) (by rw[zk6];exact hz) s.toks
 by_cases h0:0≤k
 ·have hk:k.toNat=j:=by
   rw[seqIndex_of h0 h4] at h1
   exact zk0 h1
  exact PySem.W.ki_setAt ho h0 (by omega) (by rw[zh6,←hl];exact h4) (by rw[hk];exact⟨_,I',q⟩)
 ·have hk:(k+(its.toArray.size:Int)).toNat=j:=by
   rw[seqIndex_neg (by omega) h3] at h1
   rw[zh6,←hl]
   exact zk0 h1
  exact PySem.W.ki_setBack ho (by omega) (by rw[zh6,←hl];exact h3) (by omega) (by rw[hk];exact⟨_,I',q⟩)
theorem qI (lo hi:Option Int)(n:Nat):(sliceBounds lo hi none n).1=((HT.sIx n 0 lo:Nat):Int)∧(sliceBounds lo hi none n).2.1=((HT.sIx n n hi:Nat):Int)∧(sliceBounds lo hi none n).2.2=1:=by
 refine⟨?_,?_,rfl⟩
 ·cases lo with
  |none=>simp[sliceBounds,HT.sIx]
  |some i=>
   simp only[sliceBounds,HT.sIx,Option.getD_none,show (1:Int) > 0 by decide,zu0]
   by_cases h:i<0
   ·simp only[h,zu0]<;>omega
   ·simp only[h,if_false]<;>omega
 ·cases hi with
  |none=>simp[sliceBounds,HT.sIx]
  |some i=>
   simp only[sliceBounds,HT.sIx,Option.getD_none,show (1:Int) > 0 by decide,zu0]
   by_cases h:i<0
   ·simp only[h,zu0]<;>omega
   ·simp only[h,if_false]<;>omega
theorem sR (its:List Value)(lo hi:Option Int):slicePick its.toArray lo hi none=((its.drop (HT.sIx its.length 0 lo)).take (HT.sIx its.length its.length hi-HT.sIx its.length 0 lo)).toArray:=by
 obtain⟨h1,h2,h3⟩:=qI lo hi its.toArray.size
 unfold slicePick
 rw[h1,h2,h3]
 simp only[sliceRange_one,pick_run,zh6]<;>rfl
def zd4 (K:PySem.W.Frag):V→Option Int→Option Int→Hp→VK→Prop:=fun x lo hi H Q=>∃a xs,x=.ref a∧SqL K H a xs∧∀p,H p=none→Q (.ref p) (upd H p (.lst (lp xs lo hi)))
theorem di :SlR X (zd4 X.K):=by
 intro pins s σ H x v vl vu lo hi sl Q I rx hs pl pu h
 obtain⟨a,xs,rfl,hx,q⟩:=h
 cases rx
 obtain⟨its,r,ht,hz⟩:=I.list hx
 have hlen:=r.length
 refine⟨"list",_,slot_list_getitem.lookup,ht.isList.typeIs,?_⟩
 refine wpAny_getItem_list_slice ht.isList hs pl pu .none (by simp) ?_ (by rw[zh6]<;>omega)
 rw[sR,←hlen]
 refine⟨.ref s.heap.objs.size,_,I.laid (t':=s.toks) (o:=.lst (lp xs lo hi)) (fun b ob q=>zg8 _ q) (zg5 _) ?_,rfl,q _ (I.hok.fresh (zg5 _))⟩
 exact⟨zk7 (pA xs lo hi) hz,_,0,(r.drop (HT.sIx xs.length 0 lo)).take (HT.sIx xs.length xs.length hi-HT.sIx xs.length 0 lo),zh9 _ rfl⟩
def vf :V→Bool
 |.non=>true
 |.bl _=>true
 |.int _=>true
 |.str _=>true
 |_=>false
def eqV :V→V→Bool
 |.non,.non=>true
 |.bl a,.bl b=>a == b
 |.bl a,.int b=>(if a then 1 else 0)==b
 |.int a,.bl b=>a == (if b then 1 else 0)
 |.int a,.int b=>a == b
 |.str a,.str b=>a == b
 |_,_=>false
theorem bu {A:Around}{s:Shared}{y x:V}{u v:Value}(ry:RelV y u)(rx:RelV x v)(fy:vf y=true)(fx:vf x=true):SeqAt.EqAt A s u v (eqV y x):=by
 cases y with
 |non=>
  cases ry
  cases x with
  |non=>cases rx;exact SeqAt.EqAt.same _
  |bl b=>cases rx;exact SeqAt.EqAt.none_bool b
  |int b=>obtain⟨t,rfl⟩:=rx;exact SeqAt.EqAt.none_int b t
  |str b=>obtain⟨t,rfl⟩:=rx;exact SeqAt.EqAt.none_str b t
  |_=>exact absurd (show false=true from fx) zh5
 |bl a=>
  cases ry
  cases x with
  |non=>cases rx;exact SeqAt.EqAt.bool_none a
  |bl b=>cases rx;exact SeqAt.EqAt.bool_bool a b
  |int b=>obtain⟨t,rfl⟩:=rx;exact SeqAt.EqAt.bool_int a b t
  |str b=>obtain⟨t,rfl⟩:=rx;exact SeqAt.EqAt.bool_str a b t
  |_=>exact absurd (show false=true from fx) zh5
 |int a=>
  obtain⟨t',rfl⟩:=ry
  cases x with
  |non=>cases rx;exact SeqAt.EqAt.int_none a t'
  |bl b=>cases rx;exact SeqAt.EqAt.int_bool a t' b
  |int b=>obtain⟨t,rfl⟩:=rx;exact SeqAt.EqAt.int_int a t' b t
  |str b=>obtain⟨t,rfl⟩:=rx;exact SeqAt.EqAt.int_str a t' b t
  |_=>exact absurd (show false=true from fx) zh5
 |str a=>
  obtain⟨t',rfl⟩:=ry
  cases x with
  |non=>cases rx;exact SeqAt.EqAt.str_none a t'
  |bl b=>cases rx;exact SeqAt.EqAt.str_bool a t' b
  |int b=>obtain⟨t,rfl⟩:=rx;exact SeqAt.EqAt.str_int a t' b t
  |str b=>obtain⟨t,rfl⟩:=rx;exact SeqAt.EqAt.str_str a t' b t
  |_=>exact absurd (show false=true from fx) zh5
 |_=>exact absurd (show false=true from fy) zh5
def eqU (x:V)(u:Value):Bool:=match u with
 |.none=>eqV .non x
 |.bool b=>eqV (.bl b) x
 |.int i _=>eqV (.int i) x
 |.str z _=>eqV (.str z) x
 |_=>false
theorem jk {x y:V}{u:Value}(r:RelV y u)(f:vf y=true):eqU x u=eqV y x:=by
 cases y with
 |non=>cases r;rfl
 |bl b=>cases r;rfl
 |int i=>obtain⟨t,rfl⟩:=r;rfl
 |str z=>obtain⟨t,rfl⟩:=r;rfl
 |_=>exact absurd (show false=true from f) zh5
theorem qf {x:V}:∀{xs:List V} {us:List Value},Vals xs us→xs.all vf=true→us.any (eqU x)=xs.any fun y=>eqV y x
 |_,_,.nil,_=>rfl
 |y::xs,u::us,.cons r t,f=>by
  rw[zw6,zi9] at f
  rw[zw7,zw7,jk r f.1,qf t f.2]
theorem sC {A:Around}{s:Shared}{x:V}{v:Value}(rx:RelV x v)(fx:vf x=true):∀{xs:List V} {us:List Value},Vals xs us→xs.all vf=true→∀u∈us,SeqAt.EqAt A s u v (eqU x u)
 |_,_,.nil,_=>fun u hu=>by cases hu
 |y::xs,u::us,.cons r t,f=>fun u' hu=>by
  rw[zw6,zi9] at f
  rcases zg3.mp hu with rfl|hu
  ·rw[jk r f.1];exact bu r rx f.1 fx
  ·exact sC rx fx t f.2 u' hu
def inV (x:V)(xs:List V):Bool:=xs.any fun y=>eqV y x
def rIn (K:PySem.W.Frag)(neg:Bool):R2:=fun x y H Q=>∃p xs,y=.ref p∧(SqL K H p xs∨SqT K H p xs)∧vf x=true∧xs.all vf=true∧Q (.bl (if neg then !inV x xs else inV x xs)) H
theorem kZ :OpR X (compareOp .In) (rIn X.K false):=by
 intro pins s σ H x y v u Q I rx ry h
 obtain⟨p,xs,rfl,hq,fx,fs,q⟩:=h
 cases ry
 rcases hq with hq|hq
 ·obtain⟨its,r,pl,hz⟩:=I.list hq
  refine SeqAt.in_listAt (eqU x) pl.isList (fun w hw=>sC rx fx r fs w (by simpa using hw)) ⟨.bl _,H,I,rfl,?_⟩
  rw[show its.toArray.any (eqU x)=its.any (eqU x) by simp,qf r fs]
  exact q
 ·obtain⟨its,r,pl,hz⟩:=I.tuple hq
  refine SeqAt.in_tupleAt (eqU x) pl (fun w hw=>sC rx fx r fs w (by simpa using hw)) ⟨.bl _,H,I,rfl,?_⟩
  rw[show its.toArray.any (eqU x)=its.any (eqU x) by simp,qf r fs]
  exact q
theorem xZ :wt X (.builtin "len") (fun xs H Q=>∃p ys,xs=[.ref p]∧(SqL X.K H p ys∨SqT X.K H p ys)∧Q (.int ys.length) H):=by
 intro pins s σ H xs us Q I r h
 obtain⟨p,ys,rfl,hq,q⟩:=h
 obtain⟨u,rfl,rx⟩:=vals1 r
 cases rx
 have hn:=ug
 rcases hq with hq|hq
 ·obtain⟨its,r',pl,hz⟩:=I.list hq
  have hlen:=r'.length
  exact Calls.call_len_list pl.isList (by simp only[zh6]<;>omega) ⟨.int ys.length,H,I.tok _,⟨s.toks+1,by rw[zh6,hlen]⟩,q⟩
 ·obtain⟨its,r',pl,hz⟩:=I.tuple hq
  have hlen:=r'.length
  exact len_tuple pl (by simp only[zh6]<;>omega) ⟨.int ys.length,H,I.tok _,⟨s.toks+1,by rw[zh6,hlen]⟩,q⟩
theorem qi :wt X (.type "list") (fun xs H Q=>∃p ys,xs=[.ref p]∧(SqL X.K H p ys∨SqT X.K H p ys)∧∀l,H l=none→Q (.ref l) (upd H l (.lst ys))):=by
 intro pins s σ H xs us Q I r h
 obtain⟨p,ys,rfl,hq,q⟩:=h
 obtain⟨u,rfl,rx⟩:=vals1 r
 cases rx
 have fin:∀(its:List Value),Vals ys its→ys.length≤sizeLine→∀(h':Heap) (c':Nat),(∀b o',s.heap.get? b=some o'→h'.get? b=some o')→
   h'.get? s.heap.objs.size=some {cls:=.type "list",dict:=none,data:=.seq its.toArray c',slots:=#[]}→EP X pins σ Q (.ref s.heap.objs.size) {s with heap:=h'}:=fun its r' hz h' c' kp e=>
  ⟨.ref s.heap.objs.size,_,I.laid (t':=s.toks) kp (zg5 _) (show yq X.prog X.w _ h' _ (.lst ys) from ⟨hz,its,c',r',e⟩),rfl,q _ (I.hok.fresh (zg5 _))⟩
 rcases hq with hq|hq
 ·obtain⟨its,r',pl,hz⟩:=I.list hq
  have hlen:=r'.length
  obtain⟨o,ho,hc,n,hd⟩:=pl.isList
  exact call_list_seq p (.inl rfl) ho hc hd (fun h' c' kp e=>fin its r' hz h' c' kp e) (by simp only[zh6]<;>omega)
 ·obtain⟨its,r',pl,hz⟩:=I.tuple hq
  have hlen:=r'.length
  obtain⟨o,ho,hc,n,hd⟩:=pl
  exact call_list_seq p (.inr rfl) ho hc hd (fun h' c' kp e=>fin its r' hz h' c' kp e) (by simp only[zh6]<;>omega)
def tyV (K:PySem.W.Frag)(T:String)(x:V)(H:Hp):Prop:=match x with
 |.str _=>T="str"
 |.int _=>T="int"
 |.ref p=>(T="list"∧∃xs,SqL K H p xs)∨(T="tuple"∧∃o,K.lookup p=some o∧o.cls=.type "tuple"∧o.dict=none)∨
   (T="dict"∧((∃kvs,H p=some (.dK kvs))∨∃kvs,H p=some (.dT kvs)))∨(T="set"∧∃S n,H p=some (.set S n))
 |_=>False
theorem cK {pins:List (Addr×Obj)}{σ:St}{H:Hp}{s:Shared}{T:String}{x:V}{v:Value}(I:Inv X pins σ H s)(r:RelV x v)(ty:tyV X.K T x H):
  s.TypeIs v T∧∀a,v=.ref a→∃ob,s.heap.get? a=some ob∧ob.dict=none:=by
 cases x with
 |str z=>
  obtain⟨t,rfl⟩:=r
  cases (show T="str" from ty)
  exact⟨typeIs_str s z t,fun _ e=>nomatch e⟩
 |int i=>
  obtain⟨t,rfl⟩:=r
  cases (show T="int" from ty)
  exact⟨typeIs_int s i t,fun _ e=>nomatch e⟩
 |ref p=>
  cases r
  rcases ty with ⟨rfl,xs,hq⟩|⟨rfl,o,hk,hc,hd⟩|⟨rfl,hk⟩|⟨rfl,S,n,hk⟩
  ·obtain⟨its,_,pl,_⟩:=I.list hq
   refine⟨pl.isList.typeIs,fun a e=>?_⟩
   cases e
   obtain⟨o,n,e,c,hd,_⟩:=pl
   exact⟨o,e,hd⟩
  ·refine⟨⟨o,I.kIn p o hk,hc⟩,fun a e=>?_⟩
   cases e
   exact⟨o,I.kIn _ o hk,hd⟩
  ·have z:∃o,s.heap.get? p=some o∧o.ExactDict:=by
    rcases hk with ⟨kvs,hk⟩|⟨kvs,hk⟩
    ·obtain⟨_,_,_,_,o,_,_,e,ex,_⟩:=I.hok p _ hk
     exact⟨o,e,ex⟩
    ·obtain⟨_,_,_,_,o,_,_,e,ex,_⟩:=I.hok p _ hk
     exact⟨o,e,ex⟩
   obtain⟨o,e,ex⟩:=z
   refine⟨⟨o,e,ex.1⟩,fun a e2=>?_⟩
   cases e2
   exact⟨o,e,ex.2.1⟩
  ·obtain⟨o,_,_,_,e,ex,_⟩:=I.hok p _ hk
   refine⟨⟨o,e,ex.1⟩,fun a e2=>?_⟩
   cases e2
   exact⟨o,e,ex.2.1⟩
 |_=>exact False.elim ty
def tBM (K:PySem.W.Frag)(T:String)(r:V→List V→Hp→VK→Prop)(to:TE)(t:TA):TE:=fun σ H Q=>to σ H fun x H1=>tyV K T x H1∧t σ H1 fun xs H2=>r x xs H2 Q
variable {o e:Expr}{es:List Expr}{to:TE}{t:TA}{name:Str}{apos cpos:Pos}{T id:String}{r:V→List V→Hp→VK→Prop}
theorem ma (pa:PlainAttrs T)(slot:Slot T name id)(hty:typeOf (.builtin id)=pure (.type "method_descriptor"))(hm:MtR X id r)(ho:PE X o to)(ha:PA X (e::es) t)
  (hbase:attributeBase o name X.env (eval o X.env)=eval o X.env:=by rfl)
  (hfew:((backTo cpos (starEach (e::es) X.env)).all (fun x=>!x.1)&&(backToKw cpos (keywordEach [] X.env)).all (fun x=>x.1.isSome)
   &&decide ((e::es).length+([]:List Keyword).length+(if ([]:List Keyword).isEmpty then 0 else 1)<30))=true:=by rfl)
  (hline:(apos.endLine == cpos.line)=true:=by rfl) (hs:starEach (e::es) X.env=(false,eval e X.env)::starEach es X.env:=by rfl) (hplain:(backTo cpos (starEach es X.env)).any (·.1)=false:=by rfl):
  PE X (.Call (.Attribute o name apos) (e::es) [] cpos) (tBM X.K T r to t):=by
 intro pins s σ H Q I h
 refine wpAny_Call_method_late hbase hfew hline rfl (thn (ho pins s σ H _ I h) fun v s1 ⟨x,H1,I1,r1,ty,q1⟩=>?_)
 obtain⟨h1,h2⟩:=cK I1 r1 ty
 refine⟨T,id,pa,slot,hty,h1,h2,?_⟩
 have hA:=ha cpos pins s1 σ H1 _ I1 q1
 rw[hs] at hA ⊢
 refine Calls.callWith_builtin (by show (false||(backTo cpos (starEach es X.env)).any (·.1))=false;rw[hplain]<;>rfl) (Calls.evalArgs_plain ?_)
 exact thn hA fun us s2 ⟨vs,H2,I2,r2,q2⟩=>hm pins s2 σ H2 x vs v us Q I2 r1 r2 q2
/- xs.append(e),list.index on a module's tuple .. are MtR facts of 06m -/
end
def MtM (X:Cx)(id:String)(r:V→List V→Hp→VK→Prop):Prop:=
 ∀(pins:List (Addr×Obj)) (s:Shared) (σ:St) (H:Hp) (x:V) (xs:List V) (v:Value) (us:List Value) (Q:VK),Inv X pins σ H s→RelV x v→Vals xs us→r x xs H Q→
  wpAny (model X.prog X.w) X.A (call (.builtin id) (v::us)) (EP X pins σ Q) X.xe s
theorem Vals.one :∀{x:V} {us:List Value},Vals [x] us→∃u,us=[u]∧RelV x u
 |_,_,.cons r .nil=>⟨_,rfl,r⟩
theorem Vals.two :∀{x y:V} {us:List Value},Vals [x,y] us→∃u v,us=[u,v]∧RelV x u∧RelV y v
 |_,_,_,.cons r (.cons q .nil)=>⟨_,_,rfl,r,q⟩
theorem Vals.eraseIdx :∀{xs:List V} {us:List Value} (i:Nat),Vals xs us→Vals (xs.eraseIdx i) (us.eraseIdx i)
 |_,_,_,.nil=>.nil
 |_,_,0,.cons _ t=>t
 |_,_,i+1,.cons r t=>.cons r (Vals.eraseIdx i t)
theorem Vals.rep {xs:List V}{us:List Value}(h:Vals xs us):∀k:Nat,Vals (List.replicate k xs).flatten (List.replicate k us).flatten
 |0=>.nil
 |k+1=>by
  rw[zn8,zn8,zq2,zq2]
  exact Vals.append h (Vals.rep h k)
theorem rA {α:Type}:∀(l:List α) (i:Nat),(l.eraseIdx i).length≤l.length
 |[],_=>zg5 _
 |_::_,0=>zp7 _
 |_::r,i+1=>Nat.succ_le_succ (rA r i)
theorem foldl_rep (its:List Value):∀(k:Nat) (acc:List Value),
  List.foldl (fun x1 x2=>x1++x2) acc.toArray (List.replicate k its.toArray)=(acc++(List.replicate k its).flatten).toArray
 |0,acc=>by simp
 |k+1,acc=>by
  have e:acc.toArray++its.toArray=(acc++its).toArray:=by simp
  have e2:(acc++its)++(List.replicate k its).flatten=acc++(List.replicate (k+1) its).flatten:=by
   rw[zn8,zq2,zi2]
  rw[←e2,←foldl_rep its k (acc++its),←e,zn8,List.foldl_cons]
section
variable {X:Cx}{pins:List (Addr×Obj)}{σ:St}{H:Hp}{s:Shared}{l b:Addr}{xs ys zs:List V}
theorem Inv.lset {its its':List Value}{n:Nat}{f:Array Value→Array Value}{t':Nat}(I:Inv X pins σ H s)(hH:H l=some (.lst xs))
  (e:s.heap.get? l=some {cls:=.type "list",data:=.seq its.toArray n}) (hf:f its.toArray=its'.toArray) (hv:Vals ys its') (hz:ys.length≤sizeLine):
  Inv X pins σ (upd H l (.lst ys)) {s with heap:=s.heap.update l (Obj.mapSeq f),toks:=t'}:=by
 have q:=PySem.IsL.update e f
 rw[hf] at q
 refine I.write (x:=l) (e:=l) (by rw[hH];exact trivial) (.inl rfl) (fun b' u hb hu=>(zr9 s.heap (Obj.mapSeq f) (zs9 hb)).trans hu) ⟨_,q⟩ ?_
 exact⟨hz,its',_,hv,q⟩
theorem Inv.lnew {its:List Value}{t':Nat}(I:Inv X pins σ H s)(hv:Vals ys its)(hz:ys.length≤sizeLine):
  Inv X pins σ (upd H s.heap.objs.size (.lst ys)) {s with heap:=s.heap.push {cls:=.type "list",data:=.seq its.toArray},toks:=t'}:=
 I.laid (fun _ _ q=>zg8 _ q) (zg5 _) ⟨hz,its,0,hv,zh9 _ rfl⟩
theorem Inv.fresh (I:Inv X pins σ H s):H s.heap.objs.size=none:=I.hok.fresh (zg5 _)
theorem Inv.lstM (I:Inv X pins σ H s)(hH:H l=some (.lst xs)):xs.length≤sizeLine∧∃(its:List Value) (n:Nat),Vals xs its∧xs.length=its.length∧s.heap.get? l=some {cls:=.type "list",data:=.seq its.toArray n}:=by
 obtain⟨z,its,n,r,e⟩:=I.hok l _ hH
 exact⟨z,its,n,r,r.length,e⟩
theorem pL {n:Nat}(h:n≤sizeLine):Builtin.List.listTooLong n=false:=by
 unfold Builtin.List.listTooLong
 exact zi7 (by omega)
end
section
variable {X:Cx}
def ej :V→List V→Hp→VK→Prop:=fun x vs H Q=>∃l xs y,x=.ref l∧vs=[y]∧H l=some (.lst xs)∧xs.length<sizeLine∧Q .non (upd H l (.lst (xs++[y])))
theorem rh :MtM X "list.append" ej:=by
 intro pins s σ H x vs v us Q I rx rv h
 obtain⟨l,xs,y,rfl,rfl,hH,hz,q⟩:=h
 cases rx
 obtain⟨u,rfl,ru⟩:=rv.one
 obtain⟨z,its,n,r,hl,e⟩:=I.lstM hH
 refine zv4 F.slot_list_append ⟨_,e,rfl⟩ F.entry_list_append (F.args_list_append_2 _ _) (PySem.list_append l its.toArray n u (by rw[zh6];omega)) ⟨e,?_⟩
 refine⟨.non,_,I.lset (its':=its++[u]) hH e (by simp) (r.append (.cons ru .nil)) ?_,rfl,q⟩
 rw[zj2,List.length_singleton]
 omega
def dB :V→List V→Hp→VK→Prop:=fun x vs H Q=>∃l b xs zs,x=.ref l∧vs=[.ref b]∧H l=some (.lst xs)∧H b=some (.lst zs)∧xs.length+zs.length≤sizeLine∧Q .non (upd H l (.lst (xs++zs)))
theorem kK :MtM X "list.extend" dB:=by
 intro pins s σ H x vs v us Q I rx rv h
 obtain⟨l,b,xs,zs,rfl,rfl,hH,hB,hz,q⟩:=h
 cases rx
 obtain⟨u,rfl,ru⟩:=rv.one
 cases ru
 obtain⟨z,its,n,r,hl,e⟩:=I.lstM hH
 obtain⟨z2,its2,n2,r2,hl2,e2⟩:=I.lstM hB
 have hsz:its.toArray.size+its2.toArray.size≤sizeLine:=by rw[zh6,zh6];omega
 have hlong:¬(!its.toArray.isEmpty&&Builtin.List.listTooLong (its.toArray.size+its2.toArray.size))=true:=by
  rw[pL hsz,Bool.and_false]
  exact zh5
 refine zv4 F.slot_list_extend ⟨_,e,rfl⟩ F.entry_list_extend (F.args_list_extend_2 _ _)
  (AutoSeq1.list_extend_list_list_0 l its.toArray n b its2.toArray n2 hlong (by rw[zh6];omega) (by omega)) ⟨e,e2,?_⟩
 refine⟨.non,_,I.lset (its':=its++its2) hH e (by simp) (r.append r2) ?_,rfl,q⟩
 rw[zj2]
 omega
def ag :V→List V→Hp→VK→Prop:=fun x vs H Q=>∃l xs i k y,x=.ref l∧vs=[.int i]∧H l=some (.lst xs)∧-(2 ^ 63)≤i∧i<2 ^ 63∧seqIndex? i xs.length=some k∧xs[k]?=some y∧Q y (upd H l (.lst (xs.eraseIdx k)))
theorem jl :MtM X "list.pop" ag:=by
 intro pins s σ H x vs v us Q I rx rv h
 obtain⟨l,xs,i,k,y,rfl,rfl,hH,h1,h2,hk,hy,q⟩:=h
 cases rx
 obtain⟨u,rfl,ru⟩:=rv.one
 obtain⟨t,rfl⟩:=ru
 obtain⟨z,its,n,r,hl,e⟩:=I.lstM hH
 obtain⟨w,hw,rw'⟩:=r.get hy
 refine zv4 F.slot_list_pop ⟨_,e,rfl⟩ F.entry_list_pop (F.args_list_pop_2 _ _)
  (MeetsSeq.list_pop_at l its.toArray n i t k w (fitsIndex_both h1 h2) (by rw[zh6,←hl];exact hk) (by rw[←zo3];exact hw) (by rw[zh6];omega)) ⟨e,?_⟩
 refine⟨y,_,I.lset (its':=its.eraseIdx k) hH e ?_ (r.eraseIdx k) ?_,rw',q⟩
 ·show its.toArray.eraseIdxIfInBounds k=(its.eraseIdx k).toArray
  rw[List.eraseIdxIfInBounds_toArray]
 ·have:=rA xs k
  omega
def zf3 :R2:=fun x y H Q=>∃l b xs zs,x=.ref l∧y=.ref b∧H l=some (.lst xs)∧H b=some (.lst zs)∧xs.length+zs.length≤sizeLine∧∀p,H p=none→Q (.ref p) (upd H p (.lst (xs++zs)))
theorem gp :OpR X (binaryOp .Add) zf3:=by
 intro pins s σ H x y v u Q I rx ry h
 obtain⟨l,b,xs,zs,rfl,rfl,hH,hB,hz,q⟩:=h
 cases rx
 cases ry
 obtain⟨z,its,n,r,hl,e⟩:=I.lstM hH
 obtain⟨z2,its2,n2,r2,hl2,e2⟩:=I.lstM hB
 refine PySem.P.add_list e e2 ?_ (by rw[zh6,zh6];omega)
 have ea:its.toArray++its2.toArray=(its++its2).toArray:=by simp
 rw[ea]
 exact⟨.ref _,_,I.lnew (t':=s.toks) (r.append r2) (by rw[zj2];omega),rfl,q _ I.fresh⟩
def zf7 :R2:=fun x y H Q=>∃l k xs,x=.ref l∧y=.int k∧H l=some (.lst xs)∧-(2 ^ 63)≤k∧k<2 ^ 63∧xs.length*k.toNat≤sizeLine∧
 ∀p,H p=none→Q (.ref p) (upd H p (.lst (List.replicate k.toNat xs).flatten))
theorem len_rep {α:Type}(xs:List α)(k:Nat):(List.replicate k xs).flatten.length=k*xs.length:=by
 induction k with
 |zero=>simp
 |succ k ih=>rw[zn8,zq2,zj2,ih,Nat.succ_mul,Nat.add_comm]
theorem bT :OpR X (binaryOp .Mult) zf7:=by
 intro pins s σ H x y v u Q I rx ry h
 obtain⟨l,k,xs,rfl,rfl,hH,h1,h2,hz,q⟩:=h
 cases rx
 obtain⟨t,rfl⟩:=ry
 obtain⟨z,its,n,r,hl,e⟩:=I.lstM hH
 have hlen:its.toArray.size*k.toNat≤sizeLine:=by rw[zh6,←hl];exact hz
 have hcap:¬its.toArray.size*k.toNat > (2 ^ 63-1) / 8:=by
  have:(sizeLine:Nat)≤(2 ^ 63-1) / 8:=by decide
  omega
 have hfit:¬(!Builtin.List.listFitsIndex k)=true:=by
  rw[fitsIndex_both h1 h2]
  exact zh5
 have hlong:¬Builtin.List.listTooLong (its.toArray.size*k.toNat)=true:=by
  rw[pL hlen]
  exact zh5
 have hnew:List.foldl (fun x1 x2=>x1++x2) #[] (List.replicate (if its.toArray.isEmpty=true then 0 else k.toNat) its.toArray)=(List.replicate k.toNat its).flatten.toArray:=by
  have f0:∀m:Nat,List.foldl (fun x1 x2=>x1++x2) #[] (List.replicate m its.toArray)=(List.replicate m its).flatten.toArray:=fun m=>by
   have:=foldl_rep its m []
   rw[List.nil_append] at this
   exact this
  rw[f0]
  cases its with
  |nil=>simp
  |cons a r'=>rw[if_neg (by simp)]
 refine wpAny_binaryOp_repeat_ref (T:="list") (U:="int") (by decide) ⟨_,e,rfl⟩ (fun s'=>typeIs_int s' k t) noFill_list_mul F.fills_int_mul F.slot_int_rmul repeat_list F.slot_int_index.lookup
  (zv4 F.slot_int_rmul (typeIs_int s k t) F.entry_int_rmul (F.args_int_rmul_2 _ _) (int___rmul___int_list k t l its.toArray n)
   ⟨e,rfl,⟨_,e,rfl⟩,zv4 F.slot_list_mul ⟨_,e,rfl⟩ F.entry_list_mul (F.args_list_mul_2 _ _) (AutoListH.list___mul___list_int_3 l its.toArray n k t hfit hcap hlong) ⟨e,?_⟩⟩)
 rw[hnew]
 exact⟨.ref _,_,I.lnew (t':=s.toks) (r.rep k.toNat) (by rw[len_rep,Nat.mul_comm];exact hz),rfl,q _ I.fresh⟩
end
section
variable {prog:Program}{w:World}{A:Around}{E:Value→Shared→Prop}{s:Shared}
end
section
variable {X:Cx}
end
end L2
namespace Att
open PySem PySem.W PySem.Calls PyProof.Rows
theorem uK {P:Params}{h:Heap}:∀(ns:List Int) (vs:List Value),WellAll P h vs (ns.map WData.int)→IntsAre vs ns:=by
 intro ns
 induction ns with
 |nil=>
  intro vs w
  rw[List.map_nil] at w
  cases w
  exact .nil
 |cons n ns ih=>
  intro vs w
  rw[zl3] at w
  cases w with
  |cons a b=>
   cases a
   exact .cons _ _ (ih _ b)
theorem lq {l:OpenLaw}{n:Nat}(hn:l.most=some n){P:Params}{h:Heap}{args:List WData}{vals:List Value}
  (hpre:l.row.toRowW.claim.pre args=true) (hwl:WellAll P h vals args):
  ∃a vs ns,vals=[Value.ref a]∧args=[WData.list (ns.map WData.int)]∧h.get? a=some {cls:=.type "list",data:=.seq vs.toArray}∧IntsAre vs ns∧ns.length≤n:=by
 have hsh:WShape.hasAll [] args [.list .int]=true:=(pre_splitW hpre).1
 have hc:l.pre.holds [] {args:=args}=true:=(pre_splitW hpre).2
 obtain⟨d,r,rfl,h1,h2⟩:=hasAllW_cons hsh
 obtain rfl:=hasAllW_nil h2
 obtain⟨xs,rfl,h3⟩:=hasW_list h1
 obtain⟨ns,rfl⟩:=items_int h3
 have hlen:ns.length≤n:=by
  unfold OpenLaw.pre at hc
  have h4:(WTm.not (.lt (.lit (.int (n:Int))) (.len (.arg 0)))).holds [] {args:=[.list (ns.map .int)]}=true:=by
   have h4:=(holds_andW hc).1
   rw[hn] at h4
   exact h4
  have h5:=condW_of h4 (w_not (w_lt w_lit (w_len_list (w_arg rfl))))
  rw[zh4] at h5
  refine Nat.le_of_not_lt fun q=>?_
  have q':(n:Int)<((ns.length:Nat):Int):=by omega
  first
   |(rw[zk1 q'] at h5;exact absurd h5 (by decide))
   |(simp at h5;omega)
 cases hwl with
 |cons w1 w2=>
  cases w2
  cases w1 with
  |list ho hall=>exact⟨_,_,ns,rfl,rfl,ho,uK ns _ hall,hlen⟩
theorem lM (l:OpenLaw)(args:List WData):l.row.toRowW.claim.post args (.bool true) args=true:=
 postW_of (r:=l.row.toRowW) (X:=(true == true))
  (show WShape.has [] (.bool true) .bool=true by first|rfl|decide|simp[WShape.has,WShape.arms,WShape.armsAll])
  (show (WTm.eq .res (.lit (.bool true))).value [] {args:=args,res:=some (.bool true),after:=args}=some (.bool (true == true)) from w_eq_bool (w_res rfl) w_lit) rfl
theorem attach_call {l:OpenLaw}{n:Nat}{q:Program}{loose:List Str}{XP:(Str→Option Value)→Heap→Prop}{YP:World→Heap→Prop}{d:DefRec}
  (hn:l.most=some n) (hdf:d.params.defaults=[])
  (call:∀(w:World) (s₀ s₁:Shared) (mg mb:Str→Option Value) (fa:Addr) (o:Obj) (pm cd doc:Value) (a:Addr) (vs:List Value) (ns:List Int),
   Ground q loose [] XP w s₀ mg mb s₁.heap→YP w s₁.heap→
   s₁.heap.get? fa=some o→o.data=.func (docDef d.name d.params d.body d.scope pm cd doc)→s₁.heap.CodeRec cd d.name→mg d.name=some (.ref fa)→
   s₁.heap.get? a=some {cls:=.type "list",data:=.seq vs.toArray}→IntsAre vs ns→ns.length≤n→s₁.gens=#[]→
   codeAny (model l.prog w) callerA (.call (.ref fa) ⟨[.ref a],[]⟩) (fun r s'=>r=.ok (.ret (.bool true))∧OldK s₁.heap s'.heap∧s'.os=s₁.os∧AllBare s'.gens) s₁):
  WalkO q loose XP YP l.row.toRowW d [] (fun f vs=>PySem.call f vs):=by
 intro w s₀ s₁ mg mb G Y fa o pm cd doc dV kV ho hd hcd hD hmg hg args vals as hpre hlay hrd hwl hlo
 obtain rfl:dV=.none:=Dflts.none hD hdf
 obtain rfl:kV=.none:=Dflts.noKw hD
 obtain⟨a,vs,ns,rfl,rfl,hobj,hints,hlen⟩:=lq hn hpre hwl
 refine enter_call (zt6 (call w s₀ s₁ mg mb fa o pm cd doc a vs ns G Y ho (fd_plain hd) hcd hmg hobj hints hlen hg) fun r s' hq=>?_)
 obtain⟨rfl,h2,h3,h4⟩:=hq
 exact⟨.inl ⟨.bool true,.bool true,[],rfl,fun _=>rfl,.bool true,lM l _,fun _=>⟨List.Pairwise.nil,fun _ hm=>(nomatch hm)⟩⟩,h2,h3,h4⟩
section
variable {prog:Program}{w:World}{A:Around}{E:Value→Shared→Prop}{s:Shared}{K:Frag}
end
end Att
namespace L2
open PySem PySem.Spec PyProof.Rows
theorem rJ :∀{vs:List Value} {ns:List Int},IntsAre vs ns→Vals (ns.map V.int) vs
 |_,_,.nil=>.nil
 |_,_,.cons n t h=>.cons ⟨t,rfl⟩ (rJ h)
def bU (H:Hp):Prop:=∀b,H b=none∨∃o xs,H b=some (.frz o (.lst xs))
theorem iF {P:Program}{w:World}{K:PySem.W.Frag}{mg mb:Str→Option Value}{CX:CXT}{k:Nat}{fa a:Addr}{fd:FuncData}{x:Str}{sp:Sp}{s₁:Shared}{vs:List Value}{ns:List Int}
  (KX:K.In s₁.heap) (hns:s₁.heap.Ns mainGlobals mg) (hb:s₁.heap.Ns builtinsNs mb) (hbb:∀x:Str,x≠"__name__"→mb x=bootBuiltins x) (hlim:s₁.heap.NoLimit) (hg:s₁.gens=#[])
  (ha:s₁.heap.get? a=some {cls:=.type "list",data:=.seq vs.toArray}) (hi:IntsAre vs ns) (hl:ns.length≤sizeLine) (hr:zY k callerA)
  (F:∀base:Heap,K.In base→base.Ns mainGlobals mg→zD P w K mg base CX k fa fd [x] sp) (hbind:∀(s:Shared) (u:Value),BindsTo s fd ⟨[u],[]⟩ [(x,u)])
  (hsp:∀H:Hp,bU H→SqL K H a (ns.map V.int)→sp [.ref a] H (fun v _=>v=.bl true) fun _ _ _=>False)
  (hCX:∀H e s',CX [] H s₁ (fun _ _ _=>False) e s'→False):
  codeAny (model P w) callerA (.call (.ref fa) ⟨[.ref a],[]⟩) (fun r s'=>r=.ok (.ret (.bool true))∧OldK s₁.heap s'.heap∧s'.os=s₁.os∧AllBare s'.gens) s₁:=by
 have rv:=rJ hi
 have lenV:=hi.length
 -- from an abstract heap in which nothing but the script may be tracked
 have core:∀H:Hp,bU H→SqL K H a (ns.map V.int)→HOk P w H s₁.heap→(∀b,H b≠none→b=a)→(H a≠none→K.lookup a=none)→
   codeAny (model P w) callerA (.call (.ref fa) ⟨[.ref a],[]⟩) (fun r s'=>r=.ok (.ret (.bool true))∧OldK s₁.heap s'.heap∧s'.os=s₁.os∧AllBare s'.gens) s₁:=by
  intro H hO hS hok hA hK
  have base_of:∀{b:Addr} {o:Obj},s₁.heap.get? b=some o→H b=none→(qk s₁.heap H).get? b=some o:=fun e n=>jV e n
  have noA:∀{b:Addr} {o:Obj} {es:Array DictEntry} {ep:Nat},s₁.heap.get? b=some o→o.data=.dict es ep→H b=none:=fun {b o es ep} e d=>by
   cases q:H b with
   |none=>rfl
   |some u=>
    have e':b=a:=hA b (by rw[q];simp)
    subst e'
    rw[ha] at e;cases e
    have d':Data.seq vs.toArray _=Data.dict es ep:=d
    cases d'
  have nsK:∀{b:Addr} {m:Str→Option Value},s₁.heap.Ns b m→(qk s₁.heap H).Ns b m:=fun {b m} ⟨o,es,ep,e,d,r⟩=>⟨o,es,ep,base_of e (noA e d),d,r⟩
  have hKb:K.In (qk s₁.heap H):=fun b o e=>base_of (KX b o e) (by
   cases q:H b with
   |none=>rfl
   |some u=>
    have e':b=a:=hA b (by rw[q];simp)
    subst e'
    rw[hK (by rw[q];simp)] at e;cases e)
  have hM:Mod K mg (qk s₁.heap H):=⟨hKb,nsK hns,⟨mb,nsK hb,hbb⟩,let ⟨mc,h1,h2⟩:=hlim;⟨mc,nsK h1,h2⟩⟩
  have e0:nO P w K mg (qk s₁.heap H) callerA [] s₁ H:=⟨rfl,hM,fun b o e=>dq e,zo5 (kA _ _),trivial,fun b hb=>absurd (show b∈([]:List Addr) from hb) (by simp),hok,.of_eq hg⟩
  refine zt6 ((F _ hKb (nsK hns)).run callerA [] s₁ H ⟨[.ref a],[]⟩ [.ref a] [.ref a] _ _ hr e0 (hbind s₁ (.ref a)) (.cons rfl .nil) (hsp H hO hS)) fun r s' h=>?_
  cases r with
  |error e=>exact (hCX H e s' h).elim
  |ok fl=>
   cases fl with
   |next=>exact False.elim h
   |brk=>exact False.elim h
   |cont=>exact False.elim h
   |ret u=>
    obtain⟨v,H',os,bare,un,hok',r',q⟩:=h
    have q':v=.bl true:=q
    subst q'
    obtain rfl:u=Value.bool true:=r'
    refine⟨rfl,OldK.of_keep fun b o e=>?_,os,bare⟩
    cases q:H b with
    |none=>exact un.keep b o e q (by intro z;exact absurd (show b∈([]:List Addr) from z) (by simp)) (by simp)
    |some u=>
     rcases hO b with z|⟨ob,xs,z⟩
     ·rw[q] at z;cases z
     ·have z2:=un.frzs b ob _ z
      obtain⟨e1,_⟩:=hok b _ z
      obtain⟨e2,_⟩:=hok' b _ z2
      rw[e] at e1;cases e1
      exact e2
 cases hk:K.lookup a with
 |some o=>
  -- the script is one of the module's own objects
  have e:=KX a o hk
  rw[ha] at e
  cases e
  refine core (fun _=>none) (fun _=>.inl rfl) (.inr ⟨_,vs.toArray,_,hk,rfl,rfl,rfl,by rw[zh6,lenV];exact hl,by simpa using rv⟩) (fun b u z=>by have z':(none:Option HO)=some u:=z;cases z') (fun b z=>absurd rfl z) fun z=>absurd rfl z
 |none=>
  refine core (fun b=>if b=a then some (.frz {cls:=.type "list",data:=.seq vs.toArray} (.lst (ns.map V.int))) else none) (fun b=>?_) (.inl (.inr ⟨{cls:=.type "list",data:=.seq vs.toArray},if_pos rfl⟩)) (fun b u z=>?_) (fun b z=>?_) fun _=>hk
  ·by_cases hb:b=a
   ·exact .inr ⟨_,_,if_pos hb⟩
   ·exact .inl (if_neg hb)
  ·by_cases hb:b=a
   ·have z':=(if_pos hb).symm.trans z
    cases z'
    subst hb
    exact⟨ha,by rw[zh4];exact hl,vs,_,rv,ha⟩
   ·have z':=(if_neg hb).symm.trans z
    cases z'
  ·by_cases hb:b=a
   ·exact hb
   ·exact absurd (if_neg hb) z
theorem du {l:PySem.W.OpenLaw}{n k:Nat}{q:Program}{loose:List Str}{XP:(Str→Option Value)→Heap→Prop}{YP:World→Heap→Prop}{d:DefRec}{K:Params→PySem.W.Frag}{CX:World→CXT}{sp:World→Sp}{x:Str}
  (hn:l.most=some n) (hn2:n≤sizeLine) (hdf:d.params.defaults=[]) (hr:zY k callerA)
  (hY:∀(w:World) (h:Heap),YP w h→(K w.params).In h)
  (F:∀(w:World) (mg:Str→Option Value) (fa:Addr) (h:Heap),(K w.params).In h→h.Ns mainGlobals mg→mg d.name=some (.ref fa)→
   ∃fd:FuncData,(∀(s:Shared) (u:Value),BindsTo s fd ⟨[u],[]⟩ [(x,u)])∧
    ∀base:Heap,(K w.params).In base→base.Ns mainGlobals mg→zD l.prog w (K w.params) mg base (CX w) k fa fd [x] (sp w))
  (hsp:∀(w:World) (H:Hp) (a:Addr) (ns:List Int),ns.length≤n→bU H→SqL (K w.params) H a (ns.map V.int)→sp w [.ref a] H (fun v _=>v=.bl true) fun _ _ _=>False)
  (hCX:∀(w:World) (H:Hp) (s:Shared) (e:Value) (s':Shared),CX w [] H s (fun _ _ _=>False) e s'→False):
  PySem.W.WalkO q loose XP YP l.row.toRowW d [] (fun f vs=>PySem.call f vs):=by
 refine Att.attach_call hn hdf fun w s₀ s₁ mg mb fa o pm cd doc a vs ns G Y ho hd hcd hmg hobj hints hlen hg=>?_
 have KX:=hY w _ Y
 obtain⟨fd,hb,hF⟩:=F w mg fa _ KX G.T.g hmg
 exact iF KX G.T.g G.T.b G.T.builtins G.T.nolimit hg hobj hints (zk7 hlen hn2) hr hF hb (fun H hO hS=>hsp w H a ns hlen hO hS) fun H e s'=>hCX w H s₁ e s'
def inClass (s:Stmt)(j:Nat):Stmt:=match s with
 |.ClassDef _ _ _ body _ _ _ _ _ _ _=>body.getD j (.Pass ⟨0,0,0,0⟩)
 |_=>.Pass ⟨0,0,0,0⟩
def yg (s:Stmt):Arguments:=match s with
 |.FunctionDef _ a _ _ _ _ _ _ _ _=>a
 |_=>{posonlyargs:=[],args:=[],vararg:=none,kwonlyargs:=[],kw_defaults:=[],kwarg:=none,defaults:=[]}
def zI (s:Stmt):List Stmt:=match s with
 |.FunctionDef _ _ b _ _ _ _ _ _ _=>b
 |_=>[]
def zc (s:Stmt):Scope:=match s with
 |.FunctionDef _ _ _ _ _ _ sc _ _ _=>sc
 |_=>{kind:=.function,names:=[],isGenerator:=false,isCoroutine:=false}
abbrev CX0 :CXT:=fun _ _ _ _ _ _=>False
abbrev E0 :XK:=fun _ _ _=>False
theorem zR {X:Cx}:Passes CX0 X E0:=fun _ _ _ _ _ _ _ h=>h.elim
structure Fun (K:PySem.W.Frag)(x qual:Str)(st:Stmt)(f:Addr)(fd:FuncData):Prop where
 ex:∃(oc:Value) (od:Option Addr) (kV doc pm:Value) (an:Option Addr) (cdv ct:Value) (osl:Array (Option Value)),
  fd=PySem.W.fnOf x qual (yg st) (zI st) (zc st) .none kV doc pm an cdv ct∧K.lookup f=some ⟨oc,od,.func fd,osl⟩∧PySem.W.codeIn K cdv qual=true
 kp:PySem.W.keepIn K (.ref f)=true
section
variable {P:Program}{w:World}{K:PySem.W.Frag}{mg:Str→Option Value}{base:Heap}
theorem Fun.ok {x qual:Str}{st:Stmt}{f:Addr}{fd:FuncData}{N ps:List Str}{k:Nat}{sp:Sp}(F:Fun K x qual st f fd)(S:zm N ps (zc st))(len:∀vs H Q E,sp vs H Q E→vs.length=ps.length)
  (hbody:∀(cdv:Value) (A:Around) (outer:List Env) (s:Shared) (H:Hp) (vs:List V) (Q:VK) (E:XK),zY k (A.deeper (envOfC qual (zc st) s.heap.objs.size f cdv))→sp vs H Q E→
   ∃t,PSs (uM CX0 P w K mg base N qual (zc st) f cdv A outer s H E).nox (zI st) t∧t {nx:=fun _ H'=>Q .non H',rt:=Q} (start N vs) H):zD P w K mg base CX0 (k+1) f fd ps sp:=by
 obtain⟨oc,od,kV,doc,pm,an,cdv,ct,osl,rfl,lk,hcd⟩:=F.ex
 refine dW lk hcd S len fun A outer s H vs Q E hr hsp=>?_
 obtain⟨t,h,q⟩:=hbody cdv A outer s H vs Q E hr hsp
 exact⟨t,h.nox,q⟩
theorem Fun.binds {x qual:Str}{st:Stmt}{f:Addr}{fd:FuncData}{ps:List Str}(F:Fun K x qual st f fd)
  (h:∀(kV doc pm:Value) (an:Option Addr) (cdv ct:Value) (us:List Value),us.length=ps.length→bindArgs (PySem.W.fnOf x qual (yg st) (zI st) (zc st) .none kV doc pm an cdv ct) ⟨us,[]⟩=pure (ps.zip us)):Binds K fd ps []:=by
 obtain⟨oc,od,kV,doc,pm,an,cdv,ct,osl,rfl,lk,hcd⟩:=F.ex
 exact .all (h kV doc pm an cdv ct)
theorem jN {x qual:Str}{st:Stmt}{f:Addr}{oc:Value}{od an:Option Addr}{osl:Array (Option Value)}{kV doc pm cdv ct:Value}(l:K.lookup f=some ⟨oc,od,.func (PySem.W.fnOf x qual (yg st) (zI st) (zc st) .none kV doc pm an cdv ct),osl⟩)
  (c:PySem.W.codeIn K cdv qual=true) (k:PySem.W.keepIn K (.ref f)=true):Fun K x qual st f (PySem.W.fnOf x qual (yg st) (zI st) (zc st) .none kV doc pm an cdv ct):=⟨⟨oc,od,kV,doc,pm,an,cdv,ct,osl,rfl,l,c⟩,k⟩
end
theorem yB {n:Nat}(h:n≤1000):n<sizeLine:=Nat.lt_of_le_of_lt h (by decide)
section
variable {X:Cx}
theorem pv (i:Nat){x:Str}{pos:Pos}(hN:X.N[i]?=some x:=by rfl)(hv:Vis X.env.scope x:=by first|exact Or.inl rfl|exact Or.inr (Or.inl rfl)|exact Or.inr (Or.inr rfl))(hd:(x == ("__debug__":Str))=false:=by decide)
  (hcd:(x == ("__classdict__":Str))=false:=by decide):PE X (.Name x pos) (iX i):=yR hN hv hd hcd
end
theorem sr {A B:Prop}(h:B):if false=true then A else B:=by
 rw[if_neg zh5]
 exact h
theorem uI {A B:Prop}(h:A):if true=true then A else B:=by
 rw[if_pos rfl]
 exact h
theorem yD {c A B:Prop}[Decidable c](h1:c→A)(h2:¬c→B):if c then A else B:=by
 by_cases h:c
 ·rw[if_pos h]
  exact h1 h
 ·rw[if_neg h]
  exact h2 h
def zq (H H':Hp):Prop:=∀b o,H b=some o→H' b=some o
theorem zq.refl (H:Hp):zq H H:=fun _ _ h=>h
theorem zq.trans {H H1 H2:Hp}(a:zq H H1)(b:zq H1 H2):zq H H2:=fun c o h=>b c o (a c o h)
theorem zq.free {H H':Hp}(e:zq H H'){l:Addr}(h:H' l=Option.none):H l=Option.none:=by
 cases q:H l with
 |none=>rfl
 |some o=>
  rw[e l o q] at h
  cases h
def vm (cells:List (Str×Addr)):List (Str×NameKind)→List (Str×Addr)→List (Str×Addr)
 |[],acc=>acc
 |(n,k)::r,acc=>vm cells r (if k=.free then (n,(cells.lookup n).getD 0)::acc else acc)
theorem sM {env:Env}{scope:Scope}(h:∀y∈scope.names,y.2=.free→∃c,env.cells.lookup y.1=some c):
  closureFor scope env=pure (vm env.cells scope.names []):=by
 have key:∀(ns:List (Str×NameKind)) (acc:List (Str×Addr)),(∀y∈ns,y.2=.free→∃c,env.cells.lookup y.1=some c)→
   (forIn ns acc fun (x:Str×NameKind) (r:List (Str×Addr))=>(if (x.2 == NameKind.free)=true then (do let a ←cellOf env x.1;pure (ForInStep.yield ((x.1,a)::r))) else pure (ForInStep.yield r):Sem (ForInStep (List (Str×Addr)))))=pure (vm env.cells ns acc):=by
  intro ns
  induction ns with
  |nil=>intro acc _;rfl
  |cons y r ih=>
   intro acc hy
   obtain⟨n,k⟩:=y
   rw[List.forIn_cons]
   have hr:∀z∈r,z.2=.free→∃c,env.cells.lookup z.1=some c:=fun z hz=>hy z (zg7 _ hz)
   by_cases hk:k=.free
   ·subst hk
    obtain⟨c,hc⟩:=hy (n,.free) zh3 rfl
    have e1:cellOf env n=pure c:=by
     unfold cellOf
     rw[hc]
    have e2:((NameKind.free == NameKind.free)=true):=rfl
    simp only[e2,zu0,e1,pure_bind]
    rw[ih _ hr]
    show _=pure (vm env.cells r (if NameKind.free=NameKind.free then (n,(env.cells.lookup n).getD 0)::acc else acc))
    rw[if_pos rfl,hc]
    rfl
   ·have e2:(k == NameKind.free)=false:=by simpa using hk
    simp only[e2,zw5,if_false,pure_bind]
    rw[ih _ hr]
    show _=pure (vm env.cells r (if k=NameKind.free then (n,(env.cells.lookup n).getD 0)::acc else acc))
    rw[if_neg hk]
 have q:=key scope.names [] h
 unfold closureFor
 simp only[] at q ⊢
 rw[show (forIn scope.names ([]:List (Str×Addr)) fun (x:Str×NameKind) (r:List (Str×Addr))=>_)=_ from q]
 rfl
theorem pQ {cells:List (Str×Addr)}:∀(ns:List (Str×NameKind)) (acc:List (Str×Addr)),(∀y∈ns,y.2=.free→∃c,cells.lookup y.1=some c)→
  ∀x c,(x,c)∈vm cells ns acc→(x,c)∈acc∨((x,NameKind.free)∈ns∧cells.lookup x=some c)
 |[],acc,_,x,c,h=>.inl h
 |(n,k)::r,acc,hy,x,c,h=>by
  have hr:∀z∈r,z.2=.free→∃c,cells.lookup z.1=some c:=fun z hz=>hy z (zg7 _ hz)
  have h':(x,c)∈vm cells r (if k=.free then (n,(cells.lookup n).getD 0)::acc else acc):=h
  rcases pQ r _ hr x c h' with q|⟨q1,q2⟩
  ·by_cases hk:k=.free
   ·rw[if_pos hk] at q
    rcases zg3.mp q with e|q
    ·obtain⟨c',hc⟩:=hy (n,k) zh3 hk
     have e1:x=n:=congrArg Prod.fst e
     have e2:c=(cells.lookup n).getD 0:=congrArg Prod.snd e
     have hc':cells.lookup n=some c':=hc
     rw[hc'] at e2
     have e3:c=c':=e2
     subst e1 e3 hk
     exact .inr ⟨zh3,hc'⟩
    ·exact .inl q
   ·rw[if_neg hk] at q
    exact .inl q
  ·exact .inr ⟨zg7 _ q1,q2⟩
theorem pC {cells:List (Str×Addr)}:∀(ns:List (Str×NameKind)) (acc:List (Str×Addr)) (p:Str×Addr),p∈acc→p∈vm cells ns acc
 |[],_,_,h=>h
 |(n,k)::r,acc,p,h=>by
  show p∈vm cells r (if k=.free then (n,(cells.lookup n).getD 0)::acc else acc)
  refine pC r _ p ?_
  split
  ·exact zg7 _ h
  ·exact h
theorem pD {cells:List (Str×Addr)}:∀(ns:List (Str×NameKind)) (acc:List (Str×Addr)) (x:Str),(x,NameKind.free)∈ns→∃c,(x,c)∈vm cells ns acc
 |[],_,_,h=>by simp at h
 |(n,k)::r,acc,x,h=>by
  show ∃c,(x,c)∈vm cells r (if k=.free then (n,(cells.lookup n).getD 0)::acc else acc)
  rcases zg3.mp h with e|h
  ·have e1:x=n:=congrArg Prod.fst e
   have e2:NameKind.free=k:=congrArg Prod.snd e
   subst e1 e2
   rw[if_pos rfl]
   exact⟨_,pC r _ _ zh3⟩
  ·exact pD r _ x h
theorem mem_lookup {x:Str}{c:Addr}:∀{l:List (Str×Addr)},(x,c)∈l→∃d,l.lookup x=some d
 |[],h=>by simp at h
 |(n,a)::r,h=>by
  rw[zm1]
  cases e:x == n with
  |true=>exact⟨a,rfl⟩
  |false=>
   rcases zg3.mp h with q|q
   ·have e1:x=n:=congrArg Prod.fst q
    rw[e1] at e
    simp at e
   ·exact mem_lookup q
structure yp (XN:List Str)(xs:Scope)(N:List Str)(imp:List (Option Nat))(scope:Scope):Prop where
 kind:scope.kind=.function
 nd:N.Nodup
 nocell:∀y∈scope.names,y.2≠.cell
 locs:∀y∈scope.names,y.2=.local→scope.names.lookup y.1=some .local
 frees:∀y∈scope.names,y.2=.free→xs.names.lookup y.1=some .cell∨xs.names.lookup y.1=some .free
 len:imp.length=N.length
 impsB:((imp.zip N).all fun p=>match p.1 with|none=>true|some j=>XN[j]? == some p.2&&scope.names.lookup p.2 == some .free)=true
theorem yp.imps {XN N:List Str}{xs scope:Scope}{imp:List (Option Nat)}(S:yp XN xs N imp scope):∀(i j:Nat),imp[i]?=some (some j)→∃x,N[i]?=some x∧XN[j]?=some x∧scope.names.lookup x=some .free:=by
 intro i j h
 have hi:i<imp.length:=(zh1.mp h).1
 have hn:i<N.length:=by rw[←S.len];exact hi
 have hx:N[i]?=some N[i]:=zh0 hn
 have hm:(some j,N[i])∈imp.zip N:=by
  have hz:(imp.zip N)[i]?=some (some j,N[i]):=by
   rw[List.getElem?_zip_eq_some]
   exact⟨h,hx⟩
  exact zj7 hz
 have q:=zv0.mp S.impsB _ hm
 have q':(XN[j]? == some N[i]&&scope.names.lookup N[i]==some .free)=true:=q
 rw[zi9] at q'
 exact⟨N[i],hx,eq_of_beq q'.1,eq_of_beq q'.2⟩
def xS (imp:List (Option Nat))(σ:St):St:=imp.map fun o=>o.bind fun j=>(σ[j]?).bind id
theorem lV {imp:List (Option Nat)}{σ:St}{i:Nat}{v:V}(h:(xS imp σ)[i]?=some (some v)):∃j,imp[i]?=some (some j)∧σ[j]?=some (some v):=by
 unfold xS at h
 rw[zi6] at h
 cases e:imp[i]? with
 |none=>rw[e] at h;cases h
 |some o=>
  rw[e] at h
  have h':(o.bind fun j=>(σ[j]?).bind id)=some v:=zk0 h
  cases o with
  |none=>cases h'
  |some j=>
   have h2:(σ[j]?).bind id=some v:=h'
   cases e2:σ[j]? with
   |none=>rw[e2] at h2;cases h2
   |some w=>
    rw[e2] at h2
    have h3:w=some v:=h2
    exact⟨j,rfl,by rw[e2,h3]⟩
def Cx.comp (X:Cx)(N:List Str)(scope:Scope)(C:Addr)(s2:Shared)(H2:Hp)(fp:List Addr):Cx where
 prog:=X.prog
 w:=X.w
 K:=X.K
 mg:=X.mg
 base:=X.base
 A:=X.A
 N:=N
 s₀:=s2
 H₀:=H2
 env:=compEnvC scope (vm X.env.cells scope.names []) C X.env
 outer:=X.stack
 stack:=X.stack
 ex:=fp
 fn:=fun _=>false
 calm:=X.calm
 pn:=[]
 xe:=fun _ _=>False
theorem vO {env:Env}:∀{names:List (Str×NameKind)} {x:Str},
  (names.map fun (n,k)=>if (k == NameKind.free&&env.scope.kind == .function&&env.kindOf n == some .cell) then (n,NameKind.cell) else (n,k)).lookup x=some .cell∨
  (names.map fun (n,k)=>if (k == NameKind.free&&env.scope.kind == .function&&env.kindOf n == some .cell) then (n,NameKind.cell) else (n,k)).lookup x=some .free→
  (∀y∈names,y.2≠.cell)→(x,NameKind.free)∈names
 |[],x,h,_=>by simp at h
 |(n,k)::r,x,h,hc=>by
  have ih:=@vO env r x
  rw[zl3] at h
  dsimp only at h
  by_cases hx:x=n
  ·subst hx
   by_cases hk:k=.free
   ·subst hk;exact zh3
   ·have hk':(k == NameKind.free)=false:=by simpa using hk
    simp only[hk',zl8,zw5,if_false,zm1,beq_self_eq_true,zu0] at h
    rcases h with h|h
    ·have e:k=.cell:=zk0 h
     exact absurd e (hc (x,k) zh3)
    ·have e:k=.free:=zk0 h
     exact absurd e hk
  ·have hxn:(x == n)=false:=by simpa using hx
   have step:∀(b:Bool) (l:List (Str×NameKind)),List.lookup x ((if b=true then (n,NameKind.cell) else (n,k))::l)=l.lookup x:=fun b l=>by
    cases b<;>simp[zm1,hxn]
   rw[step] at h
   exact zg7 _ (ih h fun y hy=>hc y (zg7 _ hy))
theorem uD {env:Env}:∀{names:List (Str×NameKind)} {x:Str},names.lookup x=some .free→
  (names.map fun (n,k)=>if (k == NameKind.free&&env.scope.kind == .function&&env.kindOf n == some .cell) then (n,NameKind.cell) else (n,k)).lookup x=some .cell∨
  (names.map fun (n,k)=>if (k == NameKind.free&&env.scope.kind == .function&&env.kindOf n == some .cell) then (n,NameKind.cell) else (n,k)).lookup x=some .free
 |[],x,h=>by simp at h
 |(n,k)::r,x,h=>by
  have ih:=@uD env r x
  rw[zl3]
  dsimp only
  rw[zm1] at h
  cases hx:x == n with
  |true=>
   rw[hx] at h
   have e:k=.free:=zk0 h
   subst e
   by_cases hb:(NameKind.free == NameKind.free&&env.scope.kind == .function&&env.kindOf n == some .cell)=true
   ·left;rw[if_pos hb];simp[zm1,hx]
   ·right;rw[if_neg hb];simp[zm1,hx]
  |false=>
   rw[hx] at h
   have step:∀(b:Bool) (l:List (Str×NameKind)),List.lookup x ((if b=true then (n,NameKind.cell) else (n,k))::l)=l.lookup x:=fun b l=>by
    cases b<;>simp[zm1,hx]
   rw[step]
   exact ih h
section
variable {X:Cx}{pins:List (Addr×Obj)}{σ:St}{H2 H':Hp}{s2 s':Shared}{fp:List Addr}{N:List Str}{imp:List (Option Nat)}{scope:Scope}{C acc:Addr}
theorem tI (I:Inv X pins σ H2 s2)(S:yp X.N X.env.scope N imp scope):∀y∈scope.names,y.2=.free→∃c,X.env.cells.lookup y.1=some c:=fun y hy hk=>I.ok.has y.1 (S.frees y hy hk)
theorem xx (I:Inv X pins σ H2 s2)(S:yp X.N X.env.scope N imp scope){x:Str}{c:Addr}(h:(vm X.env.cells scope.names []).lookup x=some c):(x,NameKind.free)∈scope.names∧X.env.cells.lookup x=some c:=by
 rcases pQ scope.names [] (tI I S) x c (zm4 h) with q|q
 ·exact absurd q (by simp)
 ·exact q
theorem vE (I:Inv X pins σ H2 s2)(S:yp X.N X.env.scope N imp scope){x:Str}(h:(x,NameKind.free)∈scope.names):∃c,(vm X.env.cells scope.names []).lookup x=some c:=by
 obtain⟨c,hc⟩:=pD (cells:=X.env.cells) scope.names [] x h
 exact mem_lookup hc
theorem gq {h1:Heap}{tk:Nat}{m:Str→Option Value}{n0:Nat}(I:Inv X pins σ H2 s2)(S:yp X.N X.env.scope N imp scope)(hf:∀b∈fp,vW X pins H2 b)(ho:∀b∈fp,∃o,s2.heap.get? b=some o)
  (hacc:acc=s2.heap.objs.size) (hC:C=s2.heap.objs.size+1) (old:∀b o,s2.heap.get? b=some o→h1.get? b=some o) (hn:h1.Ns C m)
  (hl:h1.get? acc=some {cls:=.type "list",data:=.seq ([]:List Value).toArray n0}):
  Inv (X.comp N scope C s2 H2 fp) [] (xS imp σ) (upd H2 acc (.lst [])) {s2 with heap:=h1,toks:=tk}:=by
 have fa:H2 acc=none:=I.hok.fresh (by rw[hacc];exact zg5 _)
 have cac:C≠acc:=by rw[hC,hacc];exact Nat.succ_ne_self _
 have clt:∀x c,X.env.cells.lookup x=some c→c<s2.heap.objs.size:=fun x c e=>by
  obtain⟨v,q⟩:=I.cell x c e
  exact q.lt
 refine⟨⟨I.ok.mod,S.kind,I.ok.glob,I.ok.blt,?above,?inj,?has,?cab,I.ok.hd,I.ok.frames,.inl rfl,?exf,fun b o e=>I.bs b o e,zk7 I.ok.bsz I.sz,?noex,?exfs,I.stack,I.stkFree⟩,
  rfl,I.bare,Un.laid old (by rw[hacc];exact zg5 _) fa,⟨m,hn,?loc⟩,?cell,?free,?freeC,fun p hp=>absurd (show p∈([]:List (Addr×Obj)) from hp) (by simp),I.hok.laid old (by rw[hacc];exact zg5 _) ⟨zi5 _,[],n0,.nil,hl⟩,?len⟩
 case above=>show s2.heap.objs.size≤C;rw[hC];exact zp7 _
 case inj=>exact fun x y c h1 h2=>I.ok.inj x y c (xx I S h1).2 (xx I S h2).2
 case has=>exact fun x hx=>vE I S (vO (env:=X.env) hx S.nocell)
 case cab=>exact fun x c h _=>absurd h (by show ¬(false=true);simp)
 case exf=>
  intro b hb
  obtain⟨o,hob⟩:=ho b hb
  refine⟨?_,fun x c e=>(hf b hb).2.2.2.2.1 x c (xx I S e).2⟩
  show b≠C
  rw[hC]
  exact zi3 (zn4 (zh7 hob))
 case noex=>
  intro b o e hb
  rcases (hf b hb).2.2.2.1 with z|z
  ·exact I.ok.noex b o e z
  ·exact absurd (zj3 (zh7 e) (zk7 I.ok.bsz z)) (zr5 _)
 case exfs=>
  intro b hb hz
  rcases zg3.mp (I.stkSub b hz) with e|e
  ·exact (hf b hb).2.1 e
  ·exact (hf b hb).2.2.1 e
 case loc=>
  intro i x v e1 e2 e3
  obtain⟨j,q1,q2⟩:=lV e2
  obtain⟨y,n1,n2,n3⟩:=S.imps i j q1
  have n1':(X.comp N scope C s2 H2 fp).N[i]?=some y:=n1
  rw[n1'] at e1
  have exy:y=x:=zk0 e1
  subst exy
  have hfr:=S.frees (y,.free) (zm4 n3) rfl
  obtain⟨mX,hnX,hlX⟩:=I.loc
  obtain⟨u,r,l⟩:=hlX j y v n2 q2 (.inr hfr)
  refine⟨u,r,?_⟩
  rcases l with ⟨k,_⟩|⟨k,c,e,z⟩
  ·have k':X.env.scope.names.lookup y=some .local:=k
   rcases hfr with z|z
   ·have z':X.env.scope.names.lookup y=some .cell:=z
    rw[k'] at z';cases z'
   ·have z':X.env.scope.names.lookup y=some .free:=z
    rw[k'] at z';cases z'
  ·obtain⟨d,hd⟩:=vE I S (zm4 n3)
   have hd2:=(xx I S hd).2
   rw[e] at hd2
   have edc:c=d:=zk0 hd2
   subst edc
   exact .inr ⟨uD (env:=X.env) n3,c,hd,z.keeps old⟩
 case cell=>
  intro x c e
  obtain⟨v,q⟩:=I.cell x c (xx I S e).2
  exact⟨v,q.keeps old⟩
 case free=>
  show upd H2 acc _ C=none
  rw[zk cac]
  exact I.hok.fresh (by rw[hC];exact zp7 _)
 case freeC=>
  intro x c e
  have e':=(xx I S e).2
  have hlt:=clt x c e'
  show upd H2 acc _ c=none
  rw[zk (by rw[hacc];exact zi3 hlt)]
  exact I.freeC x c e'
 case len=>
  show (xS imp σ).length=N.length
  unfold xS
  rw[zh4]
  exact S.len
theorem kl {pl:List (Addr×Obj)}{τ:St}(I:Inv X pins σ H2 s2)(hf:∀b∈fp,vW X pins H2 b)(J:Inv (X.comp N scope C s2 H2 fp) pl τ H' s'):Inv X pins σ H' s':=
 I.call' (ch:=fp) J.os J.base J.hok J.bare fun b hb=>⟨(hf b hb).2.2.2.1,(hf b hb).2.1,(hf b hb).2.2.2.2.1,(hf b hb).2.2.2.2.2⟩
end
section
variable {prog:Program}{w:World}{A:Around}{R:Result→Shared→Prop}{s:Shared}
theorem qC {elt target iter:Expr}{ifs:List Expr}{scope:Scope}{pos:Pos}{it acc:Value}{env:Env}(I:Nat→Shared→Prop)
  (turn:∀n s,I n s→wpAny (model prog w) A (pyNext it) (fun r s1=>match r with
   |none=>R (.ok .next) s1
   |some v=>wpAny (model prog w) A (letOwnedTupleGo target it v) (fun _ s2=>wpAny (model prog w) A (assign target env v) (fun _ s3=>
     wpAny (model prog w) A (forIn ifs true fun c r=>if r=true then do let ok ←isTrue c env (eval c env);pure (ForInStep.yield ok) else pure (ForInStep.yield r)) (fun ok s4=>
      if ok=true then wpAny (model prog w) A (eval elt env) (fun x s5=>
       wpAny (model prog w) A (call (.builtin "list.append") [acc,x]) (fun _ s6=>∃m,m<n∧I m s6) (fun _ _=>False) s5) (fun _ _=>False) s4
      else ∃m,m<n∧I m s4) (fun _ _=>False) s3) (fun _ _=>False) s2) (fun _ _=>False) s1) (fun _ _=>False) s)
  (n:Nat) (h:I n s):codeAny (model prog w) A (.compLoop (.ListComp elt [⟨target,iter,ifs,0⟩] scope pos) 0 it acc env) R s:=by
 refine codeAny_loop rfl I (fun n s hI=>?_) n h
 show wpAny _ A ((compTurn (.ListComp elt [⟨target,iter,ifs,0⟩] scope pos) 0 it acc env).onRaise (fun x=>do noteFrame x env;theTreesLotGoes x)) _ _ s
 refine wpAny_noted ?_
 rw[compTurn_list]
 refine zg0 (wpAny_standAt (zg0 (zl6 (turn n s hI) (fun r s1 h1=>?_) fun _ _ h'=>False.elim h')))
 cases r with
 |none=>exact zg4 h1
 |some v=>
  refine zg0 (zl6 h1 (fun _ s2 h2=>?_) fun _ _ h'=>False.elim h')
  refine zg0 (zl6 h2 (fun _ s3 h3=>zg0 (zl6 h3 (fun ok s4 h4=>?_) fun _ _ h'=>False.elim h')) fun _ _ h'=>False.elim h')
  cases ok with
  |false=>exact zg4 ⟨rfl,h4⟩
  |true=>
   exact zg0 (zg0 (zl6 h4 (fun x s5 h5=>zg0 (zl6 h5 (fun _ s6 h6=>zg4 (zg4 ⟨rfl,h6⟩)) fun _ _ h'=>False.elim h')) fun _ _ h'=>False.elim h'))
end
def uf (Y:Cx)(ifs:List Expr)(t:TT):Prop:=
 ∀(pins:List (Addr×Obj)) (s:Shared) (σ:St) (H:Hp) (Q:Bool→Hp→Prop),Inv Y pins σ H s→t σ H Q→
  wpAny (model Y.prog Y.w) Y.A (forIn ifs true fun c r=>if r=true then do let ok ←isTrue c Y.env (eval c Y.env);pure (ForInStep.yield ok) else pure (ForInStep.yield r)) (TP Y pins σ Q) Y.xe s
def zf2 :TT:=fun _ H Q=>Q true H
theorem eY {Y:Cx}:uf Y [] zf2:=fun _ _ _ H _ I h=>wpAny_tests_nil ⟨H,I,h⟩
def mD (J:It)(acc:Addr)(g:TG)(tt:TT)(te:TE)(τ0:St)(H0:Hp)(Q:VK):Prop:=
 ∃W:Nat→Nat→List V→St→Hp→Prop,(∃m,W 0 m [] τ0 H0)∧∀i m ys τ H2,W i m ys τ H2→
  (J.stop i H2∧Q (.ref acc) H2)∨(J.go i H2∧∃N:List V→St→Hp→Prop,(∀ys' τ' H',N ys' τ' H'→∃m',m'<m∧W (i+1) m' ys' τ' H')∧
   ∀x H3,J.yld i H2 x H3→g x τ H3 fun τ2 H4=>tt τ2 H4 fun c H5=>
    if c=true then te τ2 H5 fun y H6=>H6 acc=some (.lst ys)∧ys.length<sizeLine∧N (ys++[y]) τ2 (upd H6 acc (.lst (ys++[y]))) else N ys τ2 H5)
def cn (wi:TI)(imp:List (Option Nat))(g:TG)(tt:TT)(te:TE):TE:=fun σ H Q=>wi σ H fun J H1=>∀acc,H1 acc=none→mD J acc g tt te (xS imp σ) (upd H1 acc (.lst [])) Q
section
variable {X:Cx}{pins:List (Addr×Obj)}{σ:St}{elt iter tg:Expr}{ifs:List Expr}{scope:Scope}{pos:Pos}{wi:TI}{g:TG}{tt:TT}{te:TE}{N:List Str}{imp:List (Option Nat)}
theorem nQ {H2:Hp}{s2:Shared}{it:Addr}{fp:List Addr}{tn:Nat→Heap→Prop}{J:It}{RR:Value→Addr→Result→Shared→Prop}{E:Value→Shared→Prop}{Q:VK}
  (hc:X.calm=true) (S:yp X.N X.env.scope N imp scope) (hg:∀C s2 H2 fp,PG (X.comp N scope C s2 H2 fp) tg g) (ht:∀C s2 H2 fp,uf (X.comp N scope C s2 H2 fp) ifs tt) (he:∀C s2 H2 fp,PE (X.comp N scope C s2 H2 fp) elt te)
  (I2:Inv X pins σ H2 s2) (T:Turn X.prog X.w X.K tg J fp it tn) (st2:tn 0 s2.heap) (f2:∀b∈fp,vW X pins H2 b)
  (hW:∀acc,H2 acc=none→mD J acc g tt te (xS imp σ) (upd H2 acc (.lst [])) Q)
  (hRR:∀a C H' s' m,Inv X pins σ H' s'→s'.heap.Ns C m→vW X pins H' C→Q (.ref a) H'→RR (.ref a) C (.ok .next) s'):
  wpAny (model X.prog X.w) X.A (newList []) (fun acc s3=>wpAny (model X.prog X.w) X.A (newFunctionEnv scope X.env.globals (vm X.env.cells scope.names []) [] X.env.qual none .none (some X.env)) (fun cenv s4=>
   codeAny (model X.prog X.w) X.A (.compStart (.ListComp elt [⟨tg,iter,ifs,0⟩] scope pos) 0 (.ref it) acc {cenv with scope:=relabel scope X.env}) (RR acc cenv.locals) s4) E s3) E s2:=by
 refine zn5 (wpAny_newFunctionEnv S.nocell (by intro y hy;simp at hy) (fun h1 hns1 hsb1=>?_) S.kind)
 dsimp only at hns1 hsb1 ⊢
 generalize hHH:s2.heap.push {cls:=.type "list",dict:=none,data:=.seq ([]:List Value).toArray}=HH at hns1 hsb1 ⊢
 have hC:HH.objs.size=s2.heap.objs.size+1:=by rw[←hHH,zs1]
 have hDC:s2.heap.objs.size≠HH.objs.size:=by rw[hC];exact zi3 (zp4 _)
 have old:∀b o,s2.heap.get? b=some o→h1.get? b=some o:=fun b o e=>hsb1.extBut b o (by rw[hC];exact zi3 (zn4 (zh7 e))) (zg8 _ (hHH▸zg8 _ e))
 have hacc:h1.get? s2.heap.objs.size=some {cls:=.type "list",data:=.seq ([]:List Value).toArray}:=hsb1.extBut _ _ hDC (zg8 _ (hHH▸zh9 _ rfl))
 obtain⟨W,⟨m0,w0⟩,turn⟩:=hW s2.heap.objs.size I2.fresh
 generalize hCC:HH.objs.size=C at hns1 hsb1 hC hDC ⊢
 have ho:∀b∈fp,∃o,s2.heap.get? b=some o:=fun b hb=>let ⟨o,e,_⟩:=T.obj 0 _ st2 b hb;⟨o,e⟩
 generalize hacc0:s2.heap.objs.size=acc at *
 have loop:∀s3:Shared,s3={s2 with heap:=h1,toks:=s2.toks+([]:List (Str×Value)).length}→
   codeAny (model X.prog X.w) X.A (.compLoop (.ListComp elt [⟨tg,iter,ifs,0⟩] scope pos) 0 (.ref it) (.ref acc) (X.comp N scope C s2 H2 fp).env) (RR (.ref acc) C) s3:=by
  rintro s3 rfl
  have I3:Inv (X.comp N scope C s2 H2 fp) [] (xS imp σ) (upd H2 acc (.lst [])) {s2 with heap:=h1,toks:=s2.toks+([]:List (Str×Value)).length}:=
   gq I2 S f2 ho hacc0.symm (by rw[hC,hacc0]) old hns1 hacc
  have fpn:∀b∈fp,upd H2 acc (.lst []) b=none:=fun b hb=>by
   obtain⟨o,e⟩:=ho b hb
   rw[zk (by rw[←hacc0];exact zi3 (zh7 e))]
   exact (f2 b hb).1
  have stat:∀{H':Hp},(∀b∈fp,H' b=none)→∀b∈fp,vW (X.comp N scope C s2 H2 fp) [] H' b:=fun hn b hb=>by
   obtain⟨e1,e2⟩:=I3.ok.exf b hb
   exact⟨hn b hb,e1,I3.ok.exfs b hb,.inl hb,e2,fun p hp=>absurd (show p∈([]:List (Addr×Obj)) from hp) (by simp)⟩
  refine qC (fun n s'=>∃i ys τ H',Inv (X.comp N scope C s2 H2 fp) [] τ H' s'∧tn i s'.heap∧(∀b∈fp,H' b=none)∧W i n ys τ H') ?_ m0
   ⟨0,[],_,_,I3,T.keep _ _ _ st2 fun b _ o e=>old b o e,fpn,w0⟩
  rintro n s4 ⟨i,ys,τ,H4,I4,st4,fr4,w4⟩
  rcases turn i n ys τ H4 w4 with ⟨stop,qn⟩|⟨go,NN,hN,step⟩
  ·refine zl6 (T.done (X.comp N scope C s2 H2 fp) rfl rfl rfl hc i [] s4 τ H4 (fun _ _=>False) I4 (stat fr4) st4 stop) (fun r s5 ⟨hr,I5⟩=>?_) fun _ _ z=>z
   subst hr
   obtain⟨m5,hn5,_⟩:=id I5.loc
   exact hRR acc C H4 s5 m5 (kl I2 f2 I5) hn5 (I2.fpOk (by rw[hC,hacc0];exact zp7 _) I5.free) qn
  ·refine zl6 (T.item (X.comp N scope C s2 H2 fp) rfl rfl rfl hc i [] s4 τ H4 (fun _ _=>False) I4 (stat fr4) st4 go) (fun r s5 ⟨u,hr,h5⟩=>?_) fun _ _ z=>z
   subst hr
   refine zl6 h5 (fun _ s6 ⟨x,H6,I6,r6,y6,st6,fr6⟩=>?_) fun _ _ z=>z
   have I6':=I6.pinned (stat fr6) (T.obj _ _ st6)
   refine zl6 (hg C s2 H2 fp _ s6 τ H6 x u _ I6' r6 (step x H6 y6)) (fun _ s7 ⟨τ7,H7,I7,q7⟩=>?_) fun _ _ z=>z
   refine zl6 (ht C s2 H2 fp _ s7 τ7 H7 _ I7 q7) (fun ok s8 ⟨H8,I8,q8⟩=>?_) fun _ _ z=>z
   have again:∀{ys9:List V} {H9:Hp} {s9:Shared},Inv (X.comp N scope C s2 H2 fp) ([]++tU fp s6.heap) τ7 H9 s9→NN ys9 τ7 H9→∃m,m<n∧∃i ys τ H',Inv (X.comp N scope C s2 H2 fp) [] τ H' s9∧tn i s9.heap∧(∀b∈fp,H' b=none)∧W i m ys τ H':=fun {ys9 H9 s9} I9 n9=>by
    obtain⟨m',hm,w9⟩:=hN ys9 τ7 H9 n9
    refine⟨m',hm,i+1,ys9,τ7,H9,I9.unpinned,T.keep _ _ _ st6 fun b hb o e=>(I9.pin (b,o) (zh2 _ (zh2 _ (wm hb e)))).1,fun b hb=>?_,w9⟩
    obtain⟨o,e,d⟩:=T.obj _ _ st6 b hb
    exact (I9.pin (b,o) (zh2 _ (zh2 _ (wm hb e)))).2.1
   cases ok with
   |false=>
    have q8':NN ys τ7 H8:=by
     have z:=q8
     rw[if_neg zh5] at z
     exact z
    rw[if_neg zh5]
    exact again I8 q8'
   |true=>
    rw[if_pos rfl] at q8 ⊢
    refine zl6 (he C s2 H2 fp _ s8 τ7 H8 _ I8 q8) (fun v s9 ⟨y,H9,I9,r9,a9,z9,q9⟩=>?_) fun _ _ z=>z
    refine zl6 (rh (X:=X.comp N scope C s2 H2 fp) _ s9 τ7 H9 (.ref acc) [y] (.ref acc) [v] (fun _ H10=>H10=upd H9 acc (.lst (ys++[y]))) I9 rfl (.cons r9 .nil) ⟨acc,ys,y,rfl,rfl,a9,z9,rfl⟩) (fun _ s10 ⟨_,H10,I10,_,e10⟩=>?_) fun _ _ z=>z
    subst e10
    exact again I10 q9
 exact codeAny_compStart_list (loop _ rfl) (T.self X.A 0 _ _ _ (T.keep _ _ _ st2 fun b _ o e=>old b o e) (loop _ rfl))
theorem za9 (hc:X.calm=true)(S:yp X.N X.env.scope N imp scope)(hi:PI X tg iter wi)(hg:∀C s2 H2 fp,PG (X.comp N scope C s2 H2 fp) tg g)(ht:∀C s2 H2 fp,uf (X.comp N scope C s2 H2 fp) ifs tt)
  (he:∀C s2 H2 fp,PE (X.comp N scope C s2 H2 fp) elt te) (hs:∀x,foldedSetIterable iter X.env x=pure x:=by intro _;rfl):
  PE X (.ListComp elt [⟨tg,iter,ifs,0⟩] scope pos) (cn wi imp g tt te):=by
 intro pins s σ H Q I h
 rw[eval_ListComp]
 refine wpAny_comprehension_free (use:=none) rfl hs (sM (tI I S)) S.kind S.locs (thn (hi pins s σ H _ I h) fun v s1 h1=>thn h1 fun itv s2 h2=>?_)
 obtain⟨it,fp,tn,J,H2,e,I2,T,st2,f2,hW⟩:=h2
 subst e
 refine nQ (RR:=fun acc C=>compPost (model X.prog X.w) X.A X.xe none (EP X pins σ Q) acc C) hc S hg ht he I2 T st2 f2 hW fun a C H' s' m I' hn f q=>?_
 refine⟨m,hn,fun h' sb=>?_⟩
 obtain⟨g0,g1,g2,g3,g4,g5⟩:=f
 exact⟨.ref a,H',I'.turned (t':=s'.toks) (it:=C) (fun b o hb e=>(sb.2 b hb).trans e) g0 g1 g3 g4 g5,rfl,q⟩
end
mutual
inductive DV (H:Hp):V→PyData→Prop where
 |non:DV H .non .none
 |bl (b:Bool):DV H (.bl b) (.bool b)
 |int (i:Int):DV H (.int i) (.int i)
 |str (x:Str):DV H (.str x) (.str x)
 |lst {a:Addr} {xs:List V} {ds:List PyData}:H a=some (.lst xs)→DVs H xs ds→DV H (.ref a) (.list ds)
 |tup {a:Addr} {xs:List V} {ds:List PyData}:H a=some (.tup xs)→DVs H xs ds→DV H (.ref a) (.tuple ds)
inductive DVs (H:Hp):List V→List PyData→Prop where
 |nil:DVs H [] []
 |cons {x:V} {xs:List V} {d:PyData} {ds:List PyData}:DV H x d→DVs H xs ds→DVs H (x::xs) (d::ds)
end
section
variable {X:Cx}{pins:List (Addr×Obj)}{σ:St}{H:Hp}{s:Shared}
mutual
theorem DV.reads (I:Inv X pins σ H s):∀{x:V} {d:PyData} {u:Value},DV H x d→RelV x u→∃as,Reads s.heap u d as
 |_,_,u,.non,r=>by cases (show u=Value.none from r);exact⟨_,.none⟩
 |_,_,u,.bl b,r=>by cases (show u=Value.bool b from r);exact⟨_,.bool b⟩
 |_,_,u,.int i,r=>by obtain⟨t,rfl⟩:=(show ∃t,u=Value.int i t from r);exact⟨_,.int i t⟩
 |_,_,u,.str x,r=>by obtain⟨t,rfl⟩:=(show ∃t,u=Value.str x t from r);exact⟨_,.str x t⟩
 |_,_,u,.lst (a:=a) hq hs,r=>by
  cases (show u=Value.ref a from r)
  obtain⟨its,rv,p,hz⟩:=I.list (SqL.of hq)
  obtain⟨o,ho,hc,n,hd⟩:=p.isList
  obtain⟨as,ra⟩:=DVs.reads I hs rv
  exact⟨_,.list ho hc hd (by simpa using ra)⟩
 |_,_,u,.tup (a:=a) hq hs,r=>by
  cases (show u=Value.ref a from r)
  obtain⟨its,rv,p,hz⟩:=I.tuple (SqT.of hq)
  obtain⟨o,ho,hc,n,hd⟩:=p
  obtain⟨as,ra⟩:=DVs.reads I hs rv
  exact⟨_,.tuple ho hc hd (by simpa using ra)⟩
theorem DVs.reads (I:Inv X pins σ H s):∀{xs:List V} {ds:List PyData} {us:List Value},DVs H xs ds→Vals xs us→∃as,ReadsAll s.heap us ds as
 |_,_,_,.nil,.nil=>⟨_,.nil⟩
 |_,_,_,.cons h hs,.cons r rs=>by
  obtain⟨as,ra⟩:=DV.reads I h r
  obtain⟨bs,rb⟩:=DVs.reads I hs rs
  exact⟨_,.cons ra rb⟩
end
end
mutual
theorem DV.same {H H':Hp}(e:zq H H'):∀{x:V} {d:PyData},DV H x d→DV H' x d
 |_,_,.non=>.non
 |_,_,.bl b=>.bl b
 |_,_,.int i=>.int i
 |_,_,.str x=>.str x
 |_,_,.lst hq hs=>.lst (e _ _ hq) (DVs.same e hs)
 |_,_,.tup hq hs=>.tup (e _ _ hq) (DVs.same e hs)
theorem DVs.same {H H':Hp}(e:zq H H'):∀{xs:List V} {ds:List PyData},DVs H xs ds→DVs H' xs ds
 |_,_,.nil=>.nil
 |_,_,.cons h hs=>.cons (DV.same e h) (DVs.same e hs)
end
theorem DVs.length {H:Hp}:∀{xs:List V} {ds:List PyData},DVs H xs ds→xs.length=ds.length
 |_,_,.nil=>rfl
 |_,_,.cons _ hs=>by rw[zj5,zj5,DVs.length hs]
def tyD :PyData→String
 |.none=>"NoneType"
 |.bool _=>"bool"
 |.int _=>"int"
 |.str _=>"str"
 |.list _=>"list"
 |.tuple _=>"tuple"
 |.dict _=>"dict"
theorem DV.ty {K:PySem.W.Frag}{H:Hp}{x:V}{d:PyData}(h:DV H x d):vw K H x (.type (tyD d)):=by
 cases h with
 |non=>exact .non
 |bl b=>exact .bl b
 |int i=>exact .int i
 |str x=>exact .str x
 |lst e _=>exact .lst e
 |tup e _=>exact .tup e
def isInt :PyData→Bool
 |.int _=>true
 |.bool _=>true
 |_=>false
def isBool :PyData→Bool
 |.bool _=>true
 |_=>false
def isStr :PyData→Bool
 |.str _=>true
 |_=>false
def isList :PyData→Bool
 |.list _=>true
 |_=>false
def mR :PyData→Bool
 |.tuple _=>true
 |_=>false
def sN (T:String)(d:PyData):Option Bool:=
 if T="int" then some (isInt d) else if T="bool" then some (isBool d) else if T="str" then some (isStr d) else if T="list" then some (isList d) else if T="tuple" then some (mR d) else none
def cI (t T:String):Option Bool:=if (Value.type t == Value.type T)=true then some true else if PySem.W.kitMeta T=true then (fastBuiltinMro t).map (·.contains (Value.type T)) else none
theorem ji (K:PySem.W.Frag)(t T:String):PySem.W.kitOne K (.type t) (.type T)=cI t T:=rfl
theorem jW :(["NoneType","bool","int","str","list","tuple"].all fun t=>["int","bool","str","list","tuple"].all fun T=>
  cI t T == some (if T="int" then t == "int"||t == "bool" else t == T))=true:=by decide +kernel
theorem aG (K:PySem.W.Frag){H:Hp}{x:V}{d:PyData}(h:DV H x d){T:String}{b:Bool}(e:sN T d=some b):PySem.W.kitOne K (.type (tyD d)) (.type T)=some b:=by
 rw[ji]
 have key:∀t∈["NoneType","bool","int","str","list","tuple"],∀T∈["int","bool","str","list","tuple"],cI t T=some (if T="int" then t == "int"||t == "bool" else t == T):=fun t ht T hT=>
  eq_of_beq (zv0.mp (zv0.mp jW t ht) T hT)
 have hd:tyD d∈["NoneType","bool","int","str","list","tuple"]:=by cases h<;>simp[tyD]
 unfold sN at e
 split at e
 ·rename_i eT
  subst eT
  rw[key _ hd "int" (by decide)]
  cases e
  cases h<;>rfl
 ·split at e
  ·rename_i eT
   subst eT
   rw[key _ hd "bool" (by decide)]
   cases e
   cases h<;>rfl
  ·split at e
   ·rename_i eT
    subst eT
    rw[key _ hd "str" (by decide)]
    cases e
    cases h<;>rfl
   ·split at e
    ·rename_i eT
     subst eT
     rw[key _ hd "list" (by decide)]
     cases e
     cases h<;>rfl
    ·split at e
     ·rename_i eT
      subst eT
      rw[key _ hd "tuple" (by decide)]
      cases e
      cases h<;>rfl
     ·cases e
section
variable {X:Cx}
def zb0 :R2:=fun x y H Q=>∃d e,DV H x d∧DV H y e∧SeqAt.shaped d=true∧SeqAt.shaped e=true∧Q (.bl (PyData.eqv d e)) H
def aR :R2:=fun x y H Q=>∃d e,DV H x d∧DV H y e∧SeqAt.shaped d=true∧SeqAt.shaped e=true∧Q (.bl (!PyData.eqv d e)) H
theorem wN (hu:X.A.units+64<cLine):OpR X (compareOp .Eq) zb0:=by
 intro pins s σ H x y v u Q I rx ry h
 obtain⟨d,e,hd,he,sd,se,q⟩:=h
 obtain⟨as,ra⟩:=hd.reads I rx
 obtain⟨bs,rb⟩:=he.reads I ry
 exact SeqAt.compareEq_shaped ra rb sd se hu ⟨.bl _,H,I,rfl,q⟩
theorem aq (hu:X.A.units+64<cLine):OpR X (compareOp .NotEq) aR:=by
 intro pins s σ H x y v u Q I rx ry h
 obtain⟨d,e,hd,he,sd,se,q⟩:=h
 obtain⟨as,ra⟩:=hd.reads I rx
 obtain⟨bs,rb⟩:=he.reads I ry
 exact SeqAt.compareNe_shaped ra rb sd se hu ⟨.bl _,H,I,rfl,q⟩
theorem iG :wt X (.builtin "isinstance") (fun xs H Q=>∃x T t b,xs=[x,.ty T]∧vw X.K H x t∧PySem.W.kitOne X.K t (.type T)=some b∧Q (.bl b) H):=by
 intro pins s σ H xs us Q I r h
 obtain⟨x,T,t,b,rfl,ty,e,q⟩:=h
 obtain⟨u,v,rfl,rx,ry⟩:=Vals.two r
 cases (show v=Value.type T from ry)
 exact jh I rx ty e fun tk=>⟨.bl b,H,I.tok tk,rfl,q⟩
theorem xu :wt X (.builtin "isinstance") (fun xs H Q=>∃x T d b,xs=[x,.ty T]∧DV H x d∧sN T d=some b∧Q (.bl b) H):=by
 intro pins s σ H xs us Q I r h
 obtain⟨x,T,d,b,e,hd,ht,q⟩:=h
 exact iG pins s σ H xs us Q I r ⟨x,T,_,b,e,hd.ty,aG X.K hd ht,q⟩
def dN (i j:Int):Prop:=0<j∧j.natAbs.log2<9000
theorem tV :OpR X (binaryOp .FloorDiv) (rI dN fun i j=>.int (i / j)):=opI fun i j _ _ _ _ _ hc q=>by
 have h1:(0:Int)<j:=hc.1
 refine floordiv_int (Int.ne_of_gt h1) ?_ (.inl (PyProof.noPylong_of_log2 hc.2))
 rw[Int.fdiv_eq_ediv_of_nonneg _ (zq0 h1)]
 exact q
abbrev big :Int:=115792089237316195423570985008687907853269984665640564039457584007913129639936
theorem log2_small {j:Int}(h0:0<j)(h:j<big):j.natAbs.log2<9000:=by
 have hn:j.natAbs≠0:=by omega
 have h2:j.natAbs<2 ^ 256:=by
  have e:(2:Nat) ^ 256=115792089237316195423570985008687907853269984665640564039457584007913129639936:=by decide +kernel
  rw[e]
  unfold big at h
  omega
 have h3:j.natAbs.log2<256:=(Nat.log2_lt hn).mpr h2
 omega
def uo (lo:Int)(n:Nat):List Int:=(List.range n).map fun i=>lo+(i:Nat)
theorem yZ (lo:Int)(n:Nat):(uo lo n).length=n:=by simp[uo]
theorem nz {lo:Int}{n i:Nat}(h:i<n):(uo lo n)[i]?=some (lo+(i:Nat)):=by simp[uo,h]
end
def fe (X:Cx)(body:List Stmt):TS:=fun D σ H=>∃t,PSs X body t∧t D σ H
theorem zN {X:Cx}{body:List Stmt}:PSs X body (fe X body):=fun pins s σ H D I ⟨t,p,q⟩=>p pins s σ H D I q
theorem yk {X:Cx}{st:Stmt}{rest:List Stmt}{D:Ends}{σ:St}{H:Hp}(M:St→Hp→Prop)(h1:∃t,PS X st t∧t {D with nx:=M} σ H)(h2:∀σ' H',M σ' H'→∃t,PSs X rest t∧t D σ' H'):
  ∃t,PSs X (st::rest) t∧t D σ H:=by
 obtain⟨t1,p1,q1⟩:=h1
 refine⟨fun D' σ' H'=>D'=D∧σ'=σ∧H'=H,?_,rfl,rfl,rfl⟩
 intro pins s σ' H' D' I h
 obtain⟨e1,e2,e3⟩:=h
 subst e1 e2 e3
 have step:PSs X (st::rest) (za2 t1 fun D2 σ2 H2=>D2=D'∧M σ2 H2):=zG p1 fun pins s σ2 H2 D2 I2 ⟨e,m⟩=>by
  subst e
  obtain⟨t2,p2,q2⟩:=h2 σ2 H2 m
  exact p2 pins s σ2 H2 _ I2 q2
 refine step pins s _ _ _ I ?_
 show t1 {D' with nx:=fun σ2 H2=>D'=D'∧M σ2 H2} _ _
 have e:(fun (σ2:St) (H2:Hp)=>D'=D'∧M σ2 H2)=M:=by
  funext σ2 H2
  exact propext ⟨fun z=>z.2,fun z=>⟨rfl,z⟩⟩
 rw[e]
 exact q1
theorem hZ (ns:List Int)(lo hi:Option Int):∃ms:List Int,lp (ns.map V.int) lo hi=ms.map V.int∧ms.length≤ns.length:=by
 refine⟨(ns.drop (HT.sIx (ns.map V.int).length 0 lo)).take (HT.sIx (ns.map V.int).length (ns.map V.int).length hi-HT.sIx (ns.map V.int).length 0 lo),?_,?_⟩
 ·unfold lp
  rw[List.map_take,List.map_drop]
 ·rw[zm8,zu9]
  omega
def zc3 (bs:List Int):Prop:=∃x y:Int,bs=[x,y]∧0≤y∧y<4294967296
structure yU (H:Hp)(t b c:Addr):Prop where
 ex:∃(n:Int) (bs cs:List Int),(b=t∧c=t)∧H t=some (.lst (bs.map V.int))∧H b=some (.lst (bs.map V.int))∧H c=some (.lst (cs.map V.int))∧zc3 bs∧n=0
def bA (t b:Addr)(H H':Hp):Prop:=∀a,a≠t→a≠b→H' a=H a
def gC :Sp:=fun vs H Q _=>∃(t b c:Addr) (many:Int),vs=[.ref t,.int many]∧yU H t b c∧0<many∧many<big∧
 ∀(v:Int) (H':Hp),0≤v→v<many→yU H' t b c→bA t b H H'→Q (.int v) H'
theorem yU.free {H:Hp}{t b c l:Addr}(T:yU H t b c)(h:H l=none):l≠t∧l≠b∧l≠c:=by
 obtain⟨n,bs,cs,n1,e1,e2,e3,l1,l2⟩:=T.ex
 exact⟨(zo e1 h).symm,(zo e2 h).symm,(zo e3 h).symm⟩
theorem yU.off {H H':Hp}{t b c:Addr}(T:yU H t b c)(h:∀a,a=t∨a=b∨a=c→H' a=H a):yU H' t b c:=by
 obtain⟨n,bs,cs,n1,e1,e2,e3,l1,l2⟩:=T.ex
 exact⟨n,bs,cs,n1,by rw[h t (.inl rfl)];exact e1,by rw[h b (.inr (.inl rfl))];exact e2,by rw[h c (.inr (.inr rfl))];exact e3,l1,l2⟩
theorem gQ {H:Hp}{t b c l:Addr}{o:HO}(T:yU H t b c)(h:l≠t∧l≠b∧l≠c):yU (upd H l o) t b c:=
 T.off fun a ha=>zk (ha.elim (fun e=>e▸h.1.symm) fun ha=>ha.elim (fun e=>e▸h.2.1.symm) fun e=>e▸h.2.2.symm)
theorem kY {H H':Hp}{t b c:Addr}(T:yU H t b c)(s:zq H H'):yU H' t b c:=by
 obtain⟨n,bs,cs,n1,e1,e2,e3,l1,l2⟩:=T.ex
 exact⟨n,bs,cs,n1,s _ _ e1,s _ _ e2,s _ _ e3,l1,l2⟩
theorem zP {H:Hp}{p:Addr}{o:HO}(h:H p=none):zq H (upd H p o):=fun b u e=>by rw[zk (zo e h)];exact e
def uF (x:Addr):Prop:=False
def TabAt (H:Hp):Prop:=True
def Plain (H:Hp)(l:Addr):Prop:=True
theorem oa {H H':Hp}(T:TabAt H)(h:∀a o,(∀xs,o≠.lst xs)→H a=some o→H' a=some o):TabAt H':=trivial
theorem eQ {H:Hp}{l:Addr}{o:HO}(T:TabAt H)(h:Plain H l):TabAt (upd H l o):=trivial
theorem uV {H:Hp}{x:Addr}(T:TabAt H)(h:uF x):∃o,H x=some o∧(∀ts,o≠.tup ts)∧∀xs,o≠.lst xs:=h.elim
theorem rB {H:Hp}{l:Addr}{xs:List V}(h:H l=some (.lst xs)):Plain H l:=trivial
theorem iw {H:Hp}{l:Addr}{xs:List (Key×V)}(h:H l=some (.dK xs)):Plain H l:=trivial
theorem lB {H:Hp}{l C dx:Addr}{fs:List (Str×V)}(h:H l=some (.ins C dx fs)):Plain H l:=trivial
theorem vv {H:Hp}{l:Addr}(T:TabAt H)(h:H l=none):¬uF l:=fun z=>by
 obtain⟨o,e,_⟩:=uV T z
 rw[h] at e;cases e
theorem ee {H H':Hp}{t b:Addr}{xs ys:List V}(T:TabAt H)(ht:H t=some (.lst xs))(hb:H b=some (.lst ys))(off:bA t b H H'):TabAt H':=oa T fun a o no e=>by
 have n1:a≠t:=fun z=>by rw[z,ht] at e;cases e;exact no _ rfl
 have n2:a≠b:=fun z=>by rw[z,hb] at e;cases e;exact no _ rfl
 rw[off a n1 n2];exact e
theorem bF {H H':Hp}(T:TabAt H)(h:zq H H'):TabAt H':=oa T fun a o _ e=>h a o e
def om (K:PySem.W.Frag):Sp:=fun vs H Q _=>∃(a:Addr) (ns:List Int),vs=[.ref a]∧SqL K H a (ns.map V.int)∧ns.length≤63∧TabAt H∧∀H',Q (.bl true) H'
theorem dn (d:PyData):sN "int" d=some (isInt d):=by unfold sN;rw[if_pos rfl]
theorem tE (d:PyData):sN "bool" d=some (isBool d):=by unfold sN;rw[if_neg (by decide),if_pos rfl]
theorem rH (d:PyData):sN "tuple" d=some (mR d):=by unfold sN;rw[if_neg (by decide),if_neg (by decide),if_neg (by decide),if_neg (by decide),if_pos rfl]
structure zW (n:Nat)(d:PyData):Prop where
 shw:d.showable=true
 nod:d.hasDict=false
 dep:d.depth≤8
 len:d.shown.length≤n
 lay:d.canLay0=true
theorem zW.mono {m n:Nat}{d:PyData}(h:zW m d)(e:m≤n):zW n d:=⟨h.shw,h.nod,h.dep,zk7 h.len e,h.lay⟩
theorem uw :∀(ts:List Str) (k:Nat) (acc:Str),(textFrom k acc ts).length≤acc.length+piled ts
 |[],_,acc=>by rw[piled_nil];exact zg5 _
 |t::r,k,acc=>by
  have h:=uw r (k+1) (acc++(if k > 0 then ", " else "":String)++t)
  rw[piled_cons]
  have e2:(Str.ofString (if k > 0 then ", " else "":String)).length≤2:=by
   split
   ·exact zo5 rfl
   ·exact zi5 _
  have e3:=zu7 (acc++Str.ofString (if k > 0 then ", " else "":String)) t
  have e4:=zu7 acc (Str.ofString (if k > 0 then ", " else "":String))
  show (textFrom (k+1) (acc++Str.ofString (if k > 0 then ", " else "":String)++t) r).length≤_
  have h':(textFrom (k+1) (acc++Str.ofString (if k > 0 then ", " else "":String)++t) r).length≤(acc++Str.ofString (if k > 0 then ", " else "":String)++t).length+piled r:=h
  omega
theorem pH (ts:List Str):(listText ts).length≤piled ts+2:=by
 unfold listText
 rw[zu7]
 have h:=uw ts 0 (Str.ofString "[")
 have e1:(Str.ofString "[").length=1:=rfl
 have e2:(Str.ofString "]").length=1:=rfl
 show (textFrom 0 (Str.ofString "[") ts).length+(Str.ofString "]").length≤_
 omega
theorem qQ (ts:List Str):(tupleText ts).length≤piled ts+3:=by
 cases ts with
 |nil=>decide +kernel
 |cons t r=>
  have h:=join_length_add (t::r) (by simp)
  unfold tupleText
  rw[zu7,zu7]
  have e1:(Str.ofString "(").length=1:=rfl
  have e2:(Str.ofString (if (t::r).length == 1 then ",)" else ")":String)).length≤2:=by
   split
   ·exact zo5 rfl
   ·exact zm3 (show 1<2 by decide)
  show (Str.ofString "(").length+(Str.join ", " (t::r)).length+(Str.ofString (if (t::r).length == 1 then ",)" else ")":String)).length≤_
  omega
theorem wD {n:Nat}:∀(ds:List PyData),(∀d∈ds,zW n d)→piled (PyData.shownAll ds)≤ds.length*(n+2)
 |[],_=>zi5 _
 |d::r,h=>by
  have h1:=(h d zh3).len
  have h2:=wD r fun e he=>h e (zg7 _ he)
  show piled (d.shown::PyData.shownAll r)≤_
  rw[piled_cons,zj5,Nat.succ_mul]
  omega
structure yj (n:Nat)(ds:List PyData):Prop where
 all:∀d∈ds,zW n d
 dep:∀d∈ds,d.depth≤7
theorem yj.parts {n:Nat}:∀{ds:List PyData},yj n ds→PyData.showableAll ds=true∧PyData.hasDictAll ds=false∧PyData.depthAll ds≤7∧PyData.canLayAll0 ds=true
 |[],_=>⟨rfl,rfl,zi5 _,rfl⟩
 |d::r,h=>by
  obtain⟨a,b,c,e⟩:=yj.parts (ds:=r) ⟨fun x hx=>h.all x (zg7 _ hx),fun x hx=>h.dep x (zg7 _ hx)⟩
  have hd:=h.all d zh3
  have hp:=h.dep d zh3
  refine⟨?_,?_,?_,?_⟩
  ·simp only[PyData.showableAll,hd.shw,a,Bool.and_self]
  ·simp only[PyData.hasDictAll,hd.nod,b,Bool.or_self]
  ·simp only[PyData.depthAll];omega
  ·simp only[PyData.canLayAll0,hd.lay,e,Bool.and_self]
theorem zW.list {n m:Nat}{ds:List PyData}(h:yj n ds)(e:ds.length*(n+2)+2≤m):zW m (.list ds):=by
 obtain⟨a,b,c,f⟩:=h.parts
 refine⟨by simp only[PyData.showable,a],by simp only[PyData.hasDict,b],by simp only[PyData.depth];omega,?_,by simp only[PyData.canLay0,f]⟩
 show (listText (PyData.shownAll ds)).length≤m
 have h1:=pH (PyData.shownAll ds)
 have h2:=wD ds h.all
 omega
theorem zW.tuple {n m:Nat}{ds:List PyData}(h:yj n ds)(e:ds.length*(n+2)+3≤m):zW m (.tuple ds):=by
 obtain⟨a,b,c,f⟩:=h.parts
 refine⟨by simp only[PyData.showable,a],by simp only[PyData.hasDict,b],by simp only[PyData.depth];omega,?_,by simp only[PyData.canLay0,f]⟩
 show (tupleText (PyData.shownAll ds)).length≤m
 have h1:=qQ (PyData.shownAll ds)
 have h2:=wD ds h.all
 omega
theorem gr {i:Int}(h0:-big<i)(h1:i<big):i.natAbs.log2<1920:=by
 by_cases hn:i.natAbs=0
 ·rw[hn];decide
 ·have h2:i.natAbs<2 ^ 256:=by
   have e:(2:Nat) ^ 256=115792089237316195423570985008687907853269984665640564039457584007913129639936:=by decide +kernel
   rw[e]
   unfold big at h0 h1
   omega
  have h3:i.natAbs.log2<256:=(Nat.log2_lt hn).mpr h2
  omega
theorem zW.int {i:Int}(h0:-big<i)(h1:i<big):zW 2000 (.int i):=by
 have hl:=gr h0 h1
 refine⟨by simp only[PyData.showable,zk4];exact hl,rfl,zi5 _,?_,rfl⟩
 have:=int_text_len_1921 hl
 show (Str.ofString (toString i)).length≤2000
 omega
theorem zW.none :zW 2000 .none:=⟨rfl,rfl,zi5 _,by decide +kernel,rfl⟩
theorem zW.bool (b:Bool):zW 2000 (.bool b):=⟨rfl,rfl,zi5 _,by cases b<;>decide +kernel,rfl⟩
theorem zW.shaped {n:Nat}{d:PyData}(h:zW n d):SeqAt.shaped d=true:=by
 unfold SeqAt.shaped
 rw[h.lay,zn0,zk4]
 have:=h.dep
 omega
section
variable {X:Cx}
end
def oO :PyData→Bool
 |.int _=>true
 |_=>false
def zV (lo hi:Int):PyData→Bool
 |.int i=>decide (lo≤i)&&decide (i≤hi)
 |_=>false
def pairD :PyData→Bool
 |.tuple ds=>decide ((ds.length:Int)=2)
 |_=>false
abbrev vA :PyData→Bool:=zV 0 1000000
def tH :PyData→Bool
 |.tuple [a,b]=>vA a&&vA b
 |_=>false
def sO :PyData→Option Int
 |.tuple [.int a,.int b]=>if vA (.int a)&&vA (.int b) then some (b-a) else none
 |_=>none
def yh (d:PyData):Bool:=match sO d with
 |some k=>decide (0≤k)
 |none=>false
theorem lC (d:PyData):oO d=(isInt d&&!isBool d):=by cases d<;>rfl
theorem uC {d:PyData}(h:pairD d=true):∃a b,d=.tuple [a,b]:=by
 cases d with
 |tuple ds=>
  have h':(ds.length:Int)=2:=zq3 h
  match ds,h' with
  |[a,b],_=>exact⟨a,b,rfl⟩
  |[],z=>simp at z
  |[_],z=>simp at z
  |_::_::_::_,z=>simp at z;omega
 |_=>cases h
theorem sj (d:PyData):tH d=(sO d).isSome:=by
 unfold tH sO
 split
 ·rename_i a b
  cases a with
  |int i=>
   cases b with
   |int j=>
    show (vA (.int i)&&vA (.int j))=_
    cases e:(vA (.int i)&&vA (.int j))<;>simp[e]
   |_=>simp[zV]
  |_=>simp[zV]
 ·rename_i h
  split
  ·rename_i a b
   exact absurd rfl (h (.int a) (.int b))
  ·rfl
theorem oM {d:PyData}(h:tH d=true):∃a b:Int,d=.tuple [.int a,.int b]∧sO d=some (b-a):=by
 rw[sj] at h
 unfold sO at h ⊢
 split at h
 ·rename_i a b
  split at h
  ·rename_i hc
   exact⟨a,b,rfl,by simp[hc]⟩
  ·cases h
 ·cases h
def yG (g:PyData→Bool):Sp:=fun vs H Q _=>∃x d,vs=[x]∧DV H x d∧Q (.bl (g d)) H
def wL :Sp:=fun vs H Q _=>∃x d lo hi,vs=[x,.int lo,.int hi]∧DV H x d∧Q (.bl (zV lo hi d)) H
theorem fz {n:Nat}:decide (V.int (n:Int)=V.int 2)=decide ((n:Int)=2):=by simp
noncomputable def sub (p:Addr→Prop)(H:Hp):Hp:=fun a=>open Classical in if p a then H a else none
theorem zg {p:Addr→Prop}{H:Hp}{a:Addr}{o:HO}(h:sub p H a=some o):p a∧H a=some o:=by
 unfold sub at h
 split at h
 ·rename_i hp;exact⟨hp,h⟩
 ·cases h
theorem zT {p:Addr→Prop}{H:Hp}{a:Addr}{o:HO}(hp:p a)(h:H a=some o):sub p H a=some o:=by
 unfold sub
 rw[if_pos hp]
 exact h
theorem zu {p q:Addr→Prop}{H H':Hp}(h:∀a o,p a→H a=some o→q a∧H' a=some o):zq (sub p H) (sub q H'):=fun a o e=>by
 obtain⟨hp,he⟩:=zg e
 obtain⟨hq,he'⟩:=h a o hp he
 exact zT hq he'
theorem xV {p:Addr→Prop}{H:Hp}:zq (sub p H) H:=fun _ _ e=>(zg e).2
theorem yj.snoc {n:Nat}{ds:List PyData}{d:PyData}(h:yj n ds)(hd:zW n d)(hp:d.depth≤7):yj n (ds++[d]):=
 ⟨fun e he=>(zi0.mp he).elim (h.all e) fun z=>by rw[zj4.mp z];exact hd,fun e he=>(zi0.mp he).elim (h.dep e) fun z=>by rw[zj4.mp z];exact hp⟩
theorem yj.nil {n:Nat}:yj n []:=⟨fun d hd=>by simp at hd,fun d hd=>by simp at hd⟩
theorem yj.two {n:Nat}{d e:PyData}(hd:zW n d)(he:zW n e)(h1:d.depth≤7)(h2:e.depth≤7):yj n [d,e]:=(yj.nil.snoc hd h1).snoc he h2
section
variable {X:Cx}{e:Expr}{es:List Expr}
def vJ (X:Cx)(e:Expr):TE:=fun σ H Q=>∃t,PE X e t∧t σ H Q
theorem zi :PE X e (vJ X e):=fun pins s σ H Q I ⟨t,p,q⟩=>p pins s σ H Q I q
def zb9 (X:Cx)(e:Expr):TT:=fun σ H Q=>∃t,PT X e t∧t σ H Q
theorem wj :PT X e (zb9 X e):=fun pins s σ H Q I ⟨t,p,q⟩=>p pins s σ H Q I q
def za8 (X:Cx)(es:List Expr):TA:=fun σ H Q=>∃t,PA X es t∧t σ H Q
theorem xo :PA X es (za8 X es):=fun pos pins s σ H Q I ⟨t,p,q⟩=>p pos pins s σ H Q I q
end
def jf :Key→PyData
 |.inl i=>.int i
 |.inr x=>.str x
def xcO (a C:Addr)(d:Option Addr):HO:=.ext fun h=>∃o vs,h.get? a=some o∧o.cls=.ref C∧o.dict=d∧o.data=.fields vs
mutual
inductive AV (H:Hp):V→PyData→Prop where
 |non:AV H .non .none
 |bl (b:Bool):AV H (.bl b) (.bool b)
 |int (i:Int):AV H (.int i) (.int i)
 |str (x:Str):AV H (.str x) (.str x)
 |lst {a:Addr} {xs:List V} {ds:List PyData}:H a=some (.lst xs)→AVs H xs ds→AV H (.ref a) (.list ds)
 |tup {a:Addr} {xs:List V} {ds:List PyData}:H a=some (.tup xs)→AVs H xs ds→AV H (.ref a) (.tuple ds)
 |ins {a C dx:Addr} {fs:List (Str×V)} {ds:List (PyData×PyData)}:H a=some (.ins C dx fs)→AVf H fs ds→AV H (.ref a) (.dict ((.int (C:Nat),.none)::ds))
 |dk {a:Addr} {o:Obj} {kvs:List (Key×V)} {ds:List (PyData×PyData)}:H a=some (.frz o (.dK kvs))→AVk H kvs ds→AV H (.ref a) (.dict ((.none,.none)::ds))
 |dt {a:Addr} {o:Obj} {kvs:List (List Key×V)} {ds:List (PyData×PyData)}:H a=some (.frz o (.dT kvs))→AVt H kvs ds→AV H (.ref a) (.dict ((.none,.bool true)::ds))
 |xc {a C dx:Addr} {fs:List (Str×V)} {ds:List (PyData×PyData)}:H a=some (xcO a C (some dx))→H dx=some (.xd fs)→AVf H fs ds→AV H (.ref a) (.dict ((.int (C:Nat),.bool true)::ds))
 |xn {a C:Addr}:H a=some (xcO a C none)→AV H (.ref a) (.dict [(.int (C:Nat),.bool false)])
inductive AVs (H:Hp):List V→List PyData→Prop where
 |nil:AVs H [] []
 |cons {x:V} {xs:List V} {d:PyData} {ds:List PyData}:AV H x d→AVs H xs ds→AVs H (x::xs) (d::ds)
inductive AVf (H:Hp):List (Str×V)→List (PyData×PyData)→Prop where
 |nil:AVf H [] []
 |cons {f:Str} {x:V} {fs:List (Str×V)} {d:PyData} {ds:List (PyData×PyData)}:AV H x d→AVf H fs ds→AVf H ((f,x)::fs) ((.str f,d)::ds)
inductive AVk (H:Hp):List (Key×V)→List (PyData×PyData)→Prop where
 |nil:AVk H [] []
 |cons {k:Key} {x:V} {fs:List (Key×V)} {d:PyData} {ds:List (PyData×PyData)}:AV H x d→AVk H fs ds→AVk H ((k,x)::fs) ((jf k,d)::ds)
inductive AVt (H:Hp):List (List Key×V)→List (PyData×PyData)→Prop where
 |nil:AVt H [] []
 |cons {k:List Key} {x:V} {fs:List (List Key×V)} {d:PyData} {ds:List (PyData×PyData)}:AV H x d→AVt H fs ds→AVt H ((k,x)::fs) ((.tuple (k.map jf),d)::ds)
end
mutual
theorem AV.same {H H':Hp}(e:zq H H'):∀{x:V} {d:PyData},AV H x d→AV H' x d
 |_,_,.non=>.non
 |_,_,.bl b=>.bl b
 |_,_,.int i=>.int i
 |_,_,.str x=>.str x
 |_,_,.lst hq hs=>.lst (e _ _ hq) (AVs.same e hs)
 |_,_,.tup hq hs=>.tup (e _ _ hq) (AVs.same e hs)
 |_,_,.ins hq hs=>.ins (e _ _ hq) (AVf.same e hs)
 |_,_,.dk hq hs=>.dk (e _ _ hq) (AVk.same e hs)
 |_,_,.dt hq hs=>.dt (e _ _ hq) (AVt.same e hs)
 |_,_,.xc hq hd hs=>.xc (e _ _ hq) (e _ _ hd) (AVf.same e hs)
 |_,_,.xn hq=>.xn (e _ _ hq)
theorem AVs.same {H H':Hp}(e:zq H H'):∀{xs:List V} {ds:List PyData},AVs H xs ds→AVs H' xs ds
 |_,_,.nil=>.nil
 |_,_,.cons h hs=>.cons (AV.same e h) (AVs.same e hs)
theorem AVf.same {H H':Hp}(e:zq H H'):∀{fs:List (Str×V)} {ds:List (PyData×PyData)},AVf H fs ds→AVf H' fs ds
 |_,_,.nil=>.nil
 |_,_,.cons h hs=>.cons (AV.same e h) (AVf.same e hs)
theorem AVk.same {H H':Hp}(e:zq H H'):∀{fs:List (Key×V)} {ds:List (PyData×PyData)},AVk H fs ds→AVk H' fs ds
 |_,_,.nil=>.nil
 |_,_,.cons h hs=>.cons (AV.same e h) (AVk.same e hs)
theorem AVt.same {H H':Hp}(e:zq H H'):∀{fs:List (List Key×V)} {ds:List (PyData×PyData)},AVt H fs ds→AVt H' fs ds
 |_,_,.nil=>.nil
 |_,_,.cons h hs=>.cons (AV.same e h) (AVt.same e hs)
end
mutual
theorem AV.dv {H:Hp}:∀{x:V} {d:PyData},AV H x d→d.hasDict=false→DV H x d
 |_,_,.non,_=>.non
 |_,_,.bl b,_=>.bl b
 |_,_,.int i,_=>.int i
 |_,_,.str x,_=>.str x
 |_,_,.lst hq hs,h=>.lst hq (AVs.dv hs (by simpa only[PyData.hasDict] using h))
 |_,_,.tup hq hs,h=>.tup hq (AVs.dv hs (by simpa only[PyData.hasDict] using h))
 |_,_,.ins hq hs,h=>by simp[PyData.hasDict] at h
 |_,_,.dk hq hs,h=>by simp[PyData.hasDict] at h
 |_,_,.dt hq hs,h=>by simp[PyData.hasDict] at h
 |_,_,.xc hq _ hs,h=>by simp[PyData.hasDict] at h
 |_,_,.xn hq,h=>by simp[PyData.hasDict] at h
theorem AVs.dv {H:Hp}:∀{xs:List V} {ds:List PyData},AVs H xs ds→PyData.hasDictAll ds=false→DVs H xs ds
 |_,_,.nil,_=>.nil
 |_,_,.cons h hs,e=>by
  simp only[PyData.hasDictAll,zv5] at e
  exact .cons (AV.dv h e.1) (AVs.dv hs e.2)
end
mutual
theorem DV.av {H:Hp}:∀{x:V} {d:PyData},DV H x d→AV H x d
 |_,_,.non=>.non
 |_,_,.bl b=>.bl b
 |_,_,.int i=>.int i
 |_,_,.str x=>.str x
 |_,_,.lst hq hs=>.lst hq (DVs.av hs)
 |_,_,.tup hq hs=>.tup hq (DVs.av hs)
theorem DVs.av {H:Hp}:∀{xs:List V} {ds:List PyData},DVs H xs ds→AVs H xs ds
 |_,_,.nil=>.nil
 |_,_,.cons h hs=>.cons (DV.av h) (DVs.av hs)
end
theorem AVs.length {H:Hp}:∀{xs:List V} {ds:List PyData},AVs H xs ds→xs.length=ds.length
 |_,_,.nil=>rfl
 |_,_,.cons _ hs=>by rw[zj5,zj5,AVs.length hs]
theorem AVs.append {H:Hp}:∀{xs ys:List V} {ds es:List PyData},AVs H xs ds→AVs H ys es→AVs H (xs++ys) (ds++es)
 |_,_,_,_,.nil,h=>h
 |_,_,_,_,.cons a r,h=>.cons a (AVs.append r h)
theorem AVs.get {H:Hp}:∀{xs:List V} {ds:List PyData} {i:Nat} {d:PyData},AVs H xs ds→ds[i]?=some d→∃x,xs[i]?=some x∧AV H x d
 |_,_,_,_,.nil,e=>by simp at e
 |_,_,0,_,.cons a _,e=>by simp at e;subst e;exact⟨_,rfl,a⟩
 |_,_,i+1,d,.cons _ r,e=>by
  obtain⟨x,h1,h2⟩:=AVs.get (i:=i) (d:=d) r (by simpa using e)
  exact⟨x,by simpa using h1,h2⟩
theorem AVs.take {H:Hp}:∀{xs:List V} {ds:List PyData} (n:Nat),AVs H xs ds→AVs H (xs.take n) (ds.take n)
 |_,_,0,_=>.nil
 |_,_,_+1,.nil=>.nil
 |_,_,n+1,.cons a r=>.cons a (AVs.take n r)
theorem AVs.drop {H:Hp}:∀{xs:List V} {ds:List PyData} (n:Nat),AVs H xs ds→AVs H (xs.drop n) (ds.drop n)
 |_,_,0,r=>r
 |_,_,_+1,.nil=>.nil
 |_,_,n+1,.cons _ r=>AVs.drop n r
theorem AVs.set {H:Hp}{x:V}{d:PyData}(a:AV H x d):∀{xs:List V} {ds:List PyData} (i:Nat),AVs H xs ds→AVs H (xs.set i x) (ds.set i d)
 |_,_,_,.nil=>.nil
 |_,_,0,.cons _ r=>.cons a r
 |_,_,i+1,.cons q r=>.cons q (AVs.set a i r)
theorem AVs.atI {H:Hp}{xs:List V}{ds:List PyData}{i:Int}{d:PyData}(h:AVs H xs ds)(e:atI ds i=some d):∃x,L2.atI xs i=some x∧AV H x d:=by
 unfold L2.atI at e ⊢
 rw[h.length]
 cases q:ixN ds.length i with
 |none=>rw[q] at e;cases e
 |some j=>
  rw[q] at e
  exact h.get (i:=j) e
mutual
def noL :PyData→Bool
 |.list _=>false
 |.dict ((.none,_)::_)=>false
 |.dict kvs=>nM kvs
 |.tuple ds=>noLs ds
 |_=>true
def noLs :List PyData→Bool
 |[]=>true
 |d::r=>noL d&&noLs r
def nM :List (PyData×PyData)→Bool
 |[]=>true
 |(_,d)::r=>noL d&&nM r
end
def Ob :HO→Prop
 |.lst _=>True
 |.dK _=>True
 |.frz _ _=>True
 |_=>False
mutual
theorem AV.noL {H H':Hp}(e:∀a o,¬Ob o→H a=some o→H' a=some o):∀{x:V} {d:PyData},AV H x d→noL d=true→AV H' x d
 |_,_,.non,_=>.non
 |_,_,.bl b,_=>.bl b
 |_,_,.int i,_=>.int i
 |_,_,.str x,_=>.str x
 |_,_,.lst _ _,h=>by simp[L2.noL] at h
 |_,_,.tup hq hs,h=>.tup (e _ _ (fun z=>z) hq) (AVs.noL e hs (by simpa only[L2.noL] using h))
 |_,_,.ins hq hs,h=>.ins (e _ _ (fun z=>z) hq) (AVf.noL e hs (by simpa[L2.noL,L2.nM] using h))
 |_,_,.dk _ _,h=>by simp[L2.noL] at h
 |_,_,.dt _ _,h=>by simp[L2.noL] at h
 |_,_,.xc hq hd hs,h=>.xc (e _ _ (fun z=>z) hq) (e _ _ (fun z=>z) hd) (AVf.noL e hs (by simpa[L2.noL,L2.nM] using h))
 |_,_,.xn hq,h=>.xn (e _ _ (fun z=>z) hq)
theorem AVs.noL {H H':Hp}(e:∀a o,¬Ob o→H a=some o→H' a=some o):∀{xs:List V} {ds:List PyData},AVs H xs ds→noLs ds=true→AVs H' xs ds
 |_,_,.nil,_=>.nil
 |_,_,.cons h hs,q=>by
  simp only[L2.noLs,zi9] at q
  exact .cons (AV.noL e h q.1) (AVs.noL e hs q.2)
theorem AVf.noL {H H':Hp}(e:∀a o,¬Ob o→H a=some o→H' a=some o):∀{fs:List (Str×V)} {ds:List (PyData×PyData)},AVf H fs ds→nM ds=true→AVf H' fs ds
 |_,_,.nil,_=>.nil
 |_,_,.cons h hs,q=>by
  simp only[L2.nM,zi9] at q
  exact .cons (AV.noL e h q.1) (AVf.noL e hs q.2)
end
structure Fr where
 H0:Hp
 O0:Addr→Prop
 tp:Option (Addr×Addr×Addr)
inductive A where
 |dat (d:PyData)
 |ow (c:PyData)
 |deep (d:PyData) (S:Addr→Prop)
 |tape
 |at (l:Addr)
 |exc (r:Fr) (q:PyData→Prop)
 |pin (l:Addr) (vs:List V) (ds:List PyData)
 |nst (l:Addr) (ls:List Addr) (dss:List (List PyData))
@[reducible] def A.own (ds:List PyData):A:=.ow (.list ds)
abbrev ff (ds:List (PyData×PyData)):PyData:=.dict ((.none,.none)::ds)
abbrev Ev :=List (Option A)
def wH (o:HO):Prop:=∀ts,o≠.tup ts
theorem xT {xs:List V}:wH (.lst xs):=fun _ z=>by cases z
theorem Ob.notup {o:HO}(h:Ob o):wH o:=fun ts z=>by subst z;exact h
def NT (F:Fr)(x:Addr):Prop:=(∀t b c,F.tp=some (t,b,c)→x≠t∧x≠b)∧¬uF x
def Kz (F:Fr)(H H':Hp):Prop:=∀x o,H x=some o→NT F x→H' x=some o
structure zH (F:Fr)(H:Hp):Prop where
 tab:TabAt H
 ot:∀x,uF x→F.O0 x
 all:∀t b c,F.tp=some (t,b,c)→yU H t b c∧F.O0 t∧F.O0 b∧F.O0 c
instance {F:Fr} {H:Hp}:CoeFun (zH F H) (fun _=>∀t b c,F.tp=some (t,b,c)→yU H t b c∧F.O0 t∧F.O0 b∧F.O0 c):=⟨zH.all⟩
theorem zH.to {F F':Fr}{H:Hp}(t:zH F H)(hp:F'.tp=F.tp)(ho:∀x,F.O0 x→F'.O0 x):zH F' H:=⟨t.tab,fun x h=>ho x (t.ot x h),fun a b c e=>by
 obtain⟨h1,h2,h3,h4⟩:=t a b c (hp▸e)
 exact⟨h1,ho _ h2,ho _ h3,ho _ h4⟩⟩
theorem zH.re {F F':Fr}{H H':Hp}(t:zH F H)(t':zH F' H')(hp:F'.tp=F.tp):zH F H':=⟨t'.tab,t.ot,fun a b c e=>⟨(t' a b c (hp▸e)).1,(t a b c e).2⟩⟩
theorem zH.upd {F:Fr}{H:Hp}{l:Addr}{o:HO}(t:zH F H)(h:∀a b c,F.tp=some (a,b,c)→l≠a∧l≠b∧l≠c)(hp:Plain H l):zH F (upd H l o):=⟨eQ t.tab hp,t.ot,fun a b c e=>⟨gQ (t a b c e).1 (h a b c e),(t a b c e).2⟩⟩
theorem zH.updO {F:Fr}{H:Hp}{l:Addr}{o:HO}(t:zH F H)(h:¬F.O0 l)(hp:Plain H l):zH F (L2.upd H l o):=t.upd (fun a b c e=>⟨fun z=>h (by rw[z];exact (t a b c e).2.1),fun z=>h (by rw[z];exact (t a b c e).2.2.1),fun z=>h (by rw[z];exact (t a b c e).2.2.2)⟩) hp
def foot (s:Option V):A→Addr→Prop
 |.ow _,x=>s=some (.ref x)
 |.deep _ S,x=>S x
 |.nst l ls _,x=>x∈l::ls
 |_,_=>False
def Ow (F:Fr)(α:Ev)(σ:St)(x:Addr):Prop:=F.O0 x∨∃(i:Nat) (a:A) (s:Option V),α[i]?=some (some a)∧σ[i]?=some s∧foot s a x
noncomputable abbrev Gz (F:Fr)(α:Ev)(σ:St)(H:Hp):Hp:=sub (fun x=>¬Ow F α σ x) H
noncomputable def ny (S:Addr→Prop)(G H:Hp):Hp:=fun x=>open Classical in if S x then H x else match G x with
 |some (.lst _)=>none
 |o=>o
theorem uj {S:Addr→Prop}{G G' H H':Hp}(h:zq G G')(hS:∀x o,S x→H x=some o→H' x=some o):zq (ny S G H) (ny S G' H'):=fun x o e=>by
 unfold ny at e ⊢
 by_cases z:S x
 ·rw[if_pos z] at e ⊢;exact hS x o z e
 ·rw[if_neg z] at e ⊢
  cases q:G x with
  |none=>rw[q] at e;cases e
  |some u=>
   rw[h _ _ q]
   rw[q] at e
   exact e
theorem jS {S:Addr→Prop}{G H:Hp}{x:Addr}{o:HO}(h:ny S G H x=some o):(S x∧H x=some o)∨(¬S x∧G x=some o):=by
 unfold ny at h
 by_cases z:S x
 ·rw[if_pos z] at h;exact .inl ⟨z,h⟩
 ·rw[if_neg z] at h
  split at h
  ·cases h
  ·exact .inr ⟨z,h⟩
inductive xh (G:Hp):HO→PyData→Prop where
 |lst {xs:List V} {ds:List PyData}:AVs G xs ds→xh G (.lst xs) (.list ds)
 |dk {kvs:List (Key×V)} {ds:List (PyData×PyData)}:AVk G kvs ds→xh G (.dK kvs) (ff ds)
theorem xh.ob {G:Hp}{o:HO}{c:PyData}(h:xh G o c):Ob o:=by cases h<;>trivial
theorem xh.same {G G':Hp}{o:HO}{c:PyData}(h:xh G o c)(s:zq G G'):xh G' o c:=by
 cases h with
 |lst h=>exact .lst (h.same s)
 |dk h=>exact .dk (h.same s)
theorem xh.av {G:Hp}{o:HO}{ds:List PyData}{l:Addr}(h:xh G o (.list ds))(e:G l=some o):AV G (.ref l) (.list ds):=by
 cases h with
 |lst h=>exact .lst e h
theorem xh.lst_inv {G:Hp}{o:HO}{ds:List PyData}(h:xh G o (.list ds)):∃xs,o=.lst xs∧AVs G xs ds:=by cases h;exact⟨_,rfl,by assumption⟩
theorem xh.plain {G H:Hp}{o:HO}{c:PyData}{l:Addr}(h:xh G o c)(e:H l=some o):Plain H l:=by
 cases h with
 |lst h=>exact rB e
 |dk h=>exact iw e
structure Lnk (r F:Fr)(H:Hp):Prop where
 tp:r.tp=F.tp
 o:∀x,r.O0 x→F.O0 x
 ok:zH r H
 k:Kz r r.H0 H
def xU (G H:Hp):List Addr→List (List PyData)→Prop
 |[],[]=>True
 |a::ls,ds::dss=>(∃xs,H a=some (.lst xs)∧AVs G xs ds)∧xU G H ls dss
 |_,_=>False
theorem xU.same {G G' H H':Hp}(g:zq G G'):∀{ls:List Addr} {dss:List (List PyData)},(∀a∈ls,∀o,H a=some o→H' a=some o)→xU G H ls dss→xU G' H' ls dss
 |[],[],_,_=>trivial
 |a::ls,ds::dss,h,⟨⟨xs,e,av⟩,r⟩=>⟨⟨xs,h a zh3 _ e,av.same g⟩,xU.same g (fun b hb=>h b (zg7 _ hb)) r⟩
 |[],_::_,_,z=>z.elim
 |_::_,[],_,z=>z.elim
theorem xU.obj {G H:Hp}:∀{ls:List Addr} {dss:List (List PyData)},xU G H ls dss→∀a∈ls,∃xs,H a=some (.lst xs)
 |[],_,_,_,h=>by cases h
 |b::ls,ds::dss,⟨⟨xs,e,_⟩,r⟩,a,h=>by
  rcases zg3.mp h with z|z
  ·exact⟨xs,z▸e⟩
  ·exact xU.obj r a z
 |_::_,[],z,_,_=>z.elim
theorem xU.avs {G H:Hp}{p:Addr→Prop}(g:zq G (sub p H)):∀{ls:List Addr} {dss:List (List PyData)},(∀a∈ls,p a)→xU G H ls dss→AVs (sub p H) (ls.map .ref) (dss.map .list)
 |[],[],_,_=>.nil
 |a::ls,ds::dss,h,⟨⟨xs,e,av⟩,r⟩=>.cons (.lst (zT (h a zh3) e) (av.same g)) (xU.avs g (fun b hb=>h b (zg7 _ hb)) r)
 |[],_::_,_,z=>z.elim
 |_::_,[],_,z=>z.elim
def xO (G:Hp)(F:Fr)(H:Hp)(s:Option V):A→Prop
 |.dat d=>∃v,s=some v∧AV G v d
 |.ow c=>∃l o,s=some (.ref l)∧H l=some o∧xh G o c∧¬F.O0 l∧F.H0 l=none
 |.deep d S=>∃v,s=some v∧AV (ny S G H) v d∧∀x,S x→¬F.O0 x∧F.H0 x=none∧∃xs,H x=some (.lst xs)
 |.tape=>∃t b c,F.tp=some (t,b,c)∧s=some (.ref t)
 |.at l=>s=some (.ref l)
 |.exc r _=>Lnk r F H
 |.pin l vs ds=>s=some (.ref l)∧G l=some (.lst vs)∧AVs G vs ds
 |.nst l ls dss=>s=some (.ref l)∧H l=some (.lst (ls.map .ref))∧xU G H ls dss∧(l::ls).Nodup∧∀x∈l::ls,¬F.O0 x∧F.H0 x=none
structure M (F:Fr)(α:Ev)(σ:St)(H:Hp):Prop where
 len:α.length=σ.length
 ok:∀(i:Nat) (a:A) (s:Option V),α[i]?=some (some a)→σ[i]?=some s→xO (Gz F α σ H) F H s a
 dj:∀(i j:Nat) (a b:A) (s t:Option V) (x:Addr),α[i]?=some (some a)→α[j]?=some (some b)→σ[i]?=some s→σ[j]?=some t→foot s a x→foot t b x→i=j
 xd:∀(i:Nat) (r:Fr) (q:PyData→Prop),α[i]?=some (some (.exc r q))→∀(j:Nat) (a:A) (s:Option V) (x:Addr),α[j]?=some (some a)→σ[j]?=some s→foot s a x→r.H0 x=none
 tp:zH F H
 keep:Kz F F.H0 H
 oex:∀x,F.O0 x→∃o,H x=some o∧wH o
theorem M.at' {F:Fr}{α:Ev}{σ:St}{H:Hp}(m:M F α σ H){i:Nat}{a:Option A}(e:α[i]?=some a):∃s,σ[i]?=some s:=by
 have:i<σ.length:=by rw[←m.len];exact (zh1.mp e).1
 exact⟨_,zh0 this⟩
theorem qS {G:Hp}{F:Fr}{H:Hp}{s:Option V}{a:A}{x:Addr}(h:xO G F H s a)(f:foot s a x):¬F.O0 x∧F.H0 x=none∧∃o,H x=some o∧Ob o:=by
 cases a with
 |ow c=>
  obtain⟨l,o,h1,h2,h3,h4,h5⟩:=h
  have f':s=some (.ref x):=f
  rw[f'] at h1;cases h1
  exact⟨h4,h5,o,h2,h3.ob⟩
 |deep d S=>
  obtain⟨v,h1,h2,h3⟩:=h
  obtain⟨z1,z2,xs,z3⟩:=h3 x f
  exact⟨z1,z2,_,z3,trivial⟩
 |dat d=>exact f.elim
 |tape=>exact f.elim
 |«at» l=>exact f.elim
 |exc r q=>exact f.elim
 |pin l vs ds=>exact f.elim
 |nst l ls dss=>
  obtain⟨h1,h2,h3,h4,h5⟩:=h
  have f':x∈l::ls:=f
  refine⟨(h5 x f').1,(h5 x f').2,?_⟩
  rcases zg3.mp f' with z|z
  ·exact⟨.lst (ls.map .ref),z▸h2,trivial⟩
  ·obtain⟨xs,e⟩:=h3.obj x z
   exact⟨.lst xs,e,trivial⟩
theorem Lnk.kz {r F:Fr}{H H':Hp}(l:Lnk r F H)(k:Kz F H H')(t:zH F H'):Lnk r F H':=⟨l.tp,l.o,l.ok.re t l.tp.symm,fun x o e n=>k x o (l.k x o e n) ⟨fun a b c z=>n.1 a b c (l.tp.trans z),n.2⟩⟩
theorem Lnk.none {r F:Fr}{H:Hp}(l:Lnk r F H){x:Addr}(h:H x=Option.none):r.H0 x=Option.none:=by
 cases q:r.H0 x with
 |none=>rfl
 |some o=>rw[l.k x o q ⟨fun a b c e=>⟨((l.ok a b c e).1.free h).1,((l.ok a b c e).1.free h).2.1⟩,vv l.ok.tab h⟩] at h;cases h
def noX :A→Prop
 |.exc _ _=>False
 |_=>True
theorem xO.stay {G G':Hp}{F F':Fr}{H H':Hp}{s:Option V}{a:A}(h:xO G F H s a)(g:zq G G')(hf:∀x o,foot s a x→H x=some o→H' x=some o∧¬F'.O0 x∧F'.H0 x=none)(hp:F'.tp=F.tp)(hl:∀r q,a=.exc r q→Lnk r F H→Lnk r F' H'):xO G' F' H' s a:=by
 cases a with
 |dat d=>obtain⟨v,h1,h2⟩:=h;exact⟨v,h1,h2.same g⟩
 |ow c=>
  obtain⟨l,o,h1,h2,h3,h4,h5⟩:=h
  obtain⟨z1,z2,z3⟩:=hf l o h1 h2
  exact⟨l,o,h1,z1,h3.same g,z2,z3⟩
 |deep d S=>
  obtain⟨v,h1,h2,h3⟩:=h
  refine⟨v,h1,h2.same (uj g fun x o z e=>(hf x o z e).1),fun x z=>?_⟩
  obtain⟨_,_,xs,e⟩:=h3 x z
  obtain⟨z1,z2,z3⟩:=hf x _ z e
  exact⟨z2,z3,xs,z1⟩
 |tape=>obtain⟨t,b,c,e,z⟩:=h;exact⟨t,b,c,hp.trans e,z⟩
 |«at» l=>exact h
 |exc r q=>exact hl r q rfl h
 |pin l vs ds=>exact⟨h.1,g _ _ h.2.1,h.2.2.same g⟩
 |nst l ls dss=>
  obtain⟨h1,h2,h3,h4,h5⟩:=h
  refine⟨h1,(hf l _ zh3 h2).1,h3.same g fun a ha o e=>(hf a o (zg7 _ ha) e).1,h4,fun x hx=>?_⟩
  rcases zg3.mp hx with z|z
  ·exact (hf x _ hx (z▸h2)).2
  ·obtain⟨xs,e⟩:=h3.obj x z
   exact (hf x _ hx e).2
section
variable {F:Fr}{α:Ev}{σ:St}{H H' H'':Hp}
theorem M.dat (m:M F α σ H)(i:Nat)(d:PyData)(e:α[i]?=some (some (.dat d))):∃v,σ[i]?=some (some v)∧AV (Gz F α σ H) v d:=by
 obtain⟨s,hs⟩:=m.at' e
 obtain⟨v,rfl,h⟩:=m.ok i _ s e hs
 exact⟨v,hs,h⟩
theorem M.owc (m:M F α σ H)(i:Nat)(c:PyData)(e:α[i]?=some (some (.ow c))):∃l o,σ[i]?=some (some (.ref l))∧H l=some o∧xh (Gz F α σ H) o c∧¬F.O0 l∧F.H0 l=none:=by
 obtain⟨s,hs⟩:=m.at' e
 obtain⟨l,o,rfl,h⟩:=m.ok i _ s e hs
 exact⟨l,o,hs,h⟩
theorem M.own (m:M F α σ H)(i:Nat)(ds:List PyData)(e:α[i]?=some (some (.own ds))):∃l xs,σ[i]?=some (some (.ref l))∧H l=some (.lst xs)∧AVs (Gz F α σ H) xs ds∧¬F.O0 l∧F.H0 l=none:=by
 obtain⟨l,o,h1,h2,h3,h4⟩:=m.owc i _ e
 obtain⟨xs,rfl,h5⟩:=h3.lst_inv
 exact⟨l,xs,h1,h2,h5,h4⟩
theorem M.tvar (m:M F α σ H)(i:Nat)(e:α[i]?=some (some .tape)):∃t b c,F.tp=some (t,b,c)∧σ[i]?=some (some (.ref t)):=by
 obtain⟨s,hs⟩:=m.at' e
 obtain⟨t,b,c,h,rfl⟩:=m.ok i _ s e hs
 exact⟨t,b,c,h,hs⟩
theorem M.lnk (m:M F α σ H){i:Nat}{r:Fr}{q:PyData→Prop}(e:α[i]?=some (some (.exc r q))):Lnk r F H:=by
 obtain⟨s,hs⟩:=m.at' e
 exact m.ok i _ s e hs
theorem Kz.refl :Kz F H H:=fun _ _ e _=>e
theorem Kz.trans (h:Kz F H H')(k:Kz F H' H''):Kz F H H'':=fun x o e n=>k x o (h x o e n) n
theorem Kz.of_same (h:zq H H'):Kz F H H':=fun x o e _=>h x o e
theorem zH.same (t:zH F H)(h:zq H H'):zH F H':=⟨bF t.tab h,t.ot,fun a b c e=>⟨kY (t a b c e).1 h,(t a b c e).2⟩⟩
theorem zH.nt (t:zH F H){x:Addr}(h:¬F.O0 x):NT F x:=⟨fun a b c e=>⟨fun z=>h (z▸(t a b c e).2.1),fun z=>h (z▸(t a b c e).2.2.1)⟩,fun z=>h (t.ot x z)⟩
theorem ow0 {x:Addr}(h:¬Ow F α σ x):¬F.O0 x:=fun z=>h (.inl z)
theorem Kz.gz (k:Kz F H H')(t:zH F H):zq (Gz F α σ H) (Gz F α σ H'):=zu fun a o h e=>⟨h,k a o e (t.nt (ow0 h))⟩
theorem M.oex' (t:zH F H')(k:Kz F H H')(h:∀x,F.O0 x→∃o,H x=some o∧wH o):∀x,F.O0 x→∃o,H' x=some o∧wH o:=fun x hx=>by
 by_cases n:NT F x
 ·obtain⟨o,ho,hn⟩:=h x hx
  exact⟨o,k _ _ ho n,hn⟩
 ·by_cases z:uF x
  ·obtain⟨o,ho,hn,_⟩:=uV t.tab z
   exact⟨o,ho,hn⟩
  ·have:∃a b c,F.tp=some (a,b,c)∧¬(x≠a∧x≠b):=by
    refine Classical.byContradiction fun q=>n ⟨fun a b c e=>?_,z⟩
    exact Classical.byContradiction fun w=>q ⟨a,b,c,e,w⟩
   obtain⟨a,b,c,e,w⟩:=this
   obtain⟨n,bs,cs,_,e1,e2,e3,_⟩:=(t a b c e).1.ex
   by_cases xa:x=a
   ·exact⟨_,xa▸e1,xT⟩
   ·by_cases xb:x=b
    ·exact⟨_,xb▸e2,xT⟩
    ·exact absurd ⟨xa,xb⟩ w
theorem M.kz (m:M F α σ H)(k:Kz F H H')(t:zH F H'):M F α σ H' where
 len:=m.len
 ok:=fun i a s e1 e2=>(m.ok i a s e1 e2).stay (k.gz m.tp) (fun x o hf e=>by
  obtain⟨h1,h2,_⟩:=qS (m.ok i a s e1 e2) hf
  exact⟨k x o e (m.tp.nt h1),h1,h2⟩) rfl fun r _ _ l=>l.kz k t
 dj:=m.dj
 xd:=m.xd
 tp:=t
 keep:=m.keep.trans k
 oex:=M.oex' t k m.oex
theorem M.ft (m:M F α σ H){i:Nat}{a:A}{s:Option V}{x:Addr}(e1:α[i]?=some (some a))(e2:σ[i]?=some s)(f:foot s a x):¬F.O0 x∧F.H0 x=none∧∃o,H x=some o∧Ob o:=qS (m.ok i a s e1 e2) f
theorem M.owEx (m:M F α σ H){x:Addr}(h:Ow F α σ x):∃o,H x=some o∧wH o:=by
 rcases h with z|⟨i,a,s,e1,e2,f⟩
 ·exact m.oex x z
 ·obtain⟨_,_,o,ho,hb⟩:=m.ft e1 e2 f
  exact⟨o,ho,hb.notup⟩
theorem M.fresh (m:M F α σ H){l:Addr}(h:H l=none):¬Ow F α σ l:=fun z=>by
 obtain⟨o,ho,_⟩:=m.owEx z
 rw[h] at ho;cases ho
theorem M.fresh0 (m:M F α σ H){l:Addr}(h:H l=none):F.H0 l=none:=by
 cases q:F.H0 l with
 |none=>rfl
 |some o=>rw[m.keep l o q (m.tp.nt fun z=>m.fresh h (.inl z))] at h;cases h
theorem M.old (m:M F α σ H):zq (sub (fun x=>¬F.O0 x) F.H0) (Gz F α σ H):=fun a o e=>by
 obtain⟨h1,h2⟩:=zg e
 refine zT ?_ (m.keep a o h2 (m.tp.nt h1))
 rintro (z|⟨i,b,s,e1,e2,f⟩)
 ·exact h1 z
 ·obtain⟨_,z,_⟩:=m.ft e1 e2 f
  rw[h2] at z;cases z
noncomputable def Fr.up (F:Fr)(G:Hp):Fr:={F with H0:=fun x=>(F.H0 x).or (G x)}
theorem qr {G:Hp}{x:Addr}{o:HO}(h:F.H0 x=some o):(F.up G).H0 x=some o:=by show (F.H0 x).or (G x)=some o;rw[h];rfl
theorem mO {G:Hp}{x:Addr}(h:(F.up G).H0 x=none):F.H0 x=none:=by
 cases q:F.H0 x with
 |none=>rfl
 |some o=>rw[qr q] at h;cases h
theorem M.up (m:M F α σ H):M (F.up (Gz F α σ H)) α σ H where
 len:=m.len
 ok:=fun i a s e1 e2=>(m.ok i a s e1 e2).stay (fun _ _ e=>e) (fun x o hf e=>by
  obtain⟨h1,h2,_⟩:=m.ft e1 e2 hf
  refine⟨e,h1,?_⟩
  show (F.H0 x).or (Gz F α σ H x)=none
  rw[h2]
  show Gz F α σ H x=none
  cases q:Gz F α σ H x with
  |none=>rfl
  |some o=>exact absurd (.inr ⟨i,a,s,e1,e2,hf⟩) (zg q).1) rfl fun r _ _ l=>⟨l.tp,l.o,l.ok,l.k⟩
 dj:=m.dj
 xd:=m.xd
 tp:=m.tp.to rfl fun _ z=>z
 keep:=fun x o e n=>by
  have e':(F.H0 x).or (Gz F α σ H x)=some o:=e
  cases q:F.H0 x with
  |none=>rw[q,Option.none_or] at e';exact (zg e').2
  |some o'=>rw[q] at e';cases e';exact m.keep x _ q n
 oex:=m.oex
theorem M.down {G:Hp}(m:M (F.up G) α σ H):M F α σ H where
 len:=m.len
 ok:=fun i a s e1 e2=>(m.ok i a s e1 e2).stay (fun _ _ e=>e) (fun x o hf e=>by
  obtain⟨h1,h2,_⟩:=m.ft e1 e2 hf
  exact⟨e,h1,mO h2⟩) rfl fun r _ _ l=>⟨l.tp,l.o,l.ok,l.k⟩
 dj:=m.dj
 xd:=m.xd
 tp:=m.tp.to rfl fun _ z=>z
 keep:=fun x o e n=>m.keep x o (qr e) n
 oex:=m.oex
theorem M.upold {α0:Ev}{σ0:St}{H1:Hp}(m0:M F α0 σ0 H1)(m:M (F.up (Gz F α0 σ0 H1)) α σ H):zq (Gz F α0 σ0 H1) (Gz F α σ H):=fun a o e=>by
 obtain⟨h1,h2⟩:=zg e
 have e0:(F.up (Gz F α0 σ0 H1)).H0 a=some o:=by
  show (F.H0 a).or (Gz F α0 σ0 H1 a)=some o
  cases q:F.H0 a with
  |none=>exact e
  |some o'=>
   have:=m0.keep a o' q (m0.tp.nt (ow0 h1))
   rw[h2] at this;cases this;rfl
 exact m.old a o (zT (p:=fun x=>¬F.O0 x) (ow0 h1) e0)
end
def yX (F:Fr)(α:Ev)(σ:St)(H:Hp)(v:V)(H':Hp)(ds:List PyData):Prop:=
 ∃l xs,v=.ref l∧H l=none∧H' l=some (.lst xs)∧AVs (sub (fun x=>¬Ow F α σ x∧x≠l) H') xs ds
def iJ (F:Fr)(α:Ev)(σ:St)(H:Hp)(v:V)(H':Hp)(c:PyData):Prop:=
 ∃l o,v=.ref l∧H l=none∧H' l=some o∧xh (sub (fun x=>¬Ow F α σ x∧x≠l) H') o c
theorem yX.c {F:Fr}{α:Ev}{σ:St}{H H':Hp}{v:V}{ds:List PyData}(h:yX F α σ H v H' ds):iJ F α σ H v H' (.list ds):=by
 obtain⟨l,xs,h1,h2,h3,h4⟩:=h
 exact⟨l,_,h1,h2,h3,.lst h4⟩
theorem yX.av {F:Fr}{α:Ev}{σ:St}{H H':Hp}{v:V}{ds:List PyData}(m:M F α σ H)(h:yX F α σ H v H' ds):AV (Gz F α σ H') v (.list ds):=by
 obtain⟨l,xs,rfl,h1,h2,h3⟩:=h
 exact .lst (zT (m.fresh h1) h2) (h3.same (zu fun a o h e=>⟨h.1,e⟩))
section
variable (X:Cx)(α:Ev)
def EvD (e:Expr)(Q:PyData→Prop):Prop:=∀(F:Fr) (σ:St) (H:Hp) (R:VK),M F α σ H→(∀d v H',Q d→zH F H'→Kz F H H'→AV (Gz F α σ H') v d→R v H')→vJ X e σ H R
def EvL (e:Expr)(Q:List PyData→Prop):Prop:=∀(F:Fr) (σ:St) (H:Hp) (R:VK),M F α σ H→(∀ds v H',Q ds→zH F H'→Kz F H H'→yX F α σ H v H' ds→R v H')→vJ X e σ H R
def EvT (e:Expr)(Q:Bool→Prop):Prop:=∀(F:Fr) (σ:St) (H:Hp) (R:Bool→Hp→Prop),M F α σ H→(∀b H',Q b→zH F H'→Kz F H H'→R b H')→zb9 X e σ H R
def ja (F:Fr)(G:Hp)(v:V):A→Prop
 |.dat d=>AV G v d
 |.tape=>∃t b c,F.tp=some (t,b,c)∧v=.ref t
 |_=>False
inductive yf (F:Fr)(G:Hp):List V→List A→Prop where
 |nil:yf F G [] []
 |cons {v:V} {vs:List V} {a:A} {as:List A}:ja F G v a→yf F G vs as→yf F G (v::vs) (a::as)
def EvA (es:List Expr)(Q:List A→Prop):Prop:=∀(F:Fr) (σ:St) (H:Hp) (R:List V→Hp→Prop),M F α σ H→(∀as vs H',Q as→zH F H'→Kz F H H'→yf F (Gz F α σ H') vs as→R vs H')→za8 X es σ H R
end
theorem ja.to {F F':Fr}{G G':Hp}(s:zq G G')(hp:F'.tp=F.tp){v:V}:∀{a:A},ja F G v a→ja F' G' v a
 |.dat _,h=>AV.same s h
 |.tape,⟨t,b,c,e,z⟩=>⟨t,b,c,hp.trans e,z⟩
 |.ow _,h=>h
 |.deep _ _,h=>h
 |.at _,h=>h
 |.exc _ _,h=>h
 |.pin _ _ _,h=>h
 |.nst _ _ _,h=>h
theorem yf.to {F F':Fr}{G G':Hp}(s:zq G G')(hp:F'.tp=F.tp):∀{vs:List V} {as:List A},yf F G vs as→yf F' G' vs as
 |_,_,.nil=>.nil
 |_,_,.cons h r=>.cons (h.to s hp) (yf.to s hp r)
theorem yf.length {F:Fr}{G:Hp}:∀{vs:List V} {as:List A},yf F G vs as→vs.length=as.length
 |_,_,.nil=>rfl
 |_,_,.cons _ r=>by rw[zj5,zj5,yf.length r]
def A.d :A→PyData
 |.dat d=>d
 |.ow c=>c
 |.deep d _=>d
 |.nst _ _ dss=>.list (dss.map .list)
 |_=>.none
def eu (F:Fr)(v:V)(H':Hp):A→Prop
 |.dat d=>AV (sub (fun x=>¬F.O0 x) H') v d
 |.ow c=>∃l xs ds,v=.ref l∧c=.list ds∧F.H0 l=none∧¬F.O0 l∧H' l=some (.lst xs)∧AVs (sub (fun x=>¬F.O0 x∧x≠l) H') xs ds
 |.deep d S=>AV (ny S (sub (fun x=>¬F.O0 x) H') H') v d∧∀x,S x→¬F.O0 x∧F.H0 x=none∧∃xs,H' x=some (.lst xs)
 |.nst l ls dss=>v=.ref l∧H' l=some (.lst (ls.map .ref))∧xU (sub (fun x=>¬F.O0 x∧x∉l::ls) H') H' ls dss∧(l::ls).Nodup∧∀x∈l::ls,¬F.O0 x∧F.H0 x=none
 |_=>False
def wK (F:Fr)(v:V)(H':Hp)(a:A):Prop:=zH F H'∧Kz F F.H0 H'∧eu F v H' a
def spA (φ:List A→(A→Prop)→Prop):Sp:=fun vs H Qc _=>∃(F:Fr) (as:List A) (Q:A→Prop),F.H0=H∧zH F H∧(∀x,F.O0 x→∃o,H x=some o∧wH o)∧yf F (sub (fun x=>¬F.O0 x) H) vs as∧φ as Q∧∀a v H',Q a→wK F v H' a→Qc v H'
theorem eu.to {F F':Fr}{v:V}{H':Hp}{a:A}(r:eu F v H' a)(ho:∀x,F'.O0 x→F.O0 x)(h0:∀x,F.H0 x=none→F'.H0 x=none):eu F' v H' a:=by
 have s:zq (sub (fun x=>¬F.O0 x) H') (sub (fun x=>¬F'.O0 x) H'):=zu fun a o h e=>⟨fun z=>h (ho _ z),e⟩
 cases a with
 |dat d=>exact AV.same s r
 |ow c=>
  obtain⟨l,xs,ds,h1,hc,h2,h3,h4,h5⟩:=r
  exact⟨l,xs,ds,h1,hc,h0 _ h2,fun z=>h3 (ho _ z),h4,h5.same (zu fun a o h e=>⟨⟨fun z=>h.1 (ho _ z),h.2⟩,e⟩)⟩
 |deep d S=>
  obtain⟨h1,h2⟩:=r
  refine⟨h1.same (uj s fun _ _ _ e=>e),fun x z=>?_⟩
  obtain⟨z1,z2,z3⟩:=h2 x z
  exact⟨fun w=>z1 (ho _ w),h0 _ z2,z3⟩
 |tape=>exact r
 |«at» _=>exact r
 |exc _ _=>exact r
 |pin _ _ _=>exact r
 |nst l ls dss=>
  obtain⟨h1,h2,h3,h4,h5⟩:=r
  exact⟨h1,h2,h3.same (zu fun a o h e=>⟨⟨fun z=>h.1 (ho _ z),h.2⟩,e⟩) (fun _ _ _ e=>e),h4,fun x hx=>⟨fun z=>(h5 x hx).1 (ho _ z),h0 _ (h5 x hx).2⟩⟩
structure yC where
 nx:Ev→Prop
 rt:A→Prop
 bk:Ev→Prop:=fun _=>False
 ct:Ev→Prop:=fun _=>False
structure sJ (F:Fr)(E:yC)(D:Ends):Prop where
 nx:∀α σ H,M F α σ H→E.nx α→D.nx σ H
 rt:∀a v H,wK F v H a→E.rt a→D.rt v H
 bk:∀α σ H,M F α σ H→E.bk α→D.bk σ H
 ct:∀α σ H,M F α σ H→E.ct α→D.ct σ H
def SvS (X:Cx)(α:Ev)(sts:List Stmt)(E:yC):Prop:=∀(F:Fr) (σ:St) (H:Hp) (D:Ends),M F α σ H→sJ F E D→fe X sts D σ H
theorem sJ.up {F:Fr}{G:Hp}{E:yC}{D:Ends}(e:sJ F E D):sJ (F.up G) E D where
 nx:=fun α σ H m q=>e.nx α σ H m.down q
 bk:=fun α σ H m q=>e.bk α σ H m.down q
 ct:=fun α σ H m q=>e.ct α σ H m.down q
 rt:=fun a v H r q=>e.rt a v H (by
  obtain⟨t,k,r⟩:=r
  exact⟨t.to rfl fun _ z=>z,fun x o e n=>k x o (qr e) n,r.to (fun _ z=>z) fun x z=>mO z⟩) q
section
variable {X:Cx}{α:Ev}{e a b c:Expr}{es:List Expr}{pos p q:Pos}{Q:PyData→Prop}
theorem EvL.d (h:EvL X α e (fun ds=>Q (.list ds))):EvD X α e Q:=fun F σ H R m k=>h F σ H R m fun ds v H' q t z f=>k _ v H' q t z (f.av m)
theorem EvD.imp {Q':PyData→Prop}(h:EvD X α e Q')(k:∀d,Q' d→Q d):EvD X α e Q:=fun F σ H R m r=>h F σ H R m fun d v H' q=>r d v H' (k d q)
theorem EvT.imp {Q Q':Bool→Prop}(h:EvT X α e Q')(k:∀d,Q' d→Q d):EvT X α e Q:=fun F σ H R m r=>h F σ H R m fun d H' q=>r d H' (k d q)
theorem zf (i:Nat){x:Str}{d:PyData}(hi:α[i]?=some (some (.dat d)))(q:Q d)(hN:X.N[i]?=some x:=by rfl)(hv:Vis X.env.scope x:=by first|exact Or.inl rfl|exact Or.inr (Or.inl rfl)|exact Or.inr (Or.inr rfl))
  (hd:(x == ("__debug__":Str))=false:=by decide) (hcd:(x == ("__classdict__":Str))=false:=by decide):EvD X α (.Name x pos) Q:=fun F σ H R m k=>by
 obtain⟨v,h1,h2⟩:=m.dat i d hi
 exact⟨_,yR hN hv hd hcd,v,h1,k d v H q m.tp Kz.refl h2⟩
theorem zr {i:Int}{j:Nat}(q:Q (.int i)):EvD X α (.Constant (.int i) j pos) Q:=fun F σ H R m k=>⟨_,zz,k _ _ H q m.tp Kz.refl (.int i)⟩
theorem dJ {i:Bool}{j:Nat}(q:Q (.bool i)):EvD X α (.Constant (.bool i) j pos) Q:=fun F σ H R m k=>⟨_,za6,k _ _ H q m.tp Kz.refl (.bl i)⟩
theorem tF {j:Nat}(q:Q .none):EvD X α (.Constant .none j pos) Q:=fun F σ H R m k=>⟨_,qK,k _ _ H q m.tp Kz.refl .non⟩
theorem zU {x:Str}{j:Nat}(q:Q (.str x)):EvD X α (.Constant (.str x) j pos) Q:=fun F σ H R m k=>⟨_,ye,k _ _ H q m.tp Kz.refl (.str x)⟩
theorem iE {x:Str}{i:Int}(hg:Gl X x)(hm:∃t,X.mg x=some (.int i t))(q:Q (.int i))(hd:(x == ("__debug__":Str))=false:=by decide):EvD X α (.Name x pos) Q:=fun F σ H R m k=>by
 obtain⟨t,hm⟩:=hm
 exact⟨_,vH hg hm (show RelV (.int i) (.int i t) from ⟨t,rfl⟩) hd,k _ _ H q m.tp Kz.refl (.int i)⟩
theorem tP {f:TE→TE→TE}(hf:PE X e (f (vJ X a) (vJ X b)))(hr:∀σ H R,f (vJ X a) (vJ X b) σ H R↔vJ X a σ H (fun x H1=>vJ X b σ H1 fun y H2=>f (tC x) (tC y) σ H2 R))
  (h:EvD X α a fun x=>EvD X α b fun y=>∀(F:Fr) (σ:St) (H:Hp) (vx vy:V) (R:VK),M F α σ H→AV (Gz F α σ H) vx x→AV (Gz F α σ H) vy y→(∀d v H',Q d→zH F H'→Kz F H H'→AV (Gz F α σ H') v d→R v H')→f (tC vx) (tC vy) σ H R):
  EvD X α e Q:=fun F σ H R m k=>by
 refine⟨_,hf,(hr σ H R).mpr ?_⟩
 refine h F σ H _ m fun x vx H1 q1 t1 k1 r1=>?_
 have m1:=m.kz k1 t1
 refine q1 F σ H1 _ m1 fun y vy H2 q2 t2 k2 r2=>?_
 exact q2 F σ H2 vx vy R (m1.kz k2 t2) (r1.same (k2.gz m1.tp)) r2 fun d v H' qd t3 k3 r3=>k d v H' qd t3 ((k1.trans k2).trans k3) r3
theorem AV.int_inv {H:Hp}{v:V}{i:Int}(h:AV H v (.int i)):v=.int i:=by cases h;rfl
theorem AV.bl_inv {H:Hp}{v:V}{i:Bool}(h:AV H v (.bool i)):v=.bl i:=by cases h;rfl
theorem AV.str_inv {H:Hp}{v:V}{i:Str}(h:AV H v (.str i)):v=.str i:=by cases h;rfl
theorem AV.tup_inv {H:Hp}{v:V}{ds:List PyData}(h:AV H v (.tuple ds)):∃a xs,v=.ref a∧H a=some (.tup xs)∧AVs H xs ds:=by cases h;exact⟨_,_,rfl,by assumption,by assumption⟩
theorem AV.lst_inv {H:Hp}{v:V}{ds:List PyData}(h:AV H v (.list ds)):∃a xs,v=.ref a∧H a=some (.lst xs)∧AVs H xs ds:=by cases h;exact⟨_,_,rfl,by assumption,by assumption⟩
theorem AV.non_inv {H:Hp}{v:V}(h:AV H v .none):v=.non:=by cases h;rfl
theorem AV.isnon {H:Hp}{v:V}{d:PyData}(h:AV H v d):decide (v=.non)=(match d with|.none=>true|_=>false):=by cases h<;>simp
theorem qU {op:Operator}{C:Int→Int→Prop}{g:Int→Int→V}{gd:Int→Int→PyData}(ho:OpR X (binaryOp op) (rI C g))(hg:∀H i j,AV H (g i j) (gd i j))
  (h:EvD X α a fun x=>EvD X α b fun y=>∃i j,x=.int i∧y=.int j∧C i j∧Q (gd i j)):EvD X α (.BinOp a op b pos) Q:=by
 refine tP (f:=tOp (rI C g)) (yQ ho zi zi) (fun _ _ _=>Iff.rfl) (h.imp fun x h=>h.imp fun y ⟨i,j,e1,e2,hc,hq⟩=>?_)
 subst e1 e2
 intro F σ H vx vy R m rx ry k
 cases rx.int_inv;cases ry.int_inv
 exact⟨i,j,rfl,rfl,hc,k _ _ H hq m.tp Kz.refl (hg _ i j)⟩
theorem mN {op:Operator}{g:Int→Int→V}{gd:Int→Int→PyData}(ho:OpR X (binaryOp op) (rI0 g))(hg:∀H i j,AV H (g i j) (gd i j))
  (h:EvD X α a fun x=>EvD X α b fun y=>∃i j,x=.int i∧y=.int j∧Q (gd i j)):EvD X α (.BinOp a op b pos) Q:=by
 refine tP (f:=tOp (rI0 g)) (yQ ho zi zi) (fun _ _ _=>Iff.rfl) (h.imp fun x h=>h.imp fun y ⟨i,j,e1,e2,hq⟩=>?_)
 subst e1 e2
 intro F σ H vx vy R m rx ry k
 cases rx.int_inv;cases ry.int_inv
 exact⟨i,j,rfl,rfl,k _ _ H hq m.tp Kz.refl (hg _ i j)⟩
theorem xk (h:EvD X α a fun x=>EvD X α b fun y=>∃i j,x=.int i∧y=.int j∧Q (.int (i+j))):EvD X α (.BinOp a .Add b pos) Q:=mN (gd:=fun i j=>.int (i+j)) qR (fun _ _ _=>.int _) h
theorem rW (h:EvD X α a fun x=>EvD X α b fun y=>∃i j,x=.int i∧y=.int j∧Q (.int (i-j))):EvD X α (.BinOp a .Sub b pos) Q:=mN (gd:=fun i j=>.int (i-j)) jU (fun _ _ _=>.int _) h
theorem qV (h:EvD X α a fun x=>EvD X α b fun y=>∃i j,x=.int i∧y=.int j∧fY i j∧Q (.int (i*j))):EvD X α (.BinOp a .Mult b pos) Q:=qU (gd:=fun i j=>.int (i*j)) rR (fun _ _ _=>.int _) h
theorem br (h:EvD X α a fun x=>EvD X α b fun y=>∃i j,x=.int i∧y=.int j∧bV i j∧Q (.int (i ^ j.toNat))):EvD X α (.BinOp a .Pow b pos) Q:=qU (gd:=fun i j=>.int (i ^ j.toNat)) ax (fun _ _ _=>.int _) h
theorem gJ (h:EvD X α a fun x=>EvD X α b fun y=>∃i j,x=.int i∧y=.int j∧0<j∧Q (.int (i % j))):EvD X α (.BinOp a .Mod b pos) Q:=qU (gd:=fun i j=>.int (i % j)) sF (fun _ _ _=>.int _) h
theorem mL (h:EvD X α a fun x=>EvD X α b fun y=>∃i j,x=.int i∧y=.int j∧dN i j∧Q (.int (i / j))):EvD X α (.BinOp a .FloorDiv b pos) Q:=qU (gd:=fun i j=>.int (i / j)) tV (fun _ _ _=>.int _) h
theorem yV {i j r:Int}{p1 p2:Pos}{n1 n2:Nat}(hc:bV i j)(hr:i ^ j.toNat=r)(q:Q (.int r)):EvD X α (.BinOp (.Constant (.int i) n1 p1) .Pow (.Constant (.int j) n2 p2) pos) Q:=
 br (zr (zr ⟨i,j,rfl,rfl,hc,hr▸q⟩))
theorem hG (h:EvD X α a fun x=>∃i,x=.int i∧Q (.int (-i))):EvD X α (.UnaryOp .USub a pos) Q:=fun F σ H R m k=>by
 refine⟨_,aQ bf zi,?_⟩
 refine h F σ H _ m fun x vx H1 q1 t1 k1 r1=>?_
 obtain⟨i,rfl,q⟩:=q1
 cases r1.int_inv
 exact⟨i,rfl,k _ _ H1 q t1 k1 (.int _)⟩
def mI :PyData→Bool
 |.none=>true
 |_=>false
theorem AV.non_iff {H:Hp}{v:V}{d:PyData}(h:AV H v d):decide (v=.non)=mI d:=by cases h<;>simp[mI]
theorem ar {Q:Bool→Prop}(h:EvD X α e fun x=>∃k,x=.bool k∧Q k)(he:∀whole,isTrue e X.env whole=(do let v ←whole;standAt e.pos;holding [v] (truthy v)):=by intro _;rfl):EvT X α e Q:=fun F σ H R m k=>by
 refine⟨_,iM zi he,?_⟩
 refine h F σ H _ m fun x vx H1 q1 t1 k1 r1=>?_
 obtain⟨b,rfl,q⟩:=q1
 cases r1.bl_inv
 exact⟨b,rfl,k b H1 q t1 k1⟩
def Cmp (r:R2)(x y:PyData)(k:Bool):Prop:=∀(p:Addr→Prop) (H:Hp) (vx vy:V) (R:VK),AV (sub p H) vx x→AV (sub p H) vy y→R (.bl k) H→r vx vy H R
theorem wA {op:CmpOp}{r:R2}{Q:Bool→Prop}(ho:OpR X (compareOp op) r)(hm:behindInMarks op b=false)(h:EvD X α a fun x=>EvD X α b fun y=>∃k,Cmp r x y k∧Q k):EvT X α (.Compare a [op] [b] pos) Q:=fun F σ H R m k=>by
 refine⟨_,yt ho zi zi hm,?_⟩
 refine h F σ H _ m fun x vx H1 q1 t1 k1 r1=>?_
 have m1:=m.kz k1 t1
 refine q1 F σ H1 _ m1 fun y vy H2 q2 t2 k2 r2=>?_
 obtain⟨b,hc,q⟩:=q2
 exact hc _ H2 vx vy _ (r1.same (k2.gz m1.tp)) r2 ⟨b,rfl,k b H2 q t2 (k1.trans k2)⟩
theorem fZ {g:Int→Int→Bool}{i j:Int}:Cmp (rI0 fun i j=>.bl (g i j)) (.int i) (.int j) (g i j):=fun p H vx vy R rx ry h=>by
 cases rx.int_inv;cases ry.int_inv
 exact⟨i,j,rfl,rfl,h⟩
theorem qH {op:CmpOp}{g:Int→Int→Bool}{Q:Bool→Prop}(ho:OpR X (compareOp op) (rI0 fun i j=>.bl (g i j)))(hm:behindInMarks op b=false)
  (h:EvD X α a fun x=>EvD X α b fun y=>∃i j,x=.int i∧y=.int j∧Q (g i j)):EvT X α (.Compare a [op] [b] pos) Q:=
 wA ho hm (h.imp fun x h=>h.imp fun y ⟨i,j,e1,e2,q⟩=>⟨_,by subst e1 e2;exact fZ,q⟩)
theorem zb3 {Q:Bool→Prop}(h:EvD X α a fun x=>EvD X α b fun y=>∃i j,x=.int i∧y=.int j∧Q (decide (i<j))):EvT X α (.Compare a [.Lt] [b] pos) Q:=qH aT (zJ _) h
theorem cc {Q:Bool→Prop}(h:EvD X α a fun x=>EvD X α b fun y=>∃i j,x=.int i∧y=.int j∧Q (decide (j<i))):EvT X α (.Compare a [.Gt] [b] pos) Q:=qH cm (zJ _) h
theorem dY {Q:Bool→Prop}(h:EvD X α a fun x=>EvD X α b fun y=>∃i j,x=.int i∧y=.int j∧Q (decide (j≤i))):EvT X α (.Compare a [.GtE] [b] pos) Q:=qH aN (zJ _) h
theorem qm {j:Nat}{Q:Bool→Prop}(h:EvD X α a fun x=>Q (mI x)):EvT X α (.Compare a [.Is] [.Constant .none j p] pos) Q:=
 wA oS (zJ _) (h.imp fun x h=>tF ⟨_,fun p H vx vy R rx ry z=>⟨ry.non_inv,by rw[rx.non_iff];exact z⟩,h⟩)
theorem rP {j:Nat}{Q:Bool→Prop}(h:EvD X α a fun x=>Q (!mI x)):EvT X α (.Compare a [.IsNot] [.Constant .none j p] pos) Q:=
 wA fO (zJ _) (h.imp fun x h=>tF ⟨_,fun p H vx vy R rx ry z=>⟨ry.non_inv,by rw[rx.non_iff];exact z⟩,h⟩)
def zf5 :PyData→Option Bool
 |.none=>some false
 |.bool b=>some b
 |.int i=>some (i != 0)
 |.list ds=>some (!ds.isEmpty)
 |.tuple ds=>some (!ds.isEmpty)
 |_=>none
theorem AVs.isEmpty {H:Hp}{xs:List V}{ds:List PyData}(h:AVs H xs ds):xs.isEmpty=ds.isEmpty:=by cases h<;>rfl
theorem gS {Q:Bool→Prop}(h:EvD X α e fun x=>∃k,zf5 x=some k∧Q k)(he:∀whole,isTrue e X.env whole=(do let v ←whole;standAt e.pos;holding [v] (truthy v)):=by intro _;rfl):EvT X α e Q:=fun F σ H R m k=>by
 refine⟨_,iP zi he,?_⟩
 refine h F σ H _ m fun x vx H1 q1 t1 k1 r1=>?_
 obtain⟨b,hb,q⟩:=q1
 refine⟨b,?_,k b H1 q t1 k1⟩
 cases r1 with
 |non=>cases hb;rfl
 |bl z=>cases hb;rfl
 |int i=>cases hb;rfl
 |str s=>cases hb
 |lst h1 h2=>cases hb;exact .inl ⟨_,SqL.of (zg h1).2,by rw[h2.isEmpty]⟩
 |tup h1 h2=>cases hb;exact .inr (.inl ⟨_,SqT.of (zg h1).2,by rw[h2.isEmpty]⟩)
 |ins _ _=>cases hb
 |dk _ _=>cases hb
 |dt _ _=>cases hb
 |xc _ _ _=>cases hb
 |xn _=>cases hb
theorem aa {Q:Bool→Prop}(h:EvT X α a fun k=>Q (!k)):EvT X α (.UnaryOp .Not a pos) Q:=fun F σ H R m k=>by
 refine⟨_,iL wj,?_⟩
 exact h F σ H _ m fun b H1 q1 t1 k1=>k _ H1 q1 t1 k1
def EvW (X:Cx)(α:Ev)(e:Expr)(Q:Bool→Prop):Prop:=∀(F:Fr) (σ:St) (H:Hp) (R:Bool→Hp→Prop),M F α σ H→(∀b H',Q b→zH F H'→Kz F H H'→R b H')→∃t,PW X e t∧t σ H R
def zd5 (X:Cx)(e:Expr):TT:=fun σ H Q=>∃t,PW X e t∧t σ H Q
theorem mV :PW X e (zd5 X e):=fun w pins s σ H Q I ⟨t,p,q⟩=>p w pins s σ H Q I q
theorem EvW.t {Q:Bool→Prop}(h:EvW X α e Q):EvT X α e Q:=fun F σ H R m k=>by
 obtain⟨t,p,q⟩:=h F σ H R m k
 exact⟨t,p.pt,q⟩
variable {rest:List Expr}
theorem uP {Q:Bool→Prop}(h:EvT X α a Q):EvW X α (.BoolOp .And [a] pos) Q:=fun F σ H R m k=>⟨_,eN wj,h F σ H R m k⟩
theorem ba {Q:Bool→Prop}(h:EvT X α a Q):EvW X α (.BoolOp .Or [a] pos) Q:=fun F σ H R m k=>⟨_,nE wj,h F σ H R m k⟩
theorem vU {Q:Bool→Prop}(h:EvT X α a fun k=>if k=true then EvW X α (.BoolOp .And (b::rest) pos) Q else Q false):EvW X α (.BoolOp .And (a::b::rest) pos) Q:=fun F σ H R m k=>by
 refine⟨_,cR wj mV,?_⟩
 refine h F σ H _ m fun c H1 q1 t1 k1=>?_
 cases c with
 |true=>exact uI ((by simpa using q1:EvW X α _ Q) F σ H1 R (m.kz k1 t1) fun b H2 q2 t2 k2=>k b H2 q2 t2 (k1.trans k2))
 |false=>exact sr (k _ H1 (by simpa using q1) t1 k1)
theorem il {Q:Bool→Prop}(h:EvT X α a fun k=>if k=true then Q true else EvW X α (.BoolOp .Or (b::rest) pos) Q):EvW X α (.BoolOp .Or (a::b::rest) pos) Q:=fun F σ H R m k=>by
 refine⟨_,gH wj mV,?_⟩
 refine h F σ H _ m fun c H1 q1 t1 k1=>?_
 cases c with
 |false=>exact sr ((by simpa using q1:EvW X α _ Q) F σ H1 R (m.kz k1 t1) fun b H2 q2 t2 k2=>k b H2 q2 t2 (k1.trans k2))
 |true=>exact uI (k _ H1 (by simpa using q1) t1 k1)
theorem nK (h:EvT X α c fun k=>if k=true then EvD X α a Q else EvD X α b Q):EvD X α (.IfExp c a b pos) Q:=fun F σ H R m k=>by
 refine⟨_,jX wj zi zi,?_⟩
 refine h F σ H _ m fun x H1 q1 t1 k1=>?_
 cases x with
 |true=>exact uI ((by simpa using q1:EvD X α _ Q) F σ H1 R (m.kz k1 t1) fun d v H2 q2 t2 k2 r2=>k d v H2 q2 t2 (k1.trans k2) r2)
 |false=>exact sr ((by simpa using q1:EvD X α _ Q) F σ H1 R (m.kz k1 t1) fun d v H2 q2 t2 k2 r2=>k d v H2 q2 t2 (k1.trans k2) r2)
theorem wG (hs:uR b)(h:EvD X α a fun x=>EvD X α b fun y=>∃ds i d,x=.list ds∧y=.int i∧atI ds i=some d∧Q d):EvD X α (.Subscript a b pos) Q:=by
 refine tP (f:=tOp (cM X.K)) (yo xp zi zi hs) (fun _ _ _=>Iff.rfl) (h.imp fun x h=>h.imp fun y ⟨ds,i,d,e1,e2,hat,hq⟩=>?_)
 subst e1 e2
 intro F σ H vx vy R m rx ry k
 obtain⟨a,xs,rfl,h1,h2⟩:=rx.lst_inv
 cases ry.int_inv
 obtain⟨v,hv,av⟩:=h2.atI hat
 exact⟨a,xs,i,v,rfl,rfl,SqL.of (zg h1).2,hv,k d v H hq m.tp Kz.refl av⟩
theorem qJ (hs:uR b)(h:EvD X α a fun x=>EvD X α b fun y=>∃ds i d,x=.tuple ds∧y=.int i∧atI ds i=some d∧Q d):EvD X α (.Subscript a b pos) Q:=by
 refine tP (f:=tOp (cP X.K)) (yo yv zi zi hs) (fun _ _ _=>Iff.rfl) (h.imp fun x h=>h.imp fun y ⟨ds,i,d,e1,e2,hat,hq⟩=>?_)
 subst e1 e2
 intro F σ H vx vy R m rx ry k
 obtain⟨a,xs,rfl,h1,h2⟩:=rx.tup_inv
 cases ry.int_inv
 obtain⟨v,hv,av⟩:=h2.atI hat
 exact⟨a,xs,i,v,rfl,rfl,SqT.of (zg h1).2,hv,k d v H hq m.tp Kz.refl av⟩
theorem M.lay {F:Fr}{σ:St}{H:Hp}{l:Addr}{xs:List V}{ds:List PyData}(m:M F α σ H)(hl:H l=none)(h:AVs (Gz F α σ H) xs ds):zH F (upd H l (.lst xs))∧Kz F H (upd H l (.lst xs))∧yX F α σ H (.ref l) (upd H l (.lst xs)) ds:=by
 refine⟨m.tp.same (zP hl),Kz.of_same (zP hl),l,xs,rfl,hl,zj,h.same (zu fun a o ha e=>?_)⟩
 have:=zo e hl
 exact⟨⟨ha,this⟩,by rw[zk this];exact e⟩
theorem yX.back {F:Fr}{σ:St}{H H1 H':Hp}{v:V}{ds:List PyData}(m:M F α σ H)(k:Kz F H H1)(t1:zH F H1)(h:yX F α σ H1 v H' ds):yX F α σ H v H' ds:=by
 obtain⟨l',xs',e1,e2,e3,e4⟩:=h
 refine⟨l',xs',e1,?_,e3,e4⟩
 cases z:H l' with
 |none=>rfl
 |some o=>rw[k l' o z (m.tp.nt (ow0 ((m.kz k t1).fresh e2)))] at e2;cases e2
theorem zh {Q:List A→Prop}(q:Q []):EvA X α [] Q:=fun F σ H R m k=>⟨_,zv,k _ _ H q m.tp Kz.refl .nil⟩
theorem zb {Q:List A→Prop}(h:EvD X α e fun d=>EvA X α es fun as=>Q (.dat d::as))(hs:starEach (e::es) X.env=(false,eval e X.env)::starEach es X.env:=by rfl):EvA X α (e::es) Q:=fun F σ H R m k=>by
 refine⟨_,ze zi xo hs,?_⟩
 refine h F σ H _ m fun d v H1 q1 t1 k1 r1=>?_
 have m1:=m.kz k1 t1
 exact q1 F σ H1 _ m1 fun as vs H2 q2 t2 k2 r2=>k _ _ H2 q2 t2 (k1.trans k2) (.cons (r1.same (k2.gz m1.tp)) r2)
theorem zw {Q:List A→Prop}(i:Nat){x:Str}(hi:α[i]?=some (some .tape))(h:EvA X α es fun as=>Q (.tape::as))(hN:X.N[i]?=some x:=by rfl)(hv:Vis X.env.scope x:=by first|exact Or.inl rfl|exact Or.inr (Or.inl rfl)|exact Or.inr (Or.inr rfl))
  (hd:(x == ("__debug__":Str))=false:=by decide) (hcd:(x == ("__classdict__":Str))=false:=by decide) (hs:starEach (.Name x pos::es) X.env=(false,eval (.Name x pos) X.env)::starEach es X.env:=by rfl):EvA X α (.Name x pos::es) Q:=fun F σ H R m k=>by
 obtain⟨t,b,c,h1,h2⟩:=m.tvar i hi
 refine⟨_,ze (yR hN hv hd hcd) xo hs,.ref t,h2,?_⟩
 exact h F σ H _ m fun as vs H2 q2 t2 k2 r2=>k _ _ H2 q2 t2 k2 (.cons ⟨t,b,c,h1,rfl⟩ r2)
def datas :List A→Option (List PyData)
 |[]=>some []
 |.dat d::r=>(datas r).map (d::·)
 |_::_=>none
theorem yf.datas {F:Fr}{G:Hp}:∀{vs:List V} {as:List A} {ds:List PyData},yf F G vs as→L2.datas as=some ds→AVs G vs ds
 |_,_,ds,.nil,h=>by cases h;exact .nil
 |_,_,ds,.cons (a:=.dat d) (as:=as) h r,e=>by
  simp only[L2.datas,zj0] at e
  obtain⟨es,e1,rfl⟩:=e
  exact .cons h (yf.datas r e1)
 |_,_,ds,.cons (a:=.ow _) h r,e=>by cases h
 |_,_,ds,.cons (a:=.deep _ _) h r,e=>by cases h
 |_,_,ds,.cons (a:=.exc _ _) h r,e=>by cases h
 |_,_,ds,.cons (a:=.pin _ _ _) h r,e=>by cases h
 |_,_,ds,.cons (a:=.nst _ _ _) h r,e=>by cases h
 |_,_,ds,.cons (a:=.tape) h r,e=>by cases e
 |_,_,ds,.cons (a:=.at _) h r,e=>by cases h
theorem wC {n:Nat}(h:EvA X α es fun as=>∃ds,datas as=some ds∧ds.length≤1000∧Q (.tuple ds)):EvD X α (.Tuple es n pos) Q:=fun F σ H R m k=>by
 refine⟨_,oY xo,?_⟩
 refine h F σ H _ m fun as vs H1 q1 t1 k1 r1=>?_
 obtain⟨ds,e,hl,q⟩:=q1
 have r:=r1.datas e
 have m1:=m.kz k1 t1
 refine⟨by rw[r.length];exact zm3 (yB hl),fun p hp=>?_⟩
 refine k _ _ _ q (t1.same (zP hp)) (k1.trans (Kz.of_same (zP hp))) (.tup (xs:=vs) (zT (m1.fresh hp) zj) (r.same (zu fun a o ha e=>⟨ha,by rw[zk (zo e hp)];exact e⟩)))
theorem zX {Q:List PyData→Prop}(h:EvA X α es fun as=>∃ds,datas as=some ds∧ds.length≤1000∧Q ds):EvL X α (.List es pos) Q:=fun F σ H R m k=>by
 refine⟨_,jD xo,?_⟩
 refine h F σ H _ m fun as vs H1 q1 t1 k1 r1=>?_
 obtain⟨ds,e,hl,q⟩:=q1
 have r:=r1.datas e
 have m1:=m.kz k1 t1
 refine⟨by rw[r.length];exact zm3 (yB hl),fun p hp=>?_⟩
 obtain⟨g1,g2,g3⟩:=m1.lay hp r
 exact k _ _ _ q g1 (k1.trans g2) (g3.back m k1 t1)
theorem xY {Q:List PyData→Prop}(h:EvD X α a fun x=>EvD X α b fun y=>∃ds es,x=.list ds∧y=.list es∧ds.length+es.length≤1000∧Q (ds++es)):EvL X α (.BinOp a .Add b pos) Q:=fun F σ H R m k=>by
 refine⟨_,yQ gp zi zi,?_⟩
 refine h F σ H _ m fun x vx H1 q1 t1 k1 r1=>?_
 have m1:=m.kz k1 t1
 refine q1 F σ H1 _ m1 fun y vy H2 q2 t2 k2 r2=>?_
 have m2:=m1.kz k2 t2
 obtain⟨ds,es,rfl,rfl,hl,q⟩:=q2
 obtain⟨a,xs,rfl,h1,h2⟩:=(r1.same (k2.gz m1.tp)).lst_inv
 obtain⟨b,ys,rfl,h3,h4⟩:=r2.lst_inv
 refine⟨a,b,xs,ys,rfl,rfl,(zg h1).2,(zg h3).2,by rw[h2.length,h4.length];exact zm3 (yB hl),fun p hp=>?_⟩
 obtain⟨g1,g2,g3⟩:=m2.lay hp (h2.append h4)
 exact k _ _ _ q g1 ((k1.trans k2).trans g2) (g3.back m (k1.trans k2) t2)
theorem sk {id:String}{x:Str}{r:List V→Hp→VK→Prop}(hc:wt X (.builtin id) r)(hg:Gl X x)(hm:X.mg x=none)(hv:bootBuiltins x=some (.builtin id))
  (h:EvA X α (e::es) fun as=>∀(F:Fr) (σ:St) (H:Hp) (vs:List V) (R:VK),M F α σ H→yf F (Gz F α σ H) vs as→(∀d v H',Q d→zH F H'→Kz F H H'→AV (Gz F α σ H') v d→R v H')→r vs H R)
  (hn:x≠"__name__":=by decide) (hdb:(x == ("__debug__":Str))=false:=by decide) (he:starEach (e::es) X.env=(false,eval e X.env)::starEach es X.env:=by rfl) (hpl:(backTo pos (starEach es X.env)).any (·.1)=false:=by rfl):
  EvD X α (.Call (.Name x p) (e::es) [] pos) Q:=fun F σ H R m k=>by
 refine⟨_,yw hc hg hm hv xo hn hdb he hpl,?_⟩
 refine h F σ H _ m fun as vs H1 q1 t1 k1 r1=>?_
 exact q1 F σ H1 vs R (m.kz k1 t1) r1 fun d v H' qd t2 k2 r2=>k d v H' qd t2 (k1.trans k2) r2
end
section
variable {X:Cx}{α:Ev}{e a b c:Expr}{es:List Expr}{pos p q:Pos}{Q:PyData→Prop}
theorem yf.one {F:Fr}{G:Hp}{vs:List V}{d:PyData}(h:yf F G vs [.dat d]):∃v,vs=[v]∧AV G v d:=by
 cases h with|cons h r=>cases r;exact⟨_,rfl,h⟩
theorem yf.two {F:Fr}{G:Hp}{vs:List V}{d e:PyData}(h:yf F G vs [.dat d,.dat e]):∃v u,vs=[v,u]∧AV G v d∧AV G u e:=by
 cases h with|cons h r=>obtain⟨u,rfl,h2⟩:=r.one;exact⟨_,u,rfl,h,h2⟩
def ze6 :PyData→Option Int
 |.list ds=>some ds.length
 |.tuple ds=>some ds.length
 |_=>none
theorem vT (hg:Gl X "len")(hm:X.mg "len"=none)(h:EvD X α e fun x=>∃n,ze6 x=some n∧Q (.int n))(he:starEach [e] X.env=(false,eval e X.env)::starEach [] X.env:=by rfl):
  EvD X α (.Call (.Name "len" p) [e] [] pos) Q:=by
 refine sk xZ hg hm PySem.boot_len (zb (h.imp fun x ⟨n,e1,q⟩=>zh ?_) he) (he:=he)
 intro F σ H vs R m rv k
 obtain⟨v,rfl,av⟩:=rv.one
 cases av with
 |lst h1 h2=>cases e1;rw[←h2.length] at q;exact⟨_,_,rfl,.inl (SqL.of (zg h1).2),k _ _ H q m.tp Kz.refl (.int _)⟩
 |tup h1 h2=>cases e1;rw[←h2.length] at q;exact⟨_,_,rfl,.inr (SqT.of (zg h1).2),k _ _ H q m.tp Kz.refl (.int _)⟩
 |_=>cases e1
theorem ip (hc:X.calm=true)(hg:Gl X "max")(hm:X.mg "max"=none)(h:EvD X α a fun x=>EvD X α b fun y=>∃i j,x=.int i∧y=.int j∧Q (.int (if j > i then j else i)))
  (he:starEach [a,b] X.env=(false,eval a X.env)::starEach [b] X.env:=by rfl) (he2:starEach [b] X.env=(false,eval b X.env)::starEach [] X.env:=by rfl) (hpl:(backTo pos (starEach [b] X.env)).any (·.1)=false:=by rfl):
  EvD X α (.Call (.Name "max" p) [a,b] [] pos) Q:=by
 refine sk (lu hc) hg hm boot_max (zb (h.imp fun x h=>zb (h.imp fun y ⟨i,j,e1,e2,q⟩=>zh ?_) he2) he) (he:=he) (hpl:=hpl)
 intro F σ H vs R m rv k
 subst e1 e2
 obtain⟨v,u,rfl,av,au⟩:=rv.two
 cases av.int_inv;cases au.int_inv
 exact⟨i,j,rfl,k _ _ H q m.tp Kz.refl (.int _)⟩
theorem oE (hc:X.calm=true)(hg:Gl X "min")(hm:X.mg "min"=none)(h:EvD X α a fun x=>EvD X α b fun y=>∃i j,x=.int i∧y=.int j∧Q (.int (if j<i then j else i)))
  (he:starEach [a,b] X.env=(false,eval a X.env)::starEach [b] X.env:=by rfl) (he2:starEach [b] X.env=(false,eval b X.env)::starEach [] X.env:=by rfl) (hpl:(backTo pos (starEach [b] X.env)).any (·.1)=false:=by rfl):
  EvD X α (.Call (.Name "min" p) [a,b] [] pos) Q:=by
 refine sk (kn hc) hg hm boot_min (zb (h.imp fun x h=>zb (h.imp fun y ⟨i,j,e1,e2,q⟩=>zh ?_) he2) he) (he:=he) (hpl:=hpl)
 intro F σ H vs R m rv k
 subst e1 e2
 obtain⟨v,u,rfl,av,au⟩:=rv.two
 cases av.int_inv;cases au.int_inv
 exact⟨i,j,rfl,k _ _ H q m.tp Kz.refl (.int _)⟩
theorem tf {T:String}{x:Str}{p1:Pos}(hg:Gl X "isinstance")(hm:X.mg "isinstance"=none)(hgT:Gl X x)(hmT:X.mg x=none)(hT:bootBuiltins x=some (.type T))
  (h:EvD X α a fun x=>∃k,x.hasDict=false∧sN T x=some k∧Q (.bool k)) (hnx:x≠"__name__":=by decide) (hdx:(x == ("__debug__":Str))=false:=by decide)
  (he:starEach [a,.Name x p1] X.env=(false,eval a X.env)::starEach [.Name x p1] X.env:=by rfl) (he2:starEach [.Name x p1] X.env=(false,eval (.Name x p1) X.env)::starEach [] X.env:=by rfl) (hpl:(backTo pos (starEach [.Name x p1] X.env)).any (·.1)=false:=by rfl):
  EvD X α (.Call (.Name "isinstance" p) [a,.Name x p1] [] pos) Q:=fun F σ H R m k=>by
 refine⟨_,yw xu hg hm zr6 (ze zi (ze (wX hgT hmT hT (show RelV (.ty T) (.type T) from rfl) hnx hdx) zv he2) he) (he:=he) (hpl:=hpl),?_⟩
 refine h F σ H _ m fun x vx H1 q1 t1 k1 r1=>?_
 obtain⟨b,hd,e,q⟩:=q1
 exact⟨vx,T,x,b,rfl,(r1.dv hd).same xV,e,k _ _ H1 q t1 k1 (.bl b)⟩
def oK :PyData→Option (List PyData)
 |.list ds=>some ds
 |.tuple ds=>some ds
 |_=>none
theorem qx {Q:List PyData→Prop}(hg:Gl X "list")(hm:X.mg "list"=none)(h:EvD X α e fun x=>∃ds,oK x=some ds∧Q ds)(he:starEach [e] X.env=(false,eval e X.env)::starEach [] X.env:=by rfl):
  EvL X α (.Call (.Name "list" p) [e] [] pos) Q:=fun F σ H R m k=>by
 refine⟨_,rp qi hg hm boot_list (ze zi zv he) (he:=he),?_⟩
 refine h F σ H _ m fun x vx H1 q1 t1 k1 r1=>?_
 obtain⟨ds,e1,q⟩:=q1
 have m1:=m.kz k1 t1
 have fin:∀{xs:List V},AVs (Gz F α σ H1) xs ds→∀l,H1 l=none→R (.ref l) (upd H1 l (.lst xs)):=fun {xs} h2 l hl=>by
  obtain⟨g1,g2,g3⟩:=m1.lay hl h2
  exact k _ _ _ q g1 (k1.trans g2) (g3.back m k1 t1)
 cases r1 with
 |lst h1 h2=>cases e1;exact⟨_,_,rfl,.inl (SqL.of (zg h1).2),fin h2⟩
 |tup h1 h2=>cases e1;exact⟨_,_,rfl,.inr (SqT.of (zg h1).2),fin h2⟩
 |_=>cases e1
section
variable {k:Nat}{f:Addr}{fd:FuncData}{ps:List Str}{φ:List A→(A→Prop)→Prop}{x:Str}
theorem wg {F:Fr}{σ:St}{H:Hp}{vs:List V}{as:List A}{QA:A→Prop}{R:VK}(m:M F α σ H)(rv:yf F (Gz F α σ H) vs as)(hφ:φ as QA)
  (kk:∀a v H',QA a→wK ⟨H,Ow F α σ,F.tp⟩ v H' a→R v H') {E:XK}:spA φ (vs++[]) H R E:=by
 refine⟨⟨H,Ow F α σ,F.tp⟩,as,QA,rfl,?_,?_,?_,hφ,kk⟩
 ·exact m.tp.to rfl fun _ z=>.inl z
 ·exact fun y z=>m.owEx z
 ·rw[zo6]
  exact yf.to (F:=F) (F':=⟨H,Ow F α σ,F.tp⟩) (fun _ _ e=>e) rfl rv
theorem wK.back {F:Fr}{σ:St}{H H':Hp}{v:V}{a:A}(m:M F α σ H)(h:wK ⟨H,Ow F α σ,F.tp⟩ v H' a):zH F H'∧Kz F H H'∧AV (Gz F α σ H') v a.d:=by
 obtain⟨t,kz,r⟩:=h
 refine⟨m.tp.re t rfl,kz,?_⟩
 cases a with
 |dat d=>exact r
 |ow c=>
  obtain⟨l,xs,ds,rfl,rfl,h1,h2,h3,h4⟩:=r
  exact .lst (zT h2 h3) (h4.same (zu fun a o h e=>⟨h.1,e⟩))
 |deep d S=>
  obtain⟨h1,h2⟩:=r
  refine h1.same fun x o e=>?_
  rcases jS e with ⟨z1,z2⟩|⟨_,z2⟩
  ·exact zT (h2 x z1).1 z2
  ·exact z2
 |tape=>exact r.elim
 |«at» _=>exact r.elim
 |exc _ _=>exact r.elim
 |pin _ _ _=>exact r.elim
 |nst l ls dss=>
  obtain⟨rfl,h2,h3,h4,h5⟩:=r
  exact .lst (zT (h5 l zh3).1 h2) (h3.avs (zu fun a o h e=>⟨h.1,e⟩) fun a ha=>(h5 a (zg7 _ ha)).1)
theorem dF (G:zD X.prog X.w X.K X.mg X.base CX0 k f fd ps (spA φ))(hr:zY k X.A)(hg:Gl X x)(hm:X.mg x=some (.ref f))(hk:PySem.W.keepIn X.K (.ref f)=true)(hb:Binds X.K fd ps [])
  (h:EvA X α (e::es) fun as=>φ as fun a=>Q a.d) (hdb:(x == ("__debug__":Str))=false:=by decide) (he:starEach (e::es) X.env=(false,eval e X.env)::starEach es X.env:=by rfl) (hpl:(backTo pos (starEach es X.env)).any (·.1)=false:=by rfl):
  EvD X α (.Call (.Name x p) (e::es) [] pos) Q:=fun F σ H R m kk=>by
 refine⟨_,zM G hr hg hm hk hb .nil zR xo hdb he hpl,?_⟩
 refine h F σ H _ m fun as vs H1 q1 t1 k1 r1=>?_
 have m1:=m.kz k1 t1
 refine wg m1 r1 q1 fun a v H' qa ra=>?_
 obtain⟨g1,g2,g3⟩:=ra.back m1
 exact kk _ v H' qa g1 (k1.trans g2) g3
theorem eR {Q:List PyData→Prop}(G:zD X.prog X.w X.K X.mg X.base CX0 k f fd ps (spA φ))(hr:zY k X.A)(hg:Gl X x)(hm:X.mg x=some (.ref f))(hk:PySem.W.keepIn X.K (.ref f)=true)(hb:Binds X.K fd ps [])
  (h:EvA X α (e::es) fun as=>φ as fun a=>∃ds,a=.own ds∧Q ds) (hdb:(x == ("__debug__":Str))=false:=by decide) (he:starEach (e::es) X.env=(false,eval e X.env)::starEach es X.env:=by rfl) (hpl:(backTo pos (starEach es X.env)).any (·.1)=false:=by rfl):
  EvL X α (.Call (.Name x p) (e::es) [] pos) Q:=fun F σ H R m kk=>by
 refine⟨_,zM G hr hg hm hk hb .nil zR xo hdb he hpl,?_⟩
 refine h F σ H _ m fun as vs H1 q1 t1 k1 r1=>?_
 have m1:=m.kz k1 t1
 refine wg m1 r1 q1 fun a v H' qa ra=>?_
 obtain⟨ds,rfl,q⟩:=qa
 obtain⟨g1,g2,_⟩:=ra.back m1
 obtain⟨_,_,l,xs,ds',rfl,hc,h1,h2,h3,h4⟩:=ra
 cases hc
 exact kk ds _ H' q g1 (k1.trans g2) (yX.back m k1 t1 ⟨l,xs,rfl,h1,h3,h4⟩)
end
theorem oC {i j:Nat}{x:Option A}(h:i≠j):(α.set i x)[j]?=α[j]?:=zm0 h
theorem zQ {i:Nat}{x:Option A}{j:Nat}{y:Option A}(h:(α.set i x)[j]?=some y):(i=j∧x=y)∨(i≠j∧α[j]?=some y):=by
 by_cases hij:i=j
 ·subst hij
  left
  have hl:i<α.length:=by
   have:=(zh1.mp h).1
   rwa [zk6] at this
  rw[zn9 hl] at h
  exact⟨rfl,zk0 h⟩
 ·right
  rw[zm0 hij] at h
  exact⟨hij,h⟩
theorem M.put {F:Fr}{σ:St}{H:Hp}{i:Nat}{b:Option A}(m:M F α σ H)(hf:∀s c x,σ[i]?=some s→b=some c→foot s c x→∃a,α[i]?=some (some a)∧foot s a x)
  (hok:∀s c,i<α.length→σ[i]?=some s→b=some c→xO (Gz F (α.set i b) σ H) F H s c) (hx:∀c,b=some c→noX c:=by intro c z;cases z;trivial):zq (Gz F α σ H) (Gz F (α.set i b) σ H)∧M F (α.set i b) σ H:=by
 have gs:zq (Gz F α σ H) (Gz F (α.set i b) σ H):=zu fun a o h e=>⟨fun z=>h (by
  rcases z with z|⟨j,c,s,e1,e2,f⟩
  ·exact .inl z
  ·rcases zQ e1 with ⟨rfl,z⟩|⟨hj,e1'⟩
   ·obtain⟨a',h1,h2⟩:=hf s c a e2 z f
    exact .inr ⟨i,a',s,h1,e2,h2⟩
   ·exact .inr ⟨j,c,s,e1',e2,f⟩),e⟩
 have old:∀{j:Nat} {c:A} {s:Option V} {x:Addr},(α.set i b)[j]?=some (some c)→σ[j]?=some s→foot s c x→∃a,α[j]?=some (some a)∧foot s a x:=fun {j c s x} e1 e2 f=>by
  rcases zQ e1 with ⟨rfl,z⟩|⟨hj,e1'⟩
  ·exact hf s c x e2 z f
  ·exact⟨c,e1',f⟩
 refine⟨gs,by rw[zk6];exact m.len,fun j c s e1 e2=>?_,fun j k c d s t x e1 e2 h1 h2 f1 f2=>?_,fun j r q e j' c s x e1 e2 f=>?_,m.tp,m.keep,m.oex⟩
 ·rcases zQ e1 with ⟨rfl,z⟩|⟨hj,e1'⟩
  ·refine hok s c ?_ e2 z
   have:=(zh1.mp e1).1
   rwa [zk6] at this
  ·exact (m.ok j c s e1' e2).stay gs (fun x o f e=>⟨e,(m.ft e1' e2 f).1,(m.ft e1' e2 f).2.1⟩) rfl fun _ _ _ l=>l
 ·obtain⟨a',g1,g2⟩:=old e1 h1 f1
  obtain⟨b',g3,g4⟩:=old e2 h2 f2
  exact m.dj j k a' b' s t x g1 g3 h1 h2 g2 g4
 ·obtain⟨a',g1,g2⟩:=old e1 e2 f
  rcases zQ e with ⟨rfl,z⟩|⟨_,e'⟩
  ·exact (hx _ z).elim
  ·exact m.xd j r q e' j' a' s x g1 e2 g2
theorem M.gave {F:Fr}{σ:St}{H:Hp}{i:Nat}{a:A}{s:Option V}{b:Option A}{x:Addr}(m:M F α σ H)(e1:α[i]?=some (some a))(e2:σ[i]?=some s)(f:foot s a x)(hb:∀c,b=some c→¬foot s c x):¬Ow F (α.set i b) σ x:=by
 rintro (z|⟨j,c,t,h1,h2,g⟩)
 ·exact (m.ft e1 e2 f).1 z
 ·rcases zQ h1 with ⟨rfl,z⟩|⟨hj,h1'⟩
  ·rw[e2] at h2;cases h2;exact hb c z g
  ·exact hj (m.dj i j a c s t x e1 h1' e2 h2 f g)
theorem az {F:Fr}{σ:St}{H:Hp}{i:Nat}{b:A}(hb:∀s x,¬foot s b x):zq (Gz F α σ H) (Gz F (α.set i (some b)) σ H):=zu fun a o h e=>⟨fun z=>h (by
 rcases z with z|⟨j,c,s,e1,e2,f⟩
 ·exact .inl z
 ·rcases zQ e1 with ⟨rfl,z⟩|⟨hj,e1'⟩
  ·cases z;exact (hb _ _ f).elim
  ·exact .inr ⟨j,c,s,e1',e2,f⟩),e⟩
theorem M.frz {F:Fr}{σ:St}{H:Hp}{i:Nat}{ds:List PyData}(m:M F α σ H)(hi:α[i]?=some (some (.own ds))):M F (α.set i (some (.dat (.list ds)))) σ H:=
 (m.put (b:=some (.dat (.list ds))) (fun s c' x _ z f=>by cases z;exact f.elim) fun s c' _ e2 z=>by
  cases z
  obtain⟨l,o,h1,h2,h3,h4,h5⟩:=m.owc i _ hi
  rw[h1] at e2;cases e2
  exact⟨.ref l,rfl,(h3.same (az (b:=.dat (.list ds)) fun _ _ f=>f)).av (zT (m.gave hi h1 rfl fun c z=>by cases z;exact id) h2)⟩).2
theorem cO {F:Fr}{σ:St}{H H':Hp}{i:Nat}{a:A}{b:Option A}(m:M F α σ H)(k:Kz F H H')(hi:α[i]?=some (some a))(x:Addr)(o:HO)(ho:¬Ob o)(h:Gz F (α.set i b) σ H' x=some o):Gz F α σ H' x=some o:=by
 obtain⟨h1,h2⟩:=zg h
 refine zT ?_ h2
 rintro (z|⟨j,c,s,e1,e2,f⟩)
 ·exact h1 (.inl z)
 ·by_cases hj:i=j
  ·subst hj
   obtain⟨g1,g2,o',g3,g4⟩:=m.ft e1 e2 f
   rw[k _ _ g3 (m.tp.nt g1)] at h2;cases h2;exact ho g4
  ·exact h1 (.inr ⟨j,c,s,by rw[oC hj];exact e1,e2,f⟩)
theorem wU (i:Nat){ds:List PyData}(hi:α[i]?=some (some (.own ds)))(h:EvD X (α.set i (some (.dat (.list ds)))) e fun d=>noL d=true∧Q d):EvD X α e Q:=fun F σ H R m k=>
 h F σ H R (m.frz hi) fun d v H' q t kz r=>k d v H' q.2 t kz (r.noL (cO m kz hi) q.1)
theorem uS {Q:Bool→Prop}(i:Nat){ds:List PyData}(hi:α[i]?=some (some (.own ds)))(h:EvT X (α.set i (some (.dat (.list ds)))) e Q):EvT X α e Q:=fun F σ H R m k=>h F σ H R (m.frz hi) k
def ItW (p:Addr→Prop)(J:It)(ds:List PyData)(G:Hp):Prop:=∀(i:Nat) (H2:Hp) (q:Addr→Prop),zq G (sub q H2)→
 (∀d,ds[i]?=some d→J.go i H2∧∀x H3,J.yld i H2 x H3→zq H2 H3∧((∀a o,H3 a=some o→H2 a=none→q a)→AV (sub q H3) x d))∧(ds.length≤i→J.stop i H2)
def fL (X:Cx)(tg e:Expr):TI:=fun σ H R=>∃t,PI X tg e t∧t σ H R
theorem qP {tg e:Expr}:PI X tg e (fL X tg e):=fun pins s σ H R I ⟨t,p,q⟩=>p pins s σ H R I q
def EvI (X:Cx)(α:Ev)(tg e:Expr)(Q:List PyData→Prop):Prop:=∀(F:Fr) (σ:St) (H:Hp) (R:It→Hp→Prop),M F α σ H→
 (∀ds J H',Q ds→zH F H'→Kz F H H'→ItW (fun x=>¬Ow F α σ x) J ds (Gz F α σ H')→R J H')→fL X tg e σ H R
theorem wb {tg:Expr}{Q:List PyData→Prop}(h:EvD X α e fun x=>∃ds,x=.list ds∧Q ds):EvI X α tg e Q:=fun F σ H R m k=>by
 refine⟨_,my zi,?_⟩
 refine h F σ H _ m fun x vx H1 q1 t1 k1 r1=>?_
 obtain⟨ds,rfl,q⟩:=q1
 obtain⟨a,xs,rfl,h1,h2⟩:=r1.lst_inv
 refine⟨a,rfl,⟨xs,SqL.of (zg h1).2⟩,k ds _ H1 q t1 k1 fun i H2 p s=>⟨fun d hd=>?_,fun hl=>?_⟩⟩
 ·obtain⟨x,hx,av⟩:=h2.get hd
  have ha:=SqL.of (K:=X.K) (zg (s _ _ h1)).2
  refine⟨⟨xs,x,ha,hx⟩,fun x' H3 y=>?_⟩
  obtain⟨e,y⟩:=y
  subst e
  have:=y xs ha
  rw[hx] at this;cases this
  exact⟨zq.refl _,fun _=>av.same s⟩
 ·exact⟨xs,SqL.of (zg (s _ _ h1)).2,by rw[h2.length];exact hl⟩
theorem kd {p:Addr→Prop}{lo:Int}{n:Nat}{G:Hp}:ItW p (Itr lo n) ((uo lo n).map .int) G:=fun i H2 q s=>⟨fun d hd=>by
  rw[zi6,zj0] at hd
  obtain⟨z,h1,rfl⟩:=hd
  have hi:i<n:=by
   have:=(zh1.mp h1).1
   rwa [yZ] at this
  rw[nz hi] at h1
  cases h1
  refine⟨hi,fun x H3 y=>?_⟩
  obtain⟨rfl,rfl⟩:=y
  exact⟨zq.refl _,fun _=>.int _⟩,fun hl=>by
  rw[zh4,yZ] at hl
  exact hl⟩
theorem kr {tg:Expr}{Q:List PyData→Prop}(hg:Gl X "range")(hm:X.mg "range"=none)(h:EvD X α a fun x=>∃j,x=.int j∧-(2 ^ 62)≤j∧j<2 ^ 62∧Q ((uo 0 j.toNat).map .int))(hs:starEach [a] X.env=[(false,eval a X.env)]:=by rfl):
  EvI X α tg (.Call (.Name "range" p) [a] [] pos) Q:=fun F σ H R m k=>by
 refine⟨_,lY hg hm (ze zi zv hs) hs,?_⟩
 refine h F σ H _ m fun x vx H1 q1 t1 k1 r1=>?_
 obtain⟨j,rfl,b1,b2,q⟩:=q1
 cases r1.int_inv
 exact⟨j,rfl,b1,b2,k _ _ H1 q t1 k1 kd⟩
end
inductive Pat where
 |one (i:Nat)
 |many (is:List Nat)
 |nest (i:Nat) (is:List Nat)
def xP :List Nat→List PyData→Ev→Option Ev
 |[],[],α=>some α
 |i::is,d::ds,α=>xP is ds (α.set i (some (.dat d)))
 |_,_,_=>none
def Pat.bind :Pat→PyData→Ev→Option Ev
 |.one i,d,α=>some (α.set i (some (.dat d)))
 |.many is,.tuple ds,α=>xP is ds α
 |.nest i is,.tuple [d,.tuple ds],α=>xP is ds (α.set i (some (.dat d)))
 |_,_,_=>none
def gIs :List Nat→TGs
 |[]=>fK
 |i::is=>rE (oh i) (gIs is)
def nF (K:PySem.W.Frag):Pat→TG
 |.one i=>oh i
 |.many is=>jG K is.length (gIs is)
 |.nest i is=>jG K 2 (rE (oh i) (rE (jG K is.length (gIs is)) fK))
def Pat.slots :Pat→List Nat
 |.one i=>[i]
 |.many is=>is
 |.nest i is=>i::is
def isFree (α:Ev)(i:Nat):Bool:=match α[i]? with
 |some none=>true
 |_=>false
def Pat.free (p:Pat)(α:Ev):Bool:=p.slots.all (isFree α)
section
variable {X:Cx}{α α':Ev}{F:Fr}{σ:St}{H:Hp}
theorem M.store {i:Nat}{v:V}{b:A}{H':Hp}(m:M F α σ H)(t:zH F H')(k:Kz F H H')(hn:∀x,foot (some v) b x→H x=none)(hok:xO (sub (fun x=>¬Ow F α σ x∧¬foot (some v) b x) H') F H' (some v) b)(hx:noX b:=by trivial):M F (α.set i (some b)) (σ.set i (some v)) H':=by
 have m':=m.kz k t
 have hs:∀{j:Nat} {c:A} {s:Option V},(α.set i (some b))[j]?=some (some c)→(σ.set i (some v))[j]?=some s→(i=j∧c=b∧s=some v)∨(i≠j∧α[j]?=some (some c)∧σ[j]?=some s):=fun {j c s} e1 e2=>by
  rcases zQ e1 with ⟨rfl,z⟩|⟨hj,e1'⟩
  ·cases z
   have hl:i<σ.length:=by
    have:=(zh1.mp e2).1
    rwa [zk6] at this
   rw[zn9 hl] at e2
   cases e2
   exact .inl ⟨rfl,rfl,rfl⟩
  ·rw[zm0 hj] at e2
   exact .inr ⟨hj,e1',e2⟩
 have ow:∀{y:Addr},Ow F (α.set i (some b)) (σ.set i (some v)) y→Ow F α σ y∨foot (some v) b y:=fun {y} h=>by
  rcases h with z|⟨j,c,s,e1,e2,f⟩
  ·exact .inl (.inl z)
  ·rcases hs e1 e2 with ⟨_,rfl,rfl⟩|⟨_,g1,g2⟩
   ·exact .inr f
   ·exact .inl (.inr ⟨j,c,s,g1,g2,f⟩)
 have g1:zq (sub (fun x=>¬Ow F α σ x∧¬foot (some v) b x) H') (Gz F (α.set i (some b)) (σ.set i (some v)) H'):=zu fun a o h e=>⟨fun z=>(ow z).elim h.1 h.2,e⟩
 have g0:zq (Gz F α σ H) (sub (fun x=>¬Ow F α σ x∧¬foot (some v) b x) H'):=zu fun a o h e=>⟨⟨h,fun z=>by rw[hn a z] at e;cases e⟩,k a o e (m.tp.nt (ow0 h))⟩
 refine⟨by rw[zk6,zk6];exact m.len,fun j c s e1 e2=>?_,fun j j' c d s s' x e1 e2 h1 h2 f1 f2=>?_,fun j r q e j' c s x e1 e2 f=>?_,t,m.keep.trans k,m'.oex⟩
 ·rcases hs e1 e2 with ⟨rfl,rfl,rfl⟩|⟨_,z1,z2⟩
  ·exact hok.stay g1 (fun x o f e=>by
    obtain⟨w1,w2,_⟩:=qS hok f
    exact⟨e,w1,w2⟩) rfl fun _ _ _ l=>l
  ·exact (m.ok j c s z1 z2).stay (g0.trans g1) (fun x o f e=>by
    obtain⟨w1,w2,_⟩:=m.ft z1 z2 f
    exact⟨k x o e (m.tp.nt w1),w1,w2⟩) rfl fun _ _ _ l=>l.kz k t
 ·have nn:∀{j:Nat} {c:A} {s:Option V},α[j]?=some (some c)→σ[j]?=some s→foot s c x→¬foot (some v) b x:=fun {j c s} z1 z2 f g=>by
   obtain⟨_,_,o,w,_⟩:=m.ft z1 z2 f
   rw[hn x g] at w;cases w
  rcases hs e1 h1 with ⟨rfl,rfl,rfl⟩|⟨_,z1,z2⟩
  ·rcases hs e2 h2 with ⟨rfl,_⟩|⟨_,w1,w2⟩
   ·rfl
   ·exact absurd f1 (nn w1 w2 f2)
  ·rcases hs e2 h2 with ⟨rfl,rfl,rfl⟩|⟨_,w1,w2⟩
   ·exact absurd f2 (nn z1 z2 f1)
   ·exact m.dj j j' c d s s' x z1 w1 z2 w2 f1 f2
 ·rcases zQ e with ⟨rfl,z⟩|⟨_,e'⟩
  ·cases z;exact hx.elim
  ·rcases hs e1 e2 with ⟨rfl,rfl,rfl⟩|⟨_,z1,z2⟩
   ·exact (m.lnk e').none (hn x f)
   ·exact m.xd j r q e' j' c s x z1 z2 f
theorem M.set {i:Nat}{v:V}{d:PyData}(m:M F α σ H)(av:AV (Gz F α σ H) v d):M F (α.set i (some (.dat d))) (σ.set i (some v)) H:=
 m.store m.tp Kz.refl (fun x z=>z.elim) ⟨v,rfl,av.same (zu fun a o h e=>⟨⟨h,fun z=>z⟩,e⟩)⟩
theorem M.setC {i:Nat}{v:V}{c:PyData}{H':Hp}(m:M F α σ H)(t:zH F H')(k:Kz F H H')(fl:iJ F α σ H v H' c):M F (α.set i (some (.ow c))) (σ.set i (some v)) H':=by
 obtain⟨l,o,rfl,h1,h2,h3⟩:=fl
 have nl:¬Ow F α σ l:=m.fresh h1
 refine m.store t k (fun x z=>?_) ⟨l,o,rfl,h2,h3.same (zu fun a o h e=>⟨⟨h.1,fun z=>h.2 (by cases z;rfl)⟩,e⟩),ow0 nl,m.fresh0 h1⟩
 have z':some (V.ref l)=some (.ref x):=z
 cases z';exact h1
theorem M.setOwn {i:Nat}{v:V}{ds:List PyData}{H':Hp}(m:M F α σ H)(t:zH F H')(k:Kz F H H')(fl:yX F α σ H v H' ds):M F (α.set i (some (.own ds))) (σ.set i (some v)) H':=m.setC t k fl.c
theorem M.wr {x:Addr}{o:HO}(m:M F α σ H)(hno:wH o)(ho:F.O0 x)(ht:∀t b c,F.tp=some (t,b,c)→x≠t∧x≠b∧x≠c)(h0:F.H0 x=none)(hpl:Plain H x)(hx:∀(i:Nat) r q,α[i]?=some (some (.exc r q))→r.H0 x=none):M F α σ (upd H x o):=by
 have gs:zq (Gz F α σ H) (Gz F α σ (upd H x o)):=zu fun a u h e=>⟨h,by rw[zk (fun z=>h (.inl (by rw[z];exact ho)))];exact e⟩
 refine⟨m.len,fun j c s e1 e2=>?_,m.dj,m.xd,m.tp.upd ht hpl,fun y u e n=>?_,fun y hy=>?_⟩
 ·have:=m.ok j c s e1 e2
  cases c with
  |exc r q=>
   have l:Lnk r F H:=this
   exact⟨l.tp,l.o,l.ok.upd (fun a b c e=>ht a b c (l.tp▸e)) hpl,fun y u e n=>by rw[zk (zo e (hx j r q e1))];exact l.k y u e n⟩
  |_=>exact this.stay gs (fun y u f e=>by
    obtain⟨w1,w2,_⟩:=m.ft e1 e2 f
    exact⟨by rw[zk (fun z=>w1 (by rw[z];exact ho))];exact e,w1,w2⟩) rfl fun _ _ z=>by cases z
 ·rw[zk (zo e h0)];exact m.keep y u e n
 ·by_cases z:y=x
  ·exact⟨o,by rw[z];exact zj,hno⟩
  ·obtain⟨u,hu,hn⟩:=m.oex y hy
   exact⟨u,by rw[zk z];exact hu,hn⟩
theorem M.forget {α0:Ev}(m:M F α σ H)(hl:α0.length=α.length)(le:∀(i:Nat) a,α0[i]?=some (some a)→α[i]?=some (some a)):M F α0 σ H:=by
 have ow:∀{y:Addr},Ow F α0 σ y→Ow F α σ y:=fun {y} h=>by
  rcases h with z|⟨j,c,s,e1,e2,f⟩
  ·exact .inl z
  ·exact .inr ⟨j,c,s,le _ _ e1,e2,f⟩
 have gs:zq (Gz F α σ H) (Gz F α0 σ H):=zu fun a o h e=>⟨fun z=>h (ow z),e⟩
 exact⟨hl.trans m.len,fun j c s e1 e2=>(m.ok j c s (le _ _ e1) e2).stay gs (fun x o f e=>⟨e,(m.ft (le _ _ e1) e2 f).1,(m.ft (le _ _ e1) e2 f).2.1⟩) rfl fun _ _ _ l=>l,fun j j' c d s s' x e1 e2=>m.dj j j' c d s s' x (le _ _ e1) (le _ _ e2),fun j r q e j' c s x e1=>m.xd j r q (le _ _ e) j' c s x (le _ _ e1),m.tp,m.keep,m.oex⟩
theorem vQ {H:Hp}:∀{is:List Nat} {ds:List PyData} {α α':Ev} {σ:St} {xs:List V} {R:St→Hp→Prop},xP is ds α=some α'→M F α σ H→(∀G,zq (Gz F α σ H) G→AVs G xs ds)→(∀σ',M F α' σ' H→R σ' H)→gIs is xs σ H R
 |[],[],α,α',σ,xs,R,e,m,av,k=>by
  cases e
  cases av _ (zq.refl _)
  exact⟨rfl,k σ m⟩
 |i::is,d::ds,α,α',σ,xs,R,e,m,av,k=>by
  cases h:av _ (zq.refl _) with
  |@cons x xs _ _ h1 h2=>
   refine⟨x,xs,rfl,?_⟩
   have gs:zq (Gz F α σ H) (Gz F (α.set i (some (.dat d))) (σ.set i (some x)) H):=zu fun a o h e=>⟨fun z=>h (by
    rcases z with z|⟨j,c,s,e1,e2,f⟩
    ·exact .inl z
    ·rcases zQ e1 with ⟨_,z⟩|⟨hj,e1'⟩
     ·cases z;exact f.elim
     ·rw[zm0 hj] at e2
      exact .inr ⟨j,c,s,e1',e2,f⟩),e⟩
   exact vQ (is:=is) (ds:=ds) e (m.set (i:=i) h1) (fun G s=>h2.same (gs.trans s)) k
 |[],_::_,_,_,_,_,_,e,_,_,_=>by cases e
 |_::_,[],_,_,_,_,_,e,_,_,_=>by cases e
theorem Pat.nest_inv {i:Nat}{is:List Nat}{d:PyData}(e:(Pat.nest i is).bind d α=some α'):∃d0 ds,d=.tuple [d0,.tuple ds]∧xP is ds (α.set i (some (.dat d0)))=some α':=by
 cases d with
 |tuple xs=>
  cases xs with
  |nil=>cases e
  |cons d0 r=>
   cases r with
   |nil=>cases e
   |cons d1 r=>
    cases r with
    |nil=>
     cases d1 with
     |tuple ds=>exact⟨_,_,rfl,e⟩
     |_=>cases e
    |cons _ _=>cases d1<;>cases e
 |_=>cases e
theorem sZ :∀{is:List Nat} {ds:List PyData} {α α':Ev},xP is ds α=some α'→ds.length=is.length:=by
 intro is
 induction is with
 |nil=>intro ds α α' h;cases ds with|nil=>rfl|cons _ _=>cases h
 |cons i is ih=>intro ds α α' h;cases ds with|nil=>cases h|cons d ds=>rw[zj5,zj5,ih h]
theorem uN {K:PySem.W.Frag}{pat:Pat}{d:PyData}{v:V}{R:St→Hp→Prop}(e:pat.bind d α=some α')(m:M F α σ H)(av:AV (Gz F α σ H) v d)(k:∀σ',M F α' σ' H→R σ' H):nF K pat v σ H R:=by
 cases pat with
 |one i=>cases e;exact k _ (m.set av)
 |many is=>
  cases d with
  |tuple ds=>
   obtain⟨a,xs,rfl,h1,h2⟩:=av.tup_inv
   exact⟨a,xs,rfl,SqT.of (zg h1).2,by rw[h2.length];exact sZ e,vQ e m (fun G s=>h2.same s) k⟩
  |_=>cases e
 |nest i is=>
  obtain⟨d0,ds,rfl,e⟩:=Pat.nest_inv e
  obtain⟨a,xs,rfl,h1,h2⟩:=av.tup_inv
  cases h2 with
  |@cons x0 r _ _ z1 z2=>
   cases z2 with
   |@cons x1 r _ _ z3 z4=>
    cases z4
    have m1:=m.set (i:=i) z1
    have gs:zq (Gz F α σ H) (Gz F (α.set i (some (.dat d0))) (σ.set i (some x0)) H):=zu fun a o h e=>⟨fun z=>h (by
     rcases z with z|⟨j,c,s,e1,e2,f⟩
     ·exact .inl z
     ·rcases zQ e1 with ⟨_,z⟩|⟨hj,e1'⟩
      ·cases z;exact f.elim
      ·rw[zm0 hj] at e2
       exact .inr ⟨j,c,s,e1',e2,f⟩),e⟩
    obtain⟨b,ys,rfl,w1,w2⟩:=(z3.same gs).tup_inv
    exact⟨a,_,rfl,SqT.of (zg h1).2,rfl,_,_,rfl,_,_,rfl,⟨b,ys,rfl,SqT.of (zg w1).2,by rw[w2.length];exact sZ e,vQ e m1 (fun G s=>w2.same s) fun σ' m'=>⟨rfl,k σ' m'⟩⟩⟩
theorem tS :∀{is:List Nat} {ds:List PyData} {α α':Ev},xP is ds α=some α'→α'.length=α.length
 |[],[],_,_,e=>by cases e;rfl
 |i::is,d::ds,α,α',e=>by
  have:=tS (is:=is) (ds:=ds) e
  rwa [zk6] at this
 |[],_::_,_,_,e=>by cases e
 |_::_,[],_,_,e=>by cases e
theorem tu :∀{is:List Nat} {ds:List PyData} {α α':Ev} {j:Nat},xP is ds α=some α'→j∉is→α'[j]?=α[j]?
 |[],[],_,_,_,e,_=>by cases e;rfl
 |i::is,d::ds,α,α',j,e,h=>by
  rw[tu (is:=is) (ds:=ds) e fun z=>h (zg7 _ z)]
  exact zm0 fun (z:i=j)=>h (by rw[←z];exact zh3)
 |[],_::_,_,_,_,e,_=>by cases e
 |_::_,[],_,_,_,e,_=>by cases e
theorem tL :∀{is:List Nat} {ds:List PyData} {α α':Ev} {j:Nat} {a:A},xP is ds α=some α'→α'[j]?=some (some a)→(∀d,a≠.dat d)→α[j]?=some (some a)
 |[],[],_,_,_,_,e,h,_=>by cases e;exact h
 |i::is,d::ds,α,α',j,a,e,h,hn=>by
  rcases zQ (tL (is:=is) (ds:=ds) e h hn) with ⟨_,z⟩|⟨_,z⟩
  ·cases z;exact absurd rfl (hn d)
  ·exact z
 |[],_::_,_,_,_,_,e,_,_=>by cases e
 |_::_,[],_,_,_,_,e,_,_=>by cases e
theorem Pat.is_ok {pat:Pat}{d:PyData}(e:pat.bind d α=some α'):∃is ds,pat.slots=is∧xP is ds α=some α':=by
 cases pat with
 |one i=>cases e;exact⟨_,[d],rfl,rfl⟩
 |many is=>
  cases d with
  |tuple ds=>exact⟨_,ds,rfl,e⟩
  |_=>cases e
 |nest i is=>
  obtain⟨d0,ds,rfl,e⟩:=Pat.nest_inv e
  exact⟨_,d0::ds,rfl,e⟩
theorem Pat.back {pat:Pat}{d:PyData}(e:pat.bind d α=some α')(fr:pat.free α=true)(m:M F α' σ H):M F α σ H:=by
 obtain⟨is,ds,rfl,e⟩:=Pat.is_ok e
 refine m.forget (tS e).symm fun j a h=>?_
 by_cases hj:j∈pat.slots
 ·have:=zv0.mp fr j hj
  unfold isFree at this
  rw[h] at this
  cases this
 ·rw[tu e hj];exact h
end
section
variable {X:Cx}{α:Ev}
def cY (X:Cx)(α:Ev)(ifs:List Expr)(Q:Bool→Prop):Prop:=∀(F:Fr) (σ:St) (H:Hp) (R:Bool→Hp→Prop),M F α σ H→(∀b H',Q b→zH F H'→Kz F H H'→R b H')→∃t,uf X ifs t∧t σ H R
def cu (X:Cx)(ifs:List Expr):TT:=fun σ H R=>∃t,uf X ifs t∧t σ H R
theorem eB {ifs:List Expr}:uf X ifs (cu X ifs):=fun pins s σ H Q I ⟨t,p,q⟩=>p pins s σ H Q I q
theorem bQ {Q:Bool→Prop}(q:Q true):cY X α [] Q:=fun F σ H R m k=>⟨_,eY,k _ H q m.tp Kz.refl⟩
def seen :Option A→Option A
 |some (.dat d)=>some (.dat d)
 |some .tape=>some .tape
 |_=>none
def xE (imp:List (Option Nat))(α:Ev):Ev:=imp.map fun o=>o.bind fun j=>(α[j]?).bind seen
theorem ph {imp:List (Option Nat)}{i:Nat}{a:A}(h:(xE imp α)[i]?=some (some a)):∃j,imp[i]?=some (some j)∧α[j]?=some (some a)∧((∃d,a=.dat d)∨a=.tape):=by
 unfold xE at h
 rw[zi6,zj0] at h
 obtain⟨o,h1,h2⟩:=h
 cases o with
 |none=>cases h2
 |some j=>
  have h2':(α[j]?).bind seen=some a:=h2
  cases q:α[j]? with
  |none=>rw[q] at h2';cases h2'
  |some b=>
   rw[q] at h2'
   cases b with
   |none=>cases h2'
   |some b=>
    cases b with
    |dat d=>cases h2';exact⟨j,h1,q,.inl ⟨d,rfl⟩⟩
    |tape=>cases h2';exact⟨j,h1,q,.inr rfl⟩
    |_=>cases h2'
theorem ox {imp:List (Option Nat)}{σ:St}{i j:Nat}{v:V}(h1:imp[i]?=some (some j))(h2:σ[j]?=some (some v)):(xS imp σ)[i]?=some (some v):=by
 unfold xS
 rw[zi6,h1]
 show some ((σ[j]?).bind id)=_
 rw[h2];rfl
def ve (Y:Addr→Shared→Hp→List Addr→Cx)(pat:Pat)(ifs:List Expr)(elt:Expr)(α0:Ev):List PyData→List PyData→(List PyData→Prop)→Prop
 |[],acc,Q=>Q acc
 |d::ds,acc,Q=>∃α1,pat.bind d α0=some α1∧∀C s2 H2 fp,cY (Y C s2 H2 fp) α1 ifs fun k=>if k=true then ∀C s2 H2 fp,EvD (Y C s2 H2 fp) α1 elt fun y=>ve Y pat ifs elt α0 ds (acc++[y]) Q else ve Y pat ifs elt α0 ds acc Q
def eC (Y:Addr→Shared→Hp→List Addr→Cx)(e:Expr):TE:=fun σ H Q=>∀C s2 H2 fp,vJ (Y C s2 H2 fp) e σ H Q
def tsC (Y:Addr→Shared→Hp→List Addr→Cx)(ifs:List Expr):TT:=fun σ H Q=>∀C s2 H2 fp,cu (Y C s2 H2 fp) ifs σ H Q
theorem eO {N:List Str}{imp:List (Option Nat)}{scope:Scope}{tg iter elt:Expr}{ifs:List Expr}{pat:Pat}{Q:List PyData→Prop}(hfree:pat.free (xE imp α)=true)
  (h:EvI X α tg iter fun ds=>ds.length≤1000∧ve (fun C s2 H2 fp=>X.comp N scope C s2 H2 fp) pat ifs elt (xE imp α) ds [] Q)
  (F:Fr) (σ:St) (H:Hp) (R:VK) (m:M F α σ H) (k:∀ds v H',Q ds→zH F H'→Kz F H H'→yX F α σ H v H' ds→R v H'):
  ∃Y:Addr→Shared→Hp→List Addr→Cx,Y=(fun C s2 H2 fp=>X.comp N scope C s2 H2 fp)∧cn (fL X tg iter) imp (nF X.K pat) (tsC Y ifs) (eC Y elt) σ H R:=by
 refine⟨_,rfl,?_⟩
 refine h F σ H _ m fun ds J H1 ⟨hl,q1⟩ t1 k1 itw acc hacc=>?_
 have m1:=m.kz k1 t1
 have nacc:¬Ow F α σ acc:=m1.fresh hacc
 let Fc:Fr:=⟨H1,fun x=>Ow F α σ x∨x=acc,F.tp⟩
 let Nd:Ev→Prop:=fun α1=>∀(j:Nat) a,α1[j]?=some (some a)→(∃d,a=.dat d)∨a=.tape
 have no0:Nd (xE imp α):=fun j a z=>by
  obtain⟨_,_,_,n⟩:=ph z
  exact n
 have owc:∀{α1:Ev} {τ:St} {x:Addr},Nd α1→(Ow Fc α1 τ x↔Fc.O0 x):=fun {α1 τ x} hh=>⟨fun z=>z.elim id fun⟨j,a,s,e1,e2,f⟩=>by
  rcases hh j a e1 with ⟨d,rfl⟩|rfl
  ·exact f.elim
  ·exact f.elim,.inl⟩
 have gz:∀{α1 α2:Ev} {τ1 τ2:St} {H:Hp},Nd α1→Nd α2→zq (Gz Fc α1 τ1 H) (Gz Fc α2 τ2 H):=fun h1 h2=>zu fun a o h e=>⟨fun z=>h ((owc h1).mpr ((owc h2).mp z)),e⟩
 have tpc:∀{H2:Hp},zH F H2→zH Fc H2:=fun t=>t.to rfl fun x z=>.inl (.inl z)
 have s01:zq H1 (upd H1 acc (.lst [])):=zP hacc
 have mc0:M Fc (xE imp α) (xS imp σ) (upd H1 acc (.lst [])):=by
  have g1:zq (Gz F α σ H1) (Gz Fc (xE imp α) (xS imp σ) (upd H1 acc (.lst []))):=fun a o e=>by
   obtain⟨z1,z2⟩:=zg e
   have na:a≠acc:=zo z2 hacc
   exact zT (fun z=>((owc no0).mp z).elim z1 na) (by rw[zk na];exact z2)
  refine⟨by unfold xE xS;rw[zh4,zh4],fun i a s e1 e2=>?_,fun i j a b s t x e1 e2 _ _ f=>?_,fun i r q e=>(by rcases no0 i _ e with ⟨d,w⟩|w<;>cases w),tpc (t1.same s01),fun x o e _=>s01 x o e,?_⟩
  ·obtain⟨j,w1,w2,w3⟩:=ph e1
   rcases w3 with ⟨d,rfl⟩|rfl
   ·obtain⟨v,g2,g3⟩:=m1.dat j d w2
    rw[ox w1 g2] at e2;cases e2
    exact⟨v,rfl,g3.same g1⟩
   ·obtain⟨t,b,c,g2,g3⟩:=m1.tvar j w2
    rw[ox w1 g3] at e2;cases e2
    exact⟨t,b,c,g2,rfl⟩
  ·rcases no0 i a e1 with ⟨d,rfl⟩|rfl
   ·exact f.elim
   ·exact f.elim
  ·rintro x (z|z)
   ·have:∃o,H1 x=some o∧wH o:=m1.owEx z
    obtain⟨o,ho,hn⟩:=this
    exact⟨o,s01 _ _ ho,hn⟩
   ·exact⟨_,by rw[z];exact zj,xT⟩
 refine⟨fun i n ys τ H2=>n=ds.length-i∧i≤ds.length∧∃ad:List PyData,M Fc (xE imp α) τ H2∧H2 acc=some (.lst ys)∧AVs (Gz Fc (xE imp α) τ H2) ys ad∧ad.length≤i∧ve (fun C s2 H2 fp=>X.comp N scope C s2 H2 fp) pat ifs elt (xE imp α) (ds.drop i) ad Q,
  ⟨ds.length,by simp,zi5 _,[],mc0,zj,.nil,zg5 _,q1⟩,?_⟩
 rintro i n ys τ H2 ⟨rfl,hi,ad,m2,ha,av,had,cw⟩
 have sG:zq (Gz F α σ H1) (Gz Fc (xE imp α) τ H2):=fun a o e=>by
  obtain⟨z1,z2⟩:=zg e
  exact m2.old a o (zT (p:=fun x=>¬Fc.O0 x) (fun z=>z.elim z1 (zo z2 hacc)) z2)
 obtain⟨w1,w2⟩:=itw i H2 _ sG
 by_cases hlt:i<ds.length
 ·have hd:ds[i]?=some ds[i]:=zh0 hlt
  have hdr:ds.drop i=ds[i]::ds.drop (i+1):=zj9 hlt
  rw[hdr] at cw
  obtain⟨α1,eb,body⟩:=cw
  obtain⟨go,yl⟩:=w1 _ hd
  have no1:Nd α1:=fun j a z=>by
   obtain⟨is,ds',_,e⟩:=Pat.is_ok eb
   by_cases hn:∀d,a≠.dat d
   ·exact no0 j a (tL e z hn)
   ·simp only[Classical.not_forall,Classical.not_not] at hn
    exact .inl hn
  refine .inr ⟨go,fun ys' τ' H'=>∃ad:List PyData,M Fc (xE imp α) τ' H'∧H' acc=some (.lst ys')∧AVs (Gz Fc (xE imp α) τ' H') ys' ad∧ad.length≤i+1∧ve (fun C s2 H2 fp=>X.comp N scope C s2 H2 fp) pat ifs elt (xE imp α) (ds.drop (i+1)) ad Q,
   fun ys' τ' H' ⟨ad',r1,r2,r3,r4,r5⟩=>⟨ds.length-(i+1),by omega,rfl,hlt,ad',r1,r2,r3,r4,r5⟩,fun x H3 y=>?_⟩
  obtain⟨s23,avx⟩:=yl x H3 y
  have m3:M Fc (xE imp α) τ H3:=m2.kz (Kz.of_same s23) (m2.tp.same s23)
  have avx':=avx fun a o _ e=>m2.fresh e
  refine uN eb m3 avx' fun τ1 m4 C s2 H2' fp=>?_
  refine body C s2 H2' fp Fc τ1 H3 _ m4 fun b H5 qb t5 k5=>?_
  have m5:=m4.kz k5 t5
  have av5:AVs (Gz Fc (xE imp α) τ1 H5) ys ad:=av.same ((Kz.of_same s23).gz m2.tp |>.trans ((gz (τ2:=τ1) no0 no1).trans ((k5.gz m4.tp).trans (gz no1 no0))))
  have accN:NT Fc acc:=⟨fun t b c e=>by
   have:=(t1 t b c e).1.free hacc
   exact⟨this.1,this.2.1⟩,vv t1.tab hacc⟩
  have ha5:H5 acc=some (.lst ys):=k5 _ _ (s23 _ _ ha) accN
  cases b with
  |false=>
   have qb':ve (fun C s2 H2 fp=>X.comp N scope C s2 H2 fp) pat ifs elt (xE imp α) (ds.drop (i+1)) ad Q:=by simpa using qb
   exact sr ⟨ad,Pat.back eb hfree m5,ha5,av5,by omega,qb'⟩
  |true=>
   refine uI fun C s2 H2'' fp=>?_
   have qe:EvD (X.comp N scope C s2 H2'' fp) α1 elt fun y=>ve (fun C s2 H2 fp=>X.comp N scope C s2 H2 fp) pat ifs elt (xE imp α) (ds.drop (i+1)) (ad++[y]) Q:=by
    have z:=qb
    rw[if_pos rfl] at z
    exact z C s2 H2'' fp
   refine qe Fc τ1 H5 _ m5 fun y v H6 qy t6 k6 r6=>?_
   have m6:=m5.kz k6 t6
   have ha6:H6 acc=some (.lst ys):=k6 _ _ ha5 accN
   have hlen:ys.length≤i:=by rw[av.length];exact had
   have oacc:Fc.O0 acc:=.inr rfl
   have tacc:∀t b c,Fc.tp=some (t,b,c)→acc≠t∧acc≠b∧acc≠c:=fun t b c e=>(t1 t b c e).1.free hacc
   have m7:=(Pat.back eb hfree m6).wr (o:=.lst (ys++[v])) xT oacc tacc hacc (rB ha6) (fun i r q z=>by rcases no0 i _ z with ⟨d,w⟩|w<;>cases w)
   refine⟨ha6,yB (by omega),ad++[y],m7,zj,?_,by simp;omega,qy⟩
   have g67:zq (Gz Fc (xE imp α) τ1 H6) (Gz Fc (xE imp α) τ1 (upd H6 acc (.lst (ys++[v])))):=zu fun a o h e=>⟨h,by rw[zk (fun z=>h (.inl (by rw[z];exact oacc)))];exact e⟩
   exact ((av5.same ((gz (τ2:=τ1) no0 no1).trans ((k6.gz m5.tp).trans (gz no1 no0)))).append (.cons (r6.same (gz no1 no0)) .nil)).same g67
 ·have e:i=ds.length:=by omega
  subst e
  rw[zp5] at cw
  refine .inl ⟨w2 (zg5 _),k ad _ H2 cw ?_ (k1.trans m2.keep) (yX.back m k1 t1 ⟨acc,ys,rfl,hacc,ha,av.same (zu fun a o h e=>⟨⟨fun z=>h (.inl (.inl z)),fun z=>h (.inl (.inr z))⟩,e⟩)⟩)⟩
  exact m.tp.re m2.tp rfl
theorem zb4 {N:List Str}{imp:List (Option Nat)}{scope:Scope}{tg iter elt:Expr}{ifs:List Expr}{pat:Pat}{Q:List PyData→Prop}{pos:Pos}(hc:X.calm=true)(S:yp X.N X.env.scope N imp scope)(hfree:pat.free (xE imp α)=true)
  (hg:∀C s2 H2 fp,PG (X.comp N scope C s2 H2 fp) tg (nF X.K pat))
  (h:EvI X α tg iter fun ds=>ds.length≤1000∧ve (fun C s2 H2 fp=>X.comp N scope C s2 H2 fp) pat ifs elt (xE imp α) ds [] Q) (hs:∀x,foldedSetIterable iter X.env x=pure x:=by intro _;rfl):
  EvL X α (.ListComp elt [⟨tg,iter,ifs,0⟩] scope pos) Q:=fun F σ H R m k=>by
 obtain⟨Y,rfl,h⟩:=eO hfree h F σ H R m k
 exact⟨_,za9 hc S qP hg (fun C s2 H2 fp pins s σ H Q I h=>eB pins s σ H Q I (h C s2 H2 fp)) (fun C s2 H2 fp pins s σ H Q I h=>zi pins s σ H Q I (h C s2 H2 fp)) hs,h⟩
section
variable {E:yC}{rest body:List Stmt}{e c tg iter:Expr}{pos p:Pos}
theorem sJ.then {F:Fr}{D:Ends}(h:sJ F E D):sJ F {E with nx:=fun α'=>SvS X α' rest E} {D with nx:=fe X rest D}:=
 ⟨fun α' σ' H' m q=>q F σ' H' D m h,h.rt,h.bk,h.ct⟩
theorem zt (q:E.nx α):SvS X α [] E:=fun F σ H D m h=>⟨_,yz,h.nx _ _ _ m q⟩
theorem SvS.imp {sts:List Stmt}{E':yC}(h:SvS X α sts E')(hn:∀α,E'.nx α→E.nx α)(hr:∀a,E'.rt a→E.rt a)(hb:∀α,E'.bk α→E.bk α)(hc:∀α,E'.ct α→E.ct α):SvS X α sts E:=fun F σ H D m r=>
 h F σ H D m ⟨fun α σ H m q=>r.nx α σ H m (hn _ q),fun a v H m q=>r.rt a v H m (hr _ q),fun α σ H m q=>r.bk α σ H m (hb _ q),fun α σ H m q=>r.ct α σ H m (hc _ q)⟩
theorem zS (i:Nat){x:Str}{pos':Pos}(hN:X.N.Nodup)(h:EvD X α e fun d=>SvS X (α.set i (some (.dat d))) rest E)(hi:X.N[i]?=some x:=by rfl)(hx:Loc X.env.scope x:=by first|exact Or.inl rfl|exact Or.inr rfl)
  (hs:swapsWith e (some (.Name x pos')) pos.line X.env=pure false:=by rfl) (hf:X.fn x=true∨X.env.scope.names.lookup x=some .local:=by first|exact .inl rfl|exact .inr rfl|assumption):SvS X α (.Assign [.Name x pos'] e pos::rest) E:=fun F σ H D m r=>by
 refine⟨_,zG (qT hN hi hx zi hs hf) zN,?_⟩
 exact h F σ H _ m fun d v H1 q1 t1 k1 r1=>q1 F _ H1 D ((m.kz k1 t1).set r1) r
theorem yF (i:Nat){x:Str}{pos':Pos}(hN:X.N.Nodup)(h:EvL X α e fun ds=>SvS X (α.set i (some (.own ds))) rest E)(hi:X.N[i]?=some x:=by rfl)(hx:Loc X.env.scope x:=by first|exact Or.inl rfl|exact Or.inr rfl)
  (hs:swapsWith e (some (.Name x pos')) pos.line X.env=pure false:=by rfl) (hf:X.fn x=true∨X.env.scope.names.lookup x=some .local:=by first|exact .inl rfl|exact .inr rfl|assumption):SvS X α (.Assign [.Name x pos'] e pos::rest) E:=fun F σ H D m r=>by
 refine⟨_,zG (qT hN hi hx zi hs hf) zN,?_⟩
 exact h F σ H _ m fun d v H1 q1 t1 k1 r1=>q1 F _ H1 D (m.setOwn t1 k1 r1) r
theorem wK.dat {F:Fr}{σ:St}{H:Hp}{v:V}{d:PyData}(m:M F α σ H)(r:AV (Gz F α σ H) v d):wK F v H (.dat d):=
 ⟨m.tp,m.keep,r.same (zu fun a o h e=>⟨ow0 h,e⟩)⟩
theorem yH (h:EvD X α e fun d=>E.rt (.dat d)):SvS X α (.Return (some e) pos::rest) E:=fun F σ H D m r=>by
 refine⟨_,zG (zC zi) zN,?_⟩
 exact h F σ H _ m fun d v H1 q1 t1 k1 r1=>r.rt _ _ _ (wK.dat (m.kz k1 t1) r1) q1
theorem uQ (h:EvL X α e fun ds=>E.rt (.own ds)):SvS X α (.Return (some e) pos::rest) E:=fun F σ H D m r=>by
 refine⟨_,zG (zC zi) zN,?_⟩
 refine h F σ H _ m fun d v H1 q1 t1 k1 r1=>r.rt _ _ _ ?_ q1
 obtain⟨l,xs,h1,h2,h3,h4⟩:=r1
 exact⟨t1,m.keep.trans k1,l,xs,_,h1,rfl,m.fresh0 h2,ow0 (m.fresh h2),h3,h4.same (zu fun a o h e=>⟨⟨ow0 h.1,h.2⟩,e⟩)⟩
theorem uT (i:Nat){x:Str}{ds:List PyData}(hi:α[i]?=some (some (.own ds)))(q:E.rt (.own ds))(hN:X.N[i]?=some x:=by rfl)(hv:Vis X.env.scope x:=by first|exact Or.inl rfl|exact Or.inr (Or.inl rfl)|exact Or.inr (Or.inr rfl))
  (hd:(x == ("__debug__":Str))=false:=by decide) (hcd:(x == ("__classdict__":Str))=false:=by decide):SvS X α (.Return (some (.Name x p)) pos::rest) E:=fun F σ H D m r=>by
 obtain⟨l,xs,h1,h2,h3,h4,h5⟩:=m.own i ds hi
 refine⟨_,zG (zC (yR hN hv hd hcd)) zN,.ref l,h1,r.rt (.own ds) _ _ ⟨m.tp,m.keep,l,xs,_,rfl,rfl,h5,h4,h2,h3.same (zu fun a o h e=>⟨⟨ow0 h,fun z=>h (by rw[z];exact .inr ⟨i,_,_,hi,h1,rfl⟩)⟩,e⟩)⟩ q⟩
theorem yP {a b:List Stmt}(h:EvT X α c fun k=>SvS X α (if k=true then a else b) {E with nx:=fun α'=>SvS X α' rest E}):SvS X α (.If c a b pos::rest) E:=fun F σ H D m r=>by
 refine⟨_,zG (xR wj zN zN) zN,?_⟩
 refine h F σ H _ m fun k H1 q1 t1 k1=>?_
 cases k with
 |true=>exact uI ((by simpa using q1:SvS X α a _) F σ H1 _ (m.kz k1 t1) r.then)
 |false=>exact sr ((by simpa using q1:SvS X α b _) F σ H1 _ (m.kz k1 t1) r.then)
theorem vj (i:Nat){ds:List PyData}{sts:List Stmt}(hi:α[i]?=some (some (.own ds)))(h:SvS X (α.set i (some (.dat (.list ds)))) sts E):SvS X α sts E:=fun F σ H D m r=>h F σ H D (m.frz hi) r
theorem M.wrC {F:Fr}{σ:St}{H:Hp}{i:Nat}{c c':PyData}{l:Addr}{o':HO}(m:M F α σ H)(hi:α[i]?=some (some (.ow c)))(hl:σ[i]?=some (some (.ref l)))(av:xh (Gz F α σ H) o' c'):
  M F (α.set i (some (.ow c'))) σ (upd H l o'):=by
 obtain⟨l',o,h1,h2,h3,h4,h5⟩:=m.owc i c hi
 rw[hl] at h1;cases h1
 have hs:∀{j:Nat} {a:A} {s:Option V},(α.set i (some (.ow c')))[j]?=some (some a)→σ[j]?=some s→(i=j∧a=.ow c'∧s=some (.ref l))∨(i≠j∧α[j]?=some (some a)):=fun {j a s} e1 e2=>by
  rcases zQ e1 with ⟨rfl,z⟩|⟨hj,e1'⟩
  ·cases z;rw[hl] at e2;cases e2;exact .inl ⟨rfl,rfl,rfl⟩
  ·exact .inr ⟨hj,e1'⟩
 have oww:∀{y:Addr},Ow F (α.set i (some (.ow c'))) σ y→Ow F α σ y:=fun {y} h=>by
  rcases h with z|⟨j,a,s,e1,e2,f⟩
  ·exact .inl z
  ·rcases hs e1 e2 with ⟨rfl,rfl,rfl⟩|⟨hj,e1'⟩
   ·exact .inr ⟨i,_,_,hi,hl,f⟩
   ·exact .inr ⟨j,a,s,e1',e2,f⟩
 have ol:Ow F α σ l:=.inr ⟨i,_,_,hi,hl,rfl⟩
 have gs:zq (Gz F α σ H) (Gz F (α.set i (some (.ow c'))) σ (upd H l o')):=zu fun a o h e=>⟨fun z=>h (oww z),by rw[zk (fun z=>h (by rw[z];exact ol))];exact e⟩
 refine⟨by rw[zk6];exact m.len,fun j a s e1 e2=>?_,fun j j' a b s t x e1 e2 q1 q2 f1 f2=>?_,fun j r q e j' a s x e1 e2 f=>?_,m.tp.updO h4 (h3.plain h2),fun y o e n=>?_,fun y hy=>?_⟩
 ·rcases hs e1 e2 with ⟨rfl,rfl,rfl⟩|⟨hj,e1'⟩
  ·exact⟨l,o',rfl,zj,av.same gs,h4,h5⟩
  ·refine (m.ok j a s e1' e2).stay gs (fun y u f e=>?_) rfl fun r q ea k=>⟨k.tp,k.o,k.ok.updO (fun z=>h4 (k.o _ z)) (h3.plain h2),fun y u e n=>?_⟩
   ·obtain⟨w1,w2,_⟩:=m.ft e1' e2 f
    refine⟨?_,w1,w2⟩
    rw[zk fun z=>hj (m.dj i j _ a _ s l hi e1' hl e2 rfl (by rw[←z];exact f))]
    exact e
   ·rw[zk (zo e (m.xd j r q (by rw[←ea];exact e1') i _ _ l hi hl rfl))];exact k.k y u e n
 ·rcases hs e1 q1 with ⟨rfl,rfl,rfl⟩|⟨hj,e1'⟩
  ·rcases hs e2 q2 with ⟨rfl,_⟩|⟨hj',e2'⟩
   ·rfl
   ·exact m.dj i j' _ b _ t x hi e2' hl q2 f1 f2
  ·rcases hs e2 q2 with ⟨rfl,rfl,rfl⟩|⟨hj',e2'⟩
   ·exact m.dj j i a _ s _ x e1' hi q1 hl f1 f2
   ·exact m.dj j j' a b s t x e1' e2' q1 q2 f1 f2
 ·rcases zQ e with ⟨_,z⟩|⟨_,e'⟩
  ·cases z
  ·rcases hs e1 e2 with ⟨rfl,rfl,rfl⟩|⟨_,e1'⟩
   ·exact m.xd j r q e' i _ _ x hi hl f
   ·exact m.xd j r q e' j' a s x e1' e2 f
 ·rw[zk (zo e h5)];exact m.keep y o e n
 ·rw[zk (fun z=>h4 (by rw[←z];exact hy))];exact m.oex y hy
theorem M.wrOwn {F:Fr}{σ:St}{H:Hp}{i:Nat}{ds es:List PyData}{l:Addr}{ys:List V}(m:M F α σ H)(hi:α[i]?=some (some (.own ds)))(hl:σ[i]?=some (some (.ref l)))(av:AVs (Gz F α σ H) ys es):
  M F (α.set i (some (.own es))) σ (upd H l (.lst ys)):=m.wrC hi hl (.lst av)
theorem um (i:Nat){x:Str}{ds:List PyData}{p1 p2 p3:Pos}(hi:α[i]?=some (some (.own ds)))(h:EvD X α e fun d=>ds.length<1000∧SvS X (α.set i (some (.own (ds++[d])))) rest E)
  (hN:X.N[i]?=some x:=by rfl) (hv:Vis X.env.scope x:=by first|exact Or.inl rfl|exact Or.inr (Or.inl rfl)|exact Or.inr (Or.inr rfl)) (hd:(x == ("__debug__":Str))=false:=by decide) (hcd:(x == ("__classdict__":Str))=false:=by decide)
  (hbase:attributeBase (.Name x p1) "append" X.env (eval (.Name x p1) X.env)=eval (.Name x p1) X.env:=by rfl) (hs:starEach [e] X.env=(false,eval e X.env)::starEach [] X.env:=by rfl)
  (hpl:((((backTo p3 (starEach [e] X.env)).all fun x=>!x.fst)&&(backToKw p3 (keywordEach [] X.env)).all fun x=>x.fst.isSome)&&decide (([e].length+([]:List Keyword).length+if ([]:List Keyword).isEmpty=true then 0 else 1)<30))=true:=by rfl)
  (hline:(p2.endLine == p3.line)=true:=by rfl) (hsw:swapsWith (.Call (.Attribute (.Name x p1) "append" p2) [e] [] p3) none pos.line X.env=pure false:=by rfl):SvS X α (.Expr (.Call (.Attribute (.Name x p1) "append" p2) [e] [] p3) pos::rest) E:=fun F σ H D m r=>by
 obtain⟨l,xs,h1,h2,h3,h4,h5⟩:=m.own i ds hi
 refine⟨_,zG (uO (ma zr2 PySem.F.slot_list_append PySem.F.type_list_append rh (yR hN hv hd hcd) (ze zi zv hs) hbase hpl hline hs) hsw) zN,?_⟩
 refine⟨.ref l,h1,.inl ⟨rfl,_,SqL.of h2⟩,?_⟩
 refine h F σ H _ m fun d v H1 q1 t1 k1 r1=>?_
 have m1:=m.kz k1 t1
 refine⟨l,xs,v,rfl,rfl,k1 _ _ h2 (m.tp.nt h4),by rw[h3.length];exact yB (zm3 q1.1),?_⟩
 exact q1.2 F σ _ D (m1.wrOwn hi h1 ((h3.same (k1.gz m.tp)).append (.cons r1 .nil))) r
theorem sT (i:Nat){x:Str}{ds:List PyData}{p1 p2 p3:Pos}(hi:α[i]?=some (some (.own ds)))(h:EvD X α e fun d=>∃es,d=.list es∧ds.length+es.length≤1000∧SvS X (α.set i (some (.own (ds++es)))) rest E)
  (hN:X.N[i]?=some x:=by rfl) (hv:Vis X.env.scope x:=by first|exact Or.inl rfl|exact Or.inr (Or.inl rfl)|exact Or.inr (Or.inr rfl)) (hd:(x == ("__debug__":Str))=false:=by decide) (hcd:(x == ("__classdict__":Str))=false:=by decide)
  (hbase:attributeBase (.Name x p1) "extend" X.env (eval (.Name x p1) X.env)=eval (.Name x p1) X.env:=by rfl) (hs:starEach [e] X.env=(false,eval e X.env)::starEach [] X.env:=by rfl)
  (hpl:((((backTo p3 (starEach [e] X.env)).all fun x=>!x.fst)&&(backToKw p3 (keywordEach [] X.env)).all fun x=>x.fst.isSome)&&decide (([e].length+([]:List Keyword).length+if ([]:List Keyword).isEmpty=true then 0 else 1)<30))=true:=by rfl)
  (hline:(p2.endLine == p3.line)=true:=by rfl) (hsw:swapsWith (.Call (.Attribute (.Name x p1) "extend" p2) [e] [] p3) none pos.line X.env=pure false:=by rfl):SvS X α (.Expr (.Call (.Attribute (.Name x p1) "extend" p2) [e] [] p3) pos::rest) E:=fun F σ H D m r=>by
 obtain⟨l,xs,h1,h2,h3,h4,h5⟩:=m.own i ds hi
 refine⟨_,zG (uO (ma zr2 PySem.F.slot_list_extend PySem.F.type_list_extend kK (yR hN hv hd hcd) (ze zi zv hs) hbase hpl hline hs) hsw) zN,?_⟩
 refine⟨.ref l,h1,.inl ⟨rfl,_,SqL.of h2⟩,?_⟩
 refine h F σ H _ m fun d v H1 q1 t1 k1 r1=>?_
 have m1:=m.kz k1 t1
 obtain⟨es,rfl,hl,q⟩:=q1
 obtain⟨b,ys,rfl,g1,g2⟩:=r1.lst_inv
 refine⟨l,b,xs,ys,rfl,rfl,k1 _ _ h2 (m.tp.nt h4),(zg g1).2,by rw[h3.length,g2.length];exact zm3 (yB hl),?_⟩
 exact q F σ _ D (m1.wrOwn hi h1 ((h3.same (k1.gz m.tp)).append g2)) r
theorem bg (i:Nat){x:Str}{ix:Expr}{ds:List PyData}{p1 p2:Pos}(hi:α[i]?=some (some (.own ds)))(h:EvD X α e fun d=>EvD X α ix fun y=>∃k j,y=.int k∧ixN ds.length k=some j∧SvS X (α.set i (some (.own (ds.set j d)))) rest E)
  (hN:X.N[i]?=some x:=by rfl) (hv:Vis X.env.scope x:=by first|exact Or.inl rfl|exact Or.inr (Or.inl rfl)|exact Or.inr (Or.inr rfl)) (hd:(x == ("__debug__":Str))=false:=by decide) (hcd:(x == ("__classdict__":Str))=false:=by decide)
  (hs:swapsWithSole [.Subscript (.Name x p1) ix p2] e pos.line X.env=pure false:=by rfl) (hw:swappedStores [.Subscript (.Name x p1) ix p2] e X.env=pure none:=by rfl)
  (ha:(assignEach [.Subscript (.Name x p1) ix p2] X.env).map (·.2)=[assign (.Subscript (.Name x p1) ix p2) X.env]:=by rfl) (hps:PG X (.Subscript (.Name x p1) ix p2) (gX (iX i) (vJ X ix) mv):=by exact tT (yR rfl (by first|exact Or.inl rfl|exact Or.inr (Or.inl rfl)|exact Or.inr (Or.inr rfl))) zi set_list):
  SvS X α (.Assign [.Subscript (.Name x p1) ix p2] e pos::rest) E:=fun F σ H D m r=>by
 obtain⟨l,xs,h1,h2,h3,h4,h5⟩:=m.own i ds hi
 refine⟨_,zG (tW zi hps hs hw ha) zN,?_⟩
 refine h F σ H _ m fun d v H1 q1 t1 k1 r1=>?_
 have m1:=m.kz k1 t1
 refine⟨.ref l,h1,?_⟩
 refine q1 F σ H1 _ m1 fun y vy H2 q2 t2 k2 r2=>?_
 have m2:=m1.kz k2 t2
 obtain⟨k,j,rfl,hj,q⟩:=q2
 cases r2.int_inv
 refine⟨l,xs,k,j,rfl,rfl,k2 _ _ (k1 _ _ h2 (m.tp.nt h4)) (m.tp.nt h4),by rw[h3.length];exact hj,?_⟩
 exact q F σ _ D (m2.wrOwn hi h1 (((h3.same (k1.gz m.tp)).same (k2.gz m1.tp)).set (r1.same (k2.gz m1.tp)) j)) r
def xQ (X:Cx)(pat:Pat)(body rest:List Stmt)(E:yC):List PyData→Ev→Prop
 |[],α=>SvS X α rest E
 |d::ds,α=>∃α1,pat.bind d α=some α1∧SvS X α1 body {nx:=xQ X pat body rest E ds,ct:=xQ X pat body rest E ds,bk:=fun α'=>SvS X α' rest E,rt:=E.rt}
theorem qw {pat:Pat}(hp:PassesOwn (model X.prog X.w) X.A X.env X.xe)(hc:X.calm=true)(hg:PG X tg (nF X.K pat))(h:EvI X α tg iter fun ds=>xQ X pat body rest E ds α)
  (hs:∀x,foldedSetIterable iter X.env x=pure x:=by intro _;rfl):SvS X α (.For tg iter body [] pos::rest) E:=fun F σ H D m r=>by
 refine⟨_,zG (gc hp hc qP hg zN hs) zN,?_⟩
 refine h F σ H _ m fun ds J H1 q1 t1 k1 itw=>?_
 have m1:=m.kz k1 t1
 have mu:=m1.up
 have ru:sJ (F.up (Gz F α σ H1)) E D:=r.up
 refine⟨fun i n σ' H'=>n=ds.length-i∧i≤ds.length∧∃α',M (F.up (Gz F α σ H1)) α' σ' H'∧xQ X pat body rest E (ds.drop i) α',⟨ds.length,by simp,zi5 _,α,mu,q1⟩,?_⟩
 rintro i n σ' H' ⟨rfl,hi,α',m',lw⟩
 obtain⟨w1,w2⟩:=itw i H' _ (m1.upold m')
 by_cases hlt:i<ds.length
 ·have hd:ds[i]?=some ds[i]:=zh0 hlt
  rw[zj9 hlt] at lw
  obtain⟨α1,eb,body⟩:=lw
  obtain⟨go,yl⟩:=w1 _ hd
  refine .inr ⟨go,fun σ'' H''=>∃α',M (F.up (Gz F α σ H1)) α' σ'' H''∧xQ X pat _ rest E (ds.drop (i+1)) α',fun σ'' H'' ⟨α'',r1,r2⟩=>⟨ds.length-(i+1),by omega,rfl,hlt,α'',r1,r2⟩,fun x H3 y=>?_⟩
  obtain⟨s23,avx⟩:=yl x H3 y
  have m3:=m'.kz (Kz.of_same s23) (m'.tp.same s23)
  refine uN eb m3 (avx fun a o _ e=>m'.fresh e) fun σ1 m4=>?_
  exact body _ σ1 H3 _ m4 ⟨fun α2 σ2 H2 m2 q=>⟨α2,m2,q⟩,ru.rt,fun α2 σ2 H2 m2 q=>q _ σ2 H2 D m2 ru,fun α2 σ2 H2 m2 q=>⟨α2,m2,q⟩⟩
 ·have e:i=ds.length:=by omega
  subst e
  rw[zp5] at lw
  exact .inl ⟨w2 (zg5 _),lw _ σ' H' D m' ru⟩
theorem yn {pat:Pat}{ds:List PyData}(P:Nat→Ev→Prop)(h0:P 0 α)(hs:∀i d α,ds[i]?=some d→P i α→∃α1,pat.bind d α=some α1∧SvS X α1 body {nx:=P (i+1),ct:=P (i+1),bk:=fun α'=>SvS X α' rest E,rt:=E.rt})
  (hd:∀α,P ds.length α→SvS X α rest E):xQ X pat body rest E ds α:=by
 have key:∀n i α,n=ds.length-i→i≤ds.length→P i α→xQ X pat body rest E (ds.drop i) α:=by
  intro n
  induction n with
  |zero=>
   intro i α hn hi p
   have e:i=ds.length:=by omega
   subst e
   rw[zp5]
   exact hd α p
  |succ n ih=>
   intro i α hn hi p
   have hlt:i<ds.length:=by omega
   rw[zj9 hlt]
   obtain⟨α1,e,b⟩:=hs i ds[i] α (zh0 hlt) p
   exact⟨α1,e,b.imp (fun α p=>ih (i+1) α (by omega) hlt p) (fun _ z=>z) (fun _ z=>z) (fun α p=>ih (i+1) α (by omega) hlt p)⟩
 exact key _ 0 α rfl (zi5 _) h0
end
end
section
variable {P:Program}{w:World}{K:PySem.W.Frag}{mg:Str→Option Value}{base:Heap}
theorem M.start {F:Fr}{N:List Str}{vs:List V}{as:List A}{H:Hp}(e:F.H0=H)(t:zH F H)(o:∀x,F.O0 x→∃u,H x=some u∧wH u)(rv:yf F (sub (fun x=>¬F.O0 x) H) vs as):
  M F (as.map some++List.replicate (N.length-as.length) none) (L2.start N vs) H:=by
 have hl:=rv.length
 have g:∀{i:Nat} {a:A},(as.map some++List.replicate (N.length-as.length) none)[i]?=some (some a)→as[i]?=some a:=fun {i a} h=>by
  rcases zl0 i as.length with z|z
  ·rw[zl4 (by rw[zh4];exact z),zi6,zj0] at h
   obtain⟨b,h1,h2⟩:=h
   cases h2;exact h1
  ·rw[zo1 (by rw[zh4];exact z),zn3] at h
   split at h<;>cases h
 have at':∀{vs:List V} {as:List A} {i:Nat} {a:A},yf F (sub (fun x=>¬F.O0 x) H) vs as→as[i]?=some a→∃v,vs[i]?=some v∧ja F (sub (fun x=>¬F.O0 x) H) v a:=by
  intro vs as i a h
  induction h generalizing i with
  |nil=>intro e;simp at e
  |cons h r ih=>
   intro e
   cases i with
   |zero=>simp at e;subst e;exact⟨_,rfl,h⟩
   |succ i=>obtain⟨v,h1,h2⟩:=ih (by simpa using e);exact⟨v,by simpa using h1,h2⟩
 have gv:∀{i:Nat} {v:V},vs[i]?=some v→(L2.start N vs)[i]?=some (some v):=fun {i v} h=>by
  have hi:i<vs.length:=(zh1.mp h).1
  unfold L2.start
  rw[zl4 (by rw[zh4];exact hi),zi6,h];rfl
 have no:∀(i:Nat) a,(as.map some++List.replicate (N.length-as.length) none)[i]?=some (some a)→(∃d,a=.dat d)∨a=.tape:=fun i a z=>by
  obtain⟨v,_,h⟩:=at' rv (g z)
  cases a with
  |dat d=>exact .inl ⟨d,rfl⟩
  |tape=>exact .inr rfl
  |_=>exact h.elim
 have gs:zq (sub (fun x=>¬F.O0 x) H) (Gz F (as.map some++List.replicate (N.length-as.length) none) (L2.start N vs) H):=zu fun a o h e=>⟨fun z=>z.elim h fun⟨i,b,s,e1,_,f⟩=>by
  rcases no i b e1 with ⟨d,rfl⟩|rfl
  ·exact f.elim
  ·exact f.elim,e⟩
 refine⟨by unfold L2.start;simp[hl],fun i a s e1 e2=>?_,fun i j a b s t x e1 _ _ _ f=>?_,fun i r q z=>(by rcases no i _ z with ⟨d,w⟩|w<;>cases w),t,fun x o' h _=>by rw[←e];exact h,o⟩
 ·obtain⟨v,h1,h2⟩:=at' rv (g e1)
  rw[gv h1] at e2;cases e2
  rcases no i a e1 with ⟨d,rfl⟩|rfl
  ·exact⟨v,rfl,AV.same gs h2⟩
  ·obtain⟨t',b,c,h3,rfl⟩:=h2
   exact⟨t',b,c,h3,rfl⟩
 ·rcases no i a e1 with ⟨d,rfl⟩|rfl
  ·exact f.elim
  ·exact f.elim
theorem fnA {x qual:Str}{st:Stmt}{f:Addr}{fd:FuncData}{N ps:List Str}{k:Nat}{φ:List A→(A→Prop)→Prop}(G:Fun K x qual st f fd)(S:zm N ps (zc st))(hlen:∀as Q,φ as Q→as.length=ps.length)
  (hbody:∀(cdv:Value) (A':Around) (outer:List Env) (s:Shared) (H:Hp) (E:XK) (as:List A) (Q:A→Prop),zY k (A'.deeper (envOfC qual (zc st) s.heap.objs.size f cdv))→φ as Q→
   SvS (uM CX0 P w K mg base N qual (zc st) f cdv A' outer s H E).nox (as.map some++List.replicate (N.length-as.length) none) (zI st) {nx:=fun _=>Q (.dat .none),rt:=Q}):zD P w K mg base CX0 (k+1) f fd ps (spA φ):=by
 refine G.ok S (fun vs H Q E h=>?_) (fun cdv A' outer s H vs Qc E hr h=>?_)
 ·obtain⟨F,as,Q',_,_,_,rv,hφ,_⟩:=h
  rw[rv.length,hlen as _ hφ]
 ·obtain⟨F,as,Q',e,t,o,rv,hφ,kk⟩:=h
  refine hbody cdv A' outer s H E as Q' hr hφ F _ H _ (M.start e t o rv) ⟨fun α σ H' m q=>?_,fun a v H' r q=>kk a v H' q r,fun _ _ _ _ z=>z.elim,fun _ _ _ _ z=>z.elim⟩
  exact kk _ _ _ q ⟨m.tp,m.keep,.non⟩
end
section
variable {X:Cx}{pins:List (Addr×Obj)}{σ:St}{H:Hp}{s:Shared}{h':Heap}
theorem Inv.turnL {t':Nat}{ch:List Addr}(I:Inv X pins σ H s)(k:∀b o,b∉ch→s.heap.get? b=some o→h'.get? b=some o)(hf:∀b∈ch,vW X pins H b):Inv X pins σ H {s with heap:=h',toks:=t'}:=by
 have nit:∀b u,H b=some u→b∉ch:=fun b u e z=>by rw[(hf b z).1] at e;cases e
 refine I.step (g':=s.gens) (d':=s.drawn) (ch:=ch) (fun b hb=>?_) (fun b o _ _ hc e _=>k b o hc e) (fun b o _ _ hc e _=>⟨o.slots,k b o hc e⟩) (fun _ _ _ _ n=>n)
  (fun b o hc e=>⟨o,k b o hc e⟩) (fun _ _ e=>e) (fun _ _ _ e=>e) (fun b ps e=>⟨#[],by rw[e];simp⟩) (fun m hm=>?_) (fun b u e=>?_) I.bare
 ·obtain⟨_,f1,_,f3,f4,f5⟩:=hf b hb
  exact⟨f3,f1,f4,f5⟩
 ·obtain⟨o,es,ep,ho,r⟩:=hm
  exact⟨o,es,ep,k _ o (fun z=>(hf _ z).2.1 rfl) ho,r⟩
 ·refine (I.hok b u e).stay (fun c v hc q=>k c v ?_ q) (fun _ q=>q) fun _ _ q=>q
  rcases hc with z|z
  ·rw[z];exact nit b u e
  ·exact nit c _ z
theorem Inv.turnLay {t':Nat}{ch:List Addr}{T:Addr}{o:HO}(I:Inv X pins σ H s)(k:∀b o,b∉ch→s.heap.get? b=some o→h'.get? b=some o)(hf:∀b∈ch,vW X pins H b)(hT:s.heap.objs.size≤T)(new:yq X.prog X.w (upd H T o) h' T o):
  Inv X pins σ (upd H T o) {s with heap:=h',toks:=t'}:=by
 have nit:∀b u,H b=some u→b∉ch:=fun b u e z=>by rw[(hf b z).1] at e;cases e
 have hn:H T=none:=I.hok.fresh hT
 have lt:∀{b:Addr} {u:Obj},s.heap.get? b=some u→b≠T:=fun e=>zi3 (zj3 (zh7 e) hT)
 refine I.step (g':=s.gens) (d':=s.drawn) (ch:=ch) (fun b hb=>?_) (fun b o _ _ hc e _=>k b o hc e) (fun b o _ _ hc e _=>⟨o.slots,k b o hc e⟩) (fun b u _ e n=>by rw[zk (lt e)];exact n)
  (fun b o hc e=>⟨o,k b o hc e⟩) (fun b xs e=>by rw[zk (zo e hn)];exact e) (fun b u xs e=>by rw[zk (zo e hn)];exact e) (fun b ps e=>⟨#[],by rw[zk (zo e hn),e];simp⟩) (fun m hm=>?_) (fun b u e=>?_) I.bare
 ·obtain⟨_,f1,_,f3,f4,f5⟩:=hf b hb
  exact⟨f3,f1,f4,f5⟩
 ·obtain⟨o,es,ep,ho,r⟩:=hm
  exact⟨o,es,ep,k _ o (fun z=>(hf _ z).2.1 rfl) ho,r⟩
 ·by_cases hb:b=T
  ·subst hb;rw[zj] at e;cases e;exact new
  ·rw[zk hb] at e
   refine (I.hok b u e).stay (fun c v hc q=>k c v ?_ q) (fun c q=>by rw[zk (zo q hn)];exact q) fun c xs q=>by rw[zk (zo q hn)];exact q
   rcases hc with z|z
   ·rw[z];exact nit b u e
   ·exact nit c _ z
end
theorem ze1 {a b:Nat}(h:b<a):(a:Addr)≠b:=zv2 h
def Itz (K:PySem.W.Frag)(l1 l2:Addr):It:=
 ⟨fun i H=>∃xs ys x y,SqL K H l1 xs∧SqL K H l2 ys∧xs[i]?=some x∧ys[i]?=some y,
  fun i H v H'=>∃T x y,v=.ref T∧H T=none∧H'=upd H T (.tup [x,y])∧(∀xs,SqL K H l1 xs→xs[i]?=some x)∧∀ys,SqL K H l2 ys→ys[i]?=some y,
  fun i H=>∃xs ys,SqL K H l1 xs∧SqL K H l2 ys∧(xs.length≤i∨ys.length≤i)⟩
def Ite (K:PySem.W.Frag)(l:Addr):It:=
 ⟨fun i H=>∃xs x,SqL K H l xs∧xs[i]?=some x,
  fun i H v H'=>∃T x,v=.ref T∧H T=none∧H'=upd H T (.tup [.int i,x])∧∀xs,SqL K H l xs→xs[i]?=some x,
  fun i H=>∃xs,SqL K H l xs∧xs.length≤i⟩
theorem aJ {P:Program}{w:World}{K:PySem.W.Frag}{elts:List Expr}{kk:Nat}{pos:Pos}{z TI TO i1 i2 l1 l2:Addr}(D:ZipApart z TI TO i1 i2 l1 l2):
  Turn P w K (.Tuple elts kk pos) (Itz K l1 l2) [z,TI,TO,i1,i2] z (fun i h=>IsZip h z TI TO .none∧IsPair h TI (.ref i1) (.ref i2)∧(∃a b,IsPair h TO a b)∧h.IsListIter i1 l1 i∧h.IsListIter i2 l2 i) where
 mem:=by simp
 obj:=fun i h st b hb=>by
  obtain⟨h1,h2,⟨a,c,h3⟩,⟨o1,e1,_,d1⟩,⟨o2,e2,_,d2⟩⟩:=st
  simp only[zg3,zg9,zj8] at hb
  rcases hb with rfl|rfl|rfl|rfl|rfl
  ·exact⟨_,h1,fun v z=>by cases (show Data.fields _=Data.cell v from z)⟩
  ·exact⟨_,h2,fun v z=>by cases (show Data.seq _ _=Data.cell v from z)⟩
  ·exact⟨_,h3,fun v z=>by cases (show Data.seq _ _=Data.cell v from z)⟩
  ·exact⟨o1,e1,fun v z=>by rw[d1] at z;cases z⟩
  ·exact⟨o2,e2,fun v z=>by rw[d2] at z;cases z⟩
 keep:=fun i h h' st k=>by
  obtain⟨h1,h2,⟨a,c,h3⟩,h4,h5⟩:=st
  exact⟨k z (by simp) _ h1,k TI (by simp) _ h2,⟨a,c,k TO (by simp) _ h3⟩,h4.at fun o e=>k i1 (by simp) o e,h5.at fun o e=>k i2 (by simp) o e⟩
 item:=by
  intro X hP hw hK hc i pins s σ H E I hf st hg
  subst hP hw hK
  obtain⟨xs,ys,x,y,hq1,hq2,hx,hy⟩:=hg
  obtain⟨its1,rv1,p1,hz1⟩:=I.list hq1
  obtain⟨its2,rv2,p2,hz2⟩:=I.list hq2
  obtain⟨u,hu,ru⟩:=rv1.get hx
  obtain⟨v,hv,rv⟩:=rv2.get hy
  obtain⟨h1,h2,⟨a,c,h3⟩,h4,h5⟩:=st
  refine wpAny_pyNext_zip_item D h1 h2 h3 h4 h5 p1.isList p2.isList (x:=u) (y:=v) (by simpa using hu) (by simpa using hv) fun h' a1 a2 a3 a4 a5 a6 hk=>⟨_,rfl,?_⟩
  refine wpAny_letOwnedTupleGo_zip (s:={s with heap:=h'}) a1 fun h'' b1 b2=>?_
  have hTz:s.heap.objs.size≠z:=zv2 (zh7 h1)
  have hk2:∀b o,b∉[z,TI,TO,i1,i2]→s.heap.get? b=some o→h''.get? b=some o:=fun b o hb e=>by
   simp only[zg3,zg9,zj8,not_or] at hb
   exact b2.extBut _ _ hb.1 (hk b o hb.1 hb.2.2.1 hb.2.2.2.1 hb.2.2.2.2 e)
  have gT:h''.get? s.heap.objs.size=some {cls:=.type "tuple",data:=.seq #[u,v]}:=b2.extBut _ _ hTz a5
  have J:=I.turnLay (t':=s.toks) (T:=s.heap.objs.size) (o:=.tup [x,y]) hk2 hf (zg5 _) ⟨by show 2≤sizeLine;decide,[u,v],.cons ru (.cons rv .nil),_,gT,rfl,0,rfl⟩
  refine⟨.ref s.heap.objs.size,_,J,rfl,⟨_,x,y,rfl,I.hok.fresh (zg5 _),rfl,fun zs hz=>by rw[I.list_inj hz hq1];exact hx,fun zs hz=>by rw[I.list_inj hz hq2];exact hy⟩,⟨b1,b2.extBut _ _ D.TIz (hk _ _ D.TIz D.TITO D.TIi1 D.TIi2 h2),⟨u,v,b2.extBut _ _ D.TOz a2⟩,a3.extBut b2.extBut D.i1z,a4.extBut b2.extBut D.i2z⟩,fun b hb=>?_⟩
  rw[zk]
  ·exact (hf b hb).1
  ·obtain⟨o,e,_⟩:=(show ∃o,s.heap.get? b=some o∧True from by
    simp only[zg3,zg9,zj8] at hb
    obtain⟨o1,e1,_⟩:=h4
    obtain⟨o2,e2,_⟩:=h5
    rcases hb with rfl|rfl|rfl|rfl|rfl
    ·exact⟨_,h1,trivial⟩
    ·exact⟨_,h2,trivial⟩
    ·exact⟨_,h3,trivial⟩
    ·exact⟨_,e1,trivial⟩
    ·exact⟨_,e2,trivial⟩)
   exact zi3 (zh7 e)
 done:=by
  intro X hP hw hK hc i pins s σ H E I hf st hg
  subst hP hw hK
  obtain⟨xs,ys,hq1,hq2,hl⟩:=hg
  obtain⟨its1,rv1,p1,hz1⟩:=I.list hq1
  obtain⟨its2,rv2,p2,hz2⟩:=I.list hq2
  obtain⟨h1,h2,⟨a,c,h3⟩,h4,h5⟩:=st
  have e1:=rv1.length
  have e2:=rv2.length
  refine wpAny_pyNext_zip_end (I.ok.hd hc) D h1 h2 h3 h4 h5 p1.isList p2.isList (hl.imp (fun z=>by simp;omega) fun z=>by simp;omega) fun h' hk=>⟨rfl,?_⟩
  exact I.turnL (t':=s.toks) (ch:=[z,TI,TO,i1,i2]) (fun b o hb e=>by
   simp only[zg3,zg9,zj8,not_or] at hb
   exact hk b o hb.1 hb.2.2.1 hb.2.2.2.1 hb.2.2.2.2 e) hf
 self:=fun A i s Q E st h=>wpAny_pyIter_zip st.1 h
theorem kg {P:Program}{w:World}{K:PySem.W.Frag}{elts:List Expr}{kk:Nat}{pos:Pos}{e it l:Addr}(hne:e≠it):
  Turn P w K (.Tuple elts kk pos) (Ite K l) [e,it] e (fun i h=>(∃old,IsEnum h e it i old)∧h.IsListIter it l i) where
 mem:=by simp
 obj:=fun i h st b hb=>by
  obtain⟨⟨old,h1⟩,⟨o1,e1,_,d1⟩⟩:=st
  simp only[zg3,zg9,zj8] at hb
  rcases hb with rfl|rfl
  ·exact⟨_,h1,fun v z=>by cases (show Data.fields _=Data.cell v from z)⟩
  ·exact⟨o1,e1,fun v z=>by rw[d1] at z;cases z⟩
 keep:=fun i h h' st k=>by
  obtain⟨⟨old,h1⟩,h4⟩:=st
  exact⟨⟨old,k e (by simp) _ h1⟩,h4.at fun o q=>k it (by simp) o q⟩
 item:=by
  intro X hP hw hK hc i pins s σ H E I hf st hg
  subst hP hw hK
  obtain⟨xs,x,hq1,hx⟩:=hg
  obtain⟨its1,rv1,p1,hz1⟩:=I.list hq1
  obtain⟨u,hu,ru⟩:=rv1.get hx
  obtain⟨⟨old,h1⟩,h4⟩:=st
  refine wpAny_pyNext_enum_item h1 h4 p1.isList (x:=u) (by simpa using hu) hne fun h' a1 a3 a5 a6 hk=>⟨_,rfl,?_⟩
  refine wpAny_letOwnedTupleGo_enum (s:={s with heap:=h',toks:=s.toks+1}) a1 fun h'' b1 b2=>?_
  have hTz:s.heap.objs.size≠e:=zv2 (zh7 h1)
  have hk2:∀b o,b∉[e,it]→s.heap.get? b=some o→h''.get? b=some o:=fun b o hb q=>by
   simp only[zg3,zg9,zj8,not_or] at hb
   exact b2.extBut _ _ hb.1 (hk b o hb.1 hb.2 q)
  have gT:h''.get? s.heap.objs.size=some {cls:=.type "tuple",data:=.seq #[.int i s.toks,u]}:=b2.extBut _ _ hTz a5
  have J:=I.turnLay (t':=s.toks+1) (T:=s.heap.objs.size) (o:=.tup [.int i,x]) hk2 hf (zg5 _) ⟨by show 2≤sizeLine;decide,[.int i s.toks,u],.cons ⟨_,rfl⟩ (.cons ru .nil),_,gT,rfl,0,rfl⟩
  refine⟨.ref s.heap.objs.size,_,J,rfl,⟨_,x,rfl,I.hok.fresh (zg5 _),rfl,fun zs hz=>by rw[I.list_inj hz hq1];exact hx⟩,⟨⟨u,by simpa using b1⟩,a3.extBut b2.extBut hne.symm⟩,fun b hb=>?_⟩
  rw[zk]
  ·exact (hf b hb).1
  ·obtain⟨o,q,_⟩:=(show ∃o,s.heap.get? b=some o∧True from by
    simp only[zg3,zg9,zj8] at hb
    obtain⟨o1,e1,_⟩:=h4
    rcases hb with rfl|rfl
    ·exact⟨_,h1,trivial⟩
    ·exact⟨_,e1,trivial⟩)
   exact zi3 (zh7 q)
 done:=by
  intro X hP hw hK hc i pins s σ H E I hf st hg
  subst hP hw hK
  obtain⟨xs,hq1,hl⟩:=hg
  obtain⟨its1,rv1,p1,hz1⟩:=I.list hq1
  obtain⟨⟨old,h1⟩,h4⟩:=st
  have e1:=rv1.length
  refine wpAny_pyNext_enum_end (I.ok.hd hc) h1 h4 p1.isList (by simp;omega) fun h' hk=>⟨rfl,?_⟩
  exact I.turnL (t':=s.toks) (ch:=[e,it]) (fun b o hb q=>by
   simp only[zg3,zg9,zj8,not_or] at hb
   exact hk b o hb.2 q) hf
 self:=fun A i s Q E st h=>by
  obtain⟨⟨old,h1⟩,h4⟩:=st
  exact wpAny_pyIter_enum h1 h
section
variable {X:Cx}{α:Ev}{elts:List Expr}{kk:Nat}{tp p pos:Pos}{a b:Expr}
def zb8 (K:PySem.W.Frag)(ta:TA):TI:=fun σ H R=>ta σ H fun vs H1=>∃l,vs=[.ref l]∧(∃xs,SqL K H1 l xs)∧R (Ite K l) H1
theorem fk {ta:TA}(hg:Gl X "enumerate")(hm:X.mg "enumerate"=none)(ha:PA X [a] ta)(hs:starEach [a] X.env=[(false,eval a X.env)]:=by rfl):
  PI X (.Tuple elts kk tp) (.Call (.Name "enumerate" p) [a] [] pos) (zb8 X.K ta):=by
 intro pins s σ H R I h
 refine Call_ (vZ I hg hm boot_enumerate (zp9 (thn (ha pos pins s σ H _ I h) fun us s1 ⟨vs,H1,I1,r1,q1⟩=>?_) hs rfl))
 obtain⟨l1,e,⟨xs,hq1⟩,q⟩:=q1
 subst e
 obtain⟨u,rfl,ru⟩:=Vals.one r1
 cases (show u=Value.ref l1 from ru)
 obtain⟨its1,rv1,p1,hz1⟩:=I1.list hq1
 refine call_enumerate_list p1.isList fun h' z1 z4 z6 hk=>?_
 refine wpAny_pyIter_enum (s:={s1 with heap:=h'}) z1 ?_
 refine⟨_,_,_,_,H1,rfl,I1.kept (t':=s1.toks) fun b o e=>hk b o e,kg (ze1 (a:=s1.heap.objs.size+1) (b:=s1.heap.objs.size) (zp4 _)),⟨⟨_,z1⟩,z4⟩,fun b hb=>?_,q⟩
 simp only[zg3,zg9,zj8] at hb
 have hb':s1.heap.objs.size≤b:=by
  have key:∀n b:Nat,n=s1.heap.objs.size→(b=n+1∨b=n)→n≤b:=fun n b _ h=>by omega
  exact key _ _ rfl hb
 exact I1.fpOk hb' (I1.hok.fresh hb')
def uv (n:Nat):List PyData→List PyData
 |[]=>[]
 |d::ds=>.tuple [.int n,d]::uv (n+1) ds
theorem vV :∀{ds:List PyData} {n i:Nat} {d:PyData},(uv n ds)[i]?=some d→∃e,ds[i]?=some e∧d=.tuple [.int ((n+i:Nat):Int),e]
 |[],n,i,d,h=>by simp[uv] at h
 |e::ds,n,0,d,h=>by simp[uv] at h;exact⟨e,rfl,by simp[←h]⟩
 |e::ds,n,i+1,d,h=>by
  simp only[uv,zu2] at h
  obtain⟨e',h1,h2⟩:=vV h
  exact⟨e',by simpa using h1,by rw[h2,Nat.add_assoc,Nat.add_comm 1 i]⟩
theorem uh :∀(ds:List PyData) (n:Nat),(uv n ds).length=ds.length
 |[],_=>rfl
 |_::ds,n=>by simp[uv,uh ds (n+1)]
theorem dH {Q:List PyData→Prop}(hg:Gl X "enumerate")(hm:X.mg "enumerate"=none)(h:EvD X α a fun x=>∃ds,x=.list ds∧Q (uv 0 ds))(hs:starEach [a] X.env=[(false,eval a X.env)]:=by rfl):
  EvI X α (.Tuple elts kk tp) (.Call (.Name "enumerate" p) [a] [] pos) Q:=fun F σ H R m k=>by
 refine⟨_,fk hg hm (ze zi zv hs) hs,?_⟩
 refine h F σ H _ m fun x vx H1 q1 t1 k1 r1=>?_
 obtain⟨ds,rfl,q⟩:=q1
 obtain⟨l1,xs,rfl,g1,g2⟩:=r1.lst_inv
 refine⟨l1,rfl,⟨xs,SqL.of (zg g1).2⟩,k _ _ H1 q t1 k1 fun i H3 p s=>⟨fun d hd=>?_,fun hl=>?_⟩⟩
 ·have s1:=SqL.of (K:=X.K) (zg (s _ _ g1)).2
  obtain⟨e,he,rfl⟩:=vV hd
  obtain⟨x1,hx1,av1⟩:=g2.get he
  refine⟨⟨xs,x1,s1,hx1⟩,fun v H4 y=>?_⟩
  obtain⟨T,x,rfl,hT,rfl,hx⟩:=y
  have hx:=hx _ s1
  rw[hx1] at hx;cases hx
  refine⟨zP hT,fun fr=>?_⟩
  have gs:zq (Gz F α σ H1) (sub p (upd H3 T (.tup [.int i,x1]))):=fun a o e=>by
   obtain⟨z1,z2⟩:=zg (s a o e)
   exact zT z1 (by rw[zk (zo z2 hT)];exact z2)
  refine .tup (zT (fr T _ zj hT) zj) (.cons ?_ (.cons (av1.same gs) .nil))
  rw[Nat.zero_add]
  exact .int _
 ·refine⟨xs,SqL.of (zg (s _ _ g1)).2,?_⟩
  rw[uh,←g2.length] at hl
  exact hl
end
structure Cal (P:Program)(w:World)(K:PySem.W.Frag)(mg:Str→Option Value)(base:Heap)(x:Str)(k:Nat)(φ:List A→(A→Prop)→Prop):Prop where
 ex:∃f fd ps,mg x=some (.ref f)∧PySem.W.keepIn K (.ref f)=true∧Binds K fd ps []∧zD P w K mg base CX0 k f fd ps (spA φ)
section
variable {X:Cx}{α:Ev}{e a b:Expr}{es:List Expr}{pos p:Pos}{Q:PyData→Prop}{k:Nat}{φ:List A→(A→Prop)→Prop}{x:Str}
theorem zB (C:Cal X.prog X.w X.K X.mg X.base x k φ)(hr:zY k X.A)(hg:Gl X x)(h:EvA X α (e::es) fun as=>φ as fun a=>Q a.d)
  (hdb:(x == ("__debug__":Str))=false:=by decide) (he:starEach (e::es) X.env=(false,eval e X.env)::starEach es X.env:=by rfl) (hpl:(backTo pos (starEach es X.env)).any (·.1)=false:=by rfl):EvD X α (.Call (.Name x p) (e::es) [] pos) Q:=by
 obtain⟨f,fd,ps,h1,h2,h3,h4⟩:=C.ex
 exact dF h4 hr hg h1 h2 h3 h hdb he hpl
theorem vn {Q:List PyData→Prop}(C:Cal X.prog X.w X.K X.mg X.base x k φ)(hr:zY k X.A)(hg:Gl X x)(h:EvA X α (e::es) fun as=>φ as fun a=>∃ds,a=.own ds∧Q ds)
  (hdb:(x == ("__debug__":Str))=false:=by decide) (he:starEach (e::es) X.env=(false,eval e X.env)::starEach es X.env:=by rfl) (hpl:(backTo pos (starEach es X.env)).any (·.1)=false:=by rfl):EvL X α (.Call (.Name x p) (e::es) [] pos) Q:=by
 obtain⟨f,fd,ps,h1,h2,h3,h4⟩:=C.ex
 exact eR h4 hr hg h1 h2 h3 h hdb he hpl
end
section
variable {P:Program}{w:World}{K:PySem.W.Frag}{mg:Str→Option Value}{base:Heap}
theorem vR {x qual:Str}{st:Stmt}{f:Addr}{fd:FuncData}{N ps:List Str}{k:Nat}{φ:List A→(A→Prop)→Prop}(G:Fun K x qual st f fd)(hm:mg x=some (.ref f))(hb:Binds K fd ps [])(S:zm N ps (zc st))(hlen:∀as Q,φ as Q→as.length=ps.length)
  (hbody:∀(cdv:Value) (A':Around) (outer:List Env) (s:Shared) (H:Hp) (E:XK) (as:List A) (Q:A→Prop),zY k (A'.deeper (envOfC qual (zc st) s.heap.objs.size f cdv))→φ as Q→
   SvS (uM CX0 P w K mg base N qual (zc st) f cdv A' outer s H E).nox (as.map some++List.replicate (N.length-as.length) none) (zI st) {nx:=fun _=>Q (.dat .none),rt:=Q}):Cal P w K mg base x (k+1) φ:=
 ⟨f,fd,ps,hm,G.kp,hb,fnA G S hlen hbody⟩
def xK :List A→(A→Prop)→Prop:=fun as Q=>∃n:Int,as=[.tape,.dat (.int n)]∧0<n∧n<big∧∀v,0≤v→v<n→Q (.dat (.int v))
end
section
variable {Y:Addr→Shared→Hp→List Addr→Cx}{pat:Pat}{ifs:List Expr}{elt:Expr}{α0:Ev}
theorem lH {ds acc:List PyData}{Q:List PyData→Prop}(P:Nat→List PyData→Prop)(h0:P 0 acc)
  (hs:∀i d acc,ds[i]?=some d→P i acc→∃α1,pat.bind d α0=some α1∧∀C s2 H2 fp,cY (Y C s2 H2 fp) α1 ifs fun k=>if k=true then ∀C s2 H2 fp,EvD (Y C s2 H2 fp) α1 elt fun y=>P (i+1) (acc++[y]) else P (i+1) acc)
  (hd:∀acc,P ds.length acc→Q acc):ve Y pat ifs elt α0 ds acc Q:=by
 have key:∀n i acc,n=ds.length-i→i≤ds.length→P i acc→ve Y pat ifs elt α0 (ds.drop i) acc Q:=by
  intro n
  induction n with
  |zero=>
   intro i acc hn hi p
   have e:i=ds.length:=by omega
   subst e
   rw[zp5]
   exact hd acc p
  |succ n ih=>
   intro i acc hn hi p
   have hlt:i<ds.length:=by omega
   rw[zj9 hlt]
   obtain⟨α1,e,b⟩:=hs i ds[i] acc (zh0 hlt) p
   refine⟨α1,e,fun C s2 H2 fp F σ H R m kk=>b C s2 H2 fp F σ H R m fun k H' q=>kk k H' ?_⟩
   cases k with
   |true=>
    rw[if_pos rfl] at q ⊢
    exact fun C s2 H2 fp=>(q C s2 H2 fp).imp fun y p=>ih (i+1) _ (by omega) hlt p
   |false=>
    rw[if_neg (by decide)] at q ⊢
    exact ih (i+1) _ (by omega) hlt q
 exact key _ 0 acc rfl (zi5 _) h0
end
theorem uz {ds:List PyData}{v:Int}(h0:0≤v)(h1:v<ds.length):∃d,d∈ds∧atI ds v=some d:=by
 obtain⟨j,rfl⟩:=Int.eq_ofNat_of_zero_le h0
 have hj:j<ds.length:=by omega
 exact⟨ds[j],zm2 hj,fb (zh0 hj)⟩
theorem oI (st:Stmt)(env:Env):execs [st] env=exec st env:=by
 rw[PySem.execs_cons]
 have:(fun f:Flow=>(match f with|.next=>execs [] env|f=>pure f:Sem Flow))=pure:=by
  funext f
  cases f<;>rfl
 exact (congrArg (fun g=>exec st env >>= g) this).trans (bind_pure _)
section
variable {X:Cx}{α:Ev}{e a b c:Expr}{es rest:List Expr}{pos p:Pos}{Q:PyData→Prop}{E:yC}{st:Stmt}{sts sts':List Stmt}
theorem vh (P:Ev→Prop)(h1:SvS X α [st] {E with nx:=P})(h2:∀α',P α'→SvS X α' sts E):SvS X α (st::sts) E:=fun F σ H D m r=>by
 refine yk (fun σ' H'=>∃α',M F α' σ' H'∧P α') ?_ ?_
 ·obtain⟨t,p,q⟩:=h1 F σ H {D with nx:=fun σ' H'=>∃α',M F α' σ' H'∧P α'} m ⟨fun α' σ' H' m' z=>⟨α',m',z⟩,r.rt,r.bk,r.ct⟩
  exact⟨t,fun pins s σ H D I h=>(by
   have:=p pins s σ H D I h
   rw[oI] at this
   exact this),q⟩
 ·rintro σ' H' ⟨α',m',z⟩
  exact h2 α' z F σ' H' D m' r
theorem nk {c:Prop}[Decidable c]{a b:List Stmt}(h1:c→SvS X α a E)(h2:¬c→SvS X α b E):SvS X α (if decide c=true then a else b) E:=by
 by_cases h:c
 ·rw[zk1 h];exact h1 h
 ·rw[zi7 h];exact h2 h
theorem yA {k:Bool}{a b:List Stmt}(h1:k=true→SvS X α a E)(h2:k=false→SvS X α b E):SvS X α (if k=true then a else b) E:=by
 cases k with
 |true=>exact h1 rfl
 |false=>exact h2 rfl
theorem mw {i j:Int}:Cmp rEq (.int i) (.int j) (decide (i=j)):=fun p H vx vy R rx ry h=>by
 cases rx.int_inv;cases ry.int_inv
 refine⟨rfl,?_⟩
 rw[show decide (V.int i=V.int j)=decide (i=j) by simp]
 exact h
theorem mF {i j:Str}:Cmp rEq (.str i) (.str j) (decide (i=j)):=fun p H vx vy R rx ry h=>by
 cases rx.str_inv;cases ry.str_inv
 refine⟨rfl,?_⟩
 rw[show decide (V.str i=V.str j)=decide (i=j) by simp]
 exact h
theorem cE {op:CmpOp}{r:R2}(ho:OpR X (compareOp op) r)(hm:behindInMarks op b=false)(h:EvD X α a fun x=>EvD X α b fun y=>∃k,Cmp r x y k∧Q (.bool k)):EvD X α (.Compare a [op] [b] pos) Q:=fun F σ H R m k=>by
 refine⟨_,wa ho zi zi hm,?_⟩
 refine h F σ H _ m fun x vx H1 q1 t1 k1 r1=>?_
 have m1:=m.kz k1 t1
 refine q1 F σ H1 _ m1 fun y vy H2 q2 t2 k2 r2=>?_
 obtain⟨b,hc,q⟩:=q2
 exact hc _ H2 vx vy _ (r1.same (k2.gz m1.tp)) r2 (k _ _ H2 q t2 (k1.trans k2) (.bl b))
theorem bw {Q:Bool→Prop}(h:EvD X α a fun x=>EvD X α b fun y=>∃i j,x=.int i∧y=.int j∧Q (decide (i=j))):EvT X α (.Compare a [.Eq] [b] pos) Q:=
 wA wu (zJ _) (h.imp fun x h=>h.imp fun y ⟨i,j,e1,e2,q⟩=>⟨_,by subst e1 e2;exact mw,q⟩)
theorem bN (h:EvD X α a fun x=>EvD X α b fun y=>∃i j,x=.int i∧y=.int j∧Q (.bool (decide (i=j)))):EvD X α (.Compare a [.Eq] [b] pos) Q:=
 cE wu (zJ _) (h.imp fun x h=>h.imp fun y ⟨i,j,e1,e2,q⟩=>⟨_,by subst e1 e2;exact mw,q⟩)
theorem qv {Q:Bool→Prop}(h:EvD X α a fun x=>EvD X α b fun y=>∃i j,x=.str i∧y=.str j∧Q (decide (i=j))):EvT X α (.Compare a [.Eq] [b] pos) Q:=
 wA wu (zJ _) (h.imp fun x h=>h.imp fun y ⟨i,j,e1,e2,q⟩=>⟨_,by subst e1 e2;exact mF,q⟩)
theorem mP {p q:Bool}{Q:Bool→Prop}(ha:∀Q:Bool→Prop,Q p→EvT X α a Q)(hb:p=true→∀Q:Bool→Prop,Q q→EvW X α (.BoolOp .And (b::rest) pos) Q)(k:Q (p&&q)):EvW X α (.BoolOp .And (a::b::rest) pos) Q:=by
 refine vU (ha _ ?_)
 cases p with
 |true=>rw[if_pos rfl];exact hb rfl _ (by simpa using k)
 |false=>rw[if_neg (by decide)];simpa using k
end
structure NbT (mg:Str→Option Value):Prop where
 abs:mg "abs"=none
 list:mg "list"=none
 len:mg "len"=none
 range:mg "range"=none
 min:mg "min"=none
 max:mg "max"=none
 sorted:mg "sorted"=none
 isinstance:mg "isinstance"=none
 int:mg "int"=none
 bool:mg "bool"=none
 str:mg "str"=none
 tuple:mg "tuple"=none
 all:mg "all"=none
 any:mg "any"=none
 repr:mg "repr"=none
 zip:mg "zip"=none
 enumerate:mg "enumerate"=none
 reversed:mg "reversed"=none
 sum:mg "sum"=none
theorem tN {X:Cx}{K:PySem.W.Frag}{es:List Expr}{k:Nat}{t:TGs}{n:Nat}{pos:Pos}(hK:X.K=K)(hc:X.calm=true)(h:PGs X es t)
  (hn:(assignEach es X.env).length=n:=by rfl) (hst:(assignEach es X.env).findIdx? (·.1)=none:=by rfl):PG X (.Tuple es k pos) (jG K n t):=by
 subst hK
 exact gO hc h hn hst
end L2
namespace SortA
open PySem PySem.W PyProof.Rows
abbrev g (p:Array Nat)(i:Nat):Nat:=p.getD i 0
variable {lt:Nat→Nat→Bool}
end SortA
namespace SortA
open PySem PySem.W PyProof.Rows
end SortA
namespace L2
open PySem PySem.Spec PySem.Calls PySem.W PyProof.Rows SortA
section
variable {prog:Program}{w:World}{A:Around}{E:Value→Shared→Prop}{s:Shared}
end
section
variable {X:Cx}{pins:List (Addr×Obj)}{σ:St}{H H':Hp}{s:Shared}
end
end L2
namespace Days
end Days
namespace L2
open PySem PySem.Spec PyProof.Rows Days
section
variable {X:Cx}{α:Ev}{e a b c tg:Expr}{pos p:Pos}{Q:PyData→Prop}{E:yC}{sts:List Stmt}
theorem eV {pat:Pat}(hg:PG X tg (nF X.K pat))(h:EvD X α e fun d=>∃α1,pat.bind d α=some α1∧SvS X α1 sts E)
  (hs:swapsWithSole [tg] e pos.line X.env=pure false:=by rfl) (hw:swappedStores [tg] e X.env=pure none:=by rfl) (h1:(assignEach [tg] X.env).map (·.2)=[assign tg X.env]:=by rfl):SvS X α (.Assign [tg] e pos::sts) E:=fun F σ H D m r=>by
 refine⟨_,zG (tW zi hg hs hw h1) zN,?_⟩
 refine h F σ H _ m fun d v H1 q1 t1 k1 r1=>?_
 obtain⟨α1,eb,q⟩:=q1
 exact uN eb (m.kz k1 t1) r1 fun σ' m'=>q F σ' H1 D m' r
theorem kL {op op':CmpOp}{g g':Int→Int→Bool}{i j k:Int}{Q:Bool→Prop}(ho:OpR X (compareOp op) (rI0 fun i j=>.bl (g i j)))(ho':OpR X (compareOp op') (rI0 fun i j=>.bl (g' i j)))(hm:lastMarks [op,op'] [b,c]=false)
  (ha:∀Q:PyData→Prop,Q (.int i)→EvD X α a Q) (hb:∀Q:PyData→Prop,Q (.int j)→EvD X α b Q) (hc:∀Q:PyData→Prop,Q (.int k)→EvD X α c Q) (h:Q (g i j&&g' j k)):EvT X α (.Compare a [op,op'] [b,c] pos) Q:=fun F σ H R m kk=>by
 refine⟨_,jv ho ho' zi zi zi hm,?_⟩
 refine ha (fun d=>d=.int i) rfl F σ H _ m fun x vx H1 q1 t1 k1 r1=>?_
 have m1:=m.kz k1 t1
 refine hb (fun d=>d=.int j) rfl F σ H1 _ m1 fun y vy H2 q2 t2 k2 r2=>?_
 subst q1 q2
 cases r1.int_inv;cases r2.int_inv
 have m2:=m1.kz k2 t2
 refine⟨i,j,rfl,rfl,_,rfl,?_⟩
 cases hg:g i j with
 |true=>
  refine uI ?_
  refine hc (fun d=>d=.int k) rfl F σ H2 _ m2 fun z vz H3 q3 t3 k3 r3=>?_
  subst q3
  cases r3.int_inv
  rw[hg,zn0] at h
  exact⟨j,k,rfl,rfl,_,rfl,kk _ H3 h t3 ((k1.trans k2).trans k3)⟩
 |false=>
  rw[hg,zl8] at h
  exact sr ⟨_,rfl,kk _ H2 h t2 (k1.trans k2)⟩
end
section
variable {X:Cx}{α:Ev}{tg:Expr}{pos p:Pos}{E:yC}{sts body:List Stmt}
end
def isNone :PyData→Bool
 |.none=>true
 |_=>false
theorem DV.non_iff {H:Hp}{x:V}{d:PyData}(h:DV H x d):decide (x=.non)=isNone d:=by
 cases h<;>simp[isNone]
abbrev eqS (d:PyData)(s:Str):Bool:=PyData.eqv d (.str s)
abbrev vX :PyData→Bool:=zV 0 1000000000000
def vB :PyData→Bool
 |.tuple [.int m,f]=>zV 2 14 (.int m)&&zV 1 (m-1) f
 |_=>false
def zE (w v:PyData):Bool:=
 if eqS w "price"=true then isNone v||vX v
 else if (eqS w "come"||eqS w "go")=true then isBool v
 else if (eqS w "least"||eqS w "most")=true then zV 1 14 v
 else if eqS w "deal"=true then isNone v||vB v
 else eqS w "fee"&&vX v
def yi :PyData→Bool
 |.tuple [w,a,b,v]=>yh (.tuple [a,b])&&zE w v
 |_=>false
abbrev words :List Str:=["price","come","go","least","most","deal","fee"]
theorem nq {x:Str}(h:(PyData.str x).canLay0=true):SeqAt.shaped (.str x)=true:=by
 unfold SeqAt.shaped
 rw[h]
 rfl
def lb :Sp:=fun vs H Q _=>∃x y dw dv,vs=[x,y]∧DV H x dw∧SeqAt.shaped dw=true∧DV H y dv∧Q (.bl (zE dw dv)) H
def jF :Sp:=fun vs H Q _=>∃x d,vs=[x]∧DV H x d∧SeqAt.shaped d=true∧∀H',zq H H'→Q (.bl (yi d)) H'
theorem qO {ds:List PyData}(h:SeqAt.shaped (.tuple ds)=true):∀d∈ds,SeqAt.shaped d=true:=by
 unfold SeqAt.shaped at h
 rw[zi9,zk4] at h
 obtain⟨h1,h2⟩:=h
 simp only[PyData.canLay0] at h1
 simp only[PyData.depth] at h2
 have key:∀(ds:List PyData),PyData.canLayAll0 ds=true→PyData.depthAll ds+1≤64→∀d∈ds,SeqAt.shaped d=true:=by
  intro ds
  induction ds with
  |nil=>intro _ _ d hd;simp at hd
  |cons e r ih=>
   intro a b d hd
   simp only[PyData.canLayAll0,zi9] at a
   simp only[PyData.depthAll] at b
   rcases zg3.mp hd with z|z
   ·subst z
    unfold SeqAt.shaped
    rw[a.1,zn0,zk4]
    omega
   ·exact ih a.2 (by omega) d z
 exact key ds h1 (by omega)
def wz (x y z:V):List (Str×V):=xF "worth" z (xF "last" y (xF "first" x []))
theorem ie :¬(("worth":Str)="last"):=by decide +kernel
theorem iq :¬(("worth":Str)="first"):=by decide +kernel
theorem gB :¬(("last":Str)="first"):=by decide +kernel
theorem tY (x y z:V):(wz x y z).lookup ("first":Str)=some x:=by
 unfold wz
 rw[zL,if_neg (fun e=>iq e.symm),zL,if_neg (fun e=>gB e.symm),zL,if_pos rfl]
theorem rm (x y z:V):(wz x y z).lookup ("last":Str)=some y:=by
 unfold wz
 rw[zL,if_neg (fun e=>ie e.symm),zL,if_pos rfl]
theorem nj (x y z:V):(wz x y z).lookup ("worth":Str)=some z:=by
 unfold wz
 rw[zL,if_pos rfl]
theorem gZ (x y z:V){m:Str}(h1:¬m="worth")(h2:¬m="last")(h3:¬m="first"):(wz x y z).lookup m=none:=by
 unfold wz
 rw[zL,if_neg h1,zL,if_neg h2,zL,if_neg h3]
 rfl
structure Cs where
 price:Addr
 come:Addr
 go:Addr
 least:Addr
 most:Addr
 deal:Addr
 fee:Addr
def Cs.of (c:Cs)(w:Str):Addr:=
 if w="price" then c.price else if w="come" then c.come else if w="go" then c.go else if w="least" then c.least else if w="most" then c.most else if w="deal" then c.deal else c.fee
structure xN (K:PySem.W.Frag)(C fI fT fE fW:Addr):Prop where
 cl:Cls K C
 nf:yE K C "first"
 nl:yE K C "last"
 nw:yE K C "worth"
 makes:Mk K C fI
 told:Meth K C "told" fT
 tells:Meth K C "tells" fE
 word:Meth K C "word" fW
def ao (C:Addr):Sp:=fun vs H Q _=>∃(p dx:Addr) (x y z:V),vs=[.ref p,x,y,z]∧H p=some (.ins C dx [])∧Q .non (upd H p (.ins C dx (wz x y z)))
def we (w:Str):Sp:=fun vs H Q _=>∃p,vs=[.ref p]∧Q (.str w) H
def jx (C:Addr)(w:Str):Sp:=fun vs H Q _=>∃(p dx:Addr) (x y z:V),vs=[.ref p]∧H p=some (.ins C dx (wz x y z))∧∀q,H q=none→Q (.ref q) (upd H q (.tup [.str w,x,y,z]))
def mG (C:Addr):Sp:=fun vs H Q _=>∃(p dx:Addr) (a b day:Int) (z:V),vs=[.ref p,.int day]∧H p=some (.ins C dx (wz (.int a) (.int b) z))∧Q (.bl (decide (a≤day)&&decide (day≤b))) H
def gk (cs:Cs):Sp:=fun vs H Q _=>∃(w:Str) (x y z:V),vs=[.str w,x,y,z]∧w∈words∧∀(p dx:Addr) (H':Hp),H' p=some (.ins (cs.of w) dx (wz x y z))→H p=none→zq H H'→Q (.ref p) H'
def oA (cs:Cs):Sp:=fun vs H Q _=>∃x d,vs=[x]∧DV H x d∧SeqAt.shaped d=true∧(yi d=false→∀H',zq H H'→Q .non H')∧
 (∀(r:Addr) (w:Str) (x1 x2 x3:V) (p dx:Addr) (H':Hp),x=.ref r→yi d=true→w∈words→H r=some (.tup [.str w,x1,x2,x3])→H' p=some (.ins (cs.of w) dx (wz x1 x2 x3))→H p=none→zq H H'→Q (.ref p) H')
theorem wc {d:PyData}{s:Str}(h:eqS d s=true):d=.str s:=by
 cases d with
 |str x=>
  have h':(x == s)=true:=h
  rw[eq_of_beq h']
 |_=>simp[PyData.eqv] at h
theorem pd {w v:PyData}(h:zE w v=true):∃s∈words,w=.str s:=by
 unfold zE at h
 split at h
 ·rename_i e;exact⟨"price",by simp[words],wc e⟩
 ·split at h
  ·rename_i e
   rcases (zn7 _ _).mp e with e|e
   ·exact⟨"come",by simp[words],wc e⟩
   ·exact⟨"go",by simp[words],wc e⟩
  ·split at h
   ·rename_i e
    rcases (zn7 _ _).mp e with e|e
    ·exact⟨"least",by simp[words],wc e⟩
    ·exact⟨"most",by simp[words],wc e⟩
   ·split at h
    ·rename_i e;exact⟨"deal",by simp[words],wc e⟩
    ·rw[zi9] at h;exact⟨"fee",by simp[words],wc h.1⟩
theorem xH {d:PyData}(h:yi d=true):∃(s:Str) (a b v:PyData),s∈words∧d=.tuple [.str s,a,b,v]:=by
 unfold yi at h
 split at h
 ·rename_i w a b v
  rw[zi9] at h
  obtain⟨s,hs,rfl⟩:=pd h.2
  exact⟨s,a,b,v,hs,rfl⟩
 ·cases h
section
variable {X:Cx}
end
abbrev wJ (C:Addr)(fs:List (PyData×PyData)):PyData:=.dict ((.int (C:Nat),.none)::fs)
def uH :List (PyData×PyData)→Str→Option PyData
 |[],_=>none
 |(.str g,d)::r,f=>if f=g then some d else uH r f
 |_::r,f=>uH r f
theorem AVf.get {H:Hp}:∀{fs:List (Str×V)} {ds:List (PyData×PyData)} {f:Str} {d:PyData},AVf H fs ds→uH ds f=some d→∃v,fs.lookup f=some v∧AV H v d
 |_,_,f,d,.nil,e=>by cases e
 |_,_,f,d,.cons (f:=g) h r,e=>by
  rw[zm1]
  unfold uH at e
  by_cases z:f=g
  ·subst z
   rw[if_pos rfl] at e
   cases e
   exact⟨_,by simp,h⟩
  ·rw[if_neg z] at e
   have z':(f == g)=false:=by simpa using z
   rw[z']
   exact AVf.get r e
theorem AVf.none {H:Hp}:∀{fs:List (Str×V)} {ds:List (PyData×PyData)} {f:Str},AVf H fs ds→uH ds f=Option.none→fs.lookup f=Option.none
 |_,_,f,.nil,e=>rfl
 |_,_,f,.cons (f:=g) h r,e=>by
  rw[zm1]
  unfold uH at e
  by_cases z:f=g
  ·subst z
   rw[if_pos rfl] at e
   cases e
  ·rw[if_neg z] at e
   have z':(f == g)=false:=by simpa using z
   rw[z']
   exact AVf.none r e
theorem AV.ins_inv {H:Hp}{v:V}{C:Addr}{ds:List (PyData×PyData)}(h:AV H v (wJ C ds)):∃a dx fs,v=.ref a∧H a=some (.ins C dx fs)∧AVf H fs ds:=by
 generalize e:wJ C ds=d at h
 cases h with
 |@ins a C' dx fs ds' h1 h2=>
  injection e with e
  injection e with e1 e2
  have e3:(C:Int)=(C':Int):=by
   have:=congrArg Prod.fst e1
   injection this
  have e4:C=C':=Int.ofNat.inj e3
  subst e4 e2
  exact⟨a,dx,fs,rfl,h1,h2⟩
 |_=>cases e
section
variable {X:Cx}{α:Ev}{o e:Expr}{es:List Expr}{pos apos p:Pos}{Q:PyData→Prop}{C:Addr}{f m:Str}
theorem nR (c:Cls X.K C)(na:yE X.K C f)(h:EvD X α o fun x=>∃fs d,x=wJ C fs∧uH fs f=some d∧Q d)(hb:attributeBase o f X.env (eval o X.env)=eval o X.env:=by rfl):EvD X α (.Attribute o f pos) Q:=fun F σ H R m k=>by
 refine⟨_,vY zi hb,?_⟩
 refine h F σ H _ m fun x vx H1 q1 t1 k1 r1=>?_
 obtain⟨fs,d,rfl,hf,q⟩:=q1
 obtain⟨a,dx,gs,rfl,h1,h2⟩:=r1.ins_inv
 obtain⟨v,hv,av⟩:=h2.get hf
 exact⟨a,C,dx,gs,v,rfl,(zg h1).2,c,na,hv,k d v H1 q t1 k1 av⟩
structure wy (P:Program)(w:World)(K:PySem.W.Frag)(mg:Str→Option Value)(base:Heap)(C:Addr)(m:Str)(k:Nat)(φ:List A→(A→Prop)→Prop):Prop where
 ex:∃f fd ps,Cls K C∧Meth K C m f∧Binds K fd ps []∧zD P w K mg base CX0 k f fd ps (spA φ)
theorem mQ {k:Nat}{φ:List A→(A→Prop)→Prop}{pl:Sem Bool}(M':wy X.prog X.w X.K X.mg X.base C m k φ)(hr:zY k X.A)(h:EvD X α o fun x=>∃fs,x=wJ C fs∧uH fs m=none∧EvA X α (e::es) fun as=>φ (.dat (wJ C fs)::as) fun a=>Q a.d)
  (hst:starEach (e::es) X.env=(false,eval e X.env)::starEach es X.env:=by rfl) (hpl:(backTo pos (starEach es X.env)).any (·.1)=false:=by rfl)
  (ht:eval (.Call (.Attribute o m apos) (e::es) [] pos) X.env=(do
   let ov ←eval o X.env
   standAt apos.atName
   let (f,first) ←holding [ov] (getMethod ov m pl)
   callWith pos f first (backTo pos (starEach (e::es) X.env)) (backToKw pos (keywordEach [] X.env))):=by rfl):EvD X α (.Call (.Attribute o m apos) (e::es) [] pos) Q:=fun F σ H R m' kk=>by
 obtain⟨f,fd,ps,c,hm,hb,G⟩:=M'.ex
 refine⟨_,et zi c hm G hr hb .nil zR xo hst hpl ht,?_⟩
 refine h F σ H _ m' fun x vx H1 q1 t1 k1 r1=>?_
 obtain⟨fs,rfl,hf,q⟩:=q1
 have m1:=m'.kz k1 t1
 obtain⟨a,dx,gs,rfl,h1,h2⟩:=r1.ins_inv
 refine⟨a,dx,gs,rfl,(zg h1).2,h2.none hf,?_⟩
 refine q F σ H1 _ m1 fun as vs H2 q2 t2 k2 r2=>?_
 have m2:=m1.kz k2 t2
 have cf:=wg (vs:=.ref a::vs) (as:=.dat (wJ C fs)::as) (R:=R) (E:=E0) m2 (.cons (r1.same (k2.gz m1.tp)) r2) q2 fun z v H' qa ra=>by
  obtain⟨g1,g2,g3⟩:=ra.back m2
  exact kk _ v H' qa g1 ((k1.trans k2).trans g2) g3
 exact cf
theorem tD {k:Nat}{φ:List A→(A→Prop)→Prop}{pl:Sem Bool}(M':wy X.prog X.w X.K X.mg X.base C m k φ)(hr:zY k X.A)(h:EvD X α o fun x=>∃fs,x=wJ C fs∧uH fs m=none∧φ [.dat (wJ C fs)] fun a=>Q a.d)
  (ht:eval (.Call (.Attribute o m apos) [] [] pos) X.env=(do
   let ov ←eval o X.env
   standAt apos.atName
   let (f,first) ←holding [ov] (getMethod ov m pl)
   callWith pos f first (backTo pos (starEach [] X.env)) (backToKw pos (keywordEach [] X.env))):=by rfl):EvD X α (.Call (.Attribute o m apos) [] [] pos) Q:=fun F σ H R m' kk=>by
 obtain⟨f,fd,ps,c,hm,hb,G⟩:=M'.ex
 refine⟨_,pR zi c hm G hr hb .nil zR ht,?_⟩
 refine h F σ H _ m' fun x vx H1 q1 t1 k1 r1=>?_
 obtain⟨fs,rfl,hf,q⟩:=q1
 have m1:=m'.kz k1 t1
 obtain⟨a,dx,gs,rfl,h1,h2⟩:=r1.ins_inv
 refine⟨a,dx,gs,rfl,(zg h1).2,h2.none hf,?_⟩
 have cf:=wg (vs:=[.ref a]) (as:=[.dat (wJ C fs)]) (R:=R) (E:=E0) m1 (.cons r1 .nil) q fun z v H' qa ra=>by
  obtain⟨g1,g2,g3⟩:=ra.back m1
  exact kk _ v H' qa g1 (k1.trans g2) g3
 exact cf
def fB (F:Fr)(v:V)(H':Hp)(d:PyData):Prop:=zH F H'∧Kz F F.H0 H'∧AV (sub (fun x=>¬F.O0 x∧∀xs,F.H0 x≠some (.lst xs)) H') v d
def EvN (X:Cx)(α:Ev)(e:Expr)(Q:PyData→Prop):Prop:=∀(F:Fr) (σ:St) (H:Hp) (R:VK),M F α σ H→(∀d v H',Q d→zH F H'→Kz F H H'→AV (sub (fun x=>¬Ow F α σ x∧∀xs,H x≠some (.lst xs)) H') v d→R v H')→vJ X e σ H R
theorem EvN.d (h:EvN X α e Q):EvD X α e Q:=fun F σ H R m k=>h F σ H R m fun d v H' q t z r=>k d v H' q t z (r.same (zu fun a o h e=>⟨h.1,e⟩))
def spI (C:Addr)(φ:List A→(A→Prop)→Prop):Sp:=fun vs H Qc _=>∃(F:Fr) (as:List A) (Q:A→Prop) (x dx:Addr) (vs':List V) (H1:Hp),vs=.ref x::vs'∧H1 x=none∧H1 dx=none∧dx≠x∧H=upd (upd H1 dx (.own x)) x (.ins C dx [])∧
 F.H0=H1∧zH F H1∧(∀y,F.O0 y→∃u,H1 y=some u∧wH u)∧yf F (sub (fun y=>¬F.O0 y) H1) vs' as∧φ as Q∧∀d H',Q (.dat d)→fB F (.ref x) H' d→Qc .non H'
structure eJ (P:Program)(w:World)(K:PySem.W.Frag)(mg:Str→Option Value)(base:Heap)(x:Str)(k:Nat)(dvs:List V)(φ:List A→(A→Prop)→Prop):Prop where
 ex:∃C f fd ps ds,mg x=some (.ref C)∧Mk K C f∧Binds K fd ps ds∧Vals dvs ds∧zD P w K mg base CX0 k f fd ps (spI C φ)
theorem oZ {F:Fr}{σ:St}{H:Hp}{vs:List V}{as:List A}{QA:A→Prop}{R:VK}{φ:List A→(A→Prop)→Prop}(m:M F α σ H)(rv:yf F (Gz F α σ H) vs as)(hφ:φ as QA)
  (kk:∀d v H',QA (.dat d)→fB ⟨H,Ow F α σ,F.tp⟩ v H' d→R v H') {E:XK} (x dx:Addr) (hx:H x=none) (hdx:H dx=none) (hne:dx≠x):spI C φ (.ref x::vs) (upd (upd H dx (.own x)) x (.ins C dx [])) (fun v H2=>v=.non∧R (.ref x) H2) E:=by
 refine⟨⟨H,Ow F α σ,F.tp⟩,as,QA,x,dx,vs,H,rfl,hx,hdx,hne,rfl,rfl,?_,?_,?_,hφ,fun d H' qa ra=>⟨rfl,kk d _ H' qa ra⟩⟩
 ·exact m.tp.to rfl fun _ z=>.inl z
 ·exact fun y z=>m.owEx z
 ·exact yf.to (F:=F) (F':=⟨H,Ow F α σ,F.tp⟩) (fun _ _ e=>e) rfl rv
theorem fB.back {F:Fr}{σ:St}{H H1 H':Hp}{v:V}{d:PyData}(m:M F α σ H)(k1:Kz F H H1)(h:fB ⟨H1,Ow F α σ,F.tp⟩ v H' d):zH F H'∧Kz F H1 H'∧AV (sub (fun x=>¬Ow F α σ x∧∀xs,H x≠some (.lst xs)) H') v d:=by
 obtain⟨t,kz,r⟩:=h
 refine⟨m.tp.re t rfl,kz,r.same (zu fun a o h e=>⟨⟨h.1,fun xs z=>h.2 xs (k1 _ _ z (m.tp.nt (ow0 h.1)))⟩,e⟩)⟩
theorem mn {k:Nat}{φ:List A→(A→Prop)→Prop}{x:Str}(M':eJ X.prog X.w X.K X.mg X.base x k [] φ)(hr:zY (k+1) X.A)(hg:Gl X x)(h:EvA X α (e::es) fun as=>φ as fun a=>Q a.d)
  (hdb:(x == ("__debug__":Str))=false:=by decide) (he:starEach (e::es) X.env=(false,eval e X.env)::starEach es X.env:=by rfl) (hpl:(backTo pos (starEach es X.env)).any (·.1)=false:=by rfl):EvN X α (.Call (.Name x p) (e::es) [] pos) Q:=fun F σ H R m kk=>by
 obtain⟨C,f,fd,ps,ds,hm,hk,hb,hd,G⟩:=M'.ex
 cases hd
 refine⟨_,xI hk G hr hg hm hb .nil zR xo hdb he hpl,?_⟩
 refine h F σ H _ m fun as vs H1 q1 t1 k1 r1=>?_
 have m1:=m.kz k1 t1
 intro y dx hy hdx hne
 rw[zo6]
 refine oZ m1 r1 q1 (fun d v H' qa ra=>?_) y dx hy hdx hne
 obtain⟨g1,g2,g3⟩:=ra.back m k1
 exact kk d v H' qa g1 (k1.trans g2) g3
end
structure cC (K:PySem.W.Frag)(x qual:Str)(st:Stmt)(dV:Value)(f:Addr)(fd:FuncData):Prop where
 ex:∃(oc:Value) (od:Option Addr) (kV doc pm:Value) (an:Option Addr) (cdv ct:Value) (osl:Array (Option Value)),
  fd=PySem.W.fnOf x qual (yg st) (zI st) (zc st) dV kV doc pm an cdv ct∧K.lookup f=some ⟨oc,od,.func fd,osl⟩∧PySem.W.codeIn K cdv qual=true
 kp:PySem.W.keepIn K (.ref f)=true
theorem ez {K:PySem.W.Frag}{x qual:Str}{st:Stmt}{f:Addr}{oc:Value}{od an:Option Addr}{osl:Array (Option Value)}{dV kV doc pm cdv ct:Value}(l:K.lookup f=some ⟨oc,od,.func (PySem.W.fnOf x qual (yg st) (zI st) (zc st) dV kV doc pm an cdv ct),osl⟩)
  (c:PySem.W.codeIn K cdv qual=true) (k:PySem.W.keepIn K (.ref f)=true):cC K x qual st dV f (PySem.W.fnOf x qual (yg st) (zI st) (zc st) dV kV doc pm an cdv ct):=⟨⟨oc,od,kV,doc,pm,an,cdv,ct,osl,rfl,l,c⟩,k⟩
section
variable {P:Program}{w:World}{K:PySem.W.Frag}{mg:Str→Option Value}{base:Heap}
theorem aI {qual:Str}{st:Stmt}{f C:Addr}{dV:Value}{fd:FuncData}{N:List Str}{x:Str}{k:Nat}{φ:List A→(A→Prop)→Prop}{fl:Str}{e:Expr}{p1 p2 p3:Pos}(G:cC K "__init__" qual st dV f fd)(S:zm ("self"::x::N) ["self",x] (zc st))(c:Cls K C)(na:yE K C fl)
  (hb:zI st=[.Assign [.Attribute (.Name "self" p1) fl p2] e p3]) (hlen:∀as Q,φ as Q→as.length=1)
  (hbody:∀(cdv:Value) (A':Around) (outer:List Env) (s:Shared) (H:Hp) (E:XK) (as:List A) (Q:A→Prop),zY k (A'.deeper (envOfC qual (zc st) s.heap.objs.size f cdv))→φ as Q→
   EvL (uM CX0 P w K mg base ("self"::x::N) qual (zc st) f cdv A' outer s H E).nox (none::as.map some++List.replicate N.length none) e fun ds=>noLs ds=true∧Q (.dat (wJ C [(.str fl,.list ds)])))
  (hsw:∀(cdv:Value) (A':Around) (outer:List Env) (s:Shared) (H:Hp) (E:XK),swapsWith e (some (.Attribute (.Name "self" p1) fl p2)) p3.line (uM CX0 P w K mg base ("self"::x::N) qual (zc st) f cdv A' outer s H E).nox.env=pure false)
  (hv:Vis (zc st) "self"):zD P w K mg base CX0 (k+1) f fd ["self",x] (spI C φ):=by
 obtain⟨oc,od,kV,doc,pm,an,cdv,ct,osl,rfl,lk,hcd⟩:=G.ex
 refine dW lk hcd S (fun vs H Q E h=>?_) fun A' outer s H vs Qc E hr h=>?_
 ·obtain⟨F,as,Q',y,dx,vs',H1,rfl,_,_,_,_,_,_,_,rv,hφ,_⟩:=h
  rw[zj5,rv.length,hlen as _ hφ]
  rfl
 ·obtain⟨F,as,Q',y,dx,vs',H1,rfl,hy,hdx,hne,rfl,rfl,t,o,rv,hφ,kk⟩:=h
  have hl:=rv.length
  have hl1:=hlen as _ hφ
  rw[hb]
  refine⟨_,(show PSs _ _ _ from (zx (qF (X:=(uM CX0 P w K mg base ("self"::x::N) qual (zc st) f cdv A' outer s (upd (upd F.H0 dx (.own y)) y (.ins C dx [])) E).nox) (yR (i:=0) rfl hv) zi (hsw cdv A' outer s _ E))).nox),?_⟩
  let F2:Fr:=⟨F.H0,fun z=>F.O0 z∨z=y∨z=dx,F.tp⟩
  have s1:zq F.H0 (upd (upd F.H0 dx (.own y)) y (.ins C dx [])):=fun a u q=>by
   rw[zk (zo q hy),zk (zo q hdx)];exact q
  have noy:¬F.O0 y:=fun z=>by obtain⟨u,hu,_⟩:=o y z;rw[hy] at hu;cases hu
  have nodx:¬F.O0 dx:=fun z=>by obtain⟨u,hu,_⟩:=o dx z;rw[hdx] at hu;cases hu
  have t2:zH F2 (upd (upd F.H0 dx (.own y)) y (.ins C dx [])):=(t.same s1).to rfl fun _ z=>.inl z
  -- the names of the body
  have g:∀{i:Nat} {a:A},(none::as.map some++List.replicate N.length none:Ev)[i]?=some (some a)→∃j,i=j+1∧as[j]?=some a:=fun {i a} h=>by
   cases i with
   |zero=>simp at h
   |succ j=>
    refine⟨j,rfl,?_⟩
    have h':(as.map some++List.replicate N.length none:Ev)[j]?=some (some a):=by simpa using h
    rcases zl0 j as.length with z|z
    ·rw[zl4 (by rw[zh4];exact z),zi6,zj0] at h'
     obtain⟨b,h1,h2⟩:=h'
     cases h2;exact h1
    ·rw[zo1 (by rw[zh4];exact z),zn3] at h'
     split at h'<;>cases h'
  have at':∀{vs:List V} {as:List A} {i:Nat} {a:A},yf F (sub (fun x=>¬F.O0 x) F.H0) vs as→as[i]?=some a→∃v,vs[i]?=some v∧ja F (sub (fun x=>¬F.O0 x) F.H0) v a:=by
   intro vs as i a h
   induction h generalizing i with
   |nil=>intro e;simp at e
   |cons h r ih=>
    intro e
    cases i with
    |zero=>simp at e;subst e;exact⟨_,rfl,h⟩
    |succ i=>obtain⟨v,h1,h2⟩:=ih (by simpa using e);exact⟨v,by simpa using h1,h2⟩
  have gv:∀{j:Nat} {v:V},vs'[j]?=some v→(L2.start ("self"::x::N) (.ref y::vs'))[j+1]?=some (some v):=fun {j v} h=>by
   have hj:j<vs'.length:=(zh1.mp h).1
   unfold L2.start
   rw[zl4 (by rw[zh4,zj5];omega),zi6,zu2,h];rfl
  have no:∀(i:Nat) a,(none::as.map some++List.replicate N.length none:Ev)[i]?=some (some a)→(∃d,a=.dat d)∨a=.tape:=fun i a z=>by
   obtain⟨j,_,hj⟩:=g z
   obtain⟨v,_,h⟩:=at' rv hj
   cases a with
   |dat d=>exact .inl ⟨d,rfl⟩
   |tape=>exact .inr rfl
   |_=>exact h.elim
  have gs:zq (sub (fun x=>¬F.O0 x) F.H0) (Gz F2 (none::as.map some++List.replicate N.length none) (L2.start ("self"::x::N) (.ref y::vs')) (upd (upd F.H0 dx (.own y)) y (.ins C dx []))):=fun a u q=>by
   obtain⟨z1,z2⟩:=zg q
   refine zT ?_ (s1 _ _ z2)
   rintro ((z|z|z)|⟨i,b,s,e,_,f⟩)
   ·exact z1 z
   ·rw[z,hy] at z2;cases z2
   ·rw[z,hdx] at z2;cases z2
   ·rcases no i b e with ⟨d,rfl⟩|rfl
    ·exact f.elim
    ·exact f.elim
  have m2:M F2 (none::as.map some++List.replicate N.length none) (L2.start ("self"::x::N) (.ref y::vs')) (upd (upd F.H0 dx (.own y)) y (.ins C dx [])):=by
   refine⟨by unfold L2.start;simp[hl,hl1],fun i a s e1 e2=>?_,fun i j a b s t x e1 _ _ _ f=>?_,fun i r q z=>(by rcases no i _ z with ⟨d,w⟩|w<;>cases w),t2,fun z u h _=>s1 z u h,fun z hz=>?_⟩
   ·obtain⟨j,rfl,hj⟩:=g e1
    obtain⟨v,h1,h2⟩:=at' rv hj
    rw[gv h1] at e2;cases e2
    rcases no _ a e1 with ⟨d,rfl⟩|rfl
    ·exact⟨v,rfl,AV.same gs h2⟩
    ·obtain⟨t',b,c,h3,rfl⟩:=h2
     exact⟨t',b,c,h3,rfl⟩
   ·rcases no i a e1 with ⟨d,rfl⟩|rfl
    ·exact f.elim
    ·exact f.elim
   ·rcases hz with q|q|q
    ·obtain⟨u,hu,hn⟩:=o z q
     exact⟨u,s1 _ _ hu,hn⟩
    ·exact⟨_,by rw[q];exact zj,fun _ q=>by cases q⟩
    ·exact⟨_,by rw[q,zk hne];exact zj,fun _ q=>by cases q⟩
  refine hbody cdv A' outer s _ E as Q' hr hφ F2 _ _ _ m2 fun d v H2 qd t3 k3 r3=>?_
  obtain⟨l,xs,rfl,hl0,hl2,avl⟩:=r3
  obtain⟨nol,qd⟩:=qd
  have nly:l≠y:=fun z=>by rw[z,zj] at hl0;cases hl0
  have nldx:l≠dx:=fun z=>by rw[z,zk hne,zj] at hl0;cases hl0
  have hl00:F.H0 l=none:=by rw[zk nly,zk nldx] at hl0;exact hl0
  have nol0:¬F.O0 l:=fun z=>by obtain⟨u,hu,_⟩:=o l z;rw[hl00] at hu;cases hu
  have nty:NT F2 y:=t.nt noy
  have hy2:H2 y=some (.ins C dx []):=k3 _ _ zj nty
  refine⟨.ref y,rfl,y,C,dx,[],rfl,hy2,c,na,by show 0<1000;decide,?_⟩
  refine kk _ _ qd ⟨(t.re t3 rfl).updO noy (lB hy2),fun z u h n=>?_,?_⟩
  ·rw[zk (zo h hy)]
   exact k3 _ _ (s1 _ _ h) n
  ·refine AV.ins (zT ⟨noy,fun xs z=>by rw[hy] at z;cases z⟩ zj) (.cons (.lst (zT ⟨nol0,fun xs z=>by rw[hl00] at z;cases z⟩ (by rw[zk nly];exact hl2)) ?_) .nil)
   refine avl.noL (fun a u hno z=>?_) nol
   obtain⟨z1,z2⟩:=zg z
   have na:a≠y:=fun w=>z1.1 (.inl (.inr (.inl w)))
   refine zT ⟨fun w=>z1.1 (.inl (.inl w)),fun xs w=>?_⟩ (by rw[zk na];exact z2)
   have:H2 a=some (.lst xs):=k3 _ _ (s1 _ _ w) (t.nt fun w=>z1.1 (.inl (.inl w)))
   rw[z2] at this
   cases this
   exact hno trivial
end
section
variable {X:Cx}{α:Ev}{e e':Expr}{pos:Pos}{E:yC}{sts:List Stmt}
def vG {α:Type}(l:List α)(x:Int)(y:α):List α:=l.take (if x<0 then (x+(l.length:Int)).toNat else min x.toNat l.length)++y::l.drop (if x<0 then (x+(l.length:Int)).toNat else min x.toNat l.length)
theorem pW {α:Type}(l:List α)(x:Int)(y:α):(vG l x y).length=l.length+1:=by
 unfold vG
 rw[zj2,zj5,zm8,zu9]
 omega
theorem Vals.ins {xs:List V}{us:List Value}{y:V}{u:Value}(r:Vals xs us)(ry:RelV y u)(i:Int):Vals (vG xs i y) (vG us i u):=by
 unfold vG
 rw[r.length]
 exact (r.take _).append (.cons ry (r.drop _))
theorem AVs.ins {H:Hp}{xs:List V}{ds:List PyData}{y:V}{d:PyData}(r:AVs H xs ds)(ry:AV H y d)(i:Int):AVs H (vG xs i y) (vG ds i d):=by
 unfold vG
 rw[r.length]
 exact (r.take _).append (.cons ry (r.drop _))
theorem fU (l:List Value)(k:Nat)(y:Value):(l.toArray.extract 0 k).push y++l.toArray.extract k=(l.take k++y::l.drop k).toArray:=by
 apply Array.toList_inj.mp
 simp
 exact List.take_of_length_le (by simp)
def fc :V→List V→Hp→VK→Prop:=fun x vs H Q=>∃l xs i y,x=.ref l∧vs=[.int i,y]∧H l=some (.lst xs)∧-(2 ^ 63)≤i∧i<2 ^ 63∧xs.length<sizeLine∧Q .non (upd H l (.lst (vG xs i y)))
theorem lI :MtM X "list.insert" fc:=by
 intro pins s σ H x vs v us Q I rx rv h
 obtain⟨l,xs,i,y,rfl,rfl,hH,h1,h2,hz,q⟩:=h
 cases rx
 obtain⟨u,u2,rfl,ru,ru2⟩:=rv.two
 obtain⟨t,rfl⟩:=ru
 obtain⟨z,its,n,r,hl,e⟩:=I.lstM hH
 refine zv4 F.slot_list_insert ⟨_,e,rfl⟩ F.entry_list_insert (F.args_list_insert_3 _ _ _)
  (PySem.AutoSeq1.list_insert_list_int_val_1 l its.toArray n i t u2 (by
   have:=fitsIndex_both h1 h2
   simp[this]) (by rw[zh6];omega)) ⟨e,?_⟩
 refine⟨.non,_,I.lset (its':=vG its i u2) hH e ?_ (r.ins ru2 i) (by rw[pW];omega),rfl,q⟩
 show (its.toArray.extract 0 (if i<0 then (i+(its.toArray.size:Int)).toNat else min i.toNat its.toArray.size)).push u2++its.toArray.extract (if i<0 then (i+(its.toArray.size:Int)).toNat else min i.toNat its.toArray.size)=(vG its i u2).toArray
 rw[fU,zh6]
 rfl
theorem lR (i:Nat){x:Str}{ds:List PyData}{p1 p2 p3:Pos}(hi:α[i]?=some (some (.own ds)))(h:EvD X α e fun k=>EvD X α e' fun d=>∃j,k=.int j∧-(2 ^ 63)≤j∧j<2 ^ 63∧ds.length<1000∧SvS X (α.set i (some (.own (vG ds j d)))) sts E)
  (hN:X.N[i]?=some x:=by rfl) (hv:Vis X.env.scope x:=by first|exact Or.inl rfl|exact Or.inr (Or.inl rfl)|exact Or.inr (Or.inr rfl)) (hd:(x == ("__debug__":Str))=false:=by decide) (hcd:(x == ("__classdict__":Str))=false:=by decide)
  (hbase:attributeBase (.Name x p1) "insert" X.env (eval (.Name x p1) X.env)=eval (.Name x p1) X.env:=by rfl) (hs:starEach [e,e'] X.env=(false,eval e X.env)::starEach [e'] X.env:=by rfl) (hs2:starEach [e'] X.env=(false,eval e' X.env)::starEach [] X.env:=by rfl)
  (hpl:((((backTo p3 (starEach [e,e'] X.env)).all fun x=>!x.fst)&&(backToKw p3 (keywordEach [] X.env)).all fun x=>x.fst.isSome)&&decide (([e,e'].length+([]:List Keyword).length+if ([]:List Keyword).isEmpty=true then 0 else 1)<30))=true:=by rfl)
  (hline:(p2.endLine == p3.line)=true:=by rfl) (hpl2:(backTo p3 (starEach [e'] X.env)).any (·.1)=false:=by rfl) (hsw:swapsWith (.Call (.Attribute (.Name x p1) "insert" p2) [e,e'] [] p3) none pos.line X.env=pure false:=by rfl):SvS X α (.Expr (.Call (.Attribute (.Name x p1) "insert" p2) [e,e'] [] p3) pos::sts) E:=fun F σ H D m r=>by
 obtain⟨l,xs,h1,h2,h3,h4,h5⟩:=m.own i ds hi
 refine⟨_,zG (uO (ma zr2 PySem.F.slot_list_insert PySem.F.type_list_insert lI (yR hN hv hd hcd) (ze zi (ze zi zv hs2) hs) hbase hpl hline hs hpl2) hsw) zN,?_⟩
 refine⟨.ref l,h1,.inl ⟨rfl,_,SqL.of h2⟩,?_⟩
 refine h F σ H _ m fun k vk H1 q1 t1 k1 r1=>?_
 have m1:=m.kz k1 t1
 refine q1 F σ H1 _ m1 fun d v H2 q2 t2 k2 r2=>?_
 have m2:=m1.kz k2 t2
 obtain⟨j,rfl,b1,b2,hl,q⟩:=q2
 cases r1.int_inv
 refine⟨l,xs,j,v,rfl,rfl,k2 _ _ (k1 _ _ h2 (m.tp.nt h4)) (m.tp.nt h4),b1,b2,by rw[h3.length];exact yB (zm3 hl),?_⟩
 exact q F σ _ D (m2.wrOwn hi h1 ((((h3.same (k1.gz m.tp)).same (k2.gz m1.tp))).ins r2 j)) r
theorem AVs.eraseIdx {H:Hp}:∀{xs:List V} {ds:List PyData} (i:Nat),AVs H xs ds→AVs H (xs.eraseIdx i) (ds.eraseIdx i)
 |_,_,_,.nil=>.nil
 |_,_,0,.cons _ r=>r
 |_,_,i+1,.cons a r=>.cons a (AVs.eraseIdx i r)
theorem iQ (i:Nat){x:Str}{ds:List PyData}{p1 p2 p3:Pos}(hi:α[i]?=some (some (.own ds)))(h:EvD X α e fun k=>∃j n,k=.int j∧-(2 ^ 63)≤j∧j<2 ^ 63∧seqIndex? j ds.length=some n∧n<ds.length∧SvS X (α.set i (some (.own (ds.eraseIdx n)))) sts E)
  (hN:X.N[i]?=some x:=by rfl) (hv:Vis X.env.scope x:=by first|exact Or.inl rfl|exact Or.inr (Or.inl rfl)|exact Or.inr (Or.inr rfl)) (hd:(x == ("__debug__":Str))=false:=by decide) (hcd:(x == ("__classdict__":Str))=false:=by decide)
  (hbase:attributeBase (.Name x p1) "pop" X.env (eval (.Name x p1) X.env)=eval (.Name x p1) X.env:=by rfl) (hs:starEach [e] X.env=(false,eval e X.env)::starEach [] X.env:=by rfl)
  (hpl:((((backTo p3 (starEach [e] X.env)).all fun x=>!x.fst)&&(backToKw p3 (keywordEach [] X.env)).all fun x=>x.fst.isSome)&&decide (([e].length+([]:List Keyword).length+if ([]:List Keyword).isEmpty=true then 0 else 1)<30))=true:=by rfl)
  (hline:(p2.endLine == p3.line)=true:=by rfl) (hsw:swapsWith (.Call (.Attribute (.Name x p1) "pop" p2) [e] [] p3) none pos.line X.env=pure false:=by rfl):SvS X α (.Expr (.Call (.Attribute (.Name x p1) "pop" p2) [e] [] p3) pos::sts) E:=fun F σ H D m r=>by
 obtain⟨l,xs,h1,h2,h3,h4,h5⟩:=m.own i ds hi
 refine⟨_,zG (uO (ma zr2 PySem.F.slot_list_pop PySem.F.type_list_pop jl (yR hN hv hd hcd) (ze zi zv hs) hbase hpl hline hs) hsw) zN,?_⟩
 refine⟨.ref l,h1,.inl ⟨rfl,_,SqL.of h2⟩,?_⟩
 refine h F σ H _ m fun k vk H1 q1 t1 k1 r1=>?_
 have m1:=m.kz k1 t1
 obtain⟨j,n,rfl,b1,b2,hn,hlt,q⟩:=q1
 cases r1.int_inv
 have hlt':n<xs.length:=by rw[h3.length];exact hlt
 refine⟨l,xs,j,n,xs[n],rfl,rfl,k1 _ _ h2 (m.tp.nt h4),b1,b2,by rw[h3.length];exact hn,zh0 hlt',?_⟩
 exact q F σ _ D (m1.wrOwn hi h1 ((h3.same (k1.gz m.tp)).eraseIdx n)) r
end
def Itv (K:PySem.W.Frag)(a:Addr)(n:Nat):It:=
 ⟨fun i H=>∃xs x,SqL K H a xs∧xs.length=n∧i<n∧xs[n-1-i]?=some x,fun i H x H'=>H'=H∧∀xs,SqL K H a xs→xs[n-1-i]?=some x,fun i H=>n≤i⟩
theorem gj {P:Program}{w:World}{K:PySem.W.Frag}{tg:Expr}(a it:Addr)(n:Nat):Turn P w K tg (Itv K a n) [it] it (fun i h=>i≤n∧h.IsRevIter it a ((n:Int)-1-(i:Int))) where
 mem:=by simp
 obj:=fun i h st b hb=>by
  have e:b=it:=by simpa using hb
  subst e
  obtain⟨_,o,e,c,d⟩:=st
  exact⟨o,e,fun v z=>by rw[d] at z;cases z⟩
 keep:=fun i h h' st k=>⟨st.1,st.2.at fun o e=>k it (by simp) o e⟩
 item:=by
  intro X hP hw hK hc i pins s σ H E I hf st hg
  subst hP hw hK
  obtain⟨xs,x,hq,hl,hi,hx⟩:=hg
  obtain⟨its,rv,p,hz⟩:=I.list hq
  obtain⟨u,hu,ru⟩:=rv.get hx
  obtain⟨f0,f1,f2,f3,f4,f5⟩:=hf it (by simp)
  have e1:((n:Int)-1-(i:Int))=((n-1-i:Nat):Int):=by omega
  have st':=st.2
  rw[e1] at st'
  refine wpAny_pyNext_rev_item st' p.isList (x:=u) (by simpa using hu) fun h' st2 sb=>?_
  have I1:Inv X pins σ H {s with heap:=h'}:=I.turned (t':=s.toks) (fun b o hb e=>(sb.2 b hb).trans e) f0 f1 f3 f4 f5
  obtain⟨o,e,c,d⟩:=id st2
  have e2:(((n-1-i:Nat):Int)-1)=(n:Int)-1-((i+1:Nat):Int):=by omega
  rw[e2] at st2
  exact⟨u,rfl,pZ (s:={s with heap:=h'}) e c d (by decide) ⟨x,H,I1,ru,⟨rfl,fun ys hy=>by rw[I.list_inj hy hq];exact hx⟩,⟨hi,st2⟩,fun b hb=>(hf b hb).1⟩⟩
 done:=by
  intro X hP hw hK hc i pins s σ H E I hf st hg
  subst hP hw hK
  have hi:i=n:=Nat.le_antisymm st.1 hg
  obtain⟨f0,f1,f2,f3,f4,f5⟩:=hf it (by simp)
  have st':=st.2
  rw[show ((n:Int)-1-(i:Int))=-1 by omega] at st'
  exact wpAny_pyNext_rev_end (I.ok.hd hc) st' fun h' eb=>⟨rfl,I.turned (t':=s.toks) (fun b o hb e=>eb b o hb e) f0 f1 f3 f4 f5⟩
 self:=fun A i s Q E st h=>wpAny_pyIter_revIter st.2 h
section
variable {X:Cx}{α:Ev}{tg:Expr}{p pos:Pos}{a:Expr}
def ze3 (K:PySem.W.Frag)(ta:TA):TI:=fun σ H R=>ta σ H fun vs H1=>∃l xs,vs=[.ref l]∧SqL K H1 l xs∧R (Itv K l xs.length) H1
theorem bE {ta:TA}(hg:Gl X "reversed")(hm:X.mg "reversed"=none)(ha:PA X [a] ta)(hs:starEach [a] X.env=[(false,eval a X.env)]:=by rfl):PI X tg (.Call (.Name "reversed" p) [a] [] pos) (ze3 X.K ta):=by
 intro pins s σ H R I h
 refine Call_ (vZ I hg hm boot_reversed (zp9 (thn (ha pos pins s σ H _ I h) fun us s1 ⟨vs,H1,I1,r1,q1⟩=>?_) hs rfl))
 obtain⟨l1,xs,e,hq1,q⟩:=q1
 subst e
 obtain⟨u,rfl,ru⟩:=Vals.one r1
 cases (show u=Value.ref l1 from ru)
 obtain⟨its1,rv1,p1,hz1⟩:=I1.list hq1
 have hlen:=rv1.length
 refine call_reversed_list p1.isList ?_
 have it0:({s1 with heap:=s1.heap.push (revObj l1 ((its1.toArray.size:Int)-1))}:Shared).heap.IsRevIter s1.heap.objs.size l1 ((xs.length:Int)-1-((0:Nat):Int)):=by
  refine⟨_,zh9 _ rfl,rfl,?_⟩
  show Data.fields _=_
  rw[zh6,hlen]
  simp
 refine wpAny_pyIter_revIter it0 ?_
 refine⟨_,_,_,_,H1,rfl,I1.kept (t':=s1.toks) fun b o e=>zg8 _ e,gj l1 _ xs.length,⟨zi5 _,it0⟩,fun b hb=>?_,q⟩
 have e:b=s1.heap.objs.size:=by simpa using hb
 subst e
 exact I1.fpOk (zg5 _) (I1.hok.fresh (zg5 _))
theorem cJ {Q:List PyData→Prop}(hg:Gl X "reversed")(hm:X.mg "reversed"=none)(h:EvD X α a fun x=>∃ds,x=.list ds∧Q ds.reverse)(hs:starEach [a] X.env=[(false,eval a X.env)]:=by rfl):
  EvI X α tg (.Call (.Name "reversed" p) [a] [] pos) Q:=fun F σ H R m k=>by
 refine⟨_,bE hg hm (ze zi zv hs) hs,?_⟩
 refine h F σ H _ m fun x vx H1 q1 t1 k1 r1=>?_
 obtain⟨ds,rfl,q⟩:=q1
 obtain⟨l1,xs,rfl,g1,g2⟩:=r1.lst_inv
 refine⟨l1,xs,rfl,SqL.of (zg g1).2,k _ _ H1 q t1 k1 fun i H3 p s=>⟨fun d hd=>?_,fun hl=>?_⟩⟩
 ·have s1:=SqL.of (K:=X.K) (zg (s _ _ g1)).2
  have hi:i<ds.length:=by
   have:=(zh1.mp hd).1
   rwa [zt1] at this
  rw[List.getElem?_reverse hi] at hd
  obtain⟨x1,hx1,av1⟩:=g2.get hd
  rw[←g2.length] at hx1
  refine⟨⟨xs,x1,s1,rfl,by rw[g2.length];exact hi,hx1⟩,fun v H4 y=>?_⟩
  obtain⟨rfl,hy⟩:=y
  have:=hy _ s1
  rw[hx1] at this;cases this
  exact⟨zq.refl _,fun _=>av1.same s⟩
 ·rw[zt1,←g2.length] at hl
  exact hl
end
def EnS (w:World):List DictEntry→List (Str×V)→Prop:=Paired fun e p=>e.hash=hashStr w p.1∧(∃t,e.key=.str p.1 t)∧RelV p.2 e.val
def mZ (K:PySem.W.Frag)(w:World)(d:Addr)(tb:List (Str×V)):Prop:=
 ∃es n,K.lookup d=some ⟨.type "dict",none,.dict es n,#[]⟩∧EnS w es.toList tb∧(tb.map (·.1)).Nodup
theorem vS {P:Program}{w:World}:∀{es:List DictEntry} {tb:List (Str×V)},EnS w es tb→Pairs (PySem.strKind P w) es (List.zipWith (fun e (p:Str×V)=>(p.1,e.val)) es tb)
 |_,_,.nil=>.nil
 |e::_,p::_,.cons ⟨_,⟨t,ek⟩,_⟩ r=>.cons (by rw[ek];simp[PySem.strKind,Value.isStrOf]) rfl (vS r)
theorem uU {w:World}:∀{es:List DictEntry} {tb:List (Str×V)},EnS w es tb→(List.zipWith (fun e (p:Str×V)=>(p.1,e.val)) es tb).map (·.1)=tb.map (·.1)
 |_,_,.nil=>rfl
 |_,_,.cons _ r=>by simp only[List.zipWith_cons_cons,zl3,uU r]
theorem tZ {P:Program}{w:World}:∀{es:List DictEntry} {tb:List (Str×V)},EnS w es tb→∀e∈es,∃k,(PySem.strKind P w).is k e.key=true∧e.hash=(PySem.strKind P w).hash k
 |_,_,.nil,e,he=>by simp at he
 |_,_,.cons (b:=p) ⟨h1,⟨t,ek⟩,_⟩ r,e,he=>by
  rcases zg3.mp he with rfl|he
  ·exact⟨p.1,by rw[ek];simp[PySem.strKind,Value.isStrOf],h1⟩
  ·exact tZ r e he
theorem mh {w:World}{x:Str}{v:V}:∀{es:List DictEntry} {tb:List (Str×V)},EnS w es tb→tb.lookup x=some v→∃u,valueAt (List.zipWith (fun e (p:Str×V)=>(p.1,e.val)) es tb) x=some u∧RelV v u
 |_,_,.nil,e=>by simp at e
 |e::es,p::tb,.cons ⟨_,_,rv⟩ r,h=>by
  obtain⟨y,z⟩:=p
  by_cases q:x=y
  ·subst q
   simp only[List.lookup_cons_self,Option.some.injEq] at h
   subst h
   exact⟨e.val,by simp[valueAt],rv⟩
  ·rw[zm1,zp3.mpr q] at h
   obtain⟨u,h1,h2⟩:=mh r h
   refine⟨u,?_,h2⟩
   rw[←h1]
   simp[valueAt,zl2,zs9 q]
section
variable {X:Cx}{α:Ev}{p pos:Pos}{a:Expr}{g:Str}{Q:PyData→Prop}
def cX (i:Expr):Prop:=∀ov iv,subscripted i false ov iv=operate [ov,iv] (getItem ov iv)
theorem zd0 {prog:Program}{w:World}{A:Around}{E:Value→Shared→Prop}{s:Shared}{env:Env}{value slice:Expr}{pos:Pos}{T id:String}{Q:Value→Shared→Prop}
  (hl:typeLookup (.type T) "__getitem__"=pure (some (.builtin id))) (hs:cX slice)
  (h:wpAny (model prog w) A (eval value env) (fun o s₁=>wpAny (model prog w) A (eval slice env) (fun i s₂=>s₂.TypeIs o T∧wpAny (model prog w) A (getItem o i) Q E s₂) E s₁) E s):
  wpAny (model prog w) A (eval (.Subscript value slice pos) env) Q E s:=by
 refine Subscript_ (thn h fun o s₁ h₁=>thn h₁ fun i s₂ h₂=>?_)
 obtain⟨hT,h₂⟩:=h₂
 unfold subscriptTail
 refine zg0 ?_
 rw[getitemInPython_of_ne hT.not_modules]
 refine zg0 (wpAny_specialOf hT hl ?_)
 have fin:wpAny (model prog w) A (subscripted slice false o i) (fun r s₃=>wpAny (model prog w) A (letTemporaryGo value o r >>= fun _=>pure r) Q E s₃) E s₂:=by
  rw[hs o i]
  exact wpAny_operating (thn h₂ fun r s₃ h₃=>zg0 (wpAny_letTemporaryGo (zg4 h₃)))
 first
  |exact zg4 (zg0 fin)
  |exact zg0 (zg4 (zg0 fin))
  |exact zg0 fin
theorem iN {d:Addr}{tb:List (Str×V)}{ty:TE}(hg:Gl X g)(hm:X.mg g=some (.ref d))(hd:mZ X.K X.w d tb)(hi:PE X a ty)(hs:cX a)(hb:(g == ("__debug__":Str))=false:=by decide):
  PE X (.Subscript (.Name g p) a pos) (fun σ H Q=>ty σ H fun y H1=>∃x v,y=.str x∧tb.lookup x=some v∧Q v H1):=by
 intro pins s σ H Q I h
 refine zd0 PySem.F.slot_dict_getitem.lookup hs (vK I hg hm (thn (hi pins s σ H _ I h) fun iv s2 ⟨y,H2,I2,ry,x,v,ey,ex,q2⟩=>?_) hb)
 subst ey
 obtain⟨t,rfl⟩:=ry
 obtain⟨es,n,hl,he,hn⟩:=hd
 have dd:s2.heap.DictOf (PySem.strKind X.prog X.w) d (List.zipWith (fun e (p:Str×V)=>(p.1,e.val)) es.toList tb):=
  ⟨_,es,n,I2.kIn _ _ hl,⟨rfl,rfl,rfl⟩,rfl,fun e he'=>tZ he e (by simpa using he'),vS he,by rw[uU he];exact hn⟩
 obtain⟨u,h1,h2⟩:=mh he ex
 exact⟨dd.typeIs,wpAny_getItem_of (show (PySem.strKind X.prog X.w).is x (.str x t)=true by simp[PySem.strKind,Value.isStrOf]) dd.mapOf h1 ⟨v,H2,I2.tok _,h2,q2⟩⟩
def scV :PyData→Option V
 |.none=>some .non
 |.bool b=>some (.bl b)
 |.int i=>some (.int i)
 |.str x=>some (.str x)
 |_=>Option.none
theorem jo {H:Hp}{d:PyData}{v:V}(h:scV d=some v):AV H v d:=by
 cases d<;>simp[scV] at h<;>subst h<;>constructor
theorem iV {d:Addr}{tb:List (Str×V)}(hg:Gl X g)(hm:X.mg g=some (.ref d))(hd:mZ X.K X.w d tb)(h:EvD X α a fun y=>∃x d v,y=.str x∧tb.lookup x=some v∧scV d=some v∧Q d)(hs:cX a:=by exact fun _ _=>rfl)
  (hb:(g == ("__debug__":Str))=false:=by decide):EvD X α (.Subscript (.Name g p) a pos) Q:=fun F σ H R m k=>by
 refine⟨_,iN hg hm hd zi hs hb,?_⟩
 refine h F σ H _ m fun y vy H1 q1 t1 k1 r1=>?_
 obtain⟨x,d',v,rfl,h1,h2,q⟩:=q1
 cases r1.str_inv
 exact⟨x,v,rfl,h1,k _ _ H1 q t1 k1 (jo h2)⟩
end
section
variable {X:Cx}{α:Ev}{p pos:Pos}{a b:Expr}{g:Str}{Q:PyData→Prop}
def ur :List (PyData×PyData)→Str→Option PyData
 |[],_=>none
 |(.str y,d)::r,x=>if y=x then some d else ur r x
 |_::r,x=>ur r x
theorem fq (h0:Heap){v:V}{d:PyData}{u:Value}(h:scV d=some v)(f:PyProof.V.Flat u d):RelV v u:=by
 have r:=f h0
 cases d with
 |none=>cases h;cases r;rfl
 |bool b=>cases h;cases r;rfl
 |int i=>cases h;cases r;exact⟨_,rfl⟩
 |str x=>cases h;cases r;exact⟨_,rfl⟩
 |_=>cases h
def uE :PyData→Bool
 |.none=>true
 |.bool _=>true
 |.int _=>true
 |.str _=>true
 |_=>false
theorem qg {H:Hp}{v:V}{d:PyData}(h:AV H v d)(f:uE d=true):vf v=true∧scV d=some v:=by
 cases h<;>first|exact⟨rfl,rfl⟩|cases f
theorem tj {H:Hp}:∀{xs:List V} {ds:List PyData},AVs H xs ds→ds.all uE=true→xs.all vf=true∧ds.map scV=xs.map some
 |_,_,.nil,_=>⟨rfl,rfl⟩
 |_,_,.cons h r,f=>by
  rw[zw6,zi9] at f
  obtain⟨h1,h2⟩:=qg h f.1
  obtain⟨h3,h4⟩:=tj r f.2
  exact⟨by rw[zw6,h1,h3];rfl,by rw[zl3,zl3,h2,h4]⟩
def inD (x:PyData)(ds:List PyData):Bool:=ds.any fun y=>match scV y,scV x with
 |some u,some v=>eqV u v
 |_,_=>false
theorem rZ {v:V}{x:PyData}(hx:scV x=some v):∀{xs:List V} {ds:List PyData},ds.map scV=xs.map some→inV v xs=inD x ds
 |[],[],_=>rfl
 |[],_::_,e=>by cases e
 |_::_,[],e=>by cases e
 |u::xs,d::ds,e=>by
  rw[zl3,zl3] at e
  injection e with e1 e2
  have ih:=rZ hx e2
  unfold inV inD at ih ⊢
  rw[zw7,zw7,ih,e1,hx]
theorem bt {neg:Bool}{x:PyData}{ds:List PyData}(fx:uE x=true)(fs:ds.all uE=true):Cmp (rIn X.K neg) x (.list ds) (if neg then !inD x ds else inD x ds):=fun p H vx vy R rx ry h=>by
 obtain⟨ad,xs,rfl,g1,g2⟩:=ry.lst_inv
 obtain⟨f1,s1⟩:=qg rx fx
 obtain⟨f2,s2⟩:=tj g2 fs
 refine⟨ad,xs,rfl,.inl (SqL.of (zg g1).2),f1,f2,?_⟩
 rw[rZ s1 s2]
 exact h
theorem fo {neg:Bool}{x:PyData}{ds:List PyData}(fx:uE x=true)(fs:ds.all uE=true):Cmp (rIn X.K neg) x (.tuple ds) (if neg then !inD x ds else inD x ds):=fun p H vx vy R rx ry h=>by
 obtain⟨ad,xs,rfl,g1,g2⟩:=ry.tup_inv
 obtain⟨f1,s1⟩:=qg rx fx
 obtain⟨f2,s2⟩:=tj g2 fs
 refine⟨ad,xs,rfl,.inr (SqT.of (zg g1).2),f1,f2,?_⟩
 rw[rZ s1 s2]
 exact h
theorem cp {Q:Bool→Prop}(h:EvD X α a fun x=>EvD X α b fun y=>∃ds,(y=.list ds∨y=.tuple ds)∧uE x=true∧ds.all uE=true∧Q (inD x ds))(hm:behindInMarks .In b=false:=by rfl):EvT X α (.Compare a [.In] [b] pos) Q:=
 wA kZ hm (h.imp fun x h=>h.imp fun y ⟨ds,e,f1,f2,q⟩=>⟨inD x ds,by rcases e with rfl|rfl;exact bt (neg:=false) f1 f2;exact fo (neg:=false) f1 f2,q⟩)
end
section
variable {X:Cx}{α:Ev}{p pos:Pos}{a b:Expr}{Q:PyData→Prop}
end
section
variable {X:Cx}{α:Ev}{a e:Expr}{pos p2 p3 p4:Pos}{n1:Nat}{te:TE}
theorem eM {b c:Expr}{i j k:Int}{Q:Bool→Prop}(hm:lastMarks [.LtE,.LtE] [b,c]=false)(ha:∀Q:PyData→Prop,Q (.int i)→EvD X α a Q)(hb:∀Q:PyData→Prop,Q (.int j)→EvD X α b Q)(hc:∀Q:PyData→Prop,Q (.int k)→EvD X α c Q)(h:Q (decide (i≤j)&&decide (j≤k))):
  EvT X α (.Compare a [.LtE,.LtE] [b,c] pos) Q:=kL tG tG hm ha hb hc h
end
section
variable {X:Cx}{pins:List (Addr×Obj)}{σ:St}{H:Hp}{s:Shared}
end
section
variable {X:Cx}{α:Ev}{p q pos:Pos}{a b:Expr}
theorem pN {G:Hp}:∀ns:List Int,AVs G (ns.map V.int) (ns.map .int)
 |[]=>.nil
 |n::ns=>.cons (.int n) (pN ns)
end
section
variable {X:Cx}{α:Ev}{p pos:Pos}{a b:Expr}{Q:PyData→Prop}
end
open PySem.W SortA
section
variable {P:Program}{w:World}{K:PySem.W.Frag}{mg:Str→Option Value}{base:Heap}
end
section
variable {X:Cx}{α:Ev}{Q:PyData→Prop}{a b:Expr}{pos:Pos}
end
open PySem (IsZip)
section
variable {prog:Program}{w:World}{A:Around}{E:Value→Shared→Prop}{s:Shared}
abbrev z3 (n:Nat):List Addr:=[(n:Nat),(n+1:Nat),(n+2:Nat),(n+3:Nat),(n+4:Nat),(n+5:Nat)]
end
section
variable {X:Cx}{pins:List (Addr×Obj)}{σ:St}{H:Hp}{s:Shared}
end
section
variable {prog:Program}{w:World}{A:Around}{E:Value→Shared→Prop}{s:Shared}
end
section
variable {X:Cx}{pins:List (Addr×Obj)}{σ:St}{H:Hp}{s:Shared}
end
section
variable {X:Cx}{pins:List (Addr×Obj)}{σ:St}{H:Hp}{s:Shared}
variable {a b c:Expr}{p p0 pos pos2:Pos}
end
section
variable {X:Cx}{α:Ev}{a b c:Expr}{p p0 pos pos2:Pos}
end
section
variable {κ:Type}[DecidableEq κ]
def sI (kvs:List (κ×V))(k:κ):Option V:=(kvs.find? fun kv=>decide (kv.1=k)).map (·.2)
theorem tJ {p:κ×V}{r:List (κ×V)}{k:κ}(e:p.1=k):sI (p::r) k=some p.2:=by simp[sI,zl2,e]
theorem tK {p:κ×V}{r:List (κ×V)}{k:κ}(e:¬p.1=k):sI (p::r) k=sI r k:=by simp[sI,zl2,e]
theorem KV.val {kvs:List (κ×V)}{vs:List (κ×Value)}(r:KV kvs vs)(k:κ):vI (sI kvs k) (valueAt vs k):=by
 unfold KV at r
 induction r with
 |nil=>exact True.intro
 |@cons p q ps qs h t ih=>
  obtain⟨h1,h2⟩:=h
  by_cases e:p.1=k
  ·have e':q.1=k:=h1.symm.trans e
   have b:valueAt (q::qs) k=some q.2:=by simp[valueAt,zl2,e']
   rw[tJ e,b];exact h2
  ·have e':¬q.1=k:=fun z=>e (h1.trans z)
   have b:valueAt (q::qs) k=valueAt qs k:=by simp[valueAt,zl2,e']
   rw[tK e,b];exact ih
end
theorem dO {P:Program}{w:World}{k:Key}{u:Value}(r:RelV (kV k) u):(yJ P w).is k u=true:=by
 cases k with
 |inl i=>obtain⟨t,e⟩:=(show ∃t,u=Value.int i t from r);subst e;exact pf P w i t
 |inr x=>obtain⟨t,e⟩:=(show ∃t,u=Value.str x t from r);subst e;exact pB P w x t
theorem rC {P:Program}{w:World}:∀{ks:List Key} {us:List Value},Vals (ks.map kV) us→ItemsAre (yJ P w) ks us
 |[],_,r=>by rw[List.map_nil] at r;cases r;exact .nil
 |k::ks,_,r=>by
  rw[zl3] at r
  cases r with
  |cons h t=>exact .cons (dO h) (rC t)
abbrev KT (H:Hp):List (List Key×V)→List (List Key×Addr×Value)→Prop:=Paired fun p q=>p.1=q.1∧H q.2.1=some (.tup (p.1.map kV))∧RelV p.2 q.2.2
theorem KT.val {H:Hp}{kvs:List (List Key×V)}{xs:List (List Key×Addr×Value)}(r:KT H kvs xs)(k:List Key):vI (sI kvs k) ((atKey xs k).map (·.2)):=by
 induction r with
 |nil=>exact True.intro
 |@cons p q ps qs h t ih=>
  obtain⟨h1,_,h2⟩:=h
  by_cases e:p.1=k
  ·have e':q.1=k:=h1.symm.trans e
   have b:atKey (q::qs) k=some q.2:=by simp[atKey,zl2,e']
   rw[tJ e,b];exact h2
  ·have e':¬q.1=k:=fun z=>e (h1.trans z)
   have b:atKey (q::qs) k=atKey qs k:=by simp[atKey,zl2,e']
   rw[tK e,b];exact ih
section
variable {P:Program}{w:World}{H:Hp}{h:Heap}{a:Addr}
theorem dX {u:HO}(ok:HOk P w H h)(e:Rd H a u):yq P w H h a u:=e.ok ok
theorem cg {kvs:List (Key×V)}(ok:HOk P w H h)(e:Rd H a (.dK kvs)):kvs.length≤sizeLine∧(a == sysModules)=false∧∃vs,KV kvs vs∧h.DictOf (yJ P w) a vs:=
 show yq P w H h a (.dK kvs) from dX ok e
theorem jY {ks:List Key}(ok:HOk P w H h)(e:H a=some (.tup (ks.map kV))):(tupleKind (yJ P w)).is h ks a:=by
 obtain⟨_,its,r,o,h1,h2,n,h3⟩:=(show yq P w H h a (.tup (ks.map kV)) from ok a _ e)
 exact⟨o,its.toArray,n,h1,h2,h3,by simpa using rC r⟩
theorem dM {kvs:List (List Key×V)}(ok:HOk P w H h)(e:Rd H a (.dT kvs)):kvs.length≤sizeLine∧(a == sysModules)=false∧
  ∃xs,KT H kvs xs∧h.DictOfH (tupleKind (yJ P w)) a xs:=by
 obtain⟨z,y,xs,r,o,es,ep,h1,h2,h3,h4,h5⟩:=(show yq P w H h a (.dT kvs) from dX ok e)
 refine⟨z,y,xs,r,o,es,ep,h1,h2,h3,h4,fun x hx=>?_,h5⟩
 have all:∀{l:List (List Key×V)} {m:List (List Key×Addr×Value)},KT H l m→∀x∈m,(tupleKind (yJ P w)).is h x.1 x.2.1:=by
  intro l m q
  induction q with
  |nil=>intro x hx;exact nomatch hx
  |@cons p q ps qs hq t ih=>
   intro x hx
   rcases zg3.mp hx with e|hx
   ·subst e
    exact jY ok (by rw[←hq.1];exact hq.2.1)
   ·exact ih x hx
 exact all r x hx
end
def bL (H:Hp)(a:Addr)(y:V)(r:Option V):Prop:=
 (∃kvs k,Rd H a (.dK kvs)∧y=kV k∧r=sI kvs k)∨∃kvs k b,Rd H a (.dT kvs)∧y=.ref b∧H b=some (.tup (k.map kV))∧r=sI kvs k
section
variable {X:Cx}{pins:List (Addr×Obj)}{σ:St}{H:Hp}{s:Shared}{a:Addr}{y v:V}{u r:Value}{o:Option V}{A:Around}{E:Value→Shared→Prop}
theorem ku {Q:Value→Shared→Prop}(hu:A.units+1<cLine)(I:Inv X pins σ H s)(g:bL H a y (some v))(ry:RelV y u)(h:∀w' s',Inv X pins σ H s'→RelV v w'→Q w' s'):
  wpAny (model X.prog X.w) A (getItem (.ref a) u) Q E s:=by
 rcases g with ⟨kvs,k,e,ey,l⟩|⟨kvs,k,b,e,ey,eb,l⟩
 ·subst ey
  obtain⟨z,hd,vs,rel,dd⟩:=cg I.hok e
  obtain⟨w',hw,rw'⟩:=vI.some_of (v:=v) (o:=valueAt vs k) (by rw[l];exact rel.val k)
  exact wpAny_getItem_of (dO ry) dd.mapOf hw (h w' _ (I.tok _) rw')
 ·subst ey
  cases (show u=Value.ref b from ry)
  obtain⟨z,hd,xs,rel,dd⟩:=dM I.hok e
  obtain⟨w',hw,rw'⟩:=vI.some_of (v:=v) (o:=(atKey xs k).map (·.2)) (by rw[l];exact rel.val k)
  obtain⟨p,hp,hp2⟩:=zj0.mp hw
  refine wpAny_getItem_heap (tupleKind_room_in1 hu) (jY I.hok eb) dd hp ?_
  rw[hp2]
  exact h w' _ (I.tok _) rw'
end
section
variable {X:Cx}{pins:List (Addr×Obj)}{σ:St}{H:Hp}{s:Shared}{a:Addr}{kvs:List (Key×V)}{k:Key}{u:Value}{A:Around}{E:Value→Shared→Prop}
end
theorem pS {X:Cx}{pins:List (Addr×Obj)}{σ:St}{H:Hp}{s:Shared}{a:Addr}{y:V}{o:Option V}(I:Inv X pins σ H s)(g:bL H a y o):s.TypeIs (.ref a) "dict":=by
 rcases g with ⟨kvs,k,e,_,_⟩|⟨kvs,k,b,e,_,_,_⟩
 ·obtain⟨_,_,vs,_,dd⟩:=cg I.hok e
  exact dd.typeIs
 ·obtain⟨_,_,xs,_,dd⟩:=dM I.hok e
  exact dd.typeIs
section
variable {X:Cx}{o i e value:Expr}{pos pos' tpos:Pos}{td ty tv:TE}
end
section
variable {X:Cx}{pos:Pos}
end
section
variable {X:Cx}{pins:List (Addr×Obj)}{σ:St}{H:Hp}{s:Shared}{a:Addr}{y d:V}{u r:Value}{o:Option V}{A:Around}{E:Value→Shared→Prop}
end
section
variable {X:Cx}{o e f:Expr}{apos cpos:Pos}{td ty tx:TE}
end
section
variable {X:Cx}{pins:List (Addr×Obj)}{σ:St}{H:Hp}{s:Shared}{a:Addr}{kvs:List (Key×V)}{A:Around}{E:Value→Shared→Prop}
end
section
variable {X:Cx}{pins:List (Addr×Obj)}{σ:St}{H:Hp}{s:Shared}{a:Addr}{y:V}{u:Value}{A:Around}{E:Value→Shared→Prop}
end
def kEq :PyData→Key→Bool
 |.int i,.inl j=>decide (i=j)
 |.str x,.inr y=>decide (x=y)
 |_,_=>false
theorem iC (k j:Key):kEq (jf k) j=decide (k=j):=by
 cases k<;>cases j<;>simp[kEq,jf]
def eU :List (PyData×PyData)→Key→Option PyData
 |[],_=>none
 |(p,d)::r,k=>if kEq p k=true then some d else eU r k
theorem AVk.get {H:Hp}:∀{kvs:List (Key×V)} {ds:List (PyData×PyData)} {k:Key} {d:PyData},AVk H kvs ds→eU ds k=some d→∃v,sI kvs k=some v∧AV H v d
 |_,_,k,d,.nil,e=>by cases e
 |_,_,k,d,.cons (k:=j) h r,e=>by
  unfold eU at e
  rw[iC] at e
  by_cases z:j=k
  ·rw[zk1 z,if_pos rfl] at e
   cases e
   exact⟨_,tJ z,h⟩
  ·rw[zi7 z,if_neg (by decide)] at e
   rw[tK z]
   exact AVk.get r e
theorem eF {H:Hp}{v:V}{k:Key}(h:AV H v (jf k)):v=kV k:=by
 cases k with
 |inl i=>exact h.int_inv
 |inr x=>exact h.str_inv
theorem AV.dk_inv {H:Hp}{v:V}{ds:List (PyData×PyData)}(h:AV H v (ff ds)):∃a o kvs,v=.ref a∧H a=some (.frz o (.dK kvs))∧AVk H kvs ds:=by
 generalize e:ff ds=d at h
 cases h with
 |dk h1 h2=>cases e;exact⟨_,_,_,rfl,h1,h2⟩
 |_=>cases e
section
variable {X:Cx}{pins:List (Addr×Obj)}{σ:St}{H:Hp}{s:Shared}{l:Addr}{kvs:List (Key×V)}
end
section
variable {X:Cx}{e:Expr}{sts:List Stmt}
end
section
variable {X:Cx}{α:Ev}{e a b:Expr}{pos p:Pos}{Q:PyData→Prop}
end
section
variable {X:Cx}{α:Ev}{e a b:Expr}{pos p:Pos}{Q:PyData→Prop}
end
section
variable {X:Cx}{tg:Expr}
end
section
variable {X:Cx}{α:Ev}{e a b tg:Expr}{pos p:Pos}{Q:List PyData→Prop}
end
mutual
def ltD :PyData→PyData→Option Bool
 |.int a,.int b=>some (decide (a<b))
 |.str a,.str b=>some (decide (a.cps.toList<b.cps.toList))
 |.tuple xs,.tuple ys=>za4 xs ys
 |_,_=>none
def za4 :List PyData→List PyData→Option Bool
 |[],[]=>some false
 |[],_::_=>some true
 |_::_,[]=>some false
 |x::xs,y::ys=>if PyData.eqv x y=true then za4 xs ys else ltD x y
end
section
open PySem.SeqAt
open PySem.AutoSeq1 (wpAny_loadPart')
open PySem.MeetsSeq PySem.MeetsSeq2 PySem.MeetsSeq3
end
section
variable {prog:Program}{w:World}{A:Around}{R:Result→Shared→Prop}{it:Addr}{fp wr:List Addr}{m:Nat}{P:Nat→Value→Prop}{St:Nat→Heap→Prop}
end
section
variable {prog:Program}{w:World}{A:Around}{E:Value→Shared→Prop}{s:Shared}
end
section
variable {X:Cx}{α:Ev}{e:Expr}{pos p:Pos}{Q:PyData→Prop}
theorem AVs.intsV {H:Hp}:∀{xs:List V} {zs:List Int},AVs H xs (zs.map .int)→xs=zs.map V.int
 |_,[],.nil=>rfl
 |_,z::zs,.cons h r=>by rw[h.int_inv,AVs.intsV r];rfl
end
section
variable {prog:Program}{w:World}{A:Around}{E:Value→Shared→Prop}{s:Shared}{it l:Addr}{items:Array Value}
end
section
variable {X:Cx}{α:Ev}{a e c:Expr}{p p0 pos pos2:Pos}{Q:List PyData→Prop}
end
theorem iA {k:Bool}{p q:Prop}(h1:k=true→p)(h2:k=false→q):if k=true then p else q:=by
 cases k with
 |true=>exact h1 rfl
 |false=>exact h2 rfl
section
variable {X:Cx}{α:Ev}{e a b:Expr}{pos p:Pos}{E:yC}{rest:List Stmt}
end
def za3 :R2:=fun x y H R=>rEq x y H R∨zb0 x y H R
def aE :R2:=fun x y H R=>rNe x y H R∨aR x y H R
theorem cL {X:Cx}(hu:X.A.units+64<cLine):OpR X (compareOp .Eq) za3:=fun pins s σ H x y v u Q I rx ry h=>h.elim (fun h=>wu _ _ _ _ _ _ _ _ _ I rx ry h) fun h=>wN hu _ _ _ _ _ _ _ _ _ I rx ry h
theorem cV {X:Cx}(hu:X.A.units+64<cLine):OpR X (compareOp .NotEq) aE:=fun pins s σ H x y v u Q I rx ry h=>h.elim (fun h=>za7 _ _ _ _ _ _ _ _ _ I rx ry h) fun h=>aq hu _ _ _ _ _ _ _ _ _ I rx ry h
theorem dz {i j:Str}:Cmp rNe (.str i) (.str j) (!decide (i=j)):=fun p H vx vy R rx ry h=>by
 cases rx.str_inv;cases ry.str_inv
 refine⟨rfl,?_⟩
 rw[show decide (V.str i=V.str j)=decide (i=j) by simp]
 exact h
def ll (x y:PyData)(Q:Bool→Prop):Prop:=∃k,Cmp za3 x y k∧Cmp aE x y (!k)∧Q k
theorem dC {i j:Str}{Q:Bool→Prop}(h:Q (decide (i=j))):ll (.str i) (.str j) Q:=⟨_,fun p H vx vy R rx ry z=>.inl (mF p H vx vy R rx ry z),fun p H vx vy R rx ry z=>.inl (dz p H vx vy R rx ry z),h⟩
theorem eqk {x y:PyData}{Q:Bool→Prop}(s1:SeqAt.shaped x=true)(s2:SeqAt.shaped y=true)(d1:x.hasDict=false)(d2:y.hasDict=false)(h:Q (PyData.eqv x y)):ll x y Q:=
 ⟨_,fun p H vx vy R rx ry z=>.inr ⟨x,y,(rx.dv d1).same xV,(ry.dv d2).same xV,s1,s2,z⟩,fun p H vx vy R rx ry z=>.inr ⟨x,y,(rx.dv d1).same xV,(ry.dv d2).same xV,s1,s2,z⟩,h⟩
section
variable {X:Cx}{α:Ev}{a b:Expr}{pos:Pos}{Q:PyData→Prop}{T:Bool→Prop}
theorem bb (hu:X.A.units+64<cLine)(h:EvD X α a fun x=>EvD X α b fun y=>ll x y T):EvT X α (.Compare a [.Eq] [b] pos) T:=wA (cL hu) (zJ _) (h.imp fun x h=>h.imp fun y ⟨k,e,_,q⟩=>⟨k,e,q⟩)
theorem jA (hu:X.A.units+64<cLine)(h:EvD X α a fun x=>EvD X α b fun y=>ll x y fun k=>T (!k)):EvT X α (.Compare a [.NotEq] [b] pos) T:=wA (cV hu) (zJ _) (h.imp fun x h=>h.imp fun y ⟨k,_,e,q⟩=>⟨!k,e,q⟩)
theorem cv {k:Bool}{p q:Prop}(e:k=true)(h:p):if k=true then p else q:=by rw[if_pos e];exact h
theorem me {k:Bool}{p q:Prop}(e:k=false)(h:q):if k=true then p else q:=by rw[if_neg (by rw[e];decide)];exact h
variable {E:yC}{s t:List Stmt}
theorem wQ {k:Bool}(e:k=true)(h:SvS X α s E):SvS X α (if k=true then s else t) E:=by rw[if_pos e];exact h
theorem xq {k:Bool}(e:k=false)(h:SvS X α t E):SvS X α (if k=true then s else t) E:=by rw[if_neg (by rw[e];decide)];exact h
end
section
variable {X:Cx}{α:Ev}{a b:Expr}{pos:Pos}{Q:PyData→Prop}{T:Bool→Prop}
def za0 :R2:=fun x y H Q=>∃a v,x=.ref a∧bL H a y (some v)∧Q v H
theorem eP (hu:X.A.units+1<cLine):IxR X za0:=fun value slice pins s σ H x y v u Q I rx ry h hs=>by
 obtain⟨a,z,rfl,g,q⟩:=h
 cases rx
 exact tail_any (pS I g) PySem.F.slot_dict_getitem.lookup (ku hu I g ry fun w' s' I' r'=>⟨z,H,I',r',q⟩) hs
def cU (x y:PyData)(Q:PyData→Prop):Prop:=(∃ds i d,oK x=some ds∧y=.int i∧atI ds i=some d∧Q d)∨∃ds k d,x=ff ds∧y=jf k∧eU ds k=some d∧Q d
theorem ixk {x y:PyData}{ds:List PyData}{i:Int}{d:PyData}(h1:oK x=some ds)(h2:y=.int i)(h3:atI ds i=some d)(h:Q d):cU x y Q:=.inl ⟨ds,i,d,h1,h2,h3,h⟩
theorem sH (hu:X.A.units+1<cLine)(hs:uR b)(h:EvD X α a fun x=>EvD X α b fun y=>cU x y Q):EvD X α (.Subscript a b pos) Q:=by
 refine tP (f:=tOp (fun x y H Q=>rIx X.K x y H Q∨za0 x y H Q)) (yo (cA.or (eP hu)) zi zi hs) (fun _ _ _=>Iff.rfl) (h.imp fun x h=>h.imp fun y h=>?_)
 intro F σ H vx vy R m rx ry k
 rcases h with ⟨ds,i,d,e1,rfl,hat,hq⟩|⟨ds,kk,d,rfl,rfl,hv,hq⟩
 ·cases ry.int_inv
  cases x with
  |list ds'=>
   cases e1
   obtain⟨a,xs,rfl,h1,h2⟩:=rx.lst_inv
   obtain⟨v,hv,av⟩:=h2.atI hat
   exact .inl (.inl ⟨a,xs,i,v,rfl,rfl,SqL.of (zg h1).2,hv,k d v H hq m.tp Kz.refl av⟩)
  |tuple ds'=>
   cases e1
   obtain⟨a,xs,rfl,h1,h2⟩:=rx.tup_inv
   obtain⟨v,hv,av⟩:=h2.atI hat
   exact .inl (.inr (.inl ⟨a,xs,i,v,rfl,rfl,SqT.of (zg h1).2,hv,k d v H hq m.tp Kz.refl av⟩))
  |_=>cases e1
 ·obtain⟨a,o,kvs,rfl,g1,g2⟩:=rx.dk_inv
  obtain⟨v,w1,w2⟩:=g2.get hv
  cases eF ry
  exact .inr ⟨a,v,rfl,.inl ⟨kvs,kk,.inr ⟨o,(zg g1).2⟩,rfl,w1.symm⟩,k d v H hq m.tp Kz.refl w2⟩
end
theorem zY.one {k:Nat}{A:Around}(h:zY k A):A.units+1<cLine:=by have:=h.units;omega
section
variable {X:Cx}{α:Ev}{E:yC}{rest body:List Stmt}{e c tg iter:Expr}{pos p:Pos}
theorem xJ (pat:Pat)(h:EvI X α tg iter fun ds=>xQ X pat body rest E ds α)(hN:X.N.Nodup:=by assumption)(hp:PassesOwn (model X.prog X.w) X.A X.env X.xe:=by exact zt5)(hc:X.calm=true:=by rfl)
  (hg:PG X tg (nF X.K pat):=by first|exact yr (by assumption) rfl (Or.inl rfl)|exact yr (by assumption) rfl (Or.inr rfl)|exact tN rfl rfl (by repeat (first|exact uW|refine yM (by first|exact yr (by assumption) rfl (Or.inl rfl)|exact yr (by assumption) rfl (Or.inr rfl)) ?_)))
  (hs:∀x,foldedSetIterable iter X.env x=pure x:=by intro _;rfl):SvS X α (.For tg iter body [] pos::rest) E:=qw hp hc hg h hs
end
section
variable {Y:Addr→Shared→Hp→List Addr→Cx}{pat:Pat}{ifs:List Expr}{elt:Expr}{α0:Ev}{ι:Type}{g f:ι→PyData}{l:List ι}{acc:List PyData}{Q:List PyData→Prop}
end
section
variable {co:Co}{N:Nat}
end
section
variable {co:Co}{N:Nat}
end
section
variable {X:Cx}{α:Ev}{a b e:Expr}{pos p:Pos}{Q:PyData→Prop}
end
section
variable {X:Cx}{α:Ev}{a b c e:Expr}{pos p:Pos}{Q:PyData→Prop}{T:Bool→Prop}
end
section
variable {X:Cx}{α:Ev}{a b c e:Expr}{pos p p2 pos2:Pos}{Q:PyData→Prop}{T:Bool→Prop}
theorem vD {us:List Value}{ns:List Int}(h:IntsAre us ns):Vals (ns.map V.int) us:=by
 induction h with
 |nil=>exact .nil
 |cons n t _ ih=>exact .cons ⟨t,rfl⟩ ih
end
section
variable {X:Cx}{α:Ev}{a b c d e:Expr}{pos p:Pos}{ta tb tc td:TE}{T:Bool→Prop}
end
theorem bq {X:Cx}{α:Ev}{e tg:Expr}{Q:List PyData→Prop}(h:EvD X α e fun x=>∃ds,x=.tuple ds∧Q ds):EvI X α tg e Q:=fun F σ H R m k=>by
 refine⟨_,bo zi,?_⟩
 refine h F σ H _ m fun x vx H1 q1 t1 k1 r1=>?_
 obtain⟨ds,rfl,q⟩:=q1
 obtain⟨a,xs,rfl,h1,h2⟩:=r1.tup_inv
 refine⟨a,rfl,⟨xs,SqT.of (zg h1).2⟩,k ds _ H1 q t1 k1 fun i H2 p s=>⟨fun d hd=>?_,fun hl=>?_⟩⟩
 ·obtain⟨x,hx,av⟩:=h2.get hd
  have ha:=SqT.of (K:=X.K) (zg (s _ _ h1)).2
  refine⟨⟨xs,x,ha,hx⟩,fun x' H3 y=>?_⟩
  obtain⟨e,y⟩:=y
  subst e
  have:=y xs ha
  rw[hx] at this;cases this
  exact⟨zq.refl _,fun _=>av.same s⟩
 ·exact⟨xs,SqT.of (zg (s _ _ h1)).2,by rw[h2.length];exact hl⟩
section
variable {X:Cx}{α:Ev}{a b c d e:Expr}{pos p:Pos}{T:Bool→Prop}
end
abbrev jI (X:Cx)(P:Program)(w:World)(K:PySem.W.Frag)(mg:Str→Option Value)(base:Heap):Prop:=X.prog=P∧X.w=w∧X.K=K∧X.mg=mg∧X.base=base
section
variable {X:Cx}{α:Ev}{e o:Expr}{es:List Expr}{pos p apos:Pos}{Q:PyData→Prop}{k:Nat}{φ:List A→(A→Prop)→Prop}{x m:Str}{C:Addr}{pl:Sem Bool}{P:Program}{w:World}{K:PySem.W.Frag}{mg:Str→Option Value}{base:Heap}
theorem eh (D:Cal P w K mg base x k φ)(hX:jI X P w K mg base)(hr:zY k X.A)(hg:Gl X x)(h:EvA X α (e::es) fun as=>φ as fun a=>Q a.d)
  (hdb:(x == ("__debug__":Str))=false:=by decide) (he:starEach (e::es) X.env=(false,eval e X.env)::starEach es X.env:=by rfl) (hpl:(backTo pos (starEach es X.env)).any (·.1)=false:=by rfl):EvD X α (.Call (.Name x p) (e::es) [] pos) Q:=by
 obtain⟨rfl,rfl,rfl,rfl,rfl⟩:=hX
 exact zB D hr hg h hdb he hpl
theorem jC (D:wy P w K mg base C m k φ)(hX:jI X P w K mg base)(hr:zY k X.A)(h:EvD X α o fun x=>∃fs,x=wJ C fs∧uH fs m=none∧EvA X α (e::es) fun as=>φ (.dat (wJ C fs)::as) fun a=>Q a.d)
  (hst:starEach (e::es) X.env=(false,eval e X.env)::starEach es X.env:=by rfl) (hpl:(backTo pos (starEach es X.env)).any (·.1)=false:=by rfl)
  (ht:eval (.Call (.Attribute o m apos) (e::es) [] pos) X.env=(do
   let ov ←eval o X.env
   standAt apos.atName
   let (f,first) ←holding [ov] (getMethod ov m pl)
   callWith pos f first (backTo pos (starEach (e::es) X.env)) (backToKw pos (keywordEach [] X.env))):=by rfl):EvD X α (.Call (.Attribute o m apos) (e::es) [] pos) Q:=by
 obtain⟨rfl,rfl,rfl,rfl,rfl⟩:=hX
 exact mQ D hr h hst hpl ht
theorem ki (D:wy P w K mg base C m k φ)(hX:jI X P w K mg base)(hr:zY k X.A)(h:EvD X α o fun x=>∃fs,x=wJ C fs∧uH fs m=none∧φ [.dat (wJ C fs)] fun a=>Q a.d)
  (ht:eval (.Call (.Attribute o m apos) [] [] pos) X.env=(do
   let ov ←eval o X.env
   standAt apos.atName
   let (f,first) ←holding [ov] (getMethod ov m pl)
   callWith pos f first (backTo pos (starEach [] X.env)) (backToKw pos (keywordEach [] X.env))):=by rfl):EvD X α (.Call (.Attribute o m apos) [] [] pos) Q:=by
 obtain⟨rfl,rfl,rfl,rfl,rfl⟩:=hX
 exact tD D hr h ht
end
section
variable {X:Cx}{α:Ev}{pos:Pos}{Q:PyData→Prop}
end
section
variable {X:Cx}{α:Ev}{e ix:Expr}{pos:Pos}{rest:List Stmt}{E:yC}
end
section
variable {X:Cx}{tg:Expr}
variable {α:Ev}{a b c:Expr}{p pos:Pos}
end
section
variable {prog:Program}{w:World}{K:Type}[DecidableEq K](knd:KeyKind prog w K)
variable {knd}
end
section
variable {X:Cx}
end
section
variable {X:Cx}{α:Ev}{e a b:Expr}{p pos:Pos}{Q:PyData→Prop}
end
section
variable {M:Model}{A:Around}{E:Value→Shared→Prop}{s:Shared}
end
section
variable {P:Program}{w:World}{H H0:Hp}{h h' h0:Heap}{fs fs' ts:List Addr}{e:Addr}
end
section
variable {X:Cx}{pins:List (Addr×Obj)}{σ:St}{H H':Hp}{s s':Shared}{a:Addr}
end
section
variable {X:Cx}{E':Value→Shared→Prop}
end
section
variable {P:Program}{w:World}{K:PySem.W.Frag}{mg:Str→Option Value}{base:Heap}
end
section
variable {prog:Program}{w:World}{A:Around}{E:Value→Shared→Prop}{h:Heap}{g:Array GenState}{d:Drawn}{t:Nat}{os:OsState}
variable {nm q:Str}{C N:Addr}{bs bm bmB:List Value}{hdct:Bool}{sn:List Str}{sub:List Value}{ab:Bool}{col:Option Bool}{dd:Option Addr}{k0 k1 k2 k3 k5:Option Value}{B Bn newId nid initId inN:String}{bmN:List Value}
end
open Builtin Builtin.ObjectAttr
section
variable {prog:Program}{w:World}{A:Around}{E:Value→Shared→Prop}{h:Heap}{g:Array GenState}{d:Drawn}{t:Nat}{os:OsState}{K:Frag}{C S e t0:Addr}{dx:Option Addr}{init:Option Value}
end
section
variable {prog:Program}{w:World}{A:Around}{E:Value→Shared→Prop}{h:Heap}{g:Array GenState}{d:Drawn}{t:Nat}{os:OsState}{K:Frag}{C S e t0:Addr}{init:Option Value}
end
section
variable {X:Cx}{pins:List (Addr×Obj)}{σ:St}{H:Hp}{s:Shared}{a C:Addr}{d:Option Addr}{pos:Pos}
end
section
variable {prog:Program}{w:World}{A:Around}{E:Value→Shared→Prop}{h:Heap}{g:Array GenState}{d:Drawn}{t:Nat}{os:OsState}
variable {nm q:Str}{C N:Addr}{bs bm bmB:List Value}{hdct:Bool}{sn:List Str}{sub:List Value}{ab:Bool}{col:Option Bool}{dd:Option Addr}{k0 k1 k2 k3 k5:Option Value}{B Bn newId nid initId inN:String}{bmN:List Value}
end
section
variable {X:Cx}{pins:List (Addr×Obj)}{σ:St}{H:Hp}{s:Shared}{k:Nat}{f C S:Addr}{fd:FuncData}{ps:List Str}{sp:Sp}{x:Str}{p pos:Pos}{e:Expr}{es:List Expr}{t:TA}
end
section
variable {X:Cx}{pins:List (Addr×Obj)}{σ:St}{H:Hp}{s:Shared}{a:Addr}{D:Ends}{f:Flow}
end
section
variable {X:Cx}{body suite:List Stmt}{b0:Stmt}{x n:Str}{np hpos pos:Pos}{B:Addr}
end
section
variable {G:Hp}{v:V}{C:Addr}{ds:List (PyData×PyData)}
end
section
variable {F:Fr}{α αh:Ev}{σ:St}{H:Hp}
end
section
variable {F:Fr}{α αh:Ev}{σ:St}{H:Hp}
end
section
variable {P:Program}{w:World}{K:PySem.W.Frag}{mg:Str→Option Value}{base:Heap}
end
section
variable {X:Cx}{α αh:Ev}{r:Fr}{q q0:PyData→Prop}{j k:Nat}{x fl:Str}{C:Addr}{e:Expr}{es:List Expr}{p pos pos':Pos}{rest:List Stmt}{E:yC}
variable {φ:List A→(A→Prop)→(PyData→Prop)→Prop}{Q:PyData→Prop}
end
section
variable {P:Program}{w:World}{K:PySem.W.Frag}{mg:Str→Option Value}{base:Heap}
end
section
variable {X:Cx}{α αh:Ev}{q:PyData→Prop}{i j:Nat}{x n:Str}{B:Addr}{body suite rest:List Stmt}{b0:Stmt}{np hpos pos:Pos}{E:yC}
end
section
variable {X:Cx}{α:Ev}{p p1 pos:Pos}{a:Expr}{Q:PyData→Prop}{C S:Addr}{init:Option Value}
end
section
variable {X:Cx}{α:Ev}{pos:Pos}{o:Expr}{f:Str}{Q:PyData→Prop}{C S:Addr}{init:Option Value}
end
section
variable {P:Program}{w:World}{K:PySem.W.Frag}{mg:Str→Option Value}{base:Heap}
end
section
variable {X:Cx}{α αh:Ev}{r:Fr}{q q0:PyData→Prop}{j k:Nat}{x fl:Str}{C:Addr}{e:Expr}{es:List Expr}{p pos pos':Pos}{rest:List Stmt}{E:yC}
end
section
variable {P:Program}{w:World}{K:PySem.W.Frag}{mg:Str→Option Value}{base:Heap}
end
section
variable {P:Program}{w:World}{K:PySem.W.Frag}{mg:Str→Option Value}{base:Heap}
end
section
variable {X:Cx}{α αh:Ev}{r:Fr}{q q0:PyData→Prop}{j k:Nat}{x fl:Str}{C:Addr}{e:Expr}{es:List Expr}{p pos pos':Pos}{rest:List Stmt}{E:yC}{Q:PyData→Prop}{φ:List A→(PyData→Prop)→Prop}
end
def aA :Option A→Option A
 |some .tape=>none
 |some (.exc _ _)=>none
 |a=>a
def xC (α:Ev):Ev:=α.map aA
def gn :A→Prop
 |.tape=>False
 |.exc _ _=>False
 |_=>True
theorem xt {α:Ev}{i:Nat}{a:A}(h:(xC α)[i]?=some (some a)):α[i]?=some (some a)∧gn a:=by
 unfold xC at h
 rw[zi6,zj0] at h
 obtain⟨b,h1,h2⟩:=h
 cases b with
 |none=>cases h2
 |some b=>cases b<;>cases h2<;>exact⟨h1,trivial⟩
theorem xO.to {G G':Hp}{F F':Fr}{H H':Hp}{s:Option V}{a:A}(ka:gn a)(h:xO G F H s a)(g:zq G G')(hf:∀x o,foot s a x→H x=some o→H' x=some o∧¬F'.O0 x∧F'.H0 x=none):xO G' F' H' s a:=by
 cases a with
 |dat d=>obtain⟨v,h1,h2⟩:=h;exact⟨v,h1,h2.same g⟩
 |ow c=>
  obtain⟨l,o,h1,h2,h3,h4,h5⟩:=h
  obtain⟨z1,z2,z3⟩:=hf l o h1 h2
  exact⟨l,o,h1,z1,h3.same g,z2,z3⟩
 |deep d S=>
  obtain⟨v,h1,h2,h3⟩:=h
  refine⟨v,h1,h2.same (uj g fun x o z e=>(hf x o z e).1),fun x z=>?_⟩
  obtain⟨_,_,xs,e⟩:=h3 x z
  obtain⟨z1,z2,z3⟩:=hf x _ z e
  exact⟨z2,z3,xs,z1⟩
 |tape=>exact ka.elim
 |«at» l=>exact h
 |exc r q=>exact ka.elim
 |pin l vs ds=>exact⟨h.1,g _ _ h.2.1,h.2.2.same g⟩
 |nst l ls dss=>
  obtain⟨h1,h2,h3,h4,h5⟩:=h
  refine⟨h1,(hf l _ zh3 h2).1,h3.same g fun a ha o e=>(hf a o (zg7 _ ha) e).1,h4,fun x hx=>?_⟩
  rcases zg3.mp hx with z|z
  ·exact (hf x _ hx (z▸h2)).2
  ·obtain⟨xs,e⟩:=h3.obj x z
   exact (hf x _ hx e).2
def Tp (F:Fr)(x:Addr):Prop:=∃t b c,F.tp=some (t,b,c)∧(x=t∨x=b∨x=c)
noncomputable instance tpDec (F:Fr)(x:Addr):Decidable (Tp F x):=Classical.propDecidable _
noncomputable def Fr.row (F:Fr)(H:Hp)(l:Addr):Fr:=⟨fun x=>if Tp F x then H x else F.H0 x,fun x=>F.O0 x∨x=l,some (l,l,l)⟩
section
variable {F:Fr}{α α':Ev}{σ σ':St}{H H':Hp}{l:Addr}
theorem Tp.own (t:zH F H){x:Addr}(h:Tp F x):F.O0 x:=by
 obtain⟨a,b,c,e,z⟩:=h
 obtain⟨_,h1,h2,h3⟩:=t a b c e
 rcases z with z|z|z
 ·rw[z];exact h1
 ·rw[z];exact h2
 ·rw[z];exact h3
theorem Tp.lst (t:zH F H){x:Addr}(h:Tp F x):∃xs,H x=some (.lst xs):=by
 obtain⟨a,b,c,e,z⟩:=h
 obtain⟨n,bs,cs,n1,e1,e2,e3,_⟩:=(t a b c e).1.ex
 rcases z with z|z|z
 ·rw[z];exact⟨_,e1⟩
 ·rw[z];exact⟨_,e2⟩
 ·rw[z];exact⟨_,e3⟩
theorem Tp.noTab (t:zH F H){x:Addr}(h:Tp F x):¬uF x:=fun z=>by
 obtain⟨o,e,_,n⟩:=uV t.tab z
 obtain⟨xs,e2⟩:=Tp.lst t h
 rw[e] at e2;cases e2
 exact n _ rfl
theorem pX (t:zH F H){x:Addr}(h:(F.row H l).H0 x=none):F.H0 x=none:=by
 have h':(if Tp F x then H x else F.H0 x)=none:=h
 split at h'
 ·rename_i q
  obtain⟨xs,e⟩:=Tp.lst t q
  rw[e] at h';cases h'
 ·exact h'
theorem M.row {i:Nat}{x y:Int}(m:M F α σ H)(hi:α[i]?=some (some (.own [.int x,.int y])))(h0:0≤y)(h1:y<4294967296):∃l,F.H0 l=none∧¬F.O0 l∧M (F.row H l) ((xC α).set i (some .tape)) σ H:=by
 obtain⟨l,xs,e1,e2,e3,e4,e5⟩:=m.own i _ hi
 have ex:xs=[.int x,.int y]:=by
  cases e3 with
  |cons a r=>
   cases r with
   |cons b r=>
    cases r
    rw[a.int_inv,b.int_inv]
 subst ex
 have old:∀{j:Nat} {a:A},((xC α).set i (some .tape))[j]?=some (some a)→(i=j∧a=.tape)∨(i≠j∧α[j]?=some (some a)∧gn a):=fun {j a} e=>by
  rcases zQ e with ⟨z,w⟩|⟨z,w⟩
  ·cases w;exact .inl ⟨z,rfl⟩
  ·obtain⟨w1,w2⟩:=xt w
   exact .inr ⟨z,w1,w2⟩
 have ow:∀{z:Addr},Ow (F.row H l) ((xC α).set i (some .tape)) σ z→Ow F α σ z:=fun {z} h=>by
  rcases h with (h|h)|⟨j,a,s,w1,w2,w3⟩
  ·exact .inl h
  ·rw[h];exact .inr ⟨i,_,_,hi,e1,rfl⟩
  ·rcases old w1 with ⟨_,q⟩|⟨_,q,_⟩
   ·subst q;exact w3.elim
   ·exact .inr ⟨j,a,s,q,w2,w3⟩
 have gs:zq (Gz F α σ H) (Gz (F.row H l) ((xC α).set i (some .tape)) σ H):=zu fun a o h e=>⟨fun z=>h (ow z),e⟩
 refine⟨l,e5,e4,?_,fun j a s q1 q2=>?_,fun j j' a b s t z q1 q2 q3 q4 f1 f2=>?_,fun j r q e=>?_,⟨m.tp.tab,fun x h=>.inl (m.tp.ot x h),fun t b c e=>?_⟩,fun z o e n=>?_,fun z hz=>?_⟩
 ·rw[zk6]
  unfold xC
  rw[zh4]
  exact m.len
 ·rcases old q1 with ⟨z,q⟩|⟨hj,q,ka⟩
  ·subst z q
   rw[e1] at q2;cases q2
   exact⟨l,l,l,rfl,rfl⟩
  ·refine (m.ok j a s q q2).to ka gs fun x o f e=>?_
   obtain⟨g1,g2,_⟩:=m.ft q q2 f
   refine⟨e,fun z=>z.elim g1 fun z=>hj (m.dj i j _ _ _ _ x hi q e1 q2 (by rw[z];exact rfl) f),?_⟩
   show (if Tp F x then H x else F.H0 x)=none
   rw[if_neg fun z=>g1 (Tp.own m.tp z)]
   exact g2
 ·rcases old q1 with ⟨_,q⟩|⟨_,w1,_⟩
  ·subst q;exact f1.elim
  ·rcases old q2 with ⟨_,q⟩|⟨_,w2,_⟩
   ·subst q;exact f2.elim
   ·exact m.dj j j' a b s t z w1 w2 q3 q4 f1 f2
 ·rcases old e with ⟨_,q⟩|⟨_,_,ka⟩
  ·cases q
  ·exact ka.elim
 ·cases e
  exact⟨⟨0,[x,y],[x,y],⟨rfl,rfl⟩,e2,e2,e2,⟨x,y,rfl,h0,h1⟩,rfl⟩,.inr rfl,.inr rfl,.inr rfl⟩
 ·have e':(if Tp F z then H z else F.H0 z)=some o:=e
  split at e'
  ·exact e'
  ·rename_i q
   exact m.keep z o e' ⟨fun t b c w=>⟨fun y=>q ⟨t,b,c,w,.inl y⟩,fun y=>q ⟨t,b,c,w,.inr (.inl y)⟩⟩,n.2⟩
 ·rcases hz with z|z
  ·exact m.oex _ z
  ·exact⟨_,by rw[z];exact e2,xT⟩
theorem zH.unrow (t:zH F H)(hl:¬F.O0 l)(tb:TabAt H')(k:Kz (F.row H l) (F.row H l).H0 H'):zH F H':=⟨tb,t.ot,fun a b c e=>by
 obtain⟨h1,h2,h3,h4⟩:=t a b c e
 refine⟨h1.off fun z hz=>?_,h2,h3,h4⟩
 have tz:Tp F z:=⟨a,b,c,e,hz⟩
 have oz:F.O0 z:=Tp.own t tz
 have nl:z≠l:=fun q=>hl (by rw[←q];exact oz)
 obtain⟨xs,ho⟩:=Tp.lst t tz
 rw[ho]
 refine k z _ ?_ ⟨fun t' b' c' w=>by cases w;exact⟨nl,nl⟩,Tp.noTab t tz⟩
 show (if Tp F z then H z else F.H0 z)=some _
 rw[if_pos tz];exact ho⟩
theorem Kz.unrow (m:M F α σ H)(h0:F.H0 l=none)(k:Kz (F.row H l) (F.row H l).H0 H'):Kz F F.H0 H':=fun x o e n=>by
 have nl:x≠l:=fun q=>by rw[q,h0] at e;cases e
 refine k x o ?_ ⟨fun t' b' c' w=>by cases w;exact⟨nl,nl⟩,n.2⟩
 show (if Tp F x then H x else F.H0 x)=some o
 split
 ·exact m.keep x o e n
 ·exact e
theorem M.unrow (m:M F α σ H)(h0:F.H0 l=none)(hl:¬F.O0 l)(m':M (F.row H l) α' σ' H'):M F (xC α') σ' H':=by
 have ow:∀{z:Addr},Ow F (xC α') σ' z→Ow (F.row H l) α' σ' z:=fun {z} h=>by
  rcases h with h|⟨j,a,s,w1,w2,w3⟩
  ·exact .inl (.inl h)
  ·exact .inr ⟨j,a,s,(xt w1).1,w2,w3⟩
 have gs:zq (Gz (F.row H l) α' σ' H') (Gz F (xC α') σ' H'):=zu fun a o h e=>⟨fun z=>h (ow z),e⟩
 refine⟨?_,fun j a s q1 q2=>?_,fun j j' a b s t z q1 q2=>m'.dj j j' a b s t z (xt q1).1 (xt q2).1,fun j r q e=>?_,m.tp.unrow hl m'.tp.tab m'.keep,Kz.unrow m h0 m'.keep,fun z hz=>m'.oex z (.inl hz)⟩
 ·unfold xC
  rw[zh4]
  exact m'.len
 ·obtain⟨w1,ka⟩:=xt q1
  refine (m'.ok j a s w1 q2).to ka gs fun x o f e=>?_
  obtain⟨g1,g2,_⟩:=m'.ft w1 q2 f
  exact⟨e,fun z=>g1 (.inl z),pX m.tp g2⟩
 ·exact (xt e).2.elim
theorem wK.unrow {v:V}{a:A}(m:M F α σ H)(h0:F.H0 l=none)(hl:¬F.O0 l)(r:wK (F.row H l) v H' a):wK F v H' a:=by
 obtain⟨t,k,r⟩:=r
 exact⟨m.tp.unrow hl t.tab k,Kz.unrow m h0 k,r.to (fun _ z=>.inl z) fun x z=>pX m.tp z⟩
end
section
variable {X:Cx}{α:Ev}{E:yC}{sts rest body:List Stmt}{tg iter:Expr}{pos:Pos}
theorem cT (i:Nat){x y:Int}(hi:α[i]?=some (some (.own [.int x,.int y])))(h0:0≤y)(h1:y<4294967296)
  (h:SvS X ((xC α).set i (some .tape)) sts {nx:=fun α'=>E.nx (xC α'),rt:=E.rt,bk:=fun α'=>E.bk (xC α'),ct:=fun α'=>E.ct (xC α')}):SvS X α sts E:=fun F σ H D m r=>by
 obtain⟨l,e5,e4,mr⟩:=m.row hi h0 h1
 refine h _ σ H D mr ⟨fun α' σ' H' m' q=>r.nx _ _ _ (m.unrow e5 e4 m') q,fun a v H' z q=>r.rt a v H' (z.unrow m e5 e4) q,fun α' σ' H' m' q=>r.bk _ _ _ (m.unrow e5 e4 m') q,fun α' σ' H' m' q=>r.ct _ _ _ (m.unrow e5 e4 m') q⟩
theorem bJ {pat:Pat}{F:Fr}{σ:St}{H:Hp}{D:Ends}(hp:PassesOwn (model X.prog X.w) X.A X.env X.xe)(hc:X.calm=true)(hg:PG X tg (nF X.K pat))(m:M F α σ H)(r:sJ F E D)
  (h:∀R:It→Hp→Prop,(∀ds J H',xQ X pat body rest E ds α→zH F H'→Kz F H H'→ItW (fun x=>¬Ow F α σ x) J ds (Gz F α σ H')→R J H')→fL X tg iter σ H R)
  (hs:∀x,foldedSetIterable iter X.env x=pure x):fe X (.For tg iter body [] pos::rest) D σ H:=by
 refine⟨_,zG (gc hp hc qP hg zN hs) zN,?_⟩
 refine h _ fun ds J H1 q1 t1 k1 itw=>?_
 have m1:=m.kz k1 t1
 have mu:=m1.up
 have ru:sJ (F.up (Gz F α σ H1)) E D:=r.up
 refine⟨fun i n σ' H'=>n=ds.length-i∧i≤ds.length∧∃α',M (F.up (Gz F α σ H1)) α' σ' H'∧xQ X pat body rest E (ds.drop i) α',⟨ds.length,by simp,zi5 _,α,mu,q1⟩,?_⟩
 rintro i n σ' H' ⟨rfl,hi,α',m',lw⟩
 obtain⟨w1,w2⟩:=itw i H' _ (m1.upold m')
 by_cases hlt:i<ds.length
 ·have hd:ds[i]?=some ds[i]:=zh0 hlt
  rw[zj9 hlt] at lw
  obtain⟨α1,eb,body⟩:=lw
  obtain⟨go,yl⟩:=w1 _ hd
  refine .inr ⟨go,fun σ'' H''=>∃α',M (F.up (Gz F α σ H1)) α' σ'' H''∧xQ X pat _ rest E (ds.drop (i+1)) α',fun σ'' H'' ⟨α'',r1,r2⟩=>⟨ds.length-(i+1),by omega,rfl,hlt,α'',r1,r2⟩,fun x H3 y=>?_⟩
  obtain⟨s23,avx⟩:=yl x H3 y
  have m3:=m'.kz (Kz.of_same s23) (m'.tp.same s23)
  refine uN eb m3 (avx fun a o _ e=>m'.fresh e) fun σ1 m4=>?_
  exact body _ σ1 H3 _ m4 ⟨fun α2 σ2 H2 m2 q=>⟨α2,m2,q⟩,ru.rt,fun α2 σ2 H2 m2 q=>q _ σ2 H2 D m2 ru,fun α2 σ2 H2 m2 q=>⟨α2,m2,q⟩⟩
 ·have e:i=ds.length:=by omega
  subst e
  rw[zp5] at lw
  exact .inl ⟨w2 (zg5 _),lw _ σ' H' D m' ru⟩
end
section
variable {P:Program}{w:World}{K:PySem.W.Frag}{mg:Str→Option Value}{base:Heap}
def fr0 (H:Hp):Fr:=⟨H,uF,none⟩
theorem M.zero {H:Hp}{σ:St}{n:Nat}(tb:TabAt H)(hl:n=σ.length):M (fr0 H) (List.replicate n none) σ H:=by
 have no:∀(i:Nat) a,(List.replicate n (none:Option A))[i]?≠some (some a):=fun i a z=>by
  rw[zn3] at z
  split at z<;>cases z
 exact⟨by rw[List.length_replicate];exact hl,fun i a s e=>absurd e (no i _),fun i j a b s t l e=>absurd e (no i _),fun i r q e=>absurd e (no i _),⟨tb,fun _ h=>h,fun t b c e=>by (cases e)⟩,fun _ _ e _=>e,fun x hx=>by
  obtain⟨o,ho,hn,_⟩:=uV tb hx
  exact⟨o,ho,hn⟩⟩
theorem SqL.same {H H':Hp}{a:Addr}{xs:List V}(h:SqL K H a xs)(s:zq H H'):SqL K H' a xs:=by
 rcases h with (h|⟨o,h⟩)|h
 ·exact .inl (.inl (s _ _ h))
 ·exact .inl (.inr ⟨o,s _ _ h⟩)
 ·exact .inr h
theorem zf4 {st:Stmt}{f:Addr}{fd:FuncData}{N':List Str}{k:Nat}{x:Str}{pt:Pos}{p0 p1 p2 p3 p4 p5 p6 p7:Pos}{n0 n1:Nat}{kk:Int}{body rest:List Stmt}{j:Nat}(G:Fun K "law" "law" st f fd)(S:zm ("_law_script"::N') ["_law_script"] (zc st))
  (hb:zI st=.For (.Name x pt) (.BinOp (.List [.Constant (.int 0) n0 p0] p1) .Add (.Subscript (.Name "_law_script" p2) (.Slice none (some (.Constant (.int kk) n1 p3)) none p4) p5) p6) body [] p7::rest)
  (hv:Vis (zc st) "_law_script") (hj:(("_law_script":Str)::N')[j]?=some x) (hx:Loc (zc st) x)
  (hbody:∀(cdv:Value) (A':Around) (outer:List Env) (s:Shared) (H:Hp) (E:XK) (zs:List Int),zY k (A'.deeper (envOfC "law" (zc st) s.heap.objs.size f cdv))→zs.length≤64→
   xQ (uM CX0 P w K mg base ("_law_script"::N') "law" (zc st) f cdv A' outer s H E).nox (.one j) body rest {nx:=fun _=>False,rt:=fun a=>a=.dat (.bool true)} (zs.map .int) (List.replicate (N'.length+1) none)):
  zD P w K mg base CX0 (k+1) f fd ["_law_script"] (om K):=by
 refine G.ok S (fun vs H Q E h=>?_) (fun cdv A' outer s H vs Qc E hr h=>?_)
 ·obtain⟨a,ns,rfl,_⟩:=h
  rfl
 ·obtain⟨a,ns,rfl,hS,hn,tb,kq⟩:=h
  rw[hb]
  have mz:M (fr0 H) (List.replicate (N'.length+1) none) (L2.start ("_law_script"::N') [.ref a]) H:=M.zero tb (by unfold L2.start;simp)
  have no3:∀{l3:Addr},¬uF l3→¬Ow (fr0 H) (List.replicate (N'.length+1) none) (L2.start ("_law_script"::N') [.ref a]) l3:=fun {l3} hn=>by
   rintro (z|⟨i,ds,s,e1,e2,_⟩)
   ·exact hn z
   ·rw[zn3] at e1
    split at e1<;>cases e1
  refine bJ (E:={nx:=fun _=>False,rt:=fun a=>a=.dat (.bool true)}) (pat:=.one j) zt5 rfl (yr (i:=j) S.nd hj hx) mz ⟨fun _ _ _ _ z=>z.elim,fun z v H' r e=>?_,fun _ _ _ _ z=>z.elim,fun _ _ _ _ z=>z.elim⟩ (fun R hR=>?_) (fun _=>rfl)
  ·cases e
   obtain⟨_,_,r⟩:=r
   rw[AV.bl_inv r]
   exact kq H'
  ·refine⟨_,my (yQ gp (jD (ze zz zv)) (gf di (yR (i:=0) rfl hv) eK (gU zz))),?_⟩
   obtain⟨ms,em,lm⟩:=hZ ns none (some kk)
   refine⟨(by show 1≤sizeLine;decide),fun l1 hl1=>⟨_,rfl,kk,rfl,a,ns.map V.int,rfl,SqL.same hS (zP hl1),fun l2 hl2=>?_⟩⟩
   rw[em] at *
   have n12:l1≠l2:=fun z=>by rw[←z,zj] at hl2;cases hl2
   have hl2':H l2=none:=by rw[zk n12.symm] at hl2;exact hl2
   refine⟨l1,l2,[.int 0],ms.map V.int,rfl,rfl,by rw[zk n12];exact zj,zj,by rw[zh4];exact zm3 (yB (by simp;omega)),fun l3 hl3=>?_⟩
   have e3:([V.int 0]++ms.map V.int)=((0::ms).map V.int):=rfl
   rw[e3]
   have s3:zq H (upd (upd (upd H l1 (.lst [.int 0])) l2 (.lst (ms.map V.int))) l3 (.lst ((0::ms).map V.int))):=((zP hl1).trans (zP hl2)).trans (zP hl3)
   have hl3':H l3=none:=by
    have n13:l3≠l2:=fun z=>by rw[z,zj] at hl3;cases hl3
    have n11:l3≠l1:=fun z=>by rw[z,zk n12,zj] at hl3;cases hl3
    rw[zk n13,zk n11] at hl3;exact hl3
   refine⟨l3,rfl,⟨_,SqL.of zj⟩,hR ((0::ms).map .int) _ _ (hbody cdv A' outer s H E (0::ms) hr (by simp;omega)) (mz.tp.same s3) (Kz.of_same s3) fun i H2 p' sm=>⟨fun d hd=>?_,fun hl=>?_⟩⟩
   ·have ha:=SqL.of (K:=K) (zg (sm l3 _ (zT (no3 (vv tb hl3')) zj))).2
    obtain⟨v,hx,av⟩:=(pN (G:=H) (0::ms)).get hd
    refine⟨⟨_,v,ha,hx⟩,fun x' H3 y=>?_⟩
    obtain⟨e,y⟩:=y
    subst e
    have:=y _ ha
    rw[hx] at this;cases this
    rw[zi6,zj0] at hd hx
    obtain⟨z1,q1,rfl⟩:=hd
    obtain⟨z2,q2,rfl⟩:=hx
    rw[q1] at q2;cases q2
    exact⟨zq.refl _,fun _=>.int _⟩
   ·exact⟨_,SqL.of (zg (sm l3 _ (zT (no3 (vv tb hl3')) zj))).2,by rw[zh4] at hl ⊢;exact hl⟩
end
section
variable {X:Cx}{α:Ev}{p pos ap:Pos}{a b c:Expr}{Q:PyData→Prop}
theorem tw (h0:Heap){x:Str}:∀{kvs:List (Str×Value)} {D:List (PyData×PyData)},PyProof.V.FlatPairs PyData.str kvs D→(∀q∈D,∃v,scV q.2=some v)→∃v,scV ((ur D x).getD .none)=some v∧RelV v ((valueAt kvs x).getD .none)
 |_,_,.nil,_=>⟨.non,rfl,rfl⟩
 |_,_,.cons (k:=k) (v:=u) (d:=d') (kvs:=kvs) (D:=D) f r,hs=>by
  unfold ur
  by_cases q:k=x
  ·rw[if_pos q]
   obtain⟨v,hv⟩:=hs (.str k,d') zh3
   refine⟨v,hv,?_⟩
   have e:valueAt ((k,u)::kvs) x=some u:=by simp[valueAt,q]
   rw[e]
   exact fq h0 hv f
  ·rw[if_neg q]
   obtain⟨v,h1,h2⟩:=tw h0 (x:=x) r fun z hz=>hs z (zg7 _ hz)
   refine⟨v,h1,?_⟩
   have e:valueAt ((k,u)::kvs) x=valueAt kvs x:=by simp[valueAt,zl2,q]
   rw[e]
   exact h2
theorem jT {keys:List (Option Expr)}{values:List Expr}{D:List (PyData×PyData)}{ty:TE}(hD:litPairs keys values=some D)(h1:strKeyed D=true)(h2:(strKeysOf D).Nodup)(h3:keys.all (·.isSome)=true)(h4:keys.length=values.length)(h5:keys≠[])(h6:keys.length≤15)(hsc:∀q∈D,∃v,scV q.2=some v)(hi:PE X a ty)
  (hbase:attributeBase (.Dict keys values p) "get" X.env (eval (.Dict keys values p) X.env)=eval (.Dict keys values p) X.env)
  (hfew:((backTo pos (starEach [a] X.env)).all (fun x=>!x.1)&&(backToKw pos (keywordEach [] X.env)).all (fun x=>x.1.isSome)&&decide (([a]:List Expr).length+([]:List Keyword).length+(if ([]:List Keyword).isEmpty then 0 else 1)<30))=true)
  (hline:(ap.endLine == pos.line)=true) (htr:backTo pos (starEach [a] X.env)=[(false,eval a X.env)]):
  PE X (.Call (.Attribute (.Dict keys values p) "get" ap) [a] [] pos) (fun σ H Q=>ty σ H fun y H1=>∃x v,y=.str x∧scV ((ur D x).getD .none)=some v∧Q v H1):=by
 intro pins s σ H Q I h
 refine wpAny_Call_method hbase hfew hline PySem.F.plainAttrs_dict PySem.F.slot_dict_get PySem.F.type_dict_get (Dict_lits_str hD h1 h2 h3 h4 h5 h6 fun ad o h₁ tk hsz ho tab kp=>?_)
 obtain⟨kvs,isd,fl⟩:=tab
 have I1:Inv X pins σ H {s with heap:=h₁,toks:=tk}:=I.kept kp
 have hcell:∀v,o.data≠.cell v:=fun v z=>by
  obtain⟨es,ep,_,e,_⟩:=isd
  rw[e] at z;cases z
 have I1':Inv X ((ad,o)::pins) σ H {s with heap:=h₁,toks:=tk}:=I1.pins_of fun q hq=>by
  rcases zg3.mp hq with rfl|hq
  ·exact⟨ho,I.hok.fresh hsz,fun z=>absurd I.lt (by rw[←z];exact Nat.not_lt.mpr hsz),I.nofs hsz,hcell⟩
  ·exact I1.pin q (by first|exact hq|exact zh2 _ hq|exact zh8 _ hq)
 obtain⟨es,ep,a1,a2,a3,a4,a5⟩:=isd
 have dd1:h₁.DictOf (PySem.strKind X.prog X.w) ad kvs:=⟨o,es,ep,ho,a1,a2,a3,a4,a5⟩
 refine⟨dd1.typeIs,fun z hz=>?_,?_⟩
 ·cases hz
  exact⟨o,ho,a1.2.1⟩
 rw[htr]
 refine Calls.callWith_builtin rfl (Calls.evalArgs_plain (Calls.spliced_cons (thn (hi _ _ σ H _ I1' h) fun iv s2 ⟨y,H2,I2,ry,x,v,ey,hv,q2⟩=>Calls.spliced_nil ?_)))
 subst ey
 obtain⟨t,rfl⟩:=ry
 have hp:=I2.pin (ad,o) (by first|exact zh3|exact zh2 _ zh3|exact zh8 _ zh3)
 have dd:s2.heap.DictOf (PySem.strKind X.prog X.w) ad kvs:=⟨o,es,ep,hp.1,a1,a2,a3,a4,a5⟩
 have I3:Inv X pins σ H2 s2:=I2.pins_of fun q hq=>I2.pin q (by rcases zi0.mp (zh2 X.pn hq) with z|z;exact zh8 _ z;exact zh2 _ (zg7 _ z))
 have hsys:(ad == sysModules)=false:=by
  have hb:sysModules<s.heap.objs.size:=zv6 (by decide) (I.mod.glob.keeps I.bk).lt
  exact zp3.mpr fun z=>absurd hb (by rw[←z];exact Nat.not_lt.mpr hsz)
 refine call_meetsIn PySem.F.slot_dict_get dd.typeIs PySem.F.entry_dict_get (PySem.F.args_dict_get_2 _ _) (meets_dict_get (PySem.strKind X.prog X.w) ad (show (PySem.strKind X.prog X.w).is x (.str x t)=true by simp[PySem.strKind,Value.isStrOf]) hsys) ⟨_,dd.mapOf,?_⟩
 obtain⟨v',g1,g2⟩:=tw s.heap (x:=x) fl hsc
 rw[hv] at g1;cases g1
 exact⟨v,H2,I3.tok _,g2,q2⟩
theorem gh {keys:List (Option Expr)}{values:List Expr}{D:List (PyData×PyData)}(hD:litPairs keys values=some D)(h1:strKeyed D=true)(h2:(strKeysOf D).Nodup)(hsc:∀q∈D,∃v,scV q.2=some v)(h:EvD X α a fun y=>∃x v,y=.str x∧scV ((ur D x).getD .none)=some v∧Q ((ur D x).getD .none))
  (h3:keys.all (·.isSome)=true:=by rfl) (h4:keys.length=values.length:=by rfl) (h5:keys≠[]:=by exact List.cons_ne_nil _ _) (h6:keys.length≤15:=by decide)
  (hbase:attributeBase (.Dict keys values p) "get" X.env (eval (.Dict keys values p) X.env)=eval (.Dict keys values p) X.env:=by rfl)
  (hfew:((backTo pos (starEach [a] X.env)).all (fun x=>!x.1)&&(backToKw pos (keywordEach [] X.env)).all (fun x=>x.1.isSome)&&decide (([a]:List Expr).length+([]:List Keyword).length+(if ([]:List Keyword).isEmpty then 0 else 1)<30))=true:=by rfl)
  (hline:(ap.endLine == pos.line)=true:=by rfl) (htr:backTo pos (starEach [a] X.env)=[(false,eval a X.env)]:=by rfl):EvD X α (.Call (.Attribute (.Dict keys values p) "get" ap) [a] [] pos) Q:=fun F σ H R m k=>by
 refine⟨_,jT hD h1 h2 h3 h4 h5 h6 hsc zi hbase hfew hline htr,?_⟩
 refine h F σ H _ m fun y vy H1 q1 t1 k1 r1=>?_
 obtain⟨x,v,rfl,g2,q⟩:=q1
 cases r1.str_inv
 exact⟨x,v,rfl,g2,k _ _ H1 q t1 k1 (jo g2)⟩
end
section
variable {X:Cx}{α:Ev}{E:yC}{rest:List Stmt}{tg iter:Expr}{pos:Pos}
end
end L2
namespace SetW
open PySem PyProof.Rows
abbrev Up (xs:Array Nat):Prop:=xs.toList.Pairwise (·<·)
def Ris (t:SetTable):Prop:=t.plain=true→Up t.place
theorem Up.lt {xs:Array Nat}(h:Up xs){i j:Nat}(hij:i<j)(hj:j<xs.size):xs[i]'(zv6 hij hj)<xs[j]:=by
 have:=zq4.mp h i j (by simpa using zv6 hij hj) (by simpa using hj) hij
 simpa using this
theorem sg {xs:Array Nat}(h:Up xs)(j:Nat):∀f lo up,up-lo≤f→lo≤up→up≤xs.size→(∀i (hi:i<xs.size),i<lo→xs[i]<j)→(∀i (hi:i<xs.size),up≤i→j≤xs[i])→
  SetTable.below.go xs j f lo up≤xs.size∧(∀i (hi:i<xs.size),i<SetTable.below.go xs j f lo up→xs[i]<j)∧(∀i (hi:i<xs.size),SetTable.below.go xs j f lo up≤i→j≤xs[i])
 |0,lo,up,hf,hle,hs,h1,h2=>by
  have e:lo=up:=by omega
  subst e
  exact⟨hs,h1,h2⟩
 |f+1,lo,up,hf,hle,hs,h1,h2=>by
  unfold SetTable.below.go
  by_cases hlt:lo<up
  ·rw[if_pos hlt]
   have hm:(lo+up) / 2<xs.size:=by omega
   have eg:xs.getD ((lo+up) / 2) j=xs[(lo+up) / 2]:=by simp[Array.getD,hm]
   dsimp only
   rw[eg]
   by_cases hc:xs[(lo+up) / 2]<j
   ·rw[if_pos hc]
    refine sg h j f ((lo+up) / 2+1) up (by omega) (by omega) hs (fun i hi' hl=>?_) h2
    rcases zl0 i ((lo+up) / 2) with z|z
    ·exact zv6 (h.lt z hm) hc
    ·have e:i=(lo+up) / 2:=by omega
     subst e
     exact hc
   ·rw[if_neg hc]
    refine sg h j f lo ((lo+up) / 2) (by omega) (by omega) (by omega) h1 (fun i hi' hl=>?_)
    rcases zl0 ((lo+up) / 2) i with z|z
    ·have:=h.lt z hi'
     omega
    ·have e:i=(lo+up) / 2:=by omega
     subst e
     omega
  ·rw[if_neg hlt]
   have e:lo=up:=by omega
   subst e
   exact⟨hs,h1,h2⟩
theorem vM {xs:Array Nat}(h:Up xs)(j:Nat):SetTable.below xs j≤xs.size∧(∀i (hi:i<xs.size),i<SetTable.below xs j→xs[i]<j)∧(∀i (hi:i<xs.size),SetTable.below xs j≤i→j≤xs[i]):=
 sg h j xs.size 0 xs.size (by omega) (zi5 _) (zg5 _) (fun i _ z=>absurd z (zv7 _)) (fun i hi z=>absurd hi (by omega))
theorem lD {xs:Array Nat}(h:Up xs){i:Nat}(hi:i<xs.size):SetTable.below xs xs[i]=i:=by
 obtain⟨a,b,c⟩:=vM h xs[i]
 rcases zl0 i (SetTable.below xs xs[i]) with z|z
 ·have:=b i hi z
  omega
 ·rcases zl0 (SetTable.below xs xs[i]) i with y|y
  ·have h1:=c _ (by omega) (zg5 _)
   have h2:=h.lt y hi
   omega
  ·omega
theorem oG {xs:Array Nat}(h:Up xs){i:Nat}(hi:i<xs.size):SetTable.below xs (xs[i]+1)=i+1:=by
 obtain⟨a,b,c⟩:=vM h (xs[i]+1)
 rcases zl0 i (SetTable.below xs (xs[i]+1)) with z|z
 ·rcases zl0 (i+1) (SetTable.below xs (xs[i]+1)) with y|y
  ·have h1:=b (i+1) (by omega) y
   have h2:=h.lt (zp4 i) (show i+1<xs.size by omega)
   have e:xs[i.succ]'(by omega)=xs[i+1]'(by omega):=rfl
   omega
  ·omega
 ·have:=c i hi z
  omega
theorem nW {xs:Array Nat}(h:Up xs):SetTable.below xs 0=0:=by
 obtain⟨a,b,c⟩:=vM h 0
 rcases zl0 0 (SetTable.below xs 0) with z|z
 ·have:=b 0 (by omega) z
  omega
 ·omega
def Off (t:SetTable)(j:Nat):Prop:=t.place[SetTable.below t.place j]?≠some j
theorem Off.notin {t:SetTable}{j:Nat}(h:Off t j)(u:Up t.place):j∉t.place.toList:=fun z=>by
 obtain⟨i,hi,e⟩:=zt2 z
 have hi':i<t.place.size:=by simpa using hi
 have e':t.place[i]=j:=by simpa using e
 have:=lD u hi'
 rw[e'] at this
 exact h (by rw[this,zm5 hi',e'])
theorem pE {t:SetTable}{j:Nat}(h:∀i,t.slot j≠.live i):Off t j:=fun z=>by
 refine h (SetTable.below t.place j) ?_
 unfold SetTable.slot
 simp only[z,beq_self_eq_true,zu0]
theorem ui {t:SetTable}{ha:Nat→Int}{hh:Int}:∀f (p:SetTable.Probe) {j:Nat} {d:Option Nat},(∀x,p.dummy=some x→Off t x)→SetTable.probe.go t ha hh f p=some (.empty j d)→Off t j∧∀x,d=some x→Off t x
 |0,p,j,d,_,e=>by cases e
 |f+1,p,j,d,h,e=>by
  unfold SetTable.probe.go at e
  split at e
  ·rename_i hs
   cases e
   exact⟨pE (fun i z=>by rw[hs] at z;cases z),h⟩
  ·rename_i hs
   refine ui f _ (fun x hx=>?_) e
   have:∀q:SetTable.Probe,(t.advance q).dummy=q.dummy:=fun q=>by unfold SetTable.advance;split<;>rfl
   rw[this] at hx
   cases hx
   exact pE fun i z=>by rw[hs] at z;cases z
  ·rename_i i hs
   have:∀q:SetTable.Probe,(t.advance q).dummy=q.dummy:=fun q=>by unfold SetTable.advance;split<;>rfl
   split at e
   ·cases e
   ·exact ui f _ (fun x hx=>by rw[this] at hx;exact h x hx) e
theorem hJ {t:SetTable}{h:Int}{j:Nat}{b:Bool}(e:t.freeSlot h=some (j,b)):Off t j:=by
 unfold SetTable.freeSlot at e
 split at e
 ·rename_i j' d hp
  cases e
  obtain⟨h1,h2⟩:=ui _ _ (fun x hx=>by unfold SetTable.probeStart at hx;cases hx) hp
  cases d with
  |none=>exact h1
  |some x=>exact h2 x rfl
 ·cases e
theorem kH {xs:Array Nat}{j:Nat}(h:Up xs)(hj:j∉xs.toList):Up (SetTable.insertAt xs (SetTable.below xs j) j):=by
 obtain⟨a,b,c⟩:=vM h j
 have e1:∀y∈xs.toList.take (SetTable.below xs j),y<j:=fun y hy=>by
  obtain⟨i,hi,e⟩:=zt2 hy
  rw[zm8] at hi
  rw[List.getElem_take] at e
  have:=b i (by simp at hi;omega) (by omega)
  simp at e
  omega
 have e2:∀y∈xs.toList.drop (SetTable.below xs j),j<y:=fun y hy=>by
  have hne:y≠j:=fun z=>hj (z▸zn1 hy)
  obtain⟨i,hi,e⟩:=zt2 hy
  rw[zu9] at hi
  rw[List.getElem_drop] at e
  have hi':i<xs.size-SetTable.below xs j:=by simpa using hi
  have:=c (SetTable.below xs j+i) (by omega) (by omega)
  simp at e
  omega
 unfold Up
 rw[SetTable.toList_insertAt,zj1]
 refine⟨h.sublist (zo8 _ _),List.pairwise_cons.mpr ⟨e2,h.sublist (zo9 _ _)⟩,fun y hy z hz=>?_⟩
 rcases zg3.mp hz with rfl|hz
 ·exact e1 y hy
 ·exact zv6 (e1 y hy) (e2 z hz)
theorem fA {t:SetTable}(es:Array (Int×Value))(h:Int)(x:Value)(r:Ris t):Ris (layNew t es h x).2.1∧(layNew t es h x).2.1.led=t.led:=by
 unfold layNew
 split
 ·rename_i j b hf
  have ho:=hJ hf
  dsimp only
  unfold SetTable.orStandIn
  split
  ·refine⟨fun hp=>?_,rfl⟩
   exact kH (r hp) (ho.notin (r hp))
  ·exact⟨fun hp=>Bool.noConfusion (show false=true from hp),rfl⟩
 ·exact⟨fun hp=>Bool.noConfusion (show false=true from hp),rfl⟩
theorem lN {t:SetTable}(es:Array (Int×Value))(n:Nat):Ris (relayAll t es n).2.1∧(relayAll t es n).2.1.led=t.led:=by
 unfold relayAll
 split
 ·rename_i t' order hr
  unfold SetTable.relaid SetTable.laid at hr
  cases ho:SetTable.layClean (SetTable.sizeAbove n-1) (es.map (·.1)) with
  |none=>rw[ho] at hr;cases hr
  |some owner=>
   rw[ho] at hr
   cases hr
   dsimp only
   split
   ·refine⟨fun _=>?_,rfl⟩
    show (List.toArray _).toList.Pairwise (·<·)
    rw[List.toList_toArray]
    have key:∀(l:List Nat),l.Pairwise (·<·)→((l.filterMap fun j=>(owner.getD j none).map fun y=>(j,y)).map (·.1)).Pairwise (·<·):=by
     intro l hl
     rw[List.map_filterMap]
     refine List.Pairwise.sublist ?_ hl
     have:∀l:List Nat,(l.filterMap fun j=>Option.map (fun x:Nat×Nat=>x.1) ((owner.getD j none).map fun y=>(j,y))).Sublist l:=by
      intro l
      induction l with
      |nil=>exact .slnil
      |cons a l ih=>
       rw[zt0]
       cases owner.getD a none with
       |none=>exact ih.cons _
       |some y=>exact ih.cons_cons _
     exact this l
    exact key _ List.pairwise_lt_range
   ·exact⟨fun hp=>Bool.noConfusion (show false=true from hp),rfl⟩
 ·exact⟨fun hp=>Bool.noConfusion (show false=true from hp),rfl⟩
section
variable {prog:Program}{w:World}{A:Around}{E:Value→Shared→Prop}{s:Shared}
structure WkO (prog:Program)(w:World)(o:Obj)(S:Int→Bool)(n:Nat)(b:Bool)(es:Array (Int×Value))(ep:Nat)(t:SetTable):Prop where
 ex:o.ExactSet
 dt:o.data=.set es ep t
 el:ElemsOf (intKind prog w) es.toList
 mem:∀k,S k=true↔∃e∈es.toList,(intKind prog w).is k e.2=true
 sb:es.size<scanBound
 fit:t.fits es.size=true
 sz:es.size=n
 led:t.led=b
 ris:Ris t
def Wk (prog:Program)(w:World)(h:Heap)(a:Addr)(S:Int→Bool)(n:Nat)(b:Bool):Prop:=∃o es ep t,h.get? a=some o∧WkO prog w o S n b es ep t
theorem Wk.keep {h h':Heap}{a:Addr}{S:Int→Bool}{n:Nat}{b:Bool}(k:∀o,h.get? a=some o→h'.get? a=some o)(x:Wk prog w h a S n b):Wk prog w h' a S n b:=by
 obtain⟨o,es,ep,t,ho,r⟩:=x
 exact⟨o,es,ep,t,k o ho,r⟩
theorem Wk.congr {h:Heap}{a:Addr}{S S':Int→Bool}{n n':Nat}{b:Bool}(x:Wk prog w h a S n b)(e:∀k,S k=S' k)(en:n=n'):Wk prog w h a S' n' b:=by
 have:S=S':=funext e
 subst this en
 exact x
theorem WkO.put {h:Heap}{a:Addr}{o:Obj}{S S':Int→Bool}{n:Nat}{b b':Bool}{es es':Array (Int×Value)}{ep:Nat}{t t':SetTable}(ho:h.get? a=some o)(x:WkO prog w o S n b es ep t)
  (el:ElemsOf (intKind prog w) es'.toList) (mem:∀k,S' k=true↔∃e∈es'.toList,(intKind prog w).is k e.2=true) (sb:es'.size<scanBound) (fit:t'.fits es'.size=true) (led:t'.led=b') (ris:Ris t'):
  ∃o',(h.update a (Obj.putSet es' t')).get? a=some o'∧WkO prog w o' S' es'.size b' es' (ep+1) t':=by
 refine⟨{o with data:=.set es' (ep+1) t'},?_,x.ex,rfl,el,mem,sb,fit,rfl,led,ris⟩
 have:=zs2 (Obj.putSet es' t') ho (by rw[putSet_of es' t' x.dt];rfl)
 rwa [putSet_of es' t' x.dt] at this
theorem mq {g:Bool→Sem Unit}(hg:∀(d:Bool) (s₁:Shared) (Q':Unit→Shared→Prop),Q' () s₁→wpAny (model prog w) A (g d) Q' E s₁){a:Addr}{o:Obj}{S S':Int→Bool}{n:Nat}{b:Bool}{es es1:Array (Int×Value)}{ep:Nat}{t t2:SetTable}
  (ho:s.heap.get? a=some o) (x:WkO prog w o S n b es ep t) (el:ElemsOf (intKind prog w) es1.toList) (mem:∀k,S' k=true↔∃e∈es1.toList,(intKind prog w).is k e.2=true) (sb:es1.size<scanBound) (fit:t2.fits es1.size=true) (led:t2.led=b) (ris:Ris t2)
  {wd:Bool} {R:Option Bool→Shared→Prop} (h:∀h',Heap.SameBut a s.heap h'→Wk prog w h' a S' es1.size b→R (some true) {s with heap:=h'}):
  wpAny (model prog w) A (storeSet a es1 t2 >>= fun _=>if (!wd&&t2.tooFull)=true then (g (relayAll t2 es1 (SetTable.grown es1.size)).2.2 >>= fun _=>storeSet a (relayAll t2 es1 (SetTable.grown es1.size)).1 (relayAll t2 es1 (SetTable.grown es1.size)).2.1 >>= fun _=>pure (some true)) else pure (some true)) R E s:=by
 refine zg0 (wpAny_storeSet_of ho x.dt ?_ (zu5 sb))
 obtain⟨o1,ho1,x1⟩:=x.put ho el mem sb fit led ris
 have same:=Heap.SameBut.update s.heap a (Obj.putSet es1 t2)
 split
 ·obtain⟨rr,rl⟩:=lN (t:=t2) es1 (SetTable.grown es1.size)
  have pm:=relayAll_perm t2 es1 (SetTable.grown es1.size)
  have ft:=relayAll_fits t2 es1 (SetTable.grown es1.size)
  generalize relayAll t2 es1 (SetTable.grown es1.size)=Z at rr rl pm ft
  obtain⟨es2,t3,gv⟩:=Z
  dsimp only at rr rl pm ft ⊢
  have sz:es2.size=es1.size:=by rw[←zl5,pm.length_eq,zl5]
  refine zg0 (hg _ _ _ (zg0 (wpAny_storeSet_of ho1 x1.dt ?_ (zu5 (by omega)))))
  obtain⟨o2,ho2,x2⟩:=x1.put (es':=es2) (t':=t3) ho1 (el.perm pm) (fun k=>(mem k).trans ⟨fun⟨e,he,q⟩=>⟨e,pm.mem_iff.mpr he,q⟩,fun⟨e,he,q⟩=>⟨e,pm.mem_iff.mp he,q⟩⟩) (by omega) ft (rl.trans led) rr
  rw[sz] at x2
  exact zg4 (h _ (same.trans (Heap.SameBut.update _ a _)) ⟨o2,es2,_,t3,ho2,x2⟩)
 ·exact zg4 (h _ same ⟨o1,es1,_,t2,ho1,x1⟩)
theorem bH {a:Addr}{S:Int→Bool}{n:Nat}{b:Bool}{k:Int}{tk:Tok}{Q:Bool→Shared→Prop}(x:Wk prog w s.heap a S n b)(hroom:n+1<scanBound)
  (h:∀h',Heap.SameBut a s.heap h'→Wk prog w h' a (fun j=>S j||decide (j=k)) (if S k then n else n+1) b→∀r,Q r {s with heap:=h'}):
  wpAny (model prog w) A (setAddHashed a (.int k tk) ((intKind prog w).hash k)) Q E s:=by
 obtain⟨o,es,ep,t,ho,x⟩:=x
 have hkey:(intKind prog w).is k (.int k tk)=true:=intKind_is _ _ _ _
 have hsc:(Value.int k tk).scannable=true:=rfl
 unfold setAddHashed setAddHashedIn
 refine zo0 (zg0 (zp0 ho x.dt x.fit ?_))
 dsimp only
 rw[byScan_of hsc x.sb x.el,if_pos rfl]
 unfold setAddByScan
 refine zg0 (zg0 (zo7 (zg0 (wpAny_setScan_of hkey ho x.dt x.fit x.el ?_))))
 cases hr:List.findIdx? (fun e=>(intKind prog w).is k e.2) es.toList with
 |some j=>
  obtain⟨hj,hpj,_⟩:=List.findIdx?_eq_some_iff_getElem.mp hr
  have hSk:S k=true:=(x.mem k).mpr ⟨_,zm2 hj,hpj⟩
  refine zg4 (zg4 ?_)
  have q:=h s.heap (Heap.SameBut.refl a s.heap) ⟨o,es,ep,t,ho,x.ex,x.dt,x.el,fun k'=>by
   rw[zn7,zk4,←x.mem k']
   exact⟨fun z=>z.elim id fun e=>e▸hSk,.inl⟩,x.sb,x.fit,by rw[hSk];exact x.sz,x.led,x.ris⟩
  cases s
  exact q _
 |none=>
  have hSk:S k=false:=by
   cases hk:S k with
   |false=>rfl
   |true=>
    obtain⟨e,he,hp⟩:=(x.mem k).mp hk
    have:=List.findIdx?_eq_none_iff.mp hr e he
    rw[hp] at this;cases this
  obtain⟨nr,nl⟩:=fA es ((intKind prog w).hash k) (.int k tk) x.ris
  have pm:=layNew_perm t es ((intKind prog w).hash k) (.int k tk)
  have ft:=layNew_fits t es ((intKind prog w).hash k) (.int k tk)
  dsimp only
  generalize layNew t es ((intKind prog w).hash k) (.int k tk)=L at nr nl pm ft
  obtain⟨es1,t1,wd,gv⟩:=L
  dsimp only at nr nl pm ft ⊢
  rw[zp1] at pm
  have sz1:es1.size=n+1:=by rw[←zl5,pm.length_eq,zj2,zl5,x.sz];rfl
  have el1:ElemsOf (intKind prog w) es1.toList:=(x.el.push hkey hsc).perm pm
  have mem1:∀j,(S j||decide (j=k))=true↔∃e∈es1.toList,(intKind prog w).is j e.2=true:=mem_push_iff hkey x.mem pm
  have fin:∀h',Heap.SameBut a s.heap h'→Wk prog w h' a (fun j=>S j||decide (j=k)) es1.size b→∀r,Q r {s with heap:=h'}:=fun h' sb y=>by
   have:=h h' sb
   rw[hSk] at this
   exact this (y.congr (fun _=>rfl) sz1)
  refine zg0 ?_
  have gw:∀(d:Bool) (s₁:Shared) (Q':Unit→Shared→Prop),Q' () s₁→wpAny (model prog w) A (match d with|true=>rule "set.scan.the-table-gave-way"|false=>pure ()) Q' E s₁:=fun d s₁ Q' hq=>by
   cases d
   ·exact zg4 hq
   ·exact zo7 hq
  refine gw _ _ _ ?_
  have sb1:es1.size<scanBound:=by omega
  split
  ·rw[show hashByValue 8 (Value.int k tk)=pure true from rfl]
   refine zg0 (zg4 ?_)
   simp only[zu0]
   refine mq ?_ ho x el1 mem1 sb1 ft (nl.trans x.led) nr fun h' sb y=>zg4 (fin h' sb y _)
   intro d s₁ Q' hq
   cases d<;>first|exact zg4 hq|exact zo7 hq
  ·refine zg0 (zg4 ?_)
   simp only[zu0]
   refine mq ?_ ho x el1 mem1 sb1 ft (nl.trans x.led) nr fun h' sb y=>zg4 (fin h' sb y _)
   intro d s₁ Q' hq
   cases d<;>first|exact zg4 hq|exact zo7 hq
end
def xi (w:World):Bool:=!w.params.followText "set-order"
abbrev uL (w:World):Obj:={cls:=.type "set",dict:=none,data:=.set #[] 0 (.fresh 0 0 (xi w))}
theorem dm {prog:Program}{w:World}:WkO prog w (uL w) (fun _=>false) 0 (xi w) #[] 0 (.fresh 0 0 (xi w)):=
 ⟨⟨rfl,rfl,rfl⟩,rfl,fun e he=>by simp at he,fun k=>by simp,by decide,by rfl,rfl,rfl,fun _=>.nil⟩
section
variable {prog:Program}{w:World}{A:Around}{E:Value→Shared→Prop}{s:Shared}
theorem aw (v:Value){Q₁:Value→Shared→Prop}(h:Q₁ (.ref s.heap.objs.size) {s with heap:=s.heap.push (uL w)}):codeAny (model prog w) A (.call (.builtin "set.__new__") ⟨[.type "set",v],[]⟩) (wants Q₁ E) s:=by
 refine codeAny_of_tree ?_
 show wpAny _ A.in1 (checkBuiltinCall "set.__new__" ⟨[.type "set",v],[]⟩ >>= fun _=>again (.builtin "set.__new__" ⟨[.type "set",v],[]⟩)) _ _ s
 refine zg0 (zs0 (F.newCall_set_1 v) (zg4 ⟨plainId_quiet F.plain_set_new _,zr7 F.entry_set_new ?_⟩))
 rw[zq5 F.plain_set_new _]
 unfold Builtin.«set.__new__» Builtin.Frozenset.newClass
 have hsub:=sub_set_self
 obtain⟨hp,g,d,tk,os⟩:=s
 dsimp only
 wp_walk
 refine zp6 (zg4 ?_)
 simp only[newObj]
 exact zg0 (wpAny_alloc (zg4 (zg4 h)))
end
section
variable {prog:Program}{w:World}{A:Around}{R:Result→Shared→Prop}{I:Addr}{fp wr:List Addr}{G:Array GenState→Array GenState→Prop}{n:Nat}{P:Nat→Value→Prop}{St:Nat→Shared→Prop}{b:Bool}
theorem eS (W:WalksS prog w A.in1 I fp wr G n P St)(S:Addr)(hSf:S∉fp)(val:Nat→Int)(hval:∀i v,P i v→∃t,v=.int (val i) t)(hb:n+1<scanBound):
  ∀(k i:Nat) (s:Shared),n-i=k→i≤n→St i s→Wk prog w s.heap S (fun j=>(firstMet val i).any (· == j)) (firstMet val i).length b→
   (∀s',Moved (S::wr) G s s'→Wk prog w s'.heap S (fun j=>(firstMet val n).any (· == j)) (firstMet val n).length b→R (.ok (.ret .none)) s')→
   codeAny (model prog w) A (.builtin "set.update.loop" ⟨[.ref S,.ref I],[]⟩) R s:=by
 have hSw:S∉wr:=fun h=>hSf (W.sub _ h)
 have hsub:∀c∈wr,c∈S::wr:=fun c hc=>zg7 _ hc
 intro k
 induction k with
 |zero=>
  intro i s hk hi hst x hR
  have e:i=n:=by omega
  subst e
  refine zr7 F.entry_set_update_loop ?_
  rw[zq5 F.plain_set_update_loop _]
  exact zg0 (W.done s _ _ hst fun s' hm=>zg4 (hR s' (hm.mono hsub) (x.keep fun o ho=>hm.heap S _ hSw ho)))
 |succ k ih=>
  intro i s hk hi hst x hR
  have hlt:i<n:=by omega
  refine zr7 F.entry_set_update_loop ?_
  rw[zq5 F.plain_set_update_loop _]
  refine zg0 (W.item i s _ _ hlt hst fun v s' hP hst' hm=>?_)
  obtain⟨t,rfl⟩:=hval i v hP
  have x1:Wk prog w s'.heap S (fun j=>(firstMet val i).any (· == j)) (firstMet val i).length b:=x.keep fun o ho=>hm.heap S _ hSw ho
  show wpAny _ A.in1 (holding [Value.int (val i) t] (setAdd S (.int (val i) t)) >>= _) _ _ s'
  refine zg0 (zo0 ?_)
  unfold setAdd
  refine zo0 (zg0 ((intKind prog w).pyHash (k:=val i) (intKind_is _ _ _ _) ?_))
  have room:(firstMet val i).length+1<scanBound:=by have:=firstMet_length_le val i;omega
  refine bH (s:={s' with toks:=s'.toks+1}) x1 room fun h' hsb x2 r=>?_
  have x3:Wk prog w h' S (fun j=>(firstMet val (i+1)).any (· == j)) (firstMet val (i+1)).length b:=x2.congr (fun j=>by rw[firstMet_succ,step_any]) (by rw[firstMet_succ,step_length])
  refine zg4 ⟨plainId_quiet F.plain_set_update_loop _,ih (i+1) _ (by omega) hlt (W.frame _ s' _ _ hst' (zp7 _) fun c hc o e=>?_) x3 fun s'' hm'' x4=>?_⟩
  ·rw[hsb.2 c fun z=>hSf (by rw[←z];exact hc)];exact e
  ·refine hR s'' (Moved.trans W.gtrans ((hm.mono hsub).then_heap (zp7 _) fun c o hc e=>?_) hm'') x4
   rw[hsb.2 c fun z=>hc (by rw[z];exact zh3)];exact e
end
section
variable {prog:Program}{w:World}{A:Around}{E:Value→Shared→Prop}{s:Shared}
set_option maxHeartbeats 3200000 in
theorem tR {l:Addr}{its:Array Value}{ns:List Int}{Q:Value→Shared→Prop}(hh:A.handled=none)(hl:s.heap.IsList l its)(hi:IntsAre its.toList ns)(hb:its.size+1<scanBound)
  (h:∀(h':Heap) (tk:Nat),Wk prog w h' s.heap.objs.size (fun j=>(firstMet (fun i=>ns.getD i 0) its.size).any (· == j)) (firstMet (fun i=>ns.getD i 0) its.size).length (xi w)→
   (∀c o,c<s.heap.objs.size→s.heap.get? c=some o→h'.get? c=some o)→Q (.ref s.heap.objs.size) {s with heap:=h',toks:=tk}):wpAny (model prog w) A (call (.type "set") [.ref l]) Q E s:=by
 obtain⟨c,tl,hmro⟩:=zq9.mro
 have hmade:=zq9.made
 have hsub:=zq9.sub
 refine wpAny_call (codeAny_of_tree ?_)
 show wpAny _ _ (callAny (.type "set") _) _ _ _
 refine zg4 ⟨Code.quiet_builtin _ (by decide +kernel),zr7 F.entry_type_call ?_⟩
 rw[Around.under_plain (weight_type_call_type "set" [.ref l] []) rfl]
 have h1:=zq9.notType
 have h2:=zq9.canCreate
 have hct:=F.typeCall_set_1 (.ref l)
 repeat (any_goals (first|assumption|wp_step))
 refine zt6 (aw (.ref l) (E:=E) (Q₁:=fun ob s₁=>ob=.ref s.heap.objs.size∧s₁={s with heap:=s.heap.push (uL w)}) ⟨rfl,rfl⟩) fun r s₁ hr=>?_
 cases r with
 |error e=>exact hr
 |ok fl=>
  cases fl with
  |ret ob=>
   obtain⟨rfl,rfl⟩:=hr
   have hS:(s.heap.push (uL w)).get? s.heap.objs.size=some (uL w):=zh9 _ rfl
   have hT:Shared.TypeIs {s with heap:=s.heap.push (uL w)} (.ref s.heap.objs.size) "set":=⟨_,hS,rfl⟩
   have hli:=zq9.init.lookup
   have hbi:=zq9.init.bind (.ref s.heap.objs.size)
   repeat (any_goals (first|assumption|wp_step))
   refine zt6 (codeAny_call_builtin (R:=wants (fun r s₂=>r=.none∧∃h' tk,s₂={s with heap:=h',toks:=tk}∧Wk prog w h' s.heap.objs.size (fun j=>(firstMet (fun i=>ns.getD i 0) its.size).any (· == j)) (firstMet (fun i=>ns.getD i 0) its.size).length (xi w)∧
     (∀c o,c<s.heap.objs.size→s.heap.get? c=some o→h'.get? c=some o)) E) zq9.init.plain F.entry_set_init (check_set_init_1 hT ?_)) fun r₂ s₂ hr₂=>?_
   ·obtain⟨ol,hol,hcl,nl,hdl⟩:=hl
    obtain⟨ocls,odict,odata,oslots⟩:=ol
    simp only at hcl hdl
    subst hcl hdl
    have hol':(s.heap.push (uL w)).get? l=some {cls:=.type "list",dict:=odict,data:=.seq its nl,slots:=oslots}:=zg8 _ hol
    have hsls:=F.sub_list_set
    have hslf:=F.sub_list_frozenset
    have hne:(Value.type "list" == Value.type "dict")=false:=by decide
    have hl1:(s.heap.push (uL w)).IsList l its:=⟨_,hol',rfl,nl,rfl⟩
    unfold Builtin.«set.__init__» noKeywords Builtin.Frozenset.updateFrom
    generalize hPI:pyIter=PI
    wp_walk
    subst hPI
    refine wpAny_pyIter_list hl1 (zg0 (wpAny_runValue ?_))
    have hlS:l<s.heap.objs.size:=zh7 hol
    have sz:(s.heap.push (uL w)).objs.size=s.heap.objs.size+1:=zs1 _ _
    have hneI:l≠(s.heap.push (uL w)).objs.size:=by rw[sz];exact zi3 (zn4 hlS)
    have hSf:s.heap.objs.size∉[(s.heap.push (uL w)).objs.size,l]:=by
     rw[sz]
     simp only[zg3,zg9,zj8,not_or]
     exact⟨zi3 (zp4 _),zv2 hlS⟩
    refine eS ((Walks.list (by simp[hh]) _ l hneI its).toS) s.heap.objs.size hSf (fun i=>ns.getD i 0) (fun i v hv=>IntsAre.int_at hi i v (by rw[zo3];exact hv)) hb (its.size-0) 0 _ (by omega) (zi5 _)
     ⟨⟨_,zh9 _ rfl,rfl,rfl⟩,hl1.push _⟩ ⟨uL w,_,_,_,zg8 _ hS,dm⟩ fun s' hm x=>?_
    obtain⟨h',g',d',tk',os'⟩:=s'
    have eg:g'=s.gens:=hm.gens
    have ed:d'=s.drawn:=hm.drawn
    have eo:os'=s.os:=hm.os
    subst eg ed eo
    refine zg4 (zg4 ⟨rfl,h',tk',rfl,x,fun c o hc e=>?_⟩)
    refine hm.heap c o ?_ (zg8 _ (zg8 _ e))
    rw[sz]
    simp only[zg3,zg9,zj8,not_or]
    exact⟨zi3 hc,zi3 (zn4 hc)⟩
   ·cases r₂ with
    |error e=>exact hr₂
    |ok fl₂=>
     cases fl₂ with
     |ret r=>
      obtain⟨rfl,h',tk,rfl,x,hk⟩:=hr₂
      repeat (any_goals (first|assumption|wp_step))
      exact h _ _ x hk
     |_=>exact hr₂.elim
  |_=>exact hr.elim
end
theorem vp {α:Type}:∀(l:List α) (i:Nat) (x:α),l[i]?=some x→(x::l.eraseIdx i).Perm l
 |[],i,x,h=>by simp at h
 |a::l,0,x,h=>by simp at h;subst h;exact .refl _
 |a::l,i+1,x,h=>by
  have h':l[i]?=some x:=by simpa using h
  exact (List.Perm.swap a x (l.eraseIdx i)).trans ((vp l i x h').cons a)
theorem nZ {α:Type}(next:Nat→Nat):∀(f k:Nat) (left:List α) (out:Array α),left.length=f→(pickOrder.go next f k left out).toList.Perm (out.toList++left)
 |0,k,left,out,e=>by
  rw[zr3.mp e,zo6]
  exact .refl _
 |f+1,k,left,out,e=>by
  unfold pickOrder.go
  have hl:next k % left.length<left.length:=Nat.mod_lt _ (by omega)
  rw[zh0 hl]
  dsimp only
  refine (nZ next f (k+1) _ _ (by rw[List.length_eraseIdx];split<;>omega)).trans ?_
  rw[zp1,zi2]
  exact zk5 _ (vp left _ _ (zh0 hl))
theorem uq {α:Type}(next:Nat→Nat)(xs:Array α):(pickOrder next xs).toList.Perm xs.toList:=by
 have:=nZ next xs.size 0 xs.toList #[] (by simp)
 simpa[pickOrder] using this
section
variable {prog:Program}{w:World}{A:Around}{E:Value→Shared→Prop}
theorem lF {M:Model}{src:Source}{n:Nat}{s:Shared}{Q:Nat→Shared→Prop}(hn:n≠0)(h:∀i d,i<n→Q i {s with drawn:=d}):wpAny M A (choose src n) Q E s:=fun _ _ _=>⟨hn,h _ _ (Nat.mod_lt _ (Nat.pos_of_ne_zero hn))⟩
theorem mC {α:Type}:∀(n:Nat) (xs:List α) {s:Shared} {Q:List α→Shared→Prop},xs.length=n→(∀ys d,ys.Perm xs→Q ys {s with drawn:=d})→wpAny (model prog w) A (drawOrder n xs) Q E s
 |0,xs,s,Q,e,h=>by
  rw[zr3.mp e] at h
  cases s
  exact zg4 (h [] _ (.refl _))
 |n+1,[],s,Q,e,h=>by cases e
 |n+1,x::xs,s,Q,e,h=>by
  unfold drawOrder
  refine zg0 (lF (by simp) fun i d0 hl=>?_)
  rw[zh0 hl]
  dsimp only
  refine zg0 (mC n _ (by rw[List.length_eraseIdx,if_pos hl];simp at e ⊢;omega) fun ys d hy=>zg4 ?_)
  exact h _ d ((hy.cons _).trans (vp _ _ _ (zh0 hl)))
end
theorem yy :Slot "set_iterator" "__next__" "set_iterator.__next__":=
 .of (owner:="set_iterator") (n:="__next__") (by rw[typeLookup_type,builtinLookup_eq_fast];kernel_rfl) (by decide +kernel) (by decide +kernel) (by decide +kernel) (by first|exact .inl (by decide +kernel)|exact .inr (by decide +kernel)) (by rw[isSubtype_type];kernel_rfl)
theorem wV :entryFor table "set_iterator.__next__"=some Builtin.«set_iterator.__next__»:=entryFor_of_fast (by kernel_rfl)
theorem vC (a:Value):argsOk "set_iterator.__next__" ⟨[a],[]⟩:=by unfold argsOk;kernel_rfl
theorem lG :entryFor table "set.__iter__"=some Builtin.«frozenset.__iter__»:=entryFor_alias (id':="frozenset.__iter__") (by kernel_rfl) rfl (by decide +kernel) (by kernel_rfl)
abbrev itO (f:Value)(i:Nat)(a:Addr)(n ep:Nat):Obj:={cls:=.type "set_iterator",data:=.fields #[f,.int i 0,.ref a,.int n 0,.int ep 0]}
section
variable {prog:Program}{w:World}{A:Around}{E:Value→Shared→Prop}{s:Shared}{I a:Addr}{i n ep:Nat}{o:Obj}{es:Array (Int×Value)}{S:Int→Bool}{m:Nat}{b:Bool}{t:SetTable}{Q:Option Value→Shared→Prop}
theorem de {sl sl':Nat}{v:Value}(ho:s.heap.get? I=some (itO (.int sl 0) i a n ep))(hoa:s.heap.get? a=some o)(x:WkO prog w o S m b es ep t)(hn:es.size=n)
  (hN:∀(A':Around) (E:Value→Shared→Prop) (Q':Option (Value×Nat)→Shared→Prop),Q' (some (v,sl')) s→wpAny (model prog w) A' (setNext a sl i ep) Q' E s)
  (hQ:∀h',h'.get? I=some (itO (.int sl' 0) (i+1) a n ep)→Heap.SameBut I s.heap h'→Q (some v) {s with heap:=h'}):wpAny (model prog w) A (pyNext (.ref I)) Q E s:=by
 have hT:s.TypeIs (.ref I) "set_iterator":=⟨_,ho,rfl⟩
 unfold pyNext
 refine zg0 (zu8 (zr4 (name:=Str.ofString "__next__") hT yy (zo2 yy hT wV ?_ (vC _))))
 unfold Builtin.«set_iterator.__next__»
 refine zg0 (zs0 (a:=(Value.ref I,([]:List Value))) (by rfl) (zg0 (wpAny_fieldsOf ho rfl ?_)))
 refine zg0 (zr0 hoa x.dt x.fit ?_)
 rw[hn]
 refine zk2 (fun z=>absurd z (by simp)) (fun _=>?_)
 refine zg0 (hN _ _ _ ?_)
 refine zg0 (zq1 ho (by simp) fun h1 e1 s1=>?_)
 refine zg0 (zq1 e1 (by simp) fun h2 e2 s2=>?_)
 exact zg4 ⟨v,rfl,zg4 (hQ h2 e2 (s1.trans s2))⟩
theorem cz {sl:Nat}(hh:A.handled=none)(ho:s.heap.get? I=some (itO (.int sl 0) i a n ep))(hoa:s.heap.get? a=some o)(x:WkO prog w o S m b es ep t)(hn:es.size=n)
  (hN:∀(A':Around) (E:Value→Shared→Prop) (Q':Option (Value×Nat)→Shared→Prop),Q' none s→wpAny (model prog w) A' (setNext a sl i ep) Q' E s)
  (hQ:∀h',Heap.ExtBut I s.heap h'→Q none {s with heap:=h'}):wpAny (model prog w) A (pyNext (.ref I)) Q E s:=by
 have hT:s.TypeIs (.ref I) "set_iterator":=⟨_,ho,rfl⟩
 unfold pyNext
 refine zg0 (zu8 (zr4 (name:=Str.ofString "__next__") hT yy (zo2 yy hT wV ?_ (vC _))))
 unfold Builtin.«set_iterator.__next__»
 refine zg0 (zs0 (a:=(Value.ref I,([]:List Value))) (by rfl) (zg0 (wpAny_fieldsOf ho rfl ?_)))
 refine zg0 (zr0 hoa x.dt x.fit ?_)
 rw[hn]
 refine zk2 (fun z=>absurd z (by simp)) (fun _=>?_)
 refine zg0 (hN _ _ _ ?_)
 refine zg0 (zq1 ho (by simp) fun h1 e1 s1=>?_)
 refine zg0 ?_
 simp only[newExc,newTuple]
 refine zg0 (zn5 ?_ (by size_fits))
 refine zg0 (m:=firstArgMember _ _) (zs0 (a:=Value.none) (by first|rfl|(simp only[firstArgMember];rfl)) ?_)
 refine zn5 ?_ (by size_fits)
 simp only[raiseNew]
 refine zg0 (wpAny_handled ?_)
 rw[show A.in1.handled=none from hh]
 refine zg0 (zg4 (wpAny_throw ?_))
 refine zg0 (wpAny_isInstance (T:="StopIteration") (b:=true) ⟨_,zh9 _ rfl,rfl⟩ isSubtype_stop ?_)
 exact zg4 (hQ _ ((s1.extBut.push _).push _))
theorem jK {tp:Addr}{ot:Obj}{places:Array Value}{c:Nat}{k:Nat}{u:Tok}{e:Int×Value}(ho:s.heap.get? I=some (itO (.ref tp) i a n ep))(hot:s.heap.get? tp=some ot)(hdt:ot.data=.seq places c)(hoa:s.heap.get? a=some o)(x:WkO prog w o S m b es ep t)(hn:es.size=n)
  (hp:places[i]?=some (.int k u)) (he:es[k]?=some e)
  (hQ:∀h',h'.get? I=some (itO (.ref tp) (i+1) a n ep)→Heap.SameBut I s.heap h'→Q (some e.2) {s with heap:=h'}):wpAny (model prog w) A (pyNext (.ref I)) Q E s:=by
 have hT:s.TypeIs (.ref I) "set_iterator":=⟨_,ho,rfl⟩
 unfold pyNext
 refine zg0 (zu8 (zr4 (name:=Str.ofString "__next__") hT yy (zo2 yy hT wV ?_ (vC _))))
 unfold Builtin.«set_iterator.__next__»
 refine zg0 (zs0 (a:=(Value.ref I,([]:List Value))) (by rfl) (zg0 (wpAny_fieldsOf ho rfl ?_)))
 refine zg0 (zr0 hoa x.dt x.fit ?_)
 rw[hn]
 refine zk2 (fun z=>absurd z (by simp)) (fun _=>?_)
 refine zg0 (wpAny_seqItems hot hdt ?_)
 dsimp only
 rw[zu6,hp]
 dsimp only
 unfold setNextDrawn
 refine zg0 (zg0 (zp0 hoa x.dt x.fit ?_))
 dsimp only
 rw[zu6,zu6]
 refine zk2 (fun z=>absurd z (by simp)) (fun _=>?_)
 rw[he]
 refine zg4 ?_
 refine zg0 (zq1 ho (by simp) fun h2 e2 s2=>?_)
 exact zg4 ⟨e.2,rfl,zg4 (hQ h2 e2 s2)⟩
theorem eW {tp:Addr}{ot:Obj}{places:Array Value}{c:Nat}(hh:A.handled=none)(ho:s.heap.get? I=some (itO (.ref tp) i a n ep))(hot:s.heap.get? tp=some ot)(hdt:ot.data=.seq places c)(hoa:s.heap.get? a=some o)(x:WkO prog w o S m b es ep t)(hn:es.size=n)
  (hp:places[i]?=none) (hQ:∀h',Heap.ExtBut I s.heap h'→Q none {s with heap:=h'}):wpAny (model prog w) A (pyNext (.ref I)) Q E s:=by
 have hT:s.TypeIs (.ref I) "set_iterator":=⟨_,ho,rfl⟩
 unfold pyNext
 refine zg0 (zu8 (zr4 (name:=Str.ofString "__next__") hT yy (zo2 yy hT wV ?_ (vC _))))
 unfold Builtin.«set_iterator.__next__»
 refine zg0 (zs0 (a:=(Value.ref I,([]:List Value))) (by rfl) (zg0 (wpAny_fieldsOf ho rfl ?_)))
 refine zg0 (zr0 hoa x.dt x.fit ?_)
 rw[hn]
 refine zk2 (fun z=>absurd z (by simp)) (fun _=>?_)
 refine zg0 (wpAny_seqItems hot hdt ?_)
 dsimp only
 rw[zu6,hp]
 refine zg0 (zq1 ho (by simp) fun h0 e0 s0=>?_)
 refine zg0 (zq1 e0 (by simp) fun h1 e1 s1=>?_)
 refine zg0 ?_
 simp only[newExc,newTuple]
 refine zg0 (zn5 ?_ (by size_fits))
 refine zg0 (m:=firstArgMember _ _) (zs0 (a:=Value.none) (by first|rfl|(simp only[firstArgMember];rfl)) ?_)
 refine zn5 ?_ (by size_fits)
 simp only[raiseNew]
 refine zg0 (wpAny_handled ?_)
 rw[show A.in1.handled=none from hh]
 refine zg0 (zg4 (wpAny_throw ?_))
 refine zg0 (wpAny_isInstance (T:="StopIteration") (b:=true) ⟨_,zh9 _ rfl,rfl⟩ isSubtype_stop ?_)
 exact zg4 (hQ _ (((s0.trans s1).extBut.push _).push _))
theorem oH (hoa:s.heap.get? a=some o)(x:WkO prog w o S m b es ep t)(hl:xi w=true)(hb:b=true)(hp:(!t.plain&&decide (es.size > 1))=false)(hi:i<es.size)(A':Around)(E:Value→Shared→Prop)(Q':Option (Value×Nat)→Shared→Prop){sl:Nat}(hs:SetTable.below t.place sl=i)
  (q:∀(hi':i<t.place.size),Q' (some (es[i].2,t.place[i]+1)) s):wpAny (model prog w) A' (setNext a sl i ep) Q' E s:=by
 have ht:w.params.followText "set-order"=false:=by simpa[xi] using hl
 have hpl:t.place.size=es.size:=by
  have:=x.fit
  simp only[SetTable.fits,zi9,zs5] at this
  exact this.1
 unfold setNext
 refine zg0 (zp0 hoa x.dt x.fit ?_)
 dsimp only
 unfold setsByText
 refine zg0 (zg0 (zp6 (zg4 ?_)))
 refine zk2 (fun z=>absurd z (by show ¬(w.params.followText "set-order"=true);rw[ht];decide)) (fun _=>?_)
 have hb2:t.led=true:=x.led.trans hb
 refine zk2 (fun z=>absurd (show (!t.plain&&decide (es.size > 1))=true from z) (by rw[hp];decide)) (fun _=>?_)
 refine zg0 ((?_:wpAny (model prog w) A' (if (!t.led&&!es.isEmpty)=true then unsupported "set:maker-not-led" else pure ()) _ E s))
 rw[hb2]
 refine zg4 ?_
 rw[hs,zm5 hi,zm5 (show i<t.place.size by omega)]
 exact zg4 (q (by omega))
theorem kE (hoa:s.heap.get? a=some o)(x:WkO prog w o S m b es ep t)(hl:xi w=true)(hb:b=true)(hp:(!t.plain&&decide (es.size > 1))=false)(A':Around)(E:Value→Shared→Prop)(Q':Option (Value×Nat)→Shared→Prop){sl:Nat}(hs:SetTable.below t.place sl=es.size)
  (q:Q' none s):wpAny (model prog w) A' (setNext a sl i ep) Q' E s:=by
 have ht:w.params.followText "set-order"=false:=by simpa[xi] using hl
 unfold setNext
 refine zg0 (zp0 hoa x.dt x.fit ?_)
 dsimp only
 unfold setsByText
 refine zg0 (zg0 (zp6 (zg4 ?_)))
 refine zk2 (fun z=>absurd z (by show ¬(w.params.followText "set-order"=true);rw[ht];decide)) (fun _=>?_)
 have hb2:t.led=true:=x.led.trans hb
 refine zk2 (fun z=>absurd (show (!t.plain&&decide (es.size > 1))=true from z) (by rw[hp];decide)) (fun _=>?_)
 refine zg0 ((?_:wpAny (model prog w) A' (if (!t.led&&!es.isEmpty)=true then unsupported "set:maker-not-led" else pure ()) _ E s))
 rw[hb2]
 refine zg4 ?_
 rw[hs,Array.getElem?_eq_none (zg5 _)]
 exact zg4 q
theorem rq (hoa:s.heap.get? a=some o)(x:WkO prog w o S m b es ep t)(hl:xi w=false)(A':Around)(E:Value→Shared→Prop)(Q':Option (Value×Nat)→Shared→Prop){sl:Nat}
  (q:Q' (((pickOrder (w.params.setOrder a ep) es)[i]?).map fun e=>(e.2,sl)) s):wpAny (model prog w) A' (setNext a sl i ep) Q' E s:=by
 have ht:w.params.followText "set-order"=true:=by simpa[xi] using hl
 unfold setNext
 refine zg0 (zp0 hoa x.dt x.fit ?_)
 dsimp only
 unfold setsByText
 refine zg0 (zg0 (zp6 (zg4 ?_)))
 refine zk2 (fun _=>?_) (fun z=>absurd ht z)
 refine zk2 (fun z=>absurd z (by simp)) (fun _=>?_)
 unfold setWalk
 refine zg0 (zg0 (zp0 hoa x.dt x.fit ?_))
 dsimp only
 unfold setsByText
 refine zg0 (zg0 (zp6 (zg4 ?_)))
 refine zk2 (fun _=>?_) (fun z=>absurd ht z)
 exact zg0 (zp6 (zg4 (zg4 q)))
end
theorem pO :Slot "set_iterator" "__iter__" "set_iterator.__iter__":=
 .of (owner:="set_iterator") (n:="__iter__") (by rw[typeLookup_type,builtinLookup_eq_fast];kernel_rfl) (by decide +kernel) (by decide +kernel) (by decide +kernel) (by first|exact .inl (by decide +kernel)|exact .inr (by decide +kernel)) (by rw[isSubtype_type];kernel_rfl)
theorem lO :entryFor table "set_iterator.__iter__"=some Builtin.«dict_keyiterator.__iter__»:=entryFor_alias (id':="dict_keyiterator.__iter__") (by kernel_rfl) rfl (by decide +kernel) (by kernel_rfl)
theorem jt (a:Value):argsOk "set_iterator.__iter__" ⟨[a],[]⟩:=by unfold argsOk;kernel_rfl
section
variable {prog:Program}{w:World}{A:Around}{I a:Addr}{n ep:Nat}{o:Obj}{es:Array (Int×Value)}{S:Int→Bool}{m:Nat}{b:Bool}{t:SetTable}{ord:List Value}
theorem mJ {E:Value→Shared→Prop}{s:Shared}{f:Value}{i:Nat}{Q:Value→Shared→Prop}(ho:s.heap.get? I=some (itO f i a n ep))(q:Q (.ref I) s):wpAny (model prog w) A (pyIter (.ref I)) Q E s:=by
 have hT:s.TypeIs (.ref I) "set_iterator":=⟨_,ho,rfl⟩
 refine wpAny_pyIter_slot hT pO (zo2 pO hT lO ?_ (jt _))
 show wpAny _ _ (ret (.ref I)) _ _ s
 exact zg4 ⟨_,rfl,"set_iterator",_,hT,yy.lookup,q⟩
theorem dP (hh:A.handled=none)(hne:a≠I)(x:WkO prog w o S m b es ep t)(hn:es.size=n)(hl:ord.length=n)(stp:Nat→Nat)
  (hN:∀(i:Nat) (s:Shared) (A':Around) (E:Value→Shared→Prop) (Q':Option (Value×Nat)→Shared→Prop),s.heap.get? a=some o→(hi:i<ord.length)→Q' (some (ord[i],stp (i+1))) s→wpAny (model prog w) A' (setNext a (stp i) i ep) Q' E s)
  (hE:∀(s:Shared) (A':Around) (E:Value→Shared→Prop) (Q':Option (Value×Nat)→Shared→Prop),s.heap.get? a=some o→Q' none s→wpAny (model prog w) A' (setNext a (stp n) n ep) Q' E s):
  Walks prog w A I [I,a] [I] n (fun i v=>ord[i]?=some v) (fun i h=>h.get? I=some (itO (.int (stp i) 0) i a n ep)∧h.get? a=some o) where
 sub:=fun c hc=>by simp at hc;simp[hc]
 frame:=fun i h h' st k=>⟨k I (by simp) _ st.1,k a (by simp) _ st.2⟩
 item:=fun i s Q E hi st hQ=>de st.1 st.2 x hn (fun A' E Q' q=>hN i s A' E Q' st.2 (by omega) q) fun h' e sb=>by
  cases s
  exact hQ _ h' _ (zh0 (by omega)) ⟨e,by rw[sb.2 a hne];exact st.2⟩ fun c u hc e=>by rw[sb.2 c fun z=>hc (by simp[z])];exact e
 done:=fun s Q E st hQ=>cz hh st.1 st.2 x hn (fun A' E Q' q=>hE s A' E Q' st.2 q) fun h' e=>by
  cases s
  exact hQ h' _ fun c u hc e'=>e c u (fun z=>hc (by simp[z])) e'
 self:=fun i s Q E st q=>mJ st.1 q
theorem zb5 {tp:Addr}{ot:Obj}{ks:List Nat}{c:Nat}(hh:A.handled=none)(hne:a≠I)(htp:tp≠I)(x:WkO prog w o S m b es ep t)(hn:es.size=n)(hl:ks.length=n)(hk:∀k∈ks,k<n)(hdt:ot.data=.seq (ks.map fun k=>Value.int (k:Nat) 0).toArray c):
  Walks prog w A I [I,a,tp] [I] n (fun i v=>(ks.map fun k=>(es.getD k (0,.none)).2)[i]?=some v) (fun i h=>h.get? I=some (itO (.ref tp) i a n ep)∧h.get? a=some o∧h.get? tp=some ot) where
 sub:=fun c hc=>by simp at hc;simp[hc]
 frame:=fun i h h' st k=>⟨k I (by simp) _ st.1,k a (by simp) _ st.2.1,k tp (by simp) _ st.2.2⟩
 item:=fun i s Q E hi st hQ=>by
  have hi':i<ks.length:=by omega
  have hki:ks[i]<es.size:=by rw[hn];exact hk _ (zm2 hi')
  refine jK (k:=ks[i]) (u:=0) (e:=es[ks[i]]) st.1 st.2.2 hdt st.2.1 x hn (by simp[hi']) (zm5 hki) fun h' e sb=>?_
  cases s
  refine hQ _ h' _ ?_ ⟨e,by rw[sb.2 a hne];exact st.2.1,by rw[sb.2 tp htp];exact st.2.2⟩ fun c u hc e=>by rw[sb.2 c fun z=>hc (by simp[z])];exact e
  rw[zi6,zh0 hi']
  simp[Array.getD,hki]
 done:=fun s Q E st hQ=>eW hh st.1 st.2.2 hdt st.2.1 x hn (by simp[hl]) fun h' e=>by
  cases s
  exact hQ h' _ fun c u hc e'=>e c u (fun z=>hc (by simp[z])) e'
 self:=fun i s Q E st q=>mJ st.1 q
def kh (t:SetTable):Nat→Nat
 |0=>0
 |i+1=>t.place.getD i 0+1
def Wkd (prog:Program)(w:World)(h:Heap)(I a:Addr)(N n:Nat)(ord:List Value):Prop:=∀A:Around,A.handled=none→∃fp St,Walks prog w A I fp [I] n (fun i v=>ord[i]?=some v) St∧St 0 h∧(∀c∈fp,c=a∨N≤c)∧I∈fp
theorem fV {E:Value→Shared→Prop}{s:Shared}{Q:Value→Shared→Prop}(hoa:s.heap.get? a=some o)(x:WkO prog w o S m (xi w) es ep t)
  (h:∀(I:Addr) (h':Heap) d (ord:List Value),(∀c u,s.heap.get? c=some u→h'.get? c=some u)→s.heap.objs.size≤I→ord.Perm (es.toList.map (·.2))→Wkd prog w h' I a s.heap.objs.size es.size ord→Q (.ref I) {s with heap:=h',drawn:=d}):wpAny (model prog w) A (pyIter (.ref a)) Q E s:=by
 have hT:s.TypeIs (.ref a) "set":=⟨_,hoa,x.ex.1⟩
 have alt:a<s.heap.objs.size:=zh7 hoa
 refine wpAny_pyIter_slot hT F.slot_set_iter (zo2 F.slot_set_iter hT lG ?_ (F.args_set_iter_1 _))
 unfold Builtin.«frozenset.__iter__»
 refine zg0 (zs0 (a:=a) (by rfl) ?_)
 refine zg0 ?_
 unfold Builtin.Frozenset.sizeOf
 refine zg0 (zr0 hoa x.dt x.fit (zg4 ?_))
 refine zg0 ?_
 unfold setDrawn
 refine zg0 (zp0 hoa x.dt x.fit ?_)
 dsimp only
 unfold setsByText
 refine zg0 (zg0 (zp6 (zg4 (zg4 ?_))))
 have sz:es.size≤sizeLine:=zu5 x.sb
 refine zk2 (fun hd=>?_) (fun hd=>?_)
 ·refine zg0 (mC _ _ (by simp) fun ks d pk=>?_)
  have lk:ks.length=es.size:=by rw[pk.length_eq,List.length_range]
  refine zg0 (wpAny_newTuple ?_ (by rw[zh4];omega))
  generalize hI:(s.heap.push {cls:=.type "tuple",data:=.seq (ks.map fun (i:Nat)=>rawInt i).toArray}).objs.size=I
  have eI:I=s.heap.objs.size+1:=by rw[←hI];exact zs1 _ _
  have k1:∀c u,s.heap.get? c=some u→(s.heap.push {cls:=.type "tuple",data:=.seq (ks.map fun (i:Nat)=>rawInt i).toArray}).get? c=some u:=fun c u e=>zg8 _ e
  refine zg0 (wpAny_setEpoch_of (k1 _ _ hoa) x.dt x.fit ?_)
  refine zg0 (zn5 (zg4 ⟨_,rfl,"set_iterator",_,⟨_,zh9 _ rfl,rfl⟩,yy.lookup,?_⟩))
  dsimp only
  rw[hI]
  have k2:∀c u,s.heap.get? c=some u→((s.heap.push {cls:=.type "tuple",data:=.seq (ks.map fun (i:Nat)=>rawInt i).toArray}).push (itO (.ref s.heap.objs.size) 0 a es.size ep)).get? c=some u:=fun c u e=>zg8 _ (k1 c u e)
  refine h I _ d (ks.map fun k=>(es.getD k (0,.none)).2) k2 (by rw[eI];exact zp7 _) ?_ (fun A hh=>⟨_,_,zb5 (tp:=s.heap.objs.size) hh (by rw[eI];exact zi3 (zn4 alt)) (by rw[eI];exact zi3 (zp4 _)) x rfl lk (fun k hk=>List.mem_range.mp (pk.mem_iff.mp hk)) rfl,⟨by rw[←hI];exact zh9 _ rfl,k2 _ _ hoa,zg8 _ (zh9 _ rfl)⟩,fun c hc=>?_,by simp⟩)
  ·have e:es.toList.map (·.2)=(List.range es.size).map fun k=>(es.getD k (0,.none)).2:=by
    refine List.ext_getElem (by simp) fun i h1 h2=>?_
    have:i<es.size:=by simpa using h1
    simp[Array.getD,this]
   rw[e]
   exact pk.map _
  ·simp only[zg3,zg9,zj8] at hc
   rcases hc with rfl|rfl|rfl
   ·rw[eI];exact .inr (zp7 _)
   ·exact .inl rfl
   ·exact .inr (zg5 _)
 ·refine zg0 (zg4 (zg0 (wpAny_setEpoch_of hoa x.dt x.fit ?_)))
  refine zg0 (zn5 (zg4 ⟨_,rfl,"set_iterator",_,⟨_,zh9 _ rfl,rfl⟩,yy.lookup,?_⟩))
  have k2:∀c u,s.heap.get? c=some u→(s.heap.push (itO (.int (0:Nat) 0) 0 a es.size ep)).get? c=some u:=fun c u e=>zg8 _ e
  have fpl:∀c∈[s.heap.objs.size,a],c=a∨s.heap.objs.size≤c:=fun c hc=>by
   simp only[zg3,zg9,zj8] at hc
   rcases hc with rfl|rfl
   ·exact .inr (zg5 _)
   ·exact .inl rfl
  cases hw:xi w with
  |false=>
   have q:=h s.heap.objs.size _ s.drawn ((pickOrder (w.params.setOrder a ep) es).toList.map (·.2)) k2 (zg5 _) ((uq _ _).map _) (fun A hh=>⟨_,_,dP hh (zi3 alt) x rfl (by rw[zh4,(uq _ es).length_eq];simp) (fun _=>0) (fun i s A' E Q' e hi q=>rq e x hw A' E Q' ?_) (fun s A' E Q' e q=>rq e x hw A' E Q' ?_),⟨zh9 _ rfl,k2 _ _ hoa⟩,fpl,by simp⟩)
   ·exact q
   ·have hi':i<(pickOrder (w.params.setOrder a ep) es).size:=by simpa using hi
    rw[zm5 hi']
    simpa using q
   ·rw[Array.getElem?_eq_none (by
     have:=(uq (w.params.setOrder a ep) es).length_eq
     simp at this
     omega)]
    exact q
  |true=>
   have ht:w.params.followText "set-order"=false:=by simpa[xi] using hw
   have hx:¬((!w.params.followText "set-order"&&(!t.plain&&decide (es.size > 1)))=true):=hd
   rw[ht] at hx
   have hx':(!t.plain&&decide (es.size > 1))=false:=by simpa using hx
   have hpl:t.place.size=es.size:=by
    have:=x.fit
    simp only[SetTable.fits,zi9,zs5] at this
    exact this.1
   have up:Up t.place:=by
    cases hp:t.plain with
    |true=>exact x.ris hp
    |false=>
     rw[hp] at hx'
     have:es.size≤1:=by simpa using hx'
     unfold Up
     have h1:t.place.toList.length≤1:=by simp;omega
     match hL:t.place.toList,h1 with
     |[],_=>exact .nil
     |[y],_=>exact zu3 _ _
   have st:∀i (hi:i≤es.size),SetTable.below t.place (kh t i)=i:=fun i hi=>by
    cases i with
    |zero=>exact nW up
    |succ i=>
     have hi':i<t.place.size:=by omega
     have e:kh t (i+1)=t.place[i]+1:=by simp[kh,Array.getD,hi']
     rw[e]
     exact oG up hi'
   have q:=h s.heap.objs.size _ s.drawn (es.toList.map (·.2)) k2 (zg5 _) (.refl _) (fun A hh=>⟨_,_,dP hh (zi3 alt) x rfl (by simp) (kh t) (fun i s A' E Q' e hi q=>oH e x hw hw hx' (by simpa using hi) A' E Q' (st i (by simp at hi;omega)) fun hi'=>?_) (fun s A' E Q' e q=>kE e x hw hw hx' A' E Q' (st _ (zg5 _)) q),⟨zh9 _ rfl,k2 _ _ hoa⟩,fpl,by simp⟩)
   ·exact q
   ·have e:kh t (i+1)=t.place[i]+1:=by simp[kh,Array.getD,hi']
    rw[e] at q
    simpa using q
end
section
variable {prog:Program}{w:World}{A:Around}{E:Value→Shared→Prop}{s:Shared}{a:Addr}{ep:Nat}{o:Obj}{es:Array (Int×Value)}{S:Int→Bool}{m:Nat}{t:SetTable}
theorem gL {Q:Bool→Shared→Prop}(hT:s.TypeIs (.ref a) "set")(h:Q false s):wpAny (model prog w) A (Builtin.List.listLengthHint (.ref a)) Q E s:=by
 unfold Builtin.List.listLengthHint
 refine zg0 (wpAny_specialOf hT F.slot_set_len.lookup ?_)
 generalize hid:("set.__len__":String)=id0
 wp_delta
 rw[show splitId id0=some ("set","__len__") from by subst hid;decide +kernel]
 subst hid
 refine zg0 (wpAny_isInstance (T:="set") (b:=true) hT (by rw[isSubtype_type];kernel_rfl) ?_)
 refine zk2 (fun q=>absurd q (by decide)) fun _=>?_
 refine zk2 (fun _=>?_) fun q=>absurd (by decide +kernel) q
 refine zg0 (wpAny_typeOf hT ?_)
 exact zg4 h
theorem pP {Q:List Value→Shared→Prop}(hh:A.handled=none)(hoa:s.heap.get? a=some o)(x:WkO prog w o S m (xi w) es ep t)
  (h:∀(h':Heap) d (tk:Nat) (ord:List Value),s.heap.objs.size<h'.objs.size→(∀c u,s.heap.get? c=some u→h'.get? c=some u)→ord.Perm (es.toList.map (·.2))→Q ord {s with heap:=h',drawn:=d,toks:=tk}):wpAny (model prog w) A (collect (.ref a)) Q E s:=by
 have alt:a<s.heap.objs.size:=zh7 hoa
 unfold collect
 refine zg0 (wpAny_runValue (zr7 F.entry_proto_collect ?_))
 rw[zq5 F.plain_proto_collect _]
 show wpAny _ A.in1 (newList [] >>= fun l=>again (.builtin "list.__iadd__" ⟨[l,.ref a],[]⟩)) _ _ s
 refine zg0 (zn5 ?_)
 refine zg4 ⟨plainId_quiet F.plain_list_iadd _,zr7 F.entry_list_iadd ?_⟩
 rw[zq5 F.plain_list_iadd _]
 show wpAny _ A.in1 (Builtin.List.listExtendWith (.ref s.heap.objs.size) (.ref a) (.ref s.heap.objs.size)) _ _ _
 generalize hS:s.heap.objs.size=L
 have k1:∀c u,s.heap.get? c=some u→(s.heap.push {cls:=.type "list",data:=.seq ([]:List Value).toArray}).get? c=some u:=fun c u e=>zg8 _ e
 have hL1:(s.heap.push {cls:=.type "list",data:=.seq ([]:List Value).toArray}).get? L=some {cls:=.type "list",data:=.seq ([]:List Value).toArray}:=by rw[←hS];exact zh9 _ rfl
 have sz1:(s.heap.push {cls:=.type "list",data:=.seq ([]:List Value).toArray}).objs.size=L+1:=by rw[←hS];exact zs1 _ _
 generalize hp1:s.heap.push {cls:=.type "list",data:=.seq ([]:List Value).toArray}=h1 at k1 hL1 sz1
 have aL:a≠L:=by rw[←hS];exact zi3 alt
 unfold Builtin.List.listExtendWith
 refine zg0 (wpAny_typeOf (T:="set") ⟨_,k1 _ _ hoa,x.ex.1⟩ ?_)
 have b1:Builtin.List.listSameRef (.ref L) (.ref a)=false:=by simp[Builtin.List.listSameRef,zs9 aL]
 refine zk2 (fun z=>absurd z (by rw[b1];decide)) fun _=>?_
 refine zg0 (fV (k1 _ _ hoa) x fun I h2 d ord k2 hI pm wk=>?_)
 refine zg0 (zo0 (gL ⟨_,k2 _ _ (k1 _ _ hoa),x.ex.1⟩ ?_))
 refine zk2 (fun _=>?_) fun q=>absurd (by decide +kernel) q
 refine zg0 (zo7 ?_)
 refine zg0 ?_
 show wpAny _ A.in1 (updateSeq L (·.push .none) >>= fun _=>updateSeq L (·.pop)) _ _ _
 have hL2:=k2 _ _ hL1
 refine zg0 (wpAny_updateSeq hL2 rfl ?_)
 have hL3:=zs2 (Obj.mapSeq (·.push Value.none)) hL2 rfl
 refine wpAny_updateSeq hL3 rfl ?_
 have hL4:=zs2 (Obj.mapSeq (·.pop)) hL3 rfl
 have oth:∀c u,c≠L→h2.get? c=some u→((h2.update L (Obj.mapSeq (·.push Value.none))).update L (Obj.mapSeq (·.pop))).get? c=some u:=fun c u hc e=>(zr9 _ _ (zs9 hc)).trans ((zr9 _ _ (zs9 hc)).trans e)
 obtain⟨fp,St,W,w0,wf,wI⟩:=wk A.in1 (by simp[hh])
 have hSf:L∉fp:=fun z=>by
  rcases wf L z with e|e
  ·exact aL e.symm
  ·have e':h1.objs.size≤L:=e
   rw[sz1] at e'
   exact absurd e' (Nat.not_succ_le_self _)
 refine zg4 ⟨plainId_quiet F.plain_extend_loop _,codeAny_extend_loopS W.toS (zu5 x.sb) _ hSf _ es.size 0 _ _ _ rfl (zi5 _) (W.frame 0 _ _ w0 fun c hc u e=>oth c u (fun z=>hSf (z▸hc)) e) hL4 (ItemsOf.nil _) fun s' acc c' hm hS' hacc=>?_⟩
 show wpAny _ A (load L >>= _) _ _ s'
 refine zg0 (wpAny_load hS' ?_)
 have lo:ord.length=es.size:=by rw[pm.length_eq];simp
 have ea:acc.toList=ord:=by
  refine List.ext_getElem? fun i=>?_
  rcases zl0 i es.size with hi|hi
  ·have h1:i<acc.size:=by rw[hacc.1];exact hi
   have:=hacc.2 i acc[i] (zm5 h1)
   rw[this]
   simp[h1]
  ·rw[zs3 (by simp[hacc.1];exact hi),zs3 (by omega)]
 have cl:∀{c:Addr} {u:Obj},s.heap.get? c=some u→c<L:=fun e=>by rw[←hS];exact zh7 e
 have q:=h s'.heap s'.drawn s'.toks ord (by rw[hS];exact zh7 hS') (fun c u e=>hm.heap c u (fun z=>?_) (oth c u (zi3 (cl e)) (k2 _ _ (k1 _ _ e)))) pm
 ·refine zg4 ?_
  show Q acc.toList s'
  rw[ea]
  obtain⟨hp,g,dr,tk,os⟩:=s'
  have eg:g=s.gens:=hm.gens
  have eo:os=s.os:=hm.os
  subst eg eo
  exact q
 ·simp only[zg3,zg9,zj8] at z
  rcases z with z|z
  ·exact zi3 (cl e) z
  ·have h1':h1.objs.size≤I:=hI
   rw[sz1] at h1'
   have:=cl e
   rw[z] at this
   exact absurd (zj3 (zn4 this) h1') (zr5 _)
theorem pz :∀{F ms:List Int},F.Nodup→(∀k∈F,k∈ms)→ms.length=F.length→ms.Perm F
 |[],ms,_,_,e=>by rw[zr3.mp e]
 |k::F,ms,nd,sb,e=>by
  have hk:=sb k zh3
  have p1:=List.perm_cons_erase hk
  obtain⟨n1,n2⟩:=zt4.mp nd
  have p2:=pz (ms:=ms.erase k) n2 (fun j hj=>(List.mem_erase_of_ne (fun z:j=k=>n1 (z▸hj))).mpr (sb j (zg7 _ hj))) (by
   have:=p1.length_eq
   simp only[zj5] at this e
   omega)
  exact p1.trans (p2.cons k)
theorem wR (val:Nat→Int):∀n,(firstMet val n).Nodup
 |0=>.nil
 |n+1=>by
  rw[firstMet_succ]
  unfold step_dedup
  split
  ·exact wR val n
  ·rename_i h
   rw[List.nodup_append]
   refine⟨wR val n,by simp,fun x hx y hy e=>?_⟩
   rw[zj4.mp hy] at e
   exact h (List.any_eq_true.mpr ⟨x,hx,by simp[e]⟩)
theorem mj :∀(l:List (Int×Value)),(∀e∈l,∃k,(intKind prog w).is k e.2=true)→∃ms:List Int,IntsAre (l.map (·.2)) ms∧∀k,k∈ms↔∃e∈l,(intKind prog w).is k e.2=true
 |[],_=>⟨[],.nil,fun k=>by simp⟩
 |e::l,h=>by
  obtain⟨ms,h1,h2⟩:=mj l fun x hx=>h x (zg7 _ hx)
  obtain⟨k,hk⟩:=h e zh3
  obtain⟨t,ht⟩:=Value.isInt_shape hk
  refine⟨k::ms,?_,fun j=>?_⟩
  ·rw[zl3,ht]
   exact .cons k t h1
  ·rw[zg3,h2]
   constructor
   ·rintro (rfl|⟨x,hx,q⟩)
    ·exact⟨e,zh3,hk⟩
    ·exact⟨x,zg7 _ hx,q⟩
   ·rintro⟨x,hx,q⟩
    rcases zg3.mp hx with rfl|hx
    ·exact .inl ((intKind prog w).inj _ _ _ q hk)
    ·exact .inr ⟨x,hx,q⟩
theorem lS :∀{vs us:List Value} {ms:List Int},us.Perm vs→IntsAre vs ms→∃ns,IntsAre us ns∧ns.Perm ms:=by
 intro vs us ms p
 induction p generalizing ms with
 |nil=>intro h;exact⟨ms,h,.refl _⟩
 |cons x p ih=>
  intro h
  cases h with
  |cons k t h=>
   obtain⟨ns,h1,h2⟩:=ih h
   exact⟨k::ns,.cons k t h1,h2.cons k⟩
 |swap x y l=>
  intro h
  cases h with
  |cons k t h=>
   cases h with
   |cons k' t' h=>exact⟨k'::k::_,.cons k' t' (.cons k t h),.swap k k' _⟩
 |trans p1 p2 ih1 ih2=>
  intro h
  obtain⟨ns,h1,h2⟩:=ih2 h
  obtain⟨ns',h3,h4⟩:=ih1 h1
  exact⟨ns',h3,h4.trans h2⟩
end
end SetW
namespace L2
open PySem PySem.Spec PyProof.Rows SetW
section
variable {X:Cx}{α:Ev}{e:Expr}{pos p p2 pos2:Pos}
abbrev vd (zs:List Int):List Int:=firstMet (fun i=>zs.getD i 0) zs.length
theorem Inv.drw {pins:List (Addr×Obj)}{σ:List (Option V)}{H:Hp}{s:Shared}(I:Inv X pins σ H s)(d:Drawn):Inv X pins σ H {s with drawn:=d}:=⟨I.ok,I.os,I.bare,I.base,I.loc,I.cell,I.free,I.freeC,I.pin,I.hok,I.len⟩
def SW (P:Program)(w:World)(o:Obj)(zs:List Int):Prop:=∃es ep t,WkO P w o (fun k=>(vd zs).any (· == k)) (vd zs).length (xi w) es ep t
theorem lE (hc:X.calm=true):wt X (.type "set") (fun xs H Q=>∃(l:Addr) (zs:List Int),xs=[.ref l]∧H l=some (.lst (zs.map V.int))∧zs.length<1000∧∀(l':Addr) (o:Obj),H l'=none→SW X.prog X.w o zs→Q (.ref l') (upd H l' (.frz o (.set (fun k=>(vd zs).any (· == k)) (vd zs).length)))):=by
 intro pins s σ H xs us Q I r h
 obtain⟨l,zs,rfl,hl,h64,q⟩:=h
 obtain⟨u,rfl,rx⟩:=vals1 r
 cases rx
 obtain⟨its,rv,pl,hz⟩:=I.list (SqL.of hl)
 have l1:=rv.length
 rw[zh4] at l1
 have sz:its.toArray.size=zs.length:=by simp[l1]
 refine tR (its:=its.toArray) (ns:=zs) (I.ok.hd hc) pl.isList (by simpa using intsAre_of rv) (by rw[sz];unfold scanBound;omega) fun h' tk hS hk=>?_
 rw[sz] at hS
 obtain⟨o,es,ep,t,ho,x⟩:=hS
 exact⟨.ref s.heap.objs.size,_,I.laid (o:=.frz o (.set _ _)) (t':=tk) (fun b u e=>hk b u (zh7 e) e) (zg5 _) ⟨ho,o,es,ep,t,ho,x.ex,x.dt,x.el,x.mem,x.sb,x.fit,x.sz⟩,rfl,q _ o (I.hok.fresh (zg5 _)) ⟨es,ep,t,x⟩⟩
theorem dg {zs:List Int}{k:Int}:k∈vd zs↔k∈zs:=by
 have h1:k∈vd zs↔(vd zs).any (· == k)=true:=by simp
 rw[h1,firstMet_any]
 simp only[List.any_eq_true,List.mem_map,List.mem_range,zs5]
 constructor
 ·rintro⟨x,⟨i,hi,rfl⟩,rfl⟩
  rw[List.getD_eq_getElem?_getD,zh0 hi]
  exact zm2 hi
 ·intro hk
  obtain⟨i,hi,e⟩:=zt2 hk
  exact⟨k,⟨i,hi,by rw[List.getD_eq_getElem?_getD,zh0 hi];exact e⟩,rfl⟩
end
def Itk (tb:List (Str×V)):It:=⟨fun i _=>i<tb.length,fun i H x H'=>H'=H∧∃p,tb[i]?=some p∧x=.str p.1,fun i _=>tb.length≤i⟩
def sE (K:PySem.W.Frag)(w:World)(d:Addr)(tb:List (Str×V))(n:Nat):Prop:=∃es,K.lookup d=some ⟨.type "dict",none,.dict es n,#[]⟩∧EnS w es.toList tb∧(tb.map (·.1)).Nodup
section
variable {X:Cx}{tg:Expr}
theorem sE.at {K:PySem.W.Frag}{P:Program}{w:World}{d:Addr}{tb:List (Str×V)}{n:Nat}(hd:sE K w d tb n){h:Heap}(k:K.In h):∃kvs:List (Str×Value),h.DictAt (PySem.strKind P w) d kvs n∧kvs.map (·.1)=tb.map (·.1):=by
 obtain⟨es,hl,he,hn⟩:=hd
 exact⟨_,⟨_,es,k _ _ hl,⟨rfl,rfl,rfl⟩,rfl,fun e he'=>tZ he e (by simpa using he'),vS he,by rw[uU he];exact hn⟩,uU he⟩
theorem oJ {P:Program}{w:World}{K:PySem.W.Frag}{d:Addr}{tb:List (Str×V)}{n:Nat}(hd:sE K w d tb n)(it:Addr):Turn P w K tg (Itk tb) [it] it (fun i h=>h.IsKeyIter it d i tb.length n) where
 mem:=by simp
 obj:=fun i h st b hb=>by
  have e:b=it:=by simpa using hb
  subst e
  obtain⟨o,e,c,dd⟩:=st
  exact⟨o,e,fun v z=>by rw[dd] at z;cases z⟩
 keep:=fun i h h' st k=>by
  obtain⟨o,e,r⟩:=st
  exact⟨o,k it (by simp) o e,r⟩
 item:=by
  intro X hP hw hK hc i pins s σ H E I hf st hg
  subst hP hw hK
  obtain⟨kvs,da,ek⟩:=hd.at (P:=X.prog) I.kIn
  have lk:kvs.length=tb.length:=by have:=congrArg List.length ek;simpa using this
  have hi:i<tb.length:=hg
  have hi':i<kvs.length:=by omega
  obtain⟨f0,f1,f2,f3,f4,f5⟩:=hf it (by simp)
  rw[←lk] at st
  refine wpAny_pyNext_dict_item st da (k:=kvs[i].1) (v:=kvs[i].2) (zh0 hi') fun key h' hk st' sb=>?_
  have I1:Inv X pins σ H {s with heap:=h'}:=I.turned (t':=s.toks) (fun b o hb e=>(sb.2 b hb).trans e) f0 f1 f3 f4 f5
  obtain⟨o,e,c,dd⟩:=id st'
  rw[lk] at st'
  have ew:kvs[i].1=tb[i].1:=by
   have h1:(kvs.map (·.1))[i]?=(tb.map (·.1))[i]?:=by rw[ek]
   rw[zi6,zi6,zh0 hi',zh0 hi] at h1
   simpa using h1
  have hkey:∃t,key=.str tb[i].1 t:=by
   rw[ew] at hk
   cases key with
   |str x t=>
    have hk':(x == tb[i].1)=true:=by simpa[PySem.strKind,Value.isStrOf] using hk
    exact⟨t,by rw[eq_of_beq hk']⟩
   |_=>simp[PySem.strKind,Value.isStrOf] at hk
  obtain⟨t,rfl⟩:=hkey
  exact⟨_,rfl,pZ (s:={s with heap:=h'}) e c dd (by decide) ⟨.str tb[i].1,H,I1,⟨t,rfl⟩,⟨rfl,_,zh0 hi,rfl⟩,st',fun b hb=>(hf b hb).1⟩⟩
 done:=by
  intro X hP hw hK hc i pins s σ H E I hf st hg
  subst hP hw hK
  obtain⟨kvs,da,ek⟩:=hd.at (P:=X.prog) I.kIn
  have lk:kvs.length=tb.length:=by have:=congrArg List.length ek;simpa using this
  have hi:tb.length≤i:=hg
  obtain⟨f0,f1,f2,f3,f4,f5⟩:=hf it (by simp)
  rw[←lk] at st
  exact wpAny_pyNext_dict_end (I.ok.hd hc) st da (zs3 (by omega)) fun h' eb=>⟨rfl,I.turned (t':=s.toks) (fun b o hb e=>eb b o hb e) f0 f1 f3 f4 f5⟩
 self:=fun _ _ _ _ _ st h=>wpAny_pyIter_keyiter st h
theorem gD {g:Str}{p:Pos}{d:Addr}{tb:List (Str×V)}{n:Nat}(hg:Gl X g)(hm:X.mg g=some (.ref d))(hd:sE X.K X.w d tb n)(hs:(d == sysModules)=false)(hb:(g == ("__debug__":Str))=false:=by decide):PI X tg (.Name g p) (fun _ H R=>R (Itk tb) H):=by
 intro pins s σ H R I h
 refine vK I hg hm ?_ hb
 obtain⟨kvs,da,ek⟩:=hd.at (P:=X.prog) I.kIn
 have lk:kvs.length=tb.length:=by have:=congrArg List.length ek;simpa using this
 refine wpAny_pyIter_dict hs da ?_
 rw[lk]
 refine⟨s.heap.objs.size,[s.heap.objs.size],_,_,H,rfl,I.kept (t':=s.toks) fun b o e=>zg8 _ e,oJ hd _,⟨_,zh9 _ rfl,rfl,rfl⟩,fun b hb=>?_,h⟩
 rw[zj4.mp hb]
 exact I.fpOk (zg5 _) (I.hok.fresh (zg5 _))
theorem jQ {α:Ev}{g:Str}{p:Pos}{d:Addr}{tb:List (Str×V)}{n:Nat}{Q:List PyData→Prop}(hg:Gl X g)(hm:X.mg g=some (.ref d))(hd:sE X.K X.w d tb n)(hs:(d == sysModules)=false)(q:Q (tb.map fun p=>.str p.1))(hb:(g == ("__debug__":Str))=false:=by decide):EvI X α tg (.Name g p) Q:=fun F σ H R m k=>by
 refine⟨_,gD hg hm hd hs hb,?_⟩
 refine k _ _ H q m.tp Kz.refl fun i H2 p s=>⟨fun d hd=>?_,fun hl=>?_⟩
 ·rw[zi6,zj0] at hd
  obtain⟨e,he,rfl⟩:=hd
  refine⟨(zh1.mp he).1,fun x' H3 y=>?_⟩
  obtain⟨rfl,e',he',rfl⟩:=y
  rw[he] at he';cases he'
  exact⟨zq.refl _,fun _=>.str _⟩
 ·have:tb.length≤i:=by simpa using hl
  exact this
end
section
variable {X:Cx}{α:Ev}{e1 e2 e3 e4 e5 b:Expr}{pos p p1 p2 p3 p4 p5:Pos}{n1 n2 n3 n4 n5:Nat}{k1 k2 k3 k4 k5:Str}{Q:PyData→Prop}
end
end L2
namespace Tim
open PySem PyProof.Rows
def gal :Bool→Keyed→Array Keyed→Nat→Nat→Nat→StateT SortSt Sem (Option Nat):=sortPriv% PySem.Builtin.gallop
abbrev bey (left:Bool)(key:Keyed)(arr:Array Keyed)(base i:Nat):StateT SortSt Sem (Option Bool):=do
 let x ←elem' arr (base+i)
 if left then lt' x key else return (←lt' key x).map (!·)
structure GB (a₀:Array Keyed)(st:SortSt):Prop where
 perm:(arrOf st).Perm a₀
 kind:kindOf st=oneType'
 failed:failedOf st=none
section
variable {prog:Program}{w:World}{A:Around}{E:Value→Shared→Prop}{s:Shared}
theorem mx {st:SortSt}{x y:Keyed}{a b:Int}{t u:Tok}{Q:Option Bool→SortSt→Prop}(hk:kindOf st=oneType')(hx:x.1=.int a t)(hy:y.1=.int b u)(h:Q (some (decide (a<b))) st):wpS (model prog w) A E s (lt' x y) Q st:=by
 rw[lt'_eq]
 refine zg1 (zs4 ?_)
 rw[hk,keyLt'_oneType,hx,hy]
 exact zg1 (wpS_lift (zu8 (oneLt_int ⟨rfl,zg2 h⟩)))
theorem zl {st:SortSt}{xs:Array Keyed}{i:Nat}{p:Keyed}{Q:Keyed→SortSt→Prop}(h:xs[i]?=some p)(q:Q p st):wpS (model prog w) A E s (elem' xs i) Q st:=by
 rw[elem'_eq,h]
 exact zg2 q
theorem zO {xs:Array Keyed}(h:IntKeys xs){i:Nat}(hi:i<xs.size):∃t,xs[i].1=.int (K xs i) t:=by
 obtain⟨n,t,e⟩:=h xs[i] (by simp)
 refine⟨t,?_⟩
 have:K xs i=n:=by
  unfold K
  rw[zg6 xs i hi]
  show numOf xs[i].1=n
  rw[e];rfl
 rw[e,this]
def uJ (left:Bool)(key:Int)(arr:Array Keyed)(base i:Nat):Bool:=if left then decide (K arr (base+i)<key) else !decide (key<K arr (base+i))
theorem bX {st:SortSt}{left:Bool}{key:Keyed}{kz:Int}{kt:Tok}{arr:Array Keyed}{base i:Nat}{Q:Option Bool→SortSt→Prop}(hk:kindOf st=oneType')(hkey:key.1=.int kz kt)(ia:IntKeys arr)(hi:base+i<arr.size)(h:Q (some (uJ left kz arr base i)) st):
  wpS (model prog w) A E s (bey left key arr base i) Q st:=by
 obtain⟨t,e⟩:=zO ia hi
 refine zg1 (zl (zg6 arr _ hi) ?_)
 cases left with
 |true=>exact mx hk e hkey h
 |false=>exact zg1 (mx hk hkey e (zg2 h))
structure Cut (p:Nat→Bool)(n r:Nat):Prop where
 le:r≤n
 lo:∀i,i<r→p i=true
 hi:∀i,r≤i→i<n→p i=false
abbrev TS :=Option (Option Nat)×Nat×Nat
theorem sS {st:SortSt}{p:Nat→Bool}{b:Nat→StateT SortSt Sem (Option Bool)}{n:Nat}{Q:Option Nat→SortSt→Prop}(B:∀{i:Nat} {Q:Option Bool→SortSt→Prop},i<n→Q (some (p i)) st→wpS (model prog w) A E s (b i) Q st)(mono:∀i j,i≤j→j<n→p j=true→p i=true)(h:∀r,Cut p n r→Q (some r) st)
  {f:Nat→TS→StateT SortSt Sem (ForInStep TS)} {F:TS→StateT SortSt Sem (Option Nat)} (f1:∀x lo hi,lo≥hi→f x (none,lo,hi)=pure (.done (none,lo,hi)))
  (f2:∀x lo hi,¬lo≥hi→∃g,f x (none,lo,hi)=b (lo+(hi-lo) / 2) >>= g∧g (some true)=pure (.yield (none,lo+(hi-lo) / 2+1,hi))∧g (some false)=pure (.yield (none,lo,lo+(hi-lo) / 2))) (hF:∀r,F (none,r,r)=pure (some r))
  {lo hi:Nat} (h1:lo≤hi) (h2:hi≤n) (h3:∀i,i<lo→p i=true) (h4:∀i,hi≤i→i<n→p i=false):wpS (model prog w) A E s (forIn [0:n] ((none,lo,hi):TS) f >>= F) Q st:=by
 refine zg1 (zn6 (zk8 (I:=fun x c st'=>st'=st∧∃lo hi,c=(none,lo,hi)∧lo≤hi∧hi≤n∧hi-lo≤n-x∧(∀i,i<lo→p i=true)∧∀i,hi≤i→i<n→p i=false)
  (Q:=fun c st'=>st'=st∧∃r,c=(none,r,r)∧Cut p n r) ?_ ?_ ⟨rfl,lo,hi,rfl,h1,h2,by omega,h3,h4⟩) ?_)
 ·rintro x c st' _ hx ⟨rfl,lo,hi,rfl,h1,h2,h5,h3,h4⟩
  by_cases hge:lo≥hi
  ·rw[f1 x lo hi hge]
   have e:lo=hi:=by omega
   subst e
   exact zg2 ⟨rfl,lo,rfl,h2,h3,h4⟩
  ·obtain⟨g,e,g1,g2⟩:=f2 x lo hi hge
   rw[e]
   refine zg1 (B (by omega) ?_)
   cases z:p (lo+(hi-lo) / 2) with
   |true=>
    rw[g1]
    exact zg2 ⟨rfl,_,_,rfl,by omega,h2,by omega,fun i hi'=>mono i _ (by omega) (by omega) z,h4⟩
   |false=>
    rw[g2]
    refine zg2 ⟨rfl,_,_,rfl,by omega,by omega,by omega,h3,fun i h6 h7=>?_⟩
    cases y:p i with
    |false=>rfl
    |true=>rw[mono _ i h6 h7 y] at z;cases z
 ·rintro c st' ⟨rfl,lo,hi,rfl,h1,h2,h5,h3,h4⟩
  have e:lo=hi:=by omega
  subst e
  exact⟨rfl,lo,rfl,h2,h3,h4⟩
 ·rintro c st' ⟨rfl,r,rfl,ct⟩
  rw[hF]
  exact zg2 (h r ct)
theorem yO {st:SortSt}{left:Bool}{key:Keyed}{kz:Int}{kt:Tok}{arr:Array Keyed}{base n hint:Nat}{Q:Option Nat→SortSt→Prop}(hk:kindOf st=oneType')(hkey:key.1=.int kz kt)(ia:IntKeys arr)(hb:base+n≤arr.size)(hn:hint<n)
  (mono:∀i j,i≤j→j<n→uJ left kz arr base j=true→uJ left kz arr base i=true) (h:∀r,Cut (uJ left kz arr base) n r→Q (some r) st):wpS (model prog w) A E s (gal left key arr base n hint) Q st:=by
 generalize hp:uJ left kz arr base=p at mono h
 have B:∀{i:Nat} {Q:Option Bool→SortSt→Prop},i<n→Q (some (p i)) st→wpS (model prog w) A E s (bey left key arr base i) Q st:=fun {i Q} hi q=>bX hk hkey ia (by omega) (by rw[hp];exact q)
 refine zg1 (B hn ?_)
 dsimp only
 cases z0:p hint with
 |true=>
  rw[if_pos rfl]
  refine zg1 (zn6 (zk8 (I:=fun x c st'=>st'=st∧∃la of,c=(none,la,of)∧la<of∧x+1≤of∧hint+la<n∧p (hint+la)=true)
   (Q:=fun c st'=>st'=st∧∃la of,c=(none,la,of)∧la<of∧hint+la<n∧p (hint+la)=true∧(of≥n-hint∨p (hint+of)=false)) ?_ ?_ ⟨rfl,0,1,rfl,by omega,by omega,by omega,z0⟩) ?_)
  ·rintro x c st' _ hx ⟨rfl,la,of,rfl,h1,h2,h3,h4⟩
   dsimp only
   by_cases hge:of≥n-hint
   ·rw[if_pos hge]
    exact zg2 ⟨rfl,la,of,rfl,h1,h3,h4,.inl hge⟩
   ·rw[if_neg hge]
    refine zg1 (B (by omega) ?_)
    cases z:p (hint+of) with
    |true=>exact zg2 ⟨rfl,of,2*of+1,rfl,by omega,by omega,by omega,z⟩
    |false=>exact zg2 ⟨rfl,la,of,rfl,h1,h3,h4,.inr z⟩
  ·rintro c st' ⟨rfl,la,of,rfl,h1,h2,h3,h4⟩
   exact⟨rfl,la,of,rfl,h1,h3,h4,.inl (by omega)⟩
  ·rintro c st' ⟨rfl,la,of,rfl,h1,h3,h4,h5⟩
   refine sS B mono h (fun x lo hi z=>if_pos z) (fun x lo hi z=>⟨_,if_neg z,rfl,rfl⟩) (fun _=>rfl) (lo:=hint+la+1) (hi:=hint+min of (n-hint)) (by omega) (by omega) (fun i hi=>mono i _ (by omega) h3 h4) (fun i h6 h7=>?_)
   rcases h5 with h5|h5
   ·omega
   ·cases y:p i with
    |false=>rfl
    |true=>rw[mono _ i (by omega) h7 y] at h5;cases h5
 |false=>
  rw[if_neg (by decide)]
  refine zg1 (zn6 (zk8 (I:=fun x c st'=>st'=st∧∃la of,c=(none,la,of)∧la<of∧x+1≤of∧la≤hint∧p (hint-la)=false)
   (Q:=fun c st'=>st'=st∧∃la of,c=(none,la,of)∧la<of∧la≤hint∧p (hint-la)=false∧(of≥hint+1∨p (hint-of)=true)) ?_ ?_ ⟨rfl,0,1,rfl,by omega,by omega,by omega,z0⟩) ?_)
  ·rintro x c st' _ hx ⟨rfl,la,of,rfl,h1,h2,h3,h4⟩
   dsimp only
   by_cases hge:of≥hint+1
   ·rw[if_pos hge]
    exact zg2 ⟨rfl,la,of,rfl,h1,h3,h4,.inl hge⟩
   ·rw[if_neg hge]
    refine zg1 (B (by omega) ?_)
    cases z:p (hint-of) with
    |true=>exact zg2 ⟨rfl,la,of,rfl,h1,h3,h4,.inr z⟩
    |false=>exact zg2 ⟨rfl,of,2*of+1,rfl,by omega,by omega,by omega,z⟩
  ·rintro c st' ⟨rfl,la,of,rfl,h1,h2,h3,h4⟩
   exact⟨rfl,la,of,rfl,h1,h3,h4,.inl (by omega)⟩
  ·rintro c st' ⟨rfl,la,of,rfl,h1,h3,h4,h5⟩
   refine sS B mono h (fun x lo hi z=>if_pos z) (fun x lo hi z=>⟨_,if_neg z,rfl,rfl⟩) (fun _=>rfl) (lo:=hint+1-min of (hint+1)) (hi:=hint-la) (by omega) (by omega) (fun i hi=>?_) (fun i h6 h7=>?_)
   ·rcases h5 with h5|h5
    ·omega
    ·exact mono i _ (by omega) (by omega) h5
   ·cases y:p i with
    |false=>rfl
    |true=>rw[mono _ i (by omega) h7 y] at h4;cases h4
end
def mlo :Array Keyed→Array Keyed→StateT SortSt Sem (Array Keyed):=sortPriv% PySem.Builtin.mergeLo
abbrev ky (p:Keyed):Int:=numOf p.1
abbrev Up (l:List Keyed):Prop:=l.Pairwise fun x y=>ky x≤ky y
structure Good (a b r:List Keyed):Prop where
 pm:r.Perm (a++b)
 up:Up r
structure MI (a b L:List Keyed)(i j:Nat):Prop where
 ia:i≤a.length
 jb:j≤b.length
 pm:L.Perm (a.take i++b.take j)
 up:Up L
 le:∀x∈L,∀y∈a.drop i++b.drop j,ky x≤ky y
section
variable {a b L:List Keyed}{i j k:Nat}
theorem MI.doneB (h:MI a b L i j)(ua:Up a)(e:j=b.length):Good a b (L++a.drop i++b.drop j):=by
 subst e
 have e1:b.drop b.length=[]:=zp5
 rw[e1,zo6]
 have pm:=h.pm
 rw[zm9] at pm
 refine⟨?_,zj1.mpr ⟨h.up,ua.sublist (zo9 _ _),fun x hx y hy=>h.le x hx y (zh8 _ hy)⟩⟩
 refine (pm.append_right _).trans ?_
 have:(a.take i++b++a.drop i).Perm (a.take i++a.drop i++b):=by
  rw[zi2,zi2]
  exact zk5 _ zm7
 rwa [zi4] at this
theorem MI.doneA (h:MI a b L i j)(ub:Up b)(e:i=a.length):Good a b (L++a.drop i++b.drop j):=by
 subst e
 have e1:a.drop a.length=[]:=zp5
 rw[e1,zo6]
 have pm:=h.pm
 rw[zm9] at pm
 refine⟨?_,zj1.mpr ⟨h.up,ub.sublist (zo9 _ _),fun x hx y hy=>h.le x hx y (zh2 _ hy)⟩⟩
 refine (pm.append_right _).trans ?_
 rw[zi2,zi4]
theorem MI.last (h:MI a b L i j)(ub:Up b)(e:i+1=a.length)(hl:∀y∈b,∀x∈a.drop i,ky y≤ky x):Good a b (L++b.drop j++a.drop i):=by
 have ha:a.drop i=[a[i]]:=by
  rw[zj9 (by omega),List.drop_of_length_le (by omega)]
 refine⟨?_,?_⟩
 ·refine ((h.pm.append_right _).append_right _).trans ?_
  have:(a.take i++b.take j++b.drop j++a.drop i).Perm (a.take i++a.drop i++b):=by
   rw[zi2 (a.take i) (b.take j),zi4,zi2,zi2]
   exact zk5 _ zm7
  rwa [zi4] at this
 ·refine zj1.mpr ⟨zj1.mpr ⟨h.up,ub.sublist (zo9 _ _),fun x hx y hy=>h.le x hx y (zh2 _ hy)⟩,by rw[ha];exact zu3 _ _,fun x hx y hy=>?_⟩
  rcases zi0.mp hx with hx|hx
  ·exact h.le x hx y (zh8 _ hy)
  ·exact hl x (zn1 hx) y hy
theorem MI.appA (h:MI a b L i j)(ua:Up a)(hk:i+k≤a.length)(hc:∀x∈(a.drop i).take k,∀y∈b.drop j,ky x≤ky y):MI a b (L++(a.drop i).take k) (i+k) j:=by
 have sp:a.drop i=(a.drop i).take k++a.drop (i+k):=by rw[←List.drop_drop,zi4]
 have ud:Up (a.drop i):=ua.sublist (zo9 _ _)
 rw[sp] at ud
 obtain⟨u1,u2,u3⟩:=zj1.mp ud
 refine⟨hk,h.jb,?_,zj1.mpr ⟨h.up,u1,fun x hx y hy=>h.le x hx y (zh8 _ (zn2 hy))⟩,fun x hx y hy=>?_⟩
 ·refine (h.pm.append_right _).trans ?_
  have:a.take (i+k)=a.take i++(a.drop i).take k:=by rw[List.take_add]
  rw[this,zi2,zi2]
  exact zk5 _ zm7
 ·rcases zi0.mp hx with hx|hx
  ·refine h.le x hx y ?_
   rcases zi0.mp hy with hy|hy
   ·rw[sp];exact zh8 _ (zh2 _ hy)
   ·exact zh2 _ hy
  ·rcases zi0.mp hy with hy|hy
   ·exact u3 x hx y hy
   ·exact hc x hx y hy
theorem MI.appB (h:MI a b L i j)(ub:Up b)(hk:j+k≤b.length)(hc:∀x∈(b.drop j).take k,∀y∈a.drop i,ky x≤ky y):MI a b (L++(b.drop j).take k) i (j+k):=by
 have sp:b.drop j=(b.drop j).take k++b.drop (j+k):=by rw[←List.drop_drop,zi4]
 have ud:Up (b.drop j):=ub.sublist (zo9 _ _)
 rw[sp] at ud
 obtain⟨u1,u2,u3⟩:=zj1.mp ud
 refine⟨h.ia,hk,?_,zj1.mpr ⟨h.up,u1,fun x hx y hy=>h.le x hx y (zh2 _ (zn2 hy))⟩,fun x hx y hy=>?_⟩
 ·refine (h.pm.append_right _).trans ?_
  have:b.take (j+k)=b.take j++(b.drop j).take k:=by rw[List.take_add]
  rw[this,zi2]
 ·rcases zi0.mp hx with hx|hx
  ·refine h.le x hx y ?_
   rcases zi0.mp hy with hy|hy
   ·exact zh8 _ hy
   ·rw[sp];exact zh2 _ (zh2 _ hy)
  ·rcases zi0.mp hy with hy|hy
   ·exact hc x hx y hy
   ·exact u3 x hx y hy
theorem take1 (l:List Keyed){i:Nat}(h:i<l.length):(l.drop i).take 1=[l[i]]:=by
 rw[zj9 h];rfl
end
abbrev MA (a b out:Array Keyed)(i j:Nat):Prop:=MI a.toList b.toList out.toList i j
section
variable {a b out:Array Keyed}{i j k:Nat}
theorem vc (a:Array Keyed)(i:Nat):(a.extract i).toList=a.toList.drop i:=by
 rw[zs6,zq6,List.take_of_length_le (by simp)]
theorem jB (a:Array Keyed)(i k:Nat):(a.extract i (i+k)).toList=(a.toList.drop i).take k:=by
 rw[zs6,zq6,Nat.add_sub_cancel_left]
theorem MA.extA (h:MA a b out i j)(ua:Up a.toList)(hk:i+k≤a.size)(hc:∀x∈(a.toList.drop i).take k,∀y∈b.toList.drop j,ky x≤ky y):MA a b (out++a.extract i (i+k)) (i+k) j:=by
 have:=h.appA ua (by simpa using hk) hc
 unfold MA
 rwa [zj6,jB]
theorem MA.extB (h:MA a b out i j)(ub:Up b.toList)(hk:j+k≤b.size)(hc:∀x∈(b.toList.drop j).take k,∀y∈a.toList.drop i,ky x≤ky y):MA a b (out++b.extract j (j+k)) i (j+k):=by
 have:=h.appB ub (by simpa using hk) hc
 unfold MA
 rwa [zj6,jB]
theorem MA.pushA (h:MA a b out i j)(ua:Up a.toList)(hi:i<a.size)(hc:∀y∈b.toList.drop j,ky a[i]≤ky y):MA a b (out.push a[i]) (i+1) j:=by
 have e:(a.toList.drop i).take 1=[a[i]]:=by rw[take1 _ (by simpa using hi)];simp
 have:=h.appA (k:=1) ua (by simp;omega) (by rw[e];intro x hx;rw[zj4.mp hx];exact hc)
 unfold MA
 rwa [e,←zp1] at this
theorem MA.pushB (h:MA a b out i j)(ub:Up b.toList)(hj:j<b.size)(hc:∀y∈a.toList.drop i,ky b[j]≤ky y):MA a b (out.push b[j]) i (j+1):=by
 have e:(b.toList.drop j).take 1=[b[j]]:=by rw[take1 _ (by simpa using hj)];simp
 have:=h.appB (k:=1) ub (by simp;omega) (by rw[e];intro x hx;rw[zj4.mp hx];exact hc)
 unfold MA
 rwa [e,←zp1] at this
theorem MA.finB (h:MA a b out i j)(ua:Up a.toList)(e:(j == b.size)=true):Good a.toList b.toList (out++a.extract i++b.extract j).toList:=by
 rw[zj6,zj6,vc,vc]
 exact h.doneB ua (by simpa using e)
theorem MA.finA (h:MA a b out i j)(ub:Up b.toList)(e:(i == a.size)=true):Good a.toList b.toList (out++a.extract i++b.extract j).toList:=by
 rw[zj6,zj6,vc,vc]
 exact h.doneA ub (by simpa using e)
theorem MA.finL (h:MA a b out i j)(ub:Up b.toList)(e:(i+1 == a.size)=true)(na:0<a.size)(hl:∀y∈b.toList,ky y≤ky a[a.size-1]):Good a.toList b.toList (out++b.extract j++a.extract i).toList:=by
 rw[zj6,zj6,vc,vc]
 have e':i+1=a.size:=by simpa using e
 refine h.last ub (by simpa using e') fun y hy x hx=>?_
 have ha:a.toList.drop i=[a[a.size-1]]:=by
  rw[zj9 (by simp;omega),List.drop_of_length_le (by simp;omega)]
  have:i=a.size-1:=by omega
  subst this
  simp
 rw[ha] at hx
 rw[zj4.mp hx]
 exact hl y hy
theorem dh {l:List Keyed}(u:Up l){i:Nat}(hi:i<l.length):∀y∈l.drop i,ky l[i]≤ky y:=fun y hy=>by
 have:=u.sublist (zo9 i l)
 rw[zj9 hi] at this hy
 rcases zg3.mp hy with rfl|hy
 ·exact zo4 _
 ·exact (List.pairwise_cons.mp this).1 y hy
theorem yL {a:Array Keyed}(u:Up a.toList){i:Nat}(hi:i<a.size):∀y∈a.toList.drop i,ky a[i]≤ky y:=by
 have:=dh u (i:=i) (by simpa using hi)
 simpa using this
theorem xr {a:Array Keyed}{i:Nat}(hi:i<a.size):K a i=ky a[i]:=by unfold K;rw[zg6 a i hi]
theorem yT {a:Array Keyed}(u:Up a.toList){i j:Nat}(hij:i≤j)(hj:j<a.size):K a i≤K a j:=by
 rw[xr (show i<a.size by omega),xr hj]
 have:=yL u (show i<a.size by omega) a[j] (by
  rw[zs7]
  exact⟨j-i,by simp;omega,by simp[show i+(j-i)=j by omega]⟩)
 exact this
theorem ya {a:Array Keyed}{left:Bool}{kz:Int}{base n:Nat}(up:∀i j,base≤i→i≤j→j<base+n→K a i≤K a j):∀i j,i≤j→j<n→uJ left kz a base j=true→uJ left kz a base i=true:=fun i j hij hj h=>by
 have:=up (base+i) (base+j) (by omega) (by omega) (by omega)
 unfold uJ at h ⊢
 cases left with
 |true=>simp at h ⊢;omega
 |false=>simp at h ⊢;omega
theorem yN {a:Array Keyed}{left:Bool}{kz:Int}{base n k:Nat}(c:Cut (uJ left kz a base) n k){i:Nat}(h1:base≤i)(h2:i<base+k):K a i≤kz:=by
 have:=c.lo (i-base) (by omega)
 unfold uJ at this
 rw[show base+(i-base)=i by omega] at this
 cases left with
 |true=>simp at this;omega
 |false=>simp at this;omega
theorem yK {a:Array Keyed}{left:Bool}{kz:Int}{base n k:Nat}(c:Cut (uJ left kz a base) n k){i:Nat}(h1:base+k≤i)(h2:i<base+n):kz≤K a i:=by
 have:=c.hi (i-base) (by omega) (by omega)
 unfold uJ at this
 rw[show base+(i-base)=i by omega] at this
 cases left with
 |true=>simp at this;omega
 |false=>simp at this;omega
theorem xg {a:Array Keyed}{P:Int→Prop}{i k:Nat}(h:∀t,i≤t→t<i+k→t<a.size→P (K a t)):∀x∈(a.toList.drop i).take k,P (ky x):=fun x hx=>by
 obtain⟨t,ht,rfl⟩:=zs7.mp hx
 simp at ht
 have:=h (i+t) (by omega) (by omega) (by omega)
 rw[xr (show i+t<a.size by omega)] at this
 simpa using this
theorem xX {a:Array Keyed}{P:Int→Prop}{i:Nat}(h:∀t,i≤t→t<a.size→P (K a t)):∀x∈a.toList.drop i,P (ky x):=fun x hx=>by
 obtain⟨t,ht,rfl⟩:=zs7.mp hx
 simp at ht
 have:=h (i+t) (by omega) (by omega)
 rw[xr (show i+t<a.size by omega)] at this
 simpa using this
end
section
variable {prog:Program}{w:World}{A:Around}{E:Value→Shared→Prop}{s:Shared}{a₀:Array Keyed}
abbrev SG (st:SortSt)(g:Nat):SortSt:=SortSt.mk' (kindOf st) (arrOf st) (pendingOf st) g (failedOf st)
theorem aj {st:SortSt}{a b:Array Keyed}{Q:Array Keyed→SortSt→Prop}(hk:kindOf st=oneType')(ia:IntKeys a)(ib:IntKeys b)(ua:Up a.toList)(ub:Up b.toList)(na:0<a.size)(nb:0<b.size)
  (h1:∀x∈a.toList,ky b[0]≤ky x) (h2:∀y∈b.toList,ky y≤ky a[a.size-1])
  (h:∀r g,Good a.toList b.toList r.toList→Q r (SG st g)):wpS (model prog w) A E s (mlo a b) Q st:=by
 have m0:MA a b #[b[0]] 0 1:=by
  have:MA a b #[] 0 0:=⟨zi5 _,zi5 _,by simp,.nil,fun x hx=>by simp at hx⟩
  have:=this.pushB ub nb (fun y hy=>h1 y (by simpa using hy))
  simpa using this
 refine zg1 (wpS_lift (zo7 ⟨rfl,?_⟩))
 refine zg1 (zl (zg6 b 0 nb) ?_)
 dsimp only
 by_cases c1:(1 == b.size)=true
 ·rw[if_pos c1]
  exact zg2 (h _ (gallopOf st) (m0.finB ua c1))
 rw[if_neg c1]
 by_cases c2:(0+1 == a.size)=true
 ·rw[if_pos c2]
  exact zg2 (h _ (gallopOf st) (m0.finL ub c2 na h2))
 rw[if_neg c2]
 refine zg1 (zs4 ?_)
 have c1':1<b.size:=by
  have:¬1=b.size:=by simpa using c1
  omega
 have c2':0+1<a.size:=by
  have:¬0+1=a.size:=by simpa using c2
  omega
 refine zg1 (zn6 (zk8 (I:=fun x c st'=>(∃g,st'=SG st g)∧∃out i j mg,c=(none,out,i,j,mg)∧MA a b out i j∧i+1<a.size∧j<b.size∧x+1≤i+j)
  (Q:=fun c st'=>(∃g,st'=SG st g)∧∃r,c.1=some r∧Good a.toList b.toList r.toList) ?_ ?_ ⟨⟨_,rfl⟩,_,0,1,_,rfl,m0,c2',c1',by omega⟩) ?_)
 ·rintro x c st' _ hx ⟨⟨g,rfl⟩,out,i,j,mg,rfl,m,hi,hj,hxi⟩
  dsimp only
  refine zg1 (zn6 (zk8 (I:=fun x c st'=>st'=SG st g∧∃out' i' j' ac bc,c=(none,out',i',j',ac,bc)∧MA a b out' i' j'∧i'+1<a.size∧j'<b.size∧i+j+x≤i'+j')
   (Q:=fun c st'=>st'=SG st g∧((∃r,c.1=some r∧Good a.toList b.toList r.toList)∨∃out' i' j' ac bc,c=(none,out',i',j',ac,bc)∧MA a b out' i' j'∧i'+1<a.size∧j'<b.size∧i+j+1≤i'+j')) ?_ ?_ ⟨rfl,out,i,j,0,0,rfl,m,hi,hj,by omega⟩) ?_)
  ·rintro x c st' _ hx ⟨rfl,out,i',j',ac,bc,rfl,m,hi,hj,hs⟩
   dsimp only
   obtain⟨t1,e1⟩:=zO ib hj
   obtain⟨t2,e2⟩:=zO ia (show i'<a.size by omega)
   have k1:=xr hj
   have k2:=xr (show i'<a.size by omega)
   refine zg1 (zl (zg6 b j' hj) (zg1 (zl (zg6 a i' (by omega)) (zg1 (mx hk e1 e2 ?_)))))
   by_cases hw:K b j'<K a i'
   ·rw[zk1 hw]
    dsimp only
    rw[if_pos rfl]
    refine zg1 (zl (zg6 b j' hj) ?_)
    have m':=m.pushB ub hj fun y hy=>by have:=yL ua (show i'<a.size by omega) y hy;omega
    by_cases d1:(j'+1 == b.size)=true
    ·rw[if_pos d1]
     exact zg2 ⟨rfl,.inl ⟨_,rfl,m'.finB ua d1⟩⟩
    ·rw[if_neg d1]
     have d1':j'+1<b.size:=by
                      have:¬j'+1=b.size:=by simpa using d1
                      omega
     by_cases d2:bc+1≥mg
     ·rw[if_pos d2]
      exact zg2 ⟨rfl,.inr ⟨_,_,_,_,_,rfl,m',hi,d1',by omega⟩⟩
     ·rw[if_neg d2]
      exact zg2 ⟨rfl,_,_,_,_,_,rfl,m',hi,d1',by omega⟩
   ·rw[zi7 hw]
    dsimp only
    rw[if_neg (by decide)]
    refine zg1 (zl (zg6 a i' (by omega)) ?_)
    have m':=m.pushA ua (show i'<a.size by omega) fun y hy=>by have:=yL ub hj y hy;omega
    by_cases d1:(i'+1+1 == a.size)=true
    ·rw[if_pos d1]
     exact zg2 ⟨rfl,.inl ⟨_,rfl,m'.finL ub d1 na h2⟩⟩
    ·rw[if_neg d1]
     have d1':i'+1+1<a.size:=by
                        have:¬i'+1+1=a.size:=by simpa using d1
                        omega
     by_cases d2:ac+1≥mg
     ·rw[if_pos d2]
      exact zg2 ⟨rfl,.inr ⟨_,_,_,_,_,rfl,m',d1',hj,by omega⟩⟩
     ·rw[if_neg d2]
      exact zg2 ⟨rfl,_,_,_,_,_,rfl,m',d1',hj,by omega⟩
  ·rintro c st' ⟨rfl,out,i',j',ac,bc,rfl,m,hi,hj,hs⟩
   exact⟨rfl,.inr ⟨_,_,_,_,_,rfl,m,hi,hj,by omega⟩⟩
  rintro c st' ⟨rfl,hc⟩
  rcases hc with ⟨r,hr,gd⟩|⟨out,i',j',ac,bc,rfl,m,hi,hj,hs⟩
  ·rw[hr]
   exact zg2 ⟨⟨g,rfl⟩,r,rfl,gd⟩
  dsimp only
  refine zg1 (wpS_lift (zo7 ⟨rfl,?_⟩))
  clear m0
  refine zg1 (zn6 (zk8 (I:=fun _ c st'=>(∃g,st'=SG st g)∧∃out' i' j' mg ac bc,c=(none,out',i',j',mg,ac,bc)∧MA a b out' i' j'∧i'+1<a.size∧j'<b.size∧i+j+1≤i'+j')
   (Q:=fun c st'=>(∃g,st'=SG st g)∧((∃r,c.1=some r∧Good a.toList b.toList r.toList)∨∃out' i' j' mg ac bc,c=(none,out',i',j',mg,ac,bc)∧MA a b out' i' j'∧i'+1<a.size∧j'<b.size∧i+j+1≤i'+j')) ?_ ?_ ⟨⟨g,rfl⟩,out,i',j',mg+1,ac,bc,rfl,m,hi,hj,hs⟩) ?_)
  ·clear m hi hj hs
   rintro y c st' _ hy ⟨⟨g,rfl⟩,out,i',j',mg,ac,bc,rfl,m,hi,hj,hs⟩
   dsimp only
   obtain⟨t1,e1⟩:=zO ib hj
   have kk1:=xr hj
   by_cases hmg:mg > 1
   ·rw[if_pos hmg]
    refine zg1 (zm6 ?_)
    refine zg1 (zl (zg6 b j' hj) ?_)
    refine zg1 (yO hk e1 ia (by omega) (by omega) (ya fun p q _ h6 h7=>yT ua h6 (by omega)) fun k1 ct1=>?_)
    have le1:=ct1.le
    have hb1:∀y∈a.toList.drop (i'+k1),ky b[j']≤ky y:=xX (P:=fun z=>ky b[j']≤z) fun t h6 h7=>by rw[←kk1];exact yK ct1 h6 (by omega)
    have ht1:∀x∈(a.toList.drop i').take k1,ky x≤ky b[j']:=xg (P:=fun z=>z≤ky b[j']) fun t h6 h7 _=>by rw[←kk1];exact yN ct1 h6 h7
    dsimp only
    by_cases hk1:k1 > 0
    ·rw[if_pos hk1]
     have m1:=m.extA ua (k:=k1) (by omega) fun x hx y hy=>zl1 (ht1 x hx) (yL ub hj y hy)
     by_cases d4:(i'+k1+1 == a.size)=true
     ·rw[if_pos d4]
      exact zg2 ⟨⟨_,rfl⟩,.inl ⟨_,rfl,m1.finL ub d4 na h2⟩⟩
     rw[if_neg d4]
     by_cases d5:(i'+k1 == a.size)=true
     ·rw[if_pos d5]
      exact zg2 ⟨⟨_,rfl⟩,.inl ⟨_,rfl,m1.finA ub d5⟩⟩
     rw[if_neg d5]
     have d4':i'+k1+1<a.size:=by
      have:¬i'+k1+1=a.size:=by simpa using d4
      have:¬i'+k1=a.size:=by simpa using d5
      omega
     have hs1:i+j+1≤i'+k1+j':=by omega
     generalize i'+k1=i1 at *
     generalize out++a.extract i' i1=out1 at *
     have m2:=m1.pushB ub hj hb1
     refine zg1 (zl (zg6 b j' hj) ?_)
     by_cases d1:(j'+1 == b.size)=true
     ·rw[if_pos d1]
      exact zg2 ⟨⟨_,rfl⟩,.inl ⟨_,rfl,m2.finB ua d1⟩⟩
     rw[if_neg d1]
     have d1':j'+1<b.size:=by
      have:¬j'+1=b.size:=by simpa using d1
      omega
     have hi1':i1<a.size:=by omega
     obtain⟨t2,e2⟩:=zO ia hi1'
     refine zg1 (zl (zg6 a i1 hi1') ?_)
     refine zg1 (yO hk e2 ib (by omega) (by omega) (ya fun p q _ h6 h7=>yT ub h6 (by omega)) fun k2 ct2=>?_)
     have le2:=ct2.le
     have kk2:=xr hi1'
     have hb2:∀y∈b.toList.drop (j'+1+k2),ky a[i1]≤ky y:=xX (P:=fun z=>ky a[i1]≤z) fun t h6 h7=>by rw[←kk2];exact yK ct2 h6 (by omega)
     have ht2:∀x∈(b.toList.drop (j'+1)).take k2,ky x≤ky a[i1]:=xg (P:=fun z=>z≤ky a[i1]) fun t h6 h7 _=>by rw[←kk2];exact yN ct2 h6 h7
     dsimp only
     by_cases hk2:k2 > 0
     ·rw[if_pos hk2]
      have m3:=m2.extB ub (k:=k2) (by omega) fun x hx y hy=>zl1 (ht2 x hx) (yL ua hi1' y hy)
      by_cases d2:(j'+1+k2 == b.size)=true
      ·rw[if_pos d2]
       exact zg2 ⟨⟨_,rfl⟩,.inl ⟨_,rfl,m3.finB ua d2⟩⟩
      rw[if_neg d2]
      have d2':j'+1+k2<b.size:=by
       have:¬j'+1+k2=b.size:=by simpa using d2
       omega
      have m4:=m3.pushA ua hi1' hb2
      refine zg1 (zl (zg6 a i1 hi1') ?_)
      by_cases d3:(i1+1+1 == a.size)=true
      ·rw[if_pos d3]
       exact zg2 ⟨⟨_,rfl⟩,.inl ⟨_,rfl,m4.finL ub d3 na h2⟩⟩
      rw[if_neg d3]
      have d3':i1+1+1<a.size:=by
       have:¬i1+1+1=a.size:=by simpa using d3
       omega
      split
      ·exact zg2 ⟨⟨_,rfl⟩,.inr ⟨_,_,_,_,_,_,rfl,m4,d3',d2',by omega⟩⟩
      ·exact zg2 ⟨⟨_,rfl⟩,_,_,_,_,_,_,rfl,m4,d3',d2',by omega⟩
     ·rw[if_neg hk2]
      have hk2':k2=0:=by omega
      subst hk2'
      have m4:=m2.pushA ua hi1' hb2
      refine zg1 (zl (zg6 a i1 hi1') ?_)
      by_cases d3:(i1+1+1 == a.size)=true
      ·rw[if_pos d3]
       exact zg2 ⟨⟨_,rfl⟩,.inl ⟨_,rfl,m4.finL ub d3 na h2⟩⟩
      rw[if_neg d3]
      have d3':i1+1+1<a.size:=by
       have:¬i1+1+1=a.size:=by simpa using d3
       omega
      split
      ·exact zg2 ⟨⟨_,rfl⟩,.inr ⟨_,_,_,_,_,_,rfl,m4,d3',d1',by omega⟩⟩
      ·exact zg2 ⟨⟨_,rfl⟩,_,_,_,_,_,_,rfl,m4,d3',d1',by omega⟩
    ·rw[if_neg hk1]
     have hk1':k1=0:=by omega
     subst hk1'
     have m1:=m
     have d4':i'+1<a.size:=hi
     have hs1:i+j+1≤i'+j':=by omega
     have hb1':∀y∈a.toList.drop i',ky b[j']≤ky y:=hb1
     clear hb1
     have hb1:=hb1'
     generalize hi1:i'=i1 at *
     have m2:=m1.pushB ub hj hb1
     refine zg1 (zl (zg6 b j' hj) ?_)
     by_cases d1:(j'+1 == b.size)=true
     ·rw[if_pos d1]
      exact zg2 ⟨⟨_,rfl⟩,.inl ⟨_,rfl,m2.finB ua d1⟩⟩
     rw[if_neg d1]
     have d1':j'+1<b.size:=by
      have:¬j'+1=b.size:=by simpa using d1
      omega
     have hi1':i1<a.size:=by omega
     obtain⟨t2,e2⟩:=zO ia hi1'
     refine zg1 (zl (zg6 a i1 hi1') ?_)
     refine zg1 (yO hk e2 ib (by omega) (by omega) (ya fun p q _ h6 h7=>yT ub h6 (by omega)) fun k2 ct2=>?_)
     have le2:=ct2.le
     have kk2:=xr hi1'
     have hb2:∀y∈b.toList.drop (j'+1+k2),ky a[i1]≤ky y:=xX (P:=fun z=>ky a[i1]≤z) fun t h6 h7=>by rw[←kk2];exact yK ct2 h6 (by omega)
     have ht2:∀x∈(b.toList.drop (j'+1)).take k2,ky x≤ky a[i1]:=xg (P:=fun z=>z≤ky a[i1]) fun t h6 h7 _=>by rw[←kk2];exact yN ct2 h6 h7
     dsimp only
     by_cases hk2:k2 > 0
     ·rw[if_pos hk2]
      have m3:=m2.extB ub (k:=k2) (by omega) fun x hx y hy=>zl1 (ht2 x hx) (yL ua hi1' y hy)
      by_cases d2:(j'+1+k2 == b.size)=true
      ·rw[if_pos d2]
       exact zg2 ⟨⟨_,rfl⟩,.inl ⟨_,rfl,m3.finB ua d2⟩⟩
      rw[if_neg d2]
      have d2':j'+1+k2<b.size:=by
       have:¬j'+1+k2=b.size:=by simpa using d2
       omega
      have m4:=m3.pushA ua hi1' hb2
      refine zg1 (zl (zg6 a i1 hi1') ?_)
      by_cases d3:(i1+1+1 == a.size)=true
      ·rw[if_pos d3]
       exact zg2 ⟨⟨_,rfl⟩,.inl ⟨_,rfl,m4.finL ub d3 na h2⟩⟩
      rw[if_neg d3]
      have d3':i1+1+1<a.size:=by
       have:¬i1+1+1=a.size:=by simpa using d3
       omega
      split
      ·exact zg2 ⟨⟨_,rfl⟩,.inr ⟨_,_,_,_,_,_,rfl,m4,d3',d2',by omega⟩⟩
      ·exact zg2 ⟨⟨_,rfl⟩,_,_,_,_,_,_,rfl,m4,d3',d2',by omega⟩
     ·rw[if_neg hk2]
      have hk2':k2=0:=by omega
      subst hk2'
      have m4:=m2.pushA ua hi1' hb2
      refine zg1 (zl (zg6 a i1 hi1') ?_)
      by_cases d3:(i1+1+1 == a.size)=true
      ·rw[if_pos d3]
       exact zg2 ⟨⟨_,rfl⟩,.inl ⟨_,rfl,m4.finL ub d3 na h2⟩⟩
      rw[if_neg d3]
      have d3':i1+1+1<a.size:=by
       have:¬i1+1+1=a.size:=by simpa using d3
       omega
      split
      ·exact zg2 ⟨⟨_,rfl⟩,.inr ⟨_,_,_,_,_,_,rfl,m4,d3',d1',by omega⟩⟩
      ·exact zg2 ⟨⟨_,rfl⟩,_,_,_,_,_,_,rfl,m4,d3',d1',by omega⟩
   ·rw[if_neg hmg]
    refine zg1 (zm6 ?_)
    refine zg1 (zl (zg6 b j' hj) ?_)
    refine zg1 (yO hk e1 ia (by omega) (by omega) (ya fun p q _ h6 h7=>yT ua h6 (by omega)) fun k1 ct1=>?_)
    have le1:=ct1.le
    have hb1:∀y∈a.toList.drop (i'+k1),ky b[j']≤ky y:=xX (P:=fun z=>ky b[j']≤z) fun t h6 h7=>by rw[←kk1];exact yK ct1 h6 (by omega)
    have ht1:∀x∈(a.toList.drop i').take k1,ky x≤ky b[j']:=xg (P:=fun z=>z≤ky b[j']) fun t h6 h7 _=>by rw[←kk1];exact yN ct1 h6 h7
    dsimp only
    by_cases hk1:k1 > 0
    ·rw[if_pos hk1]
     have m1:=m.extA ua (k:=k1) (by omega) fun x hx y hy=>zl1 (ht1 x hx) (yL ub hj y hy)
     by_cases d4:(i'+k1+1 == a.size)=true
     ·rw[if_pos d4]
      exact zg2 ⟨⟨_,rfl⟩,.inl ⟨_,rfl,m1.finL ub d4 na h2⟩⟩
     rw[if_neg d4]
     by_cases d5:(i'+k1 == a.size)=true
     ·rw[if_pos d5]
      exact zg2 ⟨⟨_,rfl⟩,.inl ⟨_,rfl,m1.finA ub d5⟩⟩
     rw[if_neg d5]
     have d4':i'+k1+1<a.size:=by
      have:¬i'+k1+1=a.size:=by simpa using d4
      have:¬i'+k1=a.size:=by simpa using d5
      omega
     have hs1:i+j+1≤i'+k1+j':=by omega
     generalize i'+k1=i1 at *
     generalize out++a.extract i' i1=out1 at *
     have m2:=m1.pushB ub hj hb1
     refine zg1 (zl (zg6 b j' hj) ?_)
     by_cases d1:(j'+1 == b.size)=true
     ·rw[if_pos d1]
      exact zg2 ⟨⟨_,rfl⟩,.inl ⟨_,rfl,m2.finB ua d1⟩⟩
     rw[if_neg d1]
     have d1':j'+1<b.size:=by
      have:¬j'+1=b.size:=by simpa using d1
      omega
     have hi1':i1<a.size:=by omega
     obtain⟨t2,e2⟩:=zO ia hi1'
     refine zg1 (zl (zg6 a i1 hi1') ?_)
     refine zg1 (yO hk e2 ib (by omega) (by omega) (ya fun p q _ h6 h7=>yT ub h6 (by omega)) fun k2 ct2=>?_)
     have le2:=ct2.le
     have kk2:=xr hi1'
     have hb2:∀y∈b.toList.drop (j'+1+k2),ky a[i1]≤ky y:=xX (P:=fun z=>ky a[i1]≤z) fun t h6 h7=>by rw[←kk2];exact yK ct2 h6 (by omega)
     have ht2:∀x∈(b.toList.drop (j'+1)).take k2,ky x≤ky a[i1]:=xg (P:=fun z=>z≤ky a[i1]) fun t h6 h7 _=>by rw[←kk2];exact yN ct2 h6 h7
     dsimp only
     by_cases hk2:k2 > 0
     ·rw[if_pos hk2]
      have m3:=m2.extB ub (k:=k2) (by omega) fun x hx y hy=>zl1 (ht2 x hx) (yL ua hi1' y hy)
      by_cases d2:(j'+1+k2 == b.size)=true
      ·rw[if_pos d2]
       exact zg2 ⟨⟨_,rfl⟩,.inl ⟨_,rfl,m3.finB ua d2⟩⟩
      rw[if_neg d2]
      have d2':j'+1+k2<b.size:=by
       have:¬j'+1+k2=b.size:=by simpa using d2
       omega
      have m4:=m3.pushA ua hi1' hb2
      refine zg1 (zl (zg6 a i1 hi1') ?_)
      by_cases d3:(i1+1+1 == a.size)=true
      ·rw[if_pos d3]
       exact zg2 ⟨⟨_,rfl⟩,.inl ⟨_,rfl,m4.finL ub d3 na h2⟩⟩
      rw[if_neg d3]
      have d3':i1+1+1<a.size:=by
       have:¬i1+1+1=a.size:=by simpa using d3
       omega
      split
      ·exact zg2 ⟨⟨_,rfl⟩,.inr ⟨_,_,_,_,_,_,rfl,m4,d3',d2',by omega⟩⟩
      ·exact zg2 ⟨⟨_,rfl⟩,_,_,_,_,_,_,rfl,m4,d3',d2',by omega⟩
     ·rw[if_neg hk2]
      have hk2':k2=0:=by omega
      subst hk2'
      have m4:=m2.pushA ua hi1' hb2
      refine zg1 (zl (zg6 a i1 hi1') ?_)
      by_cases d3:(i1+1+1 == a.size)=true
      ·rw[if_pos d3]
       exact zg2 ⟨⟨_,rfl⟩,.inl ⟨_,rfl,m4.finL ub d3 na h2⟩⟩
      rw[if_neg d3]
      have d3':i1+1+1<a.size:=by
       have:¬i1+1+1=a.size:=by simpa using d3
       omega
      split
      ·exact zg2 ⟨⟨_,rfl⟩,.inr ⟨_,_,_,_,_,_,rfl,m4,d3',d1',by omega⟩⟩
      ·exact zg2 ⟨⟨_,rfl⟩,_,_,_,_,_,_,rfl,m4,d3',d1',by omega⟩
    ·rw[if_neg hk1]
     have hk1':k1=0:=by omega
     subst hk1'
     have m1:=m
     have d4':i'+1<a.size:=hi
     have hs1:i+j+1≤i'+j':=by omega
     have hb1':∀y∈a.toList.drop i',ky b[j']≤ky y:=hb1
     clear hb1
     have hb1:=hb1'
     generalize hi1:i'=i1 at *
     have m2:=m1.pushB ub hj hb1
     refine zg1 (zl (zg6 b j' hj) ?_)
     by_cases d1:(j'+1 == b.size)=true
     ·rw[if_pos d1]
      exact zg2 ⟨⟨_,rfl⟩,.inl ⟨_,rfl,m2.finB ua d1⟩⟩
     rw[if_neg d1]
     have d1':j'+1<b.size:=by
      have:¬j'+1=b.size:=by simpa using d1
      omega
     have hi1':i1<a.size:=by omega
     obtain⟨t2,e2⟩:=zO ia hi1'
     refine zg1 (zl (zg6 a i1 hi1') ?_)
     refine zg1 (yO hk e2 ib (by omega) (by omega) (ya fun p q _ h6 h7=>yT ub h6 (by omega)) fun k2 ct2=>?_)
     have le2:=ct2.le
     have kk2:=xr hi1'
     have hb2:∀y∈b.toList.drop (j'+1+k2),ky a[i1]≤ky y:=xX (P:=fun z=>ky a[i1]≤z) fun t h6 h7=>by rw[←kk2];exact yK ct2 h6 (by omega)
     have ht2:∀x∈(b.toList.drop (j'+1)).take k2,ky x≤ky a[i1]:=xg (P:=fun z=>z≤ky a[i1]) fun t h6 h7 _=>by rw[←kk2];exact yN ct2 h6 h7
     dsimp only
     by_cases hk2:k2 > 0
     ·rw[if_pos hk2]
      have m3:=m2.extB ub (k:=k2) (by omega) fun x hx y hy=>zl1 (ht2 x hx) (yL ua hi1' y hy)
      by_cases d2:(j'+1+k2 == b.size)=true
      ·rw[if_pos d2]
       exact zg2 ⟨⟨_,rfl⟩,.inl ⟨_,rfl,m3.finB ua d2⟩⟩
      rw[if_neg d2]
      have d2':j'+1+k2<b.size:=by
       have:¬j'+1+k2=b.size:=by simpa using d2
       omega
      have m4:=m3.pushA ua hi1' hb2
      refine zg1 (zl (zg6 a i1 hi1') ?_)
      by_cases d3:(i1+1+1 == a.size)=true
      ·rw[if_pos d3]
       exact zg2 ⟨⟨_,rfl⟩,.inl ⟨_,rfl,m4.finL ub d3 na h2⟩⟩
      rw[if_neg d3]
      have d3':i1+1+1<a.size:=by
       have:¬i1+1+1=a.size:=by simpa using d3
       omega
      split
      ·exact zg2 ⟨⟨_,rfl⟩,.inr ⟨_,_,_,_,_,_,rfl,m4,d3',d2',by omega⟩⟩
      ·exact zg2 ⟨⟨_,rfl⟩,_,_,_,_,_,_,rfl,m4,d3',d2',by omega⟩
     ·rw[if_neg hk2]
      have hk2':k2=0:=by omega
      subst hk2'
      have m4:=m2.pushA ua hi1' hb2
      refine zg1 (zl (zg6 a i1 hi1') ?_)
      by_cases d3:(i1+1+1 == a.size)=true
      ·rw[if_pos d3]
       exact zg2 ⟨⟨_,rfl⟩,.inl ⟨_,rfl,m4.finL ub d3 na h2⟩⟩
      rw[if_neg d3]
      have d3':i1+1+1<a.size:=by
       have:¬i1+1+1=a.size:=by simpa using d3
       omega
      split
      ·exact zg2 ⟨⟨_,rfl⟩,.inr ⟨_,_,_,_,_,_,rfl,m4,d3',d1',by omega⟩⟩
      ·exact zg2 ⟨⟨_,rfl⟩,_,_,_,_,_,_,rfl,m4,d3',d1',by omega⟩
  ·rintro c st' ⟨⟨g,rfl⟩,out',i',j',mg,ac,bc,rfl,m,hi,hj,hs⟩
   exact⟨⟨g,rfl⟩,.inr ⟨_,_,_,_,_,_,rfl,m,hi,hj,hs⟩⟩
  ·rintro c st' ⟨⟨g,rfl⟩,hc⟩
   rcases hc with ⟨r,hr,gd⟩|⟨out,i',j',mg,ac,bc,rfl,m,hi,hj,hs⟩
   ·rw[hr]
    exact zg2 ⟨⟨g,rfl⟩,r,rfl,gd⟩
   ·dsimp only
    refine zg1 (zm6 ?_)
    exact zg2 ⟨⟨_,rfl⟩,_,_,_,_,rfl,m,hi,hj,by omega⟩
 ·rintro c st' ⟨_,out,i,j,mg,rfl,m,hi,hj,hxi⟩
  omega
 ·rintro c st' ⟨⟨g,rfl⟩,r,hr,gd⟩
  rw[hr]
  exact zg2 (h r g gd)
end
def mhi :Array Keyed→Array Keyed→StateT SortSt Sem (Array Keyed):=sortPriv% PySem.Builtin.mergeHi
structure MJ (a b L:List Keyed)(n m:Nat):Prop where
 na:n≤a.length
 mb:m≤b.length
 pm:L.Perm (a.drop n++b.drop m)
 up:Up L
 le:∀x∈a.take n++b.take m,∀y∈L,ky x≤ky y
section
variable {a b L:List Keyed}{n m k:Nat}
theorem MJ.doneA (h:MJ a b L 0 m)(ub:Up b):Good a b (b.take m++L):=by
 refine⟨?_,zj1.mpr ⟨ub.sublist (zo8 _ _),h.up,fun x hx y hy=>h.le x (zh2 _ hx) y hy⟩⟩
 refine (zk5 _ h.pm).trans ?_
 have:(b.take m++(a++b.drop m)).Perm (a++(b.take m++b.drop m)):=by
  rw[←zi2,←zi2]
  exact zp8 _ zm7
 rwa [zi4] at this
theorem MJ.doneB (h:MJ a b L n 0)(ua:Up a):Good a b (a.take n++L):=by
 refine⟨?_,zj1.mpr ⟨ua.sublist (zo8 _ _),h.up,fun x hx y hy=>h.le x (zh8 _ hx) y hy⟩⟩
 refine (zk5 _ h.pm).trans ?_
 rw[←zi2,zi4]
 exact List.Perm.refl _
theorem MJ.first (h:MJ a b L n 1)(ua:Up a)(hb:0<b.length)(hl:∀x∈a,ky b[0]≤ky x):Good a b (b.take 1++a.take n++L):=by
 have e:b.take 1=[b[0]]:=by
  match b,hb with
  |y::ys,_=>rfl
 refine⟨?_,?_⟩
 ·refine (zk5 _ h.pm).trans ?_
  have:(b.take 1++a.take n++(a.drop n++b.drop 1)).Perm (a.take n++a.drop n++(b.take 1++b.drop 1)):=by
   rw[zi2 (a.take n)]
   rw[←zi2 (a.drop n)]
   refine (zp8 _ zm7).trans ?_
   rw[zi2]
   refine zk5 _ ?_
   rw[←zi2]
   exact zp8 _ zm7
  rwa [zi4,zi4] at this
 ·refine zj1.mpr ⟨zj1.mpr ⟨by rw[e];exact zu3 _ _,ua.sublist (zo8 _ _),fun x hx y hy=>?_⟩,h.up,fun x hx y hy=>?_⟩
  ·rw[e] at hx
   rw[zj4.mp hx]
   exact hl y (zn2 hy)
  ·refine h.le x ?_ y hy
   rcases zi0.mp hx with hx|hx
   ·exact zh2 _ hx
   ·exact zh8 _ hx
theorem MJ.preA (h:MJ a b L n m)(ua:Up a)(hk:k≤n)(hc:∀x∈(a.take n).drop k,∀y∈b.take m,ky y≤ky x):MJ a b ((a.take n).drop k++L) k m:=by
 have ek:(a.take n).take k=a.take k:=by rw[zw3,zv8 hk]
 have sp:a.take n=a.take k++(a.take n).drop k:=by rw[←ek,zi4]
 have ud:Up (a.take n):=ua.sublist (zo8 _ _)
 have ud':=ud
 rw[sp] at ud'
 obtain⟨u1,u2,u3⟩:=zj1.mp ud'
 refine⟨zk7 hk h.na,h.mb,?_,zj1.mpr ⟨u2,h.up,fun x hx y hy=>h.le x (zh8 _ (zn1 hx)) y hy⟩,fun x hx y hy=>?_⟩
 ·refine (zk5 _ h.pm).trans ?_
  have:a.drop k=(a.take n).drop k++a.drop n:=by
   conv=>lhs;rw[←zi4 n a]
   rw[List.drop_append_of_le_length (by have:=h.na;rw[zm8];omega)]
  rw[this,zi2]
 ·rcases zi0.mp hy with hy|hy
  ·rcases zi0.mp hx with hx|hx
   ·exact u3 x hx y hy
   ·exact hc y hy x hx
  ·refine h.le x ?_ y hy
   rcases zi0.mp hx with hx|hx
   ·rw[sp];exact zh8 _ (zh8 _ hx)
   ·exact zh2 _ hx
theorem MJ.preB (h:MJ a b L n m)(ub:Up b)(hk:k≤m)(hc:∀x∈(b.take m).drop k,∀y∈a.take n,ky y≤ky x):MJ a b ((b.take m).drop k++L) n k:=by
 have ek:(b.take m).take k=b.take k:=by rw[zw3,zv8 hk]
 have sp:b.take m=b.take k++(b.take m).drop k:=by rw[←ek,zi4]
 have ud':Up (b.take m):=ub.sublist (zo8 _ _)
 rw[sp] at ud'
 obtain⟨u1,u2,u3⟩:=zj1.mp ud'
 refine⟨h.na,zk7 hk h.mb,?_,zj1.mpr ⟨u2,h.up,fun x hx y hy=>h.le x (zh2 _ (zn1 hx)) y hy⟩,fun x hx y hy=>?_⟩
 ·refine (zk5 _ h.pm).trans ?_
  have:b.drop k=(b.take m).drop k++b.drop m:=by
   conv=>lhs;rw[←zi4 m b]
   rw[List.drop_append_of_le_length (by have:=h.mb;rw[zm8];omega)]
  rw[this,←zi2,←zi2]
  exact zp8 _ zm7
 ·rcases zi0.mp hy with hy|hy
  ·rcases zi0.mp hx with hx|hx
   ·exact hc y hy x hx
   ·exact u3 x hx y hy
  ·refine h.le x ?_ y hy
   rcases zi0.mp hx with hx|hx
   ·exact zh8 _ hx
   ·rw[sp];exact zh2 _ (zh8 _ hx)
end
abbrev MB (a b out:Array Keyed)(n m:Nat):Prop:=MJ a.toList b.toList out.toList.reverse n m
section
variable {a b out:Array Keyed}{n m k:Nat}
theorem sV (a:Array Keyed)(n:Nat):(a.extract 0 n).toList=a.toList.take n:=by
 rw[zs6,zq6];simp
theorem wW (a:Array Keyed)(k n:Nat):(a.extract k n).toList=(a.toList.take n).drop k:=by
 rw[zs6,zq6,List.drop_take]
theorem MB.extA (h:MB a b out n m)(ua:Up a.toList)(hk:k≤n)(hc:∀x∈(a.toList.take n).drop k,∀y∈b.toList.take m,ky y≤ky x):MB a b (out++(a.extract k n).reverse) k m:=by
 have:=h.preA ua hk hc
 unfold MB
 rwa [zj6,zq7,zr1,List.reverse_reverse,wW]
theorem MB.extB (h:MB a b out n m)(ub:Up b.toList)(hk:k≤m)(hc:∀x∈(b.toList.take m).drop k,∀y∈a.toList.take n,ky y≤ky x):MB a b (out++(b.extract k m).reverse) n k:=by
 have:=h.preB ub hk hc
 unfold MB
 rwa [zj6,zq7,zr1,List.reverse_reverse,wW]
theorem rD {a:Array Keyed}{n:Nat}(h:n-1<a.size)(h0:0<n):(a.toList.take n).drop (n-1)=[a[n-1]]:=by
 have:n-(n-1)=1:=by omega
 rw[List.drop_take,this,take1 _ (by simpa using h)]
 simp
theorem MB.pushA (h:MB a b out n m)(ua:Up a.toList)(h0:0<n)(hn:n-1<a.size)(hc:∀y∈b.toList.take m,ky y≤ky a[n-1]):MB a b (out.push a[n-1]) (n-1) m:=by
 have e:=rD hn h0
 have:=h.preA (k:=n-1) ua (by omega) (by rw[e];intro x hx;rw[zj4.mp hx];exact hc)
 unfold MB
 rw[e] at this
 rwa [zp1,zr1]
theorem MB.pushB (h:MB a b out n m)(ub:Up b.toList)(h0:0<m)(hm:m-1<b.size)(hc:∀y∈a.toList.take n,ky y≤ky b[m-1]):MB a b (out.push b[m-1]) n (m-1):=by
 have e:=rD hm h0
 have:=h.preB (k:=m-1) ub (by omega) (by rw[e];intro x hx;rw[zj4.mp hx];exact hc)
 unfold MB
 rw[e] at this
 rwa [zp1,zr1]
theorem MB.finA (h:MB a b out n m)(ub:Up b.toList)(e:(n == 0)=true):Good a.toList b.toList (a.extract 0 n++b.extract 0 m++out.reverse).toList:=by
 have e':n=0:=by simpa using e
 subst e'
 rw[zj6,zj6,sV,sV,zq7]
 exact h.doneA ub
theorem MB.finB (h:MB a b out n m)(ua:Up a.toList)(e:(m == 0)=true):Good a.toList b.toList (a.extract 0 n++b.extract 0 m++out.reverse).toList:=by
 have e':m=0:=by simpa using e
 subst e'
 rw[zj6,zj6,sV,sV,zq7,List.take_zero,zo6]
 exact h.doneB ua
theorem MB.finF (h:MB a b out n m)(ua:Up a.toList)(e:(m == 1)=true)(hb:0<b.size)(hl:∀x∈a.toList,ky b[0]≤ky x):Good a.toList b.toList (b.extract 0 m++a.extract 0 n++out.reverse).toList:=by
 have e':m=1:=by simpa using e
 subst e'
 rw[zj6,zj6,sV,sV,zq7]
 exact h.first ua (by simpa using hb) (by simpa using hl)
theorem yS {a:Array Keyed}{P:Int→Prop}{n:Nat}(h:∀t,t<n→t<a.size→P (K a t)):∀x∈a.toList.take n,P (ky x):=fun x hx=>by
 have:=xg (a:=a) (P:=P) (i:=0) (k:=n) (fun t _ h1 h2=>h t (by omega) h2) x
 exact this (by simpa using hx)
theorem wZ {a:Array Keyed}{P:Int→Prop}{k n:Nat}(h:∀t,k≤t→t<n→t<a.size→P (K a t)):∀x∈(a.toList.take n).drop k,P (ky x):=fun x hx=>by
 rw[List.drop_take] at hx
 exact xg (a:=a) (P:=P) (i:=k) (k:=n-k) (fun t h0 h1 h2=>h t h0 (by omega) h2) x hx
theorem xf {a:Array Keyed}(u:Up a.toList){n:Nat}(hn:n-1<a.size):∀y∈a.toList.take n,ky y≤ky a[n-1]:=by
 rw[←xr hn]
 exact yS (P:=fun z=>z≤K a (n-1)) fun t h1 h2=>yT u (by omega) hn
end
section
variable {prog:Program}{w:World}{A:Around}{E:Value→Shared→Prop}{s:Shared}{a₀:Array Keyed}
theorem cG {st:SortSt}{a b:Array Keyed}{Q:Array Keyed→SortSt→Prop}(hk:kindOf st=oneType')(ia:IntKeys a)(ib:IntKeys b)(ua:Up a.toList)(ub:Up b.toList)(na:0<a.size)(nb:0<b.size)
  (h1:∀x∈a.toList,ky b[0]≤ky x) (h2:∀y∈b.toList,ky y≤ky a[a.size-1])
  (h:∀r g,Good a.toList b.toList r.toList→Q r (SG st g)):wpS (model prog w) A E s (mhi a b) Q st:=by
 have m0:MB a b #[a[a.size-1]] (a.size-1) b.size:=by
  have:MB a b #[] a.size b.size:=⟨by simp,by simp,by simp,.nil,fun x hx y hy=>by simp at hy⟩
  have:=this.pushA ua na (by omega) (fun y hy=>h2 y (zn2 hy))
  simpa using this
 refine zg1 (wpS_lift (zo7 ⟨rfl,?_⟩))
 refine zg1 (zl (zg6 a (a.size-1) (by omega)) ?_)
 dsimp only
 by_cases c1:(a.size-1 == 0)=true
 ·rw[if_pos c1]
  exact zg2 (h _ (gallopOf st) (m0.finA ub c1))
 rw[if_neg c1]
 by_cases c2:(b.size == 1)=true
 ·rw[if_pos c2]
  exact zg2 (h _ (gallopOf st) (m0.finF ua c2 nb h1))
 rw[if_neg c2]
 refine zg1 (zs4 ?_)
 have c1':0<a.size-1:=by
  have:¬a.size-1=0:=by simpa using c1
  omega
 have c2':1<b.size:=by
  have:¬b.size=1:=by simpa using c2
  omega
 refine zg1 (zn6 (zk8 (I:=fun x c st'=>(∃g,st'=SG st g)∧∃out n m mg,c=(none,n,m,out,mg)∧MB a b out n m∧0<n∧1<m∧n<a.size∧m≤b.size∧x+1+n+m≤a.size+b.size)
  (Q:=fun c st'=>(∃g,st'=SG st g)∧∃r,c.1=some r∧Good a.toList b.toList r.toList) ?_ ?_ ⟨⟨_,rfl⟩,_,_,_,_,rfl,m0,c1',c2',by omega,by omega,by omega⟩) ?_)
 ·clear m0
  rintro x c st' _ hx ⟨⟨g,rfl⟩,out,n,m,mg,rfl,m0,hn,hm,hn',hm',hxi⟩
  dsimp only
  refine zg1 (zn6 (zk8 (I:=fun x c st'=>st'=SG st g∧∃out' n' m' ac bc,c=(none,n',m',out',ac,bc)∧MB a b out' n' m'∧0<n'∧1<m'∧n'<a.size∧m'≤b.size∧x+n'+m'≤n+m)
   (Q:=fun c st'=>st'=SG st g∧((∃r,c.1=some r∧Good a.toList b.toList r.toList)∨∃out' n' m' ac bc,c=(none,n',m',out',ac,bc)∧MB a b out' n' m'∧0<n'∧1<m'∧n'<a.size∧m'≤b.size∧1+n'+m'≤n+m)) ?_ ?_ ⟨rfl,out,n,m,0,0,rfl,m0,hn,hm,hn',hm',by omega⟩) ?_)
  ·clear m0 hn' hm' hn hm
   rintro x c st' _ hx ⟨rfl,out,n',m',ac,bc,rfl,m0,hn,hm,hna,hmb,hs⟩
   dsimp only
   have hj:m'-1<b.size:=by omega
   have hi:n'-1<a.size:=by omega
   obtain⟨t1,e1⟩:=zO ib hj
   obtain⟨t2,e2⟩:=zO ia hi
   have k1:=xr hj
   have k2:=xr hi
   refine zg1 (zl (zg6 b _ hj) (zg1 (zl (zg6 a _ hi) (zg1 (mx hk e1 e2 ?_)))))
   by_cases hw:K b (m'-1)<K a (n'-1)
   ·rw[zk1 hw]
    dsimp only
    rw[if_pos rfl]
    refine zg1 (zl (zg6 a _ hi) ?_)
    have m1:=m0.pushA ua hn hi fun y hy=>by have:=xf ub hj y hy;omega
    by_cases d1:(n'-1 == 0)=true
    ·rw[if_pos d1]
     exact zg2 ⟨rfl,.inl ⟨_,rfl,m1.finA ub d1⟩⟩
    ·rw[if_neg d1]
     have d1':0<n'-1:=by
                   have:¬n'-1=0:=by simpa using d1
                   omega
     by_cases d2:ac+1≥mg
     ·rw[if_pos d2]
      exact zg2 ⟨rfl,.inr ⟨_,_,_,_,_,rfl,m1,d1',hm,by omega,hmb,by omega⟩⟩
     ·rw[if_neg d2]
      exact zg2 ⟨rfl,_,_,_,_,_,rfl,m1,d1',hm,by omega,hmb,by omega⟩
   ·rw[zi7 hw]
    dsimp only
    rw[if_neg (by decide)]
    refine zg1 (zl (zg6 b _ hj) ?_)
    have m1:=m0.pushB ub (by omega) hj fun y hy=>by have:=xf ua hi y hy;omega
    by_cases d1:(m'-1 == 1)=true
    ·rw[if_pos d1]
     exact zg2 ⟨rfl,.inl ⟨_,rfl,m1.finF ua d1 nb h1⟩⟩
    ·rw[if_neg d1]
     have d1':1<m'-1:=by
                   have:¬m'-1=1:=by simpa using d1
                   omega
     by_cases d2:bc+1≥mg
     ·rw[if_pos d2]
      exact zg2 ⟨rfl,.inr ⟨_,_,_,_,_,rfl,m1,hn,d1',by omega,by omega,by omega⟩⟩
     ·rw[if_neg d2]
      exact zg2 ⟨rfl,_,_,_,_,_,rfl,m1,hn,d1',by omega,by omega,by omega⟩
  ·rintro c st' ⟨rfl,out,n',m',ac,bc,rfl,m0,hn,hm,hna,hmb,hs⟩
   exact⟨rfl,.inr ⟨_,_,_,_,_,rfl,m0,hn,hm,hna,hmb,by omega⟩⟩
  rintro c st' ⟨rfl,hc⟩
  rcases hc with ⟨r,hr,gd⟩|⟨out,n',m',ac,bc,rfl,m0,hn,hm,hna,hmb,hs⟩
  ·rw[hr]
   exact zg2 ⟨⟨g,rfl⟩,r,rfl,gd⟩
  dsimp only
  refine zg1 (wpS_lift (zo7 ⟨rfl,?_⟩))
  refine zg1 (zn6 (zk8 (I:=fun _ c st'=>(∃g,st'=SG st g)∧∃out' n' m' mg ac bc,c=(none,n',m',out',mg,ac,bc)∧MB a b out' n' m'∧0<n'∧1<m'∧n'<a.size∧m'≤b.size∧1+n'+m'≤n+m)
   (Q:=fun c st'=>(∃g,st'=SG st g)∧((∃r,c.1=some r∧Good a.toList b.toList r.toList)∨∃out' n' m' mg ac bc,c=(none,n',m',out',mg,ac,bc)∧MB a b out' n' m'∧0<n'∧1<m'∧n'<a.size∧m'≤b.size∧1+n'+m'≤n+m)) ?_ ?_ ⟨⟨g,rfl⟩,out,n',m',mg+1,ac,bc,rfl,m0,hn,hm,hna,hmb,hs⟩) ?_)
  ·clear m0 hn hm hna hmb hs hn' hm'
   rintro y c st' _ hy ⟨⟨g,rfl⟩,out,n',m',mg,ac,bc,rfl,m0,hn,hm,hna,hmb,hs⟩
   dsimp only
   have hm':m'-1<b.size:=by omega
   obtain⟨t1,e1⟩:=zO ib hm'
   have kk1:=xr hm'
   by_cases hmg:mg > 1
   ·rw[if_pos hmg]
    refine zg1 (zm6 ?_)
    refine zg1 (zl (zg6 b (m'-1) hm') ?_)
    refine zg1 (yO hk e1 ia (by omega) (by omega) (ya fun p q _ h6 h7=>yT ua h6 (by omega)) fun k1 ct1=>?_)
    have le1:=ct1.le
    have hb1:∀y∈a.toList.take k1,ky y≤ky b[m'-1]:=yS (P:=fun z=>z≤ky b[m'-1]) fun t h6 h7=>by rw[←kk1];exact yN ct1 (by omega) (by omega)
    have ht1:∀x∈(a.toList.take n').drop k1,ky b[m'-1]≤ky x:=wZ (P:=fun z=>ky b[m'-1]≤z) fun t h6 h7 _=>by rw[←kk1];exact yK ct1 (by omega) (by omega)
    dsimp only
    by_cases hk1:n'-k1 > 0
    ·rw[if_pos hk1]
     have m1:=m0.extA ua (k:=k1) (by omega) fun x hx y hy=>zl1 (xf ub hm' y hy) (ht1 x hx)
     by_cases d4:(k1 == 0)=true
     ·rw[if_pos d4]
      exact zg2 ⟨⟨_,rfl⟩,.inl ⟨_,rfl,m1.finA ub d4⟩⟩
     rw[if_neg d4]
     have d4':0<k1:=by
      have:¬k1=0:=by simpa using d4
      omega
     generalize hn1:k1=n1 at *
     have m2:=m1.pushB ub (by omega) hm' hb1
     refine zg1 (zl (zg6 b (m'-1) hm') ?_)
     by_cases d1:(m'-1 == 1)=true
     ·rw[if_pos d1]
      exact zg2 ⟨⟨_,rfl⟩,.inl ⟨_,rfl,m2.finF ua d1 nb h1⟩⟩
     rw[if_neg d1]
     have d1':1<m'-1:=by
      have:¬m'-1=1:=by simpa using d1
      omega
     have hn1':n1-1<a.size:=by omega
     obtain⟨t2,e2⟩:=zO ia hn1'
     refine zg1 (zl (zg6 a (n1-1) hn1') ?_)
     refine zg1 (yO hk e2 ib (by omega) (by omega) (ya fun p q _ h6 h7=>yT ub h6 (by omega)) fun k2 ct2=>?_)
     have le2:=ct2.le
     have kk2:=xr hn1'
     have hb2:∀y∈b.toList.take k2,ky y≤ky a[n1-1]:=yS (P:=fun z=>z≤ky a[n1-1]) fun t h6 h7=>by rw[←kk2];exact yN ct2 (by omega) (by omega)
     have ht2:∀x∈(b.toList.take (m'-1)).drop k2,ky a[n1-1]≤ky x:=wZ (P:=fun z=>ky a[n1-1]≤z) fun t h6 h7 _=>by rw[←kk2];exact yK ct2 (by omega) (by omega)
     dsimp only
     by_cases hk2:m'-1-k2 > 0
     ·rw[if_pos hk2]
      have m3:=m2.extB ub (k:=k2) (by omega) fun x hx y hy=>zl1 (xf ua hn1' y hy) (ht2 x hx)
      by_cases d2:(k2 == 1)=true
      ·rw[if_pos d2]
       exact zg2 ⟨⟨_,rfl⟩,.inl ⟨_,rfl,m3.finF ua d2 nb h1⟩⟩
      rw[if_neg d2]
      by_cases d5:(k2 == 0)=true
      ·rw[if_pos d5]
       exact zg2 ⟨⟨_,rfl⟩,.inl ⟨_,rfl,m3.finB ua d5⟩⟩
      rw[if_neg d5]
      have d2':1<k2:=by
       have:¬k2=1:=by simpa using d2
       have:¬k2=0:=by simpa using d5
       omega
      have m4:=m3.pushA ua (by omega) hn1' hb2
      refine zg1 (zl (zg6 a (n1-1) hn1') ?_)
      by_cases d3:(n1-1 == 0)=true
      ·rw[if_pos d3]
       exact zg2 ⟨⟨_,rfl⟩,.inl ⟨_,rfl,m4.finA ub d3⟩⟩
      rw[if_neg d3]
      have d3':0<n1-1:=by
       have:¬n1-1=0:=by simpa using d3
       omega
      split
      ·exact zg2 ⟨⟨_,rfl⟩,.inr ⟨_,_,_,_,_,_,rfl,m4,d3',d2',by omega,by omega,by omega⟩⟩
      ·exact zg2 ⟨⟨_,rfl⟩,_,_,_,_,_,_,rfl,m4,d3',d2',by omega,by omega,by omega⟩
     ·rw[if_neg hk2]
      have hk2':k2=m'-1:=by omega
      subst hk2'
      have m4:=m2.pushA ua (by omega) hn1' hb2
      refine zg1 (zl (zg6 a (n1-1) hn1') ?_)
      by_cases d3:(n1-1 == 0)=true
      ·rw[if_pos d3]
       exact zg2 ⟨⟨_,rfl⟩,.inl ⟨_,rfl,m4.finA ub d3⟩⟩
      rw[if_neg d3]
      have d3':0<n1-1:=by
       have:¬n1-1=0:=by simpa using d3
       omega
      split
      ·exact zg2 ⟨⟨_,rfl⟩,.inr ⟨_,_,_,_,_,_,rfl,m4,d3',d1',by omega,by omega,by omega⟩⟩
      ·exact zg2 ⟨⟨_,rfl⟩,_,_,_,_,_,_,rfl,m4,d3',d1',by omega,by omega,by omega⟩
    ·rw[if_neg hk1]
     have hk1':k1=n':=by omega
     subst hk1'
     have m1:=m0
     generalize hn1:k1=n1 at *
     have m2:=m1.pushB ub (by omega) hm' hb1
     refine zg1 (zl (zg6 b (m'-1) hm') ?_)
     by_cases d1:(m'-1 == 1)=true
     ·rw[if_pos d1]
      exact zg2 ⟨⟨_,rfl⟩,.inl ⟨_,rfl,m2.finF ua d1 nb h1⟩⟩
     rw[if_neg d1]
     have d1':1<m'-1:=by
      have:¬m'-1=1:=by simpa using d1
      omega
     have hn1':n1-1<a.size:=by omega
     obtain⟨t2,e2⟩:=zO ia hn1'
     refine zg1 (zl (zg6 a (n1-1) hn1') ?_)
     refine zg1 (yO hk e2 ib (by omega) (by omega) (ya fun p q _ h6 h7=>yT ub h6 (by omega)) fun k2 ct2=>?_)
     have le2:=ct2.le
     have kk2:=xr hn1'
     have hb2:∀y∈b.toList.take k2,ky y≤ky a[n1-1]:=yS (P:=fun z=>z≤ky a[n1-1]) fun t h6 h7=>by rw[←kk2];exact yN ct2 (by omega) (by omega)
     have ht2:∀x∈(b.toList.take (m'-1)).drop k2,ky a[n1-1]≤ky x:=wZ (P:=fun z=>ky a[n1-1]≤z) fun t h6 h7 _=>by rw[←kk2];exact yK ct2 (by omega) (by omega)
     dsimp only
     by_cases hk2:m'-1-k2 > 0
     ·rw[if_pos hk2]
      have m3:=m2.extB ub (k:=k2) (by omega) fun x hx y hy=>zl1 (xf ua hn1' y hy) (ht2 x hx)
      by_cases d2:(k2 == 1)=true
      ·rw[if_pos d2]
       exact zg2 ⟨⟨_,rfl⟩,.inl ⟨_,rfl,m3.finF ua d2 nb h1⟩⟩
      rw[if_neg d2]
      by_cases d5:(k2 == 0)=true
      ·rw[if_pos d5]
       exact zg2 ⟨⟨_,rfl⟩,.inl ⟨_,rfl,m3.finB ua d5⟩⟩
      rw[if_neg d5]
      have d2':1<k2:=by
       have:¬k2=1:=by simpa using d2
       have:¬k2=0:=by simpa using d5
       omega
      have m4:=m3.pushA ua (by omega) hn1' hb2
      refine zg1 (zl (zg6 a (n1-1) hn1') ?_)
      by_cases d3:(n1-1 == 0)=true
      ·rw[if_pos d3]
       exact zg2 ⟨⟨_,rfl⟩,.inl ⟨_,rfl,m4.finA ub d3⟩⟩
      rw[if_neg d3]
      have d3':0<n1-1:=by
       have:¬n1-1=0:=by simpa using d3
       omega
      split
      ·exact zg2 ⟨⟨_,rfl⟩,.inr ⟨_,_,_,_,_,_,rfl,m4,d3',d2',by omega,by omega,by omega⟩⟩
      ·exact zg2 ⟨⟨_,rfl⟩,_,_,_,_,_,_,rfl,m4,d3',d2',by omega,by omega,by omega⟩
     ·rw[if_neg hk2]
      have hk2':k2=m'-1:=by omega
      subst hk2'
      have m4:=m2.pushA ua (by omega) hn1' hb2
      refine zg1 (zl (zg6 a (n1-1) hn1') ?_)
      by_cases d3:(n1-1 == 0)=true
      ·rw[if_pos d3]
       exact zg2 ⟨⟨_,rfl⟩,.inl ⟨_,rfl,m4.finA ub d3⟩⟩
      rw[if_neg d3]
      have d3':0<n1-1:=by
       have:¬n1-1=0:=by simpa using d3
       omega
      split
      ·exact zg2 ⟨⟨_,rfl⟩,.inr ⟨_,_,_,_,_,_,rfl,m4,d3',d1',by omega,by omega,by omega⟩⟩
      ·exact zg2 ⟨⟨_,rfl⟩,_,_,_,_,_,_,rfl,m4,d3',d1',by omega,by omega,by omega⟩
   ·rw[if_neg hmg]
    refine zg1 (zm6 ?_)
    refine zg1 (zl (zg6 b (m'-1) hm') ?_)
    refine zg1 (yO hk e1 ia (by omega) (by omega) (ya fun p q _ h6 h7=>yT ua h6 (by omega)) fun k1 ct1=>?_)
    have le1:=ct1.le
    have hb1:∀y∈a.toList.take k1,ky y≤ky b[m'-1]:=yS (P:=fun z=>z≤ky b[m'-1]) fun t h6 h7=>by rw[←kk1];exact yN ct1 (by omega) (by omega)
    have ht1:∀x∈(a.toList.take n').drop k1,ky b[m'-1]≤ky x:=wZ (P:=fun z=>ky b[m'-1]≤z) fun t h6 h7 _=>by rw[←kk1];exact yK ct1 (by omega) (by omega)
    dsimp only
    by_cases hk1:n'-k1 > 0
    ·rw[if_pos hk1]
     have m1:=m0.extA ua (k:=k1) (by omega) fun x hx y hy=>zl1 (xf ub hm' y hy) (ht1 x hx)
     by_cases d4:(k1 == 0)=true
     ·rw[if_pos d4]
      exact zg2 ⟨⟨_,rfl⟩,.inl ⟨_,rfl,m1.finA ub d4⟩⟩
     rw[if_neg d4]
     have d4':0<k1:=by
      have:¬k1=0:=by simpa using d4
      omega
     generalize hn1:k1=n1 at *
     have m2:=m1.pushB ub (by omega) hm' hb1
     refine zg1 (zl (zg6 b (m'-1) hm') ?_)
     by_cases d1:(m'-1 == 1)=true
     ·rw[if_pos d1]
      exact zg2 ⟨⟨_,rfl⟩,.inl ⟨_,rfl,m2.finF ua d1 nb h1⟩⟩
     rw[if_neg d1]
     have d1':1<m'-1:=by
      have:¬m'-1=1:=by simpa using d1
      omega
     have hn1':n1-1<a.size:=by omega
     obtain⟨t2,e2⟩:=zO ia hn1'
     refine zg1 (zl (zg6 a (n1-1) hn1') ?_)
     refine zg1 (yO hk e2 ib (by omega) (by omega) (ya fun p q _ h6 h7=>yT ub h6 (by omega)) fun k2 ct2=>?_)
     have le2:=ct2.le
     have kk2:=xr hn1'
     have hb2:∀y∈b.toList.take k2,ky y≤ky a[n1-1]:=yS (P:=fun z=>z≤ky a[n1-1]) fun t h6 h7=>by rw[←kk2];exact yN ct2 (by omega) (by omega)
     have ht2:∀x∈(b.toList.take (m'-1)).drop k2,ky a[n1-1]≤ky x:=wZ (P:=fun z=>ky a[n1-1]≤z) fun t h6 h7 _=>by rw[←kk2];exact yK ct2 (by omega) (by omega)
     dsimp only
     by_cases hk2:m'-1-k2 > 0
     ·rw[if_pos hk2]
      have m3:=m2.extB ub (k:=k2) (by omega) fun x hx y hy=>zl1 (xf ua hn1' y hy) (ht2 x hx)
      by_cases d2:(k2 == 1)=true
      ·rw[if_pos d2]
       exact zg2 ⟨⟨_,rfl⟩,.inl ⟨_,rfl,m3.finF ua d2 nb h1⟩⟩
      rw[if_neg d2]
      by_cases d5:(k2 == 0)=true
      ·rw[if_pos d5]
       exact zg2 ⟨⟨_,rfl⟩,.inl ⟨_,rfl,m3.finB ua d5⟩⟩
      rw[if_neg d5]
      have d2':1<k2:=by
       have:¬k2=1:=by simpa using d2
       have:¬k2=0:=by simpa using d5
       omega
      have m4:=m3.pushA ua (by omega) hn1' hb2
      refine zg1 (zl (zg6 a (n1-1) hn1') ?_)
      by_cases d3:(n1-1 == 0)=true
      ·rw[if_pos d3]
       exact zg2 ⟨⟨_,rfl⟩,.inl ⟨_,rfl,m4.finA ub d3⟩⟩
      rw[if_neg d3]
      have d3':0<n1-1:=by
       have:¬n1-1=0:=by simpa using d3
       omega
      split
      ·exact zg2 ⟨⟨_,rfl⟩,.inr ⟨_,_,_,_,_,_,rfl,m4,d3',d2',by omega,by omega,by omega⟩⟩
      ·exact zg2 ⟨⟨_,rfl⟩,_,_,_,_,_,_,rfl,m4,d3',d2',by omega,by omega,by omega⟩
     ·rw[if_neg hk2]
      have hk2':k2=m'-1:=by omega
      subst hk2'
      have m4:=m2.pushA ua (by omega) hn1' hb2
      refine zg1 (zl (zg6 a (n1-1) hn1') ?_)
      by_cases d3:(n1-1 == 0)=true
      ·rw[if_pos d3]
       exact zg2 ⟨⟨_,rfl⟩,.inl ⟨_,rfl,m4.finA ub d3⟩⟩
      rw[if_neg d3]
      have d3':0<n1-1:=by
       have:¬n1-1=0:=by simpa using d3
       omega
      split
      ·exact zg2 ⟨⟨_,rfl⟩,.inr ⟨_,_,_,_,_,_,rfl,m4,d3',d1',by omega,by omega,by omega⟩⟩
      ·exact zg2 ⟨⟨_,rfl⟩,_,_,_,_,_,_,rfl,m4,d3',d1',by omega,by omega,by omega⟩
    ·rw[if_neg hk1]
     have hk1':k1=n':=by omega
     subst hk1'
     have m1:=m0
     generalize hn1:k1=n1 at *
     have m2:=m1.pushB ub (by omega) hm' hb1
     refine zg1 (zl (zg6 b (m'-1) hm') ?_)
     by_cases d1:(m'-1 == 1)=true
     ·rw[if_pos d1]
      exact zg2 ⟨⟨_,rfl⟩,.inl ⟨_,rfl,m2.finF ua d1 nb h1⟩⟩
     rw[if_neg d1]
     have d1':1<m'-1:=by
      have:¬m'-1=1:=by simpa using d1
      omega
     have hn1':n1-1<a.size:=by omega
     obtain⟨t2,e2⟩:=zO ia hn1'
     refine zg1 (zl (zg6 a (n1-1) hn1') ?_)
     refine zg1 (yO hk e2 ib (by omega) (by omega) (ya fun p q _ h6 h7=>yT ub h6 (by omega)) fun k2 ct2=>?_)
     have le2:=ct2.le
     have kk2:=xr hn1'
     have hb2:∀y∈b.toList.take k2,ky y≤ky a[n1-1]:=yS (P:=fun z=>z≤ky a[n1-1]) fun t h6 h7=>by rw[←kk2];exact yN ct2 (by omega) (by omega)
     have ht2:∀x∈(b.toList.take (m'-1)).drop k2,ky a[n1-1]≤ky x:=wZ (P:=fun z=>ky a[n1-1]≤z) fun t h6 h7 _=>by rw[←kk2];exact yK ct2 (by omega) (by omega)
     dsimp only
     by_cases hk2:m'-1-k2 > 0
     ·rw[if_pos hk2]
      have m3:=m2.extB ub (k:=k2) (by omega) fun x hx y hy=>zl1 (xf ua hn1' y hy) (ht2 x hx)
      by_cases d2:(k2 == 1)=true
      ·rw[if_pos d2]
       exact zg2 ⟨⟨_,rfl⟩,.inl ⟨_,rfl,m3.finF ua d2 nb h1⟩⟩
      rw[if_neg d2]
      by_cases d5:(k2 == 0)=true
      ·rw[if_pos d5]
       exact zg2 ⟨⟨_,rfl⟩,.inl ⟨_,rfl,m3.finB ua d5⟩⟩
      rw[if_neg d5]
      have d2':1<k2:=by
       have:¬k2=1:=by simpa using d2
       have:¬k2=0:=by simpa using d5
       omega
      have m4:=m3.pushA ua (by omega) hn1' hb2
      refine zg1 (zl (zg6 a (n1-1) hn1') ?_)
      by_cases d3:(n1-1 == 0)=true
      ·rw[if_pos d3]
       exact zg2 ⟨⟨_,rfl⟩,.inl ⟨_,rfl,m4.finA ub d3⟩⟩
      rw[if_neg d3]
      have d3':0<n1-1:=by
       have:¬n1-1=0:=by simpa using d3
       omega
      split
      ·exact zg2 ⟨⟨_,rfl⟩,.inr ⟨_,_,_,_,_,_,rfl,m4,d3',d2',by omega,by omega,by omega⟩⟩
      ·exact zg2 ⟨⟨_,rfl⟩,_,_,_,_,_,_,rfl,m4,d3',d2',by omega,by omega,by omega⟩
     ·rw[if_neg hk2]
      have hk2':k2=m'-1:=by omega
      subst hk2'
      have m4:=m2.pushA ua (by omega) hn1' hb2
      refine zg1 (zl (zg6 a (n1-1) hn1') ?_)
      by_cases d3:(n1-1 == 0)=true
      ·rw[if_pos d3]
       exact zg2 ⟨⟨_,rfl⟩,.inl ⟨_,rfl,m4.finA ub d3⟩⟩
      rw[if_neg d3]
      have d3':0<n1-1:=by
       have:¬n1-1=0:=by simpa using d3
       omega
      split
      ·exact zg2 ⟨⟨_,rfl⟩,.inr ⟨_,_,_,_,_,_,rfl,m4,d3',d1',by omega,by omega,by omega⟩⟩
      ·exact zg2 ⟨⟨_,rfl⟩,_,_,_,_,_,_,rfl,m4,d3',d1',by omega,by omega,by omega⟩
  ·rintro c st' ⟨⟨g,rfl⟩,out',n',m',mg,ac,bc,rfl,m0,r⟩
   exact⟨⟨g,rfl⟩,.inr ⟨_,_,_,_,_,_,rfl,m0,r⟩⟩
  ·rintro c st' ⟨⟨g,rfl⟩,hc⟩
   rcases hc with ⟨r,hr,gd⟩|⟨out,n',m',mg,ac,bc,rfl,m0,hn,hm,hna,hmb,hs⟩
   ·rw[hr]
    exact zg2 ⟨⟨g,rfl⟩,r,rfl,gd⟩
   ·dsimp only
    refine zg1 (zm6 ?_)
    exact zg2 ⟨⟨_,rfl⟩,_,_,_,_,rfl,m0,hn,hm,hna,hmb,by omega⟩
 ·rintro c st' ⟨_,out,n,m,mg,rfl,m0,hn,hm,_,_,hxi⟩
  omega
 ·rintro c st' ⟨⟨g,rfl⟩,r,hr,gd⟩
  rw[hr]
  exact zg2 (h r g gd)
end
def yc (xs:Array Keyed)(l u:Nat):Prop:=∀i j,l≤i→i≤j→j<u→K xs i≤K xs j
theorem fv {M:Model}{A:Around}{E:Value→Shared→Prop}{s:Shared}{σ:Type}{x:σ}{Q:PUnit→σ→Prop}{st:σ}(h:Q ⟨⟩ x):wpS M A E s (set x:StateT σ Sem PUnit) Q st:=by
 unfold wpS;rw[StateT.run_set];exact zg4 ⟨rfl,h⟩
theorem dZ (o:Nat):∀(M:List Keyed) (k:Nat) (P Z S:List Keyed) (arr:Array Keyed),arr.toList=P++Z++S→P.length=o+k→Z.length=M.length→
  ((M.zipIdx k).foldl (fun a (pj:Keyed×Nat)=>a.setIfInBounds (o+pj.2) pj.1) arr).toList=P++M++S
 |[],k,P,Z,S,arr,h,_,hz=>by
  have:Z=[]:=zr3.mp hz
  subst this
  exact h
 |p::M,k,P,[],S,arr,h,hp,hz=>by cases hz
 |p::M,k,P,z::Z,S,arr,h,hp,hz=>by
  rw[List.zipIdx_cons,List.foldl_cons]
  have:=dZ o M (k+1) (P++[p]) Z S (arr.setIfInBounds (o+k) p) (by
   rw[Array.toList_setIfInBounds,h,←hp]
   simp) (by simp;omega) (by simpa using hz)
  rw[this]
  simp
theorem vg {xs ys:Array Keyed}(h:IntKeys ys)(hs:∀p∈xs.toList,p∈ys.toList):IntKeys xs:=fun p hp=>h p (hs p hp)
theorem ng (xs:Array Keyed)(P M S:List Keyed)(e:xs.toList=P++M++S){t:Nat}(h:t<M.length):K xs (P.length+t)=ky M[t]:=by
 have hl:P.length+t<xs.size:=by
  have:=congrArg List.length e
  simp at this;omega
 rw[xr hl]
 have:xs[P.length+t]=xs.toList[P.length+t]'(by simpa using hl):=by simp
 rw[this]
 simp only[e]
 rw[List.getElem_append_left (by simp;omega),List.getElem_append_right (by omega)]
 simp
theorem zc2 {xs ys:Array Keyed}{P M Z S:List Keyed}(e:xs.toList=P++M++S)(f:ys.toList=P++Z++S)(hz:M.length=Z.length){t:Nat}(h:t<P.length∨P.length+M.length≤t):K xs t=K ys t:=by
 refine K_congr ?_
 rw[←zo3,←zo3,e,f]
 rcases h with h|h
 ·rw[zi2,zi2,zl4 h,zl4 h]
 ·rw[zo1 (by simp;omega),zo1 (by simp;omega)]
  simp only[zj2,hz]
section
variable {prog:Program}{w:World}{A:Around}{E:Value→Shared→Prop}{s:Shared}
theorem iR {xs:Array Keyed}{l u:Nat}(h:yc xs l u)(hu:u≤xs.size):Up (xs.extract l u).toList:=by
 refine zq4.mpr fun i j hi hj hij=>?_
 simp at hi hj
 have:=h (l+i) (l+j) (by omega) (by omega) (by omega)
 rw[xr (show l+i<xs.size by omega),xr (show l+j<xs.size by omega)] at this
 simpa using this
theorem ext_mem {xs:Array Keyed}{l u:Nat}(hu:u≤xs.size){e:Keyed}(h:e∈(xs.extract l u).toList):∃t,l≤t∧t<u∧ky e=K xs t:=by
 obtain⟨t,ht,rfl⟩:=zs7.mp h
 simp at ht
 refine⟨l+t,by omega,by omega,?_⟩
 rw[xr (show l+t<xs.size by omega)]
 simp
theorem gg {xs:Array Keyed}{l u t:Nat}(hu:u≤xs.size)(h:t<(xs.extract l u).size):ky (xs.extract l u)[t]=K xs (l+t):=by
 have h':l+t<xs.size:=by simp at h;omega
 rw[xr h']
 simp
theorem oF {st:SortSt}{i sa na pw sb nb pw2:Nat}{Q:Bool→SortSt→Prop}(hk:kindOf st=oneType')(hf:failedOf st=none)(ik:IntKeys (arrOf st))
  (e1:(pendingOf st)[i]?=some (sa,na,pw)) (e2:(pendingOf st)[i+1]?=some (sb,nb,pw2)) (hab:sa+na=sb) (na0:0<na) (nb0:0<nb) (hsz:sb+nb≤(arrOf st).size)
  (hA:yc (arrOf st) sa sb) (hB:yc (arrOf st) sb (sb+nb))
  (h:∀arr' g,arr'.Perm (arrOf st)→(∀t,t<sa∨sb+nb≤t→K arr' t=K (arrOf st) t)→yc arr' sa (sb+nb)→
   Q true (SortSt.mk' (kindOf st) arr' (((pendingOf st).setIfInBounds i (sa,na+nb,pw)).eraseIdxIfInBounds (i+1)) g (failedOf st))):
  wpS (model prog w) A E s (mergeAt' i) Q st:=by
 refine zg1 (zs4 ?_)
 rw[show (pendingOf st)[i]?=some (sa,na,pw) from e1]
 rw[show (pendingOf st)[i+1]?=some (sb,nb,pw2) from e2]
 dsimp only
 refine zg1 (fv ?_)
 have hk':∀p,kindOf (setPending st p)=oneType':=fun _=>hk
 have hsb:sb<(arrOf st).size:=by omega
 obtain⟨t1,f1⟩:=zO ik hsb
 refine zg1 (zl (zg6 (arrOf st) sb hsb) ?_)
 refine zg1 (yO (hk' _) f1 ik (show sa+na≤(arrOf st).size by omega) na0 (ya fun p q h5 h6 h7=>hA p q h5 h6 (by omega)) fun k ct=>?_)
 have lek:=ct.le
 dsimp only
 have lowA:∀t,sa≤t→t<sa+k→∀q,sb≤q→q<sb+nb→K (arrOf st) t≤K (arrOf st) q:=fun t h3 h4 q h5 h6=>zl1 (yN ct h3 h4) (hB sb q (by omega) h5 h6)
 have highA:∀t,sa+k≤t→t<sb→K (arrOf st) sb≤K (arrOf st) t:=fun t h3 h4=>yK ct h3 (by omega)
 by_cases z1:(na-k == 0)=true
 ·rw[if_pos z1]
  have z1':na-k=0:=by simpa using z1
  refine zg2 (h (arrOf st) (gallopOf st) (zv9 _) (fun _ _=>rfl) fun p q h3 h4 h5=>?_)
  by_cases c1:q<sb
  ·exact hA p q h3 h4 c1
  ·by_cases c2:p<sb
   ·exact lowA p h3 (by omega) q (by omega) h5
   ·exact hB p q (by omega) h4 h5
 rw[if_neg z1]
 have z1':k<na:=by
  have:¬na-k=0:=by simpa using z1
  omega
 have hxl:sa+k+(na-k)-1<(arrOf st).size:=by omega
 obtain⟨t2,f2⟩:=zO ik hxl
 refine zg1 (zl (zg6 (arrOf st) _ hxl) ?_)
 refine zg1 (yO (hk' _) f2 ik (show sb+nb≤(arrOf st).size by omega) (by omega) (ya fun p q h5 h6 h7=>hB p q h5 h6 (by omega)) fun n2 ct2=>?_)
 have len2:=ct2.le
 have exl:sa+k+(na-k)-1=sb-1:=by omega
 rw[exl] at ct2
 dsimp only
 have lowB:∀t,sb≤t→t<sb+n2→K (arrOf st) t≤K (arrOf st) (sb-1):=fun t h3 h4=>yN ct2 h3 h4
 have highB:∀q,sb+n2≤q→q<sb+nb→∀t,sa≤t→t<sb→K (arrOf st) t≤K (arrOf st) q:=fun q h5 h6 t h3 h4=>zl1 (hA t (sb-1) h3 (by omega) (by omega)) (yK ct2 h5 h6)
 by_cases z2:(n2 == 0)=true
 ·rw[if_pos z2]
  have z2':n2=0:=by simpa using z2
  refine zg2 (h (arrOf st) (gallopOf st) (zv9 _) (fun _ _=>rfl) fun p q h3 h4 h5=>?_)
  by_cases c1:q<sb
  ·exact hA p q h3 h4 c1
  ·by_cases c2:p<sb
   ·exact highB q (by omega) h5 p h3 c2
   ·exact hB p q (by omega) h4 h5
 rw[if_neg z2]
 have z2':0<n2:=by
  have:¬n2=0:=by simpa using z2
  omega
 have ix:IntKeys ((arrOf st).extract (sa+k) sb):=vg ik fun p hp=>by
  rw[wW] at hp
  exact zn2 (zn1 hp)
 have iy:IntKeys ((arrOf st).extract sb (sb+n2)):=vg ik fun p hp=>by
  rw[wW] at hp
  exact zn2 (zn1 hp)
 have ux:Up ((arrOf st).extract (sa+k) sb).toList:=iR (fun p q h3 h4 h5=>hA p q (by omega) h4 h5) (by omega)
 have uy:Up ((arrOf st).extract sb (sb+n2)).toList:=iR (fun p q h3 h4 h5=>hB p q h3 h4 (by omega)) (by omega)
 have sx:((arrOf st).extract (sa+k) sb).size=na-k:=by simp;omega
 have sy:((arrOf st).extract sb (sb+n2)).size=n2:=by simp;omega
 have px:0<((arrOf st).extract (sa+k) sb).size:=by omega
 have py:0<((arrOf st).extract sb (sb+n2)).size:=by omega
 have q1:∀e∈((arrOf st).extract (sa+k) sb).toList,ky (((arrOf st).extract sb (sb+n2))[0]'(by omega))≤ky e:=fun e he=>by
  obtain⟨t,h3,h4,h5⟩:=ext_mem (by omega) he
  rw[h5,gg (by omega)]
  exact highA t h3 h4
 have q2:∀e∈((arrOf st).extract sb (sb+n2)).toList,ky e≤ky (((arrOf st).extract (sa+k) sb)[((arrOf st).extract (sa+k) sb).size-1]'(by omega)):=fun e he=>by
  obtain⟨t,h3,h4,h5⟩:=ext_mem (by omega) he
  rw[h5,gg (by omega),sx,show sa+k+(na-k-1)=sb-1 by omega]
  exact lowB t h3 h4
 have fin:∀{st':SortSt} (r:Array Keyed) (g:Nat),Good ((arrOf st).extract (sa+k) sb).toList ((arrOf st).extract sb (sb+n2)).toList r.toList→
   ∃arr':Array Keyed,(r.toList.zipIdx.foldl (fun a (pj:Keyed×Nat)=>a.setIfInBounds (sa+k+pj.2) pj.1) (arrOf st))=arr'∧arr'.Perm (arrOf st)∧(∀t,t<sa∨sb+nb≤t→K arr' t=K (arrOf st) t)∧yc arr' sa (sb+nb):=fun {st'} r g gd=>by
  refine⟨_,rfl,?_⟩
  have lr:r.toList.length=na-k+n2:=by
   rw[gd.pm.length_eq,zj2,zl5,zl5,sx,sy]
  have sp:(arrOf st).toList=(arrOf st).toList.take (sa+k)++(((arrOf st).extract (sa+k) sb).toList++((arrOf st).extract sb (sb+n2)).toList)++(arrOf st).toList.drop (sb+n2):=by
   rw[wW,wW]
   have a1:(arrOf st).toList.take (sa+k)++((arrOf st).toList.take sb).drop (sa+k)=(arrOf st).toList.take sb:=by
    have:=zi4 (sa+k) ((arrOf st).toList.take sb)
    rwa [zw3,zv8 (by omega)] at this
   have a2:(arrOf st).toList.take sb++((arrOf st).toList.take (sb+n2)).drop sb=(arrOf st).toList.take (sb+n2):=by
    have:=zi4 sb ((arrOf st).toList.take (sb+n2))
    rwa [zw3,zv8 (by omega)] at this
   rw[←zi2,a1,a2,zi4]
  have lP:((arrOf st).toList.take (sa+k)).length=sa+k:=by simp;omega
  have lZ:(((arrOf st).extract (sa+k) sb).toList++((arrOf st).extract sb (sb+n2)).toList).length=r.toList.length:=by rw[gd.pm.length_eq]
  have wr:=dZ (sa+k) r.toList 0 _ _ _ (arrOf st) sp (by rw[lP];rfl) lZ
  generalize r.toList.zipIdx.foldl (fun a (pj:Keyed×Nat)=>a.setIfInBounds (sa+k+pj.2) pj.1) (arrOf st)=arr' at wr
  have ko:∀t,t<sa+k∨sb+n2≤t→K arr' t=K (arrOf st) t:=fun t ht=>zc2 wr sp lZ.symm (by rw[lP];omega)
  have km:∀t,sa+k≤t→t<sb+n2→∃q,sa+k≤q∧q<sb+n2∧K arr' t=K (arrOf st) q:=fun t h3 h4=>by
   have:=ng arr' _ _ _ wr (t:=t-(sa+k)) (by omega)
   rw[lP,show sa+k+(t-(sa+k))=t by omega] at this
   have hm:=gd.pm.mem_iff.mp (zm2 (show t-(sa+k)<r.toList.length by omega))
   rcases zi0.mp hm with hm|hm
   ·obtain⟨q,h5,h6,h7⟩:=ext_mem (by omega) hm
    exact⟨q,h5,by omega,by rw[this];exact h7⟩
   ·obtain⟨q,h5,h6,h7⟩:=ext_mem (by omega) hm
    exact⟨q,by omega,h6,by rw[this];exact h7⟩
  refine⟨?_,fun t ht=>ko t (by omega),fun p q h3 h4 h5=>?_⟩
  ·rw[Array.perm_iff_toList_perm,wr]
   refine List.Perm.trans ?_ (List.Perm.of_eq sp.symm)
   exact zp8 _ (zk5 _ gd.pm)
  ·by_cases c1:q<sa+k
   ·rw[ko p (by omega),ko q (by omega)]
    exact hA p q h3 h4 (by omega)
   by_cases c2:sb+n2≤p
   ·rw[ko p (by omega),ko q (by omega)]
    exact hB p q (by omega) h4 h5
   by_cases c3:p<sa+k
   ·rw[ko p (by omega)]
    have g1:∀t,sa+k≤t→t<sb+nb→K (arrOf st) p≤K (arrOf st) t:=fun t h6 h7=>by
     by_cases c4:t<sb
     ·exact hA p t h3 (by omega) c4
     ·exact lowA p h3 c3 t (by omega) h7
    by_cases c5:sb+n2≤q
    ·rw[ko q (by omega)]
     exact g1 q (by omega) h5
    ·obtain⟨t,h6,h7,h8⟩:=km q (by omega) (by omega)
     rw[h8]
     exact g1 t h6 (by omega)
   ·by_cases c5:sb+n2≤q
    ·rw[ko q (by omega)]
     obtain⟨t,h6,h7,h8⟩:=km p (by omega) (by omega)
     rw[h8]
     by_cases c4:t<sb
     ·exact highB q c5 h5 t (by omega) c4
     ·exact hB t q (by omega) (by omega) h5
    ·have r1:=ng arr' _ _ _ wr (t:=p-(sa+k)) (by omega)
     have r2:=ng arr' _ _ _ wr (t:=q-(sa+k)) (by omega)
     rw[lP,show sa+k+(p-(sa+k))=p by omega] at r1
     rw[lP,show sa+k+(q-(sa+k))=q by omega] at r2
     rw[r1,r2]
     by_cases c6:p=q
     ·subst c6;exact zo4 _
     ·exact zq4.mp gd.up _ _ _ _ (by omega)
 split
 ·refine zg1 (aj (hk' _) ix iy ux uy px py q1 q2 fun r g gd=>?_)
  obtain⟨arr',e3,g1,g2,g3⟩:=fin (st':=st) r g gd
  refine zg1 (zm6 (zg1 (zs4 (zg2 ?_))))
  have:=h arr' g g1 g2 g3
  subst e3
  have e4:(failedOf st).isNone=true:=by rw[hf];rfl
  rw[←e4] at this
  exact this
 ·refine zg1 (cG (hk' _) ix iy ux uy px py q1 q2 fun r g gd=>?_)
  obtain⟨arr',e3,g1,g2,g3⟩:=fin (st':=st) r g gd
  refine zg1 (zm6 (zg1 (zs4 (zg2 ?_))))
  have:=h arr' g g1 g2 g3
  subst e3
  have e4:(failedOf st).isNone=true:=by rw[hf];rfl
  rw[←e4] at this
  exact this
end
def xy (xs:Array Keyed)(l u:Nat):Prop:=∀i j,l≤i→i≤j→j<u→K xs j≤K xs i
structure zq (lo:Nat)(xs ys:Array Keyed):Prop where
 perm:xs.Perm ys
 low:∀t,t<lo→K xs t=K ys t
theorem zq.refl (lo:Nat)(xs:Array Keyed):zq lo xs xs:=⟨zv9 _,fun _ _=>rfl⟩
theorem zq.trans {lo:Nat}{xs ys zs:Array Keyed}(h:zq lo xs ys)(g:zq lo ys zs):zq lo xs zs:=⟨h.perm.trans g.perm,fun t ht=>(h.low t ht).trans (g.low t ht)⟩
theorem zq.mirror {lo i j:Nat}{xs:Array Keyed}(hi:lo≤i)(hj:j≤xs.size):zq lo (PyProof.Rows.mirror xs i j ((j-i) / 2)) xs:=⟨mirror_perm _ _ _ _,fun t ht=>by rw[K_mirror hj,if_neg (by omega)]⟩
theorem zK {xs ys:Array Keyed}(h:IntKeys ys)(hp:xs.Perm ys):IntKeys xs:=vg h fun p=>(Array.perm_iff_toList_perm.mp hp).mem_iff.mp
theorem yc.more {xs:Array Keyed}{lo n:Nat}(h:yc xs lo (lo+n))(h1:1≤n)(hn:¬K xs (lo+n)<K xs (lo+n-1)):yc xs lo (lo+(n+1)):=fun i j h3 h4 h5=>by
 by_cases c:j<lo+n
 ·exact h i j h3 h4 c
 ·have:j=lo+n:=by omega
  subst this
  by_cases c2:i=lo+n
  ·subst c2;exact zo4 _
  ·exact zl1 (h i (lo+n-1) h3 (by omega) (by omega)) (Int.not_lt.mp hn)
theorem xy.more {xs:Array Keyed}{lo n:Nat}(h:xy xs lo (lo+n))(h1:1≤n)(hn:K xs (lo+n)≤K xs (lo+n-1)):xy xs lo (lo+(n+1)):=fun i j h3 h4 h5=>by
 by_cases c:j<lo+n
 ·exact h i j h3 h4 c
 ·have:j=lo+n:=by omega
  subst this
  by_cases c2:i=lo+n
  ·subst c2;exact zo4 _
  ·exact zl1 hn (h i (lo+n-1) h3 (by omega) (by omega))
theorem xy.flip {xs:Array Keyed}{lo n:Nat}(h:xy xs lo (lo+n))(hn:lo+n≤xs.size):yc (PyProof.Rows.mirror xs lo (lo+n) ((lo+n-lo) / 2)) lo (lo+n):=fun i j h3 h4 h5=>by
 rw[K_mirror hn,K_mirror hn,if_pos (by omega),if_pos (by omega)]
 exact h _ _ (by omega) (by omega) (by omega)
section
variable {prog:Program}{w:World}{A:Around}{E:Value→Shared→Prop}{s:Shared}
theorem ltK {st:SortSt}{i j:Nat}{Q:Option Bool→SortSt→Prop}(hk:kindOf st=oneType')(ik:IntKeys (arrOf st))(hi:i<(arrOf st).size)(hj:j<(arrOf st).size)
  (h:Q (some (decide (K (arrOf st) i<K (arrOf st) j))) st):wpS (model prog w) A E s (ltAt' i j) Q st:=by
 obtain⟨t,e1⟩:=zO ik hi
 obtain⟨u,e2⟩:=zO ik hj
 have f1:(arrOf st)[i]?=some (.int (K (arrOf st) i) t,(arrOf st)[i].2):=by rw[zg6 (arrOf st) i hi,←e1]
 have f2:(arrOf st)[j]?=some (.int (K (arrOf st) j) u,(arrOf st)[j].2):=by rw[zg6 (arrOf st) j hj,←e2]
 exact wpS_ltAt hk f1 f2 h
theorem tq {st:SortSt}{lo a nrem:Nat}{Q:AscSt→SortSt→Prop}{f:Nat→AscSt→StateT SortSt Sem (ForInStep AscSt)}(hf:∀x n,∃g,f x (none,n)=ltAt' (lo+n) (lo+n-1) >>= g∧g (some true)=pure (.done (none,n))∧g (some false)=pure (.yield (none,n+1)))
  (hk:kindOf st=oneType') (ik:IntKeys (arrOf st)) (hn:lo+nrem≤(arrOf st).size) (ha:1≤a) (han:a≤nrem) (hs:yc (arrOf st) lo (lo+a))
  (h:∀n,a≤n→n≤nrem→yc (arrOf st) lo (lo+n)→(n=nrem∨K (arrOf st) (lo+n)<K (arrOf st) (lo+n-1))→Q (none,n) st):wpS (model prog w) A E s (forIn [a:nrem] ((none,a):AscSt) f) Q st:=by
 refine zk8 (I:=fun x c st'=>st'=st∧c=(none,x)∧yc (arrOf st) lo (lo+x)) ?_ ?_ ⟨rfl,rfl,hs⟩
 ·rintro x c st' hax hxn ⟨rfl,rfl,hs'⟩
  obtain⟨g,e,g1,g2⟩:=hf x x
  rw[e]
  refine zg1 (ltK hk ik (by omega) (by omega) ?_)
  by_cases hl:K (arrOf st') (lo+x)<K (arrOf st') (lo+x-1)
  ·rw[zk1 hl,g1]
   exact zg2 (h x hax (by omega) hs' (.inr hl))
  ·rw[zi7 hl,g2]
   exact zg2 ⟨rfl,rfl,hs'.more (by omega) hl⟩
 ·rintro c st' ⟨rfl,rfl,hs'⟩
  rw[show max a nrem=nrem by omega] at hs' ⊢
  exact h nrem han (zg5 _) hs' (.inl rfl)
theorem ou {st:SortSt}{lo nrem:Nat}{Q:Option Nat→SortSt→Prop}(hk:kindOf st=oneType')(ik:IntKeys (arrOf st))(h1:1≤nrem)(hn:lo+nrem≤(arrOf st).size)
  (h:∀m arr,1≤m→m≤nrem→zq lo arr (arrOf st)→yc arr lo (lo+m)→Q (some m) (setArr st arr)):wpS (model prog w) A E s (countRun' lo nrem) Q st:=by
 refine zg1 (tq (fun x n=>⟨_,rfl,rfl,rfl⟩) hk ik hn (zg5 1) h1 (fun i j h3 h4 h5=>by
                                                       have:i=j:=by omega
                                                       subst this;exact zo4 _) fun n hn1 hn2 hsn hor=>?_)
 dsimp only
 by_cases hnn:(n == nrem)=true
 ·rw[if_pos hnn]
  exact zg2 (h n (arrOf st) hn1 hn2 (zq.refl _ _) hsn)
 rw[if_neg hnn]
 have hnn':¬n=nrem:=by simpa using hnn
 have hlt:=hor.resolve_left hnn'
 by_cases hgt:n > 1
 ·rw[if_pos hgt]
  refine zg1 (ltK hk ik (by omega) (by omega) ?_)
  by_cases hrose:K (arrOf st) lo<K (arrOf st) (lo+n-1)
  ·rw[zk1 hrose]
   exact zg2 (h n (arrOf st) hn1 hn2 (zq.refl _ _) hsn)
  ·rw[zi7 hrose]
   dsimp only
   rw[if_neg (by decide)]
   have hall:∀k,lo≤k→k<lo+n→K (arrOf st) k=K (arrOf st) (lo+n-1):=fun k h3 h4=>by
    have a1:=hsn lo k (by omega) h3 h4
    have a2:=hsn k (lo+n-1) h3 (by omega) (by omega)
    omega
   refine zg1 (zq8 ?_)
   have sm1:=zq.mirror (lo:=lo) (i:=lo) (j:=lo+n) (xs:=arrOf st) (zg5 _) (by omega)
   have ke:=zu1 (show lo+n≤(arrOf st).size by omega) hall
   have hd1:xy (mirror (arrOf st) lo (lo+n) ((lo+n-lo) / 2)) lo (lo+(n+1)):=by
    refine xy.more (fun i j h3 h4 h5=>?_) (by omega) ?_
    ·rw[ke,ke,hall i (by omega) (by omega),hall j (by omega) (by omega)];exact zo4 _
    ·rw[ke,ke];exact zq0 hlt
   generalize mirror (arrOf st) lo (lo+n) ((lo+n-lo) / 2)=arr1 at *
   refine zg1 (wpS_lift (zo7 ⟨rfl,?_⟩))
   refine zg1 (zn6 (zk8 (I:=fun x c st'=>∃arr neq,st'=setArr st arr∧c=(none,x,neq)∧zq lo arr (arrOf st)∧xy arr lo (lo+x)∧neq+1≤x∧∀i,lo+x-(neq+1)≤i→i<lo+x→K arr i=K arr (lo+x-1))
    (Q:=fun c st'=>∃arr m neq,st'=setArr st arr∧c=(none,m,neq)∧zq lo arr (arrOf st)∧n+1≤m∧m≤nrem∧xy arr lo (lo+m)∧neq+1≤m∧∀i,lo+m-(neq+1)≤i→i<lo+m→K arr i=K arr (lo+m-1)) ?_ ?_ ⟨arr1,0,rfl,rfl,sm1,hd1,by omega,fun i h3 h4=>by congr 1;omega⟩) ?_)
   ·rintro x c st' hax hxn ⟨arr,neq,rfl,rfl,sm,hd,hq,he⟩
    dsimp only
    have sz:=sm.perm.size_eq
    have ik':=zK ik sm.perm
    refine zg1 (ltK (st:=setArr st arr) hk ik' (show _<arr.size by omega) (show _<arr.size by omega) ?_)
    by_cases hl:K arr (lo+x)<K arr (lo+x-1)
    ·rw[show decide (K (arrOf (setArr st arr)) (lo+x)<K (arrOf (setArr st arr)) (lo+x-1))=true from zk1 hl]
     dsimp only
     rw[if_pos rfl]
     by_cases hz:neq > 0
     ·rw[if_pos hz]
      refine zg1 (zq8 ?_)
      have ke:=zu1 (show lo+x≤arr.size by omega) he
      refine zg2 ⟨_,0,rfl,rfl,(zq.mirror (by omega) (show lo+x≤arr.size by omega)).trans sm,?_,by omega,fun i h3 h4=>by congr 1;omega⟩
      intro i j h3 h4 h5
      show K (mirror arr _ _ _) j≤K (mirror arr _ _ _) i
      rw[ke,ke]
      exact hd.more (by omega) (zq0 hl) i j h3 h4 h5
     ·rw[if_neg hz]
      exact zg2 ⟨_,0,rfl,rfl,sm,hd.more (by omega) (zq0 hl),by omega,fun i h3 h4=>by congr 1;omega⟩
    ·rw[show decide (K (arrOf (setArr st arr)) (lo+x)<K (arrOf (setArr st arr)) (lo+x-1))=false from zi7 hl]
     dsimp only
     rw[if_neg (by decide)]
     refine zg1 (ltK (st:=setArr st arr) hk ik' (show _<arr.size by omega) (show _<arr.size by omega) ?_)
     by_cases hg:K arr (lo+x-1)<K arr (lo+x)
     ·rw[show decide (K (arrOf (setArr st arr)) (lo+x-1)<K (arrOf (setArr st arr)) (lo+x))=true from zk1 hg]
      exact zg2 ⟨arr,x,neq,rfl,rfl,sm,hax,by omega,hd,hq,he⟩
     ·rw[show decide (K (arrOf (setArr st arr)) (lo+x-1)<K (arrOf (setArr st arr)) (lo+x))=false from zi7 hg]
      refine zg2 ⟨arr,neq+1,rfl,rfl,sm,hd.more (by omega) (by omega),by omega,fun i h3 h4=>?_⟩
      rw[show lo+(x+1)-1=lo+x by omega]
      by_cases c:i=lo+x
      ·subst c;rfl
      ·rw[he i (by omega) (by omega)];omega
   ·rintro c st' ⟨arr,neq,rfl,rfl,sm,hd,hq,he⟩
    rw[show max (n+1) nrem=nrem by omega] at hd hq he ⊢
    exact⟨arr,nrem,neq,rfl,rfl,sm,by omega,zg5 _,hd,hq,he⟩
   ·rintro c st' ⟨arr,m,neq,rfl,rfl,sm2,hm1,hm2,hs2,hq,he⟩
    dsimp only
    have sz:=sm2.perm.size_eq
    by_cases hz:neq > 0
    ·rw[if_pos hz]
     refine zg1 (zq8 ?_)
     have ke:=zu1 (show lo+m≤arr.size by omega) he
     have sm3:=(zq.mirror (lo:=lo) (i:=lo+m-(neq+1)) (j:=lo+m) (xs:=arr) (by omega) (by omega)).trans sm2
     have hs3:xy (mirror arr (lo+m-(neq+1)) (lo+m) ((lo+m-(lo+m-(neq+1))) / 2)) lo (lo+m):=fun i j h3 h4 h5=>by
      rw[ke,ke]
      exact hs2 i j h3 h4 h5
     have sz3:=sm3.perm.size_eq
     have e:arrOf (setArr st arr)=arr:=rfl
     rw[e]
     generalize mirror arr (lo+m-(neq+1)) (lo+m) ((lo+m-(lo+m-(neq+1))) / 2)=arr at *
     clear e
     have sm2:=sm3
     have hs2:=hs3
     have sz:=sz3
     refine zg1 (zq8 ?_)
     have sm3:=(zq.mirror (lo:=lo) (i:=lo) (j:=lo+m) (xs:=arr) (zg5 _) (by omega)).trans sm2
     have sz3:=sm3.perm.size_eq
     refine zg1 (tq (st:=setArr st _) (fun x n=>⟨_,rfl,rfl,rfl⟩) hk (zK ik sm3.perm) (zk7 hn (zo5 sz3.symm)) (by omega) hm2 (hs2.flip (by omega)) fun n2 h3 h4 h5 _=>?_)
     exact zg2 (h n2 _ (by omega) h4 sm3 h5)
    ·rw[if_neg hz]
     refine zg1 (zq8 ?_)
     have sm3:=(zq.mirror (lo:=lo) (i:=lo) (j:=lo+m) (xs:=arr) (zg5 _) (by omega)).trans sm2
     have sz3:=sm3.perm.size_eq
     refine zg1 (tq (st:=setArr st _) (fun x n=>⟨_,rfl,rfl,rfl⟩) hk (zK ik sm3.perm) (zk7 hn (zo5 sz3.symm)) (by omega) hm2 (hs2.flip (by omega)) fun n2 h3 h4 h5 _=>?_)
     exact zg2 (h n2 _ (by omega) h4 sm3 h5)
 ·rw[if_neg hgt]
  have e:n=1:=by omega
  have sm1:=zq.refl lo (arrOf st)
  have hd1:xy (arrOf st) lo (lo+(n+1)):=xy.more (fun i j h3 h4 h5=>by
   have:i=j:=by omega
   subst this
   exact zo4 _) (by omega) (zq0 hlt)
  refine zg1 (wpS_lift (zo7 ⟨rfl,?_⟩))
  refine zg1 (zn6 (zk8 (I:=fun x c st'=>∃arr neq,st'=setArr st arr∧c=(none,x,neq)∧zq lo arr (arrOf st)∧xy arr lo (lo+x)∧neq+1≤x∧∀i,lo+x-(neq+1)≤i→i<lo+x→K arr i=K arr (lo+x-1))
   (Q:=fun c st'=>∃arr m neq,st'=setArr st arr∧c=(none,m,neq)∧zq lo arr (arrOf st)∧n+1≤m∧m≤nrem∧xy arr lo (lo+m)∧neq+1≤m∧∀i,lo+m-(neq+1)≤i→i<lo+m→K arr i=K arr (lo+m-1)) ?_ ?_ ⟨(arrOf st),0,rfl,rfl,sm1,hd1,by omega,fun i h3 h4=>by congr 1;omega⟩) ?_)
  ·rintro x c st' hax hxn ⟨arr,neq,rfl,rfl,sm,hd,hq,he⟩
   dsimp only
   have sz:=sm.perm.size_eq
   have ik':=zK ik sm.perm
   refine zg1 (ltK (st:=setArr st arr) hk ik' (show _<arr.size by omega) (show _<arr.size by omega) ?_)
   by_cases hl:K arr (lo+x)<K arr (lo+x-1)
   ·rw[show decide (K (arrOf (setArr st arr)) (lo+x)<K (arrOf (setArr st arr)) (lo+x-1))=true from zk1 hl]
    dsimp only
    rw[if_pos rfl]
    by_cases hz:neq > 0
    ·rw[if_pos hz]
     refine zg1 (zq8 ?_)
     have ke:=zu1 (show lo+x≤arr.size by omega) he
     refine zg2 ⟨_,0,rfl,rfl,(zq.mirror (by omega) (show lo+x≤arr.size by omega)).trans sm,?_,by omega,fun i h3 h4=>by congr 1;omega⟩
     intro i j h3 h4 h5
     show K (mirror arr _ _ _) j≤K (mirror arr _ _ _) i
     rw[ke,ke]
     exact hd.more (by omega) (zq0 hl) i j h3 h4 h5
    ·rw[if_neg hz]
     exact zg2 ⟨_,0,rfl,rfl,sm,hd.more (by omega) (zq0 hl),by omega,fun i h3 h4=>by congr 1;omega⟩
   ·rw[show decide (K (arrOf (setArr st arr)) (lo+x)<K (arrOf (setArr st arr)) (lo+x-1))=false from zi7 hl]
    dsimp only
    rw[if_neg (by decide)]
    refine zg1 (ltK (st:=setArr st arr) hk ik' (show _<arr.size by omega) (show _<arr.size by omega) ?_)
    by_cases hg:K arr (lo+x-1)<K arr (lo+x)
    ·rw[show decide (K (arrOf (setArr st arr)) (lo+x-1)<K (arrOf (setArr st arr)) (lo+x))=true from zk1 hg]
     exact zg2 ⟨arr,x,neq,rfl,rfl,sm,hax,by omega,hd,hq,he⟩
    ·rw[show decide (K (arrOf (setArr st arr)) (lo+x-1)<K (arrOf (setArr st arr)) (lo+x))=false from zi7 hg]
     refine zg2 ⟨arr,neq+1,rfl,rfl,sm,hd.more (by omega) (by omega),by omega,fun i h3 h4=>?_⟩
     rw[show lo+(x+1)-1=lo+x by omega]
     by_cases c:i=lo+x
     ·subst c;rfl
     ·rw[he i (by omega) (by omega)];omega
  ·rintro c st' ⟨arr,neq,rfl,rfl,sm,hd,hq,he⟩
   rw[show max (n+1) nrem=nrem by omega] at hd hq he ⊢
   exact⟨arr,nrem,neq,rfl,rfl,sm,by omega,zg5 _,hd,hq,he⟩
  ·rintro c st' ⟨arr,m,neq,rfl,rfl,sm2,hm1,hm2,hs2,hq,he⟩
   dsimp only
   have sz:=sm2.perm.size_eq
   by_cases hz:neq > 0
   ·rw[if_pos hz]
    refine zg1 (zq8 ?_)
    have ke:=zu1 (show lo+m≤arr.size by omega) he
    have sm3:=(zq.mirror (lo:=lo) (i:=lo+m-(neq+1)) (j:=lo+m) (xs:=arr) (by omega) (by omega)).trans sm2
    have hs3:xy (mirror arr (lo+m-(neq+1)) (lo+m) ((lo+m-(lo+m-(neq+1))) / 2)) lo (lo+m):=fun i j h3 h4 h5=>by
     rw[ke,ke]
     exact hs2 i j h3 h4 h5
    have sz3:=sm3.perm.size_eq
    have e:arrOf (setArr st arr)=arr:=rfl
    rw[e]
    generalize mirror arr (lo+m-(neq+1)) (lo+m) ((lo+m-(lo+m-(neq+1))) / 2)=arr at *
    clear e
    have sm2:=sm3
    have hs2:=hs3
    have sz:=sz3
    refine zg1 (zq8 ?_)
    have sm3:=(zq.mirror (lo:=lo) (i:=lo) (j:=lo+m) (xs:=arr) (zg5 _) (by omega)).trans sm2
    have sz3:=sm3.perm.size_eq
    refine zg1 (tq (st:=setArr st _) (fun x n=>⟨_,rfl,rfl,rfl⟩) hk (zK ik sm3.perm) (zk7 hn (zo5 sz3.symm)) (by omega) hm2 (hs2.flip (by omega)) fun n2 h3 h4 h5 _=>?_)
    exact zg2 (h n2 _ (by omega) h4 sm3 h5)
   ·rw[if_neg hz]
    refine zg1 (zq8 ?_)
    have sm3:=(zq.mirror (lo:=lo) (i:=lo) (j:=lo+m) (xs:=arr) (zg5 _) (by omega)).trans sm2
    have sz3:=sm3.perm.size_eq
    refine zg1 (tq (st:=setArr st _) (fun x n=>⟨_,rfl,rfl,rfl⟩) hk (zK ik sm3.perm) (zk7 hn (zo5 sz3.symm)) (by omega) hm2 (hs2.flip (by omega)) fun n2 h3 h4 h5 _=>?_)
    exact zg2 (h n2 _ (by omega) h4 sm3 h5)
theorem zq.bubble {lo src d:Nat}{xs:Array Keyed}(hs:src<xs.size)(hd:lo+d≤src):zq lo (PyProof.Rows.bubble xs src d) xs:=⟨bubble_perm _ _ _,fun t ht=>by rw[K_bubble hs (by omega),if_neg (by omega),if_neg (by omega)]⟩
theorem sP {st:SortSt}{lo n ok:Nat}{Q:Bool→SortSt→Prop}(hk:kindOf st=oneType')(ik:IntKeys (arrOf st))(hn:lo+n≤(arrOf st).size)(hok:ok≤n)(hs:yc (arrOf st) lo (lo+ok))
  (h:∀arr,zq lo arr (arrOf st)→yc arr lo (lo+n)→Q true (setArr st arr)):wpS (model prog w) A E s (binarySort' lo n ok) Q st:=by
 refine zg1 (zn6 (zk8 (I:=fun k c st'=>c=(none,())∧∃arr,st'=setArr st arr∧zq lo arr (arrOf st)∧yc arr lo (lo+min k n))
  (Q:=fun c st'=>c=(none,())∧∃arr,st'=setArr st arr∧zq lo arr (arrOf st)∧yc arr lo (lo+n)) ?_ ?_ ⟨rfl,arrOf st,rfl,zq.refl _ _,fun i j h3 h4 h5=>?_⟩) ?_)
 ·rintro k c st' hak hkn ⟨rfl,arr,rfl,sm,hs'⟩
  rw[show min k n=k by omega] at hs'
  have sz:=sm.perm.size_eq
  have ik':=zK ik sm.perm
  refine zg1 (zn6 (zk8 (I:=fun x c st''=>st''=setArr st arr∧∃l r,c=(none,l,r)∧l≤r∧r≤k∧r-l≤k-x∧
    (∀i,lo≤i→i<lo+l→K arr i≤K arr (lo+k))∧(∀i,lo+r≤i→i<lo+k→K arr (lo+k)<K arr i))
   (Q:=fun c st''=>st''=setArr st arr∧∃l r,c=(none,l,r)∧l≤k∧
    (∀i,lo≤i→i<lo+l→K arr i≤K arr (lo+k))∧(∀i,lo+l≤i→i<lo+k→K arr (lo+k)<K arr i)) ?_ ?_ ⟨rfl,0,k,rfl,by omega,by omega,by omega,fun i h3 h4=>by omega,fun i h3 h4=>by omega⟩) ?_)
  ·rintro x c st'' _ hxk ⟨rfl,l,r,rfl,hlr,hrk,hm,hlo,hhi⟩
   dsimp only
   by_cases hge:l≥r
   ·rw[if_pos hge]
    have:l=r:=by omega
    subst this
    exact zg2 ⟨rfl,l,l,rfl,hrk,hlo,hhi⟩
   ·rw[if_neg hge]
    refine zg1 (ltK (st:=setArr st arr) hk ik' (show _<arr.size by omega) (show _<arr.size by omega) ?_)
    by_cases hl:K arr (lo+k)<K arr (lo+(l+r) / 2)
    ·rw[show decide (K (arrOf (setArr st arr)) (lo+k)<K (arrOf (setArr st arr)) (lo+(l+r) / 2))=true from zk1 hl]
     exact zg2 ⟨rfl,l,(l+r) / 2,rfl,by omega,by omega,by omega,hlo,fun i h1 h2=>Int.lt_of_lt_of_le hl (hs' _ _ (by omega) h1 h2)⟩
    ·rw[show decide (K (arrOf (setArr st arr)) (lo+k)<K (arrOf (setArr st arr)) (lo+(l+r) / 2))=false from zi7 hl]
     exact zg2 ⟨rfl,(l+r) / 2+1,r,rfl,by omega,by omega,by omega,fun i h1 h2=>zl1 (hs' i (lo+(l+r) / 2) h1 (by omega) (by omega)) (Int.not_lt.mp hl),hhi⟩
  ·rintro c st'' ⟨rfl,l,r,rfl,hlr,hrk,hm,hlo,hhi⟩
   have:l=r:=by omega
   subst this
   exact⟨rfl,l,l,rfl,hrk,hlo,hhi⟩
  ·rintro c st'' ⟨rfl,l,r,rfl,hlk,hlo,hhi⟩
   dsimp only
   have hks:lo+k<arr.size:=by omega
   refine zg1 (zm6 (zg2 ⟨rfl,bubble arr (lo+k) (lo+k-(lo+l)),rfl,(zq.bubble hks (by omega)).trans sm,fun i j h3 h4 h5=>?_⟩))
   rw[show min (k+1) n=k+1 by omega] at h5
   rw[K_bubble hks (by omega),K_bubble hks (by omega),show lo+k-(lo+k-(lo+l))=lo+l by omega]
   repeat' split
   all_goals first
    |(exfalso;omega)
    |exact zo4 _
    |exact hlo _ (by omega) (by omega)
    |exact zq0 (hhi _ (by omega) (by omega))
    |exact hs' _ _ (by omega) (by omega) (by omega)
 ·rintro c st' ⟨hc,arr,rfl,sm,hs'⟩
  rw[show min (max (max ok 1) n) n=n by omega] at hs'
  exact⟨hc,arr,rfl,sm,hs'⟩
 ·by_cases h1:ok=0
  ·have:i=j:=by omega
   subst this;exact zo4 _
  ·exact hs i j h3 h4 (by omega)
 ·rintro c st' ⟨rfl,arr,rfl,sm,hs'⟩
  exact zg2 (h arr sm hs')
end
abbrev rS :=Nat×Nat×Nat
def Runs (xs:Array Keyed):List rS→Nat→Nat→Prop
 |[],l,u=>l=u
 |r::L,l,u=>r.1=l∧0<r.2.1∧yc xs l (l+r.2.1)∧Runs xs L (l+r.2.1) u
theorem Runs.le {xs:Array Keyed}:∀{L:List rS} {l u:Nat},Runs xs L l u→l+L.length≤u
 |[],l,u,h=>zo5 h
 |r::L,l,u,⟨_,h0,_,h⟩=>by
  have:=Runs.le h
  simp;omega
theorem wF {xs:Array Keyed}:∀{L R:List rS} {l u:Nat},Runs xs (L++R) l u↔∃m,Runs xs L l m∧Runs xs R m u
 |[],R,l,u=>⟨fun h=>⟨l,rfl,h⟩,fun⟨m,h1,h2⟩=>by cases h1;exact h2⟩
 |r::L,R,l,u=>⟨fun⟨a,b,c,h⟩=>by
   obtain⟨m,h1,h2⟩:=wF.mp h
   exact⟨m,⟨a,b,c,h1⟩,h2⟩,fun⟨m,⟨a,b,c,h1⟩,h2⟩=>⟨a,b,c,wF.mpr ⟨m,h1,h2⟩⟩⟩
theorem Runs.congr {xs ys:Array Keyed}:∀{L:List rS} {l u:Nat},Runs xs L l u→(∀t,l≤t→t<u→K ys t=K xs t)→Runs ys L l u
 |[],l,u,h,_=>h
 |r::L,l,u,⟨a,b,c,h⟩,e=>by
  have:=Runs.le h
  refine⟨a,b,fun i j h3 h4 h5=>?_,Runs.congr h fun t h3 h4=>e t (by omega) h4⟩
  rw[e i h3 (by omega),e j (by omega) (by omega)]
  exact c i j h3 h4 h5
theorem Runs.pow {xs:Array Keyed}{pw:Nat}:∀{L:List rS} {l u:Nat} (k:Nat),Runs xs L l u→Runs xs (L.modify k fun r=>(r.1,r.2.1,pw)) l u
 |[],l,u,k,h=>by simpa using h
 |r::L,l,u,0,⟨a,b,c,h⟩=>by simp;exact⟨a,b,c,h⟩
 |r::L,l,u,k+1,⟨a,b,c,h⟩=>by simp;exact⟨a,b,c,Runs.pow k h⟩
theorem Runs.all {xs:Array Keyed}:∀{L:List rS} {u:Nat},Runs xs L 0 u→L.length≤1→yc xs 0 u
 |[],u,h,_=>fun i j _ _ h5=>by cases h;omega
 |[r],u,⟨_,_,c,h⟩,_=>by cases h;simpa using c
 |_::_::_,_,_,h=>by simp at h
theorem hV (c:Prop)[Decidable c](a:Nat):(if c then a-1 else a)≤a:=by split<;>omega
theorem merged (P R:List rS)(x y z:rS)(p:Array rS)(h:p.toList=P++x::y::R):((p.setIfInBounds P.length z).eraseIdxIfInBounds (P.length+1)).toList=P++z::R:=by
 have e1:(p.setIfInBounds P.length z).toList=P++z::y::R:=by rw[Array.toList_setIfInBounds,h];simp
 have hl:P.length+1<(p.setIfInBounds P.length z).size:=by
  have:=congrArg List.length e1
  simp at this ⊢;omega
 rw[Array.eraseIdxIfInBounds,dif_pos hl,Array.toList_eraseIdx,e1]
 rw[List.eraseIdx_append_of_length_le (by omega)]
 simp
section
variable {prog:Program}{w:World}{A:Around}{E:Value→Shared→Prop}{s:Shared}{a₀:Array Keyed}
theorem vi {st:SortSt}{i u:Nat}{Q:Bool→SortSt→Prop}(ik:IntKeys a₀)(gb:GB a₀ st)(hr:Runs (arrOf st) (pendingOf st).toList 0 u)(hu:u≤a₀.size)(hi:i+1<(pendingOf st).size)
  (h:∀st',GB a₀ st'→Runs (arrOf st') (pendingOf st').toList 0 u→(pendingOf st').size+1=(pendingOf st).size→(∀t,u≤t→K (arrOf st') t=K (arrOf st) t)→Q true st'):wpS (model prog w) A E s (mergeAt' i) Q st:=by
 have hl:i+1<(pendingOf st).toList.length:=by simpa using hi
 have sp:(pendingOf st).toList=(pendingOf st).toList.take i++(pendingOf st).toList[i]::(pendingOf st).toList[i+1]::(pendingOf st).toList.drop (i+2):=by
  rw[←zj9 hl,←zj9 (by omega),zi4]
 rcases hx:(pendingOf st).toList[i] with ⟨sa,na,pw⟩
 rcases hy:(pendingOf st).toList[i+1] with ⟨sb,nb,pw2⟩
 rw[hx,hy] at sp
 have e1:(pendingOf st)[i]?=some (sa,na,pw):=by rw[←zo3,zh0 (by omega),hx]
 have e2:(pendingOf st)[i+1]?=some (sb,nb,pw2):=by rw[←zo3,zh0 hl,hy]
 have lP:((pendingOf st).toList.take i).length=i:=by rw[zm8];omega
 generalize (pendingOf st).toList.take i=P at sp lP
 generalize (pendingOf st).toList.drop (i+2)=R at sp
 rw[sp] at hr
 obtain⟨m,hp,⟨f1,na0,hA,f2,nb0,hB,hR⟩⟩:=wF.mp hr
 dsimp only at f1 f2 na0 nb0 hA hB hR
 subst f1
 have:=Runs.le hR
 have:=Runs.le hp
 have sz:=gb.perm.size_eq
 refine oF gb.kind gb.failed (zK ik gb.perm) e1 e2 f2.symm na0 nb0 (by omega) (by rw[f2];exact hA) (by rw[f2];exact hB) fun arr' g g1 g2 g3=>?_
 have mm:=merged P R _ _ (sa,na+nb,pw) (pendingOf st) sp
 rw[lP] at mm
 refine h _ ⟨g1.trans gb.perm,gb.kind,gb.failed⟩ ?_ ?_ fun t ht=>g2 t (by omega)
 ·show Runs arr' (((pendingOf st).setIfInBounds i (sa,na+nb,pw)).eraseIdxIfInBounds (i+1)).toList 0 u
  rw[mm]
  refine wF.mpr ⟨sa,hp.congr fun t h3 h4=>g2 t (by omega),rfl,by show 0<na+nb;omega,?_,?_⟩
  ·show yc arr' sa (sa+(na+nb))
   rw[←Nat.add_assoc,←f2]
   exact g3
  ·show Runs arr' R (sa+(na+nb)) u
   rw[←Nat.add_assoc]
   exact hR.congr fun t h3 h4=>g2 t (by omega)
 ·show (((pendingOf st).setIfInBounds i (sa,na+nb,pw)).eraseIdxIfInBounds (i+1)).size+1=_
  have q1:=congrArg List.length mm
  have q2:=congrArg List.length sp
  simp only[zl5,zj2,zj5] at q1 q2
  omega
structure Mid (a₀:Array Keyed)(lo n:Nat)(st:SortSt):Prop where
 gb:GB a₀ st
 rn:Runs (arrOf st) (pendingOf st).toList 0 lo
 so:yc (arrOf st) lo (lo+n)
theorem Mid.put {lo n:Nat}{st:SortSt}(h:Mid a₀ lo n st)(n0:0<n):GB a₀ (setPending st ((pendingOf st).push (lo,n,0)))∧Runs (arrOf st) ((pendingOf st).push (lo,n,0)).toList 0 (lo+n):=by
 refine⟨⟨h.gb.perm,h.gb.kind,h.gb.failed⟩,?_⟩
 rw[zp1]
 exact wF.mpr ⟨lo,h.rn,rfl,n0,h.so,rfl⟩
theorem Mid.pow {lo n k pw:Nat}{st:SortSt}(h:Mid a₀ lo n st):Mid a₀ lo n (setPending st ((pendingOf st).modify k fun x=>(x.fst,x.2.fst,pw))):=by
 refine⟨⟨h.gb.perm,h.gb.kind,h.gb.failed⟩,?_,h.so⟩
 show Runs (arrOf st) ((pendingOf st).modify k _).toList 0 lo
 rw[Array.toList_modify]
 exact h.rn.pow k
theorem pI {st:SortSt}{Q:Unit→SortSt→Prop}(ik:IntKeys a₀)(hB:SBase a₀ st)
  (h:∀st',(arrOf st').Perm a₀→failedOf st'=none→SortedTo (arrOf st') a₀.size→Q () st'):wpS (model prog w) A E s sortRuns' Q st:=by
 rw[sortRuns'_eq]
 refine zg1 (zs4 ?_)
 dsimp only
 rw[hB.size]
 generalize hmr:minRun' a₀.size a₀.size 0=mr
 refine zg1 (zn6 (zk8 (I:=fun x c st'=>∃lo,c=(none,lo)∧GB a₀ st'∧Runs (arrOf st') (pendingOf st').toList 0 lo∧lo≤a₀.size∧x≤lo)
  (Q:=fun c st'=>c=(none,a₀.size)∧GB a₀ st'∧Runs (arrOf st') (pendingOf st').toList 0 a₀.size) ?_ ?_ ⟨0,rfl,⟨hB.perm,hB.kind,hB.failed⟩,by rw[hB.pend];rfl,by omega,by omega⟩) ?_)
 ·rintro x c st' _ hx ⟨lo,rfl,gb,hr,hl,hxl⟩
  dsimp only
  by_cases hge:lo≥a₀.size
  ·rw[if_pos hge]
   have:lo=a₀.size:=by omega
   subst this
   exact zg2 ⟨rfl,gb,hr⟩
  rw[if_neg hge]
  have sz:=gb.perm.size_eq
  refine zg1 (ou gb.kind (zK ik gb.perm) (by omega) (show lo+(a₀.size-lo)≤(arrOf st').size by omega) fun m arr m1 m2 sm so=>?_)
  dsimp only
  have sz1:=sm.perm.size_eq
  have gb1:GB a₀ (setArr st' arr):=⟨sm.perm.trans gb.perm,gb.kind,gb.failed⟩
  have rn1:Runs arr (pendingOf st').toList 0 lo:=hr.congr fun t _ h4=>sm.low t h4
  split
  ·refine zg1 (wpS_lift (zo7 ⟨rfl,?_⟩))
   rename_i hmm
   refine zg1 (sP (st:=setArr st' arr) gb1.kind (zK ik gb1.perm) (show lo+min (a₀.size-lo) mr≤arr.size by omega) (by omega) so fun arr2 sm2 so2=>?_)
   have md:Mid a₀ lo (min (a₀.size-lo) mr) (setArr st' arr2):=⟨⟨sm2.perm.trans gb1.perm,gb.kind,gb.failed⟩,rn1.congr fun t _ h4=>sm2.low t h4,so2⟩
   have n0:0<min (a₀.size-lo) mr:=by omega
   have nl:min (a₀.size-lo) mr≤a₀.size-lo:=by omega
   rw[if_neg (by decide)]
   generalize min (a₀.size-lo) mr=n at *
   refine zg1 (zs4 ?_)
   split
   ·refine zg1 (zn6 (zk8 (I:=fun _ c st''=>c=(none,())∧Mid a₀ lo n st'') (Q:=fun c st''=>c=(none,())∧Mid a₀ lo n st'') ?_ ?_ ⟨rfl,md⟩) ?_)
    ·rintro y c st'' _ _ ⟨rfl,md⟩
     refine zg1 (zs4 ?_)
     split
     ·rename_i heq
      have hp1:(pendingOf st'').size > 1:=by
       by_cases c:(pendingOf st'').size > 1
       ·exact c
       ·have e:(if (pendingOf st'').size > 1 then (pendingOf st'')[(pendingOf st'').size-2]? else none)=none:=if_neg c
        exact absurd (e.symm.trans heq) (by simp)
      split
      ·exact zg2 ⟨rfl,md⟩
      ·refine zg1 (vi ik md.gb md.rn (by omega) (show (pendingOf st'').size-2+1<(pendingOf st'').size by omega) fun st3 gb3 hr3 _ hk3=>?_)
       refine zg2 ⟨rfl,gb3,hr3,fun i j h3 h4 h5=>?_⟩
       rw[hk3 i h3,hk3 j (by omega)]
       exact md.so i j h3 h4 h5
     ·exact zg2 ⟨rfl,md⟩
    ·rintro c st'' q
     exact q
    ·rintro c st'' ⟨rfl,md⟩
     dsimp only
     refine zg1 (zm6 (zg1 (zm6 (zg2 ?_))))
     have:=fun pw=>(md.pow (k:=(pendingOf st'').size-1) (pw:=pw)).put n0
     exact⟨_,rfl,(this _).1,(this _).2,by omega,by omega⟩
   ·refine zg1 (zm6 (zg2 ?_))
    have:=md.put n0
    exact⟨_,rfl,this.1,this.2,by omega,by omega⟩
  ·have md:Mid a₀ lo m (setArr st' arr):=⟨gb1,rn1,so⟩
   have n0:0<m:=by omega
   generalize m=n at *
   refine zg1 (zs4 ?_)
   split
   ·refine zg1 (zn6 (zk8 (I:=fun _ c st''=>c=(none,())∧Mid a₀ lo n st'') (Q:=fun c st''=>c=(none,())∧Mid a₀ lo n st'') ?_ ?_ ⟨rfl,md⟩) ?_)
    ·rintro y c st'' _ _ ⟨rfl,md⟩
     refine zg1 (zs4 ?_)
     split
     ·rename_i heq
      have hp1:(pendingOf st'').size > 1:=by
       by_cases c:(pendingOf st'').size > 1
       ·exact c
       ·have e:(if (pendingOf st'').size > 1 then (pendingOf st'')[(pendingOf st'').size-2]? else none)=none:=if_neg c
        exact absurd (e.symm.trans heq) (by simp)
      split
      ·exact zg2 ⟨rfl,md⟩
      ·refine zg1 (vi ik md.gb md.rn (by omega) (show (pendingOf st'').size-2+1<(pendingOf st'').size by omega) fun st3 gb3 hr3 _ hk3=>?_)
       refine zg2 ⟨rfl,gb3,hr3,fun i j h3 h4 h5=>?_⟩
       rw[hk3 i h3,hk3 j (by omega)]
       exact md.so i j h3 h4 h5
     ·exact zg2 ⟨rfl,md⟩
    ·rintro c st'' q
     exact q
    ·rintro c st'' ⟨rfl,md⟩
     dsimp only
     refine zg1 (zm6 (zg1 (zm6 (zg2 ?_))))
     have:=fun pw=>(md.pow (k:=(pendingOf st'').size-1) (pw:=pw)).put n0
     exact⟨_,rfl,(this _).1,(this _).2,by omega,by omega⟩
   ·refine zg1 (zm6 (zg2 ?_))
    have:=md.put n0
    exact⟨_,rfl,this.1,this.2,by omega,by omega⟩
 ·rintro c st' ⟨lo,rfl,gb,hr,hl,hxl⟩
  have:lo=a₀.size:=by omega
  subst this
  exact⟨rfl,gb,hr⟩
 ·rintro c st' ⟨rfl,gb,hr⟩
  dsimp only
  refine zg1 (zn6 (zk8 (I:=fun x c st'=>c=(none,())∧GB a₀ st'∧Runs (arrOf st') (pendingOf st').toList 0 a₀.size∧(pendingOf st').size≤a₀.size-x)
   (Q:=fun c st'=>c=(none,())∧GB a₀ st'∧Runs (arrOf st') (pendingOf st').toList 0 a₀.size∧(pendingOf st').size≤1) ?_ ?_ ⟨rfl,gb,hr,by have:=hr.le;simpa using this⟩) ?_)
  ·rintro x c st' _ hx ⟨rfl,gb,hr,hsz⟩
   refine zg1 (zs4 ?_)
   by_cases hp:(pendingOf st').size≤1
   ·rw[if_pos hp]
    exact zg2 ⟨rfl,gb,hr,hp⟩
   ·rw[if_neg hp]
    refine zg1 (vi ik gb hr (zg5 _) ?_ fun st3 gb3 hr3 hs3 _=>?_)
    ·exact Nat.lt_of_le_of_lt (Nat.succ_le_succ (hV _ _)) (show (pendingOf st').size-2+1<(pendingOf st').size by omega)
    ·exact zg2 ⟨rfl,gb3,hr3,by omega⟩
  ·rintro c st' ⟨rfl,gb,hr,hsz⟩
   exact⟨rfl,gb,hr,by omega⟩
  ·rintro c st' ⟨rfl,gb,hr,hsz⟩
   dsimp only
   exact zg2 (h st' gb.perm gb.failed fun i j h3 h4=>hr.all (by simpa using hsz) i j (zi5 _) h3 h4)
end
open PyProof
section
variable {prog:Program}{w:World}{A:Around}{E:Value→Shared→Prop}{s:Shared}
theorem tree_ok {a:Addr}{vs:List Value}{ns:List Int}{n:Nat}{P:Fin→Shared→Prop}(ho:s.heap.get? a=some (seqObj "list" vs.toArray n))(hI:IntsAre vs ns)(hl:vs.length≤1000)
  (h:∀(out:Array Value) (ns':List Int),IntsAre out.toList ns'→ns'.Perm ns→ns'.Pairwise (·≤·)→P (.done (.ret .none)) {s with heap:=sortedHeap s.heap a vs out}):wpAny (model prog w) A (Builtin.«list.sort» ⟨[.ref a],[]⟩) P E s:=by
 by_cases h64:vs.length<64
 ·exact list_sort_tree ho hI h64 h
 have ha:a<s.heap.objs.size:=zh7 ho
 obtain⟨e1,ho1⟩:∃e1,(s.heap.update a (Obj.mapSeq fun _=>#[])).get? a=some (seqObj "list" #[] e1):=⟨_,get?_update_seq ho (fun _=>#[])⟩
 have ho6:(((s.heap.update a (Obj.mapSeq fun _=>#[])).push (seqObj "tuple" vs.toArray 0)).push (seqObj "list" #[] 0)).get? a=some (seqObj "list" #[] e1):=by
  have n1:a≠(s.heap.update a (Obj.mapSeq fun _=>#[])).objs.size:=by rw[Heap.size_update];exact zi3 ha
  have n2:a≠((s.heap.update a (Obj.mapSeq fun _=>#[])).push (seqObj "tuple" vs.toArray 0)).objs.size:=by rw[size_push',Heap.size_update];exact zi3 (zn4 ha)
  rw[Heap.get?_push_ne _ _ _ n2,Heap.get?_push_ne _ _ _ n1,ho1]
 have hsz:¬vs.toArray.size<2:=by simp;omega
 obtain⟨v₁,v₂,rest,rfl⟩:∃v₁ v₂ rest,vs=v₁::v₂::rest:=by
  match vs,h64 with
  |v₁::v₂::rest,_=>exact⟨v₁,v₂,rest,rfl⟩
  |[],h=>simp at h
  |[_],h=>simp at h
 rw[list_sort_plain]
 have hv:(v₁::v₂::rest).toArray.size≤sizeLine:=by rw[zr8,zh6];omega
 refine zg0 (listItems_at ho rfl ?_)
 refine zg0 (listUpdate_at ho rfl ?_)
 refine zg0 (seqEpoch_at ho1 rfl ?_)
 refine zg0 (wpAny_newTuple ?_)
 refine zg0 (wpAny_newList ?_)
 refine zo0 ?_
 dsimp only
 rw[if_neg hsz,if_neg hsz,keyKind_ints hI]
 refine zg0 (zg4 (zg0 (zl6 (pI (a₀:=pairsOf (v₁::v₂::rest)) (Q:=fun _ st'=>(arrOf st').Perm (pairsOf (v₁::v₂::rest))∧failedOf st'=none∧SortedTo (arrOf st') (pairsOf (v₁::v₂::rest)).size)
  hI.intKeys ⟨zv9 _,rfl,rfl,rfl⟩ fun st' a1 a2 a3=>⟨a1,a2,a3⟩) ?_ fun _ _ e=>e)))
 rintro⟨⟨⟩,st'⟩ s' ⟨rfl,hp,hf,hs⟩
 obtain⟨ns',h1,h2,h3⟩:=sorted_out hI hp hs
 refine zg0 (seqEpoch_at ho6 rfl (zg0 (listUpdate_at ho6 rfl ?_ (hsz2:=by refine zk7 (zo5 ((Array.size_map ..).trans (hp.size_eq.trans (pairsOf_size _)))) ?_;rw[zr8];omega))))
 rw[hf]
 simp only[bne_self_eq_false,zw5,if_false]
 exact zg4 (h _ ns' h1 h2 h3)
theorem sorted_ok {l:Addr}{vs:List Value}{ns:List Int}{Q:Value→Shared→Prop}(hl:s.heap.IsList l vs.toArray)(hI:IntsAre vs ns)(hs:vs.length≤1000)
  (h:∀(out:Array Value) (ns':List Int),IntsAre out.toList ns'→ns'.Perm ns→ns'.Pairwise (·≤·)→Q (.ref (s.heap.objs.size+1)) {s with heap:=sortedAll s.heap vs out}):wpAny (model prog w) A (call (.builtin "sorted") [.ref l]) Q E s:=by
 refine Calls.call_function_entry kind_sorted plain_sorted entry_sorted (args_sorted1 _) ?_
 unfold Builtin.«sorted»
 refine zg0 (m:=checkCount "sorted" 1 1 _) (zg4 (zg0 (collect_list hl ?_ (by rw[zr8];omega))))
 have e:((s.heap.push (seqObj "list" #[] 0)).update s.heap.objs.size (Obj.mapSeq (·++vs.toArray))).objs.size=s.heap.objs.size+1:=by rw[Heap.size_update,size_push']
 have hoL:(((s.heap.push (seqObj "list" #[] 0)).update s.heap.objs.size (Obj.mapSeq (·++vs.toArray))).push (seqObj "list" vs.toArray 0)).get? (s.heap.objs.size+1)=some (seqObj "list" vs.toArray 0):=by
  rw[←e];exact zh9 _ rfl
 refine zg0 (wpAny_newList ?_)
 show wpAny _ _ _ _ _ {s with heap:=((s.heap.push (seqObj "list" #[] 0)).update s.heap.objs.size (Obj.mapSeq (·++vs.toArray))).push (seqObj "list" vs.toArray 0)}
 rw[e]
 refine zg0 (zo0 (zo2 slot_list_sort ⟨_,hoL,rfl⟩ entry_list_sort (tree_ok hoL hI hs fun out ns' a1 a2 a3=>⟨_,rfl,?_⟩) (args_list_sort _)))
 exact zg4 ⟨_,rfl,h out ns' a1 a2 a3⟩
end
end Tim
namespace SetW
open PySem PyProof.Rows
section
variable {prog:Program}{w:World}{A:Around}{E:Value→Shared→Prop}{s:Shared}{a:Addr}{ep:Nat}{o:Obj}{es:Array (Int×Value)}{S:Int→Bool}{m:Nat}{t:SetTable}
theorem oB {F:List Int}{Q:Value→Shared→Prop}(hh:A.handled=none)(hoa:s.heap.get? a=some o)(x:WkO prog w o S m (xi w) es ep t)(hF:F.Nodup)(hS:∀k,S k=F.any (· == k))(hm:m=F.length)(h64:F.length≤1000)
  (h:∀(h':Heap) d (tk:Nat) (L:Addr) (out:Array Value) (c:Nat) (ns:List Int),s.heap.objs.size≤L→(∀c u,s.heap.get? c=some u→h'.get? c=some u)→h'.get? L=some (seqObj "list" out c)→IntsAre out.toList ns→ns.Perm F→ns.Pairwise (·≤·)→Q (.ref L) {s with heap:=h',drawn:=d,toks:=tk}):
  wpAny (model prog w) A (call (.builtin "sorted") [.ref a]) Q E s:=by
 obtain⟨ms,im,mm⟩:=mj (prog:=prog) (w:=w) es.toList x.el.keys
 have lm:ms.length=es.size:=by have:=IntsAre.length im;simp at this;omega
 have pF:ms.Perm F:=pz hF (fun k hk=>(mm k).mpr ((x.mem k).mp (by rw[hS];exact List.any_eq_true.mpr ⟨k,hk,by simp⟩))) (by rw[lm,x.sz,hm])
 refine Calls.call_function_entry kind_sorted plain_sorted entry_sorted (args_sorted1 _) ?_
 unfold Builtin.«sorted»
 refine zg0 (m:=checkCount "sorted" 1 1 _) (zg4 ?_)
 refine zg0 (pP (by simp[hh]) hoa x fun h1 d tk ord sz k1 po=>?_)
 obtain⟨ns0,i0,p0⟩:=lS po im
 have l0:ord.length≤1000:=by
  have:=po.length_eq
  have:=pF.length_eq
  simp at *
  omega
 refine zg0 (wpAny_newList ?_)
 have hoL:(h1.push (seqObj "list" ord.toArray 0)).get? h1.objs.size=some (seqObj "list" ord.toArray 0):=zh9 _ rfl
 refine zg0 (zo0 (zo2 slot_list_sort ⟨_,hoL,rfl⟩ entry_list_sort (Tim.tree_ok hoL i0 l0 fun out ns' a1 a2 a3=>⟨_,rfl,?_⟩) (args_list_sort _)))
 obtain⟨e,he⟩:=sortedHeap_at (out:=out) hoL
 refine zg4 ⟨_,rfl,h _ d tk h1.objs.size out e ns' (zm3 sz) (fun c u hc=>?_) he a1 (a2.trans (p0.trans pF)) a3⟩
 have h2:=k1 c u hc
 have hlt:=zh7 h2
 rw[sortedHeap_old (zi3 hlt) (by rw[size_push'];exact zn4 hlt)]
 exact zg8 _ h2
end
end SetW
namespace L2
open PySem PySem.Spec PyProof.Rows SetW
section
variable {X:Cx}{α:Ev}{e:Expr}{pos p p2 pos2:Pos}
theorem sL (hc:X.calm=true):wt X (.builtin "sorted") (fun xs H Q=>∃(l:Addr) (o:Obj) (u:HO) (zs:List Int),xs=[.ref l]∧H l=some (.frz o u)∧SW X.prog X.w o zs∧zs.length≤1000∧∀(l':Addr) (ys:List Int),H l'=none→ys.Perm (vd zs)→ys.Pairwise (·≤·)→Q (.ref l') (upd H l' (.lst (ys.map V.int)))):=by
 intro pins s σ H xs us Q I r h
 obtain⟨l,o,u,zs,rfl,hl,⟨es,ep,t,x⟩,h64,q⟩:=h
 obtain⟨v,rfl,rx⟩:=vals1 r
 cases rx
 have ho:s.heap.get? l=some o:=(show s.heap.get? l=some o∧_ from I.hok l _ hl).1
 have lm:(vd zs).length≤zs.length:=firstMet_length_le _ _
 refine oB (F:=vd zs) (I.ok.hd hc) ho x (wR _ _) (fun _=>rfl) rfl (by omega) fun h' d tk L out c ns sz kp hL a1 a2 a3=>?_
 have I':=I.laid (a:=L) (o:=.lst (ns.map V.int)) (t':=tk) kp sz ⟨by rw[zh4,a2.length_eq,zr8];omega,out.toList,c,vD a1,by simpa using hL⟩
 exact⟨.ref L,_,I'.drw d,rfl,q _ ns (I.hok.fresh sz) a2 a3⟩
theorem pT {Q:List PyData→Prop}(hc:X.calm=true)(hgs:Gl X "sorted")(hms:X.mg "sorted"=none)(hg:Gl X "set")(hm:X.mg "set"=none)(h:EvD X α e fun x=>∃zs:List Int,x=.list (zs.map .int)∧zs.length<1000∧∀ys:List Int,(∀k,k∈ys↔k∈zs)→ys.Pairwise (·<·)→ys.length≤zs.length→Q (ys.map .int))
  (he:starEach [e] X.env=(false,eval e X.env)::starEach [] X.env:=by rfl) (he2:starEach [.Call (.Name "set" p) [e] [] pos] X.env=(false,eval (.Call (.Name "set" p) [e] [] pos) X.env)::starEach [] X.env:=by rfl):
  EvL X α (.Call (.Name "sorted" p2) [.Call (.Name "set" p) [e] [] pos] [] pos2) Q:=fun F σ H R m k=>by
 refine⟨_,yw (sL hc) hgs hms boot_sorted (ze (rp (lE hc) hg hm PyProof.Rows.boot_set (ze zi zv he) (he:=he)) zv he2) (he:=he2),?_⟩
 refine h F σ H _ m fun x vx H1 q1 t1 k1 r1=>?_
 obtain⟨zs,rfl,h64,q⟩:=q1
 have m1:=m.kz k1 t1
 obtain⟨l,xs,rfl,h1,h2⟩:=r1.lst_inv
 have h3:=(zg h1).2
 rw[h2.intsV] at h3
 refine⟨l,zs,rfl,h3,by omega,fun l' o hl' sw=>?_⟩
 have t2:=t1.same (zP (o:=.frz o (.set (fun k=>(vd zs).any (· == k)) (vd zs).length)) hl')
 have k2:=k1.trans (Kz.of_same (F:=F) (zP (o:=.frz o (.set (fun k=>(vd zs).any (· == k)) (vd zs).length)) hl'))
 have m2:=m.kz k2 t2
 refine⟨l',o,_,zs,rfl,zj,sw,by omega,fun l2 ys hl2 pm pw=>?_⟩
 have ly:ys.length≤zs.length:=by rw[pm.length_eq];exact firstMet_length_le _ _
 have nd:ys.Nodup:=pm.nodup_iff.mpr (wR _ _)
 have pl:ys.Pairwise (·<·):=by
  have:=pw.and nd
  exact this.imp fun {a b} z=>by omega
 have av:AVs (Gz F α σ (upd H1 l' (.frz o (.set (fun k=>(vd zs).any (· == k)) (vd zs).length)))) (ys.map V.int) (ys.map .int):=by
  clear pm pw nd pl ly
  induction ys with
  |nil=>exact .nil
  |cons y ys ih=>exact .cons (.int y) ih
 obtain⟨g1,g2,g3⟩:=m2.lay hl2 av
 exact k _ _ _ (q ys (fun j=>pm.mem_iff.trans dg) pl ly) g1 (k2.trans g2) (g3.back m k2 t2)
theorem sQ :wt X (.builtin "sorted") (fun xs H Q=>∃(l:Addr) (zs:List Int),xs=[.ref l]∧H l=some (.lst (zs.map V.int))∧zs.length≤1000∧∀(l':Addr) (ys:List Int),H l'=none→ys.Perm zs→ys.Pairwise (·≤·)→Q (.ref l') (upd H l' (.lst (ys.map V.int)))):=by
 intro pins s σ H xs us Q I r h
 obtain⟨l,zs,rfl,hl,h64,q⟩:=h
 obtain⟨u,rfl,rx⟩:=vals1 r
 cases rx
 obtain⟨its,rv,pl,hz⟩:=I.list (SqL.of hl)
 have l1:=rv.length
 rw[zh4] at l1
 refine Tim.sorted_ok (vs:=its) pl.isList (intsAre_of rv) (by omega) fun out ns' a1 a2 a3=>?_
 obtain⟨c,hc⟩:=sortedAll_at s.heap its out
 have hD:s.heap.objs.size≤s.heap.objs.size+1:=zp7 _
 refine⟨.ref (s.heap.objs.size+1),_,I.laid (o:=.lst (ns'.map V.int)) (t':=s.toks) (fun b o e=>sortedAll_old e) hD ⟨?_,out.toList,c,vD a1,by simpa using hc⟩,rfl,q _ ns' (I.hok.fresh hD) a2 a3⟩
 rw[zh4,a2.length_eq,zr8]
 omega
theorem pG {Q:List PyData→Prop}(hg:Gl X "sorted")(hm:X.mg "sorted"=none)(h:EvD X α e fun x=>∃zs:List Int,x=.list (zs.map .int)∧zs.length≤1000∧∀ys:List Int,ys.Perm zs→ys.Pairwise (·≤·)→Q (ys.map .int))(he:starEach [e] X.env=(false,eval e X.env)::starEach [] X.env:=by rfl):
  EvL X α (.Call (.Name "sorted" p) [e] [] pos) Q:=fun F σ H R m k=>by
 refine⟨_,yw sQ hg hm boot_sorted (ze zi zv he) (he:=he),?_⟩
 refine h F σ H _ m fun x vx H1 q1 t1 k1 r1=>?_
 obtain⟨zs,rfl,h64,q⟩:=q1
 have m1:=m.kz k1 t1
 obtain⟨l,xs,rfl,h1,h2⟩:=r1.lst_inv
 have h3:=(zg h1).2
 rw[h2.intsV] at h3
 refine⟨l,zs,rfl,h3,h64,fun l' ys hl' pm pw=>?_⟩
 have av:AVs (Gz F α σ H1) (ys.map V.int) (ys.map .int):=by
  clear pm pw
  induction ys with
  |nil=>exact .nil
  |cons y ys ih=>exact .cons (.int y) ih
 obtain⟨g1,g2,g3⟩:=m1.lay hl' av
 exact k _ _ _ (q ys pm pw) g1 (k1.trans g2) (g3.back m k1 t1)
end
section
variable {X:Cx}{α:Ev}{a b:Expr}{pos:Pos}
theorem AVs.rep {H:Hp}{xs:List V}{ds:List PyData}(h:AVs H xs ds):∀k:Nat,AVs H (List.replicate k xs).flatten (List.replicate k ds).flatten
 |0=>.nil
 |k+1=>by
  rw[zn8,zn8,zq2,zq2]
  exact h.append (h.rep k)
theorem jR {Q:List PyData→Prop}(h:EvD X α a fun x=>EvD X α b fun y=>∃ds n,x=.list ds∧y=.int n∧0≤n∧n≤1000∧ds.length*n.toNat≤1000∧Q (List.replicate n.toNat ds).flatten):EvL X α (.BinOp a .Mult b pos) Q:=fun F σ H R m k=>by
 refine⟨_,yQ bT zi zi,?_⟩
 refine h F σ H _ m fun x vx H1 q1 t1 k1 r1=>?_
 have m1:=m.kz k1 t1
 refine q1 F σ H1 _ m1 fun y vy H2 q2 t2 k2 r2=>?_
 have m2:=m1.kz k2 t2
 obtain⟨ds,n,rfl,rfl,n0,n1,hl,q⟩:=q2
 obtain⟨l,xs,rfl,h1,h2⟩:=(r1.same (k2.gz m1.tp)).lst_inv
 cases r2.int_inv
 refine⟨l,n,xs,rfl,rfl,(zg h1).2,by omega,by omega,by rw[h2.length];exact zm3 (yB hl),fun p hp=>?_⟩
 obtain⟨g1,g2,g3⟩:=m2.lay hp (h2.rep n.toNat)
 exact k _ _ _ q g1 ((k1.trans k2).trans g2) (g3.back m (k1.trans k2) t2)
end
section
variable {X:Cx}{α:Ev}{e:Expr}{kk:Nat}{p pos:Pos}{rest:List Stmt}{E:yC}
theorem aO {F:Fr}{σ:St}{H:Hp}{i:Nat}{c c':PyData}{l:Addr}{o':HO}(hi:α[i]?=some (some (.ow c)))(hl:σ[i]?=some (some (.ref l))):zq (Gz F α σ H) (Gz F (α.set i (some (.ow c'))) σ (upd H l o')):=by
 have hs:∀{j:Nat} {a:A} {s:Option V},(α.set i (some (.ow c')))[j]?=some (some a)→σ[j]?=some s→(i=j∧a=.ow c'∧s=some (.ref l))∨(i≠j∧α[j]?=some (some a)):=fun {j a s} e1 e2=>by
  rcases zQ e1 with ⟨rfl,z⟩|⟨hj,e1'⟩
  ·cases z;rw[hl] at e2;cases e2;exact .inl ⟨rfl,rfl,rfl⟩
  ·exact .inr ⟨hj,e1'⟩
 have oww:∀{y:Addr},Ow F (α.set i (some (.ow c'))) σ y→Ow F α σ y:=fun {y} h=>by
  rcases h with z|⟨j,a,s,e1,e2,f⟩
  ·exact .inl z
  ·rcases hs e1 e2 with ⟨rfl,rfl,rfl⟩|⟨hj,e1'⟩
   ·exact .inr ⟨i,_,_,hi,hl,f⟩
   ·exact .inr ⟨j,a,s,e1',e2,f⟩
 have ol:Ow F α σ l:=.inr ⟨i,_,_,hi,hl,rfl⟩
 exact zu fun a o h e=>⟨fun z=>h (oww z),by rw[zk (fun z=>h (by rw[z];exact ol))];exact e⟩
theorem dG (i:Nat){x:Str}{ix1 ix2:Expr}{ds:List PyData}{p1 p2 p3 p4:Pos}(hi:α[i]?=some (some (.own ds)))(hc:X.calm=true)
  (h:EvD X α e fun d=>∃a b,d=.tuple [a,b]∧EvD X α ix1 fun y=>∃k j,y=.int k∧ixN ds.length k=some j∧EvD X (α.set i (some (.own (ds.set j a)))) ix2 fun y2=>∃k2 j2,y2=.int k2∧ixN ds.length k2=some j2∧SvS X (α.set i (some (.own ((ds.set j a).set j2 b)))) rest E)
  (hN:X.N[i]?=some x:=by rfl) (hv:Vis X.env.scope x:=by first|exact Or.inl rfl|exact Or.inr (Or.inl rfl)|exact Or.inr (Or.inr rfl))
  (hs:swapsWithSole [.Tuple [.Subscript (.Name x p1) ix1 p2,.Subscript (.Name x p3) ix2 p4] kk p] e pos.line X.env=pure false:=by rfl) (hw:swappedStores [.Tuple [.Subscript (.Name x p1) ix1 p2,.Subscript (.Name x p3) ix2 p4] kk p] e X.env=pure none:=by rfl)
  (ha:(assignEach [.Tuple [.Subscript (.Name x p1) ix1 p2,.Subscript (.Name x p3) ix2 p4] kk p] X.env).map (·.2)=[assign (.Tuple [.Subscript (.Name x p1) ix1 p2,.Subscript (.Name x p3) ix2 p4] kk p) X.env]:=by rfl)
  (hps:PGs X [.Subscript (.Name x p1) ix1 p2,.Subscript (.Name x p3) ix2 p4] (rE (gX (iX i) (vJ X ix1) mv) (rE (gX (iX i) (vJ X ix2) mv) fK)):=by exact yM (tT (yR rfl (by first|exact Or.inl rfl|exact Or.inr (Or.inl rfl)|exact Or.inr (Or.inr rfl))) zi set_list) (yM (tT (yR rfl (by first|exact Or.inl rfl|exact Or.inr (Or.inl rfl)|exact Or.inr (Or.inr rfl))) zi set_list) uW))
  (hn:(assignEach [.Subscript (.Name x p1) ix1 p2,.Subscript (.Name x p3) ix2 p4] X.env).length=2:=by rfl) (hst:(assignEach [.Subscript (.Name x p1) ix1 p2,.Subscript (.Name x p3) ix2 p4] X.env).findIdx? (·.1)=none:=by rfl):
  SvS X α (.Assign [.Tuple [.Subscript (.Name x p1) ix1 p2,.Subscript (.Name x p3) ix2 p4] kk p] e pos::rest) E:=fun F σ H D m r=>by
 obtain⟨l,xs,h1,h2,h3,h4,h5⟩:=m.own i ds hi
 refine⟨_,zG (tW zi (gO hc hps hn hst) hs hw ha) zN,?_⟩
 refine h F σ H _ m fun d v H1 q1 t1 k1 r1=>?_
 obtain⟨a,b,rfl,q1⟩:=q1
 obtain⟨ad,vs,rfl,g1,g2⟩:=r1.tup_inv
 obtain⟨va,vb,rfl,ra,rb⟩:∃va vb,vs=[va,vb]∧AV _ va a∧AV _ vb b:=by
  cases g2 with
  |cons ra g2=>cases g2 with
   |cons rb g2=>cases g2;exact⟨_,_,rfl,ra,rb⟩
 have m1:=m.kz k1 t1
 refine⟨ad,[va,vb],rfl,SqT.of (zg g1).2,rfl,va,[vb],rfl,?_⟩
 refine⟨.ref l,h1,?_⟩
 refine q1 F σ H1 _ m1 fun y vy H2 q2 t2 k2 r2=>?_
 have m2:=m1.kz k2 t2
 obtain⟨k,j,rfl,hj,q2⟩:=q2
 cases r2.int_inv
 have hx1:=(h3.same (k1.gz m.tp)).same (k2.gz m1.tp)
 have ra2:=ra.same (k2.gz m1.tp)
 have m3:=m2.wrOwn hi h1 (hx1.set ra2 j)
 refine⟨l,xs,k,j,rfl,rfl,k2 _ _ (k1 _ _ h2 (m.tp.nt h4)) (m.tp.nt h4),by rw[h3.length];exact hj,vb,[],rfl,?_⟩
 have lt:i<α.length:=by
  rcases zl0 i α.length with z|z
  ·exact z
  ·rw[zs3 z] at hi;cases hi
 have hi':(α.set i (some (.own (ds.set j a))))[i]?=some (some (.own (ds.set j a))):=zn9 lt
 obtain⟨l',xs',e1,e2,e3,e4,e5⟩:=m3.own i _ hi'
 rw[h1] at e1;cases e1
 have hl:(xs.set j va).length=ds.length:=by rw[zk6,h3.length]
 refine⟨.ref l,h1,?_⟩
 refine q2 F σ _ _ m3 fun y2 vy2 H3 q3 t3 k3 r3=>?_
 have m4:=m3.kz k3 t3
 obtain⟨k2',j2,rfl,hj2,q⟩:=q3
 cases r3.int_inv
 have ex:xs'=xs.set j va:=by
  rw[zj] at e2
  exact (HO.lst.inj (zk0 e2)).symm
 subst ex
 refine⟨l,xs.set j va,k2',j2,rfl,rfl,k3 _ _ e2 (m3.tp.nt e4),by rw[hl];exact hj2,rfl,?_⟩
 have rb2:=((rb.same (k2.gz m1.tp)).same (aO (F:=F) (H:=H2) (c':=.list (ds.set j a)) (o':=.lst (xs.set j va)) hi h1)).same (k3.gz m3.tp)
 have m5:=m4.wrOwn hi' h1 ((e3.same (k3.gz m3.tp)).set rb2 j2)
 rw[List.set_set] at m5
 exact q F σ _ D m5 r
end
end L2
set_option maxHeartbeats 4000000
namespace K72
open PySem PySem.Spec PyProof.Rows L2
def top (i:Nat):Stmt:=PySem.Challenge.pw_stayprice_k72_books_unlike.main.body.getD i (.Pass ⟨0,0,0,0⟩)
abbrev gI :Stmt:=top 41
abbrev nv :Stmt:=top 40
def mS :List A→(A→Prop)→Prop:=fun as Q=>∃c:Int,as=[.dat (.int c)]∧∀x y:Int,0≤y→y<4294967296→Q (.own [.int x,.int y])
section
variable {P:Program}{w:World}{K:PySem.W.Frag}{mg:Str→Option Value}{base:Heap}
theorem nD :zm ["_law_row","_law_base","_law_found","_law_number"] ["_law_row","_law_base"] (zc gI):=⟨rfl,rfl,rfl,by decide +kernel,rfl,by decide +kernel,by decide +kernel⟩
theorem eH {f:Addr}{fd:FuncData}(F:Fun K "_law_take" "_law_take" gI f fd):zD P w K mg base CX0 1 f fd ["_law_row","_law_base"] gC:=by
 refine F.ok nD (fun vs H Q E h=>?_) (fun cdv A outer s H vs Q E hr h=>?_)
 ·obtain⟨t,b,c,many,rfl,_⟩:=h
  rfl
 ·obtain⟨t,b,c,many,rfl,⟨n,bs,cs,⟨eb,ec⟩,ht,hb,hc,⟨x,y,rfl,y0,y1⟩,hn⟩,hm0,hm1,k⟩:=h
  rw[eb,ec] at k
  have hlog:many.natAbs.log2<9000:=log2_small hm0 hm1
  have ht:H t=some (.lst [.int x,.int y]):=ht
  refine yk (fun σ H3=>σ=[some (.ref t),some (.int many),none,none]∧H=H3)
   ⟨_,xR (yt cm (yo xp (pv 0) zz (fun _ _=>rfl)) zz (zJ _))
    (zG (qT (i:=2) nD.nd rfl (Or.inl rfl) (yQ sF (yo xp (pv 0) zz (fun _ _=>rfl)) (pv 1)))
    (zG (tW (yQ tV (yo xp (pv 0) zz (fun _ _=>rfl)) (pv 1)) (tT (pv 0) zz set_list))
    (zx (zC (pv 2))))) yz,?_⟩ ?_
  ·refine⟨_,rfl,t,_,0,_,rfl,rfl,SqL.of ht,rfl,_,_,rfl,rfl,_,rfl,?_⟩
   refine yD (fun _=>?_) (fun _=>⟨rfl,rfl⟩)
   refine⟨_,rfl,t,_,0,_,rfl,rfl,SqL.of ht,rfl,_,rfl,_,_,rfl,rfl,hm0,?_⟩
   refine⟨_,rfl,t,_,0,_,rfl,rfl,SqL.of ht,rfl,_,rfl,_,_,rfl,rfl,⟨hm0,hlog⟩,?_⟩
   refine⟨_,rfl,t,_,0,0,rfl,rfl,ht,rfl,_,rfl,?_⟩
   refine k _ _ (zw0 _ (Int.ne_of_gt hm0)) (zt9 _ hm0) ⟨0,[x / many,y],[x / many,y],⟨rfl,rfl⟩,zj,zj,zj,⟨_,_,rfl,y0,y1⟩,rfl⟩ fun a h1 h2=>by rw[zk h1]
  rintro σ H3 ⟨rfl,rfl⟩
  refine yk (fun σ H1=>∃z:Int,0≤z∧z<2147483647∧σ=[some (.ref t),some (.int many),none,none]∧H1=upd H t (.lst [.int x,.int z]))
   ⟨_,tW (yQ sF (yQ qR (yQ rR (yo xp (pv 0) zz (fun _ _=>rfl)) zz) zz) zz) (tT (pv 0) zz set_list),?_⟩ ?_
  ·refine⟨_,rfl,t,_,1,_,rfl,rfl,SqL.of ht,rfl,_,_,rfl,rfl,.inl ⟨by omega,by omega⟩,_,_,rfl,rfl,_,_,rfl,rfl,(by show (0:Int)<2147483647;decide),?_⟩
   exact⟨_,rfl,t,_,1,1,rfl,rfl,ht,rfl,_,zw0 _ (by decide),zt9 _ (by decide),rfl,rfl⟩
  rintro σ H1 ⟨z,z0,z1,rfl,hH1⟩
  have ht1:H1 t=some (.lst [.int x,.int z]):=by rw[hH1];exact zj
  have off:bA t t H H1:=fun a h1 _=>by rw[hH1,zk h1]
  clear hH1
  refine yk (fun σ H2=>∃u:Int,σ=[some (.ref t),some (.int many),none,some (.int u)]∧H1=H2)
   ⟨_,qT (i:=3) nD.nd rfl (Or.inl rfl) (yQ sF (yQ qR (yQ qR (yQ rR (yo xp (pv 0) zz (fun _ _=>rfl)) (yo xp (pv 0) zz (fun _ _=>rfl))) (yQ rR zz (yo xp (pv 0) zz (fun _ _=>rfl)))) zz) zz),?_⟩ ?_
  ·exact⟨_,rfl,t,_,1,_,rfl,rfl,SqL.of ht1,rfl,_,rfl,t,_,1,_,rfl,rfl,SqL.of ht1,rfl,_,_,rfl,rfl,.inl ⟨by omega,by omega⟩,_,rfl,t,_,1,_,rfl,rfl,SqL.of ht1,rfl,_,_,rfl,rfl,.inl ⟨by decide,by decide⟩,_,_,rfl,rfl,_,_,rfl,rfl,_,_,rfl,rfl,(by show (0:Int)<2147483629;decide),_,rfl,rfl⟩
  rintro σ H2 ⟨u,rfl,rfl⟩
  refine⟨_,zx (zC (yQ sF (yQ tV (pv 3) zz) (pv 1))),?_⟩
  refine⟨_,rfl,_,_,rfl,rfl,⟨by decide,by decide +kernel⟩,_,rfl,_,_,rfl,rfl,hm0,?_⟩
  exact k _ _ (zw0 _ (Int.ne_of_gt hm0)) (zt9 _ hm0) ⟨0,[x,z],[x,z],⟨rfl,rfl⟩,ht1,ht1,ht1,⟨_,_,rfl,z0,by omega⟩,rfl⟩ off
theorem jm {f:Addr}{fd:FuncData}(hm:mg "_law_take"=some (.ref f))(hk:PySem.W.keepIn K (.ref f)=true)(hb:Binds K fd ["_law_row","_law_base"] [])(G:zD P w K mg base CX0 1 f fd ["_law_row","_law_base"] gC):Cal P w K mg base "_law_take" 1 xK:=by
 refine⟨f,fd,_,hm,hk,hb,G.imp fun vs H Q E h=>?_⟩
 obtain⟨F,as,Q',rfl,t,o,rv,⟨n,rfl,h0,h1,hq⟩,kk⟩:=h
 cases rv with
 |cons a1 r=>
  obtain⟨ta,b,c,e,rfl⟩:=a1
  obtain⟨v,rfl,av⟩:=r.one
  cases av.int_inv
  refine⟨ta,b,c,n,rfl,(t ta b c e).1,h0,h1,fun z H' z0 z1 TA off=>kk _ _ _ (hq z z0 z1) ⟨⟨(by
   obtain⟨_,_,_,_,e1,e2,_⟩:=(t ta b c e).1.ex
   exact ee t.tab e1 e2 off),t.ot,fun t' b' c' e'=>?_⟩,fun y u hy n=>?_,.int z⟩⟩
  ·rw[e] at e';cases e'
   exact⟨TA,(t ta b c e).2⟩
  ·rw[off y (n.1 _ _ _ e).1 (n.1 _ _ _ e).2];exact hy
theorem dA :zm ["_law_cell"] ["_law_cell"] (zc nv):=⟨rfl,rfl,rfl,by decide +kernel,rfl,by decide +kernel,by decide +kernel⟩
theorem kf {f:Addr}{fd:FuncData}(F:Fun K "_law_begin" "_law_begin" nv f fd)(hm:mg "_law_begin"=some (.ref f))(hb:Binds K fd ["_law_cell"] []):Cal P w K mg base "_law_begin" 1 mS:=by
 refine vR F hm hb dA (fun as Q h=>?_) (fun cdv A' outer s H E as Q hr h=>?_)
 ·obtain⟨c,rfl,_⟩:=h
  rfl
 ·obtain⟨c,rfl,q⟩:=h
  refine yP (dY (zf 0 rfl (yV (r:=1000000000000000000) ⟨by decide,by decide,by decide⟩ (by decide) ⟨_,_,rfl,rfl,?_⟩)))
  refine nk (fun _=>?_) (fun _=>zt ?_)
  ·exact uQ (zX (zb (rW (zf 0 rfl (yV (r:=1000000000000000000) ⟨by decide,by decide,by decide⟩ (by decide) ⟨_,_,rfl,rfl,zb (zr (zh ⟨_,rfl,zi1 rfl,q _ _ (by decide) (by decide)⟩))⟩)))))
  ·refine uQ (zX (zb (zr (zb (xk (gJ (zf 0 rfl (zr ⟨_,_,rfl,rfl,by decide,zr ⟨_,_,rfl,rfl,zh ⟨_,rfl,zi1 rfl,?_⟩⟩⟩))))))))
   have h1:=zw0 c (show (2147483629:Int)≠0 by decide)
   have h2:=zt9 c (show (0:Int)<2147483629 by decide)
   exact q _ _ (by omega) (by omega)
end
abbrev qL :Stmt:=top 3
abbrev qt :Stmt:=top 4
abbrev jw :Stmt:=top 5
abbrev cN :Stmt:=top 6
abbrev iU :Stmt:=top 7
abbrev uZ :Stmt:=top 8
structure oe (mg:Str→Option Value)(fW fI fP fD fPD:Addr):Prop where
 isi:mg "isinstance"=none
 int:mg "int"=none
 bool:mg "bool"=none
 tuple:mg "tuple"=none
 len:mg "len"=none
 last:∃t,mg "LAST_DAY"=some (.int 1000000 t)
 most:∃t,mg "MOST_NIGHTS"=some (.int 14 t)
 whole:mg "is_whole"=some (.ref fW)
 within:mg "is_whole_within"=some (.ref fI)
 pair:mg "is_pair"=some (.ref fP)
 day:mg "is_day"=some (.ref fD)
 days:mg "is_pair_of_days"=some (.ref fPD)
section
variable {P:Program}{w:World}{K:PySem.W.Frag}{mg:Str→Option Value}{base:Heap}{fW fI fP fD fPD:Addr}
theorem gW :zm ["thing"] ["thing"] (zc qL):=⟨rfl,rfl,rfl,by decide +kernel,rfl,by decide +kernel,by decide +kernel⟩
theorem iY {f:Addr}{fd:FuncData}(F:Fun K "is_whole" "is_whole" qL f fd)(T:oe mg fW fI fP fD fPD):zD P w K mg base CX0 1 f fd ["thing"] (yG oO):=by
 refine F.ok gW (fun vs H Q E h=>?_) (fun cdv A outer s H vs Q E hr h=>?_)
 ·obtain⟨x,d,rfl,_⟩:=h
  rfl
 ·obtain⟨x,d,rfl,hd,q⟩:=h
  refine⟨_,zx (zC (xm (yw xu (by rfl) T.isi zr6 (ze (pv 0) (ze (wX (v:=.ty "int") (by rfl) T.int boot_int rfl) zv)))
   (xM (bG (yw xu (by rfl) T.isi zr6 (ze (pv 0) (ze (wX (v:=.ty "bool") (by rfl) T.bool boot_bool rfl) zv))))))),?_⟩
  rw[lC] at q
  refine⟨_,rfl,x,"int",d,_,rfl,hd,dn d,_,rfl,?_⟩
  refine yD (fun h=>?_) (fun h=>?_)
  ·rw[h,zn0] at q
   exact⟨_,rfl,x,"bool",d,_,rfl,hd,tE d,_,rfl,q⟩
  ·rw[zk3.mpr h,zl8] at q
   exact q
theorem gA :zm ["thing","lowest","highest"] ["thing","lowest","highest"] (zc qt):=⟨rfl,rfl,rfl,by decide +kernel,rfl,by decide +kernel,by decide +kernel⟩
theorem lx {f:Addr}{fd fdW:FuncData}(F:Fun K "is_whole_within" "is_whole_within" qt f fd)(T:oe mg fW fI fP fD fPD)(FW:Fun K "is_whole" "is_whole" qL fW fdW)(bW:Binds K fdW ["thing"] []):
  zD P w K mg base CX0 2 f fd ["thing","lowest","highest"] wL:=by
 have GW:zD P w K mg base CX0 1 fW fdW ["thing"] (yG oO):=iY FW T
 refine F.ok gA (fun vs H Q E h=>?_) (fun cdv A outer s H vs Q E hr h=>?_)
 ·obtain⟨x,d,lo,hi,rfl,_⟩:=h
  rfl
 ·obtain⟨x,d,lo,hi,rfl,hd,q⟩:=h
  refine⟨_,zx (zC (xm (zM GW hr (by rfl) T.whole FW.kp bW .nil zR (ze (pv 0) zv)) (xM (pM tG tG (pv 1) (pv 0) (pv 2))))),?_⟩
  refine⟨_,rfl,x,d,rfl,hd,_,rfl,?_⟩
  cases hd with
  |int i=>
   have q':Q (.bl (decide (lo≤i)&&decide (i≤hi))) H:=q
   refine uI ⟨_,rfl,_,rfl,_,_,rfl,rfl,_,rfl,?_⟩
   refine yD (fun h=>?_) (fun h=>?_)
   ·rw[h,zn0] at q'
    exact⟨_,rfl,_,_,rfl,rfl,q'⟩
   ·rw[zk3.mpr h,zl8] at q'
    exact q'
  |_=>exact sr q
theorem bz :zm ["thing"] ["thing"] (zc jw):=⟨rfl,rfl,rfl,by decide +kernel,rfl,by decide +kernel,by decide +kernel⟩
theorem fX {f:Addr}{fd:FuncData}(F:Fun K "is_pair" "is_pair" jw f fd)(T:oe mg fW fI fP fD fPD):zD P w K mg base CX0 1 f fd ["thing"] (yG pairD):=by
 refine F.ok bz (fun vs H Q E h=>?_) (fun cdv A outer s H vs Q E hr h=>?_)
 ·obtain⟨x,d,rfl,_⟩:=h
  rfl
 ·obtain⟨x,d,rfl,hd,q⟩:=h
  refine⟨_,zx (zC (xm (yw xu (by rfl) T.isi zr6 (ze (pv 0) (ze (wX (v:=.ty "tuple") (by rfl) T.tuple boot_tuple rfl) zv)))
   (xM (wa wu (yw xZ (by rfl) T.len PySem.boot_len (ze (pv 0) zv)) zz (zJ _))))),?_⟩
  refine⟨_,rfl,x,"tuple",d,_,rfl,hd,rH d,_,rfl,?_⟩
  cases hd with
  |@tup a xs ds e hs=>
   refine uI ⟨_,rfl,a,_,rfl,.inr (SqT.of e),rfl,?_⟩
   rw[fz,hs.length]
   exact q
  |_=>exact sr q
theorem zc7 :zm ["thing"] ["thing"] (zc cN):=⟨rfl,rfl,rfl,by decide +kernel,rfl,by decide +kernel,by decide +kernel⟩
theorem cD {f:Addr}{fd fdI:FuncData}(F:Fun K "is_day" "is_day" cN f fd)(T:oe mg fW fI fP fD fPD)(GI:zD P w K mg base CX0 2 fI fdI ["thing","lowest","highest"] wL)(kI:PySem.W.keepIn K (.ref fI)=true)(bI:Binds K fdI ["thing","lowest","highest"] []):
  zD P w K mg base CX0 3 f fd ["thing"] (yG vA):=by
 obtain⟨tl,hl⟩:=T.last
 refine F.ok zc7 (fun vs H Q E h=>?_) (fun cdv A outer s H vs Q E hr h=>?_)
 ·obtain⟨x,d,rfl,_⟩:=h
  rfl
 ·obtain⟨x,d,rfl,hd,q⟩:=h
  refine⟨_,zx (zC (zM GI hr (by rfl) T.within kI bI .nil zR (ze (pv 0) (ze zz (ze (vH (v:=.int 1000000) (by rfl) hl ⟨tl,rfl⟩) zv))))),?_⟩
  exact⟨_,rfl,x,d,_,_,rfl,hd,q⟩
theorem cH :zm ["thing"] ["thing"] (zc iU):=⟨rfl,rfl,rfl,by decide +kernel,rfl,by decide +kernel,by decide +kernel⟩
theorem fJ {f:Addr}{fd fdP fdD:FuncData}(F:Fun K "is_pair_of_days" "is_pair_of_days" iU f fd)(T:oe mg fW fI fP fD fPD)(GP:zD P w K mg base CX0 1 fP fdP ["thing"] (yG pairD))(kP:PySem.W.keepIn K (.ref fP)=true)(bP:Binds K fdP ["thing"] [])
  (GD:zD P w K mg base CX0 3 fD fdD ["thing"] (yG vA)) (kD:PySem.W.keepIn K (.ref fD)=true) (bD:Binds K fdD ["thing"] []):zD P w K mg base CX0 4 f fd ["thing"] (yG tH):=by
 refine F.ok cH (fun vs H Q E h=>?_) (fun cdv A outer s H vs Q E hr h=>?_)
 ·obtain⟨x,d,rfl,_⟩:=h
  rfl
 ·obtain⟨x,d,rfl,hd,q⟩:=h
  have hr1:zY 1 _:=hr.mono (by decide)
  refine⟨_,zx (zC (xm (zM GP hr1 (by rfl) T.pair kP bP .nil zR (ze (pv 0) zv))
   (xm (zM GD hr (by rfl) T.day kD bD .nil zR (ze (yo yv (pv 0) zz (fun _ _=>rfl)) zv))
   (xM (zM GD hr (by rfl) T.day kD bD .nil zR (ze (yo yv (pv 0) zz (fun _ _=>rfl)) zv)))))),?_⟩
  refine⟨_,rfl,x,d,rfl,hd,_,rfl,?_⟩
  refine yD (fun h=>?_) (fun h=>?_)
  ·obtain⟨a,b,rfl⟩:=uC h
   cases hd with
   |tup e hs=>
    cases hs with
    |cons ha hs=>
     cases hs with
     |cons hb hs=>
      cases hs
      have q':Q (.bl (vA a&&vA b)) H:=q
      refine⟨_,rfl,_,_,0,_,rfl,rfl,SqT.of e,rfl,_,_,rfl,ha,_,rfl,?_⟩
      refine yD (fun h=>?_) (fun h=>?_)
      ·rw[h,zn0] at q'
       exact⟨_,rfl,_,_,1,_,rfl,rfl,SqT.of e,rfl,_,_,rfl,hb,q'⟩
      ·rw[zk3.mpr h,zl8] at q'
       exact q'
  ·have e:tH d=false:=by
    unfold tH
    split
    ·exact absurd rfl h
    ·rfl
   rw[e] at q
   exact q
theorem kO :zm ["thing"] ["thing"] (zc uZ):=⟨rfl,rfl,rfl,by decide +kernel,rfl,by decide +kernel,by decide +kernel⟩
theorem nC {f:Addr}{fd fdP:FuncData}(F:Fun K "is_stretch" "is_stretch" uZ f fd)(T:oe mg fW fI fP fD fPD)(G:zD P w K mg base CX0 4 fPD fdP ["thing"] (yG tH))(kP:PySem.W.keepIn K (.ref fPD)=true)(bP:Binds K fdP ["thing"] []):
  zD P w K mg base CX0 5 f fd ["thing"] (yG yh):=by
 refine F.ok kO (fun vs H Q E h=>?_) (fun cdv A outer s H vs Q E hr h=>?_)
 ·obtain⟨x,d,rfl,_⟩:=h
  rfl
 ·obtain⟨x,d,rfl,hd,q⟩:=h
  refine⟨_,zx (zC (xm (zM G hr (by rfl) T.days kP bP .nil zR (ze (pv 0) zv))
   (xM (wa tG (yo yv (pv 0) zz (fun _ _=>rfl)) (yo yv (pv 0) zz (fun _ _=>rfl)) (zJ _))))),?_⟩
  refine⟨_,rfl,x,d,rfl,hd,_,rfl,?_⟩
  refine yD (fun h=>?_) (fun h=>?_)
  ·obtain⟨a,b,rfl,ef⟩:=oM h
   unfold yh at q
   rw[ef] at q
   have q':Q (.bl (decide (0≤b-a))) H:=q
   have eq1:decide (0≤b-a)=decide (a≤b):=by
    rw[decide_eq_decide]
    omega
   rw[eq1] at q'
   cases hd with
   |tup e hs=>
    cases hs with
    |cons ha hs=>
     cases ha
     cases hs with
     |cons hb hs=>
      cases hb
      cases hs
      exact⟨_,rfl,_,_,0,_,rfl,rfl,SqT.of e,rfl,_,rfl,_,_,1,_,rfl,rfl,SqT.of e,rfl,_,_,rfl,rfl,q'⟩
  ·rw[sj] at h
   unfold yh at q
   cases ef:sO d with
   |some k=>rw[ef] at h;exact absurd rfl h
   |none=>
    rw[ef] at q
    exact q
end
abbrev ml :Stmt:=inClass (top 16) 0
abbrev iu :Stmt:=inClass (top 16) 2
abbrev oX :Stmt:=inClass (top 16) 3
abbrev qD :Stmt:=inClass (top 17) 0
abbrev oQ :Stmt:=inClass (top 18) 0
abbrev cF :Stmt:=inClass (top 19) 0
abbrev qo :Stmt:=inClass (top 20) 0
abbrev nV :Stmt:=inClass (top 21) 0
abbrev nI :Stmt:=inClass (top 22) 0
abbrev jq :Stmt:=inClass (top 23) 0
abbrev nL :Stmt:=top 25
abbrev qz :Stmt:=top 26
abbrev nP :Stmt:=top 27
abbrev qj :Stmt:=top 28
abbrev js :Stmt:=top 29
abbrev rX :Stmt:=top 30
structure oU (mg:Str→Option Value)(fW fI fP fD fPD fS fC fDl fWo fR fM:Addr)(cs:Cs):Prop where
 d:oe mg fW fI fP fD fPD
 coinsMost:∃t,mg "MOST_COINS"=some (.int 1000000000000 t)
 stretch:mg "is_stretch"=some (.ref fS)
 coins:mg "is_coins"=some (.ref fC)
 deal:mg "is_deal"=some (.ref fDl)
 worth:mg "is_worth"=some (.ref fWo)
 rule:mg "is_rule"=some (.ref fR)
 made:mg "made"=some (.ref fM)
 cPrice:mg "Price"=some (.ref cs.price)
 cCome:mg "Come"=some (.ref cs.come)
 cGo:mg "Go"=some (.ref cs.go)
 cLeast:mg "Least"=some (.ref cs.least)
 cMost:mg "Most"=some (.ref cs.most)
 cDeal:mg "Deal"=some (.ref cs.deal)
 cFee:mg "Fee"=some (.ref cs.fee)
section
variable {P:Program}{w:World}{K:PySem.W.Frag}{mg:Str→Option Value}{base:Heap}{fW fI fP fD fPD fS fC fDl fWo fR fM:Addr}{cs:Cs}
theorem bp :zm ["self","first","last","worth"] ["self","first","last","worth"] (zc ml):=⟨rfl,rfl,rfl,by decide +kernel,rfl,by decide +kernel,by decide +kernel⟩
theorem wo {f C fT fE fWd:Addr}{fd:FuncData}(F:Fun K "__init__" "Rule.__init__" ml f fd)(R:xN K C f fT fE fWd):zD P w K mg base CX0 1 f fd ["self","first","last","worth"] (ao C):=by
 refine F.ok bp (fun vs H Q E h=>?_) (fun cdv A outer s H vs Q E hr h=>?_)
 ·obtain⟨p,dx,x,y,z,rfl,_⟩:=h
  rfl
 ·obtain⟨p,dx,x,y,z,rfl,hp,q⟩:=h
  refine⟨_,zG (qF (pv 0) (pv 1) rfl) (zG (qF (pv 0) (pv 2) rfl) (zx (qF (pv 0) (pv 3) rfl))),?_⟩
  refine⟨_,rfl,_,rfl,p,C,dx,[],rfl,hp,R.cl,R.nf,(by show 0<1000;decide),?_⟩
  refine⟨_,rfl,_,rfl,p,C,dx,_,rfl,zj,R.cl,R.nl,(by show 1<1000;decide),?_⟩
  refine⟨_,rfl,_,rfl,p,C,dx,xF "last" y (xF "first" x []),rfl,zj,R.cl,R.nw,?_,?_⟩
  ·show (if ("first":Str)="last" then _ else _:List (Str×V)).length<1000
   rw[if_neg (fun e=>gB e.symm)]
   show 2<1000
   decide
  ·rw[qM,qM]
   exact q
theorem iO :zm ["self"] ["self"] (zc qD):=⟨rfl,rfl,rfl,by decide +kernel,rfl,by decide +kernel,by decide +kernel⟩
theorem eL :zm ["self"] ["self"] (zc oQ):=⟨rfl,rfl,rfl,by decide +kernel,rfl,by decide +kernel,by decide +kernel⟩
theorem zb2 :zm ["self"] ["self"] (zc cF):=⟨rfl,rfl,rfl,by decide +kernel,rfl,by decide +kernel,by decide +kernel⟩
theorem jr :zm ["self"] ["self"] (zc qo):=⟨rfl,rfl,rfl,by decide +kernel,rfl,by decide +kernel,by decide +kernel⟩
theorem eZ :zm ["self"] ["self"] (zc nV):=⟨rfl,rfl,rfl,by decide +kernel,rfl,by decide +kernel,by decide +kernel⟩
theorem fm :zm ["self"] ["self"] (zc nI):=⟨rfl,rfl,rfl,by decide +kernel,rfl,by decide +kernel,by decide +kernel⟩
theorem ae :zm ["self"] ["self"] (zc jq):=⟨rfl,rfl,rfl,by decide +kernel,rfl,by decide +kernel,by decide +kernel⟩
theorem rG {f:Addr}{fd:FuncData}(F:Fun K "word" "Price.word" qD f fd):zD P w K mg base CX0 1 f fd ["self"] (we "price"):=by
 refine F.ok iO (fun vs H Q E h=>?_) (fun cdv A outer s H vs Q E hr h=>?_)
 ·obtain⟨p,rfl,_⟩:=h;rfl
 ·obtain⟨p,rfl,q⟩:=h;exact⟨_,zx (zC ye),q⟩
theorem qY {f:Addr}{fd:FuncData}(F:Fun K "word" "Come.word" oQ f fd):zD P w K mg base CX0 1 f fd ["self"] (we "come"):=by
 refine F.ok eL (fun vs H Q E h=>?_) (fun cdv A outer s H vs Q E hr h=>?_)
 ·obtain⟨p,rfl,_⟩:=h;rfl
 ·obtain⟨p,rfl,q⟩:=h;exact⟨_,zx (zC ye),q⟩
theorem jP {f:Addr}{fd:FuncData}(F:Fun K "word" "Go.word" cF f fd):zD P w K mg base CX0 1 f fd ["self"] (we "go"):=by
 refine F.ok zb2 (fun vs H Q E h=>?_) (fun cdv A outer s H vs Q E hr h=>?_)
 ·obtain⟨p,rfl,_⟩:=h;rfl
 ·obtain⟨p,rfl,q⟩:=h;exact⟨_,zx (zC ye),q⟩
theorem sY {f:Addr}{fd:FuncData}(F:Fun K "word" "Least.word" qo f fd):zD P w K mg base CX0 1 f fd ["self"] (we "least"):=by
 refine F.ok jr (fun vs H Q E h=>?_) (fun cdv A outer s H vs Q E hr h=>?_)
 ·obtain⟨p,rfl,_⟩:=h;rfl
 ·obtain⟨p,rfl,q⟩:=h;exact⟨_,zx (zC ye),q⟩
theorem pq {f:Addr}{fd:FuncData}(F:Fun K "word" "Most.word" nV f fd):zD P w K mg base CX0 1 f fd ["self"] (we "most"):=by
 refine F.ok eZ (fun vs H Q E h=>?_) (fun cdv A outer s H vs Q E hr h=>?_)
 ·obtain⟨p,rfl,_⟩:=h;rfl
 ·obtain⟨p,rfl,q⟩:=h;exact⟨_,zx (zC ye),q⟩
theorem pV {f:Addr}{fd:FuncData}(F:Fun K "word" "Deal.word" nI f fd):zD P w K mg base CX0 1 f fd ["self"] (we "deal"):=by
 refine F.ok fm (fun vs H Q E h=>?_) (fun cdv A outer s H vs Q E hr h=>?_)
 ·obtain⟨p,rfl,_⟩:=h;rfl
 ·obtain⟨p,rfl,q⟩:=h;exact⟨_,zx (zC ye),q⟩
theorem mf {f:Addr}{fd:FuncData}(F:Fun K "word" "Fee.word" jq f fd):zD P w K mg base CX0 1 f fd ["self"] (we "fee"):=by
 refine F.ok ae (fun vs H Q E h=>?_) (fun cdv A outer s H vs Q E hr h=>?_)
 ·obtain⟨p,rfl,_⟩:=h;rfl
 ·obtain⟨p,rfl,q⟩:=h;exact⟨_,zx (zC ye),q⟩
theorem cQ :zm ["self"] ["self"] (zc iu):=⟨rfl,rfl,rfl,by decide +kernel,rfl,by decide +kernel,by decide +kernel⟩
theorem fu (x y z:V):(wz x y z).lookup ("word":Str)=none:=gZ x y z (by decide +kernel) (by decide +kernel) (by decide +kernel)
theorem wq {f C fIn fE fWd:Addr}{fd fdW:FuncData}{wd:Str}(F:Fun K "told" "Rule.told" iu f fd)(R:xN K C fIn f fE fWd)(GW:zD P w K mg base CX0 1 fWd fdW ["self"] (we wd))(bW:Binds K fdW ["self"] []):
  zD P w K mg base CX0 2 f fd ["self"] (jx C wd):=by
 refine F.ok cQ (fun vs H Q E h=>?_) (fun cdv A outer s H vs Q E hr h=>?_)
 ·obtain⟨p,dx,x,y,z,rfl,_⟩:=h
  rfl
 ·obtain⟨p,dx,x,y,z,rfl,hp,q⟩:=h
  refine⟨_,zx (zC (oY (ze (pR (pv 0) R.cl R.word GW hr bW .nil zR) (ze (vY (pv 0) rfl) (ze (vY (pv 0) rfl) (ze (vY (pv 0) rfl) zv)))))),?_⟩
  refine⟨_,rfl,p,dx,_,rfl,hp,fu _ _ _,p,rfl,?_⟩
  exact⟨_,rfl,p,C,dx,_,_,rfl,hp,R.cl,R.nf,tY _ _ _,_,rfl,p,C,dx,_,_,rfl,hp,R.cl,R.nl,rm _ _ _,_,rfl,p,C,dx,_,_,rfl,hp,R.cl,R.nw,nj _ _ _,(by show 4≤sizeLine;decide),q⟩
theorem fg :zm ["self","day"] ["self","day"] (zc oX):=⟨rfl,rfl,rfl,by decide +kernel,rfl,by decide +kernel,by decide +kernel⟩
theorem xD {f C fIn fT fWd:Addr}{fd:FuncData}(F:Fun K "tells" "Rule.tells" oX f fd)(R:xN K C fIn fT f fWd):zD P w K mg base CX0 1 f fd ["self","day"] (mG C):=by
 refine F.ok fg (fun vs H Q E h=>?_) (fun cdv A outer s H vs Q E hr h=>?_)
 ·obtain⟨p,dx,a,b,day,z,rfl,_⟩:=h
  rfl
 ·obtain⟨p,dx,a,b,day,z,rfl,hp,q⟩:=h
  refine⟨_,zx (zC (pM tG tG (vY (pv 0) rfl) (pv 1) (vY (pv 0) rfl))),?_⟩
  refine⟨_,rfl,p,C,dx,_,_,rfl,hp,R.cl,R.nf,tY _ _ _,_,rfl,_,_,rfl,rfl,_,rfl,?_⟩
  refine yD (fun h=>?_) (fun h=>?_)
  ·rw[h,zn0] at q
   exact⟨_,rfl,p,C,dx,_,_,rfl,hp,R.cl,R.nl,rm _ _ _,_,_,rfl,rfl,q⟩
  ·rw[zk3.mpr h,zl8] at q
   exact q
theorem fN :zm ["thing"] ["thing"] (zc nL):=⟨rfl,rfl,rfl,by decide +kernel,rfl,by decide +kernel,by decide +kernel⟩
theorem gF {f:Addr}{fd fdI:FuncData}(F:Fun K "is_coins" "is_coins" nL f fd)(T:oU mg fW fI fP fD fPD fS fC fDl fWo fR fM cs)(GI:zD P w K mg base CX0 2 fI fdI ["thing","lowest","highest"] wL)(kI:PySem.W.keepIn K (.ref fI)=true)(bI:Binds K fdI ["thing","lowest","highest"] []):
  zD P w K mg base CX0 3 f fd ["thing"] (yG vX):=by
 obtain⟨tl,hl⟩:=T.coinsMost
 refine F.ok fN (fun vs H Q E h=>?_) (fun cdv A outer s H vs Q E hr h=>?_)
 ·obtain⟨x,d,rfl,_⟩:=h
  rfl
 ·obtain⟨x,d,rfl,hd,q⟩:=h
  refine⟨_,zx (zC (zM GI hr (by rfl) T.d.within kI bI .nil zR (ze (pv 0) (ze zz (ze (vH (v:=.int 1000000000000) (by rfl) hl ⟨tl,rfl⟩) zv))))),?_⟩
  exact⟨_,rfl,x,d,_,_,rfl,hd,q⟩
theorem gK :zm ["thing"] ["thing"] (zc qz):=⟨rfl,rfl,rfl,by decide +kernel,rfl,by decide +kernel,by decide +kernel⟩
theorem lA {f:Addr}{fd fdI fdP:FuncData}(F:Fun K "is_deal" "is_deal" qz f fd)(T:oU mg fW fI fP fD fPD fS fC fDl fWo fR fM cs)(GI:zD P w K mg base CX0 2 fI fdI ["thing","lowest","highest"] wL)(kI:PySem.W.keepIn K (.ref fI)=true)(bI:Binds K fdI ["thing","lowest","highest"] [])
  (GP:zD P w K mg base CX0 1 fP fdP ["thing"] (yG pairD)) (kP:PySem.W.keepIn K (.ref fP)=true) (bP:Binds K fdP ["thing"] []):zD P w K mg base CX0 3 f fd ["thing"] (yG vB):=by
 obtain⟨tm,hm⟩:=T.d.most
 refine F.ok gK (fun vs H Q E h=>?_) (fun cdv A outer s H vs Q E hr h=>?_)
 ·obtain⟨x,d,rfl,_⟩:=h
  rfl
 ·obtain⟨x,d,rfl,hd,q⟩:=h
  have hr1:zY 1 _:=hr.mono (by decide)
  refine⟨_,zx (zC (xm (zM GP hr1 (by rfl) T.d.pair kP bP .nil zR (ze (pv 0) zv))
   (xm (zM GI hr (by rfl) T.d.within kI bI .nil zR (ze (yo yv (pv 0) zz (fun _ _=>rfl)) (ze zz (ze (vH (v:=.int 14) (by rfl) hm ⟨tm,rfl⟩) zv))))
   (xM (zM GI hr (by rfl) T.d.within kI bI .nil zR (ze (yo yv (pv 0) zz (fun _ _=>rfl)) (ze zz (ze (yQ jU (yo yv (pv 0) zz (fun _ _=>rfl)) zz) zv)))))))),?_⟩
  refine⟨_,rfl,x,d,rfl,hd,_,rfl,?_⟩
  refine yD (fun h=>?_) (fun h=>?_)
  ·obtain⟨a,b,rfl⟩:=uC h
   cases hd with
   |tup e hs=>
    cases hs with
    |cons ha hs=>
     cases hs with
     |cons hb hs=>
      cases hs
      refine⟨_,rfl,_,_,0,_,rfl,rfl,SqT.of e,rfl,_,_,_,_,rfl,ha,_,rfl,?_⟩
      cases ha with
      |int m=>
       have q':Q (.bl (zV 2 14 (.int m)&&zV 1 (m-1) b)) H:=q
       refine yD (fun h=>?_) (fun h=>?_)
       ·rw[h,zn0] at q'
        exact⟨_,rfl,_,_,1,_,rfl,rfl,SqT.of e,rfl,_,rfl,_,_,0,_,rfl,rfl,SqT.of e,rfl,_,_,rfl,rfl,_,_,_,_,rfl,hb,q'⟩
       ·rw[zk3.mpr h,zl8] at q'
        exact q'
      |_=>exact sr q
  ·have e:vB d=false:=by
    unfold vB
    split
    ·exact absurd rfl h
    ·rfl
   rw[e] at q
   exact q
theorem fG :zm ["word","thing"] ["word","thing"] (zc nP):=⟨rfl,rfl,rfl,by decide +kernel,rfl,by decide +kernel,by decide +kernel⟩
theorem jH {f:Addr}{fd fdI fdC fdDl:FuncData}(F:Fun K "is_worth" "is_worth" nP f fd)(T:oU mg fW fI fP fD fPD fS fC fDl fWo fR fM cs)(GI:zD P w K mg base CX0 2 fI fdI ["thing","lowest","highest"] wL)(kI:PySem.W.keepIn K (.ref fI)=true)(bI:Binds K fdI ["thing","lowest","highest"] [])
  (GC:zD P w K mg base CX0 3 fC fdC ["thing"] (yG vX)) (kC:PySem.W.keepIn K (.ref fC)=true) (bC:Binds K fdC ["thing"] []) (GDl:zD P w K mg base CX0 3 fDl fdDl ["thing"] (yG vB)) (kDl:PySem.W.keepIn K (.ref fDl)=true) (bDl:Binds K fdDl ["thing"] []):
  zD P w K mg base CX0 4 f fd ["word","thing"] lb:=by
 obtain⟨tm,hm⟩:=T.d.most
 refine F.ok fG (fun vs H Q E h=>?_) (fun cdv A outer s H vs Q E hr h=>?_)
 ·obtain⟨x,y,dw,dv,rfl,_⟩:=h
  rfl
 ·obtain⟨x,y,dw,dv,rfl,hx,sw,hy,q⟩:=h
  have hr2:zY 2 _:=hr.mono (by decide)
  have hu:=hr.units
  have st:∀{z:Str},z∈words→SeqAt.shaped (.str z)=true:=fun {z} hz=>nq (by
   simp only[words,zg3,zg9,zj8] at hz
   rcases hz with rfl|rfl|rfl|rfl|rfl|rfl|rfl<;>decide +kernel)
  unfold zE at q
  -- if word == 'price'
  refine yk (fun σ H1=>σ=[some x,some y]∧eqS dw "price"=false∧H=H1)
   ⟨_,xR (yt (wN hu) (pv 0) ye (zJ _)) (zx (zC (dR (wa oS (pv 1) qK (zJ _)) (xM (zM GC hr (by rfl) T.coins kC bC .nil zR (ze (pv 1) zv)))))) yz,?_⟩ ?_
  ·refine⟨_,rfl,dw,.str "price",hx,.str _,sw,st (by simp[words]),_,rfl,?_⟩
   refine yD (fun h=>?_) (fun h=>⟨rfl,zk3.mpr h,rfl⟩)
   rw[if_pos h] at q
   refine⟨_,rfl,rfl,_,rfl,?_⟩
   rw[hy.non_iff]
   refine yD (fun h2=>?_) (fun h2=>?_)
   ·rw[h2,Bool.true_or] at q
    exact q
   ·rw[zk3.mpr h2,zw8] at q
    exact⟨_,rfl,y,dv,rfl,hy,q⟩
  rintro σ H1 ⟨rfl,e1,rfl⟩
  rw[e1,if_neg zh5] at q
  -- if word == 'come' or word == 'go'
  refine yk (fun σ H1=>σ=[some x,some y]∧(eqS dw "come"||eqS dw "go")=false∧H=H1)
   ⟨_,xR (PW.pt (gH (yt (wN hu) (pv 0) ye (zJ _)) (nE (yt (wN hu) (pv 0) ye (zJ _))))) (zx (zC (yw xu (by rfl) T.d.isi zr6 (ze (pv 1) (ze (wX (v:=.ty "bool") (by rfl) T.d.bool boot_bool rfl) zv))))) yz,?_⟩ ?_
  ·refine⟨_,rfl,dw,.str "come",hx,.str _,sw,st (by simp[words]),_,rfl,?_⟩
   refine yD (fun h=>?_) (fun h=>?_)
   ·have h':eqS dw "come"=true:=h
    rw[h',Bool.true_or,if_pos rfl] at q
    exact uI ⟨_,rfl,y,"bool",dv,_,rfl,hy,tE dv,q⟩
   ·have h':eqS dw "come"=false:=zk3.mpr h
    refine⟨_,rfl,dw,.str "go",hx,.str _,sw,st (by simp[words]),_,rfl,?_⟩
    refine yD (fun h2=>?_) (fun h2=>?_)
    ·have h2':eqS dw "go"=true:=h2
     rw[h',h2',zw8,if_pos rfl] at q
     exact⟨_,rfl,y,"bool",dv,_,rfl,hy,tE dv,q⟩
    ·have h2':eqS dw "go"=false:=zk3.mpr h2
     exact⟨rfl,by rw[h',h2'];rfl,rfl⟩
  rintro σ H1 ⟨rfl,e2,rfl⟩
  rw[e2,if_neg zh5] at q
  -- if word == 'least' or word == 'most'
  refine yk (fun σ H1=>σ=[some x,some y]∧(eqS dw "least"||eqS dw "most")=false∧H=H1)
   ⟨_,xR (PW.pt (gH (yt (wN hu) (pv 0) ye (zJ _)) (nE (yt (wN hu) (pv 0) ye (zJ _))))) (zx (zC (zM GI hr2 (by rfl) T.d.within kI bI .nil zR (ze (pv 1) (ze zz (ze (vH (v:=.int 14) (by rfl) hm ⟨tm,rfl⟩) zv)))))) yz,?_⟩ ?_
  ·refine⟨_,rfl,dw,.str "least",hx,.str _,sw,st (by simp[words]),_,rfl,?_⟩
   refine yD (fun h=>?_) (fun h=>?_)
   ·have h':eqS dw "least"=true:=h
    rw[h',Bool.true_or,if_pos rfl] at q
    exact uI ⟨_,rfl,y,dv,_,_,rfl,hy,q⟩
   ·have h':eqS dw "least"=false:=zk3.mpr h
    refine⟨_,rfl,dw,.str "most",hx,.str _,sw,st (by simp[words]),_,rfl,?_⟩
    refine yD (fun h2=>?_) (fun h2=>?_)
    ·have h2':eqS dw "most"=true:=h2
     rw[h',h2',zw8,if_pos rfl] at q
     exact⟨_,rfl,y,dv,_,_,rfl,hy,q⟩
    ·have h2':eqS dw "most"=false:=zk3.mpr h2
     exact⟨rfl,by rw[h',h2'];rfl,rfl⟩
  rintro σ H1 ⟨rfl,e3,rfl⟩
  rw[e3,if_neg zh5] at q
  -- if word == 'deal'
  refine yk (fun σ H1=>σ=[some x,some y]∧eqS dw "deal"=false∧H=H1)
   ⟨_,xR (yt (wN hu) (pv 0) ye (zJ _)) (zx (zC (dR (wa oS (pv 1) qK (zJ _)) (xM (zM GDl hr (by rfl) T.deal kDl bDl .nil zR (ze (pv 1) zv)))))) yz,?_⟩ ?_
  ·refine⟨_,rfl,dw,.str "deal",hx,.str _,sw,st (by simp[words]),_,rfl,?_⟩
   refine yD (fun h=>?_) (fun h=>⟨rfl,zk3.mpr h,rfl⟩)
   rw[if_pos h] at q
   refine⟨_,rfl,rfl,_,rfl,?_⟩
   rw[hy.non_iff]
   refine yD (fun h2=>?_) (fun h2=>?_)
   ·rw[h2,Bool.true_or] at q
    exact q
   ·rw[zk3.mpr h2,zw8] at q
    exact⟨_,rfl,y,dv,rfl,hy,q⟩
  rintro σ H1 ⟨rfl,e4,rfl⟩
  rw[e4,if_neg zh5] at q
  refine⟨_,zx (zC (xm (wa (wN hu) (pv 0) ye (zJ _)) (xM (zM GC hr (by rfl) T.coins kC bC .nil zR (ze (pv 1) zv))))),?_⟩
  refine⟨_,rfl,dw,.str "fee",hx,.str _,sw,st (by simp[words]),_,rfl,?_⟩
  refine yD (fun h=>?_) (fun h=>?_)
  ·have h':eqS dw "fee"=true:=h
   rw[h',zn0] at q
   exact⟨_,rfl,y,dv,rfl,hy,q⟩
  ·have h':eqS dw "fee"=false:=zk3.mpr h
   rw[h',zl8] at q
   exact q
theorem iT :zm ["thing"] ["thing"] (zc qj):=⟨rfl,rfl,rfl,by decide +kernel,rfl,by decide +kernel,by decide +kernel⟩
theorem lK {f:Addr}{fd fdS fdWo:FuncData}(F:Fun K "is_rule" "is_rule" qj f fd)(T:oU mg fW fI fP fD fPD fS fC fDl fWo fR fM cs)(GS:zD P w K mg base CX0 5 fS fdS ["thing"] (yG yh))(kS:PySem.W.keepIn K (.ref fS)=true)(bS:Binds K fdS ["thing"] [])
  (GW:zD P w K mg base CX0 4 fWo fdWo ["word","thing"] lb) (kW:PySem.W.keepIn K (.ref fWo)=true) (bW:Binds K fdWo ["word","thing"] []):zD P w K mg base CX0 6 f fd ["thing"] jF:=by
 refine F.ok iT (fun vs H Q E h=>?_) (fun cdv A outer s H vs Q E hr h=>?_)
 ·obtain⟨x,d,rfl,_⟩:=h
  rfl
 ·obtain⟨x,d,rfl,hd,sd,q⟩:=h
  have hr4:zY 4 _:=hr.mono (by decide)
  refine⟨_,zx (zC (xm (yw xu (by rfl) T.d.isi zr6 (ze (pv 0) (ze (wX (v:=.ty "tuple") (by rfl) T.d.tuple boot_tuple rfl) zv)))
   (xm (wa wu (yw xZ (by rfl) T.d.len PySem.boot_len (ze (pv 0) zv)) zz (zJ _))
   (xm (zM GS hr (by rfl) T.stretch kS bS .nil zR (ze (oY (ze (yo yv (pv 0) zz (fun _ _=>rfl)) (ze (yo yv (pv 0) zz (fun _ _=>rfl)) zv))) zv))
   (xM (zM GW hr4 (by rfl) T.worth kW bW .nil zR (ze (yo yv (pv 0) zz (fun _ _=>rfl)) (ze (yo yv (pv 0) zz (fun _ _=>rfl)) zv)))))))),?_⟩
  refine⟨_,rfl,x,"tuple",d,_,rfl,hd,rH d,_,rfl,?_⟩
  cases hd with
  |@tup a xs ds e hs=>
   refine uI ⟨_,rfl,a,_,rfl,.inr (SqT.of e),rfl,_,rfl,?_⟩
   cases hs with
   |nil=>exact yD (fun h=>absurd h (by simp)) (fun _=>q H (zq.refl H))
   |@cons xw _ dw _ hw hs=>
   cases hs with
   |nil=>exact yD (fun h=>absurd h (by simp)) (fun _=>q H (zq.refl H))
   |@cons xa _ da _ ha hs=>
   cases hs with
   |nil=>exact yD (fun h=>absurd h (by simp)) (fun _=>q H (zq.refl H))
   |@cons xb _ db _ hb hs=>
   cases hs with
   |nil=>exact yD (fun h=>absurd h (by simp)) (fun _=>q H (zq.refl H))
   |@cons xv _ dv _ hv hs=>
   cases hs with
   |cons _ _=>exact yD (fun h=>absurd h (by simp;omega)) (fun _=>q H (zq.refl H))
   |nil=>
    refine yD (fun _=>?_) (fun h=>absurd rfl h)
    refine⟨_,rfl,a,_,1,_,rfl,rfl,SqT.of e,rfl,_,rfl,a,_,2,_,rfl,rfl,SqT.of e,rfl,(by show 2≤sizeLine;decide),fun p hp=>?_⟩
    have s1:zq H (upd H p (.tup [xa,xb])):=zP hp
    refine⟨_,.tuple [da,db],rfl,.tup zj (.cons (ha.same s1) (.cons (hb.same s1) .nil)),_,rfl,?_⟩
    have q':Q (.bl (yh (.tuple [da,db])&&zE dw dv)) (upd H p (.tup [xa,xb])):=q _ s1
    refine yD (fun h=>?_) (fun h=>?_)
    ·rw[h,zn0] at q'
     exact⟨_,rfl,a,_,0,_,rfl,rfl,SqT.of (s1 _ _ e),rfl,_,rfl,a,_,3,_,rfl,rfl,SqT.of (s1 _ _ e),rfl,_,_,_,_,rfl,hw.same s1,qO sd dw (by simp),hv.same s1,q'⟩
    ·rw[zk3.mpr h,zl8] at q'
     exact q'
  |_=>exact sr (q H (zq.refl H))
end
section
variable {P:Program}{w:World}{K:PySem.W.Frag}{mg:Str→Option Value}{base:Heap}{fW fI fP fD fPD fS fC fDl fWo fR fM:Addr}{cs:Cs}
structure jJ (K:PySem.W.Frag)(cs:Cs)(fIn fTo fTe w1 w2 w3 w4 w5 w6 w7:Addr):Prop where
 price:xN K cs.price fIn fTo fTe w1
 come:xN K cs.come fIn fTo fTe w2
 go:xN K cs.go fIn fTo fTe w3
 least:xN K cs.least fIn fTo fTe w4
 most:xN K cs.most fIn fTo fTe w5
 deal:xN K cs.deal fIn fTo fTe w6
 fee:xN K cs.fee fIn fTo fTe w7
theorem wM (cs:Cs):cs.of "price"=cs.price:=by unfold Cs.of;rw[if_pos rfl]
theorem vN (cs:Cs):cs.of "come"=cs.come:=by unfold Cs.of;rw[if_neg (by decide +kernel),if_pos rfl]
theorem pe (cs:Cs):cs.of "go"=cs.go:=by unfold Cs.of;rw[if_neg (by decide +kernel),if_neg (by decide +kernel),if_pos rfl]
theorem wB (cs:Cs):cs.of "least"=cs.least:=by unfold Cs.of;rw[if_neg (by decide +kernel),if_neg (by decide +kernel),if_neg (by decide +kernel),if_pos rfl]
theorem vF (cs:Cs):cs.of "most"=cs.most:=by unfold Cs.of;rw[if_neg (by decide +kernel),if_neg (by decide +kernel),if_neg (by decide +kernel),if_neg (by decide +kernel),if_pos rfl]
theorem vL (cs:Cs):cs.of "deal"=cs.deal:=by unfold Cs.of;rw[if_neg (by decide +kernel),if_neg (by decide +kernel),if_neg (by decide +kernel),if_neg (by decide +kernel),if_neg (by decide +kernel),if_pos rfl]
theorem sA (cs:Cs):cs.of "fee"=cs.fee:=by unfold Cs.of;rw[if_neg (by decide +kernel),if_neg (by decide +kernel),if_neg (by decide +kernel),if_neg (by decide +kernel),if_neg (by decide +kernel),if_neg (by decide +kernel)]
theorem vP {x y:Str}(h:decide (V.str x=V.str y)=true):x=y:=by
 have:=zq3 h
 injection this
theorem uc {x y:Str}(h:¬decide (V.str x=V.str y)=true):x≠y:=fun e=>h (by rw[e];exact zk1 rfl)
theorem xA {C p dx:Addr}{H:Hp}{x y z:V}{Q:VK}(k:∀(p dx:Addr) (H':Hp),H' p=some (.ins C dx (wz x y z))→H p=none→zq H H'→Q (.ref p) H')(hp:H p=none)(hx:H dx=none)(n:dx≠p):
  Q (.ref p) (upd (upd (upd H dx (.own p)) p (.ins C dx [])) p (.ins C dx (wz x y z))):=by
 refine k p dx _ zj hp fun a o e=>?_
 rw[qM,zk (zo e hp),zk (zo e hx)]
 exact e
theorem cZ :zm ["word","first","last","worth"] ["word","first","last","worth"] (zc js):=⟨rfl,rfl,rfl,by decide +kernel,rfl,by decide +kernel,by decide +kernel⟩
set_option maxHeartbeats 4000000 in
theorem fj {f fIn fTo fTe w1 w2 w3 w4 w5 w6 w7:Addr}{fd fdIn:FuncData}(F:Fun K "made" "made" js f fd)(T:oU mg fW fI fP fD fPD fS fC fDl fWo fR fM cs)(A7:jJ K cs fIn fTo fTe w1 w2 w3 w4 w5 w6 w7)
  (FI:Fun K "__init__" "Rule.__init__" ml fIn fdIn) (bI:Binds K fdIn ["self","first","last","worth"] []):zD P w K mg base CX0 3 f fd ["word","first","last","worth"] (gk cs):=by
 refine F.ok cZ (fun vs H Q E h=>?_) (fun cdv A outer s H vs Q E hr h=>?_)
 ·obtain⟨wd,x,y,z,rfl,_⟩:=h
  rfl
 ·obtain⟨wd,x,y,z,rfl,hw,k⟩:=h
  refine yk (fun σ H1=>σ=[some (.str wd),some x,some y,some z]∧wd≠"price"∧H=H1)
   ⟨_,xR (yt wu (pv 0) ye (zJ _)) (zx (zC (xI A7.price.makes (wo FI A7.price) hr (by rfl) T.cPrice bI .nil zR (ze (pv 1) (ze (pv 2) (ze (pv 3) zv)))))) yz,?_⟩ ?_
  ·refine⟨_,rfl,rfl,_,rfl,yD (fun h=>?_) (fun h=>⟨rfl,uc h,rfl⟩)⟩
   rw[vP h,wM] at k
   exact⟨_,rfl,_,rfl,_,rfl,fun p dx hp hx n=>⟨p,dx,_,_,_,rfl,zj,rfl,xA k hp hx n⟩⟩
  rintro σ H1 ⟨rfl,n1,rfl⟩
  refine yk (fun σ H1=>σ=[some (.str wd),some x,some y,some z]∧wd≠"come"∧H=H1)
   ⟨_,xR (yt wu (pv 0) ye (zJ _)) (zx (zC (xI A7.come.makes (wo FI A7.come) hr (by rfl) T.cCome bI .nil zR (ze (pv 1) (ze (pv 2) (ze (pv 3) zv)))))) yz,?_⟩ ?_
  ·refine⟨_,rfl,rfl,_,rfl,yD (fun h=>?_) (fun h=>⟨rfl,uc h,rfl⟩)⟩
   rw[vP h,vN] at k
   exact⟨_,rfl,_,rfl,_,rfl,fun p dx hp hx n=>⟨p,dx,_,_,_,rfl,zj,rfl,xA k hp hx n⟩⟩
  rintro σ H1 ⟨rfl,n2,rfl⟩
  refine yk (fun σ H1=>σ=[some (.str wd),some x,some y,some z]∧wd≠"go"∧H=H1)
   ⟨_,xR (yt wu (pv 0) ye (zJ _)) (zx (zC (xI A7.go.makes (wo FI A7.go) hr (by rfl) T.cGo bI .nil zR (ze (pv 1) (ze (pv 2) (ze (pv 3) zv)))))) yz,?_⟩ ?_
  ·refine⟨_,rfl,rfl,_,rfl,yD (fun h=>?_) (fun h=>⟨rfl,uc h,rfl⟩)⟩
   rw[vP h,pe] at k
   exact⟨_,rfl,_,rfl,_,rfl,fun p dx hp hx n=>⟨p,dx,_,_,_,rfl,zj,rfl,xA k hp hx n⟩⟩
  rintro σ H1 ⟨rfl,n3,rfl⟩
  refine yk (fun σ H1=>σ=[some (.str wd),some x,some y,some z]∧wd≠"least"∧H=H1)
   ⟨_,xR (yt wu (pv 0) ye (zJ _)) (zx (zC (xI A7.least.makes (wo FI A7.least) hr (by rfl) T.cLeast bI .nil zR (ze (pv 1) (ze (pv 2) (ze (pv 3) zv)))))) yz,?_⟩ ?_
  ·refine⟨_,rfl,rfl,_,rfl,yD (fun h=>?_) (fun h=>⟨rfl,uc h,rfl⟩)⟩
   rw[vP h,wB] at k
   exact⟨_,rfl,_,rfl,_,rfl,fun p dx hp hx n=>⟨p,dx,_,_,_,rfl,zj,rfl,xA k hp hx n⟩⟩
  rintro σ H1 ⟨rfl,n4,rfl⟩
  refine yk (fun σ H1=>σ=[some (.str wd),some x,some y,some z]∧wd≠"most"∧H=H1)
   ⟨_,xR (yt wu (pv 0) ye (zJ _)) (zx (zC (xI A7.most.makes (wo FI A7.most) hr (by rfl) T.cMost bI .nil zR (ze (pv 1) (ze (pv 2) (ze (pv 3) zv)))))) yz,?_⟩ ?_
  ·refine⟨_,rfl,rfl,_,rfl,yD (fun h=>?_) (fun h=>⟨rfl,uc h,rfl⟩)⟩
   rw[vP h,vF] at k
   exact⟨_,rfl,_,rfl,_,rfl,fun p dx hp hx n=>⟨p,dx,_,_,_,rfl,zj,rfl,xA k hp hx n⟩⟩
  rintro σ H1 ⟨rfl,n5,rfl⟩
  refine yk (fun σ H1=>σ=[some (.str wd),some x,some y,some z]∧wd≠"deal"∧H=H1)
   ⟨_,xR (yt wu (pv 0) ye (zJ _)) (zx (zC (xI A7.deal.makes (wo FI A7.deal) hr (by rfl) T.cDeal bI .nil zR (ze (pv 1) (ze (pv 2) (ze (pv 3) zv)))))) yz,?_⟩ ?_
  ·refine⟨_,rfl,rfl,_,rfl,yD (fun h=>?_) (fun h=>⟨rfl,uc h,rfl⟩)⟩
   rw[vP h,vL] at k
   exact⟨_,rfl,_,rfl,_,rfl,fun p dx hp hx n=>⟨p,dx,_,_,_,rfl,zj,rfl,xA k hp hx n⟩⟩
  rintro σ H1 ⟨rfl,n6,rfl⟩
  have e7:wd="fee":=by
   simp only[words,zg3,zg9,zj8] at hw
   rcases hw with e|e|e|e|e|e|e
   ·exact absurd e n1
   ·exact absurd e n2
   ·exact absurd e n3
   ·exact absurd e n4
   ·exact absurd e n5
   ·exact absurd e n6
   ·exact e
  rw[e7,sA] at k
  refine⟨_,zx (zC (xI A7.fee.makes (wo FI A7.fee) hr (by rfl) T.cFee bI .nil zR (ze (pv 1) (ze (pv 2) (ze (pv 3) zv))))),?_⟩
  exact⟨_,rfl,_,rfl,_,rfl,fun p dx hp hx n=>⟨p,dx,_,_,_,rfl,zj,rfl,xA k hp hx n⟩⟩
theorem jn :zm ["thing"] ["thing"] (zc rX):=⟨rfl,rfl,rfl,by decide +kernel,rfl,by decide +kernel,by decide +kernel⟩
theorem lL {f:Addr}{fd fdR fdM:FuncData}(F:Fun K "rule_of" "rule_of" rX f fd)(T:oU mg fW fI fP fD fPD fS fC fDl fWo fR fM cs)(GR:zD P w K mg base CX0 6 fR fdR ["thing"] jF)(kR:PySem.W.keepIn K (.ref fR)=true)(bR:Binds K fdR ["thing"] [])
  (GM:zD P w K mg base CX0 3 fM fdM ["word","first","last","worth"] (gk cs)) (kM:PySem.W.keepIn K (.ref fM)=true) (bM:Binds K fdM ["word","first","last","worth"] []):zD P w K mg base CX0 7 f fd ["thing"] (oA cs):=by
 refine F.ok jn (fun vs H Q E h=>?_) (fun cdv A outer s H vs Q E hr h=>?_)
 ·obtain⟨x,d,rfl,_⟩:=h
  rfl
 ·obtain⟨x,d,rfl,hd,sd,k0,k1⟩:=h
  have hr3:zY 3 _:=hr.mono (by decide)
  refine yk (fun σ H1=>σ=[some x]∧yi d=true∧zq H H1)
   ⟨_,xR (iL (iM (zM GR hr (by rfl) T.rule kR bR .nil zR (ze (pv 0) zv)))) (zx (zC qK)) yz,?_⟩ ?_
  ·refine⟨_,rfl,x,d,rfl,hd,sd,fun H1 s1=>⟨_,rfl,?_⟩⟩
   refine yD (fun h=>?_) (fun h=>?_)
   ·exact k0 (by simpa using h) H1 s1
   ·exact⟨rfl,by simpa using h,s1⟩
  rintro σ H1 ⟨rfl,er,s1⟩
  obtain⟨sw,da,db,dv,hsw,rfl⟩:=xH er
  cases hd with
  |@tup r xs ds e hs=>
   cases hs with
   |@cons xw _ _ _ hw hs=>
    cases hw
    cases hs with
    |@cons xa _ _ _ ha hs=>
     cases hs with
     |@cons xb _ _ _ hb hs=>
      cases hs with
      |@cons xv _ _ _ hv hs=>
       cases hs
       have e1:=s1 _ _ e
       refine⟨_,zx (zC (zM GM hr3 (by rfl) T.made kM bM .nil zR (ze (yo yv (pv 0) zz (fun _ _=>rfl)) (ze (yo yv (pv 0) zz (fun _ _=>rfl)) (ze (yo yv (pv 0) zz (fun _ _=>rfl)) (ze (yo yv (pv 0) zz (fun _ _=>rfl)) zv)))))),?_⟩
       refine⟨_,rfl,r,_,0,_,rfl,rfl,SqT.of e1,rfl,_,rfl,r,_,1,_,rfl,rfl,SqT.of e1,rfl,_,rfl,r,_,2,_,rfl,rfl,SqT.of e1,rfl,_,rfl,r,_,3,_,rfl,rfl,SqT.of e1,rfl,sw,_,_,_,rfl,hsw,fun p dx H2 h2 hp s2=>?_⟩
       exact k1 r sw xa xb xv p dx H2 rfl er hsw e h2 (s1.free hp) (s1.trans s2)
end
abbrev jz :Stmt:=top 34
abbrev xj :Stmt:=inClass (top 33) 0
abbrev wO :Stmt:=inClass (top 33) 1
def sq (C:Addr)(a b v:PyData):PyData:=wJ C [(.str "first",a),(.str "last",b),(.str "worth",v)]
def uA (cs:Cs):PyData→PyData
 |.tuple [.str w,a,b,v]=>sq (cs.of w) a b v
 |_=>.none
def wx (C:Addr)(cs:Cs)(ds:List PyData):PyData:=wJ C [(.str "kept",.list (ds.map (uA cs)))]
def Rules (ds:List PyData):Prop:=∀d∈ds,yi d=true∧SeqAt.shaped d=true∧d.hasDict=false
def su (cs:Cs):List A→(A→Prop)→Prop:=fun as Q=>∃d,as=[.dat d]∧d.hasDict=false∧SeqAt.shaped d=true∧(yi d=false→Q (.dat .none))∧(yi d=true→Q (.dat (uA cs d)))
def oP (cs:Cs):List A→(A→Prop)→Prop:=fun as Q=>∃ds,as=[.dat (.list ds)]∧Rules ds∧ds.length≤24∧Q (.own (ds.map (uA cs)))
def qG (C:Addr)(cs:Cs):List A→(A→Prop)→Prop:=fun as Q=>∃ds,(as=[.dat (.list ds)]∨(as=[.dat .none]∧ds=[]))∧Rules ds∧ds.length≤24∧Q (.dat (wx C cs ds))
def oR (C:Addr)(w:Str):List A→(A→Prop)→Prop:=fun as Q=>∃a b v,as=[.dat (sq C a b v)]∧Q (.dat (.tuple [.str w,a,b,v]))
def uX (C:Addr)(cs:Cs):List A→(A→Prop)→Prop:=fun as Q=>∃ds,as=[.dat (wx C cs ds)]∧Rules ds∧ds.length≤1000∧Q (.own ds)
theorem qB (x y z:V):wz x y z=[(("first":Str),x),(("last":Str),y),(("worth":Str),z)]:=by
 unfold wz
 show xF "worth" z (if ("first":Str)="last" then _ else _)=_
 rw[if_neg (fun e=>gB e.symm)]
 show (if ("first":Str)="worth" then _ else _)=_
 rw[if_neg (fun e=>iq e.symm)]
 show _::(if ("last":Str)="worth" then _ else _)=_
 rw[if_neg (fun e=>ie e.symm)]
 rfl
theorem vo {cs:Cs}{d:PyData}(h:yi d=true):∃(s:Str) (a b v:PyData),s∈words∧d=.tuple [.str s,a,b,v]∧uA cs d=sq (cs.of s) a b v:=by
 obtain⟨s,a,b,v,hs,rfl⟩:=xH h
 exact⟨s,a,b,v,hs,rfl,rfl⟩
def gu :Scope:=match zI wO with
 |[.Return (some (.ListComp _ _ sc _)) _]=>sc
 |_=>zc wO
section
variable {P:Program}{w:World}{K:PySem.W.Frag}{mg:Str→Option Value}{base:Heap}{cs:Cs}
theorem oW {k:Nat}{f:Addr}{fd:FuncData}{ps:List Str}(hm:mg "rule_of"=some (.ref f))(hk:PySem.W.keepIn K (.ref f)=true)(hb:Binds K fd ps [])(G:zD P w K mg base CX0 k f fd ps (oA cs)):Cal P w K mg base "rule_of" k (su cs):=by
 refine⟨f,fd,_,hm,hk,hb,G.imp fun vs H Q E h=>?_⟩
 obtain⟨F,as,Q',rfl,t,o,rv,⟨d,rfl,nd,sh,q0,q1⟩,kk⟩:=h
 obtain⟨x,rfl,av⟩:=rv.one
 have oo:∀{a:Addr},F.H0 a=none→¬F.O0 a:=fun {a} e z=>by
  obtain⟨u,hu,_⟩:=o a z
  rw[e] at hu;cases hu
 refine⟨x,d,rfl,(av.dv nd).same xV,sh,fun hr H' s=>kk _ _ _ (q0 hr) ⟨t.same s,Kz.of_same s,.non⟩,fun r wd x1 x2 x3 p dx H' hx hr hw he hp' hp s=>kk _ _ _ (q1 hr) ⟨t.same s,Kz.of_same s,?_⟩⟩
 subst hx
 obtain⟨s',a,b,v,_,rfl⟩:=xH hr
 obtain⟨r',xs,e1,e2,e3⟩:=av.tup_inv
 cases e1
 have e4:=(zg e2).2
 rw[he] at e4
 cases e4
 have gs:zq (sub (fun x=>¬F.O0 x) F.H0) (sub (fun x=>¬F.O0 x) H'):=zu fun a u h e=>⟨h,s _ _ e⟩
 cases e3 with
 |cons g1 e3=>
  cases g1.str_inv
  cases e3 with
  |cons g2 e3=>
   cases e3 with
   |cons g3 e3=>
    cases e3 with
    |cons g4 e3=>
     cases e3
     rw[qB] at hp'
     exact .ins (zT (oo hp) hp') (.cons (g2.same gs) (.cons (g3.same gs) (.cons (g4.same gs) .nil)))
theorem yW {C f fIn fE fWd:Addr}{fd:FuncData}{wd:Str}(R:xN K C fIn f fE fWd)(hb:Binds K fd ["self"] [])(G:zD P w K mg base CX0 2 f fd ["self"] (jx C wd)):wy P w K mg base C "told" 2 (oR C wd):=by
 refine⟨f,fd,_,R.cl,R.told,hb,G.imp fun vs H Q E h=>?_⟩
 obtain⟨F,as,Q',rfl,t,o,rv,⟨a,b,v,rfl,q⟩,kk⟩:=h
 obtain⟨x,rfl,av⟩:=rv.one
 obtain⟨p,dx,fs,rfl,h1,h2⟩:=av.ins_inv
 cases h2 with
 |cons g1 h2=>
  cases h2 with
  |cons g2 h2=>
   cases h2 with
   |cons g3 h2=>
    cases h2
    refine⟨p,dx,_,_,_,rfl,by rw[qB];exact (zg h1).2,fun r hr=>kk _ _ _ q ⟨t.same (zP hr),Kz.of_same (zP hr),?_⟩⟩
    have gs:∀o':HO,zq (sub (fun x=>¬F.O0 x) F.H0) (sub (fun x=>¬F.O0 x) (upd F.H0 r o')):=fun o'=>zu fun a u h e=>⟨h,by rw[zk (zo e hr)];exact e⟩
    refine .tup (zT (fun z=>?_) zj) (.cons (.str _) (.cons (g1.same (gs _)) (.cons (g2.same (gs _)) (.cons (g3.same (gs _)) .nil))))
    obtain⟨u,hu,_⟩:=o r z
    rw[hr] at hu;cases hu
theorem gR :zm ["things","kept","number","thing","rule"] ["things"] (zc jz):=⟨rfl,rfl,rfl,by decide +kernel,rfl,by decide +kernel,by decide +kernel⟩
set_option maxHeartbeats 4000000 in
theorem gx {f:Addr}{fd:FuncData}(F:Fun K "kept_rules" "kept_rules" jz f fd)(hm:mg "kept_rules"=some (.ref f))(hb:Binds K fd ["things"] [])(nb:NbT mg)(gM:∃t,mg "MOST_RULES"=some (.int 24 t))(CRO:Cal P w K mg base "rule_of" 7 (su cs)):Cal P w K mg base "kept_rules" 8 (oP cs):=by
 refine vR F hm hb gR (fun as Q h=>?_) (fun cdv A' outer s H E as Q hr h=>?_)
 ·obtain⟨ds,rfl,_⟩:=h
  rfl
 ·obtain⟨ds,rfl,rd,hl,q⟩:=h
  refine yF 1 gR.nd (zX (zh (⟨_,rfl,zi1 rfl,?_⟩)))
  refine qw (pat:=.many [2,3]) zt5 rfl (tN (n:=2) (K:=K) rfl rfl (yM (yr (i:=2) gR.nd rfl (Or.inl rfl)) (yM (yr (i:=3) gR.nd rfl (Or.inl rfl)) (uW)))) (dH (by rfl) nb.enumerate (zf 0 rfl (⟨_,rfl,?_⟩)))
  refine yn (fun i α=>∃v2 v3 v4,α=[some (.dat (.list ds)),some (.own ((ds.take i).map (uA cs))),v2,v3,v4]) ⟨none,none,none,rfl⟩ ?_ ?_
  ·rintro i d α hd ⟨v2,v3,v4,rfl⟩
   obtain⟨e,he,rfl⟩:=vV hd
   obtain⟨r1,r2,r3⟩:=rd e (zj7 he)
   have hi:i<ds.length:=(zh1.mp he).1
   refine⟨_,rfl,?_⟩
   refine zS 4 gR.nd (zB CRO hr (by rfl) (zb (zf 3 rfl (zh (⟨_,rfl,r3,r2,fun z=>(by rw[r1] at z;cases z),fun _=>?_⟩)))))
   refine yP (qm (zf 4 rfl ?_))
   obtain⟨s',a,b,v,hs,rfl,ei⟩:=vo (cs:=cs) r1
   refine yA (fun h=>by rw[show (A.dat (uA cs (.tuple [.str s',a,b,v]))).d=sq (cs.of s') a b v from rfl] at h;cases h) (fun _=>zt ?_)
   refine um 1 rfl (zf 4 rfl ⟨by rw[zh4,zm8];omega,?_⟩)
   refine zt ⟨some (.dat (.int ((0+i:Nat):Int))),some (.dat (.tuple [.str s',a,b,v])),some (.dat (uA cs (.tuple [.str s',a,b,v]))),?_⟩
   rw[zp2,he,List.map_append]
   rfl
  ·rintro α ⟨v2,v3,v4,rfl⟩
   rw[uh,zm9]
   refine yP (uS 1 rfl (cc (vT (by rfl) nb.len (zf 1 rfl ⟨_,rfl,iE (by rfl) gM ⟨_,_,rfl,rfl,?_⟩⟩))))
   refine nk (fun h=>?_) (fun _=>zt ?_)
   ·rw[zh4] at h
    omega
   ·exact uT 1 rfl q
theorem zf8 :zm ["self","rules"] ["self","rules"] (zc xj):=⟨rfl,rfl,rfl,by decide +kernel,rfl,by decide +kernel,by decide +kernel⟩
theorem rN {w' v:PyData}(h:zE w' v=true):noL v=true:=by
 have wi:∀{lo hi:Int} {x:PyData},zV lo hi x=true→noL x=true:=fun {lo hi x} h=>by
  cases x with
  |int i=>rfl
  |_=>cases h
 have nn:∀{x:PyData},isNone x=true→noL x=true:=fun {x} h=>by
  cases x with
  |none=>rfl
  |_=>cases h
 unfold zE at h
 split at h
 ·rcases (zn7 _ _).mp h with h|h
  ·exact nn h
  ·exact wi h
 ·split at h
  ·cases v with
   |bool b=>rfl
   |_=>cases h
  ·split at h
   ·exact wi h
   ·split at h
    ·rcases (zn7 _ _).mp h with h|h
     ·exact nn h
     ·unfold vB at h
      split at h
      ·rw[zi9] at h
       simp only[noL,noLs,wi h.2,Bool.and_self]
      ·cases h
    ·rw[zi9] at h
     exact wi h.2
theorem iK {s':Str}{a b v:PyData}(h:yi (.tuple [.str s',a,b,v])=true):noL a=true∧noL b=true∧noL v=true:=by
 have h':(yh (.tuple [a,b])&&zE (.str s') v)=true:=h
 rw[zi9] at h'
 refine⟨?_,?_,rN h'.2⟩
 ·have:=h'.1
  unfold yh sO at this
  split at this
  ·rename_i k e
   split at e
   ·rename_i z;cases z;rfl
   ·cases e
  ·cases this
 ·have:=h'.1
  unfold yh sO at this
  split at this
  ·rename_i k e
   split at e
   ·rename_i z;cases z;rfl
   ·cases e
  ·cases this
theorem oi {ds:List PyData}(rd:Rules ds):noLs (ds.map (uA cs))=true:=by
 induction ds with
 |nil=>rfl
 |cons d r ih=>
  have ih':=ih fun x hx=>rd x (zg7 _ hx)
  have h1:=(rd d zh3).1
  obtain⟨s',a,b,v,hs,rfl,ei⟩:=vo (cs:=cs) h1
  obtain⟨z1,z2,z3⟩:=iK h1
  rw[zl3,ei]
  simp only[noLs,ih',Bool.and_true]
  simp[sq,wJ,noL,nM,z1,z2,z3]
theorem gE {f C:Addr}{dV:Value}{fd:FuncData}(F:cC K "__init__" "Book.__init__" xj dV f fd)(c:Cls K C)(na:yE K C "kept")(CK:Cal P w K mg base "kept_rules" 8 (oP cs)):zD P w K mg base CX0 9 f fd ["self","rules"] (spI C (qG C cs)):=by
 refine aI (N:=[]) F zf8 c na rfl (fun as Q h=>?_) (fun cdv A' outer s H E as Q hr h=>?_) (fun _ _ _ _ _ _=>rfl) (Or.inl rfl)
 ·obtain⟨ds,h|⟨h,_⟩,_⟩:=h<;>rw[h]<;>rfl
 ·obtain⟨ds,h|⟨h,hz⟩,rd,hl,q⟩:=h
  ·subst h
   exact vn CK hr (by rfl) (zb (nK (qm (zf 1 rfl (sr (zf 1 rfl (zh ⟨_,rfl,rd,hl,_,rfl,oi rd,q⟩)))))))
  ·subst h hz
   exact vn CK hr (by rfl) (zb (nK (qm (zf 1 rfl (uI (EvL.d (zX (zh ⟨_,rfl,zi1 rfl,zh ⟨[],rfl,rd,hl,_,rfl,oi rd,q⟩⟩))))))))
theorem ze4 :zm ["self"] ["self"] (zc wO):=⟨rfl,rfl,rfl,by decide +kernel,rfl,by decide +kernel,by decide +kernel⟩
theorem zc9 :yp ["self"] (zc wO) ["rule"] [none] gu:=⟨rfl,by decide +kernel,by decide +kernel,by decide +kernel,by decide +kernel,rfl,by decide +kernel⟩
set_option maxHeartbeats 4000000 in
theorem kT {f C:Addr}{fd:FuncData}(F:Fun K "rules" "Book.rules" wO f fd)(c:Cls K C)(na:yE K C "kept")(hb:Binds K fd ["self"] [])(O:∀w'∈words,wy P w K mg base (cs.of w') "told" 2 (oR (cs.of w') w')):zD P w K mg base CX0 3 f fd ["self"] (spA (uX C cs)):=by
 refine fnA F ze4 (fun as Q h=>?_) (fun cdv A' outer s H E as Q hr h=>?_)
 ·obtain⟨ds,rfl,_⟩:=h
  rfl
 ·obtain⟨ds,rfl,rd,hl,q⟩:=h
  refine uQ (zb4 (pat:=.one 0) rfl zc9 rfl (fun _ _ _ _=>yr (i:=0) zc9.nd rfl (Or.inl rfl)) (wb (nR c na (zf 0 rfl ⟨_,_,rfl,rfl,⟨_,rfl,by rw[zh4];exact hl,?comp⟩⟩))))
  case comp=>
   refine lH (fun i acc=>acc=ds.take i) rfl ?_ (fun acc h=>?_)
   ·rintro i d acc hd rfl
    rw[zi6,zj0] at hd
    obtain⟨e,he,rfl⟩:=hd
    obtain⟨s',a,b,v,hs,rfl,ei⟩:=vo (cs:=cs) (rd e (zj7 he)).1
    refine⟨_,rfl,fun C s2 H2 fp=>bQ ?_⟩
    rw[if_pos rfl]
    refine fun C s2 H2 fp=>tD (O s' hs) hr (zf 0 rfl ⟨_,rfl,rfl,_,_,_,rfl,?_⟩)
    show ds.take i++[_]=ds.take (i+1)
    rw[zp2,he]
    rfl
   ·rw[zh4,zm9] at h
    rw[h]
    exact q
end
abbrev qp :Stmt:=inClass (top 33) 2
abbrev nH :Stmt:=top 24
def tbU :List (Str×V):=[("price",.non),("come",.bl true),("go",.bl true),("least",.int 1),("most",.int 14),("deal",.non),("fee",.int 0)]
def qW (x:Str):PyData:=if x="price"∨x="deal" then .none else if x="come"∨x="go" then .bool true else if x="least" then .int 1 else if x="most" then .int 14 else .int 0
theorem iZ {x:Str}(h:x∈words):∃v,tbU.lookup x=some v∧scV (qW x)=some v:=by
 simp only[words,zg3,zg9,zj8] at h
 rcases h with rfl|rfl|rfl|rfl|rfl|rfl|rfl
 ·exact⟨.non,by decide +kernel,by decide +kernel⟩
 ·exact⟨.bl true,by decide +kernel,by decide +kernel⟩
 ·exact⟨.bl true,by decide +kernel,by decide +kernel⟩
 ·exact⟨.int 1,by decide +kernel,by decide +kernel⟩
 ·exact⟨.int 14,by decide +kernel,by decide +kernel⟩
 ·exact⟨.non,by decide +kernel,by decide +kernel⟩
 ·exact⟨.int 0,by decide +kernel,by decide +kernel⟩
theorem gm (x:Str):zW 5000 (qW x):=by
 have b0:(0:Int)<big:=by decide +kernel
 have b1:(14:Int)<big:=by decide +kernel
 have i1:∀i:Int,0≤i→i≤14→zW 5000 (.int i):=fun i h0 h1=>(zW.int (by omega) (by omega)).mono (by decide)
 unfold qW
 split
 ·exact zW.none.mono (by decide)
 ·split
  ·exact (zW.bool _).mono (by decide)
  ·split
   ·exact i1 _ (by decide) (by decide)
   ·split
    ·exact i1 _ (by decide) (by decide)
    ·exact i1 _ (by decide) (by decide)
def xW (w:Str)(day:Int):PyData→Bool
 |.tuple [.str x,.int a,.int b,_]=>decide (x=w)&&(decide (a≤day)&&decide (day≤b))
 |_=>false
def rQ :PyData→PyData
 |.tuple [_,_,_,v]=>v
 |_=>.none
def zy (ds:List PyData)(w:Str)(day:Int):PyData:=match ds.reverse.find? (xW w day) with
 |some d=>rQ d
 |none=>qW w
theorem pU (ds:List PyData)(d:PyData)(w:Str)(day:Int):zy (ds++[d]) w day=if xW w day d=true then rQ d else zy ds w day:=by
 unfold zy
 rw[zr1,List.reverse_singleton,List.singleton_append,zl2]
 cases xW w day d<;>simp
theorem sf {p:PyData→Bool}{e:PyData}:∀{l:List PyData} {i:Nat},(∀j<i,∀d,l[j]?=some d→p d=false)→l[i]?=some e→p e=true→l.find? p=some e
 |[],i,_,h,_=>by simp at h
 |d::l,0,_,h,q=>by
  simp at h;subst h
  simp[zl2,q]
 |d::l,i+1,a,h,q=>by
  have hd:=a 0 (Nat.succ_pos _) d rfl
  rw[zl2,hd]
  exact sf (i:=i) (fun j hj x hx=>a (j+1) (Nat.succ_lt_succ hj) x (by simpa using hx)) (by simpa using h) q
theorem fH {p:PyData→Bool}{l:List PyData}(h:∀(j:Nat) d,l[j]?=some d→p d=false):l.find? p=none:=by
 rw[List.find?_eq_none]
 intro x hx
 obtain⟨j,hj⟩:=List.mem_iff_getElem?.mp hx
 rw[h j x hj];simp
theorem yu {d:PyData}(h:yi d=true):∃(s:Str) (i j:Int) (v:PyData),s∈words∧d=.tuple [.str s,.int i,.int j,v]∧0≤i∧i≤j∧j≤1000000∧zE (.str s) v=true:=by
 obtain⟨s,a,b,v,hs,rfl⟩:=xH h
 have h':(yh (.tuple [a,b])&&zE (.str s) v)=true:=h
 rw[zi9] at h'
 have h1:=h'.1
 unfold yh sO at h1
 split at h1
 ·rename_i k e
  split at e
  ·rename_i z
   cases z
   split at e
   ·rename_i q
    cases e
    rw[zi9] at q
    rename_i a' b'
    have qa:(decide (0≤a')&&decide (a'≤1000000))=true:=q.1
    have qb:(decide (0≤b')&&decide (b'≤1000000))=true:=q.2
    rw[zi9,zk4,zk4] at qa qb
    have h2:=zq3 h1
    exact⟨s,a',b',v,hs,rfl,qa.1,by omega,qb.2,h'.2⟩
   ·cases e
  ·cases e
 ·cases h1
theorem kx (a b v:PyData):uH [(.str "first",a),(.str "last",b),(.str "worth",v)] "worth"=some v:=by
 show (if ("worth":Str)="first" then _ else _)=_
 rw[if_neg iq]
 show (if ("worth":Str)="last" then _ else _)=_
 rw[if_neg ie]
 show (if ("worth":Str)="worth" then _ else _)=_
 rw[if_pos rfl]
def qh :List A→(A→Prop)→Prop:=fun as Q=>∃x,as=[.dat (.str x)]∧x∈words∧Q (.dat (qW x))
def oN (C:Addr)(w:Str):List A→(A→Prop)→Prop:=fun as Q=>∃a b v,as=[.dat (sq C a b v)]∧Q (.dat (.str w))
def sD (C:Addr):List A→(A→Prop)→Prop:=fun as Q=>∃(a b day:Int) (v:PyData),as=[.dat (sq C (.int a) (.int b) v),.dat (.int day)]∧Q (.dat (.bool (decide (a≤day)&&decide (day≤b))))
def qc (C:Addr)(cs:Cs):List A→(A→Prop)→Prop:=fun as Q=>∃ds x day,as=[.dat (wx C cs ds),.dat (.str x),.dat (.int day)]∧Rules ds∧x∈words∧Q (.dat (zy ds x day))
section
variable {P:Program}{w:World}{K:PySem.W.Frag}{mg:Str→Option Value}{base:Heap}{cs:Cs}
theorem zf1 :zm ["word"] ["word"] (zc nH):=⟨rfl,rfl,rfl,by decide +kernel,rfl,by decide +kernel,by decide +kernel⟩
theorem kQ {f dU:Addr}{fd:FuncData}(F:Fun K "usual" "usual" nH f fd)(hm:mg "usual"=some (.ref f))(hb:Binds K fd ["word"] [])(mU:mg "USUAL"=some (.ref dU))(DU:mZ K w dU tbU):Cal P w K mg base "usual" 1 qh:=by
 refine vR F hm hb zf1 (fun as Q h=>?_) (fun cdv A' outer s H E as Q hr h=>?_)
 ·obtain⟨x,rfl,_⟩:=h
  rfl
 ·obtain⟨x,rfl,hx,q⟩:=h
  obtain⟨v,h1,h2⟩:=iZ hx
  exact yH (iV (by rfl) mU DU (zf 0 rfl ⟨x,qW x,v,rfl,h1,h2,q⟩))
theorem yY {C f fIn fT fE:Addr}{fd:FuncData}{wd:Str}(R:xN K C fIn fT fE f)(hb:Binds K fd ["self"] [])(G:zD P w K mg base CX0 1 f fd ["self"] (we wd)):wy P w K mg base C "word" 1 (oN C wd):=by
 refine⟨f,fd,_,R.cl,R.word,hb,G.imp fun vs H Q E h=>?_⟩
 obtain⟨F,as,Q',rfl,t,o,rv,⟨a,b,v,rfl,q⟩,kk⟩:=h
 obtain⟨x,rfl,av⟩:=rv.one
 obtain⟨p,dx,fs,rfl,h1,h2⟩:=av.ins_inv
 exact⟨p,rfl,kk _ _ _ q ⟨t,Kz.refl,.str _⟩⟩
theorem yx {C f fIn fT fWd:Addr}{fd:FuncData}(R:xN K C fIn fT f fWd)(hb:Binds K fd ["self","day"] [])(G:zD P w K mg base CX0 1 f fd ["self","day"] (mG C)):wy P w K mg base C "tells" 1 (sD C):=by
 refine⟨f,fd,_,R.cl,R.tells,hb,G.imp fun vs H Q E h=>?_⟩
 obtain⟨F,as,Q',rfl,t,o,rv,⟨a,b,day,v,rfl,q⟩,kk⟩:=h
 obtain⟨x,y,rfl,av,ay⟩:=rv.two
 cases ay.int_inv
 obtain⟨p,dx,fs,rfl,h1,h2⟩:=av.ins_inv
 cases h2 with
 |cons g1 h2=>
  cases h2 with
  |cons g2 h2=>
   cases h2 with
   |cons g3 h2=>
    cases h2
    cases g1.int_inv
    cases g2.int_inv
    exact⟨p,dx,a,b,day,_,rfl,by rw[qB];exact (zg h1).2,kk _ _ _ q ⟨t,Kz.refl,.bl _⟩⟩
theorem za1 :zm ["self","word","day","rule"] ["self","word","day"] (zc qp):=⟨rfl,rfl,rfl,by decide +kernel,rfl,by decide +kernel,by decide +kernel⟩
set_option maxHeartbeats 4000000 in
theorem kG {f C:Addr}{fd:FuncData}(F:Fun K "tells_of" "Book.tells_of" qp f fd)(c:Cls K C)(na:yE K C "kept")(nb:NbT mg)(CU:Cal P w K mg base "usual" 1 qh)(OW:∀u∈words,wy P w K mg base (cs.of u) "word" 1 (oN (cs.of u) u))(OR:∀u∈words,wy P w K mg base (cs.of u) "tells" 1 (sD (cs.of u)))
  (OC:∀u∈words,Cls K (cs.of u)∧yE K (cs.of u) "worth"):zD P w K mg base CX0 2 f fd ["self","word","day"] (spA (qc C cs)):=by
 refine fnA F za1 (fun as Q h=>?_) (fun cdv A' outer s H E as Q hr h=>?_)
 ·obtain⟨ds,x,d,rfl,_⟩:=h
  rfl
 ·obtain⟨ds,x,day,rfl,rd,hx,q⟩:=h
  refine qw (pat:=.one 3) zt5 rfl (yr (i:=3) za1.nd rfl (Or.inl rfl)) (cJ (by rfl) nb.reversed (nR c na (zf 0 rfl ⟨_,_,rfl,rfl,⟨_,rfl,?_⟩⟩)))
  refine yn (fun i α=>(∃v3,α=[some (.dat (wx C cs ds)),some (.dat (.str x)),some (.dat (.int day)),v3])∧∀j<i,∀d,ds.reverse[j]?=some d→xW x day d=false) ⟨⟨none,rfl⟩,fun j hj=>absurd hj (zv7 _)⟩ ?_ ?_
  ·rintro i d α hd ⟨⟨v3,rfl⟩,hno⟩
   rw[←List.map_reverse,zi6,zj0] at hd
   obtain⟨e,he,rfl⟩:=hd
   have hme:e∈ds:=zs8.mp (zj7 he)
   obtain⟨u,a,b,v,hu,rfl,_,_,_,_⟩:=yu (rd e hme).1
   refine⟨_,rfl,?_⟩
   refine yP (EvW.t (mP (fun _ k=>qv (tD (OW u hu) hr (zf 3 rfl ⟨_,rfl,rfl,_,_,_,rfl,zf 1 rfl ⟨_,_,rfl,rfl,k⟩⟩)))
    (fun hp _ k=>uP (ar (mQ (OR u hu) hr (zf 3 rfl ⟨_,rfl,rfl,zb (zf 2 rfl (zh ⟨_,_,_,_,rfl,_,rfl,k⟩))⟩)))) ?_))
   refine yA (fun h=>?_) (fun h=>?_)
   ·refine yH (nR (OC u hu).1 (OC u hu).2 (zf 3 rfl ⟨_,_,rfl,kx _ _ _,?_⟩))
    have e1:ds.reverse.find? (xW x day)=some (.tuple [.str u,.int a,.int b,v]):=sf hno he h
    unfold zy at q
    rw[e1] at q
    exact q
   ·refine zt (zt ⟨⟨_,rfl⟩,fun j hj d' hd'=>?_⟩)
    rcases zl0 j i with z|z
    ·exact hno j z d' hd'
    ·have:j=i:=by omega
     subst this
     rw[he] at hd';cases hd'
     exact h
  ·rintro α ⟨⟨v3,rfl⟩,hno⟩
   refine yH (zB CU (hr.mono (by decide)) (by rfl) (zb (zf 1 rfl (zh ⟨x,rfl,hx,?_⟩))))
   have e1:ds.reverse.find? (xW x day)=none:=fH fun j d hd=>hno j (by
    have:=(zh1.mp hd).1
    rw[zt1,zh4]
    rwa [zt1] at this) d hd
   unfold zy at q
   rw[e1] at q
   exact q
end
structure xl (d:PyData):Prop where
 rule:yi d=true
 nice:zW 20011 d
 dep:d.depth≤2
 wn:zW 5000 (rQ d)
def zA (ds:List PyData):Prop:=∀d∈ds,xl d
theorem rz {s:Str}(h:s∈words):zW 2000 (.str s):=by
 simp only[words,zg3,zg9,zj8] at h
 rcases h with rfl|rfl|rfl|rfl|rfl|rfl|rfl<;>exact⟨rfl,rfl,zi5 _,by decide +kernel,by decide +kernel⟩
theorem xl.of {s:Str}{i j:Int}{d:PyData}(hs:s∈words)(i0:0≤i)(ij:i≤j)(j1:j≤1000000)(hw:zE (.str s) d=true)(hn:zW 5000 d)(hd:d.depth≤1):xl (.tuple [.str s,.int i,.int j,d]):=by
 have hbig:(1000001:Int)<big:=by decide
 have hneg:-big<(0:Int):=by decide
 have na:yj 5000 [.str s,.int i,.int j,d]:=by
  constructor
  ·intro x hx
   simp only[zg3,zg9,zj8] at hx
   rcases hx with rfl|rfl|rfl|rfl
   ·exact (rz hs).mono (by decide)
   ·exact (zW.int (by omega) (by omega)).mono (by decide)
   ·exact (zW.int (by omega) (by omega)).mono (by decide)
   ·exact hn
  ·intro x hx
   simp only[zg3,zg9,zj8] at hx
   rcases hx with rfl|rfl|rfl|rfl
   ·exact zi5 _
   ·exact zi5 _
   ·exact zi5 _
   ·omega
 refine⟨?_,zW.tuple na (by show 4*(5000+2)+3≤20011;decide),?_,hn⟩
 ·show (yh (.tuple [.int i,.int j])&&zE (.str s) d)=true
  rw[hw,Bool.and_true]
  unfold yh sO
  have h1:(vA (.int i)&&vA (.int j))=true:=by
   show ((decide (0≤i)&&decide (i≤1000000))&&(decide (0≤j)&&decide (j≤1000000)))=true
   simp only[zi9,zk4]
   omega
  simp only[h1,zu0,zk4]
  omega
 ·simp only[PyData.depth,PyData.depthAll]
  omega
theorem zA.rules {ds:List PyData}(h:zA ds):Rules ds:=fun d hd=>⟨(h d hd).rule,(h d hd).nice.shaped,(h d hd).nice.nod⟩
theorem zA.nice {ds:List PyData}(h:zA ds)(hl:ds.length≤100):zW sizeLine (.list ds):=by
 refine zW.list (n:=20011) ⟨fun d hd=>(h d hd).nice,fun d hd=>by have:=(h d hd).dep;omega⟩ ?_
 have h2:ds.length*(20011+2)≤100*(20011+2):=Nat.mul_le_mul_right _ hl
 have h3:100*(20011+2)+2≤sizeLine:=by decide
 omega
abbrev qX :Stmt:=top 42
abbrev qu :Stmt:=top 43
abbrev nh :Stmt:=top 44
abbrev iH :Stmt:=top 46
theorem xG (d:PyData):zE (.str "price") d=(isNone d||vX d):=by unfold zE;rw[if_pos (by decide +kernel)]
theorem si (d:PyData):zE (.str "come") d=isBool d:=by unfold zE;rw[if_neg (by decide +kernel),if_pos (by decide +kernel)]
theorem oj (d:PyData):zE (.str "go") d=isBool d:=by unfold zE;rw[if_neg (by decide +kernel),if_pos (by decide +kernel)]
theorem uu (d:PyData):zE (.str "least") d=zV 1 14 d:=by unfold zE;rw[if_neg (by decide +kernel),if_neg (by decide +kernel),if_pos (by decide +kernel)]
theorem tO (d:PyData):zE (.str "most") d=zV 1 14 d:=by unfold zE;rw[if_neg (by decide +kernel),if_neg (by decide +kernel),if_pos (by decide +kernel)]
theorem vq (d:PyData):zE (.str "deal") d=(isNone d||vB d):=by unfold zE;rw[if_neg (by decide +kernel),if_neg (by decide +kernel),if_neg (by decide +kernel),if_pos (by decide +kernel)]
theorem rF (d:PyData):zE (.str "fee") d=vX d:=by
 unfold zE;rw[if_neg (by decide +kernel),if_neg (by decide +kernel),if_neg (by decide +kernel),if_neg (by decide +kernel)]
 have:eqS (.str "fee") "fee"=true:=by decide +kernel
 rw[this,zn0]
theorem within_int {lo hi i:Int}(h1:lo≤i)(h2:i≤hi):zV lo hi (.int i)=true:=by
 show (decide (lo≤i)&&decide (i≤hi))=true
 rw[zk1 h1,zk1 h2];rfl
theorem xB {i:Int}(h0:-2000000000000≤i)(h1:i≤2000000000000):zW 2000 (.int i):=zW.int (by unfold big;omega) (by unfold big;omega)
def lh :List A→(A→Prop)→Prop:=fun as Q=>as=[.tape]∧∀z:Int,0≤z→z≤1000000000000→Q (.dat (.int z))
def sv :List A→(A→Prop)→Prop:=fun as Q=>∃wd,as=[.tape,.dat (.str wd)]∧wd∈words∧∀d,zE (.str wd) d=true→zW 5000 d→d.depth≤1→Q (.dat d)
def qE :List A→(A→Prop)→Prop:=fun as Q=>∃y:Int,as=[.tape,.dat (.int y)]∧0≤y∧y≤1000000∧∀d,xl d→Q (.dat d)
def ig :List A→(A→Prop)→Prop:=fun as Q=>as=[.tape]∧∀z:Int,0≤z→z≤999990→Q (.dat (.int z))
section
variable {P:Program}{w:World}{K:PySem.W.Frag}{mg:Str→Option Value}{base:Heap}
theorem fh :zm ["_law_row","_law_few_here","_law_many","_law_great"] ["_law_row"] (zc qX):=⟨rfl,rfl,rfl,by decide +kernel,rfl,by decide +kernel,by decide +kernel⟩
set_option maxHeartbeats 4000000 in
theorem jg {f:Addr}{fd:FuncData}(F:Fun K "_law_coins" "_law_coins" qX f fd)(hm:mg "_law_coins"=some (.ref f))(hb:Binds K fd ["_law_row"] [])(CD:Cal P w K mg base "_law_take" 1 xK):Cal P w K mg base "_law_coins" 2 lh:=by
 refine vR F hm hb fh (fun as Q h=>?_) (fun cdv A' outer s H E as Q hr h=>?_)
 ·obtain⟨rfl,_⟩:=h
  rfl
 ·obtain⟨rfl,q⟩:=h
  refine zS 1 fh.nd (zB CD hr (by rfl) (zw 0 rfl (zb (zr (zh (⟨_,rfl,by decide,by decide,fun v1 h1 g1=>?_⟩))))))
  refine zS 2 fh.nd (qV (zr (zB CD hr (by rfl) (zw 0 rfl (zb (zr (zh (⟨_,rfl,by decide,by decide,fun v2 h2 g2=>⟨_,_,rfl,rfl,.inl ⟨by decide,by decide⟩,?_⟩⟩))))))))
  refine zS 3 fh.nd (xk (qV (zB CD hr (by rfl) (zw 0 rfl (zb (yV (r:=1000000) ⟨by decide,by decide,by decide⟩ (by decide) (zh (⟨_,rfl,by decide,by decide,fun v4 h4 g4=>yV (r:=1000000) ⟨by decide,by decide,by decide⟩ (by decide) (⟨_,_,rfl,rfl,.inr ⟨by decide,by decide⟩,zB CD hr (by rfl) (zw 0 rfl (zb (yV (r:=1000000) ⟨by decide,by decide,by decide⟩ (by decide) (zh (⟨_,rfl,by decide,by decide,fun v3 h3 g3=>⟨_,_,rfl,rfl,?_⟩⟩)))))⟩)⟩))))))))
  refine yH (wG (fun _ _=>rfl) (EvL.d (zX (zb (zf 1 rfl (zb (zf 2 rfl (zb (xk (zf 1 rfl (qV (zr (zf 2 rfl (⟨_,_,rfl,rfl,.inl ⟨by decide,by decide⟩,⟨_,_,rfl,rfl,zb (zf 3 rfl (zb (yV (r:=1000000000000) ⟨by decide,by decide,by decide⟩ (by decide) (zh (⟨_,rfl,zi1 rfl,mL (zB CD hr (by rfl) (zw 0 rfl (zb (zr (zh (⟨_,rfl,by decide,by decide,fun v5 h5 g5=>zr (⟨_,_,rfl,rfl,⟨by decide,by decide +kernel⟩,?_⟩)⟩))))))⟩)))))⟩⟩))))))))))))))
  obtain⟨z,hz,e⟩:=uz (ds:=[PyData.int v1,.int (10*v2),.int (v1+10*(10*v2)),.int (v4*1000000+v3),.int 1000000000000]) (v:=v5 / 2) (by omega) (by show v5 / 2<5;omega)
  refine⟨_,_,z,rfl,rfl,e,?_⟩
  simp only[zg3,zg9,zj8] at hz
  rcases hz with rfl|rfl|rfl|rfl|rfl
  ·exact q _ (by omega) (by omega)
  ·exact q _ (by omega) (by omega)
  ·exact q _ (by omega) (by omega)
  ·exact q _ (by omega) (by omega)
  ·exact q _ (by omega) (by omega)
theorem fw :zm ["_law_row","_law_word","_law_many","_law_free","_law_coins_here"] ["_law_row","_law_word"] (zc qu):=⟨rfl,rfl,rfl,by decide +kernel,rfl,by decide +kernel,by decide +kernel⟩
theorem iz (s a b:Str):inD (.str s) [.str a,.str b]=(decide (a=s)||decide (b=s)):=by
 show ((a == s)||((b == s)||false))=_
 rw[Bool.or_false]
 by_cases h1:a=s<;>by_cases h2:b=s<;>simp[h1,h2]
set_option maxHeartbeats 4000000 in
theorem kN {f:Addr}{fd:FuncData}(F:Fun K "_law_worth" "_law_worth" qu f fd)(hm:mg "_law_worth"=some (.ref f))(hb:Binds K fd ["_law_row","_law_word"] [])(CD:Cal P w K mg base "_law_take" 1 xK)(CC:Cal P w K mg base "_law_coins" 2 lh):Cal P w K mg base "_law_worth" 3 sv:=by
 refine vR F hm hb fw (fun as Q h=>?_) (fun cdv A' outer s H E as Q hr h=>?_)
 ·obtain⟨wd,rfl,_⟩:=h
  rfl
 ·obtain⟨wd,rfl,hw,q⟩:=h
  have hr1:=hr.mono (show 1≤2 by decide)
  have hbig:(1000001:Int)<big:=by decide
  refine yP (cp (zf 1 rfl (wC (zb (zU (zb (zU (zh (⟨_,rfl,zi1 rfl,⟨_,.inr rfl,rfl,rfl,?_⟩⟩)))))))))
  rw[iz]
  refine yA (fun hc=>?_) (fun hc=>zt ?_)
  ·refine yH (bN (zB CD hr1 (by rfl) (zw 0 rfl (zb (zr (zh (⟨_,rfl,by decide,by decide,fun v1 h1 g1=>zr (⟨_,_,rfl,rfl,?_⟩)⟩)))))))
   refine q _ ?_ ((zW.bool _).mono (by decide)) (zi5 _)
   simp only[zn7,zk4] at hc
   rcases hc with rfl|rfl
   ·rw[si];rfl
   ·rw[oj];rfl
  simp only[zv5,zu4] at hc
  refine yP (cp (zf 1 rfl (wC (zb (zU (zb (zU (zh (⟨_,rfl,zi1 rfl,⟨_,.inr rfl,rfl,rfl,?_⟩⟩)))))))))
  rw[iz]
  refine yA (fun h2=>?_) (fun h2=>zt ?_)
  ·refine yH (xk (zr (zB CD hr1 (by rfl) (zw 0 rfl (zb (EvD.imp (Q':=fun d=>∃z:Int,d=.int z∧0<z∧z≤14) (wG (fun _ _=>rfl) (EvL.d (zX (zb (zr (zb (zr (zh (⟨_,rfl,zi1 rfl,zB CD hr1 (by rfl) (zw 0 rfl (zb (zr (zh (⟨_,rfl,by decide,by decide,fun v3 h3 g3=>?pick⟩)))))⟩))))))))) ?_))))))
   case pick=>
    obtain⟨z,hz,e⟩:=uz (ds:=[PyData.int 4,.int 14]) h3 g3
    refine⟨_,_,z,rfl,rfl,e,?_⟩
    simp only[zg3,zg9,zj8] at hz
    rcases hz with rfl|rfl
    ·exact⟨_,rfl,by decide,by decide⟩
    ·exact⟨_,rfl,by decide,by decide⟩
   rintro _ ⟨z,rfl,z0,z1⟩
   refine zh ⟨_,rfl,z0,by omega,fun v2 h2' g2=>⟨_,_,rfl,rfl,?_⟩⟩
   refine q _ ?_ ((xB (by omega) (by omega)).mono (by decide)) (zi5 _)
   simp only[zn7,zk4] at h2
   rcases h2 with rfl|rfl
   ·rw[uu];exact within_int (by omega) (by omega)
   ·rw[tO];exact within_int (by omega) (by omega)
  simp only[zv5,zu4] at h2
  refine yP (qv (zf 1 rfl (zU (⟨_,_,rfl,rfl,?_⟩))))
  refine yA (fun h3=>?_) (fun h3=>zt ?_)
  ·rw[zk4] at h3
   subst h3
   refine zS 2 fw.nd (xk (zr (zB CD hr1 (by rfl) (zw 0 rfl (zb (EvD.imp (Q':=fun d=>∃z:Int,d=.int z∧0<z∧z≤13) (wG (fun _ _=>rfl) (EvL.d (zX (zb (zr (zb (zr (zh (⟨_,rfl,zi1 rfl,zB CD hr1 (by rfl) (zw 0 rfl (zb (zr (zh (⟨_,rfl,by decide,by decide,fun v3 h3 g3=>?pick⟩)))))⟩))))))))) ?_))))))
   case pick=>
    obtain⟨z,hz,e⟩:=uz (ds:=[PyData.int 3,.int 13]) h3 g3
    refine⟨_,_,z,rfl,rfl,e,?_⟩
    simp only[zg3,zg9,zj8] at hz
    rcases hz with rfl|rfl
    ·exact⟨_,rfl,by decide,by decide⟩
    ·exact⟨_,rfl,by decide,by decide⟩
   rintro _ ⟨z,rfl,z0,z1⟩
   refine zh ⟨_,rfl,z0,by omega,fun v4 h4 g4=>⟨_,_,rfl,rfl,?_⟩⟩
   refine zS 3 fw.nd (xk (zr (zB CD hr1 (by rfl) (zw 0 rfl (zb (rW (zf 2 rfl (zr (⟨_,_,rfl,rfl,zh (⟨_,rfl,by omega,by omega,fun v6 h6 g6=>⟨_,_,rfl,rfl,?_⟩⟩)⟩)))))))))
   refine yH (wG (fun _ _=>rfl) (EvL.d (zX (zb (wC (zb (zf 2 rfl (zb (zf 3 rfl (zh (⟨_,rfl,zi1 rfl,zb (wC (zb (zf 2 rfl (zb (zf 3 rfl (zh (⟨_,rfl,zi1 rfl,zb (tF (zh (⟨_,rfl,zi1 rfl,zB CD hr1 (by rfl) (zw 0 rfl (zb (zr (zh (⟨_,rfl,by decide,by decide,fun v7 h7 g7=>?_⟩)))))⟩)))⟩)))))))⟩)))))))))))
   obtain⟨u,hu,e⟩:=uz (ds:=[PyData.tuple [.int (2+v4),.int (1+v6)],.tuple [.int (2+v4),.int (1+v6)],.none]) h7 g7
   refine⟨_,_,u,rfl,rfl,e,?_⟩
   have dl:Q (.dat (.tuple [.int (2+v4),.int (1+v6)])):=by
    refine q _ ?_ (zW.tuple (n:=2000) (yj.two (xB (by omega) (by omega)) (xB (by omega) (by omega)) (zi5 _) (zi5 _)) (by show 2*(2000+2)+3≤5000;decide)) (zg5 _)
    rw[vq]
    show (false||(zV 2 14 (.int (2+v4))&&zV 1 (2+v4-1) (.int (1+v6))))=true
    rw[within_int (by omega) (by omega),within_int (by omega) (by omega)];rfl
   simp only[zg3,zg9,zj8] at hu
   rcases hu with rfl|rfl|rfl
   ·exact dl
   ·exact dl
   ·exact q _ (by rw[vq];rfl) (zW.none.mono (by decide)) (zi5 _)
  rw[zu4] at h3
  have hs:wd="price"∨wd="fee":=by
   simp only[words,zg3,zg9,zj8] at hw
   rcases hw with z|z|z|z|z|z|z
   ·exact .inl z
   ·exact absurd z.symm hc.1
   ·exact absurd z.symm hc.2
   ·exact absurd z.symm h2.1
   ·exact absurd z.symm h2.2
   ·exact absurd z h3
   ·exact .inr z
  refine zS 4 fw.nd (zB CC hr (by rfl) (zw 0 rfl (zh (⟨rfl,fun c8 p8 q8=>?_⟩))))
  have last:Q (.dat (.int c8)):=by
   refine q _ ?_ ((xB (by omega) (by omega)).mono (by decide)) (zi5 _)
   rcases hs with rfl|rfl
   ·rw[xG];show (false||zV 0 1000000000000 (.int c8))=true;rw[within_int p8 q8];rfl
   ·rw[rF];exact within_int p8 q8
  refine yP (EvW.t (vU (qv (zf 1 rfl (zU (⟨_,_,rfl,rfl,?_⟩))))))
  refine yD (fun h9=>?_) (fun h9=>?_)
  ·rw[zk4] at h9
   subst h9
   refine uP (bw (zB CD hr1 (by rfl) (zw 0 rfl (zb (zr (zh (⟨_,rfl,by decide,by decide,fun v9 h9 g9=>zr (⟨_,_,rfl,rfl,?_⟩)⟩)))))))
   refine nk (fun _=>yH (tF ?_)) (fun _=>zt (yH (zf 4 rfl last)))
   exact q _ (by rw[xG];rfl) (zW.none.mono (by decide)) (zi5 _)
  ·exact yA (fun z=>nomatch z) (fun _=>zt (yH (zf 4 rfl last)))
theorem ju :zm ["_law_row","_law_day_here","_law_word","_law_ahead","_law_first","_law_last"] ["_law_row","_law_day_here"] (zc nh):=⟨rfl,rfl,rfl,by decide +kernel,rfl,by decide +kernel,by decide +kernel⟩
set_option maxHeartbeats 8000000 in
theorem jj {f:Addr}{fd:FuncData}(F:Fun K "_law_rule" "_law_rule" nh f fd)(hm:mg "_law_rule"=some (.ref f))(hb:Binds K fd ["_law_row","_law_day_here"] [])(nb:NbT mg)(CD:Cal P w K mg base "_law_take" 1 xK)(CW:Cal P w K mg base "_law_worth" 3 sv):Cal P w K mg base "_law_rule" 4 qE:=by
 refine vR F hm hb ju (fun as Q h=>?_) (fun cdv A' outer s H E as Q hr h=>?_)
 ·obtain⟨y,rfl,_⟩:=h
  rfl
 ·obtain⟨y,rfl,y0,y1,q⟩:=h
  have hr1:=hr.mono (show 1≤3 by decide)
  refine zS 2 ju.nd (EvD.imp (Q':=fun d=>∃x,d=.str x∧x∈words) (wG (fun _ _=>rfl) (EvL.d (zX (zb (zU (zb (zU (zb (zU (zb (zU (zb (zU (zb (zU (zb (zU (zb (zU (zb (zU (zh (⟨_,rfl,zi1 rfl,zB CD hr1 (by rfl) (zw 0 rfl (zb (zr (zh (⟨_,rfl,by decide,by decide,fun v1 h1 g1=>?pick⟩)))))⟩))))))))))))))))))))))) ?_)
  case pick=>
   obtain⟨z,hz,e⟩:=uz (ds:=[PyData.str "price",.str "price",.str "price",.str "come",.str "go",.str "least",.str "most",.str "deal",.str "fee"]) h1 g1
   refine⟨_,_,z,rfl,rfl,e,?_⟩
   simp only[zg3,zg9,zj8] at hz
   rcases hz with rfl|rfl|rfl|rfl|rfl|rfl|rfl|rfl|rfl<;>exact⟨_,rfl,by simp[words]⟩
  rintro _ ⟨wd,rfl,hw⟩
  refine zS 3 ju.nd (EvD.imp (Q':=fun d=>∃z:Int,d=.int z) (wG (fun _ _=>rfl) (EvL.d (zX (zb (rW (zB CD hr1 (by rfl) (zw 0 rfl (zb (zr (zh (⟨_,rfl,by decide,by decide,fun v4 h4 g4=>zr (⟨_,_,rfl,rfl,zb (zB CD hr1 (by rfl) (zw 0 rfl (zb (zr (zh (⟨_,rfl,by decide,by decide,fun v3 h3 g3=>zb (hG (zf 1 rfl (⟨_,rfl,zb (zr (zh (⟨_,rfl,zi1 rfl,zB CD hr1 (by rfl) (zw 0 rfl (zb (zr (zh (⟨_,rfl,by decide,by decide,fun v2 h2 g2=>?pick⟩)))))⟩)))⟩)))⟩))))))⟩)⟩))))))))))) ?_)
  case pick=>
   obtain⟨z,hz,e⟩:=uz (ds:=[PyData.int (v4-3),.int v3,.int (-y),.int 0]) h2 g2
   refine⟨_,_,z,rfl,rfl,e,?_⟩
   simp only[zg3,zg9,zj8] at hz
   rcases hz with rfl|rfl|rfl|rfl<;>exact⟨_,rfl⟩
  rintro _ ⟨ah,rfl⟩
  refine vh (fun α=>∃fi:Int,0≤fi∧fi≤1000000∧α=[some .tape,some (.dat (.int y)),some (.dat (.str wd)),some (.dat (.int ah)),some (.dat (.int fi)),none]) ?_ ?_
  ·refine zS 4 ju.nd (oE rfl (by rfl) nb.min (yV (r:=1000000) ⟨by decide,by decide,by decide⟩ (by decide) (ip rfl (by rfl) nb.max (zr (xk (zf 1 rfl (zf 3 rfl (⟨_,_,rfl,rfl,⟨_,_,rfl,rfl,⟨_,_,rfl,rfl,zt ⟨_,?_,?_,rfl⟩⟩⟩⟩))))))))
   ·split<;>split<;>omega
   ·split<;>split<;>omega
  rintro α ⟨fi,f0,f1,rfl⟩
  refine vh (fun α=>∃la:Int,fi≤la∧α=[some .tape,some (.dat (.int y)),some (.dat (.str wd)),some (.dat (.int ah)),some (.dat (.int fi)),some (.dat (.int la))]) ?_ ?_
  ·refine zS 5 ju.nd (xk (zf 4 rfl (EvD.imp (Q':=fun d=>∃z:Int,d=.int z∧0≤z) (wG (fun _ _=>rfl) (EvL.d (zX (zb (zr (zb (zB CD hr1 (by rfl) (zw 0 rfl (zb (zr (zh (⟨_,rfl,by decide,by decide,fun v7 h7 g7=>zb (zB CD hr1 (by rfl) (zw 0 rfl (zb (zr (zh (⟨_,rfl,by decide,by decide,fun v6 h6 g6=>zb (zr (zb (yV (r:=1000000) ⟨by decide,by decide,by decide⟩ (by decide) (zh (⟨_,rfl,zi1 rfl,zB CD hr1 (by rfl) (zw 0 rfl (zb (zr (zh (⟨_,rfl,by decide,by decide,fun v5 h5 g5=>?pick⟩)))))⟩)))))⟩))))))⟩)))))))))))) ?_)))
   case pick=>
    obtain⟨z,hz,e⟩:=uz (ds:=[PyData.int 0,.int v7,.int v6,.int 60,.int 1000000]) h5 g5
    refine⟨_,_,z,rfl,rfl,e,?_⟩
    simp only[zg3,zg9,zj8] at hz
    rcases hz with rfl|rfl|rfl|rfl|rfl<;>exact⟨_,rfl,by omega⟩
   rintro _ ⟨z,rfl,z0⟩
   exact⟨_,_,rfl,rfl,zt ⟨fi+z,by omega,rfl⟩⟩
  rintro α ⟨la,hla,rfl⟩
  refine yH (wC (zb (zf 2 rfl (zb (zf 4 rfl (zb (oE rfl (by rfl) nb.min (yV (r:=1000000) ⟨by decide,by decide,by decide⟩ (by decide) (zf 5 rfl (⟨_,_,rfl,rfl,zb (zB CW hr (by rfl) (zw 0 rfl (zb (zf 2 rfl (zh (⟨_,rfl,hw,fun d8 a8 b8 c8=>zh (⟨_,rfl,zi1 rfl,?_⟩)⟩))))))⟩))))))))))
  refine q _ (xl.of hw f0 ?_ ?_ a8 b8 c8)
  ·split<;>omega
  ·split<;>omega
theorem zf0 :zm ["_law_row"] ["_law_row"] (zc iH):=⟨rfl,rfl,rfl,by decide +kernel,rfl,by decide +kernel,by decide +kernel⟩
set_option maxHeartbeats 4000000 in
theorem dD {f:Addr}{fd:FuncData}(F:Fun K "_law_day" "_law_day" iH f fd)(hm:mg "_law_day"=some (.ref f))(hb:Binds K fd ["_law_row"] [])(CD:Cal P w K mg base "_law_take" 1 xK):Cal P w K mg base "_law_day" 2 ig:=by
 refine vR F hm hb zf0 (fun as Q h=>?_) (fun cdv A' outer s H E as Q hr h=>?_)
 ·obtain⟨rfl,_⟩:=h
  rfl
 ·obtain⟨rfl,q⟩:=h
  refine yH (wG (fun _ _=>rfl) (EvL.d (zX (zb (zr (zb (zB CD hr (by rfl) (zw 0 rfl (zb (zr (zh (⟨_,rfl,by decide,by decide,fun v4 h4 g4=>zb (zr (zb (xk (zr (zB CD hr (by rfl) (zw 0 rfl (zb (zr (zh (⟨_,rfl,by decide,by decide,fun v3 h3 g3=>⟨_,_,rfl,rfl,zb (zB CD hr (by rfl) (zw 0 rfl (zb (zr (zh (⟨_,rfl,by decide,by decide,fun v2 h2 g2=>zh (⟨_,rfl,zi1 rfl,zB CD hr (by rfl) (zw 0 rfl (zb (zr (zh (⟨_,rfl,by decide,by decide,fun v1 h1 g1=>?_⟩)))))⟩)⟩))))))⟩⟩))))))))))⟩))))))))))))
  obtain⟨z,hz,e⟩:=uz (ds:=[PyData.int 0,.int v4,.int 40,.int (999980+v3),.int v2]) h1 g1
  refine⟨_,_,z,rfl,rfl,e,?_⟩
  simp only[zg3,zg9,zj8] at hz
  rcases hz with rfl|rfl|rfl|rfl|rfl
  ·exact q _ (by omega) (by omega)
  ·exact q _ (by omega) (by omega)
  ·exact q _ (by omega) (by omega)
  ·exact q _ (by omega) (by omega)
  ·exact q _ (by omega) (by omega)
end
theorem jc {x:Str}(h:x∈words):zE (.str x) (qW x)=true:=by
 simp only[words,zg3,zg9,zj8] at h
 rcases h with rfl|rfl|rfl|rfl|rfl|rfl|rfl<;>decide +kernel
theorem rO {x:Str}{day:Int}{d:PyData}(hd:yi d=true)(h:xW x day d=true):∃(a b:Int) (v:PyData),d=.tuple [.str x,.int a,.int b,v]∧0≤a∧a≤day∧day≤b∧b≤1000000∧zE (.str x) v=true:=by
 obtain⟨u,a,b,v,hu,rfl,a0,ab,b1,hw⟩:=yu hd
 have h':(decide (u=x)&&(decide (a≤day)&&decide (day≤b)))=true:=h
 simp only[zi9,zk4] at h'
 obtain⟨rfl,h1,h2⟩:=h'
 exact⟨a,b,v,rfl,a0,h1,h2,b1,hw⟩
theorem uB {ds:List PyData}(rd:∀d∈ds,yi d=true){x:Str}(hx:x∈words)(day:Int):zE (.str x) (zy ds x day)=true:=by
 unfold zy
 split
 ·rename_i d e
  have hm:=zs8.mp (List.mem_of_find?_eq_some e)
  obtain⟨a,b,v,rfl,_,_,_,_,hw⟩:=rO (rd d hm) (List.find?_some e)
  exact hw
 ·exact jc hx
def NB (u:PyData):Prop:=u=.none∨(∃i,u=.int i)∨∃i j,u=.tuple [.int i,.int j]
theorem oy {u v:PyData}(hu:NB u)(hv:NB v)(h:PyData.eqv u v=true):u=v:=by
 rcases hu with rfl|⟨i,rfl⟩|⟨i,j,rfl⟩<;>rcases hv with rfl|⟨k,rfl⟩|⟨k,l,rfl⟩<;>simp[PyData.eqv,PyData.eqvAll] at h ⊢
 ·exact h
 ·exact h
theorem yI {lo hi:Int}{u:PyData}(h:zV lo hi u=true):NB u:=by
 cases u with
 |int i=>exact .inr (.inl ⟨i,rfl⟩)
 |_=>cases h
theorem eE {u:PyData}(h:isNone u=true):NB u:=by
 cases u with
 |none=>exact .inl rfl
 |_=>cases h
theorem mM {u:PyData}(h:vB u=true):NB u:=by
 unfold vB at h
 split at h
 ·rename_i m f
  rw[zi9] at h
  cases f with
  |int j=>exact .inr (.inr ⟨m,j,rfl⟩)
  |_=>exact absurd h.2 (by intro z;cases z)
 ·cases h
theorem lj {u:PyData}(h:isBool u=true):∃b,u=.bool b:=by
 cases u with
 |bool b=>exact⟨b,rfl⟩
 |_=>cases h
theorem gy {x:Str}(hx:x∈words){u v:PyData}(hu:zE (.str x) u=true)(hv:zE (.str x) v=true)(h:PyData.eqv u v=true):u=v:=by
 simp only[words,zg3,zg9,zj8] at hx
 have b2:isBool u=true→isBool v=true→u=v:=fun h1 h2=>by
  obtain⟨b,rfl⟩:=lj h1
  obtain⟨c,rfl⟩:=lj h2
  have h':(b == c)=true:=by simpa[PyData.eqv] using h
  rw[eq_of_beq h']
 have or2:∀{a:Bool} {w:PyData},(isNone w||a)=true→(a=true→NB w)→NB w:=fun {a w} h1 h2=>((zn7 _ _).mp h1).elim eE h2
 rcases hx with rfl|rfl|rfl|rfl|rfl|rfl|rfl
 ·rw[xG] at hu hv
  exact oy (or2 hu yI) (or2 hv yI) h
 ·rw[si] at hu hv
  exact b2 hu hv
 ·rw[oj] at hu hv
  exact b2 hu hv
 ·rw[uu] at hu hv
  exact oy (yI hu) (yI hv) h
 ·rw[tO] at hu hv
  exact oy (yI hu) (yI hv) h
 ·rw[vq] at hu hv
  exact oy (or2 hu mM) (or2 hv mM) h
 ·rw[rF] at hu hv
  exact oy (yI hu) (yI hv) h
theorem tQ {ds:List PyData}{x:Str}{d e:Int}(h:∀r∈ds,xW x d r=xW x e r):zy ds x d=zy ds x e:=by
 unfold zy
 have:ds.reverse.find? (xW x d)=ds.reverse.find? (xW x e):=by
  have key:∀l:List PyData,(∀r∈l,xW x d r=xW x e r)→l.find? (xW x d)=l.find? (xW x e):=by
   intro l
   induction l with
   |nil=>intro _;rfl
   |cons a l ih=>
    intro hl
    rw[zl2,zl2,hl a zh3,ih fun r hr=>hl r (zg7 _ hr)]
  exact key _ fun r hr=>h r (zs8.mp hr)
 rw[this]
theorem wY {ds:List PyData}(rd:∀d∈ds,yi d=true){x:Str}{day:Int}(h:1000000<day):zy ds x day=qW x:=by
 unfold zy
 have:ds.reverse.find? (xW x day)=none:=by
  rw[List.find?_eq_none]
  intro r hr hh
  obtain⟨a,b,v,_,_,_,h2,h3,_⟩:=rO (rd r (zs8.mp hr)) hh
  omega
 rw[this]
theorem mB {d:Int}:∀(ys:List Int),(∃y∈ys,y≤d)→∃e∈ys,e≤d∧∀y∈ys,y≤d→y≤e
 |[],h=>by obtain⟨y,hy,_⟩:=h;simp at hy
 |a::ys,h=>by
  by_cases hs:∃y∈ys,y≤d
  ·obtain⟨e,he,hd,hm⟩:=mB ys hs
   by_cases ha:a≤d∧e<a
   ·exact⟨a,zh3,ha.1,fun y hy yd=>by
     rcases zg3.mp hy with rfl|hy
     ·exact zo4 _
     ·have:=hm y hy yd;omega⟩
   ·exact⟨e,zg7 _ he,hd,fun y hy yd=>by
     rcases zg3.mp hy with rfl|hy
     ·omega
     ·exact hm y hy yd⟩
  ·obtain⟨y,hy,yd⟩:=h
   rcases zg3.mp hy with rfl|hy
   ·exact⟨y,zh3,yd,fun z hz zd=>by
     rcases zg3.mp hz with rfl|hz
     ·exact zo4 _
     ·exact absurd ⟨z,hz,zd⟩ hs⟩
   ·exact absurd ⟨y,hy,yd⟩ hs
structure Edg (ds:List PyData)(x:Str)(ys:List Int):Prop where
 zero:0∈ys
 pos:∀y∈ys,0≤y
 at':∀a b v,.tuple [.str x,.int a,.int b,v]∈ds→a∈ys∧(b+1≤1000000→b+1∈ys)
theorem Edg.same {ds es:List PyData}{x:Str}{ys:List Int}(rd:∀d∈ds,yi d=true)(re:∀d∈es,yi d=true)(E:Edg (ds++es) x ys){day:Int}(d0:0≤day)(d1:day≤1000000):∃e∈ys,e≤day∧zy ds x day=zy ds x e∧zy es x day=zy es x e:=by
 obtain⟨e,he,ed,hm⟩:=mB ys ⟨0,E.zero,d0⟩
 have key:∀r∈ds++es,yi r=true→xW x day r=xW x e r:=fun r hr rr=>by
  obtain⟨u,a,b,v,hu,rfl,a0,ab,b1,hw⟩:=yu rr
  show (decide (u=x)&&(decide (a≤day)&&decide (day≤b)))=(decide (u=x)&&(decide (a≤e)&&decide (e≤b)))
  by_cases hux:u=x
  ·subst hux
   obtain⟨ha,hb⟩:=E.at' a b v hr
   have e1:decide (a≤day)=decide (a≤e):=by
    by_cases z:a≤day
    ·rw[zk1 z,zk1 (hm a ha z)]
    ·rw[zi7 z,zi7 (by omega)]
   have e2:decide (day≤b)=decide (e≤b):=by
    by_cases z:day≤b
    ·rw[zk1 z,zk1 (by omega)]
    ·rw[zi7 z,zi7]
     intro w
     have:=hm (b+1) (hb (by omega)) (by omega)
     omega
   rw[e1,e2]
  ·rw[zi7 hux,zl8,zl8]
 exact⟨e,he,ed,tQ fun r hr=>key r (zh8 _ hr) (rd r hr),tQ fun r hr=>key r (zh2 _ hr) (re r hr)⟩
def sW (ds es:List PyData)(x:Str):Prop:=∀day:Int,0≤day→day≤1000000→zy ds x day=zy es x day
theorem Edg.all {ds es:List PyData}{x:Str}{ys:List Int}(rd:∀d∈ds,yi d=true)(re:∀d∈es,yi d=true)(E:Edg (ds++es) x ys)(h:∀y∈ys,zy ds x y=zy es x y):sW ds es x:=fun day d0 d1=>by
 obtain⟨e,he,_,h1,h2⟩:=E.same rd re d0 d1
 rw[h1,h2]
 exact h e he
def pJ :Option (Str×Int)→PyData
 |none=>.none
 |some q=>.tuple [.str q.1,.int q.2]
structure Fst (ds es:List PyData)(x:Str)(d:Int)(i:Nat):Prop where
 at':words[i]?=some x
 lo:0≤d
 hi:d≤1000000
 ne:zy ds x d≠zy es x d
 bef:∀z∈words.take i,sW ds es z
 least:∀e:Int,0≤e→e<d→zy ds x e=zy es x e
def Unl (ds es:List PyData):Option (Str×Int)→Prop
 |none=>∀z∈words,sW ds es z
 |some q=>∃i,Fst ds es q.1 q.2 i
theorem Fst.mem {ds es:List PyData}{x:Str}{d:Int}{i:Nat}(h:Fst ds es x d i):x∈words:=zj7 h.at'
theorem jE {x:Str}{i j:Nat}(h:words[i]?=some x)(hj:i<j):x∈words.take j:=by
 refine zj7 (i:=i) ?_
 rw[zt8 hj,h]
theorem Fst.le {ds es:List PyData}{x y:Str}{d e:Int}{i j:Nat}(h:Fst ds es x d i)(g:Fst ds es y e j):¬i<j:=fun z=>h.ne (g.bef x (jE h.at' z) d h.lo h.hi)
theorem mi {ds es:List PyData}{q r:Option (Str×Int)}(h:Unl ds es q)(g:Unl ds es r):q=r:=by
 cases q with
 |none=>cases r with
  |none=>rfl
  |some r=>
   obtain⟨i,f⟩:=g
   exact absurd (h _ f.mem _ f.lo f.hi) f.ne
 |some q=>
  obtain⟨i,f⟩:=h
  cases r with
  |none=>exact absurd (g _ f.mem _ f.lo f.hi) f.ne
  |some r=>
   obtain⟨j,k⟩:=g
   have h1:=f.le k
   have h2:=k.le f
   have e:i=j:=by omega
   subst e
   obtain⟨x,d⟩:=q
   obtain⟨y,e⟩:=r
   have hx:x=y:=zk0 (f.at'.symm.trans k.at')
   subst hx
   rcases Int.lt_or_le d e with z|z
   ·exact absurd (k.least d f.lo z) f.ne
   ·rcases Int.lt_or_le e d with z'|z'
    ·exact absurd (f.least e k.lo z') k.ne
    ·have:d=e:=by omega
     rw[this]
theorem gN {ds es:List PyData}{q:Option (Str×Int)}(h:Unl ds es q):Unl es ds q:=by
 cases q with
 |none=>exact fun z hz d d0 d1=>(h z hz d d0 d1).symm
 |some q=>
  obtain⟨i,f⟩:=h
  exact⟨i,f.at',f.lo,f.hi,fun e=>f.ne e.symm,fun z hz d d0 d1=>(f.bef z hz d d0 d1).symm,fun e e0 e1=>(f.least e e0 e1).symm⟩
theorem iS {ds:List PyData}{q:Option (Str×Int)}(h:Unl ds ds q):q=none:=by
 cases q with
 |none=>rfl
 |some q=>
  obtain⟨i,f⟩:=h
  exact absurd rfl f.ne
theorem Edg.fst {ds es:List PyData}{x:Str}{ys:List Int}(rd:∀d∈ds,yi d=true)(re:∀d∈es,yi d=true)(E:Edg (ds++es) x ys)(up:ys.Pairwise (·≤·)){i j:Nat}{y:Int}(hx:words[i]?=some x)(al:∀z∈words.take i,sW ds es z)(hy:ys[j]?=some y)(ay:∀z∈ys.take j,zy ds x z=zy es x z)(ne:zy ds x y≠zy es x y):Fst ds es x y i:=by
 have ym:=zj7 hy
 refine⟨hx,E.pos y ym,?_,ne,al,fun e e0 e1=>?_⟩
 ·rcases Int.lt_or_le 1000000 y with z|z
  ·exact absurd (by rw[wY rd z,wY re z]) ne
  ·exact z
 ·have yb:y≤1000000:=by
   rcases Int.lt_or_le 1000000 y with z|z
   ·exact absurd (by rw[wY rd z,wY re z]) ne
   ·exact z
  obtain⟨u,hu,ue,h1,h2⟩:=E.same rd re e0 (by omega)
  rw[h1,h2]
  obtain⟨k,hk⟩:=zw1 hu
  have kj:k<j:=by
   rcases zl0 k j with z|z
   ·exact z
   ·have hj':=(zh1.mp hy)
    have hk':=(zh1.mp hk)
    obtain⟨p1,p2⟩:=hj'
    obtain⟨p3,p4⟩:=hk'
    rcases zl0 j k with z'|z'
    ·have:=zq4.mp up j k p1 p3 z'
     omega
    ·have:j=k:=by omega
     subst this
     omega
  exact ay u (zj7 (i:=k) (by rw[zt8 kj,hk]))
end K72
set_option compiler.extract_closed false
set_option hygiene false in
local macro_rules
 |`(tactic| exists $f,$a)=>`(tactic| first|refine $f 0 $a ?_|refine $f 1 $a ?_|refine $f 2 $a ?_|refine $f 3 $a ?_|refine $f 4 $a ?_|refine $f 5 $a ?_|refine $f 6 $a ?_|refine $f 7 $a ?_|refine $f 8 $a ?_|refine $f 9 $a ?_|refine $f 10 $a ?_|refine $f 11 $a ?_|refine $f 12 $a ?_|refine $f 13 $a ?_|refine $f 14 $a ?_|refine $f 15 $a ?_|refine $f 16 $a ?_|refine $f 17 $a ?_)
set_option hygiene false in
local macro_rules
 |`(tactic| and_intros)=>`(tactic| repeat (first
  |((with_reducible show EvD _ _ _ _);first
   |((with_reducible show EvD _ _ (.Name _ _) _);exists zf,rfl)
   |((with_reducible show EvD _ _ (.Constant _ _ _) _);first|with_reducible refine zr ?_|with_reducible refine zU ?_|with_reducible refine dJ ?_|with_reducible refine tF ?_)
   |((with_reducible show EvD _ _ (.BinOp (.Constant (.int 10) _ _) .Pow (.Constant (.int 6) _ _) _) _);refine yV (r:=1000000) ⟨by decide,by decide,by decide⟩ (by decide) ?_)
   |((with_reducible show EvD _ _ (.BinOp (.Constant (.int 10) _ _) .Pow (.Constant (.int 12) _ _) _) _);refine yV (r:=1000000000000) ⟨by decide,by decide,by decide⟩ (by decide) ?_)
   |((with_reducible show EvD _ _ (.BinOp (.Constant (.int 10) _ _) .Pow (.Constant (.int 9) _ _) _) _);refine yV (r:=1000000000) ⟨by decide,by decide,by decide⟩ (by decide) ?_)
   |((with_reducible show EvD _ _ (.BinOp (.Constant (.int 10) _ _) .Pow (.Constant (.int 11) _ _) _) _);refine yV (r:=100000000000) ⟨by decide,by decide,by decide⟩ (by decide) ?_)
   |((with_reducible show EvD _ _ (.BinOp _ .Add (.List _ _) _) _);refine EvL.d (xY ?_))
   |((with_reducible show EvD _ _ (.BinOp (.List _ _) .Add _ _) _);refine EvL.d (xY ?_))
   |((with_reducible show EvD _ _ (.BinOp (.Subscript _ (.Slice _ _ none _) _) .Add _ _) _);refine EvL.d (xY ?_))
   |((with_reducible show EvD _ _ (.BinOp _ .Add (.Subscript _ (.Slice _ _ none _) _) _) _);refine EvL.d (xY ?_))
   |((with_reducible show EvD _ _ (.BinOp (.Call (.Attribute _ "rules" _) _ _ _) .Add _ _) _);refine EvL.d (xY ?_))
   |with_reducible refine xk ?_
   |with_reducible refine rW ?_
   |with_reducible refine gJ ?_
   |with_reducible refine mL ?_
   |with_reducible refine qV ?_
   |with_reducible refine ev_shl ?_
   |with_reducible refine hG ?_
   |with_reducible refine ev_not ?_
   |with_reducible refine wC ?_
   |((with_reducible show EvD _ _ (.Subscript _ (.Slice _ _ none _) _) _);refine EvL.d (el_sl ?_))
   |((with_reducible show EvD _ _ (.Subscript _ _ _) _);refine sH hr.one (fun _ _=>rfl) ?_)
   |((with_reducible show EvD _ _ (.List _ _) _);refine EvL.d (zX ?_))
   |((with_reducible show EvD _ _ (.Call (.Name "len" _) [.Call (.Name "set" _) _ _ _] _ _) _);refine ev_lenSet rfl (by rfl) nb.len (by rfl) (by assumption) ?_)
   |((with_reducible show EvD _ _ (.Call (.Name "len" _) _ _ _) _);refine vT (by rfl) nb.len ?_)
   |((with_reducible show EvD _ _ (.Call (.Name "min" _) [_,_] _ _) _);refine oE rfl (by rfl) nb.min ?_)
   |((with_reducible show EvD _ _ (.Call (.Name "max" _) [_,_] _ _) _);refine ip rfl (by rfl) nb.max ?_)
   |((with_reducible show EvD _ _ (.Call (.Name "list" _) _ _ _) _);refine EvL.d (qx (by rfl) nb.list ?_))
   |((with_reducible show EvD _ _ (.Call (.Name "repr" _) _ _ _) _);refine ev_repr hr.gd hr.units (by rfl) nb.repr ?_)
   |((with_reducible show EvD _ _ (.Call (.Name "min" _) [_] _ _) _);refine ev_minI rfl hr.few (by rfl) nb.min ?_)
   |((with_reducible show EvD _ _ (.Call (.Name "isinstance" _) _ _ _) _);first|refine tf (by rfl) nb.isinstance (by rfl) nb.int boot_int ?_|refine tf (by rfl) nb.isinstance (by rfl) nb.bool boot_bool ?_|refine tf (by rfl) nb.isinstance (by rfl) nb.str boot_str ?_|refine tf (by rfl) nb.isinstance (by rfl) nb.list boot_list ?_|refine tf (by rfl) nb.isinstance (by rfl) nb.tuple boot_tuple ?_)
   |((with_reducible show EvD _ _ (.Call (.Name "int" _) _ _ _) _);refine ev_intB (by rfl) nb.int ?_)
   |((with_reducible show EvD _ _ (.Call (.Name _ _) _ _ _) _);first|refine eh (by with_reducible assumption) (by exact⟨rfl,rfl,rfl,rfl,rfl⟩) (hr.mono (by decide)) (by rfl) ?_|refine EvN.d (en_makeR (by with_reducible assumption) (by exact⟨rfl,rfl,rfl,rfl,rfl⟩) (hr.mono (by decide)) (by rfl) ?_))
   |((with_reducible show EvD _ _ (.Call (.Attribute _ _ _) (_::_) _ _) _);refine jC (by with_reducible assumption) (by exact⟨rfl,rfl,rfl,rfl,rfl⟩) (hr.mono (by decide)) ?_)
   |((with_reducible show EvD _ _ (.Call (.Attribute _ _ _) [] _ _) _);refine ki (by with_reducible assumption) (by exact⟨rfl,rfl,rfl,rfl,rfl⟩) (hr.mono (by decide)) ?_)
   |((with_reducible show EvD _ _ (.Compare _ [_] _ _) _);first|with_reducible refine ev_lt ?_|with_reducible refine ev_le ?_|with_reducible refine ev_gt ?_|with_reducible refine ev_ge ?_|with_reducible refine ev_isN ?_|with_reducible refine ev_notN ?_|((with_reducible show EvD _ _ (.Compare _ [.Eq] _ _) _);refine ev_eqk hr.units ?_)|((with_reducible show EvD _ _ (.Compare _ [.NotEq] _ _) _);refine ev_nek hr.units ?_)|((with_reducible show EvD _ _ (.Compare _ [.In] _ _) _);refine ev_ink hr.one ?_)|((with_reducible show EvD _ _ (.Compare _ [.NotIn] _ _) _);refine ev_nink hr.one ?_)|((with_reducible show EvD _ _ (.Compare _ [.Is] [.Constant (.bool _) _ _] _) _);refine ev_isB ?_))
   |((with_reducible show EvD _ _ (.Compare _ [_,_] _ _) _);first|refine ev_lelt ?_|refine ev_ltle ?_|refine ev_lele' ?_)
   |((with_reducible show EvD _ _ (.BoolOp _ _ _) _);first|with_reducible refine ev_and ?_|with_reducible refine ev_or ?_|with_reducible refine ev_one ?_)
   |with_reducible refine nK ?_)
  |((with_reducible show EvA _ _ _ _);first
   |with_reducible refine zh ?_
   |((with_reducible show EvA _ _ (.Name "_law_row" _::_) _);exists zw,rfl)
   |refine zb ?_)
  |((with_reducible show EvT _ _ _ _);first
   |((with_reducible show EvT _ _ (.Compare _ [_] _ _) _);first|with_reducible refine zb3 ?_|with_reducible refine et_le ?_|with_reducible refine cc ?_|with_reducible refine dY ?_|with_reducible refine qm ?_|with_reducible refine rP ?_|((with_reducible show EvT _ _ (.Compare _ [.Eq] _ _) _);refine bb hr.units ?_)|((with_reducible show EvT _ _ (.Compare _ [.NotEq] _ _) _);refine jA hr.units ?_)|((with_reducible show EvT _ _ (.Compare _ [.In] _ _) _);refine et_ink hr.one ?_)|((with_reducible show EvT _ _ (.Compare _ [.NotIn] _ _) _);refine et_nink hr.one ?_)|((with_reducible show EvT _ _ (.Compare _ [.Is] [.Constant (.bool _) _ _] _) _);refine et_isB ?_)|((with_reducible show EvT _ _ (.Compare _ [.IsNot] [.Constant (.bool _) _ _] _) _);refine et_isntB ?_))
   |((with_reducible show EvT _ _ (.Compare _ [_,_] _ _) _);first|refine et_lelt ?_|refine et_ltle ?_|refine et_lele' ?_)
   |with_reducible refine aa ?_
   |((with_reducible show EvT _ _ (.BoolOp _ _ _) _);with_reducible refine EvW.t ?_)
   |refine gS ?_)
  |((with_reducible show EvL _ _ _ _);first
   |with_reducible refine zX ?_
   |((with_reducible show EvL _ _ (.Call (.Name "list" _) _ _ _) _);refine qx (by rfl) nb.list ?_)
   |((with_reducible show EvL _ _ (.Call (.Name _ _) _ _ _) _);refine el_calR (by with_reducible assumption) (by exact⟨rfl,rfl,rfl,rfl,rfl⟩) (hr.mono (by decide)) (by rfl) ?_)
   |((with_reducible show EvL _ _ (.Call (.Attribute _ _ _) [] _ _) _);refine el_meth0R (by with_reducible assumption) (by exact⟨rfl,rfl,rfl,rfl,rfl⟩) (hr.mono (by decide)) ?_)
   |((with_reducible show EvL _ _ (.Subscript _ (.Slice _ _ none _) _) _);refine el_sl ?_)
   |((with_reducible show EvL _ _ (.BinOp _ .Add _ _) _);refine xY ?_))
  |((with_reducible show EvW _ _ _ _);first
   |with_reducible refine vU ?_
   |with_reducible refine il ?_
   |with_reducible refine uP ?_
   |with_reducible refine ba ?_)
  |((with_reducible show EvO _ _ _ _);first
   |with_reducible refine eo_none ?_
   |with_reducible refine eo_some ?_)
  |((with_reducible show cU _ _ _);first
   |refine ixk rfl rfl rfl ?_
   |refine ixk_0 ?_
   |refine ixk_1 ?_)
  |((with_reducible show InOk _ _ _ _);first
   |refine ink rfl rfl ?_
   |refine ink_hind ?_
   |refine inkT rfl rfl ?_)
  |((with_reducible show ll _ _ _);first
   |with_reducible refine eqk_int ?_
   |with_reducible refine dC ?_
   |with_reducible refine eqk_bool ?_
   |refine eqk rfl rfl rfl rfl ?_)
  |((with_reducible show SvS _ _ _ _);first
   |((with_reducible show SvS _ (List.set _ _ _) _ _);dsimp only[List.set])
   |((with_reducible show SvS _ _ (zI _) _);show SvS _ _ (_::_) _)
   |((with_reducible show SvS _ _ (.Assign [.Name _ _] (.List [] _) _::_) _);exists yF,nd)
   |((with_reducible show SvS _ _ (.Assign [.Name _ _] _ _::_) _);exists zS,nd)
   |((with_reducible show SvS _ _ (.Expr (.Call (.Attribute _ "append" _) _ _ _) _::_) _);exists um,rfl)
   |((with_reducible show SvS _ _ (.Return (some (.Name _ _)) _::_) _);exists uT,rfl)
   |with_reducible refine yH ?_
   |with_reducible refine sv_cont ?_
   |with_reducible refine sv_pass ?_
   |with_reducible refine yP ?_
   |with_reducible refine zt ?_
   |((with_reducible refine wQ ?hk ?_);case hk=>first|rfl|decide +kernel)
   |((with_reducible refine xq ?hk ?_);case hk=>first|rfl|decide +kernel))
  |((with_reducible show xK _ _);refine⟨_,rfl,by first|decide|omega,by first|decide|(show _<big;unfold big;omega),fun _ _ _=>?_⟩)
  |((with_reducible refine cv ?hk ?_);case hk=>first|rfl|decide +kernel)
  |((with_reducible refine me ?hk ?_);case hk=>first|rfl|decide +kernel)
  |refine⟨_,_,rfl,rfl,?_⟩
  |refine⟨_,_,_,rfl,rfl,rfl,?_⟩
  |refine⟨_,rfl,zi1 rfl,?_⟩
  |refine⟨_,rfl,rfl,?_⟩
  |refine⟨_,rfl,?_⟩))
namespace K72
open PySem PySem.Spec PyProof.Rows L2
abbrev nB :Stmt:=top 36
abbrev cW :Stmt:=top 37
def mY :List A→(A→Prop)→Prop:=fun as Q=>∃ds x,as=[.dat (.list ds),.dat (.str x)]∧(∀d∈ds,yi d=true)∧ds.length≤48∧∀ys:List Int,Edg ds x ys→ys.Pairwise (·≤·)→ys.length≤97→Q (.own (ys.map .int))
def cb (C:Addr)(cs:Cs):List A→(A→Prop)→Prop:=fun as Q=>∃ds es,as=[.dat (wx C cs ds),.dat (wx C cs es)]∧zA ds∧zA es∧ds.length+es.length≤48∧∀r,Unl ds es r→Q (.dat (pJ r))
section
variable {P:Program}{w:World}{K:PySem.W.Frag}{mg:Str→Option Value}{base:Heap}{cs:Cs}
theorem aY :zm ["rules","word","found","rule"] ["rules","word"] (zc nB):=⟨rfl,rfl,rfl,by decide +kernel,rfl,by decide +kernel,by decide +kernel⟩
theorem je {f:Addr}{fd:FuncData}(F:Fun K "edges" "edges" nB f fd)(hm:mg "edges"=some (.ref f))(hb:Binds K fd ["rules","word"] [])(nb:NbT mg)(nS:mg "set"=none):Cal P w K mg base "edges" 1 mY:=by
 refine vR F hm hb aY (fun as Q h=>?_) (fun cdv A' outer s H E as Q hr h=>?_)
 ·obtain⟨ds,x,rfl,_⟩:=h
  rfl
 ·obtain⟨ds,x,rfl,rd,hl,q⟩:=h
  have nd:=aY.nd
  refine yF 2 nd (zX ?_)
  and_intros
  refine xJ (.one 3) (wb (zf 0 rfl ⟨_,rfl,?_⟩))
  refine yn (fun i α=>∃(ns:List Int) (o3:Option A),α=[some (.dat (.list ds)),some (.dat (.str x)),some (.own (ns.map .int)),o3]∧ns.length≤1+2*i∧0∈ns∧(∀y∈ns,0≤y)∧∀j<i,∀a b v,ds[j]?=some (.tuple [.str x,.int a,.int b,v])→a∈ns∧b+1∈ns) ⟨[0],none,rfl,zg5 _,by simp,by simp,fun j hj=>absurd hj (zv7 _)⟩ ?_ ?_
  ·rintro i d α hd ⟨ns,o3,rfl,ln,z0,zp,za⟩
   have hi:=(zh1.mp hd).1
   obtain⟨u,a,b,v,hu,rfl,a0,ab,b1,hw⟩:=yu (rd d (zj7 hd))
   refine⟨_,rfl,?_⟩
   and_intros
   refine yA (fun hc=>?_) (fun hc=>?_)
   ·have hux:u=x:=zq3 hc
    subst hux
    refine sT 2 rfl (EvL.d (zX ?_))
    and_intros
    refine⟨by rw[zh4];show ns.length+2≤1000;omega,zt (zt ⟨ns++[a,b+1],_,by rw[List.map_append];rfl,by rw[zj2];show ns.length+2≤_;omega,zh8 _ z0,fun y hy=>?_,fun j hj a' b' v' e=>?_⟩)⟩
    ·rcases zi0.mp hy with hy|hy
     ·exact zp y hy
     ·simp only[zg3,zg9,zj8] at hy
      omega
    ·rcases zl0 j i with z|z
     ·obtain⟨h1,h2⟩:=za j z a' b' v' e
      exact⟨zh8 _ h1,zh8 _ h2⟩
     ·have:j=i:=by omega
      subst this
      rw[hd] at e
      cases e
      exact⟨by simp,by simp⟩
   ·refine zt (zt ⟨ns,_,rfl,by omega,z0,zp,fun j hj a' b' v' e=>?_⟩)
    rcases zl0 j i with z|z
    ·exact za j z a' b' v' e
    ·have:j=i:=by omega
     subst this
     rw[hd] at e
     cases e
     exact absurd rfl (of_decide_eq_false hc)
  ·rintro α ⟨ns,o3,rfl,ln,z0,zp,za⟩
   refine vj 2 rfl ?_
   refine uQ (pT rfl (by rfl) nb.sorted (by rfl) nS (zf 2 rfl ⟨ns,rfl,by omega,fun ys hy pw ly=>?_⟩))
   refine q ys ⟨(hy 0).mpr z0,fun y h=>zp y ((hy y).mp h),fun a b v h=>?_⟩ (pw.imp fun z=>zq0 z) (by omega)
   obtain⟨j,hj⟩:=zw1 h
   obtain⟨h1,h2⟩:=za j (zh1.mp hj).1 a b v hj
   exact⟨(hy a).mpr h1,fun _=>(hy _).mpr h2⟩
theorem tM {ds:List PyData}(ro:zA ds)(x:Str)(day:Int):zW 5000 (zy ds x day):=by
 unfold zy
 split
 ·rename_i d e
  exact (ro d (zs8.mp (List.mem_of_find?_eq_some e))).wn
 ·exact gm x
theorem zA.rd {ds:List PyData}(h:zA ds):∀d∈ds,yi d=true:=fun d hd=>(h d hd).rule
theorem pY {ds es:List PyData}(rd:zA ds)(re:zA es){x:Str}(hx:x∈words)(day:Int){Q:Bool→Prop}(h1:zy ds x day=zy es x day→Q true)(h2:zy ds x day≠zy es x day→Q false):ll (zy ds x day) (zy es x day) Q:=by
 have n1:=tM rd x day
 have n2:=tM re x day
 refine eqk n1.shaped n2.shaped n1.nod n2.nod ?_
 cases z:PyData.eqv (zy ds x day) (zy es x day) with
 |true=>exact h1 (gy hx (uB rd.rd hx day) (uB re.rd hx day) z)
 |false=>exact h2 fun e=>by rw[e,SeqAt.eqv_refl _ n2.lay] at z;cases z
theorem zc1 :zm ["one","other","rules","word","day"] ["one","other"] (zc cW):=⟨rfl,rfl,rfl,by decide +kernel,rfl,by decide +kernel,by decide +kernel⟩
theorem jZ :(tbU.map fun p=>PyData.str p.1)=words.map .str:=rfl
theorem eA {f C dU:Addr}{fd:FuncData}{n:Nat}(F:Fun K "unlike" "unlike" cW f fd)(hm:mg "unlike"=some (.ref f))(hb:Binds K fd ["one","other"] [])(mU:mg "USUAL"=some (.ref dU))(DN:sE K w dU tbU n)(hU:(dU == sysModules)=false)(CE:Cal P w K mg base "edges" 1 mY)(MR:wy P w K mg base C "rules" 3 (uX C cs))(MT:wy P w K mg base C "tells_of" 2 (qc C cs)):Cal P w K mg base "unlike" 4 (cb C cs):=by
 refine vR F hm hb zc1 (fun as Q h=>?_) (fun cdv A' outer s H E as Q hr h=>?_)
 ·obtain⟨ds,es,rfl,_⟩:=h
  rfl
 ·obtain⟨ds,es,rfl,rd,re,hl,q⟩:=h
  have nd:=zc1.nd
  and_intros
  refine⟨rd.rules,by omega,?_⟩
  and_intros
  refine⟨re.rules,by omega,?_⟩
  refine⟨ds,es,rfl,rfl,by omega,?_⟩
  refine xJ (.one 3) (jQ (by rfl) mU DN hU ?_)
  rw[jZ]
  refine yn (fun i α=>∃o3 o4:Option A,α=[some (.dat (wx C cs ds)),some (.dat (wx C cs es)),some (.dat (.list (ds++es))),o3,o4]∧∀x∈words.take i,sW ds es x) ⟨none,none,rfl,fun x hx=>by simp at hx⟩ ?_ ?_
  ·rintro i d α hd ⟨o3,o4,rfl,al⟩
   rw[zi6,zj0] at hd
   obtain⟨x,hx,rfl⟩:=hd
   have hxw:x∈words:=zj7 hx
   refine⟨_,rfl,?_⟩
   refine xJ (.one 4) (wb (EvL.d (vn CE (hr.mono (by decide)) (by rfl) (zb (zf 2 rfl (zb (zf 3 rfl (zh ⟨ds++es,x,rfl,fun d hd=>(zi0.mp hd).elim (rd.rd d) (re.rd d),by rw[zj2];exact hl,fun ys ed up ly=>⟨_,rfl,⟨_,rfl,?_⟩⟩⟩))))))))
   refine yn (fun j α=>∃o4:Option A,α=[some (.dat (wx C cs ds)),some (.dat (wx C cs es)),some (.dat (.list (ds++es))),some (.dat (.str x)),o4]∧∀y∈ys.take j,zy ds x y=zy es x y) ⟨_,rfl,fun y hy=>by simp at hy⟩ ?_ ?_
   ·rintro j d α hd ⟨o4,rfl,ay⟩
    rw[zi6,zj0] at hd
    obtain⟨y,hy,rfl⟩:=hd
    refine⟨_,rfl,?_⟩
    and_intros
    refine⟨ds,x,y,rfl,rd.rules,hxw,?_⟩
    and_intros
    refine⟨es,x,y,rfl,re.rules,hxw,?_⟩
    refine pY rd re hxw y (fun e=>?_) (fun ne=>?_)
    ·refine xq rfl (zt (zt ⟨_,rfl,fun z hz=>?_⟩))
     rw[zp2,hy] at hz
     rcases zi0.mp hz with hz|hz
     ·exact ay z hz
     ·have hz':z∈[y]:=by simpa using hz
      rw[zj4.mp hz'];exact e
    ·refine wQ rfl ?_
     and_intros
     exact q (some (x,y)) ⟨i,ed.fst rd.rd re.rd up hx al hy ay ne⟩
   ·rintro α ⟨o4,rfl,ay⟩
    rw[zh4,zm9] at ay
    refine zt ⟨_,_,rfl,fun z hz=>?_⟩
    rw[zp2,hx] at hz
    rcases zi0.mp hz with hz|hz
    ·exact al z hz
    ·have hz':z∈[x]:=by simpa using hz
     rw[zj4.mp hz']
     exact ed.all rd.rd re.rd ay
  ·rintro α ⟨o3,o4,rfl,al⟩
   rw[zh4,zm9] at al
   and_intros
   exact q none al
end
abbrev rT :Stmt:=top 45
abbrev cx :Stmt:=top 49
def pK :List A→(A→Prop)→Prop:=fun as Q=>∃ds x day,as=[.dat (.list ds),.dat (.str x),.dat (.int day)]∧(∀d∈ds,yi d=true)∧x∈words∧Q (.dat (zy ds x day))
def tbL :List (PyData×PyData):=[(.str "come",.bool true),(.str "go",.bool true),(.str "least",.int 1),(.str "most",.int 14),(.str "fee",.int 0)]
theorem mT {x:Str}(h:x∈words):(ur tbL x).getD .none=qW x:=by
 simp only[words,zg3,zg9,zj8] at h
 rcases h with rfl|rfl|rfl|rfl|rfl|rfl|rfl<;>with_unfolding_all rfl
theorem take_snoc {β:Type}{l:List β}{i:Nat}{d:β}(h:l[i]?=some d):l.take (i+1)=l.take i++[d]:=by
 rw[zp2,h];rfl
def ck :List A→(A→Prop)→Prop:=fun as Q=>∃ds es,as=[.dat (.list ds),.dat (.list es)]∧zA ds∧zA es∧ds.length+es.length≤48∧∀r,Unl ds es r→Q (.dat (pJ r))
section
variable {P:Program}{w:World}{K:PySem.W.Frag}{mg:Str→Option Value}{base:Heap}{cs:Cs}
theorem eD :zm ["_law_rules","_law_word","_law_day_here","_law_found","_law_rule_here"] ["_law_rules","_law_word","_law_day_here"] (zc rT):=⟨rfl,rfl,rfl,by decide +kernel,rfl,by decide +kernel,by decide +kernel⟩
set_option maxHeartbeats 4000000 in
theorem nN {f:Addr}{fd:FuncData}(F:Fun K "_law_tells" "_law_tells" rT f fd)(hm:mg "_law_tells"=some (.ref f))(hb:Binds K fd ["_law_rules","_law_word","_law_day_here"] []):Cal P w K mg base "_law_tells" 1 pK:=by
 refine vR F hm hb eD (fun as Q h=>?_) (fun cdv A' outer s H E as Q hr h=>?_)
 ·obtain⟨ds,x,day,rfl,_⟩:=h
  rfl
 ·obtain⟨ds,x,day,rfl,rd,hx,q⟩:=h
  obtain⟨v,_,hv⟩:=iZ hx
  refine zS 3 eD.nd (gh (D:=tbL) (by rfl) (by rfl) (by decide +kernel) (by unfold tbL;simp[scV]) (zf 1 rfl ⟨x,v,rfl,by rw[mT hx];exact hv,?_⟩))
  rw[mT hx]
  refine qw (pat:=.one 4) zt5 rfl (yr (i:=4) eD.nd rfl (by first|exact Or.inl rfl|exact Or.inr rfl)) (wb (zf 0 rfl (⟨_,rfl,?_⟩)))
  refine yn (fun i α=>∃v4,α=[some (.dat (.list ds)),some (.dat (.str x)),some (.dat (.int day)),some (.dat (zy (ds.take i) x day)),v4]) ⟨none,rfl⟩ ?_ ?_
  ·rintro i d α hd ⟨v4,rfl⟩
   obtain⟨u,a,b,e,hu,rfl,_,_,_,_⟩:=yu (rd d (zj7 hd))
   refine⟨_,rfl,?_⟩
   refine yP (EvW.t (mP (fun _ k=>qv (qJ (fun _ _=>rfl) (zf 4 rfl (zr (⟨_,_,_,rfl,rfl,rfl,zf 1 rfl ⟨_,_,rfl,rfl,k⟩⟩)))))
    (fun hp _ k=>uP (eM (by with_unfolding_all rfl) (fun _ k=>qJ (fun _ _=>rfl) (zf 4 rfl (zr (⟨_,_,_,rfl,rfl,rfl,k⟩)))) (fun _ k=>zf 2 rfl (k)) (fun _ k=>qJ (fun _ _=>rfl) (zf 4 rfl (zr (⟨_,_,_,rfl,rfl,rfl,k⟩)))) (k))) ?_))
   have es:=pU (ds.take i) (.tuple [.str u,.int a,.int b,e]) x day
   rw[←take_snoc hd] at es
   refine yA (fun h=>?_) (fun h=>?_)
   ·refine zS 3 eD.nd (qJ (fun _ _=>rfl) (zf 4 rfl (zr (⟨_,_,_,rfl,rfl,rfl,?_⟩))))
    rw[if_pos (show xW x day (.tuple [.str u,.int a,.int b,e])=true from h)] at es
    refine zt (zt ⟨some (.dat (.tuple [.str u,.int a,.int b,e])),?_⟩)
    rw[es];rfl
   ·rw[if_neg (by rw[show xW x day (.tuple [.str u,.int a,.int b,e])=false from h];decide)] at es
    refine zt (zt ⟨some (.dat (.tuple [.str u,.int a,.int b,e])),?_⟩)
    rw[es];rfl
  ·rintro α ⟨v4,rfl⟩
   rw[zm9]
   exact yH (zf 3 rfl q)
theorem zc5 :zm ["_law_one","_law_other","_law_days","_law_word","_law_first","_law_last","_law_worth_here","_law_day_here"] ["_law_one","_law_other"] (zc cx):=⟨rfl,rfl,rfl,by decide +kernel,rfl,by decide +kernel,by decide +kernel⟩
theorem dE {f:Addr}{fd:FuncData}(F:Fun K "_law_due" "_law_due" cx f fd)(hm:mg "_law_due"=some (.ref f))(hb:Binds K fd ["_law_one","_law_other"] [])(nb:NbT mg)(CT:Cal P w K mg base "_law_tells" 1 pK):Cal P w K mg base "_law_due" 2 ck:=by
 refine vR F hm hb zc5 (fun as Q h=>?_) (fun cdv A' outer s H E as Q hr h=>?_)
 ·obtain⟨ds,es,rfl,_⟩:=h
  rfl
 ·obtain⟨ds,es,rfl,rd,re,hl,q⟩:=h
  have nd:=zc5.nd
  have rr:∀d∈ds++es,yi d=true:=fun d hd=>(zi0.mp hd).elim (rd.rd d) (re.rd d)
  have lr:(ds++es).length≤48:=by rw[zj2];exact hl
  refine yF 2 nd (zX ?_)
  and_intros
  refine vh (fun α=>∃(ns:List Int) (o3 o4 o5 o6:Option A),α=[some (.dat (.list ds)),some (.dat (.list es)),some (.own (ns.map .int)),o3,o4,o5,o6,none]∧ns.length≤97∧0∈ns∧(∀y∈ns,0≤y)∧∀x a b v,.tuple [.str x,.int a,.int b,v]∈ds++es→a∈ns∧(b+1≤1000000→b+1∈ns)) ?_ ?_
  ·refine xJ (.many [3,4,5,6]) (wb (EvL.d (xY (zf 0 rfl (zf 1 rfl ⟨_,_,rfl,rfl,by omega,⟨_,rfl,?_⟩⟩)))))
   refine yn (fun i α=>∃(ns:List Int) (o3 o4 o5 o6:Option A),α=[some (.dat (.list ds)),some (.dat (.list es)),some (.own (ns.map .int)),o3,o4,o5,o6,none]∧ns.length≤1+2*i∧0∈ns∧(∀y∈ns,0≤y)∧∀j<i,∀x a b v,(ds++es)[j]?=some (.tuple [.str x,.int a,.int b,v])→a∈ns∧(b+1≤1000000→b+1∈ns)) ⟨[0],none,none,none,none,rfl,zg5 _,by simp,by simp,fun j hj=>absurd hj (zv7 _)⟩ ?_ ?_
   ·rintro i d α hd ⟨ns,o3,o4,o5,o6,rfl,ln,z0,zp,za⟩
    have hi:=(zh1.mp hd).1
    obtain⟨u,a,b,v,hu,rfl,a0,ab,b1,hw⟩:=yu (rr d (zj7 hd))
    refine⟨_,rfl,?_⟩
    refine sT 2 rfl (EvL.d (zX ?_))
    and_intros
    refine⟨by rw[zh4];show ns.length+2≤1000;omega,zt ⟨ns++[a,if b+1<1000000 then b+1 else 1000000],some (.dat (.str u)),some (.dat (.int a)),some (.dat (.int b)),some (.dat v),by rw[List.map_append];rfl,by rw[zj2];show ns.length+2≤_;omega,zh8 _ z0,fun y hy=>?_,fun j hj x' a' b' v' e=>?_⟩⟩
    ·rcases zi0.mp hy with hy|hy
     ·exact zp y hy
     ·simp only[zg3,zg9,zj8] at hy
      rcases hy with rfl|rfl
      ·exact a0
      ·split<;>omega
    ·rcases zl0 j i with z|z
     ·obtain⟨h1,h2⟩:=za j z x' a' b' v' e
      exact⟨zh8 _ h1,fun k=>zh8 _ (h2 k)⟩
     ·have:j=i:=by omega
      subst this
      rw[hd] at e
      cases e
      refine⟨by simp,fun k=>?_⟩
      have:(if b+1<1000000 then b+1 else 1000000)=b+1:=by split<;>omega
      rw[this]
      simp
   ·rintro α ⟨ns,o3,o4,o5,o6,rfl,ln,z0,zp,za⟩
    refine zt ⟨ns,o3,o4,o5,o6,rfl,by omega,z0,zp,fun x a b v h=>?_⟩
    obtain⟨j,hj⟩:=zw1 h
    exact za j (zh1.mp hj).1 x a b v hj
  rintro α ⟨ns,o3,o4,o5,o6,rfl,ln,z0,zp,za⟩
  refine vj 2 rfl ?_
  refine xJ (.one 3) (bq (wC (zb (zU (zb (zU (zb (zU (zb (zU (zb (zU (zb (zU (zb (zU (zh ⟨_,rfl,zi1 rfl,⟨_,rfl,?_⟩⟩)))))))))))))))))
  refine (?_:xQ _ _ _ _ _ (words.map .str) _)
  refine yn (fun i α=>∃o3 o7:Option A,α=[some (.dat (.list ds)),some (.dat (.list es)),some (.dat (.list (ns.map .int))),o3,o4,o5,o6,o7]∧∀x∈words.take i,sW ds es x) ⟨_,none,rfl,fun x hx=>by simp at hx⟩ ?_ ?_
  ·rintro i d α hd ⟨o3,o7,rfl,al⟩
   rw[zi6,zj0] at hd
   obtain⟨x,hx,rfl⟩:=hd
   have hxw:x∈words:=zj7 hx
   refine⟨_,rfl,?_⟩
   refine xJ (.one 7) (wb (EvL.d (pG (by rfl) nb.sorted (zf 2 rfl ⟨ns,rfl,by omega,fun ys pm up=>⟨_,rfl,?_⟩⟩))))
   have hy:∀k,k∈ys↔k∈ns:=fun k=>pm.mem_iff
   have ed:Edg (ds++es) x ys:=⟨(hy 0).mpr z0,fun y h=>zp y ((hy y).mp h),fun a b v h=>⟨(hy a).mpr (za x a b v h).1,fun k=>(hy _).mpr ((za x a b v h).2 k)⟩⟩
   refine yn (fun j α=>∃o7:Option A,α=[some (.dat (.list ds)),some (.dat (.list es)),some (.dat (.list (ns.map .int))),some (.dat (.str x)),o4,o5,o6,o7]∧∀y∈ys.take j,zy ds x y=zy es x y) ⟨_,rfl,fun y hy=>by simp at hy⟩ ?_ ?_
   ·rintro j d α hd ⟨o7,rfl,ay⟩
    rw[zi6,zj0] at hd
    obtain⟨y,hy',rfl⟩:=hd
    refine⟨_,rfl,?_⟩
    and_intros
    refine⟨ds,x,y,rfl,rd.rd,hxw,?_⟩
    and_intros
    refine⟨es,x,y,rfl,re.rd,hxw,?_⟩
    refine pY rd re hxw y (fun e=>?_) (fun ne=>?_)
    ·refine xq rfl (zt (zt ⟨_,rfl,fun z hz=>?_⟩))
     rw[zp2,hy'] at hz
     rcases zi0.mp hz with hz|hz
     ·exact ay z hz
     ·have hz':z∈[y]:=by simpa using hz
      rw[zj4.mp hz'];exact e
    ·refine wQ rfl ?_
     and_intros
     exact q (some (x,y)) ⟨i,ed.fst rd.rd re.rd up hx al hy' ay ne⟩
   ·rintro α ⟨o7,rfl,ay⟩
    rw[zh4,zm9] at ay
    refine zt ⟨_,_,rfl,fun z hz=>?_⟩
    rw[zp2,hx] at hz
    rcases zi0.mp hz with hz|hz
    ·exact al z hz
    ·have hz':z∈[x]:=by simpa using hz
     rw[zj4.mp hz']
     exact ed.all rd.rd re.rd ay
  ·rintro α ⟨o3,o7,rfl,al⟩
   rw[zh4,zm9] at al
   and_intros
   exact q none al
end
abbrev bx :Stmt:=top 47
abbrev iD :Stmt:=top 48
def dQ :List A→(A→Prop)→Prop:=fun as Q=>∃y:Int,as=[.tape,.dat (.int y),.dat (.int 6)]∧0≤y∧y≤999990∧∀ds,zA ds→ds.length≤7→Q (.own ds)
def ic :List A→(A→Prop)→Prop:=fun as Q=>∃(ds:List PyData) (y:Int),as=[.tape,.dat (.list ds),.dat (.int y)]∧zA ds∧ds.length≤7∧0≤y∧y≤999990∧∀es,zA es→es.length≤8→Q (.own es)
theorem zA.noLs {ds:List PyData}(h:zA ds):L2.noLs ds=true:=by
 induction ds with
 |nil=>rfl
 |cons d r ih=>
  have h1:=h d zh3
  obtain⟨u,i,j,v,hu,rfl,_,_,_,hw⟩:=yu h1.rule
  have h2:=ih fun e he=>h e (zg7 _ he)
  show (L2.noLs [.str u,.int i,.int j,v]&&L2.noLs r)=true
  rw[h2,Bool.and_true]
  show (true&&(true&&(true&&(L2.noL v&&true))))=true
  rw[rN hw]
  rfl
theorem bj {ds:List PyData}(h:L2.noLs ds=true):∀d∈ds,L2.noL d=true:=by
 induction ds with
 |nil=>intro d hd;simp at hd
 |cons e r ih=>
  have h':(L2.noL e&&L2.noLs r)=true:=h
  rw[zi9] at h'
  intro d hd
  rcases zg3.mp hd with rfl|hd
  ·exact h'.1
  ·exact ih h'.2 d hd
theorem rV {ds:List PyData}{v:Int}(v0:0≤v)(hv:v.toNat<ds.length):atI ds v=some ds[v.toNat]:=by
 unfold atI ixN
 rw[if_pos v0,if_pos (by omega)]
 show ds[v.toNat]?=_
 rw[zh0 hv]
theorem ak {ds:List PyData}(h:zA ds){d:PyData}(hd:xl d)(j:Int):zA (vG ds j d):=fun e he=>by
 unfold vG at he
 rcases zi0.mp he with z|z
 ·exact h e (zn2 z)
 ·rcases zg3.mp z with rfl|z
  ·exact hd
  ·exact h e (zn1 z)
theorem iI {ds:List PyData}(h:zA ds){d:PyData}(hd:xl d):zA (ds++[d]):=fun e he=>by
 rcases zi0.mp he with z|z
 ·exact h e z
 ·rw[zj4.mp z];exact hd
theorem tR {ds:List PyData}(h:zA ds){d:PyData}(hd:xl d)(j:Nat):zA (ds.set j d):=fun e he=>by
 rcases List.mem_or_eq_of_mem_set he with z|z
 ·exact h e z
 ·rw[z];exact hd
theorem cy {ds:List PyData}(h:zA ds)(j:Nat):zA (ds.eraseIdx j):=fun e he=>h e (List.mem_of_mem_eraseIdx he)
section
variable {P:Program}{w:World}{K:PySem.W.Frag}{mg:Str→Option Value}{base:Heap}
theorem zb7 :zm ["_law_row","_law_day_here","_law_most","_law_rules","_law_k"] ["_law_row","_law_day_here","_law_most"] (zc bx):=⟨rfl,rfl,rfl,by decide +kernel,rfl,by decide +kernel,by decide +kernel⟩
theorem fF {f:Addr}{fd:FuncData}(F:Fun K "_law_few" "_law_few" bx f fd)(hm:mg "_law_few"=some (.ref f))(hb:Binds K fd ["_law_row","_law_day_here","_law_most"] [])(nb:NbT mg)(CD:Cal P w K mg base "_law_take" 1 xK)(CR:Cal P w K mg base "_law_rule" 4 qE):Cal P w K mg base "_law_few" 5 dQ:=by
 refine vR F hm hb zb7 (fun as Q h=>?_) (fun cdv A' outer s H E as Q hr h=>?_)
 ·obtain⟨y,rfl,_⟩:=h
  rfl
 ·obtain⟨y,rfl,y0,y1,q⟩:=h
  have nd:=zb7.nd
  refine yF 3 nd (zX (zh ⟨_,rfl,zi1 rfl,?_⟩))
  refine vh (fun α=>∃ds:List PyData,zA ds∧ds.length≤1∧α=[some .tape,some (.dat (.int y)),some (.dat (.int 6)),some (.own ds),none]) ?_ ?_
  ·and_intros
   refine yA (fun _=>?_) (fun _=>zt (zt ⟨[],fun d hd=>by simp at hd,by simp,rfl⟩))
   and_intros
   rename_i u1 ua1 ub1 u2 ua2 ub2
   refine⟨by simp,zt (zt ⟨[_],fun e he=>?_,by simp,rfl⟩)⟩
   rw[zj4.mp he]
   refine xl.of (by simp[words]) (by decide) (by decide) (by decide) ?_ ((xB (by omega) (by omega)).mono (by decide)) (zi5 _)
   rw[xG]
   exact (zn7 _ _).mpr (.inr (within_int (by omega) (by omega)))
  ·rintro α ⟨ds,ro,ld,rfl⟩
   refine xJ (.one 4) (kr (by rfl) nb.range ?_)
   and_intros
   refine⟨by omega,by omega,?_⟩
   refine yn (fun i α=>∃(ds:List PyData) (o4:Option A),zA ds∧ds.length≤1+i∧α=[some .tape,some (.dat (.int y)),some (.dat (.int 6)),some (.own ds),o4]) ⟨ds,none,ro,ld,rfl⟩ ?_ ?_
   ·rintro i d α hd ⟨ds,o4,ro,ld,rfl⟩
    have hi:=(zh1.mp hd).1
    rw[zh4,yZ] at hi
    refine⟨_,rfl,?_⟩
    and_intros
    refine⟨y0,by omega,fun d rd=>⟨by omega,zt ⟨_,_,iI ro rd,by rw[zj2];show ds.length+1≤_;omega,rfl⟩⟩⟩
   ·rintro α ⟨ds,o4,ro,ld,rfl⟩
    rw[zh4,yZ] at ld
    exact uT 3 rfl (q ds ro (by omega))
abbrev NmT :List Str:=["_law_row","_law_rules","_law_day_here","_law_some","_law_at","_law_way","_law_word","_law_first","_law_last","_law_worth_here","_law_one","_law_other"]
theorem aX :zm NmT ["_law_row","_law_rules","_law_day_here"] (zc iD):=⟨rfl,rfl,rfl,by decide +kernel,rfl,by decide +kernel,by decide +kernel⟩
theorem iB {f:Addr}{fd:FuncData}(F:Fun K "_law_turned" "_law_turned" iD f fd)(hm:mg "_law_turned"=some (.ref f))(hb:Binds K fd ["_law_row","_law_rules","_law_day_here"] [])(nb:NbT mg)(CD:Cal P w K mg base "_law_take" 1 xK)(CR:Cal P w K mg base "_law_rule" 4 qE)(CW:Cal P w K mg base "_law_worth" 3 sv):Cal P w K mg base "_law_turned" 5 ic:=by
 refine vR F hm hb aX (fun as Q h=>?_) (fun cdv A' outer s H E as Q hr h=>?_)
 ·obtain⟨ds,y,rfl,_⟩:=h
  rfl
 ·obtain⟨ds,y,rfl,ro,ld,y0,y1,q⟩:=h
  have nd:=aX.nd
  have hbig:(1000:Int)<big:=by decide
  refine yF 3 nd (qx (by rfl) nb.list (zf 1 rfl ⟨ds,rfl,?_⟩))
  refine zS 4 nd (zB CD (hr.mono (by decide)) (by rfl) (zw 0 rfl (zb (wU 3 rfl (xk (vT (by rfl) nb.len (zf 3 rfl ⟨_,rfl,zr ⟨_,_,rfl,rfl,rfl,zh ⟨_,rfl,by omega,by omega,fun k k0 k1=>?_⟩⟩⟩)))))))
  refine zS 5 nd (zB CD (hr.mono (by decide)) (by rfl) (zw 0 rfl (zb (zr (zh ⟨_,rfl,by decide,by decide,fun g g0 g1=>?_⟩)))))
  refine vh (fun α=>∃(es:List PyData) (o4 o5 o6 o7 o8 o9 o10 o11:Option A),zA es∧es.length≤8∧α=[some .tape,some (.dat (.list ds)),some (.dat (.int y)),some (.own es),o4,o5,o6,o7,o8,o9,o10,o11]) ?_ ?_
  ·have nn:=ro.nice (by omega)
   have ix:∀{v:Int},0≤v→v.toNat<ds.length→ixN ds.length v=some v.toNat:=fun {v} v0 hv=>by
    unfold ixN
    rw[if_pos v0,if_pos (by omega)]
   have nl:∀{v:Int} (hv:v.toNat<ds.length),L2.noL ds[v.toNat]=true:=fun hv=>bj ro.noLs _ (zm2 hv)
   refine yP (EvT.imp (Q':=fun c=>c=false→0<ds.length) ?_ fun c hc=>?_)
   ·refine uS 3 rfl (EvW.t (il ?_))
    and_intros
    refine iA (fun _=>fun z=>by cases z) (fun _=>?_)
    and_intros
    refine eqk nn.shaped (by decide +kernel) nn.nod (by decide +kernel) ?_
    cases ds with
    |nil=>exact fun z=>by revert z;decide +kernel
    |cons d r=>exact fun _=>Nat.succ_pos _
   cases c with
   |true=>
    refine wQ rfl (lR 3 rfl (zf 4 rfl (zB CR (hr.mono (by decide)) (by rfl) (zw 0 rfl (zb (zf 2 rfl (zh ⟨y,rfl,y0,by omega,fun d rd=>⟨k,rfl,by omega,by omega,by omega,?_⟩⟩)))))))
    exact zt (zt ⟨_,_,_,_,_,_,_,_,_,ak ro rd k,by rw[pW];omega,rfl⟩)
   |false=>
   have pos:=hc rfl
   refine xq rfl ?_
   refine yP (EvT.imp (Q':=fun c=>c=true→k.toNat<ds.length) ?_ fun c hc=>?_)
   ·refine uS 3 rfl (EvW.t (vU ?_))
    and_intros
    refine iA (fun _=>?_) (fun _=>fun z=>by cases z)
    and_intros
    intro z
    have:=zq3 z
    omega
   cases c with
   |true=>
    have hk:=hc rfl
    refine wQ rfl (iQ 3 rfl (zf 4 rfl ⟨k,k.toNat,rfl,by omega,by omega,(qA (ix k0 hk)).1,hk,?_⟩))
    repeat refine zt ?_
    exact⟨_,_,_,_,_,_,_,_,_,cy ro _,by have:=List.length_eraseIdx_le (l:=ds) (i:=k.toNat);omega,rfl⟩
   |false=>
   refine xq rfl ?_
   refine yP ?_
   and_intros
   refine yA (fun _=>?_) (fun _=>?_)
   ·refine um 3 rfl (wU 3 rfl (sH hr.one (fun _ _=>rfl) (zf 3 rfl (zB CD (hr.mono (by decide)) (by rfl) (zw 0 rfl (zb (vT (by rfl) nb.len (zf 3 rfl ⟨_,rfl,zh ⟨_,rfl,by omega,by omega,fun v v0 v1=>?_⟩⟩))))))))
    have hv:v.toNat<ds.length:=by omega
    refine ixk rfl rfl (rV v0 hv) ⟨nl hv,by omega,?_⟩
    repeat refine zt ?_
    exact⟨_,_,_,_,_,_,_,_,_,iI ro (ro _ (zm2 hv)),by rw[zj2];show ds.length+1≤8;omega,rfl⟩
   refine yP (EvT.imp (Q':=fun c=>c=true→k.toNat<ds.length) ?_ fun c hc=>?_)
   ·refine uS 3 rfl (EvW.t (vU ?_))
    and_intros
    refine iA (fun _=>?_) (fun _=>fun z=>by cases z)
    and_intros
    intro z
    have:=zq3 z
    omega
   cases c with
   |true=>
    have hk:=hc rfl
    have rk:=ro _ (zm2 hk)
    obtain⟨u,a,b,v,hu,hd,a0,ab,b1,hw⟩:=yu rk.rule
    have hat:atI ds k=some (.tuple [.str u,.int a,.int b,v]):=by rw[rV k0 hk,hd]
    have hnl:=nl hk
    rw[hd] at hnl
    refine wQ rfl ?_
    refine eV (pat:=.many [6,7,8,9]) (tN (n:=4) (K:=K) rfl rfl (yM (yr (i:=6) nd rfl (Or.inl rfl)) (yM (yr (i:=7) nd rfl (Or.inl rfl)) (yM (yr (i:=8) nd rfl (Or.inl rfl)) (yM (yr (i:=9) nd rfl (Or.inl rfl)) uW))))) (wU 3 rfl (sH hr.one (fun _ _=>rfl) (zf 3 rfl (zf 4 rfl (ixk rfl rfl hat ⟨hnl,⟨_,rfl,?_⟩⟩)))))
    refine bg 3 rfl ?_
    and_intros
    rename_i v1 va1 vb1
    refine⟨hu,fun d w1 w2 w3=>?_⟩
    and_intros
    refine⟨k,k.toNat,rfl,ix k0 hk,?_⟩
    repeat refine zt ?_
    exact⟨_,_,_,_,_,_,_,_,_,tR ro (xl.of hu a0 (by split<;>omega) (by split<;>omega) w1 w2 w3) _,by rw[zk6];omega,rfl⟩
   |false=>
   refine xq rfl ?_
   refine yP ?_
   and_intros
   refine yA (fun _=>?_) (fun _=>?_)
   ·refine zS 10 nd (zB CD (hr.mono (by decide)) (by rfl) (zw 0 rfl (zb (wU 3 rfl (vT (by rfl) nb.len (zf 3 rfl ⟨_,rfl,rfl,zh ⟨_,rfl,by omega,by omega,fun i i0 i1=>?_⟩⟩))))))
    refine zS 11 nd (zB CD (hr.mono (by decide)) (by rfl) (zw 0 rfl (zb (wU 3 rfl (vT (by rfl) nb.len (zf 3 rfl ⟨_,rfl,rfl,zh ⟨_,rfl,by omega,by omega,fun j j0 j1=>?_⟩⟩))))))
    have hi:i.toNat<ds.length:=by omega
    have hj:j.toNat<ds.length:=by omega
    refine dG 3 rfl rfl (wU 3 rfl (wC (zb (sH hr.one (fun _ _=>rfl) (zf 3 rfl (zf 11 rfl (ixk rfl rfl (rV j0 hj) (zb (sH hr.one (fun _ _=>rfl) (zf 3 rfl (zf 10 rfl (ixk rfl rfl (rV i0 hi) (zh ⟨_,rfl,zi1 rfl,?_,_,_,rfl,zf 10 rfl ⟨i,i.toNat,rfl,ix i0 hi,zf 11 rfl ⟨j,j.toNat,rfl,ix j0 hj,?_⟩⟩⟩)))))))))))))
    ·show (L2.noL ds[j.toNat]&&(L2.noL ds[i.toNat]&&true))=true
     rw[nl hi,nl hj];rfl
    ·repeat refine zt ?_
     exact⟨_,_,_,_,_,_,_,_,_,tR (tR ro (ro _ (zm2 hj)) _) (ro _ (zm2 hi)) _,by rw[zk6,zk6];omega,rfl⟩
   ·repeat refine zt ?_
    exact⟨_,_,_,_,_,_,_,_,_,ro,by omega,rfl⟩
  ·rintro α ⟨es,o4,o5,o6,o7,o8,o9,o10,o11,re,le,rfl⟩
   exact uT 3 rfl (q es re le)
end
abbrev qN :Stmt:=top 50
abbrev nLa :List Str:=["_law_script","_law_cell","_law_row","_law_day_here","_law_mine","_law_theirs","_law_many","_law_due_here","_law_one","_law_other","_law_found"]
theorem aP :zm nLa ["_law_script"] (zc qN):=⟨rfl,rfl,rfl,by decide +kernel,rfl,by decide +kernel,by decide +kernel⟩
theorem kU {X:Cx}{α α0:Ev}{E:yC}{sts:List Stmt}(hl:α0.length=α.length)(le:∀(i:Nat) a,α0[i]?=some (some a)→α[i]?=some (some a))(h:SvS X α0 sts E):SvS X α sts E:=fun F σ H D m r=>h F σ H D (m.forget hl le) r
theorem fQ {α:Ev}{n:Nat}{a:A}(hl:α.length=n+2):∀(i:Nat) b,((none:Option A)::some a::List.replicate n none)[i]?=some (some b)→(α.set 1 (some a))[i]?=some (some b):=by
 intro i b h
 rcases i with _|_|i
 ·cases h
 ·rw[zn9 (by omega)];exact h
 ·simp only[zu2,zn3] at h
  split at h<;>cases h
abbrev rM :PyData:=.tuple [.str "most",.int 3,.int 9,.int 5]
theorem zc8 :xl rM:=xl.of (by simp[words]) (by decide) (by decide) (by decide) (by decide +kernel) ((xB (by decide) (by decide)).mono (by decide)) (zi5 _)
theorem ir {ds:List PyData}(h:zA ds)(n:Nat):zA ((List.replicate n [rM]).flatten++ds):=fun e he=>by
 rcases zi0.mp he with z|z
 ·obtain⟨l,hl,he'⟩:=List.mem_flatten.mp z
  rw[(List.mem_replicate.mp hl).2] at he'
  rw[zj4.mp he']
  exact zc8
 ·exact h e z
theorem mE (n:Nat)(ds:List PyData):((List.replicate n [rM]).flatten++ds).length=n+ds.length:=by
 rw[zj2,len_rep];simp
theorem jM {ds es:List PyData}{r:Option (Str×Int)}(h:Unl ds es r):zW sizeLine (pJ r):=by
 cases r with
 |none=>exact zW.none.mono (by decide)
 |some q=>
  obtain⟨i,f⟩:=h
  have h1:=rz f.mem
  have h2:zW 2000 (.int q.2):=xB (by have:=f.lo;omega) (by have:=f.hi;omega)
  refine (zW.tuple (n:=2000) (ds:=[.str q.1,.int q.2]) ⟨fun x hx=>?_,fun x hx=>?_⟩ (show _≤4007 from zg5 _)).mono (by decide)
  ·simp only[zg3,zg9,zj8] at hx
   rcases hx with rfl|rfl
   ·exact h1
   ·exact h2
  ·simp only[zg3,zg9,zj8] at hx
   rcases hx with rfl|rfl<;>exact zi5 _
section
variable {P:Program}{w:World}{K:PySem.W.Frag}{mg:Str→Option Value}{base:Heap}{cs:Cs}
theorem af {f C:Addr}{fd:FuncData}(F:Fun K "law" "law" qN f fd)(nb:NbT mg)(CB:Cal P w K mg base "_law_begin" 1 mS)(CD:Cal P w K mg base "_law_take" 1 xK)(CY:Cal P w K mg base "_law_day" 2 ig)(CF:Cal P w K mg base "_law_few" 5 dQ)(CT:Cal P w K mg base "_law_turned" 5 ic)(CDu:Cal P w K mg base "_law_due" 2 ck)(CU:Cal P w K mg base "unlike" 4 (cb C cs))
  (CK:eJ P w K mg base "Book" 9 [] (qG C cs)) (MR:wy P w K mg base C "rules" 3 (uX C cs)):zD P w K mg base CX0 11 f fd ["_law_script"] (om K):=by
 refine zf4 (k:=10) (j:=1) F aP rfl (Or.inl rfl) rfl (Or.inl rfl) (fun cdv A' outer s H E zs hr lz=>?_)
 have nd:=aP.nd
 refine yn (fun i α=>α.length=11) (by simp) ?_ ?_
 ·intro i d α hd hl
  rw[zi6,zj0] at hd
  obtain⟨z,hz,rfl⟩:=hd
  refine⟨_,rfl,?_⟩
  refine kU (α0:=none::some (.dat (.int z))::List.replicate 9 none) (by rw[zk6,hl];rfl) (fQ hl) ?_
  refine yF 2 nd (vn CB (hr.mono (by decide)) (by rfl) (zb (zf 1 rfl (zh ⟨z,rfl,fun x y y0 y1=>⟨_,rfl,?_⟩⟩))))
  refine cT 2 rfl y0 y1 ?_
  refine zS 3 nd (zB CY (hr.mono (by decide)) (by rfl) (zw 2 rfl (zh ⟨rfl,fun dy d0 d1=>?_⟩)))
  refine yF 4 nd (vn CF (hr.mono (by decide)) (by rfl) (zw 2 rfl (zb (zf 3 rfl (zb (zr (zh ⟨dy,rfl,d0,d1,fun ds ro ld=>⟨_,rfl,?_⟩⟩)))))))
  refine vj 4 rfl ?_
  refine yF 5 nd (vn CF (hr.mono (by decide)) (by rfl) (zw 2 rfl (zb (zf 3 rfl (zb (zr (zh ⟨dy,rfl,d0,d1,fun es re le=>⟨_,rfl,?_⟩⟩)))))))
  refine vj 5 rfl ?_
  refine vh (fun α=>∃es,zA es∧es.length≤8∧α=[none,some (.dat (.int z)),some .tape,some (.dat (.int dy)),some (.dat (.list ds)),some (.dat (.list es)),none,none,none,none,none]) ?_ ?_
  ·and_intros
   refine yA (fun _=>?_) (fun _=>zt (zt ⟨es,re,by omega,rfl⟩))
   refine yF 5 nd (vn CT (hr.mono (by decide)) (by rfl) (zw 2 rfl (zb (zf 4 rfl (zb (zf 3 rfl (zh ⟨ds,dy,rfl,ro,ld,d0,d1,fun gs rg lg=>⟨_,rfl,?_⟩⟩)))))))
   refine vj 5 rfl ?_
   exact zt (zt ⟨gs,rg,lg,rfl⟩)
  rintro α ⟨es,re,le,rfl⟩
  refine vh (fun α=>∃(fs gs:List PyData) (o6:Option A),zA fs∧zA gs∧fs.length≤23∧gs.length≤24∧α=[none,some (.dat (.int z)),some .tape,some (.dat (.int dy)),some (.dat (.list fs)),some (.dat (.list gs)),o6,none,none,none,none]) ?_ ?_
  ·and_intros
   refine yA (fun _=>?_) (fun _=>zt (zt ⟨ds,es,_,ro,re,by omega,by omega,rfl⟩))
   refine zS 6 nd (xk (zr (zB CD (hr.mono (by decide)) (by rfl) (zw 2 rfl (zb (zr (zh ⟨_,rfl,by decide,by decide,fun u u0 u1=>⟨_,_,rfl,rfl,?_⟩⟩)))))))
   refine yF 4 nd (xY (EvL.d (jR (EvL.d (zX ?_)))))
   and_intros
   refine⟨by omega,by omega,by show 1*_≤1000;omega,zf 4 rfl ⟨_,ds,rfl,rfl,by rw[len_rep];show (13+u).toNat*1+ds.length≤1000;omega,?_⟩⟩
   refine vj 4 rfl ?_
   refine yF 5 nd (xY (EvL.d (jR (EvL.d (zX ?_)))))
   and_intros
   refine⟨by omega,by omega,by show 1*_≤1000;omega,zf 5 rfl ⟨_,es,rfl,rfl,by rw[len_rep];show (13+u).toNat*1+es.length≤1000;omega,?_⟩⟩
   refine vj 5 rfl ?_
   exact zt (zt ⟨_,_,_,ir ro (13+u).toNat,ir re (13+u).toNat,by rw[mE];omega,by rw[mE];omega,rfl⟩)
  rintro α ⟨fs,gs,o6,rf,rg,lf,lg,rfl⟩
  have n1:=rf.nice (by omega)
  have n2:=rg.nice (by omega)
  refine zS 7 nd (zB CDu (hr.mono (by decide)) (by rfl) (zb (zf 4 rfl (zb (zf 5 rfl (zh ⟨fs,gs,rfl,rf,rg,by omega,fun r hu=>?_⟩))))))
  refine zS 8 nd (EvN.d (mn CK (hr.mono (by decide)) (by rfl) (zb (zf 4 rfl (zh ⟨fs,.inl rfl,rf.rules,by omega,?_⟩)))))
  refine zS 9 nd (EvN.d (mn CK (hr.mono (by decide)) (by rfl) (zb (zf 5 rfl (zh ⟨gs,.inl rfl,rg.rules,by omega,?_⟩)))))
  have nr:=jM hu
  refine xJ (.one 10) (wb (EvL.d (zX (zb (zB CU (hr.mono (by decide)) (by rfl) (zb (zf 8 rfl (zb (zf 9 rfl (zh ⟨fs,gs,rfl,rf,rg,by omega,fun r1 h1=>?_⟩))))))))))
  cases mi hu h1
  refine zb (zB CU (hr.mono (by decide)) (by rfl) (zb (zf 9 rfl (zb (zf 8 rfl (zh ⟨gs,fs,rfl,rg,rf,by omega,fun r2 h2=>?_⟩))))))
  cases mi hu (gN h2)
  refine zh ⟨_,rfl,zi1 rfl,⟨_,rfl,?_⟩⟩
  refine yn (fun i α=>∃o10:Option A,α=[none,some (.dat (.int z)),some .tape,some (.dat (.int dy)),some (.dat (.list fs)),some (.dat (.list gs)),o6,some (.dat (pJ r)),some (.dat (wx C cs fs)),some (.dat (wx C cs gs)),o10]) ⟨_,rfl⟩ ?_ ?_
  ·rintro i d α hd ⟨o10,rfl⟩
   have hd':d=pJ r:=by
    have h':=zj7 hd
    have h2:d=(A.dat (pJ r)).d:=by simpa using h'
    exact h2
   subst hd'
   refine⟨_,rfl,?_⟩
   refine yP (jA hr.units (zf 10 rfl (zf 7 rfl (eqk nr.shaped nr.shaped nr.nod nr.nod ?_))))
   refine xq (by show (!PyData.eqv (pJ r) (pJ r))=false;rw[SeqAt.eqv_refl _ nr.lay];rfl) (zt ?_)
   refine yP (EvW.t (vU (rP (zf 10 rfl ?_))))
   cases r with
   |none=>exact me rfl (xq rfl (zt (zt ⟨_,rfl⟩)))
   |some qq=>
    refine cv rfl ?_
    and_intros
    exact⟨_,rfl⟩
  ·rintro α ⟨o10,rfl⟩
   refine yP (EvW.t (il (rP (zB CU (hr.mono (by decide)) (by rfl) (zb (zf 8 rfl (zb (zf 8 rfl (zh ⟨fs,fs,rfl,rf,rf,by omega,fun r3 h3=>?_⟩)))))))))
   cases iS h3
   refine me rfl ?_
   and_intros
   refine⟨rf.rules,by omega,zf 4 rfl (eqk n1.shaped n1.shaped n1.nod n1.nod ?_)⟩
   refine me (by show (!PyData.eqv (.list fs) (.list fs))=false;rw[SeqAt.eqv_refl _ n1.lay];rfl) ?_
   and_intros
   refine⟨rg.rules,by omega,zf 5 rfl (eqk n2.shaped n2.shaped n2.nod n2.nod ?_)⟩
   exact xq (by show (!PyData.eqv (.list gs) (.list gs))=false;rw[SeqAt.eqv_refl _ n2.lay];rfl) (zt (zt rfl))
 ·intro α _
  exact yH (dJ rfl)
end
def FnF (K:PySem.W.Frag)(f:Addr)(nm ql:Str)(st:Stmt):Prop:=∃fd,Fun K nm ql st f fd
theorem mkF {K:PySem.W.Frag}{f:Addr}{nm ql:Str}{st:Stmt}{oc kV dc pm cd ct:Value}{od an:Option Addr}{sl:Array (Option Value)}(l:K.lookup f=some ⟨oc,od,.func (PySem.W.fnOf nm ql (yg st) (zI st) (zc st) .none kV dc pm an cd ct),sl⟩)(c:PySem.W.codeIn K cd ql=true)(k:PySem.W.keepIn K (.ref f)=true):FnF K f nm ql st:=⟨_,jN l c k⟩
def FnG (K:PySem.W.Frag)(f:Addr)(nm:Str)(st:Stmt):Prop:=PySem.W.nsIn K mainGlobals nm=some (some (.ref f))∧FnF K f nm nm st
theorem mkG {K:PySem.W.Frag}{f:Addr}{nm:Str}{st:Stmt}{oc kV dc pm cd ct:Value}{od an:Option Addr}{sl:Array (Option Value)}(a:PySem.W.nsIn K mainGlobals nm=some (some (.ref f)))(l:K.lookup f=some ⟨oc,od,.func (PySem.W.fnOf nm nm (yg st) (zI st) (zc st) .none kV dc pm an cd ct),sl⟩)(c:PySem.W.codeIn K cd nm=true)(k:PySem.W.keepIn K (.ref f)=true):FnG K f nm st:=⟨a,mkF l c k⟩
theorem FnF.get {K:PySem.W.Frag}{f:Addr}{nm ql:Str}{st:Stmt}(ps:List Str)(h:FnF K f nm ql st)(hb:∀(kV doc pm:Value) (an:Option Addr) (cdv ct:Value) (us:List Value),us.length=ps.length→bindArgs (PySem.W.fnOf nm ql (yg st) (zI st) (zc st) .none kV doc pm an cdv ct) ⟨us,[]⟩=pure (ps.zip us)):∃fd,Fun K nm ql st f fd∧Binds K fd ps []:=by
 obtain⟨fd,F⟩:=h
 exact⟨fd,F,F.binds hb⟩
theorem FnG.get {K:PySem.W.Frag}{h0:Heap}{mg:Str→Option Value}{f:Addr}{nm:Str}{st:Stmt}(ps:List Str)(h:FnG K f nm st)(X:K.In h0)(G:h0.Ns mainGlobals mg)(hb:∀(kV doc pm:Value) (an:Option Addr) (cdv ct:Value) (us:List Value),us.length=ps.length→bindArgs (PySem.W.fnOf nm nm (yg st) (zI st) (zc st) .none kV doc pm an cdv ct) ⟨us,[]⟩=pure (ps.zip us)):∃fd,mg nm=some (.ref f)∧Fun K nm nm st f fd∧Binds K fd ps []:=by
 obtain⟨a,fd,F⟩:=h
 exact⟨fd,zk9 X G a,F,F.binds hb⟩
theorem mkR {K:PySem.W.Frag}{C gi gt ge gw:Addr}(pg:PySem.W.plainGet K C Str.empty=true)(hd:PySem.W.hasDictIn K C=true)(po:PySem.W.plainOver K C=true)(sa:PySem.W.findIn K (.ref C) "__setattr__"=some (some (.builtin "object.__setattr__")))(n1:PySem.W.findIn K (.ref C) "first"=some none)(n2:PySem.W.findIn K (.ref C) "last"=some none)(n3:PySem.W.findIn K (.ref C) "worth"=some none)(mk:PySem.W.makesIn K C=true)(f1:PySem.W.findIn K (.ref C) "__init__"=some (some (.ref gi)))(i1:PySem.W.isFn K (.ref gi)=true)(kc:PySem.W.keepIn K (.ref C)=true)(f2:PySem.W.findIn K (.ref C) "told"=some (some (.ref gt)))(i2:PySem.W.isFn K (.ref gt)=true)(k2:PySem.W.keepIn K (.ref gt)=true)(f3:PySem.W.findIn K (.ref C) "tells"=some (some (.ref ge)))(i3:PySem.W.isFn K (.ref ge)=true)(k3:PySem.W.keepIn K (.ref ge)=true)(f4:PySem.W.findIn K (.ref C) "word"=some (some (.ref gw)))(i4:PySem.W.isFn K (.ref gw)=true)(k4:PySem.W.keepIn K (.ref gw)=true):xN K C gi gt ge gw:=⟨⟨pg,hd,po,sa⟩,n1,n2,n3,⟨mk,f1,i1,kc⟩,⟨f2,i2,k2⟩,⟨f3,i3,k3⟩,⟨f4,i4,k4⟩⟩
theorem kb {K:PySem.W.Frag}{dT:Addr}{oc kV doc pm cdv ct:Value}{od an:Option Addr}{n:Nat}{sl:Array (Option Value)}(lk:K.lookup dT=some ⟨oc,od,.seq #[.none] n,sl⟩):
  Binds K (PySem.W.fnOf "__init__" "Book.__init__" (yg xj) (zI xj) (zc xj) (.ref dT) kV doc pm an cdv ct) ["self","rules"] [.none]:=fun s us hk hl=>by
 match us,(show us.length=1 by rw[zj2] at hl;simpa using hl) with
 |[u],_=>exact BindsTo.of_defaults (T:=dT) rfl (hk _ _ lk) rfl rfl rfl
theorem lJ {K:PySem.W.Frag}{dT:Addr}{oc kV doc pm cdv ct:Value}{od an:Option Addr}{n:Nat}{sl:Array (Option Value)}(lk:K.lookup dT=some ⟨oc,od,.seq #[.none] n,sl⟩):
  Binds K (PySem.W.fnOf "__init__" "Book.__init__" (yg xj) (zI xj) (zc xj) (.ref dT) kV doc pm an cdv ct) ["self","rules"] []:=fun s us hk hl=>by
 rw[zo6] at hl ⊢
 match us,hl with
 |[u,v],_=>exact BindsTo.of_defaults (T:=dT) rfl (hk _ _ lk) rfl rfl rfl
theorem eX {P:Str→Prop}(h1:P "price")(h2:P "come")(h3:P "go")(h4:P "least")(h5:P "most")(h6:P "deal")(h7:P "fee"):∀u∈words,P u:=by
 intro u hu
 simp only[words,zg3,zg9,zj8] at hu
 rcases hu with rfl|rfl|rfl|rfl|rfl|rfl|rfl<;>assumption
set_option maxHeartbeats 8000000 in
theorem us1 {α:Type}{p:List α→Prop}(h:∀a,p [a])(us:List α)(hl:us.length=1):p us:=by
 obtain⟨a,rfl⟩:=List.length_eq_one_iff.mp hl
 exact h a
theorem us2 {α:Type}{p:List α→Prop}(h:∀a b,p [a,b])(us:List α)(hl:us.length=2):p us:=by
 cases us with
 |nil=>cases hl
 |cons a us=>exact us1 (p:=fun us=>p (a::us)) (h a) us (Nat.succ.inj hl)
theorem us3 {α:Type}{p:List α→Prop}(h:∀a b c,p [a,b,c])(us:List α)(hl:us.length=3):p us:=by
 cases us with
 |nil=>cases hl
 |cons a us=>exact us2 (p:=fun us=>p (a::us)) (h a) us (Nat.succ.inj hl)
theorem us4 {α:Type}{p:List α→Prop}(h:∀a b c d,p [a,b,c,d])(us:List α)(hl:us.length=4):p us:=by
 cases us with
 |nil=>cases hl
 |cons a us=>exact us3 (p:=fun us=>p (a::us)) (h a) us (Nat.succ.inj hl)
set_option maxHeartbeats 0 in
theorem all_mk {l:PySem.W.OpenLaw}{w:World}{K:PySem.W.Frag}{h:Heap}{mg:Str→Option Value}{fa f1 f2 f3 f4 f5 f6 f7 f8 f9 f10 f11 f12 f13 f14 f15 f16 f17 f18 f19 f20 f21 f22 f23 f24 f25 f26 f27 g_init g_told g_tells g_wPrice g_wCome g_wGo g_wLeast g_wMost g_wDeal g_wFee CPrice CCome CGo CLeast CMost CDeal CFee CB dT g_binit g_brules g_btells dU:Addr}(X:K.In h)(G:h.Ns mainGlobals mg)(hfa:mg "law"=some (.ref fa))
  {od27 an27 odB anB odT:Option Addr} {sl27 slB slT:Array (Option Value)} {oc27 kV27 dc27 pm27 ct27 cd27 ocB kVB dcB pmB ctB cdB ocT:Value} {tk1 tk2 tk3 tk4 tu1 tu2 tu3 tu4 tu5 tu6 tu7 tu8 tu9 tu10:Tok} {hu1 hu2 hu3 hu4 hu5 hu6 hu7:Int} {nT nU:Nat}
  (q1:FnG K f1 "is_whole" qL)
  (q2:FnG K f2 "is_whole_within" qt)
  (q3:FnG K f3 "is_pair" jw)
  (q4:FnG K f4 "is_day" cN)
  (q5:FnG K f5 "is_pair_of_days" iU)
  (q6:FnG K f6 "is_stretch" uZ)
  (q7:FnG K f7 "is_coins" nL)
  (q8:FnG K f8 "is_deal" qz)
  (q9:FnG K f9 "is_worth" nP)
  (q10:FnG K f10 "is_rule" qj)
  (q11:FnG K f11 "made" js)
  (q12:FnG K f12 "rule_of" rX)
  (q13:FnG K f13 "usual" nH)
  (q14:FnG K f14 "kept_rules" jz)
  (q15:FnG K f15 "edges" nB)
  (q16:FnG K f16 "unlike" cW)
  (q17:FnG K f17 "_law_begin" nv)
  (q18:FnG K f18 "_law_take" gI)
  (q19:FnG K f19 "_law_coins" qX)
  (q20:FnG K f20 "_law_worth" qu)
  (q21:FnG K f21 "_law_rule" nh)
  (q22:FnG K f22 "_law_tells" rT)
  (q23:FnG K f23 "_law_day" iH)
  (q24:FnG K f24 "_law_few" bx)
  (q25:FnG K f25 "_law_turned" iD)
  (q26:FnG K f26 "_law_due" cx)
  (a27:PySem.W.nsIn K mainGlobals "law"=some (some (.ref f27)))
  (l27:K.lookup f27=some ⟨oc27,od27,.func (PySem.W.fnOf "law" "law" (yg qN) (zI qN) (zc qN) .none kV27 dc27 pm27 an27 cd27 ct27),sl27⟩)
  (c27:PySem.W.codeIn K cd27 "law"=true)
  (k27:PySem.W.keepIn K (.ref f27)=true)
  (aCPrice:PySem.W.nsIn K mainGlobals "Price"=some (some (.ref CPrice)))
  (aCCome:PySem.W.nsIn K mainGlobals "Come"=some (some (.ref CCome)))
  (aCGo:PySem.W.nsIn K mainGlobals "Go"=some (some (.ref CGo)))
  (aCLeast:PySem.W.nsIn K mainGlobals "Least"=some (some (.ref CLeast)))
  (aCMost:PySem.W.nsIn K mainGlobals "Most"=some (some (.ref CMost)))
  (aCDeal:PySem.W.nsIn K mainGlobals "Deal"=some (some (.ref CDeal)))
  (aCFee:PySem.W.nsIn K mainGlobals "Fee"=some (some (.ref CFee)))
  (RPrice:xN K CPrice g_init g_told g_tells g_wPrice)
  (RCome:xN K CCome g_init g_told g_tells g_wCome)
  (RGo:xN K CGo g_init g_told g_tells g_wGo)
  (RLeast:xN K CLeast g_init g_told g_tells g_wLeast)
  (RMost:xN K CMost g_init g_told g_tells g_wMost)
  (RDeal:xN K CDeal g_init g_told g_tells g_wDeal)
  (RFee:xN K CFee g_init g_told g_tells g_wFee)
  (q_init:FnF K g_init "__init__" "Rule.__init__" ml)
  (q_told:FnF K g_told "told" "Rule.told" iu)
  (q_tells:FnF K g_tells "tells" "Rule.tells" oX)
  (q_wPrice:FnF K g_wPrice "word" "Price.word" qD)
  (q_wCome:FnF K g_wCome "word" "Come.word" oQ)
  (q_wGo:FnF K g_wGo "word" "Go.word" cF)
  (q_wLeast:FnF K g_wLeast "word" "Least.word" qo)
  (q_wMost:FnF K g_wMost "word" "Most.word" nV)
  (q_wDeal:FnF K g_wDeal "word" "Deal.word" nI)
  (q_wFee:FnF K g_wFee "word" "Fee.word" jq)
  (aCB:PySem.W.nsIn K mainGlobals "Book"=some (some (.ref CB)))
  (fi_binit:PySem.W.findIn K (.ref CB) "__init__"=some (some (.ref g_binit)))
  (is_binit:PySem.W.isFn K (.ref g_binit)=true)
  (l_binit:K.lookup g_binit=some ⟨ocB,odB,.func (PySem.W.fnOf "__init__" "Book.__init__" (yg xj) (zI xj) (zc xj) (.ref dT) kVB dcB pmB anB cdB ctB),slB⟩)
  (c_binit:PySem.W.codeIn K cdB "Book.__init__"=true)
  (k_binit:PySem.W.keepIn K (.ref g_binit)=true)
  (lT:K.lookup dT=some ⟨ocT,odT,.seq #[.none] nT,slT⟩)
  (fi_brules:PySem.W.findIn K (.ref CB) "rules"=some (some (.ref g_brules)))
  (is_brules:PySem.W.isFn K (.ref g_brules)=true)
  (q_brules:FnF K g_brules "rules" "Book.rules" wO)
  (fi_btells:PySem.W.findIn K (.ref CB) "tells_of"=some (some (.ref g_btells)))
  (is_btells:PySem.W.isFn K (.ref g_btells)=true)
  (q_btells:FnF K g_btells "tells_of" "Book.tells_of" qp)
  (pgB:PySem.W.plainGet K CB Str.empty=true)
  (hdB:PySem.W.hasDictIn K CB=true)
  (poB:PySem.W.plainOver K CB=true)
  (saB:PySem.W.findIn K (.ref CB) "__setattr__"=some (some (.builtin "object.__setattr__")))
  (mkB:PySem.W.makesIn K CB=true)
  (kcB:PySem.W.keepIn K (.ref CB)=true)
  (noB:PySem.W.findIn K (.ref CB) "kept"=some none)
  (z1:PySem.W.nsIn K mainGlobals "abs"=some none)
  (z2:PySem.W.nsIn K mainGlobals "list"=some none)
  (z3:PySem.W.nsIn K mainGlobals "len"=some none)
  (z4:PySem.W.nsIn K mainGlobals "range"=some none)
  (z5:PySem.W.nsIn K mainGlobals "min"=some none)
  (z6:PySem.W.nsIn K mainGlobals "max"=some none)
  (z7:PySem.W.nsIn K mainGlobals "sorted"=some none)
  (z8:PySem.W.nsIn K mainGlobals "isinstance"=some none)
  (z9:PySem.W.nsIn K mainGlobals "int"=some none)
  (z10:PySem.W.nsIn K mainGlobals "bool"=some none)
  (z11:PySem.W.nsIn K mainGlobals "str"=some none)
  (z12:PySem.W.nsIn K mainGlobals "tuple"=some none)
  (z13:PySem.W.nsIn K mainGlobals "all"=some none)
  (z14:PySem.W.nsIn K mainGlobals "any"=some none)
  (z15:PySem.W.nsIn K mainGlobals "repr"=some none)
  (z16:PySem.W.nsIn K mainGlobals "zip"=some none)
  (z17:PySem.W.nsIn K mainGlobals "enumerate"=some none)
  (z18:PySem.W.nsIn K mainGlobals "reversed"=some none)
  (z19:PySem.W.nsIn K mainGlobals "sum"=some none)
  (z20:PySem.W.nsIn K mainGlobals "set"=some none)
  (gi1:PySem.W.nsIn K mainGlobals "LAST_DAY"=some (some (.int 1000000 tk1)))
  (gi2:PySem.W.nsIn K mainGlobals "MOST_NIGHTS"=some (some (.int 14 tk2)))
  (gi3:PySem.W.nsIn K mainGlobals "MOST_COINS"=some (some (.int 1000000000000 tk3)))
  (gi4:PySem.W.nsIn K mainGlobals "MOST_RULES"=some (some (.int 24 tk4)))
  (aU:PySem.W.nsIn K mainGlobals "USUAL"=some (some (.ref dU)))
  (lU:K.lookup dU=some ⟨.type "dict",none,.dict #[⟨hu1,.str "price" tu1,.none⟩,⟨hu2,.str "come" tu2,.bool true⟩,⟨hu3,.str "go" tu3,.bool true⟩,⟨hu4,.str "least" tu4,.int 1 tu8⟩,⟨hu5,.str "most" tu5,.int 14 tu9⟩,⟨hu6,.str "deal" tu6,.none⟩,⟨hu7,.str "fee" tu7,.int 0 tu10⟩] nU,#[]⟩)
  (hh1:hu1=hashStr w "price")
  (hh2:hu2=hashStr w "come")
  (hh3:hu3=hashStr w "go")
  (hh4:hu4=hashStr w "least")
  (hh5:hu5=hashStr w "most")
  (hh6:hu6=hashStr w "deal")
  (hh7:hu7=hashStr w "fee")
  (nsU:(dU == sysModules)=false):
  ∃fd:FuncData,(∀(s:Shared) (v:Value),BindsTo s fd ⟨[v],[]⟩ [("_law_script",v)])∧∀base:Heap,K.In base→base.Ns mainGlobals mg→zD l.prog w K mg base CX0 11 fa fd ["_law_script"] (om K):=by
 have e:=hfa.symm.trans (zk9 X G a27)
 cases e
 have nb:NbT mg:=⟨zi8 X G z1,zi8 X G z2,zi8 X G z3,zi8 X G z4,zi8 X G z5,zi8 X G z6,zi8 X G z7,zi8 X G z8,zi8 X G z9,zi8 X G z10,zi8 X G z11,zi8 X G z12,zi8 X G z13,zi8 X G z14,zi8 X G z15,zi8 X G z16,zi8 X G z17,zi8 X G z18,zi8 X G z19⟩
 have n_set:mg "set"=none:=zi8 X G z20
 obtain⟨_,m_is_whole,F_is_whole,b_is_whole⟩:=q1.get ["thing"] X G fun _ _ _ _ _ _=>us1 fun _=>rfl
 obtain⟨_,m_is_whole_within,F_is_whole_within,b_is_whole_within⟩:=q2.get ["thing","lowest","highest"] X G fun _ _ _ _ _ _=>us3 fun _ _ _=>rfl
 obtain⟨_,m_is_pair,F_is_pair,b_is_pair⟩:=q3.get ["thing"] X G fun _ _ _ _ _ _=>us1 fun _=>rfl
 obtain⟨_,m_is_day,F_is_day,b_is_day⟩:=q4.get ["thing"] X G fun _ _ _ _ _ _=>us1 fun _=>rfl
 obtain⟨_,m_is_pair_of_days,F_is_pair_of_days,b_is_pair_of_days⟩:=q5.get ["thing"] X G fun _ _ _ _ _ _=>us1 fun _=>rfl
 obtain⟨_,m_is_stretch,F_is_stretch,b_is_stretch⟩:=q6.get ["thing"] X G fun _ _ _ _ _ _=>us1 fun _=>rfl
 obtain⟨_,m_is_coins,F_is_coins,b_is_coins⟩:=q7.get ["thing"] X G fun _ _ _ _ _ _=>us1 fun _=>rfl
 obtain⟨_,m_is_deal,F_is_deal,b_is_deal⟩:=q8.get ["thing"] X G fun _ _ _ _ _ _=>us1 fun _=>rfl
 obtain⟨_,m_is_worth,F_is_worth,b_is_worth⟩:=q9.get ["word","thing"] X G fun _ _ _ _ _ _=>us2 fun _ _=>rfl
 obtain⟨_,m_is_rule,F_is_rule,b_is_rule⟩:=q10.get ["thing"] X G fun _ _ _ _ _ _=>us1 fun _=>rfl
 obtain⟨_,m_made,F_made,b_made⟩:=q11.get ["word","first","last","worth"] X G fun _ _ _ _ _ _=>us4 fun _ _ _ _=>rfl
 obtain⟨_,m_rule_of,F_rule_of,b_rule_of⟩:=q12.get ["thing"] X G fun _ _ _ _ _ _=>us1 fun _=>rfl
 obtain⟨_,m_usual,F_usual,b_usual⟩:=q13.get ["word"] X G fun _ _ _ _ _ _=>us1 fun _=>rfl
 obtain⟨_,m_kept_rules,F_kept_rules,b_kept_rules⟩:=q14.get ["things"] X G fun _ _ _ _ _ _=>us1 fun _=>rfl
 obtain⟨_,m_edges,F_edges,b_edges⟩:=q15.get ["rules","word"] X G fun _ _ _ _ _ _=>us2 fun _ _=>rfl
 obtain⟨_,m_unlike,F_unlike,b_unlike⟩:=q16.get ["one","other"] X G fun _ _ _ _ _ _=>us2 fun _ _=>rfl
 obtain⟨_,m__law_begin,F__law_begin,b__law_begin⟩:=q17.get ["_law_cell"] X G fun _ _ _ _ _ _=>us1 fun _=>rfl
 obtain⟨_,m__law_take,F__law_take,b__law_take⟩:=q18.get ["_law_row","_law_base"] X G fun _ _ _ _ _ _=>us2 fun _ _=>rfl
 obtain⟨_,m__law_coins,F__law_coins,b__law_coins⟩:=q19.get ["_law_row"] X G fun _ _ _ _ _ _=>us1 fun _=>rfl
 obtain⟨_,m__law_worth,F__law_worth,b__law_worth⟩:=q20.get ["_law_row","_law_word"] X G fun _ _ _ _ _ _=>us2 fun _ _=>rfl
 obtain⟨_,m__law_rule,F__law_rule,b__law_rule⟩:=q21.get ["_law_row","_law_day_here"] X G fun _ _ _ _ _ _=>us2 fun _ _=>rfl
 obtain⟨_,m__law_tells,F__law_tells,b__law_tells⟩:=q22.get ["_law_rules","_law_word","_law_day_here"] X G fun _ _ _ _ _ _=>us3 fun _ _ _=>rfl
 obtain⟨_,m__law_day,F__law_day,b__law_day⟩:=q23.get ["_law_row"] X G fun _ _ _ _ _ _=>us1 fun _=>rfl
 obtain⟨_,m__law_few,F__law_few,b__law_few⟩:=q24.get ["_law_row","_law_day_here","_law_most"] X G fun _ _ _ _ _ _=>us3 fun _ _ _=>rfl
 obtain⟨_,m__law_turned,F__law_turned,b__law_turned⟩:=q25.get ["_law_row","_law_rules","_law_day_here"] X G fun _ _ _ _ _ _=>us3 fun _ _ _=>rfl
 obtain⟨_,m__law_due,F__law_due,b__law_due⟩:=q26.get ["_law_one","_law_other"] X G fun _ _ _ _ _ _=>us2 fun _ _=>rfl
 have F_law:=jN (st:=qN) l27 c27 k27
 have b_law:=F_law.binds (ps:=["_law_script"]) fun _ _ _ _ _ _=>us1 fun _=>rfl
 obtain⟨_,F_init,b_init⟩:=q_init.get ["self","first","last","worth"] fun _ _ _ _ _ _=>us4 fun _ _ _ _=>rfl
 obtain⟨_,F_told,b_told⟩:=q_told.get ["self"] fun _ _ _ _ _ _=>us1 fun _=>rfl
 obtain⟨_,F_tells,b_tells⟩:=q_tells.get ["self","day"] fun _ _ _ _ _ _=>us2 fun _ _=>rfl
 obtain⟨_,F_wPrice,b_wPrice⟩:=q_wPrice.get ["self"] fun _ _ _ _ _ _=>us1 fun _=>rfl
 obtain⟨_,F_wCome,b_wCome⟩:=q_wCome.get ["self"] fun _ _ _ _ _ _=>us1 fun _=>rfl
 obtain⟨_,F_wGo,b_wGo⟩:=q_wGo.get ["self"] fun _ _ _ _ _ _=>us1 fun _=>rfl
 obtain⟨_,F_wLeast,b_wLeast⟩:=q_wLeast.get ["self"] fun _ _ _ _ _ _=>us1 fun _=>rfl
 obtain⟨_,F_wMost,b_wMost⟩:=q_wMost.get ["self"] fun _ _ _ _ _ _=>us1 fun _=>rfl
 obtain⟨_,F_wDeal,b_wDeal⟩:=q_wDeal.get ["self"] fun _ _ _ _ _ _=>us1 fun _=>rfl
 obtain⟨_,F_wFee,b_wFee⟩:=q_wFee.get ["self"] fun _ _ _ _ _ _=>us1 fun _=>rfl
 obtain⟨_,F_brules,b_brules⟩:=q_brules.get ["self"] fun _ _ _ _ _ _=>us1 fun _=>rfl
 obtain⟨_,F_btells,b_btells⟩:=q_btells.get ["self","word","day"] fun _ _ _ _ _ _=>us3 fun _ _ _=>rfl
 have TD:oe mg f1 f2 f3 f4 f5:=⟨nb.isinstance,nb.int,nb.bool,nb.tuple,nb.len,⟨tk1,zk9 X G gi1⟩,⟨tk2,zk9 X G gi2⟩,m_is_whole,m_is_whole_within,m_is_pair,m_is_day,m_is_pair_of_days⟩
 have TR:oU mg f1 f2 f3 f4 f5 f6 f7 f8 f9 f10 f11 ⟨CPrice,CCome,CGo,CLeast,CMost,CDeal,CFee⟩:=⟨TD,⟨tk3,zk9 X G gi3⟩,m_is_stretch,m_is_coins,m_is_deal,m_is_worth,m_is_rule,m_made,zk9 X G aCPrice,zk9 X G aCCome,zk9 X G aCGo,zk9 X G aCLeast,zk9 X G aCMost,zk9 X G aCDeal,zk9 X G aCFee⟩
 have A7:jJ K ⟨CPrice,CCome,CGo,CLeast,CMost,CDeal,CFee⟩ g_init g_told g_tells g_wPrice g_wCome g_wGo g_wLeast g_wMost g_wDeal g_wFee:=⟨RPrice,RCome,RGo,RLeast,RMost,RDeal,RFee⟩
 refine⟨PySem.W.fnOf "law" "law" (yg qN) (zI qN) (zc qN) .none kV27 dc27 pm27 an27 cd27 ct27,fun s v=>.of_eq rfl,fun base KX _=>?_⟩
 have G_in:=lx (P:=l.prog) (w:=w) (base:=base) F_is_whole_within TD F_is_whole b_is_whole
 have G_pair:=fX (P:=l.prog) (w:=w) (base:=base) F_is_pair TD
 have G_day:=cD F_is_day TD G_in F_is_whole_within.kp b_is_whole_within
 have G_days:=fJ F_is_pair_of_days TD G_pair F_is_pair.kp b_is_pair G_day F_is_day.kp b_is_day
 have G_stretch:=nC F_is_stretch TD G_days F_is_pair_of_days.kp b_is_pair_of_days
 have G_coins:=gF F_is_coins TR G_in F_is_whole_within.kp b_is_whole_within
 have G_deal:=lA F_is_deal TR G_in F_is_whole_within.kp b_is_whole_within G_pair F_is_pair.kp b_is_pair
 have G_worth:=jH F_is_worth TR G_in F_is_whole_within.kp b_is_whole_within G_coins F_is_coins.kp b_is_coins G_deal F_is_deal.kp b_is_deal
 have G_rule:=lK F_is_rule TR G_stretch F_is_stretch.kp b_is_stretch G_worth F_is_worth.kp b_is_worth
 have G_made:=fj (P:=l.prog) (w:=w) (base:=base) F_made TR A7 F_init b_init
 have G_ruleOf:=lL F_rule_of TR G_rule F_is_rule.kp b_is_rule G_made F_made.kp b_made
 have CRO:Cal l.prog w K mg base "rule_of" 7 (su ⟨CPrice,CCome,CGo,CLeast,CMost,CDeal,CFee⟩):=oW m_rule_of F_rule_of.kp b_rule_of G_ruleOf
 have CKe:Cal l.prog w K mg base "kept_rules" 8 (oP ⟨CPrice,CCome,CGo,CLeast,CMost,CDeal,CFee⟩):=gx F_kept_rules m_kept_rules b_kept_rules nb ⟨tk4,zk9 X G gi4⟩ CRO
 have cB:Cls K CB:=⟨pgB,hdB,poB,saB⟩
 have GBI:=gE (ez (st:=xj) l_binit c_binit k_binit) cB noB CKe
 have m_Book:mg "Book"=some (.ref CB):=zk9 X G aCB
 have MkB:Mk K CB g_binit:=⟨mkB,fi_binit,is_binit,kcB⟩
 have CBk:eJ l.prog w K mg base "Book" 9 [] (qG CB ⟨CPrice,CCome,CGo,CLeast,CMost,CDeal,CFee⟩):=⟨CB,g_binit,_,_,_,m_Book,MkB,lJ lT,.nil,GBI⟩
 have CBk0:eJ l.prog w K mg base "Book" 9 [.non] (qG CB ⟨CPrice,CCome,CGo,CLeast,CMost,CDeal,CFee⟩):=⟨CB,g_binit,_,_,_,m_Book,MkB,kb lT,.cons rfl .nil,GBI⟩
 have OT:∀u∈words,wy l.prog w K mg base ((⟨CPrice,CCome,CGo,CLeast,CMost,CDeal,CFee⟩:Cs).of u) "told" 2 (oR ((⟨CPrice,CCome,CGo,CLeast,CMost,CDeal,CFee⟩:Cs).of u) u):=eX (by rw[wM];exact yW RPrice b_told (wq F_told RPrice (rG F_wPrice) b_wPrice)) (by rw[vN];exact yW RCome b_told (wq F_told RCome (qY F_wCome) b_wCome)) (by rw[pe];exact yW RGo b_told (wq F_told RGo (jP F_wGo) b_wGo)) (by rw[wB];exact yW RLeast b_told (wq F_told RLeast (sY F_wLeast) b_wLeast)) (by rw[vF];exact yW RMost b_told (wq F_told RMost (pq F_wMost) b_wMost)) (by rw[vL];exact yW RDeal b_told (wq F_told RDeal (pV F_wDeal) b_wDeal)) (by rw[sA];exact yW RFee b_told (wq F_told RFee (mf F_wFee) b_wFee))
 have DU:mZ K w dU tbU:=⟨_,nU,lU,.cons ⟨hh1,⟨_,rfl⟩,rfl⟩ (.cons ⟨hh2,⟨_,rfl⟩,rfl⟩ (.cons ⟨hh3,⟨_,rfl⟩,rfl⟩ (.cons ⟨hh4,⟨_,rfl⟩,⟨_,rfl⟩⟩ (.cons ⟨hh5,⟨_,rfl⟩,⟨_,rfl⟩⟩ (.cons ⟨hh6,⟨_,rfl⟩,rfl⟩ (.cons ⟨hh7,⟨_,rfl⟩,⟨_,rfl⟩⟩ (.nil))))))),by decide +kernel⟩
 have CU:Cal l.prog w K mg base "usual" 1 qh:=kQ F_usual m_usual b_usual (zk9 X G aU) DU
 have OW:∀u∈words,wy l.prog w K mg base ((⟨CPrice,CCome,CGo,CLeast,CMost,CDeal,CFee⟩:Cs).of u) "word" 1 (oN ((⟨CPrice,CCome,CGo,CLeast,CMost,CDeal,CFee⟩:Cs).of u) u):=eX (by rw[wM];exact yY RPrice b_wPrice (rG F_wPrice)) (by rw[vN];exact yY RCome b_wCome (qY F_wCome)) (by rw[pe];exact yY RGo b_wGo (jP F_wGo)) (by rw[wB];exact yY RLeast b_wLeast (sY F_wLeast)) (by rw[vF];exact yY RMost b_wMost (pq F_wMost)) (by rw[vL];exact yY RDeal b_wDeal (pV F_wDeal)) (by rw[sA];exact yY RFee b_wFee (mf F_wFee))
 have ORT:∀u∈words,wy l.prog w K mg base ((⟨CPrice,CCome,CGo,CLeast,CMost,CDeal,CFee⟩:Cs).of u) "tells" 1 (sD ((⟨CPrice,CCome,CGo,CLeast,CMost,CDeal,CFee⟩:Cs).of u)):=eX (by rw[wM];exact yx RPrice b_tells (xD F_tells RPrice)) (by rw[vN];exact yx RCome b_tells (xD F_tells RCome)) (by rw[pe];exact yx RGo b_tells (xD F_tells RGo)) (by rw[wB];exact yx RLeast b_tells (xD F_tells RLeast)) (by rw[vF];exact yx RMost b_tells (xD F_tells RMost)) (by rw[vL];exact yx RDeal b_tells (xD F_tells RDeal)) (by rw[sA];exact yx RFee b_tells (xD F_tells RFee))
 have OC:∀u∈words,Cls K ((⟨CPrice,CCome,CGo,CLeast,CMost,CDeal,CFee⟩:Cs).of u)∧yE K ((⟨CPrice,CCome,CGo,CLeast,CMost,CDeal,CFee⟩:Cs).of u) "worth":=eX (by rw[wM];exact⟨RPrice.cl,RPrice.nw⟩) (by rw[vN];exact⟨RCome.cl,RCome.nw⟩) (by rw[pe];exact⟨RGo.cl,RGo.nw⟩) (by rw[wB];exact⟨RLeast.cl,RLeast.nw⟩) (by rw[vF];exact⟨RMost.cl,RMost.nw⟩) (by rw[vL];exact⟨RDeal.cl,RDeal.nw⟩) (by rw[sA];exact⟨RFee.cl,RFee.nw⟩)
 have MTe:wy l.prog w K mg base CB "tells_of" 2 (qc CB ⟨CPrice,CCome,CGo,CLeast,CMost,CDeal,CFee⟩):=⟨g_btells,_,_,cB,⟨fi_btells,is_btells,F_btells.kp⟩,b_btells,kG F_btells cB noB nb CU OW ORT OC⟩
 have MR:wy l.prog w K mg base CB "rules" 3 (uX CB ⟨CPrice,CCome,CGo,CLeast,CMost,CDeal,CFee⟩):=⟨g_brules,_,_,cB,⟨fi_brules,is_brules,F_brules.kp⟩,b_brules,kT F_brules cB noB b_brules OT⟩
 have CB:=kf (P:=l.prog) (w:=w) (base:=base) F__law_begin m__law_begin b__law_begin
 have CD:Cal l.prog w K mg base "_law_take" 1 xK:=jm m__law_take F__law_take.kp b__law_take (eH F__law_take)
 have CCo:=jg F__law_coins m__law_coins b__law_coins CD
 have CW:=kN F__law_worth m__law_worth b__law_worth CD CCo
 have CRl:=jj F__law_rule m__law_rule b__law_rule nb CD CW
 have CY:=dD F__law_day m__law_day b__law_day CD
 have CEd:=je (P:=l.prog) (w:=w) (base:=base) F_edges m_edges b_edges nb n_set
 obtain⟨_,DN⟩:∃n,sE K w dU tbU n:=by
  obtain⟨es,n,h⟩:=DU
  exact⟨n,es,h⟩
 have CUn:=eA F_unlike m_unlike b_unlike (zk9 X G aU) DN nsU CEd MR MTe
 have CTl:=nN (P:=l.prog) (w:=w) (base:=base) F__law_tells m__law_tells b__law_tells
 have CDu:=dE F__law_due m__law_due b__law_due nb CTl
 have CF:=fF F__law_few m__law_few b__law_few nb CD CRl
 have CTu:=iB F__law_turned m__law_turned b__law_turned nb CD CRl CW
 exact af F_law nb CB CD CY CF CTu CDu CUn CBk MR
theorem walk {l:PySem.W.OpenLaw}{q:Program}{loose:List Str}{XP:(Str→Option Value)→Heap→Prop}{YP:World→Heap→Prop}{d:DefRec}{K:Params→PySem.W.Frag}(hn:l.most=some 63)(hdf:d.params.defaults=[])
  (hY:∀(w:World) (h:Heap),YP w h→(K w.params).In h)
  (F:∀(w:World) (mg:Str→Option Value) (fa:Addr) (h:Heap),(K w.params).In h→h.Ns mainGlobals mg→mg d.name=some (.ref fa)→
   ∃fd:FuncData,(∀(s:Shared) (u:Value),BindsTo s fd ⟨[u],[]⟩ [("_law_script",u)])∧∀base:Heap,(K w.params).In base→base.Ns mainGlobals mg→zD l.prog w (K w.params) mg base CX0 11 fa fd ["_law_script"] (om (K w.params))):
  PySem.W.WalkO q loose XP YP l.row.toRowW d [] (fun f vs=>PySem.call f vs):=
 L2.du (n:=63) (k:=11) (x:="_law_script") (CX:=fun _=>CX0) (sp:=fun w=>om (K w.params)) hn (by decide) hdf ⟨rfl,by decide,by decide,rfl⟩ hY F (fun _ _ a ns hl _ hS=>⟨a,ns,rfl,hS,hl,trivial,fun _=>rfl⟩) fun _ _ _ _ _ z=>z
end K72
def PySem.W.Fast.tw17473304171792141619 :Nat:=0
def PySem.W.Fast.tw8091354117340894844 :Nat:=0
def PySem.W.Fast.tw2841014829724982290 :Nat:=0
def PySem.W.Fast.tw11623146300177020586 :Nat:=0
def PySem.W.Fast.tw7844514633015881663 :Nat:=0
def PySem.W.Fast.tw13090656411998336564 :Nat:=0
def PySem.W.Fast.tw11981585391562319097 :Nat:=0
def PySem.W.Fast.tw6155909450635414740 :Nat:=0
def PySem.W.Fast.tw3582518202438796956 :Nat:=0
def PySem.W.Fast.tw9839912628585942596 :Nat:=0
def PySem.W.Fast.tw4490582284432521164 :Nat:=0
def PySem.W.Fast.tw11656412583348669354 :Nat:=0
def PySem.W.Fast.tw15554833474743244322 :Nat:=0
def PySem.W.Fast.tw10261282078076869845 :Nat:=0
def PySem.W.Fast.tw17994690851413124722 :Nat:=0
def PySem.W.Fast.tw10737438427890697151 :Nat:=0
def PySem.W.Fast.tw3581748216072990397 :Nat:=0
def PySem.W.Fast.tw10293746680377269541 :Nat:=0
def PySem.W.Fast.tw18154223323934615640 :Nat:=0
def PySem.W.Fast.tw2544429016487868072 :Nat:=0
def PySem.W.Fast.tw2137633583664362827 :Nat:=0
def PySem.W.Fast.tw12841535656864869441 :Nat:=0
def PySem.W.Fast.tw17744084585573322317 :Nat:=0
def PySem.W.Fast.tw14820444985962547177 :Nat:=0
def PySem.W.Fast.tw11644426295575831770 :Nat:=0
def PySem.W.Fast.tw13214234430820504691 :Nat:=0
def PySem.W.Fast.tw18339198659840422920 :Nat:=0
def PySem.W.Fast.tw10056175013067491201 :Nat:=0
def PySem.W.Fast.tw322788695269775605 :Nat:=0
def PySem.W.Fast.tw17814320708685959853 :Nat:=0
def PySem.W.Fast.tw11751894557332609309 :Nat:=0
def PySem.W.Fast.tw11503831465905802602 :Nat:=0
def PySem.W.Fast.tw12603439590778898104 :Nat:=0
def PySem.W.Fast.tw18224597279796305997 :Nat:=0
def PySem.W.Fast.tw2803464593200207664 :Nat:=0
def PySem.W.Fast.tw14960929176542665620 :Nat:=0
def PySem.W.Fast.tw2123815836024495209 :Nat:=0
def PySem.W.Fast.tw2107480435648629234 :Nat:=0
def PySem.W.Fast.tw14039393738098485533 :Nat:=0
def PySem.W.Fast.tw16680760460911934995 :Nat:=0
def PySem.W.Fast.tw10294222340481751494 :Nat:=0
def PySem.W.Fast.tw9953992115928130095 :Nat:=0
def PySem.W.Fast.tw8959752145399148247 :Nat:=0
def PySem.W.Fast.tw8956292770942445970 :Nat:=0
def PySem.W.Fast.tw5415712688980398097 :Nat:=0
def PySem.W.Fast.tw3867793369017316627 :Nat:=0
def PySem.W.Fast.tw2118251135253773741 :Nat:=0
def PySem.W.Fast.tw5342841336555570139 :Nat:=0
def PySem.W.Fast.tw12798569243486386200 :Nat:=0
def PySem.W.Fast.tw339696773359917741 :Nat:=0
def PySem.W.Fast.tw17989041525287380252 :Nat:=0
def PySem.W.Fast.tw11731286382161338205 :Nat:=0
def PySem.W.Fast.tw6061294666771091822 :Nat:=0
def PySem.W.Fast.tw9561292746199278726 :Nat:=0
def PySem.W.Fast.tw17373033617995337424 :Nat:=0
def PySem.W.Fast.tw15966984640131075213 :Nat:=0
def PySem.W.Fast.tw13236250785646463962 :Nat:=0
def PySem.W.Fast.tw3247418088960760679 :Nat:=0
def PySem.W.Fast.tw15789862468256096588 :Nat:=0
def PySem.W.Fast.tw7696637623611842971 :Nat:=0
def PySem.W.Fast.tw10587715027600426660 :Nat:=0
def PySem.W.Fast.tw11002444645836440673 :Nat:=0
def PySem.W.Fast.tw16144550191682297865 :Nat:=0
def PySem.W.Fast.tw10053471889875026490 :Nat:=0
def PySem.W.Fast.tw16889233183684191560 :Nat:=0
def PySem.W.Fast.tw10515190489577844745 :Nat:=0
def PySem.W.Fast.tw5028799274704548085 :Nat:=0
def PySem.W.Fast.tw16380262672112218424 :Nat:=0
def PySem.W.Fast.tw11452790053052385176 :Nat:=0
def PySem.W.Fast.tw7557553016680451251 :Nat:=0
def PySem.W.Fast.tw311122449845990793 :Nat:=0
def PySem.W.Fast.tw17831220071037318685 :Nat:=0
def PySem.W.Fast.tw17893941012305860927 :Nat:=0
def PySem.W.Fast.tw2875517322185359917 :Nat:=0
def PySem.W.Fast.tw4466353536256595762 :Nat:=0
def PySem.W.Fast.tw4332891278876348045 :Nat:=0
def PySem.W.Fast.tw295434618287021563 :Nat:=0
def PySem.W.Fast.tw17369220287167049845 :Nat:=0
def PySem.W.Fast.tw2022819262288387527 :Nat:=0
def PySem.W.Fast.tw12237902740510973827 :Nat:=0
def PySem.W.Fast.tw6444497087394544061 :Nat:=0
def PySem.W.Fast.tw3334598990028224701 :Nat:=0
def PySem.W.Fast.tw13019324304462611668 :Nat:=0
def PySem.W.Fast.tw13981013640496405869 :Nat:=0
def PySem.W.Fast.tw6842796257542587359 :Nat:=0
def PySem.W.Fast.tw10130176592432429534 :Nat:=0
def PySem.W.Fast.tw12154814998773648437 :Nat:=0
def PySem.W.Fast.tw17062724437087733549 :Nat:=0
def PySem.W.Fast.tw5646090085468071562 :Nat:=0
def PySem.W.Fast.tw6055283441443757780 :Nat:=0
def PySem.W.Fast.tw12721269354964359302 :Nat:=0
def PySem.W.Fast.tw5287264883477671472 :Nat:=0
def PySem.W.Fast.tw12496480372709293710 :Nat:=0
def PySem.W.Fast.tw13159656516098773029 :Nat:=0
def PySem.W.Fast.tw5914419143802064096 :Nat:=0
def PySem.W.Fast.tw6871339408626688558 :Nat:=0
def PySem.W.Fast.tw14824547693535817127 :Nat:=0
def PySem.W.Fast.tw3382910464884205230 :Nat:=0
def PySem.W.Fast.tw1737842426601771676 :Nat:=0
def PySem.W.Fast.tw1741206855943713504 :Nat:=0
def PySem.W.Fast.tw13720837623096142802 :Nat:=0
def PySem.W.Fast.tw6482117010553360953 :Nat:=0
def PySem.W.Fast.tw6040292909196911396 :Nat:=0
def PySem.W.Fast.tw14927566137185426344 :Nat:=0
def PySem.W.Fast.tw2602184559001290552 :Nat:=0
def PySem.W.Fast.tw15778747541798993311 :Nat:=0
def PySem.W.Fast.tw15112640521322373374 :Nat:=0
def PySem.W.Fast.tw9110547201069057142 :Nat:=0
def PySem.W.Fast.tw3959118402553683587 :Nat:=0
def PySem.W.Fast.tw14327374047691711153 :Nat:=0
def PySem.W.Fast.tw12323723376543699201 :Nat:=0
def PySem.W.Fast.tw6478313822463800338 :Nat:=0
def PySem.W.Fast.tw2126191765527910429 :Nat:=0
def PySem.W.Fast.tw1979780690952250801 :Nat:=0
def PySem.W.Fast.tw10877203465430768579 :Nat:=0
def PySem.W.Fast.tw17643368640158350525 :Nat:=0
def PySem.W.Fast.tw11532646319695323578 :Nat:=0
def PySem.W.Fast.tw3507951597051203212 :Nat:=0
def PySem.W.Fast.tw13377414673964899126 :Nat:=0
def PySem.W.Fast.tw7061744000737041588 :Nat:=0
def PySem.W.Fast.tw1201481828913927574 :Nat:=0
def PySem.W.Fast.tw12933097321441322404 :Nat:=0
def PySem.W.Fast.tw13210115726483025790 :Nat:=0
def PySem.W.Fast.tw14767635189842185113 :Nat:=0
def PySem.W.Fast.tw504096887864828709 :Nat:=0
def PySem.W.Fast.tw14603155021448595405 :Nat:=0
def PySem.W.Fast.tw5009450231897306832 :Nat:=0
def PySem.W.Fast.tw9914961132416877380 :Nat:=0
def PySem.W.Fast.tw10789838703625626102 :Nat:=0
def PySem.W.Fast.tw4302736345443223696 :Nat:=0
def PySem.W.Fast.tw3372995042494796782 :Nat:=0
def PySem.W.Fast.tw6617597819061977272 :Nat:=0
def PySem.W.Fast.tw12092374377683205020 :Nat:=0
def PySem.W.Fast.tw17883263595388895047 :Nat:=0
def PySem.W.Fast.tw17434415598620984166 :Nat:=0
def PySem.W.Fast.tw16750297635958225127 :Nat:=0
def PySem.W.Fast.tw1007556548728401924 :Nat:=0
def PySem.W.Fast.tw13861366659821916778 :Nat:=0
def PySem.W.Fast.tw12056141624994561355 :Nat:=0
def PySem.W.Fast.tw12224223462080375515 :Nat:=0
def PySem.W.Fast.tw8296460299532059040 :Nat:=0
def PySem.W.Fast.tw9523565984984691400 :Nat:=0
def PySem.W.Fast.tw17986747388885697912 :Nat:=0
def PySem.W.Fast.tw5877937780114623196 :Nat:=0
def PySem.W.Fast.tw13480445492574741623 :Nat:=0
def PySem.W.Fast.tw14420406690715057190 :Nat:=0
def PySem.W.Fast.tw5546400208667186569 :Nat:=0
def PySem.W.Fast.tw691399317544120832 :Nat:=0
def PySem.W.Fast.tw17423661140755006597 :Nat:=0
def PySem.W.Fast.tw13277397655748931422 :Nat:=0
def PySem.W.Fast.tw12233229366659110276 :Nat:=0
def PySem.W.Fast.tw9863247927516038552 :Nat:=0
def PySem.W.Fast.tw15178004826653223339 :Nat:=0
def PySem.W.Fast.tw5116505168319141151 :Nat:=0
def PySem.W.Fast.tw5989138742339630861 :Nat:=0
def PySem.W.Fast.tw17987539686518135275 :Nat:=0
def PySem.W.Fast.tw14347122524955978245 :Nat:=0
def PySem.W.Fast.tw17023498322428428178 :Nat:=0
def PySem.W.Fast.tw2652788692120090395 :Nat:=0
def PySem.W.Fast.tw16188100922478873838 :Nat:=0
def PySem.W.Fast.tw16536274437778943361 :Nat:=0
def PySem.W.Fast.tw15799135884508519764 :Nat:=0
def PySem.W.Fast.tw2893948730166383781 :Nat:=0
def PySem.W.Fast.tw6993033827110234648 :Nat:=0
def PySem.W.Fast.tw13902590372465793110 :Nat:=0
def PySem.W.Fast.tw17650918449650492848 :Nat:=0
def PySem.W.Fast.tw2394828319270630069 :Nat:=0
def PySem.W.Fast.tw6426387022591003410 :Nat:=0
def PySem.W.Fast.tw16264821490247058947 :Nat:=0
def PySem.W.Fast.tw986204018972133453 :Nat:=0
def PySem.W.Fast.tw1463091773224768213 :Nat:=0
def PySem.W.Fast.tw2773283844893975771 :Nat:=0
def PySem.W.Fast.tw13237978400543779235 :Nat:=0
def PySem.W.Fast.tw8172347218462069380 :Nat:=0
def PySem.W.Fast.tw11528283270047978293 :Nat:=0
def PySem.W.Fast.tw1274903983069789525 :Nat:=0
def PySem.W.Fast.tw778696040928109370 :Nat:=0
def PySem.W.Fast.tw11473677608859905534 :Nat:=0
def PySem.W.Fast.tw11907985204723513484 :Nat:=0
def PySem.W.Fast.tw6560889396816243235 :Nat:=0
def PySem.W.Fast.tw5124473768300483038 :Nat:=0
def PySem.W.Fast.tw7813474662941803934 :Nat:=0
def PySem.W.Fast.tw10225159393837322417 :Nat:=0
def PySem.W.Fast.tw923288500189418291 :Nat:=0
def PySem.W.Fast.tw1768449246102658967 :Nat:=0
def PySem.W.Fast.tw12660759492880671030 :Nat:=0
def PySem.W.Fast.tw6028487533768314282 :Nat:=0
def PySem.W.Fast.tw17660276635384638646 :Nat:=0
def PySem.W.Fast.tw17105344096722381493 :Nat:=0
def PySem.W.Fast.tw15350967931844202597 :Nat:=0
def PySem.W.Fast.tw3089233915864027498 :Nat:=0
def PySem.W.Fast.tw6866355070886560471 :Nat:=0
def PySem.W.Fast.tw12586172488243983391 :Nat:=0
def PySem.W.Fast.tw4597720485415345365 :Nat:=0
def PySem.W.Fast.tw17502343408618895519 :Nat:=0
def PySem.W.Fast.tw9723885202199356218 :Nat:=0
def PySem.W.Fast.tw6975036323053676550 :Nat:=0
def PySem.W.Fast.tw8216159715281699046 :Nat:=0
def PySem.W.Fast.tw1506444691723578208 :Nat:=0
def PySem.W.Fast.tw2058455382636524621 :Nat:=0
def PySem.W.Fast.tw11901244762487373913 :Nat:=0
def PySem.W.Fast.tw5170525065847441908 :Nat:=0
def PySem.W.Fast.tw10148083434559414492 :Nat:=0
def PySem.W.Fast.tw401678986273447738 :Nat:=0
def PySem.W.Fast.tw3282690408224105123 :Nat:=0
def PySem.W.Fast.tw16115143943941395707 :Nat:=0
def PySem.W.Fast.tw5207850891575612802 :Nat:=0
def PySem.W.Fast.tw1061647111668422993 :Nat:=0
def PySem.W.Fast.tw5117537496896659535 :Nat:=0
def PySem.W.Fast.tw10540699398249523163 :Nat:=0
def PySem.W.Fast.tw14135043428494077860 :Nat:=0
def PySem.W.Fast.tw8043293065653250685 :Nat:=0
open PySem PySem.W PyProof.Rows
set_option maxRecDepth 100000 in
set_option maxHeartbeats 0 in
theorem PySem.Challenge.cw_stayprice_k72_books_unlike_holds : PySem.Challenge.rw_stayprice_k72_books_unlike.Holds := by
 w_on;o_law;k_head;(case hw=>w_witness2)
 k_fill
 refine K72.walk (l:=PySem.Challenge.rw_stayprice_k72_books_unlike) rfl rfl (fun w h Y=>PySem.W.kIn_of Y) ?hF
 case hF=>
  intro w mg fa h KX G hmg
  refine' K72.all_mk KX G hmg (K72.mkG ?_ ?_ ?_ ?_) (K72.mkG ?_ ?_ ?_ ?_) (K72.mkG ?_ ?_ ?_ ?_) (K72.mkG ?_ ?_ ?_ ?_) (K72.mkG ?_ ?_ ?_ ?_) (K72.mkG ?_ ?_ ?_ ?_) (K72.mkG ?_ ?_ ?_ ?_) (K72.mkG ?_ ?_ ?_ ?_) (K72.mkG ?_ ?_ ?_ ?_) (K72.mkG ?_ ?_ ?_ ?_) (K72.mkG ?_ ?_ ?_ ?_) (K72.mkG ?_ ?_ ?_ ?_) (K72.mkG ?_ ?_ ?_ ?_) (K72.mkG ?_ ?_ ?_ ?_) (K72.mkG ?_ ?_ ?_ ?_) (K72.mkG ?_ ?_ ?_ ?_) (K72.mkG ?_ ?_ ?_ ?_) (K72.mkG ?_ ?_ ?_ ?_) (K72.mkG ?_ ?_ ?_ ?_) (K72.mkG ?_ ?_ ?_ ?_) (K72.mkG ?_ ?_ ?_ ?_) (K72.mkG ?_ ?_ ?_ ?_) (K72.mkG ?_ ?_ ?_ ?_) (K72.mkG ?_ ?_ ?_ ?_) (K72.mkG ?_ ?_ ?_ ?_) (K72.mkG ?_ ?_ ?_ ?_) ?_ ?_ ?_ ?_ ?_ ?_ ?_ ?_ ?_ ?_ ?_ (K72.mkR ?_ ?_ ?_ ?_ ?_ ?_ ?_ ?_ ?_ ?_ ?_ ?_ ?_ ?_ ?_ ?_ ?_ ?_ ?_ ?_) (K72.mkR ?_ ?_ ?_ ?_ ?_ ?_ ?_ ?_ ?_ ?_ ?_ ?_ ?_ ?_ ?_ ?_ ?_ ?_ ?_ ?_) (K72.mkR ?_ ?_ ?_ ?_ ?_ ?_ ?_ ?_ ?_ ?_ ?_ ?_ ?_ ?_ ?_ ?_ ?_ ?_ ?_ ?_) (K72.mkR ?_ ?_ ?_ ?_ ?_ ?_ ?_ ?_ ?_ ?_ ?_ ?_ ?_ ?_ ?_ ?_ ?_ ?_ ?_ ?_) (K72.mkR ?_ ?_ ?_ ?_ ?_ ?_ ?_ ?_ ?_ ?_ ?_ ?_ ?_ ?_ ?_ ?_ ?_ ?_ ?_ ?_) (K72.mkR ?_ ?_ ?_ ?_ ?_ ?_ ?_ ?_ ?_ ?_ ?_ ?_ ?_ ?_ ?_ ?_ ?_ ?_ ?_ ?_) (K72.mkR ?_ ?_ ?_ ?_ ?_ ?_ ?_ ?_ ?_ ?_ ?_ ?_ ?_ ?_ ?_ ?_ ?_ ?_ ?_ ?_) (K72.mkF ?_ ?_ ?_) (K72.mkF ?_ ?_ ?_) (K72.mkF ?_ ?_ ?_) (K72.mkF ?_ ?_ ?_) (K72.mkF ?_ ?_ ?_) (K72.mkF ?_ ?_ ?_) (K72.mkF ?_ ?_ ?_) (K72.mkF ?_ ?_ ?_) (K72.mkF ?_ ?_ ?_) (K72.mkF ?_ ?_ ?_) ?_ ?_ ?_ ?_ ?_ ?_ ?_ ?_ ?_ (K72.mkF ?_ ?_ ?_) ?_ ?_ (K72.mkF ?_ ?_ ?_) ?_ ?_ ?_ ?_ ?_ ?_ ?_ ?_ ?_ ?_ ?_ ?_ ?_ ?_ ?_ ?_ ?_ ?_ ?_ ?_ ?_ ?_ ?_ ?_ ?_ ?_ ?_ ?_ ?_ ?_ ?_ ?_ ?_ ?_ ?_ ?_ ?_ ?_ ?_ ?_ ?_
  all_goals try (show _=_;first|k_is|kernel_rfl)
