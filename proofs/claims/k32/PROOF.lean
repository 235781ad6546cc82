import PyProof.Rows.All
import Wide.All
import OpenK.AllK
import Wide.FinOn
import Lean
import PyProof.EqAt
import PyProof.EqKinds
import PyProof.TupleCall
import PySem.Challenge.RW_stayprice_k32_bills
set_option Elab.async false
set_option linter.all false
set_option maxRecDepth 100000
def zs9 := @_root_.PySem.wpAny_bind
def zt0 := @_root_.PySem.Heap.get?_push_of_some
def zt1 := @_root_.List.length_map
def zt2 := @_root_.PySem.wpAny_pure
def zt3 := @_root_.List.getElem?_eq_getElem
def zt4 := @_root_.List.mem_cons
def zt5 := @_root_.List.getElem?_eq_some_iff
def zt6 := @_root_.PySem.Heap.lt_size
def zt7 := @_root_.List.getD_eq_getElem?_getD
def zt8 := @_root_.Nat.le_refl
def zt9 := @_root_.List.not_mem_nil
def zu0 := @_root_.PySem.Heap.get?_push_size
def zu1 := @_root_.List.mem_cons_of_mem
def zu2 := @_root_.List.size_toArray
def zu3 := @_root_.Bool.false_ne_true
def zu4 := @_root_.PySem.Heap.get?_update_other
def zu5 := @_root_.List.length_cons
def zu6 := @_root_.Nat.zero_le
def zu7 := @_root_.List.getElem?_map
def zu8 := @_root_.List.mem_cons_self
def zu9 := @_root_.Nat.lt_of_lt_of_le
def zv0 := @_root_.Nat.ne_of_lt
def zv1 := @_root_.Bool.and_eq_true
def zv2 := @_root_.Nat.le_of_ble_eq_true
def zv3 := @_root_.List.getElem?_append_left
def zv4 := @_root_.List.length_append
def zv5 := @_root_.or_false
def zv6 := @_root_.PySem.W.mg_none_of
def zv7 := @_root_.PySem.wpAny_field
def zv8 := @_root_.Option.some.inj
def zv9 := @_root_.List.mem_singleton
def zw0 := @_root_.List.getElem?_append_right
def zw1 := @_root_.Option.map_eq_some_iff
def zw2 := @_root_.PySem.wpAny_mono
def zw3 := @_root_.Bool.eq_false_iff
def zw4 := @_root_.Ne.symm
def zw5 := @_root_.PySem.wpAny_nextOf_list_item
def zw6 := @_root_.List.lookup_cons
def zw7 := @_root_.PySem.wpAny_seqItems
def zw8 := @_root_.PySem.wpAny_setField_rec
def zw9 := @_root_.PySem.W.mg_of
def zx0 := @_root_.List.map_cons
def zx1 := @_root_.decide_eq_true_eq
def zx2 := @_root_.PySem.sizeLine_eq
def zx3 := @_root_.PyProof.Rows.callWith_type1
def zx4 := @_root_.List.mem_append_right
def zx5 := @_root_.PySem.Heap.size_push
def zx6 := @_root_.List.getElem?_set_ne
def zx7 := @_root_.List.length_set
def zx8 := @_root_.PySem.mem_of_lookup
def zx9 := @_root_.Nat.le_trans
def zy0 := @_root_.List.mem_of_getElem?
def zy1 := @_root_.PySem.wpAny_holding
def zy2 := @_root_.PySem.Heap.get?_update_self
def zy3 := @_root_.PySem.W.kia_one
def zy4 := @_root_.decide_eq_false
def zy5 := @_root_.PySem.F.slot_zip_next
def zy6 := @_root_.Nat.le_of_lt
def zy7 := @_root_.PySem.strLen_append
def zy8 := @_root_.List.getElem?_replicate
def zy9 := @_root_.PySem.wpAny_callSpecial?_slot
def zz0 := @_root_.List.forIn_cons
def zz1 := @_root_.List.find?_cons
def zz2 := @_root_.PySem.PassesOwn.never
def zz3 := @_root_.List.getElem?_set_self
def zz4 := @_root_.Nat.ne_of_gt
def zz5 := @_root_.Nat.lt_irrefl
def zz6 := @_root_.Bool.true_and
def zz7 := @_root_.List.length_take
def zz8 := @_root_.Bool.false_and
def zz9 := @_root_.PySem.wpAny_Call_Name_kw
def zA0 := @_root_.Bool.false_eq_true
def zA1 := @_root_.PySem.F.plain_extend_loop
def zA2 := @_root_.Nat.le_succ
def zA3 := @_root_.List.append_nil
def zA4 := @_root_.List.map_append
def zA5 := @_root_.PySem.wpAny_truthy_bool
def zA6 := @_root_.decide_eq_false_iff_not
def zA7 := @_root_.List.forIn_nil
def zA8 := @_root_.PySem.wpAny_call_entry
def zA9 := @_root_.Nat.lt_or_ge
def zB0 := @_root_.PySem.Obj.data_mapFields
def zB1 := @_root_.PySem.wpAny_passesOwn
def zB2 := @_root_.Bool.or_eq_true
def zB3 := @_root_.PyProof.Rows.get?_update_seq
def zB4 := @_root_.List.getElem?_eq_none
def zB5 := @_root_.PySem.Obj.isFreed_of_fields
def zB6 := @_root_.PySem.wpAny_onRaise
def zB7 := @_root_.Array.getElem?_eq_some_iff
def zB8 := @_root_.PySem.F.excBase_ValueError
def zB9 := @_root_.Nat.lt_succ_of_lt
def zC0 := @_root_.List.take_add_one
def zC1 := @_root_.PySem.wpAny_loadPart_at
def zC2 := @_root_.beq_iff_eq
def zC3 := @_root_.List.drop_eq_getElem_cons
def zC4 := @_root_.PySem.wpAny_letGo
def zC5 := @_root_.PySem.boot_len
def zC6 := @_root_.Nat.lt_succ_self
def zC7 := @_root_.List.all_eq_true
def zC8 := @_root_.Nat.sub_self
def zC9 := @_root_.beq_eq_false_iff_ne
def zD0 := @_root_.List.getElem?_cons_succ
def zD1 := @_root_.Int.eq_ofNat_of_zero_le
def zD2 := @_root_.List.mem_append
def zD3 := @_root_.PySem.W.callWith_K
def zD4 := @_root_.List.nil_append
def zD5 := @_root_.Nat.div_add_mod
def zD6 := @_root_.PySem.F.slot_zip_next
def zD7 := @_root_.Int.emod_lt_of_pos
def zD8 := @_root_.PySem.wpAny_pyIter_list
def zD9 := @_root_.PySem.W.methodCall_KW
def zE0 := @_root_.PySem.codeAny_mono
def zE1 := @_root_.List.length_singleton
def zE2 := @_root_.decide_eq_true
def zE3 := @_root_.PySem.wpAny_newTuple
def zE4 := @_root_.List.getElem?_zipWith
def zE5 := @_root_.List.mem_iff_getElem?
def zE6 := @_root_.List.filter_cons
def zE7 := @_root_.List.getElem_mem
def zE8 := @_root_.List.take_length
def zE9 := @_root_.PySem.wpAny_updateSeq_pair
def zF0 := @_root_.PySem.wpAny_standAt
def zF1 := @_root_.PySem.wpAny_attempt
def zF2 := @_root_.if_true
def zF3 := @_root_.List.length_reverse
def zF4 := @_root_.PySem.Heap.SameBut.update
def zF5 := @_root_.List.length_zipWith
def zF6 := @_root_.PySem.wpAny_execs_nil
def zF7 := @_root_.Array.Perm.refl
def zF8 := @_root_.PySem.wpAny_updateSeq
def zF9 := @_root_.Int.emod_nonneg
def zG0 := @_root_.PyProof.Rows.boot_isinstance
def zG1 := @_root_.PySem.Calls.spliced_cons
def zG2 := @_root_.if_false
def zG3 := @_root_.List.forIn_toArray
def zG4 := @_root_.List.mem_map
def zG5 := @_root_.PySem.wpAny_call
def zG6 := @_root_.PySem.F.plainAttrs_list
def zG7 := @_root_.PySem.F.args_zip_next_1
def zG8 := @_root_.Int.toNat_natCast
def zG9 := @_root_.PySem.F.entry_zip_next
def zH0 := @_root_.List.drop_length
def zH1 := @_root_.PySem.wpAny_pyIter_zip
def zH2 := @_root_.List.cons_append
def zH3 := @_root_.List.zipIdx_cons
def zH4 := @_root_.List.length_replicate
def zH5 := @_root_.List.set_append_right
def zH6 := @_root_.List.mem_append_left
def zH7 := @_root_.Bool.eq_iff_iff
def zH8 := @_root_.Nat.le_of_eq
def zH9 := @_root_.List.nodup_cons
def zI0 := @_root_.PySem.wpAny_rule
def zI1 := @_root_.Nat.mul_comm
def zI2 := @_root_.List.zipIdx_nil
def zI3 := @_root_.List.filterMap_cons
def zI4 := @_root_.PySem.W.plainGet_of
def zI5 := @_root_.Nat.lt_of_le_of_lt
def zI6 := @_root_.List.all_cons
def zI7 := @_root_.List.any_cons
def zI8 := @_root_.Bool.false_or
namespace L2
open PySem PySem.Spec PyProof.Rows
abbrev Key :=Sum Int Str
def rH :Key→Value→Bool
 |.inl k,v=>Value.isInt k v
 |.inr x,v=>Value.isStrOf x v
def zr2 (w:World):Key→Int
 |.inl k=>hashInt k
 |.inr x=>hashStr w x
theorem ym :∀{k:Key} {v:Value},rH k v=true→(∃i t,k=Sum.inl i∧v=Value.int i t)∨(∃x t,k=Sum.inr x∧v=Value.str x t)
 |.inl i,v,h=>by
  obtain⟨t,e⟩:=Value.isInt_shape (k:=i) (v:=v) h
  exact .inl ⟨i,t,rfl,e⟩
 |.inr x,v,h=>by
  obtain⟨t,e⟩:=Value.isStrOf_shape (x:=x) (v:=v) h
  exact .inr ⟨x,t,rfl,e⟩
theorem jr (i:Int)(t:Tok):rH (.inl i) (.int i t)=true:=by simp[rH,Value.isInt]
theorem jj (x:Str)(t:Tok):rH (.inr x) (.str x t)=true:=by simp[rH,Value.isStrOf]
theorem zg5 (a b:Int):decide ((Sum.inl a:Key)=Sum.inl b)=(a == b):=by
 by_cases e:a=b
 ·subst e;simp
 ·have h:¬(Sum.inl a:Key)=Sum.inl b:=fun q=>e (Sum.inl.inj q)
  rw[zy4 h]
  exact (zC9.mpr e).symm
theorem zc4 (a b:Str):decide ((Sum.inr a:Key)=Sum.inr b)=decide (a=b):=by
 by_cases e:a=b
 ·subst e;simp
 ·have h:¬(Sum.inr a:Key)=Sum.inr b:=fun q=>e (Sum.inr.inj q)
  rw[zy4 h,zy4 e]
theorem zc1 (a:Int)(b:Str):decide ((Sum.inl a:Key)=Sum.inr b)=false:=zy4 (fun q=>nomatch q)
theorem zg6 (a:Str)(b:Int):decide ((Sum.inr a:Key)=Sum.inl b)=false:=zy4 (fun q=>nomatch q)
def yX (prog:Program)(w:World):PySem.KeyKind prog w Key where
 is:=rH
 hash:=zr2 w
 inj:=fun v a b ha hb=>by
  rcases ym ha with ⟨i,t,rfl,rfl⟩|⟨x,t,rfl,rfl⟩
  ·rcases ym hb with ⟨j,u,rfl,e⟩|⟨y,u,rfl,e⟩
   ·injection e with e1 _;rw[e1]
   ·exact nomatch e
  ·rcases ym hb with ⟨j,u,rfl,e⟩|⟨y,u,rfl,e⟩
   ·exact nomatch e
   ·injection e with e1 _;rw[e1]
 byValue:=fun k v h=>by
  rcases ym h with ⟨i,t,rfl,rfl⟩|⟨x,t,rfl,rfl⟩<;>rfl
 pyHash:=fun hv h=>by
  rcases ym hv with ⟨i,t,rfl,rfl⟩|⟨x,t,rfl,rfl⟩
  ·exact wpAny_pyHash_int h
  ·exact wpAny_pyHash_str h
 eqBool:=fun hu hv h=>by
  rcases ym hu with ⟨i,t,rfl,rfl⟩|⟨x,t,rfl,rfl⟩
  ·rcases ym hv with ⟨j,u,rfl,rfl⟩|⟨y,u,rfl,rfl⟩
   ·rw[zg5] at h;exact wpAny_eqBool_int h
   ·rw[zc1] at h;exact SeqAt.EqAt.int_str i t y u _ _ _ _ h
  ·rcases ym hv with ⟨j,u,rfl,rfl⟩|⟨y,u,rfl,rfl⟩
   ·rw[zg6] at h;exact SeqAt.EqAt.str_int x t j u _ _ _ _ h
   ·rw[zc4] at h;exact wpAny_eqBool_str h
 «strs»:=fun k x t v h=>by
  rcases ym h with ⟨i,u,rfl,e⟩|⟨y,u,rfl,e⟩
  ·exact nomatch e
  ·injection e with e1 _
   subst e1
   cases v<;>rfl
theorem oy (prog:Program)(w:World)(i:Int)(t:Tok):(yX prog w).is (.inl i) (.int i t)=true:=jr i t
theorem oO (prog:Program)(w:World)(x:Str)(t:Tok):(yX prog w).is (.inr x) (.str x t)=true:=jj x t
inductive V where
 |non|bl (b:Bool)|int (i:Int)|str (x:Str)|byt (b:Array UInt8)|flt (b:UInt64)|ref (a:Addr)|ty (n:String)
 deriving DecidableEq
def RelV :V→Value→Prop
 |.non,u=>u=Value.none
 |.bl b,u=>u=Value.bool b
 |.int i,u=>∃t,u=Value.int i t
 |.str x,u=>∃t,u=Value.str x t
 |.byt b,u=>∃t,u=Value.bytes b t
 |.flt b,u=>∃t,u=Value.float b t
 |.ref a,u=>u=Value.ref a
 |.ty n,u=>u=Value.type n
abbrev Vals :List V→List Value→Prop:=Paired RelV
theorem Vals.length {xs:List V}{us:List Value}(r:Vals xs us):xs.length=us.length:=Paired.length r
theorem Vals.get :∀{xs:List V} {us:List Value} {i:Nat} {x:V},Vals xs us→xs[i]?=some x→∃u,us[i]?=some u∧RelV x u
 |_,_,_,_,.nil,e=>by simp at e
 |_,_,0,_,.cons r _,e=>by simp at e;subst e;exact⟨_,rfl,r⟩
 |_,_,i+1,x,.cons _ t,e=>by
  obtain⟨u,h1,h2⟩:=Vals.get (i:=i) (x:=x) t (by simpa using e)
  exact⟨u,by simpa using h1,h2⟩
theorem Vals.set {x:V}{u:Value}(r:RelV x u):∀{xs:List V} {us:List Value} (i:Nat),Vals xs us→Vals (xs.set i x) (us.set i u)
 |_,_,_,.nil=>.nil
 |_,_,0,.cons _ t=>.cons r t
 |_,_,i+1,.cons q t=>.cons q (Vals.set r i t)
theorem Vals.append :∀{xs ys:List V} {us ws:List Value},Vals xs us→Vals ys ws→Vals (xs++ys) (us++ws)
 |_,_,_,_,.nil,s=>s
 |_,_,_,_,.cons r t,s=>.cons r (Vals.append t s)
theorem Vals.take :∀{xs:List V} {us:List Value} (n:Nat),Vals xs us→Vals (xs.take n) (us.take n)
 |_,_,0,_=>.nil
 |_,_,_+1,.nil=>.nil
 |_,_,n+1,.cons r t=>.cons r (Vals.take n t)
theorem Vals.drop :∀{xs:List V} {us:List Value} (n:Nat),Vals xs us→Vals (xs.drop n) (us.drop n)
 |_,_,0,r=>r
 |_,_,_+1,.nil=>.nil
 |_,_,n+1,.cons _ t=>Vals.drop n t
def vN :Option V→Option Value→Prop
 |some v,some u=>RelV v u
 |none,none=>True
 |_,_=>False
def KV {κ:Type}:List (κ×V)→List (κ×Value)→Prop:=Paired fun (p:κ×V) (q:κ×Value)=>p.1=q.1∧RelV p.2 q.2
def kV :Key→V
 |.inl i=>.int i
 |.inr x=>.str x
inductive HO where
  |lst (xs:List V)
  |tup (xs:List V)
  |dK (kvs:List (Key×V))|dT (kvs:List (List Key×V))
  |set (S:Int→Bool) (n:Nat)
  |ins (C dx:Addr) (fs:List (Str×V))
  |own (x:Addr)
  |xd (fs:List (Str×V))
  |met (f x:Addr)
  |rng (lo hi:Int)
  |frz (o:Obj) (u:HO)
  |tbl (ps:Array Value)
  |ext (φ:Heap→Prop)
abbrev Hp :=Addr→Option HO
def upd (H:Hp)(a:Addr)(o:HO):Hp:=fun b=>if b=a then some o else H b
theorem zk {H:Hp}{a:Addr}{o:HO}:upd H a o a=some o:=by unfold upd;rw[if_pos rfl]
theorem zd {H:Hp}{a b:Addr}{o:HO}(h:b≠a):upd H a o b=H b:=by unfold upd;rw[if_neg h]
theorem uf {H:Hp}{a:Addr}{o u:HO}:upd (upd H a o) a u=upd H a u:=by
 funext b;unfold upd;split<;>rfl
theorem aY {H:Hp}{a b:Addr}{o u:HO}(h:H a=some o)(h':H b=some u)(d:o≠u):a≠b:=by
 intro e;subst e;rw[h] at h';exact d (zv8 h')
theorem zo {H:Hp}{a b:Addr}{o:HO}(h:H a=some o)(h':H b=none):a≠b:=by
 intro e;subst e;rw[h] at h';cases h'
section
variable (P:Program)(w:World)
def zY (H:Hp)(h:Heap)(a:Addr):HO→Prop
 |.lst xs=>xs.length≤sizeLine∧∃(its:List Value) (n:Nat),Vals xs its∧h.get? a=some {cls:=.type "list",data:=.seq its.toArray n}
 |.tup xs=>xs.length≤sizeLine∧∃its:List Value,Vals xs its∧IsTup h a its.toArray
 |.dK kvs=>kvs.length≤sizeLine∧(a == sysModules)=false∧∃vs,KV kvs vs∧h.DictOf (yX P w) a vs
 |.dT kvs=>kvs.length≤sizeLine∧(a == sysModules)=false∧∃xs:List (List Key×Addr×Value),
   Paired (fun (p:List Key×V) (q:List Key×Addr×Value)=>p.1=q.1∧H q.2.1=some (.tup (p.1.map kV))∧RelV p.2 q.2.2) kvs xs∧
   ∃o es ep,h.get? a=some o∧o.ExactDict∧o.data=.dict es ep∧es.toList=xs.map (entryOfKey (tupleKind (yX P w)))∧(xs.map (·.1)).Nodup
 |.set S n=>h.SetOf (intKind P w) a S n
 |.ins C dx fs=>H dx=some (.own a)∧fs.length≤1000∧dx≠a∧h.get? a=some (PySem.W.instObj C dx)∧
   ∃mA,h.Ns1 dx mA∧(∀f,vN (fs.lookup f) (mA f))∧PySem.Within mA (fs.map (·.1))
 |.own _=>∃o,h.get? a=some o
 |.xd fs=>∃mA,h.Ns1 a mA∧∀f,vN (fs.lookup f) (mA f)
 |.rng lo hi=>∃t u v,h.get? a=some {cls:=.type "range",data:=.fields #[.int lo t,.int hi u,.int 1 v]}
 |.frz o u=>h.get? a=some o∧zY H h a u
 |.tbl ps=>h.get? a=some {cls:=.none,data:=.fields ps}
 |.met f x=>h.get? a=some (PySem.W.methodObj (.ref f) (.ref x))
 |.ext φ=>φ h∧(∃o,h.get? a=some o)∧∀h1 h2:Heap,φ h1→(∀o,h1.get? a=some o→h2.get? a=some o)→φ h2
def HOk (H:Hp)(h:Heap):Prop:=∀a o,H a=some o→zY P w H h a o
end
section
variable {P:Program}{w:World}{H H':Hp}{h h':Heap}{a:Addr}{o:HO}
theorem zY.lt (x:zY P w H h a o):a<h.objs.size:=by
 cases o with
 |lst xs=>obtain⟨_,_,_,_,e⟩:=x;exact zt6 e
 |tup xs=>obtain⟨_,_,_,p⟩:=x;exact p.lt
 |dK kvs=>obtain⟨_,_,_,_,o,_,_,e,_⟩:=x;exact zt6 e
 |dT kvs=>obtain⟨_,_,_,_,o,_,_,e,_⟩:=x;exact zt6 e
 |set S n=>obtain⟨o,_,_,_,e,_⟩:=x;exact zt6 e
 |ins C dx fs=>obtain⟨_,_,_,e,_⟩:=x;exact zt6 e
 |own y=>obtain⟨_,e⟩:=x;exact zt6 e
 |xd fs=>obtain⟨_,⟨_,_,_,e,_⟩,_⟩:=x;exact zt6 e
 |rng lo hi=>obtain⟨_,_,_,e⟩:=x;exact zt6 e
 |frz ob u=>obtain⟨e,_⟩:=x;exact zt6 e
 |tbl ps=>exact zt6 (show h.get? a=some _ from x)
 |met f y=>exact zt6 (show h.get? a=some _ from x)
 |ext φ=>obtain⟨_,⟨_,e⟩,_⟩:=x;exact zt6 e
theorem Paired.mapP {α β:Type}{F G:α→β→Prop}:∀{l₁:List α} {l₂:List β},Paired F l₁ l₂→(∀a b,F a b→G a b)→Paired G l₁ l₂
 |_,_,.nil,_=>.nil
 |_,_,.cons r t,f=>.cons (f _ _ r) (Paired.mapP t f)
theorem zY.stay (x:zY P w H h a o)(k:∀b u,(b=a∨H b=some (.own a))→h.get? b=some u→h'.get? b=some u)
  (ho:∀b,H b=some (.own a)→H' b=some (.own a)) (ht:∀b xs,H b=some (.tup xs)→H' b=some (.tup xs)):zY P w H' h' a o:=by
 induction o with
 |lst xs=>obtain⟨z,its,n,r,e⟩:=x;exact⟨z,its,n,r,k _ _ (.inl rfl) e⟩
 |tup xs=>obtain⟨z,its,r,ob,e,c⟩:=x;exact⟨z,its,r,ob,k _ _ (.inl rfl) e,c⟩
 |dK kvs=>obtain⟨z,y,vs,r,ob,es,ep,e,c⟩:=x;exact⟨z,y,vs,r,ob,es,ep,k _ _ (.inl rfl) e,c⟩
 |dT kvs=>
  obtain⟨z,y,xs,r,ob,es,ep,e,c⟩:=x
  exact⟨z,y,xs,Paired.mapP r fun p q z=>⟨z.1,ht _ _ z.2.1,z.2.2⟩,ob,es,ep,k _ _ (.inl rfl) e,c⟩
 |set S n=>obtain⟨ob,es,ep,t,e,c⟩:=x;exact⟨ob,es,ep,t,k _ _ (.inl rfl) e,c⟩
 |ins C dx fs=>
  obtain⟨d,z,ne,e,mA,⟨od,es,ep,e2,c⟩,r⟩:=x
  exact⟨ho _ d,z,ne,k _ _ (.inl rfl) e,mA,⟨od,es,ep,k _ _ (.inr d) e2,c⟩,r⟩
 |own y=>obtain⟨ob,e⟩:=x;exact⟨ob,k _ _ (.inl rfl) e⟩
 |xd fs=>obtain⟨mA,⟨od,es,ep,e,c⟩,r⟩:=x;exact⟨mA,⟨od,es,ep,k _ _ (.inl rfl) e,c⟩,r⟩
 |rng lo hi=>obtain⟨t,u,v,e⟩:=x;exact⟨t,u,v,k _ _ (.inl rfl) e⟩
 |frz ob u ih=>obtain⟨e,q⟩:=x;exact⟨k _ _ (.inl rfl) e,ih q⟩
 |tbl ps=>
  have e:h.get? a=some {cls:=.none,data:=.fields ps}:=x
  show h'.get? a=some {cls:=.none,data:=.fields ps}
  exact k a _ (.inl rfl) e
 |met f y=>
  have e:h.get? a=some (PySem.W.methodObj (.ref f) (.ref y)):=x
  show h'.get? a=some (PySem.W.methodObj (.ref f) (.ref y))
  exact k a _ (.inl rfl) e
 |ext φ=>obtain⟨p,⟨o,e⟩,st⟩:=x;exact⟨st _ _ p fun o q=>k _ _ (.inl rfl) q,⟨o,k _ _ (.inl rfl) e⟩,st⟩
theorem HOk.lt (x:HOk P w H h)(e:H a=some o):a<h.objs.size:=(x a o e).lt
theorem HOk.fresh (x:HOk P w H h)(e:h.objs.size≤a):H a=none:=by
 cases q:H a with
 |none=>rfl
 |some u=>exact absurd (zu9 (x.lt q) e) (zz5 _)
theorem HOk.kept (x:HOk P w H h)(k:∀b u,h.get? b=some u→h'.get? b=some u):HOk P w H h':=fun a o e=>
 (x a o e).stay (fun b u _ q=>k b u q) (fun _ q=>q) fun _ _ q=>q
theorem HOk.laid (x:HOk P w H h)(k:∀b u,h.get? b=some u→h'.get? b=some u)(hp:h.objs.size≤a)(new:zY P w (upd H a o) h' a o):HOk P w (upd H a o) h':=fun b u e=>by
 have hn:=x.fresh hp
 by_cases hb:b=a
 ·subst hb;rw[zk] at e;cases e;exact new
 ·rw[zd hb] at e
  exact (x b u e).stay (fun c v _ q=>k c v q) (fun c q=>by rw[zd (zo q hn)];exact q) fun c xs q=>by rw[zd (zo q hn)];exact q
end
def Rd (H:Hp)(a:Addr)(u:HO):Prop:=H a=some u∨∃o,H a=some (.frz o u)
theorem Rd.ok {P:Program}{w:World}{H:Hp}{h:Heap}{a:Addr}{u:HO}(r:Rd H a u)(x:HOk P w H h):zY P w H h a u:=by
 rcases r with r|⟨o,r⟩
 ·exact x a u r
 ·obtain⟨_,q⟩:=x a _ r
  exact q
def Mut :Option HO→Prop
 |some (.lst _)=>True
 |some (.dK _)=>True
 |some (.dT _)=>True
 |some (.set _ _)=>True
 |some (.ins _ _ _)=>True
 |some (.ext _)=>True
 |_=>False
section
variable {P:Program}{w:World}{H:Hp}{h h':Heap}{x e:Addr}{o':HO}
theorem HOk.write (ok:HOk P w H h)(mu:Mut (H x))(he:e=x∨H e=some (.own x))(k:∀b u,b≠e→h.get? b=some u→h'.get? b=some u)(heo:∃u,h'.get? e=some u)
  (new:zY P w (upd H x o') h' x o'):HOk P w (upd H x o') h':=fun b u q=>by
 have nown:∀c y,H c=some (.own y)→c≠x:=fun c y r z=>by subst z;rw[r] at mu;exact mu
 have ntup:∀c xs,H c=some (.tup xs)→c≠x:=fun c xs r z=>by subst z;rw[r] at mu;exact mu
 by_cases hb:b=x
 ·subst hb;rw[zk] at q;cases q;exact new
 ·rw[zd hb] at q
  by_cases hbe:b=e
  ·have q':H b=some (.own x):=by
    rcases he with z|z
    ·exact absurd (hbe.trans z) hb
    ·rw[hbe];exact z
   rw[q] at q';cases q'
   obtain⟨v,hv⟩:=heo
   exact⟨v,by rw[hbe];exact hv⟩
  ·refine (ok b u q).stay (fun c v hc r=>k c v ?_ r) (fun c r=>by rw[zd (nown c b r)];exact r) fun c xs r=>by rw[zd (ntup c xs r)];exact r
   rcases hc with rfl|hc
   ·exact hbe
   ·rintro rfl
    rcases he with z|z
    ·exact nown c b hc z
    ·rw[hc] at z;cases z;exact hb rfl
end
structure Un (fs ex:List Addr)(H H':Hp)(h h':Heap):Prop where
 keep:∀b o,h.get? b=some o→H b=none→b∉fs→b∉ex→h'.get? b=some o
 slot:∀b o,h.get? b=some o→H b=none→b∈fs→b∉ex→∃sl,h'.get? b=some {o with slots:=sl}
 free:∀b o,h.get? b=some o→H b=none→b∉ex→H' b=none
 there:∀b o,h.get? b=some o→b∉ex→∃o',h'.get? b=some o'
 tups:∀b xs,H b=some (.tup xs)→H' b=some (.tup xs)
 frzs:∀b o u,H b=some (.frz o u)→H' b=some (.frz o u)
 tbls:∀b ps,H b=some (.tbl ps)→∃more,H' b=some (.tbl (ps++more))
section
variable {fs fs' ex ex':List Addr}{H H1 H2:Hp}{h h1 h2 h':Heap}{a x e:Addr}{o:HO}
theorem Un.any (u:Un fs ex H H1 h h1){b:Addr}{ob:Obj}(q:h.get? b=some ob)(n:H b=none)(hx:b∉ex):∃sl,h1.get? b=some {ob with slots:=sl}:=by
 by_cases hb:b∈fs
 ·exact u.slot b ob q n hb hx
 ·exact⟨ob.slots,u.keep b ob q n hb hx⟩
theorem Un.kept (k:∀b u,h.get? b=some u→h'.get? b=some u):Un fs ex H H h h':=
 ⟨fun b ob q _ _ _=>k b ob q,fun b ob q _ _ _=>⟨ob.slots,k b ob q⟩,fun _ _ _ n _=>n,fun b ob q _=>⟨ob,k b ob q⟩,fun _ _ q=>q,fun _ _ _ q=>q,fun _ ps q=>⟨#[],by rw[q];simp⟩⟩
theorem Un.refl :Un fs ex H H h h:=Un.kept fun _ _ q=>q
theorem Un.laid (k:∀b u,h.get? b=some u→h'.get? b=some u)(hp:h.objs.size≤a)(hn:H a=none):Un fs ex H (upd H a o) h h' where
 keep:=fun b u q _ _ _=>k b u q
 slot:=fun b u q _ _ _=>⟨u.slots,k b u q⟩
 free:=fun b u q n _=>by rw[zd (zv0 (zu9 (zt6 q) hp))];exact n
 there:=fun b u q _=>⟨u,k b u q⟩
 tups:=fun b xs q=>by rw[zd (zo q hn)];exact q
 frzs:=fun b u xs q=>by rw[zd (zo q hn)];exact q
 tbls:=fun b ps q=>⟨#[],by rw[zd (zo q hn),q];simp⟩
theorem Un.write (mu:Mut (H x))(he:e=x∨H e=some (.own x))(k:∀b u,b≠e→h.get? b=some u→h'.get? b=some u)(heo:∃u,h'.get? e=some u):Un fs ex H (upd H x o) h h':=by
 have hx:∀b,H b=none→b≠x:=fun b n z=>by subst z;rw[n] at mu;exact mu
 have hb:∀b,H b=none→b≠e:=fun b n z=>by
  subst z
  rcases he with r|r
  ·exact hx b n r
  ·rw[n] at r;cases r
 have hm:∀b u,H b=some u→¬Mut (some u)→b≠x:=fun b u q nm z=>by subst z;rw[q] at mu;exact nm mu
 refine⟨fun b u q n _ _=>k b u (hb b n) q,fun b u q n _ _=>⟨u.slots,k b u (hb b n) q⟩,fun b u q n _=>by rw[zd (hx b n)];exact n,fun b u q _=>?_,
  fun b xs q=>by rw[zd (hm b _ q fun z=>z)];exact q,fun b u xs q=>by rw[zd (hm b _ q fun z=>z)];exact q,fun b ps q=>⟨#[],by rw[zd (hm b _ q fun z=>z),q];simp⟩⟩
 by_cases hbe:b=e
 ·subst hbe;exact heo
 ·exact⟨u,k b u hbe q⟩
end
def trk (h:Heap)(H:Hp):List Addr:=(List.range h.objs.size).filter fun a=>(H a).isSome
def rC (h:Heap)(H:Hp):Heap:=PySem.W.hideAll h (trk h H)
theorem iq (h:Heap)(H:Hp):(rC h H).objs.size=h.objs.size:=PySem.W.hideAll_size _ _
theorem hG {h:Heap}{H:Hp}{b:Addr}{o:Obj}(e:h.get? b=some o)(n:H b=none):(rC h H).get? b=some o:=
 PySem.W.hideAll_get _ e fun hm=>by
  have q:(H b).isSome=true:=(List.mem_filter.mp hm).2
  rw[n] at q;simp at q
theorem bX {h:Heap}{H:Hp}{b:Addr}{o:Obj}(e:(rC h H).get? b=some o):h.get? b=some o∧H b=none:=by
 have e':h.get? b=some o:=PySem.W.of_hideAll (trk h H) e
 refine⟨e',?_⟩
 cases q:H b with
 |none=>rfl
 |some x=>
  have hm:b∈trk h H:=List.mem_filter.mpr ⟨List.mem_range.mpr (zt6 e'),by simp[q]⟩
  have z:(rC h H).get? b=none:=PySem.W.hideAll_none (trk h H) hm
  rw[z] at e;cases e
structure Mod (K:PySem.W.Frag)(mg:Str→Option Value)(base:Heap):Prop where
 kin:K.In base
 glob:base.Ns mainGlobals mg
 blt:∃mb,base.Ns builtinsNs mb∧∀x:Str,x≠"__name__"→mb x=bootBuiltins x
 nolimit:base.NoLimit
structure Cx where
 prog:Program
 w:World
 K:PySem.W.Frag
 mg:Str→Option Value
 base:Heap
 A:Around
 N:List Str
 s₀:Shared
 H₀:Hp
 env:Env
 outer:List Env
 stack:List Env
 ex:List Addr
 fn:Str→Bool
 calm:Bool
 pn:List (Addr×Obj)
 xe:Value→Shared→Prop
def frs (l:List Env):List Addr:=l.filterMap (·.frame)
abbrev Cx.fs (X:Cx):List Addr:=frs X.outer
def Vis (sc:Scope)(x:Str):Prop:=sc.names.lookup x=some .local∨sc.names.lookup x=some .cell∨sc.names.lookup x=some .free
def Loc (sc:Scope)(x:Str):Prop:=sc.names.lookup x=some .local∨sc.names.lookup x=some .cell
def Look (env:Env)(h:Heap)(m:Str→Option Value)(x:Str)(u:Value):Prop:=
 (env.kindOf x=some .local∧m x=some u)∨((env.kindOf x=some .cell∨env.kindOf x=some .free)∧∃c,env.cells.lookup x=some c∧h.IsCell c (some u))
structure Cx.Ok (X:Cx):Prop where
 mod:Mod X.K X.mg X.base
 kind:X.env.scope.kind=.function
 glob:X.env.globals=mainGlobals
 blt:X.env.builtins=builtinsNs
 above:X.s₀.heap.objs.size≤X.env.locals
 inj:∀x y c,X.env.cells.lookup x=some c→X.env.cells.lookup y=some c→x=y
 has:∀x,(X.env.kindOf x=some .cell∨X.env.kindOf x=some .free)→∃c,X.env.cells.lookup x=some c
 cab:∀x c,X.fn x=true→X.env.cells.lookup x=some c→X.s₀.heap.objs.size≤c
 hd:X.calm=true→X.A.handled=none
 frames:X.A.frames=some X.stack
 stk:X.stack=X.outer∨(X.stack=X.env::X.outer∧X.env.frame=some X.env.locals)
 exf:∀b∈X.ex,b≠X.env.locals∧∀x c,X.env.cells.lookup x=some c→c≠b
 bs:∀b o,X.base.get? b=some o→X.s₀.heap.get? b=some o∧X.H₀ b=none
 bsz:X.base.objs.size≤X.s₀.heap.objs.size
 noex:∀b o,X.base.get? b=some o→b∉X.ex
 exfs:∀b∈X.ex,b∉X.fs
 funs:X.s₀.heap.FunFrames X.base X.outer
 frf:∀b∈X.fs,X.H₀ b=none
structure Inv (X:Cx)(pins:List (Addr×Obj))(σ:List (Option V))(H:Hp)(s:Shared):Prop where
 ok:X.Ok
 os:s.os=X.s₀.os
 bare:AllBare s.gens
 base:Un X.fs X.ex X.H₀ H X.s₀.heap s.heap
 loc:∃m,s.heap.Ns X.env.locals m∧∀(i:Nat) (x:Str) (v:V),X.N[i]?=some x→σ[i]?=some (some v)→Vis X.env.scope x→∃u,RelV v u∧Look X.env s.heap m x u
 cell:∀x c,X.env.cells.lookup x=some c→∃v,s.heap.IsCell c v
 free:H X.env.locals=none
 freeC:∀x c,X.env.cells.lookup x=some c→H c=none
 pin:∀p∈X.pn++pins,s.heap.get? p.1=some p.2∧H p.1=none∧p.1≠X.env.locals∧p.1∉X.fs∧∀v,p.2.data≠.cell v
 hok:HOk X.prog X.w H s.heap
 len:σ.length=X.N.length
section
variable {X:Cx}{pins:List (Addr×Obj)}{σ:List (Option V)}{H H':Hp}{s:Shared}{h':Heap}
theorem Cx.Ok.nofr (ok:X.Ok){b:Addr}{o:Obj}(e:X.base.get? b=some o):b∉X.fs:=fun hb=>by
 have:=(ok.funs.mem hb).1
 rw[e] at this;cases this
theorem Inv.bs (I:Inv X pins σ H s):∀b o,X.base.get? b=some o→s.heap.get? b=some o∧H b=none:=fun b o e=>
 ⟨I.base.keep b o (I.ok.bs b o e).1 (I.ok.bs b o e).2 (I.ok.nofr e) (I.ok.noex b o e),I.base.free b o (I.ok.bs b o e).1 (I.ok.bs b o e).2 (I.ok.noex b o e)⟩
theorem Inv.bk (I:Inv X pins σ H s):∀b o,X.base.get? b=some o→s.heap.get? b=some o:=fun b o e=>(I.bs b o e).1
theorem Inv.mod (I:Inv X pins σ H s):Mod X.K X.mg X.base:=I.ok.mod
theorem Inv.kIn (I:Inv X pins σ H s):X.K.In s.heap:=I.ok.mod.kin.keeps I.bk
theorem Inv.lt (I:Inv X pins σ H s):X.env.locals<s.heap.objs.size:=let ⟨_,hn,_⟩:=I.loc;hn.lt
theorem Inv.sz (I:Inv X pins σ H s):X.s₀.heap.objs.size≤s.heap.objs.size:=zx9 I.ok.above (zy6 I.lt)
theorem Inv.nofs (I:Inv X pins σ H s){a:Addr}(h:s.heap.objs.size≤a):a∉X.fs:=fun hb=>by
 obtain⟨_,o,ho,_⟩:=I.ok.funs.mem hb
 exact absurd (zu9 (zt6 ho) (zx9 I.sz h)) (zz5 _)
theorem Inv.cne (I:Inv X pins σ H s):∀x c,X.env.cells.lookup x=some c→c≠X.env.locals:=fun x c e z=>by
 obtain⟨v,o,ho,hd⟩:=I.cell x c e
 obtain⟨m,⟨o',es,ep,ho',hd',_⟩,_⟩:=I.loc
 rw[z,ho'] at ho;cases ho;rw[hd'] at hd;cases hd
theorem Inv.funs (I:Inv X pins σ H s):s.heap.FunFrames X.base X.outer:=by
 have all:∀(l:List Env),(∀b∈frs l,b∈X.fs)→X.s₀.heap.FunFrames X.base l→s.heap.FunFrames X.base l:=by
  intro l
  induction l with
  |nil=>intro _ _;trivial
  |cons env r ih=>
   intro hs hl
   obtain⟨hk,⟨L,o,hf,hn,ho,hd⟩,hr⟩:=hl
   have hL:L∈X.fs:=hs L (by unfold frs;rw[zI3,hf];exact zu8)
   obtain⟨sl,e⟩:=I.base.slot L o ho (I.ok.frf L hL) hL fun z=>I.ok.exfs L z hL
   exact⟨hk,⟨L,_,hf,hn,e,hd⟩,ih (fun b hb=>hs b (by unfold frs;rw[zI3,hf];exact zu1 _ hb)) hr⟩
 exact all X.outer (fun _ hb=>hb) I.ok.funs
theorem Inv.stack (I:Inv X pins σ H s):s.heap.FunFrames X.base X.stack:=by
 rcases I.ok.stk with e|⟨e,hf⟩
 ·rw[e];exact I.funs
 ·rw[e]
  obtain⟨m,hn,_⟩:=I.loc
  refine .cons (by rw[I.ok.kind];decide) hf hn ?_ I.funs
  exact Heap.get?_none_of_le (zx9 I.ok.bsz I.ok.above)
theorem Inv.stkSub (I:Inv X pins σ H s):∀b∈frs X.stack,b∈X.env.locals::X.fs:=fun b hb=>by
 rcases I.ok.stk with e|⟨e,hf⟩
 ·rw[e] at hb;exact zu1 _ hb
 ·rw[e] at hb
  unfold frs at hb
  rw[zI3,hf] at hb
  exact hb
theorem Inv.stkFree (I:Inv X pins σ H s):∀b∈frs X.stack,H b=none:=fun b hb=>by
 rcases zt4.mp (I.stkSub b hb) with e|hb
 ·rw[e];exact I.free
 ·obtain⟨_,o,ho,_⟩:=I.ok.funs.mem hb
  exact I.base.free b o ho (I.ok.frf b hb) fun z=>I.ok.exfs b z hb
theorem Inv.step {g':Array GenState}{t':Nat}{d':Drawn}{ch:List Addr}(I:Inv X pins σ H s)
  (hch:∀b∈ch,(b∈X.ex∨X.s₀.heap.objs.size≤b)∧b≠X.env.locals∧(∀x c,X.env.cells.lookup x=some c→c≠b)∧∀p∈X.pn++pins,p.1≠b)
  (keep:∀b o,b≠X.env.locals→b∉X.fs→b∉ch→s.heap.get? b=some o→H b=none→h'.get? b=some o)
  (slot:∀b o,b≠X.env.locals→b∈X.fs→b∉ch→s.heap.get? b=some o→H b=none→∃sl,h'.get? b=some {o with slots:=sl}) (free:∀b o,b∉ch→s.heap.get? b=some o→H b=none→H' b=none)
  (there:∀b o,b∉ch→s.heap.get? b=some o→∃o',h'.get? b=some o')
  (tups:∀b xs,H b=some (.tup xs)→H' b=some (.tup xs)) (frzs:∀b o u,H b=some (.frz o u)→H' b=some (.frz o u)) (tbls:∀b ps,H b=some (.tbl ps)→∃more,H' b=some (.tbl (ps++more)))
  (ns:∀m,s.heap.Ns X.env.locals m→h'.Ns X.env.locals m) (hok:HOk X.prog X.w H' h') (hg:AllBare g'):
  Inv X pins σ H' {s with heap:=h',gens:=g',drawn:=d',toks:=t'}:=by
 have neL:∀b o,X.s₀.heap.get? b=some o→b≠X.env.locals:=fun b o e=>zv0 (zu9 (zt6 e) I.ok.above)
 have neC:∀b o,X.s₀.heap.get? b=some o→b∉X.ex→b∉ch:=fun b o e hx hb=>by
  rcases (hch b hb).1 with z|z
  ·exact hx z
  ·exact absurd (zu9 (zt6 e) z) (zz5 _)
 have cellK:∀x c,X.env.cells.lookup x=some c→∀v,s.heap.IsCell c v→h'.IsCell c v:=fun x c e v ⟨o,ho,hd⟩=>by
  have nch:c∉ch:=fun z=>(hch c z).2.2.1 x c e rfl
  by_cases hc:c∈X.fs
  ·obtain⟨sl,q⟩:=slot c o (I.cne x c e) hc nch ho (I.freeC x c e)
   exact⟨_,q,hd⟩
  ·exact⟨o,keep c o (I.cne x c e) hc nch ho (I.freeC x c e),hd⟩
 refine⟨I.ok,I.os,hg,⟨fun b o e n hb hx=>?_,fun b o e n hb hx=>?_,fun b o e n hx=>?_,fun b o e hx=>?_,fun b xs e=>tups b xs (I.base.tups b xs e),fun b o xs e=>frzs b o xs (I.base.frzs b o xs e),fun b ps e=>?_⟩,?_,fun x c e=>?_,?_,fun x c e=>?_,fun p hp=>?_,hok,I.len⟩
 ·exact keep b o (neL b o e) hb (neC b o e hx) (I.base.keep b o e n hb hx) (I.base.free b o e n hx)
 ·obtain⟨sl,e1⟩:=I.base.slot b o e n hb hx
  obtain⟨sl',e2⟩:=slot b _ (neL b o e) hb (neC b o e hx) e1 (I.base.free b o e n hx)
  exact⟨sl',e2⟩
 ·obtain⟨o',e1⟩:=I.base.there b o e hx
  exact free b o' (neC b o e hx) e1 (I.base.free b o e n hx)
 ·obtain⟨o',e1⟩:=I.base.there b o e hx
  exact there b o' (neC b o e hx) e1
 ·obtain⟨m1,e1⟩:=I.base.tbls b ps e
  obtain⟨m2,e2⟩:=tbls b _ e1
  exact⟨m1++m2,by rw[e2,Array.append_assoc]⟩
 ·obtain⟨m,hn,hl⟩:=I.loc
  refine⟨m,ns m hn,fun i x v e1 e2 e3=>?_⟩
  obtain⟨u,r,l⟩:=hl i x v e1 e2 e3
  refine⟨u,r,?_⟩
  rcases l with l|⟨k,c,e,z⟩
  ·exact .inl l
  ·exact .inr ⟨k,c,e,cellK x c e _ z⟩
 ·obtain⟨v,z⟩:=I.cell x c e
  exact⟨v,cellK x c e v z⟩
 ·obtain⟨m,⟨o,_,_,ho,_⟩,_⟩:=I.loc
  exact free _ o (fun z=>(hch _ z).2.1 rfl) ho I.free
 ·obtain⟨v,o,ho,hd⟩:=I.cell x c e
  exact free c o (fun z=>(hch c z).2.2.1 x c e rfl) ho (I.freeC x c e)
 ·obtain⟨e,n,ne,nf,d⟩:=I.pin p hp
  have nch:p.1∉ch:=fun z=>(hch p.1 z).2.2.2 p hp rfl
  exact⟨keep p.1 p.2 ne nf nch e n,free p.1 p.2 nch e n,ne,nf,d⟩
theorem Inv.un {t':Nat}(I:Inv X pins σ H s)(u:Un X.fs [] H H' s.heap h')(hok:HOk X.prog X.w H' h'):Inv X pins σ H' {s with heap:=h',toks:=t'}:=by
 obtain⟨m,⟨o,es,ep,ho,r⟩,_⟩:=id I.loc
 obtain⟨sl,hL⟩:=u.any ho I.free (by simp)
 exact I.step (g':=s.gens) (d':=s.drawn) (ch:=[]) (fun _ z=>nomatch z) (fun b o _ hb _ e n=>u.keep b o e n hb (by simp)) (fun b o _ hb _ e n=>u.slot b o e n hb (by simp)) (fun b o _ e n=>u.free b o e n (by simp)) (fun b o _ e=>u.there b o e (by simp)) u.tups u.frzs u.tbls (fun m' hm=>by
  obtain⟨o',es',ep',ho',r'⟩:=hm
  rw[ho] at ho';cases ho'
  exact⟨_,es',ep',hL,r'⟩) hok I.bare
theorem Inv.call {g':Array GenState}{t':Nat}{d':Drawn}{ch:List Addr}(I:Inv X pins σ H s)(u:Un (frs X.stack) ch H H' s.heap h')(hok:HOk X.prog X.w H' h')(hg:AllBare g')
  (hch:∀b∈ch,(b∈X.ex∨X.s₀.heap.objs.size≤b)∧b≠X.env.locals∧(∀x c,X.env.cells.lookup x=some c→c≠b)∧∀p∈X.pn++pins,p.1≠b):
  Inv X pins σ H' {s with heap:=h',gens:=g',drawn:=d',toks:=t'}:=by
 obtain⟨m,⟨o,es,ep,ho,r⟩,_⟩:=id I.loc
 obtain⟨sl,hL⟩:=u.any ho I.free fun z=>(hch _ z).2.1 rfl
 exact I.step (ch:=ch) hch (fun b o hL hb hc e n=>u.keep b o e n (fun z=>(zt4.mp (I.stkSub b z)).elim hL hb) hc) (fun b o _ _ hc e n=>u.any e n hc) (fun b o hc e n=>u.free b o e n hc) (fun b o hc e=>u.there b o e hc) u.tups u.frzs u.tbls (fun m' hm=>by
  obtain⟨o',es',ep',ho',r'⟩:=hm
  rw[ho] at ho';cases ho'
  exact⟨_,es',ep',hL,r'⟩) hok hg
theorem Inv.turned {t':Nat}{it:Addr}(I:Inv X pins σ H s)(k:∀b o,b≠it→s.heap.get? b=some o→h'.get? b=some o)(hn:H it=none)(hL:it≠X.env.locals)
  (h1:it∈X.ex∨X.s₀.heap.objs.size≤it) (h2:∀x c,X.env.cells.lookup x=some c→c≠it) (h3:∀p∈X.pn++pins,p.1≠it):Inv X pins σ H {s with heap:=h',toks:=t'}:=by
 have nit:∀b u,H b=some u→b≠it:=fun b u e z=>by rw[z,hn] at e;cases e
 refine I.step (g':=s.gens) (d':=s.drawn) (ch:=[it]) (fun b hb=>?_) (fun b o _ _ hc e _=>k b o (fun z=>hc (by simp[z])) e) (fun b o _ _ hc e _=>⟨o.slots,k b o (fun z=>hc (by simp[z])) e⟩) (fun _ _ _ _ n=>n)
  (fun b o hc e=>⟨o,k b o (fun z=>hc (by simp[z])) e⟩) (fun _ _ e=>e) (fun _ _ _ e=>e) (fun b ps e=>⟨#[],by rw[e];simp⟩) (fun m hm=>?_) (fun b u e=>?_) I.bare
 ·have e:b=it:=by simpa using hb
  subst e
  exact⟨h1,hL,h2,h3⟩
 ·obtain⟨o,es,ep,ho,r⟩:=hm
  exact⟨o,es,ep,k _ o (zw4 hL) ho,r⟩
 ·refine (I.hok b u e).stay (fun c v hc q=>k c v ?_ q) (fun _ q=>q) fun _ _ q=>q
  rcases hc with z|z
  ·rw[z];exact nit b u e
  ·exact nit c _ z
theorem Inv.tok (I:Inv X pins σ H s)(t:Nat):Inv X pins σ H {s with toks:=t}:=I.un (h':=s.heap) (t':=t) Un.refl I.hok
theorem Inv.kept {t':Nat}(I:Inv X pins σ H s)(k:∀b u,s.heap.get? b=some u→h'.get? b=some u):Inv X pins σ H {s with heap:=h',toks:=t'}:=I.un (Un.kept k) (I.hok.kept k)
theorem Inv.laid {a:Addr}{o:HO}{t':Nat}(I:Inv X pins σ H s)(k:∀b u,s.heap.get? b=some u→h'.get? b=some u)(hp:s.heap.objs.size≤a)(new:zY X.prog X.w (upd H a o) h' a o):
  Inv X pins σ (upd H a o) {s with heap:=h',toks:=t'}:=I.un (Un.laid k hp (I.hok.fresh hp)) (I.hok.laid k hp new)
theorem Inv.write {x e:Addr}{o:HO}{t':Nat}(I:Inv X pins σ H s)(mu:Mut (H x))(he:e=x∨H e=some (.own x))(k:∀b u,b≠e→s.heap.get? b=some u→h'.get? b=some u)(heo:∃u,h'.get? e=some u)
  (new:zY X.prog X.w (upd H x o) h' x o):Inv X pins σ (upd H x o) {s with heap:=h',toks:=t'}:=I.un (Un.write mu he k heo) (I.hok.write mu he k heo new)
theorem Inv.pins_of {pins':List (Addr×Obj)}(I:Inv X pins σ H s)(h:∀p∈pins',s.heap.get? p.1=some p.2∧H p.1=none∧p.1≠X.env.locals∧p.1∉X.fs∧∀v,p.2.data≠.cell v):Inv X pins' σ H s:=
 ⟨I.ok,I.os,I.bare,I.base,I.loc,I.cell,I.free,I.freeC,fun p hp=>(zD2.mp hp).elim (fun z=>I.pin p (zH6 _ z)) (h p),I.hok,I.len⟩
theorem oQ {N:List Str}(hN:N.Nodup){i j:Nat}{x:Str}(a:N[i]?=some x)(b:N[j]?=some x):i=j:=by
 obtain⟨h1,e1⟩:=zt5.mp a
 obtain⟨h2,e2⟩:=zt5.mp b
 exact (List.getElem_inj hN).mp (e1.trans e2.symm)
theorem rG {M:Model}{A:Around}{E:Value→Shared→Prop}{i:Nat}{x:Str}{v:V}{u:Value}{Q:Unit→Shared→Prop}(I:Inv X pins σ H s)(hN:X.N.Nodup)(hi:X.N[i]?=some x)(hx:Loc X.env.scope x)(r:RelV v u)
  (h:∀s',Inv X pins (σ.set i (some v)) H s'→(∃a,Heap.SameBut a s.heap s'.heap∧(a=X.env.locals∨X.env.cells.lookup x=some a))→Q () s') (hf:X.fn x=true∨X.env.scope.names.lookup x=some .local:=by first|exact .inl rfl|exact .inr rfl|assumption):wpAny M A (storeName X.env x u) Q E s:=by
 obtain⟨m,hn,hl⟩:=id I.loc
 have hcls:(X.env.scope.kind == .class||(X.env.scope.kind == .module&&X.env.locals != X.env.globals))=false:=by rw[I.ok.kind];rfl
 have hiσ:i<σ.length:=by rw[I.len];exact (zt5.mp hi).1
 have cne:=I.cne
 have tracked:∀{a:Addr} {h':Heap},(∃o,s.heap.get? a=some o∧H a=none)→Heap.SameBut a s.heap h'→HOk X.prog X.w H h':=fun {a h'} ha hs b ob e=>by
  obtain⟨_,_,hfree⟩:=ha
  refine (I.hok b ob e).stay (fun c w' hc q=>(hs.2 c ?_).trans q) (fun _ q=>q) fun _ _ q=>q
  rintro rfl
  rcases hc with rfl|hc
  ·rw[hfree] at e;cases e
  ·rw[hfree] at hc;cases hc
 rcases hx with hk|hk
 ·refine wpAny_storeName_local hk hn (fun h' hn' hs=>?_) hcls
  obtain⟨oL,_,_,hoL,_⟩:=id hn
  refine h _ ⟨I.ok,I.os,I.bare,⟨fun b o e n hb hx=>?_,fun b o e n hb hx=>?_,I.base.free,fun b o e hx=>?_,I.base.tups,I.base.frzs,I.base.tbls⟩,⟨_,hn',fun j y v' e1 e2 e3=>?_⟩,fun y c e=>?_,I.free,I.freeC,fun p hp=>?_,tracked ⟨oL,hoL,I.free⟩ hs,by simpa using I.len⟩ ⟨_,hs,.inl rfl⟩
  ·exact (hs.2 b (zv0 (zu9 (zt6 e) I.ok.above))).trans (I.base.keep b o e n hb hx)
  ·obtain⟨sl,e1⟩:=I.base.slot b o e n hb hx
   exact⟨sl,(hs.2 b (zv0 (zu9 (zt6 e) I.ok.above))).trans e1⟩
  ·obtain⟨o',e1⟩:=I.base.there b o e hx
   exact⟨o',(hs.2 b (zv0 (zu9 (zt6 e) I.ok.above))).trans e1⟩
  ·by_cases hj:j=i
   ·subst hj
    rw[hi] at e1;cases e1
    rw[zz3 hiσ] at e2
    cases e2
    exact⟨u,r,.inl ⟨hk,by simp⟩⟩
   ·rw[zx6 (zw4 hj)] at e2
    obtain⟨u',r',q⟩:=hl j y v' e1 e2 e3
    refine⟨u',r',?_⟩
    rcases q with ⟨k,e⟩|⟨k,c,e,z⟩
    ·refine .inl ⟨k,?_⟩
     have:y≠x:=fun e=>hj (oQ hN e1 (e▸hi))
     simp[this,e]
    ·exact .inr ⟨k,c,e,z.sameBut hs (cne y c e)⟩
  ·obtain⟨w',z⟩:=I.cell y c e
   exact⟨w',z.sameBut hs (cne y c e)⟩
  ·obtain⟨e,n,ne,nf,d⟩:=I.pin p hp
   exact⟨(hs.2 p.1 ne).trans e,n,ne,nf,d⟩
 ·have hfn:X.fn x=true:=by
   rcases hf with z|z
   ·exact z
   ·rw[z] at hk;cases hk
  obtain⟨c,hc⟩:=I.ok.has x (.inl hk)
  obtain⟨w',z⟩:=I.cell x c hc
  refine wpAny_storeName_cell I.ok.kind hk hc z (fun h' hc' hs=>?_)
  obtain⟨oc,hoc,hocd⟩:=id z
  refine h {s with heap:=h'} ⟨I.ok,I.os,I.bare,⟨fun b o e n hb hx=>?_,fun b o e n hb hx=>?_,I.base.free,fun b o e hx=>?_,I.base.tups,I.base.frzs,I.base.tbls⟩,⟨m,hn.sameBut hs (zw4 (cne x c hc)),fun j y v' e1 e2 e3=>?_⟩,fun y c' e=>?_,I.free,I.freeC,fun p hp=>?_,tracked ⟨oc,hoc,I.freeC x c hc⟩ hs,by simpa using I.len⟩ ⟨c,hs,.inr hc⟩
  ·exact (hs.2 b (zv0 (zu9 (zt6 e) (I.ok.cab x c hfn hc)))).trans (I.base.keep b o e n hb hx)
  ·obtain⟨sl,e1⟩:=I.base.slot b o e n hb hx
   exact⟨sl,(hs.2 b (zv0 (zu9 (zt6 e) (I.ok.cab x c hfn hc)))).trans e1⟩
  ·obtain⟨o',e1⟩:=I.base.there b o e hx
   exact⟨o',(hs.2 b (zv0 (zu9 (zt6 e) (I.ok.cab x c hfn hc)))).trans e1⟩
  ·by_cases hj:j=i
   ·subst hj
    rw[hi] at e1;cases e1
    rw[zz3 hiσ] at e2
    cases e2
    exact⟨u,r,.inr ⟨.inl hk,c,hc,hc'⟩⟩
   ·rw[zx6 (zw4 hj)] at e2
    obtain⟨u',r',q⟩:=hl j y v' e1 e2 e3
    refine⟨u',r',?_⟩
    rcases q with q|⟨k,c',e,z'⟩
    ·exact .inl q
    ·refine .inr ⟨k,c',e,z'.sameBut hs ?_⟩
     rintro rfl
     exact hj (oQ hN e1 (I.ok.inj _ _ _ e hc▸hi))
  ·by_cases hcc:c'=c
   ·subst hcc;exact⟨_,hc'⟩
   ·obtain⟨w2,z2⟩:=I.cell y c' e
    exact⟨w2,z2.sameBut hs hcc⟩
  ·obtain⟨e,n,ne,nf,d⟩:=I.pin p hp
   refine⟨(hs.2 p.1 ?_).trans e,n,ne,nf,d⟩
   intro q
   rw[q,hoc] at e
   have q':oc=p.2:=zv8 e
   exact d w' (by rw[←q'];exact hocd)
theorem oh {M:Model}{A:Around}{E:Value→Shared→Prop}{i:Nat}{x:Str}{v:V}{u:Value}{Q:Unit→Shared→Prop}(I:Inv X pins σ H s)(hN:X.N.Nodup)(hi:X.N[i]?=some x)(hx:Loc X.env.scope x)(r:RelV v u)
  (h:∀s',Inv X pins (σ.set i (some v)) H s'→Q () s') (hf:X.fn x=true∨X.env.scope.names.lookup x=some .local:=by first|exact .inl rfl|exact .inr rfl|assumption):wpAny M A (storeName X.env x u) Q E s:=
 rG I hN hi hx r (fun s' I' _=>h s' I') hf
theorem Inv.call' {s':Shared}{ch:List Addr}(I:Inv X pins σ H s)(ho:s'.os=s.os)(u:Un (frs X.stack) ch H H' s.heap s'.heap)(hok:HOk X.prog X.w H' s'.heap)(hg:AllBare s'.gens)
  (hch:∀b∈ch,(b∈X.ex∨X.s₀.heap.objs.size≤b)∧b≠X.env.locals∧(∀x c,X.env.cells.lookup x=some c→c≠b)∧∀p∈X.pn++pins,p.1≠b):Inv X pins σ H' s':=by
 obtain⟨h',g',d',t',o'⟩:=s'
 have e:o'=s.os:=ho
 subst e
 exact I.call (g':=g') (t':=t') (d':=d') u hok hg hch
end
abbrev XK :=Value→Option Addr→Hp→Prop
abbrev St :=List (Option V)
abbrev VK :=V→Hp→Prop
abbrev TE :=St→Hp→VK→Prop
abbrev TT :=St→Hp→(Bool→Hp→Prop)→Prop
abbrev TA :=St→Hp→(List V→Hp→Prop)→Prop
structure Ends where
 nx:St→Hp→Prop
 rt:VK
 bk:St→Hp→Prop:=fun _ _=>False
 ct:St→Hp→Prop:=fun _ _=>False
abbrev TS :=Ends→St→Hp→Prop
def EP (X:Cx)(pins:List (Addr×Obj))(σ:St)(Q:VK)(u:Value)(s':Shared):Prop:=∃v H',Inv X pins σ H' s'∧RelV v u∧Q v H'
def TP (X:Cx)(pins:List (Addr×Obj))(σ:St)(Q:Bool→Hp→Prop)(b:Bool)(s':Shared):Prop:=∃H',Inv X pins σ H' s'∧Q b H'
def AP (X:Cx)(pins:List (Addr×Obj))(σ:St)(Q:List V→Hp→Prop)(us:List Value)(s':Shared):Prop:=∃vs H',Inv X pins σ H' s'∧Vals vs us∧Q vs H'
def SP (X:Cx)(pins:List (Addr×Obj))(D:Ends)(f:Flow)(s':Shared):Prop:=
 match f with
 |.next=>∃σ' H',Inv X pins σ' H' s'∧D.nx σ' H'
 |.brk=>∃σ' H',Inv X pins σ' H' s'∧D.bk σ' H'
 |.cont=>∃σ' H',Inv X pins σ' H' s'∧D.ct σ' H'
 |.ret u=>∃v σ' H',Inv X pins σ' H' s'∧RelV v u∧D.rt v H'
def PE (X:Cx)(e:Expr)(t:TE):Prop:=
 ∀(pins:List (Addr×Obj)) (s:Shared) (σ:St) (H:Hp) (Q:VK),Inv X pins σ H s→t σ H Q→wpAny (model X.prog X.w) X.A (eval e X.env) (EP X pins σ Q) X.xe s
def PT (X:Cx)(e:Expr)(t:TT):Prop:=
 ∀(pins:List (Addr×Obj)) (s:Shared) (σ:St) (H:Hp) (Q:Bool→Hp→Prop),Inv X pins σ H s→t σ H Q→wpAny (model X.prog X.w) X.A (isTrue e X.env (eval e X.env)) (TP X pins σ Q) X.xe s
def PW (X:Cx)(e:Expr)(t:TT):Prop:=
 ∀(whole:Sem Value) (pins:List (Addr×Obj)) (s:Shared) (σ:St) (H:Hp) (Q:Bool→Hp→Prop),Inv X pins σ H s→t σ H Q→wpAny (model X.prog X.w) X.A (isTrue e X.env whole) (TP X pins σ Q) X.xe s
theorem PW.pt {X:Cx}{e:Expr}{t:TT}(h:PW X e t):PT X e t:=h _
def PA (X:Cx)(es:List Expr)(t:TA):Prop:=
 ∀(pos:Pos) (pins:List (Addr×Obj)) (s:Shared) (σ:St) (H:Hp) (Q:List V→Hp→Prop),Inv X pins σ H s→t σ H Q→wpAny (model X.prog X.w) X.A (spliced (backTo pos (starEach es X.env))) (AP X pins σ Q) X.xe s
def PS (X:Cx)(st:Stmt)(t:TS):Prop:=
 ∀(pins:List (Addr×Obj)) (s:Shared) (σ:St) (H:Hp) (D:Ends),Inv X pins σ H s→t D σ H→wpAny (model X.prog X.w) X.A (exec st X.env) (SP X pins D) X.xe s
def PSs (X:Cx)(st:List Stmt)(t:TS):Prop:=
 ∀(pins:List (Addr×Obj)) (s:Shared) (σ:St) (H:Hp) (D:Ends),Inv X pins σ H s→t D σ H→wpAny (model X.prog X.w) X.A (execs st X.env) (SP X pins D) X.xe s
theorem thn {α:Type}{t:Sem α}{Q Q':α→Shared→Prop}{M:Model}{A:Around}{E:Value→Shared→Prop}{s:Shared}(h:wpAny M A t Q E s)(hQ:∀a s,Q a s→Q' a s):wpAny M A t Q' E s:=zw2 h hQ fun _ _ x=>x
section
variable {X:Cx}
theorem bin {a b:Expr}{ta tb:TE}(ha:PE X a ta)(hb:PE X b tb){pins:List (Addr×Obj)}{s:Shared}{σ:St}{H:Hp}{R:V→V→Hp→Prop}(I:Inv X pins σ H s)(h:ta σ H fun x H1=>tb σ H1 fun y H2=>R x y H2)
  {α:Type} {Q:α→Shared→Prop} {f:Value→Value→Sem α}
  (hf:∀v u s2 x y H2,Inv X pins σ H2 s2→RelV x v→RelV y u→R x y H2→wpAny (model X.prog X.w) X.A (f v u) Q X.xe s2):
  wpAny (model X.prog X.w) X.A (eval a X.env) (fun v s₁=>wpAny (model X.prog X.w) X.A (eval b X.env) (fun u s₂=>wpAny (model X.prog X.w) X.A (f v u) Q X.xe s₂) X.xe s₁) X.xe s:=by
 refine thn (ha pins s σ H _ I h) fun v s1 ⟨x,H1,I1,r1,q1⟩=>?_
 refine thn (hb pins s1 σ H1 _ I1 q1) fun u s2 ⟨y,H2,I2,r2,q2⟩=>?_
 exact hf v u s2 x y H2 I2 r1 r2 q2
def zb0 (i:Nat):TE:=fun σ H Q=>∃v,σ[i]?=some (some v)∧Q v H
def tC (v:V):TE:=fun _ H Q=>Q v H
theorem yy {i:Nat}{x:Str}{pos:Pos}(hN:X.N[i]?=some x)(hv:Vis X.env.scope x)(hd:(x == ("__debug__":Str))=false:=by decide)(hcd:(x == ("__classdict__":Str))=false:=by decide):PE X (.Name x pos) (zb0 i):=by
 intro pins s σ H Q I h
 obtain⟨v,e,h⟩:=h
 obtain⟨m,hn,hl⟩:=I.loc
 obtain⟨u,r,l⟩:=hl i x v hN e hv
 have fin:EP X pins σ Q u s:=⟨v,H,I,r,h⟩
 rcases l with ⟨hk,hm⟩|⟨hk,c,hc,hcell⟩
 ·exact wpAny_Name (wpAny_loadName_local I.ok.kind hk hn hm fin) hd
 ·rcases hk with hk|hk
  ·exact wpAny_Name (wpAny_loadName_cell I.ok.kind hk hc hcell fin) hd
  ·exact wpAny_Name (wpAny_loadName_free I.ok.kind hk hc hcell fin hcd) hd
theorem zq {i j pos}:PE X (.Constant (.int i) j pos) (tC (.int i)):=fun _ _ _ H _ I h=>wpAny_Constant_int ⟨.int i,H,I.tok _,⟨_,rfl⟩,h⟩
theorem zk0 {b j pos}:PE X (.Constant (.bool b) j pos) (tC (.bl b)):=fun _ _ _ H _ I h=>Constant_bool ⟨.bl b,H,I,rfl,h⟩
theorem qE {j pos}:PE X (.Constant .none j pos) (tC .non):=fun _ _ _ H _ I h=>Constant_none ⟨.non,H,I,rfl,h⟩
theorem yf {x j pos}:PE X (.Constant (.str x) j pos) (tC (.str x)):=fun _ _ _ H _ I h=>Calls.Constant_str ⟨.str x,H,I.tok _,⟨_,rfl⟩,h⟩
def Gl (X:Cx)(x:Str):Prop:=X.env.kindOf x=some .globalImplicit
theorem xK {E:Value→Shared→Prop}{pins:List (Addr×Obj)}{s:Shared}{σ:St}{H:Hp}{x:Str}{u:Value}{pos:Pos}{Q:Value→Shared→Prop}(I:Inv X pins σ H s)(hg:Gl X x)(hm:X.mg x=some u)(h:Q u s)
  (hd:(x == ("__debug__":Str))=false:=by decide):wpAny (model X.prog X.w) X.A (eval (.Name x pos) X.env) Q E s:=
 Calls.Name_function_global I.ok.kind hg (Calls.loadGlobal_global (by rw[I.ok.glob];exact I.mod.glob.keeps I.bk) hm h) hd
theorem xx {E:Value→Shared→Prop}{pins:List (Addr×Obj)}{s:Shared}{σ:St}{H:Hp}{x:Str}{u:Value}{pos:Pos}{Q:Value→Shared→Prop}(I:Inv X pins σ H s)(hg:Gl X x)(hm:X.mg x=none)(hv:bootBuiltins x=some u)(h:Q u s)
  (hn:x≠"__name__":=by decide) (hd:(x == ("__debug__":Str))=false:=by decide):wpAny (model X.prog X.w) X.A (eval (.Name x pos) X.env) Q E s:=by
 obtain⟨mb,h1,h2⟩:=I.mod.blt
 exact Calls.Name_function_global I.ok.kind hg (Calls.loadGlobal_builtin (by rw[I.ok.glob];exact I.mod.glob.keeps I.bk) hm (by rw[I.ok.blt];exact h1.keeps I.bk) ((h2 x hn).trans hv) h) hd
theorem ub {x:Str}{v:V}{u:Value}{pos:Pos}(hg:Gl X x)(hm:X.mg x=some u)(r:RelV v u)(hd:(x == ("__debug__":Str))=false:=by decide):PE X (.Name x pos) (tC v):=
 fun _ _ _ H _ I h=>xK I hg hm ⟨v,H,I,r,h⟩ hd
theorem uc {x:Str}{v:V}{u:Value}{pos:Pos}(hg:Gl X x)(hm:X.mg x=none)(hv:bootBuiltins x=some u)(r:RelV v u)(hn:x≠"__name__":=by decide)(hd:(x == ("__debug__":Str))=false:=by decide):PE X (.Name x pos) (tC v):=
 fun _ _ _ H _ I h=>xx I hg hm hv ⟨v,H,I,r,h⟩ hn hd
variable {a b:Expr}{ta tb:TE}{pos:Pos}
def PC (X:Cx)(op:CmpOp)(a b:Expr)(t:TE):Prop:=
 ∀(pins:List (Addr×Obj)) (s:Shared) (σ:St) (H:Hp) (Q:VK),Inv X pins σ H s→t σ H Q→
  wpAny (model X.prog X.w) X.A (eval a X.env) (fun v s₁=>wpAny (model X.prog X.w) X.A (eval b X.env) (fun u s₂=>wpAny (model X.prog X.w) X.A (compareOp op v u) (EP X pins σ Q) X.xe s₂) X.xe s₁) X.xe s
def tB (t:TE):TT:=fun σ H Q=>t σ H fun x H1=>∃c,x=.bl c∧Q c H1
theorem zr6 {op:CmpOp}{t:TE}(h:PC X op a b t)(h1:behindInMarks op b=false:=by first|exact nobehind _ (by decide) (by decide)|rfl):PT X (.Compare a [op] [b] pos) (tB t):=by
 intro pins s σ H Q I hw
 refine wpAny_isTrue_Compare1 (thn (h pins s σ H _ I hw) fun v s1 h1=>thn h1 fun u s2 h2=>thn h2 fun c s3 ⟨x,H1,I1,r1,q1⟩=>?_) h1
 obtain⟨d,rfl,q⟩:=q1
 cases r1
 exact zA5 ⟨H1,I1,q⟩
theorem fU {e:Expr}{t:TE}(h:PE X e t)(he:∀whole,isTrue e X.env whole=(do let v ←whole;standAt e.pos;holding [v] (truthy v)):=by intro _;rfl):PT X e (tB t):=by
 intro pins s σ H Q I hw
 refine isTrue_plain (thn (h pins s σ H _ I hw) fun v s1 ⟨x,H1,I1,r1,q1⟩=>?_) (he _)
 obtain⟨d,rfl,q⟩:=q1
 cases r1
 exact zA5 ⟨H1,I1,q⟩
variable {tA tB':TT}{rest:List Expr}
def zs8 (t u:TT):TT:=fun σ H Q=>t σ H fun c H1=>if c=true then u σ H1 Q else Q false H1
def tOr (t u:TT):TT:=fun σ H Q=>t σ H fun c H1=>if c=true then Q true H1 else u σ H1 Q
def zq3 (t:TT):TT:=fun σ H Q=>t σ H fun c H1=>Q (!c) H1
theorem kN (ha:PT X a tA):PW X (.BoolOp .And [a] pos) tA:=by
 intro wh pins s σ H Q I h
 refine isTrue_and (thn (ha pins s σ H Q I h) fun c s1 e=>?_)
 cases c with
 |true=>exact isTrue_and_nil e
 |false=>exact e
theorem lB (ha:PT X a tA):PW X (.BoolOp .Or [a] pos) tA:=by
 intro wh pins s σ H Q I h
 refine isTrue_or (thn (ha pins s σ H Q I h) fun c s1 e=>?_)
 cases c with
 |false=>exact isTrue_or_nil e
 |true=>exact e
theorem fj (ha:PT X a tA)(hb:PW X (.BoolOp .And (b::rest) pos) tB'):PW X (.BoolOp .And (a::b::rest) pos) (zs8 tA tB'):=by
 intro wh pins s σ H Q I h
 refine isTrue_and (thn (ha pins s σ H _ I h) fun c s1 ⟨H1,I1,q1⟩=>?_)
 cases c with
 |true=>exact hb wh pins s1 σ H1 Q I1 q1
 |false=>exact⟨H1,I1,q1⟩
theorem gq (ha:PT X a tA)(hb:PW X (.BoolOp .Or (b::rest) pos) tB'):PW X (.BoolOp .Or (a::b::rest) pos) (tOr tA tB'):=by
 intro wh pins s σ H Q I h
 refine isTrue_or (thn (ha pins s σ H _ I h) fun c s1 ⟨H1,I1,q1⟩=>?_)
 cases c with
 |true=>exact⟨H1,I1,q1⟩
 |false=>exact hb wh pins s1 σ H1 Q I1 q1
theorem dI (ha:PT X a tA):PT X (.UnaryOp .Not a pos) (zq3 tA):=by
 intro pins s σ H Q I h
 exact isTrue_not (ha pins s σ H (fun c H1=>Q (!c) H1) I h)
def zk9 (ta tb:TE):TE:=fun σ H Q=>ta σ H fun x H1=>∃c,x=.bl c∧if c=true then tb σ H1 Q else Q (.bl false) H1
def zs3 (ta tb:TE):TE:=fun σ H Q=>ta σ H fun x H1=>∃c,x=.bl c∧if c=true then Q (.bl true) H1 else tb σ H1 Q
def zm9 (ta:TE):TE:=fun σ H Q=>ta σ H fun x H1=>∃c,x=.bl c∧Q (.bl (!c)) H1
theorem xX {op}{t:TE}(h:PE X a t):PE X (.BoolOp op [a] pos) t:=fun pins s σ H Q I hw=>BoolOp_one (h pins s σ H Q I hw)
theorem xj (ha:PE X a ta)(hb:PE X (.BoolOp .And (b::rest) pos) tb):PE X (.BoolOp .And (a::b::rest) pos) (zk9 ta tb):=by
 intro pins s σ H Q I h
 refine BoolOp_and (thn (ha pins s σ H _ I h) fun v s1 ⟨x,H1,I1,r1,q1⟩=>?_)
 obtain⟨c,rfl,q1⟩:=q1
 cases r1
 refine zA5 ?_
 cases c with
 |true=>exact hb pins s1 σ H1 Q I1 q1
 |false=>exact⟨.bl false,H1,I1,rfl,q1⟩
theorem aX (ha:PE X a ta)(hb:PE X (.BoolOp .Or (b::rest) pos) tb):PE X (.BoolOp .Or (a::b::rest) pos) (zs3 ta tb):=by
 intro pins s σ H Q I h
 refine BoolOp_or (thn (ha pins s σ H _ I h) fun v s1 ⟨x,H1,I1,r1,q1⟩=>?_)
 obtain⟨c,rfl,q1⟩:=q1
 cases r1
 refine zA5 ?_
 cases c with
 |false=>exact hb pins s1 σ H1 Q I1 q1
 |true=>exact⟨.bl true,H1,I1,rfl,q1⟩
theorem zg9 (ha:PE X a ta):PE X (.UnaryOp .Not a pos) (zm9 ta):=by
 intro pins s σ H Q I h
 refine UnaryOp_ (thn (ha pins s σ H _ I h) fun v s1 ⟨x,H1,I1,r1,q1⟩=>?_)
 obtain⟨c,rfl,q1⟩:=q1
 cases r1
 exact not_of (zA5 ⟨.bl (!c),H1,I1,rfl,q1⟩)
def tIf (t:TT)(ta tb:TE):TE:=fun σ H Q=>t σ H fun c H1=>if c=true then ta σ H1 Q else tb σ H1 Q
theorem dF {c:Expr}(hc:PT X c tA)(ha:PE X a ta)(hb:PE X b tb):PE X (.IfExp c a b pos) (tIf tA ta tb):=by
 intro pins s σ H Q I h
 refine wpAny_IfExp (thn (hc pins s σ H _ I h) fun d s1 ⟨H1,I1,q1⟩=>?_)
 cases d with
 |true=>exact ha pins s1 σ H1 Q I1 q1
 |false=>exact hb pins s1 σ H1 Q I1 q1
end
def SqL (K:PySem.W.Frag)(H:Hp)(a:Addr)(xs:List V):Prop:=
 Rd H a (.lst xs)∨
  ∃(o:Obj) (its:Array Value) (n:Nat),K.lookup a=some o∧o.cls=.type "list"∧o.dict=none∧o.data=.seq its n∧its.size≤sizeLine∧Vals xs its.toList
def SqT (K:PySem.W.Frag)(H:Hp)(a:Addr)(xs:List V):Prop:=
 Rd H a (.tup xs)∨
  ∃(o:Obj) (its:Array Value) (n:Nat),K.lookup a=some o∧o.cls=.type "tuple"∧o.data=.seq its n∧its.size≤sizeLine∧Vals xs its.toList
def zs1 :Value→Option V
 |.none=>some .non
 |.bool b=>some (.bl b)
 |.int i _=>some (.int i)
 |.str x _=>some (.str x)
 |.bytes b _=>some (.byt b)
 |.float b _=>some (.flt b)
 |.ref a=>some (.ref a)
 |.type n=>some (.ty n)
 |_=>none
theorem RelV.abs {x:V}{u:Value}(r:RelV x u):zs1 u=some x:=by
 cases x with
 |non=>cases r;rfl
 |bl _=>cases r;rfl
 |int _=>obtain⟨t,rfl⟩:=r;rfl
 |str _=>obtain⟨t,rfl⟩:=r;rfl
 |byt _=>obtain⟨t,rfl⟩:=r;rfl
 |flt _=>obtain⟨t,rfl⟩:=r;rfl
 |ref _=>cases r;rfl
 |ty _=>cases r;rfl
theorem RelV.inj {x y:V}{u:Value}(r:RelV x u)(q:RelV y u):x=y:=zv8 (r.abs.symm.trans q.abs)
theorem Vals.inj :∀{xs ys:List V} {us:List Value},Vals xs us→Vals ys us→xs=ys
 |_,_,_,.nil,.nil=>rfl
 |_,_,_,.cons r t,.cons r' t'=>by rw[r.inj r',Vals.inj t t']
section
variable {X:Cx}{pins:List (Addr×Obj)}{σ:St}{H:Hp}{s:Shared}{a:Addr}{xs ys:List V}
theorem SqL.of {K:PySem.W.Frag}(h:H a=some (.lst xs)):SqL K H a xs:=.inl (.inl h)
theorem SqT.of {K:PySem.W.Frag}(h:H a=some (.tup xs)):SqT K H a xs:=.inl (.inl h)
theorem Inv.list (I:Inv X pins σ H s)(h:SqL X.K H a xs):∃its:List Value,Vals xs its∧PlainL s.heap a its.toArray∧xs.length≤sizeLine:=by
 rcases h with h|⟨o,its,n,hk,hc,hd,hs,hz,r⟩
 ·obtain⟨z,its,n,r,e⟩:=h.ok I.hok
  exact⟨its,r,⟨_,n,e,rfl,rfl,rfl⟩,z⟩
 ·refine⟨its.toList,r,⟨o,n,I.kIn a o hk,hc,hd,by simpa using hs⟩,?_⟩
  have e:=r.length
  simp only[Array.length_toList] at e
  omega
theorem Inv.tuple (I:Inv X pins σ H s)(h:SqT X.K H a xs):∃its:List Value,Vals xs its∧IsTup s.heap a its.toArray∧xs.length≤sizeLine:=by
 rcases h with h|⟨o,its,n,hk,hc,hs,hz,r⟩
 ·obtain⟨z,its,r,p⟩:=h.ok I.hok
  exact⟨its,r,p,z⟩
 ·refine⟨its.toList,r,⟨o,I.kIn a o hk,hc,n,by simpa using hs⟩,?_⟩
  have e:=r.length
  simp only[Array.length_toList] at e
  omega
theorem Inv.list_inj (I:Inv X pins σ H s)(h:SqL X.K H a xs)(h':SqL X.K H a ys):xs=ys:=by
 obtain⟨its,r,⟨o,n,e,_,_,d⟩,_⟩:=I.list h
 obtain⟨its',r',⟨o',n',e',_,_,d'⟩,_⟩:=I.list h'
 rw[e] at e';cases e'
 rw[d] at d'
 injection d' with d1 _
 have:its=its':=by simpa using congrArg Array.toList d1
 subst this
 exact r.inj r'
end
abbrev Cx.wish (X:Cx)(E:Value→Shared→Prop):Cx:={X with xe:=E}
abbrev Cx.nox (X:Cx):Cx:=X.wish fun _ _=>False
theorem Cx.Ok.wish {X:Cx}(ok:X.Ok)(E:Value→Shared→Prop):(X.wish E).Ok:=
 ⟨ok.mod,ok.kind,ok.glob,ok.blt,ok.above,ok.inj,ok.has,ok.cab,ok.hd,ok.frames,ok.stk,ok.exf,ok.bs,ok.bsz,ok.noex,ok.exfs,ok.funs,ok.frf⟩
theorem Cx.Ok.unwish {X:Cx}{E:Value→Shared→Prop}(ok:(X.wish E).Ok):X.Ok:=
 ⟨ok.mod,ok.kind,ok.glob,ok.blt,ok.above,ok.inj,ok.has,ok.cab,ok.hd,ok.frames,ok.stk,ok.exf,ok.bs,ok.bsz,ok.noex,ok.exfs,ok.funs,ok.frf⟩
section
variable {X:Cx}{pins:List (Addr×Obj)}{σ:St}{H:Hp}{s:Shared}{E:Value→Shared→Prop}
theorem Inv.wish (I:Inv X pins σ H s)(E:Value→Shared→Prop):Inv (X.wish E) pins σ H s:=⟨I.ok.wish E,I.os,I.bare,I.base,I.loc,I.cell,I.free,I.freeC,I.pin,I.hok,I.len⟩
theorem Inv.unwish (I:Inv (X.wish E) pins σ H s):Inv X pins σ H s:=⟨I.ok.unwish,I.os,I.bare,I.base,I.loc,I.cell,I.free,I.freeC,I.pin,I.hok,I.len⟩
theorem SP.unwish {D:Ends}{f:Flow}{s':Shared}(h:SP (X.wish E) pins D f s'):SP X pins D f s':=by
 cases f with
 |next=>obtain⟨σ',H',I,q⟩:=h;exact⟨σ',H',I.unwish,q⟩
 |brk=>obtain⟨σ',H',I,q⟩:=h;exact⟨σ',H',I.unwish,q⟩
 |cont=>obtain⟨σ',H',I,q⟩:=h;exact⟨σ',H',I.unwish,q⟩
 |ret u=>obtain⟨v,σ',H',I,r,q⟩:=h;exact⟨v,σ',H',I.unwish,r,q⟩
theorem PSs.nox {st:List Stmt}{t:TS}(h:PSs X.nox st t):PSs X st t:=fun pins s σ H D I hw=>
 zw2 (h pins s σ H D (I.wish _) hw) (fun _ _ q=>q.unwish) fun _ _ z=>False.elim z
end
section
variable {X:Cx}{st:Stmt}{rest:List Stmt}{t u:TS}{e:Expr}{te:TE}{pos:Pos}
def zl9 :TS:=fun D σ H=>D.nx σ H
def zm1 (t u:TS):TS:=fun D σ H=>t {D with nx:=u D} σ H
theorem yA :PSs X [] zl9:=fun _ _ σ H _ I h=>zF6 ⟨σ,H,I,h⟩
theorem zH (h1:PS X st t)(h2:PSs X rest u):PSs X (st::rest) (zm1 t u):=by
 intro pins s σ H D I h
 refine wpAny_execs_cons (thn (h1 pins s σ H {D with nx:=u D} I h) fun f s1 q=>?_)
 cases f with
 |next=>
  obtain⟨σ',H',I',q⟩:=q
  exact h2 pins s1 σ' H' D I' q
 |ret v=>exact q
 |brk=>exact q
 |cont=>exact q
theorem zA (h1:PS X st t):PSs X [st] t:=by
 intro pins s σ H D I h
 refine wpAny_execs_cons (thn (h1 pins s σ H D I h) fun f s1 q=>?_)
 cases f with
 |next=>exact zF6 q
 |ret v=>exact q
 |brk=>exact q
 |cont=>exact q
theorem Inv.quiet {pins:List (Addr×Obj)}{σ:St}{H:Hp}{s:Shared}(I:Inv X pins σ H s):interactive X.env=false:=by simp[interactive,I.ok.kind]
def zp2 (te:TE):TS:=fun D σ H=>te σ H fun _ H1=>D.nx σ H1
theorem tH (he:PE X e te)(hs:swapsWith e none pos.line X.env=pure false:=by rfl):PS X (.Expr e pos) (zp2 te):=by
 intro pins s σ H D I h
 exact wpAny_Expr_any (thn (he pins s σ H _ I h) fun v s1 ⟨x,H1,I1,r1,q1⟩=>⟨σ,H1,I1,q1⟩) I.quiet hs
def zr3 (te:TE):TS:=fun D σ H=>te σ H D.rt
theorem zE (he:PE X e te):PS X (.Return (some e) pos) (zr3 te):=by
 intro pins s σ H D I h
 exact wpAny_Return_some (thn (he pins s σ H _ I h) fun v s1 ⟨x,H1,I1,r1,q1⟩=>⟨x,σ,H1,I1,r1,q1⟩)
def zs0 (c:TT)(t u:TS):TS:=fun D σ H=>c σ H fun b H1=>if b=true then t D σ H1 else u D σ H1
theorem xR {c:Expr}{a b:List Stmt}{tc:TT}(hc:PT X c tc)(ha:PSs X a t)(hb:PSs X b u):PS X (.If c a b pos) (zs0 tc t u):=by
 intro pins s σ H D I h
 refine wpAny_If (thn (hc pins s σ H _ I h) fun d s1 ⟨H1,I1,q1⟩=>?_)
 cases d with
 |true=>exact ha pins s1 σ H1 D I1 q1
 |false=>exact hb pins s1 σ H1 D I1 q1
end
abbrev TG :=V→St→Hp→(St→Hp→Prop)→Prop
abbrev TGs :=List V→St→Hp→(St→Hp→Prop)→Prop
def PG (X:Cx)(target:Expr)(t:TG):Prop:=
 ∀(pins:List (Addr×Obj)) (s:Shared) (σ:St) (H:Hp) (v:V) (u:Value) (Q:St→Hp→Prop),Inv X pins σ H s→RelV v u→t v σ H Q→
  wpAny (model X.prog X.w) X.A (assign target X.env u) (fun _ s'=>∃σ' H',Inv X pins σ' H' s'∧Q σ' H') X.xe s
def PGs (X:Cx)(ts:List Expr)(t:TGs):Prop:=
 ∀(pins:List (Addr×Obj)) (s:Shared) (σ:St) (H:Hp) (vs:List V) (us:List Value) (Q:St→Hp→Prop),Inv X pins σ H s→Vals vs us→t vs σ H Q→
  wpAny (model X.prog X.w) X.A (assignInOrder ((assignEach ts X.env).map (·.2)) us) (fun _ s'=>∃σ' H',Inv X pins σ' H' s'∧Q σ' H') X.xe s
abbrev ze2 :=V→V→V→Hp→(Hp→Prop)→Prop
def zp1 (X:Cx)(t:ze2):Prop:=
 ∀(pins:List (Addr×Obj)) (s:Shared) (σ:St) (H:Hp) (o i v:V) (ov iv u:Value) (Q:Hp→Prop),Inv X pins σ H s→RelV o ov→RelV i iv→RelV v u→t o i v H Q→
  wpAny (model X.prog X.w) X.A (setItem ov iv u) (fun _ s'=>∃H',Inv X pins σ H' s'∧Q H') X.xe s
section
variable {X:Cx}{pos:Pos}
def sN (i:Nat):TG:=fun v σ H Q=>Q (σ.set i (some v)) H
theorem zI {i:Nat}{x:Str}(hN:X.N.Nodup)(hi:X.N[i]?=some x)(hx:Loc X.env.scope x)(hf:X.fn x=true∨X.env.scope.names.lookup x=some .local:=by first|exact .inl rfl|exact .inr rfl|assumption):PG X (.Name x pos) (sN i):=by
 intro pins s σ H v u Q I r h
 exact wpAny_assign_Name (oh I hN hi hx r (fun s' I'=>⟨_,H,I',h⟩) hf)
def zi7 :TGs:=fun vs σ H Q=>vs=[]∧Q σ H
def lO (t:TG)(u:TGs):TGs:=fun vs σ H Q=>∃v r,vs=v::r∧t v σ H fun σ' H'=>u r σ' H' Q
theorem wI :PGs X [] zi7:=by
 intro pins s σ H vs us Q I r h
 obtain⟨e,h⟩:=h
 subst e
 cases r
 exact assignInOrder_nil ⟨σ,H,I,h⟩
theorem yC {e:Expr}{es:List Expr}{t:TG}{u:TGs}(h1:PG X e t)(h2:PGs X es u)
  (hs:(assignEach (e::es) X.env).map (·.2)=assign e X.env::(assignEach es X.env).map (·.2):=by rfl):PGs X (e::es) (lO t u):=by
 intro pins s σ H vs us Q I r h
 obtain⟨v,vr,e1,h⟩:=h
 subst e1
 cases r with
 |cons r rr=>
  rw[hs]
  refine assignInOrder_cons (thn (h1 pins s σ H _ _ _ I r h) fun _ s1 ⟨σ1,H1,I1,q1⟩=>?_)
  exact h2 pins s1 σ1 H1 _ _ Q I1 rr q1
def fZ (K:PySem.W.Frag)(n:Nat)(t:TGs):TG:=fun v σ H Q=>∃a xs,v=.ref a∧SqT K H a xs∧xs.length=n∧t xs σ H Q
theorem zg4 {es:List Expr}{k:Nat}{t:TGs}{n:Nat}(hc:X.calm=true)(h:PGs X es t)
  (hn:(assignEach es X.env).length=n:=by rfl) (hst:(assignEach es X.env).findIdx? (·.1)=none:=by rfl):PG X (.Tuple es k pos) (fZ X.K n t):=by
 intro pins s σ H v u Q I r hw
 obtain⟨a,xs,e1,hq,hl,hw⟩:=hw
 subst e1
 cases r
 obtain⟨its,rv,ht,hz⟩:=I.tuple hq
 refine assign_Tuple_tuple (I.ok.hd hc) ht (by simp[hn,←hl,rv.length]) hst fun h' hx=>?_
 have I1:Inv X pins σ H {s with heap:=h'}:=I.kept (t':=s.toks) fun b o e=>hx b o (zv0 (zt6 e)) e
 exact h pins _ σ H xs _ Q I1 (by simpa using rv) hw
def zj8 (to ti:TE)(t:ze2):TG:=fun v σ H Q=>to σ H fun o H1=>ti σ H1 fun i H2=>t o i v H2 fun H3=>Q σ H3
theorem lH {o i:Expr}{to ti:TE}{t:ze2}(ho:PE X o to)(hi:PE X i ti)(hs:zp1 X t)
  (ha:∀v,assign (.Subscript o i pos) X.env v=(do
   let ov ←holding [v] (eval o X.env)
   let iv ←holding [v,ov] (eval i X.env)
   standAt pos
   holding [v,ov,iv] (setItem ov iv v)
   release [v,ov,iv] []):=by intro _;rfl):PG X (.Subscript o i pos) (zj8 to ti t):=by
 intro pins s σ H v u Q I r h
 rw[ha]
 refine zs9 (zy1 (thn (ho pins s σ H _ I h) fun ov s1 ⟨x,H1,I1,r1,q1⟩=>?_))
 refine zs9 (zy1 (thn (hi pins s1 σ H1 _ I1 q1) fun iv s2 ⟨y,H2,I2,r2,q2⟩=>?_))
 refine zs9 (zF0 (zs9 (zy1 (thn (hs pins s2 σ H2 x y v ov iv u _ I2 r1 r2 r q2) fun _ s3 ⟨H3,I3,q3⟩=>?_))))
 exact wpAny_release ⟨σ,H3,I3,q3⟩
def zb7 (te:TE)(g:TG):TS:=fun D σ H=>te σ H fun x H1=>g x σ H1 D.nx
theorem mq {tg e:Expr}{te:TE}{g:TG}(he:PE X e te)(hg:PG X tg g)(hs:swapsWithSole [tg] e pos.line X.env=pure false:=by rfl)(hw:swappedStores [tg] e X.env=pure none:=by rfl)
  (h1:(assignEach [tg] X.env).map (·.2)=[assign tg X.env]:=by rfl):PS X (.Assign [tg] e pos) (zb7 te g):=by
 intro pins s σ H D I h
 refine wpAny_Assign_stores (thn (he pins s σ H _ I h) fun v s1 ⟨x,H1,I1,r1,q1⟩=>?_) hs hw
 rw[h1]
 exact thn (hg pins s1 σ H1 x v _ I1 r1 q1) fun _ s2 q=>q
theorem wC {i:Nat}{x:Str}{e:Expr}{te:TE}{pos':Pos}(hN:X.N.Nodup)(hi:X.N[i]?=some x)(hx:Loc X.env.scope x)(he:PE X e te)(hs:swapsWith e (some (.Name x pos')) pos.line X.env=pure false:=by rfl)(hf:X.fn x=true∨X.env.scope.names.lookup x=some .local:=by first|exact .inl rfl|exact .inr rfl|assumption):
  PS X (.Assign [.Name x pos'] e pos) (zb7 te (sN i)):=by
 intro pins s σ H D I h
 refine wpAny_Assign_Name (thn (he pins s σ H _ I h) fun v s1 ⟨y,H1,I1,r1,q1⟩=>?_) hs
 exact oh I1 hN hi hx r1 (fun s2 I2=>⟨_,H1,I2,q1⟩) hf
end
section
variable {X:Cx}{pos:Pos}
def zd7 (c:TT)(tb:TS):TS:=fun D σ H=>∃W:Nat→St→Hp→Prop,(∃m,W m σ H)∧∀m σ H,W m σ H→
 c σ H fun b H1=>if b=true then ∃N:St→Hp→Prop,(∀σ' H',N σ' H'→∃m',m'<m∧W m' σ' H')∧tb {D with nx:=N,ct:=N,bk:=D.nx} σ H1 else D.nx σ H1
theorem fN {c:Expr}{body:List Stmt}{tc:TT}{tb:TS}(hp:PassesOwn (model X.prog X.w) X.A X.env X.xe)(hc:PT X c tc)(hb:PSs X body tb):PS X (.While c body [] pos) (zd7 tc tb):=by
 intro pins s σ H D I h
 obtain⟨W,⟨m0,w0⟩,turn⟩:=h
 refine wpAny_While (codeAny_whileLoop (fun n s'=>∃σ' H',Inv X pins σ' H' s'∧W n σ' H') ?_ m0 ⟨σ,H,I,w0⟩)
 rintro n s1 ⟨σ1,H1,I1,w1⟩
 refine zB1 hp (thn (hc pins s1 σ1 H1 _ I1 (turn n σ1 H1 w1)) fun b s2 ⟨H2,I2,q2⟩=>?_)
 cases b with
 |true=>
  obtain⟨N,hN,q2⟩:=q2
  rw[if_pos rfl]
  refine zB1 hp (thn (hb pins s2 σ1 H2 _ I2 q2) fun f s3 q3=>?_)
  cases f with
  |next=>
   obtain⟨σ3,H3,I3,n3⟩:=q3
   obtain⟨m',hm,w3⟩:=hN σ3 H3 n3
   exact⟨m',hm,σ3,H3,I3,w3⟩
  |cont=>
   obtain⟨σ3,H3,I3,n3⟩:=q3
   obtain⟨m',hm,w3⟩:=hN σ3 H3 n3
   exact⟨m',hm,σ3,H3,I3,w3⟩
  |brk=>exact q3
  |ret v=>exact q3
 |false=>
  rw[if_neg zu3]
  exact zF6 ⟨σ1,H2,I2,q2⟩
end
structure It where
 go:Nat→Hp→Prop
 yld:Nat→Hp→V→Hp→Prop
 stop:Nat→Hp→Prop
def yZ (X:Cx)(pins:List (Addr×Obj))(H:Hp)(b:Addr):Prop:=
 H b=none∧b≠X.env.locals∧b∉X.fs∧(b∈X.ex∨X.s₀.heap.objs.size≤b)∧(∀x c,X.env.cells.lookup x=some c→c≠b)∧∀p∈X.pn++pins,p.1≠b
theorem Inv.fpOk {X:Cx}{pins:List (Addr×Obj)}{σ:St}{H H':Hp}{s:Shared}{b:Addr}(I:Inv X pins σ H s)(hb:s.heap.objs.size≤b)(hn:H' b=none):yZ X pins H' b:=by
 refine⟨hn,zz4 (zu9 I.lt hb),I.nofs hb,.inr (zx9 I.sz hb),fun x c e z=>?_,fun p hp z=>?_⟩
 ·obtain⟨v,q⟩:=I.cell x c e
  exact absurd (zu9 q.lt (by rw[z];exact hb)) (zz5 _)
 ·exact absurd (zu9 (zt6 (I.pin p hp).1) (by rw[z];exact hb)) (zz5 _)
structure Turn (P:Program)(w:World)(K:PySem.W.Frag)(tg:Expr)(J:It)(fp:List Addr)(it:Addr)(tn:Nat→Heap→Prop):Prop where
 mem:it∈fp
 obj:∀i h,tn i h→∀b∈fp,∃o,h.get? b=some o∧∀v,o.data≠.cell v
 keep:∀i h h',tn i h→(∀b∈fp,∀o,h.get? b=some o→h'.get? b=some o)→tn i h'
 item:∀(X:Cx),X.prog=P→X.w=w→X.K=K→X.calm=true→∀(i:Nat) (pins:List (Addr×Obj)) (s:Shared) (σ:St) (H:Hp) (E:Value→Shared→Prop),Inv X pins σ H s→(∀b∈fp,yZ X pins H b)→tn i s.heap→J.go i H→
  wpAny (model P w) X.A (pyNext (.ref it)) (fun r s1=>∃u,r=some u∧
   wpAny (model P w) X.A (letOwnedTupleGo tg (.ref it) u) (fun _ s2=>∃x H',Inv X pins σ H' s2∧RelV x u∧J.yld i H x H'∧tn (i+1) s2.heap∧∀b∈fp,H' b=none) E s1) E s
 done:∀(X:Cx),X.prog=P→X.w=w→X.K=K→X.calm=true→∀(i:Nat) (pins:List (Addr×Obj)) (s:Shared) (σ:St) (H:Hp) (E:Value→Shared→Prop),Inv X pins σ H s→(∀b∈fp,yZ X pins H b)→tn i s.heap→J.stop i H→
  wpAny (model P w) X.A (pyNext (.ref it)) (fun r s1=>r=none∧Inv X pins σ H s1) E s
 self:∀(A:Around) (i:Nat) (s:Shared) (Q:Value→Shared→Prop) (E:Value→Shared→Prop),tn i s.heap→Q (.ref it) s→wpAny (model P w) A (pyIter (.ref it)) Q E s
abbrev TI :=St→Hp→(It→Hp→Prop)→Prop
def PIE (X:Cx)(pins:List (Addr×Obj))(σ:St)(tg:Expr)(R:It→Hp→Prop)(itv:Value)(s2:Shared):Prop:=
 ∃(it:Addr) (fp:List Addr) (tn:Nat→Heap→Prop) (J:It) (H':Hp),itv=.ref it∧Inv X pins σ H' s2∧Turn X.prog X.w X.K tg J fp it tn∧tn 0 s2.heap∧(∀b∈fp,yZ X pins H' b)∧R J H'
def PI (X:Cx)(tg iter:Expr)(wi:TI):Prop:=
 ∀(pins:List (Addr×Obj)) (s:Shared) (σ:St) (H:Hp) (R:It→Hp→Prop),Inv X pins σ H s→wi σ H R→
  wpAny (model X.prog X.w) X.A (eval iter X.env) (fun v s1=>wpAny (model X.prog X.w) X.A (pyIter v) (PIE X pins σ tg R) X.xe s1) X.xe s
theorem du {M:Model}{A:Around}{E:Value→Shared→Prop}{s:Shared}{tg:Expr}{it:Addr}{u:Value}{o:Obj}{n:String}{vs:Array Value}{Q:Unit→Shared→Prop}(ho:s.heap.get? it=some o)(hc:o.cls=.type n)(hd:o.data=.fields vs)
  (hn:["enumerate","zip","dict_itemiterator","dict_reverseitemiterator","odict_iterator","itertools.zip_longest","itertools.pairwise"].contains n=false) (hQ:Q () s):wpAny M A (letOwnedTupleGo tg (.ref it) u) Q E s:=by
 unfold letOwnedTupleGo
 cases tg<;>first
  |exact zt2 hQ
  |(cases u<;>first
    |exact zt2 hQ
    |(refine zs9 (wpAny_load ho ?_)
      rw[hc,hd]
      show wpAny M A (if (["enumerate","zip","dict_itemiterator","dict_reverseitemiterator","odict_iterator","itertools.zip_longest","itertools.pairwise"].contains n&&vs[0]? == some (rawInt _))=true then _ else _) Q E s
      rw[if_neg (by intro h;rw[hn,zz8] at h;cases h)]
      exact zt2 hQ))
def Itl (K:PySem.W.Frag)(a:Addr):It:=
 ⟨fun i H=>∃xs x,SqL K H a xs∧xs[i]?=some x,fun i H x H'=>H'=H∧∀xs,SqL K H a xs→xs[i]?=some x,fun i H=>∃xs,SqL K H a xs∧xs.length≤i⟩
def Itr (lo:Int)(n:Nat):It:=⟨fun i _=>i<n,fun i H x H'=>H'=H∧x=.int (lo+i),fun i _=>n≤i⟩
theorem ja {P:Program}{w:World}{K:PySem.W.Frag}{tg:Expr}(a it:Addr):Turn P w K tg (Itl K a) [it] it (fun i h=>h.IsListIter it a i) where
 mem:=by simp
 obj:=fun i h st b hb=>by
  have e:b=it:=by simpa using hb
  subst e
  obtain⟨o,e,c,d⟩:=st
  exact⟨o,e,fun v z=>by rw[d] at z;cases z⟩
 keep:=fun i h h' st k=>st.at fun o e=>k it (by simp) o e
 item:=by
  intro X hP hw hK hc i pins s σ H E I hf st hg
  subst hP hw hK
  obtain⟨xs,x,hq,hx⟩:=hg
  obtain⟨its,rv,p,hz⟩:=I.list hq
  obtain⟨u,hu,ru⟩:=rv.get hx
  obtain⟨f0,f1,f2,f3,f4,f5⟩:=hf it (by simp)
  refine wpAny_pyNext_list_item st p.isList (x:=u) (by simpa using hu) fun h' st' sb=>?_
  have I1:Inv X pins σ H {s with heap:=h'}:=I.turned (t':=s.toks) (fun b o hb e=>(sb.2 b hb).trans e) f0 f1 f3 f4 f5
  obtain⟨o,e,c,d⟩:=id st'
  exact⟨u,rfl,du (s:={s with heap:=h'}) e c d (by decide) ⟨x,H,I1,ru,⟨rfl,fun ys hy=>by rw[I.list_inj hy hq];exact hx⟩,st',fun b hb=>(hf b hb).1⟩⟩
 done:=by
  intro X hP hw hK hc i pins s σ H E I hf st hg
  subst hP hw hK
  obtain⟨xs,hq,hx⟩:=hg
  obtain⟨its,rv,p,hz⟩:=I.list hq
  obtain⟨f0,f1,f2,f3,f4,f5⟩:=hf it (by simp)
  have hl:=rv.length
  exact wpAny_pyNext_list_end (I.ok.hd hc) st p.isList (by simp;omega) fun h' eb=>⟨rfl,I.turned (t':=s.toks) (fun b o hb e=>eb b o hb e) f0 f1 f3 f4 f5⟩
 self:=fun _ _ _ _ _ st h=>wpAny_pyIter_listiter st h
theorem mR {P:Program}{w:World}{K:PySem.W.Frag}{tg:Expr}(it:Addr)(lo:Int)(n:Nat):Turn P w K tg (Itr lo n) [it] it (fun i h=>IsRangeIter h it (lo+(i:Nat)*1) ((n:Int)-(i:Nat)) 1) where
 mem:=by simp
 obj:=fun i h st b hb=>by
  have e:b=it:=by simpa using hb
  subst e
  exact⟨_,st,fun v z=>by
   have z':Data.fields _=Data.cell v:=z
   cases z'⟩
 keep:=fun i h h' st k=>k it (by simp) _ st
 item:=by
  intro X hP hw hK hc i pins s σ H E I hf st hg
  subst hP hw hK
  obtain⟨f0,f1,f2,f3,f4,f5⟩:=hf it (by simp)
  have W:=Walks.range (prog:=X.prog) (w:=X.w) (I.ok.hd hc) it lo 1 n
  refine W.item i s _ _ hg st fun v h' tk hv st' kk=>?_
  obtain⟨t,rfl⟩:=hv
  have I1:Inv X pins σ H {s with heap:=h',toks:=tk}:=I.turned (fun b o hb e=>kk b o (by simpa using hb) e) f0 f1 f3 f4 f5
  refine⟨_,rfl,du (s:={s with heap:=h',toks:=tk}) (n:="range_iterator") st' rfl rfl (by decide) ⟨.int (lo+i),H,I1,⟨t,?_⟩,⟨rfl,rfl⟩,st',fun b hb=>(hf b hb).1⟩⟩
  rw[Int.mul_one]
 done:=by
  intro X hP hw hK hc i pins s σ H E I hf st hg
  subst hP hw hK
  obtain⟨f0,f1,f2,f3,f4,f5⟩:=hf it (by simp)
  exact wpAny_pyNext_range_end (I.ok.hd hc) st (by have:n≤i:=hg;omega) fun h' eb=>⟨rfl,I.turned (t':=s.toks) (fun b o hb e=>eb b o hb e) f0 f1 f3 f4 f5⟩
 self:=fun _ _ _ _ _ st h=>wpAny_pyIter_rangeiter st h
section
variable {X:Cx}{tg:Expr}
def zm4 (K:PySem.W.Frag)(tl:TE):TI:=fun σ H R=>tl σ H fun x H1=>∃a,x=.ref a∧(∃xs,SqL K H1 a xs)∧R (Itl K a) H1
theorem lP {l:Expr}{tl:TE}(hl:PE X l tl):PI X tg l (zm4 X.K tl):=by
 intro pins s σ H R I h
 refine thn (hl pins s σ H _ I h) fun v s1 ⟨x,H1,I1,r1,q1⟩=>?_
 obtain⟨a,e,⟨xs,hq⟩,q⟩:=q1
 subst e
 cases r1
 obtain⟨its,rv,p,hz⟩:=I1.list hq
 refine zD8 p.isList ?_
 refine⟨s1.heap.objs.size,[s1.heap.objs.size],_,_,H1,rfl,I1.kept (t':=s1.toks) fun b o e=>zt0 _ e,ja a _,⟨_,zu0 _ rfl,rfl,rfl⟩,fun b hb=>?_,q⟩
 have e:b=s1.heap.objs.size:=by simpa using hb
 subst e
 exact I1.fpOk (zt8 _) (I1.hok.fresh (zt8 _))
theorem iR {pins:List (Addr×Obj)}{σ:St}{H:Hp}{s:Shared}{R:It→Hp→Prop}{E:Value→Shared→Prop}{lo hi:Int}{t u v:Tok}{tk:Nat}(I:Inv X pins σ H s)(h1:-(2 ^ 62)≤lo)(h2:lo<2 ^ 62)(h3:-(2 ^ 62)≤hi)(h4:hi<2 ^ 62)
  (q:R (Itr lo (hi-lo).toNat) H):wpAny (model X.prog X.w) X.A (pyIter (.ref s.heap.objs.size)) (PIE X pins σ tg R) E {s with heap:=s.heap.push {cls:=.type "range",data:=.fields #[.int lo t,.int hi u,.int 1 v]},toks:=tk}:=by
 refine wpAny_pyIter_range (IsRange.new ..) (small_one h1 h2 h3 h4) ?_
 have I1:Inv X pins σ H {s with heap:=s.heap.push {cls:=.type "range",data:=.fields #[.int lo t,.int hi u,.int 1 v]},toks:=tk}:=I.kept fun b o e=>zt0 _ e
 refine⟨(s.heap.push {cls:=.type "range",data:=.fields #[.int lo t,.int hi u,.int 1 v]}).objs.size,[(s.heap.push {cls:=.type "range",data:=.fields #[.int lo t,.int hi u,.int 1 v]}).objs.size],_,_,H,rfl,
  I1.kept (t':=tk) fun b o e=>zt0 _ e,mR _ lo (hi-lo).toNat,?_,fun b hb=>?_,q⟩
 ·have e1:lo+((0:Nat):Int)*1=lo:=by simp
  have e2:(((hi-lo).toNat:Nat):Int)-((0:Nat):Int)=Builtin.Range.rangeSize lo hi 1:=by rw[rangeSize_one];split<;>omega
  show IsRangeIter _ _ (lo+((0:Nat):Int)*1) ((((hi-lo).toNat:Nat):Int)-((0:Nat):Int)) 1
  rw[e1,e2]
  exact zu0 _ rfl
 ·have e:b=(s.heap.push {cls:=.type "range",data:=.fields #[.int lo t,.int hi u,.int 1 v]}).objs.size:=by simpa using hb
  subst e
  exact I1.fpOk (zt8 _) (I1.hok.fresh (zt8 _))
def zo9 (ta:TA):TI:=fun σ H R=>ta σ H fun vs H1=>∃j:Int,vs=[.int j]∧-(2 ^ 62)≤j∧j<2 ^ 62∧R (Itr 0 j.toNat) H1
theorem jO {a:Expr}{ta:TA}{p pos:Pos}(hg:Gl X "range")(hm:X.mg "range"=none)(ha:PA X [a] ta)(hs:starEach [a] X.env=[(false,eval a X.env)]:=by rfl):PI X tg (.Call (.Name "range" p) [a] [] pos) (zo9 ta):=by
 intro pins s σ H R I h
 refine Call_ (xx I hg hm boot_range (zx3 (thn (ha pos pins s σ H _ I h) fun us s1 ⟨vs,H1,I1,r1,q1⟩=>?_) hs rfl))
 obtain⟨j,e,q1,q2,q⟩:=q1
 subst e
 cases r1 with
 |cons r rr=>
  cases rr
  obtain⟨t,rfl⟩:=r
  exact call_range_1 (iR I1 (by omega) (by omega) q1 q2 (by simpa using q))
def zp9 (wi:TI)(g:TG)(tb:TS):TS:=fun D σ H=>wi σ H fun J H1=>∃W:Nat→Nat→St→Hp→Prop,(∃m,W 0 m σ H1)∧∀i m σ H,W i m σ H→
 (J.stop i H∧D.nx σ H)∨(J.go i H∧∃N:St→Hp→Prop,(∀σ' H',N σ' H'→∃m',m'<m∧W (i+1) m' σ' H')∧∀x H',J.yld i H x H'→g x σ H' fun σ2 H2=>tb {D with nx:=N,ct:=N,bk:=D.nx} σ2 H2)
def tL (fp:List Addr)(h:Heap):List (Addr×Obj):=fp.filterMap fun b=>(h.get? b).map fun o=>(b,o)
theorem wH {fp:List Addr}{h:Heap}{b:Addr}{o:Obj}(hb:b∈fp)(e:h.get? b=some o):(b,o)∈tL fp h:=List.mem_filterMap.mpr ⟨b,hb,by rw[e];rfl⟩
theorem jQ {fp:List Addr}{h:Heap}{p:Addr×Obj}(hp:p∈tL fp h):p.1∈fp∧h.get? p.1=some p.2:=by
 obtain⟨b,hb,e⟩:=List.mem_filterMap.mp hp
 cases q:h.get? b with
 |none=>rw[q] at e;cases e
 |some o=>
  rw[q] at e
  have e':(b,o)=p:=zv8 e
  subst e'
  exact⟨hb,q⟩
theorem Inv.pinned {pins:List (Addr×Obj)}{σ:St}{H:Hp}{s:Shared}{fp:List Addr}(I:Inv X pins σ H s)(hf:∀b∈fp,yZ X pins H b)(ho:∀b∈fp,∃o,s.heap.get? b=some o∧∀v,o.data≠.cell v):Inv X (pins++tL fp s.heap) σ H s:=
 I.pins_of fun p hp=>(zD2.mp hp).elim (fun z=>I.pin p (zx4 _ z)) fun z=>by
  obtain⟨hb,e⟩:=jQ z
  obtain⟨f0,f1,f2,_⟩:=hf p.1 hb
  obtain⟨o,e',d⟩:=ho p.1 hb
  rw[e] at e';cases e'
  exact⟨e,f0,f1,f2,d⟩
theorem Inv.unpinned {pins pl:List (Addr×Obj)}{σ:St}{H:Hp}{s:Shared}(I:Inv X (pins++pl) σ H s):Inv X pins σ H s:=I.pins_of fun p hp=>I.pin p (zx4 _ (zH6 _ hp))
theorem zf3 {iter:Expr}{body:List Stmt}{wi:TI}{g:TG}{tb:TS}{pos:Pos}(hp:PassesOwn (model X.prog X.w) X.A X.env X.xe)(hc:X.calm=true)(hi:PI X tg iter wi)(hg:PG X tg g)(hb:PSs X body tb)
  (hs:∀x,foldedSetIterable iter X.env x=pure x:=by intro _;rfl):PS X (.For tg iter body [] pos) (zp9 wi g tb):=by
 intro pins s σ H D I h
 refine wpAny_For (thn (hi pins s σ H _ I h) fun v s1 h1=>thn h1 fun itv s2 h2=>?_) hs
 obtain⟨it,fp,tn,J,H2,e,I2,T,st2,f2,W,⟨m0,w0⟩,turn⟩:=h2
 subst e
 -- what stays true of the iterator's objects through the loop
 have stat:∀{H':Hp},(∀b∈fp,H' b=none)→∀b∈fp,yZ X pins H' b:=fun hn b hb=>⟨hn b hb,(f2 b hb).2⟩
 refine codeAny_forLoop_any (fun n s'=>∃i σ' H',Inv X pins σ' H' s'∧tn i s'.heap∧(∀b∈fp,H' b=none)∧W i n σ' H') ?_ m0 ⟨0,σ,H2,I2,st2,fun b hb=>(f2 b hb).1,w0⟩
 rintro n s3 ⟨i,σ3,H3,I3,st3,fr3,w3⟩
 rcases turn i n σ3 H3 w3 with ⟨stop,qn⟩|⟨go,N,hN,step⟩
 ·refine zB1 hp (thn (T.done X rfl rfl rfl hc i pins s3 σ3 H3 X.xe I3 (stat fr3) st3 stop) fun r s4 ⟨hr,I4⟩=>?_)
  subst hr
  exact zF6 ⟨σ3,H3,I4,qn⟩
 ·refine zB1 hp (thn (T.item X rfl rfl rfl hc i pins s3 σ3 H3 X.xe I3 (stat fr3) st3 go) fun r s4 ⟨u,hr,h4⟩=>?_)
  subst hr
  refine zB1 hp (thn h4 fun _ s5 ⟨x,H5,I5,r5,y5,st5,fr5⟩=>?_)
  have I5':=I5.pinned (stat fr5) (T.obj _ _ st5)
  refine zB1 hp (thn (hg _ s5 σ3 H5 x u _ I5' r5 (step x H5 y5)) fun _ s6 ⟨σ6,H6,I6,q6⟩=>?_)
  refine zB1 hp (thn (hb _ s6 σ6 H6 _ I6 q6) fun f s7 q7=>?_)
  have again:∀{σ7:St} {H7:Hp},Inv X (pins++tL fp s5.heap) σ7 H7 s7→N σ7 H7→∃m,m<n∧∃i σ' H',Inv X pins σ' H' s7∧tn i s7.heap∧(∀b∈fp,H' b=none)∧W i m σ' H':=fun {σ7 H7} I7 n7=>by
   obtain⟨m',hm,w7⟩:=hN σ7 H7 n7
   refine⟨m',hm,i+1,σ7,H7,I7.unpinned,T.keep _ _ _ st5 fun b hb o e=>(I7.pin (b,o) (zx4 _ (zx4 _ (wH hb e)))).1,fun b hb=>?_,w7⟩
   obtain⟨o,e,d⟩:=T.obj _ _ st5 b hb
   exact (I7.pin (b,o) (zx4 _ (zx4 _ (wH hb e)))).2.1
  cases f with
  |next=>obtain⟨σ7,H7,I7,n7⟩:=q7;exact again I7 n7
  |cont=>obtain⟨σ7,H7,I7,n7⟩:=q7;exact again I7 n7
  |brk=>obtain⟨σ7,H7,I7,q7⟩:=q7;exact⟨σ7,H7,I7.unpinned,q7⟩
  |ret v=>obtain⟨x7,σ7,H7,I7,r7,q7⟩:=q7;exact⟨x7,σ7,H7,I7.unpinned,r7,q7⟩
end
abbrev R2 :=V→V→Hp→VK→Prop
def OpR (X:Cx)(f:Value→Value→Sem Value)(r:R2):Prop:=
 ∀(pins:List (Addr×Obj)) (s:Shared) (σ:St) (H:Hp) (x y:V) (v u:Value) (Q:VK),Inv X pins σ H s→RelV x v→RelV y u→r x y H Q→
  wpAny (model X.prog X.w) X.A (f v u) (EP X pins σ Q) X.xe s
def UnR (X:Cx)(f:Value→Sem Value)(r:V→Hp→VK→Prop):Prop:=
 ∀(pins:List (Addr×Obj)) (s:Shared) (σ:St) (H:Hp) (x:V) (v:Value) (Q:VK),Inv X pins σ H s→RelV x v→r x H Q→
  wpAny (model X.prog X.w) X.A (f v) (EP X pins σ Q) X.xe s
def wL (X:Cx)(f:Value)(r:List V→Hp→VK→Prop):Prop:=
 ∀(pins:List (Addr×Obj)) (s:Shared) (σ:St) (H:Hp) (xs:List V) (us:List Value) (Q:VK),Inv X pins σ H s→Vals xs us→r xs H Q→
  wpAny (model X.prog X.w) X.A (call f us) (EP X pins σ Q) X.xe s
def tOp (r:R2)(ta tb:TE):TE:=fun σ H Q=>ta σ H fun x H1=>tb σ H1 fun y H2=>r x y H2 Q
def tUn (r:V→Hp→VK→Prop)(ta:TE):TE:=fun σ H Q=>ta σ H fun x H1=>r x H1 Q
def rI (C:Int→Int→Prop)(g:Int→Int→V):R2:=fun x y H Q=>∃i j,x=.int i∧y=.int j∧C i j∧Q (g i j) H
def rI0 (g:Int→Int→V):R2:=fun x y H Q=>∃i j,x=.int i∧y=.int j∧Q (g i j) H
def rU (g:Int→V):V→Hp→VK→Prop:=fun x H Q=>∃i,x=.int i∧Q (g i) H
section
variable {X:Cx}{a b c:Expr}{ta tb tc:TE}{pos:Pos}
theorem zf6 (ha:PE X a ta)(hb:PE X b tb){pins:List (Addr×Obj)}{s:Shared}{σ:St}{H:Hp}{R:V→V→Hp→Prop}(I:Inv X pins σ H s)
  (h:ta σ H fun x H1=>tb σ H1 fun y H2=>R x y H2) {Q:Value→Shared→Prop} {f:Value→Value→Sem Value}
  (hf:∀v u s2 x y H2,Inv X pins σ H2 s2→RelV x v→RelV y u→R x y H2→wpAny (model X.prog X.w) X.A (f v u) Q X.xe s2):
  wpAny (model X.prog X.w) X.A (eval a X.env) (fun v s₁=>wpAny (model X.prog X.w) X.A (eval b X.env) (fun u s₂=>wpAny (model X.prog X.w) X.A (f v u) Q X.xe s₂) X.xe s₁) X.xe s:=by
 refine thn (ha pins s σ H _ I h) fun v s1 ⟨x,H1,I1,r1,q1⟩=>?_
 refine thn (hb pins s1 σ H1 _ I1 q1) fun u s2 ⟨y,H2,I2,r2,q2⟩=>?_
 exact hf v u s2 x y H2 I2 r1 r2 q2
theorem yw {op:Operator}{r:R2}(ho:OpR X (binaryOp op) r)(ha:PE X a ta)(hb:PE X b tb):PE X (.BinOp a op b pos) (tOp r ta tb):=by
 intro pins s σ H Q I h
 exact wpAny_BinOp (zf6 ha hb I h fun v u s2 x y H2 I2 rx ry q=>ho pins s2 σ H2 x y v u Q I2 rx ry q)
theorem zp3 {op:UnaryOp}{r:V→Hp→VK→Prop}(ho:UnR X (unaryOp op) r)(ha:PE X a ta):PE X (.UnaryOp op a pos) (tUn r ta):=by
 intro pins s σ H Q I h
 exact UnaryOp_ (thn (ha pins s σ H _ I h) fun v s1 ⟨x,H1,I1,r1,q1⟩=>ho pins s1 σ H1 x v Q I1 r1 q1)
theorem opI {f:Value→Value→Sem Value}{C:Int→Int→Prop}{g:Int→Int→Int}
  (rule:∀(i j:Int) (t u:Tok) (s:Shared) (Q:Value→Shared→Prop) (E:Value→Shared→Prop),C i j→Q (.int (g i j) s.toks) {s with toks:=s.toks+1}→wpAny (model X.prog X.w) X.A (f (.int i t) (.int j u)) Q E s):
  OpR X f (rI C fun i j=>.int (g i j)):=by
 intro pins s σ H x y v u Q I rx ry h
 obtain⟨i,j,rfl,rfl,hc,q⟩:=h
 obtain⟨t,rfl⟩:=rx
 obtain⟨t',rfl⟩:=ry
 exact rule i j t t' s _ _ hc ⟨.int (g i j),H,I.tok _,⟨_,rfl⟩,q⟩
theorem zp0 {f:Value→Value→Sem Value}{g:Int→Int→Int}
  (rule:∀(i j:Int) (t u:Tok) (s:Shared) (Q:Value→Shared→Prop) (E:Value→Shared→Prop),Q (.int (g i j) s.toks) {s with toks:=s.toks+1}→wpAny (model X.prog X.w) X.A (f (.int i t) (.int j u)) Q E s):
  OpR X f (rI0 fun i j=>.int (g i j)):=by
 intro pins s σ H x y v u Q I rx ry h
 obtain⟨i,j,rfl,rfl,q⟩:=h
 obtain⟨t,rfl⟩:=rx
 obtain⟨t',rfl⟩:=ry
 exact rule i j t t' s _ _ ⟨.int (g i j),H,I.tok _,⟨_,rfl⟩,q⟩
theorem cM {f:Value→Value→Sem Value}{g:Int→Int→Bool}
  (rule:∀(i j:Int) (t u:Tok) (s:Shared) (Q:Value→Shared→Prop) (E:Value→Shared→Prop),Q (.bool (g i j)) s→wpAny (model X.prog X.w) X.A (f (.int i t) (.int j u)) Q E s):
  OpR X f (rI0 fun i j=>.bl (g i j)):=by
 intro pins s σ H x y v u Q I rx ry h
 obtain⟨i,j,rfl,rfl,q⟩:=h
 obtain⟨t,rfl⟩:=rx
 obtain⟨t',rfl⟩:=ry
 exact rule i j t t' s _ _ ⟨.bl (g i j),H,I,rfl,q⟩
def zf9 (i j:Int):Prop:=0≤j∧j≤1000000∧i.natAbs<2 ^ 64
def ze9 (i j:Int):Prop:=(-(2 ^ 64)<i∧i<2 ^ 64)∨(-(2 ^ 64)<j∧j<2 ^ 64)
theorem ze9.ok {i j:Int}(h:ze9 i j):IntMulOk i j:=by
 rcases h with ⟨h1,h2⟩|⟨h1,h2⟩
 ·exact .of_left (intBits_le_64 h1 h2)
 ·exact .of_right (intBits_le_64 h1 h2)
theorem uK :OpR X (binaryOp .Add) (rI0 fun i j=>.int (i+j)):=zp0 fun _ _ _ _ _ _ _ q=>add_int q
theorem iW :OpR X (binaryOp .Sub) (rI0 fun i j=>.int (i-j)):=zp0 fun _ _ _ _ _ _ _ q=>sub_int q
theorem sP :OpR X (binaryOp .Mult) (rI ze9 fun i j=>.int (i*j)):=opI fun _ _ _ _ _ _ _ hc q=>mul_int q hc.ok
theorem vQ :OpR X (binaryOp .Mod) (rI (fun _ j=>0<j) fun i j=>.int (i % j)):=opI fun i j _ _ _ _ _ hc q=>by
 have h1:(0:Int)<j:=hc
 exact mod_int' (by omega) (by rw[Int.fmod_eq_emod_of_nonneg i (by omega)];exact q)
theorem eA :OpR X (binaryOp .Pow) (rI zf9 fun i j=>.int (i ^ j.toNat)):=opI fun _ _ _ _ _ _ _ hc q=>pow_int_small hc.1 hc.2.1 hc.2.2 q
theorem unI {f:Value→Sem Value}{g:Int→Int}
  (rule:∀(i:Int) (t:Tok) (s:Shared) (Q:Value→Shared→Prop) (E:Value→Shared→Prop),Q (.int (g i) s.toks) {s with toks:=s.toks+1}→wpAny (model X.prog X.w) X.A (f (.int i t)) Q E s):
  UnR X f (rU fun i=>.int (g i)):=by
 intro pins s σ H x v Q I rx h
 obtain⟨i,rfl,q⟩:=h
 obtain⟨t,rfl⟩:=rx
 exact rule i t s _ _ ⟨.int (g i),H,I.tok _,⟨_,rfl⟩,q⟩
theorem zh8 :UnR X (unaryOp .USub) (rU fun i=>.int (-i)):=unI fun _ _ _ _ _ q=>neg_int q
end
def zm0 :V→V→Bool
 |.non,.non=>true|.non,.int _=>true|.int _,.non=>true|.non,.bl _=>true|.bl _,.non=>true|.non,.str _=>true|.str _,.non=>true
 |.int _,.int _=>true|.bl _,.bl _=>true|.str _,.str _=>true|.byt _,.byt _=>true
 |.int _,.str _=>true|.str _,.int _=>true|.bl _,.str _=>true|.str _,.bl _=>true
 |_,_=>false
def rEq :R2:=fun x y H Q=>zm0 x y=true∧Q (.bl (decide (x=y))) H
def rNe :R2:=fun x y H Q=>zm0 x y=true∧Q (.bl (!decide (x=y))) H
theorem kg {i j:Int}:decide (V.int i=V.int j)=(i == j):=by
 rw[zH7]
 simp
theorem gP {i j:Bool}:decide (V.bl i=V.bl j)=(i == j):=by
 rw[zH7]
 simp
theorem kL {i j:Str}:decide (V.str i=V.str j)=(i == j):=by
 rw[zH7]
 simp
theorem kU {i j:Array UInt8}:decide (V.byt i=V.byt j)=(i.toList == j.toList):=by
 rw[zH7]
 cases i
 cases j
 simp
section
variable {X:Cx}{a b c:Expr}{ta tb tc:TE}{pos:Pos}
theorem zK {pins:List (Addr×Obj)}{σ:St}{H:Hp}{s:Shared}{Q:VK}{k k':Bool}(I:Inv X pins σ H s)(q:Q (.bl k) H)(e:k=k'):EP X pins σ Q (.bool k') s:=by
 subst e
 exact⟨.bl k,H,I,rfl,q⟩
theorem wK :OpR X (compareOp .Eq) rEq:=by
 intro pins s σ H x y v u Q I rx ry h
 obtain⟨hs,q⟩:=h
 cases x with
 |non=>
  cases rx
  cases y with
  |non=>cases ry;exact PySem.EqNone.eq_none_none (zK I q (by simp))
  |bl j=>cases ry;exact PySem.EqNone.eq_none_bool (zK I q (by simp))
  |int j=>obtain⟨t',rfl⟩:=ry;exact PySem.EqNone.eq_none_int (zK I q (by simp))
  |str j=>obtain⟨t',rfl⟩:=ry;exact PySem.EqNone.eq_none_str (zK I q (by simp))
  |_=>exact absurd (show false=true from hs) zu3
 |bl i=>
  cases rx
  cases y with
  |non=>cases ry;exact PySem.EqNone.eq_bool_none (zK I q (by simp))
  |bl j=>cases ry;exact eq_bool (zK I q gP)
  |str j=>obtain⟨t',rfl⟩:=ry;exact PySem.EqMixed.eq_bool_str (zK I q (by simp))
  |_=>exact absurd (show false=true from hs) zu3
 |int i=>
  obtain⟨t,rfl⟩:=rx
  cases y with
  |non=>cases ry;exact PySem.EqNone.eq_int_none (zK I q (by simp))
  |int j=>obtain⟨t',rfl⟩:=ry;exact eq_int (zK I q kg)
  |str j=>obtain⟨t',rfl⟩:=ry;exact PySem.EqMixed.eq_int_str (zK I q (by simp))
  |_=>exact absurd (show false=true from hs) zu3
 |str i=>
  obtain⟨t,rfl⟩:=rx
  cases y with
  |non=>cases ry;exact PySem.EqNone.eq_str_none (zK I q (by simp))
  |bl j=>cases ry;exact PySem.EqMixed.eq_str_bool (zK I q (by simp))
  |int j=>obtain⟨t',rfl⟩:=ry;exact PySem.EqMixed.eq_str_int (zK I q (by simp))
  |str j=>obtain⟨t',rfl⟩:=ry;exact eq_str (zK I q kL)
  |_=>exact absurd (show false=true from hs) zu3
 |byt i=>
  obtain⟨t,rfl⟩:=rx
  cases y with
  |byt j=>obtain⟨t',rfl⟩:=ry;exact PySem.W.eq_bytes (zK I q kU)
  |_=>exact absurd (show false=true from hs) zu3
 |_=>cases y<;>exact absurd (show false=true from hs) zu3
theorem zk1 :OpR X (compareOp .NotEq) rNe:=by
 intro pins s σ H x y v u Q I rx ry h
 obtain⟨hs,q⟩:=h
 cases x with
 |non=>
  cases rx
  cases y with
  |non=>cases ry;exact PySem.EqNone.ne_none_none (zK I q (by simp))
  |bl j=>cases ry;exact PySem.EqNone.ne_none_bool (zK I q (by simp))
  |int j=>obtain⟨t',rfl⟩:=ry;exact PySem.EqNone.ne_none_int (zK I q (by simp))
  |str j=>obtain⟨t',rfl⟩:=ry;exact PySem.EqNone.ne_none_str (zK I q (by simp))
  |_=>exact absurd (show false=true from hs) zu3
 |bl i=>
  cases rx
  cases y with
  |non=>cases ry;exact PySem.EqNone.ne_bool_none (zK I q (by simp))
  |bl j=>cases ry;exact ne_bool (zK I q (congrArg not gP))
  |str j=>obtain⟨t',rfl⟩:=ry;exact PySem.EqMixed.ne_bool_str (zK I q (by simp))
  |_=>exact absurd (show false=true from hs) zu3
 |int i=>
  obtain⟨t,rfl⟩:=rx
  cases y with
  |non=>cases ry;exact PySem.EqNone.ne_int_none (zK I q (by simp))
  |int j=>obtain⟨t',rfl⟩:=ry;exact ne_int (zK I q (congrArg not kg))
  |str j=>obtain⟨t',rfl⟩:=ry;exact PySem.EqMixed.ne_int_str (zK I q (by simp))
  |_=>exact absurd (show false=true from hs) zu3
 |str i=>
  obtain⟨t,rfl⟩:=rx
  cases y with
  |non=>cases ry;exact PySem.EqNone.ne_str_none (zK I q (by simp))
  |bl j=>cases ry;exact PySem.EqMixed.ne_str_bool (zK I q (by simp))
  |int j=>obtain⟨t',rfl⟩:=ry;exact PySem.EqMixed.ne_str_int (zK I q (by simp))
  |str j=>obtain⟨t',rfl⟩:=ry;exact ne_str (zK I q (congrArg not kL))
  |_=>exact absurd (show false=true from hs) zu3
 |byt i=>
  obtain⟨t,rfl⟩:=rx
  cases y with
  |byt j=>obtain⟨t',rfl⟩:=ry;exact PySem.W.ne_bytes (zK I q (congrArg not kU))
  |_=>exact absurd (show false=true from hs) zu3
 |_=>cases y<;>exact absurd (show false=true from hs) zu3
theorem zk5 :OpR X (compareOp .Lt) (rI0 fun i j=>.bl (decide (i<j))):=cM fun _ _ _ _ _ _ _ q=>lt_int q
theorem pJ :OpR X (compareOp .LtE) (rI0 fun i j=>.bl (decide (i≤j))):=cM fun _ _ _ _ _ _ _ q=>le_int q
theorem lR :OpR X (compareOp .Gt) (rI0 fun i j=>.bl (decide (j<i))):=cM fun _ _ _ _ _ _ _ q=>gt_int q
theorem zn3 :OpR X (compareOp .GtE) (rI0 fun i j=>.bl (decide (j≤i))):=cM fun _ _ _ _ _ _ _ q=>ge_int q
theorem mf :OpR X (compareOp .Is) (fun x y H Q=>y=.non∧Q (.bl (decide (x=.non))) H):=by
 intro pins s σ H x y v u Q I rx ry h
 obtain⟨rfl,q⟩:=h
 cases ry
 refine is_none_gen (zK I q ?_)
 cases x<;>first
  |(cases rx;rfl)
  |(obtain⟨t,rfl⟩:=rx;rfl)
theorem zJ (b:Expr){op:CmpOp}(h:op≠.In:=by decide)(h2:op≠.NotIn:=by decide):behindInMarks op b=false:=by
 have e1:(op == CmpOp.In)=false:=by cases op<;>first|rfl|exact absurd rfl h
 have e2:(op == CmpOp.NotIn)=false:=by cases op<;>first|rfl|exact absurd rfl h2
 cases b<;>simp[behindInMarks,e1,e2]
theorem xQ {op:CmpOp}{r:R2}(ho:OpR X (compareOp op) r)(ha:PE X a ta)(hb:PE X b tb)(hm:behindInMarks op b=false):PE X (.Compare a [op] [b] pos) (tOp r ta tb):=by
 intro pins s σ H Q I h
 exact wpAny_Compare1 (zf6 ha hb I h fun v u s2 x y H2 I2 rx ry q=>ho pins s2 σ H2 x y v u Q I2 rx ry q) hm
def zm7 (t:TE):TT:=fun σ H Q=>t σ H fun x H'=>∃k,x=.bl k∧Q k H'
theorem yh {op:CmpOp}{r:R2}(ho:OpR X (compareOp op) r)(ha:PE X a ta)(hb:PE X b tb)(hm:behindInMarks op b=false):PT X (.Compare a [op] [b] pos) (zm7 (tOp r ta tb)):=by
 intro pins s σ H Q I h
 refine wpAny_isTrue_Compare1 (thn (ha pins s σ H _ I h) fun v s1 ⟨x,H1,I1,r1,q1⟩=>thn (hb pins s1 σ H1 _ I1 q1) fun u s2 ⟨y,H2,I2,r2,q2⟩=>
  thn (ho pins s2 σ H2 x y v u _ I2 r1 r2 q2) fun c s3 ⟨z,H3,I3,r3,k,e,q3⟩=>?_) hm
 subst e
 cases r3
 exact zA5 ⟨H3,I3,q3⟩
def zh9 (r r':R2)(ta tb tc:TE):TE:=fun σ H Q=>ta σ H fun x H1=>tb σ H1 fun y H2=>r x y H2 fun z H3=>∃k,z=.bl k∧
 (if k=true then tc σ H3 fun w' H4=>r' y w' H4 Q else Q (.bl false) H3)
theorem oz {op op':CmpOp}{r r':R2}(ho:OpR X (compareOp op) r)(ho':OpR X (compareOp op') r')(ha:PE X a ta)(hb:PE X b tb)(hc:PE X c tc)
  (hm:lastMarks [op,op'] [b,c]=false:=by with_unfolding_all rfl):PE X (.Compare a [op,op'] [b,c] pos) (zh9 r r' ta tb tc):=by
 intro pins s σ H Q I h
 refine Compare_chain (thn (ha pins s σ H _ I h) fun v s1 ⟨x,H1,I1,r1,q1⟩=>chain_link (thn (hb pins s1 σ H1 _ I1 q1) fun u s2 ⟨y,H2,I2,r2,q2⟩=>
  thn (ho pins s2 σ H2 x y v u _ I2 r1 r2 q2) fun d s3 ⟨z,H3,I3,r3,k,e,q3⟩=>?_)) hm
 subst e
 cases r3
 refine zA5 ?_
 cases k with
 |false=>exact ite_ff ⟨.bl false,H3,I3,rfl,q3⟩
 |true=>exact ite_tt (chain_last (thn (hc pins s3 σ H3 _ I3 q3) fun w' s4 ⟨z',H4,I4,r4,q4⟩=>ho' pins s4 σ H4 y z' u w' Q I4 r2 r4 q4))
theorem sL :(sizeLine:Nat)<2 ^ 63:=by rw[zx2];decide
theorem vals1 {x:V}{us:List Value}(r:Vals [x] us):∃u,us=[u]∧RelV x u:=by
 cases r with
 |cons r1 r2=>cases r2;exact⟨_,rfl,r1⟩
theorem pH :wL X (.builtin "abs") (fun xs H Q=>∃i,xs=[.int i]∧Q (.int (if i<0 then -i else i)) H):=by
 intro pins s σ H xs us Q I r h
 obtain⟨i,rfl,q⟩:=h
 obtain⟨u,rfl,t,rfl⟩:=vals1 r
 exact call_abs_int fun u tk=>⟨.int (if i<0 then -i else i),H,I.tok _,⟨_,rfl⟩,q⟩
end
structure mw (h:Heap)(x dx C:Addr)(mA:Str→Option Value):Prop where
 obj:h.get? x=some (PySem.W.instObj C dx)
 ns:h.Ns1 dx mA
 ne:dx≠x
theorem iD {h:Heap}{dx:Addr}{mA:Str→Option Value}(n:h.Ns1 dx mA):∃od,h.get? dx=some od∧∀name,PySem.W.lookIn name od=some (mA name):=by
 obtain⟨o,es,ep,ho,hd,hk,_,hm⟩:=n
 refine⟨o,ho,fun name=>?_⟩
 have e:=hm name
 unfold nsFind findBy at e
 rw[←Array.find?_toList] at e
 unfold PySem.W.lookIn
 rw[hd]
 dsimp only
 split
 ·rename_i y q
  rw[q] at e
  exact congrArg some e
 ·rename_i q
  rw[q] at e
  have a:es.toList.any (·.refKey)=false:=by
   rw[List.any_eq_false]
   intro y hy
   obtain⟨z,t,hkey⟩:=hk y (Array.mem_toList_iff.mp hy)
   simp[DictEntry.refKey,hkey]
  have a':¬es.toList.any (·.refKey)=true:=by rw[a];exact zu3
  rw[if_neg a']
  exact congrArg some e
theorem mw.look {h:Heap}{x dx C:Addr}{mA:Str→Option Value}(I:mw h x dx C mA):∃od,PySem.W.InstAt h x (PySem.W.instObj C dx) C (some od)∧∀name,PySem.W.lookIn name od=some (mA name):=
 let ⟨od,ho,hl⟩:=iD I.ns
 ⟨od,⟨I.obj,rfl,rfl,ho⟩,hl⟩
section
variable {prog:Program}{w:World}{A:Around}{E:Value→Shared→Prop}{s:Shared}{K:PySem.W.Frag}{x dx C f:Addr}{mA:Str→Option Value}{name:Str}{v:Value}
theorem get_map {expr:Bool}{Q:Value→Shared→Prop}(X:K.In s.heap)(I:mw s.heap x dx C mA)(hg:PySem.W.plainGet K C name=true)(hh:PySem.W.hasDictIn K C=true)
  (ha:PySem.W.findIn K (.ref C) name=some none) (hv:mA name=some v) (hv':PySem.W.handedIn v=true) (h:Q v {s with toks:=s.toks+1}):
  wpAny (model prog w) A (getAttr (.ref x) name expr) Q E s:=by
 obtain⟨od,J,hl⟩:=I.look
 exact PySem.W.get_value X J (zI4 hg).1 (PySem.W.findObj_own hh ha rfl (by rw[hl,hv])) hv' h
theorem fh {pl:Sem Bool}{Q:Value×List Value→Shared→Prop}(X:K.In s.heap)(I:mw s.heap x dx C mA)(hg:PySem.W.plainGet K C name=true)
  (hf:PySem.W.findIn K (.ref C) name=some (some (.ref f))) (ht:PySem.W.isFn K (.ref f)=true) (hv:mA name=none) (h:Q (.ref f,[.ref x]) s):
  wpAny (model prog w) A (getMethod (.ref x) name pl) Q E s:=by
 obtain⟨od,J,hl⟩:=I.look
 exact PySem.W.method_fn X J (zI4 hg).1 (zI4 hg).2 hf (zC2.mp ht) (by show (PySem.W.lookIn name od).map (·.isSome)=some false;rw[hl,hv];rfl) h
theorem cA {ns:List Str}{Q:Unit→Shared→Prop}(X:K.In s.heap)(I:mw s.heap x dx C mA)
  (hs:PySem.W.findIn K (.ref C) "__setattr__"=some (some (.builtin "object.__setattr__"))) (hp:PySem.W.plainOver K C=true) (ht:PySem.W.takerIn K C name=some none) (hh:PySem.W.hasDictIn K C=true)
  (hw:PySem.Within mA ns) (hsz:ns.length≤sizeLine)
  (h:∀h',mw h' x dx C (fun y=>if y=name then some v else mA y)→Heap.SameBut dx s.heap h'→Q () {s with heap:=h',toks:=s.toks+2}):
  wpAny (model prog w) A (setAttr (.ref x) name v) Q E s:=by
 obtain⟨od,J,hl⟩:=I.look
 refine PySem.W.set_plain X J hs (PySem.W.osa_open (s:={s with toks:=s.toks+1}) (r:=none) X J hp ht fun b=>?_)
 obtain⟨cd,hc,hd'⟩:=PySem.W.any_some hh
 have hx:s.heap.get? x=some ⟨.ref C,some dx,.plain,#[]⟩:=I.obj
 refine zs9 (zt2 (zs9 (zs9 (wpAny_loadPart hx (zs9 (PySem.W.Looks.here (s:={s with toks:=s.toks+1}) (PySem.W.looks_clsIn X hc) ?_))))))
 rw[hd']
 refine zt2 (a:=some dx) (zs9 (zt2 (zs9 ?_)))
 refine wpAny_nsSet1 (s:={s with toks:=s.toks+1}) I.ns fun h' hn2 hs2=>?_
 obtain⟨oD,esD,epD,hoD,hdD,hcD⟩:=hn2.count (PySem.Within.cons name v hw)
 refine zs9 (wpAny_lookBehind hoD (by rw[hdD];exact pastItsLine_dict (zx9 hcD (by rw[zu5];omega))) ?_)
 exact zt2 (h _ ⟨(hs2.2 _ (zw4 I.ne)).trans I.obj,hn2,I.ne⟩ hs2)
theorem gL {R:Result→Shared→Prop}{vs:List Value}{kw:List (Str×Value)}(X:K.In s.heap)(hm:PySem.W.makesIn K C=true)
  (hi:PySem.W.findIn K (.ref C) "__init__"=some (some (.ref f))) (hf:PySem.W.typeIn K (.ref f)=some (.type "function"))
  (h:codeAny (model prog w) (A.under (.builtin "type.__call__" ⟨.ref C::vs,kw⟩)) (.call (.ref f) ⟨.ref (s.heap.objs.size+1)::vs,kw⟩) (PySem.W.InitBack (s.heap.objs.size+1) R)
   {s with heap:=(s.heap.push PySem.W.emptyDict).push (PySem.W.instObj C s.heap.objs.size)}):
  codeAny (model prog w) A (.call (.ref C) ⟨vs,kw⟩) R s:=by
 obtain⟨hh,g,d,t,os⟩:=s
 exact PySem.W.make_core (PySem.W.makes_of X hm) (PySem.W.looks_findIn X hi) (fun self=>PySem.W.bind_fn X self hf) (.inl rfl) h
end
def xI (f:Str)(v:V):List (Str×V)→List (Str×V)
 |[]=>[(f,v)]
 |(g,x)::r=>if g=f then (g,v)::r else (g,x)::xI f v r
theorem zV (f g:Str)(v:V):∀fs:List (Str×V),(xI f v fs).lookup g=if g=f then some v else fs.lookup g
 |[]=>by
  show List.lookup g [(f,v)]=_
  by_cases h:g=f
  ·have hb:(g == f)=true:=zC2.mpr h
   simp only[List.lookup,hb,if_pos h]
  ·have hb:(g == f)=false:=zC9.mpr h
   simp only[List.lookup,hb,if_neg h]
 |(k,x)::r=>by
  have ih:=zV f g v r
  rw[show xI f v ((k,x)::r)=(if k=f then (k,v)::r else (k,x)::xI f v r) from rfl]
  by_cases hk:k=f
  ·rw[if_pos hk]
   by_cases h:g=k
   ·have hb:(g == k)=true:=zC2.mpr h
    simp only[List.lookup,hb,if_pos (h.trans hk)]
   ·have hb:(g == k)=false:=zC9.mpr h
    simp only[List.lookup,hb,if_neg (fun e:g=f=>h (e.trans hk.symm))]
  ·rw[if_neg hk]
   by_cases h:g=k
   ·have hb:(g == k)=true:=zC2.mpr h
    simp only[List.lookup,hb,if_neg (fun e:g=f=>hk (h.symm.trans e))]
   ·have hb:(g == k)=false:=zC9.mpr h
    simp only[List.lookup,hb]
    exact ih
theorem uB (f:Str)(v:V):∀fs:List (Str×V),f∈(xI f v fs).map (·.1)∧∀g,g∈fs.map (·.1)→g∈(xI f v fs).map (·.1)
 |[]=>⟨by simp[xI],fun g h=>by simp at h⟩
 |(k,x)::r=>by
  obtain⟨i1,i2⟩:=uB f v r
  rw[show xI f v ((k,x)::r)=(if k=f then (k,v)::r else (k,x)::xI f v r) from rfl]
  by_cases hk:k=f
  ·rw[if_pos hk]
   subst hk
   exact⟨by simp,fun g h=>by simpa using h⟩
  ·rw[if_neg hk]
   refine⟨?_,fun g h=>?_⟩
   ·rw[zx0]
    exact zu1 _ i1
   ·rw[zx0] at h ⊢
    rcases zt4.mp h with e|e
    ·exact zt4.mpr (.inl e)
    ·exact zu1 _ (i2 g e)
theorem uP (f:Str)(v:V):∀fs:List (Str×V),(xI f v fs).length≤fs.length+1
 |[]=>by simp[xI]
 |(k,x)::r=>by
  have ih:=uP f v r
  rw[show xI f v ((k,x)::r)=(if k=f then (k,v)::r else (k,x)::xI f v r) from rfl]
  by_cases hk:k=f
  ·rw[if_pos hk,zu5,zu5];omega
  ·rw[if_neg hk,zu5,zu5];omega
theorem vN.some_of {v:V}{o:Option Value}(r:vN (some v) o):∃u,o=some u∧RelV v u:=by
 cases o with
 |none=>exact (show False from r).elim
 |some u=>exact⟨u,rfl,r⟩
theorem vN.none_of {o:Option Value}(r:vN none o):o=none:=by
 cases o with
 |none=>rfl
 |some u=>exact (show False from r).elim
theorem ji {v:V}{u:Value}(r:RelV v u):PySem.W.handedIn u=true:=by
 cases v with
 |non=>cases (show u=Value.none from r);rfl
 |bl b=>cases (show u=Value.bool b from r);rfl
 |int i=>obtain⟨t,e⟩:=(show ∃t,u=Value.int i t from r);cases e;rfl
 |str x=>obtain⟨t,e⟩:=(show ∃t,u=Value.str x t from r);cases e;rfl
 |byt b=>obtain⟨t,e⟩:=(show ∃t,u=Value.bytes b t from r);cases e;rfl
 |flt b=>obtain⟨t,e⟩:=(show ∃t,u=Value.float b t from r);cases e;rfl
 |ref a=>cases (show u=Value.ref a from r);rfl
 |ty n=>cases (show u=Value.type n from r);rfl
section
variable {P:Program}{w:World}{H H':Hp}{h h':Heap}{a C dx:Addr}{fs fs':List (Str×V)}
theorem tD (hok:HOk P w H h)(e:H a=some (.ins C dx fs)):∃mA,mw h a dx C mA∧(∀f,vN (fs.lookup f) (mA f))∧PySem.Within mA (fs.map (·.1))∧fs.length≤1000∧H dx=some (.own a):=by
 obtain⟨d,z,ne,ob,mA,n,r,q⟩:=(show zY P w H h a (.ins C dx fs) from hok a _ e)
 exact⟨mA,⟨ob,n,ne⟩,r,q,z,d⟩
end
structure Cls (K:PySem.W.Frag)(C:Addr):Prop where
 pg:PySem.W.plainGet K C Str.empty=true
 hd:PySem.W.hasDictIn K C=true
 po:PySem.W.plainOver K C=true
 sa:PySem.W.findIn K (.ref C) "__setattr__"=some (some (.builtin "object.__setattr__"))
theorem Cls.get {K:PySem.W.Frag}{C:Addr}(c:Cls K C)(f:Str):PySem.W.plainGet K C f=true:=c.pg
def yJ (K:PySem.W.Frag)(C:Addr)(f:Str):Prop:=PySem.W.findIn K (.ref C) f=some none
theorem yJ.taker {K:PySem.W.Frag}{C:Addr}{f:Str}(n:yJ K C f):PySem.W.takerIn K C f=some none:=by
 unfold PySem.W.takerIn
 rw[show PySem.W.findIn K (.ref C) f=some none from n]
 rfl
structure Meth (K:PySem.W.Frag)(C:Addr)(m:Str)(f:Addr):Prop where
 at_:PySem.W.findIn K (.ref C) m=some (some (.ref f))
 fn:PySem.W.isFn K (.ref f)=true
 kp:PySem.W.keepIn K (.ref f)=true
section
variable {X:Cx}{pins:List (Addr×Obj)}{σ:St}{H:Hp}{s:Shared}{a C dx:Addr}{fs:List (Str×V)}{f:Str}{v:V}{A:Around}{E:Value→Shared→Prop}
theorem lG {b:Bool}{Q:Value→Shared→Prop}(I:Inv X pins σ H s)(e:H a=some (.ins C dx fs))(c:Cls X.K C)(n:yJ X.K C f)(l:fs.lookup f=some v)
  (h:∀u s',Inv X pins σ H s'→RelV v u→Q u s'):wpAny (model X.prog X.w) A (getAttr (.ref a) f b) Q E s:=by
 obtain⟨mA,O,r,_,_,_⟩:=tD I.hok e
 obtain⟨u,hu,ru⟩:=vN.some_of (v:=v) (o:=mA f) (by rw[←l];exact r f)
 exact get_map I.kIn O (c.get f) c.hd n hu (ji ru) (h u _ (I.tok _) ru)
theorem vR {m:Str}{g:Addr}{pl:Sem Bool}{Q:Value×List Value→Shared→Prop}(I:Inv X pins σ H s)(e:H a=some (.ins C dx fs))(c:Cls X.K C)(k:Meth X.K C m g)(l:fs.lookup m=none)
  (h:Q (.ref g,[.ref a]) s):wpAny (model X.prog X.w) A (getMethod (.ref a) m pl) Q E s:=by
 obtain⟨mA,O,r,_,_,_⟩:=tD I.hok e
 have hn:mA m=none:=vN.none_of (by rw[←l];exact r m)
 exact fh I.kIn O (c.get m) k.at_ k.fn hn h
theorem mW {y:V}{u:Value}{Q:Unit→Shared→Prop}(I:Inv X pins σ H s)(e:H a=some (.ins C dx fs))(c:Cls X.K C)(n:yJ X.K C f)(hl:fs.length<1000)(ry:RelV y u)
  (h:∀s',Inv X pins σ (upd H a (.ins C dx (xI f y fs))) s'→Q () s'):wpAny (model X.prog X.w) A (setAttr (.ref a) f u) Q E s:=by
 obtain⟨mA,O,r,wi,_,ho⟩:=tD I.hok e
 have hz:(fs.map (·.1)).length≤sizeLine:=by rw[zt1,zx2];omega
 refine cA I.kIn O c.sa c.po n.taker c.hd wi hz fun h' O' sb=>h _ ?_
 have hd:∃o,h'.get? dx=some o:=let ⟨o,_,_,e',_⟩:=O'.ns;⟨o,e'⟩
 refine I.write (x:=a) (e:=dx) (by rw[e];exact True.intro) (.inr ho) (fun b q hb z=>(sb.2 b hb).trans z) hd ?_
 refine⟨by rw[zd O.ne];exact ho,?_,O.ne,O'.obj,_,O'.ns,fun g=>?_,fun g hg=>?_⟩
 ·have:=uP f y fs;omega
 ·show vN ((xI f y fs).lookup g) (if g=f then some u else mA g)
  rw[zV]
  by_cases q:g=f
  ·rw[if_pos q,if_pos q];exact ry
  ·rw[if_neg q,if_neg q];exact r g
 ·by_cases q:g=f
  ·rw[q];exact (uB f y fs).1
  ·refine (uB f y fs).2 g (wi g fun z=>hg ?_)
   show (if g=f then some u else mA g)=none
   rw[if_neg q];exact z
theorem Inv.made (I:Inv X pins σ H s):Inv X pins σ (upd (upd H s.heap.objs.size (.own (s.heap.objs.size+1))) (s.heap.objs.size+1) (.ins C s.heap.objs.size []))
  {s with heap:=(s.heap.push PySem.W.emptyDict).push (PySem.W.instObj C s.heap.objs.size)}:=by
 have e1:(s.heap.push PySem.W.emptyDict).get? s.heap.objs.size=some PySem.W.emptyDict:=zu0 s.heap rfl
 have e2:((s.heap.push PySem.W.emptyDict).push (PySem.W.instObj C s.heap.objs.size)).get? (s.heap.objs.size+1)=some (PySem.W.instObj C s.heap.objs.size):=by
  have:=zu0 (s.heap.push PySem.W.emptyDict) (o:=PySem.W.instObj C s.heap.objs.size) rfl
  rwa [zx5] at this
 have e3:(s.heap.push PySem.W.emptyDict).Ns s.heap.objs.size (fun _=>none):=⟨PySem.W.emptyDict,#[],_,e1,rfl,(fun e he=>absurd he (by simp)),fun _=>rfl⟩
 have I1:=I.laid (a:=s.heap.objs.size) (o:=.own (s.heap.objs.size+1)) (h':=s.heap.push PySem.W.emptyDict) (t':=s.toks) (fun b u q=>zt0 _ q) (zt8 _) ⟨_,e1⟩
 refine I1.laid (a:=s.heap.objs.size+1) (o:=.ins C s.heap.objs.size []) (t':=s.toks) (fun b u q=>zt0 _ q) (zH8 (zx5 _ _)) ?_
 have ne:s.heap.objs.size≠s.heap.objs.size+1:=zv0 (zC6 _)
 refine⟨by rw[zd ne,zk],zu6 _,ne,e2,fun _=>none,(Heap.Ns1.of_empty e3).at fun o q=>zt0 _ q,fun _=>True.intro,fun y hy=>absurd rfl hy⟩
theorem cU {prog:Program}{w:World}{env:Env}{e:Expr}{f:Str}{pos:Pos}{s:Shared}{Q:Value→Shared→Prop}(hb:attributeBase e f env (eval e env)=eval e env)
  (h:wpAny (model prog w) A (eval e env) (fun o s₁=>wpAny (model prog w) A (getAttr o f true) Q E s₁) E s):wpAny (model prog w) A (eval (.Attribute e f pos) env) Q E s:=
 Attribute_any_ h (by rw[arm_eval_Attribute,hb])
end
def zr5 (K:PySem.W.Frag)(ta:TE)(f:Str):TE:=fun σ H Q=>ta σ H fun x H1=>∃a C dx fs v,x=.ref a∧H1 a=some (.ins C dx fs)∧Cls K C∧yJ K C f∧fs.lookup f=some v∧Q v H1
def zr8 (K:PySem.W.Frag)(ta tv:TE)(f:Str):TS:=fun D σ H=>tv σ H fun y H1=>ta σ H1 fun x H2=>∃a C dx fs,x=.ref a∧H2 a=some (.ins C dx fs)∧Cls K C∧yJ K C f∧fs.length<1000∧
 D.nx σ (upd H2 a (.ins C dx (xI f y fs)))
section
variable {X:Cx}{o e value:Expr}{f:Str}{pos pos' tpos:Pos}{ta tv:TE}
theorem uD (he:PE X e ta)(hb:attributeBase e f X.env (eval e X.env)=eval e X.env):PE X (.Attribute e f pos) (zr5 X.K ta f):=by
 intro pins s σ H Q I h
 refine cU hb (thn (he pins s σ H _ I h) fun u s1 ⟨x,H1,I1,rx,a,C,dx,fs,v,ex,ea,c,n,l,q⟩=>?_)
 subst ex
 obtain rfl:u=Value.ref a:=rx
 exact lG I1 ea c n l fun u' s2 I2 ru=>⟨v,H1,I2,ru,q⟩
theorem qP (ha:PE X o ta)(hv:PE X value tv)(hs:swapsWith value (some (.Attribute o f pos')) pos.line X.env=pure false):PS X (.Assign [.Attribute o f pos'] value pos) (zr8 X.K ta tv f):=by
 intro pins s σ H D I h
 refine plainObj_wpAny_Assign_Attribute (thn (hv pins s σ H _ I h) fun u s1 ⟨y,H1,I1,ry,q⟩=>thn (ha pins s1 σ H1 _ I1 q) fun ov s2 ⟨x,H2,I2,rx,a,C,dx,fs,ex,ea,c,n,l,q2⟩=>?_) hs
 subst ex
 obtain rfl:ov=Value.ref a:=rx
 exact mW I2 ea c n l ry fun s3 I3=>⟨σ,_,I3,q2⟩
theorem aL {pl:Sem Bool}{m:Str}{apos:Pos}{args:List Expr}{pins:List (Addr×Obj)}{s:Shared}{σ:St}{H:Hp}{Q:Value→Shared→Prop}{te:TE}(he:PE X e te)(I:Inv X pins σ H s)
  (h:te σ H fun x H1=>∃a C dx fs g,x=.ref a∧H1 a=some (.ins C dx fs)∧Cls X.K C∧Meth X.K C m g∧fs.lookup m=none∧
   ∀s1,Inv X pins σ H1 s1→wpAny (model X.prog X.w) X.A (callWith pos (.ref g) [.ref a] (backTo pos (starEach args X.env)) (backToKw pos (keywordEach [] X.env))) Q X.xe s1)
  (ht:eval (.Call (.Attribute e m apos) args [] pos) X.env=(do
   let ov ←eval e X.env
   standAt apos.atName
   let (f,first) ←holding [ov] (getMethod ov m pl)
   callWith pos f first (backTo pos (starEach args X.env)) (backToKw pos (keywordEach [] X.env)))):
  wpAny (model X.prog X.w) X.A (eval (.Call (.Attribute e m apos) args [] pos) X.env) Q X.xe s:=by
 refine zD9 (pl:=pl) (thn (he pins s σ H _ I h) fun u s1 ⟨x,H1,I1,rx,a,C,dx,fs,g,ex,ea,c,k,l,q⟩=>?_) ht
 subst ex
 obtain rfl:u=Value.ref a:=rx
 exact vR I1 ea c k l (q s1 I1)
end
section
variable {X:Cx}{pins:List (Addr×Obj)}{σ:St}{H:Hp}{s:Shared}{A:Around}{E:Value→Shared→Prop}{Q:Value→Shared→Prop}{c:Value}{b:Bool}
inductive ug (K:PySem.W.Frag)(H:Hp):V→Value→Prop where
 |non:ug K H .non (.type "NoneType")
 |bl (x:Bool):ug K H (.bl x) (.type "bool")
 |int (i:Int):ug K H (.int i) (.type "int")
 |str (x:Str):ug K H (.str x) (.type "str")
 |flt (x:UInt64):ug K H (.flt x) (.type "float")
 |lst {a:Addr} {xs:List V} (e:H a=some (.lst xs)):ug K H (.ref a) (.type "list")
 |frz {a:Addr} {o:Obj} {xs:List V} (e:H a=some (.frz o (.lst xs))):ug K H (.ref a) (.type "list")
 |tup {a:Addr} {xs:List V} (e:H a=some (.tup xs)):ug K H (.ref a) (.type "tuple")
 |dK {a:Addr} {kvs:List (Key×V)} (e:H a=some (.dK kvs)):ug K H (.ref a) (.type "dict")
 |dT {a:Addr} {kvs:List (List Key×V)} (e:H a=some (.dT kvs)):ug K H (.ref a) (.type "dict")
 |ins {a C dx:Addr} {fs:List (Str×V)} (e:H a=some (.ins C dx fs)) (cl:Cls K C) (ha:PySem.W.findIn K (.ref C) "__class__"=some (some (.builtin "object.__class__")))
   (hn:PySem.W.specialIn K (.builtin "object.__class__") "__get__"=some (some (.builtin "getset_descriptor.__get__"))) (htk:PySem.W.takesIn K (.builtin "object.__class__")=some true)
   (hm:PySem.W.mroIn K C (.type "object")=some true):ug K H (.ref a) (.ref C)
theorem ik {x:V}{u t:Value}(I:Inv X pins σ H s)(rx:RelV x u)(ty:ug X.K H x t)(e:PySem.W.kitOne X.K t c=some b)(h:∀tk,Q (.bool b) {s with toks:=tk}):
  wpAny (model X.prog X.w) A (call (.builtin "isinstance") [u,c]) Q E s:=by
 cases ty with
 |non=>cases (show u=Value.none from rx);exact zy3 PySem.W.kitx_none I.kIn True.intro e (fun z=>nomatch z) h
 |bl y=>cases (show u=Value.bool y from rx);exact zy3 PySem.W.kitx_bool I.kIn True.intro e (fun z=>nomatch z) h
 |int i=>obtain⟨t,q⟩:=(show ∃t,u=Value.int i t from rx);cases q;exact zy3 PySem.W.kitx_int I.kIn True.intro e (fun z=>nomatch z) h
 |str y=>obtain⟨t,q⟩:=(show ∃t,u=Value.str y t from rx);cases q;exact zy3 PySem.W.kitx_str I.kIn True.intro e (fun z=>nomatch z) h
 |flt y=>obtain⟨t,q⟩:=(show ∃t,u=Value.float y t from rx);cases q;exact zy3 PySem.W.kitx_float I.kIn True.intro e (fun z=>nomatch z) h
 |@lst a xs ea=>
  cases (show u=Value.ref a from rx)
  obtain⟨_,_,n,_,h1⟩:=(show zY X.prog X.w H s.heap a (.lst xs) from I.hok a _ ea)
  exact zy3 PySem.W.kitx_list I.kIn ⟨_,h1,rfl⟩ e (fun z=>nomatch z) h
 |@frz a ob xs ea=>
  cases (show u=Value.ref a from rx)
  obtain⟨_,_,_,n,_,h1⟩:=(show zY X.prog X.w H s.heap a (.frz ob (.lst xs)) from I.hok a _ ea)
  exact zy3 PySem.W.kitx_list I.kIn ⟨_,h1,rfl⟩ e (fun z=>nomatch z) h
 |@tup a xs ea=>
  cases (show u=Value.ref a from rx)
  obtain⟨_,_,_,p⟩:=(show zY X.prog X.w H s.heap a (.tup xs) from I.hok a _ ea)
  obtain⟨o,h1,h2,_⟩:=p
  exact zy3 PySem.W.kitx_tuple I.kIn ⟨o,h1,h2⟩ e (fun z=>nomatch z) h
 |@dK a kvs ea=>
  cases (show u=Value.ref a from rx)
  obtain⟨_,_,vs,_,p⟩:=(show zY X.prog X.w H s.heap a (.dK kvs) from I.hok a _ ea)
  obtain⟨o,es,ep,h1,h2,_⟩:=p
  exact zy3 PySem.W.kitx_dict I.kIn ⟨o,h1,h2.1⟩ e (fun z=>nomatch z) h
 |@dT a kvs ea=>
  cases (show u=Value.ref a from rx)
  obtain⟨_,_,xs,_,o,es,ep,h1,h2,_⟩:=(show zY X.prog X.w H s.heap a (.dT kvs) from I.hok a _ ea)
  exact zy3 PySem.W.kitx_dict I.kIn ⟨o,h1,h2.1⟩ e (fun z=>nomatch z) h
 |@ins a C dx fs ea cl ha hn htk hm=>
  cases (show u=Value.ref a from rx)
  obtain⟨mA,O,_⟩:=tD I.hok ea
  obtain⟨od,J,_⟩:=O.look
  exact zy3 (PySem.W.kitx_own (cl.get _) cl.hd ha hn htk hm) I.kIn J e (fun z=>nomatch z) h
end
structure zL (k:Nat)(A:Around):Prop where
 hd:A.handled=none
 dp:A.depth+3*k+5<recursionLimit
 un:A.units+16*k+200<cLine
 gd:A.guards=some []
theorem zL.mono {j k:Nat}{A:Around}(r:zL k A)(h:j≤k):zL j A:=⟨r.hd,by have:=r.dp;omega,by have:=r.un;omega,r.gd⟩
theorem zL.deeper {k:Nat}{A:Around}(r:zL (k+1) A)(env:Env):zL k (A.deeper env):=
 ⟨r.hd,by have:=r.dp;show A.depth+1+3*k+5<_;omega,by have:=r.un;show A.units+3+16*k+200<_;omega,r.gd⟩
theorem zL.in1 {k:Nat}{A:Around}(r:zL (k+1) A):zL k A.in1:=
 ⟨r.hd,by have:=r.dp;show A.depth+3*k+5<_;omega,by have:=r.un;show A.units+1+16*k+200<_;omega,r.gd⟩
theorem nv {A:Around}{C:Addr}{us:List Value}{kw:List (Str×Value)}:(A.under (.builtin "type.__call__" ⟨.ref C::us,kw⟩)).depth=A.depth+1:=by
 first|rfl|simp[Around.under,Code.weight,Code.isCreation,Code.isGuard,Code.isCaller,Code.frames,Code.isFrame,guardIds]
theorem mI {A:Around}{C:Addr}{us:List Value}{kw:List (Str×Value)}:(A.under (.builtin "type.__call__" ⟨.ref C::us,kw⟩)).units=A.units+1:=by
 first|rfl|simp[Around.under,Code.cUnits,Code.frames,Code.isFrame]
theorem oE {A:Around}{C:Addr}{us:List Value}{kw:List (Str×Value)}:(A.under (.builtin "type.__call__" ⟨.ref C::us,kw⟩)).guards=A.guards:=by
 first|rfl|simp[Around.under,Code.guards,Code.isGuard,guardIds,pushGuards]
theorem zL.make {k:Nat}{A:Around}(r:zL (k+1) A)(C:Addr)(us:List Value)(kw:List (Str×Value)):zL k (A.under (.builtin "type.__call__" ⟨.ref C::us,kw⟩)):=
 ⟨r.hd,by have:=r.dp;rw[nv];omega,by have:=r.un;rw[mI];omega,(oE (A:=A)).trans r.gd⟩
theorem zL.depth {k:Nat}{A:Around}(r:zL k A):A.depth<recursionLimit:=by have:=r.dp;omega
theorem zL.units {k:Nat}{A:Around}(r:zL k A):A.units+64<cLine:=by have:=r.un;omega
def zl2 :TA:=fun _ H Q=>Q [] H
def zl1 (ta:TE)(tr:TA):TA:=fun σ H Q=>ta σ H fun x H1=>tr σ H1 fun xs H2=>Q (x::xs) H2
section
variable {X:Cx}{e:Expr}{es:List Expr}{te:TE}{t:TA}{pos:Pos}
theorem zu :PA X [] zl2:=fun _ _ _ _ H Q I h=>Calls.spliced_nil ⟨[],H,I,.nil,h⟩
theorem zf (ha:PE X e te)(hr:PA X es t)(hs:starEach (e::es) X.env=(false,eval e X.env)::starEach es X.env:=by rfl):PA X (e::es) (zl1 te t):=by
 intro pos pins s σ H Q I h
 rw[hs]
 show wpAny _ _ (spliced ((false,eval e X.env)::backTo pos (starEach es X.env))) _ _ s
 refine zG1 (thn (ha pins s σ H _ I h) fun u s1 ⟨x,H1,I1,r1,q1⟩=>?_)
 exact thn (hr pos pins s1 σ H1 _ I1 q1) fun us s2 ⟨xs,H2,I2,r2,q2⟩=>⟨x::xs,H2,I2,.cons r1 r2,q2⟩
def zq2 (t:TA):TE:=fun σ H Q=>t σ H fun xs H1=>xs.length≤sizeLine∧∀p,H1 p=none→Q (.ref p) (upd H1 p (.tup xs))
def zq1 (t:TA):TE:=fun σ H Q=>t σ H fun xs H1=>xs.length≤sizeLine∧∀p,H1 p=none→Q (.ref p) (upd H1 p (.lst xs))
theorem tX {x1}(h:PA X es t):PE X (.Tuple es x1 pos) (zq2 t):=by
 intro pins s σ H Q I hq
 refine wpAny_Tuple_spliced (thn (h pos pins s σ H _ I hq) fun us s1 ⟨xs,H1,I1,r,z,q⟩=>⟨by rw[←r.length];exact z,?_⟩)
 have hf:H1 s1.heap.objs.size=none:=I1.hok.fresh (zt8 _)
 refine⟨.ref s1.heap.objs.size,upd H1 s1.heap.objs.size (.tup xs),I1.laid (t':=s1.toks) (fun b u e=>zt0 _ e) (zt8 _) ?_,rfl,q _ hf⟩
 exact⟨z,us,r,⟨_,zu0 _ rfl,rfl,_,rfl⟩⟩
theorem gF (h:PA X es t):PE X (.List es pos) (zq1 t):=by
 intro pins s σ H Q I hq
 refine wpAny_List_spliced (thn (h pos pins s σ H _ I hq) fun us s1 ⟨xs,H1,I1,r,z,q⟩=>⟨by rw[←r.length];exact z,?_⟩)
 have hf:H1 s1.heap.objs.size=none:=I1.hok.fresh (zt8 _)
 refine⟨.ref s1.heap.objs.size,upd H1 s1.heap.objs.size (.lst xs),I1.laid (t':=s1.toks) (fun b u e=>zt0 _ e) (zt8 _) ?_,rfl,q _ hf⟩
 exact⟨z,us,0,r,zu0 _ rfl⟩
end
abbrev Sp :=List V→Hp→VK→XK→Prop
abbrev CXT :=List Env→Hp→Shared→XK→Value→Shared→Prop
structure uz (P:Program)(w:World)(K:PySem.W.Frag)(mg:Str→Option Value)(base:Heap)(A:Around)(outer:List Env)(s:Shared)(H:Hp):Prop where
 frames:A.frames=some outer
 mod:Mod K mg base
 bs:∀b o,base.get? b=some o→s.heap.get? b=some o∧H b=none
 bsz:base.objs.size≤s.heap.objs.size
 funs:s.heap.FunFrames base outer
 frf:∀b∈frs outer,H b=none
 hok:HOk P w H s.heap
 bare:AllBare s.gens
def CE (outer:List Env)(P:Program)(w:World)(H:Hp)(s:Shared)(Q:VK)(u:Value)(s':Shared):Prop:=
 ∃v H',s'.os=s.os∧AllBare s'.gens∧Un (frs outer) [] H H' s.heap s'.heap∧HOk P w H' s'.heap∧RelV v u∧Q v H'
def CR (CX:CXT)(outer:List Env)(P:Program)(w:World)(H:Hp)(s:Shared)(Q:VK)(E:XK)(r:Result)(s':Shared):Prop:=
 match r with
 |.ok (.ret u)=>CE outer P w H s Q u s'
 |.ok _=>False
 |.error e=>CX outer H s E e s'
structure zD (P:Program)(w:World)(K:PySem.W.Frag)(mg:Str→Option Value)(base:Heap)(CX:CXT)(k:Nat)(f:Addr)(fd:FuncData)(ps:List Str)(sp:Sp):Prop where
 len:∀vs H Q E,sp vs H Q E→vs.length=ps.length
 run:∀(A:Around) (outer:List Env) (s:Shared) (H:Hp) (args:Args) (us:List Value) (vs:List V) (Q:VK) (E:XK),zL k A→uz P w K mg base A outer s H→BindsTo s fd args (ps.zip us)→Vals vs us→sp vs H Q E→
  codeAny (model P w) A (.call (.ref f) args) (CR CX outer P w H s Q E) s
theorem zD.imp {P:Program}{w:World}{K:PySem.W.Frag}{mg:Str→Option Value}{base:Heap}{CX:CXT}{k:Nat}{f:Addr}{fd:FuncData}{ps:List Str}{sp sp':Sp}(F:zD P w K mg base CX k f fd ps sp)
  (h:∀vs H Q E,sp' vs H Q E→sp vs H Q E):zD P w K mg base CX k f fd ps sp':=
 ⟨fun vs H Q E q=>F.len vs H Q E (h _ _ _ _ q),fun A outer s H args us vs Q E hr he hb hv hs=>F.run A outer s H args us vs Q E hr he hb hv (h _ _ _ _ hs)⟩
theorem uz.make {P:Program}{w:World}{K:PySem.W.Frag}{mg:Str→Option Value}{base:Heap}{A:Around}{outer:List Env}{s:Shared}{H:Hp}(e:uz P w K mg base A outer s H)(C:Addr)(us:List Value)(kw:List (Str×Value)):
  uz P w K mg base (A.under (.builtin "type.__call__" ⟨.ref C::us,kw⟩)) outer s H:=⟨by first|exact e.frames|(simpa[Around.under,Code.envs,Code.isFrame,pushEnvs] using e.frames),e.mod,e.bs,e.bsz,e.funs,e.frf,e.hok,e.bare⟩
theorem uz.in1 {P:Program}{w:World}{K:PySem.W.Frag}{mg:Str→Option Value}{base:Heap}{A:Around}{outer:List Env}{s:Shared}{H:Hp}(e:uz P w K mg base A outer s H):
  uz P w K mg base A.in1 outer s H:=⟨e.frames,e.mod,e.bs,e.bsz,e.funs,e.frf,e.hok,e.bare⟩
section
variable {X:Cx}{pins:List (Addr×Obj)}{σ:St}{H:Hp}{s s':Shared}
theorem Inv.env0 (I:Inv X pins σ H s):uz X.prog X.w X.K X.mg X.base X.A X.stack s H:=
 ⟨I.ok.frames,I.ok.mod,I.bs,zx9 I.ok.bsz I.sz,I.stack,I.stkFree,I.hok,I.bare⟩
theorem Inv.after {Q:VK}{u:Value}(I:Inv X pins σ H s)(h:CE X.stack X.prog X.w H s Q u s'):EP X pins σ Q u s':=by
 obtain⟨v,H',os,bare,un,hok,r,q⟩:=h
 obtain⟨hh,g,d,t,os'⟩:=s'
 obtain rfl:os'=s.os:=os
 exact⟨v,H',I.call (h':=hh) (g':=g) (d':=d) (t':=t) (ch:=[]) un hok bare (fun b z=>absurd z (by simp)),r,q⟩
end
def zm6 (sp:Sp)(dvs:List V)(E:XK)(t:TA):TE:=fun σ H Q=>t σ H fun vs H1=>sp (vs++dvs) H1 Q E
def za5 (C:Addr)(m:Str)(sp:Sp)(dvs:List V)(E:XK)(ta:TE)(t:TA):TE:=fun σ H Q=>ta σ H fun x H1=>∃a dx fs,x=.ref a∧H1 a=some (.ins C dx fs)∧fs.lookup m=none∧
 t σ H1 fun vs H2=>sp (x::(vs++dvs)) H2 Q E
def zp7 (C:Addr)(sp:Sp)(dvs:List V)(E:XK)(t:TA):TE:=fun σ H Q=>t σ H fun vs H1=>∀x dx,H1 x=none→H1 dx=none→dx≠x→
 sp (.ref x::(vs++dvs)) (upd (upd H1 dx (.own x)) x (.ins C dx [])) (fun v H2=>v=.non∧Q (.ref x) H2) E
def Binds (K:PySem.W.Frag)(fd:FuncData)(ps:List Str)(ds:List Value):Prop:=
 ∀(s:Shared) (us:List Value),K.In s.heap→(us++ds).length=ps.length→BindsTo s fd ⟨us,[]⟩ (ps.zip (us++ds))
theorem Binds.all {K:PySem.W.Frag}{fd:FuncData}{ps:List Str}(h:∀us:List Value,us.length=ps.length→bindArgs fd ⟨us,[]⟩=pure (ps.zip us)):Binds K fd ps []:=fun s us _ hl=>by
 rw[zA3] at hl ⊢
 exact .of_eq (h us hl)
def Passes (CX:CXT)(X:Cx)(E:XK):Prop:=∀(pins:List (Addr×Obj)) (σ:St) (H:Hp) (s:Shared) (e:Value) (s':Shared),Inv X pins σ H s→CX X.stack H s E e s'→X.xe e s'
section
variable {X:Cx}{CX:CXT}{k:Nat}{f C:Addr}{fd:FuncData}{ps:List Str}{sp:Sp}{dvs:List V}{ds:List Value}{E:XK}{x m:Str}{p pos apos:Pos}{e o:Expr}{es:List Expr}{ta:TE}{t:TA}
theorem mS {pins:List (Addr×Obj)}{σ:St}{H:Hp}{s:Shared}{Q:VK}{us:List Value}{vs:List V}(F:zD X.prog X.w X.K X.mg X.base CX k f fd ps sp)(hr:zL k X.A)(hb:Binds X.K fd ps ds)(hd:Vals dvs ds)(hx:Passes CX X E)
  (I:Inv X pins σ H s) (r:Vals vs us) (h:sp (vs++dvs) H Q E):wpAny (model X.prog X.w) X.A (call (.ref f) us) (EP X pins σ Q) X.xe s:=by
 have r2:Vals (vs++dvs) (us++ds):=r.append hd
 have hl:(us++ds).length=ps.length:=by rw[←r2.length];exact F.len _ _ _ _ h
 refine zG5 (zE0 (F.run X.A X.stack s H ⟨us,[]⟩ (us++ds) (vs++dvs) Q E hr I.env0 (hb s us I.kIn hl) r2 h) fun r s' hq=>?_)
 cases r with
 |error e=>exact hx pins σ H s e s' I hq
 |ok fl=>
  cases fl with
  |ret u=>exact I.after hq
  |next=>exact False.elim hq
  |brk=>exact False.elim hq
  |cont=>exact False.elim hq
theorem zP (F:zD X.prog X.w X.K X.mg X.base CX k f fd ps sp)(hr:zL k X.A)(hg:Gl X x)(hm:X.mg x=some (.ref f))(hk:PySem.W.keepIn X.K (.ref f)=true)(hb:Binds X.K fd ps ds)(hd:Vals dvs ds)(hx:Passes CX X E)
  (ha:PA X (e::es) t) (hdb:(x == ("__debug__":Str))=false:=by decide) (he:starEach (e::es) X.env=(false,eval e X.env)::starEach es X.env:=by rfl) (hpl:(backTo pos (starEach es X.env)).any (·.1)=false:=by rfl):
  PE X (.Call (.Name x p) (e::es) [] pos) (zm6 sp dvs E t):=by
 intro pins s σ H Q I h
 refine zz9 (xK I hg hm ?_ hdb)
 refine zD3 (h₀:=X.base) I.ok.mod.kin hk (thn (ha pos pins s σ H _ I h) fun us s1 ⟨vs,H1,I1,r,q⟩=>⟨I1.kIn,?_⟩) he hpl
 exact mS F hr hb hd hx I1 r q
theorem aq {pl:Sem Bool}(he:PE X o ta)(c:Cls X.K C)(hm:Meth X.K C m f)(F:zD X.prog X.w X.K X.mg X.base CX k f fd ps sp)(hr:zL k X.A)(hb:Binds X.K fd ps ds)(hd:Vals dvs ds)(hx:Passes CX X E)(ha:PA X (e::es) t)
  (hst:starEach (e::es) X.env=(false,eval e X.env)::starEach es X.env:=by rfl) (hpl:(backTo pos (starEach es X.env)).any (·.1)=false:=by rfl)
  (ht:eval (.Call (.Attribute o m apos) (e::es) [] pos) X.env=(do
   let ov ←eval o X.env
   standAt apos.atName
   let (f,first) ←holding [ov] (getMethod ov m pl)
   callWith pos f first (backTo pos (starEach (e::es) X.env)) (backToKw pos (keywordEach [] X.env))):=by rfl):
  PE X (.Call (.Attribute o m apos) (e::es) [] pos) (za5 C m sp dvs E ta t):=by
 intro pins s σ H Q I h
 refine zD9 (pl:=pl) (thn (he pins s σ H _ I h) fun u s1 ⟨x,H1,I1,rx,a,dx,fs,ex,ea,l,q⟩=>?_) ht
 subst ex
 obtain rfl:u=Value.ref a:=rx
 refine vR I1 ea c hm l ?_
 refine zD3 (first:=[.ref a]) (h₀:=X.base) I.ok.mod.kin hm.kp (thn (ha pos pins s1 σ H1 _ I1 q) fun us s2 ⟨vs,H2,I2,r,q2⟩=>⟨I2.kIn,?_⟩) hst hpl
 exact mS (us:=.ref a::us) (vs:=.ref a::vs) F hr hb hd hx I2 (.cons rfl r) q2
theorem oF {pl:Sem Bool}(he:PE X o ta)(c:Cls X.K C)(hm:Meth X.K C m f)(F:zD X.prog X.w X.K X.mg X.base CX k f fd ps sp)(hr:zL k X.A)(hb:Binds X.K fd ps ds)(hd:Vals dvs ds)(hx:Passes CX X E)
  (ht:eval (.Call (.Attribute o m apos) [] [] pos) X.env=(do
   let ov ←eval o X.env
   standAt apos.atName
   let (f,first) ←holding [ov] (getMethod ov m pl)
   callWith pos f first (backTo pos (starEach [] X.env)) (backToKw pos (keywordEach [] X.env))):=by rfl):
  PE X (.Call (.Attribute o m apos) [] [] pos) (za5 C m sp dvs E ta zl2):=by
 intro pins s σ H Q I h
 refine zD9 (pl:=pl) (thn (he pins s σ H _ I h) fun u s1 ⟨x,H1,I1,rx,a,dx,fs,ex,ea,l,q⟩=>?_) ht
 subst ex
 obtain rfl:u=Value.ref a:=rx
 refine vR I1 ea c hm l ?_
 exact PySem.W.callWith_K0 (first:=[.ref a]) I1.kIn hm.kp (mS (us:=[.ref a]) (vs:=[.ref a]) F hr hb hd hx I1 (.cons rfl .nil) q)
structure Mk (K:PySem.W.Frag)(C f:Addr):Prop where
 makes:PySem.W.makesIn K C=true
 init:PySem.W.findIn K (.ref C) "__init__"=some (some (.ref f))
 fn:PySem.W.isFn K (.ref f)=true
 kp:PySem.W.keepIn K (.ref C)=true
theorem cj {pins:List (Addr×Obj)}{σ:St}{H:Hp}{s:Shared}{Q:VK}{us:List Value}{vs:List V}(M:Mk X.K C f)(F:zD X.prog X.w X.K X.mg X.base CX k f fd ps sp)(hr:zL (k+1) X.A)(hb:Binds X.K fd ps ds)(hd:Vals dvs ds)
  (hx:Passes CX X E) (I:Inv X pins σ H s) (r:Vals vs us)
  (h:∀x dx,H x=none→H dx=none→dx≠x→sp (.ref x::(vs++dvs)) (upd (upd H dx (.own x)) x (.ins C dx [])) (fun v H2=>v=.non∧Q (.ref x) H2) E):
  wpAny (model X.prog X.w) X.A (call (.ref C) us) (EP X pins σ Q) X.xe s:=by
 have hq:=h (s.heap.objs.size+1) s.heap.objs.size (I.hok.fresh (zA2 _)) (I.hok.fresh (zt8 _)) (zv0 (zC6 _))
 have I2:=Inv.made (C:=C) I
 have r2:Vals (V.ref (s.heap.objs.size+1)::(vs++dvs)) (Value.ref (s.heap.objs.size+1)::(us++ds)):=.cons rfl (r.append hd)
 have hl:(Value.ref (s.heap.objs.size+1)::us++ds).length=ps.length:=by
  have e:=r2.length
  rw[F.len _ _ _ _ hq] at e
  exact e.symm
 refine zG5 (gL (f:=f) I.kIn M.makes M.init (zC2.mp M.fn) (zE0 (F.run _ X.stack _ _ ⟨Value.ref (s.heap.objs.size+1)::us,[]⟩ (Value.ref (s.heap.objs.size+1)::(us++ds)) _ _ E (hr.make C us [])
  (I2.env0.make C us []) (hb _ (Value.ref (s.heap.objs.size+1)::us) I2.kIn hl) r2 hq) fun r s' hq'=>?_))
 cases r with
 |error e=>exact hx pins σ _ _ e s' I2 hq'
 |ok fl=>
  cases fl with
  |ret u=>
   obtain⟨v,H',I3,rv,ev,q3⟩:=I2.after hq'
   subst ev
   exact⟨rv,⟨V.ref (s.heap.objs.size+1),H',I3,rfl,q3⟩⟩
  |next=>exact False.elim hq'
  |brk=>exact False.elim hq'
  |cont=>exact False.elim hq'
theorem xN (M:Mk X.K C f)(F:zD X.prog X.w X.K X.mg X.base CX k f fd ps sp)(hr:zL (k+1) X.A)(hg:Gl X x)(hm:X.mg x=some (.ref C))(hb:Binds X.K fd ps ds)(hd:Vals dvs ds)(hx:Passes CX X E)
  (ha:PA X (e::es) t) (hdb:(x == ("__debug__":Str))=false:=by decide) (he:starEach (e::es) X.env=(false,eval e X.env)::starEach es X.env:=by rfl) (hpl:(backTo pos (starEach es X.env)).any (·.1)=false:=by rfl):
  PE X (.Call (.Name x p) (e::es) [] pos) (zp7 C sp dvs E t):=by
 intro pins s σ H Q I h
 refine zz9 (xK I hg hm ?_ hdb)
 refine zD3 (h₀:=X.base) I.ok.mod.kin M.kp (thn (ha pos pins s σ H _ I h) fun us s1 ⟨vs,H1,I1,r,q⟩=>⟨I1.kIn,?_⟩) he hpl
 exact cj M F hr hb hd hx I1 r q
end
section
variable {X:Cx}{CX:CXT}{k:Nat}{f C:Addr}{fd:FuncData}{ps ks:List Str}{sp:Sp}{E:XK}{x m:Str}{p pos apos kpos:Pos}{e o:Expr}{es:List Expr}{kws:List Keyword}{te ta:TE}{t tk:TA}{nm:Option Str}
variable {g:List Value→List Value→List Value}{gV:List V→List V→List V}
end
structure zp (N P:List Str)(sc:Scope):Prop where
 kind:sc.kind=.function
 co:sc.isCoroutine=false
 gen:sc.isGenerator=false
 nd:N.Nodup
 pre:N.take P.length=P
 par:∀x∈P,sc.names.lookup x=some .local∨sc.names.lookup x=some .cell
 nofree:∀y∈sc.names,y.2≠.free
theorem rD {kindOf:Str→Option NameKind}{x:Str}:∀{binds:List (Str×Value)} {m:Str→Option Value},(∀v,(x,v)∉binds)→bindL kindOf binds m x=m x
 |[],_,_=>rfl
 |(n,v)::r,m,h=>by
  unfold bindL
  rw[rD fun w hw=>h w (zu1 _ hw)]
  split
  ·have:x≠n:=by rintro rfl;exact h v zu8
   simp[this]
  ·rfl
theorem rO {kindOf:Str→Option NameKind}{x:Str}:∀{binds:List (Str×Value)} {m:Str→Option Value},(∀v,(x,v)∉binds)→bindC kindOf binds m x=m x
 |[],_,_=>rfl
 |(n,v)::r,m,h=>by
  unfold bindC
  rw[rO fun w hw=>h w (zu1 _ hw)]
  split
  ·rfl
  ·have:x≠n:=by rintro rfl;exact h v zu8
   simp[this]
theorem rT {kindOf:Str→Option NameKind}{x:Str}{v:Value}:∀{P:List Str} {vs:List Value} {i:Nat} {m:Str→Option Value},P.Nodup→P[i]?=some x→vs[i]?=some v→kindOf x=some .local→
  bindL kindOf (P.zip vs) m x=some v
 |[],_,_,_,_,h,_,_=>by simp at h
 |_::_,[],_,_,_,_,h,_=>by simp at h
 |p::P,w::vs,0,m,nd,h1,h2,hk=>by
  simp at h1 h2;subst h1;subst h2
  show bindL kindOf ((p,w)::P.zip vs) m p=_
  unfold bindL
  rw[rD fun v hv=>(zH9.mp nd).1 (List.of_mem_zip hv).1,if_pos hk]
  simp
 |p::P,w::vs,i+1,m,nd,h1,h2,hk=>by
  show bindL kindOf ((p,w)::P.zip vs) m x=_
  unfold bindL
  exact rT (i:=i) (zH9.mp nd).2 (by simpa using h1) (by simpa using h2) hk
theorem qh {kindOf:Str→Option NameKind}{x:Str}{v:Value}:∀{P:List Str} {vs:List Value} {i:Nat} {m:Str→Option Value},P.Nodup→P[i]?=some x→vs[i]?=some v→kindOf x≠some .local→
  bindC kindOf (P.zip vs) m x=some v
 |[],_,_,_,_,h,_,_=>by simp at h
 |_::_,[],_,_,_,_,h,_=>by simp at h
 |p::P,w::vs,0,m,nd,h1,h2,hk=>by
  simp at h1 h2;subst h1;subst h2
  show bindC kindOf ((p,w)::P.zip vs) m p=_
  unfold bindC
  rw[rO fun v hv=>(zH9.mp nd).1 (List.of_mem_zip hv).1,if_neg hk]
  simp
 |p::P,w::vs,i+1,m,nd,h1,h2,hk=>by
  show bindC kindOf ((p,w)::P.zip vs) m x=_
  unfold bindC
  exact qh (i:=i) (zH9.mp nd).2 (by simpa using h1) (by simpa using h2) hk
def start (N:List Str)(vs:List V):St:=vs.map some++List.replicate (N.length-vs.length) none
def xB (CX:CXT)(P:Program)(w:World)(K:PySem.W.Frag)(mg:Str→Option Value)(base:Heap)(N:List Str)(qual:Str)(scope:Scope)(f:Addr)(cd:Value)(A:Around)(outer:List Env)(s:Shared)(H:Hp)(E:XK):Cx where
 prog:=P
 w:=w
 K:=K
 mg:=mg
 base:=base
 A:=A.deeper (envOfC qual scope s.heap.objs.size f cd)
 N:=N
 s₀:=s
 H₀:=H
 env:=envOfC qual scope s.heap.objs.size f cd
 outer:=outer
 stack:=envOfC qual scope s.heap.objs.size f cd::outer
 ex:=[]
 calm:=true
 fn:=fun _=>true
 pn:=[]
 xe:=fun e s'=>wpAny (model P w) (A.deeper (envOfC qual scope s.heap.objs.size f cd)) (leaving (envOfC qual scope s.heap.objs.size f cd) e) (fun _ s''=>CX outer H s E e s'') (fun e' s''=>CX outer H s E e' s'') s'
theorem oq {sc:Scope}{n:Nat}{x:Str}(h:sc.names.lookup x=some .cell):∃c,(cellsFrom n sc.names []).lookup x=some c:=by
 have q:=PySem.W.cellsFrom_some sc.names n [] (.inl h)
 exact Option.isSome_iff_exists.mp q
theorem iy {CX:CXT}{P:Program}{w:World}{K:PySem.W.Frag}{mg:Str→Option Value}{base:Heap}{N ps:List Str}{qual:Str}{scope:Scope}{f:Addr}{cd:Value}{A:Around}{outer:List Env}{s s1:Shared}{H:Hp}{E:XK}{us:List Value}{vs:List V}
  (S:zp N ps scope) (hd:A.handled=none) (e0:uz P w K mg base A outer s H) (hl:vs.length=ps.length) (r:Vals vs us)
  (x:InCallC s s.heap.objs.size (bindL (envOfC qual scope s.heap.objs.size f cd).kindOf (ps.zip us) fun _=>none) (cellsFrom (s.heap.objs.size+1) scope.names []) (bindC (envOfC qual scope s.heap.objs.size f cd).kindOf (ps.zip us) fun _=>none) s1):
  Inv (xB CX P w K mg base N qual scope f cd A outer s H E) [] (start N vs) H s1:=by
 have hpl:ps.length≤N.length:=by have:=congrArg List.length S.pre;rw[zz7] at this;omega
 obtain⟨h1,tk,rfl,hk⟩:=x.done
 have noA:∀b:Addr,b∉(xB CX P w K mg base N qual scope f cd A outer s H E).ex:=fun b z=>absurd (show b∈([]:List Addr) from z) (by simp)
 refine⟨⟨e0.mod,S.kind,rfl,rfl,zt8 _,fun y z c h1 h2=>?_,fun y hy=>?_,fun y c _ h=>?_,fun _=>hd,Around.frames_deeper e0.frames,.inr ⟨rfl,rfl⟩,fun b z=>absurd z (noA b),e0.bs,e0.bsz,fun b _ _=>noA b,fun b z=>absurd z (noA b),e0.funs,e0.frf⟩,
  rfl,e0.bare,Un.kept hk,⟨_,x.toInCall.ns,fun i y v h1 h2 h3=>?_⟩,fun y c h=>⟨_,x.cell y c h⟩,e0.hok.fresh (zt8 _),fun y c h=>?_,fun p hp=>absurd (show p∈([]:List (Addr×Obj)) from hp) (by simp),e0.hok.kept hk,?_⟩
 ·exact name_of_addr x.apart (zx8 h1) (zx8 h2)
 ·have hy:scope.names.lookup y=some .cell∨scope.names.lookup y=some .free:=hy
  rcases hy with hy|hy
  ·exact oq hy
  ·exact absurd rfl (S.nofree _ (zx8 hy))
 ·exact zy6 (x.above y c (zx8 h))
 ·have hi:i<vs.length:=by
   unfold start at h2
   by_cases hi:i<vs.length
   ·exact hi
   ·rw[zw0 (by simpa using hi)] at h2
    rw[zy8] at h2
    split at h2<;>cases h2
  have ha:vs[i]?=some v:=by
   unfold start at h2
   rw[zv3 (by simpa using hi),zu7] at h2
   cases e:vs[i]? with
   |none=>rw[e] at h2;cases h2
   |some a=>rw[e] at h2;cases h2;rfl
  obtain⟨u,hu,rv⟩:=r.get ha
  have hp:ps[i]?=some y:=by
   rw[←S.pre,List.getElem?_take_of_lt (by omega)];exact h1
  have ndP:ps.Nodup:=by rw[←S.pre];exact S.nd.sublist (List.take_sublist _ _)
  refine⟨u,rv,?_⟩
  rcases S.par y (zy0 hp) with k|k
  ·exact .inl ⟨k,rT ndP hp hu k⟩
  ·obtain⟨c,e⟩:=oq (n:=s.heap.objs.size+1) k
   refine .inr ⟨.inl k,c,e,?_⟩
   have q:=x.cell y c e
   rw[qh ndP hp hu (by show scope.names.lookup y≠_;rw[k];decide)] at q
   exact q
 ·exact e0.hok.fresh (zy6 (x.above y c (zx8 h)))
 ·unfold start
  show _=N.length
  rw[zv4,zt1,zH4]
  omega
theorem kH {CX:CXT}{P:Program}{w:World}{K:PySem.W.Frag}{mg:Str→Option Value}{base:Heap}{k:Nat}{f:Addr}{name qual:Str}{params:Arguments}{body:List Stmt}{scope:Scope}{dV kV doc pm cdv ct oc:Value}{an od:Option Addr}
  {osl:Array (Option Value)} {N ps:List Str} {sp:Sp} (lk:K.lookup f=some ⟨oc,od,.func (PySem.W.fnOf name qual params body scope dV kV doc pm an cdv ct),osl⟩) (hcd:PySem.W.codeIn K cdv qual=true) (S:zp N ps scope)
  (len:∀vs H Q E,sp vs H Q E→vs.length=ps.length)
  (hbody:∀(A:Around) (outer:List Env) (s:Shared) (H:Hp) (vs:List V) (Q:VK) (E:XK),zL k (A.deeper (envOfC qual scope s.heap.objs.size f cdv))→sp vs H Q E→
   ∃t,PSs (xB CX P w K mg base N qual scope f cdv A outer s H E) body t∧t {nx:=fun _ H'=>Q .non H',rt:=Q} (start N vs) H):
  zD P w K mg base CX (k+1) f (PySem.W.fnOf name qual params body scope dV kV doc pm an cdv ct) ps sp:=by
 refine⟨len,fun A outer s H args us vs Q E hr e0 hb r hsp=>?_⟩
 have hl:=len _ _ _ _ hsp
 have KX:K.In s.heap:=e0.mod.kin.keeps fun b o e=>(e0.bs b o e).1
 have lim:s.heap.NoLimit:=e0.mod.nolimit.keeps fun b o e=>(e0.bs b o e).1
 have hkind:∀y∈ps.zip us,scope.names.lookup y.1=some .local∨(scope.names.lookup y.1=some .cell∧((cellsFrom (s.heap.objs.size+1) scope.names []).lookup y.1).isSome=true):=fun⟨n,v⟩ hy=>by
  rcases S.par n (List.of_mem_zip hy).1 with q|q
  ·exact .inl q
  ·exact .inr ⟨q,PySem.W.cellsFrom_some _ _ _ (.inl q)⟩
 refine codeAny_call_function hr.depth (KX _ _ lk) rfl S.co S.gen rfl (PySem.W.codeRec_of KX hcd) (hb _ _ _ _ ?_)
 refine wpAny_newFunctionEnv_cells S.kind hkind fun env he s1 x=>?_
 subst he
 refine⟨lim.keeps x.toInCall.keep,codeAny_func ?_⟩
 obtain⟨t,ht,hq⟩:=hbody A outer s H vs Q E (hr.deeper _) hsp
 have I:Inv (xB CX P w K mg base N qual scope f cdv A outer s H E) [] (start N vs) H s1:=iy S hr.hd e0 hl r x
 refine zw2 (ht [] s1 (start N vs) H _ I hq) (fun fl s' hs=>?_) fun e s' hs=>hs
 have fin:∀{σ':St} {H':Hp} {v:V} {u:Value},Inv (xB CX P w K mg base N qual scope f cdv A outer s H E) [] σ' H' s'→RelV v u→Q v H'→CE outer P w H s Q u s':=
  fun {σ' H' v u} J rv q=>⟨v,H',J.os,J.bare,J.base,J.hok,rv,q⟩
 cases fl with
 |ret u=>
  obtain⟨v,σ',H',J,rv,q⟩:=hs
  exact fin J rv q
 |next=>
  obtain⟨σ',H',J,q⟩:=hs
  exact fin (v:=V.non) (u:=Value.none) J rfl q
 |brk=>
  obtain⟨_,_,_,q⟩:=hs
  exact False.elim q
 |cont=>
  obtain⟨_,_,_,q⟩:=hs
  exact False.elim q
section
variable {X:Cx}{x:Str}{p pos:Pos}{e:Expr}{es:List Expr}{t:TA}{id T:String}{r:List V→Hp→VK→Prop}
def tCB (r:List V→Hp→VK→Prop)(t:TA):TE:=fun σ H Q=>t σ H fun vs H1=>r vs H1 Q
theorem yj (hc:wL X (.builtin id) r)(hg:Gl X x)(hm:X.mg x=none)(hv:bootBuiltins x=some (.builtin id))(ha:PA X (e::es) t)(hn:x≠"__name__":=by decide)(hdb:(x == ("__debug__":Str))=false:=by decide)
  (he:starEach (e::es) X.env=(false,eval e X.env)::starEach es X.env:=by rfl) (hpl:(backTo pos (starEach es X.env)).any (·.1)=false:=by rfl):PE X (.Call (.Name x p) (e::es) [] pos) (tCB r t):=by
 intro pins s σ H Q I h
 refine zz9 (xx I hg hm hv ?_ hn hdb)
 exact PyProof.Rows.callWith_builtin1 (thn (ha pos pins s σ H _ I h) fun us s1 ⟨vs,H1,I1,r1,q1⟩=>hc pins s1 σ H1 vs us Q I1 r1 q1) he hpl
theorem vF (hc:wL X (.type T) r)(hg:Gl X x)(hm:X.mg x=none)(hv:bootBuiltins x=some (.type T))(ha:PA X (e::es) t)(hn:x≠"__name__":=by decide)(hdb:(x == ("__debug__":Str))=false:=by decide)
  (he:starEach (e::es) X.env=(false,eval e X.env)::starEach es X.env:=by rfl) (hpl:(backTo pos (starEach es X.env)).any (·.1)=false:=by rfl):PE X (.Call (.Name x p) (e::es) [] pos) (tCB r t):=by
 intro pins s σ H Q I h
 refine zz9 (xx I hg hm hv ?_ hn hdb)
 exact zx3 (thn (ha pos pins s σ H _ I h) fun us s1 ⟨vs,H1,I1,r1,q1⟩=>hc pins s1 σ H1 vs us Q I1 r1 q1) he hpl
end
end L2
namespace HT
open PySem PyProof.Rows
section
open PySem.SeqAt
open PySem.AutoSeq1 (wpAny_loadPart')
open PySem.MeetsSeq PySem.MeetsSeq2 PySem.MeetsSeq3
end
section
variable {prog:Program}{w:World}{A:Around}{E:Value→Shared→Prop}{s:Shared}
def sIx (n d:Nat):Option Int→Nat
 |none=>d
 |some v=>if v<0 then (v+(n:Int)).toNat else min v.toNat n
end
end HT
namespace L2
open PySem PySem.Spec PyProof.Rows
abbrev TO :=St→Hp→(Option Int→Hp→Prop)→Prop
def PO (X:Cx)(e:Option Expr)(t:TO):Prop:=
 ∀(pins:List (Addr×Obj)) (s:Shared) (σ:St) (H:Hp) (Q:Option Int→Hp→Prop),Inv X pins σ H s→t σ H Q→
  wpAny (model X.prog X.w) X.A (evalPart e X.env) (fun u s'=>∃o H',Inv X pins σ H' s'∧IsPart u o∧Q o H') X.xe s
def bo :TO:=fun _ H Q=>Q none H
def zm5 (t:TE):TO:=fun σ H Q=>t σ H fun x H1=>∃i,x=.int i∧Q (some i) H1
section
variable {X:Cx}{e:Expr}{te:TE}{lo hi:Option Expr}{tl th:TO}{pos p2:Pos}
theorem lQ :PO X none bo:=by
 intro pins s σ H Q I h
 rw[evalPart_none]
 exact zt2 ⟨none,H,I,.none,h⟩
theorem kr (h:PE X e te):PO X (some e) (zm5 te):=by
 intro pins s σ H Q I hw
 rw[evalPart_some]
 refine thn (h pins s σ H _ I hw) fun u s1 ⟨x,H1,I1,r1,q1⟩=>?_
 obtain⟨i,rfl,q⟩:=q1
 obtain⟨t,rfl⟩:=r1
 exact⟨some i,H1,I1,.int i t,q⟩
def SlR (X:Cx)(r:V→Option Int→Option Int→Hp→VK→Prop):Prop:=
 ∀(pins:List (Addr×Obj)) (s:Shared) (σ:St) (H:Hp) (x:V) (v vl vu:Value) (lo hi:Option Int) (sl:Addr) (Q:VK),Inv X pins σ H s→RelV x v→s.heap.IsSliceOf sl vl vu .none→IsPart vl lo→IsPart vu hi→r x lo hi H Q→
  ∃T id,typeLookup (.type T) "__getitem__"=pure (some (.builtin id))∧s.TypeIs v T∧wpAny (model X.prog X.w) X.A (getItem v (.ref sl)) (EP X pins σ Q) X.xe s
def tSl (r:V→Option Int→Option Int→Hp→VK→Prop)(te:TE)(tl th:TO):TE:=fun σ H Q=>te σ H fun x H1=>tl σ H1 fun l H2=>th σ H2 fun u H3=>r x l u H3 Q
theorem pL {r:V→Option Int→Option Int→Hp→VK→Prop}(hr:SlR X r)(he:PE X e te)(hl:PO X lo tl)(hu:PO X hi th):PE X (.Subscript e (.Slice lo hi none p2) pos) (tSl r te tl th):=by
 intro pins s σ H Q I h
 refine Subscript_ (thn (he pins s σ H _ I h) fun v s1 ⟨x,H1,I1,r1,q1⟩=>?_)
 refine wpAny_Slice (thn (hl pins s1 σ H1 _ I1 q1) fun vl s2 ⟨l,H2,I2,pl,q2⟩=>thn (hu pins s2 σ H2 _ I2 q2) fun vu s3 ⟨u,H3,I3,pu,q3⟩=>?_)
 rw[evalPart_none]
 refine zt2 ?_
 have I4:Inv X pins σ H3 {s3 with heap:=s3.heap.push {cls:=.type "slice",data:=.fields #[vl,vu,.none]}}:=I3.kept (t':=s3.toks) fun b ob q=>zt0 _ q
 obtain⟨T,id,hT,ht,hg⟩:=hr pins {s3 with heap:=s3.heap.push {cls:=.type "slice",data:=.fields #[vl,vu,.none]}} σ H3 x v vl vu l u s3.heap.objs.size Q I4 r1 (Heap.IsSliceOf.new ..) pl pu q3
 show wpAny (model X.prog X.w) X.A (subscriptTail e (.Slice lo hi none p2) v (.ref s3.heap.objs.size)) (EP X pins σ Q) X.xe {s3 with heap:=s3.heap.push {cls:=.type "slice",data:=.fields #[vl,vu,.none]}}
 exact tail_any (ops:=[.ref s3.heap.objs.size,v]) ht hT hg (by with_unfolding_all rfl)
def jE (xs:List V)(lo hi:Option Int):List V:=(xs.drop (HT.sIx xs.length 0 lo)).take (HT.sIx xs.length xs.length hi-HT.sIx xs.length 0 lo)
theorem nr (xs:List V)(lo hi:Option Int):(jE xs lo hi).length≤xs.length:=by
 unfold jE
 rw[zz7,List.length_drop]
 omega
end
def ixN (n:Nat)(i:Int):Option Nat:=if 0≤i then (if i<n then some i.toNat else none) else if -(n:Int)≤i then some (i+n).toNat else none
def atI {α:Type}(xs:List α)(i:Int):Option α:=(ixN xs.length i).bind fun j=>xs[j]?
theorem qv {n:Nat}{i:Int}{j:Nat}(h:ixN n i=some j):seqIndex? i n=some j∧j<n∧-(n:Int)≤i∧i<n:=by
 unfold ixN at h
 by_cases h0:0≤i
 ·rw[if_pos h0] at h
  by_cases h1:i<n
  ·rw[if_pos h1] at h
   have e:i.toNat=j:=zv8 h
   exact⟨by rw[seqIndex_of h0 h1,e],by omega,by omega,h1⟩
  ·rw[if_neg h1] at h;cases h
 ·rw[if_neg h0] at h
  by_cases h1:-(n:Int)≤i
  ·rw[if_pos h1] at h
   have e:(i+n).toNat=j:=zv8 h
   exact⟨by rw[seqIndex_neg (by omega) h1,e],by omega,h1,by omega⟩
  ·rw[if_neg h1] at h;cases h
theorem qo {α:Type}{xs:List α}{i:Int}{v:α}(h:atI xs i=some v):∃j,seqIndex? i xs.length=some j∧xs[j]?=some v∧j<xs.length∧-(xs.length:Int)≤i∧i<xs.length:=by
 unfold atI at h
 cases e:ixN xs.length i with
 |none=>rw[e] at h;cases h
 |some j=>
  rw[e] at h
  obtain⟨h1,h2,h3,h4⟩:=qv e
  exact⟨j,h1,h,h2,h3,h4⟩
theorem xr {α:Type}{xs:List α}{j:Nat}{v:α}(h:xs[j]?=some v):atI xs (j:Int)=some v:=by
 have hj:j<xs.length:=(zt5.mp h).1
 have e:ixN xs.length (j:Int)=some j:=by
  unfold ixN
  rw[if_pos (by omega),if_pos (by omega)];simp
 unfold atI;rw[e];exact h
def uu (b:Expr):Prop:=∀o i,subscripted b false o i=operate [o,i] (getItem o i)
def IxR (X:Cx)(r:R2):Prop:=
 ∀(value slice:Expr) (pins:List (Addr×Obj)) (s:Shared) (σ:St) (H:Hp) (x y:V) (v u:Value) (Q:VK),Inv X pins σ H s→RelV x v→RelV y u→r x y H Q→
  subscripted slice false v u=operate [v,u] (getItem v u)→wpAny (model X.prog X.w) X.A (subscriptTail value slice v u) (EP X pins σ Q) X.xe s
def MtR (X:Cx)(id:String)(r:V→List V→Hp→VK→Prop):Prop:=
 ∀(pins:List (Addr×Obj)) (s:Shared) (σ:St) (H:Hp) (x:V) (xs:List V) (v:Value) (us:List Value) (Q:VK),Inv X pins σ H s→RelV x v→Vals xs us→r x xs H Q→
  wpAny (model X.prog X.w) X.A (call (.builtin id) (v::us)) (EP X pins σ Q) X.xe s
section
variable {X:Cx}{a b:Expr}{ta tb:TE}{pos:Pos}
theorem IxR.or {r r':R2}(h:IxR X r)(h':IxR X r'):IxR X (fun x y H Q=>r x y H Q∨r' x y H Q):=by
 intro value slice pins s σ H x y v u Q I rx ry q hs
 rcases q with q|q
 ·exact h value slice pins s σ H x y v u Q I rx ry q hs
 ·exact h' value slice pins s σ H x y v u Q I rx ry q hs
theorem zM {r:R2}(hr:IxR X r)(ha:PE X a ta)(hb:PE X b tb)(hs:uu b):PE X (.Subscript a b pos) (tOp r ta tb):=by
 intro pins s σ H Q I h
 exact Subscript_ (zf6 ha hb I h fun v u s2 x y H2 I2 rx ry q=>hr a b pins s2 σ H2 x y v u Q I2 rx ry q (hs _ _))
def zd0 (K:PySem.W.Frag):R2:=fun x y H Q=>∃p xs i v,x=.ref p∧y=.int i∧SqL K H p xs∧atI xs i=some v∧Q v H
def zb1 (K:PySem.W.Frag):R2:=fun x y H Q=>∃p xs i v,x=.ref p∧y=.int i∧SqT K H p xs∧atI xs i=some v∧Q v H
def zl5 :R2:=fun x y H Q=>∃z i c,x=.str z∧y=.int i∧z.length≤sizeLine∧atI z.cps.toList i=some c∧Q (.str ⟨#[c]⟩) H
theorem zU :IxR X (zd0 X.K):=by
 intro value slice pins s σ H x y v u Q I rx ry h hs
 obtain⟨p,xs,i,z,rfl,rfl,hq,he,q⟩:=h
 cases rx
 obtain⟨t,rfl⟩:=ry
 obtain⟨its,r,pl,hz⟩:=I.list hq
 obtain⟨j,h1,h2,h3,h4,h5⟩:=qo he
 obtain⟨w,ew,rw'⟩:=r.get h2
 have hl:=r.length
 have hn:=sL
 have fin:EP X pins σ Q w s:=⟨z,H,I,rw',q⟩
 by_cases h0:0≤i
 ·have hj:i.toNat=j:=by
   rw[seqIndex_of h0 h5] at h1
   exact zv8 h1
  exact item_listR pl.isList h0 (by omega) (by rw[hj];simpa using ew) fin hs
 ·have hj:(i+(its.toArray.size:Int)).toNat=j:=by
   rw[seqIndex_neg (by omega) h4] at h1
   rw[zu2,←hl]
   exact zv8 h1
  exact subscriptTail_builtinR (x:=w) pl.isList.typeIs slot_list_getitem.lookup
   (wpAny_getItem_list_neg (Q:=fun r s'=>r=w∧EP X pins σ Q r s') pl.isList (by omega) (by rw[zu2]<;>omega) (by omega) (by rw[hj];simpa using ew) ⟨rfl,fin⟩) hs
theorem yz :IxR X (zb1 X.K):=by
 intro value slice pins s σ H x y v u Q I rx ry h hs
 obtain⟨p,xs,i,z,rfl,rfl,hq,he,q⟩:=h
 cases rx
 obtain⟨t,rfl⟩:=ry
 obtain⟨its,r,pl,hz⟩:=I.tuple hq
 obtain⟨j,h1,h2,h3,h4,h5⟩:=qo he
 obtain⟨w,ew,rw'⟩:=r.get h2
 have hl:=r.length
 have hn:=sL
 have fin:EP X pins σ Q w s:=⟨z,H,I,rw',q⟩
 exact subscriptTail_builtinR (x:=w) pl.typeIs slot_tuple_getitem.lookup
  (getItem_tuple (j:=j) (Q:=fun r s'=>r=w∧EP X pins σ Q r s') pl (by omega) (by omega) (by rw[zu2,←hl];exact h1) (by simpa using ew) ⟨rfl,fin⟩) hs
theorem zi9 :IxR X zl5:=by
 intro value slice pins s σ H x y v u Q I rx ry h hs
 obtain⟨z,i,c,rfl,rfl,hz,he,q⟩:=h
 obtain⟨t,rfl⟩:=rx
 obtain⟨t',rfl⟩:=ry
 obtain⟨j,h1,h2,h3,h4,h5⟩:=qo he
 have hl:z.cps.toList.length=z.length:=by simp[Str.length]
 rw[hl] at h1 h4 h5
 have hn:=sL
 exact tail_any (typeIs_str s z t) slot_str_getitem.lookup (getItem_str (c:=c) (by
  have e1:decide (i < -(2 ^ 63:Int))=false:=zy4 (by omega)
  have e2:decide (i≥2 ^ 63)=false:=zy4 (by omega)
  rw[e1,e2,Bool.or_false]) (by rw[h1];simpa using h2) ⟨.str ⟨#[c]⟩,H,I.tok _,⟨_,rfl⟩,q⟩) hs
def rIx (K:PySem.W.Frag):R2:=fun x y H Q=>zd0 K x y H Q∨zb1 K x y H Q∨zl5 x y H Q
theorem zb2 :IxR X (rIx X.K):=zU.or (yz.or zi9)
theorem me (its:List Value)(n j:Nat)(u:Value):Obj.mapSeq (·.setIfInBounds j u) {cls:=.type "list",data:=.seq its.toArray n}={cls:=.type "list",data:=.seq (its.set j u).toArray n}:=by
 simp[Obj.mapSeq]
theorem Inv.lst {pins:List (Addr×Obj)}{σ:St}{H:Hp}{s:Shared}{p:Addr}{xs:List V}(I:Inv X pins σ H s)(h:H p=some (.lst xs)):
  ∃(its:List Value) (n:Nat),Vals xs its∧s.heap.get? p=some {cls:=.type "list",data:=.seq its.toArray n}∧xs.length≤sizeLine:=by
 obtain⟨z,its,n,r,e⟩:=I.hok p _ h
 exact⟨its,n,r,e,z⟩
theorem Inv.lstUpd {pins:List (Addr×Obj)}{σ:St}{H:Hp}{s:Shared}{p:Addr}{xs ys:List V}{its its':List Value}{n n':Nat}{f:Obj→Obj}(I:Inv X pins σ H s)(h:H p=some (.lst xs))
  (ho:s.heap.get? p=some {cls:=.type "list",data:=.seq its.toArray n}) (hf:f {cls:=.type "list",data:=.seq its.toArray n}={cls:=.type "list",data:=.seq its'.toArray n'}) (r:Vals ys its') (hz:ys.length≤sizeLine) (t:Nat):
  Inv X pins σ (upd H p (.lst ys)) {s with heap:=s.heap.update p f,toks:=t}:=by
 have e:(s.heap.update p f).get? p=some {cls:=.type "list",data:=.seq its'.toArray n'}:=by
  rw[zy2 f ho (by rw[hf]<;>rfl),hf]
 refine I.write (x:=p) (e:=p) (by rw[h];trivial) (.inl rfl) (fun b u hb q=>(zu4 _ _ (zw4 hb)).trans q) ⟨_,e⟩ ?_
 exact⟨hz,its',n',r,e⟩
def aO :V→V→V→Hp→(Hp→Prop)→Prop:=fun o i v H Q=>∃p xs k j,o=.ref p∧i=.int k∧H p=some (.lst xs)∧ixN xs.length k=some j∧Q (upd H p (.lst (xs.set j v)))
theorem set_list :zp1 X aO:=by
 intro pins s σ H o i v ov iv u Q I ro ri rv h
 obtain⟨p,xs,k,j,rfl,rfl,hp,hj,q⟩:=h
 cases ro
 obtain⟨t,rfl⟩:=ri
 obtain⟨its,n,r,ho,hz⟩:=I.lst hp
 obtain⟨h1,h2,h3,h4⟩:=qv hj
 have hl:=r.length
 have hn:=sL
 have I':Inv X pins σ (upd H p (.lst (xs.set j v))) {s with heap:=s.heap.update p (Obj.mapSeq (·.setIfInBounds j u))}:=
  I.lstUpd hp ho (me its n j u) (r.set rv j) (by rw[zx7];exact hz) s.toks
 by_cases h0:0≤k
 ·have hk:k.toNat=j:=by
   rw[seqIndex_of h0 h4] at h1
   exact zv8 h1
  exact PySem.W.ki_setAt ho h0 (by omega) (by rw[zu2,←hl];exact h4) (by rw[hk];exact⟨_,I',q⟩)
 ·have hk:(k+(its.toArray.size:Int)).toNat=j:=by
   rw[seqIndex_neg (by omega) h3] at h1
   rw[zu2,←hl]
   exact zv8 h1
  exact PySem.W.ki_setBack ho (by omega) (by rw[zu2,←hl];exact h3) (by omega) (by rw[hk];exact⟨_,I',q⟩)
theorem qk (lo hi:Option Int)(n:Nat):(sliceBounds lo hi none n).1=((HT.sIx n 0 lo:Nat):Int)∧(sliceBounds lo hi none n).2.1=((HT.sIx n n hi:Nat):Int)∧(sliceBounds lo hi none n).2.2=1:=by
 refine⟨?_,?_,rfl⟩
 ·cases lo with
  |none=>simp[sliceBounds,HT.sIx]
  |some i=>
   simp only[sliceBounds,HT.sIx,Option.getD_none,show (1:Int) > 0 by decide,zF2]
   by_cases h:i<0
   ·simp only[h,zF2]<;>omega
   ·simp only[h,zG2]<;>omega
 ·cases hi with
  |none=>simp[sliceBounds,HT.sIx]
  |some i=>
   simp only[sliceBounds,HT.sIx,Option.getD_none,show (1:Int) > 0 by decide,zF2]
   by_cases h:i<0
   ·simp only[h,zF2]<;>omega
   ·simp only[h,zG2]<;>omega
theorem rp (its:List Value)(lo hi:Option Int):slicePick its.toArray lo hi none=((its.drop (HT.sIx its.length 0 lo)).take (HT.sIx its.length its.length hi-HT.sIx its.length 0 lo)).toArray:=by
 obtain⟨h1,h2,h3⟩:=qk lo hi its.toArray.size
 unfold slicePick
 rw[h1,h2,h3]
 simp only[sliceRange_one,pick_run,zu2]<;>rfl
def zr7 (K:PySem.W.Frag):V→Option Int→Option Int→Hp→VK→Prop:=fun x lo hi H Q=>∃a xs,x=.ref a∧SqL K H a xs∧∀p,H p=none→Q (.ref p) (upd H p (.lst (jE xs lo hi)))
theorem kX :SlR X (zr7 X.K):=by
 intro pins s σ H x v vl vu lo hi sl Q I rx hs pl pu h
 obtain⟨a,xs,rfl,hx,q⟩:=h
 cases rx
 obtain⟨its,r,ht,hz⟩:=I.list hx
 have hlen:=r.length
 refine⟨"list",_,slot_list_getitem.lookup,ht.isList.typeIs,?_⟩
 refine wpAny_getItem_list_slice ht.isList hs pl pu .none (by simp) ?_ (by rw[zu2]<;>omega)
 rw[rp,←hlen]
 refine⟨.ref s.heap.objs.size,_,I.laid (t':=s.toks) (o:=.lst (jE xs lo hi)) (fun b ob q=>zt0 _ q) (zt8 _) ?_,rfl,q _ (I.hok.fresh (zt8 _))⟩
 exact⟨zx9 (nr xs lo hi) hz,_,0,(r.drop (HT.sIx xs.length 0 lo)).take (HT.sIx xs.length xs.length hi-HT.sIx xs.length 0 lo),zu0 _ rfl⟩
def vL :V→Bool
 |.non=>true
 |.bl _=>true
 |.int _=>true
 |.str _=>true
 |_=>false
def eqV :V→V→Bool
 |.non,.non=>true
 |.bl a,.bl b=>a == b
 |.bl a,.int b=>(if a then 1 else 0)==b
 |.int a,.bl b=>a == (if b then 1 else 0)
 |.int a,.int b=>a == b
 |.str a,.str b=>a == b
 |_,_=>false
theorem zi6 {A:Around}{s:Shared}{y x:V}{u v:Value}(ry:RelV y u)(rx:RelV x v)(fy:vL y=true)(fx:vL x=true):SeqAt.EqAt A s u v (eqV y x):=by
 cases y with
 |non=>
  cases ry
  cases x with
  |non=>cases rx;exact SeqAt.EqAt.same _
  |bl b=>cases rx;exact SeqAt.EqAt.none_bool b
  |int b=>obtain⟨t,rfl⟩:=rx;exact SeqAt.EqAt.none_int b t
  |str b=>obtain⟨t,rfl⟩:=rx;exact SeqAt.EqAt.none_str b t
  |_=>exact absurd (show false=true from fx) zu3
 |bl a=>
  cases ry
  cases x with
  |non=>cases rx;exact SeqAt.EqAt.bool_none a
  |bl b=>cases rx;exact SeqAt.EqAt.bool_bool a b
  |int b=>obtain⟨t,rfl⟩:=rx;exact SeqAt.EqAt.bool_int a b t
  |str b=>obtain⟨t,rfl⟩:=rx;exact SeqAt.EqAt.bool_str a b t
  |_=>exact absurd (show false=true from fx) zu3
 |int a=>
  obtain⟨t',rfl⟩:=ry
  cases x with
  |non=>cases rx;exact SeqAt.EqAt.int_none a t'
  |bl b=>cases rx;exact SeqAt.EqAt.int_bool a t' b
  |int b=>obtain⟨t,rfl⟩:=rx;exact SeqAt.EqAt.int_int a t' b t
  |str b=>obtain⟨t,rfl⟩:=rx;exact SeqAt.EqAt.int_str a t' b t
  |_=>exact absurd (show false=true from fx) zu3
 |str a=>
  obtain⟨t',rfl⟩:=ry
  cases x with
  |non=>cases rx;exact SeqAt.EqAt.str_none a t'
  |bl b=>cases rx;exact SeqAt.EqAt.str_bool a t' b
  |int b=>obtain⟨t,rfl⟩:=rx;exact SeqAt.EqAt.str_int a t' b t
  |str b=>obtain⟨t,rfl⟩:=rx;exact SeqAt.EqAt.str_str a t' b t
  |_=>exact absurd (show false=true from fx) zu3
 |_=>exact absurd (show false=true from fy) zu3
def eqU (x:V)(u:Value):Bool:=match u with
 |.none=>eqV .non x
 |.bool b=>eqV (.bl b) x
 |.int i _=>eqV (.int i) x
 |.str z _=>eqV (.str z) x
 |_=>false
theorem cm {x y:V}{u:Value}(r:RelV y u)(f:vL y=true):eqU x u=eqV y x:=by
 cases y with
 |non=>cases r;rfl
 |bl b=>cases r;rfl
 |int i=>obtain⟨t,rfl⟩:=r;rfl
 |str z=>obtain⟨t,rfl⟩:=r;rfl
 |_=>exact absurd (show false=true from f) zu3
theorem pA {x:V}:∀{xs:List V} {us:List Value},Vals xs us→xs.all vL=true→us.any (eqU x)=xs.any fun y=>eqV y x
 |_,_,.nil,_=>rfl
 |y::xs,u::us,.cons r t,f=>by
  rw[zI6,zv1] at f
  rw[zI7,zI7,cm r f.1,pA t f.2]
theorem sF {A:Around}{s:Shared}{x:V}{v:Value}(rx:RelV x v)(fx:vL x=true):∀{xs:List V} {us:List Value},Vals xs us→xs.all vL=true→∀u∈us,SeqAt.EqAt A s u v (eqU x u)
 |_,_,.nil,_=>fun u hu=>by cases hu
 |y::xs,u::us,.cons r t,f=>fun u' hu=>by
  rw[zI6,zv1] at f
  rcases zt4.mp hu with rfl|hu
  ·rw[cm r f.1];exact zi6 r rx f.1 fx
  ·exact sF rx fx t f.2 u' hu
def inV (x:V)(xs:List V):Bool:=xs.any fun y=>eqV y x
def rIn (K:PySem.W.Frag)(neg:Bool):R2:=fun x y H Q=>∃p xs,y=.ref p∧(SqL K H p xs∨SqT K H p xs)∧vL x=true∧xs.all vL=true∧Q (.bl (if neg then !inV x xs else inV x xs)) H
theorem jV :OpR X (compareOp .In) (rIn X.K false):=by
 intro pins s σ H x y v u Q I rx ry h
 obtain⟨p,xs,rfl,hq,fx,fs,q⟩:=h
 cases ry
 rcases hq with hq|hq
 ·obtain⟨its,r,pl,hz⟩:=I.list hq
  refine SeqAt.in_listAt (eqU x) pl.isList (fun w hw=>sF rx fx r fs w (by simpa using hw)) ⟨.bl _,H,I,rfl,?_⟩
  rw[show its.toArray.any (eqU x)=its.any (eqU x) by simp,pA r fs]
  exact q
 ·obtain⟨its,r,pl,hz⟩:=I.tuple hq
  refine SeqAt.in_tupleAt (eqU x) pl (fun w hw=>sF rx fx r fs w (by simpa using hw)) ⟨.bl _,H,I,rfl,?_⟩
  rw[show its.toArray.any (eqU x)=its.any (eqU x) by simp,pA r fs]
  exact q
theorem yt :wL X (.builtin "len") (fun xs H Q=>∃p ys,xs=[.ref p]∧(SqL X.K H p ys∨SqT X.K H p ys)∧Q (.int ys.length) H):=by
 intro pins s σ H xs us Q I r h
 obtain⟨p,ys,rfl,hq,q⟩:=h
 obtain⟨u,rfl,rx⟩:=vals1 r
 cases rx
 have hn:=sL
 rcases hq with hq|hq
 ·obtain⟨its,r',pl,hz⟩:=I.list hq
  have hlen:=r'.length
  exact Calls.call_len_list pl.isList (by simp only[zu2]<;>omega) ⟨.int ys.length,H,I.tok _,⟨s.toks+1,by rw[zu2,hlen]⟩,q⟩
 ·obtain⟨its,r',pl,hz⟩:=I.tuple hq
  have hlen:=r'.length
  exact len_tuple pl (by simp only[zu2]<;>omega) ⟨.int ys.length,H,I.tok _,⟨s.toks+1,by rw[zu2,hlen]⟩,q⟩
theorem ua :wL X (.type "list") (fun xs H Q=>∃p ys,xs=[.ref p]∧(SqL X.K H p ys∨SqT X.K H p ys)∧∀l,H l=none→Q (.ref l) (upd H l (.lst ys))):=by
 intro pins s σ H xs us Q I r h
 obtain⟨p,ys,rfl,hq,q⟩:=h
 obtain⟨u,rfl,rx⟩:=vals1 r
 cases rx
 have fin:∀(its:List Value),Vals ys its→ys.length≤sizeLine→∀(h':Heap) (c':Nat),(∀b o',s.heap.get? b=some o'→h'.get? b=some o')→
   h'.get? s.heap.objs.size=some {cls:=.type "list",dict:=none,data:=.seq its.toArray c',slots:=#[]}→EP X pins σ Q (.ref s.heap.objs.size) {s with heap:=h'}:=fun its r' hz h' c' kp e=>
  ⟨.ref s.heap.objs.size,_,I.laid (t':=s.toks) kp (zt8 _) (show zY X.prog X.w _ h' _ (.lst ys) from ⟨hz,its,c',r',e⟩),rfl,q _ (I.hok.fresh (zt8 _))⟩
 rcases hq with hq|hq
 ·obtain⟨its,r',pl,hz⟩:=I.list hq
  have hlen:=r'.length
  obtain⟨o,ho,hc,n,hd⟩:=pl.isList
  exact call_list_seq p (.inl rfl) ho hc hd (fun h' c' kp e=>fin its r' hz h' c' kp e) (by simp only[zu2]<;>omega)
 ·obtain⟨its,r',pl,hz⟩:=I.tuple hq
  have hlen:=r'.length
  obtain⟨o,ho,hc,n,hd⟩:=pl
  exact call_list_seq p (.inr rfl) ho hc hd (fun h' c' kp e=>fin its r' hz h' c' kp e) (by simp only[zu2]<;>omega)
def tyV (K:PySem.W.Frag)(T:String)(x:V)(H:Hp):Prop:=match x with
 |.str _=>T="str"
 |.int _=>T="int"
 |.ref p=>(T="list"∧∃xs,SqL K H p xs)∨(T="tuple"∧∃o,K.lookup p=some o∧o.cls=.type "tuple"∧o.dict=none)∨
   (T="dict"∧((∃kvs,H p=some (.dK kvs))∨∃kvs,H p=some (.dT kvs)))∨(T="set"∧∃S n,H p=some (.set S n))
 |_=>False
theorem zj5 {pins:List (Addr×Obj)}{σ:St}{H:Hp}{s:Shared}{T:String}{x:V}{v:Value}(I:Inv X pins σ H s)(r:RelV x v)(ty:tyV X.K T x H):
  s.TypeIs v T∧∀a,v=.ref a→∃ob,s.heap.get? a=some ob∧ob.dict=none:=by
 cases x with
 |str z=>
  obtain⟨t,rfl⟩:=r
  cases (show T="str" from ty)
  exact⟨typeIs_str s z t,fun _ e=>nomatch e⟩
 |int i=>
  obtain⟨t,rfl⟩:=r
  cases (show T="int" from ty)
  exact⟨typeIs_int s i t,fun _ e=>nomatch e⟩
 |ref p=>
  cases r
  rcases ty with ⟨rfl,xs,hq⟩|⟨rfl,o,hk,hc,hd⟩|⟨rfl,hk⟩|⟨rfl,S,n,hk⟩
  ·obtain⟨its,_,pl,_⟩:=I.list hq
   refine⟨pl.isList.typeIs,fun a e=>?_⟩
   cases e
   obtain⟨o,n,e,c,hd,_⟩:=pl
   exact⟨o,e,hd⟩
  ·refine⟨⟨o,I.kIn p o hk,hc⟩,fun a e=>?_⟩
   cases e
   exact⟨o,I.kIn _ o hk,hd⟩
  ·have z:∃o,s.heap.get? p=some o∧o.ExactDict:=by
    rcases hk with ⟨kvs,hk⟩|⟨kvs,hk⟩
    ·obtain⟨_,_,_,_,o,_,_,e,ex,_⟩:=I.hok p _ hk
     exact⟨o,e,ex⟩
    ·obtain⟨_,_,_,_,o,_,_,e,ex,_⟩:=I.hok p _ hk
     exact⟨o,e,ex⟩
   obtain⟨o,e,ex⟩:=z
   refine⟨⟨o,e,ex.1⟩,fun a e2=>?_⟩
   cases e2
   exact⟨o,e,ex.2.1⟩
  ·obtain⟨o,_,_,_,e,ex,_⟩:=I.hok p _ hk
   refine⟨⟨o,e,ex.1⟩,fun a e2=>?_⟩
   cases e2
   exact⟨o,e,ex.2.1⟩
 |_=>exact False.elim ty
def tBM (K:PySem.W.Frag)(T:String)(r:V→List V→Hp→VK→Prop)(to:TE)(t:TA):TE:=fun σ H Q=>to σ H fun x H1=>tyV K T x H1∧t σ H1 fun xs H2=>r x xs H2 Q
variable {o e:Expr}{es:List Expr}{to:TE}{t:TA}{name:Str}{apos cpos:Pos}{T id:String}{r:V→List V→Hp→VK→Prop}
theorem dR (pa:PlainAttrs T)(slot:Slot T name id)(hty:typeOf (.builtin id)=pure (.type "method_descriptor"))(hm:MtR X id r)(ho:PE X o to)(ha:PA X (e::es) t)
  (hbase:attributeBase o name X.env (eval o X.env)=eval o X.env:=by rfl)
  (hfew:((backTo cpos (starEach (e::es) X.env)).all (fun x=>!x.1)&&(backToKw cpos (keywordEach [] X.env)).all (fun x=>x.1.isSome)
   &&decide ((e::es).length+([]:List Keyword).length+(if ([]:List Keyword).isEmpty then 0 else 1)<30))=true:=by rfl)
  (hline:(apos.endLine == cpos.line)=true:=by rfl) (hs:starEach (e::es) X.env=(false,eval e X.env)::starEach es X.env:=by rfl) (hplain:(backTo cpos (starEach es X.env)).any (·.1)=false:=by rfl):
  PE X (.Call (.Attribute o name apos) (e::es) [] cpos) (tBM X.K T r to t):=by
 intro pins s σ H Q I h
 refine wpAny_Call_method_late hbase hfew hline rfl (thn (ho pins s σ H _ I h) fun v s1 ⟨x,H1,I1,r1,ty,q1⟩=>?_)
 obtain⟨h1,h2⟩:=zj5 I1 r1 ty
 refine⟨T,id,pa,slot,hty,h1,h2,?_⟩
 have hA:=ha cpos pins s1 σ H1 _ I1 q1
 rw[hs] at hA ⊢
 refine Calls.callWith_builtin (by show (false||(backTo cpos (starEach es X.env)).any (·.1))=false;rw[hplain]<;>rfl) (Calls.evalArgs_plain ?_)
 exact thn hA fun us s2 ⟨vs,H2,I2,r2,q2⟩=>hm pins s2 σ H2 x vs v us Q I2 r1 r2 q2
/- xs.append(e),list.index on a module's tuple .. are MtR facts of 06m -/
end
def MtM (X:Cx)(id:String)(r:V→List V→Hp→VK→Prop):Prop:=
 ∀(pins:List (Addr×Obj)) (s:Shared) (σ:St) (H:Hp) (x:V) (xs:List V) (v:Value) (us:List Value) (Q:VK),Inv X pins σ H s→RelV x v→Vals xs us→r x xs H Q→
  wpAny (model X.prog X.w) X.A (call (.builtin id) (v::us)) (EP X pins σ Q) X.xe s
theorem Vals.one :∀{x:V} {us:List Value},Vals [x] us→∃u,us=[u]∧RelV x u
 |_,_,.cons r .nil=>⟨_,rfl,r⟩
theorem Vals.two :∀{x y:V} {us:List Value},Vals [x,y] us→∃u v,us=[u,v]∧RelV x u∧RelV y v
 |_,_,_,.cons r (.cons q .nil)=>⟨_,_,rfl,r,q⟩
theorem Vals.eraseIdx :∀{xs:List V} {us:List Value} (i:Nat),Vals xs us→Vals (xs.eraseIdx i) (us.eraseIdx i)
 |_,_,_,.nil=>.nil
 |_,_,0,.cons _ t=>t
 |_,_,i+1,.cons r t=>.cons r (Vals.eraseIdx i t)
theorem rM {α:Type}:∀(l:List α) (i:Nat),(l.eraseIdx i).length≤l.length
 |[],_=>zt8 _
 |_::_,0=>zA2 _
 |_::r,i+1=>Nat.succ_le_succ (rM r i)
section
variable {X:Cx}{pins:List (Addr×Obj)}{σ:St}{H:Hp}{s:Shared}{l b:Addr}{xs ys zs:List V}
theorem Inv.lset {its its':List Value}{n:Nat}{f:Array Value→Array Value}{t':Nat}(I:Inv X pins σ H s)(hH:H l=some (.lst xs))
  (e:s.heap.get? l=some {cls:=.type "list",data:=.seq its.toArray n}) (hf:f its.toArray=its'.toArray) (hv:Vals ys its') (hz:ys.length≤sizeLine):
  Inv X pins σ (upd H l (.lst ys)) {s with heap:=s.heap.update l (Obj.mapSeq f),toks:=t'}:=by
 have q:=PySem.IsL.update e f
 rw[hf] at q
 refine I.write (x:=l) (e:=l) (by rw[hH];exact trivial) (.inl rfl) (fun b' u hb hu=>(zu4 s.heap (Obj.mapSeq f) (zw4 hb)).trans hu) ⟨_,q⟩ ?_
 exact⟨hz,its',_,hv,q⟩
theorem Inv.lnew {its:List Value}{t':Nat}(I:Inv X pins σ H s)(hv:Vals ys its)(hz:ys.length≤sizeLine):
  Inv X pins σ (upd H s.heap.objs.size (.lst ys)) {s with heap:=s.heap.push {cls:=.type "list",data:=.seq its.toArray},toks:=t'}:=
 I.laid (fun _ _ q=>zt0 _ q) (zt8 _) ⟨hz,its,0,hv,zu0 _ rfl⟩
theorem Inv.fresh (I:Inv X pins σ H s):H s.heap.objs.size=none:=I.hok.fresh (zt8 _)
theorem Inv.lstM (I:Inv X pins σ H s)(hH:H l=some (.lst xs)):xs.length≤sizeLine∧∃(its:List Value) (n:Nat),Vals xs its∧xs.length=its.length∧s.heap.get? l=some {cls:=.type "list",data:=.seq its.toArray n}:=by
 obtain⟨z,its,n,r,e⟩:=I.hok l _ hH
 exact⟨z,its,n,r,r.length,e⟩
theorem gQ {n:Nat}(h:n≤sizeLine):Builtin.List.listTooLong n=false:=by
 unfold Builtin.List.listTooLong
 exact zy4 (by omega)
end
section
variable {X:Cx}
def bu :V→List V→Hp→VK→Prop:=fun x vs H Q=>∃l xs y,x=.ref l∧vs=[y]∧H l=some (.lst xs)∧xs.length<sizeLine∧Q .non (upd H l (.lst (xs++[y])))
theorem ux :MtM X "list.append" bu:=by
 intro pins s σ H x vs v us Q I rx rv h
 obtain⟨l,xs,y,rfl,rfl,hH,hz,q⟩:=h
 cases rx
 obtain⟨u,rfl,ru⟩:=rv.one
 obtain⟨z,its,n,r,hl,e⟩:=I.lstM hH
 refine call_meets F.slot_list_append ⟨_,e,rfl⟩ F.entry_list_append (F.args_list_append_2 _ _) (PySem.list_append l its.toArray n u (by rw[zu2];omega)) ⟨e,?_⟩
 refine⟨.non,_,I.lset (its':=its++[u]) hH e (by simp) (r.append (.cons ru .nil)) ?_,rfl,q⟩
 rw[zv4,zE1]
 omega
def bQ :V→List V→Hp→VK→Prop:=fun x vs H Q=>∃l b xs zs,x=.ref l∧vs=[.ref b]∧H l=some (.lst xs)∧H b=some (.lst zs)∧xs.length+zs.length≤sizeLine∧Q .non (upd H l (.lst (xs++zs)))
theorem zj6 :MtM X "list.extend" bQ:=by
 intro pins s σ H x vs v us Q I rx rv h
 obtain⟨l,b,xs,zs,rfl,rfl,hH,hB,hz,q⟩:=h
 cases rx
 obtain⟨u,rfl,ru⟩:=rv.one
 cases ru
 obtain⟨z,its,n,r,hl,e⟩:=I.lstM hH
 obtain⟨z2,its2,n2,r2,hl2,e2⟩:=I.lstM hB
 have hsz:its.toArray.size+its2.toArray.size≤sizeLine:=by rw[zu2,zu2];omega
 have hlong:¬(!its.toArray.isEmpty&&Builtin.List.listTooLong (its.toArray.size+its2.toArray.size))=true:=by
  rw[gQ hsz,Bool.and_false]
  exact zu3
 refine call_meets F.slot_list_extend ⟨_,e,rfl⟩ F.entry_list_extend (F.args_list_extend_2 _ _)
  (AutoSeq1.list_extend_list_list_0 l its.toArray n b its2.toArray n2 hlong (by rw[zu2];omega) (by omega)) ⟨e,e2,?_⟩
 refine⟨.non,_,I.lset (its':=its++its2) hH e (by simp) (r.append r2) ?_,rfl,q⟩
 rw[zv4]
 omega
def za9 :V→List V→Hp→VK→Prop:=fun x vs H Q=>∃l xs i k y,x=.ref l∧vs=[.int i]∧H l=some (.lst xs)∧-(2 ^ 63)≤i∧i<2 ^ 63∧seqIndex? i xs.length=some k∧xs[k]?=some y∧Q y (upd H l (.lst (xs.eraseIdx k)))
theorem gu :MtM X "list.pop" za9:=by
 intro pins s σ H x vs v us Q I rx rv h
 obtain⟨l,xs,i,k,y,rfl,rfl,hH,h1,h2,hk,hy,q⟩:=h
 cases rx
 obtain⟨u,rfl,ru⟩:=rv.one
 obtain⟨t,rfl⟩:=ru
 obtain⟨z,its,n,r,hl,e⟩:=I.lstM hH
 obtain⟨w,hw,rw'⟩:=r.get hy
 refine call_meets F.slot_list_pop ⟨_,e,rfl⟩ F.entry_list_pop (F.args_list_pop_2 _ _)
  (MeetsSeq.list_pop_at l its.toArray n i t k w (fitsIndex_both h1 h2) (by rw[zu2,←hl];exact hk) (by rw[←Array.getElem?_toList];exact hw) (by rw[zu2];omega)) ⟨e,?_⟩
 refine⟨y,_,I.lset (its':=its.eraseIdx k) hH e ?_ (r.eraseIdx k) ?_,rw',q⟩
 ·show its.toArray.eraseIdxIfInBounds k=(its.eraseIdx k).toArray
  rw[List.eraseIdxIfInBounds_toArray]
 ·have:=rM xs k
  omega
def zr4 :R2:=fun x y H Q=>∃l b xs zs,x=.ref l∧y=.ref b∧H l=some (.lst xs)∧H b=some (.lst zs)∧xs.length+zs.length≤sizeLine∧∀p,H p=none→Q (.ref p) (upd H p (.lst (xs++zs)))
theorem zg7 :OpR X (binaryOp .Add) zr4:=by
 intro pins s σ H x y v u Q I rx ry h
 obtain⟨l,b,xs,zs,rfl,rfl,hH,hB,hz,q⟩:=h
 cases rx
 cases ry
 obtain⟨z,its,n,r,hl,e⟩:=I.lstM hH
 obtain⟨z2,its2,n2,r2,hl2,e2⟩:=I.lstM hB
 refine PySem.P.add_list e e2 ?_ (by rw[zu2,zu2];omega)
 have ea:its.toArray++its2.toArray=(its++its2).toArray:=by simp
 rw[ea]
 exact⟨.ref _,_,I.lnew (t':=s.toks) (r.append r2) (by rw[zv4];omega),rfl,q _ I.fresh⟩
end
section
variable {prog:Program}{w:World}{A:Around}{E:Value→Shared→Prop}{s:Shared}
end
section
variable {X:Cx}
end
end L2
namespace Att
open PySem PySem.W PySem.Calls PyProof.Rows
theorem tw {P:Params}{h:Heap}:∀(ns:List Int) (vs:List Value),WellAll P h vs (ns.map WData.int)→IntsAre vs ns:=by
 intro ns
 induction ns with
 |nil=>
  intro vs w
  rw[List.map_nil] at w
  cases w
  exact .nil
 |cons n ns ih=>
  intro vs w
  rw[zx0] at w
  cases w with
  |cons a b=>
   cases a
   exact .cons _ _ (ih _ b)
theorem jN {l:OpenLaw}{n:Nat}(hn:l.most=some n){P:Params}{h:Heap}{args:List WData}{vals:List Value}
  (hpre:l.row.toRowW.claim.pre args=true) (hwl:WellAll P h vals args):
  ∃a vs ns,vals=[Value.ref a]∧args=[WData.list (ns.map WData.int)]∧h.get? a=some {cls:=.type "list",data:=.seq vs.toArray}∧IntsAre vs ns∧ns.length≤n:=by
 have hsh:WShape.hasAll [] args [.list .int]=true:=(pre_splitW hpre).1
 have hc:l.pre.holds [] {args:=args}=true:=(pre_splitW hpre).2
 obtain⟨d,r,rfl,h1,h2⟩:=hasAllW_cons hsh
 obtain rfl:=hasAllW_nil h2
 obtain⟨xs,rfl,h3⟩:=hasW_list h1
 obtain⟨ns,rfl⟩:=items_int h3
 have hlen:ns.length≤n:=by
  unfold OpenLaw.pre at hc
  have h4:(WTm.not (.lt (.lit (.int (n:Int))) (.len (.arg 0)))).holds [] {args:=[.list (ns.map .int)]}=true:=by
   have h4:=(holds_andW hc).1
   rw[hn] at h4
   exact h4
  have h5:=condW_of h4 (w_not (w_lt w_lit (w_len_list (w_arg rfl))))
  rw[zt1] at h5
  refine Nat.le_of_not_lt fun q=>?_
  have q':(n:Int)<((ns.length:Nat):Int):=by omega
  first
   |(rw[zE2 q'] at h5;exact absurd h5 (by decide))
   |(simp at h5;omega)
 cases hwl with
 |cons w1 w2=>
  cases w2
  cases w1 with
  |list ho hall=>exact⟨_,_,ns,rfl,rfl,ho,tw ns _ hall,hlen⟩
theorem jx (l:OpenLaw)(args:List WData):l.row.toRowW.claim.post args (.bool true) args=true:=
 postW_of (r:=l.row.toRowW) (X:=(true == true))
  (show WShape.has [] (.bool true) .bool=true by first|rfl|decide|simp[WShape.has,WShape.arms,WShape.armsAll])
  (show (WTm.eq .res (.lit (.bool true))).value [] {args:=args,res:=some (.bool true),after:=args}=some (.bool (true == true)) from w_eq_bool (w_res rfl) w_lit) rfl
theorem attach_call {l:OpenLaw}{n:Nat}{q:Program}{loose:List Str}{XP:(Str→Option Value)→Heap→Prop}{YP:World→Heap→Prop}{d:DefRec}
  (hn:l.most=some n) (hdf:d.params.defaults=[])
  (call:∀(w:World) (s₀ s₁:Shared) (mg mb:Str→Option Value) (fa:Addr) (o:Obj) (pm cd doc:Value) (a:Addr) (vs:List Value) (ns:List Int),
   Ground q loose [] XP w s₀ mg mb s₁.heap→YP w s₁.heap→
   s₁.heap.get? fa=some o→o.data=.func (docDef d.name d.params d.body d.scope pm cd doc)→s₁.heap.CodeRec cd d.name→mg d.name=some (.ref fa)→
   s₁.heap.get? a=some {cls:=.type "list",data:=.seq vs.toArray}→IntsAre vs ns→ns.length≤n→s₁.gens=#[]→
   codeAny (model l.prog w) callerA (.call (.ref fa) ⟨[.ref a],[]⟩) (fun r s'=>r=.ok (.ret (.bool true))∧OldK s₁.heap s'.heap∧s'.os=s₁.os∧AllBare s'.gens) s₁):
  WalkO q loose XP YP l.row.toRowW d [] (fun f vs=>PySem.call f vs):=by
 intro w s₀ s₁ mg mb G Y fa o pm cd doc dV kV ho hd hcd hD hmg hg args vals as hpre hlay hrd hwl hlo
 obtain rfl:dV=.none:=Dflts.none hD hdf
 obtain rfl:kV=.none:=Dflts.noKw hD
 obtain⟨a,vs,ns,rfl,rfl,hobj,hints,hlen⟩:=jN hn hpre hwl
 refine enter_call (zE0 (call w s₀ s₁ mg mb fa o pm cd doc a vs ns G Y ho (fd_plain hd) hcd hmg hobj hints hlen hg) fun r s' hq=>?_)
 obtain⟨rfl,h2,h3,h4⟩:=hq
 exact⟨.inl ⟨.bool true,.bool true,[],rfl,fun _=>rfl,.bool true,jx l _,fun _=>⟨List.Pairwise.nil,fun _ hm=>(nomatch hm)⟩⟩,h2,h3,h4⟩
section
variable {prog:Program}{w:World}{A:Around}{E:Value→Shared→Prop}{s:Shared}{K:Frag}
end
end Att
namespace L2
open PySem PySem.Spec PyProof.Rows
theorem rQ :∀{vs:List Value} {ns:List Int},IntsAre vs ns→Vals (ns.map V.int) vs
 |_,_,.nil=>.nil
 |_,_,.cons n t h=>.cons ⟨t,rfl⟩ (rQ h)
def inClass (s:Stmt)(j:Nat):Stmt:=match s with
 |.ClassDef _ _ _ body _ _ _ _ _ _ _=>body.getD j (.Pass ⟨0,0,0,0⟩)
 |_=>.Pass ⟨0,0,0,0⟩
def zN (s:Stmt):Arguments:=match s with
 |.FunctionDef _ a _ _ _ _ _ _ _ _=>a
 |_=>{posonlyargs:=[],args:=[],vararg:=none,kwonlyargs:=[],kw_defaults:=[],kwarg:=none,defaults:=[]}
def zB (s:Stmt):List Stmt:=match s with
 |.FunctionDef _ _ b _ _ _ _ _ _ _=>b
 |_=>[]
def zc (s:Stmt):Scope:=match s with
 |.FunctionDef _ _ _ _ _ _ sc _ _ _=>sc
 |_=>{kind:=.function,names:=[],isGenerator:=false,isCoroutine:=false}
abbrev CX0 :CXT:=fun _ _ _ _ _ _=>False
abbrev E0 :XK:=fun _ _ _=>False
theorem zX {X:Cx}:Passes CX0 X E0:=fun _ _ _ _ _ _ _ h=>h.elim
structure Fun (K:PySem.W.Frag)(x qual:Str)(st:Stmt)(f:Addr)(fd:FuncData):Prop where
 ex:∃(oc:Value) (od:Option Addr) (kV doc pm:Value) (an:Option Addr) (cdv ct:Value) (osl:Array (Option Value)),
  fd=PySem.W.fnOf x qual (zN st) (zB st) (zc st) .none kV doc pm an cdv ct∧K.lookup f=some ⟨oc,od,.func fd,osl⟩∧PySem.W.codeIn K cdv qual=true
 kp:PySem.W.keepIn K (.ref f)=true
section
variable {P:Program}{w:World}{K:PySem.W.Frag}{mg:Str→Option Value}{base:Heap}
theorem Fun.ok {x qual:Str}{st:Stmt}{f:Addr}{fd:FuncData}{N ps:List Str}{k:Nat}{sp:Sp}(F:Fun K x qual st f fd)(S:zp N ps (zc st))(len:∀vs H Q E,sp vs H Q E→vs.length=ps.length)
  (hbody:∀(cdv:Value) (A:Around) (outer:List Env) (s:Shared) (H:Hp) (vs:List V) (Q:VK) (E:XK),zL k (A.deeper (envOfC qual (zc st) s.heap.objs.size f cdv))→sp vs H Q E→
   ∃t,PSs (xB CX0 P w K mg base N qual (zc st) f cdv A outer s H E).nox (zB st) t∧t {nx:=fun _ H'=>Q .non H',rt:=Q} (start N vs) H):zD P w K mg base CX0 (k+1) f fd ps sp:=by
 obtain⟨oc,od,kV,doc,pm,an,cdv,ct,osl,rfl,lk,hcd⟩:=F.ex
 refine kH lk hcd S len fun A outer s H vs Q E hr hsp=>?_
 obtain⟨t,h,q⟩:=hbody cdv A outer s H vs Q E hr hsp
 exact⟨t,h.nox,q⟩
theorem Fun.binds {x qual:Str}{st:Stmt}{f:Addr}{fd:FuncData}{ps:List Str}(F:Fun K x qual st f fd)
  (h:∀(kV doc pm:Value) (an:Option Addr) (cdv ct:Value) (us:List Value),us.length=ps.length→bindArgs (PySem.W.fnOf x qual (zN st) (zB st) (zc st) .none kV doc pm an cdv ct) ⟨us,[]⟩=pure (ps.zip us)):Binds K fd ps []:=by
 obtain⟨oc,od,kV,doc,pm,an,cdv,ct,osl,rfl,lk,hcd⟩:=F.ex
 exact .all (h kV doc pm an cdv ct)
theorem nO {x qual:Str}{st:Stmt}{f:Addr}{oc:Value}{od an:Option Addr}{osl:Array (Option Value)}{kV doc pm cdv ct:Value}(l:K.lookup f=some ⟨oc,od,.func (PySem.W.fnOf x qual (zN st) (zB st) (zc st) .none kV doc pm an cdv ct),osl⟩)
  (c:PySem.W.codeIn K cdv qual=true) (k:PySem.W.keepIn K (.ref f)=true):Fun K x qual st f (PySem.W.fnOf x qual (zN st) (zB st) (zc st) .none kV doc pm an cdv ct):=⟨⟨oc,od,kV,doc,pm,an,cdv,ct,osl,rfl,l,c⟩,k⟩
end
theorem yG {n:Nat}(h:n≤1000):n<sizeLine:=zI5 h (by decide)
section
variable {X:Cx}
theorem pv (i:Nat){x:Str}{pos:Pos}(hN:X.N[i]?=some x:=by rfl)(hv:Vis X.env.scope x:=by first|exact Or.inl rfl|exact Or.inr (Or.inl rfl)|exact Or.inr (Or.inr rfl))(hd:(x == ("__debug__":Str))=false:=by decide)
  (hcd:(x == ("__classdict__":Str))=false:=by decide):PE X (.Name x pos) (zb0 i):=yy hN hv hd hcd
end
theorem rh {A B:Prop}(h:B):if false=true then A else B:=by
 rw[if_neg zu3]
 exact h
theorem sV {A B:Prop}(h:A):if true=true then A else B:=by
 rw[if_pos rfl]
 exact h
theorem yB {c A B:Prop}[Decidable c](h1:c→A)(h2:¬c→B):if c then A else B:=by
 by_cases h:c
 ·rw[if_pos h]
  exact h1 h
 ·rw[if_neg h]
  exact h2 h
def zC (H H':Hp):Prop:=∀b o,H b=some o→H' b=some o
theorem zC.refl (H:Hp):zC H H:=fun _ _ h=>h
theorem zC.trans {H H1 H2:Hp}(a:zC H H1)(b:zC H1 H2):zC H H2:=fun c o h=>b c o (a c o h)
theorem zC.free {H H':Hp}(e:zC H H'){l:Addr}(h:H' l=Option.none):H l=Option.none:=by
 cases q:H l with
 |none=>rfl
 |some o=>
  rw[e l o q] at h
  cases h
theorem zC.seq {K:PySem.W.Frag}{H H':Hp}{a:Addr}{xs:List V}(e:zC H H')(h:SqL K H a xs):SqL K H' a xs:=by
 rcases h with (h|⟨o,h⟩)|h
 ·exact .inl (.inl (e _ _ h))
 ·exact .inl (.inr ⟨o,e _ _ h⟩)
 ·exact .inr h
def vV (cells:List (Str×Addr)):List (Str×NameKind)→List (Str×Addr)→List (Str×Addr)
 |[],acc=>acc
 |(n,k)::r,acc=>vV cells r (if k=.free then (n,(cells.lookup n).getD 0)::acc else acc)
theorem vK {env:Env}{scope:Scope}(h:∀y∈scope.names,y.2=.free→∃c,env.cells.lookup y.1=some c):
  closureFor scope env=pure (vV env.cells scope.names []):=by
 have key:∀(ns:List (Str×NameKind)) (acc:List (Str×Addr)),(∀y∈ns,y.2=.free→∃c,env.cells.lookup y.1=some c)→
   (forIn ns acc fun (x:Str×NameKind) (r:List (Str×Addr))=>(if (x.2 == NameKind.free)=true then (do let a ←cellOf env x.1;pure (ForInStep.yield ((x.1,a)::r))) else pure (ForInStep.yield r):Sem (ForInStep (List (Str×Addr)))))=pure (vV env.cells ns acc):=by
  intro ns
  induction ns with
  |nil=>intro acc _;rfl
  |cons y r ih=>
   intro acc hy
   obtain⟨n,k⟩:=y
   rw[zz0]
   have hr:∀z∈r,z.2=.free→∃c,env.cells.lookup z.1=some c:=fun z hz=>hy z (zu1 _ hz)
   by_cases hk:k=.free
   ·subst hk
    obtain⟨c,hc⟩:=hy (n,.free) zu8 rfl
    have e1:cellOf env n=pure c:=by
     unfold cellOf
     rw[hc]
    have e2:((NameKind.free == NameKind.free)=true):=rfl
    simp only[e2,zF2,e1,pure_bind]
    rw[ih _ hr]
    show _=pure (vV env.cells r (if NameKind.free=NameKind.free then (n,(env.cells.lookup n).getD 0)::acc else acc))
    rw[if_pos rfl,hc]
    rfl
   ·have e2:(k == NameKind.free)=false:=by simpa using hk
    simp only[e2,zA0,zG2,pure_bind]
    rw[ih _ hr]
    show _=pure (vV env.cells r (if k=NameKind.free then (n,(env.cells.lookup n).getD 0)::acc else acc))
    rw[if_neg hk]
 have q:=key scope.names [] h
 unfold closureFor
 simp only[] at q ⊢
 rw[show (forIn scope.names ([]:List (Str×Addr)) fun (x:Str×NameKind) (r:List (Str×Addr))=>_)=_ from q]
 rfl
theorem nk {cells:List (Str×Addr)}:∀(ns:List (Str×NameKind)) (acc:List (Str×Addr)),(∀y∈ns,y.2=.free→∃c,cells.lookup y.1=some c)→
  ∀x c,(x,c)∈vV cells ns acc→(x,c)∈acc∨((x,NameKind.free)∈ns∧cells.lookup x=some c)
 |[],acc,_,x,c,h=>.inl h
 |(n,k)::r,acc,hy,x,c,h=>by
  have hr:∀z∈r,z.2=.free→∃c,cells.lookup z.1=some c:=fun z hz=>hy z (zu1 _ hz)
  have h':(x,c)∈vV cells r (if k=.free then (n,(cells.lookup n).getD 0)::acc else acc):=h
  rcases nk r _ hr x c h' with q|⟨q1,q2⟩
  ·by_cases hk:k=.free
   ·rw[if_pos hk] at q
    rcases zt4.mp q with e|q
    ·obtain⟨c',hc⟩:=hy (n,k) zu8 hk
     have e1:x=n:=congrArg Prod.fst e
     have e2:c=(cells.lookup n).getD 0:=congrArg Prod.snd e
     have hc':cells.lookup n=some c':=hc
     rw[hc'] at e2
     have e3:c=c':=e2
     subst e1 e3 hk
     exact .inr ⟨zu8,hc'⟩
    ·exact .inl q
   ·rw[if_neg hk] at q
    exact .inl q
  ·exact .inr ⟨zu1 _ q1,q2⟩
theorem oY {cells:List (Str×Addr)}:∀(ns:List (Str×NameKind)) (acc:List (Str×Addr)) (p:Str×Addr),p∈acc→p∈vV cells ns acc
 |[],_,_,h=>h
 |(n,k)::r,acc,p,h=>by
  show p∈vV cells r (if k=.free then (n,(cells.lookup n).getD 0)::acc else acc)
  refine oY r _ p ?_
  split
  ·exact zu1 _ h
  ·exact h
theorem pR {cells:List (Str×Addr)}:∀(ns:List (Str×NameKind)) (acc:List (Str×Addr)) (x:Str),(x,NameKind.free)∈ns→∃c,(x,c)∈vV cells ns acc
 |[],_,_,h=>by simp at h
 |(n,k)::r,acc,x,h=>by
  show ∃c,(x,c)∈vV cells r (if k=.free then (n,(cells.lookup n).getD 0)::acc else acc)
  rcases zt4.mp h with e|h
  ·have e1:x=n:=congrArg Prod.fst e
   have e2:NameKind.free=k:=congrArg Prod.snd e
   subst e1 e2
   rw[if_pos rfl]
   exact⟨_,oY r _ _ zu8⟩
  ·exact pR r _ x h
theorem mem_lookup {x:Str}{c:Addr}:∀{l:List (Str×Addr)},(x,c)∈l→∃d,l.lookup x=some d
 |[],h=>by simp at h
 |(n,a)::r,h=>by
  rw[zw6]
  cases e:x == n with
  |true=>exact⟨a,rfl⟩
  |false=>
   rcases zt4.mp h with q|q
   ·have e1:x=n:=congrArg Prod.fst q
    rw[e1] at e
    simp at e
   ·exact mem_lookup q
structure zS (XN:List Str)(xs:Scope)(N:List Str)(imp:List (Option Nat))(scope:Scope):Prop where
 kind:scope.kind=.function
 nd:N.Nodup
 nocell:∀y∈scope.names,y.2≠.cell
 locs:∀y∈scope.names,y.2=.local→scope.names.lookup y.1=some .local
 frees:∀y∈scope.names,y.2=.free→xs.names.lookup y.1=some .cell∨xs.names.lookup y.1=some .free
 len:imp.length=N.length
 impsB:((imp.zip N).all fun p=>match p.1 with|none=>true|some j=>XN[j]? == some p.2&&scope.names.lookup p.2 == some .free)=true
theorem zS.imps {XN N:List Str}{xs scope:Scope}{imp:List (Option Nat)}(S:zS XN xs N imp scope):∀(i j:Nat),imp[i]?=some (some j)→∃x,N[i]?=some x∧XN[j]?=some x∧scope.names.lookup x=some .free:=by
 intro i j h
 have hi:i<imp.length:=(zt5.mp h).1
 have hn:i<N.length:=by rw[←S.len];exact hi
 have hx:N[i]?=some N[i]:=zt3 hn
 have hm:(some j,N[i])∈imp.zip N:=by
  have hz:(imp.zip N)[i]?=some (some j,N[i]):=by
   rw[List.getElem?_zip_eq_some]
   exact⟨h,hx⟩
  exact zy0 hz
 have q:=zC7.mp S.impsB _ hm
 have q':(XN[j]? == some N[i]&&scope.names.lookup N[i]==some .free)=true:=q
 rw[zv1] at q'
 exact⟨N[i],hx,eq_of_beq q'.1,eq_of_beq q'.2⟩
def wg (imp:List (Option Nat))(σ:St):St:=imp.map fun o=>o.bind fun j=>(σ[j]?).bind id
theorem jZ {imp:List (Option Nat)}{σ:St}{i:Nat}{v:V}(h:(wg imp σ)[i]?=some (some v)):∃j,imp[i]?=some (some j)∧σ[j]?=some (some v):=by
 unfold wg at h
 rw[zu7] at h
 cases e:imp[i]? with
 |none=>rw[e] at h;cases h
 |some o=>
  rw[e] at h
  have h':(o.bind fun j=>(σ[j]?).bind id)=some v:=zv8 h
  cases o with
  |none=>cases h'
  |some j=>
   have h2:(σ[j]?).bind id=some v:=h'
   cases e2:σ[j]? with
   |none=>rw[e2] at h2;cases h2
   |some w=>
    rw[e2] at h2
    have h3:w=some v:=h2
    exact⟨j,rfl,by rw[e2,h3]⟩
def Cx.comp (X:Cx)(N:List Str)(scope:Scope)(C:Addr)(s2:Shared)(H2:Hp)(fp:List Addr):Cx where
 prog:=X.prog
 w:=X.w
 K:=X.K
 mg:=X.mg
 base:=X.base
 A:=X.A
 N:=N
 s₀:=s2
 H₀:=H2
 env:=compEnvC scope (vV X.env.cells scope.names []) C X.env
 outer:=X.stack
 stack:=X.stack
 ex:=fp
 fn:=fun _=>false
 calm:=X.calm
 pn:=[]
 xe:=fun _ _=>False
theorem uj {env:Env}:∀{names:List (Str×NameKind)} {x:Str},
  (names.map fun (n,k)=>if (k == NameKind.free&&env.scope.kind == .function&&env.kindOf n == some .cell) then (n,NameKind.cell) else (n,k)).lookup x=some .cell∨
  (names.map fun (n,k)=>if (k == NameKind.free&&env.scope.kind == .function&&env.kindOf n == some .cell) then (n,NameKind.cell) else (n,k)).lookup x=some .free→
  (∀y∈names,y.2≠.cell)→(x,NameKind.free)∈names
 |[],x,h,_=>by simp at h
 |(n,k)::r,x,h,hc=>by
  have ih:=@uj env r x
  rw[zx0] at h
  dsimp only at h
  by_cases hx:x=n
  ·subst hx
   by_cases hk:k=.free
   ·subst hk;exact zu8
   ·have hk':(k == NameKind.free)=false:=by simpa using hk
    simp only[hk',zz8,zA0,zG2,zw6,beq_self_eq_true,zF2] at h
    rcases h with h|h
    ·have e:k=.cell:=zv8 h
     exact absurd e (hc (x,k) zu8)
    ·have e:k=.free:=zv8 h
     exact absurd e hk
  ·have hxn:(x == n)=false:=by simpa using hx
   have step:∀(b:Bool) (l:List (Str×NameKind)),List.lookup x ((if b=true then (n,NameKind.cell) else (n,k))::l)=l.lookup x:=fun b l=>by
    cases b<;>simp[zw6,hxn]
   rw[step] at h
   exact zu1 _ (ih h fun y hy=>hc y (zu1 _ hy))
theorem uQ {env:Env}:∀{names:List (Str×NameKind)} {x:Str},names.lookup x=some .free→
  (names.map fun (n,k)=>if (k == NameKind.free&&env.scope.kind == .function&&env.kindOf n == some .cell) then (n,NameKind.cell) else (n,k)).lookup x=some .cell∨
  (names.map fun (n,k)=>if (k == NameKind.free&&env.scope.kind == .function&&env.kindOf n == some .cell) then (n,NameKind.cell) else (n,k)).lookup x=some .free
 |[],x,h=>by simp at h
 |(n,k)::r,x,h=>by
  have ih:=@uQ env r x
  rw[zx0]
  dsimp only
  rw[zw6] at h
  cases hx:x == n with
  |true=>
   rw[hx] at h
   have e:k=.free:=zv8 h
   subst e
   by_cases hb:(NameKind.free == NameKind.free&&env.scope.kind == .function&&env.kindOf n == some .cell)=true
   ·left;rw[if_pos hb];simp[zw6,hx]
   ·right;rw[if_neg hb];simp[zw6,hx]
  |false=>
   rw[hx] at h
   have step:∀(b:Bool) (l:List (Str×NameKind)),List.lookup x ((if b=true then (n,NameKind.cell) else (n,k))::l)=l.lookup x:=fun b l=>by
    cases b<;>simp[zw6,hx]
   rw[step]
   exact ih h
section
variable {X:Cx}{pins:List (Addr×Obj)}{σ:St}{H2 H':Hp}{s2 s':Shared}{fp:List Addr}{N:List Str}{imp:List (Option Nat)}{scope:Scope}{C acc:Addr}
theorem vU (I:Inv X pins σ H2 s2)(S:zS X.N X.env.scope N imp scope):∀y∈scope.names,y.2=.free→∃c,X.env.cells.lookup y.1=some c:=fun y hy hk=>I.ok.has y.1 (S.frees y hy hk)
theorem xu (I:Inv X pins σ H2 s2)(S:zS X.N X.env.scope N imp scope){x:Str}{c:Addr}(h:(vV X.env.cells scope.names []).lookup x=some c):(x,NameKind.free)∈scope.names∧X.env.cells.lookup x=some c:=by
 rcases nk scope.names [] (vU I S) x c (zx8 h) with q|q
 ·exact absurd q (by simp)
 ·exact q
theorem uh (I:Inv X pins σ H2 s2)(S:zS X.N X.env.scope N imp scope){x:Str}(h:(x,NameKind.free)∈scope.names):∃c,(vV X.env.cells scope.names []).lookup x=some c:=by
 obtain⟨c,hc⟩:=pR (cells:=X.env.cells) scope.names [] x h
 exact mem_lookup hc
theorem gX {h1:Heap}{tk:Nat}{m:Str→Option Value}{n0:Nat}(I:Inv X pins σ H2 s2)(S:zS X.N X.env.scope N imp scope)(hf:∀b∈fp,yZ X pins H2 b)(ho:∀b∈fp,∃o,s2.heap.get? b=some o)
  (hacc:acc=s2.heap.objs.size) (hC:C=s2.heap.objs.size+1) (old:∀b o,s2.heap.get? b=some o→h1.get? b=some o) (hn:h1.Ns C m)
  (hl:h1.get? acc=some {cls:=.type "list",data:=.seq ([]:List Value).toArray n0}):
  Inv (X.comp N scope C s2 H2 fp) [] (wg imp σ) (upd H2 acc (.lst [])) {s2 with heap:=h1,toks:=tk}:=by
 have fa:H2 acc=none:=I.hok.fresh (by rw[hacc];exact zt8 _)
 have cac:C≠acc:=by rw[hC,hacc];exact Nat.succ_ne_self _
 have clt:∀x c,X.env.cells.lookup x=some c→c<s2.heap.objs.size:=fun x c e=>by
  obtain⟨v,q⟩:=I.cell x c e
  exact q.lt
 refine⟨⟨I.ok.mod,S.kind,I.ok.glob,I.ok.blt,?above,?inj,?has,?cab,I.ok.hd,I.ok.frames,.inl rfl,?exf,fun b o e=>I.bs b o e,zx9 I.ok.bsz I.sz,?noex,?exfs,I.stack,I.stkFree⟩,
  rfl,I.bare,Un.laid old (by rw[hacc];exact zt8 _) fa,⟨m,hn,?loc⟩,?cell,?free,?freeC,fun p hp=>absurd (show p∈([]:List (Addr×Obj)) from hp) (by simp),I.hok.laid old (by rw[hacc];exact zt8 _) ⟨zu6 _,[],n0,.nil,hl⟩,?len⟩
 case above=>show s2.heap.objs.size≤C;rw[hC];exact zA2 _
 case inj=>exact fun x y c h1 h2=>I.ok.inj x y c (xu I S h1).2 (xu I S h2).2
 case has=>exact fun x hx=>uh I S (uj (env:=X.env) hx S.nocell)
 case cab=>exact fun x c h _=>absurd h (by show ¬(false=true);simp)
 case exf=>
  intro b hb
  obtain⟨o,hob⟩:=ho b hb
  refine⟨?_,fun x c e=>(hf b hb).2.2.2.2.1 x c (xu I S e).2⟩
  show b≠C
  rw[hC]
  exact zv0 (zB9 (zt6 hob))
 case noex=>
  intro b o e hb
  rcases (hf b hb).2.2.2.1 with z|z
  ·exact I.ok.noex b o e z
  ·exact absurd (zu9 (zt6 e) (zx9 I.ok.bsz z)) (zz5 _)
 case exfs=>
  intro b hb hz
  rcases zt4.mp (I.stkSub b hz) with e|e
  ·exact (hf b hb).2.1 e
  ·exact (hf b hb).2.2.1 e
 case loc=>
  intro i x v e1 e2 e3
  obtain⟨j,q1,q2⟩:=jZ e2
  obtain⟨y,n1,n2,n3⟩:=S.imps i j q1
  have n1':(X.comp N scope C s2 H2 fp).N[i]?=some y:=n1
  rw[n1'] at e1
  have exy:y=x:=zv8 e1
  subst exy
  have hfr:=S.frees (y,.free) (zx8 n3) rfl
  obtain⟨mX,hnX,hlX⟩:=I.loc
  obtain⟨u,r,l⟩:=hlX j y v n2 q2 (.inr hfr)
  refine⟨u,r,?_⟩
  rcases l with ⟨k,_⟩|⟨k,c,e,z⟩
  ·have k':X.env.scope.names.lookup y=some .local:=k
   rcases hfr with z|z
   ·have z':X.env.scope.names.lookup y=some .cell:=z
    rw[k'] at z';cases z'
   ·have z':X.env.scope.names.lookup y=some .free:=z
    rw[k'] at z';cases z'
  ·obtain⟨d,hd⟩:=uh I S (zx8 n3)
   have hd2:=(xu I S hd).2
   rw[e] at hd2
   have edc:c=d:=zv8 hd2
   subst edc
   exact .inr ⟨uQ (env:=X.env) n3,c,hd,z.keeps old⟩
 case cell=>
  intro x c e
  obtain⟨v,q⟩:=I.cell x c (xu I S e).2
  exact⟨v,q.keeps old⟩
 case free=>
  show upd H2 acc _ C=none
  rw[zd cac]
  exact I.hok.fresh (by rw[hC];exact zA2 _)
 case freeC=>
  intro x c e
  have e':=(xu I S e).2
  have hlt:=clt x c e'
  show upd H2 acc _ c=none
  rw[zd (by rw[hacc];exact zv0 hlt)]
  exact I.freeC x c e'
 case len=>
  show (wg imp σ).length=N.length
  unfold wg
  rw[zt1]
  exact S.len
theorem jh {pl:List (Addr×Obj)}{τ:St}(I:Inv X pins σ H2 s2)(hf:∀b∈fp,yZ X pins H2 b)(J:Inv (X.comp N scope C s2 H2 fp) pl τ H' s'):Inv X pins σ H' s':=
 I.call' (ch:=fp) J.os J.base J.hok J.bare fun b hb=>⟨(hf b hb).2.2.2.1,(hf b hb).2.1,(hf b hb).2.2.2.2.1,(hf b hb).2.2.2.2.2⟩
end
section
variable {prog:Program}{w:World}{A:Around}{R:Result→Shared→Prop}{s:Shared}
theorem qJ {elt target iter:Expr}{ifs:List Expr}{scope:Scope}{pos:Pos}{it acc:Value}{env:Env}(I:Nat→Shared→Prop)
  (turn:∀n s,I n s→wpAny (model prog w) A (pyNext it) (fun r s1=>match r with
   |none=>R (.ok .next) s1
   |some v=>wpAny (model prog w) A (letOwnedTupleGo target it v) (fun _ s2=>wpAny (model prog w) A (assign target env v) (fun _ s3=>
     wpAny (model prog w) A (forIn ifs true fun c r=>if r=true then do let ok ←isTrue c env (eval c env);pure (ForInStep.yield ok) else pure (ForInStep.yield r)) (fun ok s4=>
      if ok=true then wpAny (model prog w) A (eval elt env) (fun x s5=>
       wpAny (model prog w) A (call (.builtin "list.append") [acc,x]) (fun _ s6=>∃m,m<n∧I m s6) (fun _ _=>False) s5) (fun _ _=>False) s4
      else ∃m,m<n∧I m s4) (fun _ _=>False) s3) (fun _ _=>False) s2) (fun _ _=>False) s1) (fun _ _=>False) s)
  (n:Nat) (h:I n s):codeAny (model prog w) A (.compLoop (.ListComp elt [⟨target,iter,ifs,0⟩] scope pos) 0 it acc env) R s:=by
 refine codeAny_loop rfl I (fun n s hI=>?_) n h
 show wpAny _ A ((compTurn (.ListComp elt [⟨target,iter,ifs,0⟩] scope pos) 0 it acc env).onRaise (fun x=>do noteFrame x env;theTreesLotGoes x)) _ _ s
 refine wpAny_noted ?_
 rw[compTurn_list]
 refine zs9 (zF0 (zs9 (zw2 (turn n s hI) (fun r s1 h1=>?_) fun _ _ h'=>False.elim h')))
 cases r with
 |none=>exact zt2 h1
 |some v=>
  refine zs9 (zw2 h1 (fun _ s2 h2=>?_) fun _ _ h'=>False.elim h')
  refine zs9 (zw2 h2 (fun _ s3 h3=>zs9 (zw2 h3 (fun ok s4 h4=>?_) fun _ _ h'=>False.elim h')) fun _ _ h'=>False.elim h')
  cases ok with
  |false=>exact zt2 ⟨rfl,h4⟩
  |true=>
   exact zs9 (zs9 (zw2 h4 (fun x s5 h5=>zs9 (zw2 h5 (fun _ s6 h6=>zt2 (zt2 ⟨rfl,h6⟩)) fun _ _ h'=>False.elim h')) fun _ _ h'=>False.elim h'))
end
def wX (Y:Cx)(ifs:List Expr)(t:TT):Prop:=
 ∀(pins:List (Addr×Obj)) (s:Shared) (σ:St) (H:Hp) (Q:Bool→Hp→Prop),Inv Y pins σ H s→t σ H Q→
  wpAny (model Y.prog Y.w) Y.A (forIn ifs true fun c r=>if r=true then do let ok ←isTrue c Y.env (eval c Y.env);pure (ForInStep.yield ok) else pure (ForInStep.yield r)) (TP Y pins σ Q) Y.xe s
def zs2 :TT:=fun _ H Q=>Q true H
theorem bh {Y:Cx}:wX Y [] zs2:=fun _ _ _ H _ I h=>wpAny_tests_nil ⟨H,I,h⟩
theorem lX {Y:Cx}{c:Expr}{t:TT}(h:PT Y c t):wX Y [c] t:=fun pins s σ H Q I q=>wpAny_tests_one (h pins s σ H Q I q)
def qT (J:It)(acc:Addr)(g:TG)(tt:TT)(te:TE)(τ0:St)(H0:Hp)(Q:VK):Prop:=
 ∃W:Nat→Nat→List V→St→Hp→Prop,(∃m,W 0 m [] τ0 H0)∧∀i m ys τ H2,W i m ys τ H2→
  (J.stop i H2∧Q (.ref acc) H2)∨(J.go i H2∧∃N:List V→St→Hp→Prop,(∀ys' τ' H',N ys' τ' H'→∃m',m'<m∧W (i+1) m' ys' τ' H')∧
   ∀x H3,J.yld i H2 x H3→g x τ H3 fun τ2 H4=>tt τ2 H4 fun c H5=>
    if c=true then te τ2 H5 fun y H6=>H6 acc=some (.lst ys)∧ys.length<sizeLine∧N (ys++[y]) τ2 (upd H6 acc (.lst (ys++[y]))) else N ys τ2 H5)
def gO (wi:TI)(imp:List (Option Nat))(g:TG)(tt:TT)(te:TE):TE:=fun σ H Q=>wi σ H fun J H1=>∀acc,H1 acc=none→qT J acc g tt te (wg imp σ) (upd H1 acc (.lst [])) Q
section
variable {X:Cx}{pins:List (Addr×Obj)}{σ:St}{elt iter tg:Expr}{ifs:List Expr}{scope:Scope}{pos:Pos}{wi:TI}{g:TG}{tt:TT}{te:TE}{N:List Str}{imp:List (Option Nat)}
theorem tM {H2:Hp}{s2:Shared}{it:Addr}{fp:List Addr}{tn:Nat→Heap→Prop}{J:It}{RR:Value→Addr→Result→Shared→Prop}{E:Value→Shared→Prop}{Q:VK}
  (hc:X.calm=true) (S:zS X.N X.env.scope N imp scope) (hg:∀C s2 H2 fp,PG (X.comp N scope C s2 H2 fp) tg g) (ht:∀C s2 H2 fp,wX (X.comp N scope C s2 H2 fp) ifs tt) (he:∀C s2 H2 fp,PE (X.comp N scope C s2 H2 fp) elt te)
  (I2:Inv X pins σ H2 s2) (T:Turn X.prog X.w X.K tg J fp it tn) (st2:tn 0 s2.heap) (f2:∀b∈fp,yZ X pins H2 b)
  (hW:∀acc,H2 acc=none→qT J acc g tt te (wg imp σ) (upd H2 acc (.lst [])) Q)
  (hRR:∀a C H' s' m,Inv X pins σ H' s'→s'.heap.Ns C m→yZ X pins H' C→Q (.ref a) H'→RR (.ref a) C (.ok .next) s'):
  wpAny (model X.prog X.w) X.A (newList []) (fun acc s3=>wpAny (model X.prog X.w) X.A (newFunctionEnv scope X.env.globals (vV X.env.cells scope.names []) [] X.env.qual none .none (some X.env)) (fun cenv s4=>
   codeAny (model X.prog X.w) X.A (.compStart (.ListComp elt [⟨tg,iter,ifs,0⟩] scope pos) 0 (.ref it) acc {cenv with scope:=relabel scope X.env}) (RR acc cenv.locals) s4) E s3) E s2:=by
 refine wpAny_newObj_type (wpAny_newFunctionEnv S.nocell (by intro y hy;simp at hy) (fun h1 hns1 hsb1=>?_) S.kind)
 dsimp only at hns1 hsb1 ⊢
 generalize hHH:s2.heap.push {cls:=.type "list",dict:=none,data:=.seq ([]:List Value).toArray}=HH at hns1 hsb1 ⊢
 have hC:HH.objs.size=s2.heap.objs.size+1:=by rw[←hHH,zx5]
 have hDC:s2.heap.objs.size≠HH.objs.size:=by rw[hC];exact zv0 (zC6 _)
 have old:∀b o,s2.heap.get? b=some o→h1.get? b=some o:=fun b o e=>hsb1.extBut b o (by rw[hC];exact zv0 (zB9 (zt6 e))) (zt0 _ (hHH▸zt0 _ e))
 have hacc:h1.get? s2.heap.objs.size=some {cls:=.type "list",data:=.seq ([]:List Value).toArray}:=hsb1.extBut _ _ hDC (zt0 _ (hHH▸zu0 _ rfl))
 obtain⟨W,⟨m0,w0⟩,turn⟩:=hW s2.heap.objs.size I2.fresh
 generalize hCC:HH.objs.size=C at hns1 hsb1 hC hDC ⊢
 have ho:∀b∈fp,∃o,s2.heap.get? b=some o:=fun b hb=>let ⟨o,e,_⟩:=T.obj 0 _ st2 b hb;⟨o,e⟩
 generalize hacc0:s2.heap.objs.size=acc at *
 have loop:∀s3:Shared,s3={s2 with heap:=h1,toks:=s2.toks+([]:List (Str×Value)).length}→
   codeAny (model X.prog X.w) X.A (.compLoop (.ListComp elt [⟨tg,iter,ifs,0⟩] scope pos) 0 (.ref it) (.ref acc) (X.comp N scope C s2 H2 fp).env) (RR (.ref acc) C) s3:=by
  rintro s3 rfl
  have I3:Inv (X.comp N scope C s2 H2 fp) [] (wg imp σ) (upd H2 acc (.lst [])) {s2 with heap:=h1,toks:=s2.toks+([]:List (Str×Value)).length}:=
   gX I2 S f2 ho hacc0.symm (by rw[hC,hacc0]) old hns1 hacc
  have fpn:∀b∈fp,upd H2 acc (.lst []) b=none:=fun b hb=>by
   obtain⟨o,e⟩:=ho b hb
   rw[zd (by rw[←hacc0];exact zv0 (zt6 e))]
   exact (f2 b hb).1
  have stat:∀{H':Hp},(∀b∈fp,H' b=none)→∀b∈fp,yZ (X.comp N scope C s2 H2 fp) [] H' b:=fun hn b hb=>by
   obtain⟨e1,e2⟩:=I3.ok.exf b hb
   exact⟨hn b hb,e1,I3.ok.exfs b hb,.inl hb,e2,fun p hp=>absurd (show p∈([]:List (Addr×Obj)) from hp) (by simp)⟩
  refine qJ (fun n s'=>∃i ys τ H',Inv (X.comp N scope C s2 H2 fp) [] τ H' s'∧tn i s'.heap∧(∀b∈fp,H' b=none)∧W i n ys τ H') ?_ m0
   ⟨0,[],_,_,I3,T.keep _ _ _ st2 fun b _ o e=>old b o e,fpn,w0⟩
  rintro n s4 ⟨i,ys,τ,H4,I4,st4,fr4,w4⟩
  rcases turn i n ys τ H4 w4 with ⟨stop,qn⟩|⟨go,NN,hN,step⟩
  ·refine zw2 (T.done (X.comp N scope C s2 H2 fp) rfl rfl rfl hc i [] s4 τ H4 (fun _ _=>False) I4 (stat fr4) st4 stop) (fun r s5 ⟨hr,I5⟩=>?_) fun _ _ z=>z
   subst hr
   obtain⟨m5,hn5,_⟩:=id I5.loc
   exact hRR acc C H4 s5 m5 (jh I2 f2 I5) hn5 (I2.fpOk (by rw[hC,hacc0];exact zA2 _) I5.free) qn
  ·refine zw2 (T.item (X.comp N scope C s2 H2 fp) rfl rfl rfl hc i [] s4 τ H4 (fun _ _=>False) I4 (stat fr4) st4 go) (fun r s5 ⟨u,hr,h5⟩=>?_) fun _ _ z=>z
   subst hr
   refine zw2 h5 (fun _ s6 ⟨x,H6,I6,r6,y6,st6,fr6⟩=>?_) fun _ _ z=>z
   have I6':=I6.pinned (stat fr6) (T.obj _ _ st6)
   refine zw2 (hg C s2 H2 fp _ s6 τ H6 x u _ I6' r6 (step x H6 y6)) (fun _ s7 ⟨τ7,H7,I7,q7⟩=>?_) fun _ _ z=>z
   refine zw2 (ht C s2 H2 fp _ s7 τ7 H7 _ I7 q7) (fun ok s8 ⟨H8,I8,q8⟩=>?_) fun _ _ z=>z
   have again:∀{ys9:List V} {H9:Hp} {s9:Shared},Inv (X.comp N scope C s2 H2 fp) ([]++tL fp s6.heap) τ7 H9 s9→NN ys9 τ7 H9→∃m,m<n∧∃i ys τ H',Inv (X.comp N scope C s2 H2 fp) [] τ H' s9∧tn i s9.heap∧(∀b∈fp,H' b=none)∧W i m ys τ H':=fun {ys9 H9 s9} I9 n9=>by
    obtain⟨m',hm,w9⟩:=hN ys9 τ7 H9 n9
    refine⟨m',hm,i+1,ys9,τ7,H9,I9.unpinned,T.keep _ _ _ st6 fun b hb o e=>(I9.pin (b,o) (zx4 _ (zx4 _ (wH hb e)))).1,fun b hb=>?_,w9⟩
    obtain⟨o,e,d⟩:=T.obj _ _ st6 b hb
    exact (I9.pin (b,o) (zx4 _ (zx4 _ (wH hb e)))).2.1
   cases ok with
   |false=>
    have q8':NN ys τ7 H8:=by
     have z:=q8
     rw[if_neg zu3] at z
     exact z
    rw[if_neg zu3]
    exact again I8 q8'
   |true=>
    rw[if_pos rfl] at q8 ⊢
    refine zw2 (he C s2 H2 fp _ s8 τ7 H8 _ I8 q8) (fun v s9 ⟨y,H9,I9,r9,a9,z9,q9⟩=>?_) fun _ _ z=>z
    refine zw2 (ux (X:=X.comp N scope C s2 H2 fp) _ s9 τ7 H9 (.ref acc) [y] (.ref acc) [v] (fun _ H10=>H10=upd H9 acc (.lst (ys++[y]))) I9 rfl (.cons r9 .nil) ⟨acc,ys,y,rfl,rfl,a9,z9,rfl⟩) (fun _ s10 ⟨_,H10,I10,_,e10⟩=>?_) fun _ _ z=>z
    subst e10
    exact again I10 q9
 exact codeAny_compStart_list (loop _ rfl) (T.self X.A 0 _ _ _ (T.keep _ _ _ st2 fun b _ o e=>old b o e) (loop _ rfl))
theorem aN (hc:X.calm=true)(S:zS X.N X.env.scope N imp scope)(hi:PI X tg iter wi)(hg:∀C s2 H2 fp,PG (X.comp N scope C s2 H2 fp) tg g)(ht:∀C s2 H2 fp,wX (X.comp N scope C s2 H2 fp) ifs tt)
  (he:∀C s2 H2 fp,PE (X.comp N scope C s2 H2 fp) elt te) (hs:∀x,foldedSetIterable iter X.env x=pure x:=by intro _;rfl):
  PE X (.ListComp elt [⟨tg,iter,ifs,0⟩] scope pos) (gO wi imp g tt te):=by
 intro pins s σ H Q I h
 rw[eval_ListComp]
 refine wpAny_comprehension_free (use:=none) rfl hs (vK (vU I S)) S.kind S.locs (thn (hi pins s σ H _ I h) fun v s1 h1=>thn h1 fun itv s2 h2=>?_)
 obtain⟨it,fp,tn,J,H2,e,I2,T,st2,f2,hW⟩:=h2
 subst e
 refine tM (RR:=fun acc C=>compPost (model X.prog X.w) X.A X.xe none (EP X pins σ Q) acc C) hc S hg ht he I2 T st2 f2 hW fun a C H' s' m I' hn f q=>?_
 refine⟨m,hn,fun h' sb=>?_⟩
 obtain⟨g0,g1,g2,g3,g4,g5⟩:=f
 exact⟨.ref a,H',I'.turned (t':=s'.toks) (it:=C) (fun b o hb e=>(sb.2 b hb).trans e) g0 g1 g3 g4 g5,rfl,q⟩
theorem eL {i:Nat}{x:Str}{px:Pos}{spos:Pos}(hc:X.calm=true)(S:zS X.N X.env.scope N imp scope)(hi:PI X tg iter wi)(hg:∀C s2 H2 fp,PG (X.comp N scope C s2 H2 fp) tg g)(ht:∀C s2 H2 fp,wX (X.comp N scope C s2 H2 fp) ifs tt)
  (he:∀C s2 H2 fp,PE (X.comp N scope C s2 H2 fp) elt te) (hN:X.N.Nodup) (hx:X.N[i]?=some x) (hl:Loc X.env.scope x) (hsw:swapsWith (.ListComp elt [⟨tg,iter,ifs,0⟩] scope pos) (some (.Name x px)) spos.line X.env=pure true:=by rfl)
  (hf:X.fn x=true∨X.env.scope.names.lookup x=some .local:=by first|exact .inl rfl|exact .inr rfl|assumption) (hs:∀x,foldedSetIterable iter X.env x=pure x:=by intro _;rfl):
  PS X (.Assign [.Name x px] (.ListComp elt [⟨tg,iter,ifs,0⟩] scope pos) spos) (zb7 (gO wi imp g tt te) (sN i)):=by
 intro pins s σ H D I h
 rw[exec_Assign_Name_used _ _ _ _ hsw]
 refine zs9 (zF0 (zs9 ?_))
 show wpAny _ X.A (do let _ ←comprehension (.ListComp elt [⟨tg,iter,ifs,0⟩] scope pos) scope X.env _ (newList []) false (eval iter X.env) (some (assign (.Name x px) X.env))) _ _ s
 refine zs9 (zw2 (wpAny_comprehension_free (use:=some (assign (.Name x px) X.env)) (Q:=fun _ s'=>SP X pins D .next s') rfl hs (vK (vU I S)) S.kind S.locs (thn (hi pins s σ H _ I h) fun v s1 h1=>thn h1 fun itv s2 h2=>?_))
  (fun _ s' hq=>zt2 (zt2 hq)) fun _ _ e=>e)
 obtain⟨it,fp,tn,J,H2,e,I2,T,st2,f2,hW⟩:=h2
 subst e
 refine tM (Q:=fun x H1=>sN i x σ H1 D.nx) (RR:=fun acc C=>compPost (model X.prog X.w) X.A X.xe (some (assign (.Name x px) X.env)) (fun _ s'=>SP X pins D .next s') acc C) hc S hg ht he I2 T st2 f2 hW fun a C H' s' m I' hn f q=>?_
 show wpAny _ X.A (assign (.Name x px) X.env (.ref a)) _ _ _
 obtain⟨g0,g1,g2,g3,g4,g5⟩:=f
 refine wpAny_assign_Name (rG I' hN hx hl (show RelV (.ref a) (.ref a) from rfl) (fun s4 I4 hch=>?_) hf)
 obtain⟨ad,sb,had⟩:=hch
 have hCa:C≠ad:=by
  rcases had with e|e
  ·rw[e];exact g1
  ·exact (g4 x ad e).symm
 refine⟨m,hn.sameBut sb hCa,fun h' sb2=>?_⟩
 exact⟨_,H',I4.turned (t':=s4.toks) (it:=C) (fun b o hb e=>(sb2.2 b hb).trans e) g0 g1 g3 g4 g5,q⟩
end
mutual
inductive DV (H:Hp):V→PyData→Prop where
 |non:DV H .non .none
 |bl (b:Bool):DV H (.bl b) (.bool b)
 |int (i:Int):DV H (.int i) (.int i)
 |str (x:Str):DV H (.str x) (.str x)
 |lst {a:Addr} {xs:List V} {ds:List PyData}:H a=some (.lst xs)→DVs H xs ds→DV H (.ref a) (.list ds)
 |tup {a:Addr} {xs:List V} {ds:List PyData}:H a=some (.tup xs)→DVs H xs ds→DV H (.ref a) (.tuple ds)
inductive DVs (H:Hp):List V→List PyData→Prop where
 |nil:DVs H [] []
 |cons {x:V} {xs:List V} {d:PyData} {ds:List PyData}:DV H x d→DVs H xs ds→DVs H (x::xs) (d::ds)
end
section
variable {X:Cx}{pins:List (Addr×Obj)}{σ:St}{H:Hp}{s:Shared}
mutual
theorem DV.reads (I:Inv X pins σ H s):∀{x:V} {d:PyData} {u:Value},DV H x d→RelV x u→∃as,Reads s.heap u d as
 |_,_,u,.non,r=>by cases (show u=Value.none from r);exact⟨_,.none⟩
 |_,_,u,.bl b,r=>by cases (show u=Value.bool b from r);exact⟨_,.bool b⟩
 |_,_,u,.int i,r=>by obtain⟨t,rfl⟩:=(show ∃t,u=Value.int i t from r);exact⟨_,.int i t⟩
 |_,_,u,.str x,r=>by obtain⟨t,rfl⟩:=(show ∃t,u=Value.str x t from r);exact⟨_,.str x t⟩
 |_,_,u,.lst (a:=a) hq hs,r=>by
  cases (show u=Value.ref a from r)
  obtain⟨its,rv,p,hz⟩:=I.list (SqL.of hq)
  obtain⟨o,ho,hc,n,hd⟩:=p.isList
  obtain⟨as,ra⟩:=DVs.reads I hs rv
  exact⟨_,.list ho hc hd (by simpa using ra)⟩
 |_,_,u,.tup (a:=a) hq hs,r=>by
  cases (show u=Value.ref a from r)
  obtain⟨its,rv,p,hz⟩:=I.tuple (SqT.of hq)
  obtain⟨o,ho,hc,n,hd⟩:=p
  obtain⟨as,ra⟩:=DVs.reads I hs rv
  exact⟨_,.tuple ho hc hd (by simpa using ra)⟩
theorem DVs.reads (I:Inv X pins σ H s):∀{xs:List V} {ds:List PyData} {us:List Value},DVs H xs ds→Vals xs us→∃as,ReadsAll s.heap us ds as
 |_,_,_,.nil,.nil=>⟨_,.nil⟩
 |_,_,_,.cons h hs,.cons r rs=>by
  obtain⟨as,ra⟩:=DV.reads I h r
  obtain⟨bs,rb⟩:=DVs.reads I hs rs
  exact⟨_,.cons ra rb⟩
end
end
mutual
theorem DV.same {H H':Hp}(e:zC H H'):∀{x:V} {d:PyData},DV H x d→DV H' x d
 |_,_,.non=>.non
 |_,_,.bl b=>.bl b
 |_,_,.int i=>.int i
 |_,_,.str x=>.str x
 |_,_,.lst hq hs=>.lst (e _ _ hq) (DVs.same e hs)
 |_,_,.tup hq hs=>.tup (e _ _ hq) (DVs.same e hs)
theorem DVs.same {H H':Hp}(e:zC H H'):∀{xs:List V} {ds:List PyData},DVs H xs ds→DVs H' xs ds
 |_,_,.nil=>.nil
 |_,_,.cons h hs=>.cons (DV.same e h) (DVs.same e hs)
end
theorem DVs.length {H:Hp}:∀{xs:List V} {ds:List PyData},DVs H xs ds→xs.length=ds.length
 |_,_,.nil=>rfl
 |_,_,.cons _ hs=>by rw[zu5,zu5,DVs.length hs]
def tyD :PyData→String
 |.none=>"NoneType"
 |.bool _=>"bool"
 |.int _=>"int"
 |.str _=>"str"
 |.list _=>"list"
 |.tuple _=>"tuple"
 |.dict _=>"dict"
theorem DV.ty {K:PySem.W.Frag}{H:Hp}{x:V}{d:PyData}(h:DV H x d):ug K H x (.type (tyD d)):=by
 cases h with
 |non=>exact .non
 |bl b=>exact .bl b
 |int i=>exact .int i
 |str x=>exact .str x
 |lst e _=>exact .lst e
 |tup e _=>exact .tup e
def isInt :PyData→Bool
 |.int _=>true
 |.bool _=>true
 |_=>false
def isBool :PyData→Bool
 |.bool _=>true
 |_=>false
def isStr :PyData→Bool
 |.str _=>true
 |_=>false
def isList :PyData→Bool
 |.list _=>true
 |_=>false
def kK :PyData→Bool
 |.tuple _=>true
 |_=>false
def qr (T:String)(d:PyData):Option Bool:=
 if T="int" then some (isInt d) else if T="bool" then some (isBool d) else if T="str" then some (isStr d) else if T="list" then some (isList d) else if T="tuple" then some (kK d) else none
def ze1 (t T:String):Option Bool:=if (Value.type t == Value.type T)=true then some true else if PySem.W.kitMeta T=true then (fastBuiltinMro t).map (·.contains (Value.type T)) else none
theorem gj (K:PySem.W.Frag)(t T:String):PySem.W.kitOne K (.type t) (.type T)=ze1 t T:=rfl
theorem dh :(["NoneType","bool","int","str","list","tuple"].all fun t=>["int","bool","str","list","tuple"].all fun T=>
  ze1 t T == some (if T="int" then t == "int"||t == "bool" else t == T))=true:=by decide +kernel
theorem zl4 (K:PySem.W.Frag){H:Hp}{x:V}{d:PyData}(h:DV H x d){T:String}{b:Bool}(e:qr T d=some b):PySem.W.kitOne K (.type (tyD d)) (.type T)=some b:=by
 rw[gj]
 have key:∀t∈["NoneType","bool","int","str","list","tuple"],∀T∈["int","bool","str","list","tuple"],ze1 t T=some (if T="int" then t == "int"||t == "bool" else t == T):=fun t ht T hT=>
  eq_of_beq (zC7.mp (zC7.mp dh t ht) T hT)
 have hd:tyD d∈["NoneType","bool","int","str","list","tuple"]:=by cases h<;>simp[tyD]
 unfold qr at e
 split at e
 ·rename_i eT
  subst eT
  rw[key _ hd "int" (by decide)]
  cases e
  cases h<;>rfl
 ·split at e
  ·rename_i eT
   subst eT
   rw[key _ hd "bool" (by decide)]
   cases e
   cases h<;>rfl
  ·split at e
   ·rename_i eT
    subst eT
    rw[key _ hd "str" (by decide)]
    cases e
    cases h<;>rfl
   ·split at e
    ·rename_i eT
     subst eT
     rw[key _ hd "list" (by decide)]
     cases e
     cases h<;>rfl
    ·split at e
     ·rename_i eT
      subst eT
      rw[key _ hd "tuple" (by decide)]
      cases e
      cases h<;>rfl
     ·cases e
section
variable {X:Cx}
def zl7 :R2:=fun x y H Q=>∃d e,DV H x d∧DV H y e∧SeqAt.shaped d=true∧SeqAt.shaped e=true∧Q (.bl (PyData.eqv d e)) H
def zn9 :R2:=fun x y H Q=>∃d e,DV H x d∧DV H y e∧SeqAt.shaped d=true∧SeqAt.shaped e=true∧Q (.bl (!PyData.eqv d e)) H
theorem wU (hu:X.A.units+64<cLine):OpR X (compareOp .Eq) zl7:=by
 intro pins s σ H x y v u Q I rx ry h
 obtain⟨d,e,hd,he,sd,se,q⟩:=h
 obtain⟨as,ra⟩:=hd.reads I rx
 obtain⟨bs,rb⟩:=he.reads I ry
 exact SeqAt.compareEq_shaped ra rb sd se hu ⟨.bl _,H,I,rfl,q⟩
theorem zg3 (hu:X.A.units+64<cLine):OpR X (compareOp .NotEq) zn9:=by
 intro pins s σ H x y v u Q I rx ry h
 obtain⟨d,e,hd,he,sd,se,q⟩:=h
 obtain⟨as,ra⟩:=hd.reads I rx
 obtain⟨bs,rb⟩:=he.reads I ry
 exact SeqAt.compareNe_shaped ra rb sd se hu ⟨.bl _,H,I,rfl,q⟩
theorem dr :wL X (.builtin "isinstance") (fun xs H Q=>∃x T t b,xs=[x,.ty T]∧ug X.K H x t∧PySem.W.kitOne X.K t (.type T)=some b∧Q (.bl b) H):=by
 intro pins s σ H xs us Q I r h
 obtain⟨x,T,t,b,rfl,ty,e,q⟩:=h
 obtain⟨u,v,rfl,rx,ry⟩:=Vals.two r
 cases (show v=Value.type T from ry)
 exact ik I rx ty e fun tk=>⟨.bl b,H,I.tok tk,rfl,q⟩
theorem wa :wL X (.builtin "isinstance") (fun xs H Q=>∃x T d b,xs=[x,.ty T]∧DV H x d∧qr T d=some b∧Q (.bl b) H):=by
 intro pins s σ H xs us Q I r h
 obtain⟨x,T,d,b,e,hd,ht,q⟩:=h
 exact dr pins s σ H xs us Q I r ⟨x,T,_,b,e,hd.ty,zl4 X.K hd ht,q⟩
def zp5 (i j:Int):Prop:=0<j∧j.natAbs.log2<9000
theorem rg :OpR X (binaryOp .FloorDiv) (rI zp5 fun i j=>.int (i / j)):=opI fun i j _ _ _ _ _ hc q=>by
 have h1:(0:Int)<j:=hc.1
 refine floordiv_int (Int.ne_of_gt h1) ?_ (.inl (PyProof.noPylong_of_log2 hc.2))
 rw[Int.fdiv_eq_ediv_of_nonneg _ (Int.le_of_lt h1)]
 exact q
abbrev big :Int:=115792089237316195423570985008687907853269984665640564039457584007913129639936
theorem log2_small {j:Int}(h0:0<j)(h:j<big):j.natAbs.log2<9000:=by
 have hn:j.natAbs≠0:=by omega
 have h2:j.natAbs<2 ^ 256:=by
  have e:(2:Nat) ^ 256=115792089237316195423570985008687907853269984665640564039457584007913129639936:=by decide +kernel
  rw[e]
  unfold big at h
  omega
 have h3:j.natAbs.log2<256:=(Nat.log2_lt hn).mpr h2
 omega
theorem pN :wL X (.type "range") (fun xs H Q=>∃i j:Int,xs=[.int i,.int j]∧∀p,H p=none→Q (.ref p) (upd H p (.rng i j))):=by
 intro pins s σ H xs us Q I r h
 obtain⟨i,j,rfl,q⟩:=h
 obtain⟨u,v,rfl,⟨t,rfl⟩,⟨t',rfl⟩⟩:=Vals.two r
 refine call_range_2 ⟨.ref s.heap.objs.size,_,I.laid (o:=.rng i j) (fun b u e=>zt0 _ e) (zt8 _) ⟨t,t',s.toks,zu0 _ rfl⟩,rfl,q _ (I.hok.fresh (zt8 _))⟩
def zw (lo:Int)(n:Nat):List Int:=(List.range n).map fun i=>lo+(i:Nat)
theorem zh (lo:Int)(n:Nat):(zw lo n).length=n:=by simp[zw]
theorem yM {lo:Int}{n i:Nat}(h:i<n):(zw lo n)[i]?=some (lo+(i:Nat)):=by simp[zw,h]
theorem rA {lo:Int}{n:Nat}{acc:Array Value}(h:ItemsOf (fun i v=>∃t,v=.int (lo+i*1) t) acc n):Vals ((zw lo n).map V.int) acc.toList:=by
 obtain⟨h1,h2⟩:=h
 have key:∀(xs:List V) (us:List Value),xs.length=us.length→(∀(i:Nat) (x:V) (u:Value),xs[i]?=some x→us[i]?=some u→RelV x u)→Vals xs us:=by
  intro xs
  induction xs with
  |nil=>intro us hl _;cases us with|nil=>exact .nil|cons _ _=>simp at hl
  |cons x xs ih=>
   intro us hl hr
   cases us with
   |nil=>simp at hl
   |cons u us=>exact .cons (hr 0 x u rfl rfl) (ih us (by simpa using hl) fun i x' u' e1 e2=>hr (i+1) x' u' (by simpa using e1) (by simpa using e2))
 refine key _ _ ?_ fun i x u e1 e2=>?_
 ·rw[zt1,zh]
  simp[h1]
 ·rw[zu7] at e1
  have hi:i<n:=by
   have:=(zt5.mp e2).1
   simp[h1] at this
   exact this
  rw[yM hi] at e1
  have e1':V.int (lo+(i:Nat))=x:=zv8 e1
  subst e1'
  obtain⟨t,ht⟩:=h2 i u (by simpa using e2)
  refine⟨t,?_⟩
  rw[ht,Int.mul_one]
theorem rj (hc:X.calm=true):wL X (.type "list") (fun xs H Q=>∃(p:Addr) (lo hi:Int),xs=[.ref p]∧H p=some (.rng lo hi)∧(-(2 ^ 62)≤lo∧lo<2 ^ 62∧-(2 ^ 62)≤hi∧hi<2 ^ 62)∧(hi-lo).toNat≤sizeLine∧(hi-lo).toNat≤2 ^ 24∧
  ∀l,H l=none→Q (.ref l) (upd H l (.lst ((zw lo (hi-lo).toNat).map V.int)))):=by
 intro pins s σ H xs us Q I r h
 obtain⟨p,lo,hi,rfl,hp,⟨b1,b2,b3,b4⟩,hz,hz2,q⟩:=h
 obtain⟨u,rfl,rx⟩:=Vals.one r
 cases (show u=Value.ref p from rx)
 obtain⟨t,t',t'',e⟩:=(show zY X.prog X.w H s.heap p (.rng lo hi) from I.hok p _ hp)
 refine call_list_range (I.ok.hd hc) e (small_one b1 b2 b3 b4) (n:=(hi-lo).toNat) (by rw[rangeSize_one];split<;>omega) hz2 fun h' tk acc' c' hk hl hit=>?_
 refine⟨.ref s.heap.objs.size,_,I.laid (o:=.lst ((zw lo (hi-lo).toNat).map V.int)) (t':=tk) hk (zt8 _) ⟨by rw[zt1,zh];exact hz,acc'.toList,c',rA hit,by simpa using hl⟩,rfl,q _ (I.hok.fresh (zt8 _))⟩
end
def jU (X:Cx)(body:List Stmt):TS:=fun D σ H=>∃t,PSs X body t∧t D σ H
theorem zZ {X:Cx}{body:List Stmt}:PSs X body (jU X body):=fun pins s σ H D I ⟨t,p,q⟩=>p pins s σ H D I q
theorem yc {X:Cx}{st:Stmt}{rest:List Stmt}{D:Ends}{σ:St}{H:Hp}(M:St→Hp→Prop)(h1:∃t,PS X st t∧t {D with nx:=M} σ H)(h2:∀σ' H',M σ' H'→∃t,PSs X rest t∧t D σ' H'):
  ∃t,PSs X (st::rest) t∧t D σ H:=by
 obtain⟨t1,p1,q1⟩:=h1
 refine⟨fun D' σ' H'=>D'=D∧σ'=σ∧H'=H,?_,rfl,rfl,rfl⟩
 intro pins s σ' H' D' I h
 obtain⟨e1,e2,e3⟩:=h
 subst e1 e2 e3
 have step:PSs X (st::rest) (zm1 t1 fun D2 σ2 H2=>D2=D'∧M σ2 H2):=zH p1 fun pins s σ2 H2 D2 I2 ⟨e,m⟩=>by
  subst e
  obtain⟨t2,p2,q2⟩:=h2 σ2 H2 m
  exact p2 pins s σ2 H2 _ I2 q2
 refine step pins s _ _ _ I ?_
 show t1 {D' with nx:=fun σ2 H2=>D'=D'∧M σ2 H2} _ _
 have e:(fun (σ2:St) (H2:Hp)=>D'=D'∧M σ2 H2)=M:=by
  funext σ2 H2
  exact propext ⟨fun z=>z.2,fun z=>⟨rfl,z⟩⟩
 rw[e]
 exact q1
theorem iE {K:PySem.W.Frag}{a acc:Addr}{xs:List V}{g:TG}{tt:TT}{te:TE}{Q:VK}{τ0:St}{H0:Hp}(Pv:Nat→List V→St→Hp→Prop)(h0:Pv 0 [] τ0 H0)(hl:∀i ys τ H,i≤xs.length→Pv i ys τ H→SqL K H a xs)
  (hs:∀i x ys τ H,xs[i]?=some x→Pv i ys τ H→g x τ H fun τ2 H4=>tt τ2 H4 fun c H5=>
   if c=true then te τ2 H5 fun y H6=>H6 acc=some (.lst ys)∧ys.length<sizeLine∧Pv (i+1) (ys++[y]) τ2 (upd H6 acc (.lst (ys++[y]))) else Pv (i+1) ys τ2 H5)
  (hd:∀ys τ H,Pv xs.length ys τ H→Q (.ref acc) H):
  qT (Itl K a) acc g tt te τ0 H0 Q:=by
 refine⟨fun i m ys τ H=>m=xs.length-i∧i≤xs.length∧Pv i ys τ H,⟨xs.length,by simp,zu6 _,h0⟩,?_⟩
 rintro i m ys τ H ⟨rfl,hi,p⟩
 have q:=hl i ys τ H hi p
 by_cases hlt:i<xs.length
 ·refine .inr ⟨⟨xs,xs[i],q,by simp[hlt]⟩,Pv (i+1),fun ys' τ' H' p'=>⟨xs.length-(i+1),by omega,rfl,hlt,p'⟩,fun x H' y=>?_⟩
  obtain⟨e,y⟩:=y
  subst e
  exact hs i x ys τ _ (y xs q) p
 ·have e:i=xs.length:=by omega
  subst e
  exact .inl ⟨⟨xs,q,zt8 _⟩,hd ys τ H p⟩
theorem at0 {α:Type}{x:α}{xs:List α}:atI (x::xs) 0=some x:=xr (j:=0) rfl
theorem ix0 {α:Type}{x:α}{xs:List α}:ixN (x::xs).length 0=some 0:=by
 unfold ixN
 rw[if_pos (Int.le_refl _),if_pos (by rw[zu5];omega)]
 rfl
theorem zq6 {α:Type}{x:α}{xs:List α}:seqIndex? 0 (x::xs).length=some 0:=(qv ix0).1
theorem dg (ns:List Int)(lo hi:Option Int):∃ms:List Int,jE (ns.map V.int) lo hi=ms.map V.int∧ms.length≤ns.length:=by
 refine⟨(ns.drop (HT.sIx (ns.map V.int).length 0 lo)).take (HT.sIx (ns.map V.int).length (ns.map V.int).length hi-HT.sIx (ns.map V.int).length 0 lo),?_,?_⟩
 ·unfold jE
  rw[List.map_take,List.map_drop]
 ·rw[zz7,List.length_drop]
  omega
structure yH (H:Hp)(t b c:Addr):Prop where
 ex:∃(n:Int) (bs cs:List Int),b≠c∧H t=some (.lst [.ref b,.ref c,.int n])∧H b=some (.lst (bs.map V.int))∧H c=some (.lst (cs.map V.int))∧bs.length≤63∧cs.length≤63
theorem kF {b c:Addr}{n:Int}(bs:List Int):HO.lst [.ref b,.ref c,.int n]≠HO.lst (bs.map V.int):=by
 intro z
 injection z with z
 cases bs with
 |nil=>cases z
 |cons x r=>cases z
def qt (t b:Addr)(H H':Hp):Prop:=∀a,a≠t→a≠b→H' a=H a
theorem qt.trans {t b:Addr}{H H1 H2:Hp}(h:qt t b H H1)(k:qt t b H1 H2):qt t b H H2:=fun a h1 h2=>(k a h1 h2).trans (h a h1 h2)
def mY (K:PySem.W.Frag):Sp:=fun vs H Q _=>∃(a:Addr) (ns:List Int),vs=[.ref a]∧SqL K H a (ns.map V.int)∧ns.length≤63∧
 ∀(t b c:Addr) (H':Hp),yH H' t b c→H t=none→H b=none→H c=none→zC H H'→Q (.ref t) H'
def gA :Sp:=fun vs H Q _=>∃(t b c:Addr) (many:Int),vs=[.ref t,.int many]∧yH H t b c∧0<many∧many<big∧
 ∀(v:Int) (H':Hp),0≤v→v<many→yH H' t b c→qt t b H H'→Q (.int v) H'
theorem yH.free {H:Hp}{t b c l:Addr}(T:yH H t b c)(h:H l=none):l≠t∧l≠b∧l≠c:=by
 obtain⟨n,bs,cs,n1,e1,e2,e3,l1,l2⟩:=T.ex
 exact⟨(zo e1 h).symm,(zo e2 h).symm,(zo e3 h).symm⟩
theorem yH.off {H H':Hp}{t b c:Addr}(T:yH H t b c)(h:∀a,a=t∨a=b∨a=c→H' a=H a):yH H' t b c:=by
 obtain⟨n,bs,cs,n1,e1,e2,e3,l1,l2⟩:=T.ex
 exact⟨n,bs,cs,n1,by rw[h t (.inl rfl)];exact e1,by rw[h b (.inr (.inl rfl))];exact e2,by rw[h c (.inr (.inr rfl))];exact e3,l1,l2⟩
theorem dE {H:Hp}{t b c l:Addr}{o:HO}(T:yH H t b c)(h:l≠t∧l≠b∧l≠c):yH (upd H l o) t b c:=
 T.off fun a ha=>zd (ha.elim (fun e=>e▸h.1.symm) fun ha=>ha.elim (fun e=>e▸h.2.1.symm) fun e=>e▸h.2.2.symm)
theorem jD {H H':Hp}{t b c:Addr}(T:yH H t b c)(s:zC H H'):yH H' t b c:=by
 obtain⟨n,bs,cs,n1,e1,e2,e3,l1,l2⟩:=T.ex
 exact⟨n,bs,cs,n1,s _ _ e1,s _ _ e2,s _ _ e3,l1,l2⟩
theorem yr {H:Hp}{p:Addr}{o:HO}(h:H p=none):zC H (upd H p o):=fun b u e=>by rw[zd (zo e h)];exact e
def yx :Addr:=(128:Nat)
def xH :Str:="cheapest_first.<locals>.<lambda>"
def tP (x:Addr):Prop:=x=yx
def tf (c:Addr):HO:=.ext fun h=>h.CodeRec (.ref c) xH
structure TabAt (H:Hp):Prop where
 ex:∃ps:Array Value,H yx=some (.tbl ps)∧TriplesOk ps.toList∧∀pos cv,codeAmong pos ps.toList=some cv→∃c,cv=.ref c∧H c=some (tf c)
theorem sS {H H':Hp}(T:TabAt H)(h:∀a o,(∀xs,o≠.lst xs)→H a=some o→H' a=some o):TabAt H':=by
 obtain⟨ps,e1,e2,e3⟩:=T.ex
 refine⟨ps,h _ _ (fun xs z=>nomatch z) e1,e2,fun pos cv hc=>?_⟩
 obtain⟨c,rfl,e4⟩:=e3 pos cv hc
 exact⟨c,rfl,h _ _ (fun xs z=>nomatch z) e4⟩
def Plain (H:Hp)(l:Addr):Prop:=∀o,H l=some o→o≠tf l∧∀ps,o≠.tbl ps
theorem cF {H:Hp}{l:Addr}{o:HO}(T:TabAt H)(h:Plain H l):TabAt (upd H l o):=by
 obtain⟨ps,e1,e2,e3⟩:=T.ex
 have n1:yx≠l:=fun z=>by rw[z] at e1;exact (h _ e1).2 ps rfl
 refine⟨ps,by rw[zd n1];exact e1,e2,fun pos cv hc=>?_⟩
 obtain⟨c,rfl,e4⟩:=e3 pos cv hc
 have n2:c≠l:=fun z=>by subst z;exact (h _ e4).1 rfl
 exact⟨c,rfl,by rw[zd n2];exact e4⟩
theorem iC {ps:Array Value}:∀ts,HO.tbl ps≠HO.tup ts:=fun _ z=>by cases z
theorem qm {H:Hp}{x:Addr}(T:TabAt H)(h:tP x):∃o,H x=some o∧(∀ts,o≠.tup ts)∧∀xs,o≠.lst xs:=by
 obtain⟨ps,e1,_⟩:=T.ex
 exact⟨_,by rw[h];exact e1,iC,fun _ z=>by cases z⟩
theorem vH {H:Hp}{l:Addr}{xs:List V}(h:H l=some (.lst xs)):Plain H l:=fun o e=>by
 rw[h] at e;cases e
 exact⟨(fun z=>by cases z),fun ps z=>by cases z⟩
theorem fB {H:Hp}{l:Addr}{xs:List (Key×V)}(h:H l=some (.dK xs)):Plain H l:=fun o e=>by
 rw[h] at e;cases e
 exact⟨(fun z=>by cases z),fun ps z=>by cases z⟩
theorem jP {H:Hp}{l C dx:Addr}{fs:List (Str×V)}(h:H l=some (.ins C dx fs)):Plain H l:=fun o e=>by
 rw[h] at e;cases e
 exact⟨(fun z=>by cases z),fun ps z=>by cases z⟩
theorem pO {H:Hp}{l:Addr}(T:TabAt H)(h:H l=none):¬tP l:=fun z=>by
 obtain⟨o,e,_⟩:=qm T z
 rw[h] at e;cases e
theorem cY {H H':Hp}{t b:Addr}{xs ys:List V}(T:TabAt H)(ht:H t=some (.lst xs))(hb:H b=some (.lst ys))(off:qt t b H H'):TabAt H':=sS T fun a o no e=>by
 have n1:a≠t:=fun z=>by rw[z,ht] at e;cases e;exact no _ rfl
 have n2:a≠b:=fun z=>by rw[z,hb] at e;cases e;exact no _ rfl
 rw[off a n1 n2];exact e
theorem eX {H H':Hp}(T:TabAt H)(h:zC H H'):TabAt H':=sS T fun a o _ e=>h a o e
def oi (K:PySem.W.Frag):Sp:=fun vs H Q _=>∃(a:Addr) (ns:List Int),vs=[.ref a]∧SqL K H a (ns.map V.int)∧ns.length≤63∧TabAt H∧∀H',Q (.bl true) H'
structure zb8 (mg:Str→Option Value):Prop where
 abs:mg "abs"=none
 list:mg "list"=none
 len:mg "len"=none
theorem aG (d:PyData):qr "int" d=some (isInt d):=by unfold qr;rw[if_pos rfl]
theorem sx (d:PyData):qr "bool" d=some (isBool d):=by unfold qr;rw[if_neg (by decide),if_pos rfl]
theorem rR (d:PyData):qr "tuple" d=some (kK d):=by unfold qr;rw[if_neg (by decide),if_neg (by decide),if_neg (by decide),if_neg (by decide),if_pos rfl]
structure zT (n:Nat)(d:PyData):Prop where
 shw:d.showable=true
 nod:d.hasDict=false
 dep:d.depth≤8
 len:d.shown.length≤n
 lay:d.canLay0=true
theorem zT.mono {m n:Nat}{d:PyData}(h:zT m d)(e:m≤n):zT n d:=⟨h.shw,h.nod,h.dep,zx9 h.len e,h.lay⟩
theorem uR :∀(ts:List Str) (k:Nat) (acc:Str),(textFrom k acc ts).length≤acc.length+piled ts
 |[],_,acc=>by rw[piled_nil];exact zt8 _
 |t::r,k,acc=>by
  have h:=uR r (k+1) (acc++(if k > 0 then ", " else "":String)++t)
  rw[piled_cons]
  have e2:(Str.ofString (if k > 0 then ", " else "":String)).length≤2:=by
   split
   ·exact zH8 rfl
   ·exact zu6 _
  have e3:=zy7 (acc++Str.ofString (if k > 0 then ", " else "":String)) t
  have e4:=zy7 acc (Str.ofString (if k > 0 then ", " else "":String))
  show (textFrom (k+1) (acc++Str.ofString (if k > 0 then ", " else "":String)++t) r).length≤_
  have h':(textFrom (k+1) (acc++Str.ofString (if k > 0 then ", " else "":String)++t) r).length≤(acc++Str.ofString (if k > 0 then ", " else "":String)++t).length+piled r:=h
  omega
theorem oV (ts:List Str):(listText ts).length≤piled ts+2:=by
 unfold listText
 rw[zy7]
 have h:=uR ts 0 (Str.ofString "[")
 have e1:(Str.ofString "[").length=1:=rfl
 have e2:(Str.ofString "]").length=1:=rfl
 show (textFrom 0 (Str.ofString "[") ts).length+(Str.ofString "]").length≤_
 omega
theorem pw (ts:List Str):(tupleText ts).length≤piled ts+3:=by
 cases ts with
 |nil=>decide +kernel
 |cons t r=>
  have h:=join_length_add (t::r) (by simp)
  unfold tupleText
  rw[zy7,zy7]
  have e1:(Str.ofString "(").length=1:=rfl
  have e2:(Str.ofString (if (t::r).length == 1 then ",)" else ")":String)).length≤2:=by
   split
   ·exact zH8 rfl
   ·exact zy6 (show 1<2 by decide)
  show (Str.ofString "(").length+(Str.join ", " (t::r)).length+(Str.ofString (if (t::r).length == 1 then ",)" else ")":String)).length≤_
  omega
theorem vc {n:Nat}:∀(ds:List PyData),(∀d∈ds,zT n d)→piled (PyData.shownAll ds)≤ds.length*(n+2)
 |[],_=>zu6 _
 |d::r,h=>by
  have h1:=(h d zu8).len
  have h2:=vc r fun e he=>h e (zu1 _ he)
  show piled (d.shown::PyData.shownAll r)≤_
  rw[piled_cons,zu5,Nat.succ_mul]
  omega
structure yk (n:Nat)(ds:List PyData):Prop where
 all:∀d∈ds,zT n d
 dep:∀d∈ds,d.depth≤7
theorem yk.parts {n:Nat}:∀{ds:List PyData},yk n ds→PyData.showableAll ds=true∧PyData.hasDictAll ds=false∧PyData.depthAll ds≤7∧PyData.canLayAll0 ds=true
 |[],_=>⟨rfl,rfl,zu6 _,rfl⟩
 |d::r,h=>by
  obtain⟨a,b,c,e⟩:=yk.parts (ds:=r) ⟨fun x hx=>h.all x (zu1 _ hx),fun x hx=>h.dep x (zu1 _ hx)⟩
  have hd:=h.all d zu8
  have hp:=h.dep d zu8
  refine⟨?_,?_,?_,?_⟩
  ·simp only[PyData.showableAll,hd.shw,a,Bool.and_self]
  ·simp only[PyData.hasDictAll,hd.nod,b,Bool.or_self]
  ·simp only[PyData.depthAll];omega
  ·simp only[PyData.canLayAll0,hd.lay,e,Bool.and_self]
theorem zT.list {n m:Nat}{ds:List PyData}(h:yk n ds)(e:ds.length*(n+2)+2≤m):zT m (.list ds):=by
 obtain⟨a,b,c,f⟩:=h.parts
 refine⟨by simp only[PyData.showable,a],by simp only[PyData.hasDict,b],by simp only[PyData.depth];omega,?_,by simp only[PyData.canLay0,f]⟩
 show (listText (PyData.shownAll ds)).length≤m
 have h1:=oV (PyData.shownAll ds)
 have h2:=vc ds h.all
 omega
theorem zT.tuple {n m:Nat}{ds:List PyData}(h:yk n ds)(e:ds.length*(n+2)+3≤m):zT m (.tuple ds):=by
 obtain⟨a,b,c,f⟩:=h.parts
 refine⟨by simp only[PyData.showable,a],by simp only[PyData.hasDict,b],by simp only[PyData.depth];omega,?_,by simp only[PyData.canLay0,f]⟩
 show (tupleText (PyData.shownAll ds)).length≤m
 have h1:=pw (PyData.shownAll ds)
 have h2:=vc ds h.all
 omega
theorem dM {i:Int}(h0:-big<i)(h1:i<big):i.natAbs.log2<1920:=by
 by_cases hn:i.natAbs=0
 ·rw[hn];decide
 ·have h2:i.natAbs<2 ^ 256:=by
   have e:(2:Nat) ^ 256=115792089237316195423570985008687907853269984665640564039457584007913129639936:=by decide +kernel
   rw[e]
   unfold big at h0 h1
   omega
  have h3:i.natAbs.log2<256:=(Nat.log2_lt hn).mpr h2
  omega
theorem zT.int {i:Int}(h0:-big<i)(h1:i<big):zT 2000 (.int i):=by
 have hl:=dM h0 h1
 refine⟨by simp only[PyData.showable,zx1];exact hl,rfl,zu6 _,?_,rfl⟩
 have:=int_text_len_1921 hl
 show (Str.ofString (toString i)).length≤2000
 omega
theorem zT.none :zT 2000 .none:=⟨rfl,rfl,zu6 _,by decide +kernel,rfl⟩
theorem zT.bool (b:Bool):zT 2000 (.bool b):=⟨rfl,rfl,zu6 _,by cases b<;>decide +kernel,rfl⟩
theorem zT.shaped {n:Nat}{d:PyData}(h:zT n d):SeqAt.shaped d=true:=by
 unfold SeqAt.shaped
 rw[h.lay,zz6,zx1]
 have:=h.dep
 omega
section
variable {X:Cx}
theorem il (hg:X.A.guards=some [])(hu:X.A.units+64<cLine):wL X (.builtin "repr") (fun xs H Q=>∃x d,xs=[x]∧DV H x d∧zT sizeLine d∧Q (.str d.shown) H):=by
 intro pins s σ H xs us Q I r h
 obtain⟨x,d,rfl,hd,N,q⟩:=h
 obtain⟨u,rfl,rx⟩:=Vals.one r
 have big':∀{a:Addr},u=Value.ref a→wpAny (model X.prog X.w) X.A (call (.builtin "repr") [u]) (EP X pins σ Q) X.xe s:=fun {a} e=>by
  obtain⟨as,rd⟩:=hd.reads I rx
  subst e
  refine repr_of_reads' rd N.shw (PyData.noDict_hsm N.nod) hg (by have:=N.dep;omega) (fun _ _ e=>e) (fun h' t tk hk=>?_) N.len
  exact⟨.str d.shown,H,I.kept hk,⟨t,rfl⟩,q⟩
 cases hd with
 |non=>cases (show u=Value.none from rx);exact P.repr_of_none ⟨.str _,H,I.tok _,⟨_,rfl⟩,q⟩
 |bl b=>cases (show u=Value.bool b from rx);exact P.repr_of_bool ⟨.str _,H,I.tok _,⟨_,rfl⟩,q⟩
 |int i=>
  obtain⟨t,rfl⟩:=(show ∃t,u=Value.int i t from rx)
  have hs:i.natAbs.log2<1920:=by
   have:=N.shw
   simpa only[PyData.showable,zx1] using this
  exact P.repr_of_int hs ⟨.str _,H,I.tok _,⟨_,rfl⟩,q⟩
 |str y=>
  obtain⟨t,rfl⟩:=(show ∃t,u=Value.str y t from rx)
  exact P.repr_of_str ⟨.str _,H,I.tok _,⟨_,rfl⟩,q⟩ N.len
 |lst e _=>exact big' rx
 |tup e _=>exact big' rx
end
def mh :PyData→Bool
 |.int _=>true
 |_=>false
def yn (lo hi:Int):PyData→Bool
 |.int i=>decide (lo≤i)&&decide (i≤hi)
 |_=>false
def pairD :PyData→Bool
 |.tuple ds=>decide ((ds.length:Int)=2)
 |_=>false
abbrev ui :PyData→Bool:=yn 0 1000000
def sE :PyData→Bool
 |.tuple [a,b]=>ui a&&ui b
 |_=>false
def rB :PyData→Option Int
 |.tuple [.int a,.int b]=>if ui (.int a)&&ui (.int b) then some (b-a) else none
 |_=>none
def yp (d:PyData):Bool:=match rB d with
 |some k=>decide (0≤k)
 |none=>false
theorem iA (d:PyData):mh d=(isInt d&&!isBool d):=by cases d<;>rfl
theorem uN {d:PyData}(h:pairD d=true):∃a b,d=.tuple [a,b]:=by
 cases d with
 |tuple ds=>
  have h':(ds.length:Int)=2:=of_decide_eq_true h
  match ds,h' with
  |[a,b],_=>exact⟨a,b,rfl⟩
  |[],z=>simp at z
  |[_],z=>simp at z
  |_::_::_::_,z=>simp at z;omega
 |_=>cases h
theorem tY (d:PyData):sE d=(rB d).isSome:=by
 unfold sE rB
 split
 ·rename_i a b
  cases a with
  |int i=>
   cases b with
   |int j=>
    show (ui (.int i)&&ui (.int j))=_
    cases e:(ui (.int i)&&ui (.int j))<;>simp[e]
   |_=>simp[yn]
  |_=>simp[yn]
 ·rename_i h
  split
  ·rename_i a b
   exact absurd rfl (h (.int a) (.int b))
  ·rfl
theorem lF {d:PyData}(h:sE d=true):∃a b:Int,d=.tuple [.int a,.int b]∧rB d=some (b-a):=by
 rw[tY] at h
 unfold rB at h ⊢
 split at h
 ·rename_i a b
  split at h
  ·rename_i hc
   exact⟨a,b,rfl,by simp[hc]⟩
  ·cases h
 ·cases h
def yL (g:PyData→Bool):Sp:=fun vs H Q _=>∃x d,vs=[x]∧DV H x d∧Q (.bl (g d)) H
def vh :Sp:=fun vs H Q _=>∃x d lo hi,vs=[x,.int lo,.int hi]∧DV H x d∧Q (.bl (yn lo hi d)) H
theorem bZ {n:Nat}:decide (V.int (n:Int)=V.int 2)=decide ((n:Int)=2):=by simp
noncomputable def sub (p:Addr→Prop)(H:Hp):Hp:=fun a=>open Classical in if p a then H a else none
theorem zm {p:Addr→Prop}{H:Hp}{a:Addr}{o:HO}(h:sub p H a=some o):p a∧H a=some o:=by
 unfold sub at h
 split at h
 ·rename_i hp;exact⟨hp,h⟩
 ·cases h
theorem zF {p:Addr→Prop}{H:Hp}{a:Addr}{o:HO}(hp:p a)(h:H a=some o):sub p H a=some o:=by
 unfold sub
 rw[if_pos hp]
 exact h
theorem zv {p q:Addr→Prop}{H H':Hp}(h:∀a o,p a→H a=some o→q a∧H' a=some o):zC (sub p H) (sub q H'):=fun a o e=>by
 obtain⟨hp,he⟩:=zm e
 obtain⟨hq,he'⟩:=h a o hp he
 exact zF hq he'
theorem wb {p:Addr→Prop}{H:Hp}:zC (sub p H) H:=fun _ _ e=>(zm e).2
theorem yk.snoc {n:Nat}{ds:List PyData}{d:PyData}(h:yk n ds)(hd:zT n d)(hp:d.depth≤7):yk n (ds++[d]):=
 ⟨fun e he=>(zD2.mp he).elim (h.all e) fun z=>by rw[zv9.mp z];exact hd,fun e he=>(zD2.mp he).elim (h.dep e) fun z=>by rw[zv9.mp z];exact hp⟩
theorem yk.nil {n:Nat}:yk n []:=⟨fun d hd=>by simp at hd,fun d hd=>by simp at hd⟩
theorem yk.two {n:Nat}{d e:PyData}(hd:zT n d)(he:zT n e)(h1:d.depth≤7)(h2:e.depth≤7):yk n [d,e]:=(yk.nil.snoc hd h1).snoc he h2
theorem nj {n:Nat}:∀{ds:List PyData},(∀d∈ds,d.depth≤n)→PyData.depthAll ds≤n
 |[],_=>zu6 _
 |d::r,h=>by
  have h1:=h d zu8
  have h2:=nj (ds:=r) fun e he=>h e (zu1 _ he)
  simp only[PyData.depthAll]
  omega
section
variable {X:Cx}{e:Expr}{es:List Expr}
def uF (X:Cx)(e:Expr):TE:=fun σ H Q=>∃t,PE X e t∧t σ H Q
theorem zr :PE X e (uF X e):=fun pins s σ H Q I ⟨t,p,q⟩=>p pins s σ H Q I q
def zn1 (X:Cx)(e:Expr):TT:=fun σ H Q=>∃t,PT X e t∧t σ H Q
theorem xM :PT X e (zn1 X e):=fun pins s σ H Q I ⟨t,p,q⟩=>p pins s σ H Q I q
def ze8 (X:Cx)(es:List Expr):TA:=fun σ H Q=>∃t,PA X es t∧t σ H Q
theorem yv :PA X es (ze8 X es):=fun pos pins s σ H Q I ⟨t,p,q⟩=>p pos pins s σ H Q I q
end
def jB :Key→PyData
 |.inl i=>.int i
 |.inr x=>.str x
def xcO (a C:Addr)(d:Option Addr):HO:=.ext fun h=>∃o vs,h.get? a=some o∧o.cls=.ref C∧o.dict=d∧o.data=.fields vs
mutual
inductive AV (H:Hp):V→PyData→Prop where
 |non:AV H .non .none
 |bl (b:Bool):AV H (.bl b) (.bool b)
 |int (i:Int):AV H (.int i) (.int i)
 |str (x:Str):AV H (.str x) (.str x)
 |lst {a:Addr} {xs:List V} {ds:List PyData}:H a=some (.lst xs)→AVs H xs ds→AV H (.ref a) (.list ds)
 |tup {a:Addr} {xs:List V} {ds:List PyData}:H a=some (.tup xs)→AVs H xs ds→AV H (.ref a) (.tuple ds)
 |ins {a C dx:Addr} {fs:List (Str×V)} {ds:List (PyData×PyData)}:H a=some (.ins C dx fs)→AVf H fs ds→AV H (.ref a) (.dict ((.int (C:Nat),.none)::ds))
 |dk {a:Addr} {o:Obj} {kvs:List (Key×V)} {ds:List (PyData×PyData)}:H a=some (.frz o (.dK kvs))→AVk H kvs ds→AV H (.ref a) (.dict ((.none,.none)::ds))
 |dt {a:Addr} {o:Obj} {kvs:List (List Key×V)} {ds:List (PyData×PyData)}:H a=some (.frz o (.dT kvs))→AVt H kvs ds→AV H (.ref a) (.dict ((.none,.bool true)::ds))
 |xc {a C dx:Addr} {fs:List (Str×V)} {ds:List (PyData×PyData)}:H a=some (xcO a C (some dx))→H dx=some (.xd fs)→AVf H fs ds→AV H (.ref a) (.dict ((.int (C:Nat),.bool true)::ds))
 |xn {a C:Addr}:H a=some (xcO a C none)→AV H (.ref a) (.dict [(.int (C:Nat),.bool false)])
inductive AVs (H:Hp):List V→List PyData→Prop where
 |nil:AVs H [] []
 |cons {x:V} {xs:List V} {d:PyData} {ds:List PyData}:AV H x d→AVs H xs ds→AVs H (x::xs) (d::ds)
inductive AVf (H:Hp):List (Str×V)→List (PyData×PyData)→Prop where
 |nil:AVf H [] []
 |cons {f:Str} {x:V} {fs:List (Str×V)} {d:PyData} {ds:List (PyData×PyData)}:AV H x d→AVf H fs ds→AVf H ((f,x)::fs) ((.str f,d)::ds)
inductive AVk (H:Hp):List (Key×V)→List (PyData×PyData)→Prop where
 |nil:AVk H [] []
 |cons {k:Key} {x:V} {fs:List (Key×V)} {d:PyData} {ds:List (PyData×PyData)}:AV H x d→AVk H fs ds→AVk H ((k,x)::fs) ((jB k,d)::ds)
inductive AVt (H:Hp):List (List Key×V)→List (PyData×PyData)→Prop where
 |nil:AVt H [] []
 |cons {k:List Key} {x:V} {fs:List (List Key×V)} {d:PyData} {ds:List (PyData×PyData)}:AV H x d→AVt H fs ds→AVt H ((k,x)::fs) ((.tuple (k.map jB),d)::ds)
end
mutual
theorem AV.same {H H':Hp}(e:zC H H'):∀{x:V} {d:PyData},AV H x d→AV H' x d
 |_,_,.non=>.non
 |_,_,.bl b=>.bl b
 |_,_,.int i=>.int i
 |_,_,.str x=>.str x
 |_,_,.lst hq hs=>.lst (e _ _ hq) (AVs.same e hs)
 |_,_,.tup hq hs=>.tup (e _ _ hq) (AVs.same e hs)
 |_,_,.ins hq hs=>.ins (e _ _ hq) (AVf.same e hs)
 |_,_,.dk hq hs=>.dk (e _ _ hq) (AVk.same e hs)
 |_,_,.dt hq hs=>.dt (e _ _ hq) (AVt.same e hs)
 |_,_,.xc hq hd hs=>.xc (e _ _ hq) (e _ _ hd) (AVf.same e hs)
 |_,_,.xn hq=>.xn (e _ _ hq)
theorem AVs.same {H H':Hp}(e:zC H H'):∀{xs:List V} {ds:List PyData},AVs H xs ds→AVs H' xs ds
 |_,_,.nil=>.nil
 |_,_,.cons h hs=>.cons (AV.same e h) (AVs.same e hs)
theorem AVf.same {H H':Hp}(e:zC H H'):∀{fs:List (Str×V)} {ds:List (PyData×PyData)},AVf H fs ds→AVf H' fs ds
 |_,_,.nil=>.nil
 |_,_,.cons h hs=>.cons (AV.same e h) (AVf.same e hs)
theorem AVk.same {H H':Hp}(e:zC H H'):∀{fs:List (Key×V)} {ds:List (PyData×PyData)},AVk H fs ds→AVk H' fs ds
 |_,_,.nil=>.nil
 |_,_,.cons h hs=>.cons (AV.same e h) (AVk.same e hs)
theorem AVt.same {H H':Hp}(e:zC H H'):∀{fs:List (List Key×V)} {ds:List (PyData×PyData)},AVt H fs ds→AVt H' fs ds
 |_,_,.nil=>.nil
 |_,_,.cons h hs=>.cons (AV.same e h) (AVt.same e hs)
end
mutual
theorem AV.dv {H:Hp}:∀{x:V} {d:PyData},AV H x d→d.hasDict=false→DV H x d
 |_,_,.non,_=>.non
 |_,_,.bl b,_=>.bl b
 |_,_,.int i,_=>.int i
 |_,_,.str x,_=>.str x
 |_,_,.lst hq hs,h=>.lst hq (AVs.dv hs (by simpa only[PyData.hasDict] using h))
 |_,_,.tup hq hs,h=>.tup hq (AVs.dv hs (by simpa only[PyData.hasDict] using h))
 |_,_,.ins hq hs,h=>by simp[PyData.hasDict] at h
 |_,_,.dk hq hs,h=>by simp[PyData.hasDict] at h
 |_,_,.dt hq hs,h=>by simp[PyData.hasDict] at h
 |_,_,.xc hq _ hs,h=>by simp[PyData.hasDict] at h
 |_,_,.xn hq,h=>by simp[PyData.hasDict] at h
theorem AVs.dv {H:Hp}:∀{xs:List V} {ds:List PyData},AVs H xs ds→PyData.hasDictAll ds=false→DVs H xs ds
 |_,_,.nil,_=>.nil
 |_,_,.cons h hs,e=>by
  simp only[PyData.hasDictAll,Bool.or_eq_false_iff] at e
  exact .cons (AV.dv h e.1) (AVs.dv hs e.2)
end
mutual
theorem DV.av {H:Hp}:∀{x:V} {d:PyData},DV H x d→AV H x d
 |_,_,.non=>.non
 |_,_,.bl b=>.bl b
 |_,_,.int i=>.int i
 |_,_,.str x=>.str x
 |_,_,.lst hq hs=>.lst hq (DVs.av hs)
 |_,_,.tup hq hs=>.tup hq (DVs.av hs)
theorem DVs.av {H:Hp}:∀{xs:List V} {ds:List PyData},DVs H xs ds→AVs H xs ds
 |_,_,.nil=>.nil
 |_,_,.cons h hs=>.cons (DV.av h) (DVs.av hs)
end
theorem AVs.length {H:Hp}:∀{xs:List V} {ds:List PyData},AVs H xs ds→xs.length=ds.length
 |_,_,.nil=>rfl
 |_,_,.cons _ hs=>by rw[zu5,zu5,AVs.length hs]
theorem AVs.append {H:Hp}:∀{xs ys:List V} {ds es:List PyData},AVs H xs ds→AVs H ys es→AVs H (xs++ys) (ds++es)
 |_,_,_,_,.nil,h=>h
 |_,_,_,_,.cons a r,h=>.cons a (AVs.append r h)
theorem AVs.get {H:Hp}:∀{xs:List V} {ds:List PyData} {i:Nat} {d:PyData},AVs H xs ds→ds[i]?=some d→∃x,xs[i]?=some x∧AV H x d
 |_,_,_,_,.nil,e=>by simp at e
 |_,_,0,_,.cons a _,e=>by simp at e;subst e;exact⟨_,rfl,a⟩
 |_,_,i+1,d,.cons _ r,e=>by
  obtain⟨x,h1,h2⟩:=AVs.get (i:=i) (d:=d) r (by simpa using e)
  exact⟨x,by simpa using h1,h2⟩
theorem AVs.set {H:Hp}{x:V}{d:PyData}(a:AV H x d):∀{xs:List V} {ds:List PyData} (i:Nat),AVs H xs ds→AVs H (xs.set i x) (ds.set i d)
 |_,_,_,.nil=>.nil
 |_,_,0,.cons _ r=>.cons a r
 |_,_,i+1,.cons q r=>.cons q (AVs.set a i r)
theorem AVs.atI {H:Hp}{xs:List V}{ds:List PyData}{i:Int}{d:PyData}(h:AVs H xs ds)(e:atI ds i=some d):∃x,L2.atI xs i=some x∧AV H x d:=by
 unfold L2.atI at e ⊢
 rw[h.length]
 cases q:ixN ds.length i with
 |none=>rw[q] at e;cases e
 |some j=>
  rw[q] at e
  exact h.get (i:=j) e
mutual
def noL :PyData→Bool
 |.list _=>false
 |.dict ((.none,_)::_)=>false
 |.dict kvs=>nL kvs
 |.tuple ds=>xJ ds
 |_=>true
def xJ :List PyData→Bool
 |[]=>true
 |d::r=>noL d&&xJ r
def nL :List (PyData×PyData)→Bool
 |[]=>true
 |(_,d)::r=>noL d&&nL r
end
def Ob :HO→Prop
 |.lst _=>True
 |.dK _=>True
 |.frz _ _=>True
 |_=>False
mutual
theorem AV.noL {H H':Hp}(e:∀a o,¬Ob o→H a=some o→H' a=some o):∀{x:V} {d:PyData},AV H x d→noL d=true→AV H' x d
 |_,_,.non,_=>.non
 |_,_,.bl b,_=>.bl b
 |_,_,.int i,_=>.int i
 |_,_,.str x,_=>.str x
 |_,_,.lst _ _,h=>by simp[L2.noL] at h
 |_,_,.tup hq hs,h=>.tup (e _ _ (fun z=>z) hq) (AVs.noL e hs (by simpa only[L2.noL] using h))
 |_,_,.ins hq hs,h=>.ins (e _ _ (fun z=>z) hq) (AVf.noL e hs (by simpa[L2.noL,L2.nL] using h))
 |_,_,.dk _ _,h=>by simp[L2.noL] at h
 |_,_,.dt _ _,h=>by simp[L2.noL] at h
 |_,_,.xc hq hd hs,h=>.xc (e _ _ (fun z=>z) hq) (e _ _ (fun z=>z) hd) (AVf.noL e hs (by simpa[L2.noL,L2.nL] using h))
 |_,_,.xn hq,h=>.xn (e _ _ (fun z=>z) hq)
theorem AVs.noL {H H':Hp}(e:∀a o,¬Ob o→H a=some o→H' a=some o):∀{xs:List V} {ds:List PyData},AVs H xs ds→xJ ds=true→AVs H' xs ds
 |_,_,.nil,_=>.nil
 |_,_,.cons h hs,q=>by
  simp only[L2.xJ,zv1] at q
  exact .cons (AV.noL e h q.1) (AVs.noL e hs q.2)
theorem AVf.noL {H H':Hp}(e:∀a o,¬Ob o→H a=some o→H' a=some o):∀{fs:List (Str×V)} {ds:List (PyData×PyData)},AVf H fs ds→nL ds=true→AVf H' fs ds
 |_,_,.nil,_=>.nil
 |_,_,.cons h hs,q=>by
  simp only[L2.nL,zv1] at q
  exact .cons (AV.noL e h q.1) (AVf.noL e hs q.2)
end
structure Fr where
 H0:Hp
 O0:Addr→Prop
 tp:Option (Addr×Addr×Addr)
inductive A where
 |dat (d:PyData)
 |ow (c:PyData)
 |deep (d:PyData) (S:Addr→Prop)
 |tape
 |at (l:Addr)
 |exc (r:Fr) (q:PyData→Prop)
 |pin (l:Addr) (vs:List V) (ds:List PyData)
@[reducible] def A.own (ds:List PyData):A:=.ow (.list ds)
abbrev aJ (ds:List (PyData×PyData)):PyData:=.dict ((.none,.none)::ds)
abbrev Ev :=List (Option A)
def wM (o:HO):Prop:=∀ts,o≠.tup ts
theorem yV {xs:List V}:wM (.lst xs):=fun _ z=>by cases z
theorem Ob.notup {o:HO}(h:Ob o):wM o:=fun ts z=>by subst z;exact h
def NT (F:Fr)(x:Addr):Prop:=(∀t b c,F.tp=some (t,b,c)→x≠t∧x≠b)∧¬tP x
def Kz (F:Fr)(H H':Hp):Prop:=∀x o,H x=some o→NT F x→H' x=some o
structure zQ (F:Fr)(H:Hp):Prop where
 tab:TabAt H
 ot:∀x,tP x→F.O0 x
 all:∀t b c,F.tp=some (t,b,c)→yH H t b c∧F.O0 t∧F.O0 b∧F.O0 c
instance {F:Fr} {H:Hp}:CoeFun (zQ F H) (fun _=>∀t b c,F.tp=some (t,b,c)→yH H t b c∧F.O0 t∧F.O0 b∧F.O0 c):=⟨zQ.all⟩
theorem zQ.to {F F':Fr}{H:Hp}(t:zQ F H)(hp:F'.tp=F.tp)(ho:∀x,F.O0 x→F'.O0 x):zQ F' H:=⟨t.tab,fun x h=>ho x (t.ot x h),fun a b c e=>by
 obtain⟨h1,h2,h3,h4⟩:=t a b c (hp▸e)
 exact⟨h1,ho _ h2,ho _ h3,ho _ h4⟩⟩
theorem zQ.re {F F':Fr}{H H':Hp}(t:zQ F H)(t':zQ F' H')(hp:F'.tp=F.tp):zQ F H':=⟨t'.tab,t.ot,fun a b c e=>⟨(t' a b c (hp▸e)).1,(t a b c e).2⟩⟩
theorem zQ.upd {F:Fr}{H:Hp}{l:Addr}{o:HO}(t:zQ F H)(h:∀a b c,F.tp=some (a,b,c)→l≠a∧l≠b∧l≠c)(hp:Plain H l):zQ F (upd H l o):=⟨cF t.tab hp,t.ot,fun a b c e=>⟨dE (t a b c e).1 (h a b c e),(t a b c e).2⟩⟩
theorem zQ.updO {F:Fr}{H:Hp}{l:Addr}{o:HO}(t:zQ F H)(h:¬F.O0 l)(hp:Plain H l):zQ F (L2.upd H l o):=t.upd (fun a b c e=>⟨fun z=>h (by rw[z];exact (t a b c e).2.1),fun z=>h (by rw[z];exact (t a b c e).2.2.1),fun z=>h (by rw[z];exact (t a b c e).2.2.2)⟩) hp
def foot (s:Option V):A→Addr→Prop
 |.ow _,x=>s=some (.ref x)
 |.deep _ S,x=>S x
 |_,_=>False
def Ow (F:Fr)(α:Ev)(σ:St)(x:Addr):Prop:=F.O0 x∨∃(i:Nat) (a:A) (s:Option V),α[i]?=some (some a)∧σ[i]?=some s∧foot s a x
noncomputable abbrev Gz (F:Fr)(α:Ev)(σ:St)(H:Hp):Hp:=sub (fun x=>¬Ow F α σ x) H
noncomputable def yY (S:Addr→Prop)(G H:Hp):Hp:=fun x=>open Classical in if S x then H x else match G x with
 |some (.lst _)=>none
 |o=>o
theorem vD {S:Addr→Prop}{G G' H H':Hp}(h:zC G G')(hS:∀x o,S x→H x=some o→H' x=some o):zC (yY S G H) (yY S G' H'):=fun x o e=>by
 unfold yY at e ⊢
 by_cases z:S x
 ·rw[if_pos z] at e ⊢;exact hS x o z e
 ·rw[if_neg z] at e ⊢
  cases q:G x with
  |none=>rw[q] at e;cases e
  |some u=>
   rw[h _ _ q]
   rw[q] at e
   exact e
theorem eB {S:Addr→Prop}{G H:Hp}{x:Addr}{xs:List V}(h:yY S G H x=some (.lst xs)):S x∧H x=some (.lst xs):=by
 unfold yY at h
 by_cases z:S x
 ·rw[if_pos z] at h;exact⟨z,h⟩
 ·rw[if_neg z] at h
  split at h
  ·cases h
  ·rename_i hn;exact absurd h (hn _)
theorem vj {S:Addr→Prop}{G H:Hp}{x:Addr}{o:HO}(h:yY S G H x=some o):(S x∧H x=some o)∨(¬S x∧G x=some o):=by
 unfold yY at h
 by_cases z:S x
 ·rw[if_pos z] at h;exact .inl ⟨z,h⟩
 ·rw[if_neg z] at h
  split at h
  ·cases h
  ·exact .inr ⟨z,h⟩
inductive xi (G:Hp):HO→PyData→Prop where
 |lst {xs:List V} {ds:List PyData}:AVs G xs ds→xi G (.lst xs) (.list ds)
 |dk {kvs:List (Key×V)} {ds:List (PyData×PyData)}:AVk G kvs ds→xi G (.dK kvs) (aJ ds)
theorem xi.ob {G:Hp}{o:HO}{c:PyData}(h:xi G o c):Ob o:=by cases h<;>trivial
theorem xi.same {G G':Hp}{o:HO}{c:PyData}(h:xi G o c)(s:zC G G'):xi G' o c:=by
 cases h with
 |lst h=>exact .lst (h.same s)
 |dk h=>exact .dk (h.same s)
theorem xi.av {G:Hp}{o:HO}{ds:List PyData}{l:Addr}(h:xi G o (.list ds))(e:G l=some o):AV G (.ref l) (.list ds):=by
 cases h with
 |lst h=>exact .lst e h
theorem xi.lst_inv {G:Hp}{o:HO}{ds:List PyData}(h:xi G o (.list ds)):∃xs,o=.lst xs∧AVs G xs ds:=by cases h;exact⟨_,rfl,by assumption⟩
theorem xi.plain {G H:Hp}{o:HO}{c:PyData}{l:Addr}(h:xi G o c)(e:H l=some o):Plain H l:=by
 cases h with
 |lst h=>exact vH e
 |dk h=>exact fB e
structure Lnk (r F:Fr)(H:Hp):Prop where
 tp:r.tp=F.tp
 o:∀x,r.O0 x→F.O0 x
 ok:zQ r H
 k:Kz r r.H0 H
def wW (G:Hp)(F:Fr)(H:Hp)(s:Option V):A→Prop
 |.dat d=>∃v,s=some v∧AV G v d
 |.ow c=>∃l o,s=some (.ref l)∧H l=some o∧xi G o c∧¬F.O0 l∧F.H0 l=none
 |.deep d S=>∃v,s=some v∧AV (yY S G H) v d∧∀x,S x→¬F.O0 x∧F.H0 x=none∧∃xs,H x=some (.lst xs)
 |.tape=>∃t b c,F.tp=some (t,b,c)∧s=some (.ref t)
 |.at l=>s=some (.ref l)
 |.exc r _=>Lnk r F H
 |.pin l vs ds=>s=some (.ref l)∧G l=some (.lst vs)∧AVs G vs ds
structure M (F:Fr)(α:Ev)(σ:St)(H:Hp):Prop where
 len:α.length=σ.length
 ok:∀(i:Nat) (a:A) (s:Option V),α[i]?=some (some a)→σ[i]?=some s→wW (Gz F α σ H) F H s a
 dj:∀(i j:Nat) (a b:A) (s t:Option V) (x:Addr),α[i]?=some (some a)→α[j]?=some (some b)→σ[i]?=some s→σ[j]?=some t→foot s a x→foot t b x→i=j
 xd:∀(i:Nat) (r:Fr) (q:PyData→Prop),α[i]?=some (some (.exc r q))→∀(j:Nat) (a:A) (s:Option V) (x:Addr),α[j]?=some (some a)→σ[j]?=some s→foot s a x→r.H0 x=none
 tp:zQ F H
 keep:Kz F F.H0 H
 oex:∀x,F.O0 x→∃o,H x=some o∧wM o
theorem M.at' {F:Fr}{α:Ev}{σ:St}{H:Hp}(m:M F α σ H){i:Nat}{a:Option A}(e:α[i]?=some a):∃s,σ[i]?=some s:=by
 have:i<σ.length:=by rw[←m.len];exact (zt5.mp e).1
 exact⟨_,zt3 this⟩
theorem tE {G:Hp}{F:Fr}{H:Hp}{s:Option V}{a:A}{x:Addr}(h:wW G F H s a)(f:foot s a x):¬F.O0 x∧F.H0 x=none∧∃o,H x=some o∧Ob o:=by
 cases a with
 |ow c=>
  obtain⟨l,o,h1,h2,h3,h4,h5⟩:=h
  have f':s=some (.ref x):=f
  rw[f'] at h1;cases h1
  exact⟨h4,h5,o,h2,h3.ob⟩
 |deep d S=>
  obtain⟨v,h1,h2,h3⟩:=h
  obtain⟨z1,z2,xs,z3⟩:=h3 x f
  exact⟨z1,z2,_,z3,trivial⟩
 |dat d=>exact f.elim
 |tape=>exact f.elim
 |«at» l=>exact f.elim
 |exc r q=>exact f.elim
 |pin l vs ds=>exact f.elim
theorem Lnk.kz {r F:Fr}{H H':Hp}(l:Lnk r F H)(k:Kz F H H')(t:zQ F H'):Lnk r F H':=⟨l.tp,l.o,l.ok.re t l.tp.symm,fun x o e n=>k x o (l.k x o e n) ⟨fun a b c z=>n.1 a b c (l.tp.trans z),n.2⟩⟩
theorem Lnk.none {r F:Fr}{H:Hp}(l:Lnk r F H){x:Addr}(h:H x=Option.none):r.H0 x=Option.none:=by
 cases q:r.H0 x with
 |none=>rfl
 |some o=>rw[l.k x o q ⟨fun a b c e=>⟨((l.ok a b c e).1.free h).1,((l.ok a b c e).1.free h).2.1⟩,pO l.ok.tab h⟩] at h;cases h
def noX :A→Prop
 |.exc _ _=>False
 |_=>True
theorem wW.stay {G G':Hp}{F F':Fr}{H H':Hp}{s:Option V}{a:A}(h:wW G F H s a)(g:zC G G')(hf:∀x o,foot s a x→H x=some o→H' x=some o∧¬F'.O0 x∧F'.H0 x=none)(hp:F'.tp=F.tp)(hl:∀r q,a=.exc r q→Lnk r F H→Lnk r F' H'):wW G' F' H' s a:=by
 cases a with
 |dat d=>obtain⟨v,h1,h2⟩:=h;exact⟨v,h1,h2.same g⟩
 |ow c=>
  obtain⟨l,o,h1,h2,h3,h4,h5⟩:=h
  obtain⟨z1,z2,z3⟩:=hf l o h1 h2
  exact⟨l,o,h1,z1,h3.same g,z2,z3⟩
 |deep d S=>
  obtain⟨v,h1,h2,h3⟩:=h
  refine⟨v,h1,h2.same (vD g fun x o z e=>(hf x o z e).1),fun x z=>?_⟩
  obtain⟨_,_,xs,e⟩:=h3 x z
  obtain⟨z1,z2,z3⟩:=hf x _ z e
  exact⟨z2,z3,xs,z1⟩
 |tape=>obtain⟨t,b,c,e,z⟩:=h;exact⟨t,b,c,hp.trans e,z⟩
 |«at» l=>exact h
 |exc r q=>exact hl r q rfl h
 |pin l vs ds=>exact⟨h.1,g _ _ h.2.1,h.2.2.same g⟩
section
variable {F:Fr}{α:Ev}{σ:St}{H H' H'':Hp}
theorem M.dat (m:M F α σ H)(i:Nat)(d:PyData)(e:α[i]?=some (some (.dat d))):∃v,σ[i]?=some (some v)∧AV (Gz F α σ H) v d:=by
 obtain⟨s,hs⟩:=m.at' e
 obtain⟨v,rfl,h⟩:=m.ok i _ s e hs
 exact⟨v,hs,h⟩
theorem M.owc (m:M F α σ H)(i:Nat)(c:PyData)(e:α[i]?=some (some (.ow c))):∃l o,σ[i]?=some (some (.ref l))∧H l=some o∧xi (Gz F α σ H) o c∧¬F.O0 l∧F.H0 l=none:=by
 obtain⟨s,hs⟩:=m.at' e
 obtain⟨l,o,rfl,h⟩:=m.ok i _ s e hs
 exact⟨l,o,hs,h⟩
theorem M.own (m:M F α σ H)(i:Nat)(ds:List PyData)(e:α[i]?=some (some (.own ds))):∃l xs,σ[i]?=some (some (.ref l))∧H l=some (.lst xs)∧AVs (Gz F α σ H) xs ds∧¬F.O0 l∧F.H0 l=none:=by
 obtain⟨l,o,h1,h2,h3,h4⟩:=m.owc i _ e
 obtain⟨xs,rfl,h5⟩:=h3.lst_inv
 exact⟨l,xs,h1,h2,h5,h4⟩
theorem M.deep (m:M F α σ H)(i:Nat)(d:PyData)(S:Addr→Prop)(e:α[i]?=some (some (.deep d S))):∃v,σ[i]?=some (some v)∧AV (yY S (Gz F α σ H) H) v d∧∀x,S x→¬F.O0 x∧F.H0 x=none∧∃xs,H x=some (.lst xs):=by
 obtain⟨s,hs⟩:=m.at' e
 obtain⟨v,rfl,h⟩:=m.ok i _ s e hs
 exact⟨v,hs,h⟩
theorem M.tvar (m:M F α σ H)(i:Nat)(e:α[i]?=some (some .tape)):∃t b c,F.tp=some (t,b,c)∧σ[i]?=some (some (.ref t)):=by
 obtain⟨s,hs⟩:=m.at' e
 obtain⟨t,b,c,h,rfl⟩:=m.ok i _ s e hs
 exact⟨t,b,c,h,hs⟩
theorem M.lnk (m:M F α σ H){i:Nat}{r:Fr}{q:PyData→Prop}(e:α[i]?=some (some (.exc r q))):Lnk r F H:=by
 obtain⟨s,hs⟩:=m.at' e
 exact m.ok i _ s e hs
theorem Kz.refl :Kz F H H:=fun _ _ e _=>e
theorem Kz.trans (h:Kz F H H')(k:Kz F H' H''):Kz F H H'':=fun x o e n=>k x o (h x o e n) n
theorem Kz.of_same (h:zC H H'):Kz F H H':=fun x o e _=>h x o e
theorem zQ.same (t:zQ F H)(h:zC H H'):zQ F H':=⟨eX t.tab h,t.ot,fun a b c e=>⟨jD (t a b c e).1 h,(t a b c e).2⟩⟩
theorem zQ.nt (t:zQ F H){x:Addr}(h:¬F.O0 x):NT F x:=⟨fun a b c e=>⟨fun z=>h (z▸(t a b c e).2.1),fun z=>h (z▸(t a b c e).2.2.1)⟩,fun z=>h (t.ot x z)⟩
theorem ow0 {x:Addr}(h:¬Ow F α σ x):¬F.O0 x:=fun z=>h (.inl z)
theorem Kz.gz (k:Kz F H H')(t:zQ F H):zC (Gz F α σ H) (Gz F α σ H'):=zv fun a o h e=>⟨h,k a o e (t.nt (ow0 h))⟩
theorem M.oex' (t:zQ F H')(k:Kz F H H')(h:∀x,F.O0 x→∃o,H x=some o∧wM o):∀x,F.O0 x→∃o,H' x=some o∧wM o:=fun x hx=>by
 by_cases n:NT F x
 ·obtain⟨o,ho,hn⟩:=h x hx
  exact⟨o,k _ _ ho n,hn⟩
 ·by_cases z:tP x
  ·obtain⟨o,ho,hn,_⟩:=qm t.tab z
   exact⟨o,ho,hn⟩
  ·have:∃a b c,F.tp=some (a,b,c)∧¬(x≠a∧x≠b):=by
    refine Classical.byContradiction fun q=>n ⟨fun a b c e=>?_,z⟩
    exact Classical.byContradiction fun w=>q ⟨a,b,c,e,w⟩
   obtain⟨a,b,c,e,w⟩:=this
   obtain⟨n,bs,cs,_,e1,e2,e3,_⟩:=(t a b c e).1.ex
   by_cases xa:x=a
   ·exact⟨_,xa▸e1,yV⟩
   ·by_cases xb:x=b
    ·exact⟨_,xb▸e2,yV⟩
    ·exact absurd ⟨xa,xb⟩ w
theorem M.kz (m:M F α σ H)(k:Kz F H H')(t:zQ F H'):M F α σ H' where
 len:=m.len
 ok:=fun i a s e1 e2=>(m.ok i a s e1 e2).stay (k.gz m.tp) (fun x o hf e=>by
  obtain⟨h1,h2,_⟩:=tE (m.ok i a s e1 e2) hf
  exact⟨k x o e (m.tp.nt h1),h1,h2⟩) rfl fun r _ _ l=>l.kz k t
 dj:=m.dj
 xd:=m.xd
 tp:=t
 keep:=m.keep.trans k
 oex:=M.oex' t k m.oex
theorem M.ft (m:M F α σ H){i:Nat}{a:A}{s:Option V}{x:Addr}(e1:α[i]?=some (some a))(e2:σ[i]?=some s)(f:foot s a x):¬F.O0 x∧F.H0 x=none∧∃o,H x=some o∧Ob o:=tE (m.ok i a s e1 e2) f
theorem M.owEx (m:M F α σ H){x:Addr}(h:Ow F α σ x):∃o,H x=some o∧wM o:=by
 rcases h with z|⟨i,a,s,e1,e2,f⟩
 ·exact m.oex x z
 ·obtain⟨_,_,o,ho,hb⟩:=m.ft e1 e2 f
  exact⟨o,ho,hb.notup⟩
theorem M.fresh (m:M F α σ H){l:Addr}(h:H l=none):¬Ow F α σ l:=fun z=>by
 obtain⟨o,ho,_⟩:=m.owEx z
 rw[h] at ho;cases ho
theorem M.fresh0 (m:M F α σ H){l:Addr}(h:H l=none):F.H0 l=none:=by
 cases q:F.H0 l with
 |none=>rfl
 |some o=>rw[m.keep l o q (m.tp.nt fun z=>m.fresh h (.inl z))] at h;cases h
theorem M.old (m:M F α σ H):zC (sub (fun x=>¬F.O0 x) F.H0) (Gz F α σ H):=fun a o e=>by
 obtain⟨h1,h2⟩:=zm e
 refine zF ?_ (m.keep a o h2 (m.tp.nt h1))
 rintro (z|⟨i,b,s,e1,e2,f⟩)
 ·exact h1 z
 ·obtain⟨_,z,_⟩:=m.ft e1 e2 f
  rw[h2] at z;cases z
noncomputable def Fr.up (F:Fr)(G:Hp):Fr:={F with H0:=fun x=>(F.H0 x).or (G x)}
theorem pD {G:Hp}{x:Addr}{o:HO}(h:F.H0 x=some o):(F.up G).H0 x=some o:=by show (F.H0 x).or (G x)=some o;rw[h];rfl
theorem ka {G:Hp}{x:Addr}(h:(F.up G).H0 x=none):F.H0 x=none:=by
 cases q:F.H0 x with
 |none=>rfl
 |some o=>rw[pD q] at h;cases h
theorem M.up (m:M F α σ H):M (F.up (Gz F α σ H)) α σ H where
 len:=m.len
 ok:=fun i a s e1 e2=>(m.ok i a s e1 e2).stay (fun _ _ e=>e) (fun x o hf e=>by
  obtain⟨h1,h2,_⟩:=m.ft e1 e2 hf
  refine⟨e,h1,?_⟩
  show (F.H0 x).or (Gz F α σ H x)=none
  rw[h2]
  show Gz F α σ H x=none
  cases q:Gz F α σ H x with
  |none=>rfl
  |some o=>exact absurd (.inr ⟨i,a,s,e1,e2,hf⟩) (zm q).1) rfl fun r _ _ l=>⟨l.tp,l.o,l.ok,l.k⟩
 dj:=m.dj
 xd:=m.xd
 tp:=m.tp.to rfl fun _ z=>z
 keep:=fun x o e n=>by
  have e':(F.H0 x).or (Gz F α σ H x)=some o:=e
  cases q:F.H0 x with
  |none=>rw[q,Option.none_or] at e';exact (zm e').2
  |some o'=>rw[q] at e';cases e';exact m.keep x _ q n
 oex:=m.oex
theorem M.down {G:Hp}(m:M (F.up G) α σ H):M F α σ H where
 len:=m.len
 ok:=fun i a s e1 e2=>(m.ok i a s e1 e2).stay (fun _ _ e=>e) (fun x o hf e=>by
  obtain⟨h1,h2,_⟩:=m.ft e1 e2 hf
  exact⟨e,h1,ka h2⟩) rfl fun r _ _ l=>⟨l.tp,l.o,l.ok,l.k⟩
 dj:=m.dj
 xd:=m.xd
 tp:=m.tp.to rfl fun _ z=>z
 keep:=fun x o e n=>m.keep x o (pD e) n
 oex:=m.oex
theorem M.upold {α0:Ev}{σ0:St}{H1:Hp}(m0:M F α0 σ0 H1)(m:M (F.up (Gz F α0 σ0 H1)) α σ H):zC (Gz F α0 σ0 H1) (Gz F α σ H):=fun a o e=>by
 obtain⟨h1,h2⟩:=zm e
 have e0:(F.up (Gz F α0 σ0 H1)).H0 a=some o:=by
  show (F.H0 a).or (Gz F α0 σ0 H1 a)=some o
  cases q:F.H0 a with
  |none=>exact e
  |some o'=>
   have:=m0.keep a o' q (m0.tp.nt (ow0 h1))
   rw[h2] at this;cases this;rfl
 exact m.old a o (zF (p:=fun x=>¬F.O0 x) (ow0 h1) e0)
end
def yN (F:Fr)(α:Ev)(σ:St)(H:Hp)(v:V)(H':Hp)(ds:List PyData):Prop:=
 ∃l xs,v=.ref l∧H l=none∧H' l=some (.lst xs)∧AVs (sub (fun x=>¬Ow F α σ x∧x≠l) H') xs ds
def iP (F:Fr)(α:Ev)(σ:St)(H:Hp)(v:V)(H':Hp)(c:PyData):Prop:=
 ∃l o,v=.ref l∧H l=none∧H' l=some o∧xi (sub (fun x=>¬Ow F α σ x∧x≠l) H') o c
theorem yN.c {F:Fr}{α:Ev}{σ:St}{H H':Hp}{v:V}{ds:List PyData}(h:yN F α σ H v H' ds):iP F α σ H v H' (.list ds):=by
 obtain⟨l,xs,h1,h2,h3,h4⟩:=h
 exact⟨l,_,h1,h2,h3,.lst h4⟩
theorem yN.av {F:Fr}{α:Ev}{σ:St}{H H':Hp}{v:V}{ds:List PyData}(m:M F α σ H)(h:yN F α σ H v H' ds):AV (Gz F α σ H') v (.list ds):=by
 obtain⟨l,xs,rfl,h1,h2,h3⟩:=h
 exact .lst (zF (m.fresh h1) h2) (h3.same (zv fun a o h e=>⟨h.1,e⟩))
section
variable (X:Cx)(α:Ev)
def EvD (e:Expr)(Q:PyData→Prop):Prop:=∀(F:Fr) (σ:St) (H:Hp) (R:VK),M F α σ H→(∀d v H',Q d→zQ F H'→Kz F H H'→AV (Gz F α σ H') v d→R v H')→uF X e σ H R
def EvL (e:Expr)(Q:List PyData→Prop):Prop:=∀(F:Fr) (σ:St) (H:Hp) (R:VK),M F α σ H→(∀ds v H',Q ds→zQ F H'→Kz F H H'→yN F α σ H v H' ds→R v H')→uF X e σ H R
def EvT (e:Expr)(Q:Bool→Prop):Prop:=∀(F:Fr) (σ:St) (H:Hp) (R:Bool→Hp→Prop),M F α σ H→(∀b H',Q b→zQ F H'→Kz F H H'→R b H')→zn1 X e σ H R
def jL (F:Fr)(G:Hp)(v:V):A→Prop
 |.dat d=>AV G v d
 |.tape=>∃t b c,F.tp=some (t,b,c)∧v=.ref t
 |_=>False
inductive ye (F:Fr)(G:Hp):List V→List A→Prop where
 |nil:ye F G [] []
 |cons {v:V} {vs:List V} {a:A} {as:List A}:jL F G v a→ye F G vs as→ye F G (v::vs) (a::as)
def EvA (es:List Expr)(Q:List A→Prop):Prop:=∀(F:Fr) (σ:St) (H:Hp) (R:List V→Hp→Prop),M F α σ H→(∀as vs H',Q as→zQ F H'→Kz F H H'→ye F (Gz F α σ H') vs as→R vs H')→ze8 X es σ H R
end
theorem jL.to {F F':Fr}{G G':Hp}(s:zC G G')(hp:F'.tp=F.tp){v:V}:∀{a:A},jL F G v a→jL F' G' v a
 |.dat _,h=>AV.same s h
 |.tape,⟨t,b,c,e,z⟩=>⟨t,b,c,hp.trans e,z⟩
 |.ow _,h=>h
 |.deep _ _,h=>h
 |.at _,h=>h
 |.exc _ _,h=>h
 |.pin _ _ _,h=>h
theorem ye.to {F F':Fr}{G G':Hp}(s:zC G G')(hp:F'.tp=F.tp):∀{vs:List V} {as:List A},ye F G vs as→ye F' G' vs as
 |_,_,.nil=>.nil
 |_,_,.cons h r=>.cons (h.to s hp) (ye.to s hp r)
theorem ye.length {F:Fr}{G:Hp}:∀{vs:List V} {as:List A},ye F G vs as→vs.length=as.length
 |_,_,.nil=>rfl
 |_,_,.cons _ r=>by rw[zu5,zu5,ye.length r]
def A.d :A→PyData
 |.dat d=>d
 |.ow c=>c
 |.deep d _=>d
 |_=>.none
def gn (F:Fr)(v:V)(H':Hp):A→Prop
 |.dat d=>AV (sub (fun x=>¬F.O0 x) H') v d
 |.ow c=>∃l xs ds,v=.ref l∧c=.list ds∧F.H0 l=none∧¬F.O0 l∧H' l=some (.lst xs)∧AVs (sub (fun x=>¬F.O0 x∧x≠l) H') xs ds
 |.deep d S=>AV (yY S (sub (fun x=>¬F.O0 x) H') H') v d∧∀x,S x→¬F.O0 x∧F.H0 x=none∧∃xs,H' x=some (.lst xs)
 |_=>False
def xO (F:Fr)(v:V)(H':Hp)(a:A):Prop:=zQ F H'∧Kz F F.H0 H'∧gn F v H' a
def spA (φ:List A→(A→Prop)→Prop):Sp:=fun vs H Qc _=>∃(F:Fr) (as:List A) (Q:A→Prop),F.H0=H∧zQ F H∧(∀x,F.O0 x→∃o,H x=some o∧wM o)∧ye F (sub (fun x=>¬F.O0 x) H) vs as∧φ as Q∧∀a v H',Q a→xO F v H' a→Qc v H'
theorem gn.to {F F':Fr}{v:V}{H':Hp}{a:A}(r:gn F v H' a)(ho:∀x,F'.O0 x→F.O0 x)(h0:∀x,F.H0 x=none→F'.H0 x=none):gn F' v H' a:=by
 have s:zC (sub (fun x=>¬F.O0 x) H') (sub (fun x=>¬F'.O0 x) H'):=zv fun a o h e=>⟨fun z=>h (ho _ z),e⟩
 cases a with
 |dat d=>exact AV.same s r
 |ow c=>
  obtain⟨l,xs,ds,h1,hc,h2,h3,h4,h5⟩:=r
  exact⟨l,xs,ds,h1,hc,h0 _ h2,fun z=>h3 (ho _ z),h4,h5.same (zv fun a o h e=>⟨⟨fun z=>h.1 (ho _ z),h.2⟩,e⟩)⟩
 |deep d S=>
  obtain⟨h1,h2⟩:=r
  refine⟨h1.same (vD s fun _ _ _ e=>e),fun x z=>?_⟩
  obtain⟨z1,z2,z3⟩:=h2 x z
  exact⟨fun w=>z1 (ho _ w),h0 _ z2,z3⟩
 |tape=>exact r
 |«at» _=>exact r
 |exc _ _=>exact r
 |pin _ _ _=>exact r
structure xp where
 nx:Ev→Prop
 rt:A→Prop
 bk:Ev→Prop:=fun _=>False
 ct:Ev→Prop:=fun _=>False
structure oG (F:Fr)(E:xp)(D:Ends):Prop where
 nx:∀α σ H,M F α σ H→E.nx α→D.nx σ H
 rt:∀a v H,xO F v H a→E.rt a→D.rt v H
 bk:∀α σ H,M F α σ H→E.bk α→D.bk σ H
 ct:∀α σ H,M F α σ H→E.ct α→D.ct σ H
def SvS (X:Cx)(α:Ev)(sts:List Stmt)(E:xp):Prop:=∀(F:Fr) (σ:St) (H:Hp) (D:Ends),M F α σ H→oG F E D→jU X sts D σ H
theorem oG.up {F:Fr}{G:Hp}{E:xp}{D:Ends}(e:oG F E D):oG (F.up G) E D where
 nx:=fun α σ H m q=>e.nx α σ H m.down q
 bk:=fun α σ H m q=>e.bk α σ H m.down q
 ct:=fun α σ H m q=>e.ct α σ H m.down q
 rt:=fun a v H r q=>e.rt a v H (by
  obtain⟨t,k,r⟩:=r
  exact⟨t.to rfl fun _ z=>z,fun x o e n=>k x o (pD e) n,r.to (fun _ z=>z) fun x z=>ka z⟩) q
section
variable {X:Cx}{α:Ev}{e a b c:Expr}{es:List Expr}{pos p q:Pos}{Q:PyData→Prop}
theorem EvL.d (h:EvL X α e (fun ds=>Q (.list ds))):EvD X α e Q:=fun F σ H R m k=>h F σ H R m fun ds v H' q t z f=>k _ v H' q t z (f.av m)
theorem EvD.imp {Q':PyData→Prop}(h:EvD X α e Q')(k:∀d,Q' d→Q d):EvD X α e Q:=fun F σ H R m r=>h F σ H R m fun d v H' q=>r d v H' (k d q)
theorem zj (i:Nat){x:Str}{d:PyData}(hi:α[i]?=some (some (.dat d)))(q:Q d)(hN:X.N[i]?=some x:=by rfl)(hv:Vis X.env.scope x:=by first|exact Or.inl rfl|exact Or.inr (Or.inl rfl)|exact Or.inr (Or.inr rfl))
  (hd:(x == ("__debug__":Str))=false:=by decide) (hcd:(x == ("__classdict__":Str))=false:=by decide):EvD X α (.Name x pos) Q:=fun F σ H R m k=>by
 obtain⟨v,h1,h2⟩:=m.dat i d hi
 exact⟨_,yy hN hv hd hcd,v,h1,k d v H q m.tp Kz.refl h2⟩
theorem yi {i:Int}{j:Nat}(q:Q (.int i)):EvD X α (.Constant (.int i) j pos) Q:=fun F σ H R m k=>⟨_,zq,k _ _ H q m.tp Kz.refl (.int i)⟩
theorem aP {i:Bool}{j:Nat}(q:Q (.bool i)):EvD X α (.Constant (.bool i) j pos) Q:=fun F σ H R m k=>⟨_,zk0,k _ _ H q m.tp Kz.refl (.bl i)⟩
theorem tQ {j:Nat}(q:Q .none):EvD X α (.Constant .none j pos) Q:=fun F σ H R m k=>⟨_,qE,k _ _ H q m.tp Kz.refl .non⟩
theorem yI {x:Str}{j:Nat}(q:Q (.str x)):EvD X α (.Constant (.str x) j pos) Q:=fun F σ H R m k=>⟨_,yf,k _ _ H q m.tp Kz.refl (.str x)⟩
theorem iU {x:Str}{i:Int}(hg:Gl X x)(hm:∃t,X.mg x=some (.int i t))(q:Q (.int i))(hd:(x == ("__debug__":Str))=false:=by decide):EvD X α (.Name x pos) Q:=fun F σ H R m k=>by
 obtain⟨t,hm⟩:=hm
 exact⟨_,ub hg hm (show RelV (.int i) (.int i t) from ⟨t,rfl⟩) hd,k _ _ H q m.tp Kz.refl (.int i)⟩
theorem uJ {f:TE→TE→TE}(hf:PE X e (f (uF X a) (uF X b)))(hr:∀σ H R,f (uF X a) (uF X b) σ H R↔uF X a σ H (fun x H1=>uF X b σ H1 fun y H2=>f (tC x) (tC y) σ H2 R))
  (h:EvD X α a fun x=>EvD X α b fun y=>∀(F:Fr) (σ:St) (H:Hp) (vx vy:V) (R:VK),M F α σ H→AV (Gz F α σ H) vx x→AV (Gz F α σ H) vy y→(∀d v H',Q d→zQ F H'→Kz F H H'→AV (Gz F α σ H') v d→R v H')→f (tC vx) (tC vy) σ H R):
  EvD X α e Q:=fun F σ H R m k=>by
 refine⟨_,hf,(hr σ H R).mpr ?_⟩
 refine h F σ H _ m fun x vx H1 q1 t1 k1 r1=>?_
 have m1:=m.kz k1 t1
 refine q1 F σ H1 _ m1 fun y vy H2 q2 t2 k2 r2=>?_
 exact q2 F σ H2 vx vy R (m1.kz k2 t2) (r1.same (k2.gz m1.tp)) r2 fun d v H' qd t3 k3 r3=>k d v H' qd t3 ((k1.trans k2).trans k3) r3
theorem AV.int_inv {H:Hp}{v:V}{i:Int}(h:AV H v (.int i)):v=.int i:=by cases h;rfl
theorem AV.bl_inv {H:Hp}{v:V}{i:Bool}(h:AV H v (.bool i)):v=.bl i:=by cases h;rfl
theorem AV.str_inv {H:Hp}{v:V}{i:Str}(h:AV H v (.str i)):v=.str i:=by cases h;rfl
theorem AV.tup_inv {H:Hp}{v:V}{ds:List PyData}(h:AV H v (.tuple ds)):∃a xs,v=.ref a∧H a=some (.tup xs)∧AVs H xs ds:=by cases h;exact⟨_,_,rfl,by assumption,by assumption⟩
theorem AV.lst_inv {H:Hp}{v:V}{ds:List PyData}(h:AV H v (.list ds)):∃a xs,v=.ref a∧H a=some (.lst xs)∧AVs H xs ds:=by cases h;exact⟨_,_,rfl,by assumption,by assumption⟩
theorem AV.non_inv {H:Hp}{v:V}(h:AV H v .none):v=.non:=by cases h;rfl
theorem AV.isnon {H:Hp}{v:V}{d:PyData}(h:AV H v d):decide (v=.non)=(match d with|.none=>true|_=>false):=by cases h<;>simp
theorem zc9 {op:Operator}{C:Int→Int→Prop}{g:Int→Int→V}{gd:Int→Int→PyData}(ho:OpR X (binaryOp op) (rI C g))(hg:∀H i j,AV H (g i j) (gd i j))
  (h:EvD X α a fun x=>EvD X α b fun y=>∃i j,x=.int i∧y=.int j∧C i j∧Q (gd i j)):EvD X α (.BinOp a op b pos) Q:=by
 refine uJ (f:=tOp (rI C g)) (yw ho zr zr) (fun _ _ _=>Iff.rfl) (h.imp fun x h=>h.imp fun y ⟨i,j,e1,e2,hc,hq⟩=>?_)
 subst e1 e2
 intro F σ H vx vy R m rx ry k
 cases rx.int_inv;cases ry.int_inv
 exact⟨i,j,rfl,rfl,hc,k _ _ H hq m.tp Kz.refl (hg _ i j)⟩
theorem kl {op:Operator}{g:Int→Int→V}{gd:Int→Int→PyData}(ho:OpR X (binaryOp op) (rI0 g))(hg:∀H i j,AV H (g i j) (gd i j))
  (h:EvD X α a fun x=>EvD X α b fun y=>∃i j,x=.int i∧y=.int j∧Q (gd i j)):EvD X α (.BinOp a op b pos) Q:=by
 refine uJ (f:=tOp (rI0 g)) (yw ho zr zr) (fun _ _ _=>Iff.rfl) (h.imp fun x h=>h.imp fun y ⟨i,j,e1,e2,hq⟩=>?_)
 subst e1 e2
 intro F σ H vx vy R m rx ry k
 cases rx.int_inv;cases ry.int_inv
 exact⟨i,j,rfl,rfl,k _ _ H hq m.tp Kz.refl (hg _ i j)⟩
theorem xk (h:EvD X α a fun x=>EvD X α b fun y=>∃i j,x=.int i∧y=.int j∧Q (.int (i+j))):EvD X α (.BinOp a .Add b pos) Q:=kl (gd:=fun i j=>.int (i+j)) uK (fun _ _ _=>.int _) h
theorem gJ (h:EvD X α a fun x=>EvD X α b fun y=>∃i j,x=.int i∧y=.int j∧Q (.int (i-j))):EvD X α (.BinOp a .Sub b pos) Q:=kl (gd:=fun i j=>.int (i-j)) iW (fun _ _ _=>.int _) h
theorem zf5 (h:EvD X α a fun x=>EvD X α b fun y=>∃i j,x=.int i∧y=.int j∧zf9 i j∧Q (.int (i ^ j.toNat))):EvD X α (.BinOp a .Pow b pos) Q:=zc9 (gd:=fun i j=>.int (i ^ j.toNat)) eA (fun _ _ _=>.int _) h
theorem qI {i j r:Int}{p1 p2:Pos}{n1 n2:Nat}(hc:zf9 i j)(hr:i ^ j.toNat=r)(q:Q (.int r)):EvD X α (.BinOp (.Constant (.int i) n1 p1) .Pow (.Constant (.int j) n2 p2) pos) Q:=
 zf5 (yi (yi ⟨i,j,rfl,rfl,hc,hr▸q⟩))
theorem aC {op:CmpOp}{g:Int→Int→Bool}(ho:OpR X (compareOp op) (rI0 fun i j=>.bl (g i j)))(hm:behindInMarks op b=false)
  (h:EvD X α a fun x=>EvD X α b fun y=>∃i j,x=.int i∧y=.int j∧Q (.bool (g i j))):EvD X α (.Compare a [op] [b] pos) Q:=by
 refine uJ (f:=tOp (rI0 fun i j=>.bl (g i j))) (xQ ho zr zr hm) (fun _ _ _=>Iff.rfl) (h.imp fun x h=>h.imp fun y ⟨i,j,e1,e2,hq⟩=>?_)
 subst e1 e2
 intro F σ H vx vy R m rx ry k
 cases rx.int_inv;cases ry.int_inv
 exact⟨i,j,rfl,rfl,k _ _ H hq m.tp Kz.refl (.bl _)⟩
theorem aT (h:EvD X α a fun x=>EvD X α b fun y=>∃i j,x=.int i∧y=.int j∧Q (.bool (decide (i<j)))):EvD X α (.Compare a [.Lt] [b] pos) Q:=aC zk5 (zJ _) h
def uO :PyData→Bool
 |.none=>true
 |_=>false
theorem AV.non_iff {H:Hp}{v:V}{d:PyData}(h:AV H v d):decide (v=.non)=uO d:=by cases h<;>simp[uO]
theorem nP {Q:Bool→Prop}(h:EvD X α e fun x=>∃k,x=.bool k∧Q k)(he:∀whole,isTrue e X.env whole=(do let v ←whole;standAt e.pos;holding [v] (truthy v)):=by intro _;rfl):EvT X α e Q:=fun F σ H R m k=>by
 refine⟨_,fU zr he,?_⟩
 refine h F σ H _ m fun x vx H1 q1 t1 k1 r1=>?_
 obtain⟨b,rfl,q⟩:=q1
 cases r1.bl_inv
 exact⟨b,rfl,k b H1 q t1 k1⟩
def Cmp (r:R2)(x y:PyData)(k:Bool):Prop:=∀(p:Addr→Prop) (H:Hp) (vx vy:V) (R:VK),AV (sub p H) vx x→AV (sub p H) vy y→R (.bl k) H→r vx vy H R
theorem vX {op:CmpOp}{r:R2}{Q:Bool→Prop}(ho:OpR X (compareOp op) r)(hm:behindInMarks op b=false)(h:EvD X α a fun x=>EvD X α b fun y=>∃k,Cmp r x y k∧Q k):EvT X α (.Compare a [op] [b] pos) Q:=fun F σ H R m k=>by
 refine⟨_,yh ho zr zr hm,?_⟩
 refine h F σ H _ m fun x vx H1 q1 t1 k1 r1=>?_
 have m1:=m.kz k1 t1
 refine q1 F σ H1 _ m1 fun y vy H2 q2 t2 k2 r2=>?_
 obtain⟨b,hc,q⟩:=q2
 exact hc _ H2 vx vy _ (r1.same (k2.gz m1.tp)) r2 ⟨b,rfl,k b H2 q t2 (k1.trans k2)⟩
theorem bY {g:Int→Int→Bool}{i j:Int}:Cmp (rI0 fun i j=>.bl (g i j)) (.int i) (.int j) (g i j):=fun p H vx vy R rx ry h=>by
 cases rx.int_inv;cases ry.int_inv
 exact⟨i,j,rfl,rfl,h⟩
theorem aj {op:CmpOp}{g:Int→Int→Bool}{Q:Bool→Prop}(ho:OpR X (compareOp op) (rI0 fun i j=>.bl (g i j)))(hm:behindInMarks op b=false)
  (h:EvD X α a fun x=>EvD X α b fun y=>∃i j,x=.int i∧y=.int j∧Q (g i j)):EvT X α (.Compare a [op] [b] pos) Q:=
 vX ho hm (h.imp fun x h=>h.imp fun y ⟨i,j,e1,e2,q⟩=>⟨_,by subst e1 e2;exact bY,q⟩)
theorem aZ {Q:Bool→Prop}(h:EvD X α a fun x=>EvD X α b fun y=>∃i j,x=.int i∧y=.int j∧Q (decide (j<i))):EvT X α (.Compare a [.Gt] [b] pos) Q:=aj lR (zJ _) h
theorem wB {j:Nat}{Q:Bool→Prop}(h:EvD X α a fun x=>Q (uO x)):EvT X α (.Compare a [.Is] [.Constant .none j p] pos) Q:=
 vX mf (zJ _) (h.imp fun x h=>tQ ⟨_,fun p H vx vy R rx ry z=>⟨ry.non_inv,by rw[rx.non_iff];exact z⟩,h⟩)
theorem mV {Q:Bool→Prop}(h:EvT X α a fun k=>Q (!k)):EvT X α (.UnaryOp .Not a pos) Q:=fun F σ H R m k=>by
 refine⟨_,dI xM,?_⟩
 exact h F σ H _ m fun b H1 q1 t1 k1=>k _ H1 q1 t1 k1
def EvW (X:Cx)(α:Ev)(e:Expr)(Q:Bool→Prop):Prop:=∀(F:Fr) (σ:St) (H:Hp) (R:Bool→Hp→Prop),M F α σ H→(∀b H',Q b→zQ F H'→Kz F H H'→R b H')→∃t,PW X e t∧t σ H R
def zq4 (X:Cx)(e:Expr):TT:=fun σ H Q=>∃t,PW X e t∧t σ H Q
theorem lY :PW X e (zq4 X e):=fun w pins s σ H Q I ⟨t,p,q⟩=>p w pins s σ H Q I q
theorem EvW.t {Q:Bool→Prop}(h:EvW X α e Q):EvT X α e Q:=fun F σ H R m k=>by
 obtain⟨t,p,q⟩:=h F σ H R m k
 exact⟨t,p.pt,q⟩
variable {rest:List Expr}
theorem kQ {Q:Bool→Prop}(h:EvT X α a Q):EvW X α (.BoolOp .And [a] pos) Q:=fun F σ H R m k=>⟨_,kN xM,h F σ H R m k⟩
theorem zc0 {Q:Bool→Prop}(h:EvT X α a Q):EvW X α (.BoolOp .Or [a] pos) Q:=fun F σ H R m k=>⟨_,lB xM,h F σ H R m k⟩
theorem eU {Q:Bool→Prop}(h:EvT X α a fun k=>if k=true then EvW X α (.BoolOp .And (b::rest) pos) Q else Q false):EvW X α (.BoolOp .And (a::b::rest) pos) Q:=fun F σ H R m k=>by
 refine⟨_,fj xM lY,?_⟩
 refine h F σ H _ m fun c H1 q1 t1 k1=>?_
 cases c with
 |true=>exact sV ((by simpa using q1:EvW X α _ Q) F σ H1 R (m.kz k1 t1) fun b H2 q2 t2 k2=>k b H2 q2 t2 (k1.trans k2))
 |false=>exact rh (k _ H1 (by simpa using q1) t1 k1)
theorem zn4 {Q:Bool→Prop}(h:EvT X α a fun k=>if k=true then Q true else EvW X α (.BoolOp .Or (b::rest) pos) Q):EvW X α (.BoolOp .Or (a::b::rest) pos) Q:=fun F σ H R m k=>by
 refine⟨_,gq xM lY,?_⟩
 refine h F σ H _ m fun c H1 q1 t1 k1=>?_
 cases c with
 |false=>exact rh ((by simpa using q1:EvW X α _ Q) F σ H1 R (m.kz k1 t1) fun b H2 q2 t2 k2=>k b H2 q2 t2 (k1.trans k2))
 |true=>exact sV (k _ H1 (by simpa using q1) t1 k1)
theorem mJ (h:EvT X α c fun k=>if k=true then EvD X α a Q else EvD X α b Q):EvD X α (.IfExp c a b pos) Q:=fun F σ H R m k=>by
 refine⟨_,dF xM zr zr,?_⟩
 refine h F σ H _ m fun x H1 q1 t1 k1=>?_
 cases x with
 |true=>exact sV ((by simpa using q1:EvD X α _ Q) F σ H1 R (m.kz k1 t1) fun d v H2 q2 t2 k2 r2=>k d v H2 q2 t2 (k1.trans k2) r2)
 |false=>exact rh ((by simpa using q1:EvD X α _ Q) F σ H1 R (m.kz k1 t1) fun d v H2 q2 t2 k2 r2=>k d v H2 q2 t2 (k1.trans k2) r2)
theorem ll (hs:uu b)(h:EvD X α a fun x=>EvD X α b fun y=>∃ds i d,x=.list ds∧y=.int i∧atI ds i=some d∧Q d):EvD X α (.Subscript a b pos) Q:=by
 refine uJ (f:=tOp (zd0 X.K)) (zM zU zr zr hs) (fun _ _ _=>Iff.rfl) (h.imp fun x h=>h.imp fun y ⟨ds,i,d,e1,e2,hat,hq⟩=>?_)
 subst e1 e2
 intro F σ H vx vy R m rx ry k
 obtain⟨a,xs,rfl,h1,h2⟩:=rx.lst_inv
 cases ry.int_inv
 obtain⟨v,hv,av⟩:=h2.atI hat
 exact⟨a,xs,i,v,rfl,rfl,SqL.of (zm h1).2,hv,k d v H hq m.tp Kz.refl av⟩
theorem xU (hs:uu b)(h:EvD X α a fun x=>EvD X α b fun y=>∃ds i d,x=.tuple ds∧y=.int i∧atI ds i=some d∧Q d):EvD X α (.Subscript a b pos) Q:=by
 refine uJ (f:=tOp (zb1 X.K)) (zM yz zr zr hs) (fun _ _ _=>Iff.rfl) (h.imp fun x h=>h.imp fun y ⟨ds,i,d,e1,e2,hat,hq⟩=>?_)
 subst e1 e2
 intro F σ H vx vy R m rx ry k
 obtain⟨a,xs,rfl,h1,h2⟩:=rx.tup_inv
 cases ry.int_inv
 obtain⟨v,hv,av⟩:=h2.atI hat
 exact⟨a,xs,i,v,rfl,rfl,SqT.of (zm h1).2,hv,k d v H hq m.tp Kz.refl av⟩
theorem M.lay {F:Fr}{σ:St}{H:Hp}{l:Addr}{xs:List V}{ds:List PyData}(m:M F α σ H)(hl:H l=none)(h:AVs (Gz F α σ H) xs ds):zQ F (upd H l (.lst xs))∧Kz F H (upd H l (.lst xs))∧yN F α σ H (.ref l) (upd H l (.lst xs)) ds:=by
 refine⟨m.tp.same (yr hl),Kz.of_same (yr hl),l,xs,rfl,hl,zk,h.same (zv fun a o ha e=>?_)⟩
 have:=zo e hl
 exact⟨⟨ha,this⟩,by rw[zd this];exact e⟩
theorem yN.back {F:Fr}{σ:St}{H H1 H':Hp}{v:V}{ds:List PyData}(m:M F α σ H)(k:Kz F H H1)(t1:zQ F H1)(h:yN F α σ H1 v H' ds):yN F α σ H v H' ds:=by
 obtain⟨l',xs',e1,e2,e3,e4⟩:=h
 refine⟨l',xs',e1,?_,e3,e4⟩
 cases z:H l' with
 |none=>rfl
 |some o=>rw[k l' o z (m.tp.nt (ow0 ((m.kz k t1).fresh e2)))] at e2;cases e2
theorem zt {Q:List A→Prop}(q:Q []):EvA X α [] Q:=fun F σ H R m k=>⟨_,zu,k _ _ H q m.tp Kz.refl .nil⟩
theorem zl {Q:List A→Prop}(h:EvD X α e fun d=>EvA X α es fun as=>Q (.dat d::as))(hs:starEach (e::es) X.env=(false,eval e X.env)::starEach es X.env:=by rfl):EvA X α (e::es) Q:=fun F σ H R m k=>by
 refine⟨_,zf zr yv hs,?_⟩
 refine h F σ H _ m fun d v H1 q1 t1 k1 r1=>?_
 have m1:=m.kz k1 t1
 exact q1 F σ H1 _ m1 fun as vs H2 q2 t2 k2 r2=>k _ _ H2 q2 t2 (k1.trans k2) (.cons (r1.same (k2.gz m1.tp)) r2)
theorem yb {Q:List A→Prop}(i:Nat){x:Str}(hi:α[i]?=some (some .tape))(h:EvA X α es fun as=>Q (.tape::as))(hN:X.N[i]?=some x:=by rfl)(hv:Vis X.env.scope x:=by first|exact Or.inl rfl|exact Or.inr (Or.inl rfl)|exact Or.inr (Or.inr rfl))
  (hd:(x == ("__debug__":Str))=false:=by decide) (hcd:(x == ("__classdict__":Str))=false:=by decide) (hs:starEach (.Name x pos::es) X.env=(false,eval (.Name x pos) X.env)::starEach es X.env:=by rfl):EvA X α (.Name x pos::es) Q:=fun F σ H R m k=>by
 obtain⟨t,b,c,h1,h2⟩:=m.tvar i hi
 refine⟨_,zf (yy hN hv hd hcd) yv hs,.ref t,h2,?_⟩
 exact h F σ H _ m fun as vs H2 q2 t2 k2 r2=>k _ _ H2 q2 t2 k2 (.cons ⟨t,b,c,h1,rfl⟩ r2)
def datas :List A→Option (List PyData)
 |[]=>some []
 |.dat d::r=>(datas r).map (d::·)
 |_::_=>none
theorem ye.datas {F:Fr}{G:Hp}:∀{vs:List V} {as:List A} {ds:List PyData},ye F G vs as→L2.datas as=some ds→AVs G vs ds
 |_,_,ds,.nil,h=>by cases h;exact .nil
 |_,_,ds,.cons (a:=.dat d) (as:=as) h r,e=>by
  simp only[L2.datas,zw1] at e
  obtain⟨es,e1,rfl⟩:=e
  exact .cons h (ye.datas r e1)
 |_,_,ds,.cons (a:=.ow _) h r,e=>by cases h
 |_,_,ds,.cons (a:=.deep _ _) h r,e=>by cases h
 |_,_,ds,.cons (a:=.exc _ _) h r,e=>by cases h
 |_,_,ds,.cons (a:=.pin _ _ _) h r,e=>by cases h
 |_,_,ds,.cons (a:=.tape) h r,e=>by cases e
 |_,_,ds,.cons (a:=.at _) h r,e=>by cases h
theorem wV {n:Nat}(h:EvA X α es fun as=>∃ds,datas as=some ds∧ds.length≤1000∧Q (.tuple ds)):EvD X α (.Tuple es n pos) Q:=fun F σ H R m k=>by
 refine⟨_,tX yv,?_⟩
 refine h F σ H _ m fun as vs H1 q1 t1 k1 r1=>?_
 obtain⟨ds,e,hl,q⟩:=q1
 have r:=r1.datas e
 have m1:=m.kz k1 t1
 refine⟨by rw[r.length];exact zy6 (yG hl),fun p hp=>?_⟩
 refine k _ _ _ q (t1.same (yr hp)) (k1.trans (Kz.of_same (yr hp))) (.tup (xs:=vs) (zF (m1.fresh hp) zk) (r.same (zv fun a o ha e=>⟨ha,by rw[zd (zo e hp)];exact e⟩)))
theorem yW {Q:List PyData→Prop}(h:EvA X α es fun as=>∃ds,datas as=some ds∧ds.length≤1000∧Q ds):EvL X α (.List es pos) Q:=fun F σ H R m k=>by
 refine⟨_,gF yv,?_⟩
 refine h F σ H _ m fun as vs H1 q1 t1 k1 r1=>?_
 obtain⟨ds,e,hl,q⟩:=q1
 have r:=r1.datas e
 have m1:=m.kz k1 t1
 refine⟨by rw[r.length];exact zy6 (yG hl),fun p hp=>?_⟩
 obtain⟨g1,g2,g3⟩:=m1.lay hp r
 exact k _ _ _ q g1 (k1.trans g2) (g3.back m k1 t1)
theorem wZ {Q:List PyData→Prop}(h:EvD X α a fun x=>EvD X α b fun y=>∃ds es,x=.list ds∧y=.list es∧ds.length+es.length≤1000∧Q (ds++es)):EvL X α (.BinOp a .Add b pos) Q:=fun F σ H R m k=>by
 refine⟨_,yw zg7 zr zr,?_⟩
 refine h F σ H _ m fun x vx H1 q1 t1 k1 r1=>?_
 have m1:=m.kz k1 t1
 refine q1 F σ H1 _ m1 fun y vy H2 q2 t2 k2 r2=>?_
 have m2:=m1.kz k2 t2
 obtain⟨ds,es,rfl,rfl,hl,q⟩:=q2
 obtain⟨a,xs,rfl,h1,h2⟩:=(r1.same (k2.gz m1.tp)).lst_inv
 obtain⟨b,ys,rfl,h3,h4⟩:=r2.lst_inv
 refine⟨a,b,xs,ys,rfl,rfl,(zm h1).2,(zm h3).2,by rw[h2.length,h4.length];exact zy6 (yG hl),fun p hp=>?_⟩
 obtain⟨g1,g2,g3⟩:=m2.lay hp (h2.append h4)
 exact k _ _ _ q g1 ((k1.trans k2).trans g2) (g3.back m (k1.trans k2) t2)
theorem sX {id:String}{x:Str}{r:List V→Hp→VK→Prop}(hc:wL X (.builtin id) r)(hg:Gl X x)(hm:X.mg x=none)(hv:bootBuiltins x=some (.builtin id))
  (h:EvA X α (e::es) fun as=>∀(F:Fr) (σ:St) (H:Hp) (vs:List V) (R:VK),M F α σ H→ye F (Gz F α σ H) vs as→(∀d v H',Q d→zQ F H'→Kz F H H'→AV (Gz F α σ H') v d→R v H')→r vs H R)
  (hn:x≠"__name__":=by decide) (hdb:(x == ("__debug__":Str))=false:=by decide) (he:starEach (e::es) X.env=(false,eval e X.env)::starEach es X.env:=by rfl) (hpl:(backTo pos (starEach es X.env)).any (·.1)=false:=by rfl):
  EvD X α (.Call (.Name x p) (e::es) [] pos) Q:=fun F σ H R m k=>by
 refine⟨_,yj hc hg hm hv yv hn hdb he hpl,?_⟩
 refine h F σ H _ m fun as vs H1 q1 t1 k1 r1=>?_
 exact q1 F σ H1 vs R (m.kz k1 t1) r1 fun d v H' qd t2 k2 r2=>k d v H' qd t2 (k1.trans k2) r2
end
section
variable {X:Cx}{α:Ev}{e a b c:Expr}{es:List Expr}{pos p q:Pos}{Q:PyData→Prop}
theorem ye.one {F:Fr}{G:Hp}{vs:List V}{d:PyData}(h:ye F G vs [.dat d]):∃v,vs=[v]∧AV G v d:=by
 cases h with|cons h r=>cases r;exact⟨_,rfl,h⟩
theorem ye.two {F:Fr}{G:Hp}{vs:List V}{d e:PyData}(h:ye F G vs [.dat d,.dat e]):∃v u,vs=[v,u]∧AV G v d∧AV G u e:=by
 cases h with|cons h r=>obtain⟨u,rfl,h2⟩:=r.one;exact⟨_,u,rfl,h,h2⟩
def zq9 :PyData→Option Int
 |.list ds=>some ds.length
 |.tuple ds=>some ds.length
 |_=>none
theorem pe (hg:Gl X "len")(hm:X.mg "len"=none)(h:EvD X α e fun x=>∃n,zq9 x=some n∧Q (.int n))(he:starEach [e] X.env=(false,eval e X.env)::starEach [] X.env:=by rfl):
  EvD X α (.Call (.Name "len" p) [e] [] pos) Q:=by
 refine sX yt hg hm zC5 (zl (h.imp fun x ⟨n,e1,q⟩=>zt ?_) he) (he:=he)
 intro F σ H vs R m rv k
 obtain⟨v,rfl,av⟩:=rv.one
 cases av with
 |lst h1 h2=>cases e1;rw[←h2.length] at q;exact⟨_,_,rfl,.inl (SqL.of (zm h1).2),k _ _ H q m.tp Kz.refl (.int _)⟩
 |tup h1 h2=>cases e1;rw[←h2.length] at q;exact⟨_,_,rfl,.inr (SqT.of (zm h1).2),k _ _ H q m.tp Kz.refl (.int _)⟩
 |_=>cases e1
def wo :PyData→Option (List PyData)
 |.list ds=>some ds
 |.tuple ds=>some ds
 |_=>none
theorem km {Q:List PyData→Prop}(hg:Gl X "list")(hm:X.mg "list"=none)(h:EvD X α e fun x=>∃ds,wo x=some ds∧Q ds)(he:starEach [e] X.env=(false,eval e X.env)::starEach [] X.env:=by rfl):
  EvL X α (.Call (.Name "list" p) [e] [] pos) Q:=fun F σ H R m k=>by
 refine⟨_,vF ua hg hm boot_list (zf zr zu he) (he:=he),?_⟩
 refine h F σ H _ m fun x vx H1 q1 t1 k1 r1=>?_
 obtain⟨ds,e1,q⟩:=q1
 have m1:=m.kz k1 t1
 have fin:∀{xs:List V},AVs (Gz F α σ H1) xs ds→∀l,H1 l=none→R (.ref l) (upd H1 l (.lst xs)):=fun {xs} h2 l hl=>by
  obtain⟨g1,g2,g3⟩:=m1.lay hl h2
  exact k _ _ _ q g1 (k1.trans g2) (g3.back m k1 t1)
 cases r1 with
 |lst h1 h2=>cases e1;exact⟨_,_,rfl,.inl (SqL.of (zm h1).2),fin h2⟩
 |tup h1 h2=>cases e1;exact⟨_,_,rfl,.inr (SqT.of (zm h1).2),fin h2⟩
 |_=>cases e1
theorem lV (hgu:X.A.guards=some [])(hu:X.A.units+64<cLine)(hg:Gl X "repr")(hm:X.mg "repr"=none)(h:EvD X α e fun x=>zT sizeLine x∧Q (.str x.shown))(he:starEach [e] X.env=(false,eval e X.env)::starEach [] X.env:=by rfl):
  EvD X α (.Call (.Name "repr" p) [e] [] pos) Q:=by
 refine sX (il hgu hu) hg hm boot_repr (zl (h.imp fun x ⟨n,q⟩=>zt ?_) he) (he:=he)
 intro F σ H vs R m rv k
 obtain⟨v,rfl,av⟩:=rv.one
 exact⟨v,x,rfl,(av.dv n.nod).same wb,n,k _ _ H q m.tp Kz.refl (.str _)⟩
section
variable {k:Nat}{f:Addr}{fd:FuncData}{ps:List Str}{φ:List A→(A→Prop)→Prop}{x:Str}
theorem xF {F:Fr}{σ:St}{H:Hp}{vs:List V}{as:List A}{QA:A→Prop}{R:VK}(m:M F α σ H)(rv:ye F (Gz F α σ H) vs as)(hφ:φ as QA)
  (kk:∀a v H',QA a→xO ⟨H,Ow F α σ,F.tp⟩ v H' a→R v H') {E:XK}:spA φ (vs++[]) H R E:=by
 refine⟨⟨H,Ow F α σ,F.tp⟩,as,QA,rfl,?_,?_,?_,hφ,kk⟩
 ·exact m.tp.to rfl fun _ z=>.inl z
 ·exact fun y z=>m.owEx z
 ·rw[zA3]
  exact ye.to (F:=F) (F':=⟨H,Ow F α σ,F.tp⟩) (fun _ _ e=>e) rfl rv
theorem xO.back {F:Fr}{σ:St}{H H':Hp}{v:V}{a:A}(m:M F α σ H)(h:xO ⟨H,Ow F α σ,F.tp⟩ v H' a):zQ F H'∧Kz F H H'∧AV (Gz F α σ H') v a.d:=by
 obtain⟨t,kz,r⟩:=h
 refine⟨m.tp.re t rfl,kz,?_⟩
 cases a with
 |dat d=>exact r
 |ow c=>
  obtain⟨l,xs,ds,rfl,rfl,h1,h2,h3,h4⟩:=r
  exact .lst (zF h2 h3) (h4.same (zv fun a o h e=>⟨h.1,e⟩))
 |deep d S=>
  obtain⟨h1,h2⟩:=r
  refine h1.same fun x o e=>?_
  rcases vj e with ⟨z1,z2⟩|⟨_,z2⟩
  ·exact zF (h2 x z1).1 z2
  ·exact z2
 |tape=>exact r.elim
 |«at» _=>exact r.elim
 |exc _ _=>exact r.elim
 |pin _ _ _=>exact r.elim
theorem bJ (G:zD X.prog X.w X.K X.mg X.base CX0 k f fd ps (spA φ))(hr:zL k X.A)(hg:Gl X x)(hm:X.mg x=some (.ref f))(hk:PySem.W.keepIn X.K (.ref f)=true)(hb:Binds X.K fd ps [])
  (h:EvA X α (e::es) fun as=>φ as fun a=>Q a.d) (hdb:(x == ("__debug__":Str))=false:=by decide) (he:starEach (e::es) X.env=(false,eval e X.env)::starEach es X.env:=by rfl) (hpl:(backTo pos (starEach es X.env)).any (·.1)=false:=by rfl):
  EvD X α (.Call (.Name x p) (e::es) [] pos) Q:=fun F σ H R m kk=>by
 refine⟨_,zP G hr hg hm hk hb .nil zX yv hdb he hpl,?_⟩
 refine h F σ H _ m fun as vs H1 q1 t1 k1 r1=>?_
 have m1:=m.kz k1 t1
 refine xF m1 r1 q1 fun a v H' qa ra=>?_
 obtain⟨g1,g2,g3⟩:=ra.back m1
 exact kk _ v H' qa g1 (k1.trans g2) g3
theorem cS {Q:List PyData→Prop}(G:zD X.prog X.w X.K X.mg X.base CX0 k f fd ps (spA φ))(hr:zL k X.A)(hg:Gl X x)(hm:X.mg x=some (.ref f))(hk:PySem.W.keepIn X.K (.ref f)=true)(hb:Binds X.K fd ps [])
  (h:EvA X α (e::es) fun as=>φ as fun a=>∃ds,a=.own ds∧Q ds) (hdb:(x == ("__debug__":Str))=false:=by decide) (he:starEach (e::es) X.env=(false,eval e X.env)::starEach es X.env:=by rfl) (hpl:(backTo pos (starEach es X.env)).any (·.1)=false:=by rfl):
  EvL X α (.Call (.Name x p) (e::es) [] pos) Q:=fun F σ H R m kk=>by
 refine⟨_,zP G hr hg hm hk hb .nil zX yv hdb he hpl,?_⟩
 refine h F σ H _ m fun as vs H1 q1 t1 k1 r1=>?_
 have m1:=m.kz k1 t1
 refine xF m1 r1 q1 fun a v H' qa ra=>?_
 obtain⟨ds,rfl,q⟩:=qa
 obtain⟨g1,g2,_⟩:=ra.back m1
 obtain⟨_,_,l,xs,ds',rfl,hc,h1,h2,h3,h4⟩:=ra
 cases hc
 exact kk ds _ H' q g1 (k1.trans g2) (yN.back m k1 t1 ⟨l,xs,rfl,h1,h3,h4⟩)
end
theorem get_set {i:Nat}{x:Option A}(h:∃y,α[i]?=some y):(α.set i x)[i]?=some x:=by
 obtain⟨y,h⟩:=h
 rw[zz3 (zt5.mp h).1]
theorem sQ {i j:Nat}{x:Option A}(h:i≠j):(α.set i x)[j]?=α[j]?:=zx6 h
theorem zR {i:Nat}{x:Option A}{j:Nat}{y:Option A}(h:(α.set i x)[j]?=some y):(i=j∧x=y)∨(i≠j∧α[j]?=some y):=by
 by_cases hij:i=j
 ·subst hij
  left
  have hl:i<α.length:=by
   have:=(zt5.mp h).1
   rwa [zx7] at this
  rw[zz3 hl] at h
  exact⟨rfl,zv8 h⟩
 ·right
  rw[zx6 hij] at h
  exact⟨hij,h⟩
theorem M.put {F:Fr}{σ:St}{H:Hp}{i:Nat}{b:Option A}(m:M F α σ H)(hf:∀s c x,σ[i]?=some s→b=some c→foot s c x→∃a,α[i]?=some (some a)∧foot s a x)
  (hok:∀s c,i<α.length→σ[i]?=some s→b=some c→wW (Gz F (α.set i b) σ H) F H s c) (hx:∀c,b=some c→noX c:=by intro c z;cases z;trivial):zC (Gz F α σ H) (Gz F (α.set i b) σ H)∧M F (α.set i b) σ H:=by
 have gs:zC (Gz F α σ H) (Gz F (α.set i b) σ H):=zv fun a o h e=>⟨fun z=>h (by
  rcases z with z|⟨j,c,s,e1,e2,f⟩
  ·exact .inl z
  ·rcases zR e1 with ⟨rfl,z⟩|⟨hj,e1'⟩
   ·obtain⟨a',h1,h2⟩:=hf s c a e2 z f
    exact .inr ⟨i,a',s,h1,e2,h2⟩
   ·exact .inr ⟨j,c,s,e1',e2,f⟩),e⟩
 have old:∀{j:Nat} {c:A} {s:Option V} {x:Addr},(α.set i b)[j]?=some (some c)→σ[j]?=some s→foot s c x→∃a,α[j]?=some (some a)∧foot s a x:=fun {j c s x} e1 e2 f=>by
  rcases zR e1 with ⟨rfl,z⟩|⟨hj,e1'⟩
  ·exact hf s c x e2 z f
  ·exact⟨c,e1',f⟩
 refine⟨gs,by rw[zx7];exact m.len,fun j c s e1 e2=>?_,fun j k c d s t x e1 e2 h1 h2 f1 f2=>?_,fun j r q e j' c s x e1 e2 f=>?_,m.tp,m.keep,m.oex⟩
 ·rcases zR e1 with ⟨rfl,z⟩|⟨hj,e1'⟩
  ·refine hok s c ?_ e2 z
   have:=(zt5.mp e1).1
   rwa [zx7] at this
  ·exact (m.ok j c s e1' e2).stay gs (fun x o f e=>⟨e,(m.ft e1' e2 f).1,(m.ft e1' e2 f).2.1⟩) rfl fun _ _ _ l=>l
 ·obtain⟨a',g1,g2⟩:=old e1 h1 f1
  obtain⟨b',g3,g4⟩:=old e2 h2 f2
  exact m.dj j k a' b' s t x g1 g3 h1 h2 g2 g4
 ·obtain⟨a',g1,g2⟩:=old e1 e2 f
  rcases zR e with ⟨rfl,z⟩|⟨_,e'⟩
  ·exact (hx _ z).elim
  ·exact m.xd j r q e' j' a' s x g1 e2 g2
theorem M.gave {F:Fr}{σ:St}{H:Hp}{i:Nat}{a:A}{s:Option V}{b:Option A}{x:Addr}(m:M F α σ H)(e1:α[i]?=some (some a))(e2:σ[i]?=some s)(f:foot s a x)(hb:∀c,b=some c→¬foot s c x):¬Ow F (α.set i b) σ x:=by
 rintro (z|⟨j,c,t,h1,h2,g⟩)
 ·exact (m.ft e1 e2 f).1 z
 ·rcases zR h1 with ⟨rfl,z⟩|⟨hj,h1'⟩
  ·rw[e2] at h2;cases h2;exact hb c z g
  ·exact hj (m.dj i j a c s t x e1 h1' e2 h2 f g)
theorem zd9 {F:Fr}{σ:St}{H:Hp}{i:Nat}{b:A}(hb:∀s x,¬foot s b x):zC (Gz F α σ H) (Gz F (α.set i (some b)) σ H):=zv fun a o h e=>⟨fun z=>h (by
 rcases z with z|⟨j,c,s,e1,e2,f⟩
 ·exact .inl z
 ·rcases zR e1 with ⟨rfl,z⟩|⟨hj,e1'⟩
  ·cases z;exact (hb _ _ f).elim
  ·exact .inr ⟨j,c,s,e1',e2,f⟩),e⟩
theorem M.frz {F:Fr}{σ:St}{H:Hp}{i:Nat}{ds:List PyData}(m:M F α σ H)(hi:α[i]?=some (some (.own ds))):M F (α.set i (some (.dat (.list ds)))) σ H:=
 (m.put (b:=some (.dat (.list ds))) (fun s c' x _ z f=>by cases z;exact f.elim) fun s c' _ e2 z=>by
  cases z
  obtain⟨l,o,h1,h2,h3,h4,h5⟩:=m.owc i _ hi
  rw[h1] at e2;cases e2
  exact⟨.ref l,rfl,(h3.same (zd9 (b:=.dat (.list ds)) fun _ _ f=>f)).av (zF (m.gave hi h1 rfl fun c z=>by cases z;exact id) h2)⟩).2
theorem M.frzd {F:Fr}{σ:St}{H:Hp}{i:Nat}{d:PyData}{S:Addr→Prop}(m:M F α σ H)(hi:α[i]?=some (some (.deep d S))):M F (α.set i (some (.dat d))) σ H:=
 (m.put (b:=some (.dat d)) (fun s c' x _ z f=>by cases z;exact f.elim) fun s c' _ e2 z=>by
  cases z
  obtain⟨v,h1,h2,h3⟩:=m.deep i d S hi
  rw[h1] at e2;cases e2
  refine⟨v,rfl,h2.same fun x o e=>?_⟩
  rcases vj e with ⟨z1,z2⟩|⟨_,z2⟩
  ·exact zF (m.gave hi h1 z1 fun c z=>by cases z;exact id) z2
  ·obtain⟨w1,w2⟩:=zm z2
   refine zF (fun q=>w1 ?_) w2
   rcases q with z|⟨j,c,s,e1,e2,f⟩
   ·exact .inl z
   ·rcases zR e1 with ⟨rfl,z⟩|⟨hj,e1'⟩
    ·cases z;exact f.elim
    ·exact .inr ⟨j,c,s,e1',e2,f⟩).2
theorem iM {F:Fr}{σ:St}{H H':Hp}{i:Nat}{a:A}{b:Option A}(m:M F α σ H)(k:Kz F H H')(hi:α[i]?=some (some a))(x:Addr)(o:HO)(ho:¬Ob o)(h:Gz F (α.set i b) σ H' x=some o):Gz F α σ H' x=some o:=by
 obtain⟨h1,h2⟩:=zm h
 refine zF ?_ h2
 rintro (z|⟨j,c,s,e1,e2,f⟩)
 ·exact h1 (.inl z)
 ·by_cases hj:i=j
  ·subst hj
   obtain⟨g1,g2,o',g3,g4⟩:=m.ft e1 e2 f
   rw[k _ _ g3 (m.tp.nt g1)] at h2;cases h2;exact ho g4
  ·exact h1 (.inr ⟨j,c,s,by rw[sQ hj];exact e1,e2,f⟩)
theorem dS {Q:Bool→Prop}(i:Nat){c:PyData}{S:Addr→Prop}(hi:α[i]?=some (some (.deep c S)))(h:EvT X (α.set i (some (.dat c))) e Q):EvT X α e Q:=fun F σ H R m k=>h F σ H R (m.frzd hi) k
theorem mL {Q:List PyData→Prop}{i:Nat}{a:A}{b:Option A}(hi:α[i]?=some (some a))(hm:∀F σ H,M F α σ H→M F (α.set i b) σ H)(h:EvL X (α.set i b) e fun d=>xJ d=true∧Q d):EvL X α e Q:=fun F σ H R m k=>
 h F σ H R (hm F σ H m) fun d v H' q t kz r=>by
  obtain⟨l,xs,h1,h2,h3,h4⟩:=r
  refine k d v H' q.2 t kz ⟨l,xs,h1,h2,h3,h4.noL (fun a ys hno z=>?_) q.1⟩
  obtain⟨z1,z2⟩:=zm z
  obtain⟨w1,w2⟩:=zm (iM m kz hi a ys hno (zF z1.1 z2))
  exact zF ⟨w1,z1.2⟩ w2
theorem cP (i:Nat){ds:List PyData}(hi:α[i]?=some (some (.own ds)))(h:EvD X (α.set i (some (.dat (.list ds)))) e fun d=>noL d=true∧Q d):EvD X α e Q:=fun F σ H R m k=>
 h F σ H R (m.frz hi) fun d v H' q t kz r=>k d v H' q.2 t kz (r.noL (iM m kz hi) q.1)
theorem kf {Q:Bool→Prop}(i:Nat){ds:List PyData}(hi:α[i]?=some (some (.own ds)))(h:EvT X (α.set i (some (.dat (.list ds)))) e Q):EvT X α e Q:=fun F σ H R m k=>h F σ H R (m.frz hi) k
theorem bB {Q:List PyData→Prop}(i:Nat){ds:List PyData}(hi:α[i]?=some (some (.own ds)))(h:EvL X (α.set i (some (.dat (.list ds)))) e fun d=>xJ d=true∧Q d):EvL X α e Q:=mL hi (fun _ _ _ m=>m.frz hi) h
def ItW (p:Addr→Prop)(J:It)(ds:List PyData)(G:Hp):Prop:=∀(i:Nat) (H2:Hp) (q:Addr→Prop),zC G (sub q H2)→
 (∀d,ds[i]?=some d→J.go i H2∧∀x H3,J.yld i H2 x H3→zC H2 H3∧((∀a o,H3 a=some o→H2 a=none→q a)→AV (sub q H3) x d))∧(ds.length≤i→J.stop i H2)
def zg8 (X:Cx)(tg e:Expr):TI:=fun σ H R=>∃t,PI X tg e t∧t σ H R
theorem qC {tg e:Expr}:PI X tg e (zg8 X tg e):=fun pins s σ H R I ⟨t,p,q⟩=>p pins s σ H R I q
def EvI (X:Cx)(α:Ev)(tg e:Expr)(Q:List PyData→Prop):Prop:=∀(F:Fr) (σ:St) (H:Hp) (R:It→Hp→Prop),M F α σ H→
 (∀ds J H',Q ds→zQ F H'→Kz F H H'→ItW (fun x=>¬Ow F α σ x) J ds (Gz F α σ H')→R J H')→zg8 X tg e σ H R
theorem wu {tg:Expr}{Q:List PyData→Prop}(h:EvD X α e fun x=>∃ds,x=.list ds∧Q ds):EvI X α tg e Q:=fun F σ H R m k=>by
 refine⟨_,lP zr,?_⟩
 refine h F σ H _ m fun x vx H1 q1 t1 k1 r1=>?_
 obtain⟨ds,rfl,q⟩:=q1
 obtain⟨a,xs,rfl,h1,h2⟩:=r1.lst_inv
 refine⟨a,rfl,⟨xs,SqL.of (zm h1).2⟩,k ds _ H1 q t1 k1 fun i H2 p s=>⟨fun d hd=>?_,fun hl=>?_⟩⟩
 ·obtain⟨x,hx,av⟩:=h2.get hd
  have ha:=SqL.of (K:=X.K) (zm (s _ _ h1)).2
  refine⟨⟨xs,x,ha,hx⟩,fun x' H3 y=>?_⟩
  obtain⟨e,y⟩:=y
  subst e
  have:=y xs ha
  rw[hx] at this;cases this
  exact⟨zC.refl _,fun _=>av.same s⟩
 ·exact⟨xs,SqL.of (zm (s _ _ h1)).2,by rw[h2.length];exact hl⟩
theorem jz {p:Addr→Prop}{lo:Int}{n:Nat}{G:Hp}:ItW p (Itr lo n) ((zw lo n).map .int) G:=fun i H2 q s=>⟨fun d hd=>by
  rw[zu7,zw1] at hd
  obtain⟨z,h1,rfl⟩:=hd
  have hi:i<n:=by
   have:=(zt5.mp h1).1
   rwa [zh] at this
  rw[yM hi] at h1
  cases h1
  refine⟨hi,fun x H3 y=>?_⟩
  obtain⟨rfl,rfl⟩:=y
  exact⟨zC.refl _,fun _=>.int _⟩,fun hl=>by
  rw[zt1,zh] at hl
  exact hl⟩
theorem vv {tg:Expr}{Q:List PyData→Prop}(hg:Gl X "range")(hm:X.mg "range"=none)(h:EvD X α a fun x=>∃j,x=.int j∧-(2 ^ 62)≤j∧j<2 ^ 62∧Q ((zw 0 j.toNat).map .int))(hs:starEach [a] X.env=[(false,eval a X.env)]:=by rfl):
  EvI X α tg (.Call (.Name "range" p) [a] [] pos) Q:=fun F σ H R m k=>by
 refine⟨_,jO hg hm (zf zr zu hs) hs,?_⟩
 refine h F σ H _ m fun x vx H1 q1 t1 k1 r1=>?_
 obtain⟨j,rfl,b1,b2,q⟩:=q1
 cases r1.int_inv
 exact⟨j,rfl,b1,b2,k _ _ H1 q t1 k1 jz⟩
end
inductive Pat where
 |one (i:Nat)
 |many (is:List Nat)
 |nest (i:Nat) (is:List Nat)
def xV :List Nat→List PyData→Ev→Option Ev
 |[],[],α=>some α
 |i::is,d::ds,α=>xV is ds (α.set i (some (.dat d)))
 |_,_,_=>none
def Pat.bind :Pat→PyData→Ev→Option Ev
 |.one i,d,α=>some (α.set i (some (.dat d)))
 |.many is,.tuple ds,α=>xV is ds α
 |.nest i is,.tuple [d,.tuple ds],α=>xV is ds (α.set i (some (.dat d)))
 |_,_,_=>none
def gIs :List Nat→TGs
 |[]=>zi7
 |i::is=>lO (sN i) (gIs is)
def nh (K:PySem.W.Frag):Pat→TG
 |.one i=>sN i
 |.many is=>fZ K is.length (gIs is)
 |.nest i is=>fZ K 2 (lO (sN i) (lO (fZ K is.length (gIs is)) zi7))
def Pat.slots :Pat→List Nat
 |.one i=>[i]
 |.many is=>is
 |.nest i is=>i::is
def isFree (α:Ev)(i:Nat):Bool:=match α[i]? with
 |some none=>true
 |_=>false
def Pat.free (p:Pat)(α:Ev):Bool:=p.slots.all (isFree α)
section
variable {X:Cx}{α α':Ev}{F:Fr}{σ:St}{H:Hp}
theorem M.store {i:Nat}{v:V}{b:A}{H':Hp}(m:M F α σ H)(t:zQ F H')(k:Kz F H H')(hn:∀x,foot (some v) b x→H x=none)(hok:wW (sub (fun x=>¬Ow F α σ x∧¬foot (some v) b x) H') F H' (some v) b)(hx:noX b:=by trivial):M F (α.set i (some b)) (σ.set i (some v)) H':=by
 have m':=m.kz k t
 have hs:∀{j:Nat} {c:A} {s:Option V},(α.set i (some b))[j]?=some (some c)→(σ.set i (some v))[j]?=some s→(i=j∧c=b∧s=some v)∨(i≠j∧α[j]?=some (some c)∧σ[j]?=some s):=fun {j c s} e1 e2=>by
  rcases zR e1 with ⟨rfl,z⟩|⟨hj,e1'⟩
  ·cases z
   have hl:i<σ.length:=by
    have:=(zt5.mp e2).1
    rwa [zx7] at this
   rw[zz3 hl] at e2
   cases e2
   exact .inl ⟨rfl,rfl,rfl⟩
  ·rw[zx6 hj] at e2
   exact .inr ⟨hj,e1',e2⟩
 have ow:∀{y:Addr},Ow F (α.set i (some b)) (σ.set i (some v)) y→Ow F α σ y∨foot (some v) b y:=fun {y} h=>by
  rcases h with z|⟨j,c,s,e1,e2,f⟩
  ·exact .inl (.inl z)
  ·rcases hs e1 e2 with ⟨_,rfl,rfl⟩|⟨_,g1,g2⟩
   ·exact .inr f
   ·exact .inl (.inr ⟨j,c,s,g1,g2,f⟩)
 have g1:zC (sub (fun x=>¬Ow F α σ x∧¬foot (some v) b x) H') (Gz F (α.set i (some b)) (σ.set i (some v)) H'):=zv fun a o h e=>⟨fun z=>(ow z).elim h.1 h.2,e⟩
 have g0:zC (Gz F α σ H) (sub (fun x=>¬Ow F α σ x∧¬foot (some v) b x) H'):=zv fun a o h e=>⟨⟨h,fun z=>by rw[hn a z] at e;cases e⟩,k a o e (m.tp.nt (ow0 h))⟩
 refine⟨by rw[zx7,zx7];exact m.len,fun j c s e1 e2=>?_,fun j j' c d s s' x e1 e2 h1 h2 f1 f2=>?_,fun j r q e j' c s x e1 e2 f=>?_,t,m.keep.trans k,m'.oex⟩
 ·rcases hs e1 e2 with ⟨rfl,rfl,rfl⟩|⟨_,z1,z2⟩
  ·exact hok.stay g1 (fun x o f e=>by
    obtain⟨w1,w2,_⟩:=tE hok f
    exact⟨e,w1,w2⟩) rfl fun _ _ _ l=>l
  ·exact (m.ok j c s z1 z2).stay (g0.trans g1) (fun x o f e=>by
    obtain⟨w1,w2,_⟩:=m.ft z1 z2 f
    exact⟨k x o e (m.tp.nt w1),w1,w2⟩) rfl fun _ _ _ l=>l.kz k t
 ·have nn:∀{j:Nat} {c:A} {s:Option V},α[j]?=some (some c)→σ[j]?=some s→foot s c x→¬foot (some v) b x:=fun {j c s} z1 z2 f g=>by
   obtain⟨_,_,o,w,_⟩:=m.ft z1 z2 f
   rw[hn x g] at w;cases w
  rcases hs e1 h1 with ⟨rfl,rfl,rfl⟩|⟨_,z1,z2⟩
  ·rcases hs e2 h2 with ⟨rfl,_⟩|⟨_,w1,w2⟩
   ·rfl
   ·exact absurd f1 (nn w1 w2 f2)
  ·rcases hs e2 h2 with ⟨rfl,rfl,rfl⟩|⟨_,w1,w2⟩
   ·exact absurd f2 (nn z1 z2 f1)
   ·exact m.dj j j' c d s s' x z1 w1 z2 w2 f1 f2
 ·rcases zR e with ⟨rfl,z⟩|⟨_,e'⟩
  ·cases z;exact hx.elim
  ·rcases hs e1 e2 with ⟨rfl,rfl,rfl⟩|⟨_,z1,z2⟩
   ·exact (m.lnk e').none (hn x f)
   ·exact m.xd j r q e' j' c s x z1 z2 f
theorem M.set {i:Nat}{v:V}{d:PyData}(m:M F α σ H)(av:AV (Gz F α σ H) v d):M F (α.set i (some (.dat d))) (σ.set i (some v)) H:=
 m.store m.tp Kz.refl (fun x z=>z.elim) ⟨v,rfl,av.same (zv fun a o h e=>⟨⟨h,fun z=>z⟩,e⟩)⟩
theorem M.setC {i:Nat}{v:V}{c:PyData}{H':Hp}(m:M F α σ H)(t:zQ F H')(k:Kz F H H')(fl:iP F α σ H v H' c):M F (α.set i (some (.ow c))) (σ.set i (some v)) H':=by
 obtain⟨l,o,rfl,h1,h2,h3⟩:=fl
 have nl:¬Ow F α σ l:=m.fresh h1
 refine m.store t k (fun x z=>?_) ⟨l,o,rfl,h2,h3.same (zv fun a o h e=>⟨⟨h.1,fun z=>h.2 (by cases z;rfl)⟩,e⟩),ow0 nl,m.fresh0 h1⟩
 have z':some (V.ref l)=some (.ref x):=z
 cases z';exact h1
theorem M.setOwn {i:Nat}{v:V}{ds:List PyData}{H':Hp}(m:M F α σ H)(t:zQ F H')(k:Kz F H H')(fl:yN F α σ H v H' ds):M F (α.set i (some (.own ds))) (σ.set i (some v)) H':=m.setC t k fl.c
theorem M.wr {x:Addr}{o:HO}(m:M F α σ H)(hno:wM o)(ho:F.O0 x)(ht:∀t b c,F.tp=some (t,b,c)→x≠t∧x≠b∧x≠c)(h0:F.H0 x=none)(hpl:Plain H x)(hx:∀(i:Nat) r q,α[i]?=some (some (.exc r q))→r.H0 x=none):M F α σ (upd H x o):=by
 have gs:zC (Gz F α σ H) (Gz F α σ (upd H x o)):=zv fun a u h e=>⟨h,by rw[zd (fun z=>h (.inl (by rw[z];exact ho)))];exact e⟩
 refine⟨m.len,fun j c s e1 e2=>?_,m.dj,m.xd,m.tp.upd ht hpl,fun y u e n=>?_,fun y hy=>?_⟩
 ·have:=m.ok j c s e1 e2
  cases c with
  |exc r q=>
   have l:Lnk r F H:=this
   exact⟨l.tp,l.o,l.ok.upd (fun a b c e=>ht a b c (l.tp▸e)) hpl,fun y u e n=>by rw[zd (zo e (hx j r q e1))];exact l.k y u e n⟩
  |_=>exact this.stay gs (fun y u f e=>by
    obtain⟨w1,w2,_⟩:=m.ft e1 e2 f
    exact⟨by rw[zd (fun z=>w1 (by rw[z];exact ho))];exact e,w1,w2⟩) rfl fun _ _ z=>by cases z
 ·rw[zd (zo e h0)];exact m.keep y u e n
 ·by_cases z:y=x
  ·exact⟨o,by rw[z];exact zk,hno⟩
  ·obtain⟨u,hu,hn⟩:=m.oex y hy
   exact⟨u,by rw[zd z];exact hu,hn⟩
theorem M.forget {α0:Ev}(m:M F α σ H)(hl:α0.length=α.length)(le:∀(i:Nat) a,α0[i]?=some (some a)→α[i]?=some (some a)):M F α0 σ H:=by
 have ow:∀{y:Addr},Ow F α0 σ y→Ow F α σ y:=fun {y} h=>by
  rcases h with z|⟨j,c,s,e1,e2,f⟩
  ·exact .inl z
  ·exact .inr ⟨j,c,s,le _ _ e1,e2,f⟩
 have gs:zC (Gz F α σ H) (Gz F α0 σ H):=zv fun a o h e=>⟨fun z=>h (ow z),e⟩
 exact⟨hl.trans m.len,fun j c s e1 e2=>(m.ok j c s (le _ _ e1) e2).stay gs (fun x o f e=>⟨e,(m.ft (le _ _ e1) e2 f).1,(m.ft (le _ _ e1) e2 f).2.1⟩) rfl fun _ _ _ l=>l,fun j j' c d s s' x e1 e2=>m.dj j j' c d s s' x (le _ _ e1) (le _ _ e2),fun j r q e j' c s x e1=>m.xd j r q (le _ _ e) j' c s x (le _ _ e1),m.tp,m.keep,m.oex⟩
theorem uC {H:Hp}:∀{is:List Nat} {ds:List PyData} {α α':Ev} {σ:St} {xs:List V} {R:St→Hp→Prop},xV is ds α=some α'→M F α σ H→(∀G,zC (Gz F α σ H) G→AVs G xs ds)→(∀σ',M F α' σ' H→R σ' H)→gIs is xs σ H R
 |[],[],α,α',σ,xs,R,e,m,av,k=>by
  cases e
  cases av _ (zC.refl _)
  exact⟨rfl,k σ m⟩
 |i::is,d::ds,α,α',σ,xs,R,e,m,av,k=>by
  cases h:av _ (zC.refl _) with
  |@cons x xs _ _ h1 h2=>
   refine⟨x,xs,rfl,?_⟩
   have gs:zC (Gz F α σ H) (Gz F (α.set i (some (.dat d))) (σ.set i (some x)) H):=zv fun a o h e=>⟨fun z=>h (by
    rcases z with z|⟨j,c,s,e1,e2,f⟩
    ·exact .inl z
    ·rcases zR e1 with ⟨_,z⟩|⟨hj,e1'⟩
     ·cases z;exact f.elim
     ·rw[zx6 hj] at e2
      exact .inr ⟨j,c,s,e1',e2,f⟩),e⟩
   exact uC (is:=is) (ds:=ds) e (m.set (i:=i) h1) (fun G s=>h2.same (gs.trans s)) k
 |[],_::_,_,_,_,_,_,e,_,_,_=>by cases e
 |_::_,[],_,_,_,_,_,e,_,_,_=>by cases e
theorem Pat.nest_inv {i:Nat}{is:List Nat}{d:PyData}(e:(Pat.nest i is).bind d α=some α'):∃d0 ds,d=.tuple [d0,.tuple ds]∧xV is ds (α.set i (some (.dat d0)))=some α':=by
 cases d with
 |tuple xs=>
  cases xs with
  |nil=>cases e
  |cons d0 r=>
   cases r with
   |nil=>cases e
   |cons d1 r=>
    cases r with
    |nil=>
     cases d1 with
     |tuple ds=>exact⟨_,_,rfl,e⟩
     |_=>cases e
    |cons _ _=>cases d1<;>cases e
 |_=>cases e
theorem rY :∀{is:List Nat} {ds:List PyData} {α α':Ev},xV is ds α=some α'→ds.length=is.length:=by
 intro is
 induction is with
 |nil=>intro ds α α' h;cases ds with|nil=>rfl|cons _ _=>cases h
 |cons i is ih=>intro ds α α' h;cases ds with|nil=>cases h|cons d ds=>rw[zu5,zu5,ih h]
theorem kj {K:PySem.W.Frag}{pat:Pat}{d:PyData}{v:V}{R:St→Hp→Prop}(e:pat.bind d α=some α')(m:M F α σ H)(av:AV (Gz F α σ H) v d)(k:∀σ',M F α' σ' H→R σ' H):nh K pat v σ H R:=by
 cases pat with
 |one i=>cases e;exact k _ (m.set av)
 |many is=>
  cases d with
  |tuple ds=>
   obtain⟨a,xs,rfl,h1,h2⟩:=av.tup_inv
   exact⟨a,xs,rfl,SqT.of (zm h1).2,by rw[h2.length];exact rY e,uC e m (fun G s=>h2.same s) k⟩
  |_=>cases e
 |nest i is=>
  obtain⟨d0,ds,rfl,e⟩:=Pat.nest_inv e
  obtain⟨a,xs,rfl,h1,h2⟩:=av.tup_inv
  cases h2 with
  |@cons x0 r _ _ z1 z2=>
   cases z2 with
   |@cons x1 r _ _ z3 z4=>
    cases z4
    have m1:=m.set (i:=i) z1
    have gs:zC (Gz F α σ H) (Gz F (α.set i (some (.dat d0))) (σ.set i (some x0)) H):=zv fun a o h e=>⟨fun z=>h (by
     rcases z with z|⟨j,c,s,e1,e2,f⟩
     ·exact .inl z
     ·rcases zR e1 with ⟨_,z⟩|⟨hj,e1'⟩
      ·cases z;exact f.elim
      ·rw[zx6 hj] at e2
       exact .inr ⟨j,c,s,e1',e2,f⟩),e⟩
    obtain⟨b,ys,rfl,w1,w2⟩:=(z3.same gs).tup_inv
    exact⟨a,_,rfl,SqT.of (zm h1).2,rfl,_,_,rfl,_,_,rfl,⟨b,ys,rfl,SqT.of (zm w1).2,by rw[w2.length];exact rY e,uC e m1 (fun G s=>w2.same s) fun σ' m'=>⟨rfl,k σ' m'⟩⟩⟩
theorem tR :∀{is:List Nat} {ds:List PyData} {α α':Ev},xV is ds α=some α'→α'.length=α.length
 |[],[],_,_,e=>by cases e;rfl
 |i::is,d::ds,α,α',e=>by
  have:=tR (is:=is) (ds:=ds) e
  rwa [zx7] at this
 |[],_::_,_,_,e=>by cases e
 |_::_,[],_,_,e=>by cases e
theorem sv :∀{is:List Nat} {ds:List PyData} {α α':Ev} {j:Nat},xV is ds α=some α'→j∉is→α'[j]?=α[j]?
 |[],[],_,_,_,e,_=>by cases e;rfl
 |i::is,d::ds,α,α',j,e,h=>by
  rw[sv (is:=is) (ds:=ds) e fun z=>h (zu1 _ z)]
  exact zx6 fun (z:i=j)=>h (by rw[←z];exact zu8)
 |[],_::_,_,_,_,e,_=>by cases e
 |_::_,[],_,_,_,e,_=>by cases e
theorem sM :∀{is:List Nat} {ds:List PyData} {α α':Ev} {j:Nat} {a:A},xV is ds α=some α'→α'[j]?=some (some a)→(∀d,a≠.dat d)→α[j]?=some (some a)
 |[],[],_,_,_,_,e,h,_=>by cases e;exact h
 |i::is,d::ds,α,α',j,a,e,h,hn=>by
  rcases zR (sM (is:=is) (ds:=ds) e h hn) with ⟨_,z⟩|⟨_,z⟩
  ·cases z;exact absurd rfl (hn d)
  ·exact z
 |[],_::_,_,_,_,_,e,_,_=>by cases e
 |_::_,[],_,_,_,_,e,_,_=>by cases e
theorem Pat.is_ok {pat:Pat}{d:PyData}(e:pat.bind d α=some α'):∃is ds,pat.slots=is∧xV is ds α=some α':=by
 cases pat with
 |one i=>cases e;exact⟨_,[d],rfl,rfl⟩
 |many is=>
  cases d with
  |tuple ds=>exact⟨_,ds,rfl,e⟩
  |_=>cases e
 |nest i is=>
  obtain⟨d0,ds,rfl,e⟩:=Pat.nest_inv e
  exact⟨_,d0::ds,rfl,e⟩
theorem Pat.back {pat:Pat}{d:PyData}(e:pat.bind d α=some α')(fr:pat.free α=true)(m:M F α' σ H):M F α σ H:=by
 obtain⟨is,ds,rfl,e⟩:=Pat.is_ok e
 refine m.forget (tR e).symm fun j a h=>?_
 by_cases hj:j∈pat.slots
 ·have:=zC7.mp fr j hj
  unfold isFree at this
  rw[h] at this
  cases this
 ·rw[sv e hj];exact h
end
section
variable {X:Cx}{α:Ev}
def jS (X:Cx)(α:Ev)(ifs:List Expr)(Q:Bool→Prop):Prop:=∀(F:Fr) (σ:St) (H:Hp) (R:Bool→Hp→Prop),M F α σ H→(∀b H',Q b→zQ F H'→Kz F H H'→R b H')→∃t,wX X ifs t∧t σ H R
def za0 (X:Cx)(ifs:List Expr):TT:=fun σ H R=>∃t,wX X ifs t∧t σ H R
theorem ki {ifs:List Expr}:wX X ifs (za0 X ifs):=fun pins s σ H Q I ⟨t,p,q⟩=>p pins s σ H Q I q
theorem qR {Q:Bool→Prop}(q:Q true):jS X α [] Q:=fun F σ H R m k=>⟨_,bh,k _ H q m.tp Kz.refl⟩
theorem iO {c:Expr}{Q:Bool→Prop}(h:EvT X α c Q):jS X α [c] Q:=fun F σ H R m k=>⟨_,lX xM,h F σ H R m k⟩
def seen :Option A→Option A
 |some (.dat d)=>some (.dat d)
 |some .tape=>some .tape
 |_=>none
def yR (imp:List (Option Nat))(α:Ev):Ev:=imp.map fun o=>o.bind fun j=>(α[j]?).bind seen
theorem pT {imp:List (Option Nat)}{i:Nat}{a:A}(h:(yR imp α)[i]?=some (some a)):∃j,imp[i]?=some (some j)∧α[j]?=some (some a)∧((∃d,a=.dat d)∨a=.tape):=by
 unfold yR at h
 rw[zu7,zw1] at h
 obtain⟨o,h1,h2⟩:=h
 cases o with
 |none=>cases h2
 |some j=>
  have h2':(α[j]?).bind seen=some a:=h2
  cases q:α[j]? with
  |none=>rw[q] at h2';cases h2'
  |some b=>
   rw[q] at h2'
   cases b with
   |none=>cases h2'
   |some b=>
    cases b with
    |dat d=>cases h2';exact⟨j,h1,q,.inl ⟨d,rfl⟩⟩
    |tape=>cases h2';exact⟨j,h1,q,.inr rfl⟩
    |_=>cases h2'
theorem nu {imp:List (Option Nat)}{σ:St}{i j:Nat}{v:V}(h1:imp[i]?=some (some j))(h2:σ[j]?=some (some v)):(wg imp σ)[i]?=some (some v):=by
 unfold wg
 rw[zu7,h1]
 show some ((σ[j]?).bind id)=_
 rw[h2];rfl
def xm (Y:Addr→Shared→Hp→List Addr→Cx)(pat:Pat)(ifs:List Expr)(elt:Expr)(α0:Ev):List PyData→List PyData→(List PyData→Prop)→Prop
 |[],acc,Q=>Q acc
 |d::ds,acc,Q=>∃α1,pat.bind d α0=some α1∧∀C s2 H2 fp,jS (Y C s2 H2 fp) α1 ifs fun k=>if k=true then ∀C s2 H2 fp,EvD (Y C s2 H2 fp) α1 elt fun y=>xm Y pat ifs elt α0 ds (acc++[y]) Q else xm Y pat ifs elt α0 ds acc Q
def eC (Y:Addr→Shared→Hp→List Addr→Cx)(e:Expr):TE:=fun σ H Q=>∀C s2 H2 fp,uF (Y C s2 H2 fp) e σ H Q
def tsC (Y:Addr→Shared→Hp→List Addr→Cx)(ifs:List Expr):TT:=fun σ H Q=>∀C s2 H2 fp,za0 (Y C s2 H2 fp) ifs σ H Q
theorem kE {N:List Str}{imp:List (Option Nat)}{scope:Scope}{tg iter elt:Expr}{ifs:List Expr}{pat:Pat}{Q:List PyData→Prop}(hfree:pat.free (yR imp α)=true)
  (h:EvI X α tg iter fun ds=>ds.length≤1000∧xm (fun C s2 H2 fp=>X.comp N scope C s2 H2 fp) pat ifs elt (yR imp α) ds [] Q)
  (F:Fr) (σ:St) (H:Hp) (R:VK) (m:M F α σ H) (k:∀ds v H',Q ds→zQ F H'→Kz F H H'→yN F α σ H v H' ds→R v H'):
  ∃Y:Addr→Shared→Hp→List Addr→Cx,Y=(fun C s2 H2 fp=>X.comp N scope C s2 H2 fp)∧gO (zg8 X tg iter) imp (nh X.K pat) (tsC Y ifs) (eC Y elt) σ H R:=by
 refine⟨_,rfl,?_⟩
 refine h F σ H _ m fun ds J H1 ⟨hl,q1⟩ t1 k1 itw acc hacc=>?_
 have m1:=m.kz k1 t1
 have nacc:¬Ow F α σ acc:=m1.fresh hacc
 let Fc:Fr:=⟨H1,fun x=>Ow F α σ x∨x=acc,F.tp⟩
 let Nd:Ev→Prop:=fun α1=>∀(j:Nat) a,α1[j]?=some (some a)→(∃d,a=.dat d)∨a=.tape
 have no0:Nd (yR imp α):=fun j a z=>by
  obtain⟨_,_,_,n⟩:=pT z
  exact n
 have owc:∀{α1:Ev} {τ:St} {x:Addr},Nd α1→(Ow Fc α1 τ x↔Fc.O0 x):=fun {α1 τ x} hh=>⟨fun z=>z.elim id fun⟨j,a,s,e1,e2,f⟩=>by
  rcases hh j a e1 with ⟨d,rfl⟩|rfl
  ·exact f.elim
  ·exact f.elim,.inl⟩
 have gz:∀{α1 α2:Ev} {τ1 τ2:St} {H:Hp},Nd α1→Nd α2→zC (Gz Fc α1 τ1 H) (Gz Fc α2 τ2 H):=fun h1 h2=>zv fun a o h e=>⟨fun z=>h ((owc h1).mpr ((owc h2).mp z)),e⟩
 have tpc:∀{H2:Hp},zQ F H2→zQ Fc H2:=fun t=>t.to rfl fun x z=>.inl (.inl z)
 have s01:zC H1 (upd H1 acc (.lst [])):=yr hacc
 have mc0:M Fc (yR imp α) (wg imp σ) (upd H1 acc (.lst [])):=by
  have g1:zC (Gz F α σ H1) (Gz Fc (yR imp α) (wg imp σ) (upd H1 acc (.lst []))):=fun a o e=>by
   obtain⟨z1,z2⟩:=zm e
   have na:a≠acc:=zo z2 hacc
   exact zF (fun z=>((owc no0).mp z).elim z1 na) (by rw[zd na];exact z2)
  refine⟨by unfold yR wg;rw[zt1,zt1],fun i a s e1 e2=>?_,fun i j a b s t x e1 e2 _ _ f=>?_,fun i r q e=>(by rcases no0 i _ e with ⟨d,w⟩|w<;>cases w),tpc (t1.same s01),fun x o e _=>s01 x o e,?_⟩
  ·obtain⟨j,w1,w2,w3⟩:=pT e1
   rcases w3 with ⟨d,rfl⟩|rfl
   ·obtain⟨v,g2,g3⟩:=m1.dat j d w2
    rw[nu w1 g2] at e2;cases e2
    exact⟨v,rfl,g3.same g1⟩
   ·obtain⟨t,b,c,g2,g3⟩:=m1.tvar j w2
    rw[nu w1 g3] at e2;cases e2
    exact⟨t,b,c,g2,rfl⟩
  ·rcases no0 i a e1 with ⟨d,rfl⟩|rfl
   ·exact f.elim
   ·exact f.elim
  ·rintro x (z|z)
   ·have:∃o,H1 x=some o∧wM o:=m1.owEx z
    obtain⟨o,ho,hn⟩:=this
    exact⟨o,s01 _ _ ho,hn⟩
   ·exact⟨_,by rw[z];exact zk,yV⟩
 refine⟨fun i n ys τ H2=>n=ds.length-i∧i≤ds.length∧∃ad:List PyData,M Fc (yR imp α) τ H2∧H2 acc=some (.lst ys)∧AVs (Gz Fc (yR imp α) τ H2) ys ad∧ad.length≤i∧xm (fun C s2 H2 fp=>X.comp N scope C s2 H2 fp) pat ifs elt (yR imp α) (ds.drop i) ad Q,
  ⟨ds.length,by simp,zu6 _,[],mc0,zk,.nil,zt8 _,q1⟩,?_⟩
 rintro i n ys τ H2 ⟨rfl,hi,ad,m2,ha,av,had,cw⟩
 have sG:zC (Gz F α σ H1) (Gz Fc (yR imp α) τ H2):=fun a o e=>by
  obtain⟨z1,z2⟩:=zm e
  exact m2.old a o (zF (p:=fun x=>¬Fc.O0 x) (fun z=>z.elim z1 (zo z2 hacc)) z2)
 obtain⟨w1,w2⟩:=itw i H2 _ sG
 by_cases hlt:i<ds.length
 ·have hd:ds[i]?=some ds[i]:=zt3 hlt
  have hdr:ds.drop i=ds[i]::ds.drop (i+1):=zC3 hlt
  rw[hdr] at cw
  obtain⟨α1,eb,body⟩:=cw
  obtain⟨go,yl⟩:=w1 _ hd
  have no1:Nd α1:=fun j a z=>by
   obtain⟨is,ds',_,e⟩:=Pat.is_ok eb
   by_cases hn:∀d,a≠.dat d
   ·exact no0 j a (sM e z hn)
   ·simp only[Classical.not_forall,Classical.not_not] at hn
    exact .inl hn
  refine .inr ⟨go,fun ys' τ' H'=>∃ad:List PyData,M Fc (yR imp α) τ' H'∧H' acc=some (.lst ys')∧AVs (Gz Fc (yR imp α) τ' H') ys' ad∧ad.length≤i+1∧xm (fun C s2 H2 fp=>X.comp N scope C s2 H2 fp) pat ifs elt (yR imp α) (ds.drop (i+1)) ad Q,
   fun ys' τ' H' ⟨ad',r1,r2,r3,r4,r5⟩=>⟨ds.length-(i+1),by omega,rfl,hlt,ad',r1,r2,r3,r4,r5⟩,fun x H3 y=>?_⟩
  obtain⟨s23,avx⟩:=yl x H3 y
  have m3:M Fc (yR imp α) τ H3:=m2.kz (Kz.of_same s23) (m2.tp.same s23)
  have avx':=avx fun a o _ e=>m2.fresh e
  refine kj eb m3 avx' fun τ1 m4 C s2 H2' fp=>?_
  refine body C s2 H2' fp Fc τ1 H3 _ m4 fun b H5 qb t5 k5=>?_
  have m5:=m4.kz k5 t5
  have av5:AVs (Gz Fc (yR imp α) τ1 H5) ys ad:=av.same ((Kz.of_same s23).gz m2.tp |>.trans ((gz (τ2:=τ1) no0 no1).trans ((k5.gz m4.tp).trans (gz no1 no0))))
  have accN:NT Fc acc:=⟨fun t b c e=>by
   have:=(t1 t b c e).1.free hacc
   exact⟨this.1,this.2.1⟩,pO t1.tab hacc⟩
  have ha5:H5 acc=some (.lst ys):=k5 _ _ (s23 _ _ ha) accN
  cases b with
  |false=>
   have qb':xm (fun C s2 H2 fp=>X.comp N scope C s2 H2 fp) pat ifs elt (yR imp α) (ds.drop (i+1)) ad Q:=by simpa using qb
   exact rh ⟨ad,Pat.back eb hfree m5,ha5,av5,by omega,qb'⟩
  |true=>
   refine sV fun C s2 H2'' fp=>?_
   have qe:EvD (X.comp N scope C s2 H2'' fp) α1 elt fun y=>xm (fun C s2 H2 fp=>X.comp N scope C s2 H2 fp) pat ifs elt (yR imp α) (ds.drop (i+1)) (ad++[y]) Q:=by
    have z:=qb
    rw[if_pos rfl] at z
    exact z C s2 H2'' fp
   refine qe Fc τ1 H5 _ m5 fun y v H6 qy t6 k6 r6=>?_
   have m6:=m5.kz k6 t6
   have ha6:H6 acc=some (.lst ys):=k6 _ _ ha5 accN
   have hlen:ys.length≤i:=by rw[av.length];exact had
   have oacc:Fc.O0 acc:=.inr rfl
   have tacc:∀t b c,Fc.tp=some (t,b,c)→acc≠t∧acc≠b∧acc≠c:=fun t b c e=>(t1 t b c e).1.free hacc
   have m7:=(Pat.back eb hfree m6).wr (o:=.lst (ys++[v])) yV oacc tacc hacc (vH ha6) (fun i r q z=>by rcases no0 i _ z with ⟨d,w⟩|w<;>cases w)
   refine⟨ha6,yG (by omega),ad++[y],m7,zk,?_,by simp;omega,qy⟩
   have g67:zC (Gz Fc (yR imp α) τ1 H6) (Gz Fc (yR imp α) τ1 (upd H6 acc (.lst (ys++[v])))):=zv fun a o h e=>⟨h,by rw[zd (fun z=>h (.inl (by rw[z];exact oacc)))];exact e⟩
   exact ((av5.same ((gz (τ2:=τ1) no0 no1).trans ((k6.gz m5.tp).trans (gz no1 no0)))).append (.cons (r6.same (gz no1 no0)) .nil)).same g67
 ·have e:i=ds.length:=by omega
  subst e
  rw[zH0] at cw
  refine .inl ⟨w2 (zt8 _),k ad _ H2 cw ?_ (k1.trans m2.keep) (yN.back m k1 t1 ⟨acc,ys,rfl,hacc,ha,av.same (zv fun a o h e=>⟨⟨fun z=>h (.inl (.inl z)),fun z=>h (.inl (.inr z))⟩,e⟩)⟩)⟩
  exact m.tp.re m2.tp rfl
theorem iX {N:List Str}{imp:List (Option Nat)}{scope:Scope}{tg iter elt:Expr}{ifs:List Expr}{pat:Pat}{Q:List PyData→Prop}{pos:Pos}(hc:X.calm=true)(S:zS X.N X.env.scope N imp scope)(hfree:pat.free (yR imp α)=true)
  (hg:∀C s2 H2 fp,PG (X.comp N scope C s2 H2 fp) tg (nh X.K pat))
  (h:EvI X α tg iter fun ds=>ds.length≤1000∧xm (fun C s2 H2 fp=>X.comp N scope C s2 H2 fp) pat ifs elt (yR imp α) ds [] Q) (hs:∀x,foldedSetIterable iter X.env x=pure x:=by intro _;rfl):
  EvL X α (.ListComp elt [⟨tg,iter,ifs,0⟩] scope pos) Q:=fun F σ H R m k=>by
 obtain⟨Y,rfl,h⟩:=kE hfree h F σ H R m k
 exact⟨_,aN hc S qC hg (fun C s2 H2 fp pins s σ H Q I h=>ki pins s σ H Q I (h C s2 H2 fp)) (fun C s2 H2 fp pins s σ H Q I h=>zr pins s σ H Q I (h C s2 H2 fp)) hs,h⟩
section
variable {E:xp}{rest body:List Stmt}{e c tg iter:Expr}{pos p:Pos}
theorem oG.then {F:Fr}{D:Ends}(h:oG F E D):oG F {E with nx:=fun α'=>SvS X α' rest E} {D with nx:=jU X rest D}:=
 ⟨fun α' σ' H' m q=>q F σ' H' D m h,h.rt,h.bk,h.ct⟩
theorem yo (q:E.nx α):SvS X α [] E:=fun F σ H D m h=>⟨_,yA,h.nx _ _ _ m q⟩
theorem SvS.imp {sts:List Stmt}{E':xp}(h:SvS X α sts E')(hn:∀α,E'.nx α→E.nx α)(hr:∀a,E'.rt a→E.rt a)(hb:∀α,E'.bk α→E.bk α)(hc:∀α,E'.ct α→E.ct α):SvS X α sts E:=fun F σ H D m r=>
 h F σ H D m ⟨fun α σ H m q=>r.nx α σ H m (hn _ q),fun a v H m q=>r.rt a v H m (hr _ q),fun α σ H m q=>r.bk α σ H m (hb _ q),fun α σ H m q=>r.ct α σ H m (hc _ q)⟩
theorem zW (i:Nat){x:Str}{pos':Pos}(hN:X.N.Nodup)(h:EvD X α e fun d=>SvS X (α.set i (some (.dat d))) rest E)(hi:X.N[i]?=some x:=by rfl)(hx:Loc X.env.scope x:=by first|exact Or.inl rfl|exact Or.inr rfl)
  (hs:swapsWith e (some (.Name x pos')) pos.line X.env=pure false:=by rfl) (hf:X.fn x=true∨X.env.scope.names.lookup x=some .local:=by first|exact .inl rfl|exact .inr rfl|assumption):SvS X α (.Assign [.Name x pos'] e pos::rest) E:=fun F σ H D m r=>by
 refine⟨_,zH (wC hN hi hx zr hs hf) zZ,?_⟩
 exact h F σ H _ m fun d v H1 q1 t1 k1 r1=>q1 F _ H1 D ((m.kz k1 t1).set r1) r
theorem xt (i:Nat){x:Str}{pos':Pos}(hN:X.N.Nodup)(h:EvL X α e fun ds=>SvS X (α.set i (some (.own ds))) rest E)(hi:X.N[i]?=some x:=by rfl)(hx:Loc X.env.scope x:=by first|exact Or.inl rfl|exact Or.inr rfl)
  (hs:swapsWith e (some (.Name x pos')) pos.line X.env=pure false:=by rfl) (hf:X.fn x=true∨X.env.scope.names.lookup x=some .local:=by first|exact .inl rfl|exact .inr rfl|assumption):SvS X α (.Assign [.Name x pos'] e pos::rest) E:=fun F σ H D m r=>by
 refine⟨_,zH (wC hN hi hx zr hs hf) zZ,?_⟩
 exact h F σ H _ m fun d v H1 q1 t1 k1 r1=>q1 F _ H1 D (m.setOwn t1 k1 r1) r
theorem aW (i:Nat){x:Str}{pos' cpos:Pos}{N:List Str}{imp:List (Option Nat)}{scope:Scope}{elt:Expr}{ifs:List Expr}{pat:Pat}(hN:X.N.Nodup)(hc:X.calm=true)(S:zS X.N X.env.scope N imp scope)(hfree:pat.free (yR imp α)=true)
  (hg:∀C s2 H2 fp,PG (X.comp N scope C s2 H2 fp) tg (nh X.K pat))
  (h:EvI X α tg iter fun ds=>ds.length≤1000∧xm (fun C s2 H2 fp=>X.comp N scope C s2 H2 fp) pat ifs elt (yR imp α) ds [] fun ds=>SvS X (α.set i (some (.own ds))) rest E)
  (hi:X.N[i]?=some x:=by rfl) (hx:Loc X.env.scope x:=by first|exact Or.inl rfl|exact Or.inr rfl) (hsw:swapsWith (.ListComp elt [⟨tg,iter,ifs,0⟩] scope cpos) (some (.Name x pos')) pos.line X.env=pure true:=by rfl)
  (hf:X.fn x=true∨X.env.scope.names.lookup x=some .local:=by first|exact .inl rfl|exact .inr rfl|assumption) (hs:∀x,foldedSetIterable iter X.env x=pure x:=by intro _;rfl):
  SvS X α (.Assign [.Name x pos'] (.ListComp elt [⟨tg,iter,ifs,0⟩] scope cpos) pos::rest) E:=fun F σ H D m r=>by
 obtain⟨Y,rfl,h⟩:=kE hfree h F σ H (fun v H'=>jU X rest D (σ.set i (some v)) H') m fun ds v H' q t k fl=>q F _ H' D (m.setOwn t k fl) r
 exact⟨_,zH (eL hc S qC hg (fun C s2 H2 fp pins s σ H Q I h=>ki pins s σ H Q I (h C s2 H2 fp)) (fun C s2 H2 fp pins s σ H Q I h=>zr pins s σ H Q I (h C s2 H2 fp)) hN hi hx hsw hf hs) zZ,h⟩
theorem xO.dat {F:Fr}{σ:St}{H:Hp}{v:V}{d:PyData}(m:M F α σ H)(r:AV (Gz F α σ H) v d):xO F v H (.dat d):=
 ⟨m.tp,m.keep,r.same (zv fun a o h e=>⟨ow0 h,e⟩)⟩
theorem vZ (h:EvD X α e fun d=>E.rt (.dat d)):SvS X α (.Return (some e) pos::rest) E:=fun F σ H D m r=>by
 refine⟨_,zH (zE zr) zZ,?_⟩
 exact h F σ H _ m fun d v H1 q1 t1 k1 r1=>r.rt _ _ _ (xO.dat (m.kz k1 t1) r1) q1
theorem ph (h:EvL X α e fun ds=>E.rt (.own ds)):SvS X α (.Return (some e) pos::rest) E:=fun F σ H D m r=>by
 refine⟨_,zH (zE zr) zZ,?_⟩
 refine h F σ H _ m fun d v H1 q1 t1 k1 r1=>r.rt _ _ _ ?_ q1
 obtain⟨l,xs,h1,h2,h3,h4⟩:=r1
 exact⟨t1,m.keep.trans k1,l,xs,_,h1,rfl,m.fresh0 h2,ow0 (m.fresh h2),h3,h4.same (zv fun a o h e=>⟨⟨ow0 h.1,h.2⟩,e⟩)⟩
theorem wA (i:Nat){x:Str}{ds:List PyData}(hi:α[i]?=some (some (.own ds)))(q:E.rt (.own ds))(hN:X.N[i]?=some x:=by rfl)(hv:Vis X.env.scope x:=by first|exact Or.inl rfl|exact Or.inr (Or.inl rfl)|exact Or.inr (Or.inr rfl))
  (hd:(x == ("__debug__":Str))=false:=by decide) (hcd:(x == ("__classdict__":Str))=false:=by decide):SvS X α (.Return (some (.Name x p)) pos::rest) E:=fun F σ H D m r=>by
 obtain⟨l,xs,h1,h2,h3,h4,h5⟩:=m.own i ds hi
 refine⟨_,zH (zE (yy hN hv hd hcd)) zZ,.ref l,h1,r.rt (.own ds) _ _ ⟨m.tp,m.keep,l,xs,_,rfl,rfl,h5,h4,h2,h3.same (zv fun a o h e=>⟨⟨ow0 h,fun z=>h (by rw[z];exact .inr ⟨i,_,_,hi,h1,rfl⟩)⟩,e⟩)⟩ q⟩
theorem cZ (i:Nat){x:Str}{d:PyData}{S:Addr→Prop}(hi:α[i]?=some (some (.deep d S)))(q:E.rt (.deep d S))(hN:X.N[i]?=some x:=by rfl)(hv:Vis X.env.scope x:=by first|exact Or.inl rfl|exact Or.inr (Or.inl rfl)|exact Or.inr (Or.inr rfl))
  (hd:(x == ("__debug__":Str))=false:=by decide) (hcd:(x == ("__classdict__":Str))=false:=by decide):SvS X α (.Return (some (.Name x p)) pos::rest) E:=fun F σ H D m r=>by
 obtain⟨v,h1,h2,h3⟩:=m.deep i d S hi
 exact⟨_,zH (zE (yy hN hv hd hcd)) zZ,v,h1,r.rt (.deep d S) _ _ ⟨m.tp,m.keep,h2.same (vD (zv fun a o h e=>⟨ow0 h,e⟩) fun _ _ _ e=>e),h3⟩ q⟩
theorem xP {a b:List Stmt}(h:EvT X α c fun k=>SvS X α (if k=true then a else b) {E with nx:=fun α'=>SvS X α' rest E}):SvS X α (.If c a b pos::rest) E:=fun F σ H D m r=>by
 refine⟨_,zH (xR xM zZ zZ) zZ,?_⟩
 refine h F σ H _ m fun k H1 q1 t1 k1=>?_
 cases k with
 |true=>exact sV ((by simpa using q1:SvS X α a _) F σ H1 _ (m.kz k1 t1) r.then)
 |false=>exact rh ((by simpa using q1:SvS X α b _) F σ H1 _ (m.kz k1 t1) r.then)
theorem fA (i:Nat){ds:List PyData}{sts:List Stmt}(hi:α[i]?=some (some (.own ds)))(h:SvS X (α.set i (some (.dat (.list ds)))) sts E):SvS X α sts E:=fun F σ H D m r=>h F σ H D (m.frz hi) r
theorem M.wrC {F:Fr}{σ:St}{H:Hp}{i:Nat}{c c':PyData}{l:Addr}{o':HO}(m:M F α σ H)(hi:α[i]?=some (some (.ow c)))(hl:σ[i]?=some (some (.ref l)))(av:xi (Gz F α σ H) o' c'):
  M F (α.set i (some (.ow c'))) σ (upd H l o'):=by
 obtain⟨l',o,h1,h2,h3,h4,h5⟩:=m.owc i c hi
 rw[hl] at h1;cases h1
 have hs:∀{j:Nat} {a:A} {s:Option V},(α.set i (some (.ow c')))[j]?=some (some a)→σ[j]?=some s→(i=j∧a=.ow c'∧s=some (.ref l))∨(i≠j∧α[j]?=some (some a)):=fun {j a s} e1 e2=>by
  rcases zR e1 with ⟨rfl,z⟩|⟨hj,e1'⟩
  ·cases z;rw[hl] at e2;cases e2;exact .inl ⟨rfl,rfl,rfl⟩
  ·exact .inr ⟨hj,e1'⟩
 have oww:∀{y:Addr},Ow F (α.set i (some (.ow c'))) σ y→Ow F α σ y:=fun {y} h=>by
  rcases h with z|⟨j,a,s,e1,e2,f⟩
  ·exact .inl z
  ·rcases hs e1 e2 with ⟨rfl,rfl,rfl⟩|⟨hj,e1'⟩
   ·exact .inr ⟨i,_,_,hi,hl,f⟩
   ·exact .inr ⟨j,a,s,e1',e2,f⟩
 have ol:Ow F α σ l:=.inr ⟨i,_,_,hi,hl,rfl⟩
 have gs:zC (Gz F α σ H) (Gz F (α.set i (some (.ow c'))) σ (upd H l o')):=zv fun a o h e=>⟨fun z=>h (oww z),by rw[zd (fun z=>h (by rw[z];exact ol))];exact e⟩
 refine⟨by rw[zx7];exact m.len,fun j a s e1 e2=>?_,fun j j' a b s t x e1 e2 q1 q2 f1 f2=>?_,fun j r q e j' a s x e1 e2 f=>?_,m.tp.updO h4 (h3.plain h2),fun y o e n=>?_,fun y hy=>?_⟩
 ·rcases hs e1 e2 with ⟨rfl,rfl,rfl⟩|⟨hj,e1'⟩
  ·exact⟨l,o',rfl,zk,av.same gs,h4,h5⟩
  ·refine (m.ok j a s e1' e2).stay gs (fun y u f e=>?_) rfl fun r q ea k=>⟨k.tp,k.o,k.ok.updO (fun z=>h4 (k.o _ z)) (h3.plain h2),fun y u e n=>?_⟩
   ·obtain⟨w1,w2,_⟩:=m.ft e1' e2 f
    refine⟨?_,w1,w2⟩
    rw[zd fun z=>hj (m.dj i j _ a _ s l hi e1' hl e2 rfl (by rw[←z];exact f))]
    exact e
   ·rw[zd (zo e (m.xd j r q (by rw[←ea];exact e1') i _ _ l hi hl rfl))];exact k.k y u e n
 ·rcases hs e1 q1 with ⟨rfl,rfl,rfl⟩|⟨hj,e1'⟩
  ·rcases hs e2 q2 with ⟨rfl,_⟩|⟨hj',e2'⟩
   ·rfl
   ·exact m.dj i j' _ b _ t x hi e2' hl q2 f1 f2
  ·rcases hs e2 q2 with ⟨rfl,rfl,rfl⟩|⟨hj',e2'⟩
   ·exact m.dj j i a _ s _ x e1' hi q1 hl f1 f2
   ·exact m.dj j j' a b s t x e1' e2' q1 q2 f1 f2
 ·rcases zR e with ⟨_,z⟩|⟨_,e'⟩
  ·cases z
  ·rcases hs e1 e2 with ⟨rfl,rfl,rfl⟩|⟨_,e1'⟩
   ·exact m.xd j r q e' i _ _ x hi hl f
   ·exact m.xd j r q e' j' a s x e1' e2 f
 ·rw[zd (zo e h5)];exact m.keep y o e n
 ·rw[zd (fun z=>h4 (by rw[←z];exact hy))];exact m.oex y hy
theorem M.wrOwn {F:Fr}{σ:St}{H:Hp}{i:Nat}{ds es:List PyData}{l:Addr}{ys:List V}(m:M F α σ H)(hi:α[i]?=some (some (.own ds)))(hl:σ[i]?=some (some (.ref l)))(av:AVs (Gz F α σ H) ys es):
  M F (α.set i (some (.own es))) σ (upd H l (.lst ys)):=m.wrC hi hl (.lst av)
theorem yT (i:Nat){x:Str}{ds:List PyData}{p1 p2 p3:Pos}(hi:α[i]?=some (some (.own ds)))(h:EvD X α e fun d=>ds.length<1000∧SvS X (α.set i (some (.own (ds++[d])))) rest E)
  (hN:X.N[i]?=some x:=by rfl) (hv:Vis X.env.scope x:=by first|exact Or.inl rfl|exact Or.inr (Or.inl rfl)|exact Or.inr (Or.inr rfl)) (hd:(x == ("__debug__":Str))=false:=by decide) (hcd:(x == ("__classdict__":Str))=false:=by decide)
  (hbase:attributeBase (.Name x p1) "append" X.env (eval (.Name x p1) X.env)=eval (.Name x p1) X.env:=by rfl) (hs:starEach [e] X.env=(false,eval e X.env)::starEach [] X.env:=by rfl)
  (hpl:((((backTo p3 (starEach [e] X.env)).all fun x=>!x.fst)&&(backToKw p3 (keywordEach [] X.env)).all fun x=>x.fst.isSome)&&decide (([e].length+([]:List Keyword).length+if ([]:List Keyword).isEmpty=true then 0 else 1)<30))=true:=by rfl)
  (hline:(p2.endLine == p3.line)=true:=by rfl) (hsw:swapsWith (.Call (.Attribute (.Name x p1) "append" p2) [e] [] p3) none pos.line X.env=pure false:=by rfl):SvS X α (.Expr (.Call (.Attribute (.Name x p1) "append" p2) [e] [] p3) pos::rest) E:=fun F σ H D m r=>by
 obtain⟨l,xs,h1,h2,h3,h4,h5⟩:=m.own i ds hi
 refine⟨_,zH (tH (dR zG6 PySem.F.slot_list_append PySem.F.type_list_append ux (yy hN hv hd hcd) (zf zr zu hs) hbase hpl hline hs) hsw) zZ,?_⟩
 refine⟨.ref l,h1,.inl ⟨rfl,_,SqL.of h2⟩,?_⟩
 refine h F σ H _ m fun d v H1 q1 t1 k1 r1=>?_
 have m1:=m.kz k1 t1
 refine⟨l,xs,v,rfl,rfl,k1 _ _ h2 (m.tp.nt h4),by rw[h3.length];exact yG (zy6 q1.1),?_⟩
 exact q1.2 F σ _ D (m1.wrOwn hi h1 ((h3.same (k1.gz m.tp)).append (.cons r1 .nil))) r
theorem zc6 (i:Nat){x:Str}{ix:Expr}{ds:List PyData}{p1 p2:Pos}(hi:α[i]?=some (some (.own ds)))(h:EvD X α e fun d=>EvD X α ix fun y=>∃k j,y=.int k∧ixN ds.length k=some j∧SvS X (α.set i (some (.own (ds.set j d)))) rest E)
  (hN:X.N[i]?=some x:=by rfl) (hv:Vis X.env.scope x:=by first|exact Or.inl rfl|exact Or.inr (Or.inl rfl)|exact Or.inr (Or.inr rfl)) (hd:(x == ("__debug__":Str))=false:=by decide) (hcd:(x == ("__classdict__":Str))=false:=by decide)
  (hs:swapsWithSole [.Subscript (.Name x p1) ix p2] e pos.line X.env=pure false:=by rfl) (hw:swappedStores [.Subscript (.Name x p1) ix p2] e X.env=pure none:=by rfl)
  (ha:(assignEach [.Subscript (.Name x p1) ix p2] X.env).map (·.2)=[assign (.Subscript (.Name x p1) ix p2) X.env]:=by rfl) (hps:PG X (.Subscript (.Name x p1) ix p2) (zj8 (zb0 i) (uF X ix) aO):=by exact lH (yy rfl (by first|exact Or.inl rfl|exact Or.inr (Or.inl rfl)|exact Or.inr (Or.inr rfl))) zr set_list):
  SvS X α (.Assign [.Subscript (.Name x p1) ix p2] e pos::rest) E:=fun F σ H D m r=>by
 obtain⟨l,xs,h1,h2,h3,h4,h5⟩:=m.own i ds hi
 refine⟨_,zH (mq zr hps hs hw ha) zZ,?_⟩
 refine h F σ H _ m fun d v H1 q1 t1 k1 r1=>?_
 have m1:=m.kz k1 t1
 refine⟨.ref l,h1,?_⟩
 refine q1 F σ H1 _ m1 fun y vy H2 q2 t2 k2 r2=>?_
 have m2:=m1.kz k2 t2
 obtain⟨k,j,rfl,hj,q⟩:=q2
 cases r2.int_inv
 refine⟨l,xs,k,j,rfl,rfl,k2 _ _ (k1 _ _ h2 (m.tp.nt h4)) (m.tp.nt h4),by rw[h3.length];exact hj,?_⟩
 exact q F σ _ D (m2.wrOwn hi h1 (((h3.same (k1.gz m.tp)).same (k2.gz m1.tp)).set (r1.same (k2.gz m1.tp)) j)) r
def uW (X:Cx)(pat:Pat)(body rest:List Stmt)(E:xp):List PyData→Ev→Prop
 |[],α=>SvS X α rest E
 |d::ds,α=>∃α1,pat.bind d α=some α1∧SvS X α1 body {nx:=uW X pat body rest E ds,ct:=uW X pat body rest E ds,bk:=fun α'=>SvS X α' rest E,rt:=E.rt}
theorem wk {pat:Pat}(hp:PassesOwn (model X.prog X.w) X.A X.env X.xe)(hc:X.calm=true)(hg:PG X tg (nh X.K pat))(h:EvI X α tg iter fun ds=>uW X pat body rest E ds α)
  (hs:∀x,foldedSetIterable iter X.env x=pure x:=by intro _;rfl):SvS X α (.For tg iter body [] pos::rest) E:=fun F σ H D m r=>by
 refine⟨_,zH (zf3 hp hc qC hg zZ hs) zZ,?_⟩
 refine h F σ H _ m fun ds J H1 q1 t1 k1 itw=>?_
 have m1:=m.kz k1 t1
 have mu:=m1.up
 have ru:oG (F.up (Gz F α σ H1)) E D:=r.up
 refine⟨fun i n σ' H'=>n=ds.length-i∧i≤ds.length∧∃α',M (F.up (Gz F α σ H1)) α' σ' H'∧uW X pat body rest E (ds.drop i) α',⟨ds.length,by simp,zu6 _,α,mu,q1⟩,?_⟩
 rintro i n σ' H' ⟨rfl,hi,α',m',lw⟩
 obtain⟨w1,w2⟩:=itw i H' _ (m1.upold m')
 by_cases hlt:i<ds.length
 ·have hd:ds[i]?=some ds[i]:=zt3 hlt
  rw[zC3 hlt] at lw
  obtain⟨α1,eb,body⟩:=lw
  obtain⟨go,yl⟩:=w1 _ hd
  refine .inr ⟨go,fun σ'' H''=>∃α',M (F.up (Gz F α σ H1)) α' σ'' H''∧uW X pat _ rest E (ds.drop (i+1)) α',fun σ'' H'' ⟨α'',r1,r2⟩=>⟨ds.length-(i+1),by omega,rfl,hlt,α'',r1,r2⟩,fun x H3 y=>?_⟩
  obtain⟨s23,avx⟩:=yl x H3 y
  have m3:=m'.kz (Kz.of_same s23) (m'.tp.same s23)
  refine kj eb m3 (avx fun a o _ e=>m'.fresh e) fun σ1 m4=>?_
  exact body _ σ1 H3 _ m4 ⟨fun α2 σ2 H2 m2 q=>⟨α2,m2,q⟩,ru.rt,fun α2 σ2 H2 m2 q=>q _ σ2 H2 D m2 ru,fun α2 σ2 H2 m2 q=>⟨α2,m2,q⟩⟩
 ·have e:i=ds.length:=by omega
  subst e
  rw[zH0] at lw
  exact .inl ⟨w2 (zt8 _),lw _ σ' H' D m' ru⟩
theorem yQ {pat:Pat}{ds:List PyData}(P:Nat→Ev→Prop)(h0:P 0 α)(hs:∀i d α,ds[i]?=some d→P i α→∃α1,pat.bind d α=some α1∧SvS X α1 body {nx:=P (i+1),ct:=P (i+1),bk:=fun α'=>SvS X α' rest E,rt:=E.rt})
  (hd:∀α,P ds.length α→SvS X α rest E):uW X pat body rest E ds α:=by
 have key:∀n i α,n=ds.length-i→i≤ds.length→P i α→uW X pat body rest E (ds.drop i) α:=by
  intro n
  induction n with
  |zero=>
   intro i α hn hi p
   have e:i=ds.length:=by omega
   subst e
   rw[zH0]
   exact hd α p
  |succ n ih=>
   intro i α hn hi p
   have hlt:i<ds.length:=by omega
   rw[zC3 hlt]
   obtain⟨α1,e,b⟩:=hs i ds[i] α (zt3 hlt) p
   exact⟨α1,e,b.imp (fun α p=>ih (i+1) α (by omega) hlt p) (fun _ z=>z) (fun _ z=>z) (fun α p=>ih (i+1) α (by omega) hlt p)⟩
 exact key _ 0 α rfl (zu6 _) h0
end
end
section
variable {P:Program}{w:World}{K:PySem.W.Frag}{mg:Str→Option Value}{base:Heap}
theorem M.start {F:Fr}{N:List Str}{vs:List V}{as:List A}{H:Hp}(e:F.H0=H)(t:zQ F H)(o:∀x,F.O0 x→∃u,H x=some u∧wM u)(rv:ye F (sub (fun x=>¬F.O0 x) H) vs as):
  M F (as.map some++List.replicate (N.length-as.length) none) (L2.start N vs) H:=by
 have hl:=rv.length
 have g:∀{i:Nat} {a:A},(as.map some++List.replicate (N.length-as.length) none)[i]?=some (some a)→as[i]?=some a:=fun {i a} h=>by
  rcases zA9 i as.length with z|z
  ·rw[zv3 (by rw[zt1];exact z),zu7,zw1] at h
   obtain⟨b,h1,h2⟩:=h
   cases h2;exact h1
  ·rw[zw0 (by rw[zt1];exact z),zy8] at h
   split at h<;>cases h
 have at':∀{vs:List V} {as:List A} {i:Nat} {a:A},ye F (sub (fun x=>¬F.O0 x) H) vs as→as[i]?=some a→∃v,vs[i]?=some v∧jL F (sub (fun x=>¬F.O0 x) H) v a:=by
  intro vs as i a h
  induction h generalizing i with
  |nil=>intro e;simp at e
  |cons h r ih=>
   intro e
   cases i with
   |zero=>simp at e;subst e;exact⟨_,rfl,h⟩
   |succ i=>obtain⟨v,h1,h2⟩:=ih (by simpa using e);exact⟨v,by simpa using h1,h2⟩
 have gv:∀{i:Nat} {v:V},vs[i]?=some v→(L2.start N vs)[i]?=some (some v):=fun {i v} h=>by
  have hi:i<vs.length:=(zt5.mp h).1
  unfold L2.start
  rw[zv3 (by rw[zt1];exact hi),zu7,h];rfl
 have no:∀(i:Nat) a,(as.map some++List.replicate (N.length-as.length) none)[i]?=some (some a)→(∃d,a=.dat d)∨a=.tape:=fun i a z=>by
  obtain⟨v,_,h⟩:=at' rv (g z)
  cases a with
  |dat d=>exact .inl ⟨d,rfl⟩
  |tape=>exact .inr rfl
  |_=>exact h.elim
 have gs:zC (sub (fun x=>¬F.O0 x) H) (Gz F (as.map some++List.replicate (N.length-as.length) none) (L2.start N vs) H):=zv fun a o h e=>⟨fun z=>z.elim h fun⟨i,b,s,e1,_,f⟩=>by
  rcases no i b e1 with ⟨d,rfl⟩|rfl
  ·exact f.elim
  ·exact f.elim,e⟩
 refine⟨by unfold L2.start;simp[hl],fun i a s e1 e2=>?_,fun i j a b s t x e1 _ _ _ f=>?_,fun i r q z=>(by rcases no i _ z with ⟨d,w⟩|w<;>cases w),t,fun x o' h _=>by rw[←e];exact h,o⟩
 ·obtain⟨v,h1,h2⟩:=at' rv (g e1)
  rw[gv h1] at e2;cases e2
  rcases no i a e1 with ⟨d,rfl⟩|rfl
  ·exact⟨v,rfl,AV.same gs h2⟩
  ·obtain⟨t',b,c,h3,rfl⟩:=h2
   exact⟨t',b,c,h3,rfl⟩
 ·rcases no i a e1 with ⟨d,rfl⟩|rfl
  ·exact f.elim
  ·exact f.elim
theorem fnA {x qual:Str}{st:Stmt}{f:Addr}{fd:FuncData}{N ps:List Str}{k:Nat}{φ:List A→(A→Prop)→Prop}(G:Fun K x qual st f fd)(S:zp N ps (zc st))(hlen:∀as Q,φ as Q→as.length=ps.length)
  (hbody:∀(cdv:Value) (A':Around) (outer:List Env) (s:Shared) (H:Hp) (E:XK) (as:List A) (Q:A→Prop),zL k (A'.deeper (envOfC qual (zc st) s.heap.objs.size f cdv))→φ as Q→
   SvS (xB CX0 P w K mg base N qual (zc st) f cdv A' outer s H E).nox (as.map some++List.replicate (N.length-as.length) none) (zB st) {nx:=fun _=>Q (.dat .none),rt:=Q}):zD P w K mg base CX0 (k+1) f fd ps (spA φ):=by
 refine G.ok S (fun vs H Q E h=>?_) (fun cdv A' outer s H vs Qc E hr h=>?_)
 ·obtain⟨F,as,Q',_,_,_,rv,hφ,_⟩:=h
  rw[rv.length,hlen as _ hφ]
 ·obtain⟨F,as,Q',e,t,o,rv,hφ,kk⟩:=h
  refine hbody cdv A' outer s H E as Q' hr hφ F _ H _ (M.start e t o rv) ⟨fun α σ H' m q=>?_,fun a v H' r q=>kk a v H' q r,fun _ _ _ _ z=>z.elim,fun _ _ _ _ z=>z.elim⟩
  exact kk _ _ _ q ⟨m.tp,m.keep,.non⟩
end
section
variable {X:Cx}{pins:List (Addr×Obj)}{σ:St}{H:Hp}{s:Shared}{h':Heap}
theorem Inv.turnL {t':Nat}{ch:List Addr}(I:Inv X pins σ H s)(k:∀b o,b∉ch→s.heap.get? b=some o→h'.get? b=some o)(hf:∀b∈ch,yZ X pins H b):Inv X pins σ H {s with heap:=h',toks:=t'}:=by
 have nit:∀b u,H b=some u→b∉ch:=fun b u e z=>by rw[(hf b z).1] at e;cases e
 refine I.step (g':=s.gens) (d':=s.drawn) (ch:=ch) (fun b hb=>?_) (fun b o _ _ hc e _=>k b o hc e) (fun b o _ _ hc e _=>⟨o.slots,k b o hc e⟩) (fun _ _ _ _ n=>n)
  (fun b o hc e=>⟨o,k b o hc e⟩) (fun _ _ e=>e) (fun _ _ _ e=>e) (fun b ps e=>⟨#[],by rw[e];simp⟩) (fun m hm=>?_) (fun b u e=>?_) I.bare
 ·obtain⟨_,f1,_,f3,f4,f5⟩:=hf b hb
  exact⟨f3,f1,f4,f5⟩
 ·obtain⟨o,es,ep,ho,r⟩:=hm
  exact⟨o,es,ep,k _ o (fun z=>(hf _ z).2.1 rfl) ho,r⟩
 ·refine (I.hok b u e).stay (fun c v hc q=>k c v ?_ q) (fun _ q=>q) fun _ _ q=>q
  rcases hc with z|z
  ·rw[z];exact nit b u e
  ·exact nit c _ z
theorem Inv.turnLay {t':Nat}{ch:List Addr}{T:Addr}{o:HO}(I:Inv X pins σ H s)(k:∀b o,b∉ch→s.heap.get? b=some o→h'.get? b=some o)(hf:∀b∈ch,yZ X pins H b)(hT:s.heap.objs.size≤T)(new:zY X.prog X.w (upd H T o) h' T o):
  Inv X pins σ (upd H T o) {s with heap:=h',toks:=t'}:=by
 have nit:∀b u,H b=some u→b∉ch:=fun b u e z=>by rw[(hf b z).1] at e;cases e
 have hn:H T=none:=I.hok.fresh hT
 have lt:∀{b:Addr} {u:Obj},s.heap.get? b=some u→b≠T:=fun e=>zv0 (zu9 (zt6 e) hT)
 refine I.step (g':=s.gens) (d':=s.drawn) (ch:=ch) (fun b hb=>?_) (fun b o _ _ hc e _=>k b o hc e) (fun b o _ _ hc e _=>⟨o.slots,k b o hc e⟩) (fun b u _ e n=>by rw[zd (lt e)];exact n)
  (fun b o hc e=>⟨o,k b o hc e⟩) (fun b xs e=>by rw[zd (zo e hn)];exact e) (fun b u xs e=>by rw[zd (zo e hn)];exact e) (fun b ps e=>⟨#[],by rw[zd (zo e hn),e];simp⟩) (fun m hm=>?_) (fun b u e=>?_) I.bare
 ·obtain⟨_,f1,_,f3,f4,f5⟩:=hf b hb
  exact⟨f3,f1,f4,f5⟩
 ·obtain⟨o,es,ep,ho,r⟩:=hm
  exact⟨o,es,ep,k _ o (fun z=>(hf _ z).2.1 rfl) ho,r⟩
 ·by_cases hb:b=T
  ·subst hb;rw[zk] at e;cases e;exact new
  ·rw[zd hb] at e
   refine (I.hok b u e).stay (fun c v hc q=>k c v ?_ q) (fun c q=>by rw[zd (zo q hn)];exact q) fun c xs q=>by rw[zd (zo q hn)];exact q
   rcases hc with z|z
   ·rw[z];exact nit b u e
   ·exact nit c _ z
end
theorem zr9 {a b:Nat}(h:b<a):(a:Addr)≠b:=zz4 h
def Itz (K:PySem.W.Frag)(l1 l2:Addr):It:=
 ⟨fun i H=>∃xs ys x y,SqL K H l1 xs∧SqL K H l2 ys∧xs[i]?=some x∧ys[i]?=some y,
  fun i H v H'=>∃T x y,v=.ref T∧H T=none∧H'=upd H T (.tup [x,y])∧(∀xs,SqL K H l1 xs→xs[i]?=some x)∧∀ys,SqL K H l2 ys→ys[i]?=some y,
  fun i H=>∃xs ys,SqL K H l1 xs∧SqL K H l2 ys∧(xs.length≤i∨ys.length≤i)⟩
def Ite (K:PySem.W.Frag)(l:Addr):It:=
 ⟨fun i H=>∃xs x,SqL K H l xs∧xs[i]?=some x,
  fun i H v H'=>∃T x,v=.ref T∧H T=none∧H'=upd H T (.tup [.int i,x])∧∀xs,SqL K H l xs→xs[i]?=some x,
  fun i H=>∃xs,SqL K H l xs∧xs.length≤i⟩
theorem zl0 {P:Program}{w:World}{K:PySem.W.Frag}{elts:List Expr}{kk:Nat}{pos:Pos}{z TI TO i1 i2 l1 l2:Addr}(D:ZipApart z TI TO i1 i2 l1 l2):
  Turn P w K (.Tuple elts kk pos) (Itz K l1 l2) [z,TI,TO,i1,i2] z (fun i h=>IsZip h z TI TO .none∧IsPair h TI (.ref i1) (.ref i2)∧(∃a b,IsPair h TO a b)∧h.IsListIter i1 l1 i∧h.IsListIter i2 l2 i) where
 mem:=by simp
 obj:=fun i h st b hb=>by
  obtain⟨h1,h2,⟨a,c,h3⟩,⟨o1,e1,_,d1⟩,⟨o2,e2,_,d2⟩⟩:=st
  simp only[zt4,zt9,zv5] at hb
  rcases hb with rfl|rfl|rfl|rfl|rfl
  ·exact⟨_,h1,fun v z=>by cases (show Data.fields _=Data.cell v from z)⟩
  ·exact⟨_,h2,fun v z=>by cases (show Data.seq _ _=Data.cell v from z)⟩
  ·exact⟨_,h3,fun v z=>by cases (show Data.seq _ _=Data.cell v from z)⟩
  ·exact⟨o1,e1,fun v z=>by rw[d1] at z;cases z⟩
  ·exact⟨o2,e2,fun v z=>by rw[d2] at z;cases z⟩
 keep:=fun i h h' st k=>by
  obtain⟨h1,h2,⟨a,c,h3⟩,h4,h5⟩:=st
  exact⟨k z (by simp) _ h1,k TI (by simp) _ h2,⟨a,c,k TO (by simp) _ h3⟩,h4.at fun o e=>k i1 (by simp) o e,h5.at fun o e=>k i2 (by simp) o e⟩
 item:=by
  intro X hP hw hK hc i pins s σ H E I hf st hg
  subst hP hw hK
  obtain⟨xs,ys,x,y,hq1,hq2,hx,hy⟩:=hg
  obtain⟨its1,rv1,p1,hz1⟩:=I.list hq1
  obtain⟨its2,rv2,p2,hz2⟩:=I.list hq2
  obtain⟨u,hu,ru⟩:=rv1.get hx
  obtain⟨v,hv,rv⟩:=rv2.get hy
  obtain⟨h1,h2,⟨a,c,h3⟩,h4,h5⟩:=st
  refine wpAny_pyNext_zip_item D h1 h2 h3 h4 h5 p1.isList p2.isList (x:=u) (y:=v) (by simpa using hu) (by simpa using hv) fun h' a1 a2 a3 a4 a5 a6 hk=>⟨_,rfl,?_⟩
  refine wpAny_letOwnedTupleGo_zip (s:={s with heap:=h'}) a1 fun h'' b1 b2=>?_
  have hTz:s.heap.objs.size≠z:=zz4 (zt6 h1)
  have hk2:∀b o,b∉[z,TI,TO,i1,i2]→s.heap.get? b=some o→h''.get? b=some o:=fun b o hb e=>by
   simp only[zt4,zt9,zv5,not_or] at hb
   exact b2.extBut _ _ hb.1 (hk b o hb.1 hb.2.2.1 hb.2.2.2.1 hb.2.2.2.2 e)
  have gT:h''.get? s.heap.objs.size=some {cls:=.type "tuple",data:=.seq #[u,v]}:=b2.extBut _ _ hTz a5
  have J:=I.turnLay (t':=s.toks) (T:=s.heap.objs.size) (o:=.tup [x,y]) hk2 hf (zt8 _) ⟨by show 2≤sizeLine;decide,[u,v],.cons ru (.cons rv .nil),_,gT,rfl,0,rfl⟩
  refine⟨.ref s.heap.objs.size,_,J,rfl,⟨_,x,y,rfl,I.hok.fresh (zt8 _),rfl,fun zs hz=>by rw[I.list_inj hz hq1];exact hx,fun zs hz=>by rw[I.list_inj hz hq2];exact hy⟩,⟨b1,b2.extBut _ _ D.TIz (hk _ _ D.TIz D.TITO D.TIi1 D.TIi2 h2),⟨u,v,b2.extBut _ _ D.TOz a2⟩,a3.extBut b2.extBut D.i1z,a4.extBut b2.extBut D.i2z⟩,fun b hb=>?_⟩
  rw[zd]
  ·exact (hf b hb).1
  ·obtain⟨o,e,_⟩:=(show ∃o,s.heap.get? b=some o∧True from by
    simp only[zt4,zt9,zv5] at hb
    obtain⟨o1,e1,_⟩:=h4
    obtain⟨o2,e2,_⟩:=h5
    rcases hb with rfl|rfl|rfl|rfl|rfl
    ·exact⟨_,h1,trivial⟩
    ·exact⟨_,h2,trivial⟩
    ·exact⟨_,h3,trivial⟩
    ·exact⟨_,e1,trivial⟩
    ·exact⟨_,e2,trivial⟩)
   exact zv0 (zt6 e)
 done:=by
  intro X hP hw hK hc i pins s σ H E I hf st hg
  subst hP hw hK
  obtain⟨xs,ys,hq1,hq2,hl⟩:=hg
  obtain⟨its1,rv1,p1,hz1⟩:=I.list hq1
  obtain⟨its2,rv2,p2,hz2⟩:=I.list hq2
  obtain⟨h1,h2,⟨a,c,h3⟩,h4,h5⟩:=st
  have e1:=rv1.length
  have e2:=rv2.length
  refine wpAny_pyNext_zip_end (I.ok.hd hc) D h1 h2 h3 h4 h5 p1.isList p2.isList (hl.imp (fun z=>by simp;omega) fun z=>by simp;omega) fun h' hk=>⟨rfl,?_⟩
  exact I.turnL (t':=s.toks) (ch:=[z,TI,TO,i1,i2]) (fun b o hb e=>by
   simp only[zt4,zt9,zv5,not_or] at hb
   exact hk b o hb.1 hb.2.2.1 hb.2.2.2.1 hb.2.2.2.2 e) hf
 self:=fun A i s Q E st h=>zH1 st.1 h
theorem jv {P:Program}{w:World}{K:PySem.W.Frag}{elts:List Expr}{kk:Nat}{pos:Pos}{e it l:Addr}(hne:e≠it):
  Turn P w K (.Tuple elts kk pos) (Ite K l) [e,it] e (fun i h=>(∃old,IsEnum h e it i old)∧h.IsListIter it l i) where
 mem:=by simp
 obj:=fun i h st b hb=>by
  obtain⟨⟨old,h1⟩,⟨o1,e1,_,d1⟩⟩:=st
  simp only[zt4,zt9,zv5] at hb
  rcases hb with rfl|rfl
  ·exact⟨_,h1,fun v z=>by cases (show Data.fields _=Data.cell v from z)⟩
  ·exact⟨o1,e1,fun v z=>by rw[d1] at z;cases z⟩
 keep:=fun i h h' st k=>by
  obtain⟨⟨old,h1⟩,h4⟩:=st
  exact⟨⟨old,k e (by simp) _ h1⟩,h4.at fun o q=>k it (by simp) o q⟩
 item:=by
  intro X hP hw hK hc i pins s σ H E I hf st hg
  subst hP hw hK
  obtain⟨xs,x,hq1,hx⟩:=hg
  obtain⟨its1,rv1,p1,hz1⟩:=I.list hq1
  obtain⟨u,hu,ru⟩:=rv1.get hx
  obtain⟨⟨old,h1⟩,h4⟩:=st
  refine wpAny_pyNext_enum_item h1 h4 p1.isList (x:=u) (by simpa using hu) hne fun h' a1 a3 a5 a6 hk=>⟨_,rfl,?_⟩
  refine wpAny_letOwnedTupleGo_enum (s:={s with heap:=h',toks:=s.toks+1}) a1 fun h'' b1 b2=>?_
  have hTz:s.heap.objs.size≠e:=zz4 (zt6 h1)
  have hk2:∀b o,b∉[e,it]→s.heap.get? b=some o→h''.get? b=some o:=fun b o hb q=>by
   simp only[zt4,zt9,zv5,not_or] at hb
   exact b2.extBut _ _ hb.1 (hk b o hb.1 hb.2 q)
  have gT:h''.get? s.heap.objs.size=some {cls:=.type "tuple",data:=.seq #[.int i s.toks,u]}:=b2.extBut _ _ hTz a5
  have J:=I.turnLay (t':=s.toks+1) (T:=s.heap.objs.size) (o:=.tup [.int i,x]) hk2 hf (zt8 _) ⟨by show 2≤sizeLine;decide,[.int i s.toks,u],.cons ⟨_,rfl⟩ (.cons ru .nil),_,gT,rfl,0,rfl⟩
  refine⟨.ref s.heap.objs.size,_,J,rfl,⟨_,x,rfl,I.hok.fresh (zt8 _),rfl,fun zs hz=>by rw[I.list_inj hz hq1];exact hx⟩,⟨⟨u,by simpa using b1⟩,a3.extBut b2.extBut hne.symm⟩,fun b hb=>?_⟩
  rw[zd]
  ·exact (hf b hb).1
  ·obtain⟨o,q,_⟩:=(show ∃o,s.heap.get? b=some o∧True from by
    simp only[zt4,zt9,zv5] at hb
    obtain⟨o1,e1,_⟩:=h4
    rcases hb with rfl|rfl
    ·exact⟨_,h1,trivial⟩
    ·exact⟨_,e1,trivial⟩)
   exact zv0 (zt6 q)
 done:=by
  intro X hP hw hK hc i pins s σ H E I hf st hg
  subst hP hw hK
  obtain⟨xs,hq1,hl⟩:=hg
  obtain⟨its1,rv1,p1,hz1⟩:=I.list hq1
  obtain⟨⟨old,h1⟩,h4⟩:=st
  have e1:=rv1.length
  refine wpAny_pyNext_enum_end (I.ok.hd hc) h1 h4 p1.isList (by simp;omega) fun h' hk=>⟨rfl,?_⟩
  exact I.turnL (t':=s.toks) (ch:=[e,it]) (fun b o hb q=>by
   simp only[zt4,zt9,zv5,not_or] at hb
   exact hk b o hb.2 q) hf
 self:=fun A i s Q E st h=>by
  obtain⟨⟨old,h1⟩,h4⟩:=st
  exact wpAny_pyIter_enum h1 h
section
variable {X:Cx}{α:Ev}{elts:List Expr}{kk:Nat}{tp p pos:Pos}{a b:Expr}
def zo8 (K:PySem.W.Frag)(ta:TA):TI:=fun σ H R=>ta σ H fun vs H1=>∃l,vs=[.ref l]∧(∃xs,SqL K H1 l xs)∧R (Ite K l) H1
theorem ai {ta:TA}(hg:Gl X "enumerate")(hm:X.mg "enumerate"=none)(ha:PA X [a] ta)(hs:starEach [a] X.env=[(false,eval a X.env)]:=by rfl):
  PI X (.Tuple elts kk tp) (.Call (.Name "enumerate" p) [a] [] pos) (zo8 X.K ta):=by
 intro pins s σ H R I h
 refine Call_ (xx I hg hm boot_enumerate (zx3 (thn (ha pos pins s σ H _ I h) fun us s1 ⟨vs,H1,I1,r1,q1⟩=>?_) hs rfl))
 obtain⟨l1,e,⟨xs,hq1⟩,q⟩:=q1
 subst e
 obtain⟨u,rfl,ru⟩:=Vals.one r1
 cases (show u=Value.ref l1 from ru)
 obtain⟨its1,rv1,p1,hz1⟩:=I1.list hq1
 refine call_enumerate_list p1.isList fun h' z1 z4 z6 hk=>?_
 refine wpAny_pyIter_enum (s:={s1 with heap:=h'}) z1 ?_
 refine⟨_,_,_,_,H1,rfl,I1.kept (t':=s1.toks) fun b o e=>hk b o e,jv (zr9 (a:=s1.heap.objs.size+1) (b:=s1.heap.objs.size) (zC6 _)),⟨⟨_,z1⟩,z4⟩,fun b hb=>?_,q⟩
 simp only[zt4,zt9,zv5] at hb
 have hb':s1.heap.objs.size≤b:=by
  have key:∀n b:Nat,n=s1.heap.objs.size→(b=n+1∨b=n)→n≤b:=fun n b _ h=>by omega
  exact key _ _ rfl hb
 exact I1.fpOk hb' (I1.hok.fresh hb')
def rn (ds es:List PyData):List PyData:=List.zipWith (fun d e=>.tuple [d,e]) ds es
def uX (n:Nat):List PyData→List PyData
 |[]=>[]
 |d::ds=>.tuple [.int n,d]::uX (n+1) ds
theorem vB :∀{ds:List PyData} {n i:Nat} {d:PyData},(uX n ds)[i]?=some d→∃e,ds[i]?=some e∧d=.tuple [.int ((n+i:Nat):Int),e]
 |[],n,i,d,h=>by simp[uX] at h
 |e::ds,n,0,d,h=>by simp[uX] at h;exact⟨e,rfl,by simp[←h]⟩
 |e::ds,n,i+1,d,h=>by
  simp only[uX,zD0] at h
  obtain⟨e',h1,h2⟩:=vB h
  exact⟨e',by simpa using h1,by rw[h2,Nat.add_assoc,Nat.add_comm 1 i]⟩
theorem vI :∀(ds:List PyData) (n:Nat),(uX n ds).length=ds.length
 |[],_=>rfl
 |_::ds,n=>by simp[uX,vI ds (n+1)]
theorem kJ {Q:List PyData→Prop}(hg:Gl X "enumerate")(hm:X.mg "enumerate"=none)(h:EvD X α a fun x=>∃ds,x=.list ds∧Q (uX 0 ds))(hs:starEach [a] X.env=[(false,eval a X.env)]:=by rfl):
  EvI X α (.Tuple elts kk tp) (.Call (.Name "enumerate" p) [a] [] pos) Q:=fun F σ H R m k=>by
 refine⟨_,ai hg hm (zf zr zu hs) hs,?_⟩
 refine h F σ H _ m fun x vx H1 q1 t1 k1 r1=>?_
 obtain⟨ds,rfl,q⟩:=q1
 obtain⟨l1,xs,rfl,g1,g2⟩:=r1.lst_inv
 refine⟨l1,rfl,⟨xs,SqL.of (zm g1).2⟩,k _ _ H1 q t1 k1 fun i H3 p s=>⟨fun d hd=>?_,fun hl=>?_⟩⟩
 ·have s1:=SqL.of (K:=X.K) (zm (s _ _ g1)).2
  obtain⟨e,he,rfl⟩:=vB hd
  obtain⟨x1,hx1,av1⟩:=g2.get he
  refine⟨⟨xs,x1,s1,hx1⟩,fun v H4 y=>?_⟩
  obtain⟨T,x,rfl,hT,rfl,hx⟩:=y
  have hx:=hx _ s1
  rw[hx1] at hx;cases hx
  refine⟨yr hT,fun fr=>?_⟩
  have gs:zC (Gz F α σ H1) (sub p (upd H3 T (.tup [.int i,x1]))):=fun a o e=>by
   obtain⟨z1,z2⟩:=zm (s a o e)
   exact zF z1 (by rw[zd (zo z2 hT)];exact z2)
  refine .tup (zF (fr T _ zk hT) zk) (.cons ?_ (.cons (av1.same gs) .nil))
  rw[Nat.zero_add]
  exact .int _
 ·refine⟨xs,SqL.of (zm (s _ _ g1)).2,?_⟩
  rw[vI,←g2.length] at hl
  exact hl
end
structure Cal (P:Program)(w:World)(K:PySem.W.Frag)(mg:Str→Option Value)(base:Heap)(x:Str)(k:Nat)(φ:List A→(A→Prop)→Prop):Prop where
 ex:∃f fd ps,mg x=some (.ref f)∧PySem.W.keepIn K (.ref f)=true∧Binds K fd ps []∧zD P w K mg base CX0 k f fd ps (spA φ)
section
variable {X:Cx}{α:Ev}{e a b:Expr}{es:List Expr}{pos p:Pos}{Q:PyData→Prop}{k:Nat}{φ:List A→(A→Prop)→Prop}{x:Str}
theorem yq (C:Cal X.prog X.w X.K X.mg X.base x k φ)(hr:zL k X.A)(hg:Gl X x)(h:EvA X α (e::es) fun as=>φ as fun a=>Q a.d)
  (hdb:(x == ("__debug__":Str))=false:=by decide) (he:starEach (e::es) X.env=(false,eval e X.env)::starEach es X.env:=by rfl) (hpl:(backTo pos (starEach es X.env)).any (·.1)=false:=by rfl):EvD X α (.Call (.Name x p) (e::es) [] pos) Q:=by
 obtain⟨f,fd,ps,h1,h2,h3,h4⟩:=C.ex
 exact bJ h4 hr hg h1 h2 h3 h hdb he hpl
theorem wz {Q:List PyData→Prop}(C:Cal X.prog X.w X.K X.mg X.base x k φ)(hr:zL k X.A)(hg:Gl X x)(h:EvA X α (e::es) fun as=>φ as fun a=>∃ds,a=.own ds∧Q ds)
  (hdb:(x == ("__debug__":Str))=false:=by decide) (he:starEach (e::es) X.env=(false,eval e X.env)::starEach es X.env:=by rfl) (hpl:(backTo pos (starEach es X.env)).any (·.1)=false:=by rfl):EvL X α (.Call (.Name x p) (e::es) [] pos) Q:=by
 obtain⟨f,fd,ps,h1,h2,h3,h4⟩:=C.ex
 exact cS h4 hr hg h1 h2 h3 h hdb he hpl
end
section
variable {P:Program}{w:World}{K:PySem.W.Frag}{mg:Str→Option Value}{base:Heap}
theorem uy {x qual:Str}{st:Stmt}{f:Addr}{fd:FuncData}{N ps:List Str}{k:Nat}{φ:List A→(A→Prop)→Prop}(G:Fun K x qual st f fd)(hm:mg x=some (.ref f))(hb:Binds K fd ps [])(S:zp N ps (zc st))(hlen:∀as Q,φ as Q→as.length=ps.length)
  (hbody:∀(cdv:Value) (A':Around) (outer:List Env) (s:Shared) (H:Hp) (E:XK) (as:List A) (Q:A→Prop),zL k (A'.deeper (envOfC qual (zc st) s.heap.objs.size f cdv))→φ as Q→
   SvS (xB CX0 P w K mg base N qual (zc st) f cdv A' outer s H E).nox (as.map some++List.replicate (N.length-as.length) none) (zB st) {nx:=fun _=>Q (.dat .none),rt:=Q}):Cal P w K mg base x (k+1) φ:=
 ⟨f,fd,ps,hm,G.kp,hb,fnA G S hlen hbody⟩
theorem Cal.imp {x:Str}{k:Nat}{φ φ':List A→(A→Prop)→Prop}(C:Cal P w K mg base x k φ)(h:∀as Q,φ' as Q→φ as Q):Cal P w K mg base x k φ':=by
 obtain⟨f,fd,ps,h1,h2,h3,h4⟩:=C.ex
 exact⟨f,fd,ps,h1,h2,h3,h4.imp fun vs H Q E ⟨F,as,Q',a,b,c,d,e,g⟩=>⟨F,as,Q',a,b,c,d,h _ _ e,g⟩⟩
def xW :List A→(A→Prop)→Prop:=fun as Q=>∃n:Int,as=[.tape,.dat (.int n)]∧0<n∧n<big∧∀v,0≤v→v<n→Q (.dat (.int v))
theorem eE {f:Addr}{fd:FuncData}{x:Str}(hm:mg x=some (.ref f))(hk:PySem.W.keepIn K (.ref f)=true)(hb:Binds K fd ["_law_tape_here","_law_many"] [])(G:zD P w K mg base CX0 1 f fd ["_law_tape_here","_law_many"] gA):Cal P w K mg base x 1 xW:=by
 refine⟨f,fd,_,hm,hk,hb,G.imp fun vs H Q E h=>?_⟩
 obtain⟨F,as,Q',rfl,t,o,rv,⟨n,rfl,h0,h1,hq⟩,kk⟩:=h
 cases rv with
 |cons a1 r=>
  obtain⟨ta,b,c,e,rfl⟩:=a1
  obtain⟨v,rfl,av⟩:=r.one
  cases av.int_inv
  refine⟨ta,b,c,n,rfl,(t ta b c e).1,h0,h1,fun z H' z0 z1 TA off=>kk _ _ _ (hq z z0 z1) ⟨⟨(by
   obtain⟨_,_,_,_,e1,e2,_⟩:=(t ta b c e).1.ex
   exact cY t.tab e1 e2 off),t.ot,fun t' b' c' e'=>?_⟩,fun y u hy n=>?_,.int z⟩⟩
  ·rw[e] at e';cases e'
   exact⟨TA,(t ta b c e).2⟩
  ·rw[off y (n.1 _ _ _ e).1 (n.1 _ _ _ e).2];exact hy
theorem M.tape {H:Hp}{t b c:Addr}{α:Ev}{σ:St}(T:yH H t b c)(TB:TabAt H)(hl:α.length=σ.length)(h:∀(i:Nat) a,α[i]?=some (some a)→a=.tape∧σ[i]?=some (some (.ref t))):M ⟨H,fun x=>x=t∨x=b∨x=c∨tP x,some (t,b,c)⟩ α σ H:=by
 refine⟨hl,fun i a s e1 e2=>?_,fun i j a b s u x e1 _ _ _ f=>?_,fun i r q e=>?_,⟨TB,fun x z=>.inr (.inr (.inr z)),fun t' b' c' e=>?_⟩,fun _ _ e _=>e,fun x hx=>?_⟩
 ·obtain⟨rfl,z⟩:=h i a e1
  rw[z] at e2;cases e2
  exact⟨t,b,c,rfl,rfl⟩
 ·obtain⟨rfl,_⟩:=h i a e1
  exact f.elim
 ·cases (h i _ e).1
 ·cases e
  exact⟨T,.inl rfl,.inr (.inl rfl),.inr (.inr (.inl rfl))⟩
 ·obtain⟨n,bs,cs,_,e1,e2,e3,_⟩:=T.ex
  rcases hx with rfl|rfl|rfl|z
  ·exact⟨_,e1,yV⟩
  ·exact⟨_,e2,yV⟩
  ·exact⟨_,e3,yV⟩
  ·obtain⟨o,h1,h2,_⟩:=qm TB z
   exact⟨o,h1,h2⟩
theorem zq0 {st:Stmt}{f fT:Addr}{fd fdT:FuncData}{N':List Str}{k:Nat}{p1 p2 p3 p4 p5:Pos}{rest:List Stmt}(G:Fun K "law" "law" st f fd)(S:zp ("_law_script"::"_law_tape_here"::N') ["_law_script"] (zc st))
  (GT:zD P w K mg base CX0 1 fT fdT ["_law_script"] (mY K)) (mT:mg "_law_tape"=some (.ref fT)) (kT:PySem.W.keepIn K (.ref fT)=true) (bT:Binds K fdT ["_law_script"] [])
  (hb:zB st=.Assign [.Name "_law_tape_here" p1] (.Call (.Name "_law_tape" p2) [.Name "_law_script" p3] [] p4) p5::rest) (hgl:(zc st).names.lookup ("_law_tape":Str)=some .globalImplicit) (hl:Loc (zc st) "_law_tape_here") (hv:Vis (zc st) "_law_script")
  (hbody:∀(cdv:Value) (A':Around) (outer:List Env) (s:Shared) (H:Hp) (E:XK),zL (k+1) (A'.deeper (envOfC "law" (zc st) s.heap.objs.size f cdv))→
   SvS (xB CX0 P w K mg base ("_law_script"::"_law_tape_here"::N') "law" (zc st) f cdv A' outer s H E).nox (none::some .tape::List.replicate N'.length none) rest {nx:=fun _=>False,rt:=fun a=>a=.dat (.bool true)}):
  zD P w K mg base CX0 (k+1+1) f fd ["_law_script"] (oi K):=by
 refine G.ok S (fun vs H Q E h=>?_) (fun cdv A' outer s H vs Qc E hr h=>?_)
 ·obtain⟨a,ns,rfl,_⟩:=h
  rfl
 ·obtain⟨a,ns,rfl,hS,hn,tb,kk⟩:=h
  rw[hb]
  refine yc (fun σ H1=>∃t b c,yH H1 t b c∧TabAt H1∧σ=some (.ref a)::some (.ref t)::List.replicate N'.length none)
   ⟨_,wC (i:=1) S.nd rfl hl (zP GT (hr.mono (by omega)) hgl mT kT bT .nil zX (zf (yy (i:=0) rfl hv) zu)) (hf:=.inl rfl),?_⟩ ?_
  ·refine⟨.ref a,rfl,a,ns,rfl,hS,hn,fun t b c H' T _ _ _ sm=>⟨t,b,c,T,eX tb sm,?_⟩⟩
   show ((L2.start ("_law_script"::"_law_tape_here"::N') [.ref a]).set 1 (some (.ref t)))=_
   unfold L2.start
   simp[List.replicate_succ]
  ·rintro σ H1 ⟨t,b,c,T,TB,rfl⟩
   refine hbody cdv A' outer s H E hr ⟨H1,fun x=>x=t∨x=b∨x=c∨tP x,some (t,b,c)⟩ _ H1 _ (M.tape T TB (by simp) fun i z e=>?_) ⟨fun _ _ _ _ z=>z.elim,fun z v H' r e=>?_,fun _ _ _ _ z=>z.elim,fun _ _ _ _ z=>z.elim⟩
   ·cases i with
    |zero=>simp at e
    |succ i=>
     cases i with
     |zero=>simp at e;subst e;exact⟨rfl,rfl⟩
     |succ i=>
      simp only[zD0,zy8] at e
      split at e<;>cases e
   ·cases e
    obtain⟨_,_,r⟩:=r
    rw[AV.bl_inv r]
    exact kk H'
end
section
variable {Y:Addr→Shared→Hp→List Addr→Cx}{pat:Pat}{ifs:List Expr}{elt:Expr}{α0:Ev}
theorem iu {ds acc:List PyData}{Q:List PyData→Prop}(P:Nat→List PyData→Prop)(h0:P 0 acc)
  (hs:∀i d acc,ds[i]?=some d→P i acc→∃α1,pat.bind d α0=some α1∧∀C s2 H2 fp,jS (Y C s2 H2 fp) α1 ifs fun k=>if k=true then ∀C s2 H2 fp,EvD (Y C s2 H2 fp) α1 elt fun y=>P (i+1) (acc++[y]) else P (i+1) acc)
  (hd:∀acc,P ds.length acc→Q acc):xm Y pat ifs elt α0 ds acc Q:=by
 have key:∀n i acc,n=ds.length-i→i≤ds.length→P i acc→xm Y pat ifs elt α0 (ds.drop i) acc Q:=by
  intro n
  induction n with
  |zero=>
   intro i acc hn hi p
   have e:i=ds.length:=by omega
   subst e
   rw[zH0]
   exact hd acc p
  |succ n ih=>
   intro i acc hn hi p
   have hlt:i<ds.length:=by omega
   rw[zC3 hlt]
   obtain⟨α1,e,b⟩:=hs i ds[i] acc (zt3 hlt) p
   refine⟨α1,e,fun C s2 H2 fp F σ H R m kk=>b C s2 H2 fp F σ H R m fun k H' q=>kk k H' ?_⟩
   cases k with
   |true=>
    rw[if_pos rfl] at q ⊢
    exact fun C s2 H2 fp=>(q C s2 H2 fp).imp fun y p=>ih (i+1) _ (by omega) hlt p
   |false=>
    rw[if_neg (by decide)] at q ⊢
    exact ih (i+1) _ (by omega) hlt q
 exact key _ 0 acc rfl (zu6 _) h0
theorem wt {ds acc:List PyData}{Q:List PyData→Prop}(p:PyData→Bool)(f:PyData→PyData)
  (hs:∀d∈ds,∃α1,pat.bind d α0=some α1∧(∀C s2 H2 fp (Q:Bool→Prop),Q (p d)→jS (Y C s2 H2 fp) α1 ifs Q)∧(p d=true→∀C s2 H2 fp (Q:PyData→Prop),Q (f d)→EvD (Y C s2 H2 fp) α1 elt Q))
  (hd:Q (acc++(ds.filter p).map f)):xm Y pat ifs elt α0 ds acc Q:=by
 induction ds generalizing acc with
 |nil=>
  show Q acc
  simpa using hd
 |cons d ds ih=>
  obtain⟨α1,e,h1,h2⟩:=hs d zu8
  refine⟨α1,e,fun C s2 H2 fp=>h1 C s2 H2 fp _ ?_⟩
  have ih':=fun acc=>ih (acc:=acc) fun d hd=>hs d (zu1 _ hd)
  cases hp:p d with
  |true=>
   rw[if_pos rfl]
   refine fun C s2 H2 fp=>h2 hp C s2 H2 fp _ (ih' _ ?_)
   simpa[zE6,hp] using hd
  |false=>
   rw[if_neg (by decide)]
   refine ih' _ ?_
   simpa[zE6,hp] using hd
end
theorem oM {ds:List PyData}{v:Int}(h0:0≤v)(h1:v<ds.length):∃d,d∈ds∧atI ds v=some d:=by
 obtain⟨j,rfl⟩:=zD1 h0
 have hj:j<ds.length:=by omega
 exact⟨ds[j],zE7 hj,xr (zt3 hj)⟩
section
variable {X:Cx}{α:Ev}{e a b c:Expr}{es rest:List Expr}{pos p:Pos}{Q:PyData→Prop}{E:xp}{st:Stmt}{sts sts':List Stmt}
theorem eS {c:Prop}[Decidable c]{a b:List Stmt}(h1:c→SvS X α a E)(h2:¬c→SvS X α b E):SvS X α (if decide c=true then a else b) E:=by
 by_cases h:c
 ·rw[zE2 h];exact h1 h
 ·rw[zy4 h];exact h2 h
theorem tI {k:Bool}{a b:List Stmt}(h1:k=true→SvS X α a E)(h2:k=false→SvS X α b E):SvS X α (if k=true then a else b) E:=by
 cases k with
 |true=>exact h1 rfl
 |false=>exact h2 rfl
theorem bO {i j:Int}:Cmp rEq (.int i) (.int j) (decide (i=j)):=fun p H vx vy R rx ry h=>by
 cases rx.int_inv;cases ry.int_inv
 refine⟨rfl,?_⟩
 rw[show decide (V.int i=V.int j)=decide (i=j) by simp]
 exact h
theorem lL {i j:Str}:Cmp rEq (.str i) (.str j) (decide (i=j)):=fun p H vx vy R rx ry h=>by
 cases rx.str_inv;cases ry.str_inv
 refine⟨rfl,?_⟩
 rw[show decide (V.str i=V.str j)=decide (i=j) by simp]
 exact h
theorem zh1 {op:CmpOp}{r:R2}(ho:OpR X (compareOp op) r)(hm:behindInMarks op b=false)(h:EvD X α a fun x=>EvD X α b fun y=>∃k,Cmp r x y k∧Q (.bool k)):EvD X α (.Compare a [op] [b] pos) Q:=fun F σ H R m k=>by
 refine⟨_,xQ ho zr zr hm,?_⟩
 refine h F σ H _ m fun x vx H1 q1 t1 k1 r1=>?_
 have m1:=m.kz k1 t1
 refine q1 F σ H1 _ m1 fun y vy H2 q2 t2 k2 r2=>?_
 obtain⟨b,hc,q⟩:=q2
 exact hc _ H2 vx vy _ (r1.same (k2.gz m1.tp)) r2 (k _ _ H2 q t2 (k1.trans k2) (.bl b))
theorem zf7 {Q:Bool→Prop}(h:EvD X α a fun x=>EvD X α b fun y=>∃i j,x=.int i∧y=.int j∧Q (decide (i=j))):EvT X α (.Compare a [.Eq] [b] pos) Q:=
 vX wK (zJ _) (h.imp fun x h=>h.imp fun y ⟨i,j,e1,e2,q⟩=>⟨_,by subst e1 e2;exact bO,q⟩)
theorem zd3 {Q:Bool→Prop}(h:EvD X α a fun x=>EvD X α b fun y=>∃i j,x=.str i∧y=.str j∧Q (decide (i=j))):EvT X α (.Compare a [.Eq] [b] pos) Q:=
 vX wK (zJ _) (h.imp fun x h=>h.imp fun y ⟨i,j,e1,e2,q⟩=>⟨_,by subst e1 e2;exact lL,q⟩)
theorem bb {p q:Bool}{Q:Bool→Prop}(ha:∀Q:Bool→Prop,Q p→EvT X α a Q)(hb:p=true→∀Q:Bool→Prop,Q q→EvW X α (.BoolOp .And (b::rest) pos) Q)(k:Q (p&&q)):EvW X α (.BoolOp .And (a::b::rest) pos) Q:=by
 refine eU (ha _ ?_)
 cases p with
 |true=>rw[if_pos rfl];exact hb rfl _ (by simpa using k)
 |false=>rw[if_neg (by decide)];simpa using k
end
structure NbT (mg:Str→Option Value):Prop where
 abs:mg "abs"=none
 list:mg "list"=none
 len:mg "len"=none
 range:mg "range"=none
 min:mg "min"=none
 max:mg "max"=none
 sorted:mg "sorted"=none
 isinstance:mg "isinstance"=none
 int:mg "int"=none
 bool:mg "bool"=none
 str:mg "str"=none
 tuple:mg "tuple"=none
 all:mg "all"=none
 any:mg "any"=none
 repr:mg "repr"=none
 zip:mg "zip"=none
 enumerate:mg "enumerate"=none
 reversed:mg "reversed"=none
 sum:mg "sum"=none
theorem xC {X:Cx}{K:PySem.W.Frag}{es:List Expr}{k:Nat}{t:TGs}{n:Nat}{pos:Pos}(hK:X.K=K)(hc:X.calm=true)(h:PGs X es t)
  (hn:(assignEach es X.env).length=n:=by rfl) (hst:(assignEach es X.env).findIdx? (·.1)=none:=by rfl):PG X (.Tuple es k pos) (fZ K n t):=by
 subst hK
 exact zg4 hc h hn hst
end L2
namespace SortA
open PySem PySem.W PyProof.Rows
def run {α:Type}(lt:Nat→Nat→Bool):KasT α→α
 |.ret a=>a
 |.ask i j k=>run lt (k (lt i j))
theorem run_bind {α β:Type}(lt:Nat→Nat→Bool)(f:α→KasT β):∀t:KasT α,run lt (t.bind f)=run lt (f (run lt t))
 |.ret _=>rfl
 |.ask i j k=>run_bind lt f (k (lt i j))
structure Ord (lt:Nat→Nat→Bool):Prop where
 irr:∀a,lt a a=false
 tr:∀a b c,lt b a=false→lt c b=false→lt c a=false
 asy:∀a b,lt a b=true→lt b a=false
abbrev g (p:Array Nat)(i:Nat):Nat:=p.getD i 0
def Up (lt:Nat→Nat→Bool)(p:Array Nat)(m:Nat):Prop:=∀i j,i≤j→j<m→lt (g p j) (g p i)=false
def Down (lt:Nat→Nat→Bool)(p:Array Nat)(m:Nat):Prop:=∀i j,i≤j→j<m→lt (g p i) (g p j)=false
theorem dQ {p q:Array Nat}{i j:Nat}(h:p[i]?=q[j]?):g p i=g q j:=by
 unfold g
 rw[Array.getD_eq_getD_getElem?,Array.getD_eq_getD_getElem?,h]
variable {lt:Nat→Nat→Bool}
theorem Up.succ (O:Ord lt){p:Array Nat}{m:Nat}(h:Up lt p m)(hm:0<m)(e:lt (g p m) (g p (m-1))=false):Up lt p (m+1):=fun i j hij hj=>by
 by_cases e1:j<m
 ·exact h i j hij e1
 ·have ej:j=m:=by omega
  subst ej
  by_cases e2:i=j
  ·subst e2;exact O.irr _
  ·exact O.tr _ _ _ (h i (j-1) (by omega) (by omega)) e
theorem Down.succ (O:Ord lt){p:Array Nat}{m:Nat}(h:Down lt p m)(hm:0<m)(e:lt (g p (m-1)) (g p m)=false):Down lt p (m+1):=fun i j hij hj=>by
 by_cases e1:j<m
 ·exact h i j hij e1
 ·have ej:j=m:=by omega
  subst ej
  by_cases e2:i=j
  ·subst e2;exact O.irr _
  ·exact O.tr _ _ _ e (h i (j-1) (by omega) (by omega))
theorem zd1 (O:Ord lt)(p:Array Nat):Up lt p 1:=fun i j hij hj=>by
 have e1:i=0:=by omega
 have e2:j=0:=by omega
 rw[e1,e2];exact O.irr _
theorem nE (O:Ord lt)(p:Array Nat):∀(f n:Nat),0<n→Up lt p n→n≤run lt (kas_asc p f n)∧run lt (kas_asc p f n)≤n+f∧Up lt p (run lt (kas_asc p f n))∧
  (run lt (kas_asc p f n)<n+f→lt (g p (run lt (kas_asc p f n))) (g p (run lt (kas_asc p f n)-1))=true)
 |0,n,_,h=>⟨zt8 _,zt8 _,h,fun z=>absurd z (zz5 _)⟩
 |f+1,n,hn,h=>by
  show n≤run lt ((fun c=>if c=true then KasT.ret n else kas_asc p f (n+1)) (lt (p.getD n 0) (p.getD (n-1) 0)))∧_
  cases e:lt (p.getD n 0) (p.getD (n-1) 0) with
  |true=>
   have er:run lt (kas_asc p (f+1) n)=n:=by
    show run lt ((fun c=>if c=true then KasT.ret n else kas_asc p f (n+1)) (lt (p.getD n 0) (p.getD (n-1) 0)))=n
    rw[e];rfl
   rw[er]
   exact⟨zt8 _,by omega,h,fun _=>e⟩
  |false=>
   have er:run lt (kas_asc p (f+1) n)=run lt (kas_asc p f (n+1)):=by
    show run lt ((fun c=>if c=true then KasT.ret n else kas_asc p f (n+1)) (lt (p.getD n 0) (p.getD (n-1) 0)))=_
    rw[e];rfl
   rw[er]
   obtain⟨a,b,c,d⟩:=nE O p f (n+1) (by omega) (h.succ O hn e)
   exact⟨by show n≤run lt (kas_asc p f (n+1));omega,by omega,c,fun z=>d (by omega)⟩
theorem uS {p:Array Nat}{i j:Nat}(hj:j≤p.size)(k:Nat):g (kas_rev p i j) k=if i≤k∧k<j then g p (i+j-1-k) else g p k:=by
 have h:=getElem?_mirror_all (xs:=p) (i:=i) hj k
 split
 ·rename_i c
  rw[if_pos c] at h
  exact dQ h
 ·rename_i c
  rw[if_neg c] at h
  exact dQ h
theorem xA (p:Array Nat)(i j:Nat):(kas_rev p i j).size=p.size:=mirror_size _ _ _ _
theorem yO (p:Array Nat)(i j:Nat):(kas_rev p i j).Perm p:=mirror_perm _ _ _ _
def Eqv (lt:Nat→Nat→Bool)(a b:Nat):Prop:=lt a b=false∧lt b a=false
theorem Down.eqv (O:Ord lt){p q:Array Nat}{n:Nat}(h:Down lt p n)(e:∀k,k<n→Eqv lt (g q k) (g p k)):Down lt q n:=fun i j hij hj=>
 O.tr _ _ _ (O.tr _ _ _ (e j hj).2 (h i j hij hj)) (e i (by omega)).1
def Last (lt:Nat→Nat→Bool)(p:Array Nat)(n q:Nat):Prop:=∀a b,n≤a+(q+1)→a<n→n≤b+(q+1)→b<n→lt (g p a) (g p b)=false
theorem rev_last (O:Ord lt){p:Array Nat}{n q:Nat}(hn:n≤p.size)(hq:q<n)(L:Last lt p n q):∀k,k<n→Eqv lt (g (kas_rev p (n-(q+1)) n) k) (g p k):=fun k hk=>by
 rw[uS hn]
 split
 ·rename_i c
  exact⟨L _ _ (by omega) (by omega) (by omega) hk,L _ _ (by omega) hk (by omega) (by omega)⟩
 ·exact⟨O.irr _,O.irr _⟩
theorem tF (O:Ord lt):∀(f:Nat) (p:Array Nat) (n q:Nat),q<n→n+f≤p.size→Down lt p n→Last lt p n q→
  ∃p' m q',run lt (kas_desc f p n q)=(p',m,q')∧n≤m∧m≤n+f∧p'.size=p.size∧p'.Perm p∧q'<m∧Down lt p' m∧Last lt p' m q'
 |0,p,n,q,hq,hs,h,L=>⟨p,n,q,rfl,zt8 _,zt8 _,rfl,zF7 _,hq,h,L⟩
 |f+1,p,n,q,hq,hs,h,L=>by
  cases e:lt (p.getD n 0) (p.getD (n-1) 0) with
  |true=>
   by_cases hq0:q > 0
   ·have er:run lt (kas_desc (f+1) p n q)=run lt (kas_desc f (kas_rev p (n-(q+1)) n) (n+1) 0):=by
     show run lt ((fun c=>if c=true then (if q > 0 then kas_desc f (kas_rev p (n-(q+1)) n) (n+1) 0 else kas_desc f p (n+1) 0)
      else .ask (p.getD (n-1) 0) (p.getD n 0) fun d=>if d=true then .ret (p,n,q) else kas_desc f p (n+1) (q+1)) (lt (p.getD n 0) (p.getD (n-1) 0)))=_
     rw[e]
     show run lt (if q > 0 then _ else _)=_
     rw[if_pos hq0]
    have ev:=rev_last O (by omega:n≤p.size) hq L
    have h1:=h.eqv O ev
    have hn:g (kas_rev p (n-(q+1)) n) n=g p n:=by rw[uS (by omega),if_neg (by omega)]
    have h2:Down lt (kas_rev p (n-(q+1)) n) (n+1):=h1.succ O (by omega) (by
     rw[hn]
     exact O.tr _ _ _ (O.asy _ _ e) (ev (n-1) (by omega)).1)
    obtain⟨p',m,q',a,b,c,d1,d2,d3,d4,d5⟩:=tF O f (kas_rev p (n-(q+1)) n) (n+1) 0 (by omega) (by rw[xA];omega) h2 (fun a b h1 h2 h3 h4=>by
     have e1:a=n:=by omega
     have e2:b=n:=by omega
     rw[e1,e2];exact O.irr _)
    exact⟨p',m,q',er.trans a,by omega,by omega,by rw[d1,xA],d2.trans (yO _ _ _),d3,d4,d5⟩
   ·have er:run lt (kas_desc (f+1) p n q)=run lt (kas_desc f p (n+1) 0):=by
     show run lt ((fun c=>if c=true then (if q > 0 then kas_desc f (kas_rev p (n-(q+1)) n) (n+1) 0 else kas_desc f p (n+1) 0)
      else .ask (p.getD (n-1) 0) (p.getD n 0) fun d=>if d=true then .ret (p,n,q) else kas_desc f p (n+1) (q+1)) (lt (p.getD n 0) (p.getD (n-1) 0)))=_
     rw[e]
     show run lt (if q > 0 then _ else _)=_
     rw[if_neg hq0]
    obtain⟨p',m,q',a,b,c,d1,d2,d3,d4,d5⟩:=tF O f p (n+1) 0 (by omega) (by omega) (h.succ O (by omega) (O.asy _ _ e)) (fun a b h1 h2 h3 h4=>by
     have e1:a=n:=by omega
     have e2:b=n:=by omega
     rw[e1,e2];exact O.irr _)
    exact⟨p',m,q',er.trans a,by omega,by omega,d1,d2,d3,d4,d5⟩
  |false=>
   cases e2:lt (p.getD (n-1) 0) (p.getD n 0) with
   |true=>
    have er:run lt (kas_desc (f+1) p n q)=(p,n,q):=by
     show run lt ((fun c=>if c=true then (if q > 0 then kas_desc f (kas_rev p (n-(q+1)) n) (n+1) 0 else kas_desc f p (n+1) 0)
      else .ask (p.getD (n-1) 0) (p.getD n 0) fun d=>if d=true then .ret (p,n,q) else kas_desc f p (n+1) (q+1)) (lt (p.getD n 0) (p.getD (n-1) 0)))=_
     rw[e]
     show run lt ((fun d=>if d=true then KasT.ret (p,n,q) else kas_desc f p (n+1) (q+1)) (lt (p.getD (n-1) 0) (p.getD n 0)))=_
     rw[e2];rfl
    exact⟨p,n,q,er,zt8 _,by omega,rfl,zF7 _,hq,h,L⟩
   |false=>
    have er:run lt (kas_desc (f+1) p n q)=run lt (kas_desc f p (n+1) (q+1)):=by
     show run lt ((fun c=>if c=true then (if q > 0 then kas_desc f (kas_rev p (n-(q+1)) n) (n+1) 0 else kas_desc f p (n+1) 0)
      else .ask (p.getD (n-1) 0) (p.getD n 0) fun d=>if d=true then .ret (p,n,q) else kas_desc f p (n+1) (q+1)) (lt (p.getD n 0) (p.getD (n-1) 0)))=_
     rw[e]
     show run lt ((fun d=>if d=true then KasT.ret (p,n,q) else kas_desc f p (n+1) (q+1)) (lt (p.getD (n-1) 0) (p.getD n 0)))=_
     rw[e2];rfl
    have Ln:Last lt p (n+1) (q+1):=fun a b h1 h2 h3 h4=>by
     have two:∀a,n+1≤a+(q+1+1)→a<n+1→Eqv lt (g p a) (g p (n-1)):=fun a x1 x2=>by
      by_cases ea:a=n
      ·rw[ea];exact⟨e,e2⟩
      ·exact⟨L a (n-1) (by omega) (by omega) (by omega) (by omega),L (n-1) a (by omega) (by omega) (by omega) (by omega)⟩
     exact O.tr _ _ _ (two b h3 h4).2 (two a h1 h2).1
    obtain⟨p',m,q',a,b,c,d1,d2,d3,d4,d5⟩:=tF O f p (n+1) (q+1) (by omega) (by omega) (h.succ O (by omega) e2) Ln
    exact⟨p',m,q',er.trans a,by omega,by omega,d1,d2,d3,d4,d5⟩
theorem zj0 {p:Array Nat}{n:Nat}(hn:n≤p.size)(h:Down lt p n):Up lt (kas_rev p 0 n) n:=fun i j hij hj=>by
 rw[uS hn,uS hn,if_pos (by omega),if_pos (by omega)]
 exact h _ _ (by omega) (by omega)
theorem oR (O:Ord lt){p:Array Nat}{n nrem:Nat}(h0:0<n)(hn:n≤nrem)(hs:nrem≤p.size)(h:Down lt p n):
  ∃p' m,run lt (kas_tail3 n nrem p)=(m,p')∧1≤m∧m≤nrem∧p'.size=p.size∧p'.Perm p∧Up lt p' m:=by
 obtain⟨a,b,c,_⟩:=nE O (kas_rev p 0 n) (nrem-n) n h0 (zj0 (by omega) h)
 refine⟨kas_rev p 0 n,run lt (kas_asc (kas_rev p 0 n) (nrem-n) n),?_,by omega,by omega,xA _ _ _,yO _ _ _,c⟩
 unfold kas_tail3
 rw[run_bind]
 rfl
theorem uU (O:Ord lt){p:Array Nat}{n nrem:Nat}(h0:0<n)(hn:n+1≤nrem)(hs:nrem≤p.size)(h:Down lt p (n+1)):
  ∃p' m,run lt (kas_descPart n nrem p)=(m,p')∧1≤m∧m≤nrem∧p'.size=p.size∧p'.Perm p∧Up lt p' m:=by
 obtain⟨p1,m1,q1,e,a1,a2,a3,a4,a5,a6,a7⟩:=tF O (nrem-(n+1)) p (n+1) 0 (by omega) (by omega) h (fun a b h1 h2 h3 h4=>by
  have e1:a=n:=by omega
  have e2:b=n:=by omega
  rw[e1,e2];exact O.irr _)
 unfold kas_descPart
 rw[run_bind,e]
 dsimp only
 split
 ·obtain⟨p',m,b1,b2,b3,b4,b5,b6⟩:=oR O (p:=kas_rev p1 (m1-(q1+1)) m1) (n:=m1) (nrem:=nrem) (by omega) (by omega) (by rw[xA];omega) (a6.eqv O (rev_last O (by omega) a5 a7))
  exact⟨p',m,b1,b2,b3,by rw[b4,xA,a3],(b5.trans (yO _ _ _)).trans a4,b6⟩
 ·obtain⟨p',m,b1,b2,b3,b4,b5,b6⟩:=oR O (p:=p1) (n:=m1) (nrem:=nrem) (by omega) (by omega) (by omega) a6
  exact⟨p',m,b1,b2,b3,by rw[b4,a3],b5.trans a4,b6⟩
theorem fc (O:Ord lt){p:Array Nat}{nrem:Nat}(h0:0<nrem)(hs:nrem≤p.size):
  ∃p' m,run lt (kas_count nrem p)=(m,p')∧1≤m∧m≤nrem∧p'.size=p.size∧p'.Perm p∧Up lt p' m:=by
 obtain⟨a,b,c,d⟩:=nE O p (nrem-1) 1 (by omega) (zd1 O p)
 unfold kas_count
 rw[run_bind]
 generalize run lt (kas_asc p (nrem-1) 1)=n at a b c d
 by_cases en:n=nrem
 ·rw[if_pos (by rw[en];simp)]
  exact⟨p,n,rfl,a,by omega,rfl,zF7 _,c⟩
 ·rw[if_neg (by simpa using en)]
  have hd:=d (by omega)
  by_cases h1:n > 1
  ·rw[if_pos h1]
   cases e:lt (p.getD 0 0) (p.getD (n-1) 0) with
   |true=>
    refine⟨p,n,?_,a,by omega,rfl,zF7 _,c⟩
    show run lt ((fun c=>if c=true then KasT.ret (n,p) else kas_descPart n nrem (kas_rev p 0 n)) (lt (p.getD 0 0) (p.getD (n-1) 0)))=_
    rw[e];rfl
   |false=>
    have all:∀k,k<n→Eqv lt (g p k) (g p 0):=fun k hk=>⟨c 0 k (by omega) hk,O.tr _ _ _ (c k (n-1) (by omega) (by omega)) e⟩
    have hD:Down lt (kas_rev p 0 n) (n+1):=by
     have h2:Down lt (kas_rev p 0 n) n:=fun i j hij hj=>by
      rw[uS (by omega),uS (by omega),if_pos (by omega),if_pos (by omega)]
      exact O.tr _ _ _ (all _ (by omega)).2 (all _ (by omega)).1
     refine h2.succ O (by omega) ?_
     rw[uS (by omega),uS (by omega),if_pos (by omega),if_neg (by omega)]
     have e0:lt (g p (n-1)) (g p n)=false:=O.asy _ _ hd
     exact O.tr _ _ _ e0 (O.tr _ _ _ (all (n-1) (by omega)).2 (all _ (by omega)).1)
    obtain⟨p',m,b1,b2,b3,b4,b5,b6⟩:=uU O (p:=kas_rev p 0 n) (n:=n) (nrem:=nrem) (by omega) (by omega) (by rw[xA];omega) hD
    refine⟨p',m,?_,b2,b3,by rw[b4,xA],b5.trans (yO _ _ _),b6⟩
    rw[←b1]
    show run lt ((fun c=>if c=true then KasT.ret (n,p) else kas_descPart n nrem (kas_rev p 0 n)) (lt (p.getD 0 0) (p.getD (n-1) 0)))=_
    rw[e];rfl
  ·rw[if_neg h1]
   have e1:n=1:=by omega
   subst e1
   refine uU O (by omega) (by omega) hs ?_
   have d1:Down lt p 1:=fun i j hij hj=>by
    have e1:i=0:=by omega
    have e2:j=0:=by omega
    rw[e1,e2];exact O.irr _
   exact d1.succ O (by omega) (O.asy _ _ hd)
theorem sR (O:Ord lt){p:Array Nat}{k:Nat}(U:Up lt p k):∀(f l r:Nat),r≤l+f→l≤r→r≤k→(∀i,i<l→lt (g p k) (g p i)=false)→(∀i,r≤i→i<k→lt (g p k) (g p i)=true)→
  run lt (kas_place p k f l r)≤k∧(∀i,i<run lt (kas_place p k f l r)→lt (g p k) (g p i)=false)∧(∀i,run lt (kas_place p k f l r)≤i→i<k→lt (g p k) (g p i)=true)
 |0,l,r,h1,h2,h3,ha,hb=>by
  show l≤k∧_
  exact⟨by omega,ha,fun i x y=>hb i (by have:l≤i:=x;omega) y⟩
 |f+1,l,r,h1,h2,h3,ha,hb=>by
  by_cases hlr:l≥r
  ·have er:run lt (kas_place p k (f+1) l r)=l:=by
    show run lt (if l≥r then _ else _)=_
    rw[if_pos hlr];rfl
   rw[er]
   exact⟨by omega,ha,fun i x y=>hb i (by omega) y⟩
  ·cases e:lt (p.getD k 0) (p.getD ((l+r) / 2) 0) with
   |true=>
    have er:run lt (kas_place p k (f+1) l r)=run lt (kas_place p k f l ((l+r) / 2)):=by
     show run lt (if l≥r then _ else _)=_
     rw[if_neg hlr]
     show run lt ((fun c=>if c=true then kas_place p k f l ((l+r) / 2) else kas_place p k f ((l+r) / 2+1) r) (lt (p.getD k 0) (p.getD ((l+r) / 2) 0)))=_
     rw[e];rfl
    rw[er]
    refine sR O U f l ((l+r) / 2) (by omega) (by omega) (by omega) ha fun i x y=>?_
    cases e3:lt (g p k) (g p i) with
    |true=>rfl
    |false=>
     have e4:lt (g p k) (g p ((l+r) / 2))=false:=O.tr _ _ _ (U ((l+r) / 2) i x y) e3
     have e5:lt (g p k) (g p ((l+r) / 2))=true:=e
     rw[e4] at e5;cases e5
   |false=>
    have er:run lt (kas_place p k (f+1) l r)=run lt (kas_place p k f ((l+r) / 2+1) r):=by
     show run lt (if l≥r then _ else _)=_
     rw[if_neg hlr]
     show run lt ((fun c=>if c=true then kas_place p k f l ((l+r) / 2) else kas_place p k f ((l+r) / 2+1) r) (lt (p.getD k 0) (p.getD ((l+r) / 2) 0)))=_
     rw[e];rfl
    rw[er]
    exact sR O U f ((l+r) / 2+1) r (by omega) (by omega) h3 (fun i hi=>O.tr _ _ _ (U i ((l+r) / 2) (by omega) (by omega)) e) hb
theorem jd (O:Ord lt){p:Array Nat}{k l:Nat}(hk:k<p.size)(hl:l≤k)(U:Up lt p k)(ha:∀i,i<l→lt (g p k) (g p i)=false)(hb:∀i,l≤i→i<k→lt (g p k) (g p i)=true):Up lt (bubble p k (k-l)) (k+1):=by
 have gb:∀i,g (bubble p k (k-l)) i=if i=l then g p k else if l<i∧i≤k then g p (i-1) else g p i:=fun i=>by
  have h:=getElem?_bubble hk (k-l) (by omega) i
  have el:k-(k-l)=l:=by omega
  rw[el] at h
  by_cases c:i=l
  ·rw[if_pos c] at h ⊢;exact dQ h
  ·rw[if_neg c] at h ⊢
   by_cases c2:l<i∧i≤k
   ·rw[if_pos c2] at h ⊢;exact dQ h
   ·rw[if_neg c2] at h ⊢;exact dQ h
 intro i j hij hj
 have gl:g (bubble p k (k-l)) l=g p k:=by rw[gb,if_pos rfl]
 have gm:∀i,l<i→i≤k→g (bubble p k (k-l)) i=g p (i-1):=fun i x y=>by rw[gb,if_neg (by omega),if_pos ⟨x,y⟩]
 have gs:∀i,i<l→g (bubble p k (k-l)) i=g p i:=fun i x=>by rw[gb,if_neg (by omega),if_neg (by omega)]
 rcases Nat.lt_trichotomy i l with hi|hi|hi
 ·rw[gs i hi]
  rcases Nat.lt_trichotomy j l with h|h|h
  ·rw[gs j h];exact U _ _ (by omega) (by omega)
  ·rw[h,gl];exact ha i hi
  ·rw[gm j h (by omega)];exact U _ _ (by omega) (by omega)
 ·rw[hi,gl]
  rcases Nat.lt_trichotomy j l with h|h|h
  ·omega
  ·rw[h,gl];exact O.irr _
  ·rw[gm j h (by omega)];exact O.asy _ _ (hb (j-1) (by omega) (by omega))
 ·rw[gm i hi (by omega),gm j (by omega) (by omega)]
  exact U _ _ (by omega) (by omega)
theorem eg (O:Ord lt):∀(f:Nat) (p:Array Nat) (k:Nat),0<k→k+f≤p.size→Up lt p k→(run lt (kas_bin f p k)).size=p.size∧(run lt (kas_bin f p k)).Perm p∧Up lt (run lt (kas_bin f p k)) (k+f)
 |0,p,k,_,_,U=>⟨rfl,zF7 _,U⟩
 |f+1,p,k,hk,hs,U=>by
  obtain⟨a,b,c⟩:=sR O U k 0 k (by omega) (by omega) (by omega) (fun i hi=>by omega) (fun i x y=>by omega)
  have er:run lt (kas_bin (f+1) p k)=run lt (kas_bin f (bubble p k (k-run lt (kas_place p k k 0 k))) (k+1)):=by
   show run lt ((kas_place p k k 0 k).bind _)=_
   rw[run_bind]
  rw[er]
  obtain⟨x,y,z⟩:=eg O f (bubble p k (k-run lt (kas_place p k k 0 k))) (k+1) (by omega) (by rw[bubble_size];omega) (jd O (by omega) a U b c)
  have e:k+(f+1)=k+1+f:=by omega
  rw[e]
  exact⟨by rw[x,bubble_size],y.trans (bubble_perm _ _ _),z⟩
theorem bU (O:Ord lt){n:Nat}(h:0<n):(run lt (kas_sort n)).size=n∧(run lt (kas_sort n)).Perm (List.range n).toArray∧Up lt (run lt (kas_sort n)) n:=by
 obtain⟨p,m,e,a,b,c,d,u⟩:=fc O (p:=(List.range n).toArray) (nrem:=n) h (by simp)
 unfold kas_sort
 rw[run_bind,e]
 dsimp only
 have hs:p.size=n:=by rw[c];simp
 by_cases hm:m<n
 ·rw[if_pos hm]
  have em:max m 1=m:=by omega
  rw[em]
  obtain⟨x,y,z⟩:=eg O (n-m) p m (by omega) (by omega) u
  refine⟨by rw[x,hs],y.trans d,?_⟩
  have e:m+(n-m)=n:=by omega
  rw[e] at z
  exact z
 ·rw[if_neg hm]
  have e:m=n:=by omega
  subst e
  exact⟨hs,d,u⟩
end SortA
namespace SortA
open PySem PySem.W PyProof.Rows
def xG {α:Type}(n:Nat)(P:α→Prop):KasT α→Prop
 |.ret a=>P a
 |.ask i j k=>i<n∧j<n∧∀b,xG n P (k b)
theorem xG.bind {α β:Type}{n:Nat}{P:α→Prop}{P':β→Prop}{f:α→KasT β}(h2:∀a,P a→xG n P' (f a)):∀t:KasT α,xG n P t→xG n P' (t.bind f)
 |.ret a,h=>h2 a h
 |.ask i j k,⟨a,b,c⟩=>⟨a,b,fun x=>xG.bind h2 (k x) (c x)⟩
def Bd (n:Nat)(p:Array Nat):Prop:=∀x∈p,x<n
theorem Bd.get {n:Nat}{p:Array Nat}(h:Bd n p)(hn:0<n)(i:Nat):p.getD i 0<n:=by
 by_cases hi:i<p.size
 ·have e:p.getD i 0=p[i]:=by simp[Array.getD,hi]
  rw[e];exact h _ (Array.getElem_mem hi)
 ·have e:p.getD i 0=0:=by simp[Array.getD,hi]
  rw[e];exact hn
theorem Bd.perm {n:Nat}{p q:Array Nat}(h:Bd n p)(e:q.Perm p):Bd n q:=fun x hx=>h x (e.mem_iff.mp hx)
theorem sy {n:Nat}{p:Array Nat}(B:Bd n p)(hn:0<n):∀f k,xG n (fun _=>True) (kas_asc p f k)
 |0,_=>trivial
 |f+1,k=>⟨B.get hn _,B.get hn _,fun b=>by
  cases b with
  |true=>exact trivial
  |false=>exact sy B hn f (k+1)⟩
theorem vq {n:Nat}(hn:0<n):∀f (p:Array Nat) k q,Bd n p→xG n (fun r:Array Nat×Nat×Nat=>Bd n r.1) (kas_desc f p k q)
 |0,_,_,_,B=>B
 |f+1,p,k,q,B=>⟨B.get hn _,B.get hn _,fun b=>by
  cases b with
  |true=>
   show xG n _ (if q > 0 then _ else _)
   split
   ·exact vq hn f _ _ _ (B.perm (yO _ _ _))
   ·exact vq hn f _ _ _ B
  |false=>
   refine⟨B.get hn _,B.get hn _,fun b=>?_⟩
   cases b with
   |true=>exact B
   |false=>exact vq hn f _ _ _ B⟩
theorem sq {n:Nat}{p:Array Nat}(B:Bd n p)(hn:0<n)(m r:Nat):xG n (fun r:Nat×Array Nat=>Bd n r.2) (kas_tail3 m r p):=by
 unfold kas_tail3
 refine xG.bind (P:=fun _=>True) (fun a _=>?_) _ (sy (B.perm (yO _ _ _)) hn _ _)
 exact B.perm (yO _ _ _)
theorem vM {n:Nat}{p:Array Nat}(B:Bd n p)(hn:0<n)(m r:Nat):xG n (fun r:Nat×Array Nat=>Bd n r.2) (kas_descPart m r p):=
 xG.bind (fun a ha=>by
  split
  ·exact sq (Bd.perm ha (yO _ _ _)) hn _ _
  ·exact sq ha hn _ _) _ (vq hn _ _ _ _ B)
theorem mE {n:Nat}{p:Array Nat}(B:Bd n p)(hn:0<n)(r:Nat):xG n (fun r:Nat×Array Nat=>Bd n r.2) (kas_count r p):=
 xG.bind (fun a _=>by
  split
  ·exact B
  ·split
   ·refine⟨B.get hn _,B.get hn _,fun b=>?_⟩
    cases b with
    |true=>exact B
    |false=>exact vM (B.perm (yO _ _ _)) hn _ _
   ·exact vM B hn _ _) _ (sy B hn _ _)
theorem vY {n:Nat}{p:Array Nat}(B:Bd n p)(hn:0<n)(k:Nat):∀f l r,xG n (fun _=>True) (kas_place p k f l r)
 |0,_,_=>trivial
 |f+1,l,r=>by
  show xG n _ (if l≥r then _ else _)
  split
  ·exact trivial
  ·refine⟨B.get hn _,B.get hn _,fun b=>?_⟩
   cases b with
   |true=>exact vY B hn k f _ _
   |false=>exact vY B hn k f _ _
theorem pP {n:Nat}(hn:0<n):∀f (p:Array Nat) k,Bd n p→xG n (fun _=>True) (kas_bin f p k)
 |0,_,_,_=>trivial
 |f+1,p,k,B=>xG.bind (fun l _=>pP hn f _ _ (B.perm (bubble_perm _ _ _))) _ (vY B hn k _ _ _)
theorem jg {n:Nat}(hn:0<n):xG n (fun _=>True) (kas_sort n):=
 xG.bind (fun a ha=>by
  split
  ·exact pP hn _ _ _ ha
  ·exact trivial) _ (mE (fun x hx=>by simpa using hx) hn n)
theorem wp_run {α:Type}{n:Nat}{P:α→Prop}{cmp:Nat→Nat→(Bool→Shared→Prop)→Shared→Prop}{lt:Nat→Nat→Bool}{Q:α→Shared→Prop}{s:Shared}(hc:∀i j C,i<n→j<n→C (lt i j) s→cmp i j C s):
  ∀t:KasT α,xG n P t→Q (run lt t) s→t.kasWp cmp Q s
 |.ret _,_,h=>h
 |.ask i j k,⟨a,b,c⟩,h=>hc i j _ a b (wp_run hc (k (lt i j)) (c _) h)
def lx (p q:Int×Int):Bool:=decide (p.1<q.1∨(p.1=q.1∧p.2<q.2))
def at2 (ps:List (Int×Int))(i:Nat):Int×Int:=ps.getD i (0,0)
theorem zj2 (ps:List (Int×Int)):Ord fun i j=>lx (at2 ps i) (at2 ps j) where
 irr:=fun a=>by simp[lx]
 tr:=fun a b c=>by
  unfold lx
  generalize at2 ps a=x;generalize at2 ps b=y;generalize at2 ps c=z
  simp only[zA6]
  omega
 asy:=fun a b=>by
  unfold lx
  generalize at2 ps a=x;generalize at2 ps b=y
  simp only[zA6,zx1]
  omega
theorem nF (ps:List (Int×Int))(h:0<ps.length):∃ix:List Nat,run (fun i j=>lx (at2 ps i) (at2 ps j)) (kas_sort ps.length)=ix.toArray∧ix.length=ps.length∧(∀i∈ix,i<ps.length)∧(ix.map (at2 ps)).Perm ps∧(ix.map (at2 ps)).Pairwise (fun p q=>lx q p=false):=by
 obtain⟨a,b,c⟩:=bU (zj2 ps) h
 generalize run (fun i j=>lx (at2 ps i) (at2 ps j)) (kas_sort ps.length)=r at a b c
 have e:(List.range ps.length).map (at2 ps)=ps:=by
  apply List.ext_getElem
  ·simp
  ·intro i h1 h2
   simp[at2,h2]
 have pl:r.toList.Perm (List.range ps.length):=by
  have:=Array.perm_iff_toList_perm.mp b
  simpa using this
 refine⟨r.toList,by simp,by simpa using a,fun i hi=>by simpa using pl.mem_iff.mp hi,?_,?_⟩
 ·have:=pl.map (at2 ps)
  rw[e] at this
  exact this
 ·rw[List.pairwise_map,List.pairwise_iff_getElem]
  intro i j hi hj hij
  have h1:j<r.size:=by simpa using hj
  have:=c i j (by omega) (by rw[←a];exact h1)
  have ei:g r i=r.toList[i]:=by
   have:i<r.size:=by omega
   simp[g,Array.getD,this]
  have ej:g r j=r.toList[j]:=by simp[g,Array.getD,h1]
  rw[ei,ej] at this
  exact this
end SortA
namespace L2
open PySem PySem.Spec PySem.Calls PySem.W PyProof.Rows SortA
section
variable {prog:Program}{w:World}{A:Around}{E:Value→Shared→Prop}{s:Shared}
def Prs (h:Heap):List Value→List (Int×Int)→Prop
 |[],[]=>True
 |v::vs,p::ps=>(∃a o t u n,v=.ref a∧h.get? a=some o∧o.cls=.type "tuple"∧o.data=.seq #[.int p.1 t,.int p.2 u] n)∧Prs h vs ps
 |_,_=>False
theorem Prs.len {h:Heap}:∀{vs:List Value} {ps:List (Int×Int)},Prs h vs ps→vs.length=ps.length
 |[],[],_=>rfl
 |[],_::_,h=>h.elim
 |_::_,[],h=>h.elim
 |_::_,_::_,⟨_,h⟩=>by simp[Prs.len h]
theorem Prs.at {h:Heap}:∀{vs:List Value} {ps:List (Int×Int)} (i:Nat),Prs h vs ps→i<ps.length→∃a o t u n,vs.getD i Value.none=.ref a∧h.get? a=some o∧o.cls=.type "tuple"∧o.data=.seq #[.int (at2 ps i).1 t,.int (at2 ps i).2 u] n
 |[],[],_,_,hi=>by simp at hi
 |[],_::_,_,h,_=>h.elim
 |_::_,[],_,h,_=>h.elim
 |_::_,_::_,0,⟨x,_⟩,_=>x
 |_::_,_::_,i+1,⟨_,r⟩,hi=>by
  obtain⟨a,o,t,u,n,e,q⟩:=Prs.at i r (by simpa using hi)
  exact⟨a,o,t,u,n,by simpa using e,q⟩
theorem Prs.tups {h:Heap}:∀{vs:List Value} {ps:List (Int×Int)},Prs h vs ps→∃fs:List Value,KatTups h vs fs∧fs.length=ps.length∧∀v∈fs,∃i t,v=.int i t
 |[],[],_=>⟨[],trivial,rfl,fun _ h=>by simp at h⟩
 |[],_::_,h=>h.elim
 |_::_,[],h=>h.elim
 |_::_,p::_,⟨⟨a,o,t,u,n,e,ho,hc,hd⟩,r⟩=>by
  obtain⟨fs,x,y,z⟩:=Prs.tups r
  subst e
  refine⟨.int p.1 t::fs,KatTups.cons ho hc hd (by simp) x,by simp[y],fun v hv=>?_⟩
  rcases zt4.mp hv with rfl|hv
  ·exact⟨_,_,rfl⟩
  ·exact z v hv
theorem fq {a b:Addr}{oa ob:Obj}{p q:Int×Int}{t u t' u':Tok}{n k:Nat}{Q:Bool→Shared→Prop}(ha:s.heap.get? a=some oa)(da:oa.data=.seq #[.int p.1 t,.int p.2 u] n)(hb:s.heap.get? b=some ob)(db:ob.data=.seq #[.int q.1 t',.int q.2 u'] k)
  (h:Q (lx p q) s):wpAny (model prog w) A (keyLt' (tuples' true) (.ref a) (.ref b)) Q E s:=by
 refine kat_lt ha da hb db (kat_cons (wpAny_eqBool_int ?_))
 by_cases e:p.1=q.1
 ·have e1:(p.1 == q.1)=true:=by simp[e]
  rw[e1]
  refine kat_yes (kat_cons (wpAny_eqBool_int ?_))
  by_cases e2:p.2=q.2
  ·have e3:(p.2 == q.2)=true:=by simp[e2]
   rw[e3]
   refine kat_yes (kat_nil ?_)
   have:lx p q=false:=by simp[lx,e,e2]
   rw[this] at h
   simpa using h
  ·have e3:(p.2 == q.2)=false:=by simp[e2]
   rw[e3]
   refine kat_no (kat_one _ _ (wpAny_lt_int ?_))
   have:lx p q=decide (p.2<q.2):=by simp[lx,e]
   rw[this] at h
   exact h
 ·have e1:(p.1 == q.1)=false:=by simp[e]
  rw[e1]
  refine kat_no (oneLt_int ?_)
  have:lx p q=decide (p.1<q.1):=by simp[lx,e]
  rw[this] at h
  exact h
theorem lJ {vs:List Value}{ps:List (Int×Int)}(h2:2≤vs.length)(P:Prs s.heap vs ps){R:Array Nat→Shared→Prop}(hr:∀ix:List Nat,ix.length=ps.length→(∀i∈ix,i<ps.length)→(ix.map (at2 ps)).Perm ps→(ix.map (at2 ps)).Pairwise (fun p q=>lx q p=false)→R ix.toArray s):
  wpAny (model prog w) A (keyKind' vs.toArray) (fun κ s'=>(kas_sort vs.length).kasWp (kas_ask prog w A κ vs) R s') (fun _ _=>False) s:=by
 obtain⟨fs,t,hl,hi⟩:=P.tups
 have hlen:=P.len
 refine kat_kind (T:=.type "int") t (by omega) (fun v hv=>?_) (by decide) ?_
 ·obtain⟨i,t,rfl⟩:=hi v hv
  exact .now
 ·have e:(Value.type "int" != Value.type "tuple")=true:=by decide
  rw[e]
  obtain⟨ix,e1,e2,e3,e4,e5⟩:=nF ps (by omega)
  rw[hlen]
  refine wp_run (n:=ps.length) (P:=fun _=>True) (lt:=fun i j=>lx (at2 ps i) (at2 ps j)) (fun i j C hi hj hC=>?_) _ (jg (by omega)) ?_
  ·obtain⟨a,o,t,u,n,ea,ha,_,da⟩:=P.at i hi
   obtain⟨b,o',t',u',n',eb,hb,_,db⟩:=P.at j hj
   unfold kas_ask
   rw[ea,eb]
   exact fq ha da hb db hC
  ·rw[e1];exact hr ix e2 e3 e4 e5
def Srt (vs:List Value)(ps:List (Int×Int))(out:List Value):Prop:=
 ∃ix:List Nat,out=ix.map (fun i=>vs.getD i Value.none)∧ix.length=ps.length∧(∀i∈ix,i<ps.length)∧(ix.map (at2 ps)).Perm ps∧(ix.map (at2 ps)).Pairwise (fun p q=>lx q p=false)
theorem Srt.len {vs:List Value}{ps:List (Int×Int)}{out:List Value}(h:Srt vs ps out):out.length=ps.length:=by
 obtain⟨ix,rfl,e,_⟩:=h
 simp[e]
end
inductive PrV (H:Hp):List V→List (Int×Int)→Prop where
 |nil:PrV H [] []
 |cons {a:Addr} {xs:List V} {p:Int×Int} {ps:List (Int×Int)}:H a=some (.tup [.int p.1,.int p.2])→PrV H xs ps→PrV H (.ref a::xs) (p::ps)
section
variable {X:Cx}{pins:List (Addr×Obj)}{σ:St}{H H':Hp}{s:Shared}
theorem PrV.len {xs:List V}{ps:List (Int×Int)}(h:PrV H xs ps):xs.length=ps.length:=by
 induction h with
 |nil=>rfl
 |cons _ _ ih=>simp[ih]
theorem PrV.keep {xs:List V}{ps:List (Int×Int)}(k:∀a p q,H a=some (.tup [.int p,.int q])→H' a=some (.tup [.int p,.int q]))(h:PrV H xs ps):PrV H' xs ps:=by
 induction h with
 |nil=>exact .nil
 |cons e _ ih=>exact .cons (k _ _ _ e) ih
theorem PrV.app {xs ys:List V}{ps qs:List (Int×Int)}(h:PrV H xs ps)(h':PrV H ys qs):PrV H (xs++ys) (ps++qs):=by
 induction h with
 |nil=>exact h'
 |cons e _ ih=>exact .cons e ih
theorem PrV.prs (I:Inv X pins σ H s):∀{xs:List V} {ps:List (Int×Int)} {us:List Value},PrV H xs ps→Vals xs us→Prs s.heap us ps:=by
 intro xs ps us h
 induction h generalizing us with
 |nil=>intro r;cases r;exact trivial
 |@cons a xs p ps e _ ih=>
  intro r
  cases r with
  |cons r rr=>
   cases (show _=Value.ref a from r)
   obtain⟨_,its,vi,o,ho,hc,n,hd⟩:=(show zY X.prog X.w H s.heap a (.tup [.int p.1,.int p.2]) from I.hok a _ e)
   obtain⟨u,v,rfl,⟨t,rfl⟩,⟨t',rfl⟩⟩:=Vals.two vi
   exact⟨⟨a,o,t,t',n,rfl,ho,hc,hd⟩,ih rr⟩
theorem pV {xs:List V}{us:List Value}(r:Vals xs us):∀i x,xs[i]?=some x→RelV x (us.getD i Value.none):=by
 induction r with
 |nil=>intro i x h;simp at h
 |cons e _ ih=>
  intro i x h
  cases i with
  |zero=>have h':=zv8 (by simpa using h);subst h';exact e
  |succ i=>exact ih i x (by simpa using h)
end
end L2
namespace Days
end Days
namespace L2
open PySem PySem.Spec PyProof.Rows Days
section
variable {X:Cx}{α:Ev}{e a b c tg:Expr}{pos p:Pos}{Q:PyData→Prop}{E:xp}{sts:List Stmt}
end
theorem gh (ds:List PyData):ds.filter (fun _=>true)=ds:=List.filter_eq_self.mpr fun _ _=>rfl
section
variable {X:Cx}{α:Ev}{tg:Expr}{pos p:Pos}{E:xp}{sts body:List Stmt}
def noE :Ev→Bool
 |[]=>true
 |some (.exc _ _)::_=>false
 |_::r=>noE r
end
def isNone :PyData→Bool
 |.none=>true
 |_=>false
theorem DV.non_iff {H:Hp}{x:V}{d:PyData}(h:DV H x d):decide (x=.non)=isNone d:=by
 cases h<;>simp[isNone]
abbrev eqS (d:PyData)(s:Str):Bool:=PyData.eqv d (.str s)
abbrev vb :PyData→Bool:=yn 0 1000000000000
def ur :PyData→Bool
 |.tuple [.int m,f]=>yn 2 14 (.int m)&&yn 1 (m-1) f
 |_=>false
def zG (w v:PyData):Bool:=
 if eqS w "price"=true then isNone v||vb v
 else if (eqS w "come"||eqS w "go")=true then isBool v
 else if (eqS w "least"||eqS w "most")=true then yn 1 14 v
 else if eqS w "deal"=true then isNone v||ur v
 else eqS w "fee"&&vb v
def xh :PyData→Bool
 |.tuple [w,a,b,v]=>yp (.tuple [a,b])&&zG w v
 |_=>false
abbrev words :List Str:=["price","come","go","least","most","deal","fee"]
theorem nY {x:Str}(h:(PyData.str x).canLay0=true):SeqAt.shaped (.str x)=true:=by
 unfold SeqAt.shaped
 rw[h]
 rfl
def kd :Sp:=fun vs H Q _=>∃x y dw dv,vs=[x,y]∧DV H x dw∧SeqAt.shaped dw=true∧DV H y dv∧Q (.bl (zG dw dv)) H
def eV :Sp:=fun vs H Q _=>∃x d,vs=[x]∧DV H x d∧SeqAt.shaped d=true∧∀H',zC H H'→Q (.bl (xh d)) H'
theorem qH {ds:List PyData}(h:SeqAt.shaped (.tuple ds)=true):∀d∈ds,SeqAt.shaped d=true:=by
 unfold SeqAt.shaped at h
 rw[zv1,zx1] at h
 obtain⟨h1,h2⟩:=h
 simp only[PyData.canLay0] at h1
 simp only[PyData.depth] at h2
 have key:∀(ds:List PyData),PyData.canLayAll0 ds=true→PyData.depthAll ds+1≤64→∀d∈ds,SeqAt.shaped d=true:=by
  intro ds
  induction ds with
  |nil=>intro _ _ d hd;simp at hd
  |cons e r ih=>
   intro a b d hd
   simp only[PyData.canLayAll0,zv1] at a
   simp only[PyData.depthAll] at b
   rcases zt4.mp hd with z|z
   ·subst z
    unfold SeqAt.shaped
    rw[a.1,zz6,zx1]
    omega
   ·exact ih a.2 (by omega) d z
 exact key ds h1 (by omega)
def wO (x y z:V):List (Str×V):=xI "worth" z (xI "last" y (xI "first" x []))
theorem fu :¬(("worth":Str)="last"):=by decide +kernel
theorem dN :¬(("worth":Str)="first"):=by decide +kernel
theorem gB :¬(("last":Str)="first"):=by decide +kernel
theorem sH (x y z:V):(wO x y z).lookup ("first":Str)=some x:=by
 unfold wO
 rw[zV,if_neg (fun e=>dN e.symm),zV,if_neg (fun e=>gB e.symm),zV,if_pos rfl]
theorem rV (x y z:V):(wO x y z).lookup ("last":Str)=some y:=by
 unfold wO
 rw[zV,if_neg (fun e=>fu e.symm),zV,if_pos rfl]
theorem mH (x y z:V):(wO x y z).lookup ("worth":Str)=some z:=by
 unfold wO
 rw[zV,if_pos rfl]
theorem cE (x y z:V){m:Str}(h1:¬m="worth")(h2:¬m="last")(h3:¬m="first"):(wO x y z).lookup m=none:=by
 unfold wO
 rw[zV,if_neg h1,zV,if_neg h2,zV,if_neg h3]
 rfl
structure Cs where
 price:Addr
 come:Addr
 go:Addr
 least:Addr
 most:Addr
 deal:Addr
 fee:Addr
def Cs.of (c:Cs)(w:Str):Addr:=
 if w="price" then c.price else if w="come" then c.come else if w="go" then c.go else if w="least" then c.least else if w="most" then c.most else if w="deal" then c.deal else c.fee
structure xT (K:PySem.W.Frag)(C fI fT fE fW:Addr):Prop where
 cl:Cls K C
 nf:yJ K C "first"
 nl:yJ K C "last"
 nw:yJ K C "worth"
 makes:Mk K C fI
 told:Meth K C "told" fT
 tells:Meth K C "tells" fE
 word:Meth K C "word" fW
def zb3 (C:Addr):Sp:=fun vs H Q _=>∃(p dx:Addr) (x y z:V),vs=[.ref p,x,y,z]∧H p=some (.ins C dx [])∧Q .non (upd H p (.ins C dx (wO x y z)))
def wG (w:Str):Sp:=fun vs H Q _=>∃p,vs=[.ref p]∧Q (.str w) H
def hV (C:Addr)(w:Str):Sp:=fun vs H Q _=>∃(p dx:Addr) (x y z:V),vs=[.ref p]∧H p=some (.ins C dx (wO x y z))∧∀q,H q=none→Q (.ref q) (upd H q (.tup [.str w,x,y,z]))
def ko (C:Addr):Sp:=fun vs H Q _=>∃(p dx:Addr) (a b day:Int) (z:V),vs=[.ref p,.int day]∧H p=some (.ins C dx (wO (.int a) (.int b) z))∧Q (.bl (decide (a≤day)&&decide (day≤b))) H
def fX (cs:Cs):Sp:=fun vs H Q _=>∃(w:Str) (x y z:V),vs=[.str w,x,y,z]∧w∈words∧∀(p dx:Addr) (H':Hp),H' p=some (.ins (cs.of w) dx (wO x y z))→H p=none→zC H H'→Q (.ref p) H'
def pI (cs:Cs):Sp:=fun vs H Q _=>∃x d,vs=[x]∧DV H x d∧SeqAt.shaped d=true∧(xh d=false→∀H',zC H H'→Q .non H')∧
 (∀(r:Addr) (w:Str) (x1 x2 x3:V) (p dx:Addr) (H':Hp),x=.ref r→xh d=true→w∈words→H r=some (.tup [.str w,x1,x2,x3])→H' p=some (.ins (cs.of w) dx (wO x1 x2 x3))→H p=none→zC H H'→Q (.ref p) H')
theorem wJ {d:PyData}{s:Str}(h:eqS d s=true):d=.str s:=by
 cases d with
 |str x=>
  have h':(x == s)=true:=h
  rw[eq_of_beq h']
 |_=>simp[PyData.eqv] at h
theorem pK {w v:PyData}(h:zG w v=true):∃s∈words,w=.str s:=by
 unfold zG at h
 split at h
 ·rename_i e;exact⟨"price",by simp[words],wJ e⟩
 ·split at h
  ·rename_i e
   rcases (zB2 _ _).mp e with e|e
   ·exact⟨"come",by simp[words],wJ e⟩
   ·exact⟨"go",by simp[words],wJ e⟩
  ·split at h
   ·rename_i e
    rcases (zB2 _ _).mp e with e|e
    ·exact⟨"least",by simp[words],wJ e⟩
    ·exact⟨"most",by simp[words],wJ e⟩
   ·split at h
    ·rename_i e;exact⟨"deal",by simp[words],wJ e⟩
    ·rw[zv1] at h;exact⟨"fee",by simp[words],wJ h.1⟩
theorem xS {d:PyData}(h:xh d=true):∃(s:Str) (a b v:PyData),s∈words∧d=.tuple [.str s,a,b,v]:=by
 unfold xh at h
 split at h
 ·rename_i w a b v
  rw[zv1] at h
  obtain⟨s,hs,rfl⟩:=pK h.2
  exact⟨s,a,b,v,hs,rfl⟩
 ·cases h
section
variable {X:Cx}
end
abbrev va (C:Addr)(fs:List (PyData×PyData)):PyData:=.dict ((.int (C:Nat),.none)::fs)
def tq :List (PyData×PyData)→Str→Option PyData
 |[],_=>none
 |(.str g,d)::r,f=>if f=g then some d else tq r f
 |_::r,f=>tq r f
theorem AVf.get {H:Hp}:∀{fs:List (Str×V)} {ds:List (PyData×PyData)} {f:Str} {d:PyData},AVf H fs ds→tq ds f=some d→∃v,fs.lookup f=some v∧AV H v d
 |_,_,f,d,.nil,e=>by cases e
 |_,_,f,d,.cons (f:=g) h r,e=>by
  rw[zw6]
  unfold tq at e
  by_cases z:f=g
  ·subst z
   rw[if_pos rfl] at e
   cases e
   exact⟨_,by simp,h⟩
  ·rw[if_neg z] at e
   have z':(f == g)=false:=by simpa using z
   rw[z']
   exact AVf.get r e
theorem AVf.none {H:Hp}:∀{fs:List (Str×V)} {ds:List (PyData×PyData)} {f:Str},AVf H fs ds→tq ds f=Option.none→fs.lookup f=Option.none
 |_,_,f,.nil,e=>rfl
 |_,_,f,.cons (f:=g) h r,e=>by
  rw[zw6]
  unfold tq at e
  by_cases z:f=g
  ·subst z
   rw[if_pos rfl] at e
   cases e
  ·rw[if_neg z] at e
   have z':(f == g)=false:=by simpa using z
   rw[z']
   exact AVf.none r e
theorem AV.ins_inv {H:Hp}{v:V}{C:Addr}{ds:List (PyData×PyData)}(h:AV H v (va C ds)):∃a dx fs,v=.ref a∧H a=some (.ins C dx fs)∧AVf H fs ds:=by
 generalize e:va C ds=d at h
 cases h with
 |@ins a C' dx fs ds' h1 h2=>
  injection e with e
  injection e with e1 e2
  have e3:(C:Int)=(C':Int):=by
   have:=congrArg Prod.fst e1
   injection this
  have e4:C=C':=Int.ofNat.inj e3
  subst e4 e2
  exact⟨a,dx,fs,rfl,h1,h2⟩
 |_=>cases e
section
variable {X:Cx}{α:Ev}{o e:Expr}{es:List Expr}{pos apos p:Pos}{Q:PyData→Prop}{C:Addr}{f m:Str}
theorem nB (c:Cls X.K C)(na:yJ X.K C f)(h:EvD X α o fun x=>∃fs d,x=va C fs∧tq fs f=some d∧Q d)(hb:attributeBase o f X.env (eval o X.env)=eval o X.env:=by rfl):EvD X α (.Attribute o f pos) Q:=fun F σ H R m k=>by
 refine⟨_,uD zr hb,?_⟩
 refine h F σ H _ m fun x vx H1 q1 t1 k1 r1=>?_
 obtain⟨fs,d,rfl,hf,q⟩:=q1
 obtain⟨a,dx,gs,rfl,h1,h2⟩:=r1.ins_inv
 obtain⟨v,hv,av⟩:=h2.get hf
 exact⟨a,C,dx,gs,v,rfl,(zm h1).2,c,na,hv,k d v H1 q t1 k1 av⟩
structure we (P:Program)(w:World)(K:PySem.W.Frag)(mg:Str→Option Value)(base:Heap)(C:Addr)(m:Str)(k:Nat)(φ:List A→(A→Prop)→Prop):Prop where
 ex:∃f fd ps,Cls K C∧Meth K C m f∧Binds K fd ps []∧zD P w K mg base CX0 k f fd ps (spA φ)
theorem wF {k:Nat}{φ:List A→(A→Prop)→Prop}{pl:Sem Bool}(M':we X.prog X.w X.K X.mg X.base C m k φ)(hr:zL k X.A)(h:EvD X α o fun x=>∃fs,x=va C fs∧tq fs m=none∧EvA X α (e::es) fun as=>φ (.dat (va C fs)::as) fun a=>Q a.d)
  (hst:starEach (e::es) X.env=(false,eval e X.env)::starEach es X.env:=by rfl) (hpl:(backTo pos (starEach es X.env)).any (·.1)=false:=by rfl)
  (ht:eval (.Call (.Attribute o m apos) (e::es) [] pos) X.env=(do
   let ov ←eval o X.env
   standAt apos.atName
   let (f,first) ←holding [ov] (getMethod ov m pl)
   callWith pos f first (backTo pos (starEach (e::es) X.env)) (backToKw pos (keywordEach [] X.env))):=by rfl):EvD X α (.Call (.Attribute o m apos) (e::es) [] pos) Q:=fun F σ H R m' kk=>by
 obtain⟨f,fd,ps,c,hm,hb,G⟩:=M'.ex
 refine⟨_,aq zr c hm G hr hb .nil zX yv hst hpl ht,?_⟩
 refine h F σ H _ m' fun x vx H1 q1 t1 k1 r1=>?_
 obtain⟨fs,rfl,hf,q⟩:=q1
 have m1:=m'.kz k1 t1
 obtain⟨a,dx,gs,rfl,h1,h2⟩:=r1.ins_inv
 refine⟨a,dx,gs,rfl,(zm h1).2,h2.none hf,?_⟩
 refine q F σ H1 _ m1 fun as vs H2 q2 t2 k2 r2=>?_
 have m2:=m1.kz k2 t2
 have cf:=xF (vs:=.ref a::vs) (as:=.dat (va C fs)::as) (R:=R) (E:=E0) m2 (.cons (r1.same (k2.gz m1.tp)) r2) q2 fun z v H' qa ra=>by
  obtain⟨g1,g2,g3⟩:=ra.back m2
  exact kk _ v H' qa g1 ((k1.trans k2).trans g2) g3
 exact cf
theorem sk {k:Nat}{φ:List A→(A→Prop)→Prop}{pl:Sem Bool}(M':we X.prog X.w X.K X.mg X.base C m k φ)(hr:zL k X.A)(h:EvD X α o fun x=>∃fs,x=va C fs∧tq fs m=none∧φ [.dat (va C fs)] fun a=>Q a.d)
  (ht:eval (.Call (.Attribute o m apos) [] [] pos) X.env=(do
   let ov ←eval o X.env
   standAt apos.atName
   let (f,first) ←holding [ov] (getMethod ov m pl)
   callWith pos f first (backTo pos (starEach [] X.env)) (backToKw pos (keywordEach [] X.env))):=by rfl):EvD X α (.Call (.Attribute o m apos) [] [] pos) Q:=fun F σ H R m' kk=>by
 obtain⟨f,fd,ps,c,hm,hb,G⟩:=M'.ex
 refine⟨_,oF zr c hm G hr hb .nil zX ht,?_⟩
 refine h F σ H _ m' fun x vx H1 q1 t1 k1 r1=>?_
 obtain⟨fs,rfl,hf,q⟩:=q1
 have m1:=m'.kz k1 t1
 obtain⟨a,dx,gs,rfl,h1,h2⟩:=r1.ins_inv
 refine⟨a,dx,gs,rfl,(zm h1).2,h2.none hf,?_⟩
 have cf:=xF (vs:=[.ref a]) (as:=[.dat (va C fs)]) (R:=R) (E:=E0) m1 (.cons r1 .nil) q fun z v H' qa ra=>by
  obtain⟨g1,g2,g3⟩:=ra.back m1
  exact kk _ v H' qa g1 (k1.trans g2) g3
 exact cf
def br (F:Fr)(v:V)(H':Hp)(d:PyData):Prop:=zQ F H'∧Kz F F.H0 H'∧AV (sub (fun x=>¬F.O0 x∧∀xs,F.H0 x≠some (.lst xs)) H') v d
def EvN (X:Cx)(α:Ev)(e:Expr)(Q:PyData→Prop):Prop:=∀(F:Fr) (σ:St) (H:Hp) (R:VK),M F α σ H→(∀d v H',Q d→zQ F H'→Kz F H H'→AV (sub (fun x=>¬Ow F α σ x∧∀xs,H x≠some (.lst xs)) H') v d→R v H')→uF X e σ H R
theorem EvN.d (h:EvN X α e Q):EvD X α e Q:=fun F σ H R m k=>h F σ H R m fun d v H' q t z r=>k d v H' q t z (r.same (zv fun a o h e=>⟨h.1,e⟩))
def spI (C:Addr)(φ:List A→(A→Prop)→Prop):Sp:=fun vs H Qc _=>∃(F:Fr) (as:List A) (Q:A→Prop) (x dx:Addr) (vs':List V) (H1:Hp),vs=.ref x::vs'∧H1 x=none∧H1 dx=none∧dx≠x∧H=upd (upd H1 dx (.own x)) x (.ins C dx [])∧
 F.H0=H1∧zQ F H1∧(∀y,F.O0 y→∃u,H1 y=some u∧wM u)∧ye F (sub (fun y=>¬F.O0 y) H1) vs' as∧φ as Q∧∀d H',Q (.dat d)→br F (.ref x) H' d→Qc .non H'
structure gC (P:Program)(w:World)(K:PySem.W.Frag)(mg:Str→Option Value)(base:Heap)(x:Str)(k:Nat)(dvs:List V)(φ:List A→(A→Prop)→Prop):Prop where
 ex:∃C f fd ps ds,mg x=some (.ref C)∧Mk K C f∧Binds K fd ps ds∧Vals dvs ds∧zD P w K mg base CX0 k f fd ps (spI C φ)
theorem nJ {F:Fr}{σ:St}{H:Hp}{vs:List V}{as:List A}{QA:A→Prop}{R:VK}{φ:List A→(A→Prop)→Prop}(m:M F α σ H)(rv:ye F (Gz F α σ H) vs as)(hφ:φ as QA)
  (kk:∀d v H',QA (.dat d)→br ⟨H,Ow F α σ,F.tp⟩ v H' d→R v H') {E:XK} (x dx:Addr) (hx:H x=none) (hdx:H dx=none) (hne:dx≠x):spI C φ (.ref x::vs) (upd (upd H dx (.own x)) x (.ins C dx [])) (fun v H2=>v=.non∧R (.ref x) H2) E:=by
 refine⟨⟨H,Ow F α σ,F.tp⟩,as,QA,x,dx,vs,H,rfl,hx,hdx,hne,rfl,rfl,?_,?_,?_,hφ,fun d H' qa ra=>⟨rfl,kk d _ H' qa ra⟩⟩
 ·exact m.tp.to rfl fun _ z=>.inl z
 ·exact fun y z=>m.owEx z
 ·exact ye.to (F:=F) (F':=⟨H,Ow F α σ,F.tp⟩) (fun _ _ e=>e) rfl rv
theorem br.back {F:Fr}{σ:St}{H H1 H':Hp}{v:V}{d:PyData}(m:M F α σ H)(k1:Kz F H H1)(h:br ⟨H1,Ow F α σ,F.tp⟩ v H' d):zQ F H'∧Kz F H1 H'∧AV (sub (fun x=>¬Ow F α σ x∧∀xs,H x≠some (.lst xs)) H') v d:=by
 obtain⟨t,kz,r⟩:=h
 refine⟨m.tp.re t rfl,kz,r.same (zv fun a o h e=>⟨⟨h.1,fun xs z=>h.2 xs (k1 _ _ z (m.tp.nt (ow0 h.1)))⟩,e⟩)⟩
theorem bV {k:Nat}{φ:List A→(A→Prop)→Prop}{x:Str}(M':gC X.prog X.w X.K X.mg X.base x k [] φ)(hr:zL (k+1) X.A)(hg:Gl X x)(h:EvA X α (e::es) fun as=>φ as fun a=>Q a.d)
  (hdb:(x == ("__debug__":Str))=false:=by decide) (he:starEach (e::es) X.env=(false,eval e X.env)::starEach es X.env:=by rfl) (hpl:(backTo pos (starEach es X.env)).any (·.1)=false:=by rfl):EvN X α (.Call (.Name x p) (e::es) [] pos) Q:=fun F σ H R m kk=>by
 obtain⟨C,f,fd,ps,ds,hm,hk,hb,hd,G⟩:=M'.ex
 cases hd
 refine⟨_,xN hk G hr hg hm hb .nil zX yv hdb he hpl,?_⟩
 refine h F σ H _ m fun as vs H1 q1 t1 k1 r1=>?_
 have m1:=m.kz k1 t1
 intro y dx hy hdx hne
 rw[zA3]
 refine nJ m1 r1 q1 (fun d v H' qa ra=>?_) y dx hy hdx hne
 obtain⟨g1,g2,g3⟩:=ra.back m k1
 exact kk d v H' qa g1 (k1.trans g2) g3
end
structure za7 (K:PySem.W.Frag)(x qual:Str)(st:Stmt)(dV:Value)(f:Addr)(fd:FuncData):Prop where
 ex:∃(oc:Value) (od:Option Addr) (kV doc pm:Value) (an:Option Addr) (cdv ct:Value) (osl:Array (Option Value)),
  fd=PySem.W.fnOf x qual (zN st) (zB st) (zc st) dV kV doc pm an cdv ct∧K.lookup f=some ⟨oc,od,.func fd,osl⟩∧PySem.W.codeIn K cdv qual=true
 kp:PySem.W.keepIn K (.ref f)=true
theorem bj {K:PySem.W.Frag}{x qual:Str}{st:Stmt}{f:Addr}{oc:Value}{od an:Option Addr}{osl:Array (Option Value)}{dV kV doc pm cdv ct:Value}(l:K.lookup f=some ⟨oc,od,.func (PySem.W.fnOf x qual (zN st) (zB st) (zc st) dV kV doc pm an cdv ct),osl⟩)
  (c:PySem.W.codeIn K cdv qual=true) (k:PySem.W.keepIn K (.ref f)=true):za7 K x qual st dV f (PySem.W.fnOf x qual (zN st) (zB st) (zc st) dV kV doc pm an cdv ct):=⟨⟨oc,od,kV,doc,pm,an,cdv,ct,osl,rfl,l,c⟩,k⟩
section
variable {P:Program}{w:World}{K:PySem.W.Frag}{mg:Str→Option Value}{base:Heap}
theorem zk2 {qual:Str}{st:Stmt}{f C:Addr}{dV:Value}{fd:FuncData}{N:List Str}{x:Str}{k:Nat}{φ:List A→(A→Prop)→Prop}{fl:Str}{e:Expr}{p1 p2 p3:Pos}(G:za7 K "__init__" qual st dV f fd)(S:zp ("self"::x::N) ["self",x] (zc st))(c:Cls K C)(na:yJ K C fl)
  (hb:zB st=[.Assign [.Attribute (.Name "self" p1) fl p2] e p3]) (hlen:∀as Q,φ as Q→as.length=1)
  (hbody:∀(cdv:Value) (A':Around) (outer:List Env) (s:Shared) (H:Hp) (E:XK) (as:List A) (Q:A→Prop),zL k (A'.deeper (envOfC qual (zc st) s.heap.objs.size f cdv))→φ as Q→
   EvL (xB CX0 P w K mg base ("self"::x::N) qual (zc st) f cdv A' outer s H E).nox (none::as.map some++List.replicate N.length none) e fun ds=>xJ ds=true∧Q (.dat (va C [(.str fl,.list ds)])))
  (hsw:∀(cdv:Value) (A':Around) (outer:List Env) (s:Shared) (H:Hp) (E:XK),swapsWith e (some (.Attribute (.Name "self" p1) fl p2)) p3.line (xB CX0 P w K mg base ("self"::x::N) qual (zc st) f cdv A' outer s H E).nox.env=pure false)
  (hv:Vis (zc st) "self"):zD P w K mg base CX0 (k+1) f fd ["self",x] (spI C φ):=by
 obtain⟨oc,od,kV,doc,pm,an,cdv,ct,osl,rfl,lk,hcd⟩:=G.ex
 refine kH lk hcd S (fun vs H Q E h=>?_) fun A' outer s H vs Qc E hr h=>?_
 ·obtain⟨F,as,Q',y,dx,vs',H1,rfl,_,_,_,_,_,_,_,rv,hφ,_⟩:=h
  rw[zu5,rv.length,hlen as _ hφ]
  rfl
 ·obtain⟨F,as,Q',y,dx,vs',H1,rfl,hy,hdx,hne,rfl,rfl,t,o,rv,hφ,kk⟩:=h
  have hl:=rv.length
  have hl1:=hlen as _ hφ
  rw[hb]
  refine⟨_,(show PSs _ _ _ from (zA (qP (X:=(xB CX0 P w K mg base ("self"::x::N) qual (zc st) f cdv A' outer s (upd (upd F.H0 dx (.own y)) y (.ins C dx [])) E).nox) (yy (i:=0) rfl hv) zr (hsw cdv A' outer s _ E))).nox),?_⟩
  let F2:Fr:=⟨F.H0,fun z=>F.O0 z∨z=y∨z=dx,F.tp⟩
  have s1:zC F.H0 (upd (upd F.H0 dx (.own y)) y (.ins C dx [])):=fun a u q=>by
   rw[zd (zo q hy),zd (zo q hdx)];exact q
  have noy:¬F.O0 y:=fun z=>by obtain⟨u,hu,_⟩:=o y z;rw[hy] at hu;cases hu
  have nodx:¬F.O0 dx:=fun z=>by obtain⟨u,hu,_⟩:=o dx z;rw[hdx] at hu;cases hu
  have t2:zQ F2 (upd (upd F.H0 dx (.own y)) y (.ins C dx [])):=(t.same s1).to rfl fun _ z=>.inl z
  -- the names of the body
  have g:∀{i:Nat} {a:A},(none::as.map some++List.replicate N.length none:Ev)[i]?=some (some a)→∃j,i=j+1∧as[j]?=some a:=fun {i a} h=>by
   cases i with
   |zero=>simp at h
   |succ j=>
    refine⟨j,rfl,?_⟩
    have h':(as.map some++List.replicate N.length none:Ev)[j]?=some (some a):=by simpa using h
    rcases zA9 j as.length with z|z
    ·rw[zv3 (by rw[zt1];exact z),zu7,zw1] at h'
     obtain⟨b,h1,h2⟩:=h'
     cases h2;exact h1
    ·rw[zw0 (by rw[zt1];exact z),zy8] at h'
     split at h'<;>cases h'
  have at':∀{vs:List V} {as:List A} {i:Nat} {a:A},ye F (sub (fun x=>¬F.O0 x) F.H0) vs as→as[i]?=some a→∃v,vs[i]?=some v∧jL F (sub (fun x=>¬F.O0 x) F.H0) v a:=by
   intro vs as i a h
   induction h generalizing i with
   |nil=>intro e;simp at e
   |cons h r ih=>
    intro e
    cases i with
    |zero=>simp at e;subst e;exact⟨_,rfl,h⟩
    |succ i=>obtain⟨v,h1,h2⟩:=ih (by simpa using e);exact⟨v,by simpa using h1,h2⟩
  have gv:∀{j:Nat} {v:V},vs'[j]?=some v→(L2.start ("self"::x::N) (.ref y::vs'))[j+1]?=some (some v):=fun {j v} h=>by
   have hj:j<vs'.length:=(zt5.mp h).1
   unfold L2.start
   rw[zv3 (by rw[zt1,zu5];omega),zu7,zD0,h];rfl
  have no:∀(i:Nat) a,(none::as.map some++List.replicate N.length none:Ev)[i]?=some (some a)→(∃d,a=.dat d)∨a=.tape:=fun i a z=>by
   obtain⟨j,_,hj⟩:=g z
   obtain⟨v,_,h⟩:=at' rv hj
   cases a with
   |dat d=>exact .inl ⟨d,rfl⟩
   |tape=>exact .inr rfl
   |_=>exact h.elim
  have gs:zC (sub (fun x=>¬F.O0 x) F.H0) (Gz F2 (none::as.map some++List.replicate N.length none) (L2.start ("self"::x::N) (.ref y::vs')) (upd (upd F.H0 dx (.own y)) y (.ins C dx []))):=fun a u q=>by
   obtain⟨z1,z2⟩:=zm q
   refine zF ?_ (s1 _ _ z2)
   rintro ((z|z|z)|⟨i,b,s,e,_,f⟩)
   ·exact z1 z
   ·rw[z,hy] at z2;cases z2
   ·rw[z,hdx] at z2;cases z2
   ·rcases no i b e with ⟨d,rfl⟩|rfl
    ·exact f.elim
    ·exact f.elim
  have m2:M F2 (none::as.map some++List.replicate N.length none) (L2.start ("self"::x::N) (.ref y::vs')) (upd (upd F.H0 dx (.own y)) y (.ins C dx [])):=by
   refine⟨by unfold L2.start;simp[hl,hl1],fun i a s e1 e2=>?_,fun i j a b s t x e1 _ _ _ f=>?_,fun i r q z=>(by rcases no i _ z with ⟨d,w⟩|w<;>cases w),t2,fun z u h _=>s1 z u h,fun z hz=>?_⟩
   ·obtain⟨j,rfl,hj⟩:=g e1
    obtain⟨v,h1,h2⟩:=at' rv hj
    rw[gv h1] at e2;cases e2
    rcases no _ a e1 with ⟨d,rfl⟩|rfl
    ·exact⟨v,rfl,AV.same gs h2⟩
    ·obtain⟨t',b,c,h3,rfl⟩:=h2
     exact⟨t',b,c,h3,rfl⟩
   ·rcases no i a e1 with ⟨d,rfl⟩|rfl
    ·exact f.elim
    ·exact f.elim
   ·rcases hz with q|q|q
    ·obtain⟨u,hu,hn⟩:=o z q
     exact⟨u,s1 _ _ hu,hn⟩
    ·exact⟨_,by rw[q];exact zk,fun _ q=>by cases q⟩
    ·exact⟨_,by rw[q,zd hne];exact zk,fun _ q=>by cases q⟩
  refine hbody cdv A' outer s _ E as Q' hr hφ F2 _ _ _ m2 fun d v H2 qd t3 k3 r3=>?_
  obtain⟨l,xs,rfl,hl0,hl2,avl⟩:=r3
  obtain⟨nol,qd⟩:=qd
  have nly:l≠y:=fun z=>by rw[z,zk] at hl0;cases hl0
  have nldx:l≠dx:=fun z=>by rw[z,zd hne,zk] at hl0;cases hl0
  have hl00:F.H0 l=none:=by rw[zd nly,zd nldx] at hl0;exact hl0
  have nol0:¬F.O0 l:=fun z=>by obtain⟨u,hu,_⟩:=o l z;rw[hl00] at hu;cases hu
  have nty:NT F2 y:=t.nt noy
  have hy2:H2 y=some (.ins C dx []):=k3 _ _ zk nty
  refine⟨.ref y,rfl,y,C,dx,[],rfl,hy2,c,na,by show 0<1000;decide,?_⟩
  refine kk _ _ qd ⟨(t.re t3 rfl).updO noy (jP hy2),fun z u h n=>?_,?_⟩
  ·rw[zd (zo h hy)]
   exact k3 _ _ (s1 _ _ h) n
  ·refine AV.ins (zF ⟨noy,fun xs z=>by rw[hy] at z;cases z⟩ zk) (.cons (.lst (zF ⟨nol0,fun xs z=>by rw[hl00] at z;cases z⟩ (by rw[zd nly];exact hl2)) ?_) .nil)
   refine avl.noL (fun a u hno z=>?_) nol
   obtain⟨z1,z2⟩:=zm z
   have na:a≠y:=fun w=>z1.1 (.inl (.inr (.inl w)))
   refine zF ⟨fun w=>z1.1 (.inl (.inl w)),fun xs w=>?_⟩ (by rw[zd na];exact z2)
   have:H2 a=some (.lst xs):=k3 _ _ (s1 _ _ w) (t.nt fun w=>z1.1 (.inl (.inl w)))
   rw[z2] at this
   cases this
   exact hno trivial
end
section
variable {X:Cx}{α:Ev}{e e':Expr}{pos:Pos}{E:xp}{sts:List Stmt}
end
def Itv (K:PySem.W.Frag)(a:Addr)(n:Nat):It:=
 ⟨fun i H=>∃xs x,SqL K H a xs∧xs.length=n∧i<n∧xs[n-1-i]?=some x,fun i H x H'=>H'=H∧∀xs,SqL K H a xs→xs[n-1-i]?=some x,fun i H=>n≤i⟩
theorem cn {P:Program}{w:World}{K:PySem.W.Frag}{tg:Expr}(a it:Addr)(n:Nat):Turn P w K tg (Itv K a n) [it] it (fun i h=>i≤n∧h.IsRevIter it a ((n:Int)-1-(i:Int))) where
 mem:=by simp
 obj:=fun i h st b hb=>by
  have e:b=it:=by simpa using hb
  subst e
  obtain⟨_,o,e,c,d⟩:=st
  exact⟨o,e,fun v z=>by rw[d] at z;cases z⟩
 keep:=fun i h h' st k=>⟨st.1,st.2.at fun o e=>k it (by simp) o e⟩
 item:=by
  intro X hP hw hK hc i pins s σ H E I hf st hg
  subst hP hw hK
  obtain⟨xs,x,hq,hl,hi,hx⟩:=hg
  obtain⟨its,rv,p,hz⟩:=I.list hq
  obtain⟨u,hu,ru⟩:=rv.get hx
  obtain⟨f0,f1,f2,f3,f4,f5⟩:=hf it (by simp)
  have e1:((n:Int)-1-(i:Int))=((n-1-i:Nat):Int):=by omega
  have st':=st.2
  rw[e1] at st'
  refine wpAny_pyNext_rev_item st' p.isList (x:=u) (by simpa using hu) fun h' st2 sb=>?_
  have I1:Inv X pins σ H {s with heap:=h'}:=I.turned (t':=s.toks) (fun b o hb e=>(sb.2 b hb).trans e) f0 f1 f3 f4 f5
  obtain⟨o,e,c,d⟩:=id st2
  have e2:(((n-1-i:Nat):Int)-1)=(n:Int)-1-((i+1:Nat):Int):=by omega
  rw[e2] at st2
  exact⟨u,rfl,du (s:={s with heap:=h'}) e c d (by decide) ⟨x,H,I1,ru,⟨rfl,fun ys hy=>by rw[I.list_inj hy hq];exact hx⟩,⟨hi,st2⟩,fun b hb=>(hf b hb).1⟩⟩
 done:=by
  intro X hP hw hK hc i pins s σ H E I hf st hg
  subst hP hw hK
  have hi:i=n:=Nat.le_antisymm st.1 hg
  obtain⟨f0,f1,f2,f3,f4,f5⟩:=hf it (by simp)
  have st':=st.2
  rw[show ((n:Int)-1-(i:Int))=-1 by omega] at st'
  exact wpAny_pyNext_rev_end (I.ok.hd hc) st' fun h' eb=>⟨rfl,I.turned (t':=s.toks) (fun b o hb e=>eb b o hb e) f0 f1 f3 f4 f5⟩
 self:=fun A i s Q E st h=>wpAny_pyIter_revIter st.2 h
section
variable {X:Cx}{α:Ev}{tg:Expr}{p pos:Pos}{a:Expr}
def zq5 (K:PySem.W.Frag)(ta:TA):TI:=fun σ H R=>ta σ H fun vs H1=>∃l xs,vs=[.ref l]∧SqL K H1 l xs∧R (Itv K l xs.length) H1
theorem zi3 {ta:TA}(hg:Gl X "reversed")(hm:X.mg "reversed"=none)(ha:PA X [a] ta)(hs:starEach [a] X.env=[(false,eval a X.env)]:=by rfl):PI X tg (.Call (.Name "reversed" p) [a] [] pos) (zq5 X.K ta):=by
 intro pins s σ H R I h
 refine Call_ (xx I hg hm boot_reversed (zx3 (thn (ha pos pins s σ H _ I h) fun us s1 ⟨vs,H1,I1,r1,q1⟩=>?_) hs rfl))
 obtain⟨l1,xs,e,hq1,q⟩:=q1
 subst e
 obtain⟨u,rfl,ru⟩:=Vals.one r1
 cases (show u=Value.ref l1 from ru)
 obtain⟨its1,rv1,p1,hz1⟩:=I1.list hq1
 have hlen:=rv1.length
 refine call_reversed_list p1.isList ?_
 have it0:({s1 with heap:=s1.heap.push (revObj l1 ((its1.toArray.size:Int)-1))}:Shared).heap.IsRevIter s1.heap.objs.size l1 ((xs.length:Int)-1-((0:Nat):Int)):=by
  refine⟨_,zu0 _ rfl,rfl,?_⟩
  show Data.fields _=_
  rw[zu2,hlen]
  simp
 refine wpAny_pyIter_revIter it0 ?_
 refine⟨_,_,_,_,H1,rfl,I1.kept (t':=s1.toks) fun b o e=>zt0 _ e,cn l1 _ xs.length,⟨zu6 _,it0⟩,fun b hb=>?_,q⟩
 have e:b=s1.heap.objs.size:=by simpa using hb
 subst e
 exact I1.fpOk (zt8 _) (I1.hok.fresh (zt8 _))
theorem zj4 {Q:List PyData→Prop}(hg:Gl X "reversed")(hm:X.mg "reversed"=none)(h:EvD X α a fun x=>∃ds,x=.list ds∧Q ds.reverse)(hs:starEach [a] X.env=[(false,eval a X.env)]:=by rfl):
  EvI X α tg (.Call (.Name "reversed" p) [a] [] pos) Q:=fun F σ H R m k=>by
 refine⟨_,zi3 hg hm (zf zr zu hs) hs,?_⟩
 refine h F σ H _ m fun x vx H1 q1 t1 k1 r1=>?_
 obtain⟨ds,rfl,q⟩:=q1
 obtain⟨l1,xs,rfl,g1,g2⟩:=r1.lst_inv
 refine⟨l1,xs,rfl,SqL.of (zm g1).2,k _ _ H1 q t1 k1 fun i H3 p s=>⟨fun d hd=>?_,fun hl=>?_⟩⟩
 ·have s1:=SqL.of (K:=X.K) (zm (s _ _ g1)).2
  have hi:i<ds.length:=by
   have:=(zt5.mp hd).1
   rwa [zF3] at this
  rw[List.getElem?_reverse hi] at hd
  obtain⟨x1,hx1,av1⟩:=g2.get hd
  rw[←g2.length] at hx1
  refine⟨⟨xs,x1,s1,rfl,by rw[g2.length];exact hi,hx1⟩,fun v H4 y=>?_⟩
  obtain⟨rfl,hy⟩:=y
  have:=hy _ s1
  rw[hx1] at this;cases this
  exact⟨zC.refl _,fun _=>av1.same s⟩
 ·rw[zF3,←g2.length] at hl
  exact hl
end
def EnS (w:World):List DictEntry→List (Str×V)→Prop:=Paired fun e p=>e.hash=hashStr w p.1∧(∃t,e.key=.str p.1 t)∧RelV p.2 e.val
def kG (K:PySem.W.Frag)(w:World)(d:Addr)(tb:List (Str×V)):Prop:=
 ∃es n,K.lookup d=some ⟨.type "dict",none,.dict es n,#[]⟩∧EnS w es.toList tb∧(tb.map (·.1)).Nodup
theorem rP {P:Program}{w:World}:∀{es:List DictEntry} {tb:List (Str×V)},EnS w es tb→Pairs (PySem.strKind P w) es (List.zipWith (fun e (p:Str×V)=>(p.1,e.val)) es tb)
 |_,_,.nil=>.nil
 |e::_,p::_,.cons ⟨_,⟨t,ek⟩,_⟩ r=>.cons (by rw[ek];simp[PySem.strKind,Value.isStrOf]) rfl (rP r)
theorem lW {w:World}:∀{es:List DictEntry} {tb:List (Str×V)},EnS w es tb→(List.zipWith (fun e (p:Str×V)=>(p.1,e.val)) es tb).map (·.1)=tb.map (·.1)
 |_,_,.nil=>rfl
 |_,_,.cons _ r=>by simp only[List.zipWith_cons_cons,zx0,lW r]
theorem oU {P:Program}{w:World}:∀{es:List DictEntry} {tb:List (Str×V)},EnS w es tb→∀e∈es,∃k,(PySem.strKind P w).is k e.key=true∧e.hash=(PySem.strKind P w).hash k
 |_,_,.nil,e,he=>by simp at he
 |_,_,.cons (b:=p) ⟨h1,⟨t,ek⟩,_⟩ r,e,he=>by
  rcases zt4.mp he with rfl|he
  ·exact⟨p.1,by rw[ek];simp[PySem.strKind,Value.isStrOf],h1⟩
  ·exact oU r e he
theorem lZ {w:World}{x:Str}{v:V}:∀{es:List DictEntry} {tb:List (Str×V)},EnS w es tb→tb.lookup x=some v→∃u,valueAt (List.zipWith (fun e (p:Str×V)=>(p.1,e.val)) es tb) x=some u∧RelV v u
 |_,_,.nil,e=>by simp at e
 |e::es,p::tb,.cons ⟨_,_,rv⟩ r,h=>by
  obtain⟨y,z⟩:=p
  by_cases q:x=y
  ·subst q
   simp only[List.lookup_cons_self,Option.some.injEq] at h
   subst h
   exact⟨e.val,by simp[valueAt],rv⟩
  ·rw[zw6,zC9.mpr q] at h
   obtain⟨u,h1,h2⟩:=lZ r h
   refine⟨u,?_,h2⟩
   rw[←h1]
   simp[valueAt,zz1,zw4 q]
section
variable {X:Cx}{α:Ev}{p pos:Pos}{a:Expr}{g:Str}{Q:PyData→Prop}
def zb5 (i:Expr):Prop:=∀ov iv,subscripted i false ov iv=operate [ov,iv] (getItem ov iv)
theorem zs7 {prog:Program}{w:World}{A:Around}{E:Value→Shared→Prop}{s:Shared}{env:Env}{value slice:Expr}{pos:Pos}{T id:String}{Q:Value→Shared→Prop}
  (hl:typeLookup (.type T) "__getitem__"=pure (some (.builtin id))) (hs:zb5 slice)
  (h:wpAny (model prog w) A (eval value env) (fun o s₁=>wpAny (model prog w) A (eval slice env) (fun i s₂=>s₂.TypeIs o T∧wpAny (model prog w) A (getItem o i) Q E s₂) E s₁) E s):
  wpAny (model prog w) A (eval (.Subscript value slice pos) env) Q E s:=by
 refine Subscript_ (thn h fun o s₁ h₁=>thn h₁ fun i s₂ h₂=>?_)
 obtain⟨hT,h₂⟩:=h₂
 unfold subscriptTail
 refine zs9 ?_
 rw[getitemInPython_of_ne hT.not_modules]
 refine zs9 (wpAny_specialOf hT hl ?_)
 have fin:wpAny (model prog w) A (subscripted slice false o i) (fun r s₃=>wpAny (model prog w) A (letTemporaryGo value o r >>= fun _=>pure r) Q E s₃) E s₂:=by
  rw[hs o i]
  exact wpAny_operating (thn h₂ fun r s₃ h₃=>zs9 (wpAny_letTemporaryGo (zt2 h₃)))
 first
  |exact zt2 (zs9 fin)
  |exact zs9 (zt2 (zs9 fin))
  |exact zs9 fin
theorem eI {d:Addr}{tb:List (Str×V)}{ty:TE}(hg:Gl X g)(hm:X.mg g=some (.ref d))(hd:kG X.K X.w d tb)(hi:PE X a ty)(hs:zb5 a)(hb:(g == ("__debug__":Str))=false:=by decide):
  PE X (.Subscript (.Name g p) a pos) (fun σ H Q=>ty σ H fun y H1=>∃x v,y=.str x∧tb.lookup x=some v∧Q v H1):=by
 intro pins s σ H Q I h
 refine zs7 PySem.F.slot_dict_getitem.lookup hs (xK I hg hm (thn (hi pins s σ H _ I h) fun iv s2 ⟨y,H2,I2,ry,x,v,ey,ex,q2⟩=>?_) hb)
 subst ey
 obtain⟨t,rfl⟩:=ry
 obtain⟨es,n,hl,he,hn⟩:=hd
 have dd:s2.heap.DictOf (PySem.strKind X.prog X.w) d (List.zipWith (fun e (p:Str×V)=>(p.1,e.val)) es.toList tb):=
  ⟨_,es,n,I2.kIn _ _ hl,⟨rfl,rfl,rfl⟩,rfl,fun e he'=>oU he e (by simpa using he'),rP he,by rw[lW he];exact hn⟩
 obtain⟨u,h1,h2⟩:=lZ he ex
 exact⟨dd.typeIs,wpAny_getItem_of (show (PySem.strKind X.prog X.w).is x (.str x t)=true by simp[PySem.strKind,Value.isStrOf]) dd.mapOf h1 ⟨v,H2,I2.tok _,h2,q2⟩⟩
def scV :PyData→Option V
 |.none=>some .non
 |.bool b=>some (.bl b)
 |.int i=>some (.int i)
 |.str x=>some (.str x)
 |_=>Option.none
theorem zf0 {H:Hp}{d:PyData}{v:V}(h:scV d=some v):AV H v d:=by
 cases d<;>simp[scV] at h<;>subst h<;>constructor
theorem eo {d:Addr}{tb:List (Str×V)}(hg:Gl X g)(hm:X.mg g=some (.ref d))(hd:kG X.K X.w d tb)(h:EvD X α a fun y=>∃x d v,y=.str x∧tb.lookup x=some v∧scV d=some v∧Q d)(hs:zb5 a:=by exact fun _ _=>rfl)
  (hb:(g == ("__debug__":Str))=false:=by decide):EvD X α (.Subscript (.Name g p) a pos) Q:=fun F σ H R m k=>by
 refine⟨_,eI hg hm hd zr hs hb,?_⟩
 refine h F σ H _ m fun y vy H1 q1 t1 k1 r1=>?_
 obtain⟨x,d',v,rfl,h1,h2,q⟩:=q1
 cases r1.str_inv
 exact⟨x,v,rfl,h1,k _ _ H1 q t1 k1 (zf0 h2)⟩
end
section
variable {X:Cx}{α:Ev}{p pos:Pos}{a b:Expr}{g:Str}{Q:PyData→Prop}
def uv :PyData→Bool
 |.none=>true
 |.bool _=>true
 |.int _=>true
 |.str _=>true
 |_=>false
theorem qD {H:Hp}{v:V}{d:PyData}(h:AV H v d)(f:uv d=true):vL v=true∧scV d=some v:=by
 cases h<;>first|exact⟨rfl,rfl⟩|cases f
theorem su {H:Hp}:∀{xs:List V} {ds:List PyData},AVs H xs ds→ds.all uv=true→xs.all vL=true∧ds.map scV=xs.map some
 |_,_,.nil,_=>⟨rfl,rfl⟩
 |_,_,.cons h r,f=>by
  rw[zI6,zv1] at f
  obtain⟨h1,h2⟩:=qD h f.1
  obtain⟨h3,h4⟩:=su r f.2
  exact⟨by rw[zI6,h1,h3];rfl,by rw[zx0,zx0,h2,h4]⟩
def inD (x:PyData)(ds:List PyData):Bool:=ds.any fun y=>match scV y,scV x with
 |some u,some v=>eqV u v
 |_,_=>false
theorem qG {v:V}{x:PyData}(hx:scV x=some v):∀{xs:List V} {ds:List PyData},ds.map scV=xs.map some→inV v xs=inD x ds
 |[],[],_=>rfl
 |[],_::_,e=>by cases e
 |_::_,[],e=>by cases e
 |u::xs,d::ds,e=>by
  rw[zx0,zx0] at e
  injection e with e1 e2
  have ih:=qG hx e2
  unfold inV inD at ih ⊢
  rw[zI7,zI7,ih,e1,hx]
theorem ze6 {neg:Bool}{x:PyData}{ds:List PyData}(fx:uv x=true)(fs:ds.all uv=true):Cmp (rIn X.K neg) x (.list ds) (if neg then !inD x ds else inD x ds):=fun p H vx vy R rx ry h=>by
 obtain⟨ad,xs,rfl,g1,g2⟩:=ry.lst_inv
 obtain⟨f1,s1⟩:=qD rx fx
 obtain⟨f2,s2⟩:=su g2 fs
 refine⟨ad,xs,rfl,.inl (SqL.of (zm g1).2),f1,f2,?_⟩
 rw[qG s1 s2]
 exact h
theorem bx {neg:Bool}{x:PyData}{ds:List PyData}(fx:uv x=true)(fs:ds.all uv=true):Cmp (rIn X.K neg) x (.tuple ds) (if neg then !inD x ds else inD x ds):=fun p H vx vy R rx ry h=>by
 obtain⟨ad,xs,rfl,g1,g2⟩:=ry.tup_inv
 obtain⟨f1,s1⟩:=qD rx fx
 obtain⟨f2,s2⟩:=su g2 fs
 refine⟨ad,xs,rfl,.inr (SqT.of (zm g1).2),f1,f2,?_⟩
 rw[qG s1 s2]
 exact h
theorem za1 {Q:Bool→Prop}(h:EvD X α a fun x=>EvD X α b fun y=>∃ds,(y=.list ds∨y=.tuple ds)∧uv x=true∧ds.all uv=true∧Q (inD x ds))(hm:behindInMarks .In b=false:=by rfl):EvT X α (.Compare a [.In] [b] pos) Q:=
 vX jV hm (h.imp fun x h=>h.imp fun y ⟨ds,e,f1,f2,q⟩=>⟨inD x ds,by rcases e with rfl|rfl;exact ze6 (neg:=false) f1 f2;exact bx (neg:=false) f1 f2,q⟩)
end
section
variable {X:Cx}{α:Ev}{p pos:Pos}{a b:Expr}{Q:PyData→Prop}
end
section
variable {X:Cx}{α:Ev}{a e:Expr}{pos p2 p3 p4:Pos}{n1:Nat}{te:TE}
end
def iS (T:Addr)(H:Hp):Prop:=∀b:Addr,H b=none∨b=T∨∃o xs,H b=some (.frz o (.lst xs))
theorem jF {P:Program}{w:World}{K:PySem.W.Frag}{mg mb:Str→Option Value}{CX:CXT}{k:Nat}{fa a T:Addr}{fd:FuncData}{x:Str}{sp:Sp}{s₁:Shared}{vs:List Value}{ns:List Int}{ps:Array Value}
  (KX:K.In s₁.heap) (hns:s₁.heap.Ns mainGlobals mg) (hb:s₁.heap.Ns builtinsNs mb) (hbb:∀x:Str,x≠"__name__"→mb x=bootBuiltins x) (hlim:s₁.heap.NoLimit) (hg:s₁.gens=#[])
  (ha:s₁.heap.get? a=some {cls:=.type "list",data:=.seq vs.toArray}) (hi:IntsAre vs ns) (hl:ns.length≤sizeLine) (hr:zL k callerA)
  (hT:s₁.heap.get? T=some (PySem.W.tabObj ps)) (hKT:K.lookup T=none) (hct:isCodeTable s₁.heap T)
  (hbm:∃bm ob,mg "__builtins__"=some (.ref bm)∧bm≠builtinsNs∧s₁.heap.get? bm=some ob∧ob.cls=.type "module"∧ob.dict=some builtinsNs∧ob.data=.plain)
  (F:∀base:Heap,K.In base→base.Ns mainGlobals mg→base.BuiltinsAt mg T→zD P w K mg base CX k fa fd [x] sp) (hbind:∀(s:Shared) (u:Value),BindsTo s fd ⟨[u],[]⟩ [(x,u)])
  (hsp:∀H:Hp,iS T H→H T=some (.tbl ps)→SqL K H a (ns.map V.int)→sp [.ref a] H (fun v _=>v=.bl true) fun _ _ _=>False)
  (hCX:∀H e s',CX [] H s₁ (fun _ _ _=>False) e s'→False):
  codeAny (model P w) callerA (.call (.ref fa) ⟨[.ref a],[]⟩) (fun r s'=>r=.ok (.ret (.bool true))∧OldK s₁.heap s'.heap∧s'.os=s₁.os∧AllBare s'.gens) s₁:=by
 have rv:=rQ hi
 have lenV:=hi.length
 have haT:a≠T:=fun z=>by rw[z,hT] at ha;cases ha
 have core:∀H:Hp,iS T H→H T=some (.tbl ps)→SqL K H a (ns.map V.int)→HOk P w H s₁.heap→(∀b,H b≠none→b=a∨b=T)→(H a≠none→K.lookup a=none)→
   codeAny (model P w) callerA (.call (.ref fa) ⟨[.ref a],[]⟩) (fun r s'=>r=.ok (.ret (.bool true))∧OldK s₁.heap s'.heap∧s'.os=s₁.os∧AllBare s'.gens) s₁:=by
  intro H hO hHT hS hok hA hK
  have base_of:∀{b:Addr} {o:Obj},s₁.heap.get? b=some o→H b=none→(rC s₁.heap H).get? b=some o:=fun e n=>hG e n
  have noA:∀{b:Addr} {o:Obj} {es:Array DictEntry} {ep:Nat},s₁.heap.get? b=some o→o.data=.dict es ep→H b=none:=fun {b o es ep} e d=>by
   cases q:H b with
   |none=>rfl
   |some u=>
    rcases hA b (by rw[q];simp) with e'|e'
    ·subst e'
     rw[ha] at e;cases e
     have d':Data.seq vs.toArray _=Data.dict es ep:=d
     cases d'
    ·subst e'
     rw[hT] at e;cases e
     have d':Data.fields ps=Data.dict es ep:=d
     cases d'
  have nsK:∀{b:Addr} {m:Str→Option Value},s₁.heap.Ns b m→(rC s₁.heap H).Ns b m:=fun {b m} ⟨o,es,ep,e,d,r⟩=>⟨o,es,ep,base_of e (noA e d),d,r⟩
  have hKb:K.In (rC s₁.heap H):=fun b o e=>base_of (KX b o e) (by
   cases q:H b with
   |none=>rfl
   |some u=>
    rcases hA b (by rw[q];simp) with e'|e'
    ·subst e'
     rw[hK (by rw[q];simp)] at e;cases e
    ·subst e'
     rw[hKT] at e;cases e)
  have hM:Mod K mg (rC s₁.heap H):=⟨hKb,nsK hns,⟨mb,nsK hb,hbb⟩,let ⟨mc,h1,h2⟩:=hlim;⟨mc,nsK h1,h2⟩⟩
  have hBA:(rC s₁.heap H).BuiltinsAt mg T:=by
   obtain⟨bm,ob,b1,b2,b3,b4,b5,b6⟩:=hbm
   have n1:bm≠T:=fun z=>by rw[z,hT] at b3;cases b3;cases b4
   have n2:bm≠a:=fun z=>by rw[z,ha] at b3;cases b3;cases b6
   have n3:bm≠mainGlobals:=fun z=>by
    obtain⟨o,es,ep,e,d,_⟩:=hns
    rw[z,e] at b3;cases b3
    rw[d] at b6;cases b6
   exact⟨bm,ob,b1,b2,n3,n1,base_of b3 (by
    cases q:H bm with
    |none=>rfl
    |some u=>
          rcases hA bm (by rw[q];simp) with e'|e'
          ·exact absurd e' n2
          ·exact absurd e' n1),b4,b5,b6⟩
  have e0:uz P w K mg (rC s₁.heap H) callerA [] s₁ H:=⟨rfl,hM,fun b o e=>bX e,zH8 (iq _ _),trivial,fun b hb=>absurd (show b∈([]:List Addr) from hb) (by simp),hok,.of_eq hg⟩
  refine zE0 ((F _ hKb (nsK hns) hBA).run callerA [] s₁ H ⟨[.ref a],[]⟩ [.ref a] [.ref a] _ _ hr e0 (hbind s₁ (.ref a)) (.cons rfl .nil) (hsp H hO hHT hS)) fun r s' h=>?_
  cases r with
  |error e=>exact (hCX H e s' h).elim
  |ok fl=>
   cases fl with
   |next=>exact False.elim h
   |brk=>exact False.elim h
   |cont=>exact False.elim h
   |ret u=>
    obtain⟨v,H',os,bare,un,hok',r',q⟩:=h
    have q':v=.bl true:=q
    subst q'
    obtain rfl:u=Value.bool true:=r'
    have old:∀b o,s₁.heap.get? b=some o→asItWas s₁.heap s'.heap b o:=fun b o e=>by
     cases q:H b with
     |none=>exact .inl (un.keep b o e q (by intro z;exact absurd (show b∈([]:List Addr) from z) (by simp)) (by simp))
     |some u=>
      rcases hO b with z|z|⟨ob,xs,z⟩
      ·rw[q] at z;cases z
      ·subst z
       obtain⟨more,hm⟩:=un.tbls _ _ hHT
       have e2:s'.heap.get? b=some {cls:=.none,data:=.fields (ps++more)}:=hok' _ _ hm
       rw[hT] at e;cases e
       exact .inr (.inl ⟨hct,rfl,ps,more,rfl,e2⟩)
      ·have z2:=un.frzs b ob _ z
       obtain⟨e1,_⟩:=hok b _ z
       obtain⟨e2,_⟩:=hok' b _ z2
       rw[e] at e1;cases e1
       exact .inl e2
    refine⟨rfl,⟨old,fun b o e=>?_⟩,os,bare⟩
    rcases old b o e with z|⟨_,_,_,_,_,z⟩|⟨_,_,⟨o',_,_,z,_⟩,_⟩
    ·exact⟨_,z⟩
    ·exact⟨_,z⟩
    ·exact⟨_,z⟩
 cases hk:K.lookup a with
 |some o=>
  have e:=KX a o hk
  rw[ha] at e
  cases e
  refine core (fun b=>if b=T then some (.tbl ps) else none) (fun b=>?_) (if_pos rfl) (.inr ⟨_,vs.toArray,_,hk,rfl,rfl,rfl,by rw[zu2,lenV];exact hl,by simpa using rv⟩) (fun b u z=>?_) (fun b z=>?_) fun z=>absurd (if_neg haT) z
  ·by_cases h:b=T
   ·exact .inr (.inl h)
   ·exact .inl (if_neg h)
  ·by_cases h:b=T
   ·have z':=(if_pos h).symm.trans z
    cases z'
    subst h
    exact hT
   ·have z':=(if_neg h).symm.trans z
    cases z'
  ·by_cases h:b=T
   ·exact .inr h
   ·exact absurd (if_neg h) z
 |none=>
  refine core (fun b=>if b=T then some (.tbl ps) else if b=a then some (.frz {cls:=.type "list",data:=.seq vs.toArray} (.lst (ns.map V.int))) else none) (fun b=>?_) (if_pos rfl) (.inl (.inr ⟨{cls:=.type "list",data:=.seq vs.toArray},(if_neg haT).trans (if_pos rfl)⟩)) (fun b u z=>?_) (fun b z=>?_) fun _=>hk
  ·by_cases h:b=T
   ·exact .inr (.inl h)
   ·by_cases hb:b=a
    ·exact .inr (.inr ⟨_,_,(if_neg h).trans (if_pos hb)⟩)
    ·exact .inl ((if_neg h).trans (if_neg hb))
  ·by_cases h:b=T
   ·have z':=(if_pos h).symm.trans z
    cases z'
    subst h
    exact hT
   ·have z:=(if_neg h).symm.trans z
    by_cases hb:b=a
    ·have z':=(if_pos hb).symm.trans z
     cases z'
     subst hb
     exact⟨ha,by rw[zt1];exact hl,vs,_,rv,ha⟩
    ·have z':=(if_neg hb).symm.trans z
     cases z'
  ·by_cases h:b=T
   ·exact .inr h
   ·by_cases hb:b=a
    ·exact .inl hb
    ·exact absurd ((if_neg h).trans (if_neg hb)) z
theorem dY {l:PySem.W.OpenLaw}{n k:Nat}{q:Program}{loose:List Str}{XP:(Str→Option Value)→Heap→Prop}{YP:World→Heap→Prop}{d:DefRec}{K:Params→PySem.W.Frag}{CX:World→CXT}{sp:World→Sp}{x:Str}{T c:Addr}{ps:Array Value}
  (hn:l.most=some n) (hn2:n≤sizeLine) (hdf:d.params.defaults=[]) (hr:zL k callerA)
  (hY:∀(w:World) (h:Heap),YP w h→(K w.params).In h) (hYT:∀(w:World) (h:Heap),YP w h→h.get? T=some (PySem.W.tabObj ps))
  (hNo:∀w:World,(K w.params).lookup T=none) (hTab:∀w:World,∃o vs,(K w.params).lookup c=some o∧o.cls=.type "code"∧o.data=.fields vs∧vs[11]?=some (.ref T))
  (F:∀(w:World) (mg:Str→Option Value) (fa:Addr) (h:Heap),(K w.params).In h→h.Ns mainGlobals mg→mg d.name=some (.ref fa)→
   ∃fd:FuncData,(∀(s:Shared) (u:Value),BindsTo s fd ⟨[u],[]⟩ [(x,u)])∧
    ∀base:Heap,(K w.params).In base→base.Ns mainGlobals mg→base.BuiltinsAt mg T→zD l.prog w (K w.params) mg base (CX w) k fa fd [x] (sp w))
  (hsp:∀(w:World) (H:Hp) (a:Addr) (ns:List Int),ns.length≤n→iS T H→H T=some (.tbl ps)→SqL (K w.params) H a (ns.map V.int)→sp w [.ref a] H (fun v _=>v=.bl true) fun _ _ _=>False)
  (hCX:∀(w:World) (H:Hp) (s:Shared) (e:Value) (s':Shared),CX w [] H s (fun _ _ _=>False) e s'→False):
  PySem.W.WalkO q loose XP YP l.row.toRowW d [] (fun f vs=>PySem.call f vs):=by
 refine Att.attach_call hn hdf fun w s₀ s₁ mg mb fa o pm cd doc a vs ns G Y ho hd hcd hmg hobj hints hlen hg=>?_
 have KX:=hY w _ Y
 obtain⟨oc,cv,t2,t3,t4,t5⟩:=hTab w
 obtain⟨fd,hb,hF⟩:=F w mg fa _ KX G.T.g hmg
 exact jF KX G.T.g G.T.b G.T.builtins G.T.nolimit hg hobj hints (zx9 hlen hn2) hr (hYT w _ Y) (hNo w) ⟨c,oc,cv,KX _ _ t2,t3,t4,t5⟩ G.T.bmain hF hb (fun H hO hT hS=>hsp w H a ns hlen hO hT hS) fun H e s'=>hCX w H s₁ e s'
theorem TabAt.same {H H':Hp}(T:TabAt H)(h:∀a o,(∀xs,o≠.lst xs)→H a=some o→H' a=some o):TabAt H':=sS T h
section
variable {X:Cx}{pins:List (Addr×Obj)}{σ:St}{H:Hp}{s:Shared}{h':Heap}
theorem Inv.tblMore {t':Nat}{p:Addr}{ps more:Array Value}{H':Hp}(I:Inv X pins σ H s)(h:H p=some (.tbl ps))(k:∀b u,b≠p→s.heap.get? b=some u→h'.get? b=some u)(e:h'.get? p=some (PySem.W.tabObj (ps++more)))
  (hp:H' p=some (.tbl (ps++more))) (hH:∀b,b≠p→b<s.heap.objs.size→H' b=H b) (new:∀b o,s.heap.objs.size≤b→H' b=some o→zY X.prog X.w H' h' b o):
  Inv X pins σ H' {s with heap:=h',toks:=t'}:=by
 have ne:∀b,H b=none→b≠p:=fun b n z=>by rw[z,h] at n;cases n
 have nt:∀b o,H b=some o→(∀qs,o≠.tbl qs)→b≠p:=fun b o q n z=>by rw[z,h] at q;cases q;exact n _ rfl
 have lt:∀b o,H b=some o→b<s.heap.objs.size:=fun b o q=>by
  rcases zA9 b s.heap.objs.size with z|z
  ·exact z
  ·rw[I.hok.fresh z] at q;cases q
 have st:∀b o,H b=some o→(∀qs,o≠.tbl qs)→H' b=some o:=fun b o q n=>by rw[hH b (nt b o q n) (lt b o q)];exact q
 refine I.un ⟨fun b o q n _ _=>k b o (ne b n) q,fun b o q n _ _=>⟨o.slots,k b o (ne b n) q⟩,fun b o q n _=>by rw[hH b (ne b n) (zt6 q)];exact n,fun b o q _=>?_,fun b xs q=>st b _ q (fun _ z=>by cases z),fun b o u q=>st b _ q (fun _ z=>by cases z),fun b qs q=>?_⟩ fun b u q=>?_
 ·by_cases z:b=p
  ·exact⟨_,by rw[z];exact e⟩
  ·exact⟨o,k b o z q⟩
 ·by_cases z:b=p
  ·subst z
   rw[h] at q;cases q
   exact⟨more,hp⟩
  ·exact⟨#[],by rw[hH b z (lt b _ q),q];simp⟩
 ·by_cases z:b=p
  ·subst z
   rw[hp] at q;cases q
   exact e
  ·rcases zA9 b s.heap.objs.size with l|l
   ·rw[hH b z l] at q
    refine (I.hok b u q).stay (fun c v hc r=>k c v (fun w=>?_) r) (fun c r=>st c _ r fun _ z=>by cases z) fun c xs r=>st c _ r fun _ z=>by cases z
    subst w
    rcases hc with rfl|hc
    ·exact z rfl
    ·rw[h] at hc;cases hc
   ·exact new b u l q
def mQ (f c:Addr)(qual:Str)(params:Arguments)(body:Expr)(scope:Scope)(clos:List (Str×Addr)):HO:=
 .ext fun h=>∃(pm ctv:Value),h.get? f=some (PySem.W.kla_obj "<lambda>" qual params body scope clos pm c ctv)
theorem bz {P:Program}{w:World}{H:Hp}{h:Heap}{c:Addr}(r:h.CodeRec (.ref c) xH):zY P w H h c (tf c):=by
 refine⟨r,?_,fun h1 h2 p k=>?_⟩
 ·obtain⟨c',o,vs,t,e1,e2,_⟩:=r
  cases e1
  exact⟨o,e2⟩
 ·obtain⟨c',o,vs,t,e1,e2,e3⟩:=p
  cases e1
  exact⟨c,o,vs,t,rfl,k _ e2,e3⟩
theorem gY {P:Program}{w:World}{H:Hp}{h:Heap}{f c:Addr}{qual:Str}{params:Arguments}{body:Expr}{scope:Scope}{clos:List (Str×Addr)}{pm ctv:Value}(r:h.get? f=some (PySem.W.kla_obj "<lambda>" qual params body scope clos pm c ctv)):zY P w H h f (mQ f c qual params body scope clos):=
 ⟨⟨pm,ctv,r⟩,⟨_,r⟩,fun h1 h2 ⟨pm',ctv',p⟩ k=>⟨pm',ctv',k _ p⟩⟩
theorem mD {pos:Pos}{a b:Int}{c cv:Value}(l:List Value):TriplesOk l→codeAmong pos (l++[rawInt a,rawInt b,c])=some cv→codeAmong pos l=some cv∨cv=c:=by
 induction l using TriplesOk.induct with
 |case1=>
  intro _ h
  rw[zD4,rawInt,rawInt,codeAmong.eq_1] at h
  split at h
  ·cases h;exact .inr rfl
  ·rw[codeAmong.eq_2 _ _ (by intro _ _ _ _ _ _ z;cases z)] at h;cases h
 |case2 i t j u d rest ih=>
  intro ok h
  rw[TriplesOk.eq_2] at ok
  rw[zH2,zH2,zH2,codeAmong.eq_1] at h
  rw[codeAmong.eq_1]
  split at h
  ·rename_i z
   rw[if_pos z];exact .inl h
  ·rename_i z
   rw[if_neg z];exact ih ok h
 |case3 t h1 h2=>
  intro ok
  rw[TriplesOk.eq_3 t h1 h2] at ok
  exact ok.elim
theorem dP {params:Arguments}{body:Expr}{scope:Scope}{lpos:Pos}{clos:List (Str×Addr)}{c:Addr}(I:Inv X pins σ H s)(hcl:closureFor scope X.env=pure clos)(hgl:X.env.globals=mainGlobals)(hco:X.env.code=.ref c)(hhd:PySem.W.CodeHd X.base c yx)
  (hbi:X.base.BuiltinsAt X.mg yx) (hdf:defaultsOf params X.env=([],[])) (hq:X.env.qual++("<lambda>":Str)=xH) (hne:mainGlobals≠yx) (T:TabAt H) {Q:Value→Shared→Prop}
  (h:∀(f c':Addr) (H':Hp) (s':Shared),Inv X pins σ H' s'→TabAt H'→(∀a o,a≠yx→H a=some o→H' a=some o)→(∀a ps,H a=some (.tbl ps)→∃qs,H' a=some (.tbl qs))→H f=none→H' f=some (mQ f c' xH params body scope clos)→H' c'=some (tf c')→Q (.ref f) s'):
  wpAny (model X.prog X.w) X.A (eval (.Lambda params body scope lpos) X.env) Q X.xe s:=by
 refine PySem.W.kla_eval hdf ?_
 rw[hq]
 obtain⟨ps,t1,t2,t3⟩:=T.ex
 have hT:s.heap.get? yx=some (PySem.W.tabObj ps):=I.hok _ _ t1
 have hb:∀b o,X.base.get? b=some o→s.heap.get? b=some o:=fun b o e=>(I.bs b o e).1
 have hhd':PySem.W.CodeHd s.heap c yx:=by
  obtain⟨o,vs,f1,f2,f3,f4,f5,f6,f7,e1,e2⟩:=hhd
  exact⟨o,vs,f1,f2,f3,f4,f5,f6,f7,hb _ _ e1,e2⟩
 have hbi':s.heap.BuiltinsAt X.mg yx:=by
  obtain⟨bm,o,e1,e2,e3,e4,e5,e6⟩:=hbi
  exact⟨bm,o,e1,e2,e3,e4,hb _ _ e5,e6⟩
 have hns:s.heap.Ns mainGlobals X.mg:=by
  obtain⟨o,es,ep,e,d,r⟩:=I.ok.mod.glob
  exact⟨o,es,ep,hb _ _ e,d,r⟩
 cases hc:codeAmong lpos ps.toList with
 |none=>
  refine PySem.W.kla_makeFunction hcl hgl hns hco hhd' hT t2 hc hne hbi' fun c' ctv h' tk ex l1 l2 cr ht=>?_
  have hlt:c'<(h'.push (PySem.W.kla_obj "<lambda>" xH params body scope clos ((X.mg "__name__").getD Value.none) c' ctv)).objs.size:=by rw[size_push'];omega
  have n1:(c':Addr)≠h'.objs.size:=zv0 l2
  have szT:yx<s.heap.objs.size:=zt6 hT
  have n2:(c':Addr)≠yx:=zz4 (zu9 szT l1)
  have lf:s.heap.objs.size≤h'.objs.size:=zy6 (zI5 l1 l2)
  have n3:(h'.objs.size:Addr)≠yx:=zz4 (zu9 szT lf)
  let HN:Hp:=upd (upd (upd H h'.objs.size (mQ h'.objs.size c' xH params body scope clos)) c' (tf c')) yx (.tbl (ps++#[rawInt ↑lpos.line,rawInt ↑lpos.col,Value.ref c']))
  have eP:HN yx=some (.tbl (ps++#[rawInt ↑lpos.line,rawInt ↑lpos.col,Value.ref c'])):=zk
  have eC:HN c'=some (tf c'):=by show upd _ _ _ _=_;rw[zd n2,zk]
  have eF:HN h'.objs.size=some (mQ h'.objs.size c' xH params body scope clos):=by show upd _ _ _ _=_;rw[zd n3,zd n1.symm,zk]
  have old:∀b,b≠yx→b<s.heap.objs.size→HN b=H b:=fun b nb lb=>by
   show upd _ _ _ _=_
   rw[zd nb,zd (zv0 (zu9 lb l1)),zd (zv0 (zu9 lb lf))]
  have I1:Inv X pins σ HN {s with heap:=h'.push (PySem.W.kla_obj "<lambda>" xH params body scope clos ((X.mg "__name__").getD Value.none) c' ctv),toks:=tk}:=by
   refine I.tblMore (more:=#[rawInt ↑lpos.line,rawInt ↑lpos.col,Value.ref c']) t1 (fun b u nb e=>zt0 _ (ex b u nb e)) (zt0 _ ht) eP old fun b o lb e=>?_
   by_cases z1:b=h'.objs.size
   ·subst z1
    rw[eF] at e;cases e
    exact gY (zu0 _ rfl)
   ·by_cases z2:b=c'
    ·subst z2
     rw[eC] at e;cases e
     obtain⟨c2,o,vs,t,e1,e2,e3⟩:=cr
     cases e1
     exact bz ⟨_,o,vs,t,rfl,zt0 _ e2,e3⟩
    ·have nb:b≠yx:=fun z=>absurd lb (Nat.not_le_of_lt (z▸szT))
     have e':HN b=H b:=by show upd _ _ _ _=_;rw[zd nb,zd z2,zd z1]
     rw[e',I.hok.fresh lb] at e;cases e
  have stay:∀a o,a≠yx→H a=some o→HN a=some o:=fun a o no e=>by
   have la:a<s.heap.objs.size:=by
    rcases zA9 a s.heap.objs.size with z|z
    ·exact z
    ·rw[I.hok.fresh z] at e;cases e
   rw[old a no la];exact e
  refine h _ c' HN _ I1 ⟨_,eP,?_,fun pos cv hcv=>?_⟩ stay (fun a qs e=>?_) (I.hok.fresh lf) eF eC
  ·rw[Array.toList_append]
   exact TriplesOk_snoc _ _ _ _ t2
  ·rw[Array.toList_append] at hcv
   rcases mD _ t2 hcv with z|z
   ·obtain⟨c2,rfl,e2⟩:=t3 _ _ z
    exact⟨c2,rfl,stay _ _ (fun z=>by rw[z,t1] at e2;cases e2) e2⟩
   ·exact⟨c',z,eC⟩
  ·by_cases za:a=yx
   ·exact⟨_,by rw[za];exact eP⟩
   ·refine⟨qs,?_⟩
    rw[old a za (by
     rcases zA9 a s.heap.objs.size with z|z
     ·exact z
     ·rw[I.hok.fresh z] at e;cases e)]
    exact e
 |some cv=>
  obtain⟨c',rfl,t4⟩:=t3 _ _ hc
  refine PySem.W.kla_makeFunctionHit hcl hgl hns hco hhd' hT t2 hc hbi' fun ctv h' tk k l=>?_
  have hf:H h'.objs.size=none:=I.hok.fresh l
  have k2:∀b u,s.heap.get? b=some u→(h'.push (PySem.W.kla_obj "<lambda>" xH params body scope clos ((X.mg "__name__").getD Value.none) c' ctv)).get? b=some u:=fun b u e=>zt0 _ (k b u e)
  have I1:=I.laid (t':=tk) (o:=mQ h'.objs.size c' xH params body scope clos) k2 l (gY (zu0 _ rfl))
  have n1:∀a o,H a=some o→a≠h'.objs.size:=fun a o e z=>by rw[z,hf] at e;cases e
  refine h _ c' _ _ I1 (T.same fun a o _ e=>by rw[zd (n1 a o e)];exact e) (fun a o _ e=>by rw[zd (n1 a o e)];exact e) (fun a qs e=>⟨qs,by rw[zd (n1 a _ e)];exact e⟩) hf zk ?_
  rw[zd (n1 _ _ t4)];exact t4
end
structure wj (x y:Str)(params:Arguments)(scope:Scope):Prop where
 kind:scope.kind=.function
 co:scope.isCoroutine=false
 gen:scope.isGenerator=false
 px:scope.names.lookup x=some .local
 py:scope.names.lookup y=some .free
 nocell:∀z∈scope.names,z.2≠NameKind.cell
 only:∀z∈scope.names,z.2=NameKind.free→z.1=y
 ne:x≠y
def og (P:Program)(w:World)(K:PySem.W.Frag)(mg:Str→Option Value)(base:Heap)(x y:Str)(scope:Scope)(f c cl:Addr)(A:Around)(outer:List Env)(s:Shared)(H:Hp):Cx where
 prog:=P
 w:=w
 K:=K
 mg:=mg
 base:=base
 A:=A.deeper (PySem.W.envX xH scope s.heap.objs.size f (.ref c) [(y,cl)])
 N:=[x,y]
 s₀:=s
 H₀:=H
 env:=PySem.W.envX xH scope s.heap.objs.size f (.ref c) [(y,cl)]
 outer:=outer
 stack:=PySem.W.envX xH scope s.heap.objs.size f (.ref c) [(y,cl)]::outer
 ex:=[]
 calm:=true
 fn:=fun _=>false
 pn:=[]
 xe:=fun _ _=>False
theorem jT {P:Program}{w:World}{K:PySem.W.Frag}{mg:Str→Option Value}{base:Heap}{x y:Str}{params:Arguments}{scope:Scope}{f c cl:Addr}{A:Around}{outer:List Env}{s:Shared}{H:Hp}{h':Heap}{tk:Nat}{v l:V}{u ul:Value}
  (S:wj x y params scope) (hd:A.handled=none) (e0:uz P w K mg base A outer s H) (rv:RelV v u) (rl:RelV l ul) (hcl:s.heap.IsCell cl (some ul)) (fcl:H cl=none)
  (ns:h'.Ns s.heap.objs.size fun z=>[(x,u)].reverse.lookup z) (k:∀b o,s.heap.get? b=some o→h'.get? b=some o):
  Inv (og P w K mg base x y scope f c cl A outer s H) [] [some v,some l] H {s with heap:=h',toks:=tk}:=by
 have noA:∀b:Addr,b∉(og P w K mg base x y scope f c cl A outer s H).ex:=fun b z=>absurd (show b∈([]:List Addr) from z) (by simp)
 have one:∀z d,(og P w K mg base x y scope f c cl A outer s H).env.cells.lookup z=some d→z=y∧d=cl:=fun z d h=>by
  have h:List.lookup z [(y,cl)]=some d:=h
  rw[zw6] at h
  split at h
  ·rename_i e
   cases h
   exact⟨eq_of_beq e,rfl⟩
  ·cases h
 have hit:(og P w K mg base x y scope f c cl A outer s H).env.cells.lookup y=some cl:=by
  show List.lookup y [(y,cl)]=some cl
  simp[zw6]
 have cell':h'.IsCell cl (some ul):=by
  obtain⟨o,e1,e2⟩:=hcl
  exact⟨o,k _ _ e1,e2⟩
 refine⟨⟨e0.mod,S.kind,rfl,rfl,zt8 _,fun a b d h1 h2=>(one a d h1).1.trans (one b d h2).1.symm,fun z hz=>?_,fun z d hf _=>?_,fun _=>hd,Around.frames_deeper e0.frames,.inr ⟨rfl,rfl⟩,fun b z=>absurd z (noA b),e0.bs,e0.bsz,fun b _ _=>noA b,fun b z=>absurd z (noA b),e0.funs,e0.frf⟩,
  rfl,e0.bare,Un.kept k,⟨_,ns,fun i z v' h1 h2 h3=>?_⟩,fun z d h=>?_,e0.hok.fresh (zt8 _),fun z d h=>?_,fun p hp=>absurd (show p∈([]:List (Addr×Obj)) from hp) (by simp),e0.hok.kept k,rfl⟩
 ·have hz:scope.names.lookup z=some .cell∨scope.names.lookup z=some .free:=hz
  rcases hz with hz|hz
  ·exact absurd rfl (S.nocell _ (zx8 hz))
  ·have:z=y:=S.only _ (zx8 hz) rfl
   subst this
   exact⟨cl,hit⟩
 ·exact absurd (show false=true from hf) zu3
 ·have h1:([x,y]:List Str)[i]?=some z:=h1
  match i,h1,h2 with
  |0,h1,h2=>
   cases h1;cases h2
   exact⟨u,rv,.inl ⟨S.px,by simp[zw6]⟩⟩
  |1,h1,h2=>
   cases h1;cases h2
   exact⟨ul,rl,.inr ⟨.inr S.py,cl,hit,cell'⟩⟩
  |i+2,h1,h2=>simp at h1
 ·obtain⟨rfl,rfl⟩:=one z d h
  exact⟨_,cell'⟩
 ·obtain⟨rfl,rfl⟩:=one z d h
  exact fcl
theorem cV {P:Program}{w:World}{K:PySem.W.Frag}{mg:Str→Option Value}{base:Heap}{x y:Str}{params:Arguments}{body:Expr}{scope:Scope}{f c cl:Addr}{A:Around}{outer:List Env}{s:Shared}{H:Hp}{v l:V}{u ul:Value}{k:Nat}{Q:VK}{t:TE}
  (S:wj x y params scope) (hr:zL k A) (e0:uz P w K mg base A outer s H) (hf:H f=some (mQ f c xH params body scope [(y,cl)])) (hc:H c=some (tf c)) (hcl:s.heap.IsCell cl (some ul)) (fcl:H cl=none) (rv:RelV v u) (rl:RelV l ul)
  (hb:∀pm ctv,bindArgs (PySem.W.kla_fn "<lambda>" xH params body scope [(y,cl)] pm (.ref c) ctv) ⟨[u],[]⟩=pure [(x,u)])
  (ht:PE (og P w K mg base x y scope f c cl A outer s H) body t) (hq:t [some v,some l] H Q):
  codeAny (model P w) A (.call (.ref f) ⟨[u],[]⟩) (CR CX0 outer P w H s Q E0) s:=by
 obtain⟨⟨pm,ctv,ho⟩,_,_⟩:=e0.hok _ _ hf
 have cr:s.heap.CodeRec (.ref c) xH:=(e0.hok _ _ hc).1
 have lim:s.heap.NoLimit:=e0.mod.nolimit.keeps fun b o e=>(e0.bs b o e).1
 refine PySem.W.kla_callFunE hr.depth ho rfl S.co S.gen rfl cr ?_
 rw[hb]
 refine zt2 ?_
 refine wpAny_newFunctionEnv S.nocell (fun z hz=>?_) (fun h' ns sb=>?_) S.kind
 ·rw[zv9.mp hz];exact S.px
 ·have kk:∀b o,s.heap.get? b=some o→h'.get? b=some o:=fun b o e=>sb.extBut b o (zv0 (zt6 e)) (zt0 _ e)
  refine⟨lim.keeps kk,PySem.W.kla_codeExpr ?_⟩
  have I:=jT (tk:=s.toks+[(x,u)].length) (f:=f) (c:=c) S hr.hd e0 rv rl hcl fcl ns kk
  refine zw2 (ht [] _ _ H _ I hq) (fun u' s' hs=>?_) fun e s' hs=>hs.elim
  obtain⟨v',H',J,r',q⟩:=hs
  exact⟨v',H',J.os,J.bare,J.base,J.hok,r',q⟩
open PySem.W SortA
section
variable {X:Cx}{pins:List (Addr×Obj)}{σ:St}{H:Hp}{s:Shared}
def ec (X:Cx)(H1 H2:Hp)(s1 s2:Shared):Prop:=∀b o,s1.heap.get? b=some o→H1 b=none→b∉frs X.stack→s2.heap.get? b=some o∧H2 b=none
structure eM (X:Cx)(pins:List (Addr×Obj))(σ:St)(H:Hp)(D kS:Addr)(e1:Nat)(ps:List (Int×Int))(i:Nat)(s':Shared):Prop where
 ex:∃(H':Hp) (ks:List Value) (xs:List V) (e:Nat),Inv X pins σ H' s'∧(∀a o,H a=some o→H' a=some o)∧s'.heap.get? D=some (seqObj "list" #[] e1)∧s'.heap.get? kS=some (seqObj "list" ks.toArray e)∧H' D=none∧H' kS=none∧Vals xs ks∧PrV H' xs (ps.take i)
theorem iB {A:Around}{E:Value→Shared→Prop}{vs:List Value}{ps:List (Int×Int)}{f D kS:Addr}{e1:Nat}{Q:PUnit→Shared→Prop}(hlen:vs.length=ps.length)(h64:vs.length<64)(nD:D∉frs X.stack)(nK:kS∉frs X.stack)(hne:D≠kS)
  (fK:∀H',H' kS=none→yZ X pins H' kS)
  (hcall:∀i v,vs[i]?=some v→∀H1 s1,Inv X pins σ H1 s1→(∀a o,H a=some o→H1 a=some o)→
   wpAny (model X.prog X.w) A (call (.ref f) [v]) (fun u s2=>∃t H2,u=.ref t∧Inv X pins σ H2 s2∧(∀a o,H1 a=some o→H2 a=some o)∧H2 t=some (.tup [.int (at2 ps i).1,.int (at2 ps i).2])∧ec X H1 H2 s1 s2) (fun _ _=>False) s1)
  (h0:eM X pins σ H D kS e1 ps 0 s) (hQ:∀s',eM X pins σ H D kS e1 ps vs.length s'→Q PUnit.unit s'):
  wpAny (model X.prog X.w) A (forIn vs PUnit.unit fun x __s=>do
   let __do_lift ←(call (.ref f) [x]).attempt
   match __do_lift with
    |Except.ok k=>do
     Builtin.List.listUpdate (.ref kS) fun x=>x.push k
     pure (ForInStep.yield PUnit.unit)
    |Except.error e=>do
     rule "list.sort.key-raised"
     let made ←Builtin.List.listItems (.ref kS)
     Builtin.List.listUpdate (.ref kS) fun x=>#[]
     letGo made.toList.reverse [e]
     Builtin.List.listUpdate (Value.ref D) fun x=>vs.toArray
     throw e
     pure (ForInStep.yield PUnit.unit)) Q E s:=by
 refine ksk_fold (eM X pins σ H D kS e1 ps) vs 0 s h0 (fun j x s' hj hI=>?_) (fun s' hI=>hQ s' (by simpa using hI))
 obtain⟨H1,ks,xs,e,I1,st,eD,eK,fD,fK',rv,pr⟩:=hI.ex
 rw[Nat.zero_add] at pr ⊢
 have hjl:j<ps.length:=by rw[←hlen];exact (zt5.mp hj).1
 have lks:ks.length=j:=by rw[←rv.length,pr.len,zz7];omega
 refine zs9 (zF1 (zw2 (hcall j x hj H1 s' I1 st) (fun u s2 hu=>?_) fun _ _ z=>z.elim))
 obtain⟨t,H2,rfl,I2,st2,et,kp⟩:=hu
 obtain⟨eD2,fD2⟩:=kp D _ eD fD nD
 obtain⟨eK2,fK2⟩:=kp kS _ eK fK' nK
 refine zs9 (listUpdate_at eK2 rfl (zt2 ⟨rfl,?_⟩) (by rw[zu2,lks,zx2];omega) (by rw[Array.size_push,zu2,lks,zx2];omega))
 obtain⟨e',hk⟩:∃e',(s2.heap.update kS (Obj.mapSeq fun x=>x.push (Value.ref t))).get? kS=some (seqObj "list" (ks++[Value.ref t]).toArray e'):=by
  have:=zB3 eK2 fun x=>x.push (Value.ref t)
  rw[List.push_toArray] at this
  exact⟨_,this⟩
 have kk:∀b o,b∉[kS]→s2.heap.get? b=some o→(s2.heap.update kS (Obj.mapSeq fun x=>x.push (Value.ref t))).get? b=some o:=fun b o nb q=>(zu4 _ _ (zw4 (by simpa using nb))).trans q
 refine⟨H2,ks++[Value.ref t],xs++[V.ref t],e',I2.turnL (t':=s2.toks) kk (fun b hb=>by rw[zv9.mp hb];exact fK H2 fK2),fun a o q=>st2 a o (st a o q),kk D _ (by simpa using hne) eD2,hk,fD2,fK2,rv.append (.cons rfl .nil),?_⟩
 rw[zC0,zt3 hjl]
 refine PrV.app (pr.keep fun a p q z=>st2 _ _ z) ?_
 have ea:at2 ps j=ps[j]:=by unfold at2;rw[zt7,zt3 hjl];rfl
 rw[ea] at et
 exact .cons et .nil
theorem mz {A:Around}{E:Value→Shared→Prop}{vs:List Value}{ps:List (Int×Int)}{f D:Addr}{n:Nat}{Pf:PySem.Fin→Shared→Prop}(I:Inv X pins σ H s)(ho:s.heap.get? D=some (seqObj "list" vs.toArray n))(hlen:vs.length=ps.length)(h64:vs.length<64)(fD:H D=none)
  (nD:D∉frs X.stack) (fpD:∀H',H' D=none→yZ X pins H' D)
  (hcall:∀i v,vs[i]?=some v→∀H1 s1,Inv X pins σ H1 s1→(∀a o,H a=some o→H1 a=some o)→
   wpAny (model X.prog X.w) A (call (.ref f) [v]) (fun u s2=>∃t H2,u=.ref t∧Inv X pins σ H2 s2∧(∀a o,H1 a=some o→H2 a=some o)∧H2 t=some (.tup [.int (at2 ps i).1,.int (at2 ps i).2])∧ec X H1 H2 s1 s2) (fun _ _=>False) s1)
  (h:∀out H' s' c,Srt vs ps out→Inv X pins σ H' s'→(∀a o,H a=some o→H' a=some o)→s'.heap.get? D=some (seqObj "list" out.toArray c)→H' D=none→Pf (.done (.ret .none)) s'):
  wpAny (model X.prog X.w) A (ksk_tree D (.ref f) false) Pf E s:=by
 have hD:D<s.heap.objs.size:=zt6 ho
 have s1:=zF4 s.heap D (Obj.mapSeq fun _=>(#[]:Array Value))
 obtain⟨e1,ho1⟩:∃e1,(s.heap.update D (Obj.mapSeq fun _=>(#[]:Array Value))).get? D=some (seqObj "list" #[] e1):=⟨_,zB3 ho fun _=>#[]⟩
 have hsz1:(s.heap.update D (Obj.mapSeq fun _=>(#[]:Array Value))).objs.size=s.heap.objs.size:=Heap.size_update _ _ _
 unfold ksk_tree
 refine zs9 (listItems_at ho rfl ?_)
 refine zs9 (listUpdate_at ho rfl ?_ (by rw[zu2,zx2];omega) (zu6 _))
 generalize hh1:s.heap.update D (Obj.mapSeq fun _=>(#[]:Array Value))=h1 at s1 ho1 hsz1
 refine zs9 (seqEpoch_at ho1 rfl ?_)
 refine zs9 (zE3 ?_ (by show vs.length≤_;rw[zx2];omega))
 refine zs9 (wpAny_newList ?_ (zu6 _))
 refine zy1 ?_
 show wpAny (model X.prog X.w) A (ksk_rest D (.ref f) false vs.toArray e1 (.ref (h1.push (seqObj "tuple" vs.toArray 0)).objs.size)) Pf E {s with heap:=(h1.push (seqObj "tuple" vs.toArray 0)).push (seqObj "list" #[] 0)}
 have kS0:(h1.push (seqObj "tuple" vs.toArray 0)).objs.size=s.heap.objs.size+1:=by rw[size_push',hsz1]
 have eK0:((h1.push (seqObj "tuple" vs.toArray 0)).push (seqObj "list" #[] 0)).get? (h1.push (seqObj "tuple" vs.toArray 0)).objs.size=some (seqObj "list" #[] 0):=zu0 _ rfl
 have eD0:((h1.push (seqObj "tuple" vs.toArray 0)).push (seqObj "list" #[] 0)).get? D=some (seqObj "list" #[] e1):=zt0 _ (zt0 _ ho1)
 have k1:∀b o,b∉[D]→s.heap.get? b=some o→((h1.push (seqObj "tuple" vs.toArray 0)).push (seqObj "list" #[] 0)).get? b=some o:=fun b o hb e=>
  zt0 _ (zt0 _ ((s1.2 b (by simpa using hb)).trans e))
 have I0:Inv X pins σ H {s with heap:=(h1.push (seqObj "tuple" vs.toArray 0)).push (seqObj "list" #[] 0),toks:=s.toks}:=I.turnL k1 fun b hb=>by rw[zv9.mp hb];exact fpD H fD
 generalize (h1.push (seqObj "tuple" vs.toArray 0)).push (seqObj "list" #[] 0)=h2 at eK0 eD0 k1 I0
 generalize hkS:(h1.push (seqObj "tuple" vs.toArray 0)).objs.size=kS at kS0 eK0
 have lK:s.heap.objs.size≤kS:=by rw[kS0];exact zA2 _
 have fK:∀H',H' kS=none→yZ X pins H' kS:=fun H' hn=>I.fpOk lK hn
 have nK:(kS:Addr)∉frs X.stack:=fun z=>by
  rcases zt4.mp (I.stkSub _ z) with q|q
  ·exact (I.fpOk (H':=fun _=>none) lK rfl).2.1 q
  ·exact (I.fpOk (H':=fun _=>none) lK rfl).2.2.1 q
 have hne:D≠kS:=zv0 (zu9 hD lK)
 have hK0:H kS=none:=I.hok.fresh lK
 unfold ksk_rest
 refine zs9 (zI0 ?_)
 rw[zG3]
 refine zs9 (iB (s:={s with heap:=h2}) hlen h64 nD nK hne fK hcall ⟨H,[],[],0,I0,fun _ _ q=>q,eD0,eK0,fD,hK0,.nil,.nil⟩ fun s' hI=>?_)
 obtain⟨H1,ks,xs,e,I1,st,eD,eK,fD1,fK1,rv,pr⟩:=hI.ex
 rw[hlen,zE8] at pr
 have lks:ks.length=vs.length:=by rw[←rv.length,pr.len,hlen]
 refine zs9 (listItems_at eK rfl ?_)
 unfold ksk_end
 dsimp only
 rw[if_neg (by decide)]
 have P:Prs s'.heap ks ps:=pr.prs I1 rv
 have tail:∀(st':SortSt) (out:List Value),out.length≤64→Srt vs ps out→failedOf st'=none→(arrOf st').map (·.2)=out.toArray→wpAny (model X.prog X.w) A (ksk_tail D false e1 (.ref kS) st') Pf E s':=by
  intro st' out lo so hf hout
  unfold ksk_tail
  dsimp only
  rw[hout,hf]
  refine zs9 (listUpdate_at eK rfl ?_ (by rw[zu2,lks,zx2];omega) (zu6 _))
  have s3:=zF4 s'.heap kS (Obj.mapSeq fun _=>(#[]:Array Value))
  have eD3:(s'.heap.update kS (Obj.mapSeq fun _=>(#[]:Array Value))).get? D=some (seqObj "list" #[] e1):=(s3.2 D hne).trans eD
  have I3:Inv X pins σ H1 {s' with heap:=s'.heap.update kS (Obj.mapSeq fun _=>(#[]:Array Value)),toks:=s'.toks}:=I1.turnL (ch:=[kS]) (fun b o hb q=>(s3.2 b (by simpa using hb)).trans q) fun b hb=>by rw[zv9.mp hb];exact fK H1 fK1
  generalize s'.heap.update kS (Obj.mapSeq fun _=>(#[]:Array Value))=h3 at eD3 I3
  refine zs9 (zC4 ?_)
  refine zs9 (seqEpoch_at eD3 rfl ?_)
  rw[if_neg (by decide)]
  refine zs9 (listUpdate_at eD3 rfl ?_ (zu6 _) (by rw[zu2,zx2];omega))
  have s4:=zF4 h3 D (Obj.mapSeq fun _=>out.toArray)
  obtain⟨c4,eD4⟩:∃c4,(h3.update D (Obj.mapSeq fun _=>out.toArray)).get? D=some (seqObj "list" out.toArray c4):=⟨_,zB3 eD3 fun _=>out.toArray⟩
  simp only[bne_self_eq_false,zA0,zG2]
  have I4:=I3.turnL (ch:=[D]) (t':=s'.toks) (h':=h3.update D (Obj.mapSeq fun _=>out.toArray)) (fun b o hb q=>(s4.2 b (by simpa using hb)).trans q) fun b hb=>by rw[zv9.mp hb];exact fpD H1 fD1
  exact zt2 (h out H1 _ c4 so I4 st eD4 fD1)
 by_cases hn2:vs.toArray.size<2
 ·rw[if_pos hn2,if_pos hn2]
  have hv:vs.length<2:=by simpa using hn2
  refine zs9 (zt2 ?_)
  refine zs9 (zt2 ?_)
  dsimp only
  have so:Srt vs ps vs:=by
   match vs,ps,hv,hlen with
   |[],[],_,_=>exact⟨[],rfl,rfl,fun _ h=>by simp at h,.refl _,.nil⟩
   |[v],[p],_,_=>exact⟨[0],rfl,rfl,fun i h=>by simp at h;subst h;simp,.refl _,by simp⟩
   |_::_::_,_,hv,_=>simp only[zu5] at hv;omega
  refine tail _ vs (by omega) so rfl ?_
  rw[if_neg (by decide)]
  show (ks.toArray.zip vs.toArray).map (·.2)=vs.toArray
  apply Array.toList_inj.mp
  rw[Array.toList_map,Array.toList_zip]
  exact List.map_snd_zip (zH8 lks.symm)
 ·rw[if_neg hn2,if_neg hn2,if_neg (by decide)]
  have h2:2≤vs.length:=by simp at hn2;omega
  have ask:=lJ (prog:=X.prog) (w:=X.w) (A:=A) (s:=s') (by rw[lks];exact h2) P
   (R:=fun p s''=>Srt vs ps (p.toList.map fun i=>vs.getD i Value.none)∧s''=s') (fun ix a b c d=>⟨⟨ix,by simp,a,b,c,d⟩,rfl⟩)
  refine zs9 (zw2 ask (fun κ s0 hk=>?_) fun _ _ x=>x.elim)
  rw[lks] at hk
  refine zs9 (zw2 (kat_run (Q:=fun st' s''=>∃p:Array Nat,p.size=vs.length∧arrOf st'=p.map (kas_item (ks.toArray.zip vs.toArray))∧failedOf st'=none∧Srt vs ps (p.toList.map fun i=>vs.getD i Value.none)∧s''=s')
   lks h2 h64 (fun p' st' s'' a1 a2 a3 a4=>⟨p',a1,a2,a3,a4⟩) hk) ?_ fun _ _ e=>e)
  rintro⟨⟨⟩,st'⟩ s'' ⟨p,hp,har,hf,so,rfl⟩
  dsimp only
  exact tail st' _ (by rw[so.len,←hlen];omega) so hf (kat_snds lks har)
end
section
variable {X:Cx}{pins:List (Addr×Obj)}{σ:St}{H:Hp}{s:Shared}
theorem Inv.adopt {D:Addr}{o:HO}(I:Inv X pins σ H s)(fp:yZ X pins H D)(new:zY X.prog X.w (upd H D o) s.heap D o):Inv X pins σ (upd H D o) s:=by
 have nD:=fp.1
 have st:∀b u,H b=some u→upd H D o b=some u:=fun b u e=>by rw[zd (zo e nD)];exact e
 have:=I.step (g':=s.gens) (t':=s.toks) (d':=s.drawn) (h':=s.heap) (H':=upd H D o) (ch:=[D]) (fun b hb=>by rw[zv9.mp hb];exact⟨fp.2.2.2.1,fp.2.1,fp.2.2.2.2.1,fp.2.2.2.2.2⟩) (fun b u _ _ _ e _=>e) (fun b u _ _ _ e _=>⟨u.slots,e⟩) (fun b u hb e n=>by rw[zd (by simpa using hb)];exact n)
  (fun b u _ e=>⟨u,e⟩) (fun b xs e=>st b _ e) (fun b u xs e=>st b _ e) (fun b ps e=>⟨#[],by rw[st b _ e];simp⟩) (fun m hm=>hm) (fun b u e=>?_) I.bare
 ·exact this
 ·by_cases hb:b=D
  ·subst hb;rw[zk] at e;cases e;exact new
  ·rw[zd hb] at e
   exact (I.hok b u e).stay (fun c v _ q=>q) (fun c q=>st c _ q) fun c xs q=>st c _ q
theorem pj {A:Around}{E:Value→Shared→Prop}{l f:Addr}{vs:List Value}{ps:List (Int×Int)}{Q:Value→Shared→Prop}(I:Inv X pins σ H s)(hl:s.heap.IsList l vs.toArray)(hlen:vs.length=ps.length)(h64:vs.length<64)
  (hcall:∀i v,vs[i]?=some v→∀H1 s1,Inv X pins σ H1 s1→(∀a o,H a=some o→H1 a=some o)→
   wpAny (model X.prog X.w) A.in1.in1 (call (.ref f) [v]) (fun u s2=>∃t H2,u=.ref t∧Inv X pins σ H2 s2∧(∀a o,H1 a=some o→H2 a=some o)∧H2 t=some (.tup [.int (at2 ps i).1,.int (at2 ps i).2])∧ec X H1 H2 s1 s2) (fun _ _=>False) s1)
  (h:∀D out H' s' c,s.heap.objs.size≤D→Srt vs ps out→Inv X pins σ H' s'→(∀a o,H a=some o→H' a=some o)→s'.heap.get? D=some (seqObj "list" out.toArray c)→H' D=none→yZ X pins H' D→Q (.ref D) s'):
  wpAny (model X.prog X.w) A (call (.builtin "sorted") [.ref l] [("key",.ref f)]) Q E s:=by
 refine call_function_entry_kw kind_sorted plain_sorted entry_sorted (ksk_s1 _ _) ?_
 unfold Builtin.«sorted»
 refine zs9 (m:=checkCount "sorted" 1 1 _) (zt2 ?_)
 refine zs9 (collect_list hl ?_ (by rw[zx2];omega))
 refine zs9 (wpAny_newList ?_ (by rw[zx2];omega))
 have hsz:((s.heap.push (seqObj "list" #[] 0)).update s.heap.objs.size (Obj.mapSeq (·++vs.toArray))).objs.size=s.heap.objs.size+1:=by
  rw[Heap.size_update,size_push']
 have hoL:(((s.heap.push (seqObj "list" #[] 0)).update s.heap.objs.size (Obj.mapSeq (·++vs.toArray))).push (seqObj "list" vs.toArray 0)).get? (s.heap.objs.size+1)=some (seqObj "list" vs.toArray 0):=by
  rw[←hsz];exact zu0 _ rfl
 have keep:∀b o,s.heap.get? b=some o→(((s.heap.push (seqObj "list" #[] 0)).update s.heap.objs.size (Obj.mapSeq (·++vs.toArray))).push (seqObj "list" vs.toArray 0)).get? b=some o:=fun b o q=>by
  have hlt:b<s.heap.objs.size:=zt6 q
  rw[Heap.get?_push_ne _ _ _ (by rw[hsz];exact zv0 (zB9 hlt)),Heap.get?_update_ne _ _ _ _ (zv0 hlt),Heap.get?_push_ne _ _ _ (zv0 hlt)]
  exact q
 show wpAny _ _ _ _ _ {s with heap:=((s.heap.push (seqObj "list" #[] 0)).update s.heap.objs.size (Obj.mapSeq (·++vs.toArray))).push (seqObj "list" vs.toArray 0)}
 rw[hsz]
 have I1:Inv X pins σ H {s with heap:=((s.heap.push (seqObj "list" #[] 0)).update s.heap.objs.size (Obj.mapSeq (·++vs.toArray))).push (seqObj "list" vs.toArray 0),toks:=s.toks}:=I.kept keep
 have lD:s.heap.objs.size≤s.heap.objs.size+1:=zA2 _
 refine zs9 (zy1 (wpAny_call_entry_kw slot_list_sort ⟨_,hoL,rfl⟩ entry_list_sort ?body (ksk_l1 _ _)))
 case body=>
  rw[ksk_t1]
  refine mz (s:={s with heap:=((s.heap.push (seqObj "list" #[] 0)).update s.heap.objs.size (Obj.mapSeq (·++vs.toArray))).push (seqObj "list" vs.toArray 0)}) I1 hoL hlen h64 (I.hok.fresh lD) (fun z=>?_) (fun H' hn=>I.fpOk lD hn) hcall fun out H' s' c so I' st e fD=>?_
  ·rcases zt4.mp (I.stkSub _ z) with q|q
   ·exact (I.fpOk (H':=fun _=>none) lD rfl).2.1 q
   ·exact (I.fpOk (H':=fun _=>none) lD rfl).2.2.1 q
  ·exact⟨_,rfl,zt2 ⟨_,rfl,h _ out H' s' c lD so I' st e fD (I.fpOk lD fD)⟩⟩
end
section
variable {X:Cx}{a:Expr}{p pos kpos lpos p1 p2 p3 p4 p5 p6:Pos}{n1:Nat}{x y:Str}{params:Arguments}{scope:Scope}
abbrev pairE (x y:Str)(n1:Nat)(p1 p2 p3 p4 p5 p6:Pos):Expr:=.Tuple [.Subscript (.Name y p1) (.Name x p2) p3,.UnaryOp .USub (.Name x p4) p5] n1 p6
def keyOf (zs:List Int)(n:Int):Int×Int:=(zs.getD n.toNat 0,-n)
theorem aA {P:Program}{w:World}{K:PySem.W.Frag}{mg:Str→Option Value}{base:Heap}{f c cl l:Addr}{A:Around}{outer:List Env}{s:Shared}{H:Hp}{u ul:Value}{k:Nat}{n:Int}{zs:List Int}
  (S:wj x y params scope) (hr:zL k A) (e0:uz P w K mg base A outer s H) (hf:H f=some (mQ f c xH params (pairE x y n1 p1 p2 p3 p4 p5 p6) scope [(y,cl)])) (hc:H c=some (tf c)) (hcl:s.heap.IsCell cl (some ul)) (fcl:H cl=none) (rv:RelV (.int n) u) (rl:RelV (.ref l) ul)
  (hb:∀pm ctv,bindArgs (PySem.W.kla_fn "<lambda>" xH params (pairE x y n1 p1 p2 p3 p4 p5 p6) scope [(y,cl)] pm (.ref c) ctv) ⟨[u],[]⟩=pure [(x,u)])
  (hdx:(x == ("__debug__":Str))=false) (hdy:(y == ("__debug__":Str))=false) (hcx:(x == ("__classdict__":Str))=false) (hcy:(y == ("__classdict__":Str))=false)
  (hl:SqL K H l (zs.map V.int)) (h0:0≤n) (h1:n<zs.length):
  codeAny (model P w) A (.call (.ref f) ⟨[u],[]⟩) (CR CX0 outer P w H s (fun v H'=>∃t,v=.ref t∧H t=none∧H'=upd H t (.tup [.int (keyOf zs n).1,.int (keyOf zs n).2])) E0) s:=by
 obtain⟨j,rfl⟩:=zD1 h0
 have hj:j<zs.length:=by omega
 refine cV S hr e0 hf hc hcl fcl rv rl hb (t:=_) (tX (zf (zM zU (yy (i:=1) rfl (Or.inr (Or.inr S.py)) hdy hcy) (yy (i:=0) rfl (Or.inl S.px) hdx hcx) (fun _ _=>rfl)) (zf (zp3 zh8 (yy (i:=0) rfl (Or.inl S.px) hdx hcx)) zu))) ?_
 refine⟨_,rfl,_,rfl,l,_,_,.int (zs.getD j 0),rfl,rfl,hl,xr ?_,_,rfl,_,rfl,(by show 2≤sizeLine;decide),fun t ht=>⟨t,rfl,ht,?_⟩⟩
 ·rw[zu7,zt3 hj,zt7,zt3 hj];rfl
 ·simp[keyOf]
def tj (ns zs ms:List Int):Prop:=ms.Perm ns∧ms.Pairwise fun m k=>lx (keyOf zs k) (keyOf zs m)=false
theorem iH {ns zs:List Int}{vs out:List Value}(r:Vals (ns.map V.int) vs)(h:Srt vs (ns.map (keyOf zs)) out):∃ms,tj ns zs ms∧Vals (ms.map V.int) out:=by
 obtain⟨ix,rfl,hl,hb,hp,hw⟩:=h
 have at_:∀i∈ix,at2 (ns.map (keyOf zs)) i=keyOf zs (ns.getD i 0):=fun i hi=>by
  have:=hb i hi
  rw[zt1] at this
  unfold at2
  rw[zt7,zu7,zt3 this,zt7,zt3 this];rfl
 have em:ix.map (at2 (ns.map (keyOf zs)))=(ix.map fun i=>ns.getD i 0).map (keyOf zs):=by
  rw[List.map_map]
  exact List.map_congr_left at_
 rw[em] at hp hw
 have inv:∀l:List Int,(l.map (keyOf zs)).map (fun q=>-q.2)=l:=fun l=>by
  rw[List.map_map]
  have:((fun q:Int×Int=>-q.2)∘keyOf zs)=id:=by funext n;simp[keyOf]
  rw[this,List.map_id]
 refine⟨ix.map fun i=>ns.getD i 0,⟨?_,List.pairwise_map.mp hw⟩,?_⟩
 ·have:=hp.map (fun q=>-q.2)
  rwa [inv,inv] at this
 ·clear em hp hw hl
  induction ix with
  |nil=>exact .nil
  |cons i ix ih=>
   refine .cons ?_ (ih (fun k hk=>hb k (zu1 _ hk)) fun k hk=>at_ k (zu1 _ hk))
   have hi:=hb i zu8
   rw[zt1] at hi
   refine pV r i _ ?_
   show _=some (V.int (ns.getD i 0))
   rw[zu7,zt3 hi,zt7,zt3 hi];rfl
theorem wD {K:PySem.W.Frag}{H H':Hp}{a:Addr}{xs:List V}(h:SqL K H a xs)(k:∀a o,(∀ps,o≠.tbl ps)→H a=some o→H' a=some o):SqL K H' a xs:=by
 rcases h with (h|⟨o,h⟩)|h
 ·exact .inl (.inl (k _ _ (fun _ z=>by cases z) h))
 ·exact .inl (.inr ⟨o,k _ _ (fun _ z=>by cases z) h⟩)
 ·exact .inr h
theorem lA {ta:TE}{j k:Nat}{c:Addr}(S:wj x y params scope)(hr:zL (k+2) X.A)(hg:Gl X "sorted")(hm:X.mg "sorted"=none)(hN:X.N[j]?=some y)(hy:X.env.scope.names.lookup y=some .cell)
  (hcl:∀cl,X.env.cells.lookup y=some cl→closureFor scope X.env=pure [(y,cl)]) (hgl:X.env.globals=mainGlobals) (hco:X.env.code=.ref c) (hhd:PySem.W.CodeHd X.base c yx) (hbi:X.base.BuiltinsAt X.mg yx) (hdf:defaultsOf params X.env=([],[])) (hq:X.env.qual++("<lambda>":Str)=xH) (hne:mainGlobals≠yx)
  (hb:∀u cl c' pm ctv,bindArgs (PySem.W.kla_fn "<lambda>" xH params (pairE x y n1 p1 p2 p3 p4 p5 p6) scope [(y,cl)] pm (.ref c') ctv) ⟨[u],[]⟩=pure [(x,u)])
  (hdx:(x == ("__debug__":Str))=false) (hdy:(y == ("__debug__":Str))=false) (hcx:(x == ("__classdict__":Str))=false) (hcy:(y == ("__classdict__":Str))=false) (ha:PE X a ta)
  (he:starEach [a] X.env=(false,eval a X.env)::starEach [] X.env:=by rfl) (he2:backTo pos (starEach [a] X.env)=(false,eval a X.env)::backTo pos (starEach [] X.env):=by rfl) (hpl:((backTo pos (starEach [a] X.env)).any fun x=>x.1)=false:=by rfl):
  PE X (.Call (.Name "sorted" p) [a] [⟨some "key",.Lambda params (pairE x y n1 p1 p2 p3 p4 p5 p6) scope lpos,kpos⟩] pos)
   (fun σ H Q=>ta σ H fun v H1=>∃l ns lp zs,v=.ref l∧SqL X.K H1 l (ns.map V.int)∧σ[j]?=some (some (.ref lp))∧SqL X.K H1 lp (zs.map V.int)∧ns.length<64∧(∀n∈ns,0≤n∧n<zs.length)∧TabAt H1∧
    ∀D H' ms,H1 D=none→H' D=some (.lst (ms.map V.int))→tj ns zs ms→TabAt H'→(∀a o,a≠yx→H1 a=some o→H' a=some o)→Q (.ref D) H'):=by
 intro pins s σ H Q I h
 refine zz9 (xx I hg hm boot_sorted ?_)
 let Pd:V→Hp→Prop:=fun v H1=>∃l ns lp zs,v=.ref l∧SqL X.K H1 l (ns.map V.int)∧σ[j]?=some (some (.ref lp))∧SqL X.K H1 lp (zs.map V.int)∧ns.length<64∧(∀n∈ns,0≤n∧n<zs.length)∧TabAt H1∧
    ∀D H' ms,H1 D=none→H' D=some (.lst (ms.map V.int))→tj ns zs ms→TabAt H'→(∀a o,a≠yx→H1 a=some o→H' a=some o)→Q (.ref D) H'
 refine callWith_kw (thn (zf ha zu he pos pins s σ H (fun vs H1=>match vs with|[v]=>Pd v H1|_=>False) I h) fun us s1 ⟨vs,H1,I1,r1,q1⟩=>?_) he2 hpl
 match vs,r1,q1 with
 |[v],r1,q1=>
  obtain⟨u,rfl,ru⟩:=vals1 r1
  obtain⟨l,ns,lp,zs,rfl,hS,hσ,hZ,h64,hin,T,q⟩:=(show Pd v H1 from q1)
  obtain⟨m,hn,hl⟩:=id I1.loc
  obtain⟨ul,rl,lk⟩:=hl j y _ hN hσ (.inr (.inl hy))
  obtain⟨cl,ecl,hcell⟩:∃cl,X.env.cells.lookup y=some cl∧s1.heap.IsCell cl (some ul):=by
   rcases lk with ⟨z,_⟩|⟨_,cl,z1,z2⟩
   ·have z:X.env.scope.names.lookup y=some .local:=z
    rw[hy] at z;cases z
   ·exact⟨cl,z1,z2⟩
  show wpAny _ _ (evalAll ((do let v ←eval (.Lambda params (pairE x y n1 p1 p2 p3 p4 p5 p6) scope lpos) X.env;standAt pos;pure v)::[])) _ _ s1
  refine wpAny_evalAll_cons (zs9 (dP I1 (hcl cl ecl) hgl hco hhd hbi hdf hq hne T fun f c' H2 s2 I2 T2 st2 tb2 hf hlam hcode=>zs9 (zF0 (zt2 (wpAny_evalAll_nil ?_)))))
  cases ru
  show wpAny _ _ (call (.builtin "sorted") [.ref l] [("key",.ref f)]) _ _ s2
  have st3:∀a o,(∀ps,o≠.tbl ps)→H1 a=some o→H2 a=some o:=fun a o no e=>st2 a o (fun z=>by
   obtain⟨ps,t1,_⟩:=T.ex
   rw[z,t1] at e;cases e;exact no _ rfl) e
  have S2:=wD hS st3
  have Z2:=wD hZ st3
  obtain⟨its,r,ht,hz⟩:=I2.list S2
  have lenI:its.length=ns.length:=by rw[←r.length,zt1]
  refine pj (ps:=ns.map (keyOf zs)) I2 ht.isList (by rw[zt1];exact lenI) (by omega) (fun i v hv H3 s3 I3 st3=>?_) fun D out H' s' c0 lD so I' st e fD fp=>?_
  ·have hi:i<ns.length:=by rw[←lenI];exact (zt5.mp hv).1
   have rv:RelV (.int ns[i]) v:=by
    have:=pV r i (.int ns[i]) (by rw[zu7,zt3 hi];rfl)
    rwa [zt7,hv] at this
   obtain⟨m3,hn3,hl3⟩:=id I3.loc
   obtain⟨ul3,rl3,lk3⟩:=hl3 j y _ hN hσ (.inr (.inl hy))
   have cell3:s3.heap.IsCell cl (some ul3):=by
    rcases lk3 with ⟨z,_⟩|⟨_,cl3,z1,z2⟩
    ·have z:X.env.scope.names.lookup y=some .local:=z
     rw[hy] at z;cases z
    ·rw[ecl] at z1;cases z1;exact z2
   have hb3:=hin ns[i] (zE7 hi)
   have ek:at2 (ns.map (keyOf zs)) i=keyOf zs ns[i]:=by
    unfold at2
    rw[zt7,zu7,zt3 hi];rfl
   rw[ek]
   have Z3:=wD Z2 fun a o _ e=>st3 a o e
   refine zG5 (zE0 (aA S hr.in1.in1 I3.env0.in1.in1 (st3 _ _ hlam) (st3 _ _ hcode) cell3 (I3.freeC y cl ecl) rv rl3 (fun pm ctv=>hb _ _ _ pm ctv) hdx hdy hcx hcy Z3 hb3.1 hb3.2) fun rr s4 hq4=>?_)
   cases rr with
   |error e=>exact False.elim hq4
   |ok fl=>
    cases fl with
    |next=>exact False.elim hq4
    |brk=>exact False.elim hq4
    |cont=>exact False.elim hq4
    |ret u4=>
     obtain⟨v4,H4,os,bare,un,hok,r4,t,rfl,ht4,eH4⟩:=hq4
     cases r4
     obtain⟨hh,g,d,tk,os'⟩:=s4
     obtain rfl:os'=s3.os:=os
     refine⟨t,H4,rfl,I3.call (h':=hh) (g':=g) (d':=d) (t':=tk) (ch:=[]) un hok bare (fun b z=>absurd z (by simp)),fun a o e=>?_,by rw[eH4];exact zk,fun b o e n nf=>⟨un.keep b o e n nf (by simp),un.free b o e n (by simp)⟩⟩
     rw[eH4,zd (zo e ht4)];exact e
  ·obtain⟨ms,sm,rm⟩:=iH r so
   have nD:∀a o,H' a=some o→a≠D:=fun a o e z=>by rw[z,fD] at e;cases e
   have h2D:H2 D=none:=I2.hok.fresh lD
   have stD:∀a o,H2 a=some o→upd H' D (.lst (ms.map V.int)) a=some o:=fun a o e=>by rw[zd (nD a o (st a o e))];exact st a o e
   refine⟨.ref D,upd H' D (.lst (ms.map V.int)),I'.adopt fp ⟨?_,out,c0,rm,e⟩,rfl,q D _ ms ?_ zk sm (T2.same fun a o _ e=>stD a o e) fun a o no e=>stD a o (st2 a o no e)⟩
   ·rw[zt1,sm.1.length_eq,zx2];omega
   ·cases z:H1 D with
    |none=>rfl
    |some o=>
     by_cases nt:∀ps,o≠.tbl ps
     ·rw[st3 D o nt z] at h2D;cases h2D
     ·simp only[Classical.not_forall,Classical.not_not] at nt
      obtain⟨qs,rfl⟩:=nt
      obtain⟨qs',w'⟩:=tb2 D qs z
      rw[w'] at h2D;cases h2D
end
section
variable {X:Cx}{α:Ev}{p q pos:Pos}{a b:Expr}
theorem tU {G:Hp}:∀ns:List Int,AVs G (ns.map V.int) (ns.map .int)
 |[]=>.nil
 |n::ns=>.cons (.int n) (tU ns)
theorem pW {Q:List PyData→Prop}(hc:X.calm=true)(hg:Gl X "list")(hm:X.mg "list"=none)(hg2:Gl X "range")(hm2:X.mg "range"=none)(h:EvD X α a fun x=>EvD X α b fun y=>∃i j,x=.int i∧y=.int j∧(-(2 ^ 62)≤i∧i<2 ^ 62∧-(2 ^ 62)≤j∧j<2 ^ 62)∧(j-i).toNat≤1000∧Q ((zw i (j-i).toNat).map .int))
  (he:starEach [.Call (.Name "range" q) [a,b] [] p] X.env=(false,eval (.Call (.Name "range" q) [a,b] [] p) X.env)::starEach [] X.env:=by rfl) (he2:starEach [a,b] X.env=(false,eval a X.env)::starEach [b] X.env:=by rfl) (he3:starEach [b] X.env=(false,eval b X.env)::starEach [] X.env:=by rfl)
  (hpl:(backTo p (starEach [b] X.env)).any (·.1)=false:=by rfl) {p0:Pos}:EvL X α (.Call (.Name "list" p0) [.Call (.Name "range" q) [a,b] [] p] [] pos) Q:=fun F σ H R m k=>by
 refine⟨_,vF (rj hc) hg hm boot_list (zf (vF pN hg2 hm2 boot_range (zf zr (zf zr zu he3) he2) (he:=he2) (hpl:=hpl)) zu he) (he:=he),?_⟩
 refine h F σ H _ m fun x vx H1 q1 t1 k1 r1=>?_
 have m1:=m.kz k1 t1
 refine q1 F σ H1 _ m1 fun y vy H2 q2 t2 k2 r2=>?_
 have m2:=m1.kz k2 t2
 obtain⟨i,j,rfl,rfl,⟨b1,b2,b3,b4⟩,hz,q⟩:=q2
 cases r1.int_inv;cases r2.int_inv
 refine⟨i,j,rfl,fun r hr=>?_⟩
 refine⟨r,i,j,rfl,zk,⟨b1,b2,b3,b4⟩,zy6 (yG hz),by omega,fun l hl=>?_⟩
 have nlr:l≠r:=fun z=>by rw[z,zk] at hl;cases hl
 have hl':H2 l=none:=by rw[zd nlr] at hl;exact hl
 have kk:=k1.trans k2
 have s1:zC H2 (upd (upd H2 r (.rng i j)) l (.lst ((zw i (j-i).toNat).map V.int))):=(yr hr).trans (yr hl)
 refine k _ _ _ q (t2.same s1) (kk.trans (Kz.of_same s1)) ⟨l,_,rfl,?_,zk,tU _⟩
 cases z:H l with
 |none=>rfl
 |some o=>rw[kk l o z (m.tp.nt (ow0 (m2.fresh hl')))] at hl';cases hl'
end
section
variable {X:Cx}{α:Ev}{p pos:Pos}{a b:Expr}{Q:PyData→Prop}
end
theorem AVs.ints {H:Hp}:∀{xs:List V} {ns:List Int},AVs H xs (ns.map .int)→xs=ns.map V.int
 |_,[],.nil=>rfl
 |_,n::ns,.cons h hs=>by rw[zx0,AVs.ints hs,h.int_inv]
section
variable {X:Cx}{α:Ev}{a:Expr}{p pos kpos lpos p1 p2 p3 p4 p5 p6:Pos}{n1:Nat}{x y:Str}{params:Arguments}{scope:Scope}
structure iK (X:Cx)(c:Addr)(x y:Str)(n1:Nat)(p1 p2 p3 p4 p5 p6:Pos)(params:Arguments)(scope:Scope):Prop where
 S:wj x y params scope
 hy:X.env.scope.names.lookup y=some .cell
 hcl:∀cl,X.env.cells.lookup y=some cl→closureFor scope X.env=pure [(y,cl)]
 hgl:X.env.globals=mainGlobals
 hco:X.env.code=.ref c
 hhd:PySem.W.CodeHd X.base c yx
 hbi:X.base.BuiltinsAt X.mg yx
 hdf:defaultsOf params X.env=([],[])
 hq:X.env.qual++("<lambda>":Str)=xH
 hne:mainGlobals≠yx
 hb:∀u cl c' pm ctv,bindArgs (PySem.W.kla_fn "<lambda>" xH params (pairE x y n1 p1 p2 p3 p4 p5 p6) scope [(y,cl)] pm (.ref c') ctv) ⟨[u],[]⟩=pure [(x,u)]
 hdx:(x == ("__debug__":Str))=false
 hdy:(y == ("__debug__":Str))=false
 hcx:(x == ("__classdict__":Str))=false
 hcy:(y == ("__classdict__":Str))=false
theorem ma {j k:Nat}{c:Addr}{Q:List PyData→Prop}(T:iK X c x y n1 p1 p2 p3 p4 p5 p6 params scope)(hr:zL (k+2) X.A)(hg:Gl X "sorted")(hm:X.mg "sorted"=none)(hN:X.N[j]?=some y)
  (h:EvD X α a fun d=>∃ns zs:List Int,d=.list (ns.map .int)∧α[j]?=some (some (.dat (.list (zs.map .int))))∧ns.length<64∧(∀n∈ns,0≤n∧n<zs.length)∧∀ms,tj ns zs ms→Q (ms.map .int))
  (he:starEach [a] X.env=(false,eval a X.env)::starEach [] X.env:=by rfl) (he2:backTo pos (starEach [a] X.env)=(false,eval a X.env)::backTo pos (starEach [] X.env):=by rfl) (hpl:((backTo pos (starEach [a] X.env)).any fun x=>x.1)=false:=by rfl):
  EvL X α (.Call (.Name "sorted" p) [a] [⟨some "key",.Lambda params (pairE x y n1 p1 p2 p3 p4 p5 p6) scope lpos,kpos⟩] pos) Q:=fun F σ H R m k=>by
 refine⟨_,lA (j:=j) T.S hr hg hm hN T.hy T.hcl T.hgl T.hco T.hhd T.hbi T.hdf T.hq T.hne T.hb T.hdx T.hdy T.hcx T.hcy zr he he2 hpl,?_⟩
 refine h F σ H _ m fun d vx H1 q1 t1 k1 r1=>?_
 have m1:=m.kz k1 t1
 obtain⟨ns,zs,rfl,hz,h64,hin,q⟩:=q1
 obtain⟨l,xs,rfl,g1,g2⟩:=r1.lst_inv
 obtain⟨v,s1,s2⟩:=m1.dat j _ hz
 obtain⟨lp,ys,rfl,g3,g4⟩:=s2.lst_inv
 cases g2.ints;cases g4.ints
 refine⟨l,ns,lp,zs,rfl,SqL.of (zm g1).2,s1,SqL.of (zm g3).2,h64,hin,t1.tab,fun D H' ms hD hD' sm tb kp=>?_⟩
 have tl:∀a xs,H1 a=some (.lst xs)→H' a=some (.lst xs):=fun a xs e=>kp a _ (fun z=>by
  obtain⟨ps,e1,_⟩:=t1.tab.ex
  rw[z,e1] at e;cases e) e
 have kz:Kz F H1 H':=fun x o e n=>kp x o n.2 e
 refine k _ _ H' (q ms sm) ⟨tb,t1.ot,fun t b c e=>⟨?_,(t1 t b c e).2⟩⟩ (k1.trans kz) ⟨D,_,rfl,?_,hD',tU _⟩
 ·obtain⟨n,bs,cs,n1,e1,e2,e3,l1,l2⟩:=(t1 t b c e).1.ex
  exact⟨n,bs,cs,n1,tl _ _ e1,tl _ _ e2,tl _ _ e3,l1,l2⟩
 ·cases z:H D with
  |none=>rfl
  |some o=>rw[k1 D o z (m.tp.nt (ow0 (m1.fresh hD)))] at hD;cases hD
end
section
variable {P:Program}{w:World}{K:PySem.W.Frag}{mg:Str→Option Value}{base:Heap}
theorem zq8 {x qual:Str}{st:Stmt}{f:Addr}{N ps:List Str}{k:Nat}{φ:List A→(A→Prop)→Prop}{oc:Value}{od an:Option Addr}{osl:Array (Option Value)}{kV doc pm cdv ct:Value}
  (lk:K.lookup f=some ⟨oc,od,.func (PySem.W.fnOf x qual (zN st) (zB st) (zc st) .none kV doc pm an cdv ct),osl⟩) (hcd:PySem.W.codeIn K cdv qual=true) (S:zp N ps (zc st)) (hlen:∀as Q,φ as Q→as.length=ps.length)
  (hbody:∀(A':Around) (outer:List Env) (s:Shared) (H:Hp) (E:XK) (as:List A) (Q:A→Prop),zL k (A'.deeper (envOfC qual (zc st) s.heap.objs.size f cdv))→φ as Q→
   SvS (xB CX0 P w K mg base N qual (zc st) f cdv A' outer s H E).nox (as.map some++List.replicate (N.length-as.length) none) (zB st) {nx:=fun _=>Q (.dat .none),rt:=Q}):zD P w K mg base CX0 (k+1) f (PySem.W.fnOf x qual (zN st) (zB st) (zc st) .none kV doc pm an cdv ct) ps (spA φ):=by
 refine kH lk hcd S (fun vs H Q E h=>?_) (fun A' outer s H vs Qc E hr h=>?_)
 ·obtain⟨F,as,Q',_,_,_,rv,hφ,_⟩:=h
  rw[rv.length,hlen as _ hφ]
 ·obtain⟨F,as,Q',e,t,o,rv,hφ,kk⟩:=h
  have:=hbody A' outer s H E as Q' hr hφ F _ H {nx:=fun _ H'=>Qc .non H',rt:=Qc} (M.start e t o rv) ⟨fun α σ H' m q=>?_,fun a v H' r q=>kk a v H' q r,fun _ _ _ _ z=>z.elim,fun _ _ _ _ z=>z.elim⟩
  ·obtain⟨t,h,q⟩:=this
   exact⟨t,h.nox,q⟩
  ·exact kk _ _ _ q ⟨m.tp,m.keep,.non⟩
end
section
variable {X:Cx}{α:Ev}{Q:PyData→Prop}{a b:Expr}{pos:Pos}
end
theorem pZ (c:Int)(n:Nat):zw c (n+1)=zw c n++[c+(n:Nat)]:=by
 simp[zw,List.range_succ]
theorem yu {c m:Int}{n:Nat}:m∈zw c n↔c≤m∧m<c+n:=by
 simp only[zw,zG4,List.mem_range]
 constructor
 ·rintro⟨i,hi,rfl⟩;omega
 ·rintro⟨h1,h2⟩;exact⟨(m-c).toNat,by omega,by omega⟩
theorem uE (c:Int):∀n:Nat,(zw c n).Nodup
 |0=>by simp[zw]
 |n+1=>by
  rw[pZ,List.nodup_append]
  refine⟨uE c n,by simp,?_⟩
  intro a ha b hb
  rw[yu] at ha
  simp at hb
  omega
def uM (zs:List Int)(many free i:Nat)(bs:List Bool):Prop:=
 bs.length=zs.length∧(∀j,i / many*many≤j→bs.getD j false=false)∧∀k,k<i / many→∃ms:List Int,tj (zw ((k*many:Nat):Int) many) zs ms∧∀q,q<many→bs.getD (ms.getD q 0).toNat false=decide (q<free)
theorem qg (zs:List Int){many:Nat}(free:Nat):uM zs many free 0 (List.replicate zs.length false):=by
 refine⟨by simp,fun j _=>?_,fun k hk=>?_⟩
 ·rw[zt7,zy8]
  split<;>rfl
 ·rw[Nat.zero_div] at hk;omega
theorem sT {i many:Nat}(h:0<many)(h1:i % many+1<many):(i+1) / many=i / many∧(i+1) % many=i % many+1:=by
 have e:=zD5 i many
 have e2:i+1=(i % many+1)+many*(i / many):=by omega
 constructor
 ·rw[e2,Nat.add_mul_div_left _ _ h,Nat.div_eq_of_lt h1,Nat.zero_add]
 ·rw[e2,Nat.add_mul_mod_self_left,Nat.mod_eq_of_lt h1]
theorem tN {i many:Nat}(h:0<many)(h1:i % many+1=many):(i+1) / many=i / many+1∧(i+1) % many=0∧(i / many+1)*many=i+1:=by
 have e:=zD5 i many
 have e3:many*(i / many+1)=i+1:=by rw[Nat.mul_add,Nat.mul_one];omega
 refine⟨?_,?_,?_⟩
 ·rw[←e3,Nat.mul_div_cancel_left _ h]
 ·rw[←e3,Nat.mul_mod_right]
 ·rw[zI1];exact e3
theorem rS {zs:List Int}{many free i:Nat}{bs:List Bool}(h:0<many)(h1:i % many+1<many)(m:uM zs many free i bs):uM zs many free (i+1) bs:=by
 unfold uM at *
 rw[(sT h h1).1]
 exact m
theorem vC {lo:Int}{n:Nat}{zs ms:List Int}(s:tj (zw lo n) zs ms){q:Nat}(h:q<n):lo≤ms.getD q 0∧ms.getD q 0<lo+n:=by
 have hl:ms.length=n:=by rw[s.1.length_eq,zh]
 have:ms.getD q 0∈ms:=by
  rw[zt7,zt3 (by omega)]
  exact zE7 _
 exact yu.mp (s.1.mem_iff.mp this)
theorem rN {zs ms:List Int}{many free i:Nat}{bs bs':List Bool}(h:0<many)(h1:i % many+1=many)(m:uM zs many free i bs)(s:tj (zw ((i / many*many:Nat):Int) many) zs ms)
  (e0:bs'.length=bs.length) (e1:∀q,q<many→bs'.getD (ms.getD q 0).toNat false=decide (q<free)) (e2:∀j,(∀q,q<many→(ms.getD q 0).toNat≠j)→bs'.getD j false=bs.getD j false):uM zs many free (i+1) bs':=by
 obtain⟨d1,d2,d3⟩:=tN h h1
 obtain⟨m1,m2,m3⟩:=m
 refine⟨by rw[e0,m1],fun j hj=>?_,fun k hk=>?_⟩
 ·rw[d1,d3] at hj
  have e:=zD5 i many
  have e4:i / many*many=many*(i / many):=zI1 _ _
  rw[e2 j fun q hq=>?_,m2 j (by omega)]
  have:=vC s hq
  omega
 ·rw[d1] at hk
  by_cases hk2:k=i / many
  ·subst hk2
   exact⟨ms,s,e1⟩
  ·obtain⟨ms2,s2,f2⟩:=m3 k (by omega)
   refine⟨ms2,s2,fun q hq=>?_⟩
   rw[e2 _ fun q2 hq2=>?_,f2 q hq]
   have a1:=vC s hq2
   have a2:=vC s2 hq
   have:(k+1)*many≤i / many*many:=Nat.mul_le_mul_right _ (by omega)
   rw[Nat.add_mul,Nat.one_mul] at this
   omega
theorem zd5 {lo:Int}{n:Nat}{zs ms:List Int}(s:tj (zw lo n) zs ms){m:Int}(h1:lo≤m)(h2:m<lo+n):∃q,q<n∧ms.getD q 0=m:=by
 have hl:ms.length=n:=by rw[s.1.length_eq,zh]
 obtain⟨q,hq,e⟩:=List.mem_iff_getElem.mp (s.1.mem_iff.mpr (yu.mpr ⟨h1,h2⟩))
 exact⟨q,by omega,by rw[zt7,zt3 hq];exact e⟩
open PySem (IsZip)
section
variable {prog:Program}{w:World}{A:Around}{E:Value→Shared→Prop}{s:Shared}
theorem uV {M:Model}{a:Addr}{Q:Option Obj→Shared→Prop}(h:Q (s.heap.get? a) s):wpAny M A (loadIfAlive a) Q E s:=fun Γ p hΓ=>by
 show Sem.wp M Γ (.loadIfAlive a .pure) _ _ p s
 rw[Sem.wp_loadIfAlive]
 exact h
abbrev zO (f0 f1:Value)(TI TO:Addr):Obj:={cls:=.type "zip",dict:=none,data:=.fields #[f0,f1,.bool false,.ref TI,.ref TO],slots:=#[]}
abbrev tO3 (a b c:Value):Obj:={cls:=.type "tuple",data:=.seq #[a,b,c]}
theorem xZ {T:Addr}{a b c x:Value}{k:Nat}{Q:Unit→Shared→Prop}(hT:s.heap.get? T=some (tO3 a b c))
  (h:∀h',h'.get? T=some {cls:=.type "tuple",data:=.seq ((#[a,b,c]:Array Value).setIfInBounds k x)}→Heap.SameBut T s.heap h'→Q () {s with heap:=h'}):
  wpAny (model prog w) A (updateSeq T (·.setIfInBounds k x)) Q E s:=by
 refine zF8 hT rfl (h _ ?_ (zF4 ..))
 rw[zy2 _ hT rfl]
 simp[Obj.mapSeq]
structure wQ (h:Heap)(n:Nat)(l1 l2 l3:Addr)(k:Nat)(f0 f1 a b c:Value):Prop where
 z:h.get? (n+5:Nat)=some (zO f0 f1 (n+3:Nat) (n+4:Nat))
 ti:h.get? (n+3:Nat)=some (tO3 (.ref (n:Nat)) (.ref (n+1:Nat)) (.ref (n+2:Nat)))
 to:h.get? (n+4:Nat)=some (tO3 a b c)
 i1:h.IsListIter (n:Nat) l1 k
 i2:h.IsListIter (n+1:Nat) l2 k
 i3:h.IsListIter (n+2:Nat) l3 k
abbrev z3 (n:Nat):List Addr:=[(n:Nat),(n+1:Nat),(n+2:Nat),(n+3:Nat),(n+4:Nat),(n+5:Nat)]
theorem zx (a b:Nat)(h:a<b∨b<a):@Ne Addr a b:=fun e=>by
 have e:@Eq Nat a b:=e
 omega
theorem nM {n l1 l2 l3:Nat}{k:Nat}{f1 a b c x y z:Value}{xs ys zs:Array Value}{Q:Value→Shared→Prop}(h1:l1<n)(h2:l2<n)(h3:l3<n)(Z:wQ s.heap n l1 l2 l3 k .none f1 a b c)
  (hl1:s.heap.IsList l1 xs) (hl2:s.heap.IsList l2 ys) (hl3:s.heap.IsList l3 zs) (hx:xs[k]?=some x) (hy:ys[k]?=some y) (hz:zs[k]?=some z)
  (hQ:∀h',wQ h' n l1 l2 l3 (k+1) (rawInt s.heap.objs.size) (.bool false) x y z→h'.get? s.heap.objs.size=some (tO3 x y z)→
   (∀c o,c∉z3 n→s.heap.get? c=some o→h'.get? c=some o)→Q (.ref s.heap.objs.size) {s with heap:=h'}):
  wpAny (model prog w) A (Builtin.«zip.__next__» ⟨[.ref (n+5:Nat)],[]⟩) (fun fin s'=>∃v,fin=.done (.ret v)∧Q v s') E s:=by
 obtain⟨hz0,hTI,hTO,g1,g2,g3⟩:=Z
 show wpAny _ _ (field (.ref _) 2 >>= _) _ _ _
 refine zs9 (zv7 hz0 rfl (x:=.bool false) rfl ?_)
 show wpAny _ _ (field (.ref _) 3 >>= _) _ _ _
 refine zs9 (zv7 hz0 rfl (x:=.ref (n+3:Nat)) rfl ?_)
 refine zs9 (zw7 hTI rfl ?_)
 show wpAny _ _ (Builtin.SmallTypes.ownedTupleIsFree (.ref (n+5:Nat)) >>= _) _ _ _
 refine zs9 ?_
 unfold Builtin.SmallTypes.ownedTupleIsFree
 refine zs9 (zv7 hz0 rfl (x:=.none) rfl (zt2 ?_))
 simp only[zF2]
 refine zs9 (zI0 ?_)
 refine zs9 (zv7 hz0 rfl (x:=.ref (n+4:Nat)) rfl ?_)
 refine zs9 (zw8 hz0 (by simp) fun h₁ hz₁ hs₁=>?_)
 replace hz₁:h₁.get? (n+5:Nat)=some (zO .ellipsis f1 (n+3:Nat) (n+4:Nat)):=hz₁
 refine zs9 ?_
 simp only[zH3,zI2,zz0,zA7]
 refine zs9 (zs9 (zB6 ?_))
 show wpAny _ _ (Builtin.SmallTypes.nextOf (.ref (n:Nat)) >>= _) _ _ _
 refine zs9 (zw5 (g1.extBut hs₁.extBut (by refine zx _ _ ?_;omega)) (hl1.extBut hs₁.extBut (by refine zx _ _ ?_;omega)) hx fun h₂ g1₂ hs₂=>zt2 ?_)
 have hTO₂:h₂.get? (n+4:Nat)=some (tO3 a b c):=hs₂.extBut _ _ (by refine zx _ _ ?_;omega) (hs₁.extBut _ _ (by refine zx _ _ ?_;omega) hTO)
 refine zs9 (zw7 hTO₂ rfl ?_)
 refine zs9 (xZ hTO₂ fun h₃ hTO₃ hs₃=>?_)
 replace hTO₃:h₃.get? (n+4:Nat)=some (tO3 x b c):=hTO₃
 refine zs9 (zC4 (zt2 ?_))
 refine zs9 (zs9 (zB6 ?_))
 show wpAny _ _ (Builtin.SmallTypes.nextOf (.ref (n+1:Nat)) >>= _) _ _ _
 refine zs9 (zw5 (((g2.extBut hs₁.extBut (by refine zx _ _ ?_;omega)).extBut hs₂.extBut (by refine zx _ _ ?_;omega)).extBut hs₃.extBut (by refine zx _ _ ?_;omega))
  (((hl2.extBut hs₁.extBut (by refine zx _ _ ?_;omega)).extBut hs₂.extBut (by refine zx _ _ ?_;omega)).extBut hs₃.extBut (by refine zx _ _ ?_;omega)) hy fun h₄ g2₄ hs₄=>zt2 ?_)
 have hTO₄:h₄.get? (n+4:Nat)=some (tO3 x b c):=hs₄.extBut _ _ (by refine zx _ _ ?_;omega) hTO₃
 refine zs9 (zw7 hTO₄ rfl ?_)
 refine zs9 (xZ hTO₄ fun h₅ hTO₅ hs₅=>?_)
 replace hTO₅:h₅.get? (n+4:Nat)=some (tO3 x y c):=hTO₅
 refine zs9 (zC4 (zt2 ?_))
 refine zs9 (zs9 (zB6 ?_))
 show wpAny _ _ (Builtin.SmallTypes.nextOf (.ref (n+2:Nat)) >>= _) _ _ _
 refine zs9 (zw5 (((((g3.extBut hs₁.extBut (by refine zx _ _ ?_;omega)).extBut hs₂.extBut (by refine zx _ _ ?_;omega)).extBut hs₃.extBut (by refine zx _ _ ?_;omega)).extBut hs₄.extBut (by refine zx _ _ ?_;omega)).extBut hs₅.extBut (by refine zx _ _ ?_;omega))
  (((((hl3.extBut hs₁.extBut (by refine zx _ _ ?_;omega)).extBut hs₂.extBut (by refine zx _ _ ?_;omega)).extBut hs₃.extBut (by refine zx _ _ ?_;omega)).extBut hs₄.extBut (by refine zx _ _ ?_;omega)).extBut hs₅.extBut (by refine zx _ _ ?_;omega)) hz fun h₆ g3₆ hs₆=>zt2 ?_)
 have hTO₆:h₆.get? (n+4:Nat)=some (tO3 x y c):=hs₆.extBut _ _ (by refine zx _ _ ?_;omega) hTO₅
 refine zs9 (zw7 hTO₆ rfl ?_)
 refine zs9 (xZ hTO₆ fun h₇ hTO₇ hs₇=>?_)
 replace hTO₇:h₇.get? (n+4:Nat)=some (tO3 x y z):=hTO₇
 refine zs9 (zC4 (zt2 (zt2 ?_)))
 refine zs9 (zw7 hTO₇ rfl ?_)
 refine zs9 (zE3 ?_)
 have hsz:h₇.objs.size=s.heap.objs.size:=by rw[hs₇.1,hs₆.1,hs₅.1,hs₄.1,hs₃.1,hs₂.1,hs₁.1]
 have up7:∀c o,c≠(n+5:Nat)→c≠(n:Nat)→c≠(n+4:Nat)→c≠(n+1:Nat)→c≠(n+2:Nat)→s.heap.get? c=some o→h₇.get? c=some o:=fun c o c1 c2 c3 c4 c5 e=>
  hs₇.extBut _ _ c3 (hs₆.extBut _ _ c5 (hs₅.extBut _ _ c3 (hs₄.extBut _ _ c4 (hs₃.extBut _ _ c3 (hs₂.extBut _ _ c2 (hs₁.extBut _ _ c1 e))))))
 have hz₇:h₇.get? (n+5:Nat)=some (zO .ellipsis f1 (n+3:Nat) (n+4:Nat)):=hs₇.extBut _ _ (by refine zx _ _ ?_;omega) (hs₆.extBut _ _ (by refine zx _ _ ?_;omega) (hs₅.extBut _ _ (by refine zx _ _ ?_;omega) (hs₄.extBut _ _ (by refine zx _ _ ?_;omega) (hs₃.extBut _ _ (by refine zx _ _ ?_;omega) (hs₂.extBut _ _ (by refine zx _ _ ?_;omega) hz₁)))))
 have g1₇:h₇.IsListIter (n:Nat) l1 (k+1):=((((g1₂.extBut hs₃.extBut (by refine zx _ _ ?_;omega)).extBut hs₄.extBut (by refine zx _ _ ?_;omega)).extBut hs₅.extBut (by refine zx _ _ ?_;omega)).extBut hs₆.extBut (by refine zx _ _ ?_;omega)).extBut hs₇.extBut (by refine zx _ _ ?_;omega)
 have g2₇:h₇.IsListIter (n+1:Nat) l2 (k+1):=((g2₄.extBut hs₅.extBut (by refine zx _ _ ?_;omega)).extBut hs₆.extBut (by refine zx _ _ ?_;omega)).extBut hs₇.extBut (by refine zx _ _ ?_;omega)
 have g3₇:h₇.IsListIter (n+2:Nat) l3 (k+1):=g3₆.extBut hs₇.extBut (by refine zx _ _ ?_;omega)
 have hTI₇:=up7 _ _ (by refine zx _ _ ?_;omega) (by refine zx _ _ ?_;omega) (by refine zx _ _ ?_;omega) (by refine zx _ _ ?_;omega) (by refine zx _ _ ?_;omega) hTI
 have hzlt:(n+5:Nat)<h₇.objs.size:=zt6 hz₇
 show wpAny _ _ (Builtin.SmallTypes.ownedTupleHandOut (.ref (n+5:Nat)) (.ref h₇.objs.size) >>= _) _ _ _
 refine zs9 ?_
 unfold Builtin.SmallTypes.ownedTupleHandOut
 have hz₈:(h₇.push {cls:=.type "tuple",data:=.seq #[x,y,z]}).get? (n+5:Nat)=some (zO .ellipsis f1 (n+3:Nat) (n+4:Nat)):=zt0 _ hz₇
 refine zs9 (zw8 hz₈ (by simp) fun h₉ hz₉ hs₉=>?_)
 replace hz₉:h₉.get? (n+5:Nat)=some (zO (rawInt h₇.objs.size) f1 (n+3:Nat) (n+4:Nat)):=hz₉
 refine zw8 hz₉ (by simp) fun hA hzA hsA=>?_
 replace hzA:hA.get? (n+5:Nat)=some (zO (rawInt h₇.objs.size) (.bool false) (n+3:Nat) (n+4:Nat)):=hzA
 have up:∀c o,c≠(n+5:Nat)→h₇.get? c=some o→hA.get? c=some o:=fun c o c1 e=>hsA.extBut _ _ c1 (hs₉.extBut _ _ c1 (zt0 _ e))
 have hTA:hA.get? h₇.objs.size=some (tO3 x y z):=hsA.extBut _ _ (zz4 hzlt) (hs₉.extBut _ _ (zz4 hzlt) (zu0 _ rfl))
 rw[hsz] at hzA hTA
 refine zt2 ⟨_,rfl,?_⟩
 show Q (.ref h₇.objs.size) _
 rw[hsz]
 refine hQ hA ⟨hzA,up _ _ (by refine zx _ _ ?_;omega) hTI₇,up _ _ (by refine zx _ _ ?_;omega) hTO₇,g1₇.at fun o e=>up _ o (by refine zx _ _ ?_;omega) e,g2₇.at fun o e=>up _ o (by refine zx _ _ ?_;omega) e,g3₇.at fun o e=>up _ o (by refine zx _ _ ?_;omega) e⟩ hTA fun c o hc e=>?_
 simp only[z3,zt4,zt9,zv5,not_or] at hc
 exact up c o hc.2.2.2.2.2 (up7 c o hc.2.2.2.2.2 hc.1 hc.2.2.2.2.1 hc.2.1 hc.2.2.1 e)
theorem rE {n l1 l2 l3 k T:Nat}{f1 a b c:Value}{ot:Obj}{Q:Bool→Shared→Prop}(h1:l1<n)(h2:l2<n)(h3:l3<n)(Z:wQ s.heap n l1 l2 l3 k (rawInt (T:Nat)) f1 a b c)(hT:s.heap.get? T=some ot)
  (hQ:∀h' f1',wQ h' n l1 l2 l3 k (rawInt (T:Nat)) f1' a b c→h'.objs.size=s.heap.objs.size→(∀c o,c≠(n+5:Nat)→s.heap.get? c=some o→h'.get? c=some o)→Q false {s with heap:=h'}):
  wpAny (model prog w) A (Builtin.SmallTypes.ownedTupleIsFree (.ref (n+5:Nat))) Q E s:=by
 obtain⟨hz0,hTI,hTO,g1,g2,g3⟩:=Z
 unfold Builtin.SmallTypes.ownedTupleIsFree
 refine zs9 (zv7 hz0 rfl (x:=rawInt (T:Nat)) rfl ?_)
 show wpAny _ _ (loadIfAlive ((T:Int).toNat) >>= _) _ _ _
 refine zs9 (uV ?_)
 rw[show ((T:Int).toNat)=T from zG8 T,hT]
 show wpAny _ _ (field (.ref (n+5:Nat)) 1 >>= _) _ _ _
 refine zs9 (zv7 hz0 rfl (x:=f1) rfl ?_)
 refine wpAny_ite_split (fun _=>?_) (fun _=>?_)
 ·refine zs9 (zw8 hz0 (by simp) fun h₁ hz₁ hs₁=>zt2 ?_)
  replace hz₁:h₁.get? (n+5:Nat)=some (zO (rawInt (T:Nat)) (.bool true) (n+3:Nat) (n+4:Nat)):=hz₁
  exact hQ h₁ _ ⟨hz₁,hs₁.extBut _ _ (by refine zx _ _ ?_;omega) hTI,hs₁.extBut _ _ (by refine zx _ _ ?_;omega) hTO,g1.extBut hs₁.extBut (by refine zx _ _ ?_;omega),g2.extBut hs₁.extBut (by refine zx _ _ ?_;omega),g3.extBut hs₁.extBut (by refine zx _ _ ?_;omega)⟩ hs₁.1 fun c o hc e=>hs₁.extBut _ _ hc e
 ·exact zt2 (hQ s.heap f1 ⟨hz0,hTI,hTO,g1,g2,g3⟩ rfl fun _ _ _ e=>e)
theorem jM {n l1 l2 l3 k T:Nat}{f1 a b c x y z:Value}{ot:Obj}{xs ys zs:Array Value}{Q:Value→Shared→Prop}(h1:l1<n)(h2:l2<n)(h3:l3<n)(Z:wQ s.heap n l1 l2 l3 k (rawInt (T:Nat)) f1 a b c)(hT:s.heap.get? T=some ot)
  (hl1:s.heap.IsList l1 xs) (hl2:s.heap.IsList l2 ys) (hl3:s.heap.IsList l3 zs) (hx:xs[k]?=some x) (hy:ys[k]?=some y) (hz:zs[k]?=some z)
  (hQ:∀h' f1',wQ h' n l1 l2 l3 (k+1) (rawInt (T:Nat)) f1' a b c→h'.get? s.heap.objs.size=some (tO3 x y z)→
   (∀c o,c∉z3 n→s.heap.get? c=some o→h'.get? c=some o)→Q (.ref s.heap.objs.size) {s with heap:=h'}):
  wpAny (model prog w) A (Builtin.«zip.__next__» ⟨[.ref (n+5:Nat)],[]⟩) (fun fin s'=>∃v,fin=.done (.ret v)∧Q v s') E s:=by
 show wpAny _ _ (field (.ref _) 2 >>= _) _ _ _
 refine zs9 (zv7 Z.z rfl (x:=.bool false) rfl ?_)
 show wpAny _ _ (field (.ref _) 3 >>= _) _ _ _
 refine zs9 (zv7 Z.z rfl (x:=.ref (n+3:Nat)) rfl ?_)
 refine zs9 (zw7 Z.ti rfl ?_)
 show wpAny _ _ (Builtin.SmallTypes.ownedTupleIsFree (.ref (n+5:Nat)) >>= _) _ _ _
 refine zs9 (rE h1 h2 h3 Z hT fun hB f1' ZB szB kB=>?_)
 obtain⟨hz0,hTI,hTO,g1,g2,g3⟩:=ZB
 replace hl1:hB.IsList l1 xs:=hl1.at fun o e=>kB _ o (by refine zx _ _ ?_;omega) e
 replace hl2:hB.IsList l2 ys:=hl2.at fun o e=>kB _ o (by refine zx _ _ ?_;omega) e
 replace hl3:hB.IsList l3 zs:=hl3.at fun o e=>kB _ o (by refine zx _ _ ?_;omega) e
 simp only[zA0,zG2]
 rw[zG3]
 simp only[zz0,zA7]
 refine zs9 (zs9 (zs9 (zy1 ?_)))
 show wpAny _ _ (Builtin.SmallTypes.nextOf (.ref (n:Nat)) >>= _) _ _ _
 refine zs9 (zw5 g1 hl1 hx fun h₂ g1₂ hs₂=>zt2 (zt2 ?_))
 refine zs9 (zs9 (zy1 ?_))
 show wpAny _ _ (Builtin.SmallTypes.nextOf (.ref (n+1:Nat)) >>= _) _ _ _
 refine zs9 (zw5 (g2.extBut hs₂.extBut (by refine zx _ _ ?_;omega)) (hl2.extBut hs₂.extBut (by refine zx _ _ ?_;omega)) hy fun h₄ g2₄ hs₄=>zt2 (zt2 ?_))
 refine zs9 (zs9 (zy1 ?_))
 show wpAny _ _ (Builtin.SmallTypes.nextOf (.ref (n+2:Nat)) >>= _) _ _ _
 refine zs9 (zw5 ((g3.extBut hs₂.extBut (by refine zx _ _ ?_;omega)).extBut hs₄.extBut (by refine zx _ _ ?_;omega)) ((hl3.extBut hs₂.extBut (by refine zx _ _ ?_;omega)).extBut hs₄.extBut (by refine zx _ _ ?_;omega)) hz fun h₆ g3₆ hs₆=>zt2 (zt2 (zt2 ?_)))
 refine zs9 (zE3 ?_ (by show 3≤sizeLine;decide))
 have hsz:h₆.objs.size=s.heap.objs.size:=by rw[hs₆.1,hs₄.1,hs₂.1];exact szB
 have up6:∀c o,c≠(n:Nat)→c≠(n+1:Nat)→c≠(n+2:Nat)→hB.get? c=some o→h₆.get? c=some o:=fun c o c1 c2 c3 e=>hs₆.extBut _ _ c3 (hs₄.extBut _ _ c2 (hs₂.extBut _ _ c1 e))
 have up:∀c o,h₆.get? c=some o→(h₆.push {cls:=.type "tuple",data:=.seq #[x,y,z]}).get? c=some o:=fun c o e=>zt0 _ e
 have g1₆:h₆.IsListIter (n:Nat) l1 (k+1):=(g1₂.extBut hs₄.extBut (by refine zx _ _ ?_;omega)).extBut hs₆.extBut (by refine zx _ _ ?_;omega)
 have g2₆:h₆.IsListIter (n+1:Nat) l2 (k+1):=g2₄.extBut hs₆.extBut (by refine zx _ _ ?_;omega)
 refine zt2 ⟨_,rfl,?_⟩
 show Q (.ref h₆.objs.size) _
 rw[hsz]
 refine hQ _ f1' ⟨up _ _ (up6 _ _ (by refine zx _ _ ?_;omega) (by refine zx _ _ ?_;omega) (by refine zx _ _ ?_;omega) hz0),up _ _ (up6 _ _ (by refine zx _ _ ?_;omega) (by refine zx _ _ ?_;omega) (by refine zx _ _ ?_;omega) hTI),up _ _ (up6 _ _ (by refine zx _ _ ?_;omega) (by refine zx _ _ ?_;omega) (by refine zx _ _ ?_;omega) hTO),g1₆.at fun o e=>up _ o e,g2₆.at fun o e=>up _ o e,g3₆.at fun o e=>up _ o e⟩ ?_ fun c o hc e=>?_
 ·rw[←hsz];exact zu0 _ rfl
 ·simp only[z3,zt4,zt9,zv5,not_or] at hc
  exact up c o (up6 c o hc.1 hc.2.1 hc.2.2.1 (kB c o hc.2.2.2.2.2 e))
theorem gN {n l1 l2 l3 k T:Nat}{f1 a b c:Value}{ot:Obj}{xs:Array Value}{Q:PySem.Fin→Shared→Prop}(hh:A.handled=none)(h1:l1<n)(h2:l2<n)(h3:l3<n)(Z:wQ s.heap n l1 l2 l3 k (rawInt (T:Nat)) f1 a b c)(hT:s.heap.get? T=some ot)
  (hl1:s.heap.IsList l1 xs) (hx:xs[k]?=none)
  (hE:∀h' e,(∀c o,c∉z3 n→s.heap.get? c=some o→h'.get? c=some o)→(∃o,h'.get? e=some o∧o.cls=.type "StopIteration")→E (.ref e) {s with heap:=h'}):
  wpAny (model prog w) A (Builtin.«zip.__next__» ⟨[.ref (n+5:Nat)],[]⟩) Q E s:=by
 show wpAny _ _ (field (.ref _) 2 >>= _) _ _ _
 refine zs9 (zv7 Z.z rfl (x:=.bool false) rfl ?_)
 show wpAny _ _ (field (.ref _) 3 >>= _) _ _ _
 refine zs9 (zv7 Z.z rfl (x:=.ref (n+3:Nat)) rfl ?_)
 refine zs9 (zw7 Z.ti rfl ?_)
 show wpAny _ _ (Builtin.SmallTypes.ownedTupleIsFree (.ref (n+5:Nat)) >>= _) _ _ _
 refine zs9 (rE h1 h2 h3 Z hT fun hB f1' ZB szB kB=>?_)
 replace hl1:hB.IsList l1 xs:=hl1.at fun o e=>kB _ o (by refine zx _ _ ?_;omega) e
 simp only[zA0,zG2]
 rw[zG3]
 simp only[zz0,zA7]
 refine zs9 (zs9 (zs9 (zy1 ?_)))
 show wpAny _ _ (Builtin.SmallTypes.nextOf (.ref (n:Nat)) >>= _) _ _ _
 refine zs9 (wpAny_nextOf_list_end hh ZB.i1 hl1 hx fun h₂ e hs₂ he=>?_)
 refine hE h₂ e (fun c o hc q=>?_) he
 simp only[z3,zt4,zt9,zv5,not_or] at hc
 exact hs₂ _ _ hc.1 (kB _ _ hc.2.2.2.2.2 q)
theorem pX {n l1 l2 l3 k:Nat}{f1 a b c x y z:Value}{xs ys zs:Array Value}{Q:Option Value→Shared→Prop}(h1:l1<n)(h2:l2<n)(h3:l3<n)(Z:wQ s.heap n l1 l2 l3 k .none f1 a b c)
  (hl1:s.heap.IsList l1 xs) (hl2:s.heap.IsList l2 ys) (hl3:s.heap.IsList l3 zs) (hx:xs[k]?=some x) (hy:ys[k]?=some y) (hz:zs[k]?=some z)
  (hQ:∀h',wQ h' n l1 l2 l3 (k+1) (rawInt s.heap.objs.size) (.bool false) x y z→h'.get? s.heap.objs.size=some (tO3 x y z)→
   (∀c o,c∉z3 n→s.heap.get? c=some o→h'.get? c=some o)→Q (some (.ref s.heap.objs.size)) {s with heap:=h'}):
  wpAny (model prog w) A (pyNext (.ref (n+5:Nat))) Q E s:=by
 have hT:s.TypeIs (.ref (n+5:Nat)) "zip":=⟨_,Z.z,rfl⟩
 unfold pyNext
 exact zs9 (zF1 (zy9 (name:=Str.ofString "__next__") hT zy5
  (zA8 zy5 hT zG9
   (nM h1 h2 h3 Z hl1 hl2 hl3 hx hy hz fun h' a1 a2 a3=>zt2 (hQ h' a1 a2 a3)) (zG7 _))))
theorem nA {n l1 l2 l3 k T:Nat}{f1 a b c x y z:Value}{ot:Obj}{xs ys zs:Array Value}{Q:Option Value→Shared→Prop}(h1:l1<n)(h2:l2<n)(h3:l3<n)(Z:wQ s.heap n l1 l2 l3 k (rawInt (T:Nat)) f1 a b c)(hT:s.heap.get? T=some ot)
  (hl1:s.heap.IsList l1 xs) (hl2:s.heap.IsList l2 ys) (hl3:s.heap.IsList l3 zs) (hx:xs[k]?=some x) (hy:ys[k]?=some y) (hz:zs[k]?=some z)
  (hQ:∀h' f1',wQ h' n l1 l2 l3 (k+1) (rawInt (T:Nat)) f1' a b c→h'.get? s.heap.objs.size=some (tO3 x y z)→
   (∀c o,c∉z3 n→s.heap.get? c=some o→h'.get? c=some o)→Q (some (.ref s.heap.objs.size)) {s with heap:=h'}):
  wpAny (model prog w) A (pyNext (.ref (n+5:Nat))) Q E s:=by
 have hT':s.TypeIs (.ref (n+5:Nat)) "zip":=⟨_,Z.z,rfl⟩
 unfold pyNext
 exact zs9 (zF1 (zy9 (name:=Str.ofString "__next__") hT' zy5
  (zA8 zy5 hT' zG9
   (jM h1 h2 h3 Z hT hl1 hl2 hl3 hx hy hz fun h' f1' a1 a2 a3=>zt2 (hQ h' f1' a1 a2 a3)) (zG7 _))))
theorem jW {n l1 l2 l3 k T:Nat}{f1 a b c:Value}{ot:Obj}{xs:Array Value}{Q:Option Value→Shared→Prop}(hh:A.handled=none)(h1:l1<n)(h2:l2<n)(h3:l3<n)(Z:wQ s.heap n l1 l2 l3 k (rawInt (T:Nat)) f1 a b c)(hT:s.heap.get? T=some ot)
  (hl1:s.heap.IsList l1 xs) (hx:xs[k]?=none)
  (hQ:∀h',(∀c o,c∉z3 n→s.heap.get? c=some o→h'.get? c=some o)→Q none {s with heap:=h'}):
  wpAny (model prog w) A (pyNext (.ref (n+5:Nat))) Q E s:=by
 have hT':s.TypeIs (.ref (n+5:Nat)) "zip":=⟨_,Z.z,rfl⟩
 unfold pyNext
 refine zs9 (zF1 (zy9 (name:=Str.ofString "__next__") hT' zy5
  (zA8 zy5 hT' zG9 (gN hh h1 h2 h3 Z hT hl1 hx fun h' e hk he=>?_) (zG7 _))))
 obtain⟨o,ho,hc⟩:=he
 refine zs9 (wpAny_isInstance (T:="StopIteration") (b:=true) ⟨o,ho,hc⟩ isSubtype_stop ?_)
 exact zt2 (hQ _ hk)
end
section
variable {X:Cx}{pins:List (Addr×Obj)}{σ:St}{H:Hp}{s:Shared}
def Tri (H0 H:Hp)(xs ys zs vs:List V)(i:Nat):Prop:=vs.length=i∧∀j,j<i→∃t x y z,vs[j]?=some (.ref t)∧xs[j]?=some x∧ys[j]?=some y∧zs[j]?=some z∧H t=some (.tup [x,y,z])∧H0 t=none
structure ZAt (X:Cx)(pins:List (Addr×Obj))(σ:St)(H:Hp)(n l1 l2 l3:Nat)(S:Addr)(xs ys zs:List V)(i:Nat)(s':Shared):Prop where
 ex:∃(H':Hp) (acc:List Value) (vs:List V) (e:Nat) (f0 f1 a b c:Value),Inv X pins σ H' s'∧(∀a o,H a=some o→H' a=some o)∧s'.heap.get? S=some {cls:=.type "list",dict:=none,data:=.seq acc.toArray e,slots:=#[]}∧H' S=none∧(∀b∈z3 n,H' b=none)∧
  wQ s'.heap n l1 l2 l3 i f0 f1 a b c∧(i=0∧f0=.none∨∃(T:Nat) (ot:Obj),f0=rawInt (T:Nat)∧s'.heap.get? T=some ot∧T∉S::z3 n)∧Vals vs acc∧Tri H H' xs ys zs vs i
structure zi2 (X:Cx)(pins:List (Addr×Obj))(σ:St)(H:Hp)(S:Addr)(xs ys zs:List V)(s':Shared):Prop where
 ex:∃(H':Hp) (acc:List Value) (vs:List V) (e:Nat),Inv X pins σ H' s'∧(∀a o,H a=some o→H' a=some o)∧s'.heap.get? S=some {cls:=.type "list",dict:=none,data:=.seq acc.toArray e,slots:=#[]}∧H' S=none∧Vals vs acc∧Tri H H' xs ys zs vs xs.length
theorem Tri.snoc {H0 H H':Hp}{xs ys zs vs:List V}{i:Nat}{t:Addr}{x y z:V}(h:Tri H0 H xs ys zs vs i)(k:∀a o,H a=some o→H' a=some o)(hx:xs[i]?=some x)(hy:ys[i]?=some y)(hz:zs[i]?=some z)(ht:H' t=some (.tup [x,y,z]))(hn:H0 t=none):Tri H0 H' xs ys zs (vs++[.ref t]) (i+1):=by
 refine⟨by rw[zv4,h.1];rfl,fun j hj=>?_⟩
 rcases zA9 j i with z'|z'
 ·obtain⟨t',x',y',z2,e1,e2,e3,e4,e5,e6⟩:=h.2 j z'
  exact⟨t',x',y',z2,by rw[zv3 (by rw[h.1];exact z')];exact e1,e2,e3,e4,k _ _ e5,e6⟩
 ·have:j=i:=by omega
  subst this
  exact⟨t,x,y,z,by rw[zw0 (by rw[h.1];exact zt8 _),h.1];simp,hx,hy,hz,ht,hn⟩
theorem ib {A:Around}{R:Result→Shared→Prop}{n l1 l2 l3:Nat}{S:Addr}{xs ys zs:List V}(hh:A.handled=none)(h1:l1<n)(h2:l2<n)(h3:l3<n)(fS:∀H',H' S=none→yZ X pins H' S)(fz:∀b∈z3 n,∀H',H' b=none→yZ X pins H' b)(hSz:S∉z3 n)
  (q1:SqL X.K H l1 xs) (q2:SqL X.K H l2 ys) (q3:SqL X.K H l3 zs) (e2:ys.length=xs.length) (e3:zs.length=xs.length) (h0:0<xs.length) (hN:xs.length≤1000)
  (hR:∀s',zi2 X pins σ H S xs ys zs s'→R (.ok (.ret .none)) s'):
  ∀(k i:Nat) (s:Shared),xs.length-i=k→i≤xs.length→ZAt X pins σ H n l1 l2 l3 S xs ys zs i s→codeAny (model X.prog X.w) A (.builtin "list.extend.loop" ⟨[.ref S,.ref (n+5:Nat),.none],[]⟩) R s:=by
 have hh':A.in1.handled=none:=hh
 intro k
 induction k with
 |zero=>
  intro i s hk hi hst
  have hin:i=xs.length:=by omega
  subst hin
  obtain⟨H',acc,vs,e,f0,f1,a,b,c,I,st,hS,nS,nz,Z,fr,rv,tr⟩:=hst.ex
  refine codeAny_builtin PySem.F.entry_extend_loop ?_
  rw[Around.under_plainId zA1 _]
  show wpAny _ A.in1 (pyNext (.ref (n+5:Nat)) >>= _) _ _ s
  rcases fr with ⟨z,_⟩|⟨T,ot,rfl,hT,hTn⟩
  ·omega
  obtain⟨its1,rv1,p1,hz1⟩:=I.list (wD q1 fun a o _ e=>st a o e)
  refine zs9 (jW hh' h1 h2 h3 Z hT p1.isList (by
   rw[List.getElem?_toArray,zB4];rw[rv1.length];exact zt8 _) fun h' kk=>?_)
  refine zt2 (hR _ ⟨H',acc,vs,e,I.turnL (t':=s.toks) (ch:=z3 n) (fun b o hb q=>kk b o hb q) (fun b hb=>fz b hb H' (nz b hb)),st,kk _ _ hSz hS,nS,rv,tr⟩)
 |succ k ih=>
  intro i s hk hi hst
  have hlt:i<xs.length:=by omega
  obtain⟨H',acc,vs,e,f0,f1,a,b,c,I,st,hS,nS,nz,Z,fr,rv,tr⟩:=hst.ex
  refine codeAny_builtin PySem.F.entry_extend_loop ?_
  rw[Around.under_plainId zA1 _]
  show wpAny _ A.in1 (pyNext (.ref (n+5:Nat)) >>= _) _ _ s
  obtain⟨its1,rv1,p1,hz1⟩:=I.list (wD q1 fun a o _ e=>st a o e)
  obtain⟨its2,rv2,p2,hz2⟩:=I.list (wD q2 fun a o _ e=>st a o e)
  obtain⟨its3,rv3,p3,hz3⟩:=I.list (wD q3 fun a o _ e=>st a o e)
  have gx:xs[i]?=some xs[i]:=zt3 hlt
  have gy:ys[i]?=some ys[i]:=zt3 (by omega)
  have gz:zs[i]?=some zs[i]:=zt3 (by omega)
  obtain⟨u,hu,ru⟩:=rv1.get gx
  obtain⟨v,hv,rv'⟩:=rv2.get gy
  obtain⟨w,hw,rw'⟩:=rv3.get gz
  have lacc:acc.length=i:=by rw[←rv.length,tr.1]
  have zlt:∀b∈z3 n,b<s.heap.objs.size:=fun b hb=>by
   have:∃o,s.heap.get? b=some o:=by
    simp only[z3,zt4,zt9,zv5] at hb
    obtain⟨o1,q1,_⟩:=Z.i1
    obtain⟨o2,q2,_⟩:=Z.i2
    obtain⟨o3,q3,_⟩:=Z.i3
    rcases hb with rfl|rfl|rfl|rfl|rfl|rfl
    ·exact⟨_,q1⟩
    ·exact⟨_,q2⟩
    ·exact⟨_,q3⟩
    ·exact⟨_,Z.ti⟩
    ·exact⟨_,Z.to⟩
    ·exact⟨_,Z.z⟩
   obtain⟨o,q⟩:=this
   exact zt6 q
  have main:∀(h':Heap) (f0' f1' a' b' c':Value),wQ h' n l1 l2 l3 (i+1) f0' f1' a' b' c'→(∃(T:Nat) (ot:Obj),f0'=rawInt (T:Nat)∧h'.get? T=some ot∧T∉S::z3 n)→h'.get? s.heap.objs.size=some (tO3 u v w)→
    (∀c o,c∉z3 n→s.heap.get? c=some o→h'.get? c=some o)→wpAny (model X.prog X.w) A.in1 (updateSeq S (·.push (.ref s.heap.objs.size)) >>= fun _=>again (.builtin "list.extend.loop" ⟨[.ref S,.ref (n+5:Nat),.none],[]⟩))
     (fun fin s'=>match fin with|.done f=>R (.ok f) s'|.again c'=>c'.quiet=true∧codeAny (model X.prog X.w) A c' R s') (fun e s'=>R (.error e) s') {s with heap:=h'}:=by
   intro h' f0' f1' a' b' c' Z' ⟨T,ot,hf,hT,hTn⟩ gT kk
   have nT:H' s.heap.objs.size=none:=I.hok.fresh (zt8 _)
   have nT0:H s.heap.objs.size=none:=by
    cases q:H s.heap.objs.size with
    |none=>rfl
    |some o=>rw[st _ _ q] at nT;cases nT
   have stT:∀a o,H' a=some o→upd H' s.heap.objs.size (.tup [xs[i],ys[i],zs[i]]) a=some o:=fun a o q=>by rw[zd (zo q nT)];exact q
   have J:=I.turnLay (t':=s.toks) (h':=h') (ch:=z3 n) (T:=s.heap.objs.size) (o:=.tup [xs[i],ys[i],zs[i]]) kk (fun b hb=>fz b hb H' (nz b hb)) (zt8 _) ⟨by show 3≤sizeLine;decide,[u,v,w],.cons ru (.cons rv' (.cons rw' .nil)),_,gT,rfl,0,rfl⟩
   have hS':=kk _ _ hSz hS
   have SltS:S<s.heap.objs.size:=zt6 hS
   have nS':upd H' s.heap.objs.size (.tup [xs[i],ys[i],zs[i]]) S=none:=by rw[zd (zv0 SltS)];exact nS
   obtain⟨e',hSn⟩:∃e',(h'.update S (Obj.mapSeq (·.push (Value.ref s.heap.objs.size)))).get? S=some {cls:=.type "list",dict:=none,data:=.seq (acc++[Value.ref s.heap.objs.size]).toArray e',slots:=#[]}:=by
    have:=zB3 (c:="list") hS' fun x=>x.push (Value.ref s.heap.objs.size)
    rw[List.push_toArray] at this
    exact⟨_,this⟩
   refine zs9 ?_
   refine zF8 hS' rfl (zt2 ⟨plainId_quiet zA1 _,ih (i+1) _ (by omega) hlt ⟨_,acc++[.ref s.heap.objs.size],vs++[.ref s.heap.objs.size],e',f0',f1',a',b',c',
    J.turnL (t':=s.toks) (ch:=[S]) (fun b o hb q=>(zu4 _ _ (zw4 (by simpa using hb))).trans q) (fun b hb=>by rw[zv9.mp hb];exact fS _ nS'),fun a o q=>stT _ _ (st a o q),hSn,nS',fun b hb=>?_,?_,.inr ⟨T,ot,hf,?_,hTn⟩,rv.append (.cons (show RelV (.ref s.heap.objs.size) (.ref s.heap.objs.size) from rfl) .nil),tr.snoc stT gx gy gz zk nT0⟩⟩)
    (by rw[zu2,lacc,zx2];omega) (by show (acc.toArray.push _).size≤sizeLine+1;rw[Array.size_push,zu2,lacc,zx2];omega)
   ·rw[zd]
    ·exact nz b hb
    ·exact zv0 (zlt b hb)
   ·have oth:∀b o,b≠S→h'.get? b=some o→(h'.update S (Obj.mapSeq (·.push (Value.ref s.heap.objs.size)))).get? b=some o:=fun b o hb q=>(zu4 _ _ (zw4 hb)).trans q
    simp only[z3,zt4,zt9,zv5,not_or] at hSz
    obtain⟨d1,d2,d3,d4,d5,d6⟩:=hSz
    exact⟨oth _ _ (zw4 d6) Z'.z,oth _ _ (zw4 d4) Z'.ti,oth _ _ (zw4 d5) Z'.to,Z'.i1.at fun o q=>oth _ o (zw4 d1) q,Z'.i2.at fun o q=>oth _ o (zw4 d2) q,Z'.i3.at fun o q=>oth _ o (zw4 d3) q⟩
   ·exact (zu4 _ _ (fun z=>hTn (by rw[←z];exact zu8))).trans hT
  rcases fr with ⟨_,rfl⟩|⟨T,ot,rfl,hT,hTn⟩
  ·refine zs9 (pX h1 h2 h3 Z p1.isList p2.isList p3.isList (by simpa using hu) (by simpa using hv) (by simpa using hw) fun h' Z' gT kk=>?_)
   refine main h' _ _ _ _ _ Z' ⟨s.heap.objs.size,_,rfl,gT,?_⟩ gT kk
   intro z
   rcases zt4.mp z with z|z
   ·exact absurd (zt6 hS) (by rw[←z];exact zz5 _)
   ·exact absurd (zlt _ z) (zz5 _)
  ·refine zs9 (nA h1 h2 h3 Z hT p1.isList p2.isList p3.isList (by simpa using hu) (by simpa using hv) (by simpa using hw) fun h' f1' Z' gT kk=>?_)
   exact main h' _ _ _ _ _ Z' ⟨T,ot,rfl,kk _ _ (fun z=>hTn (zu1 _ z)) hT,hTn⟩ gT kk
end
theorem si (a b c:Value):checkTypeCall "zip" ⟨[a,b,c],[]⟩=pure ():=by kernel_rfl
theorem rk (a b c:Value):checkBuiltinCall "zip.__new__" ⟨[.type "zip",a,b,c],[]⟩=pure ():=by kernel_rfl
theorem vP (a b c d:Value):argsOk "object.__init__" ⟨[a,b,c,d],[]⟩:=by
 unfold argsOk;rw[signature?_of (id:="object.__init__") (n:=['_','_','t','i','n','i','_','_']) (o:=['t','c','e','j','b','o']) (by kernel_rfl) PySem.F.owner_object];kernel_rfl
theorem ny :typeLookup (.type "zip") "__len__"=pure none:=by rw[typeLookup_type,builtinLookup_eq_fast];kernel_rfl
theorem pS :typeLookup (.type "zip") "__length_hint__"=pure none:=by rw[typeLookup_type,builtinLookup_eq_fast];kernel_rfl
abbrev itO (l:Addr):Obj:={cls:=.type "list_iterator",data:=.fields #[.ref l,.int 0 0]}
abbrev zh3 (h:Heap)(l1 l2 l3:Addr):Heap:=((h.push (itO l1)).push (itO l2)).push (itO l3)
abbrev zh4 (h:Heap)(l1 l2 l3:Addr):Heap:=(zh3 h l1 l2 l3).push (tO3 (.ref h.objs.size) (.ref (h.push (itO l1)).objs.size) (.ref ((h.push (itO l1)).push (itO l2)).objs.size))
abbrev zh5 (h:Heap)(l1 l2 l3:Addr):Heap:=(zh4 h l1 l2 l3).push (tO3 .none .none .none)
abbrev zh6 (h:Heap)(l1 l2 l3:Addr):Heap:=(zh5 h l1 l2 l3).push (zO .none (.bool false) (zh3 h l1 l2 l3).objs.size (zh4 h l1 l2 l3).objs.size)
set_option maxHeartbeats 8000000 in
theorem rf (l1 l2 l3:Addr)(xs ys zs:Array Value):
  Meets (Builtin.«zip.__new__» ⟨[.type "zip",.ref l1,.ref l2,.ref l3],[]⟩) (fun _ R s=>s.heap.IsList l1 xs∧s.heap.IsList l2 ys∧s.heap.IsList l3 zs∧
   R (.ok (.ret (.ref (zh5 s.heap l1 l2 l3).objs.size))) {s with heap:=zh6 s.heap l1 l2 l3}):=
 .of_wp fun prog w A R s h=>by
  obtain⟨hp,g,d,tk,os⟩:=s;obtain⟨hl1,hl2,hl3,h⟩:=h
  have hsub:=sub_zip
  have hL1:Heap.IsList (Shared.heap ⟨hp,g,d,tk,os⟩) l1 xs:=hl1
  have hL2:Heap.IsList (Shared.heap ⟨hp.push {cls:=.type "list_iterator",data:=.fields #[.ref l1,.int 0 0]},g,d,tk,os⟩) l2 ys:=Heap.IsList.push hl2 _
  have hL3:Heap.IsList (Shared.heap ⟨(hp.push {cls:=.type "list_iterator",data:=.fields #[.ref l1,.int 0 0]}).push {cls:=.type "list_iterator",data:=.fields #[.ref l2,.int 0 0]},g,d,tk,os⟩) l3 zs:=Heap.IsList.push (Heap.IsList.push hl3 _) _
  wp_walk using zD8 hL1,zD8 hL2,zD8 hL3
  exact⟨_,rfl,h⟩
section
variable {prog:Program}{w:World}{A:Around}{E:Value→Shared→Prop}{s:Shared}
theorem lC {l1 l2 l3:Addr}{xs ys zs:Array Value}{Q:Value→Shared→Prop}(hl1:s.heap.IsList l1 xs)(hl2:s.heap.IsList l2 ys)(hl3:s.heap.IsList l3 zs)
  (h:∀h',wQ h' s.heap.objs.size l1 l2 l3 0 .none (.bool false) .none .none .none→h'.objs.size=s.heap.objs.size+6→(∀c o,s.heap.get? c=some o→h'.get? c=some o)→Q (.ref (s.heap.objs.size+5)) {s with heap:=h'}):
  wpAny (model prog w) A (call (.type "zip") [.ref l1,.ref l2,.ref l3]) Q E s:=by
 refine callType_new PySem.F.called_zip (by decide) (si _ _ _) (rk _ _ _) (fun obj=>vP obj _ _ _) PySem.F.entry_zip_new
  (rf l1 l2 l3 xs ys zs) ⟨hl1,hl2,hl3,?_⟩
 have z1:(s.heap.push (itO l1)).objs.size=s.heap.objs.size+1:=zx5 ..
 have z2:((s.heap.push (itO l1)).push (itO l2)).objs.size=s.heap.objs.size+2:=by rw[zx5,z1]
 have z3':(zh3 s.heap l1 l2 l3).objs.size=s.heap.objs.size+3:=by rw[zx5,z2]
 have z4:(zh4 s.heap l1 l2 l3).objs.size=s.heap.objs.size+4:=by rw[zx5,z3']
 have z5:(zh5 s.heap l1 l2 l3).objs.size=s.heap.objs.size+5:=by rw[zx5,z4]
 have z6:(zh6 s.heap l1 l2 l3).objs.size=s.heap.objs.size+6:=by rw[zx5,z5]
 have g6:(zh6 s.heap l1 l2 l3).get? (zh5 s.heap l1 l2 l3).objs.size=some _:=zu0 _ rfl
 have g5:(zh6 s.heap l1 l2 l3).get? (zh4 s.heap l1 l2 l3).objs.size=some _:=zt0 _ (zu0 _ rfl)
 have g4:(zh6 s.heap l1 l2 l3).get? (zh3 s.heap l1 l2 l3).objs.size=some _:=zt0 _ (zt0 _ (zu0 _ rfl))
 have g3:(zh6 s.heap l1 l2 l3).get? ((s.heap.push (itO l1)).push (itO l2)).objs.size=some _:=zt0 _ (zt0 _ (zt0 _ (zu0 _ rfl)))
 have g2:(zh6 s.heap l1 l2 l3).get? (s.heap.push (itO l1)).objs.size=some _:=zt0 _ (zt0 _ (zt0 _ (zt0 _ (zu0 _ rfl))))
 have g1:(zh6 s.heap l1 l2 l3).get? s.heap.objs.size=some _:=zt0 _ (zt0 _ (zt0 _ (zt0 _ (zt0 _ (zu0 _ rfl)))))
 show _∧_
 rw[z5,z4,z3'] at g6
 rw[z4] at g5
 rw[z3',z2,z1] at g4
 rw[z2] at g3
 rw[z1] at g2
 rw[z5]
 exact⟨⟨_,g6,rfl⟩,h _ ⟨g6,g4,g5,⟨_,g1,rfl,rfl⟩,⟨_,g2,rfl,rfl⟩,⟨_,g3,rfl,rfl⟩⟩ z6 fun c o x=>
  zt0 _ (zt0 _ (zt0 _ (zt0 _ (zt0 _ (zt0 _ x)))))⟩
end
section
variable {X:Cx}{pins:List (Addr×Obj)}{σ:St}{H:Hp}{s:Shared}
theorem jq {A:Around}{R:Result→Shared→Prop}{n l1 l2 l3:Nat}{S:Addr}{xs ys zs:List V}(hh:A.handled=none)(h1:l1<n)(h2:l2<n)(h3:l3<n)(I:Inv X pins σ H s)(Z:wQ s.heap n l1 l2 l3 0 .none (.bool false) .none .none .none)(hS:s.heap.get? S=some {cls:=.type "list",data:=.seq #[]})
  (nS:H S=none) (nz:∀b∈z3 n,H b=none) (fS:∀H',H' S=none→yZ X pins H' S) (fz:∀b∈z3 n,∀H',H' b=none→yZ X pins H' b) (hSz:S∉z3 n)
  (q1:SqL X.K H l1 xs) (q2:SqL X.K H l2 ys) (q3:SqL X.K H l3 zs) (e2:ys.length=xs.length) (e3:zs.length=xs.length) (h0:0<xs.length) (hN:xs.length≤1000)
  (hR:∀s',zi2 X pins σ H S xs ys zs s'→R (.ok (.ret .none)) s'):
  wpAny (model X.prog X.w) A.in1 (Builtin.«list.__init__» ⟨[.ref S,.ref (n+5:Nat)],[]⟩)
   (fun fin s'=>match fin with|.done f=>R (.ok f) s'|.again c'=>c'.quiet=true∧codeAny (model X.prog X.w) A c' R s') (fun e s'=>R (.error e) s') s:=by
 have hSz':=hSz
 simp only[z3,zt4,zt9,zv5,not_or] at hSz'
 obtain⟨d1,d2,d3,d4,d5,d6⟩:=hSz'
 show wpAny _ _ (do let old ←Builtin.List.listItems (.ref S);Builtin.List.listUpdate (.ref S) (fun _=>#[]);letGo old.toList.reverse;Builtin.List.listExtendWith (.ref S) (.ref (n+5:Nat)) .none) _ _ s
 refine zs9 ?_
 unfold Builtin.List.listItems
 refine zs9 (zw7 hS rfl (zt2 ?_))
 show wpAny _ _ (updateSeq S (fun _=>#[]) >>= fun _=>letGo (#[]:Array Value).toList.reverse >>= fun _=>Builtin.List.listExtendWith (.ref S) (.ref (n+5:Nat)) .none) _ _ s
 refine zs9 (zF8 hS rfl ?_)
 obtain⟨e',hS₂⟩:∃e',(s.heap.update S (Obj.mapSeq (fun _=>(#[]:Array Value)))).get? S=some {cls:=.type "list",dict:=none,data:=.seq #[] e',slots:=#[]}:=⟨_,zB3 (c:="list") hS fun _=>#[]⟩
 have oth:∀b o,b≠S→s.heap.get? b=some o→(s.heap.update S (Obj.mapSeq (fun _=>(#[]:Array Value)))).get? b=some o:=
  fun b o hb e=>(zu4 _ _ (zw4 hb)).trans e
 have Z₂:wQ (s.heap.update S (Obj.mapSeq (fun _=>(#[]:Array Value)))) n l1 l2 l3 0 .none (.bool false) .none .none .none:=⟨oth _ _ (zw4 d6) Z.z,oth _ _ (zw4 d4) Z.ti,oth _ _ (zw4 d5) Z.to,Z.i1.at fun o q=>oth _ o (zw4 d1) q,Z.i2.at fun o q=>oth _ o (zw4 d2) q,Z.i3.at fun o q=>oth _ o (zw4 d3) q⟩
 refine zs9 (zC4 ?_)
 have I₂:Inv X pins σ H {s with heap:=s.heap.update S (Obj.mapSeq (fun _=>(#[]:Array Value))),toks:=s.toks}:=I.turnL (ch:=[S]) (fun b o hb q=>oth b o (by simpa using hb) q) fun b hb=>by rw[zv9.mp hb];exact fS H nS
 have hT:({s with heap:=s.heap.update S (Obj.mapSeq (fun _=>(#[]:Array Value)))}:Shared).TypeIs (.ref (n+5:Nat)) "zip":=⟨_,Z₂.z,rfl⟩
 unfold Builtin.List.listExtendWith
 refine zs9 (wpAny_typeOf hT ?_)
 have b1:Builtin.List.listSameRef (.ref S) (.ref (n+5:Nat))=false:=by simp[Builtin.List.listSameRef];exact d6
 have b2:(Value.type "zip" == Value.type "list")=false:=by decide
 have b3:(Value.type "zip" == Value.type "tuple")=false:=by decide
 simp only[b1,b2,b3,Bool.or_false,zA0,zG2]
 refine zs9 (wpAny_pyIter_slot hT PySem.F.slot_zip_iter (zA8 PySem.F.slot_zip_iter hT PySem.F.entry_zip_iter ?_ (PySem.F.args_zip_iter_1 _)))
 show wpAny _ _ (ret (.ref (n+5:Nat))) _ _ _
 refine zt2 ⟨_,rfl,"zip",_,hT,zy5.lookup,?_⟩
 refine zs9 (zy1 ?_)
 unfold Builtin.List.listLengthHint
 refine zs9 (wpAny_specialOf hT ny ?_)
 show wpAny _ _ (specialOf (Value.ref (n+5:Nat)) (Str.ofString "__length_hint__") >>= _) _ _ _
 refine zs9 (wpAny_specialOf hT pS ?_)
 refine zt2 ?_
 have key:∀(h:Heap) (e:Nat),h.get? S=some {cls:=.type "list",dict:=none,data:=.seq #[] e,slots:=#[]}→(∀b o,b≠S→s.heap.get? b=some o→h.get? b=some o)→codeAny (model X.prog X.w) A (.builtin "list.extend.loop" ⟨[.ref S,.ref (n+5:Nat),.none],[]⟩) R {s with heap:=h}:=by
  intro h e hS' oth'
  refine ib hh h1 h2 h3 fS fz hSz q1 q2 q3 e2 e3 h0 hN hR xs.length 0 _ (by omega) (zu6 _) ⟨H,[],[],e,.none,.bool false,.none,.none,.none,I.turnL (t':=s.toks) (ch:=[S]) (fun b o hb q=>oth' b o (by simpa using hb) q) (fun b hb=>by rw[zv9.mp hb];exact fS H nS),fun _ _ e=>e,hS',nS,nz,?_,.inl ⟨rfl,rfl⟩,.nil,rfl,fun j hj=>absurd hj (Nat.not_lt_zero _)⟩
  exact⟨oth' _ _ (zw4 d6) Z.z,oth' _ _ (zw4 d4) Z.ti,oth' _ _ (zw4 d5) Z.to,Z.i1.at fun o q=>oth' _ o (zw4 d1) q,Z.i2.at fun o q=>oth' _ o (zw4 d2) q,Z.i3.at fun o q=>oth' _ o (zw4 d3) q⟩
 refine wpAny_ite_split (fun _=>?_) (fun _=>zt2 ⟨plainId_quiet zA1 _,key _ _ hS₂ oth⟩)
 refine zs9 (zI0 ?_)
 refine zs9 ?_
 show wpAny _ _ (updateSeq S (·.push .none) >>= fun _=>updateSeq S (·.pop)) _ _ _
 refine zs9 (zF8 hS₂ rfl ?_)
 obtain⟨e3',hS₃⟩:∃e',((s.heap.update S (Obj.mapSeq (fun _=>(#[]:Array Value)))).update S (Obj.mapSeq (·.push Value.none))).get? S=some {cls:=.type "list",dict:=none,data:=.seq #[.none] e',slots:=#[]}:=⟨_,zB3 (c:="list") hS₂ fun x=>x.push Value.none⟩
 refine zF8 (hz:=by seq_fits) hS₃ rfl ?_
 obtain⟨e4',hS₄⟩:∃e',(((s.heap.update S (Obj.mapSeq (fun _=>(#[]:Array Value)))).update S (Obj.mapSeq (·.push Value.none))).update S (Obj.mapSeq (·.pop))).get? S=some {cls:=.type "list",dict:=none,data:=.seq #[] e',slots:=#[]}:=⟨_,zB3 (c:="list") hS₃ fun x=>x.pop⟩
 refine zt2 ⟨plainId_quiet zA1 _,key _ _ hS₄ fun b o hb e=>?_⟩
 exact (zu4 _ _ (zw4 hb)).trans ((zu4 _ _ (zw4 hb)).trans (oth b o hb e))
end
section
variable {X:Cx}{pins:List (Addr×Obj)}{σ:St}{H:Hp}{s:Shared}
theorem sU {A:Around}{E:Value→Shared→Prop}{Q:Value→Shared→Prop}{n l1 l2 l3:Nat}{xs ys zs:List V}(hh:A.handled=none)(h1:l1<n)(h2:l2<n)(h3:l3<n)(I:Inv X pins σ H s)(Z:wQ s.heap n l1 l2 l3 0 .none (.bool false) .none .none .none)
  (nz:∀b∈z3 n,H b=none) (fz:∀b∈z3 n,∀H',H' b=none→yZ X pins H' b)
  (q1:SqL X.K H l1 xs) (q2:SqL X.K H l2 ys) (q3:SqL X.K H l3 zs) (e2:ys.length=xs.length) (e3:zs.length=xs.length) (h0:0<xs.length) (hN:xs.length≤1000)
  (hQ:∀D s',s.heap.objs.size≤D→zi2 X pins σ H D xs ys zs s'→(∀H',H' D=none→yZ X pins H' D)→Q (.ref D) s'):
  wpAny (model X.prog X.w) A (call (.type "list") [.ref (n+5:Nat)]) Q E s:=by
 refine callType_codes (Q₁:=fun obj s₁=>obj=.ref s.heap.objs.size∧s₁={s with heap:=s.heap.push {cls:=.type "list",data:=.seq #[]}}) PySem.F.called_list (PySem.F.typeCall_list_1 _) PySem.F.entry_list_init
  (code_list_new _ ⟨rfl,rfl⟩) fun obj s₁ h₁=>?_
 obtain⟨rfl,rfl⟩:=h₁
 have hS:(s.heap.push {cls:=.type "list",data:=.seq #[]}).get? s.heap.objs.size=some {cls:=.type "list",data:=.seq #[]}:=zu0 _ rfl
 have up:∀b o,s.heap.get? b=some o→(s.heap.push {cls:=.type "list",data:=.seq #[]}).get? b=some o:=fun b o e=>zt0 _ e
 have fS:∀H':Hp,H' s.heap.objs.size=none→yZ X pins H' s.heap.objs.size:=fun H' h=>I.fpOk (zt8 _) h
 have hSz:s.heap.objs.size∉z3 n:=fun hb=>by
  have:∃o,s.heap.get? s.heap.objs.size=some o:=by
   simp only[z3,zt4,zt9,zv5] at hb
   obtain⟨o1,q1,_⟩:=Z.i1
   obtain⟨o2,q2,_⟩:=Z.i2
   obtain⟨o3,q3,_⟩:=Z.i3
   rcases hb with z|z|z|z|z|z<;>rw[z]
   ·exact⟨_,q1⟩
   ·exact⟨_,q2⟩
   ·exact⟨_,q3⟩
   ·exact⟨_,Z.ti⟩
   ·exact⟨_,Z.to⟩
   ·exact⟨_,Z.z⟩
  obtain⟨o,q⟩:=this
  exact absurd (zt6 q) (zz5 _)
 refine⟨⟨_,hS,rfl⟩,PySem.F.args_list_init_2 _ _,jq (A:=A.in1) hh h1 h2 h3 (I.kept (t':=s.toks) up) ⟨up _ _ Z.z,up _ _ Z.ti,up _ _ Z.to,Z.i1.at fun o q=>up _ o q,Z.i2.at fun o q=>up _ o q,Z.i3.at fun o q=>up _ o q⟩ hS (I.hok.fresh (zt8 _)) nz fS fz hSz q1 q2 q3 e2 e3 h0 hN fun s' ze=>⟨rfl,hQ _ s' (zt8 _) ze fS⟩⟩
variable {a b c:Expr}{p p0 pos pos2:Pos}
set_option maxHeartbeats 2000000 in
theorem ou {ta:TA}(hc:X.calm=true)(hgl:Gl X "list")(hml:X.mg "list"=none)(hg:Gl X "zip")(hm:X.mg "zip"=none)(ha:PA X [a,b,c] ta)
  (hs0:starEach [.Call (.Name "zip" p) [a,b,c] [] pos2] X.env=[(false,eval (.Call (.Name "zip" p) [a,b,c] [] pos2) X.env)]:=by rfl)
  (hs:starEach [a,b,c] X.env=(false,eval a X.env)::starEach [b,c] X.env:=by rfl) (hpl:(backTo pos2 (starEach [b,c] X.env)).any (·.1)=false:=by rfl):
  PE X (.Call (.Name "list" p0) [.Call (.Name "zip" p) [a,b,c] [] pos2] [] pos) (fun σ H Q=>ta σ H fun vs H1=>∃(l1 l2 l3:Addr) (xs ys zs:List V),vs=[.ref l1,.ref l2,.ref l3]∧SqL X.K H1 l1 xs∧SqL X.K H1 l2 ys∧SqL X.K H1 l3 zs∧ys.length=xs.length∧zs.length=xs.length∧0<xs.length∧xs.length≤1000∧
   ∀D H' vs,H1 D=none→(∀a o,H1 a=some o→H' a=some o)→H' D=some (.lst vs)→(∃H'',(∀a o,H'' a=some o→a≠D∧H' a=some o)∧Tri H1 H'' xs ys zs vs xs.length)→Q (.ref D) H'):=by
 intro pins s σ H Q I h
 refine Call_ (xx I hgl hml boot_list (zx3 ?_ hs0 rfl))
 rw[hs0]
 show wpAny _ _ (spliced ((false,eval _ X.env)::backTo pos [])) _ _ s
 refine zG1 ?_
 refine Call_ (xx I hg hm boot_zip (zx3 (thn (ha pos2 pins s σ H _ I h) fun us s1 ⟨vs,H1,I1,r1,q1⟩=>?_) hs hpl))
 obtain⟨l1,l2,l3,xs,ys,zs,e,hq1,hq2,hq3,e2,e3,h0,hN,q⟩:=q1
 subst e
 obtain⟨u,v,w,rfl,ru,rv,rw'⟩:∃u v w,us=[u,v,w]∧RelV (.ref l1) u∧RelV (.ref l2) v∧RelV (.ref l3) w:=by
  cases r1 with
  |cons a r1=>
   cases r1 with
   |cons b r1=>
    cases r1 with
    |cons c r1=>
     cases r1
     exact⟨_,_,_,rfl,a,b,c⟩
 cases (show u=Value.ref l1 from ru)
 cases (show v=Value.ref l2 from rv)
 cases (show w=Value.ref l3 from rw')
 obtain⟨its1,rv1,p1,hz1⟩:=I1.list hq1
 obtain⟨its2,rv2,p2,hz2⟩:=I1.list hq2
 obtain⟨its3,rv3,p3,hz3⟩:=I1.list hq3
 refine lC p1.isList p2.isList p3.isList fun h' Z sz hk=>?_
 have lt1:l1<s1.heap.objs.size:=by obtain⟨o,e,_⟩:=p1.isList;exact zt6 e
 have lt2:l2<s1.heap.objs.size:=by obtain⟨o,e,_⟩:=p2.isList;exact zt6 e
 have lt3:l3<s1.heap.objs.size:=by obtain⟨o,e,_⟩:=p3.isList;exact zt6 e
 have le:∀b∈z3 s1.heap.objs.size,s1.heap.objs.size≤b:=fun b hb=>by
  simp only[z3,zt4,zt9,zv5] at hb
  have key:∀n b:Nat,(b=n∨b=n+1∨b=n+2∨b=n+3∨b=n+4∨b=n+5)→n≤b:=fun n b h=>by omega
  exact key _ _ hb
 have I2:Inv X pins σ H1 {s1 with heap:=h',toks:=s1.toks}:=I1.kept fun b o e=>hk b o e
 refine zw2 (Q:=_) (show wpAny _ _ (spliced []) (fun vs s₁=>vs=[]∧s₁={s1 with heap:=h'}) X.xe {s1 with heap:=h'} from zt2 ⟨rfl,rfl⟩) (fun vs s2 hv=>?_) fun _ _ z=>z
 obtain⟨rfl,rfl⟩:=hv
 refine sU (s:={s1 with heap:=h'}) (I.ok.hd hc) lt1 lt2 lt3 I2 Z (fun b hb=>I1.hok.fresh (le b hb)) (fun b hb H' hn=>I1.fpOk (le b hb) hn) hq1 hq2 hq3 e2 e3 h0 hN fun D s' lD ze fD=>?_
 obtain⟨H',acc,vs,e,I',st,hD,nD,rvs,tri⟩:=ze.ex
 have nD1:H1 D=none:=I2.hok.fresh lD
 have stD:∀a o,H' a=some o→a≠D∧upd H' D (.lst vs) a=some o:=fun a o q=>by
  have n:a≠D:=fun z=>by rw[z,nD] at q;cases q
  exact⟨n,by rw[zd n];exact q⟩
 refine⟨.ref D,upd H' D (.lst vs),I'.adopt (fD H' nD) ⟨?_,acc,e,rvs,hD⟩,rfl,q D _ vs nD1 (fun a o q=>(stD a o (st a o q)).2) zk ⟨H',stD,tri⟩⟩
 rw[tri.1,zx2];omega
end
def aK (a b c:PyData):PyData:=.tuple [a,b,c]
def xg :List PyData→List PyData→List PyData→List PyData
 |a::as,b::bs,c::cs=>aK a b c::xg as bs cs
 |_,_,_=>[]
theorem vG :∀{as bs cs:List PyData},bs.length=as.length→cs.length=as.length→(xg as bs cs).length=as.length
 |[],_,_,_,_=>rfl
 |a::as,b::bs,c::cs,h1,h2=>by
  rw[xg,zu5,zu5,vG (by simpa using h1) (by simpa using h2)]
theorem vt :∀{as bs cs:List PyData} {j:Nat} {d:PyData},(xg as bs cs)[j]?=some d→∃a b c,as[j]?=some a∧bs[j]?=some b∧cs[j]?=some c∧d=aK a b c
 |[],_,_,j,d,h=>by simp[xg] at h
 |a::as,[],_,j,d,h=>by simp[xg] at h
 |a::as,b::bs,[],j,d,h=>by simp[xg] at h
 |a::as,b::bs,c::cs,0,d,h=>by simp[xg] at h;exact⟨a,b,c,rfl,rfl,rfl,h.symm⟩
 |a::as,b::bs,c::cs,j+1,d,h=>by
  obtain⟨x,y,z,e1,e2,e3,e4⟩:=vt (as:=as) (bs:=bs) (cs:=cs) (j:=j) (d:=d) (by simpa[xg] using h)
  exact⟨x,y,z,by simpa using e1,by simpa using e2,by simpa using e3,e4⟩
theorem kY {G:Hp}:∀{vs:List V} {ds:List PyData},vs.length=ds.length→(∀(j:Nat) d,ds[j]?=some d→∃v,vs[j]?=some v∧AV G v d)→AVs G vs ds
 |[],[],_,_=>.nil
 |v::vs,d::ds,hl,h=>by
  obtain⟨v',e,a⟩:=h 0 d rfl
  cases e
  exact .cons a (kY (by simpa using hl) fun j d' hd=>h (j+1) d' (by simpa using hd))
section
variable {X:Cx}{α:Ev}{a b c:Expr}{p p0 pos pos2:Pos}
theorem pM {Q:List PyData→Prop}(hc:X.calm=true)(hgl:Gl X "list")(hml:X.mg "list"=none)(hg:Gl X "zip")(hm:X.mg "zip"=none)
  (h:EvA X α [a,b,c] fun as=>∃ds es fs,as=[.dat (.list ds),.dat (.list es),.dat (.list fs)]∧es.length=ds.length∧fs.length=ds.length∧0<ds.length∧ds.length≤1000∧Q (xg ds es fs))
  (hs0:starEach [.Call (.Name "zip" p) [a,b,c] [] pos2] X.env=[(false,eval (.Call (.Name "zip" p) [a,b,c] [] pos2) X.env)]:=by rfl)
  (hs:starEach [a,b,c] X.env=(false,eval a X.env)::starEach [b,c] X.env:=by rfl) (hpl:(backTo pos2 (starEach [b,c] X.env)).any (·.1)=false:=by rfl):
  EvL X α (.Call (.Name "list" p0) [.Call (.Name "zip" p) [a,b,c] [] pos2] [] pos) Q:=fun F σ H R m k=>by
 refine⟨_,ou hc hgl hml hg hm yv hs0 hs hpl,?_⟩
 refine h F σ H _ m fun as vs H1 q1 t1 k1 rv=>?_
 have m1:=m.kz k1 t1
 obtain⟨ds,es,fs,rfl,l2,l3,l0,lN,q⟩:=q1
 cases rv with
 |cons r1 rv=>
  cases rv with
  |cons r2 rv=>
   cases rv with
   |cons r3 rv=>
    cases rv
    obtain⟨a1,xs,rfl,g1,A1⟩:=AV.lst_inv r1
    obtain⟨a2,ys,rfl,g2,A2⟩:=AV.lst_inv r2
    obtain⟨a3,zs,rfl,g3,A3⟩:=AV.lst_inv r3
    have y1:=A1.length
    have y2:=A2.length
    have y3:=A3.length
    refine⟨a1,a2,a3,xs,ys,zs,rfl,SqL.of (zm g1).2,SqL.of (zm g2).2,SqL.of (zm g3).2,by omega,by omega,by omega,by omega,fun D H' vs hD st hD' tr=>?_⟩
    obtain⟨H'',sb,tri⟩:=tr
    have sm:zC H1 H':=fun a o e=>st a o e
    refine k _ _ H' q (t1.same sm) (k1.trans (Kz.of_same sm)) ⟨D,vs,rfl,?_,hD',?_⟩
    ·cases z:H D with
     |none=>rfl
     |some o=>rw[k1 D o z (m.tp.nt (ow0 (m1.fresh hD)))] at hD;cases hD
    ·have gs:zC (Gz F α σ H1) (sub (fun x=>¬Ow F α σ x∧x≠D) H'):=zv fun a o h e=>⟨⟨h,zo e hD⟩,st a o e⟩
     refine kY (by rw[tri.1,vG l2 l3];exact y1) fun j d hd=>?_
     obtain⟨d1,d2,d3,e1,e2,e3,rfl⟩:=vt hd
     have hj:j<xs.length:=by rw[y1];exact (zt5.mp e1).1
     obtain⟨t,x,y,z,f1,f2,f3,f4,f5,f6⟩:=tri.2 j hj
     obtain⟨x',ex,ax⟩:=A1.get e1
     obtain⟨y',ey,ay⟩:=A2.get e2
     obtain⟨z',ez,az⟩:=A3.get e3
     rw[f2] at ex;cases ex
     rw[f3] at ey;cases ey
     rw[f4] at ez;cases ez
     obtain⟨nt,ht⟩:=sb t _ f5
     exact⟨_,f1,.tup (zF ⟨m1.fresh f6,nt⟩ ht) (.cons (ax.same gs) (.cons (ay.same gs) (.cons (az.same gs) .nil)))⟩
theorem sW :∀{ns:List Int} {its:List Value},Vals (ns.map V.int) its→∃ps:List (Int×Tok),its=ps.map (fun p=>Value.int p.1 p.2)∧ps.map (·.1)=ns
 |[],_,.nil=>⟨[],rfl,rfl⟩
 |n::ns,_,.cons h hs=>by
  obtain⟨ps,e1,e2⟩:=sW hs
  obtain⟨t,rfl⟩:=h
  exact⟨(n,t)::ps,by rw[e1];rfl,by rw[←e2];rfl⟩
theorem tW (ps:List (Int×Tok))(k:Nat):numAt ps.toArray k=(ps.map (·.1)).getD k 0:=by
 unfold numAt
 rw[List.getElem?_toArray,zt7,zu7]
theorem ve (ps:List (Int×Tok)):∀k,k≤ps.length→preSum (numAt ps.toArray) k=((ps.map (·.1)).take k).sum
 |0,_=>by simp[preSum]
 |k+1,h=>by
  have hk:k<(ps.map (·.1)).length:=by rw[zt1];omega
  rw[preSum,ve ps k (by omega),tW,zC0,zt3 hk,List.sum_append,zt7,zt3 hk]
  simp
def Fits (ns:List Int):Prop:=∀k,k≤ns.length→-(2 ^ 62)≤(ns.take k).sum∧(ns.take k).sum<2 ^ 62
theorem jf (hc:X.calm=true):wL X (.builtin "sum") (fun xs H Q=>∃(l:Addr) (ns:List Int),xs=[.ref l]∧SqL X.K H l (ns.map V.int)∧(∀n∈ns,-(2 ^ 62)≤n∧n<2 ^ 62)∧Fits ns∧Q (.int ns.sum) H):=by
 intro pins s σ H xs us Q I r h
 obtain⟨l,ns,rfl,hS,hb,hf,q⟩:=h
 obtain⟨u,rfl,rx⟩:=Vals.one r
 cases (show u=Value.ref l from rx)
 obtain⟨its,rv,p,hz⟩:=I.list hS
 obtain⟨ps,rfl,rfl⟩:=sW rv
 have hl:s.heap.IsList l (intItems ps.toArray):=by
  have:=p.isList
  rwa [show intItems ps.toArray=(ps.map fun p=>Value.int p.1 p.2).toArray by simp[intItems]]
 refine sum_intList (I.ok.hd hc) hl (fun j hj=>?_) fun h' tk t' hk=>?_
 ·have hj':j<ps.length:=by simpa using hj
  have hk:j<(ps.map (·.1)).length:=by rw[zt1];exact hj'
  rw[ve ps (j+1) (by omega),tW,zt7,zt3 hk]
  have h1:=hb _ (zE7 hk)
  have h2:=hf (j+1) (by omega)
  refine⟨⟨?_,?_⟩,?_,?_⟩
  ·show -(2 ^ 63)≤(ps.map (·.1))[j];omega
  ·show (ps.map (·.1))[j]<2 ^ 63;omega
  ·omega
  ·omega
 ·rw[show preSum (numAt ps.toArray) ps.toArray.size=(ps.map (·.1)).sum by
   rw[zu2,ve ps ps.length (zt8 _),←zt1 (f:=(·.1)) (as:=ps),zE8]]
  exact⟨.int _,H,I.kept (t':=tk) hk,⟨_,rfl⟩,q⟩
theorem ku {Q:PyData→Prop}{e:Expr}(hc:X.calm=true)(hg:Gl X "sum")(hm:X.mg "sum"=none)(h:EvD X α e fun x=>∃ns:List Int,x=.list (ns.map .int)∧(∀n∈ns,-(2 ^ 62)≤n∧n<2 ^ 62)∧Fits ns∧Q (.int ns.sum))(he:starEach [e] X.env=(false,eval e X.env)::starEach [] X.env:=by rfl):
  EvD X α (.Call (.Name "sum" p) [e] [] pos) Q:=by
 refine sX (jf hc) hg hm boot_sum (zl (h.imp fun x ⟨ns,e1,hb,hf,q⟩=>zt ?_) he) (he:=he)
 intro F σ H vs R m rv k
 subst e1
 obtain⟨v,rfl,av⟩:=rv.one
 obtain⟨a,xs,rfl,h1,h2⟩:=av.lst_inv
 cases h2.ints
 exact⟨a,ns,rfl,SqL.of (zm h1).2,hb,hf,k _ _ H q m.tp Kz.refl (.int _)⟩
end
def yF :List Int→List Bool→List Int
 |z::zs,b::bs=>if b=true then yF zs bs else z::yF zs bs
 |_,_=>[]
theorem wc :∀{zs:List Int} {bs:List Bool} {z:Int},z∈yF zs bs→z∈zs
 |[],_,z,h=>by simp[yF] at h
 |y::zs,[],z,h=>by simp[yF] at h
 |y::zs,b::bs,z,h=>by
  rw[yF] at h
  split at h
  ·exact zu1 _ (wc h)
  ·rcases zt4.mp h with e|h
   ·rw[e];exact zu8
   ·exact zu1 _ (wc h)
theorem vw :∀(zs:List Int) (bs:List Bool),(yF zs bs).length≤zs.length
 |[],_=>by simp[yF]
 |y::zs,[]=>by simp[yF]
 |y::zs,b::bs=>by
  rw[yF]
  have:=vw zs bs
  split
  ·rw[zu5];omega
  ·rw[zu5,zu5];omega
theorem sum_bound :∀{ns:List Int} {m:Int},0≤m→(∀n∈ns,0≤n∧n≤m)→0≤ns.sum∧ns.sum≤ns.length*m
 |[],m,_,_=>by simp
 |n::ns,m,h0,h=>by
  obtain⟨a,b⟩:=sum_bound h0 fun x hx=>h x (zu1 _ hx)
  have:=h n zu8
  rw[List.sum_cons,zu5,Int.natCast_add,Int.add_mul]
  constructor
  ·omega
  ·simp;omega
theorem sj {ns:List Int}(h:∀n∈ns,0≤n∧n≤1000000000000)(hl:ns.length≤1000):Fits ns:=fun k hk=>by
 obtain⟨a,b⟩:=sum_bound (ns:=ns.take k) (m:=1000000000000) (by decide) fun n hn=>h n (List.mem_of_mem_take hn)
 have:((ns.take k).length:Int)*1000000000000≤1000*1000000000000:=by
  apply Int.mul_le_mul_of_nonneg_right _ (by decide)
  rw[zz7];omega
 omega
def bF (p:Nat):PyData→PyData
 |.tuple [a,b,c]=>if p=1 then b else c
 |_=>.none
def ue :PyData→Bool
 |.tuple [_,_,.bool b]=>b
 |_=>false
theorem vW :∀{ds:List PyData} {zs:List Int} {bs:List Bool},zs.length=ds.length→bs.length=ds.length→((xg ds (zs.map .int) (bs.map .bool)).filter fun d=>!ue d).map (bF 1)=(yF zs bs).map .int
 |[],[],[],_,_=>rfl
 |d::ds,z::zs,b::bs,h1,h2=>by
  have ih:=vW (ds:=ds) (zs:=zs) (bs:=bs) (by simpa using h1) (by simpa using h2)
  rw[zx0,zx0,xg,yF,zE6]
  cases b with
  |true=>simpa[ue,aK] using ih
  |false=>simp[ue,aK,bF];exact ih
def wN (d:PyData)(zs:List Int)(bs:List Bool):Prop:=(d=.none∧bs=List.replicate zs.length false)∨∃many free:Nat,d=.tuple [.int many,.int free]∧uM zs many free zs.length bs
theorem wN.len {d:PyData}{zs:List Int}{bs:List Bool}(h:wN d zs bs):bs.length=zs.length:=by
 rcases h with ⟨_,rfl⟩|⟨_,_,_,h⟩
 ·simp
 ·exact h.1
def qw (d:PyData):Prop:=d=.none∨∃many free:Nat,d=.tuple [.int many,.int free]∧0<free∧free<many∧many<64
theorem oJ {many free:Nat}{zs:List Int}{bs:List Bool}(h:wN (.tuple [.int many,.int free]) zs bs):uM zs many free zs.length bs:=by
 rcases h with ⟨h,_⟩|⟨m',f',h,mk⟩
 ·cases h
 ·injection h with h
  injection h with h1 h2
  injection h2 with h2 _
  injection h1 with h1
  injection h2 with h2
  have e1:m'=many:=by omega
  have e2:f'=free:=by omega
  rw[e1,e2] at mk
  exact mk
section
variable {κ:Type}[DecidableEq κ]
def rq (kvs:List (κ×V))(k:κ):Option V:=(kvs.find? fun kv=>decide (kv.1=k)).map (·.2)
theorem tZ {p:κ×V}{r:List (κ×V)}{k:κ}(e:p.1=k):rq (p::r) k=some p.2:=by simp[rq,zz1,e]
theorem sO {p:κ×V}{r:List (κ×V)}{k:κ}(e:¬p.1=k):rq (p::r) k=rq r k:=by simp[rq,zz1,e]
theorem KV.val {kvs:List (κ×V)}{vs:List (κ×Value)}(r:KV kvs vs)(k:κ):vN (rq kvs k) (valueAt vs k):=by
 unfold KV at r
 induction r with
 |nil=>exact True.intro
 |@cons p q ps qs h t ih=>
  obtain⟨h1,h2⟩:=h
  by_cases e:p.1=k
  ·have e':q.1=k:=h1.symm.trans e
   have b:valueAt (q::qs) k=some q.2:=by simp[valueAt,zz1,e']
   rw[tZ e,b];exact h2
  ·have e':¬q.1=k:=fun z=>e (h1.trans z)
   have b:valueAt (q::qs) k=valueAt qs k:=by simp[valueAt,zz1,e']
   rw[sO e,b];exact ih
end
theorem aQ {P:Program}{w:World}{k:Key}{u:Value}(r:RelV (kV k) u):(yX P w).is k u=true:=by
 cases k with
 |inl i=>obtain⟨t,e⟩:=(show ∃t,u=Value.int i t from r);subst e;exact oy P w i t
 |inr x=>obtain⟨t,e⟩:=(show ∃t,u=Value.str x t from r);subst e;exact oO P w x t
theorem rX {P:Program}{w:World}:∀{ks:List Key} {us:List Value},Vals (ks.map kV) us→ItemsAre (yX P w) ks us
 |[],_,r=>by rw[List.map_nil] at r;cases r;exact .nil
 |k::ks,_,r=>by
  rw[zx0] at r
  cases r with
  |cons h t=>exact .cons (aQ h) (rX t)
abbrev KT (H:Hp):List (List Key×V)→List (List Key×Addr×Value)→Prop:=Paired fun p q=>p.1=q.1∧H q.2.1=some (.tup (p.1.map kV))∧RelV p.2 q.2.2
theorem KT.val {H:Hp}{kvs:List (List Key×V)}{xs:List (List Key×Addr×Value)}(r:KT H kvs xs)(k:List Key):vN (rq kvs k) ((atKey xs k).map (·.2)):=by
 induction r with
 |nil=>exact True.intro
 |@cons p q ps qs h t ih=>
  obtain⟨h1,_,h2⟩:=h
  by_cases e:p.1=k
  ·have e':q.1=k:=h1.symm.trans e
   have b:atKey (q::qs) k=some q.2:=by simp[atKey,zz1,e']
   rw[tZ e,b];exact h2
  ·have e':¬q.1=k:=fun z=>e (h1.trans z)
   have b:atKey (q::qs) k=atKey qs k:=by simp[atKey,zz1,e']
   rw[sO e,b];exact ih
section
variable {P:Program}{w:World}{H:Hp}{h:Heap}{a:Addr}
theorem za6 {u:HO}(ok:HOk P w H h)(e:Rd H a u):zY P w H h a u:=e.ok ok
theorem za2 {kvs:List (Key×V)}(ok:HOk P w H h)(e:Rd H a (.dK kvs)):kvs.length≤sizeLine∧(a == sysModules)=false∧∃vs,KV kvs vs∧h.DictOf (yX P w) a vs:=
 show zY P w H h a (.dK kvs) from za6 ok e
theorem ff {ks:List Key}(ok:HOk P w H h)(e:H a=some (.tup (ks.map kV))):(tupleKind (yX P w)).is h ks a:=by
 obtain⟨_,its,r,o,h1,h2,n,h3⟩:=(show zY P w H h a (.tup (ks.map kV)) from ok a _ e)
 exact⟨o,its.toArray,n,h1,h2,h3,by simpa using rX r⟩
theorem aS {kvs:List (List Key×V)}(ok:HOk P w H h)(e:Rd H a (.dT kvs)):kvs.length≤sizeLine∧(a == sysModules)=false∧
  ∃xs,KT H kvs xs∧h.DictOfH (tupleKind (yX P w)) a xs:=by
 obtain⟨z,y,xs,r,o,es,ep,h1,h2,h3,h4,h5⟩:=(show zY P w H h a (.dT kvs) from za6 ok e)
 refine⟨z,y,xs,r,o,es,ep,h1,h2,h3,h4,fun x hx=>?_,h5⟩
 have all:∀{l:List (List Key×V)} {m:List (List Key×Addr×Value)},KT H l m→∀x∈m,(tupleKind (yX P w)).is h x.1 x.2.1:=by
  intro l m q
  induction q with
  |nil=>intro x hx;exact nomatch hx
  |@cons p q ps qs hq t ih=>
   intro x hx
   rcases zt4.mp hx with e|hx
   ·subst e
    exact ff ok (by rw[←hq.1];exact hq.2.1)
   ·exact ih x hx
 exact all r x hx
end
def zb4 (H:Hp)(a:Addr)(y:V)(r:Option V):Prop:=
 (∃kvs k,Rd H a (.dK kvs)∧y=kV k∧r=rq kvs k)∨∃kvs k b,Rd H a (.dT kvs)∧y=.ref b∧H b=some (.tup (k.map kV))∧r=rq kvs k
section
variable {X:Cx}{pins:List (Addr×Obj)}{σ:St}{H:Hp}{s:Shared}{a:Addr}{y v:V}{u r:Value}{o:Option V}{A:Around}{E:Value→Shared→Prop}
theorem jA {Q:Value→Shared→Prop}(hu:A.units+1<cLine)(I:Inv X pins σ H s)(g:zb4 H a y (some v))(ry:RelV y u)(h:∀w' s',Inv X pins σ H s'→RelV v w'→Q w' s'):
  wpAny (model X.prog X.w) A (getItem (.ref a) u) Q E s:=by
 rcases g with ⟨kvs,k,e,ey,l⟩|⟨kvs,k,b,e,ey,eb,l⟩
 ·subst ey
  obtain⟨z,hd,vs,rel,dd⟩:=za2 I.hok e
  obtain⟨w',hw,rw'⟩:=vN.some_of (v:=v) (o:=valueAt vs k) (by rw[l];exact rel.val k)
  exact wpAny_getItem_of (aQ ry) dd.mapOf hw (h w' _ (I.tok _) rw')
 ·subst ey
  cases (show u=Value.ref b from ry)
  obtain⟨z,hd,xs,rel,dd⟩:=aS I.hok e
  obtain⟨w',hw,rw'⟩:=vN.some_of (v:=v) (o:=(atKey xs k).map (·.2)) (by rw[l];exact rel.val k)
  obtain⟨p,hp,hp2⟩:=zw1.mp hw
  refine wpAny_getItem_heap (tupleKind_room_in1 hu) (ff I.hok eb) dd hp ?_
  rw[hp2]
  exact h w' _ (I.tok _) rw'
end
section
variable {X:Cx}{pins:List (Addr×Obj)}{σ:St}{H:Hp}{s:Shared}{a:Addr}{kvs:List (Key×V)}{k:Key}{u:Value}{A:Around}{E:Value→Shared→Prop}
end
theorem oP {X:Cx}{pins:List (Addr×Obj)}{σ:St}{H:Hp}{s:Shared}{a:Addr}{y:V}{o:Option V}(I:Inv X pins σ H s)(g:zb4 H a y o):s.TypeIs (.ref a) "dict":=by
 rcases g with ⟨kvs,k,e,_,_⟩|⟨kvs,k,b,e,_,_,_⟩
 ·obtain⟨_,_,vs,_,dd⟩:=za2 I.hok e
  exact dd.typeIs
 ·obtain⟨_,_,xs,_,dd⟩:=aS I.hok e
  exact dd.typeIs
section
variable {X:Cx}{o i e value:Expr}{pos pos' tpos:Pos}{td ty tv:TE}
end
section
variable {X:Cx}{pos:Pos}
end
section
variable {X:Cx}{pins:List (Addr×Obj)}{σ:St}{H:Hp}{s:Shared}{a:Addr}{y d:V}{u r:Value}{o:Option V}{A:Around}{E:Value→Shared→Prop}
end
section
variable {X:Cx}{o e f:Expr}{apos cpos:Pos}{td ty tx:TE}
end
section
variable {X:Cx}{pins:List (Addr×Obj)}{σ:St}{H:Hp}{s:Shared}{a:Addr}{kvs:List (Key×V)}{A:Around}{E:Value→Shared→Prop}
end
section
variable {X:Cx}{pins:List (Addr×Obj)}{σ:St}{H:Hp}{s:Shared}{a:Addr}{y:V}{u:Value}{A:Around}{E:Value→Shared→Prop}
end
def kEq :PyData→Key→Bool
 |.int i,.inl j=>decide (i=j)
 |.str x,.inr y=>decide (x=y)
 |_,_=>false
theorem iY (k j:Key):kEq (jB k) j=decide (k=j):=by
 cases k<;>cases j<;>simp[kEq,jB]
def cp :List (PyData×PyData)→Key→Option PyData
 |[],_=>none
 |(p,d)::r,k=>if kEq p k=true then some d else cp r k
theorem AVk.get {H:Hp}:∀{kvs:List (Key×V)} {ds:List (PyData×PyData)} {k:Key} {d:PyData},AVk H kvs ds→cp ds k=some d→∃v,rq kvs k=some v∧AV H v d
 |_,_,k,d,.nil,e=>by cases e
 |_,_,k,d,.cons (k:=j) h r,e=>by
  unfold cp at e
  rw[iY] at e
  by_cases z:j=k
  ·rw[zE2 z,if_pos rfl] at e
   cases e
   exact⟨_,tZ z,h⟩
  ·rw[zy4 z,if_neg (by decide)] at e
   rw[sO z]
   exact AVk.get r e
theorem ag {H:Hp}{v:V}{k:Key}(h:AV H v (jB k)):v=kV k:=by
 cases k with
 |inl i=>exact h.int_inv
 |inr x=>exact h.str_inv
theorem AV.dk_inv {H:Hp}{v:V}{ds:List (PyData×PyData)}(h:AV H v (aJ ds)):∃a o kvs,v=.ref a∧H a=some (.frz o (.dK kvs))∧AVk H kvs ds:=by
 generalize e:aJ ds=d at h
 cases h with
 |dk h1 h2=>cases e;exact⟨_,_,_,rfl,h1,h2⟩
 |_=>cases e
section
variable {X:Cx}{pins:List (Addr×Obj)}{σ:St}{H:Hp}{s:Shared}{l:Addr}{kvs:List (Key×V)}
end
section
variable {X:Cx}{e:Expr}{sts:List Stmt}
end
section
variable {X:Cx}{α:Ev}{e a b:Expr}{pos p:Pos}{Q:PyData→Prop}
end
section
variable {X:Cx}{α:Ev}{e a b:Expr}{pos p:Pos}{Q:PyData→Prop}
end
section
variable {X:Cx}{tg:Expr}
end
section
variable {X:Cx}{α:Ev}{e a b tg:Expr}{pos p:Pos}{Q:List PyData→Prop}
end
mutual
def ltD :PyData→PyData→Option Bool
 |.int a,.int b=>some (decide (a<b))
 |.str a,.str b=>some (decide (a.cps.toList<b.cps.toList))
 |.tuple xs,.tuple ys=>zk8 xs ys
 |_,_=>none
def zk8 :List PyData→List PyData→Option Bool
 |[],[]=>some false
 |[],_::_=>some true
 |_::_,[]=>some false
 |x::xs,y::ys=>if PyData.eqv x y=true then zk8 xs ys else ltD x y
end
section
open PySem.SeqAt
open PySem.AutoSeq1 (wpAny_loadPart')
open PySem.MeetsSeq PySem.MeetsSeq2 PySem.MeetsSeq3
end
section
variable {prog:Program}{w:World}{A:Around}{R:Result→Shared→Prop}{it:Addr}{fp wr:List Addr}{m:Nat}{P:Nat→Value→Prop}{St:Nat→Heap→Prop}
end
section
variable {prog:Program}{w:World}{A:Around}{E:Value→Shared→Prop}{s:Shared}
end
section
variable {X:Cx}{α:Ev}{e:Expr}{pos p:Pos}{Q:PyData→Prop}
end
section
variable {prog:Program}{w:World}{A:Around}{E:Value→Shared→Prop}{s:Shared}{it l:Addr}{items:Array Value}
end
section
variable {X:Cx}{α:Ev}{a e c:Expr}{p p0 pos pos2:Pos}{Q:List PyData→Prop}
end
def oW (Q:PyData→Prop):List PyData→Prop
 |[]=>True
 |d::r=>Q d∧oW Q r
theorem oW.mem {Q:PyData→Prop}:∀{ds:List PyData},oW Q ds→∀d∈ds,Q d
 |[],_,d,h=>by cases h
 |x::r,h,d,hd=>by
  rcases zt4.mp hd with rfl|hd
  ·exact h.1
  ·exact oW.mem h.2 d hd
theorem cO {x:PyData}{ds:List PyData}{v:Int}{Q:PyData→Prop}(hx:wo x=some ds)(h0:0≤v)(h1:v<ds.length)(h:oW Q ds):∃ds i d,wo x=some ds∧PyData.int v=.int i∧atI ds i=some d∧Q d:=by
 obtain⟨d,hd,e⟩:=oM h0 h1
 exact⟨ds,v,d,hx,rfl,e,h.mem d hd⟩
theorem fv {x:PyData}{ds:List PyData}{v:Int}{Q:PyData→Prop}(P:PyData→Prop)(hx:wo x=some ds)(h0:0≤v)(h1:v<ds.length)(h:oW P ds)(k:∀d,P d→Q d):∃ds i d,wo x=some ds∧PyData.int v=.int i∧atI ds i=some d∧Q d:=by
 obtain⟨d,hd,e⟩:=oM h0 h1
 exact⟨ds,v,d,hx,rfl,e,k d (h.mem d hd)⟩
section
variable {X:Cx}{α:Ev}{e a b:Expr}{pos p:Pos}{E:xp}{rest:List Stmt}
theorem lM (i:Nat){x:Str}{pos':Pos}(hN:X.N.Nodup)(h:EvN X α e fun d=>∀S,SvS X (α.set i (some (.deep d S))) rest E)(hi:X.N[i]?=some x:=by rfl)(hx:Loc X.env.scope x:=by first|exact Or.inl rfl|exact Or.inr rfl)
  (hs:swapsWith e (some (.Name x pos')) pos.line X.env=pure false:=by rfl) (hf:X.fn x=true∨X.env.scope.names.lookup x=some .local:=by first|exact .inl rfl|exact .inr rfl|assumption):SvS X α (.Assign [.Name x pos'] e pos::rest) E:=fun F σ H D m r=>by
 refine⟨_,zH (wC hN hi hx zr hs hf) zZ,?_⟩
 refine h F σ H _ m fun d v H1 q1 t1 k1 r1=>?_
 have m1:=m.kz k1 t1
 -- all lists that are new
 refine q1 (fun y=>H y=none∧∃xs,H1 y=some (.lst xs)) F _ H1 D (m.store t1 k1 (fun y z=>z.1) ⟨v,rfl,r1.same fun y o z=>?_,fun y z=>⟨ow0 (m.fresh z.1),m.fresh0 z.1,z.2⟩⟩) r
 obtain⟨z1,z2⟩:=zm z
 unfold yY
 by_cases w:H y=none∧∃xs,H1 y=some (.lst xs)
 ·rw[if_pos w];exact z2
 ·rw[if_neg w]
  have g:sub (fun x=>¬Ow F α σ x∧¬foot (some v) (A.deep d fun y=>H y=none∧∃xs,H1 y=some (.lst xs)) x) H1 y=some o:=zF ⟨z1.1,w⟩ z2
  rw[g]
  cases o with
  |lst xs=>
   exfalso
   cases q:H y with
   |none=>exact w ⟨q,xs,z2⟩
   |some o'=>
    have:=k1 y o' q (m.tp.nt (ow0 z1.1))
    rw[z2] at this;cases this
    exact z1.2 xs q
  |_=>rfl
def EvR (X:Cx)(α:Ev)(e:Expr)(Q:PyData→Prop):Prop:=∀(F:Fr) (σ:St) (H:Hp) (R:VK),M F α σ H→(∀d v H',Q d→zQ F H'→Kz F H H'→AV (sub (fun x=>¬F.O0 x∧∀xs,F.H0 x≠some (.lst xs)) H') v d→R v H')→uF X e σ H R
theorem dG {Q:PyData→Prop}(h:EvD X α e fun d=>noL d=true∧Q d):EvR X α e Q:=fun F σ H R m k=>h F σ H R m fun d v H' q t kz r=>k d v H' q.2 t kz (r.noL (fun x o ho z=>by
 obtain⟨z1,z2⟩:=zm z
 refine zF ⟨ow0 z1,fun xs w=>?_⟩ z2
 have:=kz _ _ (m.keep _ _ w (m.tp.nt (ow0 z1))) (m.tp.nt (ow0 z1))
 rw[z2] at this;cases this
 exact ho trivial) q.1)
theorem zf1 (i:Nat){x:Str}{ds:List PyData}{Q:PyData→Prop}(hi:α[i]?=some (some (.own ds)))(q:xJ ds=true∧Q (.list ds))(hN:X.N[i]?=some x:=by rfl)(hv:Vis X.env.scope x:=by first|exact Or.inl rfl|exact Or.inr (Or.inl rfl)|exact Or.inr (Or.inr rfl))
  (hd:(x == ("__debug__":Str))=false:=by decide) (hcd:(x == ("__classdict__":Str))=false:=by decide):EvR X α (.Name x pos) Q:=fun F σ H R m k=>by
 obtain⟨l,xs,h1,h2,h3,h4,h5⟩:=m.own i ds hi
 refine⟨_,yy hN hv hd hcd,.ref l,h1,k _ _ H q.2 m.tp Kz.refl (.lst (zF ⟨h4,fun xs w=>by rw[h5] at w;cases w⟩ h2) (h3.noL (fun x o ho z=>?_) q.1))⟩
 obtain⟨z1,z2⟩:=zm z
 refine zF ⟨ow0 z1,fun xs w=>?_⟩ z2
 rw[m.keep _ _ w (m.tp.nt (ow0 z1))] at z2;cases z2
 exact ho trivial
def aa (X:Cx)(α:Ev)(es:List Expr)(Q:List PyData→Prop):Prop:=∀(F:Fr) (σ:St) (H:Hp) (R:List V→Hp→Prop),M F α σ H→(∀ds vs H',Q ds→zQ F H'→Kz F H H'→AVs (sub (fun x=>¬F.O0 x∧∀xs,F.H0 x≠some (.lst xs)) H') vs ds→R vs H')→ze8 X es σ H R
theorem bG {Q:List PyData→Prop}(q:Q []):aa X α [] Q:=fun F σ H R m k=>⟨_,zu,k _ _ H q m.tp Kz.refl .nil⟩
theorem tO {es:List Expr}{Q:List PyData→Prop}(h:EvR X α e fun d=>aa X α es fun ds=>Q (d::ds))(hs:starEach (e::es) X.env=(false,eval e X.env)::starEach es X.env:=by rfl):aa X α (e::es) Q:=fun F σ H R m k=>by
 refine⟨_,zf zr yv hs,?_⟩
 refine h F σ H _ m fun d v H1 q1 t1 k1 r1=>?_
 have m1:=m.kz k1 t1
 exact q1 F σ H1 _ m1 fun as vs H2 q2 t2 k2 r2=>k _ _ H2 q2 t2 (k1.trans k2) (.cons (r1.same (zv fun x o z w=>⟨z,k2 _ _ w (m.tp.nt z.1)⟩)) r2)
theorem zc7 {n:Nat}{es:List Expr}{Q:PyData→Prop}(h:aa X α es fun ds=>ds.length≤1000∧Q (.tuple ds)):EvR X α (.Tuple es n pos) Q:=fun F σ H R m k=>by
 refine⟨_,tX yv,?_⟩
 refine h F σ H _ m fun ds vs H1 q1 t1 k1 r1=>?_
 have m1:=m.kz k1 t1
 refine⟨by rw[r1.length];exact zy6 (yG q1.1),fun p hp=>?_⟩
 exact k _ _ _ q1.2 (t1.same (yr hp)) (k1.trans (Kz.of_same (yr hp))) (.tup (zF ⟨ow0 (m1.fresh hp),fun xs w=>by rw[m1.fresh0 hp] at w;cases w⟩ zk) (r1.same (zv fun x o z w=>⟨z,by rw[zd (zo w hp)];exact w⟩)))
theorem ae (h:EvR X α e fun d=>∀S,E.rt (.deep d S)):SvS X α (.Return (some e) pos::rest) E:=fun F σ H D m r=>by
 refine⟨_,zH (zE zr) zZ,?_⟩
 refine h F σ H _ m fun d v H1 q1 t1 k1 r1=>?_
 have m1:=m.kz k1 t1
 refine r.rt (.deep d fun y=>¬F.O0 y∧F.H0 y=none∧∃xs,H1 y=some (.lst xs)) _ _ ⟨t1,m.keep.trans k1,?_,?_⟩ (q1 _)
 ·refine r1.same fun y o z=>?_
  obtain⟨z1,z2⟩:=zm z
  unfold yY
  by_cases w:¬F.O0 y∧F.H0 y=none∧∃xs,H1 y=some (.lst xs)
  ·rw[if_pos w];exact z2
  ·rw[if_neg w,zF (p:=fun x=>¬F.O0 x) z1.1 z2]
   cases o with
   |lst xs=>
    exfalso
    cases q:F.H0 y with
    |none=>exact w ⟨z1.1,q,xs,z2⟩
    |some o'=>
     have:=m1.keep y o' q (m.tp.nt z1.1)
     rw[z2] at this;cases this
     exact z1.2 xs q
   |_=>rfl
 ·exact fun x z=>z
theorem xO.backN {F:Fr}{σ:St}{H H1 H':Hp}{v:V}{d:PyData}{S:Addr→Prop}(m:M F α σ H)(k1:Kz F H H1)(m1:M F α σ H1)(h:xO ⟨H1,Ow F α σ,F.tp⟩ v H' (.deep d S)):AV (sub (fun x=>¬Ow F α σ x∧∀xs,H x≠some (.lst xs)) H') v d:=by
 obtain⟨t,kz,r,hS⟩:=h
 refine r.same fun x o z=>?_
 have nl:∀xs,H x=some (.lst xs)→¬Ow F α σ x→H' x=some (.lst xs)∧H1 x=some (.lst xs):=fun xs e n=>by
  have e1:=k1 _ _ e (m.tp.nt (ow0 n))
  exact⟨kz _ _ e1 ((m.tp.to (F':=⟨H1,Ow F α σ,F.tp⟩) rfl fun _ z=>.inl z).nt n),e1⟩
 rcases vj z with ⟨z1,z2⟩|⟨z1,z2⟩
 ·obtain⟨w1,w2,_⟩:=hS x z1
  refine zF ⟨w1,fun xs e=>?_⟩ z2
  have w2':H1 x=none:=w2
  rw[(nl xs e w1).2] at w2';cases w2'
 ·obtain⟨w1,w2⟩:=zm z2
  refine zF ⟨w1,fun xs e=>?_⟩ w2
  have:=(nl xs e w1).1
  rw[w2] at this;cases this
  have z':=z
  unfold yY at z'
  rw[if_neg z1,z2] at z'
  cases z'
theorem lg {k:Nat}{x:Str}{φ:List A→(A→Prop)→Prop}{es:List Expr}{Q:PyData→Prop}(C:Cal X.prog X.w X.K X.mg X.base x k φ)(hr:zL k X.A)(hg:Gl X x)(h:EvA X α (e::es) fun as=>φ as fun a=>∃d S,a=.deep d S∧Q d)
  (hdb:(x == ("__debug__":Str))=false:=by decide) (he:starEach (e::es) X.env=(false,eval e X.env)::starEach es X.env:=by rfl) (hpl:(backTo pos (starEach es X.env)).any (·.1)=false:=by rfl):EvN X α (.Call (.Name x p) (e::es) [] pos) Q:=fun F σ H R m kk=>by
 obtain⟨f,fd,ps,g1,g2,g3,g4⟩:=C.ex
 refine⟨_,zP g4 hr hg g1 g2 g3 .nil zX yv hdb he hpl,?_⟩
 refine h F σ H _ m fun as vs H1 q1 t1 k1 r1=>?_
 have m1:=m.kz k1 t1
 refine xF m1 r1 q1 fun a v H' qa ra=>?_
 obtain⟨d,S,rfl,q⟩:=qa
 obtain⟨w1,w2,_⟩:=ra.back m1
 exact kk d v H' q w1 (k1.trans w2) (ra.backN m k1 m1)
def zp8 (c c':PyData):Prop:=(noL c=true∧c'=c)∨∃es es',c=.list es∧c'=.list es'∧xJ es'=true∧es'.length≤es.length+1
def Sim :List PyData→List PyData→Prop
 |[],[]=>True
 |c::r,c'::r'=>zp8 c c'∧Sim r r'
 |_,_=>False
def Flt (c:PyData):Prop:=noL c=true∨∃es,c=.list es∧xJ es=true
theorem grown {G G':Hp}{l:Addr}{zs:List V}{vd:V}{d:PyData}(hd:AV G' vd d)(nd:noL d=true)(h1:G l=some (.lst zs))(h1':G' l=some (.lst (zs++[vd])))(hk:∀x o,x≠l→G x=some o→G' x=some o):∀{xs:List V} {ds:List PyData},AVs G xs ds→(∀c∈ds,Flt c)→∃ds',AVs G' xs ds'∧Sim ds ds'
 |_,_,.nil,_=>⟨[],.nil,trivial⟩
 |_,_,.cons (x:=x) (d:=c) h r,hf=>by
  have nob:∀x o,¬Ob o→G x=some o→G' x=some o:=fun x o ho e=>hk x o (fun z=>by rw[z,h1] at e;cases e;exact ho trivial) e
  obtain⟨ds',g1,g2⟩:=grown hd nd h1 h1' hk r fun c hc=>hf c (zu1 _ hc)
  rcases hf c zu8 with n|⟨es,rfl,n⟩
  ·exact⟨c::ds',.cons (h.noL nob n) g1,.inl ⟨n,rfl⟩,g2⟩
  ·obtain⟨a,ys,rfl,e1,e2⟩:=h.lst_inv
   by_cases z:a=l
   ·subst z
    rw[h1] at e1;cases e1
    refine⟨.list (es++[d])::ds',.cons (.lst h1' ((e2.noL nob n).append (.cons hd .nil))) g1,.inr ⟨es,_,rfl,rfl,?_,by simp⟩,g2⟩
    have:∀es:List PyData,xJ es=true→xJ (es++[d])=true:=by
     intro es
     induction es with
     |nil=>intro _;simp[xJ,nd]
     |cons a as ih=>intro h;simp only[xJ,zv1,zH2] at h ⊢;exact⟨h.1,ih h.2⟩
    exact this es n
   ·exact⟨.list es::ds',.cons (.lst (hk _ _ z e1) (e2.noL nob n)) g1,.inr ⟨es,es,rfl,rfl,n,by omega⟩,g2⟩
theorem cu (i n:Nat){x:Str}{ds es:List PyData}{S:Addr→Prop}{jn:Nat}{p0 p1 p2 p3 p4:Pos}(hi:α[i]?=some (some (.deep (.tuple ds) S)))(hn:ds[n]?=some (.list es))(hl:es.length<1000)(hfl:∀c∈ds,Flt c)(h:EvD X α e fun d=>noL d=true∧∀ds',Sim ds ds'→SvS X (α.set i (some (.deep (.tuple ds') S))) rest E)
  (hN:X.N[i]?=some x:=by rfl) (hv:Vis X.env.scope x:=by first|exact Or.inl rfl|exact Or.inr (Or.inl rfl)|exact Or.inr (Or.inr rfl)) (hd:(x == ("__debug__":Str))=false:=by decide) (hcd:(x == ("__classdict__":Str))=false:=by decide)
  (hbase:attributeBase (.Subscript (.Name x p0) (.Constant (.int n) jn p1) p4) "append" X.env (eval (.Subscript (.Name x p0) (.Constant (.int n) jn p1) p4) X.env)=eval (.Subscript (.Name x p0) (.Constant (.int n) jn p1) p4) X.env:=by rfl) (hs:starEach [e] X.env=(false,eval e X.env)::starEach [] X.env:=by rfl)
  (hpl:((((backTo p3 (starEach [e] X.env)).all fun x=>!x.fst)&&(backToKw p3 (keywordEach [] X.env)).all fun x=>x.fst.isSome)&&decide (([e].length+([]:List Keyword).length+if ([]:List Keyword).isEmpty=true then 0 else 1)<30))=true:=by rfl)
  (hline:(p2.endLine == p3.line)=true:=by rfl) (hsw:swapsWith (.Call (.Attribute (.Subscript (.Name x p0) (.Constant (.int n) jn p1) p4) "append" p2) [e] [] p3) none pos.line X.env=pure false:=by rfl) (hpx:uu (.Constant (.int n) jn p1):=by exact fun _ _=>rfl):
  SvS X α (.Expr (.Call (.Attribute (.Subscript (.Name x p0) (.Constant (.int n) jn p1) p4) "append" p2) [e] [] p3) pos::rest) E:=fun F σ H D m r=>by
 obtain⟨v,h1,h2,h3⟩:=m.deep i _ S hi
 obtain⟨t,xs,rfl,g1,g2⟩:=h2.tup_inv
 obtain⟨y,g3,g4⟩:=g2.get hn
 obtain⟨l,zs,rfl,g5,g6⟩:=g4.lst_inv
 obtain⟨Sl,hl0⟩:=eB g5
 have ht:H t=some (.tup xs):=by
  rcases vj g1 with ⟨_,z⟩|⟨_,z⟩
  ·exact z
  ·exact (zm z).2
 refine⟨_,zH (tH (dR zG6 PySem.F.slot_list_append PySem.F.type_list_append ux (zM yz (yy hN hv hd hcd) zq hpx) (zf zr zu hs) hbase hpl hline hs) hsw) zZ,?_⟩
 refine⟨.ref t,h1,t,xs,(n:Int),.ref l,rfl,rfl,SqT.of ht,xr g3,.inl ⟨rfl,_,SqL.of hl0⟩,?_⟩
 refine h F σ H _ m fun d vd H1 q1 t1 k1 r1=>?_
 have m1:=m.kz k1 t1
 obtain⟨w1,w2,_⟩:=h3 l Sl
 have hl1:H1 l=some (.lst zs):=k1 _ _ hl0 (m.tp.nt w1)
 refine⟨l,zs,vd,rfl,rfl,hl1,by rw[g6.length];exact yG (zy6 hl),?_⟩
 -- the deep heap ahead and behind
 obtain⟨v',f1,f2,f3⟩:=m1.deep i _ S hi
 rw[h1] at f1;cases f1
 obtain⟨t',xs',e0,y1,y2⟩:=f2.tup_inv
 cases e0
 have hs':∀{ds':List PyData} {j:Nat} {a:A} {s:Option V},(α.set i (some (.deep (.tuple ds') S)))[j]?=some (some a)→σ[j]?=some s→(i=j∧a=.deep (.tuple ds') S∧s=some (.ref t))∨(i≠j∧α[j]?=some (some a)):=fun {ds' j a s} e1 e2=>by
  rcases zR e1 with ⟨rfl,z⟩|⟨hj,z⟩
  ·cases z;rw[h1] at e2;cases e2;exact .inl ⟨rfl,rfl,rfl⟩
  ·exact .inr ⟨hj,z⟩
 have ow:∀{ds':List PyData} {z:Addr},Ow F (α.set i (some (.deep (.tuple ds') S))) σ z↔Ow F α σ z:=fun {ds' z}=>by
  constructor
  ·rintro (q|⟨j,a,s,e1,e2,f⟩)
   ·exact .inl q
   ·rcases hs' e1 e2 with ⟨rfl,rfl,rfl⟩|⟨_,e1'⟩
    ·exact .inr ⟨i,_,_,hi,h1,f⟩
    ·exact .inr ⟨j,a,s,e1',e2,f⟩
  ·rintro (q|⟨j,a,s,e1,e2,f⟩)
   ·exact .inl q
   ·by_cases hj:i=j
    ·subst hj
     rw[hi] at e1;cases e1
     exact .inr ⟨i,_,_,get_set ⟨_,hi⟩,e2,f⟩
    ·exact .inr ⟨j,a,s,by rw[sQ hj];exact e1,e2,f⟩
 have ol:Ow F α σ l:=.inr ⟨i,_,_,hi,h1,Sl⟩
 have gs:∀ds',zC (Gz F α σ H1) (Gz F (α.set i (some (.deep (.tuple ds') S))) σ (upd H1 l (.lst (zs++[vd])))):=fun ds' z o e=>by
  obtain⟨z1,z2⟩:=zm e
  have nz:z≠l:=fun w=>z1 (by rw[w];exact ol)
  exact zF (fun q=>z1 (ow.mp q)) (by rw[zd nz];exact z2)
 have hkG:∀ds' x o,x≠l→yY S (Gz F α σ H1) H1 x=some o→yY S (Gz F (α.set i (some (.deep (.tuple ds') S))) σ (upd H1 l (.lst (zs++[vd])))) (upd H1 l (.lst (zs++[vd]))) x=some o:=fun ds' x o nx e=>by
  unfold yY at e ⊢
  by_cases q:S x
  ·rw[if_pos q] at e ⊢;rw[zd nx];exact e
  ·rw[if_neg q] at e ⊢
   cases u:Gz F α σ H1 x with
   |none=>rw[u] at e;cases e
   |some o'=>rw[gs ds' _ _ u];rw[u] at e;exact e
 have e1':yY S (Gz F α σ H1) H1 l=some (.lst zs):=by unfold yY;rw[if_pos Sl];exact hl1
 have e2':∀ds',yY S (Gz F (α.set i (some (.deep (.tuple ds') S))) σ (upd H1 l (.lst (zs++[vd])))) (upd H1 l (.lst (zs++[vd]))) l=some (.lst (zs++[vd])):=fun ds'=>by unfold yY;rw[if_pos Sl];exact zk
 have gz_eq:∀ds' es',Gz F (α.set i (some (.deep (.tuple ds') S))) σ (upd H1 l (.lst (zs++[vd])))=Gz F (α.set i (some (.deep (.tuple es') S))) σ (upd H1 l (.lst (zs++[vd]))):=fun ds' es'=>by
  funext z
  unfold Gz sub
  by_cases q:Ow F α σ z
  ·rw[if_neg (fun w=>w (ow.mpr q)),if_neg (fun w=>w (ow.mpr q))]
  ·rw[if_pos (fun w=>q (ow.mp w)),if_pos (fun w=>q (ow.mp w))]
 have hdv:AV (yY S (Gz F (α.set i (some (.deep (.tuple ds) S))) σ (upd H1 l (.lst (zs++[vd])))) (upd H1 l (.lst (zs++[vd])))) vd d:=by
  refine r1.noL (fun x o ho e=>?_) q1.1
  have nx:x≠l:=fun w=>by
   obtain⟨z1,z2⟩:=zm e
   exact z1 (by rw[w];exact ol)
  refine hkG ds x o nx ?_
  unfold yY
  by_cases q:S x
  ·exact absurd (.inr ⟨i,_,_,hi,h1,q⟩) (zm e).1
  ·rw[if_neg q,e]
   cases o with
   |lst _=>exact absurd trivial ho
   |_=>rfl
 obtain⟨ds',z1,z2⟩:=grown hdv q1.1 e1' (e2' ds) (hkG ds) y2 hfl
 have nt:t≠l:=fun w=>by rw[w,hl0] at ht;cases ht
 refine q1.2 ds' z2 F σ _ D ⟨by rw[zx7];exact m.len,fun j a s e1 e2=>?_,fun j j' a b s u z e1 e2 q3 q4 f1 f2=>?_,fun j r q e j' a s z e1 e2 f=>?_,t1.updO w1 (vH hl1),fun z o e nn=>?_,fun z hz=>?_⟩ r
 ·rcases hs' e1 e2 with ⟨rfl,rfl,rfl⟩|⟨hj,e1''⟩
  ·refine⟨.ref t,rfl,.tup (xs:=xs') ?_ ?_,fun x hx=>?_⟩
   ·rw[gz_eq ds' ds];exact hkG ds t _ nt y1
   ·rw[gz_eq ds' ds];exact z1
   ·obtain⟨a1,a2,ws,a3⟩:=f3 x hx
    refine⟨a1,a2,?_⟩
    by_cases q:x=l
    ·rw[q];exact⟨_,zk⟩
    ·exact⟨ws,by rw[zd q];exact a3⟩
  ·refine (m1.ok j a s e1'' e2).stay (gs ds') (fun z o f e=>?_) rfl fun r q ea k=>⟨k.tp,k.o,k.ok.updO (fun z=>w1 (k.o _ z)) (vH hl1),fun z o e nn=>?_⟩
   ·obtain⟨b1,b2,_⟩:=m1.ft e1'' e2 f
    refine⟨?_,b1,b2⟩
    rw[zd fun w=>hj (m.dj i j _ a _ s l hi e1'' h1 e2 Sl (by rw[←w];exact f))]
    exact e
   ·rw[zd (zo e (m.xd j r q (by rw[←ea];exact e1'') i _ _ l hi h1 Sl))];exact k.k z o e nn
 ·rcases hs' e1 q3 with ⟨rfl,rfl,rfl⟩|⟨hj,e1''⟩
  ·rcases hs' e2 q4 with ⟨rfl,_⟩|⟨hj',e2''⟩
   ·rfl
   ·exact m.dj i j' _ b _ u z hi e2'' h1 q4 f1 f2
  ·rcases hs' e2 q4 with ⟨rfl,rfl,rfl⟩|⟨hj',e2''⟩
   ·exact m.dj j i a _ s _ z e1'' hi q3 h1 f1 f2
   ·exact m.dj j j' a b s u z e1'' e2'' q3 q4 f1 f2
 ·rcases zR e with ⟨_,q⟩|⟨_,e'⟩
  ·cases q
  ·rcases hs' e1 e2 with ⟨rfl,rfl,rfl⟩|⟨hj,e1''⟩
   ·exact m.xd j r q e' i _ _ z hi h1 f
   ·exact m.xd j r q e' j' a s z e1'' e2 f
 ·rw[zd (zo e w2)];exact m1.keep z o e nn
 ·rw[zd (fun w=>w1 (by rw[←w];exact hz))];exact m1.oex z hz
end
def zk6 :R2:=fun x y H R=>rEq x y H R∨zl7 x y H R
def zk7 :R2:=fun x y H R=>rNe x y H R∨zn9 x y H R
theorem eH {X:Cx}(hu:X.A.units+64<cLine):OpR X (compareOp .Eq) zk6:=fun pins s σ H x y v u Q I rx ry h=>h.elim (fun h=>wK _ _ _ _ _ _ _ _ _ I rx ry h) fun h=>wU hu _ _ _ _ _ _ _ _ _ I rx ry h
theorem za8 {X:Cx}(hu:X.A.units+64<cLine):OpR X (compareOp .NotEq) zk7:=fun pins s σ H x y v u Q I rx ry h=>h.elim (fun h=>zk1 _ _ _ _ _ _ _ _ _ I rx ry h) fun h=>zg3 hu _ _ _ _ _ _ _ _ _ I rx ry h
theorem cJ {i j:Str}:Cmp rNe (.str i) (.str j) (!decide (i=j)):=fun p H vx vy R rx ry h=>by
 cases rx.str_inv;cases ry.str_inv
 refine⟨rfl,?_⟩
 rw[show decide (V.str i=V.str j)=decide (i=j) by simp]
 exact h
def js (x y:PyData)(Q:Bool→Prop):Prop:=∃k,Cmp zk6 x y k∧Cmp zk7 x y (!k)∧Q k
theorem bt {i j:Str}{Q:Bool→Prop}(h:Q (decide (i=j))):js (.str i) (.str j) Q:=⟨_,fun p H vx vy R rx ry z=>.inl (lL p H vx vy R rx ry z),fun p H vx vy R rx ry z=>.inl (cJ p H vx vy R rx ry z),h⟩
theorem eqk {x y:PyData}{Q:Bool→Prop}(s1:SeqAt.shaped x=true)(s2:SeqAt.shaped y=true)(d1:x.hasDict=false)(d2:y.hasDict=false)(h:Q (PyData.eqv x y)):js x y Q:=
 ⟨_,fun p H vx vy R rx ry z=>.inr ⟨x,y,(rx.dv d1).same wb,(ry.dv d2).same wb,s1,s2,z⟩,fun p H vx vy R rx ry z=>.inr ⟨x,y,(rx.dv d1).same wb,(ry.dv d2).same wb,s1,s2,z⟩,h⟩
section
variable {X:Cx}{α:Ev}{a b:Expr}{pos:Pos}{Q:PyData→Prop}{T:Bool→Prop}
theorem zf8 (hu:X.A.units+64<cLine)(h:EvD X α a fun x=>EvD X α b fun y=>js x y fun k=>Q (.bool k)):EvD X α (.Compare a [.Eq] [b] pos) Q:=zh1 (eH hu) (zJ _) (h.imp fun x h=>h.imp fun y ⟨k,e,_,q⟩=>⟨k,e,q⟩)
theorem ze5 (hu:X.A.units+64<cLine)(h:EvD X α a fun x=>EvD X α b fun y=>js x y T):EvT X α (.Compare a [.Eq] [b] pos) T:=vX (eH hu) (zJ _) (h.imp fun x h=>h.imp fun y ⟨k,e,_,q⟩=>⟨k,e,q⟩)
theorem iQ (hu:X.A.units+64<cLine)(h:EvD X α a fun x=>EvD X α b fun y=>js x y fun k=>T (!k)):EvT X α (.Compare a [.NotEq] [b] pos) T:=vX (za8 hu) (zJ _) (h.imp fun x h=>h.imp fun y ⟨k,_,e,q⟩=>⟨!k,e,q⟩)
theorem zn2 {k:Bool}{p q:Prop}(e:k=true)(h:p):if k=true then p else q:=by rw[if_pos e];exact h
theorem zn0 {k:Bool}{p q:Prop}(e:k=false)(h:q):if k=true then p else q:=by rw[if_neg (by rw[e];decide)];exact h
variable {E:xp}{s t:List Stmt}
theorem qX {k:Bool}(e:k=true)(h:SvS X α s E):SvS X α (if k=true then s else t) E:=by rw[if_pos e];exact h
theorem tK {k:Bool}(e:k=false)(h:SvS X α t E):SvS X α (if k=true then s else t) E:=by rw[if_neg (by rw[e];decide)];exact h
end
section
variable {X:Cx}{α:Ev}{a b:Expr}{pos:Pos}{Q:PyData→Prop}{T:Bool→Prop}
def zl6 :R2:=fun x y H Q=>∃a v,x=.ref a∧zb4 H a y (some v)∧Q v H
theorem ao (hu:X.A.units+1<cLine):IxR X zl6:=fun value slice pins s σ H x y v u Q I rx ry h hs=>by
 obtain⟨a,z,rfl,g,q⟩:=h
 cases rx
 exact tail_any (oP I g) PySem.F.slot_dict_getitem.lookup (jA hu I g ry fun w' s' I' r'=>⟨z,H,I',r',q⟩) hs
def gS (x y:PyData)(Q:PyData→Prop):Prop:=(∃ds i d,wo x=some ds∧y=.int i∧atI ds i=some d∧Q d)∨∃ds k d,x=aJ ds∧y=jB k∧cp ds k=some d∧Q d
theorem ixk {x y:PyData}{ds:List PyData}{i:Int}{d:PyData}(h1:wo x=some ds)(h2:y=.int i)(h3:atI ds i=some d)(h:Q d):gS x y Q:=.inl ⟨ds,i,d,h1,h2,h3,h⟩
theorem pd {x:PyData}{ds:List PyData}{v:Int}(hx:wo x=some ds)(h0:0≤v)(h1:v<ds.length)(h:oW Q ds):gS x (.int v) Q:=.inl (cO hx h0 h1 h)
theorem zk3 {x:PyData}{ds:List PyData}{v:Int}(P:PyData→Prop)(hx:wo x=some ds)(h0:0≤v)(h1:v<ds.length)(h:oW P ds)(k:∀d,P d→Q d):gS x (.int v) Q:=.inl (fv P hx h0 h1 h k)
theorem zg0 (hu:X.A.units+1<cLine)(hs:uu b)(h:EvD X α a fun x=>EvD X α b fun y=>gS x y Q):EvD X α (.Subscript a b pos) Q:=by
 refine uJ (f:=tOp (fun x y H Q=>rIx X.K x y H Q∨zl6 x y H Q)) (zM (zb2.or (ao hu)) zr zr hs) (fun _ _ _=>Iff.rfl) (h.imp fun x h=>h.imp fun y h=>?_)
 intro F σ H vx vy R m rx ry k
 rcases h with ⟨ds,i,d,e1,rfl,hat,hq⟩|⟨ds,kk,d,rfl,rfl,hv,hq⟩
 ·cases ry.int_inv
  cases x with
  |list ds'=>
   cases e1
   obtain⟨a,xs,rfl,h1,h2⟩:=rx.lst_inv
   obtain⟨v,hv,av⟩:=h2.atI hat
   exact .inl (.inl ⟨a,xs,i,v,rfl,rfl,SqL.of (zm h1).2,hv,k d v H hq m.tp Kz.refl av⟩)
  |tuple ds'=>
   cases e1
   obtain⟨a,xs,rfl,h1,h2⟩:=rx.tup_inv
   obtain⟨v,hv,av⟩:=h2.atI hat
   exact .inl (.inr (.inl ⟨a,xs,i,v,rfl,rfl,SqT.of (zm h1).2,hv,k d v H hq m.tp Kz.refl av⟩))
  |_=>cases e1
 ·obtain⟨a,o,kvs,rfl,g1,g2⟩:=rx.dk_inv
  obtain⟨v,w1,w2⟩:=g2.get hv
  cases ag ry
  exact .inr ⟨a,v,rfl,.inl ⟨kvs,kk,.inr ⟨o,(zm g1).2⟩,rfl,w1.symm⟩,k d v H hq m.tp Kz.refl w2⟩
end
theorem zL.one {k:Nat}{A:Around}(h:zL k A):A.units+1<cLine:=by have:=h.units;omega
section
variable {X:Cx}{α:Ev}{E:xp}{rest body:List Stmt}{e c tg iter:Expr}{pos p:Pos}
theorem ar (pat:Pat)(h:EvI X α tg iter fun ds=>uW X pat body rest E ds α)(hN:X.N.Nodup:=by assumption)(hp:PassesOwn (model X.prog X.w) X.A X.env X.xe:=by exact zz2)(hc:X.calm=true:=by rfl)
  (hg:PG X tg (nh X.K pat):=by first|exact zI (by assumption) rfl (Or.inl rfl)|exact zI (by assumption) rfl (Or.inr rfl)|exact xC rfl rfl (by repeat (first|exact wI|refine yC (by first|exact zI (by assumption) rfl (Or.inl rfl)|exact zI (by assumption) rfl (Or.inr rfl)) ?_)))
  (hs:∀x,foldedSetIterable iter X.env x=pure x:=by intro _;rfl):SvS X α (.For tg iter body [] pos::rest) E:=wk hp hc hg h hs
def freeOk (xs:Scope)(y:Str×NameKind):Bool:=match y.2 with
 |.free=>match xs.names.lookup y.1 with
  |some .cell=>true
  |some .free=>true
  |_=>false
 |_=>true
theorem oH {xs scope:Scope}(h:scope.names.all (freeOk xs)=true):∀y∈scope.names,y.2=.free→xs.names.lookup y.1=some .cell∨xs.names.lookup y.1=some .free:=fun y hy e=>by
 have:=zC7.mp h y hy
 unfold freeOk at this
 rw[e] at this
 cases z:xs.names.lookup y.1 with
 |none=>rw[z] at this;cases this
 |some k=>
  rw[z] at this
  cases k<;>first|exact .inl rfl|exact .inr rfl|cases this
theorem zc2 (N:List Str)(imp:List (Option Nat))(pat:Pat){scope:Scope}{elt:Expr}{ifs:List Expr}{Q:List PyData→Prop}(h:EvI X α tg iter fun ds=>ds.length≤1000∧xm (fun C s2 H2 fp=>X.comp N scope C s2 H2 fp) pat ifs elt (yR imp α) ds [] Q)
  (nd:N.Nodup:=by decide +kernel) (h1:scope.kind=.function:=by rfl) (h2:∀y∈scope.names,y.2≠.cell:=by decide +kernel) (h3:∀y∈scope.names,y.2=.local→scope.names.lookup y.1=some .local:=by decide +kernel) (h4:scope.names.all (freeOk X.env.scope)=true:=by rfl) (h5:imp.length=N.length:=by rfl)
  (h6:((imp.zip N).all fun p=>match p.1 with|none=>true|some j=>X.N[j]? == some p.2&&scope.names.lookup p.2 == some .free)=true:=by rfl) (hfree:pat.free (yR imp α)=true:=by rfl)
  (hg:∀C s2 H2 fp,N.Nodup→PG (X.comp N scope C s2 H2 fp) tg (nh X.K pat):=by intro _ _ _ _ hnd;first|exact zI hnd rfl (Or.inl rfl)|exact xC rfl rfl (by repeat (first|exact wI|refine yC (zI hnd rfl (Or.inl rfl)) ?_)))
  (hc:X.calm=true:=by rfl) (hs:∀x,foldedSetIterable iter X.env x=pure x:=by intro _;rfl):EvL X α (.ListComp elt [⟨tg,iter,ifs,0⟩] scope pos) Q:=iX hc ⟨h1,nd,h2,h3,oH h4,h5,h6⟩ hfree (fun C s2 H2 fp=>hg C s2 H2 fp nd) h hs
theorem eh (i:Nat)(N:List Str)(imp:List (Option Nat))(pat:Pat){x:Str}{pos' cpos:Pos}{scope:Scope}{elt:Expr}{ifs:List Expr}(h:EvI X α tg iter fun ds=>ds.length≤1000∧xm (fun C s2 H2 fp=>X.comp N scope C s2 H2 fp) pat ifs elt (yR imp α) ds [] fun ds=>SvS X (α.set i (some (.own ds))) rest E)
  (hN:X.N.Nodup:=by assumption)
  (nd:N.Nodup:=by decide +kernel) (h1:scope.kind=.function:=by rfl) (h2:∀y∈scope.names,y.2≠.cell:=by decide +kernel) (h3:∀y∈scope.names,y.2=.local→scope.names.lookup y.1=some .local:=by decide +kernel) (h4:scope.names.all (freeOk X.env.scope)=true:=by rfl) (h5:imp.length=N.length:=by rfl)
  (h6:((imp.zip N).all fun p=>match p.1 with|none=>true|some j=>X.N[j]? == some p.2&&scope.names.lookup p.2 == some .free)=true:=by rfl) (hfree:pat.free (yR imp α)=true:=by rfl)
  (hg:∀C s2 H2 fp,N.Nodup→PG (X.comp N scope C s2 H2 fp) tg (nh X.K pat):=by intro _ _ _ _ hnd;first|exact zI hnd rfl (Or.inl rfl)|exact xC rfl rfl (by repeat (first|exact wI|refine yC (zI hnd rfl (Or.inl rfl)) ?_)))
  (hc:X.calm=true:=by rfl)
  (hi:X.N[i]?=some x:=by rfl) (hx:Loc X.env.scope x:=by first|exact Or.inl rfl|exact Or.inr rfl) (hsw:swapsWith (.ListComp elt [⟨tg,iter,ifs,0⟩] scope cpos) (some (.Name x pos')) pos.line X.env=pure true:=by rfl)
  (hf:X.fn x=true∨X.env.scope.names.lookup x=some .local:=by first|exact .inl rfl|exact .inr rfl|assumption) (hs:∀x,foldedSetIterable iter X.env x=pure x:=by intro _;rfl):
  SvS X α (.Assign [.Name x pos'] (.ListComp elt [⟨tg,iter,ifs,0⟩] scope cpos) pos::rest) E:=aW i hN hc ⟨h1,nd,h2,h3,oH h4,h5,h6⟩ hfree (fun C s2 H2 fp=>hg C s2 H2 fp nd) h hi hx hsw hf hs
end
section
variable {Y:Addr→Shared→Hp→List Addr→Cx}{pat:Pat}{ifs:List Expr}{elt:Expr}{α0:Ev}{ι:Type}{g f:ι→PyData}{l:List ι}{acc:List PyData}{Q:List PyData→Prop}
theorem eR (p:ι→Bool)(f:ι→PyData)(hs:∀x∈l,∃α1,pat.bind (g x) α0=some α1∧(∀C s2 H2 fp (Q:Bool→Prop),Q (p x)→jS (Y C s2 H2 fp) α1 ifs Q)∧(p x=true→∀C s2 H2 fp (Q:PyData→Prop),Q (f x)→EvD (Y C s2 H2 fp) α1 elt Q))
  (hd:Q (acc++(l.filter p).map f)):xm Y pat ifs elt α0 (l.map g) acc Q:=by
 induction l generalizing acc with
 |nil=>
  show Q acc
  simpa using hd
 |cons d ds ih=>
  obtain⟨α1,e,h1,h2⟩:=hs d zu8
  refine⟨α1,e,fun C s2 H2 fp=>h1 C s2 H2 fp _ ?_⟩
  have ih':=fun acc=>ih (acc:=acc) fun d hd=>hs d (zu1 _ hd)
  cases hp:p d with
  |true=>
   rw[if_pos rfl]
   refine fun C s2 H2 fp=>h2 hp C s2 H2 fp _ (ih' _ ?_)
   simpa[zE6,hp] using hd
  |false=>
   rw[if_neg (by decide)]
   refine ih' _ ?_
   simpa[zE6,hp] using hd
theorem jw (f:ι→PyData)(hs:∀x∈l,∃α1,pat.bind (g x) α0=some α1∧∀C s2 H2 fp (Q:PyData→Prop),Q (f x)→EvD (Y C s2 H2 fp) α1 elt Q)(hd:Q (acc++l.map f)):xm Y pat [] elt α0 (l.map g) acc Q:=
 eR (fun _=>true) f (fun x hx=>by
  obtain⟨α1,h1,h2⟩:=hs x hx
  exact⟨α1,h1,fun _ _ _ _ _ k=>qR k,fun _=>h2⟩) (by rw[List.filter_eq_self.mpr fun _ _=>rfl];exact hd)
end
section
variable {co:Co}{N:Nat}
end
section
variable {co:Co}{N:Nat}
end
section
variable {X:Cx}{α:Ev}{a b e:Expr}{pos p:Pos}{Q:PyData→Prop}
end
section
variable {X:Cx}{α:Ev}{a b c e:Expr}{pos p:Pos}{Q:PyData→Prop}{T:Bool→Prop}
end
section
variable {X:Cx}{α:Ev}{a b c e:Expr}{pos p p2 pos2:Pos}{Q:PyData→Prop}{T:Bool→Prop}
end
section
variable {X:Cx}{α:Ev}{a b c d e:Expr}{pos p:Pos}{ta tb tc td:TE}{T:Bool→Prop}
end
theorem zd8 (ns zs:List Int):∃ms,tj ns zs ms:=by
 refine⟨ns.mergeSort fun m k=>!lx (keyOf zs k) (keyOf zs m),List.mergeSort_perm ..,?_⟩
 have h:=List.pairwise_mergeSort (le:=fun m k=>!lx (keyOf zs k) (keyOf zs m)) (fun a b c h1 h2=>?_) (fun a b=>?_) ns
 ·exact h.imp fun {a b} h=>by simpa using h
 ·simp only[Bool.not_eq_true'] at h1 h2 ⊢
  unfold lx at *
  simp only[zA6] at *
  omega
 ·unfold lx
  simp only[zB2,Bool.not_eq_true',zA6]
  omega
theorem za4 (zs:List Int){many:Nat}(free:Nat)(h:0<many):∀i,i≤zs.length→∃bs,uM zs many free i bs
 |0,_=>⟨_,qg zs free⟩
 |i+1,hi=>by
  obtain⟨bs,m⟩:=za4 zs free h i (by omega)
  by_cases h1:i % many+1<many
  ·exact⟨bs,rS h h1 m⟩
  ·have h1:i % many+1=many:=by have:=Nat.mod_lt i h;omega
   obtain⟨d1,d2,d3⟩:=tN h h1
   obtain⟨ms,s⟩:=zd8 (zw ((i / many*many:Nat):Int) many) zs
   have nd:ms.Nodup:=s.1.nodup_iff.mpr (uE _ _)
   have hl:ms.length=many:=by rw[s.1.length_eq,zh]
   have ds:i / many*many+many=i+1:=by rw[←d3,Nat.add_mul,Nat.one_mul]
   have key:∀j,j<zs.length→((List.range zs.length).map fun (j:Nat)=>if (j:Int)∈ms then decide (ms.idxOf (j:Int)<free) else bs.getD j false).getD j false=if (j:Int)∈ms then decide (ms.idxOf (j:Int)<free) else bs.getD j false:=fun j hj=>by
    rw[zt7,zu7,List.getElem?_range hj]
    rfl
   refine⟨(List.range zs.length).map fun (j:Nat)=>if (j:Int)∈ms then decide (ms.idxOf (j:Int)<free) else bs.getD j false,rN h h1 m s (by simp[m.1]) (fun q hq=>?_) fun j hj=>?_⟩
   ·have b:=vC s hq
    have hx:ms.getD q 0=ms[q]:=by rw[zt7,zt3 (by omega)];rfl
    have e:(((ms.getD q 0).toNat:Nat):Int)=ms[q]:=by rw[←hx];omega
    rw[key _ (by omega),e,if_pos (zE7 _),nd.idxOf_getElem]
   ·by_cases hz:j<zs.length
    ·rw[key j hz,if_neg fun z=>?_]
     obtain⟨q,hq,e⟩:=List.mem_iff_getElem.mp z
     refine hj q (by omega) ?_
     rw[zt7,zt3 hq]
     show (ms[q]).toNat=j
     omega
    ·rw[zt7,zt7,zB4 (by simp;omega),zB4 (by rw[m.1];omega)]
theorem fG {ns zs ms ks:List Int}(h:tj ns zs ms)(h':tj ns zs ks):ms=ks:=by
 refine List.Perm.eq_of_pairwise (le:=fun m k=>lx (keyOf zs k) (keyOf zs m)=false) (fun a b _ _ h1 h2=>?_) h.2 h'.2 (h.1.trans h'.1.symm)
 unfold lx keyOf at h1 h2
 simp only[zA6] at h1 h2
 omega
theorem cq {zs:List Int}{many free:Nat}{bs cs:List Bool}(h:0<many)(m:uM zs many free zs.length bs)(m':uM zs many free zs.length cs):bs=cs:=by
 have e:∀j,bs.getD j false=cs.getD j false:=fun j=>by
  by_cases hj:zs.length / many*many≤j
  ·rw[m.2.1 j hj,m'.2.1 j hj]
  ·have hk:j / many<zs.length / many:=by
    have:=Nat.div_lt_iff_lt_mul (k:=many) (x:=j) (y:=zs.length / many) h
    exact this.mpr (by omega)
   obtain⟨ms,s,hs⟩:=m.2.2 _ hk
   obtain⟨ks,s',hs'⟩:=m'.2.2 _ hk
   cases fG s s'
   have d:=zD5 j many
   have l:=Nat.mod_lt j h
   have dm:j / many*many=many*(j / many):=zI1 _ _
   obtain⟨q,hq,eq⟩:=zd5 s (m:=(j:Int)) (by omega) (by omega)
   have h1:=hs q hq
   have h2:=hs' q hq
   rw[eq,zG8] at h1 h2
   rw[h1,h2]
 refine List.ext_getElem (by rw[m.1,m'.1]) fun j h1 h2=>?_
 have:=e j
 rw[zt7,zt7,zt3 h1,zt3 h2] at this
 exact this
theorem zs6 {d:PyData}(hd:qw d)(zs:List Int):∃bs,wN d zs bs:=by
 rcases hd with rfl|⟨many,free,rfl,f0,fm,_⟩
 ·exact⟨_,.inl ⟨rfl,rfl⟩⟩
 ·obtain⟨bs,m⟩:=za4 zs free (many:=many) (by omega) zs.length (zt8 _)
  exact⟨bs,.inr ⟨many,free,rfl,m⟩⟩
theorem pU {d:PyData}(hd:qw d){zs:List Int}{bs cs:List Bool}(h:wN d zs bs)(h':wN d zs cs):bs=cs:=by
 rcases hd with rfl|⟨many,free,rfl,f0,fm,_⟩
 ·rcases h with ⟨_,rfl⟩|⟨_,_,h,_⟩
  ·rcases h' with ⟨_,rfl⟩|⟨_,_,h,_⟩
   ·rfl
   ·cases h
  ·cases h
 ·exact cq (by omega) (oJ h) (oJ h')
section
variable {X:Cx}{α:Ev}{a b c d e:Expr}{pos p:Pos}{T:Bool→Prop}
end
abbrev kn (X:Cx)(P:Program)(w:World)(K:PySem.W.Frag)(mg:Str→Option Value)(base:Heap):Prop:=X.prog=P∧X.w=w∧X.K=K∧X.mg=mg∧X.base=base
section
variable {X:Cx}{α:Ev}{e o:Expr}{es:List Expr}{pos p apos:Pos}{Q:PyData→Prop}{k:Nat}{φ:List A→(A→Prop)→Prop}{x m:Str}{C:Addr}{pl:Sem Bool}{P:Program}{w:World}{K:PySem.W.Frag}{mg:Str→Option Value}{base:Heap}
theorem ak (D:Cal P w K mg base x k φ)(hX:kn X P w K mg base)(hr:zL k X.A)(hg:Gl X x)(h:EvA X α (e::es) fun as=>φ as fun a=>Q a.d)
  (hdb:(x == ("__debug__":Str))=false:=by decide) (he:starEach (e::es) X.env=(false,eval e X.env)::starEach es X.env:=by rfl) (hpl:(backTo pos (starEach es X.env)).any (·.1)=false:=by rfl):EvD X α (.Call (.Name x p) (e::es) [] pos) Q:=by
 obtain⟨rfl,rfl,rfl,rfl,rfl⟩:=hX
 exact yq D hr hg h hdb he hpl
theorem hJ (D:gC P w K mg base x k [] φ)(hX:kn X P w K mg base)(hr:zL (k+1) X.A)(hg:Gl X x)(h:EvA X α (e::es) fun as=>φ as fun a=>Q a.d)
  (hdb:(x == ("__debug__":Str))=false:=by decide) (he:starEach (e::es) X.env=(false,eval e X.env)::starEach es X.env:=by rfl) (hpl:(backTo pos (starEach es X.env)).any (·.1)=false:=by rfl):EvN X α (.Call (.Name x p) (e::es) [] pos) Q:=by
 obtain⟨rfl,rfl,rfl,rfl,rfl⟩:=hX
 exact bV D hr hg h hdb he hpl
theorem fH (D:we P w K mg base C m k φ)(hX:kn X P w K mg base)(hr:zL k X.A)(h:EvD X α o fun x=>∃fs,x=va C fs∧tq fs m=none∧EvA X α (e::es) fun as=>φ (.dat (va C fs)::as) fun a=>Q a.d)
  (hst:starEach (e::es) X.env=(false,eval e X.env)::starEach es X.env:=by rfl) (hpl:(backTo pos (starEach es X.env)).any (·.1)=false:=by rfl)
  (ht:eval (.Call (.Attribute o m apos) (e::es) [] pos) X.env=(do
   let ov ←eval o X.env
   standAt apos.atName
   let (f,first) ←holding [ov] (getMethod ov m pl)
   callWith pos f first (backTo pos (starEach (e::es) X.env)) (backToKw pos (keywordEach [] X.env))):=by rfl):EvD X α (.Call (.Attribute o m apos) (e::es) [] pos) Q:=by
 obtain⟨rfl,rfl,rfl,rfl,rfl⟩:=hX
 exact wF D hr h hst hpl ht
theorem jX (D:we P w K mg base C m k φ)(hX:kn X P w K mg base)(hr:zL k X.A)(h:EvD X α o fun x=>∃fs,x=va C fs∧tq fs m=none∧φ [.dat (va C fs)] fun a=>Q a.d)
  (ht:eval (.Call (.Attribute o m apos) [] [] pos) X.env=(do
   let ov ←eval o X.env
   standAt apos.atName
   let (f,first) ←holding [ov] (getMethod ov m pl)
   callWith pos f first (backTo pos (starEach [] X.env)) (backToKw pos (keywordEach [] X.env))):=by rfl):EvD X α (.Call (.Attribute o m apos) [] [] pos) Q:=by
 obtain⟨rfl,rfl,rfl,rfl,rfl⟩:=hX
 exact sk D hr h ht
end
section
variable {X:Cx}{α:Ev}{pos:Pos}{Q:PyData→Prop}
end
structure Moved (fs:List Addr)(e:Addr)(ts:List Addr)(h h':Heap):Prop where
 keep:∀b o,b≠e→b∉ts→b∉fs→h.get? b=some o→h'.get? b=some o
 slot:∀b o,b∈fs→h.get? b=some o→∃sl,h'.get? b=some {o with slots:=sl}
 exc:∀o vs,h.get? e=some o→o.data=.fields vs→∃o' vs',h'.get? e=some o'∧o'.cls=o.cls∧o'.dict=o.dict∧o'.data=.fields vs'
 there:∀b o,h.get? b=some o→∃o',h'.get? b=some o'
def Ent (h base:Heap)(e T:Addr)(fl:Value):Prop:=
 ∃oe vs oT tv,h.get? e=some oe∧oe.data=.fields vs∧vs[1]?=some (.ref T)∧T≠e∧base.get? T=none∧h.get? T=some oT∧oT.data=.fields tv∧tv[3]?=some fl
def Beg (h base:Heap)(e:Addr)(ts:List Addr):Prop:=
 (ts=[]∧∃oe vs,h.get? e=some oe∧oe.data=.fields vs∧vs[1]?=some .none)∨∃T,ts=[T]∧Ent h base e T .none
theorem tG {base h:Heap}{l:List Env}{b:Addr}(hl:h.FunFrames base l)(hb:b∈frs l):base.get? b=none∧∃o,h.get? b=some o∧∀vs,o.data≠.fields vs:=hl.mem hb
section
variable {M:Model}{A:Around}{E:Value→Shared→Prop}{s:Shared}
theorem vp (o:Obj)(f:Array Value→Array Value):(o.mapFields f).cls=o.cls∧(o.mapFields f).dict=o.dict:=by
 obtain⟨c,d,dt,sl⟩:=o
 cases dt<;>exact⟨rfl,rfl⟩
theorem rZ {fs:List Addr}{e T:Addr}{h:Heap}{oT:Obj}{tv:Array Value}{f:Array Value→Array Value}(hT:h.get? T=some oT)(hd:oT.data=.fields tv)(hfs:∀b∈fs,b≠T):Moved fs e [T] h (h.update T (Obj.mapFields f)) where
 keep:=fun b o _ hb _ q=>by
  rw[zu4 _ _ (fun z=>hb (by rw[←z];exact zv9.mpr rfl))]
  exact q
 slot:=fun b o hb q=>⟨o.slots,by rw[zu4 _ _ (zw4 (hfs b hb))];exact q⟩
 exc:=fun o vs q d=>by
  by_cases z:T=e
  ·subst z
   rw[hT] at q;cases q
   refine⟨_,_,zy2 _ hT (zB5 (zB0 hd _)),(vp _ _).1,(vp _ _).2,zB0 hd _⟩
  ·exact⟨o,vs,by rw[zu4 _ _ z];exact q,rfl,rfl,d⟩
 there:=fun b o q=>by
  by_cases z:T=b
  ·subst z
   exact⟨_,zy2 _ hT (zB5 (zB0 hd _))⟩
  ·exact⟨o,by rw[zu4 _ _ z];exact q⟩
theorem cH {base:Heap}{l:List Env}{e T:Addr}{fl:Value}{fo:Option Addr}{Q:Unit→Shared→Prop}(hl:s.heap.FunFrames base l)(hk:base.StaysIn s.heap)(x:Ent s.heap base e T fl)
  (h:∀h',Moved (frs l) e [T] s.heap h'→Ent h' base e T (fo.elim .none fun f=>rawInt f)→h'.FunFrames base l→base.StaysIn h'→h'.objs.size=s.heap.objs.size→Q () {s with heap:=h'}):wpAny M A (setFlight (.ref e) fo) Q E s:=by
 obtain⟨oe,vs,oT,tv,he,hd,h1,hne,hb,hT,hdT,h3⟩:=x
 have hsz:3<tv.size:=(zB7.mp h3).1
 unfold setFlight
 refine zs9 (zv7 he hd h1 ?_)
 rw[if_pos (show (Value.ref T != Value.none)=true from by simp)]
 refine wpAny_setField hT hdT hsz (h _ (rZ hT hdT fun b hb' z=>?_) ?_ ?_ ?_ (by simp))
 ·obtain⟨_,o,ho,hn⟩:=tG hl hb'
  rw[z,hT] at ho;cases ho
  exact hn _ hdT
 ·exact⟨oe,vs,_,_,by rw[zu4 _ _ hne];exact he,hd,h1,hne,hb,zy2 _ hT (zB5 (zB0 hdT _)),zB0 hdT _,by simp[hsz]⟩
 ·refine hl.of_keeps fun b o hb' hn=>⟨o,?_,rfl⟩
  rw[zu4 _ _ (fun z=>by subst z;rw[hT] at hb';cases hb';exact hn _ hdT)]
  exact hb'
 ·intro b o q
  rw[zu4 _ _ (fun z=>by subst z;rw[hb] at q;cases q)]
  exact hk b o q
theorem dz {base:Heap}{env:Env}{outer:List Env}{L e:Addr}{oe:Obj}{vs:Array Value}{head:Value}{hadNext:Bool}{Q:Unit→Shared→Prop}
  (hfr:A.frames=some (env::outer)) (hl:s.heap.FunFrames base (env::outer)) (hf:env.frame=some L) (he:s.heap.get? e=some oe) (hkb:base.StaysIn s.heap) (hen:base.get? e=none) (hd:oe.data=.fields vs) (hsz:1<vs.size)
  (h:∀h' T,Moved (frs (env::outer)) e [] s.heap h'→s.heap.objs.size≤T→Ent h' base e T (rawInt L)→h'.FunFrames base (env::outer)→base.StaysIn h'→Q () {s with heap:=h'}):
  wpAny M A (do let a ←frameOf env;let pl ←entryPlaceOf L hadNext;let b ←EntryCells.newEntry head a .none (rawInt L) .none pl;setField (.ref e) 1 b) Q E s:=by
 have hene:e∉frs (env::outer):=fun hm=>by
  obtain⟨_,o,ho,hnf⟩:=tG hl hm
  rw[he] at ho;injection ho with ho;subst ho;exact hnf vs hd
 refine zs9 (wpAny_frameOf_fun hfr hl hf fun h₁ hs₁=>?_)
 refine zs9 (wpAny_entryPlaceOf fun pl hpl=>?_)
 unfold EntryCells.newEntry newFields
 refine zs9 (wpAny_newObj_type ?_ (hpl.sizeOk5 _ _ _ _ _))
 have he₁:h₁.get? e=some oe:=(hs₁.2.1 e hene).trans he
 have kb₁:base.StaysIn h₁:=fun b o hbo=>(hs₁.2.1 b fun hm=>by rw[(tG hl hm).1] at hbo;cases hbo).trans (hkb b o hbo)
 generalize hob:({cls:=.type "traceback",dict:=none,data:=.fields ([head,.ref L,.none,rawInt L,.none]++(if pl.isEmpty then List.replicate 6 Value.none else pl)).toArray}:Obj)=ob
 have obd:ob.data=.fields ([head,.ref L,.none,rawInt L,.none]++(if pl.isEmpty then List.replicate 6 Value.none else pl)).toArray:=by rw[←hob]
 have he₂:=zt0 (h:=h₁) ob he₁
 refine wpAny_setField he₂ hd hsz ?_
 have hTe:h₁.objs.size≠e:=zz4 (zt6 he₁)
 have hd₃:=zB0 hd (·.setIfInBounds 1 (Value.ref h₁.objs.size))
 have he₃:=zy2 (Obj.mapFields (·.setIfInBounds 1 (Value.ref h₁.objs.size))) he₂ (zB5 hd₃)
 have hT₃:((h₁.push ob).update e (Obj.mapFields (·.setIfInBounds 1 (Value.ref h₁.objs.size)))).get? h₁.objs.size=some ob:=
  (zu4 (h₁.push ob) (Obj.mapFields (·.setIfInBounds 1 (Value.ref h₁.objs.size))) (zw4 hTe)).trans (zu0 h₁ (zB5 obd))
 have keep:∀b o,b≠e→h₁.get? b=some o→((h₁.push ob).update e (Obj.mapFields (·.setIfInBounds 1 (Value.ref h₁.objs.size)))).get? b=some o:=fun b o hbe hb=>by
  rw[zu4 _ _ (zw4 hbe)]
  exact zt0 _ hb
 refine h _ h₁.objs.size ⟨fun b o hb _ hf q=>keep b o hb ((hs₁.2.1 b hf).trans q),fun b o hb q=>?_,fun o vs' q d=>?_,fun b o q=>?_⟩ (by rw[hs₁.1];exact zt8 _) ⟨_,_,ob,_,he₃,hd₃,by simp[hsz],hTe,kb₁.fresh,hT₃,obd,by simp⟩ ?_ (fun b o q=>keep b o (fun z=>by rw[z,hen] at q;cases q) (kb₁ b o q))
 ·obtain⟨sl,hs⟩:=hs₁.2.2 b o q
  exact⟨sl,keep b _ (fun z=>hene (z▸hb)) hs⟩
 ·rw[he] at q;cases q
  exact⟨_,_,he₃,(vp _ _).1,(vp _ _).2,hd₃⟩
 ·by_cases z:b=e
  ·subst z;exact⟨_,he₃⟩
  ·obtain⟨sl,hs⟩:=hs₁.2.2 b o q
   exact⟨_,keep b _ z hs⟩
 ·refine hl.of_keeps fun b o hb hn=>?_
  obtain⟨sl,hs⟩:=hs₁.2.2 b o hb
  exact⟨_,keep b _ (fun z=>by subst z;rw[he] at hb;cases hb;exact hn _ hd) hs,rfl⟩
theorem zl3 {base:Heap}{env:Env}{outer:List Env}{L e:Addr}{ts:List Addr}{Q:Unit→Shared→Prop}
  (hfr:A.frames=some (env::outer)) (hl:s.heap.FunFrames base (env::outer)) (hf:env.frame=some L) (hkb:base.StaysIn s.heap) (hen:base.get? e=none) (x:Beg s.heap base e ts)
  (h:∀h' T,Moved (frs (env::outer)) e ts s.heap h'→s.heap.objs.size≤T→Ent h' base e T (rawInt L)→h'.FunFrames base (env::outer)→base.StaysIn h'→Q () {s with heap:=h'}):wpAny M A (noteFrame (.ref e) env) Q E s:=by
 rcases x with ⟨rfl,oe,vs,he,hd,h1⟩|⟨T,rfl,oe,vs,oT,tv,he,hd,h1,hne,hb,hT,hdT,h3⟩
 ·unfold noteFrame
  simp only[hf]
  refine zs9 (zv7 he hd h1 ?_)
  rw[if_neg (by decide)]
  exact dz hfr hl hf he hkb hen hd (zB7.mp h1).1 h
 ·unfold noteFrame
  simp only[hf]
  refine zs9 (zv7 he hd h1 ?_)
  rw[if_pos (show (Value.ref T != Value.none)=true from by simp)]
  refine zs9 (zv7 hT hdT h3 ?_)
  rw[if_neg (show ¬((Value.none == rawInt L)=true) from by simp[rawInt])]
  refine zs9 (wpAny_setField hT hdT (zB7.mp h3).1 ?_)
  have hfs:∀b∈frs (env::outer),b≠T:=fun b hb' z=>by
   obtain⟨_,o,ho,hn⟩:=tG hl hb'
   rw[z,hT] at ho;cases ho
   exact hn _ hdT
  have mv:Moved (frs (env::outer)) e [T] s.heap (s.heap.update T (Obj.mapFields (·.setIfInBounds 3 Value.none))):=rZ hT hdT hfs
  refine dz (s:={s with heap:=s.heap.update T (Obj.mapFields (·.setIfInBounds 3 Value.none))}) hfr ?_ hf (show (s.heap.update T (Obj.mapFields (·.setIfInBounds 3 Value.none))).get? e=some oe by rw[zu4 _ _ hne];exact he) ?_ hen hd (zB7.mp h1).1 fun h' T' m1 m2 m3 m4 m5=>?_
  ·refine hl.of_keeps fun b o hb' hn=>⟨o,?_,rfl⟩
   rw[zu4 _ _ (fun z=>by subst z;rw[hT] at hb';cases hb';exact hn _ hdT)]
   exact hb'
  ·intro b o q
   show (s.heap.update T _).get? b=some o
   rw[zu4 _ _ (fun z=>by subst z;rw[hb] at q;cases q)]
   exact hkb b o q
  ·refine h h' T' ⟨fun b o q1 q2 q3 q=>m1.keep b o q1 (by simp) q3 (mv.keep b o q1 q2 q3 q),fun b o q1 q=>?_,fun o vs' q d=>?_,fun b o q=>?_⟩ (by have m2:(s.heap.update T _).objs.size≤T':=m2;simpa using m2) m3 m4 m5
   ·obtain⟨sl,e1⟩:=mv.slot b o q1 q
    obtain⟨sl',e2⟩:=m1.slot b _ q1 e1
    exact⟨sl',e2⟩
   ·obtain⟨o1,vs1,e1,c1,d1,f1⟩:=mv.exc o vs' q d
    obtain⟨o2,vs2,e2,c2,d2,f2⟩:=m1.exc o1 vs1 e1 f1
    exact⟨o2,vs2,e2,c2.trans c1,d2.trans d1,f2⟩
   ·obtain⟨o1,e1⟩:=mv.there b o q
    exact m1.there b o1 e1
theorem fg {base:Heap}{env:Env}{L e T:Addr}{Q:Unit→Shared→Prop}(hf:env.frame=some L)(x:Ent s.heap base e T (rawInt L))(h:Q () s):wpAny M A (noteFrame (.ref e) env) Q E s:=by
 obtain⟨oe,vs,oT,tv,he,hd,h1,hne,hb,hT,hdT,h3⟩:=x
 exact wpAny_noteFrame_inFlight hf he hd h1 hT hdT h3 h
end
section
variable {P:Program}{w:World}{H H0:Hp}{h h' h0:Heap}{fs fs' ts:List Addr}{e:Addr}
theorem HOk.moved (x:HOk P w H h)(m:Moved fs e ts h h')(hfs:∀b∈fs,H b=none)(hts:∀b∈ts,H b=none)(he:∃C d,H e=some (xcO e C d)):HOk P w H h':=fun a o q=>by
 obtain⟨C,d,he⟩:=he
 by_cases z:a=e
 ·subst z
  rw[he] at q;cases q
  obtain⟨⟨o,vs,h1,h2,h3,h4⟩,_,st⟩:=x _ _ he
  obtain⟨o',vs',g1,g2,g3,g4⟩:=m.exc o vs h1 h4
  exact⟨⟨o',vs',g1,g2.trans h2,g3.trans h3,g4⟩,⟨o',g1⟩,st⟩
 ·have nf:∀{b:Addr} {u:HO},H b=some u→b∉fs:=fun {b u} hb q=>by rw[hfs b q] at hb;cases hb
  have nt:∀{b:Addr} {u:HO},H b=some u→b∉ts:=fun {b u} hb q=>by rw[hts b q] at hb;cases hb
  refine (x a o q).stay (fun b u hb e1=>?_) (fun _ q=>q) fun _ _ q=>q
  rcases hb with rfl|hb
  ·exact m.keep _ _ z (nt q) (nf q) e1
  ·refine m.keep _ _ (fun z=>?_) (nt hb) (nf hb) e1
   rw[z,he] at hb;cases hb
end
def CX1 (P:Program)(w:World)(base:Heap):CXT:=fun outer H s E e s'=>∃a T H',e=.ref a∧s'.os=s.os∧AllBare s'.gens∧Un (frs outer) [] H H' s.heap s'.heap∧HOk P w H' s'.heap∧(∃C d,H' a=some (xcO a C d))∧H' T=none∧s.heap.get? T=none∧Ent s'.heap base a T .none∧E (.ref a) none H'
inductive Fl (X:Cx)(H:Hp)(h:Heap)(a:Addr):Prop where
 |new {oe:Obj} {vs:Array Value}:h.get? a=some oe→oe.data=.fields vs→vs[1]?=some .none→Fl X H h a
 |old {T:Addr}:H T=none→X.s₀.heap.get? T=none→(∀p∈X.pn,p.1≠T)→Ent h X.base a T .none→Fl X H h a
 |here {T:Addr}:H T=none→X.s₀.heap.get? T=none→(∀p∈X.pn,p.1≠T)→Ent h X.base a T (rawInt X.env.locals)→Fl X H h a
def XE (X:Cx)(R:St→Addr→Hp→Prop):Value→Shared→Prop:=fun e s=>∃σ H a,e=.ref a∧Inv X [] σ H s∧(∃C d,H a=some (xcO a C d))∧Fl X H s.heap a∧R σ a H
section
variable {X:Cx}{pins:List (Addr×Obj)}{σ:St}{H H':Hp}{s s':Shared}{a:Addr}
theorem Inv.nopins (I:Inv X pins σ H s):Inv X [] σ H s:=I.pins_of fun p hp=>by cases hp
theorem Inv.basex (I:Inv X pins σ H s)(h:H a≠none):X.base.get? a=none:=by
 cases q:X.base.get? a with
 |none=>rfl
 |some o=>exact absurd (I.bs a o q).2 h
theorem Inv.moved {ts:List Addr}{h':Heap}(I:Inv X pins σ H s)(hst:X.stack=X.env::X.outer)(m:Moved (frs X.stack) a ts s.heap h')(ha:∃C d,H a=some (xcO a C d))(hts:∀T∈ts,H T=none∧X.s₀.heap.get? T=none∧(∀p∈X.pn++pins,p.1≠T)∧∃o vs,s.heap.get? T=some o∧o.data=.fields vs):Inv X pins σ H {s with heap:=h'}:=by
 have ha':H a≠none:=by obtain⟨C,d,z⟩:=ha;rw[z];simp
 have hf:X.env.frame=some X.env.locals:=by
  rcases I.ok.stk with z|⟨_,z⟩
  ·rw[hst] at z;exact absurd (congrArg List.length z) (by simp)
  ·exact z
 have mem:∀b∈frs X.stack,b=X.env.locals∨b∈X.fs:=fun b hb=>by
  rw[hst] at hb
  unfold frs at hb
  rw[List.filterMap_cons_some hf] at hb
  rcases zt4.mp hb with z|z
  ·exact .inl z
  ·exact .inr z
 have dat:∀{b:Addr} {o:Obj},s.heap.get? b=some o→(∀vs,o.data≠.fields vs)→b∉ts:=fun {b o} q n z=>by
  obtain⟨_,_,_,o',vs,q',d⟩:=hts b z
  rw[q] at q';cases q'
  exact n vs d
 obtain⟨mm,hn,hl⟩:=id I.loc
 obtain⟨oL,es,ep,hoL,hdL,hrL⟩:=id hn
 have hLL:∃sl,h'.get? X.env.locals=some {oL with slots:=sl}:=m.slot _ _ (by rw[hst];unfold frs;rw[List.filterMap_cons_some hf];exact zu8) hoL
 have hn':h'.Ns X.env.locals mm:=by obtain⟨sl,z⟩:=hLL;exact⟨_,es,ep,z,hdL,hrL⟩
 have cells:∀{x:Str} {c:Addr} {v:Option Value},X.env.cells.lookup x=some c→s.heap.IsCell c v→h'.IsCell c v:=fun {x c v} e ⟨oc,hoc,hd⟩=>by
  by_cases z:c∈frs X.stack
  ·obtain⟨sl,z'⟩:=m.slot c oc z hoc
   exact⟨_,z',hd⟩
  ·exact⟨oc,m.keep c oc (fun z=>ha' (z▸I.freeC x c e)) (dat hoc fun vs q=>by rw[hd] at q;cases q) z hoc,hd⟩
 have un:Un X.fs X.ex X.H₀ H X.s₀.heap h':=by
  have u:=I.base
  have ne:∀{b:Addr} {o:Obj},X.s₀.heap.get? b=some o→X.H₀ b=none→b∉X.ex→b≠a:=fun {b o} q n hx z=>ha' (z▸u.free b o q n hx)
  have nt:∀{b:Addr} {o:Obj},X.s₀.heap.get? b=some o→b∉ts:=fun {b o} q z=>by rw[(hts b z).2.1] at q;cases q
  have nl:∀{b:Addr} {o:Obj},X.s₀.heap.get? b=some o→b≠X.env.locals:=fun {b o} q=>zv0 (zu9 (zt6 q) I.ok.above)
  refine⟨fun b o q n hb hx=>m.keep b o (ne q n hx) (nt q) (fun z=>(mem b z).elim (nl q) hb) (u.keep b o q n hb hx),fun b o q n hb hx=>?_,u.free,fun b o q hx=>?_,u.tups,u.frzs,u.tbls⟩
  ·obtain⟨sl,e1⟩:=u.slot b o q n hb hx
   by_cases z:b∈frs X.stack
   ·obtain⟨sl',e2⟩:=m.slot b _ z e1
    exact⟨sl',e2⟩
   ·exact⟨sl,m.keep b _ (ne q n hx) (nt q) z e1⟩
  ·obtain⟨o',e1⟩:=u.there b o q hx
   exact m.there b o' e1
 refine⟨I.ok,I.os,I.bare,un,⟨mm,hn',fun i x v e1 e2 e3=>?_⟩,fun x c e=>?_,I.free,I.freeC,fun p hp=>?_,I.hok.moved m I.stkFree (fun b hb=>(hts b hb).1) ha,I.len⟩
 ·obtain⟨u,r,q⟩:=hl i x v e1 e2 e3
  refine⟨u,r,?_⟩
  rcases q with q|⟨k,c,e,z⟩
  ·exact .inl q
  ·exact .inr ⟨k,c,e,cells e z⟩
 ·obtain⟨v,z⟩:=I.cell x c e
  exact⟨v,cells e z⟩
 ·obtain⟨e,n,ne,nf,d⟩:=I.pin p hp
  exact⟨m.keep _ _ (fun z=>ha' (z▸n)) (fun z=>(hts _ z).2.2.1 p hp rfl) (fun z=>(mem _ z).elim ne nf) e,n,ne,nf,d⟩
theorem Fl.beg (f:Fl X H s.heap a):(∃ts,Beg s.heap X.base a ts∧∀T∈ts,H T=none∧X.s₀.heap.get? T=none∧(∀p∈X.pn,p.1≠T)∧∃o vs,s.heap.get? T=some o∧o.data=.fields vs)∨∃T,H T=none∧X.s₀.heap.get? T=none∧(∀p∈X.pn,p.1≠T)∧Ent s.heap X.base a T (rawInt X.env.locals):=by
 cases f with
 |new h1 h2 h3=>exact .inl ⟨[],.inl ⟨rfl,_,_,h1,h2,h3⟩,fun T hT=>by cases hT⟩
 |@old T h1 h2 h3 h4=>
  refine .inl ⟨[T],.inr ⟨T,rfl,h4⟩,fun T' hT=>?_⟩
  rw[zv9] at hT
  subst hT
  obtain⟨_,_,oT,tv,_,_,_,_,_,hT,hdT,_⟩:=h4
  exact⟨h1,h2,h3,oT,tv,hT,hdT⟩
 |@here T h1 h2 h3 h4=>exact .inr ⟨T,h1,h2,h3,h4⟩
theorem Inv.stkf (I:Inv X pins σ H s)(hst:X.stack=X.env::X.outer):X.env.frame=some X.env.locals:=by
 rcases I.ok.stk with z|⟨_,z⟩
 ·rw[hst] at z;exact absurd (congrArg List.length z) (by simp)
 ·exact z
theorem Inv.stays (I:Inv X pins σ H s):X.base.StaysIn s.heap:=I.bk
theorem Inv.note {M:Model}{Q:Unit→Shared→Prop}{E:Value→Shared→Prop}(I:Inv X [] σ H s)(hst:X.stack=X.env::X.outer)(ha:∃C d,H a=some (xcO a C d))(f:Fl X H s.heap a)
  (h:∀h' T,Inv X [] σ H {s with heap:=h'}→H T=none→X.s₀.heap.get? T=none→(∀p∈X.pn,p.1≠T)→Ent h' X.base a T (rawInt X.env.locals)→Q () {s with heap:=h'}):wpAny M X.A (noteFrame (.ref a) X.env) Q E s:=by
 have ha':H a≠none:=by obtain⟨C,d,z⟩:=ha;rw[z];simp
 have hf:=I.stkf hst
 rcases f.beg with ⟨ts,bg,ht⟩|⟨T,h1,h2,h3,h4⟩
 ·refine zl3 (by rw[←hst];exact I.ok.frames) (by rw[←hst];exact I.stack) hf I.stays (I.basex ha') bg fun h' T m1 m2 m3 _ _=>?_
  have I':Inv X [] σ H {s with heap:=h'}:=I.moved hst (by rw[hst];exact m1) ha fun T hT=>by
   obtain⟨q1,q2,q3,q4⟩:=ht T hT
   exact⟨q1,q2,fun p hp=>q3 p (by simpa using hp),q4⟩
  refine h h' T I' (I.hok.fresh m2) (Heap.get?_none_of_le (zx9 I.sz m2)) (fun p hp z=>?_) m3
  have:=zt6 (I.pin p (by simpa using hp)).1
  rw[z] at this
  exact absurd this (Nat.not_lt.mpr m2)
 ·exact fg hf h4 (by have:=h s.heap T I h1 h2 h3 h4;exact this)
theorem Inv.flight {M:Model}{Q:Unit→Shared→Prop}{E:Value→Shared→Prop}{A:Around}{T:Addr}{fl:Value}{fo:Option Addr}(I:Inv X pins σ H s)(hst:X.stack=X.env::X.outer)(ha:∃C d,H a=some (xcO a C d))(h1:H T=none)(h2:X.s₀.heap.get? T=none)(h3:∀p∈X.pn++pins,p.1≠T)(x:Ent s.heap X.base a T fl)
  (h:∀h',Inv X pins σ H {s with heap:=h'}→Ent h' X.base a T (fo.elim .none fun f=>rawInt f)→Q () {s with heap:=h'}):wpAny M A (setFlight (.ref a) fo) Q E s:=by
 refine cH (l:=X.stack) I.stack I.stays x fun h' m1 m2 _ _ _=>h h' (I.moved hst m1 ha fun T' hT=>?_) m2
 rw[zv9] at hT
 subst hT
 obtain⟨_,_,oT,tv,_,_,_,_,_,hT,hdT,_⟩:=x
 exact⟨h1,h2,h3,oT,tv,hT,hdT⟩
theorem zc8 {R:St→Addr→Hp→Prop}(hst:X.stack=X.env::X.outer):PassesOwn (model X.prog X.w) X.A X.env (XE X R):=by
 rintro e s ⟨σ,H,a,rfl,I,ha,f,r⟩
 refine I.note hst ha f fun h' T I' h1 h2 h3 h4=>?_
 obtain⟨oe,vs,oT,tv,he,hd,hv,_⟩:=id h4
 show wpAny _ _ _ _ _ _
 refine zs9 (zv7 he hd hv ?_)
 rw[if_neg (by simp)]
 rw[I.stkf hst]
 refine I'.flight hst ha h1 h2 (by simpa using h3) h4 fun h'' I'' e''=>?_
 exact⟨σ,H,a,rfl,I'',ha,.here h1 h2 h3 e'',r⟩
theorem bf {R:St→Addr→Hp→Prop}{E:XK}{e:Value}(hex:X.ex=[])(I:Inv X pins σ H s)(h:CX1 X.prog X.w X.base X.stack H s E e s')(hE:∀a H',E (.ref a) none H'→R σ a H'):XE X R e s':=by
 obtain⟨a,T,H',rfl,ho,hg,u,hok,ha,h1,h2,h3,hE'⟩:=h
 have I':Inv X pins σ H' s':=I.call' (ch:=[]) ho u hok hg fun b hb=>by cases hb
 refine⟨σ,H',a,rfl,I'.nopins,ha,.old h1 ?_ (fun p hp z=>?_) h3,hE a H' hE'⟩
 ·cases q:X.s₀.heap.get? T with
  |none=>rfl
  |some o=>
   exfalso
   obtain⟨o',e1⟩:=I.base.there T o q (by rw[hex];simp)
   rw[h2] at e1;cases e1
 ·have:=(I.pin p (zH6 _ hp)).1
  rw[z,h2] at this;cases this
end
section
variable {X:Cx}{E':Value→Shared→Prop}
theorem PSs.wishx {st:List Stmt}{t:TS}(h:PSs (X.wish E') st t)(k:∀e s,E' e s→X.xe e s):PSs X st t:=fun pins s σ H D I hw=>
 zw2 (h pins s σ H D (I.wish _) hw) (fun _ _ q=>q.unwish) fun e s z=>k e s z
end
section
variable {P:Program}{w:World}{K:PySem.W.Frag}{mg:Str→Option Value}{base:Heap}
theorem aE {N:List Str}{qual:Str}{scope:Scope}{f:Addr}{cd:Value}{A:Around}{outer:List Env}{s₀ s:Shared}{H₀:Hp}{E:XK}{e:Value}
  (h:XE (xB (CX1 P w base) P w K mg base N qual scope f cd A outer s₀ H₀ E) (fun _ a H=>E (.ref a) none H) e s):(xB (CX1 P w base) P w K mg base N qual scope f cd A outer s₀ H₀ E).xe e s:=by
 obtain⟨σ,H,a,rfl,I,ha,f',r⟩:=h
 show wpAny _ _ (leaving _ _) _ _ _
 unfold leaving
 refine zs9 (I.note rfl ha f' fun h' T I' h1 h2 h3 h4=>?_)
 refine I'.flight (fo:=none) rfl ha h1 h2 (by simpa using h3) h4 fun h'' I'' e''=>?_
 exact⟨a,T,H,rfl,I''.os,I''.bare,I''.base,I''.hok,ha,h1,h2,e'',r⟩
theorem Fun.okX {x qual:Str}{st:Stmt}{f:Addr}{fd:FuncData}{N ps:List Str}{k:Nat}{sp:Sp}(F:Fun K x qual st f fd)(S:zp N ps (zc st))(len:∀vs H Q E,sp vs H Q E→vs.length=ps.length)
  (hbody:∀(cdv:Value) (A:Around) (outer:List Env) (s:Shared) (H:Hp) (vs:List V) (Q:VK) (E:XK),zL k (A.deeper (envOfC qual (zc st) s.heap.objs.size f cdv))→sp vs H Q E→
   ∃t,PSs ((xB (CX1 P w base) P w K mg base N qual (zc st) f cdv A outer s H E).wish (XE (xB (CX1 P w base) P w K mg base N qual (zc st) f cdv A outer s H E) fun _ a H=>E (.ref a) none H)) (zB st) t∧t {nx:=fun _ H'=>Q .non H',rt:=Q} (start N vs) H):zD P w K mg base (CX1 P w base) (k+1) f fd ps sp:=by
 obtain⟨oc,od,kV,doc,pm,an,cdv,ct,osl,rfl,lk,hcd⟩:=F.ex
 refine kH lk hcd S len fun A outer s H vs Q E hr hsp=>?_
 obtain⟨t,h,q⟩:=hbody cdv A outer s H vs Q E hr hsp
 exact⟨t,h.wishx fun e s z=>aE z,q⟩
end
section
variable {prog:Program}{w:World}{A:Around}{E:Value→Shared→Prop}{h:Heap}{g:Array GenState}{d:Drawn}{t:Nat}{os:OsState}
variable {nm q:Str}{C N:Addr}{bs bm bmB:List Value}{hdct:Bool}{sn:List Str}{sub:List Value}{ab:Bool}{col:Option Bool}{dd:Option Addr}{k0 k1 k2 k3 k5:Option Value}{B Bn newId nid initId inN:String}{bmN:List Value}
abbrev vS (C t:Addr)(d:Option Addr):Obj:={cls:=.ref C,dict:=d,data:=.fields #[.ref t,.none,.none,.none,.bool false,.none]}
def vm (h:Heap)(C:Addr)(rest:List Value):Heap:=(h.push {cls:=.type "tuple",data:=.seq rest.toArray}).push (vS C h.objs.size none)
theorem mM (Fn:ExcBaseFacts Bn newId inN bmN)(hBn:bmB.contains (.type Bn)=true)(F:ExcBaseFacts B nid initId bmB)(T:OwnTail h bmB bm){mN:Str→Option Value}{rest:List Value}{fI:Addr}{oI:Obj}{Q:Fin→Shared→Prop}
  (hC:h.get? C=some (excClassObj nm q C N bs bm hdct sn sub ab col dd k0 k1 k2 k3 k5 newId)) (hn:h.Ns N mN) (hi:mN "__init__"=some (.ref fI))
  (hfI:h.get? fI=some oI) (hfc:oI.cls=.type "function")
  (hq:wpAny (model prog w) A (call (.ref fI) (.ref (h.objs.size+1)::rest)) (fun r s'=>r=.none∧Q (.done (.ret (.ref (h.objs.size+1)))) s') E ⟨vm h C rest,g,d,t,os⟩) (hrest:rest.length≤sizeLine):
  wpAny (model prog w) A (Builtin.«type.__call__» ⟨.ref C::rest,[]⟩) Q E ⟨h,g,d,t,os⟩:=by
 repeat (first|with_reducible refine zC1 hC ?_|with_reducible refine wpAny_madeBy_exc hC ?_|wp_step)
 refine codeAny_call_builtin_code (Code.quiet_builtin _ Fn.quiet) (wpAny_check_new_subU Fn hBn T hC ?_)
 refine codeAny_exc_new_subU Fn hBn F T hC ?_ hrest
 show wpAny _ _ _ _ _ ⟨vm h C rest,g,d,t,os⟩
 have keep:∀b o,h.get? b=some o→(vm h C rest).get? b=some o:=fun b o e=>zt0 _ (zt0 _ e)
 have hC₁:=keep _ _ hC
 have hfI₁:=keep _ _ hfI
 have hn₁:(vm h C rest).Ns N mN:=let ⟨o,es,ep,e,r⟩:=hn;⟨o,es,ep,keep _ _ e,r⟩
 have hget:(vm h C rest).get? (h.objs.size+1)=some (vS C h.objs.size none):=by unfold vm;heap_get
 have hcC:(Value.ref C::bm).contains (.ref C)=true:=by simp
 have T₁:=T.keeps keep
 unfold isInstance
 repeat (first|with_reducible refine zC1 hget ?_|(with_reducible refine wpAny_isSubtype_exc hC₁ ?_;rw[hcC])|wp_step)
 show wpAny _ _ (typeLookup (.ref C) _) _ _ _
 refine wpAny_typeLookup_tail hC₁ hn₁ T₁ F.mroIs F.init.lookup ?_
 rw[hi]
 refine zy1 (zs9 ?_)
 unfold bindSpecial
 refine zs9 (wpAny_typeOf (T:="function") ⟨_,hfI₁,hfc⟩ ?_)
 rw[if_pos (by decide)]
 refine zt2 (zs9 (zw2 hq (fun r s' hr=>?_) fun _ _ x=>x))
 obtain⟨rfl,hQ⟩:=hr
 wp_walk
 exact hQ
theorem zo2 (Fn:ExcBaseFacts Bn newId inN bmN)(hBn:bmB.contains (.type Bn)=true)(F:ExcBaseFacts B nid initId bmB)(T:OwnTail h bmB bm){mN:Str→Option Value}{rest:List Value}{fI:Addr}{oI:Obj}{Q:Value→Shared→Prop}
  (hC:h.get? C=some (excClassObj nm q C N bs bm hdct sn sub ab col dd k0 k1 k2 k3 k5 newId)) (hn:h.Ns N mN) (hi:mN "__init__"=some (.ref fI))
  (hfI:h.get? fI=some oI) (hfc:oI.cls=.type "function")
  (hq:wpAny (model prog w) (A.under (.builtin "type.__call__" ⟨.ref C::rest,[]⟩)) (call (.ref fI) (.ref (h.objs.size+1)::rest)) (fun r s'=>r=.none∧Q (.ref (h.objs.size+1)) s') E ⟨vm h C rest,g,d,t,os⟩) (hrest:rest.length≤sizeLine):
  wpAny (model prog w) A (call (.ref C) rest) Q E ⟨h,g,d,t,os⟩:=by
 have f1:=tc_lookup
 have f2:=tc_bind (.ref C)
 have hT:(⟨h,g,d,t,os⟩:Shared).TypeIs (.ref C) "type":=⟨_,hC,rfl⟩
 refine zG5 (codeAny_of_tree ?_)
 show wpAny _ _ (callAny (.ref C) _) _ _ _
 repeat (any_goals (first|assumption|with_reducible refine zC1 hC ?_|wp_step))
 refine⟨rfl,?_⟩
 exact codeAny_call_builtin_at (Code.quiet_builtin _ (by decide +kernel)) entry_typeCall (wpAny_check_type_call_sub hC (mM Fn hBn F T hC hn hi hfI hfc hq hrest))
theorem zh2 {M:Model}{s:Shared}{env:Env}{x:Sem Value}{Q:Flow→Shared→Prop}(hbase:bm.contains (.type "BaseException")=true)(hh:A.handled=none)
  (h:wpAny M A x (fun v s₁=>∃e t d,v=.ref e∧s₁.heap.get? C=some (excClassObj nm q C N bs bm hdct sn sub ab col dd k0 k1 k2 k3 k5 newId)∧s₁.heap.get? e=some (vS C t d)∧E (.ref e) s₁) E s):
  wpAny M A (raiseStmt env (some x) none) Q E s:=by
 have hcB:(Value.ref C::bm).contains (.type "BaseException")=true:=by rw[List.contains_cons,hbase,Bool.or_true]
 unfold raiseStmt
 refine zs9 (zw2 h (fun v s₁ h₁=>?_) fun _ _ x=>x)
 obtain⟨e,t,d,rfl,hC,he,hE⟩:=h₁
 obtain⟨hp,g,d,tk,os⟩:=s₁
 repeat (first|with_reducible refine zC1 he ?_|with_reducible refine zC1 hC ?_|(with_reducible refine wpAny_isSubtype_exc hC ?_;rw[hcB])|wp_step)
 exact wpAny_raiseNew_none hh hE
end
open Builtin Builtin.ObjectAttr
def bmV :List Value:=[.type "ValueError",.type "Exception",.type "BaseException",.type "object"]
def xY (K:Frag)(C S:Addr)(init:Option Value):Bool:=match K.lookup C with
 |some ⟨.type "type",_,.cls cd,sl⟩=>(match sl.toList with
  |[_,_,_,_,some (.builtin n),_]=>cd.mro == .ref C::.ref S::bmV&&n == "ValueError.__new__"&&!cd.hasDel&&cd.hasDict&&tailIn K bmV (.ref S::bmV)&&nsOkIn K cd.ns&&nsIn K cd.ns "__init__" == some init
  |_=>false)
 |_=>false
theorem dZ {K:Frag}{h:Heap}{N:Addr}{mg:Str→Option Value}{n:Str}{v:Option Value}(X:K.In h)(G:h.Ns N mg)(e:nsIn K N n=some v):mg n=v:=by
 cases v with
 |none=>exact ns_none_of X G e
 |some v=>
  obtain⟨o,es,ep,ho,hd,_,hf⟩:=G
  unfold nsIn at e
  split at e
  ·rename_i c d es' n' sl q
   have:=X _ _ q
   rw[ho] at this
   cases this
   cases hd
   split at e
   ·rename_i en he
    cases e
    rw[←hf]
    unfold nsFind findBy
    rw[←Array.find?_toList,he]
    rfl
   ·split at e<;>cases e
  ·cases e
theorem ud {K:Frag}{h:Heap}{C S:Addr}{init:Option Value}(X:K.In h)(q:xY K C S init=true):
  ∃nm qn N bs sn sub ab col dd k0 k1 k2 k3 k5 mN,h.get? C=some (excClassObj nm qn C N bs (.ref S::bmV) true sn sub ab col dd k0 k1 k2 k3 k5 "ValueError.__new__")∧h.Ns N mN∧mN "__init__"=init∧OwnTail h bmV (.ref S::bmV)∧∃cd,clsIn K C=some cd∧cd.hasDict=true∧cd.mro=.ref C::.ref S::bmV∧K.lookup C=some (excClassObj nm qn C N bs (.ref S::bmV) true sn sub ab col dd k0 k1 k2 k3 k5 "ValueError.__new__"):=by
 unfold xY at q
 split at q
 ·rename_i dd cd sl ho
  split at q
  ·rename_i k0 k1 k2 k3 n k5 hs
   simp only[zv1,zC2,Bool.not_eq_true'] at q
   obtain⟨⟨⟨⟨⟨⟨hm,hn⟩,hdel⟩,hdd⟩,ht⟩,hok⟩,hni⟩:=q
   obtain⟨nm,bs,mro,ns,qn,hd,sn,sub,ab,col,del⟩:=cd
   dsimp only at hm hdel hok hni hdd
   subst hm hdel hn hdd
   have hsl:sl=#[k0,k1,k2,k3,some (.builtin "ValueError.__new__"),k5]:=by
    obtain⟨l⟩:=sl
    simp only at hs
    rw[hs]
   subst hsl
   have N:=Heap.Ns.of_isNs (isNs_of_in X hok)
   exact⟨nm,qn,ns,bs,sn,sub,ab,col,dd,k0,k1,k2,k3,k5,_,X _ _ ho,N,dZ X N hni,tail_of_in X ht,_,by unfold clsIn;rw[ho],rfl,rfl,ho⟩
  ·cases q
 ·cases q
section
variable {prog:Program}{w:World}{A:Around}{E:Value→Shared→Prop}{h:Heap}{g:Array GenState}{d:Drawn}{t:Nat}{os:OsState}{K:Frag}{C S e t0:Addr}{dx:Option Addr}{init:Option Value}
theorem mF {rest:List Value}{Q:Value→Shared→Prop}(X:K.In h)(q:xY K C S init=true)(he:h.get? e=some (vS C t0 dx))(hr:rest.length≤1000)
  (hq:∀h' t',(∀b o,b≠e→h.get? b=some o→h'.get? b=some o)→h'.get? e=some (vS C t' dx)→Q .none ⟨h',g,d,t,os⟩):wpAny (model prog w) A (call (.builtin "ValueError.__init__") (.ref e::rest)) Q E ⟨h,g,d,t,os⟩:=by
 obtain⟨nm,qn,N,bs,sn,sub,ab,col,dd,k0,k1,k2,k3,k5,mN,hC,hN,hi,T,_⟩:=ud X q
 have F:=zB8
 have hz:rest.length≤sizeLine:=by rw[zx2];omega
 refine zG5 (codeAny_call_builtin F.init.plain F.initEntry (wpAny_check_init_subU F T hC he rfl ?_))
 unfold Builtin.«BaseException.__init__»
 wp_walk
 refine hq _ h.objs.size (fun b o hb z=>?_) ?_
 ·rw[zu4 _ _ (zw4 hb)]
  exact zt0 _ z
 ·rw[zy2 _ (zt0 _ he) rfl]
  rfl
theorem gW {ox:Obj}(he:h.get? e=some ox)(hc:ox.cls=.ref C)(hd:∃vs,ox.data=.fields vs){od:Option Obj}(hdx:match ox.dict,od with
  |some dx,some o=>h.get? dx=some o
  |none,none=>True
  |_,_=>False):InstAt h e ox C od:=⟨he,hc,by obtain⟨vs,hd⟩:=hd;unfold notCls;rw[hd],hdx⟩
theorem zs4 {name:Str}{v:Value}{Q:Unit→Shared→Prop}(X:K.In h)(q:xY K C S init=true)(hs:findIn K (.ref C) "__setattr__"=some (some (.builtin "object.__setattr__")))(hn:findIn K (.ref C) name=some none)(he:h.get? e=some (vS C t0 none))
  (hq:∀h' dx tk',h.objs.size≤dx→(∀b o,b≠e→h.get? b=some o→h'.get? b=some o)→h'.get? e=some (vS C t0 (some dx))→h'.Ns1 dx (fun y=>if y=name then some v else none)→Q () ⟨h',g,d,tk',os⟩):wpAny (model prog w) A (setAttr (.ref e) name v) Q E ⟨h,g,d,t,os⟩:=by
 obtain⟨nm,qn,N,bs,sn,sub,ab,col,dd,k0,k1,k2,k3,k5,mN,hC,hN,hi,T,cd,hcd,hdict,hmro,_⟩:=ud X q
 have I:InstAt h e (vS C t0 none) C none:=gW he rfl ⟨_,rfl⟩ trivial
 refine set_plain (s:=⟨h,g,d,t,os⟩) X I hs ?_
 have SF:=PySem.F.store_object
 have sub:Looks (model prog w) h (isInstance (.ref e) (.type "object")) true:=I.type.andThen (looks_mroIn X (by unfold mroIn;rw[hcd,Option.bind_some,hmro]<;>rfl))
 refine codeAny_call_builtin SF.slot.plain SF.entry (@check_slot (model prog w) _ _ ⟨h,g,d,t+1,os⟩ "object.__setattr__" "object" "__setattr__" (.ref e) [.str name t,v] [] _ SF.kind SF.split sub (SF.args (.ref e) (.str name t) v) ?_)
 have hm:Looks (model prog w) h (mroOf (.ref C)) (.ref C::.ref S::bmV):=hmro▸(looks_clsIn X hcd).andThen .now
 rw[osa_eq,refuse_eq]
 refine zs9 (zs9 (I.type.at (zs9 (hm.at ?_))))
 rw[refuseLoop_ref,refuseLoop_ref,show refuseLoop (.ref e) "__setattr__" bmV=pure () from PySem.F.store_ValueError.passes _]
 refine zt2 (zs9 (I.type.at (zs9 ((looks_findIn X hn).at (zs9 (zt2 ?_))))))
 show wpAny _ _ (storeInOwnDict (.ref e) (.ref C) (.str name t) name v false) _ _ _
 refine zs9 (zt2 (zs9 (zs9 (zC1 he (zs9 ((looks_clsIn X hcd).at ?_))))))
 rw[hdict]
 have hx₁:(h.push {cls:=.type "dict",data:=.dict #[]}).get? e=some (vS C t0 none):=zt0 _ he
 have hxs:e≠h.objs.size:=zv0 (zt6 he)
 refine zs9 (wpAny_alloc' ?_)
 refine zs9 (wpAny_update' hx₁ ?_)
 refine zt2 ?_
 generalize hh1:((h.push {cls:=.type "dict",data:=.dict #[]}).update e fun o=>{cls:=o.cls,dict:=some h.objs.size,data:=o.data,slots:=o.slots})=h1
 have hgd:h1.get? h.objs.size=some {cls:=.type "dict",data:=.dict #[]}:=by
  rw[←hh1]
  exact (Heap.get?_update_ne _ _ _ _ hxs.symm).trans (Heap.get?_push_at rfl rfl)
 have hnd:h1.Ns h.objs.size (fun _=>none):=⟨_,#[],_,hgd,rfl,fun e he=>absurd he (by simp),fun _=>rfl⟩
 show wpAny _ _ (storeInDict h.objs.size (.str name t) name v) _ _ _
 unfold storeInDict newKeyGuard
 refine zs9 (zt2 (zs9 (wpAny_nsSet1 (Heap.Ns1.of_empty hnd) fun h' hn' hs=>?_)))
 obtain⟨oD,esD,epD,hoD,hdD,hcD⟩:=hn'.count (Within.cons name v Within.nil)
 refine zs9 (wpAny_lookBehind hoD (by rw[hdD];exact pastItsLine_dict (zx9 hcD (by rw[zu5,List.length_nil,zx2];omega))) ?_)
 refine zt2 (hq h' h.objs.size _ (zt8 _) (fun b o hb z=>?_) ?_ hn')
 ·refine (hs.2 b (zv0 (zt6 z))).trans ?_
  rw[←hh1]
  exact (Heap.get?_update_ne _ _ _ _ hb).trans (zt0 _ z)
 ·refine (hs.2 e hxs).trans ?_
  rw[←hh1]
  exact zy2 _ hx₁ rfl
end
structure XC (K:Frag)(C S:Addr)(init:Option Value):Prop where
 ok:xY K C S init=true
 sa:findIn K (.ref C) "__setattr__"=some (some (.builtin "object.__setattr__"))
 ga:findIn K (.ref C) "__getattribute__"=some (some (.builtin "BaseException.__getattribute__"))
 gt:findIn K (.ref C) "__getattr__"=some none
 cl:findIn K (.ref C) "__class__"=some (some (.builtin "object.__class__"))
 cg:specialIn K (.builtin "object.__class__") "__get__"=some (some (.builtin "getset_descriptor.__get__"))
 ct:takesIn K (.builtin "object.__class__")=some true
section
variable {prog:Program}{w:World}{A:Around}{E:Value→Shared→Prop}{h:Heap}{g:Array GenState}{d:Drawn}{t:Nat}{os:OsState}{K:Frag}{C S e t0:Addr}{init:Option Value}
structure XB (K:Frag)(C B:Addr):Prop where
 ty:typeIn K (.ref B)=some (.type "type")
 be:mroIn K B (.type "BaseException")=some true
 sub:mroIn K C (.ref B)=some true
theorem zf4 {B:Addr}{ox:Obj}{od:Option Obj}{Q:Bool→Shared→Prop}(X:K.In h)(b:XB K C B)(I:InstAt h e ox C od)(hq:Q true ⟨h,g,d,t,os⟩):wpAny (model prog w) A (excMatches (.ref e) (.ref B)) Q E ⟨h,g,d,t,os⟩:=by
 have l1:Looks (model prog w) h (isType (.ref B)) true:=by
  obtain⟨cd,hcd,_⟩:=Option.bind_eq_some_iff.mp b.be
  unfold clsIn at hcd
  split at hcd
  ·rename_i c' d' cd' sl' ho
   intro A' Q' E' s' k q
   unfold isType loadHead
   exact zs9 (wpAny_loadPart (k _ _ (X _ _ ho)) (zt2 q))
  ·cases hcd
 have l2:Looks (model prog w) h (isExcClass (.ref B)) true:=l1.andThen (by rw[if_pos rfl];exact looks_mroIn X b.be)
 have l3:Looks (model prog w) h (isInstance (.ref B) (.type "tuple")) false:=(looks_typeIn X b.ty).andThen (Looks.of_pure tc_notTuple)
 have l4:=looks_mroIn (M:=model prog w) X b.sub
 have l5:=I.type (M:=model prog w)
 unfold excMatches
 refine zs9 (l3.at ?_)
 rw[if_neg (by decide)]
 refine zs9 (zt2 ?_)
 simp only[zz0,zA7]
 refine zs9 (zs9 (zs9 (l2.at ?_)))
 refine zt2 (zt2 (zs9 (l5.at (zs9 (zs9 (zs9 (l4.at ?_)))))))
 exact zt2 (zt2 (zt2 hq))
end
def xcF (a C:Addr)(d:Option Addr):HO:=.ext fun h=>∃t,h.get? a=some (vS C t d)
section
variable {X:Cx}{pins:List (Addr×Obj)}{σ:St}{H:Hp}{s:Shared}{a C:Addr}{d:Option Addr}{pos:Pos}
theorem my {P:Program}{w:World}{H':Hp}{h:Heap}{t:Addr}(e:h.get? a=some (vS C t d)):zY P w H' h a (xcF a C d):=⟨⟨t,e⟩,⟨_,e⟩,fun _ _ ⟨t,e⟩ k=>⟨t,k _ e⟩⟩
theorem Inv.xat (I:Inv X pins σ H s)(e:H a=some (xcF a C d)):∃t,s.heap.get? a=some (vS C t d):=(I.hok a _ e).1
theorem fY {o:HO}(e:H a=some o):upd H a o=H:=by
 funext b
 unfold upd
 split
 ·rename_i z;rw[z,e]
 ·rfl
theorem Inv.xthaw (I:Inv X pins σ H s)(e:H a=some (xcF a C d)):Inv X pins σ (upd H a (xcO a C d)) s:=by
 obtain⟨t,h⟩:=I.xat e
 have:=I.write (x:=a) (e:=a) (o:=xcO a C d) (h':=s.heap) (t':=s.toks) (by rw[e];exact True.intro) (.inl rfl) (fun _ _ _ q=>q) ⟨_,h⟩ ⟨⟨_,_,h,rfl,rfl,rfl⟩,⟨_,h⟩,fun _ _ ⟨o,vs,h1,h2⟩ k=>⟨o,vs,k _ h1,h2⟩⟩
 exact this
theorem zh7 {e:Expr}{te:TE}(he:PE X e te):PE X (.FormattedValue e (-1) none pos) (fun σ H Q=>te σ H fun x H1=>∃i:Int,x=.int i∧i.natAbs.log2<1920∧Q (.str (toString i)) H1):=by
 intro pins s σ H Q I h
 refine FormattedValue_plain (thn (he pins s σ H _ I h) fun u s1 ⟨x,H1,I1,rx,i,ex,hi,q⟩=>?_)
 subst ex
 obtain⟨t,rfl⟩:=(show ∃t,u=Value.int i t from rx)
 exact formatField_int_small hi ⟨.str (toString i),H1,I1.tok _,⟨_,rfl⟩,q⟩
def tJ (t:TE)(k:Str→TE):TE:=fun σ H Q=>t σ H fun x H1=>∃a,x=.str a∧a.length≤10000∧k a σ H1 Q
theorem fk {a b c:Expr}{ta tb tc:TE}(ha:PE X a ta)(hb:PE X b tb)(hc:PE X c tc):PE X (.JoinedStr [a,b,c] pos) (tJ ta fun x=>tJ tb fun y=>tJ tc fun z=>fun _ H Q=>Q (.str (Str.empty++x++y++z)) H):=by
 intro pins s σ H Q I h
 refine PyProof.Rows.JoinedStr_many (joinParts_cons (thn (ha pins s σ H _ I h) fun u s1 ⟨x,H1,I1,rx,x',ex,lx,h1⟩=>?_))
 subst ex
 obtain⟨t1,rfl⟩:=(show ∃t,u=Value.str x' t from rx)
 have e0:Str.empty.length=0:=rfl
 refine⟨by rw[zy7,zx2];omega,joinParts_cons (thn (hb pins s1 σ H1 _ I1 h1) fun u s2 ⟨y,H2,I2,ry,y',ey,ly,h2⟩=>?_)⟩
 subst ey
 obtain⟨t2,rfl⟩:=(show ∃t,u=Value.str y' t from ry)
 refine⟨by rw[zy7,zy7,zx2];omega,joinParts_cons (thn (hc pins s2 σ H2 _ I2 h2) fun u s3 ⟨z,H3,I3,rz,z',ez,lz,h3⟩=>?_)⟩
 subst ez
 obtain⟨t3,rfl⟩:=(show ∃t,u=Value.str z' t from rz)
 have hl:(Str.empty++x'++y'++z').length≤sizeLine:=by rw[zy7,zy7,zy7,zx2];omega
 exact⟨hl,joinParts_nil ⟨.str (Str.empty++x'++y'++z'),H3,I3.tok _,⟨_,rfl⟩,h3⟩ hl⟩
theorem cG {i:Int}(h:i.natAbs.log2<1920):(Str.ofString (toString i)).length≤10000:=by
 have e:=int_text_length_le (k:=1920) (by decide) h
 rw[PySem.ofString_length];omega
structure XS (K:PySem.W.Frag)(S:Addr):Prop where
 rd:PySem.W.readsIn K S (.type "type")=true
 fi:PySem.W.findCls K (.ref S) (.type "type") "__init__"=some (.val (.builtin "ValueError.__init__"))
 ga:PySem.W.specialIn K (.ref S) "__getattribute__"=some (some (.builtin "type.__getattribute__"))
theorem di {pl:Sem Bool}{sn:Str}{S:Addr}{init:Option Value}{p apos:Pos}{e:Expr}{es:List Expr}{ta:TA}(hg:Gl X sn)(hm:X.mg sn=some (.ref S))(xs:XS X.K S)(c:xY X.K C S init=true)(ha:PA X (e::es) ta)(hdb:(sn == ("__debug__":Str))=false:=by decide)
  (hst:starEach (e::es) X.env=(false,eval e X.env)::starEach es X.env:=by rfl) (hpl:(backTo pos (starEach es X.env)).any (·.1)=false:=by rfl)
  (ht:eval (.Call (.Attribute (.Name sn p) "__init__" apos) (e::es) [] pos) X.env=(do
   let ov ←eval (.Name sn p) X.env
   standAt apos.atName
   let (f,first) ←holding [ov] (getMethod ov "__init__" pl)
   callWith pos f first (backTo pos (starEach (e::es) X.env)) (backToKw pos (keywordEach [] X.env))):=by rfl):
  PE X (.Call (.Attribute (.Name sn p) "__init__" apos) (e::es) [] pos) (fun σ H Q=>ta σ H fun vs H1=>∃a rest d,vs=.ref a::rest∧rest.length≤100∧H1 a=some (xcF a C d)∧Q .non H1):=by
 intro pins s σ H Q I h
 refine zD9 (pl:=pl) (xK I hg hm ?_ hdb) ht
 refine PySem.W.method_cls I.kIn xs.ga (PySem.W.cls_value I.kIn xs.rd xs.fi (by decide +kernel) ?_)
 refine PyProof.Rows.callWith_builtin1 (thn (ha pos pins _ σ H _ (I.tok (s.toks+1)) h) fun us s1 ⟨vs,H1,I1,r1,a,rest,d,ev,lr,ea,q⟩=>?_) hst hpl
 subst ev
 obtain⟨t,hx⟩:=I1.xat ea
 cases r1 with
 |@cons _ u _ us r0 r1=>
  obtain rfl:u=Value.ref a:=r0
  obtain⟨h1,g1,d1,t1,o1⟩:=s1
  refine mF I1.kIn c hx (by have:=r1.length;omega) fun h' t' hk he=>?_
  have I2:=I1.write (x:=a) (e:=a) (o:=xcF a C d) (h':=h') (t':=t1) (by rw[ea];exact True.intro) (.inl rfl) (fun b u hb q=>hk b u hb q) ⟨_,he⟩ (my he)
  rw[fY ea] at I2
  exact⟨.non,H1,I2,rfl,q⟩
theorem Inv.xput {h':Heap}{t':Nat}{dx t:Addr}{f:Str}{y:V}{u:Value}(I:Inv X pins σ H s)(ea:H a=some (xcF a C none))(hdx:s.heap.objs.size≤dx)(hk:∀b o,b≠a→s.heap.get? b=some o→h'.get? b=some o)(he:h'.get? a=some (vS C t (some dx)))(hn:h'.Ns1 dx (fun z=>if z=f then some u else none))(ry:RelV y u):
  Inv X pins σ (upd (upd H dx (.xd [(f,y)])) a (xcF a C (some dx))) {s with heap:=h',toks:=t'}:=by
 have hf:H dx=none:=I.hok.fresh hdx
 have da:dx≠a:=fun z=>by rw[z,ea] at hf;cases hf
 have lt:∀{b:Addr} {o:Obj},s.heap.get? b=some o→b≠dx:=fun {b o} q z=>absurd (zt6 q) (by rw[z];exact Nat.not_lt.mpr hdx)
 have na:∀{b:Addr},H b=none→b≠a:=fun {b} n z=>by rw[z,ea] at n;cases n
 have nn:∀{b:Addr} {o:HO},H b=some o→b≠dx:=fun {b o} q z=>by rw[z,hf] at q;cases q
 have keepH:∀{b:Addr} {o:HO},H b=some o→b≠a→(upd (upd H dx (.xd [(f,y)])) a (xcF a C (some dx))) b=some o:=fun {b o} q z=>by rw[zd z,zd (nn q)];exact q
 refine I.un ⟨fun b o q n _ _=>hk b o (na n) q,fun b o q n _ _=>⟨o.slots,hk b o (na n) q⟩,fun b o q n _=>by rw[zd (na n),zd (lt q)];exact n,fun b o q _=>?_,fun b xs q=>keepH q (fun z=>by rw[z,ea] at q;cases q),fun b o u q=>keepH q (fun z=>by rw[z,ea] at q;cases q),fun b ps q=>⟨#[],by rw[Array.append_empty];exact keepH q (fun z=>by rw[z,ea] at q;cases q)⟩⟩ fun b o q=>?_
 ·by_cases z:b=a
  ·subst z;exact⟨_,he⟩
  ·exact⟨o,hk b o z q⟩
 ·by_cases z:b=a
  ·subst z
   rw[zk] at q;cases q
   exact my he
  ·rw[zd z] at q
   by_cases z2:b=dx
   ·subst z2
    rw[zk] at q;cases q
    refine⟨_,hn,fun g=>?_⟩
    show vN (([(f,y)]:List (Str×V)).lookup g) (if g=f then some u else none)
    by_cases zz:g=f
    ·subst zz
     rw[if_pos rfl]
     simp only[zw6,beq_self_eq_true]
     exact ry
    ·rw[if_neg zz]
     have:(g == f)=false:=by simpa using zz
     simp only[zw6,this,List.lookup_nil]
     trivial
   ·rw[zd z2] at q
    refine (I.hok b o q).stay (fun c v hc e=>hk c v ?_ e) (fun c e=>keepH e (fun z=>by rw[z,ea] at e;cases e)) fun c xs e=>keepH e (fun z=>by rw[z,ea] at e;cases e)
    rcases hc with rfl|hc
    ·exact z
    ·intro z3;rw[z3,ea] at hc;cases hc
theorem cX {o value:Expr}{ta tv:TE}{f:Str}{S:Addr}{init:Option Value}{pos':Pos}(ha:PE X o ta)(hv:PE X value tv)(c:XC X.K C S init)(hn:PySem.W.findIn X.K (.ref C) f=some none)(hs:swapsWith value (some (.Attribute o f pos')) pos.line X.env=pure false:=by rfl):
  PS X (.Assign [.Attribute o f pos'] value pos) (fun D σ H=>tv σ H fun y H1=>ta σ H1 fun x H2=>∃a,x=.ref a∧H2 a=some (xcF a C none)∧∀dx,H2 dx=none→dx≠a→D.nx σ (upd (upd H2 dx (.xd [(f,y)])) a (xcF a C (some dx)))):=by
 intro pins s σ H D I h
 refine plainObj_wpAny_Assign_Attribute (thn (hv pins s σ H _ I h) fun u s1 ⟨y,H1,I1,ry,q⟩=>thn (ha pins s1 σ H1 _ I1 q) fun ov s2 ⟨x,H2,I2,rx,a,ex,ea,q2⟩=>?_) hs
 subst ex
 obtain rfl:ov=Value.ref a:=rx
 obtain⟨t,hx⟩:=I2.xat ea
 obtain⟨h2,g2,d2,t2,o2⟩:=s2
 refine zs4 I2.kIn c.ok c.sa hn hx fun h' dx tk' hdx hk he hn'=>⟨σ,_,I2.xput ea hdx hk he hn' ry,q2 dx (I2.hok.fresh hdx) fun z=>?_⟩
 have:=I2.hok.fresh hdx
 rw[z,ea] at this;cases this
end
section
variable {prog:Program}{w:World}{A:Around}{E:Value→Shared→Prop}{h:Heap}{g:Array GenState}{d:Drawn}{t:Nat}{os:OsState}
variable {nm q:Str}{C N:Addr}{bs bm bmB:List Value}{hdct:Bool}{sn:List Str}{sub:List Value}{ab:Bool}{col:Option Bool}{dd:Option Addr}{k0 k1 k2 k3 k5:Option Value}{B Bn newId nid initId inN:String}{bmN:List Value}
end
section
variable {X:Cx}{pins:List (Addr×Obj)}{σ:St}{H:Hp}{s:Shared}{k:Nat}{f C S:Addr}{fd:FuncData}{ps:List Str}{sp:Sp}{x:Str}{p pos:Pos}{e:Expr}{es:List Expr}{t:TA}
theorem Inv.xmade {h':Heap}{t':Addr}(I:Inv X pins σ H s)(hk:∀b o,s.heap.get? b=some o→h'.get? b=some o)(he:h'.get? (s.heap.objs.size+1)=some (vS C t' none)):Inv X pins σ (upd H (s.heap.objs.size+1) (xcF (s.heap.objs.size+1) C none)) {s with heap:=h'}:=
 I.laid (t':=s.toks) hk (zA2 _) (my he)
theorem dD (c:xY X.K C S (some (.ref f))=true)(hfn:PySem.W.typeIn X.K (.ref f)=some (.type "function"))(kp:PySem.W.keepIn X.K (.ref C)=true)(F:zD X.prog X.w X.K X.mg X.base CX0 k f fd ps sp)(hr:zL (k+1) X.A)(hg:Gl X x)(hm:X.mg x=some (.ref C))(hb:Binds X.K fd ps [])
  (ha:PA X (e::es) t) (hdb:(x == ("__debug__":Str))=false:=by decide) (he:starEach (e::es) X.env=(false,eval e X.env)::starEach es X.env:=by rfl) (hpl:(backTo pos (starEach es X.env)).any (·.1)=false:=by rfl):
  PE X (.Call (.Name x p) (e::es) [] pos) (fun σ H Q=>t σ H fun vs H1=>vs.length≤100∧∀a,H1 a=none→sp (.ref a::vs) (upd H1 a (xcF a C none)) (fun v H2=>v=.non∧Q (.ref a) H2) E0):=by
 intro pins s σ H Q I h
 refine zz9 (xK I hg hm ?_ hdb)
 refine zD3 (h₀:=X.base) I.ok.mod.kin kp (thn (ha pos pins s σ H _ I h) fun us s1 ⟨vs,H1,I1,r,lv,q⟩=>⟨I1.kIn,?_⟩) he hpl
 obtain⟨nm,qn,N,bs,sn,sub,ab,col,dd,k0,k1,k2,k3,k5,mN,hC,hN,hi,T,_⟩:=ud I1.kIn c
 obtain⟨oI,lI,cI⟩:=zw1.mp hfn
 have hfI:=I1.kIn _ _ lI
 have hl:=r.length
 have hq:=q (s1.heap.objs.size+1) (I1.hok.fresh (zA2 _))
 obtain⟨h0,g,d,tk,os⟩:=s1
 refine zo2 zB8 (by decide +kernel) zB8 T hC hN hi hfI cI ?_ (by show us.length≤_;rw[zx2];omega)
 have keep:∀b o,h0.get? b=some o→(vm h0 C us).get? b=some o:=fun b o e=>zt0 _ (zt0 _ e)
 have hget:(vm h0 C us).get? (h0.objs.size+1)=some (vS C h0.objs.size none):=by unfold vm;heap_get
 have I2:=I1.xmade (h':=vm h0 C us) keep hget
 have r2:Vals (V.ref (h0.objs.size+1)::vs) (Value.ref (h0.objs.size+1)::us):=.cons rfl r
 have hl2:(Value.ref (h0.objs.size+1)::us++[]).length=ps.length:=by
  have e:=r2.length
  rw[F.len _ _ _ _ hq] at e
  rw[zA3]
  exact e.symm
 have hbb:=hb _ (Value.ref (h0.objs.size+1)::us) I2.kIn hl2
 rw[zA3] at hbb
 refine zG5 (zE0 (F.run _ X.stack _ _ ⟨Value.ref (h0.objs.size+1)::us,[]⟩ _ _ _ E0 (hr.make C us []) (I2.env0.make C us []) hbb r2 hq) fun r s' hq'=>?_)
 cases r with
 |error e=>exact (hq':False).elim
 |ok fl=>
  cases fl with
  |ret u=>
   obtain⟨v,H',I3,rv,ev,q3⟩:=I2.after hq'
   subst ev
   exact⟨rv,⟨V.ref (h0.objs.size+1),H',I3,rfl,q3⟩⟩
  |next=>exact False.elim hq'
  |brk=>exact False.elim hq'
  |cont=>exact False.elim hq'
theorem cc {X0:Cx}{R:St→Addr→Hp→Prop}{te:TE}{init:Option Value}(c:xY X0.K C S init=true)(hc:X0.calm=true)(he:PE (X0.wish (XE X0 R)) e te):
  PS (X0.wish (XE X0 R)) (.Raise (some e) none pos) (fun D σ H=>te σ H fun x H1=>∃a d,x=.ref a∧H1 a=some (xcF a C d)∧R σ a (upd H1 a (xcO a C d))):=by
 intro pins s σ H D I h
 show wpAny _ _ (do standAt pos;raiseStmt X0.env (some (do let v ←eval e X0.env;standAt pos;pure v)) none) _ _ _
 obtain⟨nm,qn,N,bs,sn,sub,ab,col,dd,k0,k1,k2,k3,k5,mN,hC,hN,hi,T,_,_,_,_,lk⟩:=ud I.kIn c
 refine zs9 (zF0 (zh2 (C:=C) (nm:=nm) (q:=qn) (N:=N) (bs:=bs) (bm:=.ref S::bmV) (hdct:=true) (sn:=sn) (sub:=sub) (ab:=ab) (col:=col) (dd:=dd) (k0:=k0) (k1:=k1) (k2:=k2) (k3:=k3) (k5:=k5) (newId:="ValueError.__new__") (T.hasType zB8.hasBase) (I.ok.hd hc) (zs9 (thn (he pins s σ H _ I h) fun v s1 ⟨x,H1,I1,rx,a,d,ex,ea,r⟩=>zs9 (zF0 (zt2 ?_))))))
 subst ex
 obtain rfl:v=Value.ref a:=rx
 obtain⟨t',ha⟩:=I1.xat ea
 exact⟨a,t',d,rfl,I1.kIn _ _ lk,ha,⟨σ,_,a,rfl,(I1.xthaw ea).unwish.nopins,⟨C,d,zk⟩,.new ha rfl rfl,r⟩⟩
end
abbrev Cx.held (X:Cx)(pins:List (Addr×Obj)):Cx:={X with pn:=X.pn++pins}
abbrev Cx.suite (X:Cx)(a:Addr):Cx:={X with A:=X.A.mark (some (.ref a)),calm:=false,xe:=fun _ _=>False}
section
variable {X:Cx}{pins:List (Addr×Obj)}{σ:St}{H:Hp}{s:Shared}{a:Addr}{D:Ends}{f:Flow}
theorem Inv.held (I:Inv X pins σ H s):Inv (X.held pins) [] σ H s:=
 ⟨⟨I.ok.mod,I.ok.kind,I.ok.glob,I.ok.blt,I.ok.above,I.ok.inj,I.ok.has,I.ok.cab,I.ok.hd,I.ok.frames,I.ok.stk,I.ok.exf,I.ok.bs,I.ok.bsz,I.ok.noex,I.ok.exfs,I.ok.funs,I.ok.frf⟩,I.os,I.bare,I.base,I.loc,I.cell,I.free,I.freeC,fun p hp=>I.pin p (by simpa using hp),I.hok,I.len⟩
theorem Inv.unheld (I:Inv (X.held pins) [] σ H s):Inv X pins σ H s:=
 ⟨⟨I.ok.mod,I.ok.kind,I.ok.glob,I.ok.blt,I.ok.above,I.ok.inj,I.ok.has,I.ok.cab,I.ok.hd,I.ok.frames,I.ok.stk,I.ok.exf,I.ok.bs,I.ok.bsz,I.ok.noex,I.ok.exfs,I.ok.funs,I.ok.frf⟩,I.os,I.bare,I.base,I.loc,I.cell,I.free,I.freeC,fun p hp=>I.pin p (by simpa using hp),I.hok,I.len⟩
theorem Inv.suite (I:Inv X pins σ H s):Inv (X.suite a) pins σ H s:=
 ⟨⟨I.ok.mod,I.ok.kind,I.ok.glob,I.ok.blt,I.ok.above,I.ok.inj,I.ok.has,I.ok.cab,(fun z=>nomatch z),I.ok.frames,I.ok.stk,I.ok.exf,I.ok.bs,I.ok.bsz,I.ok.noex,I.ok.exfs,I.ok.funs,I.ok.frf⟩,I.os,I.bare,I.base,I.loc,I.cell,I.free,I.freeC,I.pin,I.hok,I.len⟩
theorem Inv.unsuite (J:Inv X [] σ H s){σ':St}{H':Hp}{s':Shared}(I:Inv (X.suite a) pins σ' H' s'):Inv X pins σ' H' s':=
 ⟨J.ok,I.os,I.bare,I.base,I.loc,I.cell,I.free,I.freeC,I.pin,I.hok,I.len⟩
theorem SP.held {E:Value→Shared→Prop}(h:SP ((X.held pins).wish E) [] D f s):SP X pins D f s:=by
 cases f with
 |next=>obtain⟨σ',H',I,q⟩:=h;exact⟨σ',H',I.unwish.unheld,q⟩
 |brk=>obtain⟨σ',H',I,q⟩:=h;exact⟨σ',H',I.unwish.unheld,q⟩
 |cont=>obtain⟨σ',H',I,q⟩:=h;exact⟨σ',H',I.unwish.unheld,q⟩
 |ret u=>obtain⟨v,σ',H',I,r,q⟩:=h;exact⟨v,σ',H',I.unwish.unheld,r,q⟩
theorem Inv.caught {R:St→Addr→Hp→Prop}{E':Value→Shared→Prop}{Q:Flow→Shared→Prop}{e:Value}{hs:List ExceptHandler}(hst:X.stack=X.env::X.outer)(h:XE X R e s)
  (k:∀σ H a T s',Inv X [] σ H s'→(∃C d,H a=some (xcO a C d))→R σ a H→H T=none→X.s₀.heap.get? T=none→(∀p∈X.pn,p.1≠T)→Ent s'.heap X.base a T .none→wpAny (model X.prog X.w) X.A (handleBy (.ref a) X.env hs) Q E' s'):
  wpAny (model X.prog X.w) X.A (noteFrame e X.env) (fun _ s₂=>wpAny (model X.prog X.w) X.A (setFlight e none) (fun _ s₃=>wpAny (model X.prog X.w) X.A (handleBy e X.env hs) Q E' s₃) E' s₂) E' s:=by
 obtain⟨σ,H,a,rfl,I,ha,f,r⟩:=h
 refine I.note hst ha f fun h' T I' h1 h2 h3 h4=>?_
 refine I'.flight (fo:=none) hst ha h1 h2 (by simpa using h3) h4 fun h'' I'' e''=>?_
 exact k σ H a T _ I'' ha r h1 h2 h3 e''
theorem aw {P:Program}{w:World}{h:Heap}{C:Addr}{d:Option Addr}(hok:HOk P w H h)(e:H a=some (xcO a C d))(hd:∀dx,d=some dx→∃fs,H dx=some (.xd fs)):∃ox od,PySem.W.InstAt h a ox C od∧od.isSome=d.isSome:=by
 obtain⟨⟨o,vs,h1,h2,h3,h4⟩,_⟩:=hok a _ e
 cases d with
 |none=>exact⟨o,none,gW h1 h2 ⟨vs,h4⟩ (by rw[h3];trivial),rfl⟩
 |some dx=>
  obtain⟨fs,hx⟩:=hd dx rfl
  obtain⟨mA,⟨od,es,ep,e1,_⟩,_⟩:=hok dx _ hx
  exact⟨o,some od,gW h1 h2 ⟨vs,h4⟩ (by rw[h3];exact e1),rfl⟩
end
section
variable {X:Cx}{body suite:List Stmt}{b0:Stmt}{x n:Str}{np hpos pos:Pos}{B:Addr}
def lS (K:PySem.W.Frag)(B:Addr)(R:St→Addr→Hp→Prop):Prop:=∀σ a H,R σ a H→∃C d,H a=some (xcO a C d)∧(∀dx,d=some dx→∃fs,H dx=some (.xd fs))∧XB K C B
theorem zb9 {R:St→Addr→Hp→Prop}(hst:X.stack=X.env::X.outer)(hg:Gl X x)(hm:X.mg x=some (.ref B))(hR:lS X.K B R)(hdb:(x == ("__debug__":Str))=false:=by decide):
  PS X (.Try body [.ExceptHandler (some (.Name x np)) none (b0::suite) hpos] [] [] pos) (fun D σ H=>(∀pins,jU ((X.held pins).wish (XE (X.held pins) R)) body D σ H)∧
   ∀pins a σ' H',R σ' a H'→jU ((X.held pins).suite a) (b0::suite) D σ' H'):=by
 rintro pins s σ H D I ⟨h1,h2⟩
 obtain⟨tb,pb,qb⟩:=h1 pins
 refine wpAny_Try_except (zw2 (pb [] s σ H D (I.held.wish _) qb) (fun f s1 hf=>?_) fun e s1 hx=>?_)
 ·have hf:=SP.held hf
  cases f with
  |next=>exact zF6 hf
  |brk=>exact hf
  |cont=>exact hf
  |ret u=>exact hf
 ·refine Inv.caught (X:=X.held pins) hst hx fun σ' H' a T s' I' ha r t1 t2 t3 ent=>?_
  obtain⟨C,d,hc,hd,xb⟩:=hR σ' a H' r
  refine wpAny_handleBy_cons (codeAny_handlers_test (xK (I'.suite (a:=a)) hg hm ?_ hdb)) (by intro q;cases q)
  obtain⟨ox,od,J,_⟩:=aw I'.hok hc hd
  obtain⟨h',g',d',tk',os'⟩:=s'
  refine zf4 I'.kIn xb J (codeAny_handlers_suite ?_)
  refine I'.flight (fo:=none) hst ha t1 t2 (by simpa using t3) ent fun h'' I'' _=>?_
  obtain⟨ts,p2,q2⟩:=h2 pins a σ' H' r
  refine zw2 (p2 [] _ _ H' _ I''.suite q2) (fun f s3 hf=>?_) fun _ _ z=>(z:False).elim
  cases f with
  |next=>
   obtain⟨σ3,H3,I3,q3⟩:=hf
   exact⟨_,H3,(I''.unsuite I3).unheld,q3⟩
  |brk=>
   obtain⟨σ3,H3,I3,q3⟩:=hf
   exact⟨_,H3,(I''.unsuite I3).unheld,q3⟩
  |cont=>
   obtain⟨σ3,H3,I3,q3⟩:=hf
   exact⟨_,H3,(I''.unsuite I3).unheld,q3⟩
  |ret u=>
   obtain⟨v,σ3,H3,I3,r3,q3⟩:=hf
   exact⟨v,_,H3,(I''.unsuite I3).unheld,r3,q3⟩
end
def xD (C:Addr)(fs:List (PyData×PyData)):PyData:=.dict ((.int (C:Nat),.bool true)::fs)
def xD0 (C:Addr):PyData:=.dict [(.int (C:Nat),.bool false)]
section
variable {G:Hp}{v:V}{C:Addr}{ds:List (PyData×PyData)}
theorem AV.xc_inv (h:AV G v (xD C ds)):∃a dx fs,v=.ref a∧G a=some (xcO a C (some dx))∧G dx=some (.xd fs)∧AVf G fs ds:=by
 generalize e:xD C ds=d at h
 cases h with
 |@xc a C' dx fs ds' h1 h2 h3=>
  unfold xD at e
  injection e with e
  injection e with e1 e2
  injection e1 with e1 _
  injection e1 with e1
  have:C=C':=by exact_mod_cast e1
  subst this;subst e2
  exact⟨a,dx,fs,rfl,h1,h2,h3⟩
 |_=>simp[xD] at e
theorem AV.xn_inv (h:AV G v (xD0 C)):∃a,v=.ref a∧G a=some (xcO a C none):=by
 generalize e:xD0 C=d at h
 cases h with
 |@xn a C' h1=>
  unfold xD0 at e
  injection e with e
  injection e with e1 e2
  injection e1 with e1 _
  injection e1 with e1
  have:C=C':=by exact_mod_cast e1
  subst this
  exact⟨a,rfl,h1⟩
 |_=>simp[xD0] at e
end
def isX (C:Addr)(d:PyData):Prop:=(∃fs,d=xD C fs)∨d=xD0 C
theorem isX.at {G:Hp}{v:V}{C:Addr}{d:PyData}(x:isX C d)(h:AV G v d):∃a dx,v=.ref a∧G a=some (xcO a C dx)∧∀y,dx=some y→∃fs,G y=some (.xd fs):=by
 rcases x with ⟨fs,rfl⟩|rfl
 ·obtain⟨a,dx,gs,rfl,h1,h2,_⟩:=h.xc_inv
  exact⟨a,some dx,rfl,h1,fun y e=>by cases e;exact⟨gs,h2⟩⟩
 ·obtain⟨a,rfl,h1⟩:=h.xn_inv
  exact⟨a,none,rfl,h1,fun y e=>by cases e⟩
theorem M.reidx {F:Fr}{α α':Ev}{σ σ':St}{H:Hp}(m:M F α σ H)(f:Nat→Nat)(hl:α'.length=σ'.length)(hf:∀(k:Nat) a s,α'[k]?=some (some a)→σ'[k]?=some s→α[f k]?=some (some a)∧σ[f k]?=some s)(inj:∀(k k':Nat) a a',α'[k]?=some (some a)→α'[k']?=some (some a')→f k=f k'→k=k'):M F α' σ' H:=by
 have ow:∀{y:Addr},Ow F α' σ' y→Ow F α σ y:=fun {y} h=>by
  rcases h with z|⟨i,c,s,e1,e2,fo⟩
  ·exact .inl z
  ·obtain⟨g1,g2⟩:=hf i c s e1 e2
   exact .inr ⟨_,c,s,g1,g2,fo⟩
 have gs:zC (Gz F α σ H) (Gz F α' σ' H):=zv fun a o h e=>⟨fun z=>h (ow z),e⟩
 refine⟨hl,fun i c s e1 e2=>?_,fun i i' c d s s' x e1 e2 h1 h2 f1 f2=>?_,fun i r q e i' c s x e1 e2 fo=>?_,m.tp,m.keep,m.oex⟩
 ·obtain⟨g1,g2⟩:=hf i c s e1 e2
  exact (m.ok _ c s g1 g2).stay gs (fun x o fo e=>⟨e,(m.ft g1 g2 fo).1,(m.ft g1 g2 fo).2.1⟩) rfl fun _ _ _ l=>l
 ·obtain⟨g1,g2⟩:=hf i c s e1 h1
  obtain⟨k1,k2⟩:=hf i' d s' e2 h2
  exact inj i i' c d e1 e2 (m.dj _ _ c d s s' x g1 k1 g2 k2 f1 f2)
 ·have:i<σ'.length:=by rw[←hl];exact (zt5.mp e).1
  obtain⟨g1,_⟩:=hf i _ _ e (zt3 this)
  obtain⟨k1,k2⟩:=hf i' c s e1 e2
  exact m.xd _ r q g1 _ c s x k1 k2 fo
theorem sJ {β:Ev}{b:Option A}{k:Nat}{a:A}(h:(β++[b])[k]?=some (some a)):(k<β.length∧β[k]?=some (some a))∨(k=β.length∧b=some a):=by
 rcases zA9 k β.length with z|z
 ·rw[zv3 z] at h;exact .inl ⟨z,h⟩
 ·rw[zw0 z] at h
  obtain⟨j,hj⟩:∃j,k-β.length=j:=⟨_,rfl⟩
  rw[hj] at h
  cases j with
  |zero=>simp at h;exact .inr ⟨by omega,h⟩
  |succ j=>simp at h
section
variable {F:Fr}{α αh:Ev}{σ:St}{H:Hp}
theorem M.grow (m:M F α σ H):M F (α++[none]) (σ++[none]) H:=by
 have hl:=m.len
 refine m.reidx id (by rw[zv4,zv4,hl];rfl) (fun k a s e1 e2=>?_) fun _ _ _ _ _ _ e=>e
 rcases sJ e1 with ⟨z,e⟩|⟨_,e⟩
 ·exact⟨e,by rw[zv3 (by omega)] at e2;exact e2⟩
 ·cases e
theorem M.snoc {v:V}{b:A}{H':Hp}(m:M F α σ H)(t:zQ F H')(k:Kz F H H')(hn:∀x,foot (some v) b x→H x=none)(hok:wW (sub (fun x=>¬Ow F α σ x∧¬foot (some v) b x) H') F H' (some v) b)(hx:noX b:=by trivial):M F (α++[some b]) (σ++[some v]) H':=by
 have hl:=m.len
 have mg:=m.grow
 have ow:∀{y:Addr},Ow F (α++[none]) (σ++[none]) y→Ow F α σ y:=fun {y} h=>by
  rcases h with z|⟨i,c,s,e1,e2,fo⟩
  ·exact .inl z
  ·rcases sJ e1 with ⟨z,e⟩|⟨_,e⟩
   ·exact .inr ⟨i,c,s,e,by rw[zv3 (by omega)] at e2;exact e2,fo⟩
   ·cases e
 have m2:=mg.store (i:=α.length) (v:=v) (b:=b) t k hn (hok.stay (zv fun a o h e=>⟨⟨fun z=>h.1 (ow z),h.2⟩,e⟩) (fun x o f e=>by
  obtain⟨w1,w2,_⟩:=tE hok f
  exact⟨e,w1,w2⟩) rfl fun _ _ _ l=>l) hx
 have e1:(α++[none]).set α.length (some b)=α++[some b]:=by rw[zH5 _ _ (zt8 _),zC8]<;>rfl
 have e2:(σ++[none]).set α.length (some v)=σ++[some v]:=by rw[zH5 _ _ (by omega),hl,zC8]<;>rfl
 rw[e1,e2] at m2
 exact m2
theorem M.len' {b:Option A}{s:Option V}(m:M F (α++[b]) (σ++[s]) H):α.length=σ.length:=by
 have:=m.len
 rw[zv4,zv4] at this
 exact Nat.add_right_cancel this
theorem M.init {b:Option A}{s:Option V}(m:M F (α++[b]) (σ++[s]) H):M F α σ H:=by
 have hl:=m.len'
 refine m.reidx id hl (fun k a t e1 e2=>?_) fun _ _ _ _ _ _ e=>e
 have hk:=(zt5.mp e1).1
 exact⟨by show (α++[b])[k]?=_;rw[zv3 hk];exact e1,by show (σ++[s])[k]?=_;rw[zv3 (by omega)];exact e2⟩
theorem kq {S:Addr→Prop}{G H:Hp}{x:Addr}{o:HO}(h:G x=some o)(hs:¬S x)(hn:∀xs,o≠.lst xs):yY S G H x=some o:=by
 unfold yY
 rw[if_neg hs,h]
 cases o<;>first|rfl|exact absurd rfl (hn _)
theorem dW {S:Addr→Prop}{p:Addr→Prop}{H:Hp}{x:Addr}{o:HO}(h:yY S (sub p H) H x=some o):H x=some o:=by
 rcases vj h with ⟨_,z⟩|⟨_,z⟩
 ·exact z
 ·exact (zm z).2
end
structure Xok (X:Cx)(r:Fr)(αh:Ev)(q:PyData→Prop):Prop where
 ex:∃(X0:Cx) (R:St→Addr→Hp→Prop),X=X0.wish (XE X0 R)∧X0.stack=X0.env::X0.outer∧X0.ex=[]∧∀σ d S a H',M r (αh++[some (.deep d S)]) (σ++[some (.ref a)]) H'→q d→R σ a H'
theorem Xok.own {X:Cx}{r:Fr}{αh:Ev}{q:PyData→Prop}(x:Xok X r αh q):PassesOwn (model X.prog X.w) X.A X.env X.xe:=by
 obtain⟨X0,R,rfl,h1,_⟩:=x.ex
 exact zc8 h1
section
variable {F:Fr}{α αh:Ev}{σ:St}{H:Hp}
theorem M.exc {j:Nat}{q:PyData→Prop}(m:M F α σ H)(hj:α[j]?=some none):M F (α.set j (some (.exc F q))) σ H:=by
 have hs:∀{i:Nat} {c:A},(α.set j (some (.exc F q)))[i]?=some (some c)→(i=j∧c=.exc F q)∨α[i]?=some (some c):=fun {i c} e=>by
  rcases zR e with ⟨rfl,z⟩|⟨_,e'⟩
  ·cases z;exact .inl ⟨rfl,rfl⟩
  ·exact .inr e'
 have ow:∀{y:Addr},Ow F (α.set j (some (.exc F q))) σ y→Ow F α σ y:=fun {y} h=>by
  rcases h with z|⟨i,c,s,e1,e2,f⟩
  ·exact .inl z
  ·rcases hs e1 with ⟨_,rfl⟩|e1
   ·exact f.elim
   ·exact .inr ⟨i,c,s,e1,e2,f⟩
 have gs:zC (Gz F α σ H) (Gz F (α.set j (some (.exc F q))) σ H):=zv fun a o h e=>⟨fun z=>h (ow z),e⟩
 refine⟨by rw[zx7];exact m.len,fun i c s e1 e2=>?_,fun i i' c c' s s' x e1 e2 h1 h2 f1 f2=>?_,fun i r' q' e i' c s x e1 e2 f=>?_,m.tp,m.keep,m.oex⟩
 ·rcases hs e1 with ⟨_,rfl⟩|e1
  ·exact⟨rfl,fun _ z=>z,m.tp,m.keep⟩
  ·exact (m.ok i c s e1 e2).stay gs (fun x o f e=>⟨e,(m.ft e1 e2 f).1,(m.ft e1 e2 f).2.1⟩) rfl fun _ _ _ l=>l
 ·rcases hs e1 with ⟨_,rfl⟩|e1
  ·exact f1.elim
  ·rcases hs e2 with ⟨_,rfl⟩|e2
   ·exact f2.elim
   ·exact m.dj i i' c c' s s' x e1 e2 h1 h2 f1 f2
 ·rcases hs e1 with ⟨_,rfl⟩|e1
  ·exact f.elim
  ·rcases hs e with ⟨_,z⟩|e
   ·cases z;exact (m.ft e1 e2 f).2.1
   ·exact m.xd i r' q' e i' c s x e1 e2 f
theorem M.back {j:Nat}{r:Fr}{q:PyData→Prop}(m:M F α σ H)(hj:α[j]?=some (some (.exc r q)))(hl:αh.length=α.length)(le:∀(i:Nat) a,αh[i]?=some (some a)→α[i]?=some (some a)∧noX a):M r αh σ H:=by
 have l:=m.lnk hj
 have ow:∀{y:Addr},Ow r αh σ y→Ow F α σ y:=fun {y} h=>by
  rcases h with z|⟨i,c,s,e1,e2,f⟩
  ·exact .inl (l.o y z)
  ·exact .inr ⟨i,c,s,(le _ _ e1).1,e2,f⟩
 have gs:zC (Gz F α σ H) (Gz r αh σ H):=zv fun a o h e=>⟨fun z=>h (ow z),e⟩
 refine⟨hl.trans m.len,fun i c s e1 e2=>?_,fun i i' c d s s' x e1 e2=>m.dj i i' c d s s' x (le _ _ e1).1 (le _ _ e2).1,fun i r' q' e=>((le _ _ e).2:False).elim,l.ok,l.k,fun x hx=>m.oex x (l.o x hx)⟩
 refine (m.ok i c s (le _ _ e1).1 e2).stay gs (fun x o f e=>⟨e,fun z=>(m.ft (le _ _ e1).1 e2 f).1 (l.o x z),m.xd j r q hj i c s x (le _ _ e1).1 e2 f⟩) l.tp fun r' q' z=>?_
 subst z
 exact ((le _ _ e1).2:False).elim
end
def leX :Ev→Ev→Prop:=fun αh α=>αh.length=α.length∧∀(i:Nat) a,αh[i]?=some (some a)→α[i]?=some (some a)∧noX a
theorem leX.nil {n:Nat}{α:Ev}(h:n=α.length):leX (List.replicate n none) α:=⟨by rw[zH4];exact h,fun i a e=>by
 rw[zy8] at e
 split at e<;>cases e⟩
theorem leX.cons {x y:Option A}{αh α:Ev}(h:x=none∨(x=y∧∀a,x=some a→noX a))(r:leX αh α):leX (x::αh) (y::α):=⟨by rw[zu5,zu5,r.1],fun i a e=>by
 cases i with
 |zero=>
  simp at e
  rcases h with h|⟨h1,h2⟩
  ·rw[h] at e;cases e
  ·subst h1;subst e;exact⟨rfl,h2 _ rfl⟩
 |succ i=>simpa using r.2 i a (by simpa using e)⟩
theorem leX.nil' :leX [] []:=⟨rfl,fun i a e=>by simp at e⟩
theorem leX.snoc {αh α:Ev}{b:A}(h:leX αh α)(hb:noX b):leX (αh++[some b]) (α++[some b]):=⟨by rw[zv4,zv4,h.1],fun i a e=>by
 rcases sJ e with ⟨z,e⟩|⟨z,e⟩
 ·rw[zv3 (by rw[←h.1];exact z)]
  exact h.2 i a e
 ·cases e
  rw[z,h.1,zw0 (zt8 _),zC8]
  exact⟨rfl,hb⟩⟩
theorem M.backS {F:Fr}{α αh:Ev}{σ:St}{H:Hp}{j:Nat}{r:Fr}{q:PyData→Prop}{b:A}{v:V}(m:M F (α++[some b]) (σ++[some v]) H)(hj:α[j]?=some (some (.exc r q)))(le:leX αh α)(hb:noX b):M r (αh++[some b]) (σ++[some v]) H:=by
 have hj':(α++[some b])[j]?=some (some (.exc r q)):=by rw[zv3 (zt5.mp hj).1];exact hj
 exact m.back hj' (le.snoc hb).1 (le.snoc hb).2
theorem rL {r:Fr}{αh:Ev}{σ:St}{H':Hp}{d:PyData}{S:Addr→Prop}{a:Addr}(m:M r (αh++[some (.deep d S)]) (σ++[some (.ref a)]) H'):gn r (.ref a) H' (.deep d S):=by
 obtain⟨v,h1,h2,h3⟩:=m.deep αh.length d S (by rw[zw0 (zt8 _),zC8]<;>rfl)
 rw[m.len',zw0 (zt8 _),zC8] at h1
 cases h1
 exact⟨h2.same (vD (zv fun a o h e=>⟨ow0 h,e⟩) fun _ _ _ e=>e),h3⟩
def spX (φ:List A→(A→Prop)→(PyData→Prop)→Prop):Sp:=fun vs H Qc E=>∃(F:Fr) (as:List A) (Q:A→Prop) (q:PyData→Prop),F.H0=H∧zQ F H∧(∀x,F.O0 x→∃o,H x=some o∧wM o)∧ye F (sub (fun x=>¬F.O0 x) H) vs as∧φ as Q q∧(∀a v H',Q a→xO F v H' a→Qc v H')∧∀d S a H',q d→xO F (.ref a) H' (.deep d S)→E (.ref a) none H'
section
variable {P:Program}{w:World}{K:PySem.W.Frag}{mg:Str→Option Value}{base:Heap}
theorem fnX {x qual:Str}{st:Stmt}{f:Addr}{fd:FuncData}{N ps:List Str}{z:Str}{k:Nat}{φ:List A→(A→Prop)→(PyData→Prop)→Prop}(G:Fun K x qual st f fd)(S:zp (N++[z]) ps (zc st))(hpn:ps.length≤N.length)(hlen:∀as Q q,φ as Q q→as.length=ps.length)
  (hbody:∀(cdv:Value) (A':Around) (outer:List Env) (s:Shared) (H:Hp) (E:XK) (as:List A) (Q:A→Prop) (q:PyData→Prop) (r:Fr) (xe:Value→Shared→Prop),zL k (A'.deeper (envOfC qual (zc st) s.heap.objs.size f cdv))→φ as Q q→Xok ((xB (CX1 P w base) P w K mg base (N++[z]) qual (zc st) f cdv A' outer s H E).wish xe) r (List.replicate (N.length+1) none) q→
   SvS ((xB (CX1 P w base) P w K mg base (N++[z]) qual (zc st) f cdv A' outer s H E).wish xe) ((as.map some++List.replicate (N.length-as.length) none)++[some (.exc r fun _=>True)]) (zB st) {nx:=fun _=>Q (.dat .none),rt:=Q}):zD P w K mg base (CX1 P w base) (k+1) f fd ps (spX φ):=by
 refine G.okX S (fun vs H Q E h=>?_) (fun cdv A' outer s H vs Qc E hr h=>?_)
 ·obtain⟨F,as,Q',q,_,_,_,rv,hφ,_⟩:=h
  rw[rv.length,hlen as _ _ hφ]
 ·obtain⟨F,as,Q',q,e,t,o,rv,hφ,kk,kx⟩:=h
  have hl:=hlen as _ _ hφ
  have m:=M.start (N:=N++[z]) e t o rv
  have ea:as.map some++List.replicate ((N++[z]).length-as.length) none=(as.map some++List.replicate (N.length-as.length) none)++[none]:=by
   rw[zv4,zE1,show N.length+1-as.length=(N.length-as.length)+1 by omega,List.replicate_succ',List.append_assoc]
  rw[ea] at m
  have el:(as.map some++List.replicate (N.length-as.length) (none:Option A)).length=N.length:=by rw[zv4,zt1,zH4];omega
  have mx:=m.exc (j:=N.length) (q:=fun _=>True) (by rw[zw0 (by omega),el,zC8]<;>rfl)
  have es:((as.map some++List.replicate (N.length-as.length) (none:Option A))++[none]).set N.length (some (A.exc F fun _=>True))=(as.map some++List.replicate (N.length-as.length) none)++[some (.exc F fun _=>True)]:=by
   rw[zH5 _ _ (by omega),el,zC8]<;>rfl
  rw[es] at mx
  refine hbody cdv A' outer s H E as Q' q F _ hr hφ ⟨_,_,rfl,rfl,rfl,fun σ d S a H' mr qd=>kx d S a H' qd ⟨mr.tp,mr.keep,rL mr⟩⟩ F _ H _ mx ⟨fun α σ H' m q=>?_,fun a v H' r q=>kk a v H' q r,fun _ _ _ _ z=>z.elim,fun _ _ _ _ z=>z.elim⟩
  exact kk _ _ _ q ⟨m.tp,m.keep,.non⟩
end
structure nZ (P:Program)(w:World)(K:PySem.W.Frag)(mg:Str→Option Value)(base:Heap)(x:Str)(k:Nat)(φ:List A→(A→Prop)→(PyData→Prop)→Prop):Prop where
 ex:∃f fd ps,mg x=some (.ref f)∧PySem.W.keepIn K (.ref f)=true∧Binds K fd ps []∧zD P w K mg base (CX1 P w base) k f fd ps (spX φ)
def zn6 (C:Addr)(fl:Str):Sp:=fun vs H Qc _=>∃(a:Addr) (i:Int),vs=[.ref a,.int i]∧i.natAbs.log2<1920∧H a=some (xcF a C none)∧∀dx,H dx=none→dx≠a→Qc .non (upd (upd H dx (.xd [(fl,.int i)])) a (xcF a C (some dx)))
structure XMk (P:Program)(w:World)(K:PySem.W.Frag)(mg:Str→Option Value)(base:Heap)(x:Str)(k:Nat)(C:Addr)(fl:Str):Prop where
 m:mg x=some (.ref C)
 kp:PySem.W.keepIn K (.ref C)=true
 ex:∃S f fd ps,xY K C S (some (.ref f))=true∧PySem.W.typeIn K (.ref f)=some (.type "function")∧Binds K fd ps []∧zD P w K mg base CX0 k f fd ps (zn6 C fl)
section
variable {X:Cx}{α αh:Ev}{r:Fr}{q q0:PyData→Prop}{j k:Nat}{x fl:Str}{C:Addr}{e:Expr}{es:List Expr}{p pos pos':Pos}{rest:List Stmt}{E:xp}
theorem ir (xo:Xok X r αh q)(hc:X.calm=true)(ck:XMk X.prog X.w X.K X.mg X.base x k C fl)(hr:zL (k+1) X.A)(hg:Gl X x)(hj:α[j]?=some (some (.exc r q0)))(le:leX αh α)(h:EvD X α e fun d=>∃i:Int,d=.int i∧i.natAbs.log2<1920∧q (xD C [(.str fl,.int i)]))
  (hdb:(x == ("__debug__":Str))=false:=by decide) (he:starEach [e] X.env=(false,eval e X.env)::starEach [] X.env:=by rfl):SvS X α (.Raise (some (.Call (.Name x p) [e] [] pos)) none pos'::rest) E:=fun F σ H D m rr=>by
 obtain⟨X0,R,rfl,h1,h2,h3⟩:=xo.ex
 obtain⟨S,f,fd,ps,c,hf,hb,G⟩:=ck.ex
 refine⟨_,zH (cc c hc (dD (X:=X0.wish (XE X0 R)) c hf ck.kp G hr hg ck.m hb (zf zr zu he) hdb he)) zZ,?_⟩
 refine h F σ H _ m fun d v H1 q1 t1 k1 r1=>?_
 obtain⟨i,rfl,hi,qi⟩:=q1
 cases r1.int_inv
 refine⟨zv2 rfl,fun a ha=>⟨a,i,rfl,hi,zk,fun dx hd hne=>⟨rfl,a,some dx,rfl,zk,?_⟩⟩⟩
 have m1:=m.kz k1 t1
 rw[uf]
 have hd1:H1 dx=none:=by rw[zd hne] at hd;exact hd
 generalize hH3:upd (upd (upd H1 a (xcF a C none)) dx (HO.xd [(fl,.int i)])) a (xcO a C (some dx))=H3
 have sm:zC H1 H3:=fun y o e=>by
  have ya:y≠a:=fun z=>by rw[z,ha] at e;cases e
  have yd:y≠dx:=fun z=>by rw[z,hd1] at e;cases e
  rw[←hH3,zd ya,zd yd,zd ya]
  exact e
 have fa:∀y,H1 y=none→¬Ow F α σ y∧¬foot (some (.ref a)) (.deep (xD C [(.str fl,.int i)]) fun _=>False) y:=fun y hy=>⟨m1.fresh hy,fun z=>z⟩
 have m3:=m1.snoc (v:=.ref a) (b:=.deep (xD C [(.str fl,.int i)]) fun _=>False) (H':=H3) (m1.tp.same sm) (Kz.of_same sm) (fun x z=>z.elim) ⟨_,rfl,.xc (dx:=dx) (fs:=[(fl,.int i)]) (kq (zF (fa a ha) (by rw[←hH3];exact zk)) (fun z=>z) fun xs z=>by cases z) (kq (zF (fa dx hd1) (by rw[←hH3,zd hne];exact zk)) (fun z=>z) fun xs z=>by cases z) (.cons (.int i) .nil),fun x z=>z.elim⟩
 exact h3 σ _ _ a H3 (m3.backS hj le trivial) qi
theorem oj {X0:Cx}{R:St→Addr→Hp→Prop}{f:Addr}{fd:FuncData}{ps:List Str}{sp:Sp}{t:TA}(hex:X0.ex=[])(F:zD X0.prog X0.w X0.K X0.mg X0.base (CX1 X0.prog X0.w X0.base) k f fd ps sp)(hr:zL k X0.A)(hg:Gl X0 x)(hm:X0.mg x=some (.ref f))(hk:PySem.W.keepIn X0.K (.ref f)=true)(hb:Binds X0.K fd ps [])
  (ha:PA (X0.wish (XE X0 R)) (e::es) t) (hdb:(x == ("__debug__":Str))=false:=by decide) (he:starEach (e::es) X0.env=(false,eval e X0.env)::starEach es X0.env:=by rfl) (hpl:(backTo pos (starEach es X0.env)).any (·.1)=false:=by rfl):
  PE (X0.wish (XE X0 R)) (.Call (.Name x p) (e::es) [] pos) (fun σ H Q=>t σ H fun vs H1=>∃E:XK,(∀a H',E (.ref a) none H'→R σ a H')∧sp vs H1 Q E):=by
 intro pins s σ H Q I h
 refine zz9 (xK I hg hm ?_ hdb)
 refine zD3 (h₀:=X0.base) I.ok.mod.kin hk (thn (ha pos pins s σ H _ I h) fun us s1 ⟨vs,H1,I1,r,E,hE,q⟩=>⟨I1.kIn,?_⟩) he hpl
 have hl:(us++[]).length=ps.length:=by rw[zA3,←r.length];exact F.len _ _ _ _ q
 have hbb:=hb s1 us I1.kIn hl
 rw[zA3] at hbb
 refine zG5 (zE0 (F.run X0.A X0.stack s1 H1 ⟨us,[]⟩ us vs Q E hr I1.env0 hbb r q) fun r s' hq=>?_)
 cases r with
 |error e=>exact bf hex I1.unwish hq hE
 |ok fl=>
  cases fl with
  |ret u=>exact I1.after hq
  |next=>exact False.elim hq
  |brk=>exact False.elim hq
  |cont=>exact False.elim hq
variable {φ:List A→(A→Prop)→(PyData→Prop)→Prop}{Q:PyData→Prop}
theorem uY {F:Fr}{σ:St}{H:Hp}{vs:List V}{as:List A}{QA:A→Prop}{Rk:VK}{R:St→Addr→Hp→Prop}(m:M F α σ H)(hj:α[j]?=some (some (.exc r q0)))(le:leX αh α)(h3:∀σ d S a H',M r (αh++[some (.deep d S)]) (σ++[some (.ref a)]) H'→q d→R σ a H')(rv:ye F (Gz F α σ H) vs as)(hφ:φ as QA q)
  (kk:∀a v H',QA a→xO ⟨H,Ow F α σ,F.tp⟩ v H' a→Rk v H'):∃E:XK,(∀a H',E (.ref a) none H'→R σ a H')∧spX φ vs H Rk E:=by
 refine⟨fun v _ H'=>∃a,v=.ref a∧∃d S,q d∧xO ⟨H,Ow F α σ,F.tp⟩ (.ref a) H' (.deep d S),fun a H' ⟨a',e,d,S,qd,ra⟩=>?_,⟨⟨H,Ow F α σ,F.tp⟩,as,QA,q,rfl,m.tp.to rfl fun _ z=>.inl z,fun y z=>m.owEx z,ye.to (F:=F) (F':=⟨H,Ow F α σ,F.tp⟩) (fun _ _ e=>e) rfl rv,hφ,kk,fun d S a H' qd ra=>⟨a,rfl,d,S,qd,ra⟩⟩⟩
 cases e
 obtain⟨g1,g2,_⟩:=ra.back m
 obtain⟨_,_,g3,g4⟩:=ra
 have m3:=m.snoc (v:=.ref a) (b:=.deep d S) (H':=H') g1 g2 (fun x z=>(g4 x z).2.1) ⟨_,rfl,g3.same fun x o e=>?_,fun x z=>⟨ow0 (g4 x z).1,m.fresh0 (g4 x z).2.1,(g4 x z).2.2⟩⟩
 ·exact h3 σ d S a H' (m3.backS hj le trivial) qd
 ·unfold yY at e ⊢
  by_cases z:S x
  ·rw[if_pos z] at e ⊢;exact e
  ·rw[if_neg z] at e ⊢
   cases q:sub (fun x=>¬Ow F α σ x) H' x with
   |none=>rw[q] at e;cases e
   |some u=>
    obtain⟨w1,w2⟩:=zm q
    rw[zF (p:=fun x=>¬Ow F α σ x∧¬foot (some (V.ref a)) (.deep d S) x) ⟨w1,z⟩ w2]
    rw[q] at e
    exact e
theorem bw (xo:Xok X r αh q)(hj:α[j]?=some (some (.exc r q0)))(le:leX αh α)(C:nZ X.prog X.w X.K X.mg X.base x k φ)(hr:zL k X.A)(hg:Gl X x)(h:EvA X α (e::es) fun as=>φ as (fun a=>Q a.d) q)
  (hdb:(x == ("__debug__":Str))=false:=by decide) (he:starEach (e::es) X.env=(false,eval e X.env)::starEach es X.env:=by rfl) (hpl:(backTo pos (starEach es X.env)).any (·.1)=false:=by rfl):EvD X α (.Call (.Name x p) (e::es) [] pos) Q:=fun F σ H Rk m kk=>by
 obtain⟨X0,R,rfl,h1,h2,h3⟩:=xo.ex
 obtain⟨f,fd,ps,c1,c2,c3,c4⟩:=C.ex
 refine⟨_,oj h2 c4 hr hg c1 c2 c3 yv hdb he hpl,?_⟩
 refine h F σ H _ m fun as vs H1 q1 t1 k1 r1=>?_
 have m1:=m.kz k1 t1
 refine uY m1 hj le h3 r1 q1 fun a v H' qa ra=>?_
 obtain⟨g1,g2,g3⟩:=ra.back m1
 exact kk _ v H' qa g1 (k1.trans g2) g3
theorem aF {Q:List PyData→Prop}(xo:Xok X r αh q)(hj:α[j]?=some (some (.exc r q0)))(le:leX αh α)(C:nZ X.prog X.w X.K X.mg X.base x k φ)(hr:zL k X.A)(hg:Gl X x)(h:EvA X α (e::es) fun as=>φ as (fun a=>∃ds,a=.own ds∧Q ds) q)
  (hdb:(x == ("__debug__":Str))=false:=by decide) (he:starEach (e::es) X.env=(false,eval e X.env)::starEach es X.env:=by rfl) (hpl:(backTo pos (starEach es X.env)).any (·.1)=false:=by rfl):EvL X α (.Call (.Name x p) (e::es) [] pos) Q:=fun F σ H Rk m kk=>by
 obtain⟨X0,R,rfl,h1,h2,h3⟩:=xo.ex
 obtain⟨f,fd,ps,c1,c2,c3,c4⟩:=C.ex
 refine⟨_,oj h2 c4 hr hg c1 c2 c3 yv hdb he hpl,?_⟩
 refine h F σ H _ m fun as vs H1 q1 t1 k1 r1=>?_
 have m1:=m.kz k1 t1
 refine uY m1 hj le h3 r1 q1 fun a v H' qa ra=>?_
 obtain⟨ds,rfl,qd⟩:=qa
 obtain⟨g1,g2,_⟩:=ra.back m1
 obtain⟨_,_,l,xs,ds',rfl,hc,w1,w2,w3,w4⟩:=ra
 cases hc
 exact kk ds _ H' qd g1 (k1.trans g2) (yN.back m k1 t1 ⟨l,xs,rfl,w1,w3,w4⟩)
end
section
variable {P:Program}{w:World}{K:PySem.W.Frag}{mg:Str→Option Value}{base:Heap}
theorem zo7 {x qual:Str}{st:Stmt}{f:Addr}{fd:FuncData}{N ps:List Str}{z:Str}{k:Nat}{φ:List A→(A→Prop)→(PyData→Prop)→Prop}(G:Fun K x qual st f fd)(hm:mg x=some (.ref f))(hb:Binds K fd ps [])(S:zp (N++[z]) ps (zc st))(hpn:ps.length≤N.length)(hlen:∀as Q q,φ as Q q→as.length=ps.length)
  (hbody:∀(cdv:Value) (A':Around) (outer:List Env) (s:Shared) (H:Hp) (E:XK) (as:List A) (Q:A→Prop) (q:PyData→Prop) (r:Fr) (xe:Value→Shared→Prop),zL k (A'.deeper (envOfC qual (zc st) s.heap.objs.size f cdv))→φ as Q q→Xok ((xB (CX1 P w base) P w K mg base (N++[z]) qual (zc st) f cdv A' outer s H E).wish xe) r (List.replicate (N.length+1) none) q→
   SvS ((xB (CX1 P w base) P w K mg base (N++[z]) qual (zc st) f cdv A' outer s H E).wish xe) ((as.map some++List.replicate (N.length-as.length) none)++[some (.exc r fun _=>True)]) (zB st) {nx:=fun _=>Q (.dat .none),rt:=Q}):nZ P w K mg base x (k+1) φ:=
 ⟨f,fd,ps,hm,G.kp,hb,fnX G S hpn hlen hbody⟩
end
section
variable {X:Cx}{α αh:Ev}{q:PyData→Prop}{i j:Nat}{x n:Str}{B:Addr}{body suite rest:List Stmt}{b0:Stmt}{np hpos pos:Pos}{E:xp}
theorem mi {K:PySem.W.Frag}{r:Fr}{αh:Ev}(hq:∀d,q d→∃C,isX C d∧XB K C B):lS K B (fun σ a H=>∃d S,M r (αh++[some (.deep d S)]) (σ++[some (.ref a)]) H∧q d):=fun σ a H ⟨d,S,m,qd⟩=>by
 obtain⟨C,x,b⟩:=hq d qd
 obtain⟨av,_⟩:=rL m
 obtain⟨a',dx,e,h1,h2⟩:=x.at av
 cases e
 exact⟨C,dx,dW h1,fun y e=>by obtain⟨fs,h⟩:=h2 y e;exact⟨fs,dW h⟩,b⟩
theorem qF {β:Ev}{j:Nat}{a:A}{i:Nat}(e:(β.set j none)[i]?=some (some a)):β[i]?=some (some a):=by
 rcases zR e with ⟨_,z⟩|⟨_,z⟩
 ·cases z
 ·exact z
theorem M.drop {F:Fr}{β:Ev}{σ:St}{H:Hp}{j:Nat}(m:M F β σ H):M F (β.set j none) σ H:=m.forget (by rw[zx7]) fun i a e=>qF e
theorem iV (j:Nat)(αh:Ev)(q:PyData→Prop)(hst:X.stack=X.env::X.outer)(hex:X.ex=[])(hj:α[j]?=some none)(le:leX αh α)(hg:Gl X x)(hm:X.mg x=some (.ref B))(hq:∀d,q d→∃C,isX C d∧XB X.K C B)
  (h1:∀(pins:List (Addr×Obj)) (xe:Value→Shared→Prop) (r:Fr),Xok ((X.held pins).wish xe) r αh q→SvS ((X.held pins).wish xe) (α.set j (some (.exc r fun _=>True))) body {nx:=fun α'=>SvS X (α'.set j none) rest E,rt:=E.rt,bk:=fun α'=>E.bk (α'.set j none),ct:=fun α'=>E.ct (α'.set j none)})
  (h2:∀(pins:List (Addr×Obj)) (a:Addr) d,q d→SvS ((X.held pins).suite a) αh (b0::suite) {nx:=fun α'=>SvS X α' rest E,rt:=E.rt,bk:=E.bk,ct:=E.ct})
  (hdb:(x == ("__debug__":Str))=false:=by decide):
  SvS X α (.Try body [.ExceptHandler (some (.Name x np)) none (b0::suite) hpos] [] [] pos::rest) E:=fun F σ H D m rr=>by
 refine⟨_,zH (zb9 (R:=fun σ a H=>∃d S,M F (αh++[some (.deep d S)]) (σ++[some (.ref a)]) H∧q d) hst hg hm (mi hq) hdb) zZ,fun pins=>?_,fun pins a σ' H' hR=>?_⟩
 ·refine h1 pins _ F ⟨_,_,rfl,hst,hex,fun σ d S a H' mr qd=>⟨d,S,mr,qd⟩⟩ F σ H _ (m.exc hj) ⟨fun α' σ' H' m' z=>?_,rr.rt,fun α' σ' H' m' z=>rr.bk _ _ _ m'.drop z,fun α' σ' H' m' z=>rr.ct _ _ _ m'.drop z⟩
  exact z F σ' H' D m'.drop rr
 ·obtain⟨d,S,mr,qd⟩:=hR
  refine h2 pins a d qd F _ H' _ mr.init ⟨fun α' σ' H' m' z=>?_,rr.rt,rr.bk,rr.ct⟩
  exact z F _ H' D m' rr
end
section
variable {X:Cx}{α:Ev}{p p1 pos:Pos}{a:Expr}{Q:PyData→Prop}{C S:Addr}{init:Option Value}
end
section
variable {X:Cx}{α:Ev}{pos:Pos}{o:Expr}{f:Str}{Q:PyData→Prop}{C S:Addr}{init:Option Value}
end
section
variable {P:Program}{w:World}{K:PySem.W.Frag}{mg:Str→Option Value}{base:Heap}
theorem dA {st:Stmt}{f C S:Addr}{fd:FuncData}{qual n fl a b:Str}{init:Option Value}{j1 j2:Nat}{p1 p2 p3 p4 p5 p6 p7 p8 p9 p10 p11 p12 p13 p14:Pos}(G:Fun K "__init__" qual st f fd)(S':zp ["self",n] ["self",n] (zc st))
  (hb:zB st=[.Expr (.Call (.Attribute (.Name "StayError" p1) "__init__" p2) [.Name "self" p3,.JoinedStr [.Constant (.str a) j1 p4,.FormattedValue (.Name n p5) (-1) none p6,.Constant (.str b) j2 p7] p8] [] p9) p10,.Assign [.Attribute (.Name "self" p11) fl p12] (.Name n p13) p14])
  (hg:(zc st).names.lookup ("StayError":Str)=some .globalImplicit) (hm:mg "StayError"=some (.ref S)) (xs:XS K S) (xc:XC K C S init) (hn:PySem.W.findIn K (.ref C) fl=some none) (la:a.length≤10000) (lb:b.length≤10000)
  {pl:Env→Sem Bool} (ht:∀env:Env,eval (.Call (.Attribute (.Name "StayError" p1) "__init__" p2) [.Name "self" p3,.JoinedStr [.Constant (.str a) j1 p4,.FormattedValue (.Name n p5) (-1) none p6,.Constant (.str b) j2 p7] p8] [] p9) env=(do
   let ov ←eval (.Name "StayError" p1) env
   standAt p2.atName
   let (f,first) ←holding [ov] (getMethod ov "__init__" (pl env))
   callWith p9 f first (backTo p9 (starEach [.Name "self" p3,.JoinedStr [.Constant (.str a) j1 p4,.FormattedValue (.Name n p5) (-1) none p6,.Constant (.str b) j2 p7] p8] env)) (backToKw p9 (keywordEach [] env))))
  (v0:Vis (zc st) "self") (v1:Vis (zc st) n) (hd:(n == ("__debug__":Str))=false:=by decide) (hcd:(n == ("__classdict__":Str))=false:=by decide):zD P w K mg base CX0 1 f fd ["self",n] (zn6 C fl):=by
 refine G.ok S' (fun vs H Q E h=>?_) (fun cdv A outer s H vs Q E hr h=>?_)
 ·obtain⟨a,i,rfl,_⟩:=h
  rfl
 ·obtain⟨a',i,rfl,hi,ha,k⟩:=h
  rw[hb]
  refine⟨_,zH (tH (di (C:=C) (init:=init) hg hm xs xc.ok (zf (yy (i:=0) rfl v0) (zf (fk yf (zh7 (yy (i:=1) rfl v1 hd hcd)) yf) zu)) (ht:=ht _))) (zA (cX (yy (i:=0) rfl v0) (yy (i:=1) rfl v1 hd hcd) xc hn)),?_⟩
  refine⟨_,rfl,a,rfl,la,_,rfl,i,rfl,hi,_,rfl,cG hi,b,rfl,lb,a',_,none,rfl,zv2 rfl,ha,?_⟩
  exact⟨_,rfl,_,rfl,a',rfl,ha,fun dx h1 h2=>k dx h1 h2⟩
end
section
variable {X:Cx}{α αh:Ev}{r:Fr}{q q0:PyData→Prop}{j k:Nat}{x fl:Str}{C:Addr}{e:Expr}{es:List Expr}{p pos pos':Pos}{rest:List Stmt}{E:xp}
end
section
variable {P:Program}{w:World}{K:PySem.W.Frag}{mg:Str→Option Value}{base:Heap}
end
def mj (K:Frag)(C S:Addr)(init:Option Value):Bool:=xY K C S init&&findIn K (.ref C) "__setattr__" == some (some (.builtin "object.__setattr__"))&&findIn K (.ref C) "__getattribute__" == some (some (.builtin "BaseException.__getattribute__"))&&findIn K (.ref C) "__getattr__" == some none&&findIn K (.ref C) "__class__" == some (some (.builtin "object.__class__"))&&specialIn K (.builtin "object.__class__") "__get__" == some (some (.builtin "getset_descriptor.__get__"))&&takesIn K (.builtin "object.__class__")==some true
theorem XC.of {K:Frag}{C S:Addr}{init:Option Value}(h:mj K C S init=true):XC K C S init:=by
 simp only[mj,zv1,zC2] at h
 obtain⟨⟨⟨⟨⟨⟨h1,h2⟩,h3⟩,h4⟩,h5⟩,h6⟩,h7⟩:=h
 exact⟨h1,h2,h3,h4,h5,h6,h7⟩
def dC (K:Frag)(S:Addr):Bool:=readsIn K S (.type "type")&&(match findCls K (.ref S) (.type "type") "__init__" with|some (.val v)=>v == .builtin "ValueError.__init__"|_=>false)&&specialIn K (.ref S) "__getattribute__" == some (some (.builtin "type.__getattribute__"))
theorem XS.of {K:Frag}{S:Addr}(h:dC K S=true):XS K S:=by
 simp only[dC,zv1,zC2] at h
 obtain⟨⟨h1,h2⟩,h3⟩:=h
 refine⟨h1,?_,h3⟩
 split at h2
 ·rename_i v e
  rw[e,zC2.mp h2]
 ·cases h2
def gf (K:Frag)(C B:Addr):Bool:=typeIn K (.ref B)==some (.type "type")&&mroIn K B (.type "BaseException")==some true&&mroIn K C (.ref B)==some true
theorem XB.of {K:Frag}{C B:Addr}(h:gf K C B=true):XB K C B:=by
 simp only[gf,zv1,zC2] at h
 exact⟨h.1.1,h.1.2,h.2⟩
open PySem (IsZip)
theorem nn {a b:Nat}(h:a<b∨b<a:=by omega):@Ne Addr a b:=zx a b h
section
variable {prog:Program}{w:World}{A:Around}{E:Value→Shared→Prop}{s:Shared}{n l0 l1 l2:Nat}{k:Nat}
abbrev zin (n:Nat):List Addr:=[(n:Nat),(n+1:Nat),(n+2:Nat),(n+3:Nat),(n+4:Nat)]
structure Zin (h:Heap)(n l1 l2:Nat)(k:Nat):Prop where
 z:∃f0 f1,h.get? (n+4:Nat)=some (zO f0 f1 (n+2:Nat) (n+3:Nat))∧(f0=.none∨∃T:Nat,f0=rawInt (T:Nat))
 ti:IsPair h (n+2:Nat) (.ref (n:Nat)) (.ref (n+1:Nat))
 to:∃a b,IsPair h (n+3:Nat) a b
 i1:h.IsListIter (n:Nat) (l1:Nat) k
 i2:h.IsListIter (n+1:Nat) (l2:Nat) k
theorem Zin.keep {h h':Heap}(Z:Zin h n l1 l2 k)(q:∀c∈zin n,∀o,h.get? c=some o→h'.get? c=some o):Zin h' n l1 l2 k:=by
 obtain⟨⟨f0,f1,z,hf⟩,ti,⟨a,b,to⟩,i1,i2⟩:=Z
 exact⟨⟨f0,f1,q _ (by simp) _ z,hf⟩,q _ (by simp) _ ti,⟨a,b,q _ (by simp) _ to⟩,i1.at fun o e=>q _ (by simp) o e,i2.at fun o e=>q _ (by simp) o e⟩
theorem gr {Q:Bool→Shared→Prop}(Z:Zin s.heap n l1 l2 k)
  (hQ:∀h' b,Zin h' n l1 l2 k→h'.objs.size=s.heap.objs.size→(∀c o,c≠(n+4:Nat)→s.heap.get? c=some o→h'.get? c=some o)→Q b {s with heap:=h'}):
  wpAny (model prog w) A (Builtin.SmallTypes.ownedTupleIsFree (.ref (n+4:Nat))) Q E s:=by
 obtain⟨⟨f0,f1,hz0,hf⟩,hTI,⟨a,b,hTO⟩,g1,g2⟩:=id Z
 unfold Builtin.SmallTypes.ownedTupleIsFree
 rcases hf with rfl|⟨T,rfl⟩
 ·exact zs9 (zv7 hz0 rfl (x:=.none) rfl (zt2 (hQ s.heap true Z rfl fun _ _ _ e=>e)))
 ·refine zs9 (zv7 hz0 rfl (x:=rawInt (T:Nat)) rfl ?_)
  show wpAny _ _ (loadIfAlive ((T:Int).toNat) >>= _) _ _ _
  refine zs9 (uV ?_)
  rw[show ((T:Int).toNat)=T from zG8 T]
  cases hT:s.heap.get? T with
  |none=>exact zt2 (hQ s.heap true Z rfl fun _ _ _ e=>e)
  |some ot=>
   show wpAny _ _ (field (.ref (n+4:Nat)) 1 >>= _) _ _ _
   refine zs9 (zv7 hz0 rfl (x:=f1) rfl ?_)
   refine wpAny_ite_split (fun _=>?_) (fun _=>?_)
   ·refine zs9 (zw8 hz0 (by simp) fun h₁ hz₁ hs₁=>zt2 ?_)
    replace hz₁:h₁.get? (n+4:Nat)=some (zO (rawInt (T:Nat)) (.bool true) (n+2:Nat) (n+3:Nat)):=hz₁
    exact hQ h₁ _ ⟨⟨_,_,hz₁,.inr ⟨T,rfl⟩⟩,hs₁.extBut _ _ nn hTI,⟨a,b,hs₁.extBut _ _ nn hTO⟩,g1.extBut hs₁.extBut nn,g2.extBut hs₁.extBut nn⟩ hs₁.1 fun c o hc e=>hs₁.extBut _ _ hc e
   ·exact zt2 (hQ s.heap false Z rfl fun _ _ _ e=>e)
theorem eO {x y:Value}{xs ys:Array Value}{Q:Value→Shared→Prop}(h1:l1<n)(h2:l2<n)(Z:Zin s.heap n l1 l2 k)
  (hl1:s.heap.IsList (l1:Nat) xs) (hl2:s.heap.IsList (l2:Nat) ys) (hx:xs[k]?=some x) (hy:ys[k]?=some y)
  (hQ:∀h',Zin h' n l1 l2 (k+1)→IsPair h' s.heap.objs.size x y→h'.objs.size=s.heap.objs.size+1→
   (∀c o,c∉zin n→s.heap.get? c=some o→h'.get? c=some o)→Q (.ref s.heap.objs.size) {s with heap:=h'}):
  wpAny (model prog w) A (Builtin.«zip.__next__» ⟨[.ref (n+4:Nat)],[]⟩) (fun fin s'=>∃v,fin=.done (.ret v)∧Q v s') E s:=by
 obtain⟨f0,f1,hz0,hf⟩:=Z.z
 show wpAny _ _ (field (.ref _) 2 >>= _) _ _ _
 refine zs9 (zv7 hz0 rfl (x:=.bool false) rfl ?_)
 show wpAny _ _ (field (.ref _) 3 >>= _) _ _ _
 refine zs9 (zv7 hz0 rfl (x:=.ref (n+2:Nat)) rfl ?_)
 refine zs9 (zw7 Z.ti rfl ?_)
 show wpAny _ _ (Builtin.SmallTypes.ownedTupleIsFree (.ref (n+4:Nat)) >>= _) _ _ _
 refine zs9 (gr Z fun hB b ZB szB kB=>?_)
 clear hz0 hf f0 f1
 obtain⟨⟨f0,f1,hz0,hf⟩,hTI,⟨a,b',hTO⟩,g1,g2⟩:=id ZB
 replace hl1:hB.IsList (l1:Nat) xs:=hl1.at fun o e=>kB _ o nn e
 replace hl2:hB.IsList (l2:Nat) ys:=hl2.at fun o e=>kB _ o nn e
 cases b with
 |true=>
  simp only[zF2]
  refine zs9 (zI0 ?_)
  refine zs9 (zv7 hz0 rfl (x:=.ref (n+3:Nat)) rfl ?_)
  refine zs9 (zw8 hz0 (by simp) fun h₁ hz₁ hs₁=>?_)
  replace hz₁:h₁.get? (n+4:Nat)=some (zO .ellipsis f1 (n+2:Nat) (n+3:Nat)):=hz₁
  refine zs9 ?_
  simp only[zH3,zI2,zz0,zA7]
  refine zs9 (zs9 (zB6 ?_))
  show wpAny _ _ (Builtin.SmallTypes.nextOf (.ref (n:Nat)) >>= _) _ _ _
  refine zs9 (zw5 (g1.extBut hs₁.extBut nn) (hl1.extBut hs₁.extBut nn) hx fun h₂ g1₂ hs₂=>zt2 ?_)
  have hTO₂:IsPair h₂ (n+3:Nat) a b':=hs₂.extBut _ _ nn (hs₁.extBut _ _ nn hTO)
  refine zs9 (zw7 hTO₂ rfl ?_)
  refine zs9 (zE9 hTO₂ fun h₃ hTO₃ hs₃=>?_)
  replace hTO₃:IsPair h₃ (n+3:Nat) x b':=hTO₃
  refine zs9 (zC4 (zt2 ?_))
  refine zs9 (zs9 (zB6 ?_))
  show wpAny _ _ (Builtin.SmallTypes.nextOf (.ref (n+1:Nat)) >>= _) _ _ _
  refine zs9 (zw5 (((g2.extBut hs₁.extBut nn).extBut hs₂.extBut nn).extBut hs₃.extBut nn) (((hl2.extBut hs₁.extBut nn).extBut hs₂.extBut nn).extBut hs₃.extBut nn) hy fun h₄ g2₄ hs₄=>zt2 ?_)
  have hTO₄:IsPair h₄ (n+3:Nat) x b':=hs₄.extBut _ _ nn hTO₃
  refine zs9 (zw7 hTO₄ rfl ?_)
  refine zs9 (zE9 hTO₄ fun h₅ hTO₅ hs₅=>?_)
  replace hTO₅:IsPair h₅ (n+3:Nat) x y:=hTO₅
  refine zs9 (zC4 (zt2 (zt2 ?_)))
  refine zs9 (zw7 hTO₅ rfl ?_)
  refine zs9 (zE3 ?_)
  have hsz:h₅.objs.size=s.heap.objs.size:=by rw[hs₅.1,hs₄.1,hs₃.1,hs₂.1,hs₁.1];exact szB
  have up5:∀c o,c∉zin n→s.heap.get? c=some o→h₅.get? c=some o:=fun c o hc e=>by
   simp only[zin,zt4,zt9,zv5,not_or] at hc
   obtain⟨c0,c1,c2,c3,c4⟩:=hc
   exact hs₅.extBut _ _ c3 (hs₄.extBut _ _ c1 (hs₃.extBut _ _ c3 (hs₂.extBut _ _ c0 (hs₁.extBut _ _ c4 (kB _ _ c4 e)))))
  have hz₅:h₅.get? (n+4:Nat)=some (zO .ellipsis f1 (n+2:Nat) (n+3:Nat)):=hs₅.extBut _ _ nn (hs₄.extBut _ _ nn (hs₃.extBut _ _ nn (hs₂.extBut _ _ nn hz₁)))
  have g1₅:h₅.IsListIter (n:Nat) (l1:Nat) (k+1):=((g1₂.extBut hs₃.extBut nn).extBut hs₄.extBut nn).extBut hs₅.extBut nn
  have g2₅:h₅.IsListIter (n+1:Nat) (l2:Nat) (k+1):=g2₄.extBut hs₅.extBut nn
  have hTI₅:IsPair h₅ (n+2:Nat) (.ref (n:Nat)) (.ref (n+1:Nat)):=hs₅.extBut _ _ nn (hs₄.extBut _ _ nn (hs₃.extBut _ _ nn (hs₂.extBut _ _ nn (hs₁.extBut _ _ nn hTI))))
  have hzlt:(n+4:Nat)<h₅.objs.size:=zt6 hz₅
  show wpAny _ _ (Builtin.SmallTypes.ownedTupleHandOut (.ref (n+4:Nat)) (.ref h₅.objs.size) >>= _) _ _ _
  refine zs9 ?_
  unfold Builtin.SmallTypes.ownedTupleHandOut
  have hz₆:(h₅.push {cls:=.type "tuple",data:=.seq #[x,y]}).get? (n+4:Nat)=some (zO .ellipsis f1 (n+2:Nat) (n+3:Nat)):=zt0 _ hz₅
  refine zs9 (zw8 hz₆ (by simp) fun h₇ hz₇ hs₇=>?_)
  replace hz₇:h₇.get? (n+4:Nat)=some (zO (rawInt h₅.objs.size) f1 (n+2:Nat) (n+3:Nat)):=hz₇
  refine zw8 hz₇ (by simp) fun h₈ hz₈ hs₈=>?_
  replace hz₈:h₈.get? (n+4:Nat)=some (zO (rawInt h₅.objs.size) (.bool false) (n+2:Nat) (n+3:Nat)):=hz₈
  have up:∀c o,c≠(n+4:Nat)→h₅.get? c=some o→h₈.get? c=some o:=fun c o c1 e=>hs₈.extBut _ _ c1 (hs₇.extBut _ _ c1 (zt0 _ e))
  have hT₈:IsPair h₈ h₅.objs.size x y:=hs₈.extBut _ _ (zz4 hzlt) (hs₇.extBut _ _ (zz4 hzlt) (zu0 _ rfl))
  have hz8:h₈.objs.size=h₅.objs.size+1:=by rw[hs₈.1,hs₇.1,zx5]
  rw[hsz] at hT₈ hz8
  refine zt2 ⟨_,rfl,?_⟩
  show Q (.ref h₅.objs.size) _
  rw[hsz]
  refine hQ h₈ ⟨⟨_,_,hz₈,.inr ⟨_,rfl⟩⟩,up _ _ nn hTI₅,⟨x,y,up _ _ nn hTO₅⟩,g1₅.at fun o e=>up _ o nn e,g2₅.at fun o e=>up _ o nn e⟩ hT₈ hz8 fun c o hc e=>up c o (fun z=>hc (by simp[z])) (up5 c o hc e)
 |false=>
  simp only[zA0,zG2]
  rw[zG3]
  simp only[zz0,zA7]
  refine zs9 (zs9 (zs9 (zy1 ?_)))
  show wpAny _ _ (Builtin.SmallTypes.nextOf (.ref (n:Nat)) >>= _) _ _ _
  refine zs9 (zw5 g1 hl1 hx fun h₂ g1₂ hs₂=>zt2 (zt2 ?_))
  refine zs9 (zs9 (zy1 ?_))
  show wpAny _ _ (Builtin.SmallTypes.nextOf (.ref (n+1:Nat)) >>= _) _ _ _
  refine zs9 (zw5 (g2.extBut hs₂.extBut nn) (hl2.extBut hs₂.extBut nn) hy fun h₄ g2₄ hs₄=>zt2 (zt2 (zt2 ?_)))
  refine zs9 (zE3 ?_ (by show 2≤sizeLine;decide))
  have hsz:h₄.objs.size=s.heap.objs.size:=by rw[hs₄.1,hs₂.1];exact szB
  have up4:∀c o,c≠(n:Nat)→c≠(n+1:Nat)→hB.get? c=some o→h₄.get? c=some o:=fun c o c1 c2 e=>hs₄.extBut _ _ c2 (hs₂.extBut _ _ c1 e)
  have up:∀c o,h₄.get? c=some o→(h₄.push {cls:=.type "tuple",data:=.seq #[x,y]}).get? c=some o:=fun c o e=>zt0 _ e
  refine zt2 ⟨_,rfl,?_⟩
  show Q (.ref h₄.objs.size) _
  rw[hsz]
  refine hQ _ ⟨⟨f0,f1,up _ _ (up4 _ _ nn nn hz0),hf⟩,up _ _ (up4 _ _ nn nn hTI),⟨a,b',up _ _ (up4 _ _ nn nn hTO)⟩,(g1₂.extBut hs₄.extBut nn).at fun o e=>up _ o e,g2₄.at fun o e=>up _ o e⟩ ?_ ?_ fun c o hc e=>?_
  ·rw[←hsz];exact zu0 _ rfl
  ·rw[zx5,hsz]
  ·simp only[zin,zt4,zt9,zv5,not_or] at hc
   exact up c o (up4 c o hc.1 hc.2.1 (kB c o hc.2.2.2.2 e))
theorem gg {x y:Value}{xs ys:Array Value}{Q:Value→Shared→Prop}(h1:l1<n)(h2:l2<n)(Z:Zin s.heap n l1 l2 k)
  (hl1:s.heap.IsList (l1:Nat) xs) (hl2:s.heap.IsList (l2:Nat) ys) (hx:xs[k]?=some x) (hy:ys[k]?=some y)
  (hQ:∀h',Zin h' n l1 l2 (k+1)→IsPair h' s.heap.objs.size x y→h'.objs.size=s.heap.objs.size+1→
   (∀c o,c∉zin n→s.heap.get? c=some o→h'.get? c=some o)→Q (.ref s.heap.objs.size) {s with heap:=h'}):
  wpAny (model prog w) A (Builtin.SmallTypes.nextOf (.ref (n+4:Nat))) Q E s:=by
 obtain⟨f0,f1,hz0,hf⟩:=Z.z
 have hT:s.TypeIs (.ref (n+4:Nat)) "zip":=⟨_,hz0,rfl⟩
 unfold Builtin.SmallTypes.nextOf
 exact zs9 (zy9 (name:=Str.ofString "__next__") hT zD6 (zA8 zD6 hT F.entry_zip_next
  (eO h1 h2 Z hl1 hl2 hx hy fun h' a1 a2 a3 a4=>zt2 (hQ h' a1 a2 a3 a4)) (F.args_zip_next_1 _)))
abbrev zz (n:Nat):List Addr:=[(n:Nat),(n+1:Nat),(n+2:Nat),(n+3:Nat),(n+4:Nat),(n+5:Nat),(n+6:Nat),(n+7:Nat),(n+8:Nat)]
structure ZZ (h:Heap)(n l0 l1 l2:Nat)(k:Nat)(f0:Value):Prop where
 inn:Zin h n l1 l2 k
 i0:h.IsListIter (n+5:Nat) (l0:Nat) k
 ti:IsPair h (n+6:Nat) (.ref (n+5:Nat)) (.ref (n+4:Nat))
 to:∃a b,IsPair h (n+7:Nat) a b
 z:IsZip h (n+8:Nat) (n+6:Nat) (n+7:Nat) f0
theorem ZZ.keep {h h':Heap}{f0:Value}(Z:ZZ h n l0 l1 l2 k f0)(q:∀c∈zz n,∀o,h.get? c=some o→h'.get? c=some o):ZZ h' n l0 l1 l2 k f0:=by
 obtain⟨inn,i0,ti,⟨a,b,to⟩,z⟩:=Z
 exact⟨inn.keep fun c hc=>q c (by
  simp only[zin,zt4,zt9,zv5] at hc
  rcases hc with rfl|rfl|rfl|rfl|rfl<;>simp),i0.at fun o e=>q _ (by simp) o e,q _ (by simp) _ ti,⟨a,b,q _ (by simp) _ to⟩,q _ (by simp) _ z⟩
theorem qW {c:Addr}{m:Nat}(h:n+5≤m:=by omega)(e:c=m:=by rfl):c∉zin n:=fun hc=>by
 rw[e] at hc
 simp only[zin,zt4,zt9,zv5] at hc
 rcases hc with z|z|z|z|z
 ·exact nn (a:=m) (b:=n) (by omega) z
 ·exact nn (a:=m) (b:=n+1) (by omega) z
 ·exact nn (a:=m) (b:=n+2) (by omega) z
 ·exact nn (a:=m) (b:=n+3) (by omega) z
 ·exact nn (a:=m) (b:=n+4) (by omega) z
theorem bp {x0 x y:Value}{ws xs ys:Array Value}{Q:Value→Shared→Prop}(h0:l0<n)(h1:l1<n)(h2:l2<n)(Z:ZZ s.heap n l0 l1 l2 k .none)
  (hl0:s.heap.IsList (l0:Nat) ws) (hl1:s.heap.IsList (l1:Nat) xs) (hl2:s.heap.IsList (l2:Nat) ys) (hw:ws[k]?=some x0) (hx:xs[k]?=some x) (hy:ys[k]?=some y)
  (hQ:∀h',ZZ h' n l0 l1 l2 (k+1) (rawInt (s.heap.objs.size+1:Nat))→IsPair h' s.heap.objs.size x y→IsPair h' (s.heap.objs.size+1:Nat) x0 (.ref s.heap.objs.size)→h'.objs.size=s.heap.objs.size+2→
   (∀c o,c∉zz n→s.heap.get? c=some o→h'.get? c=some o)→Q (.ref (s.heap.objs.size+1:Nat)) {s with heap:=h'}):
  wpAny (model prog w) A (Builtin.«zip.__next__» ⟨[.ref (n+8:Nat)],[]⟩) (fun fin s'=>∃v,fin=.done (.ret v)∧Q v s') E s:=by
 obtain⟨Zi,i0,hTI,⟨a,b,hTO⟩,hz⟩:=Z
 refine (show wpAny _ _ (field (.ref (n+8:Nat)) 2 >>= _) _ _ _ from zs9 (zv7 hz rfl (x:=.bool false) rfl (show wpAny _ _ (field (.ref (n+8:Nat)) 3 >>= _) _ _ _ from zs9 (zv7 hz rfl (x:=.ref (n+6:Nat)) rfl (zs9 (zw7 hTI rfl (show wpAny _ _ (Builtin.SmallTypes.ownedTupleIsFree (.ref (n+8:Nat)) >>= _) _ _ _ from zs9 ?_)))))))
 unfold Builtin.SmallTypes.ownedTupleIsFree
 refine zs9 (zv7 hz rfl (x:=.none) rfl (zt2 ?_));simp only[zF2]
 refine zs9 (zI0 (zs9 (zv7 hz rfl (x:=.ref (n+7:Nat)) rfl (zs9 (zw8 hz (by simp) fun g1 (z1:IsZip g1 (n+8:Nat) (n+6:Nat) (n+7:Nat) .ellipsis) e1=>zs9 ?_)))))
 simp only[zH3,zI2,zz0,zA7]
 refine zs9 (zs9 (zB6 (show wpAny _ _ (Builtin.SmallTypes.nextOf (.ref (n+5:Nat)) >>= _) _ _ _ from zs9 (zw5 (i0.extBut e1.extBut nn) (hl0.extBut e1.extBut nn) hw fun g2 i02 e2=>zt2 ?_))))
 have t2:IsPair g2 (n+7:Nat) a b:=e2.extBut _ _ nn (e1.extBut _ _ nn hTO)
 refine zs9 (zw7 t2 rfl (zs9 (zE9 t2 fun g3 (t3:IsPair g3 (n+7:Nat) x0 b) e3=>zs9 (zC4 (zt2 ?_)))))
 have kin:∀c∈zin n,∀o,s.heap.get? c=some o→g3.get? c=some o:=fun c hc o e=>by
  have q:c≠(n+8:Nat)∧c≠(n+5:Nat)∧c≠(n+7:Nat):=by
   simp only[zin,zt4,zt9,zv5] at hc
   rcases hc with rfl|rfl|rfl|rfl|rfl<;>exact⟨nn,nn,nn⟩
  exact e3.extBut _ _ q.2.2 (e2.extBut _ _ q.2.1 (e1.extBut _ _ q.1 e))
 have sz3:g3.objs.size=s.heap.objs.size:=by rw[e3.1,e2.1,e1.1]
 refine zs9 (zs9 (zB6 (show wpAny _ _ (Builtin.SmallTypes.nextOf (.ref (n+4:Nat)) >>= _) _ _ _ from zs9 (gg (s:={s with heap:=g3}) h1 h2 (Zi.keep kin) (((hl1.extBut e1.extBut nn).extBut e2.extBut nn).extBut e3.extBut nn) (((hl2.extBut e1.extBut nn).extBut e2.extBut nn).extBut e3.extBut nn) hx hy fun g4 Z4 p4 sz4 k4=>zt2 ?_))))
 have sz4':g4.objs.size=s.heap.objs.size+1:=sz4.trans (by show g3.objs.size+1=_;rw[sz3])
 have p4':IsPair g4 s.heap.objs.size x y:=by rw[←sz3];exact p4
 have k4':∀c o,c∉zin n→g3.get? c=some o→g4.get? c=some o:=k4
 have t4:IsPair g4 (n+7:Nat) x0 b:=k4' _ _ (qW (m:=n+7)) t3
 refine zs9 (zw7 t4 rfl (zs9 (zE9 t4 fun g5 (t5:IsPair g5 (n+7:Nat) x0 (.ref g3.objs.size)) e5=>zs9 (zC4 (zt2 (zt2 ?_))))))
 refine zs9 (zw7 t5 rfl (zs9 (zE3 ?_)))
 rw[sz3] at t5
 have sz:g5.objs.size=s.heap.objs.size+1:=by rw[e5.1];exact sz4'
 have z5:IsZip g5 (n+8:Nat) (n+6:Nat) (n+7:Nat) .ellipsis:=e5.extBut _ _ nn (k4' _ _ (qW (m:=n+8)) (e3.extBut _ _ nn (e2.extBut _ _ nn z1)))
 have lt7:(n+7:Nat)<s.heap.objs.size:=zt6 hTO
 have lt8:(n+8:Nat)<s.heap.objs.size:=zt6 hz
 have p5:IsPair g5 s.heap.objs.size x y:=e5.extBut _ _ (nn (a:=s.heap.objs.size) (b:=n+7) (Or.inr lt7)) p4'
 have kp:∀c o,c∉zz n→s.heap.get? c=some o→g5.get? c=some o:=fun c o hc e=>by
  simp only[zz,zt4,zt9,zv5,not_or] at hc
  obtain⟨c0,c1,c2,c3,c4,c5,c6,c7,c8⟩:=hc
  exact e5.extBut _ _ c7 (k4' _ _ (by simp only[zin,zt4,zt9,zv5,not_or];exact⟨c0,c1,c2,c3,c4⟩) (e3.extBut _ _ c7 (e2.extBut _ _ c5 (e1.extBut _ _ c8 e))))
 have i05:g5.IsListIter (n+5:Nat) (l0:Nat) (k+1):=((i02.extBut e3.extBut nn).at fun o e=>k4' _ o (qW (m:=n+5)) e).extBut e5.extBut nn
 have ti5:IsPair g5 (n+6:Nat) (.ref (n+5:Nat)) (.ref (n+4:Nat)):=e5.extBut _ _ nn (k4' _ _ (qW (m:=n+6)) (e3.extBut _ _ nn (e2.extBut _ _ nn (e1.extBut _ _ nn hTI))))
 have zi5:Zin g5 n l1 l2 (k+1):=Z4.keep fun c hc o e=>e5.extBut _ _ (by
  simp only[zin,zt4,zt9,zv5] at hc
  rcases hc with rfl|rfl|rfl|rfl|rfl<;>exact nn) e
 refine (show wpAny _ _ (Builtin.SmallTypes.ownedTupleHandOut (.ref (n+8:Nat)) (.ref g5.objs.size) >>= _) _ _ _ from zs9 ?_)
 unfold Builtin.SmallTypes.ownedTupleHandOut
 rw[sz3]
 have z6:IsZip (g5.push {cls:=.type "tuple",data:=.seq #[x0,.ref s.heap.objs.size]}) (n+8:Nat) (n+6:Nat) (n+7:Nat) .ellipsis:=zt0 _ z5
 refine zs9 (zw8 z6 (by simp) fun g7 (z7:IsZip g7 (n+8:Nat) (n+6:Nat) (n+7:Nat) (rawInt g5.objs.size)) e7=>zw8 z7 (by simp) fun g8 (z8:IsZip g8 (n+8:Nat) (n+6:Nat) (n+7:Nat) (rawInt g5.objs.size)) e8=>zt2 ⟨_,rfl,?_⟩)
 have up:∀c o,c≠(n+8:Nat)→g5.get? c=some o→g8.get? c=some o:=fun c o c1 e=>e8.extBut _ _ c1 (e7.extBut _ _ c1 (zt0 _ e))
 have hne:@Ne Addr g5.objs.size (n+8:Nat):=nn (a:=g5.objs.size) (b:=n+8) (Or.inr (by rw[sz];exact zB9 lt8))
 have t8:IsPair g8 g5.objs.size x0 (.ref s.heap.objs.size):=e8.extBut _ _ hne (e7.extBut _ _ hne (zu0 _ rfl))
 have n8:g8.objs.size=s.heap.objs.size+2:=by rw[e8.1,e7.1,zx5,sz]
 rw[sz] at z8 t8
 show Q (.ref g5.objs.size) _
 rw[sz]
 exact hQ g8 ⟨zi5.keep fun c hc o e=>up c o (by
   simp only[zin,zt4,zt9,zv5] at hc
   rcases hc with rfl|rfl|rfl|rfl|rfl<;>exact nn) e,i05.at fun o e=>up _ o nn e,up _ _ nn ti5,⟨_,_,up _ _ nn t5⟩,z8⟩ (up _ _ (nn (a:=s.heap.objs.size) (b:=n+8) (Or.inr lt8)) p5) t8 n8
  fun c o hc e=>up c o (fun z=>hc (by simp[z])) (kp c o hc e)
theorem ze4 {ws:Array Value}{Q:PySem.Fin→Shared→Prop}(hh:A.handled=none)(h0:l0<n)(Z:ZZ s.heap n l0 l1 l2 k .none)(hl0:s.heap.IsList (l0:Nat) ws)(hw:ws[k]?=none)
  (hE:∀h' e,(∀c o,c∉zz n→s.heap.get? c=some o→h'.get? c=some o)→(∃o,h'.get? e=some o∧o.cls=.type "StopIteration")→E (.ref e) {s with heap:=h'}):
  wpAny (model prog w) A (Builtin.«zip.__next__» ⟨[.ref (n+8:Nat)],[]⟩) Q E s:=by
 obtain⟨Zi,i0,hTI,⟨a,b,hTO⟩,hz⟩:=Z
 refine (show wpAny _ _ (field (.ref (n+8:Nat)) 2 >>= _) _ _ _ from zs9 (zv7 hz rfl (x:=.bool false) rfl (show wpAny _ _ (field (.ref (n+8:Nat)) 3 >>= _) _ _ _ from zs9 (zv7 hz rfl (x:=.ref (n+6:Nat)) rfl (zs9 (zw7 hTI rfl (show wpAny _ _ (Builtin.SmallTypes.ownedTupleIsFree (.ref (n+8:Nat)) >>= _) _ _ _ from zs9 ?_)))))))
 unfold Builtin.SmallTypes.ownedTupleIsFree
 refine zs9 (zv7 hz rfl (x:=.none) rfl (zt2 ?_));simp only[zF2]
 refine zs9 (zI0 (zs9 (zv7 hz rfl (x:=.ref (n+7:Nat)) rfl (zs9 (zw8 hz (by simp) fun g1 (z1:IsZip g1 (n+8:Nat) (n+6:Nat) (n+7:Nat) .ellipsis) e1=>zs9 ?_)))))
 simp only[zH3,zI2,zz0,zA7]
 refine zs9 (zs9 (zB6 (show wpAny _ _ (Builtin.SmallTypes.nextOf (.ref (n+5:Nat)) >>= _) _ _ _ from ?_)))
 refine zs9 (wpAny_nextOf_list_end hh (i0.extBut e1.extBut nn) (hl0.extBut e1.extBut nn) hw fun g2 e e2 ⟨oe,he,hc⟩=>?_)
 have z2:IsZip g2 (n+8:Nat) (n+6:Nat) (n+7:Nat) .ellipsis:=e2 _ _ nn z1
 have ne:e≠(n+8:Nat):=fun x=>by subst x;rw[z2] at he;cases he;simp at hc
 refine zw8 z2 (by simp) fun g3 _ e3=>hE g3 e (fun c o hc x=>?_) ⟨oe,e3.extBut _ _ ne he,hc⟩
 simp only[zz,zt4,zt9,zv5,not_or] at hc
 exact e3.extBut _ _ hc.2.2.2.2.2.2.2.2 (e2 _ _ hc.2.2.2.2.2.1 (e1.extBut _ _ hc.2.2.2.2.2.2.2.2 x))
end
open PySem (IsZip)
section
variable {X:Cx}{pins:List (Addr×Obj)}{σ:St}{H:Hp}{s:Shared}{h':Heap}
theorem Inv.turnLay2 {t':Nat}{ch:List Addr}{T U:Addr}{o p:HO}(I:Inv X pins σ H s)(k:∀b o,b∉ch→s.heap.get? b=some o→h'.get? b=some o)(hf:∀b∈ch,yZ X pins H b)(hT:s.heap.objs.size≤T)(hU:s.heap.objs.size≤U)(hTU:T≠U)
  (new:zY X.prog X.w (upd (upd H T o) U p) h' T o) (new2:zY X.prog X.w (upd (upd H T o) U p) h' U p):
  Inv X pins σ (upd (upd H T o) U p) {s with heap:=h',toks:=t'}:=by
 have nit:∀b u,H b=some u→b∉ch:=fun b u e z=>by rw[(hf b z).1] at e;cases e
 have hn:H T=none:=I.hok.fresh hT
 have hm:H U=none:=I.hok.fresh hU
 have lt:∀{b:Addr} {u:Obj},s.heap.get? b=some u→b≠T:=fun e=>zv0 (zu9 (zt6 e) hT)
 have lt2:∀{b:Addr} {u:Obj},s.heap.get? b=some u→b≠U:=fun e=>zv0 (zu9 (zt6 e) hU)
 have un:∀{b:Addr},b≠T→b≠U→upd (upd H T o) U p b=H b:=fun h1 h2=>by rw[zd h2,zd h1]
 have us:∀{b:Addr} {u:HO},H b=some u→upd (upd H T o) U p b=some u:=fun e=>by rw[un (zo e hn) (zo e hm)];exact e
 refine I.step (g':=s.gens) (d':=s.drawn) (ch:=ch) (fun b hb=>?_) (fun b o _ _ hc e _=>k b o hc e) (fun b o _ _ hc e _=>⟨o.slots,k b o hc e⟩) (fun b u _ e n=>by rw[un (lt e) (lt2 e)];exact n)
  (fun b o hc e=>⟨o,k b o hc e⟩) (fun b xs e=>us e) (fun b u xs e=>us e) (fun b ps e=>⟨#[],by rw[us e];simp⟩) (fun m hm=>?_) (fun b u e=>?_) I.bare
 ·obtain⟨_,f1,_,f3,f4,f5⟩:=hf b hb
  exact⟨f3,f1,f4,f5⟩
 ·obtain⟨o,es,ep,ho,r⟩:=hm
  exact⟨o,es,ep,k _ o (fun z=>(hf _ z).2.1 rfl) ho,r⟩
 ·by_cases hb:b=U
  ·subst hb;rw[zk] at e;cases e;exact new2
  ·by_cases hb':b=T
   ·subst hb';rw[zd hb,zk] at e;cases e;exact new
   ·rw[un hb' hb] at e
    refine (I.hok b u e).stay (fun c v hc q=>k c v ?_ q) (fun c q=>us q) fun c xs q=>us q
    rcases hc with z|z
    ·rw[z];exact nit b u e
    ·exact nit c _ z
end
def zn5 (K:PySem.W.Frag)(l0 l1 l2:Addr):It:=
 ⟨fun i H=>∃ws xs ys w x y,SqL K H l0 ws∧SqL K H l1 xs∧SqL K H l2 ys∧ws[i]?=some w∧xs[i]?=some x∧ys[i]?=some y,
  fun i H v H'=>∃T U w x y,v=.ref U∧T≠U∧H T=none∧H U=none∧H'=upd (upd H T (.tup [x,y])) U (.tup [w,.ref T])∧(∀ws,SqL K H l0 ws→ws[i]?=some w)∧(∀xs,SqL K H l1 xs→xs[i]?=some x)∧∀ys,SqL K H l2 ys→ys[i]?=some y,
  fun i H=>∃ws,SqL K H l0 ws∧ws.length≤i⟩
theorem cx {P:Program}{w:World}{K:PySem.W.Frag}{elts:List Expr}{kk:Nat}{pos:Pos}{n l0 l1 l2:Nat}(h0:l0<n)(h1:l1<n)(h2:l2<n):
  Turn P w K (.Tuple elts kk pos) (zn5 K l0 l1 l2) (zz n) (n+8:Nat) (fun i h=>ZZ h n l0 l1 l2 i .none) where
 mem:=by simp[zz]
 obj:=fun i h st b hb=>by
  obtain⟨⟨⟨f0,f1,z,hf⟩,ti,⟨a,b',to⟩,⟨o1,e1,_,d1⟩,⟨o2,e2,_,d2⟩⟩,⟨o3,e3,_,d3⟩,TI,⟨c,d,TO⟩,Z⟩:=st
  simp only[zz,zt4,zt9,zv5] at hb
  rcases hb with rfl|rfl|rfl|rfl|rfl|rfl|rfl|rfl|rfl
  ·exact⟨o1,e1,fun v z=>by rw[d1] at z;cases z⟩
  ·exact⟨o2,e2,fun v z=>by rw[d2] at z;cases z⟩
  ·exact⟨_,ti,fun v z=>by cases (show Data.seq _ _=Data.cell v from z)⟩
  ·exact⟨_,to,fun v z=>by cases (show Data.seq _ _=Data.cell v from z)⟩
  ·exact⟨_,z,fun v z=>by cases (show Data.fields _=Data.cell v from z)⟩
  ·exact⟨o3,e3,fun v z=>by rw[d3] at z;cases z⟩
  ·exact⟨_,TI,fun v z=>by cases (show Data.seq _ _=Data.cell v from z)⟩
  ·exact⟨_,TO,fun v z=>by cases (show Data.seq _ _=Data.cell v from z)⟩
  ·exact⟨_,Z,fun v z=>by cases (show Data.fields _=Data.cell v from z)⟩
 keep:=fun i h h' st k=>st.keep k
 item:=by
  intro X hP hw hK hc i pins s σ H E I hf st hg
  subst hP hw hK
  obtain⟨ws,xs,ys,w0,x,y,hq0,hq1,hq2,hw,hx,hy⟩:=hg
  obtain⟨its0,rv0,p0,hz0⟩:=I.list hq0
  obtain⟨its1,rv1,p1,hz1⟩:=I.list hq1
  obtain⟨its2,rv2,p2,hz2⟩:=I.list hq2
  obtain⟨t,ht,rt⟩:=rv0.get hw
  obtain⟨u,hu,ru⟩:=rv1.get hx
  obtain⟨v,hv,rv⟩:=rv2.get hy
  have hT:s.TypeIs (.ref (n+8:Nat)) "zip":=⟨_,st.z,rfl⟩
  unfold pyNext
  refine zs9 (zF1 (zy9 (name:=Str.ofString "__next__") hT zD6 (zA8 zD6 hT F.entry_zip_next
   (bp h0 h1 h2 st p0.isList p1.isList p2.isList (x0:=t) (x:=u) (y:=v) (by simpa using ht) (by simpa using hu) (by simpa using hv) fun h' a1 a2 a3 a4 hk=>zt2 ⟨_,rfl,?_⟩) (F.args_zip_next_1 _))))
  refine wpAny_letOwnedTupleGo_zip (s:={s with heap:=h'}) a1.z fun h'' b1 b2=>?_
  have zlt:(n+8:Nat)<s.heap.objs.size:=zt6 st.z
  have q1:@Ne Addr s.heap.objs.size (n+8:Nat):=nn (a:=s.heap.objs.size) (b:=n+8) (Or.inr zlt)
  have q2:@Ne Addr (s.heap.objs.size+1:Nat) (n+8:Nat):=nn (a:=s.heap.objs.size+1) (b:=n+8) (Or.inr (zB9 zlt))
  have hk2:∀b o,b∉zz n→s.heap.get? b=some o→h''.get? b=some o:=fun b o hb e=>b2.extBut _ _ (fun z=>hb (by simp[zz,z])) (hk b o hb e)
  have gT:IsPair h'' s.heap.objs.size u v:=b2.extBut _ _ q1 a2
  have gU:IsPair h'' (s.heap.objs.size+1:Nat) t (.ref s.heap.objs.size):=b2.extBut _ _ q2 a3
  have ne12:@Ne Addr s.heap.objs.size (s.heap.objs.size+1:Nat):=nn (a:=s.heap.objs.size) (b:=s.heap.objs.size+1) (Or.inl (zC6 _))
  have J:=I.turnLay2 (t':=s.toks) (T:=s.heap.objs.size) (U:=(s.heap.objs.size+1:Nat)) (o:=.tup [x,y]) (p:=.tup [w0,.ref s.heap.objs.size]) hk2 hf (zt8 _) (zA2 _) ne12
   ⟨by show 2≤sizeLine;decide,[u,v],.cons ru (.cons rv .nil),_,gT,rfl,0,rfl⟩ ⟨by show 2≤sizeLine;decide,[t,.ref s.heap.objs.size],.cons rt (.cons rfl .nil),_,gU,rfl,0,rfl⟩
  refine⟨.ref (s.heap.objs.size+1:Nat),_,J,rfl,⟨s.heap.objs.size,_,w0,x,y,rfl,ne12,I.hok.fresh (zt8 _),I.hok.fresh (zA2 _),rfl,fun zs hz=>by rw[I.list_inj hz hq0];exact hw,fun zs hz=>by rw[I.list_inj hz hq1];exact hx,fun zs hz=>by rw[I.list_inj hz hq2];exact hy⟩,?_,fun b hb=>?_⟩
  ·obtain⟨zi,zi0,zti,⟨za,zb,zto⟩,zz'⟩:=a1
   exact⟨zi.keep fun c hc o e=>b2.extBut _ _ (by
    simp only[zin,zt4,zt9,zv5] at hc
    rcases hc with rfl|rfl|rfl|rfl|rfl<;>exact nn) e,zi0.at fun o e=>b2.extBut _ _ nn e,b2.extBut _ _ nn zti,⟨za,zb,b2.extBut _ _ nn zto⟩,b1⟩
  ·have bl:b<s.heap.objs.size:=by
    simp only[zz,zt4,zt9,zv5] at hb
    have key:∀m:Nat,m≤n+8→m<s.heap.objs.size:=fun m h=>zI5 h zlt
    rcases hb with rfl|rfl|rfl|rfl|rfl|rfl|rfl|rfl|rfl<;>exact key _ (by omega)
   rw[zd (zv0 (zB9 bl)),zd (zv0 bl)]
   exact (hf b hb).1
 done:=by
  intro X hP hw hK hc i pins s σ H E I hf st hg
  subst hP hw hK
  obtain⟨ws,hq0,hl⟩:=hg
  obtain⟨its0,rv0,p0,hz0⟩:=I.list hq0
  have e0:=rv0.length
  have hT:s.TypeIs (.ref (n+8:Nat)) "zip":=⟨_,st.z,rfl⟩
  unfold pyNext
  refine zs9 (zF1 (zy9 (name:=Str.ofString "__next__") hT zD6 (zA8 zD6 hT F.entry_zip_next
   (ze4 (I.ok.hd hc) h0 st p0.isList (by simp;omega) fun h' e hk ⟨o,ho,hc⟩=>?_) (F.args_zip_next_1 _))))
  exact zs9 (wpAny_isInstance (T:="StopIteration") (b:=true) ⟨o,ho,hc⟩ isSubtype_stop (zt2 ⟨rfl,I.turnL (t':=s.toks) (ch:=zz n) hk hf⟩))
 self:=fun A i s Q E st h=>zH1 st.z h
open PySem (IsZip)
abbrev zZ1 (h:Heap)(l:Addr):Heap:=h.push {cls:=.type "list_iterator",data:=.fields #[.ref l,.int 0 0]}
abbrev zZ2 (h:Heap)(l z:Addr):Heap:=(zZ1 h l).push {cls:=.type "tuple",data:=.seq #[.ref h.objs.size,.ref z]}
abbrev zZ3 (h:Heap)(l z:Addr):Heap:=(zZ2 h l z).push {cls:=.type "tuple",data:=.seq #[.none,.none]}
abbrev zZ4 (h:Heap)(l z:Addr):Heap:=(zZ3 h l z).push {cls:=.type "zip",data:=.fields #[.none,.bool false,.bool false,.ref (zZ1 h l).objs.size,.ref (zZ2 h l z).objs.size]}
theorem nV (l z TI TO:Addr)(xs:Array Value):Meets (Builtin.«zip.__new__» ⟨[.type "zip",.ref l,.ref z],[]⟩) (fun _ R s=>s.heap.IsList l xs∧IsZip s.heap z TI TO .none∧R (.ok (.ret (.ref (zZ3 s.heap l z).objs.size))) {s with heap:=zZ4 s.heap l z}):=
 .of_wp fun prog w A R s h=>by
  obtain⟨hp,g,d,tk,os⟩:=s;obtain⟨hl1,hl2,h⟩:=h
  have sb:=sub_zip
  have q1:Heap.IsList (Shared.heap ⟨hp,g,d,tk,os⟩) l xs:=hl1
  have q2:IsZip (Shared.heap ⟨hp.push {cls:=.type "list_iterator",data:=.fields #[.ref l,.int 0 0]},g,d,tk,os⟩) z TI TO .none:=zt0 _ hl2
  wp_walk using zD8 q1,zH1 q2
  exact⟨_,rfl,h⟩
section
variable {prog:Program}{w:World}{E:Value→Shared→Prop}{s:Shared}
theorem jc {A:Around}{l z TI TO:Addr}{xs:Array Value}{Q:Value→Shared→Prop}(hl:s.heap.IsList l xs)(hz:IsZip s.heap z TI TO .none)
  (h:∀h',IsZip h' (s.heap.objs.size+3) (s.heap.objs.size+1) (s.heap.objs.size+2) .none→IsPair h' (s.heap.objs.size+1) (.ref s.heap.objs.size) (.ref z)→IsPair h' (s.heap.objs.size+2) .none .none→
   h'.IsListIter s.heap.objs.size l 0→(∀c o,s.heap.get? c=some o→h'.get? c=some o)→Q (.ref (s.heap.objs.size+3)) {s with heap:=h'}):wpAny (model prog w) A (call (.type "zip") [.ref l,.ref z]) Q E s:=by
 refine callType_new F.called_zip (by decide) (F.typeCall_zip_2 _ _) (F.newCall_zip_2 _ _) (fun obj=>F.args_object_init_3 obj _ _) F.entry_zip_new (nV l z TI TO xs) ⟨hl,hz,?_⟩
 have n1:(zZ1 s.heap l).objs.size=s.heap.objs.size+1:=zx5 ..
 have n2:(zZ2 s.heap l z).objs.size=s.heap.objs.size+2:=by rw[zx5,n1]
 have n3:(zZ3 s.heap l z).objs.size=s.heap.objs.size+3:=by rw[zx5,n2]
 have p4:∀{c o},(zZ3 s.heap l z).get? c=some o→(zZ4 s.heap l z).get? c=some o:=fun e=>zt0 _ e
 have p3:∀{c o},(zZ2 s.heap l z).get? c=some o→(zZ4 s.heap l z).get? c=some o:=fun e=>p4 (zt0 _ e)
 have p2:∀{c o},(zZ1 s.heap l).get? c=some o→(zZ4 s.heap l z).get? c=some o:=fun e=>p3 (zt0 _ e)
 have g4:(zZ4 s.heap l z).get? (zZ3 s.heap l z).objs.size=some _:=zu0 _ rfl
 have g3:(zZ4 s.heap l z).get? (zZ2 s.heap l z).objs.size=some _:=p4 (zu0 _ rfl)
 have g2:(zZ4 s.heap l z).get? (zZ1 s.heap l).objs.size=some _:=p3 (zu0 _ rfl)
 have g1:(zZ4 s.heap l z).get? s.heap.objs.size=some _:=p2 (zu0 _ rfl)
 show _∧_
 rw[n1,n2,n3] at g4
 rw[n2] at g3
 rw[n1] at g2
 rw[n3]
 exact⟨⟨_,g4,rfl⟩,h _ g4 g2 g3 ⟨_,g1,rfl,rfl⟩ fun c o e=>p2 (zt0 _ e)⟩
end
section
variable {X:Cx}{α:Ev}{elts:List Expr}{kk:Nat}{tp p p2 pos pos2:Pos}{a b c:Expr}
def zl8 (K:PySem.W.Frag)(te:TE)(t:TA):TI:=fun σ H R=>te σ H fun v H1=>t σ H1 fun vs H2=>∃l0 l1 l2,v=.ref l0∧vs=[.ref l1,.ref l2]∧(∃ws,SqL K H2 l0 ws)∧(∃xs,SqL K H2 l1 xs)∧(∃ys,SqL K H2 l2 ys)∧R (zn5 K l0 l1 l2) H2
theorem af {te:TE}{t:TA}(hg:Gl X "zip")(hm:X.mg "zip"=none)(he:PE X a te)(ha:PA X [b,c] t)
  (hs:starEach [b,c] X.env=[(false,eval b X.env),(false,eval c X.env)]:=by rfl) (hs2:starEach [c] X.env=[(false,eval c X.env)]:=by rfl)
  (ho:starEach [a,.Call (.Name "zip" p2) [b,c] [] pos2] X.env=[(false,eval a X.env),(false,eval (.Call (.Name "zip" p2) [b,c] [] pos2) X.env)]:=by rfl) (ho2:starEach [.Call (.Name "zip" p2) [b,c] [] pos2] X.env=[(false,eval (.Call (.Name "zip" p2) [b,c] [] pos2) X.env)]:=by rfl):
  PI X (.Tuple elts kk tp) (.Call (.Name "zip" p) [a,.Call (.Name "zip" p2) [b,c] [] pos2] [] pos) (zl8 X.K te t):=by
 intro pins s σ H R I h
 refine Call_ (xx I hg hm boot_zip (zx3 ?_ (by rw[ho,ho2]) (by rw[ho2];rfl)))
 rw[ho]
 show wpAny _ _ (spliced ((false,eval a X.env)::backTo pos [(false,eval (.Call (.Name "zip" p2) [b,c] [] pos2) X.env)])) _ _ s
 refine zG1 (thn (he pins s σ H _ I h) fun u s1 ⟨x,H1,I1,r1,q1⟩=>?_)
 show wpAny _ _ (spliced ((false,eval (.Call (.Name "zip" p2) [b,c] [] pos2) X.env)::backTo pos [])) _ _ s1
 refine zG1 ?_
 refine Call_ (xx I1 hg hm boot_zip (zx3 (thn (ha pos2 pins s1 σ H1 _ I1 q1) fun us s2 ⟨vs,H2,I2,r2,q2⟩=>?_) (by rw[hs,hs2]) (by rw[hs2];rfl)))
 obtain⟨l0,l1,l2,rfl,rfl,⟨ws,hq0⟩,⟨xs,hq1⟩,⟨ys,hq2⟩,q⟩:=q2
 obtain⟨u1,u2,rfl,ru1,ru2⟩:=Vals.two r2
 cases (show u1=Value.ref l1 from ru1)
 cases (show u2=Value.ref l2 from ru2)
 cases (show u=Value.ref l0 from r1)
 obtain⟨its0,rv0,w0,hz0⟩:=I2.list hq0
 obtain⟨its1,rv1,w1,hz1⟩:=I2.list hq1
 obtain⟨its2,rv2,w2,hz2⟩:=I2.list hq2
 refine call_zip_2 w1.isList w2.isList fun h' z1 z2 z3 z4 z5 z6 hk=>?_
 refine Calls.spliced_nil ?_
 have L0:h'.IsList l0 its0.toArray:=w0.isList.at fun o e=>hk _ o e
 refine jc (s:={s2 with heap:=h'}) L0 z1 fun h2 y1 y2 y3 y4 hk2=>?_
 refine zH1 (s:={s2 with heap:=h2}) y1 ?_
 have lt0:l0<s2.heap.objs.size:=by obtain⟨o,e,_⟩:=w0.isList;exact zt6 e
 have lt1:l1<s2.heap.objs.size:=by obtain⟨o,e,_⟩:=w1.isList;exact zt6 e
 have lt2:l2<s2.heap.objs.size:=by obtain⟨o,e,_⟩:=w2.isList;exact zt6 e
 have zz':ZZ h2 s2.heap.objs.size l0 l1 l2 0 .none:=by
  have e6:(Shared.heap {s2 with heap:=h'}).objs.size=s2.heap.objs.size+5:=z6
  rw[e6] at y1 y2 y3 y4
  exact⟨⟨⟨_,_,hk2 _ _ z1,.inl rfl⟩,hk2 _ _ z2,⟨_,_,hk2 _ _ z3⟩,z4.at fun o e=>hk2 _ o e,z5.at fun o e=>hk2 _ o e⟩,y4,y2,⟨_,_,y3⟩,y1⟩
 have e6:(Shared.heap {s2 with heap:=h'}).objs.size=s2.heap.objs.size+5:=z6
 rw[e6]
 refine⟨_,_,_,_,H2,rfl,I2.kept (t':=s2.toks) fun b o e=>hk2 b o (hk b o e),cx lt0 lt1 lt2,zz',fun b hb=>?_,q⟩
 have hb':s2.heap.objs.size≤b:=by
  simp only[zz,zt4,zt9,zv5] at hb
  have key:∀n b:Nat,n=s2.heap.objs.size→(b=n∨b=n+1∨b=n+2∨b=n+3∨b=n+4∨b=n+5∨b=n+6∨b=n+7∨b=n+8)→n≤b:=fun n b _ h=>by omega
  exact key _ _ rfl hb
 exact I2.fpOk hb' (I2.hok.fresh hb')
theorem ba {Q:List PyData→Prop}(hg:Gl X "zip")(hm:X.mg "zip"=none)(h:EvD X α a fun x=>EvD X α b fun y=>EvD X α c fun z=>∃ds es fs,x=.list ds∧y=.list es∧z=.list fs∧ds.length=es.length∧ds.length=fs.length∧Q (rn ds (rn es fs)))
  (hs:starEach [b,c] X.env=[(false,eval b X.env),(false,eval c X.env)]:=by rfl) (hs2:starEach [c] X.env=[(false,eval c X.env)]:=by rfl) (hs3:starEach [b,c] X.env=(false,eval b X.env)::starEach [c] X.env:=by rfl)
  (ho:starEach [a,.Call (.Name "zip" p2) [b,c] [] pos2] X.env=[(false,eval a X.env),(false,eval (.Call (.Name "zip" p2) [b,c] [] pos2) X.env)]:=by rfl) (ho2:starEach [.Call (.Name "zip" p2) [b,c] [] pos2] X.env=[(false,eval (.Call (.Name "zip" p2) [b,c] [] pos2) X.env)]:=by rfl):
  EvI X α (.Tuple elts kk tp) (.Call (.Name "zip" p) [a,.Call (.Name "zip" p2) [b,c] [] pos2] [] pos) Q:=fun F σ H R m k=>by
 refine⟨_,af hg hm zr (zf zr (zf zr zu hs2) hs3) hs hs2 ho ho2,?_⟩
 refine h F σ H _ m fun x vx H1 q1 t1 k1 r1=>?_
 have m1:=m.kz k1 t1
 refine q1 F σ H1 _ m1 fun y vy H2 q2 t2 k2 r2=>?_
 have m2:=m1.kz k2 t2
 refine q2 F σ H2 _ m2 fun z vz H3 q3 t3 k3 r3=>?_
 obtain⟨ds,es,fs,rfl,rfl,rfl,ln1,ln2,q⟩:=q3
 obtain⟨l0,ws,rfl,g1,g2⟩:=((r1.same (k2.gz m1.tp)).same (k3.gz m2.tp)).lst_inv
 obtain⟨l1,xs,rfl,g3,g4⟩:=(r2.same (k3.gz m2.tp)).lst_inv
 obtain⟨l2,ys,rfl,g5,g6⟩:=r3.lst_inv
 refine⟨l0,l1,l2,rfl,rfl,⟨ws,SqL.of (zm g1).2⟩,⟨xs,SqL.of (zm g3).2⟩,⟨ys,SqL.of (zm g5).2⟩,k _ _ H3 q t3 ((k1.trans k2).trans k3) fun i H4 p s=>⟨fun d hd=>?_,fun hl=>?_⟩⟩
 ·have s0:=SqL.of (K:=X.K) (zm (s _ _ g1)).2
  have s1:=SqL.of (K:=X.K) (zm (s _ _ g3)).2
  have s2:=SqL.of (K:=X.K) (zm (s _ _ g5)).2
  unfold rn at hd
  rw[zE4,zE4] at hd
  cases e0:ds[i]? with
  |none=>rw[e0] at hd;cases hd
  |some d0=>
   cases e1:es[i]? with
   |none=>rw[e0,e1] at hd;cases hd
   |some d1=>
    cases e2:fs[i]? with
    |none=>rw[e0,e1,e2] at hd;cases hd
    |some d2=>
     rw[e0,e1,e2] at hd
     cases hd
     obtain⟨x0,hx0,av0⟩:=g2.get e0
     obtain⟨x1,hx1,av1⟩:=g4.get e1
     obtain⟨x2,hx2,av2⟩:=g6.get e2
     refine⟨⟨ws,xs,ys,x0,x1,x2,s0,s1,s2,hx0,hx1,hx2⟩,fun v H5 y=>?_⟩
     obtain⟨T,U,w,x,y,rfl,hTU,hT,hU,rfl,hw,hx,hy⟩:=y
     have hw:=hw _ s0
     have hx:=hx _ s1
     have hy:=hy _ s2
     rw[hx0] at hw;cases hw
     rw[hx1] at hx;cases hx
     rw[hx2] at hy;cases hy
     have uT:upd (upd H4 T (.tup [x1,x2])) U (.tup [x0,.ref T]) T=some (.tup [x1,x2]):=by rw[zd hTU,zk]
     have sm:zC H4 (upd (upd H4 T (.tup [x1,x2])) U (.tup [x0,.ref T])):=fun a o e=>by rw[zd (zo e hU),zd (zo e hT)];exact e
     refine⟨sm,fun fr=>?_⟩
     have gs:zC (Gz F α σ H3) (sub p (upd (upd H4 T (.tup [x1,x2])) U (.tup [x0,.ref T]))):=fun a o e=>by
      obtain⟨z1,z2⟩:=zm (s a o e)
      exact zF z1 (sm _ _ z2)
     exact .tup (zF (fr U _ zk hU) zk) (.cons (av0.same gs) (.cons (.tup (zF (fr T _ uT hT) uT) (.cons (av1.same gs) (.cons (av2.same gs) .nil))) .nil))
 ·refine⟨ws,SqL.of (zm (s _ _ g1)).2,?_⟩
  unfold rn at hl
  rw[zF5,zF5] at hl
  have:=g2.length
  omega
end
end L2
set_option maxHeartbeats 4000000
namespace K32
open PySem PySem.Spec PyProof.Rows L2
def top (i:Nat):Stmt:=PySem.Challenge.pw_stayprice_k32_bills.main.body.getD i (.Pass ⟨0,0,0,0⟩)
abbrev rK :Stmt:=top 43
abbrev eN :Stmt:=top 44
def iG :Scope:=match zB rK with
 |[.Return (some (.List (.ListComp _ _ sc _::_) _)) _]=>sc
 |_=>zc rK
section
variable {P:Program}{w:World}{K:PySem.W.Frag}{mg:Str→Option Value}{base:Heap}
theorem zj1 :zp ["_law_script"] ["_law_script"] (zc rK):=⟨rfl,rfl,rfl,by decide +kernel,rfl,by decide +kernel,by decide +kernel⟩
theorem fQ :zS ["_law_script"] (zc rK) ["_law_cell"] [none] iG:=⟨rfl,by decide +kernel,by decide +kernel,by decide +kernel,by decide +kernel,rfl,by decide +kernel⟩
theorem aI {f:Addr}{fd:FuncData}(F:Fun K "_law_tape" "_law_tape" rK f fd)(T:zb8 mg):zD P w K mg base CX0 1 f fd ["_law_script"] (mY K):=by
 refine F.ok zj1 (fun vs H Q E h=>?_) (fun cdv A outer s H vs Q E hr h=>?_)
 ·obtain⟨a,ns,rfl,_⟩:=h
  rfl
 ·obtain⟨a,ns,rfl,hS,hlen,k⟩:=h
  refine⟨_,zA (zE (gF (zf
   (aN rfl fQ (lP (pL kX (pv 0) lQ (kr zq)))
    (fun _ _ _ _=>zI (i:=0) fQ.nd rfl (Or.inl rfl))
    (fun _ _ _ _=>lX (yh zn3 (yj pH (by rfl) T.abs boot_abs (zf (pv 0) zu)) (yw eA zq zq) (zJ _)))
    (fun _ _ _ _=>yj pH (by rfl) T.abs boot_abs (zf (pv 0) zu)))
   (zf (vF ua (by rfl) T.list boot_list (zf (pL kX (pv 0) lQ (kr zq)) zu))
   (zf zq zu))))),?_⟩
  -- script[:63]
  refine⟨_,rfl,63,rfl,a,_,rfl,hS,fun l hl=>?_⟩
  obtain⟨ms,em,lm⟩:=dg ns none (some 63)
  rw[em]
  refine⟨l,rfl,⟨_,SqL.of zk⟩,fun acc hacc=>?_⟩
  have nal:acc≠l:=fun z=>by rw[z,zk] at hacc;cases hacc
  have hacc':H acc=none:=by rw[zd nal] at hacc;exact hacc
  have s0:zC H (upd H l (.lst (ms.map V.int))):=fun b o e=>by rw[zd (zo e hl)];exact e
  refine iE (K:=K) (a:=l) (xs:=ms.map V.int) (fun i ys τ H2=>∃(bs:List Int) (v:Option V),ys=bs.map V.int∧bs.length≤i∧τ=[v]∧H2=upd (upd H l (.lst (ms.map V.int))) acc (.lst (bs.map V.int)))
   ⟨[],none,rfl,zt8 _,rfl,rfl⟩ ?_ ?_ ?_
  ·rintro i ys τ H2 _ ⟨bs,v,rfl,_,rfl,rfl⟩
   exact SqL.of (by rw[zd nal.symm,zk])
  ·rintro i x ys τ H2 hx ⟨bs,v,rfl,hb,rfl,rfl⟩
   have hi:i<ms.length:=by
    have:=(zt5.mp hx).1
    rwa [zt1] at this
   obtain⟨z,rfl⟩:∃z,x=V.int z:=by
    rw[zu7] at hx
    cases e:ms[i]? with
    |none=>rw[e] at hx;cases hx
    |some z=>rw[e] at hx;exact⟨z,(zv8 hx).symm⟩
   refine⟨_,rfl,z,rfl,_,_,rfl,rfl,⟨by decide,by decide,by decide⟩,_,_,rfl,rfl,_,rfl,?_⟩
   refine yB (fun _=>?_) (fun _=>?_)
   ·refine⟨_,rfl,z,rfl,zk,?_,bs++[if z<0 then -z else z],_,?_,?_,rfl,?_⟩
    ·rw[zt1];exact yG (by omega)
    ·rw[zA4];rfl
    ·rw[zv4];simp;omega
    ·rw[uf,zA4];rfl
   ·exact⟨bs,_,rfl,by omega,rfl,rfl⟩
  ·rintro ys τ H2 ⟨bs,v,rfl,hb,rfl,rfl⟩
   rw[zt1] at hb
   -- list(script[:63])
   have s1:zC H (upd (upd H l (.lst (ms.map V.int))) acc (.lst (bs.map V.int))):=fun b o e=>by rw[zd (zo e hacc')];exact s0 b o e
   refine⟨_,rfl,63,rfl,a,_,rfl,s1.seq hS,fun l2 hl2=>?_⟩
   rw[em]
   refine⟨l2,_,rfl,.inl (SqL.of zk),fun c hc=>?_⟩
   refine⟨(by show 3≤sizeLine;decide),fun t ht=>?_⟩
   have n1:l2≠acc:=fun z=>by rw[z,zk] at hl2;cases hl2
   have n2:c≠l2:=fun z=>by rw[z,zk] at hc;cases hc
   have hc2:upd (upd H l (.lst (ms.map V.int))) acc (.lst (bs.map V.int)) c=none:=by rw[zd n2] at hc;exact hc
   have n3:c≠acc:=fun z=>by rw[z,zk] at hc2;cases hc2
   have n4:t≠c:=fun z=>by rw[z,zk] at ht;cases ht
   have ht2:upd (upd (upd H l (.lst (ms.map V.int))) acc (.lst (bs.map V.int))) l2 (.lst (ms.map V.int)) t=none:=by rw[zd n4] at ht;exact ht
   have n5:t≠l2:=fun z=>by rw[z,zk] at ht2;cases ht2
   have ht3:upd (upd H l (.lst (ms.map V.int))) acc (.lst (bs.map V.int)) t=none:=by rw[zd n5] at ht2;exact ht2
   have n6:t≠acc:=fun z=>by rw[z,zk] at ht3;cases ht3
   refine k t acc c _ ⟨0,bs,ms,n3.symm,zk,?_,?_,by omega,by omega⟩ (s1.free ht3) hacc' (s1.free hc2) fun b o e=>?_
   ·rw[zd n6.symm,zd n3.symm,zd n1.symm,zk]
   ·rw[zd n4.symm,zk]
   ·have e1:=s1 b o e
    rw[zd (zo e1 ht3),zd (zo e1 hc2),zd (zo e1 hl2)]
    exact e1
theorem uA :zp ["_law_tape_here","_law_many","_law_found","_law_cell","_law_number"] ["_law_tape_here","_law_many"] (zc eN):=⟨rfl,rfl,rfl,by decide +kernel,rfl,by decide +kernel,by decide +kernel⟩
theorem cQ {f:Addr}{fd:FuncData}(F:Fun K "_law_draw" "_law_draw" eN f fd)(T:zb8 mg):zD P w K mg base CX0 1 f fd ["_law_tape_here","_law_many"] gA:=by
 refine F.ok uA (fun vs H Q E h=>?_) (fun cdv A outer s H vs Q E hr h=>?_)
 ·obtain⟨t,b,c,many,rfl,_⟩:=h
  rfl
 ·obtain⟨t,b,c,many,rfl,⟨n,bs,cs,nbc,ht,hb,hc,lb,lc⟩,hm0,hm1,k⟩:=h
  have ntb:t≠b:=aY ht hb (kF bs)
  have ntc:t≠c:=aY ht hc (kF cs)
  have hlog:many.natAbs.log2<9000:=log2_small hm0 hm1
  -- tape[2]=tape[2]+1
  refine yc (fun σ H1=>σ=[some (.ref t),some (.int many),none,none,none]∧H1=upd H t (.lst [.ref b,.ref c,.int (n+1)]))
   ⟨_,mq (yw uK (zM zU (pv 0) zq (fun _ _=>rfl)) zq) (lH (pv 0) zq set_list),?_⟩ ?_
  ·exact⟨_,rfl,t,_,2,_,rfl,rfl,SqL.of ht,rfl,_,_,rfl,rfl,_,rfl,t,_,2,2,rfl,rfl,ht,rfl,rfl,rfl⟩
  rintro σ H1 ⟨rfl,hH1⟩
  have ht1:H1 t=some (.lst [.ref b,.ref c,.int (n+1)]):=by rw[hH1];exact zk
  have hb1:H1 b=some (.lst (bs.map V.int)):=by rw[hH1,zd ntb.symm];exact hb
  have hc1:H1 c=some (.lst (cs.map V.int)):=by rw[hH1,zd ntc.symm];exact hc
  have off1:qt t b H H1:=fun a h1 h2=>by rw[hH1,zd h1]
  clear hH1
  -- while len(tape[0]) > 0 and tape[0][0]==0:tape[0].pop(0)
  refine yc (fun σ H2=>∃bs2:List Int,bs2.length≤63∧σ=[some (.ref t),some (.int many),none,none,none]∧H2 t=some (.lst [.ref b,.ref c,.int (n+1)])∧H2 b=some (.lst (bs2.map V.int))∧H2 c=some (.lst (cs.map V.int))∧qt t b H H2)
   ⟨_,fN zz2 (fj (yh lR (yj yt (by rfl) T.len zC5 (zf (zM zU (pv 0) zq (fun _ _=>rfl)) zu)) zq (zJ _))
     (kN (yh wK (zM zU (zM zU (pv 0) zq (fun _ _=>rfl)) zq (fun _ _=>rfl)) zq (zJ _)))).pt
    (zA (tH (dR zG6 PySem.F.slot_list_pop PySem.F.type_list_pop gu (zM zU (pv 0) zq (fun _ _=>rfl)) (zf zq zu)))),?_⟩ ?_
  ·refine⟨fun m σ H2=>∃bs2:List Int,m=bs2.length∧bs2.length≤63∧σ=[some (.ref t),some (.int many),none,none,none]∧H2 t=some (.lst [.ref b,.ref c,.int (n+1)])∧H2 b=some (.lst (bs2.map V.int))∧H2 c=some (.lst (cs.map V.int))∧qt t b H H2,
    ⟨_,bs,rfl,lb,rfl,ht1,hb1,hc1,off1⟩,?_⟩
   rintro m σ H2 ⟨bs2,rfl,lb2,rfl,ht2,hb2,hc2,off2⟩
   refine⟨_,rfl,t,_,0,_,rfl,rfl,SqL.of ht2,rfl,b,_,rfl,.inl (SqL.of hb2),_,_,rfl,rfl,_,rfl,?_⟩
   refine yB (fun _=>?_) (fun _=>?_)
   ·cases bs2 with
    |nil=>rename_i z;simp at z
    |cons z r=>
     refine⟨_,rfl,t,_,0,_,rfl,rfl,SqL.of ht2,rfl,b,_,0,_,rfl,rfl,SqL.of hb2,at0,rfl,_,rfl,?_⟩
     refine yB (fun _=>?_) (fun _=>?_)
     ·refine⟨_,fun σ' H' h'=>h',_,rfl,t,_,0,_,rfl,rfl,SqL.of ht2,rfl,.inl ⟨rfl,_,SqL.of hb2⟩,b,_,0,0,_,rfl,rfl,hb2,by decide,by decide,zq6,rfl,r.length,?_,r,rfl,?_,rfl,?_,zk,?_,?_⟩
      ·simp
      ·simp at lb2;omega
      ·rw[zd ntb];exact ht2
      ·rw[zd nbc.symm];exact hc2
      ·exact off2.trans fun a h1 h2=>by rw[zd h2]
     ·exact⟨_,lb2,rfl,ht2,hb2,hc2,off2⟩
   ·exact⟨_,lb2,rfl,ht2,hb2,hc2,off2⟩
  rintro σ H2 ⟨bs2,lb2,rfl,ht2,hb2,hc2,off2⟩
  -- if len(tape[0]) > 0:..
  refine yc (fun σ H3=>σ=[some (.ref t),some (.int many),none,none,none]∧H2=H3)
   ⟨_,xR (yh lR (yj yt (by rfl) T.len zC5 (zf (zM zU (pv 0) zq (fun _ _=>rfl)) zu)) zq (zJ _))
    (zH (wC (i:=2) uA.nd rfl (Or.inl rfl) (yw vQ (zM zU (zM zU (pv 0) zq (fun _ _=>rfl)) zq (fun _ _=>rfl)) (pv 1)))
    (zH (mq (yw rg (zM zU (zM zU (pv 0) zq (fun _ _=>rfl)) zq (fun _ _=>rfl)) (pv 1)) (lH (zM zU (pv 0) zq (fun _ _=>rfl)) zq set_list))
    (zA (zE (pv 2))))) yA,?_⟩ ?_
  ·refine⟨_,rfl,t,_,0,_,rfl,rfl,SqL.of ht2,rfl,b,_,rfl,.inl (SqL.of hb2),_,_,rfl,rfl,_,rfl,?_⟩
   refine yB (fun _=>?_) (fun _=>?_)
   ·cases bs2 with
    |nil=>rename_i z;simp at z
    |cons z r=>
     refine⟨_,rfl,t,_,0,_,rfl,rfl,SqL.of ht2,rfl,b,_,0,_,rfl,rfl,SqL.of hb2,at0,_,rfl,_,_,rfl,rfl,hm0,?_⟩
     refine⟨_,rfl,t,_,0,_,rfl,rfl,SqL.of ht2,rfl,b,_,0,_,rfl,rfl,SqL.of hb2,at0,_,rfl,_,_,rfl,rfl,⟨hm0,hlog⟩,?_⟩
     refine⟨_,rfl,t,_,0,_,rfl,rfl,SqL.of ht2,rfl,b,_,0,0,rfl,rfl,hb2,ix0,_,rfl,?_⟩
     refine k _ _ (zF9 _ (Int.ne_of_gt hm0)) (zD7 _ hm0) ⟨n+1,(z / many)::r,cs,nbc,?_,zk,?_,?_,lc⟩ ?_
     ·rw[zd ntb];exact ht2
     ·rw[zd nbc.symm];exact hc2
     ·simpa using lb2
     ·exact off2.trans fun a h1 h2=>by rw[zd h2]
   ·exact⟨rfl,rfl⟩
  rintro σ H3 ⟨rfl,rfl⟩
  -- cell=5;if len(tape[1]) > 0:..
  refine yc (fun σ H3=>σ=[some (.ref t),some (.int many),none,some (.int 5),none]∧H2=H3) ⟨_,wC (i:=3) uA.nd rfl (Or.inl rfl) zq,rfl,rfl⟩ ?_
  rintro σ H3 ⟨rfl,rfl⟩
  refine yc (fun σ H3=>∃z:Int,σ=[some (.ref t),some (.int many),none,some (.int z),none]∧H2=H3)
   ⟨_,xR (yh lR (yj yt (by rfl) T.len zC5 (zf (zM zU (pv 0) zq (fun _ _=>rfl)) zu)) zq (zJ _))
    (zA (wC (i:=3) uA.nd rfl (Or.inl rfl) (zM zU (zM zU (pv 0) zq (fun _ _=>rfl)) (yw vQ (zM zU (pv 0) zq (fun _ _=>rfl)) (yj yt (by rfl) T.len zC5 (zf (zM zU (pv 0) zq (fun _ _=>rfl)) zu))) (fun _ _=>rfl)))) yA,?_⟩ ?_
  ·refine⟨_,rfl,t,_,1,_,rfl,rfl,SqL.of ht2,rfl,c,_,rfl,.inl (SqL.of hc2),_,_,rfl,rfl,_,rfl,?_⟩
   refine yB (fun hpos=>?_) (fun _=>?_)
   ·have hpos':0<cs.length:=by simpa using hpos
    have hp:(0:Int)<((cs.map V.int).length:Int):=by rw[zt1];omega
    have h1:=zF9 (n+1) (Int.ne_of_gt hp)
    have h2:=zD7 (n+1) hp
    obtain⟨j,hj⟩:=zD1 h1
    have hjl:j<cs.length:=by rw[hj,zt1] at h2;omega
    refine⟨_,rfl,t,_,1,_,rfl,rfl,SqL.of ht2,rfl,_,rfl,t,_,2,_,rfl,rfl,SqL.of ht2,rfl,_,rfl,t,_,1,_,rfl,rfl,SqL.of ht2,rfl,c,_,rfl,.inl (SqL.of hc2),_,_,rfl,rfl,hp,c,_,_,V.int cs[j],rfl,rfl,SqL.of hc2,?_,cs[j],rfl,rfl⟩
    rw[hj]
    exact xr (by rw[zu7,zt3 hjl];rfl)
   ·exact⟨5,rfl,rfl⟩
  rintro σ H3 ⟨z,rfl,rfl⟩
  -- the numbers
  refine yc (fun σ H3=>∃y:Int,(0≤y∧y<2147483647)∧σ=[some (.ref t),some (.int many),none,some (.int z),some (.int y)]∧H2=H3)
   ⟨_,wC (i:=4) uA.nd rfl (Or.inl rfl) (yw vQ (yw sP (yw uK (yw uK (yw vQ (pv 3) zq) (yw sP zq (zM zU (pv 0) zq (fun _ _=>rfl)))) zq) zq) zq),?_⟩ ?_
  ·exact⟨_,rfl,_,_,rfl,rfl,(by show (0:Int)<999983;decide),_,rfl,t,_,2,_,rfl,rfl,SqL.of ht2,rfl,_,_,rfl,rfl,.inl ⟨by decide,by decide⟩,_,_,rfl,rfl,_,_,rfl,rfl,_,_,rfl,rfl,.inr ⟨by decide,by decide⟩,_,_,rfl,rfl,(by show (0:Int)<2147483647;decide),
    _,⟨zF9 _ (by decide),zD7 _ (by decide)⟩,rfl,rfl⟩
  rintro σ H3 ⟨y,⟨hy0,hy1⟩,rfl,rfl⟩
  refine yc (fun σ H3=>∃y:Int,(0≤y∧y<2147483647)∧σ=[some (.ref t),some (.int many),none,some (.int z),some (.int y)]∧H2=H3)
   ⟨_,wC (i:=4) uA.nd rfl (Or.inl rfl) (yw vQ (yw uK (yw uK (yw sP (pv 4) (pv 4)) (yw sP zq (zM zU (pv 0) zq (fun _ _=>rfl)))) zq) zq),?_⟩ ?_
  ·refine⟨_,rfl,_,rfl,_,_,rfl,rfl,.inl ⟨by omega,by omega⟩,_,rfl,t,_,2,_,rfl,rfl,SqL.of ht2,rfl,_,_,rfl,rfl,.inl ⟨by decide,by decide⟩,_,_,rfl,rfl,_,_,rfl,rfl,_,_,rfl,rfl,(by show (0:Int)<2147483629;decide),
    _,⟨zF9 _ (by decide),Int.lt_trans (zD7 _ (by decide)) (by decide)⟩,rfl,rfl⟩
  rintro σ H3 ⟨y2,⟨hy0,hy1⟩,rfl,rfl⟩
  refine⟨_,zA (zE (yw vQ (yw rg (yw vQ (yw sP (yw rg (pv 4) zq) zq) zq) zq) (pv 1))),?_⟩
  refine⟨_,rfl,_,_,rfl,rfl,⟨by decide,by decide +kernel⟩,_,_,rfl,rfl,.inr ⟨by decide,by decide⟩,_,_,rfl,rfl,(by show (0:Int)<2147483587;decide),_,_,rfl,rfl,⟨by decide,by decide +kernel⟩,_,rfl,_,_,rfl,rfl,hm0,?_⟩
  exact k _ _ (zF9 _ (Int.ne_of_gt hm0)) (zD7 _ hm0) ⟨n+1,bs2,cs,nbc,ht2,hb2,hc2,lb2,lc⟩ off2
end
abbrev pB :Stmt:=top 3
abbrev qq :Stmt:=top 4
abbrev gG :Stmt:=top 5
abbrev zc3 :Stmt:=top 6
abbrev ee :Stmt:=top 7
abbrev sC :Stmt:=top 8
structure oX (mg:Str→Option Value)(fW fI fP fD fPD:Addr):Prop where
 isi:mg "isinstance"=none
 int:mg "int"=none
 bool:mg "bool"=none
 tuple:mg "tuple"=none
 len:mg "len"=none
 last:∃t,mg "LAST_DAY"=some (.int 1000000 t)
 most:∃t,mg "MOST_NIGHTS"=some (.int 14 t)
 whole:mg "is_whole"=some (.ref fW)
 within:mg "is_whole_within"=some (.ref fI)
 pair:mg "is_pair"=some (.ref fP)
 day:mg "is_day"=some (.ref fD)
 days:mg "is_pair_of_days"=some (.ref fPD)
section
variable {P:Program}{w:World}{K:PySem.W.Frag}{mg:Str→Option Value}{base:Heap}{fW fI fP fD fPD:Addr}
theorem aH :zp ["thing"] ["thing"] (zc pB):=⟨rfl,rfl,rfl,by decide +kernel,rfl,by decide +kernel,by decide +kernel⟩
theorem dq {f:Addr}{fd:FuncData}(F:Fun K "is_whole" "is_whole" pB f fd)(T:oX mg fW fI fP fD fPD):zD P w K mg base CX0 1 f fd ["thing"] (yL mh):=by
 refine F.ok aH (fun vs H Q E h=>?_) (fun cdv A outer s H vs Q E hr h=>?_)
 ·obtain⟨x,d,rfl,_⟩:=h
  rfl
 ·obtain⟨x,d,rfl,hd,q⟩:=h
  refine⟨_,zA (zE (xj (yj wa (by rfl) T.isi zG0 (zf (pv 0) (zf (uc (v:=.ty "int") (by rfl) T.int boot_int rfl) zu)))
   (xX (zg9 (yj wa (by rfl) T.isi zG0 (zf (pv 0) (zf (uc (v:=.ty "bool") (by rfl) T.bool boot_bool rfl) zu))))))),?_⟩
  rw[iA] at q
  refine⟨_,rfl,x,"int",d,_,rfl,hd,aG d,_,rfl,?_⟩
  refine yB (fun h=>?_) (fun h=>?_)
  ·rw[h,zz6] at q
   exact⟨_,rfl,x,"bool",d,_,rfl,hd,sx d,_,rfl,q⟩
  ·rw[zw3.mpr h,zz8] at q
   exact q
theorem gk :zp ["thing","lowest","highest"] ["thing","lowest","highest"] (zc qq):=⟨rfl,rfl,rfl,by decide +kernel,rfl,by decide +kernel,by decide +kernel⟩
theorem ju {f:Addr}{fd fdW:FuncData}(F:Fun K "is_whole_within" "is_whole_within" qq f fd)(T:oX mg fW fI fP fD fPD)(FW:Fun K "is_whole" "is_whole" pB fW fdW)(bW:Binds K fdW ["thing"] []):
  zD P w K mg base CX0 2 f fd ["thing","lowest","highest"] vh:=by
 have GW:zD P w K mg base CX0 1 fW fdW ["thing"] (yL mh):=dq FW T
 refine F.ok gk (fun vs H Q E h=>?_) (fun cdv A outer s H vs Q E hr h=>?_)
 ·obtain⟨x,d,lo,hi,rfl,_⟩:=h
  rfl
 ·obtain⟨x,d,lo,hi,rfl,hd,q⟩:=h
  refine⟨_,zA (zE (xj (zP GW hr (by rfl) T.whole FW.kp bW .nil zX (zf (pv 0) zu)) (xX (oz pJ pJ (pv 1) (pv 0) (pv 2))))),?_⟩
  refine⟨_,rfl,x,d,rfl,hd,_,rfl,?_⟩
  cases hd with
  |int i=>
   have q':Q (.bl (decide (lo≤i)&&decide (i≤hi))) H:=q
   refine sV ⟨_,rfl,_,rfl,_,_,rfl,rfl,_,rfl,?_⟩
   refine yB (fun h=>?_) (fun h=>?_)
   ·rw[h,zz6] at q'
    exact⟨_,rfl,_,_,rfl,rfl,q'⟩
   ·rw[zw3.mpr h,zz8] at q'
    exact q'
  |_=>exact rh q
theorem ze0 :zp ["thing"] ["thing"] (zc gG):=⟨rfl,rfl,rfl,by decide +kernel,rfl,by decide +kernel,by decide +kernel⟩
theorem bA {f:Addr}{fd:FuncData}(F:Fun K "is_pair" "is_pair" gG f fd)(T:oX mg fW fI fP fD fPD):zD P w K mg base CX0 1 f fd ["thing"] (yL pairD):=by
 refine F.ok ze0 (fun vs H Q E h=>?_) (fun cdv A outer s H vs Q E hr h=>?_)
 ·obtain⟨x,d,rfl,_⟩:=h
  rfl
 ·obtain⟨x,d,rfl,hd,q⟩:=h
  refine⟨_,zA (zE (xj (yj wa (by rfl) T.isi zG0 (zf (pv 0) (zf (uc (v:=.ty "tuple") (by rfl) T.tuple boot_tuple rfl) zu)))
   (xX (xQ wK (yj yt (by rfl) T.len zC5 (zf (pv 0) zu)) zq (zJ _))))),?_⟩
  refine⟨_,rfl,x,"tuple",d,_,rfl,hd,rR d,_,rfl,?_⟩
  cases hd with
  |@tup a xs ds e hs=>
   refine sV ⟨_,rfl,a,_,rfl,.inr (SqT.of e),rfl,?_⟩
   rw[bZ,hs.length]
   exact q
  |_=>exact rh q
theorem zo5 :zp ["thing"] ["thing"] (zc zc3):=⟨rfl,rfl,rfl,by decide +kernel,rfl,by decide +kernel,by decide +kernel⟩
theorem zd6 {f:Addr}{fd fdI:FuncData}(F:Fun K "is_day" "is_day" zc3 f fd)(T:oX mg fW fI fP fD fPD)(GI:zD P w K mg base CX0 2 fI fdI ["thing","lowest","highest"] vh)(kI:PySem.W.keepIn K (.ref fI)=true)(bI:Binds K fdI ["thing","lowest","highest"] []):
  zD P w K mg base CX0 3 f fd ["thing"] (yL ui):=by
 obtain⟨tl,hl⟩:=T.last
 refine F.ok zo5 (fun vs H Q E h=>?_) (fun cdv A outer s H vs Q E hr h=>?_)
 ·obtain⟨x,d,rfl,_⟩:=h
  rfl
 ·obtain⟨x,d,rfl,hd,q⟩:=h
  refine⟨_,zA (zE (zP GI hr (by rfl) T.within kI bI .nil zX (zf (pv 0) (zf zq (zf (ub (v:=.int 1000000) (by rfl) hl ⟨tl,rfl⟩) zu))))),?_⟩
  exact⟨_,rfl,x,d,_,_,rfl,hd,q⟩
theorem zi1 :zp ["thing"] ["thing"] (zc ee):=⟨rfl,rfl,rfl,by decide +kernel,rfl,by decide +kernel,by decide +kernel⟩
theorem cL {f:Addr}{fd fdP fdD:FuncData}(F:Fun K "is_pair_of_days" "is_pair_of_days" ee f fd)(T:oX mg fW fI fP fD fPD)(GP:zD P w K mg base CX0 1 fP fdP ["thing"] (yL pairD))(kP:PySem.W.keepIn K (.ref fP)=true)(bP:Binds K fdP ["thing"] [])
  (GD:zD P w K mg base CX0 3 fD fdD ["thing"] (yL ui)) (kD:PySem.W.keepIn K (.ref fD)=true) (bD:Binds K fdD ["thing"] []):zD P w K mg base CX0 4 f fd ["thing"] (yL sE):=by
 refine F.ok zi1 (fun vs H Q E h=>?_) (fun cdv A outer s H vs Q E hr h=>?_)
 ·obtain⟨x,d,rfl,_⟩:=h
  rfl
 ·obtain⟨x,d,rfl,hd,q⟩:=h
  have hr1:zL 1 _:=hr.mono (by decide)
  refine⟨_,zA (zE (xj (zP GP hr1 (by rfl) T.pair kP bP .nil zX (zf (pv 0) zu))
   (xj (zP GD hr (by rfl) T.day kD bD .nil zX (zf (zM yz (pv 0) zq (fun _ _=>rfl)) zu))
   (xX (zP GD hr (by rfl) T.day kD bD .nil zX (zf (zM yz (pv 0) zq (fun _ _=>rfl)) zu)))))),?_⟩
  refine⟨_,rfl,x,d,rfl,hd,_,rfl,?_⟩
  refine yB (fun h=>?_) (fun h=>?_)
  ·obtain⟨a,b,rfl⟩:=uN h
   cases hd with
   |tup e hs=>
    cases hs with
    |cons ha hs=>
     cases hs with
     |cons hb hs=>
      cases hs
      have q':Q (.bl (ui a&&ui b)) H:=q
      refine⟨_,rfl,_,_,0,_,rfl,rfl,SqT.of e,rfl,_,_,rfl,ha,_,rfl,?_⟩
      refine yB (fun h=>?_) (fun h=>?_)
      ·rw[h,zz6] at q'
       exact⟨_,rfl,_,_,1,_,rfl,rfl,SqT.of e,rfl,_,_,rfl,hb,q'⟩
      ·rw[zw3.mpr h,zz8] at q'
       exact q'
  ·have e:sE d=false:=by
    unfold sE
    split
    ·exact absurd rfl h
    ·rfl
   rw[e] at q
   exact q
theorem ic :zp ["thing"] ["thing"] (zc sC):=⟨rfl,rfl,rfl,by decide +kernel,rfl,by decide +kernel,by decide +kernel⟩
theorem lh {f:Addr}{fd fdP:FuncData}(F:Fun K "is_stretch" "is_stretch" sC f fd)(T:oX mg fW fI fP fD fPD)(G:zD P w K mg base CX0 4 fPD fdP ["thing"] (yL sE))(kP:PySem.W.keepIn K (.ref fPD)=true)(bP:Binds K fdP ["thing"] []):
  zD P w K mg base CX0 5 f fd ["thing"] (yL yp):=by
 refine F.ok ic (fun vs H Q E h=>?_) (fun cdv A outer s H vs Q E hr h=>?_)
 ·obtain⟨x,d,rfl,_⟩:=h
  rfl
 ·obtain⟨x,d,rfl,hd,q⟩:=h
  refine⟨_,zA (zE (xj (zP G hr (by rfl) T.days kP bP .nil zX (zf (pv 0) zu))
   (xX (xQ pJ (zM yz (pv 0) zq (fun _ _=>rfl)) (zM yz (pv 0) zq (fun _ _=>rfl)) (zJ _))))),?_⟩
  refine⟨_,rfl,x,d,rfl,hd,_,rfl,?_⟩
  refine yB (fun h=>?_) (fun h=>?_)
  ·obtain⟨a,b,rfl,ef⟩:=lF h
   unfold yp at q
   rw[ef] at q
   have q':Q (.bl (decide (0≤b-a))) H:=q
   have eq1:decide (0≤b-a)=decide (a≤b):=by
    rw[decide_eq_decide]
    omega
   rw[eq1] at q'
   cases hd with
   |tup e hs=>
    cases hs with
    |cons ha hs=>
     cases ha
     cases hs with
     |cons hb hs=>
      cases hb
      cases hs
      exact⟨_,rfl,_,_,0,_,rfl,rfl,SqT.of e,rfl,_,rfl,_,_,1,_,rfl,rfl,SqT.of e,rfl,_,_,rfl,rfl,q'⟩
  ·rw[tY] at h
   unfold yp at q
   cases ef:rB d with
   |some k=>rw[ef] at h;exact absurd rfl h
   |none=>
    rw[ef] at q
    exact q
end
abbrev kh :Stmt:=inClass (top 23) 0
abbrev gD :Stmt:=inClass (top 23) 2
abbrev md :Stmt:=inClass (top 23) 3
abbrev pF :Stmt:=inClass (top 24) 0
abbrev nQ :Stmt:=inClass (top 25) 0
abbrev zh0 :Stmt:=inClass (top 26) 0
abbrev pq :Stmt:=inClass (top 27) 0
abbrev lE :Stmt:=inClass (top 28) 0
abbrev mC :Stmt:=inClass (top 29) 0
abbrev fL :Stmt:=inClass (top 30) 0
abbrev nW :Stmt:=top 32
abbrev qL :Stmt:=top 33
abbrev lq :Stmt:=top 34
abbrev pC :Stmt:=top 35
abbrev eQ :Stmt:=top 36
abbrev qQ :Stmt:=top 37
structure lu (mg:Str→Option Value)(fW fI fP fD fPD fS fC fDl fWo fR fM:Addr)(cs:Cs):Prop where
 d:oX mg fW fI fP fD fPD
 coinsMost:∃t,mg "MOST_COINS"=some (.int 1000000000000 t)
 stretch:mg "is_stretch"=some (.ref fS)
 coins:mg "is_coins"=some (.ref fC)
 deal:mg "is_deal"=some (.ref fDl)
 worth:mg "is_worth"=some (.ref fWo)
 rule:mg "is_rule"=some (.ref fR)
 made:mg "made"=some (.ref fM)
 cPrice:mg "Price"=some (.ref cs.price)
 cCome:mg "Come"=some (.ref cs.come)
 cGo:mg "Go"=some (.ref cs.go)
 cLeast:mg "Least"=some (.ref cs.least)
 cMost:mg "Most"=some (.ref cs.most)
 cDeal:mg "Deal"=some (.ref cs.deal)
 cFee:mg "Fee"=some (.ref cs.fee)
section
variable {P:Program}{w:World}{K:PySem.W.Frag}{mg:Str→Option Value}{base:Heap}{fW fI fP fD fPD fS fC fDl fWo fR fM:Addr}{cs:Cs}
theorem zj3 :zp ["self","first","last","worth"] ["self","first","last","worth"] (zc kh):=⟨rfl,rfl,rfl,by decide +kernel,rfl,by decide +kernel,by decide +kernel⟩
theorem wm {f C fT fE fWd:Addr}{fd:FuncData}(F:Fun K "__init__" "Rule.__init__" kh f fd)(R:xT K C f fT fE fWd):zD P w K mg base CX0 1 f fd ["self","first","last","worth"] (zb3 C):=by
 refine F.ok zj3 (fun vs H Q E h=>?_) (fun cdv A outer s H vs Q E hr h=>?_)
 ·obtain⟨p,dx,x,y,z,rfl,_⟩:=h
  rfl
 ·obtain⟨p,dx,x,y,z,rfl,hp,q⟩:=h
  refine⟨_,zH (qP (pv 0) (pv 1) rfl) (zH (qP (pv 0) (pv 2) rfl) (zA (qP (pv 0) (pv 3) rfl))),?_⟩
  refine⟨_,rfl,_,rfl,p,C,dx,[],rfl,hp,R.cl,R.nf,(by show 0<1000;decide),?_⟩
  refine⟨_,rfl,_,rfl,p,C,dx,_,rfl,zk,R.cl,R.nl,(by show 1<1000;decide),?_⟩
  refine⟨_,rfl,_,rfl,p,C,dx,xI "last" y (xI "first" x []),rfl,zk,R.cl,R.nw,?_,?_⟩
  ·show (if ("first":Str)="last" then _ else _:List (Str×V)).length<1000
   rw[if_neg (fun e=>gB e.symm)]
   show 2<1000
   decide
  ·rw[uf,uf]
   exact q
theorem cb :zp ["self"] ["self"] (zc pF):=⟨rfl,rfl,rfl,by decide +kernel,rfl,by decide +kernel,by decide +kernel⟩
theorem cW :zp ["self"] ["self"] (zc nQ):=⟨rfl,rfl,rfl,by decide +kernel,rfl,by decide +kernel,by decide +kernel⟩
theorem zo0 :zp ["self"] ["self"] (zc zh0):=⟨rfl,rfl,rfl,by decide +kernel,rfl,by decide +kernel,by decide +kernel⟩
theorem dn :zp ["self"] ["self"] (zc pq):=⟨rfl,rfl,rfl,by decide +kernel,rfl,by decide +kernel,by decide +kernel⟩
theorem bc :zp ["self"] ["self"] (zc lE):=⟨rfl,rfl,rfl,by decide +kernel,rfl,by decide +kernel,by decide +kernel⟩
theorem au :zp ["self"] ["self"] (zc mC):=⟨rfl,rfl,rfl,by decide +kernel,rfl,by decide +kernel,by decide +kernel⟩
theorem zf2 :zp ["self"] ["self"] (zc fL):=⟨rfl,rfl,rfl,by decide +kernel,rfl,by decide +kernel,by decide +kernel⟩
theorem rJ {f:Addr}{fd:FuncData}(F:Fun K "word" "Price.word" pF f fd):zD P w K mg base CX0 1 f fd ["self"] (wG "price"):=by
 refine F.ok cb (fun vs H Q E h=>?_) (fun cdv A outer s H vs Q E hr h=>?_)
 ·obtain⟨p,rfl,_⟩:=h;rfl
 ·obtain⟨p,rfl,q⟩:=h;exact⟨_,zA (zE yf),q⟩
theorem oN {f:Addr}{fd:FuncData}(F:Fun K "word" "Come.word" nQ f fd):zD P w K mg base CX0 1 f fd ["self"] (wG "come"):=by
 refine F.ok cW (fun vs H Q E h=>?_) (fun cdv A outer s H vs Q E hr h=>?_)
 ·obtain⟨p,rfl,_⟩:=h;rfl
 ·obtain⟨p,rfl,q⟩:=h;exact⟨_,zA (zE yf),q⟩
theorem iL {f:Addr}{fd:FuncData}(F:Fun K "word" "Go.word" zh0 f fd):zD P w K mg base CX0 1 f fd ["self"] (wG "go"):=by
 refine F.ok zo0 (fun vs H Q E h=>?_) (fun cdv A outer s H vs Q E hr h=>?_)
 ·obtain⟨p,rfl,_⟩:=h;rfl
 ·obtain⟨p,rfl,q⟩:=h;exact⟨_,zA (zE yf),q⟩
theorem rF {f:Addr}{fd:FuncData}(F:Fun K "word" "Least.word" pq f fd):zD P w K mg base CX0 1 f fd ["self"] (wG "least"):=by
 refine F.ok dn (fun vs H Q E h=>?_) (fun cdv A outer s H vs Q E hr h=>?_)
 ·obtain⟨p,rfl,_⟩:=h;rfl
 ·obtain⟨p,rfl,q⟩:=h;exact⟨_,zA (zE yf),q⟩
theorem pY {f:Addr}{fd:FuncData}(F:Fun K "word" "Most.word" lE f fd):zD P w K mg base CX0 1 f fd ["self"] (wG "most"):=by
 refine F.ok bc (fun vs H Q E h=>?_) (fun cdv A outer s H vs Q E hr h=>?_)
 ·obtain⟨p,rfl,_⟩:=h;rfl
 ·obtain⟨p,rfl,q⟩:=h;exact⟨_,zA (zE yf),q⟩
theorem oB {f:Addr}{fd:FuncData}(F:Fun K "word" "Deal.word" mC f fd):zD P w K mg base CX0 1 f fd ["self"] (wG "deal"):=by
 refine F.ok au (fun vs H Q E h=>?_) (fun cdv A outer s H vs Q E hr h=>?_)
 ·obtain⟨p,rfl,_⟩:=h;rfl
 ·obtain⟨p,rfl,q⟩:=h;exact⟨_,zA (zE yf),q⟩
theorem ky {f:Addr}{fd:FuncData}(F:Fun K "word" "Fee.word" fL f fd):zD P w K mg base CX0 1 f fd ["self"] (wG "fee"):=by
 refine F.ok zf2 (fun vs H Q E h=>?_) (fun cdv A outer s H vs Q E hr h=>?_)
 ·obtain⟨p,rfl,_⟩:=h;rfl
 ·obtain⟨p,rfl,q⟩:=h;exact⟨_,zA (zE yf),q⟩
theorem zi8 :zp ["self"] ["self"] (zc gD):=⟨rfl,rfl,rfl,by decide +kernel,rfl,by decide +kernel,by decide +kernel⟩
theorem cR (x y z:V):(wO x y z).lookup ("word":Str)=none:=cE x y z (by decide +kernel) (by decide +kernel) (by decide +kernel)
theorem wy {f C fIn fE fWd:Addr}{fd fdW:FuncData}{wd:Str}(F:Fun K "told" "Rule.told" gD f fd)(R:xT K C fIn f fE fWd)(GW:zD P w K mg base CX0 1 fWd fdW ["self"] (wG wd))(bW:Binds K fdW ["self"] []):
  zD P w K mg base CX0 2 f fd ["self"] (hV C wd):=by
 refine F.ok zi8 (fun vs H Q E h=>?_) (fun cdv A outer s H vs Q E hr h=>?_)
 ·obtain⟨p,dx,x,y,z,rfl,_⟩:=h
  rfl
 ·obtain⟨p,dx,x,y,z,rfl,hp,q⟩:=h
  refine⟨_,zA (zE (tX (zf (oF (pv 0) R.cl R.word GW hr bW .nil zX) (zf (uD (pv 0) rfl) (zf (uD (pv 0) rfl) (zf (uD (pv 0) rfl) zu)))))),?_⟩
  refine⟨_,rfl,p,dx,_,rfl,hp,cR _ _ _,p,rfl,?_⟩
  exact⟨_,rfl,p,C,dx,_,_,rfl,hp,R.cl,R.nf,sH _ _ _,_,rfl,p,C,dx,_,_,rfl,hp,R.cl,R.nl,rV _ _ _,_,rfl,p,C,dx,_,_,rfl,hp,R.cl,R.nw,mH _ _ _,(by show 4≤sizeLine;decide),q⟩
theorem aB :zp ["self","day"] ["self","day"] (zc md):=⟨rfl,rfl,rfl,by decide +kernel,rfl,by decide +kernel,by decide +kernel⟩
theorem xy {f C fIn fT fWd:Addr}{fd:FuncData}(F:Fun K "tells" "Rule.tells" md f fd)(R:xT K C fIn fT f fWd):zD P w K mg base CX0 1 f fd ["self","day"] (ko C):=by
 refine F.ok aB (fun vs H Q E h=>?_) (fun cdv A outer s H vs Q E hr h=>?_)
 ·obtain⟨p,dx,a,b,day,z,rfl,_⟩:=h
  rfl
 ·obtain⟨p,dx,a,b,day,z,rfl,hp,q⟩:=h
  refine⟨_,zA (zE (oz pJ pJ (uD (pv 0) rfl) (pv 1) (uD (pv 0) rfl))),?_⟩
  refine⟨_,rfl,p,C,dx,_,_,rfl,hp,R.cl,R.nf,sH _ _ _,_,rfl,_,_,rfl,rfl,_,rfl,?_⟩
  refine yB (fun h=>?_) (fun h=>?_)
  ·rw[h,zz6] at q
   exact⟨_,rfl,p,C,dx,_,_,rfl,hp,R.cl,R.nl,rV _ _ _,_,_,rfl,rfl,q⟩
  ·rw[zw3.mpr h,zz8] at q
   exact q
theorem bH :zp ["thing"] ["thing"] (zc nW):=⟨rfl,rfl,rfl,by decide +kernel,rfl,by decide +kernel,by decide +kernel⟩
theorem dX {f:Addr}{fd fdI:FuncData}(F:Fun K "is_coins" "is_coins" nW f fd)(T:lu mg fW fI fP fD fPD fS fC fDl fWo fR fM cs)(GI:zD P w K mg base CX0 2 fI fdI ["thing","lowest","highest"] vh)(kI:PySem.W.keepIn K (.ref fI)=true)(bI:Binds K fdI ["thing","lowest","highest"] []):
  zD P w K mg base CX0 3 f fd ["thing"] (yL vb):=by
 obtain⟨tl,hl⟩:=T.coinsMost
 refine F.ok bH (fun vs H Q E h=>?_) (fun cdv A outer s H vs Q E hr h=>?_)
 ·obtain⟨x,d,rfl,_⟩:=h
  rfl
 ·obtain⟨x,d,rfl,hd,q⟩:=h
  refine⟨_,zA (zE (zP GI hr (by rfl) T.d.within kI bI .nil zX (zf (pv 0) (zf zq (zf (ub (v:=.int 1000000000000) (by rfl) hl ⟨tl,rfl⟩) zu))))),?_⟩
  exact⟨_,rfl,x,d,_,_,rfl,hd,q⟩
theorem gE :zp ["thing"] ["thing"] (zc qL):=⟨rfl,rfl,rfl,by decide +kernel,rfl,by decide +kernel,by decide +kernel⟩
theorem jy {f:Addr}{fd fdI fdP:FuncData}(F:Fun K "is_deal" "is_deal" qL f fd)(T:lu mg fW fI fP fD fPD fS fC fDl fWo fR fM cs)(GI:zD P w K mg base CX0 2 fI fdI ["thing","lowest","highest"] vh)(kI:PySem.W.keepIn K (.ref fI)=true)(bI:Binds K fdI ["thing","lowest","highest"] [])
  (GP:zD P w K mg base CX0 1 fP fdP ["thing"] (yL pairD)) (kP:PySem.W.keepIn K (.ref fP)=true) (bP:Binds K fdP ["thing"] []):zD P w K mg base CX0 3 f fd ["thing"] (yL ur):=by
 obtain⟨tm,hm⟩:=T.d.most
 refine F.ok gE (fun vs H Q E h=>?_) (fun cdv A outer s H vs Q E hr h=>?_)
 ·obtain⟨x,d,rfl,_⟩:=h
  rfl
 ·obtain⟨x,d,rfl,hd,q⟩:=h
  have hr1:zL 1 _:=hr.mono (by decide)
  refine⟨_,zA (zE (xj (zP GP hr1 (by rfl) T.d.pair kP bP .nil zX (zf (pv 0) zu))
   (xj (zP GI hr (by rfl) T.d.within kI bI .nil zX (zf (zM yz (pv 0) zq (fun _ _=>rfl)) (zf zq (zf (ub (v:=.int 14) (by rfl) hm ⟨tm,rfl⟩) zu))))
   (xX (zP GI hr (by rfl) T.d.within kI bI .nil zX (zf (zM yz (pv 0) zq (fun _ _=>rfl)) (zf zq (zf (yw iW (zM yz (pv 0) zq (fun _ _=>rfl)) zq) zu)))))))),?_⟩
  refine⟨_,rfl,x,d,rfl,hd,_,rfl,?_⟩
  refine yB (fun h=>?_) (fun h=>?_)
  ·obtain⟨a,b,rfl⟩:=uN h
   cases hd with
   |tup e hs=>
    cases hs with
    |cons ha hs=>
     cases hs with
     |cons hb hs=>
      cases hs
      refine⟨_,rfl,_,_,0,_,rfl,rfl,SqT.of e,rfl,_,_,_,_,rfl,ha,_,rfl,?_⟩
      cases ha with
      |int m=>
       have q':Q (.bl (yn 2 14 (.int m)&&yn 1 (m-1) b)) H:=q
       refine yB (fun h=>?_) (fun h=>?_)
       ·rw[h,zz6] at q'
        exact⟨_,rfl,_,_,1,_,rfl,rfl,SqT.of e,rfl,_,rfl,_,_,0,_,rfl,rfl,SqT.of e,rfl,_,_,rfl,rfl,_,_,_,_,rfl,hb,q'⟩
       ·rw[zw3.mpr h,zz8] at q'
        exact q'
      |_=>exact rh q
  ·have e:ur d=false:=by
    unfold ur
    split
    ·exact absurd rfl h
    ·rfl
   rw[e] at q
   exact q
theorem bK :zp ["word","thing"] ["word","thing"] (zc lq):=⟨rfl,rfl,rfl,by decide +kernel,rfl,by decide +kernel,by decide +kernel⟩
theorem fw {f:Addr}{fd fdI fdC fdDl:FuncData}(F:Fun K "is_worth" "is_worth" lq f fd)(T:lu mg fW fI fP fD fPD fS fC fDl fWo fR fM cs)(GI:zD P w K mg base CX0 2 fI fdI ["thing","lowest","highest"] vh)(kI:PySem.W.keepIn K (.ref fI)=true)(bI:Binds K fdI ["thing","lowest","highest"] [])
  (GC:zD P w K mg base CX0 3 fC fdC ["thing"] (yL vb)) (kC:PySem.W.keepIn K (.ref fC)=true) (bC:Binds K fdC ["thing"] []) (GDl:zD P w K mg base CX0 3 fDl fdDl ["thing"] (yL ur)) (kDl:PySem.W.keepIn K (.ref fDl)=true) (bDl:Binds K fdDl ["thing"] []):
  zD P w K mg base CX0 4 f fd ["word","thing"] kd:=by
 obtain⟨tm,hm⟩:=T.d.most
 refine F.ok bK (fun vs H Q E h=>?_) (fun cdv A outer s H vs Q E hr h=>?_)
 ·obtain⟨x,y,dw,dv,rfl,_⟩:=h
  rfl
 ·obtain⟨x,y,dw,dv,rfl,hx,sw,hy,q⟩:=h
  have hr2:zL 2 _:=hr.mono (by decide)
  have hu:=hr.units
  have st:∀{z:Str},z∈words→SeqAt.shaped (.str z)=true:=fun {z} hz=>nY (by
   simp only[words,zt4,zt9,zv5] at hz
   rcases hz with rfl|rfl|rfl|rfl|rfl|rfl|rfl<;>decide +kernel)
  unfold zG at q
  -- if word == 'price'
  refine yc (fun σ H1=>σ=[some x,some y]∧eqS dw "price"=false∧H=H1)
   ⟨_,xR (yh (wU hu) (pv 0) yf (zJ _)) (zA (zE (aX (xQ mf (pv 1) qE (zJ _)) (xX (zP GC hr (by rfl) T.coins kC bC .nil zX (zf (pv 1) zu)))))) yA,?_⟩ ?_
  ·refine⟨_,rfl,dw,.str "price",hx,.str _,sw,st (by simp[words]),_,rfl,?_⟩
   refine yB (fun h=>?_) (fun h=>⟨rfl,zw3.mpr h,rfl⟩)
   rw[if_pos h] at q
   refine⟨_,rfl,rfl,_,rfl,?_⟩
   rw[hy.non_iff]
   refine yB (fun h2=>?_) (fun h2=>?_)
   ·rw[h2,Bool.true_or] at q
    exact q
   ·rw[zw3.mpr h2,zI8] at q
    exact⟨_,rfl,y,dv,rfl,hy,q⟩
  rintro σ H1 ⟨rfl,e1,rfl⟩
  rw[e1,if_neg zu3] at q
  -- if word == 'come' or word == 'go'
  refine yc (fun σ H1=>σ=[some x,some y]∧(eqS dw "come"||eqS dw "go")=false∧H=H1)
   ⟨_,xR (PW.pt (gq (yh (wU hu) (pv 0) yf (zJ _)) (lB (yh (wU hu) (pv 0) yf (zJ _))))) (zA (zE (yj wa (by rfl) T.d.isi zG0 (zf (pv 1) (zf (uc (v:=.ty "bool") (by rfl) T.d.bool boot_bool rfl) zu))))) yA,?_⟩ ?_
  ·refine⟨_,rfl,dw,.str "come",hx,.str _,sw,st (by simp[words]),_,rfl,?_⟩
   refine yB (fun h=>?_) (fun h=>?_)
   ·have h':eqS dw "come"=true:=h
    rw[h',Bool.true_or,if_pos rfl] at q
    exact sV ⟨_,rfl,y,"bool",dv,_,rfl,hy,sx dv,q⟩
   ·have h':eqS dw "come"=false:=zw3.mpr h
    refine⟨_,rfl,dw,.str "go",hx,.str _,sw,st (by simp[words]),_,rfl,?_⟩
    refine yB (fun h2=>?_) (fun h2=>?_)
    ·have h2':eqS dw "go"=true:=h2
     rw[h',h2',zI8,if_pos rfl] at q
     exact⟨_,rfl,y,"bool",dv,_,rfl,hy,sx dv,q⟩
    ·have h2':eqS dw "go"=false:=zw3.mpr h2
     exact⟨rfl,by rw[h',h2'];rfl,rfl⟩
  rintro σ H1 ⟨rfl,e2,rfl⟩
  rw[e2,if_neg zu3] at q
  -- if word == 'least' or word == 'most'
  refine yc (fun σ H1=>σ=[some x,some y]∧(eqS dw "least"||eqS dw "most")=false∧H=H1)
   ⟨_,xR (PW.pt (gq (yh (wU hu) (pv 0) yf (zJ _)) (lB (yh (wU hu) (pv 0) yf (zJ _))))) (zA (zE (zP GI hr2 (by rfl) T.d.within kI bI .nil zX (zf (pv 1) (zf zq (zf (ub (v:=.int 14) (by rfl) hm ⟨tm,rfl⟩) zu)))))) yA,?_⟩ ?_
  ·refine⟨_,rfl,dw,.str "least",hx,.str _,sw,st (by simp[words]),_,rfl,?_⟩
   refine yB (fun h=>?_) (fun h=>?_)
   ·have h':eqS dw "least"=true:=h
    rw[h',Bool.true_or,if_pos rfl] at q
    exact sV ⟨_,rfl,y,dv,_,_,rfl,hy,q⟩
   ·have h':eqS dw "least"=false:=zw3.mpr h
    refine⟨_,rfl,dw,.str "most",hx,.str _,sw,st (by simp[words]),_,rfl,?_⟩
    refine yB (fun h2=>?_) (fun h2=>?_)
    ·have h2':eqS dw "most"=true:=h2
     rw[h',h2',zI8,if_pos rfl] at q
     exact⟨_,rfl,y,dv,_,_,rfl,hy,q⟩
    ·have h2':eqS dw "most"=false:=zw3.mpr h2
     exact⟨rfl,by rw[h',h2'];rfl,rfl⟩
  rintro σ H1 ⟨rfl,e3,rfl⟩
  rw[e3,if_neg zu3] at q
  -- if word == 'deal'
  refine yc (fun σ H1=>σ=[some x,some y]∧eqS dw "deal"=false∧H=H1)
   ⟨_,xR (yh (wU hu) (pv 0) yf (zJ _)) (zA (zE (aX (xQ mf (pv 1) qE (zJ _)) (xX (zP GDl hr (by rfl) T.deal kDl bDl .nil zX (zf (pv 1) zu)))))) yA,?_⟩ ?_
  ·refine⟨_,rfl,dw,.str "deal",hx,.str _,sw,st (by simp[words]),_,rfl,?_⟩
   refine yB (fun h=>?_) (fun h=>⟨rfl,zw3.mpr h,rfl⟩)
   rw[if_pos h] at q
   refine⟨_,rfl,rfl,_,rfl,?_⟩
   rw[hy.non_iff]
   refine yB (fun h2=>?_) (fun h2=>?_)
   ·rw[h2,Bool.true_or] at q
    exact q
   ·rw[zw3.mpr h2,zI8] at q
    exact⟨_,rfl,y,dv,rfl,hy,q⟩
  rintro σ H1 ⟨rfl,e4,rfl⟩
  rw[e4,if_neg zu3] at q
  refine⟨_,zA (zE (xj (xQ (wU hu) (pv 0) yf (zJ _)) (xX (zP GC hr (by rfl) T.coins kC bC .nil zX (zf (pv 1) zu))))),?_⟩
  refine⟨_,rfl,dw,.str "fee",hx,.str _,sw,st (by simp[words]),_,rfl,?_⟩
  refine yB (fun h=>?_) (fun h=>?_)
  ·have h':eqS dw "fee"=true:=h
   rw[h',zz6] at q
   exact⟨_,rfl,y,dv,rfl,hy,q⟩
  ·have h':eqS dw "fee"=false:=zw3.mpr h
   rw[h',zz8] at q
   exact q
theorem eW :zp ["thing"] ["thing"] (zc pC):=⟨rfl,rfl,rfl,by decide +kernel,rfl,by decide +kernel,by decide +kernel⟩
theorem iw {f:Addr}{fd fdS fdWo:FuncData}(F:Fun K "is_rule" "is_rule" pC f fd)(T:lu mg fW fI fP fD fPD fS fC fDl fWo fR fM cs)(GS:zD P w K mg base CX0 5 fS fdS ["thing"] (yL yp))(kS:PySem.W.keepIn K (.ref fS)=true)(bS:Binds K fdS ["thing"] [])
  (GW:zD P w K mg base CX0 4 fWo fdWo ["word","thing"] kd) (kW:PySem.W.keepIn K (.ref fWo)=true) (bW:Binds K fdWo ["word","thing"] []):zD P w K mg base CX0 6 f fd ["thing"] eV:=by
 refine F.ok eW (fun vs H Q E h=>?_) (fun cdv A outer s H vs Q E hr h=>?_)
 ·obtain⟨x,d,rfl,_⟩:=h
  rfl
 ·obtain⟨x,d,rfl,hd,sd,q⟩:=h
  have hr4:zL 4 _:=hr.mono (by decide)
  refine⟨_,zA (zE (xj (yj wa (by rfl) T.d.isi zG0 (zf (pv 0) (zf (uc (v:=.ty "tuple") (by rfl) T.d.tuple boot_tuple rfl) zu)))
   (xj (xQ wK (yj yt (by rfl) T.d.len zC5 (zf (pv 0) zu)) zq (zJ _))
   (xj (zP GS hr (by rfl) T.stretch kS bS .nil zX (zf (tX (zf (zM yz (pv 0) zq (fun _ _=>rfl)) (zf (zM yz (pv 0) zq (fun _ _=>rfl)) zu))) zu))
   (xX (zP GW hr4 (by rfl) T.worth kW bW .nil zX (zf (zM yz (pv 0) zq (fun _ _=>rfl)) (zf (zM yz (pv 0) zq (fun _ _=>rfl)) zu)))))))),?_⟩
  refine⟨_,rfl,x,"tuple",d,_,rfl,hd,rR d,_,rfl,?_⟩
  cases hd with
  |@tup a xs ds e hs=>
   refine sV ⟨_,rfl,a,_,rfl,.inr (SqT.of e),rfl,_,rfl,?_⟩
   cases hs with
   |nil=>exact yB (fun h=>absurd h (by simp)) (fun _=>q H (zC.refl H))
   |@cons xw _ dw _ hw hs=>
   cases hs with
   |nil=>exact yB (fun h=>absurd h (by simp)) (fun _=>q H (zC.refl H))
   |@cons xa _ da _ ha hs=>
   cases hs with
   |nil=>exact yB (fun h=>absurd h (by simp)) (fun _=>q H (zC.refl H))
   |@cons xb _ db _ hb hs=>
   cases hs with
   |nil=>exact yB (fun h=>absurd h (by simp)) (fun _=>q H (zC.refl H))
   |@cons xv _ dv _ hv hs=>
   cases hs with
   |cons _ _=>exact yB (fun h=>absurd h (by simp;omega)) (fun _=>q H (zC.refl H))
   |nil=>
    refine yB (fun _=>?_) (fun h=>absurd rfl h)
    refine⟨_,rfl,a,_,1,_,rfl,rfl,SqT.of e,rfl,_,rfl,a,_,2,_,rfl,rfl,SqT.of e,rfl,(by show 2≤sizeLine;decide),fun p hp=>?_⟩
    have s1:zC H (upd H p (.tup [xa,xb])):=yr hp
    refine⟨_,.tuple [da,db],rfl,.tup zk (.cons (ha.same s1) (.cons (hb.same s1) .nil)),_,rfl,?_⟩
    have q':Q (.bl (yp (.tuple [da,db])&&zG dw dv)) (upd H p (.tup [xa,xb])):=q _ s1
    refine yB (fun h=>?_) (fun h=>?_)
    ·rw[h,zz6] at q'
     exact⟨_,rfl,a,_,0,_,rfl,rfl,SqT.of (s1 _ _ e),rfl,_,rfl,a,_,3,_,rfl,rfl,SqT.of (s1 _ _ e),rfl,_,_,_,_,rfl,hw.same s1,qH sd dw (by simp),hv.same s1,q'⟩
    ·rw[zw3.mpr h,zz8] at q'
     exact q'
  |_=>exact rh (q H (zC.refl H))
end
section
variable {P:Program}{w:World}{K:PySem.W.Frag}{mg:Str→Option Value}{base:Heap}{fW fI fP fD fPD fS fC fDl fWo fR fM:Addr}{cs:Cs}
structure fb (K:PySem.W.Frag)(cs:Cs)(fIn fTo fTe w1 w2 w3 w4 w5 w6 w7:Addr):Prop where
 price:xT K cs.price fIn fTo fTe w1
 come:xT K cs.come fIn fTo fTe w2
 go:xT K cs.go fIn fTo fTe w3
 least:xT K cs.least fIn fTo fTe w4
 most:xT K cs.most fIn fTo fTe w5
 deal:xT K cs.deal fIn fTo fTe w6
 fee:xT K cs.fee fIn fTo fTe w7
theorem vf (cs:Cs):cs.of "price"=cs.price:=by unfold Cs.of;rw[if_pos rfl]
theorem uo (cs:Cs):cs.of "come"=cs.come:=by unfold Cs.of;rw[if_neg (by decide +kernel),if_pos rfl]
theorem om (cs:Cs):cs.of "go"=cs.go:=by unfold Cs.of;rw[if_neg (by decide +kernel),if_neg (by decide +kernel),if_pos rfl]
theorem vn (cs:Cs):cs.of "least"=cs.least:=by unfold Cs.of;rw[if_neg (by decide +kernel),if_neg (by decide +kernel),if_neg (by decide +kernel),if_pos rfl]
theorem uk (cs:Cs):cs.of "most"=cs.most:=by unfold Cs.of;rw[if_neg (by decide +kernel),if_neg (by decide +kernel),if_neg (by decide +kernel),if_neg (by decide +kernel),if_pos rfl]
theorem um (cs:Cs):cs.of "deal"=cs.deal:=by unfold Cs.of;rw[if_neg (by decide +kernel),if_neg (by decide +kernel),if_neg (by decide +kernel),if_neg (by decide +kernel),if_neg (by decide +kernel),if_pos rfl]
theorem sZ (cs:Cs):cs.of "fee"=cs.fee:=by unfold Cs.of;rw[if_neg (by decide +kernel),if_neg (by decide +kernel),if_neg (by decide +kernel),if_neg (by decide +kernel),if_neg (by decide +kernel),if_neg (by decide +kernel)]
theorem uH {x y:Str}(h:decide (V.str x=V.str y)=true):x=y:=by
 have:=of_decide_eq_true h
 injection this
theorem uG {x y:Str}(h:¬decide (V.str x=V.str y)=true):x≠y:=fun e=>h (by rw[e];exact zE2 rfl)
theorem xE {C p dx:Addr}{H:Hp}{x y z:V}{Q:VK}(k:∀(p dx:Addr) (H':Hp),H' p=some (.ins C dx (wO x y z))→H p=none→zC H H'→Q (.ref p) H')(hp:H p=none)(hx:H dx=none)(n:dx≠p):
  Q (.ref p) (upd (upd (upd H dx (.own p)) p (.ins C dx [])) p (.ins C dx (wO x y z))):=by
 refine k p dx _ zk hp fun a o e=>?_
 rw[uf,zd (zo e hp),zd (zo e hx)]
 exact e
theorem zd2 :zp ["word","first","last","worth"] ["word","first","last","worth"] (zc eQ):=⟨rfl,rfl,rfl,by decide +kernel,rfl,by decide +kernel,by decide +kernel⟩
set_option maxHeartbeats 4000000 in
theorem bq {f fIn fTo fTe w1 w2 w3 w4 w5 w6 w7:Addr}{fd fdIn:FuncData}(F:Fun K "made" "made" eQ f fd)(T:lu mg fW fI fP fD fPD fS fC fDl fWo fR fM cs)(A7:fb K cs fIn fTo fTe w1 w2 w3 w4 w5 w6 w7)
  (FI:Fun K "__init__" "Rule.__init__" kh fIn fdIn) (bI:Binds K fdIn ["self","first","last","worth"] []):zD P w K mg base CX0 3 f fd ["word","first","last","worth"] (fX cs):=by
 refine F.ok zd2 (fun vs H Q E h=>?_) (fun cdv A outer s H vs Q E hr h=>?_)
 ·obtain⟨wd,x,y,z,rfl,_⟩:=h
  rfl
 ·obtain⟨wd,x,y,z,rfl,hw,k⟩:=h
  refine yc (fun σ H1=>σ=[some (.str wd),some x,some y,some z]∧wd≠"price"∧H=H1)
   ⟨_,xR (yh wK (pv 0) yf (zJ _)) (zA (zE (xN A7.price.makes (wm FI A7.price) hr (by rfl) T.cPrice bI .nil zX (zf (pv 1) (zf (pv 2) (zf (pv 3) zu)))))) yA,?_⟩ ?_
  ·refine⟨_,rfl,rfl,_,rfl,yB (fun h=>?_) (fun h=>⟨rfl,uG h,rfl⟩)⟩
   rw[uH h,vf] at k
   exact⟨_,rfl,_,rfl,_,rfl,fun p dx hp hx n=>⟨p,dx,_,_,_,rfl,zk,rfl,xE k hp hx n⟩⟩
  rintro σ H1 ⟨rfl,n1,rfl⟩
  refine yc (fun σ H1=>σ=[some (.str wd),some x,some y,some z]∧wd≠"come"∧H=H1)
   ⟨_,xR (yh wK (pv 0) yf (zJ _)) (zA (zE (xN A7.come.makes (wm FI A7.come) hr (by rfl) T.cCome bI .nil zX (zf (pv 1) (zf (pv 2) (zf (pv 3) zu)))))) yA,?_⟩ ?_
  ·refine⟨_,rfl,rfl,_,rfl,yB (fun h=>?_) (fun h=>⟨rfl,uG h,rfl⟩)⟩
   rw[uH h,uo] at k
   exact⟨_,rfl,_,rfl,_,rfl,fun p dx hp hx n=>⟨p,dx,_,_,_,rfl,zk,rfl,xE k hp hx n⟩⟩
  rintro σ H1 ⟨rfl,n2,rfl⟩
  refine yc (fun σ H1=>σ=[some (.str wd),some x,some y,some z]∧wd≠"go"∧H=H1)
   ⟨_,xR (yh wK (pv 0) yf (zJ _)) (zA (zE (xN A7.go.makes (wm FI A7.go) hr (by rfl) T.cGo bI .nil zX (zf (pv 1) (zf (pv 2) (zf (pv 3) zu)))))) yA,?_⟩ ?_
  ·refine⟨_,rfl,rfl,_,rfl,yB (fun h=>?_) (fun h=>⟨rfl,uG h,rfl⟩)⟩
   rw[uH h,om] at k
   exact⟨_,rfl,_,rfl,_,rfl,fun p dx hp hx n=>⟨p,dx,_,_,_,rfl,zk,rfl,xE k hp hx n⟩⟩
  rintro σ H1 ⟨rfl,n3,rfl⟩
  refine yc (fun σ H1=>σ=[some (.str wd),some x,some y,some z]∧wd≠"least"∧H=H1)
   ⟨_,xR (yh wK (pv 0) yf (zJ _)) (zA (zE (xN A7.least.makes (wm FI A7.least) hr (by rfl) T.cLeast bI .nil zX (zf (pv 1) (zf (pv 2) (zf (pv 3) zu)))))) yA,?_⟩ ?_
  ·refine⟨_,rfl,rfl,_,rfl,yB (fun h=>?_) (fun h=>⟨rfl,uG h,rfl⟩)⟩
   rw[uH h,vn] at k
   exact⟨_,rfl,_,rfl,_,rfl,fun p dx hp hx n=>⟨p,dx,_,_,_,rfl,zk,rfl,xE k hp hx n⟩⟩
  rintro σ H1 ⟨rfl,n4,rfl⟩
  refine yc (fun σ H1=>σ=[some (.str wd),some x,some y,some z]∧wd≠"most"∧H=H1)
   ⟨_,xR (yh wK (pv 0) yf (zJ _)) (zA (zE (xN A7.most.makes (wm FI A7.most) hr (by rfl) T.cMost bI .nil zX (zf (pv 1) (zf (pv 2) (zf (pv 3) zu)))))) yA,?_⟩ ?_
  ·refine⟨_,rfl,rfl,_,rfl,yB (fun h=>?_) (fun h=>⟨rfl,uG h,rfl⟩)⟩
   rw[uH h,uk] at k
   exact⟨_,rfl,_,rfl,_,rfl,fun p dx hp hx n=>⟨p,dx,_,_,_,rfl,zk,rfl,xE k hp hx n⟩⟩
  rintro σ H1 ⟨rfl,n5,rfl⟩
  refine yc (fun σ H1=>σ=[some (.str wd),some x,some y,some z]∧wd≠"deal"∧H=H1)
   ⟨_,xR (yh wK (pv 0) yf (zJ _)) (zA (zE (xN A7.deal.makes (wm FI A7.deal) hr (by rfl) T.cDeal bI .nil zX (zf (pv 1) (zf (pv 2) (zf (pv 3) zu)))))) yA,?_⟩ ?_
  ·refine⟨_,rfl,rfl,_,rfl,yB (fun h=>?_) (fun h=>⟨rfl,uG h,rfl⟩)⟩
   rw[uH h,um] at k
   exact⟨_,rfl,_,rfl,_,rfl,fun p dx hp hx n=>⟨p,dx,_,_,_,rfl,zk,rfl,xE k hp hx n⟩⟩
  rintro σ H1 ⟨rfl,n6,rfl⟩
  have e7:wd="fee":=by
   simp only[words,zt4,zt9,zv5] at hw
   rcases hw with e|e|e|e|e|e|e
   ·exact absurd e n1
   ·exact absurd e n2
   ·exact absurd e n3
   ·exact absurd e n4
   ·exact absurd e n5
   ·exact absurd e n6
   ·exact e
  rw[e7,sZ] at k
  refine⟨_,zA (zE (xN A7.fee.makes (wm FI A7.fee) hr (by rfl) T.cFee bI .nil zX (zf (pv 1) (zf (pv 2) (zf (pv 3) zu))))),?_⟩
  exact⟨_,rfl,_,rfl,_,rfl,fun p dx hp hx n=>⟨p,dx,_,_,_,rfl,zk,rfl,xE k hp hx n⟩⟩
theorem fV :zp ["thing"] ["thing"] (zc qQ):=⟨rfl,rfl,rfl,by decide +kernel,rfl,by decide +kernel,by decide +kernel⟩
theorem iF {f:Addr}{fd fdR fdM:FuncData}(F:Fun K "rule_of" "rule_of" qQ f fd)(T:lu mg fW fI fP fD fPD fS fC fDl fWo fR fM cs)(GR:zD P w K mg base CX0 6 fR fdR ["thing"] eV)(kR:PySem.W.keepIn K (.ref fR)=true)(bR:Binds K fdR ["thing"] [])
  (GM:zD P w K mg base CX0 3 fM fdM ["word","first","last","worth"] (fX cs)) (kM:PySem.W.keepIn K (.ref fM)=true) (bM:Binds K fdM ["word","first","last","worth"] []):zD P w K mg base CX0 7 f fd ["thing"] (pI cs):=by
 refine F.ok fV (fun vs H Q E h=>?_) (fun cdv A outer s H vs Q E hr h=>?_)
 ·obtain⟨x,d,rfl,_⟩:=h
  rfl
 ·obtain⟨x,d,rfl,hd,sd,k0,k1⟩:=h
  have hr3:zL 3 _:=hr.mono (by decide)
  refine yc (fun σ H1=>σ=[some x]∧xh d=true∧zC H H1)
   ⟨_,xR (dI (fU (zP GR hr (by rfl) T.rule kR bR .nil zX (zf (pv 0) zu)))) (zA (zE qE)) yA,?_⟩ ?_
  ·refine⟨_,rfl,x,d,rfl,hd,sd,fun H1 s1=>⟨_,rfl,?_⟩⟩
   refine yB (fun h=>?_) (fun h=>?_)
   ·exact k0 (by simpa using h) H1 s1
   ·exact⟨rfl,by simpa using h,s1⟩
  rintro σ H1 ⟨rfl,er,s1⟩
  obtain⟨sw,da,db,dv,hsw,rfl⟩:=xS er
  cases hd with
  |@tup r xs ds e hs=>
   cases hs with
   |@cons xw _ _ _ hw hs=>
    cases hw
    cases hs with
    |@cons xa _ _ _ ha hs=>
     cases hs with
     |@cons xb _ _ _ hb hs=>
      cases hs with
      |@cons xv _ _ _ hv hs=>
       cases hs
       have e1:=s1 _ _ e
       refine⟨_,zA (zE (zP GM hr3 (by rfl) T.made kM bM .nil zX (zf (zM yz (pv 0) zq (fun _ _=>rfl)) (zf (zM yz (pv 0) zq (fun _ _=>rfl)) (zf (zM yz (pv 0) zq (fun _ _=>rfl)) (zf (zM yz (pv 0) zq (fun _ _=>rfl)) zu)))))),?_⟩
       refine⟨_,rfl,r,_,0,_,rfl,rfl,SqT.of e1,rfl,_,rfl,r,_,1,_,rfl,rfl,SqT.of e1,rfl,_,rfl,r,_,2,_,rfl,rfl,SqT.of e1,rfl,_,rfl,r,_,3,_,rfl,rfl,SqT.of e1,rfl,sw,_,_,_,rfl,hsw,fun p dx H2 h2 hp s2=>?_⟩
       exact k1 r sw xa xb xv p dx H2 rfl er hsw e h2 (s1.free hp) (s1.trans s2)
end
abbrev eY :Stmt:=top 41
abbrev xl :Stmt:=inClass (top 40) 0
abbrev vA :Stmt:=inClass (top 40) 1
def sI (C:Addr)(a b v:PyData):PyData:=va C [(.str "first",a),(.str "last",b),(.str "worth",v)]
def uZ (cs:Cs):PyData→PyData
 |.tuple [.str w,a,b,v]=>sI (cs.of w) a b v
 |_=>.none
def yP (C:Addr)(cs:Cs)(ds:List PyData):PyData:=va C [(.str "kept",.list (ds.map (uZ cs)))]
def Rules (ds:List PyData):Prop:=∀d∈ds,xh d=true∧SeqAt.shaped d=true∧d.hasDict=false
def sD (cs:Cs):List A→(A→Prop)→Prop:=fun as Q=>∃d,as=[.dat d]∧d.hasDict=false∧SeqAt.shaped d=true∧(xh d=false→Q (.dat .none))∧(xh d=true→Q (.dat (uZ cs d)))
def mG (cs:Cs):List A→(A→Prop)→Prop:=fun as Q=>∃ds,as=[.dat (.list ds)]∧Rules ds∧ds.length≤24∧Q (.own (ds.map (uZ cs)))
def pz (C:Addr)(cs:Cs):List A→(A→Prop)→Prop:=fun as Q=>∃ds,(as=[.dat (.list ds)]∨(as=[.dat .none]∧ds=[]))∧Rules ds∧ds.length≤24∧Q (.dat (yP C cs ds))
def nG (C:Addr)(w:Str):List A→(A→Prop)→Prop:=fun as Q=>∃a b v,as=[.dat (sI C a b v)]∧Q (.dat (.tuple [.str w,a,b,v]))
def qS (C:Addr)(cs:Cs):List A→(A→Prop)→Prop:=fun as Q=>∃ds,as=[.dat (yP C cs ds)]∧Rules ds∧ds.length≤1000∧Q (.own ds)
theorem qY (x y z:V):wO x y z=[(("first":Str),x),(("last":Str),y),(("worth":Str),z)]:=by
 unfold wO
 show xI "worth" z (if ("first":Str)="last" then _ else _)=_
 rw[if_neg (fun e=>gB e.symm)]
 show (if ("first":Str)="worth" then _ else _)=_
 rw[if_neg (fun e=>dN e.symm)]
 show _::(if ("last":Str)="worth" then _ else _)=_
 rw[if_neg (fun e=>fu e.symm)]
 rfl
theorem vT {cs:Cs}{d:PyData}(h:xh d=true):∃(s:Str) (a b v:PyData),s∈words∧d=.tuple [.str s,a,b,v]∧uZ cs d=sI (cs.of s) a b v:=by
 obtain⟨s,a,b,v,hs,rfl⟩:=xS h
 exact⟨s,a,b,v,hs,rfl,rfl⟩
def fF :Scope:=match zB vA with
 |[.Return (some (.ListComp _ _ sc _)) _]=>sc
 |_=>zc vA
section
variable {P:Program}{w:World}{K:PySem.W.Frag}{mg:Str→Option Value}{base:Heap}{cs:Cs}
theorem mO {k:Nat}{f:Addr}{fd:FuncData}{ps:List Str}(hm:mg "rule_of"=some (.ref f))(hk:PySem.W.keepIn K (.ref f)=true)(hb:Binds K fd ps [])(G:zD P w K mg base CX0 k f fd ps (pI cs)):Cal P w K mg base "rule_of" k (sD cs):=by
 refine⟨f,fd,_,hm,hk,hb,G.imp fun vs H Q E h=>?_⟩
 obtain⟨F,as,Q',rfl,t,o,rv,⟨d,rfl,nd,sh,q0,q1⟩,kk⟩:=h
 obtain⟨x,rfl,av⟩:=rv.one
 have oo:∀{a:Addr},F.H0 a=none→¬F.O0 a:=fun {a} e z=>by
  obtain⟨u,hu,_⟩:=o a z
  rw[e] at hu;cases hu
 refine⟨x,d,rfl,(av.dv nd).same wb,sh,fun hr H' s=>kk _ _ _ (q0 hr) ⟨t.same s,Kz.of_same s,.non⟩,fun r wd x1 x2 x3 p dx H' hx hr hw he hp' hp s=>kk _ _ _ (q1 hr) ⟨t.same s,Kz.of_same s,?_⟩⟩
 subst hx
 obtain⟨s',a,b,v,_,rfl⟩:=xS hr
 obtain⟨r',xs,e1,e2,e3⟩:=av.tup_inv
 cases e1
 have e4:=(zm e2).2
 rw[he] at e4
 cases e4
 have gs:zC (sub (fun x=>¬F.O0 x) F.H0) (sub (fun x=>¬F.O0 x) H'):=zv fun a u h e=>⟨h,s _ _ e⟩
 cases e3 with
 |cons g1 e3=>
  cases g1.str_inv
  cases e3 with
  |cons g2 e3=>
   cases e3 with
   |cons g3 e3=>
    cases e3 with
    |cons g4 e3=>
     cases e3
     rw[qY] at hp'
     exact .ins (zF (oo hp) hp') (.cons (g2.same gs) (.cons (g3.same gs) (.cons (g4.same gs) .nil)))
theorem yU {C f fIn fE fWd:Addr}{fd:FuncData}{wd:Str}(R:xT K C fIn f fE fWd)(hb:Binds K fd ["self"] [])(G:zD P w K mg base CX0 2 f fd ["self"] (hV C wd)):we P w K mg base C "told" 2 (nG C wd):=by
 refine⟨f,fd,_,R.cl,R.told,hb,G.imp fun vs H Q E h=>?_⟩
 obtain⟨F,as,Q',rfl,t,o,rv,⟨a,b,v,rfl,q⟩,kk⟩:=h
 obtain⟨x,rfl,av⟩:=rv.one
 obtain⟨p,dx,fs,rfl,h1,h2⟩:=av.ins_inv
 cases h2 with
 |cons g1 h2=>
  cases h2 with
  |cons g2 h2=>
   cases h2 with
   |cons g3 h2=>
    cases h2
    refine⟨p,dx,_,_,_,rfl,by rw[qY];exact (zm h1).2,fun r hr=>kk _ _ _ q ⟨t.same (yr hr),Kz.of_same (yr hr),?_⟩⟩
    have gs:∀o':HO,zC (sub (fun x=>¬F.O0 x) F.H0) (sub (fun x=>¬F.O0 x) (upd F.H0 r o')):=fun o'=>zv fun a u h e=>⟨h,by rw[zd (zo e hr)];exact e⟩
    refine .tup (zF (fun z=>?_) zk) (.cons (.str _) (.cons (g1.same (gs _)) (.cons (g2.same (gs _)) (.cons (g3.same (gs _)) .nil))))
    obtain⟨u,hu,_⟩:=o r z
    rw[hr] at hu;cases hu
theorem dJ :zp ["things","kept","number","thing","rule"] ["things"] (zc eY):=⟨rfl,rfl,rfl,by decide +kernel,rfl,by decide +kernel,by decide +kernel⟩
set_option maxHeartbeats 4000000 in
theorem dH {f:Addr}{fd:FuncData}(F:Fun K "kept_rules" "kept_rules" eY f fd)(hm:mg "kept_rules"=some (.ref f))(hb:Binds K fd ["things"] [])(nb:NbT mg)(gM:∃t,mg "MOST_RULES"=some (.int 24 t))(CRO:Cal P w K mg base "rule_of" 7 (sD cs)):Cal P w K mg base "kept_rules" 8 (mG cs):=by
 refine uy F hm hb dJ (fun as Q h=>?_) (fun cdv A' outer s H E as Q hr h=>?_)
 ·obtain⟨ds,rfl,_⟩:=h
  rfl
 ·obtain⟨ds,rfl,rd,hl,q⟩:=h
  refine xt 1 dJ.nd (yW (zt (⟨_,rfl,zv2 rfl,?_⟩)))
  refine wk (pat:=.many [2,3]) zz2 rfl (xC (n:=2) (K:=K) rfl rfl (yC (zI (i:=2) dJ.nd rfl (Or.inl rfl)) (yC (zI (i:=3) dJ.nd rfl (Or.inl rfl)) (wI)))) (kJ (by rfl) nb.enumerate (zj 0 rfl (⟨_,rfl,?_⟩)))
  refine yQ (fun i α=>∃v2 v3 v4,α=[some (.dat (.list ds)),some (.own ((ds.take i).map (uZ cs))),v2,v3,v4]) ⟨none,none,none,rfl⟩ ?_ ?_
  ·rintro i d α hd ⟨v2,v3,v4,rfl⟩
   obtain⟨e,he,rfl⟩:=vB hd
   obtain⟨r1,r2,r3⟩:=rd e (zy0 he)
   have hi:i<ds.length:=(zt5.mp he).1
   refine⟨_,rfl,?_⟩
   refine zW 4 dJ.nd (yq CRO hr (by rfl) (zl (zj 3 rfl (zt (⟨_,rfl,r3,r2,fun z=>(by rw[r1] at z;cases z),fun _=>?_⟩)))))
   refine xP (wB (zj 4 rfl ?_))
   obtain⟨s',a,b,v,hs,rfl,ei⟩:=vT (cs:=cs) r1
   refine tI (fun h=>by rw[show (A.dat (uZ cs (.tuple [.str s',a,b,v]))).d=sI (cs.of s') a b v from rfl] at h;cases h) (fun _=>yo ?_)
   refine yT 1 rfl (zj 4 rfl ⟨by rw[zt1,zz7];omega,?_⟩)
   refine yo ⟨some (.dat (.int ((0+i:Nat):Int))),some (.dat (.tuple [.str s',a,b,v])),some (.dat (uZ cs (.tuple [.str s',a,b,v]))),?_⟩
   rw[zC0,he,zA4]
   rfl
  ·rintro α ⟨v2,v3,v4,rfl⟩
   rw[vI,zE8]
   refine xP (kf 1 rfl (aZ (pe (by rfl) nb.len (zj 1 rfl ⟨_,rfl,iU (by rfl) gM ⟨_,_,rfl,rfl,?_⟩⟩))))
   refine eS (fun h=>?_) (fun _=>yo ?_)
   ·rw[zt1] at h
    omega
   ·exact wA 1 rfl q
theorem zr0 :zp ["self","rules"] ["self","rules"] (zc xl):=⟨rfl,rfl,rfl,by decide +kernel,rfl,by decide +kernel,by decide +kernel⟩
theorem ig {w' v:PyData}(h:zG w' v=true):noL v=true:=by
 have wi:∀{lo hi:Int} {x:PyData},yn lo hi x=true→noL x=true:=fun {lo hi x} h=>by
  cases x with
  |int i=>rfl
  |_=>cases h
 have nn:∀{x:PyData},isNone x=true→noL x=true:=fun {x} h=>by
  cases x with
  |none=>rfl
  |_=>cases h
 unfold zG at h
 split at h
 ·rcases (zB2 _ _).mp h with h|h
  ·exact nn h
  ·exact wi h
 ·split at h
  ·cases v with
   |bool b=>rfl
   |_=>cases h
  ·split at h
   ·exact wi h
   ·split at h
    ·rcases (zB2 _ _).mp h with h|h
     ·exact nn h
     ·unfold ur at h
      split at h
      ·rw[zv1] at h
       simp only[noL,xJ,wi h.2,Bool.and_self]
      ·cases h
    ·rw[zv1] at h
     exact wi h.2
theorem gK {s':Str}{a b v:PyData}(h:xh (.tuple [.str s',a,b,v])=true):noL a=true∧noL b=true∧noL v=true:=by
 have h':(yp (.tuple [a,b])&&zG (.str s') v)=true:=h
 rw[zv1] at h'
 refine⟨?_,?_,ig h'.2⟩
 ·have:=h'.1
  unfold yp rB at this
  split at this
  ·rename_i k e
   split at e
   ·rename_i z;cases z;rfl
   ·cases e
  ·cases this
 ·have:=h'.1
  unfold yp rB at this
  split at this
  ·rename_i k e
   split at e
   ·rename_i z;cases z;rfl
   ·cases e
  ·cases this
theorem oS {ds:List PyData}(rd:Rules ds):xJ (ds.map (uZ cs))=true:=by
 induction ds with
 |nil=>rfl
 |cons d r ih=>
  have ih':=ih fun x hx=>rd x (zu1 _ hx)
  have h1:=(rd d zu8).1
  obtain⟨s',a,b,v,hs,rfl,ei⟩:=vT (cs:=cs) h1
  obtain⟨z1,z2,z3⟩:=gK h1
  rw[zx0,ei]
  simp only[xJ,ih',Bool.and_true]
  simp[sI,va,noL,nL,z1,z2,z3]
theorem fJ {f C:Addr}{dV:Value}{fd:FuncData}(F:za7 K "__init__" "Book.__init__" xl dV f fd)(c:Cls K C)(na:yJ K C "kept")(CK:Cal P w K mg base "kept_rules" 8 (mG cs)):zD P w K mg base CX0 9 f fd ["self","rules"] (spI C (pz C cs)):=by
 refine zk2 (N:=[]) F zr0 c na rfl (fun as Q h=>?_) (fun cdv A' outer s H E as Q hr h=>?_) (fun _ _ _ _ _ _=>rfl) (Or.inl rfl)
 ·obtain⟨ds,h|⟨h,_⟩,_⟩:=h<;>rw[h]<;>rfl
 ·obtain⟨ds,h|⟨h,hz⟩,rd,hl,q⟩:=h
  ·subst h
   exact wz CK hr (by rfl) (zl (mJ (wB (zj 1 rfl (rh (zj 1 rfl (zt ⟨_,rfl,rd,hl,_,rfl,oS rd,q⟩)))))))
  ·subst h hz
   exact wz CK hr (by rfl) (zl (mJ (wB (zj 1 rfl (sV (EvL.d (yW (zt ⟨_,rfl,zv2 rfl,zt ⟨[],rfl,rd,hl,_,rfl,oS rd,q⟩⟩))))))))
theorem zr1 :zp ["self"] ["self"] (zc vA):=⟨rfl,rfl,rfl,by decide +kernel,rfl,by decide +kernel,by decide +kernel⟩
theorem zo6 :zS ["self"] (zc vA) ["rule"] [none] fF:=⟨rfl,by decide +kernel,by decide +kernel,by decide +kernel,by decide +kernel,rfl,by decide +kernel⟩
set_option maxHeartbeats 4000000 in
theorem je {f C:Addr}{fd:FuncData}(F:Fun K "rules" "Book.rules" vA f fd)(c:Cls K C)(na:yJ K C "kept")(hb:Binds K fd ["self"] [])(O:∀w'∈words,we P w K mg base (cs.of w') "told" 2 (nG (cs.of w') w')):zD P w K mg base CX0 3 f fd ["self"] (spA (qS C cs)):=by
 refine fnA F zr1 (fun as Q h=>?_) (fun cdv A' outer s H E as Q hr h=>?_)
 ·obtain⟨ds,rfl,_⟩:=h
  rfl
 ·obtain⟨ds,rfl,rd,hl,q⟩:=h
  refine ph (iX (pat:=.one 0) rfl zo6 rfl (fun _ _ _ _=>zI (i:=0) zo6.nd rfl (Or.inl rfl)) (wu (nB c na (zj 0 rfl ⟨_,_,rfl,rfl,⟨_,rfl,by rw[zt1];exact hl,?comp⟩⟩))))
  case comp=>
   refine iu (fun i acc=>acc=ds.take i) rfl ?_ (fun acc h=>?_)
   ·rintro i d acc hd rfl
    rw[zu7,zw1] at hd
    obtain⟨e,he,rfl⟩:=hd
    obtain⟨s',a,b,v,hs,rfl,ei⟩:=vT (cs:=cs) (rd e (zy0 he)).1
    refine⟨_,rfl,fun C s2 H2 fp=>qR ?_⟩
    rw[if_pos rfl]
    refine fun C s2 H2 fp=>sk (O s' hs) hr (zj 0 rfl ⟨_,rfl,rfl,_,_,_,rfl,?_⟩)
    show ds.take i++[_]=ds.take (i+1)
    rw[zC0,he]
    rfl
   ·rw[zt1,zE8] at h
    rw[h]
    exact q
end
abbrev pf :Stmt:=inClass (top 40) 2
abbrev nR :Stmt:=top 31
def tbU :List (Str×V):=[("price",.non),("come",.bl true),("go",.bl true),("least",.int 1),("most",.int 14),("deal",.non),("fee",.int 0)]
def gp (x:Str):PyData:=if x="price"∨x="deal" then .none else if x="come"∨x="go" then .bool true else if x="least" then .int 1 else if x="most" then .int 14 else .int 0
theorem zi4 {x:Str}(h:x∈words):∃v,tbU.lookup x=some v∧scV (gp x)=some v:=by
 simp only[words,zt4,zt9,zv5] at h
 rcases h with rfl|rfl|rfl|rfl|rfl|rfl|rfl
 ·exact⟨.non,by decide +kernel,by decide +kernel⟩
 ·exact⟨.bl true,by decide +kernel,by decide +kernel⟩
 ·exact⟨.bl true,by decide +kernel,by decide +kernel⟩
 ·exact⟨.int 1,by decide +kernel,by decide +kernel⟩
 ·exact⟨.int 14,by decide +kernel,by decide +kernel⟩
 ·exact⟨.non,by decide +kernel,by decide +kernel⟩
 ·exact⟨.int 0,by decide +kernel,by decide +kernel⟩
def cK (w:Str)(day:Int):PyData→Bool
 |.tuple [.str x,.int a,.int b,_]=>decide (x=w)&&(decide (a≤day)&&decide (day≤b))
 |_=>false
def kO :PyData→PyData
 |.tuple [_,_,_,v]=>v
 |_=>.none
def zy (ds:List PyData)(w:Str)(day:Int):PyData:=match ds.reverse.find? (cK w day) with
 |some d=>kO d
 |none=>gp w
theorem tT {p:PyData→Bool}{e:PyData}:∀{l:List PyData} {i:Nat},(∀j<i,∀d,l[j]?=some d→p d=false)→l[i]?=some e→p e=true→l.find? p=some e
 |[],i,_,h,_=>by simp at h
 |d::l,0,_,h,q=>by
  simp at h;subst h
  simp[zz1,q]
 |d::l,i+1,a,h,q=>by
  have hd:=a 0 (Nat.succ_pos _) d rfl
  rw[zz1,hd]
  exact tT (i:=i) (fun j hj x hx=>a (j+1) (Nat.succ_lt_succ hj) x (by simpa using hx)) (by simpa using h) q
theorem bL {p:PyData→Bool}{l:List PyData}(h:∀(j:Nat) d,l[j]?=some d→p d=false):l.find? p=none:=by
 rw[List.find?_eq_none]
 intro x hx
 obtain⟨j,hj⟩:=zE5.mp hx
 rw[h j x hj];simp
theorem sY {d:PyData}(h:xh d=true):∃(s:Str) (i j:Int) (v:PyData),s∈words∧d=.tuple [.str s,.int i,.int j,v]∧0≤i∧i≤j∧j≤1000000∧zG (.str s) v=true:=by
 obtain⟨s,a,b,v,hs,rfl⟩:=xS h
 have h':(yp (.tuple [a,b])&&zG (.str s) v)=true:=h
 rw[zv1] at h'
 have h1:=h'.1
 unfold yp rB at h1
 split at h1
 ·rename_i k e
  split at e
  ·rename_i z
   cases z
   split at e
   ·rename_i q
    cases e
    rw[zv1] at q
    rename_i a' b'
    have qa:(decide (0≤a')&&decide (a'≤1000000))=true:=q.1
    have qb:(decide (0≤b')&&decide (b'≤1000000))=true:=q.2
    rw[zv1,zx1,zx1] at qa qb
    have h2:=of_decide_eq_true h1
    exact⟨s,a',b',v,hs,rfl,qa.1,by omega,qb.2,h'.2⟩
   ·cases e
  ·cases e
 ·cases h1
theorem jt (a b v:PyData):tq [(.str "first",a),(.str "last",b),(.str "worth",v)] "worth"=some v:=by
 show (if ("worth":Str)="first" then _ else _)=_
 rw[if_neg dN]
 show (if ("worth":Str)="last" then _ else _)=_
 rw[if_neg fu]
 show (if ("worth":Str)="worth" then _ else _)=_
 rw[if_pos rfl]
def qU :List A→(A→Prop)→Prop:=fun as Q=>∃x,as=[.dat (.str x)]∧x∈words∧Q (.dat (gp x))
def mZ (C:Addr)(w:Str):List A→(A→Prop)→Prop:=fun as Q=>∃a b v,as=[.dat (sI C a b v)]∧Q (.dat (.str w))
def tS (C:Addr):List A→(A→Prop)→Prop:=fun as Q=>∃(a b day:Int) (v:PyData),as=[.dat (sI C (.int a) (.int b) v),.dat (.int day)]∧Q (.dat (.bool (decide (a≤day)&&decide (day≤b))))
def vE (C:Addr)(cs:Cs):List A→(A→Prop)→Prop:=fun as Q=>∃ds x day,as=[.dat (yP C cs ds),.dat (.str x),.dat (.int day)]∧Rules ds∧x∈words∧Q (.dat (zy ds x day))
section
variable {P:Program}{w:World}{K:PySem.W.Frag}{mg:Str→Option Value}{base:Heap}{cs:Cs}
theorem zs5 :zp ["word"] ["word"] (zc nR):=⟨rfl,rfl,rfl,by decide +kernel,rfl,by decide +kernel,by decide +kernel⟩
theorem jG {f dU:Addr}{fd:FuncData}(F:Fun K "usual" "usual" nR f fd)(hm:mg "usual"=some (.ref f))(hb:Binds K fd ["word"] [])(mU:mg "USUAL"=some (.ref dU))(DU:kG K w dU tbU):Cal P w K mg base "usual" 1 qU:=by
 refine uy F hm hb zs5 (fun as Q h=>?_) (fun cdv A' outer s H E as Q hr h=>?_)
 ·obtain⟨x,rfl,_⟩:=h
  rfl
 ·obtain⟨x,rfl,hx,q⟩:=h
  obtain⟨v,h1,h2⟩:=zi4 hx
  exact vZ (eo (by rfl) mU DU (zj 0 rfl ⟨x,gp x,v,rfl,h1,h2,q⟩))
theorem yS {C f fIn fT fE:Addr}{fd:FuncData}{wd:Str}(R:xT K C fIn fT fE f)(hb:Binds K fd ["self"] [])(G:zD P w K mg base CX0 1 f fd ["self"] (wG wd)):we P w K mg base C "word" 1 (mZ C wd):=by
 refine⟨f,fd,_,R.cl,R.word,hb,G.imp fun vs H Q E h=>?_⟩
 obtain⟨F,as,Q',rfl,t,o,rv,⟨a,b,v,rfl,q⟩,kk⟩:=h
 obtain⟨x,rfl,av⟩:=rv.one
 obtain⟨p,dx,fs,rfl,h1,h2⟩:=av.ins_inv
 exact⟨p,rfl,kk _ _ _ q ⟨t,Kz.refl,.str _⟩⟩
theorem yD {C f fIn fT fWd:Addr}{fd:FuncData}(R:xT K C fIn fT f fWd)(hb:Binds K fd ["self","day"] [])(G:zD P w K mg base CX0 1 f fd ["self","day"] (ko C)):we P w K mg base C "tells" 1 (tS C):=by
 refine⟨f,fd,_,R.cl,R.tells,hb,G.imp fun vs H Q E h=>?_⟩
 obtain⟨F,as,Q',rfl,t,o,rv,⟨a,b,day,v,rfl,q⟩,kk⟩:=h
 obtain⟨x,y,rfl,av,ay⟩:=rv.two
 cases ay.int_inv
 obtain⟨p,dx,fs,rfl,h1,h2⟩:=av.ins_inv
 cases h2 with
 |cons g1 h2=>
  cases h2 with
  |cons g2 h2=>
   cases h2 with
   |cons g3 h2=>
    cases h2
    cases g1.int_inv
    cases g2.int_inv
    exact⟨p,dx,a,b,day,_,rfl,by rw[qY];exact (zm h1).2,kk _ _ _ q ⟨t,Kz.refl,.bl _⟩⟩
theorem zm2 :zp ["self","word","day","rule"] ["self","word","day"] (zc pf):=⟨rfl,rfl,rfl,by decide +kernel,rfl,by decide +kernel,by decide +kernel⟩
set_option maxHeartbeats 4000000 in
theorem iz {f C:Addr}{fd:FuncData}(F:Fun K "tells_of" "Book.tells_of" pf f fd)(c:Cls K C)(na:yJ K C "kept")(nb:NbT mg)(CU:Cal P w K mg base "usual" 1 qU)(OW:∀u∈words,we P w K mg base (cs.of u) "word" 1 (mZ (cs.of u) u))(OR:∀u∈words,we P w K mg base (cs.of u) "tells" 1 (tS (cs.of u)))
  (OC:∀u∈words,Cls K (cs.of u)∧yJ K (cs.of u) "worth"):zD P w K mg base CX0 2 f fd ["self","word","day"] (spA (vE C cs)):=by
 refine fnA F zm2 (fun as Q h=>?_) (fun cdv A' outer s H E as Q hr h=>?_)
 ·obtain⟨ds,x,d,rfl,_⟩:=h
  rfl
 ·obtain⟨ds,x,day,rfl,rd,hx,q⟩:=h
  refine wk (pat:=.one 3) zz2 rfl (zI (i:=3) zm2.nd rfl (Or.inl rfl)) (zj4 (by rfl) nb.reversed (nB c na (zj 0 rfl ⟨_,_,rfl,rfl,⟨_,rfl,?_⟩⟩)))
  refine yQ (fun i α=>(∃v3,α=[some (.dat (yP C cs ds)),some (.dat (.str x)),some (.dat (.int day)),v3])∧∀j<i,∀d,ds.reverse[j]?=some d→cK x day d=false) ⟨⟨none,rfl⟩,fun j hj=>absurd hj (Nat.not_lt_zero _)⟩ ?_ ?_
  ·rintro i d α hd ⟨⟨v3,rfl⟩,hno⟩
   rw[←List.map_reverse,zu7,zw1] at hd
   obtain⟨e,he,rfl⟩:=hd
   have hme:e∈ds:=List.mem_reverse.mp (zy0 he)
   obtain⟨u,a,b,v,hu,rfl,_,_,_,_⟩:=sY (rd e hme).1
   refine⟨_,rfl,?_⟩
   refine xP (EvW.t (bb (fun _ k=>zd3 (sk (OW u hu) hr (zj 3 rfl ⟨_,rfl,rfl,_,_,_,rfl,zj 1 rfl ⟨_,_,rfl,rfl,k⟩⟩)))
    (fun hp _ k=>kQ (nP (wF (OR u hu) hr (zj 3 rfl ⟨_,rfl,rfl,zl (zj 2 rfl (zt ⟨_,_,_,_,rfl,_,rfl,k⟩))⟩)))) ?_))
   refine tI (fun h=>?_) (fun h=>?_)
   ·refine vZ (nB (OC u hu).1 (OC u hu).2 (zj 3 rfl ⟨_,_,rfl,jt _ _ _,?_⟩))
    have e1:ds.reverse.find? (cK x day)=some (.tuple [.str u,.int a,.int b,v]):=tT hno he h
    unfold zy at q
    rw[e1] at q
    exact q
   ·refine yo (yo ⟨⟨_,rfl⟩,fun j hj d' hd'=>?_⟩)
    rcases zA9 j i with z|z
    ·exact hno j z d' hd'
    ·have:j=i:=by omega
     subst this
     rw[he] at hd';cases hd'
     exact h
  ·rintro α ⟨⟨v3,rfl⟩,hno⟩
   refine vZ (yq CU (hr.mono (by decide)) (by rfl) (zl (zj 1 rfl (zt ⟨x,rfl,hx,?_⟩))))
   have e1:ds.reverse.find? (cK x day)=none:=bL fun j d hd=>hno j (by
    have:=(zt5.mp hd).1
    rw[zF3,zt1]
    rwa [zF3] at this) d hd
   unfold zy at q
   rw[e1] at q
   exact q
end
theorem xf (d:PyData):zG (.str "price") d=(isNone d||vb d):=by unfold zG;rw[if_pos (by decide +kernel)]
theorem nX (d:PyData):zG (.str "come") d=isBool d:=by unfold zG;rw[if_neg (by decide +kernel),if_pos (by decide +kernel)]
theorem iI (d:PyData):zG (.str "go") d=isBool d:=by unfold zG;rw[if_neg (by decide +kernel),if_pos (by decide +kernel)]
theorem oK (d:PyData):zG (.str "least") d=yn 1 14 d:=by unfold zG;rw[if_neg (by decide +kernel),if_neg (by decide +kernel),if_pos (by decide +kernel)]
theorem mP (d:PyData):zG (.str "most") d=yn 1 14 d:=by unfold zG;rw[if_neg (by decide +kernel),if_neg (by decide +kernel),if_pos (by decide +kernel)]
theorem vO (d:PyData):zG (.str "deal") d=(isNone d||ur d):=by unfold zG;rw[if_neg (by decide +kernel),if_neg (by decide +kernel),if_neg (by decide +kernel),if_pos (by decide +kernel)]
theorem qf (d:PyData):zG (.str "fee") d=vb d:=by
 unfold zG
 rw[if_neg (by decide +kernel),if_neg (by decide +kernel),if_neg (by decide +kernel),if_neg (by decide +kernel),show eqS (.str "fee") "fee"=true by decide +kernel,zz6]
theorem within_int {lo hi i:Int}(h1:lo≤i)(h2:i≤hi):yn lo hi (.int i)=true:=by
 show (decide (lo≤i)&&decide (i≤hi))=true
 rw[zE2 h1,zE2 h2]<;>rfl
theorem gc {i:Int}(h0:-2000000000000≤i)(h1:i≤2000000000000):zT 2000 (.int i):=zT.int (by unfold big;omega) (by unfold big;omega)
def qx :List A→(A→Prop)→Prop:=fun as Q=>as=[.tape]∧∀z:Int,0≤z→z≤1000000000000→Q (.dat (.int z))
def ng :List A→(A→Prop)→Prop:=fun as Q=>∃wd,as=[.tape,.dat (.str wd)]∧wd∈words∧∀d,zG (.str wd) d=true→zT 5000 d→d.depth≤1→Q (.dat d)
theorem cN {m f:Int}(h0:2≤m)(h1:m≤14)(h2:1≤f)(h3:f<m):zG (.str "deal") (.tuple [.int m,.int f])=true∧zT 5000 (.tuple [.int m,.int f])∧(PyData.tuple [.int m,.int f]).depth≤1:=by
 have hbig:(1000001:Int)<big:=by decide
 have hneg:-big<(0:Int):=by decide
 refine⟨?_,zT.tuple (n:=2000) (yk.two (zT.int (by omega) (by omega)) (zT.int (by omega) (by omega)) (zu6 _) (zu6 _)) (by show 2*(2000+2)+3≤5000;decide),by simp[PyData.depth,PyData.depthAll]⟩
 rw[vO]
 show (false||(yn 2 14 (.int m)&&yn 1 (m-1) (.int f)))=true
 rw[within_int h0 h1,within_int h2 (by omega)]
 rfl
end K32
set_option compiler.extract_closed false
set_option hygiene false in
local macro_rules
 |`(tactic| exists $f,$a)=>`(tactic| first|refine $f 0 $a ?_|refine $f 1 $a ?_|refine $f 2 $a ?_|refine $f 3 $a ?_|refine $f 4 $a ?_|refine $f 5 $a ?_|refine $f 6 $a ?_|refine $f 7 $a ?_|refine $f 8 $a ?_|refine $f 9 $a ?_|refine $f 10 $a ?_|refine $f 11 $a ?_|refine $f 12 $a ?_|refine $f 13 $a ?_|refine $f 14 $a ?_|refine $f 15 $a ?_|refine $f 16 $a ?_|refine $f 17 $a ?_)
set_option hygiene false in
local macro_rules
 |`(tactic| and_intros)=>`(tactic| repeat (first
  |((with_reducible show EvD _ _ _ _);first
   |((with_reducible show EvD _ _ (.Name _ _) _);exists zj,rfl)
   |((with_reducible show EvD _ _ (.Constant _ _ _) _);first|with_reducible refine yi ?_|with_reducible refine yI ?_|with_reducible refine aP ?_|with_reducible refine tQ ?_)
   |((with_reducible show EvD _ _ (.BinOp (.Constant (.int 10) _ _) .Pow (.Constant (.int 6) _ _) _) _);refine qI (r:=1000000) ⟨by decide,by decide,by decide⟩ (by decide) ?_)
   |((with_reducible show EvD _ _ (.BinOp (.Constant (.int 10) _ _) .Pow (.Constant (.int 12) _ _) _) _);refine qI (r:=1000000000000) ⟨by decide,by decide,by decide⟩ (by decide) ?_)
   |((with_reducible show EvD _ _ (.BinOp (.Constant (.int 10) _ _) .Pow (.Constant (.int 9) _ _) _) _);refine qI (r:=1000000000) ⟨by decide,by decide,by decide⟩ (by decide) ?_)
   |((with_reducible show EvD _ _ (.BinOp (.Constant (.int 10) _ _) .Pow (.Constant (.int 11) _ _) _) _);refine qI (r:=100000000000) ⟨by decide,by decide,by decide⟩ (by decide) ?_)
   |((with_reducible show EvD _ _ (.BinOp _ .Add (.List _ _) _) _);refine EvL.d (wZ ?_))
   |((with_reducible show EvD _ _ (.BinOp (.List _ _) .Add _ _) _);refine EvL.d (wZ ?_))
   |((with_reducible show EvD _ _ (.BinOp (.Subscript _ (.Slice _ _ none _) _) .Add _ _) _);refine EvL.d (wZ ?_))
   |((with_reducible show EvD _ _ (.BinOp _ .Add (.Subscript _ (.Slice _ _ none _) _) _) _);refine EvL.d (wZ ?_))
   |((with_reducible show EvD _ _ (.BinOp (.Call (.Attribute _ "rules" _) _ _ _) .Add _ _) _);refine EvL.d (wZ ?_))
   |with_reducible refine xk ?_
   |with_reducible refine gJ ?_
   |with_reducible refine ev_mod ?_
   |with_reducible refine ev_fdiv ?_
   |with_reducible refine ev_mul ?_
   |with_reducible refine ev_shl ?_
   |with_reducible refine ev_neg ?_
   |with_reducible refine ev_not ?_
   |with_reducible refine wV ?_
   |((with_reducible show EvD _ _ (.Subscript _ (.Slice _ _ none _) _) _);refine EvL.d (el_sl ?_))
   |((with_reducible show EvD _ _ (.Subscript _ _ _) _);refine zg0 hr.one (fun _ _=>rfl) ?_)
   |((with_reducible show EvD _ _ (.List _ _) _);refine EvL.d (yW ?_))
   |((with_reducible show EvD _ _ (.Call (.Name "len" _) [.Call (.Name "set" _) _ _ _] _ _) _);refine ev_lenSet rfl (by rfl) nb.len (by rfl) (by assumption) ?_)
   |((with_reducible show EvD _ _ (.Call (.Name "len" _) _ _ _) _);refine pe (by rfl) nb.len ?_)
   |((with_reducible show EvD _ _ (.Call (.Name "min" _) [_,_] _ _) _);refine ev_min rfl (by rfl) nb.min ?_)
   |((with_reducible show EvD _ _ (.Call (.Name "max" _) [_,_] _ _) _);refine ev_max rfl (by rfl) nb.max ?_)
   |((with_reducible show EvD _ _ (.Call (.Name "list" _) _ _ _) _);refine EvL.d (km (by rfl) nb.list ?_))
   |((with_reducible show EvD _ _ (.Call (.Name "repr" _) _ _ _) _);refine lV hr.gd hr.units (by rfl) nb.repr ?_)
   |((with_reducible show EvD _ _ (.Call (.Name "min" _) [_] _ _) _);refine ev_minI rfl hr.few (by rfl) nb.min ?_)
   |((with_reducible show EvD _ _ (.Call (.Name "isinstance" _) _ _ _) _);first|refine ev_isi (by rfl) nb.isinstance (by rfl) nb.int boot_int ?_|refine ev_isi (by rfl) nb.isinstance (by rfl) nb.bool boot_bool ?_|refine ev_isi (by rfl) nb.isinstance (by rfl) nb.str boot_str ?_|refine ev_isi (by rfl) nb.isinstance (by rfl) nb.list boot_list ?_|refine ev_isi (by rfl) nb.isinstance (by rfl) nb.tuple boot_tuple ?_)
   |((with_reducible show EvD _ _ (.Call (.Name "int" _) _ _ _) _);refine ev_intB (by rfl) nb.int ?_)
   |((with_reducible show EvD _ _ (.Call (.Name _ _) _ _ _) _);first|refine ak (by with_reducible assumption) (by exact⟨rfl,rfl,rfl,rfl,rfl⟩) (hr.mono (by decide)) (by rfl) ?_|refine EvN.d (hJ (by with_reducible assumption) (by exact⟨rfl,rfl,rfl,rfl,rfl⟩) (hr.mono (by decide)) (by rfl) ?_))
   |((with_reducible show EvD _ _ (.Call (.Attribute _ _ _) (_::_) _ _) _);refine fH (by with_reducible assumption) (by exact⟨rfl,rfl,rfl,rfl,rfl⟩) (hr.mono (by decide)) ?_)
   |((with_reducible show EvD _ _ (.Call (.Attribute _ _ _) [] _ _) _);refine jX (by with_reducible assumption) (by exact⟨rfl,rfl,rfl,rfl,rfl⟩) (hr.mono (by decide)) ?_)
   |((with_reducible show EvD _ _ (.Compare _ [_] _ _) _);first|with_reducible refine aT ?_|with_reducible refine ev_le ?_|with_reducible refine ev_gt ?_|with_reducible refine ev_ge ?_|with_reducible refine ev_isN ?_|with_reducible refine ev_notN ?_|((with_reducible show EvD _ _ (.Compare _ [.Eq] _ _) _);refine zf8 hr.units ?_)|((with_reducible show EvD _ _ (.Compare _ [.NotEq] _ _) _);refine ev_nek hr.units ?_)|((with_reducible show EvD _ _ (.Compare _ [.In] _ _) _);refine ev_ink hr.one ?_)|((with_reducible show EvD _ _ (.Compare _ [.NotIn] _ _) _);refine ev_nink hr.one ?_)|((with_reducible show EvD _ _ (.Compare _ [.Is] [.Constant (.bool _) _ _] _) _);refine ev_isB ?_))
   |((with_reducible show EvD _ _ (.Compare _ [_,_] _ _) _);first|refine ev_lelt ?_|refine ev_ltle ?_|refine ev_lele' ?_)
   |((with_reducible show EvD _ _ (.BoolOp _ _ _) _);first|with_reducible refine ev_and ?_|with_reducible refine ev_or ?_|with_reducible refine ev_one ?_)
   |with_reducible refine mJ ?_)
  |((with_reducible show EvA _ _ _ _);first
   |with_reducible refine zt ?_
   |((with_reducible show EvA _ _ (.Name "_law_tape_here" _::_) _);exists yb,rfl)
   |refine zl ?_)
  |((with_reducible show EvT _ _ _ _);first
   |((with_reducible show EvT _ _ (.Compare _ [_] _ _) _);first|with_reducible refine et_lt ?_|with_reducible refine et_le ?_|with_reducible refine aZ ?_|with_reducible refine et_ge ?_|with_reducible refine wB ?_|with_reducible refine et_notN ?_|((with_reducible show EvT _ _ (.Compare _ [.Eq] _ _) _);refine ze5 hr.units ?_)|((with_reducible show EvT _ _ (.Compare _ [.NotEq] _ _) _);refine iQ hr.units ?_)|((with_reducible show EvT _ _ (.Compare _ [.In] _ _) _);refine et_ink hr.one ?_)|((with_reducible show EvT _ _ (.Compare _ [.NotIn] _ _) _);refine et_nink hr.one ?_)|((with_reducible show EvT _ _ (.Compare _ [.Is] [.Constant (.bool _) _ _] _) _);refine et_isB ?_)|((with_reducible show EvT _ _ (.Compare _ [.IsNot] [.Constant (.bool _) _ _] _) _);refine et_isntB ?_))
   |((with_reducible show EvT _ _ (.Compare _ [_,_] _ _) _);first|refine et_lelt ?_|refine et_ltle ?_|refine et_lele' ?_)
   |with_reducible refine mV ?_
   |((with_reducible show EvT _ _ (.BoolOp _ _ _) _);with_reducible refine EvW.t ?_)
   |refine et_truth ?_)
  |((with_reducible show EvL _ _ _ _);first
   |with_reducible refine yW ?_
   |((with_reducible show EvL _ _ (.Call (.Name "list" _) _ _ _) _);refine km (by rfl) nb.list ?_)
   |((with_reducible show EvL _ _ (.Call (.Name _ _) _ _ _) _);refine el_calR (by with_reducible assumption) (by exact⟨rfl,rfl,rfl,rfl,rfl⟩) (hr.mono (by decide)) (by rfl) ?_)
   |((with_reducible show EvL _ _ (.Call (.Attribute _ _ _) [] _ _) _);refine el_meth0R (by with_reducible assumption) (by exact⟨rfl,rfl,rfl,rfl,rfl⟩) (hr.mono (by decide)) ?_)
   |((with_reducible show EvL _ _ (.Subscript _ (.Slice _ _ none _) _) _);refine el_sl ?_)
   |((with_reducible show EvL _ _ (.BinOp _ .Add _ _) _);refine wZ ?_))
  |((with_reducible show EvW _ _ _ _);first
   |with_reducible refine eU ?_
   |with_reducible refine zn4 ?_
   |with_reducible refine kQ ?_
   |with_reducible refine zc0 ?_)
  |((with_reducible show EvO _ _ _ _);first
   |with_reducible refine eo_none ?_
   |with_reducible refine eo_some ?_)
  |((with_reducible show gS _ _ _);first
   |refine ixk rfl rfl rfl ?_
   |refine ixk_0 ?_
   |refine ixk_1 ?_)
  |((with_reducible show InOk _ _ _ _);first
   |refine ink rfl rfl ?_
   |refine inkT rfl rfl ?_)
  |((with_reducible show js _ _ _);first
   |with_reducible refine eqk_int ?_
   |with_reducible refine bt ?_
   |with_reducible refine eqk_bool ?_
   |refine eqk rfl rfl rfl rfl ?_)
  |((with_reducible show SvS _ _ _ _);first
   |((with_reducible show SvS _ (List.set _ _ _) _ _);dsimp only[List.set])
   |((with_reducible show SvS _ _ (zB _) _);show SvS _ _ (_::_) _)
   |((with_reducible show SvS _ _ (.Assign [.Name _ _] (.List [] _) _::_) _);exists xt,nd)
   |((with_reducible show SvS _ _ (.Assign [.Name _ _] _ _::_) _);exists zW,nd)
   |((with_reducible show SvS _ _ (.Expr (.Call (.Attribute _ "append" _) _ _ _) _::_) _);exists yT,rfl)
   |((with_reducible show SvS _ _ (.Return (some (.Name _ _)) _::_) _);exists wA,rfl)
   |with_reducible refine vZ ?_
   |with_reducible refine sv_cont ?_
   |with_reducible refine sv_pass ?_
   |with_reducible refine xP ?_
   |with_reducible refine yo ?_
   |((with_reducible refine qX ?hk ?_);case hk=>first|rfl|decide +kernel)
   |((with_reducible refine tK ?hk ?_);case hk=>first|rfl|decide +kernel))
  |((with_reducible show xW _ _);refine⟨_,rfl,by first|decide|omega,by first|decide|(show _<big;unfold big;omega),fun _ _ _=>?_⟩)
  |((with_reducible refine zn2 ?hk ?_);case hk=>first|rfl|decide +kernel)
  |((with_reducible refine zn0 ?hk ?_);case hk=>first|rfl|decide +kernel)
  |refine⟨_,_,rfl,rfl,?_⟩
  |refine⟨_,_,_,rfl,rfl,rfl,?_⟩
  |refine⟨_,rfl,zv2 rfl,?_⟩
  |refine⟨_,rfl,rfl,?_⟩
  |refine⟨_,rfl,?_⟩))
namespace K32
open PySem PySem.Spec PyProof.Rows L2
abbrev qB :Stmt:=top 45
abbrev qK :Stmt:=top 46
section
variable {P:Program}{w:World}{K:PySem.W.Frag}{mg:Str→Option Value}{base:Heap}{cs:Cs}
theorem zk4 :zp ["_law_tape_here"] ["_law_tape_here"] (zc qB):=⟨rfl,rfl,rfl,by decide +kernel,rfl,by decide +kernel,by decide +kernel⟩
theorem jo {f:Addr}{fd:FuncData}(F:Fun K "_law_coins" "_law_coins" qB f fd)(hm:mg "_law_coins"=some (.ref f))(hb:Binds K fd ["_law_tape_here"] [])(CD:Cal P w K mg base "_law_draw" 1 xW):Cal P w K mg base "_law_coins" 2 qx:=by
 refine uy F hm hb zk4 (fun as Q h=>?_) (fun cdv A' outer s H E as Q hr h=>?_)
 ·obtain⟨rfl,_⟩:=h
  rfl
 ·obtain⟨rfl,q⟩:=h
  have nd:=zk4.nd
  and_intros
  exact pd rfl (by assumption) (by assumption) ⟨q _ (by omega) (by omega),q _ (by omega) (by omega),q _ (by omega) (by omega),q _ (by omega) (by omega),q _ (by omega) (by omega),trivial⟩
theorem zo3 :zp ["_law_tape_here","_law_word","_law_many"] ["_law_tape_here","_law_word"] (zc qK):=⟨rfl,rfl,rfl,by decide +kernel,rfl,by decide +kernel,by decide +kernel⟩
set_option maxHeartbeats 4000000 in
theorem jH {f:Addr}{fd:FuncData}(F:Fun K "_law_worth" "_law_worth" qK f fd)(hm:mg "_law_worth"=some (.ref f))(hb:Binds K fd ["_law_tape_here","_law_word"] [])(CD:Cal P w K mg base "_law_draw" 1 xW)(CC:Cal P w K mg base "_law_coins" 2 qx):Cal P w K mg base "_law_worth" 3 ng:=by
 refine uy F hm hb zo3 (fun as Q h=>?_) (fun cdv A' outer s H E as Q hr h=>?_)
 ·obtain⟨wd,rfl,_⟩:=h
  rfl
 ·obtain⟨wd,rfl,hw,q⟩:=h
  have nd:=zo3.nd
  have qc:∀z:Int,0≤z→z≤1000000000000→vb (.int z)=true:=fun z h0 h1=>within_int h0 h1
  have hbig:(1000000000001:Int)<big:=by decide
  have hneg:-big<(0:Int):=by decide
  have nc:∀z:Int,0≤z→z≤1000000000000→zT 5000 (.int z):=fun z h0 h1=>(zT.int (by omega) (by omega)).mono (by decide)
  have qn:zG (.str wd) .none=true→Q (.dat .none):=fun h=>q _ h (zT.none.mono (by decide)) (zu6 _)
  have qi:∀z:Int,0≤z→z≤1000000000000→zG (.str wd) (.int z)=true→Q (.dat (.int z)):=fun z a b h=>q _ h (nc z a b) (zu6 _)
  have qd:∀m f:Int,wd="deal"→2≤m→m≤14→1≤f→f<m→Q (.dat (.tuple [.int m,.int f])):=fun m f e a b c d=>by
   subst e
   obtain⟨x,y,z⟩:=cN a b c d
   exact q _ x y z
  have qp:∀z:Int,0≤z→z≤1000000000000→wd="price"→Q (.dat (.int z)):=fun z a b e=>by
   subst e
   exact qi z a b (by rw[xf,qc z a b,Bool.or_true])
  simp only[words,zt4,zt9,zv5] at hw
  rcases hw with rfl|rfl|rfl|rfl|rfl|rfl|rfl
  ·and_intros
   refine⟨rfl,fun z1 a1 b1=>?_⟩
   and_intros
   refine⟨rfl,fun z2 a2 b2=>?_⟩
   and_intros
   exact pd rfl (by assumption) (by assumption) ⟨qn (by rw[xf]<;>rfl),qp z1 a1 b1 rfl,qp z2 a2 b2 rfl,trivial⟩
  ·and_intros
   exact q _ (by rw[nX]<;>rfl) ((zT.bool _).mono (by decide)) (zu6 _)
  ·and_intros
   exact q _ (by rw[iI]<;>rfl) ((zT.bool _).mono (by decide)) (zu6 _)
  ·and_intros
   exact qi _ (by omega) (by omega) (by rw[oK];exact within_int (by omega) (by omega))
  ·and_intros
   exact qi _ (by omega) (by omega) (by rw[mP];exact within_int (by omega) (by omega))
  ·and_intros
   exact pd rfl (by assumption) (by assumption) ⟨qn (by rw[vO]<;>rfl),qd _ _ rfl (by omega) (by omega) (by omega) (by omega),qd _ _ rfl (by omega) (by omega) (by omega) (by omega),qd _ _ rfl (by omega) (by omega) (by omega) (by omega),trivial⟩
  ·and_intros
   refine⟨rfl,fun z1 a1 b1=>?_⟩
   exact qi z1 a1 b1 (by rw[qf];exact qc z1 a1 b1)
end
structure sf (d:PyData):Prop where
 rule:xh d=true
 nice:zT 20011 d
 dep:d.depth≤2
 wn:zT 5000 (kO d)
def yg (ds:List PyData):Prop:=∀d∈ds,sf d
theorem jJ {s:Str}(h:s∈words):zT 2000 (.str s):=by
 simp only[words,zt4,zt9,zv5] at h
 rcases h with rfl|rfl|rfl|rfl|rfl|rfl|rfl<;>exact⟨rfl,rfl,zu6 _,by decide +kernel,by decide +kernel⟩
theorem sf.of {s:Str}{i j:Int}{d:PyData}(hs:s∈words)(i0:0≤i)(ij:i≤j)(j1:j≤1000000)(hw:zG (.str s) d=true)(hn:zT 5000 d)(hd:d.depth≤1):sf (.tuple [.str s,.int i,.int j,d]):=by
 have hbig:(1000001:Int)<big:=by decide
 have hneg:-big<(0:Int):=by decide
 have na:yk 5000 [.str s,.int i,.int j,d]:=by
  constructor
  ·intro x hx
   simp only[zt4,zt9,zv5] at hx
   rcases hx with rfl|rfl|rfl|rfl
   ·exact (jJ hs).mono (by decide)
   ·exact (zT.int (by omega) (by omega)).mono (by decide)
   ·exact (zT.int (by omega) (by omega)).mono (by decide)
   ·exact hn
  ·intro x hx
   simp only[zt4,zt9,zv5] at hx
   rcases hx with rfl|rfl|rfl|rfl
   ·exact zu6 _
   ·exact zu6 _
   ·exact zu6 _
   ·omega
 refine⟨?_,zT.tuple na (by show 4*(5000+2)+3≤20011;decide),?_,hn⟩
 ·show (yp (.tuple [.int i,.int j])&&zG (.str s) d)=true
  rw[hw,Bool.and_true]
  unfold yp rB
  have h1:(ui (.int i)&&ui (.int j))=true:=by
   show ((decide (0≤i)&&decide (i≤1000000))&&(decide (0≤j)&&decide (j≤1000000)))=true
   simp only[zv1,zx1]
   omega
  simp only[h1,zF2,zx1]
  omega
 ·simp only[PyData.depth,PyData.depthAll]
  omega
theorem yg.rules {ds:List PyData}(h:yg ds):Rules ds:=fun d hd=>⟨(h d hd).rule,(h d hd).nice.shaped,(h d hd).nice.nod⟩
theorem yg.nice {ds:List PyData}(h:yg ds)(hl:ds.length≤100):zT sizeLine (.list ds):=by
 refine zT.list (n:=20011) ⟨fun d hd=>(h d hd).nice,fun d hd=>by have:=(h d hd).dep;omega⟩ ?_
 have h2:ds.length*(20011+2)≤100*(20011+2):=Nat.mul_le_mul_right _ hl
 have h3:100*(20011+2)+2≤sizeLine:=by decide
 omega
def Bd (bs dy:Int):Prop:=0≤bs∧bs≤999980∧1≤dy∧dy≤14
theorem gR {c:Int}(h0:0≤c)(h1:c≤1000000000000):vb (.int c)=true:=within_int h0 h1
def vg (lo hi:Int)(d:PyData):Prop:=∃(s:Str) (i j:Int) (v:PyData),d=.tuple [.str s,.int i,.int j,v]∧s∈words∧lo≤i∧i≤j∧j≤hi∧zG (.str s) v=true∧zT 5000 v∧v.depth≤1
def yE (lo hi:Int)(ds:List PyData):Prop:=∀d∈ds,vg lo hi d
theorem vg.of {lo hi:Int}{s:Str}{i j:Int}{d:PyData}(hs:s∈words)(i0:lo≤i)(ij:i≤j)(j1:j≤hi)(hw:zG (.str s) d=true)(hn:zT 5000 d)(hd:d.depth≤1):vg lo hi (.tuple [.str s,.int i,.int j,d]):=⟨s,i,j,d,rfl,hs,i0,ij,j1,hw,hn,hd⟩
theorem vg.ok {lo hi:Int}{d:PyData}(h:vg lo hi d)(h0:0≤lo)(h1:hi≤1000000):sf d:=by
 obtain⟨s,i,j,v,rfl,hs,i0,ij,j1,hw,hn,hd⟩:=h
 exact sf.of hs (by omega) ij (by omega) hw hn hd
theorem yE.ok {lo hi:Int}{ds:List PyData}(h:yE lo hi ds)(h0:0≤lo)(h1:hi≤1000000):yg ds:=fun d hd=>(h d hd).ok h0 h1
theorem yE.snoc {lo hi:Int}{ds:List PyData}{d:PyData}(h:yE lo hi ds)(hd:vg lo hi d):yE lo hi (ds++[d]):=fun x hx=>by
 rcases zD2.mp hx with hx|hx
 ·exact h x hx
 ·rw[zv9.mp hx];exact hd
theorem yE.app {lo hi:Int}{ds es:List PyData}(h:yE lo hi ds)(h':yE lo hi es):yE lo hi (ds++es):=fun x hx=>by
 rcases zD2.mp hx with hx|hx
 ·exact h x hx
 ·exact h' x hx
theorem yE.nil {lo hi:Int}:yE lo hi []:=fun x hx=>by simp at hx
theorem sA {lo hi i j c:Int}(i0:lo≤i)(ij:i≤j)(j1:j≤hi)(h0:0≤c)(h1:c≤1000000000000):vg lo hi (.tuple [.str "price",.int i,.int j,.int c]):=
 vg.of (by simp[words]) i0 ij j1 (by rw[xf,gR h0 h1,Bool.or_true]) ((gc (by omega) (by omega)).mono (by decide)) (zu6 _)
theorem nH {lo hi i j:Int}(i0:lo≤i)(ij:i≤j)(j1:j≤hi):vg lo hi (.tuple [.str "price",.int i,.int j,.none]):=
 vg.of (by simp[words]) i0 ij j1 (by rw[xf]<;>rfl) (zT.none.mono (by decide)) (zu6 _)
def BdW (bs dy:Int):Prop:=0≤bs∧bs≤1000000∧1≤dy∧dy≤20
abbrev qA :Stmt:=top 47
abbrev qu :Stmt:=top 48
abbrev qM :Stmt:=top 49
def wR :List A→(A→Prop)→Prop:=fun as Q=>∃bs dy:Int,as=[.tape,.dat (.int bs),.dat (.int dy)]∧BdW bs dy∧∀ds,yE bs (bs+dy+5) ds→ds.length≤5→Q (.own ds)
def nq :List A→(A→Prop)→Prop:=fun as Q=>∃bs dy:Int,as=[.tape,.dat (.int bs),.dat (.int dy)]∧BdW bs dy∧∀ds,yE bs (bs+dy+5) ds→ds.length≤10→Q (.dat (.list ds))
section
variable {P:Program}{w:World}{K:PySem.W.Frag}{mg:Str→Option Value}{base:Heap}
theorem fO :zp ["_law_tape_here","_law_base","_law_days","_law_found","_law_k","_law_first","_law_worth_here"] ["_law_tape_here","_law_base","_law_days"] (zc qA):=⟨rfl,rfl,rfl,by decide +kernel,rfl,by decide +kernel,by decide +kernel⟩
set_option maxHeartbeats 4000000 in
theorem ml {f:Addr}{fd:FuncData}(F:Fun K "_law_price_rules" "_law_price_rules" qA f fd)(hm:mg "_law_price_rules"=some (.ref f))(hb:Binds K fd ["_law_tape_here","_law_base","_law_days"] [])(nb:NbT mg)(CD:Cal P w K mg base "_law_draw" 1 xW)(CC:Cal P w K mg base "_law_coins" 2 qx):Cal P w K mg base "_law_price_rules" 3 wR:=by
 refine uy F hm hb fO (fun as Q h=>?_) (fun cdv A' outer s H E as Q hr h=>?_)
 ·obtain⟨bs,dy,rfl,_⟩:=h
  rfl
 ·obtain⟨bs,dy,rfl,⟨b1,b2,b3,b4⟩,q⟩:=h
  have hbig:(1000001:Int)<big:=by decide
  refine xt 3 fO.nd (yW (zl (wV (zl (yI (zl (zj 1 rfl (zl (xk (zj 1 rfl (zj 2 rfl (⟨_,_,rfl,rfl,zl (yq CC hr (by rfl) (yb 0 rfl (zt (⟨rfl,fun c1 p1 q1=>zt (⟨_,rfl,zv2 rfl,zt (⟨_,rfl,zv2 rfl,?_⟩)⟩)⟩))))⟩))))))))))))
  refine wk (pat:=.one 4) zz2 rfl (zI (i:=4) fO.nd rfl (by first|exact Or.inl rfl|exact Or.inr rfl)) (vv (by rfl) nb.range (yq CD (hr.mono (by decide)) (by rfl) (yb 0 rfl (zl (yi (zt (⟨_,rfl,by decide,by decide,fun v2 h2 g2=>⟨_,rfl,by omega,by omega,?_⟩⟩)))))))
  refine yQ (fun i α=>∃v4 v5 v6 ds,α=[some .tape,some (.dat (.int bs)),some (.dat (.int dy)),some (.own ds),v4,v5,v6]∧yE bs (bs+dy+5) ds∧ds.length≤1+i) ⟨none,none,none,_,rfl,yE.nil.snoc (sA (by omega) (by omega) (by omega) p1 q1),zt8 _⟩ ?_ ?_
  ·rintro i d α hd ⟨v4,v5,v6,ds,rfl,ro,ld⟩
   have hi:i<4:=by
    have:=(zt5.mp hd).1
    rw[zt1,zh] at this
    omega
   refine⟨_,rfl,?_⟩
   refine zW 5 fO.nd (xk (zj 1 rfl (yq CD (hr.mono (by decide)) (by rfl) (yb 0 rfl (zl (zj 2 rfl (zt (⟨_,rfl,by omega,by omega,fun v3 h3 g3=>⟨_,_,rfl,rfl,?_⟩⟩))))))))
   refine zW 6 fO.nd (EvD.imp (Q':=fun d=>d=.none∨∃c:Int,d=.int c∧0≤c∧c≤1000000000000) (ll (fun _ _=>rfl) (EvL.d (yW (zl (tQ (zl (yq CC hr (by rfl) (yb 0 rfl (zt (⟨rfl,fun c7 p7 q7=>zl (yq CC hr (by rfl) (yb 0 rfl (zt (⟨rfl,fun c6 p6 q6=>zl (yq CC hr (by rfl) (yb 0 rfl (zt (⟨rfl,fun c5 p5 q5=>zt (⟨_,rfl,zv2 rfl,yq CD (hr.mono (by decide)) (by rfl) (yb 0 rfl (zl (yi (zt (⟨_,rfl,by decide,by decide,fun v4 h4 g4=>?pick⟩)))))⟩)⟩))))⟩))))⟩)))))))))) ?_)
   case pick=>
    obtain⟨z,hz,e⟩:=oM (ds:=[PyData.none,.int c7,.int c6,.int c5]) h4 g4
    refine⟨_,_,z,rfl,rfl,e,?_⟩
    simp only[zt4,zt9,zv5] at hz
    rcases hz with rfl|rfl|rfl|rfl
    ·exact .inl rfl
    ·exact .inr ⟨_,rfl,p7,q7⟩
    ·exact .inr ⟨_,rfl,p6,q6⟩
    ·exact .inr ⟨_,rfl,p5,q5⟩
   intro d6 hd6
   refine yT 3 rfl (wV (zl (yI (zl (zj 5 rfl (zl (xk (zj 5 rfl (yq CD (hr.mono (by decide)) (by rfl) (yb 0 rfl (zl (yi (zt (⟨_,rfl,by decide,by decide,fun v8 h8 g8=>⟨_,_,rfl,rfl,zl (zj 6 rfl (zt (⟨_,rfl,zv2 rfl,⟨by omega,?_⟩⟩)))⟩⟩))))))))))))))
   refine yo ⟨some (.dat d),some (.dat (.int (bs+v3))),some (.dat d6),ds++[.tuple [.str "price",.int (bs+v3),.int (bs+v3+v8),d6]],rfl,ro.snoc ?_,by rw[zv4,zE1];omega⟩
   rcases hd6 with rfl|⟨c,rfl,c0,c1⟩
   ·exact nH (by omega) (by omega) (by omega)
   ·exact sA (by omega) (by omega) (by omega) c0 c1
  ·rintro α ⟨v4,v5,v6,ds,rfl,ro,ld⟩
   rw[zt1,zh] at ld
   exact wA 3 rfl (q ds ro (by omega))
theorem dB :zp ["_law_tape_here","_law_base","_law_days","_law_found","_law_k","_law_word","_law_first"] ["_law_tape_here","_law_base","_law_days"] (zc qu):=⟨rfl,rfl,rfl,by decide +kernel,rfl,by decide +kernel,by decide +kernel⟩
set_option maxHeartbeats 4000000 in
theorem mn {f:Addr}{fd:FuncData}(F:Fun K "_law_other_rules" "_law_other_rules" qu f fd)(hm:mg "_law_other_rules"=some (.ref f))(hb:Binds K fd ["_law_tape_here","_law_base","_law_days"] [])(nb:NbT mg)(CD:Cal P w K mg base "_law_draw" 1 xW)(CW:Cal P w K mg base "_law_worth" 3 ng):Cal P w K mg base "_law_other_rules" 4 wR:=by
 refine uy F hm hb dB (fun as Q h=>?_) (fun cdv A' outer s H E as Q hr h=>?_)
 ·obtain⟨bs,dy,rfl,_⟩:=h
  rfl
 ·obtain⟨bs,dy,rfl,⟨b1,b2,b3,b4⟩,q⟩:=h
  have hbig:(1000001:Int)<big:=by decide
  refine xt 3 dB.nd (yW (zt (⟨_,rfl,zv2 rfl,?_⟩)))
  refine wk (pat:=.one 4) zz2 rfl (zI (i:=4) dB.nd rfl (by first|exact Or.inl rfl|exact Or.inr rfl)) (vv (by rfl) nb.range (yq CD (hr.mono (by decide)) (by rfl) (yb 0 rfl (zl (yi (zt (⟨_,rfl,by decide,by decide,fun v1 h1 g1=>⟨_,rfl,by omega,by omega,?_⟩⟩)))))))
  refine yQ (fun i α=>∃v4 v5 v6 ds,α=[some .tape,some (.dat (.int bs)),some (.dat (.int dy)),some (.own ds),v4,v5,v6]∧yE bs (bs+dy+5) ds∧ds.length≤i) ⟨none,none,none,_,rfl,yE.nil,zt8 _⟩ ?_ ?_
  ·rintro i d α hd ⟨v4,v5,v6,ds,rfl,ro,ld⟩
   have hi:i<5:=by
    have:=(zt5.mp hd).1
    rw[zt1,zh] at this
    omega
   refine⟨_,rfl,?_⟩
   refine zW 5 dB.nd (EvD.imp (Q':=fun d=>∃x,d=.str x∧x∈words) (ll (fun _ _=>rfl) (EvL.d (yW (zl (yI (zl (yI (zl (yI (zl (yI (zl (yI (zl (yI (zt (⟨_,rfl,zv2 rfl,yq CD (hr.mono (by decide)) (by rfl) (yb 0 rfl (zl (yi (zt (⟨_,rfl,by decide,by decide,fun v2 h2 g2=>?pick⟩)))))⟩))))))))))))))))) ?_)
   case pick=>
    obtain⟨z,hz,e⟩:=oM (ds:=[PyData.str "come",.str "go",.str "least",.str "most",.str "deal",.str "fee"]) h2 g2
    refine⟨_,_,z,rfl,rfl,e,?_⟩
    simp only[zt4,zt9,zv5] at hz
    rcases hz with rfl|rfl|rfl|rfl|rfl|rfl<;>exact⟨_,rfl,by simp[words]⟩
   rintro _ ⟨wd,rfl,hw⟩
   refine zW 6 dB.nd (xk (zj 1 rfl (yq CD (hr.mono (by decide)) (by rfl) (yb 0 rfl (zl (zj 2 rfl (zt (⟨_,rfl,by omega,by omega,fun v3 h3 g3=>⟨_,_,rfl,rfl,?_⟩⟩))))))))
   refine yT 3 rfl (wV (zl (zj 5 rfl (zl (zj 6 rfl (zl (xk (zj 6 rfl (yq CD (hr.mono (by decide)) (by rfl) (yb 0 rfl (zl (yi (zt (⟨_,rfl,by decide,by decide,fun v5 h5 g5=>⟨_,_,rfl,rfl,zl (yq CW hr (by rfl) (yb 0 rfl (zl (zj 5 rfl (zt (⟨_,rfl,hw,fun d4 a4 b4 c4=>zt (⟨_,rfl,zv2 rfl,⟨by omega,?_⟩⟩)⟩))))))⟩⟩))))))))))))))
   exact yo ⟨some (.dat d),some (.dat (.str wd)),some (.dat (.int (bs+v3))),ds++[.tuple [.str wd,.int (bs+v3),.int (bs+v3+v5),d4]],rfl,ro.snoc (vg.of hw (by omega) (by omega) (by omega) a4 b4 c4),by rw[zv4,zE1];omega⟩
  ·rintro α ⟨v4,v5,v6,ds,rfl,ro,ld⟩
   rw[zt1,zh] at ld
   exact wA 3 rfl (q ds ro (by omega))
theorem zd4 :zp ["_law_tape_here","_law_base","_law_days","_law_ones","_law_others"] ["_law_tape_here","_law_base","_law_days"] (zc qM):=⟨rfl,rfl,rfl,by decide +kernel,rfl,by decide +kernel,by decide +kernel⟩
set_option maxHeartbeats 4000000 in
theorem lj {f:Addr}{fd:FuncData}(F:Fun K "_law_rules" "_law_rules" qM f fd)(hm:mg "_law_rules"=some (.ref f))(hb:Binds K fd ["_law_tape_here","_law_base","_law_days"] [])(CD:Cal P w K mg base "_law_draw" 1 xW)(CP:Cal P w K mg base "_law_price_rules" 3 wR)(CO:Cal P w K mg base "_law_other_rules" 4 wR):Cal P w K mg base "_law_rules" 5 nq:=by
 refine uy F hm hb zd4 (fun as Q h=>?_) (fun cdv A' outer s H E as Q hr h=>?_)
 ·obtain⟨bs,dy,rfl,_⟩:=h
  rfl
 ·obtain⟨bs,dy,rfl,bd,q⟩:=h
  refine zW 3 zd4.nd (EvL.d (wz CP (hr.mono (by decide)) (by rfl) (yb 0 rfl (zl (zj 1 rfl (zl (zj 2 rfl (zt (⟨_,_,rfl,bd,fun ds1 r1 l1=>⟨_,rfl,?_⟩⟩)))))))))
  refine zW 4 zd4.nd (EvL.d (wz CO hr (by rfl) (yb 0 rfl (zl (zj 1 rfl (zl (zj 2 rfl (zt (⟨_,_,rfl,bd,fun ds2 r2 l2=>⟨_,rfl,?_⟩⟩)))))))))
  refine vZ (ll (fun _ _=>rfl) (EvL.d (yW (zl (EvL.d (wZ (zj 3 rfl (zj 4 rfl (⟨_,_,rfl,rfl,by omega,zl (EvL.d (wZ (zj 4 rfl (zj 3 rfl (⟨_,_,rfl,rfl,by omega,zt (⟨_,rfl,zv2 rfl,yq CD (hr.mono (by decide)) (by rfl) (yb 0 rfl (zl (yi (zt (⟨_,rfl,by decide,by decide,fun v3 h3 g3=>?_⟩)))))⟩)⟩)))))⟩)))))))))
  obtain⟨z,hz,e⟩:=oM (ds:=[PyData.list (ds1++ds2),.list (ds2++ds1)]) h3 g3
  refine⟨_,_,z,rfl,rfl,e,?_⟩
  simp only[zt4,zt9,zv5] at hz
  rcases hz with rfl|rfl
  ·exact q _ (r1.app r2) (by rw[zv4];omega)
  ·exact q _ (r2.app r1) (by rw[zv4];omega)
def gH :List A→(A→Prop)→Prop:=fun as Q=>∃bs dy:Int,as=[.tape,.dat (.int bs),.dat (.int dy)]∧Bd bs dy∧∀ds,yg ds→ds.length≤5→Q (.own ds)
def oA :List A→(A→Prop)→Prop:=fun as Q=>∃bs dy:Int,as=[.tape,.dat (.int bs),.dat (.int dy)]∧Bd bs dy∧∀ds,yg ds→ds.length≤10→Q (.dat (.list ds))
theorem zj7 {x:Str}{k:Nat}(C:Cal P w K mg base x k wR):Cal P w K mg base x k gH:=C.imp fun as Q h=>by
 obtain⟨bs,dy,rfl,⟨b1,b2,b3,b4⟩,q⟩:=h
 exact⟨bs,dy,rfl,⟨b1,by omega,b3,by omega⟩,fun ds rw l=>q ds (rw.ok (by omega) (by omega)) l⟩
theorem jI {x:Str}{k:Nat}(C:Cal P w K mg base x k nq):Cal P w K mg base x k oA:=C.imp fun as Q h=>by
 obtain⟨bs,dy,rfl,⟨b1,b2,b3,b4⟩,q⟩:=h
 exact⟨bs,dy,rfl,⟨b1,by omega,b3,by omega⟩,fun ds rw l=>q ds (rw.ok (by omega) (by omega)) l⟩
end
abbrev qV :Stmt:=top 9
def tV :List A→(A→Prop)→Prop:=fun as Q=>∃c g:Int,as=[.dat (.tuple [.int c,.int g])]∧-100≤c∧c<g∧g≤c+500∧c≤1000100∧Q (.own ((zw c (g-c).toNat).map .int))
section
variable {P:Program}{w:World}{K:PySem.W.Frag}{mg:Str→Option Value}{base:Heap}{cs:Cs}
theorem zq7 :zp ["stay"] ["stay"] (zc qV):=⟨rfl,rfl,rfl,by decide +kernel,rfl,by decide +kernel,by decide +kernel⟩
theorem mK {f:Addr}{fd:FuncData}(F:Fun K "nights_of" "nights_of" qV f fd)(hm:mg "nights_of"=some (.ref f))(hb:Binds K fd ["stay"] [])(nb:NbT mg):Cal P w K mg base "nights_of" 1 tV:=by
 refine uy F hm hb zq7 (fun as Q h=>?_) (fun cdv A' outer s H E as Q hr h=>?_)
 ·obtain⟨c,g,rfl,_⟩:=h
  rfl
 ·obtain⟨c,g,rfl,h1,h2,h3,h4,q⟩:=h
  exact ph (pW rfl (by rfl) nb.list (by rfl) nb.range (xU (fun _ _=>rfl) (zj 0 rfl (yi (⟨_,_,_,rfl,rfl,rfl,xU (fun _ _=>rfl) (zj 0 rfl (yi (⟨_,_,_,rfl,rfl,rfl,⟨_,_,rfl,rfl,⟨by omega,by omega,by omega,by omega⟩,by omega,q⟩⟩)))⟩)))))
end
abbrev yK :Stmt:=top 16
def rW :Arguments×Scope:=match zB yK with
 |[.Return (some (.Call _ _ [⟨_,.Lambda ps _ sc _,_⟩] _)) _]=>(ps,sc)
 |_=>(zN yK,zc yK)
section
variable {P:Program}{w:World}{K:PySem.W.Frag}{mg:Str→Option Value}{base:Heap}
theorem bN :zp ["prices","places"] ["prices","places"] (zc yK):=⟨rfl,rfl,rfl,by decide +kernel,rfl,by decide +kernel,by decide +kernel⟩
theorem zm3 :wj "place" "prices" rW.1 rW.2:=⟨rfl,rfl,rfl,rfl,rfl,by decide +kernel,by decide +kernel,by decide⟩
theorem zg1 {f c:Addr}{A':Around}{outer:List Env}{s:Shared}{H:Hp}{E:XK}{n1:Nat}{p1 p2 p3 p4 p5 p6:Pos}(hhd:PySem.W.codeHdIn K c yx=true)(KX:K.In base)(hbi:base.BuiltinsAt mg yx):
  iK (xB CX0 P w K mg base ["prices","places"] "cheapest_first" (zc yK) f (.ref c) A' outer s H E).nox c "place" "prices" n1 p1 p2 p3 p4 p5 p6 rW.1 rW.2 where
 S:=zm3
 hy:=rfl
 hcl:=fun cl h=>by
  have e:rW.2.names=[(("prices":Str),NameKind.free),(("place":Str),NameKind.local)]∨rW.2.names=[(("place":Str),NameKind.local),(("prices":Str),NameKind.free)]:=by decide +kernel
  unfold closureFor
  rcases e with e|e<;>rw[e]<;>simp[cellOf,h]
 hgl:=rfl
 hco:=rfl
 hhd:=PySem.W.codeHd_of_K KX hhd
 hbi:=hbi
 hdf:=rfl
 hq:=rfl
 hne:=by decide
 hb:=fun u cl c' pm ctv=>rfl
 hdx:=by decide
 hdy:=by decide
 hcx:=by decide
 hcy:=by decide
def pk :List A→(A→Prop)→Prop:=fun as Q=>∃ns zs:List Int,as=[.dat (.list (zs.map .int)),.dat (.list (ns.map .int))]∧ns.length<64∧(∀n∈ns,0≤n∧n<zs.length)∧∀ms,tj ns zs ms→Q (.own (ms.map .int))
theorem ia {f c:Addr}{oc:Value}{od an:Option Addr}{osl:Array (Option Value)}{kV doc pm ct:Value}(lk:K.lookup f=some ⟨oc,od,.func (PySem.W.fnOf "cheapest_first" "cheapest_first" (zN yK) (zB yK) (zc yK) .none kV doc pm an (.ref c) ct),osl⟩)(hcd:PySem.W.codeIn K (.ref c) "cheapest_first"=true)(kp:PySem.W.keepIn K (.ref f)=true)
  (hm:mg "cheapest_first"=some (.ref f)) (hb:Binds K (PySem.W.fnOf "cheapest_first" "cheapest_first" (zN yK) (zB yK) (zc yK) .none kV doc pm an (.ref c) ct) ["prices","places"] []) (nb:NbT mg) (hhd:PySem.W.codeHdIn K c yx=true) (KX:K.In base) (hbi:base.BuiltinsAt mg yx):Cal P w K mg base "cheapest_first" 3 pk:=by
 refine⟨f,_,_,hm,kp,hb,zq8 lk hcd bN (fun as Q h=>by obtain⟨ns,zs,rfl,_⟩:=h;rfl) fun A' outer s H E as Q hr h=>?_⟩
 obtain⟨ns,zs,rfl,h64,hin,q⟩:=h
 exact ph (ma (j:=0) (k:=0) (zg1 hhd KX hbi) hr (by rfl) nb.sorted rfl (zj 1 rfl ⟨ns,zs,rfl,rfl,h64,hin,fun ms sm=>q ms sm⟩))
end
abbrev vo :Stmt:=top 17
def zo4 :Scope:=match zB vo with
 |.Assign _ (.ListComp _ _ sc _) _::_=>sc
 |_=>zc vo
def uq :List A→(A→Prop)→Prop:=fun as Q=>∃(zs:List Int) (d:PyData),as=[.dat (.list (zs.map .int)),.dat d]∧zs.length≤500∧
 ((d=.none∧Q (.own ((List.replicate zs.length false).map .bool)))∨∃many free:Nat,d=.tuple [.int many,.int free]∧0<many∧many<64∧∀bs,uM zs many free zs.length bs→Q (.own (bs.map .bool)))
theorem jk (ns:List Int):xJ (ns.map .int)=true:=by
 induction ns with
 |nil=>rfl
 |cons n ns ih=>rw[zx0,xJ,ih];rfl
section
variable {P:Program}{w:World}{K:PySem.W.Frag}{mg:Str→Option Value}{base:Heap}
theorem nI :zp ["prices","deal","marks","bundle","place","rank","other"] ["prices","deal"] (zc vo):=⟨rfl,rfl,rfl,by decide +kernel,rfl,by decide +kernel,by decide +kernel⟩
theorem zj9 :zS ["prices","deal","marks","bundle","place","rank","other"] (zc vo) ["price"] [none] zo4:=⟨rfl,by decide +kernel,by decide +kernel,by decide +kernel,by decide +kernel,rfl,by decide +kernel⟩
set_option maxHeartbeats 4000000 in
theorem mB {f:Addr}{fd:FuncData}(F:Fun K "marked" "marked" vo f fd)(hm:mg "marked"=some (.ref f))(hb:Binds K fd ["prices","deal"] [])(nb:NbT mg)(CC:Cal P w K mg base "cheapest_first" 3 pk):Cal P w K mg base "marked" 4 uq:=by
 refine uy F hm hb nI (fun as Q h=>?_) (fun cdv A' outer s H E as Q hr h=>?_)
 ·obtain⟨zs,d,rfl,_⟩:=h
  rfl
 ·obtain⟨zs,d,rfl,hlen,h⟩:=h
  refine aW 2 (pat:=.one 0) nI.nd rfl zj9 rfl (fun _ _ _ _=>zI (i:=0) zj9.nd rfl (Or.inl rfl)) (wu (zj 0 rfl ⟨_,rfl,?_,?comp⟩))
  ·rw[zt1];omega
  refine wt (fun _=>true) (fun _=>.bool false) (fun d hd=>⟨_,rfl,fun _ _ _ _ _ k=>qR k,fun _ _ _ _ _ _ k=>aP k⟩) ?_
  have e0:([]:List PyData)++List.map (fun _=>PyData.bool false) (List.filter (fun _=>true) (List.map PyData.int zs))=(List.replicate zs.length false).map .bool:=by
   rw[zD4,gh,List.map_map,List.map_replicate]
   exact List.eq_replicate_iff.mpr ⟨by simp,by simp⟩
  rw[e0]
  rcases h with ⟨rfl,q⟩|⟨many,free,rfl,hp,hm64,q⟩
  ·refine xP (wB (zj 1 rfl ?_))
   exact wA 2 rfl q
  refine xP (wB (zj 1 rfl (yo ?_)))
  refine xt 3 nI.nd (yW (zt ⟨_,rfl,zu6 _,?_⟩))
  refine wk (pat:=.one 4) zz2 rfl (zI (i:=4) nI.nd rfl (Or.inl rfl)) (vv (by rfl) nb.range (pe (by rfl) nb.len (zj 0 rfl ⟨_,rfl,⟨_,rfl,by omega,by rw[zt1];omega,?_⟩⟩)))
  refine yQ (fun i α=>∃(bs:List Bool) (o4 o5 o6:Option A),uM zs many free i bs∧α=[some (.dat (.list (zs.map .int))),some (.dat (.tuple [.int many,.int free])),some (.own (bs.map .bool)),some (.own ((zw ((i / many*many:Nat):Int) (i % many)).map .int)),o4,o5,o6]) ?_ ?_ ?_
  ·refine⟨_,none,none,none,qg zs free,?_⟩
   rw[Nat.zero_mod,Nat.zero_div]
   rfl
  ·rintro i d α hd ⟨bs,o4,o5,o6,mk,rfl⟩
   have hi:i<zs.length:=by
    have:=(zt5.mp hd).1
    simpa[zh] using this
   obtain rfl:d=.int (i:Int):=by
    rw[zu7,yM (by simpa using hi)] at hd
    simpa using hd.symm
   refine⟨_,rfl,?_⟩
   have hmod:=Nat.mod_lt i hp
   refine yT 3 rfl (zj 4 rfl ⟨by rw[zt1,zh];omega,?_⟩)
   have eb:List.map PyData.int (zw ((i / many*many:Nat):Int) (i % many))++[PyData.int (i:Int)]=(zw ((i / many*many:Nat):Int) (i % many+1)).map .int:=by
    have e:=zD5 i many
    have e4:i / many*many=many*(i / many):=zI1 _ _
    rw[pZ,zA4]
    congr 1
    simp only[zx0,List.map_nil]
    congr 2
    omega
   rw[eb]
   refine xP (kf 3 rfl (zf7 (pe (by rfl) nb.len (zj 3 rfl ⟨_,rfl,xU (fun _ _=>rfl) (zj 1 rfl (yi ⟨_,_,_,rfl,rfl,at0,_,_,rfl,rfl,?_⟩))⟩))))
   refine eS (fun hc=>?_) (fun hc=>yo ?_)
   ·have hfull:i % many+1=many:=by
     rw[zt1,zh] at hc
     omega
    rw[hfull]
    have hin:∀n∈zw ((i / many*many:Nat):Int) many,0≤n∧n<zs.length:=fun n hn=>by
     rw[yu] at hn
     have e:=zD5 i many
     have e4:i / many*many=many*(i / many):=zI1 _ _
     omega
    refine wk (pat:=.many [5,6]) zz2 rfl (xC (n:=2) (K:=K) rfl rfl (yC (zI (i:=5) nI.nd rfl (Or.inl rfl)) (yC (zI (i:=6) nI.nd rfl (Or.inl rfl)) (wI))))
     (kJ (by rfl) nb.enumerate (EvL.d (bB 3 rfl (wz CC hr (by rfl) (zl (zj 0 rfl (zl (zj 3 rfl (zt ⟨_,zs,rfl,by rw[zh];exact hm64,hin,fun ms sm=>⟨_,rfl,jk ms,_,rfl,?_⟩⟩)))))))))
    have hml:ms.length=many:=by rw[sm.1.length_eq,zh]
    refine yQ (fun r α=>∃(bs':List Bool) (p5 p6:Option A),(bs'.length=bs.length∧(∀q,q<r→bs'.getD (ms.getD q 0).toNat false=decide (q<free))∧∀j,(∀q,q<r→(ms.getD q 0).toNat≠j)→bs'.getD j false=bs.getD j false)∧
     α=[some (.dat (.list (zs.map .int))),some (.dat (.tuple [.int many,.int free])),some (.own (bs'.map .bool)),some (.own ((zw ((i / many*many:Nat):Int) many).map .int)),some (.dat (.int i)),p5,p6]) ?_ ?_ ?_
    ·exact⟨bs,o5,o6,⟨rfl,fun q h=>absurd h (Nat.not_lt_zero _),fun _ _=>rfl⟩,rfl⟩
    ·rintro r d α hd ⟨bs',p5,p6,⟨f0,f1,f2⟩,rfl⟩
     obtain⟨e,he,rfl⟩:=vB hd
     have hr':r<ms.length:=by
      have:=(zt5.mp he).1
      simpa using this
     obtain rfl:e=.int (ms.getD r 0):=by
      rw[zu7,zt3 hr'] at he
      rw[zt7,zt3 hr']
      simpa using he.symm
     refine⟨_,rfl,?_⟩
     have hmem:=vC sm (q:=r) (by omega)
     have hub:=hin (ms.getD r 0) (yu.mpr hmem)
     obtain⟨j,hj⟩:=zD1 hub.1
     rw[hj]
     have jl:j<bs'.length:=by rw[f0,mk.1];omega
     refine zc6 2 rfl (aT (zj 5 rfl (xU (fun _ _=>rfl) (zj 1 rfl (yi ⟨_,_,_,rfl,rfl,xr (j:=1) rfl,_,_,rfl,rfl,zj 6 rfl ⟨_,j,rfl,?_,yo ?_⟩⟩)))))
     ·unfold ixN
      rw[if_pos (by omega),if_pos (by rw[zt1];omega)]
      simp
     ·refine⟨bs'.set j (decide (r<free)),some (.dat (.int ((0+r:Nat):Int))),some (.dat (.int (j:Int))),⟨?_,fun q hq=>?_,fun l hl=>?_⟩,?_⟩
      ·rw[zx7,f0]
      ·by_cases hqr:q=r
       ·subst hqr
        rw[hj,zG8,zt7,zz3 jl]
        rfl
       ·have hne:(ms.getD q 0).toNat≠j:=fun z=>by
         have nd:ms.Nodup:=sm.1.nodup_iff.mpr (uE _ _)
         have a1:=(vC sm (q:=q) (by omega)).1
         have z2:ms.getD q 0=ms.getD r 0:=by rw[hj];omega
         rw[zt7,zt7,zt3 (by omega),zt3 hr'] at z2
         exact (List.pairwise_iff_getElem.mp nd q r (by omega) hr' (by omega)) z2
        rw[zt7,zx6 hne.symm,←zt7,f1 q (by omega)]
      ·have hne:j≠l:=fun z=>hl r (zC6 _) (by rw[hj];omega)
       rw[zt7,zx6 hne,←zt7,f2 l fun q hq=>hl q (by omega)]
      ·have ed:decide (((0+r:Nat):Int)<(free:Int))=decide (r<free):=by
        rw[decide_eq_decide];omega
       rw[ed,List.map_set]
       rfl
    ·rintro α ⟨bs',p5,p6,⟨f0,f1,f2⟩,rfl⟩
     refine xt 3 nI.nd (yW (zt ⟨_,rfl,zu6 _,yo ?_⟩))
     rw[vI,zt1,hml] at f1 f2
     refine yo ?_
     refine⟨bs',some (.dat (.int i)),p5,p6,rN hp hfull mk sm f0 f1 f2,?_⟩
     rw[(tN hp hfull).2.1]
     rfl
   ·have hmore:i % many+1<many:=by
     rw[zt1,zh] at hc
     omega
    refine yo ?_
    refine⟨bs,some (.dat (.int i)),o5,o6,rS hp hmore mk,?_⟩
    rw[(sT hp hmore).1,(sT hp hmore).2]
    rfl
  ·rintro α ⟨bs,o4,o5,o6,mk,rfl⟩
   have el:(List.map PyData.int (zw 0 ((List.map PyData.int zs).length:Int).toNat)).length=zs.length:=by simp[zh]
   rw[el] at mk
   exact wA 2 rfl (q bs mk)
end
abbrev sNP :Stmt:=top 18
abbrev vJ :Stmt:=top 19
def aD :Scope:=match (zB vJ).getD 5 (.Pass ⟨0,0,0,0⟩) with
 |.Assign _ (.Call _ [.ListComp _ _ sc _] _ _) _=>sc
 |_=>zc vJ
def zp4 (C:Addr)(cs:Cs):List A→(A→Prop)→Prop:=fun as Q=>∃(ds:List PyData) (ns:List Int) (pr:Int→Int),as=[.dat (yP C cs ds),.dat (.list (ns.map .int))]∧Rules ds∧ns.length≤900∧(∀z∈ns,zy ds "price" z=.int (pr z))∧Q (.own ((ns.map pr).map .int))
section
variable {P:Program}{w:World}{K:PySem.W.Frag}{mg:Str→Option Value}{base:Heap}{cs:Cs}
theorem cT :zp ["book","nights","prices","night","price"] ["book","nights"] (zc sNP):=⟨rfl,rfl,rfl,by decide +kernel,rfl,by decide +kernel,by decide +kernel⟩
set_option maxHeartbeats 4000000 in
theorem ze7 {f C:Addr}{fd:FuncData}(F:Fun K "night_prices" "night_prices" sNP f fd)(hm:mg "night_prices"=some (.ref f))(hb:Binds K fd ["book","nights"] [])(MT:we P w K mg base C "tells_of" 2 (vE C cs)):Cal P w K mg base "night_prices" 3 (zp4 C cs):=by
 refine uy F hm hb cT (fun as Q h=>?_) (fun cdv A' outer s H E as Q hr h=>?_)
 ·obtain⟨ds,ns,pr,rfl,_⟩:=h
  rfl
 ·obtain⟨ds,ns,pr,rfl,rd,hl,hp,q⟩:=h
  refine xt 2 cT.nd (yW (zt ⟨_,rfl,zu6 _,?_⟩))
  refine wk (pat:=.one 3) zz2 rfl (zI (i:=3) cT.nd rfl (Or.inl rfl)) (wu (zj 1 rfl ⟨_,rfl,?_⟩))
  refine yQ (fun i α=>∃o3 o4:Option A,α=[some (.dat (yP C cs ds)),some (.dat (.list (ns.map .int))),some (.own (((ns.take i).map pr).map .int)),o3,o4]) ⟨none,none,rfl⟩ ?_ ?_
  ·rintro i d α hd ⟨o3,o4,rfl⟩
   rw[zu7,zw1] at hd
   obtain⟨z,hz,rfl⟩:=hd
   have hi:i<ns.length:=(zt5.mp hz).1
   have e:=hp z (zy0 hz)
   refine⟨_,rfl,?_⟩
   refine zW 4 cT.nd (wF MT hr (zj 0 rfl ⟨_,rfl,rfl,zl (yI (zl (zj 3 rfl (zt ⟨ds,_,_,rfl,rd,by simp[words],?_⟩))))⟩))
   show SvS _ (List.set _ _ (some (.dat (zy ds "price" z)))) _ _
   rw[e]
   refine xP (wB (zj 4 rfl ?_))
   refine tI (fun h=>by cases h) (fun _=>yo ?_)
   refine yT 2 rfl (zj 4 rfl ⟨by rw[zt1,zt1,zz7];omega,yo ⟨some (.dat (.int z)),some (.dat (.int (pr z))),?_⟩⟩)
   rw[zC0,hz,zA4,zA4]
   rfl
  ·rintro α ⟨o3,o4,rfl⟩
   rw[zt1,zE8]
   exact wA 2 rfl q
theorem nC :zp ["book","stay","nights","prices","marks","fee","rows","paid"] ["book","stay"] (zc vJ):=⟨rfl,rfl,rfl,by decide +kernel,rfl,by decide +kernel,by decide +kernel⟩
theorem zo1 :zS ["book","stay","nights","prices","marks","fee","rows","paid"] (zc vJ) ["row"] [none] aD:=⟨rfl,by decide +kernel,by decide +kernel,by decide +kernel,by decide +kernel,rfl,by decide +kernel⟩
end
theorem jb {x:Str}(h:x∈words):zG (.str x) (gp x)=true:=by
 simp only[words,zt4,zt9,zv5] at h
 rcases h with rfl|rfl|rfl|rfl|rfl|rfl|rfl<;>decide +kernel
theorem vk {ds:List PyData}(h:∀d∈ds,xh d=true){x:Str}(hx:x∈words)(day:Int):zG (.str x) (zy ds x day)=true:=by
 unfold zy
 split
 ·rename_i d e
  obtain⟨u,i,j,v,hu,rfl,_,_,_,hw⟩:=sY (h d (List.mem_reverse.mp (List.mem_of_find?_eq_some e)))
  have:=List.find?_some e
  have h2:(decide (u=x)&&(decide (i≤day)&&decide (day≤j)))=true:=this
  rw[zv1,zx1] at h2
  rw[←h2.1]
  exact hw
 ·exact jb hx
def intOf :PyData→Int
 |.int i=>i
 |_=>0
theorem wx {lo hi:Int}{d:PyData}(h:yn lo hi d=true):∃i,d=.int i∧lo≤i∧i≤hi:=by
 cases d with
 |int i=>
  have h':(decide (lo≤i)&&decide (i≤hi))=true:=h
  rw[zv1,zx1,zx1] at h'
  exact⟨i,rfl,h'⟩
 |_=>cases h
section
variable {ds:List PyData}(h:∀d∈ds,xh d=true)(day:Int)
include h
theorem zp6 :∃i,zy ds "fee" day=.int i∧0≤i∧i≤1000000000000:=wx (by
 have:=vk h (x:="fee") (by simp[words]) day
 rw[qf] at this
 exact this)
theorem pG :zy ds "price" day=.none∨∃i,zy ds "price" day=.int i∧0≤i∧i≤1000000000000:=by
 have:=vk h (x:="price") (by simp[words]) day
 rw[xf,zB2] at this
 rcases this with z|z
 ·left
  cases e:zy ds "price" day with
  |none=>rfl
  |_=>rw[e] at z;cases z
 ·exact .inr (wx z)
end
theorem iZ {d:PyData}(h:ur d=true):∃many free:Nat,d=.tuple [.int many,.int free]∧0<free∧free<many∧many<64:=by
 unfold ur at h
 split at h
 ·rename_i m r
  rw[zv1] at h
  obtain⟨i,e,i0,i1⟩:=wx h.1
  obtain⟨j,e2,j0,j1⟩:=wx h.2
  subst e2
  injection e with e
  subst e
  refine⟨m.toNat,j.toNat,?_,by omega,by omega,by omega⟩
  rw[show ((m.toNat:Nat):Int)=m by omega,show ((j.toNat:Nat):Int)=j by omega]
 ·cases h
theorem eG {ds:List PyData}(h:∀d∈ds,xh d=true)(day:Int):qw (zy ds "deal" day):=by
 have:=vk h (x:="deal") (by simp[words]) day
 rw[vO,zB2] at this
 rcases this with z|z
 ·left
  cases e:zy ds "deal" day with
  |none=>rfl
  |_=>rw[e] at z;cases z
 ·exact .inr (iZ z)
theorem yg.all {ds:List PyData}(h:yg ds):∀d∈ds,xh d=true:=fun d hd=>(h d hd).rule
def tu (ds:List PyData)(c g:Int):Prop:=∀z,c≤z→z<g→uO (zy ds "price" z)=false
def prs (ds:List PyData)(c g:Int):List Int:=(zw c (g-c).toNat).map fun z=>intOf (zy ds "price" z)
def xq (ds:List PyData)(c:Int):Int:=intOf (zy ds "fee" c)
theorem wq {ds:List PyData}{c g z:Int}(h:yg ds)(s:tu ds c g)(h0:c≤z)(h1:z<g):zy ds "price" z=.int (intOf (zy ds "price" z))∧0≤intOf (zy ds "price" z)∧intOf (zy ds "price" z)≤1000000000000:=by
 rcases pG h.all z with e|⟨i,e,i0,i1⟩
 ·have:=s z h0 h1
  rw[e] at this;cases this
 ·rw[e];exact⟨rfl,i0,i1⟩
theorem qO {ds:List PyData}(h:yg ds)(c:Int):zy ds "fee" c=.int (xq ds c)∧0≤xq ds c∧xq ds c≤1000000000000:=by
 obtain⟨i,e,i0,i1⟩:=zp6 h.all c
 unfold xq
 rw[e];exact⟨rfl,i0,i1⟩
def pQ (c g:Int):Prop:=0≤c∧c<g∧g≤c+14∧g≤1000000
theorem qj {ds:List PyData}{c g y:Int}(ro:yg ds)(so:tu ds c g)(h:y∈prs ds c g):0≤y∧y≤1000000000000:=by
 obtain⟨z,hz,rfl⟩:=zG4.mp h
 have hz:=yu.mp hz
 exact (wq ro so hz.1 (by omega)).2
theorem iT {b:Int}:∀{ns:List Int},(∀n∈ns,0≤n∧n≤b)→0≤ns.sum∧ns.sum≤b*ns.length
 |[],_=>by simp
 |n::ns,h=>by
  have h1:=h n zu8
  have h2:=iT fun m hm=>h m (zu1 _ hm)
  rw[List.sum_cons,zu5]
  have:b*((ns.length+1:Nat):Int)=b*ns.length+b:=by rw[Int.natCast_add,Int.mul_add];simp
  omega
abbrev eZ :Stmt:=top 50
def eJ :List A→(A→Prop)→Prop:=fun as Q=>∃bs dy:Int,as=[.tape,.dat (.int bs),.dat (.int dy)]∧Bd bs dy∧∀c g:Int,bs≤c→c<g→g≤bs+dy→Q (.dat (.tuple [.int c,.int g]))
section
variable {P:Program}{w:World}{K:PySem.W.Frag}{mg:Str→Option Value}{base:Heap}
theorem ze3 :zp ["_law_tape_here","_law_base","_law_days","_law_many","_law_come"] ["_law_tape_here","_law_base","_law_days"] (zc eZ):=⟨rfl,rfl,rfl,by decide +kernel,rfl,by decide +kernel,by decide +kernel⟩
theorem iN {f:Addr}{fd:FuncData}(F:Fun K "_law_stay" "_law_stay" eZ f fd)(hm:mg "_law_stay"=some (.ref f))(hb:Binds K fd ["_law_tape_here","_law_base","_law_days"] [])(CD:Cal P w K mg base "_law_draw" 1 xW):Cal P w K mg base "_law_stay" 2 eJ:=by
 refine uy F hm hb ze3 (fun as Q h=>?_) (fun cdv A' outer s H E as Q hr h=>?_)
 ·obtain⟨bs,dy,rfl,_⟩:=h
  rfl
 ·obtain⟨bs,dy,rfl,⟨b1,b2,b3,b4⟩,q⟩:=h
  have hbig:(1000001:Int)<big:=by decide
  refine zW 3 ze3.nd (xk (yi (yq CD hr (by rfl) (yb 0 rfl (zl (zj 2 rfl (zt (⟨_,rfl,by omega,by omega,fun v1 h1 g1=>⟨_,_,rfl,rfl,?_⟩⟩))))))))
  refine zW 4 ze3.nd (xk (zj 1 rfl (yq CD hr (by rfl) (yb 0 rfl (zl (xk (gJ (zj 2 rfl (zj 3 rfl (⟨_,_,rfl,rfl,yi (⟨_,_,rfl,rfl,zt (⟨_,rfl,by omega,by omega,fun v2 h2 g2=>⟨_,_,rfl,rfl,?_⟩⟩)⟩)⟩))))))))))
  refine vZ (wV (zl (zj 4 rfl (zl (xk (zj 4 rfl (zj 3 rfl (⟨_,_,rfl,rfl,zt (⟨_,rfl,zv2 rfl,?_⟩)⟩))))))))
  exact q _ _ (by omega) (by omega) (by omega)
end
abbrev uw :Stmt:=inClass (top 13) 0
theorem zn7 :zp ["self","night"] ["self","night"] (zc uw):=⟨rfl,rfl,rfl,by decide +kernel,rfl,by decide +kernel,by decide +kernel⟩
theorem zc5 {P:Program}{w:World}{K:PySem.W.Frag}{mg:Str→Option Value}{base:Heap}{f C S:Addr}{fd:FuncData}(F:Fun K "__init__" "NotSold.__init__" uw f fd)(hb:Binds K fd ["self","night"] [])(hm:mg "NotSold"=some (.ref C))(hS:mg "StayError"=some (.ref S))(kp:PySem.W.keepIn K (.ref C)=true)(hf:PySem.W.typeIn K (.ref f)=some (.type "function"))(xs:XS K S)(xc:XC K C S (some (.ref f)))(hn:PySem.W.findIn K (.ref C) "night"=some none):XMk P w K mg base "NotSold" 1 C "night":=
 ⟨hm,kp,S,f,fd,_,xc.ok,hf,hb,dA F zn7 rfl rfl hS xs xc hn (by decide +kernel) (by decide +kernel) (fun _=>rfl) (Or.inl rfl) (Or.inl rfl)⟩
def nsX (CN:Addr)(z:Int):PyData:=xD CN [(.str "night",.int z)]
def aR (C:Addr)(cs:Cs)(CN:Addr):List A→(A→Prop)→(PyData→Prop)→Prop:=fun as _ q=>∃(ds:List PyData) (pre post:List Int) (z:Int) (pr:Int→Int),as=[.dat (yP C cs ds),.dat (.list ((pre++z::post).map .int))]∧Rules ds∧pre.length≤900∧(∀y∈pre,zy ds "price" y=.int (pr y))∧zy ds "price" z=.none∧z.natAbs.log2<1920∧q (nsX CN z)
def ke (C:Addr)(cs:Cs)(CN:Addr):List A→(A→Prop)→(PyData→Prop)→Prop:=fun as _ q=>∃(ds:List PyData) (c g z:Int) (pr:Int→Int),as=[.dat (yP C cs ds),.dat (.tuple [.int c,.int g])]∧Rules ds∧0≤c∧c≤z∧z<g∧g≤c+400∧c≤1000000∧(∀y,c≤y→y<z→zy ds "price" y=.int (pr y))∧zy ds "price" z=.none∧q (nsX CN z)
theorem de {c z:Int}{n:Nat}(h0:c≤z)(h1:z<c+n):zw c n=zw c (z-c).toNat++z::zw (z+1) (c+n-z-1).toNat:=by
 refine List.ext_getElem? fun i=>?_
 by_cases h:i<(z-c).toNat
 ·rw[zv3 (by rw[zh];exact h),yM h,yM (by omega)]
 ·rw[zw0 (by rw[zh];omega),zh]
  by_cases h2:i<n
  ·rw[yM h2]
   obtain⟨k,hk⟩:∃k,i-(z-c).toNat=k:=⟨_,rfl⟩
   rw[hk]
   cases k with
   |zero=>rw[List.getElem?_cons_zero];congr 1;omega
   |succ k=>rw[zD0,yM (by omega)];congr 1;omega
  ·rw[zB4 (by rw[zh];omega),zB4 (by rw[zu5,zh];omega)]
section
variable {P:Program}{w:World}{K:PySem.W.Frag}{mg:Str→Option Value}{base:Heap}{cs:Cs}
theorem aV :zp ((["book","nights","prices","night","price"]:List Str)++[("":Str)]) ["book","nights"] (zc sNP):=⟨rfl,rfl,rfl,by decide +kernel,rfl,by decide +kernel,by decide +kernel⟩
theorem ah {f C CN:Addr}{fd:FuncData}(F:Fun K "night_prices" "night_prices" sNP f fd)(hm:mg "night_prices"=some (.ref f))(hb:Binds K fd ["book","nights"] [])(MT:we P w K mg base C "tells_of" 2 (vE C cs))(XN:XMk P w K mg base "NotSold" 1 CN "night"):nZ P w K mg base "night_prices" 3 (aR C cs CN):=by
 refine zo7 F hm hb aV (by decide) (fun as Q q h=>?_) (fun cdv A' outer s H E as Q q r xe hr h xo=>?_)
 ·obtain⟨ds,pre,post,z,pr,rfl,_⟩:=h
  rfl
 ·obtain⟨ds,pre,post,z,pr,rfl,rd,hl,hp,hz,zs,qz⟩:=h
  have nd:=aV.nd
  generalize hns:pre++z::post=ns
  refine xt 2 nd (yW (zt ⟨_,rfl,zu6 _,?_⟩))
  refine wk (pat:=.one 3) xo.own rfl (zI (i:=3) nd rfl (Or.inl rfl)) (wu (zj 1 rfl ⟨_,rfl,?_⟩))
  refine yQ (fun i α=>i≤pre.length∧∃o3 o4:Option A,α=[some (.dat (yP C cs ds)),some (.dat (.list (ns.map .int))),some (.own (((ns.take i).map pr).map .int)),o3,o4,some (.exc r fun _=>True)]∧noE [o3,o4]=true) ⟨zu6 _,none,none,rfl,rfl⟩ ?_ ?_
  ·rintro i d α hd ⟨ip,o3,o4,rfl,ne⟩
   rw[zu7,zw1] at hd
   obtain⟨y,hy,rfl⟩:=hd
   have hi:i<ns.length:=(zt5.mp hy).1
   refine⟨_,rfl,?_⟩
   refine zW 4 nd (wF MT hr (zj 0 rfl ⟨_,rfl,rfl,zl (yI (zl (zj 3 rfl (zt ⟨ds,_,_,rfl,rd,by simp[words],?_⟩))))⟩))
   show SvS _ (List.set _ _ (some (.dat (zy ds "price" y)))) _ _
   by_cases ie:i<pre.length
   ·have e:zy ds "price" y=.int (pr y):=by
     refine hp y ?_
     rw[←hns,zv3 ie] at hy
     exact zy0 hy
    rw[e]
    refine xP (wB (zj 4 rfl ?_))
    refine tI (fun h=>by cases h) (fun _=>yo ?_)
    refine yT 2 rfl (zj 4 rfl ⟨by rw[zt1,zt1,zz7];omega,yo ⟨by omega,some (.dat (.int y)),some (.dat (.int (pr y))),?_,rfl⟩⟩)
    rw[zC0,hy,zA4,zA4]
    rfl
   ·have e:i=pre.length:=by omega
    subst e
    rw[←hns,zw0 (zt8 _),zC8] at hy
    cases hy
    rw[hz]
    refine xP (wB (zj 4 rfl ?_))
    refine qX rfl ?_
    refine ir (j:=5) xo rfl XN hr (by rfl) rfl (leX.nil rfl) (zj 3 rfl ⟨_,rfl,zs,qz⟩)
  ·rintro α ⟨ip,o3,o4,rfl,ne⟩
   rw[zt1,←hns,zv4,zu5] at ip
   omega
theorem za3 :zp ((["book","stay","nights","prices","marks","fee","rows","paid"]:List Str)++[("":Str)]) ["book","stay"] (zc vJ):=⟨rfl,rfl,rfl,by decide +kernel,rfl,by decide +kernel,by decide +kernel⟩
theorem jC {z:Int}(h0:0≤z)(h1:z≤2000000):z.natAbs.log2<1920:=by
 have:z.natAbs.log2<64:=by
  by_cases e:z.natAbs=0
  ·rw[e];decide
  ·exact (Nat.log2_lt e).mpr (by omega)
 omega
theorem kZ {f C CN:Addr}{fd:FuncData}(F:Fun K "bill" "bill" vJ f fd)(hm:mg "bill"=some (.ref f))(hb:Binds K fd ["book","stay"] [])(CNi:Cal P w K mg base "nights_of" 1 tV)(CP:nZ P w K mg base "night_prices" 3 (aR C cs CN)):nZ P w K mg base "bill" 5 (ke C cs CN):=by
 refine zo7 F hm hb za3 (by decide) (fun as Q q h=>?_) (fun cdv A' outer s H E as Q q r xe hr h xo=>?_)
 ·obtain⟨ds,c,g,z,pr,rfl,_⟩:=h
  rfl
 ·obtain⟨ds,c,g,z,pr,rfl,rd,c0,cz,zg,gl,c1,hpr,hz,qz⟩:=h
  have nd:=za3.nd
  refine zW 2 nd (EvL.d (wz CNi (hr.mono (by decide)) (by rfl) (zl (zj 1 rfl (zt ⟨c,g,rfl,by omega,by omega,by omega,by omega,_,rfl,?_⟩)))))
  have eu:zw c (g-c).toNat=zw c (z-c).toNat++z::zw (z+1) (c+((g-c).toNat:Int)-z-1).toNat:=de cz (by omega)
  refine zW 3 nd (EvL.d (aF (j:=8) xo rfl (leX.nil rfl) CP (hr.mono (by decide)) (by rfl) (zl (zj 0 rfl (zl (zj 2 rfl (zt ⟨ds,zw c (z-c).toNat,_,z,pr,by rw[←eu]<;>rfl,rd,by rw[zh];omega,fun y hy=>hpr y (yu.mp hy).1 (by have:=(yu.mp hy).2;omega),hz,jC (by omega) (by omega),qz⟩)))))))
end
theorem oZ :∀{l:List PyData},(∀d∈l,noL d=true)→xJ l=true
 |[],_=>rfl
 |d::l,h=>by
  show (noL d&&xJ l)=true
  rw[h d zu8,oZ fun e he=>h e (zu1 _ he)]
  rfl
def wY (ds:List PyData)(c g:Int)(bs:List Bool):List PyData:=xg ((zw c (g-c).toNat).map .int) ((prs ds c g).map .int) (bs.map .bool)
def nN (ds:List PyData)(c g:Int)(bs:List Bool):PyData:=.tuple [.int ((yF (prs ds c g) bs).sum+xq ds c),.list (wY ds c g bs),.int (xq ds c)]
theorem uI {ns zs:List Int}{bs:List Bool}{d:PyData}(h:d∈xg (ns.map .int) (zs.map .int) (bs.map .bool)):∃a b c,d=.tuple [.int a,.int b,.bool c]∧a∈ns∧b∈zs:=by
 obtain⟨j,hj⟩:=zE5.mp h
 obtain⟨x,y,z,e1,e2,e3,rfl⟩:=vt hj
 rw[zu7,zw1] at e1 e2 e3
 obtain⟨a,ha,rfl⟩:=e1
 obtain⟨b,hb,rfl⟩:=e2
 obtain⟨c,_,rfl⟩:=e3
 exact⟨a,b,c,rfl,zy0 ha,zy0 hb⟩
theorem oC {ns zs:List Int}{bs:List Bool}:xJ (xg (ns.map .int) (zs.map .int) (bs.map .bool))=true:=oZ fun d hd=>by
 obtain⟨a,b,c,rfl,_⟩:=uI hd
 rfl
theorem ni {z:Int}(h0:-300000000000000≤z)(h1:z≤300000000000000):zT 2000 (.int z):=zT.int (by unfold big;omega) (by unfold big;omega)
theorem cD {ds:List PyData}{c g:Int}(ro:yg ds)(sb:pQ c g)(so:tu ds c g)(bs:List Bool):0≤(yF (prs ds c g) bs).sum∧(yF (prs ds c g) bs).sum≤14000000000000:=by
 obtain⟨c0,cg,g1,g2⟩:=sb
 have s:=iT (b:=1000000000000) (ns:=yF (prs ds c g) bs) fun n hn=>qj ro so (wc hn)
 have l:=vw (prs ds c g) bs
 have l2:(prs ds c g).length≤14:=by unfold prs;rw[zt1,zh];omega
 omega
theorem sr {ds:List PyData}{c g:Int}{bs:List Bool}(hb:bs.length=(prs ds c g).length):(wY ds c g bs).length=(g-c).toNat:=by
 have l2:(prs ds c g).length=(g-c).toNat:=by unfold prs;rw[zt1,zh]
 unfold wY
 rw[vG (by rw[zt1,zt1,zh,l2]) (by rw[zt1,zt1,zh,hb,l2]),zt1,zh]
theorem fe {ds:List PyData}{c g:Int}{bs:List Bool}(ro:yg ds)(sb:pQ c g)(so:tu ds c g)(hb:bs.length=(prs ds c g).length):zT sizeLine (nN ds c g bs):=by
 have s:=cD ro sb so bs
 have f:=(qO ro c).2
 have lr:=sr hb
 obtain⟨c0,cg,g1,g2⟩:=id sb
 have n1:∀d∈wY ds c g bs,zT 7000 d∧d.depth≤1:=fun d hd=>by
  obtain⟨a,b,x,rfl,ha,hb⟩:=uI hd
  have ha:=yu.mp ha
  have hb:=qj ro so hb
  exact⟨zT.tuple (n:=2000) (((yk.nil.snoc (ni (by omega) (by omega)) (zu6 _)).snoc (ni (by omega) (by omega)) (zu6 _)).snoc (zT.bool x) (zu6 _)) (by show 3*(2000+2)+3≤7000;decide),by simp[PyData.depth,PyData.depthAll]⟩
 have n2:zT 110000 (.list (wY ds c g bs)):=zT.list (n:=7000) ⟨fun d hd=>(n1 d hd).1,fun d hd=>by have:=(n1 d hd).2;omega⟩ (by show (wY ds c g bs).length*(7000+2)+2≤110000;omega)
 have d2:(PyData.list (wY ds c g bs)).depth≤7:=by
  have:PyData.depthAll (wY ds c g bs)≤1:=nj fun d hd=>(n1 d hd).2
  rw[PyData.depth];omega
 exact zT.tuple (n:=110000) (((yk.nil.snoc ((ni (by omega) (by omega)).mono (by decide)) (zu6 _)).snoc n2 d2).snoc ((ni (by omega) (by omega)).mono (by decide)) (zu6 _)) (by show 3*(110000+2)+3≤sizeLine;decide)
def pE (C:Addr)(cs:Cs):List A→(A→Prop)→Prop:=fun as Q=>∃(ds:List PyData) (c g:Int),as=[.dat (yP C cs ds),.dat (.tuple [.int c,.int g])]∧yg ds∧pQ c g∧tu ds c g∧∀bs,wN (zy ds "deal" c) (prs ds c g) bs→∀S,Q (.deep (nN ds c g bs) S)
section
variable {P:Program}{w:World}{K:PySem.W.Frag}{mg:Str→Option Value}{base:Heap}{cs:Cs}
theorem jK {f C:Addr}{fd:FuncData}(F:Fun K "bill" "bill" vJ f fd)(hm:mg "bill"=some (.ref f))(hb:Binds K fd ["book","stay"] [])(nb:NbT mg)(MT:we P w K mg base C "tells_of" 2 (vE C cs))(CN:Cal P w K mg base "nights_of" 1 tV)(CP:Cal P w K mg base "night_prices" 3 (zp4 C cs))(CM:Cal P w K mg base "marked" 4 uq):
  Cal P w K mg base "bill" 5 (pE C cs):=by
 refine uy F hm hb nC (fun as Q h=>?_) (fun cdv A' outer s H E as Q hr h=>?_)
 ·obtain⟨ds,c,g,rfl,_⟩:=h
  rfl
 ·obtain⟨ds,c,g,rfl,ro,⟨c0,cg,g1,g2⟩,so,q⟩:=h
  have rd:=ro.rules
  have hfee:=(qO ro c).1
  have hpr:∀z,c≤z→z<g→zy ds "price" z=.int ((fun z=>intOf (zy ds "price" z)) z)∧0≤(fun z=>intOf (zy ds "price" z)) z∧(fun z=>intOf (zy ds "price" z)) z≤1000000000000:=fun z z0 z1=>wq ro so z0 z1
  have q':∀bs,wN (zy ds "deal" c) ((zw c (g-c).toNat).map fun z=>intOf (zy ds "price" z)) bs→∀S,Q (.deep (.tuple [.int ((yF ((zw c (g-c).toNat).map fun z=>intOf (zy ds "price" z)) bs).sum+xq ds c),.list (xg ((zw c (g-c).toNat).map .int) (((zw c (g-c).toNat).map fun z=>intOf (zy ds "price" z)).map .int) (bs.map .bool)),.int (xq ds c)]) S):=q
  clear q
  generalize (fun z=>intOf (zy ds "price" z))=pr at hpr q'
  generalize xq ds c=fee at hfee q'
  generalize hn:(g-c).toNat=n at q'
  have hn0:0<n:=by omega
  have hn4:n≤400:=by omega
  refine zW 2 nC.nd (EvL.d (wz CN (hr.mono (by decide)) (by rfl) (zl (zj 1 rfl (zt ⟨c,g,rfl,by omega,cg,by omega,by omega,_,rfl,?_⟩)))))
  rw[hn]
  refine zW 3 nC.nd (EvL.d (wz CP (hr.mono (by decide)) (by rfl) (zl (zj 0 rfl (zl (zj 2 rfl (zt ⟨ds,zw c n,pr,rfl,rd,by rw[zh];omega,fun z hz=>(hpr z (yu.mp hz).1 (by have:=(yu.mp hz).2;omega)).1,_,rfl,?_⟩)))))))
  have lz:((zw c n).map pr).length=n:=by rw[zt1,zh]
  refine zW 4 nC.nd (EvL.d (wz CM hr (by rfl) (zl (zj 3 rfl (zl (wF MT (hr.mono (by decide)) (zj 0 rfl ⟨_,rfl,rfl,zl (yI (zl (xU (fun _ _=>rfl) (zj 1 rfl (yi ⟨_,_,_,rfl,rfl,at0,zt ⟨ds,_,_,rfl,rd,by simp[words],zt ⟨_,_,rfl,by omega,?_⟩⟩⟩)))))⟩)))))))
  have key:∀bs,wN (zy ds "deal" c) ((zw c n).map pr) bs→SvS (xB CX0 P w K mg base ["book","stay","nights","prices","marks","fee","rows","paid"] "bill" (zc vJ) f cdv A' outer s H E).nox
    [some (.dat (yP C cs ds)),some (.dat (.tuple [.int c,.int g])),some (.dat (.list ((zw c n).map .int))),some (.dat (.list (((zw c n).map pr).map .int))),some (.dat (.list (bs.map .bool))),none,none,none] ((zB vJ).drop 3) {nx:=fun _=>Q (.dat .none),rt:=Q}:=by
   intro bs mk
   have lb:=mk.len
   refine zW 5 nC.nd (wF MT (hr.mono (by decide)) (zj 0 rfl ⟨_,rfl,rfl,zl (yI (zl (xU (fun _ _=>rfl) (zj 1 rfl (yi ⟨_,_,_,rfl,rfl,at0,zt ⟨ds,_,_,rfl,rd,by simp[words],?_⟩⟩)))))⟩))
   show SvS _ (List.set _ _ (some (.dat (zy ds "fee" c)))) _ _
   rw[hfee]
   refine xt 6 nC.nd (pM rfl (by rfl) nb.list (by rfl) nb.zip (zl (zj 2 rfl (zl (zj 3 rfl (zl (zj 4 rfl (zt ⟨_,_,_,rfl,?_,?_,?_,?_,?_⟩))))))))
   ·rw[zt1,zt1,zt1]
   ·rw[zt1,zt1,lb,lz,zh]
   ·rw[zt1,zh];omega
   ·rw[zt1,zh];omega
   have pm:∀z∈yF ((zw c n).map pr) bs,0≤z∧z≤1000000000000:=fun z hz=>by
    obtain⟨y,hy,rfl⟩:=zG4.mp (wc hz)
    have hy:=yu.mp hy
    exact (hpr y hy.1 (by omega)).2
   refine zW 7 nC.nd (cP 6 rfl (ku rfl (by rfl) nb.sum (EvL.d (iX (pat:=.one 0) rfl zo1 rfl (fun _ _ _ _=>zI (i:=0) zo1.nd rfl (Or.inl rfl)) (wu (zj 6 rfl ⟨_,rfl,?_,?comp⟩))))))
   ·rw[vG (by rw[zt1,zt1,zt1]) (by rw[zt1,zt1,lb,lz,zh]),zt1,zh];omega
   refine wt (fun d=>!ue d) (bF 1) (fun d hd=>?_) ?_
   ·obtain⟨j,hj⟩:=zE5.mp hd
    obtain⟨x,y,z,e1,e2,e3,rfl⟩:=vt hj
    rw[zu7,zw1] at e3
    obtain⟨b,_,rfl⟩:=e3
    exact⟨_,rfl,fun _ _ _ _ _ k=>iO (mV (nP (xU (fun _ _=>rfl) (zj 0 rfl (yi ⟨_,_,_,rfl,rfl,xr (j:=2) rfl,⟨_,rfl,k⟩⟩))))),fun _ _ _ _ _ _ k=>xU (fun _ _=>rfl) (zj 0 rfl (yi ⟨_,_,_,rfl,rfl,xr (j:=1) rfl,k⟩))⟩
   ·rw[zD4,vW (by rw[lz,zt1,zh]) (by rw[lb,lz,zt1,zh])]
    refine⟨_,rfl,fun z hz=>by have:=pm z hz;omega,sj pm (zx9 (vw _ _) (by omega)),rfl,?_⟩
    refine ae (zc7 (tO (dG (xk (zj 7 rfl (zj 5 rfl ⟨_,_,rfl,rfl,rfl,?_⟩))))))
    exact tO (zf1 6 rfl ⟨oC,tO (dG (zj 5 rfl ⟨rfl,bG ⟨zv2 rfl,q' bs mk⟩⟩))⟩)
  rcases eG ro.all c with hd|⟨many,free,hd,f0,fm,m64⟩
  ·exact .inl ⟨hd,⟨_,rfl,key _ (.inl ⟨hd,rfl⟩)⟩⟩
  ·exact .inr ⟨many,free,hd,by omega,m64,fun bs mk=>⟨_,rfl,key bs (.inr ⟨many,free,hd,mk⟩)⟩⟩
end
abbrev gI :Stmt:=top 51
def qN :PyData:=.tuple [.str "unsold"]
def iJ (C:Addr)(cs:Cs):List A→(A→Prop)→Prop:=fun as Q=>∃(ds:List PyData) (c g:Int),as=[.dat (yP C cs ds),.dat (.tuple [.int c,.int g])]∧yg ds∧pQ c g∧
 ((tu ds c g∧∀bs,wN (zy ds "deal" c) (prs ds c g) bs→∀S,Q (.deep (nN ds c g bs) S))∨(¬tu ds c g∧Q (.dat qN)))
theorem zb6 {d:PyData}(h:uO d=true):d=.none:=by
 cases d with
 |none=>rfl
 |_=>cases h
theorem uL {ds:List PyData}:∀(n:Nat) (c:Int),¬tu ds c (c+n)→∃z,c≤z∧z<c+n∧zy ds "price" z=.none∧∀y,c≤y→y<z→uO (zy ds "price" y)=false
 |0,c,h=>absurd (fun z h0 h1=>by omega) h
 |n+1,c,h=>by
  by_cases e:uO (zy ds "price" c)=true
  ·exact⟨c,by omega,by omega,zb6 e,fun y h0 h1=>by omega⟩
  ·have e:uO (zy ds "price" c)=false:=by simpa using e
   have:¬tu ds (c+1) (c+1+n):=fun s=>h fun z h0 h1=>by
    by_cases z0:z=c
    ·rw[z0];exact e
    ·exact s z (by omega) (by omega)
   obtain⟨z,z0,z1,z2,z3⟩:=uL n (c+1) this
   refine⟨z,by omega,by omega,z2,fun y h0 h1=>?_⟩
   by_cases y0:y=c
   ·rw[y0];exact e
   ·exact z3 y (by omega) h1
section
variable {P:Program}{w:World}{K:PySem.W.Frag}{mg:Str→Option Value}{base:Heap}{cs:Cs}
theorem aM :zp ((["_law_book","_law_stay_here","_law_found"]:List Str)++[("":Str)]) ["_law_book","_law_stay_here"] (zc gI):=⟨rfl,rfl,rfl,by decide +kernel,rfl,by decide +kernel,by decide +kernel⟩
set_option maxHeartbeats 4000000 in
theorem gZ {f C CN:Addr}{fd:FuncData}(F:Fun K "_law_told" "_law_told" gI f fd)(hm:mg "_law_told"=some (.ref f))(hb:Binds K fd ["_law_book","_law_stay_here"] [])(mN:mg "NotSold"=some (.ref CN))(xb:XB K CN CN)(CB:Cal P w K mg base "bill" 5 (pE C cs))(CU:nZ P w K mg base "bill" 5 (ke C cs CN)):Cal P w K mg base "_law_told" 6 (iJ C cs):=by
 refine uy F hm hb aM (fun as Q h=>?_) (fun cdv A' outer s H E as Q hr h=>?_)
 ·obtain⟨ds,c,g,rfl,_⟩:=h
  rfl
 ·obtain⟨ds,c,g,rfl,ro,sb,h⟩:=h
  obtain⟨c0,cg,g1,g2⟩:=id sb
  have nd:=aM.nd
  refine zW 2 nd (wV (zl (yI (zt ⟨_,rfl,zv2 rfl,?_⟩))))
  have lx:leX [some (.dat (yP C cs ds)),some (.dat (.tuple [.int c,.int g])),some (.dat qN),none] [some (.dat (yP C cs ds)),some (.dat (.tuple [.int c,.int g])),some (.dat qN),none]:=leX.cons (.inr ⟨rfl,fun a e=>by cases e;trivial⟩) (leX.cons (.inr ⟨rfl,fun a e=>by cases e;trivial⟩) (leX.cons (.inr ⟨rfl,fun a e=>by cases e;trivial⟩) (leX.cons (.inl rfl) leX.nil')))
  rcases h with ⟨so,q⟩|⟨so,q⟩
  ·refine iV 3 [some (.dat (yP C cs ds)),some (.dat (.tuple [.int c,.int g])),some (.dat qN),none] (fun _=>False) rfl rfl rfl lx (by rfl) mN (fun _ z=>z.elim) (fun pins xe r xo=>?_) (fun pins a d z=>z.elim)
   refine lM 2 nd (lg CB hr (by rfl) (zl (zj 0 rfl (zl (zj 1 rfl (zt ⟨ds,c,g,rfl,ro,sb,so,fun bs mk S=>⟨_,S,rfl,fun S'=>yo ?_⟩⟩))))))
   exact cZ 2 rfl (q bs mk S')
  ·obtain⟨z,z0,z1,z2,z3⟩:=uL (g-c).toNat c (by rw[show c+((g-c).toNat:Int)=g from by omega];exact so)
   have hp:∀y,c≤y→y<z→zy ds "price" y=.int (intOf (zy ds "price" y)):=fun y h0 h1=>by
    rcases pG ro.all y with e|⟨i,e,_⟩
    ·have:=z3 y h0 h1
     rw[e] at this;cases this
    ·rw[e];rfl
   refine iV 3 [some (.dat (yP C cs ds)),some (.dat (.tuple [.int c,.int g])),some (.dat qN),none] (fun d=>d=nsX CN z) rfl rfl rfl lx (by rfl) mN (fun d e=>⟨CN,.inl ⟨_,e⟩,xb⟩) (fun pins xe r xo=>?_) (fun pins a d e=>?_)
   ·exact zW 2 nd (bw (j:=3) xo rfl (leX.cons (.inr ⟨rfl,fun a e=>by cases e;trivial⟩) (leX.cons (.inr ⟨rfl,fun a e=>by cases e;trivial⟩) (leX.cons (.inr ⟨rfl,fun a e=>by cases e;trivial⟩) (leX.cons (.inl rfl) leX.nil')))) CU hr (by rfl) (zl (zj 0 rfl (zl (zj 1 rfl (zt ⟨ds,c,g,z,_,rfl,ro.rules,c0,z0,by omega,by omega,by omega,hp,z2,rfl⟩))))))
   ·refine zW 2 nd (wV (zl (yI (zt ⟨_,rfl,zv2 rfl,yo ?_⟩))))
    exact vZ (zj 2 rfl q)
end
abbrev qZ :Stmt:=top 52
theorem dO {ds:List PyData}{c g:Int}(ro:yg ds)(so:tu ds c g):(zw c (g-c).toNat).map (fun z=>zy ds "price" z)=(prs ds c g).map .int:=by
 unfold prs
 rw[List.map_map]
 refine List.map_congr_left fun z hz=>?_
 have hz:=yu.mp hz
 exact (wq ro so hz.1 (by omega)).1
theorem kb {ds:List PyData}{c g:Int}(cg:c<g)(ro:yg ds):((zw c (g-c).toNat).map fun z=>zy ds "price" z).all uv=true∧(inD .none ((zw c (g-c).toNat).map fun z=>zy ds "price" z)=true↔¬tu ds c g):=by
 refine⟨?_,?_⟩
 ·rw[zC7]
  intro d hd
  obtain⟨z,_,rfl⟩:=zG4.mp hd
  rcases pG ro.all z with e|⟨i,e,_⟩<;>rw[e]<;>rfl
 ·unfold inD
  rw[List.any_eq_true]
  constructor
  ·rintro⟨d,hd,e⟩ so
   obtain⟨z,hz,rfl⟩:=zG4.mp hd
   have hz:=yu.mp hz
   rw[(wq ro so hz.1 (by omega)).1] at e
   simp[scV,eqV] at e
  ·intro h
   obtain⟨z,z0,z1,z2,_⟩:=uL (ds:=ds) (g-c).toNat c (by rw[show c+((g-c).toNat:Int)=g from by omega];exact h)
   refine⟨_,zG4.mpr ⟨z,yu.mpr ⟨z0,by omega⟩,rfl⟩,?_⟩
   rw[z2]
   rfl
def zm8 :PyData→PyData
 |.tuple [a,.tuple [b,c]]=>.tuple [a,b,c]
 |d=>d
theorem cy {as bs cs:List PyData}{d:PyData}(h:d∈rn as (rn bs cs)):∃a b c,d=.tuple [a,.tuple [b,c]]:=by
 obtain⟨j,hj⟩:=zE5.mp h
 unfold rn at hj
 rw[zE4,zE4] at hj
 cases e0:as[j]? with
 |none=>rw[e0] at hj;cases hj
 |some x=>
  cases e1:bs[j]? with
  |none=>rw[e0,e1] at hj;cases hj
  |some y=>
   cases e2:cs[j]? with
   |none=>rw[e0,e1,e2] at hj;cases hj
   |some z=>rw[e0,e1,e2] at hj;cases hj;exact⟨x,y,z,rfl⟩
theorem zip_rows :∀(as bs cs:List PyData),((rn as (rn bs cs)).filter fun _=>true).map zm8=xg as bs cs
 |[],_,_=>rfl
 |_::_,[],_=>rfl
 |_::_,_::_,[]=>rfl
 |a::as,b::bs,c::cs=>congrArg (PyData.tuple [a,b,c]::·) (zip_rows as bs cs)
section
variable {P:Program}{w:World}{K:PySem.W.Frag}{mg:Str→Option Value}{base:Heap}{cs:Cs}
def kA :List A→(A→Prop)→Prop:=fun as Q=>∃(zs:List Int) (d:PyData),as=[.dat (.list (zs.map .int)),.dat d]∧zs.length≤500∧qw d∧∀bs,wN d zs bs→Q (.own (bs.map .bool))
theorem jR (CM:Cal P w K mg base "marked" 4 uq):Cal P w K mg base "marked" 4 kA:=CM.imp fun as Q h=>by
 obtain⟨zs,d,rfl,l,hd,q⟩:=h
 refine⟨zs,d,rfl,l,?_⟩
 rcases hd with e|⟨m,f,e,f0,fm,m6⟩
 ·exact .inl ⟨e,q _ (.inl ⟨e,rfl⟩)⟩
 ·exact .inr ⟨m,f,e,by omega,m6,fun bs mk=>q bs (.inr ⟨m,f,e,mk⟩)⟩
theorem zn8 :zp ["_law_script","_law_tape_here","_law_days","_law_base","_law_rules_here","_law_book","_law_turn","_law_stay_here","_law_nights","_law_prices","_law_told_here","_law_marks","_law_fee","_law_rows","_law_due"] ["_law_script"] (zc qZ):=⟨rfl,rfl,rfl,by decide +kernel,rfl,by decide +kernel,by decide +kernel⟩
set_option maxHeartbeats 4000000 in
theorem zg2 {f fT C:Addr}{fd fdT:FuncData}(F:Fun K "law" "law" qZ f fd)(nb:NbT mg)(GT:zD P w K mg base CX0 1 fT fdT ["_law_script"] (mY K))(mT:mg "_law_tape"=some (.ref fT))(kT:PySem.W.keepIn K (.ref fT)=true)(bT:Binds K fdT ["_law_script"] [])
  (CD:Cal P w K mg base "_law_draw" 1 xW) (CRF:Cal P w K mg base "_law_rules" 5 oA) (CS:Cal P w K mg base "_law_stay" 2 eJ) (CBk:gC P w K mg base "Book" 9 [] (pz C cs)) (MR:we P w K mg base C "rules" 3 (qS C cs)) (MTe:we P w K mg base C "tells_of" 2 (vE C cs)) (CM:Cal P w K mg base "marked" 4 kA) (CBi:Cal P w K mg base "bill" 5 (pE C cs)) (CTo:Cal P w K mg base "_law_told" 6 (iJ C cs)):
  zD P w K mg base CX0 13 f fd ["_law_script"] (oi K):=by
 refine zq0 (k:=11) F zn8 GT mT kT bT rfl rfl (Or.inl rfl) (Or.inl rfl) (fun cdv A' outer s H E hr=>?_)
 have nd:=zn8.nd
 and_intros
 rename_i v1 a1 b1 v2 a2 b2 v3 a3 b3
 obtain⟨dy,hdy⟩:∃dy:Int,dy=4+v1:=⟨_,rfl⟩
 rw[←hdy]
 refine zk3 (fun d=>∃b:Int,d=.int b∧0≤b∧b≤999980) rfl (by assumption) (by assumption) ⟨⟨_,rfl,by omega,by omega⟩,⟨_,rfl,by omega,by omega⟩,⟨_,rfl,by omega,by omega⟩,trivial⟩ ?_
 rintro _ ⟨b,rfl,b0,b1⟩
 and_intros
 refine⟨b,dy,rfl,⟨b0,b1,by omega,by omega⟩,fun rs rr rl=>?_⟩
 and_intros
 refine⟨rs,.inl rfl,rr.rules,by omega,?_⟩
 refine ar (.one 6) (vv (by rfl) nb.range ?_)
 and_intros
 refine⟨by omega,by omega,?_⟩
 refine yQ (fun i α=>∃o6 o7 o8 o9 o10 o11 o12 o13 o14:Option A,α=[none,some .tape,some (.dat (.int dy)),some (.dat (.int b)),some (.dat (.list rs)),some (.dat (yP C cs rs)),o6,o7,o8,o9,o10,o11,o12,o13,o14]) ⟨none,none,none,none,none,none,none,none,none,rfl⟩ ?_ ?_
 ·rintro i d α hd ⟨o6,o7,o8,o9,o10,o11,o12,o13,o14,rfl⟩
  refine⟨_,rfl,?_⟩
  and_intros
  refine⟨b,dy,rfl,⟨b0,b1,by omega,by omega⟩,fun c g h1 h2 h3=>?_⟩
  have sg:pQ c g:=⟨by omega,by omega,by omega,by omega⟩
  obtain⟨c0,cg,g1,g2⟩:=id sg
  have np:((zw c (g-c).toNat).map PyData.int).length≤1000:=by rw[zt1,zh];omega
  refine zW 8 nd (EvL.d (pW rfl (by rfl) nb.list (by rfl) nb.range (xU (fun _ _=>rfl) (zj 7 rfl (yi ⟨_,_,_,rfl,rfl,at0,xU (fun _ _=>rfl) (zj 7 rfl (yi ⟨_,_,_,rfl,rfl,xr (j:=1) rfl,_,_,rfl,rfl,⟨by omega,by omega,by omega,by omega⟩,by omega,?_⟩))⟩)))))
  refine eh 9 ["_law_night","_law_book"] [none,some 5] (.one 0) (wu (zj 8 rfl ⟨_,rfl,np,?_⟩))
  refine jw (fun z=>zy rs "price" z) (fun z hz=>⟨_,rfl,fun _ _ _ _ _ k=>?_⟩) ?_
  ·exact wF MTe (hr.mono (by decide)) (zj 1 rfl ⟨_,rfl,rfl,zl (yI (zl (zj 0 rfl (zt ⟨rs,_,_,rfl,rr.rules,by simp[words],k⟩))))⟩)
  rw[zD4]
  refine fA 9 rfl ?_
  have fl:=(kb cg rr).1
  have iff:=(kb cg rr).2
  have df:=eG rr.all c
  by_cases so:tu rs c g
  ·have e9:=dO rr so
   have lp:(prs rs c g).length=(g-c).toNat:=by unfold prs;rw[zt1,zh]
   refine lM 10 nd (lg CTo (hr.mono (by decide)) (by rfl) (zl (zj 5 rfl (zl (zj 7 rfl (zt ⟨rs,c,g,rfl,rr,sg,.inl ⟨so,fun bs mk S=>⟨_,S,rfl,fun S'=>?_⟩⟩⟩))))))
   have lb:=mk.len
   have nb':=fe rr sg so lb
   refine xP (za1 (tQ (zj 9 rfl ⟨_,.inl rfl,rfl,fl,?_⟩)))
   have ef:inD .none ((zw c (g-c).toNat).map fun z=>zy rs "price" z)=false:=by
    cases q:inD .none ((zw c (g-c).toNat).map fun z=>zy rs "price" z) with
    |false=>rfl
    |true=>exact absurd so (iff.mp q)
   refine tK ef ?_
   rw[e9]
   have key:∀cs':List Bool,wN (zy rs "deal" c) (prs rs c g) cs'→cs'=bs:=fun cs' mk'=>pU df mk' mk
   and_intros
   refine⟨rs,_,_,rfl,rr.rules,by simp[words],?_⟩
   and_intros
   refine⟨prs rs c g,_,rfl,by omega,df,fun cs' mk'=>?_⟩
   have:=key cs' mk'
   subst this
   and_intros
   refine⟨rs,_,_,rfl,rr.rules,by simp[words],?_⟩
   rw[(qO rr c).1]
   show SvS _ [none,some .tape,some (.dat (.int dy)),some (.dat (.int b)),some (.dat (.list rs)),some (.dat (yP C cs rs)),some (.dat d),some (.dat (.tuple [.int c,.int g])),some (.dat (.list ((zw c (g-c).toNat).map .int))),some (.dat (.list ((prs rs c g).map .int))),some (.deep (nN rs c g cs') S'),some (.dat (.list (cs'.map .bool))),some (.dat (.int (xq rs c))),o13,o14] _ _
   refine eh 13 ["_law_night","_law_coins_here","_law_mark"] [none,none,none] (.nest 0 [1,2]) (ba (by rfl) nb.zip (zj 8 rfl (zj 9 rfl (zj 11 rfl ⟨_,_,_,rfl,rfl,rfl,?_,?_,?_,?_⟩)))) (hg:=fun _ _ _ _ hnd=>xC rfl rfl (yC (zI hnd rfl (Or.inl rfl)) (yC (xC rfl rfl (yC (zI hnd rfl (Or.inl rfl)) (yC (zI hnd rfl (Or.inl rfl)) wI))) wI)))
   ·rw[zt1,zt1,zh,lp]
   ·rw[zt1,zt1,zh,lb,lp]
   ·unfold rn;rw[zF5,zF5,zt1,zh];omega
   refine wt (fun _=>true) zm8 (fun x hx=>?_) ?_
   ·obtain⟨x1,x2,x3,rfl⟩:=cy hx
    exact⟨_,rfl,fun _ _ _ _ _ k=>qR k,fun _ _ _ _ _ _ k=>wV (zl (zj 0 rfl (zl (zj 1 rfl (zl (zj 2 rfl (zt ⟨_,rfl,zv2 rfl,k⟩)))))))⟩
   rw[zD4,zip_rows]
   refine fA 13 rfl ?_
   have lr:=sr lb
   unfold wY at lr
   have pm:∀z∈yF (prs rs c g) cs',0≤z∧z≤1000000000000:=fun z hz=>qj rr so (wc hz)
   refine zW 14 nd (xk (zj 12 rfl (ku rfl (by rfl) nb.sum (EvL.d (zc2 ["_law_night","_law_coins_here","_law_mark"] [none,none,none] (.many [0,1,2]) (wu (zj 13 rfl ⟨_,rfl,?_,?_⟩)))))))
   ·omega
   refine wt (fun d=>!ue d) (bF 1) (fun x hx=>?_) ?_
   ·obtain⟨x1,x2,x3,rfl,_⟩:=uI hx
    exact⟨_,rfl,fun _ _ _ _ _ k=>iO (mV (nP (zj 2 rfl ⟨_,rfl,k⟩))),fun _ _ _ _ _ _ k=>zj 1 rfl k⟩
   rw[zD4,vW (by rw[lp,zt1,zh]) (by rw[lb,lp,zt1,zh])]
   refine⟨_,rfl,fun z hz=>by have:=pm z hz;omega,sj pm (zx9 (vw _ _) (by omega)),_,_,rfl,rfl,?_⟩
   rw[show xq rs c+(yF (prs rs c g) cs').sum=(yF (prs rs c g) cs').sum+xq rs c from Int.add_comm _ _]
   show SvS _ [none,some .tape,some (.dat (.int dy)),some (.dat (.int b)),some (.dat (.list rs)),some (.dat (yP C cs rs)),some (.dat d),some (.dat (.tuple [.int c,.int g])),some (.dat (.list ((zw c (g-c).toNat).map .int))),some (.dat (.list ((prs rs c g).map .int))),some (.deep (nN rs c g cs') S'),some (.dat (.list (cs'.map .bool))),some (.dat (.int (xq rs c))),some (.dat (.list (wY rs c g cs'))),some (.dat (.int ((yF (prs rs c g) cs').sum+xq rs c)))] _ _
   refine xP (dS 10 rfl ?_)
   and_intros
   refine⟨nb',?_⟩
   and_intros
   refine⟨nb',?_⟩
   and_intros
   refine tK (by simp[nN]) (yo ?_)
   refine cu (ds:=[.int ((yF (prs rs c g) cs').sum+xq rs c),.list (wY rs c g cs'),.int (xq rs c)]) 10 1 rfl rfl (by have:=sr lb;omega) (fun x hx=>?_) ?_
   ·simp only[zt4,zt9,zv5] at hx
    rcases hx with rfl|rfl|rfl
    ·exact .inl rfl
    ·exact .inr ⟨_,rfl,oC⟩
    ·exact .inl rfl
   and_intros
   refine⟨rfl,fun ds' sm=>?_⟩
   refine xP (iQ hr.units (lV hr.gd hr.units (by rfl) nb.repr (EvN.d (lg CBi (hr.mono (by decide)) (by rfl) (zl (zj 5 rfl (zl (zj 7 rfl (zt ⟨rs,c,g,rfl,rr,sg,so,fun bs2 mk2 S2=>⟨_,S2,rfl,?_⟩⟩)))))))))
   have:=pU df mk2 mk
   subst this
   refine⟨nb',?_⟩
   and_intros
   refine⟨nb',?_⟩
   and_intros
   refine tK (by simp[nN]) ?_
   and_intros
   exact⟨_,_,_,_,_,_,_,_,_,rfl⟩
  ·refine zW 10 nd (yq CTo (hr.mono (by decide)) (by rfl) (zl (zj 5 rfl (zl (zj 7 rfl (zt ⟨rs,c,g,rfl,rr,sg,.inr ⟨so,?_⟩⟩))))))
   refine xP (za1 (tQ (zj 9 rfl ⟨_,.inl rfl,rfl,fl,?_⟩)))
   refine qX (iff.mpr so) ?_
   and_intros
   refine eqk (x:=qN) (y:=qN) (by decide +kernel) (by decide +kernel) rfl rfl ?_
   rw[show PyData.eqv qN qN=true from by decide +kernel]
   and_intros
   exact⟨_,_,_,_,_,_,_,_,_,rfl⟩
 ·rintro α ⟨o6,o7,o8,o9,o10,o11,o12,o13,o14,rfl⟩
  and_intros
  refine⟨rr.rules,by omega,?_⟩
  and_intros
  refine⟨rr.nice (by omega),?_⟩
  and_intros
  refine⟨rr.nice (by omega),?_⟩
  and_intros
  simp[A.d]
end
def FnF (K:PySem.W.Frag)(f:Addr)(nm ql:Str)(st:Stmt):Prop:=∃fd,Fun K nm ql st f fd
theorem mkF {K:PySem.W.Frag}{f:Addr}{nm ql:Str}{st:Stmt}{oc kV dc pm cd ct:Value}{od an:Option Addr}{sl:Array (Option Value)}(l:K.lookup f=some ⟨oc,od,.func (PySem.W.fnOf nm ql (zN st) (zB st) (zc st) .none kV dc pm an cd ct),sl⟩)(c:PySem.W.codeIn K cd ql=true)(k:PySem.W.keepIn K (.ref f)=true):FnF K f nm ql st:=⟨_,nO l c k⟩
def FnG (K:PySem.W.Frag)(f:Addr)(nm:Str)(st:Stmt):Prop:=PySem.W.nsIn K mainGlobals nm=some (some (.ref f))∧FnF K f nm nm st
theorem mkG {K:PySem.W.Frag}{f:Addr}{nm:Str}{st:Stmt}{oc kV dc pm cd ct:Value}{od an:Option Addr}{sl:Array (Option Value)}(a:PySem.W.nsIn K mainGlobals nm=some (some (.ref f)))(l:K.lookup f=some ⟨oc,od,.func (PySem.W.fnOf nm nm (zN st) (zB st) (zc st) .none kV dc pm an cd ct),sl⟩)(c:PySem.W.codeIn K cd nm=true)(k:PySem.W.keepIn K (.ref f)=true):FnG K f nm st:=⟨a,mkF l c k⟩
theorem FnF.get {K:PySem.W.Frag}{f:Addr}{nm ql:Str}{st:Stmt}(ps:List Str)(h:FnF K f nm ql st)(hb:∀(kV doc pm:Value) (an:Option Addr) (cdv ct:Value) (us:List Value),us.length=ps.length→bindArgs (PySem.W.fnOf nm ql (zN st) (zB st) (zc st) .none kV doc pm an cdv ct) ⟨us,[]⟩=pure (ps.zip us)):∃fd,Fun K nm ql st f fd∧Binds K fd ps []:=by
 obtain⟨fd,F⟩:=h
 exact⟨fd,F,F.binds hb⟩
theorem FnG.get {K:PySem.W.Frag}{h0:Heap}{mg:Str→Option Value}{f:Addr}{nm:Str}{st:Stmt}(ps:List Str)(h:FnG K f nm st)(X:K.In h0)(G:h0.Ns mainGlobals mg)(hb:∀(kV doc pm:Value) (an:Option Addr) (cdv ct:Value) (us:List Value),us.length=ps.length→bindArgs (PySem.W.fnOf nm nm (zN st) (zB st) (zc st) .none kV doc pm an cdv ct) ⟨us,[]⟩=pure (ps.zip us)):∃fd,mg nm=some (.ref f)∧Fun K nm nm st f fd∧Binds K fd ps []:=by
 obtain⟨a,fd,F⟩:=h
 exact⟨fd,zw9 X G a,F,F.binds hb⟩
theorem mkR {K:PySem.W.Frag}{C gi gt ge gw:Addr}(pg:PySem.W.plainGet K C Str.empty=true)(hd:PySem.W.hasDictIn K C=true)(po:PySem.W.plainOver K C=true)(sa:PySem.W.findIn K (.ref C) "__setattr__"=some (some (.builtin "object.__setattr__")))(n1:PySem.W.findIn K (.ref C) "first"=some none)(n2:PySem.W.findIn K (.ref C) "last"=some none)(n3:PySem.W.findIn K (.ref C) "worth"=some none)(mk:PySem.W.makesIn K C=true)(f1:PySem.W.findIn K (.ref C) "__init__"=some (some (.ref gi)))(i1:PySem.W.isFn K (.ref gi)=true)(kc:PySem.W.keepIn K (.ref C)=true)(f2:PySem.W.findIn K (.ref C) "told"=some (some (.ref gt)))(i2:PySem.W.isFn K (.ref gt)=true)(k2:PySem.W.keepIn K (.ref gt)=true)(f3:PySem.W.findIn K (.ref C) "tells"=some (some (.ref ge)))(i3:PySem.W.isFn K (.ref ge)=true)(k3:PySem.W.keepIn K (.ref ge)=true)(f4:PySem.W.findIn K (.ref C) "word"=some (some (.ref gw)))(i4:PySem.W.isFn K (.ref gw)=true)(k4:PySem.W.keepIn K (.ref gw)=true):xT K C gi gt ge gw:=⟨⟨pg,hd,po,sa⟩,n1,n2,n3,⟨mk,f1,i1,kc⟩,⟨f2,i2,k2⟩,⟨f3,i3,k3⟩,⟨f4,i4,k4⟩⟩
theorem jY {K:PySem.W.Frag}{dT:Addr}{oc kV doc pm cdv ct:Value}{od an:Option Addr}{n:Nat}{sl:Array (Option Value)}(lk:K.lookup dT=some ⟨oc,od,.seq #[.none] n,sl⟩):
  Binds K (PySem.W.fnOf "__init__" "Book.__init__" (zN xl) (zB xl) (zc xl) (.ref dT) kV doc pm an cdv ct) ["self","rules"] [.none]:=fun s us hk hl=>by
 match us,(show us.length=1 by rw[zv4] at hl;simpa using hl) with
 |[u],_=>exact BindsTo.of_defaults (T:=dT) rfl (hk _ _ lk) rfl rfl rfl
theorem jm {K:PySem.W.Frag}{dT:Addr}{oc kV doc pm cdv ct:Value}{od an:Option Addr}{n:Nat}{sl:Array (Option Value)}(lk:K.lookup dT=some ⟨oc,od,.seq #[.none] n,sl⟩):
  Binds K (PySem.W.fnOf "__init__" "Book.__init__" (zN xl) (zB xl) (zc xl) (.ref dT) kV doc pm an cdv ct) ["self","rules"] []:=fun s us hk hl=>by
 rw[zA3] at hl ⊢
 match us,hl with
 |[u,v],_=>exact BindsTo.of_defaults (T:=dT) rfl (hk _ _ lk) rfl rfl rfl
theorem bE {P:Str→Prop}(h1:P "price")(h2:P "come")(h3:P "go")(h4:P "least")(h5:P "most")(h6:P "deal")(h7:P "fee"):∀u∈words,P u:=by
 intro u hu
 simp only[words,zt4,zt9,zv5] at hu
 rcases hu with rfl|rfl|rfl|rfl|rfl|rfl|rfl<;>assumption
set_option maxHeartbeats 8000000 in
theorem us1 {α:Type}{p:List α→Prop}(h:∀a,p [a])(us:List α)(hl:us.length=1):p us:=by
 obtain⟨a,rfl⟩:=List.length_eq_one_iff.mp hl
 exact h a
theorem us2 {α:Type}{p:List α→Prop}(h:∀a b,p [a,b])(us:List α)(hl:us.length=2):p us:=by
 cases us with
 |nil=>cases hl
 |cons a us=>exact us1 (p:=fun us=>p (a::us)) (h a) us (Nat.succ.inj hl)
theorem us3 {α:Type}{p:List α→Prop}(h:∀a b c,p [a,b,c])(us:List α)(hl:us.length=3):p us:=by
 cases us with
 |nil=>cases hl
 |cons a us=>exact us2 (p:=fun us=>p (a::us)) (h a) us (Nat.succ.inj hl)
theorem us4 {α:Type}{p:List α→Prop}(h:∀a b c d,p [a,b,c,d])(us:List α)(hl:us.length=4):p us:=by
 cases us with
 |nil=>cases hl
 |cons a us=>exact us3 (p:=fun us=>p (a::us)) (h a) us (Nat.succ.inj hl)
set_option maxHeartbeats 0 in
theorem all_mk {l:PySem.W.OpenLaw}{w:World}{K:PySem.W.Frag}{h:Heap}{mg:Str→Option Value}{fa cC f1 f2 f3 f4 f5 f6 f7 f8 f9 f10 f11 f12 f13 f14 f15 f16 f17 f18 f19 f20 f21 f22 f23 f24 f25 f26 f27 f28 f29 g_init g_told g_tells g_wPrice g_wCome g_wGo g_wLeast g_wMost g_wDeal g_wFee CPrice CCome CGo CLeast CMost CDeal CFee CB dT g_binit g_brules g_btells dU CSt CX_NotSold gx_NotSold:Addr}(X:K.In h)(G:h.Ns mainGlobals mg)(hfa:mg "law"=some (.ref fa))
  {od14 an14 od29 an29 odB anB odT:Option Addr} {sl14 sl29 slB slT:Array (Option Value)} {oc14 kV14 dc14 pm14 ct14 oc29 kV29 dc29 pm29 ct29 cd29 ocB kVB dcB pmB ctB cdB ocT:Value} {tk1 tk2 tk3 tk4 tu1 tu2 tu3 tu4 tu5 tu6 tu7 tu8 tu9 tu10:Tok} {hu1 hu2 hu3 hu4 hu5 hu6 hu7:Int} {nT nU:Nat}
  (q1:FnG K f1 "is_whole" pB)
  (q2:FnG K f2 "is_whole_within" qq)
  (q3:FnG K f3 "is_pair" gG)
  (q4:FnG K f4 "is_day" zc3)
  (q5:FnG K f5 "is_pair_of_days" ee)
  (q6:FnG K f6 "is_stretch" sC)
  (q7:FnG K f7 "is_coins" nW)
  (q8:FnG K f8 "is_deal" qL)
  (q9:FnG K f9 "is_worth" lq)
  (q10:FnG K f10 "is_rule" pC)
  (q11:FnG K f11 "made" eQ)
  (q12:FnG K f12 "rule_of" qQ)
  (q13:FnG K f13 "nights_of" qV)
  (a14:PySem.W.nsIn K mainGlobals "cheapest_first"=some (some (.ref f14)))
  (l14:K.lookup f14=some ⟨oc14,od14,.func (PySem.W.fnOf "cheapest_first" "cheapest_first" (zN yK) (zB yK) (zc yK) .none kV14 dc14 pm14 an14 (.ref cC) ct14),sl14⟩)
  (c14:PySem.W.codeIn K (.ref cC) "cheapest_first"=true)
  (k14:PySem.W.keepIn K (.ref f14)=true)
  (q15:FnG K f15 "marked" vo)
  (q16:FnG K f16 "night_prices" sNP)
  (q17:FnG K f17 "bill" vJ)
  (q18:FnG K f18 "usual" nR)
  (q19:FnG K f19 "kept_rules" eY)
  (q20:FnG K f20 "_law_tape" rK)
  (q21:FnG K f21 "_law_draw" eN)
  (q22:FnG K f22 "_law_coins" qB)
  (q23:FnG K f23 "_law_worth" qK)
  (q24:FnG K f24 "_law_price_rules" qA)
  (q25:FnG K f25 "_law_other_rules" qu)
  (q26:FnG K f26 "_law_rules" qM)
  (q27:FnG K f27 "_law_stay" eZ)
  (q28:FnG K f28 "_law_told" gI)
  (a29:PySem.W.nsIn K mainGlobals "law"=some (some (.ref f29)))
  (l29:K.lookup f29=some ⟨oc29,od29,.func (PySem.W.fnOf "law" "law" (zN qZ) (zB qZ) (zc qZ) .none kV29 dc29 pm29 an29 cd29 ct29),sl29⟩)
  (c29:PySem.W.codeIn K cd29 "law"=true)
  (k29:PySem.W.keepIn K (.ref f29)=true)
  (aCPrice:PySem.W.nsIn K mainGlobals "Price"=some (some (.ref CPrice)))
  (aCCome:PySem.W.nsIn K mainGlobals "Come"=some (some (.ref CCome)))
  (aCGo:PySem.W.nsIn K mainGlobals "Go"=some (some (.ref CGo)))
  (aCLeast:PySem.W.nsIn K mainGlobals "Least"=some (some (.ref CLeast)))
  (aCMost:PySem.W.nsIn K mainGlobals "Most"=some (some (.ref CMost)))
  (aCDeal:PySem.W.nsIn K mainGlobals "Deal"=some (some (.ref CDeal)))
  (aCFee:PySem.W.nsIn K mainGlobals "Fee"=some (some (.ref CFee)))
  (RPrice:xT K CPrice g_init g_told g_tells g_wPrice)
  (RCome:xT K CCome g_init g_told g_tells g_wCome)
  (RGo:xT K CGo g_init g_told g_tells g_wGo)
  (RLeast:xT K CLeast g_init g_told g_tells g_wLeast)
  (RMost:xT K CMost g_init g_told g_tells g_wMost)
  (RDeal:xT K CDeal g_init g_told g_tells g_wDeal)
  (RFee:xT K CFee g_init g_told g_tells g_wFee)
  (q_init:FnF K g_init "__init__" "Rule.__init__" kh)
  (q_told:FnF K g_told "told" "Rule.told" gD)
  (q_tells:FnF K g_tells "tells" "Rule.tells" md)
  (q_wPrice:FnF K g_wPrice "word" "Price.word" pF)
  (q_wCome:FnF K g_wCome "word" "Come.word" nQ)
  (q_wGo:FnF K g_wGo "word" "Go.word" zh0)
  (q_wLeast:FnF K g_wLeast "word" "Least.word" pq)
  (q_wMost:FnF K g_wMost "word" "Most.word" lE)
  (q_wDeal:FnF K g_wDeal "word" "Deal.word" mC)
  (q_wFee:FnF K g_wFee "word" "Fee.word" fL)
  (aCB:PySem.W.nsIn K mainGlobals "Book"=some (some (.ref CB)))
  (fi_binit:PySem.W.findIn K (.ref CB) "__init__"=some (some (.ref g_binit)))
  (is_binit:PySem.W.isFn K (.ref g_binit)=true)
  (l_binit:K.lookup g_binit=some ⟨ocB,odB,.func (PySem.W.fnOf "__init__" "Book.__init__" (zN xl) (zB xl) (zc xl) (.ref dT) kVB dcB pmB anB cdB ctB),slB⟩)
  (c_binit:PySem.W.codeIn K cdB "Book.__init__"=true)
  (k_binit:PySem.W.keepIn K (.ref g_binit)=true)
  (lT:K.lookup dT=some ⟨ocT,odT,.seq #[.none] nT,slT⟩)
  (fi_brules:PySem.W.findIn K (.ref CB) "rules"=some (some (.ref g_brules)))
  (is_brules:PySem.W.isFn K (.ref g_brules)=true)
  (q_brules:FnF K g_brules "rules" "Book.rules" vA)
  (fi_btells:PySem.W.findIn K (.ref CB) "tells_of"=some (some (.ref g_btells)))
  (is_btells:PySem.W.isFn K (.ref g_btells)=true)
  (q_btells:FnF K g_btells "tells_of" "Book.tells_of" pf)
  (pgB:PySem.W.plainGet K CB Str.empty=true)
  (hdB:PySem.W.hasDictIn K CB=true)
  (poB:PySem.W.plainOver K CB=true)
  (saB:PySem.W.findIn K (.ref CB) "__setattr__"=some (some (.builtin "object.__setattr__")))
  (mkB:PySem.W.makesIn K CB=true)
  (kcB:PySem.W.keepIn K (.ref CB)=true)
  (noB:PySem.W.findIn K (.ref CB) "kept"=some none)
  (z1:PySem.W.nsIn K mainGlobals "abs"=some none)
  (z2:PySem.W.nsIn K mainGlobals "list"=some none)
  (z3:PySem.W.nsIn K mainGlobals "len"=some none)
  (z4:PySem.W.nsIn K mainGlobals "range"=some none)
  (z5:PySem.W.nsIn K mainGlobals "min"=some none)
  (z6:PySem.W.nsIn K mainGlobals "max"=some none)
  (z7:PySem.W.nsIn K mainGlobals "sorted"=some none)
  (z8:PySem.W.nsIn K mainGlobals "isinstance"=some none)
  (z9:PySem.W.nsIn K mainGlobals "int"=some none)
  (z10:PySem.W.nsIn K mainGlobals "bool"=some none)
  (z11:PySem.W.nsIn K mainGlobals "str"=some none)
  (z12:PySem.W.nsIn K mainGlobals "tuple"=some none)
  (z13:PySem.W.nsIn K mainGlobals "all"=some none)
  (z14:PySem.W.nsIn K mainGlobals "any"=some none)
  (z15:PySem.W.nsIn K mainGlobals "repr"=some none)
  (z16:PySem.W.nsIn K mainGlobals "zip"=some none)
  (z17:PySem.W.nsIn K mainGlobals "enumerate"=some none)
  (z18:PySem.W.nsIn K mainGlobals "reversed"=some none)
  (z19:PySem.W.nsIn K mainGlobals "sum"=some none)
  (gi1:PySem.W.nsIn K mainGlobals "LAST_DAY"=some (some (.int 1000000 tk1)))
  (gi2:PySem.W.nsIn K mainGlobals "MOST_NIGHTS"=some (some (.int 14 tk2)))
  (gi3:PySem.W.nsIn K mainGlobals "MOST_COINS"=some (some (.int 1000000000000 tk3)))
  (gi4:PySem.W.nsIn K mainGlobals "MOST_RULES"=some (some (.int 24 tk4)))
  (aU:PySem.W.nsIn K mainGlobals "USUAL"=some (some (.ref dU)))
  (lU:K.lookup dU=some ⟨.type "dict",none,.dict #[⟨hu1,.str "price" tu1,.none⟩,⟨hu2,.str "come" tu2,.bool true⟩,⟨hu3,.str "go" tu3,.bool true⟩,⟨hu4,.str "least" tu4,.int 1 tu8⟩,⟨hu5,.str "most" tu5,.int 14 tu9⟩,⟨hu6,.str "deal" tu6,.none⟩,⟨hu7,.str "fee" tu7,.int 0 tu10⟩] nU,#[]⟩)
  (hh1:hu1=hashStr w "price")
  (hh2:hu2=hashStr w "come")
  (hh3:hu3=hashStr w "go")
  (hh4:hu4=hashStr w "least")
  (hh5:hu5=hashStr w "most")
  (hh6:hu6=hashStr w "deal")
  (hh7:hu7=hashStr w "fee")
  (hhd:PySem.W.codeHdIn K cC yx=true)
  (aSt:PySem.W.nsIn K mainGlobals "StayError"=some (some (.ref CSt)))
  (aX_NotSold:PySem.W.nsIn K mainGlobals "NotSold"=some (some (.ref CX_NotSold)))
  (fX_NotSold:PySem.W.findIn K (.ref CX_NotSold) "__init__"=some (some (.ref gx_NotSold)))
  (tX_NotSold:PySem.W.typeIn K (.ref gx_NotSold)=some (.type "function"))
  (qX_NotSold:FnF K gx_NotSold "__init__" "NotSold.__init__" uw)
  (uSt:dC K CSt=true)
  (eX_NotSold:mj K CX_NotSold CSt (some (.ref gx_NotSold))=true)
  (kX_NotSold:PySem.W.keepIn K (.ref CX_NotSold)=true)
  (nX_NotSold_night:PySem.W.findIn K (.ref CX_NotSold) "night"=some none)
  (bX_NotSold_NotSold:gf K CX_NotSold CX_NotSold=true):
  ∃fd:FuncData,(∀(s:Shared) (v:Value),BindsTo s fd ⟨[v],[]⟩ [("_law_script",v)])∧∀base:Heap,K.In base→base.Ns mainGlobals mg→base.BuiltinsAt mg yx→zD l.prog w K mg base CX0 13 fa fd ["_law_script"] (oi K):=by
 have e:=hfa.symm.trans (zw9 X G a29)
 cases e
 have nb:NbT mg:=⟨zv6 X G z1,zv6 X G z2,zv6 X G z3,zv6 X G z4,zv6 X G z5,zv6 X G z6,zv6 X G z7,zv6 X G z8,zv6 X G z9,zv6 X G z10,zv6 X G z11,zv6 X G z12,zv6 X G z13,zv6 X G z14,zv6 X G z15,zv6 X G z16,zv6 X G z17,zv6 X G z18,zv6 X G z19⟩
 obtain⟨_,m_is_whole,F_is_whole,b_is_whole⟩:=q1.get ["thing"] X G fun _ _ _ _ _ _=>us1 fun _=>rfl
 obtain⟨_,m_is_whole_within,F_is_whole_within,b_is_whole_within⟩:=q2.get ["thing","lowest","highest"] X G fun _ _ _ _ _ _=>us3 fun _ _ _=>rfl
 obtain⟨_,m_is_pair,F_is_pair,b_is_pair⟩:=q3.get ["thing"] X G fun _ _ _ _ _ _=>us1 fun _=>rfl
 obtain⟨_,m_is_day,F_is_day,b_is_day⟩:=q4.get ["thing"] X G fun _ _ _ _ _ _=>us1 fun _=>rfl
 obtain⟨_,m_is_pair_of_days,F_is_pair_of_days,b_is_pair_of_days⟩:=q5.get ["thing"] X G fun _ _ _ _ _ _=>us1 fun _=>rfl
 obtain⟨_,m_is_stretch,F_is_stretch,b_is_stretch⟩:=q6.get ["thing"] X G fun _ _ _ _ _ _=>us1 fun _=>rfl
 obtain⟨_,m_is_coins,F_is_coins,b_is_coins⟩:=q7.get ["thing"] X G fun _ _ _ _ _ _=>us1 fun _=>rfl
 obtain⟨_,m_is_deal,F_is_deal,b_is_deal⟩:=q8.get ["thing"] X G fun _ _ _ _ _ _=>us1 fun _=>rfl
 obtain⟨_,m_is_worth,F_is_worth,b_is_worth⟩:=q9.get ["word","thing"] X G fun _ _ _ _ _ _=>us2 fun _ _=>rfl
 obtain⟨_,m_is_rule,F_is_rule,b_is_rule⟩:=q10.get ["thing"] X G fun _ _ _ _ _ _=>us1 fun _=>rfl
 obtain⟨_,m_made,F_made,b_made⟩:=q11.get ["word","first","last","worth"] X G fun _ _ _ _ _ _=>us4 fun _ _ _ _=>rfl
 obtain⟨_,m_rule_of,F_rule_of,b_rule_of⟩:=q12.get ["thing"] X G fun _ _ _ _ _ _=>us1 fun _=>rfl
 obtain⟨_,m_nights_of,F_nights_of,b_nights_of⟩:=q13.get ["stay"] X G fun _ _ _ _ _ _=>us1 fun _=>rfl
 have m_cheapest_first:mg "cheapest_first"=some (.ref f14):=zw9 X G a14
 have F_cheapest_first:=nO (st:=yK) l14 c14 k14
 have b_cheapest_first:=F_cheapest_first.binds (ps:=["prices","places"]) fun _ _ _ _ _ _=>us2 fun _ _=>rfl
 obtain⟨_,m_marked,F_marked,b_marked⟩:=q15.get ["prices","deal"] X G fun _ _ _ _ _ _=>us2 fun _ _=>rfl
 obtain⟨_,m_night_prices,F_night_prices,b_night_prices⟩:=q16.get ["book","nights"] X G fun _ _ _ _ _ _=>us2 fun _ _=>rfl
 obtain⟨_,m_bill,F_bill,b_bill⟩:=q17.get ["book","stay"] X G fun _ _ _ _ _ _=>us2 fun _ _=>rfl
 obtain⟨_,m_usual,F_usual,b_usual⟩:=q18.get ["word"] X G fun _ _ _ _ _ _=>us1 fun _=>rfl
 obtain⟨_,m_kept_rules,F_kept_rules,b_kept_rules⟩:=q19.get ["things"] X G fun _ _ _ _ _ _=>us1 fun _=>rfl
 obtain⟨_,m__law_tape,F__law_tape,b__law_tape⟩:=q20.get ["_law_script"] X G fun _ _ _ _ _ _=>us1 fun _=>rfl
 obtain⟨_,m__law_draw,F__law_draw,b__law_draw⟩:=q21.get ["_law_tape_here","_law_many"] X G fun _ _ _ _ _ _=>us2 fun _ _=>rfl
 obtain⟨_,m__law_coins,F__law_coins,b__law_coins⟩:=q22.get ["_law_tape_here"] X G fun _ _ _ _ _ _=>us1 fun _=>rfl
 obtain⟨_,m__law_worth,F__law_worth,b__law_worth⟩:=q23.get ["_law_tape_here","_law_word"] X G fun _ _ _ _ _ _=>us2 fun _ _=>rfl
 obtain⟨_,m__law_price_rules,F__law_price_rules,b__law_price_rules⟩:=q24.get ["_law_tape_here","_law_base","_law_days"] X G fun _ _ _ _ _ _=>us3 fun _ _ _=>rfl
 obtain⟨_,m__law_other_rules,F__law_other_rules,b__law_other_rules⟩:=q25.get ["_law_tape_here","_law_base","_law_days"] X G fun _ _ _ _ _ _=>us3 fun _ _ _=>rfl
 obtain⟨_,m__law_rules,F__law_rules,b__law_rules⟩:=q26.get ["_law_tape_here","_law_base","_law_days"] X G fun _ _ _ _ _ _=>us3 fun _ _ _=>rfl
 obtain⟨_,m__law_stay,F__law_stay,b__law_stay⟩:=q27.get ["_law_tape_here","_law_base","_law_days"] X G fun _ _ _ _ _ _=>us3 fun _ _ _=>rfl
 obtain⟨_,m__law_told,F__law_told,b__law_told⟩:=q28.get ["_law_book","_law_stay_here"] X G fun _ _ _ _ _ _=>us2 fun _ _=>rfl
 have F_law:=nO (st:=qZ) l29 c29 k29
 have b_law:=F_law.binds (ps:=["_law_script"]) fun _ _ _ _ _ _=>us1 fun _=>rfl
 obtain⟨_,F_init,b_init⟩:=q_init.get ["self","first","last","worth"] fun _ _ _ _ _ _=>us4 fun _ _ _ _=>rfl
 obtain⟨_,F_told,b_told⟩:=q_told.get ["self"] fun _ _ _ _ _ _=>us1 fun _=>rfl
 obtain⟨_,F_tells,b_tells⟩:=q_tells.get ["self","day"] fun _ _ _ _ _ _=>us2 fun _ _=>rfl
 obtain⟨_,F_wPrice,b_wPrice⟩:=q_wPrice.get ["self"] fun _ _ _ _ _ _=>us1 fun _=>rfl
 obtain⟨_,F_wCome,b_wCome⟩:=q_wCome.get ["self"] fun _ _ _ _ _ _=>us1 fun _=>rfl
 obtain⟨_,F_wGo,b_wGo⟩:=q_wGo.get ["self"] fun _ _ _ _ _ _=>us1 fun _=>rfl
 obtain⟨_,F_wLeast,b_wLeast⟩:=q_wLeast.get ["self"] fun _ _ _ _ _ _=>us1 fun _=>rfl
 obtain⟨_,F_wMost,b_wMost⟩:=q_wMost.get ["self"] fun _ _ _ _ _ _=>us1 fun _=>rfl
 obtain⟨_,F_wDeal,b_wDeal⟩:=q_wDeal.get ["self"] fun _ _ _ _ _ _=>us1 fun _=>rfl
 obtain⟨_,F_wFee,b_wFee⟩:=q_wFee.get ["self"] fun _ _ _ _ _ _=>us1 fun _=>rfl
 obtain⟨_,F_brules,b_brules⟩:=q_brules.get ["self"] fun _ _ _ _ _ _=>us1 fun _=>rfl
 obtain⟨_,F_btells,b_btells⟩:=q_btells.get ["self","word","day"] fun _ _ _ _ _ _=>us3 fun _ _ _=>rfl
 have TD:oX mg f1 f2 f3 f4 f5:=⟨nb.isinstance,nb.int,nb.bool,nb.tuple,nb.len,⟨tk1,zw9 X G gi1⟩,⟨tk2,zw9 X G gi2⟩,m_is_whole,m_is_whole_within,m_is_pair,m_is_day,m_is_pair_of_days⟩
 have TR:lu mg f1 f2 f3 f4 f5 f6 f7 f8 f9 f10 f11 ⟨CPrice,CCome,CGo,CLeast,CMost,CDeal,CFee⟩:=⟨TD,⟨tk3,zw9 X G gi3⟩,m_is_stretch,m_is_coins,m_is_deal,m_is_worth,m_is_rule,m_made,zw9 X G aCPrice,zw9 X G aCCome,zw9 X G aCGo,zw9 X G aCLeast,zw9 X G aCMost,zw9 X G aCDeal,zw9 X G aCFee⟩
 have TT:zb8 mg:=⟨nb.abs,nb.list,nb.len⟩
 have A7:fb K ⟨CPrice,CCome,CGo,CLeast,CMost,CDeal,CFee⟩ g_init g_told g_tells g_wPrice g_wCome g_wGo g_wLeast g_wMost g_wDeal g_wFee:=⟨RPrice,RCome,RGo,RLeast,RMost,RDeal,RFee⟩
 refine⟨PySem.W.fnOf "law" "law" (zN qZ) (zB qZ) (zc qZ) .none kV29 dc29 pm29 an29 cd29 ct29,fun s v=>.of_eq rfl,fun base KX _ hbi=>?_⟩
 have G_in:=ju (P:=l.prog) (w:=w) (base:=base) F_is_whole_within TD F_is_whole b_is_whole
 have G_pair:=bA (P:=l.prog) (w:=w) (base:=base) F_is_pair TD
 have G_day:=zd6 F_is_day TD G_in F_is_whole_within.kp b_is_whole_within
 have G_days:=cL F_is_pair_of_days TD G_pair F_is_pair.kp b_is_pair G_day F_is_day.kp b_is_day
 have G_stretch:=lh F_is_stretch TD G_days F_is_pair_of_days.kp b_is_pair_of_days
 have G_coins:=dX F_is_coins TR G_in F_is_whole_within.kp b_is_whole_within
 have G_deal:=jy F_is_deal TR G_in F_is_whole_within.kp b_is_whole_within G_pair F_is_pair.kp b_is_pair
 have G_worth:=fw F_is_worth TR G_in F_is_whole_within.kp b_is_whole_within G_coins F_is_coins.kp b_is_coins G_deal F_is_deal.kp b_is_deal
 have G_rule:=iw F_is_rule TR G_stretch F_is_stretch.kp b_is_stretch G_worth F_is_worth.kp b_is_worth
 have G_made:=bq (P:=l.prog) (w:=w) (base:=base) F_made TR A7 F_init b_init
 have G_ruleOf:=iF F_rule_of TR G_rule F_is_rule.kp b_is_rule G_made F_made.kp b_made
 have CRO:Cal l.prog w K mg base "rule_of" 7 (sD ⟨CPrice,CCome,CGo,CLeast,CMost,CDeal,CFee⟩):=mO m_rule_of F_rule_of.kp b_rule_of G_ruleOf
 have CKe:Cal l.prog w K mg base "kept_rules" 8 (mG ⟨CPrice,CCome,CGo,CLeast,CMost,CDeal,CFee⟩):=dH F_kept_rules m_kept_rules b_kept_rules nb ⟨tk4,zw9 X G gi4⟩ CRO
 have cB:Cls K CB:=⟨pgB,hdB,poB,saB⟩
 have GBI:=fJ (bj (st:=xl) l_binit c_binit k_binit) cB noB CKe
 have m_Book:mg "Book"=some (.ref CB):=zw9 X G aCB
 have MkB:Mk K CB g_binit:=⟨mkB,fi_binit,is_binit,kcB⟩
 have CBk:gC l.prog w K mg base "Book" 9 [] (pz CB ⟨CPrice,CCome,CGo,CLeast,CMost,CDeal,CFee⟩):=⟨CB,g_binit,_,_,_,m_Book,MkB,jm lT,.nil,GBI⟩
 have CBk0:gC l.prog w K mg base "Book" 9 [.non] (pz CB ⟨CPrice,CCome,CGo,CLeast,CMost,CDeal,CFee⟩):=⟨CB,g_binit,_,_,_,m_Book,MkB,jY lT,.cons rfl .nil,GBI⟩
 have OT:∀u∈words,we l.prog w K mg base ((⟨CPrice,CCome,CGo,CLeast,CMost,CDeal,CFee⟩:Cs).of u) "told" 2 (nG ((⟨CPrice,CCome,CGo,CLeast,CMost,CDeal,CFee⟩:Cs).of u) u):=bE (by rw[vf];exact yU RPrice b_told (wy F_told RPrice (rJ F_wPrice) b_wPrice)) (by rw[uo];exact yU RCome b_told (wy F_told RCome (oN F_wCome) b_wCome)) (by rw[om];exact yU RGo b_told (wy F_told RGo (iL F_wGo) b_wGo)) (by rw[vn];exact yU RLeast b_told (wy F_told RLeast (rF F_wLeast) b_wLeast)) (by rw[uk];exact yU RMost b_told (wy F_told RMost (pY F_wMost) b_wMost)) (by rw[um];exact yU RDeal b_told (wy F_told RDeal (oB F_wDeal) b_wDeal)) (by rw[sZ];exact yU RFee b_told (wy F_told RFee (ky F_wFee) b_wFee))
 have DU:kG K w dU tbU:=⟨_,nU,lU,.cons ⟨hh1,⟨_,rfl⟩,rfl⟩ (.cons ⟨hh2,⟨_,rfl⟩,rfl⟩ (.cons ⟨hh3,⟨_,rfl⟩,rfl⟩ (.cons ⟨hh4,⟨_,rfl⟩,⟨_,rfl⟩⟩ (.cons ⟨hh5,⟨_,rfl⟩,⟨_,rfl⟩⟩ (.cons ⟨hh6,⟨_,rfl⟩,rfl⟩ (.cons ⟨hh7,⟨_,rfl⟩,⟨_,rfl⟩⟩ (.nil))))))),by decide +kernel⟩
 have CU:Cal l.prog w K mg base "usual" 1 qU:=jG F_usual m_usual b_usual (zw9 X G aU) DU
 have OW:∀u∈words,we l.prog w K mg base ((⟨CPrice,CCome,CGo,CLeast,CMost,CDeal,CFee⟩:Cs).of u) "word" 1 (mZ ((⟨CPrice,CCome,CGo,CLeast,CMost,CDeal,CFee⟩:Cs).of u) u):=bE (by rw[vf];exact yS RPrice b_wPrice (rJ F_wPrice)) (by rw[uo];exact yS RCome b_wCome (oN F_wCome)) (by rw[om];exact yS RGo b_wGo (iL F_wGo)) (by rw[vn];exact yS RLeast b_wLeast (rF F_wLeast)) (by rw[uk];exact yS RMost b_wMost (pY F_wMost)) (by rw[um];exact yS RDeal b_wDeal (oB F_wDeal)) (by rw[sZ];exact yS RFee b_wFee (ky F_wFee))
 have ORT:∀u∈words,we l.prog w K mg base ((⟨CPrice,CCome,CGo,CLeast,CMost,CDeal,CFee⟩:Cs).of u) "tells" 1 (tS ((⟨CPrice,CCome,CGo,CLeast,CMost,CDeal,CFee⟩:Cs).of u)):=bE (by rw[vf];exact yD RPrice b_tells (xy F_tells RPrice)) (by rw[uo];exact yD RCome b_tells (xy F_tells RCome)) (by rw[om];exact yD RGo b_tells (xy F_tells RGo)) (by rw[vn];exact yD RLeast b_tells (xy F_tells RLeast)) (by rw[uk];exact yD RMost b_tells (xy F_tells RMost)) (by rw[um];exact yD RDeal b_tells (xy F_tells RDeal)) (by rw[sZ];exact yD RFee b_tells (xy F_tells RFee))
 have OC:∀u∈words,Cls K ((⟨CPrice,CCome,CGo,CLeast,CMost,CDeal,CFee⟩:Cs).of u)∧yJ K ((⟨CPrice,CCome,CGo,CLeast,CMost,CDeal,CFee⟩:Cs).of u) "worth":=bE (by rw[vf];exact⟨RPrice.cl,RPrice.nw⟩) (by rw[uo];exact⟨RCome.cl,RCome.nw⟩) (by rw[om];exact⟨RGo.cl,RGo.nw⟩) (by rw[vn];exact⟨RLeast.cl,RLeast.nw⟩) (by rw[uk];exact⟨RMost.cl,RMost.nw⟩) (by rw[um];exact⟨RDeal.cl,RDeal.nw⟩) (by rw[sZ];exact⟨RFee.cl,RFee.nw⟩)
 have MTe:we l.prog w K mg base CB "tells_of" 2 (vE CB ⟨CPrice,CCome,CGo,CLeast,CMost,CDeal,CFee⟩):=⟨g_btells,_,_,cB,⟨fi_btells,is_btells,F_btells.kp⟩,b_btells,iz F_btells cB noB nb CU OW ORT OC⟩
 have MR:we l.prog w K mg base CB "rules" 3 (qS CB ⟨CPrice,CCome,CGo,CLeast,CMost,CDeal,CFee⟩):=⟨g_brules,_,_,cB,⟨fi_brules,is_brules,F_brules.kp⟩,b_brules,je F_brules cB noB b_brules OT⟩
 have m_StayError:mg "StayError"=some (.ref CSt):=zw9 X G aSt
 have mX_NotSold:mg "NotSold"=some (.ref CX_NotSold):=zw9 X G aX_NotSold
 have XC_NotSold:=XC.of eX_NotSold
 obtain⟨_,FX_NotSold,bX_NotSold⟩:=qX_NotSold.get ["self","night"] fun _ _ _ _ _ _=>us2 fun _ _=>rfl
 have CD:Cal l.prog w K mg base "_law_draw" 1 xW:=eE m__law_draw F__law_draw.kp b__law_draw (cQ F__law_draw TT)
 have CCo:=jo F__law_coins m__law_coins b__law_coins CD
 have CW:=jH F__law_worth m__law_worth b__law_worth CD CCo
 have CPR:=ml F__law_price_rules m__law_price_rules b__law_price_rules nb CD CCo
 have CO:=mn F__law_other_rules m__law_other_rules b__law_other_rules nb CD CW
 have CRW:=lj F__law_rules m__law_rules b__law_rules CD CPR CO
 have CRF:=jI CRW
 have CSt:=iN F__law_stay m__law_stay b__law_stay CD
 have CN:=mK (P:=l.prog) (w:=w) (base:=base) F_nights_of m_nights_of b_nights_of nb
 have CC:Cal l.prog w K mg base "cheapest_first" 3 pk:=ia l14 c14 k14 m_cheapest_first b_cheapest_first nb hhd KX hbi
 have CMa:Cal l.prog w K mg base "marked" 4 uq:=mB F_marked m_marked b_marked nb CC
 have CNP:=ze7 F_night_prices m_night_prices b_night_prices MTe
 have CBD:=jK F_bill m_bill b_bill nb MTe CN CNP CMa
 have XN:=zc5 (P:=l.prog) (w:=w) (base:=base) FX_NotSold bX_NotSold mX_NotSold m_StayError kX_NotSold tX_NotSold (XS.of uSt) XC_NotSold nX_NotSold_night
 have CBU:=kZ F_bill m_bill b_bill CN (ah F_night_prices m_night_prices b_night_prices MTe XN)
 have CTo:=gZ F__law_told m__law_told b__law_told mX_NotSold (XB.of bX_NotSold_NotSold) CBD CBU
 exact zg2 F_law nb (aI F__law_tape TT) m__law_tape F__law_tape.kp b__law_tape CD CRF CSt CBk MR MTe (jR CMa) CBD CTo
theorem walk {l:PySem.W.OpenLaw}{q:Program}{loose:List Str}{XP:(Str→Option Value)→Heap→Prop}{YP:World→Heap→Prop}{d:DefRec}{K:Params→PySem.W.Frag}{c:Addr}(hn:l.most=some 63)(hdf:d.params.defaults=[])
  (hY:∀(w:World) (h:Heap),YP w h→(K w.params).In h) (hYT:∀(w:World) (h:Heap),YP w h→h.get? yx=some (PySem.W.tabObj #[]))
  (hNo:∀w:World,(K w.params).lookup yx=none) (hTab:∀w:World,∃o vs,(K w.params).lookup c=some o∧o.cls=.type "code"∧o.data=.fields vs∧vs[11]?=some (.ref yx))
  (F:∀(w:World) (mg:Str→Option Value) (fa:Addr) (h:Heap),(K w.params).In h→h.Ns mainGlobals mg→mg d.name=some (.ref fa)→
   ∃fd:FuncData,(∀(s:Shared) (u:Value),BindsTo s fd ⟨[u],[]⟩ [("_law_script",u)])∧∀base:Heap,(K w.params).In base→base.Ns mainGlobals mg→base.BuiltinsAt mg yx→zD l.prog w (K w.params) mg base CX0 13 fa fd ["_law_script"] (oi (K w.params))):
  PySem.W.WalkO q loose XP YP l.row.toRowW d [] (fun f vs=>PySem.call f vs):=
 L2.dY (n:=63) (k:=13) (x:="_law_script") (CX:=fun _=>CX0) (sp:=fun w=>oi (K w.params)) hn (by decide) hdf ⟨rfl,by decide,by decide,rfl⟩ hY hYT hNo hTab F (fun _ H a ns hl _ hT hS=>⟨a,ns,rfl,hS,hl,⟨#[],hT,trivial,fun pos cv hc=>by cases hc⟩,fun _=>rfl⟩) fun _ _ _ _ _ z=>z
end K32
def PySem.W.Fast.tw2908417295299283897 :Nat:=0
def PySem.W.Fast.tw4485158111811037241 :Nat:=0
def PySem.W.Fast.tw5228665052352742912 :Nat:=0
def PySem.W.Fast.tw2173146810325166726 :Nat:=0
def PySem.W.Fast.tw13282281493686205868 :Nat:=0
def PySem.W.Fast.tw4771277734734481035 :Nat:=0
def PySem.W.Fast.tw12484649305760566788 :Nat:=0
def PySem.W.Fast.tw6618662236447900000 :Nat:=0
def PySem.W.Fast.tw9380807545937092770 :Nat:=0
def PySem.W.Fast.tw11646182537756879208 :Nat:=0
def PySem.W.Fast.tw9458192756849646192 :Nat:=0
def PySem.W.Fast.tw622873547364961324 :Nat:=0
def PySem.W.Fast.tw3183139043334877582 :Nat:=0
def PySem.W.Fast.tw2931515454107902713 :Nat:=0
def PySem.W.Fast.tw1731320655605330590 :Nat:=0
def PySem.W.Fast.tw7572563891416098447 :Nat:=0
def PySem.W.Fast.tw17123132431107804089 :Nat:=0
def PySem.W.Fast.tw5914486119273744984 :Nat:=0
def PySem.W.Fast.tw1142707754695239661 :Nat:=0
def PySem.W.Fast.tw3089408944026315270 :Nat:=0
def PySem.W.Fast.tw15683262243040950929 :Nat:=0
def PySem.W.Fast.tw11006699240317888379 :Nat:=0
def PySem.W.Fast.tw7678775536817986043 :Nat:=0
def PySem.W.Fast.tw15409128067256855424 :Nat:=0
def PySem.W.Fast.tw492613261617247132 :Nat:=0
def PySem.W.Fast.tw2373850139804968684 :Nat:=0
def PySem.W.Fast.tw9355149499769651234 :Nat:=0
def PySem.W.Fast.tw10698125012250231190 :Nat:=0
def PySem.W.Fast.tw2687307111609695169 :Nat:=0
def PySem.W.Fast.tw5614731013326245227 :Nat:=0
def PySem.W.Fast.tw10503332870122077032 :Nat:=0
def PySem.W.Fast.tw2877511033062001444 :Nat:=0
def PySem.W.Fast.tw815743208858997641 :Nat:=0
def PySem.W.Fast.tw8545005601240058791 :Nat:=0
def PySem.W.Fast.tw17839289126067470844 :Nat:=0
open PySem PySem.W PyProof.Rows
set_option maxRecDepth 100000 in
set_option maxHeartbeats 0 in
theorem PySem.Challenge.cw_stayprice_k32_bills_holds : PySem.Challenge.rw_stayprice_k32_bills.Holds := by
 w_on;o_law;k_head;(case hw=>w_witness2)
 k_fill
 refine K32.walk (l:=PySem.Challenge.rw_stayprice_k32_bills) (c:=(132:Nat)) rfl rfl (fun w h Y=>PySem.W.km_in_of Y) (fun w h Y=>PySem.W.km_tabs_of Y _ (zv9.mpr rfl)) ?hno ?htab ?hF
 case hno=>intro w;kernel_rfl
 case htab=>intro w;exact⟨_,_,by k_is,rfl,rfl,rfl⟩
 case hF=>
  intro w mg fa h KX G hmg
  refine' K32.all_mk KX G hmg (K32.mkG ?_ ?_ ?_ ?_) (K32.mkG ?_ ?_ ?_ ?_) (K32.mkG ?_ ?_ ?_ ?_) (K32.mkG ?_ ?_ ?_ ?_) (K32.mkG ?_ ?_ ?_ ?_) (K32.mkG ?_ ?_ ?_ ?_) (K32.mkG ?_ ?_ ?_ ?_) (K32.mkG ?_ ?_ ?_ ?_) (K32.mkG ?_ ?_ ?_ ?_) (K32.mkG ?_ ?_ ?_ ?_) (K32.mkG ?_ ?_ ?_ ?_) (K32.mkG ?_ ?_ ?_ ?_) (K32.mkG ?_ ?_ ?_ ?_) ?_ ?_ ?_ ?_ (K32.mkG ?_ ?_ ?_ ?_) (K32.mkG ?_ ?_ ?_ ?_) (K32.mkG ?_ ?_ ?_ ?_) (K32.mkG ?_ ?_ ?_ ?_) (K32.mkG ?_ ?_ ?_ ?_) (K32.mkG ?_ ?_ ?_ ?_) (K32.mkG ?_ ?_ ?_ ?_) (K32.mkG ?_ ?_ ?_ ?_) (K32.mkG ?_ ?_ ?_ ?_) (K32.mkG ?_ ?_ ?_ ?_) (K32.mkG ?_ ?_ ?_ ?_) (K32.mkG ?_ ?_ ?_ ?_) (K32.mkG ?_ ?_ ?_ ?_) (K32.mkG ?_ ?_ ?_ ?_) ?_ ?_ ?_ ?_ ?_ ?_ ?_ ?_ ?_ ?_ ?_ (K32.mkR ?_ ?_ ?_ ?_ ?_ ?_ ?_ ?_ ?_ ?_ ?_ ?_ ?_ ?_ ?_ ?_ ?_ ?_ ?_ ?_) (K32.mkR ?_ ?_ ?_ ?_ ?_ ?_ ?_ ?_ ?_ ?_ ?_ ?_ ?_ ?_ ?_ ?_ ?_ ?_ ?_ ?_) (K32.mkR ?_ ?_ ?_ ?_ ?_ ?_ ?_ ?_ ?_ ?_ ?_ ?_ ?_ ?_ ?_ ?_ ?_ ?_ ?_ ?_) (K32.mkR ?_ ?_ ?_ ?_ ?_ ?_ ?_ ?_ ?_ ?_ ?_ ?_ ?_ ?_ ?_ ?_ ?_ ?_ ?_ ?_) (K32.mkR ?_ ?_ ?_ ?_ ?_ ?_ ?_ ?_ ?_ ?_ ?_ ?_ ?_ ?_ ?_ ?_ ?_ ?_ ?_ ?_) (K32.mkR ?_ ?_ ?_ ?_ ?_ ?_ ?_ ?_ ?_ ?_ ?_ ?_ ?_ ?_ ?_ ?_ ?_ ?_ ?_ ?_) (K32.mkR ?_ ?_ ?_ ?_ ?_ ?_ ?_ ?_ ?_ ?_ ?_ ?_ ?_ ?_ ?_ ?_ ?_ ?_ ?_ ?_) (K32.mkF ?_ ?_ ?_) (K32.mkF ?_ ?_ ?_) (K32.mkF ?_ ?_ ?_) (K32.mkF ?_ ?_ ?_) (K32.mkF ?_ ?_ ?_) (K32.mkF ?_ ?_ ?_) (K32.mkF ?_ ?_ ?_) (K32.mkF ?_ ?_ ?_) (K32.mkF ?_ ?_ ?_) (K32.mkF ?_ ?_ ?_) ?_ ?_ ?_ ?_ ?_ ?_ ?_ ?_ ?_ (K32.mkF ?_ ?_ ?_) ?_ ?_ (K32.mkF ?_ ?_ ?_) ?_ ?_ ?_ ?_ ?_ ?_ ?_ ?_ ?_ ?_ ?_ ?_ ?_ ?_ ?_ ?_ ?_ ?_ ?_ ?_ ?_ ?_ ?_ ?_ ?_ ?_ ?_ ?_ ?_ ?_ ?_ ?_ ?_ ?_ ?_ ?_ ?_ ?_ ?_ ?_ ?_ ?_ ?_ ?_ (K32.mkF ?_ ?_ ?_) ?_ ?_ ?_ ?_ ?_
  all_goals try (show _=_;first|k_is|kernel_rfl)
