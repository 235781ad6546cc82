import PyProof.Rows.All
import Wide.All
import OpenK.AllK
import Wide.FinOn
import Lean
import PyProof.EqAt
import PyProof.EqKinds
import PyProof.TupleCall
import PySem.Challenge.RW_stayprice_k43_whole_each_bar_bars_alone
set_option Elab.async false
set_option linter.all false
set_option maxRecDepth 100000
def zs3 := @_root_.PySem.wpAny_bind
def zs4 := @_root_.List.length_map
def zs5 := @_root_.PySem.Heap.get?_push_of_some
def zs6 := @_root_.List.getElem?_eq_getElem
def zs7 := @_root_.List.getD_eq_getElem?_getD
def zs8 := @_root_.List.mem_cons
def zs9 := @_root_.Nat.le_refl
def zt0 := @_root_.List.getElem?_eq_some_iff
def zt1 := @_root_.List.size_toArray
def zt2 := @_root_.PySem.wpAny_pure
def zt3 := @_root_.PySem.Heap.lt_size
def zt4 := @_root_.List.mem_cons_of_mem
def zt5 := @_root_.List.not_mem_nil
def zt6 := @_root_.Nat.zero_le
def zt7 := @_root_.List.mem_cons_self
def zt8 := @_root_.PySem.Heap.get?_push_size
def zt9 := @_root_.Nat.le_of_ble_eq_true
def zu0 := @_root_.List.getElem?_map
def zu1 := @_root_.List.length_cons
def zu2 := @_root_.Bool.false_ne_true
def zu3 := @_root_.List.length_append
def zu4 := @_root_.Nat.ne_of_lt
def zu5 := @_root_.Nat.lt_of_lt_of_le
def zu6 := @_root_.List.mem_append_right
def zu7 := @_root_.PySem.W.mg_none_of
def zu8 := @_root_.List.mem_singleton
def zu9 := @_root_.List.length_take
def zv0 := @_root_.Option.some.inj
def zv1 := @_root_.Bool.and_eq_true
def zv2 := @_root_.or_false
def zv3 := @_root_.Bool.eq_false_iff
def zv4 := @_root_.PySem.sizeLine_eq
def zv5 := @_root_.decide_eq_false
def zv6 := @_root_.PySem.wpAny_mono
def zv7 := @_root_.decide_eq_true_eq
def zv8 := @_root_.Ne.symm
def zv9 := @_root_.Option.map_eq_some_iff
def zw0 := @_root_.List.lookup_cons
def zw1 := @_root_.PySem.W.mg_of
def zw2 := @_root_.PySem.Heap.get?_update_other
def zw3 := @_root_.List.map_append
def zw4 := @_root_.PySem.mem_of_lookup
def zw5 := @_root_.List.map_cons
def zw6 := @_root_.Nat.le_trans
def zw7 := @_root_.List.mem_append
def zw8 := @_root_.List.getElem?_set_ne
def zw9 := @_root_.PySem.W.kia_one
def zx0 := @_root_.List.find?_cons
def zx1 := @_root_.PyProof.Rows.callWith_type1
def zx2 := @_root_.List.length_drop
def zx3 := @_root_.PySem.wpAny_holding
def zx4 := @_root_.List.mem_map
def zx5 := @_root_.List.getElem?_append_left
def zx6 := @_root_.List.length_set
def zx7 := @_root_.PyProof.Rows.get?_update_seq
def zx8 := @_root_.PySem.F.slot_zip_next
def zx9 := @_root_.Bool.false_eq_true
def zy0 := @_root_.decide_eq_true
def zy1 := @_root_.decide_eq_false_iff_not
def zy2 := @_root_.PySem.wpAny_truthy_bool
def zy3 := @_root_.PySem.PassesOwn.never
def zy4 := @_root_.PySem.Heap.SameBut.update
def zy5 := @_root_.Nat.le_of_lt
def zy6 := @_root_.PySem.wpAny_nextOf_list_item
def zy7 := @_root_.Nat.lt_irrefl
def zy8 := @_root_.Bool.true_and
def zy9 := @_root_.Bool.false_and
def zz0 := @_root_.PySem.Heap.size_push
def zz1 := @_root_.PySem.F.plain_extend_loop
def zz2 := @_root_.List.mem_append_left
def zz3 := @_root_.List.append_nil
def zz4 := @_root_.List.mem_of_getElem?
def zz5 := @_root_.of_decide_eq_true
def zz6 := @_root_.List.getElem?_replicate
def zz7 := @_root_.PySem.wpAny_seqItems
def zz8 := @_root_.List.getElem?_set_self
def zz9 := @_root_.PySem.wpAny_field
def zA0 := @_root_.List.mem_filter
def zA1 := @_root_.PySem.wpAny_passesOwn
def zA2 := @_root_.List.getElem?_append_right
def zA3 := @_root_.List.sum_cons
def zA4 := @_root_.Int.toNat_natCast
def zA5 := @_root_.List.drop_eq_getElem_cons
def zA6 := @_root_.List.pairwise_iff_getElem
def zA7 := @_root_.Nat.mul_le_mul_right
def zA8 := @_root_.PySem.boot_len
def zA9 := @_root_.Nat.ne_of_gt
def zB0 := @_root_.Nat.lt_or_ge
def zB1 := @_root_.List.filter_cons
def zB2 := @_root_.List.getElem_mem
def zB3 := @_root_.beq_eq_false_iff_ne
def zB4 := @_root_.Int.eq_ofNat_of_zero_le
def zB5 := @_root_.PyProof.Rows.listUpdate_at
def zB6 := @_root_.PySem.wpAny_Call_Name_kw
def zB7 := @_root_.Bool.or_eq_true
def zB8 := @_root_.List.nil_append
def zB9 := @_root_.Int.emod_lt_of_pos
def zC0 := @_root_.List.filter_append
def zC1 := @_root_.Nat.le_succ
def zC2 := @_root_.Nat.lt_succ_of_lt
def zC3 := @_root_.List.take_add_one
def zC4 := @_root_.List.lt_irrefl
def zC5 := @_root_.Nat.lt_succ_self
def zC6 := @_root_.if_false
def zC7 := @_root_.List.all_eq_true
def zC8 := @_root_.List.cons_append
def zC9 := @_root_.List.take_length
def zD0 := @_root_.PySem.wpAny_call_entry
def zD1 := @_root_.List.filter_eq_self
def zD2 := @_root_.List.length_reverse
def zD3 := @_root_.List.nodup_cons
def zD4 := @_root_.Array.Perm.refl
def zD5 := @_root_.PySem.F.slot_dict_getitem
def zD6 := @_root_.Nat.div_add_mod
def zD7 := @_root_.PySem.wpAny_updateSeq
def zD8 := @_root_.Int.emod_nonneg
def zD9 := @_root_.PyProof.Rows.boot_isinstance
def zE0 := @_root_.Nat.le_of_eq
def zE1 := @_root_.List.getElem?_take_of_lt
def zE2 := @_root_.PySem.wpAny_setField_rec
def zE3 := @_root_.List.getElem?_cons_succ
def zE4 := @_root_.PySem.wpAny_callSpecial?_slot
def zE5 := @_root_.PySem.F.args_zip_next_1
def zE6 := @_root_.PySem.wpAny_pyIter_list
def zE7 := @_root_.List.pairwise_map
def zE8 := @_root_.PySem.Heap.get?_push_ne
def zE9 := @_root_.List.nodup_append
def zF0 := @_root_.List.append_assoc
def zF1 := @_root_.PySem.F.entry_zip_next
def zF2 := @_root_.PySem.strLen_append
def zF3 := @_root_.PySem.wpAny_eqBool_int
def zF4 := @_root_.List.drop_length
def zF5 := @_root_.List.ext_getElem
def zF6 := @_root_.PySem.W.methodCall_KW
def zF7 := @_root_.List.length_singleton
def zF8 := @_root_.List.take_append_drop
def zF9 := @_root_.List.length_filter_le
def zG0 := @_root_.PySem.wpAny_execs_nil
def zG1 := @_root_.Bool.eq_iff_iff
def zG2 := @_root_.PySem.codeAny_mono
def zG3 := @_root_.List.forIn_cons
def zG4 := @_root_.List.map_map
def zG5 := @_root_.Int.natCast_add
def zG6 := @_root_.List.mem_of_mem_take
def zG7 := @_root_.List.filterMap_cons
def zG8 := @_root_.Array.length_toList
def zG9 := @_root_.PySem.W.plainGet_of
def zH0 := @_root_.List.mem_range
def zH1 := @_root_.List.not_lt
def zH2 := @_root_.PySem.W.callWith_K
def zH3 := @_root_.List.forIn_toArray
def zH4 := @_root_.Bool.false_or
namespace L2
open PySem PySem.Spec PyProof.Rows
abbrev Key :=Sum Int Str
def rO :Key→Value→Bool
 |.inl k,v=>Value.isInt k v
 |.inr x,v=>Value.isStrOf x v
def zr5 (w:World):Key→Int
 |.inl k=>hashInt k
 |.inr x=>hashStr w x
theorem ye :∀{k:Key} {v:Value},rO k v=true→(∃i t,k=Sum.inl i∧v=Value.int i t)∨(∃x t,k=Sum.inr x∧v=Value.str x t)
 |.inl i,v,h=>by
  obtain⟨t,e⟩:=Value.isInt_shape (k:=i) (v:=v) h
  exact .inl ⟨i,t,rfl,e⟩
 |.inr x,v,h=>by
  obtain⟨t,e⟩:=Value.isStrOf_shape (x:=x) (v:=v) h
  exact .inr ⟨x,t,rfl,e⟩
theorem ia (i:Int)(t:Tok):rO (.inl i) (.int i t)=true:=by simp[rO,Value.isInt]
theorem iE (x:Str)(t:Tok):rO (.inr x) (.str x t)=true:=by simp[rO,Value.isStrOf]
theorem zi1 (a b:Int):decide ((Sum.inl a:Key)=Sum.inl b)=(a == b):=by
 by_cases e:a=b
 ·subst e;simp
 ·have h:¬(Sum.inl a:Key)=Sum.inl b:=fun q=>e (Sum.inl.inj q)
  rw[zv5 h]
  exact (zB3.mpr e).symm
theorem zc3 (a b:Str):decide ((Sum.inr a:Key)=Sum.inr b)=decide (a=b):=by
 by_cases e:a=b
 ·subst e;simp
 ·have h:¬(Sum.inr a:Key)=Sum.inr b:=fun q=>e (Sum.inr.inj q)
  rw[zv5 h,zv5 e]
theorem ze9 (a:Int)(b:Str):decide ((Sum.inl a:Key)=Sum.inr b)=false:=zv5 (fun q=>nomatch q)
theorem zd1 (a:Str)(b:Int):decide ((Sum.inr a:Key)=Sum.inl b)=false:=zv5 (fun q=>nomatch q)
def yJ (prog:Program)(w:World):PySem.KeyKind prog w Key where
 is:=rO
 hash:=zr5 w
 inj:=fun v a b ha hb=>by
  rcases ye ha with ⟨i,t,rfl,rfl⟩|⟨x,t,rfl,rfl⟩
  ·rcases ye hb with ⟨j,u,rfl,e⟩|⟨y,u,rfl,e⟩
   ·injection e with e1 _;rw[e1]
   ·exact nomatch e
  ·rcases ye hb with ⟨j,u,rfl,e⟩|⟨y,u,rfl,e⟩
   ·exact nomatch e
   ·injection e with e1 _;rw[e1]
 byValue:=fun k v h=>by
  rcases ye h with ⟨i,t,rfl,rfl⟩|⟨x,t,rfl,rfl⟩<;>rfl
 pyHash:=fun hv h=>by
  rcases ye hv with ⟨i,t,rfl,rfl⟩|⟨x,t,rfl,rfl⟩
  ·exact wpAny_pyHash_int h
  ·exact wpAny_pyHash_str h
 eqBool:=fun hu hv h=>by
  rcases ye hu with ⟨i,t,rfl,rfl⟩|⟨x,t,rfl,rfl⟩
  ·rcases ye hv with ⟨j,u,rfl,rfl⟩|⟨y,u,rfl,rfl⟩
   ·rw[zi1] at h;exact zF3 h
   ·rw[ze9] at h;exact SeqAt.EqAt.int_str i t y u _ _ _ _ h
  ·rcases ye hv with ⟨j,u,rfl,rfl⟩|⟨y,u,rfl,rfl⟩
   ·rw[zd1] at h;exact SeqAt.EqAt.str_int x t j u _ _ _ _ h
   ·rw[zc3] at h;exact wpAny_eqBool_str h
 «strs»:=fun k x t v h=>by
  rcases ye h with ⟨i,u,rfl,e⟩|⟨y,u,rfl,e⟩
  ·exact nomatch e
  ·injection e with e1 _
   subst e1
   cases v<;>rfl
theorem nj (prog:Program)(w:World)(i:Int)(t:Tok):(yJ prog w).is (.inl i) (.int i t)=true:=ia i t
theorem pZ (prog:Program)(w:World)(x:Str)(t:Tok):(yJ prog w).is (.inr x) (.str x t)=true:=iE x t
inductive V where
 |non|bl (b:Bool)|int (i:Int)|str (x:Str)|byt (b:Array UInt8)|flt (b:UInt64)|ref (a:Addr)|ty (n:String)
 deriving DecidableEq
def RelV :V→Value→Prop
 |.non,u=>u=Value.none
 |.bl b,u=>u=Value.bool b
 |.int i,u=>∃t,u=Value.int i t
 |.str x,u=>∃t,u=Value.str x t
 |.byt b,u=>∃t,u=Value.bytes b t
 |.flt b,u=>∃t,u=Value.float b t
 |.ref a,u=>u=Value.ref a
 |.ty n,u=>u=Value.type n
abbrev Vals :List V→List Value→Prop:=Paired RelV
theorem Vals.length {xs:List V}{us:List Value}(r:Vals xs us):xs.length=us.length:=Paired.length r
theorem Vals.get :∀{xs:List V} {us:List Value} {i:Nat} {x:V},Vals xs us→xs[i]?=some x→∃u,us[i]?=some u∧RelV x u
 |_,_,_,_,.nil,e=>by simp at e
 |_,_,0,_,.cons r _,e=>by simp at e;subst e;exact⟨_,rfl,r⟩
 |_,_,i+1,x,.cons _ t,e=>by
  obtain⟨u,h1,h2⟩:=Vals.get (i:=i) (x:=x) t (by simpa using e)
  exact⟨u,by simpa using h1,h2⟩
theorem Vals.set {x:V}{u:Value}(r:RelV x u):∀{xs:List V} {us:List Value} (i:Nat),Vals xs us→Vals (xs.set i x) (us.set i u)
 |_,_,_,.nil=>.nil
 |_,_,0,.cons _ t=>.cons r t
 |_,_,i+1,.cons q t=>.cons q (Vals.set r i t)
theorem Vals.append :∀{xs ys:List V} {us ws:List Value},Vals xs us→Vals ys ws→Vals (xs++ys) (us++ws)
 |_,_,_,_,.nil,s=>s
 |_,_,_,_,.cons r t,s=>.cons r (Vals.append t s)
theorem Vals.take :∀{xs:List V} {us:List Value} (n:Nat),Vals xs us→Vals (xs.take n) (us.take n)
 |_,_,0,_=>.nil
 |_,_,_+1,.nil=>.nil
 |_,_,n+1,.cons r t=>.cons r (Vals.take n t)
theorem Vals.drop :∀{xs:List V} {us:List Value} (n:Nat),Vals xs us→Vals (xs.drop n) (us.drop n)
 |_,_,0,r=>r
 |_,_,_+1,.nil=>.nil
 |_,_,n+1,.cons _ t=>Vals.drop n t
def uo :Option V→Option Value→Prop
 |some v,some u=>RelV v u
 |none,none=>True
 |_,_=>False
def KV {κ:Type}:List (κ×V)→List (κ×Value)→Prop:=Paired fun (p:κ×V) (q:κ×Value)=>p.1=q.1∧RelV p.2 q.2
def kV :Key→V
 |.inl i=>.int i
 |.inr x=>.str x
inductive HO where
  |lst (xs:List V)
  |tup (xs:List V)
  |dK (kvs:List (Key×V))|dT (kvs:List (List Key×V))
  |set (S:Int→Bool) (n:Nat)
  |ins (C dx:Addr) (fs:List (Str×V))
  |own (x:Addr)
  |xd (fs:List (Str×V))
  |met (f x:Addr)
  |rng (lo hi:Int)
  |frz (o:Obj) (u:HO)
  |tbl (ps:Array Value)
  |ext (φ:Heap→Prop)
abbrev Hp :=Addr→Option HO
def upd (H:Hp)(a:Addr)(o:HO):Hp:=fun b=>if b=a then some o else H b
theorem zi {H:Hp}{a:Addr}{o:HO}:upd H a o a=some o:=by unfold upd;rw[if_pos rfl]
theorem zg {H:Hp}{a b:Addr}{o:HO}(h:b≠a):upd H a o b=H b:=by unfold upd;rw[if_neg h]
theorem tD {H:Hp}{a:Addr}{o u:HO}:upd (upd H a o) a u=upd H a u:=by
 funext b;unfold upd;split<;>rfl
theorem aP {H:Hp}{a b:Addr}{o u:HO}(h:H a=some o)(h':H b=some u)(d:o≠u):a≠b:=by
 intro e;subst e;rw[h] at h';exact d (zv0 h')
theorem zk {H:Hp}{a b:Addr}{o:HO}(h:H a=some o)(h':H b=none):a≠b:=by
 intro e;subst e;rw[h] at h';cases h'
section
variable (P:Program)(w:World)
def zY (H:Hp)(h:Heap)(a:Addr):HO→Prop
 |.lst xs=>xs.length≤sizeLine∧∃(its:List Value) (n:Nat),Vals xs its∧h.get? a=some {cls:=.type "list",data:=.seq its.toArray n}
 |.tup xs=>xs.length≤sizeLine∧∃its:List Value,Vals xs its∧IsTup h a its.toArray
 |.dK kvs=>kvs.length≤sizeLine∧(a == sysModules)=false∧∃vs,KV kvs vs∧h.DictOf (yJ P w) a vs
 |.dT kvs=>kvs.length≤sizeLine∧(a == sysModules)=false∧∃xs:List (List Key×Addr×Value),
   Paired (fun (p:List Key×V) (q:List Key×Addr×Value)=>p.1=q.1∧H q.2.1=some (.tup (p.1.map kV))∧RelV p.2 q.2.2) kvs xs∧
   ∃o es ep,h.get? a=some o∧o.ExactDict∧o.data=.dict es ep∧es.toList=xs.map (entryOfKey (tupleKind (yJ P w)))∧(xs.map (·.1)).Nodup
 |.set S n=>h.SetOf (intKind P w) a S n
 |.ins C dx fs=>H dx=some (.own a)∧fs.length≤1000∧dx≠a∧h.get? a=some (PySem.W.instObj C dx)∧
   ∃mA,h.Ns1 dx mA∧(∀f,uo (fs.lookup f) (mA f))∧PySem.Within mA (fs.map (·.1))
 |.own _=>∃o,h.get? a=some o
 |.xd fs=>∃mA,h.Ns1 a mA∧∀f,uo (fs.lookup f) (mA f)
 |.rng lo hi=>∃t u v,h.get? a=some {cls:=.type "range",data:=.fields #[.int lo t,.int hi u,.int 1 v]}
 |.frz o u=>h.get? a=some o∧zY H h a u
 |.tbl ps=>h.get? a=some {cls:=.none,data:=.fields ps}
 |.met f x=>h.get? a=some (PySem.W.methodObj (.ref f) (.ref x))
 |.ext φ=>φ h∧(∃o,h.get? a=some o)∧∀h1 h2:Heap,φ h1→(∀o,h1.get? a=some o→h2.get? a=some o)→φ h2
def HOk (H:Hp)(h:Heap):Prop:=∀a o,H a=some o→zY P w H h a o
end
section
variable {P:Program}{w:World}{H H':Hp}{h h':Heap}{a:Addr}{o:HO}
theorem zY.lt (x:zY P w H h a o):a<h.objs.size:=by
 cases o with
 |lst xs=>obtain⟨_,_,_,_,e⟩:=x;exact zt3 e
 |tup xs=>obtain⟨_,_,_,p⟩:=x;exact p.lt
 |dK kvs=>obtain⟨_,_,_,_,o,_,_,e,_⟩:=x;exact zt3 e
 |dT kvs=>obtain⟨_,_,_,_,o,_,_,e,_⟩:=x;exact zt3 e
 |set S n=>obtain⟨o,_,_,_,e,_⟩:=x;exact zt3 e
 |ins C dx fs=>obtain⟨_,_,_,e,_⟩:=x;exact zt3 e
 |own y=>obtain⟨_,e⟩:=x;exact zt3 e
 |xd fs=>obtain⟨_,⟨_,_,_,e,_⟩,_⟩:=x;exact zt3 e
 |rng lo hi=>obtain⟨_,_,_,e⟩:=x;exact zt3 e
 |frz ob u=>obtain⟨e,_⟩:=x;exact zt3 e
 |tbl ps=>exact zt3 (show h.get? a=some _ from x)
 |met f y=>exact zt3 (show h.get? a=some _ from x)
 |ext φ=>obtain⟨_,⟨_,e⟩,_⟩:=x;exact zt3 e
theorem Paired.mapP {α β:Type}{F G:α→β→Prop}:∀{l₁:List α} {l₂:List β},Paired F l₁ l₂→(∀a b,F a b→G a b)→Paired G l₁ l₂
 |_,_,.nil,_=>.nil
 |_,_,.cons r t,f=>.cons (f _ _ r) (Paired.mapP t f)
theorem zY.stay (x:zY P w H h a o)(k:∀b u,(b=a∨H b=some (.own a))→h.get? b=some u→h'.get? b=some u)
  (ho:∀b,H b=some (.own a)→H' b=some (.own a)) (ht:∀b xs,H b=some (.tup xs)→H' b=some (.tup xs)):zY P w H' h' a o:=by
 induction o with
 |lst xs=>obtain⟨z,its,n,r,e⟩:=x;exact⟨z,its,n,r,k _ _ (.inl rfl) e⟩
 |tup xs=>obtain⟨z,its,r,ob,e,c⟩:=x;exact⟨z,its,r,ob,k _ _ (.inl rfl) e,c⟩
 |dK kvs=>obtain⟨z,y,vs,r,ob,es,ep,e,c⟩:=x;exact⟨z,y,vs,r,ob,es,ep,k _ _ (.inl rfl) e,c⟩
 |dT kvs=>
  obtain⟨z,y,xs,r,ob,es,ep,e,c⟩:=x
  exact⟨z,y,xs,Paired.mapP r fun p q z=>⟨z.1,ht _ _ z.2.1,z.2.2⟩,ob,es,ep,k _ _ (.inl rfl) e,c⟩
 |set S n=>obtain⟨ob,es,ep,t,e,c⟩:=x;exact⟨ob,es,ep,t,k _ _ (.inl rfl) e,c⟩
 |ins C dx fs=>
  obtain⟨d,z,ne,e,mA,⟨od,es,ep,e2,c⟩,r⟩:=x
  exact⟨ho _ d,z,ne,k _ _ (.inl rfl) e,mA,⟨od,es,ep,k _ _ (.inr d) e2,c⟩,r⟩
 |own y=>obtain⟨ob,e⟩:=x;exact⟨ob,k _ _ (.inl rfl) e⟩
 |xd fs=>obtain⟨mA,⟨od,es,ep,e,c⟩,r⟩:=x;exact⟨mA,⟨od,es,ep,k _ _ (.inl rfl) e,c⟩,r⟩
 |rng lo hi=>obtain⟨t,u,v,e⟩:=x;exact⟨t,u,v,k _ _ (.inl rfl) e⟩
 |frz ob u ih=>obtain⟨e,q⟩:=x;exact⟨k _ _ (.inl rfl) e,ih q⟩
 |tbl ps=>
  have e:h.get? a=some {cls:=.none,data:=.fields ps}:=x
  show h'.get? a=some {cls:=.none,data:=.fields ps}
  exact k a _ (.inl rfl) e
 |met f y=>
  have e:h.get? a=some (PySem.W.methodObj (.ref f) (.ref y)):=x
  show h'.get? a=some (PySem.W.methodObj (.ref f) (.ref y))
  exact k a _ (.inl rfl) e
 |ext φ=>obtain⟨p,⟨o,e⟩,st⟩:=x;exact⟨st _ _ p fun o q=>k _ _ (.inl rfl) q,⟨o,k _ _ (.inl rfl) e⟩,st⟩
theorem HOk.lt (x:HOk P w H h)(e:H a=some o):a<h.objs.size:=(x a o e).lt
theorem HOk.fresh (x:HOk P w H h)(e:h.objs.size≤a):H a=none:=by
 cases q:H a with
 |none=>rfl
 |some u=>exact absurd (zu5 (x.lt q) e) (zy7 _)
theorem HOk.kept (x:HOk P w H h)(k:∀b u,h.get? b=some u→h'.get? b=some u):HOk P w H h':=fun a o e=>
 (x a o e).stay (fun b u _ q=>k b u q) (fun _ q=>q) fun _ _ q=>q
theorem HOk.laid (x:HOk P w H h)(k:∀b u,h.get? b=some u→h'.get? b=some u)(hp:h.objs.size≤a)(new:zY P w (upd H a o) h' a o):HOk P w (upd H a o) h':=fun b u e=>by
 have hn:=x.fresh hp
 by_cases hb:b=a
 ·subst hb;rw[zi] at e;cases e;exact new
 ·rw[zg hb] at e
  exact (x b u e).stay (fun c v _ q=>k c v q) (fun c q=>by rw[zg (zk q hn)];exact q) fun c xs q=>by rw[zg (zk q hn)];exact q
end
def Rd (H:Hp)(a:Addr)(u:HO):Prop:=H a=some u∨∃o,H a=some (.frz o u)
theorem Rd.ok {P:Program}{w:World}{H:Hp}{h:Heap}{a:Addr}{u:HO}(r:Rd H a u)(x:HOk P w H h):zY P w H h a u:=by
 rcases r with r|⟨o,r⟩
 ·exact x a u r
 ·obtain⟨_,q⟩:=x a _ r
  exact q
def Mut :Option HO→Prop
 |some (.lst _)=>True
 |some (.dK _)=>True
 |some (.dT _)=>True
 |some (.set _ _)=>True
 |some (.ins _ _ _)=>True
 |some (.ext _)=>True
 |_=>False
section
variable {P:Program}{w:World}{H:Hp}{h h':Heap}{x e:Addr}{o':HO}
theorem HOk.write (ok:HOk P w H h)(mu:Mut (H x))(he:e=x∨H e=some (.own x))(k:∀b u,b≠e→h.get? b=some u→h'.get? b=some u)(heo:∃u,h'.get? e=some u)
  (new:zY P w (upd H x o') h' x o'):HOk P w (upd H x o') h':=fun b u q=>by
 have nown:∀c y,H c=some (.own y)→c≠x:=fun c y r z=>by subst z;rw[r] at mu;exact mu
 have ntup:∀c xs,H c=some (.tup xs)→c≠x:=fun c xs r z=>by subst z;rw[r] at mu;exact mu
 by_cases hb:b=x
 ·subst hb;rw[zi] at q;cases q;exact new
 ·rw[zg hb] at q
  by_cases hbe:b=e
  ·have q':H b=some (.own x):=by
    rcases he with z|z
    ·exact absurd (hbe.trans z) hb
    ·rw[hbe];exact z
   rw[q] at q';cases q'
   obtain⟨v,hv⟩:=heo
   exact⟨v,by rw[hbe];exact hv⟩
  ·refine (ok b u q).stay (fun c v hc r=>k c v ?_ r) (fun c r=>by rw[zg (nown c b r)];exact r) fun c xs r=>by rw[zg (ntup c xs r)];exact r
   rcases hc with rfl|hc
   ·exact hbe
   ·rintro rfl
    rcases he with z|z
    ·exact nown c b hc z
    ·rw[hc] at z;cases z;exact hb rfl
end
structure Un (fs ex:List Addr)(H H':Hp)(h h':Heap):Prop where
 keep:∀b o,h.get? b=some o→H b=none→b∉fs→b∉ex→h'.get? b=some o
 slot:∀b o,h.get? b=some o→H b=none→b∈fs→b∉ex→∃sl,h'.get? b=some {o with slots:=sl}
 free:∀b o,h.get? b=some o→H b=none→b∉ex→H' b=none
 there:∀b o,h.get? b=some o→b∉ex→∃o',h'.get? b=some o'
 tups:∀b xs,H b=some (.tup xs)→H' b=some (.tup xs)
 frzs:∀b o u,H b=some (.frz o u)→H' b=some (.frz o u)
 tbls:∀b ps,H b=some (.tbl ps)→∃more,H' b=some (.tbl (ps++more))
section
variable {fs fs' ex ex':List Addr}{H H1 H2:Hp}{h h1 h2 h':Heap}{a x e:Addr}{o:HO}
theorem Un.any (u:Un fs ex H H1 h h1){b:Addr}{ob:Obj}(q:h.get? b=some ob)(n:H b=none)(hx:b∉ex):∃sl,h1.get? b=some {ob with slots:=sl}:=by
 by_cases hb:b∈fs
 ·exact u.slot b ob q n hb hx
 ·exact⟨ob.slots,u.keep b ob q n hb hx⟩
theorem Un.kept (k:∀b u,h.get? b=some u→h'.get? b=some u):Un fs ex H H h h':=
 ⟨fun b ob q _ _ _=>k b ob q,fun b ob q _ _ _=>⟨ob.slots,k b ob q⟩,fun _ _ _ n _=>n,fun b ob q _=>⟨ob,k b ob q⟩,fun _ _ q=>q,fun _ _ _ q=>q,fun _ ps q=>⟨#[],by rw[q];simp⟩⟩
theorem Un.refl :Un fs ex H H h h:=Un.kept fun _ _ q=>q
theorem Un.laid (k:∀b u,h.get? b=some u→h'.get? b=some u)(hp:h.objs.size≤a)(hn:H a=none):Un fs ex H (upd H a o) h h' where
 keep:=fun b u q _ _ _=>k b u q
 slot:=fun b u q _ _ _=>⟨u.slots,k b u q⟩
 free:=fun b u q n _=>by rw[zg (zu4 (zu5 (zt3 q) hp))];exact n
 there:=fun b u q _=>⟨u,k b u q⟩
 tups:=fun b xs q=>by rw[zg (zk q hn)];exact q
 frzs:=fun b u xs q=>by rw[zg (zk q hn)];exact q
 tbls:=fun b ps q=>⟨#[],by rw[zg (zk q hn),q];simp⟩
theorem Un.write (mu:Mut (H x))(he:e=x∨H e=some (.own x))(k:∀b u,b≠e→h.get? b=some u→h'.get? b=some u)(heo:∃u,h'.get? e=some u):Un fs ex H (upd H x o) h h':=by
 have hx:∀b,H b=none→b≠x:=fun b n z=>by subst z;rw[n] at mu;exact mu
 have hb:∀b,H b=none→b≠e:=fun b n z=>by
  subst z
  rcases he with r|r
  ·exact hx b n r
  ·rw[n] at r;cases r
 have hm:∀b u,H b=some u→¬Mut (some u)→b≠x:=fun b u q nm z=>by subst z;rw[q] at mu;exact nm mu
 refine⟨fun b u q n _ _=>k b u (hb b n) q,fun b u q n _ _=>⟨u.slots,k b u (hb b n) q⟩,fun b u q n _=>by rw[zg (hx b n)];exact n,fun b u q _=>?_,
  fun b xs q=>by rw[zg (hm b _ q fun z=>z)];exact q,fun b u xs q=>by rw[zg (hm b _ q fun z=>z)];exact q,fun b ps q=>⟨#[],by rw[zg (hm b _ q fun z=>z),q];simp⟩⟩
 by_cases hbe:b=e
 ·subst hbe;exact heo
 ·exact⟨u,k b u hbe q⟩
end
def trk (h:Heap)(H:Hp):List Addr:=(List.range h.objs.size).filter fun a=>(H a).isSome
def rj (h:Heap)(H:Hp):Heap:=PySem.W.hideAll h (trk h H)
theorem jw (h:Heap)(H:Hp):(rj h H).objs.size=h.objs.size:=PySem.W.hideAll_size _ _
theorem fh {h:Heap}{H:Hp}{b:Addr}{o:Obj}(e:h.get? b=some o)(n:H b=none):(rj h H).get? b=some o:=
 PySem.W.hideAll_get _ e fun hm=>by
  have q:(H b).isSome=true:=(zA0.mp hm).2
  rw[n] at q;simp at q
theorem ao {h:Heap}{H:Hp}{b:Addr}{o:Obj}(e:(rj h H).get? b=some o):h.get? b=some o∧H b=none:=by
 have e':h.get? b=some o:=PySem.W.of_hideAll (trk h H) e
 refine⟨e',?_⟩
 cases q:H b with
 |none=>rfl
 |some x=>
  have hm:b∈trk h H:=zA0.mpr ⟨zH0.mpr (zt3 e'),by simp[q]⟩
  have z:(rj h H).get? b=none:=PySem.W.hideAll_none (trk h H) hm
  rw[z] at e;cases e
structure Mod (K:PySem.W.Frag)(mg:Str→Option Value)(base:Heap):Prop where
 kin:K.In base
 glob:base.Ns mainGlobals mg
 blt:∃mb,base.Ns builtinsNs mb∧∀x:Str,x≠"__name__"→mb x=bootBuiltins x
 nolimit:base.NoLimit
structure Cx where
 prog:Program
 w:World
 K:PySem.W.Frag
 mg:Str→Option Value
 base:Heap
 A:Around
 N:List Str
 s₀:Shared
 H₀:Hp
 env:Env
 outer:List Env
 stack:List Env
 ex:List Addr
 fn:Str→Bool
 calm:Bool
 pn:List (Addr×Obj)
 xe:Value→Shared→Prop
def frs (l:List Env):List Addr:=l.filterMap (·.frame)
abbrev Cx.fs (X:Cx):List Addr:=frs X.outer
def Vis (sc:Scope)(x:Str):Prop:=sc.names.lookup x=some .local∨sc.names.lookup x=some .cell∨sc.names.lookup x=some .free
def Loc (sc:Scope)(x:Str):Prop:=sc.names.lookup x=some .local∨sc.names.lookup x=some .cell
def Look (env:Env)(h:Heap)(m:Str→Option Value)(x:Str)(u:Value):Prop:=
 (env.kindOf x=some .local∧m x=some u)∨((env.kindOf x=some .cell∨env.kindOf x=some .free)∧∃c,env.cells.lookup x=some c∧h.IsCell c (some u))
structure Cx.Ok (X:Cx):Prop where
 mod:Mod X.K X.mg X.base
 kind:X.env.scope.kind=.function
 glob:X.env.globals=mainGlobals
 blt:X.env.builtins=builtinsNs
 above:X.s₀.heap.objs.size≤X.env.locals
 inj:∀x y c,X.env.cells.lookup x=some c→X.env.cells.lookup y=some c→x=y
 has:∀x,(X.env.kindOf x=some .cell∨X.env.kindOf x=some .free)→∃c,X.env.cells.lookup x=some c
 cab:∀x c,X.fn x=true→X.env.cells.lookup x=some c→X.s₀.heap.objs.size≤c
 hd:X.calm=true→X.A.handled=none
 frames:X.A.frames=some X.stack
 stk:X.stack=X.outer∨(X.stack=X.env::X.outer∧X.env.frame=some X.env.locals)
 exf:∀b∈X.ex,b≠X.env.locals∧∀x c,X.env.cells.lookup x=some c→c≠b
 bs:∀b o,X.base.get? b=some o→X.s₀.heap.get? b=some o∧X.H₀ b=none
 bsz:X.base.objs.size≤X.s₀.heap.objs.size
 noex:∀b o,X.base.get? b=some o→b∉X.ex
 exfs:∀b∈X.ex,b∉X.fs
 funs:X.s₀.heap.FunFrames X.base X.outer
 frf:∀b∈X.fs,X.H₀ b=none
structure Inv (X:Cx)(pins:List (Addr×Obj))(σ:List (Option V))(H:Hp)(s:Shared):Prop where
 ok:X.Ok
 os:s.os=X.s₀.os
 bare:AllBare s.gens
 base:Un X.fs X.ex X.H₀ H X.s₀.heap s.heap
 loc:∃m,s.heap.Ns X.env.locals m∧∀(i:Nat) (x:Str) (v:V),X.N[i]?=some x→σ[i]?=some (some v)→Vis X.env.scope x→∃u,RelV v u∧Look X.env s.heap m x u
 cell:∀x c,X.env.cells.lookup x=some c→∃v,s.heap.IsCell c v
 free:H X.env.locals=none
 freeC:∀x c,X.env.cells.lookup x=some c→H c=none
 pin:∀p∈X.pn++pins,s.heap.get? p.1=some p.2∧H p.1=none∧p.1≠X.env.locals∧p.1∉X.fs∧∀v,p.2.data≠.cell v
 hok:HOk X.prog X.w H s.heap
 len:σ.length=X.N.length
section
variable {X:Cx}{pins:List (Addr×Obj)}{σ:List (Option V)}{H H':Hp}{s:Shared}{h':Heap}
theorem Cx.Ok.nofr (ok:X.Ok){b:Addr}{o:Obj}(e:X.base.get? b=some o):b∉X.fs:=fun hb=>by
 have:=(ok.funs.mem hb).1
 rw[e] at this;cases this
theorem Inv.bs (I:Inv X pins σ H s):∀b o,X.base.get? b=some o→s.heap.get? b=some o∧H b=none:=fun b o e=>
 ⟨I.base.keep b o (I.ok.bs b o e).1 (I.ok.bs b o e).2 (I.ok.nofr e) (I.ok.noex b o e),I.base.free b o (I.ok.bs b o e).1 (I.ok.bs b o e).2 (I.ok.noex b o e)⟩
theorem Inv.bk (I:Inv X pins σ H s):∀b o,X.base.get? b=some o→s.heap.get? b=some o:=fun b o e=>(I.bs b o e).1
theorem Inv.mod (I:Inv X pins σ H s):Mod X.K X.mg X.base:=I.ok.mod
theorem Inv.kIn (I:Inv X pins σ H s):X.K.In s.heap:=I.ok.mod.kin.keeps I.bk
theorem Inv.lt (I:Inv X pins σ H s):X.env.locals<s.heap.objs.size:=let ⟨_,hn,_⟩:=I.loc;hn.lt
theorem Inv.sz (I:Inv X pins σ H s):X.s₀.heap.objs.size≤s.heap.objs.size:=zw6 I.ok.above (zy5 I.lt)
theorem Inv.nofs (I:Inv X pins σ H s){a:Addr}(h:s.heap.objs.size≤a):a∉X.fs:=fun hb=>by
 obtain⟨_,o,ho,_⟩:=I.ok.funs.mem hb
 exact absurd (zu5 (zt3 ho) (zw6 I.sz h)) (zy7 _)
theorem Inv.cne (I:Inv X pins σ H s):∀x c,X.env.cells.lookup x=some c→c≠X.env.locals:=fun x c e z=>by
 obtain⟨v,o,ho,hd⟩:=I.cell x c e
 obtain⟨m,⟨o',es,ep,ho',hd',_⟩,_⟩:=I.loc
 rw[z,ho'] at ho;cases ho;rw[hd'] at hd;cases hd
theorem Inv.funs (I:Inv X pins σ H s):s.heap.FunFrames X.base X.outer:=by
 have all:∀(l:List Env),(∀b∈frs l,b∈X.fs)→X.s₀.heap.FunFrames X.base l→s.heap.FunFrames X.base l:=by
  intro l
  induction l with
  |nil=>intro _ _;trivial
  |cons env r ih=>
   intro hs hl
   obtain⟨hk,⟨L,o,hf,hn,ho,hd⟩,hr⟩:=hl
   have hL:L∈X.fs:=hs L (by unfold frs;rw[zG7,hf];exact zt7)
   obtain⟨sl,e⟩:=I.base.slot L o ho (I.ok.frf L hL) hL fun z=>I.ok.exfs L z hL
   exact⟨hk,⟨L,_,hf,hn,e,hd⟩,ih (fun b hb=>hs b (by unfold frs;rw[zG7,hf];exact zt4 _ hb)) hr⟩
 exact all X.outer (fun _ hb=>hb) I.ok.funs
theorem Inv.stack (I:Inv X pins σ H s):s.heap.FunFrames X.base X.stack:=by
 rcases I.ok.stk with e|⟨e,hf⟩
 ·rw[e];exact I.funs
 ·rw[e]
  obtain⟨m,hn,_⟩:=I.loc
  refine .cons (by rw[I.ok.kind];decide) hf hn ?_ I.funs
  exact Heap.get?_none_of_le (zw6 I.ok.bsz I.ok.above)
theorem Inv.stkSub (I:Inv X pins σ H s):∀b∈frs X.stack,b∈X.env.locals::X.fs:=fun b hb=>by
 rcases I.ok.stk with e|⟨e,hf⟩
 ·rw[e] at hb;exact zt4 _ hb
 ·rw[e] at hb
  unfold frs at hb
  rw[zG7,hf] at hb
  exact hb
theorem Inv.stkFree (I:Inv X pins σ H s):∀b∈frs X.stack,H b=none:=fun b hb=>by
 rcases zs8.mp (I.stkSub b hb) with e|hb
 ·rw[e];exact I.free
 ·obtain⟨_,o,ho,_⟩:=I.ok.funs.mem hb
  exact I.base.free b o ho (I.ok.frf b hb) fun z=>I.ok.exfs b z hb
theorem Inv.step {g':Array GenState}{t':Nat}{d':Drawn}{ch:List Addr}(I:Inv X pins σ H s)
  (hch:∀b∈ch,(b∈X.ex∨X.s₀.heap.objs.size≤b)∧b≠X.env.locals∧(∀x c,X.env.cells.lookup x=some c→c≠b)∧∀p∈X.pn++pins,p.1≠b)
  (keep:∀b o,b≠X.env.locals→b∉X.fs→b∉ch→s.heap.get? b=some o→H b=none→h'.get? b=some o)
  (slot:∀b o,b≠X.env.locals→b∈X.fs→b∉ch→s.heap.get? b=some o→H b=none→∃sl,h'.get? b=some {o with slots:=sl}) (free:∀b o,b∉ch→s.heap.get? b=some o→H b=none→H' b=none)
  (there:∀b o,b∉ch→s.heap.get? b=some o→∃o',h'.get? b=some o')
  (tups:∀b xs,H b=some (.tup xs)→H' b=some (.tup xs)) (frzs:∀b o u,H b=some (.frz o u)→H' b=some (.frz o u)) (tbls:∀b ps,H b=some (.tbl ps)→∃more,H' b=some (.tbl (ps++more)))
  (ns:∀m,s.heap.Ns X.env.locals m→h'.Ns X.env.locals m) (hok:HOk X.prog X.w H' h') (hg:AllBare g'):
  Inv X pins σ H' {s with heap:=h',gens:=g',drawn:=d',toks:=t'}:=by
 have neL:∀b o,X.s₀.heap.get? b=some o→b≠X.env.locals:=fun b o e=>zu4 (zu5 (zt3 e) I.ok.above)
 have neC:∀b o,X.s₀.heap.get? b=some o→b∉X.ex→b∉ch:=fun b o e hx hb=>by
  rcases (hch b hb).1 with z|z
  ·exact hx z
  ·exact absurd (zu5 (zt3 e) z) (zy7 _)
 have cellK:∀x c,X.env.cells.lookup x=some c→∀v,s.heap.IsCell c v→h'.IsCell c v:=fun x c e v ⟨o,ho,hd⟩=>by
  have nch:c∉ch:=fun z=>(hch c z).2.2.1 x c e rfl
  by_cases hc:c∈X.fs
  ·obtain⟨sl,q⟩:=slot c o (I.cne x c e) hc nch ho (I.freeC x c e)
   exact⟨_,q,hd⟩
  ·exact⟨o,keep c o (I.cne x c e) hc nch ho (I.freeC x c e),hd⟩
 refine⟨I.ok,I.os,hg,⟨fun b o e n hb hx=>?_,fun b o e n hb hx=>?_,fun b o e n hx=>?_,fun b o e hx=>?_,fun b xs e=>tups b xs (I.base.tups b xs e),fun b o xs e=>frzs b o xs (I.base.frzs b o xs e),fun b ps e=>?_⟩,?_,fun x c e=>?_,?_,fun x c e=>?_,fun p hp=>?_,hok,I.len⟩
 ·exact keep b o (neL b o e) hb (neC b o e hx) (I.base.keep b o e n hb hx) (I.base.free b o e n hx)
 ·obtain⟨sl,e1⟩:=I.base.slot b o e n hb hx
  obtain⟨sl',e2⟩:=slot b _ (neL b o e) hb (neC b o e hx) e1 (I.base.free b o e n hx)
  exact⟨sl',e2⟩
 ·obtain⟨o',e1⟩:=I.base.there b o e hx
  exact free b o' (neC b o e hx) e1 (I.base.free b o e n hx)
 ·obtain⟨o',e1⟩:=I.base.there b o e hx
  exact there b o' (neC b o e hx) e1
 ·obtain⟨m1,e1⟩:=I.base.tbls b ps e
  obtain⟨m2,e2⟩:=tbls b _ e1
  exact⟨m1++m2,by rw[e2,Array.append_assoc]⟩
 ·obtain⟨m,hn,hl⟩:=I.loc
  refine⟨m,ns m hn,fun i x v e1 e2 e3=>?_⟩
  obtain⟨u,r,l⟩:=hl i x v e1 e2 e3
  refine⟨u,r,?_⟩
  rcases l with l|⟨k,c,e,z⟩
  ·exact .inl l
  ·exact .inr ⟨k,c,e,cellK x c e _ z⟩
 ·obtain⟨v,z⟩:=I.cell x c e
  exact⟨v,cellK x c e v z⟩
 ·obtain⟨m,⟨o,_,_,ho,_⟩,_⟩:=I.loc
  exact free _ o (fun z=>(hch _ z).2.1 rfl) ho I.free
 ·obtain⟨v,o,ho,hd⟩:=I.cell x c e
  exact free c o (fun z=>(hch c z).2.2.1 x c e rfl) ho (I.freeC x c e)
 ·obtain⟨e,n,ne,nf,d⟩:=I.pin p hp
  have nch:p.1∉ch:=fun z=>(hch p.1 z).2.2.2 p hp rfl
  exact⟨keep p.1 p.2 ne nf nch e n,free p.1 p.2 nch e n,ne,nf,d⟩
theorem Inv.un {t':Nat}(I:Inv X pins σ H s)(u:Un X.fs [] H H' s.heap h')(hok:HOk X.prog X.w H' h'):Inv X pins σ H' {s with heap:=h',toks:=t'}:=by
 obtain⟨m,⟨o,es,ep,ho,r⟩,_⟩:=id I.loc
 obtain⟨sl,hL⟩:=u.any ho I.free (by simp)
 exact I.step (g':=s.gens) (d':=s.drawn) (ch:=[]) (fun _ z=>nomatch z) (fun b o _ hb _ e n=>u.keep b o e n hb (by simp)) (fun b o _ hb _ e n=>u.slot b o e n hb (by simp)) (fun b o _ e n=>u.free b o e n (by simp)) (fun b o _ e=>u.there b o e (by simp)) u.tups u.frzs u.tbls (fun m' hm=>by
  obtain⟨o',es',ep',ho',r'⟩:=hm
  rw[ho] at ho';cases ho'
  exact⟨_,es',ep',hL,r'⟩) hok I.bare
theorem Inv.call {g':Array GenState}{t':Nat}{d':Drawn}{ch:List Addr}(I:Inv X pins σ H s)(u:Un (frs X.stack) ch H H' s.heap h')(hok:HOk X.prog X.w H' h')(hg:AllBare g')
  (hch:∀b∈ch,(b∈X.ex∨X.s₀.heap.objs.size≤b)∧b≠X.env.locals∧(∀x c,X.env.cells.lookup x=some c→c≠b)∧∀p∈X.pn++pins,p.1≠b):
  Inv X pins σ H' {s with heap:=h',gens:=g',drawn:=d',toks:=t'}:=by
 obtain⟨m,⟨o,es,ep,ho,r⟩,_⟩:=id I.loc
 obtain⟨sl,hL⟩:=u.any ho I.free fun z=>(hch _ z).2.1 rfl
 exact I.step (ch:=ch) hch (fun b o hL hb hc e n=>u.keep b o e n (fun z=>(zs8.mp (I.stkSub b z)).elim hL hb) hc) (fun b o _ _ hc e n=>u.any e n hc) (fun b o hc e n=>u.free b o e n hc) (fun b o hc e=>u.there b o e hc) u.tups u.frzs u.tbls (fun m' hm=>by
  obtain⟨o',es',ep',ho',r'⟩:=hm
  rw[ho] at ho';cases ho'
  exact⟨_,es',ep',hL,r'⟩) hok hg
theorem Inv.turned {t':Nat}{it:Addr}(I:Inv X pins σ H s)(k:∀b o,b≠it→s.heap.get? b=some o→h'.get? b=some o)(hn:H it=none)(hL:it≠X.env.locals)
  (h1:it∈X.ex∨X.s₀.heap.objs.size≤it) (h2:∀x c,X.env.cells.lookup x=some c→c≠it) (h3:∀p∈X.pn++pins,p.1≠it):Inv X pins σ H {s with heap:=h',toks:=t'}:=by
 have nit:∀b u,H b=some u→b≠it:=fun b u e z=>by rw[z,hn] at e;cases e
 refine I.step (g':=s.gens) (d':=s.drawn) (ch:=[it]) (fun b hb=>?_) (fun b o _ _ hc e _=>k b o (fun z=>hc (by simp[z])) e) (fun b o _ _ hc e _=>⟨o.slots,k b o (fun z=>hc (by simp[z])) e⟩) (fun _ _ _ _ n=>n)
  (fun b o hc e=>⟨o,k b o (fun z=>hc (by simp[z])) e⟩) (fun _ _ e=>e) (fun _ _ _ e=>e) (fun b ps e=>⟨#[],by rw[e];simp⟩) (fun m hm=>?_) (fun b u e=>?_) I.bare
 ·have e:b=it:=by simpa using hb
  subst e
  exact⟨h1,hL,h2,h3⟩
 ·obtain⟨o,es,ep,ho,r⟩:=hm
  exact⟨o,es,ep,k _ o (zv8 hL) ho,r⟩
 ·refine (I.hok b u e).stay (fun c v hc q=>k c v ?_ q) (fun _ q=>q) fun _ _ q=>q
  rcases hc with z|z
  ·rw[z];exact nit b u e
  ·exact nit c _ z
theorem Inv.tok (I:Inv X pins σ H s)(t:Nat):Inv X pins σ H {s with toks:=t}:=I.un (h':=s.heap) (t':=t) Un.refl I.hok
theorem Inv.kept {t':Nat}(I:Inv X pins σ H s)(k:∀b u,s.heap.get? b=some u→h'.get? b=some u):Inv X pins σ H {s with heap:=h',toks:=t'}:=I.un (Un.kept k) (I.hok.kept k)
theorem Inv.laid {a:Addr}{o:HO}{t':Nat}(I:Inv X pins σ H s)(k:∀b u,s.heap.get? b=some u→h'.get? b=some u)(hp:s.heap.objs.size≤a)(new:zY X.prog X.w (upd H a o) h' a o):
  Inv X pins σ (upd H a o) {s with heap:=h',toks:=t'}:=I.un (Un.laid k hp (I.hok.fresh hp)) (I.hok.laid k hp new)
theorem Inv.write {x e:Addr}{o:HO}{t':Nat}(I:Inv X pins σ H s)(mu:Mut (H x))(he:e=x∨H e=some (.own x))(k:∀b u,b≠e→s.heap.get? b=some u→h'.get? b=some u)(heo:∃u,h'.get? e=some u)
  (new:zY X.prog X.w (upd H x o) h' x o):Inv X pins σ (upd H x o) {s with heap:=h',toks:=t'}:=I.un (Un.write mu he k heo) (I.hok.write mu he k heo new)
theorem Inv.pins_of {pins':List (Addr×Obj)}(I:Inv X pins σ H s)(h:∀p∈pins',s.heap.get? p.1=some p.2∧H p.1=none∧p.1≠X.env.locals∧p.1∉X.fs∧∀v,p.2.data≠.cell v):Inv X pins' σ H s:=
 ⟨I.ok,I.os,I.bare,I.base,I.loc,I.cell,I.free,I.freeC,fun p hp=>(zw7.mp hp).elim (fun z=>I.pin p (zz2 _ z)) (h p),I.hok,I.len⟩
theorem oH {N:List Str}(hN:N.Nodup){i j:Nat}{x:Str}(a:N[i]?=some x)(b:N[j]?=some x):i=j:=by
 obtain⟨h1,e1⟩:=zt0.mp a
 obtain⟨h2,e2⟩:=zt0.mp b
 exact (List.getElem_inj hN).mp (e1.trans e2.symm)
theorem qj {M:Model}{A:Around}{E:Value→Shared→Prop}{i:Nat}{x:Str}{v:V}{u:Value}{Q:Unit→Shared→Prop}(I:Inv X pins σ H s)(hN:X.N.Nodup)(hi:X.N[i]?=some x)(hx:Loc X.env.scope x)(r:RelV v u)
  (h:∀s',Inv X pins (σ.set i (some v)) H s'→(∃a,Heap.SameBut a s.heap s'.heap∧(a=X.env.locals∨X.env.cells.lookup x=some a))→Q () s') (hf:X.fn x=true∨X.env.scope.names.lookup x=some .local:=by first|exact .inl rfl|exact .inr rfl|assumption):wpAny M A (storeName X.env x u) Q E s:=by
 obtain⟨m,hn,hl⟩:=id I.loc
 have hcls:(X.env.scope.kind == .class||(X.env.scope.kind == .module&&X.env.locals != X.env.globals))=false:=by rw[I.ok.kind];rfl
 have hiσ:i<σ.length:=by rw[I.len];exact (zt0.mp hi).1
 have cne:=I.cne
 have tracked:∀{a:Addr} {h':Heap},(∃o,s.heap.get? a=some o∧H a=none)→Heap.SameBut a s.heap h'→HOk X.prog X.w H h':=fun {a h'} ha hs b ob e=>by
  obtain⟨_,_,hfree⟩:=ha
  refine (I.hok b ob e).stay (fun c w' hc q=>(hs.2 c ?_).trans q) (fun _ q=>q) fun _ _ q=>q
  rintro rfl
  rcases hc with rfl|hc
  ·rw[hfree] at e;cases e
  ·rw[hfree] at hc;cases hc
 rcases hx with hk|hk
 ·refine wpAny_storeName_local hk hn (fun h' hn' hs=>?_) hcls
  obtain⟨oL,_,_,hoL,_⟩:=id hn
  refine h _ ⟨I.ok,I.os,I.bare,⟨fun b o e n hb hx=>?_,fun b o e n hb hx=>?_,I.base.free,fun b o e hx=>?_,I.base.tups,I.base.frzs,I.base.tbls⟩,⟨_,hn',fun j y v' e1 e2 e3=>?_⟩,fun y c e=>?_,I.free,I.freeC,fun p hp=>?_,tracked ⟨oL,hoL,I.free⟩ hs,by simpa using I.len⟩ ⟨_,hs,.inl rfl⟩
  ·exact (hs.2 b (zu4 (zu5 (zt3 e) I.ok.above))).trans (I.base.keep b o e n hb hx)
  ·obtain⟨sl,e1⟩:=I.base.slot b o e n hb hx
   exact⟨sl,(hs.2 b (zu4 (zu5 (zt3 e) I.ok.above))).trans e1⟩
  ·obtain⟨o',e1⟩:=I.base.there b o e hx
   exact⟨o',(hs.2 b (zu4 (zu5 (zt3 e) I.ok.above))).trans e1⟩
  ·by_cases hj:j=i
   ·subst hj
    rw[hi] at e1;cases e1
    rw[zz8 hiσ] at e2
    cases e2
    exact⟨u,r,.inl ⟨hk,by simp⟩⟩
   ·rw[zw8 (zv8 hj)] at e2
    obtain⟨u',r',q⟩:=hl j y v' e1 e2 e3
    refine⟨u',r',?_⟩
    rcases q with ⟨k,e⟩|⟨k,c,e,z⟩
    ·refine .inl ⟨k,?_⟩
     have:y≠x:=fun e=>hj (oH hN e1 (e▸hi))
     simp[this,e]
    ·exact .inr ⟨k,c,e,z.sameBut hs (cne y c e)⟩
  ·obtain⟨w',z⟩:=I.cell y c e
   exact⟨w',z.sameBut hs (cne y c e)⟩
  ·obtain⟨e,n,ne,nf,d⟩:=I.pin p hp
   exact⟨(hs.2 p.1 ne).trans e,n,ne,nf,d⟩
 ·have hfn:X.fn x=true:=by
   rcases hf with z|z
   ·exact z
   ·rw[z] at hk;cases hk
  obtain⟨c,hc⟩:=I.ok.has x (.inl hk)
  obtain⟨w',z⟩:=I.cell x c hc
  refine wpAny_storeName_cell I.ok.kind hk hc z (fun h' hc' hs=>?_)
  obtain⟨oc,hoc,hocd⟩:=id z
  refine h {s with heap:=h'} ⟨I.ok,I.os,I.bare,⟨fun b o e n hb hx=>?_,fun b o e n hb hx=>?_,I.base.free,fun b o e hx=>?_,I.base.tups,I.base.frzs,I.base.tbls⟩,⟨m,hn.sameBut hs (zv8 (cne x c hc)),fun j y v' e1 e2 e3=>?_⟩,fun y c' e=>?_,I.free,I.freeC,fun p hp=>?_,tracked ⟨oc,hoc,I.freeC x c hc⟩ hs,by simpa using I.len⟩ ⟨c,hs,.inr hc⟩
  ·exact (hs.2 b (zu4 (zu5 (zt3 e) (I.ok.cab x c hfn hc)))).trans (I.base.keep b o e n hb hx)
  ·obtain⟨sl,e1⟩:=I.base.slot b o e n hb hx
   exact⟨sl,(hs.2 b (zu4 (zu5 (zt3 e) (I.ok.cab x c hfn hc)))).trans e1⟩
  ·obtain⟨o',e1⟩:=I.base.there b o e hx
   exact⟨o',(hs.2 b (zu4 (zu5 (zt3 e) (I.ok.cab x c hfn hc)))).trans e1⟩
  ·by_cases hj:j=i
   ·subst hj
    rw[hi] at e1;cases e1
    rw[zz8 hiσ] at e2
    cases e2
    exact⟨u,r,.inr ⟨.inl hk,c,hc,hc'⟩⟩
   ·rw[zw8 (zv8 hj)] at e2
    obtain⟨u',r',q⟩:=hl j y v' e1 e2 e3
    refine⟨u',r',?_⟩
    rcases q with q|⟨k,c',e,z'⟩
    ·exact .inl q
    ·refine .inr ⟨k,c',e,z'.sameBut hs ?_⟩
     rintro rfl
     exact hj (oH hN e1 (I.ok.inj _ _ _ e hc▸hi))
  ·by_cases hcc:c'=c
   ·subst hcc;exact⟨_,hc'⟩
   ·obtain⟨w2,z2⟩:=I.cell y c' e
    exact⟨w2,z2.sameBut hs hcc⟩
  ·obtain⟨e,n,ne,nf,d⟩:=I.pin p hp
   refine⟨(hs.2 p.1 ?_).trans e,n,ne,nf,d⟩
   intro q
   rw[q,hoc] at e
   have q':oc=p.2:=zv0 e
   exact d w' (by rw[←q'];exact hocd)
theorem ou {M:Model}{A:Around}{E:Value→Shared→Prop}{i:Nat}{x:Str}{v:V}{u:Value}{Q:Unit→Shared→Prop}(I:Inv X pins σ H s)(hN:X.N.Nodup)(hi:X.N[i]?=some x)(hx:Loc X.env.scope x)(r:RelV v u)
  (h:∀s',Inv X pins (σ.set i (some v)) H s'→Q () s') (hf:X.fn x=true∨X.env.scope.names.lookup x=some .local:=by first|exact .inl rfl|exact .inr rfl|assumption):wpAny M A (storeName X.env x u) Q E s:=
 qj I hN hi hx r (fun s' I' _=>h s' I') hf
theorem Inv.call' {s':Shared}{ch:List Addr}(I:Inv X pins σ H s)(ho:s'.os=s.os)(u:Un (frs X.stack) ch H H' s.heap s'.heap)(hok:HOk X.prog X.w H' s'.heap)(hg:AllBare s'.gens)
  (hch:∀b∈ch,(b∈X.ex∨X.s₀.heap.objs.size≤b)∧b≠X.env.locals∧(∀x c,X.env.cells.lookup x=some c→c≠b)∧∀p∈X.pn++pins,p.1≠b):Inv X pins σ H' s':=by
 obtain⟨h',g',d',t',o'⟩:=s'
 have e:o'=s.os:=ho
 subst e
 exact I.call (g':=g') (t':=t') (d':=d') u hok hg hch
end
abbrev XK :=Value→Option Addr→Hp→Prop
abbrev St :=List (Option V)
abbrev VK :=V→Hp→Prop
abbrev TE :=St→Hp→VK→Prop
abbrev TT :=St→Hp→(Bool→Hp→Prop)→Prop
abbrev TA :=St→Hp→(List V→Hp→Prop)→Prop
structure Ends where
 nx:St→Hp→Prop
 rt:VK
 bk:St→Hp→Prop:=fun _ _=>False
 ct:St→Hp→Prop:=fun _ _=>False
abbrev TS :=Ends→St→Hp→Prop
def EP (X:Cx)(pins:List (Addr×Obj))(σ:St)(Q:VK)(u:Value)(s':Shared):Prop:=∃v H',Inv X pins σ H' s'∧RelV v u∧Q v H'
def TP (X:Cx)(pins:List (Addr×Obj))(σ:St)(Q:Bool→Hp→Prop)(b:Bool)(s':Shared):Prop:=∃H',Inv X pins σ H' s'∧Q b H'
def AP (X:Cx)(pins:List (Addr×Obj))(σ:St)(Q:List V→Hp→Prop)(us:List Value)(s':Shared):Prop:=∃vs H',Inv X pins σ H' s'∧Vals vs us∧Q vs H'
def SP (X:Cx)(pins:List (Addr×Obj))(D:Ends)(f:Flow)(s':Shared):Prop:=
 match f with
 |.next=>∃σ' H',Inv X pins σ' H' s'∧D.nx σ' H'
 |.brk=>∃σ' H',Inv X pins σ' H' s'∧D.bk σ' H'
 |.cont=>∃σ' H',Inv X pins σ' H' s'∧D.ct σ' H'
 |.ret u=>∃v σ' H',Inv X pins σ' H' s'∧RelV v u∧D.rt v H'
def PE (X:Cx)(e:Expr)(t:TE):Prop:=
 ∀(pins:List (Addr×Obj)) (s:Shared) (σ:St) (H:Hp) (Q:VK),Inv X pins σ H s→t σ H Q→wpAny (model X.prog X.w) X.A (eval e X.env) (EP X pins σ Q) X.xe s
def PT (X:Cx)(e:Expr)(t:TT):Prop:=
 ∀(pins:List (Addr×Obj)) (s:Shared) (σ:St) (H:Hp) (Q:Bool→Hp→Prop),Inv X pins σ H s→t σ H Q→wpAny (model X.prog X.w) X.A (isTrue e X.env (eval e X.env)) (TP X pins σ Q) X.xe s
def PW (X:Cx)(e:Expr)(t:TT):Prop:=
 ∀(whole:Sem Value) (pins:List (Addr×Obj)) (s:Shared) (σ:St) (H:Hp) (Q:Bool→Hp→Prop),Inv X pins σ H s→t σ H Q→wpAny (model X.prog X.w) X.A (isTrue e X.env whole) (TP X pins σ Q) X.xe s
theorem PW.pt {X:Cx}{e:Expr}{t:TT}(h:PW X e t):PT X e t:=h _
def PA (X:Cx)(es:List Expr)(t:TA):Prop:=
 ∀(pos:Pos) (pins:List (Addr×Obj)) (s:Shared) (σ:St) (H:Hp) (Q:List V→Hp→Prop),Inv X pins σ H s→t σ H Q→wpAny (model X.prog X.w) X.A (spliced (backTo pos (starEach es X.env))) (AP X pins σ Q) X.xe s
def PS (X:Cx)(st:Stmt)(t:TS):Prop:=
 ∀(pins:List (Addr×Obj)) (s:Shared) (σ:St) (H:Hp) (D:Ends),Inv X pins σ H s→t D σ H→wpAny (model X.prog X.w) X.A (exec st X.env) (SP X pins D) X.xe s
def PSs (X:Cx)(st:List Stmt)(t:TS):Prop:=
 ∀(pins:List (Addr×Obj)) (s:Shared) (σ:St) (H:Hp) (D:Ends),Inv X pins σ H s→t D σ H→wpAny (model X.prog X.w) X.A (execs st X.env) (SP X pins D) X.xe s
theorem thn {α:Type}{t:Sem α}{Q Q':α→Shared→Prop}{M:Model}{A:Around}{E:Value→Shared→Prop}{s:Shared}(h:wpAny M A t Q E s)(hQ:∀a s,Q a s→Q' a s):wpAny M A t Q' E s:=zv6 h hQ fun _ _ x=>x
section
variable {X:Cx}
theorem bin {a b:Expr}{ta tb:TE}(ha:PE X a ta)(hb:PE X b tb){pins:List (Addr×Obj)}{s:Shared}{σ:St}{H:Hp}{R:V→V→Hp→Prop}(I:Inv X pins σ H s)(h:ta σ H fun x H1=>tb σ H1 fun y H2=>R x y H2)
  {α:Type} {Q:α→Shared→Prop} {f:Value→Value→Sem α}
  (hf:∀v u s2 x y H2,Inv X pins σ H2 s2→RelV x v→RelV y u→R x y H2→wpAny (model X.prog X.w) X.A (f v u) Q X.xe s2):
  wpAny (model X.prog X.w) X.A (eval a X.env) (fun v s₁=>wpAny (model X.prog X.w) X.A (eval b X.env) (fun u s₂=>wpAny (model X.prog X.w) X.A (f v u) Q X.xe s₂) X.xe s₁) X.xe s:=by
 refine thn (ha pins s σ H _ I h) fun v s1 ⟨x,H1,I1,r1,q1⟩=>?_
 refine thn (hb pins s1 σ H1 _ I1 q1) fun u s2 ⟨y,H2,I2,r2,q2⟩=>?_
 exact hf v u s2 x y H2 I2 r1 r2 q2
def za8 (i:Nat):TE:=fun σ H Q=>∃v,σ[i]?=some (some v)∧Q v H
def tC (v:V):TE:=fun _ H Q=>Q v H
theorem xq {i:Nat}{x:Str}{pos:Pos}(hN:X.N[i]?=some x)(hv:Vis X.env.scope x)(hd:(x == ("__debug__":Str))=false:=by decide)(hcd:(x == ("__classdict__":Str))=false:=by decide):PE X (.Name x pos) (za8 i):=by
 intro pins s σ H Q I h
 obtain⟨v,e,h⟩:=h
 obtain⟨m,hn,hl⟩:=I.loc
 obtain⟨u,r,l⟩:=hl i x v hN e hv
 have fin:EP X pins σ Q u s:=⟨v,H,I,r,h⟩
 rcases l with ⟨hk,hm⟩|⟨hk,c,hc,hcell⟩
 ·exact wpAny_Name (wpAny_loadName_local I.ok.kind hk hn hm fin) hd
 ·rcases hk with hk|hk
  ·exact wpAny_Name (wpAny_loadName_cell I.ok.kind hk hc hcell fin) hd
  ·exact wpAny_Name (wpAny_loadName_free I.ok.kind hk hc hcell fin hcd) hd
theorem zo {i j pos}:PE X (.Constant (.int i) j pos) (tC (.int i)):=fun _ _ _ H _ I h=>wpAny_Constant_int ⟨.int i,H,I.tok _,⟨_,rfl⟩,h⟩
theorem zn3 {b j pos}:PE X (.Constant (.bool b) j pos) (tC (.bl b)):=fun _ _ _ H _ I h=>Constant_bool ⟨.bl b,H,I,rfl,h⟩
theorem pT {j pos}:PE X (.Constant .none j pos) (tC .non):=fun _ _ _ H _ I h=>Constant_none ⟨.non,H,I,rfl,h⟩
theorem yf {x j pos}:PE X (.Constant (.str x) j pos) (tC (.str x)):=fun _ _ _ H _ I h=>Calls.Constant_str ⟨.str x,H,I.tok _,⟨_,rfl⟩,h⟩
def Gl (X:Cx)(x:Str):Prop:=X.env.kindOf x=some .globalImplicit
theorem tu {E:Value→Shared→Prop}{pins:List (Addr×Obj)}{s:Shared}{σ:St}{H:Hp}{x:Str}{u:Value}{pos:Pos}{Q:Value→Shared→Prop}(I:Inv X pins σ H s)(hg:Gl X x)(hm:X.mg x=some u)(h:Q u s)
  (hd:(x == ("__debug__":Str))=false:=by decide):wpAny (model X.prog X.w) X.A (eval (.Name x pos) X.env) Q E s:=
 Calls.Name_function_global I.ok.kind hg (Calls.loadGlobal_global (by rw[I.ok.glob];exact I.mod.glob.keeps I.bk) hm h) hd
theorem wF {E:Value→Shared→Prop}{pins:List (Addr×Obj)}{s:Shared}{σ:St}{H:Hp}{x:Str}{u:Value}{pos:Pos}{Q:Value→Shared→Prop}(I:Inv X pins σ H s)(hg:Gl X x)(hm:X.mg x=none)(hv:bootBuiltins x=some u)(h:Q u s)
  (hn:x≠"__name__":=by decide) (hd:(x == ("__debug__":Str))=false:=by decide):wpAny (model X.prog X.w) X.A (eval (.Name x pos) X.env) Q E s:=by
 obtain⟨mb,h1,h2⟩:=I.mod.blt
 exact Calls.Name_function_global I.ok.kind hg (Calls.loadGlobal_builtin (by rw[I.ok.glob];exact I.mod.glob.keeps I.bk) hm (by rw[I.ok.blt];exact h1.keeps I.bk) ((h2 x hn).trans hv) h) hd
theorem vW {x:Str}{v:V}{u:Value}{pos:Pos}(hg:Gl X x)(hm:X.mg x=some u)(r:RelV v u)(hd:(x == ("__debug__":Str))=false:=by decide):PE X (.Name x pos) (tC v):=
 fun _ _ _ H _ I h=>tu I hg hm ⟨v,H,I,r,h⟩ hd
theorem um {x:Str}{v:V}{u:Value}{pos:Pos}(hg:Gl X x)(hm:X.mg x=none)(hv:bootBuiltins x=some u)(r:RelV v u)(hn:x≠"__name__":=by decide)(hd:(x == ("__debug__":Str))=false:=by decide):PE X (.Name x pos) (tC v):=
 fun _ _ _ H _ I h=>wF I hg hm hv ⟨v,H,I,r,h⟩ hn hd
variable {a b:Expr}{ta tb:TE}{pos:Pos}
def PC (X:Cx)(op:CmpOp)(a b:Expr)(t:TE):Prop:=
 ∀(pins:List (Addr×Obj)) (s:Shared) (σ:St) (H:Hp) (Q:VK),Inv X pins σ H s→t σ H Q→
  wpAny (model X.prog X.w) X.A (eval a X.env) (fun v s₁=>wpAny (model X.prog X.w) X.A (eval b X.env) (fun u s₂=>wpAny (model X.prog X.w) X.A (compareOp op v u) (EP X pins σ Q) X.xe s₂) X.xe s₁) X.xe s
def tB (t:TE):TT:=fun σ H Q=>t σ H fun x H1=>∃c,x=.bl c∧Q c H1
theorem zq0 {op:CmpOp}{t:TE}(h:PC X op a b t)(h1:behindInMarks op b=false:=by first|exact nobehind _ (by decide) (by decide)|rfl):PT X (.Compare a [op] [b] pos) (tB t):=by
 intro pins s σ H Q I hw
 refine wpAny_isTrue_Compare1 (thn (h pins s σ H _ I hw) fun v s1 h1=>thn h1 fun u s2 h2=>thn h2 fun c s3 ⟨x,H1,I1,r1,q1⟩=>?_) h1
 obtain⟨d,rfl,q⟩:=q1
 cases r1
 exact zy2 ⟨H1,I1,q⟩
theorem fe {e:Expr}{t:TE}(h:PE X e t)(he:∀whole,isTrue e X.env whole=(do let v ←whole;standAt e.pos;holding [v] (truthy v)):=by intro _;rfl):PT X e (tB t):=by
 intro pins s σ H Q I hw
 refine isTrue_plain (thn (h pins s σ H _ I hw) fun v s1 ⟨x,H1,I1,r1,q1⟩=>?_) (he _)
 obtain⟨d,rfl,q⟩:=q1
 cases r1
 exact zy2 ⟨H1,I1,q⟩
variable {tA tB':TT}{rest:List Expr}
def zr0 (t u:TT):TT:=fun σ H Q=>t σ H fun c H1=>if c=true then u σ H1 Q else Q false H1
def tOr (t u:TT):TT:=fun σ H Q=>t σ H fun c H1=>if c=true then Q true H1 else u σ H1 Q
def zq5 (t:TT):TT:=fun σ H Q=>t σ H fun c H1=>Q (!c) H1
theorem kj (ha:PT X a tA):PW X (.BoolOp .And [a] pos) tA:=by
 intro wh pins s σ H Q I h
 refine isTrue_and (thn (ha pins s σ H Q I h) fun c s1 e=>?_)
 cases c with
 |true=>exact isTrue_and_nil e
 |false=>exact e
theorem ml (ha:PT X a tA):PW X (.BoolOp .Or [a] pos) tA:=by
 intro wh pins s σ H Q I h
 refine isTrue_or (thn (ha pins s σ H Q I h) fun c s1 e=>?_)
 cases c with
 |false=>exact isTrue_or_nil e
 |true=>exact e
theorem gP (ha:PT X a tA)(hb:PW X (.BoolOp .And (b::rest) pos) tB'):PW X (.BoolOp .And (a::b::rest) pos) (zr0 tA tB'):=by
 intro wh pins s σ H Q I h
 refine isTrue_and (thn (ha pins s σ H _ I h) fun c s1 ⟨H1,I1,q1⟩=>?_)
 cases c with
 |true=>exact hb wh pins s1 σ H1 Q I1 q1
 |false=>exact⟨H1,I1,q1⟩
theorem dY (ha:PT X a tA)(hb:PW X (.BoolOp .Or (b::rest) pos) tB'):PW X (.BoolOp .Or (a::b::rest) pos) (tOr tA tB'):=by
 intro wh pins s σ H Q I h
 refine isTrue_or (thn (ha pins s σ H _ I h) fun c s1 ⟨H1,I1,q1⟩=>?_)
 cases c with
 |true=>exact⟨H1,I1,q1⟩
 |false=>exact hb wh pins s1 σ H1 Q I1 q1
theorem iU (ha:PT X a tA):PT X (.UnaryOp .Not a pos) (zq5 tA):=by
 intro pins s σ H Q I h
 exact isTrue_not (ha pins s σ H (fun c H1=>Q (!c) H1) I h)
def zk7 (ta tb:TE):TE:=fun σ H Q=>ta σ H fun x H1=>∃c,x=.bl c∧if c=true then tb σ H1 Q else Q (.bl false) H1
def zq3 (ta tb:TE):TE:=fun σ H Q=>ta σ H fun x H1=>∃c,x=.bl c∧if c=true then Q (.bl true) H1 else tb σ H1 Q
def zl6 (ta:TE):TE:=fun σ H Q=>ta σ H fun x H1=>∃c,x=.bl c∧Q (.bl (!c)) H1
theorem xM {op}{t:TE}(h:PE X a t):PE X (.BoolOp op [a] pos) t:=fun pins s σ H Q I hw=>BoolOp_one (h pins s σ H Q I hw)
theorem xi (ha:PE X a ta)(hb:PE X (.BoolOp .And (b::rest) pos) tb):PE X (.BoolOp .And (a::b::rest) pos) (zk7 ta tb):=by
 intro pins s σ H Q I h
 refine BoolOp_and (thn (ha pins s σ H _ I h) fun v s1 ⟨x,H1,I1,r1,q1⟩=>?_)
 obtain⟨c,rfl,q1⟩:=q1
 cases r1
 refine zy2 ?_
 cases c with
 |true=>exact hb pins s1 σ H1 Q I1 q1
 |false=>exact⟨.bl false,H1,I1,rfl,q1⟩
theorem aS (ha:PE X a ta)(hb:PE X (.BoolOp .Or (b::rest) pos) tb):PE X (.BoolOp .Or (a::b::rest) pos) (zq3 ta tb):=by
 intro pins s σ H Q I h
 refine BoolOp_or (thn (ha pins s σ H _ I h) fun v s1 ⟨x,H1,I1,r1,q1⟩=>?_)
 obtain⟨c,rfl,q1⟩:=q1
 cases r1
 refine zy2 ?_
 cases c with
 |false=>exact hb pins s1 σ H1 Q I1 q1
 |true=>exact⟨.bl true,H1,I1,rfl,q1⟩
theorem zi3 (ha:PE X a ta):PE X (.UnaryOp .Not a pos) (zl6 ta):=by
 intro pins s σ H Q I h
 refine UnaryOp_ (thn (ha pins s σ H _ I h) fun v s1 ⟨x,H1,I1,r1,q1⟩=>?_)
 obtain⟨c,rfl,q1⟩:=q1
 cases r1
 exact not_of (zy2 ⟨.bl (!c),H1,I1,rfl,q1⟩)
def tIf (t:TT)(ta tb:TE):TE:=fun σ H Q=>t σ H fun c H1=>if c=true then ta σ H1 Q else tb σ H1 Q
theorem dO {c:Expr}(hc:PT X c tA)(ha:PE X a ta)(hb:PE X b tb):PE X (.IfExp c a b pos) (tIf tA ta tb):=by
 intro pins s σ H Q I h
 refine wpAny_IfExp (thn (hc pins s σ H _ I h) fun d s1 ⟨H1,I1,q1⟩=>?_)
 cases d with
 |true=>exact ha pins s1 σ H1 Q I1 q1
 |false=>exact hb pins s1 σ H1 Q I1 q1
end
def SqL (K:PySem.W.Frag)(H:Hp)(a:Addr)(xs:List V):Prop:=
 Rd H a (.lst xs)∨
  ∃(o:Obj) (its:Array Value) (n:Nat),K.lookup a=some o∧o.cls=.type "list"∧o.dict=none∧o.data=.seq its n∧its.size≤sizeLine∧Vals xs its.toList
def SqT (K:PySem.W.Frag)(H:Hp)(a:Addr)(xs:List V):Prop:=
 Rd H a (.tup xs)∨
  ∃(o:Obj) (its:Array Value) (n:Nat),K.lookup a=some o∧o.cls=.type "tuple"∧o.data=.seq its n∧its.size≤sizeLine∧Vals xs its.toList
def zq6 :Value→Option V
 |.none=>some .non
 |.bool b=>some (.bl b)
 |.int i _=>some (.int i)
 |.str x _=>some (.str x)
 |.bytes b _=>some (.byt b)
 |.float b _=>some (.flt b)
 |.ref a=>some (.ref a)
 |.type n=>some (.ty n)
 |_=>none
theorem RelV.abs {x:V}{u:Value}(r:RelV x u):zq6 u=some x:=by
 cases x with
 |non=>cases r;rfl
 |bl _=>cases r;rfl
 |int _=>obtain⟨t,rfl⟩:=r;rfl
 |str _=>obtain⟨t,rfl⟩:=r;rfl
 |byt _=>obtain⟨t,rfl⟩:=r;rfl
 |flt _=>obtain⟨t,rfl⟩:=r;rfl
 |ref _=>cases r;rfl
 |ty _=>cases r;rfl
theorem RelV.inj {x y:V}{u:Value}(r:RelV x u)(q:RelV y u):x=y:=zv0 (r.abs.symm.trans q.abs)
theorem Vals.inj :∀{xs ys:List V} {us:List Value},Vals xs us→Vals ys us→xs=ys
 |_,_,_,.nil,.nil=>rfl
 |_,_,_,.cons r t,.cons r' t'=>by rw[r.inj r',Vals.inj t t']
section
variable {X:Cx}{pins:List (Addr×Obj)}{σ:St}{H:Hp}{s:Shared}{a:Addr}{xs ys:List V}
theorem SqL.of {K:PySem.W.Frag}(h:H a=some (.lst xs)):SqL K H a xs:=.inl (.inl h)
theorem SqT.of {K:PySem.W.Frag}(h:H a=some (.tup xs)):SqT K H a xs:=.inl (.inl h)
theorem Inv.list (I:Inv X pins σ H s)(h:SqL X.K H a xs):∃its:List Value,Vals xs its∧PlainL s.heap a its.toArray∧xs.length≤sizeLine:=by
 rcases h with h|⟨o,its,n,hk,hc,hd,hs,hz,r⟩
 ·obtain⟨z,its,n,r,e⟩:=h.ok I.hok
  exact⟨its,r,⟨_,n,e,rfl,rfl,rfl⟩,z⟩
 ·refine⟨its.toList,r,⟨o,n,I.kIn a o hk,hc,hd,by simpa using hs⟩,?_⟩
  have e:=r.length
  simp only[zG8] at e
  omega
theorem Inv.tuple (I:Inv X pins σ H s)(h:SqT X.K H a xs):∃its:List Value,Vals xs its∧IsTup s.heap a its.toArray∧xs.length≤sizeLine:=by
 rcases h with h|⟨o,its,n,hk,hc,hs,hz,r⟩
 ·obtain⟨z,its,r,p⟩:=h.ok I.hok
  exact⟨its,r,p,z⟩
 ·refine⟨its.toList,r,⟨o,I.kIn a o hk,hc,n,by simpa using hs⟩,?_⟩
  have e:=r.length
  simp only[zG8] at e
  omega
theorem Inv.list_inj (I:Inv X pins σ H s)(h:SqL X.K H a xs)(h':SqL X.K H a ys):xs=ys:=by
 obtain⟨its,r,⟨o,n,e,_,_,d⟩,_⟩:=I.list h
 obtain⟨its',r',⟨o',n',e',_,_,d'⟩,_⟩:=I.list h'
 rw[e] at e';cases e'
 rw[d] at d'
 injection d' with d1 _
 have:its=its':=by simpa using congrArg Array.toList d1
 subst this
 exact r.inj r'
end
abbrev Cx.wish (X:Cx)(E:Value→Shared→Prop):Cx:={X with xe:=E}
abbrev Cx.nox (X:Cx):Cx:=X.wish fun _ _=>False
theorem Cx.Ok.wish {X:Cx}(ok:X.Ok)(E:Value→Shared→Prop):(X.wish E).Ok:=
 ⟨ok.mod,ok.kind,ok.glob,ok.blt,ok.above,ok.inj,ok.has,ok.cab,ok.hd,ok.frames,ok.stk,ok.exf,ok.bs,ok.bsz,ok.noex,ok.exfs,ok.funs,ok.frf⟩
theorem Cx.Ok.unwish {X:Cx}{E:Value→Shared→Prop}(ok:(X.wish E).Ok):X.Ok:=
 ⟨ok.mod,ok.kind,ok.glob,ok.blt,ok.above,ok.inj,ok.has,ok.cab,ok.hd,ok.frames,ok.stk,ok.exf,ok.bs,ok.bsz,ok.noex,ok.exfs,ok.funs,ok.frf⟩
section
variable {X:Cx}{pins:List (Addr×Obj)}{σ:St}{H:Hp}{s:Shared}{E:Value→Shared→Prop}
theorem Inv.wish (I:Inv X pins σ H s)(E:Value→Shared→Prop):Inv (X.wish E) pins σ H s:=⟨I.ok.wish E,I.os,I.bare,I.base,I.loc,I.cell,I.free,I.freeC,I.pin,I.hok,I.len⟩
theorem Inv.unwish (I:Inv (X.wish E) pins σ H s):Inv X pins σ H s:=⟨I.ok.unwish,I.os,I.bare,I.base,I.loc,I.cell,I.free,I.freeC,I.pin,I.hok,I.len⟩
theorem SP.unwish {D:Ends}{f:Flow}{s':Shared}(h:SP (X.wish E) pins D f s'):SP X pins D f s':=by
 cases f with
 |next=>obtain⟨σ',H',I,q⟩:=h;exact⟨σ',H',I.unwish,q⟩
 |brk=>obtain⟨σ',H',I,q⟩:=h;exact⟨σ',H',I.unwish,q⟩
 |cont=>obtain⟨σ',H',I,q⟩:=h;exact⟨σ',H',I.unwish,q⟩
 |ret u=>obtain⟨v,σ',H',I,r,q⟩:=h;exact⟨v,σ',H',I.unwish,r,q⟩
theorem PSs.nox {st:List Stmt}{t:TS}(h:PSs X.nox st t):PSs X st t:=fun pins s σ H D I hw=>
 zv6 (h pins s σ H D (I.wish _) hw) (fun _ _ q=>q.unwish) fun _ _ z=>False.elim z
end
section
variable {X:Cx}{st:Stmt}{rest:List Stmt}{t u:TS}{e:Expr}{te:TE}{pos:Pos}
def zm1 :TS:=fun D σ H=>D.nx σ H
def zl3 (t u:TS):TS:=fun D σ H=>t {D with nx:=u D} σ H
theorem yu :PSs X [] zm1:=fun _ _ σ H _ I h=>zG0 ⟨σ,H,I,h⟩
theorem zV (h1:PS X st t)(h2:PSs X rest u):PSs X (st::rest) (zl3 t u):=by
 intro pins s σ H D I h
 refine wpAny_execs_cons (thn (h1 pins s σ H {D with nx:=u D} I h) fun f s1 q=>?_)
 cases f with
 |next=>
  obtain⟨σ',H',I',q⟩:=q
  exact h2 pins s1 σ' H' D I' q
 |ret v=>exact q
 |brk=>exact q
 |cont=>exact q
theorem zv (h1:PS X st t):PSs X [st] t:=by
 intro pins s σ H D I h
 refine wpAny_execs_cons (thn (h1 pins s σ H D I h) fun f s1 q=>?_)
 cases f with
 |next=>exact zG0 q
 |ret v=>exact q
 |brk=>exact q
 |cont=>exact q
theorem Inv.quiet {pins:List (Addr×Obj)}{σ:St}{H:Hp}{s:Shared}(I:Inv X pins σ H s):interactive X.env=false:=by simp[interactive,I.ok.kind]
def zo7 (te:TE):TS:=fun D σ H=>te σ H fun _ H1=>D.nx σ H1
theorem jc (he:PE X e te)(hs:swapsWith e none pos.line X.env=pure false:=by rfl):PS X (.Expr e pos) (zo7 te):=by
 intro pins s σ H D I h
 exact wpAny_Expr_any (thn (he pins s σ H _ I h) fun v s1 ⟨x,H1,I1,r1,q1⟩=>⟨σ,H1,I1,q1⟩) I.quiet hs
def zq4 (te:TE):TS:=fun D σ H=>te σ H D.rt
theorem zA (he:PE X e te):PS X (.Return (some e) pos) (zq4 te):=by
 intro pins s σ H D I h
 exact wpAny_Return_some (thn (he pins s σ H _ I h) fun v s1 ⟨x,H1,I1,r1,q1⟩=>⟨x,σ,H1,I1,r1,q1⟩)
def zs0 (c:TT)(t u:TS):TS:=fun D σ H=>c σ H fun b H1=>if b=true then t D σ H1 else u D σ H1
theorem xI {c:Expr}{a b:List Stmt}{tc:TT}(hc:PT X c tc)(ha:PSs X a t)(hb:PSs X b u):PS X (.If c a b pos) (zs0 tc t u):=by
 intro pins s σ H D I h
 refine wpAny_If (thn (hc pins s σ H _ I h) fun d s1 ⟨H1,I1,q1⟩=>?_)
 cases d with
 |true=>exact ha pins s1 σ H1 D I1 q1
 |false=>exact hb pins s1 σ H1 D I1 q1
end
abbrev TG :=V→St→Hp→(St→Hp→Prop)→Prop
abbrev TGs :=List V→St→Hp→(St→Hp→Prop)→Prop
def PG (X:Cx)(target:Expr)(t:TG):Prop:=
 ∀(pins:List (Addr×Obj)) (s:Shared) (σ:St) (H:Hp) (v:V) (u:Value) (Q:St→Hp→Prop),Inv X pins σ H s→RelV v u→t v σ H Q→
  wpAny (model X.prog X.w) X.A (assign target X.env u) (fun _ s'=>∃σ' H',Inv X pins σ' H' s'∧Q σ' H') X.xe s
def PGs (X:Cx)(ts:List Expr)(t:TGs):Prop:=
 ∀(pins:List (Addr×Obj)) (s:Shared) (σ:St) (H:Hp) (vs:List V) (us:List Value) (Q:St→Hp→Prop),Inv X pins σ H s→Vals vs us→t vs σ H Q→
  wpAny (model X.prog X.w) X.A (assignInOrder ((assignEach ts X.env).map (·.2)) us) (fun _ s'=>∃σ' H',Inv X pins σ' H' s'∧Q σ' H') X.xe s
abbrev zc7 :=V→V→V→Hp→(Hp→Prop)→Prop
def zn4 (X:Cx)(t:zc7):Prop:=
 ∀(pins:List (Addr×Obj)) (s:Shared) (σ:St) (H:Hp) (o i v:V) (ov iv u:Value) (Q:Hp→Prop),Inv X pins σ H s→RelV o ov→RelV i iv→RelV v u→t o i v H Q→
  wpAny (model X.prog X.w) X.A (setItem ov iv u) (fun _ s'=>∃H',Inv X pins σ H' s'∧Q H') X.xe s
section
variable {X:Cx}{pos:Pos}
def rP (i:Nat):TG:=fun v σ H Q=>Q (σ.set i (some v)) H
theorem zL {i:Nat}{x:Str}(hN:X.N.Nodup)(hi:X.N[i]?=some x)(hx:Loc X.env.scope x)(hf:X.fn x=true∨X.env.scope.names.lookup x=some .local:=by first|exact .inl rfl|exact .inr rfl|assumption):PG X (.Name x pos) (rP i):=by
 intro pins s σ H v u Q I r h
 exact wpAny_assign_Name (ou I hN hi hx r (fun s' I'=>⟨_,H,I',h⟩) hf)
def zk4 :TGs:=fun vs σ H Q=>vs=[]∧Q σ H
def aR (t:TG)(u:TGs):TGs:=fun vs σ H Q=>∃v r,vs=v::r∧t v σ H fun σ' H'=>u r σ' H' Q
theorem uf :PGs X [] zk4:=by
 intro pins s σ H vs us Q I r h
 obtain⟨e,h⟩:=h
 subst e
 cases r
 exact assignInOrder_nil ⟨σ,H,I,h⟩
theorem xf {e:Expr}{es:List Expr}{t:TG}{u:TGs}(h1:PG X e t)(h2:PGs X es u)
  (hs:(assignEach (e::es) X.env).map (·.2)=assign e X.env::(assignEach es X.env).map (·.2):=by rfl):PGs X (e::es) (aR t u):=by
 intro pins s σ H vs us Q I r h
 obtain⟨v,vr,e1,h⟩:=h
 subst e1
 cases r with
 |cons r rr=>
  rw[hs]
  refine assignInOrder_cons (thn (h1 pins s σ H _ _ _ I r h) fun _ s1 ⟨σ1,H1,I1,q1⟩=>?_)
  exact h2 pins s1 σ1 H1 _ _ Q I1 rr q1
def zb6 (K:PySem.W.Frag)(n:Nat)(t:TGs):TG:=fun v σ H Q=>∃a xs,v=.ref a∧SqT K H a xs∧xs.length=n∧t xs σ H Q
theorem zb7 {es:List Expr}{k:Nat}{t:TGs}{n:Nat}(hc:X.calm=true)(h:PGs X es t)
  (hn:(assignEach es X.env).length=n:=by rfl) (hst:(assignEach es X.env).findIdx? (·.1)=none:=by rfl):PG X (.Tuple es k pos) (zb6 X.K n t):=by
 intro pins s σ H v u Q I r hw
 obtain⟨a,xs,e1,hq,hl,hw⟩:=hw
 subst e1
 cases r
 obtain⟨its,rv,ht,hz⟩:=I.tuple hq
 refine assign_Tuple_tuple (I.ok.hd hc) ht (by simp[hn,←hl,rv.length]) hst fun h' hx=>?_
 have I1:Inv X pins σ H {s with heap:=h'}:=I.kept (t':=s.toks) fun b o e=>hx b o (zu4 (zt3 e)) e
 exact h pins _ σ H xs _ Q I1 (by simpa using rv) hw
def zn7 (to ti:TE)(t:zc7):TG:=fun v σ H Q=>to σ H fun o H1=>ti σ H1 fun i H2=>t o i v H2 fun H3=>Q σ H3
theorem mV {o i:Expr}{to ti:TE}{t:zc7}(ho:PE X o to)(hi:PE X i ti)(hs:zn4 X t)
  (ha:∀v,assign (.Subscript o i pos) X.env v=(do
   let ov ←holding [v] (eval o X.env)
   let iv ←holding [v,ov] (eval i X.env)
   standAt pos
   holding [v,ov,iv] (setItem ov iv v)
   release [v,ov,iv] []):=by intro _;rfl):PG X (.Subscript o i pos) (zn7 to ti t):=by
 intro pins s σ H v u Q I r h
 rw[ha]
 refine zs3 (zx3 (thn (ho pins s σ H _ I h) fun ov s1 ⟨x,H1,I1,r1,q1⟩=>?_))
 refine zs3 (zx3 (thn (hi pins s1 σ H1 _ I1 q1) fun iv s2 ⟨y,H2,I2,r2,q2⟩=>?_))
 refine zs3 (wpAny_standAt (zs3 (zx3 (thn (hs pins s2 σ H2 x y v ov iv u _ I2 r1 r2 r q2) fun _ s3 ⟨H3,I3,q3⟩=>?_))))
 exact wpAny_release ⟨σ,H3,I3,q3⟩
def zd5 (te:TE)(g:TG):TS:=fun D σ H=>te σ H fun x H1=>g x σ H1 D.nx
theorem pK {tg e:Expr}{te:TE}{g:TG}(he:PE X e te)(hg:PG X tg g)(hs:swapsWithSole [tg] e pos.line X.env=pure false:=by rfl)(hw:swappedStores [tg] e X.env=pure none:=by rfl)
  (h1:(assignEach [tg] X.env).map (·.2)=[assign tg X.env]:=by rfl):PS X (.Assign [tg] e pos) (zd5 te g):=by
 intro pins s σ H D I h
 refine wpAny_Assign_stores (thn (he pins s σ H _ I h) fun v s1 ⟨x,H1,I1,r1,q1⟩=>?_) hs hw
 rw[h1]
 exact thn (hg pins s1 σ H1 x v _ I1 r1 q1) fun _ s2 q=>q
theorem va {i:Nat}{x:Str}{e:Expr}{te:TE}{pos':Pos}(hN:X.N.Nodup)(hi:X.N[i]?=some x)(hx:Loc X.env.scope x)(he:PE X e te)(hs:swapsWith e (some (.Name x pos')) pos.line X.env=pure false:=by rfl)(hf:X.fn x=true∨X.env.scope.names.lookup x=some .local:=by first|exact .inl rfl|exact .inr rfl|assumption):
  PS X (.Assign [.Name x pos'] e pos) (zd5 te (rP i)):=by
 intro pins s σ H D I h
 refine wpAny_Assign_Name (thn (he pins s σ H _ I h) fun v s1 ⟨y,H1,I1,r1,q1⟩=>?_) hs
 exact ou I1 hN hi hx r1 (fun s2 I2=>⟨_,H1,I2,q1⟩) hf
end
section
variable {X:Cx}{pos:Pos}
def ze4 (c:TT)(tb:TS):TS:=fun D σ H=>∃W:Nat→St→Hp→Prop,(∃m,W m σ H)∧∀m σ H,W m σ H→
 c σ H fun b H1=>if b=true then ∃N:St→Hp→Prop,(∀σ' H',N σ' H'→∃m',m'<m∧W m' σ' H')∧tb {D with nx:=N,ct:=N,bk:=D.nx} σ H1 else D.nx σ H1
theorem fg {c:Expr}{body:List Stmt}{tc:TT}{tb:TS}(hp:PassesOwn (model X.prog X.w) X.A X.env X.xe)(hc:PT X c tc)(hb:PSs X body tb):PS X (.While c body [] pos) (ze4 tc tb):=by
 intro pins s σ H D I h
 obtain⟨W,⟨m0,w0⟩,turn⟩:=h
 refine wpAny_While (codeAny_whileLoop (fun n s'=>∃σ' H',Inv X pins σ' H' s'∧W n σ' H') ?_ m0 ⟨σ,H,I,w0⟩)
 rintro n s1 ⟨σ1,H1,I1,w1⟩
 refine zA1 hp (thn (hc pins s1 σ1 H1 _ I1 (turn n σ1 H1 w1)) fun b s2 ⟨H2,I2,q2⟩=>?_)
 cases b with
 |true=>
  obtain⟨N,hN,q2⟩:=q2
  rw[if_pos rfl]
  refine zA1 hp (thn (hb pins s2 σ1 H2 _ I2 q2) fun f s3 q3=>?_)
  cases f with
  |next=>
   obtain⟨σ3,H3,I3,n3⟩:=q3
   obtain⟨m',hm,w3⟩:=hN σ3 H3 n3
   exact⟨m',hm,σ3,H3,I3,w3⟩
  |cont=>
   obtain⟨σ3,H3,I3,n3⟩:=q3
   obtain⟨m',hm,w3⟩:=hN σ3 H3 n3
   exact⟨m',hm,σ3,H3,I3,w3⟩
  |brk=>exact q3
  |ret v=>exact q3
 |false=>
  rw[if_neg zu2]
  exact zG0 ⟨σ1,H2,I2,q2⟩
end
structure It where
 go:Nat→Hp→Prop
 yld:Nat→Hp→V→Hp→Prop
 stop:Nat→Hp→Prop
def xj (X:Cx)(pins:List (Addr×Obj))(H:Hp)(b:Addr):Prop:=
 H b=none∧b≠X.env.locals∧b∉X.fs∧(b∈X.ex∨X.s₀.heap.objs.size≤b)∧(∀x c,X.env.cells.lookup x=some c→c≠b)∧∀p∈X.pn++pins,p.1≠b
theorem Inv.fpOk {X:Cx}{pins:List (Addr×Obj)}{σ:St}{H H':Hp}{s:Shared}{b:Addr}(I:Inv X pins σ H s)(hb:s.heap.objs.size≤b)(hn:H' b=none):xj X pins H' b:=by
 refine⟨hn,zA9 (zu5 I.lt hb),I.nofs hb,.inr (zw6 I.sz hb),fun x c e z=>?_,fun p hp z=>?_⟩
 ·obtain⟨v,q⟩:=I.cell x c e
  exact absurd (zu5 q.lt (by rw[z];exact hb)) (zy7 _)
 ·exact absurd (zu5 (zt3 (I.pin p hp).1) (by rw[z];exact hb)) (zy7 _)
structure Turn (P:Program)(w:World)(K:PySem.W.Frag)(tg:Expr)(J:It)(fp:List Addr)(it:Addr)(tn:Nat→Heap→Prop):Prop where
 mem:it∈fp
 obj:∀i h,tn i h→∀b∈fp,∃o,h.get? b=some o∧∀v,o.data≠.cell v
 keep:∀i h h',tn i h→(∀b∈fp,∀o,h.get? b=some o→h'.get? b=some o)→tn i h'
 item:∀(X:Cx),X.prog=P→X.w=w→X.K=K→X.calm=true→∀(i:Nat) (pins:List (Addr×Obj)) (s:Shared) (σ:St) (H:Hp) (E:Value→Shared→Prop),Inv X pins σ H s→(∀b∈fp,xj X pins H b)→tn i s.heap→J.go i H→
  wpAny (model P w) X.A (pyNext (.ref it)) (fun r s1=>∃u,r=some u∧
   wpAny (model P w) X.A (letOwnedTupleGo tg (.ref it) u) (fun _ s2=>∃x H',Inv X pins σ H' s2∧RelV x u∧J.yld i H x H'∧tn (i+1) s2.heap∧∀b∈fp,H' b=none) E s1) E s
 done:∀(X:Cx),X.prog=P→X.w=w→X.K=K→X.calm=true→∀(i:Nat) (pins:List (Addr×Obj)) (s:Shared) (σ:St) (H:Hp) (E:Value→Shared→Prop),Inv X pins σ H s→(∀b∈fp,xj X pins H b)→tn i s.heap→J.stop i H→
  wpAny (model P w) X.A (pyNext (.ref it)) (fun r s1=>r=none∧Inv X pins σ H s1) E s
 self:∀(A:Around) (i:Nat) (s:Shared) (Q:Value→Shared→Prop) (E:Value→Shared→Prop),tn i s.heap→Q (.ref it) s→wpAny (model P w) A (pyIter (.ref it)) Q E s
abbrev TI :=St→Hp→(It→Hp→Prop)→Prop
def PIE (X:Cx)(pins:List (Addr×Obj))(σ:St)(tg:Expr)(R:It→Hp→Prop)(itv:Value)(s2:Shared):Prop:=
 ∃(it:Addr) (fp:List Addr) (tn:Nat→Heap→Prop) (J:It) (H':Hp),itv=.ref it∧Inv X pins σ H' s2∧Turn X.prog X.w X.K tg J fp it tn∧tn 0 s2.heap∧(∀b∈fp,xj X pins H' b)∧R J H'
def PI (X:Cx)(tg iter:Expr)(wi:TI):Prop:=
 ∀(pins:List (Addr×Obj)) (s:Shared) (σ:St) (H:Hp) (R:It→Hp→Prop),Inv X pins σ H s→wi σ H R→
  wpAny (model X.prog X.w) X.A (eval iter X.env) (fun v s1=>wpAny (model X.prog X.w) X.A (pyIter v) (PIE X pins σ tg R) X.xe s1) X.xe s
theorem fL {M:Model}{A:Around}{E:Value→Shared→Prop}{s:Shared}{tg:Expr}{it:Addr}{u:Value}{o:Obj}{n:String}{vs:Array Value}{Q:Unit→Shared→Prop}(ho:s.heap.get? it=some o)(hc:o.cls=.type n)(hd:o.data=.fields vs)
  (hn:["enumerate","zip","dict_itemiterator","dict_reverseitemiterator","odict_iterator","itertools.zip_longest","itertools.pairwise"].contains n=false) (hQ:Q () s):wpAny M A (letOwnedTupleGo tg (.ref it) u) Q E s:=by
 unfold letOwnedTupleGo
 cases tg<;>first
  |exact zt2 hQ
  |(cases u<;>first
    |exact zt2 hQ
    |(refine zs3 (wpAny_load ho ?_)
      rw[hc,hd]
      show wpAny M A (if (["enumerate","zip","dict_itemiterator","dict_reverseitemiterator","odict_iterator","itertools.zip_longest","itertools.pairwise"].contains n&&vs[0]? == some (rawInt _))=true then _ else _) Q E s
      rw[if_neg (by intro h;rw[hn,zy9] at h;cases h)]
      exact zt2 hQ))
def Itl (K:PySem.W.Frag)(a:Addr):It:=
 ⟨fun i H=>∃xs x,SqL K H a xs∧xs[i]?=some x,fun i H x H'=>H'=H∧∀xs,SqL K H a xs→xs[i]?=some x,fun i H=>∃xs,SqL K H a xs∧xs.length≤i⟩
def Itr (lo:Int)(n:Nat):It:=⟨fun i _=>i<n,fun i H x H'=>H'=H∧x=.int (lo+i),fun i _=>n≤i⟩
theorem jj {P:Program}{w:World}{K:PySem.W.Frag}{tg:Expr}(a it:Addr):Turn P w K tg (Itl K a) [it] it (fun i h=>h.IsListIter it a i) where
 mem:=by simp
 obj:=fun i h st b hb=>by
  have e:b=it:=by simpa using hb
  subst e
  obtain⟨o,e,c,d⟩:=st
  exact⟨o,e,fun v z=>by rw[d] at z;cases z⟩
 keep:=fun i h h' st k=>st.at fun o e=>k it (by simp) o e
 item:=by
  intro X hP hw hK hc i pins s σ H E I hf st hg
  subst hP hw hK
  obtain⟨xs,x,hq,hx⟩:=hg
  obtain⟨its,rv,p,hz⟩:=I.list hq
  obtain⟨u,hu,ru⟩:=rv.get hx
  obtain⟨f0,f1,f2,f3,f4,f5⟩:=hf it (by simp)
  refine wpAny_pyNext_list_item st p.isList (x:=u) (by simpa using hu) fun h' st' sb=>?_
  have I1:Inv X pins σ H {s with heap:=h'}:=I.turned (t':=s.toks) (fun b o hb e=>(sb.2 b hb).trans e) f0 f1 f3 f4 f5
  obtain⟨o,e,c,d⟩:=id st'
  exact⟨u,rfl,fL (s:={s with heap:=h'}) e c d (by decide) ⟨x,H,I1,ru,⟨rfl,fun ys hy=>by rw[I.list_inj hy hq];exact hx⟩,st',fun b hb=>(hf b hb).1⟩⟩
 done:=by
  intro X hP hw hK hc i pins s σ H E I hf st hg
  subst hP hw hK
  obtain⟨xs,hq,hx⟩:=hg
  obtain⟨its,rv,p,hz⟩:=I.list hq
  obtain⟨f0,f1,f2,f3,f4,f5⟩:=hf it (by simp)
  have hl:=rv.length
  exact wpAny_pyNext_list_end (I.ok.hd hc) st p.isList (by simp;omega) fun h' eb=>⟨rfl,I.turned (t':=s.toks) (fun b o hb e=>eb b o hb e) f0 f1 f3 f4 f5⟩
 self:=fun _ _ _ _ _ st h=>wpAny_pyIter_listiter st h
theorem mm {P:Program}{w:World}{K:PySem.W.Frag}{tg:Expr}(it:Addr)(lo:Int)(n:Nat):Turn P w K tg (Itr lo n) [it] it (fun i h=>IsRangeIter h it (lo+(i:Nat)*1) ((n:Int)-(i:Nat)) 1) where
 mem:=by simp
 obj:=fun i h st b hb=>by
  have e:b=it:=by simpa using hb
  subst e
  exact⟨_,st,fun v z=>by
   have z':Data.fields _=Data.cell v:=z
   cases z'⟩
 keep:=fun i h h' st k=>k it (by simp) _ st
 item:=by
  intro X hP hw hK hc i pins s σ H E I hf st hg
  subst hP hw hK
  obtain⟨f0,f1,f2,f3,f4,f5⟩:=hf it (by simp)
  have W:=Walks.range (prog:=X.prog) (w:=X.w) (I.ok.hd hc) it lo 1 n
  refine W.item i s _ _ hg st fun v h' tk hv st' kk=>?_
  obtain⟨t,rfl⟩:=hv
  have I1:Inv X pins σ H {s with heap:=h',toks:=tk}:=I.turned (fun b o hb e=>kk b o (by simpa using hb) e) f0 f1 f3 f4 f5
  refine⟨_,rfl,fL (s:={s with heap:=h',toks:=tk}) (n:="range_iterator") st' rfl rfl (by decide) ⟨.int (lo+i),H,I1,⟨t,?_⟩,⟨rfl,rfl⟩,st',fun b hb=>(hf b hb).1⟩⟩
  rw[Int.mul_one]
 done:=by
  intro X hP hw hK hc i pins s σ H E I hf st hg
  subst hP hw hK
  obtain⟨f0,f1,f2,f3,f4,f5⟩:=hf it (by simp)
  exact wpAny_pyNext_range_end (I.ok.hd hc) st (by have:n≤i:=hg;omega) fun h' eb=>⟨rfl,I.turned (t':=s.toks) (fun b o hb e=>eb b o hb e) f0 f1 f3 f4 f5⟩
 self:=fun _ _ _ _ _ st h=>wpAny_pyIter_rangeiter st h
section
variable {X:Cx}{tg:Expr}
def zm0 (K:PySem.W.Frag)(tl:TE):TI:=fun σ H R=>tl σ H fun x H1=>∃a,x=.ref a∧(∃xs,SqL K H1 a xs)∧R (Itl K a) H1
theorem kQ {l:Expr}{tl:TE}(hl:PE X l tl):PI X tg l (zm0 X.K tl):=by
 intro pins s σ H R I h
 refine thn (hl pins s σ H _ I h) fun v s1 ⟨x,H1,I1,r1,q1⟩=>?_
 obtain⟨a,e,⟨xs,hq⟩,q⟩:=q1
 subst e
 cases r1
 obtain⟨its,rv,p,hz⟩:=I1.list hq
 refine zE6 p.isList ?_
 refine⟨s1.heap.objs.size,[s1.heap.objs.size],_,_,H1,rfl,I1.kept (t':=s1.toks) fun b o e=>zs5 _ e,jj a _,⟨_,zt8 _ rfl,rfl,rfl⟩,fun b hb=>?_,q⟩
 have e:b=s1.heap.objs.size:=by simpa using hb
 subst e
 exact I1.fpOk (zs9 _) (I1.hok.fresh (zs9 _))
theorem iZ {pins:List (Addr×Obj)}{σ:St}{H:Hp}{s:Shared}{R:It→Hp→Prop}{E:Value→Shared→Prop}{lo hi:Int}{t u v:Tok}{tk:Nat}(I:Inv X pins σ H s)(h1:-(2 ^ 62)≤lo)(h2:lo<2 ^ 62)(h3:-(2 ^ 62)≤hi)(h4:hi<2 ^ 62)
  (q:R (Itr lo (hi-lo).toNat) H):wpAny (model X.prog X.w) X.A (pyIter (.ref s.heap.objs.size)) (PIE X pins σ tg R) E {s with heap:=s.heap.push {cls:=.type "range",data:=.fields #[.int lo t,.int hi u,.int 1 v]},toks:=tk}:=by
 refine wpAny_pyIter_range (IsRange.new ..) (small_one h1 h2 h3 h4) ?_
 have I1:Inv X pins σ H {s with heap:=s.heap.push {cls:=.type "range",data:=.fields #[.int lo t,.int hi u,.int 1 v]},toks:=tk}:=I.kept fun b o e=>zs5 _ e
 refine⟨(s.heap.push {cls:=.type "range",data:=.fields #[.int lo t,.int hi u,.int 1 v]}).objs.size,[(s.heap.push {cls:=.type "range",data:=.fields #[.int lo t,.int hi u,.int 1 v]}).objs.size],_,_,H,rfl,
  I1.kept (t':=tk) fun b o e=>zs5 _ e,mm _ lo (hi-lo).toNat,?_,fun b hb=>?_,q⟩
 ·have e1:lo+((0:Nat):Int)*1=lo:=by simp
  have e2:(((hi-lo).toNat:Nat):Int)-((0:Nat):Int)=Builtin.Range.rangeSize lo hi 1:=by rw[rangeSize_one];split<;>omega
  show IsRangeIter _ _ (lo+((0:Nat):Int)*1) ((((hi-lo).toNat:Nat):Int)-((0:Nat):Int)) 1
  rw[e1,e2]
  exact zt8 _ rfl
 ·have e:b=(s.heap.push {cls:=.type "range",data:=.fields #[.int lo t,.int hi u,.int 1 v]}).objs.size:=by simpa using hb
  subst e
  exact I1.fpOk (zs9 _) (I1.hok.fresh (zs9 _))
def zm5 (ta:TA):TI:=fun σ H R=>ta σ H fun vs H1=>∃j:Int,vs=[.int j]∧-(2 ^ 62)≤j∧j<2 ^ 62∧R (Itr 0 j.toNat) H1
theorem ji {a:Expr}{ta:TA}{p pos:Pos}(hg:Gl X "range")(hm:X.mg "range"=none)(ha:PA X [a] ta)(hs:starEach [a] X.env=[(false,eval a X.env)]:=by rfl):PI X tg (.Call (.Name "range" p) [a] [] pos) (zm5 ta):=by
 intro pins s σ H R I h
 refine Call_ (wF I hg hm boot_range (zx1 (thn (ha pos pins s σ H _ I h) fun us s1 ⟨vs,H1,I1,r1,q1⟩=>?_) hs rfl))
 obtain⟨j,e,q1,q2,q⟩:=q1
 subst e
 cases r1 with
 |cons r rr=>
  cases rr
  obtain⟨t,rfl⟩:=r
  exact call_range_1 (iZ I1 (by omega) (by omega) q1 q2 (by simpa using q))
def zr2 (wi:TI)(g:TG)(tb:TS):TS:=fun D σ H=>wi σ H fun J H1=>∃W:Nat→Nat→St→Hp→Prop,(∃m,W 0 m σ H1)∧∀i m σ H,W i m σ H→
 (J.stop i H∧D.nx σ H)∨(J.go i H∧∃N:St→Hp→Prop,(∀σ' H',N σ' H'→∃m',m'<m∧W (i+1) m' σ' H')∧∀x H',J.yld i H x H'→g x σ H' fun σ2 H2=>tb {D with nx:=N,ct:=N,bk:=D.nx} σ2 H2)
def sV (fp:List Addr)(h:Heap):List (Addr×Obj):=fp.filterMap fun b=>(h.get? b).map fun o=>(b,o)
theorem wu {fp:List Addr}{h:Heap}{b:Addr}{o:Obj}(hb:b∈fp)(e:h.get? b=some o):(b,o)∈sV fp h:=List.mem_filterMap.mpr ⟨b,hb,by rw[e];rfl⟩
theorem iL {fp:List Addr}{h:Heap}{p:Addr×Obj}(hp:p∈sV fp h):p.1∈fp∧h.get? p.1=some p.2:=by
 obtain⟨b,hb,e⟩:=List.mem_filterMap.mp hp
 cases q:h.get? b with
 |none=>rw[q] at e;cases e
 |some o=>
  rw[q] at e
  have e':(b,o)=p:=zv0 e
  subst e'
  exact⟨hb,q⟩
theorem Inv.pinned {pins:List (Addr×Obj)}{σ:St}{H:Hp}{s:Shared}{fp:List Addr}(I:Inv X pins σ H s)(hf:∀b∈fp,xj X pins H b)(ho:∀b∈fp,∃o,s.heap.get? b=some o∧∀v,o.data≠.cell v):Inv X (pins++sV fp s.heap) σ H s:=
 I.pins_of fun p hp=>(zw7.mp hp).elim (fun z=>I.pin p (zu6 _ z)) fun z=>by
  obtain⟨hb,e⟩:=iL z
  obtain⟨f0,f1,f2,_⟩:=hf p.1 hb
  obtain⟨o,e',d⟩:=ho p.1 hb
  rw[e] at e';cases e'
  exact⟨e,f0,f1,f2,d⟩
theorem Inv.unpinned {pins pl:List (Addr×Obj)}{σ:St}{H:Hp}{s:Shared}(I:Inv X (pins++pl) σ H s):Inv X pins σ H s:=I.pins_of fun p hp=>I.pin p (zu6 _ (zz2 _ hp))
theorem zd6 {iter:Expr}{body:List Stmt}{wi:TI}{g:TG}{tb:TS}{pos:Pos}(hp:PassesOwn (model X.prog X.w) X.A X.env X.xe)(hc:X.calm=true)(hi:PI X tg iter wi)(hg:PG X tg g)(hb:PSs X body tb)
  (hs:∀x,foldedSetIterable iter X.env x=pure x:=by intro _;rfl):PS X (.For tg iter body [] pos) (zr2 wi g tb):=by
 intro pins s σ H D I h
 refine wpAny_For (thn (hi pins s σ H _ I h) fun v s1 h1=>thn h1 fun itv s2 h2=>?_) hs
 obtain⟨it,fp,tn,J,H2,e,I2,T,st2,f2,W,⟨m0,w0⟩,turn⟩:=h2
 subst e
 -- what stays true of the iterator's objects through the loop
 have stat:∀{H':Hp},(∀b∈fp,H' b=none)→∀b∈fp,xj X pins H' b:=fun hn b hb=>⟨hn b hb,(f2 b hb).2⟩
 refine codeAny_forLoop_any (fun n s'=>∃i σ' H',Inv X pins σ' H' s'∧tn i s'.heap∧(∀b∈fp,H' b=none)∧W i n σ' H') ?_ m0 ⟨0,σ,H2,I2,st2,fun b hb=>(f2 b hb).1,w0⟩
 rintro n s3 ⟨i,σ3,H3,I3,st3,fr3,w3⟩
 rcases turn i n σ3 H3 w3 with ⟨stop,qn⟩|⟨go,N,hN,step⟩
 ·refine zA1 hp (thn (T.done X rfl rfl rfl hc i pins s3 σ3 H3 X.xe I3 (stat fr3) st3 stop) fun r s4 ⟨hr,I4⟩=>?_)
  subst hr
  exact zG0 ⟨σ3,H3,I4,qn⟩
 ·refine zA1 hp (thn (T.item X rfl rfl rfl hc i pins s3 σ3 H3 X.xe I3 (stat fr3) st3 go) fun r s4 ⟨u,hr,h4⟩=>?_)
  subst hr
  refine zA1 hp (thn h4 fun _ s5 ⟨x,H5,I5,r5,y5,st5,fr5⟩=>?_)
  have I5':=I5.pinned (stat fr5) (T.obj _ _ st5)
  refine zA1 hp (thn (hg _ s5 σ3 H5 x u _ I5' r5 (step x H5 y5)) fun _ s6 ⟨σ6,H6,I6,q6⟩=>?_)
  refine zA1 hp (thn (hb _ s6 σ6 H6 _ I6 q6) fun f s7 q7=>?_)
  have again:∀{σ7:St} {H7:Hp},Inv X (pins++sV fp s5.heap) σ7 H7 s7→N σ7 H7→∃m,m<n∧∃i σ' H',Inv X pins σ' H' s7∧tn i s7.heap∧(∀b∈fp,H' b=none)∧W i m σ' H':=fun {σ7 H7} I7 n7=>by
   obtain⟨m',hm,w7⟩:=hN σ7 H7 n7
   refine⟨m',hm,i+1,σ7,H7,I7.unpinned,T.keep _ _ _ st5 fun b hb o e=>(I7.pin (b,o) (zu6 _ (zu6 _ (wu hb e)))).1,fun b hb=>?_,w7⟩
   obtain⟨o,e,d⟩:=T.obj _ _ st5 b hb
   exact (I7.pin (b,o) (zu6 _ (zu6 _ (wu hb e)))).2.1
  cases f with
  |next=>obtain⟨σ7,H7,I7,n7⟩:=q7;exact again I7 n7
  |cont=>obtain⟨σ7,H7,I7,n7⟩:=q7;exact again I7 n7
  |brk=>obtain⟨σ7,H7,I7,q7⟩:=q7;exact⟨σ7,H7,I7.unpinned,q7⟩
  |ret v=>obtain⟨x7,σ7,H7,I7,r7,q7⟩:=q7;exact⟨x7,σ7,H7,I7.unpinned,r7,q7⟩
end
abbrev R2 :=V→V→Hp→VK→Prop
def OpR (X:Cx)(f:Value→Value→Sem Value)(r:R2):Prop:=
 ∀(pins:List (Addr×Obj)) (s:Shared) (σ:St) (H:Hp) (x y:V) (v u:Value) (Q:VK),Inv X pins σ H s→RelV x v→RelV y u→r x y H Q→
  wpAny (model X.prog X.w) X.A (f v u) (EP X pins σ Q) X.xe s
def UnR (X:Cx)(f:Value→Sem Value)(r:V→Hp→VK→Prop):Prop:=
 ∀(pins:List (Addr×Obj)) (s:Shared) (σ:St) (H:Hp) (x:V) (v:Value) (Q:VK),Inv X pins σ H s→RelV x v→r x H Q→
  wpAny (model X.prog X.w) X.A (f v) (EP X pins σ Q) X.xe s
def we (X:Cx)(f:Value)(r:List V→Hp→VK→Prop):Prop:=
 ∀(pins:List (Addr×Obj)) (s:Shared) (σ:St) (H:Hp) (xs:List V) (us:List Value) (Q:VK),Inv X pins σ H s→Vals xs us→r xs H Q→
  wpAny (model X.prog X.w) X.A (call f us) (EP X pins σ Q) X.xe s
def zp9 (X:Cx)(r:V→Hp→(Bool→Hp→Prop)→Prop):Prop:=
 ∀(pins:List (Addr×Obj)) (s:Shared) (σ:St) (H:Hp) (x:V) (v:Value) (Q:Bool→Hp→Prop),Inv X pins σ H s→RelV x v→r x H Q→
  wpAny (model X.prog X.w) X.A (truthy v) (TP X pins σ Q) X.xe s
def tOp (r:R2)(ta tb:TE):TE:=fun σ H Q=>ta σ H fun x H1=>tb σ H1 fun y H2=>r x y H2 Q
def tUn (r:V→Hp→VK→Prop)(ta:TE):TE:=fun σ H Q=>ta σ H fun x H1=>r x H1 Q
def rI (C:Int→Int→Prop)(g:Int→Int→V):R2:=fun x y H Q=>∃i j,x=.int i∧y=.int j∧C i j∧Q (g i j) H
def rI0 (g:Int→Int→V):R2:=fun x y H Q=>∃i j,x=.int i∧y=.int j∧Q (g i j) H
def rU (g:Int→V):V→Hp→VK→Prop:=fun x H Q=>∃i,x=.int i∧Q (g i) H
section
variable {X:Cx}{a b c:Expr}{ta tb tc:TE}{pos:Pos}
theorem zi2 (ha:PE X a ta)(hb:PE X b tb){pins:List (Addr×Obj)}{s:Shared}{σ:St}{H:Hp}{R:V→V→Hp→Prop}(I:Inv X pins σ H s)
  (h:ta σ H fun x H1=>tb σ H1 fun y H2=>R x y H2) {Q:Value→Shared→Prop} {f:Value→Value→Sem Value}
  (hf:∀v u s2 x y H2,Inv X pins σ H2 s2→RelV x v→RelV y u→R x y H2→wpAny (model X.prog X.w) X.A (f v u) Q X.xe s2):
  wpAny (model X.prog X.w) X.A (eval a X.env) (fun v s₁=>wpAny (model X.prog X.w) X.A (eval b X.env) (fun u s₂=>wpAny (model X.prog X.w) X.A (f v u) Q X.xe s₂) X.xe s₁) X.xe s:=by
 refine thn (ha pins s σ H _ I h) fun v s1 ⟨x,H1,I1,r1,q1⟩=>?_
 refine thn (hb pins s1 σ H1 _ I1 q1) fun u s2 ⟨y,H2,I2,r2,q2⟩=>?_
 exact hf v u s2 x y H2 I2 r1 r2 q2
theorem yo {op:Operator}{r:R2}(ho:OpR X (binaryOp op) r)(ha:PE X a ta)(hb:PE X b tb):PE X (.BinOp a op b pos) (tOp r ta tb):=by
 intro pins s σ H Q I h
 exact wpAny_BinOp (zi2 ha hb I h fun v u s2 x y H2 I2 rx ry q=>ho pins s2 σ H2 x y v u Q I2 rx ry q)
theorem zn6 {op:UnaryOp}{r:V→Hp→VK→Prop}(ho:UnR X (unaryOp op) r)(ha:PE X a ta):PE X (.UnaryOp op a pos) (tUn r ta):=by
 intro pins s σ H Q I h
 exact UnaryOp_ (thn (ha pins s σ H _ I h) fun v s1 ⟨x,H1,I1,r1,q1⟩=>ho pins s1 σ H1 x v Q I1 r1 q1)
theorem opI {f:Value→Value→Sem Value}{C:Int→Int→Prop}{g:Int→Int→Int}
  (rule:∀(i j:Int) (t u:Tok) (s:Shared) (Q:Value→Shared→Prop) (E:Value→Shared→Prop),C i j→Q (.int (g i j) s.toks) {s with toks:=s.toks+1}→wpAny (model X.prog X.w) X.A (f (.int i t) (.int j u)) Q E s):
  OpR X f (rI C fun i j=>.int (g i j)):=by
 intro pins s σ H x y v u Q I rx ry h
 obtain⟨i,j,rfl,rfl,hc,q⟩:=h
 obtain⟨t,rfl⟩:=rx
 obtain⟨t',rfl⟩:=ry
 exact rule i j t t' s _ _ hc ⟨.int (g i j),H,I.tok _,⟨_,rfl⟩,q⟩
theorem zo3 {f:Value→Value→Sem Value}{g:Int→Int→Int}
  (rule:∀(i j:Int) (t u:Tok) (s:Shared) (Q:Value→Shared→Prop) (E:Value→Shared→Prop),Q (.int (g i j) s.toks) {s with toks:=s.toks+1}→wpAny (model X.prog X.w) X.A (f (.int i t) (.int j u)) Q E s):
  OpR X f (rI0 fun i j=>.int (g i j)):=by
 intro pins s σ H x y v u Q I rx ry h
 obtain⟨i,j,rfl,rfl,q⟩:=h
 obtain⟨t,rfl⟩:=rx
 obtain⟨t',rfl⟩:=ry
 exact rule i j t t' s _ _ ⟨.int (g i j),H,I.tok _,⟨_,rfl⟩,q⟩
theorem cL {f:Value→Value→Sem Value}{g:Int→Int→Bool}
  (rule:∀(i j:Int) (t u:Tok) (s:Shared) (Q:Value→Shared→Prop) (E:Value→Shared→Prop),Q (.bool (g i j)) s→wpAny (model X.prog X.w) X.A (f (.int i t) (.int j u)) Q E s):
  OpR X f (rI0 fun i j=>.bl (g i j)):=by
 intro pins s σ H x y v u Q I rx ry h
 obtain⟨i,j,rfl,rfl,q⟩:=h
 obtain⟨t,rfl⟩:=rx
 obtain⟨t',rfl⟩:=ry
 exact rule i j t t' s _ _ ⟨.bl (g i j),H,I,rfl,q⟩
def zf6 (i j:Int):Prop:=0≤j∧j≤1000000∧i.natAbs<2 ^ 64
def zb1 (i j:Int):Prop:=(-(2 ^ 64)<i∧i<2 ^ 64)∨(-(2 ^ 64)<j∧j<2 ^ 64)
theorem zb1.ok {i j:Int}(h:zb1 i j):IntMulOk i j:=by
 rcases h with ⟨h1,h2⟩|⟨h1,h2⟩
 ·exact .of_left (intBits_le_64 h1 h2)
 ·exact .of_right (intBits_le_64 h1 h2)
theorem ux :OpR X (binaryOp .Add) (rI0 fun i j=>.int (i+j)):=zo3 fun _ _ _ _ _ _ _ q=>add_int q
theorem cc :OpR X (binaryOp .Sub) (rI0 fun i j=>.int (i-j)):=zo3 fun _ _ _ _ _ _ _ q=>sub_int q
theorem sJ :OpR X (binaryOp .Mult) (rI zb1 fun i j=>.int (i*j)):=opI fun _ _ _ _ _ _ _ hc q=>mul_int q hc.ok
theorem vK :OpR X (binaryOp .Mod) (rI (fun _ j=>0<j) fun i j=>.int (i % j)):=opI fun i j _ _ _ _ _ hc q=>by
 have h1:(0:Int)<j:=hc
 exact mod_int' (by omega) (by rw[Int.fmod_eq_emod_of_nonneg i (by omega)];exact q)
theorem dS :OpR X (binaryOp .Pow) (rI zf6 fun i j=>.int (i ^ j.toNat)):=opI fun _ _ _ _ _ _ _ hc q=>pow_int_small hc.1 hc.2.1 hc.2.2 q
theorem unI {f:Value→Sem Value}{g:Int→Int}
  (rule:∀(i:Int) (t:Tok) (s:Shared) (Q:Value→Shared→Prop) (E:Value→Shared→Prop),Q (.int (g i) s.toks) {s with toks:=s.toks+1}→wpAny (model X.prog X.w) X.A (f (.int i t)) Q E s):
  UnR X f (rU fun i=>.int (g i)):=by
 intro pins s σ H x v Q I rx h
 obtain⟨i,rfl,q⟩:=h
 obtain⟨t,rfl⟩:=rx
 exact rule i t s _ _ ⟨.int (g i),H,I.tok _,⟨_,rfl⟩,q⟩
theorem zg9 :UnR X (unaryOp .USub) (rU fun i=>.int (-i)):=unI fun _ _ _ _ _ q=>neg_int q
end
def zj7 :V→V→Bool
 |.non,.non=>true|.non,.int _=>true|.int _,.non=>true|.non,.bl _=>true|.bl _,.non=>true|.non,.str _=>true|.str _,.non=>true
 |.int _,.int _=>true|.bl _,.bl _=>true|.str _,.str _=>true|.byt _,.byt _=>true
 |.int _,.str _=>true|.str _,.int _=>true|.bl _,.str _=>true|.str _,.bl _=>true
 |_,_=>false
def rEq :R2:=fun x y H Q=>zj7 x y=true∧Q (.bl (decide (x=y))) H
def rNe :R2:=fun x y H Q=>zj7 x y=true∧Q (.bl (!decide (x=y))) H
theorem kb {i j:Int}:decide (V.int i=V.int j)=(i == j):=by
 rw[zG1]
 simp
theorem eR {i j:Bool}:decide (V.bl i=V.bl j)=(i == j):=by
 rw[zG1]
 simp
theorem kE {i j:Str}:decide (V.str i=V.str j)=(i == j):=by
 rw[zG1]
 simp
theorem jf {i j:Array UInt8}:decide (V.byt i=V.byt j)=(i.toList == j.toList):=by
 rw[zG1]
 cases i
 cases j
 simp
section
variable {X:Cx}{a b c:Expr}{ta tb tc:TE}{pos:Pos}
theorem zG {pins:List (Addr×Obj)}{σ:St}{H:Hp}{s:Shared}{Q:VK}{k k':Bool}(I:Inv X pins σ H s)(q:Q (.bl k) H)(e:k=k'):EP X pins σ Q (.bool k') s:=by
 subst e
 exact⟨.bl k,H,I,rfl,q⟩
theorem wG :OpR X (compareOp .Eq) rEq:=by
 intro pins s σ H x y v u Q I rx ry h
 obtain⟨hs,q⟩:=h
 cases x with
 |non=>
  cases rx
  cases y with
  |non=>cases ry;exact PySem.EqNone.eq_none_none (zG I q (by simp))
  |bl j=>cases ry;exact PySem.EqNone.eq_none_bool (zG I q (by simp))
  |int j=>obtain⟨t',rfl⟩:=ry;exact PySem.EqNone.eq_none_int (zG I q (by simp))
  |str j=>obtain⟨t',rfl⟩:=ry;exact PySem.EqNone.eq_none_str (zG I q (by simp))
  |_=>exact absurd (show false=true from hs) zu2
 |bl i=>
  cases rx
  cases y with
  |non=>cases ry;exact PySem.EqNone.eq_bool_none (zG I q (by simp))
  |bl j=>cases ry;exact eq_bool (zG I q eR)
  |str j=>obtain⟨t',rfl⟩:=ry;exact PySem.EqMixed.eq_bool_str (zG I q (by simp))
  |_=>exact absurd (show false=true from hs) zu2
 |int i=>
  obtain⟨t,rfl⟩:=rx
  cases y with
  |non=>cases ry;exact PySem.EqNone.eq_int_none (zG I q (by simp))
  |int j=>obtain⟨t',rfl⟩:=ry;exact eq_int (zG I q kb)
  |str j=>obtain⟨t',rfl⟩:=ry;exact PySem.EqMixed.eq_int_str (zG I q (by simp))
  |_=>exact absurd (show false=true from hs) zu2
 |str i=>
  obtain⟨t,rfl⟩:=rx
  cases y with
  |non=>cases ry;exact PySem.EqNone.eq_str_none (zG I q (by simp))
  |bl j=>cases ry;exact PySem.EqMixed.eq_str_bool (zG I q (by simp))
  |int j=>obtain⟨t',rfl⟩:=ry;exact PySem.EqMixed.eq_str_int (zG I q (by simp))
  |str j=>obtain⟨t',rfl⟩:=ry;exact eq_str (zG I q kE)
  |_=>exact absurd (show false=true from hs) zu2
 |byt i=>
  obtain⟨t,rfl⟩:=rx
  cases y with
  |byt j=>obtain⟨t',rfl⟩:=ry;exact PySem.W.eq_bytes (zG I q jf)
  |_=>exact absurd (show false=true from hs) zu2
 |_=>cases y<;>exact absurd (show false=true from hs) zu2
theorem zl7 :OpR X (compareOp .NotEq) rNe:=by
 intro pins s σ H x y v u Q I rx ry h
 obtain⟨hs,q⟩:=h
 cases x with
 |non=>
  cases rx
  cases y with
  |non=>cases ry;exact PySem.EqNone.ne_none_none (zG I q (by simp))
  |bl j=>cases ry;exact PySem.EqNone.ne_none_bool (zG I q (by simp))
  |int j=>obtain⟨t',rfl⟩:=ry;exact PySem.EqNone.ne_none_int (zG I q (by simp))
  |str j=>obtain⟨t',rfl⟩:=ry;exact PySem.EqNone.ne_none_str (zG I q (by simp))
  |_=>exact absurd (show false=true from hs) zu2
 |bl i=>
  cases rx
  cases y with
  |non=>cases ry;exact PySem.EqNone.ne_bool_none (zG I q (by simp))
  |bl j=>cases ry;exact ne_bool (zG I q (congrArg not eR))
  |str j=>obtain⟨t',rfl⟩:=ry;exact PySem.EqMixed.ne_bool_str (zG I q (by simp))
  |_=>exact absurd (show false=true from hs) zu2
 |int i=>
  obtain⟨t,rfl⟩:=rx
  cases y with
  |non=>cases ry;exact PySem.EqNone.ne_int_none (zG I q (by simp))
  |int j=>obtain⟨t',rfl⟩:=ry;exact ne_int (zG I q (congrArg not kb))
  |str j=>obtain⟨t',rfl⟩:=ry;exact PySem.EqMixed.ne_int_str (zG I q (by simp))
  |_=>exact absurd (show false=true from hs) zu2
 |str i=>
  obtain⟨t,rfl⟩:=rx
  cases y with
  |non=>cases ry;exact PySem.EqNone.ne_str_none (zG I q (by simp))
  |bl j=>cases ry;exact PySem.EqMixed.ne_str_bool (zG I q (by simp))
  |int j=>obtain⟨t',rfl⟩:=ry;exact PySem.EqMixed.ne_str_int (zG I q (by simp))
  |str j=>obtain⟨t',rfl⟩:=ry;exact ne_str (zG I q (congrArg not kE))
  |_=>exact absurd (show false=true from hs) zu2
 |byt i=>
  obtain⟨t,rfl⟩:=rx
  cases y with
  |byt j=>obtain⟨t',rfl⟩:=ry;exact PySem.W.ne_bytes (zG I q (congrArg not jf))
  |_=>exact absurd (show false=true from hs) zu2
 |_=>cases y<;>exact absurd (show false=true from hs) zu2
theorem za2 :OpR X (compareOp .Lt) (rI0 fun i j=>.bl (decide (i<j))):=cL fun _ _ _ _ _ _ _ q=>lt_int q
theorem rL :OpR X (compareOp .LtE) (rI0 fun i j=>.bl (decide (i≤j))):=cL fun _ _ _ _ _ _ _ q=>le_int q
theorem kl :OpR X (compareOp .Gt) (rI0 fun i j=>.bl (decide (j<i))):=cL fun _ _ _ _ _ _ _ q=>gt_int q
theorem zj6 :OpR X (compareOp .GtE) (rI0 fun i j=>.bl (decide (j≤i))):=cL fun _ _ _ _ _ _ _ q=>ge_int q
theorem lA :OpR X (compareOp .Is) (fun x y H Q=>y=.non∧Q (.bl (decide (x=.non))) H):=by
 intro pins s σ H x y v u Q I rx ry h
 obtain⟨rfl,q⟩:=h
 cases ry
 refine is_none_gen (zG I q ?_)
 cases x<;>first
  |(cases rx;rfl)
  |(obtain⟨t,rfl⟩:=rx;rfl)
theorem ab :OpR X (compareOp .IsNot) (fun x y H Q=>y=.non∧Q (.bl (!decide (x=.non))) H):=by
 intro pins s σ H x y v u Q I rx ry h
 obtain⟨rfl,q⟩:=h
 cases ry
 refine isnot_none_gen (zG I q ?_)
 cases x<;>first
  |(cases rx;rfl)
  |(obtain⟨t,rfl⟩:=rx;rfl)
theorem zD (b:Expr){op:CmpOp}(h:op≠.In:=by decide)(h2:op≠.NotIn:=by decide):behindInMarks op b=false:=by
 have e1:(op == CmpOp.In)=false:=by cases op<;>first|rfl|exact absurd rfl h
 have e2:(op == CmpOp.NotIn)=false:=by cases op<;>first|rfl|exact absurd rfl h2
 cases b<;>simp[behindInMarks,e1,e2]
theorem xE {op:CmpOp}{r:R2}(ho:OpR X (compareOp op) r)(ha:PE X a ta)(hb:PE X b tb)(hm:behindInMarks op b=false):PE X (.Compare a [op] [b] pos) (tOp r ta tb):=by
 intro pins s σ H Q I h
 exact wpAny_Compare1 (zi2 ha hb I h fun v u s2 x y H2 I2 rx ry q=>ho pins s2 σ H2 x y v u Q I2 rx ry q) hm
def zo5 (t:TE):TT:=fun σ H Q=>t σ H fun x H'=>∃k,x=.bl k∧Q k H'
theorem yb {op:CmpOp}{r:R2}(ho:OpR X (compareOp op) r)(ha:PE X a ta)(hb:PE X b tb)(hm:behindInMarks op b=false):PT X (.Compare a [op] [b] pos) (zo5 (tOp r ta tb)):=by
 intro pins s σ H Q I h
 refine wpAny_isTrue_Compare1 (thn (ha pins s σ H _ I h) fun v s1 ⟨x,H1,I1,r1,q1⟩=>thn (hb pins s1 σ H1 _ I1 q1) fun u s2 ⟨y,H2,I2,r2,q2⟩=>
  thn (ho pins s2 σ H2 x y v u _ I2 r1 r2 q2) fun c s3 ⟨z,H3,I3,r3,k,e,q3⟩=>?_) hm
 subst e
 cases r3
 exact zy2 ⟨H3,I3,q3⟩
def zf7 (r r':R2)(ta tb tc:TE):TE:=fun σ H Q=>ta σ H fun x H1=>tb σ H1 fun y H2=>r x y H2 fun z H3=>∃k,z=.bl k∧
 (if k=true then tc σ H3 fun w' H4=>r' y w' H4 Q else Q (.bl false) H3)
theorem nQ {op op':CmpOp}{r r':R2}(ho:OpR X (compareOp op) r)(ho':OpR X (compareOp op') r')(ha:PE X a ta)(hb:PE X b tb)(hc:PE X c tc)
  (hm:lastMarks [op,op'] [b,c]=false:=by with_unfolding_all rfl):PE X (.Compare a [op,op'] [b,c] pos) (zf7 r r' ta tb tc):=by
 intro pins s σ H Q I h
 refine Compare_chain (thn (ha pins s σ H _ I h) fun v s1 ⟨x,H1,I1,r1,q1⟩=>chain_link (thn (hb pins s1 σ H1 _ I1 q1) fun u s2 ⟨y,H2,I2,r2,q2⟩=>
  thn (ho pins s2 σ H2 x y v u _ I2 r1 r2 q2) fun d s3 ⟨z,H3,I3,r3,k,e,q3⟩=>?_)) hm
 subst e
 cases r3
 refine zy2 ?_
 cases k with
 |false=>exact ite_ff ⟨.bl false,H3,I3,rfl,q3⟩
 |true=>exact ite_tt (chain_last (thn (hc pins s3 σ H3 _ I3 q3) fun w' s4 ⟨z',H4,I4,r4,q4⟩=>ho' pins s4 σ H4 y z' u w' Q I4 r2 r4 q4))
def zo2 (K:PySem.W.Frag)(x:V)(H:Hp)(k:Bool):Prop:=
 match x with
 |.non=>k=false
 |.bl b=>k=b
 |.int i=>k=(i != 0)
 |.str y=>y.length≤sizeLine∧k=((y.length:Int) != 0)
 |.byt y=>y.size≤sizeLine∧k=((y.size:Int) != 0)
 |.ref p=>(∃xs,SqL K H p xs∧k=!xs.isEmpty)∨(∃xs,SqT K H p xs∧k=!xs.isEmpty)∨∃kvs,H p=some (.dK kvs)∧k=!kvs.isEmpty
 |_=>False
theorem mf {κ:Type}{kvs:List (κ×V)}{vs:List (κ×Value)}(r:KV kvs vs):(!vs.isEmpty)=!kvs.isEmpty:=by
 cases r<;>rfl
theorem sX {xs:List V}{its:List Value}(r:Vals xs its):(!its.toArray.isEmpty)=!xs.isEmpty:=by
 cases r<;>simp
theorem uC :(sizeLine:Nat)<2 ^ 63:=by rw[zv4];decide
theorem zb9 :zp9 X (fun x H Q=>∃k,zo2 X.K x H k∧Q k H):=by
 intro pins s σ H x v Q I rx h
 obtain⟨k,e,q⟩:=h
 have hl:=uC
 have hs:sizeLine=16777216:=zv4
 cases x with
 |non=>
  cases rx
  have e':k=false:=e
  subst e'
  exact truthy_none ⟨H,I,q⟩
 |bl b=>
  cases rx
  have e':k=b:=e
  subst e'
  exact zy2 ⟨H,I,q⟩
 |int i=>
  obtain⟨t,rfl⟩:=rx
  have e':k=(i != 0):=e
  subst e'
  exact PySem.P.truthy_int ⟨H,I,q⟩
 |str y=>
  obtain⟨t,rfl⟩:=rx
  obtain⟨hy,e'⟩:y.length≤sizeLine∧k=((y.length:Int) != 0):=e
  subst e'
  exact PySem.P.truthy_str (by omega) ⟨H,I.tok _,q⟩
 |byt y=>
  obtain⟨t,rfl⟩:=rx
  obtain⟨hy,e'⟩:y.size≤sizeLine∧k=((y.size:Int) != 0):=e
  subst e'
  exact PySem.W.truthy_bytes (by omega) ⟨H,I.tok _,q⟩
 |ref p=>
  cases rx
  have e':(∃xs,SqL X.K H p xs∧k=!xs.isEmpty)∨(∃xs,SqT X.K H p xs∧k=!xs.isEmpty)∨∃kvs,H p=some (.dK kvs)∧k=!kvs.isEmpty:=e
  rcases e' with ⟨xs,hx,e'⟩|⟨xs,hx,e'⟩|⟨kvs,hx,e'⟩
  ·subst e'
   obtain⟨its,r,pl,hz⟩:=I.list hx
   have hlen:=r.length
   exact wpAny_truthy_list pl.isList (by simp only[zt1];omega) ⟨H,I.tok _,by rw[sX r];exact q⟩
  ·subst e'
   obtain⟨its,r,pl,hz⟩:=I.tuple hx
   have hlen:=r.length
   exact truthy_tuple pl (by simp only[zt1];omega) ⟨H,I.tok _,by rw[sX r];exact q⟩
  ·subst e'
   obtain⟨hz,hS,vs,r,m⟩:kvs.length≤sizeLine∧(p == sysModules)=false∧∃vs,KV kvs vs∧s.heap.DictOf (yJ X.prog X.w) p vs:=I.hok p _ hx
   have hlen:kvs.length=vs.length:=Paired.length r
   exact wpAny_truthy_dict hS m (by omega) ⟨H,I.tok _,by rw[mf r];exact q⟩
 |_=>exact (show False from e).elim
theorem dh (ha:PE X a ta)(he:∀whole,isTrue a X.env whole=(do let v ←whole;standAt a.pos;holding [v] (truthy v))):
  PT X a (fun σ H Q=>ta σ H fun x H'=>∃k,zo2 X.K x H' k∧Q k H'):=by
 intro pins s σ H Q I h
 exact isTrue_plain (thn (ha pins s σ H _ I h) fun v s1 ⟨x,H1,I1,r1,q1⟩=>zb9 pins s1 σ H1 x v Q I1 r1 q1) (he _)
theorem vals1 {x:V}{us:List Value}(r:Vals [x] us):∃u,us=[u]∧RelV x u:=by
 cases r with
 |cons r1 r2=>cases r2;exact⟨_,rfl,r1⟩
theorem nv :we X (.builtin "abs") (fun xs H Q=>∃i,xs=[.int i]∧Q (.int (if i<0 then -i else i)) H):=by
 intro pins s σ H xs us Q I r h
 obtain⟨i,rfl,q⟩:=h
 obtain⟨u,rfl,t,rfl⟩:=vals1 r
 exact call_abs_int fun u tk=>⟨.int (if i<0 then -i else i),H,I.tok _,⟨_,rfl⟩,q⟩
end
structure nX (h:Heap)(x dx C:Addr)(mA:Str→Option Value):Prop where
 obj:h.get? x=some (PySem.W.instObj C dx)
 ns:h.Ns1 dx mA
 ne:dx≠x
theorem jP {h:Heap}{dx:Addr}{mA:Str→Option Value}(n:h.Ns1 dx mA):∃od,h.get? dx=some od∧∀name,PySem.W.lookIn name od=some (mA name):=by
 obtain⟨o,es,ep,ho,hd,hk,_,hm⟩:=n
 refine⟨o,ho,fun name=>?_⟩
 have e:=hm name
 unfold nsFind findBy at e
 rw[←Array.find?_toList] at e
 unfold PySem.W.lookIn
 rw[hd]
 dsimp only
 split
 ·rename_i y q
  rw[q] at e
  exact congrArg some e
 ·rename_i q
  rw[q] at e
  have a:es.toList.any (·.refKey)=false:=by
   rw[List.any_eq_false]
   intro y hy
   obtain⟨z,t,hkey⟩:=hk y (Array.mem_toList_iff.mp hy)
   simp[DictEntry.refKey,hkey]
  have a':¬es.toList.any (·.refKey)=true:=by rw[a];exact zu2
  rw[if_neg a']
  exact congrArg some e
theorem nX.look {h:Heap}{x dx C:Addr}{mA:Str→Option Value}(I:nX h x dx C mA):∃od,PySem.W.InstAt h x (PySem.W.instObj C dx) C (some od)∧∀name,PySem.W.lookIn name od=some (mA name):=
 let ⟨od,ho,hl⟩:=jP I.ns
 ⟨od,⟨I.obj,rfl,rfl,ho⟩,hl⟩
section
variable {prog:Program}{w:World}{A:Around}{E:Value→Shared→Prop}{s:Shared}{K:PySem.W.Frag}{x dx C f:Addr}{mA:Str→Option Value}{name:Str}{v:Value}
theorem get_map {expr:Bool}{Q:Value→Shared→Prop}(X:K.In s.heap)(I:nX s.heap x dx C mA)(hg:PySem.W.plainGet K C name=true)(hh:PySem.W.hasDictIn K C=true)
  (ha:PySem.W.findIn K (.ref C) name=some none) (hv:mA name=some v) (hv':PySem.W.handedIn v=true) (h:Q v {s with toks:=s.toks+1}):
  wpAny (model prog w) A (getAttr (.ref x) name expr) Q E s:=by
 obtain⟨od,J,hl⟩:=I.look
 exact PySem.W.get_value X J (zG9 hg).1 (PySem.W.findObj_own hh ha rfl (by rw[hl,hv])) hv' h
theorem gX {pl:Sem Bool}{Q:Value×List Value→Shared→Prop}(X:K.In s.heap)(I:nX s.heap x dx C mA)(hg:PySem.W.plainGet K C name=true)
  (hf:PySem.W.findIn K (.ref C) name=some (some (.ref f))) (ht:PySem.W.isFn K (.ref f)=true) (hv:mA name=none) (h:Q (.ref f,[.ref x]) s):
  wpAny (model prog w) A (getMethod (.ref x) name pl) Q E s:=by
 obtain⟨od,J,hl⟩:=I.look
 exact PySem.W.method_fn X J (zG9 hg).1 (zG9 hg).2 hf (beq_iff_eq.mp ht) (by show (PySem.W.lookIn name od).map (·.isSome)=some false;rw[hl,hv];rfl) h
theorem bx {ns:List Str}{Q:Unit→Shared→Prop}(X:K.In s.heap)(I:nX s.heap x dx C mA)
  (hs:PySem.W.findIn K (.ref C) "__setattr__"=some (some (.builtin "object.__setattr__"))) (hp:PySem.W.plainOver K C=true) (ht:PySem.W.takerIn K C name=some none) (hh:PySem.W.hasDictIn K C=true)
  (hw:PySem.Within mA ns) (hsz:ns.length≤sizeLine)
  (h:∀h',nX h' x dx C (fun y=>if y=name then some v else mA y)→Heap.SameBut dx s.heap h'→Q () {s with heap:=h',toks:=s.toks+2}):
  wpAny (model prog w) A (setAttr (.ref x) name v) Q E s:=by
 obtain⟨od,J,hl⟩:=I.look
 refine PySem.W.set_plain X J hs (PySem.W.osa_open (s:={s with toks:=s.toks+1}) (r:=none) X J hp ht fun b=>?_)
 obtain⟨cd,hc,hd'⟩:=PySem.W.any_some hh
 have hx:s.heap.get? x=some ⟨.ref C,some dx,.plain,#[]⟩:=I.obj
 refine zs3 (zt2 (zs3 (zs3 (wpAny_loadPart hx (zs3 (PySem.W.Looks.here (s:={s with toks:=s.toks+1}) (PySem.W.looks_clsIn X hc) ?_))))))
 rw[hd']
 refine zt2 (a:=some dx) (zs3 (zt2 (zs3 ?_)))
 refine wpAny_nsSet1 (s:={s with toks:=s.toks+1}) I.ns fun h' hn2 hs2=>?_
 obtain⟨oD,esD,epD,hoD,hdD,hcD⟩:=hn2.count (PySem.Within.cons name v hw)
 refine zs3 (wpAny_lookBehind hoD (by rw[hdD];exact pastItsLine_dict (zw6 hcD (by rw[zu1];omega))) ?_)
 exact zt2 (h _ ⟨(hs2.2 _ (zv8 I.ne)).trans I.obj,hn2,I.ne⟩ hs2)
theorem dX {R:Result→Shared→Prop}{vs:List Value}{kw:List (Str×Value)}(X:K.In s.heap)(hm:PySem.W.makesIn K C=true)
  (hi:PySem.W.findIn K (.ref C) "__init__"=some (some (.ref f))) (hf:PySem.W.typeIn K (.ref f)=some (.type "function"))
  (h:codeAny (model prog w) (A.under (.builtin "type.__call__" ⟨.ref C::vs,kw⟩)) (.call (.ref f) ⟨.ref (s.heap.objs.size+1)::vs,kw⟩) (PySem.W.InitBack (s.heap.objs.size+1) R)
   {s with heap:=(s.heap.push PySem.W.emptyDict).push (PySem.W.instObj C s.heap.objs.size)}):
  codeAny (model prog w) A (.call (.ref C) ⟨vs,kw⟩) R s:=by
 obtain⟨hh,g,d,t,os⟩:=s
 exact PySem.W.make_core (PySem.W.makes_of X hm) (PySem.W.looks_findIn X hi) (fun self=>PySem.W.bind_fn X self hf) (.inl rfl) h
end
def xA (f:Str)(v:V):List (Str×V)→List (Str×V)
 |[]=>[(f,v)]
 |(g,x)::r=>if g=f then (g,v)::r else (g,x)::xA f v r
theorem zS (f g:Str)(v:V):∀fs:List (Str×V),(xA f v fs).lookup g=if g=f then some v else fs.lookup g
 |[]=>by
  show List.lookup g [(f,v)]=_
  by_cases h:g=f
  ·have hb:(g == f)=true:=beq_iff_eq.mpr h
   simp only[List.lookup,hb,if_pos h]
  ·have hb:(g == f)=false:=zB3.mpr h
   simp only[List.lookup,hb,if_neg h]
 |(k,x)::r=>by
  have ih:=zS f g v r
  rw[show xA f v ((k,x)::r)=(if k=f then (k,v)::r else (k,x)::xA f v r) from rfl]
  by_cases hk:k=f
  ·rw[if_pos hk]
   by_cases h:g=k
   ·have hb:(g == k)=true:=beq_iff_eq.mpr h
    simp only[List.lookup,hb,if_pos (h.trans hk)]
   ·have hb:(g == k)=false:=zB3.mpr h
    simp only[List.lookup,hb,if_neg (fun e:g=f=>h (e.trans hk.symm))]
  ·rw[if_neg hk]
   by_cases h:g=k
   ·have hb:(g == k)=true:=beq_iff_eq.mpr h
    simp only[List.lookup,hb,if_neg (fun e:g=f=>hk (h.symm.trans e))]
   ·have hb:(g == k)=false:=zB3.mpr h
    simp only[List.lookup,hb]
    exact ih
theorem uy (f:Str)(v:V):∀fs:List (Str×V),f∈(xA f v fs).map (·.1)∧∀g,g∈fs.map (·.1)→g∈(xA f v fs).map (·.1)
 |[]=>⟨by simp[xA],fun g h=>by simp at h⟩
 |(k,x)::r=>by
  obtain⟨i1,i2⟩:=uy f v r
  rw[show xA f v ((k,x)::r)=(if k=f then (k,v)::r else (k,x)::xA f v r) from rfl]
  by_cases hk:k=f
  ·rw[if_pos hk]
   subst hk
   exact⟨by simp,fun g h=>by simpa using h⟩
  ·rw[if_neg hk]
   refine⟨?_,fun g h=>?_⟩
   ·rw[zw5]
    exact zt4 _ i1
   ·rw[zw5] at h ⊢
    rcases zs8.mp h with e|e
    ·exact zs8.mpr (.inl e)
    ·exact zt4 _ (i2 g e)
theorem uO (f:Str)(v:V):∀fs:List (Str×V),(xA f v fs).length≤fs.length+1
 |[]=>by simp[xA]
 |(k,x)::r=>by
  have ih:=uO f v r
  rw[show xA f v ((k,x)::r)=(if k=f then (k,v)::r else (k,x)::xA f v r) from rfl]
  by_cases hk:k=f
  ·rw[if_pos hk,zu1,zu1];omega
  ·rw[if_neg hk,zu1,zu1];omega
theorem uo.some_of {v:V}{o:Option Value}(r:uo (some v) o):∃u,o=some u∧RelV v u:=by
 cases o with
 |none=>exact (show False from r).elim
 |some u=>exact⟨u,rfl,r⟩
theorem uo.none_of {o:Option Value}(r:uo none o):o=none:=by
 cases o with
 |none=>rfl
 |some u=>exact (show False from r).elim
theorem jX {v:V}{u:Value}(r:RelV v u):PySem.W.handedIn u=true:=by
 cases v with
 |non=>cases (show u=Value.none from r);rfl
 |bl b=>cases (show u=Value.bool b from r);rfl
 |int i=>obtain⟨t,e⟩:=(show ∃t,u=Value.int i t from r);cases e;rfl
 |str x=>obtain⟨t,e⟩:=(show ∃t,u=Value.str x t from r);cases e;rfl
 |byt b=>obtain⟨t,e⟩:=(show ∃t,u=Value.bytes b t from r);cases e;rfl
 |flt b=>obtain⟨t,e⟩:=(show ∃t,u=Value.float b t from r);cases e;rfl
 |ref a=>cases (show u=Value.ref a from r);rfl
 |ty n=>cases (show u=Value.type n from r);rfl
section
variable {P:Program}{w:World}{H H':Hp}{h h':Heap}{a C dx:Addr}{fs fs':List (Str×V)}
theorem tE (hok:HOk P w H h)(e:H a=some (.ins C dx fs)):∃mA,nX h a dx C mA∧(∀f,uo (fs.lookup f) (mA f))∧PySem.Within mA (fs.map (·.1))∧fs.length≤1000∧H dx=some (.own a):=by
 obtain⟨d,z,ne,ob,mA,n,r,q⟩:=(show zY P w H h a (.ins C dx fs) from hok a _ e)
 exact⟨mA,⟨ob,n,ne⟩,r,q,z,d⟩
end
structure Cls (K:PySem.W.Frag)(C:Addr):Prop where
 pg:PySem.W.plainGet K C Str.empty=true
 hd:PySem.W.hasDictIn K C=true
 po:PySem.W.plainOver K C=true
 sa:PySem.W.findIn K (.ref C) "__setattr__"=some (some (.builtin "object.__setattr__"))
theorem Cls.get {K:PySem.W.Frag}{C:Addr}(c:Cls K C)(f:Str):PySem.W.plainGet K C f=true:=c.pg
def yE (K:PySem.W.Frag)(C:Addr)(f:Str):Prop:=PySem.W.findIn K (.ref C) f=some none
theorem yE.taker {K:PySem.W.Frag}{C:Addr}{f:Str}(n:yE K C f):PySem.W.takerIn K C f=some none:=by
 unfold PySem.W.takerIn
 rw[show PySem.W.findIn K (.ref C) f=some none from n]
 rfl
structure Meth (K:PySem.W.Frag)(C:Addr)(m:Str)(f:Addr):Prop where
 at_:PySem.W.findIn K (.ref C) m=some (some (.ref f))
 fn:PySem.W.isFn K (.ref f)=true
 kp:PySem.W.keepIn K (.ref f)=true
section
variable {X:Cx}{pins:List (Addr×Obj)}{σ:St}{H:Hp}{s:Shared}{a C dx:Addr}{fs:List (Str×V)}{f:Str}{v:V}{A:Around}{E:Value→Shared→Prop}
theorem mv {b:Bool}{Q:Value→Shared→Prop}(I:Inv X pins σ H s)(e:H a=some (.ins C dx fs))(c:Cls X.K C)(n:yE X.K C f)(l:fs.lookup f=some v)
  (h:∀u s',Inv X pins σ H s'→RelV v u→Q u s'):wpAny (model X.prog X.w) A (getAttr (.ref a) f b) Q E s:=by
 obtain⟨mA,O,r,_,_,_⟩:=tE I.hok e
 obtain⟨u,hu,ru⟩:=uo.some_of (v:=v) (o:=mA f) (by rw[←l];exact r f)
 exact get_map I.kIn O (c.get f) c.hd n hu (jX ru) (h u _ (I.tok _) ru)
theorem vH {m:Str}{g:Addr}{pl:Sem Bool}{Q:Value×List Value→Shared→Prop}(I:Inv X pins σ H s)(e:H a=some (.ins C dx fs))(c:Cls X.K C)(k:Meth X.K C m g)(l:fs.lookup m=none)
  (h:Q (.ref g,[.ref a]) s):wpAny (model X.prog X.w) A (getMethod (.ref a) m pl) Q E s:=by
 obtain⟨mA,O,r,_,_,_⟩:=tE I.hok e
 have hn:mA m=none:=uo.none_of (by rw[←l];exact r m)
 exact gX I.kIn O (c.get m) k.at_ k.fn hn h
theorem mB {y:V}{u:Value}{Q:Unit→Shared→Prop}(I:Inv X pins σ H s)(e:H a=some (.ins C dx fs))(c:Cls X.K C)(n:yE X.K C f)(hl:fs.length<1000)(ry:RelV y u)
  (h:∀s',Inv X pins σ (upd H a (.ins C dx (xA f y fs))) s'→Q () s'):wpAny (model X.prog X.w) A (setAttr (.ref a) f u) Q E s:=by
 obtain⟨mA,O,r,wi,_,ho⟩:=tE I.hok e
 have hz:(fs.map (·.1)).length≤sizeLine:=by rw[zs4,zv4];omega
 refine bx I.kIn O c.sa c.po n.taker c.hd wi hz fun h' O' sb=>h _ ?_
 have hd:∃o,h'.get? dx=some o:=let ⟨o,_,_,e',_⟩:=O'.ns;⟨o,e'⟩
 refine I.write (x:=a) (e:=dx) (by rw[e];exact True.intro) (.inr ho) (fun b q hb z=>(sb.2 b hb).trans z) hd ?_
 refine⟨by rw[zg O.ne];exact ho,?_,O.ne,O'.obj,_,O'.ns,fun g=>?_,fun g hg=>?_⟩
 ·have:=uO f y fs;omega
 ·show uo ((xA f y fs).lookup g) (if g=f then some u else mA g)
  rw[zS]
  by_cases q:g=f
  ·rw[if_pos q,if_pos q];exact ry
  ·rw[if_neg q,if_neg q];exact r g
 ·by_cases q:g=f
  ·rw[q];exact (uy f y fs).1
  ·refine (uy f y fs).2 g (wi g fun z=>hg ?_)
   show (if g=f then some u else mA g)=none
   rw[if_neg q];exact z
theorem Inv.made (I:Inv X pins σ H s):Inv X pins σ (upd (upd H s.heap.objs.size (.own (s.heap.objs.size+1))) (s.heap.objs.size+1) (.ins C s.heap.objs.size []))
  {s with heap:=(s.heap.push PySem.W.emptyDict).push (PySem.W.instObj C s.heap.objs.size)}:=by
 have e1:(s.heap.push PySem.W.emptyDict).get? s.heap.objs.size=some PySem.W.emptyDict:=zt8 s.heap rfl
 have e2:((s.heap.push PySem.W.emptyDict).push (PySem.W.instObj C s.heap.objs.size)).get? (s.heap.objs.size+1)=some (PySem.W.instObj C s.heap.objs.size):=by
  have:=zt8 (s.heap.push PySem.W.emptyDict) (o:=PySem.W.instObj C s.heap.objs.size) rfl
  rwa [zz0] at this
 have e3:(s.heap.push PySem.W.emptyDict).Ns s.heap.objs.size (fun _=>none):=⟨PySem.W.emptyDict,#[],_,e1,rfl,(fun e he=>absurd he (by simp)),fun _=>rfl⟩
 have I1:=I.laid (a:=s.heap.objs.size) (o:=.own (s.heap.objs.size+1)) (h':=s.heap.push PySem.W.emptyDict) (t':=s.toks) (fun b u q=>zs5 _ q) (zs9 _) ⟨_,e1⟩
 refine I1.laid (a:=s.heap.objs.size+1) (o:=.ins C s.heap.objs.size []) (t':=s.toks) (fun b u q=>zs5 _ q) (zE0 (zz0 _ _)) ?_
 have ne:s.heap.objs.size≠s.heap.objs.size+1:=zu4 (zC5 _)
 refine⟨by rw[zg ne,zi],zt6 _,ne,e2,fun _=>none,(Heap.Ns1.of_empty e3).at fun o q=>zs5 _ q,fun _=>True.intro,fun y hy=>absurd rfl hy⟩
theorem cS {prog:Program}{w:World}{env:Env}{e:Expr}{f:Str}{pos:Pos}{s:Shared}{Q:Value→Shared→Prop}(hb:attributeBase e f env (eval e env)=eval e env)
  (h:wpAny (model prog w) A (eval e env) (fun o s₁=>wpAny (model prog w) A (getAttr o f true) Q E s₁) E s):wpAny (model prog w) A (eval (.Attribute e f pos) env) Q E s:=
 Attribute_any_ h (by rw[arm_eval_Attribute,hb])
end
def zr4 (K:PySem.W.Frag)(ta:TE)(f:Str):TE:=fun σ H Q=>ta σ H fun x H1=>∃a C dx fs v,x=.ref a∧H1 a=some (.ins C dx fs)∧Cls K C∧yE K C f∧fs.lookup f=some v∧Q v H1
def zq7 (K:PySem.W.Frag)(ta tv:TE)(f:Str):TS:=fun D σ H=>tv σ H fun y H1=>ta σ H1 fun x H2=>∃a C dx fs,x=.ref a∧H2 a=some (.ins C dx fs)∧Cls K C∧yE K C f∧fs.length<1000∧
 D.nx σ (upd H2 a (.ins C dx (xA f y fs)))
section
variable {X:Cx}{o e value:Expr}{f:Str}{pos pos' tpos:Pos}{ta tv:TE}
theorem uA (he:PE X e ta)(hb:attributeBase e f X.env (eval e X.env)=eval e X.env):PE X (.Attribute e f pos) (zr4 X.K ta f):=by
 intro pins s σ H Q I h
 refine cS hb (thn (he pins s σ H _ I h) fun u s1 ⟨x,H1,I1,rx,a,C,dx,fs,v,ex,ea,c,n,l,q⟩=>?_)
 subst ex
 obtain rfl:u=Value.ref a:=rx
 exact mv I1 ea c n l fun u' s2 I2 ru=>⟨v,H1,I2,ru,q⟩
theorem pE (ha:PE X o ta)(hv:PE X value tv)(hs:swapsWith value (some (.Attribute o f pos')) pos.line X.env=pure false):PS X (.Assign [.Attribute o f pos'] value pos) (zq7 X.K ta tv f):=by
 intro pins s σ H D I h
 refine plainObj_wpAny_Assign_Attribute (thn (hv pins s σ H _ I h) fun u s1 ⟨y,H1,I1,ry,q⟩=>thn (ha pins s1 σ H1 _ I1 q) fun ov s2 ⟨x,H2,I2,rx,a,C,dx,fs,ex,ea,c,n,l,q2⟩=>?_) hs
 subst ex
 obtain rfl:ov=Value.ref a:=rx
 exact mB I2 ea c n l ry fun s3 I3=>⟨σ,_,I3,q2⟩
theorem aK {pl:Sem Bool}{m:Str}{apos:Pos}{args:List Expr}{pins:List (Addr×Obj)}{s:Shared}{σ:St}{H:Hp}{Q:Value→Shared→Prop}{te:TE}(he:PE X e te)(I:Inv X pins σ H s)
  (h:te σ H fun x H1=>∃a C dx fs g,x=.ref a∧H1 a=some (.ins C dx fs)∧Cls X.K C∧Meth X.K C m g∧fs.lookup m=none∧
   ∀s1,Inv X pins σ H1 s1→wpAny (model X.prog X.w) X.A (callWith pos (.ref g) [.ref a] (backTo pos (starEach args X.env)) (backToKw pos (keywordEach [] X.env))) Q X.xe s1)
  (ht:eval (.Call (.Attribute e m apos) args [] pos) X.env=(do
   let ov ←eval e X.env
   standAt apos.atName
   let (f,first) ←holding [ov] (getMethod ov m pl)
   callWith pos f first (backTo pos (starEach args X.env)) (backToKw pos (keywordEach [] X.env)))):
  wpAny (model X.prog X.w) X.A (eval (.Call (.Attribute e m apos) args [] pos) X.env) Q X.xe s:=by
 refine zF6 (pl:=pl) (thn (he pins s σ H _ I h) fun u s1 ⟨x,H1,I1,rx,a,C,dx,fs,g,ex,ea,c,k,l,q⟩=>?_) ht
 subst ex
 obtain rfl:u=Value.ref a:=rx
 exact vH I1 ea c k l (q s1 I1)
end
section
variable {X:Cx}{pins:List (Addr×Obj)}{σ:St}{H:Hp}{s:Shared}{A:Around}{E:Value→Shared→Prop}{Q:Value→Shared→Prop}{c:Value}{b:Bool}
inductive ug (K:PySem.W.Frag)(H:Hp):V→Value→Prop where
 |non:ug K H .non (.type "NoneType")
 |bl (x:Bool):ug K H (.bl x) (.type "bool")
 |int (i:Int):ug K H (.int i) (.type "int")
 |str (x:Str):ug K H (.str x) (.type "str")
 |flt (x:UInt64):ug K H (.flt x) (.type "float")
 |lst {a:Addr} {xs:List V} (e:H a=some (.lst xs)):ug K H (.ref a) (.type "list")
 |frz {a:Addr} {o:Obj} {xs:List V} (e:H a=some (.frz o (.lst xs))):ug K H (.ref a) (.type "list")
 |tup {a:Addr} {xs:List V} (e:H a=some (.tup xs)):ug K H (.ref a) (.type "tuple")
 |dK {a:Addr} {kvs:List (Key×V)} (e:H a=some (.dK kvs)):ug K H (.ref a) (.type "dict")
 |dT {a:Addr} {kvs:List (List Key×V)} (e:H a=some (.dT kvs)):ug K H (.ref a) (.type "dict")
 |ins {a C dx:Addr} {fs:List (Str×V)} (e:H a=some (.ins C dx fs)) (cl:Cls K C) (ha:PySem.W.findIn K (.ref C) "__class__"=some (some (.builtin "object.__class__")))
   (hn:PySem.W.specialIn K (.builtin "object.__class__") "__get__"=some (some (.builtin "getset_descriptor.__get__"))) (htk:PySem.W.takesIn K (.builtin "object.__class__")=some true)
   (hm:PySem.W.mroIn K C (.type "object")=some true):ug K H (.ref a) (.ref C)
theorem jy {x:V}{u t:Value}(I:Inv X pins σ H s)(rx:RelV x u)(ty:ug X.K H x t)(e:PySem.W.kitOne X.K t c=some b)(h:∀tk,Q (.bool b) {s with toks:=tk}):
  wpAny (model X.prog X.w) A (call (.builtin "isinstance") [u,c]) Q E s:=by
 cases ty with
 |non=>cases (show u=Value.none from rx);exact zw9 PySem.W.kitx_none I.kIn True.intro e (fun z=>nomatch z) h
 |bl y=>cases (show u=Value.bool y from rx);exact zw9 PySem.W.kitx_bool I.kIn True.intro e (fun z=>nomatch z) h
 |int i=>obtain⟨t,q⟩:=(show ∃t,u=Value.int i t from rx);cases q;exact zw9 PySem.W.kitx_int I.kIn True.intro e (fun z=>nomatch z) h
 |str y=>obtain⟨t,q⟩:=(show ∃t,u=Value.str y t from rx);cases q;exact zw9 PySem.W.kitx_str I.kIn True.intro e (fun z=>nomatch z) h
 |flt y=>obtain⟨t,q⟩:=(show ∃t,u=Value.float y t from rx);cases q;exact zw9 PySem.W.kitx_float I.kIn True.intro e (fun z=>nomatch z) h
 |@lst a xs ea=>
  cases (show u=Value.ref a from rx)
  obtain⟨_,_,n,_,h1⟩:=(show zY X.prog X.w H s.heap a (.lst xs) from I.hok a _ ea)
  exact zw9 PySem.W.kitx_list I.kIn ⟨_,h1,rfl⟩ e (fun z=>nomatch z) h
 |@frz a ob xs ea=>
  cases (show u=Value.ref a from rx)
  obtain⟨_,_,_,n,_,h1⟩:=(show zY X.prog X.w H s.heap a (.frz ob (.lst xs)) from I.hok a _ ea)
  exact zw9 PySem.W.kitx_list I.kIn ⟨_,h1,rfl⟩ e (fun z=>nomatch z) h
 |@tup a xs ea=>
  cases (show u=Value.ref a from rx)
  obtain⟨_,_,_,p⟩:=(show zY X.prog X.w H s.heap a (.tup xs) from I.hok a _ ea)
  obtain⟨o,h1,h2,_⟩:=p
  exact zw9 PySem.W.kitx_tuple I.kIn ⟨o,h1,h2⟩ e (fun z=>nomatch z) h
 |@dK a kvs ea=>
  cases (show u=Value.ref a from rx)
  obtain⟨_,_,vs,_,p⟩:=(show zY X.prog X.w H s.heap a (.dK kvs) from I.hok a _ ea)
  obtain⟨o,es,ep,h1,h2,_⟩:=p
  exact zw9 PySem.W.kitx_dict I.kIn ⟨o,h1,h2.1⟩ e (fun z=>nomatch z) h
 |@dT a kvs ea=>
  cases (show u=Value.ref a from rx)
  obtain⟨_,_,xs,_,o,es,ep,h1,h2,_⟩:=(show zY X.prog X.w H s.heap a (.dT kvs) from I.hok a _ ea)
  exact zw9 PySem.W.kitx_dict I.kIn ⟨o,h1,h2.1⟩ e (fun z=>nomatch z) h
 |@ins a C dx fs ea cl ha hn htk hm=>
  cases (show u=Value.ref a from rx)
  obtain⟨mA,O,_⟩:=tE I.hok ea
  obtain⟨od,J,_⟩:=O.look
  exact zw9 (PySem.W.kitx_own (cl.get _) cl.hd ha hn htk hm) I.kIn J e (fun z=>nomatch z) h
end
structure zP (k:Nat)(A:Around):Prop where
 hd:A.handled=none
 dp:A.depth+3*k+5<recursionLimit
 un:A.units+16*k+200<cLine
 gd:A.guards=some []
theorem zP.mono {j k:Nat}{A:Around}(r:zP k A)(h:j≤k):zP j A:=⟨r.hd,by have:=r.dp;omega,by have:=r.un;omega,r.gd⟩
theorem zP.deeper {k:Nat}{A:Around}(r:zP (k+1) A)(env:Env):zP k (A.deeper env):=
 ⟨r.hd,by have:=r.dp;show A.depth+1+3*k+5<_;omega,by have:=r.un;show A.units+3+16*k+200<_;omega,r.gd⟩
theorem zP.in1 {k:Nat}{A:Around}(r:zP (k+1) A):zP k A.in1:=
 ⟨r.hd,by have:=r.dp;show A.depth+3*k+5<_;omega,by have:=r.un;show A.units+1+16*k+200<_;omega,r.gd⟩
theorem lj {A:Around}{C:Addr}{us:List Value}{kw:List (Str×Value)}:(A.under (.builtin "type.__call__" ⟨.ref C::us,kw⟩)).depth=A.depth+1:=by
 first|rfl|simp[Around.under,Code.weight,Code.isCreation,Code.isGuard,Code.isCaller,Code.frames,Code.isFrame,guardIds]
theorem mh {A:Around}{C:Addr}{us:List Value}{kw:List (Str×Value)}:(A.under (.builtin "type.__call__" ⟨.ref C::us,kw⟩)).units=A.units+1:=by
 first|rfl|simp[Around.under,Code.cUnits,Code.frames,Code.isFrame]
theorem oT {A:Around}{C:Addr}{us:List Value}{kw:List (Str×Value)}:(A.under (.builtin "type.__call__" ⟨.ref C::us,kw⟩)).guards=A.guards:=by
 first|rfl|simp[Around.under,Code.guards,Code.isGuard,guardIds,pushGuards]
theorem zP.make {k:Nat}{A:Around}(r:zP (k+1) A)(C:Addr)(us:List Value)(kw:List (Str×Value)):zP k (A.under (.builtin "type.__call__" ⟨.ref C::us,kw⟩)):=
 ⟨r.hd,by have:=r.dp;rw[lj];omega,by have:=r.un;rw[mh];omega,(oT (A:=A)).trans r.gd⟩
theorem zP.depth {k:Nat}{A:Around}(r:zP k A):A.depth<recursionLimit:=by have:=r.dp;omega
theorem zP.units {k:Nat}{A:Around}(r:zP k A):A.units+64<cLine:=by have:=r.un;omega
def zk5 :TA:=fun _ H Q=>Q [] H
def zo4 (ta:TE)(tr:TA):TA:=fun σ H Q=>ta σ H fun x H1=>tr σ H1 fun xs H2=>Q (x::xs) H2
section
variable {X:Cx}{e:Expr}{es:List Expr}{te:TE}{t:TA}{pos:Pos}
theorem zt :PA X [] zk5:=fun _ _ _ _ H Q I h=>Calls.spliced_nil ⟨[],H,I,.nil,h⟩
theorem zc (ha:PE X e te)(hr:PA X es t)(hs:starEach (e::es) X.env=(false,eval e X.env)::starEach es X.env:=by rfl):PA X (e::es) (zo4 te t):=by
 intro pos pins s σ H Q I h
 rw[hs]
 show wpAny _ _ (spliced ((false,eval e X.env)::backTo pos (starEach es X.env))) _ _ s
 refine Calls.spliced_cons (thn (ha pins s σ H _ I h) fun u s1 ⟨x,H1,I1,r1,q1⟩=>?_)
 exact thn (hr pos pins s1 σ H1 _ I1 q1) fun us s2 ⟨xs,H2,I2,r2,q2⟩=>⟨x::xs,H2,I2,.cons r1 r2,q2⟩
def zr8 (t:TA):TE:=fun σ H Q=>t σ H fun xs H1=>xs.length≤sizeLine∧∀p,H1 p=none→Q (.ref p) (upd H1 p (.tup xs))
def zr6 (t:TA):TE:=fun σ H Q=>t σ H fun xs H1=>xs.length≤sizeLine∧∀p,H1 p=none→Q (.ref p) (upd H1 p (.lst xs))
theorem qQ {x1}(h:PA X es t):PE X (.Tuple es x1 pos) (zr8 t):=by
 intro pins s σ H Q I hq
 refine wpAny_Tuple_spliced (thn (h pos pins s σ H _ I hq) fun us s1 ⟨xs,H1,I1,r,z,q⟩=>⟨by rw[←r.length];exact z,?_⟩)
 have hf:H1 s1.heap.objs.size=none:=I1.hok.fresh (zs9 _)
 refine⟨.ref s1.heap.objs.size,upd H1 s1.heap.objs.size (.tup xs),I1.laid (t':=s1.toks) (fun b u e=>zs5 _ e) (zs9 _) ?_,rfl,q _ hf⟩
 exact⟨z,us,r,⟨_,zt8 _ rfl,rfl,_,rfl⟩⟩
theorem cj (h:PA X es t):PE X (.List es pos) (zr6 t):=by
 intro pins s σ H Q I hq
 refine wpAny_List_spliced (thn (h pos pins s σ H _ I hq) fun us s1 ⟨xs,H1,I1,r,z,q⟩=>⟨by rw[←r.length];exact z,?_⟩)
 have hf:H1 s1.heap.objs.size=none:=I1.hok.fresh (zs9 _)
 refine⟨.ref s1.heap.objs.size,upd H1 s1.heap.objs.size (.lst xs),I1.laid (t':=s1.toks) (fun b u e=>zs5 _ e) (zs9 _) ?_,rfl,q _ hf⟩
 exact⟨z,us,0,r,zt8 _ rfl⟩
end
abbrev Sp :=List V→Hp→VK→XK→Prop
abbrev CXT :=List Env→Hp→Shared→XK→Value→Shared→Prop
structure uE (P:Program)(w:World)(K:PySem.W.Frag)(mg:Str→Option Value)(base:Heap)(A:Around)(outer:List Env)(s:Shared)(H:Hp):Prop where
 frames:A.frames=some outer
 mod:Mod K mg base
 bs:∀b o,base.get? b=some o→s.heap.get? b=some o∧H b=none
 bsz:base.objs.size≤s.heap.objs.size
 funs:s.heap.FunFrames base outer
 frf:∀b∈frs outer,H b=none
 hok:HOk P w H s.heap
 bare:AllBare s.gens
def CE (outer:List Env)(P:Program)(w:World)(H:Hp)(s:Shared)(Q:VK)(u:Value)(s':Shared):Prop:=
 ∃v H',s'.os=s.os∧AllBare s'.gens∧Un (frs outer) [] H H' s.heap s'.heap∧HOk P w H' s'.heap∧RelV v u∧Q v H'
def CR (CX:CXT)(outer:List Env)(P:Program)(w:World)(H:Hp)(s:Shared)(Q:VK)(E:XK)(r:Result)(s':Shared):Prop:=
 match r with
 |.ok (.ret u)=>CE outer P w H s Q u s'
 |.ok _=>False
 |.error e=>CX outer H s E e s'
structure zB (P:Program)(w:World)(K:PySem.W.Frag)(mg:Str→Option Value)(base:Heap)(CX:CXT)(k:Nat)(f:Addr)(fd:FuncData)(ps:List Str)(sp:Sp):Prop where
 len:∀vs H Q E,sp vs H Q E→vs.length=ps.length
 run:∀(A:Around) (outer:List Env) (s:Shared) (H:Hp) (args:Args) (us:List Value) (vs:List V) (Q:VK) (E:XK),zP k A→uE P w K mg base A outer s H→BindsTo s fd args (ps.zip us)→Vals vs us→sp vs H Q E→
  codeAny (model P w) A (.call (.ref f) args) (CR CX outer P w H s Q E) s
theorem zB.imp {P:Program}{w:World}{K:PySem.W.Frag}{mg:Str→Option Value}{base:Heap}{CX:CXT}{k:Nat}{f:Addr}{fd:FuncData}{ps:List Str}{sp sp':Sp}(F:zB P w K mg base CX k f fd ps sp)
  (h:∀vs H Q E,sp' vs H Q E→sp vs H Q E):zB P w K mg base CX k f fd ps sp':=
 ⟨fun vs H Q E q=>F.len vs H Q E (h _ _ _ _ q),fun A outer s H args us vs Q E hr he hb hv hs=>F.run A outer s H args us vs Q E hr he hb hv (h _ _ _ _ hs)⟩
theorem uE.make {P:Program}{w:World}{K:PySem.W.Frag}{mg:Str→Option Value}{base:Heap}{A:Around}{outer:List Env}{s:Shared}{H:Hp}(e:uE P w K mg base A outer s H)(C:Addr)(us:List Value)(kw:List (Str×Value)):
  uE P w K mg base (A.under (.builtin "type.__call__" ⟨.ref C::us,kw⟩)) outer s H:=⟨by first|exact e.frames|(simpa[Around.under,Code.envs,Code.isFrame,pushEnvs] using e.frames),e.mod,e.bs,e.bsz,e.funs,e.frf,e.hok,e.bare⟩
theorem uE.in1 {P:Program}{w:World}{K:PySem.W.Frag}{mg:Str→Option Value}{base:Heap}{A:Around}{outer:List Env}{s:Shared}{H:Hp}(e:uE P w K mg base A outer s H):
  uE P w K mg base A.in1 outer s H:=⟨e.frames,e.mod,e.bs,e.bsz,e.funs,e.frf,e.hok,e.bare⟩
section
variable {X:Cx}{pins:List (Addr×Obj)}{σ:St}{H:Hp}{s s':Shared}
theorem Inv.env0 (I:Inv X pins σ H s):uE X.prog X.w X.K X.mg X.base X.A X.stack s H:=
 ⟨I.ok.frames,I.ok.mod,I.bs,zw6 I.ok.bsz I.sz,I.stack,I.stkFree,I.hok,I.bare⟩
theorem Inv.after {Q:VK}{u:Value}(I:Inv X pins σ H s)(h:CE X.stack X.prog X.w H s Q u s'):EP X pins σ Q u s':=by
 obtain⟨v,H',os,bare,un,hok,r,q⟩:=h
 obtain⟨hh,g,d,t,os'⟩:=s'
 obtain rfl:os'=s.os:=os
 exact⟨v,H',I.call (h':=hh) (g':=g) (d':=d) (t':=t) (ch:=[]) un hok bare (fun b z=>absurd z (by simp)),r,q⟩
end
def zm6 (sp:Sp)(dvs:List V)(E:XK)(t:TA):TE:=fun σ H Q=>t σ H fun vs H1=>sp (vs++dvs) H1 Q E
def aX (C:Addr)(m:Str)(sp:Sp)(dvs:List V)(E:XK)(ta:TE)(t:TA):TE:=fun σ H Q=>ta σ H fun x H1=>∃a dx fs,x=.ref a∧H1 a=some (.ins C dx fs)∧fs.lookup m=none∧
 t σ H1 fun vs H2=>sp (x::(vs++dvs)) H2 Q E
def zl9 (C:Addr)(sp:Sp)(dvs:List V)(E:XK)(t:TA):TE:=fun σ H Q=>t σ H fun vs H1=>∀x dx,H1 x=none→H1 dx=none→dx≠x→
 sp (.ref x::(vs++dvs)) (upd (upd H1 dx (.own x)) x (.ins C dx [])) (fun v H2=>v=.non∧Q (.ref x) H2) E
def Binds (K:PySem.W.Frag)(fd:FuncData)(ps:List Str)(ds:List Value):Prop:=
 ∀(s:Shared) (us:List Value),K.In s.heap→(us++ds).length=ps.length→BindsTo s fd ⟨us,[]⟩ (ps.zip (us++ds))
theorem Binds.all {K:PySem.W.Frag}{fd:FuncData}{ps:List Str}(h:∀us:List Value,us.length=ps.length→bindArgs fd ⟨us,[]⟩=pure (ps.zip us)):Binds K fd ps []:=fun s us _ hl=>by
 rw[zz3] at hl ⊢
 exact .of_eq (h us hl)
def Passes (CX:CXT)(X:Cx)(E:XK):Prop:=∀(pins:List (Addr×Obj)) (σ:St) (H:Hp) (s:Shared) (e:Value) (s':Shared),Inv X pins σ H s→CX X.stack H s E e s'→X.xe e s'
section
variable {X:Cx}{CX:CXT}{k:Nat}{f C:Addr}{fd:FuncData}{ps:List Str}{sp:Sp}{dvs:List V}{ds:List Value}{E:XK}{x m:Str}{p pos apos:Pos}{e o:Expr}{es:List Expr}{ta:TE}{t:TA}
theorem lO {pins:List (Addr×Obj)}{σ:St}{H:Hp}{s:Shared}{Q:VK}{us:List Value}{vs:List V}(F:zB X.prog X.w X.K X.mg X.base CX k f fd ps sp)(hr:zP k X.A)(hb:Binds X.K fd ps ds)(hd:Vals dvs ds)(hx:Passes CX X E)
  (I:Inv X pins σ H s) (r:Vals vs us) (h:sp (vs++dvs) H Q E):wpAny (model X.prog X.w) X.A (call (.ref f) us) (EP X pins σ Q) X.xe s:=by
 have r2:Vals (vs++dvs) (us++ds):=r.append hd
 have hl:(us++ds).length=ps.length:=by rw[←r2.length];exact F.len _ _ _ _ h
 refine wpAny_call (zG2 (F.run X.A X.stack s H ⟨us,[]⟩ (us++ds) (vs++dvs) Q E hr I.env0 (hb s us I.kIn hl) r2 h) fun r s' hq=>?_)
 cases r with
 |error e=>exact hx pins σ H s e s' I hq
 |ok fl=>
  cases fl with
  |ret u=>exact I.after hq
  |next=>exact False.elim hq
  |brk=>exact False.elim hq
  |cont=>exact False.elim hq
theorem zQ (F:zB X.prog X.w X.K X.mg X.base CX k f fd ps sp)(hr:zP k X.A)(hg:Gl X x)(hm:X.mg x=some (.ref f))(hk:PySem.W.keepIn X.K (.ref f)=true)(hb:Binds X.K fd ps ds)(hd:Vals dvs ds)(hx:Passes CX X E)
  (ha:PA X (e::es) t) (hdb:(x == ("__debug__":Str))=false:=by decide) (he:starEach (e::es) X.env=(false,eval e X.env)::starEach es X.env:=by rfl) (hpl:(backTo pos (starEach es X.env)).any (·.1)=false:=by rfl):
  PE X (.Call (.Name x p) (e::es) [] pos) (zm6 sp dvs E t):=by
 intro pins s σ H Q I h
 refine zB6 (tu I hg hm ?_ hdb)
 refine zH2 (h₀:=X.base) I.ok.mod.kin hk (thn (ha pos pins s σ H _ I h) fun us s1 ⟨vs,H1,I1,r,q⟩=>⟨I1.kIn,?_⟩) he hpl
 exact lO F hr hb hd hx I1 r q
theorem cK {pl:Sem Bool}(he:PE X o ta)(c:Cls X.K C)(hm:Meth X.K C m f)(F:zB X.prog X.w X.K X.mg X.base CX k f fd ps sp)(hr:zP k X.A)(hb:Binds X.K fd ps ds)(hd:Vals dvs ds)(hx:Passes CX X E)(ha:PA X (e::es) t)
  (hst:starEach (e::es) X.env=(false,eval e X.env)::starEach es X.env:=by rfl) (hpl:(backTo pos (starEach es X.env)).any (·.1)=false:=by rfl)
  (ht:eval (.Call (.Attribute o m apos) (e::es) [] pos) X.env=(do
   let ov ←eval o X.env
   standAt apos.atName
   let (f,first) ←holding [ov] (getMethod ov m pl)
   callWith pos f first (backTo pos (starEach (e::es) X.env)) (backToKw pos (keywordEach [] X.env))):=by rfl):
  PE X (.Call (.Attribute o m apos) (e::es) [] pos) (aX C m sp dvs E ta t):=by
 intro pins s σ H Q I h
 refine zF6 (pl:=pl) (thn (he pins s σ H _ I h) fun u s1 ⟨x,H1,I1,rx,a,dx,fs,ex,ea,l,q⟩=>?_) ht
 subst ex
 obtain rfl:u=Value.ref a:=rx
 refine vH I1 ea c hm l ?_
 refine zH2 (first:=[.ref a]) (h₀:=X.base) I.ok.mod.kin hm.kp (thn (ha pos pins s1 σ H1 _ I1 q) fun us s2 ⟨vs,H2,I2,r,q2⟩=>⟨I2.kIn,?_⟩) hst hpl
 exact lO (us:=.ref a::us) (vs:=.ref a::vs) F hr hb hd hx I2 (.cons rfl r) q2
theorem nq {pl:Sem Bool}(he:PE X o ta)(c:Cls X.K C)(hm:Meth X.K C m f)(F:zB X.prog X.w X.K X.mg X.base CX k f fd ps sp)(hr:zP k X.A)(hb:Binds X.K fd ps ds)(hd:Vals dvs ds)(hx:Passes CX X E)
  (ht:eval (.Call (.Attribute o m apos) [] [] pos) X.env=(do
   let ov ←eval o X.env
   standAt apos.atName
   let (f,first) ←holding [ov] (getMethod ov m pl)
   callWith pos f first (backTo pos (starEach [] X.env)) (backToKw pos (keywordEach [] X.env))):=by rfl):
  PE X (.Call (.Attribute o m apos) [] [] pos) (aX C m sp dvs E ta zk5):=by
 intro pins s σ H Q I h
 refine zF6 (pl:=pl) (thn (he pins s σ H _ I h) fun u s1 ⟨x,H1,I1,rx,a,dx,fs,ex,ea,l,q⟩=>?_) ht
 subst ex
 obtain rfl:u=Value.ref a:=rx
 refine vH I1 ea c hm l ?_
 exact PySem.W.callWith_K0 (first:=[.ref a]) I1.kIn hm.kp (lO (us:=[.ref a]) (vs:=[.ref a]) F hr hb hd hx I1 (.cons rfl .nil) q)
structure Mk (K:PySem.W.Frag)(C f:Addr):Prop where
 makes:PySem.W.makesIn K C=true
 init:PySem.W.findIn K (.ref C) "__init__"=some (some (.ref f))
 fn:PySem.W.isFn K (.ref f)=true
 kp:PySem.W.keepIn K (.ref C)=true
theorem dz {pins:List (Addr×Obj)}{σ:St}{H:Hp}{s:Shared}{Q:VK}{us:List Value}{vs:List V}(M:Mk X.K C f)(F:zB X.prog X.w X.K X.mg X.base CX k f fd ps sp)(hr:zP (k+1) X.A)(hb:Binds X.K fd ps ds)(hd:Vals dvs ds)
  (hx:Passes CX X E) (I:Inv X pins σ H s) (r:Vals vs us)
  (h:∀x dx,H x=none→H dx=none→dx≠x→sp (.ref x::(vs++dvs)) (upd (upd H dx (.own x)) x (.ins C dx [])) (fun v H2=>v=.non∧Q (.ref x) H2) E):
  wpAny (model X.prog X.w) X.A (call (.ref C) us) (EP X pins σ Q) X.xe s:=by
 have hq:=h (s.heap.objs.size+1) s.heap.objs.size (I.hok.fresh (zC1 _)) (I.hok.fresh (zs9 _)) (zu4 (zC5 _))
 have I2:=Inv.made (C:=C) I
 have r2:Vals (V.ref (s.heap.objs.size+1)::(vs++dvs)) (Value.ref (s.heap.objs.size+1)::(us++ds)):=.cons rfl (r.append hd)
 have hl:(Value.ref (s.heap.objs.size+1)::us++ds).length=ps.length:=by
  have e:=r2.length
  rw[F.len _ _ _ _ hq] at e
  exact e.symm
 refine wpAny_call (dX (f:=f) I.kIn M.makes M.init (beq_iff_eq.mp M.fn) (zG2 (F.run _ X.stack _ _ ⟨Value.ref (s.heap.objs.size+1)::us,[]⟩ (Value.ref (s.heap.objs.size+1)::(us++ds)) _ _ E (hr.make C us [])
  (I2.env0.make C us []) (hb _ (Value.ref (s.heap.objs.size+1)::us) I2.kIn hl) r2 hq) fun r s' hq'=>?_))
 cases r with
 |error e=>exact hx pins σ _ _ e s' I2 hq'
 |ok fl=>
  cases fl with
  |ret u=>
   obtain⟨v,H',I3,rv,ev,q3⟩:=I2.after hq'
   subst ev
   exact⟨rv,⟨V.ref (s.heap.objs.size+1),H',I3,rfl,q3⟩⟩
  |next=>exact False.elim hq'
  |brk=>exact False.elim hq'
  |cont=>exact False.elim hq'
theorem xK (M:Mk X.K C f)(F:zB X.prog X.w X.K X.mg X.base CX k f fd ps sp)(hr:zP (k+1) X.A)(hg:Gl X x)(hm:X.mg x=some (.ref C))(hb:Binds X.K fd ps ds)(hd:Vals dvs ds)(hx:Passes CX X E)
  (ha:PA X (e::es) t) (hdb:(x == ("__debug__":Str))=false:=by decide) (he:starEach (e::es) X.env=(false,eval e X.env)::starEach es X.env:=by rfl) (hpl:(backTo pos (starEach es X.env)).any (·.1)=false:=by rfl):
  PE X (.Call (.Name x p) (e::es) [] pos) (zl9 C sp dvs E t):=by
 intro pins s σ H Q I h
 refine zB6 (tu I hg hm ?_ hdb)
 refine zH2 (h₀:=X.base) I.ok.mod.kin M.kp (thn (ha pos pins s σ H _ I h) fun us s1 ⟨vs,H1,I1,r,q⟩=>⟨I1.kIn,?_⟩) he hpl
 exact dz M F hr hb hd hx I1 r q
end
section
variable {X:Cx}{CX:CXT}{k:Nat}{f C:Addr}{fd:FuncData}{ps ks:List Str}{sp:Sp}{E:XK}{x m:Str}{p pos apos kpos:Pos}{e o:Expr}{es:List Expr}{kws:List Keyword}{te ta:TE}{t tk:TA}{nm:Option Str}
variable {g:List Value→List Value→List Value}{gV:List V→List V→List V}
end
structure zm (N P:List Str)(sc:Scope):Prop where
 kind:sc.kind=.function
 co:sc.isCoroutine=false
 gen:sc.isGenerator=false
 nd:N.Nodup
 pre:N.take P.length=P
 par:∀x∈P,sc.names.lookup x=some .local∨sc.names.lookup x=some .cell
 nofree:∀y∈sc.names,y.2≠.free
theorem rV {kindOf:Str→Option NameKind}{x:Str}:∀{binds:List (Str×Value)} {m:Str→Option Value},(∀v,(x,v)∉binds)→bindL kindOf binds m x=m x
 |[],_,_=>rfl
 |(n,v)::r,m,h=>by
  unfold bindL
  rw[rV fun w hw=>h w (zt4 _ hw)]
  split
  ·have:x≠n:=by rintro rfl;exact h v zt7
   simp[this]
  ·rfl
theorem qt {kindOf:Str→Option NameKind}{x:Str}:∀{binds:List (Str×Value)} {m:Str→Option Value},(∀v,(x,v)∉binds)→bindC kindOf binds m x=m x
 |[],_,_=>rfl
 |(n,v)::r,m,h=>by
  unfold bindC
  rw[qt fun w hw=>h w (zt4 _ hw)]
  split
  ·rfl
  ·have:x≠n:=by rintro rfl;exact h v zt7
   simp[this]
theorem rX {kindOf:Str→Option NameKind}{x:Str}{v:Value}:∀{P:List Str} {vs:List Value} {i:Nat} {m:Str→Option Value},P.Nodup→P[i]?=some x→vs[i]?=some v→kindOf x=some .local→
  bindL kindOf (P.zip vs) m x=some v
 |[],_,_,_,_,h,_,_=>by simp at h
 |_::_,[],_,_,_,_,h,_=>by simp at h
 |p::P,w::vs,0,m,nd,h1,h2,hk=>by
  simp at h1 h2;subst h1;subst h2
  show bindL kindOf ((p,w)::P.zip vs) m p=_
  unfold bindL
  rw[rV fun v hv=>(zD3.mp nd).1 (List.of_mem_zip hv).1,if_pos hk]
  simp
 |p::P,w::vs,i+1,m,nd,h1,h2,hk=>by
  show bindL kindOf ((p,w)::P.zip vs) m x=_
  unfold bindL
  exact rX (i:=i) (zD3.mp nd).2 (by simpa using h1) (by simpa using h2) hk
theorem qz {kindOf:Str→Option NameKind}{x:Str}{v:Value}:∀{P:List Str} {vs:List Value} {i:Nat} {m:Str→Option Value},P.Nodup→P[i]?=some x→vs[i]?=some v→kindOf x≠some .local→
  bindC kindOf (P.zip vs) m x=some v
 |[],_,_,_,_,h,_,_=>by simp at h
 |_::_,[],_,_,_,_,h,_=>by simp at h
 |p::P,w::vs,0,m,nd,h1,h2,hk=>by
  simp at h1 h2;subst h1;subst h2
  show bindC kindOf ((p,w)::P.zip vs) m p=_
  unfold bindC
  rw[qt fun v hv=>(zD3.mp nd).1 (List.of_mem_zip hv).1,if_neg hk]
  simp
 |p::P,w::vs,i+1,m,nd,h1,h2,hk=>by
  show bindC kindOf ((p,w)::P.zip vs) m x=_
  unfold bindC
  exact qz (i:=i) (zD3.mp nd).2 (by simpa using h1) (by simpa using h2) hk
def start (N:List Str)(vs:List V):St:=vs.map some++List.replicate (N.length-vs.length) none
def vQ (CX:CXT)(P:Program)(w:World)(K:PySem.W.Frag)(mg:Str→Option Value)(base:Heap)(N:List Str)(qual:Str)(scope:Scope)(f:Addr)(cd:Value)(A:Around)(outer:List Env)(s:Shared)(H:Hp)(E:XK):Cx where
 prog:=P
 w:=w
 K:=K
 mg:=mg
 base:=base
 A:=A.deeper (envOfC qual scope s.heap.objs.size f cd)
 N:=N
 s₀:=s
 H₀:=H
 env:=envOfC qual scope s.heap.objs.size f cd
 outer:=outer
 stack:=envOfC qual scope s.heap.objs.size f cd::outer
 ex:=[]
 calm:=true
 fn:=fun _=>true
 pn:=[]
 xe:=fun e s'=>wpAny (model P w) (A.deeper (envOfC qual scope s.heap.objs.size f cd)) (leaving (envOfC qual scope s.heap.objs.size f cd) e) (fun _ s''=>CX outer H s E e s'') (fun e' s''=>CX outer H s E e' s'') s'
theorem oq {sc:Scope}{n:Nat}{x:Str}(h:sc.names.lookup x=some .cell):∃c,(cellsFrom n sc.names []).lookup x=some c:=by
 have q:=PySem.W.cellsFrom_some sc.names n [] (.inl h)
 exact Option.isSome_iff_exists.mp q
theorem jW {CX:CXT}{P:Program}{w:World}{K:PySem.W.Frag}{mg:Str→Option Value}{base:Heap}{N ps:List Str}{qual:Str}{scope:Scope}{f:Addr}{cd:Value}{A:Around}{outer:List Env}{s s1:Shared}{H:Hp}{E:XK}{us:List Value}{vs:List V}
  (S:zm N ps scope) (hd:A.handled=none) (e0:uE P w K mg base A outer s H) (hl:vs.length=ps.length) (r:Vals vs us)
  (x:InCallC s s.heap.objs.size (bindL (envOfC qual scope s.heap.objs.size f cd).kindOf (ps.zip us) fun _=>none) (cellsFrom (s.heap.objs.size+1) scope.names []) (bindC (envOfC qual scope s.heap.objs.size f cd).kindOf (ps.zip us) fun _=>none) s1):
  Inv (vQ CX P w K mg base N qual scope f cd A outer s H E) [] (start N vs) H s1:=by
 have hpl:ps.length≤N.length:=by have:=congrArg List.length S.pre;rw[zu9] at this;omega
 obtain⟨h1,tk,rfl,hk⟩:=x.done
 have noA:∀b:Addr,b∉(vQ CX P w K mg base N qual scope f cd A outer s H E).ex:=fun b z=>absurd (show b∈([]:List Addr) from z) (by simp)
 refine⟨⟨e0.mod,S.kind,rfl,rfl,zs9 _,fun y z c h1 h2=>?_,fun y hy=>?_,fun y c _ h=>?_,fun _=>hd,Around.frames_deeper e0.frames,.inr ⟨rfl,rfl⟩,fun b z=>absurd z (noA b),e0.bs,e0.bsz,fun b _ _=>noA b,fun b z=>absurd z (noA b),e0.funs,e0.frf⟩,
  rfl,e0.bare,Un.kept hk,⟨_,x.toInCall.ns,fun i y v h1 h2 h3=>?_⟩,fun y c h=>⟨_,x.cell y c h⟩,e0.hok.fresh (zs9 _),fun y c h=>?_,fun p hp=>absurd (show p∈([]:List (Addr×Obj)) from hp) (by simp),e0.hok.kept hk,?_⟩
 ·exact name_of_addr x.apart (zw4 h1) (zw4 h2)
 ·have hy:scope.names.lookup y=some .cell∨scope.names.lookup y=some .free:=hy
  rcases hy with hy|hy
  ·exact oq hy
  ·exact absurd rfl (S.nofree _ (zw4 hy))
 ·exact zy5 (x.above y c (zw4 h))
 ·have hi:i<vs.length:=by
   unfold start at h2
   by_cases hi:i<vs.length
   ·exact hi
   ·rw[zA2 (by simpa using hi)] at h2
    rw[zz6] at h2
    split at h2<;>cases h2
  have ha:vs[i]?=some v:=by
   unfold start at h2
   rw[zx5 (by simpa using hi),zu0] at h2
   cases e:vs[i]? with
   |none=>rw[e] at h2;cases h2
   |some a=>rw[e] at h2;cases h2;rfl
  obtain⟨u,hu,rv⟩:=r.get ha
  have hp:ps[i]?=some y:=by
   rw[←S.pre,zE1 (by omega)];exact h1
  have ndP:ps.Nodup:=by rw[←S.pre];exact S.nd.sublist (List.take_sublist _ _)
  refine⟨u,rv,?_⟩
  rcases S.par y (zz4 hp) with k|k
  ·exact .inl ⟨k,rX ndP hp hu k⟩
  ·obtain⟨c,e⟩:=oq (n:=s.heap.objs.size+1) k
   refine .inr ⟨.inl k,c,e,?_⟩
   have q:=x.cell y c e
   rw[qz ndP hp hu (by show scope.names.lookup y≠_;rw[k];decide)] at q
   exact q
 ·exact e0.hok.fresh (zy5 (x.above y c (zw4 h)))
 ·unfold start
  show _=N.length
  rw[zu3,zs4,List.length_replicate]
  omega
theorem iP {CX:CXT}{P:Program}{w:World}{K:PySem.W.Frag}{mg:Str→Option Value}{base:Heap}{k:Nat}{f:Addr}{name qual:Str}{params:Arguments}{body:List Stmt}{scope:Scope}{dV kV doc pm cdv ct oc:Value}{an od:Option Addr}
  {osl:Array (Option Value)} {N ps:List Str} {sp:Sp} (lk:K.lookup f=some ⟨oc,od,.func (PySem.W.fnOf name qual params body scope dV kV doc pm an cdv ct),osl⟩) (hcd:PySem.W.codeIn K cdv qual=true) (S:zm N ps scope)
  (len:∀vs H Q E,sp vs H Q E→vs.length=ps.length)
  (hbody:∀(A:Around) (outer:List Env) (s:Shared) (H:Hp) (vs:List V) (Q:VK) (E:XK),zP k (A.deeper (envOfC qual scope s.heap.objs.size f cdv))→sp vs H Q E→
   ∃t,PSs (vQ CX P w K mg base N qual scope f cdv A outer s H E) body t∧t {nx:=fun _ H'=>Q .non H',rt:=Q} (start N vs) H):
  zB P w K mg base CX (k+1) f (PySem.W.fnOf name qual params body scope dV kV doc pm an cdv ct) ps sp:=by
 refine⟨len,fun A outer s H args us vs Q E hr e0 hb r hsp=>?_⟩
 have hl:=len _ _ _ _ hsp
 have KX:K.In s.heap:=e0.mod.kin.keeps fun b o e=>(e0.bs b o e).1
 have lim:s.heap.NoLimit:=e0.mod.nolimit.keeps fun b o e=>(e0.bs b o e).1
 have hkind:∀y∈ps.zip us,scope.names.lookup y.1=some .local∨(scope.names.lookup y.1=some .cell∧((cellsFrom (s.heap.objs.size+1) scope.names []).lookup y.1).isSome=true):=fun⟨n,v⟩ hy=>by
  rcases S.par n (List.of_mem_zip hy).1 with q|q
  ·exact .inl q
  ·exact .inr ⟨q,PySem.W.cellsFrom_some _ _ _ (.inl q)⟩
 refine codeAny_call_function hr.depth (KX _ _ lk) rfl S.co S.gen rfl (PySem.W.codeRec_of KX hcd) (hb _ _ _ _ ?_)
 refine wpAny_newFunctionEnv_cells S.kind hkind fun env he s1 x=>?_
 subst he
 refine⟨lim.keeps x.toInCall.keep,codeAny_func ?_⟩
 obtain⟨t,ht,hq⟩:=hbody A outer s H vs Q E (hr.deeper _) hsp
 have I:Inv (vQ CX P w K mg base N qual scope f cdv A outer s H E) [] (start N vs) H s1:=jW S hr.hd e0 hl r x
 refine zv6 (ht [] s1 (start N vs) H _ I hq) (fun fl s' hs=>?_) fun e s' hs=>hs
 have fin:∀{σ':St} {H':Hp} {v:V} {u:Value},Inv (vQ CX P w K mg base N qual scope f cdv A outer s H E) [] σ' H' s'→RelV v u→Q v H'→CE outer P w H s Q u s':=
  fun {σ' H' v u} J rv q=>⟨v,H',J.os,J.bare,J.base,J.hok,rv,q⟩
 cases fl with
 |ret u=>
  obtain⟨v,σ',H',J,rv,q⟩:=hs
  exact fin J rv q
 |next=>
  obtain⟨σ',H',J,q⟩:=hs
  exact fin (v:=V.non) (u:=Value.none) J rfl q
 |brk=>
  obtain⟨_,_,_,q⟩:=hs
  exact False.elim q
 |cont=>
  obtain⟨_,_,_,q⟩:=hs
  exact False.elim q
section
variable {X:Cx}{x:Str}{p pos:Pos}{e:Expr}{es:List Expr}{t:TA}{id T:String}{r:List V→Hp→VK→Prop}
def tCB (r:List V→Hp→VK→Prop)(t:TA):TE:=fun σ H Q=>t σ H fun vs H1=>r vs H1 Q
theorem ya (hc:we X (.builtin id) r)(hg:Gl X x)(hm:X.mg x=none)(hv:bootBuiltins x=some (.builtin id))(ha:PA X (e::es) t)(hn:x≠"__name__":=by decide)(hdb:(x == ("__debug__":Str))=false:=by decide)
  (he:starEach (e::es) X.env=(false,eval e X.env)::starEach es X.env:=by rfl) (hpl:(backTo pos (starEach es X.env)).any (·.1)=false:=by rfl):PE X (.Call (.Name x p) (e::es) [] pos) (tCB r t):=by
 intro pins s σ H Q I h
 refine zB6 (wF I hg hm hv ?_ hn hdb)
 exact PyProof.Rows.callWith_builtin1 (thn (ha pos pins s σ H _ I h) fun us s1 ⟨vs,H1,I1,r1,q1⟩=>hc pins s1 σ H1 vs us Q I1 r1 q1) he hpl
theorem vt (hc:we X (.type T) r)(hg:Gl X x)(hm:X.mg x=none)(hv:bootBuiltins x=some (.type T))(ha:PA X (e::es) t)(hn:x≠"__name__":=by decide)(hdb:(x == ("__debug__":Str))=false:=by decide)
  (he:starEach (e::es) X.env=(false,eval e X.env)::starEach es X.env:=by rfl) (hpl:(backTo pos (starEach es X.env)).any (·.1)=false:=by rfl):PE X (.Call (.Name x p) (e::es) [] pos) (tCB r t):=by
 intro pins s σ H Q I h
 refine zB6 (wF I hg hm hv ?_ hn hdb)
 exact zx1 (thn (ha pos pins s σ H _ I h) fun us s1 ⟨vs,H1,I1,r1,q1⟩=>hc pins s1 σ H1 vs us Q I1 r1 q1) he hpl
end
end L2
namespace HT
open PySem PyProof.Rows
section
open PySem.SeqAt
open PySem.AutoSeq1 (wpAny_loadPart')
open PySem.MeetsSeq PySem.MeetsSeq2 PySem.MeetsSeq3
end
section
variable {prog:Program}{w:World}{A:Around}{E:Value→Shared→Prop}{s:Shared}
def sIx (n d:Nat):Option Int→Nat
 |none=>d
 |some v=>if v<0 then (v+(n:Int)).toNat else min v.toNat n
theorem ny (n d:Nat):sIx n d none=d:=rfl
theorem jg (n d k:Nat):sIx n d (some (k:Int))=min k n:=by
 show (if (k:Int)<0 then ((k:Int)+(n:Int)).toNat else min (k:Int).toNat n)=min k n
 rw[if_neg (by omega),zA4]
end
end HT
namespace L2
open PySem PySem.Spec PyProof.Rows
abbrev TO :=St→Hp→(Option Int→Hp→Prop)→Prop
def PO (X:Cx)(e:Option Expr)(t:TO):Prop:=
 ∀(pins:List (Addr×Obj)) (s:Shared) (σ:St) (H:Hp) (Q:Option Int→Hp→Prop),Inv X pins σ H s→t σ H Q→
  wpAny (model X.prog X.w) X.A (evalPart e X.env) (fun u s'=>∃o H',Inv X pins σ H' s'∧IsPart u o∧Q o H') X.xe s
def bB :TO:=fun _ H Q=>Q none H
def zn5 (t:TE):TO:=fun σ H Q=>t σ H fun x H1=>∃i,x=.int i∧Q (some i) H1
section
variable {X:Cx}{e:Expr}{te:TE}{lo hi:Option Expr}{tl th:TO}{pos p2:Pos}
theorem pA :PO X none bB:=by
 intro pins s σ H Q I h
 rw[evalPart_none]
 exact zt2 ⟨none,H,I,.none,h⟩
theorem qK (h:PE X e te):PO X (some e) (zn5 te):=by
 intro pins s σ H Q I hw
 rw[evalPart_some]
 refine thn (h pins s σ H _ I hw) fun u s1 ⟨x,H1,I1,r1,q1⟩=>?_
 obtain⟨i,rfl,q⟩:=q1
 obtain⟨t,rfl⟩:=r1
 exact⟨some i,H1,I1,.int i t,q⟩
def SlR (X:Cx)(r:V→Option Int→Option Int→Hp→VK→Prop):Prop:=
 ∀(pins:List (Addr×Obj)) (s:Shared) (σ:St) (H:Hp) (x:V) (v vl vu:Value) (lo hi:Option Int) (sl:Addr) (Q:VK),Inv X pins σ H s→RelV x v→s.heap.IsSliceOf sl vl vu .none→IsPart vl lo→IsPart vu hi→r x lo hi H Q→
  ∃T id,typeLookup (.type T) "__getitem__"=pure (some (.builtin id))∧s.TypeIs v T∧wpAny (model X.prog X.w) X.A (getItem v (.ref sl)) (EP X pins σ Q) X.xe s
def tSl (r:V→Option Int→Option Int→Hp→VK→Prop)(te:TE)(tl th:TO):TE:=fun σ H Q=>te σ H fun x H1=>tl σ H1 fun l H2=>th σ H2 fun u H3=>r x l u H3 Q
theorem sN {r:V→Option Int→Option Int→Hp→VK→Prop}(hr:SlR X r)(he:PE X e te)(hl:PO X lo tl)(hu:PO X hi th):PE X (.Subscript e (.Slice lo hi none p2) pos) (tSl r te tl th):=by
 intro pins s σ H Q I h
 refine Subscript_ (thn (he pins s σ H _ I h) fun v s1 ⟨x,H1,I1,r1,q1⟩=>?_)
 refine wpAny_Slice (thn (hl pins s1 σ H1 _ I1 q1) fun vl s2 ⟨l,H2,I2,pl,q2⟩=>thn (hu pins s2 σ H2 _ I2 q2) fun vu s3 ⟨u,H3,I3,pu,q3⟩=>?_)
 rw[evalPart_none]
 refine zt2 ?_
 have I4:Inv X pins σ H3 {s3 with heap:=s3.heap.push {cls:=.type "slice",data:=.fields #[vl,vu,.none]}}:=I3.kept (t':=s3.toks) fun b ob q=>zs5 _ q
 obtain⟨T,id,hT,ht,hg⟩:=hr pins {s3 with heap:=s3.heap.push {cls:=.type "slice",data:=.fields #[vl,vu,.none]}} σ H3 x v vl vu l u s3.heap.objs.size Q I4 r1 (Heap.IsSliceOf.new ..) pl pu q3
 show wpAny (model X.prog X.w) X.A (subscriptTail e (.Slice lo hi none p2) v (.ref s3.heap.objs.size)) (EP X pins σ Q) X.xe {s3 with heap:=s3.heap.push {cls:=.type "slice",data:=.fields #[vl,vu,.none]}}
 exact tail_any (ops:=[.ref s3.heap.objs.size,v]) ht hT hg (by with_unfolding_all rfl)
def nF (xs:List V)(lo hi:Option Int):List V:=(xs.drop (HT.sIx xs.length 0 lo)).take (HT.sIx xs.length xs.length hi-HT.sIx xs.length 0 lo)
theorem nR (xs:List V)(lo hi:Option Int):(nF xs lo hi).length≤xs.length:=by
 unfold nF
 rw[zu9,zx2]
 omega
end
def ixN (n:Nat)(i:Int):Option Nat:=if 0≤i then (if i<n then some i.toNat else none) else if -(n:Int)≤i then some (i+n).toNat else none
def atI {α:Type}(xs:List α)(i:Int):Option α:=(ixN xs.length i).bind fun j=>xs[j]?
theorem pw {n:Nat}{i:Int}{j:Nat}(h:ixN n i=some j):seqIndex? i n=some j∧j<n∧-(n:Int)≤i∧i<n:=by
 unfold ixN at h
 by_cases h0:0≤i
 ·rw[if_pos h0] at h
  by_cases h1:i<n
  ·rw[if_pos h1] at h
   have e:i.toNat=j:=zv0 h
   exact⟨by rw[seqIndex_of h0 h1,e],by omega,by omega,h1⟩
  ·rw[if_neg h1] at h;cases h
 ·rw[if_neg h0] at h
  by_cases h1:-(n:Int)≤i
  ·rw[if_pos h1] at h
   have e:(i+n).toNat=j:=zv0 h
   exact⟨by rw[seqIndex_neg (by omega) h1,e],by omega,h1,by omega⟩
  ·rw[if_neg h1] at h;cases h
theorem qW {α:Type}{xs:List α}{i:Int}{v:α}(h:atI xs i=some v):∃j,seqIndex? i xs.length=some j∧xs[j]?=some v∧j<xs.length∧-(xs.length:Int)≤i∧i<xs.length:=by
 unfold atI at h
 cases e:ixN xs.length i with
 |none=>rw[e] at h;cases h
 |some j=>
  rw[e] at h
  obtain⟨h1,h2,h3,h4⟩:=pw e
  exact⟨j,h1,h,h2,h3,h4⟩
theorem yY {α:Type}{xs:List α}{j:Nat}{v:α}(h:xs[j]?=some v):atI xs (j:Int)=some v:=by
 have hj:j<xs.length:=(zt0.mp h).1
 have e:ixN xs.length (j:Int)=some j:=by
  unfold ixN
  rw[if_pos (by omega),if_pos (by omega)];simp
 unfold atI;rw[e];exact h
def tw (b:Expr):Prop:=∀o i,subscripted b false o i=operate [o,i] (getItem o i)
def IxR (X:Cx)(r:R2):Prop:=
 ∀(value slice:Expr) (pins:List (Addr×Obj)) (s:Shared) (σ:St) (H:Hp) (x y:V) (v u:Value) (Q:VK),Inv X pins σ H s→RelV x v→RelV y u→r x y H Q→
  subscripted slice false v u=operate [v,u] (getItem v u)→wpAny (model X.prog X.w) X.A (subscriptTail value slice v u) (EP X pins σ Q) X.xe s
def MtR (X:Cx)(id:String)(r:V→List V→Hp→VK→Prop):Prop:=
 ∀(pins:List (Addr×Obj)) (s:Shared) (σ:St) (H:Hp) (x:V) (xs:List V) (v:Value) (us:List Value) (Q:VK),Inv X pins σ H s→RelV x v→Vals xs us→r x xs H Q→
  wpAny (model X.prog X.w) X.A (call (.builtin id) (v::us)) (EP X pins σ Q) X.xe s
section
variable {X:Cx}{a b:Expr}{ta tb:TE}{pos:Pos}
theorem IxR.or {r r':R2}(h:IxR X r)(h':IxR X r'):IxR X (fun x y H Q=>r x y H Q∨r' x y H Q):=by
 intro value slice pins s σ H x y v u Q I rx ry q hs
 rcases q with q|q
 ·exact h value slice pins s σ H x y v u Q I rx ry q hs
 ·exact h' value slice pins s σ H x y v u Q I rx ry q hs
theorem zM {r:R2}(hr:IxR X r)(ha:PE X a ta)(hb:PE X b tb)(hs:tw b):PE X (.Subscript a b pos) (tOp r ta tb):=by
 intro pins s σ H Q I h
 exact Subscript_ (zi2 ha hb I h fun v u s2 x y H2 I2 rx ry q=>hr a b pins s2 σ H2 x y v u Q I2 rx ry q (hs _ _))
def zc0 (K:PySem.W.Frag):R2:=fun x y H Q=>∃p xs i v,x=.ref p∧y=.int i∧SqL K H p xs∧atI xs i=some v∧Q v H
def zi0 (K:PySem.W.Frag):R2:=fun x y H Q=>∃p xs i v,x=.ref p∧y=.int i∧SqT K H p xs∧atI xs i=some v∧Q v H
def zj4 :R2:=fun x y H Q=>∃z i c,x=.str z∧y=.int i∧z.length≤sizeLine∧atI z.cps.toList i=some c∧Q (.str ⟨#[c]⟩) H
theorem zR :IxR X (zc0 X.K):=by
 intro value slice pins s σ H x y v u Q I rx ry h hs
 obtain⟨p,xs,i,z,rfl,rfl,hq,he,q⟩:=h
 cases rx
 obtain⟨t,rfl⟩:=ry
 obtain⟨its,r,pl,hz⟩:=I.list hq
 obtain⟨j,h1,h2,h3,h4,h5⟩:=qW he
 obtain⟨w,ew,rw'⟩:=r.get h2
 have hl:=r.length
 have hn:=uC
 have fin:EP X pins σ Q w s:=⟨z,H,I,rw',q⟩
 by_cases h0:0≤i
 ·have hj:i.toNat=j:=by
   rw[seqIndex_of h0 h5] at h1
   exact zv0 h1
  exact item_listR pl.isList h0 (by omega) (by rw[hj];simpa using ew) fin hs
 ·have hj:(i+(its.toArray.size:Int)).toNat=j:=by
   rw[seqIndex_neg (by omega) h4] at h1
   rw[zt1,←hl]
   exact zv0 h1
  exact subscriptTail_builtinR (x:=w) pl.isList.typeIs slot_list_getitem.lookup
   (wpAny_getItem_list_neg (Q:=fun r s'=>r=w∧EP X pins σ Q r s') pl.isList (by omega) (by rw[zt1]<;>omega) (by omega) (by rw[hj];simpa using ew) ⟨rfl,fin⟩) hs
theorem yz :IxR X (zi0 X.K):=by
 intro value slice pins s σ H x y v u Q I rx ry h hs
 obtain⟨p,xs,i,z,rfl,rfl,hq,he,q⟩:=h
 cases rx
 obtain⟨t,rfl⟩:=ry
 obtain⟨its,r,pl,hz⟩:=I.tuple hq
 obtain⟨j,h1,h2,h3,h4,h5⟩:=qW he
 obtain⟨w,ew,rw'⟩:=r.get h2
 have hl:=r.length
 have hn:=uC
 have fin:EP X pins σ Q w s:=⟨z,H,I,rw',q⟩
 exact subscriptTail_builtinR (x:=w) pl.typeIs slot_tuple_getitem.lookup
  (getItem_tuple (j:=j) (Q:=fun r s'=>r=w∧EP X pins σ Q r s') pl (by omega) (by omega) (by rw[zt1,←hl];exact h1) (by simpa using ew) ⟨rfl,fin⟩) hs
theorem ze3 :IxR X zj4:=by
 intro value slice pins s σ H x y v u Q I rx ry h hs
 obtain⟨z,i,c,rfl,rfl,hz,he,q⟩:=h
 obtain⟨t,rfl⟩:=rx
 obtain⟨t',rfl⟩:=ry
 obtain⟨j,h1,h2,h3,h4,h5⟩:=qW he
 have hl:z.cps.toList.length=z.length:=by simp[Str.length]
 rw[hl] at h1 h4 h5
 have hn:=uC
 exact tail_any (typeIs_str s z t) slot_str_getitem.lookup (getItem_str (c:=c) (by
  have e1:decide (i < -(2 ^ 63:Int))=false:=zv5 (by omega)
  have e2:decide (i≥2 ^ 63)=false:=zv5 (by omega)
  rw[e1,e2,Bool.or_false]) (by rw[h1];simpa using h2) ⟨.str ⟨#[c]⟩,H,I.tok _,⟨_,rfl⟩,q⟩) hs
def rIx (K:PySem.W.Frag):R2:=fun x y H Q=>zc0 K x y H Q∨zi0 K x y H Q∨zj4 x y H Q
theorem zc2 :IxR X (rIx X.K):=zR.or (yz.or ze3)
theorem mn (its:List Value)(n j:Nat)(u:Value):Obj.mapSeq (·.setIfInBounds j u) {cls:=.type "list",data:=.seq its.toArray n}={cls:=.type "list",data:=.seq (its.set j u).toArray n}:=by
 simp[Obj.mapSeq]
theorem Inv.lst {pins:List (Addr×Obj)}{σ:St}{H:Hp}{s:Shared}{p:Addr}{xs:List V}(I:Inv X pins σ H s)(h:H p=some (.lst xs)):
  ∃(its:List Value) (n:Nat),Vals xs its∧s.heap.get? p=some {cls:=.type "list",data:=.seq its.toArray n}∧xs.length≤sizeLine:=by
 obtain⟨z,its,n,r,e⟩:=I.hok p _ h
 exact⟨its,n,r,e,z⟩
theorem Inv.lstUpd {pins:List (Addr×Obj)}{σ:St}{H:Hp}{s:Shared}{p:Addr}{xs ys:List V}{its its':List Value}{n n':Nat}{f:Obj→Obj}(I:Inv X pins σ H s)(h:H p=some (.lst xs))
  (ho:s.heap.get? p=some {cls:=.type "list",data:=.seq its.toArray n}) (hf:f {cls:=.type "list",data:=.seq its.toArray n}={cls:=.type "list",data:=.seq its'.toArray n'}) (r:Vals ys its') (hz:ys.length≤sizeLine) (t:Nat):
  Inv X pins σ (upd H p (.lst ys)) {s with heap:=s.heap.update p f,toks:=t}:=by
 have e:(s.heap.update p f).get? p=some {cls:=.type "list",data:=.seq its'.toArray n'}:=by
  rw[Heap.get?_update_self f ho (by rw[hf]<;>rfl),hf]
 refine I.write (x:=p) (e:=p) (by rw[h];trivial) (.inl rfl) (fun b u hb q=>(zw2 _ _ (zv8 hb)).trans q) ⟨_,e⟩ ?_
 exact⟨hz,its',n',r,e⟩
def aW :V→V→V→Hp→(Hp→Prop)→Prop:=fun o i v H Q=>∃p xs k j,o=.ref p∧i=.int k∧H p=some (.lst xs)∧ixN xs.length k=some j∧Q (upd H p (.lst (xs.set j v)))
theorem set_list :zn4 X aW:=by
 intro pins s σ H o i v ov iv u Q I ro ri rv h
 obtain⟨p,xs,k,j,rfl,rfl,hp,hj,q⟩:=h
 cases ro
 obtain⟨t,rfl⟩:=ri
 obtain⟨its,n,r,ho,hz⟩:=I.lst hp
 obtain⟨h1,h2,h3,h4⟩:=pw hj
 have hl:=r.length
 have hn:=uC
 have I':Inv X pins σ (upd H p (.lst (xs.set j v))) {s with heap:=s.heap.update p (Obj.mapSeq (·.setIfInBounds j u))}:=
  I.lstUpd hp ho (mn its n j u) (r.set rv j) (by rw[zx6];exact hz) s.toks
 by_cases h0:0≤k
 ·have hk:k.toNat=j:=by
   rw[seqIndex_of h0 h4] at h1
   exact zv0 h1
  exact PySem.W.ki_setAt ho h0 (by omega) (by rw[zt1,←hl];exact h4) (by rw[hk];exact⟨_,I',q⟩)
 ·have hk:(k+(its.toArray.size:Int)).toNat=j:=by
   rw[seqIndex_neg (by omega) h3] at h1
   rw[zt1,←hl]
   exact zv0 h1
  exact PySem.W.ki_setBack ho (by omega) (by rw[zt1,←hl];exact h3) (by omega) (by rw[hk];exact⟨_,I',q⟩)
theorem pH (lo hi:Option Int)(n:Nat):(sliceBounds lo hi none n).1=((HT.sIx n 0 lo:Nat):Int)∧(sliceBounds lo hi none n).2.1=((HT.sIx n n hi:Nat):Int)∧(sliceBounds lo hi none n).2.2=1:=by
 refine⟨?_,?_,rfl⟩
 ·cases lo with
  |none=>simp[sliceBounds,HT.sIx]
  |some i=>
   simp only[sliceBounds,HT.sIx,Option.getD_none,show (1:Int) > 0 by decide,if_true]
   by_cases h:i<0
   ·simp only[h,if_true]<;>omega
   ·simp only[h,zC6]<;>omega
 ·cases hi with
  |none=>simp[sliceBounds,HT.sIx]
  |some i=>
   simp only[sliceBounds,HT.sIx,Option.getD_none,show (1:Int) > 0 by decide,if_true]
   by_cases h:i<0
   ·simp only[h,if_true]<;>omega
   ·simp only[h,zC6]<;>omega
theorem rE (its:List Value)(lo hi:Option Int):slicePick its.toArray lo hi none=((its.drop (HT.sIx its.length 0 lo)).take (HT.sIx its.length its.length hi-HT.sIx its.length 0 lo)).toArray:=by
 obtain⟨h1,h2,h3⟩:=pH lo hi its.toArray.size
 unfold slicePick
 rw[h1,h2,h3]
 simp only[sliceRange_one,pick_run,zt1]<;>rfl
def zp5 (K:PySem.W.Frag):V→Option Int→Option Int→Hp→VK→Prop:=fun x lo hi H Q=>∃a xs,x=.ref a∧SqL K H a xs∧∀p,H p=none→Q (.ref p) (upd H p (.lst (nF xs lo hi)))
theorem qU :SlR X (zp5 X.K):=by
 intro pins s σ H x v vl vu lo hi sl Q I rx hs pl pu h
 obtain⟨a,xs,rfl,hx,q⟩:=h
 cases rx
 obtain⟨its,r,ht,hz⟩:=I.list hx
 have hlen:=r.length
 refine⟨"list",_,slot_list_getitem.lookup,ht.isList.typeIs,?_⟩
 refine wpAny_getItem_list_slice ht.isList hs pl pu .none (by simp) ?_ (by rw[zt1]<;>omega)
 rw[rE,←hlen]
 refine⟨.ref s.heap.objs.size,_,I.laid (t':=s.toks) (o:=.lst (nF xs lo hi)) (fun b ob q=>zs5 _ q) (zs9 _) ?_,rfl,q _ (I.hok.fresh (zs9 _))⟩
 exact⟨zw6 (nR xs lo hi) hz,_,0,(r.drop (HT.sIx xs.length 0 lo)).take (HT.sIx xs.length xs.length hi-HT.sIx xs.length 0 lo),zt8 _ rfl⟩
theorem ym :we X (.builtin "len") (fun xs H Q=>∃p ys,xs=[.ref p]∧(SqL X.K H p ys∨SqT X.K H p ys)∧Q (.int ys.length) H):=by
 intro pins s σ H xs us Q I r h
 obtain⟨p,ys,rfl,hq,q⟩:=h
 obtain⟨u,rfl,rx⟩:=vals1 r
 cases rx
 have hn:=uC
 rcases hq with hq|hq
 ·obtain⟨its,r',pl,hz⟩:=I.list hq
  have hlen:=r'.length
  exact Calls.call_len_list pl.isList (by simp only[zt1]<;>omega) ⟨.int ys.length,H,I.tok _,⟨s.toks+1,by rw[zt1,hlen]⟩,q⟩
 ·obtain⟨its,r',pl,hz⟩:=I.tuple hq
  have hlen:=r'.length
  exact len_tuple pl (by simp only[zt1]<;>omega) ⟨.int ys.length,H,I.tok _,⟨s.toks+1,by rw[zt1,hlen]⟩,q⟩
theorem uk :we X (.type "list") (fun xs H Q=>∃p ys,xs=[.ref p]∧(SqL X.K H p ys∨SqT X.K H p ys)∧∀l,H l=none→Q (.ref l) (upd H l (.lst ys))):=by
 intro pins s σ H xs us Q I r h
 obtain⟨p,ys,rfl,hq,q⟩:=h
 obtain⟨u,rfl,rx⟩:=vals1 r
 cases rx
 have fin:∀(its:List Value),Vals ys its→ys.length≤sizeLine→∀(h':Heap) (c':Nat),(∀b o',s.heap.get? b=some o'→h'.get? b=some o')→
   h'.get? s.heap.objs.size=some {cls:=.type "list",dict:=none,data:=.seq its.toArray c',slots:=#[]}→EP X pins σ Q (.ref s.heap.objs.size) {s with heap:=h'}:=fun its r' hz h' c' kp e=>
  ⟨.ref s.heap.objs.size,_,I.laid (t':=s.toks) kp (zs9 _) (show zY X.prog X.w _ h' _ (.lst ys) from ⟨hz,its,c',r',e⟩),rfl,q _ (I.hok.fresh (zs9 _))⟩
 rcases hq with hq|hq
 ·obtain⟨its,r',pl,hz⟩:=I.list hq
  have hlen:=r'.length
  obtain⟨o,ho,hc,n,hd⟩:=pl.isList
  exact call_list_seq p (.inl rfl) ho hc hd (fun h' c' kp e=>fin its r' hz h' c' kp e) (by simp only[zt1]<;>omega)
 ·obtain⟨its,r',pl,hz⟩:=I.tuple hq
  have hlen:=r'.length
  obtain⟨o,ho,hc,n,hd⟩:=pl
  exact call_list_seq p (.inr rfl) ho hc hd (fun h' c' kp e=>fin its r' hz h' c' kp e) (by simp only[zt1]<;>omega)
def tyV (K:PySem.W.Frag)(T:String)(x:V)(H:Hp):Prop:=match x with
 |.str _=>T="str"
 |.int _=>T="int"
 |.ref p=>(T="list"∧∃xs,SqL K H p xs)∨(T="tuple"∧∃o,K.lookup p=some o∧o.cls=.type "tuple"∧o.dict=none)∨
   (T="dict"∧((∃kvs,H p=some (.dK kvs))∨∃kvs,H p=some (.dT kvs)))∨(T="set"∧∃S n,H p=some (.set S n))
 |_=>False
theorem zg3 {pins:List (Addr×Obj)}{σ:St}{H:Hp}{s:Shared}{T:String}{x:V}{v:Value}(I:Inv X pins σ H s)(r:RelV x v)(ty:tyV X.K T x H):
  s.TypeIs v T∧∀a,v=.ref a→∃ob,s.heap.get? a=some ob∧ob.dict=none:=by
 cases x with
 |str z=>
  obtain⟨t,rfl⟩:=r
  cases (show T="str" from ty)
  exact⟨typeIs_str s z t,fun _ e=>nomatch e⟩
 |int i=>
  obtain⟨t,rfl⟩:=r
  cases (show T="int" from ty)
  exact⟨typeIs_int s i t,fun _ e=>nomatch e⟩
 |ref p=>
  cases r
  rcases ty with ⟨rfl,xs,hq⟩|⟨rfl,o,hk,hc,hd⟩|⟨rfl,hk⟩|⟨rfl,S,n,hk⟩
  ·obtain⟨its,_,pl,_⟩:=I.list hq
   refine⟨pl.isList.typeIs,fun a e=>?_⟩
   cases e
   obtain⟨o,n,e,c,hd,_⟩:=pl
   exact⟨o,e,hd⟩
  ·refine⟨⟨o,I.kIn p o hk,hc⟩,fun a e=>?_⟩
   cases e
   exact⟨o,I.kIn _ o hk,hd⟩
  ·have z:∃o,s.heap.get? p=some o∧o.ExactDict:=by
    rcases hk with ⟨kvs,hk⟩|⟨kvs,hk⟩
    ·obtain⟨_,_,_,_,o,_,_,e,ex,_⟩:=I.hok p _ hk
     exact⟨o,e,ex⟩
    ·obtain⟨_,_,_,_,o,_,_,e,ex,_⟩:=I.hok p _ hk
     exact⟨o,e,ex⟩
   obtain⟨o,e,ex⟩:=z
   refine⟨⟨o,e,ex.1⟩,fun a e2=>?_⟩
   cases e2
   exact⟨o,e,ex.2.1⟩
  ·obtain⟨o,_,_,_,e,ex,_⟩:=I.hok p _ hk
   refine⟨⟨o,e,ex.1⟩,fun a e2=>?_⟩
   cases e2
   exact⟨o,e,ex.2.1⟩
 |_=>exact False.elim ty
def tBM (K:PySem.W.Frag)(T:String)(r:V→List V→Hp→VK→Prop)(to:TE)(t:TA):TE:=fun σ H Q=>to σ H fun x H1=>tyV K T x H1∧t σ H1 fun xs H2=>r x xs H2 Q
variable {o e:Expr}{es:List Expr}{to:TE}{t:TA}{name:Str}{apos cpos:Pos}{T id:String}{r:V→List V→Hp→VK→Prop}
theorem aM (pa:PlainAttrs T)(slot:Slot T name id)(hty:typeOf (.builtin id)=pure (.type "method_descriptor"))(hm:MtR X id r)(ho:PE X o to)(ha:PA X (e::es) t)
  (hbase:attributeBase o name X.env (eval o X.env)=eval o X.env:=by rfl)
  (hfew:((backTo cpos (starEach (e::es) X.env)).all (fun x=>!x.1)&&(backToKw cpos (keywordEach [] X.env)).all (fun x=>x.1.isSome)
   &&decide ((e::es).length+([]:List Keyword).length+(if ([]:List Keyword).isEmpty then 0 else 1)<30))=true:=by rfl)
  (hline:(apos.endLine == cpos.line)=true:=by rfl) (hs:starEach (e::es) X.env=(false,eval e X.env)::starEach es X.env:=by rfl) (hplain:(backTo cpos (starEach es X.env)).any (·.1)=false:=by rfl):
  PE X (.Call (.Attribute o name apos) (e::es) [] cpos) (tBM X.K T r to t):=by
 intro pins s σ H Q I h
 refine wpAny_Call_method_late hbase hfew hline rfl (thn (ho pins s σ H _ I h) fun v s1 ⟨x,H1,I1,r1,ty,q1⟩=>?_)
 obtain⟨h1,h2⟩:=zg3 I1 r1 ty
 refine⟨T,id,pa,slot,hty,h1,h2,?_⟩
 have hA:=ha cpos pins s1 σ H1 _ I1 q1
 rw[hs] at hA ⊢
 refine Calls.callWith_builtin (by show (false||(backTo cpos (starEach es X.env)).any (·.1))=false;rw[hplain]<;>rfl) (Calls.evalArgs_plain ?_)
 exact thn hA fun us s2 ⟨vs,H2,I2,r2,q2⟩=>hm pins s2 σ H2 x vs v us Q I2 r1 r2 q2
/- xs.append(e),list.index on a module's tuple .. are MtR facts of 06m -/
end
def MtM (X:Cx)(id:String)(r:V→List V→Hp→VK→Prop):Prop:=
 ∀(pins:List (Addr×Obj)) (s:Shared) (σ:St) (H:Hp) (x:V) (xs:List V) (v:Value) (us:List Value) (Q:VK),Inv X pins σ H s→RelV x v→Vals xs us→r x xs H Q→
  wpAny (model X.prog X.w) X.A (call (.builtin id) (v::us)) (EP X pins σ Q) X.xe s
theorem Vals.one :∀{x:V} {us:List Value},Vals [x] us→∃u,us=[u]∧RelV x u
 |_,_,.cons r .nil=>⟨_,rfl,r⟩
theorem Vals.two :∀{x y:V} {us:List Value},Vals [x,y] us→∃u v,us=[u,v]∧RelV x u∧RelV y v
 |_,_,_,.cons r (.cons q .nil)=>⟨_,_,rfl,r,q⟩
theorem Vals.eraseIdx :∀{xs:List V} {us:List Value} (i:Nat),Vals xs us→Vals (xs.eraseIdx i) (us.eraseIdx i)
 |_,_,_,.nil=>.nil
 |_,_,0,.cons _ t=>t
 |_,_,i+1,.cons r t=>.cons r (Vals.eraseIdx i t)
theorem qq {α:Type}:∀(l:List α) (i:Nat),(l.eraseIdx i).length≤l.length
 |[],_=>zs9 _
 |_::_,0=>zC1 _
 |_::r,i+1=>Nat.succ_le_succ (qq r i)
section
variable {X:Cx}{pins:List (Addr×Obj)}{σ:St}{H:Hp}{s:Shared}{l b:Addr}{xs ys zs:List V}
theorem Inv.lset {its its':List Value}{n:Nat}{f:Array Value→Array Value}{t':Nat}(I:Inv X pins σ H s)(hH:H l=some (.lst xs))
  (e:s.heap.get? l=some {cls:=.type "list",data:=.seq its.toArray n}) (hf:f its.toArray=its'.toArray) (hv:Vals ys its') (hz:ys.length≤sizeLine):
  Inv X pins σ (upd H l (.lst ys)) {s with heap:=s.heap.update l (Obj.mapSeq f),toks:=t'}:=by
 have q:=PySem.IsL.update e f
 rw[hf] at q
 refine I.write (x:=l) (e:=l) (by rw[hH];exact trivial) (.inl rfl) (fun b' u hb hu=>(zw2 s.heap (Obj.mapSeq f) (zv8 hb)).trans hu) ⟨_,q⟩ ?_
 exact⟨hz,its',_,hv,q⟩
theorem Inv.lnew {its:List Value}{t':Nat}(I:Inv X pins σ H s)(hv:Vals ys its)(hz:ys.length≤sizeLine):
  Inv X pins σ (upd H s.heap.objs.size (.lst ys)) {s with heap:=s.heap.push {cls:=.type "list",data:=.seq its.toArray},toks:=t'}:=
 I.laid (fun _ _ q=>zs5 _ q) (zs9 _) ⟨hz,its,0,hv,zt8 _ rfl⟩
theorem Inv.fresh (I:Inv X pins σ H s):H s.heap.objs.size=none:=I.hok.fresh (zs9 _)
theorem Inv.lstM (I:Inv X pins σ H s)(hH:H l=some (.lst xs)):xs.length≤sizeLine∧∃(its:List Value) (n:Nat),Vals xs its∧xs.length=its.length∧s.heap.get? l=some {cls:=.type "list",data:=.seq its.toArray n}:=by
 obtain⟨z,its,n,r,e⟩:=I.hok l _ hH
 exact⟨z,its,n,r,r.length,e⟩
theorem gY {n:Nat}(h:n≤sizeLine):Builtin.List.listTooLong n=false:=by
 unfold Builtin.List.listTooLong
 exact zv5 (by omega)
end
section
variable {X:Cx}
def bE :V→List V→Hp→VK→Prop:=fun x vs H Q=>∃l xs y,x=.ref l∧vs=[y]∧H l=some (.lst xs)∧xs.length<sizeLine∧Q .non (upd H l (.lst (xs++[y])))
theorem rH :MtM X "list.append" bE:=by
 intro pins s σ H x vs v us Q I rx rv h
 obtain⟨l,xs,y,rfl,rfl,hH,hz,q⟩:=h
 cases rx
 obtain⟨u,rfl,ru⟩:=rv.one
 obtain⟨z,its,n,r,hl,e⟩:=I.lstM hH
 refine call_meets F.slot_list_append ⟨_,e,rfl⟩ F.entry_list_append (F.args_list_append_2 _ _) (PySem.list_append l its.toArray n u (by rw[zt1];omega)) ⟨e,?_⟩
 refine⟨.non,_,I.lset (its':=its++[u]) hH e (by simp) (r.append (.cons ru .nil)) ?_,rfl,q⟩
 rw[zu3,zF7]
 omega
def aw :V→List V→Hp→VK→Prop:=fun x vs H Q=>∃l b xs zs,x=.ref l∧vs=[.ref b]∧H l=some (.lst xs)∧H b=some (.lst zs)∧xs.length+zs.length≤sizeLine∧Q .non (upd H l (.lst (xs++zs)))
theorem zi6 :MtM X "list.extend" aw:=by
 intro pins s σ H x vs v us Q I rx rv h
 obtain⟨l,b,xs,zs,rfl,rfl,hH,hB,hz,q⟩:=h
 cases rx
 obtain⟨u,rfl,ru⟩:=rv.one
 cases ru
 obtain⟨z,its,n,r,hl,e⟩:=I.lstM hH
 obtain⟨z2,its2,n2,r2,hl2,e2⟩:=I.lstM hB
 have hsz:its.toArray.size+its2.toArray.size≤sizeLine:=by rw[zt1,zt1];omega
 have hlong:¬(!its.toArray.isEmpty&&Builtin.List.listTooLong (its.toArray.size+its2.toArray.size))=true:=by
  rw[gY hsz,Bool.and_false]
  exact zu2
 refine call_meets F.slot_list_extend ⟨_,e,rfl⟩ F.entry_list_extend (F.args_list_extend_2 _ _)
  (AutoSeq1.list_extend_list_list_0 l its.toArray n b its2.toArray n2 hlong (by rw[zt1];omega) (by omega)) ⟨e,e2,?_⟩
 refine⟨.non,_,I.lset (its':=its++its2) hH e (by simp) (r.append r2) ?_,rfl,q⟩
 rw[zu3]
 omega
def zf0 :V→List V→Hp→VK→Prop:=fun x vs H Q=>∃l xs i k y,x=.ref l∧vs=[.int i]∧H l=some (.lst xs)∧-(2 ^ 63)≤i∧i<2 ^ 63∧seqIndex? i xs.length=some k∧xs[k]?=some y∧Q y (upd H l (.lst (xs.eraseIdx k)))
theorem gQ :MtM X "list.pop" zf0:=by
 intro pins s σ H x vs v us Q I rx rv h
 obtain⟨l,xs,i,k,y,rfl,rfl,hH,h1,h2,hk,hy,q⟩:=h
 cases rx
 obtain⟨u,rfl,ru⟩:=rv.one
 obtain⟨t,rfl⟩:=ru
 obtain⟨z,its,n,r,hl,e⟩:=I.lstM hH
 obtain⟨w,hw,rw'⟩:=r.get hy
 refine call_meets F.slot_list_pop ⟨_,e,rfl⟩ F.entry_list_pop (F.args_list_pop_2 _ _)
  (MeetsSeq.list_pop_at l its.toArray n i t k w (fitsIndex_both h1 h2) (by rw[zt1,←hl];exact hk) (by rw[←Array.getElem?_toList];exact hw) (by rw[zt1];omega)) ⟨e,?_⟩
 refine⟨y,_,I.lset (its':=its.eraseIdx k) hH e ?_ (r.eraseIdx k) ?_,rw',q⟩
 ·show its.toArray.eraseIdxIfInBounds k=(its.eraseIdx k).toArray
  rw[List.eraseIdxIfInBounds_toArray]
 ·have:=qq xs k
  omega
def zq8 :R2:=fun x y H Q=>∃l b xs zs,x=.ref l∧y=.ref b∧H l=some (.lst xs)∧H b=some (.lst zs)∧xs.length+zs.length≤sizeLine∧∀p,H p=none→Q (.ref p) (upd H p (.lst (xs++zs)))
theorem za6 :OpR X (binaryOp .Add) zq8:=by
 intro pins s σ H x y v u Q I rx ry h
 obtain⟨l,b,xs,zs,rfl,rfl,hH,hB,hz,q⟩:=h
 cases rx
 cases ry
 obtain⟨z,its,n,r,hl,e⟩:=I.lstM hH
 obtain⟨z2,its2,n2,r2,hl2,e2⟩:=I.lstM hB
 refine PySem.P.add_list e e2 ?_ (by rw[zt1,zt1];omega)
 have ea:its.toArray++its2.toArray=(its++its2).toArray:=by simp
 rw[ea]
 exact⟨.ref _,_,I.lnew (t':=s.toks) (r.append r2) (by rw[zu3];omega),rfl,q _ I.fresh⟩
end
section
variable {prog:Program}{w:World}{A:Around}{E:Value→Shared→Prop}{s:Shared}
end
section
variable {X:Cx}
end
end L2
namespace Att
open PySem PySem.W PySem.Calls PyProof.Rows
theorem uY {P:Params}{h:Heap}:∀(ns:List Int) (vs:List Value),WellAll P h vs (ns.map WData.int)→IntsAre vs ns:=by
 intro ns
 induction ns with
 |nil=>
  intro vs w
  rw[List.map_nil] at w
  cases w
  exact .nil
 |cons n ns ih=>
  intro vs w
  rw[zw5] at w
  cases w with
  |cons a b=>
   cases a
   exact .cons _ _ (ih _ b)
theorem iz {l:OpenLaw}{n:Nat}(hn:l.most=some n){P:Params}{h:Heap}{args:List WData}{vals:List Value}
  (hpre:l.row.toRowW.claim.pre args=true) (hwl:WellAll P h vals args):
  ∃a vs ns,vals=[Value.ref a]∧args=[WData.list (ns.map WData.int)]∧h.get? a=some {cls:=.type "list",data:=.seq vs.toArray}∧IntsAre vs ns∧ns.length≤n:=by
 have hsh:WShape.hasAll [] args [.list .int]=true:=(pre_splitW hpre).1
 have hc:l.pre.holds [] {args:=args}=true:=(pre_splitW hpre).2
 obtain⟨d,r,rfl,h1,h2⟩:=hasAllW_cons hsh
 obtain rfl:=hasAllW_nil h2
 obtain⟨xs,rfl,h3⟩:=hasW_list h1
 obtain⟨ns,rfl⟩:=items_int h3
 have hlen:ns.length≤n:=by
  unfold OpenLaw.pre at hc
  have h4:(WTm.not (.lt (.lit (.int (n:Int))) (.len (.arg 0)))).holds [] {args:=[.list (ns.map .int)]}=true:=by
   have h4:=(holds_andW hc).1
   rw[hn] at h4
   exact h4
  have h5:=condW_of h4 (w_not (w_lt w_lit (w_len_list (w_arg rfl))))
  rw[zs4] at h5
  refine Nat.le_of_not_lt fun q=>?_
  have q':(n:Int)<((ns.length:Nat):Int):=by omega
  first
   |(rw[zy0 q'] at h5;exact absurd h5 (by decide))
   |(simp at h5;omega)
 cases hwl with
 |cons w1 w2=>
  cases w2
  cases w1 with
  |list ho hall=>exact⟨_,_,ns,rfl,rfl,ho,uY ns _ hall,hlen⟩
theorem jB (l:OpenLaw)(args:List WData):l.row.toRowW.claim.post args (.bool true) args=true:=
 postW_of (r:=l.row.toRowW) (X:=(true == true))
  (show WShape.has [] (.bool true) .bool=true by first|rfl|decide|simp[WShape.has,WShape.arms,WShape.armsAll])
  (show (WTm.eq .res (.lit (.bool true))).value [] {args:=args,res:=some (.bool true),after:=args}=some (.bool (true == true)) from w_eq_bool (w_res rfl) w_lit) rfl
theorem attach_call {l:OpenLaw}{n:Nat}{q:Program}{loose:List Str}{XP:(Str→Option Value)→Heap→Prop}{YP:World→Heap→Prop}{d:DefRec}
  (hn:l.most=some n) (hdf:d.params.defaults=[])
  (call:∀(w:World) (s₀ s₁:Shared) (mg mb:Str→Option Value) (fa:Addr) (o:Obj) (pm cd doc:Value) (a:Addr) (vs:List Value) (ns:List Int),
   Ground q loose [] XP w s₀ mg mb s₁.heap→YP w s₁.heap→
   s₁.heap.get? fa=some o→o.data=.func (docDef d.name d.params d.body d.scope pm cd doc)→s₁.heap.CodeRec cd d.name→mg d.name=some (.ref fa)→
   s₁.heap.get? a=some {cls:=.type "list",data:=.seq vs.toArray}→IntsAre vs ns→ns.length≤n→s₁.gens=#[]→
   codeAny (model l.prog w) callerA (.call (.ref fa) ⟨[.ref a],[]⟩) (fun r s'=>r=.ok (.ret (.bool true))∧OldK s₁.heap s'.heap∧s'.os=s₁.os∧AllBare s'.gens) s₁):
  WalkO q loose XP YP l.row.toRowW d [] (fun f vs=>PySem.call f vs):=by
 intro w s₀ s₁ mg mb G Y fa o pm cd doc dV kV ho hd hcd hD hmg hg args vals as hpre hlay hrd hwl hlo
 obtain rfl:dV=.none:=Dflts.none hD hdf
 obtain rfl:kV=.none:=Dflts.noKw hD
 obtain⟨a,vs,ns,rfl,rfl,hobj,hints,hlen⟩:=iz hn hpre hwl
 refine enter_call (zG2 (call w s₀ s₁ mg mb fa o pm cd doc a vs ns G Y ho (fd_plain hd) hcd hmg hobj hints hlen hg) fun r s' hq=>?_)
 obtain⟨rfl,h2,h3,h4⟩:=hq
 exact⟨.inl ⟨.bool true,.bool true,[],rfl,fun _=>rfl,.bool true,jB l _,fun _=>⟨List.Pairwise.nil,fun _ hm=>(nomatch hm)⟩⟩,h2,h3,h4⟩
section
variable {prog:Program}{w:World}{A:Around}{E:Value→Shared→Prop}{s:Shared}{K:Frag}
end
end Att
namespace L2
open PySem PySem.Spec PyProof.Rows
theorem qg :∀{vs:List Value} {ns:List Int},IntsAre vs ns→Vals (ns.map V.int) vs
 |_,_,.nil=>.nil
 |_,_,.cons n t h=>.cons ⟨t,rfl⟩ (qg h)
def inClass (s:Stmt)(j:Nat):Stmt:=match s with
 |.ClassDef _ _ _ body _ _ _ _ _ _ _=>body.getD j (.Pass ⟨0,0,0,0⟩)
 |_=>.Pass ⟨0,0,0,0⟩
def zK (s:Stmt):Arguments:=match s with
 |.FunctionDef _ a _ _ _ _ _ _ _ _=>a
 |_=>{posonlyargs:=[],args:=[],vararg:=none,kwonlyargs:=[],kw_defaults:=[],kwarg:=none,defaults:=[]}
def zw (s:Stmt):List Stmt:=match s with
 |.FunctionDef _ _ b _ _ _ _ _ _ _=>b
 |_=>[]
def zb (s:Stmt):Scope:=match s with
 |.FunctionDef _ _ _ _ _ _ sc _ _ _=>sc
 |_=>{kind:=.function,names:=[],isGenerator:=false,isCoroutine:=false}
abbrev CX0 :CXT:=fun _ _ _ _ _ _=>False
abbrev E0 :XK:=fun _ _ _=>False
theorem zZ {X:Cx}:Passes CX0 X E0:=fun _ _ _ _ _ _ _ h=>h.elim
structure Fun (K:PySem.W.Frag)(x qual:Str)(st:Stmt)(f:Addr)(fd:FuncData):Prop where
 ex:∃(oc:Value) (od:Option Addr) (kV doc pm:Value) (an:Option Addr) (cdv ct:Value) (osl:Array (Option Value)),
  fd=PySem.W.fnOf x qual (zK st) (zw st) (zb st) .none kV doc pm an cdv ct∧K.lookup f=some ⟨oc,od,.func fd,osl⟩∧PySem.W.codeIn K cdv qual=true
 kp:PySem.W.keepIn K (.ref f)=true
section
variable {P:Program}{w:World}{K:PySem.W.Frag}{mg:Str→Option Value}{base:Heap}
theorem Fun.ok {x qual:Str}{st:Stmt}{f:Addr}{fd:FuncData}{N ps:List Str}{k:Nat}{sp:Sp}(F:Fun K x qual st f fd)(S:zm N ps (zb st))(len:∀vs H Q E,sp vs H Q E→vs.length=ps.length)
  (hbody:∀(cdv:Value) (A:Around) (outer:List Env) (s:Shared) (H:Hp) (vs:List V) (Q:VK) (E:XK),zP k (A.deeper (envOfC qual (zb st) s.heap.objs.size f cdv))→sp vs H Q E→
   ∃t,PSs (vQ CX0 P w K mg base N qual (zb st) f cdv A outer s H E).nox (zw st) t∧t {nx:=fun _ H'=>Q .non H',rt:=Q} (start N vs) H):zB P w K mg base CX0 (k+1) f fd ps sp:=by
 obtain⟨oc,od,kV,doc,pm,an,cdv,ct,osl,rfl,lk,hcd⟩:=F.ex
 refine iP lk hcd S len fun A outer s H vs Q E hr hsp=>?_
 obtain⟨t,h,q⟩:=hbody cdv A outer s H vs Q E hr hsp
 exact⟨t,h.nox,q⟩
theorem Fun.binds {x qual:Str}{st:Stmt}{f:Addr}{fd:FuncData}{ps:List Str}(F:Fun K x qual st f fd)
  (h:∀(kV doc pm:Value) (an:Option Addr) (cdv ct:Value) (us:List Value),us.length=ps.length→bindArgs (PySem.W.fnOf x qual (zK st) (zw st) (zb st) .none kV doc pm an cdv ct) ⟨us,[]⟩=pure (ps.zip us)):Binds K fd ps []:=by
 obtain⟨oc,od,kV,doc,pm,an,cdv,ct,osl,rfl,lk,hcd⟩:=F.ex
 exact .all (h kV doc pm an cdv ct)
theorem lr {x qual:Str}{st:Stmt}{f:Addr}{oc:Value}{od an:Option Addr}{osl:Array (Option Value)}{kV doc pm cdv ct:Value}(l:K.lookup f=some ⟨oc,od,.func (PySem.W.fnOf x qual (zK st) (zw st) (zb st) .none kV doc pm an cdv ct),osl⟩)
  (c:PySem.W.codeIn K cdv qual=true) (k:PySem.W.keepIn K (.ref f)=true):Fun K x qual st f (PySem.W.fnOf x qual (zK st) (zw st) (zb st) .none kV doc pm an cdv ct):=⟨⟨oc,od,kV,doc,pm,an,cdv,ct,osl,rfl,l,c⟩,k⟩
end
theorem yQ {n:Nat}(h:n≤1000):n<sizeLine:=Nat.lt_of_le_of_lt h (by decide)
section
variable {X:Cx}
theorem pv (i:Nat){x:Str}{pos:Pos}(hN:X.N[i]?=some x:=by rfl)(hv:Vis X.env.scope x:=by first|exact Or.inl rfl|exact Or.inr (Or.inl rfl)|exact Or.inr (Or.inr rfl))(hd:(x == ("__debug__":Str))=false:=by decide)
  (hcd:(x == ("__classdict__":Str))=false:=by decide):PE X (.Name x pos) (za8 i):=xq hN hv hd hcd
end
theorem rB {A B:Prop}(h:B):if false=true then A else B:=by
 rw[if_neg zu2]
 exact h
theorem su {A B:Prop}(h:A):if true=true then A else B:=by
 rw[if_pos rfl]
 exact h
theorem yv {c A B:Prop}[Decidable c](h1:c→A)(h2:¬c→B):if c then A else B:=by
 by_cases h:c
 ·rw[if_pos h]
  exact h1 h
 ·rw[if_neg h]
  exact h2 h
def zy (H H':Hp):Prop:=∀b o,H b=some o→H' b=some o
theorem zy.refl (H:Hp):zy H H:=fun _ _ h=>h
theorem zy.trans {H H1 H2:Hp}(a:zy H H1)(b:zy H1 H2):zy H H2:=fun c o h=>b c o (a c o h)
theorem zy.free {H H':Hp}(e:zy H H'){l:Addr}(h:H' l=Option.none):H l=Option.none:=by
 cases q:H l with
 |none=>rfl
 |some o=>
  rw[e l o q] at h
  cases h
theorem zy.seq {K:PySem.W.Frag}{H H':Hp}{a:Addr}{xs:List V}(e:zy H H')(h:SqL K H a xs):SqL K H' a xs:=by
 rcases h with (h|⟨o,h⟩)|h
 ·exact .inl (.inl (e _ _ h))
 ·exact .inl (.inr ⟨o,e _ _ h⟩)
 ·exact .inr h
def vT (cells:List (Str×Addr)):List (Str×NameKind)→List (Str×Addr)→List (Str×Addr)
 |[],acc=>acc
 |(n,k)::r,acc=>vT cells r (if k=.free then (n,(cells.lookup n).getD 0)::acc else acc)
theorem vD {env:Env}{scope:Scope}(h:∀y∈scope.names,y.2=.free→∃c,env.cells.lookup y.1=some c):
  closureFor scope env=pure (vT env.cells scope.names []):=by
 have key:∀(ns:List (Str×NameKind)) (acc:List (Str×Addr)),(∀y∈ns,y.2=.free→∃c,env.cells.lookup y.1=some c)→
   (forIn ns acc fun (x:Str×NameKind) (r:List (Str×Addr))=>(if (x.2 == NameKind.free)=true then (do let a ←cellOf env x.1;pure (ForInStep.yield ((x.1,a)::r))) else pure (ForInStep.yield r):Sem (ForInStep (List (Str×Addr)))))=pure (vT env.cells ns acc):=by
  intro ns
  induction ns with
  |nil=>intro acc _;rfl
  |cons y r ih=>
   intro acc hy
   obtain⟨n,k⟩:=y
   rw[zG3]
   have hr:∀z∈r,z.2=.free→∃c,env.cells.lookup z.1=some c:=fun z hz=>hy z (zt4 _ hz)
   by_cases hk:k=.free
   ·subst hk
    obtain⟨c,hc⟩:=hy (n,.free) zt7 rfl
    have e1:cellOf env n=pure c:=by
     unfold cellOf
     rw[hc]
    have e2:((NameKind.free == NameKind.free)=true):=rfl
    simp only[e2,if_true,e1,pure_bind]
    rw[ih _ hr]
    show _=pure (vT env.cells r (if NameKind.free=NameKind.free then (n,(env.cells.lookup n).getD 0)::acc else acc))
    rw[if_pos rfl,hc]
    rfl
   ·have e2:(k == NameKind.free)=false:=by simpa using hk
    simp only[e2,zx9,zC6,pure_bind]
    rw[ih _ hr]
    show _=pure (vT env.cells r (if k=NameKind.free then (n,(env.cells.lookup n).getD 0)::acc else acc))
    rw[if_neg hk]
 have q:=key scope.names [] h
 unfold closureFor
 simp only[] at q ⊢
 rw[show (forIn scope.names ([]:List (Str×Addr)) fun (x:Str×NameKind) (r:List (Str×Addr))=>_)=_ from q]
 rfl
theorem oz {cells:List (Str×Addr)}:∀(ns:List (Str×NameKind)) (acc:List (Str×Addr)),(∀y∈ns,y.2=.free→∃c,cells.lookup y.1=some c)→
  ∀x c,(x,c)∈vT cells ns acc→(x,c)∈acc∨((x,NameKind.free)∈ns∧cells.lookup x=some c)
 |[],acc,_,x,c,h=>.inl h
 |(n,k)::r,acc,hy,x,c,h=>by
  have hr:∀z∈r,z.2=.free→∃c,cells.lookup z.1=some c:=fun z hz=>hy z (zt4 _ hz)
  have h':(x,c)∈vT cells r (if k=.free then (n,(cells.lookup n).getD 0)::acc else acc):=h
  rcases oz r _ hr x c h' with q|⟨q1,q2⟩
  ·by_cases hk:k=.free
   ·rw[if_pos hk] at q
    rcases zs8.mp q with e|q
    ·obtain⟨c',hc⟩:=hy (n,k) zt7 hk
     have e1:x=n:=congrArg Prod.fst e
     have e2:c=(cells.lookup n).getD 0:=congrArg Prod.snd e
     have hc':cells.lookup n=some c':=hc
     rw[hc'] at e2
     have e3:c=c':=e2
     subst e1 e3 hk
     exact .inr ⟨zt7,hc'⟩
    ·exact .inl q
   ·rw[if_neg hk] at q
    exact .inl q
  ·exact .inr ⟨zt4 _ q1,q2⟩
theorem nI {cells:List (Str×Addr)}:∀(ns:List (Str×NameKind)) (acc:List (Str×Addr)) (p:Str×Addr),p∈acc→p∈vT cells ns acc
 |[],_,_,h=>h
 |(n,k)::r,acc,p,h=>by
  show p∈vT cells r (if k=.free then (n,(cells.lookup n).getD 0)::acc else acc)
  refine nI r _ p ?_
  split
  ·exact zt4 _ h
  ·exact h
theorem oF {cells:List (Str×Addr)}:∀(ns:List (Str×NameKind)) (acc:List (Str×Addr)) (x:Str),(x,NameKind.free)∈ns→∃c,(x,c)∈vT cells ns acc
 |[],_,_,h=>by simp at h
 |(n,k)::r,acc,x,h=>by
  show ∃c,(x,c)∈vT cells r (if k=.free then (n,(cells.lookup n).getD 0)::acc else acc)
  rcases zs8.mp h with e|h
  ·have e1:x=n:=congrArg Prod.fst e
   have e2:NameKind.free=k:=congrArg Prod.snd e
   subst e1 e2
   rw[if_pos rfl]
   exact⟨_,nI r _ _ zt7⟩
  ·exact oF r _ x h
theorem mem_lookup {x:Str}{c:Addr}:∀{l:List (Str×Addr)},(x,c)∈l→∃d,l.lookup x=some d
 |[],h=>by simp at h
 |(n,a)::r,h=>by
  rw[zw0]
  cases e:x == n with
  |true=>exact⟨a,rfl⟩
  |false=>
   rcases zs8.mp h with q|q
   ·have e1:x=n:=congrArg Prod.fst q
    rw[e1] at e
    simp at e
   ·exact mem_lookup q
structure zI (XN:List Str)(xs:Scope)(N:List Str)(imp:List (Option Nat))(scope:Scope):Prop where
 kind:scope.kind=.function
 nd:N.Nodup
 nocell:∀y∈scope.names,y.2≠.cell
 locs:∀y∈scope.names,y.2=.local→scope.names.lookup y.1=some .local
 frees:∀y∈scope.names,y.2=.free→xs.names.lookup y.1=some .cell∨xs.names.lookup y.1=some .free
 len:imp.length=N.length
 impsB:((imp.zip N).all fun p=>match p.1 with|none=>true|some j=>XN[j]? == some p.2&&scope.names.lookup p.2 == some .free)=true
theorem zI.imps {XN N:List Str}{xs scope:Scope}{imp:List (Option Nat)}(S:zI XN xs N imp scope):∀(i j:Nat),imp[i]?=some (some j)→∃x,N[i]?=some x∧XN[j]?=some x∧scope.names.lookup x=some .free:=by
 intro i j h
 have hi:i<imp.length:=(zt0.mp h).1
 have hn:i<N.length:=by rw[←S.len];exact hi
 have hx:N[i]?=some N[i]:=zs6 hn
 have hm:(some j,N[i])∈imp.zip N:=by
  have hz:(imp.zip N)[i]?=some (some j,N[i]):=by
   rw[List.getElem?_zip_eq_some]
   exact⟨h,hx⟩
  exact zz4 hz
 have q:=zC7.mp S.impsB _ hm
 have q':(XN[j]? == some N[i]&&scope.names.lookup N[i]==some .free)=true:=q
 rw[zv1] at q'
 exact⟨N[i],hx,eq_of_beq q'.1,eq_of_beq q'.2⟩
def xX (imp:List (Option Nat))(σ:St):St:=imp.map fun o=>o.bind fun j=>(σ[j]?).bind id
theorem iF {imp:List (Option Nat)}{σ:St}{i:Nat}{v:V}(h:(xX imp σ)[i]?=some (some v)):∃j,imp[i]?=some (some j)∧σ[j]?=some (some v):=by
 unfold xX at h
 rw[zu0] at h
 cases e:imp[i]? with
 |none=>rw[e] at h;cases h
 |some o=>
  rw[e] at h
  have h':(o.bind fun j=>(σ[j]?).bind id)=some v:=zv0 h
  cases o with
  |none=>cases h'
  |some j=>
   have h2:(σ[j]?).bind id=some v:=h'
   cases e2:σ[j]? with
   |none=>rw[e2] at h2;cases h2
   |some w=>
    rw[e2] at h2
    have h3:w=some v:=h2
    exact⟨j,rfl,by rw[e2,h3]⟩
def Cx.comp (X:Cx)(N:List Str)(scope:Scope)(C:Addr)(s2:Shared)(H2:Hp)(fp:List Addr):Cx where
 prog:=X.prog
 w:=X.w
 K:=X.K
 mg:=X.mg
 base:=X.base
 A:=X.A
 N:=N
 s₀:=s2
 H₀:=H2
 env:=compEnvC scope (vT X.env.cells scope.names []) C X.env
 outer:=X.stack
 stack:=X.stack
 ex:=fp
 fn:=fun _=>false
 calm:=X.calm
 pn:=[]
 xe:=fun _ _=>False
theorem vY {env:Env}:∀{names:List (Str×NameKind)} {x:Str},
  (names.map fun (n,k)=>if (k == NameKind.free&&env.scope.kind == .function&&env.kindOf n == some .cell) then (n,NameKind.cell) else (n,k)).lookup x=some .cell∨
  (names.map fun (n,k)=>if (k == NameKind.free&&env.scope.kind == .function&&env.kindOf n == some .cell) then (n,NameKind.cell) else (n,k)).lookup x=some .free→
  (∀y∈names,y.2≠.cell)→(x,NameKind.free)∈names
 |[],x,h,_=>by simp at h
 |(n,k)::r,x,h,hc=>by
  have ih:=@vY env r x
  rw[zw5] at h
  dsimp only at h
  by_cases hx:x=n
  ·subst hx
   by_cases hk:k=.free
   ·subst hk;exact zt7
   ·have hk':(k == NameKind.free)=false:=by simpa using hk
    simp only[hk',zy9,zx9,zC6,zw0,beq_self_eq_true,if_true] at h
    rcases h with h|h
    ·have e:k=.cell:=zv0 h
     exact absurd e (hc (x,k) zt7)
    ·have e:k=.free:=zv0 h
     exact absurd e hk
  ·have hxn:(x == n)=false:=by simpa using hx
   have step:∀(b:Bool) (l:List (Str×NameKind)),List.lookup x ((if b=true then (n,NameKind.cell) else (n,k))::l)=l.lookup x:=fun b l=>by
    cases b<;>simp[zw0,hxn]
   rw[step] at h
   exact zt4 _ (ih h fun y hy=>hc y (zt4 _ hy))
theorem uL {env:Env}:∀{names:List (Str×NameKind)} {x:Str},names.lookup x=some .free→
  (names.map fun (n,k)=>if (k == NameKind.free&&env.scope.kind == .function&&env.kindOf n == some .cell) then (n,NameKind.cell) else (n,k)).lookup x=some .cell∨
  (names.map fun (n,k)=>if (k == NameKind.free&&env.scope.kind == .function&&env.kindOf n == some .cell) then (n,NameKind.cell) else (n,k)).lookup x=some .free
 |[],x,h=>by simp at h
 |(n,k)::r,x,h=>by
  have ih:=@uL env r x
  rw[zw5]
  dsimp only
  rw[zw0] at h
  cases hx:x == n with
  |true=>
   rw[hx] at h
   have e:k=.free:=zv0 h
   subst e
   by_cases hb:(NameKind.free == NameKind.free&&env.scope.kind == .function&&env.kindOf n == some .cell)=true
   ·left;rw[if_pos hb];simp[zw0,hx]
   ·right;rw[if_neg hb];simp[zw0,hx]
  |false=>
   rw[hx] at h
   have step:∀(b:Bool) (l:List (Str×NameKind)),List.lookup x ((if b=true then (n,NameKind.cell) else (n,k))::l)=l.lookup x:=fun b l=>by
    cases b<;>simp[zw0,hx]
   rw[step]
   exact ih h
section
variable {X:Cx}{pins:List (Addr×Obj)}{σ:St}{H2 H':Hp}{s2 s':Shared}{fp:List Addr}{N:List Str}{imp:List (Option Nat)}{scope:Scope}{C acc:Addr}
theorem vP (I:Inv X pins σ H2 s2)(S:zI X.N X.env.scope N imp scope):∀y∈scope.names,y.2=.free→∃c,X.env.cells.lookup y.1=some c:=fun y hy hk=>I.ok.has y.1 (S.frees y hy hk)
theorem xm (I:Inv X pins σ H2 s2)(S:zI X.N X.env.scope N imp scope){x:Str}{c:Addr}(h:(vT X.env.cells scope.names []).lookup x=some c):(x,NameKind.free)∈scope.names∧X.env.cells.lookup x=some c:=by
 rcases oz scope.names [] (vP I S) x c (zw4 h) with q|q
 ·exact absurd q (by simp)
 ·exact q
theorem ua (I:Inv X pins σ H2 s2)(S:zI X.N X.env.scope N imp scope){x:Str}(h:(x,NameKind.free)∈scope.names):∃c,(vT X.env.cells scope.names []).lookup x=some c:=by
 obtain⟨c,hc⟩:=oF (cells:=X.env.cells) scope.names [] x h
 exact mem_lookup hc
theorem gk {h1:Heap}{tk:Nat}{m:Str→Option Value}{n0:Nat}(I:Inv X pins σ H2 s2)(S:zI X.N X.env.scope N imp scope)(hf:∀b∈fp,xj X pins H2 b)(ho:∀b∈fp,∃o,s2.heap.get? b=some o)
  (hacc:acc=s2.heap.objs.size) (hC:C=s2.heap.objs.size+1) (old:∀b o,s2.heap.get? b=some o→h1.get? b=some o) (hn:h1.Ns C m)
  (hl:h1.get? acc=some {cls:=.type "list",data:=.seq ([]:List Value).toArray n0}):
  Inv (X.comp N scope C s2 H2 fp) [] (xX imp σ) (upd H2 acc (.lst [])) {s2 with heap:=h1,toks:=tk}:=by
 have fa:H2 acc=none:=I.hok.fresh (by rw[hacc];exact zs9 _)
 have cac:C≠acc:=by rw[hC,hacc];exact Nat.succ_ne_self _
 have clt:∀x c,X.env.cells.lookup x=some c→c<s2.heap.objs.size:=fun x c e=>by
  obtain⟨v,q⟩:=I.cell x c e
  exact q.lt
 refine⟨⟨I.ok.mod,S.kind,I.ok.glob,I.ok.blt,?above,?inj,?has,?cab,I.ok.hd,I.ok.frames,.inl rfl,?exf,fun b o e=>I.bs b o e,zw6 I.ok.bsz I.sz,?noex,?exfs,I.stack,I.stkFree⟩,
  rfl,I.bare,Un.laid old (by rw[hacc];exact zs9 _) fa,⟨m,hn,?loc⟩,?cell,?free,?freeC,fun p hp=>absurd (show p∈([]:List (Addr×Obj)) from hp) (by simp),I.hok.laid old (by rw[hacc];exact zs9 _) ⟨zt6 _,[],n0,.nil,hl⟩,?len⟩
 case above=>show s2.heap.objs.size≤C;rw[hC];exact zC1 _
 case inj=>exact fun x y c h1 h2=>I.ok.inj x y c (xm I S h1).2 (xm I S h2).2
 case has=>exact fun x hx=>ua I S (vY (env:=X.env) hx S.nocell)
 case cab=>exact fun x c h _=>absurd h (by show ¬(false=true);simp)
 case exf=>
  intro b hb
  obtain⟨o,hob⟩:=ho b hb
  refine⟨?_,fun x c e=>(hf b hb).2.2.2.2.1 x c (xm I S e).2⟩
  show b≠C
  rw[hC]
  exact zu4 (zC2 (zt3 hob))
 case noex=>
  intro b o e hb
  rcases (hf b hb).2.2.2.1 with z|z
  ·exact I.ok.noex b o e z
  ·exact absurd (zu5 (zt3 e) (zw6 I.ok.bsz z)) (zy7 _)
 case exfs=>
  intro b hb hz
  rcases zs8.mp (I.stkSub b hz) with e|e
  ·exact (hf b hb).2.1 e
  ·exact (hf b hb).2.2.1 e
 case loc=>
  intro i x v e1 e2 e3
  obtain⟨j,q1,q2⟩:=iF e2
  obtain⟨y,n1,n2,n3⟩:=S.imps i j q1
  have n1':(X.comp N scope C s2 H2 fp).N[i]?=some y:=n1
  rw[n1'] at e1
  have exy:y=x:=zv0 e1
  subst exy
  have hfr:=S.frees (y,.free) (zw4 n3) rfl
  obtain⟨mX,hnX,hlX⟩:=I.loc
  obtain⟨u,r,l⟩:=hlX j y v n2 q2 (.inr hfr)
  refine⟨u,r,?_⟩
  rcases l with ⟨k,_⟩|⟨k,c,e,z⟩
  ·have k':X.env.scope.names.lookup y=some .local:=k
   rcases hfr with z|z
   ·have z':X.env.scope.names.lookup y=some .cell:=z
    rw[k'] at z';cases z'
   ·have z':X.env.scope.names.lookup y=some .free:=z
    rw[k'] at z';cases z'
  ·obtain⟨d,hd⟩:=ua I S (zw4 n3)
   have hd2:=(xm I S hd).2
   rw[e] at hd2
   have edc:c=d:=zv0 hd2
   subst edc
   exact .inr ⟨uL (env:=X.env) n3,c,hd,z.keeps old⟩
 case cell=>
  intro x c e
  obtain⟨v,q⟩:=I.cell x c (xm I S e).2
  exact⟨v,q.keeps old⟩
 case free=>
  show upd H2 acc _ C=none
  rw[zg cac]
  exact I.hok.fresh (by rw[hC];exact zC1 _)
 case freeC=>
  intro x c e
  have e':=(xm I S e).2
  have hlt:=clt x c e'
  show upd H2 acc _ c=none
  rw[zg (by rw[hacc];exact zu4 hlt)]
  exact I.freeC x c e'
 case len=>
  show (xX imp σ).length=N.length
  unfold xX
  rw[zs4]
  exact S.len
theorem jN {pl:List (Addr×Obj)}{τ:St}(I:Inv X pins σ H2 s2)(hf:∀b∈fp,xj X pins H2 b)(J:Inv (X.comp N scope C s2 H2 fp) pl τ H' s'):Inv X pins σ H' s':=
 I.call' (ch:=fp) J.os J.base J.hok J.bare fun b hb=>⟨(hf b hb).2.2.2.1,(hf b hb).2.1,(hf b hb).2.2.2.2.1,(hf b hb).2.2.2.2.2⟩
end
section
variable {prog:Program}{w:World}{A:Around}{R:Result→Shared→Prop}{s:Shared}
theorem qX {elt target iter:Expr}{ifs:List Expr}{scope:Scope}{pos:Pos}{it acc:Value}{env:Env}(I:Nat→Shared→Prop)
  (turn:∀n s,I n s→wpAny (model prog w) A (pyNext it) (fun r s1=>match r with
   |none=>R (.ok .next) s1
   |some v=>wpAny (model prog w) A (letOwnedTupleGo target it v) (fun _ s2=>wpAny (model prog w) A (assign target env v) (fun _ s3=>
     wpAny (model prog w) A (forIn ifs true fun c r=>if r=true then do let ok ←isTrue c env (eval c env);pure (ForInStep.yield ok) else pure (ForInStep.yield r)) (fun ok s4=>
      if ok=true then wpAny (model prog w) A (eval elt env) (fun x s5=>
       wpAny (model prog w) A (call (.builtin "list.append") [acc,x]) (fun _ s6=>∃m,m<n∧I m s6) (fun _ _=>False) s5) (fun _ _=>False) s4
      else ∃m,m<n∧I m s4) (fun _ _=>False) s3) (fun _ _=>False) s2) (fun _ _=>False) s1) (fun _ _=>False) s)
  (n:Nat) (h:I n s):codeAny (model prog w) A (.compLoop (.ListComp elt [⟨target,iter,ifs,0⟩] scope pos) 0 it acc env) R s:=by
 refine codeAny_loop rfl I (fun n s hI=>?_) n h
 show wpAny _ A ((compTurn (.ListComp elt [⟨target,iter,ifs,0⟩] scope pos) 0 it acc env).onRaise (fun x=>do noteFrame x env;theTreesLotGoes x)) _ _ s
 refine wpAny_noted ?_
 rw[compTurn_list]
 refine zs3 (wpAny_standAt (zs3 (zv6 (turn n s hI) (fun r s1 h1=>?_) fun _ _ h'=>False.elim h')))
 cases r with
 |none=>exact zt2 h1
 |some v=>
  refine zs3 (zv6 h1 (fun _ s2 h2=>?_) fun _ _ h'=>False.elim h')
  refine zs3 (zv6 h2 (fun _ s3 h3=>zs3 (zv6 h3 (fun ok s4 h4=>?_) fun _ _ h'=>False.elim h')) fun _ _ h'=>False.elim h')
  cases ok with
  |false=>exact zt2 ⟨rfl,h4⟩
  |true=>
   exact zs3 (zs3 (zv6 h4 (fun x s5 h5=>zs3 (zv6 h5 (fun _ s6 h6=>zt2 (zt2 ⟨rfl,h6⟩)) fun _ _ h'=>False.elim h')) fun _ _ h'=>False.elim h'))
end
def wX (Y:Cx)(ifs:List Expr)(t:TT):Prop:=
 ∀(pins:List (Addr×Obj)) (s:Shared) (σ:St) (H:Hp) (Q:Bool→Hp→Prop),Inv Y pins σ H s→t σ H Q→
  wpAny (model Y.prog Y.w) Y.A (forIn ifs true fun c r=>if r=true then do let ok ←isTrue c Y.env (eval c Y.env);pure (ForInStep.yield ok) else pure (ForInStep.yield r)) (TP Y pins σ Q) Y.xe s
def zp3 :TT:=fun _ H Q=>Q true H
theorem bH {Y:Cx}:wX Y [] zp3:=fun _ _ _ H _ I h=>wpAny_tests_nil ⟨H,I,h⟩
theorem kf {Y:Cx}{c:Expr}{t:TT}(h:PT Y c t):wX Y [c] t:=fun pins s σ H Q I q=>wpAny_tests_one (h pins s σ H Q I q)
def qN (J:It)(acc:Addr)(g:TG)(tt:TT)(te:TE)(τ0:St)(H0:Hp)(Q:VK):Prop:=
 ∃W:Nat→Nat→List V→St→Hp→Prop,(∃m,W 0 m [] τ0 H0)∧∀i m ys τ H2,W i m ys τ H2→
  (J.stop i H2∧Q (.ref acc) H2)∨(J.go i H2∧∃N:List V→St→Hp→Prop,(∀ys' τ' H',N ys' τ' H'→∃m',m'<m∧W (i+1) m' ys' τ' H')∧
   ∀x H3,J.yld i H2 x H3→g x τ H3 fun τ2 H4=>tt τ2 H4 fun c H5=>
    if c=true then te τ2 H5 fun y H6=>H6 acc=some (.lst ys)∧ys.length<sizeLine∧N (ys++[y]) τ2 (upd H6 acc (.lst (ys++[y]))) else N ys τ2 H5)
def dR (wi:TI)(imp:List (Option Nat))(g:TG)(tt:TT)(te:TE):TE:=fun σ H Q=>wi σ H fun J H1=>∀acc,H1 acc=none→qN J acc g tt te (xX imp σ) (upd H1 acc (.lst [])) Q
section
variable {X:Cx}{pins:List (Addr×Obj)}{σ:St}{elt iter tg:Expr}{ifs:List Expr}{scope:Scope}{pos:Pos}{wi:TI}{g:TG}{tt:TT}{te:TE}{N:List Str}{imp:List (Option Nat)}
theorem sH {H2:Hp}{s2:Shared}{it:Addr}{fp:List Addr}{tn:Nat→Heap→Prop}{J:It}{RR:Value→Addr→Result→Shared→Prop}{E:Value→Shared→Prop}{Q:VK}
  (hc:X.calm=true) (S:zI X.N X.env.scope N imp scope) (hg:∀C s2 H2 fp,PG (X.comp N scope C s2 H2 fp) tg g) (ht:∀C s2 H2 fp,wX (X.comp N scope C s2 H2 fp) ifs tt) (he:∀C s2 H2 fp,PE (X.comp N scope C s2 H2 fp) elt te)
  (I2:Inv X pins σ H2 s2) (T:Turn X.prog X.w X.K tg J fp it tn) (st2:tn 0 s2.heap) (f2:∀b∈fp,xj X pins H2 b)
  (hW:∀acc,H2 acc=none→qN J acc g tt te (xX imp σ) (upd H2 acc (.lst [])) Q)
  (hRR:∀a C H' s' m,Inv X pins σ H' s'→s'.heap.Ns C m→xj X pins H' C→Q (.ref a) H'→RR (.ref a) C (.ok .next) s'):
  wpAny (model X.prog X.w) X.A (newList []) (fun acc s3=>wpAny (model X.prog X.w) X.A (newFunctionEnv scope X.env.globals (vT X.env.cells scope.names []) [] X.env.qual none .none (some X.env)) (fun cenv s4=>
   codeAny (model X.prog X.w) X.A (.compStart (.ListComp elt [⟨tg,iter,ifs,0⟩] scope pos) 0 (.ref it) acc {cenv with scope:=relabel scope X.env}) (RR acc cenv.locals) s4) E s3) E s2:=by
 refine wpAny_newObj_type (wpAny_newFunctionEnv S.nocell (by intro y hy;simp at hy) (fun h1 hns1 hsb1=>?_) S.kind)
 dsimp only at hns1 hsb1 ⊢
 generalize hHH:s2.heap.push {cls:=.type "list",dict:=none,data:=.seq ([]:List Value).toArray}=HH at hns1 hsb1 ⊢
 have hC:HH.objs.size=s2.heap.objs.size+1:=by rw[←hHH,zz0]
 have hDC:s2.heap.objs.size≠HH.objs.size:=by rw[hC];exact zu4 (zC5 _)
 have old:∀b o,s2.heap.get? b=some o→h1.get? b=some o:=fun b o e=>hsb1.extBut b o (by rw[hC];exact zu4 (zC2 (zt3 e))) (zs5 _ (hHH▸zs5 _ e))
 have hacc:h1.get? s2.heap.objs.size=some {cls:=.type "list",data:=.seq ([]:List Value).toArray}:=hsb1.extBut _ _ hDC (zs5 _ (hHH▸zt8 _ rfl))
 obtain⟨W,⟨m0,w0⟩,turn⟩:=hW s2.heap.objs.size I2.fresh
 generalize hCC:HH.objs.size=C at hns1 hsb1 hC hDC ⊢
 have ho:∀b∈fp,∃o,s2.heap.get? b=some o:=fun b hb=>let ⟨o,e,_⟩:=T.obj 0 _ st2 b hb;⟨o,e⟩
 generalize hacc0:s2.heap.objs.size=acc at *
 have loop:∀s3:Shared,s3={s2 with heap:=h1,toks:=s2.toks+([]:List (Str×Value)).length}→
   codeAny (model X.prog X.w) X.A (.compLoop (.ListComp elt [⟨tg,iter,ifs,0⟩] scope pos) 0 (.ref it) (.ref acc) (X.comp N scope C s2 H2 fp).env) (RR (.ref acc) C) s3:=by
  rintro s3 rfl
  have I3:Inv (X.comp N scope C s2 H2 fp) [] (xX imp σ) (upd H2 acc (.lst [])) {s2 with heap:=h1,toks:=s2.toks+([]:List (Str×Value)).length}:=
   gk I2 S f2 ho hacc0.symm (by rw[hC,hacc0]) old hns1 hacc
  have fpn:∀b∈fp,upd H2 acc (.lst []) b=none:=fun b hb=>by
   obtain⟨o,e⟩:=ho b hb
   rw[zg (by rw[←hacc0];exact zu4 (zt3 e))]
   exact (f2 b hb).1
  have stat:∀{H':Hp},(∀b∈fp,H' b=none)→∀b∈fp,xj (X.comp N scope C s2 H2 fp) [] H' b:=fun hn b hb=>by
   obtain⟨e1,e2⟩:=I3.ok.exf b hb
   exact⟨hn b hb,e1,I3.ok.exfs b hb,.inl hb,e2,fun p hp=>absurd (show p∈([]:List (Addr×Obj)) from hp) (by simp)⟩
  refine qX (fun n s'=>∃i ys τ H',Inv (X.comp N scope C s2 H2 fp) [] τ H' s'∧tn i s'.heap∧(∀b∈fp,H' b=none)∧W i n ys τ H') ?_ m0
   ⟨0,[],_,_,I3,T.keep _ _ _ st2 fun b _ o e=>old b o e,fpn,w0⟩
  rintro n s4 ⟨i,ys,τ,H4,I4,st4,fr4,w4⟩
  rcases turn i n ys τ H4 w4 with ⟨stop,qn⟩|⟨go,NN,hN,step⟩
  ·refine zv6 (T.done (X.comp N scope C s2 H2 fp) rfl rfl rfl hc i [] s4 τ H4 (fun _ _=>False) I4 (stat fr4) st4 stop) (fun r s5 ⟨hr,I5⟩=>?_) fun _ _ z=>z
   subst hr
   obtain⟨m5,hn5,_⟩:=id I5.loc
   exact hRR acc C H4 s5 m5 (jN I2 f2 I5) hn5 (I2.fpOk (by rw[hC,hacc0];exact zC1 _) I5.free) qn
  ·refine zv6 (T.item (X.comp N scope C s2 H2 fp) rfl rfl rfl hc i [] s4 τ H4 (fun _ _=>False) I4 (stat fr4) st4 go) (fun r s5 ⟨u,hr,h5⟩=>?_) fun _ _ z=>z
   subst hr
   refine zv6 h5 (fun _ s6 ⟨x,H6,I6,r6,y6,st6,fr6⟩=>?_) fun _ _ z=>z
   have I6':=I6.pinned (stat fr6) (T.obj _ _ st6)
   refine zv6 (hg C s2 H2 fp _ s6 τ H6 x u _ I6' r6 (step x H6 y6)) (fun _ s7 ⟨τ7,H7,I7,q7⟩=>?_) fun _ _ z=>z
   refine zv6 (ht C s2 H2 fp _ s7 τ7 H7 _ I7 q7) (fun ok s8 ⟨H8,I8,q8⟩=>?_) fun _ _ z=>z
   have again:∀{ys9:List V} {H9:Hp} {s9:Shared},Inv (X.comp N scope C s2 H2 fp) ([]++sV fp s6.heap) τ7 H9 s9→NN ys9 τ7 H9→∃m,m<n∧∃i ys τ H',Inv (X.comp N scope C s2 H2 fp) [] τ H' s9∧tn i s9.heap∧(∀b∈fp,H' b=none)∧W i m ys τ H':=fun {ys9 H9 s9} I9 n9=>by
    obtain⟨m',hm,w9⟩:=hN ys9 τ7 H9 n9
    refine⟨m',hm,i+1,ys9,τ7,H9,I9.unpinned,T.keep _ _ _ st6 fun b hb o e=>(I9.pin (b,o) (zu6 _ (zu6 _ (wu hb e)))).1,fun b hb=>?_,w9⟩
    obtain⟨o,e,d⟩:=T.obj _ _ st6 b hb
    exact (I9.pin (b,o) (zu6 _ (zu6 _ (wu hb e)))).2.1
   cases ok with
   |false=>
    have q8':NN ys τ7 H8:=by
     have z:=q8
     rw[if_neg zu2] at z
     exact z
    rw[if_neg zu2]
    exact again I8 q8'
   |true=>
    rw[if_pos rfl] at q8 ⊢
    refine zv6 (he C s2 H2 fp _ s8 τ7 H8 _ I8 q8) (fun v s9 ⟨y,H9,I9,r9,a9,z9,q9⟩=>?_) fun _ _ z=>z
    refine zv6 (rH (X:=X.comp N scope C s2 H2 fp) _ s9 τ7 H9 (.ref acc) [y] (.ref acc) [v] (fun _ H10=>H10=upd H9 acc (.lst (ys++[y]))) I9 rfl (.cons r9 .nil) ⟨acc,ys,y,rfl,rfl,a9,z9,rfl⟩) (fun _ s10 ⟨_,H10,I10,_,e10⟩=>?_) fun _ _ z=>z
    subst e10
    exact again I10 q9
 exact codeAny_compStart_list (loop _ rfl) (T.self X.A 0 _ _ _ (T.keep _ _ _ st2 fun b _ o e=>old b o e) (loop _ rfl))
theorem za5 (hc:X.calm=true)(S:zI X.N X.env.scope N imp scope)(hi:PI X tg iter wi)(hg:∀C s2 H2 fp,PG (X.comp N scope C s2 H2 fp) tg g)(ht:∀C s2 H2 fp,wX (X.comp N scope C s2 H2 fp) ifs tt)
  (he:∀C s2 H2 fp,PE (X.comp N scope C s2 H2 fp) elt te) (hs:∀x,foldedSetIterable iter X.env x=pure x:=by intro _;rfl):
  PE X (.ListComp elt [⟨tg,iter,ifs,0⟩] scope pos) (dR wi imp g tt te):=by
 intro pins s σ H Q I h
 rw[eval_ListComp]
 refine wpAny_comprehension_free (use:=none) rfl hs (vD (vP I S)) S.kind S.locs (thn (hi pins s σ H _ I h) fun v s1 h1=>thn h1 fun itv s2 h2=>?_)
 obtain⟨it,fp,tn,J,H2,e,I2,T,st2,f2,hW⟩:=h2
 subst e
 refine sH (RR:=fun acc C=>compPost (model X.prog X.w) X.A X.xe none (EP X pins σ Q) acc C) hc S hg ht he I2 T st2 f2 hW fun a C H' s' m I' hn f q=>?_
 refine⟨m,hn,fun h' sb=>?_⟩
 obtain⟨g0,g1,g2,g3,g4,g5⟩:=f
 exact⟨.ref a,H',I'.turned (t':=s'.toks) (it:=C) (fun b o hb e=>(sb.2 b hb).trans e) g0 g1 g3 g4 g5,rfl,q⟩
theorem fV {i:Nat}{x:Str}{px:Pos}{spos:Pos}(hc:X.calm=true)(S:zI X.N X.env.scope N imp scope)(hi:PI X tg iter wi)(hg:∀C s2 H2 fp,PG (X.comp N scope C s2 H2 fp) tg g)(ht:∀C s2 H2 fp,wX (X.comp N scope C s2 H2 fp) ifs tt)
  (he:∀C s2 H2 fp,PE (X.comp N scope C s2 H2 fp) elt te) (hN:X.N.Nodup) (hx:X.N[i]?=some x) (hl:Loc X.env.scope x) (hsw:swapsWith (.ListComp elt [⟨tg,iter,ifs,0⟩] scope pos) (some (.Name x px)) spos.line X.env=pure true:=by rfl)
  (hf:X.fn x=true∨X.env.scope.names.lookup x=some .local:=by first|exact .inl rfl|exact .inr rfl|assumption) (hs:∀x,foldedSetIterable iter X.env x=pure x:=by intro _;rfl):
  PS X (.Assign [.Name x px] (.ListComp elt [⟨tg,iter,ifs,0⟩] scope pos) spos) (zd5 (dR wi imp g tt te) (rP i)):=by
 intro pins s σ H D I h
 rw[exec_Assign_Name_used _ _ _ _ hsw]
 refine zs3 (wpAny_standAt (zs3 ?_))
 show wpAny _ X.A (do let _ ←comprehension (.ListComp elt [⟨tg,iter,ifs,0⟩] scope pos) scope X.env _ (newList []) false (eval iter X.env) (some (assign (.Name x px) X.env))) _ _ s
 refine zs3 (zv6 (wpAny_comprehension_free (use:=some (assign (.Name x px) X.env)) (Q:=fun _ s'=>SP X pins D .next s') rfl hs (vD (vP I S)) S.kind S.locs (thn (hi pins s σ H _ I h) fun v s1 h1=>thn h1 fun itv s2 h2=>?_))
  (fun _ s' hq=>zt2 (zt2 hq)) fun _ _ e=>e)
 obtain⟨it,fp,tn,J,H2,e,I2,T,st2,f2,hW⟩:=h2
 subst e
 refine sH (Q:=fun x H1=>rP i x σ H1 D.nx) (RR:=fun acc C=>compPost (model X.prog X.w) X.A X.xe (some (assign (.Name x px) X.env)) (fun _ s'=>SP X pins D .next s') acc C) hc S hg ht he I2 T st2 f2 hW fun a C H' s' m I' hn f q=>?_
 show wpAny _ X.A (assign (.Name x px) X.env (.ref a)) _ _ _
 obtain⟨g0,g1,g2,g3,g4,g5⟩:=f
 refine wpAny_assign_Name (qj I' hN hx hl (show RelV (.ref a) (.ref a) from rfl) (fun s4 I4 hch=>?_) hf)
 obtain⟨ad,sb,had⟩:=hch
 have hCa:C≠ad:=by
  rcases had with e|e
  ·rw[e];exact g1
  ·exact (g4 x ad e).symm
 refine⟨m,hn.sameBut sb hCa,fun h' sb2=>?_⟩
 exact⟨_,H',I4.turned (t':=s4.toks) (it:=C) (fun b o hb e=>(sb2.2 b hb).trans e) g0 g1 g3 g4 g5,q⟩
end
mutual
inductive DV (H:Hp):V→PyData→Prop where
 |non:DV H .non .none
 |bl (b:Bool):DV H (.bl b) (.bool b)
 |int (i:Int):DV H (.int i) (.int i)
 |str (x:Str):DV H (.str x) (.str x)
 |lst {a:Addr} {xs:List V} {ds:List PyData}:H a=some (.lst xs)→DVs H xs ds→DV H (.ref a) (.list ds)
 |tup {a:Addr} {xs:List V} {ds:List PyData}:H a=some (.tup xs)→DVs H xs ds→DV H (.ref a) (.tuple ds)
inductive DVs (H:Hp):List V→List PyData→Prop where
 |nil:DVs H [] []
 |cons {x:V} {xs:List V} {d:PyData} {ds:List PyData}:DV H x d→DVs H xs ds→DVs H (x::xs) (d::ds)
end
section
variable {X:Cx}{pins:List (Addr×Obj)}{σ:St}{H:Hp}{s:Shared}
mutual
theorem DV.reads (I:Inv X pins σ H s):∀{x:V} {d:PyData} {u:Value},DV H x d→RelV x u→∃as,Reads s.heap u d as
 |_,_,u,.non,r=>by cases (show u=Value.none from r);exact⟨_,.none⟩
 |_,_,u,.bl b,r=>by cases (show u=Value.bool b from r);exact⟨_,.bool b⟩
 |_,_,u,.int i,r=>by obtain⟨t,rfl⟩:=(show ∃t,u=Value.int i t from r);exact⟨_,.int i t⟩
 |_,_,u,.str x,r=>by obtain⟨t,rfl⟩:=(show ∃t,u=Value.str x t from r);exact⟨_,.str x t⟩
 |_,_,u,.lst (a:=a) hq hs,r=>by
  cases (show u=Value.ref a from r)
  obtain⟨its,rv,p,hz⟩:=I.list (SqL.of hq)
  obtain⟨o,ho,hc,n,hd⟩:=p.isList
  obtain⟨as,ra⟩:=DVs.reads I hs rv
  exact⟨_,.list ho hc hd (by simpa using ra)⟩
 |_,_,u,.tup (a:=a) hq hs,r=>by
  cases (show u=Value.ref a from r)
  obtain⟨its,rv,p,hz⟩:=I.tuple (SqT.of hq)
  obtain⟨o,ho,hc,n,hd⟩:=p
  obtain⟨as,ra⟩:=DVs.reads I hs rv
  exact⟨_,.tuple ho hc hd (by simpa using ra)⟩
theorem DVs.reads (I:Inv X pins σ H s):∀{xs:List V} {ds:List PyData} {us:List Value},DVs H xs ds→Vals xs us→∃as,ReadsAll s.heap us ds as
 |_,_,_,.nil,.nil=>⟨_,.nil⟩
 |_,_,_,.cons h hs,.cons r rs=>by
  obtain⟨as,ra⟩:=DV.reads I h r
  obtain⟨bs,rb⟩:=DVs.reads I hs rs
  exact⟨_,.cons ra rb⟩
end
end
mutual
theorem DV.same {H H':Hp}(e:zy H H'):∀{x:V} {d:PyData},DV H x d→DV H' x d
 |_,_,.non=>.non
 |_,_,.bl b=>.bl b
 |_,_,.int i=>.int i
 |_,_,.str x=>.str x
 |_,_,.lst hq hs=>.lst (e _ _ hq) (DVs.same e hs)
 |_,_,.tup hq hs=>.tup (e _ _ hq) (DVs.same e hs)
theorem DVs.same {H H':Hp}(e:zy H H'):∀{xs:List V} {ds:List PyData},DVs H xs ds→DVs H' xs ds
 |_,_,.nil=>.nil
 |_,_,.cons h hs=>.cons (DV.same e h) (DVs.same e hs)
end
theorem DVs.length {H:Hp}:∀{xs:List V} {ds:List PyData},DVs H xs ds→xs.length=ds.length
 |_,_,.nil=>rfl
 |_,_,.cons _ hs=>by rw[zu1,zu1,DVs.length hs]
def tyD :PyData→String
 |.none=>"NoneType"
 |.bool _=>"bool"
 |.int _=>"int"
 |.str _=>"str"
 |.list _=>"list"
 |.tuple _=>"tuple"
 |.dict _=>"dict"
theorem DV.ty {K:PySem.W.Frag}{H:Hp}{x:V}{d:PyData}(h:DV H x d):ug K H x (.type (tyD d)):=by
 cases h with
 |non=>exact .non
 |bl b=>exact .bl b
 |int i=>exact .int i
 |str x=>exact .str x
 |lst e _=>exact .lst e
 |tup e _=>exact .tup e
def isInt :PyData→Bool
 |.int _=>true
 |.bool _=>true
 |_=>false
def isBool :PyData→Bool
 |.bool _=>true
 |_=>false
def isStr :PyData→Bool
 |.str _=>true
 |_=>false
def isList :PyData→Bool
 |.list _=>true
 |_=>false
def jb :PyData→Bool
 |.tuple _=>true
 |_=>false
def qM (T:String)(d:PyData):Option Bool:=
 if T="int" then some (isInt d) else if T="bool" then some (isBool d) else if T="str" then some (isStr d) else if T="list" then some (isList d) else if T="tuple" then some (jb d) else none
def zb8 (t T:String):Option Bool:=if (Value.type t == Value.type T)=true then some true else if PySem.W.kitMeta T=true then (fastBuiltinMro t).map (·.contains (Value.type T)) else none
theorem dB (K:PySem.W.Frag)(t T:String):PySem.W.kitOne K (.type t) (.type T)=zb8 t T:=rfl
theorem fB :(["NoneType","bool","int","str","list","tuple"].all fun t=>["int","bool","str","list","tuple"].all fun T=>
  zb8 t T == some (if T="int" then t == "int"||t == "bool" else t == T))=true:=by decide +kernel
theorem zk9 (K:PySem.W.Frag){H:Hp}{x:V}{d:PyData}(h:DV H x d){T:String}{b:Bool}(e:qM T d=some b):PySem.W.kitOne K (.type (tyD d)) (.type T)=some b:=by
 rw[dB]
 have key:∀t∈["NoneType","bool","int","str","list","tuple"],∀T∈["int","bool","str","list","tuple"],zb8 t T=some (if T="int" then t == "int"||t == "bool" else t == T):=fun t ht T hT=>
  eq_of_beq (zC7.mp (zC7.mp fB t ht) T hT)
 have hd:tyD d∈["NoneType","bool","int","str","list","tuple"]:=by cases h<;>simp[tyD]
 unfold qM at e
 split at e
 ·rename_i eT
  subst eT
  rw[key _ hd "int" (by decide)]
  cases e
  cases h<;>rfl
 ·split at e
  ·rename_i eT
   subst eT
   rw[key _ hd "bool" (by decide)]
   cases e
   cases h<;>rfl
  ·split at e
   ·rename_i eT
    subst eT
    rw[key _ hd "str" (by decide)]
    cases e
    cases h<;>rfl
   ·split at e
    ·rename_i eT
     subst eT
     rw[key _ hd "list" (by decide)]
     cases e
     cases h<;>rfl
    ·split at e
     ·rename_i eT
      subst eT
      rw[key _ hd "tuple" (by decide)]
      cases e
      cases h<;>rfl
     ·cases e
section
variable {X:Cx}
def zj1 :R2:=fun x y H Q=>∃d e,DV H x d∧DV H y e∧SeqAt.shaped d=true∧SeqAt.shaped e=true∧Q (.bl (PyData.eqv d e)) H
def zi9 :R2:=fun x y H Q=>∃d e,DV H x d∧DV H y e∧SeqAt.shaped d=true∧SeqAt.shaped e=true∧Q (.bl (!PyData.eqv d e)) H
theorem wW (hu:X.A.units+64<cLine):OpR X (compareOp .Eq) zj1:=by
 intro pins s σ H x y v u Q I rx ry h
 obtain⟨d,e,hd,he,sd,se,q⟩:=h
 obtain⟨as,ra⟩:=hd.reads I rx
 obtain⟨bs,rb⟩:=he.reads I ry
 exact SeqAt.compareEq_shaped ra rb sd se hu ⟨.bl _,H,I,rfl,q⟩
theorem zg8 (hu:X.A.units+64<cLine):OpR X (compareOp .NotEq) zi9:=by
 intro pins s σ H x y v u Q I rx ry h
 obtain⟨d,e,hd,he,sd,se,q⟩:=h
 obtain⟨as,ra⟩:=hd.reads I rx
 obtain⟨bs,rb⟩:=he.reads I ry
 exact SeqAt.compareNe_shaped ra rb sd se hu ⟨.bl _,H,I,rfl,q⟩
theorem eW :we X (.builtin "isinstance") (fun xs H Q=>∃x T t b,xs=[x,.ty T]∧ug X.K H x t∧PySem.W.kitOne X.K t (.type T)=some b∧Q (.bl b) H):=by
 intro pins s σ H xs us Q I r h
 obtain⟨x,T,t,b,rfl,ty,e,q⟩:=h
 obtain⟨u,v,rfl,rx,ry⟩:=Vals.two r
 cases (show v=Value.type T from ry)
 exact jy I rx ty e fun tk=>⟨.bl b,H,I.tok tk,rfl,q⟩
theorem xY :we X (.builtin "isinstance") (fun xs H Q=>∃x T d b,xs=[x,.ty T]∧DV H x d∧qM T d=some b∧Q (.bl b) H):=by
 intro pins s σ H xs us Q I r h
 obtain⟨x,T,d,b,e,hd,ht,q⟩:=h
 exact eW pins s σ H xs us Q I r ⟨x,T,_,b,e,hd.ty,zk9 X.K hd ht,q⟩
def zk6 (i j:Int):Prop:=0<j∧j.natAbs.log2<9000
theorem rh :OpR X (binaryOp .FloorDiv) (rI zk6 fun i j=>.int (i / j)):=opI fun i j _ _ _ _ _ hc q=>by
 have h1:(0:Int)<j:=hc.1
 refine floordiv_int (Int.ne_of_gt h1) ?_ (.inl (PyProof.noPylong_of_log2 hc.2))
 rw[Int.fdiv_eq_ediv_of_nonneg _ (Int.le_of_lt h1)]
 exact q
abbrev big :Int:=115792089237316195423570985008687907853269984665640564039457584007913129639936
theorem log2_small {j:Int}(h0:0<j)(h:j<big):j.natAbs.log2<9000:=by
 have hn:j.natAbs≠0:=by omega
 have h2:j.natAbs<2 ^ 256:=by
  have e:(2:Nat) ^ 256=115792089237316195423570985008687907853269984665640564039457584007913129639936:=by decide +kernel
  rw[e]
  unfold big at h
  omega
 have h3:j.natAbs.log2<256:=(Nat.log2_lt hn).mpr h2
 omega
theorem nh :we X (.type "range") (fun xs H Q=>∃i j:Int,xs=[.int i,.int j]∧∀p,H p=none→Q (.ref p) (upd H p (.rng i j))):=by
 intro pins s σ H xs us Q I r h
 obtain⟨i,j,rfl,q⟩:=h
 obtain⟨u,v,rfl,⟨t,rfl⟩,⟨t',rfl⟩⟩:=Vals.two r
 refine call_range_2 ⟨.ref s.heap.objs.size,_,I.laid (o:=.rng i j) (fun b u e=>zs5 _ e) (zs9 _) ⟨t,t',s.toks,zt8 _ rfl⟩,rfl,q _ (I.hok.fresh (zs9 _))⟩
def zu (lo:Int)(n:Nat):List Int:=(List.range n).map fun i=>lo+(i:Nat)
theorem zh (lo:Int)(n:Nat):(zu lo n).length=n:=by simp[zu]
theorem wx {lo:Int}{n i:Nat}(h:i<n):(zu lo n)[i]?=some (lo+(i:Nat)):=by simp[zu,h]
theorem rn {lo:Int}{n:Nat}{acc:Array Value}(h:ItemsOf (fun i v=>∃t,v=.int (lo+i*1) t) acc n):Vals ((zu lo n).map V.int) acc.toList:=by
 obtain⟨h1,h2⟩:=h
 have key:∀(xs:List V) (us:List Value),xs.length=us.length→(∀(i:Nat) (x:V) (u:Value),xs[i]?=some x→us[i]?=some u→RelV x u)→Vals xs us:=by
  intro xs
  induction xs with
  |nil=>intro us hl _;cases us with|nil=>exact .nil|cons _ _=>simp at hl
  |cons x xs ih=>
   intro us hl hr
   cases us with
   |nil=>simp at hl
   |cons u us=>exact .cons (hr 0 x u rfl rfl) (ih us (by simpa using hl) fun i x' u' e1 e2=>hr (i+1) x' u' (by simpa using e1) (by simpa using e2))
 refine key _ _ ?_ fun i x u e1 e2=>?_
 ·rw[zs4,zh]
  simp[h1]
 ·rw[zu0] at e1
  have hi:i<n:=by
   have:=(zt0.mp e2).1
   simp[h1] at this
   exact this
  rw[wx hi] at e1
  have e1':V.int (lo+(i:Nat))=x:=zv0 e1
  subst e1'
  obtain⟨t,ht⟩:=h2 i u (by simpa using e2)
  refine⟨t,?_⟩
  rw[ht,Int.mul_one]
theorem rz (hc:X.calm=true):we X (.type "list") (fun xs H Q=>∃(p:Addr) (lo hi:Int),xs=[.ref p]∧H p=some (.rng lo hi)∧(-(2 ^ 62)≤lo∧lo<2 ^ 62∧-(2 ^ 62)≤hi∧hi<2 ^ 62)∧(hi-lo).toNat≤sizeLine∧(hi-lo).toNat≤2 ^ 24∧
  ∀l,H l=none→Q (.ref l) (upd H l (.lst ((zu lo (hi-lo).toNat).map V.int)))):=by
 intro pins s σ H xs us Q I r h
 obtain⟨p,lo,hi,rfl,hp,⟨b1,b2,b3,b4⟩,hz,hz2,q⟩:=h
 obtain⟨u,rfl,rx⟩:=Vals.one r
 cases (show u=Value.ref p from rx)
 obtain⟨t,t',t'',e⟩:=(show zY X.prog X.w H s.heap p (.rng lo hi) from I.hok p _ hp)
 refine call_list_range (I.ok.hd hc) e (small_one b1 b2 b3 b4) (n:=(hi-lo).toNat) (by rw[rangeSize_one];split<;>omega) hz2 fun h' tk acc' c' hk hl hit=>?_
 refine⟨.ref s.heap.objs.size,_,I.laid (o:=.lst ((zu lo (hi-lo).toNat).map V.int)) (t':=tk) hk (zs9 _) ⟨by rw[zs4,zh];exact hz,acc'.toList,c',rn hit,by simpa using hl⟩,rfl,q _ (I.hok.fresh (zs9 _))⟩
end
def bz (X:Cx)(body:List Stmt):TS:=fun D σ H=>∃t,PSs X body t∧t D σ H
theorem yt {X:Cx}{body:List Stmt}:PSs X body (bz X body):=fun pins s σ H D I ⟨t,p,q⟩=>p pins s σ H D I q
theorem zU {X:Cx}{st:Stmt}{rest:List Stmt}{D:Ends}{σ:St}{H:Hp}(M:St→Hp→Prop)(h1:∃t,PS X st t∧t {D with nx:=M} σ H)(h2:∀σ' H',M σ' H'→∃t,PSs X rest t∧t D σ' H'):
  ∃t,PSs X (st::rest) t∧t D σ H:=by
 obtain⟨t1,p1,q1⟩:=h1
 refine⟨fun D' σ' H'=>D'=D∧σ'=σ∧H'=H,?_,rfl,rfl,rfl⟩
 intro pins s σ' H' D' I h
 obtain⟨e1,e2,e3⟩:=h
 subst e1 e2 e3
 have step:PSs X (st::rest) (zl3 t1 fun D2 σ2 H2=>D2=D'∧M σ2 H2):=zV p1 fun pins s σ2 H2 D2 I2 ⟨e,m⟩=>by
  subst e
  obtain⟨t2,p2,q2⟩:=h2 σ2 H2 m
  exact p2 pins s σ2 H2 _ I2 q2
 refine step pins s _ _ _ I ?_
 show t1 {D' with nx:=fun σ2 H2=>D'=D'∧M σ2 H2} _ _
 have e:(fun (σ2:St) (H2:Hp)=>D'=D'∧M σ2 H2)=M:=by
  funext σ2 H2
  exact propext ⟨fun z=>z.2,fun z=>⟨rfl,z⟩⟩
 rw[e]
 exact q1
theorem ib {K:PySem.W.Frag}{a acc:Addr}{xs:List V}{g:TG}{tt:TT}{te:TE}{Q:VK}{τ0:St}{H0:Hp}(Pv:Nat→List V→St→Hp→Prop)(h0:Pv 0 [] τ0 H0)(hl:∀i ys τ H,i≤xs.length→Pv i ys τ H→SqL K H a xs)
  (hs:∀i x ys τ H,xs[i]?=some x→Pv i ys τ H→g x τ H fun τ2 H4=>tt τ2 H4 fun c H5=>
   if c=true then te τ2 H5 fun y H6=>H6 acc=some (.lst ys)∧ys.length<sizeLine∧Pv (i+1) (ys++[y]) τ2 (upd H6 acc (.lst (ys++[y]))) else Pv (i+1) ys τ2 H5)
  (hd:∀ys τ H,Pv xs.length ys τ H→Q (.ref acc) H):
  qN (Itl K a) acc g tt te τ0 H0 Q:=by
 refine⟨fun i m ys τ H=>m=xs.length-i∧i≤xs.length∧Pv i ys τ H,⟨xs.length,by simp,zt6 _,h0⟩,?_⟩
 rintro i m ys τ H ⟨rfl,hi,p⟩
 have q:=hl i ys τ H hi p
 by_cases hlt:i<xs.length
 ·refine .inr ⟨⟨xs,xs[i],q,by simp[hlt]⟩,Pv (i+1),fun ys' τ' H' p'=>⟨xs.length-(i+1),by omega,rfl,hlt,p'⟩,fun x H' y=>?_⟩
  obtain⟨e,y⟩:=y
  subst e
  exact hs i x ys τ _ (y xs q) p
 ·have e:i=xs.length:=by omega
  subst e
  exact .inl ⟨⟨xs,q,zs9 _⟩,hd ys τ H p⟩
theorem at0 {α:Type}{x:α}{xs:List α}:atI (x::xs) 0=some x:=yY (j:=0) rfl
theorem ix0 {α:Type}{x:α}{xs:List α}:ixN (x::xs).length 0=some 0:=by
 unfold ixN
 rw[if_pos (Int.le_refl _),if_pos (by rw[zu1];omega)]
 rfl
theorem zr9 {α:Type}{x:α}{xs:List α}:seqIndex? 0 (x::xs).length=some 0:=(pw ix0).1
theorem iQ (ns:List Int)(lo hi:Option Int):∃ms:List Int,nF (ns.map V.int) lo hi=ms.map V.int∧ms.length≤ns.length:=by
 refine⟨(ns.drop (HT.sIx (ns.map V.int).length 0 lo)).take (HT.sIx (ns.map V.int).length (ns.map V.int).length hi-HT.sIx (ns.map V.int).length 0 lo),?_,?_⟩
 ·unfold nF
  rw[List.map_take,List.map_drop]
 ·rw[zu9,zx2]
  omega
structure yD (H:Hp)(t b c:Addr):Prop where
 ex:∃(n:Int) (bs cs:List Int),b≠c∧H t=some (.lst [.ref b,.ref c,.int n])∧H b=some (.lst (bs.map V.int))∧H c=some (.lst (cs.map V.int))∧bs.length≤63∧cs.length≤63
theorem kn {b c:Addr}{n:Int}(bs:List Int):HO.lst [.ref b,.ref c,.int n]≠HO.lst (bs.map V.int):=by
 intro z
 injection z with z
 cases bs with
 |nil=>cases z
 |cons x r=>cases z
def pO (t b:Addr)(H H':Hp):Prop:=∀a,a≠t→a≠b→H' a=H a
theorem pO.trans {t b:Addr}{H H1 H2:Hp}(h:pO t b H H1)(k:pO t b H1 H2):pO t b H H2:=fun a h1 h2=>(k a h1 h2).trans (h a h1 h2)
def lg (K:PySem.W.Frag):Sp:=fun vs H Q _=>∃(a:Addr) (ns:List Int),vs=[.ref a]∧SqL K H a (ns.map V.int)∧ns.length≤63∧
 ∀(t b c:Addr) (H':Hp),yD H' t b c→H t=none→H b=none→H c=none→zy H H'→Q (.ref t) H'
def fJ :Sp:=fun vs H Q _=>∃(t b c:Addr) (many:Int),vs=[.ref t,.int many]∧yD H t b c∧0<many∧many<big∧
 ∀(v:Int) (H':Hp),0≤v→v<many→yD H' t b c→pO t b H H'→Q (.int v) H'
theorem yD.free {H:Hp}{t b c l:Addr}(T:yD H t b c)(h:H l=none):l≠t∧l≠b∧l≠c:=by
 obtain⟨n,bs,cs,n1,e1,e2,e3,l1,l2⟩:=T.ex
 exact⟨(zk e1 h).symm,(zk e2 h).symm,(zk e3 h).symm⟩
theorem yD.off {H H':Hp}{t b c:Addr}(T:yD H t b c)(h:∀a,a=t∨a=b∨a=c→H' a=H a):yD H' t b c:=by
 obtain⟨n,bs,cs,n1,e1,e2,e3,l1,l2⟩:=T.ex
 exact⟨n,bs,cs,n1,by rw[h t (.inl rfl)];exact e1,by rw[h b (.inr (.inl rfl))];exact e2,by rw[h c (.inr (.inr rfl))];exact e3,l1,l2⟩
theorem fZ {H:Hp}{t b c l:Addr}{o:HO}(T:yD H t b c)(h:l≠t∧l≠b∧l≠c):yD (upd H l o) t b c:=
 T.off fun a ha=>zg (ha.elim (fun e=>e▸h.1.symm) fun ha=>ha.elim (fun e=>e▸h.2.1.symm) fun e=>e▸h.2.2.symm)
theorem jz {H H':Hp}{t b c:Addr}(T:yD H t b c)(s:zy H H'):yD H' t b c:=by
 obtain⟨n,bs,cs,n1,e1,e2,e3,l1,l2⟩:=T.ex
 exact⟨n,bs,cs,n1,s _ _ e1,s _ _ e2,s _ _ e3,l1,l2⟩
theorem yw {H:Hp}{p:Addr}{o:HO}(h:H p=none):zy H (upd H p o):=fun b u e=>by rw[zg (zk e h)];exact e
def yr :Addr:=(147:Nat)
def xC :Str:="cheapest_first.<locals>.<lambda>"
def tH (x:Addr):Prop:=x=yr
def uM (c:Addr):HO:=.ext fun h=>h.CodeRec (.ref c) xC
structure TabAt (H:Hp):Prop where
 ex:∃ps:Array Value,H yr=some (.tbl ps)∧TriplesOk ps.toList∧∀pos cv,codeAmong pos ps.toList=some cv→∃c,cv=.ref c∧H c=some (uM c)
theorem sq {H H':Hp}(T:TabAt H)(h:∀a o,(∀xs,o≠.lst xs)→H a=some o→H' a=some o):TabAt H':=by
 obtain⟨ps,e1,e2,e3⟩:=T.ex
 refine⟨ps,h _ _ (fun xs z=>nomatch z) e1,e2,fun pos cv hc=>?_⟩
 obtain⟨c,rfl,e4⟩:=e3 pos cv hc
 exact⟨c,rfl,h _ _ (fun xs z=>nomatch z) e4⟩
def Plain (H:Hp)(l:Addr):Prop:=∀o,H l=some o→o≠uM l∧∀ps,o≠.tbl ps
theorem ak {H:Hp}{l:Addr}{o:HO}(T:TabAt H)(h:Plain H l):TabAt (upd H l o):=by
 obtain⟨ps,e1,e2,e3⟩:=T.ex
 have n1:yr≠l:=fun z=>by rw[z] at e1;exact (h _ e1).2 ps rfl
 refine⟨ps,by rw[zg n1];exact e1,e2,fun pos cv hc=>?_⟩
 obtain⟨c,rfl,e4⟩:=e3 pos cv hc
 have n2:c≠l:=fun z=>by subst z;exact (h _ e4).1 rfl
 exact⟨c,rfl,by rw[zg n2];exact e4⟩
theorem jD {ps:Array Value}:∀ts,HO.tbl ps≠HO.tup ts:=fun _ z=>by cases z
theorem qI {H:Hp}{x:Addr}(T:TabAt H)(h:tH x):∃o,H x=some o∧(∀ts,o≠.tup ts)∧∀xs,o≠.lst xs:=by
 obtain⟨ps,e1,_⟩:=T.ex
 exact⟨_,by rw[h];exact e1,jD,fun _ z=>by cases z⟩
theorem qv {H:Hp}{l:Addr}{xs:List V}(h:H l=some (.lst xs)):Plain H l:=fun o e=>by
 rw[h] at e;cases e
 exact⟨(fun z=>by cases z),fun ps z=>by cases z⟩
theorem dA {H:Hp}{l:Addr}{xs:List (Key×V)}(h:H l=some (.dK xs)):Plain H l:=fun o e=>by
 rw[h] at e;cases e
 exact⟨(fun z=>by cases z),fun ps z=>by cases z⟩
theorem iH {H:Hp}{l C dx:Addr}{fs:List (Str×V)}(h:H l=some (.ins C dx fs)):Plain H l:=fun o e=>by
 rw[h] at e;cases e
 exact⟨(fun z=>by cases z),fun ps z=>by cases z⟩
theorem ox {H:Hp}{l:Addr}(T:TabAt H)(h:H l=none):¬tH l:=fun z=>by
 obtain⟨o,e,_⟩:=qI T z
 rw[h] at e;cases e
theorem bQ {H H':Hp}{t b:Addr}{xs ys:List V}(T:TabAt H)(ht:H t=some (.lst xs))(hb:H b=some (.lst ys))(off:pO t b H H'):TabAt H':=sq T fun a o no e=>by
 have n1:a≠t:=fun z=>by rw[z,ht] at e;cases e;exact no _ rfl
 have n2:a≠b:=fun z=>by rw[z,hb] at e;cases e;exact no _ rfl
 rw[off a n1 n2];exact e
theorem df {H H':Hp}(T:TabAt H)(h:zy H H'):TabAt H':=sq T fun a o _ e=>h a o e
def oe (K:PySem.W.Frag):Sp:=fun vs H Q _=>∃(a:Addr) (ns:List Int),vs=[.ref a]∧SqL K H a (ns.map V.int)∧ns.length≤63∧TabAt H∧∀H',Q (.bl true) H'
structure zf3 (mg:Str→Option Value):Prop where
 abs:mg "abs"=none
 list:mg "list"=none
 len:mg "len"=none
theorem cP (d:PyData):qM "int" d=some (isInt d):=by unfold qM;rw[if_pos rfl]
theorem sQ (d:PyData):qM "bool" d=some (isBool d):=by unfold qM;rw[if_neg (by decide),if_pos rfl]
theorem rN (d:PyData):qM "tuple" d=some (jb d):=by unfold qM;rw[if_neg (by decide),if_neg (by decide),if_neg (by decide),if_neg (by decide),if_pos rfl]
structure zH (n:Nat)(d:PyData):Prop where
 shw:d.showable=true
 nod:d.hasDict=false
 dep:d.depth≤8
 len:d.shown.length≤n
 lay:d.canLay0=true
theorem zH.mono {m n:Nat}{d:PyData}(h:zH m d)(e:m≤n):zH n d:=⟨h.shw,h.nod,h.dep,zw6 h.len e,h.lay⟩
theorem uS :∀(ts:List Str) (k:Nat) (acc:Str),(textFrom k acc ts).length≤acc.length+piled ts
 |[],_,acc=>by rw[piled_nil];exact zs9 _
 |t::r,k,acc=>by
  have h:=uS r (k+1) (acc++(if k > 0 then ", " else "":String)++t)
  rw[piled_cons]
  have e2:(Str.ofString (if k > 0 then ", " else "":String)).length≤2:=by
   split
   ·exact zE0 rfl
   ·exact zt6 _
  have e3:=zF2 (acc++Str.ofString (if k > 0 then ", " else "":String)) t
  have e4:=zF2 acc (Str.ofString (if k > 0 then ", " else "":String))
  show (textFrom (k+1) (acc++Str.ofString (if k > 0 then ", " else "":String)++t) r).length≤_
  have h':(textFrom (k+1) (acc++Str.ofString (if k > 0 then ", " else "":String)++t) r).length≤(acc++Str.ofString (if k > 0 then ", " else "":String)++t).length+piled r:=h
  omega
theorem oh (ts:List Str):(listText ts).length≤piled ts+2:=by
 unfold listText
 rw[zF2]
 have h:=uS ts 0 (Str.ofString "[")
 have e1:(Str.ofString "[").length=1:=rfl
 have e2:(Str.ofString "]").length=1:=rfl
 show (textFrom 0 (Str.ofString "[") ts).length+(Str.ofString "]").length≤_
 omega
theorem qV (ts:List Str):(tupleText ts).length≤piled ts+3:=by
 cases ts with
 |nil=>decide +kernel
 |cons t r=>
  have h:=join_length_add (t::r) (by simp)
  unfold tupleText
  rw[zF2,zF2]
  have e1:(Str.ofString "(").length=1:=rfl
  have e2:(Str.ofString (if (t::r).length == 1 then ",)" else ")":String)).length≤2:=by
   split
   ·exact zE0 rfl
   ·exact zy5 (show 1<2 by decide)
  show (Str.ofString "(").length+(Str.join ", " (t::r)).length+(Str.ofString (if (t::r).length == 1 then ",)" else ")":String)).length≤_
  omega
theorem vc {n:Nat}:∀(ds:List PyData),(∀d∈ds,zH n d)→piled (PyData.shownAll ds)≤ds.length*(n+2)
 |[],_=>zt6 _
 |d::r,h=>by
  have h1:=(h d zt7).len
  have h2:=vc r fun e he=>h e (zt4 _ he)
  show piled (d.shown::PyData.shownAll r)≤_
  rw[piled_cons,zu1,Nat.succ_mul]
  omega
structure yi (n:Nat)(ds:List PyData):Prop where
 all:∀d∈ds,zH n d
 dep:∀d∈ds,d.depth≤7
theorem yi.parts {n:Nat}:∀{ds:List PyData},yi n ds→PyData.showableAll ds=true∧PyData.hasDictAll ds=false∧PyData.depthAll ds≤7∧PyData.canLayAll0 ds=true
 |[],_=>⟨rfl,rfl,zt6 _,rfl⟩
 |d::r,h=>by
  obtain⟨a,b,c,e⟩:=yi.parts (ds:=r) ⟨fun x hx=>h.all x (zt4 _ hx),fun x hx=>h.dep x (zt4 _ hx)⟩
  have hd:=h.all d zt7
  have hp:=h.dep d zt7
  refine⟨?_,?_,?_,?_⟩
  ·simp only[PyData.showableAll,hd.shw,a,Bool.and_self]
  ·simp only[PyData.hasDictAll,hd.nod,b,Bool.or_self]
  ·simp only[PyData.depthAll];omega
  ·simp only[PyData.canLayAll0,hd.lay,e,Bool.and_self]
theorem zH.list {n m:Nat}{ds:List PyData}(h:yi n ds)(e:ds.length*(n+2)+2≤m):zH m (.list ds):=by
 obtain⟨a,b,c,f⟩:=h.parts
 refine⟨by simp only[PyData.showable,a],by simp only[PyData.hasDict,b],by simp only[PyData.depth];omega,?_,by simp only[PyData.canLay0,f]⟩
 show (listText (PyData.shownAll ds)).length≤m
 have h1:=oh (PyData.shownAll ds)
 have h2:=vc ds h.all
 omega
theorem zH.tuple {n m:Nat}{ds:List PyData}(h:yi n ds)(e:ds.length*(n+2)+3≤m):zH m (.tuple ds):=by
 obtain⟨a,b,c,f⟩:=h.parts
 refine⟨by simp only[PyData.showable,a],by simp only[PyData.hasDict,b],by simp only[PyData.depth];omega,?_,by simp only[PyData.canLay0,f]⟩
 show (tupleText (PyData.shownAll ds)).length≤m
 have h1:=qV (PyData.shownAll ds)
 have h2:=vc ds h.all
 omega
theorem dI {i:Int}(h0:-big<i)(h1:i<big):i.natAbs.log2<1920:=by
 by_cases hn:i.natAbs=0
 ·rw[hn];decide
 ·have h2:i.natAbs<2 ^ 256:=by
   have e:(2:Nat) ^ 256=115792089237316195423570985008687907853269984665640564039457584007913129639936:=by decide +kernel
   rw[e]
   unfold big at h0 h1
   omega
  have h3:i.natAbs.log2<256:=(Nat.log2_lt hn).mpr h2
  omega
theorem zH.int {i:Int}(h0:-big<i)(h1:i<big):zH 2000 (.int i):=by
 have hl:=dI h0 h1
 refine⟨by simp only[PyData.showable,zv7];exact hl,rfl,zt6 _,?_,rfl⟩
 have:=int_text_len_1921 hl
 show (Str.ofString (toString i)).length≤2000
 omega
theorem zH.none :zH 2000 .none:=⟨rfl,rfl,zt6 _,by decide +kernel,rfl⟩
theorem zH.bool (b:Bool):zH 2000 (.bool b):=⟨rfl,rfl,zt6 _,by cases b<;>decide +kernel,rfl⟩
theorem zH.shaped {n:Nat}{d:PyData}(h:zH n d):SeqAt.shaped d=true:=by
 unfold SeqAt.shaped
 rw[h.lay,zy8,zv7]
 have:=h.dep
 omega
section
variable {X:Cx}
theorem jE (hg:X.A.guards=some [])(hu:X.A.units+64<cLine):we X (.builtin "repr") (fun xs H Q=>∃x d,xs=[x]∧DV H x d∧zH sizeLine d∧Q (.str d.shown) H):=by
 intro pins s σ H xs us Q I r h
 obtain⟨x,d,rfl,hd,N,q⟩:=h
 obtain⟨u,rfl,rx⟩:=Vals.one r
 have big':∀{a:Addr},u=Value.ref a→wpAny (model X.prog X.w) X.A (call (.builtin "repr") [u]) (EP X pins σ Q) X.xe s:=fun {a} e=>by
  obtain⟨as,rd⟩:=hd.reads I rx
  subst e
  refine repr_of_reads' rd N.shw (PyData.noDict_hsm N.nod) hg (by have:=N.dep;omega) (fun _ _ e=>e) (fun h' t tk hk=>?_) N.len
  exact⟨.str d.shown,H,I.kept hk,⟨t,rfl⟩,q⟩
 cases hd with
 |non=>cases (show u=Value.none from rx);exact P.repr_of_none ⟨.str _,H,I.tok _,⟨_,rfl⟩,q⟩
 |bl b=>cases (show u=Value.bool b from rx);exact P.repr_of_bool ⟨.str _,H,I.tok _,⟨_,rfl⟩,q⟩
 |int i=>
  obtain⟨t,rfl⟩:=(show ∃t,u=Value.int i t from rx)
  have hs:i.natAbs.log2<1920:=by
   have:=N.shw
   simpa only[PyData.showable,zv7] using this
  exact P.repr_of_int hs ⟨.str _,H,I.tok _,⟨_,rfl⟩,q⟩
 |str y=>
  obtain⟨t,rfl⟩:=(show ∃t,u=Value.str y t from rx)
  exact P.repr_of_str ⟨.str _,H,I.tok _,⟨_,rfl⟩,q⟩ N.len
 |lst e _=>exact big' rx
 |tup e _=>exact big' rx
end
def mN :PyData→Bool
 |.int _=>true
 |_=>false
def zW (lo hi:Int):PyData→Bool
 |.int i=>decide (lo≤i)&&decide (i≤hi)
 |_=>false
def pairD :PyData→Bool
 |.tuple ds=>decide ((ds.length:Int)=2)
 |_=>false
abbrev ub :PyData→Bool:=zW 0 1000000
def sv :PyData→Bool
 |.tuple [a,b]=>ub a&&ub b
 |_=>false
def rF :PyData→Option Int
 |.tuple [.int a,.int b]=>if ub (.int a)&&ub (.int b) then some (b-a) else none
 |_=>none
def yj (d:PyData):Bool:=match rF d with
 |some k=>decide (0≤k)
 |none=>false
theorem iu (d:PyData):mN d=(isInt d&&!isBool d):=by cases d<;>rfl
theorem uJ {d:PyData}(h:pairD d=true):∃a b,d=.tuple [a,b]:=by
 cases d with
 |tuple ds=>
  have h':(ds.length:Int)=2:=zz5 h
  match ds,h' with
  |[a,b],_=>exact⟨a,b,rfl⟩
  |[],z=>simp at z
  |[_],z=>simp at z
  |_::_::_::_,z=>simp at z;omega
 |_=>cases h
theorem tK (d:PyData):sv d=(rF d).isSome:=by
 unfold sv rF
 split
 ·rename_i a b
  cases a with
  |int i=>
   cases b with
   |int j=>
    show (ub (.int i)&&ub (.int j))=_
    cases e:(ub (.int i)&&ub (.int j))<;>simp[e]
   |_=>simp[zW]
  |_=>simp[zW]
 ·rename_i h
  split
  ·rename_i a b
   exact absurd rfl (h (.int a) (.int b))
  ·rfl
theorem lL {d:PyData}(h:sv d=true):∃a b:Int,d=.tuple [.int a,.int b]∧rF d=some (b-a):=by
 rw[tK] at h
 unfold rF at h ⊢
 split at h
 ·rename_i a b
  split at h
  ·rename_i hc
   exact⟨a,b,rfl,by simp[hc]⟩
  ·cases h
 ·cases h
def yG (g:PyData→Bool):Sp:=fun vs H Q _=>∃x d,vs=[x]∧DV H x d∧Q (.bl (g d)) H
def vd :Sp:=fun vs H Q _=>∃x d lo hi,vs=[x,.int lo,.int hi]∧DV H x d∧Q (.bl (zW lo hi d)) H
theorem aJ {n:Nat}:decide (V.int (n:Int)=V.int 2)=decide ((n:Int)=2):=by simp
noncomputable def sub (p:Addr→Prop)(H:Hp):Hp:=fun a=>open Classical in if p a then H a else none
theorem zl {p:Addr→Prop}{H:Hp}{a:Addr}{o:HO}(h:sub p H a=some o):p a∧H a=some o:=by
 unfold sub at h
 split at h
 ·rename_i hp;exact⟨hp,h⟩
 ·cases h
theorem yc {p:Addr→Prop}{H:Hp}{a:Addr}{o:HO}(hp:p a)(h:H a=some o):sub p H a=some o:=by
 unfold sub
 rw[if_pos hp]
 exact h
theorem zx {p q:Addr→Prop}{H H':Hp}(h:∀a o,p a→H a=some o→q a∧H' a=some o):zy (sub p H) (sub q H'):=fun a o e=>by
 obtain⟨hp,he⟩:=zl e
 obtain⟨hq,he'⟩:=h a o hp he
 exact yc hq he'
theorem xS {p:Addr→Prop}{H:Hp}:zy (sub p H) H:=fun _ _ e=>(zl e).2
theorem yi.snoc {n:Nat}{ds:List PyData}{d:PyData}(h:yi n ds)(hd:zH n d)(hp:d.depth≤7):yi n (ds++[d]):=
 ⟨fun e he=>(zw7.mp he).elim (h.all e) fun z=>by rw[zu8.mp z];exact hd,fun e he=>(zw7.mp he).elim (h.dep e) fun z=>by rw[zu8.mp z];exact hp⟩
theorem yi.nil {n:Nat}:yi n []:=⟨fun d hd=>by simp at hd,fun d hd=>by simp at hd⟩
theorem yi.two {n:Nat}{d e:PyData}(hd:zH n d)(he:zH n e)(h1:d.depth≤7)(h2:e.depth≤7):yi n [d,e]:=(yi.nil.snoc hd h1).snoc he h2
section
variable {X:Cx}{e:Expr}{es:List Expr}
def uX (X:Cx)(e:Expr):TE:=fun σ H Q=>∃t,PE X e t∧t σ H Q
theorem zq :PE X e (uX X e):=fun pins s σ H Q I ⟨t,p,q⟩=>p pins s σ H Q I q
def zm4 (X:Cx)(e:Expr):TT:=fun σ H Q=>∃t,PT X e t∧t σ H Q
theorem xJ :PT X e (zm4 X e):=fun pins s σ H Q I ⟨t,p,q⟩=>p pins s σ H Q I q
def zm9 (X:Cx)(es:List Expr):TA:=fun σ H Q=>∃t,PA X es t∧t σ H Q
theorem yZ :PA X es (zm9 X es):=fun pos pins s σ H Q I ⟨t,p,q⟩=>p pos pins s σ H Q I q
end
def iD :Key→PyData
 |.inl i=>.int i
 |.inr x=>.str x
def xcO (a C:Addr)(d:Option Addr):HO:=.ext fun h=>∃o vs,h.get? a=some o∧o.cls=.ref C∧o.dict=d∧o.data=.fields vs
mutual
inductive AV (H:Hp):V→PyData→Prop where
 |non:AV H .non .none
 |bl (b:Bool):AV H (.bl b) (.bool b)
 |int (i:Int):AV H (.int i) (.int i)
 |str (x:Str):AV H (.str x) (.str x)
 |lst {a:Addr} {xs:List V} {ds:List PyData}:H a=some (.lst xs)→AVs H xs ds→AV H (.ref a) (.list ds)
 |tup {a:Addr} {xs:List V} {ds:List PyData}:H a=some (.tup xs)→AVs H xs ds→AV H (.ref a) (.tuple ds)
 |ins {a C dx:Addr} {fs:List (Str×V)} {ds:List (PyData×PyData)}:H a=some (.ins C dx fs)→AVf H fs ds→AV H (.ref a) (.dict ((.int (C:Nat),.none)::ds))
 |dk {a:Addr} {o:Obj} {kvs:List (Key×V)} {ds:List (PyData×PyData)}:H a=some (.frz o (.dK kvs))→AVk H kvs ds→AV H (.ref a) (.dict ((.none,.none)::ds))
 |dt {a:Addr} {o:Obj} {kvs:List (List Key×V)} {ds:List (PyData×PyData)}:H a=some (.frz o (.dT kvs))→AVt H kvs ds→AV H (.ref a) (.dict ((.none,.bool true)::ds))
 |xc {a C dx:Addr} {fs:List (Str×V)} {ds:List (PyData×PyData)}:H a=some (xcO a C (some dx))→H dx=some (.xd fs)→AVf H fs ds→AV H (.ref a) (.dict ((.int (C:Nat),.bool true)::ds))
 |xn {a C:Addr}:H a=some (xcO a C none)→AV H (.ref a) (.dict [(.int (C:Nat),.bool false)])
inductive AVs (H:Hp):List V→List PyData→Prop where
 |nil:AVs H [] []
 |cons {x:V} {xs:List V} {d:PyData} {ds:List PyData}:AV H x d→AVs H xs ds→AVs H (x::xs) (d::ds)
inductive AVf (H:Hp):List (Str×V)→List (PyData×PyData)→Prop where
 |nil:AVf H [] []
 |cons {f:Str} {x:V} {fs:List (Str×V)} {d:PyData} {ds:List (PyData×PyData)}:AV H x d→AVf H fs ds→AVf H ((f,x)::fs) ((.str f,d)::ds)
inductive AVk (H:Hp):List (Key×V)→List (PyData×PyData)→Prop where
 |nil:AVk H [] []
 |cons {k:Key} {x:V} {fs:List (Key×V)} {d:PyData} {ds:List (PyData×PyData)}:AV H x d→AVk H fs ds→AVk H ((k,x)::fs) ((iD k,d)::ds)
inductive AVt (H:Hp):List (List Key×V)→List (PyData×PyData)→Prop where
 |nil:AVt H [] []
 |cons {k:List Key} {x:V} {fs:List (List Key×V)} {d:PyData} {ds:List (PyData×PyData)}:AV H x d→AVt H fs ds→AVt H ((k,x)::fs) ((.tuple (k.map iD),d)::ds)
end
mutual
theorem AV.same {H H':Hp}(e:zy H H'):∀{x:V} {d:PyData},AV H x d→AV H' x d
 |_,_,.non=>.non
 |_,_,.bl b=>.bl b
 |_,_,.int i=>.int i
 |_,_,.str x=>.str x
 |_,_,.lst hq hs=>.lst (e _ _ hq) (AVs.same e hs)
 |_,_,.tup hq hs=>.tup (e _ _ hq) (AVs.same e hs)
 |_,_,.ins hq hs=>.ins (e _ _ hq) (AVf.same e hs)
 |_,_,.dk hq hs=>.dk (e _ _ hq) (AVk.same e hs)
 |_,_,.dt hq hs=>.dt (e _ _ hq) (AVt.same e hs)
 |_,_,.xc hq hd hs=>.xc (e _ _ hq) (e _ _ hd) (AVf.same e hs)
 |_,_,.xn hq=>.xn (e _ _ hq)
theorem AVs.same {H H':Hp}(e:zy H H'):∀{xs:List V} {ds:List PyData},AVs H xs ds→AVs H' xs ds
 |_,_,.nil=>.nil
 |_,_,.cons h hs=>.cons (AV.same e h) (AVs.same e hs)
theorem AVf.same {H H':Hp}(e:zy H H'):∀{fs:List (Str×V)} {ds:List (PyData×PyData)},AVf H fs ds→AVf H' fs ds
 |_,_,.nil=>.nil
 |_,_,.cons h hs=>.cons (AV.same e h) (AVf.same e hs)
theorem AVk.same {H H':Hp}(e:zy H H'):∀{fs:List (Key×V)} {ds:List (PyData×PyData)},AVk H fs ds→AVk H' fs ds
 |_,_,.nil=>.nil
 |_,_,.cons h hs=>.cons (AV.same e h) (AVk.same e hs)
theorem AVt.same {H H':Hp}(e:zy H H'):∀{fs:List (List Key×V)} {ds:List (PyData×PyData)},AVt H fs ds→AVt H' fs ds
 |_,_,.nil=>.nil
 |_,_,.cons h hs=>.cons (AV.same e h) (AVt.same e hs)
end
mutual
theorem AV.dv {H:Hp}:∀{x:V} {d:PyData},AV H x d→d.hasDict=false→DV H x d
 |_,_,.non,_=>.non
 |_,_,.bl b,_=>.bl b
 |_,_,.int i,_=>.int i
 |_,_,.str x,_=>.str x
 |_,_,.lst hq hs,h=>.lst hq (AVs.dv hs (by simpa only[PyData.hasDict] using h))
 |_,_,.tup hq hs,h=>.tup hq (AVs.dv hs (by simpa only[PyData.hasDict] using h))
 |_,_,.ins hq hs,h=>by simp[PyData.hasDict] at h
 |_,_,.dk hq hs,h=>by simp[PyData.hasDict] at h
 |_,_,.dt hq hs,h=>by simp[PyData.hasDict] at h
 |_,_,.xc hq _ hs,h=>by simp[PyData.hasDict] at h
 |_,_,.xn hq,h=>by simp[PyData.hasDict] at h
theorem AVs.dv {H:Hp}:∀{xs:List V} {ds:List PyData},AVs H xs ds→PyData.hasDictAll ds=false→DVs H xs ds
 |_,_,.nil,_=>.nil
 |_,_,.cons h hs,e=>by
  simp only[PyData.hasDictAll,Bool.or_eq_false_iff] at e
  exact .cons (AV.dv h e.1) (AVs.dv hs e.2)
end
mutual
theorem DV.av {H:Hp}:∀{x:V} {d:PyData},DV H x d→AV H x d
 |_,_,.non=>.non
 |_,_,.bl b=>.bl b
 |_,_,.int i=>.int i
 |_,_,.str x=>.str x
 |_,_,.lst hq hs=>.lst hq (DVs.av hs)
 |_,_,.tup hq hs=>.tup hq (DVs.av hs)
theorem DVs.av {H:Hp}:∀{xs:List V} {ds:List PyData},DVs H xs ds→AVs H xs ds
 |_,_,.nil=>.nil
 |_,_,.cons h hs=>.cons (DV.av h) (DVs.av hs)
end
theorem AVs.length {H:Hp}:∀{xs:List V} {ds:List PyData},AVs H xs ds→xs.length=ds.length
 |_,_,.nil=>rfl
 |_,_,.cons _ hs=>by rw[zu1,zu1,AVs.length hs]
theorem AVs.append {H:Hp}:∀{xs ys:List V} {ds es:List PyData},AVs H xs ds→AVs H ys es→AVs H (xs++ys) (ds++es)
 |_,_,_,_,.nil,h=>h
 |_,_,_,_,.cons a r,h=>.cons a (AVs.append r h)
theorem AVs.get {H:Hp}:∀{xs:List V} {ds:List PyData} {i:Nat} {d:PyData},AVs H xs ds→ds[i]?=some d→∃x,xs[i]?=some x∧AV H x d
 |_,_,_,_,.nil,e=>by simp at e
 |_,_,0,_,.cons a _,e=>by simp at e;subst e;exact⟨_,rfl,a⟩
 |_,_,i+1,d,.cons _ r,e=>by
  obtain⟨x,h1,h2⟩:=AVs.get (i:=i) (d:=d) r (by simpa using e)
  exact⟨x,by simpa using h1,h2⟩
theorem AVs.take {H:Hp}:∀{xs:List V} {ds:List PyData} (n:Nat),AVs H xs ds→AVs H (xs.take n) (ds.take n)
 |_,_,0,_=>.nil
 |_,_,_+1,.nil=>.nil
 |_,_,n+1,.cons a r=>.cons a (AVs.take n r)
theorem AVs.drop {H:Hp}:∀{xs:List V} {ds:List PyData} (n:Nat),AVs H xs ds→AVs H (xs.drop n) (ds.drop n)
 |_,_,0,r=>r
 |_,_,_+1,.nil=>.nil
 |_,_,n+1,.cons _ r=>AVs.drop n r
theorem AVs.set {H:Hp}{x:V}{d:PyData}(a:AV H x d):∀{xs:List V} {ds:List PyData} (i:Nat),AVs H xs ds→AVs H (xs.set i x) (ds.set i d)
 |_,_,_,.nil=>.nil
 |_,_,0,.cons _ r=>.cons a r
 |_,_,i+1,.cons q r=>.cons q (AVs.set a i r)
theorem AVs.atI {H:Hp}{xs:List V}{ds:List PyData}{i:Int}{d:PyData}(h:AVs H xs ds)(e:atI ds i=some d):∃x,L2.atI xs i=some x∧AV H x d:=by
 unfold L2.atI at e ⊢
 rw[h.length]
 cases q:ixN ds.length i with
 |none=>rw[q] at e;cases e
 |some j=>
  rw[q] at e
  exact h.get (i:=j) e
def cutD (ds:List PyData)(lo hi:Option Int):List PyData:=(ds.drop (HT.sIx ds.length 0 lo)).take (HT.sIx ds.length ds.length hi-HT.sIx ds.length 0 lo)
theorem AVs.cut {H:Hp}{xs:List V}{ds:List PyData}(h:AVs H xs ds)(lo hi:Option Int):AVs H (nF xs lo hi) (cutD ds lo hi):=by
 unfold nF cutD
 rw[h.length]
 exact (h.drop _).take _
mutual
def noL :PyData→Bool
 |.list _=>false
 |.dict ((.none,_)::_)=>false
 |.dict kvs=>lF kvs
 |.tuple ds=>uZ ds
 |_=>true
def uZ :List PyData→Bool
 |[]=>true
 |d::r=>noL d&&uZ r
def lF :List (PyData×PyData)→Bool
 |[]=>true
 |(_,d)::r=>noL d&&lF r
end
def Ob :HO→Prop
 |.lst _=>True
 |.dK _=>True
 |.frz _ _=>True
 |_=>False
mutual
theorem AV.noL {H H':Hp}(e:∀a o,¬Ob o→H a=some o→H' a=some o):∀{x:V} {d:PyData},AV H x d→noL d=true→AV H' x d
 |_,_,.non,_=>.non
 |_,_,.bl b,_=>.bl b
 |_,_,.int i,_=>.int i
 |_,_,.str x,_=>.str x
 |_,_,.lst _ _,h=>by simp[L2.noL] at h
 |_,_,.tup hq hs,h=>.tup (e _ _ (fun z=>z) hq) (AVs.noL e hs (by simpa only[L2.noL] using h))
 |_,_,.ins hq hs,h=>.ins (e _ _ (fun z=>z) hq) (AVf.noL e hs (by simpa[L2.noL,L2.lF] using h))
 |_,_,.dk _ _,h=>by simp[L2.noL] at h
 |_,_,.dt _ _,h=>by simp[L2.noL] at h
 |_,_,.xc hq hd hs,h=>.xc (e _ _ (fun z=>z) hq) (e _ _ (fun z=>z) hd) (AVf.noL e hs (by simpa[L2.noL,L2.lF] using h))
 |_,_,.xn hq,h=>.xn (e _ _ (fun z=>z) hq)
theorem AVs.noL {H H':Hp}(e:∀a o,¬Ob o→H a=some o→H' a=some o):∀{xs:List V} {ds:List PyData},AVs H xs ds→uZ ds=true→AVs H' xs ds
 |_,_,.nil,_=>.nil
 |_,_,.cons h hs,q=>by
  simp only[L2.uZ,zv1] at q
  exact .cons (AV.noL e h q.1) (AVs.noL e hs q.2)
theorem AVf.noL {H H':Hp}(e:∀a o,¬Ob o→H a=some o→H' a=some o):∀{fs:List (Str×V)} {ds:List (PyData×PyData)},AVf H fs ds→lF ds=true→AVf H' fs ds
 |_,_,.nil,_=>.nil
 |_,_,.cons h hs,q=>by
  simp only[L2.lF,zv1] at q
  exact .cons (AV.noL e h q.1) (AVf.noL e hs q.2)
end
structure Fr where
 H0:Hp
 O0:Addr→Prop
 tp:Option (Addr×Addr×Addr)
inductive A where
 |dat (d:PyData)
 |ow (c:PyData)
 |deep (d:PyData) (S:Addr→Prop)
 |tape
 |at (l:Addr)
 |exc (r:Fr) (q:PyData→Prop)
 |pin (l:Addr) (vs:List V) (ds:List PyData)
@[reducible] def A.own (ds:List PyData):A:=.ow (.list ds)
abbrev cu (ds:List (PyData×PyData)):PyData:=.dict ((.none,.none)::ds)
abbrev Ev :=List (Option A)
def vf (o:HO):Prop:=∀ts,o≠.tup ts
theorem yU {xs:List V}:vf (.lst xs):=fun _ z=>by cases z
theorem Ob.notup {o:HO}(h:Ob o):vf o:=fun ts z=>by subst z;exact h
def NT (F:Fr)(x:Addr):Prop:=(∀t b c,F.tp=some (t,b,c)→x≠t∧x≠b)∧¬tH x
def Kz (F:Fr)(H H':Hp):Prop:=∀x o,H x=some o→NT F x→H' x=some o
structure zT (F:Fr)(H:Hp):Prop where
 tab:TabAt H
 ot:∀x,tH x→F.O0 x
 all:∀t b c,F.tp=some (t,b,c)→yD H t b c∧F.O0 t∧F.O0 b∧F.O0 c
instance {F:Fr} {H:Hp}:CoeFun (zT F H) (fun _=>∀t b c,F.tp=some (t,b,c)→yD H t b c∧F.O0 t∧F.O0 b∧F.O0 c):=⟨zT.all⟩
theorem zT.to {F F':Fr}{H:Hp}(t:zT F H)(hp:F'.tp=F.tp)(ho:∀x,F.O0 x→F'.O0 x):zT F' H:=⟨t.tab,fun x h=>ho x (t.ot x h),fun a b c e=>by
 obtain⟨h1,h2,h3,h4⟩:=t a b c (hp▸e)
 exact⟨h1,ho _ h2,ho _ h3,ho _ h4⟩⟩
theorem zT.re {F F':Fr}{H H':Hp}(t:zT F H)(t':zT F' H')(hp:F'.tp=F.tp):zT F H':=⟨t'.tab,t.ot,fun a b c e=>⟨(t' a b c (hp▸e)).1,(t a b c e).2⟩⟩
theorem zT.upd {F:Fr}{H:Hp}{l:Addr}{o:HO}(t:zT F H)(h:∀a b c,F.tp=some (a,b,c)→l≠a∧l≠b∧l≠c)(hp:Plain H l):zT F (upd H l o):=⟨ak t.tab hp,t.ot,fun a b c e=>⟨fZ (t a b c e).1 (h a b c e),(t a b c e).2⟩⟩
theorem zT.updO {F:Fr}{H:Hp}{l:Addr}{o:HO}(t:zT F H)(h:¬F.O0 l)(hp:Plain H l):zT F (L2.upd H l o):=t.upd (fun a b c e=>⟨fun z=>h (by rw[z];exact (t a b c e).2.1),fun z=>h (by rw[z];exact (t a b c e).2.2.1),fun z=>h (by rw[z];exact (t a b c e).2.2.2)⟩) hp
def foot (s:Option V):A→Addr→Prop
 |.ow _,x=>s=some (.ref x)
 |.deep _ S,x=>S x
 |_,_=>False
def Ow (F:Fr)(α:Ev)(σ:St)(x:Addr):Prop:=F.O0 x∨∃(i:Nat) (a:A) (s:Option V),α[i]?=some (some a)∧σ[i]?=some s∧foot s a x
noncomputable abbrev Gz (F:Fr)(α:Ev)(σ:St)(H:Hp):Hp:=sub (fun x=>¬Ow F α σ x) H
noncomputable def lP (S:Addr→Prop)(G H:Hp):Hp:=fun x=>open Classical in if S x then H x else match G x with
 |some (.lst _)=>none
 |o=>o
theorem rS {S:Addr→Prop}{G G' H H':Hp}(h:zy G G')(hS:∀x o,S x→H x=some o→H' x=some o):zy (lP S G H) (lP S G' H'):=fun x o e=>by
 unfold lP at e ⊢
 by_cases z:S x
 ·rw[if_pos z] at e ⊢;exact hS x o z e
 ·rw[if_neg z] at e ⊢
  cases q:G x with
  |none=>rw[q] at e;cases e
  |some u=>
   rw[h _ _ q]
   rw[q] at e
   exact e
theorem dq {S:Addr→Prop}{G H:Hp}{x:Addr}{o:HO}(h:lP S G H x=some o):(S x∧H x=some o)∨(¬S x∧G x=some o):=by
 unfold lP at h
 by_cases z:S x
 ·rw[if_pos z] at h;exact .inl ⟨z,h⟩
 ·rw[if_neg z] at h
  split at h
  ·cases h
  ·exact .inr ⟨z,h⟩
inductive xg (G:Hp):HO→PyData→Prop where
 |lst {xs:List V} {ds:List PyData}:AVs G xs ds→xg G (.lst xs) (.list ds)
 |dk {kvs:List (Key×V)} {ds:List (PyData×PyData)}:AVk G kvs ds→xg G (.dK kvs) (cu ds)
theorem xg.ob {G:Hp}{o:HO}{c:PyData}(h:xg G o c):Ob o:=by cases h<;>trivial
theorem xg.same {G G':Hp}{o:HO}{c:PyData}(h:xg G o c)(s:zy G G'):xg G' o c:=by
 cases h with
 |lst h=>exact .lst (h.same s)
 |dk h=>exact .dk (h.same s)
theorem xg.av {G:Hp}{o:HO}{ds:List PyData}{l:Addr}(h:xg G o (.list ds))(e:G l=some o):AV G (.ref l) (.list ds):=by
 cases h with
 |lst h=>exact .lst e h
theorem xg.lst_inv {G:Hp}{o:HO}{ds:List PyData}(h:xg G o (.list ds)):∃xs,o=.lst xs∧AVs G xs ds:=by cases h;exact⟨_,rfl,by assumption⟩
theorem xg.plain {G H:Hp}{o:HO}{c:PyData}{l:Addr}(h:xg G o c)(e:H l=some o):Plain H l:=by
 cases h with
 |lst h=>exact qv e
 |dk h=>exact dA e
structure Lnk (r F:Fr)(H:Hp):Prop where
 tp:r.tp=F.tp
 o:∀x,r.O0 x→F.O0 x
 ok:zT r H
 k:Kz r r.H0 H
def vO (G:Hp)(F:Fr)(H:Hp)(s:Option V):A→Prop
 |.dat d=>∃v,s=some v∧AV G v d
 |.ow c=>∃l o,s=some (.ref l)∧H l=some o∧xg G o c∧¬F.O0 l∧F.H0 l=none
 |.deep d S=>∃v,s=some v∧AV (lP S G H) v d∧∀x,S x→¬F.O0 x∧F.H0 x=none∧∃xs,H x=some (.lst xs)
 |.tape=>∃t b c,F.tp=some (t,b,c)∧s=some (.ref t)
 |.at l=>s=some (.ref l)
 |.exc r _=>Lnk r F H
 |.pin l vs ds=>s=some (.ref l)∧G l=some (.lst vs)∧AVs G vs ds
structure M (F:Fr)(α:Ev)(σ:St)(H:Hp):Prop where
 len:α.length=σ.length
 ok:∀(i:Nat) (a:A) (s:Option V),α[i]?=some (some a)→σ[i]?=some s→vO (Gz F α σ H) F H s a
 dj:∀(i j:Nat) (a b:A) (s t:Option V) (x:Addr),α[i]?=some (some a)→α[j]?=some (some b)→σ[i]?=some s→σ[j]?=some t→foot s a x→foot t b x→i=j
 xd:∀(i:Nat) (r:Fr) (q:PyData→Prop),α[i]?=some (some (.exc r q))→∀(j:Nat) (a:A) (s:Option V) (x:Addr),α[j]?=some (some a)→σ[j]?=some s→foot s a x→r.H0 x=none
 tp:zT F H
 keep:Kz F F.H0 H
 oex:∀x,F.O0 x→∃o,H x=some o∧vf o
theorem M.at' {F:Fr}{α:Ev}{σ:St}{H:Hp}(m:M F α σ H){i:Nat}{a:Option A}(e:α[i]?=some a):∃s,σ[i]?=some s:=by
 have:i<σ.length:=by rw[←m.len];exact (zt0.mp e).1
 exact⟨_,zs6 this⟩
theorem pJ {G:Hp}{F:Fr}{H:Hp}{s:Option V}{a:A}{x:Addr}(h:vO G F H s a)(f:foot s a x):¬F.O0 x∧F.H0 x=none∧∃o,H x=some o∧Ob o:=by
 cases a with
 |ow c=>
  obtain⟨l,o,h1,h2,h3,h4,h5⟩:=h
  have f':s=some (.ref x):=f
  rw[f'] at h1;cases h1
  exact⟨h4,h5,o,h2,h3.ob⟩
 |deep d S=>
  obtain⟨v,h1,h2,h3⟩:=h
  obtain⟨z1,z2,xs,z3⟩:=h3 x f
  exact⟨z1,z2,_,z3,trivial⟩
 |dat d=>exact f.elim
 |tape=>exact f.elim
 |«at» l=>exact f.elim
 |exc r q=>exact f.elim
 |pin l vs ds=>exact f.elim
theorem Lnk.kz {r F:Fr}{H H':Hp}(l:Lnk r F H)(k:Kz F H H')(t:zT F H'):Lnk r F H':=⟨l.tp,l.o,l.ok.re t l.tp.symm,fun x o e n=>k x o (l.k x o e n) ⟨fun a b c z=>n.1 a b c (l.tp.trans z),n.2⟩⟩
theorem Lnk.none {r F:Fr}{H:Hp}(l:Lnk r F H){x:Addr}(h:H x=Option.none):r.H0 x=Option.none:=by
 cases q:r.H0 x with
 |none=>rfl
 |some o=>rw[l.k x o q ⟨fun a b c e=>⟨((l.ok a b c e).1.free h).1,((l.ok a b c e).1.free h).2.1⟩,ox l.ok.tab h⟩] at h;cases h
def noX :A→Prop
 |.exc _ _=>False
 |_=>True
theorem vO.stay {G G':Hp}{F F':Fr}{H H':Hp}{s:Option V}{a:A}(h:vO G F H s a)(g:zy G G')(hf:∀x o,foot s a x→H x=some o→H' x=some o∧¬F'.O0 x∧F'.H0 x=none)(hp:F'.tp=F.tp)(hl:∀r q,a=.exc r q→Lnk r F H→Lnk r F' H'):vO G' F' H' s a:=by
 cases a with
 |dat d=>obtain⟨v,h1,h2⟩:=h;exact⟨v,h1,h2.same g⟩
 |ow c=>
  obtain⟨l,o,h1,h2,h3,h4,h5⟩:=h
  obtain⟨z1,z2,z3⟩:=hf l o h1 h2
  exact⟨l,o,h1,z1,h3.same g,z2,z3⟩
 |deep d S=>
  obtain⟨v,h1,h2,h3⟩:=h
  refine⟨v,h1,h2.same (rS g fun x o z e=>(hf x o z e).1),fun x z=>?_⟩
  obtain⟨_,_,xs,e⟩:=h3 x z
  obtain⟨z1,z2,z3⟩:=hf x _ z e
  exact⟨z2,z3,xs,z1⟩
 |tape=>obtain⟨t,b,c,e,z⟩:=h;exact⟨t,b,c,hp.trans e,z⟩
 |«at» l=>exact h
 |exc r q=>exact hl r q rfl h
 |pin l vs ds=>exact⟨h.1,g _ _ h.2.1,h.2.2.same g⟩
section
variable {F:Fr}{α:Ev}{σ:St}{H H' H'':Hp}
theorem M.dat (m:M F α σ H)(i:Nat)(d:PyData)(e:α[i]?=some (some (.dat d))):∃v,σ[i]?=some (some v)∧AV (Gz F α σ H) v d:=by
 obtain⟨s,hs⟩:=m.at' e
 obtain⟨v,rfl,h⟩:=m.ok i _ s e hs
 exact⟨v,hs,h⟩
theorem M.owc (m:M F α σ H)(i:Nat)(c:PyData)(e:α[i]?=some (some (.ow c))):∃l o,σ[i]?=some (some (.ref l))∧H l=some o∧xg (Gz F α σ H) o c∧¬F.O0 l∧F.H0 l=none:=by
 obtain⟨s,hs⟩:=m.at' e
 obtain⟨l,o,rfl,h⟩:=m.ok i _ s e hs
 exact⟨l,o,hs,h⟩
theorem M.own (m:M F α σ H)(i:Nat)(ds:List PyData)(e:α[i]?=some (some (.own ds))):∃l xs,σ[i]?=some (some (.ref l))∧H l=some (.lst xs)∧AVs (Gz F α σ H) xs ds∧¬F.O0 l∧F.H0 l=none:=by
 obtain⟨l,o,h1,h2,h3,h4⟩:=m.owc i _ e
 obtain⟨xs,rfl,h5⟩:=h3.lst_inv
 exact⟨l,xs,h1,h2,h5,h4⟩
theorem M.tvar (m:M F α σ H)(i:Nat)(e:α[i]?=some (some .tape)):∃t b c,F.tp=some (t,b,c)∧σ[i]?=some (some (.ref t)):=by
 obtain⟨s,hs⟩:=m.at' e
 obtain⟨t,b,c,h,rfl⟩:=m.ok i _ s e hs
 exact⟨t,b,c,h,hs⟩
theorem M.lnk (m:M F α σ H){i:Nat}{r:Fr}{q:PyData→Prop}(e:α[i]?=some (some (.exc r q))):Lnk r F H:=by
 obtain⟨s,hs⟩:=m.at' e
 exact m.ok i _ s e hs
theorem Kz.refl :Kz F H H:=fun _ _ e _=>e
theorem Kz.trans (h:Kz F H H')(k:Kz F H' H''):Kz F H H'':=fun x o e n=>k x o (h x o e n) n
theorem Kz.of_same (h:zy H H'):Kz F H H':=fun x o e _=>h x o e
theorem zT.same (t:zT F H)(h:zy H H'):zT F H':=⟨df t.tab h,t.ot,fun a b c e=>⟨jz (t a b c e).1 h,(t a b c e).2⟩⟩
theorem zT.nt (t:zT F H){x:Addr}(h:¬F.O0 x):NT F x:=⟨fun a b c e=>⟨fun z=>h (z▸(t a b c e).2.1),fun z=>h (z▸(t a b c e).2.2.1)⟩,fun z=>h (t.ot x z)⟩
theorem ow0 {x:Addr}(h:¬Ow F α σ x):¬F.O0 x:=fun z=>h (.inl z)
theorem Kz.gz (k:Kz F H H')(t:zT F H):zy (Gz F α σ H) (Gz F α σ H'):=zx fun a o h e=>⟨h,k a o e (t.nt (ow0 h))⟩
theorem M.oex' (t:zT F H')(k:Kz F H H')(h:∀x,F.O0 x→∃o,H x=some o∧vf o):∀x,F.O0 x→∃o,H' x=some o∧vf o:=fun x hx=>by
 by_cases n:NT F x
 ·obtain⟨o,ho,hn⟩:=h x hx
  exact⟨o,k _ _ ho n,hn⟩
 ·by_cases z:tH x
  ·obtain⟨o,ho,hn,_⟩:=qI t.tab z
   exact⟨o,ho,hn⟩
  ·have:∃a b c,F.tp=some (a,b,c)∧¬(x≠a∧x≠b):=by
    refine Classical.byContradiction fun q=>n ⟨fun a b c e=>?_,z⟩
    exact Classical.byContradiction fun w=>q ⟨a,b,c,e,w⟩
   obtain⟨a,b,c,e,w⟩:=this
   obtain⟨n,bs,cs,_,e1,e2,e3,_⟩:=(t a b c e).1.ex
   by_cases xa:x=a
   ·exact⟨_,xa▸e1,yU⟩
   ·by_cases xb:x=b
    ·exact⟨_,xb▸e2,yU⟩
    ·exact absurd ⟨xa,xb⟩ w
theorem M.kz (m:M F α σ H)(k:Kz F H H')(t:zT F H'):M F α σ H' where
 len:=m.len
 ok:=fun i a s e1 e2=>(m.ok i a s e1 e2).stay (k.gz m.tp) (fun x o hf e=>by
  obtain⟨h1,h2,_⟩:=pJ (m.ok i a s e1 e2) hf
  exact⟨k x o e (m.tp.nt h1),h1,h2⟩) rfl fun r _ _ l=>l.kz k t
 dj:=m.dj
 xd:=m.xd
 tp:=t
 keep:=m.keep.trans k
 oex:=M.oex' t k m.oex
theorem M.ft (m:M F α σ H){i:Nat}{a:A}{s:Option V}{x:Addr}(e1:α[i]?=some (some a))(e2:σ[i]?=some s)(f:foot s a x):¬F.O0 x∧F.H0 x=none∧∃o,H x=some o∧Ob o:=pJ (m.ok i a s e1 e2) f
theorem M.owEx (m:M F α σ H){x:Addr}(h:Ow F α σ x):∃o,H x=some o∧vf o:=by
 rcases h with z|⟨i,a,s,e1,e2,f⟩
 ·exact m.oex x z
 ·obtain⟨_,_,o,ho,hb⟩:=m.ft e1 e2 f
  exact⟨o,ho,hb.notup⟩
theorem M.fresh (m:M F α σ H){l:Addr}(h:H l=none):¬Ow F α σ l:=fun z=>by
 obtain⟨o,ho,_⟩:=m.owEx z
 rw[h] at ho;cases ho
theorem M.fresh0 (m:M F α σ H){l:Addr}(h:H l=none):F.H0 l=none:=by
 cases q:F.H0 l with
 |none=>rfl
 |some o=>rw[m.keep l o q (m.tp.nt fun z=>m.fresh h (.inl z))] at h;cases h
theorem M.old (m:M F α σ H):zy (sub (fun x=>¬F.O0 x) F.H0) (Gz F α σ H):=fun a o e=>by
 obtain⟨h1,h2⟩:=zl e
 refine yc ?_ (m.keep a o h2 (m.tp.nt h1))
 rintro (z|⟨i,b,s,e1,e2,f⟩)
 ·exact h1 z
 ·obtain⟨_,z,_⟩:=m.ft e1 e2 f
  rw[h2] at z;cases z
noncomputable def Fr.up (F:Fr)(G:Hp):Fr:={F with H0:=fun x=>(F.H0 x).or (G x)}
theorem qY {G:Hp}{x:Addr}{o:HO}(h:F.H0 x=some o):(F.up G).H0 x=some o:=by show (F.H0 x).or (G x)=some o;rw[h];rfl
theorem ky {G:Hp}{x:Addr}(h:(F.up G).H0 x=none):F.H0 x=none:=by
 cases q:F.H0 x with
 |none=>rfl
 |some o=>rw[qY q] at h;cases h
theorem M.up (m:M F α σ H):M (F.up (Gz F α σ H)) α σ H where
 len:=m.len
 ok:=fun i a s e1 e2=>(m.ok i a s e1 e2).stay (fun _ _ e=>e) (fun x o hf e=>by
  obtain⟨h1,h2,_⟩:=m.ft e1 e2 hf
  refine⟨e,h1,?_⟩
  show (F.H0 x).or (Gz F α σ H x)=none
  rw[h2]
  show Gz F α σ H x=none
  cases q:Gz F α σ H x with
  |none=>rfl
  |some o=>exact absurd (.inr ⟨i,a,s,e1,e2,hf⟩) (zl q).1) rfl fun r _ _ l=>⟨l.tp,l.o,l.ok,l.k⟩
 dj:=m.dj
 xd:=m.xd
 tp:=m.tp.to rfl fun _ z=>z
 keep:=fun x o e n=>by
  have e':(F.H0 x).or (Gz F α σ H x)=some o:=e
  cases q:F.H0 x with
  |none=>rw[q,Option.none_or] at e';exact (zl e').2
  |some o'=>rw[q] at e';cases e';exact m.keep x _ q n
 oex:=m.oex
theorem M.down {G:Hp}(m:M (F.up G) α σ H):M F α σ H where
 len:=m.len
 ok:=fun i a s e1 e2=>(m.ok i a s e1 e2).stay (fun _ _ e=>e) (fun x o hf e=>by
  obtain⟨h1,h2,_⟩:=m.ft e1 e2 hf
  exact⟨e,h1,ky h2⟩) rfl fun r _ _ l=>⟨l.tp,l.o,l.ok,l.k⟩
 dj:=m.dj
 xd:=m.xd
 tp:=m.tp.to rfl fun _ z=>z
 keep:=fun x o e n=>m.keep x o (qY e) n
 oex:=m.oex
theorem M.upold {α0:Ev}{σ0:St}{H1:Hp}(m0:M F α0 σ0 H1)(m:M (F.up (Gz F α0 σ0 H1)) α σ H):zy (Gz F α0 σ0 H1) (Gz F α σ H):=fun a o e=>by
 obtain⟨h1,h2⟩:=zl e
 have e0:(F.up (Gz F α0 σ0 H1)).H0 a=some o:=by
  show (F.H0 a).or (Gz F α0 σ0 H1 a)=some o
  cases q:F.H0 a with
  |none=>exact e
  |some o'=>
   have:=m0.keep a o' q (m0.tp.nt (ow0 h1))
   rw[h2] at this;cases this;rfl
 exact m.old a o (yc (p:=fun x=>¬F.O0 x) (ow0 h1) e0)
end
def yW (F:Fr)(α:Ev)(σ:St)(H:Hp)(v:V)(H':Hp)(ds:List PyData):Prop:=
 ∃l xs,v=.ref l∧H l=none∧H' l=some (.lst xs)∧AVs (sub (fun x=>¬Ow F α σ x∧x≠l) H') xs ds
def fF (F:Fr)(α:Ev)(σ:St)(H:Hp)(v:V)(H':Hp)(c:PyData):Prop:=
 ∃l o,v=.ref l∧H l=none∧H' l=some o∧xg (sub (fun x=>¬Ow F α σ x∧x≠l) H') o c
theorem yW.c {F:Fr}{α:Ev}{σ:St}{H H':Hp}{v:V}{ds:List PyData}(h:yW F α σ H v H' ds):fF F α σ H v H' (.list ds):=by
 obtain⟨l,xs,h1,h2,h3,h4⟩:=h
 exact⟨l,_,h1,h2,h3,.lst h4⟩
theorem yW.av {F:Fr}{α:Ev}{σ:St}{H H':Hp}{v:V}{ds:List PyData}(m:M F α σ H)(h:yW F α σ H v H' ds):AV (Gz F α σ H') v (.list ds):=by
 obtain⟨l,xs,rfl,h1,h2,h3⟩:=h
 exact .lst (yc (m.fresh h1) h2) (h3.same (zx fun a o h e=>⟨h.1,e⟩))
section
variable (X:Cx)(α:Ev)
def EvD (e:Expr)(Q:PyData→Prop):Prop:=∀(F:Fr) (σ:St) (H:Hp) (R:VK),M F α σ H→(∀d v H',Q d→zT F H'→Kz F H H'→AV (Gz F α σ H') v d→R v H')→uX X e σ H R
def EvL (e:Expr)(Q:List PyData→Prop):Prop:=∀(F:Fr) (σ:St) (H:Hp) (R:VK),M F α σ H→(∀ds v H',Q ds→zT F H'→Kz F H H'→yW F α σ H v H' ds→R v H')→uX X e σ H R
def EvT (e:Expr)(Q:Bool→Prop):Prop:=∀(F:Fr) (σ:St) (H:Hp) (R:Bool→Hp→Prop),M F α σ H→(∀b H',Q b→zT F H'→Kz F H H'→R b H')→zm4 X e σ H R
def iw (F:Fr)(G:Hp)(v:V):A→Prop
 |.dat d=>AV G v d
 |.tape=>∃t b c,F.tp=some (t,b,c)∧v=.ref t
 |_=>False
inductive yh (F:Fr)(G:Hp):List V→List A→Prop where
 |nil:yh F G [] []
 |cons {v:V} {vs:List V} {a:A} {as:List A}:iw F G v a→yh F G vs as→yh F G (v::vs) (a::as)
def EvA (es:List Expr)(Q:List A→Prop):Prop:=∀(F:Fr) (σ:St) (H:Hp) (R:List V→Hp→Prop),M F α σ H→(∀as vs H',Q as→zT F H'→Kz F H H'→yh F (Gz F α σ H') vs as→R vs H')→zm9 X es σ H R
end
theorem iw.to {F F':Fr}{G G':Hp}(s:zy G G')(hp:F'.tp=F.tp){v:V}:∀{a:A},iw F G v a→iw F' G' v a
 |.dat _,h=>AV.same s h
 |.tape,⟨t,b,c,e,z⟩=>⟨t,b,c,hp.trans e,z⟩
 |.ow _,h=>h
 |.deep _ _,h=>h
 |.at _,h=>h
 |.exc _ _,h=>h
 |.pin _ _ _,h=>h
theorem yh.to {F F':Fr}{G G':Hp}(s:zy G G')(hp:F'.tp=F.tp):∀{vs:List V} {as:List A},yh F G vs as→yh F' G' vs as
 |_,_,.nil=>.nil
 |_,_,.cons h r=>.cons (h.to s hp) (yh.to s hp r)
theorem yh.length {F:Fr}{G:Hp}:∀{vs:List V} {as:List A},yh F G vs as→vs.length=as.length
 |_,_,.nil=>rfl
 |_,_,.cons _ r=>by rw[zu1,zu1,yh.length r]
def A.d :A→PyData
 |.dat d=>d
 |.ow c=>c
 |.deep d _=>d
 |_=>.none
def ai (F:Fr)(v:V)(H':Hp):A→Prop
 |.dat d=>AV (sub (fun x=>¬F.O0 x) H') v d
 |.ow c=>∃l xs ds,v=.ref l∧c=.list ds∧F.H0 l=none∧¬F.O0 l∧H' l=some (.lst xs)∧AVs (sub (fun x=>¬F.O0 x∧x≠l) H') xs ds
 |.deep d S=>AV (lP S (sub (fun x=>¬F.O0 x) H') H') v d∧∀x,S x→¬F.O0 x∧F.H0 x=none∧∃xs,H' x=some (.lst xs)
 |_=>False
def uI (F:Fr)(v:V)(H':Hp)(a:A):Prop:=zT F H'∧Kz F F.H0 H'∧ai F v H' a
def spA (φ:List A→(A→Prop)→Prop):Sp:=fun vs H Qc _=>∃(F:Fr) (as:List A) (Q:A→Prop),F.H0=H∧zT F H∧(∀x,F.O0 x→∃o,H x=some o∧vf o)∧yh F (sub (fun x=>¬F.O0 x) H) vs as∧φ as Q∧∀a v H',Q a→uI F v H' a→Qc v H'
theorem ai.to {F F':Fr}{v:V}{H':Hp}{a:A}(r:ai F v H' a)(ho:∀x,F'.O0 x→F.O0 x)(h0:∀x,F.H0 x=none→F'.H0 x=none):ai F' v H' a:=by
 have s:zy (sub (fun x=>¬F.O0 x) H') (sub (fun x=>¬F'.O0 x) H'):=zx fun a o h e=>⟨fun z=>h (ho _ z),e⟩
 cases a with
 |dat d=>exact AV.same s r
 |ow c=>
  obtain⟨l,xs,ds,h1,hc,h2,h3,h4,h5⟩:=r
  exact⟨l,xs,ds,h1,hc,h0 _ h2,fun z=>h3 (ho _ z),h4,h5.same (zx fun a o h e=>⟨⟨fun z=>h.1 (ho _ z),h.2⟩,e⟩)⟩
 |deep d S=>
  obtain⟨h1,h2⟩:=r
  refine⟨h1.same (rS s fun _ _ _ e=>e),fun x z=>?_⟩
  obtain⟨z1,z2,z3⟩:=h2 x z
  exact⟨fun w=>z1 (ho _ w),h0 _ z2,z3⟩
 |tape=>exact r
 |«at» _=>exact r
 |exc _ _=>exact r
 |pin _ _ _=>exact r
structure wa where
 nx:Ev→Prop
 rt:A→Prop
 bk:Ev→Prop:=fun _=>False
 ct:Ev→Prop:=fun _=>False
structure oA (F:Fr)(E:wa)(D:Ends):Prop where
 nx:∀α σ H,M F α σ H→E.nx α→D.nx σ H
 rt:∀a v H,uI F v H a→E.rt a→D.rt v H
 bk:∀α σ H,M F α σ H→E.bk α→D.bk σ H
 ct:∀α σ H,M F α σ H→E.ct α→D.ct σ H
def SvS (X:Cx)(α:Ev)(sts:List Stmt)(E:wa):Prop:=∀(F:Fr) (σ:St) (H:Hp) (D:Ends),M F α σ H→oA F E D→bz X sts D σ H
theorem oA.up {F:Fr}{G:Hp}{E:wa}{D:Ends}(e:oA F E D):oA (F.up G) E D where
 nx:=fun α σ H m q=>e.nx α σ H m.down q
 bk:=fun α σ H m q=>e.bk α σ H m.down q
 ct:=fun α σ H m q=>e.ct α σ H m.down q
 rt:=fun a v H r q=>e.rt a v H (by
  obtain⟨t,k,r⟩:=r
  exact⟨t.to rfl fun _ z=>z,fun x o e n=>k x o (qY e) n,r.to (fun _ z=>z) fun x z=>ky z⟩) q
section
variable {X:Cx}{α:Ev}{e a b c:Expr}{es:List Expr}{pos p q:Pos}{Q:PyData→Prop}
theorem EvL.d (h:EvL X α e (fun ds=>Q (.list ds))):EvD X α e Q:=fun F σ H R m k=>h F σ H R m fun ds v H' q t z f=>k _ v H' q t z (f.av m)
theorem EvD.imp {Q':PyData→Prop}(h:EvD X α e Q')(k:∀d,Q' d→Q d):EvD X α e Q:=fun F σ H R m r=>h F σ H R m fun d v H' q=>r d v H' (k d q)
theorem zf (i:Nat){x:Str}{d:PyData}(hi:α[i]?=some (some (.dat d)))(q:Q d)(hN:X.N[i]?=some x:=by rfl)(hv:Vis X.env.scope x:=by first|exact Or.inl rfl|exact Or.inr (Or.inl rfl)|exact Or.inr (Or.inr rfl))
  (hd:(x == ("__debug__":Str))=false:=by decide) (hcd:(x == ("__classdict__":Str))=false:=by decide):EvD X α (.Name x pos) Q:=fun F σ H R m k=>by
 obtain⟨v,h1,h2⟩:=m.dat i d hi
 exact⟨_,xq hN hv hd hcd,v,h1,k d v H q m.tp Kz.refl h2⟩
theorem zJ {i:Int}{j:Nat}(q:Q (.int i)):EvD X α (.Constant (.int i) j pos) Q:=fun F σ H R m k=>⟨_,zo,k _ _ H q m.tp Kz.refl (.int i)⟩
theorem za0 {i:Bool}{j:Nat}(q:Q (.bool i)):EvD X α (.Constant (.bool i) j pos) Q:=fun F σ H R m k=>⟨_,zn3,k _ _ H q m.tp Kz.refl (.bl i)⟩
theorem qG {j:Nat}(q:Q .none):EvD X α (.Constant .none j pos) Q:=fun F σ H R m k=>⟨_,pT,k _ _ H q m.tp Kz.refl .non⟩
theorem yd {x:Str}{j:Nat}(q:Q (.str x)):EvD X α (.Constant (.str x) j pos) Q:=fun F σ H R m k=>⟨_,yf,k _ _ H q m.tp Kz.refl (.str x)⟩
theorem ee {x:Str}{i:Int}(hg:Gl X x)(hm:∃t,X.mg x=some (.int i t))(q:Q (.int i))(hd:(x == ("__debug__":Str))=false:=by decide):EvD X α (.Name x pos) Q:=fun F σ H R m k=>by
 obtain⟨t,hm⟩:=hm
 exact⟨_,vW hg hm (show RelV (.int i) (.int i t) from ⟨t,rfl⟩) hd,k _ _ H q m.tp Kz.refl (.int i)⟩
theorem uw {f:TE→TE→TE}(hf:PE X e (f (uX X a) (uX X b)))(hr:∀σ H R,f (uX X a) (uX X b) σ H R↔uX X a σ H (fun x H1=>uX X b σ H1 fun y H2=>f (tC x) (tC y) σ H2 R))
  (h:EvD X α a fun x=>EvD X α b fun y=>∀(F:Fr) (σ:St) (H:Hp) (vx vy:V) (R:VK),M F α σ H→AV (Gz F α σ H) vx x→AV (Gz F α σ H) vy y→(∀d v H',Q d→zT F H'→Kz F H H'→AV (Gz F α σ H') v d→R v H')→f (tC vx) (tC vy) σ H R):
  EvD X α e Q:=fun F σ H R m k=>by
 refine⟨_,hf,(hr σ H R).mpr ?_⟩
 refine h F σ H _ m fun x vx H1 q1 t1 k1 r1=>?_
 have m1:=m.kz k1 t1
 refine q1 F σ H1 _ m1 fun y vy H2 q2 t2 k2 r2=>?_
 exact q2 F σ H2 vx vy R (m1.kz k2 t2) (r1.same (k2.gz m1.tp)) r2 fun d v H' qd t3 k3 r3=>k d v H' qd t3 ((k1.trans k2).trans k3) r3
theorem AV.int_inv {H:Hp}{v:V}{i:Int}(h:AV H v (.int i)):v=.int i:=by cases h;rfl
theorem AV.bl_inv {H:Hp}{v:V}{i:Bool}(h:AV H v (.bool i)):v=.bl i:=by cases h;rfl
theorem AV.str_inv {H:Hp}{v:V}{i:Str}(h:AV H v (.str i)):v=.str i:=by cases h;rfl
theorem AV.tup_inv {H:Hp}{v:V}{ds:List PyData}(h:AV H v (.tuple ds)):∃a xs,v=.ref a∧H a=some (.tup xs)∧AVs H xs ds:=by cases h;exact⟨_,_,rfl,by assumption,by assumption⟩
theorem AV.lst_inv {H:Hp}{v:V}{ds:List PyData}(h:AV H v (.list ds)):∃a xs,v=.ref a∧H a=some (.lst xs)∧AVs H xs ds:=by cases h;exact⟨_,_,rfl,by assumption,by assumption⟩
theorem AV.non_inv {H:Hp}{v:V}(h:AV H v .none):v=.non:=by cases h;rfl
theorem AV.isnon {H:Hp}{v:V}{d:PyData}(h:AV H v d):decide (v=.non)=(match d with|.none=>true|_=>false):=by cases h<;>simp
theorem zh2 {op:Operator}{C:Int→Int→Prop}{g:Int→Int→V}{gd:Int→Int→PyData}(ho:OpR X (binaryOp op) (rI C g))(hg:∀H i j,AV H (g i j) (gd i j))
  (h:EvD X α a fun x=>EvD X α b fun y=>∃i j,x=.int i∧y=.int j∧C i j∧Q (gd i j)):EvD X α (.BinOp a op b pos) Q:=by
 refine uw (f:=tOp (rI C g)) (yo ho zq zq) (fun _ _ _=>Iff.rfl) (h.imp fun x h=>h.imp fun y ⟨i,j,e1,e2,hc,hq⟩=>?_)
 subst e1 e2
 intro F σ H vx vy R m rx ry k
 cases rx.int_inv;cases ry.int_inv
 exact⟨i,j,rfl,rfl,hc,k _ _ H hq m.tp Kz.refl (hg _ i j)⟩
theorem kJ {op:Operator}{g:Int→Int→V}{gd:Int→Int→PyData}(ho:OpR X (binaryOp op) (rI0 g))(hg:∀H i j,AV H (g i j) (gd i j))
  (h:EvD X α a fun x=>EvD X α b fun y=>∃i j,x=.int i∧y=.int j∧Q (gd i j)):EvD X α (.BinOp a op b pos) Q:=by
 refine uw (f:=tOp (rI0 g)) (yo ho zq zq) (fun _ _ _=>Iff.rfl) (h.imp fun x h=>h.imp fun y ⟨i,j,e1,e2,hq⟩=>?_)
 subst e1 e2
 intro F σ H vx vy R m rx ry k
 cases rx.int_inv;cases ry.int_inv
 exact⟨i,j,rfl,rfl,k _ _ H hq m.tp Kz.refl (hg _ i j)⟩
theorem xp (h:EvD X α a fun x=>EvD X α b fun y=>∃i j,x=.int i∧y=.int j∧Q (.int (i+j))):EvD X α (.BinOp a .Add b pos) Q:=kJ (gd:=fun i j=>.int (i+j)) ux (fun _ _ _=>.int _) h
theorem qJ (h:EvD X α a fun x=>EvD X α b fun y=>∃i j,x=.int i∧y=.int j∧Q (.int (i-j))):EvD X α (.BinOp a .Sub b pos) Q:=kJ (gd:=fun i j=>.int (i-j)) cc (fun _ _ _=>.int _) h
theorem ze1 (h:EvD X α a fun x=>EvD X α b fun y=>∃i j,x=.int i∧y=.int j∧zf6 i j∧Q (.int (i ^ j.toNat))):EvD X α (.BinOp a .Pow b pos) Q:=zh2 (gd:=fun i j=>.int (i ^ j.toNat)) dS (fun _ _ _=>.int _) h
theorem qT {i j r:Int}{p1 p2:Pos}{n1 n2:Nat}(hc:zf6 i j)(hr:i ^ j.toNat=r)(q:Q (.int r)):EvD X α (.BinOp (.Constant (.int i) n1 p1) .Pow (.Constant (.int j) n2 p2) pos) Q:=
 ze1 (zJ (zJ ⟨i,j,rfl,rfl,hc,hr▸q⟩))
theorem cZ {op:CmpOp}{g:Int→Int→Bool}(ho:OpR X (compareOp op) (rI0 fun i j=>.bl (g i j)))(hm:behindInMarks op b=false)
  (h:EvD X α a fun x=>EvD X α b fun y=>∃i j,x=.int i∧y=.int j∧Q (.bool (g i j))):EvD X α (.Compare a [op] [b] pos) Q:=by
 refine uw (f:=tOp (rI0 fun i j=>.bl (g i j))) (xE ho zq zq hm) (fun _ _ _=>Iff.rfl) (h.imp fun x h=>h.imp fun y ⟨i,j,e1,e2,hq⟩=>?_)
 subst e1 e2
 intro F σ H vx vy R m rx ry k
 cases rx.int_inv;cases ry.int_inv
 exact⟨i,j,rfl,rfl,k _ _ H hq m.tp Kz.refl (.bl _)⟩
theorem aT (h:EvD X α a fun x=>EvD X α b fun y=>∃i j,x=.int i∧y=.int j∧Q (.bool (decide (i<j)))):EvD X α (.Compare a [.Lt] [b] pos) Q:=cZ za2 (zD _) h
def wH :PyData→Bool
 |.none=>true
 |_=>false
theorem AV.non_iff {H:Hp}{v:V}{d:PyData}(h:AV H v d):decide (v=.non)=wH d:=by cases h<;>simp[wH]
theorem pf {Q:Bool→Prop}(h:EvD X α e fun x=>∃k,x=.bool k∧Q k)(he:∀whole,isTrue e X.env whole=(do let v ←whole;standAt e.pos;holding [v] (truthy v)):=by intro _;rfl):EvT X α e Q:=fun F σ H R m k=>by
 refine⟨_,fe zq he,?_⟩
 refine h F σ H _ m fun x vx H1 q1 t1 k1 r1=>?_
 obtain⟨b,rfl,q⟩:=q1
 cases r1.bl_inv
 exact⟨b,rfl,k b H1 q t1 k1⟩
def Cmp (r:R2)(x y:PyData)(k:Bool):Prop:=∀(p:Addr→Prop) (H:Hp) (vx vy:V) (R:VK),AV (sub p H) vx x→AV (sub p H) vy y→R (.bl k) H→r vx vy H R
theorem wO {op:CmpOp}{r:R2}{Q:Bool→Prop}(ho:OpR X (compareOp op) r)(hm:behindInMarks op b=false)(h:EvD X α a fun x=>EvD X α b fun y=>∃k,Cmp r x y k∧Q k):EvT X α (.Compare a [op] [b] pos) Q:=fun F σ H R m k=>by
 refine⟨_,yb ho zq zq hm,?_⟩
 refine h F σ H _ m fun x vx H1 q1 t1 k1 r1=>?_
 have m1:=m.kz k1 t1
 refine q1 F σ H1 _ m1 fun y vy H2 q2 t2 k2 r2=>?_
 obtain⟨b,hc,q⟩:=q2
 exact hc _ H2 vx vy _ (r1.same (k2.gz m1.tp)) r2 ⟨b,rfl,k b H2 q t2 (k1.trans k2)⟩
theorem bY {g:Int→Int→Bool}{i j:Int}:Cmp (rI0 fun i j=>.bl (g i j)) (.int i) (.int j) (g i j):=fun p H vx vy R rx ry h=>by
 cases rx.int_inv;cases ry.int_inv
 exact⟨i,j,rfl,rfl,h⟩
theorem pU {op:CmpOp}{g:Int→Int→Bool}{Q:Bool→Prop}(ho:OpR X (compareOp op) (rI0 fun i j=>.bl (g i j)))(hm:behindInMarks op b=false)
  (h:EvD X α a fun x=>EvD X α b fun y=>∃i j,x=.int i∧y=.int j∧Q (g i j)):EvT X α (.Compare a [op] [b] pos) Q:=
 wO ho hm (h.imp fun x h=>h.imp fun y ⟨i,j,e1,e2,q⟩=>⟨_,by subst e1 e2;exact bY,q⟩)
theorem aZ {Q:Bool→Prop}(h:EvD X α a fun x=>EvD X α b fun y=>∃i j,x=.int i∧y=.int j∧Q (decide (i<j))):EvT X α (.Compare a [.Lt] [b] pos) Q:=pU za2 (zD _) h
theorem zm7 {Q:Bool→Prop}(h:EvD X α a fun x=>EvD X α b fun y=>∃i j,x=.int i∧y=.int j∧Q (decide (i≤j))):EvT X α (.Compare a [.LtE] [b] pos) Q:=pU rL (zD _) h
theorem eG {Q:Bool→Prop}(h:EvD X α a fun x=>EvD X α b fun y=>∃i j,x=.int i∧y=.int j∧Q (decide (j<i))):EvT X α (.Compare a [.Gt] [b] pos) Q:=pU kl (zD _) h
theorem wL {j:Nat}{Q:Bool→Prop}(h:EvD X α a fun x=>Q (wH x)):EvT X α (.Compare a [.Is] [.Constant .none j p] pos) Q:=
 wO lA (zD _) (h.imp fun x h=>qG ⟨_,fun p H vx vy R rx ry z=>⟨ry.non_inv,by rw[rx.non_iff];exact z⟩,h⟩)
theorem cN {j:Nat}{Q:Bool→Prop}(h:EvD X α a fun x=>Q (!wH x)):EvT X α (.Compare a [.IsNot] [.Constant .none j p] pos) Q:=
 wO ab (zD _) (h.imp fun x h=>qG ⟨_,fun p H vx vy R rx ry z=>⟨ry.non_inv,by rw[rx.non_iff];exact z⟩,h⟩)
def zr3 :PyData→Option Bool
 |.none=>some false
 |.bool b=>some b
 |.int i=>some (i != 0)
 |.list ds=>some (!ds.isEmpty)
 |.tuple ds=>some (!ds.isEmpty)
 |_=>none
theorem AVs.isEmpty {H:Hp}{xs:List V}{ds:List PyData}(h:AVs H xs ds):xs.isEmpty=ds.isEmpty:=by cases h<;>rfl
theorem fy {Q:Bool→Prop}(h:EvD X α e fun x=>∃k,zr3 x=some k∧Q k)(he:∀whole,isTrue e X.env whole=(do let v ←whole;standAt e.pos;holding [v] (truthy v)):=by intro _;rfl):EvT X α e Q:=fun F σ H R m k=>by
 refine⟨_,dh zq he,?_⟩
 refine h F σ H _ m fun x vx H1 q1 t1 k1 r1=>?_
 obtain⟨b,hb,q⟩:=q1
 refine⟨b,?_,k b H1 q t1 k1⟩
 cases r1 with
 |non=>cases hb;rfl
 |bl z=>cases hb;rfl
 |int i=>cases hb;rfl
 |str s=>cases hb
 |lst h1 h2=>cases hb;exact .inl ⟨_,SqL.of (zl h1).2,by rw[h2.isEmpty]⟩
 |tup h1 h2=>cases hb;exact .inr (.inl ⟨_,SqT.of (zl h1).2,by rw[h2.isEmpty]⟩)
 |ins _ _=>cases hb
 |dk _ _=>cases hb
 |dt _ _=>cases hb
 |xc _ _ _=>cases hb
 |xn _=>cases hb
theorem pG {Q:Bool→Prop}(h:EvT X α a fun k=>Q (!k)):EvT X α (.UnaryOp .Not a pos) Q:=fun F σ H R m k=>by
 refine⟨_,iU xJ,?_⟩
 exact h F σ H _ m fun b H1 q1 t1 k1=>k _ H1 q1 t1 k1
def EvW (X:Cx)(α:Ev)(e:Expr)(Q:Bool→Prop):Prop:=∀(F:Fr) (σ:St) (H:Hp) (R:Bool→Hp→Prop),M F α σ H→(∀b H',Q b→zT F H'→Kz F H H'→R b H')→∃t,PW X e t∧t σ H R
def zp4 (X:Cx)(e:Expr):TT:=fun σ H Q=>∃t,PW X e t∧t σ H Q
theorem kK :PW X e (zp4 X e):=fun w pins s σ H Q I ⟨t,p,q⟩=>p w pins s σ H Q I q
theorem EvW.t {Q:Bool→Prop}(h:EvW X α e Q):EvT X α e Q:=fun F σ H R m k=>by
 obtain⟨t,p,q⟩:=h F σ H R m k
 exact⟨t,p.pt,q⟩
variable {rest:List Expr}
theorem kU {Q:Bool→Prop}(h:EvT X α a Q):EvW X α (.BoolOp .And [a] pos) Q:=fun F σ H R m k=>⟨_,kj xJ,h F σ H R m k⟩
theorem ze7 {Q:Bool→Prop}(h:EvT X α a Q):EvW X α (.BoolOp .Or [a] pos) Q:=fun F σ H R m k=>⟨_,ml xJ,h F σ H R m k⟩
theorem iY {Q:Bool→Prop}(h:EvT X α a fun k=>if k=true then EvW X α (.BoolOp .And (b::rest) pos) Q else Q false):EvW X α (.BoolOp .And (a::b::rest) pos) Q:=fun F σ H R m k=>by
 refine⟨_,gP xJ kK,?_⟩
 refine h F σ H _ m fun c H1 q1 t1 k1=>?_
 cases c with
 |true=>exact su ((by simpa using q1:EvW X α _ Q) F σ H1 R (m.kz k1 t1) fun b H2 q2 t2 k2=>k b H2 q2 t2 (k1.trans k2))
 |false=>exact rB (k _ H1 (by simpa using q1) t1 k1)
theorem zn0 {Q:Bool→Prop}(h:EvT X α a fun k=>if k=true then Q true else EvW X α (.BoolOp .Or (b::rest) pos) Q):EvW X α (.BoolOp .Or (a::b::rest) pos) Q:=fun F σ H R m k=>by
 refine⟨_,dY xJ kK,?_⟩
 refine h F σ H _ m fun c H1 q1 t1 k1=>?_
 cases c with
 |false=>exact rB ((by simpa using q1:EvW X α _ Q) F σ H1 R (m.kz k1 t1) fun b H2 q2 t2 k2=>k b H2 q2 t2 (k1.trans k2))
 |true=>exact su (k _ H1 (by simpa using q1) t1 k1)
theorem lI (h:EvT X α c fun k=>if k=true then EvD X α a Q else EvD X α b Q):EvD X α (.IfExp c a b pos) Q:=fun F σ H R m k=>by
 refine⟨_,dO xJ zq zq,?_⟩
 refine h F σ H _ m fun x H1 q1 t1 k1=>?_
 cases x with
 |true=>exact su ((by simpa using q1:EvD X α _ Q) F σ H1 R (m.kz k1 t1) fun d v H2 q2 t2 k2 r2=>k d v H2 q2 t2 (k1.trans k2) r2)
 |false=>exact rB ((by simpa using q1:EvD X α _ Q) F σ H1 R (m.kz k1 t1) fun d v H2 q2 t2 k2 r2=>k d v H2 q2 t2 (k1.trans k2) r2)
theorem lE (hs:tw b)(h:EvD X α a fun x=>EvD X α b fun y=>∃ds i d,x=.list ds∧y=.int i∧atI ds i=some d∧Q d):EvD X α (.Subscript a b pos) Q:=by
 refine uw (f:=tOp (zc0 X.K)) (zM zR zq zq hs) (fun _ _ _=>Iff.rfl) (h.imp fun x h=>h.imp fun y ⟨ds,i,d,e1,e2,hat,hq⟩=>?_)
 subst e1 e2
 intro F σ H vx vy R m rx ry k
 obtain⟨a,xs,rfl,h1,h2⟩:=rx.lst_inv
 cases ry.int_inv
 obtain⟨v,hv,av⟩:=h2.atI hat
 exact⟨a,xs,i,v,rfl,rfl,SqL.of (zl h1).2,hv,k d v H hq m.tp Kz.refl av⟩
theorem xO (hs:tw b)(h:EvD X α a fun x=>EvD X α b fun y=>∃ds i d,x=.tuple ds∧y=.int i∧atI ds i=some d∧Q d):EvD X α (.Subscript a b pos) Q:=by
 refine uw (f:=tOp (zi0 X.K)) (zM yz zq zq hs) (fun _ _ _=>Iff.rfl) (h.imp fun x h=>h.imp fun y ⟨ds,i,d,e1,e2,hat,hq⟩=>?_)
 subst e1 e2
 intro F σ H vx vy R m rx ry k
 obtain⟨a,xs,rfl,h1,h2⟩:=rx.tup_inv
 cases ry.int_inv
 obtain⟨v,hv,av⟩:=h2.atI hat
 exact⟨a,xs,i,v,rfl,rfl,SqT.of (zl h1).2,hv,k d v H hq m.tp Kz.refl av⟩
def EvO (X:Cx)(α:Ev)(e:Option Expr)(Q:Option Int→Prop):Prop:=∀(F:Fr) (σ:St) (H:Hp) (R:Option Int→Hp→Prop),M F α σ H→(∀i H',Q i→zT F H'→Kz F H H'→R i H')→∃t,PO X e t∧t σ H R
def zq1 (X:Cx)(e:Option Expr):TO:=fun σ H Q=>∃t,PO X e t∧t σ H Q
theorem kG {e:Option Expr}:PO X e (zq1 X e):=fun pins s σ H Q I ⟨t,p,q⟩=>p pins s σ H Q I q
theorem aF {Q:Option Int→Prop}(q:Q none):EvO X α none Q:=fun F σ H R m k=>⟨_,pA,k _ H q m.tp Kz.refl⟩
theorem bb {Q:Option Int→Prop}(h:EvD X α a fun x=>∃i,x=.int i∧Q (some i)):EvO X α (some a) Q:=fun F σ H R m k=>by
 refine⟨_,qK zq,?_⟩
 refine h F σ H _ m fun x vx H1 q1 t1 k1 r1=>?_
 obtain⟨i,rfl,q⟩:=q1
 cases r1.int_inv
 exact⟨i,rfl,k _ H1 q t1 k1⟩
theorem M.lay {F:Fr}{σ:St}{H:Hp}{l:Addr}{xs:List V}{ds:List PyData}(m:M F α σ H)(hl:H l=none)(h:AVs (Gz F α σ H) xs ds):zT F (upd H l (.lst xs))∧Kz F H (upd H l (.lst xs))∧yW F α σ H (.ref l) (upd H l (.lst xs)) ds:=by
 refine⟨m.tp.same (yw hl),Kz.of_same (yw hl),l,xs,rfl,hl,zi,h.same (zx fun a o ha e=>?_)⟩
 have:=zk e hl
 exact⟨⟨ha,this⟩,by rw[zg this];exact e⟩
theorem iT {lo hi:Option Expr}{Q:List PyData→Prop}(h:EvD X α a fun x=>EvO X α lo fun l=>EvO X α hi fun u=>∃ds,x=.list ds∧Q (cutD ds l u)):EvL X α (.Subscript a (.Slice lo hi none p) pos) Q:=fun F σ H R m k=>by
 refine⟨_,sN qU zq kG kG,?_⟩
 refine h F σ H _ m fun x vx H1 q1 t1 k1 r1=>?_
 have m1:=m.kz k1 t1
 refine q1 F σ H1 _ m1 fun l H2 q2 t2 k2=>?_
 have m2:=m1.kz k2 t2
 refine q2 F σ H2 _ m2 fun u H3 q3 t3 k3=>?_
 have m3:=m2.kz k3 t3
 obtain⟨ds,rfl,q⟩:=q3
 obtain⟨a,xs,rfl,h1,h2⟩:=(r1.same ((k2.gz m1.tp).trans (k3.gz m2.tp))).lst_inv
 refine⟨a,xs,rfl,SqL.of (zl h1).2,fun p hp=>?_⟩
 obtain⟨g1,g2,g3⟩:=m3.lay hp (h2.cut l u)
 have kk:=(k1.trans k2).trans k3
 obtain⟨l',xs',e1,e2,e3,e4⟩:=g3
 refine k _ _ _ q g1 (kk.trans g2) ⟨l',xs',e1,?_,e3,e4⟩
 cases z:H l' with
 |none=>rfl
 |some o=>rw[kk l' o z (m.tp.nt (ow0 (m3.fresh e2)))] at e2;cases e2
theorem yW.back {F:Fr}{σ:St}{H H1 H':Hp}{v:V}{ds:List PyData}(m:M F α σ H)(k:Kz F H H1)(t1:zT F H1)(h:yW F α σ H1 v H' ds):yW F α σ H v H' ds:=by
 obtain⟨l',xs',e1,e2,e3,e4⟩:=h
 refine⟨l',xs',e1,?_,e3,e4⟩
 cases z:H l' with
 |none=>rfl
 |some o=>rw[k l' o z (m.tp.nt (ow0 ((m.kz k t1).fresh e2)))] at e2;cases e2
theorem zp {Q:List A→Prop}(q:Q []):EvA X α [] Q:=fun F σ H R m k=>⟨_,zt,k _ _ H q m.tp Kz.refl .nil⟩
theorem zd {Q:List A→Prop}(h:EvD X α e fun d=>EvA X α es fun as=>Q (.dat d::as))(hs:starEach (e::es) X.env=(false,eval e X.env)::starEach es X.env:=by rfl):EvA X α (e::es) Q:=fun F σ H R m k=>by
 refine⟨_,zc zq yZ hs,?_⟩
 refine h F σ H _ m fun d v H1 q1 t1 k1 r1=>?_
 have m1:=m.kz k1 t1
 exact q1 F σ H1 _ m1 fun as vs H2 q2 t2 k2 r2=>k _ _ H2 q2 t2 (k1.trans k2) (.cons (r1.same (k2.gz m1.tp)) r2)
theorem zX {Q:List A→Prop}(i:Nat){x:Str}(hi:α[i]?=some (some .tape))(h:EvA X α es fun as=>Q (.tape::as))(hN:X.N[i]?=some x:=by rfl)(hv:Vis X.env.scope x:=by first|exact Or.inl rfl|exact Or.inr (Or.inl rfl)|exact Or.inr (Or.inr rfl))
  (hd:(x == ("__debug__":Str))=false:=by decide) (hcd:(x == ("__classdict__":Str))=false:=by decide) (hs:starEach (.Name x pos::es) X.env=(false,eval (.Name x pos) X.env)::starEach es X.env:=by rfl):EvA X α (.Name x pos::es) Q:=fun F σ H R m k=>by
 obtain⟨t,b,c,h1,h2⟩:=m.tvar i hi
 refine⟨_,zc (xq hN hv hd hcd) yZ hs,.ref t,h2,?_⟩
 exact h F σ H _ m fun as vs H2 q2 t2 k2 r2=>k _ _ H2 q2 t2 k2 (.cons ⟨t,b,c,h1,rfl⟩ r2)
def datas :List A→Option (List PyData)
 |[]=>some []
 |.dat d::r=>(datas r).map (d::·)
 |_::_=>none
theorem yh.datas {F:Fr}{G:Hp}:∀{vs:List V} {as:List A} {ds:List PyData},yh F G vs as→L2.datas as=some ds→AVs G vs ds
 |_,_,ds,.nil,h=>by cases h;exact .nil
 |_,_,ds,.cons (a:=.dat d) (as:=as) h r,e=>by
  simp only[L2.datas,zv9] at e
  obtain⟨es,e1,rfl⟩:=e
  exact .cons h (yh.datas r e1)
 |_,_,ds,.cons (a:=.ow _) h r,e=>by cases h
 |_,_,ds,.cons (a:=.deep _ _) h r,e=>by cases h
 |_,_,ds,.cons (a:=.exc _ _) h r,e=>by cases h
 |_,_,ds,.cons (a:=.pin _ _ _) h r,e=>by cases h
 |_,_,ds,.cons (a:=.tape) h r,e=>by cases e
 |_,_,ds,.cons (a:=.at _) h r,e=>by cases h
theorem xk {n:Nat}(h:EvA X α es fun as=>∃ds,datas as=some ds∧ds.length≤1000∧Q (.tuple ds)):EvD X α (.Tuple es n pos) Q:=fun F σ H R m k=>by
 refine⟨_,qQ yZ,?_⟩
 refine h F σ H _ m fun as vs H1 q1 t1 k1 r1=>?_
 obtain⟨ds,e,hl,q⟩:=q1
 have r:=r1.datas e
 have m1:=m.kz k1 t1
 refine⟨by rw[r.length];exact zy5 (yQ hl),fun p hp=>?_⟩
 refine k _ _ _ q (t1.same (yw hp)) (k1.trans (Kz.of_same (yw hp))) (.tup (xs:=vs) (yc (m1.fresh hp) zi) (r.same (zx fun a o ha e=>⟨ha,by rw[zg (zk e hp)];exact e⟩)))
theorem yN {Q:List PyData→Prop}(h:EvA X α es fun as=>∃ds,datas as=some ds∧ds.length≤1000∧Q ds):EvL X α (.List es pos) Q:=fun F σ H R m k=>by
 refine⟨_,cj yZ,?_⟩
 refine h F σ H _ m fun as vs H1 q1 t1 k1 r1=>?_
 obtain⟨ds,e,hl,q⟩:=q1
 have r:=r1.datas e
 have m1:=m.kz k1 t1
 refine⟨by rw[r.length];exact zy5 (yQ hl),fun p hp=>?_⟩
 obtain⟨g1,g2,g3⟩:=m1.lay hp r
 exact k _ _ _ q g1 (k1.trans g2) (g3.back m k1 t1)
theorem xQ {Q:List PyData→Prop}(h:EvD X α a fun x=>EvD X α b fun y=>∃ds es,x=.list ds∧y=.list es∧ds.length+es.length≤1000∧Q (ds++es)):EvL X α (.BinOp a .Add b pos) Q:=fun F σ H R m k=>by
 refine⟨_,yo za6 zq zq,?_⟩
 refine h F σ H _ m fun x vx H1 q1 t1 k1 r1=>?_
 have m1:=m.kz k1 t1
 refine q1 F σ H1 _ m1 fun y vy H2 q2 t2 k2 r2=>?_
 have m2:=m1.kz k2 t2
 obtain⟨ds,es,rfl,rfl,hl,q⟩:=q2
 obtain⟨a,xs,rfl,h1,h2⟩:=(r1.same (k2.gz m1.tp)).lst_inv
 obtain⟨b,ys,rfl,h3,h4⟩:=r2.lst_inv
 refine⟨a,b,xs,ys,rfl,rfl,(zl h1).2,(zl h3).2,by rw[h2.length,h4.length];exact zy5 (yQ hl),fun p hp=>?_⟩
 obtain⟨g1,g2,g3⟩:=m2.lay hp (h2.append h4)
 exact k _ _ _ q g1 ((k1.trans k2).trans g2) (g3.back m (k1.trans k2) t2)
theorem tP {id:String}{x:Str}{r:List V→Hp→VK→Prop}(hc:we X (.builtin id) r)(hg:Gl X x)(hm:X.mg x=none)(hv:bootBuiltins x=some (.builtin id))
  (h:EvA X α (e::es) fun as=>∀(F:Fr) (σ:St) (H:Hp) (vs:List V) (R:VK),M F α σ H→yh F (Gz F α σ H) vs as→(∀d v H',Q d→zT F H'→Kz F H H'→AV (Gz F α σ H') v d→R v H')→r vs H R)
  (hn:x≠"__name__":=by decide) (hdb:(x == ("__debug__":Str))=false:=by decide) (he:starEach (e::es) X.env=(false,eval e X.env)::starEach es X.env:=by rfl) (hpl:(backTo pos (starEach es X.env)).any (·.1)=false:=by rfl):
  EvD X α (.Call (.Name x p) (e::es) [] pos) Q:=fun F σ H R m k=>by
 refine⟨_,ya hc hg hm hv yZ hn hdb he hpl,?_⟩
 refine h F σ H _ m fun as vs H1 q1 t1 k1 r1=>?_
 exact q1 F σ H1 vs R (m.kz k1 t1) r1 fun d v H' qd t2 k2 r2=>k d v H' qd t2 (k1.trans k2) r2
end
section
variable {X:Cx}{α:Ev}{e a b c:Expr}{es:List Expr}{pos p q:Pos}{Q:PyData→Prop}
theorem yh.one {F:Fr}{G:Hp}{vs:List V}{d:PyData}(h:yh F G vs [.dat d]):∃v,vs=[v]∧AV G v d:=by
 cases h with|cons h r=>cases r;exact⟨_,rfl,h⟩
theorem yh.two {F:Fr}{G:Hp}{vs:List V}{d e:PyData}(h:yh F G vs [.dat d,.dat e]):∃v u,vs=[v,u]∧AV G v d∧AV G u e:=by
 cases h with|cons h r=>obtain⟨u,rfl,h2⟩:=r.one;exact⟨_,u,rfl,h,h2⟩
def zp2 :PyData→Option Int
 |.list ds=>some ds.length
 |.tuple ds=>some ds.length
 |_=>none
theorem ph (hg:Gl X "len")(hm:X.mg "len"=none)(h:EvD X α e fun x=>∃n,zp2 x=some n∧Q (.int n))(he:starEach [e] X.env=(false,eval e X.env)::starEach [] X.env:=by rfl):
  EvD X α (.Call (.Name "len" p) [e] [] pos) Q:=by
 refine tP ym hg hm zA8 (zd (h.imp fun x ⟨n,e1,q⟩=>zp ?_) he) (he:=he)
 intro F σ H vs R m rv k
 obtain⟨v,rfl,av⟩:=rv.one
 cases av with
 |lst h1 h2=>cases e1;rw[←h2.length] at q;exact⟨_,_,rfl,.inl (SqL.of (zl h1).2),k _ _ H q m.tp Kz.refl (.int _)⟩
 |tup h1 h2=>cases e1;rw[←h2.length] at q;exact⟨_,_,rfl,.inr (SqT.of (zl h1).2),k _ _ H q m.tp Kz.refl (.int _)⟩
 |_=>cases e1
def wA :PyData→Option (List PyData)
 |.list ds=>some ds
 |.tuple ds=>some ds
 |_=>none
theorem kY {Q:List PyData→Prop}(hg:Gl X "list")(hm:X.mg "list"=none)(h:EvD X α e fun x=>∃ds,wA x=some ds∧Q ds)(he:starEach [e] X.env=(false,eval e X.env)::starEach [] X.env:=by rfl):
  EvL X α (.Call (.Name "list" p) [e] [] pos) Q:=fun F σ H R m k=>by
 refine⟨_,vt uk hg hm boot_list (zc zq zt he) (he:=he),?_⟩
 refine h F σ H _ m fun x vx H1 q1 t1 k1 r1=>?_
 obtain⟨ds,e1,q⟩:=q1
 have m1:=m.kz k1 t1
 have fin:∀{xs:List V},AVs (Gz F α σ H1) xs ds→∀l,H1 l=none→R (.ref l) (upd H1 l (.lst xs)):=fun {xs} h2 l hl=>by
  obtain⟨g1,g2,g3⟩:=m1.lay hl h2
  exact k _ _ _ q g1 (k1.trans g2) (g3.back m k1 t1)
 cases r1 with
 |lst h1 h2=>cases e1;exact⟨_,_,rfl,.inl (SqL.of (zl h1).2),fin h2⟩
 |tup h1 h2=>cases e1;exact⟨_,_,rfl,.inr (SqT.of (zl h1).2),fin h2⟩
 |_=>cases e1
theorem cQ (hgu:X.A.guards=some [])(hu:X.A.units+64<cLine)(hg:Gl X "repr")(hm:X.mg "repr"=none)(h:EvD X α e fun x=>zH sizeLine x∧Q (.str x.shown))(he:starEach [e] X.env=(false,eval e X.env)::starEach [] X.env:=by rfl):
  EvD X α (.Call (.Name "repr" p) [e] [] pos) Q:=by
 refine tP (jE hgu hu) hg hm boot_repr (zd (h.imp fun x ⟨n,q⟩=>zp ?_) he) (he:=he)
 intro F σ H vs R m rv k
 obtain⟨v,rfl,av⟩:=rv.one
 exact⟨v,x,rfl,(av.dv n.nod).same xS,n,k _ _ H q m.tp Kz.refl (.str _)⟩
section
variable {k:Nat}{f:Addr}{fd:FuncData}{ps:List Str}{φ:List A→(A→Prop)→Prop}{x:Str}
theorem wD {F:Fr}{σ:St}{H:Hp}{vs:List V}{as:List A}{QA:A→Prop}{R:VK}(m:M F α σ H)(rv:yh F (Gz F α σ H) vs as)(hφ:φ as QA)
  (kk:∀a v H',QA a→uI ⟨H,Ow F α σ,F.tp⟩ v H' a→R v H') {E:XK}:spA φ (vs++[]) H R E:=by
 refine⟨⟨H,Ow F α σ,F.tp⟩,as,QA,rfl,?_,?_,?_,hφ,kk⟩
 ·exact m.tp.to rfl fun _ z=>.inl z
 ·exact fun y z=>m.owEx z
 ·rw[zz3]
  exact yh.to (F:=F) (F':=⟨H,Ow F α σ,F.tp⟩) (fun _ _ e=>e) rfl rv
theorem uI.back {F:Fr}{σ:St}{H H':Hp}{v:V}{a:A}(m:M F α σ H)(h:uI ⟨H,Ow F α σ,F.tp⟩ v H' a):zT F H'∧Kz F H H'∧AV (Gz F α σ H') v a.d:=by
 obtain⟨t,kz,r⟩:=h
 refine⟨m.tp.re t rfl,kz,?_⟩
 cases a with
 |dat d=>exact r
 |ow c=>
  obtain⟨l,xs,ds,rfl,rfl,h1,h2,h3,h4⟩:=r
  exact .lst (yc h2 h3) (h4.same (zx fun a o h e=>⟨h.1,e⟩))
 |deep d S=>
  obtain⟨h1,h2⟩:=r
  refine h1.same fun x o e=>?_
  rcases dq e with ⟨z1,z2⟩|⟨_,z2⟩
  ·exact yc (h2 x z1).1 z2
  ·exact z2
 |tape=>exact r.elim
 |«at» _=>exact r.elim
 |exc _ _=>exact r.elim
 |pin _ _ _=>exact r.elim
theorem ba (G:zB X.prog X.w X.K X.mg X.base CX0 k f fd ps (spA φ))(hr:zP k X.A)(hg:Gl X x)(hm:X.mg x=some (.ref f))(hk:PySem.W.keepIn X.K (.ref f)=true)(hb:Binds X.K fd ps [])
  (h:EvA X α (e::es) fun as=>φ as fun a=>Q a.d) (hdb:(x == ("__debug__":Str))=false:=by decide) (he:starEach (e::es) X.env=(false,eval e X.env)::starEach es X.env:=by rfl) (hpl:(backTo pos (starEach es X.env)).any (·.1)=false:=by rfl):
  EvD X α (.Call (.Name x p) (e::es) [] pos) Q:=fun F σ H R m kk=>by
 refine⟨_,zQ G hr hg hm hk hb .nil zZ yZ hdb he hpl,?_⟩
 refine h F σ H _ m fun as vs H1 q1 t1 k1 r1=>?_
 have m1:=m.kz k1 t1
 refine wD m1 r1 q1 fun a v H' qa ra=>?_
 obtain⟨g1,g2,g3⟩:=ra.back m1
 exact kk _ v H' qa g1 (k1.trans g2) g3
theorem bF {Q:List PyData→Prop}(G:zB X.prog X.w X.K X.mg X.base CX0 k f fd ps (spA φ))(hr:zP k X.A)(hg:Gl X x)(hm:X.mg x=some (.ref f))(hk:PySem.W.keepIn X.K (.ref f)=true)(hb:Binds X.K fd ps [])
  (h:EvA X α (e::es) fun as=>φ as fun a=>∃ds,a=.own ds∧Q ds) (hdb:(x == ("__debug__":Str))=false:=by decide) (he:starEach (e::es) X.env=(false,eval e X.env)::starEach es X.env:=by rfl) (hpl:(backTo pos (starEach es X.env)).any (·.1)=false:=by rfl):
  EvL X α (.Call (.Name x p) (e::es) [] pos) Q:=fun F σ H R m kk=>by
 refine⟨_,zQ G hr hg hm hk hb .nil zZ yZ hdb he hpl,?_⟩
 refine h F σ H _ m fun as vs H1 q1 t1 k1 r1=>?_
 have m1:=m.kz k1 t1
 refine wD m1 r1 q1 fun a v H' qa ra=>?_
 obtain⟨ds,rfl,q⟩:=qa
 obtain⟨g1,g2,_⟩:=ra.back m1
 obtain⟨_,_,l,xs,ds',rfl,hc,h1,h2,h3,h4⟩:=ra
 cases hc
 exact kk ds _ H' q g1 (k1.trans g2) (yW.back m k1 t1 ⟨l,xs,rfl,h1,h3,h4⟩)
end
theorem mI {i j:Nat}{x:Option A}(h:i≠j):(α.set i x)[j]?=α[j]?:=zw8 h
theorem yn {i:Nat}{x:Option A}{j:Nat}{y:Option A}(h:(α.set i x)[j]?=some y):(i=j∧x=y)∨(i≠j∧α[j]?=some y):=by
 by_cases hij:i=j
 ·subst hij
  left
  have hl:i<α.length:=by
   have:=(zt0.mp h).1
   rwa [zx6] at this
  rw[zz8 hl] at h
  exact⟨rfl,zv0 h⟩
 ·right
  rw[zw8 hij] at h
  exact⟨hij,h⟩
theorem M.put {F:Fr}{σ:St}{H:Hp}{i:Nat}{b:Option A}(m:M F α σ H)(hf:∀s c x,σ[i]?=some s→b=some c→foot s c x→∃a,α[i]?=some (some a)∧foot s a x)
  (hok:∀s c,i<α.length→σ[i]?=some s→b=some c→vO (Gz F (α.set i b) σ H) F H s c) (hx:∀c,b=some c→noX c:=by intro c z;cases z;trivial):zy (Gz F α σ H) (Gz F (α.set i b) σ H)∧M F (α.set i b) σ H:=by
 have gs:zy (Gz F α σ H) (Gz F (α.set i b) σ H):=zx fun a o h e=>⟨fun z=>h (by
  rcases z with z|⟨j,c,s,e1,e2,f⟩
  ·exact .inl z
  ·rcases yn e1 with ⟨rfl,z⟩|⟨hj,e1'⟩
   ·obtain⟨a',h1,h2⟩:=hf s c a e2 z f
    exact .inr ⟨i,a',s,h1,e2,h2⟩
   ·exact .inr ⟨j,c,s,e1',e2,f⟩),e⟩
 have old:∀{j:Nat} {c:A} {s:Option V} {x:Addr},(α.set i b)[j]?=some (some c)→σ[j]?=some s→foot s c x→∃a,α[j]?=some (some a)∧foot s a x:=fun {j c s x} e1 e2 f=>by
  rcases yn e1 with ⟨rfl,z⟩|⟨hj,e1'⟩
  ·exact hf s c x e2 z f
  ·exact⟨c,e1',f⟩
 refine⟨gs,by rw[zx6];exact m.len,fun j c s e1 e2=>?_,fun j k c d s t x e1 e2 h1 h2 f1 f2=>?_,fun j r q e j' c s x e1 e2 f=>?_,m.tp,m.keep,m.oex⟩
 ·rcases yn e1 with ⟨rfl,z⟩|⟨hj,e1'⟩
  ·refine hok s c ?_ e2 z
   have:=(zt0.mp e1).1
   rwa [zx6] at this
  ·exact (m.ok j c s e1' e2).stay gs (fun x o f e=>⟨e,(m.ft e1' e2 f).1,(m.ft e1' e2 f).2.1⟩) rfl fun _ _ _ l=>l
 ·obtain⟨a',g1,g2⟩:=old e1 h1 f1
  obtain⟨b',g3,g4⟩:=old e2 h2 f2
  exact m.dj j k a' b' s t x g1 g3 h1 h2 g2 g4
 ·obtain⟨a',g1,g2⟩:=old e1 e2 f
  rcases yn e with ⟨rfl,z⟩|⟨_,e'⟩
  ·exact (hx _ z).elim
  ·exact m.xd j r q e' j' a' s x g1 e2 g2
theorem M.gave {F:Fr}{σ:St}{H:Hp}{i:Nat}{a:A}{s:Option V}{b:Option A}{x:Addr}(m:M F α σ H)(e1:α[i]?=some (some a))(e2:σ[i]?=some s)(f:foot s a x)(hb:∀c,b=some c→¬foot s c x):¬Ow F (α.set i b) σ x:=by
 rintro (z|⟨j,c,t,h1,h2,g⟩)
 ·exact (m.ft e1 e2 f).1 z
 ·rcases yn h1 with ⟨rfl,z⟩|⟨hj,h1'⟩
  ·rw[e2] at h2;cases h2;exact hb c z g
  ·exact hj (m.dj i j a c s t x e1 h1' e2 h2 f g)
theorem zc6 {F:Fr}{σ:St}{H:Hp}{i:Nat}{b:A}(hb:∀s x,¬foot s b x):zy (Gz F α σ H) (Gz F (α.set i (some b)) σ H):=zx fun a o h e=>⟨fun z=>h (by
 rcases z with z|⟨j,c,s,e1,e2,f⟩
 ·exact .inl z
 ·rcases yn e1 with ⟨rfl,z⟩|⟨hj,e1'⟩
  ·cases z;exact (hb _ _ f).elim
  ·exact .inr ⟨j,c,s,e1',e2,f⟩),e⟩
theorem M.frz {F:Fr}{σ:St}{H:Hp}{i:Nat}{ds:List PyData}(m:M F α σ H)(hi:α[i]?=some (some (.own ds))):M F (α.set i (some (.dat (.list ds)))) σ H:=
 (m.put (b:=some (.dat (.list ds))) (fun s c' x _ z f=>by cases z;exact f.elim) fun s c' _ e2 z=>by
  cases z
  obtain⟨l,o,h1,h2,h3,h4,h5⟩:=m.owc i _ hi
  rw[h1] at e2;cases e2
  exact⟨.ref l,rfl,(h3.same (zc6 (b:=.dat (.list ds)) fun _ _ f=>f)).av (yc (m.gave hi h1 rfl fun c z=>by cases z;exact id) h2)⟩).2
theorem zc4 {F:Fr}{σ:St}{H H':Hp}{i:Nat}{a:A}{b:Option A}(m:M F α σ H)(k:Kz F H H')(hi:α[i]?=some (some a))(x:Addr)(o:HO)(ho:¬Ob o)(h:Gz F (α.set i b) σ H' x=some o):Gz F α σ H' x=some o:=by
 obtain⟨h1,h2⟩:=zl h
 refine yc ?_ h2
 rintro (z|⟨j,c,s,e1,e2,f⟩)
 ·exact h1 (.inl z)
 ·by_cases hj:i=j
  ·subst hj
   obtain⟨g1,g2,o',g3,g4⟩:=m.ft e1 e2 f
   rw[k _ _ g3 (m.tp.nt g1)] at h2;cases h2;exact ho g4
  ·exact h1 (.inr ⟨j,c,s,by rw[mI hj];exact e1,e2,f⟩)
theorem lQ {Q:List PyData→Prop}{i:Nat}{a:A}{b:Option A}(hi:α[i]?=some (some a))(hm:∀F σ H,M F α σ H→M F (α.set i b) σ H)(h:EvL X (α.set i b) e fun d=>uZ d=true∧Q d):EvL X α e Q:=fun F σ H R m k=>
 h F σ H R (hm F σ H m) fun d v H' q t kz r=>by
  obtain⟨l,xs,h1,h2,h3,h4⟩:=r
  refine k d v H' q.2 t kz ⟨l,xs,h1,h2,h3,h4.noL (fun a ys hno z=>?_) q.1⟩
  obtain⟨z1,z2⟩:=zl z
  obtain⟨w1,w2⟩:=zl (zc4 m kz hi a ys hno (yc z1.1 z2))
  exact yc ⟨w1,z1.2⟩ w2
theorem kg {Q:Bool→Prop}(i:Nat){ds:List PyData}(hi:α[i]?=some (some (.own ds)))(h:EvT X (α.set i (some (.dat (.list ds)))) e Q):EvT X α e Q:=fun F σ H R m k=>h F σ H R (m.frz hi) k
theorem bK {Q:List PyData→Prop}(i:Nat){ds:List PyData}(hi:α[i]?=some (some (.own ds)))(h:EvL X (α.set i (some (.dat (.list ds)))) e fun d=>uZ d=true∧Q d):EvL X α e Q:=lQ hi (fun _ _ _ m=>m.frz hi) h
def ItW (p:Addr→Prop)(J:It)(ds:List PyData)(G:Hp):Prop:=∀(i:Nat) (H2:Hp) (q:Addr→Prop),zy G (sub q H2)→
 (∀d,ds[i]?=some d→J.go i H2∧∀x H3,J.yld i H2 x H3→zy H2 H3∧((∀a o,H3 a=some o→H2 a=none→q a)→AV (sub q H3) x d))∧(ds.length≤i→J.stop i H2)
def zf4 (X:Cx)(tg e:Expr):TI:=fun σ H R=>∃t,PI X tg e t∧t σ H R
theorem pQ {tg e:Expr}:PI X tg e (zf4 X tg e):=fun pins s σ H R I ⟨t,p,q⟩=>p pins s σ H R I q
def EvI (X:Cx)(α:Ev)(tg e:Expr)(Q:List PyData→Prop):Prop:=∀(F:Fr) (σ:St) (H:Hp) (R:It→Hp→Prop),M F α σ H→
 (∀ds J H',Q ds→zT F H'→Kz F H H'→ItW (fun x=>¬Ow F α σ x) J ds (Gz F α σ H')→R J H')→zf4 X tg e σ H R
theorem wC {tg:Expr}{Q:List PyData→Prop}(h:EvD X α e fun x=>∃ds,x=.list ds∧Q ds):EvI X α tg e Q:=fun F σ H R m k=>by
 refine⟨_,kQ zq,?_⟩
 refine h F σ H _ m fun x vx H1 q1 t1 k1 r1=>?_
 obtain⟨ds,rfl,q⟩:=q1
 obtain⟨a,xs,rfl,h1,h2⟩:=r1.lst_inv
 refine⟨a,rfl,⟨xs,SqL.of (zl h1).2⟩,k ds _ H1 q t1 k1 fun i H2 p s=>⟨fun d hd=>?_,fun hl=>?_⟩⟩
 ·obtain⟨x,hx,av⟩:=h2.get hd
  have ha:=SqL.of (K:=X.K) (zl (s _ _ h1)).2
  refine⟨⟨xs,x,ha,hx⟩,fun x' H3 y=>?_⟩
  obtain⟨e,y⟩:=y
  subst e
  have:=y xs ha
  rw[hx] at this;cases this
  exact⟨zy.refl _,fun _=>av.same s⟩
 ·exact⟨xs,SqL.of (zl (s _ _ h1)).2,by rw[h2.length];exact hl⟩
theorem jn {p:Addr→Prop}{lo:Int}{n:Nat}{G:Hp}:ItW p (Itr lo n) ((zu lo n).map .int) G:=fun i H2 q s=>⟨fun d hd=>by
  rw[zu0,zv9] at hd
  obtain⟨z,h1,rfl⟩:=hd
  have hi:i<n:=by
   have:=(zt0.mp h1).1
   rwa [zh] at this
  rw[wx hi] at h1
  cases h1
  refine⟨hi,fun x H3 y=>?_⟩
  obtain⟨rfl,rfl⟩:=y
  exact⟨zy.refl _,fun _=>.int _⟩,fun hl=>by
  rw[zs4,zh] at hl
  exact hl⟩
theorem wg {tg:Expr}{Q:List PyData→Prop}(hg:Gl X "range")(hm:X.mg "range"=none)(h:EvD X α a fun x=>∃j,x=.int j∧-(2 ^ 62)≤j∧j<2 ^ 62∧Q ((zu 0 j.toNat).map .int))(hs:starEach [a] X.env=[(false,eval a X.env)]:=by rfl):
  EvI X α tg (.Call (.Name "range" p) [a] [] pos) Q:=fun F σ H R m k=>by
 refine⟨_,ji hg hm (zc zq zt hs) hs,?_⟩
 refine h F σ H _ m fun x vx H1 q1 t1 k1 r1=>?_
 obtain⟨j,rfl,b1,b2,q⟩:=q1
 cases r1.int_inv
 exact⟨j,rfl,b1,b2,k _ _ H1 q t1 k1 jn⟩
end
inductive Pat where
 |one (i:Nat)
 |many (is:List Nat)
def wZ :List Nat→List PyData→Ev→Option Ev
 |[],[],α=>some α
 |i::is,d::ds,α=>wZ is ds (α.set i (some (.dat d)))
 |_,_,_=>none
def Pat.bind :Pat→PyData→Ev→Option Ev
 |.one i,d,α=>some (α.set i (some (.dat d)))
 |.many is,.tuple ds,α=>wZ is ds α
 |_,_,_=>none
def gIs :List Nat→TGs
 |[]=>zk4
 |i::is=>aR (rP i) (gIs is)
def oZ (K:PySem.W.Frag):Pat→TG
 |.one i=>rP i
 |.many is=>zb6 K is.length (gIs is)
def Pat.slots :Pat→List Nat
 |.one i=>[i]
 |.many is=>is
def isFree (α:Ev)(i:Nat):Bool:=match α[i]? with
 |some none=>true
 |_=>false
def Pat.free (p:Pat)(α:Ev):Bool:=p.slots.all (isFree α)
section
variable {X:Cx}{α α':Ev}{F:Fr}{σ:St}{H:Hp}
theorem M.store {i:Nat}{v:V}{b:A}{H':Hp}(m:M F α σ H)(t:zT F H')(k:Kz F H H')(hn:∀x,foot (some v) b x→H x=none)(hok:vO (sub (fun x=>¬Ow F α σ x∧¬foot (some v) b x) H') F H' (some v) b)(hx:noX b:=by trivial):M F (α.set i (some b)) (σ.set i (some v)) H':=by
 have m':=m.kz k t
 have hs:∀{j:Nat} {c:A} {s:Option V},(α.set i (some b))[j]?=some (some c)→(σ.set i (some v))[j]?=some s→(i=j∧c=b∧s=some v)∨(i≠j∧α[j]?=some (some c)∧σ[j]?=some s):=fun {j c s} e1 e2=>by
  rcases yn e1 with ⟨rfl,z⟩|⟨hj,e1'⟩
  ·cases z
   have hl:i<σ.length:=by
    have:=(zt0.mp e2).1
    rwa [zx6] at this
   rw[zz8 hl] at e2
   cases e2
   exact .inl ⟨rfl,rfl,rfl⟩
  ·rw[zw8 hj] at e2
   exact .inr ⟨hj,e1',e2⟩
 have ow:∀{y:Addr},Ow F (α.set i (some b)) (σ.set i (some v)) y→Ow F α σ y∨foot (some v) b y:=fun {y} h=>by
  rcases h with z|⟨j,c,s,e1,e2,f⟩
  ·exact .inl (.inl z)
  ·rcases hs e1 e2 with ⟨_,rfl,rfl⟩|⟨_,g1,g2⟩
   ·exact .inr f
   ·exact .inl (.inr ⟨j,c,s,g1,g2,f⟩)
 have g1:zy (sub (fun x=>¬Ow F α σ x∧¬foot (some v) b x) H') (Gz F (α.set i (some b)) (σ.set i (some v)) H'):=zx fun a o h e=>⟨fun z=>(ow z).elim h.1 h.2,e⟩
 have g0:zy (Gz F α σ H) (sub (fun x=>¬Ow F α σ x∧¬foot (some v) b x) H'):=zx fun a o h e=>⟨⟨h,fun z=>by rw[hn a z] at e;cases e⟩,k a o e (m.tp.nt (ow0 h))⟩
 refine⟨by rw[zx6,zx6];exact m.len,fun j c s e1 e2=>?_,fun j j' c d s s' x e1 e2 h1 h2 f1 f2=>?_,fun j r q e j' c s x e1 e2 f=>?_,t,m.keep.trans k,m'.oex⟩
 ·rcases hs e1 e2 with ⟨rfl,rfl,rfl⟩|⟨_,z1,z2⟩
  ·exact hok.stay g1 (fun x o f e=>by
    obtain⟨w1,w2,_⟩:=pJ hok f
    exact⟨e,w1,w2⟩) rfl fun _ _ _ l=>l
  ·exact (m.ok j c s z1 z2).stay (g0.trans g1) (fun x o f e=>by
    obtain⟨w1,w2,_⟩:=m.ft z1 z2 f
    exact⟨k x o e (m.tp.nt w1),w1,w2⟩) rfl fun _ _ _ l=>l.kz k t
 ·have nn:∀{j:Nat} {c:A} {s:Option V},α[j]?=some (some c)→σ[j]?=some s→foot s c x→¬foot (some v) b x:=fun {j c s} z1 z2 f g=>by
   obtain⟨_,_,o,w,_⟩:=m.ft z1 z2 f
   rw[hn x g] at w;cases w
  rcases hs e1 h1 with ⟨rfl,rfl,rfl⟩|⟨_,z1,z2⟩
  ·rcases hs e2 h2 with ⟨rfl,_⟩|⟨_,w1,w2⟩
   ·rfl
   ·exact absurd f1 (nn w1 w2 f2)
  ·rcases hs e2 h2 with ⟨rfl,rfl,rfl⟩|⟨_,w1,w2⟩
   ·exact absurd f2 (nn z1 z2 f1)
   ·exact m.dj j j' c d s s' x z1 w1 z2 w2 f1 f2
 ·rcases yn e with ⟨rfl,z⟩|⟨_,e'⟩
  ·cases z;exact hx.elim
  ·rcases hs e1 e2 with ⟨rfl,rfl,rfl⟩|⟨_,z1,z2⟩
   ·exact (m.lnk e').none (hn x f)
   ·exact m.xd j r q e' j' c s x z1 z2 f
theorem M.set {i:Nat}{v:V}{d:PyData}(m:M F α σ H)(av:AV (Gz F α σ H) v d):M F (α.set i (some (.dat d))) (σ.set i (some v)) H:=
 m.store m.tp Kz.refl (fun x z=>z.elim) ⟨v,rfl,av.same (zx fun a o h e=>⟨⟨h,fun z=>z⟩,e⟩)⟩
theorem M.setC {i:Nat}{v:V}{c:PyData}{H':Hp}(m:M F α σ H)(t:zT F H')(k:Kz F H H')(fl:fF F α σ H v H' c):M F (α.set i (some (.ow c))) (σ.set i (some v)) H':=by
 obtain⟨l,o,rfl,h1,h2,h3⟩:=fl
 have nl:¬Ow F α σ l:=m.fresh h1
 refine m.store t k (fun x z=>?_) ⟨l,o,rfl,h2,h3.same (zx fun a o h e=>⟨⟨h.1,fun z=>h.2 (by cases z;rfl)⟩,e⟩),ow0 nl,m.fresh0 h1⟩
 have z':some (V.ref l)=some (.ref x):=z
 cases z';exact h1
theorem M.setOwn {i:Nat}{v:V}{ds:List PyData}{H':Hp}(m:M F α σ H)(t:zT F H')(k:Kz F H H')(fl:yW F α σ H v H' ds):M F (α.set i (some (.own ds))) (σ.set i (some v)) H':=m.setC t k fl.c
theorem M.wr {x:Addr}{o:HO}(m:M F α σ H)(hno:vf o)(ho:F.O0 x)(ht:∀t b c,F.tp=some (t,b,c)→x≠t∧x≠b∧x≠c)(h0:F.H0 x=none)(hpl:Plain H x)(hx:∀(i:Nat) r q,α[i]?=some (some (.exc r q))→r.H0 x=none):M F α σ (upd H x o):=by
 have gs:zy (Gz F α σ H) (Gz F α σ (upd H x o)):=zx fun a u h e=>⟨h,by rw[zg (fun z=>h (.inl (by rw[z];exact ho)))];exact e⟩
 refine⟨m.len,fun j c s e1 e2=>?_,m.dj,m.xd,m.tp.upd ht hpl,fun y u e n=>?_,fun y hy=>?_⟩
 ·have:=m.ok j c s e1 e2
  cases c with
  |exc r q=>
   have l:Lnk r F H:=this
   exact⟨l.tp,l.o,l.ok.upd (fun a b c e=>ht a b c (l.tp▸e)) hpl,fun y u e n=>by rw[zg (zk e (hx j r q e1))];exact l.k y u e n⟩
  |_=>exact this.stay gs (fun y u f e=>by
    obtain⟨w1,w2,_⟩:=m.ft e1 e2 f
    exact⟨by rw[zg (fun z=>w1 (by rw[z];exact ho))];exact e,w1,w2⟩) rfl fun _ _ z=>by cases z
 ·rw[zg (zk e h0)];exact m.keep y u e n
 ·by_cases z:y=x
  ·exact⟨o,by rw[z];exact zi,hno⟩
  ·obtain⟨u,hu,hn⟩:=m.oex y hy
   exact⟨u,by rw[zg z];exact hu,hn⟩
theorem M.forget {α0:Ev}(m:M F α σ H)(hl:α0.length=α.length)(le:∀(i:Nat) a,α0[i]?=some (some a)→α[i]?=some (some a)):M F α0 σ H:=by
 have ow:∀{y:Addr},Ow F α0 σ y→Ow F α σ y:=fun {y} h=>by
  rcases h with z|⟨j,c,s,e1,e2,f⟩
  ·exact .inl z
  ·exact .inr ⟨j,c,s,le _ _ e1,e2,f⟩
 have gs:zy (Gz F α σ H) (Gz F α0 σ H):=zx fun a o h e=>⟨fun z=>h (ow z),e⟩
 exact⟨hl.trans m.len,fun j c s e1 e2=>(m.ok j c s (le _ _ e1) e2).stay gs (fun x o f e=>⟨e,(m.ft (le _ _ e1) e2 f).1,(m.ft (le _ _ e1) e2 f).2.1⟩) rfl fun _ _ _ l=>l,fun j j' c d s s' x e1 e2=>m.dj j j' c d s s' x (le _ _ e1) (le _ _ e2),fun j r q e j' c s x e1=>m.xd j r q (le _ _ e) j' c s x (le _ _ e1),m.tp,m.keep,m.oex⟩
theorem qf {H:Hp}:∀{is:List Nat} {ds:List PyData} {α α':Ev} {σ:St} {xs:List V} {R:St→Hp→Prop},wZ is ds α=some α'→M F α σ H→(∀G,zy (Gz F α σ H) G→AVs G xs ds)→(∀σ',M F α' σ' H→R σ' H)→gIs is xs σ H R
 |[],[],α,α',σ,xs,R,e,m,av,k=>by
  cases e
  cases av _ (zy.refl _)
  exact⟨rfl,k σ m⟩
 |i::is,d::ds,α,α',σ,xs,R,e,m,av,k=>by
  cases h:av _ (zy.refl _) with
  |@cons x xs _ _ h1 h2=>
   refine⟨x,xs,rfl,?_⟩
   have gs:zy (Gz F α σ H) (Gz F (α.set i (some (.dat d))) (σ.set i (some x)) H):=zx fun a o h e=>⟨fun z=>h (by
    rcases z with z|⟨j,c,s,e1,e2,f⟩
    ·exact .inl z
    ·rcases yn e1 with ⟨_,z⟩|⟨hj,e1'⟩
     ·cases z;exact f.elim
     ·rw[zw8 hj] at e2
      exact .inr ⟨j,c,s,e1',e2,f⟩),e⟩
   exact qf (is:=is) (ds:=ds) e (m.set (i:=i) h1) (fun G s=>h2.same (gs.trans s)) k
 |[],_::_,_,_,_,_,_,e,_,_,_=>by cases e
 |_::_,[],_,_,_,_,_,e,_,_,_=>by cases e
theorem pC {K:PySem.W.Frag}{pat:Pat}{d:PyData}{v:V}{R:St→Hp→Prop}(e:pat.bind d α=some α')(m:M F α σ H)(av:AV (Gz F α σ H) v d)(k:∀σ',M F α' σ' H→R σ' H):oZ K pat v σ H R:=by
 cases pat with
 |one i=>cases e;exact k _ (m.set av)
 |many is=>
  cases d with
  |tuple ds=>
   obtain⟨a,xs,rfl,h1,h2⟩:=av.tup_inv
   have hl:∀{is:List Nat} {ds:List PyData} {α α':Ev},wZ is ds α=some α'→ds.length=is.length:=by
    intro is
    induction is with
    |nil=>intro ds α α' h;cases ds with|nil=>rfl|cons _ _=>cases h
    |cons i is ih=>intro ds α α' h;cases ds with|nil=>cases h|cons d ds=>rw[zu1,zu1,ih h]
   exact⟨a,xs,rfl,SqT.of (zl h1).2,by rw[h2.length];exact hl e,qf e m (fun G s=>h2.same s) k⟩
  |_=>cases e
theorem sy :∀{is:List Nat} {ds:List PyData} {α α':Ev},wZ is ds α=some α'→α'.length=α.length
 |[],[],_,_,e=>by cases e;rfl
 |i::is,d::ds,α,α',e=>by
  have:=sy (is:=is) (ds:=ds) e
  rwa [zx6] at this
 |[],_::_,_,_,e=>by cases e
 |_::_,[],_,_,e=>by cases e
theorem sP :∀{is:List Nat} {ds:List PyData} {α α':Ev} {j:Nat},wZ is ds α=some α'→j∉is→α'[j]?=α[j]?
 |[],[],_,_,_,e,_=>by cases e;rfl
 |i::is,d::ds,α,α',j,e,h=>by
  rw[sP (is:=is) (ds:=ds) e fun z=>h (zt4 _ z)]
  exact zw8 fun (z:i=j)=>h (by rw[←z];exact zt7)
 |[],_::_,_,_,_,e,_=>by cases e
 |_::_,[],_,_,_,e,_=>by cases e
theorem sO :∀{is:List Nat} {ds:List PyData} {α α':Ev} {j:Nat} {a:A},wZ is ds α=some α'→α'[j]?=some (some a)→(∀d,a≠.dat d)→α[j]?=some (some a)
 |[],[],_,_,_,_,e,h,_=>by cases e;exact h
 |i::is,d::ds,α,α',j,a,e,h,hn=>by
  rcases yn (sO (is:=is) (ds:=ds) e h hn) with ⟨_,z⟩|⟨_,z⟩
  ·cases z;exact absurd rfl (hn d)
  ·exact z
 |[],_::_,_,_,_,_,e,_,_=>by cases e
 |_::_,[],_,_,_,_,e,_,_=>by cases e
theorem Pat.is_ok {pat:Pat}{d:PyData}(e:pat.bind d α=some α'):∃is ds,pat.slots=is∧wZ is ds α=some α':=by
 cases pat with
 |one i=>cases e;exact⟨_,[d],rfl,rfl⟩
 |many is=>
  cases d with
  |tuple ds=>exact⟨_,ds,rfl,e⟩
  |_=>cases e
theorem Pat.back {pat:Pat}{d:PyData}(e:pat.bind d α=some α')(fr:pat.free α=true)(m:M F α' σ H):M F α σ H:=by
 obtain⟨is,ds,rfl,e⟩:=Pat.is_ok e
 refine m.forget (sy e).symm fun j a h=>?_
 by_cases hj:j∈pat.slots
 ·have:=zC7.mp fr j hj
  unfold isFree at this
  rw[h] at this
  cases this
 ·rw[sP e hj];exact h
end
section
variable {X:Cx}{α:Ev}
def ir (X:Cx)(α:Ev)(ifs:List Expr)(Q:Bool→Prop):Prop:=∀(F:Fr) (σ:St) (H:Hp) (R:Bool→Hp→Prop),M F α σ H→(∀b H',Q b→zT F H'→Kz F H H'→R b H')→∃t,wX X ifs t∧t σ H R
def aL (X:Cx)(ifs:List Expr):TT:=fun σ H R=>∃t,wX X ifs t∧t σ H R
theorem kF {ifs:List Expr}:wX X ifs (aL X ifs):=fun pins s σ H Q I ⟨t,p,q⟩=>p pins s σ H Q I q
theorem mi {Q:Bool→Prop}(q:Q true):ir X α [] Q:=fun F σ H R m k=>⟨_,bH,k _ H q m.tp Kz.refl⟩
theorem mZ {c:Expr}{Q:Bool→Prop}(h:EvT X α c Q):ir X α [c] Q:=fun F σ H R m k=>⟨_,kf xJ,h F σ H R m k⟩
def seen :Option A→Option A
 |some (.dat d)=>some (.dat d)
 |some .tape=>some .tape
 |_=>none
def yT (imp:List (Option Nat))(α:Ev):Ev:=imp.map fun o=>o.bind fun j=>(α[j]?).bind seen
theorem oY {imp:List (Option Nat)}{i:Nat}{a:A}(h:(yT imp α)[i]?=some (some a)):∃j,imp[i]?=some (some j)∧α[j]?=some (some a)∧((∃d,a=.dat d)∨a=.tape):=by
 unfold yT at h
 rw[zu0,zv9] at h
 obtain⟨o,h1,h2⟩:=h
 cases o with
 |none=>cases h2
 |some j=>
  have h2':(α[j]?).bind seen=some a:=h2
  cases q:α[j]? with
  |none=>rw[q] at h2';cases h2'
  |some b=>
   rw[q] at h2'
   cases b with
   |none=>cases h2'
   |some b=>
    cases b with
    |dat d=>cases h2';exact⟨j,h1,q,.inl ⟨d,rfl⟩⟩
    |tape=>cases h2';exact⟨j,h1,q,.inr rfl⟩
    |_=>cases h2'
theorem ng {imp:List (Option Nat)}{σ:St}{i j:Nat}{v:V}(h1:imp[i]?=some (some j))(h2:σ[j]?=some (some v)):(xX imp σ)[i]?=some (some v):=by
 unfold xX
 rw[zu0,h1]
 show some ((σ[j]?).bind id)=_
 rw[h2];rfl
def xu (Y:Addr→Shared→Hp→List Addr→Cx)(pat:Pat)(ifs:List Expr)(elt:Expr)(α0:Ev):List PyData→List PyData→(List PyData→Prop)→Prop
 |[],acc,Q=>Q acc
 |d::ds,acc,Q=>∃α1,pat.bind d α0=some α1∧∀C s2 H2 fp,ir (Y C s2 H2 fp) α1 ifs fun k=>if k=true then ∀C s2 H2 fp,EvD (Y C s2 H2 fp) α1 elt fun y=>xu Y pat ifs elt α0 ds (acc++[y]) Q else xu Y pat ifs elt α0 ds acc Q
def eC (Y:Addr→Shared→Hp→List Addr→Cx)(e:Expr):TE:=fun σ H Q=>∀C s2 H2 fp,uX (Y C s2 H2 fp) e σ H Q
def tsC (Y:Addr→Shared→Hp→List Addr→Cx)(ifs:List Expr):TT:=fun σ H Q=>∀C s2 H2 fp,aL (Y C s2 H2 fp) ifs σ H Q
theorem ja {N:List Str}{imp:List (Option Nat)}{scope:Scope}{tg iter elt:Expr}{ifs:List Expr}{pat:Pat}{Q:List PyData→Prop}(hfree:pat.free (yT imp α)=true)
  (h:EvI X α tg iter fun ds=>ds.length≤1000∧xu (fun C s2 H2 fp=>X.comp N scope C s2 H2 fp) pat ifs elt (yT imp α) ds [] Q)
  (F:Fr) (σ:St) (H:Hp) (R:VK) (m:M F α σ H) (k:∀ds v H',Q ds→zT F H'→Kz F H H'→yW F α σ H v H' ds→R v H'):
  ∃Y:Addr→Shared→Hp→List Addr→Cx,Y=(fun C s2 H2 fp=>X.comp N scope C s2 H2 fp)∧dR (zf4 X tg iter) imp (oZ X.K pat) (tsC Y ifs) (eC Y elt) σ H R:=by
 refine⟨_,rfl,?_⟩
 refine h F σ H _ m fun ds J H1 ⟨hl,q1⟩ t1 k1 itw acc hacc=>?_
 have m1:=m.kz k1 t1
 have nacc:¬Ow F α σ acc:=m1.fresh hacc
 let Fc:Fr:=⟨H1,fun x=>Ow F α σ x∨x=acc,F.tp⟩
 let Nd:Ev→Prop:=fun α1=>∀(j:Nat) a,α1[j]?=some (some a)→(∃d,a=.dat d)∨a=.tape
 have no0:Nd (yT imp α):=fun j a z=>by
  obtain⟨_,_,_,n⟩:=oY z
  exact n
 have owc:∀{α1:Ev} {τ:St} {x:Addr},Nd α1→(Ow Fc α1 τ x↔Fc.O0 x):=fun {α1 τ x} hh=>⟨fun z=>z.elim id fun⟨j,a,s,e1,e2,f⟩=>by
  rcases hh j a e1 with ⟨d,rfl⟩|rfl
  ·exact f.elim
  ·exact f.elim,.inl⟩
 have gz:∀{α1 α2:Ev} {τ1 τ2:St} {H:Hp},Nd α1→Nd α2→zy (Gz Fc α1 τ1 H) (Gz Fc α2 τ2 H):=fun h1 h2=>zx fun a o h e=>⟨fun z=>h ((owc h1).mpr ((owc h2).mp z)),e⟩
 have tpc:∀{H2:Hp},zT F H2→zT Fc H2:=fun t=>t.to rfl fun x z=>.inl (.inl z)
 have s01:zy H1 (upd H1 acc (.lst [])):=yw hacc
 have mc0:M Fc (yT imp α) (xX imp σ) (upd H1 acc (.lst [])):=by
  have g1:zy (Gz F α σ H1) (Gz Fc (yT imp α) (xX imp σ) (upd H1 acc (.lst []))):=fun a o e=>by
   obtain⟨z1,z2⟩:=zl e
   have na:a≠acc:=zk z2 hacc
   exact yc (fun z=>((owc no0).mp z).elim z1 na) (by rw[zg na];exact z2)
  refine⟨by unfold yT xX;rw[zs4,zs4],fun i a s e1 e2=>?_,fun i j a b s t x e1 e2 _ _ f=>?_,fun i r q e=>(by rcases no0 i _ e with ⟨d,w⟩|w<;>cases w),tpc (t1.same s01),fun x o e _=>s01 x o e,?_⟩
  ·obtain⟨j,w1,w2,w3⟩:=oY e1
   rcases w3 with ⟨d,rfl⟩|rfl
   ·obtain⟨v,g2,g3⟩:=m1.dat j d w2
    rw[ng w1 g2] at e2;cases e2
    exact⟨v,rfl,g3.same g1⟩
   ·obtain⟨t,b,c,g2,g3⟩:=m1.tvar j w2
    rw[ng w1 g3] at e2;cases e2
    exact⟨t,b,c,g2,rfl⟩
  ·rcases no0 i a e1 with ⟨d,rfl⟩|rfl
   ·exact f.elim
   ·exact f.elim
  ·rintro x (z|z)
   ·have:∃o,H1 x=some o∧vf o:=m1.owEx z
    obtain⟨o,ho,hn⟩:=this
    exact⟨o,s01 _ _ ho,hn⟩
   ·exact⟨_,by rw[z];exact zi,yU⟩
 refine⟨fun i n ys τ H2=>n=ds.length-i∧i≤ds.length∧∃ad:List PyData,M Fc (yT imp α) τ H2∧H2 acc=some (.lst ys)∧AVs (Gz Fc (yT imp α) τ H2) ys ad∧ad.length≤i∧xu (fun C s2 H2 fp=>X.comp N scope C s2 H2 fp) pat ifs elt (yT imp α) (ds.drop i) ad Q,
  ⟨ds.length,by simp,zt6 _,[],mc0,zi,.nil,zs9 _,q1⟩,?_⟩
 rintro i n ys τ H2 ⟨rfl,hi,ad,m2,ha,av,had,cw⟩
 have sG:zy (Gz F α σ H1) (Gz Fc (yT imp α) τ H2):=fun a o e=>by
  obtain⟨z1,z2⟩:=zl e
  exact m2.old a o (yc (p:=fun x=>¬Fc.O0 x) (fun z=>z.elim z1 (zk z2 hacc)) z2)
 obtain⟨w1,w2⟩:=itw i H2 _ sG
 by_cases hlt:i<ds.length
 ·have hd:ds[i]?=some ds[i]:=zs6 hlt
  have hdr:ds.drop i=ds[i]::ds.drop (i+1):=zA5 hlt
  rw[hdr] at cw
  obtain⟨α1,eb,body⟩:=cw
  obtain⟨go,yl⟩:=w1 _ hd
  have no1:Nd α1:=fun j a z=>by
   obtain⟨is,ds',_,e⟩:=Pat.is_ok eb
   by_cases hn:∀d,a≠.dat d
   ·exact no0 j a (sO e z hn)
   ·simp only[Classical.not_forall,Classical.not_not] at hn
    exact .inl hn
  refine .inr ⟨go,fun ys' τ' H'=>∃ad:List PyData,M Fc (yT imp α) τ' H'∧H' acc=some (.lst ys')∧AVs (Gz Fc (yT imp α) τ' H') ys' ad∧ad.length≤i+1∧xu (fun C s2 H2 fp=>X.comp N scope C s2 H2 fp) pat ifs elt (yT imp α) (ds.drop (i+1)) ad Q,
   fun ys' τ' H' ⟨ad',r1,r2,r3,r4,r5⟩=>⟨ds.length-(i+1),by omega,rfl,hlt,ad',r1,r2,r3,r4,r5⟩,fun x H3 y=>?_⟩
  obtain⟨s23,avx⟩:=yl x H3 y
  have m3:M Fc (yT imp α) τ H3:=m2.kz (Kz.of_same s23) (m2.tp.same s23)
  have avx':=avx fun a o _ e=>m2.fresh e
  refine pC eb m3 avx' fun τ1 m4 C s2 H2' fp=>?_
  refine body C s2 H2' fp Fc τ1 H3 _ m4 fun b H5 qb t5 k5=>?_
  have m5:=m4.kz k5 t5
  have av5:AVs (Gz Fc (yT imp α) τ1 H5) ys ad:=av.same ((Kz.of_same s23).gz m2.tp |>.trans ((gz (τ2:=τ1) no0 no1).trans ((k5.gz m4.tp).trans (gz no1 no0))))
  have accN:NT Fc acc:=⟨fun t b c e=>by
   have:=(t1 t b c e).1.free hacc
   exact⟨this.1,this.2.1⟩,ox t1.tab hacc⟩
  have ha5:H5 acc=some (.lst ys):=k5 _ _ (s23 _ _ ha) accN
  cases b with
  |false=>
   have qb':xu (fun C s2 H2 fp=>X.comp N scope C s2 H2 fp) pat ifs elt (yT imp α) (ds.drop (i+1)) ad Q:=by simpa using qb
   exact rB ⟨ad,Pat.back eb hfree m5,ha5,av5,by omega,qb'⟩
  |true=>
   refine su fun C s2 H2'' fp=>?_
   have qe:EvD (X.comp N scope C s2 H2'' fp) α1 elt fun y=>xu (fun C s2 H2 fp=>X.comp N scope C s2 H2 fp) pat ifs elt (yT imp α) (ds.drop (i+1)) (ad++[y]) Q:=by
    have z:=qb
    rw[if_pos rfl] at z
    exact z C s2 H2'' fp
   refine qe Fc τ1 H5 _ m5 fun y v H6 qy t6 k6 r6=>?_
   have m6:=m5.kz k6 t6
   have ha6:H6 acc=some (.lst ys):=k6 _ _ ha5 accN
   have hlen:ys.length≤i:=by rw[av.length];exact had
   have oacc:Fc.O0 acc:=.inr rfl
   have tacc:∀t b c,Fc.tp=some (t,b,c)→acc≠t∧acc≠b∧acc≠c:=fun t b c e=>(t1 t b c e).1.free hacc
   have m7:=(Pat.back eb hfree m6).wr (o:=.lst (ys++[v])) yU oacc tacc hacc (qv ha6) (fun i r q z=>by rcases no0 i _ z with ⟨d,w⟩|w<;>cases w)
   refine⟨ha6,yQ (by omega),ad++[y],m7,zi,?_,by simp;omega,qy⟩
   have g67:zy (Gz Fc (yT imp α) τ1 H6) (Gz Fc (yT imp α) τ1 (upd H6 acc (.lst (ys++[v])))):=zx fun a o h e=>⟨h,by rw[zg (fun z=>h (.inl (by rw[z];exact oacc)))];exact e⟩
   exact ((av5.same ((gz (τ2:=τ1) no0 no1).trans ((k6.gz m5.tp).trans (gz no1 no0)))).append (.cons (r6.same (gz no1 no0)) .nil)).same g67
 ·have e:i=ds.length:=by omega
  subst e
  rw[zF4] at cw
  refine .inl ⟨w2 (zs9 _),k ad _ H2 cw ?_ (k1.trans m2.keep) (yW.back m k1 t1 ⟨acc,ys,rfl,hacc,ha,av.same (zx fun a o h e=>⟨⟨fun z=>h (.inl (.inl z)),fun z=>h (.inl (.inr z))⟩,e⟩)⟩)⟩
  exact m.tp.re m2.tp rfl
theorem dF {N:List Str}{imp:List (Option Nat)}{scope:Scope}{tg iter elt:Expr}{ifs:List Expr}{pat:Pat}{Q:List PyData→Prop}{pos:Pos}(hc:X.calm=true)(S:zI X.N X.env.scope N imp scope)(hfree:pat.free (yT imp α)=true)
  (hg:∀C s2 H2 fp,PG (X.comp N scope C s2 H2 fp) tg (oZ X.K pat))
  (h:EvI X α tg iter fun ds=>ds.length≤1000∧xu (fun C s2 H2 fp=>X.comp N scope C s2 H2 fp) pat ifs elt (yT imp α) ds [] Q) (hs:∀x,foldedSetIterable iter X.env x=pure x:=by intro _;rfl):
  EvL X α (.ListComp elt [⟨tg,iter,ifs,0⟩] scope pos) Q:=fun F σ H R m k=>by
 obtain⟨Y,rfl,h⟩:=ja hfree h F σ H R m k
 exact⟨_,za5 hc S pQ hg (fun C s2 H2 fp pins s σ H Q I h=>kF pins s σ H Q I (h C s2 H2 fp)) (fun C s2 H2 fp pins s σ H Q I h=>zq pins s σ H Q I (h C s2 H2 fp)) hs,h⟩
section
variable {E:wa}{rest body:List Stmt}{e c tg iter:Expr}{pos p:Pos}
theorem oA.then {F:Fr}{D:Ends}(h:oA F E D):oA F {E with nx:=fun α'=>SvS X α' rest E} {D with nx:=bz X rest D}:=
 ⟨fun α' σ' H' m q=>q F σ' H' D m h,h.rt,h.bk,h.ct⟩
theorem zE (q:E.nx α):SvS X α [] E:=fun F σ H D m h=>⟨_,yu,h.nx _ _ _ m q⟩
theorem SvS.imp {sts:List Stmt}{E':wa}(h:SvS X α sts E')(hn:∀α,E'.nx α→E.nx α)(hr:∀a,E'.rt a→E.rt a)(hb:∀α,E'.bk α→E.bk α)(hc:∀α,E'.ct α→E.ct α):SvS X α sts E:=fun F σ H D m r=>
 h F σ H D m ⟨fun α σ H m q=>r.nx α σ H m (hn _ q),fun a v H m q=>r.rt a v H m (hr _ q),fun α σ H m q=>r.bk α σ H m (hb _ q),fun α σ H m q=>r.ct α σ H m (hc _ q)⟩
theorem yg (i:Nat){x:Str}{pos':Pos}(hN:X.N.Nodup)(h:EvD X α e fun d=>SvS X (α.set i (some (.dat d))) rest E)(hi:X.N[i]?=some x:=by rfl)(hx:Loc X.env.scope x:=by first|exact Or.inl rfl|exact Or.inr rfl)
  (hs:swapsWith e (some (.Name x pos')) pos.line X.env=pure false:=by rfl) (hf:X.fn x=true∨X.env.scope.names.lookup x=some .local:=by first|exact .inl rfl|exact .inr rfl|assumption):SvS X α (.Assign [.Name x pos'] e pos::rest) E:=fun F σ H D m r=>by
 refine⟨_,zV (va hN hi hx zq hs hf) yt,?_⟩
 exact h F σ H _ m fun d v H1 q1 t1 k1 r1=>q1 F _ H1 D ((m.kz k1 t1).set r1) r
theorem wk (i:Nat){x:Str}{pos':Pos}(hN:X.N.Nodup)(h:EvL X α e fun ds=>SvS X (α.set i (some (.own ds))) rest E)(hi:X.N[i]?=some x:=by rfl)(hx:Loc X.env.scope x:=by first|exact Or.inl rfl|exact Or.inr rfl)
  (hs:swapsWith e (some (.Name x pos')) pos.line X.env=pure false:=by rfl) (hf:X.fn x=true∨X.env.scope.names.lookup x=some .local:=by first|exact .inl rfl|exact .inr rfl|assumption):SvS X α (.Assign [.Name x pos'] e pos::rest) E:=fun F σ H D m r=>by
 refine⟨_,zV (va hN hi hx zq hs hf) yt,?_⟩
 exact h F σ H _ m fun d v H1 q1 t1 k1 r1=>q1 F _ H1 D (m.setOwn t1 k1 r1) r
theorem aQ (i:Nat){x:Str}{pos' cpos:Pos}{N:List Str}{imp:List (Option Nat)}{scope:Scope}{elt:Expr}{ifs:List Expr}{pat:Pat}(hN:X.N.Nodup)(hc:X.calm=true)(S:zI X.N X.env.scope N imp scope)(hfree:pat.free (yT imp α)=true)
  (hg:∀C s2 H2 fp,PG (X.comp N scope C s2 H2 fp) tg (oZ X.K pat))
  (h:EvI X α tg iter fun ds=>ds.length≤1000∧xu (fun C s2 H2 fp=>X.comp N scope C s2 H2 fp) pat ifs elt (yT imp α) ds [] fun ds=>SvS X (α.set i (some (.own ds))) rest E)
  (hi:X.N[i]?=some x:=by rfl) (hx:Loc X.env.scope x:=by first|exact Or.inl rfl|exact Or.inr rfl) (hsw:swapsWith (.ListComp elt [⟨tg,iter,ifs,0⟩] scope cpos) (some (.Name x pos')) pos.line X.env=pure true:=by rfl)
  (hf:X.fn x=true∨X.env.scope.names.lookup x=some .local:=by first|exact .inl rfl|exact .inr rfl|assumption) (hs:∀x,foldedSetIterable iter X.env x=pure x:=by intro _;rfl):
  SvS X α (.Assign [.Name x pos'] (.ListComp elt [⟨tg,iter,ifs,0⟩] scope cpos) pos::rest) E:=fun F σ H D m r=>by
 obtain⟨Y,rfl,h⟩:=ja hfree h F σ H (fun v H'=>bz X rest D (σ.set i (some v)) H') m fun ds v H' q t k fl=>q F _ H' D (m.setOwn t k fl) r
 exact⟨_,zV (fV hc S pQ hg (fun C s2 H2 fp pins s σ H Q I h=>kF pins s σ H Q I (h C s2 H2 fp)) (fun C s2 H2 fp pins s σ H Q I h=>zq pins s σ H Q I (h C s2 H2 fp)) hN hi hx hsw hf hs) yt,h⟩
theorem uI.dat {F:Fr}{σ:St}{H:Hp}{v:V}{d:PyData}(m:M F α σ H)(r:AV (Gz F α σ H) v d):uI F v H (.dat d):=
 ⟨m.tp,m.keep,r.same (zx fun a o h e=>⟨ow0 h,e⟩)⟩
theorem wU (h:EvD X α e fun d=>E.rt (.dat d)):SvS X α (.Return (some e) pos::rest) E:=fun F σ H D m r=>by
 refine⟨_,zV (zA zq) yt,?_⟩
 exact h F σ H _ m fun d v H1 q1 t1 k1 r1=>r.rt _ _ _ (uI.dat (m.kz k1 t1) r1) q1
theorem qR (h:EvL X α e fun ds=>E.rt (.own ds)):SvS X α (.Return (some e) pos::rest) E:=fun F σ H D m r=>by
 refine⟨_,zV (zA zq) yt,?_⟩
 refine h F σ H _ m fun d v H1 q1 t1 k1 r1=>r.rt _ _ _ ?_ q1
 obtain⟨l,xs,h1,h2,h3,h4⟩:=r1
 exact⟨t1,m.keep.trans k1,l,xs,_,h1,rfl,m.fresh0 h2,ow0 (m.fresh h2),h3,h4.same (zx fun a o h e=>⟨⟨ow0 h.1,h.2⟩,e⟩)⟩
theorem xF (i:Nat){x:Str}{ds:List PyData}(hi:α[i]?=some (some (.own ds)))(q:E.rt (.own ds))(hN:X.N[i]?=some x:=by rfl)(hv:Vis X.env.scope x:=by first|exact Or.inl rfl|exact Or.inr (Or.inl rfl)|exact Or.inr (Or.inr rfl))
  (hd:(x == ("__debug__":Str))=false:=by decide) (hcd:(x == ("__classdict__":Str))=false:=by decide):SvS X α (.Return (some (.Name x p)) pos::rest) E:=fun F σ H D m r=>by
 obtain⟨l,xs,h1,h2,h3,h4,h5⟩:=m.own i ds hi
 refine⟨_,zV (zA (xq hN hv hd hcd)) yt,.ref l,h1,r.rt (.own ds) _ _ ⟨m.tp,m.keep,l,xs,_,rfl,rfl,h5,h4,h2,h3.same (zx fun a o h e=>⟨⟨ow0 h,fun z=>h (by rw[z];exact .inr ⟨i,_,_,hi,h1,rfl⟩)⟩,e⟩)⟩ q⟩
theorem xW {a b:List Stmt}(h:EvT X α c fun k=>SvS X α (if k=true then a else b) {E with nx:=fun α'=>SvS X α' rest E}):SvS X α (.If c a b pos::rest) E:=fun F σ H D m r=>by
 refine⟨_,zV (xI xJ yt yt) yt,?_⟩
 refine h F σ H _ m fun k H1 q1 t1 k1=>?_
 cases k with
 |true=>exact su ((by simpa using q1:SvS X α a _) F σ H1 _ (m.kz k1 t1) r.then)
 |false=>exact rB ((by simpa using q1:SvS X α b _) F σ H1 _ (m.kz k1 t1) r.then)
theorem M.wrC {F:Fr}{σ:St}{H:Hp}{i:Nat}{c c':PyData}{l:Addr}{o':HO}(m:M F α σ H)(hi:α[i]?=some (some (.ow c)))(hl:σ[i]?=some (some (.ref l)))(av:xg (Gz F α σ H) o' c'):
  M F (α.set i (some (.ow c'))) σ (upd H l o'):=by
 obtain⟨l',o,h1,h2,h3,h4,h5⟩:=m.owc i c hi
 rw[hl] at h1;cases h1
 have hs:∀{j:Nat} {a:A} {s:Option V},(α.set i (some (.ow c')))[j]?=some (some a)→σ[j]?=some s→(i=j∧a=.ow c'∧s=some (.ref l))∨(i≠j∧α[j]?=some (some a)):=fun {j a s} e1 e2=>by
  rcases yn e1 with ⟨rfl,z⟩|⟨hj,e1'⟩
  ·cases z;rw[hl] at e2;cases e2;exact .inl ⟨rfl,rfl,rfl⟩
  ·exact .inr ⟨hj,e1'⟩
 have oww:∀{y:Addr},Ow F (α.set i (some (.ow c'))) σ y→Ow F α σ y:=fun {y} h=>by
  rcases h with z|⟨j,a,s,e1,e2,f⟩
  ·exact .inl z
  ·rcases hs e1 e2 with ⟨rfl,rfl,rfl⟩|⟨hj,e1'⟩
   ·exact .inr ⟨i,_,_,hi,hl,f⟩
   ·exact .inr ⟨j,a,s,e1',e2,f⟩
 have ol:Ow F α σ l:=.inr ⟨i,_,_,hi,hl,rfl⟩
 have gs:zy (Gz F α σ H) (Gz F (α.set i (some (.ow c'))) σ (upd H l o')):=zx fun a o h e=>⟨fun z=>h (oww z),by rw[zg (fun z=>h (by rw[z];exact ol))];exact e⟩
 refine⟨by rw[zx6];exact m.len,fun j a s e1 e2=>?_,fun j j' a b s t x e1 e2 q1 q2 f1 f2=>?_,fun j r q e j' a s x e1 e2 f=>?_,m.tp.updO h4 (h3.plain h2),fun y o e n=>?_,fun y hy=>?_⟩
 ·rcases hs e1 e2 with ⟨rfl,rfl,rfl⟩|⟨hj,e1'⟩
  ·exact⟨l,o',rfl,zi,av.same gs,h4,h5⟩
  ·refine (m.ok j a s e1' e2).stay gs (fun y u f e=>?_) rfl fun r q ea k=>⟨k.tp,k.o,k.ok.updO (fun z=>h4 (k.o _ z)) (h3.plain h2),fun y u e n=>?_⟩
   ·obtain⟨w1,w2,_⟩:=m.ft e1' e2 f
    refine⟨?_,w1,w2⟩
    rw[zg fun z=>hj (m.dj i j _ a _ s l hi e1' hl e2 rfl (by rw[←z];exact f))]
    exact e
   ·rw[zg (zk e (m.xd j r q (by rw[←ea];exact e1') i _ _ l hi hl rfl))];exact k.k y u e n
 ·rcases hs e1 q1 with ⟨rfl,rfl,rfl⟩|⟨hj,e1'⟩
  ·rcases hs e2 q2 with ⟨rfl,_⟩|⟨hj',e2'⟩
   ·rfl
   ·exact m.dj i j' _ b _ t x hi e2' hl q2 f1 f2
  ·rcases hs e2 q2 with ⟨rfl,rfl,rfl⟩|⟨hj',e2'⟩
   ·exact m.dj j i a _ s _ x e1' hi q1 hl f1 f2
   ·exact m.dj j j' a b s t x e1' e2' q1 q2 f1 f2
 ·rcases yn e with ⟨_,z⟩|⟨_,e'⟩
  ·cases z
  ·rcases hs e1 e2 with ⟨rfl,rfl,rfl⟩|⟨_,e1'⟩
   ·exact m.xd j r q e' i _ _ x hi hl f
   ·exact m.xd j r q e' j' a s x e1' e2 f
 ·rw[zg (zk e h5)];exact m.keep y o e n
 ·rw[zg (fun z=>h4 (by rw[←z];exact hy))];exact m.oex y hy
theorem M.wrOwn {F:Fr}{σ:St}{H:Hp}{i:Nat}{ds es:List PyData}{l:Addr}{ys:List V}(m:M F α σ H)(hi:α[i]?=some (some (.own ds)))(hl:σ[i]?=some (some (.ref l)))(av:AVs (Gz F α σ H) ys es):
  M F (α.set i (some (.own es))) σ (upd H l (.lst ys)):=m.wrC hi hl (.lst av)
theorem yq (i:Nat){x:Str}{ds:List PyData}{p1 p2 p3:Pos}(hi:α[i]?=some (some (.own ds)))(h:EvD X α e fun d=>ds.length<1000∧SvS X (α.set i (some (.own (ds++[d])))) rest E)
  (hN:X.N[i]?=some x:=by rfl) (hv:Vis X.env.scope x:=by first|exact Or.inl rfl|exact Or.inr (Or.inl rfl)|exact Or.inr (Or.inr rfl)) (hd:(x == ("__debug__":Str))=false:=by decide) (hcd:(x == ("__classdict__":Str))=false:=by decide)
  (hbase:attributeBase (.Name x p1) "append" X.env (eval (.Name x p1) X.env)=eval (.Name x p1) X.env:=by rfl) (hs:starEach [e] X.env=(false,eval e X.env)::starEach [] X.env:=by rfl)
  (hpl:((((backTo p3 (starEach [e] X.env)).all fun x=>!x.fst)&&(backToKw p3 (keywordEach [] X.env)).all fun x=>x.fst.isSome)&&decide (([e].length+([]:List Keyword).length+if ([]:List Keyword).isEmpty=true then 0 else 1)<30))=true:=by rfl)
  (hline:(p2.endLine == p3.line)=true:=by rfl) (hsw:swapsWith (.Call (.Attribute (.Name x p1) "append" p2) [e] [] p3) none pos.line X.env=pure false:=by rfl):SvS X α (.Expr (.Call (.Attribute (.Name x p1) "append" p2) [e] [] p3) pos::rest) E:=fun F σ H D m r=>by
 obtain⟨l,xs,h1,h2,h3,h4,h5⟩:=m.own i ds hi
 refine⟨_,zV (jc (aM PySem.F.plainAttrs_list PySem.F.slot_list_append PySem.F.type_list_append rH (xq hN hv hd hcd) (zc zq zt hs) hbase hpl hline hs) hsw) yt,?_⟩
 refine⟨.ref l,h1,.inl ⟨rfl,_,SqL.of h2⟩,?_⟩
 refine h F σ H _ m fun d v H1 q1 t1 k1 r1=>?_
 have m1:=m.kz k1 t1
 refine⟨l,xs,v,rfl,rfl,k1 _ _ h2 (m.tp.nt h4),by rw[h3.length];exact yQ (zy5 q1.1),?_⟩
 exact q1.2 F σ _ D (m1.wrOwn hi h1 ((h3.same (k1.gz m.tp)).append (.cons r1 .nil))) r
theorem zf1 (i:Nat){x:Str}{ix:Expr}{ds:List PyData}{p1 p2:Pos}(hi:α[i]?=some (some (.own ds)))(h:EvD X α e fun d=>EvD X α ix fun y=>∃k j,y=.int k∧ixN ds.length k=some j∧SvS X (α.set i (some (.own (ds.set j d)))) rest E)
  (hN:X.N[i]?=some x:=by rfl) (hv:Vis X.env.scope x:=by first|exact Or.inl rfl|exact Or.inr (Or.inl rfl)|exact Or.inr (Or.inr rfl)) (hd:(x == ("__debug__":Str))=false:=by decide) (hcd:(x == ("__classdict__":Str))=false:=by decide)
  (hs:swapsWithSole [.Subscript (.Name x p1) ix p2] e pos.line X.env=pure false:=by rfl) (hw:swappedStores [.Subscript (.Name x p1) ix p2] e X.env=pure none:=by rfl)
  (ha:(assignEach [.Subscript (.Name x p1) ix p2] X.env).map (·.2)=[assign (.Subscript (.Name x p1) ix p2) X.env]:=by rfl) (hps:PG X (.Subscript (.Name x p1) ix p2) (zn7 (za8 i) (uX X ix) aW):=by exact mV (xq rfl (by first|exact Or.inl rfl|exact Or.inr (Or.inl rfl)|exact Or.inr (Or.inr rfl))) zq set_list):
  SvS X α (.Assign [.Subscript (.Name x p1) ix p2] e pos::rest) E:=fun F σ H D m r=>by
 obtain⟨l,xs,h1,h2,h3,h4,h5⟩:=m.own i ds hi
 refine⟨_,zV (pK zq hps hs hw ha) yt,?_⟩
 refine h F σ H _ m fun d v H1 q1 t1 k1 r1=>?_
 have m1:=m.kz k1 t1
 refine⟨.ref l,h1,?_⟩
 refine q1 F σ H1 _ m1 fun y vy H2 q2 t2 k2 r2=>?_
 have m2:=m1.kz k2 t2
 obtain⟨k,j,rfl,hj,q⟩:=q2
 cases r2.int_inv
 refine⟨l,xs,k,j,rfl,rfl,k2 _ _ (k1 _ _ h2 (m.tp.nt h4)) (m.tp.nt h4),by rw[h3.length];exact hj,?_⟩
 exact q F σ _ D (m2.wrOwn hi h1 (((h3.same (k1.gz m.tp)).same (k2.gz m1.tp)).set (r1.same (k2.gz m1.tp)) j)) r
def uR (X:Cx)(pat:Pat)(body rest:List Stmt)(E:wa):List PyData→Ev→Prop
 |[],α=>SvS X α rest E
 |d::ds,α=>∃α1,pat.bind d α=some α1∧SvS X α1 body {nx:=uR X pat body rest E ds,ct:=uR X pat body rest E ds,bk:=fun α'=>SvS X α' rest E,rt:=E.rt}
theorem wV {pat:Pat}(hp:PassesOwn (model X.prog X.w) X.A X.env X.xe)(hc:X.calm=true)(hg:PG X tg (oZ X.K pat))(h:EvI X α tg iter fun ds=>uR X pat body rest E ds α)
  (hs:∀x,foldedSetIterable iter X.env x=pure x:=by intro _;rfl):SvS X α (.For tg iter body [] pos::rest) E:=fun F σ H D m r=>by
 refine⟨_,zV (zd6 hp hc pQ hg yt hs) yt,?_⟩
 refine h F σ H _ m fun ds J H1 q1 t1 k1 itw=>?_
 have m1:=m.kz k1 t1
 have mu:=m1.up
 have ru:oA (F.up (Gz F α σ H1)) E D:=r.up
 refine⟨fun i n σ' H'=>n=ds.length-i∧i≤ds.length∧∃α',M (F.up (Gz F α σ H1)) α' σ' H'∧uR X pat body rest E (ds.drop i) α',⟨ds.length,by simp,zt6 _,α,mu,q1⟩,?_⟩
 rintro i n σ' H' ⟨rfl,hi,α',m',lw⟩
 obtain⟨w1,w2⟩:=itw i H' _ (m1.upold m')
 by_cases hlt:i<ds.length
 ·have hd:ds[i]?=some ds[i]:=zs6 hlt
  rw[zA5 hlt] at lw
  obtain⟨α1,eb,body⟩:=lw
  obtain⟨go,yl⟩:=w1 _ hd
  refine .inr ⟨go,fun σ'' H''=>∃α',M (F.up (Gz F α σ H1)) α' σ'' H''∧uR X pat _ rest E (ds.drop (i+1)) α',fun σ'' H'' ⟨α'',r1,r2⟩=>⟨ds.length-(i+1),by omega,rfl,hlt,α'',r1,r2⟩,fun x H3 y=>?_⟩
  obtain⟨s23,avx⟩:=yl x H3 y
  have m3:=m'.kz (Kz.of_same s23) (m'.tp.same s23)
  refine pC eb m3 (avx fun a o _ e=>m'.fresh e) fun σ1 m4=>?_
  exact body _ σ1 H3 _ m4 ⟨fun α2 σ2 H2 m2 q=>⟨α2,m2,q⟩,ru.rt,fun α2 σ2 H2 m2 q=>q _ σ2 H2 D m2 ru,fun α2 σ2 H2 m2 q=>⟨α2,m2,q⟩⟩
 ·have e:i=ds.length:=by omega
  subst e
  rw[zF4] at lw
  exact .inl ⟨w2 (zs9 _),lw _ σ' H' D m' ru⟩
theorem yL {pat:Pat}{ds:List PyData}(P:Nat→Ev→Prop)(h0:P 0 α)(hs:∀i d α,ds[i]?=some d→P i α→∃α1,pat.bind d α=some α1∧SvS X α1 body {nx:=P (i+1),ct:=P (i+1),bk:=fun α'=>SvS X α' rest E,rt:=E.rt})
  (hd:∀α,P ds.length α→SvS X α rest E):uR X pat body rest E ds α:=by
 have key:∀n i α,n=ds.length-i→i≤ds.length→P i α→uR X pat body rest E (ds.drop i) α:=by
  intro n
  induction n with
  |zero=>
   intro i α hn hi p
   have e:i=ds.length:=by omega
   subst e
   rw[zF4]
   exact hd α p
  |succ n ih=>
   intro i α hn hi p
   have hlt:i<ds.length:=by omega
   rw[zA5 hlt]
   obtain⟨α1,e,b⟩:=hs i ds[i] α (zs6 hlt) p
   exact⟨α1,e,b.imp (fun α p=>ih (i+1) α (by omega) hlt p) (fun _ z=>z) (fun _ z=>z) (fun α p=>ih (i+1) α (by omega) hlt p)⟩
 exact key _ 0 α rfl (zt6 _) h0
end
end
section
variable {P:Program}{w:World}{K:PySem.W.Frag}{mg:Str→Option Value}{base:Heap}
theorem M.start {F:Fr}{N:List Str}{vs:List V}{as:List A}{H:Hp}(e:F.H0=H)(t:zT F H)(o:∀x,F.O0 x→∃u,H x=some u∧vf u)(rv:yh F (sub (fun x=>¬F.O0 x) H) vs as):
  M F (as.map some++List.replicate (N.length-as.length) none) (L2.start N vs) H:=by
 have hl:=rv.length
 have g:∀{i:Nat} {a:A},(as.map some++List.replicate (N.length-as.length) none)[i]?=some (some a)→as[i]?=some a:=fun {i a} h=>by
  rcases zB0 i as.length with z|z
  ·rw[zx5 (by rw[zs4];exact z),zu0,zv9] at h
   obtain⟨b,h1,h2⟩:=h
   cases h2;exact h1
  ·rw[zA2 (by rw[zs4];exact z),zz6] at h
   split at h<;>cases h
 have at':∀{vs:List V} {as:List A} {i:Nat} {a:A},yh F (sub (fun x=>¬F.O0 x) H) vs as→as[i]?=some a→∃v,vs[i]?=some v∧iw F (sub (fun x=>¬F.O0 x) H) v a:=by
  intro vs as i a h
  induction h generalizing i with
  |nil=>intro e;simp at e
  |cons h r ih=>
   intro e
   cases i with
   |zero=>simp at e;subst e;exact⟨_,rfl,h⟩
   |succ i=>obtain⟨v,h1,h2⟩:=ih (by simpa using e);exact⟨v,by simpa using h1,h2⟩
 have gv:∀{i:Nat} {v:V},vs[i]?=some v→(L2.start N vs)[i]?=some (some v):=fun {i v} h=>by
  have hi:i<vs.length:=(zt0.mp h).1
  unfold L2.start
  rw[zx5 (by rw[zs4];exact hi),zu0,h];rfl
 have no:∀(i:Nat) a,(as.map some++List.replicate (N.length-as.length) none)[i]?=some (some a)→(∃d,a=.dat d)∨a=.tape:=fun i a z=>by
  obtain⟨v,_,h⟩:=at' rv (g z)
  cases a with
  |dat d=>exact .inl ⟨d,rfl⟩
  |tape=>exact .inr rfl
  |_=>exact h.elim
 have gs:zy (sub (fun x=>¬F.O0 x) H) (Gz F (as.map some++List.replicate (N.length-as.length) none) (L2.start N vs) H):=zx fun a o h e=>⟨fun z=>z.elim h fun⟨i,b,s,e1,_,f⟩=>by
  rcases no i b e1 with ⟨d,rfl⟩|rfl
  ·exact f.elim
  ·exact f.elim,e⟩
 refine⟨by unfold L2.start;simp[hl],fun i a s e1 e2=>?_,fun i j a b s t x e1 _ _ _ f=>?_,fun i r q z=>(by rcases no i _ z with ⟨d,w⟩|w<;>cases w),t,fun x o' h _=>by rw[←e];exact h,o⟩
 ·obtain⟨v,h1,h2⟩:=at' rv (g e1)
  rw[gv h1] at e2;cases e2
  rcases no i a e1 with ⟨d,rfl⟩|rfl
  ·exact⟨v,rfl,AV.same gs h2⟩
  ·obtain⟨t',b,c,h3,rfl⟩:=h2
   exact⟨t',b,c,h3,rfl⟩
 ·rcases no i a e1 with ⟨d,rfl⟩|rfl
  ·exact f.elim
  ·exact f.elim
theorem fnA {x qual:Str}{st:Stmt}{f:Addr}{fd:FuncData}{N ps:List Str}{k:Nat}{φ:List A→(A→Prop)→Prop}(G:Fun K x qual st f fd)(S:zm N ps (zb st))(hlen:∀as Q,φ as Q→as.length=ps.length)
  (hbody:∀(cdv:Value) (A':Around) (outer:List Env) (s:Shared) (H:Hp) (E:XK) (as:List A) (Q:A→Prop),zP k (A'.deeper (envOfC qual (zb st) s.heap.objs.size f cdv))→φ as Q→
   SvS (vQ CX0 P w K mg base N qual (zb st) f cdv A' outer s H E).nox (as.map some++List.replicate (N.length-as.length) none) (zw st) {nx:=fun _=>Q (.dat .none),rt:=Q}):zB P w K mg base CX0 (k+1) f fd ps (spA φ):=by
 refine G.ok S (fun vs H Q E h=>?_) (fun cdv A' outer s H vs Qc E hr h=>?_)
 ·obtain⟨F,as,Q',_,_,_,rv,hφ,_⟩:=h
  rw[rv.length,hlen as _ hφ]
 ·obtain⟨F,as,Q',e,t,o,rv,hφ,kk⟩:=h
  refine hbody cdv A' outer s H E as Q' hr hφ F _ H _ (M.start e t o rv) ⟨fun α σ H' m q=>?_,fun a v H' r q=>kk a v H' q r,fun _ _ _ _ z=>z.elim,fun _ _ _ _ z=>z.elim⟩
  exact kk _ _ _ q ⟨m.tp,m.keep,.non⟩
end
section
variable {X:Cx}{pins:List (Addr×Obj)}{σ:St}{H:Hp}{s:Shared}{h':Heap}
theorem Inv.turnL {t':Nat}{ch:List Addr}(I:Inv X pins σ H s)(k:∀b o,b∉ch→s.heap.get? b=some o→h'.get? b=some o)(hf:∀b∈ch,xj X pins H b):Inv X pins σ H {s with heap:=h',toks:=t'}:=by
 have nit:∀b u,H b=some u→b∉ch:=fun b u e z=>by rw[(hf b z).1] at e;cases e
 refine I.step (g':=s.gens) (d':=s.drawn) (ch:=ch) (fun b hb=>?_) (fun b o _ _ hc e _=>k b o hc e) (fun b o _ _ hc e _=>⟨o.slots,k b o hc e⟩) (fun _ _ _ _ n=>n)
  (fun b o hc e=>⟨o,k b o hc e⟩) (fun _ _ e=>e) (fun _ _ _ e=>e) (fun b ps e=>⟨#[],by rw[e];simp⟩) (fun m hm=>?_) (fun b u e=>?_) I.bare
 ·obtain⟨_,f1,_,f3,f4,f5⟩:=hf b hb
  exact⟨f3,f1,f4,f5⟩
 ·obtain⟨o,es,ep,ho,r⟩:=hm
  exact⟨o,es,ep,k _ o (fun z=>(hf _ z).2.1 rfl) ho,r⟩
 ·refine (I.hok b u e).stay (fun c v hc q=>k c v ?_ q) (fun _ q=>q) fun _ _ q=>q
  rcases hc with z|z
  ·rw[z];exact nit b u e
  ·exact nit c _ z
theorem Inv.turnLay {t':Nat}{ch:List Addr}{T:Addr}{o:HO}(I:Inv X pins σ H s)(k:∀b o,b∉ch→s.heap.get? b=some o→h'.get? b=some o)(hf:∀b∈ch,xj X pins H b)(hT:s.heap.objs.size≤T)(new:zY X.prog X.w (upd H T o) h' T o):
  Inv X pins σ (upd H T o) {s with heap:=h',toks:=t'}:=by
 have nit:∀b u,H b=some u→b∉ch:=fun b u e z=>by rw[(hf b z).1] at e;cases e
 have hn:H T=none:=I.hok.fresh hT
 have lt:∀{b:Addr} {u:Obj},s.heap.get? b=some u→b≠T:=fun e=>zu4 (zu5 (zt3 e) hT)
 refine I.step (g':=s.gens) (d':=s.drawn) (ch:=ch) (fun b hb=>?_) (fun b o _ _ hc e _=>k b o hc e) (fun b o _ _ hc e _=>⟨o.slots,k b o hc e⟩) (fun b u _ e n=>by rw[zg (lt e)];exact n)
  (fun b o hc e=>⟨o,k b o hc e⟩) (fun b xs e=>by rw[zg (zk e hn)];exact e) (fun b u xs e=>by rw[zg (zk e hn)];exact e) (fun b ps e=>⟨#[],by rw[zg (zk e hn),e];simp⟩) (fun m hm=>?_) (fun b u e=>?_) I.bare
 ·obtain⟨_,f1,_,f3,f4,f5⟩:=hf b hb
  exact⟨f3,f1,f4,f5⟩
 ·obtain⟨o,es,ep,ho,r⟩:=hm
  exact⟨o,es,ep,k _ o (fun z=>(hf _ z).2.1 rfl) ho,r⟩
 ·by_cases hb:b=T
  ·subst hb;rw[zi] at e;cases e;exact new
  ·rw[zg hb] at e
   refine (I.hok b u e).stay (fun c v hc q=>k c v ?_ q) (fun c q=>by rw[zg (zk q hn)];exact q) fun c xs q=>by rw[zg (zk q hn)];exact q
   rcases hc with z|z
   ·rw[z];exact nit b u e
   ·exact nit c _ z
end
theorem zs2 {a b:Nat}(h:b<a):(a:Addr)≠b:=zA9 h
def Itz (K:PySem.W.Frag)(l1 l2:Addr):It:=
 ⟨fun i H=>∃xs ys x y,SqL K H l1 xs∧SqL K H l2 ys∧xs[i]?=some x∧ys[i]?=some y,
  fun i H v H'=>∃T x y,v=.ref T∧H T=none∧H'=upd H T (.tup [x,y])∧(∀xs,SqL K H l1 xs→xs[i]?=some x)∧∀ys,SqL K H l2 ys→ys[i]?=some y,
  fun i H=>∃xs ys,SqL K H l1 xs∧SqL K H l2 ys∧(xs.length≤i∨ys.length≤i)⟩
def Ite (K:PySem.W.Frag)(l:Addr):It:=
 ⟨fun i H=>∃xs x,SqL K H l xs∧xs[i]?=some x,
  fun i H v H'=>∃T x,v=.ref T∧H T=none∧H'=upd H T (.tup [.int i,x])∧∀xs,SqL K H l xs→xs[i]?=some x,
  fun i H=>∃xs,SqL K H l xs∧xs.length≤i⟩
theorem zn8 {P:Program}{w:World}{K:PySem.W.Frag}{elts:List Expr}{kk:Nat}{pos:Pos}{z TI TO i1 i2 l1 l2:Addr}(D:ZipApart z TI TO i1 i2 l1 l2):
  Turn P w K (.Tuple elts kk pos) (Itz K l1 l2) [z,TI,TO,i1,i2] z (fun i h=>IsZip h z TI TO .none∧IsPair h TI (.ref i1) (.ref i2)∧(∃a b,IsPair h TO a b)∧h.IsListIter i1 l1 i∧h.IsListIter i2 l2 i) where
 mem:=by simp
 obj:=fun i h st b hb=>by
  obtain⟨h1,h2,⟨a,c,h3⟩,⟨o1,e1,_,d1⟩,⟨o2,e2,_,d2⟩⟩:=st
  simp only[zs8,zt5,zv2] at hb
  rcases hb with rfl|rfl|rfl|rfl|rfl
  ·exact⟨_,h1,fun v z=>by cases (show Data.fields _=Data.cell v from z)⟩
  ·exact⟨_,h2,fun v z=>by cases (show Data.seq _ _=Data.cell v from z)⟩
  ·exact⟨_,h3,fun v z=>by cases (show Data.seq _ _=Data.cell v from z)⟩
  ·exact⟨o1,e1,fun v z=>by rw[d1] at z;cases z⟩
  ·exact⟨o2,e2,fun v z=>by rw[d2] at z;cases z⟩
 keep:=fun i h h' st k=>by
  obtain⟨h1,h2,⟨a,c,h3⟩,h4,h5⟩:=st
  exact⟨k z (by simp) _ h1,k TI (by simp) _ h2,⟨a,c,k TO (by simp) _ h3⟩,h4.at fun o e=>k i1 (by simp) o e,h5.at fun o e=>k i2 (by simp) o e⟩
 item:=by
  intro X hP hw hK hc i pins s σ H E I hf st hg
  subst hP hw hK
  obtain⟨xs,ys,x,y,hq1,hq2,hx,hy⟩:=hg
  obtain⟨its1,rv1,p1,hz1⟩:=I.list hq1
  obtain⟨its2,rv2,p2,hz2⟩:=I.list hq2
  obtain⟨u,hu,ru⟩:=rv1.get hx
  obtain⟨v,hv,rv⟩:=rv2.get hy
  obtain⟨h1,h2,⟨a,c,h3⟩,h4,h5⟩:=st
  refine wpAny_pyNext_zip_item D h1 h2 h3 h4 h5 p1.isList p2.isList (x:=u) (y:=v) (by simpa using hu) (by simpa using hv) fun h' a1 a2 a3 a4 a5 a6 hk=>⟨_,rfl,?_⟩
  refine wpAny_letOwnedTupleGo_zip (s:={s with heap:=h'}) a1 fun h'' b1 b2=>?_
  have hTz:s.heap.objs.size≠z:=zA9 (zt3 h1)
  have hk2:∀b o,b∉[z,TI,TO,i1,i2]→s.heap.get? b=some o→h''.get? b=some o:=fun b o hb e=>by
   simp only[zs8,zt5,zv2,not_or] at hb
   exact b2.extBut _ _ hb.1 (hk b o hb.1 hb.2.2.1 hb.2.2.2.1 hb.2.2.2.2 e)
  have gT:h''.get? s.heap.objs.size=some {cls:=.type "tuple",data:=.seq #[u,v]}:=b2.extBut _ _ hTz a5
  have J:=I.turnLay (t':=s.toks) (T:=s.heap.objs.size) (o:=.tup [x,y]) hk2 hf (zs9 _) ⟨by show 2≤sizeLine;decide,[u,v],.cons ru (.cons rv .nil),_,gT,rfl,0,rfl⟩
  refine⟨.ref s.heap.objs.size,_,J,rfl,⟨_,x,y,rfl,I.hok.fresh (zs9 _),rfl,fun zs hz=>by rw[I.list_inj hz hq1];exact hx,fun zs hz=>by rw[I.list_inj hz hq2];exact hy⟩,⟨b1,b2.extBut _ _ D.TIz (hk _ _ D.TIz D.TITO D.TIi1 D.TIi2 h2),⟨u,v,b2.extBut _ _ D.TOz a2⟩,a3.extBut b2.extBut D.i1z,a4.extBut b2.extBut D.i2z⟩,fun b hb=>?_⟩
  rw[zg]
  ·exact (hf b hb).1
  ·obtain⟨o,e,_⟩:=(show ∃o,s.heap.get? b=some o∧True from by
    simp only[zs8,zt5,zv2] at hb
    obtain⟨o1,e1,_⟩:=h4
    obtain⟨o2,e2,_⟩:=h5
    rcases hb with rfl|rfl|rfl|rfl|rfl
    ·exact⟨_,h1,trivial⟩
    ·exact⟨_,h2,trivial⟩
    ·exact⟨_,h3,trivial⟩
    ·exact⟨_,e1,trivial⟩
    ·exact⟨_,e2,trivial⟩)
   exact zu4 (zt3 e)
 done:=by
  intro X hP hw hK hc i pins s σ H E I hf st hg
  subst hP hw hK
  obtain⟨xs,ys,hq1,hq2,hl⟩:=hg
  obtain⟨its1,rv1,p1,hz1⟩:=I.list hq1
  obtain⟨its2,rv2,p2,hz2⟩:=I.list hq2
  obtain⟨h1,h2,⟨a,c,h3⟩,h4,h5⟩:=st
  have e1:=rv1.length
  have e2:=rv2.length
  refine wpAny_pyNext_zip_end (I.ok.hd hc) D h1 h2 h3 h4 h5 p1.isList p2.isList (hl.imp (fun z=>by simp;omega) fun z=>by simp;omega) fun h' hk=>⟨rfl,?_⟩
  exact I.turnL (t':=s.toks) (ch:=[z,TI,TO,i1,i2]) (fun b o hb e=>by
   simp only[zs8,zt5,zv2,not_or] at hb
   exact hk b o hb.1 hb.2.2.1 hb.2.2.2.1 hb.2.2.2.2 e) hf
 self:=fun A i s Q E st h=>wpAny_pyIter_zip st.1 h
theorem jt {P:Program}{w:World}{K:PySem.W.Frag}{elts:List Expr}{kk:Nat}{pos:Pos}{e it l:Addr}(hne:e≠it):
  Turn P w K (.Tuple elts kk pos) (Ite K l) [e,it] e (fun i h=>(∃old,IsEnum h e it i old)∧h.IsListIter it l i) where
 mem:=by simp
 obj:=fun i h st b hb=>by
  obtain⟨⟨old,h1⟩,⟨o1,e1,_,d1⟩⟩:=st
  simp only[zs8,zt5,zv2] at hb
  rcases hb with rfl|rfl
  ·exact⟨_,h1,fun v z=>by cases (show Data.fields _=Data.cell v from z)⟩
  ·exact⟨o1,e1,fun v z=>by rw[d1] at z;cases z⟩
 keep:=fun i h h' st k=>by
  obtain⟨⟨old,h1⟩,h4⟩:=st
  exact⟨⟨old,k e (by simp) _ h1⟩,h4.at fun o q=>k it (by simp) o q⟩
 item:=by
  intro X hP hw hK hc i pins s σ H E I hf st hg
  subst hP hw hK
  obtain⟨xs,x,hq1,hx⟩:=hg
  obtain⟨its1,rv1,p1,hz1⟩:=I.list hq1
  obtain⟨u,hu,ru⟩:=rv1.get hx
  obtain⟨⟨old,h1⟩,h4⟩:=st
  refine wpAny_pyNext_enum_item h1 h4 p1.isList (x:=u) (by simpa using hu) hne fun h' a1 a3 a5 a6 hk=>⟨_,rfl,?_⟩
  refine wpAny_letOwnedTupleGo_enum (s:={s with heap:=h',toks:=s.toks+1}) a1 fun h'' b1 b2=>?_
  have hTz:s.heap.objs.size≠e:=zA9 (zt3 h1)
  have hk2:∀b o,b∉[e,it]→s.heap.get? b=some o→h''.get? b=some o:=fun b o hb q=>by
   simp only[zs8,zt5,zv2,not_or] at hb
   exact b2.extBut _ _ hb.1 (hk b o hb.1 hb.2 q)
  have gT:h''.get? s.heap.objs.size=some {cls:=.type "tuple",data:=.seq #[.int i s.toks,u]}:=b2.extBut _ _ hTz a5
  have J:=I.turnLay (t':=s.toks+1) (T:=s.heap.objs.size) (o:=.tup [.int i,x]) hk2 hf (zs9 _) ⟨by show 2≤sizeLine;decide,[.int i s.toks,u],.cons ⟨_,rfl⟩ (.cons ru .nil),_,gT,rfl,0,rfl⟩
  refine⟨.ref s.heap.objs.size,_,J,rfl,⟨_,x,rfl,I.hok.fresh (zs9 _),rfl,fun zs hz=>by rw[I.list_inj hz hq1];exact hx⟩,⟨⟨u,by simpa using b1⟩,a3.extBut b2.extBut hne.symm⟩,fun b hb=>?_⟩
  rw[zg]
  ·exact (hf b hb).1
  ·obtain⟨o,q,_⟩:=(show ∃o,s.heap.get? b=some o∧True from by
    simp only[zs8,zt5,zv2] at hb
    obtain⟨o1,e1,_⟩:=h4
    rcases hb with rfl|rfl
    ·exact⟨_,h1,trivial⟩
    ·exact⟨_,e1,trivial⟩)
   exact zu4 (zt3 q)
 done:=by
  intro X hP hw hK hc i pins s σ H E I hf st hg
  subst hP hw hK
  obtain⟨xs,hq1,hl⟩:=hg
  obtain⟨its1,rv1,p1,hz1⟩:=I.list hq1
  obtain⟨⟨old,h1⟩,h4⟩:=st
  have e1:=rv1.length
  refine wpAny_pyNext_enum_end (I.ok.hd hc) h1 h4 p1.isList (by simp;omega) fun h' hk=>⟨rfl,?_⟩
  exact I.turnL (t':=s.toks) (ch:=[e,it]) (fun b o hb q=>by
   simp only[zs8,zt5,zv2,not_or] at hb
   exact hk b o hb.2 q) hf
 self:=fun A i s Q E st h=>by
  obtain⟨⟨old,h1⟩,h4⟩:=st
  exact wpAny_pyIter_enum h1 h
section
variable {X:Cx}{α:Ev}{elts:List Expr}{kk:Nat}{tp p pos:Pos}{a b:Expr}
def zo6 (K:PySem.W.Frag)(ta:TA):TI:=fun σ H R=>ta σ H fun vs H1=>∃l,vs=[.ref l]∧(∃xs,SqL K H1 l xs)∧R (Ite K l) H1
theorem cT {ta:TA}(hg:Gl X "enumerate")(hm:X.mg "enumerate"=none)(ha:PA X [a] ta)(hs:starEach [a] X.env=[(false,eval a X.env)]:=by rfl):
  PI X (.Tuple elts kk tp) (.Call (.Name "enumerate" p) [a] [] pos) (zo6 X.K ta):=by
 intro pins s σ H R I h
 refine Call_ (wF I hg hm boot_enumerate (zx1 (thn (ha pos pins s σ H _ I h) fun us s1 ⟨vs,H1,I1,r1,q1⟩=>?_) hs rfl))
 obtain⟨l1,e,⟨xs,hq1⟩,q⟩:=q1
 subst e
 obtain⟨u,rfl,ru⟩:=Vals.one r1
 cases (show u=Value.ref l1 from ru)
 obtain⟨its1,rv1,p1,hz1⟩:=I1.list hq1
 refine call_enumerate_list p1.isList fun h' z1 z4 z6 hk=>?_
 refine wpAny_pyIter_enum (s:={s1 with heap:=h'}) z1 ?_
 refine⟨_,_,_,_,H1,rfl,I1.kept (t':=s1.toks) fun b o e=>hk b o e,jt (zs2 (a:=s1.heap.objs.size+1) (b:=s1.heap.objs.size) (zC5 _)),⟨⟨_,z1⟩,z4⟩,fun b hb=>?_,q⟩
 simp only[zs8,zt5,zv2] at hb
 have hb':s1.heap.objs.size≤b:=by
  have key:∀n b:Nat,n=s1.heap.objs.size→(b=n+1∨b=n)→n≤b:=fun n b _ h=>by omega
  exact key _ _ rfl hb
 exact I1.fpOk hb' (I1.hok.fresh hb')
def uT (n:Nat):List PyData→List PyData
 |[]=>[]
 |d::ds=>.tuple [.int n,d]::uT (n+1) ds
theorem vp :∀{ds:List PyData} {n i:Nat} {d:PyData},(uT n ds)[i]?=some d→∃e,ds[i]?=some e∧d=.tuple [.int ((n+i:Nat):Int),e]
 |[],n,i,d,h=>by simp[uT] at h
 |e::ds,n,0,d,h=>by simp[uT] at h;exact⟨e,rfl,by simp[←h]⟩
 |e::ds,n,i+1,d,h=>by
  simp only[uT,zE3] at h
  obtain⟨e',h1,h2⟩:=vp h
  exact⟨e',by simpa using h1,by rw[h2,Nat.add_assoc,Nat.add_comm 1 i]⟩
theorem vm :∀(ds:List PyData) (n:Nat),(uT n ds).length=ds.length
 |[],_=>rfl
 |_::ds,n=>by simp[uT,vm ds (n+1)]
theorem kO {Q:List PyData→Prop}(hg:Gl X "enumerate")(hm:X.mg "enumerate"=none)(h:EvD X α a fun x=>∃ds,x=.list ds∧Q (uT 0 ds))(hs:starEach [a] X.env=[(false,eval a X.env)]:=by rfl):
  EvI X α (.Tuple elts kk tp) (.Call (.Name "enumerate" p) [a] [] pos) Q:=fun F σ H R m k=>by
 refine⟨_,cT hg hm (zc zq zt hs) hs,?_⟩
 refine h F σ H _ m fun x vx H1 q1 t1 k1 r1=>?_
 obtain⟨ds,rfl,q⟩:=q1
 obtain⟨l1,xs,rfl,g1,g2⟩:=r1.lst_inv
 refine⟨l1,rfl,⟨xs,SqL.of (zl g1).2⟩,k _ _ H1 q t1 k1 fun i H3 p s=>⟨fun d hd=>?_,fun hl=>?_⟩⟩
 ·have s1:=SqL.of (K:=X.K) (zl (s _ _ g1)).2
  obtain⟨e,he,rfl⟩:=vp hd
  obtain⟨x1,hx1,av1⟩:=g2.get he
  refine⟨⟨xs,x1,s1,hx1⟩,fun v H4 y=>?_⟩
  obtain⟨T,x,rfl,hT,rfl,hx⟩:=y
  have hx:=hx _ s1
  rw[hx1] at hx;cases hx
  refine⟨yw hT,fun fr=>?_⟩
  have gs:zy (Gz F α σ H1) (sub p (upd H3 T (.tup [.int i,x1]))):=fun a o e=>by
   obtain⟨z1,z2⟩:=zl (s a o e)
   exact yc z1 (by rw[zg (zk z2 hT)];exact z2)
  refine .tup (yc (fr T _ zi hT) zi) (.cons ?_ (.cons (av1.same gs) .nil))
  rw[Nat.zero_add]
  exact .int _
 ·refine⟨xs,SqL.of (zl (s _ _ g1)).2,?_⟩
  rw[vm,←g2.length] at hl
  exact hl
end
structure Cal (P:Program)(w:World)(K:PySem.W.Frag)(mg:Str→Option Value)(base:Heap)(x:Str)(k:Nat)(φ:List A→(A→Prop)→Prop):Prop where
 ex:∃f fd ps,mg x=some (.ref f)∧PySem.W.keepIn K (.ref f)=true∧Binds K fd ps []∧zB P w K mg base CX0 k f fd ps (spA φ)
section
variable {X:Cx}{α:Ev}{e a b:Expr}{es:List Expr}{pos p:Pos}{Q:PyData→Prop}{k:Nat}{φ:List A→(A→Prop)→Prop}{x:Str}
theorem yk (C:Cal X.prog X.w X.K X.mg X.base x k φ)(hr:zP k X.A)(hg:Gl X x)(h:EvA X α (e::es) fun as=>φ as fun a=>Q a.d)
  (hdb:(x == ("__debug__":Str))=false:=by decide) (he:starEach (e::es) X.env=(false,eval e X.env)::starEach es X.env:=by rfl) (hpl:(backTo pos (starEach es X.env)).any (·.1)=false:=by rfl):EvD X α (.Call (.Name x p) (e::es) [] pos) Q:=by
 obtain⟨f,fd,ps,h1,h2,h3,h4⟩:=C.ex
 exact ba h4 hr hg h1 h2 h3 h hdb he hpl
theorem wo {Q:List PyData→Prop}(C:Cal X.prog X.w X.K X.mg X.base x k φ)(hr:zP k X.A)(hg:Gl X x)(h:EvA X α (e::es) fun as=>φ as fun a=>∃ds,a=.own ds∧Q ds)
  (hdb:(x == ("__debug__":Str))=false:=by decide) (he:starEach (e::es) X.env=(false,eval e X.env)::starEach es X.env:=by rfl) (hpl:(backTo pos (starEach es X.env)).any (·.1)=false:=by rfl):EvL X α (.Call (.Name x p) (e::es) [] pos) Q:=by
 obtain⟨f,fd,ps,h1,h2,h3,h4⟩:=C.ex
 exact bF h4 hr hg h1 h2 h3 h hdb he hpl
end
section
variable {P:Program}{w:World}{K:PySem.W.Frag}{mg:Str→Option Value}{base:Heap}
theorem wJ {x qual:Str}{st:Stmt}{f:Addr}{fd:FuncData}{N ps:List Str}{k:Nat}{φ:List A→(A→Prop)→Prop}(G:Fun K x qual st f fd)(hm:mg x=some (.ref f))(hb:Binds K fd ps [])(S:zm N ps (zb st))(hlen:∀as Q,φ as Q→as.length=ps.length)
  (hbody:∀(cdv:Value) (A':Around) (outer:List Env) (s:Shared) (H:Hp) (E:XK) (as:List A) (Q:A→Prop),zP k (A'.deeper (envOfC qual (zb st) s.heap.objs.size f cdv))→φ as Q→
   SvS (vQ CX0 P w K mg base N qual (zb st) f cdv A' outer s H E).nox (as.map some++List.replicate (N.length-as.length) none) (zw st) {nx:=fun _=>Q (.dat .none),rt:=Q}):Cal P w K mg base x (k+1) φ:=
 ⟨f,fd,ps,hm,G.kp,hb,fnA G S hlen hbody⟩
theorem Cal.imp {x:Str}{k:Nat}{φ φ':List A→(A→Prop)→Prop}(C:Cal P w K mg base x k φ)(h:∀as Q,φ' as Q→φ as Q):Cal P w K mg base x k φ':=by
 obtain⟨f,fd,ps,h1,h2,h3,h4⟩:=C.ex
 exact⟨f,fd,ps,h1,h2,h3,h4.imp fun vs H Q E ⟨F,as,Q',a,b,c,d,e,g⟩=>⟨F,as,Q',a,b,c,d,h _ _ e,g⟩⟩
def xt :List A→(A→Prop)→Prop:=fun as Q=>∃n:Int,as=[.tape,.dat (.int n)]∧0<n∧n<big∧∀v,0≤v→v<n→Q (.dat (.int v))
theorem gS {f:Addr}{fd:FuncData}{x:Str}(hm:mg x=some (.ref f))(hk:PySem.W.keepIn K (.ref f)=true)(hb:Binds K fd ["_law_tape_here","_law_many"] [])(G:zB P w K mg base CX0 1 f fd ["_law_tape_here","_law_many"] fJ):Cal P w K mg base x 1 xt:=by
 refine⟨f,fd,_,hm,hk,hb,G.imp fun vs H Q E h=>?_⟩
 obtain⟨F,as,Q',rfl,t,o,rv,⟨n,rfl,h0,h1,hq⟩,kk⟩:=h
 cases rv with
 |cons a1 r=>
  obtain⟨ta,b,c,e,rfl⟩:=a1
  obtain⟨v,rfl,av⟩:=r.one
  cases av.int_inv
  refine⟨ta,b,c,n,rfl,(t ta b c e).1,h0,h1,fun z H' z0 z1 TA off=>kk _ _ _ (hq z z0 z1) ⟨⟨(by
   obtain⟨_,_,_,_,e1,e2,_⟩:=(t ta b c e).1.ex
   exact bQ t.tab e1 e2 off),t.ot,fun t' b' c' e'=>?_⟩,fun y u hy n=>?_,.int z⟩⟩
  ·rw[e] at e';cases e'
   exact⟨TA,(t ta b c e).2⟩
  ·rw[off y (n.1 _ _ _ e).1 (n.1 _ _ _ e).2];exact hy
theorem M.tape {H:Hp}{t b c:Addr}{α:Ev}{σ:St}(T:yD H t b c)(TB:TabAt H)(hl:α.length=σ.length)(h:∀(i:Nat) a,α[i]?=some (some a)→a=.tape∧σ[i]?=some (some (.ref t))):M ⟨H,fun x=>x=t∨x=b∨x=c∨tH x,some (t,b,c)⟩ α σ H:=by
 refine⟨hl,fun i a s e1 e2=>?_,fun i j a b s u x e1 _ _ _ f=>?_,fun i r q e=>?_,⟨TB,fun x z=>.inr (.inr (.inr z)),fun t' b' c' e=>?_⟩,fun _ _ e _=>e,fun x hx=>?_⟩
 ·obtain⟨rfl,z⟩:=h i a e1
  rw[z] at e2;cases e2
  exact⟨t,b,c,rfl,rfl⟩
 ·obtain⟨rfl,_⟩:=h i a e1
  exact f.elim
 ·cases (h i _ e).1
 ·cases e
  exact⟨T,.inl rfl,.inr (.inl rfl),.inr (.inr (.inl rfl))⟩
 ·obtain⟨n,bs,cs,_,e1,e2,e3,_⟩:=T.ex
  rcases hx with rfl|rfl|rfl|z
  ·exact⟨_,e1,yU⟩
  ·exact⟨_,e2,yU⟩
  ·exact⟨_,e3,yU⟩
  ·obtain⟨o,h1,h2,_⟩:=qI TB z
   exact⟨o,h1,h2⟩
theorem zp6 {st:Stmt}{f fT:Addr}{fd fdT:FuncData}{N':List Str}{k:Nat}{p1 p2 p3 p4 p5:Pos}{rest:List Stmt}(G:Fun K "law" "law" st f fd)(S:zm ("_law_script"::"_law_tape_here"::N') ["_law_script"] (zb st))
  (GT:zB P w K mg base CX0 1 fT fdT ["_law_script"] (lg K)) (mT:mg "_law_tape"=some (.ref fT)) (kT:PySem.W.keepIn K (.ref fT)=true) (bT:Binds K fdT ["_law_script"] [])
  (hb:zw st=.Assign [.Name "_law_tape_here" p1] (.Call (.Name "_law_tape" p2) [.Name "_law_script" p3] [] p4) p5::rest) (hgl:(zb st).names.lookup ("_law_tape":Str)=some .globalImplicit) (hl:Loc (zb st) "_law_tape_here") (hv:Vis (zb st) "_law_script")
  (hbody:∀(cdv:Value) (A':Around) (outer:List Env) (s:Shared) (H:Hp) (E:XK),zP (k+1) (A'.deeper (envOfC "law" (zb st) s.heap.objs.size f cdv))→
   SvS (vQ CX0 P w K mg base ("_law_script"::"_law_tape_here"::N') "law" (zb st) f cdv A' outer s H E).nox (none::some .tape::List.replicate N'.length none) rest {nx:=fun _=>False,rt:=fun a=>a=.dat (.bool true)}):
  zB P w K mg base CX0 (k+1+1) f fd ["_law_script"] (oe K):=by
 refine G.ok S (fun vs H Q E h=>?_) (fun cdv A' outer s H vs Qc E hr h=>?_)
 ·obtain⟨a,ns,rfl,_⟩:=h
  rfl
 ·obtain⟨a,ns,rfl,hS,hn,tb,kk⟩:=h
  rw[hb]
  refine zU (fun σ H1=>∃t b c,yD H1 t b c∧TabAt H1∧σ=some (.ref a)::some (.ref t)::List.replicate N'.length none)
   ⟨_,va (i:=1) S.nd rfl hl (zQ GT (hr.mono (by omega)) hgl mT kT bT .nil zZ (zc (xq (i:=0) rfl hv) zt)) (hf:=.inl rfl),?_⟩ ?_
  ·refine⟨.ref a,rfl,a,ns,rfl,hS,hn,fun t b c H' T _ _ _ sm=>⟨t,b,c,T,df tb sm,?_⟩⟩
   show ((L2.start ("_law_script"::"_law_tape_here"::N') [.ref a]).set 1 (some (.ref t)))=_
   unfold L2.start
   simp[List.replicate_succ]
  ·rintro σ H1 ⟨t,b,c,T,TB,rfl⟩
   refine hbody cdv A' outer s H E hr ⟨H1,fun x=>x=t∨x=b∨x=c∨tH x,some (t,b,c)⟩ _ H1 _ (M.tape T TB (by simp) fun i z e=>?_) ⟨fun _ _ _ _ z=>z.elim,fun z v H' r e=>?_,fun _ _ _ _ z=>z.elim,fun _ _ _ _ z=>z.elim⟩
   ·cases i with
    |zero=>simp at e
    |succ i=>
     cases i with
     |zero=>simp at e;subst e;exact⟨rfl,rfl⟩
     |succ i=>
      simp only[zE3,zz6] at e
      split at e<;>cases e
   ·cases e
    obtain⟨_,_,r⟩:=r
    rw[AV.bl_inv r]
    exact kk H'
end
section
variable {Y:Addr→Shared→Hp→List Addr→Cx}{pat:Pat}{ifs:List Expr}{elt:Expr}{α0:Ev}
theorem jr {ds acc:List PyData}{Q:List PyData→Prop}(P:Nat→List PyData→Prop)(h0:P 0 acc)
  (hs:∀i d acc,ds[i]?=some d→P i acc→∃α1,pat.bind d α0=some α1∧∀C s2 H2 fp,ir (Y C s2 H2 fp) α1 ifs fun k=>if k=true then ∀C s2 H2 fp,EvD (Y C s2 H2 fp) α1 elt fun y=>P (i+1) (acc++[y]) else P (i+1) acc)
  (hd:∀acc,P ds.length acc→Q acc):xu Y pat ifs elt α0 ds acc Q:=by
 have key:∀n i acc,n=ds.length-i→i≤ds.length→P i acc→xu Y pat ifs elt α0 (ds.drop i) acc Q:=by
  intro n
  induction n with
  |zero=>
   intro i acc hn hi p
   have e:i=ds.length:=by omega
   subst e
   rw[zF4]
   exact hd acc p
  |succ n ih=>
   intro i acc hn hi p
   have hlt:i<ds.length:=by omega
   rw[zA5 hlt]
   obtain⟨α1,e,b⟩:=hs i ds[i] acc (zs6 hlt) p
   refine⟨α1,e,fun C s2 H2 fp F σ H R m kk=>b C s2 H2 fp F σ H R m fun k H' q=>kk k H' ?_⟩
   cases k with
   |true=>
    rw[if_pos rfl] at q ⊢
    exact fun C s2 H2 fp=>(q C s2 H2 fp).imp fun y p=>ih (i+1) _ (by omega) hlt p
   |false=>
    rw[if_neg (by decide)] at q ⊢
    exact ih (i+1) _ (by omega) hlt q
 exact key _ 0 acc rfl (zt6 _) h0
theorem vM {ds acc:List PyData}{Q:List PyData→Prop}(p:PyData→Bool)(f:PyData→PyData)
  (hs:∀d∈ds,∃α1,pat.bind d α0=some α1∧(∀C s2 H2 fp (Q:Bool→Prop),Q (p d)→ir (Y C s2 H2 fp) α1 ifs Q)∧(p d=true→∀C s2 H2 fp (Q:PyData→Prop),Q (f d)→EvD (Y C s2 H2 fp) α1 elt Q))
  (hd:Q (acc++(ds.filter p).map f)):xu Y pat ifs elt α0 ds acc Q:=by
 induction ds generalizing acc with
 |nil=>
  show Q acc
  simpa using hd
 |cons d ds ih=>
  obtain⟨α1,e,h1,h2⟩:=hs d zt7
  refine⟨α1,e,fun C s2 H2 fp=>h1 C s2 H2 fp _ ?_⟩
  have ih':=fun acc=>ih (acc:=acc) fun d hd=>hs d (zt4 _ hd)
  cases hp:p d with
  |true=>
   rw[if_pos rfl]
   refine fun C s2 H2 fp=>h2 hp C s2 H2 fp _ (ih' _ ?_)
   simpa[zB1,hp] using hd
  |false=>
   rw[if_neg (by decide)]
   refine ih' _ ?_
   simpa[zB1,hp] using hd
end
theorem oP {ds:List PyData}{v:Int}(h0:0≤v)(h1:v<ds.length):∃d,d∈ds∧atI ds v=some d:=by
 obtain⟨j,rfl⟩:=zB4 h0
 have hj:j<ds.length:=by omega
 exact⟨ds[j],zB2 hj,yY (zs6 hj)⟩
theorem lh (st:Stmt)(env:Env):execs [st] env=exec st env:=by
 rw[PySem.execs_cons]
 have:(fun f:Flow=>(match f with|.next=>execs [] env|f=>pure f:Sem Flow))=pure:=by
  funext f
  cases f<;>rfl
 exact (congrArg (fun g=>exec st env >>= g) this).trans (bind_pure _)
section
variable {X:Cx}{α:Ev}{e a b c:Expr}{es rest:List Expr}{pos p:Pos}{Q:PyData→Prop}{E:wa}{st:Stmt}{sts sts':List Stmt}
theorem wM (P:Ev→Prop)(h1:SvS X α [st] {E with nx:=P})(h2:∀α',P α'→SvS X α' sts E):SvS X α (st::sts) E:=fun F σ H D m r=>by
 refine zU (fun σ' H'=>∃α',M F α' σ' H'∧P α') ?_ ?_
 ·obtain⟨t,p,q⟩:=h1 F σ H {D with nx:=fun σ' H'=>∃α',M F α' σ' H'∧P α'} m ⟨fun α' σ' H' m' z=>⟨α',m',z⟩,r.rt,r.bk,r.ct⟩
  exact⟨t,fun pins s σ H D I h=>(by
   have:=p pins s σ H D I h
   rw[lh] at this
   exact this),q⟩
 ·rintro σ' H' ⟨α',m',z⟩
  exact h2 α' z F σ' H' D m' r
theorem eM {c:Prop}[Decidable c]{a b:List Stmt}(h1:c→SvS X α a E)(h2:¬c→SvS X α b E):SvS X α (if decide c=true then a else b) E:=by
 by_cases h:c
 ·rw[zy0 h];exact h1 h
 ·rw[zv5 h];exact h2 h
theorem yB {k:Bool}{a b:List Stmt}(h1:k=true→SvS X α a E)(h2:k=false→SvS X α b E):SvS X α (if k=true then a else b) E:=by
 cases k with
 |true=>exact h1 rfl
 |false=>exact h2 rfl
theorem ke {i j:Int}:Cmp rEq (.int i) (.int j) (decide (i=j)):=fun p H vx vy R rx ry h=>by
 cases rx.int_inv;cases ry.int_inv
 refine⟨rfl,?_⟩
 rw[show decide (V.int i=V.int j)=decide (i=j) by simp]
 exact h
theorem aj {i j:Int}:Cmp rNe (.int i) (.int j) (!decide (i=j)):=fun p H vx vy R rx ry h=>by
 cases rx.int_inv;cases ry.int_inv
 refine⟨rfl,?_⟩
 rw[show decide (V.int i=V.int j)=decide (i=j) by simp]
 exact h
theorem km {i j:Str}:Cmp rEq (.str i) (.str j) (decide (i=j)):=fun p H vx vy R rx ry h=>by
 cases rx.str_inv;cases ry.str_inv
 refine⟨rfl,?_⟩
 rw[show decide (V.str i=V.str j)=decide (i=j) by simp]
 exact h
theorem za9 {op:CmpOp}{r:R2}(ho:OpR X (compareOp op) r)(hm:behindInMarks op b=false)(h:EvD X α a fun x=>EvD X α b fun y=>∃k,Cmp r x y k∧Q (.bool k)):EvD X α (.Compare a [op] [b] pos) Q:=fun F σ H R m k=>by
 refine⟨_,xE ho zq zq hm,?_⟩
 refine h F σ H _ m fun x vx H1 q1 t1 k1 r1=>?_
 have m1:=m.kz k1 t1
 refine q1 F σ H1 _ m1 fun y vy H2 q2 t2 k2 r2=>?_
 obtain⟨b,hc,q⟩:=q2
 exact hc _ H2 vx vy _ (r1.same (k2.gz m1.tp)) r2 (k _ _ H2 q t2 (k1.trans k2) (.bl b))
theorem zb5 {Q:Bool→Prop}(h:EvD X α a fun x=>EvD X α b fun y=>∃i j,x=.int i∧y=.int j∧Q (decide (i=j))):EvT X α (.Compare a [.Eq] [b] pos) Q:=
 wO wG (zD _) (h.imp fun x h=>h.imp fun y ⟨i,j,e1,e2,q⟩=>⟨_,by subst e1 e2;exact ke,q⟩)
theorem ze0 {Q:Bool→Prop}(h:EvD X α a fun x=>EvD X α b fun y=>∃i j,x=.str i∧y=.str j∧Q (decide (i=j))):EvT X α (.Compare a [.Eq] [b] pos) Q:=
 wO wG (zD _) (h.imp fun x h=>h.imp fun y ⟨i,j,e1,e2,q⟩=>⟨_,by subst e1 e2;exact km,q⟩)
theorem cY {p q:Bool}{Q:Bool→Prop}(ha:∀Q:Bool→Prop,Q p→EvT X α a Q)(hb:p=true→∀Q:Bool→Prop,Q q→EvW X α (.BoolOp .And (b::rest) pos) Q)(k:Q (p&&q)):EvW X α (.BoolOp .And (a::b::rest) pos) Q:=by
 refine iY (ha _ ?_)
 cases p with
 |true=>rw[if_pos rfl];exact hb rfl _ (by simpa using k)
 |false=>rw[if_neg (by decide)];simpa using k
end
structure NbT (mg:Str→Option Value):Prop where
 abs:mg "abs"=none
 list:mg "list"=none
 len:mg "len"=none
 range:mg "range"=none
 min:mg "min"=none
 max:mg "max"=none
 sorted:mg "sorted"=none
 isinstance:mg "isinstance"=none
 int:mg "int"=none
 bool:mg "bool"=none
 str:mg "str"=none
 tuple:mg "tuple"=none
 all:mg "all"=none
 any:mg "any"=none
 repr:mg "repr"=none
 zip:mg "zip"=none
 enumerate:mg "enumerate"=none
 reversed:mg "reversed"=none
 sum:mg "sum"=none
theorem wY {X:Cx}{K:PySem.W.Frag}{es:List Expr}{k:Nat}{t:TGs}{n:Nat}{pos:Pos}(hK:X.K=K)(hc:X.calm=true)(h:PGs X es t)
  (hn:(assignEach es X.env).length=n:=by rfl) (hst:(assignEach es X.env).findIdx? (·.1)=none:=by rfl):PG X (.Tuple es k pos) (zb6 K n t):=by
 subst hK
 exact zb7 hc h hn hst
end L2
namespace SortA
open PySem PySem.W PyProof.Rows
def run {α:Type}(lt:Nat→Nat→Bool):KasT α→α
 |.ret a=>a
 |.ask i j k=>run lt (k (lt i j))
theorem run_bind {α β:Type}(lt:Nat→Nat→Bool)(f:α→KasT β):∀t:KasT α,run lt (t.bind f)=run lt (f (run lt t))
 |.ret _=>rfl
 |.ask i j k=>run_bind lt f (k (lt i j))
structure Ord (lt:Nat→Nat→Bool):Prop where
 irr:∀a,lt a a=false
 tr:∀a b c,lt b a=false→lt c b=false→lt c a=false
 asy:∀a b,lt a b=true→lt b a=false
abbrev g (p:Array Nat)(i:Nat):Nat:=p.getD i 0
def Up (lt:Nat→Nat→Bool)(p:Array Nat)(m:Nat):Prop:=∀i j,i≤j→j<m→lt (g p j) (g p i)=false
def Down (lt:Nat→Nat→Bool)(p:Array Nat)(m:Nat):Prop:=∀i j,i≤j→j<m→lt (g p i) (g p j)=false
theorem eA {p q:Array Nat}{i j:Nat}(h:p[i]?=q[j]?):g p i=g q j:=by
 unfold g
 rw[Array.getD_eq_getD_getElem?,Array.getD_eq_getD_getElem?,h]
variable {lt:Nat→Nat→Bool}
theorem Up.succ (O:Ord lt){p:Array Nat}{m:Nat}(h:Up lt p m)(hm:0<m)(e:lt (g p m) (g p (m-1))=false):Up lt p (m+1):=fun i j hij hj=>by
 by_cases e1:j<m
 ·exact h i j hij e1
 ·have ej:j=m:=by omega
  subst ej
  by_cases e2:i=j
  ·subst e2;exact O.irr _
  ·exact O.tr _ _ _ (h i (j-1) (by omega) (by omega)) e
theorem Down.succ (O:Ord lt){p:Array Nat}{m:Nat}(h:Down lt p m)(hm:0<m)(e:lt (g p (m-1)) (g p m)=false):Down lt p (m+1):=fun i j hij hj=>by
 by_cases e1:j<m
 ·exact h i j hij e1
 ·have ej:j=m:=by omega
  subst ej
  by_cases e2:i=j
  ·subst e2;exact O.irr _
  ·exact O.tr _ _ _ e (h i (j-1) (by omega) (by omega))
theorem zg2 (O:Ord lt)(p:Array Nat):Up lt p 1:=fun i j hij hj=>by
 have e1:i=0:=by omega
 have e2:j=0:=by omega
 rw[e1,e2];exact O.irr _
theorem nY (O:Ord lt)(p:Array Nat):∀(f n:Nat),0<n→Up lt p n→n≤run lt (kas_asc p f n)∧run lt (kas_asc p f n)≤n+f∧Up lt p (run lt (kas_asc p f n))∧
  (run lt (kas_asc p f n)<n+f→lt (g p (run lt (kas_asc p f n))) (g p (run lt (kas_asc p f n)-1))=true)
 |0,n,_,h=>⟨zs9 _,zs9 _,h,fun z=>absurd z (zy7 _)⟩
 |f+1,n,hn,h=>by
  show n≤run lt ((fun c=>if c=true then KasT.ret n else kas_asc p f (n+1)) (lt (p.getD n 0) (p.getD (n-1) 0)))∧_
  cases e:lt (p.getD n 0) (p.getD (n-1) 0) with
  |true=>
   have er:run lt (kas_asc p (f+1) n)=n:=by
    show run lt ((fun c=>if c=true then KasT.ret n else kas_asc p f (n+1)) (lt (p.getD n 0) (p.getD (n-1) 0)))=n
    rw[e];rfl
   rw[er]
   exact⟨zs9 _,by omega,h,fun _=>e⟩
  |false=>
   have er:run lt (kas_asc p (f+1) n)=run lt (kas_asc p f (n+1)):=by
    show run lt ((fun c=>if c=true then KasT.ret n else kas_asc p f (n+1)) (lt (p.getD n 0) (p.getD (n-1) 0)))=_
    rw[e];rfl
   rw[er]
   obtain⟨a,b,c,d⟩:=nY O p f (n+1) (by omega) (h.succ O hn e)
   exact⟨by show n≤run lt (kas_asc p f (n+1));omega,by omega,c,fun z=>d (by omega)⟩
theorem uU {p:Array Nat}{i j:Nat}(hj:j≤p.size)(k:Nat):g (kas_rev p i j) k=if i≤k∧k<j then g p (i+j-1-k) else g p k:=by
 have h:=getElem?_mirror_all (xs:=p) (i:=i) hj k
 split
 ·rename_i c
  rw[if_pos c] at h
  exact eA h
 ·rename_i c
  rw[if_neg c] at h
  exact eA h
theorem xx (p:Array Nat)(i j:Nat):(kas_rev p i j).size=p.size:=mirror_size _ _ _ _
theorem yI (p:Array Nat)(i j:Nat):(kas_rev p i j).Perm p:=mirror_perm _ _ _ _
def Eqv (lt:Nat→Nat→Bool)(a b:Nat):Prop:=lt a b=false∧lt b a=false
theorem Down.eqv (O:Ord lt){p q:Array Nat}{n:Nat}(h:Down lt p n)(e:∀k,k<n→Eqv lt (g q k) (g p k)):Down lt q n:=fun i j hij hj=>
 O.tr _ _ _ (O.tr _ _ _ (e j hj).2 (h i j hij hj)) (e i (by omega)).1
def Last (lt:Nat→Nat→Bool)(p:Array Nat)(n q:Nat):Prop:=∀a b,n≤a+(q+1)→a<n→n≤b+(q+1)→b<n→lt (g p a) (g p b)=false
theorem rev_last (O:Ord lt){p:Array Nat}{n q:Nat}(hn:n≤p.size)(hq:q<n)(L:Last lt p n q):∀k,k<n→Eqv lt (g (kas_rev p (n-(q+1)) n) k) (g p k):=fun k hk=>by
 rw[uU hn]
 split
 ·rename_i c
  exact⟨L _ _ (by omega) (by omega) (by omega) hk,L _ _ (by omega) hk (by omega) (by omega)⟩
 ·exact⟨O.irr _,O.irr _⟩
theorem tj (O:Ord lt):∀(f:Nat) (p:Array Nat) (n q:Nat),q<n→n+f≤p.size→Down lt p n→Last lt p n q→
  ∃p' m q',run lt (kas_desc f p n q)=(p',m,q')∧n≤m∧m≤n+f∧p'.size=p.size∧p'.Perm p∧q'<m∧Down lt p' m∧Last lt p' m q'
 |0,p,n,q,hq,hs,h,L=>⟨p,n,q,rfl,zs9 _,zs9 _,rfl,zD4 _,hq,h,L⟩
 |f+1,p,n,q,hq,hs,h,L=>by
  cases e:lt (p.getD n 0) (p.getD (n-1) 0) with
  |true=>
   by_cases hq0:q > 0
   ·have er:run lt (kas_desc (f+1) p n q)=run lt (kas_desc f (kas_rev p (n-(q+1)) n) (n+1) 0):=by
     show run lt ((fun c=>if c=true then (if q > 0 then kas_desc f (kas_rev p (n-(q+1)) n) (n+1) 0 else kas_desc f p (n+1) 0)
      else .ask (p.getD (n-1) 0) (p.getD n 0) fun d=>if d=true then .ret (p,n,q) else kas_desc f p (n+1) (q+1)) (lt (p.getD n 0) (p.getD (n-1) 0)))=_
     rw[e]
     show run lt (if q > 0 then _ else _)=_
     rw[if_pos hq0]
    have ev:=rev_last O (by omega:n≤p.size) hq L
    have h1:=h.eqv O ev
    have hn:g (kas_rev p (n-(q+1)) n) n=g p n:=by rw[uU (by omega),if_neg (by omega)]
    have h2:Down lt (kas_rev p (n-(q+1)) n) (n+1):=h1.succ O (by omega) (by
     rw[hn]
     exact O.tr _ _ _ (O.asy _ _ e) (ev (n-1) (by omega)).1)
    obtain⟨p',m,q',a,b,c,d1,d2,d3,d4,d5⟩:=tj O f (kas_rev p (n-(q+1)) n) (n+1) 0 (by omega) (by rw[xx];omega) h2 (fun a b h1 h2 h3 h4=>by
     have e1:a=n:=by omega
     have e2:b=n:=by omega
     rw[e1,e2];exact O.irr _)
    exact⟨p',m,q',er.trans a,by omega,by omega,by rw[d1,xx],d2.trans (yI _ _ _),d3,d4,d5⟩
   ·have er:run lt (kas_desc (f+1) p n q)=run lt (kas_desc f p (n+1) 0):=by
     show run lt ((fun c=>if c=true then (if q > 0 then kas_desc f (kas_rev p (n-(q+1)) n) (n+1) 0 else kas_desc f p (n+1) 0)
      else .ask (p.getD (n-1) 0) (p.getD n 0) fun d=>if d=true then .ret (p,n,q) else kas_desc f p (n+1) (q+1)) (lt (p.getD n 0) (p.getD (n-1) 0)))=_
     rw[e]
     show run lt (if q > 0 then _ else _)=_
     rw[if_neg hq0]
    obtain⟨p',m,q',a,b,c,d1,d2,d3,d4,d5⟩:=tj O f p (n+1) 0 (by omega) (by omega) (h.succ O (by omega) (O.asy _ _ e)) (fun a b h1 h2 h3 h4=>by
     have e1:a=n:=by omega
     have e2:b=n:=by omega
     rw[e1,e2];exact O.irr _)
    exact⟨p',m,q',er.trans a,by omega,by omega,d1,d2,d3,d4,d5⟩
  |false=>
   cases e2:lt (p.getD (n-1) 0) (p.getD n 0) with
   |true=>
    have er:run lt (kas_desc (f+1) p n q)=(p,n,q):=by
     show run lt ((fun c=>if c=true then (if q > 0 then kas_desc f (kas_rev p (n-(q+1)) n) (n+1) 0 else kas_desc f p (n+1) 0)
      else .ask (p.getD (n-1) 0) (p.getD n 0) fun d=>if d=true then .ret (p,n,q) else kas_desc f p (n+1) (q+1)) (lt (p.getD n 0) (p.getD (n-1) 0)))=_
     rw[e]
     show run lt ((fun d=>if d=true then KasT.ret (p,n,q) else kas_desc f p (n+1) (q+1)) (lt (p.getD (n-1) 0) (p.getD n 0)))=_
     rw[e2];rfl
    exact⟨p,n,q,er,zs9 _,by omega,rfl,zD4 _,hq,h,L⟩
   |false=>
    have er:run lt (kas_desc (f+1) p n q)=run lt (kas_desc f p (n+1) (q+1)):=by
     show run lt ((fun c=>if c=true then (if q > 0 then kas_desc f (kas_rev p (n-(q+1)) n) (n+1) 0 else kas_desc f p (n+1) 0)
      else .ask (p.getD (n-1) 0) (p.getD n 0) fun d=>if d=true then .ret (p,n,q) else kas_desc f p (n+1) (q+1)) (lt (p.getD n 0) (p.getD (n-1) 0)))=_
     rw[e]
     show run lt ((fun d=>if d=true then KasT.ret (p,n,q) else kas_desc f p (n+1) (q+1)) (lt (p.getD (n-1) 0) (p.getD n 0)))=_
     rw[e2];rfl
    have Ln:Last lt p (n+1) (q+1):=fun a b h1 h2 h3 h4=>by
     have two:∀a,n+1≤a+(q+1+1)→a<n+1→Eqv lt (g p a) (g p (n-1)):=fun a x1 x2=>by
      by_cases ea:a=n
      ·rw[ea];exact⟨e,e2⟩
      ·exact⟨L a (n-1) (by omega) (by omega) (by omega) (by omega),L (n-1) a (by omega) (by omega) (by omega) (by omega)⟩
     exact O.tr _ _ _ (two b h3 h4).2 (two a h1 h2).1
    obtain⟨p',m,q',a,b,c,d1,d2,d3,d4,d5⟩:=tj O f p (n+1) (q+1) (by omega) (by omega) (h.succ O (by omega) e2) Ln
    exact⟨p',m,q',er.trans a,by omega,by omega,d1,d2,d3,d4,d5⟩
theorem zg4 {p:Array Nat}{n:Nat}(hn:n≤p.size)(h:Down lt p n):Up lt (kas_rev p 0 n) n:=fun i j hij hj=>by
 rw[uU hn,uU hn,if_pos (by omega),if_pos (by omega)]
 exact h _ _ (by omega) (by omega)
theorem nH (O:Ord lt){p:Array Nat}{n nrem:Nat}(h0:0<n)(hn:n≤nrem)(hs:nrem≤p.size)(h:Down lt p n):
  ∃p' m,run lt (kas_tail3 n nrem p)=(m,p')∧1≤m∧m≤nrem∧p'.size=p.size∧p'.Perm p∧Up lt p' m:=by
 obtain⟨a,b,c,_⟩:=nY O (kas_rev p 0 n) (nrem-n) n h0 (zg4 (by omega) h)
 refine⟨kas_rev p 0 n,run lt (kas_asc (kas_rev p 0 n) (nrem-n) n),?_,by omega,by omega,xx _ _ _,yI _ _ _,c⟩
 unfold kas_tail3
 rw[run_bind]
 rfl
theorem uK (O:Ord lt){p:Array Nat}{n nrem:Nat}(h0:0<n)(hn:n+1≤nrem)(hs:nrem≤p.size)(h:Down lt p (n+1)):
  ∃p' m,run lt (kas_descPart n nrem p)=(m,p')∧1≤m∧m≤nrem∧p'.size=p.size∧p'.Perm p∧Up lt p' m:=by
 obtain⟨p1,m1,q1,e,a1,a2,a3,a4,a5,a6,a7⟩:=tj O (nrem-(n+1)) p (n+1) 0 (by omega) (by omega) h (fun a b h1 h2 h3 h4=>by
  have e1:a=n:=by omega
  have e2:b=n:=by omega
  rw[e1,e2];exact O.irr _)
 unfold kas_descPart
 rw[run_bind,e]
 dsimp only
 split
 ·obtain⟨p',m,b1,b2,b3,b4,b5,b6⟩:=nH O (p:=kas_rev p1 (m1-(q1+1)) m1) (n:=m1) (nrem:=nrem) (by omega) (by omega) (by rw[xx];omega) (a6.eqv O (rev_last O (by omega) a5 a7))
  exact⟨p',m,b1,b2,b3,by rw[b4,xx,a3],(b5.trans (yI _ _ _)).trans a4,b6⟩
 ·obtain⟨p',m,b1,b2,b3,b4,b5,b6⟩:=nH O (p:=p1) (n:=m1) (nrem:=nrem) (by omega) (by omega) (by omega) a6
  exact⟨p',m,b1,b2,b3,by rw[b4,a3],b5.trans a4,b6⟩
theorem eQ (O:Ord lt){p:Array Nat}{nrem:Nat}(h0:0<nrem)(hs:nrem≤p.size):
  ∃p' m,run lt (kas_count nrem p)=(m,p')∧1≤m∧m≤nrem∧p'.size=p.size∧p'.Perm p∧Up lt p' m:=by
 obtain⟨a,b,c,d⟩:=nY O p (nrem-1) 1 (by omega) (zg2 O p)
 unfold kas_count
 rw[run_bind]
 generalize run lt (kas_asc p (nrem-1) 1)=n at a b c d
 by_cases en:n=nrem
 ·rw[if_pos (by rw[en];simp)]
  exact⟨p,n,rfl,a,by omega,rfl,zD4 _,c⟩
 ·rw[if_neg (by simpa using en)]
  have hd:=d (by omega)
  by_cases h1:n > 1
  ·rw[if_pos h1]
   cases e:lt (p.getD 0 0) (p.getD (n-1) 0) with
   |true=>
    refine⟨p,n,?_,a,by omega,rfl,zD4 _,c⟩
    show run lt ((fun c=>if c=true then KasT.ret (n,p) else kas_descPart n nrem (kas_rev p 0 n)) (lt (p.getD 0 0) (p.getD (n-1) 0)))=_
    rw[e];rfl
   |false=>
    have all:∀k,k<n→Eqv lt (g p k) (g p 0):=fun k hk=>⟨c 0 k (by omega) hk,O.tr _ _ _ (c k (n-1) (by omega) (by omega)) e⟩
    have hD:Down lt (kas_rev p 0 n) (n+1):=by
     have h2:Down lt (kas_rev p 0 n) n:=fun i j hij hj=>by
      rw[uU (by omega),uU (by omega),if_pos (by omega),if_pos (by omega)]
      exact O.tr _ _ _ (all _ (by omega)).2 (all _ (by omega)).1
     refine h2.succ O (by omega) ?_
     rw[uU (by omega),uU (by omega),if_pos (by omega),if_neg (by omega)]
     have e0:lt (g p (n-1)) (g p n)=false:=O.asy _ _ hd
     exact O.tr _ _ _ e0 (O.tr _ _ _ (all (n-1) (by omega)).2 (all _ (by omega)).1)
    obtain⟨p',m,b1,b2,b3,b4,b5,b6⟩:=uK O (p:=kas_rev p 0 n) (n:=n) (nrem:=nrem) (by omega) (by omega) (by rw[xx];omega) hD
    refine⟨p',m,?_,b2,b3,by rw[b4,xx],b5.trans (yI _ _ _),b6⟩
    rw[←b1]
    show run lt ((fun c=>if c=true then KasT.ret (n,p) else kas_descPart n nrem (kas_rev p 0 n)) (lt (p.getD 0 0) (p.getD (n-1) 0)))=_
    rw[e];rfl
  ·rw[if_neg h1]
   have e1:n=1:=by omega
   subst e1
   refine uK O (by omega) (by omega) hs ?_
   have d1:Down lt p 1:=fun i j hij hj=>by
    have e1:i=0:=by omega
    have e2:j=0:=by omega
    rw[e1,e2];exact O.irr _
   exact d1.succ O (by omega) (O.asy _ _ hd)
theorem tM (O:Ord lt){p:Array Nat}{k:Nat}(U:Up lt p k):∀(f l r:Nat),r≤l+f→l≤r→r≤k→(∀i,i<l→lt (g p k) (g p i)=false)→(∀i,r≤i→i<k→lt (g p k) (g p i)=true)→
  run lt (kas_place p k f l r)≤k∧(∀i,i<run lt (kas_place p k f l r)→lt (g p k) (g p i)=false)∧(∀i,run lt (kas_place p k f l r)≤i→i<k→lt (g p k) (g p i)=true)
 |0,l,r,h1,h2,h3,ha,hb=>by
  show l≤k∧_
  exact⟨by omega,ha,fun i x y=>hb i (by have:l≤i:=x;omega) y⟩
 |f+1,l,r,h1,h2,h3,ha,hb=>by
  by_cases hlr:l≥r
  ·have er:run lt (kas_place p k (f+1) l r)=l:=by
    show run lt (if l≥r then _ else _)=_
    rw[if_pos hlr];rfl
   rw[er]
   exact⟨by omega,ha,fun i x y=>hb i (by omega) y⟩
  ·cases e:lt (p.getD k 0) (p.getD ((l+r) / 2) 0) with
   |true=>
    have er:run lt (kas_place p k (f+1) l r)=run lt (kas_place p k f l ((l+r) / 2)):=by
     show run lt (if l≥r then _ else _)=_
     rw[if_neg hlr]
     show run lt ((fun c=>if c=true then kas_place p k f l ((l+r) / 2) else kas_place p k f ((l+r) / 2+1) r) (lt (p.getD k 0) (p.getD ((l+r) / 2) 0)))=_
     rw[e];rfl
    rw[er]
    refine tM O U f l ((l+r) / 2) (by omega) (by omega) (by omega) ha fun i x y=>?_
    cases e3:lt (g p k) (g p i) with
    |true=>rfl
    |false=>
     have e4:lt (g p k) (g p ((l+r) / 2))=false:=O.tr _ _ _ (U ((l+r) / 2) i x y) e3
     have e5:lt (g p k) (g p ((l+r) / 2))=true:=e
     rw[e4] at e5;cases e5
   |false=>
    have er:run lt (kas_place p k (f+1) l r)=run lt (kas_place p k f ((l+r) / 2+1) r):=by
     show run lt (if l≥r then _ else _)=_
     rw[if_neg hlr]
     show run lt ((fun c=>if c=true then kas_place p k f l ((l+r) / 2) else kas_place p k f ((l+r) / 2+1) r) (lt (p.getD k 0) (p.getD ((l+r) / 2) 0)))=_
     rw[e];rfl
    rw[er]
    exact tM O U f ((l+r) / 2+1) r (by omega) (by omega) h3 (fun i hi=>O.tr _ _ _ (U i ((l+r) / 2) (by omega) (by omega)) e) hb
theorem jQ (O:Ord lt){p:Array Nat}{k l:Nat}(hk:k<p.size)(hl:l≤k)(U:Up lt p k)(ha:∀i,i<l→lt (g p k) (g p i)=false)(hb:∀i,l≤i→i<k→lt (g p k) (g p i)=true):Up lt (bubble p k (k-l)) (k+1):=by
 have gb:∀i,g (bubble p k (k-l)) i=if i=l then g p k else if l<i∧i≤k then g p (i-1) else g p i:=fun i=>by
  have h:=getElem?_bubble hk (k-l) (by omega) i
  have el:k-(k-l)=l:=by omega
  rw[el] at h
  by_cases c:i=l
  ·rw[if_pos c] at h ⊢;exact eA h
  ·rw[if_neg c] at h ⊢
   by_cases c2:l<i∧i≤k
   ·rw[if_pos c2] at h ⊢;exact eA h
   ·rw[if_neg c2] at h ⊢;exact eA h
 intro i j hij hj
 have gl:g (bubble p k (k-l)) l=g p k:=by rw[gb,if_pos rfl]
 have gm:∀i,l<i→i≤k→g (bubble p k (k-l)) i=g p (i-1):=fun i x y=>by rw[gb,if_neg (by omega),if_pos ⟨x,y⟩]
 have gs:∀i,i<l→g (bubble p k (k-l)) i=g p i:=fun i x=>by rw[gb,if_neg (by omega),if_neg (by omega)]
 rcases Nat.lt_trichotomy i l with hi|hi|hi
 ·rw[gs i hi]
  rcases Nat.lt_trichotomy j l with h|h|h
  ·rw[gs j h];exact U _ _ (by omega) (by omega)
  ·rw[h,gl];exact ha i hi
  ·rw[gm j h (by omega)];exact U _ _ (by omega) (by omega)
 ·rw[hi,gl]
  rcases Nat.lt_trichotomy j l with h|h|h
  ·omega
  ·rw[h,gl];exact O.irr _
  ·rw[gm j h (by omega)];exact O.asy _ _ (hb (j-1) (by omega) (by omega))
 ·rw[gm i hi (by omega),gm j (by omega) (by omega)]
  exact U _ _ (by omega) (by omega)
theorem dH (O:Ord lt):∀(f:Nat) (p:Array Nat) (k:Nat),0<k→k+f≤p.size→Up lt p k→(run lt (kas_bin f p k)).size=p.size∧(run lt (kas_bin f p k)).Perm p∧Up lt (run lt (kas_bin f p k)) (k+f)
 |0,p,k,_,_,U=>⟨rfl,zD4 _,U⟩
 |f+1,p,k,hk,hs,U=>by
  obtain⟨a,b,c⟩:=tM O U k 0 k (by omega) (by omega) (by omega) (fun i hi=>by omega) (fun i x y=>by omega)
  have er:run lt (kas_bin (f+1) p k)=run lt (kas_bin f (bubble p k (k-run lt (kas_place p k k 0 k))) (k+1)):=by
   show run lt ((kas_place p k k 0 k).bind _)=_
   rw[run_bind]
  rw[er]
  obtain⟨x,y,z⟩:=dH O f (bubble p k (k-run lt (kas_place p k k 0 k))) (k+1) (by omega) (by rw[bubble_size];omega) (jQ O (by omega) a U b c)
  have e:k+(f+1)=k+1+f:=by omega
  rw[e]
  exact⟨by rw[x,bubble_size],y.trans (bubble_perm _ _ _),z⟩
theorem ku (O:Ord lt){n:Nat}(h:0<n):(run lt (kas_sort n)).size=n∧(run lt (kas_sort n)).Perm (List.range n).toArray∧Up lt (run lt (kas_sort n)) n:=by
 obtain⟨p,m,e,a,b,c,d,u⟩:=eQ O (p:=(List.range n).toArray) (nrem:=n) h (by simp)
 unfold kas_sort
 rw[run_bind,e]
 dsimp only
 have hs:p.size=n:=by rw[c];simp
 by_cases hm:m<n
 ·rw[if_pos hm]
  have em:max m 1=m:=by omega
  rw[em]
  obtain⟨x,y,z⟩:=dH O (n-m) p m (by omega) (by omega) u
  refine⟨by rw[x,hs],y.trans d,?_⟩
  have e:m+(n-m)=n:=by omega
  rw[e] at z
  exact z
 ·rw[if_neg hm]
  have e:m=n:=by omega
  subst e
  exact⟨hs,d,u⟩
end SortA
namespace SortA
open PySem PySem.W PyProof.Rows
def xB {α:Type}(n:Nat)(P:α→Prop):KasT α→Prop
 |.ret a=>P a
 |.ask i j k=>i<n∧j<n∧∀b,xB n P (k b)
theorem xB.bind {α β:Type}{n:Nat}{P:α→Prop}{P':β→Prop}{f:α→KasT β}(h2:∀a,P a→xB n P' (f a)):∀t:KasT α,xB n P t→xB n P' (t.bind f)
 |.ret a,h=>h2 a h
 |.ask i j k,⟨a,b,c⟩=>⟨a,b,fun x=>xB.bind h2 (k x) (c x)⟩
def Bd (n:Nat)(p:Array Nat):Prop:=∀x∈p,x<n
theorem Bd.get {n:Nat}{p:Array Nat}(h:Bd n p)(hn:0<n)(i:Nat):p.getD i 0<n:=by
 by_cases hi:i<p.size
 ·have e:p.getD i 0=p[i]:=by simp[Array.getD,hi]
  rw[e];exact h _ (Array.getElem_mem hi)
 ·have e:p.getD i 0=0:=by simp[Array.getD,hi]
  rw[e];exact hn
theorem Bd.perm {n:Nat}{p q:Array Nat}(h:Bd n p)(e:q.Perm p):Bd n q:=fun x hx=>h x (e.mem_iff.mp hx)
theorem sR {n:Nat}{p:Array Nat}(B:Bd n p)(hn:0<n):∀f k,xB n (fun _=>True) (kas_asc p f k)
 |0,_=>trivial
 |f+1,k=>⟨B.get hn _,B.get hn _,fun b=>by
  cases b with
  |true=>exact trivial
  |false=>exact sR B hn f (k+1)⟩
theorem vv {n:Nat}(hn:0<n):∀f (p:Array Nat) k q,Bd n p→xB n (fun r:Array Nat×Nat×Nat=>Bd n r.1) (kas_desc f p k q)
 |0,_,_,_,B=>B
 |f+1,p,k,q,B=>⟨B.get hn _,B.get hn _,fun b=>by
  cases b with
  |true=>
   show xB n _ (if q > 0 then _ else _)
   split
   ·exact vv hn f _ _ _ (B.perm (yI _ _ _))
   ·exact vv hn f _ _ _ B
  |false=>
   refine⟨B.get hn _,B.get hn _,fun b=>?_⟩
   cases b with
   |true=>exact B
   |false=>exact vv hn f _ _ _ B⟩
theorem sj {n:Nat}{p:Array Nat}(B:Bd n p)(hn:0<n)(m r:Nat):xB n (fun r:Nat×Array Nat=>Bd n r.2) (kas_tail3 m r p):=by
 unfold kas_tail3
 refine xB.bind (P:=fun _=>True) (fun a _=>?_) _ (sR (B.perm (yI _ _ _)) hn _ _)
 exact B.perm (yI _ _ _)
theorem vC {n:Nat}{p:Array Nat}(B:Bd n p)(hn:0<n)(m r:Nat):xB n (fun r:Nat×Array Nat=>Bd n r.2) (kas_descPart m r p):=
 xB.bind (fun a ha=>by
  split
  ·exact sj (Bd.perm ha (yI _ _ _)) hn _ _
  ·exact sj ha hn _ _) _ (vv hn _ _ _ _ B)
theorem lG {n:Nat}{p:Array Nat}(B:Bd n p)(hn:0<n)(r:Nat):xB n (fun r:Nat×Array Nat=>Bd n r.2) (kas_count r p):=
 xB.bind (fun a _=>by
  split
  ·exact B
  ·split
   ·refine⟨B.get hn _,B.get hn _,fun b=>?_⟩
    cases b with
    |true=>exact B
    |false=>exact vC (B.perm (yI _ _ _)) hn _ _
   ·exact vC B hn _ _) _ (sR B hn _ _)
theorem vU {n:Nat}{p:Array Nat}(B:Bd n p)(hn:0<n)(k:Nat):∀f l r,xB n (fun _=>True) (kas_place p k f l r)
 |0,_,_=>trivial
 |f+1,l,r=>by
  show xB n _ (if l≥r then _ else _)
  split
  ·exact trivial
  ·refine⟨B.get hn _,B.get hn _,fun b=>?_⟩
   cases b with
   |true=>exact vU B hn k f _ _
   |false=>exact vU B hn k f _ _
theorem nL {n:Nat}(hn:0<n):∀f (p:Array Nat) k,Bd n p→xB n (fun _=>True) (kas_bin f p k)
 |0,_,_,_=>trivial
 |f+1,p,k,B=>xB.bind (fun l _=>nL hn f _ _ (B.perm (bubble_perm _ _ _))) _ (vU B hn k _ _ _)
theorem qh {n:Nat}(hn:0<n):xB n (fun _=>True) (kas_sort n):=
 xB.bind (fun a ha=>by
  split
  ·exact nL hn _ _ _ ha
  ·exact trivial) _ (lG (fun x hx=>by simpa using hx) hn n)
theorem wp_run {α:Type}{n:Nat}{P:α→Prop}{cmp:Nat→Nat→(Bool→Shared→Prop)→Shared→Prop}{lt:Nat→Nat→Bool}{Q:α→Shared→Prop}{s:Shared}(hc:∀i j C,i<n→j<n→C (lt i j) s→cmp i j C s):
  ∀t:KasT α,xB n P t→Q (run lt t) s→t.kasWp cmp Q s
 |.ret _,_,h=>h
 |.ask i j k,⟨a,b,c⟩,h=>hc i j _ a b (wp_run hc (k (lt i j)) (c _) h)
def lx (p q:Int×Int):Bool:=decide (p.1<q.1∨(p.1=q.1∧p.2<q.2))
def at2 (ps:List (Int×Int))(i:Nat):Int×Int:=ps.getD i (0,0)
theorem zh7 (ps:List (Int×Int)):Ord fun i j=>lx (at2 ps i) (at2 ps j) where
 irr:=fun a=>by simp[lx]
 tr:=fun a b c=>by
  unfold lx
  generalize at2 ps a=x;generalize at2 ps b=y;generalize at2 ps c=z
  simp only[zy1]
  omega
 asy:=fun a b=>by
  unfold lx
  generalize at2 ps a=x;generalize at2 ps b=y
  simp only[zy1,zv7]
  omega
theorem md (ps:List (Int×Int))(h:0<ps.length):∃ix:List Nat,run (fun i j=>lx (at2 ps i) (at2 ps j)) (kas_sort ps.length)=ix.toArray∧ix.length=ps.length∧(∀i∈ix,i<ps.length)∧(ix.map (at2 ps)).Perm ps∧(ix.map (at2 ps)).Pairwise (fun p q=>lx q p=false):=by
 obtain⟨a,b,c⟩:=ku (zh7 ps) h
 generalize run (fun i j=>lx (at2 ps i) (at2 ps j)) (kas_sort ps.length)=r at a b c
 have e:(List.range ps.length).map (at2 ps)=ps:=by
  apply zF5
  ·simp
  ·intro i h1 h2
   simp[at2,h2]
 have pl:r.toList.Perm (List.range ps.length):=by
  have:=Array.perm_iff_toList_perm.mp b
  simpa using this
 refine⟨r.toList,by simp,by simpa using a,fun i hi=>by simpa using pl.mem_iff.mp hi,?_,?_⟩
 ·have:=pl.map (at2 ps)
  rw[e] at this
  exact this
 ·rw[zE7,zA6]
  intro i j hi hj hij
  have h1:j<r.size:=by simpa using hj
  have:=c i j (by omega) (by rw[←a];exact h1)
  have ei:g r i=r.toList[i]:=by
   have:i<r.size:=by omega
   simp[g,Array.getD,this]
  have ej:g r j=r.toList[j]:=by simp[g,Array.getD,h1]
  rw[ei,ej] at this
  exact this
end SortA
namespace L2
open PySem PySem.Spec PySem.Calls PySem.W PyProof.Rows SortA
section
variable {prog:Program}{w:World}{A:Around}{E:Value→Shared→Prop}{s:Shared}
def Prs (h:Heap):List Value→List (Int×Int)→Prop
 |[],[]=>True
 |v::vs,p::ps=>(∃a o t u n,v=.ref a∧h.get? a=some o∧o.cls=.type "tuple"∧o.data=.seq #[.int p.1 t,.int p.2 u] n)∧Prs h vs ps
 |_,_=>False
theorem Prs.len {h:Heap}:∀{vs:List Value} {ps:List (Int×Int)},Prs h vs ps→vs.length=ps.length
 |[],[],_=>rfl
 |[],_::_,h=>h.elim
 |_::_,[],h=>h.elim
 |_::_,_::_,⟨_,h⟩=>by simp[Prs.len h]
theorem Prs.at {h:Heap}:∀{vs:List Value} {ps:List (Int×Int)} (i:Nat),Prs h vs ps→i<ps.length→∃a o t u n,vs.getD i Value.none=.ref a∧h.get? a=some o∧o.cls=.type "tuple"∧o.data=.seq #[.int (at2 ps i).1 t,.int (at2 ps i).2 u] n
 |[],[],_,_,hi=>by simp at hi
 |[],_::_,_,h,_=>h.elim
 |_::_,[],_,h,_=>h.elim
 |_::_,_::_,0,⟨x,_⟩,_=>x
 |_::_,_::_,i+1,⟨_,r⟩,hi=>by
  obtain⟨a,o,t,u,n,e,q⟩:=Prs.at i r (by simpa using hi)
  exact⟨a,o,t,u,n,by simpa using e,q⟩
theorem Prs.tups {h:Heap}:∀{vs:List Value} {ps:List (Int×Int)},Prs h vs ps→∃fs:List Value,KatTups h vs fs∧fs.length=ps.length∧∀v∈fs,∃i t,v=.int i t
 |[],[],_=>⟨[],trivial,rfl,fun _ h=>by simp at h⟩
 |[],_::_,h=>h.elim
 |_::_,[],h=>h.elim
 |_::_,p::_,⟨⟨a,o,t,u,n,e,ho,hc,hd⟩,r⟩=>by
  obtain⟨fs,x,y,z⟩:=Prs.tups r
  subst e
  refine⟨.int p.1 t::fs,KatTups.cons ho hc hd (by simp) x,by simp[y],fun v hv=>?_⟩
  rcases zs8.mp hv with rfl|hv
  ·exact⟨_,_,rfl⟩
  ·exact z v hv
theorem fN {a b:Addr}{oa ob:Obj}{p q:Int×Int}{t u t' u':Tok}{n k:Nat}{Q:Bool→Shared→Prop}(ha:s.heap.get? a=some oa)(da:oa.data=.seq #[.int p.1 t,.int p.2 u] n)(hb:s.heap.get? b=some ob)(db:ob.data=.seq #[.int q.1 t',.int q.2 u'] k)
  (h:Q (lx p q) s):wpAny (model prog w) A (keyLt' (tuples' true) (.ref a) (.ref b)) Q E s:=by
 refine kat_lt ha da hb db (kat_cons (zF3 ?_))
 by_cases e:p.1=q.1
 ·have e1:(p.1 == q.1)=true:=by simp[e]
  rw[e1]
  refine kat_yes (kat_cons (zF3 ?_))
  by_cases e2:p.2=q.2
  ·have e3:(p.2 == q.2)=true:=by simp[e2]
   rw[e3]
   refine kat_yes (kat_nil ?_)
   have:lx p q=false:=by simp[lx,e,e2]
   rw[this] at h
   simpa using h
  ·have e3:(p.2 == q.2)=false:=by simp[e2]
   rw[e3]
   refine kat_no (kat_one _ _ (wpAny_lt_int ?_))
   have:lx p q=decide (p.2<q.2):=by simp[lx,e]
   rw[this] at h
   exact h
 ·have e1:(p.1 == q.1)=false:=by simp[e]
  rw[e1]
  refine kat_no (oneLt_int ?_)
  have:lx p q=decide (p.1<q.1):=by simp[lx,e]
  rw[this] at h
  exact h
theorem lR {vs:List Value}{ps:List (Int×Int)}(h2:2≤vs.length)(P:Prs s.heap vs ps){R:Array Nat→Shared→Prop}(hr:∀ix:List Nat,ix.length=ps.length→(∀i∈ix,i<ps.length)→(ix.map (at2 ps)).Perm ps→(ix.map (at2 ps)).Pairwise (fun p q=>lx q p=false)→R ix.toArray s):
  wpAny (model prog w) A (keyKind' vs.toArray) (fun κ s'=>(kas_sort vs.length).kasWp (kas_ask prog w A κ vs) R s') (fun _ _=>False) s:=by
 obtain⟨fs,t,hl,hi⟩:=P.tups
 have hlen:=P.len
 refine kat_kind (T:=.type "int") t (by omega) (fun v hv=>?_) (by decide) ?_
 ·obtain⟨i,t,rfl⟩:=hi v hv
  exact .now
 ·have e:(Value.type "int" != Value.type "tuple")=true:=by decide
  rw[e]
  obtain⟨ix,e1,e2,e3,e4,e5⟩:=md ps (by omega)
  rw[hlen]
  refine wp_run (n:=ps.length) (P:=fun _=>True) (lt:=fun i j=>lx (at2 ps i) (at2 ps j)) (fun i j C hi hj hC=>?_) _ (qh (by omega)) ?_
  ·obtain⟨a,o,t,u,n,ea,ha,_,da⟩:=P.at i hi
   obtain⟨b,o',t',u',n',eb,hb,_,db⟩:=P.at j hj
   unfold kas_ask
   rw[ea,eb]
   exact fN ha da hb db hC
  ·rw[e1];exact hr ix e2 e3 e4 e5
def Srt (vs:List Value)(ps:List (Int×Int))(out:List Value):Prop:=
 ∃ix:List Nat,out=ix.map (fun i=>vs.getD i Value.none)∧ix.length=ps.length∧(∀i∈ix,i<ps.length)∧(ix.map (at2 ps)).Perm ps∧(ix.map (at2 ps)).Pairwise (fun p q=>lx q p=false)
theorem Srt.len {vs:List Value}{ps:List (Int×Int)}{out:List Value}(h:Srt vs ps out):out.length=ps.length:=by
 obtain⟨ix,rfl,e,_⟩:=h
 simp[e]
end
inductive PrV (H:Hp):List V→List (Int×Int)→Prop where
 |nil:PrV H [] []
 |cons {a:Addr} {xs:List V} {p:Int×Int} {ps:List (Int×Int)}:H a=some (.tup [.int p.1,.int p.2])→PrV H xs ps→PrV H (.ref a::xs) (p::ps)
section
variable {X:Cx}{pins:List (Addr×Obj)}{σ:St}{H H':Hp}{s:Shared}
theorem PrV.len {xs:List V}{ps:List (Int×Int)}(h:PrV H xs ps):xs.length=ps.length:=by
 induction h with
 |nil=>rfl
 |cons _ _ ih=>simp[ih]
theorem PrV.keep {xs:List V}{ps:List (Int×Int)}(k:∀a p q,H a=some (.tup [.int p,.int q])→H' a=some (.tup [.int p,.int q]))(h:PrV H xs ps):PrV H' xs ps:=by
 induction h with
 |nil=>exact .nil
 |cons e _ ih=>exact .cons (k _ _ _ e) ih
theorem PrV.app {xs ys:List V}{ps qs:List (Int×Int)}(h:PrV H xs ps)(h':PrV H ys qs):PrV H (xs++ys) (ps++qs):=by
 induction h with
 |nil=>exact h'
 |cons e _ ih=>exact .cons e ih
theorem PrV.prs (I:Inv X pins σ H s):∀{xs:List V} {ps:List (Int×Int)} {us:List Value},PrV H xs ps→Vals xs us→Prs s.heap us ps:=by
 intro xs ps us h
 induction h generalizing us with
 |nil=>intro r;cases r;exact trivial
 |@cons a xs p ps e _ ih=>
  intro r
  cases r with
  |cons r rr=>
   cases (show _=Value.ref a from r)
   obtain⟨_,its,vi,o,ho,hc,n,hd⟩:=(show zY X.prog X.w H s.heap a (.tup [.int p.1,.int p.2]) from I.hok a _ e)
   obtain⟨u,v,rfl,⟨t,rfl⟩,⟨t',rfl⟩⟩:=Vals.two vi
   exact⟨⟨a,o,t,t',n,rfl,ho,hc,hd⟩,ih rr⟩
theorem tY {xs:List V}{us:List Value}(r:Vals xs us):∀i x,xs[i]?=some x→RelV x (us.getD i Value.none):=by
 induction r with
 |nil=>intro i x h;simp at h
 |cons e _ ih=>
  intro i x h
  cases i with
  |zero=>have h':=zv0 (by simpa using h);subst h';exact e
  |succ i=>exact ih i x (by simpa using h)
end
end L2
namespace Days
end Days
namespace L2
open PySem PySem.Spec PyProof.Rows Days
section
variable {X:Cx}{α:Ev}{e a b c tg:Expr}{pos p:Pos}{Q:PyData→Prop}{E:wa}{sts:List Stmt}
theorem bj {pat:Pat}(hg:PG X tg (oZ X.K pat))(h:EvD X α e fun d=>∃α1,pat.bind d α=some α1∧SvS X α1 sts E)
  (hs:swapsWithSole [tg] e pos.line X.env=pure false:=by rfl) (hw:swappedStores [tg] e X.env=pure none:=by rfl) (h1:(assignEach [tg] X.env).map (·.2)=[assign tg X.env]:=by rfl):SvS X α (.Assign [tg] e pos::sts) E:=fun F σ H D m r=>by
 refine⟨_,zV (pK zq hg hs hw h1) yt,?_⟩
 refine h F σ H _ m fun d v H1 q1 t1 k1 r1=>?_
 obtain⟨α1,eb,q⟩:=q1
 exact pC eb (m.kz k1 t1) r1 fun σ' m'=>q F σ' H1 D m' r
end
theorem gW (ds:List PyData):ds.filter (fun _=>true)=ds:=zD1.mpr fun _ _=>rfl
section
variable {X:Cx}{α:Ev}{tg:Expr}{pos p:Pos}{E:wa}{sts body:List Stmt}
end
def isNone :PyData→Bool
 |.none=>true
 |_=>false
theorem DV.non_iff {H:Hp}{x:V}{d:PyData}(h:DV H x d):decide (x=.non)=isNone d:=by
 cases h<;>simp[isNone]
abbrev eqS (d:PyData)(s:Str):Bool:=PyData.eqv d (.str s)
abbrev vj :PyData→Bool:=zW 0 1000000000000
def vX :PyData→Bool
 |.tuple [.int m,f]=>zW 2 14 (.int m)&&zW 1 (m-1) f
 |_=>false
def zz (w v:PyData):Bool:=
 if eqS w "price"=true then isNone v||vj v
 else if (eqS w "come"||eqS w "go")=true then isBool v
 else if (eqS w "least"||eqS w "most")=true then zW 1 14 v
 else if eqS w "deal"=true then isNone v||vX v
 else eqS w "fee"&&vj v
def yM :PyData→Bool
 |.tuple [w,a,b,v]=>yj (.tuple [a,b])&&zz w v
 |_=>false
abbrev words :List Str:=["price","come","go","least","most","deal","fee"]
theorem me {x:Str}(h:(PyData.str x).canLay0=true):SeqAt.shaped (.str x)=true:=by
 unfold SeqAt.shaped
 rw[h]
 rfl
def kx :Sp:=fun vs H Q _=>∃x y dw dv,vs=[x,y]∧DV H x dw∧SeqAt.shaped dw=true∧DV H y dv∧Q (.bl (zz dw dv)) H
def dD :Sp:=fun vs H Q _=>∃x d,vs=[x]∧DV H x d∧SeqAt.shaped d=true∧∀H',zy H H'→Q (.bl (yM d)) H'
theorem qF {ds:List PyData}(h:SeqAt.shaped (.tuple ds)=true):∀d∈ds,SeqAt.shaped d=true:=by
 unfold SeqAt.shaped at h
 rw[zv1,zv7] at h
 obtain⟨h1,h2⟩:=h
 simp only[PyData.canLay0] at h1
 simp only[PyData.depth] at h2
 have key:∀(ds:List PyData),PyData.canLayAll0 ds=true→PyData.depthAll ds+1≤64→∀d∈ds,SeqAt.shaped d=true:=by
  intro ds
  induction ds with
  |nil=>intro _ _ d hd;simp at hd
  |cons e r ih=>
   intro a b d hd
   simp only[PyData.canLayAll0,zv1] at a
   simp only[PyData.depthAll] at b
   rcases zs8.mp hd with z|z
   ·subst z
    unfold SeqAt.shaped
    rw[a.1,zy8,zv7]
    omega
   ·exact ih a.2 (by omega) d z
 exact key ds h1 (by omega)
def wK (x y z:V):List (Str×V):=xA "worth" z (xA "last" y (xA "first" x []))
theorem gr :¬(("worth":Str)="last"):=by decide +kernel
theorem iV :¬(("worth":Str)="first"):=by decide +kernel
theorem gL :¬(("last":Str)="first"):=by decide +kernel
theorem rg (x y z:V):(wK x y z).lookup ("first":Str)=some x:=by
 unfold wK
 rw[zS,if_neg (fun e=>iV e.symm),zS,if_neg (fun e=>gL e.symm),zS,if_pos rfl]
theorem rG (x y z:V):(wK x y z).lookup ("last":Str)=some y:=by
 unfold wK
 rw[zS,if_neg (fun e=>gr e.symm),zS,if_pos rfl]
theorem mz (x y z:V):(wK x y z).lookup ("worth":Str)=some z:=by
 unfold wK
 rw[zS,if_pos rfl]
theorem aI (x y z:V){m:Str}(h1:¬m="worth")(h2:¬m="last")(h3:¬m="first"):(wK x y z).lookup m=none:=by
 unfold wK
 rw[zS,if_neg h1,zS,if_neg h2,zS,if_neg h3]
 rfl
structure Cs where
 price:Addr
 come:Addr
 go:Addr
 least:Addr
 most:Addr
 deal:Addr
 fee:Addr
def Cs.of (c:Cs)(w:Str):Addr:=
 if w="price" then c.price else if w="come" then c.come else if w="go" then c.go else if w="least" then c.least else if w="most" then c.most else if w="deal" then c.deal else c.fee
structure xN (K:PySem.W.Frag)(C fI fT fE fW:Addr):Prop where
 cl:Cls K C
 nf:yE K C "first"
 nl:yE K C "last"
 nw:yE K C "worth"
 makes:Mk K C fI
 told:Meth K C "told" fT
 tells:Meth K C "tells" fE
 word:Meth K C "word" fW
def zd7 (C:Addr):Sp:=fun vs H Q _=>∃(p dx:Addr) (x y z:V),vs=[.ref p,x,y,z]∧H p=some (.ins C dx [])∧Q .non (upd H p (.ins C dx (wK x y z)))
def wz (w:Str):Sp:=fun vs H Q _=>∃p,vs=[.ref p]∧Q (.str w) H
def dn (C:Addr)(w:Str):Sp:=fun vs H Q _=>∃(p dx:Addr) (x y z:V),vs=[.ref p]∧H p=some (.ins C dx (wK x y z))∧∀q,H q=none→Q (.ref q) (upd H q (.tup [.str w,x,y,z]))
def ki (C:Addr):Sp:=fun vs H Q _=>∃(p dx:Addr) (a b day:Int) (z:V),vs=[.ref p,.int day]∧H p=some (.ins C dx (wK (.int a) (.int b) z))∧Q (.bl (decide (a≤day)&&decide (day≤b))) H
def fG (cs:Cs):Sp:=fun vs H Q _=>∃(w:Str) (x y z:V),vs=[.str w,x,y,z]∧w∈words∧∀(p dx:Addr) (H':Hp),H' p=some (.ins (cs.of w) dx (wK x y z))→H p=none→zy H H'→Q (.ref p) H'
def oB (cs:Cs):Sp:=fun vs H Q _=>∃x d,vs=[x]∧DV H x d∧SeqAt.shaped d=true∧(yM d=false→∀H',zy H H'→Q .non H')∧
 (∀(r:Addr) (w:Str) (x1 x2 x3:V) (p dx:Addr) (H':Hp),x=.ref r→yM d=true→w∈words→H r=some (.tup [.str w,x1,x2,x3])→H' p=some (.ins (cs.of w) dx (wK x1 x2 x3))→H p=none→zy H H'→Q (.ref p) H')
theorem wt {d:PyData}{s:Str}(h:eqS d s=true):d=.str s:=by
 cases d with
 |str x=>
  have h':(x == s)=true:=h
  rw[eq_of_beq h']
 |_=>simp[PyData.eqv] at h
theorem oy {w v:PyData}(h:zz w v=true):∃s∈words,w=.str s:=by
 unfold zz at h
 split at h
 ·rename_i e;exact⟨"price",by simp[words],wt e⟩
 ·split at h
  ·rename_i e
   rcases (zB7 _ _).mp e with e|e
   ·exact⟨"come",by simp[words],wt e⟩
   ·exact⟨"go",by simp[words],wt e⟩
  ·split at h
   ·rename_i e
    rcases (zB7 _ _).mp e with e|e
    ·exact⟨"least",by simp[words],wt e⟩
    ·exact⟨"most",by simp[words],wt e⟩
   ·split at h
    ·rename_i e;exact⟨"deal",by simp[words],wt e⟩
    ·rw[zv1] at h;exact⟨"fee",by simp[words],wt h.1⟩
theorem xG {d:PyData}(h:yM d=true):∃(s:Str) (a b v:PyData),s∈words∧d=.tuple [.str s,a,b,v]:=by
 unfold yM at h
 split at h
 ·rename_i w a b v
  rw[zv1] at h
  obtain⟨s,hs,rfl⟩:=oy h.2
  exact⟨s,a,b,v,hs,rfl⟩
 ·cases h
section
variable {X:Cx}
end
abbrev wN (C:Addr)(fs:List (PyData×PyData)):PyData:=.dict ((.int (C:Nat),.none)::fs)
def uV :List (PyData×PyData)→Str→Option PyData
 |[],_=>none
 |(.str g,d)::r,f=>if f=g then some d else uV r f
 |_::r,f=>uV r f
theorem AVf.get {H:Hp}:∀{fs:List (Str×V)} {ds:List (PyData×PyData)} {f:Str} {d:PyData},AVf H fs ds→uV ds f=some d→∃v,fs.lookup f=some v∧AV H v d
 |_,_,f,d,.nil,e=>by cases e
 |_,_,f,d,.cons (f:=g) h r,e=>by
  rw[zw0]
  unfold uV at e
  by_cases z:f=g
  ·subst z
   rw[if_pos rfl] at e
   cases e
   exact⟨_,by simp,h⟩
  ·rw[if_neg z] at e
   have z':(f == g)=false:=by simpa using z
   rw[z']
   exact AVf.get r e
theorem AVf.none {H:Hp}:∀{fs:List (Str×V)} {ds:List (PyData×PyData)} {f:Str},AVf H fs ds→uV ds f=Option.none→fs.lookup f=Option.none
 |_,_,f,.nil,e=>rfl
 |_,_,f,.cons (f:=g) h r,e=>by
  rw[zw0]
  unfold uV at e
  by_cases z:f=g
  ·subst z
   rw[if_pos rfl] at e
   cases e
  ·rw[if_neg z] at e
   have z':(f == g)=false:=by simpa using z
   rw[z']
   exact AVf.none r e
theorem AV.ins_inv {H:Hp}{v:V}{C:Addr}{ds:List (PyData×PyData)}(h:AV H v (wN C ds)):∃a dx fs,v=.ref a∧H a=some (.ins C dx fs)∧AVf H fs ds:=by
 generalize e:wN C ds=d at h
 cases h with
 |@ins a C' dx fs ds' h1 h2=>
  injection e with e
  injection e with e1 e2
  have e3:(C:Int)=(C':Int):=by
   have:=congrArg Prod.fst e1
   injection this
  have e4:C=C':=Int.ofNat.inj e3
  subst e4 e2
  exact⟨a,dx,fs,rfl,h1,h2⟩
 |_=>cases e
section
variable {X:Cx}{α:Ev}{o e:Expr}{es:List Expr}{pos apos p:Pos}{Q:PyData→Prop}{C:Addr}{f m:Str}
theorem ma (c:Cls X.K C)(na:yE X.K C f)(h:EvD X α o fun x=>∃fs d,x=wN C fs∧uV fs f=some d∧Q d)(hb:attributeBase o f X.env (eval o X.env)=eval o X.env:=by rfl):EvD X α (.Attribute o f pos) Q:=fun F σ H R m k=>by
 refine⟨_,uA zq hb,?_⟩
 refine h F σ H _ m fun x vx H1 q1 t1 k1 r1=>?_
 obtain⟨fs,d,rfl,hf,q⟩:=q1
 obtain⟨a,dx,gs,rfl,h1,h2⟩:=r1.ins_inv
 obtain⟨v,hv,av⟩:=h2.get hf
 exact⟨a,C,dx,gs,v,rfl,(zl h1).2,c,na,hv,k d v H1 q t1 k1 av⟩
structure wc (P:Program)(w:World)(K:PySem.W.Frag)(mg:Str→Option Value)(base:Heap)(C:Addr)(m:Str)(k:Nat)(φ:List A→(A→Prop)→Prop):Prop where
 ex:∃f fd ps,Cls K C∧Meth K C m f∧Binds K fd ps []∧zB P w K mg base CX0 k f fd ps (spA φ)
theorem yX {k:Nat}{φ:List A→(A→Prop)→Prop}{pl:Sem Bool}(M':wc X.prog X.w X.K X.mg X.base C m k φ)(hr:zP k X.A)(h:EvD X α o fun x=>∃fs,x=wN C fs∧uV fs m=none∧EvA X α (e::es) fun as=>φ (.dat (wN C fs)::as) fun a=>Q a.d)
  (hst:starEach (e::es) X.env=(false,eval e X.env)::starEach es X.env:=by rfl) (hpl:(backTo pos (starEach es X.env)).any (·.1)=false:=by rfl)
  (ht:eval (.Call (.Attribute o m apos) (e::es) [] pos) X.env=(do
   let ov ←eval o X.env
   standAt apos.atName
   let (f,first) ←holding [ov] (getMethod ov m pl)
   callWith pos f first (backTo pos (starEach (e::es) X.env)) (backToKw pos (keywordEach [] X.env))):=by rfl):EvD X α (.Call (.Attribute o m apos) (e::es) [] pos) Q:=fun F σ H R m' kk=>by
 obtain⟨f,fd,ps,c,hm,hb,G⟩:=M'.ex
 refine⟨_,cK zq c hm G hr hb .nil zZ yZ hst hpl ht,?_⟩
 refine h F σ H _ m' fun x vx H1 q1 t1 k1 r1=>?_
 obtain⟨fs,rfl,hf,q⟩:=q1
 have m1:=m'.kz k1 t1
 obtain⟨a,dx,gs,rfl,h1,h2⟩:=r1.ins_inv
 refine⟨a,dx,gs,rfl,(zl h1).2,h2.none hf,?_⟩
 refine q F σ H1 _ m1 fun as vs H2 q2 t2 k2 r2=>?_
 have m2:=m1.kz k2 t2
 have cf:=wD (vs:=.ref a::vs) (as:=.dat (wN C fs)::as) (R:=R) (E:=E0) m2 (.cons (r1.same (k2.gz m1.tp)) r2) q2 fun z v H' qa ra=>by
  obtain⟨g1,g2,g3⟩:=ra.back m2
  exact kk _ v H' qa g1 ((k1.trans k2).trans g2) g3
 exact cf
theorem sZ {k:Nat}{φ:List A→(A→Prop)→Prop}{pl:Sem Bool}(M':wc X.prog X.w X.K X.mg X.base C m k φ)(hr:zP k X.A)(h:EvD X α o fun x=>∃fs,x=wN C fs∧uV fs m=none∧φ [.dat (wN C fs)] fun a=>Q a.d)
  (ht:eval (.Call (.Attribute o m apos) [] [] pos) X.env=(do
   let ov ←eval o X.env
   standAt apos.atName
   let (f,first) ←holding [ov] (getMethod ov m pl)
   callWith pos f first (backTo pos (starEach [] X.env)) (backToKw pos (keywordEach [] X.env))):=by rfl):EvD X α (.Call (.Attribute o m apos) [] [] pos) Q:=fun F σ H R m' kk=>by
 obtain⟨f,fd,ps,c,hm,hb,G⟩:=M'.ex
 refine⟨_,nq zq c hm G hr hb .nil zZ ht,?_⟩
 refine h F σ H _ m' fun x vx H1 q1 t1 k1 r1=>?_
 obtain⟨fs,rfl,hf,q⟩:=q1
 have m1:=m'.kz k1 t1
 obtain⟨a,dx,gs,rfl,h1,h2⟩:=r1.ins_inv
 refine⟨a,dx,gs,rfl,(zl h1).2,h2.none hf,?_⟩
 have cf:=wD (vs:=[.ref a]) (as:=[.dat (wN C fs)]) (R:=R) (E:=E0) m1 (.cons r1 .nil) q fun z v H' qa ra=>by
  obtain⟨g1,g2,g3⟩:=ra.back m1
  exact kk _ v H' qa g1 (k1.trans g2) g3
 exact cf
def bh (F:Fr)(v:V)(H':Hp)(d:PyData):Prop:=zT F H'∧Kz F F.H0 H'∧AV (sub (fun x=>¬F.O0 x∧∀xs,F.H0 x≠some (.lst xs)) H') v d
def EvN (X:Cx)(α:Ev)(e:Expr)(Q:PyData→Prop):Prop:=∀(F:Fr) (σ:St) (H:Hp) (R:VK),M F α σ H→(∀d v H',Q d→zT F H'→Kz F H H'→AV (sub (fun x=>¬Ow F α σ x∧∀xs,H x≠some (.lst xs)) H') v d→R v H')→uX X e σ H R
theorem EvN.d (h:EvN X α e Q):EvD X α e Q:=fun F σ H R m k=>h F σ H R m fun d v H' q t z r=>k d v H' q t z (r.same (zx fun a o h e=>⟨h.1,e⟩))
def spI (C:Addr)(φ:List A→(A→Prop)→Prop):Sp:=fun vs H Qc _=>∃(F:Fr) (as:List A) (Q:A→Prop) (x dx:Addr) (vs':List V) (H1:Hp),vs=.ref x::vs'∧H1 x=none∧H1 dx=none∧dx≠x∧H=upd (upd H1 dx (.own x)) x (.ins C dx [])∧
 F.H0=H1∧zT F H1∧(∀y,F.O0 y→∃u,H1 y=some u∧vf u)∧yh F (sub (fun y=>¬F.O0 y) H1) vs' as∧φ as Q∧∀d H',Q (.dat d)→bh F (.ref x) H' d→Qc .non H'
structure jq (P:Program)(w:World)(K:PySem.W.Frag)(mg:Str→Option Value)(base:Heap)(x:Str)(k:Nat)(dvs:List V)(φ:List A→(A→Prop)→Prop):Prop where
 ex:∃C f fd ps ds,mg x=some (.ref C)∧Mk K C f∧Binds K fd ps ds∧Vals dvs ds∧zB P w K mg base CX0 k f fd ps (spI C φ)
theorem lX {F:Fr}{σ:St}{H:Hp}{vs:List V}{as:List A}{QA:A→Prop}{R:VK}{φ:List A→(A→Prop)→Prop}(m:M F α σ H)(rv:yh F (Gz F α σ H) vs as)(hφ:φ as QA)
  (kk:∀d v H',QA (.dat d)→bh ⟨H,Ow F α σ,F.tp⟩ v H' d→R v H') {E:XK} (x dx:Addr) (hx:H x=none) (hdx:H dx=none) (hne:dx≠x):spI C φ (.ref x::vs) (upd (upd H dx (.own x)) x (.ins C dx [])) (fun v H2=>v=.non∧R (.ref x) H2) E:=by
 refine⟨⟨H,Ow F α σ,F.tp⟩,as,QA,x,dx,vs,H,rfl,hx,hdx,hne,rfl,rfl,?_,?_,?_,hφ,fun d H' qa ra=>⟨rfl,kk d _ H' qa ra⟩⟩
 ·exact m.tp.to rfl fun _ z=>.inl z
 ·exact fun y z=>m.owEx z
 ·exact yh.to (F:=F) (F':=⟨H,Ow F α σ,F.tp⟩) (fun _ _ e=>e) rfl rv
theorem bh.back {F:Fr}{σ:St}{H H1 H':Hp}{v:V}{d:PyData}(m:M F α σ H)(k1:Kz F H H1)(h:bh ⟨H1,Ow F α σ,F.tp⟩ v H' d):zT F H'∧Kz F H1 H'∧AV (sub (fun x=>¬Ow F α σ x∧∀xs,H x≠some (.lst xs)) H') v d:=by
 obtain⟨t,kz,r⟩:=h
 refine⟨m.tp.re t rfl,kz,r.same (zx fun a o h e=>⟨⟨h.1,fun xs z=>h.2 xs (k1 _ _ z (m.tp.nt (ow0 h.1)))⟩,e⟩)⟩
theorem ah {k:Nat}{φ:List A→(A→Prop)→Prop}{x:Str}(M':jq X.prog X.w X.K X.mg X.base x k [] φ)(hr:zP (k+1) X.A)(hg:Gl X x)(h:EvA X α (e::es) fun as=>φ as fun a=>Q a.d)
  (hdb:(x == ("__debug__":Str))=false:=by decide) (he:starEach (e::es) X.env=(false,eval e X.env)::starEach es X.env:=by rfl) (hpl:(backTo pos (starEach es X.env)).any (·.1)=false:=by rfl):EvN X α (.Call (.Name x p) (e::es) [] pos) Q:=fun F σ H R m kk=>by
 obtain⟨C,f,fd,ps,ds,hm,hk,hb,hd,G⟩:=M'.ex
 cases hd
 refine⟨_,xK hk G hr hg hm hb .nil zZ yZ hdb he hpl,?_⟩
 refine h F σ H _ m fun as vs H1 q1 t1 k1 r1=>?_
 have m1:=m.kz k1 t1
 intro y dx hy hdx hne
 rw[zz3]
 refine lX m1 r1 q1 (fun d v H' qa ra=>?_) y dx hy hdx hne
 obtain⟨g1,g2,g3⟩:=ra.back m k1
 exact kk d v H' qa g1 (k1.trans g2) g3
end
structure zc9 (K:PySem.W.Frag)(x qual:Str)(st:Stmt)(dV:Value)(f:Addr)(fd:FuncData):Prop where
 ex:∃(oc:Value) (od:Option Addr) (kV doc pm:Value) (an:Option Addr) (cdv ct:Value) (osl:Array (Option Value)),
  fd=PySem.W.fnOf x qual (zK st) (zw st) (zb st) dV kV doc pm an cdv ct∧K.lookup f=some ⟨oc,od,.func fd,osl⟩∧PySem.W.codeIn K cdv qual=true
 kp:PySem.W.keepIn K (.ref f)=true
theorem aA {K:PySem.W.Frag}{x qual:Str}{st:Stmt}{f:Addr}{oc:Value}{od an:Option Addr}{osl:Array (Option Value)}{dV kV doc pm cdv ct:Value}(l:K.lookup f=some ⟨oc,od,.func (PySem.W.fnOf x qual (zK st) (zw st) (zb st) dV kV doc pm an cdv ct),osl⟩)
  (c:PySem.W.codeIn K cdv qual=true) (k:PySem.W.keepIn K (.ref f)=true):zc9 K x qual st dV f (PySem.W.fnOf x qual (zK st) (zw st) (zb st) dV kV doc pm an cdv ct):=⟨⟨oc,od,kV,doc,pm,an,cdv,ct,osl,rfl,l,c⟩,k⟩
section
variable {P:Program}{w:World}{K:PySem.W.Frag}{mg:Str→Option Value}{base:Heap}
theorem zo8 {qual:Str}{st:Stmt}{f C:Addr}{dV:Value}{fd:FuncData}{N:List Str}{x:Str}{k:Nat}{φ:List A→(A→Prop)→Prop}{fl:Str}{e:Expr}{p1 p2 p3:Pos}(G:zc9 K "__init__" qual st dV f fd)(S:zm ("self"::x::N) ["self",x] (zb st))(c:Cls K C)(na:yE K C fl)
  (hb:zw st=[.Assign [.Attribute (.Name "self" p1) fl p2] e p3]) (hlen:∀as Q,φ as Q→as.length=1)
  (hbody:∀(cdv:Value) (A':Around) (outer:List Env) (s:Shared) (H:Hp) (E:XK) (as:List A) (Q:A→Prop),zP k (A'.deeper (envOfC qual (zb st) s.heap.objs.size f cdv))→φ as Q→
   EvL (vQ CX0 P w K mg base ("self"::x::N) qual (zb st) f cdv A' outer s H E).nox (none::as.map some++List.replicate N.length none) e fun ds=>uZ ds=true∧Q (.dat (wN C [(.str fl,.list ds)])))
  (hsw:∀(cdv:Value) (A':Around) (outer:List Env) (s:Shared) (H:Hp) (E:XK),swapsWith e (some (.Attribute (.Name "self" p1) fl p2)) p3.line (vQ CX0 P w K mg base ("self"::x::N) qual (zb st) f cdv A' outer s H E).nox.env=pure false)
  (hv:Vis (zb st) "self"):zB P w K mg base CX0 (k+1) f fd ["self",x] (spI C φ):=by
 obtain⟨oc,od,kV,doc,pm,an,cdv,ct,osl,rfl,lk,hcd⟩:=G.ex
 refine iP lk hcd S (fun vs H Q E h=>?_) fun A' outer s H vs Qc E hr h=>?_
 ·obtain⟨F,as,Q',y,dx,vs',H1,rfl,_,_,_,_,_,_,_,rv,hφ,_⟩:=h
  rw[zu1,rv.length,hlen as _ hφ]
  rfl
 ·obtain⟨F,as,Q',y,dx,vs',H1,rfl,hy,hdx,hne,rfl,rfl,t,o,rv,hφ,kk⟩:=h
  have hl:=rv.length
  have hl1:=hlen as _ hφ
  rw[hb]
  refine⟨_,(show PSs _ _ _ from (zv (pE (X:=(vQ CX0 P w K mg base ("self"::x::N) qual (zb st) f cdv A' outer s (upd (upd F.H0 dx (.own y)) y (.ins C dx [])) E).nox) (xq (i:=0) rfl hv) zq (hsw cdv A' outer s _ E))).nox),?_⟩
  let F2:Fr:=⟨F.H0,fun z=>F.O0 z∨z=y∨z=dx,F.tp⟩
  have s1:zy F.H0 (upd (upd F.H0 dx (.own y)) y (.ins C dx [])):=fun a u q=>by
   rw[zg (zk q hy),zg (zk q hdx)];exact q
  have noy:¬F.O0 y:=fun z=>by obtain⟨u,hu,_⟩:=o y z;rw[hy] at hu;cases hu
  have nodx:¬F.O0 dx:=fun z=>by obtain⟨u,hu,_⟩:=o dx z;rw[hdx] at hu;cases hu
  have t2:zT F2 (upd (upd F.H0 dx (.own y)) y (.ins C dx [])):=(t.same s1).to rfl fun _ z=>.inl z
  -- the names of the body
  have g:∀{i:Nat} {a:A},(none::as.map some++List.replicate N.length none:Ev)[i]?=some (some a)→∃j,i=j+1∧as[j]?=some a:=fun {i a} h=>by
   cases i with
   |zero=>simp at h
   |succ j=>
    refine⟨j,rfl,?_⟩
    have h':(as.map some++List.replicate N.length none:Ev)[j]?=some (some a):=by simpa using h
    rcases zB0 j as.length with z|z
    ·rw[zx5 (by rw[zs4];exact z),zu0,zv9] at h'
     obtain⟨b,h1,h2⟩:=h'
     cases h2;exact h1
    ·rw[zA2 (by rw[zs4];exact z),zz6] at h'
     split at h'<;>cases h'
  have at':∀{vs:List V} {as:List A} {i:Nat} {a:A},yh F (sub (fun x=>¬F.O0 x) F.H0) vs as→as[i]?=some a→∃v,vs[i]?=some v∧iw F (sub (fun x=>¬F.O0 x) F.H0) v a:=by
   intro vs as i a h
   induction h generalizing i with
   |nil=>intro e;simp at e
   |cons h r ih=>
    intro e
    cases i with
    |zero=>simp at e;subst e;exact⟨_,rfl,h⟩
    |succ i=>obtain⟨v,h1,h2⟩:=ih (by simpa using e);exact⟨v,by simpa using h1,h2⟩
  have gv:∀{j:Nat} {v:V},vs'[j]?=some v→(L2.start ("self"::x::N) (.ref y::vs'))[j+1]?=some (some v):=fun {j v} h=>by
   have hj:j<vs'.length:=(zt0.mp h).1
   unfold L2.start
   rw[zx5 (by rw[zs4,zu1];omega),zu0,zE3,h];rfl
  have no:∀(i:Nat) a,(none::as.map some++List.replicate N.length none:Ev)[i]?=some (some a)→(∃d,a=.dat d)∨a=.tape:=fun i a z=>by
   obtain⟨j,_,hj⟩:=g z
   obtain⟨v,_,h⟩:=at' rv hj
   cases a with
   |dat d=>exact .inl ⟨d,rfl⟩
   |tape=>exact .inr rfl
   |_=>exact h.elim
  have gs:zy (sub (fun x=>¬F.O0 x) F.H0) (Gz F2 (none::as.map some++List.replicate N.length none) (L2.start ("self"::x::N) (.ref y::vs')) (upd (upd F.H0 dx (.own y)) y (.ins C dx []))):=fun a u q=>by
   obtain⟨z1,z2⟩:=zl q
   refine yc ?_ (s1 _ _ z2)
   rintro ((z|z|z)|⟨i,b,s,e,_,f⟩)
   ·exact z1 z
   ·rw[z,hy] at z2;cases z2
   ·rw[z,hdx] at z2;cases z2
   ·rcases no i b e with ⟨d,rfl⟩|rfl
    ·exact f.elim
    ·exact f.elim
  have m2:M F2 (none::as.map some++List.replicate N.length none) (L2.start ("self"::x::N) (.ref y::vs')) (upd (upd F.H0 dx (.own y)) y (.ins C dx [])):=by
   refine⟨by unfold L2.start;simp[hl,hl1],fun i a s e1 e2=>?_,fun i j a b s t x e1 _ _ _ f=>?_,fun i r q z=>(by rcases no i _ z with ⟨d,w⟩|w<;>cases w),t2,fun z u h _=>s1 z u h,fun z hz=>?_⟩
   ·obtain⟨j,rfl,hj⟩:=g e1
    obtain⟨v,h1,h2⟩:=at' rv hj
    rw[gv h1] at e2;cases e2
    rcases no _ a e1 with ⟨d,rfl⟩|rfl
    ·exact⟨v,rfl,AV.same gs h2⟩
    ·obtain⟨t',b,c,h3,rfl⟩:=h2
     exact⟨t',b,c,h3,rfl⟩
   ·rcases no i a e1 with ⟨d,rfl⟩|rfl
    ·exact f.elim
    ·exact f.elim
   ·rcases hz with q|q|q
    ·obtain⟨u,hu,hn⟩:=o z q
     exact⟨u,s1 _ _ hu,hn⟩
    ·exact⟨_,by rw[q];exact zi,fun _ q=>by cases q⟩
    ·exact⟨_,by rw[q,zg hne];exact zi,fun _ q=>by cases q⟩
  refine hbody cdv A' outer s _ E as Q' hr hφ F2 _ _ _ m2 fun d v H2 qd t3 k3 r3=>?_
  obtain⟨l,xs,rfl,hl0,hl2,avl⟩:=r3
  obtain⟨nol,qd⟩:=qd
  have nly:l≠y:=fun z=>by rw[z,zi] at hl0;cases hl0
  have nldx:l≠dx:=fun z=>by rw[z,zg hne,zi] at hl0;cases hl0
  have hl00:F.H0 l=none:=by rw[zg nly,zg nldx] at hl0;exact hl0
  have nol0:¬F.O0 l:=fun z=>by obtain⟨u,hu,_⟩:=o l z;rw[hl00] at hu;cases hu
  have nty:NT F2 y:=t.nt noy
  have hy2:H2 y=some (.ins C dx []):=k3 _ _ zi nty
  refine⟨.ref y,rfl,y,C,dx,[],rfl,hy2,c,na,by show 0<1000;decide,?_⟩
  refine kk _ _ qd ⟨(t.re t3 rfl).updO noy (iH hy2),fun z u h n=>?_,?_⟩
  ·rw[zg (zk h hy)]
   exact k3 _ _ (s1 _ _ h) n
  ·refine AV.ins (yc ⟨noy,fun xs z=>by rw[hy] at z;cases z⟩ zi) (.cons (.lst (yc ⟨nol0,fun xs z=>by rw[hl00] at z;cases z⟩ (by rw[zg nly];exact hl2)) ?_) .nil)
   refine avl.noL (fun a u hno z=>?_) nol
   obtain⟨z1,z2⟩:=zl z
   have na:a≠y:=fun w=>z1.1 (.inl (.inr (.inl w)))
   refine yc ⟨fun w=>z1.1 (.inl (.inl w)),fun xs w=>?_⟩ (by rw[zg na];exact z2)
   have:H2 a=some (.lst xs):=k3 _ _ (s1 _ _ w) (t.nt fun w=>z1.1 (.inl (.inl w)))
   rw[z2] at this
   cases this
   exact hno trivial
end
section
variable {X:Cx}{α:Ev}{e e':Expr}{pos:Pos}{E:wa}{sts:List Stmt}
end
def Itv (K:PySem.W.Frag)(a:Addr)(n:Nat):It:=
 ⟨fun i H=>∃xs x,SqL K H a xs∧xs.length=n∧i<n∧xs[n-1-i]?=some x,fun i H x H'=>H'=H∧∀xs,SqL K H a xs→xs[n-1-i]?=some x,fun i H=>n≤i⟩
theorem gH {P:Program}{w:World}{K:PySem.W.Frag}{tg:Expr}(a it:Addr)(n:Nat):Turn P w K tg (Itv K a n) [it] it (fun i h=>i≤n∧h.IsRevIter it a ((n:Int)-1-(i:Int))) where
 mem:=by simp
 obj:=fun i h st b hb=>by
  have e:b=it:=by simpa using hb
  subst e
  obtain⟨_,o,e,c,d⟩:=st
  exact⟨o,e,fun v z=>by rw[d] at z;cases z⟩
 keep:=fun i h h' st k=>⟨st.1,st.2.at fun o e=>k it (by simp) o e⟩
 item:=by
  intro X hP hw hK hc i pins s σ H E I hf st hg
  subst hP hw hK
  obtain⟨xs,x,hq,hl,hi,hx⟩:=hg
  obtain⟨its,rv,p,hz⟩:=I.list hq
  obtain⟨u,hu,ru⟩:=rv.get hx
  obtain⟨f0,f1,f2,f3,f4,f5⟩:=hf it (by simp)
  have e1:((n:Int)-1-(i:Int))=((n-1-i:Nat):Int):=by omega
  have st':=st.2
  rw[e1] at st'
  refine wpAny_pyNext_rev_item st' p.isList (x:=u) (by simpa using hu) fun h' st2 sb=>?_
  have I1:Inv X pins σ H {s with heap:=h'}:=I.turned (t':=s.toks) (fun b o hb e=>(sb.2 b hb).trans e) f0 f1 f3 f4 f5
  obtain⟨o,e,c,d⟩:=id st2
  have e2:(((n-1-i:Nat):Int)-1)=(n:Int)-1-((i+1:Nat):Int):=by omega
  rw[e2] at st2
  exact⟨u,rfl,fL (s:={s with heap:=h'}) e c d (by decide) ⟨x,H,I1,ru,⟨rfl,fun ys hy=>by rw[I.list_inj hy hq];exact hx⟩,⟨hi,st2⟩,fun b hb=>(hf b hb).1⟩⟩
 done:=by
  intro X hP hw hK hc i pins s σ H E I hf st hg
  subst hP hw hK
  have hi:i=n:=Nat.le_antisymm st.1 hg
  obtain⟨f0,f1,f2,f3,f4,f5⟩:=hf it (by simp)
  have st':=st.2
  rw[show ((n:Int)-1-(i:Int))=-1 by omega] at st'
  exact wpAny_pyNext_rev_end (I.ok.hd hc) st' fun h' eb=>⟨rfl,I.turned (t':=s.toks) (fun b o hb e=>eb b o hb e) f0 f1 f3 f4 f5⟩
 self:=fun A i s Q E st h=>wpAny_pyIter_revIter st.2 h
section
variable {X:Cx}{α:Ev}{tg:Expr}{p pos:Pos}{a:Expr}
def zp8 (K:PySem.W.Frag)(ta:TA):TI:=fun σ H R=>ta σ H fun vs H1=>∃l xs,vs=[.ref l]∧SqL K H1 l xs∧R (Itv K l xs.length) H1
theorem ze2 {ta:TA}(hg:Gl X "reversed")(hm:X.mg "reversed"=none)(ha:PA X [a] ta)(hs:starEach [a] X.env=[(false,eval a X.env)]:=by rfl):PI X tg (.Call (.Name "reversed" p) [a] [] pos) (zp8 X.K ta):=by
 intro pins s σ H R I h
 refine Call_ (wF I hg hm boot_reversed (zx1 (thn (ha pos pins s σ H _ I h) fun us s1 ⟨vs,H1,I1,r1,q1⟩=>?_) hs rfl))
 obtain⟨l1,xs,e,hq1,q⟩:=q1
 subst e
 obtain⟨u,rfl,ru⟩:=Vals.one r1
 cases (show u=Value.ref l1 from ru)
 obtain⟨its1,rv1,p1,hz1⟩:=I1.list hq1
 have hlen:=rv1.length
 refine call_reversed_list p1.isList ?_
 have it0:({s1 with heap:=s1.heap.push (revObj l1 ((its1.toArray.size:Int)-1))}:Shared).heap.IsRevIter s1.heap.objs.size l1 ((xs.length:Int)-1-((0:Nat):Int)):=by
  refine⟨_,zt8 _ rfl,rfl,?_⟩
  show Data.fields _=_
  rw[zt1,hlen]
  simp
 refine wpAny_pyIter_revIter it0 ?_
 refine⟨_,_,_,_,H1,rfl,I1.kept (t':=s1.toks) fun b o e=>zs5 _ e,gH l1 _ xs.length,⟨zt6 _,it0⟩,fun b hb=>?_,q⟩
 have e:b=s1.heap.objs.size:=by simpa using hb
 subst e
 exact I1.fpOk (zs9 _) (I1.hok.fresh (zs9 _))
theorem zc1 {Q:List PyData→Prop}(hg:Gl X "reversed")(hm:X.mg "reversed"=none)(h:EvD X α a fun x=>∃ds,x=.list ds∧Q ds.reverse)(hs:starEach [a] X.env=[(false,eval a X.env)]:=by rfl):
  EvI X α tg (.Call (.Name "reversed" p) [a] [] pos) Q:=fun F σ H R m k=>by
 refine⟨_,ze2 hg hm (zc zq zt hs) hs,?_⟩
 refine h F σ H _ m fun x vx H1 q1 t1 k1 r1=>?_
 obtain⟨ds,rfl,q⟩:=q1
 obtain⟨l1,xs,rfl,g1,g2⟩:=r1.lst_inv
 refine⟨l1,xs,rfl,SqL.of (zl g1).2,k _ _ H1 q t1 k1 fun i H3 p s=>⟨fun d hd=>?_,fun hl=>?_⟩⟩
 ·have s1:=SqL.of (K:=X.K) (zl (s _ _ g1)).2
  have hi:i<ds.length:=by
   have:=(zt0.mp hd).1
   rwa [zD2] at this
  rw[List.getElem?_reverse hi] at hd
  obtain⟨x1,hx1,av1⟩:=g2.get hd
  rw[←g2.length] at hx1
  refine⟨⟨xs,x1,s1,rfl,by rw[g2.length];exact hi,hx1⟩,fun v H4 y=>?_⟩
  obtain⟨rfl,hy⟩:=y
  have:=hy _ s1
  rw[hx1] at this;cases this
  exact⟨zy.refl _,fun _=>av1.same s⟩
 ·rw[zD2,←g2.length] at hl
  exact hl
end
def EnS (w:World):List DictEntry→List (Str×V)→Prop:=Paired fun e p=>e.hash=hashStr w p.1∧(∃t,e.key=.str p.1 t)∧RelV p.2 e.val
def kL (K:PySem.W.Frag)(w:World)(d:Addr)(tb:List (Str×V)):Prop:=
 ∃es n,K.lookup d=some ⟨.type "dict",none,.dict es n,#[]⟩∧EnS w es.toList tb∧(tb.map (·.1)).Nodup
theorem rZ {P:Program}{w:World}:∀{es:List DictEntry} {tb:List (Str×V)},EnS w es tb→Pairs (PySem.strKind P w) es (List.zipWith (fun e (p:Str×V)=>(p.1,e.val)) es tb)
 |_,_,.nil=>.nil
 |e::_,p::_,.cons ⟨_,⟨t,ek⟩,_⟩ r=>.cons (by rw[ek];simp[PySem.strKind,Value.isStrOf]) rfl (rZ r)
theorem kd {w:World}:∀{es:List DictEntry} {tb:List (Str×V)},EnS w es tb→(List.zipWith (fun e (p:Str×V)=>(p.1,e.val)) es tb).map (·.1)=tb.map (·.1)
 |_,_,.nil=>rfl
 |_,_,.cons _ r=>by simp only[List.zipWith_cons_cons,zw5,kd r]
theorem oX {P:Program}{w:World}:∀{es:List DictEntry} {tb:List (Str×V)},EnS w es tb→∀e∈es,∃k,(PySem.strKind P w).is k e.key=true∧e.hash=(PySem.strKind P w).hash k
 |_,_,.nil,e,he=>by simp at he
 |_,_,.cons (b:=p) ⟨h1,⟨t,ek⟩,_⟩ r,e,he=>by
  rcases zs8.mp he with rfl|he
  ·exact⟨p.1,by rw[ek];simp[PySem.strKind,Value.isStrOf],h1⟩
  ·exact oX r e he
theorem kX {w:World}{x:Str}{v:V}:∀{es:List DictEntry} {tb:List (Str×V)},EnS w es tb→tb.lookup x=some v→∃u,valueAt (List.zipWith (fun e (p:Str×V)=>(p.1,e.val)) es tb) x=some u∧RelV v u
 |_,_,.nil,e=>by simp at e
 |e::es,p::tb,.cons ⟨_,_,rv⟩ r,h=>by
  obtain⟨y,z⟩:=p
  by_cases q:x=y
  ·subst q
   simp only[List.lookup_cons_self,Option.some.injEq] at h
   subst h
   exact⟨e.val,by simp[valueAt],rv⟩
  ·rw[zw0,zB3.mpr q] at h
   obtain⟨u,h1,h2⟩:=kX r h
   refine⟨u,?_,h2⟩
   rw[←h1]
   simp[valueAt,zx0,zv8 q]
section
variable {X:Cx}{α:Ev}{p pos:Pos}{a:Expr}{g:Str}{Q:PyData→Prop}
def fH (i:Expr):Prop:=∀ov iv,subscripted i false ov iv=operate [ov,iv] (getItem ov iv)
theorem zi8 {prog:Program}{w:World}{A:Around}{E:Value→Shared→Prop}{s:Shared}{env:Env}{value slice:Expr}{pos:Pos}{T id:String}{Q:Value→Shared→Prop}
  (hl:typeLookup (.type T) "__getitem__"=pure (some (.builtin id))) (hs:fH slice)
  (h:wpAny (model prog w) A (eval value env) (fun o s₁=>wpAny (model prog w) A (eval slice env) (fun i s₂=>s₂.TypeIs o T∧wpAny (model prog w) A (getItem o i) Q E s₂) E s₁) E s):
  wpAny (model prog w) A (eval (.Subscript value slice pos) env) Q E s:=by
 refine Subscript_ (thn h fun o s₁ h₁=>thn h₁ fun i s₂ h₂=>?_)
 obtain⟨hT,h₂⟩:=h₂
 unfold subscriptTail
 refine zs3 ?_
 rw[getitemInPython_of_ne hT.not_modules]
 refine zs3 (wpAny_specialOf hT hl ?_)
 have fin:wpAny (model prog w) A (subscripted slice false o i) (fun r s₃=>wpAny (model prog w) A (letTemporaryGo value o r >>= fun _=>pure r) Q E s₃) E s₂:=by
  rw[hs o i]
  exact wpAny_operating (thn h₂ fun r s₃ h₃=>zs3 (wpAny_letTemporaryGo (zt2 h₃)))
 first
  |exact zt2 (zs3 fin)
  |exact zs3 (zt2 (zs3 fin))
  |exact zs3 fin
theorem eS {d:Addr}{tb:List (Str×V)}{ty:TE}(hg:Gl X g)(hm:X.mg g=some (.ref d))(hd:kL X.K X.w d tb)(hi:PE X a ty)(hs:fH a)(hb:(g == ("__debug__":Str))=false:=by decide):
  PE X (.Subscript (.Name g p) a pos) (fun σ H Q=>ty σ H fun y H1=>∃x v,y=.str x∧tb.lookup x=some v∧Q v H1):=by
 intro pins s σ H Q I h
 refine zi8 zD5.lookup hs (tu I hg hm (thn (hi pins s σ H _ I h) fun iv s2 ⟨y,H2,I2,ry,x,v,ey,ex,q2⟩=>?_) hb)
 subst ey
 obtain⟨t,rfl⟩:=ry
 obtain⟨es,n,hl,he,hn⟩:=hd
 have dd:s2.heap.DictOf (PySem.strKind X.prog X.w) d (List.zipWith (fun e (p:Str×V)=>(p.1,e.val)) es.toList tb):=
  ⟨_,es,n,I2.kIn _ _ hl,⟨rfl,rfl,rfl⟩,rfl,fun e he'=>oX he e (by simpa using he'),rZ he,by rw[kd he];exact hn⟩
 obtain⟨u,h1,h2⟩:=kX he ex
 exact⟨dd.typeIs,wpAny_getItem_of (show (PySem.strKind X.prog X.w).is x (.str x t)=true by simp[PySem.strKind,Value.isStrOf]) dd.mapOf h1 ⟨v,H2,I2.tok _,h2,q2⟩⟩
def scV :PyData→Option V
 |.none=>some .non
 |.bool b=>some (.bl b)
 |.int i=>some (.int i)
 |.str x=>some (.str x)
 |_=>Option.none
theorem fx {H:Hp}{d:PyData}{v:V}(h:scV d=some v):AV H v d:=by
 cases d<;>simp[scV] at h<;>subst h<;>constructor
theorem gR {d:Addr}{tb:List (Str×V)}(hg:Gl X g)(hm:X.mg g=some (.ref d))(hd:kL X.K X.w d tb)(h:EvD X α a fun y=>∃x d v,y=.str x∧tb.lookup x=some v∧scV d=some v∧Q d)(hs:fH a:=by exact fun _ _=>rfl)
  (hb:(g == ("__debug__":Str))=false:=by decide):EvD X α (.Subscript (.Name g p) a pos) Q:=fun F σ H R m k=>by
 refine⟨_,eS hg hm hd zq hs hb,?_⟩
 refine h F σ H _ m fun y vy H1 q1 t1 k1 r1=>?_
 obtain⟨x,d',v,rfl,h1,h2,q⟩:=q1
 cases r1.str_inv
 exact⟨x,v,rfl,h1,k _ _ H1 q t1 k1 (fx h2)⟩
end
section
variable {X:Cx}{α:Ev}{p pos:Pos}{a b:Expr}{g:Str}{Q:PyData→Prop}
def tU :List (PyData×PyData)→Str→Option PyData
 |[],_=>none
 |(.str y,d)::r,x=>if y=x then some d else tU r x
 |_::r,x=>tU r x
theorem cR (h0:Heap){v:V}{d:PyData}{u:Value}(h:scV d=some v)(f:PyProof.V.Flat u d):RelV v u:=by
 have r:=f h0
 cases d with
 |none=>cases h;cases r;rfl
 |bool b=>cases h;cases r;rfl
 |int i=>cases h;cases r;exact⟨_,rfl⟩
 |str x=>cases h;cases r;exact⟨_,rfl⟩
 |_=>cases h
theorem qm (h0:Heap){x:Str}{d:PyData}{v:V}(hv:scV d=some v):∀{kvs:List (Str×Value)} {D:List (PyData×PyData)},PyProof.V.FlatPairs PyData.str kvs D→tU D x=some d→∃u,valueAt kvs x=some u∧RelV v u
 |_,_,.nil,e=>by cases e
 |_,_,.cons (k:=k) (v:=u) (d:=d') (kvs:=kvs) (D:=D) f r,e=>by
  unfold tU at e
  by_cases q:k=x
  ·rw[if_pos q] at e
   cases e
   exact⟨u,by simp[valueAt,q],cR h0 hv f⟩
  ·rw[if_neg q] at e
   obtain⟨u',h1,h2⟩:=qm h0 hv r e
   refine⟨u',?_,h2⟩
   rw[←h1]
   simp[valueAt,zx0,q]
theorem gh {keys:List (Option Expr)}{values:List Expr}{D:List (PyData×PyData)}{ty:TE}(hD:litPairs keys values=some D)(h1:strKeyed D=true)(h2:(strKeysOf D).Nodup)(h3:keys.all (·.isSome)=true)(h4:keys.length=values.length)(h5:keys≠[])(h6:keys.length≤15)(hi:PE X a ty)(hs:fH a):
  PE X (.Subscript (.Dict keys values p) a pos) (fun σ H Q=>ty σ H fun y H1=>∃x d v,y=.str x∧tU D x=some d∧scV d=some v∧Q v H1):=by
 intro pins s σ H Q I h
 refine zi8 zD5.lookup hs (Dict_lits_str hD h1 h2 h3 h4 h5 h6 fun ad o h₁ tk hsz ho tab kp=>?_)
 obtain⟨kvs,isd,fl⟩:=tab
 have I1:Inv X pins σ H {s with heap:=h₁,toks:=tk}:=I.kept kp
 have hcell:∀v,o.data≠.cell v:=fun v z=>by
  obtain⟨es,ep,_,e,_⟩:=isd
  rw[e] at z;cases z
 have I1':Inv X ((ad,o)::pins) σ H {s with heap:=h₁,toks:=tk}:=I1.pins_of fun q hq=>by
  rcases zs8.mp hq with rfl|hq
  ·exact⟨ho,I.hok.fresh hsz,fun z=>absurd I.lt (by rw[←z];exact Nat.not_lt.mpr hsz),I.nofs hsz,hcell⟩
  ·exact I1.pin q (by first|exact hq|exact zu6 _ hq|exact zz2 _ hq)
 refine thn (hi _ _ σ H _ I1' h) fun iv s2 ⟨y,H2,I2,ry,x,d,v,ey,ex,hv,q2⟩=>?_
 subst ey
 obtain⟨t,rfl⟩:=ry
 have hp:=I2.pin (ad,o) (by first|exact zt7|exact zu6 _ zt7|exact zz2 _ zt7)
 obtain⟨es,ep,a1,a2,a3,a4,a5⟩:=isd
 have dd:s2.heap.DictOf (PySem.strKind X.prog X.w) ad kvs:=⟨o,es,ep,hp.1,a1,a2,a3,a4,a5⟩
 obtain⟨u,g1,g2⟩:=qm s.heap hv fl ex
 have I3:Inv X pins σ H2 s2:=I2.pins_of fun q hq=>I2.pin q (by rcases zw7.mp (zu6 X.pn hq) with z|z;exact zz2 _ z;exact zu6 _ (zt4 _ z))
 exact⟨dd.typeIs,wpAny_getItem_of (show (PySem.strKind X.prog X.w).is x (.str x t)=true by simp[PySem.strKind,Value.isStrOf]) dd.mapOf g1 ⟨v,H2,I3.tok _,g2,q2⟩⟩
theorem fw {keys:List (Option Expr)}{values:List Expr}{D:List (PyData×PyData)}(hD:litPairs keys values=some D)(h1:strKeyed D=true)(h2:(strKeysOf D).Nodup)(h:EvD X α a fun y=>∃x d v,y=.str x∧tU D x=some d∧scV d=some v∧Q d)
  (h3:keys.all (·.isSome)=true:=by rfl) (h4:keys.length=values.length:=by rfl) (h5:keys≠[]:=by exact List.cons_ne_nil _ _) (h6:keys.length≤15:=by decide) (hs:fH a:=by exact fun _ _=>rfl):EvD X α (.Subscript (.Dict keys values p) a pos) Q:=fun F σ H R m k=>by
 refine⟨_,gh hD h1 h2 h3 h4 h5 h6 zq hs,?_⟩
 refine h F σ H _ m fun y vy H1 q1 t1 k1 r1=>?_
 obtain⟨x,d,v,rfl,g1,g2,q⟩:=q1
 cases r1.str_inv
 exact⟨x,d,v,rfl,g1,g2,k _ _ H1 q t1 k1 (fx g2)⟩
end
section
variable {X:Cx}{α:Ev}{p pos:Pos}{a b:Expr}{Q:PyData→Prop}
end
section
variable {X:Cx}{α:Ev}{a e:Expr}{pos p2 p3 p4:Pos}{n1:Nat}{te:TE}
end
def dG (T:Addr)(H:Hp):Prop:=∀b:Addr,H b=none∨b=T∨∃o xs,H b=some (.frz o (.lst xs))
theorem js {P:Program}{w:World}{K:PySem.W.Frag}{mg mb:Str→Option Value}{CX:CXT}{k:Nat}{fa a T:Addr}{fd:FuncData}{x:Str}{sp:Sp}{s₁:Shared}{vs:List Value}{ns:List Int}{ps:Array Value}
  (KX:K.In s₁.heap) (hns:s₁.heap.Ns mainGlobals mg) (hb:s₁.heap.Ns builtinsNs mb) (hbb:∀x:Str,x≠"__name__"→mb x=bootBuiltins x) (hlim:s₁.heap.NoLimit) (hg:s₁.gens=#[])
  (ha:s₁.heap.get? a=some {cls:=.type "list",data:=.seq vs.toArray}) (hi:IntsAre vs ns) (hl:ns.length≤sizeLine) (hr:zP k callerA)
  (hT:s₁.heap.get? T=some (PySem.W.tabObj ps)) (hKT:K.lookup T=none) (hct:isCodeTable s₁.heap T)
  (hbm:∃bm ob,mg "__builtins__"=some (.ref bm)∧bm≠builtinsNs∧s₁.heap.get? bm=some ob∧ob.cls=.type "module"∧ob.dict=some builtinsNs∧ob.data=.plain)
  (F:∀base:Heap,K.In base→base.Ns mainGlobals mg→base.BuiltinsAt mg T→zB P w K mg base CX k fa fd [x] sp) (hbind:∀(s:Shared) (u:Value),BindsTo s fd ⟨[u],[]⟩ [(x,u)])
  (hsp:∀H:Hp,dG T H→H T=some (.tbl ps)→SqL K H a (ns.map V.int)→sp [.ref a] H (fun v _=>v=.bl true) fun _ _ _=>False)
  (hCX:∀H e s',CX [] H s₁ (fun _ _ _=>False) e s'→False):
  codeAny (model P w) callerA (.call (.ref fa) ⟨[.ref a],[]⟩) (fun r s'=>r=.ok (.ret (.bool true))∧OldK s₁.heap s'.heap∧s'.os=s₁.os∧AllBare s'.gens) s₁:=by
 have rv:=qg hi
 have lenV:=hi.length
 have haT:a≠T:=fun z=>by rw[z,hT] at ha;cases ha
 have core:∀H:Hp,dG T H→H T=some (.tbl ps)→SqL K H a (ns.map V.int)→HOk P w H s₁.heap→(∀b,H b≠none→b=a∨b=T)→(H a≠none→K.lookup a=none)→
   codeAny (model P w) callerA (.call (.ref fa) ⟨[.ref a],[]⟩) (fun r s'=>r=.ok (.ret (.bool true))∧OldK s₁.heap s'.heap∧s'.os=s₁.os∧AllBare s'.gens) s₁:=by
  intro H hO hHT hS hok hA hK
  have base_of:∀{b:Addr} {o:Obj},s₁.heap.get? b=some o→H b=none→(rj s₁.heap H).get? b=some o:=fun e n=>fh e n
  have noA:∀{b:Addr} {o:Obj} {es:Array DictEntry} {ep:Nat},s₁.heap.get? b=some o→o.data=.dict es ep→H b=none:=fun {b o es ep} e d=>by
   cases q:H b with
   |none=>rfl
   |some u=>
    rcases hA b (by rw[q];simp) with e'|e'
    ·subst e'
     rw[ha] at e;cases e
     have d':Data.seq vs.toArray _=Data.dict es ep:=d
     cases d'
    ·subst e'
     rw[hT] at e;cases e
     have d':Data.fields ps=Data.dict es ep:=d
     cases d'
  have nsK:∀{b:Addr} {m:Str→Option Value},s₁.heap.Ns b m→(rj s₁.heap H).Ns b m:=fun {b m} ⟨o,es,ep,e,d,r⟩=>⟨o,es,ep,base_of e (noA e d),d,r⟩
  have hKb:K.In (rj s₁.heap H):=fun b o e=>base_of (KX b o e) (by
   cases q:H b with
   |none=>rfl
   |some u=>
    rcases hA b (by rw[q];simp) with e'|e'
    ·subst e'
     rw[hK (by rw[q];simp)] at e;cases e
    ·subst e'
     rw[hKT] at e;cases e)
  have hM:Mod K mg (rj s₁.heap H):=⟨hKb,nsK hns,⟨mb,nsK hb,hbb⟩,let ⟨mc,h1,h2⟩:=hlim;⟨mc,nsK h1,h2⟩⟩
  have hBA:(rj s₁.heap H).BuiltinsAt mg T:=by
   obtain⟨bm,ob,b1,b2,b3,b4,b5,b6⟩:=hbm
   have n1:bm≠T:=fun z=>by rw[z,hT] at b3;cases b3;cases b4
   have n2:bm≠a:=fun z=>by rw[z,ha] at b3;cases b3;cases b6
   have n3:bm≠mainGlobals:=fun z=>by
    obtain⟨o,es,ep,e,d,_⟩:=hns
    rw[z,e] at b3;cases b3
    rw[d] at b6;cases b6
   exact⟨bm,ob,b1,b2,n3,n1,base_of b3 (by
    cases q:H bm with
    |none=>rfl
    |some u=>
          rcases hA bm (by rw[q];simp) with e'|e'
          ·exact absurd e' n2
          ·exact absurd e' n1),b4,b5,b6⟩
  have e0:uE P w K mg (rj s₁.heap H) callerA [] s₁ H:=⟨rfl,hM,fun b o e=>ao e,zE0 (jw _ _),trivial,fun b hb=>absurd (show b∈([]:List Addr) from hb) (by simp),hok,.of_eq hg⟩
  refine zG2 ((F _ hKb (nsK hns) hBA).run callerA [] s₁ H ⟨[.ref a],[]⟩ [.ref a] [.ref a] _ _ hr e0 (hbind s₁ (.ref a)) (.cons rfl .nil) (hsp H hO hHT hS)) fun r s' h=>?_
  cases r with
  |error e=>exact (hCX H e s' h).elim
  |ok fl=>
   cases fl with
   |next=>exact False.elim h
   |brk=>exact False.elim h
   |cont=>exact False.elim h
   |ret u=>
    obtain⟨v,H',os,bare,un,hok',r',q⟩:=h
    have q':v=.bl true:=q
    subst q'
    obtain rfl:u=Value.bool true:=r'
    have old:∀b o,s₁.heap.get? b=some o→asItWas s₁.heap s'.heap b o:=fun b o e=>by
     cases q:H b with
     |none=>exact .inl (un.keep b o e q (by intro z;exact absurd (show b∈([]:List Addr) from z) (by simp)) (by simp))
     |some u=>
      rcases hO b with z|z|⟨ob,xs,z⟩
      ·rw[q] at z;cases z
      ·subst z
       obtain⟨more,hm⟩:=un.tbls _ _ hHT
       have e2:s'.heap.get? b=some {cls:=.none,data:=.fields (ps++more)}:=hok' _ _ hm
       rw[hT] at e;cases e
       exact .inr (.inl ⟨hct,rfl,ps,more,rfl,e2⟩)
      ·have z2:=un.frzs b ob _ z
       obtain⟨e1,_⟩:=hok b _ z
       obtain⟨e2,_⟩:=hok' b _ z2
       rw[e] at e1;cases e1
       exact .inl e2
    refine⟨rfl,⟨old,fun b o e=>?_⟩,os,bare⟩
    rcases old b o e with z|⟨_,_,_,_,_,z⟩|⟨_,_,⟨o',_,_,z,_⟩,_⟩
    ·exact⟨_,z⟩
    ·exact⟨_,z⟩
    ·exact⟨_,z⟩
 cases hk:K.lookup a with
 |some o=>
  have e:=KX a o hk
  rw[ha] at e
  cases e
  refine core (fun b=>if b=T then some (.tbl ps) else none) (fun b=>?_) (if_pos rfl) (.inr ⟨_,vs.toArray,_,hk,rfl,rfl,rfl,by rw[zt1,lenV];exact hl,by simpa using rv⟩) (fun b u z=>?_) (fun b z=>?_) fun z=>absurd (if_neg haT) z
  ·by_cases h:b=T
   ·exact .inr (.inl h)
   ·exact .inl (if_neg h)
  ·by_cases h:b=T
   ·have z':=(if_pos h).symm.trans z
    cases z'
    subst h
    exact hT
   ·have z':=(if_neg h).symm.trans z
    cases z'
  ·by_cases h:b=T
   ·exact .inr h
   ·exact absurd (if_neg h) z
 |none=>
  refine core (fun b=>if b=T then some (.tbl ps) else if b=a then some (.frz {cls:=.type "list",data:=.seq vs.toArray} (.lst (ns.map V.int))) else none) (fun b=>?_) (if_pos rfl) (.inl (.inr ⟨{cls:=.type "list",data:=.seq vs.toArray},(if_neg haT).trans (if_pos rfl)⟩)) (fun b u z=>?_) (fun b z=>?_) fun _=>hk
  ·by_cases h:b=T
   ·exact .inr (.inl h)
   ·by_cases hb:b=a
    ·exact .inr (.inr ⟨_,_,(if_neg h).trans (if_pos hb)⟩)
    ·exact .inl ((if_neg h).trans (if_neg hb))
  ·by_cases h:b=T
   ·have z':=(if_pos h).symm.trans z
    cases z'
    subst h
    exact hT
   ·have z:=(if_neg h).symm.trans z
    by_cases hb:b=a
    ·have z':=(if_pos hb).symm.trans z
     cases z'
     subst hb
     exact⟨ha,by rw[zs4];exact hl,vs,_,rv,ha⟩
    ·have z':=(if_neg hb).symm.trans z
     cases z'
  ·by_cases h:b=T
   ·exact .inr h
   ·by_cases hb:b=a
    ·exact .inl hb
    ·exact absurd ((if_neg h).trans (if_neg hb)) z
theorem gD {l:PySem.W.OpenLaw}{n k:Nat}{q:Program}{loose:List Str}{XP:(Str→Option Value)→Heap→Prop}{YP:World→Heap→Prop}{d:DefRec}{K:Params→PySem.W.Frag}{CX:World→CXT}{sp:World→Sp}{x:Str}{T c:Addr}{ps:Array Value}
  (hn:l.most=some n) (hn2:n≤sizeLine) (hdf:d.params.defaults=[]) (hr:zP k callerA)
  (hY:∀(w:World) (h:Heap),YP w h→(K w.params).In h) (hYT:∀(w:World) (h:Heap),YP w h→h.get? T=some (PySem.W.tabObj ps))
  (hNo:∀w:World,(K w.params).lookup T=none) (hTab:∀w:World,∃o vs,(K w.params).lookup c=some o∧o.cls=.type "code"∧o.data=.fields vs∧vs[11]?=some (.ref T))
  (F:∀(w:World) (mg:Str→Option Value) (fa:Addr) (h:Heap),(K w.params).In h→h.Ns mainGlobals mg→mg d.name=some (.ref fa)→
   ∃fd:FuncData,(∀(s:Shared) (u:Value),BindsTo s fd ⟨[u],[]⟩ [(x,u)])∧
    ∀base:Heap,(K w.params).In base→base.Ns mainGlobals mg→base.BuiltinsAt mg T→zB l.prog w (K w.params) mg base (CX w) k fa fd [x] (sp w))
  (hsp:∀(w:World) (H:Hp) (a:Addr) (ns:List Int),ns.length≤n→dG T H→H T=some (.tbl ps)→SqL (K w.params) H a (ns.map V.int)→sp w [.ref a] H (fun v _=>v=.bl true) fun _ _ _=>False)
  (hCX:∀(w:World) (H:Hp) (s:Shared) (e:Value) (s':Shared),CX w [] H s (fun _ _ _=>False) e s'→False):
  PySem.W.WalkO q loose XP YP l.row.toRowW d [] (fun f vs=>PySem.call f vs):=by
 refine Att.attach_call hn hdf fun w s₀ s₁ mg mb fa o pm cd doc a vs ns G Y ho hd hcd hmg hobj hints hlen hg=>?_
 have KX:=hY w _ Y
 obtain⟨oc,cv,t2,t3,t4,t5⟩:=hTab w
 obtain⟨fd,hb,hF⟩:=F w mg fa _ KX G.T.g hmg
 exact js KX G.T.g G.T.b G.T.builtins G.T.nolimit hg hobj hints (zw6 hlen hn2) hr (hYT w _ Y) (hNo w) ⟨c,oc,cv,KX _ _ t2,t3,t4,t5⟩ G.T.bmain hF hb (fun H hO hT hS=>hsp w H a ns hlen hO hT hS) fun H e s'=>hCX w H s₁ e s'
theorem TabAt.same {H H':Hp}(T:TabAt H)(h:∀a o,(∀xs,o≠.lst xs)→H a=some o→H' a=some o):TabAt H':=sq T h
section
variable {X:Cx}{pins:List (Addr×Obj)}{σ:St}{H:Hp}{s:Shared}{h':Heap}
theorem Inv.tblMore {t':Nat}{p:Addr}{ps more:Array Value}{H':Hp}(I:Inv X pins σ H s)(h:H p=some (.tbl ps))(k:∀b u,b≠p→s.heap.get? b=some u→h'.get? b=some u)(e:h'.get? p=some (PySem.W.tabObj (ps++more)))
  (hp:H' p=some (.tbl (ps++more))) (hH:∀b,b≠p→b<s.heap.objs.size→H' b=H b) (new:∀b o,s.heap.objs.size≤b→H' b=some o→zY X.prog X.w H' h' b o):
  Inv X pins σ H' {s with heap:=h',toks:=t'}:=by
 have ne:∀b,H b=none→b≠p:=fun b n z=>by rw[z,h] at n;cases n
 have nt:∀b o,H b=some o→(∀qs,o≠.tbl qs)→b≠p:=fun b o q n z=>by rw[z,h] at q;cases q;exact n _ rfl
 have lt:∀b o,H b=some o→b<s.heap.objs.size:=fun b o q=>by
  rcases zB0 b s.heap.objs.size with z|z
  ·exact z
  ·rw[I.hok.fresh z] at q;cases q
 have st:∀b o,H b=some o→(∀qs,o≠.tbl qs)→H' b=some o:=fun b o q n=>by rw[hH b (nt b o q n) (lt b o q)];exact q
 refine I.un ⟨fun b o q n _ _=>k b o (ne b n) q,fun b o q n _ _=>⟨o.slots,k b o (ne b n) q⟩,fun b o q n _=>by rw[hH b (ne b n) (zt3 q)];exact n,fun b o q _=>?_,fun b xs q=>st b _ q (fun _ z=>by cases z),fun b o u q=>st b _ q (fun _ z=>by cases z),fun b qs q=>?_⟩ fun b u q=>?_
 ·by_cases z:b=p
  ·exact⟨_,by rw[z];exact e⟩
  ·exact⟨o,k b o z q⟩
 ·by_cases z:b=p
  ·subst z
   rw[h] at q;cases q
   exact⟨more,hp⟩
  ·exact⟨#[],by rw[hH b z (lt b _ q),q];simp⟩
 ·by_cases z:b=p
  ·subst z
   rw[hp] at q;cases q
   exact e
  ·rcases zB0 b s.heap.objs.size with l|l
   ·rw[hH b z l] at q
    refine (I.hok b u q).stay (fun c v hc r=>k c v (fun w=>?_) r) (fun c r=>st c _ r fun _ z=>by cases z) fun c xs r=>st c _ r fun _ z=>by cases z
    subst w
    rcases hc with rfl|hc
    ·exact z rfl
    ·rw[h] at hc;cases hc
   ·exact new b u l q
def mq (f c:Addr)(qual:Str)(params:Arguments)(body:Expr)(scope:Scope)(clos:List (Str×Addr)):HO:=
 .ext fun h=>∃(pm ctv:Value),h.get? f=some (PySem.W.kla_obj "<lambda>" qual params body scope clos pm c ctv)
theorem bq {P:Program}{w:World}{H:Hp}{h:Heap}{c:Addr}(r:h.CodeRec (.ref c) xC):zY P w H h c (uM c):=by
 refine⟨r,?_,fun h1 h2 p k=>?_⟩
 ·obtain⟨c',o,vs,t,e1,e2,_⟩:=r
  cases e1
  exact⟨o,e2⟩
 ·obtain⟨c',o,vs,t,e1,e2,e3⟩:=p
  cases e1
  exact⟨c,o,vs,t,rfl,k _ e2,e3⟩
theorem eL {P:Program}{w:World}{H:Hp}{h:Heap}{f c:Addr}{qual:Str}{params:Arguments}{body:Expr}{scope:Scope}{clos:List (Str×Addr)}{pm ctv:Value}(r:h.get? f=some (PySem.W.kla_obj "<lambda>" qual params body scope clos pm c ctv)):zY P w H h f (mq f c qual params body scope clos):=
 ⟨⟨pm,ctv,r⟩,⟨_,r⟩,fun h1 h2 ⟨pm',ctv',p⟩ k=>⟨pm',ctv',k _ p⟩⟩
theorem lW {pos:Pos}{a b:Int}{c cv:Value}(l:List Value):TriplesOk l→codeAmong pos (l++[rawInt a,rawInt b,c])=some cv→codeAmong pos l=some cv∨cv=c:=by
 induction l using TriplesOk.induct with
 |case1=>
  intro _ h
  rw[zB8,rawInt,rawInt,codeAmong.eq_1] at h
  split at h
  ·cases h;exact .inr rfl
  ·rw[codeAmong.eq_2 _ _ (by intro _ _ _ _ _ _ z;cases z)] at h;cases h
 |case2 i t j u d rest ih=>
  intro ok h
  rw[TriplesOk.eq_2] at ok
  rw[zC8,zC8,zC8,codeAmong.eq_1] at h
  rw[codeAmong.eq_1]
  split at h
  ·rename_i z
   rw[if_pos z];exact .inl h
  ·rename_i z
   rw[if_neg z];exact ih ok h
 |case3 t h1 h2=>
  intro ok
  rw[TriplesOk.eq_3 t h1 h2] at ok
  exact ok.elim
theorem fo {params:Arguments}{body:Expr}{scope:Scope}{lpos:Pos}{clos:List (Str×Addr)}{c:Addr}(I:Inv X pins σ H s)(hcl:closureFor scope X.env=pure clos)(hgl:X.env.globals=mainGlobals)(hco:X.env.code=.ref c)(hhd:PySem.W.CodeHd X.base c yr)
  (hbi:X.base.BuiltinsAt X.mg yr) (hdf:defaultsOf params X.env=([],[])) (hq:X.env.qual++("<lambda>":Str)=xC) (hne:mainGlobals≠yr) (T:TabAt H) {Q:Value→Shared→Prop}
  (h:∀(f c':Addr) (H':Hp) (s':Shared),Inv X pins σ H' s'→TabAt H'→(∀a o,a≠yr→H a=some o→H' a=some o)→(∀a ps,H a=some (.tbl ps)→∃qs,H' a=some (.tbl qs))→H f=none→H' f=some (mq f c' xC params body scope clos)→H' c'=some (uM c')→Q (.ref f) s'):
  wpAny (model X.prog X.w) X.A (eval (.Lambda params body scope lpos) X.env) Q X.xe s:=by
 refine PySem.W.kla_eval hdf ?_
 rw[hq]
 obtain⟨ps,t1,t2,t3⟩:=T.ex
 have hT:s.heap.get? yr=some (PySem.W.tabObj ps):=I.hok _ _ t1
 have hb:∀b o,X.base.get? b=some o→s.heap.get? b=some o:=fun b o e=>(I.bs b o e).1
 have hhd':PySem.W.CodeHd s.heap c yr:=by
  obtain⟨o,vs,f1,f2,f3,f4,f5,f6,f7,e1,e2⟩:=hhd
  exact⟨o,vs,f1,f2,f3,f4,f5,f6,f7,hb _ _ e1,e2⟩
 have hbi':s.heap.BuiltinsAt X.mg yr:=by
  obtain⟨bm,o,e1,e2,e3,e4,e5,e6⟩:=hbi
  exact⟨bm,o,e1,e2,e3,e4,hb _ _ e5,e6⟩
 have hns:s.heap.Ns mainGlobals X.mg:=by
  obtain⟨o,es,ep,e,d,r⟩:=I.ok.mod.glob
  exact⟨o,es,ep,hb _ _ e,d,r⟩
 cases hc:codeAmong lpos ps.toList with
 |none=>
  refine PySem.W.kla_makeFunction hcl hgl hns hco hhd' hT t2 hc hne hbi' fun c' ctv h' tk ex l1 l2 cr ht=>?_
  have hlt:c'<(h'.push (PySem.W.kla_obj "<lambda>" xC params body scope clos ((X.mg "__name__").getD Value.none) c' ctv)).objs.size:=by rw[size_push'];omega
  have n1:(c':Addr)≠h'.objs.size:=zu4 l2
  have szT:yr<s.heap.objs.size:=zt3 hT
  have n2:(c':Addr)≠yr:=zA9 (zu5 szT l1)
  have lf:s.heap.objs.size≤h'.objs.size:=zy5 (Nat.lt_of_le_of_lt l1 l2)
  have n3:(h'.objs.size:Addr)≠yr:=zA9 (zu5 szT lf)
  let HN:Hp:=upd (upd (upd H h'.objs.size (mq h'.objs.size c' xC params body scope clos)) c' (uM c')) yr (.tbl (ps++#[rawInt ↑lpos.line,rawInt ↑lpos.col,Value.ref c']))
  have eP:HN yr=some (.tbl (ps++#[rawInt ↑lpos.line,rawInt ↑lpos.col,Value.ref c'])):=zi
  have eC:HN c'=some (uM c'):=by show upd _ _ _ _=_;rw[zg n2,zi]
  have eF:HN h'.objs.size=some (mq h'.objs.size c' xC params body scope clos):=by show upd _ _ _ _=_;rw[zg n3,zg n1.symm,zi]
  have old:∀b,b≠yr→b<s.heap.objs.size→HN b=H b:=fun b nb lb=>by
   show upd _ _ _ _=_
   rw[zg nb,zg (zu4 (zu5 lb l1)),zg (zu4 (zu5 lb lf))]
  have I1:Inv X pins σ HN {s with heap:=h'.push (PySem.W.kla_obj "<lambda>" xC params body scope clos ((X.mg "__name__").getD Value.none) c' ctv),toks:=tk}:=by
   refine I.tblMore (more:=#[rawInt ↑lpos.line,rawInt ↑lpos.col,Value.ref c']) t1 (fun b u nb e=>zs5 _ (ex b u nb e)) (zs5 _ ht) eP old fun b o lb e=>?_
   by_cases z1:b=h'.objs.size
   ·subst z1
    rw[eF] at e;cases e
    exact eL (zt8 _ rfl)
   ·by_cases z2:b=c'
    ·subst z2
     rw[eC] at e;cases e
     obtain⟨c2,o,vs,t,e1,e2,e3⟩:=cr
     cases e1
     exact bq ⟨_,o,vs,t,rfl,zs5 _ e2,e3⟩
    ·have nb:b≠yr:=fun z=>absurd lb (Nat.not_le_of_lt (z▸szT))
     have e':HN b=H b:=by show upd _ _ _ _=_;rw[zg nb,zg z2,zg z1]
     rw[e',I.hok.fresh lb] at e;cases e
  have stay:∀a o,a≠yr→H a=some o→HN a=some o:=fun a o no e=>by
   have la:a<s.heap.objs.size:=by
    rcases zB0 a s.heap.objs.size with z|z
    ·exact z
    ·rw[I.hok.fresh z] at e;cases e
   rw[old a no la];exact e
  refine h _ c' HN _ I1 ⟨_,eP,?_,fun pos cv hcv=>?_⟩ stay (fun a qs e=>?_) (I.hok.fresh lf) eF eC
  ·rw[Array.toList_append]
   exact TriplesOk_snoc _ _ _ _ t2
  ·rw[Array.toList_append] at hcv
   rcases lW _ t2 hcv with z|z
   ·obtain⟨c2,rfl,e2⟩:=t3 _ _ z
    exact⟨c2,rfl,stay _ _ (fun z=>by rw[z,t1] at e2;cases e2) e2⟩
   ·exact⟨c',z,eC⟩
  ·by_cases za:a=yr
   ·exact⟨_,by rw[za];exact eP⟩
   ·refine⟨qs,?_⟩
    rw[old a za (by
     rcases zB0 a s.heap.objs.size with z|z
     ·exact z
     ·rw[I.hok.fresh z] at e;cases e)]
    exact e
 |some cv=>
  obtain⟨c',rfl,t4⟩:=t3 _ _ hc
  refine PySem.W.kla_makeFunctionHit hcl hgl hns hco hhd' hT t2 hc hbi' fun ctv h' tk k l=>?_
  have hf:H h'.objs.size=none:=I.hok.fresh l
  have k2:∀b u,s.heap.get? b=some u→(h'.push (PySem.W.kla_obj "<lambda>" xC params body scope clos ((X.mg "__name__").getD Value.none) c' ctv)).get? b=some u:=fun b u e=>zs5 _ (k b u e)
  have I1:=I.laid (t':=tk) (o:=mq h'.objs.size c' xC params body scope clos) k2 l (eL (zt8 _ rfl))
  have n1:∀a o,H a=some o→a≠h'.objs.size:=fun a o e z=>by rw[z,hf] at e;cases e
  refine h _ c' _ _ I1 (T.same fun a o _ e=>by rw[zg (n1 a o e)];exact e) (fun a o _ e=>by rw[zg (n1 a o e)];exact e) (fun a qs e=>⟨qs,by rw[zg (n1 a _ e)];exact e⟩) hf zi ?_
  rw[zg (n1 _ _ t4)];exact t4
end
structure xR (x y:Str)(params:Arguments)(scope:Scope):Prop where
 kind:scope.kind=.function
 co:scope.isCoroutine=false
 gen:scope.isGenerator=false
 px:scope.names.lookup x=some .local
 py:scope.names.lookup y=some .free
 nocell:∀z∈scope.names,z.2≠NameKind.cell
 only:∀z∈scope.names,z.2=NameKind.free→z.1=y
 ne:x≠y
def nP (P:Program)(w:World)(K:PySem.W.Frag)(mg:Str→Option Value)(base:Heap)(x y:Str)(scope:Scope)(f c cl:Addr)(A:Around)(outer:List Env)(s:Shared)(H:Hp):Cx where
 prog:=P
 w:=w
 K:=K
 mg:=mg
 base:=base
 A:=A.deeper (PySem.W.envX xC scope s.heap.objs.size f (.ref c) [(y,cl)])
 N:=[x,y]
 s₀:=s
 H₀:=H
 env:=PySem.W.envX xC scope s.heap.objs.size f (.ref c) [(y,cl)]
 outer:=outer
 stack:=PySem.W.envX xC scope s.heap.objs.size f (.ref c) [(y,cl)]::outer
 ex:=[]
 calm:=true
 fn:=fun _=>false
 pn:=[]
 xe:=fun _ _=>False
theorem jM {P:Program}{w:World}{K:PySem.W.Frag}{mg:Str→Option Value}{base:Heap}{x y:Str}{params:Arguments}{scope:Scope}{f c cl:Addr}{A:Around}{outer:List Env}{s:Shared}{H:Hp}{h':Heap}{tk:Nat}{v l:V}{u ul:Value}
  (S:xR x y params scope) (hd:A.handled=none) (e0:uE P w K mg base A outer s H) (rv:RelV v u) (rl:RelV l ul) (hcl:s.heap.IsCell cl (some ul)) (fcl:H cl=none)
  (ns:h'.Ns s.heap.objs.size fun z=>[(x,u)].reverse.lookup z) (k:∀b o,s.heap.get? b=some o→h'.get? b=some o):
  Inv (nP P w K mg base x y scope f c cl A outer s H) [] [some v,some l] H {s with heap:=h',toks:=tk}:=by
 have noA:∀b:Addr,b∉(nP P w K mg base x y scope f c cl A outer s H).ex:=fun b z=>absurd (show b∈([]:List Addr) from z) (by simp)
 have one:∀z d,(nP P w K mg base x y scope f c cl A outer s H).env.cells.lookup z=some d→z=y∧d=cl:=fun z d h=>by
  have h:List.lookup z [(y,cl)]=some d:=h
  rw[zw0] at h
  split at h
  ·rename_i e
   cases h
   exact⟨eq_of_beq e,rfl⟩
  ·cases h
 have hit:(nP P w K mg base x y scope f c cl A outer s H).env.cells.lookup y=some cl:=by
  show List.lookup y [(y,cl)]=some cl
  simp[zw0]
 have cell':h'.IsCell cl (some ul):=by
  obtain⟨o,e1,e2⟩:=hcl
  exact⟨o,k _ _ e1,e2⟩
 refine⟨⟨e0.mod,S.kind,rfl,rfl,zs9 _,fun a b d h1 h2=>(one a d h1).1.trans (one b d h2).1.symm,fun z hz=>?_,fun z d hf _=>?_,fun _=>hd,Around.frames_deeper e0.frames,.inr ⟨rfl,rfl⟩,fun b z=>absurd z (noA b),e0.bs,e0.bsz,fun b _ _=>noA b,fun b z=>absurd z (noA b),e0.funs,e0.frf⟩,
  rfl,e0.bare,Un.kept k,⟨_,ns,fun i z v' h1 h2 h3=>?_⟩,fun z d h=>?_,e0.hok.fresh (zs9 _),fun z d h=>?_,fun p hp=>absurd (show p∈([]:List (Addr×Obj)) from hp) (by simp),e0.hok.kept k,rfl⟩
 ·have hz:scope.names.lookup z=some .cell∨scope.names.lookup z=some .free:=hz
  rcases hz with hz|hz
  ·exact absurd rfl (S.nocell _ (zw4 hz))
  ·have:z=y:=S.only _ (zw4 hz) rfl
   subst this
   exact⟨cl,hit⟩
 ·exact absurd (show false=true from hf) zu2
 ·have h1:([x,y]:List Str)[i]?=some z:=h1
  match i,h1,h2 with
  |0,h1,h2=>
   cases h1;cases h2
   exact⟨u,rv,.inl ⟨S.px,by simp[zw0]⟩⟩
  |1,h1,h2=>
   cases h1;cases h2
   exact⟨ul,rl,.inr ⟨.inr S.py,cl,hit,cell'⟩⟩
  |i+2,h1,h2=>simp at h1
 ·obtain⟨rfl,rfl⟩:=one z d h
  exact⟨_,cell'⟩
 ·obtain⟨rfl,rfl⟩:=one z d h
  exact fcl
theorem aD {P:Program}{w:World}{K:PySem.W.Frag}{mg:Str→Option Value}{base:Heap}{x y:Str}{params:Arguments}{body:Expr}{scope:Scope}{f c cl:Addr}{A:Around}{outer:List Env}{s:Shared}{H:Hp}{v l:V}{u ul:Value}{k:Nat}{Q:VK}{t:TE}
  (S:xR x y params scope) (hr:zP k A) (e0:uE P w K mg base A outer s H) (hf:H f=some (mq f c xC params body scope [(y,cl)])) (hc:H c=some (uM c)) (hcl:s.heap.IsCell cl (some ul)) (fcl:H cl=none) (rv:RelV v u) (rl:RelV l ul)
  (hb:∀pm ctv,bindArgs (PySem.W.kla_fn "<lambda>" xC params body scope [(y,cl)] pm (.ref c) ctv) ⟨[u],[]⟩=pure [(x,u)])
  (ht:PE (nP P w K mg base x y scope f c cl A outer s H) body t) (hq:t [some v,some l] H Q):
  codeAny (model P w) A (.call (.ref f) ⟨[u],[]⟩) (CR CX0 outer P w H s Q E0) s:=by
 obtain⟨⟨pm,ctv,ho⟩,_,_⟩:=e0.hok _ _ hf
 have cr:s.heap.CodeRec (.ref c) xC:=(e0.hok _ _ hc).1
 have lim:s.heap.NoLimit:=e0.mod.nolimit.keeps fun b o e=>(e0.bs b o e).1
 refine PySem.W.kla_callFunE hr.depth ho rfl S.co S.gen rfl cr ?_
 rw[hb]
 refine zt2 ?_
 refine wpAny_newFunctionEnv S.nocell (fun z hz=>?_) (fun h' ns sb=>?_) S.kind
 ·rw[zu8.mp hz];exact S.px
 ·have kk:∀b o,s.heap.get? b=some o→h'.get? b=some o:=fun b o e=>sb.extBut b o (zu4 (zt3 e)) (zs5 _ e)
  refine⟨lim.keeps kk,PySem.W.kla_codeExpr ?_⟩
  have I:=jM (tk:=s.toks+[(x,u)].length) (f:=f) (c:=c) S hr.hd e0 rv rl hcl fcl ns kk
  refine zv6 (ht [] _ _ H _ I hq) (fun u' s' hs=>?_) fun e s' hs=>hs.elim
  obtain⟨v',H',J,r',q⟩:=hs
  exact⟨v',H',J.os,J.bare,J.base,J.hok,r',q⟩
open PySem.W SortA
section
variable {X:Cx}{pins:List (Addr×Obj)}{σ:St}{H:Hp}{s:Shared}
def eI (X:Cx)(H1 H2:Hp)(s1 s2:Shared):Prop:=∀b o,s1.heap.get? b=some o→H1 b=none→b∉frs X.stack→s2.heap.get? b=some o∧H2 b=none
structure fO (X:Cx)(pins:List (Addr×Obj))(σ:St)(H:Hp)(D kS:Addr)(e1:Nat)(ps:List (Int×Int))(i:Nat)(s':Shared):Prop where
 ex:∃(H':Hp) (ks:List Value) (xs:List V) (e:Nat),Inv X pins σ H' s'∧(∀a o,H a=some o→H' a=some o)∧s'.heap.get? D=some (seqObj "list" #[] e1)∧s'.heap.get? kS=some (seqObj "list" ks.toArray e)∧H' D=none∧H' kS=none∧Vals xs ks∧PrV H' xs (ps.take i)
theorem jK {A:Around}{E:Value→Shared→Prop}{vs:List Value}{ps:List (Int×Int)}{f D kS:Addr}{e1:Nat}{Q:PUnit→Shared→Prop}(hlen:vs.length=ps.length)(h64:vs.length<64)(nD:D∉frs X.stack)(nK:kS∉frs X.stack)(hne:D≠kS)
  (fK:∀H',H' kS=none→xj X pins H' kS)
  (hcall:∀i v,vs[i]?=some v→∀H1 s1,Inv X pins σ H1 s1→(∀a o,H a=some o→H1 a=some o)→
   wpAny (model X.prog X.w) A (call (.ref f) [v]) (fun u s2=>∃t H2,u=.ref t∧Inv X pins σ H2 s2∧(∀a o,H1 a=some o→H2 a=some o)∧H2 t=some (.tup [.int (at2 ps i).1,.int (at2 ps i).2])∧eI X H1 H2 s1 s2) (fun _ _=>False) s1)
  (h0:fO X pins σ H D kS e1 ps 0 s) (hQ:∀s',fO X pins σ H D kS e1 ps vs.length s'→Q PUnit.unit s'):
  wpAny (model X.prog X.w) A (forIn vs PUnit.unit fun x __s=>do
   let __do_lift ←(call (.ref f) [x]).attempt
   match __do_lift with
    |Except.ok k=>do
     Builtin.List.listUpdate (.ref kS) fun x=>x.push k
     pure (ForInStep.yield PUnit.unit)
    |Except.error e=>do
     rule "list.sort.key-raised"
     let made ←Builtin.List.listItems (.ref kS)
     Builtin.List.listUpdate (.ref kS) fun x=>#[]
     letGo made.toList.reverse [e]
     Builtin.List.listUpdate (Value.ref D) fun x=>vs.toArray
     throw e
     pure (ForInStep.yield PUnit.unit)) Q E s:=by
 refine ksk_fold (fO X pins σ H D kS e1 ps) vs 0 s h0 (fun j x s' hj hI=>?_) (fun s' hI=>hQ s' (by simpa using hI))
 obtain⟨H1,ks,xs,e,I1,st,eD,eK,fD,fK',rv,pr⟩:=hI.ex
 rw[Nat.zero_add] at pr ⊢
 have hjl:j<ps.length:=by rw[←hlen];exact (zt0.mp hj).1
 have lks:ks.length=j:=by rw[←rv.length,pr.len,zu9];omega
 refine zs3 (wpAny_attempt (zv6 (hcall j x hj H1 s' I1 st) (fun u s2 hu=>?_) fun _ _ z=>z.elim))
 obtain⟨t,H2,rfl,I2,st2,et,kp⟩:=hu
 obtain⟨eD2,fD2⟩:=kp D _ eD fD nD
 obtain⟨eK2,fK2⟩:=kp kS _ eK fK' nK
 refine zs3 (zB5 eK2 rfl (zt2 ⟨rfl,?_⟩) (by rw[zt1,lks,zv4];omega) (by rw[Array.size_push,zt1,lks,zv4];omega))
 obtain⟨e',hk⟩:∃e',(s2.heap.update kS (Obj.mapSeq fun x=>x.push (Value.ref t))).get? kS=some (seqObj "list" (ks++[Value.ref t]).toArray e'):=by
  have:=zx7 eK2 fun x=>x.push (Value.ref t)
  rw[List.push_toArray] at this
  exact⟨_,this⟩
 have kk:∀b o,b∉[kS]→s2.heap.get? b=some o→(s2.heap.update kS (Obj.mapSeq fun x=>x.push (Value.ref t))).get? b=some o:=fun b o nb q=>(zw2 _ _ (zv8 (by simpa using nb))).trans q
 refine⟨H2,ks++[Value.ref t],xs++[V.ref t],e',I2.turnL (t':=s2.toks) kk (fun b hb=>by rw[zu8.mp hb];exact fK H2 fK2),fun a o q=>st2 a o (st a o q),kk D _ (by simpa using hne) eD2,hk,fD2,fK2,rv.append (.cons rfl .nil),?_⟩
 rw[zC3,zs6 hjl]
 refine PrV.app (pr.keep fun a p q z=>st2 _ _ z) ?_
 have ea:at2 ps j=ps[j]:=by unfold at2;rw[zs7,zs6 hjl];rfl
 rw[ea] at et
 exact .cons et .nil
theorem mL {A:Around}{E:Value→Shared→Prop}{vs:List Value}{ps:List (Int×Int)}{f D:Addr}{n:Nat}{Pf:PySem.Fin→Shared→Prop}(I:Inv X pins σ H s)(ho:s.heap.get? D=some (seqObj "list" vs.toArray n))(hlen:vs.length=ps.length)(h64:vs.length<64)(fD:H D=none)
  (nD:D∉frs X.stack) (fpD:∀H',H' D=none→xj X pins H' D)
  (hcall:∀i v,vs[i]?=some v→∀H1 s1,Inv X pins σ H1 s1→(∀a o,H a=some o→H1 a=some o)→
   wpAny (model X.prog X.w) A (call (.ref f) [v]) (fun u s2=>∃t H2,u=.ref t∧Inv X pins σ H2 s2∧(∀a o,H1 a=some o→H2 a=some o)∧H2 t=some (.tup [.int (at2 ps i).1,.int (at2 ps i).2])∧eI X H1 H2 s1 s2) (fun _ _=>False) s1)
  (h:∀out H' s' c,Srt vs ps out→Inv X pins σ H' s'→(∀a o,H a=some o→H' a=some o)→s'.heap.get? D=some (seqObj "list" out.toArray c)→H' D=none→Pf (.done (.ret .none)) s'):
  wpAny (model X.prog X.w) A (ksk_tree D (.ref f) false) Pf E s:=by
 have hD:D<s.heap.objs.size:=zt3 ho
 have s1:=zy4 s.heap D (Obj.mapSeq fun _=>(#[]:Array Value))
 obtain⟨e1,ho1⟩:∃e1,(s.heap.update D (Obj.mapSeq fun _=>(#[]:Array Value))).get? D=some (seqObj "list" #[] e1):=⟨_,zx7 ho fun _=>#[]⟩
 have hsz1:(s.heap.update D (Obj.mapSeq fun _=>(#[]:Array Value))).objs.size=s.heap.objs.size:=Heap.size_update _ _ _
 unfold ksk_tree
 refine zs3 (listItems_at ho rfl ?_)
 refine zs3 (zB5 ho rfl ?_ (by rw[zt1,zv4];omega) (zt6 _))
 generalize hh1:s.heap.update D (Obj.mapSeq fun _=>(#[]:Array Value))=h1 at s1 ho1 hsz1
 refine zs3 (seqEpoch_at ho1 rfl ?_)
 refine zs3 (wpAny_newTuple ?_ (by show vs.length≤_;rw[zv4];omega))
 refine zs3 (wpAny_newList ?_ (zt6 _))
 refine zx3 ?_
 show wpAny (model X.prog X.w) A (ksk_rest D (.ref f) false vs.toArray e1 (.ref (h1.push (seqObj "tuple" vs.toArray 0)).objs.size)) Pf E {s with heap:=(h1.push (seqObj "tuple" vs.toArray 0)).push (seqObj "list" #[] 0)}
 have kS0:(h1.push (seqObj "tuple" vs.toArray 0)).objs.size=s.heap.objs.size+1:=by rw[size_push',hsz1]
 have eK0:((h1.push (seqObj "tuple" vs.toArray 0)).push (seqObj "list" #[] 0)).get? (h1.push (seqObj "tuple" vs.toArray 0)).objs.size=some (seqObj "list" #[] 0):=zt8 _ rfl
 have eD0:((h1.push (seqObj "tuple" vs.toArray 0)).push (seqObj "list" #[] 0)).get? D=some (seqObj "list" #[] e1):=zs5 _ (zs5 _ ho1)
 have k1:∀b o,b∉[D]→s.heap.get? b=some o→((h1.push (seqObj "tuple" vs.toArray 0)).push (seqObj "list" #[] 0)).get? b=some o:=fun b o hb e=>
  zs5 _ (zs5 _ ((s1.2 b (by simpa using hb)).trans e))
 have I0:Inv X pins σ H {s with heap:=(h1.push (seqObj "tuple" vs.toArray 0)).push (seqObj "list" #[] 0),toks:=s.toks}:=I.turnL k1 fun b hb=>by rw[zu8.mp hb];exact fpD H fD
 generalize (h1.push (seqObj "tuple" vs.toArray 0)).push (seqObj "list" #[] 0)=h2 at eK0 eD0 k1 I0
 generalize hkS:(h1.push (seqObj "tuple" vs.toArray 0)).objs.size=kS at kS0 eK0
 have lK:s.heap.objs.size≤kS:=by rw[kS0];exact zC1 _
 have fK:∀H',H' kS=none→xj X pins H' kS:=fun H' hn=>I.fpOk lK hn
 have nK:(kS:Addr)∉frs X.stack:=fun z=>by
  rcases zs8.mp (I.stkSub _ z) with q|q
  ·exact (I.fpOk (H':=fun _=>none) lK rfl).2.1 q
  ·exact (I.fpOk (H':=fun _=>none) lK rfl).2.2.1 q
 have hne:D≠kS:=zu4 (zu5 hD lK)
 have hK0:H kS=none:=I.hok.fresh lK
 unfold ksk_rest
 refine zs3 (wpAny_rule ?_)
 rw[zH3]
 refine zs3 (jK (s:={s with heap:=h2}) hlen h64 nD nK hne fK hcall ⟨H,[],[],0,I0,fun _ _ q=>q,eD0,eK0,fD,hK0,.nil,.nil⟩ fun s' hI=>?_)
 obtain⟨H1,ks,xs,e,I1,st,eD,eK,fD1,fK1,rv,pr⟩:=hI.ex
 rw[hlen,zC9] at pr
 have lks:ks.length=vs.length:=by rw[←rv.length,pr.len,hlen]
 refine zs3 (listItems_at eK rfl ?_)
 unfold ksk_end
 dsimp only
 rw[if_neg (by decide)]
 have P:Prs s'.heap ks ps:=pr.prs I1 rv
 have tail:∀(st':SortSt) (out:List Value),out.length≤64→Srt vs ps out→failedOf st'=none→(arrOf st').map (·.2)=out.toArray→wpAny (model X.prog X.w) A (ksk_tail D false e1 (.ref kS) st') Pf E s':=by
  intro st' out lo so hf hout
  unfold ksk_tail
  dsimp only
  rw[hout,hf]
  refine zs3 (zB5 eK rfl ?_ (by rw[zt1,lks,zv4];omega) (zt6 _))
  have s3:=zy4 s'.heap kS (Obj.mapSeq fun _=>(#[]:Array Value))
  have eD3:(s'.heap.update kS (Obj.mapSeq fun _=>(#[]:Array Value))).get? D=some (seqObj "list" #[] e1):=(s3.2 D hne).trans eD
  have I3:Inv X pins σ H1 {s' with heap:=s'.heap.update kS (Obj.mapSeq fun _=>(#[]:Array Value)),toks:=s'.toks}:=I1.turnL (ch:=[kS]) (fun b o hb q=>(s3.2 b (by simpa using hb)).trans q) fun b hb=>by rw[zu8.mp hb];exact fK H1 fK1
  generalize s'.heap.update kS (Obj.mapSeq fun _=>(#[]:Array Value))=h3 at eD3 I3
  refine zs3 (wpAny_letGo ?_)
  refine zs3 (seqEpoch_at eD3 rfl ?_)
  rw[if_neg (by decide)]
  refine zs3 (zB5 eD3 rfl ?_ (zt6 _) (by rw[zt1,zv4];omega))
  have s4:=zy4 h3 D (Obj.mapSeq fun _=>out.toArray)
  obtain⟨c4,eD4⟩:∃c4,(h3.update D (Obj.mapSeq fun _=>out.toArray)).get? D=some (seqObj "list" out.toArray c4):=⟨_,zx7 eD3 fun _=>out.toArray⟩
  simp only[bne_self_eq_false,zx9,zC6]
  have I4:=I3.turnL (ch:=[D]) (t':=s'.toks) (h':=h3.update D (Obj.mapSeq fun _=>out.toArray)) (fun b o hb q=>(s4.2 b (by simpa using hb)).trans q) fun b hb=>by rw[zu8.mp hb];exact fpD H1 fD1
  exact zt2 (h out H1 _ c4 so I4 st eD4 fD1)
 by_cases hn2:vs.toArray.size<2
 ·rw[if_pos hn2,if_pos hn2]
  have hv:vs.length<2:=by simpa using hn2
  refine zs3 (zt2 ?_)
  refine zs3 (zt2 ?_)
  dsimp only
  have so:Srt vs ps vs:=by
   match vs,ps,hv,hlen with
   |[],[],_,_=>exact⟨[],rfl,rfl,fun _ h=>by simp at h,.refl _,.nil⟩
   |[v],[p],_,_=>exact⟨[0],rfl,rfl,fun i h=>by simp at h;subst h;simp,.refl _,by simp⟩
   |_::_::_,_,hv,_=>simp only[zu1] at hv;omega
  refine tail _ vs (by omega) so rfl ?_
  rw[if_neg (by decide)]
  show (ks.toArray.zip vs.toArray).map (·.2)=vs.toArray
  apply Array.toList_inj.mp
  rw[Array.toList_map,Array.toList_zip]
  exact List.map_snd_zip (zE0 lks.symm)
 ·rw[if_neg hn2,if_neg hn2,if_neg (by decide)]
  have h2:2≤vs.length:=by simp at hn2;omega
  have ask:=lR (prog:=X.prog) (w:=X.w) (A:=A) (s:=s') (by rw[lks];exact h2) P
   (R:=fun p s''=>Srt vs ps (p.toList.map fun i=>vs.getD i Value.none)∧s''=s') (fun ix a b c d=>⟨⟨ix,by simp,a,b,c,d⟩,rfl⟩)
  refine zs3 (zv6 ask (fun κ s0 hk=>?_) fun _ _ x=>x.elim)
  rw[lks] at hk
  refine zs3 (zv6 (kat_run (Q:=fun st' s''=>∃p:Array Nat,p.size=vs.length∧arrOf st'=p.map (kas_item (ks.toArray.zip vs.toArray))∧failedOf st'=none∧Srt vs ps (p.toList.map fun i=>vs.getD i Value.none)∧s''=s')
   lks h2 h64 (fun p' st' s'' a1 a2 a3 a4=>⟨p',a1,a2,a3,a4⟩) hk) ?_ fun _ _ e=>e)
  rintro⟨⟨⟩,st'⟩ s'' ⟨p,hp,har,hf,so,rfl⟩
  dsimp only
  exact tail st' _ (by rw[so.len,←hlen];omega) so hf (kat_snds lks har)
end
section
variable {X:Cx}{pins:List (Addr×Obj)}{σ:St}{H:Hp}{s:Shared}
theorem Inv.adopt {D:Addr}{o:HO}(I:Inv X pins σ H s)(fp:xj X pins H D)(new:zY X.prog X.w (upd H D o) s.heap D o):Inv X pins σ (upd H D o) s:=by
 have nD:=fp.1
 have st:∀b u,H b=some u→upd H D o b=some u:=fun b u e=>by rw[zg (zk e nD)];exact e
 have:=I.step (g':=s.gens) (t':=s.toks) (d':=s.drawn) (h':=s.heap) (H':=upd H D o) (ch:=[D]) (fun b hb=>by rw[zu8.mp hb];exact⟨fp.2.2.2.1,fp.2.1,fp.2.2.2.2.1,fp.2.2.2.2.2⟩) (fun b u _ _ _ e _=>e) (fun b u _ _ _ e _=>⟨u.slots,e⟩) (fun b u hb e n=>by rw[zg (by simpa using hb)];exact n)
  (fun b u _ e=>⟨u,e⟩) (fun b xs e=>st b _ e) (fun b u xs e=>st b _ e) (fun b ps e=>⟨#[],by rw[st b _ e];simp⟩) (fun m hm=>hm) (fun b u e=>?_) I.bare
 ·exact this
 ·by_cases hb:b=D
  ·subst hb;rw[zi] at e;cases e;exact new
  ·rw[zg hb] at e
   exact (I.hok b u e).stay (fun c v _ q=>q) (fun c q=>st c _ q) fun c xs q=>st c _ q
theorem pD {A:Around}{E:Value→Shared→Prop}{l f:Addr}{vs:List Value}{ps:List (Int×Int)}{Q:Value→Shared→Prop}(I:Inv X pins σ H s)(hl:s.heap.IsList l vs.toArray)(hlen:vs.length=ps.length)(h64:vs.length<64)
  (hcall:∀i v,vs[i]?=some v→∀H1 s1,Inv X pins σ H1 s1→(∀a o,H a=some o→H1 a=some o)→
   wpAny (model X.prog X.w) A.in1.in1 (call (.ref f) [v]) (fun u s2=>∃t H2,u=.ref t∧Inv X pins σ H2 s2∧(∀a o,H1 a=some o→H2 a=some o)∧H2 t=some (.tup [.int (at2 ps i).1,.int (at2 ps i).2])∧eI X H1 H2 s1 s2) (fun _ _=>False) s1)
  (h:∀D out H' s' c,s.heap.objs.size≤D→Srt vs ps out→Inv X pins σ H' s'→(∀a o,H a=some o→H' a=some o)→s'.heap.get? D=some (seqObj "list" out.toArray c)→H' D=none→xj X pins H' D→Q (.ref D) s'):
  wpAny (model X.prog X.w) A (call (.builtin "sorted") [.ref l] [("key",.ref f)]) Q E s:=by
 refine call_function_entry_kw kind_sorted plain_sorted entry_sorted (ksk_s1 _ _) ?_
 unfold Builtin.«sorted»
 refine zs3 (m:=checkCount "sorted" 1 1 _) (zt2 ?_)
 refine zs3 (collect_list hl ?_ (by rw[zv4];omega))
 refine zs3 (wpAny_newList ?_ (by rw[zv4];omega))
 have hsz:((s.heap.push (seqObj "list" #[] 0)).update s.heap.objs.size (Obj.mapSeq (·++vs.toArray))).objs.size=s.heap.objs.size+1:=by
  rw[Heap.size_update,size_push']
 have hoL:(((s.heap.push (seqObj "list" #[] 0)).update s.heap.objs.size (Obj.mapSeq (·++vs.toArray))).push (seqObj "list" vs.toArray 0)).get? (s.heap.objs.size+1)=some (seqObj "list" vs.toArray 0):=by
  rw[←hsz];exact zt8 _ rfl
 have keep:∀b o,s.heap.get? b=some o→(((s.heap.push (seqObj "list" #[] 0)).update s.heap.objs.size (Obj.mapSeq (·++vs.toArray))).push (seqObj "list" vs.toArray 0)).get? b=some o:=fun b o q=>by
  have hlt:b<s.heap.objs.size:=zt3 q
  rw[zE8 _ _ _ (by rw[hsz];exact zu4 (zC2 hlt)),Heap.get?_update_ne _ _ _ _ (zu4 hlt),zE8 _ _ _ (zu4 hlt)]
  exact q
 show wpAny _ _ _ _ _ {s with heap:=((s.heap.push (seqObj "list" #[] 0)).update s.heap.objs.size (Obj.mapSeq (·++vs.toArray))).push (seqObj "list" vs.toArray 0)}
 rw[hsz]
 have I1:Inv X pins σ H {s with heap:=((s.heap.push (seqObj "list" #[] 0)).update s.heap.objs.size (Obj.mapSeq (·++vs.toArray))).push (seqObj "list" vs.toArray 0),toks:=s.toks}:=I.kept keep
 have lD:s.heap.objs.size≤s.heap.objs.size+1:=zC1 _
 refine zs3 (zx3 (wpAny_call_entry_kw slot_list_sort ⟨_,hoL,rfl⟩ entry_list_sort ?body (ksk_l1 _ _)))
 case body=>
  rw[ksk_t1]
  refine mL (s:={s with heap:=((s.heap.push (seqObj "list" #[] 0)).update s.heap.objs.size (Obj.mapSeq (·++vs.toArray))).push (seqObj "list" vs.toArray 0)}) I1 hoL hlen h64 (I.hok.fresh lD) (fun z=>?_) (fun H' hn=>I.fpOk lD hn) hcall fun out H' s' c so I' st e fD=>?_
  ·rcases zs8.mp (I.stkSub _ z) with q|q
   ·exact (I.fpOk (H':=fun _=>none) lD rfl).2.1 q
   ·exact (I.fpOk (H':=fun _=>none) lD rfl).2.2.1 q
  ·exact⟨_,rfl,zt2 ⟨_,rfl,h _ out H' s' c lD so I' st e fD (I.fpOk lD fD)⟩⟩
end
section
variable {X:Cx}{a:Expr}{p pos kpos lpos p1 p2 p3 p4 p5 p6:Pos}{n1:Nat}{x y:Str}{params:Arguments}{scope:Scope}
abbrev pairE (x y:Str)(n1:Nat)(p1 p2 p3 p4 p5 p6:Pos):Expr:=.Tuple [.Subscript (.Name y p1) (.Name x p2) p3,.UnaryOp .USub (.Name x p4) p5] n1 p6
def keyOf (zs:List Int)(n:Int):Int×Int:=(zs.getD n.toNat 0,-n)
theorem aH {P:Program}{w:World}{K:PySem.W.Frag}{mg:Str→Option Value}{base:Heap}{f c cl l:Addr}{A:Around}{outer:List Env}{s:Shared}{H:Hp}{u ul:Value}{k:Nat}{n:Int}{zs:List Int}
  (S:xR x y params scope) (hr:zP k A) (e0:uE P w K mg base A outer s H) (hf:H f=some (mq f c xC params (pairE x y n1 p1 p2 p3 p4 p5 p6) scope [(y,cl)])) (hc:H c=some (uM c)) (hcl:s.heap.IsCell cl (some ul)) (fcl:H cl=none) (rv:RelV (.int n) u) (rl:RelV (.ref l) ul)
  (hb:∀pm ctv,bindArgs (PySem.W.kla_fn "<lambda>" xC params (pairE x y n1 p1 p2 p3 p4 p5 p6) scope [(y,cl)] pm (.ref c) ctv) ⟨[u],[]⟩=pure [(x,u)])
  (hdx:(x == ("__debug__":Str))=false) (hdy:(y == ("__debug__":Str))=false) (hcx:(x == ("__classdict__":Str))=false) (hcy:(y == ("__classdict__":Str))=false)
  (hl:SqL K H l (zs.map V.int)) (h0:0≤n) (h1:n<zs.length):
  codeAny (model P w) A (.call (.ref f) ⟨[u],[]⟩) (CR CX0 outer P w H s (fun v H'=>∃t,v=.ref t∧H t=none∧H'=upd H t (.tup [.int (keyOf zs n).1,.int (keyOf zs n).2])) E0) s:=by
 obtain⟨j,rfl⟩:=zB4 h0
 have hj:j<zs.length:=by omega
 refine aD S hr e0 hf hc hcl fcl rv rl hb (t:=_) (qQ (zc (zM zR (xq (i:=1) rfl (Or.inr (Or.inr S.py)) hdy hcy) (xq (i:=0) rfl (Or.inl S.px) hdx hcx) (fun _ _=>rfl)) (zc (zn6 zg9 (xq (i:=0) rfl (Or.inl S.px) hdx hcx)) zt))) ?_
 refine⟨_,rfl,_,rfl,l,_,_,.int (zs.getD j 0),rfl,rfl,hl,yY ?_,_,rfl,_,rfl,(by show 2≤sizeLine;decide),fun t ht=>⟨t,rfl,ht,?_⟩⟩
 ·rw[zu0,zs6 hj,zs7,zs6 hj];rfl
 ·simp[keyOf]
def sf (ns zs ms:List Int):Prop:=ms.Perm ns∧ms.Pairwise fun m k=>lx (keyOf zs k) (keyOf zs m)=false
theorem gE {ns zs:List Int}{vs out:List Value}(r:Vals (ns.map V.int) vs)(h:Srt vs (ns.map (keyOf zs)) out):∃ms,sf ns zs ms∧Vals (ms.map V.int) out:=by
 obtain⟨ix,rfl,hl,hb,hp,hw⟩:=h
 have at_:∀i∈ix,at2 (ns.map (keyOf zs)) i=keyOf zs (ns.getD i 0):=fun i hi=>by
  have:=hb i hi
  rw[zs4] at this
  unfold at2
  rw[zs7,zu0,zs6 this,zs7,zs6 this];rfl
 have em:ix.map (at2 (ns.map (keyOf zs)))=(ix.map fun i=>ns.getD i 0).map (keyOf zs):=by
  rw[zG4]
  exact List.map_congr_left at_
 rw[em] at hp hw
 have inv:∀l:List Int,(l.map (keyOf zs)).map (fun q=>-q.2)=l:=fun l=>by
  rw[zG4]
  have:((fun q:Int×Int=>-q.2)∘keyOf zs)=id:=by funext n;simp[keyOf]
  rw[this,List.map_id]
 refine⟨ix.map fun i=>ns.getD i 0,⟨?_,zE7.mp hw⟩,?_⟩
 ·have:=hp.map (fun q=>-q.2)
  rwa [inv,inv] at this
 ·clear em hp hw hl
  induction ix with
  |nil=>exact .nil
  |cons i ix ih=>
   refine .cons ?_ (ih (fun k hk=>hb k (zt4 _ hk)) fun k hk=>at_ k (zt4 _ hk))
   have hi:=hb i zt7
   rw[zs4] at hi
   refine tY r i _ ?_
   show _=some (V.int (ns.getD i 0))
   rw[zu0,zs6 hi,zs7,zs6 hi];rfl
theorem wm {K:PySem.W.Frag}{H H':Hp}{a:Addr}{xs:List V}(h:SqL K H a xs)(k:∀a o,(∀ps,o≠.tbl ps)→H a=some o→H' a=some o):SqL K H' a xs:=by
 rcases h with (h|⟨o,h⟩)|h
 ·exact .inl (.inl (k _ _ (fun _ z=>by cases z) h))
 ·exact .inl (.inr ⟨o,k _ _ (fun _ z=>by cases z) h⟩)
 ·exact .inr h
theorem mY {ta:TE}{j k:Nat}{c:Addr}(S:xR x y params scope)(hr:zP (k+2) X.A)(hg:Gl X "sorted")(hm:X.mg "sorted"=none)(hN:X.N[j]?=some y)(hy:X.env.scope.names.lookup y=some .cell)
  (hcl:∀cl,X.env.cells.lookup y=some cl→closureFor scope X.env=pure [(y,cl)]) (hgl:X.env.globals=mainGlobals) (hco:X.env.code=.ref c) (hhd:PySem.W.CodeHd X.base c yr) (hbi:X.base.BuiltinsAt X.mg yr) (hdf:defaultsOf params X.env=([],[])) (hq:X.env.qual++("<lambda>":Str)=xC) (hne:mainGlobals≠yr)
  (hb:∀u cl c' pm ctv,bindArgs (PySem.W.kla_fn "<lambda>" xC params (pairE x y n1 p1 p2 p3 p4 p5 p6) scope [(y,cl)] pm (.ref c') ctv) ⟨[u],[]⟩=pure [(x,u)])
  (hdx:(x == ("__debug__":Str))=false) (hdy:(y == ("__debug__":Str))=false) (hcx:(x == ("__classdict__":Str))=false) (hcy:(y == ("__classdict__":Str))=false) (ha:PE X a ta)
  (he:starEach [a] X.env=(false,eval a X.env)::starEach [] X.env:=by rfl) (he2:backTo pos (starEach [a] X.env)=(false,eval a X.env)::backTo pos (starEach [] X.env):=by rfl) (hpl:((backTo pos (starEach [a] X.env)).any fun x=>x.1)=false:=by rfl):
  PE X (.Call (.Name "sorted" p) [a] [⟨some "key",.Lambda params (pairE x y n1 p1 p2 p3 p4 p5 p6) scope lpos,kpos⟩] pos)
   (fun σ H Q=>ta σ H fun v H1=>∃l ns lp zs,v=.ref l∧SqL X.K H1 l (ns.map V.int)∧σ[j]?=some (some (.ref lp))∧SqL X.K H1 lp (zs.map V.int)∧ns.length<64∧(∀n∈ns,0≤n∧n<zs.length)∧TabAt H1∧
    ∀D H' ms,H1 D=none→H' D=some (.lst (ms.map V.int))→sf ns zs ms→TabAt H'→(∀a o,a≠yr→H1 a=some o→H' a=some o)→Q (.ref D) H'):=by
 intro pins s σ H Q I h
 refine zB6 (wF I hg hm boot_sorted ?_)
 let Pd:V→Hp→Prop:=fun v H1=>∃l ns lp zs,v=.ref l∧SqL X.K H1 l (ns.map V.int)∧σ[j]?=some (some (.ref lp))∧SqL X.K H1 lp (zs.map V.int)∧ns.length<64∧(∀n∈ns,0≤n∧n<zs.length)∧TabAt H1∧
    ∀D H' ms,H1 D=none→H' D=some (.lst (ms.map V.int))→sf ns zs ms→TabAt H'→(∀a o,a≠yr→H1 a=some o→H' a=some o)→Q (.ref D) H'
 refine callWith_kw (thn (zc ha zt he pos pins s σ H (fun vs H1=>match vs with|[v]=>Pd v H1|_=>False) I h) fun us s1 ⟨vs,H1,I1,r1,q1⟩=>?_) he2 hpl
 match vs,r1,q1 with
 |[v],r1,q1=>
  obtain⟨u,rfl,ru⟩:=vals1 r1
  obtain⟨l,ns,lp,zs,rfl,hS,hσ,hZ,h64,hin,T,q⟩:=(show Pd v H1 from q1)
  obtain⟨m,hn,hl⟩:=id I1.loc
  obtain⟨ul,rl,lk⟩:=hl j y _ hN hσ (.inr (.inl hy))
  obtain⟨cl,ecl,hcell⟩:∃cl,X.env.cells.lookup y=some cl∧s1.heap.IsCell cl (some ul):=by
   rcases lk with ⟨z,_⟩|⟨_,cl,z1,z2⟩
   ·have z:X.env.scope.names.lookup y=some .local:=z
    rw[hy] at z;cases z
   ·exact⟨cl,z1,z2⟩
  show wpAny _ _ (evalAll ((do let v ←eval (.Lambda params (pairE x y n1 p1 p2 p3 p4 p5 p6) scope lpos) X.env;standAt pos;pure v)::[])) _ _ s1
  refine wpAny_evalAll_cons (zs3 (fo I1 (hcl cl ecl) hgl hco hhd hbi hdf hq hne T fun f c' H2 s2 I2 T2 st2 tb2 hf hlam hcode=>zs3 (wpAny_standAt (zt2 (wpAny_evalAll_nil ?_)))))
  cases ru
  show wpAny _ _ (call (.builtin "sorted") [.ref l] [("key",.ref f)]) _ _ s2
  have st3:∀a o,(∀ps,o≠.tbl ps)→H1 a=some o→H2 a=some o:=fun a o no e=>st2 a o (fun z=>by
   obtain⟨ps,t1,_⟩:=T.ex
   rw[z,t1] at e;cases e;exact no _ rfl) e
  have S2:=wm hS st3
  have Z2:=wm hZ st3
  obtain⟨its,r,ht,hz⟩:=I2.list S2
  have lenI:its.length=ns.length:=by rw[←r.length,zs4]
  refine pD (ps:=ns.map (keyOf zs)) I2 ht.isList (by rw[zs4];exact lenI) (by omega) (fun i v hv H3 s3 I3 st3=>?_) fun D out H' s' c0 lD so I' st e fD fp=>?_
  ·have hi:i<ns.length:=by rw[←lenI];exact (zt0.mp hv).1
   have rv:RelV (.int ns[i]) v:=by
    have:=tY r i (.int ns[i]) (by rw[zu0,zs6 hi];rfl)
    rwa [zs7,hv] at this
   obtain⟨m3,hn3,hl3⟩:=id I3.loc
   obtain⟨ul3,rl3,lk3⟩:=hl3 j y _ hN hσ (.inr (.inl hy))
   have cell3:s3.heap.IsCell cl (some ul3):=by
    rcases lk3 with ⟨z,_⟩|⟨_,cl3,z1,z2⟩
    ·have z:X.env.scope.names.lookup y=some .local:=z
     rw[hy] at z;cases z
    ·rw[ecl] at z1;cases z1;exact z2
   have hb3:=hin ns[i] (zB2 hi)
   have ek:at2 (ns.map (keyOf zs)) i=keyOf zs ns[i]:=by
    unfold at2
    rw[zs7,zu0,zs6 hi];rfl
   rw[ek]
   have Z3:=wm Z2 fun a o _ e=>st3 a o e
   refine wpAny_call (zG2 (aH S hr.in1.in1 I3.env0.in1.in1 (st3 _ _ hlam) (st3 _ _ hcode) cell3 (I3.freeC y cl ecl) rv rl3 (fun pm ctv=>hb _ _ _ pm ctv) hdx hdy hcx hcy Z3 hb3.1 hb3.2) fun rr s4 hq4=>?_)
   cases rr with
   |error e=>exact False.elim hq4
   |ok fl=>
    cases fl with
    |next=>exact False.elim hq4
    |brk=>exact False.elim hq4
    |cont=>exact False.elim hq4
    |ret u4=>
     obtain⟨v4,H4,os,bare,un,hok,r4,t,rfl,ht4,eH4⟩:=hq4
     cases r4
     obtain⟨hh,g,d,tk,os'⟩:=s4
     obtain rfl:os'=s3.os:=os
     refine⟨t,H4,rfl,I3.call (h':=hh) (g':=g) (d':=d) (t':=tk) (ch:=[]) un hok bare (fun b z=>absurd z (by simp)),fun a o e=>?_,by rw[eH4];exact zi,fun b o e n nf=>⟨un.keep b o e n nf (by simp),un.free b o e n (by simp)⟩⟩
     rw[eH4,zg (zk e ht4)];exact e
  ·obtain⟨ms,sm,rm⟩:=gE r so
   have nD:∀a o,H' a=some o→a≠D:=fun a o e z=>by rw[z,fD] at e;cases e
   have h2D:H2 D=none:=I2.hok.fresh lD
   have stD:∀a o,H2 a=some o→upd H' D (.lst (ms.map V.int)) a=some o:=fun a o e=>by rw[zg (nD a o (st a o e))];exact st a o e
   refine⟨.ref D,upd H' D (.lst (ms.map V.int)),I'.adopt fp ⟨?_,out,c0,rm,e⟩,rfl,q D _ ms ?_ zi sm (T2.same fun a o _ e=>stD a o e) fun a o no e=>stD a o (st2 a o no e)⟩
   ·rw[zs4,sm.1.length_eq,zv4];omega
   ·cases z:H1 D with
    |none=>rfl
    |some o=>
     by_cases nt:∀ps,o≠.tbl ps
     ·rw[st3 D o nt z] at h2D;cases h2D
     ·simp only[Classical.not_forall,Classical.not_not] at nt
      obtain⟨qs,rfl⟩:=nt
      obtain⟨qs',w'⟩:=tb2 D qs z
      rw[w'] at h2D;cases h2D
end
section
variable {X:Cx}{α:Ev}{p q pos:Pos}{a b:Expr}
theorem sS {G:Hp}:∀ns:List Int,AVs G (ns.map V.int) (ns.map .int)
 |[]=>.nil
 |n::ns=>.cons (.int n) (sS ns)
theorem dE {Q:List PyData→Prop}(hc:X.calm=true)(hg:Gl X "list")(hm:X.mg "list"=none)(hg2:Gl X "range")(hm2:X.mg "range"=none)(h:EvD X α a fun x=>EvD X α b fun y=>∃i j,x=.int i∧y=.int j∧(-(2 ^ 62)≤i∧i<2 ^ 62∧-(2 ^ 62)≤j∧j<2 ^ 62)∧(j-i).toNat≤1000∧Q ((zu i (j-i).toNat).map .int))
  (he:starEach [.Call (.Name "range" q) [a,b] [] p] X.env=(false,eval (.Call (.Name "range" q) [a,b] [] p) X.env)::starEach [] X.env:=by rfl) (he2:starEach [a,b] X.env=(false,eval a X.env)::starEach [b] X.env:=by rfl) (he3:starEach [b] X.env=(false,eval b X.env)::starEach [] X.env:=by rfl)
  (hpl:(backTo p (starEach [b] X.env)).any (·.1)=false:=by rfl) {p0:Pos}:EvL X α (.Call (.Name "list" p0) [.Call (.Name "range" q) [a,b] [] p] [] pos) Q:=fun F σ H R m k=>by
 refine⟨_,vt (rz hc) hg hm boot_list (zc (vt nh hg2 hm2 boot_range (zc zq (zc zq zt he3) he2) (he:=he2) (hpl:=hpl)) zt he) (he:=he),?_⟩
 refine h F σ H _ m fun x vx H1 q1 t1 k1 r1=>?_
 have m1:=m.kz k1 t1
 refine q1 F σ H1 _ m1 fun y vy H2 q2 t2 k2 r2=>?_
 have m2:=m1.kz k2 t2
 obtain⟨i,j,rfl,rfl,⟨b1,b2,b3,b4⟩,hz,q⟩:=q2
 cases r1.int_inv;cases r2.int_inv
 refine⟨i,j,rfl,fun r hr=>?_⟩
 refine⟨r,i,j,rfl,zi,⟨b1,b2,b3,b4⟩,zy5 (yQ hz),by omega,fun l hl=>?_⟩
 have nlr:l≠r:=fun z=>by rw[z,zi] at hl;cases hl
 have hl':H2 l=none:=by rw[zg nlr] at hl;exact hl
 have kk:=k1.trans k2
 have s1:zy H2 (upd (upd H2 r (.rng i j)) l (.lst ((zu i (j-i).toNat).map V.int))):=(yw hr).trans (yw hl)
 refine k _ _ _ q (t2.same s1) (kk.trans (Kz.of_same s1)) ⟨l,_,rfl,?_,zi,sS _⟩
 cases z:H l with
 |none=>rfl
 |some o=>rw[kk l o z (m.tp.nt (ow0 (m2.fresh hl')))] at hl';cases hl'
end
section
variable {X:Cx}{α:Ev}{p pos:Pos}{a b:Expr}{Q:PyData→Prop}
end
theorem AVs.ints {H:Hp}:∀{xs:List V} {ns:List Int},AVs H xs (ns.map .int)→xs=ns.map V.int
 |_,[],.nil=>rfl
 |_,n::ns,.cons h hs=>by rw[zw5,AVs.ints hs,h.int_inv]
section
variable {X:Cx}{α:Ev}{a:Expr}{p pos kpos lpos p1 p2 p3 p4 p5 p6:Pos}{n1:Nat}{x y:Str}{params:Arguments}{scope:Scope}
structure iX (X:Cx)(c:Addr)(x y:Str)(n1:Nat)(p1 p2 p3 p4 p5 p6:Pos)(params:Arguments)(scope:Scope):Prop where
 S:xR x y params scope
 hy:X.env.scope.names.lookup y=some .cell
 hcl:∀cl,X.env.cells.lookup y=some cl→closureFor scope X.env=pure [(y,cl)]
 hgl:X.env.globals=mainGlobals
 hco:X.env.code=.ref c
 hhd:PySem.W.CodeHd X.base c yr
 hbi:X.base.BuiltinsAt X.mg yr
 hdf:defaultsOf params X.env=([],[])
 hq:X.env.qual++("<lambda>":Str)=xC
 hne:mainGlobals≠yr
 hb:∀u cl c' pm ctv,bindArgs (PySem.W.kla_fn "<lambda>" xC params (pairE x y n1 p1 p2 p3 p4 p5 p6) scope [(y,cl)] pm (.ref c') ctv) ⟨[u],[]⟩=pure [(x,u)]
 hdx:(x == ("__debug__":Str))=false
 hdy:(y == ("__debug__":Str))=false
 hcx:(x == ("__classdict__":Str))=false
 hcy:(y == ("__classdict__":Str))=false
theorem mj {j k:Nat}{c:Addr}{Q:List PyData→Prop}(T:iX X c x y n1 p1 p2 p3 p4 p5 p6 params scope)(hr:zP (k+2) X.A)(hg:Gl X "sorted")(hm:X.mg "sorted"=none)(hN:X.N[j]?=some y)
  (h:EvD X α a fun d=>∃ns zs:List Int,d=.list (ns.map .int)∧α[j]?=some (some (.dat (.list (zs.map .int))))∧ns.length<64∧(∀n∈ns,0≤n∧n<zs.length)∧∀ms,sf ns zs ms→Q (ms.map .int))
  (he:starEach [a] X.env=(false,eval a X.env)::starEach [] X.env:=by rfl) (he2:backTo pos (starEach [a] X.env)=(false,eval a X.env)::backTo pos (starEach [] X.env):=by rfl) (hpl:((backTo pos (starEach [a] X.env)).any fun x=>x.1)=false:=by rfl):
  EvL X α (.Call (.Name "sorted" p) [a] [⟨some "key",.Lambda params (pairE x y n1 p1 p2 p3 p4 p5 p6) scope lpos,kpos⟩] pos) Q:=fun F σ H R m k=>by
 refine⟨_,mY (j:=j) T.S hr hg hm hN T.hy T.hcl T.hgl T.hco T.hhd T.hbi T.hdf T.hq T.hne T.hb T.hdx T.hdy T.hcx T.hcy zq he he2 hpl,?_⟩
 refine h F σ H _ m fun d vx H1 q1 t1 k1 r1=>?_
 have m1:=m.kz k1 t1
 obtain⟨ns,zs,rfl,hz,h64,hin,q⟩:=q1
 obtain⟨l,xs,rfl,g1,g2⟩:=r1.lst_inv
 obtain⟨v,s1,s2⟩:=m1.dat j _ hz
 obtain⟨lp,ys,rfl,g3,g4⟩:=s2.lst_inv
 cases g2.ints;cases g4.ints
 refine⟨l,ns,lp,zs,rfl,SqL.of (zl g1).2,s1,SqL.of (zl g3).2,h64,hin,t1.tab,fun D H' ms hD hD' sm tb kp=>?_⟩
 have tl:∀a xs,H1 a=some (.lst xs)→H' a=some (.lst xs):=fun a xs e=>kp a _ (fun z=>by
  obtain⟨ps,e1,_⟩:=t1.tab.ex
  rw[z,e1] at e;cases e) e
 have kz:Kz F H1 H':=fun x o e n=>kp x o n.2 e
 refine k _ _ H' (q ms sm) ⟨tb,t1.ot,fun t b c e=>⟨?_,(t1 t b c e).2⟩⟩ (k1.trans kz) ⟨D,_,rfl,?_,hD',sS _⟩
 ·obtain⟨n,bs,cs,n1,e1,e2,e3,l1,l2⟩:=(t1 t b c e).1.ex
  exact⟨n,bs,cs,n1,tl _ _ e1,tl _ _ e2,tl _ _ e3,l1,l2⟩
 ·cases z:H D with
  |none=>rfl
  |some o=>rw[k1 D o z (m.tp.nt (ow0 (m1.fresh hD)))] at hD;cases hD
end
section
variable {P:Program}{w:World}{K:PySem.W.Frag}{mg:Str→Option Value}{base:Heap}
theorem zp7 {x qual:Str}{st:Stmt}{f:Addr}{N ps:List Str}{k:Nat}{φ:List A→(A→Prop)→Prop}{oc:Value}{od an:Option Addr}{osl:Array (Option Value)}{kV doc pm cdv ct:Value}
  (lk:K.lookup f=some ⟨oc,od,.func (PySem.W.fnOf x qual (zK st) (zw st) (zb st) .none kV doc pm an cdv ct),osl⟩) (hcd:PySem.W.codeIn K cdv qual=true) (S:zm N ps (zb st)) (hlen:∀as Q,φ as Q→as.length=ps.length)
  (hbody:∀(A':Around) (outer:List Env) (s:Shared) (H:Hp) (E:XK) (as:List A) (Q:A→Prop),zP k (A'.deeper (envOfC qual (zb st) s.heap.objs.size f cdv))→φ as Q→
   SvS (vQ CX0 P w K mg base N qual (zb st) f cdv A' outer s H E).nox (as.map some++List.replicate (N.length-as.length) none) (zw st) {nx:=fun _=>Q (.dat .none),rt:=Q}):zB P w K mg base CX0 (k+1) f (PySem.W.fnOf x qual (zK st) (zw st) (zb st) .none kV doc pm an cdv ct) ps (spA φ):=by
 refine iP lk hcd S (fun vs H Q E h=>?_) (fun A' outer s H vs Qc E hr h=>?_)
 ·obtain⟨F,as,Q',_,_,_,rv,hφ,_⟩:=h
  rw[rv.length,hlen as _ hφ]
 ·obtain⟨F,as,Q',e,t,o,rv,hφ,kk⟩:=h
  have:=hbody A' outer s H E as Q' hr hφ F _ H {nx:=fun _ H'=>Qc .non H',rt:=Qc} (M.start e t o rv) ⟨fun α σ H' m q=>?_,fun a v H' r q=>kk a v H' q r,fun _ _ _ _ z=>z.elim,fun _ _ _ _ z=>z.elim⟩
  ·obtain⟨t,h,q⟩:=this
   exact⟨t,h.nox,q⟩
  ·exact kk _ _ _ q ⟨m.tp,m.keep,.non⟩
end
section
variable {X:Cx}{α:Ev}{Q:PyData→Prop}{a b:Expr}{pos:Pos}
end
theorem oR (c:Int)(n:Nat):zu c (n+1)=zu c n++[c+(n:Nat)]:=by
 simp[zu,List.range_succ]
theorem yF {c m:Int}{n:Nat}:m∈zu c n↔c≤m∧m<c+n:=by
 simp only[zu,zx4,zH0]
 constructor
 ·rintro⟨i,hi,rfl⟩;omega
 ·rintro⟨h1,h2⟩;exact⟨(m-c).toNat,by omega,by omega⟩
theorem qu (c:Int):∀n:Nat,(zu c n).Nodup
 |0=>by simp[zu]
 |n+1=>by
  rw[oR,zE9]
  refine⟨qu c n,by simp,?_⟩
  intro a ha b hb
  rw[yF] at ha
  simp at hb
  omega
def vG (zs:List Int)(many free i:Nat)(bs:List Bool):Prop:=
 bs.length=zs.length∧(∀j,i / many*many≤j→bs.getD j false=false)∧∀k,k<i / many→∃ms:List Int,sf (zu ((k*many:Nat):Int) many) zs ms∧∀q,q<many→bs.getD (ms.getD q 0).toNat false=decide (q<free)
theorem iJ (zs:List Int){many:Nat}(free:Nat):vG zs many free 0 (List.replicate zs.length false):=by
 refine⟨by simp,fun j _=>?_,fun k hk=>?_⟩
 ·rw[zs7,zz6]
  split<;>rfl
 ·rw[Nat.zero_div] at hk;omega
theorem sC {i many:Nat}(h:0<many)(h1:i % many+1<many):(i+1) / many=i / many∧(i+1) % many=i % many+1:=by
 have e:=zD6 i many
 have e2:i+1=(i % many+1)+many*(i / many):=by omega
 constructor
 ·rw[e2,Nat.add_mul_div_left _ _ h,Nat.div_eq_of_lt h1,Nat.zero_add]
 ·rw[e2,Nat.add_mul_mod_self_left,Nat.mod_eq_of_lt h1]
theorem oJ {i many:Nat}(h:0<many)(h1:i % many+1=many):(i+1) / many=i / many+1∧(i+1) % many=0∧(i / many+1)*many=i+1:=by
 have e:=zD6 i many
 have e3:many*(i / many+1)=i+1:=by rw[Nat.mul_add,Nat.mul_one];omega
 refine⟨?_,?_,?_⟩
 ·rw[←e3,Nat.mul_div_cancel_left _ h]
 ·rw[←e3,Nat.mul_mod_right]
 ·rw[Nat.mul_comm];exact e3
theorem jm {zs:List Int}{many free i:Nat}{bs:List Bool}(h:0<many)(h1:i % many+1<many)(m:vG zs many free i bs):vG zs many free (i+1) bs:=by
 unfold vG at *
 rw[(sC h h1).1]
 exact m
theorem vo {lo:Int}{n:Nat}{zs ms:List Int}(s:sf (zu lo n) zs ms){q:Nat}(h:q<n):lo≤ms.getD q 0∧ms.getD q 0<lo+n:=by
 have hl:ms.length=n:=by rw[s.1.length_eq,zh]
 have:ms.getD q 0∈ms:=by
  rw[zs7,zs6 (by omega)]
  exact zB2 _
 exact yF.mp (s.1.mem_iff.mp this)
theorem jC {zs ms:List Int}{many free i:Nat}{bs bs':List Bool}(h:0<many)(h1:i % many+1=many)(m:vG zs many free i bs)(s:sf (zu ((i / many*many:Nat):Int) many) zs ms)
  (e0:bs'.length=bs.length) (e1:∀q,q<many→bs'.getD (ms.getD q 0).toNat false=decide (q<free)) (e2:∀j,(∀q,q<many→(ms.getD q 0).toNat≠j)→bs'.getD j false=bs.getD j false):vG zs many free (i+1) bs':=by
 obtain⟨d1,d2,d3⟩:=oJ h h1
 obtain⟨m1,m2,m3⟩:=m
 refine⟨by rw[e0,m1],fun j hj=>?_,fun k hk=>?_⟩
 ·rw[d1,d3] at hj
  have e:=zD6 i many
  have e4:i / many*many=many*(i / many):=Nat.mul_comm _ _
  rw[e2 j fun q hq=>?_,m2 j (by omega)]
  have:=vo s hq
  omega
 ·rw[d1] at hk
  by_cases hk2:k=i / many
  ·subst hk2
   exact⟨ms,s,e1⟩
  ·obtain⟨ms2,s2,f2⟩:=m3 k (by omega)
   refine⟨ms2,s2,fun q hq=>?_⟩
   rw[e2 _ fun q2 hq2=>?_,f2 q hq]
   have a1:=vo s hq2
   have a2:=vo s2 hq
   have:(k+1)*many≤i / many*many:=zA7 _ (by omega)
   rw[Nat.add_mul,Nat.one_mul] at this
   omega
theorem oU (f:Nat):∀n,((List.range n).map fun q=>decide (q<f)).count true=min f n
 |0=>by simp
 |n+1=>by
  rw[List.range_succ,zw3,List.count_append,oU f n]
  by_cases h:n<f
  ·simp[h];omega
  ·simp[h];omega
theorem aE {α:Type}(l:List α)(d:α)(a n:Nat)(h:a+n≤l.length):(l.drop a).take n=(zu (a:Int) n).map fun m=>l.getD m.toNat d:=by
 apply zF5
 ·simp[zh];omega
 ·intro i h1 h2
  have hi:i<n:=by simpa[zh] using h2
  simp only[zu,List.getElem_take,List.getElem_drop,List.getElem_map,List.getElem_range]
  rw[show ((a:Int)+(i:Nat)).toNat=a+i by omega,zs7,zs6 (by omega)]
  rfl
theorem vZ {zs ms:List Int}{lo many free:Nat}{bs:List Bool}(s:sf (zu (lo:Int) many) zs ms)(hb:lo+many≤bs.length)(h:∀q,q<many→bs.getD (ms.getD q 0).toNat false=decide (q<free))(hf:free≤many):((bs.drop lo).take many).count true=free:=by
 have hl:ms.length=many:=by rw[s.1.length_eq,zh]
 rw[aE bs false lo many hb,←(s.1.map fun m=>bs.getD m.toNat false).count_eq]
 have:ms.map (fun m=>bs.getD m.toNat false)=(List.range many).map fun q=>decide (q<free):=by
  apply zF5
  ·simp[hl]
  ·intro i h1 h2
   have hi:i<many:=by simpa using h2
   simp only[List.getElem_map,List.getElem_range]
   have:=h i hi
   rw[zs7 (l:=ms),zs6 (by omega)] at this
   exact this
 rw[this,oU]
 omega
theorem zg1 {lo:Int}{n:Nat}{zs ms:List Int}(s:sf (zu lo n) zs ms){m:Int}(h1:lo≤m)(h2:m<lo+n):∃q,q<n∧ms.getD q 0=m:=by
 have hl:ms.length=n:=by rw[s.1.length_eq,zh]
 obtain⟨q,hq,e⟩:=List.mem_iff_getElem.mp (s.1.mem_iff.mpr (yF.mpr ⟨h1,h2⟩))
 exact⟨q,by omega,by rw[zs7,zs6 hq];exact e⟩
open PySem (IsZip)
section
variable {prog:Program}{w:World}{A:Around}{E:Value→Shared→Prop}{s:Shared}
theorem og {M:Model}{a:Addr}{Q:Option Obj→Shared→Prop}(h:Q (s.heap.get? a) s):wpAny M A (loadIfAlive a) Q E s:=fun Γ p hΓ=>by
 show Sem.wp M Γ (.loadIfAlive a .pure) _ _ p s
 rw[Sem.wp_loadIfAlive]
 exact h
abbrev zO (f0 f1:Value)(TI TO:Addr):Obj:={cls:=.type "zip",dict:=none,data:=.fields #[f0,f1,.bool false,.ref TI,.ref TO],slots:=#[]}
abbrev tO3 (a b c:Value):Obj:={cls:=.type "tuple",data:=.seq #[a,b,c]}
theorem xP {T:Addr}{a b c x:Value}{k:Nat}{Q:Unit→Shared→Prop}(hT:s.heap.get? T=some (tO3 a b c))
  (h:∀h',h'.get? T=some {cls:=.type "tuple",data:=.seq ((#[a,b,c]:Array Value).setIfInBounds k x)}→Heap.SameBut T s.heap h'→Q () {s with heap:=h'}):
  wpAny (model prog w) A (updateSeq T (·.setIfInBounds k x)) Q E s:=by
 refine zD7 hT rfl (h _ ?_ (zy4 ..))
 rw[Heap.get?_update_self _ hT rfl]
 simp[Obj.mapSeq]
structure wI (h:Heap)(n:Nat)(l1 l2 l3:Addr)(k:Nat)(f0 f1 a b c:Value):Prop where
 z:h.get? (n+5:Nat)=some (zO f0 f1 (n+3:Nat) (n+4:Nat))
 ti:h.get? (n+3:Nat)=some (tO3 (.ref (n:Nat)) (.ref (n+1:Nat)) (.ref (n+2:Nat)))
 to:h.get? (n+4:Nat)=some (tO3 a b c)
 i1:h.IsListIter (n:Nat) l1 k
 i2:h.IsListIter (n+1:Nat) l2 k
 i3:h.IsListIter (n+2:Nat) l3 k
abbrev z3 (n:Nat):List Addr:=[(n:Nat),(n+1:Nat),(n+2:Nat),(n+3:Nat),(n+4:Nat),(n+5:Nat)]
theorem zr (a b:Nat)(h:a<b∨b<a):@Ne Addr a b:=fun e=>by
 have e:@Eq Nat a b:=e
 omega
theorem mR {n l1 l2 l3:Nat}{k:Nat}{f1 a b c x y z:Value}{xs ys zs:Array Value}{Q:Value→Shared→Prop}(h1:l1<n)(h2:l2<n)(h3:l3<n)(Z:wI s.heap n l1 l2 l3 k .none f1 a b c)
  (hl1:s.heap.IsList l1 xs) (hl2:s.heap.IsList l2 ys) (hl3:s.heap.IsList l3 zs) (hx:xs[k]?=some x) (hy:ys[k]?=some y) (hz:zs[k]?=some z)
  (hQ:∀h',wI h' n l1 l2 l3 (k+1) (rawInt s.heap.objs.size) (.bool false) x y z→h'.get? s.heap.objs.size=some (tO3 x y z)→
   (∀c o,c∉z3 n→s.heap.get? c=some o→h'.get? c=some o)→Q (.ref s.heap.objs.size) {s with heap:=h'}):
  wpAny (model prog w) A (Builtin.«zip.__next__» ⟨[.ref (n+5:Nat)],[]⟩) (fun fin s'=>∃v,fin=.done (.ret v)∧Q v s') E s:=by
 obtain⟨hz0,hTI,hTO,g1,g2,g3⟩:=Z
 show wpAny _ _ (field (.ref _) 2 >>= _) _ _ _
 refine zs3 (zz9 hz0 rfl (x:=.bool false) rfl ?_)
 show wpAny _ _ (field (.ref _) 3 >>= _) _ _ _
 refine zs3 (zz9 hz0 rfl (x:=.ref (n+3:Nat)) rfl ?_)
 refine zs3 (zz7 hTI rfl ?_)
 show wpAny _ _ (Builtin.SmallTypes.ownedTupleIsFree (.ref (n+5:Nat)) >>= _) _ _ _
 refine zs3 ?_
 unfold Builtin.SmallTypes.ownedTupleIsFree
 refine zs3 (zz9 hz0 rfl (x:=.none) rfl (zt2 ?_))
 simp only[if_true]
 refine zs3 (wpAny_rule ?_)
 refine zs3 (zz9 hz0 rfl (x:=.ref (n+4:Nat)) rfl ?_)
 refine zs3 (zE2 hz0 (by simp) fun h₁ hz₁ hs₁=>?_)
 replace hz₁:h₁.get? (n+5:Nat)=some (zO .ellipsis f1 (n+3:Nat) (n+4:Nat)):=hz₁
 refine zs3 ?_
 simp only[List.zipIdx_cons,List.zipIdx_nil,zG3,List.forIn_nil]
 refine zs3 (zs3 (wpAny_onRaise ?_))
 show wpAny _ _ (Builtin.SmallTypes.nextOf (.ref (n:Nat)) >>= _) _ _ _
 refine zs3 (zy6 (g1.extBut hs₁.extBut (by refine zr _ _ ?_;omega)) (hl1.extBut hs₁.extBut (by refine zr _ _ ?_;omega)) hx fun h₂ g1₂ hs₂=>zt2 ?_)
 have hTO₂:h₂.get? (n+4:Nat)=some (tO3 a b c):=hs₂.extBut _ _ (by refine zr _ _ ?_;omega) (hs₁.extBut _ _ (by refine zr _ _ ?_;omega) hTO)
 refine zs3 (zz7 hTO₂ rfl ?_)
 refine zs3 (xP hTO₂ fun h₃ hTO₃ hs₃=>?_)
 replace hTO₃:h₃.get? (n+4:Nat)=some (tO3 x b c):=hTO₃
 refine zs3 (wpAny_letGo (zt2 ?_))
 refine zs3 (zs3 (wpAny_onRaise ?_))
 show wpAny _ _ (Builtin.SmallTypes.nextOf (.ref (n+1:Nat)) >>= _) _ _ _
 refine zs3 (zy6 (((g2.extBut hs₁.extBut (by refine zr _ _ ?_;omega)).extBut hs₂.extBut (by refine zr _ _ ?_;omega)).extBut hs₃.extBut (by refine zr _ _ ?_;omega))
  (((hl2.extBut hs₁.extBut (by refine zr _ _ ?_;omega)).extBut hs₂.extBut (by refine zr _ _ ?_;omega)).extBut hs₃.extBut (by refine zr _ _ ?_;omega)) hy fun h₄ g2₄ hs₄=>zt2 ?_)
 have hTO₄:h₄.get? (n+4:Nat)=some (tO3 x b c):=hs₄.extBut _ _ (by refine zr _ _ ?_;omega) hTO₃
 refine zs3 (zz7 hTO₄ rfl ?_)
 refine zs3 (xP hTO₄ fun h₅ hTO₅ hs₅=>?_)
 replace hTO₅:h₅.get? (n+4:Nat)=some (tO3 x y c):=hTO₅
 refine zs3 (wpAny_letGo (zt2 ?_))
 refine zs3 (zs3 (wpAny_onRaise ?_))
 show wpAny _ _ (Builtin.SmallTypes.nextOf (.ref (n+2:Nat)) >>= _) _ _ _
 refine zs3 (zy6 (((((g3.extBut hs₁.extBut (by refine zr _ _ ?_;omega)).extBut hs₂.extBut (by refine zr _ _ ?_;omega)).extBut hs₃.extBut (by refine zr _ _ ?_;omega)).extBut hs₄.extBut (by refine zr _ _ ?_;omega)).extBut hs₅.extBut (by refine zr _ _ ?_;omega))
  (((((hl3.extBut hs₁.extBut (by refine zr _ _ ?_;omega)).extBut hs₂.extBut (by refine zr _ _ ?_;omega)).extBut hs₃.extBut (by refine zr _ _ ?_;omega)).extBut hs₄.extBut (by refine zr _ _ ?_;omega)).extBut hs₅.extBut (by refine zr _ _ ?_;omega)) hz fun h₆ g3₆ hs₆=>zt2 ?_)
 have hTO₆:h₆.get? (n+4:Nat)=some (tO3 x y c):=hs₆.extBut _ _ (by refine zr _ _ ?_;omega) hTO₅
 refine zs3 (zz7 hTO₆ rfl ?_)
 refine zs3 (xP hTO₆ fun h₇ hTO₇ hs₇=>?_)
 replace hTO₇:h₇.get? (n+4:Nat)=some (tO3 x y z):=hTO₇
 refine zs3 (wpAny_letGo (zt2 (zt2 ?_)))
 refine zs3 (zz7 hTO₇ rfl ?_)
 refine zs3 (wpAny_newTuple ?_)
 have hsz:h₇.objs.size=s.heap.objs.size:=by rw[hs₇.1,hs₆.1,hs₅.1,hs₄.1,hs₃.1,hs₂.1,hs₁.1]
 have up7:∀c o,c≠(n+5:Nat)→c≠(n:Nat)→c≠(n+4:Nat)→c≠(n+1:Nat)→c≠(n+2:Nat)→s.heap.get? c=some o→h₇.get? c=some o:=fun c o c1 c2 c3 c4 c5 e=>
  hs₇.extBut _ _ c3 (hs₆.extBut _ _ c5 (hs₅.extBut _ _ c3 (hs₄.extBut _ _ c4 (hs₃.extBut _ _ c3 (hs₂.extBut _ _ c2 (hs₁.extBut _ _ c1 e))))))
 have hz₇:h₇.get? (n+5:Nat)=some (zO .ellipsis f1 (n+3:Nat) (n+4:Nat)):=hs₇.extBut _ _ (by refine zr _ _ ?_;omega) (hs₆.extBut _ _ (by refine zr _ _ ?_;omega) (hs₅.extBut _ _ (by refine zr _ _ ?_;omega) (hs₄.extBut _ _ (by refine zr _ _ ?_;omega) (hs₃.extBut _ _ (by refine zr _ _ ?_;omega) (hs₂.extBut _ _ (by refine zr _ _ ?_;omega) hz₁)))))
 have g1₇:h₇.IsListIter (n:Nat) l1 (k+1):=((((g1₂.extBut hs₃.extBut (by refine zr _ _ ?_;omega)).extBut hs₄.extBut (by refine zr _ _ ?_;omega)).extBut hs₅.extBut (by refine zr _ _ ?_;omega)).extBut hs₆.extBut (by refine zr _ _ ?_;omega)).extBut hs₇.extBut (by refine zr _ _ ?_;omega)
 have g2₇:h₇.IsListIter (n+1:Nat) l2 (k+1):=((g2₄.extBut hs₅.extBut (by refine zr _ _ ?_;omega)).extBut hs₆.extBut (by refine zr _ _ ?_;omega)).extBut hs₇.extBut (by refine zr _ _ ?_;omega)
 have g3₇:h₇.IsListIter (n+2:Nat) l3 (k+1):=g3₆.extBut hs₇.extBut (by refine zr _ _ ?_;omega)
 have hTI₇:=up7 _ _ (by refine zr _ _ ?_;omega) (by refine zr _ _ ?_;omega) (by refine zr _ _ ?_;omega) (by refine zr _ _ ?_;omega) (by refine zr _ _ ?_;omega) hTI
 have hzlt:(n+5:Nat)<h₇.objs.size:=zt3 hz₇
 show wpAny _ _ (Builtin.SmallTypes.ownedTupleHandOut (.ref (n+5:Nat)) (.ref h₇.objs.size) >>= _) _ _ _
 refine zs3 ?_
 unfold Builtin.SmallTypes.ownedTupleHandOut
 have hz₈:(h₇.push {cls:=.type "tuple",data:=.seq #[x,y,z]}).get? (n+5:Nat)=some (zO .ellipsis f1 (n+3:Nat) (n+4:Nat)):=zs5 _ hz₇
 refine zs3 (zE2 hz₈ (by simp) fun h₉ hz₉ hs₉=>?_)
 replace hz₉:h₉.get? (n+5:Nat)=some (zO (rawInt h₇.objs.size) f1 (n+3:Nat) (n+4:Nat)):=hz₉
 refine zE2 hz₉ (by simp) fun hA hzA hsA=>?_
 replace hzA:hA.get? (n+5:Nat)=some (zO (rawInt h₇.objs.size) (.bool false) (n+3:Nat) (n+4:Nat)):=hzA
 have up:∀c o,c≠(n+5:Nat)→h₇.get? c=some o→hA.get? c=some o:=fun c o c1 e=>hsA.extBut _ _ c1 (hs₉.extBut _ _ c1 (zs5 _ e))
 have hTA:hA.get? h₇.objs.size=some (tO3 x y z):=hsA.extBut _ _ (zA9 hzlt) (hs₉.extBut _ _ (zA9 hzlt) (zt8 _ rfl))
 rw[hsz] at hzA hTA
 refine zt2 ⟨_,rfl,?_⟩
 show Q (.ref h₇.objs.size) _
 rw[hsz]
 refine hQ hA ⟨hzA,up _ _ (by refine zr _ _ ?_;omega) hTI₇,up _ _ (by refine zr _ _ ?_;omega) hTO₇,g1₇.at fun o e=>up _ o (by refine zr _ _ ?_;omega) e,g2₇.at fun o e=>up _ o (by refine zr _ _ ?_;omega) e,g3₇.at fun o e=>up _ o (by refine zr _ _ ?_;omega) e⟩ hTA fun c o hc e=>?_
 simp only[z3,zs8,zt5,zv2,not_or] at hc
 exact up c o hc.2.2.2.2.2 (up7 c o hc.2.2.2.2.2 hc.1 hc.2.2.2.2.1 hc.2.1 hc.2.2.1 e)
theorem rJ {n l1 l2 l3 k T:Nat}{f1 a b c:Value}{ot:Obj}{Q:Bool→Shared→Prop}(h1:l1<n)(h2:l2<n)(h3:l3<n)(Z:wI s.heap n l1 l2 l3 k (rawInt (T:Nat)) f1 a b c)(hT:s.heap.get? T=some ot)
  (hQ:∀h' f1',wI h' n l1 l2 l3 k (rawInt (T:Nat)) f1' a b c→h'.objs.size=s.heap.objs.size→(∀c o,c≠(n+5:Nat)→s.heap.get? c=some o→h'.get? c=some o)→Q false {s with heap:=h'}):
  wpAny (model prog w) A (Builtin.SmallTypes.ownedTupleIsFree (.ref (n+5:Nat))) Q E s:=by
 obtain⟨hz0,hTI,hTO,g1,g2,g3⟩:=Z
 unfold Builtin.SmallTypes.ownedTupleIsFree
 refine zs3 (zz9 hz0 rfl (x:=rawInt (T:Nat)) rfl ?_)
 show wpAny _ _ (loadIfAlive ((T:Int).toNat) >>= _) _ _ _
 refine zs3 (og ?_)
 rw[show ((T:Int).toNat)=T from zA4 T,hT]
 show wpAny _ _ (field (.ref (n+5:Nat)) 1 >>= _) _ _ _
 refine zs3 (zz9 hz0 rfl (x:=f1) rfl ?_)
 refine wpAny_ite_split (fun _=>?_) (fun _=>?_)
 ·refine zs3 (zE2 hz0 (by simp) fun h₁ hz₁ hs₁=>zt2 ?_)
  replace hz₁:h₁.get? (n+5:Nat)=some (zO (rawInt (T:Nat)) (.bool true) (n+3:Nat) (n+4:Nat)):=hz₁
  exact hQ h₁ _ ⟨hz₁,hs₁.extBut _ _ (by refine zr _ _ ?_;omega) hTI,hs₁.extBut _ _ (by refine zr _ _ ?_;omega) hTO,g1.extBut hs₁.extBut (by refine zr _ _ ?_;omega),g2.extBut hs₁.extBut (by refine zr _ _ ?_;omega),g3.extBut hs₁.extBut (by refine zr _ _ ?_;omega)⟩ hs₁.1 fun c o hc e=>hs₁.extBut _ _ hc e
 ·exact zt2 (hQ s.heap f1 ⟨hz0,hTI,hTO,g1,g2,g3⟩ rfl fun _ _ _ e=>e)
theorem iM {n l1 l2 l3 k T:Nat}{f1 a b c x y z:Value}{ot:Obj}{xs ys zs:Array Value}{Q:Value→Shared→Prop}(h1:l1<n)(h2:l2<n)(h3:l3<n)(Z:wI s.heap n l1 l2 l3 k (rawInt (T:Nat)) f1 a b c)(hT:s.heap.get? T=some ot)
  (hl1:s.heap.IsList l1 xs) (hl2:s.heap.IsList l2 ys) (hl3:s.heap.IsList l3 zs) (hx:xs[k]?=some x) (hy:ys[k]?=some y) (hz:zs[k]?=some z)
  (hQ:∀h' f1',wI h' n l1 l2 l3 (k+1) (rawInt (T:Nat)) f1' a b c→h'.get? s.heap.objs.size=some (tO3 x y z)→
   (∀c o,c∉z3 n→s.heap.get? c=some o→h'.get? c=some o)→Q (.ref s.heap.objs.size) {s with heap:=h'}):
  wpAny (model prog w) A (Builtin.«zip.__next__» ⟨[.ref (n+5:Nat)],[]⟩) (fun fin s'=>∃v,fin=.done (.ret v)∧Q v s') E s:=by
 show wpAny _ _ (field (.ref _) 2 >>= _) _ _ _
 refine zs3 (zz9 Z.z rfl (x:=.bool false) rfl ?_)
 show wpAny _ _ (field (.ref _) 3 >>= _) _ _ _
 refine zs3 (zz9 Z.z rfl (x:=.ref (n+3:Nat)) rfl ?_)
 refine zs3 (zz7 Z.ti rfl ?_)
 show wpAny _ _ (Builtin.SmallTypes.ownedTupleIsFree (.ref (n+5:Nat)) >>= _) _ _ _
 refine zs3 (rJ h1 h2 h3 Z hT fun hB f1' ZB szB kB=>?_)
 obtain⟨hz0,hTI,hTO,g1,g2,g3⟩:=ZB
 replace hl1:hB.IsList l1 xs:=hl1.at fun o e=>kB _ o (by refine zr _ _ ?_;omega) e
 replace hl2:hB.IsList l2 ys:=hl2.at fun o e=>kB _ o (by refine zr _ _ ?_;omega) e
 replace hl3:hB.IsList l3 zs:=hl3.at fun o e=>kB _ o (by refine zr _ _ ?_;omega) e
 simp only[zx9,zC6]
 rw[zH3]
 simp only[zG3,List.forIn_nil]
 refine zs3 (zs3 (zs3 (zx3 ?_)))
 show wpAny _ _ (Builtin.SmallTypes.nextOf (.ref (n:Nat)) >>= _) _ _ _
 refine zs3 (zy6 g1 hl1 hx fun h₂ g1₂ hs₂=>zt2 (zt2 ?_))
 refine zs3 (zs3 (zx3 ?_))
 show wpAny _ _ (Builtin.SmallTypes.nextOf (.ref (n+1:Nat)) >>= _) _ _ _
 refine zs3 (zy6 (g2.extBut hs₂.extBut (by refine zr _ _ ?_;omega)) (hl2.extBut hs₂.extBut (by refine zr _ _ ?_;omega)) hy fun h₄ g2₄ hs₄=>zt2 (zt2 ?_))
 refine zs3 (zs3 (zx3 ?_))
 show wpAny _ _ (Builtin.SmallTypes.nextOf (.ref (n+2:Nat)) >>= _) _ _ _
 refine zs3 (zy6 ((g3.extBut hs₂.extBut (by refine zr _ _ ?_;omega)).extBut hs₄.extBut (by refine zr _ _ ?_;omega)) ((hl3.extBut hs₂.extBut (by refine zr _ _ ?_;omega)).extBut hs₄.extBut (by refine zr _ _ ?_;omega)) hz fun h₆ g3₆ hs₆=>zt2 (zt2 (zt2 ?_)))
 refine zs3 (wpAny_newTuple ?_ (by show 3≤sizeLine;decide))
 have hsz:h₆.objs.size=s.heap.objs.size:=by rw[hs₆.1,hs₄.1,hs₂.1];exact szB
 have up6:∀c o,c≠(n:Nat)→c≠(n+1:Nat)→c≠(n+2:Nat)→hB.get? c=some o→h₆.get? c=some o:=fun c o c1 c2 c3 e=>hs₆.extBut _ _ c3 (hs₄.extBut _ _ c2 (hs₂.extBut _ _ c1 e))
 have up:∀c o,h₆.get? c=some o→(h₆.push {cls:=.type "tuple",data:=.seq #[x,y,z]}).get? c=some o:=fun c o e=>zs5 _ e
 have g1₆:h₆.IsListIter (n:Nat) l1 (k+1):=(g1₂.extBut hs₄.extBut (by refine zr _ _ ?_;omega)).extBut hs₆.extBut (by refine zr _ _ ?_;omega)
 have g2₆:h₆.IsListIter (n+1:Nat) l2 (k+1):=g2₄.extBut hs₆.extBut (by refine zr _ _ ?_;omega)
 refine zt2 ⟨_,rfl,?_⟩
 show Q (.ref h₆.objs.size) _
 rw[hsz]
 refine hQ _ f1' ⟨up _ _ (up6 _ _ (by refine zr _ _ ?_;omega) (by refine zr _ _ ?_;omega) (by refine zr _ _ ?_;omega) hz0),up _ _ (up6 _ _ (by refine zr _ _ ?_;omega) (by refine zr _ _ ?_;omega) (by refine zr _ _ ?_;omega) hTI),up _ _ (up6 _ _ (by refine zr _ _ ?_;omega) (by refine zr _ _ ?_;omega) (by refine zr _ _ ?_;omega) hTO),g1₆.at fun o e=>up _ o e,g2₆.at fun o e=>up _ o e,g3₆.at fun o e=>up _ o e⟩ ?_ fun c o hc e=>?_
 ·rw[←hsz];exact zt8 _ rfl
 ·simp only[z3,zs8,zt5,zv2,not_or] at hc
  exact up c o (up6 c o hc.1 hc.2.1 hc.2.2.1 (kB c o hc.2.2.2.2.2 e))
theorem iW {n l1 l2 l3 k T:Nat}{f1 a b c:Value}{ot:Obj}{xs:Array Value}{Q:PySem.Fin→Shared→Prop}(hh:A.handled=none)(h1:l1<n)(h2:l2<n)(h3:l3<n)(Z:wI s.heap n l1 l2 l3 k (rawInt (T:Nat)) f1 a b c)(hT:s.heap.get? T=some ot)
  (hl1:s.heap.IsList l1 xs) (hx:xs[k]?=none)
  (hE:∀h' e,(∀c o,c∉z3 n→s.heap.get? c=some o→h'.get? c=some o)→(∃o,h'.get? e=some o∧o.cls=.type "StopIteration")→E (.ref e) {s with heap:=h'}):
  wpAny (model prog w) A (Builtin.«zip.__next__» ⟨[.ref (n+5:Nat)],[]⟩) Q E s:=by
 show wpAny _ _ (field (.ref _) 2 >>= _) _ _ _
 refine zs3 (zz9 Z.z rfl (x:=.bool false) rfl ?_)
 show wpAny _ _ (field (.ref _) 3 >>= _) _ _ _
 refine zs3 (zz9 Z.z rfl (x:=.ref (n+3:Nat)) rfl ?_)
 refine zs3 (zz7 Z.ti rfl ?_)
 show wpAny _ _ (Builtin.SmallTypes.ownedTupleIsFree (.ref (n+5:Nat)) >>= _) _ _ _
 refine zs3 (rJ h1 h2 h3 Z hT fun hB f1' ZB szB kB=>?_)
 replace hl1:hB.IsList l1 xs:=hl1.at fun o e=>kB _ o (by refine zr _ _ ?_;omega) e
 simp only[zx9,zC6]
 rw[zH3]
 simp only[zG3,List.forIn_nil]
 refine zs3 (zs3 (zs3 (zx3 ?_)))
 show wpAny _ _ (Builtin.SmallTypes.nextOf (.ref (n:Nat)) >>= _) _ _ _
 refine zs3 (wpAny_nextOf_list_end hh ZB.i1 hl1 hx fun h₂ e hs₂ he=>?_)
 refine hE h₂ e (fun c o hc q=>?_) he
 simp only[z3,zs8,zt5,zv2,not_or] at hc
 exact hs₂ _ _ hc.1 (kB _ _ hc.2.2.2.2.2 q)
theorem oO {n l1 l2 l3 k:Nat}{f1 a b c x y z:Value}{xs ys zs:Array Value}{Q:Option Value→Shared→Prop}(h1:l1<n)(h2:l2<n)(h3:l3<n)(Z:wI s.heap n l1 l2 l3 k .none f1 a b c)
  (hl1:s.heap.IsList l1 xs) (hl2:s.heap.IsList l2 ys) (hl3:s.heap.IsList l3 zs) (hx:xs[k]?=some x) (hy:ys[k]?=some y) (hz:zs[k]?=some z)
  (hQ:∀h',wI h' n l1 l2 l3 (k+1) (rawInt s.heap.objs.size) (.bool false) x y z→h'.get? s.heap.objs.size=some (tO3 x y z)→
   (∀c o,c∉z3 n→s.heap.get? c=some o→h'.get? c=some o)→Q (some (.ref s.heap.objs.size)) {s with heap:=h'}):
  wpAny (model prog w) A (pyNext (.ref (n+5:Nat))) Q E s:=by
 have hT:s.TypeIs (.ref (n+5:Nat)) "zip":=⟨_,Z.z,rfl⟩
 unfold pyNext
 exact zs3 (wpAny_attempt (zE4 (name:=Str.ofString "__next__") hT zx8
  (zD0 zx8 hT zF1
   (mR h1 h2 h3 Z hl1 hl2 hl3 hx hy hz fun h' a1 a2 a3=>zt2 (hQ h' a1 a2 a3)) (zE5 _))))
theorem mO {n l1 l2 l3 k T:Nat}{f1 a b c x y z:Value}{ot:Obj}{xs ys zs:Array Value}{Q:Option Value→Shared→Prop}(h1:l1<n)(h2:l2<n)(h3:l3<n)(Z:wI s.heap n l1 l2 l3 k (rawInt (T:Nat)) f1 a b c)(hT:s.heap.get? T=some ot)
  (hl1:s.heap.IsList l1 xs) (hl2:s.heap.IsList l2 ys) (hl3:s.heap.IsList l3 zs) (hx:xs[k]?=some x) (hy:ys[k]?=some y) (hz:zs[k]?=some z)
  (hQ:∀h' f1',wI h' n l1 l2 l3 (k+1) (rawInt (T:Nat)) f1' a b c→h'.get? s.heap.objs.size=some (tO3 x y z)→
   (∀c o,c∉z3 n→s.heap.get? c=some o→h'.get? c=some o)→Q (some (.ref s.heap.objs.size)) {s with heap:=h'}):
  wpAny (model prog w) A (pyNext (.ref (n+5:Nat))) Q E s:=by
 have hT':s.TypeIs (.ref (n+5:Nat)) "zip":=⟨_,Z.z,rfl⟩
 unfold pyNext
 exact zs3 (wpAny_attempt (zE4 (name:=Str.ofString "__next__") hT' zx8
  (zD0 zx8 hT' zF1
   (iM h1 h2 h3 Z hT hl1 hl2 hl3 hx hy hz fun h' f1' a1 a2 a3=>zt2 (hQ h' f1' a1 a2 a3)) (zE5 _))))
theorem iB {n l1 l2 l3 k T:Nat}{f1 a b c:Value}{ot:Obj}{xs:Array Value}{Q:Option Value→Shared→Prop}(hh:A.handled=none)(h1:l1<n)(h2:l2<n)(h3:l3<n)(Z:wI s.heap n l1 l2 l3 k (rawInt (T:Nat)) f1 a b c)(hT:s.heap.get? T=some ot)
  (hl1:s.heap.IsList l1 xs) (hx:xs[k]?=none)
  (hQ:∀h',(∀c o,c∉z3 n→s.heap.get? c=some o→h'.get? c=some o)→Q none {s with heap:=h'}):
  wpAny (model prog w) A (pyNext (.ref (n+5:Nat))) Q E s:=by
 have hT':s.TypeIs (.ref (n+5:Nat)) "zip":=⟨_,Z.z,rfl⟩
 unfold pyNext
 refine zs3 (wpAny_attempt (zE4 (name:=Str.ofString "__next__") hT' zx8
  (zD0 zx8 hT' zF1 (iW hh h1 h2 h3 Z hT hl1 hx fun h' e hk he=>?_) (zE5 _))))
 obtain⟨o,ho,hc⟩:=he
 refine zs3 (wpAny_isInstance (T:="StopIteration") (b:=true) ⟨o,ho,hc⟩ isSubtype_stop ?_)
 exact zt2 (hQ _ hk)
end
section
variable {X:Cx}{pins:List (Addr×Obj)}{σ:St}{H:Hp}{s:Shared}
def Tri (H0 H:Hp)(xs ys zs vs:List V)(i:Nat):Prop:=vs.length=i∧∀j,j<i→∃t x y z,vs[j]?=some (.ref t)∧xs[j]?=some x∧ys[j]?=some y∧zs[j]?=some z∧H t=some (.tup [x,y,z])∧H0 t=none
structure ZAt (X:Cx)(pins:List (Addr×Obj))(σ:St)(H:Hp)(n l1 l2 l3:Nat)(S:Addr)(xs ys zs:List V)(i:Nat)(s':Shared):Prop where
 ex:∃(H':Hp) (acc:List Value) (vs:List V) (e:Nat) (f0 f1 a b c:Value),Inv X pins σ H' s'∧(∀a o,H a=some o→H' a=some o)∧s'.heap.get? S=some {cls:=.type "list",dict:=none,data:=.seq acc.toArray e,slots:=#[]}∧H' S=none∧(∀b∈z3 n,H' b=none)∧
  wI s'.heap n l1 l2 l3 i f0 f1 a b c∧(i=0∧f0=.none∨∃(T:Nat) (ot:Obj),f0=rawInt (T:Nat)∧s'.heap.get? T=some ot∧T∉S::z3 n)∧Vals vs acc∧Tri H H' xs ys zs vs i
structure ze5 (X:Cx)(pins:List (Addr×Obj))(σ:St)(H:Hp)(S:Addr)(xs ys zs:List V)(s':Shared):Prop where
 ex:∃(H':Hp) (acc:List Value) (vs:List V) (e:Nat),Inv X pins σ H' s'∧(∀a o,H a=some o→H' a=some o)∧s'.heap.get? S=some {cls:=.type "list",dict:=none,data:=.seq acc.toArray e,slots:=#[]}∧H' S=none∧Vals vs acc∧Tri H H' xs ys zs vs xs.length
theorem Tri.snoc {H0 H H':Hp}{xs ys zs vs:List V}{i:Nat}{t:Addr}{x y z:V}(h:Tri H0 H xs ys zs vs i)(k:∀a o,H a=some o→H' a=some o)(hx:xs[i]?=some x)(hy:ys[i]?=some y)(hz:zs[i]?=some z)(ht:H' t=some (.tup [x,y,z]))(hn:H0 t=none):Tri H0 H' xs ys zs (vs++[.ref t]) (i+1):=by
 refine⟨by rw[zu3,h.1];rfl,fun j hj=>?_⟩
 rcases zB0 j i with z'|z'
 ·obtain⟨t',x',y',z2,e1,e2,e3,e4,e5,e6⟩:=h.2 j z'
  exact⟨t',x',y',z2,by rw[zx5 (by rw[h.1];exact z')];exact e1,e2,e3,e4,k _ _ e5,e6⟩
 ·have:j=i:=by omega
  subst this
  exact⟨t,x,y,z,by rw[zA2 (by rw[h.1];exact zs9 _),h.1];simp,hx,hy,hz,ht,hn⟩
theorem jH {A:Around}{R:Result→Shared→Prop}{n l1 l2 l3:Nat}{S:Addr}{xs ys zs:List V}(hh:A.handled=none)(h1:l1<n)(h2:l2<n)(h3:l3<n)(fS:∀H',H' S=none→xj X pins H' S)(fz:∀b∈z3 n,∀H',H' b=none→xj X pins H' b)(hSz:S∉z3 n)
  (q1:SqL X.K H l1 xs) (q2:SqL X.K H l2 ys) (q3:SqL X.K H l3 zs) (e2:ys.length=xs.length) (e3:zs.length=xs.length) (h0:0<xs.length) (hN:xs.length≤1000)
  (hR:∀s',ze5 X pins σ H S xs ys zs s'→R (.ok (.ret .none)) s'):
  ∀(k i:Nat) (s:Shared),xs.length-i=k→i≤xs.length→ZAt X pins σ H n l1 l2 l3 S xs ys zs i s→codeAny (model X.prog X.w) A (.builtin "list.extend.loop" ⟨[.ref S,.ref (n+5:Nat),.none],[]⟩) R s:=by
 have hh':A.in1.handled=none:=hh
 intro k
 induction k with
 |zero=>
  intro i s hk hi hst
  have hin:i=xs.length:=by omega
  subst hin
  obtain⟨H',acc,vs,e,f0,f1,a,b,c,I,st,hS,nS,nz,Z,fr,rv,tr⟩:=hst.ex
  refine codeAny_builtin PySem.F.entry_extend_loop ?_
  rw[Around.under_plainId zz1 _]
  show wpAny _ A.in1 (pyNext (.ref (n+5:Nat)) >>= _) _ _ s
  rcases fr with ⟨z,_⟩|⟨T,ot,rfl,hT,hTn⟩
  ·omega
  obtain⟨its1,rv1,p1,hz1⟩:=I.list (wm q1 fun a o _ e=>st a o e)
  refine zs3 (iB hh' h1 h2 h3 Z hT p1.isList (by
   rw[List.getElem?_toArray,List.getElem?_eq_none];rw[rv1.length];exact zs9 _) fun h' kk=>?_)
  refine zt2 (hR _ ⟨H',acc,vs,e,I.turnL (t':=s.toks) (ch:=z3 n) (fun b o hb q=>kk b o hb q) (fun b hb=>fz b hb H' (nz b hb)),st,kk _ _ hSz hS,nS,rv,tr⟩)
 |succ k ih=>
  intro i s hk hi hst
  have hlt:i<xs.length:=by omega
  obtain⟨H',acc,vs,e,f0,f1,a,b,c,I,st,hS,nS,nz,Z,fr,rv,tr⟩:=hst.ex
  refine codeAny_builtin PySem.F.entry_extend_loop ?_
  rw[Around.under_plainId zz1 _]
  show wpAny _ A.in1 (pyNext (.ref (n+5:Nat)) >>= _) _ _ s
  obtain⟨its1,rv1,p1,hz1⟩:=I.list (wm q1 fun a o _ e=>st a o e)
  obtain⟨its2,rv2,p2,hz2⟩:=I.list (wm q2 fun a o _ e=>st a o e)
  obtain⟨its3,rv3,p3,hz3⟩:=I.list (wm q3 fun a o _ e=>st a o e)
  have gx:xs[i]?=some xs[i]:=zs6 hlt
  have gy:ys[i]?=some ys[i]:=zs6 (by omega)
  have gz:zs[i]?=some zs[i]:=zs6 (by omega)
  obtain⟨u,hu,ru⟩:=rv1.get gx
  obtain⟨v,hv,rv'⟩:=rv2.get gy
  obtain⟨w,hw,rw'⟩:=rv3.get gz
  have lacc:acc.length=i:=by rw[←rv.length,tr.1]
  have zlt:∀b∈z3 n,b<s.heap.objs.size:=fun b hb=>by
   have:∃o,s.heap.get? b=some o:=by
    simp only[z3,zs8,zt5,zv2] at hb
    obtain⟨o1,q1,_⟩:=Z.i1
    obtain⟨o2,q2,_⟩:=Z.i2
    obtain⟨o3,q3,_⟩:=Z.i3
    rcases hb with rfl|rfl|rfl|rfl|rfl|rfl
    ·exact⟨_,q1⟩
    ·exact⟨_,q2⟩
    ·exact⟨_,q3⟩
    ·exact⟨_,Z.ti⟩
    ·exact⟨_,Z.to⟩
    ·exact⟨_,Z.z⟩
   obtain⟨o,q⟩:=this
   exact zt3 q
  have main:∀(h':Heap) (f0' f1' a' b' c':Value),wI h' n l1 l2 l3 (i+1) f0' f1' a' b' c'→(∃(T:Nat) (ot:Obj),f0'=rawInt (T:Nat)∧h'.get? T=some ot∧T∉S::z3 n)→h'.get? s.heap.objs.size=some (tO3 u v w)→
    (∀c o,c∉z3 n→s.heap.get? c=some o→h'.get? c=some o)→wpAny (model X.prog X.w) A.in1 (updateSeq S (·.push (.ref s.heap.objs.size)) >>= fun _=>again (.builtin "list.extend.loop" ⟨[.ref S,.ref (n+5:Nat),.none],[]⟩))
     (fun fin s'=>match fin with|.done f=>R (.ok f) s'|.again c'=>c'.quiet=true∧codeAny (model X.prog X.w) A c' R s') (fun e s'=>R (.error e) s') {s with heap:=h'}:=by
   intro h' f0' f1' a' b' c' Z' ⟨T,ot,hf,hT,hTn⟩ gT kk
   have nT:H' s.heap.objs.size=none:=I.hok.fresh (zs9 _)
   have nT0:H s.heap.objs.size=none:=by
    cases q:H s.heap.objs.size with
    |none=>rfl
    |some o=>rw[st _ _ q] at nT;cases nT
   have stT:∀a o,H' a=some o→upd H' s.heap.objs.size (.tup [xs[i],ys[i],zs[i]]) a=some o:=fun a o q=>by rw[zg (zk q nT)];exact q
   have J:=I.turnLay (t':=s.toks) (h':=h') (ch:=z3 n) (T:=s.heap.objs.size) (o:=.tup [xs[i],ys[i],zs[i]]) kk (fun b hb=>fz b hb H' (nz b hb)) (zs9 _) ⟨by show 3≤sizeLine;decide,[u,v,w],.cons ru (.cons rv' (.cons rw' .nil)),_,gT,rfl,0,rfl⟩
   have hS':=kk _ _ hSz hS
   have SltS:S<s.heap.objs.size:=zt3 hS
   have nS':upd H' s.heap.objs.size (.tup [xs[i],ys[i],zs[i]]) S=none:=by rw[zg (zu4 SltS)];exact nS
   obtain⟨e',hSn⟩:∃e',(h'.update S (Obj.mapSeq (·.push (Value.ref s.heap.objs.size)))).get? S=some {cls:=.type "list",dict:=none,data:=.seq (acc++[Value.ref s.heap.objs.size]).toArray e',slots:=#[]}:=by
    have:=zx7 (c:="list") hS' fun x=>x.push (Value.ref s.heap.objs.size)
    rw[List.push_toArray] at this
    exact⟨_,this⟩
   refine zs3 ?_
   refine zD7 hS' rfl (zt2 ⟨plainId_quiet zz1 _,ih (i+1) _ (by omega) hlt ⟨_,acc++[.ref s.heap.objs.size],vs++[.ref s.heap.objs.size],e',f0',f1',a',b',c',
    J.turnL (t':=s.toks) (ch:=[S]) (fun b o hb q=>(zw2 _ _ (zv8 (by simpa using hb))).trans q) (fun b hb=>by rw[zu8.mp hb];exact fS _ nS'),fun a o q=>stT _ _ (st a o q),hSn,nS',fun b hb=>?_,?_,.inr ⟨T,ot,hf,?_,hTn⟩,rv.append (.cons (show RelV (.ref s.heap.objs.size) (.ref s.heap.objs.size) from rfl) .nil),tr.snoc stT gx gy gz zi nT0⟩⟩)
    (by rw[zt1,lacc,zv4];omega) (by show (acc.toArray.push _).size≤sizeLine+1;rw[Array.size_push,zt1,lacc,zv4];omega)
   ·rw[zg]
    ·exact nz b hb
    ·exact zu4 (zlt b hb)
   ·have oth:∀b o,b≠S→h'.get? b=some o→(h'.update S (Obj.mapSeq (·.push (Value.ref s.heap.objs.size)))).get? b=some o:=fun b o hb q=>(zw2 _ _ (zv8 hb)).trans q
    simp only[z3,zs8,zt5,zv2,not_or] at hSz
    obtain⟨d1,d2,d3,d4,d5,d6⟩:=hSz
    exact⟨oth _ _ (zv8 d6) Z'.z,oth _ _ (zv8 d4) Z'.ti,oth _ _ (zv8 d5) Z'.to,Z'.i1.at fun o q=>oth _ o (zv8 d1) q,Z'.i2.at fun o q=>oth _ o (zv8 d2) q,Z'.i3.at fun o q=>oth _ o (zv8 d3) q⟩
   ·exact (zw2 _ _ (fun z=>hTn (by rw[←z];exact zt7))).trans hT
  rcases fr with ⟨_,rfl⟩|⟨T,ot,rfl,hT,hTn⟩
  ·refine zs3 (oO h1 h2 h3 Z p1.isList p2.isList p3.isList (by simpa using hu) (by simpa using hv) (by simpa using hw) fun h' Z' gT kk=>?_)
   refine main h' _ _ _ _ _ Z' ⟨s.heap.objs.size,_,rfl,gT,?_⟩ gT kk
   intro z
   rcases zs8.mp z with z|z
   ·exact absurd (zt3 hS) (by rw[←z];exact zy7 _)
   ·exact absurd (zlt _ z) (zy7 _)
  ·refine zs3 (mO h1 h2 h3 Z hT p1.isList p2.isList p3.isList (by simpa using hu) (by simpa using hv) (by simpa using hw) fun h' f1' Z' gT kk=>?_)
   exact main h' _ _ _ _ _ Z' ⟨T,ot,rfl,kk _ _ (fun z=>hTn (zt4 _ z)) hT,hTn⟩ gT kk
end
theorem tZ (a b c:Value):checkTypeCall "zip" ⟨[a,b,c],[]⟩=pure ():=by kernel_rfl
theorem rA (a b c:Value):checkBuiltinCall "zip.__new__" ⟨[.type "zip",a,b,c],[]⟩=pure ():=by kernel_rfl
theorem vN (a b c d:Value):argsOk "object.__init__" ⟨[a,b,c,d],[]⟩:=by
 unfold argsOk;rw[signature?_of (id:="object.__init__") (n:=['_','_','t','i','n','i','_','_']) (o:=['t','c','e','j','b','o']) (by kernel_rfl) PySem.F.owner_object];kernel_rfl
theorem mE :typeLookup (.type "zip") "__len__"=pure none:=by rw[typeLookup_type,builtinLookup_eq_fast];kernel_rfl
theorem pW :typeLookup (.type "zip") "__length_hint__"=pure none:=by rw[typeLookup_type,builtinLookup_eq_fast];kernel_rfl
abbrev itO (l:Addr):Obj:={cls:=.type "list_iterator",data:=.fields #[.ref l,.int 0 0]}
abbrev zh3 (h:Heap)(l1 l2 l3:Addr):Heap:=((h.push (itO l1)).push (itO l2)).push (itO l3)
abbrev zh4 (h:Heap)(l1 l2 l3:Addr):Heap:=(zh3 h l1 l2 l3).push (tO3 (.ref h.objs.size) (.ref (h.push (itO l1)).objs.size) (.ref ((h.push (itO l1)).push (itO l2)).objs.size))
abbrev zh5 (h:Heap)(l1 l2 l3:Addr):Heap:=(zh4 h l1 l2 l3).push (tO3 .none .none .none)
abbrev zh6 (h:Heap)(l1 l2 l3:Addr):Heap:=(zh5 h l1 l2 l3).push (zO .none (.bool false) (zh3 h l1 l2 l3).objs.size (zh4 h l1 l2 l3).objs.size)
set_option maxHeartbeats 8000000 in
theorem sk (l1 l2 l3:Addr)(xs ys zs:Array Value):
  Meets (Builtin.«zip.__new__» ⟨[.type "zip",.ref l1,.ref l2,.ref l3],[]⟩) (fun _ R s=>s.heap.IsList l1 xs∧s.heap.IsList l2 ys∧s.heap.IsList l3 zs∧
   R (.ok (.ret (.ref (zh5 s.heap l1 l2 l3).objs.size))) {s with heap:=zh6 s.heap l1 l2 l3}):=
 .of_wp fun prog w A R s h=>by
  obtain⟨hp,g,d,tk,os⟩:=s;obtain⟨hl1,hl2,hl3,h⟩:=h
  have hsub:=sub_zip
  have hL1:Heap.IsList (Shared.heap ⟨hp,g,d,tk,os⟩) l1 xs:=hl1
  have hL2:Heap.IsList (Shared.heap ⟨hp.push {cls:=.type "list_iterator",data:=.fields #[.ref l1,.int 0 0]},g,d,tk,os⟩) l2 ys:=Heap.IsList.push hl2 _
  have hL3:Heap.IsList (Shared.heap ⟨(hp.push {cls:=.type "list_iterator",data:=.fields #[.ref l1,.int 0 0]}).push {cls:=.type "list_iterator",data:=.fields #[.ref l2,.int 0 0]},g,d,tk,os⟩) l3 zs:=Heap.IsList.push (Heap.IsList.push hl3 _) _
  wp_walk using zE6 hL1,zE6 hL2,zE6 hL3
  exact⟨_,rfl,h⟩
section
variable {prog:Program}{w:World}{A:Around}{E:Value→Shared→Prop}{s:Shared}
theorem ll {l1 l2 l3:Addr}{xs ys zs:Array Value}{Q:Value→Shared→Prop}(hl1:s.heap.IsList l1 xs)(hl2:s.heap.IsList l2 ys)(hl3:s.heap.IsList l3 zs)
  (h:∀h',wI h' s.heap.objs.size l1 l2 l3 0 .none (.bool false) .none .none .none→h'.objs.size=s.heap.objs.size+6→(∀c o,s.heap.get? c=some o→h'.get? c=some o)→Q (.ref (s.heap.objs.size+5)) {s with heap:=h'}):
  wpAny (model prog w) A (call (.type "zip") [.ref l1,.ref l2,.ref l3]) Q E s:=by
 refine callType_new PySem.F.called_zip (by decide) (tZ _ _ _) (rA _ _ _) (fun obj=>vN obj _ _ _) PySem.F.entry_zip_new
  (sk l1 l2 l3 xs ys zs) ⟨hl1,hl2,hl3,?_⟩
 have z1:(s.heap.push (itO l1)).objs.size=s.heap.objs.size+1:=zz0 ..
 have z2:((s.heap.push (itO l1)).push (itO l2)).objs.size=s.heap.objs.size+2:=by rw[zz0,z1]
 have z3':(zh3 s.heap l1 l2 l3).objs.size=s.heap.objs.size+3:=by rw[zz0,z2]
 have z4:(zh4 s.heap l1 l2 l3).objs.size=s.heap.objs.size+4:=by rw[zz0,z3']
 have z5:(zh5 s.heap l1 l2 l3).objs.size=s.heap.objs.size+5:=by rw[zz0,z4]
 have z6:(zh6 s.heap l1 l2 l3).objs.size=s.heap.objs.size+6:=by rw[zz0,z5]
 have g6:(zh6 s.heap l1 l2 l3).get? (zh5 s.heap l1 l2 l3).objs.size=some _:=zt8 _ rfl
 have g5:(zh6 s.heap l1 l2 l3).get? (zh4 s.heap l1 l2 l3).objs.size=some _:=zs5 _ (zt8 _ rfl)
 have g4:(zh6 s.heap l1 l2 l3).get? (zh3 s.heap l1 l2 l3).objs.size=some _:=zs5 _ (zs5 _ (zt8 _ rfl))
 have g3:(zh6 s.heap l1 l2 l3).get? ((s.heap.push (itO l1)).push (itO l2)).objs.size=some _:=zs5 _ (zs5 _ (zs5 _ (zt8 _ rfl)))
 have g2:(zh6 s.heap l1 l2 l3).get? (s.heap.push (itO l1)).objs.size=some _:=zs5 _ (zs5 _ (zs5 _ (zs5 _ (zt8 _ rfl))))
 have g1:(zh6 s.heap l1 l2 l3).get? s.heap.objs.size=some _:=zs5 _ (zs5 _ (zs5 _ (zs5 _ (zs5 _ (zt8 _ rfl)))))
 show _∧_
 rw[z5,z4,z3'] at g6
 rw[z4] at g5
 rw[z3',z2,z1] at g4
 rw[z2] at g3
 rw[z1] at g2
 rw[z5]
 exact⟨⟨_,g6,rfl⟩,h _ ⟨g6,g4,g5,⟨_,g1,rfl,rfl⟩,⟨_,g2,rfl,rfl⟩,⟨_,g3,rfl,rfl⟩⟩ z6 fun c o x=>
  zs5 _ (zs5 _ (zs5 _ (zs5 _ (zs5 _ (zs5 _ x)))))⟩
end
section
variable {X:Cx}{pins:List (Addr×Obj)}{σ:St}{H:Hp}{s:Shared}
theorem iG {A:Around}{R:Result→Shared→Prop}{n l1 l2 l3:Nat}{S:Addr}{xs ys zs:List V}(hh:A.handled=none)(h1:l1<n)(h2:l2<n)(h3:l3<n)(I:Inv X pins σ H s)(Z:wI s.heap n l1 l2 l3 0 .none (.bool false) .none .none .none)(hS:s.heap.get? S=some {cls:=.type "list",data:=.seq #[]})
  (nS:H S=none) (nz:∀b∈z3 n,H b=none) (fS:∀H',H' S=none→xj X pins H' S) (fz:∀b∈z3 n,∀H',H' b=none→xj X pins H' b) (hSz:S∉z3 n)
  (q1:SqL X.K H l1 xs) (q2:SqL X.K H l2 ys) (q3:SqL X.K H l3 zs) (e2:ys.length=xs.length) (e3:zs.length=xs.length) (h0:0<xs.length) (hN:xs.length≤1000)
  (hR:∀s',ze5 X pins σ H S xs ys zs s'→R (.ok (.ret .none)) s'):
  wpAny (model X.prog X.w) A.in1 (Builtin.«list.__init__» ⟨[.ref S,.ref (n+5:Nat)],[]⟩)
   (fun fin s'=>match fin with|.done f=>R (.ok f) s'|.again c'=>c'.quiet=true∧codeAny (model X.prog X.w) A c' R s') (fun e s'=>R (.error e) s') s:=by
 have hSz':=hSz
 simp only[z3,zs8,zt5,zv2,not_or] at hSz'
 obtain⟨d1,d2,d3,d4,d5,d6⟩:=hSz'
 show wpAny _ _ (do let old ←Builtin.List.listItems (.ref S);Builtin.List.listUpdate (.ref S) (fun _=>#[]);letGo old.toList.reverse;Builtin.List.listExtendWith (.ref S) (.ref (n+5:Nat)) .none) _ _ s
 refine zs3 ?_
 unfold Builtin.List.listItems
 refine zs3 (zz7 hS rfl (zt2 ?_))
 show wpAny _ _ (updateSeq S (fun _=>#[]) >>= fun _=>letGo (#[]:Array Value).toList.reverse >>= fun _=>Builtin.List.listExtendWith (.ref S) (.ref (n+5:Nat)) .none) _ _ s
 refine zs3 (zD7 hS rfl ?_)
 obtain⟨e',hS₂⟩:∃e',(s.heap.update S (Obj.mapSeq (fun _=>(#[]:Array Value)))).get? S=some {cls:=.type "list",dict:=none,data:=.seq #[] e',slots:=#[]}:=⟨_,zx7 (c:="list") hS fun _=>#[]⟩
 have oth:∀b o,b≠S→s.heap.get? b=some o→(s.heap.update S (Obj.mapSeq (fun _=>(#[]:Array Value)))).get? b=some o:=
  fun b o hb e=>(zw2 _ _ (zv8 hb)).trans e
 have Z₂:wI (s.heap.update S (Obj.mapSeq (fun _=>(#[]:Array Value)))) n l1 l2 l3 0 .none (.bool false) .none .none .none:=⟨oth _ _ (zv8 d6) Z.z,oth _ _ (zv8 d4) Z.ti,oth _ _ (zv8 d5) Z.to,Z.i1.at fun o q=>oth _ o (zv8 d1) q,Z.i2.at fun o q=>oth _ o (zv8 d2) q,Z.i3.at fun o q=>oth _ o (zv8 d3) q⟩
 refine zs3 (wpAny_letGo ?_)
 have I₂:Inv X pins σ H {s with heap:=s.heap.update S (Obj.mapSeq (fun _=>(#[]:Array Value))),toks:=s.toks}:=I.turnL (ch:=[S]) (fun b o hb q=>oth b o (by simpa using hb) q) fun b hb=>by rw[zu8.mp hb];exact fS H nS
 have hT:({s with heap:=s.heap.update S (Obj.mapSeq (fun _=>(#[]:Array Value)))}:Shared).TypeIs (.ref (n+5:Nat)) "zip":=⟨_,Z₂.z,rfl⟩
 unfold Builtin.List.listExtendWith
 refine zs3 (wpAny_typeOf hT ?_)
 have b1:Builtin.List.listSameRef (.ref S) (.ref (n+5:Nat))=false:=by simp[Builtin.List.listSameRef];exact d6
 have b2:(Value.type "zip" == Value.type "list")=false:=by decide
 have b3:(Value.type "zip" == Value.type "tuple")=false:=by decide
 simp only[b1,b2,b3,Bool.or_false,zx9,zC6]
 refine zs3 (wpAny_pyIter_slot hT PySem.F.slot_zip_iter (zD0 PySem.F.slot_zip_iter hT PySem.F.entry_zip_iter ?_ (PySem.F.args_zip_iter_1 _)))
 show wpAny _ _ (ret (.ref (n+5:Nat))) _ _ _
 refine zt2 ⟨_,rfl,"zip",_,hT,zx8.lookup,?_⟩
 refine zs3 (zx3 ?_)
 unfold Builtin.List.listLengthHint
 refine zs3 (wpAny_specialOf hT mE ?_)
 show wpAny _ _ (specialOf (Value.ref (n+5:Nat)) (Str.ofString "__length_hint__") >>= _) _ _ _
 refine zs3 (wpAny_specialOf hT pW ?_)
 refine zt2 ?_
 have key:∀(h:Heap) (e:Nat),h.get? S=some {cls:=.type "list",dict:=none,data:=.seq #[] e,slots:=#[]}→(∀b o,b≠S→s.heap.get? b=some o→h.get? b=some o)→codeAny (model X.prog X.w) A (.builtin "list.extend.loop" ⟨[.ref S,.ref (n+5:Nat),.none],[]⟩) R {s with heap:=h}:=by
  intro h e hS' oth'
  refine jH hh h1 h2 h3 fS fz hSz q1 q2 q3 e2 e3 h0 hN hR xs.length 0 _ (by omega) (zt6 _) ⟨H,[],[],e,.none,.bool false,.none,.none,.none,I.turnL (t':=s.toks) (ch:=[S]) (fun b o hb q=>oth' b o (by simpa using hb) q) (fun b hb=>by rw[zu8.mp hb];exact fS H nS),fun _ _ e=>e,hS',nS,nz,?_,.inl ⟨rfl,rfl⟩,.nil,rfl,fun j hj=>absurd hj (Nat.not_lt_zero _)⟩
  exact⟨oth' _ _ (zv8 d6) Z.z,oth' _ _ (zv8 d4) Z.ti,oth' _ _ (zv8 d5) Z.to,Z.i1.at fun o q=>oth' _ o (zv8 d1) q,Z.i2.at fun o q=>oth' _ o (zv8 d2) q,Z.i3.at fun o q=>oth' _ o (zv8 d3) q⟩
 refine wpAny_ite_split (fun _=>?_) (fun _=>zt2 ⟨plainId_quiet zz1 _,key _ _ hS₂ oth⟩)
 refine zs3 (wpAny_rule ?_)
 refine zs3 ?_
 show wpAny _ _ (updateSeq S (·.push .none) >>= fun _=>updateSeq S (·.pop)) _ _ _
 refine zs3 (zD7 hS₂ rfl ?_)
 obtain⟨e3',hS₃⟩:∃e',((s.heap.update S (Obj.mapSeq (fun _=>(#[]:Array Value)))).update S (Obj.mapSeq (·.push Value.none))).get? S=some {cls:=.type "list",dict:=none,data:=.seq #[.none] e',slots:=#[]}:=⟨_,zx7 (c:="list") hS₂ fun x=>x.push Value.none⟩
 refine zD7 (hz:=by seq_fits) hS₃ rfl ?_
 obtain⟨e4',hS₄⟩:∃e',(((s.heap.update S (Obj.mapSeq (fun _=>(#[]:Array Value)))).update S (Obj.mapSeq (·.push Value.none))).update S (Obj.mapSeq (·.pop))).get? S=some {cls:=.type "list",dict:=none,data:=.seq #[] e',slots:=#[]}:=⟨_,zx7 (c:="list") hS₃ fun x=>x.pop⟩
 refine zt2 ⟨plainId_quiet zz1 _,key _ _ hS₄ fun b o hb e=>?_⟩
 exact (zw2 _ _ (zv8 hb)).trans ((zw2 _ _ (zv8 hb)).trans (oth b o hb e))
end
section
variable {X:Cx}{pins:List (Addr×Obj)}{σ:St}{H:Hp}{s:Shared}
theorem sW {A:Around}{E:Value→Shared→Prop}{Q:Value→Shared→Prop}{n l1 l2 l3:Nat}{xs ys zs:List V}(hh:A.handled=none)(h1:l1<n)(h2:l2<n)(h3:l3<n)(I:Inv X pins σ H s)(Z:wI s.heap n l1 l2 l3 0 .none (.bool false) .none .none .none)
  (nz:∀b∈z3 n,H b=none) (fz:∀b∈z3 n,∀H',H' b=none→xj X pins H' b)
  (q1:SqL X.K H l1 xs) (q2:SqL X.K H l2 ys) (q3:SqL X.K H l3 zs) (e2:ys.length=xs.length) (e3:zs.length=xs.length) (h0:0<xs.length) (hN:xs.length≤1000)
  (hQ:∀D s',s.heap.objs.size≤D→ze5 X pins σ H D xs ys zs s'→(∀H',H' D=none→xj X pins H' D)→Q (.ref D) s'):
  wpAny (model X.prog X.w) A (call (.type "list") [.ref (n+5:Nat)]) Q E s:=by
 refine callType_codes (Q₁:=fun obj s₁=>obj=.ref s.heap.objs.size∧s₁={s with heap:=s.heap.push {cls:=.type "list",data:=.seq #[]}}) PySem.F.called_list (PySem.F.typeCall_list_1 _) PySem.F.entry_list_init
  (code_list_new _ ⟨rfl,rfl⟩) fun obj s₁ h₁=>?_
 obtain⟨rfl,rfl⟩:=h₁
 have hS:(s.heap.push {cls:=.type "list",data:=.seq #[]}).get? s.heap.objs.size=some {cls:=.type "list",data:=.seq #[]}:=zt8 _ rfl
 have up:∀b o,s.heap.get? b=some o→(s.heap.push {cls:=.type "list",data:=.seq #[]}).get? b=some o:=fun b o e=>zs5 _ e
 have fS:∀H':Hp,H' s.heap.objs.size=none→xj X pins H' s.heap.objs.size:=fun H' h=>I.fpOk (zs9 _) h
 have hSz:s.heap.objs.size∉z3 n:=fun hb=>by
  have:∃o,s.heap.get? s.heap.objs.size=some o:=by
   simp only[z3,zs8,zt5,zv2] at hb
   obtain⟨o1,q1,_⟩:=Z.i1
   obtain⟨o2,q2,_⟩:=Z.i2
   obtain⟨o3,q3,_⟩:=Z.i3
   rcases hb with z|z|z|z|z|z<;>rw[z]
   ·exact⟨_,q1⟩
   ·exact⟨_,q2⟩
   ·exact⟨_,q3⟩
   ·exact⟨_,Z.ti⟩
   ·exact⟨_,Z.to⟩
   ·exact⟨_,Z.z⟩
  obtain⟨o,q⟩:=this
  exact absurd (zt3 q) (zy7 _)
 refine⟨⟨_,hS,rfl⟩,PySem.F.args_list_init_2 _ _,iG (A:=A.in1) hh h1 h2 h3 (I.kept (t':=s.toks) up) ⟨up _ _ Z.z,up _ _ Z.ti,up _ _ Z.to,Z.i1.at fun o q=>up _ o q,Z.i2.at fun o q=>up _ o q,Z.i3.at fun o q=>up _ o q⟩ hS (I.hok.fresh (zs9 _)) nz fS fz hSz q1 q2 q3 e2 e3 h0 hN fun s' ze=>⟨rfl,hQ _ s' (zs9 _) ze fS⟩⟩
variable {a b c:Expr}{p p0 pos pos2:Pos}
set_option maxHeartbeats 2000000 in
theorem nr {ta:TA}(hc:X.calm=true)(hgl:Gl X "list")(hml:X.mg "list"=none)(hg:Gl X "zip")(hm:X.mg "zip"=none)(ha:PA X [a,b,c] ta)
  (hs0:starEach [.Call (.Name "zip" p) [a,b,c] [] pos2] X.env=[(false,eval (.Call (.Name "zip" p) [a,b,c] [] pos2) X.env)]:=by rfl)
  (hs:starEach [a,b,c] X.env=(false,eval a X.env)::starEach [b,c] X.env:=by rfl) (hpl:(backTo pos2 (starEach [b,c] X.env)).any (·.1)=false:=by rfl):
  PE X (.Call (.Name "list" p0) [.Call (.Name "zip" p) [a,b,c] [] pos2] [] pos) (fun σ H Q=>ta σ H fun vs H1=>∃(l1 l2 l3:Addr) (xs ys zs:List V),vs=[.ref l1,.ref l2,.ref l3]∧SqL X.K H1 l1 xs∧SqL X.K H1 l2 ys∧SqL X.K H1 l3 zs∧ys.length=xs.length∧zs.length=xs.length∧0<xs.length∧xs.length≤1000∧
   ∀D H' vs,H1 D=none→(∀a o,H1 a=some o→H' a=some o)→H' D=some (.lst vs)→(∃H'',(∀a o,H'' a=some o→a≠D∧H' a=some o)∧Tri H1 H'' xs ys zs vs xs.length)→Q (.ref D) H'):=by
 intro pins s σ H Q I h
 refine Call_ (wF I hgl hml boot_list (zx1 ?_ hs0 rfl))
 rw[hs0]
 show wpAny _ _ (spliced ((false,eval _ X.env)::backTo pos [])) _ _ s
 refine Calls.spliced_cons ?_
 refine Call_ (wF I hg hm boot_zip (zx1 (thn (ha pos2 pins s σ H _ I h) fun us s1 ⟨vs,H1,I1,r1,q1⟩=>?_) hs hpl))
 obtain⟨l1,l2,l3,xs,ys,zs,e,hq1,hq2,hq3,e2,e3,h0,hN,q⟩:=q1
 subst e
 obtain⟨u,v,w,rfl,ru,rv,rw'⟩:∃u v w,us=[u,v,w]∧RelV (.ref l1) u∧RelV (.ref l2) v∧RelV (.ref l3) w:=by
  cases r1 with
  |cons a r1=>
   cases r1 with
   |cons b r1=>
    cases r1 with
    |cons c r1=>
     cases r1
     exact⟨_,_,_,rfl,a,b,c⟩
 cases (show u=Value.ref l1 from ru)
 cases (show v=Value.ref l2 from rv)
 cases (show w=Value.ref l3 from rw')
 obtain⟨its1,rv1,p1,hz1⟩:=I1.list hq1
 obtain⟨its2,rv2,p2,hz2⟩:=I1.list hq2
 obtain⟨its3,rv3,p3,hz3⟩:=I1.list hq3
 refine ll p1.isList p2.isList p3.isList fun h' Z sz hk=>?_
 have lt1:l1<s1.heap.objs.size:=by obtain⟨o,e,_⟩:=p1.isList;exact zt3 e
 have lt2:l2<s1.heap.objs.size:=by obtain⟨o,e,_⟩:=p2.isList;exact zt3 e
 have lt3:l3<s1.heap.objs.size:=by obtain⟨o,e,_⟩:=p3.isList;exact zt3 e
 have le:∀b∈z3 s1.heap.objs.size,s1.heap.objs.size≤b:=fun b hb=>by
  simp only[z3,zs8,zt5,zv2] at hb
  have key:∀n b:Nat,(b=n∨b=n+1∨b=n+2∨b=n+3∨b=n+4∨b=n+5)→n≤b:=fun n b h=>by omega
  exact key _ _ hb
 have I2:Inv X pins σ H1 {s1 with heap:=h',toks:=s1.toks}:=I1.kept fun b o e=>hk b o e
 refine zv6 (Q:=_) (show wpAny _ _ (spliced []) (fun vs s₁=>vs=[]∧s₁={s1 with heap:=h'}) X.xe {s1 with heap:=h'} from zt2 ⟨rfl,rfl⟩) (fun vs s2 hv=>?_) fun _ _ z=>z
 obtain⟨rfl,rfl⟩:=hv
 refine sW (s:={s1 with heap:=h'}) (I.ok.hd hc) lt1 lt2 lt3 I2 Z (fun b hb=>I1.hok.fresh (le b hb)) (fun b hb H' hn=>I1.fpOk (le b hb) hn) hq1 hq2 hq3 e2 e3 h0 hN fun D s' lD ze fD=>?_
 obtain⟨H',acc,vs,e,I',st,hD,nD,rvs,tri⟩:=ze.ex
 have nD1:H1 D=none:=I2.hok.fresh lD
 have stD:∀a o,H' a=some o→a≠D∧upd H' D (.lst vs) a=some o:=fun a o q=>by
  have n:a≠D:=fun z=>by rw[z,nD] at q;cases q
  exact⟨n,by rw[zg n];exact q⟩
 refine⟨.ref D,upd H' D (.lst vs),I'.adopt (fD H' nD) ⟨?_,acc,e,rvs,hD⟩,rfl,q D _ vs nD1 (fun a o q=>(stD a o (st a o q)).2) zi ⟨H',stD,tri⟩⟩
 rw[tri.1,zv4];omega
end
def cI (a b c:PyData):PyData:=.tuple [a,b,c]
def xT :List PyData→List PyData→List PyData→List PyData
 |a::as,b::bs,c::cs=>cI a b c::xT as bs cs
 |_,_,_=>[]
theorem uB :∀{as bs cs:List PyData},bs.length=as.length→cs.length=as.length→(xT as bs cs).length=as.length
 |[],_,_,_,_=>rfl
 |a::as,b::bs,c::cs,h1,h2=>by
  rw[xT,zu1,zu1,uB (by simpa using h1) (by simpa using h2)]
theorem uF :∀{as bs cs:List PyData} {j:Nat} {d:PyData},(xT as bs cs)[j]?=some d→∃a b c,as[j]?=some a∧bs[j]?=some b∧cs[j]?=some c∧d=cI a b c
 |[],_,_,j,d,h=>by simp[xT] at h
 |a::as,[],_,j,d,h=>by simp[xT] at h
 |a::as,b::bs,[],j,d,h=>by simp[xT] at h
 |a::as,b::bs,c::cs,0,d,h=>by simp[xT] at h;exact⟨a,b,c,rfl,rfl,rfl,h.symm⟩
 |a::as,b::bs,c::cs,j+1,d,h=>by
  obtain⟨x,y,z,e1,e2,e3,e4⟩:=uF (as:=as) (bs:=bs) (cs:=cs) (j:=j) (d:=d) (by simpa[xT] using h)
  exact⟨x,y,z,by simpa using e1,by simpa using e2,by simpa using e3,e4⟩
theorem je {G:Hp}:∀{vs:List V} {ds:List PyData},vs.length=ds.length→(∀(j:Nat) d,ds[j]?=some d→∃v,vs[j]?=some v∧AV G v d)→AVs G vs ds
 |[],[],_,_=>.nil
 |v::vs,d::ds,hl,h=>by
  obtain⟨v',e,a⟩:=h 0 d rfl
  cases e
  exact .cons a (je (by simpa using hl) fun j d' hd=>h (j+1) d' (by simpa using hd))
section
variable {X:Cx}{α:Ev}{a b c:Expr}{p p0 pos pos2:Pos}
theorem oK {Q:List PyData→Prop}(hc:X.calm=true)(hgl:Gl X "list")(hml:X.mg "list"=none)(hg:Gl X "zip")(hm:X.mg "zip"=none)
  (h:EvA X α [a,b,c] fun as=>∃ds es fs,as=[.dat (.list ds),.dat (.list es),.dat (.list fs)]∧es.length=ds.length∧fs.length=ds.length∧0<ds.length∧ds.length≤1000∧Q (xT ds es fs))
  (hs0:starEach [.Call (.Name "zip" p) [a,b,c] [] pos2] X.env=[(false,eval (.Call (.Name "zip" p) [a,b,c] [] pos2) X.env)]:=by rfl)
  (hs:starEach [a,b,c] X.env=(false,eval a X.env)::starEach [b,c] X.env:=by rfl) (hpl:(backTo pos2 (starEach [b,c] X.env)).any (·.1)=false:=by rfl):
  EvL X α (.Call (.Name "list" p0) [.Call (.Name "zip" p) [a,b,c] [] pos2] [] pos) Q:=fun F σ H R m k=>by
 refine⟨_,nr hc hgl hml hg hm yZ hs0 hs hpl,?_⟩
 refine h F σ H _ m fun as vs H1 q1 t1 k1 rv=>?_
 have m1:=m.kz k1 t1
 obtain⟨ds,es,fs,rfl,l2,l3,l0,lN,q⟩:=q1
 cases rv with
 |cons r1 rv=>
  cases rv with
  |cons r2 rv=>
   cases rv with
   |cons r3 rv=>
    cases rv
    obtain⟨a1,xs,rfl,g1,A1⟩:=AV.lst_inv r1
    obtain⟨a2,ys,rfl,g2,A2⟩:=AV.lst_inv r2
    obtain⟨a3,zs,rfl,g3,A3⟩:=AV.lst_inv r3
    have y1:=A1.length
    have y2:=A2.length
    have y3:=A3.length
    refine⟨a1,a2,a3,xs,ys,zs,rfl,SqL.of (zl g1).2,SqL.of (zl g2).2,SqL.of (zl g3).2,by omega,by omega,by omega,by omega,fun D H' vs hD st hD' tr=>?_⟩
    obtain⟨H'',sb,tri⟩:=tr
    have sm:zy H1 H':=fun a o e=>st a o e
    refine k _ _ H' q (t1.same sm) (k1.trans (Kz.of_same sm)) ⟨D,vs,rfl,?_,hD',?_⟩
    ·cases z:H D with
     |none=>rfl
     |some o=>rw[k1 D o z (m.tp.nt (ow0 (m1.fresh hD)))] at hD;cases hD
    ·have gs:zy (Gz F α σ H1) (sub (fun x=>¬Ow F α σ x∧x≠D) H'):=zx fun a o h e=>⟨⟨h,zk e hD⟩,st a o e⟩
     refine je (by rw[tri.1,uB l2 l3];exact y1) fun j d hd=>?_
     obtain⟨d1,d2,d3,e1,e2,e3,rfl⟩:=uF hd
     have hj:j<xs.length:=by rw[y1];exact (zt0.mp e1).1
     obtain⟨t,x,y,z,f1,f2,f3,f4,f5,f6⟩:=tri.2 j hj
     obtain⟨x',ex,ax⟩:=A1.get e1
     obtain⟨y',ey,ay⟩:=A2.get e2
     obtain⟨z',ez,az⟩:=A3.get e3
     rw[f2] at ex;cases ex
     rw[f3] at ey;cases ey
     rw[f4] at ez;cases ez
     obtain⟨nt,ht⟩:=sb t _ f5
     exact⟨_,f1,.tup (yc ⟨m1.fresh f6,nt⟩ ht) (.cons (ax.same gs) (.cons (ay.same gs) (.cons (az.same gs) .nil)))⟩
theorem sY :∀{ns:List Int} {its:List Value},Vals (ns.map V.int) its→∃ps:List (Int×Tok),its=ps.map (fun p=>Value.int p.1 p.2)∧ps.map (·.1)=ns
 |[],_,.nil=>⟨[],rfl,rfl⟩
 |n::ns,_,.cons h hs=>by
  obtain⟨ps,e1,e2⟩:=sY hs
  obtain⟨t,rfl⟩:=h
  exact⟨(n,t)::ps,by rw[e1];rfl,by rw[←e2];rfl⟩
theorem tJ (ps:List (Int×Tok))(k:Nat):numAt ps.toArray k=(ps.map (·.1)).getD k 0:=by
 unfold numAt
 rw[List.getElem?_toArray,zs7,zu0]
theorem vg (ps:List (Int×Tok)):∀k,k≤ps.length→preSum (numAt ps.toArray) k=((ps.map (·.1)).take k).sum
 |0,_=>by simp[preSum]
 |k+1,h=>by
  have hk:k<(ps.map (·.1)).length:=by rw[zs4];omega
  rw[preSum,vg ps k (by omega),tJ,zC3,zs6 hk,List.sum_append,zs7,zs6 hk]
  simp
def Fits (ns:List Int):Prop:=∀k,k≤ns.length→-(2 ^ 62)≤(ns.take k).sum∧(ns.take k).sum<2 ^ 62
theorem ip (hc:X.calm=true):we X (.builtin "sum") (fun xs H Q=>∃(l:Addr) (ns:List Int),xs=[.ref l]∧SqL X.K H l (ns.map V.int)∧(∀n∈ns,-(2 ^ 62)≤n∧n<2 ^ 62)∧Fits ns∧Q (.int ns.sum) H):=by
 intro pins s σ H xs us Q I r h
 obtain⟨l,ns,rfl,hS,hb,hf,q⟩:=h
 obtain⟨u,rfl,rx⟩:=Vals.one r
 cases (show u=Value.ref l from rx)
 obtain⟨its,rv,p,hz⟩:=I.list hS
 obtain⟨ps,rfl,rfl⟩:=sY rv
 have hl:s.heap.IsList l (intItems ps.toArray):=by
  have:=p.isList
  rwa [show intItems ps.toArray=(ps.map fun p=>Value.int p.1 p.2).toArray by simp[intItems]]
 refine sum_intList (I.ok.hd hc) hl (fun j hj=>?_) fun h' tk t' hk=>?_
 ·have hj':j<ps.length:=by simpa using hj
  have hk:j<(ps.map (·.1)).length:=by rw[zs4];exact hj'
  rw[vg ps (j+1) (by omega),tJ,zs7,zs6 hk]
  have h1:=hb _ (zB2 hk)
  have h2:=hf (j+1) (by omega)
  refine⟨⟨?_,?_⟩,?_,?_⟩
  ·show -(2 ^ 63)≤(ps.map (·.1))[j];omega
  ·show (ps.map (·.1))[j]<2 ^ 63;omega
  ·omega
  ·omega
 ·rw[show preSum (numAt ps.toArray) ps.toArray.size=(ps.map (·.1)).sum by
   rw[zt1,vg ps ps.length (zs9 _),←zs4 (f:=(·.1)) (as:=ps),zC9]]
  exact⟨.int _,H,I.kept (t':=tk) hk,⟨_,rfl⟩,q⟩
theorem cD {Q:PyData→Prop}{e:Expr}(hc:X.calm=true)(hg:Gl X "sum")(hm:X.mg "sum"=none)(h:EvD X α e fun x=>∃ns:List Int,x=.list (ns.map .int)∧(∀n∈ns,-(2 ^ 62)≤n∧n<2 ^ 62)∧Fits ns∧Q (.int ns.sum))(he:starEach [e] X.env=(false,eval e X.env)::starEach [] X.env:=by rfl):
  EvD X α (.Call (.Name "sum" p) [e] [] pos) Q:=by
 refine tP (ip hc) hg hm boot_sum (zd (h.imp fun x ⟨ns,e1,hb,hf,q⟩=>zp ?_) he) (he:=he)
 intro F σ H vs R m rv k
 subst e1
 obtain⟨v,rfl,av⟩:=rv.one
 obtain⟨a,xs,rfl,h1,h2⟩:=av.lst_inv
 cases h2.ints
 exact⟨a,ns,rfl,SqL.of (zl h1).2,hb,hf,k _ _ H q m.tp Kz.refl (.int _)⟩
end
def yp :List Int→List Bool→List Int
 |z::zs,b::bs=>if b=true then yp zs bs else z::yp zs bs
 |_,_=>[]
theorem vw :∀{zs:List Int} {bs:List Bool} {z:Int},z∈yp zs bs→z∈zs
 |[],_,z,h=>by simp[yp] at h
 |y::zs,[],z,h=>by simp[yp] at h
 |y::zs,b::bs,z,h=>by
  rw[yp] at h
  split at h
  ·exact zt4 _ (vw h)
  ·rcases zs8.mp h with e|h
   ·rw[e];exact zt7
   ·exact zt4 _ (vw h)
theorem uq :∀(zs:List Int) (bs:List Bool),(yp zs bs).length≤zs.length
 |[],_=>by simp[yp]
 |y::zs,[]=>by simp[yp]
 |y::zs,b::bs=>by
  rw[yp]
  have:=uq zs bs
  split
  ·rw[zu1];omega
  ·rw[zu1,zu1];omega
theorem sum_bound :∀{ns:List Int} {m:Int},0≤m→(∀n∈ns,0≤n∧n≤m)→0≤ns.sum∧ns.sum≤ns.length*m
 |[],m,_,_=>by simp
 |n::ns,m,h0,h=>by
  obtain⟨a,b⟩:=sum_bound h0 fun x hx=>h x (zt4 _ hx)
  have:=h n zt7
  rw[zA3,zu1,zG5,Int.add_mul]
  constructor
  ·omega
  ·simp;omega
theorem nZ {ns:List Int}(h:∀n∈ns,0≤n∧n≤1000000000000)(hl:ns.length≤1000):Fits ns:=fun k hk=>by
 obtain⟨a,b⟩:=sum_bound (ns:=ns.take k) (m:=1000000000000) (by decide) fun n hn=>h n (zG6 hn)
 have:((ns.take k).length:Int)*1000000000000≤1000*1000000000000:=by
  apply Int.mul_le_mul_of_nonneg_right _ (by decide)
  rw[zu9];omega
 omega
def zd3 (p:Nat):PyData→PyData
 |.tuple [a,b,c]=>if p=1 then b else c
 |_=>.none
def tF :PyData→Bool
 |.tuple [_,_,.bool b]=>b
 |_=>false
theorem tR :∀{ds:List PyData} {zs:List Int} {bs:List Bool},zs.length=ds.length→bs.length=ds.length→((xT ds (zs.map .int) (bs.map .bool)).filter fun d=>!tF d).map (zd3 1)=(yp zs bs).map .int
 |[],[],[],_,_=>rfl
 |d::ds,z::zs,b::bs,h1,h2=>by
  have ih:=tR (ds:=ds) (zs:=zs) (bs:=bs) (by simpa using h1) (by simpa using h2)
  rw[zw5,zw5,xT,yp,zB1]
  cases b with
  |true=>simpa[tF,cI] using ih
  |false=>simp[tF,cI,zd3];exact ih
def xV (d:PyData)(zs:List Int)(bs:List Bool):Prop:=(d=.none∧bs=List.replicate zs.length false)∨∃many free:Nat,d=.tuple [.int many,.int free]∧vG zs many free zs.length bs
theorem xV.len {d:PyData}{zs:List Int}{bs:List Bool}(h:xV d zs bs):bs.length=zs.length:=by
 rcases h with ⟨_,rfl⟩|⟨_,_,_,h⟩
 ·simp
 ·exact h.1
def zF :List Int→List Bool→Int
 |z::zs,b::bs=>(if b=true then z else 0)+zF zs bs
 |_,_=>0
theorem vR :∀{zs:List Int} {bs:List Bool},bs.length=zs.length→(yp zs bs).sum=zs.sum-zF zs bs
 |[],[],_=>by simp[yp,zF]
 |z::zs,b::bs,h=>by
  have ih:=vR (zs:=zs) (bs:=bs) (by simpa using h)
  rw[yp,zF,zA3]
  cases b with
  |true=>rw[if_pos rfl,if_pos rfl,ih];omega
  |false=>rw[if_neg (by decide),if_neg (by decide),zA3,ih];omega
theorem vq :∀{zs ys:List Int} {bs cs:List Bool},bs.length=zs.length→zF (zs++ys) (bs++cs)=zF zs bs+zF ys cs
 |[],ys,[],cs,_=>by simp[zF]
 |z::zs,ys,b::bs,cs,h=>by
  rw[zC8,zC8,zF,zF,vq (by simpa using h)]
  omega
theorem vS :∀{zs:List Int} {bs:List Bool},(∀b∈bs,b=false)→zF zs bs=0
 |[],_,_=>by simp[zF]
 |_::_,[],_=>by simp[zF]
 |z::zs,b::bs,h=>by
  rw[zF,h b zt7,vS fun x hx=>h x (zt4 _ hx)]
  rfl
theorem oW :∀{zs ys:List Int} {bs:List Bool},ys.length=zs.length→(∀i,i<zs.length→zs.getD i 0≤ys.getD i 0)→zF zs bs≤zF ys bs
 |[],[],_,_,_=>by simp[zF]
 |_::_,_::_,[],_,_=>by simp[zF]
 |z::zs,y::ys,b::bs,hl,h=>by
  have ih:=oW (zs:=zs) (ys:=ys) (bs:=bs) (by simpa using hl) fun i hi=>by
   have:=h (i+1) (by simpa using hi)
   simpa using this
  have h0:=h 0 (by simp)
  simp at h0
  rw[zF,zF]
  split<;>omega
theorem wy :∀{zs ys:List Int} {bs:List Bool} {d:Int},ys.length=zs.length→ys.sum=zs.sum+d→(∀i,i<zs.length→zs.getD i 0≤ys.getD i 0)→zF ys bs≤zF zs bs+d
 |[],[],_,d,_,hs,_=>by simp[zF] at hs ⊢;omega
 |z::zs,y::ys,[],d,hl,hs,h=>by
  have ih:=wy (zs:=zs) (ys:=ys) (bs:=[]) (d:=d-(y-z)) (by simpa using hl) (by rw[zA3,zA3] at hs;omega) fun i hi=>by
   have:=h (i+1) (by simpa using hi)
   simpa using this
  have h0:=h 0 (by simp)
  simp at h0
  have e1:zF ys []=0:=by cases ys<;>rfl
  have e2:zF zs []=0:=by cases zs<;>rfl
  rw[e1,e2] at ih
  show (0:Int)≤0+d
  omega
 |z::zs,y::ys,b::bs,d,hl,hs,h=>by
  have ih:=wy (zs:=zs) (ys:=ys) (bs:=bs) (d:=d-(y-z)) (by simpa using hl) (by rw[zA3,zA3] at hs;omega) fun i hi=>by
   have:=h (i+1) (by simpa using hi)
   simpa using this
  have h0:=h 0 (by simp)
  simp at h0
  rw[zF,zF]
  split<;>omega
theorem nJ {t:Int}:∀{zs:List Int} {bs cs:List Bool},bs.length=zs.length→cs.length=zs.length→(∀i,i<zs.length→(bs.getD i false=true→zs.getD i 0≤t)∧(bs.getD i false=false→t≤zs.getD i 0))→
  zF zs bs-t*(bs.count true:Nat)≤zF zs cs-t*(cs.count true:Nat)
 |[],[],[],_,_,_=>by simp[zF]
 |z::zs,b::bs,c::cs,h1,h2,h=>by
  have ih:=nJ (t:=t) (zs:=zs) (bs:=bs) (cs:=cs) (by simpa using h1) (by simpa using h2) fun i hi=>by
   have:=h (i+1) (by simpa using hi)
   simpa using this
  have h0:=h 0 (by simp)
  simp only[List.getD_cons_zero] at h0
  rw[zF,zF]
  have eb:t*(((b::bs).count true:Nat):Int)=t*(bs.count true:Nat)+(if b=true then t else 0):=by
   cases b with
   |true=>rw[List.count_cons_self,zG5,Int.mul_add,if_pos rfl];simp
   |false=>rw[List.count_cons_of_ne (by decide),if_neg (by decide)];simp
  have ecc:t*(((c::cs).count true:Nat):Int)=t*(cs.count true:Nat)+(if c=true then t else 0):=by
   cases c with
   |true=>rw[List.count_cons_self,zG5,Int.mul_add,if_pos rfl];simp
   |false=>rw[List.count_cons_of_ne (by decide),if_neg (by decide)];simp
  rw[eb,ecc]
  generalize t*((bs.count true:Nat):Int)=x at *
  generalize t*((cs.count true:Nat):Int)=y at *
  cases b with
  |true=>
   have:=h0.1 rfl
   cases c<;>simp<;>omega
  |false=>
   have:=h0.2 rfl
   cases c<;>simp<;>omega
theorem mJ {zs ms:List Int}{lo many free:Nat}{bs cs:List Bool}(s:sf (zu (lo:Int) many) zs ms)(hz:lo+many≤zs.length)(hb:bs.length=zs.length)(h:∀q,q<many→bs.getD (ms.getD q 0).toNat false=decide (q<free))(f0:0<free)(hf:free≤many)(h0:∀z∈zs,0≤z)
  (hc:cs.length=many) (hn:free≤cs.count true):zF ((zs.drop lo).take many) ((bs.drop lo).take many)≤zF ((zs.drop lo).take many) cs:=by
 have hl:ms.length=many:=by rw[s.1.length_eq,zh]
 have lz:((zs.drop lo).take many).length=many:=by rw[zu9,zx2];omega
 have lb:((bs.drop lo).take many).length=many:=by rw[zu9,zx2];omega
 have gb:∀a,a<many→((bs.drop lo).take many).getD a false=bs.getD (lo+a) false:=fun a ha=>by
  rw[zs7,zs7,zE1 ha,List.getElem?_drop]
 have gz:∀a,a<many→((zs.drop lo).take many).getD a 0=zs.getD (lo+a) 0:=fun a ha=>by
  rw[zs7,zs7,zE1 ha,List.getElem?_drop]
 have up:∀p q,p<q→q<many→zs.getD (ms.getD p 0).toNat 0≤zs.getD (ms.getD q 0).toNat 0:=fun p q hpq hq=>by
  have w:=zA6.mp s.2 p q (by omega) (by omega) hpq
  have w:=of_decide_eq_false (show decide _=false from w)
  simp only[keyOf] at w
  rw[zs7 (l:=ms),zs7 (l:=ms),zs6 (by omega),zs6 (by omega)]
  simp only[Option.getD_some]
  omega
 have line:=nJ (t:=zs.getD (ms.getD (free-1) 0).toNat 0) (zs:=(zs.drop lo).take many) (bs:=(bs.drop lo).take many) (cs:=cs) (by rw[lb,lz]) (by rw[hc,lz]) fun i hi=>by
  rw[lz] at hi
  rw[gb i hi,gz i hi]
  obtain⟨q,hq,e⟩:=zg1 s (m:=((lo+i:Nat):Int)) (by omega) (by omega)
  have fq:=h q hq
  rw[e,zA4] at fq
  have eq:zs.getD (lo+i) 0=zs.getD (ms.getD q 0).toNat 0:=by rw[e,zA4]
  rw[fq,eq]
  constructor
  ·intro hd
   have hd:=zz5 hd
   by_cases he:q=free-1
   ·rw[he];exact Int.le_refl _
   ·exact up q (free-1) (by omega) (by omega)
  ·intro hd
   have hd:=of_decide_eq_false hd
   exact up (free-1) q (by omega) hq
 have hcnt:=vZ s (by omega) h hf
 rw[hcnt] at line
 have t0:0≤zs.getD (ms.getD (free-1) 0).toNat 0:=by
  have:=vo s (q:=free-1) (by omega)
  have hlt:(ms.getD (free-1) 0).toNat<zs.length:=by omega
  rw[zs7 (l:=zs),zs6 hlt]
  exact h0 _ (zB2 _)
 generalize zs.getD (ms.getD (free-1) 0).toNat 0=t at *
 have:t*(free:Nat)≤t*(cs.count true:Nat):=Int.mul_le_mul_of_nonneg_left (by omega) t0
 omega
theorem rM {zs ys:List Int}{many free free':Nat}{bs cs:List Bool}(mk:vG zs many free zs.length bs)(mk':vG ys many free' ys.length cs)(hl:ys.length=zs.length)(f0:0<free)(hff:free≤free')(hf:free'≤many)(h0:∀z∈zs,0≤z):
  ∀k,k≤zs.length / many→zF (zs.take (k*many)) (bs.take (k*many))≤zF (zs.take (k*many)) (cs.take (k*many))
 |0,_=>by simp[zF]
 |k+1,hk=>by
  obtain⟨ms,s,f⟩:=mk.2.2 k hk
  obtain⟨ms',s',f'⟩:=mk'.2.2 k (by rw[hl];exact hk)
  have hkm:(k+1)*many≤zs.length:=zw6 (zA7 _ hk) (Nat.div_mul_le_self _ _)
  rw[Nat.add_mul,Nat.one_mul] at hkm ⊢
  have b1:=mk.1
  have c1:=mk'.1
  have ih:=rM mk mk' hl f0 hff hf h0 k (by omega)
  have one:=mJ (cs:=(cs.drop (k*many)).take many) s hkm b1 f f0 (by omega) h0 (by rw[zu9,zx2];omega) (by rw[vZ s' (by omega) f' hf];exact hff)
  rw[List.take_add,List.take_add,List.take_add,vq (by rw[zu9,zu9];omega),vq (by rw[zu9,zu9];omega)]
  omega
theorem gA {zs:List Int}{many free:Nat}{bs:List Bool}(ys:List Int)(hy:ys.length=zs.length)(mk:vG zs many free zs.length bs):zF ys bs=zF (ys.take (zs.length / many*many)) (bs.take (zs.length / many*many)):=by
 have hw:=Nat.div_mul_le_self zs.length many
 have b1:=mk.1
 have e1:zF ys bs=zF (ys.take (zs.length / many*many)++ys.drop (zs.length / many*many)) (bs.take (zs.length / many*many)++bs.drop (zs.length / many*many)):=by rw[zF8,zF8]
 rw[e1,vq (by rw[zu9,zu9];omega),vS (zs:=ys.drop _) (bs:=bs.drop _) fun b hb=>?_,Int.add_zero]
 obtain⟨j,hj,rfl⟩:=List.mem_iff_getElem.mp hb
 rw[List.getElem_drop]
 rw[zx2] at hj
 have:=mk.2.1 (zs.length / many*many+j) (by omega)
 rw[zs7,zs6 (by omega)] at this
 exact this
theorem eZ {zs ys:List Int}{many free free':Nat}{bs cs:List Bool}(mk:vG zs many free zs.length bs)(mk':vG ys many free' ys.length cs)(hl:ys.length=zs.length)(f0:0<free)(hff:free≤free')(hf:free'≤many)(h0:∀z∈zs,0≤z):zF zs bs≤zF zs cs:=by
 have e2:=gA zs hl.symm mk'
 rw[hl] at e2
 rw[gA zs rfl mk,e2]
 exact rM mk mk' hl f0 hff hf h0 _ (zs9 _)
def fA (d:PyData):Prop:=d=.none∨∃many free:Nat,d=.tuple [.int many,.int free]∧0<free∧free<many∧many<64
theorem oi {many free:Nat}{zs:List Int}{bs:List Bool}(h:xV (.tuple [.int many,.int free]) zs bs):vG zs many free zs.length bs:=by
 rcases h with ⟨h,_⟩|⟨m',f',h,mk⟩
 ·cases h
 ·injection h with h
  injection h with h1 h2
  injection h2 with h2 _
  injection h1 with h1
  injection h2 with h2
  have e1:m'=many:=by omega
  have e2:f'=free:=by omega
  rw[e1,e2] at mk
  exact mk
theorem nG {zs:List Int}{bs:List Bool}(h:xV .none zs bs):zF zs bs=0:=by
 rcases h with ⟨_,rfl⟩|⟨_,_,h,_⟩
 ·exact vS fun b hb=>(List.mem_replicate.mp hb).2
 ·cases h
theorem mS {d:PyData}{zs ys:List Int}{bs cs:List Bool}{e:Int}(hb:xV d zs bs)(hc:xV d ys cs)(hd:fA d)(hl:ys.length=zs.length)(hs:ys.sum=zs.sum+e)(hle:∀i,i<zs.length→zs.getD i 0≤ys.getD i 0)(h0:∀z∈zs,0≤z)(h1:∀z∈ys,0≤z):
  (yp zs bs).sum≤(yp ys cs).sum∧(yp ys cs).sum≤(yp zs bs).sum+e:=by
 rw[vR hb.len,vR hc.len,hs]
 rcases hd with rfl|⟨many,free,rfl,f0,fm,_⟩
 ·rw[nG hb,nG hc]
  have:=wy (bs:=[]) hl hs hle
  have e1:zF ys []=0:=by cases ys<;>rfl
  have e2:zF zs []=0:=by cases zs<;>rfl
  rw[e1,e2] at this
  omega
 ·have mk:=oi hb
  have mk':=oi hc
  have a1:=eZ mk mk' hl f0 (zs9 _) (by omega) h0
  have a2:=eZ mk' mk hl.symm f0 (zs9 _) (by omega) h1
  have a3:=oW (bs:=cs) hl hle
  have a4:=wy (bs:=bs) hl hs hle
  omega
section
variable {κ:Type}[DecidableEq κ]
def rC (kvs:List (κ×V))(k:κ):Option V:=(kvs.find? fun kv=>decide (kv.1=k)).map (·.2)
theorem sF {p:κ×V}{r:List (κ×V)}{k:κ}(e:p.1=k):rC (p::r) k=some p.2:=by simp[rC,zx0,e]
theorem rf {p:κ×V}{r:List (κ×V)}{k:κ}(e:¬p.1=k):rC (p::r) k=rC r k:=by simp[rC,zx0,e]
theorem KV.val {kvs:List (κ×V)}{vs:List (κ×Value)}(r:KV kvs vs)(k:κ):uo (rC kvs k) (valueAt vs k):=by
 unfold KV at r
 induction r with
 |nil=>exact True.intro
 |@cons p q ps qs h t ih=>
  obtain⟨h1,h2⟩:=h
  by_cases e:p.1=k
  ·have e':q.1=k:=h1.symm.trans e
   have b:valueAt (q::qs) k=some q.2:=by simp[valueAt,zx0,e']
   rw[sF e,b];exact h2
  ·have e':¬q.1=k:=fun z=>e (h1.trans z)
   have b:valueAt (q::qs) k=valueAt qs k:=by simp[valueAt,zx0,e']
   rw[rf e,b];exact ih
end
theorem za4 {P:Program}{w:World}{k:Key}{u:Value}(r:RelV (kV k) u):(yJ P w).is k u=true:=by
 cases k with
 |inl i=>obtain⟨t,e⟩:=(show ∃t,u=Value.int i t from r);subst e;exact nj P w i t
 |inr x=>obtain⟨t,e⟩:=(show ∃t,u=Value.str x t from r);subst e;exact pZ P w x t
theorem rT {P:Program}{w:World}:∀{ks:List Key} {us:List Value},Vals (ks.map kV) us→ItemsAre (yJ P w) ks us
 |[],_,r=>by rw[List.map_nil] at r;cases r;exact .nil
 |k::ks,_,r=>by
  rw[zw5] at r
  cases r with
  |cons h t=>exact .cons (za4 h) (rT t)
abbrev KT (H:Hp):List (List Key×V)→List (List Key×Addr×Value)→Prop:=Paired fun p q=>p.1=q.1∧H q.2.1=some (.tup (p.1.map kV))∧RelV p.2 q.2.2
theorem KT.val {H:Hp}{kvs:List (List Key×V)}{xs:List (List Key×Addr×Value)}(r:KT H kvs xs)(k:List Key):uo (rC kvs k) ((atKey xs k).map (·.2)):=by
 induction r with
 |nil=>exact True.intro
 |@cons p q ps qs h t ih=>
  obtain⟨h1,_,h2⟩:=h
  by_cases e:p.1=k
  ·have e':q.1=k:=h1.symm.trans e
   have b:atKey (q::qs) k=some q.2:=by simp[atKey,zx0,e']
   rw[sF e,b];exact h2
  ·have e':¬q.1=k:=fun z=>e (h1.trans z)
   have b:atKey (q::qs) k=atKey qs k:=by simp[atKey,zx0,e']
   rw[rf e,b];exact ih
section
variable {P:Program}{w:World}{H:Hp}{h:Heap}{a:Addr}
theorem aY {u:HO}(ok:HOk P w H h)(e:Rd H a u):zY P w H h a u:=e.ok ok
theorem aN {kvs:List (Key×V)}(ok:HOk P w H h)(e:Rd H a (.dK kvs)):kvs.length≤sizeLine∧(a == sysModules)=false∧∃vs,KV kvs vs∧h.DictOf (yJ P w) a vs:=
 show zY P w H h a (.dK kvs) from aY ok e
theorem gj {ks:List Key}(ok:HOk P w H h)(e:H a=some (.tup (ks.map kV))):(tupleKind (yJ P w)).is h ks a:=by
 obtain⟨_,its,r,o,h1,h2,n,h3⟩:=(show zY P w H h a (.tup (ks.map kV)) from ok a _ e)
 exact⟨o,its.toArray,n,h1,h2,h3,by simpa using rT r⟩
theorem za3 {kvs:List (List Key×V)}(ok:HOk P w H h)(e:Rd H a (.dT kvs)):kvs.length≤sizeLine∧(a == sysModules)=false∧
  ∃xs,KT H kvs xs∧h.DictOfH (tupleKind (yJ P w)) a xs:=by
 obtain⟨z,y,xs,r,o,es,ep,h1,h2,h3,h4,h5⟩:=(show zY P w H h a (.dT kvs) from aY ok e)
 refine⟨z,y,xs,r,o,es,ep,h1,h2,h3,h4,fun x hx=>?_,h5⟩
 have all:∀{l:List (List Key×V)} {m:List (List Key×Addr×Value)},KT H l m→∀x∈m,(tupleKind (yJ P w)).is h x.1 x.2.1:=by
  intro l m q
  induction q with
  |nil=>intro x hx;exact nomatch hx
  |@cons p q ps qs hq t ih=>
   intro x hx
   rcases zs8.mp hx with e|hx
   ·subst e
    exact gj ok (by rw[←hq.1];exact hq.2.1)
   ·exact ih x hx
 exact all r x hx
end
def zc5 (H:Hp)(a:Addr)(y:V)(r:Option V):Prop:=
 (∃kvs k,Rd H a (.dK kvs)∧y=kV k∧r=rC kvs k)∨∃kvs k b,Rd H a (.dT kvs)∧y=.ref b∧H b=some (.tup (k.map kV))∧r=rC kvs k
section
variable {X:Cx}{pins:List (Addr×Obj)}{σ:St}{H:Hp}{s:Shared}{a:Addr}{y v:V}{u r:Value}{o:Option V}{A:Around}{E:Value→Shared→Prop}
theorem jV {Q:Value→Shared→Prop}(hu:A.units+1<cLine)(I:Inv X pins σ H s)(g:zc5 H a y (some v))(ry:RelV y u)(h:∀w' s',Inv X pins σ H s'→RelV v w'→Q w' s'):
  wpAny (model X.prog X.w) A (getItem (.ref a) u) Q E s:=by
 rcases g with ⟨kvs,k,e,ey,l⟩|⟨kvs,k,b,e,ey,eb,l⟩
 ·subst ey
  obtain⟨z,hd,vs,rel,dd⟩:=aN I.hok e
  obtain⟨w',hw,rw'⟩:=uo.some_of (v:=v) (o:=valueAt vs k) (by rw[l];exact rel.val k)
  exact wpAny_getItem_of (za4 ry) dd.mapOf hw (h w' _ (I.tok _) rw')
 ·subst ey
  cases (show u=Value.ref b from ry)
  obtain⟨z,hd,xs,rel,dd⟩:=za3 I.hok e
  obtain⟨w',hw,rw'⟩:=uo.some_of (v:=v) (o:=(atKey xs k).map (·.2)) (by rw[l];exact rel.val k)
  obtain⟨p,hp,hp2⟩:=zv9.mp hw
  refine wpAny_getItem_heap (tupleKind_room_in1 hu) (gj I.hok eb) dd hp ?_
  rw[hp2]
  exact h w' _ (I.tok _) rw'
end
section
variable {X:Cx}{pins:List (Addr×Obj)}{σ:St}{H:Hp}{s:Shared}{a:Addr}{kvs:List (Key×V)}{k:Key}{u:Value}{A:Around}{E:Value→Shared→Prop}
end
theorem oM {X:Cx}{pins:List (Addr×Obj)}{σ:St}{H:Hp}{s:Shared}{a:Addr}{y:V}{o:Option V}(I:Inv X pins σ H s)(g:zc5 H a y o):s.TypeIs (.ref a) "dict":=by
 rcases g with ⟨kvs,k,e,_,_⟩|⟨kvs,k,b,e,_,_,_⟩
 ·obtain⟨_,_,vs,_,dd⟩:=aN I.hok e
  exact dd.typeIs
 ·obtain⟨_,_,xs,_,dd⟩:=za3 I.hok e
  exact dd.typeIs
section
variable {X:Cx}{o i e value:Expr}{pos pos' tpos:Pos}{td ty tv:TE}
end
section
variable {X:Cx}{pos:Pos}
end
section
variable {X:Cx}{pins:List (Addr×Obj)}{σ:St}{H:Hp}{s:Shared}{a:Addr}{y d:V}{u r:Value}{o:Option V}{A:Around}{E:Value→Shared→Prop}
end
section
variable {X:Cx}{o e f:Expr}{apos cpos:Pos}{td ty tx:TE}
end
section
variable {X:Cx}{pins:List (Addr×Obj)}{σ:St}{H:Hp}{s:Shared}{a:Addr}{kvs:List (Key×V)}{A:Around}{E:Value→Shared→Prop}
end
section
variable {X:Cx}{pins:List (Addr×Obj)}{σ:St}{H:Hp}{s:Shared}{a:Addr}{y:V}{u:Value}{A:Around}{E:Value→Shared→Prop}
end
def kEq :PyData→Key→Bool
 |.int i,.inl j=>decide (i=j)
 |.str x,.inr y=>decide (x=y)
 |_,_=>false
theorem eY (k j:Key):kEq (iD k) j=decide (k=j):=by
 cases k<;>cases j<;>simp[kEq,iD]
def cq :List (PyData×PyData)→Key→Option PyData
 |[],_=>none
 |(p,d)::r,k=>if kEq p k=true then some d else cq r k
theorem AVk.get {H:Hp}:∀{kvs:List (Key×V)} {ds:List (PyData×PyData)} {k:Key} {d:PyData},AVk H kvs ds→cq ds k=some d→∃v,rC kvs k=some v∧AV H v d
 |_,_,k,d,.nil,e=>by cases e
 |_,_,k,d,.cons (k:=j) h r,e=>by
  unfold cq at e
  rw[eY] at e
  by_cases z:j=k
  ·rw[zy0 z,if_pos rfl] at e
   cases e
   exact⟨_,sF z,h⟩
  ·rw[zv5 z,if_neg (by decide)] at e
   rw[rf z]
   exact AVk.get r e
theorem bu {H:Hp}{v:V}{k:Key}(h:AV H v (iD k)):v=kV k:=by
 cases k with
 |inl i=>exact h.int_inv
 |inr x=>exact h.str_inv
theorem AV.dk_inv {H:Hp}{v:V}{ds:List (PyData×PyData)}(h:AV H v (cu ds)):∃a o kvs,v=.ref a∧H a=some (.frz o (.dK kvs))∧AVk H kvs ds:=by
 generalize e:cu ds=d at h
 cases h with
 |dk h1 h2=>cases e;exact⟨_,_,_,rfl,h1,h2⟩
 |_=>cases e
section
variable {X:Cx}{pins:List (Addr×Obj)}{σ:St}{H:Hp}{s:Shared}{l:Addr}{kvs:List (Key×V)}
end
section
variable {X:Cx}{e:Expr}{sts:List Stmt}
end
section
variable {X:Cx}{α:Ev}{e a b:Expr}{pos p:Pos}{Q:PyData→Prop}
end
section
variable {X:Cx}{α:Ev}{e a b:Expr}{pos p:Pos}{Q:PyData→Prop}
end
section
variable {X:Cx}{tg:Expr}
end
section
variable {X:Cx}{α:Ev}{e a b tg:Expr}{pos p:Pos}{Q:List PyData→Prop}
end
mutual
def ltD :PyData→PyData→Option Bool
 |.int a,.int b=>some (decide (a<b))
 |.str a,.str b=>some (decide (a.cps.toList<b.cps.toList))
 |.tuple xs,.tuple ys=>zj5 xs ys
 |_,_=>none
def zj5 :List PyData→List PyData→Option Bool
 |[],[]=>some false
 |[],_::_=>some true
 |_::_,[]=>some false
 |x::xs,y::ys=>if PyData.eqv x y=true then zj5 xs ys else ltD x y
end
section
open PySem.SeqAt
open PySem.AutoSeq1 (wpAny_loadPart')
open PySem.MeetsSeq PySem.MeetsSeq2 PySem.MeetsSeq3
end
section
variable {prog:Program}{w:World}{A:Around}{R:Result→Shared→Prop}{it:Addr}{fp wr:List Addr}{m:Nat}{P:Nat→Value→Prop}{St:Nat→Heap→Prop}
end
section
variable {prog:Program}{w:World}{A:Around}{E:Value→Shared→Prop}{s:Shared}
end
section
variable {X:Cx}{α:Ev}{e:Expr}{pos p:Pos}{Q:PyData→Prop}
end
section
variable {prog:Program}{w:World}{A:Around}{E:Value→Shared→Prop}{s:Shared}{it l:Addr}{items:Array Value}
end
section
variable {X:Cx}{α:Ev}{a e c:Expr}{p p0 pos pos2:Pos}{Q:List PyData→Prop}
end
def ni (Q:PyData→Prop):List PyData→Prop
 |[]=>True
 |d::r=>Q d∧ni Q r
theorem ni.mem {Q:PyData→Prop}:∀{ds:List PyData},ni Q ds→∀d∈ds,Q d
 |[],_,d,h=>by cases h
 |x::r,h,d,hd=>by
  rcases zs8.mp hd with rfl|hd
  ·exact h.1
  ·exact ni.mem h.2 d hd
theorem cG {x:PyData}{ds:List PyData}{v:Int}{Q:PyData→Prop}(hx:wA x=some ds)(h0:0≤v)(h1:v<ds.length)(h:ni Q ds):∃ds i d,wA x=some ds∧PyData.int v=.int i∧atI ds i=some d∧Q d:=by
 obtain⟨d,hd,e⟩:=oP h0 h1
 exact⟨ds,v,d,hx,rfl,e,h.mem d hd⟩
theorem gU {x:PyData}{ds:List PyData}{v:Int}{Q:PyData→Prop}(P:PyData→Prop)(hx:wA x=some ds)(h0:0≤v)(h1:v<ds.length)(h:ni P ds)(k:∀d,P d→Q d):∃ds i d,wA x=some ds∧PyData.int v=.int i∧atI ds i=some d∧Q d:=by
 obtain⟨d,hd,e⟩:=oP h0 h1
 exact⟨ds,v,d,hx,rfl,e,k d (h.mem d hd)⟩
theorem aV {k:Bool}{p q:Prop}(h1:k=true→p)(h2:k=false→q):if k=true then p else q:=by
 cases k with
 |true=>exact h1 rfl
 |false=>exact h2 rfl
section
variable {X:Cx}{α:Ev}{e a b:Expr}{pos p:Pos}{E:wa}{rest:List Stmt}
end
def zl2 :R2:=fun x y H R=>rEq x y H R∨zj1 x y H R
def zo9 :R2:=fun x y H R=>rNe x y H R∨zi9 x y H R
theorem eU {X:Cx}(hu:X.A.units+64<cLine):OpR X (compareOp .Eq) zl2:=fun pins s σ H x y v u Q I rx ry h=>h.elim (fun h=>wG _ _ _ _ _ _ _ _ _ I rx ry h) fun h=>wW hu _ _ _ _ _ _ _ _ _ I rx ry h
theorem zf9 {X:Cx}(hu:X.A.units+64<cLine):OpR X (compareOp .NotEq) zo9:=fun pins s σ H x y v u Q I rx ry h=>h.elim (fun h=>zl7 _ _ _ _ _ _ _ _ _ I rx ry h) fun h=>zg8 hu _ _ _ _ _ _ _ _ _ I rx ry h
theorem bU {i j:Str}:Cmp rNe (.str i) (.str j) (!decide (i=j)):=fun p H vx vy R rx ry h=>by
 cases rx.str_inv;cases ry.str_inv
 refine⟨rfl,?_⟩
 rw[show decide (V.str i=V.str j)=decide (i=j) by simp]
 exact h
def lS (x y:PyData)(Q:Bool→Prop):Prop:=∃k,Cmp zl2 x y k∧Cmp zo9 x y (!k)∧Q k
theorem au {i j:Int}{Q:Bool→Prop}(h:Q (decide (i=j))):lS (.int i) (.int j) Q:=⟨_,fun p H vx vy R rx ry z=>.inl (ke p H vx vy R rx ry z),fun p H vx vy R rx ry z=>.inl (aj p H vx vy R rx ry z),h⟩
theorem cU {i j:Str}{Q:Bool→Prop}(h:Q (decide (i=j))):lS (.str i) (.str j) Q:=⟨_,fun p H vx vy R rx ry z=>.inl (km p H vx vy R rx ry z),fun p H vx vy R rx ry z=>.inl (bU p H vx vy R rx ry z),h⟩
theorem eqk {x y:PyData}{Q:Bool→Prop}(s1:SeqAt.shaped x=true)(s2:SeqAt.shaped y=true)(d1:x.hasDict=false)(d2:y.hasDict=false)(h:Q (PyData.eqv x y)):lS x y Q:=
 ⟨_,fun p H vx vy R rx ry z=>.inr ⟨x,y,(rx.dv d1).same xS,(ry.dv d2).same xS,s1,s2,z⟩,fun p H vx vy R rx ry z=>.inr ⟨x,y,(rx.dv d1).same xS,(ry.dv d2).same xS,s1,s2,z⟩,h⟩
section
variable {X:Cx}{α:Ev}{a b:Expr}{pos:Pos}{Q:PyData→Prop}{T:Bool→Prop}
theorem zb2 (hu:X.A.units+64<cLine)(h:EvD X α a fun x=>EvD X α b fun y=>lS x y fun k=>Q (.bool k)):EvD X α (.Compare a [.Eq] [b] pos) Q:=za9 (eU hu) (zD _) (h.imp fun x h=>h.imp fun y ⟨k,e,_,q⟩=>⟨k,e,q⟩)
theorem zb3 (hu:X.A.units+64<cLine)(h:EvD X α a fun x=>EvD X α b fun y=>lS x y T):EvT X α (.Compare a [.Eq] [b] pos) T:=wO (eU hu) (zD _) (h.imp fun x h=>h.imp fun y ⟨k,e,_,q⟩=>⟨k,e,q⟩)
theorem lq (hu:X.A.units+64<cLine)(h:EvD X α a fun x=>EvD X α b fun y=>lS x y fun k=>T (!k)):EvT X α (.Compare a [.NotEq] [b] pos) T:=wO (zf9 hu) (zD _) (h.imp fun x h=>h.imp fun y ⟨k,_,e,q⟩=>⟨!k,e,q⟩)
theorem zk0 {k:Bool}{p q:Prop}(e:k=true)(h:p):if k=true then p else q:=by rw[if_pos e];exact h
theorem zo1 {k:Bool}{p q:Prop}(e:k=false)(h:q):if k=true then p else q:=by rw[if_neg (by rw[e];decide)];exact h
variable {E:wa}{s t:List Stmt}
theorem ag {k:Bool}(e:k=true)(h:SvS X α s E):SvS X α (if k=true then s else t) E:=by rw[if_pos e];exact h
theorem uj {k:Bool}(e:k=false)(h:SvS X α t E):SvS X α (if k=true then s else t) E:=by rw[if_neg (by rw[e];decide)];exact h
end
section
variable {X:Cx}{α:Ev}{a b:Expr}{pos:Pos}{Q:PyData→Prop}{T:Bool→Prop}
def zn9 :R2:=fun x y H Q=>∃a v,x=.ref a∧zc5 H a y (some v)∧Q v H
theorem cE (hu:X.A.units+1<cLine):IxR X zn9:=fun value slice pins s σ H x y v u Q I rx ry h hs=>by
 obtain⟨a,z,rfl,g,q⟩:=h
 cases rx
 exact tail_any (oM I g) zD5.lookup (jV hu I g ry fun w' s' I' r'=>⟨z,H,I',r',q⟩) hs
def mr (x y:PyData)(Q:PyData→Prop):Prop:=(∃ds i d,wA x=some ds∧y=.int i∧atI ds i=some d∧Q d)∨∃ds k d,x=cu ds∧y=iD k∧cq ds k=some d∧Q d
theorem ixk {x y:PyData}{ds:List PyData}{i:Int}{d:PyData}(h1:wA x=some ds)(h2:y=.int i)(h3:atI ds i=some d)(h:Q d):mr x y Q:=.inl ⟨ds,i,d,h1,h2,h3,h⟩
theorem gq {d:PyData}{r:List PyData}(h:Q d):mr (.tuple (d::r)) (.int 0) Q:=ixk rfl rfl (yY (j:=0) rfl) h
theorem pY {d e:PyData}{r:List PyData}(h:Q e):mr (.tuple (d::e::r)) (.int 1) Q:=ixk rfl rfl (yY (j:=1) rfl) h
theorem pS {x:PyData}{ds:List PyData}{v:Int}(hx:wA x=some ds)(h0:0≤v)(h1:v<ds.length)(h:ni Q ds):mr x (.int v) Q:=.inl (cG hx h0 h1 h)
theorem zj3 {x:PyData}{ds:List PyData}{v:Int}(P:PyData→Prop)(hx:wA x=some ds)(h0:0≤v)(h1:v<ds.length)(h:ni P ds)(k:∀d,P d→Q d):mr x (.int v) Q:=.inl (gU P hx h0 h1 h k)
theorem vE (hu:X.A.units+1<cLine)(hs:tw b)(h:EvD X α a fun x=>EvD X α b fun y=>mr x y Q):EvD X α (.Subscript a b pos) Q:=by
 refine uw (f:=tOp (fun x y H Q=>rIx X.K x y H Q∨zn9 x y H Q)) (zM (zc2.or (cE hu)) zq zq hs) (fun _ _ _=>Iff.rfl) (h.imp fun x h=>h.imp fun y h=>?_)
 intro F σ H vx vy R m rx ry k
 rcases h with ⟨ds,i,d,e1,rfl,hat,hq⟩|⟨ds,kk,d,rfl,rfl,hv,hq⟩
 ·cases ry.int_inv
  cases x with
  |list ds'=>
   cases e1
   obtain⟨a,xs,rfl,h1,h2⟩:=rx.lst_inv
   obtain⟨v,hv,av⟩:=h2.atI hat
   exact .inl (.inl ⟨a,xs,i,v,rfl,rfl,SqL.of (zl h1).2,hv,k d v H hq m.tp Kz.refl av⟩)
  |tuple ds'=>
   cases e1
   obtain⟨a,xs,rfl,h1,h2⟩:=rx.tup_inv
   obtain⟨v,hv,av⟩:=h2.atI hat
   exact .inl (.inr (.inl ⟨a,xs,i,v,rfl,rfl,SqT.of (zl h1).2,hv,k d v H hq m.tp Kz.refl av⟩))
  |_=>cases e1
 ·obtain⟨a,o,kvs,rfl,g1,g2⟩:=rx.dk_inv
  obtain⟨v,w1,w2⟩:=g2.get hv
  cases bu ry
  exact .inr ⟨a,v,rfl,.inl ⟨kvs,kk,.inr ⟨o,(zl g1).2⟩,rfl,w1.symm⟩,k d v H hq m.tp Kz.refl w2⟩
end
theorem zP.one {k:Nat}{A:Around}(h:zP k A):A.units+1<cLine:=by have:=h.units;omega
section
variable {X:Cx}{α:Ev}{E:wa}{rest body:List Stmt}{e c tg iter:Expr}{pos p:Pos}
theorem kr (pat:Pat)(h:EvI X α tg iter fun ds=>uR X pat body rest E ds α)(hN:X.N.Nodup:=by assumption)(hp:PassesOwn (model X.prog X.w) X.A X.env X.xe:=by exact zy3)(hc:X.calm=true:=by rfl)
  (hg:PG X tg (oZ X.K pat):=by first|exact zL (by assumption) rfl (Or.inl rfl)|exact zL (by assumption) rfl (Or.inr rfl)|exact wY rfl rfl (by repeat (first|exact uf|refine xf (by first|exact zL (by assumption) rfl (Or.inl rfl)|exact zL (by assumption) rfl (Or.inr rfl)) ?_)))
  (hs:∀x,foldedSetIterable iter X.env x=pure x:=by intro _;rfl):SvS X α (.For tg iter body [] pos::rest) E:=wV hp hc hg h hs
def freeOk (xs:Scope)(y:Str×NameKind):Bool:=match y.2 with
 |.free=>match xs.names.lookup y.1 with
  |some .cell=>true
  |some .free=>true
  |_=>false
 |_=>true
theorem eE {xs scope:Scope}(h:scope.names.all (freeOk xs)=true):∀y∈scope.names,y.2=.free→xs.names.lookup y.1=some .cell∨xs.names.lookup y.1=some .free:=fun y hy e=>by
 have:=zC7.mp h y hy
 unfold freeOk at this
 rw[e] at this
 cases z:xs.names.lookup y.1 with
 |none=>rw[z] at this;cases this
 |some k=>
  rw[z] at this
  cases k<;>first|exact .inl rfl|exact .inr rfl|cases this
theorem ck (N:List Str)(imp:List (Option Nat))(pat:Pat){scope:Scope}{elt:Expr}{ifs:List Expr}{Q:List PyData→Prop}(h:EvI X α tg iter fun ds=>ds.length≤1000∧xu (fun C s2 H2 fp=>X.comp N scope C s2 H2 fp) pat ifs elt (yT imp α) ds [] Q)
  (nd:N.Nodup:=by decide +kernel) (h1:scope.kind=.function:=by rfl) (h2:∀y∈scope.names,y.2≠.cell:=by decide +kernel) (h3:∀y∈scope.names,y.2=.local→scope.names.lookup y.1=some .local:=by decide +kernel) (h4:scope.names.all (freeOk X.env.scope)=true:=by rfl) (h5:imp.length=N.length:=by rfl)
  (h6:((imp.zip N).all fun p=>match p.1 with|none=>true|some j=>X.N[j]? == some p.2&&scope.names.lookup p.2 == some .free)=true:=by rfl) (hfree:pat.free (yT imp α)=true:=by rfl)
  (hg:∀C s2 H2 fp,N.Nodup→PG (X.comp N scope C s2 H2 fp) tg (oZ X.K pat):=by intro _ _ _ _ hnd;first|exact zL hnd rfl (Or.inl rfl)|exact wY rfl rfl (by repeat (first|exact uf|refine xf (zL hnd rfl (Or.inl rfl)) ?_)))
  (hc:X.calm=true:=by rfl) (hs:∀x,foldedSetIterable iter X.env x=pure x:=by intro _;rfl):EvL X α (.ListComp elt [⟨tg,iter,ifs,0⟩] scope pos) Q:=dF hc ⟨h1,nd,h2,h3,eE h4,h5,h6⟩ hfree (fun C s2 H2 fp=>hg C s2 H2 fp nd) h hs
end
section
variable {Y:Addr→Shared→Hp→List Addr→Cx}{pat:Pat}{ifs:List Expr}{elt:Expr}{α0:Ev}{ι:Type}{g f:ι→PyData}{l:List ι}{acc:List PyData}{Q:List PyData→Prop}
theorem oG (p:ι→Bool)(f:ι→PyData)(hs:∀x∈l,∃α1,pat.bind (g x) α0=some α1∧(∀C s2 H2 fp (Q:Bool→Prop),Q (p x)→ir (Y C s2 H2 fp) α1 ifs Q)∧(p x=true→∀C s2 H2 fp (Q:PyData→Prop),Q (f x)→EvD (Y C s2 H2 fp) α1 elt Q))
  (hd:Q (acc++(l.filter p).map f)):xu Y pat ifs elt α0 (l.map g) acc Q:=by
 induction l generalizing acc with
 |nil=>
  show Q acc
  simpa using hd
 |cons d ds ih=>
  obtain⟨α1,e,h1,h2⟩:=hs d zt7
  refine⟨α1,e,fun C s2 H2 fp=>h1 C s2 H2 fp _ ?_⟩
  have ih':=fun acc=>ih (acc:=acc) fun d hd=>hs d (zt4 _ hd)
  cases hp:p d with
  |true=>
   rw[if_pos rfl]
   refine fun C s2 H2 fp=>h2 hp C s2 H2 fp _ (ih' _ ?_)
   simpa[zB1,hp] using hd
  |false=>
   rw[if_neg (by decide)]
   refine ih' _ ?_
   simpa[zB1,hp] using hd
theorem jv (f:ι→PyData)(hs:∀x∈l,∃α1,pat.bind (g x) α0=some α1∧∀C s2 H2 fp (Q:PyData→Prop),Q (f x)→EvD (Y C s2 H2 fp) α1 elt Q)(hd:Q (acc++l.map f)):xu Y pat [] elt α0 (l.map g) acc Q:=
 oG (fun _=>true) f (fun x hx=>by
  obtain⟨α1,h1,h2⟩:=hs x hx
  exact⟨α1,h1,fun _ _ _ _ _ k=>mi k,fun _=>h2⟩) (by rw[zD1.mpr fun _ _=>rfl];exact hd)
end
section
variable {co:Co}{N:Nat}
end
section
variable {co:Co}{N:Nat}
end
section
variable {X:Cx}{α:Ev}{a b e:Expr}{pos p:Pos}{Q:PyData→Prop}
end
section
variable {X:Cx}{α:Ev}{a b c e:Expr}{pos p:Pos}{Q:PyData→Prop}{T:Bool→Prop}
theorem gf :OpR X (compareOp .IsNot) (fun x y H Q=>∃i j,x=.bl i∧y=.bl j∧Q (.bl (i != j)) H):=by
 intro pins s σ H x y v u Q I rx ry h
 obtain⟨i,j,rfl,rfl,q⟩:=h
 cases rx
 cases ry
 exact isnot_bool (zG I q rfl)
theorem gJ (h:EvD X α a fun x=>EvD X α b fun y=>∃i j,x=.bool i∧y=.bool j∧T (i != j)):EvT X α (.Compare a [.IsNot] [b] pos) T:=
 wO gf (zD _) (h.imp fun x h=>h.imp fun y ⟨i,j,e1,e2,q⟩=>⟨i != j,fun p H vx vy R rx ry z=>by
  subst e1 e2
  cases rx.bl_inv;cases ry.bl_inv
  exact⟨i,j,rfl,rfl,z⟩,q⟩)
end
section
variable {X:Cx}{α:Ev}{a b c e:Expr}{pos p p2 pos2:Pos}{Q:PyData→Prop}{T:Bool→Prop}
end
section
variable {X:Cx}{α:Ev}{a b c d e:Expr}{pos p:Pos}{ta tb tc td:TE}{T:Bool→Prop}
end
section
variable {X:Cx}{α:Ev}{a b c d e:Expr}{pos p:Pos}{T:Bool→Prop}
end
abbrev jd (X:Cx)(P:Program)(w:World)(K:PySem.W.Frag)(mg:Str→Option Value)(base:Heap):Prop:=X.prog=P∧X.w=w∧X.K=K∧X.mg=mg∧X.base=base
section
variable {X:Cx}{α:Ev}{e o:Expr}{es:List Expr}{pos p apos:Pos}{Q:PyData→Prop}{k:Nat}{φ:List A→(A→Prop)→Prop}{x m:Str}{C:Addr}{pl:Sem Bool}{P:Program}{w:World}{K:PySem.W.Frag}{mg:Str→Option Value}{base:Heap}
theorem bL (D:Cal P w K mg base x k φ)(hX:jd X P w K mg base)(hr:zP k X.A)(hg:Gl X x)(h:EvA X α (e::es) fun as=>φ as fun a=>Q a.d)
  (hdb:(x == ("__debug__":Str))=false:=by decide) (he:starEach (e::es) X.env=(false,eval e X.env)::starEach es X.env:=by rfl) (hpl:(backTo pos (starEach es X.env)).any (·.1)=false:=by rfl):EvD X α (.Call (.Name x p) (e::es) [] pos) Q:=by
 obtain⟨rfl,rfl,rfl,rfl,rfl⟩:=hX
 exact yk D hr hg h hdb he hpl
theorem gn (D:jq P w K mg base x k [] φ)(hX:jd X P w K mg base)(hr:zP (k+1) X.A)(hg:Gl X x)(h:EvA X α (e::es) fun as=>φ as fun a=>Q a.d)
  (hdb:(x == ("__debug__":Str))=false:=by decide) (he:starEach (e::es) X.env=(false,eval e X.env)::starEach es X.env:=by rfl) (hpl:(backTo pos (starEach es X.env)).any (·.1)=false:=by rfl):EvN X α (.Call (.Name x p) (e::es) [] pos) Q:=by
 obtain⟨rfl,rfl,rfl,rfl,rfl⟩:=hX
 exact ah D hr hg h hdb he hpl
theorem gg (D:wc P w K mg base C m k φ)(hX:jd X P w K mg base)(hr:zP k X.A)(h:EvD X α o fun x=>∃fs,x=wN C fs∧uV fs m=none∧EvA X α (e::es) fun as=>φ (.dat (wN C fs)::as) fun a=>Q a.d)
  (hst:starEach (e::es) X.env=(false,eval e X.env)::starEach es X.env:=by rfl) (hpl:(backTo pos (starEach es X.env)).any (·.1)=false:=by rfl)
  (ht:eval (.Call (.Attribute o m apos) (e::es) [] pos) X.env=(do
   let ov ←eval o X.env
   standAt apos.atName
   let (f,first) ←holding [ov] (getMethod ov m pl)
   callWith pos f first (backTo pos (starEach (e::es) X.env)) (backToKw pos (keywordEach [] X.env))):=by rfl):EvD X α (.Call (.Attribute o m apos) (e::es) [] pos) Q:=by
 obtain⟨rfl,rfl,rfl,rfl,rfl⟩:=hX
 exact yX D hr h hst hpl ht
theorem iN (D:wc P w K mg base C m k φ)(hX:jd X P w K mg base)(hr:zP k X.A)(h:EvD X α o fun x=>∃fs,x=wN C fs∧uV fs m=none∧φ [.dat (wN C fs)] fun a=>Q a.d)
  (ht:eval (.Call (.Attribute o m apos) [] [] pos) X.env=(do
   let ov ←eval o X.env
   standAt apos.atName
   let (f,first) ←holding [ov] (getMethod ov m pl)
   callWith pos f first (backTo pos (starEach [] X.env)) (backToKw pos (keywordEach [] X.env))):=by rfl):EvD X α (.Call (.Attribute o m apos) [] [] pos) Q:=by
 obtain⟨rfl,rfl,rfl,rfl,rfl⟩:=hX
 exact sZ D hr h ht
end
section
variable {X:Cx}{α:Ev}{pos:Pos}{Q:PyData→Prop}
end
end L2
namespace SortA
open PySem PySem.W PyProof.Rows
theorem tO {a b:Str}(h:a.cps.toList=b.cps.toList):a=b:=by
 cases a;cases b
 simp only[Str.mk.injEq]
 exact Array.toList_inj.mp h
def lxT (p q:Str×Int):Bool:=decide (p.1.cps.toList<q.1.cps.toList∨(p.1=q.1∧p.2<q.2))
def yV (ps:List (Str×Int))(i:Nat):Str×Int:=ps.getD i (Str.ofString "",0)
theorem bV (ps:List (Str×Int)):Ord fun i j=>lxT (yV ps i) (yV ps j) where
 irr:=fun a=>by simp[lxT,zC4]
 tr:=fun a b c=>by
  unfold lxT
  generalize yV ps a=x;generalize yV ps b=y;generalize yV ps c=z
  simp only[zy1,not_or,not_and]
  rintro⟨h1,h2⟩ ⟨h3,h4⟩
  have l1:=zH1.mp h1
  have l2:=zH1.mp h3
  refine⟨fun h=>?_,fun e=>?_⟩
  ·exact zH1.mpr (List.le_trans l1 l2) h
  ·rw[e] at l2
   have e2:=List.le_antisymm l1 l2
   have e3:=tO e2
   have:=h2 e3.symm
   have:=h4 (e.trans e3)
   omega
 asy:=fun a b=>by
  unfold lxT
  generalize yV ps a=x;generalize yV ps b=y
  simp only[zy1,zv7,not_or,not_and]
  rintro (h|⟨e,h⟩)
  ·refine⟨fun h2=>zC4 _ (List.lt_trans h h2),fun e=>?_⟩
   rw[e] at h
   exact (zC4 _ h).elim
  ·rw[e]
   exact⟨zC4 _,fun _=>by omega⟩
theorem oj (ps:List (Str×Int))(h:0<ps.length):∃ix:List Nat,run (fun i j=>lxT (yV ps i) (yV ps j)) (kas_sort ps.length)=ix.toArray∧ix.length=ps.length∧(∀i∈ix,i<ps.length)∧(ix.map (yV ps)).Perm ps∧(ix.map (yV ps)).Pairwise (fun p q=>lxT q p=false):=by
 obtain⟨a,b,c⟩:=ku (bV ps) h
 generalize run (fun i j=>lxT (yV ps i) (yV ps j)) (kas_sort ps.length)=r at a b c
 have e:(List.range ps.length).map (yV ps)=ps:=by
  apply zF5
  ·simp
  ·intro i h1 h2
   simp[yV,h2]
 have pl:r.toList.Perm (List.range ps.length):=by
  have:=Array.perm_iff_toList_perm.mp b
  simpa using this
 refine⟨r.toList,by simp,by simpa using a,fun i hi=>by simpa using pl.mem_iff.mp hi,?_,?_⟩
 ·have:=pl.map (yV ps)
  rw[e] at this
  exact this
 ·rw[zE7,zA6]
  intro i j hi hj hij
  have h1:j<r.size:=by simpa using hj
  have:=c i j (by omega) (by rw[←a];exact h1)
  have ei:g r i=r.toList[i]:=by
   have:i<r.size:=by omega
   simp[g,Array.getD,this]
  have ej:g r j=r.toList[j]:=by simp[g,Array.getD,h1]
  rw[ei,ej] at this
  exact this
end SortA
namespace L2
open PySem PySem.Spec PySem.Calls PySem.W PyProof.Rows SortA
section
variable {prog:Program}{w:World}{A:Around}{E:Value→Shared→Prop}{s:Shared}
def wj (h:Heap):List Value→List (Str×Int)→Prop
 |[],[]=>True
 |v::vs,p::ps=>(∃a o t u n,v=.ref a∧h.get? a=some o∧o.cls=.type "tuple"∧o.data=.seq #[.str p.1 t,.int p.2 u] n)∧wj h vs ps
 |_,_=>False
theorem wj.len {h:Heap}:∀{vs:List Value} {ps:List (Str×Int)},wj h vs ps→vs.length=ps.length
 |[],[],_=>rfl
 |[],_::_,h=>h.elim
 |_::_,[],h=>h.elim
 |_::_,_::_,⟨_,h⟩=>by simp[wj.len h]
theorem wj.keep {h h':Heap}(k:∀b o,h.get? b=some o→o.cls=.type "tuple"→h'.get? b=some o):∀{vs:List Value} {ps:List (Str×Int)},wj h vs ps→wj h' vs ps
 |[],[],_=>trivial
 |[],_::_,h=>h.elim
 |_::_,[],h=>h.elim
 |_::_,_::_,⟨⟨a,o,t,u,n,e,ho,hc,hd⟩,r⟩=>⟨⟨a,o,t,u,n,e,k _ _ ho hc,hc,hd⟩,wj.keep k r⟩
theorem wj.at {h:Heap}:∀{vs:List Value} {ps:List (Str×Int)} (i:Nat),wj h vs ps→i<ps.length→∃a o t u n,vs.getD i Value.none=.ref a∧h.get? a=some o∧o.cls=.type "tuple"∧o.data=.seq #[.str (yV ps i).1 t,.int (yV ps i).2 u] n
 |[],[],_,_,hi=>by simp at hi
 |[],_::_,_,h,_=>h.elim
 |_::_,[],_,h,_=>h.elim
 |_::_,_::_,0,⟨x,_⟩,_=>x
 |_::_,_::_,i+1,⟨_,r⟩,hi=>by
  obtain⟨a,o,t,u,n,e,q⟩:=wj.at i r (by simpa using hi)
  exact⟨a,o,t,u,n,by simpa using e,q⟩
theorem wj.tups {h:Heap}:∀{vs:List Value} {ps:List (Str×Int)},wj h vs ps→∃fs:List Value,KatTups h vs fs∧fs.length=ps.length∧∀v∈fs,∃(i:Str) (t:Tok),v=.str i t
 |[],[],_=>⟨[],trivial,rfl,fun _ h=>by simp at h⟩
 |[],_::_,h=>h.elim
 |_::_,[],h=>h.elim
 |_::_,p::_,⟨⟨a,o,t,u,n,e,ho,hc,hd⟩,r⟩=>by
  obtain⟨fs,x,y,z⟩:=wj.tups r
  subst e
  refine⟨.str p.1 t::fs,KatTups.cons ho hc hd (by simp) x,by simp[y],fun v hv=>?_⟩
  rcases zs8.mp hv with rfl|hv
  ·exact⟨_,_,rfl⟩
  ·exact z v hv
theorem jR {a b:Addr}{oa ob:Obj}{p q:Str×Int}{t u t' u':Tok}{n k:Nat}{Q:Bool→Shared→Prop}(ha:s.heap.get? a=some oa)(da:oa.data=.seq #[.str p.1 t,.int p.2 u] n)(hb:s.heap.get? b=some ob)(db:ob.data=.seq #[.str q.1 t',.int q.2 u'] k)
  (h:Q (lxT p q) s):wpAny (model prog w) A (keyLt' (tuples' true) (.ref a) (.ref b)) Q E s:=by
 refine kat_lt ha da hb db (kat_cons (wpAny_eqBool_str ?_))
 by_cases e:p.1=q.1
 ·rw[zy0 e]
  refine kat_yes (kat_cons (zF3 ?_))
  by_cases e2:p.2=q.2
  ·have e3:(p.2 == q.2)=true:=by simp[e2]
   rw[e3]
   refine kat_yes (kat_nil ?_)
   have:lxT p q=false:=by simp[lxT,e,e2,zC4]
   rw[this] at h
   simpa using h
  ·have e3:(p.2 == q.2)=false:=by simp[e2]
   rw[e3]
   refine kat_no (kat_one _ _ (wpAny_lt_int ?_))
   have:lxT p q=decide (p.2<q.2):=by simp[lxT,e,zC4]
   rw[this] at h
   exact h
 ·rw[zv5 e]
  refine kat_no (oneLt_str ?_)
  have:lxT p q=decide (p.1.cps.toList<q.1.cps.toList):=by simp[lxT,e]
  rw[this] at h
  exact h
theorem nE {vs:List Value}{ps:List (Str×Int)}(h2:2≤vs.length)(P:wj s.heap vs ps){R:Array Nat→Shared→Prop}(hr:∀ix:List Nat,ix.length=ps.length→(∀i∈ix,i<ps.length)→(ix.map (yV ps)).Perm ps→(ix.map (yV ps)).Pairwise (fun p q=>lxT q p=false)→R ix.toArray s):
  wpAny (model prog w) A (keyKind' vs.toArray) (fun κ s'=>(kas_sort vs.length).kasWp (kas_ask prog w A κ vs) R s') (fun _ _=>False) s:=by
 obtain⟨fs,t,hl,hi⟩:=P.tups
 have hlen:=P.len
 refine kat_kind (T:=.type "str") t (by omega) (fun v hv=>?_) (by decide) ?_
 ·obtain⟨i,t,rfl⟩:=hi v hv
  exact .now
 ·have e:(Value.type "str" != Value.type "tuple")=true:=by decide
  rw[e]
  obtain⟨ix,e1,e2,e3,e4,e5⟩:=oj ps (by omega)
  rw[hlen]
  refine wp_run (n:=ps.length) (P:=fun _=>True) (lt:=fun i j=>lxT (yV ps i) (yV ps j)) (fun i j C hi hj hC=>?_) _ (qh (by omega)) ?_
  ·obtain⟨a,o,t,u,n,ea,ha,_,da⟩:=P.at i hi
   obtain⟨b,o',t',u',n',eb,hb,_,db⟩:=P.at j hj
   unfold kas_ask
   rw[ea,eb]
   exact jR ha da hb db hC
  ·rw[e1];exact hr ix e2 e3 e4 e5
def jF (vs:List Value)(ps:List (Str×Int))(out:List Value):Prop:=
 ∃ix:List Nat,out=ix.map (fun i=>vs.getD i Value.none)∧ix.length=ps.length∧(∀i∈ix,i<ps.length)∧(ix.map (yV ps)).Perm ps∧(ix.map (yV ps)).Pairwise (fun p q=>lxT q p=false)
theorem uG {a:Addr}{vs:List Value}{ps:List (Str×Int)}{n:Nat}{Pf:PySem.Fin→Shared→Prop}(ho:s.heap.get? a=some (seqObj "list" vs.toArray n))(h64:vs.length<64)(P:wj s.heap vs ps)
  (h:∀out h' c,jF vs ps out→(∀b o,b≠a→s.heap.get? b=some o→h'.get? b=some o)→h'.get? a=some (seqObj "list" out.toArray c)→Pf (.done (.ret .none)) {s with heap:=h'}):
  wpAny (model prog w) A (Builtin.«list.sort» ⟨[.ref a],[]⟩) Pf E s:=by
 have ha:a<s.heap.objs.size:=zt3 ho
 have s1:=zy4 s.heap a (Obj.mapSeq fun _=>(#[]:Array Value))
 obtain⟨e1,ho1⟩:∃e1,(s.heap.update a (Obj.mapSeq fun _=>(#[]:Array Value))).get? a=some (seqObj "list" #[] e1):=⟨_,zx7 ho fun _=>#[]⟩
 generalize hh1:s.heap.update a (Obj.mapSeq fun _=>(#[]:Array Value))=h1 at s1 ho1
 have k1:∀b o,b≠a→s.heap.get? b=some o→((h1.push (seqObj "tuple" vs.toArray 0)).push (seqObj "list" #[] 0)).get? b=some o:=fun b o hb e=>
  zs5 _ (zs5 _ ((s1.2 b hb).trans e))
 have ho2:((h1.push (seqObj "tuple" vs.toArray 0)).push (seqObj "list" #[] 0)).get? a=some (seqObj "list" #[] e1):=zs5 _ (zs5 _ ho1)
 have P2:wj ((h1.push (seqObj "tuple" vs.toArray 0)).push (seqObj "list" #[] 0)) vs ps:=P.keep fun b o e hc=>by
  refine k1 b o (fun q=>?_) e
  rw[q,ho] at e
  cases e
  simp at hc
 have fin:∀(out:List Value),jF vs ps out→∀{s':Shared},s'={s with heap:=(h1.push (seqObj "tuple" vs.toArray 0)).push (seqObj "list" #[] 0)}→
   ∀c h',h'.get? a=some (seqObj "list" out.toArray c)→Heap.SameBut a s'.heap h'→Pf (.done (.ret .none)) {s' with heap:=h'}:=fun out so s' es c h' e sb=>by
  subst es
  exact h out h' c so (fun b o hb e=>(sb.2 b hb).trans (k1 b o hb e)) e
 rw[list_sort_plain]
 refine zs3 (listItems_at ho rfl ?_)
 refine zs3 (zB5 ho rfl ?_ (by rw[zt1,zv4];omega) (zt6 _))
 rw[hh1]
 refine zs3 (seqEpoch_at ho1 rfl ?_)
 refine zs3 (wpAny_newTuple ?_ (by show vs.length≤_;rw[zv4];omega))
 refine zs3 (wpAny_newList ?_ (zt6 _))
 refine zx3 ?_
 show wpAny (model prog w) A _ Pf E {s with heap:=(h1.push (seqObj "tuple" vs.toArray 0)).push (seqObj "list" #[] 0)}
 dsimp only
 have hlen:=P.len
 by_cases hn2:vs.toArray.size<2
 ·rw[if_pos hn2,if_pos hn2]
  have hv:vs.length<2:=by simpa using hn2
  refine zs3 (zt2 ?_)
  refine zs3 (zt2 ?_)
  dsimp only
  have so:jF vs ps vs:=by
   match vs,ps,hv,hlen with
   |[],[],_,_=>exact⟨[],rfl,rfl,fun _ h=>by simp at h,.refl _,.nil⟩
   |[v],[p],_,_=>exact⟨[0],rfl,rfl,fun i h=>by simp at h;subst h;simp,.refl _,by simp⟩
   |_::_::_,_,hv,_=>simp only[zu1] at hv;omega
  have hout:(arrOf (SortSt.mk' general' (vs.toArray.zip vs.toArray) #[] 7 none)).map (·.2)=vs.toArray:=by
   show (vs.toArray.zip vs.toArray).map (·.2)=vs.toArray
   apply Array.toList_inj.mp
   rw[Array.toList_map,Array.toList_zip]
   exact List.map_snd_zip (zs9 _)
  have hf:failedOf (SortSt.mk' general' (vs.toArray.zip vs.toArray) #[] 7 none)=none:=rfl
  rw[hout]
  have s2:=zy4 ((h1.push (seqObj "tuple" vs.toArray 0)).push (seqObj "list" #[] 0)) a (Obj.mapSeq fun _=>vs.toArray)
  obtain⟨c2,hc2⟩:∃c2,(((h1.push (seqObj "tuple" vs.toArray 0)).push (seqObj "list" #[] 0)).update a (Obj.mapSeq fun _=>vs.toArray)).get? a=some (seqObj "list" vs.toArray c2):=⟨_,zx7 ho2 fun _=>vs.toArray⟩
  refine zs3 (seqEpoch_at ho2 rfl ?_)
  refine zs3 (zB5 ho2 rfl ?_ (zt6 _) (by rw[zt1,zv4];omega))
  simp only[bne_self_eq_false,zx9,zC6]
  exact zt2 (fin vs so rfl c2 _ hc2 s2)
 ·rw[if_neg hn2,if_neg hn2]
  have h2:2≤vs.length:=by simp at hn2;omega
  have ask:=nE (prog:=prog) (w:=w) (A:=A) (s:={s with heap:=(h1.push (seqObj "tuple" vs.toArray 0)).push (seqObj "list" #[] 0)}) h2 P2
   (R:=fun p s''=>jF vs ps (p.toList.map fun i=>vs.getD i Value.none)∧s''={s with heap:=(h1.push (seqObj "tuple" vs.toArray 0)).push (seqObj "list" #[] 0)}) (fun ix a b c d=>⟨⟨ix,by simp,a,b,c,d⟩,rfl⟩)
  refine zs3 (zv6 ask (fun κ s0 hk=>?_) fun _ _ x=>x.elim)
  refine zs3 (zv6 (kat_run (Q:=fun st' s'=>∃p:Array Nat,p.size=vs.length∧arrOf st'=p.map (kas_item (vs.toArray.zip vs.toArray))∧failedOf st'=none∧jF vs ps (p.toList.map fun i=>vs.getD i Value.none)∧s'={s with heap:=(h1.push (seqObj "tuple" vs.toArray 0)).push (seqObj "list" #[] 0)})
   rfl h2 h64 (fun p' st' s' a1 a2 a3 a4=>⟨p',a1,a2,a3,a4⟩) hk) ?_ fun _ _ e=>e)
  rintro⟨⟨⟩,st'⟩ s' ⟨p,hp,har,hf,so,es⟩
  dsimp only
  have hout:=kat_snds rfl har
  have hsz:(List.toArray (p.toList.map fun i=>vs.getD i Value.none)).size=vs.length:=by rw[zt1,zs4,zG8,hp]
  rw[hout]
  have ho3:s'.heap.get? a=some (seqObj "list" #[] e1):=by rw[es];exact ho2
  have s2:=zy4 s'.heap a (Obj.mapSeq fun _=>List.toArray (p.toList.map fun i=>vs.getD i Value.none))
  obtain⟨c2,hc2⟩:∃c2,(s'.heap.update a (Obj.mapSeq fun _=>List.toArray (p.toList.map fun i=>vs.getD i Value.none))).get? a=some (seqObj "list" (List.toArray (p.toList.map fun i=>vs.getD i Value.none)) c2):=⟨_,zx7 ho3 fun _=>List.toArray (p.toList.map fun i=>vs.getD i Value.none)⟩
  refine zs3 (seqEpoch_at ho3 rfl ?_)
  refine zs3 (zB5 ho3 rfl ?_ (zt6 _) (zw6 (zE0 hsz) (by rw[zv4];omega)))
  rw[hf]
  simp only[bne_self_eq_false,zx9,zC6]
  exact zt2 (fin _ so es c2 _ hc2 s2)
theorem rD {l:Addr}{vs:List Value}{ps:List (Str×Int)}{Q:Value→Shared→Prop}(hl:s.heap.IsList l vs.toArray)(h64:vs.length<64)(P:wj s.heap vs ps)
  (h:∀D out h' c,s.heap.objs.size≤D→jF vs ps out→(∀b o,s.heap.get? b=some o→h'.get? b=some o)→h'.get? D=some (seqObj "list" out.toArray c)→Q (.ref D) {s with heap:=h'}):
  wpAny (model prog w) A (call (.builtin "sorted") [.ref l]) Q E s:=by
 refine Calls.call_function_entry kind_sorted plain_sorted entry_sorted (args_sorted1 _) ?_
 unfold Builtin.«sorted»
 refine zs3 (m:=checkCount "sorted" 1 1 _) (zt2 ?_)
 refine zs3 (collect_list hl ?_ (by rw[zv4];omega))
 refine zs3 (wpAny_newList ?_ (by rw[zv4];omega))
 have hsz:((s.heap.push (seqObj "list" #[] 0)).update s.heap.objs.size (Obj.mapSeq (·++vs.toArray))).objs.size=s.heap.objs.size+1:=by
  rw[Heap.size_update,size_push']
 have hoL:(((s.heap.push (seqObj "list" #[] 0)).update s.heap.objs.size (Obj.mapSeq (·++vs.toArray))).push (seqObj "list" vs.toArray 0)).get? (s.heap.objs.size+1)=some (seqObj "list" vs.toArray 0):=by
  rw[←hsz];exact zt8 _ rfl
 have keep:∀b o,s.heap.get? b=some o→(((s.heap.push (seqObj "list" #[] 0)).update s.heap.objs.size (Obj.mapSeq (·++vs.toArray))).push (seqObj "list" vs.toArray 0)).get? b=some o:=fun b o q=>by
  have hlt:b<s.heap.objs.size:=zt3 q
  rw[zE8 _ _ _ (by rw[hsz];exact zu4 (zC2 hlt)),Heap.get?_update_ne _ _ _ _ (zu4 hlt),zE8 _ _ _ (zu4 hlt)]
  exact q
 show wpAny _ _ _ _ _ {s with heap:=((s.heap.push (seqObj "list" #[] 0)).update s.heap.objs.size (Obj.mapSeq (·++vs.toArray))).push (seqObj "list" vs.toArray 0)}
 rw[hsz]
 refine zs3 (zx3 (zD0 slot_list_sort ⟨_,hoL,rfl⟩ entry_list_sort ?body (args_list_sort _)))
 case body=>
  refine uG (s:={s with heap:=((s.heap.push (seqObj "list" #[] 0)).update s.heap.objs.size (Obj.mapSeq (·++vs.toArray))).push (seqObj "list" vs.toArray 0)})
   hoL h64 (P.keep fun b o e _=>keep b o e) fun out h' c so k e=>?_
  exact⟨_,rfl,zt2 ⟨_,rfl,h _ out h' c (zC1 _) so (fun b o q=>k b o (zu4 (zC2 (zt3 q))) (keep b o q)) e⟩⟩
end
inductive wb (H:Hp):List V→List (Str×Int)→Prop where
 |nil:wb H [] []
 |cons {a:Addr} {xs:List V} {p:Str×Int} {ps:List (Str×Int)}:H a=some (.tup [.str p.1,.int p.2])→wb H xs ps→wb H (.ref a::xs) (p::ps)
section
variable {X:Cx}{pins:List (Addr×Obj)}{σ:St}{H H':Hp}{s:Shared}
theorem wb.len {xs:List V}{ps:List (Str×Int)}(h:wb H xs ps):xs.length=ps.length:=by
 induction h with
 |nil=>rfl
 |cons _ _ ih=>simp[ih]
theorem wb.keep {xs:List V}{ps:List (Str×Int)}(k:∀a p q,H a=some (.tup [.str p,.int q])→H' a=some (.tup [.str p,.int q]))(h:wb H xs ps):wb H' xs ps:=by
 induction h with
 |nil=>exact .nil
 |cons e _ ih=>exact .cons (k _ _ _ e) ih
theorem wb.prs (I:Inv X pins σ H s):∀{xs:List V} {ps:List (Str×Int)} {us:List Value},wb H xs ps→Vals xs us→wj s.heap us ps:=by
 intro xs ps us h
 induction h generalizing us with
 |nil=>intro r;cases r;exact trivial
 |@cons a xs p ps e _ ih=>
  intro r
  cases r with
  |cons r rr=>
   cases (show _=Value.ref a from r)
   obtain⟨_,its,vi,o,ho,hc,n,hd⟩:=(show zY X.prog X.w H s.heap a (.tup [.str p.1,.int p.2]) from I.hok a _ e)
   obtain⟨u,v,rfl,⟨t,rfl⟩,⟨t',rfl⟩⟩:=Vals.two vi
   exact⟨⟨a,o,t,t',n,rfl,ho,hc,hd⟩,ih rr⟩
theorem wb.at {xs:List V}{ps:List (Str×Int)}(h:wb H xs ps):∀i,i<ps.length→∃a,xs[i]?=some (.ref a)∧H a=some (.tup [.str (yV ps i).1,.int (yV ps i).2]):=by
 induction h with
 |nil=>intro i hi;simp at hi
 |@cons a xs p ps e _ ih=>
  intro i hi
  cases i with
  |zero=>exact⟨a,rfl,e⟩
  |succ i=>
   obtain⟨b,e1,e2⟩:=ih i (by simpa using hi)
   exact⟨b,by simpa using e1,e2⟩
theorem tI {xs:List V}{us:List Value}{ps:List (Str×Int)}(h:wb H xs ps)(r:Vals xs us):∀ix:List Nat,(∀i∈ix,i<ps.length)→∃ys,Vals ys (ix.map fun i=>us.getD i Value.none)∧∀G:Hp,wb G xs ps→wb G ys (ix.map (yV ps))
 |[],_=>⟨[],.nil,fun _ _=>.nil⟩
 |i::ix,hi=>by
  obtain⟨ys,a,b⟩:=tI h r ix fun j hj=>hi j (.tail _ hj)
  obtain⟨c,e1,e2⟩:=h.at i (hi i (.head _))
  refine⟨.ref c::ys,.cons (tY r i _ e1) a,fun G hG=>?_⟩
  obtain⟨c',e1',e2'⟩:=hG.at i (hi i (.head _))
  rw[e1] at e1'
  cases e1'
  exact .cons e2' (b G hG)
def kH (ps:List (Str×Int)):Prop:=ps.Pairwise fun p q=>lxT q p=false
theorem rk :we X (.builtin "sorted") (fun xs H Q=>∃(l:Addr) (ys:List V) (ps:List (Str×Int)),xs=[.ref l]∧H l=some (.lst ys)∧wb H ys ps∧ps.length<64∧
  ∀l' zs qs,H l'=none→(∀G,wb G ys ps→wb G zs qs)→qs.Perm ps→kH qs→Q (.ref l') (upd H l' (.lst zs))):=by
 intro pins s σ H xs us Q I r h
 obtain⟨l,ys,ps,rfl,hl,hp,h64,q⟩:=h
 obtain⟨u,rfl,rx⟩:=Vals.one r
 cases (show u=Value.ref l from rx)
 obtain⟨hz,its,n,vi,e⟩:=(show zY X.prog X.w H s.heap l (.lst ys) from I.hok l _ hl)
 have P:=hp.prs I vi
 have hlen:=P.len
 refine rD (vs:=its) (ps:=ps) ⟨_,e,rfl,n,rfl⟩ (by omega) P fun D out h' c hD so k e'=>?_
 obtain⟨ix,eo,e2,e3,e4,e5⟩:=so
 obtain⟨zs,vz,pz⟩:=tI hp vi ix e3
 have hn:H D=none:=I.hok.fresh hD
 refine⟨.ref D,_,I.laid (o:=.lst zs) (t':=s.toks) k hD ⟨?_,out,c,by rw[eo];exact vz,e'⟩,rfl,q D zs _ hn pz e4 e5⟩
 rw[(pz _ hp).len,zs4,e2,zv4]
 omega
end
def dTI (p:Str×Int):PyData:=.tuple [.str p.1,.int p.2]
theorem dP {H:Hp}{xs:List V}{ps:List (Str×Int)}(h:wb H xs ps):AVs H xs (ps.map dTI):=by
 induction h with
 |nil=>exact .nil
 |cons e _ ih=>exact .cons (.tup e (.cons (.str _) (.cons (.int _) .nil))) ih
theorem sI {H:Hp}:∀{ps:List (Str×Int)} {xs:List V},AVs H xs (ps.map dTI)→wb H xs ps
 |[],_,.nil=>.nil
 |p::ps,_,.cons h r=>by
  obtain⟨a,ys,rfl,h1,h2⟩:=AV.tup_inv (ds:=[.str p.1,.int p.2]) h
  cases h2 with
  |cons g1 h2=>
   cases h2 with
   |cons g2 h2=>
    cases h2
    cases g1.str_inv;cases g2.int_inv
    exact .cons h1 (sI r)
section
variable {X:Cx}{α:Ev}{e:Expr}{p pos:Pos}
theorem tV {Q:List PyData→Prop}(hg:Gl X "sorted")(hm:X.mg "sorted"=none)(h:EvD X α e fun x=>∃ps:List (Str×Int),x=.list (ps.map dTI)∧ps.length<64∧∀qs:List (Str×Int),qs.Perm ps→kH qs→Q (qs.map dTI))(he:starEach [e] X.env=(false,eval e X.env)::starEach [] X.env:=by rfl):
  EvL X α (.Call (.Name "sorted" p) [e] [] pos) Q:=fun F σ H R m k=>by
 refine⟨_,ya rk hg hm boot_sorted (zc zq zt he) (he:=he),?_⟩
 refine h F σ H _ m fun x vx H1 q1 t1 k1 r1=>?_
 obtain⟨ps,rfl,h64,q⟩:=q1
 have m1:=m.kz k1 t1
 obtain⟨l,xs,rfl,h1,h2⟩:=r1.lst_inv
 have h3:=(zl h1).2
 refine⟨l,xs,ps,rfl,h3,(sI h2).keep fun a p q e=>(zl e).2,h64,fun l' zs qs hl' pz pm rs=>?_⟩
 obtain⟨g1,g2,g3⟩:=m1.lay hl' (dP (pz _ (sI h2)))
 exact k _ _ _ (q qs pm rs) g1 (k1.trans g2) (g3.back m k1 t1)
theorem gN {ps qs:List (Str×Int)}(h:ps.Perm qs)(h1:kH ps)(h2:kH qs):ps=qs:=by
 refine h.eq_of_pairwise (le:=fun p q=>lxT q p=false) (fun a b _ _ ha hb=>?_) h1 h2
 unfold lxT at ha hb
 simp only[zy1,not_or,not_and] at ha hb
 have e:=tO (List.le_antisymm (zH1.mp ha.1) (zH1.mp hb.1))
 have:=ha.2 e.symm
 have:=hb.2 e
 exact Prod.ext e (by omega)
end
end L2
set_option maxHeartbeats 4000000
namespace K43
open PySem PySem.Spec PyProof.Rows L2
def top (i:Nat):Stmt:=PySem.Challenge.pw_stayprice_k43_whole_each_bar_bars_alone.main.body.getD i (.Pass ⟨0,0,0,0⟩)
abbrev rY :Stmt:=top 49
abbrev dg :Stmt:=top 50
def ik :Scope:=match zw rY with
 |[.Return (some (.List (.ListComp _ _ sc _::_) _)) _]=>sc
 |_=>zb rY
section
variable {P:Program}{w:World}{K:PySem.W.Frag}{mg:Str→Option Value}{base:Heap}
theorem zb4 :zm ["_law_script"] ["_law_script"] (zb rY):=⟨rfl,rfl,rfl,by decide +kernel,rfl,by decide +kernel,by decide +kernel⟩
theorem gu :zI ["_law_script"] (zb rY) ["_law_cell"] [none] ik:=⟨rfl,by decide +kernel,by decide +kernel,by decide +kernel,by decide +kernel,rfl,by decide +kernel⟩
theorem cA {f:Addr}{fd:FuncData}(F:Fun K "_law_tape" "_law_tape" rY f fd)(T:zf3 mg):zB P w K mg base CX0 1 f fd ["_law_script"] (lg K):=by
 refine F.ok zb4 (fun vs H Q E h=>?_) (fun cdv A outer s H vs Q E hr h=>?_)
 ·obtain⟨a,ns,rfl,_⟩:=h
  rfl
 ·obtain⟨a,ns,rfl,hS,hlen,k⟩:=h
  refine⟨_,zv (zA (cj (zc
   (za5 rfl gu (kQ (sN qU (pv 0) pA (qK zo)))
    (fun _ _ _ _=>zL (i:=0) gu.nd rfl (Or.inl rfl))
    (fun _ _ _ _=>kf (yb zj6 (ya nv (by rfl) T.abs boot_abs (zc (pv 0) zt)) (yo dS zo zo) (zD _)))
    (fun _ _ _ _=>ya nv (by rfl) T.abs boot_abs (zc (pv 0) zt)))
   (zc (vt uk (by rfl) T.list boot_list (zc (sN qU (pv 0) pA (qK zo)) zt))
   (zc zo zt))))),?_⟩
  -- script[:63]
  refine⟨_,rfl,63,rfl,a,_,rfl,hS,fun l hl=>?_⟩
  obtain⟨ms,em,lm⟩:=iQ ns none (some 63)
  rw[em]
  refine⟨l,rfl,⟨_,SqL.of zi⟩,fun acc hacc=>?_⟩
  have nal:acc≠l:=fun z=>by rw[z,zi] at hacc;cases hacc
  have hacc':H acc=none:=by rw[zg nal] at hacc;exact hacc
  have s0:zy H (upd H l (.lst (ms.map V.int))):=fun b o e=>by rw[zg (zk e hl)];exact e
  refine ib (K:=K) (a:=l) (xs:=ms.map V.int) (fun i ys τ H2=>∃(bs:List Int) (v:Option V),ys=bs.map V.int∧bs.length≤i∧τ=[v]∧H2=upd (upd H l (.lst (ms.map V.int))) acc (.lst (bs.map V.int)))
   ⟨[],none,rfl,zs9 _,rfl,rfl⟩ ?_ ?_ ?_
  ·rintro i ys τ H2 _ ⟨bs,v,rfl,_,rfl,rfl⟩
   exact SqL.of (by rw[zg nal.symm,zi])
  ·rintro i x ys τ H2 hx ⟨bs,v,rfl,hb,rfl,rfl⟩
   have hi:i<ms.length:=by
    have:=(zt0.mp hx).1
    rwa [zs4] at this
   obtain⟨z,rfl⟩:∃z,x=V.int z:=by
    rw[zu0] at hx
    cases e:ms[i]? with
    |none=>rw[e] at hx;cases hx
    |some z=>rw[e] at hx;exact⟨z,(zv0 hx).symm⟩
   refine⟨_,rfl,z,rfl,_,_,rfl,rfl,⟨by decide,by decide,by decide⟩,_,_,rfl,rfl,_,rfl,?_⟩
   refine yv (fun _=>?_) (fun _=>?_)
   ·refine⟨_,rfl,z,rfl,zi,?_,bs++[if z<0 then -z else z],_,?_,?_,rfl,?_⟩
    ·rw[zs4];exact yQ (by omega)
    ·rw[zw3];rfl
    ·rw[zu3];simp;omega
    ·rw[tD,zw3];rfl
   ·exact⟨bs,_,rfl,by omega,rfl,rfl⟩
  ·rintro ys τ H2 ⟨bs,v,rfl,hb,rfl,rfl⟩
   rw[zs4] at hb
   -- list(script[:63])
   have s1:zy H (upd (upd H l (.lst (ms.map V.int))) acc (.lst (bs.map V.int))):=fun b o e=>by rw[zg (zk e hacc')];exact s0 b o e
   refine⟨_,rfl,63,rfl,a,_,rfl,s1.seq hS,fun l2 hl2=>?_⟩
   rw[em]
   refine⟨l2,_,rfl,.inl (SqL.of zi),fun c hc=>?_⟩
   refine⟨(by show 3≤sizeLine;decide),fun t ht=>?_⟩
   have n1:l2≠acc:=fun z=>by rw[z,zi] at hl2;cases hl2
   have n2:c≠l2:=fun z=>by rw[z,zi] at hc;cases hc
   have hc2:upd (upd H l (.lst (ms.map V.int))) acc (.lst (bs.map V.int)) c=none:=by rw[zg n2] at hc;exact hc
   have n3:c≠acc:=fun z=>by rw[z,zi] at hc2;cases hc2
   have n4:t≠c:=fun z=>by rw[z,zi] at ht;cases ht
   have ht2:upd (upd (upd H l (.lst (ms.map V.int))) acc (.lst (bs.map V.int))) l2 (.lst (ms.map V.int)) t=none:=by rw[zg n4] at ht;exact ht
   have n5:t≠l2:=fun z=>by rw[z,zi] at ht2;cases ht2
   have ht3:upd (upd H l (.lst (ms.map V.int))) acc (.lst (bs.map V.int)) t=none:=by rw[zg n5] at ht2;exact ht2
   have n6:t≠acc:=fun z=>by rw[z,zi] at ht3;cases ht3
   refine k t acc c _ ⟨0,bs,ms,n3.symm,zi,?_,?_,by omega,by omega⟩ (s1.free ht3) hacc' (s1.free hc2) fun b o e=>?_
   ·rw[zg n6.symm,zg n3.symm,zg n1.symm,zi]
   ·rw[zg n4.symm,zi]
   ·have e1:=s1 b o e
    rw[zg (zk e1 ht3),zg (zk e1 hc2),zg (zk e1 hl2)]
    exact e1
theorem uz :zm ["_law_tape_here","_law_many","_law_found","_law_cell","_law_number"] ["_law_tape_here","_law_many"] (zb dg):=⟨rfl,rfl,rfl,by decide +kernel,rfl,by decide +kernel,by decide +kernel⟩
theorem cJ {f:Addr}{fd:FuncData}(F:Fun K "_law_draw" "_law_draw" dg f fd)(T:zf3 mg):zB P w K mg base CX0 1 f fd ["_law_tape_here","_law_many"] fJ:=by
 refine F.ok uz (fun vs H Q E h=>?_) (fun cdv A outer s H vs Q E hr h=>?_)
 ·obtain⟨t,b,c,many,rfl,_⟩:=h
  rfl
 ·obtain⟨t,b,c,many,rfl,⟨n,bs,cs,nbc,ht,hb,hc,lb,lc⟩,hm0,hm1,k⟩:=h
  have ntb:t≠b:=aP ht hb (kn bs)
  have ntc:t≠c:=aP ht hc (kn cs)
  have hlog:many.natAbs.log2<9000:=log2_small hm0 hm1
  -- tape[2]=tape[2]+1
  refine zU (fun σ H1=>σ=[some (.ref t),some (.int many),none,none,none]∧H1=upd H t (.lst [.ref b,.ref c,.int (n+1)]))
   ⟨_,pK (yo ux (zM zR (pv 0) zo (fun _ _=>rfl)) zo) (mV (pv 0) zo set_list),?_⟩ ?_
  ·exact⟨_,rfl,t,_,2,_,rfl,rfl,SqL.of ht,rfl,_,_,rfl,rfl,_,rfl,t,_,2,2,rfl,rfl,ht,rfl,rfl,rfl⟩
  rintro σ H1 ⟨rfl,hH1⟩
  have ht1:H1 t=some (.lst [.ref b,.ref c,.int (n+1)]):=by rw[hH1];exact zi
  have hb1:H1 b=some (.lst (bs.map V.int)):=by rw[hH1,zg ntb.symm];exact hb
  have hc1:H1 c=some (.lst (cs.map V.int)):=by rw[hH1,zg ntc.symm];exact hc
  have off1:pO t b H H1:=fun a h1 h2=>by rw[hH1,zg h1]
  clear hH1
  -- while len(tape[0]) > 0 and tape[0][0]==0:tape[0].pop(0)
  refine zU (fun σ H2=>∃bs2:List Int,bs2.length≤63∧σ=[some (.ref t),some (.int many),none,none,none]∧H2 t=some (.lst [.ref b,.ref c,.int (n+1)])∧H2 b=some (.lst (bs2.map V.int))∧H2 c=some (.lst (cs.map V.int))∧pO t b H H2)
   ⟨_,fg zy3 (gP (yb kl (ya ym (by rfl) T.len zA8 (zc (zM zR (pv 0) zo (fun _ _=>rfl)) zt)) zo (zD _))
     (kj (yb wG (zM zR (zM zR (pv 0) zo (fun _ _=>rfl)) zo (fun _ _=>rfl)) zo (zD _)))).pt
    (zv (jc (aM PySem.F.plainAttrs_list PySem.F.slot_list_pop PySem.F.type_list_pop gQ (zM zR (pv 0) zo (fun _ _=>rfl)) (zc zo zt)))),?_⟩ ?_
  ·refine⟨fun m σ H2=>∃bs2:List Int,m=bs2.length∧bs2.length≤63∧σ=[some (.ref t),some (.int many),none,none,none]∧H2 t=some (.lst [.ref b,.ref c,.int (n+1)])∧H2 b=some (.lst (bs2.map V.int))∧H2 c=some (.lst (cs.map V.int))∧pO t b H H2,
    ⟨_,bs,rfl,lb,rfl,ht1,hb1,hc1,off1⟩,?_⟩
   rintro m σ H2 ⟨bs2,rfl,lb2,rfl,ht2,hb2,hc2,off2⟩
   refine⟨_,rfl,t,_,0,_,rfl,rfl,SqL.of ht2,rfl,b,_,rfl,.inl (SqL.of hb2),_,_,rfl,rfl,_,rfl,?_⟩
   refine yv (fun _=>?_) (fun _=>?_)
   ·cases bs2 with
    |nil=>rename_i z;simp at z
    |cons z r=>
     refine⟨_,rfl,t,_,0,_,rfl,rfl,SqL.of ht2,rfl,b,_,0,_,rfl,rfl,SqL.of hb2,at0,rfl,_,rfl,?_⟩
     refine yv (fun _=>?_) (fun _=>?_)
     ·refine⟨_,fun σ' H' h'=>h',_,rfl,t,_,0,_,rfl,rfl,SqL.of ht2,rfl,.inl ⟨rfl,_,SqL.of hb2⟩,b,_,0,0,_,rfl,rfl,hb2,by decide,by decide,zr9,rfl,r.length,?_,r,rfl,?_,rfl,?_,zi,?_,?_⟩
      ·simp
      ·simp at lb2;omega
      ·rw[zg ntb];exact ht2
      ·rw[zg nbc.symm];exact hc2
      ·exact off2.trans fun a h1 h2=>by rw[zg h2]
     ·exact⟨_,lb2,rfl,ht2,hb2,hc2,off2⟩
   ·exact⟨_,lb2,rfl,ht2,hb2,hc2,off2⟩
  rintro σ H2 ⟨bs2,lb2,rfl,ht2,hb2,hc2,off2⟩
  -- if len(tape[0]) > 0:..
  refine zU (fun σ H3=>σ=[some (.ref t),some (.int many),none,none,none]∧H2=H3)
   ⟨_,xI (yb kl (ya ym (by rfl) T.len zA8 (zc (zM zR (pv 0) zo (fun _ _=>rfl)) zt)) zo (zD _))
    (zV (va (i:=2) uz.nd rfl (Or.inl rfl) (yo vK (zM zR (zM zR (pv 0) zo (fun _ _=>rfl)) zo (fun _ _=>rfl)) (pv 1)))
    (zV (pK (yo rh (zM zR (zM zR (pv 0) zo (fun _ _=>rfl)) zo (fun _ _=>rfl)) (pv 1)) (mV (zM zR (pv 0) zo (fun _ _=>rfl)) zo set_list))
    (zv (zA (pv 2))))) yu,?_⟩ ?_
  ·refine⟨_,rfl,t,_,0,_,rfl,rfl,SqL.of ht2,rfl,b,_,rfl,.inl (SqL.of hb2),_,_,rfl,rfl,_,rfl,?_⟩
   refine yv (fun _=>?_) (fun _=>?_)
   ·cases bs2 with
    |nil=>rename_i z;simp at z
    |cons z r=>
     refine⟨_,rfl,t,_,0,_,rfl,rfl,SqL.of ht2,rfl,b,_,0,_,rfl,rfl,SqL.of hb2,at0,_,rfl,_,_,rfl,rfl,hm0,?_⟩
     refine⟨_,rfl,t,_,0,_,rfl,rfl,SqL.of ht2,rfl,b,_,0,_,rfl,rfl,SqL.of hb2,at0,_,rfl,_,_,rfl,rfl,⟨hm0,hlog⟩,?_⟩
     refine⟨_,rfl,t,_,0,_,rfl,rfl,SqL.of ht2,rfl,b,_,0,0,rfl,rfl,hb2,ix0,_,rfl,?_⟩
     refine k _ _ (zD8 _ (Int.ne_of_gt hm0)) (zB9 _ hm0) ⟨n+1,(z / many)::r,cs,nbc,?_,zi,?_,?_,lc⟩ ?_
     ·rw[zg ntb];exact ht2
     ·rw[zg nbc.symm];exact hc2
     ·simpa using lb2
     ·exact off2.trans fun a h1 h2=>by rw[zg h2]
   ·exact⟨rfl,rfl⟩
  rintro σ H3 ⟨rfl,rfl⟩
  -- cell=5;if len(tape[1]) > 0:..
  refine zU (fun σ H3=>σ=[some (.ref t),some (.int many),none,some (.int 5),none]∧H2=H3) ⟨_,va (i:=3) uz.nd rfl (Or.inl rfl) zo,rfl,rfl⟩ ?_
  rintro σ H3 ⟨rfl,rfl⟩
  refine zU (fun σ H3=>∃z:Int,σ=[some (.ref t),some (.int many),none,some (.int z),none]∧H2=H3)
   ⟨_,xI (yb kl (ya ym (by rfl) T.len zA8 (zc (zM zR (pv 0) zo (fun _ _=>rfl)) zt)) zo (zD _))
    (zv (va (i:=3) uz.nd rfl (Or.inl rfl) (zM zR (zM zR (pv 0) zo (fun _ _=>rfl)) (yo vK (zM zR (pv 0) zo (fun _ _=>rfl)) (ya ym (by rfl) T.len zA8 (zc (zM zR (pv 0) zo (fun _ _=>rfl)) zt))) (fun _ _=>rfl)))) yu,?_⟩ ?_
  ·refine⟨_,rfl,t,_,1,_,rfl,rfl,SqL.of ht2,rfl,c,_,rfl,.inl (SqL.of hc2),_,_,rfl,rfl,_,rfl,?_⟩
   refine yv (fun hpos=>?_) (fun _=>?_)
   ·have hpos':0<cs.length:=by simpa using hpos
    have hp:(0:Int)<((cs.map V.int).length:Int):=by rw[zs4];omega
    have h1:=zD8 (n+1) (Int.ne_of_gt hp)
    have h2:=zB9 (n+1) hp
    obtain⟨j,hj⟩:=zB4 h1
    have hjl:j<cs.length:=by rw[hj,zs4] at h2;omega
    refine⟨_,rfl,t,_,1,_,rfl,rfl,SqL.of ht2,rfl,_,rfl,t,_,2,_,rfl,rfl,SqL.of ht2,rfl,_,rfl,t,_,1,_,rfl,rfl,SqL.of ht2,rfl,c,_,rfl,.inl (SqL.of hc2),_,_,rfl,rfl,hp,c,_,_,V.int cs[j],rfl,rfl,SqL.of hc2,?_,cs[j],rfl,rfl⟩
    rw[hj]
    exact yY (by rw[zu0,zs6 hjl];rfl)
   ·exact⟨5,rfl,rfl⟩
  rintro σ H3 ⟨z,rfl,rfl⟩
  -- the numbers
  refine zU (fun σ H3=>∃y:Int,(0≤y∧y<2147483647)∧σ=[some (.ref t),some (.int many),none,some (.int z),some (.int y)]∧H2=H3)
   ⟨_,va (i:=4) uz.nd rfl (Or.inl rfl) (yo vK (yo sJ (yo ux (yo ux (yo vK (pv 3) zo) (yo sJ zo (zM zR (pv 0) zo (fun _ _=>rfl)))) zo) zo) zo),?_⟩ ?_
  ·exact⟨_,rfl,_,_,rfl,rfl,(by show (0:Int)<999983;decide),_,rfl,t,_,2,_,rfl,rfl,SqL.of ht2,rfl,_,_,rfl,rfl,.inl ⟨by decide,by decide⟩,_,_,rfl,rfl,_,_,rfl,rfl,_,_,rfl,rfl,.inr ⟨by decide,by decide⟩,_,_,rfl,rfl,(by show (0:Int)<2147483647;decide),
    _,⟨zD8 _ (by decide),zB9 _ (by decide)⟩,rfl,rfl⟩
  rintro σ H3 ⟨y,⟨hy0,hy1⟩,rfl,rfl⟩
  refine zU (fun σ H3=>∃y:Int,(0≤y∧y<2147483647)∧σ=[some (.ref t),some (.int many),none,some (.int z),some (.int y)]∧H2=H3)
   ⟨_,va (i:=4) uz.nd rfl (Or.inl rfl) (yo vK (yo ux (yo ux (yo sJ (pv 4) (pv 4)) (yo sJ zo (zM zR (pv 0) zo (fun _ _=>rfl)))) zo) zo),?_⟩ ?_
  ·refine⟨_,rfl,_,rfl,_,_,rfl,rfl,.inl ⟨by omega,by omega⟩,_,rfl,t,_,2,_,rfl,rfl,SqL.of ht2,rfl,_,_,rfl,rfl,.inl ⟨by decide,by decide⟩,_,_,rfl,rfl,_,_,rfl,rfl,_,_,rfl,rfl,(by show (0:Int)<2147483629;decide),
    _,⟨zD8 _ (by decide),Int.lt_trans (zB9 _ (by decide)) (by decide)⟩,rfl,rfl⟩
  rintro σ H3 ⟨y2,⟨hy0,hy1⟩,rfl,rfl⟩
  refine⟨_,zv (zA (yo vK (yo rh (yo vK (yo sJ (yo rh (pv 4) zo) zo) zo) zo) (pv 1))),?_⟩
  refine⟨_,rfl,_,_,rfl,rfl,⟨by decide,by decide +kernel⟩,_,_,rfl,rfl,.inr ⟨by decide,by decide⟩,_,_,rfl,rfl,(by show (0:Int)<2147483587;decide),_,_,rfl,rfl,⟨by decide,by decide +kernel⟩,_,rfl,_,_,rfl,rfl,hm0,?_⟩
  exact k _ _ (zD8 _ (Int.ne_of_gt hm0)) (zB9 _ hm0) ⟨n+1,bs2,cs,nbc,ht2,hb2,hc2,lb2,lc⟩ off2
end
abbrev pk :Stmt:=top 3
abbrev pF :Stmt:=top 4
abbrev eJ :Stmt:=top 5
abbrev zf5 :Stmt:=top 6
abbrev dM :Stmt:=top 7
abbrev sr :Stmt:=top 8
structure nC (mg:Str→Option Value)(fW fI fP fD fPD:Addr):Prop where
 isi:mg "isinstance"=none
 int:mg "int"=none
 bool:mg "bool"=none
 tuple:mg "tuple"=none
 len:mg "len"=none
 last:∃t,mg "LAST_DAY"=some (.int 1000000 t)
 most:∃t,mg "MOST_NIGHTS"=some (.int 14 t)
 whole:mg "is_whole"=some (.ref fW)
 within:mg "is_whole_within"=some (.ref fI)
 pair:mg "is_pair"=some (.ref fP)
 day:mg "is_day"=some (.ref fD)
 days:mg "is_pair_of_days"=some (.ref fPD)
section
variable {P:Program}{w:World}{K:PySem.W.Frag}{mg:Str→Option Value}{base:Heap}{fW fI fP fD fPD:Addr}
theorem bo :zm ["thing"] ["thing"] (zb pk):=⟨rfl,rfl,rfl,by decide +kernel,rfl,by decide +kernel,by decide +kernel⟩
theorem de {f:Addr}{fd:FuncData}(F:Fun K "is_whole" "is_whole" pk f fd)(T:nC mg fW fI fP fD fPD):zB P w K mg base CX0 1 f fd ["thing"] (yG mN):=by
 refine F.ok bo (fun vs H Q E h=>?_) (fun cdv A outer s H vs Q E hr h=>?_)
 ·obtain⟨x,d,rfl,_⟩:=h
  rfl
 ·obtain⟨x,d,rfl,hd,q⟩:=h
  refine⟨_,zv (zA (xi (ya xY (by rfl) T.isi zD9 (zc (pv 0) (zc (um (v:=.ty "int") (by rfl) T.int boot_int rfl) zt)))
   (xM (zi3 (ya xY (by rfl) T.isi zD9 (zc (pv 0) (zc (um (v:=.ty "bool") (by rfl) T.bool boot_bool rfl) zt))))))),?_⟩
  rw[iu] at q
  refine⟨_,rfl,x,"int",d,_,rfl,hd,cP d,_,rfl,?_⟩
  refine yv (fun h=>?_) (fun h=>?_)
  ·rw[h,zy8] at q
   exact⟨_,rfl,x,"bool",d,_,rfl,hd,sQ d,_,rfl,q⟩
  ·rw[zv3.mpr h,zy9] at q
   exact q
theorem hV :zm ["thing","lowest","highest"] ["thing","lowest","highest"] (zb pF):=⟨rfl,rfl,rfl,by decide +kernel,rfl,by decide +kernel,by decide +kernel⟩
theorem jL {f:Addr}{fd fdW:FuncData}(F:Fun K "is_whole_within" "is_whole_within" pF f fd)(T:nC mg fW fI fP fD fPD)(FW:Fun K "is_whole" "is_whole" pk fW fdW)(bW:Binds K fdW ["thing"] []):
  zB P w K mg base CX0 2 f fd ["thing","lowest","highest"] vd:=by
 have GW:zB P w K mg base CX0 1 fW fdW ["thing"] (yG mN):=de FW T
 refine F.ok hV (fun vs H Q E h=>?_) (fun cdv A outer s H vs Q E hr h=>?_)
 ·obtain⟨x,d,lo,hi,rfl,_⟩:=h
  rfl
 ·obtain⟨x,d,lo,hi,rfl,hd,q⟩:=h
  refine⟨_,zv (zA (xi (zQ GW hr (by rfl) T.whole FW.kp bW .nil zZ (zc (pv 0) zt)) (xM (nQ rL rL (pv 1) (pv 0) (pv 2))))),?_⟩
  refine⟨_,rfl,x,d,rfl,hd,_,rfl,?_⟩
  cases hd with
  |int i=>
   have q':Q (.bl (decide (lo≤i)&&decide (i≤hi))) H:=q
   refine su ⟨_,rfl,_,rfl,_,_,rfl,rfl,_,rfl,?_⟩
   refine yv (fun h=>?_) (fun h=>?_)
   ·rw[h,zy8] at q'
    exact⟨_,rfl,_,_,rfl,rfl,q'⟩
   ·rw[zv3.mpr h,zy9] at q'
    exact q'
  |_=>exact rB q
theorem zg6 :zm ["thing"] ["thing"] (zb eJ):=⟨rfl,rfl,rfl,by decide +kernel,rfl,by decide +kernel,by decide +kernel⟩
theorem bJ {f:Addr}{fd:FuncData}(F:Fun K "is_pair" "is_pair" eJ f fd)(T:nC mg fW fI fP fD fPD):zB P w K mg base CX0 1 f fd ["thing"] (yG pairD):=by
 refine F.ok zg6 (fun vs H Q E h=>?_) (fun cdv A outer s H vs Q E hr h=>?_)
 ·obtain⟨x,d,rfl,_⟩:=h
  rfl
 ·obtain⟨x,d,rfl,hd,q⟩:=h
  refine⟨_,zv (zA (xi (ya xY (by rfl) T.isi zD9 (zc (pv 0) (zc (um (v:=.ty "tuple") (by rfl) T.tuple boot_tuple rfl) zt)))
   (xM (xE wG (ya ym (by rfl) T.len zA8 (zc (pv 0) zt)) zo (zD _))))),?_⟩
  refine⟨_,rfl,x,"tuple",d,_,rfl,hd,rN d,_,rfl,?_⟩
  cases hd with
  |@tup a xs ds e hs=>
   refine su ⟨_,rfl,a,_,rfl,.inr (SqT.of e),rfl,?_⟩
   rw[aJ,hs.length]
   exact q
  |_=>exact rB q
theorem zk1 :zm ["thing"] ["thing"] (zb zf5):=⟨rfl,rfl,rfl,by decide +kernel,rfl,by decide +kernel,by decide +kernel⟩
theorem zb0 {f:Addr}{fd fdI:FuncData}(F:Fun K "is_day" "is_day" zf5 f fd)(T:nC mg fW fI fP fD fPD)(GI:zB P w K mg base CX0 2 fI fdI ["thing","lowest","highest"] vd)(kI:PySem.W.keepIn K (.ref fI)=true)(bI:Binds K fdI ["thing","lowest","highest"] []):
  zB P w K mg base CX0 3 f fd ["thing"] (yG ub):=by
 obtain⟨tl,hl⟩:=T.last
 refine F.ok zk1 (fun vs H Q E h=>?_) (fun cdv A outer s H vs Q E hr h=>?_)
 ·obtain⟨x,d,rfl,_⟩:=h
  rfl
 ·obtain⟨x,d,rfl,hd,q⟩:=h
  refine⟨_,zv (zA (zQ GI hr (by rfl) T.within kI bI .nil zZ (zc (pv 0) (zc zo (zc (vW (v:=.int 1000000) (by rfl) hl ⟨tl,rfl⟩) zt))))),?_⟩
  exact⟨_,rfl,x,d,_,_,rfl,hd,q⟩
theorem ze8 :zm ["thing"] ["thing"] (zb dM):=⟨rfl,rfl,rfl,by decide +kernel,rfl,by decide +kernel,by decide +kernel⟩
theorem aa {f:Addr}{fd fdP fdD:FuncData}(F:Fun K "is_pair_of_days" "is_pair_of_days" dM f fd)(T:nC mg fW fI fP fD fPD)(GP:zB P w K mg base CX0 1 fP fdP ["thing"] (yG pairD))(kP:PySem.W.keepIn K (.ref fP)=true)(bP:Binds K fdP ["thing"] [])
  (GD:zB P w K mg base CX0 3 fD fdD ["thing"] (yG ub)) (kD:PySem.W.keepIn K (.ref fD)=true) (bD:Binds K fdD ["thing"] []):zB P w K mg base CX0 4 f fd ["thing"] (yG sv):=by
 refine F.ok ze8 (fun vs H Q E h=>?_) (fun cdv A outer s H vs Q E hr h=>?_)
 ·obtain⟨x,d,rfl,_⟩:=h
  rfl
 ·obtain⟨x,d,rfl,hd,q⟩:=h
  have hr1:zP 1 _:=hr.mono (by decide)
  refine⟨_,zv (zA (xi (zQ GP hr1 (by rfl) T.pair kP bP .nil zZ (zc (pv 0) zt))
   (xi (zQ GD hr (by rfl) T.day kD bD .nil zZ (zc (zM yz (pv 0) zo (fun _ _=>rfl)) zt))
   (xM (zQ GD hr (by rfl) T.day kD bD .nil zZ (zc (zM yz (pv 0) zo (fun _ _=>rfl)) zt)))))),?_⟩
  refine⟨_,rfl,x,d,rfl,hd,_,rfl,?_⟩
  refine yv (fun h=>?_) (fun h=>?_)
  ·obtain⟨a,b,rfl⟩:=uJ h
   cases hd with
   |tup e hs=>
    cases hs with
    |cons ha hs=>
     cases hs with
     |cons hb hs=>
      cases hs
      have q':Q (.bl (ub a&&ub b)) H:=q
      refine⟨_,rfl,_,_,0,_,rfl,rfl,SqT.of e,rfl,_,_,rfl,ha,_,rfl,?_⟩
      refine yv (fun h=>?_) (fun h=>?_)
      ·rw[h,zy8] at q'
       exact⟨_,rfl,_,_,1,_,rfl,rfl,SqT.of e,rfl,_,_,rfl,hb,q'⟩
      ·rw[zv3.mpr h,zy9] at q'
       exact q'
  ·have e:sv d=false:=by
    unfold sv
    split
    ·exact absurd rfl h
    ·rfl
   rw[e] at q
   exact q
theorem ju :zm ["thing"] ["thing"] (zb sr):=⟨rfl,rfl,rfl,by decide +kernel,rfl,by decide +kernel,by decide +kernel⟩
theorem lJ {f:Addr}{fd fdP:FuncData}(F:Fun K "is_stretch" "is_stretch" sr f fd)(T:nC mg fW fI fP fD fPD)(G:zB P w K mg base CX0 4 fPD fdP ["thing"] (yG sv))(kP:PySem.W.keepIn K (.ref fPD)=true)(bP:Binds K fdP ["thing"] []):
  zB P w K mg base CX0 5 f fd ["thing"] (yG yj):=by
 refine F.ok ju (fun vs H Q E h=>?_) (fun cdv A outer s H vs Q E hr h=>?_)
 ·obtain⟨x,d,rfl,_⟩:=h
  rfl
 ·obtain⟨x,d,rfl,hd,q⟩:=h
  refine⟨_,zv (zA (xi (zQ G hr (by rfl) T.days kP bP .nil zZ (zc (pv 0) zt))
   (xM (xE rL (zM yz (pv 0) zo (fun _ _=>rfl)) (zM yz (pv 0) zo (fun _ _=>rfl)) (zD _))))),?_⟩
  refine⟨_,rfl,x,d,rfl,hd,_,rfl,?_⟩
  refine yv (fun h=>?_) (fun h=>?_)
  ·obtain⟨a,b,rfl,ef⟩:=lL h
   unfold yj at q
   rw[ef] at q
   have q':Q (.bl (decide (0≤b-a))) H:=q
   have eq1:decide (0≤b-a)=decide (a≤b):=by
    rw[decide_eq_decide]
    omega
   rw[eq1] at q'
   cases hd with
   |tup e hs=>
    cases hs with
    |cons ha hs=>
     cases ha
     cases hs with
     |cons hb hs=>
      cases hb
      cases hs
      exact⟨_,rfl,_,_,0,_,rfl,rfl,SqT.of e,rfl,_,rfl,_,_,1,_,rfl,rfl,SqT.of e,rfl,_,_,rfl,rfl,q'⟩
  ·rw[tK] at h
   unfold yj at q
   cases ef:rF d with
   |some k=>rw[ef] at h;exact absurd rfl h
   |none=>
    rw[ef] at q
    exact q
end
abbrev kN :Stmt:=inClass (top 28) 0
abbrev fX :Stmt:=inClass (top 28) 2
abbrev nV :Stmt:=inClass (top 28) 3
abbrev qL :Stmt:=inClass (top 29) 0
abbrev nW :Stmt:=inClass (top 30) 0
abbrev zh0 :Stmt:=inClass (top 31) 0
abbrev qS :Stmt:=inClass (top 32) 0
abbrev lu :Stmt:=inClass (top 33) 0
abbrev mw :Stmt:=inClass (top 34) 0
abbrev dW :Stmt:=inClass (top 35) 0
abbrev mx :Stmt:=top 37
abbrev pV :Stmt:=top 38
abbrev lM :Stmt:=top 39
abbrev pL :Stmt:=top 40
abbrev dQ :Stmt:=top 41
abbrev pj :Stmt:=top 42
structure mF (mg:Str→Option Value)(fW fI fP fD fPD fS fC fDl fWo fR fM:Addr)(cs:Cs):Prop where
 d:nC mg fW fI fP fD fPD
 coinsMost:∃t,mg "MOST_COINS"=some (.int 1000000000000 t)
 stretch:mg "is_stretch"=some (.ref fS)
 coins:mg "is_coins"=some (.ref fC)
 deal:mg "is_deal"=some (.ref fDl)
 worth:mg "is_worth"=some (.ref fWo)
 rule:mg "is_rule"=some (.ref fR)
 made:mg "made"=some (.ref fM)
 cPrice:mg "Price"=some (.ref cs.price)
 cCome:mg "Come"=some (.ref cs.come)
 cGo:mg "Go"=some (.ref cs.go)
 cLeast:mg "Least"=some (.ref cs.least)
 cMost:mg "Most"=some (.ref cs.most)
 cDeal:mg "Deal"=some (.ref cs.deal)
 cFee:mg "Fee"=some (.ref cs.fee)
section
variable {P:Program}{w:World}{K:PySem.W.Frag}{mg:Str→Option Value}{base:Heap}{fW fI fP fD fPD fS fC fDl fWo fR fM:Addr}{cs:Cs}
theorem zd4 :zm ["self","first","last","worth"] ["self","first","last","worth"] (zb kN):=⟨rfl,rfl,rfl,by decide +kernel,rfl,by decide +kernel,by decide +kernel⟩
theorem wB {f C fT fE fWd:Addr}{fd:FuncData}(F:Fun K "__init__" "Rule.__init__" kN f fd)(R:xN K C f fT fE fWd):zB P w K mg base CX0 1 f fd ["self","first","last","worth"] (zd7 C):=by
 refine F.ok zd4 (fun vs H Q E h=>?_) (fun cdv A outer s H vs Q E hr h=>?_)
 ·obtain⟨p,dx,x,y,z,rfl,_⟩:=h
  rfl
 ·obtain⟨p,dx,x,y,z,rfl,hp,q⟩:=h
  refine⟨_,zV (pE (pv 0) (pv 1) rfl) (zV (pE (pv 0) (pv 2) rfl) (zv (pE (pv 0) (pv 3) rfl))),?_⟩
  refine⟨_,rfl,_,rfl,p,C,dx,[],rfl,hp,R.cl,R.nf,(by show 0<1000;decide),?_⟩
  refine⟨_,rfl,_,rfl,p,C,dx,_,rfl,zi,R.cl,R.nl,(by show 1<1000;decide),?_⟩
  refine⟨_,rfl,_,rfl,p,C,dx,xA "last" y (xA "first" x []),rfl,zi,R.cl,R.nw,?_,?_⟩
  ·show (if ("first":Str)="last" then _ else _:List (Str×V)).length<1000
   rw[if_neg (fun e=>gL e.symm)]
   show 2<1000
   decide
  ·rw[tD,tD]
   exact q
theorem dm :zm ["self"] ["self"] (zb qL):=⟨rfl,rfl,rfl,by decide +kernel,rfl,by decide +kernel,by decide +kernel⟩
theorem bN :zm ["self"] ["self"] (zb nW):=⟨rfl,rfl,rfl,by decide +kernel,rfl,by decide +kernel,by decide +kernel⟩
theorem zm2 :zm ["self"] ["self"] (zb zh0):=⟨rfl,rfl,rfl,by decide +kernel,rfl,by decide +kernel,by decide +kernel⟩
theorem fi :zm ["self"] ["self"] (zb qS):=⟨rfl,rfl,rfl,by decide +kernel,rfl,by decide +kernel,by decide +kernel⟩
theorem bA :zm ["self"] ["self"] (zb lu):=⟨rfl,rfl,rfl,by decide +kernel,rfl,by decide +kernel,by decide +kernel⟩
theorem aq :zm ["self"] ["self"] (zb mw):=⟨rfl,rfl,rfl,by decide +kernel,rfl,by decide +kernel,by decide +kernel⟩
theorem zg5 :zm ["self"] ["self"] (zb dW):=⟨rfl,rfl,rfl,by decide +kernel,rfl,by decide +kernel,by decide +kernel⟩
theorem qw {f:Addr}{fd:FuncData}(F:Fun K "word" "Price.word" qL f fd):zB P w K mg base CX0 1 f fd ["self"] (wz "price"):=by
 refine F.ok dm (fun vs H Q E h=>?_) (fun cdv A outer s H vs Q E hr h=>?_)
 ·obtain⟨p,rfl,_⟩:=h;rfl
 ·obtain⟨p,rfl,q⟩:=h;exact⟨_,zv (zA yf),q⟩
theorem nk {f:Addr}{fd:FuncData}(F:Fun K "word" "Come.word" nW f fd):zB P w K mg base CX0 1 f fd ["self"] (wz "come"):=by
 refine F.ok bN (fun vs H Q E h=>?_) (fun cdv A outer s H vs Q E hr h=>?_)
 ·obtain⟨p,rfl,_⟩:=h;rfl
 ·obtain⟨p,rfl,q⟩:=h;exact⟨_,zv (zA yf),q⟩
theorem hJ {f:Addr}{fd:FuncData}(F:Fun K "word" "Go.word" zh0 f fd):zB P w K mg base CX0 1 f fd ["self"] (wz "go"):=by
 refine F.ok zm2 (fun vs H Q E h=>?_) (fun cdv A outer s H vs Q E hr h=>?_)
 ·obtain⟨p,rfl,_⟩:=h;rfl
 ·obtain⟨p,rfl,q⟩:=h;exact⟨_,zv (zA yf),q⟩
theorem qx {f:Addr}{fd:FuncData}(F:Fun K "word" "Least.word" qS f fd):zB P w K mg base CX0 1 f fd ["self"] (wz "least"):=by
 refine F.ok fi (fun vs H Q E h=>?_) (fun cdv A outer s H vs Q E hr h=>?_)
 ·obtain⟨p,rfl,_⟩:=h;rfl
 ·obtain⟨p,rfl,q⟩:=h;exact⟨_,zv (zA yf),q⟩
theorem om {f:Addr}{fd:FuncData}(F:Fun K "word" "Most.word" lu f fd):zB P w K mg base CX0 1 f fd ["self"] (wz "most"):=by
 refine F.ok bA (fun vs H Q E h=>?_) (fun cdv A outer s H vs Q E hr h=>?_)
 ·obtain⟨p,rfl,_⟩:=h;rfl
 ·obtain⟨p,rfl,q⟩:=h;exact⟨_,zv (zA yf),q⟩
theorem pX {f:Addr}{fd:FuncData}(F:Fun K "word" "Deal.word" mw f fd):zB P w K mg base CX0 1 f fd ["self"] (wz "deal"):=by
 refine F.ok aq (fun vs H Q E h=>?_) (fun cdv A outer s H vs Q E hr h=>?_)
 ·obtain⟨p,rfl,_⟩:=h;rfl
 ·obtain⟨p,rfl,q⟩:=h;exact⟨_,zv (zA yf),q⟩
theorem kA {f:Addr}{fd:FuncData}(F:Fun K "word" "Fee.word" dW f fd):zB P w K mg base CX0 1 f fd ["self"] (wz "fee"):=by
 refine F.ok zg5 (fun vs H Q E h=>?_) (fun cdv A outer s H vs Q E hr h=>?_)
 ·obtain⟨p,rfl,_⟩:=h;rfl
 ·obtain⟨p,rfl,q⟩:=h;exact⟨_,zv (zA yf),q⟩
theorem zd2 :zm ["self"] ["self"] (zb fX):=⟨rfl,rfl,rfl,by decide +kernel,rfl,by decide +kernel,by decide +kernel⟩
theorem cH (x y z:V):(wK x y z).lookup ("word":Str)=none:=aI x y z (by decide +kernel) (by decide +kernel) (by decide +kernel)
theorem wq {f C fIn fE fWd:Addr}{fd fdW:FuncData}{wd:Str}(F:Fun K "told" "Rule.told" fX f fd)(R:xN K C fIn f fE fWd)(GW:zB P w K mg base CX0 1 fWd fdW ["self"] (wz wd))(bW:Binds K fdW ["self"] []):
  zB P w K mg base CX0 2 f fd ["self"] (dn C wd):=by
 refine F.ok zd2 (fun vs H Q E h=>?_) (fun cdv A outer s H vs Q E hr h=>?_)
 ·obtain⟨p,dx,x,y,z,rfl,_⟩:=h
  rfl
 ·obtain⟨p,dx,x,y,z,rfl,hp,q⟩:=h
  refine⟨_,zv (zA (qQ (zc (nq (pv 0) R.cl R.word GW hr bW .nil zZ) (zc (uA (pv 0) rfl) (zc (uA (pv 0) rfl) (zc (uA (pv 0) rfl) zt)))))),?_⟩
  refine⟨_,rfl,p,dx,_,rfl,hp,cH _ _ _,p,rfl,?_⟩
  exact⟨_,rfl,p,C,dx,_,_,rfl,hp,R.cl,R.nf,rg _ _ _,_,rfl,p,C,dx,_,_,rfl,hp,R.cl,R.nl,rG _ _ _,_,rfl,p,C,dx,_,_,rfl,hp,R.cl,R.nw,mz _ _ _,(by show 4≤sizeLine;decide),q⟩
theorem af :zm ["self","day"] ["self","day"] (zb nV):=⟨rfl,rfl,rfl,by decide +kernel,rfl,by decide +kernel,by decide +kernel⟩
theorem xy {f C fIn fT fWd:Addr}{fd:FuncData}(F:Fun K "tells" "Rule.tells" nV f fd)(R:xN K C fIn fT f fWd):zB P w K mg base CX0 1 f fd ["self","day"] (ki C):=by
 refine F.ok af (fun vs H Q E h=>?_) (fun cdv A outer s H vs Q E hr h=>?_)
 ·obtain⟨p,dx,a,b,day,z,rfl,_⟩:=h
  rfl
 ·obtain⟨p,dx,a,b,day,z,rfl,hp,q⟩:=h
  refine⟨_,zv (zA (nQ rL rL (uA (pv 0) rfl) (pv 1) (uA (pv 0) rfl))),?_⟩
  refine⟨_,rfl,p,C,dx,_,_,rfl,hp,R.cl,R.nf,rg _ _ _,_,rfl,_,_,rfl,rfl,_,rfl,?_⟩
  refine yv (fun h=>?_) (fun h=>?_)
  ·rw[h,zy8] at q
   exact⟨_,rfl,p,C,dx,_,_,rfl,hp,R.cl,R.nl,rG _ _ _,_,_,rfl,rfl,q⟩
  ·rw[zv3.mpr h,zy9] at q
   exact q
theorem cy :zm ["thing"] ["thing"] (zb mx):=⟨rfl,rfl,rfl,by decide +kernel,rfl,by decide +kernel,by decide +kernel⟩
theorem eu {f:Addr}{fd fdI:FuncData}(F:Fun K "is_coins" "is_coins" mx f fd)(T:mF mg fW fI fP fD fPD fS fC fDl fWo fR fM cs)(GI:zB P w K mg base CX0 2 fI fdI ["thing","lowest","highest"] vd)(kI:PySem.W.keepIn K (.ref fI)=true)(bI:Binds K fdI ["thing","lowest","highest"] []):
  zB P w K mg base CX0 3 f fd ["thing"] (yG vj):=by
 obtain⟨tl,hl⟩:=T.coinsMost
 refine F.ok cy (fun vs H Q E h=>?_) (fun cdv A outer s H vs Q E hr h=>?_)
 ·obtain⟨x,d,rfl,_⟩:=h
  rfl
 ·obtain⟨x,d,rfl,hd,q⟩:=h
  refine⟨_,zv (zA (zQ GI hr (by rfl) T.d.within kI bI .nil zZ (zc (pv 0) (zc zo (zc (vW (v:=.int 1000000000000) (by rfl) hl ⟨tl,rfl⟩) zt))))),?_⟩
  exact⟨_,rfl,x,d,_,_,rfl,hd,q⟩
theorem du :zm ["thing"] ["thing"] (zb pV):=⟨rfl,rfl,rfl,by decide +kernel,rfl,by decide +kernel,by decide +kernel⟩
theorem jJ {f:Addr}{fd fdI fdP:FuncData}(F:Fun K "is_deal" "is_deal" pV f fd)(T:mF mg fW fI fP fD fPD fS fC fDl fWo fR fM cs)(GI:zB P w K mg base CX0 2 fI fdI ["thing","lowest","highest"] vd)(kI:PySem.W.keepIn K (.ref fI)=true)(bI:Binds K fdI ["thing","lowest","highest"] [])
  (GP:zB P w K mg base CX0 1 fP fdP ["thing"] (yG pairD)) (kP:PySem.W.keepIn K (.ref fP)=true) (bP:Binds K fdP ["thing"] []):zB P w K mg base CX0 3 f fd ["thing"] (yG vX):=by
 obtain⟨tm,hm⟩:=T.d.most
 refine F.ok du (fun vs H Q E h=>?_) (fun cdv A outer s H vs Q E hr h=>?_)
 ·obtain⟨x,d,rfl,_⟩:=h
  rfl
 ·obtain⟨x,d,rfl,hd,q⟩:=h
  have hr1:zP 1 _:=hr.mono (by decide)
  refine⟨_,zv (zA (xi (zQ GP hr1 (by rfl) T.d.pair kP bP .nil zZ (zc (pv 0) zt))
   (xi (zQ GI hr (by rfl) T.d.within kI bI .nil zZ (zc (zM yz (pv 0) zo (fun _ _=>rfl)) (zc zo (zc (vW (v:=.int 14) (by rfl) hm ⟨tm,rfl⟩) zt))))
   (xM (zQ GI hr (by rfl) T.d.within kI bI .nil zZ (zc (zM yz (pv 0) zo (fun _ _=>rfl)) (zc zo (zc (yo cc (zM yz (pv 0) zo (fun _ _=>rfl)) zo) zt)))))))),?_⟩
  refine⟨_,rfl,x,d,rfl,hd,_,rfl,?_⟩
  refine yv (fun h=>?_) (fun h=>?_)
  ·obtain⟨a,b,rfl⟩:=uJ h
   cases hd with
   |tup e hs=>
    cases hs with
    |cons ha hs=>
     cases hs with
     |cons hb hs=>
      cases hs
      refine⟨_,rfl,_,_,0,_,rfl,rfl,SqT.of e,rfl,_,_,_,_,rfl,ha,_,rfl,?_⟩
      cases ha with
      |int m=>
       have q':Q (.bl (zW 2 14 (.int m)&&zW 1 (m-1) b)) H:=q
       refine yv (fun h=>?_) (fun h=>?_)
       ·rw[h,zy8] at q'
        exact⟨_,rfl,_,_,1,_,rfl,rfl,SqT.of e,rfl,_,rfl,_,_,0,_,rfl,rfl,SqT.of e,rfl,_,_,rfl,rfl,_,_,_,_,rfl,hb,q'⟩
       ·rw[zv3.mpr h,zy9] at q'
        exact q'
      |_=>exact rB q
  ·have e:vX d=false:=by
    unfold vX
    split
    ·exact absurd rfl h
    ·rfl
   rw[e] at q
   exact q
theorem ar :zm ["word","thing"] ["word","thing"] (zb lM):=⟨rfl,rfl,rfl,by decide +kernel,rfl,by decide +kernel,by decide +kernel⟩
theorem ff {f:Addr}{fd fdI fdC fdDl:FuncData}(F:Fun K "is_worth" "is_worth" lM f fd)(T:mF mg fW fI fP fD fPD fS fC fDl fWo fR fM cs)(GI:zB P w K mg base CX0 2 fI fdI ["thing","lowest","highest"] vd)(kI:PySem.W.keepIn K (.ref fI)=true)(bI:Binds K fdI ["thing","lowest","highest"] [])
  (GC:zB P w K mg base CX0 3 fC fdC ["thing"] (yG vj)) (kC:PySem.W.keepIn K (.ref fC)=true) (bC:Binds K fdC ["thing"] []) (GDl:zB P w K mg base CX0 3 fDl fdDl ["thing"] (yG vX)) (kDl:PySem.W.keepIn K (.ref fDl)=true) (bDl:Binds K fdDl ["thing"] []):
  zB P w K mg base CX0 4 f fd ["word","thing"] kx:=by
 obtain⟨tm,hm⟩:=T.d.most
 refine F.ok ar (fun vs H Q E h=>?_) (fun cdv A outer s H vs Q E hr h=>?_)
 ·obtain⟨x,y,dw,dv,rfl,_⟩:=h
  rfl
 ·obtain⟨x,y,dw,dv,rfl,hx,sw,hy,q⟩:=h
  have hr2:zP 2 _:=hr.mono (by decide)
  have hu:=hr.units
  have st:∀{z:Str},z∈words→SeqAt.shaped (.str z)=true:=fun {z} hz=>me (by
   simp only[words,zs8,zt5,zv2] at hz
   rcases hz with rfl|rfl|rfl|rfl|rfl|rfl|rfl<;>decide +kernel)
  unfold zz at q
  -- if word == 'price'
  refine zU (fun σ H1=>σ=[some x,some y]∧eqS dw "price"=false∧H=H1)
   ⟨_,xI (yb (wW hu) (pv 0) yf (zD _)) (zv (zA (aS (xE lA (pv 1) pT (zD _)) (xM (zQ GC hr (by rfl) T.coins kC bC .nil zZ (zc (pv 1) zt)))))) yu,?_⟩ ?_
  ·refine⟨_,rfl,dw,.str "price",hx,.str _,sw,st (by simp[words]),_,rfl,?_⟩
   refine yv (fun h=>?_) (fun h=>⟨rfl,zv3.mpr h,rfl⟩)
   rw[if_pos h] at q
   refine⟨_,rfl,rfl,_,rfl,?_⟩
   rw[hy.non_iff]
   refine yv (fun h2=>?_) (fun h2=>?_)
   ·rw[h2,Bool.true_or] at q
    exact q
   ·rw[zv3.mpr h2,zH4] at q
    exact⟨_,rfl,y,dv,rfl,hy,q⟩
  rintro σ H1 ⟨rfl,e1,rfl⟩
  rw[e1,if_neg zu2] at q
  -- if word == 'come' or word == 'go'
  refine zU (fun σ H1=>σ=[some x,some y]∧(eqS dw "come"||eqS dw "go")=false∧H=H1)
   ⟨_,xI (PW.pt (dY (yb (wW hu) (pv 0) yf (zD _)) (ml (yb (wW hu) (pv 0) yf (zD _))))) (zv (zA (ya xY (by rfl) T.d.isi zD9 (zc (pv 1) (zc (um (v:=.ty "bool") (by rfl) T.d.bool boot_bool rfl) zt))))) yu,?_⟩ ?_
  ·refine⟨_,rfl,dw,.str "come",hx,.str _,sw,st (by simp[words]),_,rfl,?_⟩
   refine yv (fun h=>?_) (fun h=>?_)
   ·have h':eqS dw "come"=true:=h
    rw[h',Bool.true_or,if_pos rfl] at q
    exact su ⟨_,rfl,y,"bool",dv,_,rfl,hy,sQ dv,q⟩
   ·have h':eqS dw "come"=false:=zv3.mpr h
    refine⟨_,rfl,dw,.str "go",hx,.str _,sw,st (by simp[words]),_,rfl,?_⟩
    refine yv (fun h2=>?_) (fun h2=>?_)
    ·have h2':eqS dw "go"=true:=h2
     rw[h',h2',zH4,if_pos rfl] at q
     exact⟨_,rfl,y,"bool",dv,_,rfl,hy,sQ dv,q⟩
    ·have h2':eqS dw "go"=false:=zv3.mpr h2
     exact⟨rfl,by rw[h',h2'];rfl,rfl⟩
  rintro σ H1 ⟨rfl,e2,rfl⟩
  rw[e2,if_neg zu2] at q
  -- if word == 'least' or word == 'most'
  refine zU (fun σ H1=>σ=[some x,some y]∧(eqS dw "least"||eqS dw "most")=false∧H=H1)
   ⟨_,xI (PW.pt (dY (yb (wW hu) (pv 0) yf (zD _)) (ml (yb (wW hu) (pv 0) yf (zD _))))) (zv (zA (zQ GI hr2 (by rfl) T.d.within kI bI .nil zZ (zc (pv 1) (zc zo (zc (vW (v:=.int 14) (by rfl) hm ⟨tm,rfl⟩) zt)))))) yu,?_⟩ ?_
  ·refine⟨_,rfl,dw,.str "least",hx,.str _,sw,st (by simp[words]),_,rfl,?_⟩
   refine yv (fun h=>?_) (fun h=>?_)
   ·have h':eqS dw "least"=true:=h
    rw[h',Bool.true_or,if_pos rfl] at q
    exact su ⟨_,rfl,y,dv,_,_,rfl,hy,q⟩
   ·have h':eqS dw "least"=false:=zv3.mpr h
    refine⟨_,rfl,dw,.str "most",hx,.str _,sw,st (by simp[words]),_,rfl,?_⟩
    refine yv (fun h2=>?_) (fun h2=>?_)
    ·have h2':eqS dw "most"=true:=h2
     rw[h',h2',zH4,if_pos rfl] at q
     exact⟨_,rfl,y,dv,_,_,rfl,hy,q⟩
    ·have h2':eqS dw "most"=false:=zv3.mpr h2
     exact⟨rfl,by rw[h',h2'];rfl,rfl⟩
  rintro σ H1 ⟨rfl,e3,rfl⟩
  rw[e3,if_neg zu2] at q
  -- if word == 'deal'
  refine zU (fun σ H1=>σ=[some x,some y]∧eqS dw "deal"=false∧H=H1)
   ⟨_,xI (yb (wW hu) (pv 0) yf (zD _)) (zv (zA (aS (xE lA (pv 1) pT (zD _)) (xM (zQ GDl hr (by rfl) T.deal kDl bDl .nil zZ (zc (pv 1) zt)))))) yu,?_⟩ ?_
  ·refine⟨_,rfl,dw,.str "deal",hx,.str _,sw,st (by simp[words]),_,rfl,?_⟩
   refine yv (fun h=>?_) (fun h=>⟨rfl,zv3.mpr h,rfl⟩)
   rw[if_pos h] at q
   refine⟨_,rfl,rfl,_,rfl,?_⟩
   rw[hy.non_iff]
   refine yv (fun h2=>?_) (fun h2=>?_)
   ·rw[h2,Bool.true_or] at q
    exact q
   ·rw[zv3.mpr h2,zH4] at q
    exact⟨_,rfl,y,dv,rfl,hy,q⟩
  rintro σ H1 ⟨rfl,e4,rfl⟩
  rw[e4,if_neg zu2] at q
  refine⟨_,zv (zA (xi (xE (wW hu) (pv 0) yf (zD _)) (xM (zQ GC hr (by rfl) T.coins kC bC .nil zZ (zc (pv 1) zt))))),?_⟩
  refine⟨_,rfl,dw,.str "fee",hx,.str _,sw,st (by simp[words]),_,rfl,?_⟩
  refine yv (fun h=>?_) (fun h=>?_)
  ·have h':eqS dw "fee"=true:=h
   rw[h',zy8] at q
   exact⟨_,rfl,y,dv,rfl,hy,q⟩
  ·have h':eqS dw "fee"=false:=zv3.mpr h
   rw[h',zy9] at q
   exact q
theorem dZ :zm ["thing"] ["thing"] (zb pL):=⟨rfl,rfl,rfl,by decide +kernel,rfl,by decide +kernel,by decide +kernel⟩
theorem ig {f:Addr}{fd fdS fdWo:FuncData}(F:Fun K "is_rule" "is_rule" pL f fd)(T:mF mg fW fI fP fD fPD fS fC fDl fWo fR fM cs)(GS:zB P w K mg base CX0 5 fS fdS ["thing"] (yG yj))(kS:PySem.W.keepIn K (.ref fS)=true)(bS:Binds K fdS ["thing"] [])
  (GW:zB P w K mg base CX0 4 fWo fdWo ["word","thing"] kx) (kW:PySem.W.keepIn K (.ref fWo)=true) (bW:Binds K fdWo ["word","thing"] []):zB P w K mg base CX0 6 f fd ["thing"] dD:=by
 refine F.ok dZ (fun vs H Q E h=>?_) (fun cdv A outer s H vs Q E hr h=>?_)
 ·obtain⟨x,d,rfl,_⟩:=h
  rfl
 ·obtain⟨x,d,rfl,hd,sd,q⟩:=h
  have hr4:zP 4 _:=hr.mono (by decide)
  refine⟨_,zv (zA (xi (ya xY (by rfl) T.d.isi zD9 (zc (pv 0) (zc (um (v:=.ty "tuple") (by rfl) T.d.tuple boot_tuple rfl) zt)))
   (xi (xE wG (ya ym (by rfl) T.d.len zA8 (zc (pv 0) zt)) zo (zD _))
   (xi (zQ GS hr (by rfl) T.stretch kS bS .nil zZ (zc (qQ (zc (zM yz (pv 0) zo (fun _ _=>rfl)) (zc (zM yz (pv 0) zo (fun _ _=>rfl)) zt))) zt))
   (xM (zQ GW hr4 (by rfl) T.worth kW bW .nil zZ (zc (zM yz (pv 0) zo (fun _ _=>rfl)) (zc (zM yz (pv 0) zo (fun _ _=>rfl)) zt)))))))),?_⟩
  refine⟨_,rfl,x,"tuple",d,_,rfl,hd,rN d,_,rfl,?_⟩
  cases hd with
  |@tup a xs ds e hs=>
   refine su ⟨_,rfl,a,_,rfl,.inr (SqT.of e),rfl,_,rfl,?_⟩
   cases hs with
   |nil=>exact yv (fun h=>absurd h (by simp)) (fun _=>q H (zy.refl H))
   |@cons xw _ dw _ hw hs=>
   cases hs with
   |nil=>exact yv (fun h=>absurd h (by simp)) (fun _=>q H (zy.refl H))
   |@cons xa _ da _ ha hs=>
   cases hs with
   |nil=>exact yv (fun h=>absurd h (by simp)) (fun _=>q H (zy.refl H))
   |@cons xb _ db _ hb hs=>
   cases hs with
   |nil=>exact yv (fun h=>absurd h (by simp)) (fun _=>q H (zy.refl H))
   |@cons xv _ dv _ hv hs=>
   cases hs with
   |cons _ _=>exact yv (fun h=>absurd h (by simp;omega)) (fun _=>q H (zy.refl H))
   |nil=>
    refine yv (fun _=>?_) (fun h=>absurd rfl h)
    refine⟨_,rfl,a,_,1,_,rfl,rfl,SqT.of e,rfl,_,rfl,a,_,2,_,rfl,rfl,SqT.of e,rfl,(by show 2≤sizeLine;decide),fun p hp=>?_⟩
    have s1:zy H (upd H p (.tup [xa,xb])):=yw hp
    refine⟨_,.tuple [da,db],rfl,.tup zi (.cons (ha.same s1) (.cons (hb.same s1) .nil)),_,rfl,?_⟩
    have q':Q (.bl (yj (.tuple [da,db])&&zz dw dv)) (upd H p (.tup [xa,xb])):=q _ s1
    refine yv (fun h=>?_) (fun h=>?_)
    ·rw[h,zy8] at q'
     exact⟨_,rfl,a,_,0,_,rfl,rfl,SqT.of (s1 _ _ e),rfl,_,rfl,a,_,3,_,rfl,rfl,SqT.of (s1 _ _ e),rfl,_,_,_,_,rfl,hw.same s1,qF sd dw (by simp),hv.same s1,q'⟩
    ·rw[zv3.mpr h,zy9] at q'
     exact q'
  |_=>exact rB (q H (zy.refl H))
end
section
variable {P:Program}{w:World}{K:PySem.W.Frag}{mg:Str→Option Value}{base:Heap}{fW fI fP fD fPD fS fC fDl fWo fR fM:Addr}{cs:Cs}
structure fU (K:PySem.W.Frag)(cs:Cs)(fIn fTo fTe w1 w2 w3 w4 w5 w6 w7:Addr):Prop where
 price:xN K cs.price fIn fTo fTe w1
 come:xN K cs.come fIn fTo fTe w2
 go:xN K cs.go fIn fTo fTe w3
 least:xN K cs.least fIn fTo fTe w4
 most:xN K cs.most fIn fTo fTe w5
 deal:xN K cs.deal fIn fTo fTe w6
 fee:xN K cs.fee fIn fTo fTe w7
theorem ve (cs:Cs):cs.of "price"=cs.price:=by unfold Cs.of;rw[if_pos rfl]
theorem ui (cs:Cs):cs.of "come"=cs.come:=by unfold Cs.of;rw[if_neg (by decide +kernel),if_pos rfl]
theorem oE (cs:Cs):cs.of "go"=cs.go:=by unfold Cs.of;rw[if_neg (by decide +kernel),if_neg (by decide +kernel),if_pos rfl]
theorem vb (cs:Cs):cs.of "least"=cs.least:=by unfold Cs.of;rw[if_neg (by decide +kernel),if_neg (by decide +kernel),if_neg (by decide +kernel),if_pos rfl]
theorem ue (cs:Cs):cs.of "most"=cs.most:=by unfold Cs.of;rw[if_neg (by decide +kernel),if_neg (by decide +kernel),if_neg (by decide +kernel),if_neg (by decide +kernel),if_pos rfl]
theorem uc (cs:Cs):cs.of "deal"=cs.deal:=by unfold Cs.of;rw[if_neg (by decide +kernel),if_neg (by decide +kernel),if_neg (by decide +kernel),if_neg (by decide +kernel),if_neg (by decide +kernel),if_pos rfl]
theorem sE (cs:Cs):cs.of "fee"=cs.fee:=by unfold Cs.of;rw[if_neg (by decide +kernel),if_neg (by decide +kernel),if_neg (by decide +kernel),if_neg (by decide +kernel),if_neg (by decide +kernel),if_neg (by decide +kernel)]
theorem uD {x y:Str}(h:decide (V.str x=V.str y)=true):x=y:=by
 have:=zz5 h
 injection this
theorem ur {x y:Str}(h:¬decide (V.str x=V.str y)=true):x≠y:=fun e=>h (by rw[e];exact zy0 rfl)
theorem xo {C p dx:Addr}{H:Hp}{x y z:V}{Q:VK}(k:∀(p dx:Addr) (H':Hp),H' p=some (.ins C dx (wK x y z))→H p=none→zy H H'→Q (.ref p) H')(hp:H p=none)(hx:H dx=none)(n:dx≠p):
  Q (.ref p) (upd (upd (upd H dx (.own p)) p (.ins C dx [])) p (.ins C dx (wK x y z))):=by
 refine k p dx _ zi hp fun a o e=>?_
 rw[tD,zg (zk e hp),zg (zk e hx)]
 exact e
theorem zh8 :zm ["word","first","last","worth"] ["word","first","last","worth"] (zb dQ):=⟨rfl,rfl,rfl,by decide +kernel,rfl,by decide +kernel,by decide +kernel⟩
set_option maxHeartbeats 4000000 in
theorem cz {f fIn fTo fTe w1 w2 w3 w4 w5 w6 w7:Addr}{fd fdIn:FuncData}(F:Fun K "made" "made" dQ f fd)(T:mF mg fW fI fP fD fPD fS fC fDl fWo fR fM cs)(A7:fU K cs fIn fTo fTe w1 w2 w3 w4 w5 w6 w7)
  (FI:Fun K "__init__" "Rule.__init__" kN fIn fdIn) (bI:Binds K fdIn ["self","first","last","worth"] []):zB P w K mg base CX0 3 f fd ["word","first","last","worth"] (fG cs):=by
 refine F.ok zh8 (fun vs H Q E h=>?_) (fun cdv A outer s H vs Q E hr h=>?_)
 ·obtain⟨wd,x,y,z,rfl,_⟩:=h
  rfl
 ·obtain⟨wd,x,y,z,rfl,hw,k⟩:=h
  refine zU (fun σ H1=>σ=[some (.str wd),some x,some y,some z]∧wd≠"price"∧H=H1)
   ⟨_,xI (yb wG (pv 0) yf (zD _)) (zv (zA (xK A7.price.makes (wB FI A7.price) hr (by rfl) T.cPrice bI .nil zZ (zc (pv 1) (zc (pv 2) (zc (pv 3) zt)))))) yu,?_⟩ ?_
  ·refine⟨_,rfl,rfl,_,rfl,yv (fun h=>?_) (fun h=>⟨rfl,ur h,rfl⟩)⟩
   rw[uD h,ve] at k
   exact⟨_,rfl,_,rfl,_,rfl,fun p dx hp hx n=>⟨p,dx,_,_,_,rfl,zi,rfl,xo k hp hx n⟩⟩
  rintro σ H1 ⟨rfl,n1,rfl⟩
  refine zU (fun σ H1=>σ=[some (.str wd),some x,some y,some z]∧wd≠"come"∧H=H1)
   ⟨_,xI (yb wG (pv 0) yf (zD _)) (zv (zA (xK A7.come.makes (wB FI A7.come) hr (by rfl) T.cCome bI .nil zZ (zc (pv 1) (zc (pv 2) (zc (pv 3) zt)))))) yu,?_⟩ ?_
  ·refine⟨_,rfl,rfl,_,rfl,yv (fun h=>?_) (fun h=>⟨rfl,ur h,rfl⟩)⟩
   rw[uD h,ui] at k
   exact⟨_,rfl,_,rfl,_,rfl,fun p dx hp hx n=>⟨p,dx,_,_,_,rfl,zi,rfl,xo k hp hx n⟩⟩
  rintro σ H1 ⟨rfl,n2,rfl⟩
  refine zU (fun σ H1=>σ=[some (.str wd),some x,some y,some z]∧wd≠"go"∧H=H1)
   ⟨_,xI (yb wG (pv 0) yf (zD _)) (zv (zA (xK A7.go.makes (wB FI A7.go) hr (by rfl) T.cGo bI .nil zZ (zc (pv 1) (zc (pv 2) (zc (pv 3) zt)))))) yu,?_⟩ ?_
  ·refine⟨_,rfl,rfl,_,rfl,yv (fun h=>?_) (fun h=>⟨rfl,ur h,rfl⟩)⟩
   rw[uD h,oE] at k
   exact⟨_,rfl,_,rfl,_,rfl,fun p dx hp hx n=>⟨p,dx,_,_,_,rfl,zi,rfl,xo k hp hx n⟩⟩
  rintro σ H1 ⟨rfl,n3,rfl⟩
  refine zU (fun σ H1=>σ=[some (.str wd),some x,some y,some z]∧wd≠"least"∧H=H1)
   ⟨_,xI (yb wG (pv 0) yf (zD _)) (zv (zA (xK A7.least.makes (wB FI A7.least) hr (by rfl) T.cLeast bI .nil zZ (zc (pv 1) (zc (pv 2) (zc (pv 3) zt)))))) yu,?_⟩ ?_
  ·refine⟨_,rfl,rfl,_,rfl,yv (fun h=>?_) (fun h=>⟨rfl,ur h,rfl⟩)⟩
   rw[uD h,vb] at k
   exact⟨_,rfl,_,rfl,_,rfl,fun p dx hp hx n=>⟨p,dx,_,_,_,rfl,zi,rfl,xo k hp hx n⟩⟩
  rintro σ H1 ⟨rfl,n4,rfl⟩
  refine zU (fun σ H1=>σ=[some (.str wd),some x,some y,some z]∧wd≠"most"∧H=H1)
   ⟨_,xI (yb wG (pv 0) yf (zD _)) (zv (zA (xK A7.most.makes (wB FI A7.most) hr (by rfl) T.cMost bI .nil zZ (zc (pv 1) (zc (pv 2) (zc (pv 3) zt)))))) yu,?_⟩ ?_
  ·refine⟨_,rfl,rfl,_,rfl,yv (fun h=>?_) (fun h=>⟨rfl,ur h,rfl⟩)⟩
   rw[uD h,ue] at k
   exact⟨_,rfl,_,rfl,_,rfl,fun p dx hp hx n=>⟨p,dx,_,_,_,rfl,zi,rfl,xo k hp hx n⟩⟩
  rintro σ H1 ⟨rfl,n5,rfl⟩
  refine zU (fun σ H1=>σ=[some (.str wd),some x,some y,some z]∧wd≠"deal"∧H=H1)
   ⟨_,xI (yb wG (pv 0) yf (zD _)) (zv (zA (xK A7.deal.makes (wB FI A7.deal) hr (by rfl) T.cDeal bI .nil zZ (zc (pv 1) (zc (pv 2) (zc (pv 3) zt)))))) yu,?_⟩ ?_
  ·refine⟨_,rfl,rfl,_,rfl,yv (fun h=>?_) (fun h=>⟨rfl,ur h,rfl⟩)⟩
   rw[uD h,uc] at k
   exact⟨_,rfl,_,rfl,_,rfl,fun p dx hp hx n=>⟨p,dx,_,_,_,rfl,zi,rfl,xo k hp hx n⟩⟩
  rintro σ H1 ⟨rfl,n6,rfl⟩
  have e7:wd="fee":=by
   simp only[words,zs8,zt5,zv2] at hw
   rcases hw with e|e|e|e|e|e|e
   ·exact absurd e n1
   ·exact absurd e n2
   ·exact absurd e n3
   ·exact absurd e n4
   ·exact absurd e n5
   ·exact absurd e n6
   ·exact e
  rw[e7,sE] at k
  refine⟨_,zv (zA (xK A7.fee.makes (wB FI A7.fee) hr (by rfl) T.cFee bI .nil zZ (zc (pv 1) (zc (pv 2) (zc (pv 3) zt))))),?_⟩
  exact⟨_,rfl,_,rfl,_,rfl,fun p dx hp hx n=>⟨p,dx,_,_,_,rfl,zi,rfl,xo k hp hx n⟩⟩
theorem fk :zm ["thing"] ["thing"] (zb pj):=⟨rfl,rfl,rfl,by decide +kernel,rfl,by decide +kernel,by decide +kernel⟩
theorem jx {f:Addr}{fd fdR fdM:FuncData}(F:Fun K "rule_of" "rule_of" pj f fd)(T:mF mg fW fI fP fD fPD fS fC fDl fWo fR fM cs)(GR:zB P w K mg base CX0 6 fR fdR ["thing"] dD)(kR:PySem.W.keepIn K (.ref fR)=true)(bR:Binds K fdR ["thing"] [])
  (GM:zB P w K mg base CX0 3 fM fdM ["word","first","last","worth"] (fG cs)) (kM:PySem.W.keepIn K (.ref fM)=true) (bM:Binds K fdM ["word","first","last","worth"] []):zB P w K mg base CX0 7 f fd ["thing"] (oB cs):=by
 refine F.ok fk (fun vs H Q E h=>?_) (fun cdv A outer s H vs Q E hr h=>?_)
 ·obtain⟨x,d,rfl,_⟩:=h
  rfl
 ·obtain⟨x,d,rfl,hd,sd,k0,k1⟩:=h
  have hr3:zP 3 _:=hr.mono (by decide)
  refine zU (fun σ H1=>σ=[some x]∧yM d=true∧zy H H1)
   ⟨_,xI (iU (fe (zQ GR hr (by rfl) T.rule kR bR .nil zZ (zc (pv 0) zt)))) (zv (zA pT)) yu,?_⟩ ?_
  ·refine⟨_,rfl,x,d,rfl,hd,sd,fun H1 s1=>⟨_,rfl,?_⟩⟩
   refine yv (fun h=>?_) (fun h=>?_)
   ·exact k0 (by simpa using h) H1 s1
   ·exact⟨rfl,by simpa using h,s1⟩
  rintro σ H1 ⟨rfl,er,s1⟩
  obtain⟨sw,da,db,dv,hsw,rfl⟩:=xG er
  cases hd with
  |@tup r xs ds e hs=>
   cases hs with
   |@cons xw _ _ _ hw hs=>
    cases hw
    cases hs with
    |@cons xa _ _ _ ha hs=>
     cases hs with
     |@cons xb _ _ _ hb hs=>
      cases hs with
      |@cons xv _ _ _ hv hs=>
       cases hs
       have e1:=s1 _ _ e
       refine⟨_,zv (zA (zQ GM hr3 (by rfl) T.made kM bM .nil zZ (zc (zM yz (pv 0) zo (fun _ _=>rfl)) (zc (zM yz (pv 0) zo (fun _ _=>rfl)) (zc (zM yz (pv 0) zo (fun _ _=>rfl)) (zc (zM yz (pv 0) zo (fun _ _=>rfl)) zt)))))),?_⟩
       refine⟨_,rfl,r,_,0,_,rfl,rfl,SqT.of e1,rfl,_,rfl,r,_,1,_,rfl,rfl,SqT.of e1,rfl,_,rfl,r,_,2,_,rfl,rfl,SqT.of e1,rfl,_,rfl,r,_,3,_,rfl,rfl,SqT.of e1,rfl,sw,_,_,_,rfl,hsw,fun p dx H2 h2 hp s2=>?_⟩
       exact k1 r sw xa xb xv p dx H2 rfl er hsw e h2 (s1.free hp) (s1.trans s2)
end
abbrev hU :Stmt:=top 46
abbrev xl :Stmt:=inClass (top 45) 0
abbrev vA :Stmt:=inClass (top 45) 1
def sL (C:Addr)(a b v:PyData):PyData:=wN C [(.str "first",a),(.str "last",b),(.str "worth",v)]
def uP (cs:Cs):PyData→PyData
 |.tuple [.str w,a,b,v]=>sL (cs.of w) a b v
 |_=>.none
def yC (C:Addr)(cs:Cs)(ds:List PyData):PyData:=wN C [(.str "kept",.list (ds.map (uP cs)))]
def Rules (ds:List PyData):Prop:=∀d∈ds,yM d=true∧SeqAt.shaped d=true∧d.hasDict=false
def tG (cs:Cs):List A→(A→Prop)→Prop:=fun as Q=>∃d,as=[.dat d]∧d.hasDict=false∧SeqAt.shaped d=true∧(yM d=false→Q (.dat .none))∧(yM d=true→Q (.dat (uP cs d)))
def mD (cs:Cs):List A→(A→Prop)→Prop:=fun as Q=>∃ds,as=[.dat (.list ds)]∧Rules ds∧ds.length≤24∧Q (.own (ds.map (uP cs)))
def sU (C:Addr)(cs:Cs):List A→(A→Prop)→Prop:=fun as Q=>∃ds,(as=[.dat (.list ds)]∨(as=[.dat .none]∧ds=[]))∧Rules ds∧ds.length≤24∧Q (.dat (yC C cs ds))
def mG (C:Addr)(w:Str):List A→(A→Prop)→Prop:=fun as Q=>∃a b v,as=[.dat (sL C a b v)]∧Q (.dat (.tuple [.str w,a,b,v]))
def tf (C:Addr)(cs:Cs):List A→(A→Prop)→Prop:=fun as Q=>∃ds,as=[.dat (yC C cs ds)]∧Rules ds∧ds.length≤1000∧Q (.own ds)
theorem pI (x y z:V):wK x y z=[(("first":Str),x),(("last":Str),y),(("worth":Str),z)]:=by
 unfold wK
 show xA "worth" z (if ("first":Str)="last" then _ else _)=_
 rw[if_neg (fun e=>gL e.symm)]
 show (if ("first":Str)="worth" then _ else _)=_
 rw[if_neg (fun e=>iV e.symm)]
 show _::(if ("last":Str)="worth" then _ else _)=_
 rw[if_neg (fun e=>gr e.symm)]
 rfl
theorem vF {cs:Cs}{d:PyData}(h:yM d=true):∃(s:Str) (a b v:PyData),s∈words∧d=.tuple [.str s,a,b,v]∧uP cs d=sL (cs.of s) a b v:=by
 obtain⟨s,a,b,v,hs,rfl⟩:=xG h
 exact⟨s,a,b,v,hs,rfl,rfl⟩
def iO :Scope:=match zw vA with
 |[.Return (some (.ListComp _ _ sc _)) _]=>sc
 |_=>zb vA
section
variable {P:Program}{w:World}{K:PySem.W.Frag}{mg:Str→Option Value}{base:Heap}{cs:Cs}
theorem lH {k:Nat}{f:Addr}{fd:FuncData}{ps:List Str}(hm:mg "rule_of"=some (.ref f))(hk:PySem.W.keepIn K (.ref f)=true)(hb:Binds K fd ps [])(G:zB P w K mg base CX0 k f fd ps (oB cs)):Cal P w K mg base "rule_of" k (tG cs):=by
 refine⟨f,fd,_,hm,hk,hb,G.imp fun vs H Q E h=>?_⟩
 obtain⟨F,as,Q',rfl,t,o,rv,⟨d,rfl,nd,sh,q0,q1⟩,kk⟩:=h
 obtain⟨x,rfl,av⟩:=rv.one
 have oo:∀{a:Addr},F.H0 a=none→¬F.O0 a:=fun {a} e z=>by
  obtain⟨u,hu,_⟩:=o a z
  rw[e] at hu;cases hu
 refine⟨x,d,rfl,(av.dv nd).same xS,sh,fun hr H' s=>kk _ _ _ (q0 hr) ⟨t.same s,Kz.of_same s,.non⟩,fun r wd x1 x2 x3 p dx H' hx hr hw he hp' hp s=>kk _ _ _ (q1 hr) ⟨t.same s,Kz.of_same s,?_⟩⟩
 subst hx
 obtain⟨s',a,b,v,_,rfl⟩:=xG hr
 obtain⟨r',xs,e1,e2,e3⟩:=av.tup_inv
 cases e1
 have e4:=(zl e2).2
 rw[he] at e4
 cases e4
 have gs:zy (sub (fun x=>¬F.O0 x) F.H0) (sub (fun x=>¬F.O0 x) H'):=zx fun a u h e=>⟨h,s _ _ e⟩
 cases e3 with
 |cons g1 e3=>
  cases g1.str_inv
  cases e3 with
  |cons g2 e3=>
   cases e3 with
   |cons g3 e3=>
    cases e3 with
    |cons g4 e3=>
     cases e3
     rw[pI] at hp'
     exact .ins (yc (oo hp) hp') (.cons (g2.same gs) (.cons (g3.same gs) (.cons (g4.same gs) .nil)))
theorem yO {C f fIn fE fWd:Addr}{fd:FuncData}{wd:Str}(R:xN K C fIn f fE fWd)(hb:Binds K fd ["self"] [])(G:zB P w K mg base CX0 2 f fd ["self"] (dn C wd)):wc P w K mg base C "told" 2 (mG C wd):=by
 refine⟨f,fd,_,R.cl,R.told,hb,G.imp fun vs H Q E h=>?_⟩
 obtain⟨F,as,Q',rfl,t,o,rv,⟨a,b,v,rfl,q⟩,kk⟩:=h
 obtain⟨x,rfl,av⟩:=rv.one
 obtain⟨p,dx,fs,rfl,h1,h2⟩:=av.ins_inv
 cases h2 with
 |cons g1 h2=>
  cases h2 with
  |cons g2 h2=>
   cases h2 with
   |cons g3 h2=>
    cases h2
    refine⟨p,dx,_,_,_,rfl,by rw[pI];exact (zl h1).2,fun r hr=>kk _ _ _ q ⟨t.same (yw hr),Kz.of_same (yw hr),?_⟩⟩
    have gs:∀o':HO,zy (sub (fun x=>¬F.O0 x) F.H0) (sub (fun x=>¬F.O0 x) (upd F.H0 r o')):=fun o'=>zx fun a u h e=>⟨h,by rw[zg (zk e hr)];exact e⟩
    refine .tup (yc (fun z=>?_) zi) (.cons (.str _) (.cons (g1.same (gs _)) (.cons (g2.same (gs _)) (.cons (g3.same (gs _)) .nil))))
    obtain⟨u,hu,_⟩:=o r z
    rw[hr] at hu;cases hu
theorem eH :zm ["things","kept","number","thing","rule"] ["things"] (zb hU):=⟨rfl,rfl,rfl,by decide +kernel,rfl,by decide +kernel,by decide +kernel⟩
set_option maxHeartbeats 4000000 in
theorem gG {f:Addr}{fd:FuncData}(F:Fun K "kept_rules" "kept_rules" hU f fd)(hm:mg "kept_rules"=some (.ref f))(hb:Binds K fd ["things"] [])(nb:NbT mg)(gM:∃t,mg "MOST_RULES"=some (.int 24 t))(CRO:Cal P w K mg base "rule_of" 7 (tG cs)):Cal P w K mg base "kept_rules" 8 (mD cs):=by
 refine wJ F hm hb eH (fun as Q h=>?_) (fun cdv A' outer s H E as Q hr h=>?_)
 ·obtain⟨ds,rfl,_⟩:=h
  rfl
 ·obtain⟨ds,rfl,rd,hl,q⟩:=h
  refine wk 1 eH.nd (yN (zp (⟨_,rfl,zt9 rfl,?_⟩)))
  refine wV (pat:=.many [2,3]) zy3 rfl (wY (n:=2) (K:=K) rfl rfl (xf (zL (i:=2) eH.nd rfl (Or.inl rfl)) (xf (zL (i:=3) eH.nd rfl (Or.inl rfl)) (uf)))) (kO (by rfl) nb.enumerate (zf 0 rfl (⟨_,rfl,?_⟩)))
  refine yL (fun i α=>∃v2 v3 v4,α=[some (.dat (.list ds)),some (.own ((ds.take i).map (uP cs))),v2,v3,v4]) ⟨none,none,none,rfl⟩ ?_ ?_
  ·rintro i d α hd ⟨v2,v3,v4,rfl⟩
   obtain⟨e,he,rfl⟩:=vp hd
   obtain⟨r1,r2,r3⟩:=rd e (zz4 he)
   have hi:i<ds.length:=(zt0.mp he).1
   refine⟨_,rfl,?_⟩
   refine yg 4 eH.nd (yk CRO hr (by rfl) (zd (zf 3 rfl (zp (⟨_,rfl,r3,r2,fun z=>(by rw[r1] at z;cases z),fun _=>?_⟩)))))
   refine xW (wL (zf 4 rfl ?_))
   obtain⟨s',a,b,v,hs,rfl,ei⟩:=vF (cs:=cs) r1
   refine yB (fun h=>by rw[show (A.dat (uP cs (.tuple [.str s',a,b,v]))).d=sL (cs.of s') a b v from rfl] at h;cases h) (fun _=>zE ?_)
   refine yq 1 rfl (zf 4 rfl ⟨by rw[zs4,zu9];omega,?_⟩)
   refine zE ⟨some (.dat (.int ((0+i:Nat):Int))),some (.dat (.tuple [.str s',a,b,v])),some (.dat (uP cs (.tuple [.str s',a,b,v]))),?_⟩
   rw[zC3,he,zw3]
   rfl
  ·rintro α ⟨v2,v3,v4,rfl⟩
   rw[vm,zC9]
   refine xW (kg 1 rfl (eG (ph (by rfl) nb.len (zf 1 rfl ⟨_,rfl,ee (by rfl) gM ⟨_,_,rfl,rfl,?_⟩⟩))))
   refine eM (fun h=>?_) (fun _=>zE ?_)
   ·rw[zs4] at h
    omega
   ·exact xF 1 rfl q
theorem zq9 :zm ["self","rules"] ["self","rules"] (zb xl):=⟨rfl,rfl,rfl,by decide +kernel,rfl,by decide +kernel,by decide +kernel⟩
theorem ic {w' v:PyData}(h:zz w' v=true):noL v=true:=by
 have wi:∀{lo hi:Int} {x:PyData},zW lo hi x=true→noL x=true:=fun {lo hi x} h=>by
  cases x with
  |int i=>rfl
  |_=>cases h
 have nn:∀{x:PyData},isNone x=true→noL x=true:=fun {x} h=>by
  cases x with
  |none=>rfl
  |_=>cases h
 unfold zz at h
 split at h
 ·rcases (zB7 _ _).mp h with h|h
  ·exact nn h
  ·exact wi h
 ·split at h
  ·cases v with
   |bool b=>rfl
   |_=>cases h
  ·split at h
   ·exact wi h
   ·split at h
    ·rcases (zB7 _ _).mp h with h|h
     ·exact nn h
     ·unfold vX at h
      split at h
      ·rw[zv1] at h
       simp only[noL,uZ,wi h.2,Bool.and_self]
      ·cases h
    ·rw[zv1] at h
     exact wi h.2
theorem eV {s':Str}{a b v:PyData}(h:yM (.tuple [.str s',a,b,v])=true):noL a=true∧noL b=true∧noL v=true:=by
 have h':(yj (.tuple [a,b])&&zz (.str s') v)=true:=h
 rw[zv1] at h'
 refine⟨?_,?_,ic h'.2⟩
 ·have:=h'.1
  unfold yj rF at this
  split at this
  ·rename_i k e
   split at e
   ·rename_i z;cases z;rfl
   ·cases e
  ·cases this
 ·have:=h'.1
  unfold yj rF at this
  split at this
  ·rename_i k e
   split at e
   ·rename_i z;cases z;rfl
   ·cases e
  ·cases this
theorem oS {ds:List PyData}(rd:Rules ds):uZ (ds.map (uP cs))=true:=by
 induction ds with
 |nil=>rfl
 |cons d r ih=>
  have ih':=ih fun x hx=>rd x (zt4 _ hx)
  have h1:=(rd d zt7).1
  obtain⟨s',a,b,v,hs,rfl,ei⟩:=vF (cs:=cs) h1
  obtain⟨z1,z2,z3⟩:=eV h1
  rw[zw5,ei]
  simp only[uZ,ih',Bool.and_true]
  simp[sL,wN,noL,lF,z1,z2,z3]
theorem iS {f C:Addr}{dV:Value}{fd:FuncData}(F:zc9 K "__init__" "Book.__init__" xl dV f fd)(c:Cls K C)(na:yE K C "kept")(CK:Cal P w K mg base "kept_rules" 8 (mD cs)):zB P w K mg base CX0 9 f fd ["self","rules"] (spI C (sU C cs)):=by
 refine zo8 (N:=[]) F zq9 c na rfl (fun as Q h=>?_) (fun cdv A' outer s H E as Q hr h=>?_) (fun _ _ _ _ _ _=>rfl) (Or.inl rfl)
 ·obtain⟨ds,h|⟨h,_⟩,_⟩:=h<;>rw[h]<;>rfl
 ·obtain⟨ds,h|⟨h,hz⟩,rd,hl,q⟩:=h
  ·subst h
   exact wo CK hr (by rfl) (zd (lI (wL (zf 1 rfl (rB (zf 1 rfl (zp ⟨_,rfl,rd,hl,_,rfl,oS rd,q⟩)))))))
  ·subst h hz
   exact wo CK hr (by rfl) (zd (lI (wL (zf 1 rfl (su (EvL.d (yN (zp ⟨_,rfl,zt9 rfl,zp ⟨[],rfl,rd,hl,_,rfl,oS rd,q⟩⟩))))))))
theorem zr1 :zm ["self"] ["self"] (zb vA):=⟨rfl,rfl,rfl,by decide +kernel,rfl,by decide +kernel,by decide +kernel⟩
theorem zk8 :zI ["self"] (zb vA) ["rule"] [none] iO:=⟨rfl,by decide +kernel,by decide +kernel,by decide +kernel,by decide +kernel,rfl,by decide +kernel⟩
set_option maxHeartbeats 4000000 in
theorem jZ {f C:Addr}{fd:FuncData}(F:Fun K "rules" "Book.rules" vA f fd)(c:Cls K C)(na:yE K C "kept")(hb:Binds K fd ["self"] [])(O:∀w'∈words,wc P w K mg base (cs.of w') "told" 2 (mG (cs.of w') w')):zB P w K mg base CX0 3 f fd ["self"] (spA (tf C cs)):=by
 refine fnA F zr1 (fun as Q h=>?_) (fun cdv A' outer s H E as Q hr h=>?_)
 ·obtain⟨ds,rfl,_⟩:=h
  rfl
 ·obtain⟨ds,rfl,rd,hl,q⟩:=h
  refine qR (dF (pat:=.one 0) rfl zk8 rfl (fun _ _ _ _=>zL (i:=0) zk8.nd rfl (Or.inl rfl)) (wC (ma c na (zf 0 rfl ⟨_,_,rfl,rfl,⟨_,rfl,by rw[zs4];exact hl,?comp⟩⟩))))
  case comp=>
   refine jr (fun i acc=>acc=ds.take i) rfl ?_ (fun acc h=>?_)
   ·rintro i d acc hd rfl
    rw[zu0,zv9] at hd
    obtain⟨e,he,rfl⟩:=hd
    obtain⟨s',a,b,v,hs,rfl,ei⟩:=vF (cs:=cs) (rd e (zz4 he)).1
    refine⟨_,rfl,fun C s2 H2 fp=>mi ?_⟩
    rw[if_pos rfl]
    refine fun C s2 H2 fp=>sZ (O s' hs) hr (zf 0 rfl ⟨_,rfl,rfl,_,_,_,rfl,?_⟩)
    show ds.take i++[_]=ds.take (i+1)
    rw[zC3,he]
    rfl
   ·rw[zs4,zC9] at h
    rw[h]
    exact q
end
abbrev pe :Stmt:=inClass (top 45) 2
abbrev mC :Stmt:=top 36
def tbU :List (Str×V):=[("price",.non),("come",.bl true),("go",.bl true),("least",.int 1),("most",.int 14),("deal",.non),("fee",.int 0)]
def gK (x:Str):PyData:=if x="price"∨x="deal" then .none else if x="come"∨x="go" then .bool true else if x="least" then .int 1 else if x="most" then .int 14 else .int 0
theorem zg0 {x:Str}(h:x∈words):∃v,tbU.lookup x=some v∧scV (gK x)=some v:=by
 simp only[words,zs8,zt5,zv2] at h
 rcases h with rfl|rfl|rfl|rfl|rfl|rfl|rfl
 ·exact⟨.non,by decide +kernel,by decide +kernel⟩
 ·exact⟨.bl true,by decide +kernel,by decide +kernel⟩
 ·exact⟨.bl true,by decide +kernel,by decide +kernel⟩
 ·exact⟨.int 1,by decide +kernel,by decide +kernel⟩
 ·exact⟨.int 14,by decide +kernel,by decide +kernel⟩
 ·exact⟨.non,by decide +kernel,by decide +kernel⟩
 ·exact⟨.int 0,by decide +kernel,by decide +kernel⟩
def lZ (w:Str)(day:Int):PyData→Bool
 |.tuple [.str x,.int a,.int b,_]=>decide (x=w)&&(decide (a≤day)&&decide (day≤b))
 |_=>false
def qO :PyData→PyData
 |.tuple [_,_,_,v]=>v
 |_=>.none
def zj (ds:List PyData)(w:Str)(day:Int):PyData:=match ds.reverse.find? (lZ w day) with
 |some d=>qO d
 |none=>gK w
theorem nN (ds:List PyData)(d:PyData)(w:Str)(day:Int):zj (ds++[d]) w day=if lZ w day d=true then qO d else zj ds w day:=by
 unfold zj
 rw[List.reverse_append,List.reverse_singleton,List.singleton_append,zx0]
 cases lZ w day d<;>simp
theorem sT {p:PyData→Bool}{e:PyData}:∀{l:List PyData} {i:Nat},(∀j<i,∀d,l[j]?=some d→p d=false)→l[i]?=some e→p e=true→l.find? p=some e
 |[],i,_,h,_=>by simp at h
 |d::l,0,_,h,q=>by
  simp at h;subst h
  simp[zx0,q]
 |d::l,i+1,a,h,q=>by
  have hd:=a 0 (Nat.succ_pos _) d rfl
  rw[zx0,hd]
  exact sT (i:=i) (fun j hj x hx=>a (j+1) (Nat.succ_lt_succ hj) x (by simpa using hx)) (by simpa using h) q
theorem cx {p:PyData→Bool}{l:List PyData}(h:∀(j:Nat) d,l[j]?=some d→p d=false):l.find? p=none:=by
 rw[List.find?_eq_none]
 intro x hx
 obtain⟨j,hj⟩:=List.mem_iff_getElem?.mp hx
 rw[h j x hj];simp
theorem tS {d:PyData}(h:yM d=true):∃(s:Str) (i j:Int) (v:PyData),s∈words∧d=.tuple [.str s,.int i,.int j,v]∧0≤i∧i≤j∧j≤1000000∧zz (.str s) v=true:=by
 obtain⟨s,a,b,v,hs,rfl⟩:=xG h
 have h':(yj (.tuple [a,b])&&zz (.str s) v)=true:=h
 rw[zv1] at h'
 have h1:=h'.1
 unfold yj rF at h1
 split at h1
 ·rename_i k e
  split at e
  ·rename_i z
   cases z
   split at e
   ·rename_i q
    cases e
    rw[zv1] at q
    rename_i a' b'
    have qa:(decide (0≤a')&&decide (a'≤1000000))=true:=q.1
    have qb:(decide (0≤b')&&decide (b'≤1000000))=true:=q.2
    rw[zv1,zv7,zv7] at qa qb
    have h2:=zz5 h1
    exact⟨s,a',b',v,hs,rfl,qa.1,by omega,qb.2,h'.2⟩
   ·cases e
  ·cases e
 ·cases h1
theorem iI (a b v:PyData):uV [(.str "first",a),(.str "last",b),(.str "worth",v)] "worth"=some v:=by
 show (if ("worth":Str)="first" then _ else _)=_
 rw[if_neg iV]
 show (if ("worth":Str)="last" then _ else _)=_
 rw[if_neg gr]
 show (if ("worth":Str)="worth" then _ else _)=_
 rw[if_pos rfl]
def qE :List A→(A→Prop)→Prop:=fun as Q=>∃x,as=[.dat (.str x)]∧x∈words∧Q (.dat (gK x))
def mQ (C:Addr)(w:Str):List A→(A→Prop)→Prop:=fun as Q=>∃a b v,as=[.dat (sL C a b v)]∧Q (.dat (.str w))
def si (C:Addr):List A→(A→Prop)→Prop:=fun as Q=>∃(a b day:Int) (v:PyData),as=[.dat (sL C (.int a) (.int b) v),.dat (.int day)]∧Q (.dat (.bool (decide (a≤day)&&decide (day≤b))))
def uh (C:Addr)(cs:Cs):List A→(A→Prop)→Prop:=fun as Q=>∃ds x day,as=[.dat (yC C cs ds),.dat (.str x),.dat (.int day)]∧Rules ds∧x∈words∧Q (.dat (zj ds x day))
section
variable {P:Program}{w:World}{K:PySem.W.Frag}{mg:Str→Option Value}{base:Heap}{cs:Cs}
theorem zq2 :zm ["word"] ["word"] (zb mC):=⟨rfl,rfl,rfl,by decide +kernel,rfl,by decide +kernel,by decide +kernel⟩
theorem jA {f dU:Addr}{fd:FuncData}(F:Fun K "usual" "usual" mC f fd)(hm:mg "usual"=some (.ref f))(hb:Binds K fd ["word"] [])(mU:mg "USUAL"=some (.ref dU))(DU:kL K w dU tbU):Cal P w K mg base "usual" 1 qE:=by
 refine wJ F hm hb zq2 (fun as Q h=>?_) (fun cdv A' outer s H E as Q hr h=>?_)
 ·obtain⟨x,rfl,_⟩:=h
  rfl
 ·obtain⟨x,rfl,hx,q⟩:=h
  obtain⟨v,h1,h2⟩:=zg0 hx
  exact wU (gR (by rfl) mU DU (zf 0 rfl ⟨x,gK x,v,rfl,h1,h2,q⟩))
theorem yS {C f fIn fT fE:Addr}{fd:FuncData}{wd:Str}(R:xN K C fIn fT fE f)(hb:Binds K fd ["self"] [])(G:zB P w K mg base CX0 1 f fd ["self"] (wz wd)):wc P w K mg base C "word" 1 (mQ C wd):=by
 refine⟨f,fd,_,R.cl,R.word,hb,G.imp fun vs H Q E h=>?_⟩
 obtain⟨F,as,Q',rfl,t,o,rv,⟨a,b,v,rfl,q⟩,kk⟩:=h
 obtain⟨x,rfl,av⟩:=rv.one
 obtain⟨p,dx,fs,rfl,h1,h2⟩:=av.ins_inv
 exact⟨p,rfl,kk _ _ _ q ⟨t,Kz.refl,.str _⟩⟩
theorem yy {C f fIn fT fWd:Addr}{fd:FuncData}(R:xN K C fIn fT f fWd)(hb:Binds K fd ["self","day"] [])(G:zB P w K mg base CX0 1 f fd ["self","day"] (ki C)):wc P w K mg base C "tells" 1 (si C):=by
 refine⟨f,fd,_,R.cl,R.tells,hb,G.imp fun vs H Q E h=>?_⟩
 obtain⟨F,as,Q',rfl,t,o,rv,⟨a,b,day,v,rfl,q⟩,kk⟩:=h
 obtain⟨x,y,rfl,av,ay⟩:=rv.two
 cases ay.int_inv
 obtain⟨p,dx,fs,rfl,h1,h2⟩:=av.ins_inv
 cases h2 with
 |cons g1 h2=>
  cases h2 with
  |cons g2 h2=>
   cases h2 with
   |cons g3 h2=>
    cases h2
    cases g1.int_inv
    cases g2.int_inv
    exact⟨p,dx,a,b,day,_,rfl,by rw[pI];exact (zl h1).2,kk _ _ _ q ⟨t,Kz.refl,.bl _⟩⟩
theorem zk2 :zm ["self","word","day","rule"] ["self","word","day"] (zb pe):=⟨rfl,rfl,rfl,by decide +kernel,rfl,by decide +kernel,by decide +kernel⟩
set_option maxHeartbeats 4000000 in
theorem jI {f C:Addr}{fd:FuncData}(F:Fun K "tells_of" "Book.tells_of" pe f fd)(c:Cls K C)(na:yE K C "kept")(nb:NbT mg)(CU:Cal P w K mg base "usual" 1 qE)(OW:∀u∈words,wc P w K mg base (cs.of u) "word" 1 (mQ (cs.of u) u))(OR:∀u∈words,wc P w K mg base (cs.of u) "tells" 1 (si (cs.of u)))
  (OC:∀u∈words,Cls K (cs.of u)∧yE K (cs.of u) "worth"):zB P w K mg base CX0 2 f fd ["self","word","day"] (spA (uh C cs)):=by
 refine fnA F zk2 (fun as Q h=>?_) (fun cdv A' outer s H E as Q hr h=>?_)
 ·obtain⟨ds,x,d,rfl,_⟩:=h
  rfl
 ·obtain⟨ds,x,day,rfl,rd,hx,q⟩:=h
  refine wV (pat:=.one 3) zy3 rfl (zL (i:=3) zk2.nd rfl (Or.inl rfl)) (zc1 (by rfl) nb.reversed (ma c na (zf 0 rfl ⟨_,_,rfl,rfl,⟨_,rfl,?_⟩⟩)))
  refine yL (fun i α=>(∃v3,α=[some (.dat (yC C cs ds)),some (.dat (.str x)),some (.dat (.int day)),v3])∧∀j<i,∀d,ds.reverse[j]?=some d→lZ x day d=false) ⟨⟨none,rfl⟩,fun j hj=>absurd hj (Nat.not_lt_zero _)⟩ ?_ ?_
  ·rintro i d α hd ⟨⟨v3,rfl⟩,hno⟩
   rw[←List.map_reverse,zu0,zv9] at hd
   obtain⟨e,he,rfl⟩:=hd
   have hme:e∈ds:=List.mem_reverse.mp (zz4 he)
   obtain⟨u,a,b,v,hu,rfl,_,_,_,_⟩:=tS (rd e hme).1
   refine⟨_,rfl,?_⟩
   refine xW (EvW.t (cY (fun _ k=>ze0 (sZ (OW u hu) hr (zf 3 rfl ⟨_,rfl,rfl,_,_,_,rfl,zf 1 rfl ⟨_,_,rfl,rfl,k⟩⟩)))
    (fun hp _ k=>kU (pf (yX (OR u hu) hr (zf 3 rfl ⟨_,rfl,rfl,zd (zf 2 rfl (zp ⟨_,_,_,_,rfl,_,rfl,k⟩))⟩)))) ?_))
   refine yB (fun h=>?_) (fun h=>?_)
   ·refine wU (ma (OC u hu).1 (OC u hu).2 (zf 3 rfl ⟨_,_,rfl,iI _ _ _,?_⟩))
    have e1:ds.reverse.find? (lZ x day)=some (.tuple [.str u,.int a,.int b,v]):=sT hno he h
    unfold zj at q
    rw[e1] at q
    exact q
   ·refine zE (zE ⟨⟨_,rfl⟩,fun j hj d' hd'=>?_⟩)
    rcases zB0 j i with z|z
    ·exact hno j z d' hd'
    ·have:j=i:=by omega
     subst this
     rw[he] at hd';cases hd'
     exact h
  ·rintro α ⟨⟨v3,rfl⟩,hno⟩
   refine wU (yk CU (hr.mono (by decide)) (by rfl) (zd (zf 1 rfl (zp ⟨x,rfl,hx,?_⟩))))
   have e1:ds.reverse.find? (lZ x day)=none:=cx fun j d hd=>hno j (by
    have:=(zt0.mp hd).1
    rw[zD2,zs4]
    rwa [zD2] at this) d hd
   unfold zj at q
   rw[e1] at q
   exact q
end
theorem xh (d:PyData):zz (.str "price") d=(isNone d||vj d):=by unfold zz;rw[if_pos (by decide +kernel)]
theorem tN (d:PyData):zz (.str "come") d=isBool d:=by unfold zz;rw[if_neg (by decide +kernel),if_pos (by decide +kernel)]
theorem nu (d:PyData):zz (.str "go") d=isBool d:=by unfold zz;rw[if_neg (by decide +kernel),if_pos (by decide +kernel)]
theorem wQ (d:PyData):zz (.str "least") d=zW 1 14 d:=by unfold zz;rw[if_neg (by decide +kernel),if_neg (by decide +kernel),if_pos (by decide +kernel)]
theorem vI (d:PyData):zz (.str "most") d=zW 1 14 d:=by unfold zz;rw[if_neg (by decide +kernel),if_neg (by decide +kernel),if_pos (by decide +kernel)]
theorem vL (d:PyData):zz (.str "deal") d=(isNone d||vX d):=by unfold zz;rw[if_neg (by decide +kernel),if_neg (by decide +kernel),if_neg (by decide +kernel),if_pos (by decide +kernel)]
theorem rW (d:PyData):zz (.str "fee") d=vj d:=by
 unfold zz
 rw[if_neg (by decide +kernel),if_neg (by decide +kernel),if_neg (by decide +kernel),if_neg (by decide +kernel),show eqS (.str "fee") "fee"=true by decide +kernel,zy8]
theorem within_int {lo hi i:Int}(h1:lo≤i)(h2:i≤hi):zW lo hi (.int i)=true:=by
 show (decide (lo≤i)&&decide (i≤hi))=true
 rw[zy0 h1,zy0 h2]<;>rfl
theorem di {i:Int}(h0:-2000000000000≤i)(h1:i≤2000000000000):zH 2000 (.int i):=zH.int (by unfold big;omega) (by unfold big;omega)
def qZ :List A→(A→Prop)→Prop:=fun as Q=>as=[.tape]∧∀z:Int,0≤z→z≤1000000000000→Q (.dat (.int z))
def nA :List A→(A→Prop)→Prop:=fun as Q=>∃wd,as=[.tape,.dat (.str wd)]∧wd∈words∧∀d,zz (.str wd) d=true→zH 5000 d→d.depth≤1→Q (.dat d)
theorem cO {m f:Int}(h0:2≤m)(h1:m≤14)(h2:1≤f)(h3:f<m):zz (.str "deal") (.tuple [.int m,.int f])=true∧zH 5000 (.tuple [.int m,.int f])∧(PyData.tuple [.int m,.int f]).depth≤1:=by
 have hbig:(1000001:Int)<big:=by decide
 have hneg:-big<(0:Int):=by decide
 refine⟨?_,zH.tuple (n:=2000) (yi.two (zH.int (by omega) (by omega)) (zH.int (by omega) (by omega)) (zt6 _) (zt6 _)) (by show 2*(2000+2)+3≤5000;decide),by simp[PyData.depth,PyData.depthAll]⟩
 rw[vL]
 show (false||(zW 2 14 (.int m)&&zW 1 (m-1) (.int f)))=true
 rw[within_int h0 h1,within_int h2 (by omega)]
 rfl
end K43
set_option compiler.extract_closed false
set_option hygiene false in
local macro_rules
 |`(tactic| exists $f,$a)=>`(tactic| first|refine $f 0 $a ?_|refine $f 1 $a ?_|refine $f 2 $a ?_|refine $f 3 $a ?_|refine $f 4 $a ?_|refine $f 5 $a ?_|refine $f 6 $a ?_|refine $f 7 $a ?_|refine $f 8 $a ?_|refine $f 9 $a ?_|refine $f 10 $a ?_|refine $f 11 $a ?_|refine $f 12 $a ?_|refine $f 13 $a ?_|refine $f 14 $a ?_|refine $f 15 $a ?_|refine $f 16 $a ?_|refine $f 17 $a ?_)
set_option hygiene false in
local macro_rules
 |`(tactic| and_intros)=>`(tactic| repeat (first
  |((with_reducible show EvD _ _ _ _);first
   |((with_reducible show EvD _ _ (.Name _ _) _);exists zf,rfl)
   |((with_reducible show EvD _ _ (.Constant _ _ _) _);first|with_reducible refine zJ ?_|with_reducible refine yd ?_|with_reducible refine za0 ?_|with_reducible refine qG ?_)
   |((with_reducible show EvD _ _ (.BinOp (.Constant (.int 10) _ _) .Pow (.Constant (.int 6) _ _) _) _);refine qT (r:=1000000) ⟨by decide,by decide,by decide⟩ (by decide) ?_)
   |((with_reducible show EvD _ _ (.BinOp (.Constant (.int 10) _ _) .Pow (.Constant (.int 12) _ _) _) _);refine qT (r:=1000000000000) ⟨by decide,by decide,by decide⟩ (by decide) ?_)
   |((with_reducible show EvD _ _ (.BinOp (.Constant (.int 10) _ _) .Pow (.Constant (.int 9) _ _) _) _);refine qT (r:=1000000000) ⟨by decide,by decide,by decide⟩ (by decide) ?_)
   |((with_reducible show EvD _ _ (.BinOp (.Constant (.int 10) _ _) .Pow (.Constant (.int 11) _ _) _) _);refine qT (r:=100000000000) ⟨by decide,by decide,by decide⟩ (by decide) ?_)
   |((with_reducible show EvD _ _ (.BinOp _ .Add (.List _ _) _) _);refine EvL.d (xQ ?_))
   |((with_reducible show EvD _ _ (.BinOp (.List _ _) .Add _ _) _);refine EvL.d (xQ ?_))
   |((with_reducible show EvD _ _ (.BinOp (.Subscript _ (.Slice _ _ none _) _) .Add _ _) _);refine EvL.d (xQ ?_))
   |((with_reducible show EvD _ _ (.BinOp _ .Add (.Subscript _ (.Slice _ _ none _) _) _) _);refine EvL.d (xQ ?_))
   |((with_reducible show EvD _ _ (.BinOp (.Call (.Attribute _ "rules" _) _ _ _) .Add _ _) _);refine EvL.d (xQ ?_))
   |with_reducible refine xp ?_
   |with_reducible refine qJ ?_
   |with_reducible refine ev_mod ?_
   |with_reducible refine ev_fdiv ?_
   |with_reducible refine ev_mul ?_
   |with_reducible refine ev_shl ?_
   |with_reducible refine ev_neg ?_
   |with_reducible refine ev_not ?_
   |with_reducible refine xk ?_
   |((with_reducible show EvD _ _ (.Subscript _ (.Slice _ _ none _) _) _);refine EvL.d (iT ?_))
   |((with_reducible show EvD _ _ (.Subscript _ _ _) _);refine vE hr.one (fun _ _=>rfl) ?_)
   |((with_reducible show EvD _ _ (.List _ _) _);refine EvL.d (yN ?_))
   |((with_reducible show EvD _ _ (.Call (.Name "len" _) [.Call (.Name "set" _) _ _ _] _ _) _);refine ev_lenSet rfl (by rfl) nb.len (by rfl) (by assumption) ?_)
   |((with_reducible show EvD _ _ (.Call (.Name "len" _) _ _ _) _);refine ph (by rfl) nb.len ?_)
   |((with_reducible show EvD _ _ (.Call (.Name "min" _) [_,_] _ _) _);refine ev_min rfl (by rfl) nb.min ?_)
   |((with_reducible show EvD _ _ (.Call (.Name "max" _) [_,_] _ _) _);refine ev_max rfl (by rfl) nb.max ?_)
   |((with_reducible show EvD _ _ (.Call (.Name "list" _) _ _ _) _);refine EvL.d (kY (by rfl) nb.list ?_))
   |((with_reducible show EvD _ _ (.Call (.Name "repr" _) _ _ _) _);refine cQ hr.gd hr.units (by rfl) nb.repr ?_)
   |((with_reducible show EvD _ _ (.Call (.Name "min" _) [_] _ _) _);refine ev_minI rfl hr.few (by rfl) nb.min ?_)
   |((with_reducible show EvD _ _ (.Call (.Name "isinstance" _) _ _ _) _);first|refine ev_isi (by rfl) nb.isinstance (by rfl) nb.int boot_int ?_|refine ev_isi (by rfl) nb.isinstance (by rfl) nb.bool boot_bool ?_|refine ev_isi (by rfl) nb.isinstance (by rfl) nb.str boot_str ?_|refine ev_isi (by rfl) nb.isinstance (by rfl) nb.list boot_list ?_|refine ev_isi (by rfl) nb.isinstance (by rfl) nb.tuple boot_tuple ?_)
   |((with_reducible show EvD _ _ (.Call (.Name "int" _) _ _ _) _);refine ev_intB (by rfl) nb.int ?_)
   |((with_reducible show EvD _ _ (.Call (.Name _ _) _ _ _) _);first|refine bL (by with_reducible assumption) (by exact⟨rfl,rfl,rfl,rfl,rfl⟩) (hr.mono (by decide)) (by rfl) ?_|refine EvN.d (gn (by with_reducible assumption) (by exact⟨rfl,rfl,rfl,rfl,rfl⟩) (hr.mono (by decide)) (by rfl) ?_))
   |((with_reducible show EvD _ _ (.Call (.Attribute _ _ _) (_::_) _ _) _);refine gg (by with_reducible assumption) (by exact⟨rfl,rfl,rfl,rfl,rfl⟩) (hr.mono (by decide)) ?_)
   |((with_reducible show EvD _ _ (.Call (.Attribute _ _ _) [] _ _) _);refine iN (by with_reducible assumption) (by exact⟨rfl,rfl,rfl,rfl,rfl⟩) (hr.mono (by decide)) ?_)
   |((with_reducible show EvD _ _ (.Compare _ [_] _ _) _);first|with_reducible refine aT ?_|with_reducible refine ev_le ?_|with_reducible refine ev_gt ?_|with_reducible refine ev_ge ?_|with_reducible refine ev_isN ?_|with_reducible refine ev_notN ?_|((with_reducible show EvD _ _ (.Compare _ [.Eq] _ _) _);refine zb2 hr.units ?_)|((with_reducible show EvD _ _ (.Compare _ [.NotEq] _ _) _);refine ev_nek hr.units ?_)|((with_reducible show EvD _ _ (.Compare _ [.In] _ _) _);refine ev_ink hr.one ?_)|((with_reducible show EvD _ _ (.Compare _ [.NotIn] _ _) _);refine ev_nink hr.one ?_)|((with_reducible show EvD _ _ (.Compare _ [.Is] [.Constant (.bool _) _ _] _) _);refine ev_isB ?_))
   |((with_reducible show EvD _ _ (.Compare _ [_,_] _ _) _);first|refine ev_lelt ?_|refine ev_ltle ?_|refine ev_lele' ?_)
   |((with_reducible show EvD _ _ (.BoolOp _ _ _) _);first|with_reducible refine ev_and ?_|with_reducible refine ev_or ?_|with_reducible refine ev_one ?_)
   |with_reducible refine lI ?_)
  |((with_reducible show EvA _ _ _ _);first
   |with_reducible refine zp ?_
   |((with_reducible show EvA _ _ (.Name "_law_tape_here" _::_) _);exists zX,rfl)
   |refine zd ?_)
  |((with_reducible show EvT _ _ _ _);first
   |((with_reducible show EvT _ _ (.Compare _ [_] _ _) _);first|with_reducible refine aZ ?_|with_reducible refine zm7 ?_|with_reducible refine eG ?_|with_reducible refine et_ge ?_|with_reducible refine wL ?_|with_reducible refine cN ?_|((with_reducible show EvT _ _ (.Compare _ [.Eq] _ _) _);refine zb3 hr.units ?_)|((with_reducible show EvT _ _ (.Compare _ [.NotEq] _ _) _);refine lq hr.units ?_)|((with_reducible show EvT _ _ (.Compare _ [.In] _ _) _);refine et_ink hr.one ?_)|((with_reducible show EvT _ _ (.Compare _ [.NotIn] _ _) _);refine et_nink hr.one ?_)|((with_reducible show EvT _ _ (.Compare _ [.Is] [.Constant (.bool _) _ _] _) _);refine et_isB ?_)|((with_reducible show EvT _ _ (.Compare _ [.IsNot] [.Constant (.bool _) _ _] _) _);refine gJ ?_))
   |((with_reducible show EvT _ _ (.Compare _ [_,_] _ _) _);first|refine et_lelt ?_|refine et_ltle ?_|refine et_lele' ?_)
   |with_reducible refine pG ?_
   |((with_reducible show EvT _ _ (.BoolOp _ _ _) _);with_reducible refine EvW.t ?_)
   |refine fy ?_)
  |((with_reducible show EvL _ _ _ _);first
   |with_reducible refine yN ?_
   |((with_reducible show EvL _ _ (.Call (.Name "list" _) _ _ _) _);refine kY (by rfl) nb.list ?_)
   |((with_reducible show EvL _ _ (.Call (.Name _ _) _ _ _) _);refine el_calR (by with_reducible assumption) (by exact⟨rfl,rfl,rfl,rfl,rfl⟩) (hr.mono (by decide)) (by rfl) ?_)
   |((with_reducible show EvL _ _ (.Call (.Attribute _ _ _) [] _ _) _);refine el_meth0R (by with_reducible assumption) (by exact⟨rfl,rfl,rfl,rfl,rfl⟩) (hr.mono (by decide)) ?_)
   |((with_reducible show EvL _ _ (.Subscript _ (.Slice _ _ none _) _) _);refine iT ?_)
   |((with_reducible show EvL _ _ (.BinOp _ .Add _ _) _);refine xQ ?_))
  |((with_reducible show EvW _ _ _ _);first
   |with_reducible refine iY ?_
   |with_reducible refine zn0 ?_
   |with_reducible refine kU ?_
   |with_reducible refine ze7 ?_)
  |((with_reducible show EvO _ _ _ _);first
   |with_reducible refine aF ?_
   |with_reducible refine bb ?_)
  |((with_reducible show mr _ _ _);first
   |refine ixk rfl rfl rfl ?_
   |refine gq ?_
   |refine pY ?_)
  |((with_reducible show InOk _ _ _ _);first
   |refine ink rfl rfl ?_
   |refine inkT rfl rfl ?_)
  |((with_reducible show lS _ _ _);first
   |with_reducible refine au ?_
   |with_reducible refine cU ?_
   |with_reducible refine eqk_bool ?_
   |refine eqk rfl rfl rfl rfl ?_)
  |((with_reducible show SvS _ _ _ _);first
   |((with_reducible show SvS _ (List.set _ _ _) _ _);dsimp only[List.set])
   |((with_reducible show SvS _ _ (zw _) _);show SvS _ _ (_::_) _)
   |((with_reducible show SvS _ _ (.Assign [.Name _ _] (.List [] _) _::_) _);exists wk,nd)
   |((with_reducible show SvS _ _ (.Assign [.Name _ _] _ _::_) _);exists yg,nd)
   |((with_reducible show SvS _ _ (.Expr (.Call (.Attribute _ "append" _) _ _ _) _::_) _);exists yq,rfl)
   |((with_reducible show SvS _ _ (.Return (some (.Name _ _)) _::_) _);exists xF,rfl)
   |with_reducible refine wU ?_
   |with_reducible refine sv_cont ?_
   |with_reducible refine sv_pass ?_
   |with_reducible refine xW ?_
   |with_reducible refine zE ?_
   |((with_reducible refine ag ?hk ?_);case hk=>first|rfl|decide +kernel)
   |((with_reducible refine uj ?hk ?_);case hk=>first|rfl|decide +kernel))
  |((with_reducible show xt _ _);refine⟨_,rfl,by first|decide|omega,by first|decide|(show _<big;unfold big;omega),fun _ _ _=>?_⟩)
  |((with_reducible refine zk0 ?hk ?_);case hk=>first|rfl|decide +kernel)
  |((with_reducible refine zo1 ?hk ?_);case hk=>first|rfl|decide +kernel)
  |refine⟨_,_,rfl,rfl,?_⟩
  |refine⟨_,_,_,rfl,rfl,rfl,?_⟩
  |refine⟨_,rfl,zt9 rfl,?_⟩
  |refine⟨_,rfl,rfl,?_⟩
  |refine⟨_,rfl,?_⟩))
namespace K43
open PySem PySem.Spec PyProof.Rows L2
abbrev pb :Stmt:=top 51
abbrev pM :Stmt:=top 52
section
variable {P:Program}{w:World}{K:PySem.W.Frag}{mg:Str→Option Value}{base:Heap}{cs:Cs}
theorem zl4 :zm ["_law_tape_here"] ["_law_tape_here"] (zb pb):=⟨rfl,rfl,rfl,by decide +kernel,rfl,by decide +kernel,by decide +kernel⟩
theorem jY {f:Addr}{fd:FuncData}(F:Fun K "_law_coins" "_law_coins" pb f fd)(hm:mg "_law_coins"=some (.ref f))(hb:Binds K fd ["_law_tape_here"] [])(CD:Cal P w K mg base "_law_draw" 1 xt):Cal P w K mg base "_law_coins" 2 qZ:=by
 refine wJ F hm hb zl4 (fun as Q h=>?_) (fun cdv A' outer s H E as Q hr h=>?_)
 ·obtain⟨rfl,_⟩:=h
  rfl
 ·obtain⟨rfl,q⟩:=h
  have nd:=zl4.nd
  and_intros
  exact pS rfl (by assumption) (by assumption) ⟨q _ (by omega) (by omega),q _ (by omega) (by omega),q _ (by omega) (by omega),q _ (by omega) (by omega),q _ (by omega) (by omega),trivial⟩
theorem zi7 :zm ["_law_tape_here","_law_word","_law_many"] ["_law_tape_here","_law_word"] (zb pM):=⟨rfl,rfl,rfl,by decide +kernel,rfl,by decide +kernel,by decide +kernel⟩
set_option maxHeartbeats 4000000 in
theorem jT {f:Addr}{fd:FuncData}(F:Fun K "_law_worth" "_law_worth" pM f fd)(hm:mg "_law_worth"=some (.ref f))(hb:Binds K fd ["_law_tape_here","_law_word"] [])(CD:Cal P w K mg base "_law_draw" 1 xt)(CC:Cal P w K mg base "_law_coins" 2 qZ):Cal P w K mg base "_law_worth" 3 nA:=by
 refine wJ F hm hb zi7 (fun as Q h=>?_) (fun cdv A' outer s H E as Q hr h=>?_)
 ·obtain⟨wd,rfl,_⟩:=h
  rfl
 ·obtain⟨wd,rfl,hw,q⟩:=h
  have nd:=zi7.nd
  have qc:∀z:Int,0≤z→z≤1000000000000→vj (.int z)=true:=fun z h0 h1=>within_int h0 h1
  have hbig:(1000000000001:Int)<big:=by decide
  have hneg:-big<(0:Int):=by decide
  have nc:∀z:Int,0≤z→z≤1000000000000→zH 5000 (.int z):=fun z h0 h1=>(zH.int (by omega) (by omega)).mono (by decide)
  have qn:zz (.str wd) .none=true→Q (.dat .none):=fun h=>q _ h (zH.none.mono (by decide)) (zt6 _)
  have qi:∀z:Int,0≤z→z≤1000000000000→zz (.str wd) (.int z)=true→Q (.dat (.int z)):=fun z a b h=>q _ h (nc z a b) (zt6 _)
  have qd:∀m f:Int,wd="deal"→2≤m→m≤14→1≤f→f<m→Q (.dat (.tuple [.int m,.int f])):=fun m f e a b c d=>by
   subst e
   obtain⟨x,y,z⟩:=cO a b c d
   exact q _ x y z
  have qp:∀z:Int,0≤z→z≤1000000000000→wd="price"→Q (.dat (.int z)):=fun z a b e=>by
   subst e
   exact qi z a b (by rw[xh,qc z a b,Bool.or_true])
  simp only[words,zs8,zt5,zv2] at hw
  rcases hw with rfl|rfl|rfl|rfl|rfl|rfl|rfl
  ·and_intros
   refine⟨rfl,fun z1 a1 b1=>?_⟩
   and_intros
   refine⟨rfl,fun z2 a2 b2=>?_⟩
   and_intros
   exact pS rfl (by assumption) (by assumption) ⟨qn (by rw[xh]<;>rfl),qp z1 a1 b1 rfl,qp z2 a2 b2 rfl,trivial⟩
  ·and_intros
   exact q _ (by rw[tN]<;>rfl) ((zH.bool _).mono (by decide)) (zt6 _)
  ·and_intros
   exact q _ (by rw[nu]<;>rfl) ((zH.bool _).mono (by decide)) (zt6 _)
  ·and_intros
   exact qi _ (by omega) (by omega) (by rw[wQ];exact within_int (by omega) (by omega))
  ·and_intros
   exact qi _ (by omega) (by omega) (by rw[vI];exact within_int (by omega) (by omega))
  ·and_intros
   exact pS rfl (by assumption) (by assumption) ⟨qn (by rw[vL]<;>rfl),qd _ _ rfl (by omega) (by omega) (by omega) (by omega),qd _ _ rfl (by omega) (by omega) (by omega) (by omega),qd _ _ rfl (by omega) (by omega) (by omega) (by omega),trivial⟩
  ·and_intros
   refine⟨rfl,fun z1 a1 b1=>?_⟩
   exact qi z1 a1 b1 (by rw[rW];exact qc z1 a1 b1)
end
structure wR (d:PyData):Prop where
 rule:yM d=true
 nice:zH 20011 d
 dep:d.depth≤2
 wn:zH 5000 (qO d)
def zC (ds:List PyData):Prop:=∀d∈ds,wR d
theorem qr {s:Str}(h:s∈words):zH 2000 (.str s):=by
 simp only[words,zs8,zt5,zv2] at h
 rcases h with rfl|rfl|rfl|rfl|rfl|rfl|rfl<;>exact⟨rfl,rfl,zt6 _,by decide +kernel,by decide +kernel⟩
theorem wR.of {s:Str}{i j:Int}{d:PyData}(hs:s∈words)(i0:0≤i)(ij:i≤j)(j1:j≤1000000)(hw:zz (.str s) d=true)(hn:zH 5000 d)(hd:d.depth≤1):wR (.tuple [.str s,.int i,.int j,d]):=by
 have hbig:(1000001:Int)<big:=by decide
 have hneg:-big<(0:Int):=by decide
 have na:yi 5000 [.str s,.int i,.int j,d]:=by
  constructor
  ·intro x hx
   simp only[zs8,zt5,zv2] at hx
   rcases hx with rfl|rfl|rfl|rfl
   ·exact (qr hs).mono (by decide)
   ·exact (zH.int (by omega) (by omega)).mono (by decide)
   ·exact (zH.int (by omega) (by omega)).mono (by decide)
   ·exact hn
  ·intro x hx
   simp only[zs8,zt5,zv2] at hx
   rcases hx with rfl|rfl|rfl|rfl
   ·exact zt6 _
   ·exact zt6 _
   ·exact zt6 _
   ·omega
 refine⟨?_,zH.tuple na (by show 4*(5000+2)+3≤20011;decide),?_,hn⟩
 ·show (yj (.tuple [.int i,.int j])&&zz (.str s) d)=true
  rw[hw,Bool.and_true]
  unfold yj rF
  have h1:(ub (.int i)&&ub (.int j))=true:=by
   show ((decide (0≤i)&&decide (i≤1000000))&&(decide (0≤j)&&decide (j≤1000000)))=true
   simp only[zv1,zv7]
   omega
  simp only[h1,if_true,zv7]
  omega
 ·simp only[PyData.depth,PyData.depthAll]
  omega
theorem zC.rules {ds:List PyData}(h:zC ds):Rules ds:=fun d hd=>⟨(h d hd).rule,(h d hd).nice.shaped,(h d hd).nice.nod⟩
theorem zC.nice {ds:List PyData}(h:zC ds)(hl:ds.length≤100):zH sizeLine (.list ds):=by
 refine zH.list (n:=20011) ⟨fun d hd=>(h d hd).nice,fun d hd=>by have:=(h d hd).dep;omega⟩ ?_
 have h2:ds.length*(20011+2)≤100*(20011+2):=zA7 _ hl
 have h3:100*(20011+2)+2≤sizeLine:=by decide
 omega
theorem cM {ds:List PyData}{lo hi:Option Int}{d:PyData}(h:d∈L2.cutD ds lo hi):d∈ds:=by
 unfold L2.cutD at h
 exact List.mem_of_mem_drop (zG6 h)
theorem bp {ds:List PyData}{lo hi:Option Int}:(L2.cutD ds lo hi).length≤ds.length:=by
 unfold L2.cutD
 rw[zu9,zx2]
 omega
def Bd (bs dy:Int):Prop:=0≤bs∧bs≤999980∧1≤dy∧dy≤14
theorem zC.app {ds es:List PyData}(h:zC ds)(h':zC es):zC (ds++es):=fun x hx=>by
 rcases zw7.mp hx with hx|hx
 ·exact h x hx
 ·exact h' x hx
theorem dJ {c:Int}(h0:0≤c)(h1:c≤1000000000000):vj (.int c)=true:=within_int h0 h1
def vh (lo hi:Int)(d:PyData):Prop:=∃(s:Str) (i j:Int) (v:PyData),d=.tuple [.str s,.int i,.int j,v]∧s∈words∧lo≤i∧i≤j∧j≤hi∧zz (.str s) v=true∧zH 5000 v∧v.depth≤1
def yx (lo hi:Int)(ds:List PyData):Prop:=∀d∈ds,vh lo hi d
theorem vh.of {lo hi:Int}{s:Str}{i j:Int}{d:PyData}(hs:s∈words)(i0:lo≤i)(ij:i≤j)(j1:j≤hi)(hw:zz (.str s) d=true)(hn:zH 5000 d)(hd:d.depth≤1):vh lo hi (.tuple [.str s,.int i,.int j,d]):=⟨s,i,j,d,rfl,hs,i0,ij,j1,hw,hn,hd⟩
theorem vh.ok {lo hi:Int}{d:PyData}(h:vh lo hi d)(h0:0≤lo)(h1:hi≤1000000):wR d:=by
 obtain⟨s,i,j,v,rfl,hs,i0,ij,j1,hw,hn,hd⟩:=h
 exact wR.of hs (by omega) ij (by omega) hw hn hd
theorem yx.ok {lo hi:Int}{ds:List PyData}(h:yx lo hi ds)(h0:0≤lo)(h1:hi≤1000000):zC ds:=fun d hd=>(h d hd).ok h0 h1
theorem yx.snoc {lo hi:Int}{ds:List PyData}{d:PyData}(h:yx lo hi ds)(hd:vh lo hi d):yx lo hi (ds++[d]):=fun x hx=>by
 rcases zw7.mp hx with hx|hx
 ·exact h x hx
 ·rw[zu8.mp hx];exact hd
theorem yx.app {lo hi:Int}{ds es:List PyData}(h:yx lo hi ds)(h':yx lo hi es):yx lo hi (ds++es):=fun x hx=>by
 rcases zw7.mp hx with hx|hx
 ·exact h x hx
 ·exact h' x hx
theorem yx.nil {lo hi:Int}:yx lo hi []:=fun x hx=>by simp at hx
theorem tW {lo hi i j c:Int}(i0:lo≤i)(ij:i≤j)(j1:j≤hi)(h0:0≤c)(h1:c≤1000000000000):vh lo hi (.tuple [.str "price",.int i,.int j,.int c]):=
 vh.of (by simp[words]) i0 ij j1 (by rw[xh,dJ h0 h1,Bool.or_true]) ((di (by omega) (by omega)).mono (by decide)) (zt6 _)
theorem lV {lo hi i j:Int}(i0:lo≤i)(ij:i≤j)(j1:j≤hi):vh lo hi (.tuple [.str "price",.int i,.int j,.none]):=
 vh.of (by simp[words]) i0 ij j1 (by rw[xh]<;>rfl) (zH.none.mono (by decide)) (zt6 _)
def BdW (bs dy:Int):Prop:=0≤bs∧bs≤1000000∧1≤dy∧dy≤20
abbrev qH :Stmt:=top 53
abbrev pR :Stmt:=top 54
abbrev pP :Stmt:=top 55
def xZ :List A→(A→Prop)→Prop:=fun as Q=>∃bs dy:Int,as=[.tape,.dat (.int bs),.dat (.int dy)]∧BdW bs dy∧∀ds,yx bs (bs+dy+5) ds→ds.length≤5→Q (.own ds)
def nM :List A→(A→Prop)→Prop:=fun as Q=>∃bs dy:Int,as=[.tape,.dat (.int bs),.dat (.int dy)]∧BdW bs dy∧∀ds,yx bs (bs+dy+5) ds→ds.length≤10→Q (.dat (.list ds))
section
variable {P:Program}{w:World}{K:PySem.W.Frag}{mg:Str→Option Value}{base:Heap}
theorem fj :zm ["_law_tape_here","_law_base","_law_days","_law_found","_law_k","_law_first","_law_worth_here"] ["_law_tape_here","_law_base","_law_days"] (zb qH):=⟨rfl,rfl,rfl,by decide +kernel,rfl,by decide +kernel,by decide +kernel⟩
set_option maxHeartbeats 4000000 in
theorem ka {f:Addr}{fd:FuncData}(F:Fun K "_law_price_rules" "_law_price_rules" qH f fd)(hm:mg "_law_price_rules"=some (.ref f))(hb:Binds K fd ["_law_tape_here","_law_base","_law_days"] [])(nb:NbT mg)(CD:Cal P w K mg base "_law_draw" 1 xt)(CC:Cal P w K mg base "_law_coins" 2 qZ):Cal P w K mg base "_law_price_rules" 3 xZ:=by
 refine wJ F hm hb fj (fun as Q h=>?_) (fun cdv A' outer s H E as Q hr h=>?_)
 ·obtain⟨bs,dy,rfl,_⟩:=h
  rfl
 ·obtain⟨bs,dy,rfl,⟨b1,b2,b3,b4⟩,q⟩:=h
  have hbig:(1000001:Int)<big:=by decide
  refine wk 3 fj.nd (yN (zd (xk (zd (yd (zd (zf 1 rfl (zd (xp (zf 1 rfl (zf 2 rfl (⟨_,_,rfl,rfl,zd (yk CC hr (by rfl) (zX 0 rfl (zp (⟨rfl,fun c1 p1 q1=>zp (⟨_,rfl,zt9 rfl,zp (⟨_,rfl,zt9 rfl,?_⟩)⟩)⟩))))⟩))))))))))))
  refine wV (pat:=.one 4) zy3 rfl (zL (i:=4) fj.nd rfl (by first|exact Or.inl rfl|exact Or.inr rfl)) (wg (by rfl) nb.range (yk CD (hr.mono (by decide)) (by rfl) (zX 0 rfl (zd (zJ (zp (⟨_,rfl,by decide,by decide,fun v2 h2 g2=>⟨_,rfl,by omega,by omega,?_⟩⟩)))))))
  refine yL (fun i α=>∃v4 v5 v6 ds,α=[some .tape,some (.dat (.int bs)),some (.dat (.int dy)),some (.own ds),v4,v5,v6]∧yx bs (bs+dy+5) ds∧ds.length≤1+i) ⟨none,none,none,_,rfl,yx.nil.snoc (tW (by omega) (by omega) (by omega) p1 q1),zs9 _⟩ ?_ ?_
  ·rintro i d α hd ⟨v4,v5,v6,ds,rfl,ro,ld⟩
   have hi:i<4:=by
    have:=(zt0.mp hd).1
    rw[zs4,zh] at this
    omega
   refine⟨_,rfl,?_⟩
   refine yg 5 fj.nd (xp (zf 1 rfl (yk CD (hr.mono (by decide)) (by rfl) (zX 0 rfl (zd (zf 2 rfl (zp (⟨_,rfl,by omega,by omega,fun v3 h3 g3=>⟨_,_,rfl,rfl,?_⟩⟩))))))))
   refine yg 6 fj.nd (EvD.imp (Q':=fun d=>d=.none∨∃c:Int,d=.int c∧0≤c∧c≤1000000000000) (lE (fun _ _=>rfl) (EvL.d (yN (zd (qG (zd (yk CC hr (by rfl) (zX 0 rfl (zp (⟨rfl,fun c7 p7 q7=>zd (yk CC hr (by rfl) (zX 0 rfl (zp (⟨rfl,fun c6 p6 q6=>zd (yk CC hr (by rfl) (zX 0 rfl (zp (⟨rfl,fun c5 p5 q5=>zp (⟨_,rfl,zt9 rfl,yk CD (hr.mono (by decide)) (by rfl) (zX 0 rfl (zd (zJ (zp (⟨_,rfl,by decide,by decide,fun v4 h4 g4=>?pick⟩)))))⟩)⟩))))⟩))))⟩)))))))))) ?_)
   case pick=>
    obtain⟨z,hz,e⟩:=oP (ds:=[PyData.none,.int c7,.int c6,.int c5]) h4 g4
    refine⟨_,_,z,rfl,rfl,e,?_⟩
    simp only[zs8,zt5,zv2] at hz
    rcases hz with rfl|rfl|rfl|rfl
    ·exact .inl rfl
    ·exact .inr ⟨_,rfl,p7,q7⟩
    ·exact .inr ⟨_,rfl,p6,q6⟩
    ·exact .inr ⟨_,rfl,p5,q5⟩
   intro d6 hd6
   refine yq 3 rfl (xk (zd (yd (zd (zf 5 rfl (zd (xp (zf 5 rfl (yk CD (hr.mono (by decide)) (by rfl) (zX 0 rfl (zd (zJ (zp (⟨_,rfl,by decide,by decide,fun v8 h8 g8=>⟨_,_,rfl,rfl,zd (zf 6 rfl (zp (⟨_,rfl,zt9 rfl,⟨by omega,?_⟩⟩)))⟩⟩))))))))))))))
   refine zE ⟨some (.dat d),some (.dat (.int (bs+v3))),some (.dat d6),ds++[.tuple [.str "price",.int (bs+v3),.int (bs+v3+v8),d6]],rfl,ro.snoc ?_,by rw[zu3,zF7];omega⟩
   rcases hd6 with rfl|⟨c,rfl,c0,c1⟩
   ·exact lV (by omega) (by omega) (by omega)
   ·exact tW (by omega) (by omega) (by omega) c0 c1
  ·rintro α ⟨v4,v5,v6,ds,rfl,ro,ld⟩
   rw[zs4,zh] at ld
   exact xF 3 rfl (q ds ro (by omega))
theorem fv :zm ["_law_tape_here","_law_base","_law_days","_law_found","_law_k","_law_word","_law_first"] ["_law_tape_here","_law_base","_law_days"] (zb pR):=⟨rfl,rfl,rfl,by decide +kernel,rfl,by decide +kernel,by decide +kernel⟩
set_option maxHeartbeats 4000000 in
theorem lB {f:Addr}{fd:FuncData}(F:Fun K "_law_other_rules" "_law_other_rules" pR f fd)(hm:mg "_law_other_rules"=some (.ref f))(hb:Binds K fd ["_law_tape_here","_law_base","_law_days"] [])(nb:NbT mg)(CD:Cal P w K mg base "_law_draw" 1 xt)(CW:Cal P w K mg base "_law_worth" 3 nA):Cal P w K mg base "_law_other_rules" 4 xZ:=by
 refine wJ F hm hb fv (fun as Q h=>?_) (fun cdv A' outer s H E as Q hr h=>?_)
 ·obtain⟨bs,dy,rfl,_⟩:=h
  rfl
 ·obtain⟨bs,dy,rfl,⟨b1,b2,b3,b4⟩,q⟩:=h
  have hbig:(1000001:Int)<big:=by decide
  refine wk 3 fv.nd (yN (zp (⟨_,rfl,zt9 rfl,?_⟩)))
  refine wV (pat:=.one 4) zy3 rfl (zL (i:=4) fv.nd rfl (by first|exact Or.inl rfl|exact Or.inr rfl)) (wg (by rfl) nb.range (yk CD (hr.mono (by decide)) (by rfl) (zX 0 rfl (zd (zJ (zp (⟨_,rfl,by decide,by decide,fun v1 h1 g1=>⟨_,rfl,by omega,by omega,?_⟩⟩)))))))
  refine yL (fun i α=>∃v4 v5 v6 ds,α=[some .tape,some (.dat (.int bs)),some (.dat (.int dy)),some (.own ds),v4,v5,v6]∧yx bs (bs+dy+5) ds∧ds.length≤i) ⟨none,none,none,_,rfl,yx.nil,zs9 _⟩ ?_ ?_
  ·rintro i d α hd ⟨v4,v5,v6,ds,rfl,ro,ld⟩
   have hi:i<5:=by
    have:=(zt0.mp hd).1
    rw[zs4,zh] at this
    omega
   refine⟨_,rfl,?_⟩
   refine yg 5 fv.nd (EvD.imp (Q':=fun d=>∃x,d=.str x∧x∈words) (lE (fun _ _=>rfl) (EvL.d (yN (zd (yd (zd (yd (zd (yd (zd (yd (zd (yd (zd (yd (zp (⟨_,rfl,zt9 rfl,yk CD (hr.mono (by decide)) (by rfl) (zX 0 rfl (zd (zJ (zp (⟨_,rfl,by decide,by decide,fun v2 h2 g2=>?pick⟩)))))⟩))))))))))))))))) ?_)
   case pick=>
    obtain⟨z,hz,e⟩:=oP (ds:=[PyData.str "come",.str "go",.str "least",.str "most",.str "deal",.str "fee"]) h2 g2
    refine⟨_,_,z,rfl,rfl,e,?_⟩
    simp only[zs8,zt5,zv2] at hz
    rcases hz with rfl|rfl|rfl|rfl|rfl|rfl<;>exact⟨_,rfl,by simp[words]⟩
   rintro _ ⟨wd,rfl,hw⟩
   refine yg 6 fv.nd (xp (zf 1 rfl (yk CD (hr.mono (by decide)) (by rfl) (zX 0 rfl (zd (zf 2 rfl (zp (⟨_,rfl,by omega,by omega,fun v3 h3 g3=>⟨_,_,rfl,rfl,?_⟩⟩))))))))
   refine yq 3 rfl (xk (zd (zf 5 rfl (zd (zf 6 rfl (zd (xp (zf 6 rfl (yk CD (hr.mono (by decide)) (by rfl) (zX 0 rfl (zd (zJ (zp (⟨_,rfl,by decide,by decide,fun v5 h5 g5=>⟨_,_,rfl,rfl,zd (yk CW hr (by rfl) (zX 0 rfl (zd (zf 5 rfl (zp (⟨_,rfl,hw,fun d4 a4 b4 c4=>zp (⟨_,rfl,zt9 rfl,⟨by omega,?_⟩⟩)⟩))))))⟩⟩))))))))))))))
   exact zE ⟨some (.dat d),some (.dat (.str wd)),some (.dat (.int (bs+v3))),ds++[.tuple [.str wd,.int (bs+v3),.int (bs+v3+v5),d4]],rfl,ro.snoc (vh.of hw (by omega) (by omega) (by omega) a4 b4 c4),by rw[zu3,zF7];omega⟩
  ·rintro α ⟨v4,v5,v6,ds,rfl,ro,ld⟩
   rw[zs4,zh] at ld
   exact xF 3 rfl (q ds ro (by omega))
theorem za7 :zm ["_law_tape_here","_law_base","_law_days","_law_ones","_law_others"] ["_law_tape_here","_law_base","_law_days"] (zb pP):=⟨rfl,rfl,rfl,by decide +kernel,rfl,by decide +kernel,by decide +kernel⟩
set_option maxHeartbeats 4000000 in
theorem mK {f:Addr}{fd:FuncData}(F:Fun K "_law_rules" "_law_rules" pP f fd)(hm:mg "_law_rules"=some (.ref f))(hb:Binds K fd ["_law_tape_here","_law_base","_law_days"] [])(CD:Cal P w K mg base "_law_draw" 1 xt)(CP:Cal P w K mg base "_law_price_rules" 3 xZ)(CO:Cal P w K mg base "_law_other_rules" 4 xZ):Cal P w K mg base "_law_rules" 5 nM:=by
 refine wJ F hm hb za7 (fun as Q h=>?_) (fun cdv A' outer s H E as Q hr h=>?_)
 ·obtain⟨bs,dy,rfl,_⟩:=h
  rfl
 ·obtain⟨bs,dy,rfl,bd,q⟩:=h
  refine yg 3 za7.nd (EvL.d (wo CP (hr.mono (by decide)) (by rfl) (zX 0 rfl (zd (zf 1 rfl (zd (zf 2 rfl (zp (⟨_,_,rfl,bd,fun ds1 r1 l1=>⟨_,rfl,?_⟩⟩)))))))))
  refine yg 4 za7.nd (EvL.d (wo CO hr (by rfl) (zX 0 rfl (zd (zf 1 rfl (zd (zf 2 rfl (zp (⟨_,_,rfl,bd,fun ds2 r2 l2=>⟨_,rfl,?_⟩⟩)))))))))
  refine wU (lE (fun _ _=>rfl) (EvL.d (yN (zd (EvL.d (xQ (zf 3 rfl (zf 4 rfl (⟨_,_,rfl,rfl,by omega,zd (EvL.d (xQ (zf 4 rfl (zf 3 rfl (⟨_,_,rfl,rfl,by omega,zp (⟨_,rfl,zt9 rfl,yk CD (hr.mono (by decide)) (by rfl) (zX 0 rfl (zd (zJ (zp (⟨_,rfl,by decide,by decide,fun v3 h3 g3=>?_⟩)))))⟩)⟩)))))⟩)))))))))
  obtain⟨z,hz,e⟩:=oP (ds:=[PyData.list (ds1++ds2),.list (ds2++ds1)]) h3 g3
  refine⟨_,_,z,rfl,rfl,e,?_⟩
  simp only[zs8,zt5,zv2] at hz
  rcases hz with rfl|rfl
  ·exact q _ (r1.app r2) (by rw[zu3];omega)
  ·exact q _ (r2.app r1) (by rw[zu3];omega)
def gZ :List A→(A→Prop)→Prop:=fun as Q=>∃bs dy:Int,as=[.tape,.dat (.int bs),.dat (.int dy)]∧Bd bs dy∧∀ds,zC ds→ds.length≤5→Q (.own ds)
def oI :List A→(A→Prop)→Prop:=fun as Q=>∃bs dy:Int,as=[.tape,.dat (.int bs),.dat (.int dy)]∧Bd bs dy∧∀ds,zC ds→ds.length≤10→Q (.dat (.list ds))
theorem zi5 {x:Str}{k:Nat}(C:Cal P w K mg base x k xZ):Cal P w K mg base x k gZ:=C.imp fun as Q h=>by
 obtain⟨bs,dy,rfl,⟨b1,b2,b3,b4⟩,q⟩:=h
 exact⟨bs,dy,rfl,⟨b1,by omega,b3,by omega⟩,fun ds rw l=>q ds (rw.ok (by omega) (by omega)) l⟩
theorem iC {x:Str}{k:Nat}(C:Cal P w K mg base x k nM):Cal P w K mg base x k oI:=C.imp fun as Q h=>by
 obtain⟨bs,dy,rfl,⟨b1,b2,b3,b4⟩,q⟩:=h
 exact⟨bs,dy,rfl,⟨b1,by omega,b3,by omega⟩,fun ds rw l=>q ds (rw.ok (by omega) (by omega)) l⟩
end
abbrev qP :Stmt:=top 9
def sD :List A→(A→Prop)→Prop:=fun as Q=>∃c g:Int,as=[.dat (.tuple [.int c,.int g])]∧-100≤c∧c<g∧g≤c+500∧c≤1000100∧Q (.own ((zu c (g-c).toNat).map .int))
section
variable {P:Program}{w:World}{K:PySem.W.Frag}{mg:Str→Option Value}{base:Heap}{cs:Cs}
theorem zs1 :zm ["stay"] ["stay"] (zb qP):=⟨rfl,rfl,rfl,by decide +kernel,rfl,by decide +kernel,by decide +kernel⟩
theorem mM {f:Addr}{fd:FuncData}(F:Fun K "nights_of" "nights_of" qP f fd)(hm:mg "nights_of"=some (.ref f))(hb:Binds K fd ["stay"] [])(nb:NbT mg):Cal P w K mg base "nights_of" 1 sD:=by
 refine wJ F hm hb zs1 (fun as Q h=>?_) (fun cdv A' outer s H E as Q hr h=>?_)
 ·obtain⟨c,g,rfl,_⟩:=h
  rfl
 ·obtain⟨c,g,rfl,h1,h2,h3,h4,q⟩:=h
  exact qR (dE rfl (by rfl) nb.list (by rfl) nb.range (xO (fun _ _=>rfl) (zf 0 rfl (zJ (⟨_,_,_,rfl,rfl,rfl,xO (fun _ _=>rfl) (zf 0 rfl (zJ (⟨_,_,_,rfl,rfl,rfl,⟨_,_,rfl,rfl,⟨by omega,by omega,by omega,by omega⟩,by omega,q⟩⟩)))⟩)))))
end
abbrev yH :Stmt:=top 17
def qk :Arguments×Scope:=match zw yH with
 |[.Return (some (.Call _ _ [⟨_,.Lambda ps _ sc _,_⟩] _)) _]=>(ps,sc)
 |_=>(zK yH,zb yH)
section
variable {P:Program}{w:World}{K:PySem.W.Frag}{mg:Str→Option Value}{base:Heap}
theorem bZ :zm ["prices","places"] ["prices","places"] (zb yH):=⟨rfl,rfl,rfl,by decide +kernel,rfl,by decide +kernel,by decide +kernel⟩
theorem zp1 :xR "place" "prices" qk.1 qk.2:=⟨rfl,rfl,rfl,rfl,rfl,by decide +kernel,by decide +kernel,by decide⟩
theorem zf8 {f c:Addr}{A':Around}{outer:List Env}{s:Shared}{H:Hp}{E:XK}{n1:Nat}{p1 p2 p3 p4 p5 p6:Pos}(hhd:PySem.W.codeHdIn K c yr=true)(KX:K.In base)(hbi:base.BuiltinsAt mg yr):
  iX (vQ CX0 P w K mg base ["prices","places"] "cheapest_first" (zb yH) f (.ref c) A' outer s H E).nox c "place" "prices" n1 p1 p2 p3 p4 p5 p6 qk.1 qk.2 where
 S:=zp1
 hy:=rfl
 hcl:=fun cl h=>by
  have e:qk.2.names=[(("prices":Str),NameKind.free),(("place":Str),NameKind.local)]∨qk.2.names=[(("place":Str),NameKind.local),(("prices":Str),NameKind.free)]:=by decide +kernel
  unfold closureFor
  rcases e with e|e<;>rw[e]<;>simp[cellOf,h]
 hgl:=rfl
 hco:=rfl
 hhd:=PySem.W.codeHd_of_K KX hhd
 hbi:=hbi
 hdf:=rfl
 hq:=rfl
 hne:=by decide
 hb:=fun u cl c' pm ctv=>rfl
 hdx:=by decide
 hdy:=by decide
 hcx:=by decide
 hcy:=by decide
def qD :List A→(A→Prop)→Prop:=fun as Q=>∃ns zs:List Int,as=[.dat (.list (zs.map .int)),.dat (.list (ns.map .int))]∧ns.length<64∧(∀n∈ns,0≤n∧n<zs.length)∧∀ms,sf ns zs ms→Q (.own (ms.map .int))
theorem jG {f c:Addr}{oc:Value}{od an:Option Addr}{osl:Array (Option Value)}{kV doc pm ct:Value}(lk:K.lookup f=some ⟨oc,od,.func (PySem.W.fnOf "cheapest_first" "cheapest_first" (zK yH) (zw yH) (zb yH) .none kV doc pm an (.ref c) ct),osl⟩)(hcd:PySem.W.codeIn K (.ref c) "cheapest_first"=true)(kp:PySem.W.keepIn K (.ref f)=true)
  (hm:mg "cheapest_first"=some (.ref f)) (hb:Binds K (PySem.W.fnOf "cheapest_first" "cheapest_first" (zK yH) (zw yH) (zb yH) .none kV doc pm an (.ref c) ct) ["prices","places"] []) (nb:NbT mg) (hhd:PySem.W.codeHdIn K c yr=true) (KX:K.In base) (hbi:base.BuiltinsAt mg yr):Cal P w K mg base "cheapest_first" 3 qD:=by
 refine⟨f,_,_,hm,kp,hb,zp7 lk hcd bZ (fun as Q h=>by obtain⟨ns,zs,rfl,_⟩:=h;rfl) fun A' outer s H E as Q hr h=>?_⟩
 obtain⟨ns,zs,rfl,h64,hin,q⟩:=h
 exact qR (mj (j:=0) (k:=0) (zf8 hhd KX hbi) hr (by rfl) nb.sorted rfl (zf 1 rfl ⟨ns,zs,rfl,rfl,h64,hin,fun ms sm=>q ms sm⟩))
end
abbrev vn :Stmt:=top 18
def zp0 :Scope:=match zw vn with
 |.Assign _ (.ListComp _ _ sc _) _::_=>sc
 |_=>zb vn
def sM :List A→(A→Prop)→Prop:=fun as Q=>∃(zs:List Int) (d:PyData),as=[.dat (.list (zs.map .int)),.dat d]∧zs.length≤500∧
 ((d=.none∧Q (.own ((List.replicate zs.length false).map .bool)))∨∃many free:Nat,d=.tuple [.int many,.int free]∧0<many∧many<64∧∀bs,vG zs many free zs.length bs→Q (.own (bs.map .bool)))
theorem iq (ns:List Int):uZ (ns.map .int)=true:=by
 induction ns with
 |nil=>rfl
 |cons n ns ih=>rw[zw5,uZ,ih];rfl
section
variable {P:Program}{w:World}{K:PySem.W.Frag}{mg:Str→Option Value}{base:Heap}
theorem mW :zm ["prices","deal","marks","bundle","place","rank","other"] ["prices","deal"] (zb vn):=⟨rfl,rfl,rfl,by decide +kernel,rfl,by decide +kernel,by decide +kernel⟩
theorem zn1 :zI ["prices","deal","marks","bundle","place","rank","other"] (zb vn) ["price"] [none] zp0:=⟨rfl,by decide +kernel,by decide +kernel,by decide +kernel,by decide +kernel,rfl,by decide +kernel⟩
set_option maxHeartbeats 4000000 in
theorem ly {f:Addr}{fd:FuncData}(F:Fun K "marked" "marked" vn f fd)(hm:mg "marked"=some (.ref f))(hb:Binds K fd ["prices","deal"] [])(nb:NbT mg)(CC:Cal P w K mg base "cheapest_first" 3 qD):Cal P w K mg base "marked" 4 sM:=by
 refine wJ F hm hb mW (fun as Q h=>?_) (fun cdv A' outer s H E as Q hr h=>?_)
 ·obtain⟨zs,d,rfl,_⟩:=h
  rfl
 ·obtain⟨zs,d,rfl,hlen,h⟩:=h
  refine aQ 2 (pat:=.one 0) mW.nd rfl zn1 rfl (fun _ _ _ _=>zL (i:=0) zn1.nd rfl (Or.inl rfl)) (wC (zf 0 rfl ⟨_,rfl,?_,?comp⟩))
  ·rw[zs4];omega
  refine vM (fun _=>true) (fun _=>.bool false) (fun d hd=>⟨_,rfl,fun _ _ _ _ _ k=>mi k,fun _ _ _ _ _ _ k=>za0 k⟩) ?_
  have e0:([]:List PyData)++List.map (fun _=>PyData.bool false) (List.filter (fun _=>true) (List.map PyData.int zs))=(List.replicate zs.length false).map .bool:=by
   rw[zB8,gW,zG4,List.map_replicate]
   exact List.eq_replicate_iff.mpr ⟨by simp,by simp⟩
  rw[e0]
  rcases h with ⟨rfl,q⟩|⟨many,free,rfl,hp,hm64,q⟩
  ·refine xW (wL (zf 1 rfl ?_))
   exact xF 2 rfl q
  refine xW (wL (zf 1 rfl (zE ?_)))
  refine wk 3 mW.nd (yN (zp ⟨_,rfl,zt6 _,?_⟩))
  refine wV (pat:=.one 4) zy3 rfl (zL (i:=4) mW.nd rfl (Or.inl rfl)) (wg (by rfl) nb.range (ph (by rfl) nb.len (zf 0 rfl ⟨_,rfl,⟨_,rfl,by omega,by rw[zs4];omega,?_⟩⟩)))
  refine yL (fun i α=>∃(bs:List Bool) (o4 o5 o6:Option A),vG zs many free i bs∧α=[some (.dat (.list (zs.map .int))),some (.dat (.tuple [.int many,.int free])),some (.own (bs.map .bool)),some (.own ((zu ((i / many*many:Nat):Int) (i % many)).map .int)),o4,o5,o6]) ?_ ?_ ?_
  ·refine⟨_,none,none,none,iJ zs free,?_⟩
   rw[Nat.zero_mod,Nat.zero_div]
   rfl
  ·rintro i d α hd ⟨bs,o4,o5,o6,mk,rfl⟩
   have hi:i<zs.length:=by
    have:=(zt0.mp hd).1
    simpa[zh] using this
   obtain rfl:d=.int (i:Int):=by
    rw[zu0,wx (by simpa using hi)] at hd
    simpa using hd.symm
   refine⟨_,rfl,?_⟩
   have hmod:=Nat.mod_lt i hp
   refine yq 3 rfl (zf 4 rfl ⟨by rw[zs4,zh];omega,?_⟩)
   have eb:List.map PyData.int (zu ((i / many*many:Nat):Int) (i % many))++[PyData.int (i:Int)]=(zu ((i / many*many:Nat):Int) (i % many+1)).map .int:=by
    have e:=zD6 i many
    have e4:i / many*many=many*(i / many):=Nat.mul_comm _ _
    rw[oR,zw3]
    congr 1
    simp only[zw5,List.map_nil]
    congr 2
    omega
   rw[eb]
   refine xW (kg 3 rfl (zb5 (ph (by rfl) nb.len (zf 3 rfl ⟨_,rfl,xO (fun _ _=>rfl) (zf 1 rfl (zJ ⟨_,_,_,rfl,rfl,at0,_,_,rfl,rfl,?_⟩))⟩))))
   refine eM (fun hc=>?_) (fun hc=>zE ?_)
   ·have hfull:i % many+1=many:=by
     rw[zs4,zh] at hc
     omega
    rw[hfull]
    have hin:∀n∈zu ((i / many*many:Nat):Int) many,0≤n∧n<zs.length:=fun n hn=>by
     rw[yF] at hn
     have e:=zD6 i many
     have e4:i / many*many=many*(i / many):=Nat.mul_comm _ _
     omega
    refine wV (pat:=.many [5,6]) zy3 rfl (wY (n:=2) (K:=K) rfl rfl (xf (zL (i:=5) mW.nd rfl (Or.inl rfl)) (xf (zL (i:=6) mW.nd rfl (Or.inl rfl)) (uf))))
     (kO (by rfl) nb.enumerate (EvL.d (bK 3 rfl (wo CC hr (by rfl) (zd (zf 0 rfl (zd (zf 3 rfl (zp ⟨_,zs,rfl,by rw[zh];exact hm64,hin,fun ms sm=>⟨_,rfl,iq ms,_,rfl,?_⟩⟩)))))))))
    have hml:ms.length=many:=by rw[sm.1.length_eq,zh]
    refine yL (fun r α=>∃(bs':List Bool) (p5 p6:Option A),(bs'.length=bs.length∧(∀q,q<r→bs'.getD (ms.getD q 0).toNat false=decide (q<free))∧∀j,(∀q,q<r→(ms.getD q 0).toNat≠j)→bs'.getD j false=bs.getD j false)∧
     α=[some (.dat (.list (zs.map .int))),some (.dat (.tuple [.int many,.int free])),some (.own (bs'.map .bool)),some (.own ((zu ((i / many*many:Nat):Int) many).map .int)),some (.dat (.int i)),p5,p6]) ?_ ?_ ?_
    ·exact⟨bs,o5,o6,⟨rfl,fun q h=>absurd h (Nat.not_lt_zero _),fun _ _=>rfl⟩,rfl⟩
    ·rintro r d α hd ⟨bs',p5,p6,⟨f0,f1,f2⟩,rfl⟩
     obtain⟨e,he,rfl⟩:=vp hd
     have hr':r<ms.length:=by
      have:=(zt0.mp he).1
      simpa using this
     obtain rfl:e=.int (ms.getD r 0):=by
      rw[zu0,zs6 hr'] at he
      rw[zs7,zs6 hr']
      simpa using he.symm
     refine⟨_,rfl,?_⟩
     have hmem:=vo sm (q:=r) (by omega)
     have hub:=hin (ms.getD r 0) (yF.mpr hmem)
     obtain⟨j,hj⟩:=zB4 hub.1
     rw[hj]
     have jl:j<bs'.length:=by rw[f0,mk.1];omega
     refine zf1 2 rfl (aT (zf 5 rfl (xO (fun _ _=>rfl) (zf 1 rfl (zJ ⟨_,_,_,rfl,rfl,yY (j:=1) rfl,_,_,rfl,rfl,zf 6 rfl ⟨_,j,rfl,?_,zE ?_⟩⟩)))))
     ·unfold ixN
      rw[if_pos (by omega),if_pos (by rw[zs4];omega)]
      simp
     ·refine⟨bs'.set j (decide (r<free)),some (.dat (.int ((0+r:Nat):Int))),some (.dat (.int (j:Int))),⟨?_,fun q hq=>?_,fun l hl=>?_⟩,?_⟩
      ·rw[zx6,f0]
      ·by_cases hqr:q=r
       ·subst hqr
        rw[hj,zA4,zs7,zz8 jl]
        rfl
       ·have hne:(ms.getD q 0).toNat≠j:=fun z=>by
         have nd:ms.Nodup:=sm.1.nodup_iff.mpr (qu _ _)
         have a1:=(vo sm (q:=q) (by omega)).1
         have z2:ms.getD q 0=ms.getD r 0:=by rw[hj];omega
         rw[zs7,zs7,zs6 (by omega),zs6 hr'] at z2
         exact (zA6.mp nd q r (by omega) hr' (by omega)) z2
        rw[zs7,zw8 hne.symm,←zs7,f1 q (by omega)]
      ·have hne:j≠l:=fun z=>hl r (zC5 _) (by rw[hj];omega)
       rw[zs7,zw8 hne,←zs7,f2 l fun q hq=>hl q (by omega)]
      ·have ed:decide (((0+r:Nat):Int)<(free:Int))=decide (r<free):=by
        rw[decide_eq_decide];omega
       rw[ed,List.map_set]
       rfl
    ·rintro α ⟨bs',p5,p6,⟨f0,f1,f2⟩,rfl⟩
     refine wk 3 mW.nd (yN (zp ⟨_,rfl,zt6 _,zE ?_⟩))
     rw[vm,zs4,hml] at f1 f2
     refine zE ?_
     refine⟨bs',some (.dat (.int i)),p5,p6,jC hp hfull mk sm f0 f1 f2,?_⟩
     rw[(oJ hp hfull).2.1]
     rfl
   ·have hmore:i % many+1<many:=by
     rw[zs4,zh] at hc
     omega
    refine zE ?_
    refine⟨bs,some (.dat (.int i)),o5,o6,jm hp hmore mk,?_⟩
    rw[(sC hp hmore).1,(sC hp hmore).2]
    rfl
  ·rintro α ⟨bs,o4,o5,o6,mk,rfl⟩
   have el:(List.map PyData.int (zu 0 ((List.map PyData.int zs).length:Int).toNat)).length=zs.length:=by simp[zh]
   rw[el] at mk
   exact xF 2 rfl (q bs mk)
end
abbrev sNP :Stmt:=top 19
abbrev uH :Stmt:=top 20
def bf :Scope:=match (zw uH).getD 5 (.Pass ⟨0,0,0,0⟩) with
 |.Assign _ (.Call _ [.ListComp _ _ sc _] _ _) _=>sc
 |_=>zb uH
def zj0 (C:Addr)(cs:Cs):List A→(A→Prop)→Prop:=fun as Q=>∃(ds:List PyData) (ns:List Int) (pr:Int→Int),as=[.dat (yC C cs ds),.dat (.list (ns.map .int))]∧Rules ds∧ns.length≤900∧(∀z∈ns,zj ds "price" z=.int (pr z))∧Q (.own ((ns.map pr).map .int))
def gO (C:Addr)(cs:Cs):List A→(A→Prop)→Prop:=fun as Q=>∃(ds:List PyData) (c g fee:Int) (pr:Int→Int),as=[.dat (yC C cs ds),.dat (.tuple [.int c,.int g])]∧Rules ds∧0≤c∧c<g∧g≤c+400∧c≤1000000∧(∀z,c≤z→z<g→zj ds "price" z=.int (pr z)∧0≤pr z∧pr z≤1000000000000)∧
 (zj ds "deal" c=.none∨∃many free:Nat,zj ds "deal" c=.tuple [.int many,.int free]∧0<many∧many<64)∧zj ds "fee" c=.int fee∧
 ∀bs,xV (zj ds "deal" c) ((zu c (g-c).toNat).map pr) bs→Q (.dat (.tuple [.int ((yp ((zu c (g-c).toNat).map pr) bs).sum+fee),.list (xT ((zu c (g-c).toNat).map .int) (((zu c (g-c).toNat).map pr).map .int) (bs.map .bool)),.int fee]))
section
variable {P:Program}{w:World}{K:PySem.W.Frag}{mg:Str→Option Value}{base:Heap}{cs:Cs}
theorem bG :zm ["book","nights","prices","night","price"] ["book","nights"] (zb sNP):=⟨rfl,rfl,rfl,by decide +kernel,rfl,by decide +kernel,by decide +kernel⟩
set_option maxHeartbeats 4000000 in
theorem zh9 {f C:Addr}{fd:FuncData}(F:Fun K "night_prices" "night_prices" sNP f fd)(hm:mg "night_prices"=some (.ref f))(hb:Binds K fd ["book","nights"] [])(MT:wc P w K mg base C "tells_of" 2 (uh C cs)):Cal P w K mg base "night_prices" 3 (zj0 C cs):=by
 refine wJ F hm hb bG (fun as Q h=>?_) (fun cdv A' outer s H E as Q hr h=>?_)
 ·obtain⟨ds,ns,pr,rfl,_⟩:=h
  rfl
 ·obtain⟨ds,ns,pr,rfl,rd,hl,hp,q⟩:=h
  refine wk 2 bG.nd (yN (zp ⟨_,rfl,zt6 _,?_⟩))
  refine wV (pat:=.one 3) zy3 rfl (zL (i:=3) bG.nd rfl (Or.inl rfl)) (wC (zf 1 rfl ⟨_,rfl,?_⟩))
  refine yL (fun i α=>∃o3 o4:Option A,α=[some (.dat (yC C cs ds)),some (.dat (.list (ns.map .int))),some (.own (((ns.take i).map pr).map .int)),o3,o4]) ⟨none,none,rfl⟩ ?_ ?_
  ·rintro i d α hd ⟨o3,o4,rfl⟩
   rw[zu0,zv9] at hd
   obtain⟨z,hz,rfl⟩:=hd
   have hi:i<ns.length:=(zt0.mp hz).1
   have e:=hp z (zz4 hz)
   refine⟨_,rfl,?_⟩
   refine yg 4 bG.nd (yX MT hr (zf 0 rfl ⟨_,rfl,rfl,zd (yd (zd (zf 3 rfl (zp ⟨ds,_,_,rfl,rd,by simp[words],?_⟩))))⟩))
   show SvS _ (List.set _ _ (some (.dat (zj ds "price" z)))) _ _
   rw[e]
   refine xW (wL (zf 4 rfl ?_))
   refine yB (fun h=>by cases h) (fun _=>zE ?_)
   refine yq 2 rfl (zf 4 rfl ⟨by rw[zs4,zs4,zu9];omega,zE ⟨some (.dat (.int z)),some (.dat (.int (pr z))),?_⟩⟩)
   rw[zC3,hz,zw3,zw3]
   rfl
  ·rintro α ⟨o3,o4,rfl⟩
   rw[zs4,zC9]
   exact xF 2 rfl q
theorem lC :zm ["book","stay","nights","prices","marks","fee","rows","paid"] ["book","stay"] (zb uH):=⟨rfl,rfl,rfl,by decide +kernel,rfl,by decide +kernel,by decide +kernel⟩
theorem zl1 :zI ["book","stay","nights","prices","marks","fee","rows","paid"] (zb uH) ["row"] [none] bf:=⟨rfl,by decide +kernel,by decide +kernel,by decide +kernel,by decide +kernel,rfl,by decide +kernel⟩
set_option maxHeartbeats 4000000 in
theorem eB {f C:Addr}{fd:FuncData}(F:Fun K "bill" "bill" uH f fd)(hm:mg "bill"=some (.ref f))(hb:Binds K fd ["book","stay"] [])(nb:NbT mg)(MT:wc P w K mg base C "tells_of" 2 (uh C cs))(CN:Cal P w K mg base "nights_of" 1 sD)(CP:Cal P w K mg base "night_prices" 3 (zj0 C cs))(CM:Cal P w K mg base "marked" 4 sM):
  Cal P w K mg base "bill" 5 (gO C cs):=by
 refine wJ F hm hb lC (fun as Q h=>?_) (fun cdv A' outer s H E as Q hr h=>?_)
 ·obtain⟨ds,c,g,fee,pr,rfl,_⟩:=h
  rfl
 ·obtain⟨ds,c,g,fee,pr,rfl,rd,c0,cg,gl,c1,hpr,hdeal,hfee,q⟩:=h
  generalize hn:(g-c).toNat=n at q
  have hn0:0<n:=by omega
  have hn4:n≤400:=by omega
  refine yg 2 lC.nd (EvL.d (wo CN (hr.mono (by decide)) (by rfl) (zd (zf 1 rfl (zp ⟨c,g,rfl,by omega,cg,by omega,by omega,_,rfl,?_⟩)))))
  rw[hn]
  refine yg 3 lC.nd (EvL.d (wo CP (hr.mono (by decide)) (by rfl) (zd (zf 0 rfl (zd (zf 2 rfl (zp ⟨ds,zu c n,pr,rfl,rd,by rw[zh];omega,fun z hz=>(hpr z (yF.mp hz).1 (by have:=(yF.mp hz).2;omega)).1,_,rfl,?_⟩)))))))
  have lz:((zu c n).map pr).length=n:=by rw[zs4,zh]
  refine yg 4 lC.nd (EvL.d (wo CM hr (by rfl) (zd (zf 3 rfl (zd (yX MT (hr.mono (by decide)) (zf 0 rfl ⟨_,rfl,rfl,zd (yd (zd (xO (fun _ _=>rfl) (zf 1 rfl (zJ ⟨_,_,_,rfl,rfl,at0,zp ⟨ds,_,_,rfl,rd,by simp[words],zp ⟨_,_,rfl,by omega,?_⟩⟩⟩)))))⟩)))))))
  have key:∀bs,xV (zj ds "deal" c) ((zu c n).map pr) bs→SvS (vQ CX0 P w K mg base ["book","stay","nights","prices","marks","fee","rows","paid"] "bill" (zb uH) f cdv A' outer s H E).nox
    [some (.dat (yC C cs ds)),some (.dat (.tuple [.int c,.int g])),some (.dat (.list ((zu c n).map .int))),some (.dat (.list (((zu c n).map pr).map .int))),some (.dat (.list (bs.map .bool))),none,none,none] ((zw uH).drop 3) {nx:=fun _=>Q (.dat .none),rt:=Q}:=by
   intro bs mk
   have lb:=mk.len
   refine yg 5 lC.nd (yX MT (hr.mono (by decide)) (zf 0 rfl ⟨_,rfl,rfl,zd (yd (zd (xO (fun _ _=>rfl) (zf 1 rfl (zJ ⟨_,_,_,rfl,rfl,at0,zp ⟨ds,_,_,rfl,rd,by simp[words],?_⟩⟩)))))⟩))
   show SvS _ (List.set _ _ (some (.dat (zj ds "fee" c)))) _ _
   rw[hfee]
   refine yg 6 lC.nd (EvL.d (oK rfl (by rfl) nb.list (by rfl) nb.zip (zd (zf 2 rfl (zd (zf 3 rfl (zd (zf 4 rfl (zp ⟨_,_,_,rfl,?_,?_,?_,?_,?_⟩)))))))))
   ·rw[zs4,zs4,zs4]
   ·rw[zs4,zs4,lb,lz,zh]
   ·rw[zs4,zh];omega
   ·rw[zs4,zh];omega
   have pm:∀z∈yp ((zu c n).map pr) bs,0≤z∧z≤1000000000000:=fun z hz=>by
    obtain⟨y,hy,rfl⟩:=zx4.mp (vw hz)
    have hy:=yF.mp hy
    exact (hpr y hy.1 (by omega)).2
   refine yg 7 lC.nd (cD rfl (by rfl) nb.sum (EvL.d (dF (pat:=.one 0) rfl zl1 rfl (fun _ _ _ _=>zL (i:=0) zl1.nd rfl (Or.inl rfl)) (wC (zf 6 rfl ⟨_,rfl,?_,?comp⟩)))))
   ·rw[uB (by rw[zs4,zs4,zs4]) (by rw[zs4,zs4,lb,lz,zh]),zs4,zh];omega
   refine vM (fun d=>!tF d) (zd3 1) (fun d hd=>?_) ?_
   ·obtain⟨j,hj⟩:=List.mem_iff_getElem?.mp hd
    obtain⟨x,y,z,e1,e2,e3,rfl⟩:=uF hj
    rw[zu0,zv9] at e3
    obtain⟨b,_,rfl⟩:=e3
    exact⟨_,rfl,fun _ _ _ _ _ k=>mZ (pG (pf (xO (fun _ _=>rfl) (zf 0 rfl (zJ ⟨_,_,_,rfl,rfl,yY (j:=2) rfl,⟨_,rfl,k⟩⟩))))),fun _ _ _ _ _ _ k=>xO (fun _ _=>rfl) (zf 0 rfl (zJ ⟨_,_,_,rfl,rfl,yY (j:=1) rfl,k⟩))⟩
   ·rw[zB8,tR (by rw[lz,zs4,zh]) (by rw[lb,lz,zs4,zh])]
    refine⟨_,rfl,fun z hz=>by have:=pm z hz;omega,nZ pm (zw6 (uq _ _) (by omega)),?_⟩
    exact wU (xk (zd (xp (zf 7 rfl (zf 5 rfl ⟨_,_,rfl,rfl,zd (zf 6 rfl (zd (zf 5 rfl (zp ⟨_,rfl,zt9 rfl,q bs mk⟩))))⟩)))))
  rcases hdeal with hd|⟨many,free,hd,m0,m64⟩
  ·exact .inl ⟨hd,⟨_,rfl,key _ (.inl ⟨hd,rfl⟩)⟩⟩
  ·exact .inr ⟨many,free,hd,m0,m64,fun bs mk=>⟨_,rfl,key bs (.inr ⟨many,free,hd,mk⟩)⟩⟩
end
abbrev qA :Stmt:=top 22
abbrev zh1 :Stmt:=top 23
abbrev gB :Stmt:=top 24
theorem jO {x:Str}(h:x∈words):zz (.str x) (gK x)=true:=by
 simp only[words,zs8,zt5,zv2] at h
 rcases h with rfl|rfl|rfl|rfl|rfl|rfl|rfl<;>decide +kernel
theorem yA {ds:List PyData}(h:∀d∈ds,yM d=true){x:Str}(hx:x∈words)(day:Int):zz (.str x) (zj ds x day)=true:=by
 unfold zj
 split
 ·rename_i d e
  obtain⟨u,i,j,v,hu,rfl,_,_,_,hw⟩:=tS (h d (List.mem_reverse.mp (List.mem_of_find?_eq_some e)))
  have:=List.find?_some e
  have h2:(decide (u=x)&&(decide (i≤day)&&decide (day≤j)))=true:=this
  rw[zv1,zv7] at h2
  rw[←h2.1]
  exact hw
 ·exact jO hx
def isF :PyData→Bool
 |.bool b=>!b
 |_=>false
def intOf :PyData→Int
 |.int i=>i
 |_=>0
theorem yR {lo hi:Int}{d:PyData}(h:zW lo hi d=true):∃i,d=.int i∧lo≤i∧i≤hi:=by
 cases d with
 |int i=>
  have h':(decide (lo≤i)&&decide (i≤hi))=true:=h
  rw[zv1,zv7,zv7] at h'
  exact⟨i,rfl,h'⟩
 |_=>cases h
theorem bool_inv {d:PyData}(h:isBool d=true):∃b,d=.bool b:=by
 cases d with
 |bool b=>exact⟨b,rfl⟩
 |_=>cases h
section
variable {ds:List PyData}(h:∀d∈ds,yM d=true)(day:Int)
include h
theorem zd8 :∃b,zj ds "come" day=.bool b:=bool_inv (by rw[←tN];exact yA h (by simp[words]) day)
theorem zr7 :∃b,zj ds "go" day=.bool b:=bool_inv (by rw[←nu];exact yA h (by simp[words]) day)
theorem bX :∃i,zj ds "least" day=.int i∧1≤i∧i≤14:=yR (by rw[←wQ];exact yA h (by simp[words]) day)
theorem zi4 :∃i,zj ds "most" day=.int i∧1≤i∧i≤14:=yR (by rw[←vI];exact yA h (by simp[words]) day)
theorem zl0 :∃i,zj ds "fee" day=.int i∧0≤i∧i≤1000000000000:=yR (by
 have:=yA h (x:="fee") (by simp[words]) day
 rw[rW] at this
 exact this)
theorem aG :zj ds "price" day=.none∨∃i,zj ds "price" day=.int i∧0≤i∧i≤1000000000000:=by
 have:=yA h (x:="price") (by simp[words]) day
 rw[xh,zB7] at this
 rcases this with z|z
 ·left
  cases e:zj ds "price" day with
  |none=>rfl
  |_=>rw[e] at z;cases z
 ·exact .inr (yR z)
end
def pB (x:Str)(d:Int):PyData:=.tuple [.str x,.int d]
def yK (ds:List PyData)(c:Int)(n:Nat):List PyData:=((zu c n).filter fun z=>wH (zj ds "price" z)).map (pB "price")
def opt (b:Bool)(d:PyData):List PyData:=if b=true then [d] else []
def xr (ds:List PyData)(c g:Int):List PyData:=yK ds c (g-c).toNat++opt (isF (zj ds "come" c)) (pB "come" c)++opt (isF (zj ds "go" g)) (pB "go" g)++opt (decide (g-c<intOf (zj ds "least" c))) (pB "least" c)++opt (decide (intOf (zj ds "most" c)<g-c)) (pB "most" c)
theorem xH (b:Bool)(d:PyData):(opt b d).length≤1:=by unfold opt;split<;>simp
theorem uQ (ds:List PyData)(c:Int)(n:Nat):(yK ds c n).length≤n:=by
 unfold yK
 rw[zs4]
 have:=zF9 (fun z=>wH (zj ds "price" z)) (zu c n)
 rw[zh] at this
 exact this
def pd (C:Addr)(cs:Cs):List A→(A→Prop)→Prop:=fun as Q=>∃ds c g,as=[.dat (yC C cs ds),.dat (.tuple [.int c,.int g])]∧Rules ds∧-100≤c∧c<g∧g≤c+100∧c≤1000100∧Q (.own (xr ds c g))
def cV :Scope:=match zw qA with
 |[_,_,.Assign _ (.ListComp _ _ sc _) _,_,_,_,_,_]=>sc
 |_=>zb qA
section
variable {P:Program}{w:World}{K:PySem.W.Frag}{mg:Str→Option Value}{base:Heap}{cs:Cs}
theorem cX :zm ["book","stay","come","go","told"] ["book","stay"] (zb qA):=⟨rfl,rfl,rfl,by decide +kernel,rfl,by decide +kernel,by decide +kernel⟩
theorem zj2 :zI ["book","stay","come","go","told"] (zb qA) ["night","book"] [none,some 0] cV:=⟨rfl,by decide +kernel,by decide +kernel,by decide +kernel,by decide +kernel,rfl,by decide +kernel⟩
theorem oC (ds:List PyData)(ns:List Int)(f:PyData→Bool)(hf:∀z,f (.int z)=wH (zj ds "price" z))(g:PyData→PyData)(hg:∀z,g (.int z)=pB "price" z):((ns.map PyData.int).filter f).map g=(ns.filter fun z=>wH (zj ds "price" z)).map (pB "price"):=by
 rw[List.filter_map,zG4]
 have e1:(f∘PyData.int)=fun z=>wH (zj ds "price" z):=funext hf
 have e2:(g∘PyData.int)=pB "price":=funext hg
 rw[e1,e2]
def zo0 :PyData→Int
 |.int z=>z
 |_=>0
set_option maxHeartbeats 4000000 in
theorem fY {f C:Addr}{fd:FuncData}(F:Fun K "bars" "bars" qA f fd)(hm:mg "bars"=some (.ref f))(hb:Binds K fd ["book","stay"] [])(CN:Cal P w K mg base "nights_of" 1 sD)(MT:wc P w K mg base C "tells_of" 2 (uh C cs)):Cal P w K mg base "bars" 3 (pd C cs):=by
 refine wJ F hm hb cX (fun as Q h=>?_) (fun cdv A' outer s H E as Q hr h=>?_)
 ·obtain⟨ds,c,g,rfl,_⟩:=h
  rfl
 ·obtain⟨ds,c,g,rfl,rd,c0,cg,g1,c1,q⟩:=h
  have rr:∀d∈ds,yM d=true:=fun d hd=>(rd d hd).1
  refine yg 2 cX.nd (xO (fun _ _=>rfl) (zf 1 rfl (zJ (⟨_,_,_,rfl,rfl,rfl,?_⟩))))
  refine yg 3 cX.nd (xO (fun _ _=>rfl) (zf 1 rfl (zJ (⟨_,_,_,rfl,rfl,rfl,?_⟩))))
  refine wM (fun α=>α=[some (.dat (yC C cs ds)),some (.dat (.tuple [.int c,.int g])),some (.dat (.int c)),some (.dat (.int g)),some (.own (yK ds c (g-c).toNat))]) ?_ ?_
  ·refine aQ 4 (pat:=.one 0) cX.nd rfl zj2 rfl (fun _ _ _ _=>zL (i:=0) zj2.nd rfl (by first|exact Or.inl rfl|exact Or.inr rfl)) (wC (EvL.d (wo CN (hr.mono (by decide)) (by rfl) (zd (zf 1 rfl (zp (⟨c,g,rfl,by omega,by omega,by omega,by omega,⟨_,rfl,⟨_,rfl,⟨by rw[zs4,zh];omega,?comp⟩⟩⟩⟩)))))))
   case comp=>
    refine vM (fun d=>wH (zj ds "price" (zo0 d))) (fun d=>pB "price" (zo0 d)) (fun d hd=>?_) ?_
    ·obtain⟨z,_,rfl⟩:=zx4.mp hd
     refine⟨_,rfl,fun C s2 H2 fp Q k=>mZ (wL (yX MT hr (zf 1 rfl ⟨_,rfl,rfl,zd (yd (zd (zf 0 rfl (zp ⟨ds,_,_,rfl,rd,by simp[words],k⟩))))⟩))),fun _ C s2 H2 fp Q k=>xk (zd (yd (zd (zf 0 rfl (zp (⟨_,rfl,zt9 rfl,k⟩))))))⟩
    ·refine zE ?_
     rw[zB8,oC ds _ _ (fun _=>rfl) _ (fun _=>rfl)]
     rfl
  rintro α rfl
  have n0:=uQ ds c (g-c).toNat
  obtain⟨bc,ec⟩:=zd8 rr c
  obtain⟨bg,eg⟩:=zr7 rr g
  obtain⟨il,el,_,_⟩:=bX rr c
  obtain⟨im,em,_,_⟩:=zi4 rr c
  refine wM (fun α=>α=[some (.dat (yC C cs ds)),some (.dat (.tuple [.int c,.int g])),some (.dat (.int c)),some (.dat (.int g)),some (.own (yK ds c (g-c).toNat++opt (isF (zj ds "come" c)) (pB "come" c)))]) ?_ ?_
  ·refine xW (pG (pf (yX MT hr (zf 0 rfl ⟨_,rfl,rfl,zd (yd (zd (zf 2 rfl (zp ⟨ds,_,_,rfl,rd,by simp[words],⟨bc,ec,?_⟩⟩))))⟩))))
   rw[ec]
   refine yB (fun hc=>?_) (fun hc=>?_)
   ·refine yq 4 rfl (xk (zd (yd (zd (zf 2 rfl (zp (⟨_,rfl,zt9 rfl,⟨by omega,zE (zE ?_)⟩⟩)))))))
    have hb:isF (PyData.bool bc)=true:=hc
    rw[hb]<;>rfl
   ·refine zE (zE ?_)
    have hb:isF (PyData.bool bc)=false:=hc
    rw[hb,show opt false (pB "come" c)=[] from rfl,zz3]
  rintro α rfl
  have l1:(yK ds c (g-c).toNat++opt (isF (zj ds "come" c)) (pB "come" c)).length≤101:=by
   have:=xH (isF (zj ds "come" c)) (pB "come" c)
   rw[zu3];omega
  generalize eacc1:yK ds c (g-c).toNat++opt (isF (zj ds "come" c)) (pB "come" c)=acc1 at l1
  refine wM (fun α=>α=[some (.dat (yC C cs ds)),some (.dat (.tuple [.int c,.int g])),some (.dat (.int c)),some (.dat (.int g)),some (.own (acc1++opt (isF (zj ds "go" g)) (pB "go" g)))]) ?_ ?_
  ·refine xW (pG (pf (yX MT hr (zf 0 rfl ⟨_,rfl,rfl,zd (yd (zd (zf 3 rfl (zp ⟨ds,_,_,rfl,rd,by simp[words],⟨bg,eg,?_⟩⟩))))⟩))))
   rw[eg]
   refine yB (fun hc=>?_) (fun hc=>?_)
   ·refine yq 4 rfl (xk (zd (yd (zd (zf 3 rfl (zp (⟨_,rfl,zt9 rfl,⟨by omega,zE (zE ?_)⟩⟩)))))))
    have hb:isF (PyData.bool bg)=true:=hc
    rw[hb]<;>rfl
   ·refine zE (zE ?_)
    have hb:isF (PyData.bool bg)=false:=hc
    rw[hb,show opt false (pB "go" g)=[] from rfl,zz3]
  rintro α rfl
  have l2:(acc1++opt (isF (zj ds "go" g)) (pB "go" g)).length≤102:=by
   have:=xH (isF (zj ds "go" g)) (pB "go" g)
   rw[zu3];omega
  generalize eacc2:acc1++opt (isF (zj ds "go" g)) (pB "go" g)=acc2 at l2
  refine wM (fun α=>α=[some (.dat (yC C cs ds)),some (.dat (.tuple [.int c,.int g])),some (.dat (.int c)),some (.dat (.int g)),some (.own (acc2++opt (decide (g-c<intOf (zj ds "least" c))) (pB "least" c)))]) ?_ ?_
  ·refine xW (aZ (qJ (zf 3 rfl (zf 2 rfl (⟨_,_,rfl,rfl,yX MT hr (zf 0 rfl ⟨_,rfl,rfl,zd (yd (zd (zf 2 rfl (zp ⟨ds,_,_,rfl,rd,by simp[words],⟨_,il,rfl,el,?_⟩⟩))))⟩)⟩)))))
   rw[el]
   refine yB (fun hc=>?_) (fun hc=>?_)
   ·refine yq 4 rfl (xk (zd (yd (zd (zf 2 rfl (zp (⟨_,rfl,zt9 rfl,⟨by omega,zE (zE ?_)⟩⟩)))))))
    have hb:decide (g-c<intOf (PyData.int il))=true:=hc
    rw[hb]<;>rfl
   ·refine zE (zE ?_)
    have hb:decide (g-c<intOf (PyData.int il))=false:=hc
    rw[hb,show opt false (pB "least" c)=[] from rfl,zz3]
  rintro α rfl
  have l3:(acc2++opt (decide (g-c<intOf (zj ds "least" c))) (pB "least" c)).length≤103:=by
   have:=xH (decide (g-c<intOf (zj ds "least" c))) (pB "least" c)
   rw[zu3];omega
  generalize eacc3:acc2++opt (decide (g-c<intOf (zj ds "least" c))) (pB "least" c)=acc3 at l3
  refine wM (fun α=>α=[some (.dat (yC C cs ds)),some (.dat (.tuple [.int c,.int g])),some (.dat (.int c)),some (.dat (.int g)),some (.own (acc3++opt (decide (intOf (zj ds "most" c)<g-c)) (pB "most" c)))]) ?_ ?_
  ·refine xW (eG (qJ (zf 3 rfl (zf 2 rfl (⟨_,_,rfl,rfl,yX MT hr (zf 0 rfl ⟨_,rfl,rfl,zd (yd (zd (zf 2 rfl (zp ⟨ds,_,_,rfl,rd,by simp[words],⟨_,im,rfl,em,?_⟩⟩))))⟩)⟩)))))
   rw[em]
   refine yB (fun hc=>?_) (fun hc=>?_)
   ·refine yq 4 rfl (xk (zd (yd (zd (zf 2 rfl (zp (⟨_,rfl,zt9 rfl,⟨by omega,zE (zE ?_)⟩⟩)))))))
    have hb:decide (intOf (PyData.int im)<g-c)=true:=hc
    rw[hb]<;>rfl
   ·refine zE (zE ?_)
    have hb:decide (intOf (PyData.int im)<g-c)=false:=hc
    rw[hb,show opt false (pB "most" c)=[] from rfl,zz3]
  rintro α rfl
  have l4:(acc3++opt (decide (intOf (zj ds "most" c)<g-c)) (pB "most" c)).length≤104:=by
   have:=xH (decide (intOf (zj ds "most" c)<g-c)) (pB "most" c)
   rw[zu3];omega
  generalize eacc4:acc3++opt (decide (intOf (zj ds "most" c)<g-c)) (pB "most" c)=acc4 at l4
  have eb:xr ds c g=acc4:=by
   unfold xr
   rw[eacc1,eacc2,eacc3,eacc4]
  rw[eb] at q
  exact xF 4 rfl q
end
theorem eX {d:PyData}(h:vX d=true):∃many free:Nat,d=.tuple [.int many,.int free]∧0<free∧free<many∧many<64:=by
 unfold vX at h
 split at h
 ·rename_i m r
  rw[zv1] at h
  obtain⟨i,e,i0,i1⟩:=yR h.1
  obtain⟨j,e2,j0,j1⟩:=yR h.2
  subst e2
  injection e with e
  subst e
  refine⟨m.toNat,j.toNat,?_,by omega,by omega,by omega⟩
  rw[show ((m.toNat:Nat):Int)=m by omega,show ((j.toNat:Nat):Int)=j by omega]
 ·cases h
theorem dN {ds:List PyData}(h:∀d∈ds,yM d=true)(day:Int):fA (zj ds "deal" day):=by
 have:=yA h (x:="deal") (by simp[words]) day
 rw[vL,zB7] at this
 rcases this with z|z
 ·left
  cases e:zj ds "deal" day with
  |none=>rfl
  |_=>rw[e] at z;cases z
 ·exact .inr (eX z)
theorem zC.all {ds:List PyData}(h:zC ds):∀d∈ds,yM d=true:=fun d hd=>(h d hd).rule
def oN (ds:List PyData)(c g:Int):Prop:=∀z,c≤z→z<g→wH (zj ds "price" z)=false
def prs (ds:List PyData)(c g:Int):List Int:=(zu c (g-c).toNat).map fun z=>intOf (zj ds "price" z)
def ud (ds:List PyData)(c:Int):Int:=intOf (zj ds "fee" c)
theorem tL {ds:List PyData}{c g z:Int}(h:zC ds)(s:oN ds c g)(h0:c≤z)(h1:z<g):zj ds "price" z=.int (intOf (zj ds "price" z))∧0≤intOf (zj ds "price" z)∧intOf (zj ds "price" z)≤1000000000000:=by
 rcases aG h.all z with e|⟨i,e,i0,i1⟩
 ·have:=s z h0 h1
  rw[e] at this;cases this
 ·rw[e];exact⟨rfl,i0,i1⟩
theorem kh {ds:List PyData}(h:zC ds)(c:Int):zj ds "fee" c=.int (ud ds c)∧0≤ud ds c∧ud ds c≤1000000000000:=by
 obtain⟨i,e,i0,i1⟩:=zl0 h.all c
 unfold ud
 rw[e];exact⟨rfl,i0,i1⟩
def tT (c g:Int):Prop:=0≤c∧c<g∧g≤c+14∧g≤1000000
def kZ (C:Addr)(cs:Cs):List A→(A→Prop)→Prop:=fun as Q=>∃(ds:List PyData) (c g:Int),as=[.dat (yC C cs ds),.dat (.tuple [.int c,.int g])]∧zC ds∧tT c g∧oN ds c g∧
 ∀bs rows,xV (zj ds "deal" c) (prs ds c g) bs→Q (.dat (.tuple [.int ((yp (prs ds c g) bs).sum+ud ds c),rows,.int (ud ds c)]))
def pq (ds:List PyData)(c g:Int):Bool:=(xr ds c g).isEmpty
noncomputable def ae (ds:List PyData)(c g:Int):List Bool:=Classical.epsilon fun bs=>xV (zj ds "deal" c) (prs ds c g) bs
noncomputable def coD (ds:List PyData)(c g:Int):Int:=(yp (prs ds c g) (ae ds c g)).sum+ud ds c
theorem qC {ds:List PyData}{c g y:Int}(ro:zC ds)(so:oN ds c g)(h:y∈prs ds c g):0≤y∧y≤1000000000000:=by
 obtain⟨z,hz,rfl⟩:=zx4.mp h
 have hz:=yF.mp hz
 exact (tL ro so hz.1 (by omega)).2
theorem cm {b:Int}:∀{ns:List Int},(∀n∈ns,0≤n∧n≤b)→0≤ns.sum∧ns.sum≤b*ns.length
 |[],_=>by simp
 |n::ns,h=>by
  have h1:=h n zt7
  have h2:=cm fun m hm=>h m (zt4 _ hm)
  rw[zA3,zu1]
  have:b*((ns.length+1:Nat):Int)=b*ns.length+b:=by rw[zG5,Int.mul_add];simp
  omega
theorem zm8 {ds:List PyData}{c g:Int}{bs:List Bool}(ro:zC ds)(so:oN ds c g)(mk:xV (zj ds "deal" c) (prs ds c g) bs):(yp (prs ds c g) bs).sum+ud ds c=coD ds c g:=by
 have h2:xV (zj ds "deal" c) (prs ds c g) (ae ds c g):=Classical.epsilon_spec (p:=fun bs=>xV (zj ds "deal" c) (prs ds c g) bs) ⟨bs,mk⟩
 have:=mS (e:=0) mk h2 (dN ro.all c) rfl (by simp) (fun i hi=>Int.le_refl _) (fun z hz=>(qC ro so hz).1) fun z hz=>(qC ro so hz).1
 unfold coD
 omega
theorem xD {α:Type}{a b:List α}:(a++b).isEmpty=(a.isEmpty&&b.isEmpty):=by cases a<;>rfl
theorem tq {b:Bool}{d:PyData}:(opt b d).isEmpty=!b:=by cases b<;>rfl
theorem bt {ds:List PyData}{c g:Int}:pq ds c g=true↔oN ds c g∧isF (zj ds "come" c)=false∧isF (zj ds "go" g)=false∧¬g-c<intOf (zj ds "least" c)∧¬intOf (zj ds "most" c)<g-c:=by
 unfold pq xr
 rw[xD,xD,xD,xD,tq,tq,tq,tq]
 have:(yK ds c (g-c).toNat).isEmpty=true↔oN ds c g:=by
  unfold yK oN
  rw[List.isEmpty_iff,List.map_eq_nil_iff,List.filter_eq_nil_iff]
  refine⟨fun h z z0 z1=>?_,fun h z hz=>?_⟩
  ·have:=h z (yF.mpr ⟨z0,by omega⟩)
   simpa using this
  ·have hz:=yF.mp hz
   rw[h z hz.1 (by omega)];decide
 simp only[zv1,this,Bool.not_eq_true',zy1,and_assoc]
theorem tQ {ds:List PyData}{c g:Int}(h:pq ds c g=true):oN ds c g:=(bt.mp h).1
theorem nB {ds:List PyData}{c g:Int}(cg:c≤g){d:PyData}(h:d∈xr ds c g):∃(x:Str) (z:Int),d=pB x z∧x∈words∧c≤z∧z≤g:=by
 unfold xr at h
 simp only[zw7] at h
 have ho:∀{b:Bool} {x:Str} {z:Int},d∈opt b (pB x z)→d=pB x z:=fun {b x z} h=>by
  cases b
  ·simp[opt] at h
  ·simpa[opt] using h
 rcases h with (((h|h)|h)|h)|h
 ·obtain⟨z,hz,rfl⟩:=zx4.mp h
  have hz:=yF.mp (zA0.mp hz).1
  exact⟨_,z,rfl,by simp[words],hz.1,by omega⟩
 ·exact⟨_,c,ho h,by simp[words],by omega,by omega⟩
 ·exact⟨_,g,ho h,by simp[words],by omega,by omega⟩
 ·exact⟨_,c,ho h,by simp[words],by omega,by omega⟩
 ·exact⟨_,c,ho h,by simp[words],by omega,by omega⟩
theorem vk {x:Str}{z:Int}(hx:x∈words)(h0:-100≤z)(h1:z≤2000000):zH 5000 (pB x z)∧(pB x z).depth≤1:=by
 have hbig:(2000001:Int)<big:=by decide
 have hneg:-big<(-100:Int):=by decide
 exact⟨zH.tuple (n:=2000) (yi.two (qr hx) (zH.int (by omega) (by omega)) (zt6 _) (zt6 _)) (by show 2*(2000+2)+3≤5000;decide),by simp[pB,PyData.depth,PyData.depthAll]⟩
theorem gc {ds:List PyData}{c g:Int}:(xr ds c g).length≤(g-c).toNat+4:=by
 unfold xr
 simp only[zu3]
 have h0:=uQ ds c (g-c).toNat
 have h1:=xH (isF (zj ds "come" c)) (pB "come" c)
 have h2:=xH (isF (zj ds "go" g)) (pB "go" g)
 have h3:=xH (decide (g-c<intOf (zj ds "least" c))) (pB "least" c)
 have h4:=xH (decide (intOf (zj ds "most" c)<g-c)) (pB "most" c)
 omega
theorem rK {ds:List PyData}{c g:Int}(sb:tT c g):zH sizeLine (.list (xr ds c g)):=by
 obtain⟨c0,cg,g1,g2⟩:=sb
 refine zH.list (n:=5000) ⟨fun d hd=>?_,fun d hd=>?_⟩ ?_
 ·obtain⟨x,z,rfl,hx,a,b⟩:=nB (by omega) hd
  exact (vk hx (by omega) (by omega)).1
 ·obtain⟨x,z,rfl,hx,a,b⟩:=nB (by omega) hd
  have:=(vk hx (z:=z) (by omega) (by omega)).2
  omega
 ·have h2:(xr ds c g).length*(5000+2)≤18*(5000+2):=zA7 _ (by have:=gc (ds:=ds) (c:=c) (g:=g);omega)
  have h3:18*(5000+2)+2≤sizeLine:=by decide
  omega
theorem zd9 {ds:List PyData}{c g:Int}(ro:zC ds)(sb:tT c g)(h:pq ds c g=true):0≤coD ds c g∧coD ds c g≤15000000000000:=by
 obtain⟨c0,cg,g1,g2⟩:=sb
 have so:=tQ h
 have f:=(kh ro c).2
 have s:=cm (b:=1000000000000) (ns:=yp (prs ds c g) (ae ds c g)) fun n hn=>qC ro so (vw hn)
 have l:=uq (prs ds c g) (ae ds c g)
 have l2:(prs ds c g).length≤14:=by unfold prs;rw[zs4,zh];omega
 unfold coD
 omega
theorem bO {ds:List PyData}:PyData.eqv (.list ds) (.list [])=ds.isEmpty:=by
 cases ds<;>rfl
def za1 (C:Addr)(cs:Cs):List A→(A→Prop)→Prop:=fun as Q=>∃(ds:List PyData) (c g:Int),as=[.dat (yC C cs ds),.dat (.tuple [.int c,.int g])]∧zC ds∧tT c g∧Q (.dat (.bool (pq ds c g)))
def gF (C:Addr)(cs:Cs):List A→(A→Prop)→Prop:=fun as Q=>∃(ds:List PyData) (c g:Int),as=[.dat (yC C cs ds),.dat (.tuple [.int c,.int g])]∧zC ds∧tT c g∧pq ds c g=true∧Q (.dat (.int (coD ds c g)))
section
variable {P:Program}{w:World}{K:PySem.W.Frag}{mg:Str→Option Value}{base:Heap}{cs:Cs}
theorem iK {C:Addr}(CB:Cal P w K mg base "bill" 5 (gO C cs)):Cal P w K mg base "bill" 5 (kZ C cs):=by
 refine CB.imp fun as Q h=>?_
 obtain⟨ds,c,g,rfl,ro,⟨c0,cg,g1,g2⟩,so,q⟩:=h
 refine⟨ds,c,g,ud ds c,fun z=>intOf (zj ds "price" z),rfl,ro.rules,c0,cg,by omega,by omega,fun z z0 z1=>tL ro so z0 z1,?_,(kh ro c).1,fun bs mk=>q bs _ mk⟩
 rcases dN ro.all c with e|⟨m,f,e,f0,fm,m6⟩
 ·exact .inl e
 ·exact .inr ⟨m,f,e,by omega,m6⟩
theorem zk3 :zm ["book","stay"] ["book","stay"] (zb zh1):=⟨rfl,rfl,rfl,by decide +kernel,rfl,by decide +kernel,by decide +kernel⟩
theorem cF {f C:Addr}{fd:FuncData}(F:Fun K "can_be_had" "can_be_had" zh1 f fd)(hm:mg "can_be_had"=some (.ref f))(hb:Binds K fd ["book","stay"] [])(CB:Cal P w K mg base "bars" 3 (pd C cs)):Cal P w K mg base "can_be_had" 4 (za1 C cs):=by
 refine wJ F hm hb zk3 (fun as Q h=>?_) (fun cdv A' outer s H E as Q hr h=>?_)
 ·obtain⟨ds,c,g,rfl,_⟩:=h
  rfl
 ·obtain⟨ds,c,g,rfl,ro,sb,q⟩:=h
  obtain⟨c0,cg,g1,g2⟩:=id sb
  have nd:=zk3.nd
  and_intros
  refine⟨ds,c,g,rfl,ro.rules,by omega,by omega,by omega,by omega,?_⟩
  and_intros
  exact eqk (rK sb).shaped rfl (rK sb).nod rfl (by rw[show PyData.eqv (A.own (xr ds c g)).d (.list [])=pq ds c g from bO];exact q)
theorem aO :zm ["book","stay","found"] ["book","stay"] (zb gB):=⟨rfl,rfl,rfl,by decide +kernel,rfl,by decide +kernel,by decide +kernel⟩
theorem dC {f C:Addr}{fd:FuncData}(F:Fun K "cost" "cost" gB f fd)(hm:mg "cost"=some (.ref f))(hb:Binds K fd ["book","stay"] [])(CB:Cal P w K mg base "bars" 3 (pd C cs))(CL:Cal P w K mg base "bill" 5 (kZ C cs)):Cal P w K mg base "cost" 6 (gF C cs):=by
 refine wJ F hm hb aO (fun as Q h=>?_) (fun cdv A' outer s H E as Q hr h=>?_)
 ·obtain⟨ds,c,g,rfl,_⟩:=h
  rfl
 ·obtain⟨ds,c,g,rfl,ro,sb,hh,q⟩:=h
  obtain⟨c0,cg,g1,g2⟩:=id sb
  have nd:=aO.nd
  have e0:xr ds c g=[]:=List.isEmpty_iff.mp hh
  and_intros
  refine⟨ds,c,g,rfl,ro.rules,by omega,by omega,by omega,by omega,?_⟩
  rw[e0]
  and_intros
  refine⟨ds,c,g,rfl,ro,sb,tQ hh,fun bs rows mk=>?_⟩
  and_intros
  show Q _
  rw[zm8 ro (tQ hh) mk]
  exact q
end
abbrev gp :Stmt:=top 56
def eN :List A→(A→Prop)→Prop:=fun as Q=>∃bs dy:Int,as=[.tape,.dat (.int bs),.dat (.int dy)]∧Bd bs dy∧∀c g:Int,bs≤c→c<g→g≤bs+dy→Q (.dat (.tuple [.int c,.int g]))
section
variable {P:Program}{w:World}{K:PySem.W.Frag}{mg:Str→Option Value}{base:Heap}
theorem zc8 :zm ["_law_tape_here","_law_base","_law_days","_law_many","_law_come"] ["_law_tape_here","_law_base","_law_days"] (zb gp):=⟨rfl,rfl,rfl,by decide +kernel,rfl,by decide +kernel,by decide +kernel⟩
theorem fc {f:Addr}{fd:FuncData}(F:Fun K "_law_stay" "_law_stay" gp f fd)(hm:mg "_law_stay"=some (.ref f))(hb:Binds K fd ["_law_tape_here","_law_base","_law_days"] [])(CD:Cal P w K mg base "_law_draw" 1 xt):Cal P w K mg base "_law_stay" 2 eN:=by
 refine wJ F hm hb zc8 (fun as Q h=>?_) (fun cdv A' outer s H E as Q hr h=>?_)
 ·obtain⟨bs,dy,rfl,_⟩:=h
  rfl
 ·obtain⟨bs,dy,rfl,⟨b1,b2,b3,b4⟩,q⟩:=h
  have hbig:(1000001:Int)<big:=by decide
  refine yg 3 zc8.nd (xp (zJ (yk CD hr (by rfl) (zX 0 rfl (zd (zf 2 rfl (zp (⟨_,rfl,by omega,by omega,fun v1 h1 g1=>⟨_,_,rfl,rfl,?_⟩⟩))))))))
  refine yg 4 zc8.nd (xp (zf 1 rfl (yk CD hr (by rfl) (zX 0 rfl (zd (xp (qJ (zf 2 rfl (zf 3 rfl (⟨_,_,rfl,rfl,zJ (⟨_,_,rfl,rfl,zp (⟨_,rfl,by omega,by omega,fun v2 h2 g2=>⟨_,_,rfl,rfl,?_⟩⟩)⟩)⟩))))))))))
  refine wU (xk (zd (zf 4 rfl (zd (xp (zf 4 rfl (zf 3 rfl (⟨_,_,rfl,rfl,zp (⟨_,rfl,zt9 rfl,?_⟩)⟩))))))))
  exact q _ _ (by omega) (by omega) (by omega)
end
open SortA
def uv (n:Int)(x:Str)(d:PyData):Bool:=
 if x="price" then wH d else if x="come" then isF d else if x="go" then isF d else if x="least" then decide (n<intOf d) else decide (intOf d<n)
def tX (c g:Int):List (Str×Int):=(zu c (g-c).toNat).map (fun z=>((Str.ofString "price"),z))++[(Str.ofString "come",c),(Str.ofString "go",g),(Str.ofString "least",c),(Str.ofString "most",c)]
def rp (ds:List PyData)(c g:Int)(p:Str×Int):Bool:=uv (g-c) p.1 (zj ds p.1 p.2)
def zN (ds:List PyData)(c g:Int):List (Str×Int):=(tX c g).filter (rp ds c g)
theorem vV {p:Str×Int}{f:Str×Int→Bool}:([p].filter f).map dTI=opt (f p) (dTI p):=by
 unfold opt
 cases h:f p<;>simp[h]
theorem xU (ds:List PyData)(c g:Int):xr ds c g=(zN ds c g).map dTI:=by
 unfold zN tX
 rw[zC0,zw3]
 have h1:(((zu c (g-c).toNat).map (fun z=>((Str.ofString "price"),z))).filter (rp ds c g)).map dTI=yK ds c (g-c).toNat:=by
  unfold yK
  rw[List.filter_map,zG4]
  rfl
 rw[h1]
 have h2:([(Str.ofString "come",c),(Str.ofString "go",g),(Str.ofString "least",c),(Str.ofString "most",c)].filter (rp ds c g)).map dTI=([(Str.ofString "come",c)].filter (rp ds c g)).map dTI++(([(Str.ofString "go",g)].filter (rp ds c g)).map dTI++(([(Str.ofString "least",c)].filter (rp ds c g)).map dTI++([(Str.ofString "most",c)].filter (rp ds c g)).map dTI)):=by
  rw[←zw3,←zw3,←zw3,←zC0,←zC0,←zC0]
  rfl
 rw[h2,vV,vV,vV,vV]
 unfold xr
 rw[zF0,zF0,zF0]
 rfl
theorem rQ {α β:Type}{f:α→β}(hf:∀a b,f a=f b→a=b){l:List α}(h:l.Nodup):(l.map f).Nodup:=zE7.mpr (List.Pairwise.imp (fun hne e=>hne (hf _ _ e)) h)
theorem zd0 (c:Int)(n:Nat):(zu c n).Nodup:=by
 unfold zu
 exact rQ (fun a b h=>by omega) List.nodup_range
theorem mH (c g:Int):(tX c g).Nodup:=by
 unfold tX
 rw[zE9]
 refine⟨rQ (fun a b h=>by simpa using h) (zd0 _ _),?_,?_⟩
 ·have h1:Str.ofString "come"≠Str.ofString "go":=by decide +kernel
  have h2:Str.ofString "come"≠Str.ofString "least":=by decide +kernel
  have h3:Str.ofString "come"≠Str.ofString "most":=by decide +kernel
  have h4:Str.ofString "go"≠Str.ofString "least":=by decide +kernel
  have h5:Str.ofString "go"≠Str.ofString "most":=by decide +kernel
  have h6:Str.ofString "least"≠Str.ofString "most":=by decide +kernel
  simp[h1,h2,h3,h4,h5,h6]
 ·intro a ha b hb e
  subst e
  obtain⟨z,_,rfl⟩:=zx4.mp ha
  have h1:Str.ofString "price"≠Str.ofString "come":=by decide +kernel
  have h2:Str.ofString "price"≠Str.ofString "go":=by decide +kernel
  have h3:Str.ofString "price"≠Str.ofString "least":=by decide +kernel
  have h4:Str.ofString "price"≠Str.ofString "most":=by decide +kernel
  simp[h1,h2,h3,h4] at hb
abbrev yP :List Str:=["price","come","go","least","most"]
theorem gI {x:Str}(h:x∈yP):x∈words:=by
 simp only[yP,zs8,zt5,zv2] at h
 rcases h with rfl|rfl|rfl|rfl|rfl<;>simp[words]
theorem sA {c g:Int}{p:Str×Int}(cg:c<g)(h:p∈tX c g):p.1∈yP∧c≤p.2∧p.2≤g:=by
 unfold tX at h
 rcases zw7.mp h with h|h
 ·obtain⟨z,hz,rfl⟩:=zx4.mp h
  unfold zu at hz
  obtain⟨i,hi,rfl⟩:=zx4.mp hz
  rw[zH0] at hi
  refine⟨by simp[yP],?_,?_⟩<;>show _≤_<;>omega
 ·simp only[zs8,zt5,zv2] at h
  rcases h with rfl|rfl|rfl|rfl<;>exact⟨by simp[yP],by show _≤_;omega,by show _≤_;omega⟩
def uW (q:Str×Int)(v:PyData):PyData:=.tuple [.str q.1,.int q.2,.int q.2,v]
theorem uu (ds:List PyData)(q p:Str×Int)(v:PyData):zj (ds++[uW q v]) p.1 p.2=if q=p then v else zj ds p.1 p.2:=by
 rw[nN]
 have:lZ p.1 p.2 (uW q v)=decide (q=p):=by
  show (decide (q.1=p.1)&&(decide (q.2≤p.2)&&decide (p.2≤q.2)))=_
  by_cases h:q=p
  ·subst h;simp
  ·rw[zv5 h]
   by_cases h1:q.1=p.1
   ·have:¬q.2=p.2:=fun e=>h (Prod.ext h1 e)
    by_cases h2:q.2≤p.2
    ·have:¬p.2≤q.2:=by omega
     simp[this]
    ·simp[h2]
   ·simp[h1]
 rw[this]
 by_cases h:q=p
 ·rw[if_pos h,if_pos (zy0 h)];rfl
 ·rw[if_neg h,if_neg (by simpa using h)]
def vB (x:Str):PyData:=if x="price" then .int 7 else if x="come" then .bool true else if x="go" then .bool true else if x="least" then .int 1 else .int 14
theorem ko {n:Int}(x:Str)(n0:1≤n)(n1:n≤14):uv n x (vB x)=false:=by
 unfold uv vB
 by_cases h1:x="price"
 ·rw[if_pos h1,if_pos h1];rfl
 ·rw[if_neg h1,if_neg h1]
  by_cases h2:x="come"
  ·rw[if_pos h2,if_pos h2];rfl
  ·rw[if_neg h2,if_neg h2]
   by_cases h3:x="go"
   ·rw[if_pos h3,if_pos h3];rfl
   ·rw[if_neg h3,if_neg h3]
    by_cases h4:x="least"
    ·rw[if_pos h4,if_pos h4]
     exact zv5 (by show ¬n<1;omega)
    ·rw[if_neg h4,if_neg h4]
     exact zv5 (by show ¬14<n;omega)
def lift (q:Str×Int):PyData:=uW q (vB q.1)
theorem ie {ds:List PyData}{c g:Int}(q:Str×Int)(h0:c<g)(h1:g≤c+14):zN (ds++[lift q]) c g=(zN ds c g).filter fun p=>!decide (q=p):=by
 unfold zN
 rw[List.filter_filter]
 refine List.filter_congr fun p _=>?_
 unfold rp lift
 rw[uu]
 by_cases h:q=p
 ·rw[if_pos h,←h,ko _ (by omega) (by omega)];simp
 ·rw[if_neg h,zv5 h];simp
theorem vJ (ds:List PyData)(c g:Int):(zN ds c g).Nodup:=(mH c g).filter _
theorem cn {l:List (Str×Int)}(nd:l.Nodup){k:Nat}(hk:k<l.length):(l.filter fun p=>!decide (l[k]=p))=l.take k++l.drop (k+1):=by
 have e:l=l.take k++l[k]::l.drop (k+1):=by rw[List.getElem_cons_drop,zF8]
 have nd2:=nd
 rw[e,zE9,zD3] at nd2
 obtain⟨_,⟨n1,_⟩,n2⟩:=nd2
 have h1:((l.take k).filter fun p=>!decide (l[k]=p))=l.take k:=zD1.mpr fun p hp=>by
  have:=n2 p hp l[k] zt7
  simpa using fun e=>this e.symm
 have h2:((l.drop (k+1)).filter fun p=>!decide (l[k]=p))=l.drop (k+1):=zD1.mpr fun p hp=>by
  simpa using fun e:l[k]=p=>n1 (e▸hp)
 conv=>lhs;arg 2;rw[e]
 rw[zC0,zB1,h1,h2]
 simp
theorem uN (p:Str×Int):∀(es:List (Str×Int)) (ds:List PyData),zj (ds++es.map lift) p.1 p.2=if p∈es then vB p.1 else zj ds p.1 p.2
 |[],ds=>by simp
 |q::es,ds=>by
  have h:=uN p es (ds++[lift q])
  rw[zF0,List.singleton_append] at h
  rw[zw5,h]
  unfold lift
  rw[uu]
  by_cases h1:p∈es
  ·rw[if_pos h1,if_pos (zt4 _ h1)]
  ·rw[if_neg h1]
   by_cases h2:q=p
   ·subst h2
    rw[if_pos rfl,if_pos zt7]
   ·rw[if_neg h2,if_neg]
    intro z
    rcases zs8.mp z with z|z
    ·exact h2 z.symm
    ·exact h1 z
theorem jU {ds:List PyData}{c g:Int}(h0:c<g)(h1:g≤c+14):zN (ds++(zN ds c g).map lift) c g=[]:=by
 refine List.filter_eq_nil_iff.mpr fun p hp=>?_
 unfold rp
 rw[uN]
 by_cases h:p∈zN ds c g
 ·rw[if_pos h,ko _ (by omega) (by omega)];decide
 ·rw[if_neg h]
  intro z
  exact h (zA0.mpr ⟨hp,z⟩)
theorem iA {ds:List PyData}{c g:Int}{q:Str×Int}{v:PyData}(hq:q∈tX c g)(hv:uv (g-c) q.1 v=true):(zN (ds++[uW q v]) c g).Perm ((zN ds c g).filter (fun p=>!decide (p=q))++[q]):=by
 refine (List.perm_ext_iff_of_nodup (vJ _ _ _) ?_).mpr fun p=>?_
 ·rw[zE9]
  refine⟨(vJ _ _ _).filter _,by simp,fun a ha b hb e=>?_⟩
  rw[zu8] at hb
  have:=(zA0.mp ha).2
  rw[e,hb] at this
  simp at this
 ·unfold zN
  simp only[zw7,zA0,zu8]
  unfold rp
  rw[uu]
  by_cases h:q=p
  ·subst h
   simp[hq,hv]
  ·have h':¬p=q:=fun e=>h e.symm
   simp[h,h']
theorem oQ {ds:List PyData}{c g:Int}{p:Str×Int}(h:p∈zN ds c g):p∈tX c g:=(zA0.mp h).1
theorem gC (c g:Int):(tX c g).length=(g-c).toNat+4:=by
 unfold tX
 rw[zu3,zs4,zh]
 rfl
theorem qo (ds:List PyData)(c g:Int):(zN ds c g).length≤(g-c).toNat+4:=by
 rw[←gC]
 exact zF9 _ _
theorem kq {ps:List (Str×Int)}(h:∀p∈ps,p.1∈words∧0≤p.2∧p.2≤1000000)(hl:ps.length≤30):zH sizeLine (.list (ps.map dTI)):=by
 refine zH.list (n:=5000) ⟨fun d hd=>?_,fun d hd=>?_⟩ ?_
 ·obtain⟨p,hp,rfl⟩:=zx4.mp hd
  obtain⟨a,b,c⟩:=h p hp
  exact (vk a (by omega) (by omega)).1
 ·obtain⟨p,hp,rfl⟩:=zx4.mp hd
  obtain⟨a,b,c⟩:=h p hp
  have:(dTI p).depth≤1:=(vk a (by omega) (by omega)).2
  omega
 ·rw[zs4]
  have h2:ps.length*(5000+2)≤30*(5000+2):=zA7 _ hl
  have h3:30*(5000+2)+2≤sizeLine:=by decide
  omega
theorem fu {ds:List PyData}{c g:Int}(h:zN ds c g=[]):pq ds c g=true:=by
 unfold pq
 rw[xU,h]
 rfl
theorem lY {x:Str}(h:x∈yP):zz (.str x) (vB x)=true∧zH 5000 (vB x)∧(vB x).depth≤1:=by
 simp only[yP,zs8,zt5,zv2] at h
 rcases h with rfl|rfl|rfl|rfl|rfl<;>exact⟨by decide +kernel,⟨by decide +kernel,by decide +kernel,by decide +kernel,by decide +kernel,by decide +kernel⟩,by decide +kernel⟩
theorem nO {q:Str×Int}{v:PyData}(h:q.1∈yP)(q0:0≤q.2)(q1:q.2≤1000000)(hw:zz (.str q.1) v=true∧zH 5000 v∧v.depth≤1):wR (uW q v):=wR.of (gI h) q0 (Int.le_refl _) q1 hw.1 hw.2.1 hw.2.2
theorem rR {q:Str×Int}(h:q.1∈yP)(q0:0≤q.2)(q1:q.2≤1000000):wR (lift q):=nO h q0 q1 (lY h)
abbrev iR :Stmt:=top 57
abbrev sx :Stmt:=top 58
abbrev eh :Stmt:=top 47
def fb (C:Addr)(cs:Cs):List A→(A→Prop)→Prop:=fun as Q=>∃ds es,as=[.dat (yC C cs ds),.dat (yC C cs es)]∧zC ds∧zC es∧ds.length+es.length≤24∧Q (.dat (yC C cs (ds++es)))
def eO :List A→(A→Prop)→Prop:=fun as Q=>∃q:Str×Int,as=[.dat (dTI q)]∧q.1∈yP∧Q (.dat (lift q))
structure jk (c g:Int)(q:Str×Int)(v:PyData):Prop where
 mem:q∈tX c g
 bad:uv (g-c) q.1 v=true
 ok:zz (.str q.1) v=true∧zH 5000 v∧v.depth≤1
def qB :List A→(A→Prop)→Prop:=fun as Q=>∃c g:Int,as=[.tape,.dat (.tuple [.int c,.int g])]∧tT c g∧Q (.dat .none)∧∀q v,jk c g q v→Q (.dat (.tuple [uW q v,dTI q]))
abbrev zj8 :List (PyData×PyData):=[(.str "price",.int 7),(.str "come",.bool true),(.str "go",.bool true),(.str "least",.int 1),(.str "most",.int 14)]
theorem bw {x:Str}(h:x∈yP):∃v,tU zj8 x=some (vB x)∧scV (vB x)=some v:=by
 simp only[yP,zs8,zt5,zv2] at h
 rcases h with rfl|rfl|rfl|rfl|rfl
 ·exact⟨.int 7,rfl,rfl⟩
 ·exact⟨.bl true,rfl,rfl⟩
 ·exact⟨.bl true,rfl,rfl⟩
 ·exact⟨.int 1,rfl,rfl⟩
 ·exact⟨.int 14,rfl,rfl⟩
theorem zl5 {c g z:Int}(h0:c≤z)(h1:z<g):z∈zu c (g-c).toNat:=by
 unfold zu
 exact zx4.mpr ⟨(z-c).toNat,zH0.mpr (by omega),by omega⟩
theorem my {c g z:Int}(h0:c≤z)(h1:z<g):jk c g (Str.ofString "price",z) .none:=
 ⟨zz2 _ (zx4.mpr ⟨z,zl5 h0 h1,rfl⟩),rfl,rfl,⟨rfl,rfl,zt6 _,by decide +kernel,rfl⟩,zt6 _⟩
theorem jh {c g:Int}:jk c g (Str.ofString "come",c) (.bool false):=
 ⟨zu6 _ (by simp),by show uv _ (Str.ofString "come") (.bool false)=true;unfold uv;rw[if_neg (by decide +kernel),if_pos rfl];rfl,rfl,⟨rfl,rfl,zt6 _,by decide +kernel,rfl⟩,zt6 _⟩
theorem cW {c g:Int}:jk c g (Str.ofString "go",g) (.bool false):=
 ⟨zu6 _ (by simp),by show uv _ (Str.ofString "go") (.bool false)=true;unfold uv;rw[if_neg (by decide +kernel),if_neg (by decide +kernel),if_pos rfl];rfl,rfl,⟨rfl,rfl,zt6 _,by decide +kernel,rfl⟩,zt6 _⟩
theorem dr {i:Int}(h0:0≤i)(h1:i≤14):zH 5000 (.int i)∧(PyData.int i).depth≤1:=by
 have z1:-big<(0:Int):=by decide
 have z2:(14:Int)<big:=by decide
 exact⟨(zH.int (by omega) (by omega)).mono (by decide),zt6 _⟩
theorem mP {c g:Int}(h0:c<g)(h1:g-c<14):jk c g (Str.ofString "least",c) (.int (g-c+1)):=
 ⟨zu6 _ (by simp),by show uv _ (Str.ofString "least") _=true;unfold uv;rw[if_neg (by decide +kernel),if_neg (by decide +kernel),if_neg (by decide +kernel),if_pos rfl];exact zy0 (by show g-c<g-c+1;omega),by
  rw[show zz (.str (Str.ofString "least")) (.int (g-c+1))=zW 1 14 (.int (g-c+1)) from wQ _]
  exact within_int (by omega) (by omega),dr (by omega) (by omega)⟩
theorem jS {c g:Int}(h0:1<g-c)(h1:g-c≤14):jk c g (Str.ofString "most",c) (.int (g-c-1)):=
 ⟨zu6 _ (by simp),by show uv _ (Str.ofString "most") _=true;unfold uv;rw[if_neg (by decide +kernel),if_neg (by decide +kernel),if_neg (by decide +kernel),if_neg (by decide +kernel)];exact zy0 (by show g-c-1<g-c;omega),by
  rw[show zz (.str (Str.ofString "most")) (.int (g-c-1))=zW 1 14 (.int (g-c-1)) from vI _]
  exact within_int (by omega) (by omega),dr (by omega) (by omega)⟩
section
variable {P:Program}{w:World}{K:PySem.W.Frag}{mg:Str→Option Value}{base:Heap}{cs:Cs}
theorem zn2 :zm ["elder","newer"] ["elder","newer"] (zb eh):=⟨rfl,rfl,rfl,by decide +kernel,rfl,by decide +kernel,by decide +kernel⟩
set_option maxHeartbeats 4000000 in
theorem fQ {f C:Addr}{fd:FuncData}(F:Fun K "laid" "laid" eh f fd)(hm:mg "laid"=some (.ref f))(hb:Binds K fd ["elder","newer"] [])(CK:jq P w K mg base "Book" 9 [] (sU C cs))(MR:wc P w K mg base C "rules" 3 (tf C cs)):Cal P w K mg base "laid" 11 (fb C cs):=by
 refine wJ F hm hb zn2 (fun as Q h=>?_) (fun cdv A' outer s H E as Q hr h=>?_)
 ·obtain⟨ds,es,rfl,_⟩:=h
  rfl
 ·obtain⟨ds,es,rfl,rd,re,hl,q⟩:=h
  have nd:=zn2.nd
  and_intros
  refine⟨rd.rules,by omega,?_⟩
  and_intros
  refine⟨re.rules,by omega,ds,es,rfl,rfl,by omega,?_⟩
  and_intros
  exact⟨ds++es,.inl rfl,(rd.app re).rules,by rw[zu3];exact hl,q⟩
theorem zl8 :zm ["_law_bar","_law_worth_here"] ["_law_bar"] (zb iR):=⟨rfl,rfl,rfl,by decide +kernel,rfl,by decide +kernel,by decide +kernel⟩
theorem cb {f:Addr}{fd:FuncData}(F:Fun K "_law_lifting" "_law_lifting" iR f fd)(hm:mg "_law_lifting"=some (.ref f))(hb:Binds K fd ["_law_bar"] [])(nb:NbT mg):Cal P w K mg base "_law_lifting" 1 eO:=by
 refine wJ F hm hb zl8 (fun as Q h=>?_) (fun cdv A' outer s H E as Q hr h=>?_)
 ·obtain⟨q,rfl,_⟩:=h
  rfl
 ·obtain⟨⟨x,z⟩,rfl,hx,q⟩:=h
  have nd:=zl8.nd
  obtain⟨v,h1,h2⟩:=bw hx
  refine yg 1 nd (fw (D:=zj8) (by rfl) (by rfl) (by decide +kernel) (vE hr.one (fun _ _=>rfl) (zf 0 rfl (zJ (gq ⟨x,vB x,v,rfl,h1,h2,?_⟩)))))
  refine wU (xk (zd (vE hr.one (fun _ _=>rfl) (zf 0 rfl (zJ (gq (zd (vE hr.one (fun _ _=>rfl) (zf 0 rfl (zJ (pY (zd (vE hr.one (fun _ _=>rfl) (zf 0 rfl (zJ (pY (zd (zf 1 rfl (zp ⟨_,rfl,zt9 rfl,q⟩)))))))))))))))))))
theorem zm3 :zm ["_law_tape_here","_law_stay_here","_law_come","_law_go","_law_way","_law_night"] ["_law_tape_here","_law_stay_here"] (zb sx):=⟨rfl,rfl,rfl,by decide +kernel,rfl,by decide +kernel,by decide +kernel⟩
theorem oV {f:Addr}{fd:FuncData}(F:Fun K "_law_barring" "_law_barring" sx f fd)(hm:mg "_law_barring"=some (.ref f))(hb:Binds K fd ["_law_tape_here","_law_stay_here"] [])(nb:NbT mg)(CD:Cal P w K mg base "_law_draw" 1 xt):Cal P w K mg base "_law_barring" 2 qB:=by
 refine wJ F hm hb zm3 (fun as Q h=>?_) (fun cdv A' outer s H E as Q hr h=>?_)
 ·obtain⟨c,g,rfl,_⟩:=h
  rfl
 ·obtain⟨c,g,rfl,⟨c0,cg,g1,g2⟩,qn,q⟩:=h
  have nd:=zm3.nd
  refine bj (pat:=.many [2,3]) (wY (n:=2) (K:=K) rfl rfl (xf (zL (i:=2) nd rfl (Or.inl rfl)) (xf (zL (i:=3) nd rfl (Or.inl rfl)) uf))) (zf 1 rfl ⟨_,rfl,?_⟩)
  and_intros
  rename_i z z0 z1
  refine yB (fun h1=>?_) (fun h1=>?_)
  ·and_intros
   rename_i y y0 y1
   exact q (Str.ofString "price",c+y) _ (my (by omega) (by omega))
  and_intros
  refine yB (fun h2=>?_) (fun h2=>?_)
  ·and_intros
   exact q (Str.ofString "come",c) _ jh
  and_intros
  refine yB (fun h3=>?_) (fun h3=>?_)
  ·and_intros
   exact q (Str.ofString "go",g) _ cW
  refine zE ?_
  refine wM (fun α=>α=[some .tape,some (.dat (.tuple [.int c,.int g])),some (.dat (.int c)),some (.dat (.int g)),some (.dat (.int z)),none]) ?_ ?_
  ·and_intros
   refine aV (fun h4=>?_) (fun h4=>?_)
   ·and_intros
    refine yB (fun h5=>?_) (fun h5=>?_)
    ·have h5':=zz5 h5
     and_intros
     exact q (Str.ofString "least",c) _ (mP (by omega) (by omega))
    ·and_intros
     rfl
   ·and_intros
    rfl
  rintro α rfl
  and_intros
  refine aV (fun h4=>?_) (fun h4=>?_)
  ·and_intros
   refine yB (fun h5=>?_) (fun h5=>?_)
   ·have h5':=zz5 h5
    and_intros
    exact q (Str.ofString "most",c) _ (jS (by omega) (by omega))
   ·and_intros
    exact qn
  ·refine uj rfl ?_
   and_intros
   exact qn
end
abbrev pN :Stmt:=top 59
abbrev NmL :List Str:=["_law_script","_law_tape_here","_law_days","_law_base","_law_rules_here","_law_book","_law_turn","_law_stay_here","_law_some","_law_k","_law_free","_law_more","_law_told"]
theorem zj9 :zm NmL ["_law_script"] (zb pN):=⟨rfl,rfl,rfl,by decide +kernel,rfl,by decide +kernel,by decide +kernel⟩
abbrev stL (C:Addr)(cs:Cs)(dy b:Int)(rs:List PyData)(d:PyData)(c g:Int)(o9 o10 o11 o12:Option A):Ev:=[none,some .tape,some (.dat (.int dy)),some (.dat (.int b)),some (.dat (.list rs)),some (.dat (yC C cs rs)),some (.dat d),some (.dat (.tuple [.int c,.int g])),some (.dat (.list ((zN rs c g).map dTI))),o9,o10,o11,o12]
theorem aB (p q:Str×Int):PyData.eqv (dTI p) (dTI q)=decide (p=q):=by
 obtain⟨a,b⟩:=p
 obtain⟨c,d⟩:=q
 simp only[dTI,PyData.eqv,PyData.eqvAll,Bool.and_true,Prod.mk.injEq]
 by_cases h1:a=c<;>by_cases h2:b=d<;>simp[h1,h2]
theorem ze6 (l:List PyData){k:Nat}(h:k<l.length):L2.cutD l none (some (k:Int))++L2.cutD l (some ((k:Int)+1)) none=l.take k++l.drop (k+1):=by
 unfold L2.cutD
 rw[show ((k:Int)+1)=((k+1:Nat):Int) from rfl,HT.jg,HT.jg,HT.ny,HT.ny,Nat.min_eq_left (zy5 h),Nat.min_eq_left h,List.drop_zero,Nat.sub_zero]
 rw[List.take_of_length_le (l:=l.drop (k+1)) (by rw[zx2];omega)]
theorem zg7 {n k:Nat}{e:PyData}(h:((zu 0 n).map PyData.int)[k]?=some e):k<n∧e=.int (k:Nat):=by
 have hk:k<n:=by
  have:=(zt0.mp h).1
  rwa [zs4,zh] at this
 rw[zu0,wx hk] at h
 refine⟨hk,?_⟩
 simpa using h.symm
section
variable {P:Program}{w:World}{K:PySem.W.Frag}{mg:Str→Option Value}{base:Heap}{cs:Cs}
theorem zf2 {f fT C:Addr}{fd fdT:FuncData}(F:Fun K "law" "law" pN f fd)(nb:NbT mg)(GT:zB P w K mg base CX0 1 fT fdT ["_law_script"] (lg K))(mT:mg "_law_tape"=some (.ref fT))(kT:PySem.W.keepIn K (.ref fT)=true)(bT:Binds K fdT ["_law_script"] [])
  (CD:Cal P w K mg base "_law_draw" 1 xt) (CRF:Cal P w K mg base "_law_rules" 5 oI) (CO:Cal P w K mg base "_law_other_rules" 4 xZ) (CS:Cal P w K mg base "_law_stay" 2 eN) (CBk:jq P w K mg base "Book" 9 [] (sU C cs)) (MR:wc P w K mg base C "rules" 3 (tf C cs)) (CBa:Cal P w K mg base "bars" 3 (pd C cs)) (CHa:Cal P w K mg base "can_be_had" 4 (za1 C cs)) (CCs:Cal P w K mg base "cost" 6 (gF C cs)) (CLd:Cal P w K mg base "laid" 11 (fb C cs)) (CLi:Cal P w K mg base "_law_lifting" 1 eO) (CBg:Cal P w K mg base "_law_barring" 2 qB):
  zB P w K mg base CX0 14 f fd ["_law_script"] (oe K):=by
 refine zp6 (k:=12) F zj9 GT mT kT bT rfl rfl (Or.inl rfl) (Or.inl rfl) (fun cdv A' outer s H E hr=>?_)
 have nd:=zj9.nd
 and_intros
 rename_i v1 a1 b1 v2 a2 b2 v3 a3 b3
 obtain⟨dy,hdy⟩:∃dy:Int,dy=4+v1:=⟨_,rfl⟩
 rw[←hdy]
 refine zj3 (fun d=>∃b:Int,d=.int b∧0≤b∧b≤999980) rfl (by assumption) (by assumption) ⟨⟨_,rfl,by omega,by omega⟩,⟨_,rfl,by omega,by omega⟩,⟨_,rfl,by omega,by omega⟩,trivial⟩ ?_
 rintro _ ⟨b,rfl,b0,b1⟩
 refine yg 4 nd (EvL.d (iT (EvL.d (xQ ?_))))
 and_intros
 refine⟨b,dy,rfl,⟨b0,b1,by omega,by omega⟩,fun ds ro ld=>?_⟩
 and_intros
 refine⟨b,dy,rfl,⟨b0,by omega,by omega,by omega⟩,fun es re le=>?_⟩
 have ree:zC es:=re.ok (by omega) (by omega)
 and_intros
 refine⟨by omega,?_⟩
 and_intros
 obtain⟨rs,hrs⟩:∃rs,rs=L2.cutD (ds++es) none (some 23):=⟨_,rfl⟩
 have rr:zC rs:=fun d hd=>by rw[hrs] at hd;exact (ro.app ree) d (cM hd)
 have rl:rs.length≤15:=by
  rw[hrs]
  have:=bp (ds:=ds++es) (lo:=none) (hi:=some 23)
  rw[zu3] at this
  omega
 rw[←hrs]
 refine⟨rs,.inl rfl,rr.rules,by omega,?_⟩
 refine kr (.one 6) (wg (by rfl) nb.range ?_)
 and_intros
 refine⟨by omega,by omega,?_⟩
 refine yL (fun i α=>∃o6 o7 o8 o9 o10 o11 o12:Option A,α=[none,some .tape,some (.dat (.int dy)),some (.dat (.int b)),some (.dat (.list rs)),some (.dat (yC C cs rs)),o6,o7,o8,o9,o10,o11,o12]) ⟨none,none,none,none,none,none,none,rfl⟩ ?_ ?_
 ·rintro i d α hd ⟨o6,o7,o8,o9,o10,o11,o12,rfl⟩
  refine⟨_,rfl,?_⟩
  and_intros
  refine⟨b,dy,rfl,⟨b0,b1,by omega,by omega⟩,fun c g h1 h2 h3=>?_⟩
  have sg:tT c g:=⟨by omega,by omega,by omega,by omega⟩
  and_intros
  refine⟨rs,c,g,rfl,rr.rules,by omega,by omega,by omega,by omega,?_⟩
  rw[xU]
  have bn:=vJ rs c g
  have bl:(zN rs c g).length≤18:=by
   have:=qo rs c g
   omega
  have bm:∀p∈zN rs c g,p.1∈yP∧0≤p.2∧p.2≤1000000:=fun p hp=>by
   have:=sA (by omega) (oQ hp)
   exact⟨this.1,by omega,by omega⟩
  refine wM (fun α=>∃o9,α=stL C cs dy b rs d c g o9 o10 o11 o12) ?_ ?_
  ·refine kr (.one 9) (wg (by rfl) nb.range ?_)
   and_intros
   rw[zs4]
   refine⟨by omega,by omega,?_⟩
   refine yL (fun k α=>∃o9,α=stL C cs dy b rs d c g o9 o10 o11 o12) ⟨o9,rfl⟩ ?_ ?_
   ·rintro k e α he ⟨o9',rfl⟩
    obtain⟨hk,rfl⟩:=zg7 he
    rw[zA4] at hk
    have hq:=bm _ (zB2 hk)
    have rq:zC [lift (zN rs c g)[k]]:=fun x hx=>by rw[zu8.mp hx];exact rR hq.1 hq.2.1 hq.2.2
    refine⟨_,rfl,?_⟩
    and_intros
    refine ixk rfl rfl (yY (j:=k) (show ((zN rs c g).map dTI)[k]?=some (dTI (zN rs c g)[k]) by rw[zu0,zs6 hk];rfl)) ?_
    and_intros
    refine⟨hq.1,?_⟩
    and_intros
    refine⟨[lift (zN rs c g)[k]],.inl rfl,rq.rules,zt9 rfl,?_⟩
    and_intros
    refine⟨rs,[lift (zN rs c g)[k]],rfl,rr,rq,by show rs.length+1≤24;omega,?_⟩
    and_intros
    refine⟨rs++[lift (zN rs c g)[k]],c,g,rfl,(rr.app rq).rules,by omega,by omega,by omega,by omega,?_⟩
    rw[xU,ie _ h2 (by omega),cn bn hk]
    and_intros
    have ec:=ze6 ((zN rs c g).map dTI) (k:=k) (by rw[zs4];exact hk)
    have e2:((zN rs c g).map dTI).take k++((zN rs c g).map dTI).drop (k+1)=((zN rs c g).take k++(zN rs c g).drop (k+1)).map dTI:=by rw[zw3,List.map_take,List.map_drop]
    have nn:zH sizeLine (.list (((zN rs c g).take k++(zN rs c g).drop (k+1)).map dTI)):=kq (fun p hp=>by
     have hp':p∈zN rs c g:=by
      rcases zw7.mp hp with hp|hp
      ·exact zG6 hp
      ·exact List.mem_of_mem_drop hp
     have:=bm p hp'
     exact⟨gI this.1,this.2⟩) (by rw[zu3,zu9,zx2];omega)
    refine⟨by rw[←zu3,ec,e2,zs4,zu3,zu9,zx2];omega,?_⟩
    rw[ec,e2]
    refine eqk nn.shaped nn.shaped nn.nod nn.nod ?_
    refine uj (by show (!PyData.eqv (.list _) (.list _))=false;rw[SeqAt.eqv_refl _ nn.lay];rfl) ?_
    and_intros
    exact⟨_,rfl⟩
   ·rintro α ⟨o9',rfl⟩
    exact zE ⟨_,rfl⟩
  rintro α ⟨o9,rfl⟩
  refine wM (fun α=>∃o10,α=stL C cs dy b rs d c g o9 o10 o11 o12) ?_ ?_
  ·and_intros
   rw[zs4]
   refine yB (fun h24=>?_) (fun _=>?_)
   ·have h24':=zz5 h24
    have rq:zC ((zN rs c g).map lift):=fun x hx=>by
     obtain⟨p,hp,rfl⟩:=zx4.mp hx
     have:=bm p hp
     exact rR this.1 this.2.1 this.2.2
    have hfr:=jU (ds:=rs) h2 (show g≤c+14 by omega)
    have hh:=fu hfr
    have cp:=zd9 (rr.app rq) sg hh
    and_intros
    refine EvL.d (ck ["_law_bar"] [none] (.one 0) (wC ?_))
    and_intros
    refine⟨by rw[zs4];omega,?_⟩
    refine jv lift (fun p hp=>⟨_,rfl,fun C s2 H2 fp Q q=>?_⟩) ?_
    ·and_intros
     exact⟨(bm p hp).1,q⟩
    rw[zB8]
    and_intros
    refine⟨_,.inl rfl,rq.rules,by rw[zs4];omega,?_⟩
    and_intros
    refine⟨rs,_,rfl,rr,rq,by rw[zs4];omega,?_⟩
    and_intros
    refine⟨_,c,g,rfl,(rr.app rq).rules,by omega,by omega,by omega,by omega,?_⟩
    rw[xU,hfr]
    and_intros
    refine⟨_,c,g,rfl,rr.app rq,sg,?_⟩
    rw[hh]
    and_intros
    refine⟨_,c,g,rfl,rr.app rq,sg,hh,?_⟩
    and_intros
    refine uj (zv5 (by omega)) ?_
    and_intros
    exact⟨_,rfl⟩
   ·and_intros
    exact⟨_,rfl⟩
  rintro α ⟨o10,rfl⟩
  and_intros
  refine⟨c,g,rfl,sg,?_,fun q v br=>?_⟩
  ·and_intros
   exact⟨_,_,_,_,_,_,_,rfl⟩
  have qc:=sA h2 br.mem
  have rq:zC [uW q v]:=fun x hx=>by rw[zu8.mp hx];exact nO qc.1 (by omega) (by omega) br.ok
  have pm:=iA (ds:=rs) br.mem br.bad
  have ln:(zN (rs++[uW q v]) c g).length≤18:=by
   have:=qo (rs++[uW q v]) c g
   omega
  have bm2:∀p∈zN (rs++[uW q v]) c g,p.1∈words∧0≤p.2∧p.2≤1000000:=fun p hp=>by
   have:=sA (by omega) (oQ hp)
   exact⟨gI this.1,by omega,by omega⟩
  and_intros
  refine⟨[uW q v],.inl rfl,rq.rules,zt9 rfl,?_⟩
  and_intros
  refine⟨rs,[uW q v],rfl,rr,rq,by show rs.length+1≤24;omega,?_⟩
  and_intros
  refine⟨_,c,g,rfl,(rr.app rq).rules,by omega,by omega,by omega,by omega,?_⟩
  rw[xU]
  refine xW (lq hr.units (EvL.d (tV (by rfl) nb.sorted (zf 12 rfl ⟨_,rfl,by omega,fun s1 p1 r1=>?_⟩))))
  refine EvL.d (tV (by rfl) nb.sorted (EvL.d (xQ (EvL.d (ck ["_law_bar","_law_more"] [none,some 11] (.one 0) (wC (zf 8 rfl ⟨_,rfl,by rw[zs4];omega,?_⟩)))))))
  refine oG (fun p=>!decide (p=q)) dTI (fun p hp=>⟨_,rfl,fun C s2 H2 fp Q k=>mZ ?_,fun _ C s2 H2 fp Q k=>zf 0 rfl k⟩) ?_
  ·have n1:=(vk (z:=p.2) (gI (bm p hp).1) (by have:=(bm p hp).2.1;omega) (by have:=(bm p hp).2.2;omega)).1
   have n2:=(vk (z:=q.2) (gI qc.1) (by omega) (by omega)).1
   refine lq hr.units (zf 0 rfl (vE hr.one (fun _ _=>rfl) (zf 1 rfl (zJ (pY ?_)))))
   refine eqk n1.shaped n2.shaped n1.nod n2.nod ?_
   rw[aB]
   exact k
  rw[zB8]
  refine EvL.d (yN (zd (vE hr.one (fun _ _=>rfl) (zf 11 rfl (zJ (pY (zp ⟨_,rfl,zt9 rfl,?_⟩)))))))
  have lf:((zN rs c g).filter fun p=>!decide (p=q)).length≤18:=zw6 (zF9 _ _) bl
  refine⟨_,_,rfl,rfl,by rw[zs4];show _+1≤1000;omega,?_⟩
  refine⟨((zN rs c g).filter fun p=>!decide (p=q))++[q],by rw[zw3];rfl,by rw[zu3];show _+1<64;omega,fun s2 p2 r2=>?_⟩
  obtain rfl:=gN (p1.trans (pm.trans p2.symm)) r1 r2
  have nn:zH sizeLine (.list (s1.map dTI)):=kq (fun p hp=>bm2 p (p1.mem_iff.mp hp)) (by rw[p1.length_eq];omega)
  refine eqk nn.shaped nn.shaped nn.nod nn.nod ?_
  refine uj (by rw[SeqAt.eqv_refl _ nn.lay];rfl) ?_
  and_intros
  exact⟨_,_,_,_,_,_,_,rfl⟩
 rintro α ⟨o6,o7,o8,o9,o10,o11,o12,rfl⟩
 and_intros
 refine⟨rr.rules,by omega,?_⟩
 refine⟨rr.nice (by omega),?_⟩
 and_intros
 refine⟨rr.nice (by omega),?_⟩
 and_intros
 simp[A.d]
end
def FnF (K:PySem.W.Frag)(f:Addr)(nm ql:Str)(st:Stmt):Prop:=∃fd,Fun K nm ql st f fd
theorem mkF {K:PySem.W.Frag}{f:Addr}{nm ql:Str}{st:Stmt}{oc kV dc pm cd ct:Value}{od an:Option Addr}{sl:Array (Option Value)}(l:K.lookup f=some ⟨oc,od,.func (PySem.W.fnOf nm ql (zK st) (zw st) (zb st) .none kV dc pm an cd ct),sl⟩)(c:PySem.W.codeIn K cd ql=true)(k:PySem.W.keepIn K (.ref f)=true):FnF K f nm ql st:=⟨_,lr l c k⟩
def FnG (K:PySem.W.Frag)(f:Addr)(nm:Str)(st:Stmt):Prop:=PySem.W.nsIn K mainGlobals nm=some (some (.ref f))∧FnF K f nm nm st
theorem mkG {K:PySem.W.Frag}{f:Addr}{nm:Str}{st:Stmt}{oc kV dc pm cd ct:Value}{od an:Option Addr}{sl:Array (Option Value)}(a:PySem.W.nsIn K mainGlobals nm=some (some (.ref f)))(l:K.lookup f=some ⟨oc,od,.func (PySem.W.fnOf nm nm (zK st) (zw st) (zb st) .none kV dc pm an cd ct),sl⟩)(c:PySem.W.codeIn K cd nm=true)(k:PySem.W.keepIn K (.ref f)=true):FnG K f nm st:=⟨a,mkF l c k⟩
theorem FnF.get {K:PySem.W.Frag}{f:Addr}{nm ql:Str}{st:Stmt}(ps:List Str)(h:FnF K f nm ql st)(hb:∀(kV doc pm:Value) (an:Option Addr) (cdv ct:Value) (us:List Value),us.length=ps.length→bindArgs (PySem.W.fnOf nm ql (zK st) (zw st) (zb st) .none kV doc pm an cdv ct) ⟨us,[]⟩=pure (ps.zip us)):∃fd,Fun K nm ql st f fd∧Binds K fd ps []:=by
 obtain⟨fd,F⟩:=h
 exact⟨fd,F,F.binds hb⟩
theorem FnG.get {K:PySem.W.Frag}{h0:Heap}{mg:Str→Option Value}{f:Addr}{nm:Str}{st:Stmt}(ps:List Str)(h:FnG K f nm st)(X:K.In h0)(G:h0.Ns mainGlobals mg)(hb:∀(kV doc pm:Value) (an:Option Addr) (cdv ct:Value) (us:List Value),us.length=ps.length→bindArgs (PySem.W.fnOf nm nm (zK st) (zw st) (zb st) .none kV doc pm an cdv ct) ⟨us,[]⟩=pure (ps.zip us)):∃fd,mg nm=some (.ref f)∧Fun K nm nm st f fd∧Binds K fd ps []:=by
 obtain⟨a,fd,F⟩:=h
 exact⟨fd,zw1 X G a,F,F.binds hb⟩
theorem mkR {K:PySem.W.Frag}{C gi gt ge gw:Addr}(pg:PySem.W.plainGet K C Str.empty=true)(hd:PySem.W.hasDictIn K C=true)(po:PySem.W.plainOver K C=true)(sa:PySem.W.findIn K (.ref C) "__setattr__"=some (some (.builtin "object.__setattr__")))(n1:PySem.W.findIn K (.ref C) "first"=some none)(n2:PySem.W.findIn K (.ref C) "last"=some none)(n3:PySem.W.findIn K (.ref C) "worth"=some none)(mk:PySem.W.makesIn K C=true)(f1:PySem.W.findIn K (.ref C) "__init__"=some (some (.ref gi)))(i1:PySem.W.isFn K (.ref gi)=true)(kc:PySem.W.keepIn K (.ref C)=true)(f2:PySem.W.findIn K (.ref C) "told"=some (some (.ref gt)))(i2:PySem.W.isFn K (.ref gt)=true)(k2:PySem.W.keepIn K (.ref gt)=true)(f3:PySem.W.findIn K (.ref C) "tells"=some (some (.ref ge)))(i3:PySem.W.isFn K (.ref ge)=true)(k3:PySem.W.keepIn K (.ref ge)=true)(f4:PySem.W.findIn K (.ref C) "word"=some (some (.ref gw)))(i4:PySem.W.isFn K (.ref gw)=true)(k4:PySem.W.keepIn K (.ref gw)=true):xN K C gi gt ge gw:=⟨⟨pg,hd,po,sa⟩,n1,n2,n3,⟨mk,f1,i1,kc⟩,⟨f2,i2,k2⟩,⟨f3,i3,k3⟩,⟨f4,i4,k4⟩⟩
theorem jo {K:PySem.W.Frag}{dT:Addr}{oc kV doc pm cdv ct:Value}{od an:Option Addr}{n:Nat}{sl:Array (Option Value)}(lk:K.lookup dT=some ⟨oc,od,.seq #[.none] n,sl⟩):
  Binds K (PySem.W.fnOf "__init__" "Book.__init__" (zK xl) (zw xl) (zb xl) (.ref dT) kV doc pm an cdv ct) ["self","rules"] [.none]:=fun s us hk hl=>by
 match us,(show us.length=1 by rw[zu3] at hl;simpa using hl) with
 |[u],_=>exact BindsTo.of_defaults (T:=dT) rfl (hk _ _ lk) rfl rfl rfl
theorem iy {K:PySem.W.Frag}{dT:Addr}{oc kV doc pm cdv ct:Value}{od an:Option Addr}{n:Nat}{sl:Array (Option Value)}(lk:K.lookup dT=some ⟨oc,od,.seq #[.none] n,sl⟩):
  Binds K (PySem.W.fnOf "__init__" "Book.__init__" (zK xl) (zw xl) (zb xl) (.ref dT) kV doc pm an cdv ct) ["self","rules"] []:=fun s us hk hl=>by
 rw[zz3] at hl ⊢
 match us,hl with
 |[u,v],_=>exact BindsTo.of_defaults (T:=dT) rfl (hk _ _ lk) rfl rfl rfl
theorem aC {P:Str→Prop}(h1:P "price")(h2:P "come")(h3:P "go")(h4:P "least")(h5:P "most")(h6:P "deal")(h7:P "fee"):∀u∈words,P u:=by
 intro u hu
 simp only[words,zs8,zt5,zv2] at hu
 rcases hu with rfl|rfl|rfl|rfl|rfl|rfl|rfl<;>assumption
set_option maxHeartbeats 8000000 in
theorem us1 {α:Type}{p:List α→Prop}(h:∀a,p [a])(us:List α)(hl:us.length=1):p us:=by
 obtain⟨a,rfl⟩:=List.length_eq_one_iff.mp hl
 exact h a
theorem us2 {α:Type}{p:List α→Prop}(h:∀a b,p [a,b])(us:List α)(hl:us.length=2):p us:=by
 cases us with
 |nil=>cases hl
 |cons a us=>exact us1 (p:=fun us=>p (a::us)) (h a) us (Nat.succ.inj hl)
theorem us3 {α:Type}{p:List α→Prop}(h:∀a b c,p [a,b,c])(us:List α)(hl:us.length=3):p us:=by
 cases us with
 |nil=>cases hl
 |cons a us=>exact us2 (p:=fun us=>p (a::us)) (h a) us (Nat.succ.inj hl)
theorem us4 {α:Type}{p:List α→Prop}(h:∀a b c d,p [a,b,c,d])(us:List α)(hl:us.length=4):p us:=by
 cases us with
 |nil=>cases hl
 |cons a us=>exact us3 (p:=fun us=>p (a::us)) (h a) us (Nat.succ.inj hl)
set_option maxHeartbeats 0 in
theorem all_mk {l:PySem.W.OpenLaw}{w:World}{K:PySem.W.Frag}{h:Heap}{mg:Str→Option Value}{fa cC f1 f2 f3 f4 f5 f6 f7 f8 f9 f10 f11 f12 f13 f14 f15 f16 f17 f18 f19 f20 f21 f22 f23 f24 f25 f26 f27 f28 f29 f30 f31 f32 f33 f34 g_init g_told g_tells g_wPrice g_wCome g_wGo g_wLeast g_wMost g_wDeal g_wFee CPrice CCome CGo CLeast CMost CDeal CFee CB dT g_binit g_brules g_btells dU:Addr}(X:K.In h)(G:h.Ns mainGlobals mg)(hfa:mg "law"=some (.ref fa))
  {od14 an14 od34 an34 odB anB odT:Option Addr} {sl14 sl34 slB slT:Array (Option Value)} {oc14 kV14 dc14 pm14 ct14 oc34 kV34 dc34 pm34 ct34 cd34 ocB kVB dcB pmB ctB cdB ocT:Value} {tk1 tk2 tk3 tk4 tu1 tu2 tu3 tu4 tu5 tu6 tu7 tu8 tu9 tu10:Tok} {hu1 hu2 hu3 hu4 hu5 hu6 hu7:Int} {nT nU:Nat}
  (q1:FnG K f1 "is_whole" pk)
  (q2:FnG K f2 "is_whole_within" pF)
  (q3:FnG K f3 "is_pair" eJ)
  (q4:FnG K f4 "is_day" zf5)
  (q5:FnG K f5 "is_pair_of_days" dM)
  (q6:FnG K f6 "is_stretch" sr)
  (q7:FnG K f7 "is_coins" mx)
  (q8:FnG K f8 "is_deal" pV)
  (q9:FnG K f9 "is_worth" lM)
  (q10:FnG K f10 "is_rule" pL)
  (q11:FnG K f11 "made" dQ)
  (q12:FnG K f12 "rule_of" pj)
  (q13:FnG K f13 "nights_of" qP)
  (a14:PySem.W.nsIn K mainGlobals "cheapest_first"=some (some (.ref f14)))
  (l14:K.lookup f14=some ⟨oc14,od14,.func (PySem.W.fnOf "cheapest_first" "cheapest_first" (zK yH) (zw yH) (zb yH) .none kV14 dc14 pm14 an14 (.ref cC) ct14),sl14⟩)
  (c14:PySem.W.codeIn K (.ref cC) "cheapest_first"=true)
  (k14:PySem.W.keepIn K (.ref f14)=true)
  (q15:FnG K f15 "marked" vn)
  (q16:FnG K f16 "night_prices" sNP)
  (q17:FnG K f17 "bill" uH)
  (q18:FnG K f18 "bars" qA)
  (q19:FnG K f19 "can_be_had" zh1)
  (q20:FnG K f20 "cost" gB)
  (q21:FnG K f21 "usual" mC)
  (q22:FnG K f22 "kept_rules" hU)
  (q23:FnG K f23 "laid" eh)
  (q24:FnG K f24 "_law_tape" rY)
  (q25:FnG K f25 "_law_draw" dg)
  (q26:FnG K f26 "_law_coins" pb)
  (q27:FnG K f27 "_law_worth" pM)
  (q28:FnG K f28 "_law_price_rules" qH)
  (q29:FnG K f29 "_law_other_rules" pR)
  (q30:FnG K f30 "_law_rules" pP)
  (q31:FnG K f31 "_law_stay" gp)
  (q32:FnG K f32 "_law_lifting" iR)
  (q33:FnG K f33 "_law_barring" sx)
  (a34:PySem.W.nsIn K mainGlobals "law"=some (some (.ref f34)))
  (l34:K.lookup f34=some ⟨oc34,od34,.func (PySem.W.fnOf "law" "law" (zK pN) (zw pN) (zb pN) .none kV34 dc34 pm34 an34 cd34 ct34),sl34⟩)
  (c34:PySem.W.codeIn K cd34 "law"=true)
  (k34:PySem.W.keepIn K (.ref f34)=true)
  (aCPrice:PySem.W.nsIn K mainGlobals "Price"=some (some (.ref CPrice)))
  (aCCome:PySem.W.nsIn K mainGlobals "Come"=some (some (.ref CCome)))
  (aCGo:PySem.W.nsIn K mainGlobals "Go"=some (some (.ref CGo)))
  (aCLeast:PySem.W.nsIn K mainGlobals "Least"=some (some (.ref CLeast)))
  (aCMost:PySem.W.nsIn K mainGlobals "Most"=some (some (.ref CMost)))
  (aCDeal:PySem.W.nsIn K mainGlobals "Deal"=some (some (.ref CDeal)))
  (aCFee:PySem.W.nsIn K mainGlobals "Fee"=some (some (.ref CFee)))
  (RPrice:xN K CPrice g_init g_told g_tells g_wPrice)
  (RCome:xN K CCome g_init g_told g_tells g_wCome)
  (RGo:xN K CGo g_init g_told g_tells g_wGo)
  (RLeast:xN K CLeast g_init g_told g_tells g_wLeast)
  (RMost:xN K CMost g_init g_told g_tells g_wMost)
  (RDeal:xN K CDeal g_init g_told g_tells g_wDeal)
  (RFee:xN K CFee g_init g_told g_tells g_wFee)
  (q_init:FnF K g_init "__init__" "Rule.__init__" kN)
  (q_told:FnF K g_told "told" "Rule.told" fX)
  (q_tells:FnF K g_tells "tells" "Rule.tells" nV)
  (q_wPrice:FnF K g_wPrice "word" "Price.word" qL)
  (q_wCome:FnF K g_wCome "word" "Come.word" nW)
  (q_wGo:FnF K g_wGo "word" "Go.word" zh0)
  (q_wLeast:FnF K g_wLeast "word" "Least.word" qS)
  (q_wMost:FnF K g_wMost "word" "Most.word" lu)
  (q_wDeal:FnF K g_wDeal "word" "Deal.word" mw)
  (q_wFee:FnF K g_wFee "word" "Fee.word" dW)
  (aCB:PySem.W.nsIn K mainGlobals "Book"=some (some (.ref CB)))
  (fi_binit:PySem.W.findIn K (.ref CB) "__init__"=some (some (.ref g_binit)))
  (is_binit:PySem.W.isFn K (.ref g_binit)=true)
  (l_binit:K.lookup g_binit=some ⟨ocB,odB,.func (PySem.W.fnOf "__init__" "Book.__init__" (zK xl) (zw xl) (zb xl) (.ref dT) kVB dcB pmB anB cdB ctB),slB⟩)
  (c_binit:PySem.W.codeIn K cdB "Book.__init__"=true)
  (k_binit:PySem.W.keepIn K (.ref g_binit)=true)
  (lT:K.lookup dT=some ⟨ocT,odT,.seq #[.none] nT,slT⟩)
  (fi_brules:PySem.W.findIn K (.ref CB) "rules"=some (some (.ref g_brules)))
  (is_brules:PySem.W.isFn K (.ref g_brules)=true)
  (q_brules:FnF K g_brules "rules" "Book.rules" vA)
  (fi_btells:PySem.W.findIn K (.ref CB) "tells_of"=some (some (.ref g_btells)))
  (is_btells:PySem.W.isFn K (.ref g_btells)=true)
  (q_btells:FnF K g_btells "tells_of" "Book.tells_of" pe)
  (pgB:PySem.W.plainGet K CB Str.empty=true)
  (hdB:PySem.W.hasDictIn K CB=true)
  (poB:PySem.W.plainOver K CB=true)
  (saB:PySem.W.findIn K (.ref CB) "__setattr__"=some (some (.builtin "object.__setattr__")))
  (mkB:PySem.W.makesIn K CB=true)
  (kcB:PySem.W.keepIn K (.ref CB)=true)
  (noB:PySem.W.findIn K (.ref CB) "kept"=some none)
  (z1:PySem.W.nsIn K mainGlobals "abs"=some none)
  (z2:PySem.W.nsIn K mainGlobals "list"=some none)
  (z3:PySem.W.nsIn K mainGlobals "len"=some none)
  (z4:PySem.W.nsIn K mainGlobals "range"=some none)
  (z5:PySem.W.nsIn K mainGlobals "min"=some none)
  (z6:PySem.W.nsIn K mainGlobals "max"=some none)
  (z7:PySem.W.nsIn K mainGlobals "sorted"=some none)
  (z8:PySem.W.nsIn K mainGlobals "isinstance"=some none)
  (z9:PySem.W.nsIn K mainGlobals "int"=some none)
  (z10:PySem.W.nsIn K mainGlobals "bool"=some none)
  (z11:PySem.W.nsIn K mainGlobals "str"=some none)
  (z12:PySem.W.nsIn K mainGlobals "tuple"=some none)
  (z13:PySem.W.nsIn K mainGlobals "all"=some none)
  (z14:PySem.W.nsIn K mainGlobals "any"=some none)
  (z15:PySem.W.nsIn K mainGlobals "repr"=some none)
  (z16:PySem.W.nsIn K mainGlobals "zip"=some none)
  (z17:PySem.W.nsIn K mainGlobals "enumerate"=some none)
  (z18:PySem.W.nsIn K mainGlobals "reversed"=some none)
  (z19:PySem.W.nsIn K mainGlobals "sum"=some none)
  (gi1:PySem.W.nsIn K mainGlobals "LAST_DAY"=some (some (.int 1000000 tk1)))
  (gi2:PySem.W.nsIn K mainGlobals "MOST_NIGHTS"=some (some (.int 14 tk2)))
  (gi3:PySem.W.nsIn K mainGlobals "MOST_COINS"=some (some (.int 1000000000000 tk3)))
  (gi4:PySem.W.nsIn K mainGlobals "MOST_RULES"=some (some (.int 24 tk4)))
  (aU:PySem.W.nsIn K mainGlobals "USUAL"=some (some (.ref dU)))
  (lU:K.lookup dU=some ⟨.type "dict",none,.dict #[⟨hu1,.str "price" tu1,.none⟩,⟨hu2,.str "come" tu2,.bool true⟩,⟨hu3,.str "go" tu3,.bool true⟩,⟨hu4,.str "least" tu4,.int 1 tu8⟩,⟨hu5,.str "most" tu5,.int 14 tu9⟩,⟨hu6,.str "deal" tu6,.none⟩,⟨hu7,.str "fee" tu7,.int 0 tu10⟩] nU,#[]⟩)
  (hh1:hu1=hashStr w "price")
  (hh2:hu2=hashStr w "come")
  (hh3:hu3=hashStr w "go")
  (hh4:hu4=hashStr w "least")
  (hh5:hu5=hashStr w "most")
  (hh6:hu6=hashStr w "deal")
  (hh7:hu7=hashStr w "fee")
  (hhd:PySem.W.codeHdIn K cC yr=true):
  ∃fd:FuncData,(∀(s:Shared) (v:Value),BindsTo s fd ⟨[v],[]⟩ [("_law_script",v)])∧∀base:Heap,K.In base→base.Ns mainGlobals mg→base.BuiltinsAt mg yr→zB l.prog w K mg base CX0 14 fa fd ["_law_script"] (oe K):=by
 have e:=hfa.symm.trans (zw1 X G a34)
 cases e
 have nb:NbT mg:=⟨zu7 X G z1,zu7 X G z2,zu7 X G z3,zu7 X G z4,zu7 X G z5,zu7 X G z6,zu7 X G z7,zu7 X G z8,zu7 X G z9,zu7 X G z10,zu7 X G z11,zu7 X G z12,zu7 X G z13,zu7 X G z14,zu7 X G z15,zu7 X G z16,zu7 X G z17,zu7 X G z18,zu7 X G z19⟩
 obtain⟨_,m_is_whole,F_is_whole,b_is_whole⟩:=q1.get ["thing"] X G fun _ _ _ _ _ _=>us1 fun _=>rfl
 obtain⟨_,m_is_whole_within,F_is_whole_within,b_is_whole_within⟩:=q2.get ["thing","lowest","highest"] X G fun _ _ _ _ _ _=>us3 fun _ _ _=>rfl
 obtain⟨_,m_is_pair,F_is_pair,b_is_pair⟩:=q3.get ["thing"] X G fun _ _ _ _ _ _=>us1 fun _=>rfl
 obtain⟨_,m_is_day,F_is_day,b_is_day⟩:=q4.get ["thing"] X G fun _ _ _ _ _ _=>us1 fun _=>rfl
 obtain⟨_,m_is_pair_of_days,F_is_pair_of_days,b_is_pair_of_days⟩:=q5.get ["thing"] X G fun _ _ _ _ _ _=>us1 fun _=>rfl
 obtain⟨_,m_is_stretch,F_is_stretch,b_is_stretch⟩:=q6.get ["thing"] X G fun _ _ _ _ _ _=>us1 fun _=>rfl
 obtain⟨_,m_is_coins,F_is_coins,b_is_coins⟩:=q7.get ["thing"] X G fun _ _ _ _ _ _=>us1 fun _=>rfl
 obtain⟨_,m_is_deal,F_is_deal,b_is_deal⟩:=q8.get ["thing"] X G fun _ _ _ _ _ _=>us1 fun _=>rfl
 obtain⟨_,m_is_worth,F_is_worth,b_is_worth⟩:=q9.get ["word","thing"] X G fun _ _ _ _ _ _=>us2 fun _ _=>rfl
 obtain⟨_,m_is_rule,F_is_rule,b_is_rule⟩:=q10.get ["thing"] X G fun _ _ _ _ _ _=>us1 fun _=>rfl
 obtain⟨_,m_made,F_made,b_made⟩:=q11.get ["word","first","last","worth"] X G fun _ _ _ _ _ _=>us4 fun _ _ _ _=>rfl
 obtain⟨_,m_rule_of,F_rule_of,b_rule_of⟩:=q12.get ["thing"] X G fun _ _ _ _ _ _=>us1 fun _=>rfl
 obtain⟨_,m_nights_of,F_nights_of,b_nights_of⟩:=q13.get ["stay"] X G fun _ _ _ _ _ _=>us1 fun _=>rfl
 have m_cheapest_first:mg "cheapest_first"=some (.ref f14):=zw1 X G a14
 have F_cheapest_first:=lr (st:=yH) l14 c14 k14
 have b_cheapest_first:=F_cheapest_first.binds (ps:=["prices","places"]) fun _ _ _ _ _ _=>us2 fun _ _=>rfl
 obtain⟨_,m_marked,F_marked,b_marked⟩:=q15.get ["prices","deal"] X G fun _ _ _ _ _ _=>us2 fun _ _=>rfl
 obtain⟨_,m_night_prices,F_night_prices,b_night_prices⟩:=q16.get ["book","nights"] X G fun _ _ _ _ _ _=>us2 fun _ _=>rfl
 obtain⟨_,m_bill,F_bill,b_bill⟩:=q17.get ["book","stay"] X G fun _ _ _ _ _ _=>us2 fun _ _=>rfl
 obtain⟨_,m_bars,F_bars,b_bars⟩:=q18.get ["book","stay"] X G fun _ _ _ _ _ _=>us2 fun _ _=>rfl
 obtain⟨_,m_can_be_had,F_can_be_had,b_can_be_had⟩:=q19.get ["book","stay"] X G fun _ _ _ _ _ _=>us2 fun _ _=>rfl
 obtain⟨_,m_cost,F_cost,b_cost⟩:=q20.get ["book","stay"] X G fun _ _ _ _ _ _=>us2 fun _ _=>rfl
 obtain⟨_,m_usual,F_usual,b_usual⟩:=q21.get ["word"] X G fun _ _ _ _ _ _=>us1 fun _=>rfl
 obtain⟨_,m_kept_rules,F_kept_rules,b_kept_rules⟩:=q22.get ["things"] X G fun _ _ _ _ _ _=>us1 fun _=>rfl
 obtain⟨_,m_laid,F_laid,b_laid⟩:=q23.get ["elder","newer"] X G fun _ _ _ _ _ _=>us2 fun _ _=>rfl
 obtain⟨_,m__law_tape,F__law_tape,b__law_tape⟩:=q24.get ["_law_script"] X G fun _ _ _ _ _ _=>us1 fun _=>rfl
 obtain⟨_,m__law_draw,F__law_draw,b__law_draw⟩:=q25.get ["_law_tape_here","_law_many"] X G fun _ _ _ _ _ _=>us2 fun _ _=>rfl
 obtain⟨_,m__law_coins,F__law_coins,b__law_coins⟩:=q26.get ["_law_tape_here"] X G fun _ _ _ _ _ _=>us1 fun _=>rfl
 obtain⟨_,m__law_worth,F__law_worth,b__law_worth⟩:=q27.get ["_law_tape_here","_law_word"] X G fun _ _ _ _ _ _=>us2 fun _ _=>rfl
 obtain⟨_,m__law_price_rules,F__law_price_rules,b__law_price_rules⟩:=q28.get ["_law_tape_here","_law_base","_law_days"] X G fun _ _ _ _ _ _=>us3 fun _ _ _=>rfl
 obtain⟨_,m__law_other_rules,F__law_other_rules,b__law_other_rules⟩:=q29.get ["_law_tape_here","_law_base","_law_days"] X G fun _ _ _ _ _ _=>us3 fun _ _ _=>rfl
 obtain⟨_,m__law_rules,F__law_rules,b__law_rules⟩:=q30.get ["_law_tape_here","_law_base","_law_days"] X G fun _ _ _ _ _ _=>us3 fun _ _ _=>rfl
 obtain⟨_,m__law_stay,F__law_stay,b__law_stay⟩:=q31.get ["_law_tape_here","_law_base","_law_days"] X G fun _ _ _ _ _ _=>us3 fun _ _ _=>rfl
 obtain⟨_,m__law_lifting,F__law_lifting,b__law_lifting⟩:=q32.get ["_law_bar"] X G fun _ _ _ _ _ _=>us1 fun _=>rfl
 obtain⟨_,m__law_barring,F__law_barring,b__law_barring⟩:=q33.get ["_law_tape_here","_law_stay_here"] X G fun _ _ _ _ _ _=>us2 fun _ _=>rfl
 have F_law:=lr (st:=pN) l34 c34 k34
 have b_law:=F_law.binds (ps:=["_law_script"]) fun _ _ _ _ _ _=>us1 fun _=>rfl
 obtain⟨_,F_init,b_init⟩:=q_init.get ["self","first","last","worth"] fun _ _ _ _ _ _=>us4 fun _ _ _ _=>rfl
 obtain⟨_,F_told,b_told⟩:=q_told.get ["self"] fun _ _ _ _ _ _=>us1 fun _=>rfl
 obtain⟨_,F_tells,b_tells⟩:=q_tells.get ["self","day"] fun _ _ _ _ _ _=>us2 fun _ _=>rfl
 obtain⟨_,F_wPrice,b_wPrice⟩:=q_wPrice.get ["self"] fun _ _ _ _ _ _=>us1 fun _=>rfl
 obtain⟨_,F_wCome,b_wCome⟩:=q_wCome.get ["self"] fun _ _ _ _ _ _=>us1 fun _=>rfl
 obtain⟨_,F_wGo,b_wGo⟩:=q_wGo.get ["self"] fun _ _ _ _ _ _=>us1 fun _=>rfl
 obtain⟨_,F_wLeast,b_wLeast⟩:=q_wLeast.get ["self"] fun _ _ _ _ _ _=>us1 fun _=>rfl
 obtain⟨_,F_wMost,b_wMost⟩:=q_wMost.get ["self"] fun _ _ _ _ _ _=>us1 fun _=>rfl
 obtain⟨_,F_wDeal,b_wDeal⟩:=q_wDeal.get ["self"] fun _ _ _ _ _ _=>us1 fun _=>rfl
 obtain⟨_,F_wFee,b_wFee⟩:=q_wFee.get ["self"] fun _ _ _ _ _ _=>us1 fun _=>rfl
 obtain⟨_,F_brules,b_brules⟩:=q_brules.get ["self"] fun _ _ _ _ _ _=>us1 fun _=>rfl
 obtain⟨_,F_btells,b_btells⟩:=q_btells.get ["self","word","day"] fun _ _ _ _ _ _=>us3 fun _ _ _=>rfl
 have TD:nC mg f1 f2 f3 f4 f5:=⟨nb.isinstance,nb.int,nb.bool,nb.tuple,nb.len,⟨tk1,zw1 X G gi1⟩,⟨tk2,zw1 X G gi2⟩,m_is_whole,m_is_whole_within,m_is_pair,m_is_day,m_is_pair_of_days⟩
 have TR:mF mg f1 f2 f3 f4 f5 f6 f7 f8 f9 f10 f11 ⟨CPrice,CCome,CGo,CLeast,CMost,CDeal,CFee⟩:=⟨TD,⟨tk3,zw1 X G gi3⟩,m_is_stretch,m_is_coins,m_is_deal,m_is_worth,m_is_rule,m_made,zw1 X G aCPrice,zw1 X G aCCome,zw1 X G aCGo,zw1 X G aCLeast,zw1 X G aCMost,zw1 X G aCDeal,zw1 X G aCFee⟩
 have TT:zf3 mg:=⟨nb.abs,nb.list,nb.len⟩
 have A7:fU K ⟨CPrice,CCome,CGo,CLeast,CMost,CDeal,CFee⟩ g_init g_told g_tells g_wPrice g_wCome g_wGo g_wLeast g_wMost g_wDeal g_wFee:=⟨RPrice,RCome,RGo,RLeast,RMost,RDeal,RFee⟩
 refine⟨PySem.W.fnOf "law" "law" (zK pN) (zw pN) (zb pN) .none kV34 dc34 pm34 an34 cd34 ct34,fun s v=>.of_eq rfl,fun base KX _ hbi=>?_⟩
 have G_in:=jL (P:=l.prog) (w:=w) (base:=base) F_is_whole_within TD F_is_whole b_is_whole
 have G_pair:=bJ (P:=l.prog) (w:=w) (base:=base) F_is_pair TD
 have G_day:=zb0 F_is_day TD G_in F_is_whole_within.kp b_is_whole_within
 have G_days:=aa F_is_pair_of_days TD G_pair F_is_pair.kp b_is_pair G_day F_is_day.kp b_is_day
 have G_stretch:=lJ F_is_stretch TD G_days F_is_pair_of_days.kp b_is_pair_of_days
 have G_coins:=eu F_is_coins TR G_in F_is_whole_within.kp b_is_whole_within
 have G_deal:=jJ F_is_deal TR G_in F_is_whole_within.kp b_is_whole_within G_pair F_is_pair.kp b_is_pair
 have G_worth:=ff F_is_worth TR G_in F_is_whole_within.kp b_is_whole_within G_coins F_is_coins.kp b_is_coins G_deal F_is_deal.kp b_is_deal
 have G_rule:=ig F_is_rule TR G_stretch F_is_stretch.kp b_is_stretch G_worth F_is_worth.kp b_is_worth
 have G_made:=cz (P:=l.prog) (w:=w) (base:=base) F_made TR A7 F_init b_init
 have G_ruleOf:=jx F_rule_of TR G_rule F_is_rule.kp b_is_rule G_made F_made.kp b_made
 have CRO:Cal l.prog w K mg base "rule_of" 7 (tG ⟨CPrice,CCome,CGo,CLeast,CMost,CDeal,CFee⟩):=lH m_rule_of F_rule_of.kp b_rule_of G_ruleOf
 have CKe:Cal l.prog w K mg base "kept_rules" 8 (mD ⟨CPrice,CCome,CGo,CLeast,CMost,CDeal,CFee⟩):=gG F_kept_rules m_kept_rules b_kept_rules nb ⟨tk4,zw1 X G gi4⟩ CRO
 have cB:Cls K CB:=⟨pgB,hdB,poB,saB⟩
 have GBI:=iS (aA (st:=xl) l_binit c_binit k_binit) cB noB CKe
 have m_Book:mg "Book"=some (.ref CB):=zw1 X G aCB
 have MkB:Mk K CB g_binit:=⟨mkB,fi_binit,is_binit,kcB⟩
 have CBk:jq l.prog w K mg base "Book" 9 [] (sU CB ⟨CPrice,CCome,CGo,CLeast,CMost,CDeal,CFee⟩):=⟨CB,g_binit,_,_,_,m_Book,MkB,iy lT,.nil,GBI⟩
 have CBk0:jq l.prog w K mg base "Book" 9 [.non] (sU CB ⟨CPrice,CCome,CGo,CLeast,CMost,CDeal,CFee⟩):=⟨CB,g_binit,_,_,_,m_Book,MkB,jo lT,.cons rfl .nil,GBI⟩
 have OT:∀u∈words,wc l.prog w K mg base ((⟨CPrice,CCome,CGo,CLeast,CMost,CDeal,CFee⟩:Cs).of u) "told" 2 (mG ((⟨CPrice,CCome,CGo,CLeast,CMost,CDeal,CFee⟩:Cs).of u) u):=aC (by rw[ve];exact yO RPrice b_told (wq F_told RPrice (qw F_wPrice) b_wPrice)) (by rw[ui];exact yO RCome b_told (wq F_told RCome (nk F_wCome) b_wCome)) (by rw[oE];exact yO RGo b_told (wq F_told RGo (hJ F_wGo) b_wGo)) (by rw[vb];exact yO RLeast b_told (wq F_told RLeast (qx F_wLeast) b_wLeast)) (by rw[ue];exact yO RMost b_told (wq F_told RMost (om F_wMost) b_wMost)) (by rw[uc];exact yO RDeal b_told (wq F_told RDeal (pX F_wDeal) b_wDeal)) (by rw[sE];exact yO RFee b_told (wq F_told RFee (kA F_wFee) b_wFee))
 have DU:kL K w dU tbU:=⟨_,nU,lU,.cons ⟨hh1,⟨_,rfl⟩,rfl⟩ (.cons ⟨hh2,⟨_,rfl⟩,rfl⟩ (.cons ⟨hh3,⟨_,rfl⟩,rfl⟩ (.cons ⟨hh4,⟨_,rfl⟩,⟨_,rfl⟩⟩ (.cons ⟨hh5,⟨_,rfl⟩,⟨_,rfl⟩⟩ (.cons ⟨hh6,⟨_,rfl⟩,rfl⟩ (.cons ⟨hh7,⟨_,rfl⟩,⟨_,rfl⟩⟩ (.nil))))))),by decide +kernel⟩
 have CU:Cal l.prog w K mg base "usual" 1 qE:=jA F_usual m_usual b_usual (zw1 X G aU) DU
 have OW:∀u∈words,wc l.prog w K mg base ((⟨CPrice,CCome,CGo,CLeast,CMost,CDeal,CFee⟩:Cs).of u) "word" 1 (mQ ((⟨CPrice,CCome,CGo,CLeast,CMost,CDeal,CFee⟩:Cs).of u) u):=aC (by rw[ve];exact yS RPrice b_wPrice (qw F_wPrice)) (by rw[ui];exact yS RCome b_wCome (nk F_wCome)) (by rw[oE];exact yS RGo b_wGo (hJ F_wGo)) (by rw[vb];exact yS RLeast b_wLeast (qx F_wLeast)) (by rw[ue];exact yS RMost b_wMost (om F_wMost)) (by rw[uc];exact yS RDeal b_wDeal (pX F_wDeal)) (by rw[sE];exact yS RFee b_wFee (kA F_wFee))
 have ORT:∀u∈words,wc l.prog w K mg base ((⟨CPrice,CCome,CGo,CLeast,CMost,CDeal,CFee⟩:Cs).of u) "tells" 1 (si ((⟨CPrice,CCome,CGo,CLeast,CMost,CDeal,CFee⟩:Cs).of u)):=aC (by rw[ve];exact yy RPrice b_tells (xy F_tells RPrice)) (by rw[ui];exact yy RCome b_tells (xy F_tells RCome)) (by rw[oE];exact yy RGo b_tells (xy F_tells RGo)) (by rw[vb];exact yy RLeast b_tells (xy F_tells RLeast)) (by rw[ue];exact yy RMost b_tells (xy F_tells RMost)) (by rw[uc];exact yy RDeal b_tells (xy F_tells RDeal)) (by rw[sE];exact yy RFee b_tells (xy F_tells RFee))
 have OC:∀u∈words,Cls K ((⟨CPrice,CCome,CGo,CLeast,CMost,CDeal,CFee⟩:Cs).of u)∧yE K ((⟨CPrice,CCome,CGo,CLeast,CMost,CDeal,CFee⟩:Cs).of u) "worth":=aC (by rw[ve];exact⟨RPrice.cl,RPrice.nw⟩) (by rw[ui];exact⟨RCome.cl,RCome.nw⟩) (by rw[oE];exact⟨RGo.cl,RGo.nw⟩) (by rw[vb];exact⟨RLeast.cl,RLeast.nw⟩) (by rw[ue];exact⟨RMost.cl,RMost.nw⟩) (by rw[uc];exact⟨RDeal.cl,RDeal.nw⟩) (by rw[sE];exact⟨RFee.cl,RFee.nw⟩)
 have MTe:wc l.prog w K mg base CB "tells_of" 2 (uh CB ⟨CPrice,CCome,CGo,CLeast,CMost,CDeal,CFee⟩):=⟨g_btells,_,_,cB,⟨fi_btells,is_btells,F_btells.kp⟩,b_btells,jI F_btells cB noB nb CU OW ORT OC⟩
 have MR:wc l.prog w K mg base CB "rules" 3 (tf CB ⟨CPrice,CCome,CGo,CLeast,CMost,CDeal,CFee⟩):=⟨g_brules,_,_,cB,⟨fi_brules,is_brules,F_brules.kp⟩,b_brules,jZ F_brules cB noB b_brules OT⟩
 have CD:Cal l.prog w K mg base "_law_draw" 1 xt:=gS m__law_draw F__law_draw.kp b__law_draw (cJ F__law_draw TT)
 have CCo:=jY F__law_coins m__law_coins b__law_coins CD
 have CW:=jT F__law_worth m__law_worth b__law_worth CD CCo
 have CPR:=ka F__law_price_rules m__law_price_rules b__law_price_rules nb CD CCo
 have CO:=lB F__law_other_rules m__law_other_rules b__law_other_rules nb CD CW
 have CRW:=mK F__law_rules m__law_rules b__law_rules CD CPR CO
 have CRF:=iC CRW
 have CSt:=fc F__law_stay m__law_stay b__law_stay CD
 have CN:=mM (P:=l.prog) (w:=w) (base:=base) F_nights_of m_nights_of b_nights_of nb
 have CC:Cal l.prog w K mg base "cheapest_first" 3 qD:=jG l14 c14 k14 m_cheapest_first b_cheapest_first nb hhd KX hbi
 have CMa:Cal l.prog w K mg base "marked" 4 sM:=ly F_marked m_marked b_marked nb CC
 have CNP:=zh9 F_night_prices m_night_prices b_night_prices MTe
 have CBi:=iK (eB F_bill m_bill b_bill nb MTe CN CNP CMa)
 have CBa:=fY F_bars m_bars b_bars CN MTe
 have CHa:=cF F_can_be_had m_can_be_had b_can_be_had CBa
 have CCs:=dC F_cost m_cost b_cost CBa CBi
 have CLd:=fQ F_laid m_laid b_laid CBk MR
 have CLi:=cb (P:=l.prog) (w:=w) (base:=base) F__law_lifting m__law_lifting b__law_lifting nb
 have CBg:=oV F__law_barring m__law_barring b__law_barring nb CD
 exact zf2 F_law nb (cA F__law_tape TT) m__law_tape F__law_tape.kp b__law_tape CD CRF CO CSt CBk MR CBa CHa CCs CLd CLi CBg
theorem walk {l:PySem.W.OpenLaw}{q:Program}{loose:List Str}{XP:(Str→Option Value)→Heap→Prop}{YP:World→Heap→Prop}{d:DefRec}{K:Params→PySem.W.Frag}{c:Addr}(hn:l.most=some 63)(hdf:d.params.defaults=[])
  (hY:∀(w:World) (h:Heap),YP w h→(K w.params).In h) (hYT:∀(w:World) (h:Heap),YP w h→h.get? yr=some (PySem.W.tabObj #[]))
  (hNo:∀w:World,(K w.params).lookup yr=none) (hTab:∀w:World,∃o vs,(K w.params).lookup c=some o∧o.cls=.type "code"∧o.data=.fields vs∧vs[11]?=some (.ref yr))
  (F:∀(w:World) (mg:Str→Option Value) (fa:Addr) (h:Heap),(K w.params).In h→h.Ns mainGlobals mg→mg d.name=some (.ref fa)→
   ∃fd:FuncData,(∀(s:Shared) (u:Value),BindsTo s fd ⟨[u],[]⟩ [("_law_script",u)])∧∀base:Heap,(K w.params).In base→base.Ns mainGlobals mg→base.BuiltinsAt mg yr→zB l.prog w (K w.params) mg base CX0 14 fa fd ["_law_script"] (oe (K w.params))):
  PySem.W.WalkO q loose XP YP l.row.toRowW d [] (fun f vs=>PySem.call f vs):=
 L2.gD (n:=63) (k:=14) (x:="_law_script") (CX:=fun _=>CX0) (sp:=fun w=>oe (K w.params)) hn (by decide) hdf ⟨rfl,by decide,by decide,rfl⟩ hY hYT hNo hTab F (fun _ H a ns hl _ hT hS=>⟨a,ns,rfl,hS,hl,⟨#[],hT,trivial,fun pos cv hc=>by cases hc⟩,fun _=>rfl⟩) fun _ _ _ _ _ z=>z
end K43
def PySem.W.Fast.tw15792497934336138637 :Nat:=0
def PySem.W.Fast.tw13755066441364740616 :Nat:=0
def PySem.W.Fast.tw11222065975446943148 :Nat:=0
def PySem.W.Fast.tw7757154319272541459 :Nat:=0
def PySem.W.Fast.tw17475034742656235827 :Nat:=0
def PySem.W.Fast.tw7598054549435791570 :Nat:=0
def PySem.W.Fast.tw16959080202832782747 :Nat:=0
def PySem.W.Fast.tw8538798876164956720 :Nat:=0
def PySem.W.Fast.tw3997055044660711029 :Nat:=0
def PySem.W.Fast.tw6830528599043899099 :Nat:=0
def PySem.W.Fast.tw17158877991570882218 :Nat:=0
def PySem.W.Fast.tw5999414313845249025 :Nat:=0
def PySem.W.Fast.tw7093192677617429046 :Nat:=0
def PySem.W.Fast.tw16134088481776037111 :Nat:=0
def PySem.W.Fast.tw3931393314224203190 :Nat:=0
def PySem.W.Fast.tw4859593192645201279 :Nat:=0
def PySem.W.Fast.tw17325184887101121002 :Nat:=0
def PySem.W.Fast.tw2403879036650751237 :Nat:=0
def PySem.W.Fast.tw9203007489095057909 :Nat:=0
def PySem.W.Fast.tw16814799421500078888 :Nat:=0
def PySem.W.Fast.tw2966081395162546157 :Nat:=0
def PySem.W.Fast.tw13422008181340327062 :Nat:=0
def PySem.W.Fast.tw6866351692938319419 :Nat:=0
def PySem.W.Fast.tw17666351988554218098 :Nat:=0
def PySem.W.Fast.tw14331698562101823697 :Nat:=0
def PySem.W.Fast.tw14368481685871646816 :Nat:=0
def PySem.W.Fast.tw2144663687114279794 :Nat:=0
def PySem.W.Fast.tw7113352298391365540 :Nat:=0
def PySem.W.Fast.tw11623305624824911075 :Nat:=0
def PySem.W.Fast.tw4643340319976351276 :Nat:=0
def PySem.W.Fast.tw999719296777920779 :Nat:=0
def PySem.W.Fast.tw17929333996438073202 :Nat:=0
def PySem.W.Fast.tw14333012981150387667 :Nat:=0
def PySem.W.Fast.tw6377403832211938743 :Nat:=0
def PySem.W.Fast.tw16507280652788788166 :Nat:=0
def PySem.W.Fast.tw6007850606471352002 :Nat:=0
def PySem.W.Fast.tw6369944176940064496 :Nat:=0
def PySem.W.Fast.tw163854350892655738 :Nat:=0
def PySem.W.Fast.tw7060983927217847236 :Nat:=0
def PySem.W.Fast.tw15777852438181102431 :Nat:=0
def PySem.W.Fast.tw8498391532727526554 :Nat:=0
def PySem.W.Fast.tw12909016630503217277 :Nat:=0
def PySem.W.Fast.tw13768488495180832935 :Nat:=0
def PySem.W.Fast.tw3672215144699383269 :Nat:=0
def PySem.W.Fast.tw7011453286860726352 :Nat:=0
def PySem.W.Fast.tw9872137106526274786 :Nat:=0
def PySem.W.Fast.tw15179268333405788567 :Nat:=0
def PySem.W.Fast.tw2913503037713419038 :Nat:=0
def PySem.W.Fast.tw115117497404490712 :Nat:=0
def PySem.W.Fast.tw1468780947205097081 :Nat:=0
def PySem.W.Fast.tw4301865853108240753 :Nat:=0
def PySem.W.Fast.tw3497199277877504771 :Nat:=0
def PySem.W.Fast.tw6374232741739967963 :Nat:=0
def PySem.W.Fast.tw3145734057829384834 :Nat:=0
def PySem.W.Fast.tw16216514761840630368 :Nat:=0
def PySem.W.Fast.tw13321145963086767385 :Nat:=0
def PySem.W.Fast.tw12830713484892394170 :Nat:=0
def PySem.W.Fast.tw16252863393859304694 :Nat:=0
def PySem.W.Fast.tw9942584538905095260 :Nat:=0
def PySem.W.Fast.tw5318382580205900673 :Nat:=0
def PySem.W.Fast.tw14522454662450853268 :Nat:=0
def PySem.W.Fast.tw6952855464429885316 :Nat:=0
def PySem.W.Fast.tw9980872559402017595 :Nat:=0
def PySem.W.Fast.tw866831090921975013 :Nat:=0
def PySem.W.Fast.tw11243450750199287492 :Nat:=0
def PySem.W.Fast.tw4481991149760147661 :Nat:=0
def PySem.W.Fast.tw14213636486107524077 :Nat:=0
def PySem.W.Fast.tw3673273540429430928 :Nat:=0
def PySem.W.Fast.tw16630981353862093588 :Nat:=0
def PySem.W.Fast.tw6360386903051936542 :Nat:=0
def PySem.W.Fast.tw15465197759491716487 :Nat:=0
def PySem.W.Fast.tw4611945235961669108 :Nat:=0
def PySem.W.Fast.tw8796504717187287809 :Nat:=0
def PySem.W.Fast.tw10766939159771707171 :Nat:=0
def PySem.W.Fast.tw5341005202189344680 :Nat:=0
def PySem.W.Fast.tw12685282060971355254 :Nat:=0
def PySem.W.Fast.tw13534849026308125306 :Nat:=0
def PySem.W.Fast.tw4985399880431411685 :Nat:=0
def PySem.W.Fast.tw18156636032680451071 :Nat:=0
def PySem.W.Fast.tw3638938418075203964 :Nat:=0
def PySem.W.Fast.tw10703047962915295132 :Nat:=0
def PySem.W.Fast.tw10402185136452282221 :Nat:=0
def PySem.W.Fast.tw5877928978503617753 :Nat:=0
def PySem.W.Fast.tw11406495849963927662 :Nat:=0
def PySem.W.Fast.tw11192477981734188869 :Nat:=0
def PySem.W.Fast.tw15378410099369502421 :Nat:=0
def PySem.W.Fast.tw15810906574569123944 :Nat:=0
def PySem.W.Fast.tw4058224981746266075 :Nat:=0
def PySem.W.Fast.tw2162532219035841334 :Nat:=0
def PySem.W.Fast.tw9928118023023541373 :Nat:=0
def PySem.W.Fast.tw7538405805372719569 :Nat:=0
def PySem.W.Fast.tw8380627970734295556 :Nat:=0
def PySem.W.Fast.tw6382346811352224936 :Nat:=0
def PySem.W.Fast.tw17963805328129226819 :Nat:=0
def PySem.W.Fast.tw14880866221979750857 :Nat:=0
def PySem.W.Fast.tw6796445582187690508 :Nat:=0
def PySem.W.Fast.tw7546338392951402233 :Nat:=0
def PySem.W.Fast.tw4190944245464715023 :Nat:=0
def PySem.W.Fast.tw17630479877928970293 :Nat:=0
def PySem.W.Fast.tw4750379055468533627 :Nat:=0
def PySem.W.Fast.tw7708028133752048662 :Nat:=0
def PySem.W.Fast.tw11669563858443120962 :Nat:=0
def PySem.W.Fast.tw16962374322769875398 :Nat:=0
def PySem.W.Fast.tw7254883019992500334 :Nat:=0
def PySem.W.Fast.tw12512361912507066218 :Nat:=0
def PySem.W.Fast.tw16158814273328243635 :Nat:=0
def PySem.W.Fast.tw411241532316186721 :Nat:=0
def PySem.W.Fast.tw14025678841506146320 :Nat:=0
def PySem.W.Fast.tw8005880035854823277 :Nat:=0
def PySem.W.Fast.tw14990117198638758420 :Nat:=0
def PySem.W.Fast.tw8244837855268236430 :Nat:=0
def PySem.W.Fast.tw7516599404187996715 :Nat:=0
def PySem.W.Fast.tw7632421016140062551 :Nat:=0
def PySem.W.Fast.tw11376403150552620513 :Nat:=0
def PySem.W.Fast.tw51162666746566005 :Nat:=0
def PySem.W.Fast.tw5098025921273587289 :Nat:=0
def PySem.W.Fast.tw12738998298892172913 :Nat:=0
def PySem.W.Fast.tw16874200496742284022 :Nat:=0
def PySem.W.Fast.tw9408837968043519262 :Nat:=0
def PySem.W.Fast.tw3632151934301436438 :Nat:=0
def PySem.W.Fast.tw16321128673007260891 :Nat:=0
def PySem.W.Fast.tw5923815620135869165 :Nat:=0
def PySem.W.Fast.tw861059196207258394 :Nat:=0
def PySem.W.Fast.tw9183779265462563904 :Nat:=0
def PySem.W.Fast.tw2591277574943165315 :Nat:=0
def PySem.W.Fast.tw1141480174578382445 :Nat:=0
def PySem.W.Fast.tw9600269220741607795 :Nat:=0
def PySem.W.Fast.tw12044338905450452330 :Nat:=0
def PySem.W.Fast.tw13477426287634838242 :Nat:=0
def PySem.W.Fast.tw12722352906458145190 :Nat:=0
def PySem.W.Fast.tw3276605886474292572 :Nat:=0
def PySem.W.Fast.tw14084527001696804897 :Nat:=0
def PySem.W.Fast.tw11449256154683593977 :Nat:=0
def PySem.W.Fast.tw3165563372980229743 :Nat:=0
def PySem.W.Fast.tw7799087804641598493 :Nat:=0
def PySem.W.Fast.tw7090011556242825455 :Nat:=0
def PySem.W.Fast.tw71343139550653992 :Nat:=0
def PySem.W.Fast.tw18406379544876715630 :Nat:=0
def PySem.W.Fast.tw17926202877124734305 :Nat:=0
def PySem.W.Fast.tw1041512843966791269 :Nat:=0
def PySem.W.Fast.tw11600304045510777929 :Nat:=0
def PySem.W.Fast.tw12349721217671766745 :Nat:=0
def PySem.W.Fast.tw16300036809837405025 :Nat:=0
def PySem.W.Fast.tw15410561163343244594 :Nat:=0
def PySem.W.Fast.tw9952863970622014956 :Nat:=0
def PySem.W.Fast.tw5060072310781901897 :Nat:=0
def PySem.W.Fast.tw16431120647729376449 :Nat:=0
def PySem.W.Fast.tw6267362066889407357 :Nat:=0
def PySem.W.Fast.tw17317760455388487721 :Nat:=0
def PySem.W.Fast.tw6865848461888747516 :Nat:=0
def PySem.W.Fast.tw1618798427906846388 :Nat:=0
def PySem.W.Fast.tw15914990042731165613 :Nat:=0
def PySem.W.Fast.tw252116937798166525 :Nat:=0
def PySem.W.Fast.tw16407825146796373080 :Nat:=0
def PySem.W.Fast.tw11690643849043088083 :Nat:=0
def PySem.W.Fast.tw17817814236603197441 :Nat:=0
def PySem.W.Fast.tw5170926674173771642 :Nat:=0
def PySem.W.Fast.tw9563043290040391237 :Nat:=0
def PySem.W.Fast.tw1981912446487672296 :Nat:=0
def PySem.W.Fast.tw4262791720061622186 :Nat:=0
def PySem.W.Fast.tw3360660684024652801 :Nat:=0
def PySem.W.Fast.tw16143489244702941086 :Nat:=0
def PySem.W.Fast.tw1133270452794005891 :Nat:=0
def PySem.W.Fast.tw12842191668656306105 :Nat:=0
def PySem.W.Fast.tw7423315044994776097 :Nat:=0
def PySem.W.Fast.tw6958135428786355050 :Nat:=0
def PySem.W.Fast.tw5076174741624294963 :Nat:=0
def PySem.W.Fast.tw4159075704137454192 :Nat:=0
def PySem.W.Fast.tw1098162462224578426 :Nat:=0
def PySem.W.Fast.tw8319007458355172465 :Nat:=0
def PySem.W.Fast.tw1926328751945895528 :Nat:=0
def PySem.W.Fast.tw15560421872188783257 :Nat:=0
def PySem.W.Fast.tw11147594638836950261 :Nat:=0
def PySem.W.Fast.tw1941975936209984501 :Nat:=0
def PySem.W.Fast.tw11898197615589998233 :Nat:=0
def PySem.W.Fast.tw5629793484397361689 :Nat:=0
def PySem.W.Fast.tw12353154608304395284 :Nat:=0
def PySem.W.Fast.tw16047135302243118701 :Nat:=0
def PySem.W.Fast.tw6504944712084755917 :Nat:=0
def PySem.W.Fast.tw1217834082692411428 :Nat:=0
def PySem.W.Fast.tw17314596059544156081 :Nat:=0
def PySem.W.Fast.tw11170885586448879694 :Nat:=0
def PySem.W.Fast.tw15376012163963193578 :Nat:=0
def PySem.W.Fast.tw5040202337446837125 :Nat:=0
def PySem.W.Fast.tw4846323424234259667 :Nat:=0
def PySem.W.Fast.tw9853943567589223663 :Nat:=0
def PySem.W.Fast.tw13407762642674995872 :Nat:=0
def PySem.W.Fast.tw2488383559656766042 :Nat:=0
def PySem.W.Fast.tw7929622346106688440 :Nat:=0
def PySem.W.Fast.tw9231572182514275218 :Nat:=0
def PySem.W.Fast.tw5844753189342337654 :Nat:=0
def PySem.W.Fast.tw14662459009430067916 :Nat:=0
def PySem.W.Fast.tw7032014059990078119 :Nat:=0
def PySem.W.Fast.tw10278711888066429717 :Nat:=0
def PySem.W.Fast.tw15726664059717911795 :Nat:=0
def PySem.W.Fast.tw17443597384274594684 :Nat:=0
def PySem.W.Fast.tw11921736765164702358 :Nat:=0
def PySem.W.Fast.tw9820253283501309932 :Nat:=0
def PySem.W.Fast.tw15267466480125481382 :Nat:=0
def PySem.W.Fast.tw17992448952553010119 :Nat:=0
def PySem.W.Fast.tw17557490069205481054 :Nat:=0
def PySem.W.Fast.tw6682532712904694009 :Nat:=0
def PySem.W.Fast.tw14404898437048624088 :Nat:=0
def PySem.W.Fast.tw10985109417829513581 :Nat:=0
def PySem.W.Fast.tw14446786731358795883 :Nat:=0
def PySem.W.Fast.tw5534719667073363886 :Nat:=0
def PySem.W.Fast.tw7700472192737902627 :Nat:=0
def PySem.W.Fast.tw5261380304240192358 :Nat:=0
def PySem.W.Fast.tw15417810977451388638 :Nat:=0
def PySem.W.Fast.tw9337371395219119735 :Nat:=0
def PySem.W.Fast.tw1744035946200547076 :Nat:=0
def PySem.W.Fast.tw17164172452781683322 :Nat:=0
def PySem.W.Fast.tw16317720005841292827 :Nat:=0
def PySem.W.Fast.tw14965720462345036916 :Nat:=0
def PySem.W.Fast.tw15275494510791562347 :Nat:=0
def PySem.W.Fast.tw4292037498620169429 :Nat:=0
def PySem.W.Fast.tw9438879920410565836 :Nat:=0
def PySem.W.Fast.tw14337984207757829334 :Nat:=0
def PySem.W.Fast.tw12704929825064565885 :Nat:=0
def PySem.W.Fast.tw5024800022326521338 :Nat:=0
def PySem.W.Fast.tw374138806601969655 :Nat:=0
def PySem.W.Fast.tw7102804994200442627 :Nat:=0
def PySem.W.Fast.tw599607992292145062 :Nat:=0
def PySem.W.Fast.tw3353310138961319093 :Nat:=0
def PySem.W.Fast.tw6712108198544046649 :Nat:=0
def PySem.W.Fast.tw14691953106490826672 :Nat:=0
def PySem.W.Fast.tw12108808537813109441 :Nat:=0
def PySem.W.Fast.tw10665234668142142279 :Nat:=0
def PySem.W.Fast.tw9261050859223196133 :Nat:=0
def PySem.W.Fast.tw10186661362469269181 :Nat:=0
def PySem.W.Fast.tw3867349139192320069 :Nat:=0
open PySem PySem.W PyProof.Rows
set_option maxRecDepth 100000 in
set_option maxHeartbeats 0 in
theorem PySem.Challenge.cw_stayprice_k43_whole_each_bar_bars_alone_holds : PySem.Challenge.rw_stayprice_k43_whole_each_bar_bars_alone.Holds := by
 w_on;o_law;k_head;(case hw=>w_witness2)
 k_fill
 refine K43.walk (l:=PySem.Challenge.rw_stayprice_k43_whole_each_bar_bars_alone) (c:=(151:Nat)) rfl rfl (fun w h Y=>PySem.W.km_in_of Y) (fun w h Y=>PySem.W.km_tabs_of Y _ (zu8.mpr rfl)) ?hno ?htab ?hF
 case hno=>intro w;kernel_rfl
 case htab=>intro w;exact⟨_,_,by k_is,rfl,rfl,rfl⟩
 case hF=>
  intro w mg fa h KX G hmg
  refine' K43.all_mk KX G hmg (K43.mkG ?_ ?_ ?_ ?_) (K43.mkG ?_ ?_ ?_ ?_) (K43.mkG ?_ ?_ ?_ ?_) (K43.mkG ?_ ?_ ?_ ?_) (K43.mkG ?_ ?_ ?_ ?_) (K43.mkG ?_ ?_ ?_ ?_) (K43.mkG ?_ ?_ ?_ ?_) (K43.mkG ?_ ?_ ?_ ?_) (K43.mkG ?_ ?_ ?_ ?_) (K43.mkG ?_ ?_ ?_ ?_) (K43.mkG ?_ ?_ ?_ ?_) (K43.mkG ?_ ?_ ?_ ?_) (K43.mkG ?_ ?_ ?_ ?_) ?_ ?_ ?_ ?_ (K43.mkG ?_ ?_ ?_ ?_) (K43.mkG ?_ ?_ ?_ ?_) (K43.mkG ?_ ?_ ?_ ?_) (K43.mkG ?_ ?_ ?_ ?_) (K43.mkG ?_ ?_ ?_ ?_) (K43.mkG ?_ ?_ ?_ ?_) (K43.mkG ?_ ?_ ?_ ?_) (K43.mkG ?_ ?_ ?_ ?_) (K43.mkG ?_ ?_ ?_ ?_) (K43.mkG ?_ ?_ ?_ ?_) (K43.mkG ?_ ?_ ?_ ?_) (K43.mkG ?_ ?_ ?_ ?_) (K43.mkG ?_ ?_ ?_ ?_) (K43.mkG ?_ ?_ ?_ ?_) (K43.mkG ?_ ?_ ?_ ?_) (K43.mkG ?_ ?_ ?_ ?_) (K43.mkG ?_ ?_ ?_ ?_) (K43.mkG ?_ ?_ ?_ ?_) (K43.mkG ?_ ?_ ?_ ?_) ?_ ?_ ?_ ?_ ?_ ?_ ?_ ?_ ?_ ?_ ?_ (K43.mkR ?_ ?_ ?_ ?_ ?_ ?_ ?_ ?_ ?_ ?_ ?_ ?_ ?_ ?_ ?_ ?_ ?_ ?_ ?_ ?_) (K43.mkR ?_ ?_ ?_ ?_ ?_ ?_ ?_ ?_ ?_ ?_ ?_ ?_ ?_ ?_ ?_ ?_ ?_ ?_ ?_ ?_) (K43.mkR ?_ ?_ ?_ ?_ ?_ ?_ ?_ ?_ ?_ ?_ ?_ ?_ ?_ ?_ ?_ ?_ ?_ ?_ ?_ ?_) (K43.mkR ?_ ?_ ?_ ?_ ?_ ?_ ?_ ?_ ?_ ?_ ?_ ?_ ?_ ?_ ?_ ?_ ?_ ?_ ?_ ?_) (K43.mkR ?_ ?_ ?_ ?_ ?_ ?_ ?_ ?_ ?_ ?_ ?_ ?_ ?_ ?_ ?_ ?_ ?_ ?_ ?_ ?_) (K43.mkR ?_ ?_ ?_ ?_ ?_ ?_ ?_ ?_ ?_ ?_ ?_ ?_ ?_ ?_ ?_ ?_ ?_ ?_ ?_ ?_) (K43.mkR ?_ ?_ ?_ ?_ ?_ ?_ ?_ ?_ ?_ ?_ ?_ ?_ ?_ ?_ ?_ ?_ ?_ ?_ ?_ ?_) (K43.mkF ?_ ?_ ?_) (K43.mkF ?_ ?_ ?_) (K43.mkF ?_ ?_ ?_) (K43.mkF ?_ ?_ ?_) (K43.mkF ?_ ?_ ?_) (K43.mkF ?_ ?_ ?_) (K43.mkF ?_ ?_ ?_) (K43.mkF ?_ ?_ ?_) (K43.mkF ?_ ?_ ?_) (K43.mkF ?_ ?_ ?_) ?_ ?_ ?_ ?_ ?_ ?_ ?_ ?_ ?_ (K43.mkF ?_ ?_ ?_) ?_ ?_ (K43.mkF ?_ ?_ ?_) ?_ ?_ ?_ ?_ ?_ ?_ ?_ ?_ ?_ ?_ ?_ ?_ ?_ ?_ ?_ ?_ ?_ ?_ ?_ ?_ ?_ ?_ ?_ ?_ ?_ ?_ ?_ ?_ ?_ ?_ ?_ ?_ ?_ ?_ ?_ ?_ ?_ ?_ ?_ ?_
  all_goals try (show _=_;first|k_is|kernel_rfl)
