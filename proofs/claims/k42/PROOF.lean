import PyProof.Rows.All
import Wide.All
import OpenK.AllK
import Wide.FinOn
import Lean
import PyProof.EqAt
import PyProof.EqKinds
import PyProof.TupleCall
import PySem.Challenge.RW_stayprice_k42_had_and_cost
set_option Elab.async false
set_option linter.all false
set_option maxRecDepth 100000
def zt2 := @_root_.PySem.wpAny_bind
def zt3 := @_root_.PySem.Heap.get?_push_of_some
def zt4 := @_root_.List.length_map
def zt5 := @_root_.List.getElem?_eq_getElem
def zt6 := @_root_.PySem.wpAny_pure
def zt7 := @_root_.List.getD_eq_getElem?_getD
def zt8 := @_root_.List.getElem?_eq_some_iff
def zt9 := @_root_.Nat.le_refl
def zu0 := @_root_.PySem.Heap.lt_size
def zu1 := @_root_.List.mem_cons
def zu2 := @_root_.List.size_toArray
def zu3 := @_root_.List.mem_cons_of_mem
def zu4 := @_root_.Bool.false_ne_true
def zu5 := @_root_.PySem.Heap.get?_update_other
def zu6 := @_root_.Nat.le_of_ble_eq_true
def zu7 := @_root_.PySem.Heap.get?_push_size
def zu8 := @_root_.List.not_mem_nil
def zu9 := @_root_.List.length_append
def zv0 := @_root_.List.length_cons
def zv1 := @_root_.Nat.lt_of_lt_of_le
def zv2 := @_root_.List.getElem?_map
def zv3 := @_root_.Nat.zero_le
def zv4 := @_root_.Nat.ne_of_lt
def zv5 := @_root_.List.mem_cons_self
def zv6 := @_root_.Bool.and_eq_true
def zv7 := @_root_.PySem.W.mg_none_of
def zv8 := @_root_.List.length_set
def zv9 := @_root_.List.getElem?_append_left
def zw0 := @_root_.Option.some.inj
def zw1 := @_root_.PySem.W.mg_of
def zw2 := @_root_.List.mem_singleton
def zw3 := @_root_.List.getElem?_append_right
def zw4 := @_root_.PySem.wpAny_mono
def zw5 := @_root_.Bool.eq_false_iff
def zw6 := @_root_.List.getElem?_set_ne
def zw7 := @_root_.Ne.symm
def zw8 := @_root_.List.length_take
def zw9 := @_root_.Option.map_eq_some_iff
def zx0 := @_root_.List.lookup_cons
def zx1 := @_root_.or_false
def zx2 := @_root_.decide_eq_true_eq
def zx3 := @_root_.List.mem_append_right
def zx4 := @_root_.PySem.sizeLine_eq
def zx5 := @_root_.PySem.mem_of_lookup
def zx6 := @_root_.PySem.wpAny_holding
def zx7 := @_root_.Nat.le_trans
def zx8 := @_root_.PySem.W.kia_one
def zx9 := @_root_.List.append_nil
def zy0 := @_root_.List.getElem?_set_self
def zy1 := @_root_.List.map_cons
def zy2 := @_root_.PySem.Heap.get?_update_self
def zy3 := @_root_.PyProof.Rows.callWith_type1
def zy4 := @_root_.PySem.wpAny_field
def zy5 := @_root_.decide_eq_false
def zy6 := @_root_.PySem.F.slot_zip_next
def zy7 := @_root_.List.mem_of_getElem?
def zy8 := @_root_.List.getElem?_replicate
def zy9 := @_root_.PySem.wpAny_truthy_bool
def zz0 := @_root_.List.find?_cons
def zz1 := @_root_.PySem.PassesOwn.never
def zz2 := @_root_.Nat.le_of_lt
def zz3 := @_root_.PySem.wpAny_nextOf_list_item
def zz4 := @_root_.Nat.lt_irrefl
def zz5 := @_root_.Bool.true_and
def zz6 := @_root_.Bool.false_and
def zz7 := @_root_.PySem.Heap.size_push
def zz8 := @_root_.PySem.wpAny_Call_Name_kw
def zz9 := @_root_.PySem.F.plain_extend_loop
def zA0 := @_root_.List.mem_append
def zA1 := @_root_.PyProof.Rows.boot_isinstance
def zA2 := @_root_.PySem.wpAny_seqItems
def zA3 := @_root_.beq_iff_eq
def zA4 := @_root_.Nat.ne_of_gt
def zA5 := @_root_.Bool.false_eq_true
def zA6 := @_root_.Nat.lt_or_ge
def zA7 := @_root_.PySem.Obj.data_mapFields
def zA8 := @_root_.Nat.sub_self
def zA9 := @_root_.PySem.wpAny_passesOwn
def zB0 := @_root_.PyProof.Rows.get?_update_seq
def zB1 := @_root_.List.map_append
def zB2 := @_root_.PySem.Obj.isFreed_of_fields
def zB3 := @_root_.Array.getElem?_eq_some_iff
def zB4 := @_root_.PySem.F.excBase_ValueError
def zB5 := @_root_.PySem.wpAny_loadPart_at
def zB6 := @_root_.List.drop_eq_getElem_cons
def zB7 := @_root_.Nat.le_succ
def zB8 := @_root_.PySem.boot_len
def zB9 := @_root_.List.length_drop
def zC0 := @_root_.Option.bind_some
def zC1 := @_root_.beq_eq_false_iff_ne
def zC2 := @_root_.Int.eq_ofNat_of_zero_le
def zC3 := @_root_.List.sum_cons
def zC4 := @_root_.PySem.wpAny_call
def zC5 := @_root_.PySem.W.callWith_K
def zC6 := @_root_.Bool.or_eq_true
def zC7 := @_root_.Int.emod_lt_of_pos
def zC8 := @_root_.List.take_add_one
def zC9 := @_root_.PySem.W.methodCall_KW
def zD0 := @_root_.PySem.codeAny_mono
def zD1 := @_root_.List.length_singleton
def zD2 := @_root_.decide_eq_true
def zD3 := @_root_.Nat.lt_succ_self
def zD4 := @_root_.List.all_eq_true
def zD5 := @_root_.List.getElem_mem
def zD6 := @_root_.List.cons_append
def zD7 := @_root_.List.take_length
def zD8 := @_root_.Nat.mul_le_mul_right
def zD9 := @_root_.PySem.wpAny_standAt
def zE0 := @_root_.PySem.wpAny_attempt
def zE1 := @_root_.List.length_reverse
def zE2 := @_root_.PySem.Heap.SameBut.update
def zE3 := @_root_.PySem.wpAny_execs_nil
def zE4 := @_root_.List.forIn_cons
def zE5 := @_root_.Array.Perm.refl
def zE6 := @_root_.List.pairwise_iff_getElem
def zE7 := @_root_.Nat.div_add_mod
def zE8 := @_root_.PySem.wpAny_updateSeq
def zE9 := @_root_.Int.emod_nonneg
def zF0 := @_root_.List.getElem?_take_of_lt
def zF1 := @_root_.PySem.wpAny_setField_rec
def zF2 := @_root_.PySem.F.plainAttrs_list
def zF3 := @_root_.List.getElem?_cons_succ
def zF4 := @_root_.decide_eq_false_iff_not
def zF5 := @_root_.PySem.wpAny_callSpecial?_slot
def zF6 := @_root_.PySem.F.args_zip_next_1
def zF7 := @_root_.PySem.wpAny_pyIter_list
def zF8 := @_root_.of_decide_eq_true
def zF9 := @_root_.Int.toNat_natCast
def zG0 := @_root_.PySem.F.entry_zip_next
def zG1 := @_root_.PySem.strLen_append
def zG2 := @_root_.if_false
def zG3 := @_root_.List.drop_length
def zG4 := @_root_.PySem.wpAny_call_entry
def zG5 := @_root_.List.length_replicate
def zG6 := @_root_.List.set_append_right
def zG7 := @_root_.List.mem_append_left
def zG8 := @_root_.Bool.eq_iff_iff
def zG9 := @_root_.Nat.le_of_eq
def zH0 := @_root_.List.nodup_cons
def zH1 := @_root_.List.nil_append
def zH2 := @_root_.List.mem_map
def zH3 := @_root_.List.filterMap_cons
def zH4 := @_root_.PySem.W.plainGet_of
def zH5 := @_root_.List.forIn_nil
def zH6 := @_root_.List.forIn_toArray
def zH7 := @_root_.Bool.false_or
namespace L2
open PySem PySem.Spec PyProof.Rows
abbrev Key :=Sum Int Str
def rN :Key→Value→Bool
 |.inl k,v=>Value.isInt k v
 |.inr x,v=>Value.isStrOf x v
def zq0 (w:World):Key→Int
 |.inl k=>hashInt k
 |.inr x=>hashStr w x
theorem yj :∀{k:Key} {v:Value},rN k v=true→(∃i t,k=Sum.inl i∧v=Value.int i t)∨(∃x t,k=Sum.inr x∧v=Value.str x t)
 |.inl i,v,h=>by
  obtain⟨t,e⟩:=Value.isInt_shape (k:=i) (v:=v) h
  exact .inl ⟨i,t,rfl,e⟩
 |.inr x,v,h=>by
  obtain⟨t,e⟩:=Value.isStrOf_shape (x:=x) (v:=v) h
  exact .inr ⟨x,t,rfl,e⟩
theorem jG (i:Int)(t:Tok):rN (.inl i) (.int i t)=true:=by simp[rN,Value.isInt]
theorem jO (x:Str)(t:Tok):rN (.inr x) (.str x t)=true:=by simp[rN,Value.isStrOf]
theorem zf6 (a b:Int):decide ((Sum.inl a:Key)=Sum.inl b)=(a == b):=by
 by_cases e:a=b
 ·subst e;simp
 ·have h:¬(Sum.inl a:Key)=Sum.inl b:=fun q=>e (Sum.inl.inj q)
  rw[zy5 h]
  exact (zC1.mpr e).symm
theorem zd1 (a b:Str):decide ((Sum.inr a:Key)=Sum.inr b)=decide (a=b):=by
 by_cases e:a=b
 ·subst e;simp
 ·have h:¬(Sum.inr a:Key)=Sum.inr b:=fun q=>e (Sum.inr.inj q)
  rw[zy5 h,zy5 e]
theorem zc0 (a:Int)(b:Str):decide ((Sum.inl a:Key)=Sum.inr b)=false:=zy5 (fun q=>nomatch q)
theorem zj3 (a:Str)(b:Int):decide ((Sum.inr a:Key)=Sum.inl b)=false:=zy5 (fun q=>nomatch q)
def yO (prog:Program)(w:World):PySem.KeyKind prog w Key where
 is:=rN
 hash:=zq0 w
 inj:=fun v a b ha hb=>by
  rcases yj ha with ⟨i,t,rfl,rfl⟩|⟨x,t,rfl,rfl⟩
  ·rcases yj hb with ⟨j,u,rfl,e⟩|⟨y,u,rfl,e⟩
   ·injection e with e1 _;rw[e1]
   ·exact nomatch e
  ·rcases yj hb with ⟨j,u,rfl,e⟩|⟨y,u,rfl,e⟩
   ·exact nomatch e
   ·injection e with e1 _;rw[e1]
 byValue:=fun k v h=>by
  rcases yj h with ⟨i,t,rfl,rfl⟩|⟨x,t,rfl,rfl⟩<;>rfl
 pyHash:=fun hv h=>by
  rcases yj hv with ⟨i,t,rfl,rfl⟩|⟨x,t,rfl,rfl⟩
  ·exact wpAny_pyHash_int h
  ·exact wpAny_pyHash_str h
 eqBool:=fun hu hv h=>by
  rcases yj hu with ⟨i,t,rfl,rfl⟩|⟨x,t,rfl,rfl⟩
  ·rcases yj hv with ⟨j,u,rfl,rfl⟩|⟨y,u,rfl,rfl⟩
   ·rw[zf6] at h;exact wpAny_eqBool_int h
   ·rw[zc0] at h;exact SeqAt.EqAt.int_str i t y u _ _ _ _ h
  ·rcases yj hv with ⟨j,u,rfl,rfl⟩|⟨y,u,rfl,rfl⟩
   ·rw[zj3] at h;exact SeqAt.EqAt.str_int x t j u _ _ _ _ h
   ·rw[zd1] at h;exact wpAny_eqBool_str h
 «strs»:=fun k x t v h=>by
  rcases yj h with ⟨i,u,rfl,e⟩|⟨y,u,rfl,e⟩
  ·exact nomatch e
  ·injection e with e1 _
   subst e1
   cases v<;>rfl
theorem nE (prog:Program)(w:World)(i:Int)(t:Tok):(yO prog w).is (.inl i) (.int i t)=true:=jG i t
theorem nA (prog:Program)(w:World)(x:Str)(t:Tok):(yO prog w).is (.inr x) (.str x t)=true:=jO x t
inductive V where
 |non|bl (b:Bool)|int (i:Int)|str (x:Str)|byt (b:Array UInt8)|flt (b:UInt64)|ref (a:Addr)|ty (n:String)
 deriving DecidableEq
def RelV :V→Value→Prop
 |.non,u=>u=Value.none
 |.bl b,u=>u=Value.bool b
 |.int i,u=>∃t,u=Value.int i t
 |.str x,u=>∃t,u=Value.str x t
 |.byt b,u=>∃t,u=Value.bytes b t
 |.flt b,u=>∃t,u=Value.float b t
 |.ref a,u=>u=Value.ref a
 |.ty n,u=>u=Value.type n
abbrev Vals :List V→List Value→Prop:=Paired RelV
theorem Vals.length {xs:List V}{us:List Value}(r:Vals xs us):xs.length=us.length:=Paired.length r
theorem Vals.get :∀{xs:List V} {us:List Value} {i:Nat} {x:V},Vals xs us→xs[i]?=some x→∃u,us[i]?=some u∧RelV x u
 |_,_,_,_,.nil,e=>by simp at e
 |_,_,0,_,.cons r _,e=>by simp at e;subst e;exact⟨_,rfl,r⟩
 |_,_,i+1,x,.cons _ t,e=>by
  obtain⟨u,h1,h2⟩:=Vals.get (i:=i) (x:=x) t (by simpa using e)
  exact⟨u,by simpa using h1,h2⟩
theorem Vals.set {x:V}{u:Value}(r:RelV x u):∀{xs:List V} {us:List Value} (i:Nat),Vals xs us→Vals (xs.set i x) (us.set i u)
 |_,_,_,.nil=>.nil
 |_,_,0,.cons _ t=>.cons r t
 |_,_,i+1,.cons q t=>.cons q (Vals.set r i t)
theorem Vals.append :∀{xs ys:List V} {us ws:List Value},Vals xs us→Vals ys ws→Vals (xs++ys) (us++ws)
 |_,_,_,_,.nil,s=>s
 |_,_,_,_,.cons r t,s=>.cons r (Vals.append t s)
theorem Vals.take :∀{xs:List V} {us:List Value} (n:Nat),Vals xs us→Vals (xs.take n) (us.take n)
 |_,_,0,_=>.nil
 |_,_,_+1,.nil=>.nil
 |_,_,n+1,.cons r t=>.cons r (Vals.take n t)
theorem Vals.drop :∀{xs:List V} {us:List Value} (n:Nat),Vals xs us→Vals (xs.drop n) (us.drop n)
 |_,_,0,r=>r
 |_,_,_+1,.nil=>.nil
 |_,_,n+1,.cons _ t=>Vals.drop n t
def vI :Option V→Option Value→Prop
 |some v,some u=>RelV v u
 |none,none=>True
 |_,_=>False
def KV {κ:Type}:List (κ×V)→List (κ×Value)→Prop:=Paired fun (p:κ×V) (q:κ×Value)=>p.1=q.1∧RelV p.2 q.2
def kV :Key→V
 |.inl i=>.int i
 |.inr x=>.str x
inductive HO where
  |lst (xs:List V)
  |tup (xs:List V)
  |dK (kvs:List (Key×V))|dT (kvs:List (List Key×V))
  |set (S:Int→Bool) (n:Nat)
  |ins (C dx:Addr) (fs:List (Str×V))
  |own (x:Addr)
  |xd (fs:List (Str×V))
  |met (f x:Addr)
  |rng (lo hi:Int)
  |frz (o:Obj) (u:HO)
  |tbl (ps:Array Value)
  |ext (φ:Heap→Prop)
abbrev Hp :=Addr→Option HO
def upd (H:Hp)(a:Addr)(o:HO):Hp:=fun b=>if b=a then some o else H b
theorem zh {H:Hp}{a:Addr}{o:HO}:upd H a o a=some o:=by unfold upd;rw[if_pos rfl]
theorem zg {H:Hp}{a b:Addr}{o:HO}(h:b≠a):upd H a o b=H b:=by unfold upd;rw[if_neg h]
theorem uq {H:Hp}{a:Addr}{o u:HO}:upd (upd H a o) a u=upd H a u:=by
 funext b;unfold upd;split<;>rfl
theorem za9 {H:Hp}{a b:Addr}{o u:HO}(h:H a=some o)(h':H b=some u)(d:o≠u):a≠b:=by
 intro e;subst e;rw[h] at h';exact d (zw0 h')
theorem zk {H:Hp}{a b:Addr}{o:HO}(h:H a=some o)(h':H b=none):a≠b:=by
 intro e;subst e;rw[h] at h';cases h'
section
variable (P:Program)(w:World)
def yf (H:Hp)(h:Heap)(a:Addr):HO→Prop
 |.lst xs=>xs.length≤sizeLine∧∃(its:List Value) (n:Nat),Vals xs its∧h.get? a=some {cls:=.type "list",data:=.seq its.toArray n}
 |.tup xs=>xs.length≤sizeLine∧∃its:List Value,Vals xs its∧IsTup h a its.toArray
 |.dK kvs=>kvs.length≤sizeLine∧(a == sysModules)=false∧∃vs,KV kvs vs∧h.DictOf (yO P w) a vs
 |.dT kvs=>kvs.length≤sizeLine∧(a == sysModules)=false∧∃xs:List (List Key×Addr×Value),
   Paired (fun (p:List Key×V) (q:List Key×Addr×Value)=>p.1=q.1∧H q.2.1=some (.tup (p.1.map kV))∧RelV p.2 q.2.2) kvs xs∧
   ∃o es ep,h.get? a=some o∧o.ExactDict∧o.data=.dict es ep∧es.toList=xs.map (entryOfKey (tupleKind (yO P w)))∧(xs.map (·.1)).Nodup
 |.set S n=>h.SetOf (intKind P w) a S n
 |.ins C dx fs=>H dx=some (.own a)∧fs.length≤1000∧dx≠a∧h.get? a=some (PySem.W.instObj C dx)∧
   ∃mA,h.Ns1 dx mA∧(∀f,vI (fs.lookup f) (mA f))∧PySem.Within mA (fs.map (·.1))
 |.own _=>∃o,h.get? a=some o
 |.xd fs=>∃mA,h.Ns1 a mA∧∀f,vI (fs.lookup f) (mA f)
 |.rng lo hi=>∃t u v,h.get? a=some {cls:=.type "range",data:=.fields #[.int lo t,.int hi u,.int 1 v]}
 |.frz o u=>h.get? a=some o∧yf H h a u
 |.tbl ps=>h.get? a=some {cls:=.none,data:=.fields ps}
 |.met f x=>h.get? a=some (PySem.W.methodObj (.ref f) (.ref x))
 |.ext φ=>φ h∧(∃o,h.get? a=some o)∧∀h1 h2:Heap,φ h1→(∀o,h1.get? a=some o→h2.get? a=some o)→φ h2
def HOk (H:Hp)(h:Heap):Prop:=∀a o,H a=some o→yf P w H h a o
end
section
variable {P:Program}{w:World}{H H':Hp}{h h':Heap}{a:Addr}{o:HO}
theorem yf.lt (x:yf P w H h a o):a<h.objs.size:=by
 cases o with
 |lst xs=>obtain⟨_,_,_,_,e⟩:=x;exact zu0 e
 |tup xs=>obtain⟨_,_,_,p⟩:=x;exact p.lt
 |dK kvs=>obtain⟨_,_,_,_,o,_,_,e,_⟩:=x;exact zu0 e
 |dT kvs=>obtain⟨_,_,_,_,o,_,_,e,_⟩:=x;exact zu0 e
 |set S n=>obtain⟨o,_,_,_,e,_⟩:=x;exact zu0 e
 |ins C dx fs=>obtain⟨_,_,_,e,_⟩:=x;exact zu0 e
 |own y=>obtain⟨_,e⟩:=x;exact zu0 e
 |xd fs=>obtain⟨_,⟨_,_,_,e,_⟩,_⟩:=x;exact zu0 e
 |rng lo hi=>obtain⟨_,_,_,e⟩:=x;exact zu0 e
 |frz ob u=>obtain⟨e,_⟩:=x;exact zu0 e
 |tbl ps=>exact zu0 (show h.get? a=some _ from x)
 |met f y=>exact zu0 (show h.get? a=some _ from x)
 |ext φ=>obtain⟨_,⟨_,e⟩,_⟩:=x;exact zu0 e
theorem Paired.mapP {α β:Type}{F G:α→β→Prop}:∀{l₁:List α} {l₂:List β},Paired F l₁ l₂→(∀a b,F a b→G a b)→Paired G l₁ l₂
 |_,_,.nil,_=>.nil
 |_,_,.cons r t,f=>.cons (f _ _ r) (Paired.mapP t f)
theorem yf.stay (x:yf P w H h a o)(k:∀b u,(b=a∨H b=some (.own a))→h.get? b=some u→h'.get? b=some u)
  (ho:∀b,H b=some (.own a)→H' b=some (.own a)) (ht:∀b xs,H b=some (.tup xs)→H' b=some (.tup xs)):yf P w H' h' a o:=by
 induction o with
 |lst xs=>obtain⟨z,its,n,r,e⟩:=x;exact⟨z,its,n,r,k _ _ (.inl rfl) e⟩
 |tup xs=>obtain⟨z,its,r,ob,e,c⟩:=x;exact⟨z,its,r,ob,k _ _ (.inl rfl) e,c⟩
 |dK kvs=>obtain⟨z,y,vs,r,ob,es,ep,e,c⟩:=x;exact⟨z,y,vs,r,ob,es,ep,k _ _ (.inl rfl) e,c⟩
 |dT kvs=>
  obtain⟨z,y,xs,r,ob,es,ep,e,c⟩:=x
  exact⟨z,y,xs,Paired.mapP r fun p q z=>⟨z.1,ht _ _ z.2.1,z.2.2⟩,ob,es,ep,k _ _ (.inl rfl) e,c⟩
 |set S n=>obtain⟨ob,es,ep,t,e,c⟩:=x;exact⟨ob,es,ep,t,k _ _ (.inl rfl) e,c⟩
 |ins C dx fs=>
  obtain⟨d,z,ne,e,mA,⟨od,es,ep,e2,c⟩,r⟩:=x
  exact⟨ho _ d,z,ne,k _ _ (.inl rfl) e,mA,⟨od,es,ep,k _ _ (.inr d) e2,c⟩,r⟩
 |own y=>obtain⟨ob,e⟩:=x;exact⟨ob,k _ _ (.inl rfl) e⟩
 |xd fs=>obtain⟨mA,⟨od,es,ep,e,c⟩,r⟩:=x;exact⟨mA,⟨od,es,ep,k _ _ (.inl rfl) e,c⟩,r⟩
 |rng lo hi=>obtain⟨t,u,v,e⟩:=x;exact⟨t,u,v,k _ _ (.inl rfl) e⟩
 |frz ob u ih=>obtain⟨e,q⟩:=x;exact⟨k _ _ (.inl rfl) e,ih q⟩
 |tbl ps=>
  have e:h.get? a=some {cls:=.none,data:=.fields ps}:=x
  show h'.get? a=some {cls:=.none,data:=.fields ps}
  exact k a _ (.inl rfl) e
 |met f y=>
  have e:h.get? a=some (PySem.W.methodObj (.ref f) (.ref y)):=x
  show h'.get? a=some (PySem.W.methodObj (.ref f) (.ref y))
  exact k a _ (.inl rfl) e
 |ext φ=>obtain⟨p,⟨o,e⟩,st⟩:=x;exact⟨st _ _ p fun o q=>k _ _ (.inl rfl) q,⟨o,k _ _ (.inl rfl) e⟩,st⟩
theorem HOk.lt (x:HOk P w H h)(e:H a=some o):a<h.objs.size:=(x a o e).lt
theorem HOk.fresh (x:HOk P w H h)(e:h.objs.size≤a):H a=none:=by
 cases q:H a with
 |none=>rfl
 |some u=>exact absurd (zv1 (x.lt q) e) (zz4 _)
theorem HOk.kept (x:HOk P w H h)(k:∀b u,h.get? b=some u→h'.get? b=some u):HOk P w H h':=fun a o e=>
 (x a o e).stay (fun b u _ q=>k b u q) (fun _ q=>q) fun _ _ q=>q
theorem HOk.laid (x:HOk P w H h)(k:∀b u,h.get? b=some u→h'.get? b=some u)(hp:h.objs.size≤a)(new:yf P w (upd H a o) h' a o):HOk P w (upd H a o) h':=fun b u e=>by
 have hn:=x.fresh hp
 by_cases hb:b=a
 ·subst hb;rw[zh] at e;cases e;exact new
 ·rw[zg hb] at e
  exact (x b u e).stay (fun c v _ q=>k c v q) (fun c q=>by rw[zg (zk q hn)];exact q) fun c xs q=>by rw[zg (zk q hn)];exact q
end
def Rd (H:Hp)(a:Addr)(u:HO):Prop:=H a=some u∨∃o,H a=some (.frz o u)
theorem Rd.ok {P:Program}{w:World}{H:Hp}{h:Heap}{a:Addr}{u:HO}(r:Rd H a u)(x:HOk P w H h):yf P w H h a u:=by
 rcases r with r|⟨o,r⟩
 ·exact x a u r
 ·obtain⟨_,q⟩:=x a _ r
  exact q
def Mut :Option HO→Prop
 |some (.lst _)=>True
 |some (.dK _)=>True
 |some (.dT _)=>True
 |some (.set _ _)=>True
 |some (.ins _ _ _)=>True
 |some (.ext _)=>True
 |_=>False
section
variable {P:Program}{w:World}{H:Hp}{h h':Heap}{x e:Addr}{o':HO}
theorem HOk.write (ok:HOk P w H h)(mu:Mut (H x))(he:e=x∨H e=some (.own x))(k:∀b u,b≠e→h.get? b=some u→h'.get? b=some u)(heo:∃u,h'.get? e=some u)
  (new:yf P w (upd H x o') h' x o'):HOk P w (upd H x o') h':=fun b u q=>by
 have nown:∀c y,H c=some (.own y)→c≠x:=fun c y r z=>by subst z;rw[r] at mu;exact mu
 have ntup:∀c xs,H c=some (.tup xs)→c≠x:=fun c xs r z=>by subst z;rw[r] at mu;exact mu
 by_cases hb:b=x
 ·subst hb;rw[zh] at q;cases q;exact new
 ·rw[zg hb] at q
  by_cases hbe:b=e
  ·have q':H b=some (.own x):=by
    rcases he with z|z
    ·exact absurd (hbe.trans z) hb
    ·rw[hbe];exact z
   rw[q] at q';cases q'
   obtain⟨v,hv⟩:=heo
   exact⟨v,by rw[hbe];exact hv⟩
  ·refine (ok b u q).stay (fun c v hc r=>k c v ?_ r) (fun c r=>by rw[zg (nown c b r)];exact r) fun c xs r=>by rw[zg (ntup c xs r)];exact r
   rcases hc with rfl|hc
   ·exact hbe
   ·rintro rfl
    rcases he with z|z
    ·exact nown c b hc z
    ·rw[hc] at z;cases z;exact hb rfl
end
structure Un (fs ex:List Addr)(H H':Hp)(h h':Heap):Prop where
 keep:∀b o,h.get? b=some o→H b=none→b∉fs→b∉ex→h'.get? b=some o
 slot:∀b o,h.get? b=some o→H b=none→b∈fs→b∉ex→∃sl,h'.get? b=some {o with slots:=sl}
 free:∀b o,h.get? b=some o→H b=none→b∉ex→H' b=none
 there:∀b o,h.get? b=some o→b∉ex→∃o',h'.get? b=some o'
 tups:∀b xs,H b=some (.tup xs)→H' b=some (.tup xs)
 frzs:∀b o u,H b=some (.frz o u)→H' b=some (.frz o u)
 tbls:∀b ps,H b=some (.tbl ps)→∃more,H' b=some (.tbl (ps++more))
section
variable {fs fs' ex ex':List Addr}{H H1 H2:Hp}{h h1 h2 h':Heap}{a x e:Addr}{o:HO}
theorem Un.any (u:Un fs ex H H1 h h1){b:Addr}{ob:Obj}(q:h.get? b=some ob)(n:H b=none)(hx:b∉ex):∃sl,h1.get? b=some {ob with slots:=sl}:=by
 by_cases hb:b∈fs
 ·exact u.slot b ob q n hb hx
 ·exact⟨ob.slots,u.keep b ob q n hb hx⟩
theorem Un.kept (k:∀b u,h.get? b=some u→h'.get? b=some u):Un fs ex H H h h':=
 ⟨fun b ob q _ _ _=>k b ob q,fun b ob q _ _ _=>⟨ob.slots,k b ob q⟩,fun _ _ _ n _=>n,fun b ob q _=>⟨ob,k b ob q⟩,fun _ _ q=>q,fun _ _ _ q=>q,fun _ ps q=>⟨#[],by rw[q];simp⟩⟩
theorem Un.refl :Un fs ex H H h h:=Un.kept fun _ _ q=>q
theorem Un.laid (k:∀b u,h.get? b=some u→h'.get? b=some u)(hp:h.objs.size≤a)(hn:H a=none):Un fs ex H (upd H a o) h h' where
 keep:=fun b u q _ _ _=>k b u q
 slot:=fun b u q _ _ _=>⟨u.slots,k b u q⟩
 free:=fun b u q n _=>by rw[zg (zv4 (zv1 (zu0 q) hp))];exact n
 there:=fun b u q _=>⟨u,k b u q⟩
 tups:=fun b xs q=>by rw[zg (zk q hn)];exact q
 frzs:=fun b u xs q=>by rw[zg (zk q hn)];exact q
 tbls:=fun b ps q=>⟨#[],by rw[zg (zk q hn),q];simp⟩
theorem Un.write (mu:Mut (H x))(he:e=x∨H e=some (.own x))(k:∀b u,b≠e→h.get? b=some u→h'.get? b=some u)(heo:∃u,h'.get? e=some u):Un fs ex H (upd H x o) h h':=by
 have hx:∀b,H b=none→b≠x:=fun b n z=>by subst z;rw[n] at mu;exact mu
 have hb:∀b,H b=none→b≠e:=fun b n z=>by
  subst z
  rcases he with r|r
  ·exact hx b n r
  ·rw[n] at r;cases r
 have hm:∀b u,H b=some u→¬Mut (some u)→b≠x:=fun b u q nm z=>by subst z;rw[q] at mu;exact nm mu
 refine⟨fun b u q n _ _=>k b u (hb b n) q,fun b u q n _ _=>⟨u.slots,k b u (hb b n) q⟩,fun b u q n _=>by rw[zg (hx b n)];exact n,fun b u q _=>?_,
  fun b xs q=>by rw[zg (hm b _ q fun z=>z)];exact q,fun b u xs q=>by rw[zg (hm b _ q fun z=>z)];exact q,fun b ps q=>⟨#[],by rw[zg (hm b _ q fun z=>z),q];simp⟩⟩
 by_cases hbe:b=e
 ·subst hbe;exact heo
 ·exact⟨u,k b u hbe q⟩
end
def trk (h:Heap)(H:Hp):List Addr:=(List.range h.objs.size).filter fun a=>(H a).isSome
def rF (h:Heap)(H:Hp):Heap:=PySem.W.hideAll h (trk h H)
theorem jw (h:Heap)(H:Hp):(rF h H).objs.size=h.objs.size:=PySem.W.hideAll_size _ _
theorem gq {h:Heap}{H:Hp}{b:Addr}{o:Obj}(e:h.get? b=some o)(n:H b=none):(rF h H).get? b=some o:=
 PySem.W.hideAll_get _ e fun hm=>by
  have q:(H b).isSome=true:=(List.mem_filter.mp hm).2
  rw[n] at q;simp at q
theorem bx {h:Heap}{H:Hp}{b:Addr}{o:Obj}(e:(rF h H).get? b=some o):h.get? b=some o∧H b=none:=by
 have e':h.get? b=some o:=PySem.W.of_hideAll (trk h H) e
 refine⟨e',?_⟩
 cases q:H b with
 |none=>rfl
 |some x=>
  have hm:b∈trk h H:=List.mem_filter.mpr ⟨List.mem_range.mpr (zu0 e'),by simp[q]⟩
  have z:(rF h H).get? b=none:=PySem.W.hideAll_none (trk h H) hm
  rw[z] at e;cases e
structure Mod (K:PySem.W.Frag)(mg:Str→Option Value)(base:Heap):Prop where
 kin:K.In base
 glob:base.Ns mainGlobals mg
 blt:∃mb,base.Ns builtinsNs mb∧∀x:Str,x≠"__name__"→mb x=bootBuiltins x
 nolimit:base.NoLimit
structure Cx where
 prog:Program
 w:World
 K:PySem.W.Frag
 mg:Str→Option Value
 base:Heap
 A:Around
 N:List Str
 s₀:Shared
 H₀:Hp
 env:Env
 outer:List Env
 stack:List Env
 ex:List Addr
 fn:Str→Bool
 calm:Bool
 pn:List (Addr×Obj)
 xe:Value→Shared→Prop
def frs (l:List Env):List Addr:=l.filterMap (·.frame)
abbrev Cx.fs (X:Cx):List Addr:=frs X.outer
def Vis (sc:Scope)(x:Str):Prop:=sc.names.lookup x=some .local∨sc.names.lookup x=some .cell∨sc.names.lookup x=some .free
def Loc (sc:Scope)(x:Str):Prop:=sc.names.lookup x=some .local∨sc.names.lookup x=some .cell
def Look (env:Env)(h:Heap)(m:Str→Option Value)(x:Str)(u:Value):Prop:=
 (env.kindOf x=some .local∧m x=some u)∨((env.kindOf x=some .cell∨env.kindOf x=some .free)∧∃c,env.cells.lookup x=some c∧h.IsCell c (some u))
structure Cx.Ok (X:Cx):Prop where
 mod:Mod X.K X.mg X.base
 kind:X.env.scope.kind=.function
 glob:X.env.globals=mainGlobals
 blt:X.env.builtins=builtinsNs
 above:X.s₀.heap.objs.size≤X.env.locals
 inj:∀x y c,X.env.cells.lookup x=some c→X.env.cells.lookup y=some c→x=y
 has:∀x,(X.env.kindOf x=some .cell∨X.env.kindOf x=some .free)→∃c,X.env.cells.lookup x=some c
 cab:∀x c,X.fn x=true→X.env.cells.lookup x=some c→X.s₀.heap.objs.size≤c
 hd:X.calm=true→X.A.handled=none
 frames:X.A.frames=some X.stack
 stk:X.stack=X.outer∨(X.stack=X.env::X.outer∧X.env.frame=some X.env.locals)
 exf:∀b∈X.ex,b≠X.env.locals∧∀x c,X.env.cells.lookup x=some c→c≠b
 bs:∀b o,X.base.get? b=some o→X.s₀.heap.get? b=some o∧X.H₀ b=none
 bsz:X.base.objs.size≤X.s₀.heap.objs.size
 noex:∀b o,X.base.get? b=some o→b∉X.ex
 exfs:∀b∈X.ex,b∉X.fs
 funs:X.s₀.heap.FunFrames X.base X.outer
 frf:∀b∈X.fs,X.H₀ b=none
structure Inv (X:Cx)(pins:List (Addr×Obj))(σ:List (Option V))(H:Hp)(s:Shared):Prop where
 ok:X.Ok
 os:s.os=X.s₀.os
 bare:AllBare s.gens
 base:Un X.fs X.ex X.H₀ H X.s₀.heap s.heap
 loc:∃m,s.heap.Ns X.env.locals m∧∀(i:Nat) (x:Str) (v:V),X.N[i]?=some x→σ[i]?=some (some v)→Vis X.env.scope x→∃u,RelV v u∧Look X.env s.heap m x u
 cell:∀x c,X.env.cells.lookup x=some c→∃v,s.heap.IsCell c v
 free:H X.env.locals=none
 freeC:∀x c,X.env.cells.lookup x=some c→H c=none
 pin:∀p∈X.pn++pins,s.heap.get? p.1=some p.2∧H p.1=none∧p.1≠X.env.locals∧p.1∉X.fs∧∀v,p.2.data≠.cell v
 hok:HOk X.prog X.w H s.heap
 len:σ.length=X.N.length
section
variable {X:Cx}{pins:List (Addr×Obj)}{σ:List (Option V)}{H H':Hp}{s:Shared}{h':Heap}
theorem Cx.Ok.nofr (ok:X.Ok){b:Addr}{o:Obj}(e:X.base.get? b=some o):b∉X.fs:=fun hb=>by
 have:=(ok.funs.mem hb).1
 rw[e] at this;cases this
theorem Inv.bs (I:Inv X pins σ H s):∀b o,X.base.get? b=some o→s.heap.get? b=some o∧H b=none:=fun b o e=>
 ⟨I.base.keep b o (I.ok.bs b o e).1 (I.ok.bs b o e).2 (I.ok.nofr e) (I.ok.noex b o e),I.base.free b o (I.ok.bs b o e).1 (I.ok.bs b o e).2 (I.ok.noex b o e)⟩
theorem Inv.bk (I:Inv X pins σ H s):∀b o,X.base.get? b=some o→s.heap.get? b=some o:=fun b o e=>(I.bs b o e).1
theorem Inv.mod (I:Inv X pins σ H s):Mod X.K X.mg X.base:=I.ok.mod
theorem Inv.kIn (I:Inv X pins σ H s):X.K.In s.heap:=I.ok.mod.kin.keeps I.bk
theorem Inv.lt (I:Inv X pins σ H s):X.env.locals<s.heap.objs.size:=let ⟨_,hn,_⟩:=I.loc;hn.lt
theorem Inv.sz (I:Inv X pins σ H s):X.s₀.heap.objs.size≤s.heap.objs.size:=zx7 I.ok.above (zz2 I.lt)
theorem Inv.nofs (I:Inv X pins σ H s){a:Addr}(h:s.heap.objs.size≤a):a∉X.fs:=fun hb=>by
 obtain⟨_,o,ho,_⟩:=I.ok.funs.mem hb
 exact absurd (zv1 (zu0 ho) (zx7 I.sz h)) (zz4 _)
theorem Inv.cne (I:Inv X pins σ H s):∀x c,X.env.cells.lookup x=some c→c≠X.env.locals:=fun x c e z=>by
 obtain⟨v,o,ho,hd⟩:=I.cell x c e
 obtain⟨m,⟨o',es,ep,ho',hd',_⟩,_⟩:=I.loc
 rw[z,ho'] at ho;cases ho;rw[hd'] at hd;cases hd
theorem Inv.funs (I:Inv X pins σ H s):s.heap.FunFrames X.base X.outer:=by
 have all:∀(l:List Env),(∀b∈frs l,b∈X.fs)→X.s₀.heap.FunFrames X.base l→s.heap.FunFrames X.base l:=by
  intro l
  induction l with
  |nil=>intro _ _;trivial
  |cons env r ih=>
   intro hs hl
   obtain⟨hk,⟨L,o,hf,hn,ho,hd⟩,hr⟩:=hl
   have hL:L∈X.fs:=hs L (by unfold frs;rw[zH3,hf];exact zv5)
   obtain⟨sl,e⟩:=I.base.slot L o ho (I.ok.frf L hL) hL fun z=>I.ok.exfs L z hL
   exact⟨hk,⟨L,_,hf,hn,e,hd⟩,ih (fun b hb=>hs b (by unfold frs;rw[zH3,hf];exact zu3 _ hb)) hr⟩
 exact all X.outer (fun _ hb=>hb) I.ok.funs
theorem Inv.stack (I:Inv X pins σ H s):s.heap.FunFrames X.base X.stack:=by
 rcases I.ok.stk with e|⟨e,hf⟩
 ·rw[e];exact I.funs
 ·rw[e]
  obtain⟨m,hn,_⟩:=I.loc
  refine .cons (by rw[I.ok.kind];decide) hf hn ?_ I.funs
  exact Heap.get?_none_of_le (zx7 I.ok.bsz I.ok.above)
theorem Inv.stkSub (I:Inv X pins σ H s):∀b∈frs X.stack,b∈X.env.locals::X.fs:=fun b hb=>by
 rcases I.ok.stk with e|⟨e,hf⟩
 ·rw[e] at hb;exact zu3 _ hb
 ·rw[e] at hb
  unfold frs at hb
  rw[zH3,hf] at hb
  exact hb
theorem Inv.stkFree (I:Inv X pins σ H s):∀b∈frs X.stack,H b=none:=fun b hb=>by
 rcases zu1.mp (I.stkSub b hb) with e|hb
 ·rw[e];exact I.free
 ·obtain⟨_,o,ho,_⟩:=I.ok.funs.mem hb
  exact I.base.free b o ho (I.ok.frf b hb) fun z=>I.ok.exfs b z hb
theorem Inv.step {g':Array GenState}{t':Nat}{d':Drawn}{ch:List Addr}(I:Inv X pins σ H s)
  (hch:∀b∈ch,(b∈X.ex∨X.s₀.heap.objs.size≤b)∧b≠X.env.locals∧(∀x c,X.env.cells.lookup x=some c→c≠b)∧∀p∈X.pn++pins,p.1≠b)
  (keep:∀b o,b≠X.env.locals→b∉X.fs→b∉ch→s.heap.get? b=some o→H b=none→h'.get? b=some o)
  (slot:∀b o,b≠X.env.locals→b∈X.fs→b∉ch→s.heap.get? b=some o→H b=none→∃sl,h'.get? b=some {o with slots:=sl}) (free:∀b o,b∉ch→s.heap.get? b=some o→H b=none→H' b=none)
  (there:∀b o,b∉ch→s.heap.get? b=some o→∃o',h'.get? b=some o')
  (tups:∀b xs,H b=some (.tup xs)→H' b=some (.tup xs)) (frzs:∀b o u,H b=some (.frz o u)→H' b=some (.frz o u)) (tbls:∀b ps,H b=some (.tbl ps)→∃more,H' b=some (.tbl (ps++more)))
  (ns:∀m,s.heap.Ns X.env.locals m→h'.Ns X.env.locals m) (hok:HOk X.prog X.w H' h') (hg:AllBare g'):
  Inv X pins σ H' {s with heap:=h',gens:=g',drawn:=d',toks:=t'}:=by
 have neL:∀b o,X.s₀.heap.get? b=some o→b≠X.env.locals:=fun b o e=>zv4 (zv1 (zu0 e) I.ok.above)
 have neC:∀b o,X.s₀.heap.get? b=some o→b∉X.ex→b∉ch:=fun b o e hx hb=>by
  rcases (hch b hb).1 with z|z
  ·exact hx z
  ·exact absurd (zv1 (zu0 e) z) (zz4 _)
 have cellK:∀x c,X.env.cells.lookup x=some c→∀v,s.heap.IsCell c v→h'.IsCell c v:=fun x c e v ⟨o,ho,hd⟩=>by
  have nch:c∉ch:=fun z=>(hch c z).2.2.1 x c e rfl
  by_cases hc:c∈X.fs
  ·obtain⟨sl,q⟩:=slot c o (I.cne x c e) hc nch ho (I.freeC x c e)
   exact⟨_,q,hd⟩
  ·exact⟨o,keep c o (I.cne x c e) hc nch ho (I.freeC x c e),hd⟩
 refine⟨I.ok,I.os,hg,⟨fun b o e n hb hx=>?_,fun b o e n hb hx=>?_,fun b o e n hx=>?_,fun b o e hx=>?_,fun b xs e=>tups b xs (I.base.tups b xs e),fun b o xs e=>frzs b o xs (I.base.frzs b o xs e),fun b ps e=>?_⟩,?_,fun x c e=>?_,?_,fun x c e=>?_,fun p hp=>?_,hok,I.len⟩
 ·exact keep b o (neL b o e) hb (neC b o e hx) (I.base.keep b o e n hb hx) (I.base.free b o e n hx)
 ·obtain⟨sl,e1⟩:=I.base.slot b o e n hb hx
  obtain⟨sl',e2⟩:=slot b _ (neL b o e) hb (neC b o e hx) e1 (I.base.free b o e n hx)
  exact⟨sl',e2⟩
 ·obtain⟨o',e1⟩:=I.base.there b o e hx
  exact free b o' (neC b o e hx) e1 (I.base.free b o e n hx)
 ·obtain⟨o',e1⟩:=I.base.there b o e hx
  exact there b o' (neC b o e hx) e1
 ·obtain⟨m1,e1⟩:=I.base.tbls b ps e
  obtain⟨m2,e2⟩:=tbls b _ e1
  exact⟨m1++m2,by rw[e2,Array.append_assoc]⟩
 ·obtain⟨m,hn,hl⟩:=I.loc
  refine⟨m,ns m hn,fun i x v e1 e2 e3=>?_⟩
  obtain⟨u,r,l⟩:=hl i x v e1 e2 e3
  refine⟨u,r,?_⟩
  rcases l with l|⟨k,c,e,z⟩
  ·exact .inl l
  ·exact .inr ⟨k,c,e,cellK x c e _ z⟩
 ·obtain⟨v,z⟩:=I.cell x c e
  exact⟨v,cellK x c e v z⟩
 ·obtain⟨m,⟨o,_,_,ho,_⟩,_⟩:=I.loc
  exact free _ o (fun z=>(hch _ z).2.1 rfl) ho I.free
 ·obtain⟨v,o,ho,hd⟩:=I.cell x c e
  exact free c o (fun z=>(hch c z).2.2.1 x c e rfl) ho (I.freeC x c e)
 ·obtain⟨e,n,ne,nf,d⟩:=I.pin p hp
  have nch:p.1∉ch:=fun z=>(hch p.1 z).2.2.2 p hp rfl
  exact⟨keep p.1 p.2 ne nf nch e n,free p.1 p.2 nch e n,ne,nf,d⟩
theorem Inv.un {t':Nat}(I:Inv X pins σ H s)(u:Un X.fs [] H H' s.heap h')(hok:HOk X.prog X.w H' h'):Inv X pins σ H' {s with heap:=h',toks:=t'}:=by
 obtain⟨m,⟨o,es,ep,ho,r⟩,_⟩:=id I.loc
 obtain⟨sl,hL⟩:=u.any ho I.free (by simp)
 exact I.step (g':=s.gens) (d':=s.drawn) (ch:=[]) (fun _ z=>nomatch z) (fun b o _ hb _ e n=>u.keep b o e n hb (by simp)) (fun b o _ hb _ e n=>u.slot b o e n hb (by simp)) (fun b o _ e n=>u.free b o e n (by simp)) (fun b o _ e=>u.there b o e (by simp)) u.tups u.frzs u.tbls (fun m' hm=>by
  obtain⟨o',es',ep',ho',r'⟩:=hm
  rw[ho] at ho';cases ho'
  exact⟨_,es',ep',hL,r'⟩) hok I.bare
theorem Inv.call {g':Array GenState}{t':Nat}{d':Drawn}{ch:List Addr}(I:Inv X pins σ H s)(u:Un (frs X.stack) ch H H' s.heap h')(hok:HOk X.prog X.w H' h')(hg:AllBare g')
  (hch:∀b∈ch,(b∈X.ex∨X.s₀.heap.objs.size≤b)∧b≠X.env.locals∧(∀x c,X.env.cells.lookup x=some c→c≠b)∧∀p∈X.pn++pins,p.1≠b):
  Inv X pins σ H' {s with heap:=h',gens:=g',drawn:=d',toks:=t'}:=by
 obtain⟨m,⟨o,es,ep,ho,r⟩,_⟩:=id I.loc
 obtain⟨sl,hL⟩:=u.any ho I.free fun z=>(hch _ z).2.1 rfl
 exact I.step (ch:=ch) hch (fun b o hL hb hc e n=>u.keep b o e n (fun z=>(zu1.mp (I.stkSub b z)).elim hL hb) hc) (fun b o _ _ hc e n=>u.any e n hc) (fun b o hc e n=>u.free b o e n hc) (fun b o hc e=>u.there b o e hc) u.tups u.frzs u.tbls (fun m' hm=>by
  obtain⟨o',es',ep',ho',r'⟩:=hm
  rw[ho] at ho';cases ho'
  exact⟨_,es',ep',hL,r'⟩) hok hg
theorem Inv.turned {t':Nat}{it:Addr}(I:Inv X pins σ H s)(k:∀b o,b≠it→s.heap.get? b=some o→h'.get? b=some o)(hn:H it=none)(hL:it≠X.env.locals)
  (h1:it∈X.ex∨X.s₀.heap.objs.size≤it) (h2:∀x c,X.env.cells.lookup x=some c→c≠it) (h3:∀p∈X.pn++pins,p.1≠it):Inv X pins σ H {s with heap:=h',toks:=t'}:=by
 have nit:∀b u,H b=some u→b≠it:=fun b u e z=>by rw[z,hn] at e;cases e
 refine I.step (g':=s.gens) (d':=s.drawn) (ch:=[it]) (fun b hb=>?_) (fun b o _ _ hc e _=>k b o (fun z=>hc (by simp[z])) e) (fun b o _ _ hc e _=>⟨o.slots,k b o (fun z=>hc (by simp[z])) e⟩) (fun _ _ _ _ n=>n)
  (fun b o hc e=>⟨o,k b o (fun z=>hc (by simp[z])) e⟩) (fun _ _ e=>e) (fun _ _ _ e=>e) (fun b ps e=>⟨#[],by rw[e];simp⟩) (fun m hm=>?_) (fun b u e=>?_) I.bare
 ·have e:b=it:=by simpa using hb
  subst e
  exact⟨h1,hL,h2,h3⟩
 ·obtain⟨o,es,ep,ho,r⟩:=hm
  exact⟨o,es,ep,k _ o (zw7 hL) ho,r⟩
 ·refine (I.hok b u e).stay (fun c v hc q=>k c v ?_ q) (fun _ q=>q) fun _ _ q=>q
  rcases hc with z|z
  ·rw[z];exact nit b u e
  ·exact nit c _ z
theorem Inv.tok (I:Inv X pins σ H s)(t:Nat):Inv X pins σ H {s with toks:=t}:=I.un (h':=s.heap) (t':=t) Un.refl I.hok
theorem Inv.kept {t':Nat}(I:Inv X pins σ H s)(k:∀b u,s.heap.get? b=some u→h'.get? b=some u):Inv X pins σ H {s with heap:=h',toks:=t'}:=I.un (Un.kept k) (I.hok.kept k)
theorem Inv.laid {a:Addr}{o:HO}{t':Nat}(I:Inv X pins σ H s)(k:∀b u,s.heap.get? b=some u→h'.get? b=some u)(hp:s.heap.objs.size≤a)(new:yf X.prog X.w (upd H a o) h' a o):
  Inv X pins σ (upd H a o) {s with heap:=h',toks:=t'}:=I.un (Un.laid k hp (I.hok.fresh hp)) (I.hok.laid k hp new)
theorem Inv.write {x e:Addr}{o:HO}{t':Nat}(I:Inv X pins σ H s)(mu:Mut (H x))(he:e=x∨H e=some (.own x))(k:∀b u,b≠e→s.heap.get? b=some u→h'.get? b=some u)(heo:∃u,h'.get? e=some u)
  (new:yf X.prog X.w (upd H x o) h' x o):Inv X pins σ (upd H x o) {s with heap:=h',toks:=t'}:=I.un (Un.write mu he k heo) (I.hok.write mu he k heo new)
theorem Inv.pins_of {pins':List (Addr×Obj)}(I:Inv X pins σ H s)(h:∀p∈pins',s.heap.get? p.1=some p.2∧H p.1=none∧p.1≠X.env.locals∧p.1∉X.fs∧∀v,p.2.data≠.cell v):Inv X pins' σ H s:=
 ⟨I.ok,I.os,I.bare,I.base,I.loc,I.cell,I.free,I.freeC,fun p hp=>(zA0.mp hp).elim (fun z=>I.pin p (zG7 _ z)) (h p),I.hok,I.len⟩
theorem sC {N:List Str}(hN:N.Nodup){i j:Nat}{x:Str}(a:N[i]?=some x)(b:N[j]?=some x):i=j:=by
 obtain⟨h1,e1⟩:=zt8.mp a
 obtain⟨h2,e2⟩:=zt8.mp b
 exact (List.getElem_inj hN).mp (e1.trans e2.symm)
theorem qh {M:Model}{A:Around}{E:Value→Shared→Prop}{i:Nat}{x:Str}{v:V}{u:Value}{Q:Unit→Shared→Prop}(I:Inv X pins σ H s)(hN:X.N.Nodup)(hi:X.N[i]?=some x)(hx:Loc X.env.scope x)(r:RelV v u)
  (h:∀s',Inv X pins (σ.set i (some v)) H s'→(∃a,Heap.SameBut a s.heap s'.heap∧(a=X.env.locals∨X.env.cells.lookup x=some a))→Q () s') (hf:X.fn x=true∨X.env.scope.names.lookup x=some .local:=by first|exact .inl rfl|exact .inr rfl|assumption):wpAny M A (storeName X.env x u) Q E s:=by
 obtain⟨m,hn,hl⟩:=id I.loc
 have hcls:(X.env.scope.kind == .class||(X.env.scope.kind == .module&&X.env.locals != X.env.globals))=false:=by rw[I.ok.kind];rfl
 have hiσ:i<σ.length:=by rw[I.len];exact (zt8.mp hi).1
 have cne:=I.cne
 have tracked:∀{a:Addr} {h':Heap},(∃o,s.heap.get? a=some o∧H a=none)→Heap.SameBut a s.heap h'→HOk X.prog X.w H h':=fun {a h'} ha hs b ob e=>by
  obtain⟨_,_,hfree⟩:=ha
  refine (I.hok b ob e).stay (fun c w' hc q=>(hs.2 c ?_).trans q) (fun _ q=>q) fun _ _ q=>q
  rintro rfl
  rcases hc with rfl|hc
  ·rw[hfree] at e;cases e
  ·rw[hfree] at hc;cases hc
 rcases hx with hk|hk
 ·refine wpAny_storeName_local hk hn (fun h' hn' hs=>?_) hcls
  obtain⟨oL,_,_,hoL,_⟩:=id hn
  refine h _ ⟨I.ok,I.os,I.bare,⟨fun b o e n hb hx=>?_,fun b o e n hb hx=>?_,I.base.free,fun b o e hx=>?_,I.base.tups,I.base.frzs,I.base.tbls⟩,⟨_,hn',fun j y v' e1 e2 e3=>?_⟩,fun y c e=>?_,I.free,I.freeC,fun p hp=>?_,tracked ⟨oL,hoL,I.free⟩ hs,by simpa using I.len⟩ ⟨_,hs,.inl rfl⟩
  ·exact (hs.2 b (zv4 (zv1 (zu0 e) I.ok.above))).trans (I.base.keep b o e n hb hx)
  ·obtain⟨sl,e1⟩:=I.base.slot b o e n hb hx
   exact⟨sl,(hs.2 b (zv4 (zv1 (zu0 e) I.ok.above))).trans e1⟩
  ·obtain⟨o',e1⟩:=I.base.there b o e hx
   exact⟨o',(hs.2 b (zv4 (zv1 (zu0 e) I.ok.above))).trans e1⟩
  ·by_cases hj:j=i
   ·subst hj
    rw[hi] at e1;cases e1
    rw[zy0 hiσ] at e2
    cases e2
    exact⟨u,r,.inl ⟨hk,by simp⟩⟩
   ·rw[zw6 (zw7 hj)] at e2
    obtain⟨u',r',q⟩:=hl j y v' e1 e2 e3
    refine⟨u',r',?_⟩
    rcases q with ⟨k,e⟩|⟨k,c,e,z⟩
    ·refine .inl ⟨k,?_⟩
     have:y≠x:=fun e=>hj (sC hN e1 (e▸hi))
     simp[this,e]
    ·exact .inr ⟨k,c,e,z.sameBut hs (cne y c e)⟩
  ·obtain⟨w',z⟩:=I.cell y c e
   exact⟨w',z.sameBut hs (cne y c e)⟩
  ·obtain⟨e,n,ne,nf,d⟩:=I.pin p hp
   exact⟨(hs.2 p.1 ne).trans e,n,ne,nf,d⟩
 ·have hfn:X.fn x=true:=by
   rcases hf with z|z
   ·exact z
   ·rw[z] at hk;cases hk
  obtain⟨c,hc⟩:=I.ok.has x (.inl hk)
  obtain⟨w',z⟩:=I.cell x c hc
  refine wpAny_storeName_cell I.ok.kind hk hc z (fun h' hc' hs=>?_)
  obtain⟨oc,hoc,hocd⟩:=id z
  refine h {s with heap:=h'} ⟨I.ok,I.os,I.bare,⟨fun b o e n hb hx=>?_,fun b o e n hb hx=>?_,I.base.free,fun b o e hx=>?_,I.base.tups,I.base.frzs,I.base.tbls⟩,⟨m,hn.sameBut hs (zw7 (cne x c hc)),fun j y v' e1 e2 e3=>?_⟩,fun y c' e=>?_,I.free,I.freeC,fun p hp=>?_,tracked ⟨oc,hoc,I.freeC x c hc⟩ hs,by simpa using I.len⟩ ⟨c,hs,.inr hc⟩
  ·exact (hs.2 b (zv4 (zv1 (zu0 e) (I.ok.cab x c hfn hc)))).trans (I.base.keep b o e n hb hx)
  ·obtain⟨sl,e1⟩:=I.base.slot b o e n hb hx
   exact⟨sl,(hs.2 b (zv4 (zv1 (zu0 e) (I.ok.cab x c hfn hc)))).trans e1⟩
  ·obtain⟨o',e1⟩:=I.base.there b o e hx
   exact⟨o',(hs.2 b (zv4 (zv1 (zu0 e) (I.ok.cab x c hfn hc)))).trans e1⟩
  ·by_cases hj:j=i
   ·subst hj
    rw[hi] at e1;cases e1
    rw[zy0 hiσ] at e2
    cases e2
    exact⟨u,r,.inr ⟨.inl hk,c,hc,hc'⟩⟩
   ·rw[zw6 (zw7 hj)] at e2
    obtain⟨u',r',q⟩:=hl j y v' e1 e2 e3
    refine⟨u',r',?_⟩
    rcases q with q|⟨k,c',e,z'⟩
    ·exact .inl q
    ·refine .inr ⟨k,c',e,z'.sameBut hs ?_⟩
     rintro rfl
     exact hj (sC hN e1 (I.ok.inj _ _ _ e hc▸hi))
  ·by_cases hcc:c'=c
   ·subst hcc;exact⟨_,hc'⟩
   ·obtain⟨w2,z2⟩:=I.cell y c' e
    exact⟨w2,z2.sameBut hs hcc⟩
  ·obtain⟨e,n,ne,nf,d⟩:=I.pin p hp
   refine⟨(hs.2 p.1 ?_).trans e,n,ne,nf,d⟩
   intro q
   rw[q,hoc] at e
   have q':oc=p.2:=zw0 e
   exact d w' (by rw[←q'];exact hocd)
theorem sy {M:Model}{A:Around}{E:Value→Shared→Prop}{i:Nat}{x:Str}{v:V}{u:Value}{Q:Unit→Shared→Prop}(I:Inv X pins σ H s)(hN:X.N.Nodup)(hi:X.N[i]?=some x)(hx:Loc X.env.scope x)(r:RelV v u)
  (h:∀s',Inv X pins (σ.set i (some v)) H s'→Q () s') (hf:X.fn x=true∨X.env.scope.names.lookup x=some .local:=by first|exact .inl rfl|exact .inr rfl|assumption):wpAny M A (storeName X.env x u) Q E s:=
 qh I hN hi hx r (fun s' I' _=>h s' I') hf
theorem Inv.call' {s':Shared}{ch:List Addr}(I:Inv X pins σ H s)(ho:s'.os=s.os)(u:Un (frs X.stack) ch H H' s.heap s'.heap)(hok:HOk X.prog X.w H' s'.heap)(hg:AllBare s'.gens)
  (hch:∀b∈ch,(b∈X.ex∨X.s₀.heap.objs.size≤b)∧b≠X.env.locals∧(∀x c,X.env.cells.lookup x=some c→c≠b)∧∀p∈X.pn++pins,p.1≠b):Inv X pins σ H' s':=by
 obtain⟨h',g',d',t',o'⟩:=s'
 have e:o'=s.os:=ho
 subst e
 exact I.call (g':=g') (t':=t') (d':=d') u hok hg hch
end
abbrev XK :=Value→Option Addr→Hp→Prop
abbrev St :=List (Option V)
abbrev VK :=V→Hp→Prop
abbrev TE :=St→Hp→VK→Prop
abbrev TT :=St→Hp→(Bool→Hp→Prop)→Prop
abbrev TA :=St→Hp→(List V→Hp→Prop)→Prop
structure Ends where
 nx:St→Hp→Prop
 rt:VK
 bk:St→Hp→Prop:=fun _ _=>False
 ct:St→Hp→Prop:=fun _ _=>False
abbrev TS :=Ends→St→Hp→Prop
def EP (X:Cx)(pins:List (Addr×Obj))(σ:St)(Q:VK)(u:Value)(s':Shared):Prop:=∃v H',Inv X pins σ H' s'∧RelV v u∧Q v H'
def TP (X:Cx)(pins:List (Addr×Obj))(σ:St)(Q:Bool→Hp→Prop)(b:Bool)(s':Shared):Prop:=∃H',Inv X pins σ H' s'∧Q b H'
def AP (X:Cx)(pins:List (Addr×Obj))(σ:St)(Q:List V→Hp→Prop)(us:List Value)(s':Shared):Prop:=∃vs H',Inv X pins σ H' s'∧Vals vs us∧Q vs H'
def SP (X:Cx)(pins:List (Addr×Obj))(D:Ends)(f:Flow)(s':Shared):Prop:=
 match f with
 |.next=>∃σ' H',Inv X pins σ' H' s'∧D.nx σ' H'
 |.brk=>∃σ' H',Inv X pins σ' H' s'∧D.bk σ' H'
 |.cont=>∃σ' H',Inv X pins σ' H' s'∧D.ct σ' H'
 |.ret u=>∃v σ' H',Inv X pins σ' H' s'∧RelV v u∧D.rt v H'
def PE (X:Cx)(e:Expr)(t:TE):Prop:=
 ∀(pins:List (Addr×Obj)) (s:Shared) (σ:St) (H:Hp) (Q:VK),Inv X pins σ H s→t σ H Q→wpAny (model X.prog X.w) X.A (eval e X.env) (EP X pins σ Q) X.xe s
def PT (X:Cx)(e:Expr)(t:TT):Prop:=
 ∀(pins:List (Addr×Obj)) (s:Shared) (σ:St) (H:Hp) (Q:Bool→Hp→Prop),Inv X pins σ H s→t σ H Q→wpAny (model X.prog X.w) X.A (isTrue e X.env (eval e X.env)) (TP X pins σ Q) X.xe s
def PW (X:Cx)(e:Expr)(t:TT):Prop:=
 ∀(whole:Sem Value) (pins:List (Addr×Obj)) (s:Shared) (σ:St) (H:Hp) (Q:Bool→Hp→Prop),Inv X pins σ H s→t σ H Q→wpAny (model X.prog X.w) X.A (isTrue e X.env whole) (TP X pins σ Q) X.xe s
theorem PW.pt {X:Cx}{e:Expr}{t:TT}(h:PW X e t):PT X e t:=h _
def PA (X:Cx)(es:List Expr)(t:TA):Prop:=
 ∀(pos:Pos) (pins:List (Addr×Obj)) (s:Shared) (σ:St) (H:Hp) (Q:List V→Hp→Prop),Inv X pins σ H s→t σ H Q→wpAny (model X.prog X.w) X.A (spliced (backTo pos (starEach es X.env))) (AP X pins σ Q) X.xe s
def PS (X:Cx)(st:Stmt)(t:TS):Prop:=
 ∀(pins:List (Addr×Obj)) (s:Shared) (σ:St) (H:Hp) (D:Ends),Inv X pins σ H s→t D σ H→wpAny (model X.prog X.w) X.A (exec st X.env) (SP X pins D) X.xe s
def PSs (X:Cx)(st:List Stmt)(t:TS):Prop:=
 ∀(pins:List (Addr×Obj)) (s:Shared) (σ:St) (H:Hp) (D:Ends),Inv X pins σ H s→t D σ H→wpAny (model X.prog X.w) X.A (execs st X.env) (SP X pins D) X.xe s
theorem thn {α:Type}{t:Sem α}{Q Q':α→Shared→Prop}{M:Model}{A:Around}{E:Value→Shared→Prop}{s:Shared}(h:wpAny M A t Q E s)(hQ:∀a s,Q a s→Q' a s):wpAny M A t Q' E s:=zw4 h hQ fun _ _ x=>x
section
variable {X:Cx}
theorem bin {a b:Expr}{ta tb:TE}(ha:PE X a ta)(hb:PE X b tb){pins:List (Addr×Obj)}{s:Shared}{σ:St}{H:Hp}{R:V→V→Hp→Prop}(I:Inv X pins σ H s)(h:ta σ H fun x H1=>tb σ H1 fun y H2=>R x y H2)
  {α:Type} {Q:α→Shared→Prop} {f:Value→Value→Sem α}
  (hf:∀v u s2 x y H2,Inv X pins σ H2 s2→RelV x v→RelV y u→R x y H2→wpAny (model X.prog X.w) X.A (f v u) Q X.xe s2):
  wpAny (model X.prog X.w) X.A (eval a X.env) (fun v s₁=>wpAny (model X.prog X.w) X.A (eval b X.env) (fun u s₂=>wpAny (model X.prog X.w) X.A (f v u) Q X.xe s₂) X.xe s₁) X.xe s:=by
 refine thn (ha pins s σ H _ I h) fun v s1 ⟨x,H1,I1,r1,q1⟩=>?_
 refine thn (hb pins s1 σ H1 _ I1 q1) fun u s2 ⟨y,H2,I2,r2,q2⟩=>?_
 exact hf v u s2 x y H2 I2 r1 r2 q2
def zh1 (i:Nat):TE:=fun σ H Q=>∃v,σ[i]?=some (some v)∧Q v H
def tC (v:V):TE:=fun _ H Q=>Q v H
theorem yI {i:Nat}{x:Str}{pos:Pos}(hN:X.N[i]?=some x)(hv:Vis X.env.scope x)(hd:(x == ("__debug__":Str))=false:=by decide)(hcd:(x == ("__classdict__":Str))=false:=by decide):PE X (.Name x pos) (zh1 i):=by
 intro pins s σ H Q I h
 obtain⟨v,e,h⟩:=h
 obtain⟨m,hn,hl⟩:=I.loc
 obtain⟨u,r,l⟩:=hl i x v hN e hv
 have fin:EP X pins σ Q u s:=⟨v,H,I,r,h⟩
 rcases l with ⟨hk,hm⟩|⟨hk,c,hc,hcell⟩
 ·exact wpAny_Name (wpAny_loadName_local I.ok.kind hk hn hm fin) hd
 ·rcases hk with hk|hk
  ·exact wpAny_Name (wpAny_loadName_cell I.ok.kind hk hc hcell fin) hd
  ·exact wpAny_Name (wpAny_loadName_free I.ok.kind hk hc hcell fin hcd) hd
theorem zp {i j pos}:PE X (.Constant (.int i) j pos) (tC (.int i)):=fun _ _ _ H _ I h=>wpAny_Constant_int ⟨.int i,H,I.tok _,⟨_,rfl⟩,h⟩
theorem zn7 {b j pos}:PE X (.Constant (.bool b) j pos) (tC (.bl b)):=fun _ _ _ H _ I h=>Constant_bool ⟨.bl b,H,I,rfl,h⟩
theorem qH {j pos}:PE X (.Constant .none j pos) (tC .non):=fun _ _ _ H _ I h=>Constant_none ⟨.non,H,I,rfl,h⟩
theorem yi {x j pos}:PE X (.Constant (.str x) j pos) (tC (.str x)):=fun _ _ _ H _ I h=>Calls.Constant_str ⟨.str x,H,I.tok _,⟨_,rfl⟩,h⟩
def Gl (X:Cx)(x:Str):Prop:=X.env.kindOf x=some .globalImplicit
theorem xM {E:Value→Shared→Prop}{pins:List (Addr×Obj)}{s:Shared}{σ:St}{H:Hp}{x:Str}{u:Value}{pos:Pos}{Q:Value→Shared→Prop}(I:Inv X pins σ H s)(hg:Gl X x)(hm:X.mg x=some u)(h:Q u s)
  (hd:(x == ("__debug__":Str))=false:=by decide):wpAny (model X.prog X.w) X.A (eval (.Name x pos) X.env) Q E s:=
 Calls.Name_function_global I.ok.kind hg (Calls.loadGlobal_global (by rw[I.ok.glob];exact I.mod.glob.keeps I.bk) hm h) hd
theorem wq {E:Value→Shared→Prop}{pins:List (Addr×Obj)}{s:Shared}{σ:St}{H:Hp}{x:Str}{u:Value}{pos:Pos}{Q:Value→Shared→Prop}(I:Inv X pins σ H s)(hg:Gl X x)(hm:X.mg x=none)(hv:bootBuiltins x=some u)(h:Q u s)
  (hn:x≠"__name__":=by decide) (hd:(x == ("__debug__":Str))=false:=by decide):wpAny (model X.prog X.w) X.A (eval (.Name x pos) X.env) Q E s:=by
 obtain⟨mb,h1,h2⟩:=I.mod.blt
 exact Calls.Name_function_global I.ok.kind hg (Calls.loadGlobal_builtin (by rw[I.ok.glob];exact I.mod.glob.keeps I.bk) hm (by rw[I.ok.blt];exact h1.keeps I.bk) ((h2 x hn).trans hv) h) hd
theorem vv {x:Str}{v:V}{u:Value}{pos:Pos}(hg:Gl X x)(hm:X.mg x=some u)(r:RelV v u)(hd:(x == ("__debug__":Str))=false:=by decide):PE X (.Name x pos) (tC v):=
 fun _ _ _ H _ I h=>xM I hg hm ⟨v,H,I,r,h⟩ hd
theorem wz {x:Str}{v:V}{u:Value}{pos:Pos}(hg:Gl X x)(hm:X.mg x=none)(hv:bootBuiltins x=some u)(r:RelV v u)(hn:x≠"__name__":=by decide)(hd:(x == ("__debug__":Str))=false:=by decide):PE X (.Name x pos) (tC v):=
 fun _ _ _ H _ I h=>wq I hg hm hv ⟨v,H,I,r,h⟩ hn hd
variable {a b:Expr}{ta tb:TE}{pos:Pos}
def PC (X:Cx)(op:CmpOp)(a b:Expr)(t:TE):Prop:=
 ∀(pins:List (Addr×Obj)) (s:Shared) (σ:St) (H:Hp) (Q:VK),Inv X pins σ H s→t σ H Q→
  wpAny (model X.prog X.w) X.A (eval a X.env) (fun v s₁=>wpAny (model X.prog X.w) X.A (eval b X.env) (fun u s₂=>wpAny (model X.prog X.w) X.A (compareOp op v u) (EP X pins σ Q) X.xe s₂) X.xe s₁) X.xe s
def tB (t:TE):TT:=fun σ H Q=>t σ H fun x H1=>∃c,x=.bl c∧Q c H1
theorem zq6 {op:CmpOp}{t:TE}(h:PC X op a b t)(h1:behindInMarks op b=false:=by first|exact nobehind _ (by decide) (by decide)|rfl):PT X (.Compare a [op] [b] pos) (tB t):=by
 intro pins s σ H Q I hw
 refine wpAny_isTrue_Compare1 (thn (h pins s σ H _ I hw) fun v s1 h1=>thn h1 fun u s2 h2=>thn h2 fun c s3 ⟨x,H1,I1,r1,q1⟩=>?_) h1
 obtain⟨d,rfl,q⟩:=q1
 cases r1
 exact zy9 ⟨H1,I1,q⟩
theorem fV {e:Expr}{t:TE}(h:PE X e t)(he:∀whole,isTrue e X.env whole=(do let v ←whole;standAt e.pos;holding [v] (truthy v)):=by intro _;rfl):PT X e (tB t):=by
 intro pins s σ H Q I hw
 refine isTrue_plain (thn (h pins s σ H _ I hw) fun v s1 ⟨x,H1,I1,r1,q1⟩=>?_) (he _)
 obtain⟨d,rfl,q⟩:=q1
 cases r1
 exact zy9 ⟨H1,I1,q⟩
variable {tA tB':TT}{rest:List Expr}
def zs0 (t u:TT):TT:=fun σ H Q=>t σ H fun c H1=>if c=true then u σ H1 Q else Q false H1
def tOr (t u:TT):TT:=fun σ H Q=>t σ H fun c H1=>if c=true then Q true H1 else u σ H1 Q
def zr2 (t:TT):TT:=fun σ H Q=>t σ H fun c H1=>Q (!c) H1
theorem jr (ha:PT X a tA):PW X (.BoolOp .And [a] pos) tA:=by
 intro wh pins s σ H Q I h
 refine isTrue_and (thn (ha pins s σ H Q I h) fun c s1 e=>?_)
 cases c with
 |true=>exact isTrue_and_nil e
 |false=>exact e
theorem mJ (ha:PT X a tA):PW X (.BoolOp .Or [a] pos) tA:=by
 intro wh pins s σ H Q I h
 refine isTrue_or (thn (ha pins s σ H Q I h) fun c s1 e=>?_)
 cases c with
 |false=>exact isTrue_or_nil e
 |true=>exact e
theorem dg (ha:PT X a tA)(hb:PW X (.BoolOp .And (b::rest) pos) tB'):PW X (.BoolOp .And (a::b::rest) pos) (zs0 tA tB'):=by
 intro wh pins s σ H Q I h
 refine isTrue_and (thn (ha pins s σ H _ I h) fun c s1 ⟨H1,I1,q1⟩=>?_)
 cases c with
 |true=>exact hb wh pins s1 σ H1 Q I1 q1
 |false=>exact⟨H1,I1,q1⟩
theorem gj (ha:PT X a tA)(hb:PW X (.BoolOp .Or (b::rest) pos) tB'):PW X (.BoolOp .Or (a::b::rest) pos) (tOr tA tB'):=by
 intro wh pins s σ H Q I h
 refine isTrue_or (thn (ha pins s σ H _ I h) fun c s1 ⟨H1,I1,q1⟩=>?_)
 cases c with
 |true=>exact⟨H1,I1,q1⟩
 |false=>exact hb wh pins s1 σ H1 Q I1 q1
theorem gg (ha:PT X a tA):PT X (.UnaryOp .Not a pos) (zr2 tA):=by
 intro pins s σ H Q I h
 exact isTrue_not (ha pins s σ H (fun c H1=>Q (!c) H1) I h)
def zm1 (ta tb:TE):TE:=fun σ H Q=>ta σ H fun x H1=>∃c,x=.bl c∧if c=true then tb σ H1 Q else Q (.bl false) H1
def zs5 (ta tb:TE):TE:=fun σ H Q=>ta σ H fun x H1=>∃c,x=.bl c∧if c=true then Q (.bl true) H1 else tb σ H1 Q
def zk4 (ta:TE):TE:=fun σ H Q=>ta σ H fun x H1=>∃c,x=.bl c∧Q (.bl (!c)) H1
theorem xW {op}{t:TE}(h:PE X a t):PE X (.BoolOp op [a] pos) t:=fun pins s σ H Q I hw=>BoolOp_one (h pins s σ H Q I hw)
theorem xm (ha:PE X a ta)(hb:PE X (.BoolOp .And (b::rest) pos) tb):PE X (.BoolOp .And (a::b::rest) pos) (zm1 ta tb):=by
 intro pins s σ H Q I h
 refine BoolOp_and (thn (ha pins s σ H _ I h) fun v s1 ⟨x,H1,I1,r1,q1⟩=>?_)
 obtain⟨c,rfl,q1⟩:=q1
 cases r1
 refine zy9 ?_
 cases c with
 |true=>exact hb pins s1 σ H1 Q I1 q1
 |false=>exact⟨.bl false,H1,I1,rfl,q1⟩
theorem za5 (ha:PE X a ta)(hb:PE X (.BoolOp .Or (b::rest) pos) tb):PE X (.BoolOp .Or (a::b::rest) pos) (zs5 ta tb):=by
 intro pins s σ H Q I h
 refine BoolOp_or (thn (ha pins s σ H _ I h) fun v s1 ⟨x,H1,I1,r1,q1⟩=>?_)
 obtain⟨c,rfl,q1⟩:=q1
 cases r1
 refine zy9 ?_
 cases c with
 |false=>exact hb pins s1 σ H1 Q I1 q1
 |true=>exact⟨.bl true,H1,I1,rfl,q1⟩
theorem zd7 (ha:PE X a ta):PE X (.UnaryOp .Not a pos) (zk4 ta):=by
 intro pins s σ H Q I h
 refine UnaryOp_ (thn (ha pins s σ H _ I h) fun v s1 ⟨x,H1,I1,r1,q1⟩=>?_)
 obtain⟨c,rfl,q1⟩:=q1
 cases r1
 exact not_of (zy9 ⟨.bl (!c),H1,I1,rfl,q1⟩)
def tIf (t:TT)(ta tb:TE):TE:=fun σ H Q=>t σ H fun c H1=>if c=true then ta σ H1 Q else tb σ H1 Q
theorem gn {c:Expr}(hc:PT X c tA)(ha:PE X a ta)(hb:PE X b tb):PE X (.IfExp c a b pos) (tIf tA ta tb):=by
 intro pins s σ H Q I h
 refine wpAny_IfExp (thn (hc pins s σ H _ I h) fun d s1 ⟨H1,I1,q1⟩=>?_)
 cases d with
 |true=>exact ha pins s1 σ H1 Q I1 q1
 |false=>exact hb pins s1 σ H1 Q I1 q1
end
def SqL (K:PySem.W.Frag)(H:Hp)(a:Addr)(xs:List V):Prop:=
 Rd H a (.lst xs)∨
  ∃(o:Obj) (its:Array Value) (n:Nat),K.lookup a=some o∧o.cls=.type "list"∧o.dict=none∧o.data=.seq its n∧its.size≤sizeLine∧Vals xs its.toList
def SqT (K:PySem.W.Frag)(H:Hp)(a:Addr)(xs:List V):Prop:=
 Rd H a (.tup xs)∨
  ∃(o:Obj) (its:Array Value) (n:Nat),K.lookup a=some o∧o.cls=.type "tuple"∧o.data=.seq its n∧its.size≤sizeLine∧Vals xs its.toList
def zs8 :Value→Option V
 |.none=>some .non
 |.bool b=>some (.bl b)
 |.int i _=>some (.int i)
 |.str x _=>some (.str x)
 |.bytes b _=>some (.byt b)
 |.float b _=>some (.flt b)
 |.ref a=>some (.ref a)
 |.type n=>some (.ty n)
 |_=>none
theorem RelV.abs {x:V}{u:Value}(r:RelV x u):zs8 u=some x:=by
 cases x with
 |non=>cases r;rfl
 |bl _=>cases r;rfl
 |int _=>obtain⟨t,rfl⟩:=r;rfl
 |str _=>obtain⟨t,rfl⟩:=r;rfl
 |byt _=>obtain⟨t,rfl⟩:=r;rfl
 |flt _=>obtain⟨t,rfl⟩:=r;rfl
 |ref _=>cases r;rfl
 |ty _=>cases r;rfl
theorem RelV.inj {x y:V}{u:Value}(r:RelV x u)(q:RelV y u):x=y:=zw0 (r.abs.symm.trans q.abs)
theorem Vals.inj :∀{xs ys:List V} {us:List Value},Vals xs us→Vals ys us→xs=ys
 |_,_,_,.nil,.nil=>rfl
 |_,_,_,.cons r t,.cons r' t'=>by rw[r.inj r',Vals.inj t t']
section
variable {X:Cx}{pins:List (Addr×Obj)}{σ:St}{H:Hp}{s:Shared}{a:Addr}{xs ys:List V}
theorem SqL.of {K:PySem.W.Frag}(h:H a=some (.lst xs)):SqL K H a xs:=.inl (.inl h)
theorem SqT.of {K:PySem.W.Frag}(h:H a=some (.tup xs)):SqT K H a xs:=.inl (.inl h)
theorem Inv.list (I:Inv X pins σ H s)(h:SqL X.K H a xs):∃its:List Value,Vals xs its∧PlainL s.heap a its.toArray∧xs.length≤sizeLine:=by
 rcases h with h|⟨o,its,n,hk,hc,hd,hs,hz,r⟩
 ·obtain⟨z,its,n,r,e⟩:=h.ok I.hok
  exact⟨its,r,⟨_,n,e,rfl,rfl,rfl⟩,z⟩
 ·refine⟨its.toList,r,⟨o,n,I.kIn a o hk,hc,hd,by simpa using hs⟩,?_⟩
  have e:=r.length
  simp only[Array.length_toList] at e
  omega
theorem Inv.tuple (I:Inv X pins σ H s)(h:SqT X.K H a xs):∃its:List Value,Vals xs its∧IsTup s.heap a its.toArray∧xs.length≤sizeLine:=by
 rcases h with h|⟨o,its,n,hk,hc,hs,hz,r⟩
 ·obtain⟨z,its,r,p⟩:=h.ok I.hok
  exact⟨its,r,p,z⟩
 ·refine⟨its.toList,r,⟨o,I.kIn a o hk,hc,n,by simpa using hs⟩,?_⟩
  have e:=r.length
  simp only[Array.length_toList] at e
  omega
theorem Inv.list_inj (I:Inv X pins σ H s)(h:SqL X.K H a xs)(h':SqL X.K H a ys):xs=ys:=by
 obtain⟨its,r,⟨o,n,e,_,_,d⟩,_⟩:=I.list h
 obtain⟨its',r',⟨o',n',e',_,_,d'⟩,_⟩:=I.list h'
 rw[e] at e';cases e'
 rw[d] at d'
 injection d' with d1 _
 have:its=its':=by simpa using congrArg Array.toList d1
 subst this
 exact r.inj r'
end
abbrev Cx.wish (X:Cx)(E:Value→Shared→Prop):Cx:={X with xe:=E}
abbrev Cx.nox (X:Cx):Cx:=X.wish fun _ _=>False
theorem Cx.Ok.wish {X:Cx}(ok:X.Ok)(E:Value→Shared→Prop):(X.wish E).Ok:=
 ⟨ok.mod,ok.kind,ok.glob,ok.blt,ok.above,ok.inj,ok.has,ok.cab,ok.hd,ok.frames,ok.stk,ok.exf,ok.bs,ok.bsz,ok.noex,ok.exfs,ok.funs,ok.frf⟩
theorem Cx.Ok.unwish {X:Cx}{E:Value→Shared→Prop}(ok:(X.wish E).Ok):X.Ok:=
 ⟨ok.mod,ok.kind,ok.glob,ok.blt,ok.above,ok.inj,ok.has,ok.cab,ok.hd,ok.frames,ok.stk,ok.exf,ok.bs,ok.bsz,ok.noex,ok.exfs,ok.funs,ok.frf⟩
section
variable {X:Cx}{pins:List (Addr×Obj)}{σ:St}{H:Hp}{s:Shared}{E:Value→Shared→Prop}
theorem Inv.wish (I:Inv X pins σ H s)(E:Value→Shared→Prop):Inv (X.wish E) pins σ H s:=⟨I.ok.wish E,I.os,I.bare,I.base,I.loc,I.cell,I.free,I.freeC,I.pin,I.hok,I.len⟩
theorem Inv.unwish (I:Inv (X.wish E) pins σ H s):Inv X pins σ H s:=⟨I.ok.unwish,I.os,I.bare,I.base,I.loc,I.cell,I.free,I.freeC,I.pin,I.hok,I.len⟩
theorem SP.unwish {D:Ends}{f:Flow}{s':Shared}(h:SP (X.wish E) pins D f s'):SP X pins D f s':=by
 cases f with
 |next=>obtain⟨σ',H',I,q⟩:=h;exact⟨σ',H',I.unwish,q⟩
 |brk=>obtain⟨σ',H',I,q⟩:=h;exact⟨σ',H',I.unwish,q⟩
 |cont=>obtain⟨σ',H',I,q⟩:=h;exact⟨σ',H',I.unwish,q⟩
 |ret u=>obtain⟨v,σ',H',I,r,q⟩:=h;exact⟨v,σ',H',I.unwish,r,q⟩
theorem PSs.nox {st:List Stmt}{t:TS}(h:PSs X.nox st t):PSs X st t:=fun pins s σ H D I hw=>
 zw4 (h pins s σ H D (I.wish _) hw) (fun _ _ q=>q.unwish) fun _ _ z=>False.elim z
end
section
variable {X:Cx}{st:Stmt}{rest:List Stmt}{t u:TS}{e:Expr}{te:TE}{pos:Pos}
def zm4 :TS:=fun D σ H=>D.nx σ H
def zm5 (t u:TS):TS:=fun D σ H=>t {D with nx:=u D} σ H
theorem yy :PSs X [] zm4:=fun _ _ σ H _ I h=>zE3 ⟨σ,H,I,h⟩
theorem zJ (h1:PS X st t)(h2:PSs X rest u):PSs X (st::rest) (zm5 t u):=by
 intro pins s σ H D I h
 refine wpAny_execs_cons (thn (h1 pins s σ H {D with nx:=u D} I h) fun f s1 q=>?_)
 cases f with
 |next=>
  obtain⟨σ',H',I',q⟩:=q
  exact h2 pins s1 σ' H' D I' q
 |ret v=>exact q
 |brk=>exact q
 |cont=>exact q
theorem zv (h1:PS X st t):PSs X [st] t:=by
 intro pins s σ H D I h
 refine wpAny_execs_cons (thn (h1 pins s σ H D I h) fun f s1 q=>?_)
 cases f with
 |next=>exact zE3 q
 |ret v=>exact q
 |brk=>exact q
 |cont=>exact q
theorem Inv.quiet {pins:List (Addr×Obj)}{σ:St}{H:Hp}{s:Shared}(I:Inv X pins σ H s):interactive X.env=false:=by simp[interactive,I.ok.kind]
def zl6 (te:TE):TS:=fun D σ H=>te σ H fun _ H1=>D.nx σ H1
theorem tM (he:PE X e te)(hs:swapsWith e none pos.line X.env=pure false:=by rfl):PS X (.Expr e pos) (zl6 te):=by
 intro pins s σ H D I h
 exact wpAny_Expr_any (thn (he pins s σ H _ I h) fun v s1 ⟨x,H1,I1,r1,q1⟩=>⟨σ,H1,I1,q1⟩) I.quiet hs
def zr5 (te:TE):TS:=fun D σ H=>te σ H D.rt
theorem zC (he:PE X e te):PS X (.Return (some e) pos) (zr5 te):=by
 intro pins s σ H D I h
 exact wpAny_Return_some (thn (he pins s σ H _ I h) fun v s1 ⟨x,H1,I1,r1,q1⟩=>⟨x,σ,H1,I1,r1,q1⟩)
def zr4 (c:TT)(t u:TS):TS:=fun D σ H=>c σ H fun b H1=>if b=true then t D σ H1 else u D σ H1
theorem xK {c:Expr}{a b:List Stmt}{tc:TT}(hc:PT X c tc)(ha:PSs X a t)(hb:PSs X b u):PS X (.If c a b pos) (zr4 tc t u):=by
 intro pins s σ H D I h
 refine wpAny_If (thn (hc pins s σ H _ I h) fun d s1 ⟨H1,I1,q1⟩=>?_)
 cases d with
 |true=>exact ha pins s1 σ H1 D I1 q1
 |false=>exact hb pins s1 σ H1 D I1 q1
end
abbrev TG :=V→St→Hp→(St→Hp→Prop)→Prop
abbrev TGs :=List V→St→Hp→(St→Hp→Prop)→Prop
def PG (X:Cx)(target:Expr)(t:TG):Prop:=
 ∀(pins:List (Addr×Obj)) (s:Shared) (σ:St) (H:Hp) (v:V) (u:Value) (Q:St→Hp→Prop),Inv X pins σ H s→RelV v u→t v σ H Q→
  wpAny (model X.prog X.w) X.A (assign target X.env u) (fun _ s'=>∃σ' H',Inv X pins σ' H' s'∧Q σ' H') X.xe s
def PGs (X:Cx)(ts:List Expr)(t:TGs):Prop:=
 ∀(pins:List (Addr×Obj)) (s:Shared) (σ:St) (H:Hp) (vs:List V) (us:List Value) (Q:St→Hp→Prop),Inv X pins σ H s→Vals vs us→t vs σ H Q→
  wpAny (model X.prog X.w) X.A (assignInOrder ((assignEach ts X.env).map (·.2)) us) (fun _ s'=>∃σ' H',Inv X pins σ' H' s'∧Q σ' H') X.xe s
abbrev zh8 :=V→V→V→Hp→(Hp→Prop)→Prop
def zn8 (X:Cx)(t:zh8):Prop:=
 ∀(pins:List (Addr×Obj)) (s:Shared) (σ:St) (H:Hp) (o i v:V) (ov iv u:Value) (Q:Hp→Prop),Inv X pins σ H s→RelV o ov→RelV i iv→RelV v u→t o i v H Q→
  wpAny (model X.prog X.w) X.A (setItem ov iv u) (fun _ s'=>∃H',Inv X pins σ H' s'∧Q H') X.xe s
section
variable {X:Cx}{pos:Pos}
def qm (i:Nat):TG:=fun v σ H Q=>Q (σ.set i (some v)) H
theorem yg {i:Nat}{x:Str}(hN:X.N.Nodup)(hi:X.N[i]?=some x)(hx:Loc X.env.scope x)(hf:X.fn x=true∨X.env.scope.names.lookup x=some .local:=by first|exact .inl rfl|exact .inr rfl|assumption):PG X (.Name x pos) (qm i):=by
 intro pins s σ H v u Q I r h
 exact wpAny_assign_Name (sy I hN hi hx r (fun s' I'=>⟨_,H,I',h⟩) hf)
def zo3 :TGs:=fun vs σ H Q=>vs=[]∧Q σ H
def za3 (t:TG)(u:TGs):TGs:=fun vs σ H Q=>∃v r,vs=v::r∧t v σ H fun σ' H'=>u r σ' H' Q
theorem pj :PGs X [] zo3:=by
 intro pins s σ H vs us Q I r h
 obtain⟨e,h⟩:=h
 subst e
 cases r
 exact assignInOrder_nil ⟨σ,H,I,h⟩
theorem vq {e:Expr}{es:List Expr}{t:TG}{u:TGs}(h1:PG X e t)(h2:PGs X es u)
  (hs:(assignEach (e::es) X.env).map (·.2)=assign e X.env::(assignEach es X.env).map (·.2):=by rfl):PGs X (e::es) (za3 t u):=by
 intro pins s σ H vs us Q I r h
 obtain⟨v,vr,e1,h⟩:=h
 subst e1
 cases r with
 |cons r rr=>
  rw[hs]
  refine assignInOrder_cons (thn (h1 pins s σ H _ _ _ I r h) fun _ s1 ⟨σ1,H1,I1,q1⟩=>?_)
  exact h2 pins s1 σ1 H1 _ _ Q I1 rr q1
def zi2 (K:PySem.W.Frag)(n:Nat)(t:TGs):TG:=fun v σ H Q=>∃a xs,v=.ref a∧SqT K H a xs∧xs.length=n∧t xs σ H Q
theorem zh7 {es:List Expr}{k:Nat}{t:TGs}{n:Nat}(hc:X.calm=true)(h:PGs X es t)
  (hn:(assignEach es X.env).length=n:=by rfl) (hst:(assignEach es X.env).findIdx? (·.1)=none:=by rfl):PG X (.Tuple es k pos) (zi2 X.K n t):=by
 intro pins s σ H v u Q I r hw
 obtain⟨a,xs,e1,hq,hl,hw⟩:=hw
 subst e1
 cases r
 obtain⟨its,rv,ht,hz⟩:=I.tuple hq
 refine assign_Tuple_tuple (I.ok.hd hc) ht (by simp[hn,←hl,rv.length]) hst fun h' hx=>?_
 have I1:Inv X pins σ H {s with heap:=h'}:=I.kept (t':=s.toks) fun b o e=>hx b o (zv4 (zu0 e)) e
 exact h pins _ σ H xs _ Q I1 (by simpa using rv) hw
def zo1 (to ti:TE)(t:zh8):TG:=fun v σ H Q=>to σ H fun o H1=>ti σ H1 fun i H2=>t o i v H2 fun H3=>Q σ H3
theorem mM {o i:Expr}{to ti:TE}{t:zh8}(ho:PE X o to)(hi:PE X i ti)(hs:zn8 X t)
  (ha:∀v,assign (.Subscript o i pos) X.env v=(do
   let ov ←holding [v] (eval o X.env)
   let iv ←holding [v,ov] (eval i X.env)
   standAt pos
   holding [v,ov,iv] (setItem ov iv v)
   release [v,ov,iv] []):=by intro _;rfl):PG X (.Subscript o i pos) (zo1 to ti t):=by
 intro pins s σ H v u Q I r h
 rw[ha]
 refine zt2 (zx6 (thn (ho pins s σ H _ I h) fun ov s1 ⟨x,H1,I1,r1,q1⟩=>?_))
 refine zt2 (zx6 (thn (hi pins s1 σ H1 _ I1 q1) fun iv s2 ⟨y,H2,I2,r2,q2⟩=>?_))
 refine zt2 (zD9 (zt2 (zx6 (thn (hs pins s2 σ H2 x y v ov iv u _ I2 r1 r2 r q2) fun _ s3 ⟨H3,I3,q3⟩=>?_))))
 exact wpAny_release ⟨σ,H3,I3,q3⟩
def zd3 (te:TE)(g:TG):TS:=fun D σ H=>te σ H fun x H1=>g x σ H1 D.nx
theorem mH {tg e:Expr}{te:TE}{g:TG}(he:PE X e te)(hg:PG X tg g)(hs:swapsWithSole [tg] e pos.line X.env=pure false:=by rfl)(hw:swappedStores [tg] e X.env=pure none:=by rfl)
  (h1:(assignEach [tg] X.env).map (·.2)=[assign tg X.env]:=by rfl):PS X (.Assign [tg] e pos) (zd3 te g):=by
 intro pins s σ H D I h
 refine wpAny_Assign_stores (thn (he pins s σ H _ I h) fun v s1 ⟨x,H1,I1,r1,q1⟩=>?_) hs hw
 rw[h1]
 exact thn (hg pins s1 σ H1 x v _ I1 r1 q1) fun _ s2 q=>q
theorem wC {i:Nat}{x:Str}{e:Expr}{te:TE}{pos':Pos}(hN:X.N.Nodup)(hi:X.N[i]?=some x)(hx:Loc X.env.scope x)(he:PE X e te)(hs:swapsWith e (some (.Name x pos')) pos.line X.env=pure false:=by rfl)(hf:X.fn x=true∨X.env.scope.names.lookup x=some .local:=by first|exact .inl rfl|exact .inr rfl|assumption):
  PS X (.Assign [.Name x pos'] e pos) (zd3 te (qm i)):=by
 intro pins s σ H D I h
 refine wpAny_Assign_Name (thn (he pins s σ H _ I h) fun v s1 ⟨y,H1,I1,r1,q1⟩=>?_) hs
 exact sy I1 hN hi hx r1 (fun s2 I2=>⟨_,H1,I2,q1⟩) hf
end
section
variable {X:Cx}{pos:Pos}
def zi3 (c:TT)(tb:TS):TS:=fun D σ H=>∃W:Nat→St→Hp→Prop,(∃m,W m σ H)∧∀m σ H,W m σ H→
 c σ H fun b H1=>if b=true then ∃N:St→Hp→Prop,(∀σ' H',N σ' H'→∃m',m'<m∧W m' σ' H')∧tb {D with nx:=N,ct:=N,bk:=D.nx} σ H1 else D.nx σ H1
theorem dF {c:Expr}{body:List Stmt}{tc:TT}{tb:TS}(hp:PassesOwn (model X.prog X.w) X.A X.env X.xe)(hc:PT X c tc)(hb:PSs X body tb):PS X (.While c body [] pos) (zi3 tc tb):=by
 intro pins s σ H D I h
 obtain⟨W,⟨m0,w0⟩,turn⟩:=h
 refine wpAny_While (codeAny_whileLoop (fun n s'=>∃σ' H',Inv X pins σ' H' s'∧W n σ' H') ?_ m0 ⟨σ,H,I,w0⟩)
 rintro n s1 ⟨σ1,H1,I1,w1⟩
 refine zA9 hp (thn (hc pins s1 σ1 H1 _ I1 (turn n σ1 H1 w1)) fun b s2 ⟨H2,I2,q2⟩=>?_)
 cases b with
 |true=>
  obtain⟨N,hN,q2⟩:=q2
  rw[if_pos rfl]
  refine zA9 hp (thn (hb pins s2 σ1 H2 _ I2 q2) fun f s3 q3=>?_)
  cases f with
  |next=>
   obtain⟨σ3,H3,I3,n3⟩:=q3
   obtain⟨m',hm,w3⟩:=hN σ3 H3 n3
   exact⟨m',hm,σ3,H3,I3,w3⟩
  |cont=>
   obtain⟨σ3,H3,I3,n3⟩:=q3
   obtain⟨m',hm,w3⟩:=hN σ3 H3 n3
   exact⟨m',hm,σ3,H3,I3,w3⟩
  |brk=>exact q3
  |ret v=>exact q3
 |false=>
  rw[if_neg zu4]
  exact zE3 ⟨σ1,H2,I2,q2⟩
end
structure It where
 go:Nat→Hp→Prop
 yld:Nat→Hp→V→Hp→Prop
 stop:Nat→Hp→Prop
def xq (X:Cx)(pins:List (Addr×Obj))(H:Hp)(b:Addr):Prop:=
 H b=none∧b≠X.env.locals∧b∉X.fs∧(b∈X.ex∨X.s₀.heap.objs.size≤b)∧(∀x c,X.env.cells.lookup x=some c→c≠b)∧∀p∈X.pn++pins,p.1≠b
theorem Inv.fpOk {X:Cx}{pins:List (Addr×Obj)}{σ:St}{H H':Hp}{s:Shared}{b:Addr}(I:Inv X pins σ H s)(hb:s.heap.objs.size≤b)(hn:H' b=none):xq X pins H' b:=by
 refine⟨hn,zA4 (zv1 I.lt hb),I.nofs hb,.inr (zx7 I.sz hb),fun x c e z=>?_,fun p hp z=>?_⟩
 ·obtain⟨v,q⟩:=I.cell x c e
  exact absurd (zv1 q.lt (by rw[z];exact hb)) (zz4 _)
 ·exact absurd (zv1 (zu0 (I.pin p hp).1) (by rw[z];exact hb)) (zz4 _)
structure Turn (P:Program)(w:World)(K:PySem.W.Frag)(tg:Expr)(J:It)(fp:List Addr)(it:Addr)(tn:Nat→Heap→Prop):Prop where
 mem:it∈fp
 obj:∀i h,tn i h→∀b∈fp,∃o,h.get? b=some o∧∀v,o.data≠.cell v
 keep:∀i h h',tn i h→(∀b∈fp,∀o,h.get? b=some o→h'.get? b=some o)→tn i h'
 item:∀(X:Cx),X.prog=P→X.w=w→X.K=K→X.calm=true→∀(i:Nat) (pins:List (Addr×Obj)) (s:Shared) (σ:St) (H:Hp) (E:Value→Shared→Prop),Inv X pins σ H s→(∀b∈fp,xq X pins H b)→tn i s.heap→J.go i H→
  wpAny (model P w) X.A (pyNext (.ref it)) (fun r s1=>∃u,r=some u∧
   wpAny (model P w) X.A (letOwnedTupleGo tg (.ref it) u) (fun _ s2=>∃x H',Inv X pins σ H' s2∧RelV x u∧J.yld i H x H'∧tn (i+1) s2.heap∧∀b∈fp,H' b=none) E s1) E s
 done:∀(X:Cx),X.prog=P→X.w=w→X.K=K→X.calm=true→∀(i:Nat) (pins:List (Addr×Obj)) (s:Shared) (σ:St) (H:Hp) (E:Value→Shared→Prop),Inv X pins σ H s→(∀b∈fp,xq X pins H b)→tn i s.heap→J.stop i H→
  wpAny (model P w) X.A (pyNext (.ref it)) (fun r s1=>r=none∧Inv X pins σ H s1) E s
 self:∀(A:Around) (i:Nat) (s:Shared) (Q:Value→Shared→Prop) (E:Value→Shared→Prop),tn i s.heap→Q (.ref it) s→wpAny (model P w) A (pyIter (.ref it)) Q E s
abbrev TI :=St→Hp→(It→Hp→Prop)→Prop
def PIE (X:Cx)(pins:List (Addr×Obj))(σ:St)(tg:Expr)(R:It→Hp→Prop)(itv:Value)(s2:Shared):Prop:=
 ∃(it:Addr) (fp:List Addr) (tn:Nat→Heap→Prop) (J:It) (H':Hp),itv=.ref it∧Inv X pins σ H' s2∧Turn X.prog X.w X.K tg J fp it tn∧tn 0 s2.heap∧(∀b∈fp,xq X pins H' b)∧R J H'
def PI (X:Cx)(tg iter:Expr)(wi:TI):Prop:=
 ∀(pins:List (Addr×Obj)) (s:Shared) (σ:St) (H:Hp) (R:It→Hp→Prop),Inv X pins σ H s→wi σ H R→
  wpAny (model X.prog X.w) X.A (eval iter X.env) (fun v s1=>wpAny (model X.prog X.w) X.A (pyIter v) (PIE X pins σ tg R) X.xe s1) X.xe s
theorem eB {M:Model}{A:Around}{E:Value→Shared→Prop}{s:Shared}{tg:Expr}{it:Addr}{u:Value}{o:Obj}{n:String}{vs:Array Value}{Q:Unit→Shared→Prop}(ho:s.heap.get? it=some o)(hc:o.cls=.type n)(hd:o.data=.fields vs)
  (hn:["enumerate","zip","dict_itemiterator","dict_reverseitemiterator","odict_iterator","itertools.zip_longest","itertools.pairwise"].contains n=false) (hQ:Q () s):wpAny M A (letOwnedTupleGo tg (.ref it) u) Q E s:=by
 unfold letOwnedTupleGo
 cases tg<;>first
  |exact zt6 hQ
  |(cases u<;>first
    |exact zt6 hQ
    |(refine zt2 (wpAny_load ho ?_)
      rw[hc,hd]
      show wpAny M A (if (["enumerate","zip","dict_itemiterator","dict_reverseitemiterator","odict_iterator","itertools.zip_longest","itertools.pairwise"].contains n&&vs[0]? == some (rawInt _))=true then _ else _) Q E s
      rw[if_neg (by intro h;rw[hn,zz6] at h;cases h)]
      exact zt6 hQ))
def Itl (K:PySem.W.Frag)(a:Addr):It:=
 ⟨fun i H=>∃xs x,SqL K H a xs∧xs[i]?=some x,fun i H x H'=>H'=H∧∀xs,SqL K H a xs→xs[i]?=some x,fun i H=>∃xs,SqL K H a xs∧xs.length≤i⟩
def Itr (lo:Int)(n:Nat):It:=⟨fun i _=>i<n,fun i H x H'=>H'=H∧x=.int (lo+i),fun i _=>n≤i⟩
theorem iw {P:Program}{w:World}{K:PySem.W.Frag}{tg:Expr}(a it:Addr):Turn P w K tg (Itl K a) [it] it (fun i h=>h.IsListIter it a i) where
 mem:=by simp
 obj:=fun i h st b hb=>by
  have e:b=it:=by simpa using hb
  subst e
  obtain⟨o,e,c,d⟩:=st
  exact⟨o,e,fun v z=>by rw[d] at z;cases z⟩
 keep:=fun i h h' st k=>st.at fun o e=>k it (by simp) o e
 item:=by
  intro X hP hw hK hc i pins s σ H E I hf st hg
  subst hP hw hK
  obtain⟨xs,x,hq,hx⟩:=hg
  obtain⟨its,rv,p,hz⟩:=I.list hq
  obtain⟨u,hu,ru⟩:=rv.get hx
  obtain⟨f0,f1,f2,f3,f4,f5⟩:=hf it (by simp)
  refine wpAny_pyNext_list_item st p.isList (x:=u) (by simpa using hu) fun h' st' sb=>?_
  have I1:Inv X pins σ H {s with heap:=h'}:=I.turned (t':=s.toks) (fun b o hb e=>(sb.2 b hb).trans e) f0 f1 f3 f4 f5
  obtain⟨o,e,c,d⟩:=id st'
  exact⟨u,rfl,eB (s:={s with heap:=h'}) e c d (by decide) ⟨x,H,I1,ru,⟨rfl,fun ys hy=>by rw[I.list_inj hy hq];exact hx⟩,st',fun b hb=>(hf b hb).1⟩⟩
 done:=by
  intro X hP hw hK hc i pins s σ H E I hf st hg
  subst hP hw hK
  obtain⟨xs,hq,hx⟩:=hg
  obtain⟨its,rv,p,hz⟩:=I.list hq
  obtain⟨f0,f1,f2,f3,f4,f5⟩:=hf it (by simp)
  have hl:=rv.length
  exact wpAny_pyNext_list_end (I.ok.hd hc) st p.isList (by simp;omega) fun h' eb=>⟨rfl,I.turned (t':=s.toks) (fun b o hb e=>eb b o hb e) f0 f1 f3 f4 f5⟩
 self:=fun _ _ _ _ _ st h=>wpAny_pyIter_listiter st h
theorem mh {P:Program}{w:World}{K:PySem.W.Frag}{tg:Expr}(it:Addr)(lo:Int)(n:Nat):Turn P w K tg (Itr lo n) [it] it (fun i h=>IsRangeIter h it (lo+(i:Nat)*1) ((n:Int)-(i:Nat)) 1) where
 mem:=by simp
 obj:=fun i h st b hb=>by
  have e:b=it:=by simpa using hb
  subst e
  exact⟨_,st,fun v z=>by
   have z':Data.fields _=Data.cell v:=z
   cases z'⟩
 keep:=fun i h h' st k=>k it (by simp) _ st
 item:=by
  intro X hP hw hK hc i pins s σ H E I hf st hg
  subst hP hw hK
  obtain⟨f0,f1,f2,f3,f4,f5⟩:=hf it (by simp)
  have W:=Walks.range (prog:=X.prog) (w:=X.w) (I.ok.hd hc) it lo 1 n
  refine W.item i s _ _ hg st fun v h' tk hv st' kk=>?_
  obtain⟨t,rfl⟩:=hv
  have I1:Inv X pins σ H {s with heap:=h',toks:=tk}:=I.turned (fun b o hb e=>kk b o (by simpa using hb) e) f0 f1 f3 f4 f5
  refine⟨_,rfl,eB (s:={s with heap:=h',toks:=tk}) (n:="range_iterator") st' rfl rfl (by decide) ⟨.int (lo+i),H,I1,⟨t,?_⟩,⟨rfl,rfl⟩,st',fun b hb=>(hf b hb).1⟩⟩
  rw[Int.mul_one]
 done:=by
  intro X hP hw hK hc i pins s σ H E I hf st hg
  subst hP hw hK
  obtain⟨f0,f1,f2,f3,f4,f5⟩:=hf it (by simp)
  exact wpAny_pyNext_range_end (I.ok.hd hc) st (by have:n≤i:=hg;omega) fun h' eb=>⟨rfl,I.turned (t':=s.toks) (fun b o hb e=>eb b o hb e) f0 f1 f3 f4 f5⟩
 self:=fun _ _ _ _ _ st h=>wpAny_pyIter_rangeiter st h
section
variable {X:Cx}{tg:Expr}
def zk0 (K:PySem.W.Frag)(tl:TE):TI:=fun σ H R=>tl σ H fun x H1=>∃a,x=.ref a∧(∃xs,SqL K H1 a xs)∧R (Itl K a) H1
theorem jj {l:Expr}{tl:TE}(hl:PE X l tl):PI X tg l (zk0 X.K tl):=by
 intro pins s σ H R I h
 refine thn (hl pins s σ H _ I h) fun v s1 ⟨x,H1,I1,r1,q1⟩=>?_
 obtain⟨a,e,⟨xs,hq⟩,q⟩:=q1
 subst e
 cases r1
 obtain⟨its,rv,p,hz⟩:=I1.list hq
 refine zF7 p.isList ?_
 refine⟨s1.heap.objs.size,[s1.heap.objs.size],_,_,H1,rfl,I1.kept (t':=s1.toks) fun b o e=>zt3 _ e,iw a _,⟨_,zu7 _ rfl,rfl,rfl⟩,fun b hb=>?_,q⟩
 have e:b=s1.heap.objs.size:=by simpa using hb
 subst e
 exact I1.fpOk (zt9 _) (I1.hok.fresh (zt9 _))
theorem cn {pins:List (Addr×Obj)}{σ:St}{H:Hp}{s:Shared}{R:It→Hp→Prop}{E:Value→Shared→Prop}{lo hi:Int}{t u v:Tok}{tk:Nat}(I:Inv X pins σ H s)(h1:-(2 ^ 62)≤lo)(h2:lo<2 ^ 62)(h3:-(2 ^ 62)≤hi)(h4:hi<2 ^ 62)
  (q:R (Itr lo (hi-lo).toNat) H):wpAny (model X.prog X.w) X.A (pyIter (.ref s.heap.objs.size)) (PIE X pins σ tg R) E {s with heap:=s.heap.push {cls:=.type "range",data:=.fields #[.int lo t,.int hi u,.int 1 v]},toks:=tk}:=by
 refine wpAny_pyIter_range (IsRange.new ..) (small_one h1 h2 h3 h4) ?_
 have I1:Inv X pins σ H {s with heap:=s.heap.push {cls:=.type "range",data:=.fields #[.int lo t,.int hi u,.int 1 v]},toks:=tk}:=I.kept fun b o e=>zt3 _ e
 refine⟨(s.heap.push {cls:=.type "range",data:=.fields #[.int lo t,.int hi u,.int 1 v]}).objs.size,[(s.heap.push {cls:=.type "range",data:=.fields #[.int lo t,.int hi u,.int 1 v]}).objs.size],_,_,H,rfl,
  I1.kept (t':=tk) fun b o e=>zt3 _ e,mh _ lo (hi-lo).toNat,?_,fun b hb=>?_,q⟩
 ·have e1:lo+((0:Nat):Int)*1=lo:=by simp
  have e2:(((hi-lo).toNat:Nat):Int)-((0:Nat):Int)=Builtin.Range.rangeSize lo hi 1:=by rw[rangeSize_one];split<;>omega
  show IsRangeIter _ _ (lo+((0:Nat):Int)*1) ((((hi-lo).toNat:Nat):Int)-((0:Nat):Int)) 1
  rw[e1,e2]
  exact zu7 _ rfl
 ·have e:b=(s.heap.push {cls:=.type "range",data:=.fields #[.int lo t,.int hi u,.int 1 v]}).objs.size:=by simpa using hb
  subst e
  exact I1.fpOk (zt9 _) (I1.hok.fresh (zt9 _))
def zn9 (ta:TA):TI:=fun σ H R=>ta σ H fun vs H1=>∃j:Int,vs=[.int j]∧-(2 ^ 62)≤j∧j<2 ^ 62∧R (Itr 0 j.toNat) H1
theorem iG {a:Expr}{ta:TA}{p pos:Pos}(hg:Gl X "range")(hm:X.mg "range"=none)(ha:PA X [a] ta)(hs:starEach [a] X.env=[(false,eval a X.env)]:=by rfl):PI X tg (.Call (.Name "range" p) [a] [] pos) (zn9 ta):=by
 intro pins s σ H R I h
 refine Call_ (wq I hg hm boot_range (zy3 (thn (ha pos pins s σ H _ I h) fun us s1 ⟨vs,H1,I1,r1,q1⟩=>?_) hs rfl))
 obtain⟨j,e,q1,q2,q⟩:=q1
 subst e
 cases r1 with
 |cons r rr=>
  cases rr
  obtain⟨t,rfl⟩:=r
  exact call_range_1 (cn I1 (by omega) (by omega) q1 q2 (by simpa using q))
def zs1 (wi:TI)(g:TG)(tb:TS):TS:=fun D σ H=>wi σ H fun J H1=>∃W:Nat→Nat→St→Hp→Prop,(∃m,W 0 m σ H1)∧∀i m σ H,W i m σ H→
 (J.stop i H∧D.nx σ H)∨(J.go i H∧∃N:St→Hp→Prop,(∀σ' H',N σ' H'→∃m',m'<m∧W (i+1) m' σ' H')∧∀x H',J.yld i H x H'→g x σ H' fun σ2 H2=>tb {D with nx:=N,ct:=N,bk:=D.nx} σ2 H2)
def sA (fp:List Addr)(h:Heap):List (Addr×Obj):=fp.filterMap fun b=>(h.get? b).map fun o=>(b,o)
theorem wx {fp:List Addr}{h:Heap}{b:Addr}{o:Obj}(hb:b∈fp)(e:h.get? b=some o):(b,o)∈sA fp h:=List.mem_filterMap.mpr ⟨b,hb,by rw[e];rfl⟩
theorem ib {fp:List Addr}{h:Heap}{p:Addr×Obj}(hp:p∈sA fp h):p.1∈fp∧h.get? p.1=some p.2:=by
 obtain⟨b,hb,e⟩:=List.mem_filterMap.mp hp
 cases q:h.get? b with
 |none=>rw[q] at e;cases e
 |some o=>
  rw[q] at e
  have e':(b,o)=p:=zw0 e
  subst e'
  exact⟨hb,q⟩
theorem Inv.pinned {pins:List (Addr×Obj)}{σ:St}{H:Hp}{s:Shared}{fp:List Addr}(I:Inv X pins σ H s)(hf:∀b∈fp,xq X pins H b)(ho:∀b∈fp,∃o,s.heap.get? b=some o∧∀v,o.data≠.cell v):Inv X (pins++sA fp s.heap) σ H s:=
 I.pins_of fun p hp=>(zA0.mp hp).elim (fun z=>I.pin p (zx3 _ z)) fun z=>by
  obtain⟨hb,e⟩:=ib z
  obtain⟨f0,f1,f2,_⟩:=hf p.1 hb
  obtain⟨o,e',d⟩:=ho p.1 hb
  rw[e] at e';cases e'
  exact⟨e,f0,f1,f2,d⟩
theorem Inv.unpinned {pins pl:List (Addr×Obj)}{σ:St}{H:Hp}{s:Shared}(I:Inv X (pins++pl) σ H s):Inv X pins σ H s:=I.pins_of fun p hp=>I.pin p (zx3 _ (zG7 _ hp))
theorem zg7 {iter:Expr}{body:List Stmt}{wi:TI}{g:TG}{tb:TS}{pos:Pos}(hp:PassesOwn (model X.prog X.w) X.A X.env X.xe)(hc:X.calm=true)(hi:PI X tg iter wi)(hg:PG X tg g)(hb:PSs X body tb)
  (hs:∀x,foldedSetIterable iter X.env x=pure x:=by intro _;rfl):PS X (.For tg iter body [] pos) (zs1 wi g tb):=by
 intro pins s σ H D I h
 refine wpAny_For (thn (hi pins s σ H _ I h) fun v s1 h1=>thn h1 fun itv s2 h2=>?_) hs
 obtain⟨it,fp,tn,J,H2,e,I2,T,st2,f2,W,⟨m0,w0⟩,turn⟩:=h2
 subst e
 -- what stays true of the iterator's objects through the loop
 have stat:∀{H':Hp},(∀b∈fp,H' b=none)→∀b∈fp,xq X pins H' b:=fun hn b hb=>⟨hn b hb,(f2 b hb).2⟩
 refine codeAny_forLoop_any (fun n s'=>∃i σ' H',Inv X pins σ' H' s'∧tn i s'.heap∧(∀b∈fp,H' b=none)∧W i n σ' H') ?_ m0 ⟨0,σ,H2,I2,st2,fun b hb=>(f2 b hb).1,w0⟩
 rintro n s3 ⟨i,σ3,H3,I3,st3,fr3,w3⟩
 rcases turn i n σ3 H3 w3 with ⟨stop,qn⟩|⟨go,N,hN,step⟩
 ·refine zA9 hp (thn (T.done X rfl rfl rfl hc i pins s3 σ3 H3 X.xe I3 (stat fr3) st3 stop) fun r s4 ⟨hr,I4⟩=>?_)
  subst hr
  exact zE3 ⟨σ3,H3,I4,qn⟩
 ·refine zA9 hp (thn (T.item X rfl rfl rfl hc i pins s3 σ3 H3 X.xe I3 (stat fr3) st3 go) fun r s4 ⟨u,hr,h4⟩=>?_)
  subst hr
  refine zA9 hp (thn h4 fun _ s5 ⟨x,H5,I5,r5,y5,st5,fr5⟩=>?_)
  have I5':=I5.pinned (stat fr5) (T.obj _ _ st5)
  refine zA9 hp (thn (hg _ s5 σ3 H5 x u _ I5' r5 (step x H5 y5)) fun _ s6 ⟨σ6,H6,I6,q6⟩=>?_)
  refine zA9 hp (thn (hb _ s6 σ6 H6 _ I6 q6) fun f s7 q7=>?_)
  have again:∀{σ7:St} {H7:Hp},Inv X (pins++sA fp s5.heap) σ7 H7 s7→N σ7 H7→∃m,m<n∧∃i σ' H',Inv X pins σ' H' s7∧tn i s7.heap∧(∀b∈fp,H' b=none)∧W i m σ' H':=fun {σ7 H7} I7 n7=>by
   obtain⟨m',hm,w7⟩:=hN σ7 H7 n7
   refine⟨m',hm,i+1,σ7,H7,I7.unpinned,T.keep _ _ _ st5 fun b hb o e=>(I7.pin (b,o) (zx3 _ (zx3 _ (wx hb e)))).1,fun b hb=>?_,w7⟩
   obtain⟨o,e,d⟩:=T.obj _ _ st5 b hb
   exact (I7.pin (b,o) (zx3 _ (zx3 _ (wx hb e)))).2.1
  cases f with
  |next=>obtain⟨σ7,H7,I7,n7⟩:=q7;exact again I7 n7
  |cont=>obtain⟨σ7,H7,I7,n7⟩:=q7;exact again I7 n7
  |brk=>obtain⟨σ7,H7,I7,q7⟩:=q7;exact⟨σ7,H7,I7.unpinned,q7⟩
  |ret v=>obtain⟨x7,σ7,H7,I7,r7,q7⟩:=q7;exact⟨x7,σ7,H7,I7.unpinned,r7,q7⟩
end
abbrev R2 :=V→V→Hp→VK→Prop
def OpR (X:Cx)(f:Value→Value→Sem Value)(r:R2):Prop:=
 ∀(pins:List (Addr×Obj)) (s:Shared) (σ:St) (H:Hp) (x y:V) (v u:Value) (Q:VK),Inv X pins σ H s→RelV x v→RelV y u→r x y H Q→
  wpAny (model X.prog X.w) X.A (f v u) (EP X pins σ Q) X.xe s
def UnR (X:Cx)(f:Value→Sem Value)(r:V→Hp→VK→Prop):Prop:=
 ∀(pins:List (Addr×Obj)) (s:Shared) (σ:St) (H:Hp) (x:V) (v:Value) (Q:VK),Inv X pins σ H s→RelV x v→r x H Q→
  wpAny (model X.prog X.w) X.A (f v) (EP X pins σ Q) X.xe s
def xQ (X:Cx)(f:Value)(r:List V→Hp→VK→Prop):Prop:=
 ∀(pins:List (Addr×Obj)) (s:Shared) (σ:St) (H:Hp) (xs:List V) (us:List Value) (Q:VK),Inv X pins σ H s→Vals xs us→r xs H Q→
  wpAny (model X.prog X.w) X.A (call f us) (EP X pins σ Q) X.xe s
def zs7 (X:Cx)(r:V→Hp→(Bool→Hp→Prop)→Prop):Prop:=
 ∀(pins:List (Addr×Obj)) (s:Shared) (σ:St) (H:Hp) (x:V) (v:Value) (Q:Bool→Hp→Prop),Inv X pins σ H s→RelV x v→r x H Q→
  wpAny (model X.prog X.w) X.A (truthy v) (TP X pins σ Q) X.xe s
def tOp (r:R2)(ta tb:TE):TE:=fun σ H Q=>ta σ H fun x H1=>tb σ H1 fun y H2=>r x y H2 Q
def tUn (r:V→Hp→VK→Prop)(ta:TE):TE:=fun σ H Q=>ta σ H fun x H1=>r x H1 Q
def rI (C:Int→Int→Prop)(g:Int→Int→V):R2:=fun x y H Q=>∃i j,x=.int i∧y=.int j∧C i j∧Q (g i j) H
def rI0 (g:Int→Int→V):R2:=fun x y H Q=>∃i j,x=.int i∧y=.int j∧Q (g i j) H
def rU (g:Int→V):V→Hp→VK→Prop:=fun x H Q=>∃i,x=.int i∧Q (g i) H
section
variable {X:Cx}{a b c:Expr}{ta tb tc:TE}{pos:Pos}
theorem zg3 (ha:PE X a ta)(hb:PE X b tb){pins:List (Addr×Obj)}{s:Shared}{σ:St}{H:Hp}{R:V→V→Hp→Prop}(I:Inv X pins σ H s)
  (h:ta σ H fun x H1=>tb σ H1 fun y H2=>R x y H2) {Q:Value→Shared→Prop} {f:Value→Value→Sem Value}
  (hf:∀v u s2 x y H2,Inv X pins σ H2 s2→RelV x v→RelV y u→R x y H2→wpAny (model X.prog X.w) X.A (f v u) Q X.xe s2):
  wpAny (model X.prog X.w) X.A (eval a X.env) (fun v s₁=>wpAny (model X.prog X.w) X.A (eval b X.env) (fun u s₂=>wpAny (model X.prog X.w) X.A (f v u) Q X.xe s₂) X.xe s₁) X.xe s:=by
 refine thn (ha pins s σ H _ I h) fun v s1 ⟨x,H1,I1,r1,q1⟩=>?_
 refine thn (hb pins s1 σ H1 _ I1 q1) fun u s2 ⟨y,H2,I2,r2,q2⟩=>?_
 exact hf v u s2 x y H2 I2 r1 r2 q2
theorem yt {op:Operator}{r:R2}(ho:OpR X (binaryOp op) r)(ha:PE X a ta)(hb:PE X b tb):PE X (.BinOp a op b pos) (tOp r ta tb):=by
 intro pins s σ H Q I h
 exact wpAny_BinOp (zg3 ha hb I h fun v u s2 x y H2 I2 rx ry q=>ho pins s2 σ H2 x y v u Q I2 rx ry q)
theorem zm9 {op:UnaryOp}{r:V→Hp→VK→Prop}(ho:UnR X (unaryOp op) r)(ha:PE X a ta):PE X (.UnaryOp op a pos) (tUn r ta):=by
 intro pins s σ H Q I h
 exact UnaryOp_ (thn (ha pins s σ H _ I h) fun v s1 ⟨x,H1,I1,r1,q1⟩=>ho pins s1 σ H1 x v Q I1 r1 q1)
theorem opI {f:Value→Value→Sem Value}{C:Int→Int→Prop}{g:Int→Int→Int}
  (rule:∀(i j:Int) (t u:Tok) (s:Shared) (Q:Value→Shared→Prop) (E:Value→Shared→Prop),C i j→Q (.int (g i j) s.toks) {s with toks:=s.toks+1}→wpAny (model X.prog X.w) X.A (f (.int i t) (.int j u)) Q E s):
  OpR X f (rI C fun i j=>.int (g i j)):=by
 intro pins s σ H x y v u Q I rx ry h
 obtain⟨i,j,rfl,rfl,hc,q⟩:=h
 obtain⟨t,rfl⟩:=rx
 obtain⟨t',rfl⟩:=ry
 exact rule i j t t' s _ _ hc ⟨.int (g i j),H,I.tok _,⟨_,rfl⟩,q⟩
theorem zo6 {f:Value→Value→Sem Value}{g:Int→Int→Int}
  (rule:∀(i j:Int) (t u:Tok) (s:Shared) (Q:Value→Shared→Prop) (E:Value→Shared→Prop),Q (.int (g i j) s.toks) {s with toks:=s.toks+1}→wpAny (model X.prog X.w) X.A (f (.int i t) (.int j u)) Q E s):
  OpR X f (rI0 fun i j=>.int (g i j)):=by
 intro pins s σ H x y v u Q I rx ry h
 obtain⟨i,j,rfl,rfl,q⟩:=h
 obtain⟨t,rfl⟩:=rx
 obtain⟨t',rfl⟩:=ry
 exact rule i j t t' s _ _ ⟨.int (g i j),H,I.tok _,⟨_,rfl⟩,q⟩
theorem cH {f:Value→Value→Sem Value}{g:Int→Int→Bool}
  (rule:∀(i j:Int) (t u:Tok) (s:Shared) (Q:Value→Shared→Prop) (E:Value→Shared→Prop),Q (.bool (g i j)) s→wpAny (model X.prog X.w) X.A (f (.int i t) (.int j u)) Q E s):
  OpR X f (rI0 fun i j=>.bl (g i j)):=by
 intro pins s σ H x y v u Q I rx ry h
 obtain⟨i,j,rfl,rfl,q⟩:=h
 obtain⟨t,rfl⟩:=rx
 obtain⟨t',rfl⟩:=ry
 exact rule i j t t' s _ _ ⟨.bl (g i j),H,I,rfl,q⟩
def zc9 (i j:Int):Prop:=0≤j∧j≤1000000∧i.natAbs<2 ^ 64
def ze6 (i j:Int):Prop:=(-(2 ^ 64)<i∧i<2 ^ 64)∨(-(2 ^ 64)<j∧j<2 ^ 64)
theorem ze6.ok {i j:Int}(h:ze6 i j):IntMulOk i j:=by
 rcases h with ⟨h1,h2⟩|⟨h1,h2⟩
 ·exact .of_left (intBits_le_64 h1 h2)
 ·exact .of_right (intBits_le_64 h1 h2)
theorem uD :OpR X (binaryOp .Add) (rI0 fun i j=>.int (i+j)):=zo6 fun _ _ _ _ _ _ _ q=>add_int q
theorem gf :OpR X (binaryOp .Sub) (rI0 fun i j=>.int (i-j)):=zo6 fun _ _ _ _ _ _ _ q=>sub_int q
theorem tW :OpR X (binaryOp .Mult) (rI ze6 fun i j=>.int (i*j)):=opI fun _ _ _ _ _ _ _ hc q=>mul_int q hc.ok
theorem vV :OpR X (binaryOp .Mod) (rI (fun _ j=>0<j) fun i j=>.int (i % j)):=opI fun i j _ _ _ _ _ hc q=>by
 have h1:(0:Int)<j:=hc
 exact mod_int' (by omega) (by rw[Int.fmod_eq_emod_of_nonneg i (by omega)];exact q)
theorem fG :OpR X (binaryOp .Pow) (rI zc9 fun i j=>.int (i ^ j.toNat)):=opI fun _ _ _ _ _ _ _ hc q=>pow_int_small hc.1 hc.2.1 hc.2.2 q
theorem unI {f:Value→Sem Value}{g:Int→Int}
  (rule:∀(i:Int) (t:Tok) (s:Shared) (Q:Value→Shared→Prop) (E:Value→Shared→Prop),Q (.int (g i) s.toks) {s with toks:=s.toks+1}→wpAny (model X.prog X.w) X.A (f (.int i t)) Q E s):
  UnR X f (rU fun i=>.int (g i)):=by
 intro pins s σ H x v Q I rx h
 obtain⟨i,rfl,q⟩:=h
 obtain⟨t,rfl⟩:=rx
 exact rule i t s _ _ ⟨.int (g i),H,I.tok _,⟨_,rfl⟩,q⟩
theorem zb7 :UnR X (unaryOp .USub) (rU fun i=>.int (-i)):=unI fun _ _ _ _ _ q=>neg_int q
end
def zk9 :V→V→Bool
 |.non,.non=>true|.non,.int _=>true|.int _,.non=>true|.non,.bl _=>true|.bl _,.non=>true|.non,.str _=>true|.str _,.non=>true
 |.int _,.int _=>true|.bl _,.bl _=>true|.str _,.str _=>true|.byt _,.byt _=>true
 |.int _,.str _=>true|.str _,.int _=>true|.bl _,.str _=>true|.str _,.bl _=>true
 |_,_=>false
def rEq :R2:=fun x y H Q=>zk9 x y=true∧Q (.bl (decide (x=y))) H
def rNe :R2:=fun x y H Q=>zk9 x y=true∧Q (.bl (!decide (x=y))) H
theorem kU {i j:Int}:decide (V.int i=V.int j)=(i == j):=by
 rw[zG8]
 simp
theorem fw {i j:Bool}:decide (V.bl i=V.bl j)=(i == j):=by
 rw[zG8]
 simp
theorem jh {i j:Str}:decide (V.str i=V.str j)=(i == j):=by
 rw[zG8]
 simp
theorem kY {i j:Array UInt8}:decide (V.byt i=V.byt j)=(i.toList == j.toList):=by
 rw[zG8]
 cases i
 cases j
 simp
section
variable {X:Cx}{a b c:Expr}{ta tb tc:TE}{pos:Pos}
theorem zH {pins:List (Addr×Obj)}{σ:St}{H:Hp}{s:Shared}{Q:VK}{k k':Bool}(I:Inv X pins σ H s)(q:Q (.bl k) H)(e:k=k'):EP X pins σ Q (.bool k') s:=by
 subst e
 exact⟨.bl k,H,I,rfl,q⟩
theorem wN :OpR X (compareOp .Eq) rEq:=by
 intro pins s σ H x y v u Q I rx ry h
 obtain⟨hs,q⟩:=h
 cases x with
 |non=>
  cases rx
  cases y with
  |non=>cases ry;exact PySem.EqNone.eq_none_none (zH I q (by simp))
  |bl j=>cases ry;exact PySem.EqNone.eq_none_bool (zH I q (by simp))
  |int j=>obtain⟨t',rfl⟩:=ry;exact PySem.EqNone.eq_none_int (zH I q (by simp))
  |str j=>obtain⟨t',rfl⟩:=ry;exact PySem.EqNone.eq_none_str (zH I q (by simp))
  |_=>exact absurd (show false=true from hs) zu4
 |bl i=>
  cases rx
  cases y with
  |non=>cases ry;exact PySem.EqNone.eq_bool_none (zH I q (by simp))
  |bl j=>cases ry;exact eq_bool (zH I q fw)
  |str j=>obtain⟨t',rfl⟩:=ry;exact PySem.EqMixed.eq_bool_str (zH I q (by simp))
  |_=>exact absurd (show false=true from hs) zu4
 |int i=>
  obtain⟨t,rfl⟩:=rx
  cases y with
  |non=>cases ry;exact PySem.EqNone.eq_int_none (zH I q (by simp))
  |int j=>obtain⟨t',rfl⟩:=ry;exact eq_int (zH I q kU)
  |str j=>obtain⟨t',rfl⟩:=ry;exact PySem.EqMixed.eq_int_str (zH I q (by simp))
  |_=>exact absurd (show false=true from hs) zu4
 |str i=>
  obtain⟨t,rfl⟩:=rx
  cases y with
  |non=>cases ry;exact PySem.EqNone.eq_str_none (zH I q (by simp))
  |bl j=>cases ry;exact PySem.EqMixed.eq_str_bool (zH I q (by simp))
  |int j=>obtain⟨t',rfl⟩:=ry;exact PySem.EqMixed.eq_str_int (zH I q (by simp))
  |str j=>obtain⟨t',rfl⟩:=ry;exact eq_str (zH I q jh)
  |_=>exact absurd (show false=true from hs) zu4
 |byt i=>
  obtain⟨t,rfl⟩:=rx
  cases y with
  |byt j=>obtain⟨t',rfl⟩:=ry;exact PySem.W.eq_bytes (zH I q kY)
  |_=>exact absurd (show false=true from hs) zu4
 |_=>cases y<;>exact absurd (show false=true from hs) zu4
theorem zp0 :OpR X (compareOp .NotEq) rNe:=by
 intro pins s σ H x y v u Q I rx ry h
 obtain⟨hs,q⟩:=h
 cases x with
 |non=>
  cases rx
  cases y with
  |non=>cases ry;exact PySem.EqNone.ne_none_none (zH I q (by simp))
  |bl j=>cases ry;exact PySem.EqNone.ne_none_bool (zH I q (by simp))
  |int j=>obtain⟨t',rfl⟩:=ry;exact PySem.EqNone.ne_none_int (zH I q (by simp))
  |str j=>obtain⟨t',rfl⟩:=ry;exact PySem.EqNone.ne_none_str (zH I q (by simp))
  |_=>exact absurd (show false=true from hs) zu4
 |bl i=>
  cases rx
  cases y with
  |non=>cases ry;exact PySem.EqNone.ne_bool_none (zH I q (by simp))
  |bl j=>cases ry;exact ne_bool (zH I q (congrArg not fw))
  |str j=>obtain⟨t',rfl⟩:=ry;exact PySem.EqMixed.ne_bool_str (zH I q (by simp))
  |_=>exact absurd (show false=true from hs) zu4
 |int i=>
  obtain⟨t,rfl⟩:=rx
  cases y with
  |non=>cases ry;exact PySem.EqNone.ne_int_none (zH I q (by simp))
  |int j=>obtain⟨t',rfl⟩:=ry;exact ne_int (zH I q (congrArg not kU))
  |str j=>obtain⟨t',rfl⟩:=ry;exact PySem.EqMixed.ne_int_str (zH I q (by simp))
  |_=>exact absurd (show false=true from hs) zu4
 |str i=>
  obtain⟨t,rfl⟩:=rx
  cases y with
  |non=>cases ry;exact PySem.EqNone.ne_str_none (zH I q (by simp))
  |bl j=>cases ry;exact PySem.EqMixed.ne_str_bool (zH I q (by simp))
  |int j=>obtain⟨t',rfl⟩:=ry;exact PySem.EqMixed.ne_str_int (zH I q (by simp))
  |str j=>obtain⟨t',rfl⟩:=ry;exact ne_str (zH I q (congrArg not jh))
  |_=>exact absurd (show false=true from hs) zu4
 |byt i=>
  obtain⟨t,rfl⟩:=rx
  cases y with
  |byt j=>obtain⟨t',rfl⟩:=ry;exact PySem.W.ne_bytes (zH I q (congrArg not kY))
  |_=>exact absurd (show false=true from hs) zu4
 |_=>cases y<;>exact absurd (show false=true from hs) zu4
theorem aT :OpR X (compareOp .Lt) (rI0 fun i j=>.bl (decide (i<j))):=cH fun _ _ _ _ _ _ _ q=>lt_int q
theorem oU :OpR X (compareOp .LtE) (rI0 fun i j=>.bl (decide (i≤j))):=cH fun _ _ _ _ _ _ _ q=>le_int q
theorem kj :OpR X (compareOp .Gt) (rI0 fun i j=>.bl (decide (j<i))):=cH fun _ _ _ _ _ _ _ q=>gt_int q
theorem zl4 :OpR X (compareOp .GtE) (rI0 fun i j=>.bl (decide (j≤i))):=cH fun _ _ _ _ _ _ _ q=>ge_int q
theorem lG :OpR X (compareOp .Is) (fun x y H Q=>y=.non∧Q (.bl (decide (x=.non))) H):=by
 intro pins s σ H x y v u Q I rx ry h
 obtain⟨rfl,q⟩:=h
 cases ry
 refine is_none_gen (zH I q ?_)
 cases x<;>first
  |(cases rx;rfl)
  |(obtain⟨t,rfl⟩:=rx;rfl)
theorem zF (b:Expr){op:CmpOp}(h:op≠.In:=by decide)(h2:op≠.NotIn:=by decide):behindInMarks op b=false:=by
 have e1:(op == CmpOp.In)=false:=by cases op<;>first|rfl|exact absurd rfl h
 have e2:(op == CmpOp.NotIn)=false:=by cases op<;>first|rfl|exact absurd rfl h2
 cases b<;>simp[behindInMarks,e1,e2]
theorem xR {op:CmpOp}{r:R2}(ho:OpR X (compareOp op) r)(ha:PE X a ta)(hb:PE X b tb)(hm:behindInMarks op b=false):PE X (.Compare a [op] [b] pos) (tOp r ta tb):=by
 intro pins s σ H Q I h
 exact wpAny_Compare1 (zg3 ha hb I h fun v u s2 x y H2 I2 rx ry q=>ho pins s2 σ H2 x y v u Q I2 rx ry q) hm
def zj8 (t:TE):TT:=fun σ H Q=>t σ H fun x H'=>∃k,x=.bl k∧Q k H'
theorem yh {op:CmpOp}{r:R2}(ho:OpR X (compareOp op) r)(ha:PE X a ta)(hb:PE X b tb)(hm:behindInMarks op b=false):PT X (.Compare a [op] [b] pos) (zj8 (tOp r ta tb)):=by
 intro pins s σ H Q I h
 refine wpAny_isTrue_Compare1 (thn (ha pins s σ H _ I h) fun v s1 ⟨x,H1,I1,r1,q1⟩=>thn (hb pins s1 σ H1 _ I1 q1) fun u s2 ⟨y,H2,I2,r2,q2⟩=>
  thn (ho pins s2 σ H2 x y v u _ I2 r1 r2 q2) fun c s3 ⟨z,H3,I3,r3,k,e,q3⟩=>?_) hm
 subst e
 cases r3
 exact zy9 ⟨H3,I3,q3⟩
def zb3 (r r':R2)(ta tb tc:TE):TE:=fun σ H Q=>ta σ H fun x H1=>tb σ H1 fun y H2=>r x y H2 fun z H3=>∃k,z=.bl k∧
 (if k=true then tc σ H3 fun w' H4=>r' y w' H4 Q else Q (.bl false) H3)
theorem oR {op op':CmpOp}{r r':R2}(ho:OpR X (compareOp op) r)(ho':OpR X (compareOp op') r')(ha:PE X a ta)(hb:PE X b tb)(hc:PE X c tc)
  (hm:lastMarks [op,op'] [b,c]=false:=by with_unfolding_all rfl):PE X (.Compare a [op,op'] [b,c] pos) (zb3 r r' ta tb tc):=by
 intro pins s σ H Q I h
 refine Compare_chain (thn (ha pins s σ H _ I h) fun v s1 ⟨x,H1,I1,r1,q1⟩=>chain_link (thn (hb pins s1 σ H1 _ I1 q1) fun u s2 ⟨y,H2,I2,r2,q2⟩=>
  thn (ho pins s2 σ H2 x y v u _ I2 r1 r2 q2) fun d s3 ⟨z,H3,I3,r3,k,e,q3⟩=>?_)) hm
 subst e
 cases r3
 refine zy9 ?_
 cases k with
 |false=>exact ite_ff ⟨.bl false,H3,I3,rfl,q3⟩
 |true=>exact ite_tt (chain_last (thn (hc pins s3 σ H3 _ I3 q3) fun w' s4 ⟨z',H4,I4,r4,q4⟩=>ho' pins s4 σ H4 y z' u w' Q I4 r2 r4 q4))
def zm6 (K:PySem.W.Frag)(x:V)(H:Hp)(k:Bool):Prop:=
 match x with
 |.non=>k=false
 |.bl b=>k=b
 |.int i=>k=(i != 0)
 |.str y=>y.length≤sizeLine∧k=((y.length:Int) != 0)
 |.byt y=>y.size≤sizeLine∧k=((y.size:Int) != 0)
 |.ref p=>(∃xs,SqL K H p xs∧k=!xs.isEmpty)∨(∃xs,SqT K H p xs∧k=!xs.isEmpty)∨∃kvs,H p=some (.dK kvs)∧k=!kvs.isEmpty
 |_=>False
theorem mL {κ:Type}{kvs:List (κ×V)}{vs:List (κ×Value)}(r:KV kvs vs):(!vs.isEmpty)=!kvs.isEmpty:=by
 cases r<;>rfl
theorem sf {xs:List V}{its:List Value}(r:Vals xs its):(!its.toArray.isEmpty)=!xs.isEmpty:=by
 cases r<;>simp
theorem uQ :(sizeLine:Nat)<2 ^ 63:=by rw[zx4];decide
theorem zi5 :zs7 X (fun x H Q=>∃k,zm6 X.K x H k∧Q k H):=by
 intro pins s σ H x v Q I rx h
 obtain⟨k,e,q⟩:=h
 have hl:=uQ
 have hs:sizeLine=16777216:=zx4
 cases x with
 |non=>
  cases rx
  have e':k=false:=e
  subst e'
  exact truthy_none ⟨H,I,q⟩
 |bl b=>
  cases rx
  have e':k=b:=e
  subst e'
  exact zy9 ⟨H,I,q⟩
 |int i=>
  obtain⟨t,rfl⟩:=rx
  have e':k=(i != 0):=e
  subst e'
  exact PySem.P.truthy_int ⟨H,I,q⟩
 |str y=>
  obtain⟨t,rfl⟩:=rx
  obtain⟨hy,e'⟩:y.length≤sizeLine∧k=((y.length:Int) != 0):=e
  subst e'
  exact PySem.P.truthy_str (by omega) ⟨H,I.tok _,q⟩
 |byt y=>
  obtain⟨t,rfl⟩:=rx
  obtain⟨hy,e'⟩:y.size≤sizeLine∧k=((y.size:Int) != 0):=e
  subst e'
  exact PySem.W.truthy_bytes (by omega) ⟨H,I.tok _,q⟩
 |ref p=>
  cases rx
  have e':(∃xs,SqL X.K H p xs∧k=!xs.isEmpty)∨(∃xs,SqT X.K H p xs∧k=!xs.isEmpty)∨∃kvs,H p=some (.dK kvs)∧k=!kvs.isEmpty:=e
  rcases e' with ⟨xs,hx,e'⟩|⟨xs,hx,e'⟩|⟨kvs,hx,e'⟩
  ·subst e'
   obtain⟨its,r,pl,hz⟩:=I.list hx
   have hlen:=r.length
   exact wpAny_truthy_list pl.isList (by simp only[zu2];omega) ⟨H,I.tok _,by rw[sf r];exact q⟩
  ·subst e'
   obtain⟨its,r,pl,hz⟩:=I.tuple hx
   have hlen:=r.length
   exact truthy_tuple pl (by simp only[zu2];omega) ⟨H,I.tok _,by rw[sf r];exact q⟩
  ·subst e'
   obtain⟨hz,hS,vs,r,m⟩:kvs.length≤sizeLine∧(p == sysModules)=false∧∃vs,KV kvs vs∧s.heap.DictOf (yO X.prog X.w) p vs:=I.hok p _ hx
   have hlen:kvs.length=vs.length:=Paired.length r
   exact wpAny_truthy_dict hS m (by omega) ⟨H,I.tok _,by rw[mL r];exact q⟩
 |_=>exact (show False from e).elim
theorem fh (ha:PE X a ta)(he:∀whole,isTrue a X.env whole=(do let v ←whole;standAt a.pos;holding [v] (truthy v))):
  PT X a (fun σ H Q=>ta σ H fun x H'=>∃k,zm6 X.K x H' k∧Q k H'):=by
 intro pins s σ H Q I h
 exact isTrue_plain (thn (ha pins s σ H _ I h) fun v s1 ⟨x,H1,I1,r1,q1⟩=>zi5 pins s1 σ H1 x v Q I1 r1 q1) (he _)
theorem vals1 {x:V}{us:List Value}(r:Vals [x] us):∃u,us=[u]∧RelV x u:=by
 cases r with
 |cons r1 r2=>cases r2;exact⟨_,rfl,r1⟩
theorem nL :xQ X (.builtin "abs") (fun xs H Q=>∃i,xs=[.int i]∧Q (.int (if i<0 then -i else i)) H):=by
 intro pins s σ H xs us Q I r h
 obtain⟨i,rfl,q⟩:=h
 obtain⟨u,rfl,t,rfl⟩:=vals1 r
 exact call_abs_int fun u tk=>⟨.int (if i<0 then -i else i),H,I.tok _,⟨_,rfl⟩,q⟩
end
structure nR (h:Heap)(x dx C:Addr)(mA:Str→Option Value):Prop where
 obj:h.get? x=some (PySem.W.instObj C dx)
 ns:h.Ns1 dx mA
 ne:dx≠x
theorem rO {h:Heap}{dx:Addr}{mA:Str→Option Value}(n:h.Ns1 dx mA):∃od,h.get? dx=some od∧∀name,PySem.W.lookIn name od=some (mA name):=by
 obtain⟨o,es,ep,ho,hd,hk,_,hm⟩:=n
 refine⟨o,ho,fun name=>?_⟩
 have e:=hm name
 unfold nsFind findBy at e
 rw[←Array.find?_toList] at e
 unfold PySem.W.lookIn
 rw[hd]
 dsimp only
 split
 ·rename_i y q
  rw[q] at e
  exact congrArg some e
 ·rename_i q
  rw[q] at e
  have a:es.toList.any (·.refKey)=false:=by
   rw[List.any_eq_false]
   intro y hy
   obtain⟨z,t,hkey⟩:=hk y (Array.mem_toList_iff.mp hy)
   simp[DictEntry.refKey,hkey]
  have a':¬es.toList.any (·.refKey)=true:=by rw[a];exact zu4
  rw[if_neg a']
  exact congrArg some e
theorem nR.look {h:Heap}{x dx C:Addr}{mA:Str→Option Value}(I:nR h x dx C mA):∃od,PySem.W.InstAt h x (PySem.W.instObj C dx) C (some od)∧∀name,PySem.W.lookIn name od=some (mA name):=
 let ⟨od,ho,hl⟩:=rO I.ns
 ⟨od,⟨I.obj,rfl,rfl,ho⟩,hl⟩
section
variable {prog:Program}{w:World}{A:Around}{E:Value→Shared→Prop}{s:Shared}{K:PySem.W.Frag}{x dx C f:Addr}{mA:Str→Option Value}{name:Str}{v:Value}
theorem get_map {expr:Bool}{Q:Value→Shared→Prop}(X:K.In s.heap)(I:nR s.heap x dx C mA)(hg:PySem.W.plainGet K C name=true)(hh:PySem.W.hasDictIn K C=true)
  (ha:PySem.W.findIn K (.ref C) name=some none) (hv:mA name=some v) (hv':PySem.W.handedIn v=true) (h:Q v {s with toks:=s.toks+1}):
  wpAny (model prog w) A (getAttr (.ref x) name expr) Q E s:=by
 obtain⟨od,J,hl⟩:=I.look
 exact PySem.W.get_value X J (zH4 hg).1 (PySem.W.findObj_own hh ha rfl (by rw[hl,hv])) hv' h
theorem fe {pl:Sem Bool}{Q:Value×List Value→Shared→Prop}(X:K.In s.heap)(I:nR s.heap x dx C mA)(hg:PySem.W.plainGet K C name=true)
  (hf:PySem.W.findIn K (.ref C) name=some (some (.ref f))) (ht:PySem.W.isFn K (.ref f)=true) (hv:mA name=none) (h:Q (.ref f,[.ref x]) s):
  wpAny (model prog w) A (getMethod (.ref x) name pl) Q E s:=by
 obtain⟨od,J,hl⟩:=I.look
 exact PySem.W.method_fn X J (zH4 hg).1 (zH4 hg).2 hf (zA3.mp ht) (by show (PySem.W.lookIn name od).map (·.isSome)=some false;rw[hl,hv];rfl) h
theorem ar {ns:List Str}{Q:Unit→Shared→Prop}(X:K.In s.heap)(I:nR s.heap x dx C mA)
  (hs:PySem.W.findIn K (.ref C) "__setattr__"=some (some (.builtin "object.__setattr__"))) (hp:PySem.W.plainOver K C=true) (ht:PySem.W.takerIn K C name=some none) (hh:PySem.W.hasDictIn K C=true)
  (hw:PySem.Within mA ns) (hsz:ns.length≤sizeLine)
  (h:∀h',nR h' x dx C (fun y=>if y=name then some v else mA y)→Heap.SameBut dx s.heap h'→Q () {s with heap:=h',toks:=s.toks+2}):
  wpAny (model prog w) A (setAttr (.ref x) name v) Q E s:=by
 obtain⟨od,J,hl⟩:=I.look
 refine PySem.W.set_plain X J hs (PySem.W.osa_open (s:={s with toks:=s.toks+1}) (r:=none) X J hp ht fun b=>?_)
 obtain⟨cd,hc,hd'⟩:=PySem.W.any_some hh
 have hx:s.heap.get? x=some ⟨.ref C,some dx,.plain,#[]⟩:=I.obj
 refine zt2 (zt6 (zt2 (zt2 (wpAny_loadPart hx (zt2 (PySem.W.Looks.here (s:={s with toks:=s.toks+1}) (PySem.W.looks_clsIn X hc) ?_))))))
 rw[hd']
 refine zt6 (a:=some dx) (zt2 (zt6 (zt2 ?_)))
 refine wpAny_nsSet1 (s:={s with toks:=s.toks+1}) I.ns fun h' hn2 hs2=>?_
 obtain⟨oD,esD,epD,hoD,hdD,hcD⟩:=hn2.count (PySem.Within.cons name v hw)
 refine zt2 (wpAny_lookBehind hoD (by rw[hdD];exact pastItsLine_dict (zx7 hcD (by rw[zv0];omega))) ?_)
 exact zt6 (h _ ⟨(hs2.2 _ (zw7 I.ne)).trans I.obj,hn2,I.ne⟩ hs2)
theorem gE {R:Result→Shared→Prop}{vs:List Value}{kw:List (Str×Value)}(X:K.In s.heap)(hm:PySem.W.makesIn K C=true)
  (hi:PySem.W.findIn K (.ref C) "__init__"=some (some (.ref f))) (hf:PySem.W.typeIn K (.ref f)=some (.type "function"))
  (h:codeAny (model prog w) (A.under (.builtin "type.__call__" ⟨.ref C::vs,kw⟩)) (.call (.ref f) ⟨.ref (s.heap.objs.size+1)::vs,kw⟩) (PySem.W.InitBack (s.heap.objs.size+1) R)
   {s with heap:=(s.heap.push PySem.W.emptyDict).push (PySem.W.instObj C s.heap.objs.size)}):
  codeAny (model prog w) A (.call (.ref C) ⟨vs,kw⟩) R s:=by
 obtain⟨hh,g,d,t,os⟩:=s
 exact PySem.W.make_core (PySem.W.makes_of X hm) (PySem.W.looks_findIn X hi) (fun self=>PySem.W.bind_fn X self hf) (.inl rfl) h
end
def xH (f:Str)(v:V):List (Str×V)→List (Str×V)
 |[]=>[(f,v)]
 |(g,x)::r=>if g=f then (g,v)::r else (g,x)::xH f v r
theorem zU (f g:Str)(v:V):∀fs:List (Str×V),(xH f v fs).lookup g=if g=f then some v else fs.lookup g
 |[]=>by
  show List.lookup g [(f,v)]=_
  by_cases h:g=f
  ·have hb:(g == f)=true:=zA3.mpr h
   simp only[List.lookup,hb,if_pos h]
  ·have hb:(g == f)=false:=zC1.mpr h
   simp only[List.lookup,hb,if_neg h]
 |(k,x)::r=>by
  have ih:=zU f g v r
  rw[show xH f v ((k,x)::r)=(if k=f then (k,v)::r else (k,x)::xH f v r) from rfl]
  by_cases hk:k=f
  ·rw[if_pos hk]
   by_cases h:g=k
   ·have hb:(g == k)=true:=zA3.mpr h
    simp only[List.lookup,hb,if_pos (h.trans hk)]
   ·have hb:(g == k)=false:=zC1.mpr h
    simp only[List.lookup,hb,if_neg (fun e:g=f=>h (e.trans hk.symm))]
  ·rw[if_neg hk]
   by_cases h:g=k
   ·have hb:(g == k)=true:=zA3.mpr h
    simp only[List.lookup,hb,if_neg (fun e:g=f=>hk (h.symm.trans e))]
   ·have hb:(g == k)=false:=zC1.mpr h
    simp only[List.lookup,hb]
    exact ih
theorem uP (f:Str)(v:V):∀fs:List (Str×V),f∈(xH f v fs).map (·.1)∧∀g,g∈fs.map (·.1)→g∈(xH f v fs).map (·.1)
 |[]=>⟨by simp[xH],fun g h=>by simp at h⟩
 |(k,x)::r=>by
  obtain⟨i1,i2⟩:=uP f v r
  rw[show xH f v ((k,x)::r)=(if k=f then (k,v)::r else (k,x)::xH f v r) from rfl]
  by_cases hk:k=f
  ·rw[if_pos hk]
   subst hk
   exact⟨by simp,fun g h=>by simpa using h⟩
  ·rw[if_neg hk]
   refine⟨?_,fun g h=>?_⟩
   ·rw[zy1]
    exact zu3 _ i1
   ·rw[zy1] at h ⊢
    rcases zu1.mp h with e|e
    ·exact zu1.mpr (.inl e)
    ·exact zu3 _ (i2 g e)
theorem tw (f:Str)(v:V):∀fs:List (Str×V),(xH f v fs).length≤fs.length+1
 |[]=>by simp[xH]
 |(k,x)::r=>by
  have ih:=tw f v r
  rw[show xH f v ((k,x)::r)=(if k=f then (k,v)::r else (k,x)::xH f v r) from rfl]
  by_cases hk:k=f
  ·rw[if_pos hk,zv0,zv0];omega
  ·rw[if_neg hk,zv0,zv0];omega
theorem vI.some_of {v:V}{o:Option Value}(r:vI (some v) o):∃u,o=some u∧RelV v u:=by
 cases o with
 |none=>exact (show False from r).elim
 |some u=>exact⟨u,rfl,r⟩
theorem vI.none_of {o:Option Value}(r:vI none o):o=none:=by
 cases o with
 |none=>rfl
 |some u=>exact (show False from r).elim
theorem rR {v:V}{u:Value}(r:RelV v u):PySem.W.handedIn u=true:=by
 cases v with
 |non=>cases (show u=Value.none from r);rfl
 |bl b=>cases (show u=Value.bool b from r);rfl
 |int i=>obtain⟨t,e⟩:=(show ∃t,u=Value.int i t from r);cases e;rfl
 |str x=>obtain⟨t,e⟩:=(show ∃t,u=Value.str x t from r);cases e;rfl
 |byt b=>obtain⟨t,e⟩:=(show ∃t,u=Value.bytes b t from r);cases e;rfl
 |flt b=>obtain⟨t,e⟩:=(show ∃t,u=Value.float b t from r);cases e;rfl
 |ref a=>cases (show u=Value.ref a from r);rfl
 |ty n=>cases (show u=Value.type n from r);rfl
section
variable {P:Program}{w:World}{H H':Hp}{h h':Heap}{a C dx:Addr}{fs fs':List (Str×V)}
theorem tL (hok:HOk P w H h)(e:H a=some (.ins C dx fs)):∃mA,nR h a dx C mA∧(∀f,vI (fs.lookup f) (mA f))∧PySem.Within mA (fs.map (·.1))∧fs.length≤1000∧H dx=some (.own a):=by
 obtain⟨d,z,ne,ob,mA,n,r,q⟩:=(show yf P w H h a (.ins C dx fs) from hok a _ e)
 exact⟨mA,⟨ob,n,ne⟩,r,q,z,d⟩
end
structure Cls (K:PySem.W.Frag)(C:Addr):Prop where
 pg:PySem.W.plainGet K C Str.empty=true
 hd:PySem.W.hasDictIn K C=true
 po:PySem.W.plainOver K C=true
 sa:PySem.W.findIn K (.ref C) "__setattr__"=some (some (.builtin "object.__setattr__"))
theorem Cls.get {K:PySem.W.Frag}{C:Addr}(c:Cls K C)(f:Str):PySem.W.plainGet K C f=true:=c.pg
def yH (K:PySem.W.Frag)(C:Addr)(f:Str):Prop:=PySem.W.findIn K (.ref C) f=some none
theorem yH.taker {K:PySem.W.Frag}{C:Addr}{f:Str}(n:yH K C f):PySem.W.takerIn K C f=some none:=by
 unfold PySem.W.takerIn
 rw[show PySem.W.findIn K (.ref C) f=some none from n]
 rfl
structure Meth (K:PySem.W.Frag)(C:Addr)(m:Str)(f:Addr):Prop where
 at_:PySem.W.findIn K (.ref C) m=some (some (.ref f))
 fn:PySem.W.isFn K (.ref f)=true
 kp:PySem.W.keepIn K (.ref f)=true
section
variable {X:Cx}{pins:List (Addr×Obj)}{σ:St}{H:Hp}{s:Shared}{a C dx:Addr}{fs:List (Str×V)}{f:Str}{v:V}{A:Around}{E:Value→Shared→Prop}
theorem lg {b:Bool}{Q:Value→Shared→Prop}(I:Inv X pins σ H s)(e:H a=some (.ins C dx fs))(c:Cls X.K C)(n:yH X.K C f)(l:fs.lookup f=some v)
  (h:∀u s',Inv X pins σ H s'→RelV v u→Q u s'):wpAny (model X.prog X.w) A (getAttr (.ref a) f b) Q E s:=by
 obtain⟨mA,O,r,_,_,_⟩:=tL I.hok e
 obtain⟨u,hu,ru⟩:=vI.some_of (v:=v) (o:=mA f) (by rw[←l];exact r f)
 exact get_map I.kIn O (c.get f) c.hd n hu (rR ru) (h u _ (I.tok _) ru)
theorem vP {m:Str}{g:Addr}{pl:Sem Bool}{Q:Value×List Value→Shared→Prop}(I:Inv X pins σ H s)(e:H a=some (.ins C dx fs))(c:Cls X.K C)(k:Meth X.K C m g)(l:fs.lookup m=none)
  (h:Q (.ref g,[.ref a]) s):wpAny (model X.prog X.w) A (getMethod (.ref a) m pl) Q E s:=by
 obtain⟨mA,O,r,_,_,_⟩:=tL I.hok e
 have hn:mA m=none:=vI.none_of (by rw[←l];exact r m)
 exact fe I.kIn O (c.get m) k.at_ k.fn hn h
theorem lC {y:V}{u:Value}{Q:Unit→Shared→Prop}(I:Inv X pins σ H s)(e:H a=some (.ins C dx fs))(c:Cls X.K C)(n:yH X.K C f)(hl:fs.length<1000)(ry:RelV y u)
  (h:∀s',Inv X pins σ (upd H a (.ins C dx (xH f y fs))) s'→Q () s'):wpAny (model X.prog X.w) A (setAttr (.ref a) f u) Q E s:=by
 obtain⟨mA,O,r,wi,_,ho⟩:=tL I.hok e
 have hz:(fs.map (·.1)).length≤sizeLine:=by rw[zt4,zx4];omega
 refine ar I.kIn O c.sa c.po n.taker c.hd wi hz fun h' O' sb=>h _ ?_
 have hd:∃o,h'.get? dx=some o:=let ⟨o,_,_,e',_⟩:=O'.ns;⟨o,e'⟩
 refine I.write (x:=a) (e:=dx) (by rw[e];exact True.intro) (.inr ho) (fun b q hb z=>(sb.2 b hb).trans z) hd ?_
 refine⟨by rw[zg O.ne];exact ho,?_,O.ne,O'.obj,_,O'.ns,fun g=>?_,fun g hg=>?_⟩
 ·have:=tw f y fs;omega
 ·show vI ((xH f y fs).lookup g) (if g=f then some u else mA g)
  rw[zU]
  by_cases q:g=f
  ·rw[if_pos q,if_pos q];exact ry
  ·rw[if_neg q,if_neg q];exact r g
 ·by_cases q:g=f
  ·rw[q];exact (uP f y fs).1
  ·refine (uP f y fs).2 g (wi g fun z=>hg ?_)
   show (if g=f then some u else mA g)=none
   rw[if_neg q];exact z
theorem Inv.made (I:Inv X pins σ H s):Inv X pins σ (upd (upd H s.heap.objs.size (.own (s.heap.objs.size+1))) (s.heap.objs.size+1) (.ins C s.heap.objs.size []))
  {s with heap:=(s.heap.push PySem.W.emptyDict).push (PySem.W.instObj C s.heap.objs.size)}:=by
 have e1:(s.heap.push PySem.W.emptyDict).get? s.heap.objs.size=some PySem.W.emptyDict:=zu7 s.heap rfl
 have e2:((s.heap.push PySem.W.emptyDict).push (PySem.W.instObj C s.heap.objs.size)).get? (s.heap.objs.size+1)=some (PySem.W.instObj C s.heap.objs.size):=by
  have:=zu7 (s.heap.push PySem.W.emptyDict) (o:=PySem.W.instObj C s.heap.objs.size) rfl
  rwa [zz7] at this
 have e3:(s.heap.push PySem.W.emptyDict).Ns s.heap.objs.size (fun _=>none):=⟨PySem.W.emptyDict,#[],_,e1,rfl,(fun e he=>absurd he (by simp)),fun _=>rfl⟩
 have I1:=I.laid (a:=s.heap.objs.size) (o:=.own (s.heap.objs.size+1)) (h':=s.heap.push PySem.W.emptyDict) (t':=s.toks) (fun b u q=>zt3 _ q) (zt9 _) ⟨_,e1⟩
 refine I1.laid (a:=s.heap.objs.size+1) (o:=.ins C s.heap.objs.size []) (t':=s.toks) (fun b u q=>zt3 _ q) (zG9 (zz7 _ _)) ?_
 have ne:s.heap.objs.size≠s.heap.objs.size+1:=zv4 (zD3 _)
 refine⟨by rw[zg ne,zh],zv3 _,ne,e2,fun _=>none,(Heap.Ns1.of_empty e3).at fun o q=>zt3 _ q,fun _=>True.intro,fun y hy=>absurd rfl hy⟩
theorem jf {prog:Program}{w:World}{env:Env}{e:Expr}{f:Str}{pos:Pos}{s:Shared}{Q:Value→Shared→Prop}(hb:attributeBase e f env (eval e env)=eval e env)
  (h:wpAny (model prog w) A (eval e env) (fun o s₁=>wpAny (model prog w) A (getAttr o f true) Q E s₁) E s):wpAny (model prog w) A (eval (.Attribute e f pos) env) Q E s:=
 Attribute_any_ h (by rw[arm_eval_Attribute,hb])
end
def zt0 (K:PySem.W.Frag)(ta:TE)(f:Str):TE:=fun σ H Q=>ta σ H fun x H1=>∃a C dx fs v,x=.ref a∧H1 a=some (.ins C dx fs)∧Cls K C∧yH K C f∧fs.lookup f=some v∧Q v H1
def zs4 (K:PySem.W.Frag)(ta tv:TE)(f:Str):TS:=fun D σ H=>tv σ H fun y H1=>ta σ H1 fun x H2=>∃a C dx fs,x=.ref a∧H2 a=some (.ins C dx fs)∧Cls K C∧yH K C f∧fs.length<1000∧
 D.nx σ (upd H2 a (.ins C dx (xH f y fs)))
section
variable {X:Cx}{o e value:Expr}{f:Str}{pos pos' tpos:Pos}{ta tv:TE}
theorem uN (he:PE X e ta)(hb:attributeBase e f X.env (eval e X.env)=eval e X.env):PE X (.Attribute e f pos) (zt0 X.K ta f):=by
 intro pins s σ H Q I h
 refine jf hb (thn (he pins s σ H _ I h) fun u s1 ⟨x,H1,I1,rx,a,C,dx,fs,v,ex,ea,c,n,l,q⟩=>?_)
 subst ex
 obtain rfl:u=Value.ref a:=rx
 exact lg I1 ea c n l fun u' s2 I2 ru=>⟨v,H1,I2,ru,q⟩
theorem pf (ha:PE X o ta)(hv:PE X value tv)(hs:swapsWith value (some (.Attribute o f pos')) pos.line X.env=pure false):PS X (.Assign [.Attribute o f pos'] value pos) (zs4 X.K ta tv f):=by
 intro pins s σ H D I h
 refine plainObj_wpAny_Assign_Attribute (thn (hv pins s σ H _ I h) fun u s1 ⟨y,H1,I1,ry,q⟩=>thn (ha pins s1 σ H1 _ I1 q) fun ov s2 ⟨x,H2,I2,rx,a,C,dx,fs,ex,ea,c,n,l,q2⟩=>?_) hs
 subst ex
 obtain rfl:ov=Value.ref a:=rx
 exact lC I2 ea c n l ry fun s3 I3=>⟨σ,_,I3,q2⟩
theorem aQ {pl:Sem Bool}{m:Str}{apos:Pos}{args:List Expr}{pins:List (Addr×Obj)}{s:Shared}{σ:St}{H:Hp}{Q:Value→Shared→Prop}{te:TE}(he:PE X e te)(I:Inv X pins σ H s)
  (h:te σ H fun x H1=>∃a C dx fs g,x=.ref a∧H1 a=some (.ins C dx fs)∧Cls X.K C∧Meth X.K C m g∧fs.lookup m=none∧
   ∀s1,Inv X pins σ H1 s1→wpAny (model X.prog X.w) X.A (callWith pos (.ref g) [.ref a] (backTo pos (starEach args X.env)) (backToKw pos (keywordEach [] X.env))) Q X.xe s1)
  (ht:eval (.Call (.Attribute e m apos) args [] pos) X.env=(do
   let ov ←eval e X.env
   standAt apos.atName
   let (f,first) ←holding [ov] (getMethod ov m pl)
   callWith pos f first (backTo pos (starEach args X.env)) (backToKw pos (keywordEach [] X.env)))):
  wpAny (model X.prog X.w) X.A (eval (.Call (.Attribute e m apos) args [] pos) X.env) Q X.xe s:=by
 refine zC9 (pl:=pl) (thn (he pins s σ H _ I h) fun u s1 ⟨x,H1,I1,rx,a,C,dx,fs,g,ex,ea,c,k,l,q⟩=>?_) ht
 subst ex
 obtain rfl:u=Value.ref a:=rx
 exact vP I1 ea c k l (q s1 I1)
end
section
variable {X:Cx}{pins:List (Addr×Obj)}{σ:St}{H:Hp}{s:Shared}{A:Around}{E:Value→Shared→Prop}{Q:Value→Shared→Prop}{c:Value}{b:Bool}
inductive uv (K:PySem.W.Frag)(H:Hp):V→Value→Prop where
 |non:uv K H .non (.type "NoneType")
 |bl (x:Bool):uv K H (.bl x) (.type "bool")
 |int (i:Int):uv K H (.int i) (.type "int")
 |str (x:Str):uv K H (.str x) (.type "str")
 |flt (x:UInt64):uv K H (.flt x) (.type "float")
 |lst {a:Addr} {xs:List V} (e:H a=some (.lst xs)):uv K H (.ref a) (.type "list")
 |frz {a:Addr} {o:Obj} {xs:List V} (e:H a=some (.frz o (.lst xs))):uv K H (.ref a) (.type "list")
 |tup {a:Addr} {xs:List V} (e:H a=some (.tup xs)):uv K H (.ref a) (.type "tuple")
 |dK {a:Addr} {kvs:List (Key×V)} (e:H a=some (.dK kvs)):uv K H (.ref a) (.type "dict")
 |dT {a:Addr} {kvs:List (List Key×V)} (e:H a=some (.dT kvs)):uv K H (.ref a) (.type "dict")
 |ins {a C dx:Addr} {fs:List (Str×V)} (e:H a=some (.ins C dx fs)) (cl:Cls K C) (ha:PySem.W.findIn K (.ref C) "__class__"=some (some (.builtin "object.__class__")))
   (hn:PySem.W.specialIn K (.builtin "object.__class__") "__get__"=some (some (.builtin "getset_descriptor.__get__"))) (htk:PySem.W.takesIn K (.builtin "object.__class__")=some true)
   (hm:PySem.W.mroIn K C (.type "object")=some true):uv K H (.ref a) (.ref C)
theorem jI {x:V}{u t:Value}(I:Inv X pins σ H s)(rx:RelV x u)(ty:uv X.K H x t)(e:PySem.W.kitOne X.K t c=some b)(h:∀tk,Q (.bool b) {s with toks:=tk}):
  wpAny (model X.prog X.w) A (call (.builtin "isinstance") [u,c]) Q E s:=by
 cases ty with
 |non=>cases (show u=Value.none from rx);exact zx8 PySem.W.kitx_none I.kIn True.intro e (fun z=>nomatch z) h
 |bl y=>cases (show u=Value.bool y from rx);exact zx8 PySem.W.kitx_bool I.kIn True.intro e (fun z=>nomatch z) h
 |int i=>obtain⟨t,q⟩:=(show ∃t,u=Value.int i t from rx);cases q;exact zx8 PySem.W.kitx_int I.kIn True.intro e (fun z=>nomatch z) h
 |str y=>obtain⟨t,q⟩:=(show ∃t,u=Value.str y t from rx);cases q;exact zx8 PySem.W.kitx_str I.kIn True.intro e (fun z=>nomatch z) h
 |flt y=>obtain⟨t,q⟩:=(show ∃t,u=Value.float y t from rx);cases q;exact zx8 PySem.W.kitx_float I.kIn True.intro e (fun z=>nomatch z) h
 |@lst a xs ea=>
  cases (show u=Value.ref a from rx)
  obtain⟨_,_,n,_,h1⟩:=(show yf X.prog X.w H s.heap a (.lst xs) from I.hok a _ ea)
  exact zx8 PySem.W.kitx_list I.kIn ⟨_,h1,rfl⟩ e (fun z=>nomatch z) h
 |@frz a ob xs ea=>
  cases (show u=Value.ref a from rx)
  obtain⟨_,_,_,n,_,h1⟩:=(show yf X.prog X.w H s.heap a (.frz ob (.lst xs)) from I.hok a _ ea)
  exact zx8 PySem.W.kitx_list I.kIn ⟨_,h1,rfl⟩ e (fun z=>nomatch z) h
 |@tup a xs ea=>
  cases (show u=Value.ref a from rx)
  obtain⟨_,_,_,p⟩:=(show yf X.prog X.w H s.heap a (.tup xs) from I.hok a _ ea)
  obtain⟨o,h1,h2,_⟩:=p
  exact zx8 PySem.W.kitx_tuple I.kIn ⟨o,h1,h2⟩ e (fun z=>nomatch z) h
 |@dK a kvs ea=>
  cases (show u=Value.ref a from rx)
  obtain⟨_,_,vs,_,p⟩:=(show yf X.prog X.w H s.heap a (.dK kvs) from I.hok a _ ea)
  obtain⟨o,es,ep,h1,h2,_⟩:=p
  exact zx8 PySem.W.kitx_dict I.kIn ⟨o,h1,h2.1⟩ e (fun z=>nomatch z) h
 |@dT a kvs ea=>
  cases (show u=Value.ref a from rx)
  obtain⟨_,_,xs,_,o,es,ep,h1,h2,_⟩:=(show yf X.prog X.w H s.heap a (.dT kvs) from I.hok a _ ea)
  exact zx8 PySem.W.kitx_dict I.kIn ⟨o,h1,h2.1⟩ e (fun z=>nomatch z) h
 |@ins a C dx fs ea cl ha hn htk hm=>
  cases (show u=Value.ref a from rx)
  obtain⟨mA,O,_⟩:=tL I.hok ea
  obtain⟨od,J,_⟩:=O.look
  exact zx8 (PySem.W.kitx_own (cl.get _) cl.hd ha hn htk hm) I.kIn J e (fun z=>nomatch z) h
end
structure zK (k:Nat)(A:Around):Prop where
 hd:A.handled=none
 dp:A.depth+3*k+5<recursionLimit
 un:A.units+16*k+200<cLine
 gd:A.guards=some []
theorem zK.mono {j k:Nat}{A:Around}(r:zK k A)(h:j≤k):zK j A:=⟨r.hd,by have:=r.dp;omega,by have:=r.un;omega,r.gd⟩
theorem zK.deeper {k:Nat}{A:Around}(r:zK (k+1) A)(env:Env):zK k (A.deeper env):=
 ⟨r.hd,by have:=r.dp;show A.depth+1+3*k+5<_;omega,by have:=r.un;show A.units+3+16*k+200<_;omega,r.gd⟩
theorem zK.in1 {k:Nat}{A:Around}(r:zK (k+1) A):zK k A.in1:=
 ⟨r.hd,by have:=r.dp;show A.depth+3*k+5<_;omega,by have:=r.un;show A.units+1+16*k+200<_;omega,r.gd⟩
theorem lF {A:Around}{C:Addr}{us:List Value}{kw:List (Str×Value)}:(A.under (.builtin "type.__call__" ⟨.ref C::us,kw⟩)).depth=A.depth+1:=by
 first|rfl|simp[Around.under,Code.weight,Code.isCreation,Code.isGuard,Code.isCaller,Code.frames,Code.isFrame,guardIds]
theorem ly {A:Around}{C:Addr}{us:List Value}{kw:List (Str×Value)}:(A.under (.builtin "type.__call__" ⟨.ref C::us,kw⟩)).units=A.units+1:=by
 first|rfl|simp[Around.under,Code.cUnits,Code.frames,Code.isFrame]
theorem oY {A:Around}{C:Addr}{us:List Value}{kw:List (Str×Value)}:(A.under (.builtin "type.__call__" ⟨.ref C::us,kw⟩)).guards=A.guards:=by
 first|rfl|simp[Around.under,Code.guards,Code.isGuard,guardIds,pushGuards]
theorem zK.make {k:Nat}{A:Around}(r:zK (k+1) A)(C:Addr)(us:List Value)(kw:List (Str×Value)):zK k (A.under (.builtin "type.__call__" ⟨.ref C::us,kw⟩)):=
 ⟨r.hd,by have:=r.dp;rw[lF];omega,by have:=r.un;rw[ly];omega,(oY (A:=A)).trans r.gd⟩
theorem zK.depth {k:Nat}{A:Around}(r:zK k A):A.depth<recursionLimit:=by have:=r.dp;omega
theorem zK.units {k:Nat}{A:Around}(r:zK k A):A.units+64<cLine:=by have:=r.un;omega
def zo4 :TA:=fun _ H Q=>Q [] H
def zm8 (ta:TE)(tr:TA):TA:=fun σ H Q=>ta σ H fun x H1=>tr σ H1 fun xs H2=>Q (x::xs) H2
section
variable {X:Cx}{e:Expr}{es:List Expr}{te:TE}{t:TA}{pos:Pos}
theorem zr :PA X [] zo4:=fun _ _ _ _ H Q I h=>Calls.spliced_nil ⟨[],H,I,.nil,h⟩
theorem zd (ha:PE X e te)(hr:PA X es t)(hs:starEach (e::es) X.env=(false,eval e X.env)::starEach es X.env:=by rfl):PA X (e::es) (zm8 te t):=by
 intro pos pins s σ H Q I h
 rw[hs]
 show wpAny _ _ (spliced ((false,eval e X.env)::backTo pos (starEach es X.env))) _ _ s
 refine Calls.spliced_cons (thn (ha pins s σ H _ I h) fun u s1 ⟨x,H1,I1,r1,q1⟩=>?_)
 exact thn (hr pos pins s1 σ H1 _ I1 q1) fun us s2 ⟨xs,H2,I2,r2,q2⟩=>⟨x::xs,H2,I2,.cons r1 r2,q2⟩
def zq5 (t:TA):TE:=fun σ H Q=>t σ H fun xs H1=>xs.length≤sizeLine∧∀p,H1 p=none→Q (.ref p) (upd H1 p (.tup xs))
def zq4 (t:TA):TE:=fun σ H Q=>t σ H fun xs H1=>xs.length≤sizeLine∧∀p,H1 p=none→Q (.ref p) (upd H1 p (.lst xs))
theorem pd {x1}(h:PA X es t):PE X (.Tuple es x1 pos) (zq5 t):=by
 intro pins s σ H Q I hq
 refine wpAny_Tuple_spliced (thn (h pos pins s σ H _ I hq) fun us s1 ⟨xs,H1,I1,r,z,q⟩=>⟨by rw[←r.length];exact z,?_⟩)
 have hf:H1 s1.heap.objs.size=none:=I1.hok.fresh (zt9 _)
 refine⟨.ref s1.heap.objs.size,upd H1 s1.heap.objs.size (.tup xs),I1.laid (t':=s1.toks) (fun b u e=>zt3 _ e) (zt9 _) ?_,rfl,q _ hf⟩
 exact⟨z,us,r,⟨_,zu7 _ rfl,rfl,_,rfl⟩⟩
theorem dO (h:PA X es t):PE X (.List es pos) (zq4 t):=by
 intro pins s σ H Q I hq
 refine wpAny_List_spliced (thn (h pos pins s σ H _ I hq) fun us s1 ⟨xs,H1,I1,r,z,q⟩=>⟨by rw[←r.length];exact z,?_⟩)
 have hf:H1 s1.heap.objs.size=none:=I1.hok.fresh (zt9 _)
 refine⟨.ref s1.heap.objs.size,upd H1 s1.heap.objs.size (.lst xs),I1.laid (t':=s1.toks) (fun b u e=>zt3 _ e) (zt9 _) ?_,rfl,q _ hf⟩
 exact⟨z,us,0,r,zu7 _ rfl⟩
end
abbrev Sp :=List V→Hp→VK→XK→Prop
abbrev CXT :=List Env→Hp→Shared→XK→Value→Shared→Prop
structure uF (P:Program)(w:World)(K:PySem.W.Frag)(mg:Str→Option Value)(base:Heap)(A:Around)(outer:List Env)(s:Shared)(H:Hp):Prop where
 frames:A.frames=some outer
 mod:Mod K mg base
 bs:∀b o,base.get? b=some o→s.heap.get? b=some o∧H b=none
 bsz:base.objs.size≤s.heap.objs.size
 funs:s.heap.FunFrames base outer
 frf:∀b∈frs outer,H b=none
 hok:HOk P w H s.heap
 bare:AllBare s.gens
def CE (outer:List Env)(P:Program)(w:World)(H:Hp)(s:Shared)(Q:VK)(u:Value)(s':Shared):Prop:=
 ∃v H',s'.os=s.os∧AllBare s'.gens∧Un (frs outer) [] H H' s.heap s'.heap∧HOk P w H' s'.heap∧RelV v u∧Q v H'
def CR (CX:CXT)(outer:List Env)(P:Program)(w:World)(H:Hp)(s:Shared)(Q:VK)(E:XK)(r:Result)(s':Shared):Prop:=
 match r with
 |.ok (.ret u)=>CE outer P w H s Q u s'
 |.ok _=>False
 |.error e=>CX outer H s E e s'
structure zA (P:Program)(w:World)(K:PySem.W.Frag)(mg:Str→Option Value)(base:Heap)(CX:CXT)(k:Nat)(f:Addr)(fd:FuncData)(ps:List Str)(sp:Sp):Prop where
 len:∀vs H Q E,sp vs H Q E→vs.length=ps.length
 run:∀(A:Around) (outer:List Env) (s:Shared) (H:Hp) (args:Args) (us:List Value) (vs:List V) (Q:VK) (E:XK),zK k A→uF P w K mg base A outer s H→BindsTo s fd args (ps.zip us)→Vals vs us→sp vs H Q E→
  codeAny (model P w) A (.call (.ref f) args) (CR CX outer P w H s Q E) s
theorem zA.imp {P:Program}{w:World}{K:PySem.W.Frag}{mg:Str→Option Value}{base:Heap}{CX:CXT}{k:Nat}{f:Addr}{fd:FuncData}{ps:List Str}{sp sp':Sp}(F:zA P w K mg base CX k f fd ps sp)
  (h:∀vs H Q E,sp' vs H Q E→sp vs H Q E):zA P w K mg base CX k f fd ps sp':=
 ⟨fun vs H Q E q=>F.len vs H Q E (h _ _ _ _ q),fun A outer s H args us vs Q E hr he hb hv hs=>F.run A outer s H args us vs Q E hr he hb hv (h _ _ _ _ hs)⟩
theorem uF.make {P:Program}{w:World}{K:PySem.W.Frag}{mg:Str→Option Value}{base:Heap}{A:Around}{outer:List Env}{s:Shared}{H:Hp}(e:uF P w K mg base A outer s H)(C:Addr)(us:List Value)(kw:List (Str×Value)):
  uF P w K mg base (A.under (.builtin "type.__call__" ⟨.ref C::us,kw⟩)) outer s H:=⟨by first|exact e.frames|(simpa[Around.under,Code.envs,Code.isFrame,pushEnvs] using e.frames),e.mod,e.bs,e.bsz,e.funs,e.frf,e.hok,e.bare⟩
theorem uF.in1 {P:Program}{w:World}{K:PySem.W.Frag}{mg:Str→Option Value}{base:Heap}{A:Around}{outer:List Env}{s:Shared}{H:Hp}(e:uF P w K mg base A outer s H):
  uF P w K mg base A.in1 outer s H:=⟨e.frames,e.mod,e.bs,e.bsz,e.funs,e.frf,e.hok,e.bare⟩
section
variable {X:Cx}{pins:List (Addr×Obj)}{σ:St}{H:Hp}{s s':Shared}
theorem Inv.env0 (I:Inv X pins σ H s):uF X.prog X.w X.K X.mg X.base X.A X.stack s H:=
 ⟨I.ok.frames,I.ok.mod,I.bs,zx7 I.ok.bsz I.sz,I.stack,I.stkFree,I.hok,I.bare⟩
theorem Inv.after {Q:VK}{u:Value}(I:Inv X pins σ H s)(h:CE X.stack X.prog X.w H s Q u s'):EP X pins σ Q u s':=by
 obtain⟨v,H',os,bare,un,hok,r,q⟩:=h
 obtain⟨hh,g,d,t,os'⟩:=s'
 obtain rfl:os'=s.os:=os
 exact⟨v,H',I.call (h':=hh) (g':=g) (d':=d) (t':=t) (ch:=[]) un hok bare (fun b z=>absurd z (by simp)),r,q⟩
end
def zk6 (sp:Sp)(dvs:List V)(E:XK)(t:TA):TE:=fun σ H Q=>t σ H fun vs H1=>sp (vs++dvs) H1 Q E
def za2 (C:Addr)(m:Str)(sp:Sp)(dvs:List V)(E:XK)(ta:TE)(t:TA):TE:=fun σ H Q=>ta σ H fun x H1=>∃a dx fs,x=.ref a∧H1 a=some (.ins C dx fs)∧fs.lookup m=none∧
 t σ H1 fun vs H2=>sp (x::(vs++dvs)) H2 Q E
def zl2 (C:Addr)(sp:Sp)(dvs:List V)(E:XK)(t:TA):TE:=fun σ H Q=>t σ H fun vs H1=>∀x dx,H1 x=none→H1 dx=none→dx≠x→
 sp (.ref x::(vs++dvs)) (upd (upd H1 dx (.own x)) x (.ins C dx [])) (fun v H2=>v=.non∧Q (.ref x) H2) E
def Binds (K:PySem.W.Frag)(fd:FuncData)(ps:List Str)(ds:List Value):Prop:=
 ∀(s:Shared) (us:List Value),K.In s.heap→(us++ds).length=ps.length→BindsTo s fd ⟨us,[]⟩ (ps.zip (us++ds))
theorem Binds.all {K:PySem.W.Frag}{fd:FuncData}{ps:List Str}(h:∀us:List Value,us.length=ps.length→bindArgs fd ⟨us,[]⟩=pure (ps.zip us)):Binds K fd ps []:=fun s us _ hl=>by
 rw[zx9] at hl ⊢
 exact .of_eq (h us hl)
def Passes (CX:CXT)(X:Cx)(E:XK):Prop:=∀(pins:List (Addr×Obj)) (σ:St) (H:Hp) (s:Shared) (e:Value) (s':Shared),Inv X pins σ H s→CX X.stack H s E e s'→X.xe e s'
section
variable {X:Cx}{CX:CXT}{k:Nat}{f C:Addr}{fd:FuncData}{ps:List Str}{sp:Sp}{dvs:List V}{ds:List Value}{E:XK}{x m:Str}{p pos apos:Pos}{e o:Expr}{es:List Expr}{ta:TE}{t:TA}
theorem mC {pins:List (Addr×Obj)}{σ:St}{H:Hp}{s:Shared}{Q:VK}{us:List Value}{vs:List V}(F:zA X.prog X.w X.K X.mg X.base CX k f fd ps sp)(hr:zK k X.A)(hb:Binds X.K fd ps ds)(hd:Vals dvs ds)(hx:Passes CX X E)
  (I:Inv X pins σ H s) (r:Vals vs us) (h:sp (vs++dvs) H Q E):wpAny (model X.prog X.w) X.A (call (.ref f) us) (EP X pins σ Q) X.xe s:=by
 have r2:Vals (vs++dvs) (us++ds):=r.append hd
 have hl:(us++ds).length=ps.length:=by rw[←r2.length];exact F.len _ _ _ _ h
 refine zC4 (zD0 (F.run X.A X.stack s H ⟨us,[]⟩ (us++ds) (vs++dvs) Q E hr I.env0 (hb s us I.kIn hl) r2 h) fun r s' hq=>?_)
 cases r with
 |error e=>exact hx pins σ H s e s' I hq
 |ok fl=>
  cases fl with
  |ret u=>exact I.after hq
  |next=>exact False.elim hq
  |brk=>exact False.elim hq
  |cont=>exact False.elim hq
theorem zT (F:zA X.prog X.w X.K X.mg X.base CX k f fd ps sp)(hr:zK k X.A)(hg:Gl X x)(hm:X.mg x=some (.ref f))(hk:PySem.W.keepIn X.K (.ref f)=true)(hb:Binds X.K fd ps ds)(hd:Vals dvs ds)(hx:Passes CX X E)
  (ha:PA X (e::es) t) (hdb:(x == ("__debug__":Str))=false:=by decide) (he:starEach (e::es) X.env=(false,eval e X.env)::starEach es X.env:=by rfl) (hpl:(backTo pos (starEach es X.env)).any (·.1)=false:=by rfl):
  PE X (.Call (.Name x p) (e::es) [] pos) (zk6 sp dvs E t):=by
 intro pins s σ H Q I h
 refine zz8 (xM I hg hm ?_ hdb)
 refine zC5 (h₀:=X.base) I.ok.mod.kin hk (thn (ha pos pins s σ H _ I h) fun us s1 ⟨vs,H1,I1,r,q⟩=>⟨I1.kIn,?_⟩) he hpl
 exact mC F hr hb hd hx I1 r q
theorem bH {pl:Sem Bool}(he:PE X o ta)(c:Cls X.K C)(hm:Meth X.K C m f)(F:zA X.prog X.w X.K X.mg X.base CX k f fd ps sp)(hr:zK k X.A)(hb:Binds X.K fd ps ds)(hd:Vals dvs ds)(hx:Passes CX X E)(ha:PA X (e::es) t)
  (hst:starEach (e::es) X.env=(false,eval e X.env)::starEach es X.env:=by rfl) (hpl:(backTo pos (starEach es X.env)).any (·.1)=false:=by rfl)
  (ht:eval (.Call (.Attribute o m apos) (e::es) [] pos) X.env=(do
   let ov ←eval o X.env
   standAt apos.atName
   let (f,first) ←holding [ov] (getMethod ov m pl)
   callWith pos f first (backTo pos (starEach (e::es) X.env)) (backToKw pos (keywordEach [] X.env))):=by rfl):
  PE X (.Call (.Attribute o m apos) (e::es) [] pos) (za2 C m sp dvs E ta t):=by
 intro pins s σ H Q I h
 refine zC9 (pl:=pl) (thn (he pins s σ H _ I h) fun u s1 ⟨x,H1,I1,rx,a,dx,fs,ex,ea,l,q⟩=>?_) ht
 subst ex
 obtain rfl:u=Value.ref a:=rx
 refine vP I1 ea c hm l ?_
 refine zC5 (first:=[.ref a]) (h₀:=X.base) I.ok.mod.kin hm.kp (thn (ha pos pins s1 σ H1 _ I1 q) fun us s2 ⟨vs,H2,I2,r,q2⟩=>⟨I2.kIn,?_⟩) hst hpl
 exact mC (us:=.ref a::us) (vs:=.ref a::vs) F hr hb hd hx I2 (.cons rfl r) q2
theorem oi {pl:Sem Bool}(he:PE X o ta)(c:Cls X.K C)(hm:Meth X.K C m f)(F:zA X.prog X.w X.K X.mg X.base CX k f fd ps sp)(hr:zK k X.A)(hb:Binds X.K fd ps ds)(hd:Vals dvs ds)(hx:Passes CX X E)
  (ht:eval (.Call (.Attribute o m apos) [] [] pos) X.env=(do
   let ov ←eval o X.env
   standAt apos.atName
   let (f,first) ←holding [ov] (getMethod ov m pl)
   callWith pos f first (backTo pos (starEach [] X.env)) (backToKw pos (keywordEach [] X.env))):=by rfl):
  PE X (.Call (.Attribute o m apos) [] [] pos) (za2 C m sp dvs E ta zo4):=by
 intro pins s σ H Q I h
 refine zC9 (pl:=pl) (thn (he pins s σ H _ I h) fun u s1 ⟨x,H1,I1,rx,a,dx,fs,ex,ea,l,q⟩=>?_) ht
 subst ex
 obtain rfl:u=Value.ref a:=rx
 refine vP I1 ea c hm l ?_
 exact PySem.W.callWith_K0 (first:=[.ref a]) I1.kIn hm.kp (mC (us:=[.ref a]) (vs:=[.ref a]) F hr hb hd hx I1 (.cons rfl .nil) q)
structure Mk (K:PySem.W.Frag)(C f:Addr):Prop where
 makes:PySem.W.makesIn K C=true
 init:PySem.W.findIn K (.ref C) "__init__"=some (some (.ref f))
 fn:PySem.W.isFn K (.ref f)=true
 kp:PySem.W.keepIn K (.ref C)=true
theorem gC {pins:List (Addr×Obj)}{σ:St}{H:Hp}{s:Shared}{Q:VK}{us:List Value}{vs:List V}(M:Mk X.K C f)(F:zA X.prog X.w X.K X.mg X.base CX k f fd ps sp)(hr:zK (k+1) X.A)(hb:Binds X.K fd ps ds)(hd:Vals dvs ds)
  (hx:Passes CX X E) (I:Inv X pins σ H s) (r:Vals vs us)
  (h:∀x dx,H x=none→H dx=none→dx≠x→sp (.ref x::(vs++dvs)) (upd (upd H dx (.own x)) x (.ins C dx [])) (fun v H2=>v=.non∧Q (.ref x) H2) E):
  wpAny (model X.prog X.w) X.A (call (.ref C) us) (EP X pins σ Q) X.xe s:=by
 have hq:=h (s.heap.objs.size+1) s.heap.objs.size (I.hok.fresh (zB7 _)) (I.hok.fresh (zt9 _)) (zv4 (zD3 _))
 have I2:=Inv.made (C:=C) I
 have r2:Vals (V.ref (s.heap.objs.size+1)::(vs++dvs)) (Value.ref (s.heap.objs.size+1)::(us++ds)):=.cons rfl (r.append hd)
 have hl:(Value.ref (s.heap.objs.size+1)::us++ds).length=ps.length:=by
  have e:=r2.length
  rw[F.len _ _ _ _ hq] at e
  exact e.symm
 refine zC4 (gE (f:=f) I.kIn M.makes M.init (zA3.mp M.fn) (zD0 (F.run _ X.stack _ _ ⟨Value.ref (s.heap.objs.size+1)::us,[]⟩ (Value.ref (s.heap.objs.size+1)::(us++ds)) _ _ E (hr.make C us [])
  (I2.env0.make C us []) (hb _ (Value.ref (s.heap.objs.size+1)::us) I2.kIn hl) r2 hq) fun r s' hq'=>?_))
 cases r with
 |error e=>exact hx pins σ _ _ e s' I2 hq'
 |ok fl=>
  cases fl with
  |ret u=>
   obtain⟨v,H',I3,rv,ev,q3⟩:=I2.after hq'
   subst ev
   exact⟨rv,⟨V.ref (s.heap.objs.size+1),H',I3,rfl,q3⟩⟩
  |next=>exact False.elim hq'
  |brk=>exact False.elim hq'
  |cont=>exact False.elim hq'
theorem xO (M:Mk X.K C f)(F:zA X.prog X.w X.K X.mg X.base CX k f fd ps sp)(hr:zK (k+1) X.A)(hg:Gl X x)(hm:X.mg x=some (.ref C))(hb:Binds X.K fd ps ds)(hd:Vals dvs ds)(hx:Passes CX X E)
  (ha:PA X (e::es) t) (hdb:(x == ("__debug__":Str))=false:=by decide) (he:starEach (e::es) X.env=(false,eval e X.env)::starEach es X.env:=by rfl) (hpl:(backTo pos (starEach es X.env)).any (·.1)=false:=by rfl):
  PE X (.Call (.Name x p) (e::es) [] pos) (zl2 C sp dvs E t):=by
 intro pins s σ H Q I h
 refine zz8 (xM I hg hm ?_ hdb)
 refine zC5 (h₀:=X.base) I.ok.mod.kin M.kp (thn (ha pos pins s σ H _ I h) fun us s1 ⟨vs,H1,I1,r,q⟩=>⟨I1.kIn,?_⟩) he hpl
 exact gC M F hr hb hd hx I1 r q
end
section
variable {X:Cx}{CX:CXT}{k:Nat}{f C:Addr}{fd:FuncData}{ps ks:List Str}{sp:Sp}{E:XK}{x m:Str}{p pos apos kpos:Pos}{e o:Expr}{es:List Expr}{kws:List Keyword}{te ta:TE}{t tk:TA}{nm:Option Str}
variable {g:List Value→List Value→List Value}{gV:List V→List V→List V}
end
structure zl (N P:List Str)(sc:Scope):Prop where
 kind:sc.kind=.function
 co:sc.isCoroutine=false
 gen:sc.isGenerator=false
 nd:N.Nodup
 pre:N.take P.length=P
 par:∀x∈P,sc.names.lookup x=some .local∨sc.names.lookup x=some .cell
 nofree:∀y∈sc.names,y.2≠.free
theorem rY {kindOf:Str→Option NameKind}{x:Str}:∀{binds:List (Str×Value)} {m:Str→Option Value},(∀v,(x,v)∉binds)→bindL kindOf binds m x=m x
 |[],_,_=>rfl
 |(n,v)::r,m,h=>by
  unfold bindL
  rw[rY fun w hw=>h w (zu3 _ hw)]
  split
  ·have:x≠n:=by rintro rfl;exact h v zv5
   simp[this]
  ·rfl
theorem qg {kindOf:Str→Option NameKind}{x:Str}:∀{binds:List (Str×Value)} {m:Str→Option Value},(∀v,(x,v)∉binds)→bindC kindOf binds m x=m x
 |[],_,_=>rfl
 |(n,v)::r,m,h=>by
  unfold bindC
  rw[qg fun w hw=>h w (zu3 _ hw)]
  split
  ·rfl
  ·have:x≠n:=by rintro rfl;exact h v zv5
   simp[this]
theorem qj {kindOf:Str→Option NameKind}{x:Str}{v:Value}:∀{P:List Str} {vs:List Value} {i:Nat} {m:Str→Option Value},P.Nodup→P[i]?=some x→vs[i]?=some v→kindOf x=some .local→
  bindL kindOf (P.zip vs) m x=some v
 |[],_,_,_,_,h,_,_=>by simp at h
 |_::_,[],_,_,_,_,h,_=>by simp at h
 |p::P,w::vs,0,m,nd,h1,h2,hk=>by
  simp at h1 h2;subst h1;subst h2
  show bindL kindOf ((p,w)::P.zip vs) m p=_
  unfold bindL
  rw[rY fun v hv=>(zH0.mp nd).1 (List.of_mem_zip hv).1,if_pos hk]
  simp
 |p::P,w::vs,i+1,m,nd,h1,h2,hk=>by
  show bindL kindOf ((p,w)::P.zip vs) m x=_
  unfold bindL
  exact qj (i:=i) (zH0.mp nd).2 (by simpa using h1) (by simpa using h2) hk
theorem qo {kindOf:Str→Option NameKind}{x:Str}{v:Value}:∀{P:List Str} {vs:List Value} {i:Nat} {m:Str→Option Value},P.Nodup→P[i]?=some x→vs[i]?=some v→kindOf x≠some .local→
  bindC kindOf (P.zip vs) m x=some v
 |[],_,_,_,_,h,_,_=>by simp at h
 |_::_,[],_,_,_,_,h,_=>by simp at h
 |p::P,w::vs,0,m,nd,h1,h2,hk=>by
  simp at h1 h2;subst h1;subst h2
  show bindC kindOf ((p,w)::P.zip vs) m p=_
  unfold bindC
  rw[qg fun v hv=>(zH0.mp nd).1 (List.of_mem_zip hv).1,if_neg hk]
  simp
 |p::P,w::vs,i+1,m,nd,h1,h2,hk=>by
  show bindC kindOf ((p,w)::P.zip vs) m x=_
  unfold bindC
  exact qo (i:=i) (zH0.mp nd).2 (by simpa using h1) (by simpa using h2) hk
def start (N:List Str)(vs:List V):St:=vs.map some++List.replicate (N.length-vs.length) none
def xy (CX:CXT)(P:Program)(w:World)(K:PySem.W.Frag)(mg:Str→Option Value)(base:Heap)(N:List Str)(qual:Str)(scope:Scope)(f:Addr)(cd:Value)(A:Around)(outer:List Env)(s:Shared)(H:Hp)(E:XK):Cx where
 prog:=P
 w:=w
 K:=K
 mg:=mg
 base:=base
 A:=A.deeper (envOfC qual scope s.heap.objs.size f cd)
 N:=N
 s₀:=s
 H₀:=H
 env:=envOfC qual scope s.heap.objs.size f cd
 outer:=outer
 stack:=envOfC qual scope s.heap.objs.size f cd::outer
 ex:=[]
 calm:=true
 fn:=fun _=>true
 pn:=[]
 xe:=fun e s'=>wpAny (model P w) (A.deeper (envOfC qual scope s.heap.objs.size f cd)) (leaving (envOfC qual scope s.heap.objs.size f cd) e) (fun _ s''=>CX outer H s E e s'') (fun e' s''=>CX outer H s E e' s'') s'
theorem nr {sc:Scope}{n:Nat}{x:Str}(h:sc.names.lookup x=some .cell):∃c,(cellsFrom n sc.names []).lookup x=some c:=by
 have q:=PySem.W.cellsFrom_some sc.names n [] (.inl h)
 exact Option.isSome_iff_exists.mp q
theorem iu {CX:CXT}{P:Program}{w:World}{K:PySem.W.Frag}{mg:Str→Option Value}{base:Heap}{N ps:List Str}{qual:Str}{scope:Scope}{f:Addr}{cd:Value}{A:Around}{outer:List Env}{s s1:Shared}{H:Hp}{E:XK}{us:List Value}{vs:List V}
  (S:zl N ps scope) (hd:A.handled=none) (e0:uF P w K mg base A outer s H) (hl:vs.length=ps.length) (r:Vals vs us)
  (x:InCallC s s.heap.objs.size (bindL (envOfC qual scope s.heap.objs.size f cd).kindOf (ps.zip us) fun _=>none) (cellsFrom (s.heap.objs.size+1) scope.names []) (bindC (envOfC qual scope s.heap.objs.size f cd).kindOf (ps.zip us) fun _=>none) s1):
  Inv (xy CX P w K mg base N qual scope f cd A outer s H E) [] (start N vs) H s1:=by
 have hpl:ps.length≤N.length:=by have:=congrArg List.length S.pre;rw[zw8] at this;omega
 obtain⟨h1,tk,rfl,hk⟩:=x.done
 have noA:∀b:Addr,b∉(xy CX P w K mg base N qual scope f cd A outer s H E).ex:=fun b z=>absurd (show b∈([]:List Addr) from z) (by simp)
 refine⟨⟨e0.mod,S.kind,rfl,rfl,zt9 _,fun y z c h1 h2=>?_,fun y hy=>?_,fun y c _ h=>?_,fun _=>hd,Around.frames_deeper e0.frames,.inr ⟨rfl,rfl⟩,fun b z=>absurd z (noA b),e0.bs,e0.bsz,fun b _ _=>noA b,fun b z=>absurd z (noA b),e0.funs,e0.frf⟩,
  rfl,e0.bare,Un.kept hk,⟨_,x.toInCall.ns,fun i y v h1 h2 h3=>?_⟩,fun y c h=>⟨_,x.cell y c h⟩,e0.hok.fresh (zt9 _),fun y c h=>?_,fun p hp=>absurd (show p∈([]:List (Addr×Obj)) from hp) (by simp),e0.hok.kept hk,?_⟩
 ·exact name_of_addr x.apart (zx5 h1) (zx5 h2)
 ·have hy:scope.names.lookup y=some .cell∨scope.names.lookup y=some .free:=hy
  rcases hy with hy|hy
  ·exact nr hy
  ·exact absurd rfl (S.nofree _ (zx5 hy))
 ·exact zz2 (x.above y c (zx5 h))
 ·have hi:i<vs.length:=by
   unfold start at h2
   by_cases hi:i<vs.length
   ·exact hi
   ·rw[zw3 (by simpa using hi)] at h2
    rw[zy8] at h2
    split at h2<;>cases h2
  have ha:vs[i]?=some v:=by
   unfold start at h2
   rw[zv9 (by simpa using hi),zv2] at h2
   cases e:vs[i]? with
   |none=>rw[e] at h2;cases h2
   |some a=>rw[e] at h2;cases h2;rfl
  obtain⟨u,hu,rv⟩:=r.get ha
  have hp:ps[i]?=some y:=by
   rw[←S.pre,zF0 (by omega)];exact h1
  have ndP:ps.Nodup:=by rw[←S.pre];exact S.nd.sublist (List.take_sublist _ _)
  refine⟨u,rv,?_⟩
  rcases S.par y (zy7 hp) with k|k
  ·exact .inl ⟨k,qj ndP hp hu k⟩
  ·obtain⟨c,e⟩:=nr (n:=s.heap.objs.size+1) k
   refine .inr ⟨.inl k,c,e,?_⟩
   have q:=x.cell y c e
   rw[qo ndP hp hu (by show scope.names.lookup y≠_;rw[k];decide)] at q
   exact q
 ·exact e0.hok.fresh (zz2 (x.above y c (zx5 h)))
 ·unfold start
  show _=N.length
  rw[zu9,zt4,zG5]
  omega
theorem kE {CX:CXT}{P:Program}{w:World}{K:PySem.W.Frag}{mg:Str→Option Value}{base:Heap}{k:Nat}{f:Addr}{name qual:Str}{params:Arguments}{body:List Stmt}{scope:Scope}{dV kV doc pm cdv ct oc:Value}{an od:Option Addr}
  {osl:Array (Option Value)} {N ps:List Str} {sp:Sp} (lk:K.lookup f=some ⟨oc,od,.func (PySem.W.fnOf name qual params body scope dV kV doc pm an cdv ct),osl⟩) (hcd:PySem.W.codeIn K cdv qual=true) (S:zl N ps scope)
  (len:∀vs H Q E,sp vs H Q E→vs.length=ps.length)
  (hbody:∀(A:Around) (outer:List Env) (s:Shared) (H:Hp) (vs:List V) (Q:VK) (E:XK),zK k (A.deeper (envOfC qual scope s.heap.objs.size f cdv))→sp vs H Q E→
   ∃t,PSs (xy CX P w K mg base N qual scope f cdv A outer s H E) body t∧t {nx:=fun _ H'=>Q .non H',rt:=Q} (start N vs) H):
  zA P w K mg base CX (k+1) f (PySem.W.fnOf name qual params body scope dV kV doc pm an cdv ct) ps sp:=by
 refine⟨len,fun A outer s H args us vs Q E hr e0 hb r hsp=>?_⟩
 have hl:=len _ _ _ _ hsp
 have KX:K.In s.heap:=e0.mod.kin.keeps fun b o e=>(e0.bs b o e).1
 have lim:s.heap.NoLimit:=e0.mod.nolimit.keeps fun b o e=>(e0.bs b o e).1
 have hkind:∀y∈ps.zip us,scope.names.lookup y.1=some .local∨(scope.names.lookup y.1=some .cell∧((cellsFrom (s.heap.objs.size+1) scope.names []).lookup y.1).isSome=true):=fun⟨n,v⟩ hy=>by
  rcases S.par n (List.of_mem_zip hy).1 with q|q
  ·exact .inl q
  ·exact .inr ⟨q,PySem.W.cellsFrom_some _ _ _ (.inl q)⟩
 refine codeAny_call_function hr.depth (KX _ _ lk) rfl S.co S.gen rfl (PySem.W.codeRec_of KX hcd) (hb _ _ _ _ ?_)
 refine wpAny_newFunctionEnv_cells S.kind hkind fun env he s1 x=>?_
 subst he
 refine⟨lim.keeps x.toInCall.keep,codeAny_func ?_⟩
 obtain⟨t,ht,hq⟩:=hbody A outer s H vs Q E (hr.deeper _) hsp
 have I:Inv (xy CX P w K mg base N qual scope f cdv A outer s H E) [] (start N vs) H s1:=iu S hr.hd e0 hl r x
 refine zw4 (ht [] s1 (start N vs) H _ I hq) (fun fl s' hs=>?_) fun e s' hs=>hs
 have fin:∀{σ':St} {H':Hp} {v:V} {u:Value},Inv (xy CX P w K mg base N qual scope f cdv A outer s H E) [] σ' H' s'→RelV v u→Q v H'→CE outer P w H s Q u s':=
  fun {σ' H' v u} J rv q=>⟨v,H',J.os,J.bare,J.base,J.hok,rv,q⟩
 cases fl with
 |ret u=>
  obtain⟨v,σ',H',J,rv,q⟩:=hs
  exact fin J rv q
 |next=>
  obtain⟨σ',H',J,q⟩:=hs
  exact fin (v:=V.non) (u:=Value.none) J rfl q
 |brk=>
  obtain⟨_,_,_,q⟩:=hs
  exact False.elim q
 |cont=>
  obtain⟨_,_,_,q⟩:=hs
  exact False.elim q
section
variable {X:Cx}{x:Str}{p pos:Pos}{e:Expr}{es:List Expr}{t:TA}{id T:String}{r:List V→Hp→VK→Prop}
def tCB (r:List V→Hp→VK→Prop)(t:TA):TE:=fun σ H Q=>t σ H fun vs H1=>r vs H1 Q
theorem zV (hc:xQ X (.builtin id) r)(hg:Gl X x)(hm:X.mg x=none)(hv:bootBuiltins x=some (.builtin id))(ha:PA X (e::es) t)(hn:x≠"__name__":=by decide)(hdb:(x == ("__debug__":Str))=false:=by decide)
  (he:starEach (e::es) X.env=(false,eval e X.env)::starEach es X.env:=by rfl) (hpl:(backTo pos (starEach es X.env)).any (·.1)=false:=by rfl):PE X (.Call (.Name x p) (e::es) [] pos) (tCB r t):=by
 intro pins s σ H Q I h
 refine zz8 (wq I hg hm hv ?_ hn hdb)
 exact PyProof.Rows.callWith_builtin1 (thn (ha pos pins s σ H _ I h) fun us s1 ⟨vs,H1,I1,r1,q1⟩=>hc pins s1 σ H1 vs us Q I1 r1 q1) he hpl
theorem wj (hc:xQ X (.type T) r)(hg:Gl X x)(hm:X.mg x=none)(hv:bootBuiltins x=some (.type T))(ha:PA X (e::es) t)(hn:x≠"__name__":=by decide)(hdb:(x == ("__debug__":Str))=false:=by decide)
  (he:starEach (e::es) X.env=(false,eval e X.env)::starEach es X.env:=by rfl) (hpl:(backTo pos (starEach es X.env)).any (·.1)=false:=by rfl):PE X (.Call (.Name x p) (e::es) [] pos) (tCB r t):=by
 intro pins s σ H Q I h
 refine zz8 (wq I hg hm hv ?_ hn hdb)
 exact zy3 (thn (ha pos pins s σ H _ I h) fun us s1 ⟨vs,H1,I1,r1,q1⟩=>hc pins s1 σ H1 vs us Q I1 r1 q1) he hpl
end
end L2
namespace HT
open PySem PyProof.Rows
section
open PySem.SeqAt
open PySem.AutoSeq1 (wpAny_loadPart')
open PySem.MeetsSeq PySem.MeetsSeq2 PySem.MeetsSeq3
end
section
variable {prog:Program}{w:World}{A:Around}{E:Value→Shared→Prop}{s:Shared}
def sIx (n d:Nat):Option Int→Nat
 |none=>d
 |some v=>if v<0 then (v+(n:Int)).toNat else min v.toNat n
end
end HT
namespace L2
open PySem PySem.Spec PyProof.Rows
abbrev TO :=St→Hp→(Option Int→Hp→Prop)→Prop
def PO (X:Cx)(e:Option Expr)(t:TO):Prop:=
 ∀(pins:List (Addr×Obj)) (s:Shared) (σ:St) (H:Hp) (Q:Option Int→Hp→Prop),Inv X pins σ H s→t σ H Q→
  wpAny (model X.prog X.w) X.A (evalPart e X.env) (fun u s'=>∃o H',Inv X pins σ H' s'∧IsPart u o∧Q o H') X.xe s
def af :TO:=fun _ H Q=>Q none H
def zj7 (t:TE):TO:=fun σ H Q=>t σ H fun x H1=>∃i,x=.int i∧Q (some i) H1
section
variable {X:Cx}{e:Expr}{te:TE}{lo hi:Option Expr}{tl th:TO}{pos p2:Pos}
theorem jb :PO X none af:=by
 intro pins s σ H Q I h
 rw[evalPart_none]
 exact zt6 ⟨none,H,I,.none,h⟩
theorem kl (h:PE X e te):PO X (some e) (zj7 te):=by
 intro pins s σ H Q I hw
 rw[evalPart_some]
 refine thn (h pins s σ H _ I hw) fun u s1 ⟨x,H1,I1,r1,q1⟩=>?_
 obtain⟨i,rfl,q⟩:=q1
 obtain⟨t,rfl⟩:=r1
 exact⟨some i,H1,I1,.int i t,q⟩
def SlR (X:Cx)(r:V→Option Int→Option Int→Hp→VK→Prop):Prop:=
 ∀(pins:List (Addr×Obj)) (s:Shared) (σ:St) (H:Hp) (x:V) (v vl vu:Value) (lo hi:Option Int) (sl:Addr) (Q:VK),Inv X pins σ H s→RelV x v→s.heap.IsSliceOf sl vl vu .none→IsPart vl lo→IsPart vu hi→r x lo hi H Q→
  ∃T id,typeLookup (.type T) "__getitem__"=pure (some (.builtin id))∧s.TypeIs v T∧wpAny (model X.prog X.w) X.A (getItem v (.ref sl)) (EP X pins σ Q) X.xe s
def tSl (r:V→Option Int→Option Int→Hp→VK→Prop)(te:TE)(tl th:TO):TE:=fun σ H Q=>te σ H fun x H1=>tl σ H1 fun l H2=>th σ H2 fun u H3=>r x l u H3 Q
theorem oy {r:V→Option Int→Option Int→Hp→VK→Prop}(hr:SlR X r)(he:PE X e te)(hl:PO X lo tl)(hu:PO X hi th):PE X (.Subscript e (.Slice lo hi none p2) pos) (tSl r te tl th):=by
 intro pins s σ H Q I h
 refine Subscript_ (thn (he pins s σ H _ I h) fun v s1 ⟨x,H1,I1,r1,q1⟩=>?_)
 refine wpAny_Slice (thn (hl pins s1 σ H1 _ I1 q1) fun vl s2 ⟨l,H2,I2,pl,q2⟩=>thn (hu pins s2 σ H2 _ I2 q2) fun vu s3 ⟨u,H3,I3,pu,q3⟩=>?_)
 rw[evalPart_none]
 refine zt6 ?_
 have I4:Inv X pins σ H3 {s3 with heap:=s3.heap.push {cls:=.type "slice",data:=.fields #[vl,vu,.none]}}:=I3.kept (t':=s3.toks) fun b ob q=>zt3 _ q
 obtain⟨T,id,hT,ht,hg⟩:=hr pins {s3 with heap:=s3.heap.push {cls:=.type "slice",data:=.fields #[vl,vu,.none]}} σ H3 x v vl vu l u s3.heap.objs.size Q I4 r1 (Heap.IsSliceOf.new ..) pl pu q3
 show wpAny (model X.prog X.w) X.A (subscriptTail e (.Slice lo hi none p2) v (.ref s3.heap.objs.size)) (EP X pins σ Q) X.xe {s3 with heap:=s3.heap.push {cls:=.type "slice",data:=.fields #[vl,vu,.none]}}
 exact tail_any (ops:=[.ref s3.heap.objs.size,v]) ht hT hg (by with_unfolding_all rfl)
def iE (xs:List V)(lo hi:Option Int):List V:=(xs.drop (HT.sIx xs.length 0 lo)).take (HT.sIx xs.length xs.length hi-HT.sIx xs.length 0 lo)
theorem oq (xs:List V)(lo hi:Option Int):(iE xs lo hi).length≤xs.length:=by
 unfold iE
 rw[zw8,zB9]
 omega
end
def ixN (n:Nat)(i:Int):Option Nat:=if 0≤i then (if i<n then some i.toNat else none) else if -(n:Int)≤i then some (i+n).toNat else none
def atI {α:Type}(xs:List α)(i:Int):Option α:=(ixN xs.length i).bind fun j=>xs[j]?
theorem qW {n:Nat}{i:Int}{j:Nat}(h:ixN n i=some j):seqIndex? i n=some j∧j<n∧-(n:Int)≤i∧i<n:=by
 unfold ixN at h
 by_cases h0:0≤i
 ·rw[if_pos h0] at h
  by_cases h1:i<n
  ·rw[if_pos h1] at h
   have e:i.toNat=j:=zw0 h
   exact⟨by rw[seqIndex_of h0 h1,e],by omega,by omega,h1⟩
  ·rw[if_neg h1] at h;cases h
 ·rw[if_neg h0] at h
  by_cases h1:-(n:Int)≤i
  ·rw[if_pos h1] at h
   have e:(i+n).toNat=j:=zw0 h
   exact⟨by rw[seqIndex_neg (by omega) h1,e],by omega,h1,by omega⟩
  ·rw[if_neg h1] at h;cases h
theorem qJ {α:Type}{xs:List α}{i:Int}{v:α}(h:atI xs i=some v):∃j,seqIndex? i xs.length=some j∧xs[j]?=some v∧j<xs.length∧-(xs.length:Int)≤i∧i<xs.length:=by
 unfold atI at h
 cases e:ixN xs.length i with
 |none=>rw[e] at h;cases h
 |some j=>
  rw[e] at h
  obtain⟨h1,h2,h3,h4⟩:=qW e
  exact⟨j,h1,h,h2,h3,h4⟩
theorem wo {α:Type}{xs:List α}{j:Nat}{v:α}(h:xs[j]?=some v):atI xs (j:Int)=some v:=by
 have hj:j<xs.length:=(zt8.mp h).1
 have e:ixN xs.length (j:Int)=some j:=by
  unfold ixN
  rw[if_pos (by omega),if_pos (by omega)];simp
 unfold atI;rw[e];exact h
def tJ (b:Expr):Prop:=∀o i,subscripted b false o i=operate [o,i] (getItem o i)
def IxR (X:Cx)(r:R2):Prop:=
 ∀(value slice:Expr) (pins:List (Addr×Obj)) (s:Shared) (σ:St) (H:Hp) (x y:V) (v u:Value) (Q:VK),Inv X pins σ H s→RelV x v→RelV y u→r x y H Q→
  subscripted slice false v u=operate [v,u] (getItem v u)→wpAny (model X.prog X.w) X.A (subscriptTail value slice v u) (EP X pins σ Q) X.xe s
def MtR (X:Cx)(id:String)(r:V→List V→Hp→VK→Prop):Prop:=
 ∀(pins:List (Addr×Obj)) (s:Shared) (σ:St) (H:Hp) (x:V) (xs:List V) (v:Value) (us:List Value) (Q:VK),Inv X pins σ H s→RelV x v→Vals xs us→r x xs H Q→
  wpAny (model X.prog X.w) X.A (call (.builtin id) (v::us)) (EP X pins σ Q) X.xe s
section
variable {X:Cx}{a b:Expr}{ta tb:TE}{pos:Pos}
theorem IxR.or {r r':R2}(h:IxR X r)(h':IxR X r'):IxR X (fun x y H Q=>r x y H Q∨r' x y H Q):=by
 intro value slice pins s σ H x y v u Q I rx ry q hs
 rcases q with q|q
 ·exact h value slice pins s σ H x y v u Q I rx ry q hs
 ·exact h' value slice pins s σ H x y v u Q I rx ry q hs
theorem zP {r:R2}(hr:IxR X r)(ha:PE X a ta)(hb:PE X b tb)(hs:tJ b):PE X (.Subscript a b pos) (tOp r ta tb):=by
 intro pins s σ H Q I h
 exact Subscript_ (zg3 ha hb I h fun v u s2 x y H2 I2 rx ry q=>hr a b pins s2 σ H2 x y v u Q I2 rx ry q (hs _ _))
def zg0 (K:PySem.W.Frag):R2:=fun x y H Q=>∃p xs i v,x=.ref p∧y=.int i∧SqL K H p xs∧atI xs i=some v∧Q v H
def zb6 (K:PySem.W.Frag):R2:=fun x y H Q=>∃p xs i v,x=.ref p∧y=.int i∧SqT K H p xs∧atI xs i=some v∧Q v H
def zk2 :R2:=fun x y H Q=>∃z i c,x=.str z∧y=.int i∧z.length≤sizeLine∧atI z.cps.toList i=some c∧Q (.str ⟨#[c]⟩) H
theorem zS :IxR X (zg0 X.K):=by
 intro value slice pins s σ H x y v u Q I rx ry h hs
 obtain⟨p,xs,i,z,rfl,rfl,hq,he,q⟩:=h
 cases rx
 obtain⟨t,rfl⟩:=ry
 obtain⟨its,r,pl,hz⟩:=I.list hq
 obtain⟨j,h1,h2,h3,h4,h5⟩:=qJ he
 obtain⟨w,ew,rw'⟩:=r.get h2
 have hl:=r.length
 have hn:=uQ
 have fin:EP X pins σ Q w s:=⟨z,H,I,rw',q⟩
 by_cases h0:0≤i
 ·have hj:i.toNat=j:=by
   rw[seqIndex_of h0 h5] at h1
   exact zw0 h1
  exact item_listR pl.isList h0 (by omega) (by rw[hj];simpa using ew) fin hs
 ·have hj:(i+(its.toArray.size:Int)).toNat=j:=by
   rw[seqIndex_neg (by omega) h4] at h1
   rw[zu2,←hl]
   exact zw0 h1
  exact subscriptTail_builtinR (x:=w) pl.isList.typeIs slot_list_getitem.lookup
   (wpAny_getItem_list_neg (Q:=fun r s'=>r=w∧EP X pins σ Q r s') pl.isList (by omega) (by rw[zu2]<;>omega) (by omega) (by rw[hj];simpa using ew) ⟨rfl,fin⟩) hs
theorem yC :IxR X (zb6 X.K):=by
 intro value slice pins s σ H x y v u Q I rx ry h hs
 obtain⟨p,xs,i,z,rfl,rfl,hq,he,q⟩:=h
 cases rx
 obtain⟨t,rfl⟩:=ry
 obtain⟨its,r,pl,hz⟩:=I.tuple hq
 obtain⟨j,h1,h2,h3,h4,h5⟩:=qJ he
 obtain⟨w,ew,rw'⟩:=r.get h2
 have hl:=r.length
 have hn:=uQ
 have fin:EP X pins σ Q w s:=⟨z,H,I,rw',q⟩
 exact subscriptTail_builtinR (x:=w) pl.typeIs slot_tuple_getitem.lookup
  (getItem_tuple (j:=j) (Q:=fun r s'=>r=w∧EP X pins σ Q r s') pl (by omega) (by omega) (by rw[zu2,←hl];exact h1) (by simpa using ew) ⟨rfl,fin⟩) hs
theorem zf8 :IxR X zk2:=by
 intro value slice pins s σ H x y v u Q I rx ry h hs
 obtain⟨z,i,c,rfl,rfl,hz,he,q⟩:=h
 obtain⟨t,rfl⟩:=rx
 obtain⟨t',rfl⟩:=ry
 obtain⟨j,h1,h2,h3,h4,h5⟩:=qJ he
 have hl:z.cps.toList.length=z.length:=by simp[Str.length]
 rw[hl] at h1 h4 h5
 have hn:=uQ
 exact tail_any (typeIs_str s z t) slot_str_getitem.lookup (getItem_str (c:=c) (by
  have e1:decide (i < -(2 ^ 63:Int))=false:=zy5 (by omega)
  have e2:decide (i≥2 ^ 63)=false:=zy5 (by omega)
  rw[e1,e2,Bool.or_false]) (by rw[h1];simpa using h2) ⟨.str ⟨#[c]⟩,H,I.tok _,⟨_,rfl⟩,q⟩) hs
def rIx (K:PySem.W.Frag):R2:=fun x y H Q=>zg0 K x y H Q∨zb6 K x y H Q∨zk2 x y H Q
theorem zd0 :IxR X (rIx X.K):=zS.or (yC.or zf8)
theorem mI (its:List Value)(n j:Nat)(u:Value):Obj.mapSeq (·.setIfInBounds j u) {cls:=.type "list",data:=.seq its.toArray n}={cls:=.type "list",data:=.seq (its.set j u).toArray n}:=by
 simp[Obj.mapSeq]
theorem Inv.lst {pins:List (Addr×Obj)}{σ:St}{H:Hp}{s:Shared}{p:Addr}{xs:List V}(I:Inv X pins σ H s)(h:H p=some (.lst xs)):
  ∃(its:List Value) (n:Nat),Vals xs its∧s.heap.get? p=some {cls:=.type "list",data:=.seq its.toArray n}∧xs.length≤sizeLine:=by
 obtain⟨z,its,n,r,e⟩:=I.hok p _ h
 exact⟨its,n,r,e,z⟩
theorem Inv.lstUpd {pins:List (Addr×Obj)}{σ:St}{H:Hp}{s:Shared}{p:Addr}{xs ys:List V}{its its':List Value}{n n':Nat}{f:Obj→Obj}(I:Inv X pins σ H s)(h:H p=some (.lst xs))
  (ho:s.heap.get? p=some {cls:=.type "list",data:=.seq its.toArray n}) (hf:f {cls:=.type "list",data:=.seq its.toArray n}={cls:=.type "list",data:=.seq its'.toArray n'}) (r:Vals ys its') (hz:ys.length≤sizeLine) (t:Nat):
  Inv X pins σ (upd H p (.lst ys)) {s with heap:=s.heap.update p f,toks:=t}:=by
 have e:(s.heap.update p f).get? p=some {cls:=.type "list",data:=.seq its'.toArray n'}:=by
  rw[zy2 f ho (by rw[hf]<;>rfl),hf]
 refine I.write (x:=p) (e:=p) (by rw[h];trivial) (.inl rfl) (fun b u hb q=>(zu5 _ _ (zw7 hb)).trans q) ⟨_,e⟩ ?_
 exact⟨hz,its',n',r,e⟩
def aZ :V→V→V→Hp→(Hp→Prop)→Prop:=fun o i v H Q=>∃p xs k j,o=.ref p∧i=.int k∧H p=some (.lst xs)∧ixN xs.length k=some j∧Q (upd H p (.lst (xs.set j v)))
theorem set_list :zn8 X aZ:=by
 intro pins s σ H o i v ov iv u Q I ro ri rv h
 obtain⟨p,xs,k,j,rfl,rfl,hp,hj,q⟩:=h
 cases ro
 obtain⟨t,rfl⟩:=ri
 obtain⟨its,n,r,ho,hz⟩:=I.lst hp
 obtain⟨h1,h2,h3,h4⟩:=qW hj
 have hl:=r.length
 have hn:=uQ
 have I':Inv X pins σ (upd H p (.lst (xs.set j v))) {s with heap:=s.heap.update p (Obj.mapSeq (·.setIfInBounds j u))}:=
  I.lstUpd hp ho (mI its n j u) (r.set rv j) (by rw[zv8];exact hz) s.toks
 by_cases h0:0≤k
 ·have hk:k.toNat=j:=by
   rw[seqIndex_of h0 h4] at h1
   exact zw0 h1
  exact PySem.W.ki_setAt ho h0 (by omega) (by rw[zu2,←hl];exact h4) (by rw[hk];exact⟨_,I',q⟩)
 ·have hk:(k+(its.toArray.size:Int)).toNat=j:=by
   rw[seqIndex_neg (by omega) h3] at h1
   rw[zu2,←hl]
   exact zw0 h1
  exact PySem.W.ki_setBack ho (by omega) (by rw[zu2,←hl];exact h3) (by omega) (by rw[hk];exact⟨_,I',q⟩)
theorem qG (lo hi:Option Int)(n:Nat):(sliceBounds lo hi none n).1=((HT.sIx n 0 lo:Nat):Int)∧(sliceBounds lo hi none n).2.1=((HT.sIx n n hi:Nat):Int)∧(sliceBounds lo hi none n).2.2=1:=by
 refine⟨?_,?_,rfl⟩
 ·cases lo with
  |none=>simp[sliceBounds,HT.sIx]
  |some i=>
   simp only[sliceBounds,HT.sIx,Option.getD_none,show (1:Int) > 0 by decide,if_true]
   by_cases h:i<0
   ·simp only[h,if_true]<;>omega
   ·simp only[h,zG2]<;>omega
 ·cases hi with
  |none=>simp[sliceBounds,HT.sIx]
  |some i=>
   simp only[sliceBounds,HT.sIx,Option.getD_none,show (1:Int) > 0 by decide,if_true]
   by_cases h:i<0
   ·simp only[h,if_true]<;>omega
   ·simp only[h,zG2]<;>omega
theorem rD (its:List Value)(lo hi:Option Int):slicePick its.toArray lo hi none=((its.drop (HT.sIx its.length 0 lo)).take (HT.sIx its.length its.length hi-HT.sIx its.length 0 lo)).toArray:=by
 obtain⟨h1,h2,h3⟩:=qG lo hi its.toArray.size
 unfold slicePick
 rw[h1,h2,h3]
 simp only[sliceRange_one,pick_run,zu2]<;>rfl
def zp9 (K:PySem.W.Frag):V→Option Int→Option Int→Hp→VK→Prop:=fun x lo hi H Q=>∃a xs,x=.ref a∧SqL K H a xs∧∀p,H p=none→Q (.ref p) (upd H p (.lst (iE xs lo hi)))
theorem ko :SlR X (zp9 X.K):=by
 intro pins s σ H x v vl vu lo hi sl Q I rx hs pl pu h
 obtain⟨a,xs,rfl,hx,q⟩:=h
 cases rx
 obtain⟨its,r,ht,hz⟩:=I.list hx
 have hlen:=r.length
 refine⟨"list",_,slot_list_getitem.lookup,ht.isList.typeIs,?_⟩
 refine wpAny_getItem_list_slice ht.isList hs pl pu .none (by simp) ?_ (by rw[zu2]<;>omega)
 rw[rD,←hlen]
 refine⟨.ref s.heap.objs.size,_,I.laid (t':=s.toks) (o:=.lst (iE xs lo hi)) (fun b ob q=>zt3 _ q) (zt9 _) ?_,rfl,q _ (I.hok.fresh (zt9 _))⟩
 exact⟨zx7 (oq xs lo hi) hz,_,0,(r.drop (HT.sIx xs.length 0 lo)).take (HT.sIx xs.length xs.length hi-HT.sIx xs.length 0 lo),zu7 _ rfl⟩
def nF :V→Bool
 |.non=>true
 |.bl _=>true
 |.int _=>true
 |.str _=>true
 |_=>false
def eqV :V→V→Bool
 |.non,.non=>true
 |.bl a,.bl b=>a == b
 |.bl a,.int b=>(if a then 1 else 0)==b
 |.int a,.bl b=>a == (if b then 1 else 0)
 |.int a,.int b=>a == b
 |.str a,.str b=>a == b
 |_,_=>false
theorem zj2 {A:Around}{s:Shared}{y x:V}{u v:Value}(ry:RelV y u)(rx:RelV x v)(fy:nF y=true)(fx:nF x=true):SeqAt.EqAt A s u v (eqV y x):=by
 cases y with
 |non=>
  cases ry
  cases x with
  |non=>cases rx;exact SeqAt.EqAt.same _
  |bl b=>cases rx;exact SeqAt.EqAt.none_bool b
  |int b=>obtain⟨t,rfl⟩:=rx;exact SeqAt.EqAt.none_int b t
  |str b=>obtain⟨t,rfl⟩:=rx;exact SeqAt.EqAt.none_str b t
  |_=>exact absurd (show false=true from fx) zu4
 |bl a=>
  cases ry
  cases x with
  |non=>cases rx;exact SeqAt.EqAt.bool_none a
  |bl b=>cases rx;exact SeqAt.EqAt.bool_bool a b
  |int b=>obtain⟨t,rfl⟩:=rx;exact SeqAt.EqAt.bool_int a b t
  |str b=>obtain⟨t,rfl⟩:=rx;exact SeqAt.EqAt.bool_str a b t
  |_=>exact absurd (show false=true from fx) zu4
 |int a=>
  obtain⟨t',rfl⟩:=ry
  cases x with
  |non=>cases rx;exact SeqAt.EqAt.int_none a t'
  |bl b=>cases rx;exact SeqAt.EqAt.int_bool a t' b
  |int b=>obtain⟨t,rfl⟩:=rx;exact SeqAt.EqAt.int_int a t' b t
  |str b=>obtain⟨t,rfl⟩:=rx;exact SeqAt.EqAt.int_str a t' b t
  |_=>exact absurd (show false=true from fx) zu4
 |str a=>
  obtain⟨t',rfl⟩:=ry
  cases x with
  |non=>cases rx;exact SeqAt.EqAt.str_none a t'
  |bl b=>cases rx;exact SeqAt.EqAt.str_bool a t' b
  |int b=>obtain⟨t,rfl⟩:=rx;exact SeqAt.EqAt.str_int a t' b t
  |str b=>obtain⟨t,rfl⟩:=rx;exact SeqAt.EqAt.str_str a t' b t
  |_=>exact absurd (show false=true from fx) zu4
 |_=>exact absurd (show false=true from fy) zu4
theorem yr :xQ X (.builtin "len") (fun xs H Q=>∃p ys,xs=[.ref p]∧(SqL X.K H p ys∨SqT X.K H p ys)∧Q (.int ys.length) H):=by
 intro pins s σ H xs us Q I r h
 obtain⟨p,ys,rfl,hq,q⟩:=h
 obtain⟨u,rfl,rx⟩:=vals1 r
 cases rx
 have hn:=uQ
 rcases hq with hq|hq
 ·obtain⟨its,r',pl,hz⟩:=I.list hq
  have hlen:=r'.length
  exact Calls.call_len_list pl.isList (by simp only[zu2]<;>omega) ⟨.int ys.length,H,I.tok _,⟨s.toks+1,by rw[zu2,hlen]⟩,q⟩
 ·obtain⟨its,r',pl,hz⟩:=I.tuple hq
  have hlen:=r'.length
  exact len_tuple pl (by simp only[zu2]<;>omega) ⟨.int ys.length,H,I.tok _,⟨s.toks+1,by rw[zu2,hlen]⟩,q⟩
theorem wI :xQ X (.type "list") (fun xs H Q=>∃p ys,xs=[.ref p]∧(SqL X.K H p ys∨SqT X.K H p ys)∧∀l,H l=none→Q (.ref l) (upd H l (.lst ys))):=by
 intro pins s σ H xs us Q I r h
 obtain⟨p,ys,rfl,hq,q⟩:=h
 obtain⟨u,rfl,rx⟩:=vals1 r
 cases rx
 have fin:∀(its:List Value),Vals ys its→ys.length≤sizeLine→∀(h':Heap) (c':Nat),(∀b o',s.heap.get? b=some o'→h'.get? b=some o')→
   h'.get? s.heap.objs.size=some {cls:=.type "list",dict:=none,data:=.seq its.toArray c',slots:=#[]}→EP X pins σ Q (.ref s.heap.objs.size) {s with heap:=h'}:=fun its r' hz h' c' kp e=>
  ⟨.ref s.heap.objs.size,_,I.laid (t':=s.toks) kp (zt9 _) (show yf X.prog X.w _ h' _ (.lst ys) from ⟨hz,its,c',r',e⟩),rfl,q _ (I.hok.fresh (zt9 _))⟩
 rcases hq with hq|hq
 ·obtain⟨its,r',pl,hz⟩:=I.list hq
  have hlen:=r'.length
  obtain⟨o,ho,hc,n,hd⟩:=pl.isList
  exact call_list_seq p (.inl rfl) ho hc hd (fun h' c' kp e=>fin its r' hz h' c' kp e) (by simp only[zu2]<;>omega)
 ·obtain⟨its,r',pl,hz⟩:=I.tuple hq
  have hlen:=r'.length
  obtain⟨o,ho,hc,n,hd⟩:=pl
  exact call_list_seq p (.inr rfl) ho hc hd (fun h' c' kp e=>fin its r' hz h' c' kp e) (by simp only[zu2]<;>omega)
def tyV (K:PySem.W.Frag)(T:String)(x:V)(H:Hp):Prop:=match x with
 |.str _=>T="str"
 |.int _=>T="int"
 |.ref p=>(T="list"∧∃xs,SqL K H p xs)∨(T="tuple"∧∃o,K.lookup p=some o∧o.cls=.type "tuple"∧o.dict=none)∨
   (T="dict"∧((∃kvs,H p=some (.dK kvs))∨∃kvs,H p=some (.dT kvs)))∨(T="set"∧∃S n,H p=some (.set S n))
 |_=>False
theorem zi0 {pins:List (Addr×Obj)}{σ:St}{H:Hp}{s:Shared}{T:String}{x:V}{v:Value}(I:Inv X pins σ H s)(r:RelV x v)(ty:tyV X.K T x H):
  s.TypeIs v T∧∀a,v=.ref a→∃ob,s.heap.get? a=some ob∧ob.dict=none:=by
 cases x with
 |str z=>
  obtain⟨t,rfl⟩:=r
  cases (show T="str" from ty)
  exact⟨typeIs_str s z t,fun _ e=>nomatch e⟩
 |int i=>
  obtain⟨t,rfl⟩:=r
  cases (show T="int" from ty)
  exact⟨typeIs_int s i t,fun _ e=>nomatch e⟩
 |ref p=>
  cases r
  rcases ty with ⟨rfl,xs,hq⟩|⟨rfl,o,hk,hc,hd⟩|⟨rfl,hk⟩|⟨rfl,S,n,hk⟩
  ·obtain⟨its,_,pl,_⟩:=I.list hq
   refine⟨pl.isList.typeIs,fun a e=>?_⟩
   cases e
   obtain⟨o,n,e,c,hd,_⟩:=pl
   exact⟨o,e,hd⟩
  ·refine⟨⟨o,I.kIn p o hk,hc⟩,fun a e=>?_⟩
   cases e
   exact⟨o,I.kIn _ o hk,hd⟩
  ·have z:∃o,s.heap.get? p=some o∧o.ExactDict:=by
    rcases hk with ⟨kvs,hk⟩|⟨kvs,hk⟩
    ·obtain⟨_,_,_,_,o,_,_,e,ex,_⟩:=I.hok p _ hk
     exact⟨o,e,ex⟩
    ·obtain⟨_,_,_,_,o,_,_,e,ex,_⟩:=I.hok p _ hk
     exact⟨o,e,ex⟩
   obtain⟨o,e,ex⟩:=z
   refine⟨⟨o,e,ex.1⟩,fun a e2=>?_⟩
   cases e2
   exact⟨o,e,ex.2.1⟩
  ·obtain⟨o,_,_,_,e,ex,_⟩:=I.hok p _ hk
   refine⟨⟨o,e,ex.1⟩,fun a e2=>?_⟩
   cases e2
   exact⟨o,e,ex.2.1⟩
 |_=>exact False.elim ty
def tBM (K:PySem.W.Frag)(T:String)(r:V→List V→Hp→VK→Prop)(to:TE)(t:TA):TE:=fun σ H Q=>to σ H fun x H1=>tyV K T x H1∧t σ H1 fun xs H2=>r x xs H2 Q
variable {o e:Expr}{es:List Expr}{to:TE}{t:TA}{name:Str}{apos cpos:Pos}{T id:String}{r:V→List V→Hp→VK→Prop}
theorem du (pa:PlainAttrs T)(slot:Slot T name id)(hty:typeOf (.builtin id)=pure (.type "method_descriptor"))(hm:MtR X id r)(ho:PE X o to)(ha:PA X (e::es) t)
  (hbase:attributeBase o name X.env (eval o X.env)=eval o X.env:=by rfl)
  (hfew:((backTo cpos (starEach (e::es) X.env)).all (fun x=>!x.1)&&(backToKw cpos (keywordEach [] X.env)).all (fun x=>x.1.isSome)
   &&decide ((e::es).length+([]:List Keyword).length+(if ([]:List Keyword).isEmpty then 0 else 1)<30))=true:=by rfl)
  (hline:(apos.endLine == cpos.line)=true:=by rfl) (hs:starEach (e::es) X.env=(false,eval e X.env)::starEach es X.env:=by rfl) (hplain:(backTo cpos (starEach es X.env)).any (·.1)=false:=by rfl):
  PE X (.Call (.Attribute o name apos) (e::es) [] cpos) (tBM X.K T r to t):=by
 intro pins s σ H Q I h
 refine wpAny_Call_method_late hbase hfew hline rfl (thn (ho pins s σ H _ I h) fun v s1 ⟨x,H1,I1,r1,ty,q1⟩=>?_)
 obtain⟨h1,h2⟩:=zi0 I1 r1 ty
 refine⟨T,id,pa,slot,hty,h1,h2,?_⟩
 have hA:=ha cpos pins s1 σ H1 _ I1 q1
 rw[hs] at hA ⊢
 refine Calls.callWith_builtin (by show (false||(backTo cpos (starEach es X.env)).any (·.1))=false;rw[hplain]<;>rfl) (Calls.evalArgs_plain ?_)
 exact thn hA fun us s2 ⟨vs,H2,I2,r2,q2⟩=>hm pins s2 σ H2 x vs v us Q I2 r1 r2 q2
/- xs.append(e),list.index on a module's tuple .. are MtR facts of 06m -/
end
def MtM (X:Cx)(id:String)(r:V→List V→Hp→VK→Prop):Prop:=
 ∀(pins:List (Addr×Obj)) (s:Shared) (σ:St) (H:Hp) (x:V) (xs:List V) (v:Value) (us:List Value) (Q:VK),Inv X pins σ H s→RelV x v→Vals xs us→r x xs H Q→
  wpAny (model X.prog X.w) X.A (call (.builtin id) (v::us)) (EP X pins σ Q) X.xe s
theorem Vals.one :∀{x:V} {us:List Value},Vals [x] us→∃u,us=[u]∧RelV x u
 |_,_,.cons r .nil=>⟨_,rfl,r⟩
theorem Vals.two :∀{x y:V} {us:List Value},Vals [x,y] us→∃u v,us=[u,v]∧RelV x u∧RelV y v
 |_,_,_,.cons r (.cons q .nil)=>⟨_,_,rfl,r,q⟩
theorem Vals.eraseIdx :∀{xs:List V} {us:List Value} (i:Nat),Vals xs us→Vals (xs.eraseIdx i) (us.eraseIdx i)
 |_,_,_,.nil=>.nil
 |_,_,0,.cons _ t=>t
 |_,_,i+1,.cons r t=>.cons r (Vals.eraseIdx i t)
theorem rS {α:Type}:∀(l:List α) (i:Nat),(l.eraseIdx i).length≤l.length
 |[],_=>zt9 _
 |_::_,0=>zB7 _
 |_::r,i+1=>Nat.succ_le_succ (rS r i)
section
variable {X:Cx}{pins:List (Addr×Obj)}{σ:St}{H:Hp}{s:Shared}{l b:Addr}{xs ys zs:List V}
theorem Inv.lset {its its':List Value}{n:Nat}{f:Array Value→Array Value}{t':Nat}(I:Inv X pins σ H s)(hH:H l=some (.lst xs))
  (e:s.heap.get? l=some {cls:=.type "list",data:=.seq its.toArray n}) (hf:f its.toArray=its'.toArray) (hv:Vals ys its') (hz:ys.length≤sizeLine):
  Inv X pins σ (upd H l (.lst ys)) {s with heap:=s.heap.update l (Obj.mapSeq f),toks:=t'}:=by
 have q:=PySem.IsL.update e f
 rw[hf] at q
 refine I.write (x:=l) (e:=l) (by rw[hH];exact trivial) (.inl rfl) (fun b' u hb hu=>(zu5 s.heap (Obj.mapSeq f) (zw7 hb)).trans hu) ⟨_,q⟩ ?_
 exact⟨hz,its',_,hv,q⟩
theorem Inv.lnew {its:List Value}{t':Nat}(I:Inv X pins σ H s)(hv:Vals ys its)(hz:ys.length≤sizeLine):
  Inv X pins σ (upd H s.heap.objs.size (.lst ys)) {s with heap:=s.heap.push {cls:=.type "list",data:=.seq its.toArray},toks:=t'}:=
 I.laid (fun _ _ q=>zt3 _ q) (zt9 _) ⟨hz,its,0,hv,zu7 _ rfl⟩
theorem Inv.fresh (I:Inv X pins σ H s):H s.heap.objs.size=none:=I.hok.fresh (zt9 _)
theorem Inv.lstM (I:Inv X pins σ H s)(hH:H l=some (.lst xs)):xs.length≤sizeLine∧∃(its:List Value) (n:Nat),Vals xs its∧xs.length=its.length∧s.heap.get? l=some {cls:=.type "list",data:=.seq its.toArray n}:=by
 obtain⟨z,its,n,r,e⟩:=I.hok l _ hH
 exact⟨z,its,n,r,r.length,e⟩
theorem fB {n:Nat}(h:n≤sizeLine):Builtin.List.listTooLong n=false:=by
 unfold Builtin.List.listTooLong
 exact zy5 (by omega)
end
section
variable {X:Cx}
def aI :V→List V→Hp→VK→Prop:=fun x vs H Q=>∃l xs y,x=.ref l∧vs=[y]∧H l=some (.lst xs)∧xs.length<sizeLine∧Q .non (upd H l (.lst (xs++[y])))
theorem uC :MtM X "list.append" aI:=by
 intro pins s σ H x vs v us Q I rx rv h
 obtain⟨l,xs,y,rfl,rfl,hH,hz,q⟩:=h
 cases rx
 obtain⟨u,rfl,ru⟩:=rv.one
 obtain⟨z,its,n,r,hl,e⟩:=I.lstM hH
 refine call_meets F.slot_list_append ⟨_,e,rfl⟩ F.entry_list_append (F.args_list_append_2 _ _) (PySem.list_append l its.toArray n u (by rw[zu2];omega)) ⟨e,?_⟩
 refine⟨.non,_,I.lset (its':=its++[u]) hH e (by simp) (r.append (.cons ru .nil)) ?_,rfl,q⟩
 rw[zu9,zD1]
 omega
def bE :V→List V→Hp→VK→Prop:=fun x vs H Q=>∃l b xs zs,x=.ref l∧vs=[.ref b]∧H l=some (.lst xs)∧H b=some (.lst zs)∧xs.length+zs.length≤sizeLine∧Q .non (upd H l (.lst (xs++zs)))
theorem zj5 :MtM X "list.extend" bE:=by
 intro pins s σ H x vs v us Q I rx rv h
 obtain⟨l,b,xs,zs,rfl,rfl,hH,hB,hz,q⟩:=h
 cases rx
 obtain⟨u,rfl,ru⟩:=rv.one
 cases ru
 obtain⟨z,its,n,r,hl,e⟩:=I.lstM hH
 obtain⟨z2,its2,n2,r2,hl2,e2⟩:=I.lstM hB
 have hsz:its.toArray.size+its2.toArray.size≤sizeLine:=by rw[zu2,zu2];omega
 have hlong:¬(!its.toArray.isEmpty&&Builtin.List.listTooLong (its.toArray.size+its2.toArray.size))=true:=by
  rw[fB hsz,Bool.and_false]
  exact zu4
 refine call_meets F.slot_list_extend ⟨_,e,rfl⟩ F.entry_list_extend (F.args_list_extend_2 _ _)
  (AutoSeq1.list_extend_list_list_0 l its.toArray n b its2.toArray n2 hlong (by rw[zu2];omega) (by omega)) ⟨e,e2,?_⟩
 refine⟨.non,_,I.lset (its':=its++its2) hH e (by simp) (r.append r2) ?_,rfl,q⟩
 rw[zu9]
 omega
def zb2 :V→List V→Hp→VK→Prop:=fun x vs H Q=>∃l xs i k y,x=.ref l∧vs=[.int i]∧H l=some (.lst xs)∧-(2 ^ 63)≤i∧i<2 ^ 63∧seqIndex? i xs.length=some k∧xs[k]?=some y∧Q y (upd H l (.lst (xs.eraseIdx k)))
theorem dP :MtM X "list.pop" zb2:=by
 intro pins s σ H x vs v us Q I rx rv h
 obtain⟨l,xs,i,k,y,rfl,rfl,hH,h1,h2,hk,hy,q⟩:=h
 cases rx
 obtain⟨u,rfl,ru⟩:=rv.one
 obtain⟨t,rfl⟩:=ru
 obtain⟨z,its,n,r,hl,e⟩:=I.lstM hH
 obtain⟨w,hw,rw'⟩:=r.get hy
 refine call_meets F.slot_list_pop ⟨_,e,rfl⟩ F.entry_list_pop (F.args_list_pop_2 _ _)
  (MeetsSeq.list_pop_at l its.toArray n i t k w (fitsIndex_both h1 h2) (by rw[zu2,←hl];exact hk) (by rw[←Array.getElem?_toList];exact hw) (by rw[zu2];omega)) ⟨e,?_⟩
 refine⟨y,_,I.lset (its':=its.eraseIdx k) hH e ?_ (r.eraseIdx k) ?_,rw',q⟩
 ·show its.toArray.eraseIdxIfInBounds k=(its.eraseIdx k).toArray
  rw[List.eraseIdxIfInBounds_toArray]
 ·have:=rS xs k
  omega
def zs9 :R2:=fun x y H Q=>∃l b xs zs,x=.ref l∧y=.ref b∧H l=some (.lst xs)∧H b=some (.lst zs)∧xs.length+zs.length≤sizeLine∧∀p,H p=none→Q (.ref p) (upd H p (.lst (xs++zs)))
theorem zi7 :OpR X (binaryOp .Add) zs9:=by
 intro pins s σ H x y v u Q I rx ry h
 obtain⟨l,b,xs,zs,rfl,rfl,hH,hB,hz,q⟩:=h
 cases rx
 cases ry
 obtain⟨z,its,n,r,hl,e⟩:=I.lstM hH
 obtain⟨z2,its2,n2,r2,hl2,e2⟩:=I.lstM hB
 refine PySem.P.add_list e e2 ?_ (by rw[zu2,zu2];omega)
 have ea:its.toArray++its2.toArray=(its++its2).toArray:=by simp
 rw[ea]
 exact⟨.ref _,_,I.lnew (t':=s.toks) (r.append r2) (by rw[zu9];omega),rfl,q _ I.fresh⟩
end
section
variable {prog:Program}{w:World}{A:Around}{E:Value→Shared→Prop}{s:Shared}
end
section
variable {X:Cx}
end
end L2
namespace Att
open PySem PySem.W PySem.Calls PyProof.Rows
theorem tE {P:Params}{h:Heap}:∀(ns:List Int) (vs:List Value),WellAll P h vs (ns.map WData.int)→IntsAre vs ns:=by
 intro ns
 induction ns with
 |nil=>
  intro vs w
  rw[List.map_nil] at w
  cases w
  exact .nil
 |cons n ns ih=>
  intro vs w
  rw[zy1] at w
  cases w with
  |cons a b=>
   cases a
   exact .cons _ _ (ih _ b)
theorem jZ {l:OpenLaw}{n:Nat}(hn:l.most=some n){P:Params}{h:Heap}{args:List WData}{vals:List Value}
  (hpre:l.row.toRowW.claim.pre args=true) (hwl:WellAll P h vals args):
  ∃a vs ns,vals=[Value.ref a]∧args=[WData.list (ns.map WData.int)]∧h.get? a=some {cls:=.type "list",data:=.seq vs.toArray}∧IntsAre vs ns∧ns.length≤n:=by
 have hsh:WShape.hasAll [] args [.list .int]=true:=(pre_splitW hpre).1
 have hc:l.pre.holds [] {args:=args}=true:=(pre_splitW hpre).2
 obtain⟨d,r,rfl,h1,h2⟩:=hasAllW_cons hsh
 obtain rfl:=hasAllW_nil h2
 obtain⟨xs,rfl,h3⟩:=hasW_list h1
 obtain⟨ns,rfl⟩:=items_int h3
 have hlen:ns.length≤n:=by
  unfold OpenLaw.pre at hc
  have h4:(WTm.not (.lt (.lit (.int (n:Int))) (.len (.arg 0)))).holds [] {args:=[.list (ns.map .int)]}=true:=by
   have h4:=(holds_andW hc).1
   rw[hn] at h4
   exact h4
  have h5:=condW_of h4 (w_not (w_lt w_lit (w_len_list (w_arg rfl))))
  rw[zt4] at h5
  refine Nat.le_of_not_lt fun q=>?_
  have q':(n:Int)<((ns.length:Nat):Int):=by omega
  first
   |(rw[zD2 q'] at h5;exact absurd h5 (by decide))
   |(simp at h5;omega)
 cases hwl with
 |cons w1 w2=>
  cases w2
  cases w1 with
  |list ho hall=>exact⟨_,_,ns,rfl,rfl,ho,tE ns _ hall,hlen⟩
theorem iO (l:OpenLaw)(args:List WData):l.row.toRowW.claim.post args (.bool true) args=true:=
 postW_of (r:=l.row.toRowW) (X:=(true == true))
  (show WShape.has [] (.bool true) .bool=true by first|rfl|decide|simp[WShape.has,WShape.arms,WShape.armsAll])
  (show (WTm.eq .res (.lit (.bool true))).value [] {args:=args,res:=some (.bool true),after:=args}=some (.bool (true == true)) from w_eq_bool (w_res rfl) w_lit) rfl
theorem attach_call {l:OpenLaw}{n:Nat}{q:Program}{loose:List Str}{XP:(Str→Option Value)→Heap→Prop}{YP:World→Heap→Prop}{d:DefRec}
  (hn:l.most=some n) (hdf:d.params.defaults=[])
  (call:∀(w:World) (s₀ s₁:Shared) (mg mb:Str→Option Value) (fa:Addr) (o:Obj) (pm cd doc:Value) (a:Addr) (vs:List Value) (ns:List Int),
   Ground q loose [] XP w s₀ mg mb s₁.heap→YP w s₁.heap→
   s₁.heap.get? fa=some o→o.data=.func (docDef d.name d.params d.body d.scope pm cd doc)→s₁.heap.CodeRec cd d.name→mg d.name=some (.ref fa)→
   s₁.heap.get? a=some {cls:=.type "list",data:=.seq vs.toArray}→IntsAre vs ns→ns.length≤n→s₁.gens=#[]→
   codeAny (model l.prog w) callerA (.call (.ref fa) ⟨[.ref a],[]⟩) (fun r s'=>r=.ok (.ret (.bool true))∧OldK s₁.heap s'.heap∧s'.os=s₁.os∧AllBare s'.gens) s₁):
  WalkO q loose XP YP l.row.toRowW d [] (fun f vs=>PySem.call f vs):=by
 intro w s₀ s₁ mg mb G Y fa o pm cd doc dV kV ho hd hcd hD hmg hg args vals as hpre hlay hrd hwl hlo
 obtain rfl:dV=.none:=Dflts.none hD hdf
 obtain rfl:kV=.none:=Dflts.noKw hD
 obtain⟨a,vs,ns,rfl,rfl,hobj,hints,hlen⟩:=jZ hn hpre hwl
 refine enter_call (zD0 (call w s₀ s₁ mg mb fa o pm cd doc a vs ns G Y ho (fd_plain hd) hcd hmg hobj hints hlen hg) fun r s' hq=>?_)
 obtain⟨rfl,h2,h3,h4⟩:=hq
 exact⟨.inl ⟨.bool true,.bool true,[],rfl,fun _=>rfl,.bool true,iO l _,fun _=>⟨List.Pairwise.nil,fun _ hm=>(nomatch hm)⟩⟩,h2,h3,h4⟩
section
variable {prog:Program}{w:World}{A:Around}{E:Value→Shared→Prop}{s:Shared}{K:Frag}
end
end Att
namespace L2
open PySem PySem.Spec PyProof.Rows
theorem rT :∀{vs:List Value} {ns:List Int},IntsAre vs ns→Vals (ns.map V.int) vs
 |_,_,.nil=>.nil
 |_,_,.cons n t h=>.cons ⟨t,rfl⟩ (rT h)
def inClass (s:Stmt)(j:Nat):Stmt:=match s with
 |.ClassDef _ _ _ body _ _ _ _ _ _ _=>body.getD j (.Pass ⟨0,0,0,0⟩)
 |_=>.Pass ⟨0,0,0,0⟩
def zN (s:Stmt):Arguments:=match s with
 |.FunctionDef _ a _ _ _ _ _ _ _ _=>a
 |_=>{posonlyargs:=[],args:=[],vararg:=none,kwonlyargs:=[],kw_defaults:=[],kwarg:=none,defaults:=[]}
def zw (s:Stmt):List Stmt:=match s with
 |.FunctionDef _ _ b _ _ _ _ _ _ _=>b
 |_=>[]
def zb (s:Stmt):Scope:=match s with
 |.FunctionDef _ _ _ _ _ _ sc _ _ _=>sc
 |_=>{kind:=.function,names:=[],isGenerator:=false,isCoroutine:=false}
abbrev CX0 :CXT:=fun _ _ _ _ _ _=>False
abbrev E0 :XK:=fun _ _ _=>False
theorem yb {X:Cx}:Passes CX0 X E0:=fun _ _ _ _ _ _ _ h=>h.elim
structure Fun (K:PySem.W.Frag)(x qual:Str)(st:Stmt)(f:Addr)(fd:FuncData):Prop where
 ex:∃(oc:Value) (od:Option Addr) (kV doc pm:Value) (an:Option Addr) (cdv ct:Value) (osl:Array (Option Value)),
  fd=PySem.W.fnOf x qual (zN st) (zw st) (zb st) .none kV doc pm an cdv ct∧K.lookup f=some ⟨oc,od,.func fd,osl⟩∧PySem.W.codeIn K cdv qual=true
 kp:PySem.W.keepIn K (.ref f)=true
section
variable {P:Program}{w:World}{K:PySem.W.Frag}{mg:Str→Option Value}{base:Heap}
theorem Fun.ok {x qual:Str}{st:Stmt}{f:Addr}{fd:FuncData}{N ps:List Str}{k:Nat}{sp:Sp}(F:Fun K x qual st f fd)(S:zl N ps (zb st))(len:∀vs H Q E,sp vs H Q E→vs.length=ps.length)
  (hbody:∀(cdv:Value) (A:Around) (outer:List Env) (s:Shared) (H:Hp) (vs:List V) (Q:VK) (E:XK),zK k (A.deeper (envOfC qual (zb st) s.heap.objs.size f cdv))→sp vs H Q E→
   ∃t,PSs (xy CX0 P w K mg base N qual (zb st) f cdv A outer s H E).nox (zw st) t∧t {nx:=fun _ H'=>Q .non H',rt:=Q} (start N vs) H):zA P w K mg base CX0 (k+1) f fd ps sp:=by
 obtain⟨oc,od,kV,doc,pm,an,cdv,ct,osl,rfl,lk,hcd⟩:=F.ex
 refine kE lk hcd S len fun A outer s H vs Q E hr hsp=>?_
 obtain⟨t,h,q⟩:=hbody cdv A outer s H vs Q E hr hsp
 exact⟨t,h.nox,q⟩
theorem Fun.binds {x qual:Str}{st:Stmt}{f:Addr}{fd:FuncData}{ps:List Str}(F:Fun K x qual st f fd)
  (h:∀(kV doc pm:Value) (an:Option Addr) (cdv ct:Value) (us:List Value),us.length=ps.length→bindArgs (PySem.W.fnOf x qual (zN st) (zw st) (zb st) .none kV doc pm an cdv ct) ⟨us,[]⟩=pure (ps.zip us)):Binds K fd ps []:=by
 obtain⟨oc,od,kV,doc,pm,an,cdv,ct,osl,rfl,lk,hcd⟩:=F.ex
 exact .all (h kV doc pm an cdv ct)
theorem mP {x qual:Str}{st:Stmt}{f:Addr}{oc:Value}{od an:Option Addr}{osl:Array (Option Value)}{kV doc pm cdv ct:Value}(l:K.lookup f=some ⟨oc,od,.func (PySem.W.fnOf x qual (zN st) (zw st) (zb st) .none kV doc pm an cdv ct),osl⟩)
  (c:PySem.W.codeIn K cdv qual=true) (k:PySem.W.keepIn K (.ref f)=true):Fun K x qual st f (PySem.W.fnOf x qual (zN st) (zw st) (zb st) .none kV doc pm an cdv ct):=⟨⟨oc,od,kV,doc,pm,an,cdv,ct,osl,rfl,l,c⟩,k⟩
end
theorem yM {n:Nat}(h:n≤1000):n<sizeLine:=Nat.lt_of_le_of_lt h (by decide)
section
variable {X:Cx}
theorem pv (i:Nat){x:Str}{pos:Pos}(hN:X.N[i]?=some x:=by rfl)(hv:Vis X.env.scope x:=by first|exact Or.inl rfl|exact Or.inr (Or.inl rfl)|exact Or.inr (Or.inr rfl))(hd:(x == ("__debug__":Str))=false:=by decide)
  (hcd:(x == ("__classdict__":Str))=false:=by decide):PE X (.Name x pos) (zh1 i):=yI hN hv hd hcd
end
theorem rG {A B:Prop}(h:B):if false=true then A else B:=by
 rw[if_neg zu4]
 exact h
theorem rj {A B:Prop}(h:A):if true=true then A else B:=by
 rw[if_pos rfl]
 exact h
theorem yz {c A B:Prop}[Decidable c](h1:c→A)(h2:¬c→B):if c then A else B:=by
 by_cases h:c
 ·rw[if_pos h]
  exact h1 h
 ·rw[if_neg h]
  exact h2 h
def zy (H H':Hp):Prop:=∀b o,H b=some o→H' b=some o
theorem zy.refl (H:Hp):zy H H:=fun _ _ h=>h
theorem zy.trans {H H1 H2:Hp}(a:zy H H1)(b:zy H1 H2):zy H H2:=fun c o h=>b c o (a c o h)
theorem zy.free {H H':Hp}(e:zy H H'){l:Addr}(h:H' l=Option.none):H l=Option.none:=by
 cases q:H l with
 |none=>rfl
 |some o=>
  rw[e l o q] at h
  cases h
theorem zy.seq {K:PySem.W.Frag}{H H':Hp}{a:Addr}{xs:List V}(e:zy H H')(h:SqL K H a xs):SqL K H' a xs:=by
 rcases h with (h|⟨o,h⟩)|h
 ·exact .inl (.inl (e _ _ h))
 ·exact .inl (.inr ⟨o,e _ _ h⟩)
 ·exact .inr h
def vO (cells:List (Str×Addr)):List (Str×NameKind)→List (Str×Addr)→List (Str×Addr)
 |[],acc=>acc
 |(n,k)::r,acc=>vO cells r (if k=.free then (n,(cells.lookup n).getD 0)::acc else acc)
theorem vM {env:Env}{scope:Scope}(h:∀y∈scope.names,y.2=.free→∃c,env.cells.lookup y.1=some c):
  closureFor scope env=pure (vO env.cells scope.names []):=by
 have key:∀(ns:List (Str×NameKind)) (acc:List (Str×Addr)),(∀y∈ns,y.2=.free→∃c,env.cells.lookup y.1=some c)→
   (forIn ns acc fun (x:Str×NameKind) (r:List (Str×Addr))=>(if (x.2 == NameKind.free)=true then (do let a ←cellOf env x.1;pure (ForInStep.yield ((x.1,a)::r))) else pure (ForInStep.yield r):Sem (ForInStep (List (Str×Addr)))))=pure (vO env.cells ns acc):=by
  intro ns
  induction ns with
  |nil=>intro acc _;rfl
  |cons y r ih=>
   intro acc hy
   obtain⟨n,k⟩:=y
   rw[zE4]
   have hr:∀z∈r,z.2=.free→∃c,env.cells.lookup z.1=some c:=fun z hz=>hy z (zu3 _ hz)
   by_cases hk:k=.free
   ·subst hk
    obtain⟨c,hc⟩:=hy (n,.free) zv5 rfl
    have e1:cellOf env n=pure c:=by
     unfold cellOf
     rw[hc]
    have e2:((NameKind.free == NameKind.free)=true):=rfl
    simp only[e2,if_true,e1,pure_bind]
    rw[ih _ hr]
    show _=pure (vO env.cells r (if NameKind.free=NameKind.free then (n,(env.cells.lookup n).getD 0)::acc else acc))
    rw[if_pos rfl,hc]
    rfl
   ·have e2:(k == NameKind.free)=false:=by simpa using hk
    simp only[e2,zA5,zG2,pure_bind]
    rw[ih _ hr]
    show _=pure (vO env.cells r (if k=NameKind.free then (n,(env.cells.lookup n).getD 0)::acc else acc))
    rw[if_neg hk]
 have q:=key scope.names [] h
 unfold closureFor
 simp only[] at q ⊢
 rw[show (forIn scope.names ([]:List (Str×Addr)) fun (x:Str×NameKind) (r:List (Str×Addr))=>_)=_ from q]
 rfl
theorem nN {cells:List (Str×Addr)}:∀(ns:List (Str×NameKind)) (acc:List (Str×Addr)),(∀y∈ns,y.2=.free→∃c,cells.lookup y.1=some c)→
  ∀x c,(x,c)∈vO cells ns acc→(x,c)∈acc∨((x,NameKind.free)∈ns∧cells.lookup x=some c)
 |[],acc,_,x,c,h=>.inl h
 |(n,k)::r,acc,hy,x,c,h=>by
  have hr:∀z∈r,z.2=.free→∃c,cells.lookup z.1=some c:=fun z hz=>hy z (zu3 _ hz)
  have h':(x,c)∈vO cells r (if k=.free then (n,(cells.lookup n).getD 0)::acc else acc):=h
  rcases nN r _ hr x c h' with q|⟨q1,q2⟩
  ·by_cases hk:k=.free
   ·rw[if_pos hk] at q
    rcases zu1.mp q with e|q
    ·obtain⟨c',hc⟩:=hy (n,k) zv5 hk
     have e1:x=n:=congrArg Prod.fst e
     have e2:c=(cells.lookup n).getD 0:=congrArg Prod.snd e
     have hc':cells.lookup n=some c':=hc
     rw[hc'] at e2
     have e3:c=c':=e2
     subst e1 e3 hk
     exact .inr ⟨zv5,hc'⟩
    ·exact .inl q
   ·rw[if_neg hk] at q
    exact .inl q
  ·exact .inr ⟨zu3 _ q1,q2⟩
theorem nG {cells:List (Str×Addr)}:∀(ns:List (Str×NameKind)) (acc:List (Str×Addr)) (p:Str×Addr),p∈acc→p∈vO cells ns acc
 |[],_,_,h=>h
 |(n,k)::r,acc,p,h=>by
  show p∈vO cells r (if k=.free then (n,(cells.lookup n).getD 0)::acc else acc)
  refine nG r _ p ?_
  split
  ·exact zu3 _ h
  ·exact h
theorem ni {cells:List (Str×Addr)}:∀(ns:List (Str×NameKind)) (acc:List (Str×Addr)) (x:Str),(x,NameKind.free)∈ns→∃c,(x,c)∈vO cells ns acc
 |[],_,_,h=>by simp at h
 |(n,k)::r,acc,x,h=>by
  show ∃c,(x,c)∈vO cells r (if k=.free then (n,(cells.lookup n).getD 0)::acc else acc)
  rcases zu1.mp h with e|h
  ·have e1:x=n:=congrArg Prod.fst e
   have e2:NameKind.free=k:=congrArg Prod.snd e
   subst e1 e2
   rw[if_pos rfl]
   exact⟨_,nG r _ _ zv5⟩
  ·exact ni r _ x h
theorem mem_lookup {x:Str}{c:Addr}:∀{l:List (Str×Addr)},(x,c)∈l→∃d,l.lookup x=some d
 |[],h=>by simp at h
 |(n,a)::r,h=>by
  rw[zx0]
  cases e:x == n with
  |true=>exact⟨a,rfl⟩
  |false=>
   rcases zu1.mp h with q|q
   ·have e1:x=n:=congrArg Prod.fst q
    rw[e1] at e
    simp at e
   ·exact mem_lookup q
structure zL (XN:List Str)(xs:Scope)(N:List Str)(imp:List (Option Nat))(scope:Scope):Prop where
 kind:scope.kind=.function
 nd:N.Nodup
 nocell:∀y∈scope.names,y.2≠.cell
 locs:∀y∈scope.names,y.2=.local→scope.names.lookup y.1=some .local
 frees:∀y∈scope.names,y.2=.free→xs.names.lookup y.1=some .cell∨xs.names.lookup y.1=some .free
 len:imp.length=N.length
 impsB:((imp.zip N).all fun p=>match p.1 with|none=>true|some j=>XN[j]? == some p.2&&scope.names.lookup p.2 == some .free)=true
theorem zL.imps {XN N:List Str}{xs scope:Scope}{imp:List (Option Nat)}(S:zL XN xs N imp scope):∀(i j:Nat),imp[i]?=some (some j)→∃x,N[i]?=some x∧XN[j]?=some x∧scope.names.lookup x=some .free:=by
 intro i j h
 have hi:i<imp.length:=(zt8.mp h).1
 have hn:i<N.length:=by rw[←S.len];exact hi
 have hx:N[i]?=some N[i]:=zt5 hn
 have hm:(some j,N[i])∈imp.zip N:=by
  have hz:(imp.zip N)[i]?=some (some j,N[i]):=by
   rw[List.getElem?_zip_eq_some]
   exact⟨h,hx⟩
  exact zy7 hz
 have q:=zD4.mp S.impsB _ hm
 have q':(XN[j]? == some N[i]&&scope.names.lookup N[i]==some .free)=true:=q
 rw[zv6] at q'
 exact⟨N[i],hx,eq_of_beq q'.1,eq_of_beq q'.2⟩
def we (imp:List (Option Nat))(σ:St):St:=imp.map fun o=>o.bind fun j=>(σ[j]?).bind id
theorem jK {imp:List (Option Nat)}{σ:St}{i:Nat}{v:V}(h:(we imp σ)[i]?=some (some v)):∃j,imp[i]?=some (some j)∧σ[j]?=some (some v):=by
 unfold we at h
 rw[zv2] at h
 cases e:imp[i]? with
 |none=>rw[e] at h;cases h
 |some o=>
  rw[e] at h
  have h':(o.bind fun j=>(σ[j]?).bind id)=some v:=zw0 h
  cases o with
  |none=>cases h'
  |some j=>
   have h2:(σ[j]?).bind id=some v:=h'
   cases e2:σ[j]? with
   |none=>rw[e2] at h2;cases h2
   |some w=>
    rw[e2] at h2
    have h3:w=some v:=h2
    exact⟨j,rfl,by rw[e2,h3]⟩
def Cx.comp (X:Cx)(N:List Str)(scope:Scope)(C:Addr)(s2:Shared)(H2:Hp)(fp:List Addr):Cx where
 prog:=X.prog
 w:=X.w
 K:=X.K
 mg:=X.mg
 base:=X.base
 A:=X.A
 N:=N
 s₀:=s2
 H₀:=H2
 env:=compEnvC scope (vO X.env.cells scope.names []) C X.env
 outer:=X.stack
 stack:=X.stack
 ex:=fp
 fn:=fun _=>false
 calm:=X.calm
 pn:=[]
 xe:=fun _ _=>False
theorem ux {env:Env}:∀{names:List (Str×NameKind)} {x:Str},
  (names.map fun (n,k)=>if (k == NameKind.free&&env.scope.kind == .function&&env.kindOf n == some .cell) then (n,NameKind.cell) else (n,k)).lookup x=some .cell∨
  (names.map fun (n,k)=>if (k == NameKind.free&&env.scope.kind == .function&&env.kindOf n == some .cell) then (n,NameKind.cell) else (n,k)).lookup x=some .free→
  (∀y∈names,y.2≠.cell)→(x,NameKind.free)∈names
 |[],x,h,_=>by simp at h
 |(n,k)::r,x,h,hc=>by
  have ih:=@ux env r x
  rw[zy1] at h
  dsimp only at h
  by_cases hx:x=n
  ·subst hx
   by_cases hk:k=.free
   ·subst hk;exact zv5
   ·have hk':(k == NameKind.free)=false:=by simpa using hk
    simp only[hk',zz6,zA5,zG2,zx0,beq_self_eq_true,if_true] at h
    rcases h with h|h
    ·have e:k=.cell:=zw0 h
     exact absurd e (hc (x,k) zv5)
    ·have e:k=.free:=zw0 h
     exact absurd e hk
  ·have hxn:(x == n)=false:=by simpa using hx
   have step:∀(b:Bool) (l:List (Str×NameKind)),List.lookup x ((if b=true then (n,NameKind.cell) else (n,k))::l)=l.lookup x:=fun b l=>by
    cases b<;>simp[zx0,hxn]
   rw[step] at h
   exact zu3 _ (ih h fun y hy=>hc y (zu3 _ hy))
theorem uV {env:Env}:∀{names:List (Str×NameKind)} {x:Str},names.lookup x=some .free→
  (names.map fun (n,k)=>if (k == NameKind.free&&env.scope.kind == .function&&env.kindOf n == some .cell) then (n,NameKind.cell) else (n,k)).lookup x=some .cell∨
  (names.map fun (n,k)=>if (k == NameKind.free&&env.scope.kind == .function&&env.kindOf n == some .cell) then (n,NameKind.cell) else (n,k)).lookup x=some .free
 |[],x,h=>by simp at h
 |(n,k)::r,x,h=>by
  have ih:=@uV env r x
  rw[zy1]
  dsimp only
  rw[zx0] at h
  cases hx:x == n with
  |true=>
   rw[hx] at h
   have e:k=.free:=zw0 h
   subst e
   by_cases hb:(NameKind.free == NameKind.free&&env.scope.kind == .function&&env.kindOf n == some .cell)=true
   ·left;rw[if_pos hb];simp[zx0,hx]
   ·right;rw[if_neg hb];simp[zx0,hx]
  |false=>
   rw[hx] at h
   have step:∀(b:Bool) (l:List (Str×NameKind)),List.lookup x ((if b=true then (n,NameKind.cell) else (n,k))::l)=l.lookup x:=fun b l=>by
    cases b<;>simp[zx0,hx]
   rw[step]
   exact ih h
section
variable {X:Cx}{pins:List (Addr×Obj)}{σ:St}{H2 H':Hp}{s2 s':Shared}{fp:List Addr}{N:List Str}{imp:List (Option Nat)}{scope:Scope}{C acc:Addr}
theorem vQ (I:Inv X pins σ H2 s2)(S:zL X.N X.env.scope N imp scope):∀y∈scope.names,y.2=.free→∃c,X.env.cells.lookup y.1=some c:=fun y hy hk=>I.ok.has y.1 (S.frees y hy hk)
theorem xx (I:Inv X pins σ H2 s2)(S:zL X.N X.env.scope N imp scope){x:Str}{c:Addr}(h:(vO X.env.cells scope.names []).lookup x=some c):(x,NameKind.free)∈scope.names∧X.env.cells.lookup x=some c:=by
 rcases nN scope.names [] (vQ I S) x c (zx5 h) with q|q
 ·exact absurd q (by simp)
 ·exact q
theorem uz (I:Inv X pins σ H2 s2)(S:zL X.N X.env.scope N imp scope){x:Str}(h:(x,NameKind.free)∈scope.names):∃c,(vO X.env.cells scope.names []).lookup x=some c:=by
 obtain⟨c,hc⟩:=ni (cells:=X.env.cells) scope.names [] x h
 exact mem_lookup hc
theorem dY {h1:Heap}{tk:Nat}{m:Str→Option Value}{n0:Nat}(I:Inv X pins σ H2 s2)(S:zL X.N X.env.scope N imp scope)(hf:∀b∈fp,xq X pins H2 b)(ho:∀b∈fp,∃o,s2.heap.get? b=some o)
  (hacc:acc=s2.heap.objs.size) (hC:C=s2.heap.objs.size+1) (old:∀b o,s2.heap.get? b=some o→h1.get? b=some o) (hn:h1.Ns C m)
  (hl:h1.get? acc=some {cls:=.type "list",data:=.seq ([]:List Value).toArray n0}):
  Inv (X.comp N scope C s2 H2 fp) [] (we imp σ) (upd H2 acc (.lst [])) {s2 with heap:=h1,toks:=tk}:=by
 have fa:H2 acc=none:=I.hok.fresh (by rw[hacc];exact zt9 _)
 have cac:C≠acc:=by rw[hC,hacc];exact Nat.succ_ne_self _
 have clt:∀x c,X.env.cells.lookup x=some c→c<s2.heap.objs.size:=fun x c e=>by
  obtain⟨v,q⟩:=I.cell x c e
  exact q.lt
 refine⟨⟨I.ok.mod,S.kind,I.ok.glob,I.ok.blt,?above,?inj,?has,?cab,I.ok.hd,I.ok.frames,.inl rfl,?exf,fun b o e=>I.bs b o e,zx7 I.ok.bsz I.sz,?noex,?exfs,I.stack,I.stkFree⟩,
  rfl,I.bare,Un.laid old (by rw[hacc];exact zt9 _) fa,⟨m,hn,?loc⟩,?cell,?free,?freeC,fun p hp=>absurd (show p∈([]:List (Addr×Obj)) from hp) (by simp),I.hok.laid old (by rw[hacc];exact zt9 _) ⟨zv3 _,[],n0,.nil,hl⟩,?len⟩
 case above=>show s2.heap.objs.size≤C;rw[hC];exact zB7 _
 case inj=>exact fun x y c h1 h2=>I.ok.inj x y c (xx I S h1).2 (xx I S h2).2
 case has=>exact fun x hx=>uz I S (ux (env:=X.env) hx S.nocell)
 case cab=>exact fun x c h _=>absurd h (by show ¬(false=true);simp)
 case exf=>
  intro b hb
  obtain⟨o,hob⟩:=ho b hb
  refine⟨?_,fun x c e=>(hf b hb).2.2.2.2.1 x c (xx I S e).2⟩
  show b≠C
  rw[hC]
  exact zv4 (Nat.lt_succ_of_lt (zu0 hob))
 case noex=>
  intro b o e hb
  rcases (hf b hb).2.2.2.1 with z|z
  ·exact I.ok.noex b o e z
  ·exact absurd (zv1 (zu0 e) (zx7 I.ok.bsz z)) (zz4 _)
 case exfs=>
  intro b hb hz
  rcases zu1.mp (I.stkSub b hz) with e|e
  ·exact (hf b hb).2.1 e
  ·exact (hf b hb).2.2.1 e
 case loc=>
  intro i x v e1 e2 e3
  obtain⟨j,q1,q2⟩:=jK e2
  obtain⟨y,n1,n2,n3⟩:=S.imps i j q1
  have n1':(X.comp N scope C s2 H2 fp).N[i]?=some y:=n1
  rw[n1'] at e1
  have exy:y=x:=zw0 e1
  subst exy
  have hfr:=S.frees (y,.free) (zx5 n3) rfl
  obtain⟨mX,hnX,hlX⟩:=I.loc
  obtain⟨u,r,l⟩:=hlX j y v n2 q2 (.inr hfr)
  refine⟨u,r,?_⟩
  rcases l with ⟨k,_⟩|⟨k,c,e,z⟩
  ·have k':X.env.scope.names.lookup y=some .local:=k
   rcases hfr with z|z
   ·have z':X.env.scope.names.lookup y=some .cell:=z
    rw[k'] at z';cases z'
   ·have z':X.env.scope.names.lookup y=some .free:=z
    rw[k'] at z';cases z'
  ·obtain⟨d,hd⟩:=uz I S (zx5 n3)
   have hd2:=(xx I S hd).2
   rw[e] at hd2
   have edc:c=d:=zw0 hd2
   subst edc
   exact .inr ⟨uV (env:=X.env) n3,c,hd,z.keeps old⟩
 case cell=>
  intro x c e
  obtain⟨v,q⟩:=I.cell x c (xx I S e).2
  exact⟨v,q.keeps old⟩
 case free=>
  show upd H2 acc _ C=none
  rw[zg cac]
  exact I.hok.fresh (by rw[hC];exact zB7 _)
 case freeC=>
  intro x c e
  have e':=(xx I S e).2
  have hlt:=clt x c e'
  show upd H2 acc _ c=none
  rw[zg (by rw[hacc];exact zv4 hlt)]
  exact I.freeC x c e'
 case len=>
  show (we imp σ).length=N.length
  unfold we
  rw[zt4]
  exact S.len
theorem ic {pl:List (Addr×Obj)}{τ:St}(I:Inv X pins σ H2 s2)(hf:∀b∈fp,xq X pins H2 b)(J:Inv (X.comp N scope C s2 H2 fp) pl τ H' s'):Inv X pins σ H' s':=
 I.call' (ch:=fp) J.os J.base J.hok J.bare fun b hb=>⟨(hf b hb).2.2.2.1,(hf b hb).2.1,(hf b hb).2.2.2.2.1,(hf b hb).2.2.2.2.2⟩
end
section
variable {prog:Program}{w:World}{A:Around}{R:Result→Shared→Prop}{s:Shared}
theorem pG {elt target iter:Expr}{ifs:List Expr}{scope:Scope}{pos:Pos}{it acc:Value}{env:Env}(I:Nat→Shared→Prop)
  (turn:∀n s,I n s→wpAny (model prog w) A (pyNext it) (fun r s1=>match r with
   |none=>R (.ok .next) s1
   |some v=>wpAny (model prog w) A (letOwnedTupleGo target it v) (fun _ s2=>wpAny (model prog w) A (assign target env v) (fun _ s3=>
     wpAny (model prog w) A (forIn ifs true fun c r=>if r=true then do let ok ←isTrue c env (eval c env);pure (ForInStep.yield ok) else pure (ForInStep.yield r)) (fun ok s4=>
      if ok=true then wpAny (model prog w) A (eval elt env) (fun x s5=>
       wpAny (model prog w) A (call (.builtin "list.append") [acc,x]) (fun _ s6=>∃m,m<n∧I m s6) (fun _ _=>False) s5) (fun _ _=>False) s4
      else ∃m,m<n∧I m s4) (fun _ _=>False) s3) (fun _ _=>False) s2) (fun _ _=>False) s1) (fun _ _=>False) s)
  (n:Nat) (h:I n s):codeAny (model prog w) A (.compLoop (.ListComp elt [⟨target,iter,ifs,0⟩] scope pos) 0 it acc env) R s:=by
 refine codeAny_loop rfl I (fun n s hI=>?_) n h
 show wpAny _ A ((compTurn (.ListComp elt [⟨target,iter,ifs,0⟩] scope pos) 0 it acc env).onRaise (fun x=>do noteFrame x env;theTreesLotGoes x)) _ _ s
 refine wpAny_noted ?_
 rw[compTurn_list]
 refine zt2 (zD9 (zt2 (zw4 (turn n s hI) (fun r s1 h1=>?_) fun _ _ h'=>False.elim h')))
 cases r with
 |none=>exact zt6 h1
 |some v=>
  refine zt2 (zw4 h1 (fun _ s2 h2=>?_) fun _ _ h'=>False.elim h')
  refine zt2 (zw4 h2 (fun _ s3 h3=>zt2 (zw4 h3 (fun ok s4 h4=>?_) fun _ _ h'=>False.elim h')) fun _ _ h'=>False.elim h')
  cases ok with
  |false=>exact zt6 ⟨rfl,h4⟩
  |true=>
   exact zt2 (zt2 (zw4 h4 (fun x s5 h5=>zt2 (zw4 h5 (fun _ s6 h6=>zt6 (zt6 ⟨rfl,h6⟩)) fun _ _ h'=>False.elim h')) fun _ _ h'=>False.elim h'))
end
def vp (Y:Cx)(ifs:List Expr)(t:TT):Prop:=
 ∀(pins:List (Addr×Obj)) (s:Shared) (σ:St) (H:Hp) (Q:Bool→Hp→Prop),Inv Y pins σ H s→t σ H Q→
  wpAny (model Y.prog Y.w) Y.A (forIn ifs true fun c r=>if r=true then do let ok ←isTrue c Y.env (eval c Y.env);pure (ForInStep.yield ok) else pure (ForInStep.yield r)) (TP Y pins σ Q) Y.xe s
def zr9 :TT:=fun _ H Q=>Q true H
theorem aB {Y:Cx}:vp Y [] zr9:=fun _ _ _ H _ I h=>wpAny_tests_nil ⟨H,I,h⟩
theorem jq {Y:Cx}{c:Expr}{t:TT}(h:PT Y c t):vp Y [c] t:=fun pins s σ H Q I q=>wpAny_tests_one (h pins s σ H Q I q)
def qE (J:It)(acc:Addr)(g:TG)(tt:TT)(te:TE)(τ0:St)(H0:Hp)(Q:VK):Prop:=
 ∃W:Nat→Nat→List V→St→Hp→Prop,(∃m,W 0 m [] τ0 H0)∧∀i m ys τ H2,W i m ys τ H2→
  (J.stop i H2∧Q (.ref acc) H2)∨(J.go i H2∧∃N:List V→St→Hp→Prop,(∀ys' τ' H',N ys' τ' H'→∃m',m'<m∧W (i+1) m' ys' τ' H')∧
   ∀x H3,J.yld i H2 x H3→g x τ H3 fun τ2 H4=>tt τ2 H4 fun c H5=>
    if c=true then te τ2 H5 fun y H6=>H6 acc=some (.lst ys)∧ys.length<sizeLine∧N (ys++[y]) τ2 (upd H6 acc (.lst (ys++[y]))) else N ys τ2 H5)
def eJ (wi:TI)(imp:List (Option Nat))(g:TG)(tt:TT)(te:TE):TE:=fun σ H Q=>wi σ H fun J H1=>∀acc,H1 acc=none→qE J acc g tt te (we imp σ) (upd H1 acc (.lst [])) Q
section
variable {X:Cx}{pins:List (Addr×Obj)}{σ:St}{elt iter tg:Expr}{ifs:List Expr}{scope:Scope}{pos:Pos}{wi:TI}{g:TG}{tt:TT}{te:TE}{N:List Str}{imp:List (Option Nat)}
theorem sU {H2:Hp}{s2:Shared}{it:Addr}{fp:List Addr}{tn:Nat→Heap→Prop}{J:It}{RR:Value→Addr→Result→Shared→Prop}{E:Value→Shared→Prop}{Q:VK}
  (hc:X.calm=true) (S:zL X.N X.env.scope N imp scope) (hg:∀C s2 H2 fp,PG (X.comp N scope C s2 H2 fp) tg g) (ht:∀C s2 H2 fp,vp (X.comp N scope C s2 H2 fp) ifs tt) (he:∀C s2 H2 fp,PE (X.comp N scope C s2 H2 fp) elt te)
  (I2:Inv X pins σ H2 s2) (T:Turn X.prog X.w X.K tg J fp it tn) (st2:tn 0 s2.heap) (f2:∀b∈fp,xq X pins H2 b)
  (hW:∀acc,H2 acc=none→qE J acc g tt te (we imp σ) (upd H2 acc (.lst [])) Q)
  (hRR:∀a C H' s' m,Inv X pins σ H' s'→s'.heap.Ns C m→xq X pins H' C→Q (.ref a) H'→RR (.ref a) C (.ok .next) s'):
  wpAny (model X.prog X.w) X.A (newList []) (fun acc s3=>wpAny (model X.prog X.w) X.A (newFunctionEnv scope X.env.globals (vO X.env.cells scope.names []) [] X.env.qual none .none (some X.env)) (fun cenv s4=>
   codeAny (model X.prog X.w) X.A (.compStart (.ListComp elt [⟨tg,iter,ifs,0⟩] scope pos) 0 (.ref it) acc {cenv with scope:=relabel scope X.env}) (RR acc cenv.locals) s4) E s3) E s2:=by
 refine wpAny_newObj_type (wpAny_newFunctionEnv S.nocell (by intro y hy;simp at hy) (fun h1 hns1 hsb1=>?_) S.kind)
 dsimp only at hns1 hsb1 ⊢
 generalize hHH:s2.heap.push {cls:=.type "list",dict:=none,data:=.seq ([]:List Value).toArray}=HH at hns1 hsb1 ⊢
 have hC:HH.objs.size=s2.heap.objs.size+1:=by rw[←hHH,zz7]
 have hDC:s2.heap.objs.size≠HH.objs.size:=by rw[hC];exact zv4 (zD3 _)
 have old:∀b o,s2.heap.get? b=some o→h1.get? b=some o:=fun b o e=>hsb1.extBut b o (by rw[hC];exact zv4 (Nat.lt_succ_of_lt (zu0 e))) (zt3 _ (hHH▸zt3 _ e))
 have hacc:h1.get? s2.heap.objs.size=some {cls:=.type "list",data:=.seq ([]:List Value).toArray}:=hsb1.extBut _ _ hDC (zt3 _ (hHH▸zu7 _ rfl))
 obtain⟨W,⟨m0,w0⟩,turn⟩:=hW s2.heap.objs.size I2.fresh
 generalize hCC:HH.objs.size=C at hns1 hsb1 hC hDC ⊢
 have ho:∀b∈fp,∃o,s2.heap.get? b=some o:=fun b hb=>let ⟨o,e,_⟩:=T.obj 0 _ st2 b hb;⟨o,e⟩
 generalize hacc0:s2.heap.objs.size=acc at *
 have loop:∀s3:Shared,s3={s2 with heap:=h1,toks:=s2.toks+([]:List (Str×Value)).length}→
   codeAny (model X.prog X.w) X.A (.compLoop (.ListComp elt [⟨tg,iter,ifs,0⟩] scope pos) 0 (.ref it) (.ref acc) (X.comp N scope C s2 H2 fp).env) (RR (.ref acc) C) s3:=by
  rintro s3 rfl
  have I3:Inv (X.comp N scope C s2 H2 fp) [] (we imp σ) (upd H2 acc (.lst [])) {s2 with heap:=h1,toks:=s2.toks+([]:List (Str×Value)).length}:=
   dY I2 S f2 ho hacc0.symm (by rw[hC,hacc0]) old hns1 hacc
  have fpn:∀b∈fp,upd H2 acc (.lst []) b=none:=fun b hb=>by
   obtain⟨o,e⟩:=ho b hb
   rw[zg (by rw[←hacc0];exact zv4 (zu0 e))]
   exact (f2 b hb).1
  have stat:∀{H':Hp},(∀b∈fp,H' b=none)→∀b∈fp,xq (X.comp N scope C s2 H2 fp) [] H' b:=fun hn b hb=>by
   obtain⟨e1,e2⟩:=I3.ok.exf b hb
   exact⟨hn b hb,e1,I3.ok.exfs b hb,.inl hb,e2,fun p hp=>absurd (show p∈([]:List (Addr×Obj)) from hp) (by simp)⟩
  refine pG (fun n s'=>∃i ys τ H',Inv (X.comp N scope C s2 H2 fp) [] τ H' s'∧tn i s'.heap∧(∀b∈fp,H' b=none)∧W i n ys τ H') ?_ m0
   ⟨0,[],_,_,I3,T.keep _ _ _ st2 fun b _ o e=>old b o e,fpn,w0⟩
  rintro n s4 ⟨i,ys,τ,H4,I4,st4,fr4,w4⟩
  rcases turn i n ys τ H4 w4 with ⟨stop,qn⟩|⟨go,NN,hN,step⟩
  ·refine zw4 (T.done (X.comp N scope C s2 H2 fp) rfl rfl rfl hc i [] s4 τ H4 (fun _ _=>False) I4 (stat fr4) st4 stop) (fun r s5 ⟨hr,I5⟩=>?_) fun _ _ z=>z
   subst hr
   obtain⟨m5,hn5,_⟩:=id I5.loc
   exact hRR acc C H4 s5 m5 (ic I2 f2 I5) hn5 (I2.fpOk (by rw[hC,hacc0];exact zB7 _) I5.free) qn
  ·refine zw4 (T.item (X.comp N scope C s2 H2 fp) rfl rfl rfl hc i [] s4 τ H4 (fun _ _=>False) I4 (stat fr4) st4 go) (fun r s5 ⟨u,hr,h5⟩=>?_) fun _ _ z=>z
   subst hr
   refine zw4 h5 (fun _ s6 ⟨x,H6,I6,r6,y6,st6,fr6⟩=>?_) fun _ _ z=>z
   have I6':=I6.pinned (stat fr6) (T.obj _ _ st6)
   refine zw4 (hg C s2 H2 fp _ s6 τ H6 x u _ I6' r6 (step x H6 y6)) (fun _ s7 ⟨τ7,H7,I7,q7⟩=>?_) fun _ _ z=>z
   refine zw4 (ht C s2 H2 fp _ s7 τ7 H7 _ I7 q7) (fun ok s8 ⟨H8,I8,q8⟩=>?_) fun _ _ z=>z
   have again:∀{ys9:List V} {H9:Hp} {s9:Shared},Inv (X.comp N scope C s2 H2 fp) ([]++sA fp s6.heap) τ7 H9 s9→NN ys9 τ7 H9→∃m,m<n∧∃i ys τ H',Inv (X.comp N scope C s2 H2 fp) [] τ H' s9∧tn i s9.heap∧(∀b∈fp,H' b=none)∧W i m ys τ H':=fun {ys9 H9 s9} I9 n9=>by
    obtain⟨m',hm,w9⟩:=hN ys9 τ7 H9 n9
    refine⟨m',hm,i+1,ys9,τ7,H9,I9.unpinned,T.keep _ _ _ st6 fun b hb o e=>(I9.pin (b,o) (zx3 _ (zx3 _ (wx hb e)))).1,fun b hb=>?_,w9⟩
    obtain⟨o,e,d⟩:=T.obj _ _ st6 b hb
    exact (I9.pin (b,o) (zx3 _ (zx3 _ (wx hb e)))).2.1
   cases ok with
   |false=>
    have q8':NN ys τ7 H8:=by
     have z:=q8
     rw[if_neg zu4] at z
     exact z
    rw[if_neg zu4]
    exact again I8 q8'
   |true=>
    rw[if_pos rfl] at q8 ⊢
    refine zw4 (he C s2 H2 fp _ s8 τ7 H8 _ I8 q8) (fun v s9 ⟨y,H9,I9,r9,a9,z9,q9⟩=>?_) fun _ _ z=>z
    refine zw4 (uC (X:=X.comp N scope C s2 H2 fp) _ s9 τ7 H9 (.ref acc) [y] (.ref acc) [v] (fun _ H10=>H10=upd H9 acc (.lst (ys++[y]))) I9 rfl (.cons r9 .nil) ⟨acc,ys,y,rfl,rfl,a9,z9,rfl⟩) (fun _ s10 ⟨_,H10,I10,_,e10⟩=>?_) fun _ _ z=>z
    subst e10
    exact again I10 q9
 exact codeAny_compStart_list (loop _ rfl) (T.self X.A 0 _ _ _ (T.keep _ _ _ st2 fun b _ o e=>old b o e) (loop _ rfl))
theorem aM (hc:X.calm=true)(S:zL X.N X.env.scope N imp scope)(hi:PI X tg iter wi)(hg:∀C s2 H2 fp,PG (X.comp N scope C s2 H2 fp) tg g)(ht:∀C s2 H2 fp,vp (X.comp N scope C s2 H2 fp) ifs tt)
  (he:∀C s2 H2 fp,PE (X.comp N scope C s2 H2 fp) elt te) (hs:∀x,foldedSetIterable iter X.env x=pure x:=by intro _;rfl):
  PE X (.ListComp elt [⟨tg,iter,ifs,0⟩] scope pos) (eJ wi imp g tt te):=by
 intro pins s σ H Q I h
 rw[eval_ListComp]
 refine wpAny_comprehension_free (use:=none) rfl hs (vM (vQ I S)) S.kind S.locs (thn (hi pins s σ H _ I h) fun v s1 h1=>thn h1 fun itv s2 h2=>?_)
 obtain⟨it,fp,tn,J,H2,e,I2,T,st2,f2,hW⟩:=h2
 subst e
 refine sU (RR:=fun acc C=>compPost (model X.prog X.w) X.A X.xe none (EP X pins σ Q) acc C) hc S hg ht he I2 T st2 f2 hW fun a C H' s' m I' hn f q=>?_
 refine⟨m,hn,fun h' sb=>?_⟩
 obtain⟨g0,g1,g2,g3,g4,g5⟩:=f
 exact⟨.ref a,H',I'.turned (t':=s'.toks) (it:=C) (fun b o hb e=>(sb.2 b hb).trans e) g0 g1 g3 g4 g5,rfl,q⟩
theorem dI {i:Nat}{x:Str}{px:Pos}{spos:Pos}(hc:X.calm=true)(S:zL X.N X.env.scope N imp scope)(hi:PI X tg iter wi)(hg:∀C s2 H2 fp,PG (X.comp N scope C s2 H2 fp) tg g)(ht:∀C s2 H2 fp,vp (X.comp N scope C s2 H2 fp) ifs tt)
  (he:∀C s2 H2 fp,PE (X.comp N scope C s2 H2 fp) elt te) (hN:X.N.Nodup) (hx:X.N[i]?=some x) (hl:Loc X.env.scope x) (hsw:swapsWith (.ListComp elt [⟨tg,iter,ifs,0⟩] scope pos) (some (.Name x px)) spos.line X.env=pure true:=by rfl)
  (hf:X.fn x=true∨X.env.scope.names.lookup x=some .local:=by first|exact .inl rfl|exact .inr rfl|assumption) (hs:∀x,foldedSetIterable iter X.env x=pure x:=by intro _;rfl):
  PS X (.Assign [.Name x px] (.ListComp elt [⟨tg,iter,ifs,0⟩] scope pos) spos) (zd3 (eJ wi imp g tt te) (qm i)):=by
 intro pins s σ H D I h
 rw[exec_Assign_Name_used _ _ _ _ hsw]
 refine zt2 (zD9 (zt2 ?_))
 show wpAny _ X.A (do let _ ←comprehension (.ListComp elt [⟨tg,iter,ifs,0⟩] scope pos) scope X.env _ (newList []) false (eval iter X.env) (some (assign (.Name x px) X.env))) _ _ s
 refine zt2 (zw4 (wpAny_comprehension_free (use:=some (assign (.Name x px) X.env)) (Q:=fun _ s'=>SP X pins D .next s') rfl hs (vM (vQ I S)) S.kind S.locs (thn (hi pins s σ H _ I h) fun v s1 h1=>thn h1 fun itv s2 h2=>?_))
  (fun _ s' hq=>zt6 (zt6 hq)) fun _ _ e=>e)
 obtain⟨it,fp,tn,J,H2,e,I2,T,st2,f2,hW⟩:=h2
 subst e
 refine sU (Q:=fun x H1=>qm i x σ H1 D.nx) (RR:=fun acc C=>compPost (model X.prog X.w) X.A X.xe (some (assign (.Name x px) X.env)) (fun _ s'=>SP X pins D .next s') acc C) hc S hg ht he I2 T st2 f2 hW fun a C H' s' m I' hn f q=>?_
 show wpAny _ X.A (assign (.Name x px) X.env (.ref a)) _ _ _
 obtain⟨g0,g1,g2,g3,g4,g5⟩:=f
 refine wpAny_assign_Name (qh I' hN hx hl (show RelV (.ref a) (.ref a) from rfl) (fun s4 I4 hch=>?_) hf)
 obtain⟨ad,sb,had⟩:=hch
 have hCa:C≠ad:=by
  rcases had with e|e
  ·rw[e];exact g1
  ·exact (g4 x ad e).symm
 refine⟨m,hn.sameBut sb hCa,fun h' sb2=>?_⟩
 exact⟨_,H',I4.turned (t':=s4.toks) (it:=C) (fun b o hb e=>(sb2.2 b hb).trans e) g0 g1 g3 g4 g5,q⟩
end
mutual
inductive DV (H:Hp):V→PyData→Prop where
 |non:DV H .non .none
 |bl (b:Bool):DV H (.bl b) (.bool b)
 |int (i:Int):DV H (.int i) (.int i)
 |str (x:Str):DV H (.str x) (.str x)
 |lst {a:Addr} {xs:List V} {ds:List PyData}:H a=some (.lst xs)→DVs H xs ds→DV H (.ref a) (.list ds)
 |tup {a:Addr} {xs:List V} {ds:List PyData}:H a=some (.tup xs)→DVs H xs ds→DV H (.ref a) (.tuple ds)
inductive DVs (H:Hp):List V→List PyData→Prop where
 |nil:DVs H [] []
 |cons {x:V} {xs:List V} {d:PyData} {ds:List PyData}:DV H x d→DVs H xs ds→DVs H (x::xs) (d::ds)
end
section
variable {X:Cx}{pins:List (Addr×Obj)}{σ:St}{H:Hp}{s:Shared}
mutual
theorem DV.reads (I:Inv X pins σ H s):∀{x:V} {d:PyData} {u:Value},DV H x d→RelV x u→∃as,Reads s.heap u d as
 |_,_,u,.non,r=>by cases (show u=Value.none from r);exact⟨_,.none⟩
 |_,_,u,.bl b,r=>by cases (show u=Value.bool b from r);exact⟨_,.bool b⟩
 |_,_,u,.int i,r=>by obtain⟨t,rfl⟩:=(show ∃t,u=Value.int i t from r);exact⟨_,.int i t⟩
 |_,_,u,.str x,r=>by obtain⟨t,rfl⟩:=(show ∃t,u=Value.str x t from r);exact⟨_,.str x t⟩
 |_,_,u,.lst (a:=a) hq hs,r=>by
  cases (show u=Value.ref a from r)
  obtain⟨its,rv,p,hz⟩:=I.list (SqL.of hq)
  obtain⟨o,ho,hc,n,hd⟩:=p.isList
  obtain⟨as,ra⟩:=DVs.reads I hs rv
  exact⟨_,.list ho hc hd (by simpa using ra)⟩
 |_,_,u,.tup (a:=a) hq hs,r=>by
  cases (show u=Value.ref a from r)
  obtain⟨its,rv,p,hz⟩:=I.tuple (SqT.of hq)
  obtain⟨o,ho,hc,n,hd⟩:=p
  obtain⟨as,ra⟩:=DVs.reads I hs rv
  exact⟨_,.tuple ho hc hd (by simpa using ra)⟩
theorem DVs.reads (I:Inv X pins σ H s):∀{xs:List V} {ds:List PyData} {us:List Value},DVs H xs ds→Vals xs us→∃as,ReadsAll s.heap us ds as
 |_,_,_,.nil,.nil=>⟨_,.nil⟩
 |_,_,_,.cons h hs,.cons r rs=>by
  obtain⟨as,ra⟩:=DV.reads I h r
  obtain⟨bs,rb⟩:=DVs.reads I hs rs
  exact⟨_,.cons ra rb⟩
end
end
mutual
theorem DV.same {H H':Hp}(e:zy H H'):∀{x:V} {d:PyData},DV H x d→DV H' x d
 |_,_,.non=>.non
 |_,_,.bl b=>.bl b
 |_,_,.int i=>.int i
 |_,_,.str x=>.str x
 |_,_,.lst hq hs=>.lst (e _ _ hq) (DVs.same e hs)
 |_,_,.tup hq hs=>.tup (e _ _ hq) (DVs.same e hs)
theorem DVs.same {H H':Hp}(e:zy H H'):∀{xs:List V} {ds:List PyData},DVs H xs ds→DVs H' xs ds
 |_,_,.nil=>.nil
 |_,_,.cons h hs=>.cons (DV.same e h) (DVs.same e hs)
end
theorem DVs.length {H:Hp}:∀{xs:List V} {ds:List PyData},DVs H xs ds→xs.length=ds.length
 |_,_,.nil=>rfl
 |_,_,.cons _ hs=>by rw[zv0,zv0,DVs.length hs]
def tyD :PyData→String
 |.none=>"NoneType"
 |.bool _=>"bool"
 |.int _=>"int"
 |.str _=>"str"
 |.list _=>"list"
 |.tuple _=>"tuple"
 |.dict _=>"dict"
theorem DV.ty {K:PySem.W.Frag}{H:Hp}{x:V}{d:PyData}(h:DV H x d):uv K H x (.type (tyD d)):=by
 cases h with
 |non=>exact .non
 |bl b=>exact .bl b
 |int i=>exact .int i
 |str x=>exact .str x
 |lst e _=>exact .lst e
 |tup e _=>exact .tup e
def isInt :PyData→Bool
 |.int _=>true
 |.bool _=>true
 |_=>false
def isBool :PyData→Bool
 |.bool _=>true
 |_=>false
def isStr :PyData→Bool
 |.str _=>true
 |_=>false
def isList :PyData→Bool
 |.list _=>true
 |_=>false
def ju :PyData→Bool
 |.tuple _=>true
 |_=>false
def rE (T:String)(d:PyData):Option Bool:=
 if T="int" then some (isInt d) else if T="bool" then some (isBool d) else if T="str" then some (isStr d) else if T="list" then some (isList d) else if T="tuple" then some (ju d) else none
def zd5 (t T:String):Option Bool:=if (Value.type t == Value.type T)=true then some true else if PySem.W.kitMeta T=true then (fastBuiltinMro t).map (·.contains (Value.type T)) else none
theorem dX (K:PySem.W.Frag)(t T:String):PySem.W.kitOne K (.type t) (.type T)=zd5 t T:=rfl
theorem eL :(["NoneType","bool","int","str","list","tuple"].all fun t=>["int","bool","str","list","tuple"].all fun T=>
  zd5 t T == some (if T="int" then t == "int"||t == "bool" else t == T))=true:=by decide +kernel
theorem zk1 (K:PySem.W.Frag){H:Hp}{x:V}{d:PyData}(h:DV H x d){T:String}{b:Bool}(e:rE T d=some b):PySem.W.kitOne K (.type (tyD d)) (.type T)=some b:=by
 rw[dX]
 have key:∀t∈["NoneType","bool","int","str","list","tuple"],∀T∈["int","bool","str","list","tuple"],zd5 t T=some (if T="int" then t == "int"||t == "bool" else t == T):=fun t ht T hT=>
  eq_of_beq (zD4.mp (zD4.mp eL t ht) T hT)
 have hd:tyD d∈["NoneType","bool","int","str","list","tuple"]:=by cases h<;>simp[tyD]
 unfold rE at e
 split at e
 ·rename_i eT
  subst eT
  rw[key _ hd "int" (by decide)]
  cases e
  cases h<;>rfl
 ·split at e
  ·rename_i eT
   subst eT
   rw[key _ hd "bool" (by decide)]
   cases e
   cases h<;>rfl
  ·split at e
   ·rename_i eT
    subst eT
    rw[key _ hd "str" (by decide)]
    cases e
    cases h<;>rfl
   ·split at e
    ·rename_i eT
     subst eT
     rw[key _ hd "list" (by decide)]
     cases e
     cases h<;>rfl
    ·split at e
     ·rename_i eT
      subst eT
      rw[key _ hd "tuple" (by decide)]
      cases e
      cases h<;>rfl
     ·cases e
section
variable {X:Cx}
def zp4 :R2:=fun x y H Q=>∃d e,DV H x d∧DV H y e∧SeqAt.shaped d=true∧SeqAt.shaped e=true∧Q (.bl (PyData.eqv d e)) H
def zo5 :R2:=fun x y H Q=>∃d e,DV H x d∧DV H y e∧SeqAt.shaped d=true∧SeqAt.shaped e=true∧Q (.bl (!PyData.eqv d e)) H
theorem vc (hu:X.A.units+64<cLine):OpR X (compareOp .Eq) zp4:=by
 intro pins s σ H x y v u Q I rx ry h
 obtain⟨d,e,hd,he,sd,se,q⟩:=h
 obtain⟨as,ra⟩:=hd.reads I rx
 obtain⟨bs,rb⟩:=he.reads I ry
 exact SeqAt.compareEq_shaped ra rb sd se hu ⟨.bl _,H,I,rfl,q⟩
theorem zd6 (hu:X.A.units+64<cLine):OpR X (compareOp .NotEq) zo5:=by
 intro pins s σ H x y v u Q I rx ry h
 obtain⟨d,e,hd,he,sd,se,q⟩:=h
 obtain⟨as,ra⟩:=hd.reads I rx
 obtain⟨bs,rb⟩:=he.reads I ry
 exact SeqAt.compareNe_shaped ra rb sd se hu ⟨.bl _,H,I,rfl,q⟩
theorem fA :xQ X (.builtin "isinstance") (fun xs H Q=>∃x T t b,xs=[x,.ty T]∧uv X.K H x t∧PySem.W.kitOne X.K t (.type T)=some b∧Q (.bl b) H):=by
 intro pins s σ H xs us Q I r h
 obtain⟨x,T,t,b,rfl,ty,e,q⟩:=h
 obtain⟨u,v,rfl,rx,ry⟩:=Vals.two r
 cases (show v=Value.type T from ry)
 exact jI I rx ty e fun tk=>⟨.bl b,H,I.tok tk,rfl,q⟩
theorem xu :xQ X (.builtin "isinstance") (fun xs H Q=>∃x T d b,xs=[x,.ty T]∧DV H x d∧rE T d=some b∧Q (.bl b) H):=by
 intro pins s σ H xs us Q I r h
 obtain⟨x,T,d,b,e,hd,ht,q⟩:=h
 exact fA pins s σ H xs us Q I r ⟨x,T,_,b,e,hd.ty,zk1 X.K hd ht,q⟩
def zp2 (i j:Int):Prop:=0<j∧j.natAbs.log2<9000
theorem rB :OpR X (binaryOp .FloorDiv) (rI zp2 fun i j=>.int (i / j)):=opI fun i j _ _ _ _ _ hc q=>by
 have h1:(0:Int)<j:=hc.1
 refine floordiv_int (Int.ne_of_gt h1) ?_ (.inl (PyProof.noPylong_of_log2 hc.2))
 rw[Int.fdiv_eq_ediv_of_nonneg _ (Int.le_of_lt h1)]
 exact q
abbrev big :Int:=115792089237316195423570985008687907853269984665640564039457584007913129639936
theorem log2_small {j:Int}(h0:0<j)(h:j<big):j.natAbs.log2<9000:=by
 have hn:j.natAbs≠0:=by omega
 have h2:j.natAbs<2 ^ 256:=by
  have e:(2:Nat) ^ 256=115792089237316195423570985008687907853269984665640564039457584007913129639936:=by decide +kernel
  rw[e]
  unfold big at h
  omega
 have h3:j.natAbs.log2<256:=(Nat.log2_lt hn).mpr h2
 omega
theorem oF :xQ X (.type "range") (fun xs H Q=>∃i j:Int,xs=[.int i,.int j]∧∀p,H p=none→Q (.ref p) (upd H p (.rng i j))):=by
 intro pins s σ H xs us Q I r h
 obtain⟨i,j,rfl,q⟩:=h
 obtain⟨u,v,rfl,⟨t,rfl⟩,⟨t',rfl⟩⟩:=Vals.two r
 refine call_range_2 ⟨.ref s.heap.objs.size,_,I.laid (o:=.rng i j) (fun b u e=>zt3 _ e) (zt9 _) ⟨t,t',s.toks,zu7 _ rfl⟩,rfl,q _ (I.hok.fresh (zt9 _))⟩
def zx (lo:Int)(n:Nat):List Int:=(List.range n).map fun i=>lo+(i:Nat)
theorem zi (lo:Int)(n:Nat):(zx lo n).length=n:=by simp[zx]
theorem vX {lo:Int}{n i:Nat}(h:i<n):(zx lo n)[i]?=some (lo+(i:Nat)):=by simp[zx,h]
theorem rJ {lo:Int}{n:Nat}{acc:Array Value}(h:ItemsOf (fun i v=>∃t,v=.int (lo+i*1) t) acc n):Vals ((zx lo n).map V.int) acc.toList:=by
 obtain⟨h1,h2⟩:=h
 have key:∀(xs:List V) (us:List Value),xs.length=us.length→(∀(i:Nat) (x:V) (u:Value),xs[i]?=some x→us[i]?=some u→RelV x u)→Vals xs us:=by
  intro xs
  induction xs with
  |nil=>intro us hl _;cases us with|nil=>exact .nil|cons _ _=>simp at hl
  |cons x xs ih=>
   intro us hl hr
   cases us with
   |nil=>simp at hl
   |cons u us=>exact .cons (hr 0 x u rfl rfl) (ih us (by simpa using hl) fun i x' u' e1 e2=>hr (i+1) x' u' (by simpa using e1) (by simpa using e2))
 refine key _ _ ?_ fun i x u e1 e2=>?_
 ·rw[zt4,zi]
  simp[h1]
 ·rw[zv2] at e1
  have hi:i<n:=by
   have:=(zt8.mp e2).1
   simp[h1] at this
   exact this
  rw[vX hi] at e1
  have e1':V.int (lo+(i:Nat))=x:=zw0 e1
  subst e1'
  obtain⟨t,ht⟩:=h2 i u (by simpa using e2)
  refine⟨t,?_⟩
  rw[ht,Int.mul_one]
theorem rH (hc:X.calm=true):xQ X (.type "list") (fun xs H Q=>∃(p:Addr) (lo hi:Int),xs=[.ref p]∧H p=some (.rng lo hi)∧(-(2 ^ 62)≤lo∧lo<2 ^ 62∧-(2 ^ 62)≤hi∧hi<2 ^ 62)∧(hi-lo).toNat≤sizeLine∧(hi-lo).toNat≤2 ^ 24∧
  ∀l,H l=none→Q (.ref l) (upd H l (.lst ((zx lo (hi-lo).toNat).map V.int)))):=by
 intro pins s σ H xs us Q I r h
 obtain⟨p,lo,hi,rfl,hp,⟨b1,b2,b3,b4⟩,hz,hz2,q⟩:=h
 obtain⟨u,rfl,rx⟩:=Vals.one r
 cases (show u=Value.ref p from rx)
 obtain⟨t,t',t'',e⟩:=(show yf X.prog X.w H s.heap p (.rng lo hi) from I.hok p _ hp)
 refine call_list_range (I.ok.hd hc) e (small_one b1 b2 b3 b4) (n:=(hi-lo).toNat) (by rw[rangeSize_one];split<;>omega) hz2 fun h' tk acc' c' hk hl hit=>?_
 refine⟨.ref s.heap.objs.size,_,I.laid (o:=.lst ((zx lo (hi-lo).toNat).map V.int)) (t':=tk) hk (zt9 _) ⟨by rw[zt4,zi];exact hz,acc'.toList,c',rJ hit,by simpa using hl⟩,rfl,q _ (I.hok.fresh (zt9 _))⟩
end
def iY (X:Cx)(body:List Stmt):TS:=fun D σ H=>∃t,PSs X body t∧t D σ H
theorem ym {X:Cx}{body:List Stmt}:PSs X body (iY X body):=fun pins s σ H D I ⟨t,p,q⟩=>p pins s σ H D I q
theorem zW {X:Cx}{st:Stmt}{rest:List Stmt}{D:Ends}{σ:St}{H:Hp}(M:St→Hp→Prop)(h1:∃t,PS X st t∧t {D with nx:=M} σ H)(h2:∀σ' H',M σ' H'→∃t,PSs X rest t∧t D σ' H'):
  ∃t,PSs X (st::rest) t∧t D σ H:=by
 obtain⟨t1,p1,q1⟩:=h1
 refine⟨fun D' σ' H'=>D'=D∧σ'=σ∧H'=H,?_,rfl,rfl,rfl⟩
 intro pins s σ' H' D' I h
 obtain⟨e1,e2,e3⟩:=h
 subst e1 e2 e3
 have step:PSs X (st::rest) (zm5 t1 fun D2 σ2 H2=>D2=D'∧M σ2 H2):=zJ p1 fun pins s σ2 H2 D2 I2 ⟨e,m⟩=>by
  subst e
  obtain⟨t2,p2,q2⟩:=h2 σ2 H2 m
  exact p2 pins s σ2 H2 _ I2 q2
 refine step pins s _ _ _ I ?_
 show t1 {D' with nx:=fun σ2 H2=>D'=D'∧M σ2 H2} _ _
 have e:(fun (σ2:St) (H2:Hp)=>D'=D'∧M σ2 H2)=M:=by
  funext σ2 H2
  exact propext ⟨fun z=>z.2,fun z=>⟨rfl,z⟩⟩
 rw[e]
 exact q1
theorem iC {K:PySem.W.Frag}{a acc:Addr}{xs:List V}{g:TG}{tt:TT}{te:TE}{Q:VK}{τ0:St}{H0:Hp}(Pv:Nat→List V→St→Hp→Prop)(h0:Pv 0 [] τ0 H0)(hl:∀i ys τ H,i≤xs.length→Pv i ys τ H→SqL K H a xs)
  (hs:∀i x ys τ H,xs[i]?=some x→Pv i ys τ H→g x τ H fun τ2 H4=>tt τ2 H4 fun c H5=>
   if c=true then te τ2 H5 fun y H6=>H6 acc=some (.lst ys)∧ys.length<sizeLine∧Pv (i+1) (ys++[y]) τ2 (upd H6 acc (.lst (ys++[y]))) else Pv (i+1) ys τ2 H5)
  (hd:∀ys τ H,Pv xs.length ys τ H→Q (.ref acc) H):
  qE (Itl K a) acc g tt te τ0 H0 Q:=by
 refine⟨fun i m ys τ H=>m=xs.length-i∧i≤xs.length∧Pv i ys τ H,⟨xs.length,by simp,zv3 _,h0⟩,?_⟩
 rintro i m ys τ H ⟨rfl,hi,p⟩
 have q:=hl i ys τ H hi p
 by_cases hlt:i<xs.length
 ·refine .inr ⟨⟨xs,xs[i],q,by simp[hlt]⟩,Pv (i+1),fun ys' τ' H' p'=>⟨xs.length-(i+1),by omega,rfl,hlt,p'⟩,fun x H' y=>?_⟩
  obtain⟨e,y⟩:=y
  subst e
  exact hs i x ys τ _ (y xs q) p
 ·have e:i=xs.length:=by omega
  subst e
  exact .inl ⟨⟨xs,q,zt9 _⟩,hd ys τ H p⟩
theorem at0 {α:Type}{x:α}{xs:List α}:atI (x::xs) 0=some x:=wo (j:=0) rfl
theorem ix0 {α:Type}{x:α}{xs:List α}:ixN (x::xs).length 0=some 0:=by
 unfold ixN
 rw[if_pos (Int.le_refl _),if_pos (by rw[zv0];omega)]
 rfl
theorem zq9 {α:Type}{x:α}{xs:List α}:seqIndex? 0 (x::xs).length=some 0:=(qW ix0).1
theorem iZ (ns:List Int)(lo hi:Option Int):∃ms:List Int,iE (ns.map V.int) lo hi=ms.map V.int∧ms.length≤ns.length:=by
 refine⟨(ns.drop (HT.sIx (ns.map V.int).length 0 lo)).take (HT.sIx (ns.map V.int).length (ns.map V.int).length hi-HT.sIx (ns.map V.int).length 0 lo),?_,?_⟩
 ·unfold iE
  rw[List.map_take,List.map_drop]
 ·rw[zw8,zB9]
  omega
structure yG (H:Hp)(t b c:Addr):Prop where
 ex:∃(n:Int) (bs cs:List Int),b≠c∧H t=some (.lst [.ref b,.ref c,.int n])∧H b=some (.lst (bs.map V.int))∧H c=some (.lst (cs.map V.int))∧bs.length≤63∧cs.length≤63
theorem jo {b c:Addr}{n:Int}(bs:List Int):HO.lst [.ref b,.ref c,.int n]≠HO.lst (bs.map V.int):=by
 intro z
 injection z with z
 cases bs with
 |nil=>cases z
 |cons x r=>cases z
def pq (t b:Addr)(H H':Hp):Prop:=∀a,a≠t→a≠b→H' a=H a
theorem pq.trans {t b:Addr}{H H1 H2:Hp}(h:pq t b H H1)(k:pq t b H1 H2):pq t b H H2:=fun a h1 h2=>(k a h1 h2).trans (h a h1 h2)
def nY (K:PySem.W.Frag):Sp:=fun vs H Q _=>∃(a:Addr) (ns:List Int),vs=[.ref a]∧SqL K H a (ns.map V.int)∧ns.length≤63∧
 ∀(t b c:Addr) (H':Hp),yG H' t b c→H t=none→H b=none→H c=none→zy H H'→Q (.ref t) H'
def eI :Sp:=fun vs H Q _=>∃(t b c:Addr) (many:Int),vs=[.ref t,.int many]∧yG H t b c∧0<many∧many<big∧
 ∀(v:Int) (H':Hp),0≤v→v<many→yG H' t b c→pq t b H H'→Q (.int v) H'
theorem yG.free {H:Hp}{t b c l:Addr}(T:yG H t b c)(h:H l=none):l≠t∧l≠b∧l≠c:=by
 obtain⟨n,bs,cs,n1,e1,e2,e3,l1,l2⟩:=T.ex
 exact⟨(zk e1 h).symm,(zk e2 h).symm,(zk e3 h).symm⟩
theorem yG.off {H H':Hp}{t b c:Addr}(T:yG H t b c)(h:∀a,a=t∨a=b∨a=c→H' a=H a):yG H' t b c:=by
 obtain⟨n,bs,cs,n1,e1,e2,e3,l1,l2⟩:=T.ex
 exact⟨n,bs,cs,n1,by rw[h t (.inl rfl)];exact e1,by rw[h b (.inr (.inl rfl))];exact e2,by rw[h c (.inr (.inr rfl))];exact e3,l1,l2⟩
theorem cu {H:Hp}{t b c l:Addr}{o:HO}(T:yG H t b c)(h:l≠t∧l≠b∧l≠c):yG (upd H l o) t b c:=
 T.off fun a ha=>zg (ha.elim (fun e=>e▸h.1.symm) fun ha=>ha.elim (fun e=>e▸h.2.1.symm) fun e=>e▸h.2.2.symm)
theorem iP {H H':Hp}{t b c:Addr}(T:yG H t b c)(s:zy H H'):yG H' t b c:=by
 obtain⟨n,bs,cs,n1,e1,e2,e3,l1,l2⟩:=T.ex
 exact⟨n,bs,cs,n1,s _ _ e1,s _ _ e2,s _ _ e3,l1,l2⟩
theorem yD {H:Hp}{p:Addr}{o:HO}(h:H p=none):zy H (upd H p o):=fun b u e=>by rw[zg (zk e h)];exact e
def yw :Addr:=(197:Nat)
def xI :Str:="cheapest_first.<locals>.<lambda>"
def rh (x:Addr):Prop:=x=yw
def uR (c:Addr):HO:=.ext fun h=>h.CodeRec (.ref c) xI
structure TabAt (H:Hp):Prop where
 ex:∃ps:Array Value,H yw=some (.tbl ps)∧TriplesOk ps.toList∧∀pos cv,codeAmong pos ps.toList=some cv→∃c,cv=.ref c∧H c=some (uR c)
theorem rp {H H':Hp}(T:TabAt H)(h:∀a o,(∀xs,o≠.lst xs)→H a=some o→H' a=some o):TabAt H':=by
 obtain⟨ps,e1,e2,e3⟩:=T.ex
 refine⟨ps,h _ _ (fun xs z=>nomatch z) e1,e2,fun pos cv hc=>?_⟩
 obtain⟨c,rfl,e4⟩:=e3 pos cv hc
 exact⟨c,rfl,h _ _ (fun xs z=>nomatch z) e4⟩
def Plain (H:Hp)(l:Addr):Prop:=∀o,H l=some o→o≠uR l∧∀ps,o≠.tbl ps
theorem cG {H:Hp}{l:Addr}{o:HO}(T:TabAt H)(h:Plain H l):TabAt (upd H l o):=by
 obtain⟨ps,e1,e2,e3⟩:=T.ex
 have n1:yw≠l:=fun z=>by rw[z] at e1;exact (h _ e1).2 ps rfl
 refine⟨ps,by rw[zg n1];exact e1,e2,fun pos cv hc=>?_⟩
 obtain⟨c,rfl,e4⟩:=e3 pos cv hc
 have n2:c≠l:=fun z=>by subst z;exact (h _ e4).1 rfl
 exact⟨c,rfl,by rw[zg n2];exact e4⟩
theorem jz {ps:Array Value}:∀ts,HO.tbl ps≠HO.tup ts:=fun _ z=>by cases z
theorem pL {H:Hp}{x:Addr}(T:TabAt H)(h:rh x):∃o,H x=some o∧(∀ts,o≠.tup ts)∧∀xs,o≠.lst xs:=by
 obtain⟨ps,e1,_⟩:=T.ex
 exact⟨_,by rw[h];exact e1,jz,fun _ z=>by cases z⟩
theorem vz {H:Hp}{l:Addr}{xs:List V}(h:H l=some (.lst xs)):Plain H l:=fun o e=>by
 rw[h] at e;cases e
 exact⟨(fun z=>by cases z),fun ps z=>by cases z⟩
theorem gh {H:Hp}{l:Addr}{xs:List (Key×V)}(h:H l=some (.dK xs)):Plain H l:=fun o e=>by
 rw[h] at e;cases e
 exact⟨(fun z=>by cases z),fun ps z=>by cases z⟩
theorem jV {H:Hp}{l C dx:Addr}{fs:List (Str×V)}(h:H l=some (.ins C dx fs)):Plain H l:=fun o e=>by
 rw[h] at e;cases e
 exact⟨(fun z=>by cases z),fun ps z=>by cases z⟩
theorem nu {H:Hp}{l:Addr}(T:TabAt H)(h:H l=none):¬rh l:=fun z=>by
 obtain⟨o,e,_⟩:=pL T z
 rw[h] at e;cases e
theorem aq {H H':Hp}{t b:Addr}{xs ys:List V}(T:TabAt H)(ht:H t=some (.lst xs))(hb:H b=some (.lst ys))(off:pq t b H H'):TabAt H':=rp T fun a o no e=>by
 have n1:a≠t:=fun z=>by rw[z,ht] at e;cases e;exact no _ rfl
 have n2:a≠b:=fun z=>by rw[z,hb] at e;cases e;exact no _ rfl
 rw[off a n1 n2];exact e
theorem gN {H H':Hp}(T:TabAt H)(h:zy H H'):TabAt H':=rp T fun a o _ e=>h a o e
def oO (K:PySem.W.Frag):Sp:=fun vs H Q _=>∃(a:Addr) (ns:List Int),vs=[.ref a]∧SqL K H a (ns.map V.int)∧ns.length≤63∧TabAt H∧∀H',Q (.bl true) H'
structure zg4 (mg:Str→Option Value):Prop where
 abs:mg "abs"=none
 list:mg "list"=none
 len:mg "len"=none
theorem cP (d:PyData):rE "int" d=some (isInt d):=by unfold rE;rw[if_pos rfl]
theorem tU (d:PyData):rE "bool" d=some (isBool d):=by unfold rE;rw[if_neg (by decide),if_pos rfl]
theorem qv (d:PyData):rE "tuple" d=some (ju d):=by unfold rE;rw[if_neg (by decide),if_neg (by decide),if_neg (by decide),if_neg (by decide),if_pos rfl]
structure zX (n:Nat)(d:PyData):Prop where
 shw:d.showable=true
 nod:d.hasDict=false
 dep:d.depth≤8
 len:d.shown.length≤n
 lay:d.canLay0=true
theorem zX.mono {m n:Nat}{d:PyData}(h:zX m d)(e:m≤n):zX n d:=⟨h.shw,h.nod,h.dep,zx7 h.len e,h.lay⟩
theorem uS :∀(ts:List Str) (k:Nat) (acc:Str),(textFrom k acc ts).length≤acc.length+piled ts
 |[],_,acc=>by rw[piled_nil];exact zt9 _
 |t::r,k,acc=>by
  have h:=uS r (k+1) (acc++(if k > 0 then ", " else "":String)++t)
  rw[piled_cons]
  have e2:(Str.ofString (if k > 0 then ", " else "":String)).length≤2:=by
   split
   ·exact zG9 rfl
   ·exact zv3 _
  have e3:=zG1 (acc++Str.ofString (if k > 0 then ", " else "":String)) t
  have e4:=zG1 acc (Str.ofString (if k > 0 then ", " else "":String))
  show (textFrom (k+1) (acc++Str.ofString (if k > 0 then ", " else "":String)++t) r).length≤_
  have h':(textFrom (k+1) (acc++Str.ofString (if k > 0 then ", " else "":String)++t) r).length≤(acc++Str.ofString (if k > 0 then ", " else "":String)++t).length+piled r:=h
  omega
theorem oG (ts:List Str):(listText ts).length≤piled ts+2:=by
 unfold listText
 rw[zG1]
 have h:=uS ts 0 (Str.ofString "[")
 have e1:(Str.ofString "[").length=1:=rfl
 have e2:(Str.ofString "]").length=1:=rfl
 show (textFrom 0 (Str.ofString "[") ts).length+(Str.ofString "]").length≤_
 omega
theorem pJ (ts:List Str):(tupleText ts).length≤piled ts+3:=by
 cases ts with
 |nil=>decide +kernel
 |cons t r=>
  have h:=join_length_add (t::r) (by simp)
  unfold tupleText
  rw[zG1,zG1]
  have e1:(Str.ofString "(").length=1:=rfl
  have e2:(Str.ofString (if (t::r).length == 1 then ",)" else ")":String)).length≤2:=by
   split
   ·exact zG9 rfl
   ·exact zz2 (show 1<2 by decide)
  show (Str.ofString "(").length+(Str.join ", " (t::r)).length+(Str.ofString (if (t::r).length == 1 then ",)" else ")":String)).length≤_
  omega
theorem vf {n:Nat}:∀(ds:List PyData),(∀d∈ds,zX n d)→piled (PyData.shownAll ds)≤ds.length*(n+2)
 |[],_=>zv3 _
 |d::r,h=>by
  have h1:=(h d zv5).len
  have h2:=vf r fun e he=>h e (zu3 _ he)
  show piled (d.shown::PyData.shownAll r)≤_
  rw[piled_cons,zv0,Nat.succ_mul]
  omega
structure yo (n:Nat)(ds:List PyData):Prop where
 all:∀d∈ds,zX n d
 dep:∀d∈ds,d.depth≤7
theorem yo.parts {n:Nat}:∀{ds:List PyData},yo n ds→PyData.showableAll ds=true∧PyData.hasDictAll ds=false∧PyData.depthAll ds≤7∧PyData.canLayAll0 ds=true
 |[],_=>⟨rfl,rfl,zv3 _,rfl⟩
 |d::r,h=>by
  obtain⟨a,b,c,e⟩:=yo.parts (ds:=r) ⟨fun x hx=>h.all x (zu3 _ hx),fun x hx=>h.dep x (zu3 _ hx)⟩
  have hd:=h.all d zv5
  have hp:=h.dep d zv5
  refine⟨?_,?_,?_,?_⟩
  ·simp only[PyData.showableAll,hd.shw,a,Bool.and_self]
  ·simp only[PyData.hasDictAll,hd.nod,b,Bool.or_self]
  ·simp only[PyData.depthAll];omega
  ·simp only[PyData.canLayAll0,hd.lay,e,Bool.and_self]
theorem zX.list {n m:Nat}{ds:List PyData}(h:yo n ds)(e:ds.length*(n+2)+2≤m):zX m (.list ds):=by
 obtain⟨a,b,c,f⟩:=h.parts
 refine⟨by simp only[PyData.showable,a],by simp only[PyData.hasDict,b],by simp only[PyData.depth];omega,?_,by simp only[PyData.canLay0,f]⟩
 show (listText (PyData.shownAll ds)).length≤m
 have h1:=oG (PyData.shownAll ds)
 have h2:=vf ds h.all
 omega
theorem zX.tuple {n m:Nat}{ds:List PyData}(h:yo n ds)(e:ds.length*(n+2)+3≤m):zX m (.tuple ds):=by
 obtain⟨a,b,c,f⟩:=h.parts
 refine⟨by simp only[PyData.showable,a],by simp only[PyData.hasDict,b],by simp only[PyData.depth];omega,?_,by simp only[PyData.canLay0,f]⟩
 show (tupleText (PyData.shownAll ds)).length≤m
 have h1:=pJ (PyData.shownAll ds)
 have h2:=vf ds h.all
 omega
theorem fb {i:Int}(h0:-big<i)(h1:i<big):i.natAbs.log2<1920:=by
 by_cases hn:i.natAbs=0
 ·rw[hn];decide
 ·have h2:i.natAbs<2 ^ 256:=by
   have e:(2:Nat) ^ 256=115792089237316195423570985008687907853269984665640564039457584007913129639936:=by decide +kernel
   rw[e]
   unfold big at h0 h1
   omega
  have h3:i.natAbs.log2<256:=(Nat.log2_lt hn).mpr h2
  omega
theorem zX.int {i:Int}(h0:-big<i)(h1:i<big):zX 2000 (.int i):=by
 have hl:=fb h0 h1
 refine⟨by simp only[PyData.showable,zx2];exact hl,rfl,zv3 _,?_,rfl⟩
 have:=int_text_len_1921 hl
 show (Str.ofString (toString i)).length≤2000
 omega
theorem zX.none :zX 2000 .none:=⟨rfl,rfl,zv3 _,by decide +kernel,rfl⟩
theorem zX.bool (b:Bool):zX 2000 (.bool b):=⟨rfl,rfl,zv3 _,by cases b<;>decide +kernel,rfl⟩
theorem zX.shaped {n:Nat}{d:PyData}(h:zX n d):SeqAt.shaped d=true:=by
 unfold SeqAt.shaped
 rw[h.lay,zz5,zx2]
 have:=h.dep
 omega
section
variable {X:Cx}
theorem iR (hg:X.A.guards=some [])(hu:X.A.units+64<cLine):xQ X (.builtin "repr") (fun xs H Q=>∃x d,xs=[x]∧DV H x d∧zX sizeLine d∧Q (.str d.shown) H):=by
 intro pins s σ H xs us Q I r h
 obtain⟨x,d,rfl,hd,N,q⟩:=h
 obtain⟨u,rfl,rx⟩:=Vals.one r
 have big':∀{a:Addr},u=Value.ref a→wpAny (model X.prog X.w) X.A (call (.builtin "repr") [u]) (EP X pins σ Q) X.xe s:=fun {a} e=>by
  obtain⟨as,rd⟩:=hd.reads I rx
  subst e
  refine repr_of_reads' rd N.shw (PyData.noDict_hsm N.nod) hg (by have:=N.dep;omega) (fun _ _ e=>e) (fun h' t tk hk=>?_) N.len
  exact⟨.str d.shown,H,I.kept hk,⟨t,rfl⟩,q⟩
 cases hd with
 |non=>cases (show u=Value.none from rx);exact P.repr_of_none ⟨.str _,H,I.tok _,⟨_,rfl⟩,q⟩
 |bl b=>cases (show u=Value.bool b from rx);exact P.repr_of_bool ⟨.str _,H,I.tok _,⟨_,rfl⟩,q⟩
 |int i=>
  obtain⟨t,rfl⟩:=(show ∃t,u=Value.int i t from rx)
  have hs:i.natAbs.log2<1920:=by
   have:=N.shw
   simpa only[PyData.showable,zx2] using this
  exact P.repr_of_int hs ⟨.str _,H,I.tok _,⟨_,rfl⟩,q⟩
 |str y=>
  obtain⟨t,rfl⟩:=(show ∃t,u=Value.str y t from rx)
  exact P.repr_of_str ⟨.str _,H,I.tok _,⟨_,rfl⟩,q⟩ N.len
 |lst e _=>exact big' rx
 |tup e _=>exact big' rx
end
def mQ :PyData→Bool
 |.int _=>true
 |_=>false
def yk (lo hi:Int):PyData→Bool
 |.int i=>decide (lo≤i)&&decide (i≤hi)
 |_=>false
def pairD :PyData→Bool
 |.tuple ds=>decide ((ds.length:Int)=2)
 |_=>false
abbrev uo :PyData→Bool:=yk 0 1000000
def sY :PyData→Bool
 |.tuple [a,b]=>uo a&&uo b
 |_=>false
def rK :PyData→Option Int
 |.tuple [.int a,.int b]=>if uo (.int a)&&uo (.int b) then some (b-a) else none
 |_=>none
def yp (d:PyData):Bool:=match rK d with
 |some k=>decide (0≤k)
 |none=>false
theorem jT (d:PyData):mQ d=(isInt d&&!isBool d):=by cases d<;>rfl
theorem tq {d:PyData}(h:pairD d=true):∃a b,d=.tuple [a,b]:=by
 cases d with
 |tuple ds=>
  have h':(ds.length:Int)=2:=zF8 h
  match ds,h' with
  |[a,b],_=>exact⟨a,b,rfl⟩
  |[],z=>simp at z
  |[_],z=>simp at z
  |_::_::_::_,z=>simp at z;omega
 |_=>cases h
theorem sq (d:PyData):sY d=(rK d).isSome:=by
 unfold sY rK
 split
 ·rename_i a b
  cases a with
  |int i=>
   cases b with
   |int j=>
    show (uo (.int i)&&uo (.int j))=_
    cases e:(uo (.int i)&&uo (.int j))<;>simp[e]
   |_=>simp[yk]
  |_=>simp[yk]
 ·rename_i h
  split
  ·rename_i a b
   exact absurd rfl (h (.int a) (.int b))
  ·rfl
theorem nX {d:PyData}(h:sY d=true):∃a b:Int,d=.tuple [.int a,.int b]∧rK d=some (b-a):=by
 rw[sq] at h
 unfold rK at h ⊢
 split at h
 ·rename_i a b
  split at h
  ·rename_i hc
   exact⟨a,b,rfl,by simp[hc]⟩
  ·cases h
 ·cases h
def yL (g:PyData→Bool):Sp:=fun vs H Q _=>∃x d,vs=[x]∧DV H x d∧Q (.bl (g d)) H
def vb :Sp:=fun vs H Q _=>∃x d lo hi,vs=[x,.int lo,.int hi]∧DV H x d∧Q (.bl (yk lo hi d)) H
theorem ba {n:Nat}:decide (V.int (n:Int)=V.int 2)=decide ((n:Int)=2):=by simp
noncomputable def sub (p:Addr→Prop)(H:Hp):Hp:=fun a=>open Classical in if p a then H a else none
theorem zj {p:Addr→Prop}{H:Hp}{a:Addr}{o:HO}(h:sub p H a=some o):p a∧H a=some o:=by
 unfold sub at h
 split at h
 ·rename_i hp;exact⟨hp,h⟩
 ·cases h
theorem zM {p:Addr→Prop}{H:Hp}{a:Addr}{o:HO}(hp:p a)(h:H a=some o):sub p H a=some o:=by
 unfold sub
 rw[if_pos hp]
 exact h
theorem zu {p q:Addr→Prop}{H H':Hp}(h:∀a o,p a→H a=some o→q a∧H' a=some o):zy (sub p H) (sub q H'):=fun a o e=>by
 obtain⟨hp,he⟩:=zj e
 obtain⟨hq,he'⟩:=h a o hp he
 exact zM hq he'
theorem xE {p:Addr→Prop}{H:Hp}:zy (sub p H) H:=fun _ _ e=>(zj e).2
theorem yo.snoc {n:Nat}{ds:List PyData}{d:PyData}(h:yo n ds)(hd:zX n d)(hp:d.depth≤7):yo n (ds++[d]):=
 ⟨fun e he=>(zA0.mp he).elim (h.all e) fun z=>by rw[zw2.mp z];exact hd,fun e he=>(zA0.mp he).elim (h.dep e) fun z=>by rw[zw2.mp z];exact hp⟩
theorem yo.nil {n:Nat}:yo n []:=⟨fun d hd=>by simp at hd,fun d hd=>by simp at hd⟩
theorem yo.two {n:Nat}{d e:PyData}(hd:zX n d)(he:zX n e)(h1:d.depth≤7)(h2:e.depth≤7):yo n [d,e]:=(yo.nil.snoc hd h1).snoc he h2
section
variable {X:Cx}{e:Expr}{es:List Expr}
def tD (X:Cx)(e:Expr):TE:=fun σ H Q=>∃t,PE X e t∧t σ H Q
theorem zq :PE X e (tD X e):=fun pins s σ H Q I ⟨t,p,q⟩=>p pins s σ H Q I q
def zl0 (X:Cx)(e:Expr):TT:=fun σ H Q=>∃t,PT X e t∧t σ H Q
theorem xT :PT X e (zl0 X e):=fun pins s σ H Q I ⟨t,p,q⟩=>p pins s σ H Q I q
def zn6 (X:Cx)(es:List Expr):TA:=fun σ H Q=>∃t,PA X es t∧t σ H Q
theorem yQ :PA X es (zn6 X es):=fun pos pins s σ H Q I ⟨t,p,q⟩=>p pos pins s σ H Q I q
end
def iI :Key→PyData
 |.inl i=>.int i
 |.inr x=>.str x
def xcO (a C:Addr)(d:Option Addr):HO:=.ext fun h=>∃o vs,h.get? a=some o∧o.cls=.ref C∧o.dict=d∧o.data=.fields vs
mutual
inductive AV (H:Hp):V→PyData→Prop where
 |non:AV H .non .none
 |bl (b:Bool):AV H (.bl b) (.bool b)
 |int (i:Int):AV H (.int i) (.int i)
 |str (x:Str):AV H (.str x) (.str x)
 |lst {a:Addr} {xs:List V} {ds:List PyData}:H a=some (.lst xs)→AVs H xs ds→AV H (.ref a) (.list ds)
 |tup {a:Addr} {xs:List V} {ds:List PyData}:H a=some (.tup xs)→AVs H xs ds→AV H (.ref a) (.tuple ds)
 |ins {a C dx:Addr} {fs:List (Str×V)} {ds:List (PyData×PyData)}:H a=some (.ins C dx fs)→AVf H fs ds→AV H (.ref a) (.dict ((.int (C:Nat),.none)::ds))
 |dk {a:Addr} {o:Obj} {kvs:List (Key×V)} {ds:List (PyData×PyData)}:H a=some (.frz o (.dK kvs))→AVk H kvs ds→AV H (.ref a) (.dict ((.none,.none)::ds))
 |dt {a:Addr} {o:Obj} {kvs:List (List Key×V)} {ds:List (PyData×PyData)}:H a=some (.frz o (.dT kvs))→AVt H kvs ds→AV H (.ref a) (.dict ((.none,.bool true)::ds))
 |xc {a C dx:Addr} {fs:List (Str×V)} {ds:List (PyData×PyData)}:H a=some (xcO a C (some dx))→H dx=some (.xd fs)→AVf H fs ds→AV H (.ref a) (.dict ((.int (C:Nat),.bool true)::ds))
 |xn {a C:Addr}:H a=some (xcO a C none)→AV H (.ref a) (.dict [(.int (C:Nat),.bool false)])
inductive AVs (H:Hp):List V→List PyData→Prop where
 |nil:AVs H [] []
 |cons {x:V} {xs:List V} {d:PyData} {ds:List PyData}:AV H x d→AVs H xs ds→AVs H (x::xs) (d::ds)
inductive AVf (H:Hp):List (Str×V)→List (PyData×PyData)→Prop where
 |nil:AVf H [] []
 |cons {f:Str} {x:V} {fs:List (Str×V)} {d:PyData} {ds:List (PyData×PyData)}:AV H x d→AVf H fs ds→AVf H ((f,x)::fs) ((.str f,d)::ds)
inductive AVk (H:Hp):List (Key×V)→List (PyData×PyData)→Prop where
 |nil:AVk H [] []
 |cons {k:Key} {x:V} {fs:List (Key×V)} {d:PyData} {ds:List (PyData×PyData)}:AV H x d→AVk H fs ds→AVk H ((k,x)::fs) ((iI k,d)::ds)
inductive AVt (H:Hp):List (List Key×V)→List (PyData×PyData)→Prop where
 |nil:AVt H [] []
 |cons {k:List Key} {x:V} {fs:List (List Key×V)} {d:PyData} {ds:List (PyData×PyData)}:AV H x d→AVt H fs ds→AVt H ((k,x)::fs) ((.tuple (k.map iI),d)::ds)
end
mutual
theorem AV.same {H H':Hp}(e:zy H H'):∀{x:V} {d:PyData},AV H x d→AV H' x d
 |_,_,.non=>.non
 |_,_,.bl b=>.bl b
 |_,_,.int i=>.int i
 |_,_,.str x=>.str x
 |_,_,.lst hq hs=>.lst (e _ _ hq) (AVs.same e hs)
 |_,_,.tup hq hs=>.tup (e _ _ hq) (AVs.same e hs)
 |_,_,.ins hq hs=>.ins (e _ _ hq) (AVf.same e hs)
 |_,_,.dk hq hs=>.dk (e _ _ hq) (AVk.same e hs)
 |_,_,.dt hq hs=>.dt (e _ _ hq) (AVt.same e hs)
 |_,_,.xc hq hd hs=>.xc (e _ _ hq) (e _ _ hd) (AVf.same e hs)
 |_,_,.xn hq=>.xn (e _ _ hq)
theorem AVs.same {H H':Hp}(e:zy H H'):∀{xs:List V} {ds:List PyData},AVs H xs ds→AVs H' xs ds
 |_,_,.nil=>.nil
 |_,_,.cons h hs=>.cons (AV.same e h) (AVs.same e hs)
theorem AVf.same {H H':Hp}(e:zy H H'):∀{fs:List (Str×V)} {ds:List (PyData×PyData)},AVf H fs ds→AVf H' fs ds
 |_,_,.nil=>.nil
 |_,_,.cons h hs=>.cons (AV.same e h) (AVf.same e hs)
theorem AVk.same {H H':Hp}(e:zy H H'):∀{fs:List (Key×V)} {ds:List (PyData×PyData)},AVk H fs ds→AVk H' fs ds
 |_,_,.nil=>.nil
 |_,_,.cons h hs=>.cons (AV.same e h) (AVk.same e hs)
theorem AVt.same {H H':Hp}(e:zy H H'):∀{fs:List (List Key×V)} {ds:List (PyData×PyData)},AVt H fs ds→AVt H' fs ds
 |_,_,.nil=>.nil
 |_,_,.cons h hs=>.cons (AV.same e h) (AVt.same e hs)
end
mutual
theorem AV.dv {H:Hp}:∀{x:V} {d:PyData},AV H x d→d.hasDict=false→DV H x d
 |_,_,.non,_=>.non
 |_,_,.bl b,_=>.bl b
 |_,_,.int i,_=>.int i
 |_,_,.str x,_=>.str x
 |_,_,.lst hq hs,h=>.lst hq (AVs.dv hs (by simpa only[PyData.hasDict] using h))
 |_,_,.tup hq hs,h=>.tup hq (AVs.dv hs (by simpa only[PyData.hasDict] using h))
 |_,_,.ins hq hs,h=>by simp[PyData.hasDict] at h
 |_,_,.dk hq hs,h=>by simp[PyData.hasDict] at h
 |_,_,.dt hq hs,h=>by simp[PyData.hasDict] at h
 |_,_,.xc hq _ hs,h=>by simp[PyData.hasDict] at h
 |_,_,.xn hq,h=>by simp[PyData.hasDict] at h
theorem AVs.dv {H:Hp}:∀{xs:List V} {ds:List PyData},AVs H xs ds→PyData.hasDictAll ds=false→DVs H xs ds
 |_,_,.nil,_=>.nil
 |_,_,.cons h hs,e=>by
  simp only[PyData.hasDictAll,Bool.or_eq_false_iff] at e
  exact .cons (AV.dv h e.1) (AVs.dv hs e.2)
end
mutual
theorem DV.av {H:Hp}:∀{x:V} {d:PyData},DV H x d→AV H x d
 |_,_,.non=>.non
 |_,_,.bl b=>.bl b
 |_,_,.int i=>.int i
 |_,_,.str x=>.str x
 |_,_,.lst hq hs=>.lst hq (DVs.av hs)
 |_,_,.tup hq hs=>.tup hq (DVs.av hs)
theorem DVs.av {H:Hp}:∀{xs:List V} {ds:List PyData},DVs H xs ds→AVs H xs ds
 |_,_,.nil=>.nil
 |_,_,.cons h hs=>.cons (DV.av h) (DVs.av hs)
end
theorem AVs.length {H:Hp}:∀{xs:List V} {ds:List PyData},AVs H xs ds→xs.length=ds.length
 |_,_,.nil=>rfl
 |_,_,.cons _ hs=>by rw[zv0,zv0,AVs.length hs]
theorem AVs.append {H:Hp}:∀{xs ys:List V} {ds es:List PyData},AVs H xs ds→AVs H ys es→AVs H (xs++ys) (ds++es)
 |_,_,_,_,.nil,h=>h
 |_,_,_,_,.cons a r,h=>.cons a (AVs.append r h)
theorem AVs.get {H:Hp}:∀{xs:List V} {ds:List PyData} {i:Nat} {d:PyData},AVs H xs ds→ds[i]?=some d→∃x,xs[i]?=some x∧AV H x d
 |_,_,_,_,.nil,e=>by simp at e
 |_,_,0,_,.cons a _,e=>by simp at e;subst e;exact⟨_,rfl,a⟩
 |_,_,i+1,d,.cons _ r,e=>by
  obtain⟨x,h1,h2⟩:=AVs.get (i:=i) (d:=d) r (by simpa using e)
  exact⟨x,by simpa using h1,h2⟩
theorem AVs.set {H:Hp}{x:V}{d:PyData}(a:AV H x d):∀{xs:List V} {ds:List PyData} (i:Nat),AVs H xs ds→AVs H (xs.set i x) (ds.set i d)
 |_,_,_,.nil=>.nil
 |_,_,0,.cons _ r=>.cons a r
 |_,_,i+1,.cons q r=>.cons q (AVs.set a i r)
theorem AVs.atI {H:Hp}{xs:List V}{ds:List PyData}{i:Int}{d:PyData}(h:AVs H xs ds)(e:atI ds i=some d):∃x,L2.atI xs i=some x∧AV H x d:=by
 unfold L2.atI at e ⊢
 rw[h.length]
 cases q:ixN ds.length i with
 |none=>rw[q] at e;cases e
 |some j=>
  rw[q] at e
  exact h.get (i:=j) e
mutual
def noL :PyData→Bool
 |.list _=>false
 |.dict ((.none,_)::_)=>false
 |.dict kvs=>lq kvs
 |.tuple ds=>vK ds
 |_=>true
def vK :List PyData→Bool
 |[]=>true
 |d::r=>noL d&&vK r
def lq :List (PyData×PyData)→Bool
 |[]=>true
 |(_,d)::r=>noL d&&lq r
end
def Ob :HO→Prop
 |.lst _=>True
 |.dK _=>True
 |.frz _ _=>True
 |_=>False
mutual
theorem AV.noL {H H':Hp}(e:∀a o,¬Ob o→H a=some o→H' a=some o):∀{x:V} {d:PyData},AV H x d→noL d=true→AV H' x d
 |_,_,.non,_=>.non
 |_,_,.bl b,_=>.bl b
 |_,_,.int i,_=>.int i
 |_,_,.str x,_=>.str x
 |_,_,.lst _ _,h=>by simp[L2.noL] at h
 |_,_,.tup hq hs,h=>.tup (e _ _ (fun z=>z) hq) (AVs.noL e hs (by simpa only[L2.noL] using h))
 |_,_,.ins hq hs,h=>.ins (e _ _ (fun z=>z) hq) (AVf.noL e hs (by simpa[L2.noL,L2.lq] using h))
 |_,_,.dk _ _,h=>by simp[L2.noL] at h
 |_,_,.dt _ _,h=>by simp[L2.noL] at h
 |_,_,.xc hq hd hs,h=>.xc (e _ _ (fun z=>z) hq) (e _ _ (fun z=>z) hd) (AVf.noL e hs (by simpa[L2.noL,L2.lq] using h))
 |_,_,.xn hq,h=>.xn (e _ _ (fun z=>z) hq)
theorem AVs.noL {H H':Hp}(e:∀a o,¬Ob o→H a=some o→H' a=some o):∀{xs:List V} {ds:List PyData},AVs H xs ds→vK ds=true→AVs H' xs ds
 |_,_,.nil,_=>.nil
 |_,_,.cons h hs,q=>by
  simp only[L2.vK,zv6] at q
  exact .cons (AV.noL e h q.1) (AVs.noL e hs q.2)
theorem AVf.noL {H H':Hp}(e:∀a o,¬Ob o→H a=some o→H' a=some o):∀{fs:List (Str×V)} {ds:List (PyData×PyData)},AVf H fs ds→lq ds=true→AVf H' fs ds
 |_,_,.nil,_=>.nil
 |_,_,.cons h hs,q=>by
  simp only[L2.lq,zv6] at q
  exact .cons (AV.noL e h q.1) (AVf.noL e hs q.2)
end
structure Fr where
 H0:Hp
 O0:Addr→Prop
 tp:Option (Addr×Addr×Addr)
inductive A where
 |dat (d:PyData)
 |ow (c:PyData)
 |deep (d:PyData) (S:Addr→Prop)
 |tape
 |at (l:Addr)
 |exc (r:Fr) (q:PyData→Prop)
 |pin (l:Addr) (vs:List V) (ds:List PyData)
@[reducible] def A.own (ds:List PyData):A:=.ow (.list ds)
abbrev bX (ds:List (PyData×PyData)):PyData:=.dict ((.none,.none)::ds)
abbrev Ev :=List (Option A)
def wR (o:HO):Prop:=∀ts,o≠.tup ts
theorem yV {xs:List V}:wR (.lst xs):=fun _ z=>by cases z
theorem Ob.notup {o:HO}(h:Ob o):wR o:=fun ts z=>by subst z;exact h
def NT (F:Fr)(x:Addr):Prop:=(∀t b c,F.tp=some (t,b,c)→x≠t∧x≠b)∧¬rh x
def Kz (F:Fr)(H H':Hp):Prop:=∀x o,H x=some o→NT F x→H' x=some o
structure zR (F:Fr)(H:Hp):Prop where
 tab:TabAt H
 ot:∀x,rh x→F.O0 x
 all:∀t b c,F.tp=some (t,b,c)→yG H t b c∧F.O0 t∧F.O0 b∧F.O0 c
instance {F:Fr} {H:Hp}:CoeFun (zR F H) (fun _=>∀t b c,F.tp=some (t,b,c)→yG H t b c∧F.O0 t∧F.O0 b∧F.O0 c):=⟨zR.all⟩
theorem zR.to {F F':Fr}{H:Hp}(t:zR F H)(hp:F'.tp=F.tp)(ho:∀x,F.O0 x→F'.O0 x):zR F' H:=⟨t.tab,fun x h=>ho x (t.ot x h),fun a b c e=>by
 obtain⟨h1,h2,h3,h4⟩:=t a b c (hp▸e)
 exact⟨h1,ho _ h2,ho _ h3,ho _ h4⟩⟩
theorem zR.re {F F':Fr}{H H':Hp}(t:zR F H)(t':zR F' H')(hp:F'.tp=F.tp):zR F H':=⟨t'.tab,t.ot,fun a b c e=>⟨(t' a b c (hp▸e)).1,(t a b c e).2⟩⟩
theorem zR.upd {F:Fr}{H:Hp}{l:Addr}{o:HO}(t:zR F H)(h:∀a b c,F.tp=some (a,b,c)→l≠a∧l≠b∧l≠c)(hp:Plain H l):zR F (upd H l o):=⟨cG t.tab hp,t.ot,fun a b c e=>⟨cu (t a b c e).1 (h a b c e),(t a b c e).2⟩⟩
theorem zR.updO {F:Fr}{H:Hp}{l:Addr}{o:HO}(t:zR F H)(h:¬F.O0 l)(hp:Plain H l):zR F (L2.upd H l o):=t.upd (fun a b c e=>⟨fun z=>h (by rw[z];exact (t a b c e).2.1),fun z=>h (by rw[z];exact (t a b c e).2.2.1),fun z=>h (by rw[z];exact (t a b c e).2.2.2)⟩) hp
def foot (s:Option V):A→Addr→Prop
 |.ow _,x=>s=some (.ref x)
 |.deep _ S,x=>S x
 |_,_=>False
def Ow (F:Fr)(α:Ev)(σ:St)(x:Addr):Prop:=F.O0 x∨∃(i:Nat) (a:A) (s:Option V),α[i]?=some (some a)∧σ[i]?=some s∧foot s a x
noncomputable abbrev Gz (F:Fr)(α:Ev)(σ:St)(H:Hp):Hp:=sub (fun x=>¬Ow F α σ x) H
noncomputable def vR (S:Addr→Prop)(G H:Hp):Hp:=fun x=>open Classical in if S x then H x else match G x with
 |some (.lst _)=>none
 |o=>o
theorem uM {S:Addr→Prop}{G G' H H':Hp}(h:zy G G')(hS:∀x o,S x→H x=some o→H' x=some o):zy (vR S G H) (vR S G' H'):=fun x o e=>by
 unfold vR at e ⊢
 by_cases z:S x
 ·rw[if_pos z] at e ⊢;exact hS x o z e
 ·rw[if_neg z] at e ⊢
  cases q:G x with
  |none=>rw[q] at e;cases e
  |some u=>
   rw[h _ _ q]
   rw[q] at e
   exact e
theorem dS {S:Addr→Prop}{G H:Hp}{x:Addr}{xs:List V}(h:vR S G H x=some (.lst xs)):S x∧H x=some (.lst xs):=by
 unfold vR at h
 by_cases z:S x
 ·rw[if_pos z] at h;exact⟨z,h⟩
 ·rw[if_neg z] at h
  split at h
  ·cases h
  ·rename_i hn;exact absurd h (hn _)
theorem sv {S:Addr→Prop}{G H:Hp}{x:Addr}{o:HO}(h:vR S G H x=some o):(S x∧H x=some o)∨(¬S x∧G x=some o):=by
 unfold vR at h
 by_cases z:S x
 ·rw[if_pos z] at h;exact .inl ⟨z,h⟩
 ·rw[if_neg z] at h
  split at h
  ·cases h
  ·exact .inr ⟨z,h⟩
inductive xk (G:Hp):HO→PyData→Prop where
 |lst {xs:List V} {ds:List PyData}:AVs G xs ds→xk G (.lst xs) (.list ds)
 |dk {kvs:List (Key×V)} {ds:List (PyData×PyData)}:AVk G kvs ds→xk G (.dK kvs) (bX ds)
theorem xk.ob {G:Hp}{o:HO}{c:PyData}(h:xk G o c):Ob o:=by cases h<;>trivial
theorem xk.same {G G':Hp}{o:HO}{c:PyData}(h:xk G o c)(s:zy G G'):xk G' o c:=by
 cases h with
 |lst h=>exact .lst (h.same s)
 |dk h=>exact .dk (h.same s)
theorem xk.av {G:Hp}{o:HO}{ds:List PyData}{l:Addr}(h:xk G o (.list ds))(e:G l=some o):AV G (.ref l) (.list ds):=by
 cases h with
 |lst h=>exact .lst e h
theorem xk.lst_inv {G:Hp}{o:HO}{ds:List PyData}(h:xk G o (.list ds)):∃xs,o=.lst xs∧AVs G xs ds:=by cases h;exact⟨_,rfl,by assumption⟩
theorem xk.plain {G H:Hp}{o:HO}{c:PyData}{l:Addr}(h:xk G o c)(e:H l=some o):Plain H l:=by
 cases h with
 |lst h=>exact vz e
 |dk h=>exact gh e
structure Lnk (r F:Fr)(H:Hp):Prop where
 tp:r.tp=F.tp
 o:∀x,r.O0 x→F.O0 x
 ok:zR r H
 k:Kz r r.H0 H
def vk (G:Hp)(F:Fr)(H:Hp)(s:Option V):A→Prop
 |.dat d=>∃v,s=some v∧AV G v d
 |.ow c=>∃l o,s=some (.ref l)∧H l=some o∧xk G o c∧¬F.O0 l∧F.H0 l=none
 |.deep d S=>∃v,s=some v∧AV (vR S G H) v d∧∀x,S x→¬F.O0 x∧F.H0 x=none∧∃xs,H x=some (.lst xs)
 |.tape=>∃t b c,F.tp=some (t,b,c)∧s=some (.ref t)
 |.at l=>s=some (.ref l)
 |.exc r _=>Lnk r F H
 |.pin l vs ds=>s=some (.ref l)∧G l=some (.lst vs)∧AVs G vs ds
structure M (F:Fr)(α:Ev)(σ:St)(H:Hp):Prop where
 len:α.length=σ.length
 ok:∀(i:Nat) (a:A) (s:Option V),α[i]?=some (some a)→σ[i]?=some s→vk (Gz F α σ H) F H s a
 dj:∀(i j:Nat) (a b:A) (s t:Option V) (x:Addr),α[i]?=some (some a)→α[j]?=some (some b)→σ[i]?=some s→σ[j]?=some t→foot s a x→foot t b x→i=j
 xd:∀(i:Nat) (r:Fr) (q:PyData→Prop),α[i]?=some (some (.exc r q))→∀(j:Nat) (a:A) (s:Option V) (x:Addr),α[j]?=some (some a)→σ[j]?=some s→foot s a x→r.H0 x=none
 tp:zR F H
 keep:Kz F F.H0 H
 oex:∀x,F.O0 x→∃o,H x=some o∧wR o
theorem M.at' {F:Fr}{α:Ev}{σ:St}{H:Hp}(m:M F α σ H){i:Nat}{a:Option A}(e:α[i]?=some a):∃s,σ[i]?=some s:=by
 have:i<σ.length:=by rw[←m.len];exact (zt8.mp e).1
 exact⟨_,zt5 this⟩
theorem tI {G:Hp}{F:Fr}{H:Hp}{s:Option V}{a:A}{x:Addr}(h:vk G F H s a)(f:foot s a x):¬F.O0 x∧F.H0 x=none∧∃o,H x=some o∧Ob o:=by
 cases a with
 |ow c=>
  obtain⟨l,o,h1,h2,h3,h4,h5⟩:=h
  have f':s=some (.ref x):=f
  rw[f'] at h1;cases h1
  exact⟨h4,h5,o,h2,h3.ob⟩
 |deep d S=>
  obtain⟨v,h1,h2,h3⟩:=h
  obtain⟨z1,z2,xs,z3⟩:=h3 x f
  exact⟨z1,z2,_,z3,trivial⟩
 |dat d=>exact f.elim
 |tape=>exact f.elim
 |«at» l=>exact f.elim
 |exc r q=>exact f.elim
 |pin l vs ds=>exact f.elim
theorem Lnk.kz {r F:Fr}{H H':Hp}(l:Lnk r F H)(k:Kz F H H')(t:zR F H'):Lnk r F H':=⟨l.tp,l.o,l.ok.re t l.tp.symm,fun x o e n=>k x o (l.k x o e n) ⟨fun a b c z=>n.1 a b c (l.tp.trans z),n.2⟩⟩
theorem Lnk.none {r F:Fr}{H:Hp}(l:Lnk r F H){x:Addr}(h:H x=Option.none):r.H0 x=Option.none:=by
 cases q:r.H0 x with
 |none=>rfl
 |some o=>rw[l.k x o q ⟨fun a b c e=>⟨((l.ok a b c e).1.free h).1,((l.ok a b c e).1.free h).2.1⟩,nu l.ok.tab h⟩] at h;cases h
def noX :A→Prop
 |.exc _ _=>False
 |_=>True
theorem vk.stay {G G':Hp}{F F':Fr}{H H':Hp}{s:Option V}{a:A}(h:vk G F H s a)(g:zy G G')(hf:∀x o,foot s a x→H x=some o→H' x=some o∧¬F'.O0 x∧F'.H0 x=none)(hp:F'.tp=F.tp)(hl:∀r q,a=.exc r q→Lnk r F H→Lnk r F' H'):vk G' F' H' s a:=by
 cases a with
 |dat d=>obtain⟨v,h1,h2⟩:=h;exact⟨v,h1,h2.same g⟩
 |ow c=>
  obtain⟨l,o,h1,h2,h3,h4,h5⟩:=h
  obtain⟨z1,z2,z3⟩:=hf l o h1 h2
  exact⟨l,o,h1,z1,h3.same g,z2,z3⟩
 |deep d S=>
  obtain⟨v,h1,h2,h3⟩:=h
  refine⟨v,h1,h2.same (uM g fun x o z e=>(hf x o z e).1),fun x z=>?_⟩
  obtain⟨_,_,xs,e⟩:=h3 x z
  obtain⟨z1,z2,z3⟩:=hf x _ z e
  exact⟨z2,z3,xs,z1⟩
 |tape=>obtain⟨t,b,c,e,z⟩:=h;exact⟨t,b,c,hp.trans e,z⟩
 |«at» l=>exact h
 |exc r q=>exact hl r q rfl h
 |pin l vs ds=>exact⟨h.1,g _ _ h.2.1,h.2.2.same g⟩
section
variable {F:Fr}{α:Ev}{σ:St}{H H' H'':Hp}
theorem M.dat (m:M F α σ H)(i:Nat)(d:PyData)(e:α[i]?=some (some (.dat d))):∃v,σ[i]?=some (some v)∧AV (Gz F α σ H) v d:=by
 obtain⟨s,hs⟩:=m.at' e
 obtain⟨v,rfl,h⟩:=m.ok i _ s e hs
 exact⟨v,hs,h⟩
theorem M.owc (m:M F α σ H)(i:Nat)(c:PyData)(e:α[i]?=some (some (.ow c))):∃l o,σ[i]?=some (some (.ref l))∧H l=some o∧xk (Gz F α σ H) o c∧¬F.O0 l∧F.H0 l=none:=by
 obtain⟨s,hs⟩:=m.at' e
 obtain⟨l,o,rfl,h⟩:=m.ok i _ s e hs
 exact⟨l,o,hs,h⟩
theorem M.own (m:M F α σ H)(i:Nat)(ds:List PyData)(e:α[i]?=some (some (.own ds))):∃l xs,σ[i]?=some (some (.ref l))∧H l=some (.lst xs)∧AVs (Gz F α σ H) xs ds∧¬F.O0 l∧F.H0 l=none:=by
 obtain⟨l,o,h1,h2,h3,h4⟩:=m.owc i _ e
 obtain⟨xs,rfl,h5⟩:=h3.lst_inv
 exact⟨l,xs,h1,h2,h5,h4⟩
theorem M.deep (m:M F α σ H)(i:Nat)(d:PyData)(S:Addr→Prop)(e:α[i]?=some (some (.deep d S))):∃v,σ[i]?=some (some v)∧AV (vR S (Gz F α σ H) H) v d∧∀x,S x→¬F.O0 x∧F.H0 x=none∧∃xs,H x=some (.lst xs):=by
 obtain⟨s,hs⟩:=m.at' e
 obtain⟨v,rfl,h⟩:=m.ok i _ s e hs
 exact⟨v,hs,h⟩
theorem M.tvar (m:M F α σ H)(i:Nat)(e:α[i]?=some (some .tape)):∃t b c,F.tp=some (t,b,c)∧σ[i]?=some (some (.ref t)):=by
 obtain⟨s,hs⟩:=m.at' e
 obtain⟨t,b,c,h,rfl⟩:=m.ok i _ s e hs
 exact⟨t,b,c,h,hs⟩
theorem M.lnk (m:M F α σ H){i:Nat}{r:Fr}{q:PyData→Prop}(e:α[i]?=some (some (.exc r q))):Lnk r F H:=by
 obtain⟨s,hs⟩:=m.at' e
 exact m.ok i _ s e hs
theorem Kz.refl :Kz F H H:=fun _ _ e _=>e
theorem Kz.trans (h:Kz F H H')(k:Kz F H' H''):Kz F H H'':=fun x o e n=>k x o (h x o e n) n
theorem Kz.of_same (h:zy H H'):Kz F H H':=fun x o e _=>h x o e
theorem zR.same (t:zR F H)(h:zy H H'):zR F H':=⟨gN t.tab h,t.ot,fun a b c e=>⟨iP (t a b c e).1 h,(t a b c e).2⟩⟩
theorem zR.nt (t:zR F H){x:Addr}(h:¬F.O0 x):NT F x:=⟨fun a b c e=>⟨fun z=>h (z▸(t a b c e).2.1),fun z=>h (z▸(t a b c e).2.2.1)⟩,fun z=>h (t.ot x z)⟩
theorem ow0 {x:Addr}(h:¬Ow F α σ x):¬F.O0 x:=fun z=>h (.inl z)
theorem Kz.gz (k:Kz F H H')(t:zR F H):zy (Gz F α σ H) (Gz F α σ H'):=zu fun a o h e=>⟨h,k a o e (t.nt (ow0 h))⟩
theorem M.oex' (t:zR F H')(k:Kz F H H')(h:∀x,F.O0 x→∃o,H x=some o∧wR o):∀x,F.O0 x→∃o,H' x=some o∧wR o:=fun x hx=>by
 by_cases n:NT F x
 ·obtain⟨o,ho,hn⟩:=h x hx
  exact⟨o,k _ _ ho n,hn⟩
 ·by_cases z:rh x
  ·obtain⟨o,ho,hn,_⟩:=pL t.tab z
   exact⟨o,ho,hn⟩
  ·have:∃a b c,F.tp=some (a,b,c)∧¬(x≠a∧x≠b):=by
    refine Classical.byContradiction fun q=>n ⟨fun a b c e=>?_,z⟩
    exact Classical.byContradiction fun w=>q ⟨a,b,c,e,w⟩
   obtain⟨a,b,c,e,w⟩:=this
   obtain⟨n,bs,cs,_,e1,e2,e3,_⟩:=(t a b c e).1.ex
   by_cases xa:x=a
   ·exact⟨_,xa▸e1,yV⟩
   ·by_cases xb:x=b
    ·exact⟨_,xb▸e2,yV⟩
    ·exact absurd ⟨xa,xb⟩ w
theorem M.kz (m:M F α σ H)(k:Kz F H H')(t:zR F H'):M F α σ H' where
 len:=m.len
 ok:=fun i a s e1 e2=>(m.ok i a s e1 e2).stay (k.gz m.tp) (fun x o hf e=>by
  obtain⟨h1,h2,_⟩:=tI (m.ok i a s e1 e2) hf
  exact⟨k x o e (m.tp.nt h1),h1,h2⟩) rfl fun r _ _ l=>l.kz k t
 dj:=m.dj
 xd:=m.xd
 tp:=t
 keep:=m.keep.trans k
 oex:=M.oex' t k m.oex
theorem M.ft (m:M F α σ H){i:Nat}{a:A}{s:Option V}{x:Addr}(e1:α[i]?=some (some a))(e2:σ[i]?=some s)(f:foot s a x):¬F.O0 x∧F.H0 x=none∧∃o,H x=some o∧Ob o:=tI (m.ok i a s e1 e2) f
theorem M.owEx (m:M F α σ H){x:Addr}(h:Ow F α σ x):∃o,H x=some o∧wR o:=by
 rcases h with z|⟨i,a,s,e1,e2,f⟩
 ·exact m.oex x z
 ·obtain⟨_,_,o,ho,hb⟩:=m.ft e1 e2 f
  exact⟨o,ho,hb.notup⟩
theorem M.fresh (m:M F α σ H){l:Addr}(h:H l=none):¬Ow F α σ l:=fun z=>by
 obtain⟨o,ho,_⟩:=m.owEx z
 rw[h] at ho;cases ho
theorem M.fresh0 (m:M F α σ H){l:Addr}(h:H l=none):F.H0 l=none:=by
 cases q:F.H0 l with
 |none=>rfl
 |some o=>rw[m.keep l o q (m.tp.nt fun z=>m.fresh h (.inl z))] at h;cases h
theorem M.old (m:M F α σ H):zy (sub (fun x=>¬F.O0 x) F.H0) (Gz F α σ H):=fun a o e=>by
 obtain⟨h1,h2⟩:=zj e
 refine zM ?_ (m.keep a o h2 (m.tp.nt h1))
 rintro (z|⟨i,b,s,e1,e2,f⟩)
 ·exact h1 z
 ·obtain⟨_,z,_⟩:=m.ft e1 e2 f
  rw[h2] at z;cases z
noncomputable def Fr.up (F:Fr)(G:Hp):Fr:={F with H0:=fun x=>(F.H0 x).or (G x)}
theorem pD {G:Hp}{x:Addr}{o:HO}(h:F.H0 x=some o):(F.up G).H0 x=some o:=by show (F.H0 x).or (G x)=some o;rw[h];rfl
theorem js {G:Hp}{x:Addr}(h:(F.up G).H0 x=none):F.H0 x=none:=by
 cases q:F.H0 x with
 |none=>rfl
 |some o=>rw[pD q] at h;cases h
theorem M.up (m:M F α σ H):M (F.up (Gz F α σ H)) α σ H where
 len:=m.len
 ok:=fun i a s e1 e2=>(m.ok i a s e1 e2).stay (fun _ _ e=>e) (fun x o hf e=>by
  obtain⟨h1,h2,_⟩:=m.ft e1 e2 hf
  refine⟨e,h1,?_⟩
  show (F.H0 x).or (Gz F α σ H x)=none
  rw[h2]
  show Gz F α σ H x=none
  cases q:Gz F α σ H x with
  |none=>rfl
  |some o=>exact absurd (.inr ⟨i,a,s,e1,e2,hf⟩) (zj q).1) rfl fun r _ _ l=>⟨l.tp,l.o,l.ok,l.k⟩
 dj:=m.dj
 xd:=m.xd
 tp:=m.tp.to rfl fun _ z=>z
 keep:=fun x o e n=>by
  have e':(F.H0 x).or (Gz F α σ H x)=some o:=e
  cases q:F.H0 x with
  |none=>rw[q,Option.none_or] at e';exact (zj e').2
  |some o'=>rw[q] at e';cases e';exact m.keep x _ q n
 oex:=m.oex
theorem M.down {G:Hp}(m:M (F.up G) α σ H):M F α σ H where
 len:=m.len
 ok:=fun i a s e1 e2=>(m.ok i a s e1 e2).stay (fun _ _ e=>e) (fun x o hf e=>by
  obtain⟨h1,h2,_⟩:=m.ft e1 e2 hf
  exact⟨e,h1,js h2⟩) rfl fun r _ _ l=>⟨l.tp,l.o,l.ok,l.k⟩
 dj:=m.dj
 xd:=m.xd
 tp:=m.tp.to rfl fun _ z=>z
 keep:=fun x o e n=>m.keep x o (pD e) n
 oex:=m.oex
theorem M.upold {α0:Ev}{σ0:St}{H1:Hp}(m0:M F α0 σ0 H1)(m:M (F.up (Gz F α0 σ0 H1)) α σ H):zy (Gz F α0 σ0 H1) (Gz F α σ H):=fun a o e=>by
 obtain⟨h1,h2⟩:=zj e
 have e0:(F.up (Gz F α0 σ0 H1)).H0 a=some o:=by
  show (F.H0 a).or (Gz F α0 σ0 H1 a)=some o
  cases q:F.H0 a with
  |none=>exact e
  |some o'=>
   have:=m0.keep a o' q (m0.tp.nt (ow0 h1))
   rw[h2] at this;cases this;rfl
 exact m.old a o (zM (p:=fun x=>¬F.O0 x) (ow0 h1) e0)
end
def yX (F:Fr)(α:Ev)(σ:St)(H:Hp)(v:V)(H':Hp)(ds:List PyData):Prop:=
 ∃l xs,v=.ref l∧H l=none∧H' l=some (.lst xs)∧AVs (sub (fun x=>¬Ow F α σ x∧x≠l) H') xs ds
def cm (F:Fr)(α:Ev)(σ:St)(H:Hp)(v:V)(H':Hp)(c:PyData):Prop:=
 ∃l o,v=.ref l∧H l=none∧H' l=some o∧xk (sub (fun x=>¬Ow F α σ x∧x≠l) H') o c
theorem yX.c {F:Fr}{α:Ev}{σ:St}{H H':Hp}{v:V}{ds:List PyData}(h:yX F α σ H v H' ds):cm F α σ H v H' (.list ds):=by
 obtain⟨l,xs,h1,h2,h3,h4⟩:=h
 exact⟨l,_,h1,h2,h3,.lst h4⟩
theorem yX.av {F:Fr}{α:Ev}{σ:St}{H H':Hp}{v:V}{ds:List PyData}(m:M F α σ H)(h:yX F α σ H v H' ds):AV (Gz F α σ H') v (.list ds):=by
 obtain⟨l,xs,rfl,h1,h2,h3⟩:=h
 exact .lst (zM (m.fresh h1) h2) (h3.same (zu fun a o h e=>⟨h.1,e⟩))
section
variable (X:Cx)(α:Ev)
def EvD (e:Expr)(Q:PyData→Prop):Prop:=∀(F:Fr) (σ:St) (H:Hp) (R:VK),M F α σ H→(∀d v H',Q d→zR F H'→Kz F H H'→AV (Gz F α σ H') v d→R v H')→tD X e σ H R
def EvL (e:Expr)(Q:List PyData→Prop):Prop:=∀(F:Fr) (σ:St) (H:Hp) (R:VK),M F α σ H→(∀ds v H',Q ds→zR F H'→Kz F H H'→yX F α σ H v H' ds→R v H')→tD X e σ H R
def EvT (e:Expr)(Q:Bool→Prop):Prop:=∀(F:Fr) (σ:St) (H:Hp) (R:Bool→Hp→Prop),M F α σ H→(∀b H',Q b→zR F H'→Kz F H H'→R b H')→zl0 X e σ H R
def jA (F:Fr)(G:Hp)(v:V):A→Prop
 |.dat d=>AV G v d
 |.tape=>∃t b c,F.tp=some (t,b,c)∧v=.ref t
 |_=>False
inductive ye (F:Fr)(G:Hp):List V→List A→Prop where
 |nil:ye F G [] []
 |cons {v:V} {vs:List V} {a:A} {as:List A}:jA F G v a→ye F G vs as→ye F G (v::vs) (a::as)
def EvA (es:List Expr)(Q:List A→Prop):Prop:=∀(F:Fr) (σ:St) (H:Hp) (R:List V→Hp→Prop),M F α σ H→(∀as vs H',Q as→zR F H'→Kz F H H'→ye F (Gz F α σ H') vs as→R vs H')→zn6 X es σ H R
end
theorem jA.to {F F':Fr}{G G':Hp}(s:zy G G')(hp:F'.tp=F.tp){v:V}:∀{a:A},jA F G v a→jA F' G' v a
 |.dat _,h=>AV.same s h
 |.tape,⟨t,b,c,e,z⟩=>⟨t,b,c,hp.trans e,z⟩
 |.ow _,h=>h
 |.deep _ _,h=>h
 |.at _,h=>h
 |.exc _ _,h=>h
 |.pin _ _ _,h=>h
theorem ye.to {F F':Fr}{G G':Hp}(s:zy G G')(hp:F'.tp=F.tp):∀{vs:List V} {as:List A},ye F G vs as→ye F' G' vs as
 |_,_,.nil=>.nil
 |_,_,.cons h r=>.cons (h.to s hp) (ye.to s hp r)
theorem ye.length {F:Fr}{G:Hp}:∀{vs:List V} {as:List A},ye F G vs as→vs.length=as.length
 |_,_,.nil=>rfl
 |_,_,.cons _ r=>by rw[zv0,zv0,ye.length r]
def A.d :A→PyData
 |.dat d=>d
 |.ow c=>c
 |.deep d _=>d
 |_=>.none
def dr (F:Fr)(v:V)(H':Hp):A→Prop
 |.dat d=>AV (sub (fun x=>¬F.O0 x) H') v d
 |.ow c=>∃l xs ds,v=.ref l∧c=.list ds∧F.H0 l=none∧¬F.O0 l∧H' l=some (.lst xs)∧AVs (sub (fun x=>¬F.O0 x∧x≠l) H') xs ds
 |.deep d S=>AV (vR S (sub (fun x=>¬F.O0 x) H') H') v d∧∀x,S x→¬F.O0 x∧F.H0 x=none∧∃xs,H' x=some (.lst xs)
 |_=>False
def wO (F:Fr)(v:V)(H':Hp)(a:A):Prop:=zR F H'∧Kz F F.H0 H'∧dr F v H' a
def spA (φ:List A→(A→Prop)→Prop):Sp:=fun vs H Qc _=>∃(F:Fr) (as:List A) (Q:A→Prop),F.H0=H∧zR F H∧(∀x,F.O0 x→∃o,H x=some o∧wR o)∧ye F (sub (fun x=>¬F.O0 x) H) vs as∧φ as Q∧∀a v H',Q a→wO F v H' a→Qc v H'
theorem dr.to {F F':Fr}{v:V}{H':Hp}{a:A}(r:dr F v H' a)(ho:∀x,F'.O0 x→F.O0 x)(h0:∀x,F.H0 x=none→F'.H0 x=none):dr F' v H' a:=by
 have s:zy (sub (fun x=>¬F.O0 x) H') (sub (fun x=>¬F'.O0 x) H'):=zu fun a o h e=>⟨fun z=>h (ho _ z),e⟩
 cases a with
 |dat d=>exact AV.same s r
 |ow c=>
  obtain⟨l,xs,ds,h1,hc,h2,h3,h4,h5⟩:=r
  exact⟨l,xs,ds,h1,hc,h0 _ h2,fun z=>h3 (ho _ z),h4,h5.same (zu fun a o h e=>⟨⟨fun z=>h.1 (ho _ z),h.2⟩,e⟩)⟩
 |deep d S=>
  obtain⟨h1,h2⟩:=r
  refine⟨h1.same (uM s fun _ _ _ e=>e),fun x z=>?_⟩
  obtain⟨z1,z2,z3⟩:=h2 x z
  exact⟨fun w=>z1 (ho _ w),h0 _ z2,z3⟩
 |tape=>exact r
 |«at» _=>exact r
 |exc _ _=>exact r
 |pin _ _ _=>exact r
structure xi where
 nx:Ev→Prop
 rt:A→Prop
 bk:Ev→Prop:=fun _=>False
 ct:Ev→Prop:=fun _=>False
structure nB (F:Fr)(E:xi)(D:Ends):Prop where
 nx:∀α σ H,M F α σ H→E.nx α→D.nx σ H
 rt:∀a v H,wO F v H a→E.rt a→D.rt v H
 bk:∀α σ H,M F α σ H→E.bk α→D.bk σ H
 ct:∀α σ H,M F α σ H→E.ct α→D.ct σ H
def SvS (X:Cx)(α:Ev)(sts:List Stmt)(E:xi):Prop:=∀(F:Fr) (σ:St) (H:Hp) (D:Ends),M F α σ H→nB F E D→iY X sts D σ H
theorem nB.up {F:Fr}{G:Hp}{E:xi}{D:Ends}(e:nB F E D):nB (F.up G) E D where
 nx:=fun α σ H m q=>e.nx α σ H m.down q
 bk:=fun α σ H m q=>e.bk α σ H m.down q
 ct:=fun α σ H m q=>e.ct α σ H m.down q
 rt:=fun a v H r q=>e.rt a v H (by
  obtain⟨t,k,r⟩:=r
  exact⟨t.to rfl fun _ z=>z,fun x o e n=>k x o (pD e) n,r.to (fun _ z=>z) fun x z=>js z⟩) q
section
variable {X:Cx}{α:Ev}{e a b c:Expr}{es:List Expr}{pos p q:Pos}{Q:PyData→Prop}
theorem EvL.d (h:EvL X α e (fun ds=>Q (.list ds))):EvD X α e Q:=fun F σ H R m k=>h F σ H R m fun ds v H' q t z f=>k _ v H' q t z (f.av m)
theorem EvD.imp {Q':PyData→Prop}(h:EvD X α e Q')(k:∀d,Q' d→Q d):EvD X α e Q:=fun F σ H R m r=>h F σ H R m fun d v H' q=>r d v H' (k d q)
theorem zc (i:Nat){x:Str}{d:PyData}(hi:α[i]?=some (some (.dat d)))(q:Q d)(hN:X.N[i]?=some x:=by rfl)(hv:Vis X.env.scope x:=by first|exact Or.inl rfl|exact Or.inr (Or.inl rfl)|exact Or.inr (Or.inr rfl))
  (hd:(x == ("__debug__":Str))=false:=by decide) (hcd:(x == ("__classdict__":Str))=false:=by decide):EvD X α (.Name x pos) Q:=fun F σ H R m k=>by
 obtain⟨v,h1,h2⟩:=m.dat i d hi
 exact⟨_,yI hN hv hd hcd,v,h1,k d v H q m.tp Kz.refl h2⟩
theorem yc {i:Int}{j:Nat}(q:Q (.int i)):EvD X α (.Constant (.int i) j pos) Q:=fun F σ H R m k=>⟨_,zp,k _ _ H q m.tp Kz.refl (.int i)⟩
theorem za7 {i:Bool}{j:Nat}(q:Q (.bool i)):EvD X α (.Constant (.bool i) j pos) Q:=fun F σ H R m k=>⟨_,zn7,k _ _ H q m.tp Kz.refl (.bl i)⟩
theorem sR {j:Nat}(q:Q .none):EvD X α (.Constant .none j pos) Q:=fun F σ H R m k=>⟨_,qH,k _ _ H q m.tp Kz.refl .non⟩
theorem zY {x:Str}{j:Nat}(q:Q (.str x)):EvD X α (.Constant (.str x) j pos) Q:=fun F σ H R m k=>⟨_,yi,k _ _ H q m.tp Kz.refl (.str x)⟩
theorem eM {x:Str}{i:Int}(hg:Gl X x)(hm:∃t,X.mg x=some (.int i t))(q:Q (.int i))(hd:(x == ("__debug__":Str))=false:=by decide):EvD X α (.Name x pos) Q:=fun F σ H R m k=>by
 obtain⟨t,hm⟩:=hm
 exact⟨_,vv hg hm (show RelV (.int i) (.int i t) from ⟨t,rfl⟩) hd,k _ _ H q m.tp Kz.refl (.int i)⟩
theorem uH {f:TE→TE→TE}(hf:PE X e (f (tD X a) (tD X b)))(hr:∀σ H R,f (tD X a) (tD X b) σ H R↔tD X a σ H (fun x H1=>tD X b σ H1 fun y H2=>f (tC x) (tC y) σ H2 R))
  (h:EvD X α a fun x=>EvD X α b fun y=>∀(F:Fr) (σ:St) (H:Hp) (vx vy:V) (R:VK),M F α σ H→AV (Gz F α σ H) vx x→AV (Gz F α σ H) vy y→(∀d v H',Q d→zR F H'→Kz F H H'→AV (Gz F α σ H') v d→R v H')→f (tC vx) (tC vy) σ H R):
  EvD X α e Q:=fun F σ H R m k=>by
 refine⟨_,hf,(hr σ H R).mpr ?_⟩
 refine h F σ H _ m fun x vx H1 q1 t1 k1 r1=>?_
 have m1:=m.kz k1 t1
 refine q1 F σ H1 _ m1 fun y vy H2 q2 t2 k2 r2=>?_
 exact q2 F σ H2 vx vy R (m1.kz k2 t2) (r1.same (k2.gz m1.tp)) r2 fun d v H' qd t3 k3 r3=>k d v H' qd t3 ((k1.trans k2).trans k3) r3
theorem AV.int_inv {H:Hp}{v:V}{i:Int}(h:AV H v (.int i)):v=.int i:=by cases h;rfl
theorem AV.bl_inv {H:Hp}{v:V}{i:Bool}(h:AV H v (.bool i)):v=.bl i:=by cases h;rfl
theorem AV.str_inv {H:Hp}{v:V}{i:Str}(h:AV H v (.str i)):v=.str i:=by cases h;rfl
theorem AV.tup_inv {H:Hp}{v:V}{ds:List PyData}(h:AV H v (.tuple ds)):∃a xs,v=.ref a∧H a=some (.tup xs)∧AVs H xs ds:=by cases h;exact⟨_,_,rfl,by assumption,by assumption⟩
theorem AV.lst_inv {H:Hp}{v:V}{ds:List PyData}(h:AV H v (.list ds)):∃a xs,v=.ref a∧H a=some (.lst xs)∧AVs H xs ds:=by cases h;exact⟨_,_,rfl,by assumption,by assumption⟩
theorem AV.non_inv {H:Hp}{v:V}(h:AV H v .none):v=.non:=by cases h;rfl
theorem AV.isnon {H:Hp}{v:V}{d:PyData}(h:AV H v d):decide (v=.non)=(match d with|.none=>true|_=>false):=by cases h<;>simp
theorem zi8 {op:Operator}{C:Int→Int→Prop}{g:Int→Int→V}{gd:Int→Int→PyData}(ho:OpR X (binaryOp op) (rI C g))(hg:∀H i j,AV H (g i j) (gd i j))
  (h:EvD X α a fun x=>EvD X α b fun y=>∃i j,x=.int i∧y=.int j∧C i j∧Q (gd i j)):EvD X α (.BinOp a op b pos) Q:=by
 refine uH (f:=tOp (rI C g)) (yt ho zq zq) (fun _ _ _=>Iff.rfl) (h.imp fun x h=>h.imp fun y ⟨i,j,e1,e2,hc,hq⟩=>?_)
 subst e1 e2
 intro F σ H vx vy R m rx ry k
 cases rx.int_inv;cases ry.int_inv
 exact⟨i,j,rfl,rfl,hc,k _ _ H hq m.tp Kz.refl (hg _ i j)⟩
theorem kf {op:Operator}{g:Int→Int→V}{gd:Int→Int→PyData}(ho:OpR X (binaryOp op) (rI0 g))(hg:∀H i j,AV H (g i j) (gd i j))
  (h:EvD X α a fun x=>EvD X α b fun y=>∃i j,x=.int i∧y=.int j∧Q (gd i j)):EvD X α (.BinOp a op b pos) Q:=by
 refine uH (f:=tOp (rI0 g)) (yt ho zq zq) (fun _ _ _=>Iff.rfl) (h.imp fun x h=>h.imp fun y ⟨i,j,e1,e2,hq⟩=>?_)
 subst e1 e2
 intro F σ H vx vy R m rx ry k
 cases rx.int_inv;cases ry.int_inv
 exact⟨i,j,rfl,rfl,k _ _ H hq m.tp Kz.refl (hg _ i j)⟩
theorem xF (h:EvD X α a fun x=>EvD X α b fun y=>∃i j,x=.int i∧y=.int j∧Q (.int (i+j))):EvD X α (.BinOp a .Add b pos) Q:=kf (gd:=fun i j=>.int (i+j)) uD (fun _ _ _=>.int _) h
theorem pe (h:EvD X α a fun x=>EvD X α b fun y=>∃i j,x=.int i∧y=.int j∧Q (.int (i-j))):EvD X α (.BinOp a .Sub b pos) Q:=kf (gd:=fun i j=>.int (i-j)) gf (fun _ _ _=>.int _) h
theorem zb5 (h:EvD X α a fun x=>EvD X α b fun y=>∃i j,x=.int i∧y=.int j∧zc9 i j∧Q (.int (i ^ j.toNat))):EvD X α (.BinOp a .Pow b pos) Q:=zi8 (gd:=fun i j=>.int (i ^ j.toNat)) fG (fun _ _ _=>.int _) h
theorem qM {i j r:Int}{p1 p2:Pos}{n1 n2:Nat}(hc:zc9 i j)(hr:i ^ j.toNat=r)(q:Q (.int r)):EvD X α (.BinOp (.Constant (.int i) n1 p1) .Pow (.Constant (.int j) n2 p2) pos) Q:=
 zb5 (yc (yc ⟨i,j,rfl,rfl,hc,hr▸q⟩))
theorem aK {op:CmpOp}{g:Int→Int→Bool}(ho:OpR X (compareOp op) (rI0 fun i j=>.bl (g i j)))(hm:behindInMarks op b=false)
  (h:EvD X α a fun x=>EvD X α b fun y=>∃i j,x=.int i∧y=.int j∧Q (.bool (g i j))):EvD X α (.Compare a [op] [b] pos) Q:=by
 refine uH (f:=tOp (rI0 fun i j=>.bl (g i j))) (xR ho zq zq hm) (fun _ _ _=>Iff.rfl) (h.imp fun x h=>h.imp fun y ⟨i,j,e1,e2,hq⟩=>?_)
 subst e1 e2
 intro F σ H vx vy R m rx ry k
 cases rx.int_inv;cases ry.int_inv
 exact⟨i,j,rfl,rfl,k _ _ H hq m.tp Kz.refl (.bl _)⟩
theorem aS (h:EvD X α a fun x=>EvD X α b fun y=>∃i j,x=.int i∧y=.int j∧Q (.bool (decide (i<j)))):EvD X α (.Compare a [.Lt] [b] pos) Q:=aK aT (zF _) h
def vN :PyData→Bool
 |.none=>true
 |_=>false
theorem AV.non_iff {H:Hp}{v:V}{d:PyData}(h:AV H v d):decide (v=.non)=vN d:=by cases h<;>simp[vN]
theorem yZ {Q:Bool→Prop}(h:EvD X α e fun x=>∃k,x=.bool k∧Q k)(he:∀whole,isTrue e X.env whole=(do let v ←whole;standAt e.pos;holding [v] (truthy v)):=by intro _;rfl):EvT X α e Q:=fun F σ H R m k=>by
 refine⟨_,fV zq he,?_⟩
 refine h F σ H _ m fun x vx H1 q1 t1 k1 r1=>?_
 obtain⟨b,rfl,q⟩:=q1
 cases r1.bl_inv
 exact⟨b,rfl,k b H1 q t1 k1⟩
def Cmp (r:R2)(x y:PyData)(k:Bool):Prop:=∀(p:Addr→Prop) (H:Hp) (vx vy:V) (R:VK),AV (sub p H) vx x→AV (sub p H) vy y→R (.bl k) H→r vx vy H R
theorem vZ {op:CmpOp}{r:R2}{Q:Bool→Prop}(ho:OpR X (compareOp op) r)(hm:behindInMarks op b=false)(h:EvD X α a fun x=>EvD X α b fun y=>∃k,Cmp r x y k∧Q k):EvT X α (.Compare a [op] [b] pos) Q:=fun F σ H R m k=>by
 refine⟨_,yh ho zq zq hm,?_⟩
 refine h F σ H _ m fun x vx H1 q1 t1 k1 r1=>?_
 have m1:=m.kz k1 t1
 refine q1 F σ H1 _ m1 fun y vy H2 q2 t2 k2 r2=>?_
 obtain⟨b,hc,q⟩:=q2
 exact hc _ H2 vx vy _ (r1.same (k2.gz m1.tp)) r2 ⟨b,rfl,k b H2 q t2 (k1.trans k2)⟩
theorem cK {g:Int→Int→Bool}{i j:Int}:Cmp (rI0 fun i j=>.bl (g i j)) (.int i) (.int j) (g i j):=fun p H vx vy R rx ry h=>by
 cases rx.int_inv;cases ry.int_inv
 exact⟨i,j,rfl,rfl,h⟩
theorem kK {op:CmpOp}{g:Int→Int→Bool}{Q:Bool→Prop}(ho:OpR X (compareOp op) (rI0 fun i j=>.bl (g i j)))(hm:behindInMarks op b=false)
  (h:EvD X α a fun x=>EvD X α b fun y=>∃i j,x=.int i∧y=.int j∧Q (g i j)):EvT X α (.Compare a [op] [b] pos) Q:=
 vZ ho hm (h.imp fun x h=>h.imp fun y ⟨i,j,e1,e2,q⟩=>⟨_,by subst e1 e2;exact cK,q⟩)
theorem aR {Q:Bool→Prop}(h:EvD X α a fun x=>EvD X α b fun y=>∃i j,x=.int i∧y=.int j∧Q (decide (i<j))):EvT X α (.Compare a [.Lt] [b] pos) Q:=kK aT (zF _) h
theorem eu {Q:Bool→Prop}(h:EvD X α a fun x=>EvD X α b fun y=>∃i j,x=.int i∧y=.int j∧Q (decide (j<i))):EvT X α (.Compare a [.Gt] [b] pos) Q:=kK kj (zF _) h
theorem wH {j:Nat}{Q:Bool→Prop}(h:EvD X α a fun x=>Q (vN x)):EvT X α (.Compare a [.Is] [.Constant .none j p] pos) Q:=
 vZ lG (zF _) (h.imp fun x h=>sR ⟨_,fun p H vx vy R rx ry z=>⟨ry.non_inv,by rw[rx.non_iff];exact z⟩,h⟩)
def zq3 :PyData→Option Bool
 |.none=>some false
 |.bool b=>some b
 |.int i=>some (i != 0)
 |.list ds=>some (!ds.isEmpty)
 |.tuple ds=>some (!ds.isEmpty)
 |_=>none
theorem AVs.isEmpty {H:Hp}{xs:List V}{ds:List PyData}(h:AVs H xs ds):xs.isEmpty=ds.isEmpty:=by cases h<;>rfl
theorem nC {Q:Bool→Prop}(h:EvD X α e fun x=>∃k,zq3 x=some k∧Q k)(he:∀whole,isTrue e X.env whole=(do let v ←whole;standAt e.pos;holding [v] (truthy v)):=by intro _;rfl):EvT X α e Q:=fun F σ H R m k=>by
 refine⟨_,fh zq he,?_⟩
 refine h F σ H _ m fun x vx H1 q1 t1 k1 r1=>?_
 obtain⟨b,hb,q⟩:=q1
 refine⟨b,?_,k b H1 q t1 k1⟩
 cases r1 with
 |non=>cases hb;rfl
 |bl z=>cases hb;rfl
 |int i=>cases hb;rfl
 |str s=>cases hb
 |lst h1 h2=>cases hb;exact .inl ⟨_,SqL.of (zj h1).2,by rw[h2.isEmpty]⟩
 |tup h1 h2=>cases hb;exact .inr (.inl ⟨_,SqT.of (zj h1).2,by rw[h2.isEmpty]⟩)
 |ins _ _=>cases hb
 |dk _ _=>cases hb
 |dt _ _=>cases hb
 |xc _ _ _=>cases hb
 |xn _=>cases hb
theorem vT {Q:Bool→Prop}(h:EvT X α a fun k=>Q (!k)):EvT X α (.UnaryOp .Not a pos) Q:=fun F σ H R m k=>by
 refine⟨_,gg xT,?_⟩
 exact h F σ H _ m fun b H1 q1 t1 k1=>k _ H1 q1 t1 k1
def EvW (X:Cx)(α:Ev)(e:Expr)(Q:Bool→Prop):Prop:=∀(F:Fr) (σ:St) (H:Hp) (R:Bool→Hp→Prop),M F α σ H→(∀b H',Q b→zR F H'→Kz F H H'→R b H')→∃t,PW X e t∧t σ H R
def zq8 (X:Cx)(e:Expr):TT:=fun σ H Q=>∃t,PW X e t∧t σ H Q
theorem kn :PW X e (zq8 X e):=fun w pins s σ H Q I ⟨t,p,q⟩=>p w pins s σ H Q I q
theorem EvW.t {Q:Bool→Prop}(h:EvW X α e Q):EvT X α e Q:=fun F σ H R m k=>by
 obtain⟨t,p,q⟩:=h F σ H R m k
 exact⟨t,p.pt,q⟩
variable {rest:List Expr}
theorem kH {Q:Bool→Prop}(h:EvT X α a Q):EvW X α (.BoolOp .And [a] pos) Q:=fun F σ H R m k=>⟨_,jr xT,h F σ H R m k⟩
theorem rz {Q:Bool→Prop}(h:EvT X α a Q):EvW X α (.BoolOp .Or [a] pos) Q:=fun F σ H R m k=>⟨_,mJ xT,h F σ H R m k⟩
theorem eX {Q:Bool→Prop}(h:EvT X α a fun k=>if k=true then EvW X α (.BoolOp .And (b::rest) pos) Q else Q false):EvW X α (.BoolOp .And (a::b::rest) pos) Q:=fun F σ H R m k=>by
 refine⟨_,dg xT kn,?_⟩
 refine h F σ H _ m fun c H1 q1 t1 k1=>?_
 cases c with
 |true=>exact rj ((by simpa using q1:EvW X α _ Q) F σ H1 R (m.kz k1 t1) fun b H2 q2 t2 k2=>k b H2 q2 t2 (k1.trans k2))
 |false=>exact rG (k _ H1 (by simpa using q1) t1 k1)
theorem ug {Q:Bool→Prop}(h:EvT X α a fun k=>if k=true then Q true else EvW X α (.BoolOp .Or (b::rest) pos) Q):EvW X α (.BoolOp .Or (a::b::rest) pos) Q:=fun F σ H R m k=>by
 refine⟨_,gj xT kn,?_⟩
 refine h F σ H _ m fun c H1 q1 t1 k1=>?_
 cases c with
 |false=>exact rG ((by simpa using q1:EvW X α _ Q) F σ H1 R (m.kz k1 t1) fun b H2 q2 t2 k2=>k b H2 q2 t2 (k1.trans k2))
 |true=>exact rj (k _ H1 (by simpa using q1) t1 k1)
theorem ll (h:EvT X α c fun k=>if k=true then EvD X α a Q else EvD X α b Q):EvD X α (.IfExp c a b pos) Q:=fun F σ H R m k=>by
 refine⟨_,gn xT zq zq,?_⟩
 refine h F σ H _ m fun x H1 q1 t1 k1=>?_
 cases x with
 |true=>exact rj ((by simpa using q1:EvD X α _ Q) F σ H1 R (m.kz k1 t1) fun d v H2 q2 t2 k2 r2=>k d v H2 q2 t2 (k1.trans k2) r2)
 |false=>exact rG ((by simpa using q1:EvD X α _ Q) F σ H1 R (m.kz k1 t1) fun d v H2 q2 t2 k2 r2=>k d v H2 q2 t2 (k1.trans k2) r2)
theorem lY (hs:tJ b)(h:EvD X α a fun x=>EvD X α b fun y=>∃ds i d,x=.list ds∧y=.int i∧atI ds i=some d∧Q d):EvD X α (.Subscript a b pos) Q:=by
 refine uH (f:=tOp (zg0 X.K)) (zP zS zq zq hs) (fun _ _ _=>Iff.rfl) (h.imp fun x h=>h.imp fun y ⟨ds,i,d,e1,e2,hat,hq⟩=>?_)
 subst e1 e2
 intro F σ H vx vy R m rx ry k
 obtain⟨a,xs,rfl,h1,h2⟩:=rx.lst_inv
 cases ry.int_inv
 obtain⟨v,hv,av⟩:=h2.atI hat
 exact⟨a,xs,i,v,rfl,rfl,SqL.of (zj h1).2,hv,k d v H hq m.tp Kz.refl av⟩
theorem xZ (hs:tJ b)(h:EvD X α a fun x=>EvD X α b fun y=>∃ds i d,x=.tuple ds∧y=.int i∧atI ds i=some d∧Q d):EvD X α (.Subscript a b pos) Q:=by
 refine uH (f:=tOp (zb6 X.K)) (zP yC zq zq hs) (fun _ _ _=>Iff.rfl) (h.imp fun x h=>h.imp fun y ⟨ds,i,d,e1,e2,hat,hq⟩=>?_)
 subst e1 e2
 intro F σ H vx vy R m rx ry k
 obtain⟨a,xs,rfl,h1,h2⟩:=rx.tup_inv
 cases ry.int_inv
 obtain⟨v,hv,av⟩:=h2.atI hat
 exact⟨a,xs,i,v,rfl,rfl,SqT.of (zj h1).2,hv,k d v H hq m.tp Kz.refl av⟩
theorem M.lay {F:Fr}{σ:St}{H:Hp}{l:Addr}{xs:List V}{ds:List PyData}(m:M F α σ H)(hl:H l=none)(h:AVs (Gz F α σ H) xs ds):zR F (upd H l (.lst xs))∧Kz F H (upd H l (.lst xs))∧yX F α σ H (.ref l) (upd H l (.lst xs)) ds:=by
 refine⟨m.tp.same (yD hl),Kz.of_same (yD hl),l,xs,rfl,hl,zh,h.same (zu fun a o ha e=>?_)⟩
 have:=zk e hl
 exact⟨⟨ha,this⟩,by rw[zg this];exact e⟩
theorem yX.back {F:Fr}{σ:St}{H H1 H':Hp}{v:V}{ds:List PyData}(m:M F α σ H)(k:Kz F H H1)(t1:zR F H1)(h:yX F α σ H1 v H' ds):yX F α σ H v H' ds:=by
 obtain⟨l',xs',e1,e2,e3,e4⟩:=h
 refine⟨l',xs',e1,?_,e3,e4⟩
 cases z:H l' with
 |none=>rfl
 |some o=>rw[k l' o z (m.tp.nt (ow0 ((m.kz k t1).fresh e2)))] at e2;cases e2
theorem zo {Q:List A→Prop}(q:Q []):EvA X α [] Q:=fun F σ H R m k=>⟨_,zr,k _ _ H q m.tp Kz.refl .nil⟩
theorem zf {Q:List A→Prop}(h:EvD X α e fun d=>EvA X α es fun as=>Q (.dat d::as))(hs:starEach (e::es) X.env=(false,eval e X.env)::starEach es X.env:=by rfl):EvA X α (e::es) Q:=fun F σ H R m k=>by
 refine⟨_,zd zq yQ hs,?_⟩
 refine h F σ H _ m fun d v H1 q1 t1 k1 r1=>?_
 have m1:=m.kz k1 t1
 exact q1 F σ H1 _ m1 fun as vs H2 q2 t2 k2 r2=>k _ _ H2 q2 t2 (k1.trans k2) (.cons (r1.same (k2.gz m1.tp)) r2)
theorem zZ {Q:List A→Prop}(i:Nat){x:Str}(hi:α[i]?=some (some .tape))(h:EvA X α es fun as=>Q (.tape::as))(hN:X.N[i]?=some x:=by rfl)(hv:Vis X.env.scope x:=by first|exact Or.inl rfl|exact Or.inr (Or.inl rfl)|exact Or.inr (Or.inr rfl))
  (hd:(x == ("__debug__":Str))=false:=by decide) (hcd:(x == ("__classdict__":Str))=false:=by decide) (hs:starEach (.Name x pos::es) X.env=(false,eval (.Name x pos) X.env)::starEach es X.env:=by rfl):EvA X α (.Name x pos::es) Q:=fun F σ H R m k=>by
 obtain⟨t,b,c,h1,h2⟩:=m.tvar i hi
 refine⟨_,zd (yI hN hv hd hcd) yQ hs,.ref t,h2,?_⟩
 exact h F σ H _ m fun as vs H2 q2 t2 k2 r2=>k _ _ H2 q2 t2 k2 (.cons ⟨t,b,c,h1,rfl⟩ r2)
def datas :List A→Option (List PyData)
 |[]=>some []
 |.dat d::r=>(datas r).map (d::·)
 |_::_=>none
theorem ye.datas {F:Fr}{G:Hp}:∀{vs:List V} {as:List A} {ds:List PyData},ye F G vs as→L2.datas as=some ds→AVs G vs ds
 |_,_,ds,.nil,h=>by cases h;exact .nil
 |_,_,ds,.cons (a:=.dat d) (as:=as) h r,e=>by
  simp only[L2.datas,zw9] at e
  obtain⟨es,e1,rfl⟩:=e
  exact .cons h (ye.datas r e1)
 |_,_,ds,.cons (a:=.ow _) h r,e=>by cases h
 |_,_,ds,.cons (a:=.deep _ _) h r,e=>by cases h
 |_,_,ds,.cons (a:=.exc _ _) h r,e=>by cases h
 |_,_,ds,.cons (a:=.pin _ _ _) h r,e=>by cases h
 |_,_,ds,.cons (a:=.tape) h r,e=>by cases e
 |_,_,ds,.cons (a:=.at _) h r,e=>by cases h
theorem yR {n:Nat}(h:EvA X α es fun as=>∃ds,datas as=some ds∧ds.length≤1000∧Q (.tuple ds)):EvD X α (.Tuple es n pos) Q:=fun F σ H R m k=>by
 refine⟨_,pd yQ,?_⟩
 refine h F σ H _ m fun as vs H1 q1 t1 k1 r1=>?_
 obtain⟨ds,e,hl,q⟩:=q1
 have r:=r1.datas e
 have m1:=m.kz k1 t1
 refine⟨by rw[r.length];exact zz2 (yM hl),fun p hp=>?_⟩
 refine k _ _ _ q (t1.same (yD hp)) (k1.trans (Kz.of_same (yD hp))) (.tup (xs:=vs) (zM (m1.fresh hp) zh) (r.same (zu fun a o ha e=>⟨ha,by rw[zg (zk e hp)];exact e⟩)))
theorem xp {Q:List PyData→Prop}(h:EvA X α es fun as=>∃ds,datas as=some ds∧ds.length≤1000∧Q ds):EvL X α (.List es pos) Q:=fun F σ H R m k=>by
 refine⟨_,dO yQ,?_⟩
 refine h F σ H _ m fun as vs H1 q1 t1 k1 r1=>?_
 obtain⟨ds,e,hl,q⟩:=q1
 have r:=r1.datas e
 have m1:=m.kz k1 t1
 refine⟨by rw[r.length];exact zz2 (yM hl),fun p hp=>?_⟩
 obtain⟨g1,g2,g3⟩:=m1.lay hp r
 exact k _ _ _ q g1 (k1.trans g2) (g3.back m k1 t1)
theorem wM {Q:List PyData→Prop}(h:EvD X α a fun x=>EvD X α b fun y=>∃ds es,x=.list ds∧y=.list es∧ds.length+es.length≤1000∧Q (ds++es)):EvL X α (.BinOp a .Add b pos) Q:=fun F σ H R m k=>by
 refine⟨_,yt zi7 zq zq,?_⟩
 refine h F σ H _ m fun x vx H1 q1 t1 k1 r1=>?_
 have m1:=m.kz k1 t1
 refine q1 F σ H1 _ m1 fun y vy H2 q2 t2 k2 r2=>?_
 have m2:=m1.kz k2 t2
 obtain⟨ds,es,rfl,rfl,hl,q⟩:=q2
 obtain⟨a,xs,rfl,h1,h2⟩:=(r1.same (k2.gz m1.tp)).lst_inv
 obtain⟨b,ys,rfl,h3,h4⟩:=r2.lst_inv
 refine⟨a,b,xs,ys,rfl,rfl,(zj h1).2,(zj h3).2,by rw[h2.length,h4.length];exact zz2 (yM hl),fun p hp=>?_⟩
 obtain⟨g1,g2,g3⟩:=m2.lay hp (h2.append h4)
 exact k _ _ _ q g1 ((k1.trans k2).trans g2) (g3.back m (k1.trans k2) t2)
theorem rn {id:String}{x:Str}{r:List V→Hp→VK→Prop}(hc:xQ X (.builtin id) r)(hg:Gl X x)(hm:X.mg x=none)(hv:bootBuiltins x=some (.builtin id))
  (h:EvA X α (e::es) fun as=>∀(F:Fr) (σ:St) (H:Hp) (vs:List V) (R:VK),M F α σ H→ye F (Gz F α σ H) vs as→(∀d v H',Q d→zR F H'→Kz F H H'→AV (Gz F α σ H') v d→R v H')→r vs H R)
  (hn:x≠"__name__":=by decide) (hdb:(x == ("__debug__":Str))=false:=by decide) (he:starEach (e::es) X.env=(false,eval e X.env)::starEach es X.env:=by rfl) (hpl:(backTo pos (starEach es X.env)).any (·.1)=false:=by rfl):
  EvD X α (.Call (.Name x p) (e::es) [] pos) Q:=fun F σ H R m k=>by
 refine⟨_,zV hc hg hm hv yQ hn hdb he hpl,?_⟩
 refine h F σ H _ m fun as vs H1 q1 t1 k1 r1=>?_
 exact q1 F σ H1 vs R (m.kz k1 t1) r1 fun d v H' qd t2 k2 r2=>k d v H' qd t2 (k1.trans k2) r2
end
section
variable {X:Cx}{α:Ev}{e a b c:Expr}{es:List Expr}{pos p q:Pos}{Q:PyData→Prop}
theorem ye.one {F:Fr}{G:Hp}{vs:List V}{d:PyData}(h:ye F G vs [.dat d]):∃v,vs=[v]∧AV G v d:=by
 cases h with|cons h r=>cases r;exact⟨_,rfl,h⟩
theorem ye.two {F:Fr}{G:Hp}{vs:List V}{d e:PyData}(h:ye F G vs [.dat d,.dat e]):∃v u,vs=[v,u]∧AV G v d∧AV G u e:=by
 cases h with|cons h r=>obtain⟨u,rfl,h2⟩:=r.one;exact⟨_,u,rfl,h,h2⟩
def zs2 :PyData→Option Int
 |.list ds=>some ds.length
 |.tuple ds=>some ds.length
 |_=>none
theorem qO (hg:Gl X "len")(hm:X.mg "len"=none)(h:EvD X α e fun x=>∃n,zs2 x=some n∧Q (.int n))(he:starEach [e] X.env=(false,eval e X.env)::starEach [] X.env:=by rfl):
  EvD X α (.Call (.Name "len" p) [e] [] pos) Q:=by
 refine rn yr hg hm zB8 (zf (h.imp fun x ⟨n,e1,q⟩=>zo ?_) he) (he:=he)
 intro F σ H vs R m rv k
 obtain⟨v,rfl,av⟩:=rv.one
 cases av with
 |lst h1 h2=>cases e1;rw[←h2.length] at q;exact⟨_,_,rfl,.inl (SqL.of (zj h1).2),k _ _ H q m.tp Kz.refl (.int _)⟩
 |tup h1 h2=>cases e1;rw[←h2.length] at q;exact⟨_,_,rfl,.inr (SqT.of (zj h1).2),k _ _ H q m.tp Kz.refl (.int _)⟩
 |_=>cases e1
theorem uE {T:String}{x:Str}{p1:Pos}(hg:Gl X "isinstance")(hm:X.mg "isinstance"=none)(hgT:Gl X x)(hmT:X.mg x=none)(hT:bootBuiltins x=some (.type T))
  (h:EvD X α a fun x=>∃k,x.hasDict=false∧rE T x=some k∧Q (.bool k)) (hnx:x≠"__name__":=by decide) (hdx:(x == ("__debug__":Str))=false:=by decide)
  (he:starEach [a,.Name x p1] X.env=(false,eval a X.env)::starEach [.Name x p1] X.env:=by rfl) (he2:starEach [.Name x p1] X.env=(false,eval (.Name x p1) X.env)::starEach [] X.env:=by rfl) (hpl:(backTo pos (starEach [.Name x p1] X.env)).any (·.1)=false:=by rfl):
  EvD X α (.Call (.Name "isinstance" p) [a,.Name x p1] [] pos) Q:=fun F σ H R m k=>by
 refine⟨_,zV xu hg hm zA1 (zd zq (zd (wz hgT hmT hT (show RelV (.ty T) (.type T) from rfl) hnx hdx) zr he2) he) (he:=he) (hpl:=hpl),?_⟩
 refine h F σ H _ m fun x vx H1 q1 t1 k1 r1=>?_
 obtain⟨b,hd,e,q⟩:=q1
 exact⟨vx,T,x,b,rfl,(r1.dv hd).same xE,e,k _ _ H1 q t1 k1 (.bl b)⟩
def wK :PyData→Option (List PyData)
 |.list ds=>some ds
 |.tuple ds=>some ds
 |_=>none
theorem kg {Q:List PyData→Prop}(hg:Gl X "list")(hm:X.mg "list"=none)(h:EvD X α e fun x=>∃ds,wK x=some ds∧Q ds)(he:starEach [e] X.env=(false,eval e X.env)::starEach [] X.env:=by rfl):
  EvL X α (.Call (.Name "list" p) [e] [] pos) Q:=fun F σ H R m k=>by
 refine⟨_,wj wI hg hm boot_list (zd zq zr he) (he:=he),?_⟩
 refine h F σ H _ m fun x vx H1 q1 t1 k1 r1=>?_
 obtain⟨ds,e1,q⟩:=q1
 have m1:=m.kz k1 t1
 have fin:∀{xs:List V},AVs (Gz F α σ H1) xs ds→∀l,H1 l=none→R (.ref l) (upd H1 l (.lst xs)):=fun {xs} h2 l hl=>by
  obtain⟨g1,g2,g3⟩:=m1.lay hl h2
  exact k _ _ _ q g1 (k1.trans g2) (g3.back m k1 t1)
 cases r1 with
 |lst h1 h2=>cases e1;exact⟨_,_,rfl,.inl (SqL.of (zj h1).2),fin h2⟩
 |tup h1 h2=>cases e1;exact⟨_,_,rfl,.inr (SqT.of (zj h1).2),fin h2⟩
 |_=>cases e1
theorem qL (hgu:X.A.guards=some [])(hu:X.A.units+64<cLine)(hg:Gl X "repr")(hm:X.mg "repr"=none)(h:EvD X α e fun x=>zX sizeLine x∧Q (.str x.shown))(he:starEach [e] X.env=(false,eval e X.env)::starEach [] X.env:=by rfl):
  EvD X α (.Call (.Name "repr" p) [e] [] pos) Q:=by
 refine rn (iR hgu hu) hg hm boot_repr (zf (h.imp fun x ⟨n,q⟩=>zo ?_) he) (he:=he)
 intro F σ H vs R m rv k
 obtain⟨v,rfl,av⟩:=rv.one
 exact⟨v,x,rfl,(av.dv n.nod).same xE,n,k _ _ H q m.tp Kz.refl (.str _)⟩
section
variable {k:Nat}{f:Addr}{fd:FuncData}{ps:List Str}{φ:List A→(A→Prop)→Prop}{x:Str}
theorem wL {F:Fr}{σ:St}{H:Hp}{vs:List V}{as:List A}{QA:A→Prop}{R:VK}(m:M F α σ H)(rv:ye F (Gz F α σ H) vs as)(hφ:φ as QA)
  (kk:∀a v H',QA a→wO ⟨H,Ow F α σ,F.tp⟩ v H' a→R v H') {E:XK}:spA φ (vs++[]) H R E:=by
 refine⟨⟨H,Ow F α σ,F.tp⟩,as,QA,rfl,?_,?_,?_,hφ,kk⟩
 ·exact m.tp.to rfl fun _ z=>.inl z
 ·exact fun y z=>m.owEx z
 ·rw[zx9]
  exact ye.to (F:=F) (F':=⟨H,Ow F α σ,F.tp⟩) (fun _ _ e=>e) rfl rv
theorem wO.back {F:Fr}{σ:St}{H H':Hp}{v:V}{a:A}(m:M F α σ H)(h:wO ⟨H,Ow F α σ,F.tp⟩ v H' a):zR F H'∧Kz F H H'∧AV (Gz F α σ H') v a.d:=by
 obtain⟨t,kz,r⟩:=h
 refine⟨m.tp.re t rfl,kz,?_⟩
 cases a with
 |dat d=>exact r
 |ow c=>
  obtain⟨l,xs,ds,rfl,rfl,h1,h2,h3,h4⟩:=r
  exact .lst (zM h2 h3) (h4.same (zu fun a o h e=>⟨h.1,e⟩))
 |deep d S=>
  obtain⟨h1,h2⟩:=r
  refine h1.same fun x o e=>?_
  rcases sv e with ⟨z1,z2⟩|⟨_,z2⟩
  ·exact zM (h2 x z1).1 z2
  ·exact z2
 |tape=>exact r.elim
 |«at» _=>exact r.elim
 |exc _ _=>exact r.elim
 |pin _ _ _=>exact r.elim
theorem bp (G:zA X.prog X.w X.K X.mg X.base CX0 k f fd ps (spA φ))(hr:zK k X.A)(hg:Gl X x)(hm:X.mg x=some (.ref f))(hk:PySem.W.keepIn X.K (.ref f)=true)(hb:Binds X.K fd ps [])
  (h:EvA X α (e::es) fun as=>φ as fun a=>Q a.d) (hdb:(x == ("__debug__":Str))=false:=by decide) (he:starEach (e::es) X.env=(false,eval e X.env)::starEach es X.env:=by rfl) (hpl:(backTo pos (starEach es X.env)).any (·.1)=false:=by rfl):
  EvD X α (.Call (.Name x p) (e::es) [] pos) Q:=fun F σ H R m kk=>by
 refine⟨_,zT G hr hg hm hk hb .nil yb yQ hdb he hpl,?_⟩
 refine h F σ H _ m fun as vs H1 q1 t1 k1 r1=>?_
 have m1:=m.kz k1 t1
 refine wL m1 r1 q1 fun a v H' qa ra=>?_
 obtain⟨g1,g2,g3⟩:=ra.back m1
 exact kk _ v H' qa g1 (k1.trans g2) g3
theorem cM {Q:List PyData→Prop}(G:zA X.prog X.w X.K X.mg X.base CX0 k f fd ps (spA φ))(hr:zK k X.A)(hg:Gl X x)(hm:X.mg x=some (.ref f))(hk:PySem.W.keepIn X.K (.ref f)=true)(hb:Binds X.K fd ps [])
  (h:EvA X α (e::es) fun as=>φ as fun a=>∃ds,a=.own ds∧Q ds) (hdb:(x == ("__debug__":Str))=false:=by decide) (he:starEach (e::es) X.env=(false,eval e X.env)::starEach es X.env:=by rfl) (hpl:(backTo pos (starEach es X.env)).any (·.1)=false:=by rfl):
  EvL X α (.Call (.Name x p) (e::es) [] pos) Q:=fun F σ H R m kk=>by
 refine⟨_,zT G hr hg hm hk hb .nil yb yQ hdb he hpl,?_⟩
 refine h F σ H _ m fun as vs H1 q1 t1 k1 r1=>?_
 have m1:=m.kz k1 t1
 refine wL m1 r1 q1 fun a v H' qa ra=>?_
 obtain⟨ds,rfl,q⟩:=qa
 obtain⟨g1,g2,_⟩:=ra.back m1
 obtain⟨_,_,l,xs,ds',rfl,hc,h1,h2,h3,h4⟩:=ra
 cases hc
 exact kk ds _ H' q g1 (k1.trans g2) (yX.back m k1 t1 ⟨l,xs,rfl,h1,h3,h4⟩)
end
theorem mF {i j:Nat}{x:Option A}(h:i≠j):(α.set i x)[j]?=α[j]?:=zw6 h
theorem zI {i:Nat}{x:Option A}{j:Nat}{y:Option A}(h:(α.set i x)[j]?=some y):(i=j∧x=y)∨(i≠j∧α[j]?=some y):=by
 by_cases hij:i=j
 ·subst hij
  left
  have hl:i<α.length:=by
   have:=(zt8.mp h).1
   rwa [zv8] at this
  rw[zy0 hl] at h
  exact⟨rfl,zw0 h⟩
 ·right
  rw[zw6 hij] at h
  exact⟨hij,h⟩
theorem M.put {F:Fr}{σ:St}{H:Hp}{i:Nat}{b:Option A}(m:M F α σ H)(hf:∀s c x,σ[i]?=some s→b=some c→foot s c x→∃a,α[i]?=some (some a)∧foot s a x)
  (hok:∀s c,i<α.length→σ[i]?=some s→b=some c→vk (Gz F (α.set i b) σ H) F H s c) (hx:∀c,b=some c→noX c:=by intro c z;cases z;trivial):zy (Gz F α σ H) (Gz F (α.set i b) σ H)∧M F (α.set i b) σ H:=by
 have gs:zy (Gz F α σ H) (Gz F (α.set i b) σ H):=zu fun a o h e=>⟨fun z=>h (by
  rcases z with z|⟨j,c,s,e1,e2,f⟩
  ·exact .inl z
  ·rcases zI e1 with ⟨rfl,z⟩|⟨hj,e1'⟩
   ·obtain⟨a',h1,h2⟩:=hf s c a e2 z f
    exact .inr ⟨i,a',s,h1,e2,h2⟩
   ·exact .inr ⟨j,c,s,e1',e2,f⟩),e⟩
 have old:∀{j:Nat} {c:A} {s:Option V} {x:Addr},(α.set i b)[j]?=some (some c)→σ[j]?=some s→foot s c x→∃a,α[j]?=some (some a)∧foot s a x:=fun {j c s x} e1 e2 f=>by
  rcases zI e1 with ⟨rfl,z⟩|⟨hj,e1'⟩
  ·exact hf s c x e2 z f
  ·exact⟨c,e1',f⟩
 refine⟨gs,by rw[zv8];exact m.len,fun j c s e1 e2=>?_,fun j k c d s t x e1 e2 h1 h2 f1 f2=>?_,fun j r q e j' c s x e1 e2 f=>?_,m.tp,m.keep,m.oex⟩
 ·rcases zI e1 with ⟨rfl,z⟩|⟨hj,e1'⟩
  ·refine hok s c ?_ e2 z
   have:=(zt8.mp e1).1
   rwa [zv8] at this
  ·exact (m.ok j c s e1' e2).stay gs (fun x o f e=>⟨e,(m.ft e1' e2 f).1,(m.ft e1' e2 f).2.1⟩) rfl fun _ _ _ l=>l
 ·obtain⟨a',g1,g2⟩:=old e1 h1 f1
  obtain⟨b',g3,g4⟩:=old e2 h2 f2
  exact m.dj j k a' b' s t x g1 g3 h1 h2 g2 g4
 ·obtain⟨a',g1,g2⟩:=old e1 e2 f
  rcases zI e with ⟨rfl,z⟩|⟨_,e'⟩
  ·exact (hx _ z).elim
  ·exact m.xd j r q e' j' a' s x g1 e2 g2
theorem M.gave {F:Fr}{σ:St}{H:Hp}{i:Nat}{a:A}{s:Option V}{b:Option A}{x:Addr}(m:M F α σ H)(e1:α[i]?=some (some a))(e2:σ[i]?=some s)(f:foot s a x)(hb:∀c,b=some c→¬foot s c x):¬Ow F (α.set i b) σ x:=by
 rintro (z|⟨j,c,t,h1,h2,g⟩)
 ·exact (m.ft e1 e2 f).1 z
 ·rcases zI h1 with ⟨rfl,z⟩|⟨hj,h1'⟩
  ·rw[e2] at h2;cases h2;exact hb c z g
  ·exact hj (m.dj i j a c s t x e1 h1' e2 h2 f g)
theorem zb1 {F:Fr}{σ:St}{H:Hp}{i:Nat}{b:A}(hb:∀s x,¬foot s b x):zy (Gz F α σ H) (Gz F (α.set i (some b)) σ H):=zu fun a o h e=>⟨fun z=>h (by
 rcases z with z|⟨j,c,s,e1,e2,f⟩
 ·exact .inl z
 ·rcases zI e1 with ⟨rfl,z⟩|⟨hj,e1'⟩
  ·cases z;exact (hb _ _ f).elim
  ·exact .inr ⟨j,c,s,e1',e2,f⟩),e⟩
theorem M.frz {F:Fr}{σ:St}{H:Hp}{i:Nat}{ds:List PyData}(m:M F α σ H)(hi:α[i]?=some (some (.own ds))):M F (α.set i (some (.dat (.list ds)))) σ H:=
 (m.put (b:=some (.dat (.list ds))) (fun s c' x _ z f=>by cases z;exact f.elim) fun s c' _ e2 z=>by
  cases z
  obtain⟨l,o,h1,h2,h3,h4,h5⟩:=m.owc i _ hi
  rw[h1] at e2;cases e2
  exact⟨.ref l,rfl,(h3.same (zb1 (b:=.dat (.list ds)) fun _ _ f=>f)).av (zM (m.gave hi h1 rfl fun c z=>by cases z;exact id) h2)⟩).2
theorem M.frzd {F:Fr}{σ:St}{H:Hp}{i:Nat}{d:PyData}{S:Addr→Prop}(m:M F α σ H)(hi:α[i]?=some (some (.deep d S))):M F (α.set i (some (.dat d))) σ H:=
 (m.put (b:=some (.dat d)) (fun s c' x _ z f=>by cases z;exact f.elim) fun s c' _ e2 z=>by
  cases z
  obtain⟨v,h1,h2,h3⟩:=m.deep i d S hi
  rw[h1] at e2;cases e2
  refine⟨v,rfl,h2.same fun x o e=>?_⟩
  rcases sv e with ⟨z1,z2⟩|⟨_,z2⟩
  ·exact zM (m.gave hi h1 z1 fun c z=>by cases z;exact id) z2
  ·obtain⟨w1,w2⟩:=zj z2
   refine zM (fun q=>w1 ?_) w2
   rcases q with z|⟨j,c,s,e1,e2,f⟩
   ·exact .inl z
   ·rcases zI e1 with ⟨rfl,z⟩|⟨hj,e1'⟩
    ·cases z;exact f.elim
    ·exact .inr ⟨j,c,s,e1',e2,f⟩).2
theorem fJ {F:Fr}{σ:St}{H H':Hp}{i:Nat}{a:A}{b:Option A}(m:M F α σ H)(k:Kz F H H')(hi:α[i]?=some (some a))(x:Addr)(o:HO)(ho:¬Ob o)(h:Gz F (α.set i b) σ H' x=some o):Gz F α σ H' x=some o:=by
 obtain⟨h1,h2⟩:=zj h
 refine zM ?_ h2
 rintro (z|⟨j,c,s,e1,e2,f⟩)
 ·exact h1 (.inl z)
 ·by_cases hj:i=j
  ·subst hj
   obtain⟨g1,g2,o',g3,g4⟩:=m.ft e1 e2 f
   rw[k _ _ g3 (m.tp.nt g1)] at h2;cases h2;exact ho g4
  ·exact h1 (.inr ⟨j,c,s,by rw[mF hj];exact e1,e2,f⟩)
theorem gU (i:Nat){c:PyData}{S:Addr→Prop}(hi:α[i]?=some (some (.deep c S)))(h:EvD X (α.set i (some (.dat c))) e fun d=>noL d=true∧Q d):EvD X α e Q:=fun F σ H R m k=>
 h F σ H R (m.frzd hi) fun d v H' q t kz r=>k d v H' q.2 t kz (r.noL (fJ m kz hi) q.1)
theorem uu {Q:Bool→Prop}(i:Nat){c:PyData}{S:Addr→Prop}(hi:α[i]?=some (some (.deep c S)))(h:EvT X (α.set i (some (.dat c))) e Q):EvT X α e Q:=fun F σ H R m k=>h F σ H R (m.frzd hi) k
theorem nQ {Q:List PyData→Prop}{i:Nat}{a:A}{b:Option A}(hi:α[i]?=some (some a))(hm:∀F σ H,M F α σ H→M F (α.set i b) σ H)(h:EvL X (α.set i b) e fun d=>vK d=true∧Q d):EvL X α e Q:=fun F σ H R m k=>
 h F σ H R (hm F σ H m) fun d v H' q t kz r=>by
  obtain⟨l,xs,h1,h2,h3,h4⟩:=r
  refine k d v H' q.2 t kz ⟨l,xs,h1,h2,h3,h4.noL (fun a ys hno z=>?_) q.1⟩
  obtain⟨z1,z2⟩:=zj z
  obtain⟨w1,w2⟩:=zj (fJ m kz hi a ys hno (zM z1.1 z2))
  exact zM ⟨w1,z1.2⟩ w2
theorem ku {Q:Bool→Prop}(i:Nat){ds:List PyData}(hi:α[i]?=some (some (.own ds)))(h:EvT X (α.set i (some (.dat (.list ds)))) e Q):EvT X α e Q:=fun F σ H R m k=>h F σ H R (m.frz hi) k
theorem ak {Q:List PyData→Prop}(i:Nat){ds:List PyData}(hi:α[i]?=some (some (.own ds)))(h:EvL X (α.set i (some (.dat (.list ds)))) e fun d=>vK d=true∧Q d):EvL X α e Q:=nQ hi (fun _ _ _ m=>m.frz hi) h
def ItW (p:Addr→Prop)(J:It)(ds:List PyData)(G:Hp):Prop:=∀(i:Nat) (H2:Hp) (q:Addr→Prop),zy G (sub q H2)→
 (∀d,ds[i]?=some d→J.go i H2∧∀x H3,J.yld i H2 x H3→zy H2 H3∧((∀a o,H3 a=some o→H2 a=none→q a)→AV (sub q H3) x d))∧(ds.length≤i→J.stop i H2)
def zg9 (X:Cx)(tg e:Expr):TI:=fun σ H R=>∃t,PI X tg e t∧t σ H R
theorem pI {tg e:Expr}:PI X tg e (zg9 X tg e):=fun pins s σ H R I ⟨t,p,q⟩=>p pins s σ H R I q
def EvI (X:Cx)(α:Ev)(tg e:Expr)(Q:List PyData→Prop):Prop:=∀(F:Fr) (σ:St) (H:Hp) (R:It→Hp→Prop),M F α σ H→
 (∀ds J H',Q ds→zR F H'→Kz F H H'→ItW (fun x=>¬Ow F α σ x) J ds (Gz F α σ H')→R J H')→zg9 X tg e σ H R
theorem ur {tg:Expr}{Q:List PyData→Prop}(h:EvD X α e fun x=>∃ds,x=.list ds∧Q ds):EvI X α tg e Q:=fun F σ H R m k=>by
 refine⟨_,jj zq,?_⟩
 refine h F σ H _ m fun x vx H1 q1 t1 k1 r1=>?_
 obtain⟨ds,rfl,q⟩:=q1
 obtain⟨a,xs,rfl,h1,h2⟩:=r1.lst_inv
 refine⟨a,rfl,⟨xs,SqL.of (zj h1).2⟩,k ds _ H1 q t1 k1 fun i H2 p s=>⟨fun d hd=>?_,fun hl=>?_⟩⟩
 ·obtain⟨x,hx,av⟩:=h2.get hd
  have ha:=SqL.of (K:=X.K) (zj (s _ _ h1)).2
  refine⟨⟨xs,x,ha,hx⟩,fun x' H3 y=>?_⟩
  obtain⟨e,y⟩:=y
  subst e
  have:=y xs ha
  rw[hx] at this;cases this
  exact⟨zy.refl _,fun _=>av.same s⟩
 ·exact⟨xs,SqL.of (zj (s _ _ h1)).2,by rw[h2.length];exact hl⟩
theorem jF {p:Addr→Prop}{lo:Int}{n:Nat}{G:Hp}:ItW p (Itr lo n) ((zx lo n).map .int) G:=fun i H2 q s=>⟨fun d hd=>by
  rw[zv2,zw9] at hd
  obtain⟨z,h1,rfl⟩:=hd
  have hi:i<n:=by
   have:=(zt8.mp h1).1
   rwa [zi] at this
  rw[vX hi] at h1
  cases h1
  refine⟨hi,fun x H3 y=>?_⟩
  obtain⟨rfl,rfl⟩:=y
  exact⟨zy.refl _,fun _=>.int _⟩,fun hl=>by
  rw[zt4,zi] at hl
  exact hl⟩
theorem vA {tg:Expr}{Q:List PyData→Prop}(hg:Gl X "range")(hm:X.mg "range"=none)(h:EvD X α a fun x=>∃j,x=.int j∧-(2 ^ 62)≤j∧j<2 ^ 62∧Q ((zx 0 j.toNat).map .int))(hs:starEach [a] X.env=[(false,eval a X.env)]:=by rfl):
  EvI X α tg (.Call (.Name "range" p) [a] [] pos) Q:=fun F σ H R m k=>by
 refine⟨_,iG hg hm (zd zq zr hs) hs,?_⟩
 refine h F σ H _ m fun x vx H1 q1 t1 k1 r1=>?_
 obtain⟨j,rfl,b1,b2,q⟩:=q1
 cases r1.int_inv
 exact⟨j,rfl,b1,b2,k _ _ H1 q t1 k1 jF⟩
end
inductive Pat where
 |one (i:Nat)
 |many (is:List Nat)
def wX :List Nat→List PyData→Ev→Option Ev
 |[],[],α=>some α
 |i::is,d::ds,α=>wX is ds (α.set i (some (.dat d)))
 |_,_,_=>none
def Pat.bind :Pat→PyData→Ev→Option Ev
 |.one i,d,α=>some (α.set i (some (.dat d)))
 |.many is,.tuple ds,α=>wX is ds α
 |_,_,_=>none
def gIs :List Nat→TGs
 |[]=>zo3
 |i::is=>za3 (qm i) (gIs is)
def iW (K:PySem.W.Frag):Pat→TG
 |.one i=>qm i
 |.many is=>zi2 K is.length (gIs is)
def Pat.slots :Pat→List Nat
 |.one i=>[i]
 |.many is=>is
def isFree (α:Ev)(i:Nat):Bool:=match α[i]? with
 |some none=>true
 |_=>false
def Pat.free (p:Pat)(α:Ev):Bool:=p.slots.all (isFree α)
section
variable {X:Cx}{α α':Ev}{F:Fr}{σ:St}{H:Hp}
theorem M.store {i:Nat}{v:V}{b:A}{H':Hp}(m:M F α σ H)(t:zR F H')(k:Kz F H H')(hn:∀x,foot (some v) b x→H x=none)(hok:vk (sub (fun x=>¬Ow F α σ x∧¬foot (some v) b x) H') F H' (some v) b)(hx:noX b:=by trivial):M F (α.set i (some b)) (σ.set i (some v)) H':=by
 have m':=m.kz k t
 have hs:∀{j:Nat} {c:A} {s:Option V},(α.set i (some b))[j]?=some (some c)→(σ.set i (some v))[j]?=some s→(i=j∧c=b∧s=some v)∨(i≠j∧α[j]?=some (some c)∧σ[j]?=some s):=fun {j c s} e1 e2=>by
  rcases zI e1 with ⟨rfl,z⟩|⟨hj,e1'⟩
  ·cases z
   have hl:i<σ.length:=by
    have:=(zt8.mp e2).1
    rwa [zv8] at this
   rw[zy0 hl] at e2
   cases e2
   exact .inl ⟨rfl,rfl,rfl⟩
  ·rw[zw6 hj] at e2
   exact .inr ⟨hj,e1',e2⟩
 have ow:∀{y:Addr},Ow F (α.set i (some b)) (σ.set i (some v)) y→Ow F α σ y∨foot (some v) b y:=fun {y} h=>by
  rcases h with z|⟨j,c,s,e1,e2,f⟩
  ·exact .inl (.inl z)
  ·rcases hs e1 e2 with ⟨_,rfl,rfl⟩|⟨_,g1,g2⟩
   ·exact .inr f
   ·exact .inl (.inr ⟨j,c,s,g1,g2,f⟩)
 have g1:zy (sub (fun x=>¬Ow F α σ x∧¬foot (some v) b x) H') (Gz F (α.set i (some b)) (σ.set i (some v)) H'):=zu fun a o h e=>⟨fun z=>(ow z).elim h.1 h.2,e⟩
 have g0:zy (Gz F α σ H) (sub (fun x=>¬Ow F α σ x∧¬foot (some v) b x) H'):=zu fun a o h e=>⟨⟨h,fun z=>by rw[hn a z] at e;cases e⟩,k a o e (m.tp.nt (ow0 h))⟩
 refine⟨by rw[zv8,zv8];exact m.len,fun j c s e1 e2=>?_,fun j j' c d s s' x e1 e2 h1 h2 f1 f2=>?_,fun j r q e j' c s x e1 e2 f=>?_,t,m.keep.trans k,m'.oex⟩
 ·rcases hs e1 e2 with ⟨rfl,rfl,rfl⟩|⟨_,z1,z2⟩
  ·exact hok.stay g1 (fun x o f e=>by
    obtain⟨w1,w2,_⟩:=tI hok f
    exact⟨e,w1,w2⟩) rfl fun _ _ _ l=>l
  ·exact (m.ok j c s z1 z2).stay (g0.trans g1) (fun x o f e=>by
    obtain⟨w1,w2,_⟩:=m.ft z1 z2 f
    exact⟨k x o e (m.tp.nt w1),w1,w2⟩) rfl fun _ _ _ l=>l.kz k t
 ·have nn:∀{j:Nat} {c:A} {s:Option V},α[j]?=some (some c)→σ[j]?=some s→foot s c x→¬foot (some v) b x:=fun {j c s} z1 z2 f g=>by
   obtain⟨_,_,o,w,_⟩:=m.ft z1 z2 f
   rw[hn x g] at w;cases w
  rcases hs e1 h1 with ⟨rfl,rfl,rfl⟩|⟨_,z1,z2⟩
  ·rcases hs e2 h2 with ⟨rfl,_⟩|⟨_,w1,w2⟩
   ·rfl
   ·exact absurd f1 (nn w1 w2 f2)
  ·rcases hs e2 h2 with ⟨rfl,rfl,rfl⟩|⟨_,w1,w2⟩
   ·exact absurd f2 (nn z1 z2 f1)
   ·exact m.dj j j' c d s s' x z1 w1 z2 w2 f1 f2
 ·rcases zI e with ⟨rfl,z⟩|⟨_,e'⟩
  ·cases z;exact hx.elim
  ·rcases hs e1 e2 with ⟨rfl,rfl,rfl⟩|⟨_,z1,z2⟩
   ·exact (m.lnk e').none (hn x f)
   ·exact m.xd j r q e' j' c s x z1 z2 f
theorem M.set {i:Nat}{v:V}{d:PyData}(m:M F α σ H)(av:AV (Gz F α σ H) v d):M F (α.set i (some (.dat d))) (σ.set i (some v)) H:=
 m.store m.tp Kz.refl (fun x z=>z.elim) ⟨v,rfl,av.same (zu fun a o h e=>⟨⟨h,fun z=>z⟩,e⟩)⟩
theorem M.setC {i:Nat}{v:V}{c:PyData}{H':Hp}(m:M F α σ H)(t:zR F H')(k:Kz F H H')(fl:cm F α σ H v H' c):M F (α.set i (some (.ow c))) (σ.set i (some v)) H':=by
 obtain⟨l,o,rfl,h1,h2,h3⟩:=fl
 have nl:¬Ow F α σ l:=m.fresh h1
 refine m.store t k (fun x z=>?_) ⟨l,o,rfl,h2,h3.same (zu fun a o h e=>⟨⟨h.1,fun z=>h.2 (by cases z;rfl)⟩,e⟩),ow0 nl,m.fresh0 h1⟩
 have z':some (V.ref l)=some (.ref x):=z
 cases z';exact h1
theorem M.setOwn {i:Nat}{v:V}{ds:List PyData}{H':Hp}(m:M F α σ H)(t:zR F H')(k:Kz F H H')(fl:yX F α σ H v H' ds):M F (α.set i (some (.own ds))) (σ.set i (some v)) H':=m.setC t k fl.c
theorem M.wr {x:Addr}{o:HO}(m:M F α σ H)(hno:wR o)(ho:F.O0 x)(ht:∀t b c,F.tp=some (t,b,c)→x≠t∧x≠b∧x≠c)(h0:F.H0 x=none)(hpl:Plain H x)(hx:∀(i:Nat) r q,α[i]?=some (some (.exc r q))→r.H0 x=none):M F α σ (upd H x o):=by
 have gs:zy (Gz F α σ H) (Gz F α σ (upd H x o)):=zu fun a u h e=>⟨h,by rw[zg (fun z=>h (.inl (by rw[z];exact ho)))];exact e⟩
 refine⟨m.len,fun j c s e1 e2=>?_,m.dj,m.xd,m.tp.upd ht hpl,fun y u e n=>?_,fun y hy=>?_⟩
 ·have:=m.ok j c s e1 e2
  cases c with
  |exc r q=>
   have l:Lnk r F H:=this
   exact⟨l.tp,l.o,l.ok.upd (fun a b c e=>ht a b c (l.tp▸e)) hpl,fun y u e n=>by rw[zg (zk e (hx j r q e1))];exact l.k y u e n⟩
  |_=>exact this.stay gs (fun y u f e=>by
    obtain⟨w1,w2,_⟩:=m.ft e1 e2 f
    exact⟨by rw[zg (fun z=>w1 (by rw[z];exact ho))];exact e,w1,w2⟩) rfl fun _ _ z=>by cases z
 ·rw[zg (zk e h0)];exact m.keep y u e n
 ·by_cases z:y=x
  ·exact⟨o,by rw[z];exact zh,hno⟩
  ·obtain⟨u,hu,hn⟩:=m.oex y hy
   exact⟨u,by rw[zg z];exact hu,hn⟩
theorem M.forget {α0:Ev}(m:M F α σ H)(hl:α0.length=α.length)(le:∀(i:Nat) a,α0[i]?=some (some a)→α[i]?=some (some a)):M F α0 σ H:=by
 have ow:∀{y:Addr},Ow F α0 σ y→Ow F α σ y:=fun {y} h=>by
  rcases h with z|⟨j,c,s,e1,e2,f⟩
  ·exact .inl z
  ·exact .inr ⟨j,c,s,le _ _ e1,e2,f⟩
 have gs:zy (Gz F α σ H) (Gz F α0 σ H):=zu fun a o h e=>⟨fun z=>h (ow z),e⟩
 exact⟨hl.trans m.len,fun j c s e1 e2=>(m.ok j c s (le _ _ e1) e2).stay gs (fun x o f e=>⟨e,(m.ft (le _ _ e1) e2 f).1,(m.ft (le _ _ e1) e2 f).2.1⟩) rfl fun _ _ _ l=>l,fun j j' c d s s' x e1 e2=>m.dj j j' c d s s' x (le _ _ e1) (le _ _ e2),fun j r q e j' c s x e1=>m.xd j r q (le _ _ e) j' c s x (le _ _ e1),m.tp,m.keep,m.oex⟩
theorem rP {H:Hp}:∀{is:List Nat} {ds:List PyData} {α α':Ev} {σ:St} {xs:List V} {R:St→Hp→Prop},wX is ds α=some α'→M F α σ H→(∀G,zy (Gz F α σ H) G→AVs G xs ds)→(∀σ',M F α' σ' H→R σ' H)→gIs is xs σ H R
 |[],[],α,α',σ,xs,R,e,m,av,k=>by
  cases e
  cases av _ (zy.refl _)
  exact⟨rfl,k σ m⟩
 |i::is,d::ds,α,α',σ,xs,R,e,m,av,k=>by
  cases h:av _ (zy.refl _) with
  |@cons x xs _ _ h1 h2=>
   refine⟨x,xs,rfl,?_⟩
   have gs:zy (Gz F α σ H) (Gz F (α.set i (some (.dat d))) (σ.set i (some x)) H):=zu fun a o h e=>⟨fun z=>h (by
    rcases z with z|⟨j,c,s,e1,e2,f⟩
    ·exact .inl z
    ·rcases zI e1 with ⟨_,z⟩|⟨hj,e1'⟩
     ·cases z;exact f.elim
     ·rw[zw6 hj] at e2
      exact .inr ⟨j,c,s,e1',e2,f⟩),e⟩
   exact rP (is:=is) (ds:=ds) e (m.set (i:=i) h1) (fun G s=>h2.same (gs.trans s)) k
 |[],_::_,_,_,_,_,_,e,_,_,_=>by cases e
 |_::_,[],_,_,_,_,_,e,_,_,_=>by cases e
theorem kh {K:PySem.W.Frag}{pat:Pat}{d:PyData}{v:V}{R:St→Hp→Prop}(e:pat.bind d α=some α')(m:M F α σ H)(av:AV (Gz F α σ H) v d)(k:∀σ',M F α' σ' H→R σ' H):iW K pat v σ H R:=by
 cases pat with
 |one i=>cases e;exact k _ (m.set av)
 |many is=>
  cases d with
  |tuple ds=>
   obtain⟨a,xs,rfl,h1,h2⟩:=av.tup_inv
   have hl:∀{is:List Nat} {ds:List PyData} {α α':Ev},wX is ds α=some α'→ds.length=is.length:=by
    intro is
    induction is with
    |nil=>intro ds α α' h;cases ds with|nil=>rfl|cons _ _=>cases h
    |cons i is ih=>intro ds α α' h;cases ds with|nil=>cases h|cons d ds=>rw[zv0,zv0,ih h]
   exact⟨a,xs,rfl,SqT.of (zj h1).2,by rw[h2.length];exact hl e,rP e m (fun G s=>h2.same s) k⟩
  |_=>cases e
theorem rA :∀{is:List Nat} {ds:List PyData} {α α':Ev},wX is ds α=some α'→α'.length=α.length
 |[],[],_,_,e=>by cases e;rfl
 |i::is,d::ds,α,α',e=>by
  have:=rA (is:=is) (ds:=ds) e
  rwa [zv8] at this
 |[],_::_,_,_,e=>by cases e
 |_::_,[],_,_,e=>by cases e
theorem sM :∀{is:List Nat} {ds:List PyData} {α α':Ev} {j:Nat},wX is ds α=some α'→j∉is→α'[j]?=α[j]?
 |[],[],_,_,_,e,_=>by cases e;rfl
 |i::is,d::ds,α,α',j,e,h=>by
  rw[sM (is:=is) (ds:=ds) e fun z=>h (zu3 _ z)]
  exact zw6 fun (z:i=j)=>h (by rw[←z];exact zv5)
 |[],_::_,_,_,_,e,_=>by cases e
 |_::_,[],_,_,_,e,_=>by cases e
theorem sW :∀{is:List Nat} {ds:List PyData} {α α':Ev} {j:Nat} {a:A},wX is ds α=some α'→α'[j]?=some (some a)→(∀d,a≠.dat d)→α[j]?=some (some a)
 |[],[],_,_,_,_,e,h,_=>by cases e;exact h
 |i::is,d::ds,α,α',j,a,e,h,hn=>by
  rcases zI (sW (is:=is) (ds:=ds) e h hn) with ⟨_,z⟩|⟨_,z⟩
  ·cases z;exact absurd rfl (hn d)
  ·exact z
 |[],_::_,_,_,_,_,e,_,_=>by cases e
 |_::_,[],_,_,_,_,e,_,_=>by cases e
theorem Pat.is_ok {pat:Pat}{d:PyData}(e:pat.bind d α=some α'):∃is ds,pat.slots=is∧wX is ds α=some α':=by
 cases pat with
 |one i=>cases e;exact⟨_,[d],rfl,rfl⟩
 |many is=>
  cases d with
  |tuple ds=>exact⟨_,ds,rfl,e⟩
  |_=>cases e
theorem Pat.back {pat:Pat}{d:PyData}(e:pat.bind d α=some α')(fr:pat.free α=true)(m:M F α' σ H):M F α σ H:=by
 obtain⟨is,ds,rfl,e⟩:=Pat.is_ok e
 refine m.forget (rA e).symm fun j a h=>?_
 by_cases hj:j∈pat.slots
 ·have:=zD4.mp fr j hj
  unfold isFree at this
  rw[h] at this
  cases this
 ·rw[sM e hj];exact h
end
section
variable {X:Cx}{α:Ev}
def df (X:Cx)(α:Ev)(ifs:List Expr)(Q:Bool→Prop):Prop:=∀(F:Fr) (σ:St) (H:Hp) (R:Bool→Hp→Prop),M F α σ H→(∀b H',Q b→zR F H'→Kz F H H'→R b H')→∃t,vp X ifs t∧t σ H R
def za4 (X:Cx)(ifs:List Expr):TT:=fun σ H R=>∃t,vp X ifs t∧t σ H R
theorem km {ifs:List Expr}:vp X ifs (za4 X ifs):=fun pins s σ H Q I ⟨t,p,q⟩=>p pins s σ H Q I q
theorem gY {Q:Bool→Prop}(q:Q true):df X α [] Q:=fun F σ H R m k=>⟨_,aB,k _ H q m.tp Kz.refl⟩
theorem fF {c:Expr}{Q:Bool→Prop}(h:EvT X α c Q):df X α [c] Q:=fun F σ H R m k=>⟨_,jq xT,h F σ H R m k⟩
def seen :Option A→Option A
 |some (.dat d)=>some (.dat d)
 |some .tape=>some .tape
 |_=>none
def xr (imp:List (Option Nat))(α:Ev):Ev:=imp.map fun o=>o.bind fun j=>(α[j]?).bind seen
theorem nI {imp:List (Option Nat)}{i:Nat}{a:A}(h:(xr imp α)[i]?=some (some a)):∃j,imp[i]?=some (some j)∧α[j]?=some (some a)∧((∃d,a=.dat d)∨a=.tape):=by
 unfold xr at h
 rw[zv2,zw9] at h
 obtain⟨o,h1,h2⟩:=h
 cases o with
 |none=>cases h2
 |some j=>
  have h2':(α[j]?).bind seen=some a:=h2
  cases q:α[j]? with
  |none=>rw[q] at h2';cases h2'
  |some b=>
   rw[q] at h2'
   cases b with
   |none=>cases h2'
   |some b=>
    cases b with
    |dat d=>cases h2';exact⟨j,h1,q,.inl ⟨d,rfl⟩⟩
    |tape=>cases h2';exact⟨j,h1,q,.inr rfl⟩
    |_=>cases h2'
theorem nO {imp:List (Option Nat)}{σ:St}{i j:Nat}{v:V}(h1:imp[i]?=some (some j))(h2:σ[j]?=some (some v)):(we imp σ)[i]?=some (some v):=by
 unfold we
 rw[zv2,h1]
 show some ((σ[j]?).bind id)=_
 rw[h2];rfl
def wQ (Y:Addr→Shared→Hp→List Addr→Cx)(pat:Pat)(ifs:List Expr)(elt:Expr)(α0:Ev):List PyData→List PyData→(List PyData→Prop)→Prop
 |[],acc,Q=>Q acc
 |d::ds,acc,Q=>∃α1,pat.bind d α0=some α1∧∀C s2 H2 fp,df (Y C s2 H2 fp) α1 ifs fun k=>if k=true then ∀C s2 H2 fp,EvD (Y C s2 H2 fp) α1 elt fun y=>wQ Y pat ifs elt α0 ds (acc++[y]) Q else wQ Y pat ifs elt α0 ds acc Q
def eC (Y:Addr→Shared→Hp→List Addr→Cx)(e:Expr):TE:=fun σ H Q=>∀C s2 H2 fp,tD (Y C s2 H2 fp) e σ H Q
def tsC (Y:Addr→Shared→Hp→List Addr→Cx)(ifs:List Expr):TT:=fun σ H Q=>∀C s2 H2 fp,za4 (Y C s2 H2 fp) ifs σ H Q
theorem jg {N:List Str}{imp:List (Option Nat)}{scope:Scope}{tg iter elt:Expr}{ifs:List Expr}{pat:Pat}{Q:List PyData→Prop}(hfree:pat.free (xr imp α)=true)
  (h:EvI X α tg iter fun ds=>ds.length≤1000∧wQ (fun C s2 H2 fp=>X.comp N scope C s2 H2 fp) pat ifs elt (xr imp α) ds [] Q)
  (F:Fr) (σ:St) (H:Hp) (R:VK) (m:M F α σ H) (k:∀ds v H',Q ds→zR F H'→Kz F H H'→yX F α σ H v H' ds→R v H'):
  ∃Y:Addr→Shared→Hp→List Addr→Cx,Y=(fun C s2 H2 fp=>X.comp N scope C s2 H2 fp)∧eJ (zg9 X tg iter) imp (iW X.K pat) (tsC Y ifs) (eC Y elt) σ H R:=by
 refine⟨_,rfl,?_⟩
 refine h F σ H _ m fun ds J H1 ⟨hl,q1⟩ t1 k1 itw acc hacc=>?_
 have m1:=m.kz k1 t1
 have nacc:¬Ow F α σ acc:=m1.fresh hacc
 let Fc:Fr:=⟨H1,fun x=>Ow F α σ x∨x=acc,F.tp⟩
 let Nd:Ev→Prop:=fun α1=>∀(j:Nat) a,α1[j]?=some (some a)→(∃d,a=.dat d)∨a=.tape
 have no0:Nd (xr imp α):=fun j a z=>by
  obtain⟨_,_,_,n⟩:=nI z
  exact n
 have owc:∀{α1:Ev} {τ:St} {x:Addr},Nd α1→(Ow Fc α1 τ x↔Fc.O0 x):=fun {α1 τ x} hh=>⟨fun z=>z.elim id fun⟨j,a,s,e1,e2,f⟩=>by
  rcases hh j a e1 with ⟨d,rfl⟩|rfl
  ·exact f.elim
  ·exact f.elim,.inl⟩
 have gz:∀{α1 α2:Ev} {τ1 τ2:St} {H:Hp},Nd α1→Nd α2→zy (Gz Fc α1 τ1 H) (Gz Fc α2 τ2 H):=fun h1 h2=>zu fun a o h e=>⟨fun z=>h ((owc h1).mpr ((owc h2).mp z)),e⟩
 have tpc:∀{H2:Hp},zR F H2→zR Fc H2:=fun t=>t.to rfl fun x z=>.inl (.inl z)
 have s01:zy H1 (upd H1 acc (.lst [])):=yD hacc
 have mc0:M Fc (xr imp α) (we imp σ) (upd H1 acc (.lst [])):=by
  have g1:zy (Gz F α σ H1) (Gz Fc (xr imp α) (we imp σ) (upd H1 acc (.lst []))):=fun a o e=>by
   obtain⟨z1,z2⟩:=zj e
   have na:a≠acc:=zk z2 hacc
   exact zM (fun z=>((owc no0).mp z).elim z1 na) (by rw[zg na];exact z2)
  refine⟨by unfold xr we;rw[zt4,zt4],fun i a s e1 e2=>?_,fun i j a b s t x e1 e2 _ _ f=>?_,fun i r q e=>(by rcases no0 i _ e with ⟨d,w⟩|w<;>cases w),tpc (t1.same s01),fun x o e _=>s01 x o e,?_⟩
  ·obtain⟨j,w1,w2,w3⟩:=nI e1
   rcases w3 with ⟨d,rfl⟩|rfl
   ·obtain⟨v,g2,g3⟩:=m1.dat j d w2
    rw[nO w1 g2] at e2;cases e2
    exact⟨v,rfl,g3.same g1⟩
   ·obtain⟨t,b,c,g2,g3⟩:=m1.tvar j w2
    rw[nO w1 g3] at e2;cases e2
    exact⟨t,b,c,g2,rfl⟩
  ·rcases no0 i a e1 with ⟨d,rfl⟩|rfl
   ·exact f.elim
   ·exact f.elim
  ·rintro x (z|z)
   ·have:∃o,H1 x=some o∧wR o:=m1.owEx z
    obtain⟨o,ho,hn⟩:=this
    exact⟨o,s01 _ _ ho,hn⟩
   ·exact⟨_,by rw[z];exact zh,yV⟩
 refine⟨fun i n ys τ H2=>n=ds.length-i∧i≤ds.length∧∃ad:List PyData,M Fc (xr imp α) τ H2∧H2 acc=some (.lst ys)∧AVs (Gz Fc (xr imp α) τ H2) ys ad∧ad.length≤i∧wQ (fun C s2 H2 fp=>X.comp N scope C s2 H2 fp) pat ifs elt (xr imp α) (ds.drop i) ad Q,
  ⟨ds.length,by simp,zv3 _,[],mc0,zh,.nil,zt9 _,q1⟩,?_⟩
 rintro i n ys τ H2 ⟨rfl,hi,ad,m2,ha,av,had,cw⟩
 have sG:zy (Gz F α σ H1) (Gz Fc (xr imp α) τ H2):=fun a o e=>by
  obtain⟨z1,z2⟩:=zj e
  exact m2.old a o (zM (p:=fun x=>¬Fc.O0 x) (fun z=>z.elim z1 (zk z2 hacc)) z2)
 obtain⟨w1,w2⟩:=itw i H2 _ sG
 by_cases hlt:i<ds.length
 ·have hd:ds[i]?=some ds[i]:=zt5 hlt
  have hdr:ds.drop i=ds[i]::ds.drop (i+1):=zB6 hlt
  rw[hdr] at cw
  obtain⟨α1,eb,body⟩:=cw
  obtain⟨go,yl⟩:=w1 _ hd
  have no1:Nd α1:=fun j a z=>by
   obtain⟨is,ds',_,e⟩:=Pat.is_ok eb
   by_cases hn:∀d,a≠.dat d
   ·exact no0 j a (sW e z hn)
   ·simp only[Classical.not_forall,Classical.not_not] at hn
    exact .inl hn
  refine .inr ⟨go,fun ys' τ' H'=>∃ad:List PyData,M Fc (xr imp α) τ' H'∧H' acc=some (.lst ys')∧AVs (Gz Fc (xr imp α) τ' H') ys' ad∧ad.length≤i+1∧wQ (fun C s2 H2 fp=>X.comp N scope C s2 H2 fp) pat ifs elt (xr imp α) (ds.drop (i+1)) ad Q,
   fun ys' τ' H' ⟨ad',r1,r2,r3,r4,r5⟩=>⟨ds.length-(i+1),by omega,rfl,hlt,ad',r1,r2,r3,r4,r5⟩,fun x H3 y=>?_⟩
  obtain⟨s23,avx⟩:=yl x H3 y
  have m3:M Fc (xr imp α) τ H3:=m2.kz (Kz.of_same s23) (m2.tp.same s23)
  have avx':=avx fun a o _ e=>m2.fresh e
  refine kh eb m3 avx' fun τ1 m4 C s2 H2' fp=>?_
  refine body C s2 H2' fp Fc τ1 H3 _ m4 fun b H5 qb t5 k5=>?_
  have m5:=m4.kz k5 t5
  have av5:AVs (Gz Fc (xr imp α) τ1 H5) ys ad:=av.same ((Kz.of_same s23).gz m2.tp |>.trans ((gz (τ2:=τ1) no0 no1).trans ((k5.gz m4.tp).trans (gz no1 no0))))
  have accN:NT Fc acc:=⟨fun t b c e=>by
   have:=(t1 t b c e).1.free hacc
   exact⟨this.1,this.2.1⟩,nu t1.tab hacc⟩
  have ha5:H5 acc=some (.lst ys):=k5 _ _ (s23 _ _ ha) accN
  cases b with
  |false=>
   have qb':wQ (fun C s2 H2 fp=>X.comp N scope C s2 H2 fp) pat ifs elt (xr imp α) (ds.drop (i+1)) ad Q:=by simpa using qb
   exact rG ⟨ad,Pat.back eb hfree m5,ha5,av5,by omega,qb'⟩
  |true=>
   refine rj fun C s2 H2'' fp=>?_
   have qe:EvD (X.comp N scope C s2 H2'' fp) α1 elt fun y=>wQ (fun C s2 H2 fp=>X.comp N scope C s2 H2 fp) pat ifs elt (xr imp α) (ds.drop (i+1)) (ad++[y]) Q:=by
    have z:=qb
    rw[if_pos rfl] at z
    exact z C s2 H2'' fp
   refine qe Fc τ1 H5 _ m5 fun y v H6 qy t6 k6 r6=>?_
   have m6:=m5.kz k6 t6
   have ha6:H6 acc=some (.lst ys):=k6 _ _ ha5 accN
   have hlen:ys.length≤i:=by rw[av.length];exact had
   have oacc:Fc.O0 acc:=.inr rfl
   have tacc:∀t b c,Fc.tp=some (t,b,c)→acc≠t∧acc≠b∧acc≠c:=fun t b c e=>(t1 t b c e).1.free hacc
   have m7:=(Pat.back eb hfree m6).wr (o:=.lst (ys++[v])) yV oacc tacc hacc (vz ha6) (fun i r q z=>by rcases no0 i _ z with ⟨d,w⟩|w<;>cases w)
   refine⟨ha6,yM (by omega),ad++[y],m7,zh,?_,by simp;omega,qy⟩
   have g67:zy (Gz Fc (xr imp α) τ1 H6) (Gz Fc (xr imp α) τ1 (upd H6 acc (.lst (ys++[v])))):=zu fun a o h e=>⟨h,by rw[zg (fun z=>h (.inl (by rw[z];exact oacc)))];exact e⟩
   exact ((av5.same ((gz (τ2:=τ1) no0 no1).trans ((k6.gz m5.tp).trans (gz no1 no0)))).append (.cons (r6.same (gz no1 no0)) .nil)).same g67
 ·have e:i=ds.length:=by omega
  subst e
  rw[zG3] at cw
  refine .inl ⟨w2 (zt9 _),k ad _ H2 cw ?_ (k1.trans m2.keep) (yX.back m k1 t1 ⟨acc,ys,rfl,hacc,ha,av.same (zu fun a o h e=>⟨⟨fun z=>h (.inl (.inl z)),fun z=>h (.inl (.inr z))⟩,e⟩)⟩)⟩
  exact m.tp.re m2.tp rfl
theorem za1 {N:List Str}{imp:List (Option Nat)}{scope:Scope}{tg iter elt:Expr}{ifs:List Expr}{pat:Pat}{Q:List PyData→Prop}{pos:Pos}(hc:X.calm=true)(S:zL X.N X.env.scope N imp scope)(hfree:pat.free (xr imp α)=true)
  (hg:∀C s2 H2 fp,PG (X.comp N scope C s2 H2 fp) tg (iW X.K pat))
  (h:EvI X α tg iter fun ds=>ds.length≤1000∧wQ (fun C s2 H2 fp=>X.comp N scope C s2 H2 fp) pat ifs elt (xr imp α) ds [] Q) (hs:∀x,foldedSetIterable iter X.env x=pure x:=by intro _;rfl):
  EvL X α (.ListComp elt [⟨tg,iter,ifs,0⟩] scope pos) Q:=fun F σ H R m k=>by
 obtain⟨Y,rfl,h⟩:=jg hfree h F σ H R m k
 exact⟨_,aM hc S pI hg (fun C s2 H2 fp pins s σ H Q I h=>km pins s σ H Q I (h C s2 H2 fp)) (fun C s2 H2 fp pins s σ H Q I h=>zq pins s σ H Q I (h C s2 H2 fp)) hs,h⟩
section
variable {E:xi}{rest body:List Stmt}{e c tg iter:Expr}{pos p:Pos}
theorem nB.then {F:Fr}{D:Ends}(h:nB F E D):nB F {E with nx:=fun α'=>SvS X α' rest E} {D with nx:=iY X rest D}:=
 ⟨fun α' σ' H' m q=>q F σ' H' D m h,h.rt,h.bk,h.ct⟩
theorem zB (q:E.nx α):SvS X α [] E:=fun F σ H D m h=>⟨_,yy,h.nx _ _ _ m q⟩
theorem SvS.imp {sts:List Stmt}{E':xi}(h:SvS X α sts E')(hn:∀α,E'.nx α→E.nx α)(hr:∀a,E'.rt a→E.rt a)(hb:∀α,E'.bk α→E.bk α)(hc:∀α,E'.ct α→E.ct α):SvS X α sts E:=fun F σ H D m r=>
 h F σ H D m ⟨fun α σ H m q=>r.nx α σ H m (hn _ q),fun a v H m q=>r.rt a v H m (hr _ q),fun α σ H m q=>r.bk α σ H m (hb _ q),fun α σ H m q=>r.ct α σ H m (hc _ q)⟩
theorem zQ (i:Nat){x:Str}{pos':Pos}(hN:X.N.Nodup)(h:EvD X α e fun d=>SvS X (α.set i (some (.dat d))) rest E)(hi:X.N[i]?=some x:=by rfl)(hx:Loc X.env.scope x:=by first|exact Or.inl rfl|exact Or.inr rfl)
  (hs:swapsWith e (some (.Name x pos')) pos.line X.env=pure false:=by rfl) (hf:X.fn x=true∨X.env.scope.names.lookup x=some .local:=by first|exact .inl rfl|exact .inr rfl|assumption):SvS X α (.Assign [.Name x pos'] e pos::rest) E:=fun F σ H D m r=>by
 refine⟨_,zJ (wC hN hi hx zq hs hf) ym,?_⟩
 exact h F σ H _ m fun d v H1 q1 t1 k1 r1=>q1 F _ H1 D ((m.kz k1 t1).set r1) r
theorem wA (i:Nat){x:Str}{pos':Pos}(hN:X.N.Nodup)(h:EvL X α e fun ds=>SvS X (α.set i (some (.own ds))) rest E)(hi:X.N[i]?=some x:=by rfl)(hx:Loc X.env.scope x:=by first|exact Or.inl rfl|exact Or.inr rfl)
  (hs:swapsWith e (some (.Name x pos')) pos.line X.env=pure false:=by rfl) (hf:X.fn x=true∨X.env.scope.names.lookup x=some .local:=by first|exact .inl rfl|exact .inr rfl|assumption):SvS X α (.Assign [.Name x pos'] e pos::rest) E:=fun F σ H D m r=>by
 refine⟨_,zJ (wC hN hi hx zq hs hf) ym,?_⟩
 exact h F σ H _ m fun d v H1 q1 t1 k1 r1=>q1 F _ H1 D (m.setOwn t1 k1 r1) r
theorem za8 (i:Nat){x:Str}{pos' cpos:Pos}{N:List Str}{imp:List (Option Nat)}{scope:Scope}{elt:Expr}{ifs:List Expr}{pat:Pat}(hN:X.N.Nodup)(hc:X.calm=true)(S:zL X.N X.env.scope N imp scope)(hfree:pat.free (xr imp α)=true)
  (hg:∀C s2 H2 fp,PG (X.comp N scope C s2 H2 fp) tg (iW X.K pat))
  (h:EvI X α tg iter fun ds=>ds.length≤1000∧wQ (fun C s2 H2 fp=>X.comp N scope C s2 H2 fp) pat ifs elt (xr imp α) ds [] fun ds=>SvS X (α.set i (some (.own ds))) rest E)
  (hi:X.N[i]?=some x:=by rfl) (hx:Loc X.env.scope x:=by first|exact Or.inl rfl|exact Or.inr rfl) (hsw:swapsWith (.ListComp elt [⟨tg,iter,ifs,0⟩] scope cpos) (some (.Name x pos')) pos.line X.env=pure true:=by rfl)
  (hf:X.fn x=true∨X.env.scope.names.lookup x=some .local:=by first|exact .inl rfl|exact .inr rfl|assumption) (hs:∀x,foldedSetIterable iter X.env x=pure x:=by intro _;rfl):
  SvS X α (.Assign [.Name x pos'] (.ListComp elt [⟨tg,iter,ifs,0⟩] scope cpos) pos::rest) E:=fun F σ H D m r=>by
 obtain⟨Y,rfl,h⟩:=jg hfree h F σ H (fun v H'=>iY X rest D (σ.set i (some v)) H') m fun ds v H' q t k fl=>q F _ H' D (m.setOwn t k fl) r
 exact⟨_,zJ (dI hc S pI hg (fun C s2 H2 fp pins s σ H Q I h=>km pins s σ H Q I (h C s2 H2 fp)) (fun C s2 H2 fp pins s σ H Q I h=>zq pins s σ H Q I (h C s2 H2 fp)) hN hi hx hsw hf hs) ym,h⟩
theorem wO.dat {F:Fr}{σ:St}{H:Hp}{v:V}{d:PyData}(m:M F α σ H)(r:AV (Gz F α σ H) v d):wO F v H (.dat d):=
 ⟨m.tp,m.keep,r.same (zu fun a o h e=>⟨ow0 h,e⟩)⟩
theorem vg (h:EvD X α e fun d=>E.rt (.dat d)):SvS X α (.Return (some e) pos::rest) E:=fun F σ H D m r=>by
 refine⟨_,zJ (zC zq) ym,?_⟩
 exact h F σ H _ m fun d v H1 q1 t1 k1 r1=>r.rt _ _ _ (wO.dat (m.kz k1 t1) r1) q1
theorem pP (h:EvL X α e fun ds=>E.rt (.own ds)):SvS X α (.Return (some e) pos::rest) E:=fun F σ H D m r=>by
 refine⟨_,zJ (zC zq) ym,?_⟩
 refine h F σ H _ m fun d v H1 q1 t1 k1 r1=>r.rt _ _ _ ?_ q1
 obtain⟨l,xs,h1,h2,h3,h4⟩:=r1
 exact⟨t1,m.keep.trans k1,l,xs,_,h1,rfl,m.fresh0 h2,ow0 (m.fresh h2),h3,h4.same (zu fun a o h e=>⟨⟨ow0 h.1,h.2⟩,e⟩)⟩
theorem xU (i:Nat){x:Str}{ds:List PyData}(hi:α[i]?=some (some (.own ds)))(q:E.rt (.own ds))(hN:X.N[i]?=some x:=by rfl)(hv:Vis X.env.scope x:=by first|exact Or.inl rfl|exact Or.inr (Or.inl rfl)|exact Or.inr (Or.inr rfl))
  (hd:(x == ("__debug__":Str))=false:=by decide) (hcd:(x == ("__classdict__":Str))=false:=by decide):SvS X α (.Return (some (.Name x p)) pos::rest) E:=fun F σ H D m r=>by
 obtain⟨l,xs,h1,h2,h3,h4,h5⟩:=m.own i ds hi
 refine⟨_,zJ (zC (yI hN hv hd hcd)) ym,.ref l,h1,r.rt (.own ds) _ _ ⟨m.tp,m.keep,l,xs,_,rfl,rfl,h5,h4,h2,h3.same (zu fun a o h e=>⟨⟨ow0 h,fun z=>h (by rw[z];exact .inr ⟨i,_,_,hi,h1,rfl⟩)⟩,e⟩)⟩ q⟩
theorem yS {a b:List Stmt}(h:EvT X α c fun k=>SvS X α (if k=true then a else b) {E with nx:=fun α'=>SvS X α' rest E}):SvS X α (.If c a b pos::rest) E:=fun F σ H D m r=>by
 refine⟨_,zJ (xK xT ym ym) ym,?_⟩
 refine h F σ H _ m fun k H1 q1 t1 k1=>?_
 cases k with
 |true=>exact rj ((by simpa using q1:SvS X α a _) F σ H1 _ (m.kz k1 t1) r.then)
 |false=>exact rG ((by simpa using q1:SvS X α b _) F σ H1 _ (m.kz k1 t1) r.then)
theorem M.wrC {F:Fr}{σ:St}{H:Hp}{i:Nat}{c c':PyData}{l:Addr}{o':HO}(m:M F α σ H)(hi:α[i]?=some (some (.ow c)))(hl:σ[i]?=some (some (.ref l)))(av:xk (Gz F α σ H) o' c'):
  M F (α.set i (some (.ow c'))) σ (upd H l o'):=by
 obtain⟨l',o,h1,h2,h3,h4,h5⟩:=m.owc i c hi
 rw[hl] at h1;cases h1
 have hs:∀{j:Nat} {a:A} {s:Option V},(α.set i (some (.ow c')))[j]?=some (some a)→σ[j]?=some s→(i=j∧a=.ow c'∧s=some (.ref l))∨(i≠j∧α[j]?=some (some a)):=fun {j a s} e1 e2=>by
  rcases zI e1 with ⟨rfl,z⟩|⟨hj,e1'⟩
  ·cases z;rw[hl] at e2;cases e2;exact .inl ⟨rfl,rfl,rfl⟩
  ·exact .inr ⟨hj,e1'⟩
 have oww:∀{y:Addr},Ow F (α.set i (some (.ow c'))) σ y→Ow F α σ y:=fun {y} h=>by
  rcases h with z|⟨j,a,s,e1,e2,f⟩
  ·exact .inl z
  ·rcases hs e1 e2 with ⟨rfl,rfl,rfl⟩|⟨hj,e1'⟩
   ·exact .inr ⟨i,_,_,hi,hl,f⟩
   ·exact .inr ⟨j,a,s,e1',e2,f⟩
 have ol:Ow F α σ l:=.inr ⟨i,_,_,hi,hl,rfl⟩
 have gs:zy (Gz F α σ H) (Gz F (α.set i (some (.ow c'))) σ (upd H l o')):=zu fun a o h e=>⟨fun z=>h (oww z),by rw[zg (fun z=>h (by rw[z];exact ol))];exact e⟩
 refine⟨by rw[zv8];exact m.len,fun j a s e1 e2=>?_,fun j j' a b s t x e1 e2 q1 q2 f1 f2=>?_,fun j r q e j' a s x e1 e2 f=>?_,m.tp.updO h4 (h3.plain h2),fun y o e n=>?_,fun y hy=>?_⟩
 ·rcases hs e1 e2 with ⟨rfl,rfl,rfl⟩|⟨hj,e1'⟩
  ·exact⟨l,o',rfl,zh,av.same gs,h4,h5⟩
  ·refine (m.ok j a s e1' e2).stay gs (fun y u f e=>?_) rfl fun r q ea k=>⟨k.tp,k.o,k.ok.updO (fun z=>h4 (k.o _ z)) (h3.plain h2),fun y u e n=>?_⟩
   ·obtain⟨w1,w2,_⟩:=m.ft e1' e2 f
    refine⟨?_,w1,w2⟩
    rw[zg fun z=>hj (m.dj i j _ a _ s l hi e1' hl e2 rfl (by rw[←z];exact f))]
    exact e
   ·rw[zg (zk e (m.xd j r q (by rw[←ea];exact e1') i _ _ l hi hl rfl))];exact k.k y u e n
 ·rcases hs e1 q1 with ⟨rfl,rfl,rfl⟩|⟨hj,e1'⟩
  ·rcases hs e2 q2 with ⟨rfl,_⟩|⟨hj',e2'⟩
   ·rfl
   ·exact m.dj i j' _ b _ t x hi e2' hl q2 f1 f2
  ·rcases hs e2 q2 with ⟨rfl,rfl,rfl⟩|⟨hj',e2'⟩
   ·exact m.dj j i a _ s _ x e1' hi q1 hl f1 f2
   ·exact m.dj j j' a b s t x e1' e2' q1 q2 f1 f2
 ·rcases zI e with ⟨_,z⟩|⟨_,e'⟩
  ·cases z
  ·rcases hs e1 e2 with ⟨rfl,rfl,rfl⟩|⟨_,e1'⟩
   ·exact m.xd j r q e' i _ _ x hi hl f
   ·exact m.xd j r q e' j' a s x e1' e2 f
 ·rw[zg (zk e h5)];exact m.keep y o e n
 ·rw[zg (fun z=>h4 (by rw[←z];exact hy))];exact m.oex y hy
theorem M.wrOwn {F:Fr}{σ:St}{H:Hp}{i:Nat}{ds es:List PyData}{l:Addr}{ys:List V}(m:M F α σ H)(hi:α[i]?=some (some (.own ds)))(hl:σ[i]?=some (some (.ref l)))(av:AVs (Gz F α σ H) ys es):
  M F (α.set i (some (.own es))) σ (upd H l (.lst ys)):=m.wrC hi hl (.lst av)
theorem yv (i:Nat){x:Str}{ds:List PyData}{p1 p2 p3:Pos}(hi:α[i]?=some (some (.own ds)))(h:EvD X α e fun d=>ds.length<1000∧SvS X (α.set i (some (.own (ds++[d])))) rest E)
  (hN:X.N[i]?=some x:=by rfl) (hv:Vis X.env.scope x:=by first|exact Or.inl rfl|exact Or.inr (Or.inl rfl)|exact Or.inr (Or.inr rfl)) (hd:(x == ("__debug__":Str))=false:=by decide) (hcd:(x == ("__classdict__":Str))=false:=by decide)
  (hbase:attributeBase (.Name x p1) "append" X.env (eval (.Name x p1) X.env)=eval (.Name x p1) X.env:=by rfl) (hs:starEach [e] X.env=(false,eval e X.env)::starEach [] X.env:=by rfl)
  (hpl:((((backTo p3 (starEach [e] X.env)).all fun x=>!x.fst)&&(backToKw p3 (keywordEach [] X.env)).all fun x=>x.fst.isSome)&&decide (([e].length+([]:List Keyword).length+if ([]:List Keyword).isEmpty=true then 0 else 1)<30))=true:=by rfl)
  (hline:(p2.endLine == p3.line)=true:=by rfl) (hsw:swapsWith (.Call (.Attribute (.Name x p1) "append" p2) [e] [] p3) none pos.line X.env=pure false:=by rfl):SvS X α (.Expr (.Call (.Attribute (.Name x p1) "append" p2) [e] [] p3) pos::rest) E:=fun F σ H D m r=>by
 obtain⟨l,xs,h1,h2,h3,h4,h5⟩:=m.own i ds hi
 refine⟨_,zJ (tM (du zF2 PySem.F.slot_list_append PySem.F.type_list_append uC (yI hN hv hd hcd) (zd zq zr hs) hbase hpl hline hs) hsw) ym,?_⟩
 refine⟨.ref l,h1,.inl ⟨rfl,_,SqL.of h2⟩,?_⟩
 refine h F σ H _ m fun d v H1 q1 t1 k1 r1=>?_
 have m1:=m.kz k1 t1
 refine⟨l,xs,v,rfl,rfl,k1 _ _ h2 (m.tp.nt h4),by rw[h3.length];exact yM (zz2 q1.1),?_⟩
 exact q1.2 F σ _ D (m1.wrOwn hi h1 ((h3.same (k1.gz m.tp)).append (.cons r1 .nil))) r
theorem zc2 (i:Nat){x:Str}{ix:Expr}{ds:List PyData}{p1 p2:Pos}(hi:α[i]?=some (some (.own ds)))(h:EvD X α e fun d=>EvD X α ix fun y=>∃k j,y=.int k∧ixN ds.length k=some j∧SvS X (α.set i (some (.own (ds.set j d)))) rest E)
  (hN:X.N[i]?=some x:=by rfl) (hv:Vis X.env.scope x:=by first|exact Or.inl rfl|exact Or.inr (Or.inl rfl)|exact Or.inr (Or.inr rfl)) (hd:(x == ("__debug__":Str))=false:=by decide) (hcd:(x == ("__classdict__":Str))=false:=by decide)
  (hs:swapsWithSole [.Subscript (.Name x p1) ix p2] e pos.line X.env=pure false:=by rfl) (hw:swappedStores [.Subscript (.Name x p1) ix p2] e X.env=pure none:=by rfl)
  (ha:(assignEach [.Subscript (.Name x p1) ix p2] X.env).map (·.2)=[assign (.Subscript (.Name x p1) ix p2) X.env]:=by rfl) (hps:PG X (.Subscript (.Name x p1) ix p2) (zo1 (zh1 i) (tD X ix) aZ):=by exact mM (yI rfl (by first|exact Or.inl rfl|exact Or.inr (Or.inl rfl)|exact Or.inr (Or.inr rfl))) zq set_list):
  SvS X α (.Assign [.Subscript (.Name x p1) ix p2] e pos::rest) E:=fun F σ H D m r=>by
 obtain⟨l,xs,h1,h2,h3,h4,h5⟩:=m.own i ds hi
 refine⟨_,zJ (mH zq hps hs hw ha) ym,?_⟩
 refine h F σ H _ m fun d v H1 q1 t1 k1 r1=>?_
 have m1:=m.kz k1 t1
 refine⟨.ref l,h1,?_⟩
 refine q1 F σ H1 _ m1 fun y vy H2 q2 t2 k2 r2=>?_
 have m2:=m1.kz k2 t2
 obtain⟨k,j,rfl,hj,q⟩:=q2
 cases r2.int_inv
 refine⟨l,xs,k,j,rfl,rfl,k2 _ _ (k1 _ _ h2 (m.tp.nt h4)) (m.tp.nt h4),by rw[h3.length];exact hj,?_⟩
 exact q F σ _ D (m2.wrOwn hi h1 (((h3.same (k1.gz m.tp)).same (k2.gz m1.tp)).set (r1.same (k2.gz m1.tp)) j)) r
def uY (X:Cx)(pat:Pat)(body rest:List Stmt)(E:xi):List PyData→Ev→Prop
 |[],α=>SvS X α rest E
 |d::ds,α=>∃α1,pat.bind d α=some α1∧SvS X α1 body {nx:=uY X pat body rest E ds,ct:=uY X pat body rest E ds,bk:=fun α'=>SvS X α' rest E,rt:=E.rt}
theorem wY {pat:Pat}(hp:PassesOwn (model X.prog X.w) X.A X.env X.xe)(hc:X.calm=true)(hg:PG X tg (iW X.K pat))(h:EvI X α tg iter fun ds=>uY X pat body rest E ds α)
  (hs:∀x,foldedSetIterable iter X.env x=pure x:=by intro _;rfl):SvS X α (.For tg iter body [] pos::rest) E:=fun F σ H D m r=>by
 refine⟨_,zJ (zg7 hp hc pI hg ym hs) ym,?_⟩
 refine h F σ H _ m fun ds J H1 q1 t1 k1 itw=>?_
 have m1:=m.kz k1 t1
 have mu:=m1.up
 have ru:nB (F.up (Gz F α σ H1)) E D:=r.up
 refine⟨fun i n σ' H'=>n=ds.length-i∧i≤ds.length∧∃α',M (F.up (Gz F α σ H1)) α' σ' H'∧uY X pat body rest E (ds.drop i) α',⟨ds.length,by simp,zv3 _,α,mu,q1⟩,?_⟩
 rintro i n σ' H' ⟨rfl,hi,α',m',lw⟩
 obtain⟨w1,w2⟩:=itw i H' _ (m1.upold m')
 by_cases hlt:i<ds.length
 ·have hd:ds[i]?=some ds[i]:=zt5 hlt
  rw[zB6 hlt] at lw
  obtain⟨α1,eb,body⟩:=lw
  obtain⟨go,yl⟩:=w1 _ hd
  refine .inr ⟨go,fun σ'' H''=>∃α',M (F.up (Gz F α σ H1)) α' σ'' H''∧uY X pat _ rest E (ds.drop (i+1)) α',fun σ'' H'' ⟨α'',r1,r2⟩=>⟨ds.length-(i+1),by omega,rfl,hlt,α'',r1,r2⟩,fun x H3 y=>?_⟩
  obtain⟨s23,avx⟩:=yl x H3 y
  have m3:=m'.kz (Kz.of_same s23) (m'.tp.same s23)
  refine kh eb m3 (avx fun a o _ e=>m'.fresh e) fun σ1 m4=>?_
  exact body _ σ1 H3 _ m4 ⟨fun α2 σ2 H2 m2 q=>⟨α2,m2,q⟩,ru.rt,fun α2 σ2 H2 m2 q=>q _ σ2 H2 D m2 ru,fun α2 σ2 H2 m2 q=>⟨α2,m2,q⟩⟩
 ·have e:i=ds.length:=by omega
  subst e
  rw[zG3] at lw
  exact .inl ⟨w2 (zt9 _),lw _ σ' H' D m' ru⟩
theorem xh {pat:Pat}{ds:List PyData}(P:Nat→Ev→Prop)(h0:P 0 α)(hs:∀i d α,ds[i]?=some d→P i α→∃α1,pat.bind d α=some α1∧SvS X α1 body {nx:=P (i+1),ct:=P (i+1),bk:=fun α'=>SvS X α' rest E,rt:=E.rt})
  (hd:∀α,P ds.length α→SvS X α rest E):uY X pat body rest E ds α:=by
 have key:∀n i α,n=ds.length-i→i≤ds.length→P i α→uY X pat body rest E (ds.drop i) α:=by
  intro n
  induction n with
  |zero=>
   intro i α hn hi p
   have e:i=ds.length:=by omega
   subst e
   rw[zG3]
   exact hd α p
  |succ n ih=>
   intro i α hn hi p
   have hlt:i<ds.length:=by omega
   rw[zB6 hlt]
   obtain⟨α1,e,b⟩:=hs i ds[i] α (zt5 hlt) p
   exact⟨α1,e,b.imp (fun α p=>ih (i+1) α (by omega) hlt p) (fun _ z=>z) (fun _ z=>z) (fun α p=>ih (i+1) α (by omega) hlt p)⟩
 exact key _ 0 α rfl (zv3 _) h0
end
end
section
variable {P:Program}{w:World}{K:PySem.W.Frag}{mg:Str→Option Value}{base:Heap}
theorem M.start {F:Fr}{N:List Str}{vs:List V}{as:List A}{H:Hp}(e:F.H0=H)(t:zR F H)(o:∀x,F.O0 x→∃u,H x=some u∧wR u)(rv:ye F (sub (fun x=>¬F.O0 x) H) vs as):
  M F (as.map some++List.replicate (N.length-as.length) none) (L2.start N vs) H:=by
 have hl:=rv.length
 have g:∀{i:Nat} {a:A},(as.map some++List.replicate (N.length-as.length) none)[i]?=some (some a)→as[i]?=some a:=fun {i a} h=>by
  rcases zA6 i as.length with z|z
  ·rw[zv9 (by rw[zt4];exact z),zv2,zw9] at h
   obtain⟨b,h1,h2⟩:=h
   cases h2;exact h1
  ·rw[zw3 (by rw[zt4];exact z),zy8] at h
   split at h<;>cases h
 have at':∀{vs:List V} {as:List A} {i:Nat} {a:A},ye F (sub (fun x=>¬F.O0 x) H) vs as→as[i]?=some a→∃v,vs[i]?=some v∧jA F (sub (fun x=>¬F.O0 x) H) v a:=by
  intro vs as i a h
  induction h generalizing i with
  |nil=>intro e;simp at e
  |cons h r ih=>
   intro e
   cases i with
   |zero=>simp at e;subst e;exact⟨_,rfl,h⟩
   |succ i=>obtain⟨v,h1,h2⟩:=ih (by simpa using e);exact⟨v,by simpa using h1,h2⟩
 have gv:∀{i:Nat} {v:V},vs[i]?=some v→(L2.start N vs)[i]?=some (some v):=fun {i v} h=>by
  have hi:i<vs.length:=(zt8.mp h).1
  unfold L2.start
  rw[zv9 (by rw[zt4];exact hi),zv2,h];rfl
 have no:∀(i:Nat) a,(as.map some++List.replicate (N.length-as.length) none)[i]?=some (some a)→(∃d,a=.dat d)∨a=.tape:=fun i a z=>by
  obtain⟨v,_,h⟩:=at' rv (g z)
  cases a with
  |dat d=>exact .inl ⟨d,rfl⟩
  |tape=>exact .inr rfl
  |_=>exact h.elim
 have gs:zy (sub (fun x=>¬F.O0 x) H) (Gz F (as.map some++List.replicate (N.length-as.length) none) (L2.start N vs) H):=zu fun a o h e=>⟨fun z=>z.elim h fun⟨i,b,s,e1,_,f⟩=>by
  rcases no i b e1 with ⟨d,rfl⟩|rfl
  ·exact f.elim
  ·exact f.elim,e⟩
 refine⟨by unfold L2.start;simp[hl],fun i a s e1 e2=>?_,fun i j a b s t x e1 _ _ _ f=>?_,fun i r q z=>(by rcases no i _ z with ⟨d,w⟩|w<;>cases w),t,fun x o' h _=>by rw[←e];exact h,o⟩
 ·obtain⟨v,h1,h2⟩:=at' rv (g e1)
  rw[gv h1] at e2;cases e2
  rcases no i a e1 with ⟨d,rfl⟩|rfl
  ·exact⟨v,rfl,AV.same gs h2⟩
  ·obtain⟨t',b,c,h3,rfl⟩:=h2
   exact⟨t',b,c,h3,rfl⟩
 ·rcases no i a e1 with ⟨d,rfl⟩|rfl
  ·exact f.elim
  ·exact f.elim
theorem fnA {x qual:Str}{st:Stmt}{f:Addr}{fd:FuncData}{N ps:List Str}{k:Nat}{φ:List A→(A→Prop)→Prop}(G:Fun K x qual st f fd)(S:zl N ps (zb st))(hlen:∀as Q,φ as Q→as.length=ps.length)
  (hbody:∀(cdv:Value) (A':Around) (outer:List Env) (s:Shared) (H:Hp) (E:XK) (as:List A) (Q:A→Prop),zK k (A'.deeper (envOfC qual (zb st) s.heap.objs.size f cdv))→φ as Q→
   SvS (xy CX0 P w K mg base N qual (zb st) f cdv A' outer s H E).nox (as.map some++List.replicate (N.length-as.length) none) (zw st) {nx:=fun _=>Q (.dat .none),rt:=Q}):zA P w K mg base CX0 (k+1) f fd ps (spA φ):=by
 refine G.ok S (fun vs H Q E h=>?_) (fun cdv A' outer s H vs Qc E hr h=>?_)
 ·obtain⟨F,as,Q',_,_,_,rv,hφ,_⟩:=h
  rw[rv.length,hlen as _ hφ]
 ·obtain⟨F,as,Q',e,t,o,rv,hφ,kk⟩:=h
  refine hbody cdv A' outer s H E as Q' hr hφ F _ H _ (M.start e t o rv) ⟨fun α σ H' m q=>?_,fun a v H' r q=>kk a v H' q r,fun _ _ _ _ z=>z.elim,fun _ _ _ _ z=>z.elim⟩
  exact kk _ _ _ q ⟨m.tp,m.keep,.non⟩
end
section
variable {X:Cx}{pins:List (Addr×Obj)}{σ:St}{H:Hp}{s:Shared}{h':Heap}
theorem Inv.turnL {t':Nat}{ch:List Addr}(I:Inv X pins σ H s)(k:∀b o,b∉ch→s.heap.get? b=some o→h'.get? b=some o)(hf:∀b∈ch,xq X pins H b):Inv X pins σ H {s with heap:=h',toks:=t'}:=by
 have nit:∀b u,H b=some u→b∉ch:=fun b u e z=>by rw[(hf b z).1] at e;cases e
 refine I.step (g':=s.gens) (d':=s.drawn) (ch:=ch) (fun b hb=>?_) (fun b o _ _ hc e _=>k b o hc e) (fun b o _ _ hc e _=>⟨o.slots,k b o hc e⟩) (fun _ _ _ _ n=>n)
  (fun b o hc e=>⟨o,k b o hc e⟩) (fun _ _ e=>e) (fun _ _ _ e=>e) (fun b ps e=>⟨#[],by rw[e];simp⟩) (fun m hm=>?_) (fun b u e=>?_) I.bare
 ·obtain⟨_,f1,_,f3,f4,f5⟩:=hf b hb
  exact⟨f3,f1,f4,f5⟩
 ·obtain⟨o,es,ep,ho,r⟩:=hm
  exact⟨o,es,ep,k _ o (fun z=>(hf _ z).2.1 rfl) ho,r⟩
 ·refine (I.hok b u e).stay (fun c v hc q=>k c v ?_ q) (fun _ q=>q) fun _ _ q=>q
  rcases hc with z|z
  ·rw[z];exact nit b u e
  ·exact nit c _ z
theorem Inv.turnLay {t':Nat}{ch:List Addr}{T:Addr}{o:HO}(I:Inv X pins σ H s)(k:∀b o,b∉ch→s.heap.get? b=some o→h'.get? b=some o)(hf:∀b∈ch,xq X pins H b)(hT:s.heap.objs.size≤T)(new:yf X.prog X.w (upd H T o) h' T o):
  Inv X pins σ (upd H T o) {s with heap:=h',toks:=t'}:=by
 have nit:∀b u,H b=some u→b∉ch:=fun b u e z=>by rw[(hf b z).1] at e;cases e
 have hn:H T=none:=I.hok.fresh hT
 have lt:∀{b:Addr} {u:Obj},s.heap.get? b=some u→b≠T:=fun e=>zv4 (zv1 (zu0 e) hT)
 refine I.step (g':=s.gens) (d':=s.drawn) (ch:=ch) (fun b hb=>?_) (fun b o _ _ hc e _=>k b o hc e) (fun b o _ _ hc e _=>⟨o.slots,k b o hc e⟩) (fun b u _ e n=>by rw[zg (lt e)];exact n)
  (fun b o hc e=>⟨o,k b o hc e⟩) (fun b xs e=>by rw[zg (zk e hn)];exact e) (fun b u xs e=>by rw[zg (zk e hn)];exact e) (fun b ps e=>⟨#[],by rw[zg (zk e hn),e];simp⟩) (fun m hm=>?_) (fun b u e=>?_) I.bare
 ·obtain⟨_,f1,_,f3,f4,f5⟩:=hf b hb
  exact⟨f3,f1,f4,f5⟩
 ·obtain⟨o,es,ep,ho,r⟩:=hm
  exact⟨o,es,ep,k _ o (fun z=>(hf _ z).2.1 rfl) ho,r⟩
 ·by_cases hb:b=T
  ·subst hb;rw[zh] at e;cases e;exact new
  ·rw[zg hb] at e
   refine (I.hok b u e).stay (fun c v hc q=>k c v ?_ q) (fun c q=>by rw[zg (zk q hn)];exact q) fun c xs q=>by rw[zg (zk q hn)];exact q
   rcases hc with z|z
   ·rw[z];exact nit b u e
   ·exact nit c _ z
end
theorem zs3 {a b:Nat}(h:b<a):(a:Addr)≠b:=zA4 h
def Itz (K:PySem.W.Frag)(l1 l2:Addr):It:=
 ⟨fun i H=>∃xs ys x y,SqL K H l1 xs∧SqL K H l2 ys∧xs[i]?=some x∧ys[i]?=some y,
  fun i H v H'=>∃T x y,v=.ref T∧H T=none∧H'=upd H T (.tup [x,y])∧(∀xs,SqL K H l1 xs→xs[i]?=some x)∧∀ys,SqL K H l2 ys→ys[i]?=some y,
  fun i H=>∃xs ys,SqL K H l1 xs∧SqL K H l2 ys∧(xs.length≤i∨ys.length≤i)⟩
def Ite (K:PySem.W.Frag)(l:Addr):It:=
 ⟨fun i H=>∃xs x,SqL K H l xs∧xs[i]?=some x,
  fun i H v H'=>∃T x,v=.ref T∧H T=none∧H'=upd H T (.tup [.int i,x])∧∀xs,SqL K H l xs→xs[i]?=some x,
  fun i H=>∃xs,SqL K H l xs∧xs.length≤i⟩
theorem zm7 {P:Program}{w:World}{K:PySem.W.Frag}{elts:List Expr}{kk:Nat}{pos:Pos}{z TI TO i1 i2 l1 l2:Addr}(D:ZipApart z TI TO i1 i2 l1 l2):
  Turn P w K (.Tuple elts kk pos) (Itz K l1 l2) [z,TI,TO,i1,i2] z (fun i h=>IsZip h z TI TO .none∧IsPair h TI (.ref i1) (.ref i2)∧(∃a b,IsPair h TO a b)∧h.IsListIter i1 l1 i∧h.IsListIter i2 l2 i) where
 mem:=by simp
 obj:=fun i h st b hb=>by
  obtain⟨h1,h2,⟨a,c,h3⟩,⟨o1,e1,_,d1⟩,⟨o2,e2,_,d2⟩⟩:=st
  simp only[zu1,zu8,zx1] at hb
  rcases hb with rfl|rfl|rfl|rfl|rfl
  ·exact⟨_,h1,fun v z=>by cases (show Data.fields _=Data.cell v from z)⟩
  ·exact⟨_,h2,fun v z=>by cases (show Data.seq _ _=Data.cell v from z)⟩
  ·exact⟨_,h3,fun v z=>by cases (show Data.seq _ _=Data.cell v from z)⟩
  ·exact⟨o1,e1,fun v z=>by rw[d1] at z;cases z⟩
  ·exact⟨o2,e2,fun v z=>by rw[d2] at z;cases z⟩
 keep:=fun i h h' st k=>by
  obtain⟨h1,h2,⟨a,c,h3⟩,h4,h5⟩:=st
  exact⟨k z (by simp) _ h1,k TI (by simp) _ h2,⟨a,c,k TO (by simp) _ h3⟩,h4.at fun o e=>k i1 (by simp) o e,h5.at fun o e=>k i2 (by simp) o e⟩
 item:=by
  intro X hP hw hK hc i pins s σ H E I hf st hg
  subst hP hw hK
  obtain⟨xs,ys,x,y,hq1,hq2,hx,hy⟩:=hg
  obtain⟨its1,rv1,p1,hz1⟩:=I.list hq1
  obtain⟨its2,rv2,p2,hz2⟩:=I.list hq2
  obtain⟨u,hu,ru⟩:=rv1.get hx
  obtain⟨v,hv,rv⟩:=rv2.get hy
  obtain⟨h1,h2,⟨a,c,h3⟩,h4,h5⟩:=st
  refine wpAny_pyNext_zip_item D h1 h2 h3 h4 h5 p1.isList p2.isList (x:=u) (y:=v) (by simpa using hu) (by simpa using hv) fun h' a1 a2 a3 a4 a5 a6 hk=>⟨_,rfl,?_⟩
  refine wpAny_letOwnedTupleGo_zip (s:={s with heap:=h'}) a1 fun h'' b1 b2=>?_
  have hTz:s.heap.objs.size≠z:=zA4 (zu0 h1)
  have hk2:∀b o,b∉[z,TI,TO,i1,i2]→s.heap.get? b=some o→h''.get? b=some o:=fun b o hb e=>by
   simp only[zu1,zu8,zx1,not_or] at hb
   exact b2.extBut _ _ hb.1 (hk b o hb.1 hb.2.2.1 hb.2.2.2.1 hb.2.2.2.2 e)
  have gT:h''.get? s.heap.objs.size=some {cls:=.type "tuple",data:=.seq #[u,v]}:=b2.extBut _ _ hTz a5
  have J:=I.turnLay (t':=s.toks) (T:=s.heap.objs.size) (o:=.tup [x,y]) hk2 hf (zt9 _) ⟨by show 2≤sizeLine;decide,[u,v],.cons ru (.cons rv .nil),_,gT,rfl,0,rfl⟩
  refine⟨.ref s.heap.objs.size,_,J,rfl,⟨_,x,y,rfl,I.hok.fresh (zt9 _),rfl,fun zs hz=>by rw[I.list_inj hz hq1];exact hx,fun zs hz=>by rw[I.list_inj hz hq2];exact hy⟩,⟨b1,b2.extBut _ _ D.TIz (hk _ _ D.TIz D.TITO D.TIi1 D.TIi2 h2),⟨u,v,b2.extBut _ _ D.TOz a2⟩,a3.extBut b2.extBut D.i1z,a4.extBut b2.extBut D.i2z⟩,fun b hb=>?_⟩
  rw[zg]
  ·exact (hf b hb).1
  ·obtain⟨o,e,_⟩:=(show ∃o,s.heap.get? b=some o∧True from by
    simp only[zu1,zu8,zx1] at hb
    obtain⟨o1,e1,_⟩:=h4
    obtain⟨o2,e2,_⟩:=h5
    rcases hb with rfl|rfl|rfl|rfl|rfl
    ·exact⟨_,h1,trivial⟩
    ·exact⟨_,h2,trivial⟩
    ·exact⟨_,h3,trivial⟩
    ·exact⟨_,e1,trivial⟩
    ·exact⟨_,e2,trivial⟩)
   exact zv4 (zu0 e)
 done:=by
  intro X hP hw hK hc i pins s σ H E I hf st hg
  subst hP hw hK
  obtain⟨xs,ys,hq1,hq2,hl⟩:=hg
  obtain⟨its1,rv1,p1,hz1⟩:=I.list hq1
  obtain⟨its2,rv2,p2,hz2⟩:=I.list hq2
  obtain⟨h1,h2,⟨a,c,h3⟩,h4,h5⟩:=st
  have e1:=rv1.length
  have e2:=rv2.length
  refine wpAny_pyNext_zip_end (I.ok.hd hc) D h1 h2 h3 h4 h5 p1.isList p2.isList (hl.imp (fun z=>by simp;omega) fun z=>by simp;omega) fun h' hk=>⟨rfl,?_⟩
  exact I.turnL (t':=s.toks) (ch:=[z,TI,TO,i1,i2]) (fun b o hb e=>by
   simp only[zu1,zu8,zx1,not_or] at hb
   exact hk b o hb.1 hb.2.2.1 hb.2.2.2.1 hb.2.2.2.2 e) hf
 self:=fun A i s Q E st h=>wpAny_pyIter_zip st.1 h
theorem jx {P:Program}{w:World}{K:PySem.W.Frag}{elts:List Expr}{kk:Nat}{pos:Pos}{e it l:Addr}(hne:e≠it):
  Turn P w K (.Tuple elts kk pos) (Ite K l) [e,it] e (fun i h=>(∃old,IsEnum h e it i old)∧h.IsListIter it l i) where
 mem:=by simp
 obj:=fun i h st b hb=>by
  obtain⟨⟨old,h1⟩,⟨o1,e1,_,d1⟩⟩:=st
  simp only[zu1,zu8,zx1] at hb
  rcases hb with rfl|rfl
  ·exact⟨_,h1,fun v z=>by cases (show Data.fields _=Data.cell v from z)⟩
  ·exact⟨o1,e1,fun v z=>by rw[d1] at z;cases z⟩
 keep:=fun i h h' st k=>by
  obtain⟨⟨old,h1⟩,h4⟩:=st
  exact⟨⟨old,k e (by simp) _ h1⟩,h4.at fun o q=>k it (by simp) o q⟩
 item:=by
  intro X hP hw hK hc i pins s σ H E I hf st hg
  subst hP hw hK
  obtain⟨xs,x,hq1,hx⟩:=hg
  obtain⟨its1,rv1,p1,hz1⟩:=I.list hq1
  obtain⟨u,hu,ru⟩:=rv1.get hx
  obtain⟨⟨old,h1⟩,h4⟩:=st
  refine wpAny_pyNext_enum_item h1 h4 p1.isList (x:=u) (by simpa using hu) hne fun h' a1 a3 a5 a6 hk=>⟨_,rfl,?_⟩
  refine wpAny_letOwnedTupleGo_enum (s:={s with heap:=h',toks:=s.toks+1}) a1 fun h'' b1 b2=>?_
  have hTz:s.heap.objs.size≠e:=zA4 (zu0 h1)
  have hk2:∀b o,b∉[e,it]→s.heap.get? b=some o→h''.get? b=some o:=fun b o hb q=>by
   simp only[zu1,zu8,zx1,not_or] at hb
   exact b2.extBut _ _ hb.1 (hk b o hb.1 hb.2 q)
  have gT:h''.get? s.heap.objs.size=some {cls:=.type "tuple",data:=.seq #[.int i s.toks,u]}:=b2.extBut _ _ hTz a5
  have J:=I.turnLay (t':=s.toks+1) (T:=s.heap.objs.size) (o:=.tup [.int i,x]) hk2 hf (zt9 _) ⟨by show 2≤sizeLine;decide,[.int i s.toks,u],.cons ⟨_,rfl⟩ (.cons ru .nil),_,gT,rfl,0,rfl⟩
  refine⟨.ref s.heap.objs.size,_,J,rfl,⟨_,x,rfl,I.hok.fresh (zt9 _),rfl,fun zs hz=>by rw[I.list_inj hz hq1];exact hx⟩,⟨⟨u,by simpa using b1⟩,a3.extBut b2.extBut hne.symm⟩,fun b hb=>?_⟩
  rw[zg]
  ·exact (hf b hb).1
  ·obtain⟨o,q,_⟩:=(show ∃o,s.heap.get? b=some o∧True from by
    simp only[zu1,zu8,zx1] at hb
    obtain⟨o1,e1,_⟩:=h4
    rcases hb with rfl|rfl
    ·exact⟨_,h1,trivial⟩
    ·exact⟨_,e1,trivial⟩)
   exact zv4 (zu0 q)
 done:=by
  intro X hP hw hK hc i pins s σ H E I hf st hg
  subst hP hw hK
  obtain⟨xs,hq1,hl⟩:=hg
  obtain⟨its1,rv1,p1,hz1⟩:=I.list hq1
  obtain⟨⟨old,h1⟩,h4⟩:=st
  have e1:=rv1.length
  refine wpAny_pyNext_enum_end (I.ok.hd hc) h1 h4 p1.isList (by simp;omega) fun h' hk=>⟨rfl,?_⟩
  exact I.turnL (t':=s.toks) (ch:=[e,it]) (fun b o hb q=>by
   simp only[zu1,zu8,zx1,not_or] at hb
   exact hk b o hb.2 q) hf
 self:=fun A i s Q E st h=>by
  obtain⟨⟨old,h1⟩,h4⟩:=st
  exact wpAny_pyIter_enum h1 h
section
variable {X:Cx}{α:Ev}{elts:List Expr}{kk:Nat}{tp p pos:Pos}{a b:Expr}
def zo2 (K:PySem.W.Frag)(ta:TA):TI:=fun σ H R=>ta σ H fun vs H1=>∃l,vs=[.ref l]∧(∃xs,SqL K H1 l xs)∧R (Ite K l) H1
theorem bU {ta:TA}(hg:Gl X "enumerate")(hm:X.mg "enumerate"=none)(ha:PA X [a] ta)(hs:starEach [a] X.env=[(false,eval a X.env)]:=by rfl):
  PI X (.Tuple elts kk tp) (.Call (.Name "enumerate" p) [a] [] pos) (zo2 X.K ta):=by
 intro pins s σ H R I h
 refine Call_ (wq I hg hm boot_enumerate (zy3 (thn (ha pos pins s σ H _ I h) fun us s1 ⟨vs,H1,I1,r1,q1⟩=>?_) hs rfl))
 obtain⟨l1,e,⟨xs,hq1⟩,q⟩:=q1
 subst e
 obtain⟨u,rfl,ru⟩:=Vals.one r1
 cases (show u=Value.ref l1 from ru)
 obtain⟨its1,rv1,p1,hz1⟩:=I1.list hq1
 refine call_enumerate_list p1.isList fun h' z1 z4 z6 hk=>?_
 refine wpAny_pyIter_enum (s:={s1 with heap:=h'}) z1 ?_
 refine⟨_,_,_,_,H1,rfl,I1.kept (t':=s1.toks) fun b o e=>hk b o e,jx (zs3 (a:=s1.heap.objs.size+1) (b:=s1.heap.objs.size) (zD3 _)),⟨⟨_,z1⟩,z4⟩,fun b hb=>?_,q⟩
 simp only[zu1,zu8,zx1] at hb
 have hb':s1.heap.objs.size≤b:=by
  have key:∀n b:Nat,n=s1.heap.objs.size→(b=n+1∨b=n)→n≤b:=fun n b _ h=>by omega
  exact key _ _ rfl hb
 exact I1.fpOk hb' (I1.hok.fresh hb')
def uZ (n:Nat):List PyData→List PyData
 |[]=>[]
 |d::ds=>.tuple [.int n,d]::uZ (n+1) ds
theorem vG :∀{ds:List PyData} {n i:Nat} {d:PyData},(uZ n ds)[i]?=some d→∃e,ds[i]?=some e∧d=.tuple [.int ((n+i:Nat):Int),e]
 |[],n,i,d,h=>by simp[uZ] at h
 |e::ds,n,0,d,h=>by simp[uZ] at h;exact⟨e,rfl,by simp[←h]⟩
 |e::ds,n,i+1,d,h=>by
  simp only[uZ,zF3] at h
  obtain⟨e',h1,h2⟩:=vG h
  exact⟨e',by simpa using h1,by rw[h2,Nat.add_assoc,Nat.add_comm 1 i]⟩
theorem vw :∀(ds:List PyData) (n:Nat),(uZ n ds).length=ds.length
 |[],_=>rfl
 |_::ds,n=>by simp[uZ,vw ds (n+1)]
theorem jk {Q:List PyData→Prop}(hg:Gl X "enumerate")(hm:X.mg "enumerate"=none)(h:EvD X α a fun x=>∃ds,x=.list ds∧Q (uZ 0 ds))(hs:starEach [a] X.env=[(false,eval a X.env)]:=by rfl):
  EvI X α (.Tuple elts kk tp) (.Call (.Name "enumerate" p) [a] [] pos) Q:=fun F σ H R m k=>by
 refine⟨_,bU hg hm (zd zq zr hs) hs,?_⟩
 refine h F σ H _ m fun x vx H1 q1 t1 k1 r1=>?_
 obtain⟨ds,rfl,q⟩:=q1
 obtain⟨l1,xs,rfl,g1,g2⟩:=r1.lst_inv
 refine⟨l1,rfl,⟨xs,SqL.of (zj g1).2⟩,k _ _ H1 q t1 k1 fun i H3 p s=>⟨fun d hd=>?_,fun hl=>?_⟩⟩
 ·have s1:=SqL.of (K:=X.K) (zj (s _ _ g1)).2
  obtain⟨e,he,rfl⟩:=vG hd
  obtain⟨x1,hx1,av1⟩:=g2.get he
  refine⟨⟨xs,x1,s1,hx1⟩,fun v H4 y=>?_⟩
  obtain⟨T,x,rfl,hT,rfl,hx⟩:=y
  have hx:=hx _ s1
  rw[hx1] at hx;cases hx
  refine⟨yD hT,fun fr=>?_⟩
  have gs:zy (Gz F α σ H1) (sub p (upd H3 T (.tup [.int i,x1]))):=fun a o e=>by
   obtain⟨z1,z2⟩:=zj (s a o e)
   exact zM z1 (by rw[zg (zk z2 hT)];exact z2)
  refine .tup (zM (fr T _ zh hT) zh) (.cons ?_ (.cons (av1.same gs) .nil))
  rw[Nat.zero_add]
  exact .int _
 ·refine⟨xs,SqL.of (zj (s _ _ g1)).2,?_⟩
  rw[vw,←g2.length] at hl
  exact hl
end
structure Cal (P:Program)(w:World)(K:PySem.W.Frag)(mg:Str→Option Value)(base:Heap)(x:Str)(k:Nat)(φ:List A→(A→Prop)→Prop):Prop where
 ex:∃f fd ps,mg x=some (.ref f)∧PySem.W.keepIn K (.ref f)=true∧Binds K fd ps []∧zA P w K mg base CX0 k f fd ps (spA φ)
section
variable {X:Cx}{α:Ev}{e a b:Expr}{es:List Expr}{pos p:Pos}{Q:PyData→Prop}{k:Nat}{φ:List A→(A→Prop)→Prop}{x:Str}
theorem yn (C:Cal X.prog X.w X.K X.mg X.base x k φ)(hr:zK k X.A)(hg:Gl X x)(h:EvA X α (e::es) fun as=>φ as fun a=>Q a.d)
  (hdb:(x == ("__debug__":Str))=false:=by decide) (he:starEach (e::es) X.env=(false,eval e X.env)::starEach es X.env:=by rfl) (hpl:(backTo pos (starEach es X.env)).any (·.1)=false:=by rfl):EvD X α (.Call (.Name x p) (e::es) [] pos) Q:=by
 obtain⟨f,fd,ps,h1,h2,h3,h4⟩:=C.ex
 exact bp h4 hr hg h1 h2 h3 h hdb he hpl
theorem xX {Q:List PyData→Prop}(C:Cal X.prog X.w X.K X.mg X.base x k φ)(hr:zK k X.A)(hg:Gl X x)(h:EvA X α (e::es) fun as=>φ as fun a=>∃ds,a=.own ds∧Q ds)
  (hdb:(x == ("__debug__":Str))=false:=by decide) (he:starEach (e::es) X.env=(false,eval e X.env)::starEach es X.env:=by rfl) (hpl:(backTo pos (starEach es X.env)).any (·.1)=false:=by rfl):EvL X α (.Call (.Name x p) (e::es) [] pos) Q:=by
 obtain⟨f,fd,ps,h1,h2,h3,h4⟩:=C.ex
 exact cM h4 hr hg h1 h2 h3 h hdb he hpl
end
section
variable {P:Program}{w:World}{K:PySem.W.Frag}{mg:Str→Option Value}{base:Heap}
theorem vJ {x qual:Str}{st:Stmt}{f:Addr}{fd:FuncData}{N ps:List Str}{k:Nat}{φ:List A→(A→Prop)→Prop}(G:Fun K x qual st f fd)(hm:mg x=some (.ref f))(hb:Binds K fd ps [])(S:zl N ps (zb st))(hlen:∀as Q,φ as Q→as.length=ps.length)
  (hbody:∀(cdv:Value) (A':Around) (outer:List Env) (s:Shared) (H:Hp) (E:XK) (as:List A) (Q:A→Prop),zK k (A'.deeper (envOfC qual (zb st) s.heap.objs.size f cdv))→φ as Q→
   SvS (xy CX0 P w K mg base N qual (zb st) f cdv A' outer s H E).nox (as.map some++List.replicate (N.length-as.length) none) (zw st) {nx:=fun _=>Q (.dat .none),rt:=Q}):Cal P w K mg base x (k+1) φ:=
 ⟨f,fd,ps,hm,G.kp,hb,fnA G S hlen hbody⟩
theorem Cal.imp {x:Str}{k:Nat}{φ φ':List A→(A→Prop)→Prop}(C:Cal P w K mg base x k φ)(h:∀as Q,φ' as Q→φ as Q):Cal P w K mg base x k φ':=by
 obtain⟨f,fd,ps,h1,h2,h3,h4⟩:=C.ex
 exact⟨f,fd,ps,h1,h2,h3,h4.imp fun vs H Q E ⟨F,as,Q',a,b,c,d,e,g⟩=>⟨F,as,Q',a,b,c,d,h _ _ e,g⟩⟩
def xV :List A→(A→Prop)→Prop:=fun as Q=>∃n:Int,as=[.tape,.dat (.int n)]∧0<n∧n<big∧∀v,0≤v→v<n→Q (.dat (.int v))
theorem cq {f:Addr}{fd:FuncData}{x:Str}(hm:mg x=some (.ref f))(hk:PySem.W.keepIn K (.ref f)=true)(hb:Binds K fd ["_law_tape_here","_law_many"] [])(G:zA P w K mg base CX0 1 f fd ["_law_tape_here","_law_many"] eI):Cal P w K mg base x 1 xV:=by
 refine⟨f,fd,_,hm,hk,hb,G.imp fun vs H Q E h=>?_⟩
 obtain⟨F,as,Q',rfl,t,o,rv,⟨n,rfl,h0,h1,hq⟩,kk⟩:=h
 cases rv with
 |cons a1 r=>
  obtain⟨ta,b,c,e,rfl⟩:=a1
  obtain⟨v,rfl,av⟩:=r.one
  cases av.int_inv
  refine⟨ta,b,c,n,rfl,(t ta b c e).1,h0,h1,fun z H' z0 z1 TA off=>kk _ _ _ (hq z z0 z1) ⟨⟨(by
   obtain⟨_,_,_,_,e1,e2,_⟩:=(t ta b c e).1.ex
   exact aq t.tab e1 e2 off),t.ot,fun t' b' c' e'=>?_⟩,fun y u hy n=>?_,.int z⟩⟩
  ·rw[e] at e';cases e'
   exact⟨TA,(t ta b c e).2⟩
  ·rw[off y (n.1 _ _ _ e).1 (n.1 _ _ _ e).2];exact hy
theorem M.tape {H:Hp}{t b c:Addr}{α:Ev}{σ:St}(T:yG H t b c)(TB:TabAt H)(hl:α.length=σ.length)(h:∀(i:Nat) a,α[i]?=some (some a)→a=.tape∧σ[i]?=some (some (.ref t))):M ⟨H,fun x=>x=t∨x=b∨x=c∨rh x,some (t,b,c)⟩ α σ H:=by
 refine⟨hl,fun i a s e1 e2=>?_,fun i j a b s u x e1 _ _ _ f=>?_,fun i r q e=>?_,⟨TB,fun x z=>.inr (.inr (.inr z)),fun t' b' c' e=>?_⟩,fun _ _ e _=>e,fun x hx=>?_⟩
 ·obtain⟨rfl,z⟩:=h i a e1
  rw[z] at e2;cases e2
  exact⟨t,b,c,rfl,rfl⟩
 ·obtain⟨rfl,_⟩:=h i a e1
  exact f.elim
 ·cases (h i _ e).1
 ·cases e
  exact⟨T,.inl rfl,.inr (.inl rfl),.inr (.inr (.inl rfl))⟩
 ·obtain⟨n,bs,cs,_,e1,e2,e3,_⟩:=T.ex
  rcases hx with rfl|rfl|rfl|z
  ·exact⟨_,e1,yV⟩
  ·exact⟨_,e2,yV⟩
  ·exact⟨_,e3,yV⟩
  ·obtain⟨o,h1,h2,_⟩:=pL TB z
   exact⟨o,h1,h2⟩
theorem zr6 {st:Stmt}{f fT:Addr}{fd fdT:FuncData}{N':List Str}{k:Nat}{p1 p2 p3 p4 p5:Pos}{rest:List Stmt}(G:Fun K "law" "law" st f fd)(S:zl ("_law_script"::"_law_tape_here"::N') ["_law_script"] (zb st))
  (GT:zA P w K mg base CX0 1 fT fdT ["_law_script"] (nY K)) (mT:mg "_law_tape"=some (.ref fT)) (kT:PySem.W.keepIn K (.ref fT)=true) (bT:Binds K fdT ["_law_script"] [])
  (hb:zw st=.Assign [.Name "_law_tape_here" p1] (.Call (.Name "_law_tape" p2) [.Name "_law_script" p3] [] p4) p5::rest) (hgl:(zb st).names.lookup ("_law_tape":Str)=some .globalImplicit) (hl:Loc (zb st) "_law_tape_here") (hv:Vis (zb st) "_law_script")
  (hbody:∀(cdv:Value) (A':Around) (outer:List Env) (s:Shared) (H:Hp) (E:XK),zK (k+1) (A'.deeper (envOfC "law" (zb st) s.heap.objs.size f cdv))→
   SvS (xy CX0 P w K mg base ("_law_script"::"_law_tape_here"::N') "law" (zb st) f cdv A' outer s H E).nox (none::some .tape::List.replicate N'.length none) rest {nx:=fun _=>False,rt:=fun a=>a=.dat (.bool true)}):
  zA P w K mg base CX0 (k+1+1) f fd ["_law_script"] (oO K):=by
 refine G.ok S (fun vs H Q E h=>?_) (fun cdv A' outer s H vs Qc E hr h=>?_)
 ·obtain⟨a,ns,rfl,_⟩:=h
  rfl
 ·obtain⟨a,ns,rfl,hS,hn,tb,kk⟩:=h
  rw[hb]
  refine zW (fun σ H1=>∃t b c,yG H1 t b c∧TabAt H1∧σ=some (.ref a)::some (.ref t)::List.replicate N'.length none)
   ⟨_,wC (i:=1) S.nd rfl hl (zT GT (hr.mono (by omega)) hgl mT kT bT .nil yb (zd (yI (i:=0) rfl hv) zr)) (hf:=.inl rfl),?_⟩ ?_
  ·refine⟨.ref a,rfl,a,ns,rfl,hS,hn,fun t b c H' T _ _ _ sm=>⟨t,b,c,T,gN tb sm,?_⟩⟩
   show ((L2.start ("_law_script"::"_law_tape_here"::N') [.ref a]).set 1 (some (.ref t)))=_
   unfold L2.start
   simp[List.replicate_succ]
  ·rintro σ H1 ⟨t,b,c,T,TB,rfl⟩
   refine hbody cdv A' outer s H E hr ⟨H1,fun x=>x=t∨x=b∨x=c∨rh x,some (t,b,c)⟩ _ H1 _ (M.tape T TB (by simp) fun i z e=>?_) ⟨fun _ _ _ _ z=>z.elim,fun z v H' r e=>?_,fun _ _ _ _ z=>z.elim,fun _ _ _ _ z=>z.elim⟩
   ·cases i with
    |zero=>simp at e
    |succ i=>
     cases i with
     |zero=>simp at e;subst e;exact⟨rfl,rfl⟩
     |succ i=>
      simp only[zF3,zy8] at e
      split at e<;>cases e
   ·cases e
    obtain⟨_,_,r⟩:=r
    rw[AV.bl_inv r]
    exact kk H'
end
section
variable {Y:Addr→Shared→Hp→List Addr→Cx}{pat:Pat}{ifs:List Expr}{elt:Expr}{α0:Ev}
theorem jN {ds acc:List PyData}{Q:List PyData→Prop}(P:Nat→List PyData→Prop)(h0:P 0 acc)
  (hs:∀i d acc,ds[i]?=some d→P i acc→∃α1,pat.bind d α0=some α1∧∀C s2 H2 fp,df (Y C s2 H2 fp) α1 ifs fun k=>if k=true then ∀C s2 H2 fp,EvD (Y C s2 H2 fp) α1 elt fun y=>P (i+1) (acc++[y]) else P (i+1) acc)
  (hd:∀acc,P ds.length acc→Q acc):wQ Y pat ifs elt α0 ds acc Q:=by
 have key:∀n i acc,n=ds.length-i→i≤ds.length→P i acc→wQ Y pat ifs elt α0 (ds.drop i) acc Q:=by
  intro n
  induction n with
  |zero=>
   intro i acc hn hi p
   have e:i=ds.length:=by omega
   subst e
   rw[zG3]
   exact hd acc p
  |succ n ih=>
   intro i acc hn hi p
   have hlt:i<ds.length:=by omega
   rw[zB6 hlt]
   obtain⟨α1,e,b⟩:=hs i ds[i] acc (zt5 hlt) p
   refine⟨α1,e,fun C s2 H2 fp F σ H R m kk=>b C s2 H2 fp F σ H R m fun k H' q=>kk k H' ?_⟩
   cases k with
   |true=>
    rw[if_pos rfl] at q ⊢
    exact fun C s2 H2 fp=>(q C s2 H2 fp).imp fun y p=>ih (i+1) _ (by omega) hlt p
   |false=>
    rw[if_neg (by decide)] at q ⊢
    exact ih (i+1) _ (by omega) hlt q
 exact key _ 0 acc rfl (zv3 _) h0
theorem vU {ds acc:List PyData}{Q:List PyData→Prop}(p:PyData→Bool)(f:PyData→PyData)
  (hs:∀d∈ds,∃α1,pat.bind d α0=some α1∧(∀C s2 H2 fp (Q:Bool→Prop),Q (p d)→df (Y C s2 H2 fp) α1 ifs Q)∧(p d=true→∀C s2 H2 fp (Q:PyData→Prop),Q (f d)→EvD (Y C s2 H2 fp) α1 elt Q))
  (hd:Q (acc++(ds.filter p).map f)):wQ Y pat ifs elt α0 ds acc Q:=by
 induction ds generalizing acc with
 |nil=>
  show Q acc
  simpa using hd
 |cons d ds ih=>
  obtain⟨α1,e,h1,h2⟩:=hs d zv5
  refine⟨α1,e,fun C s2 H2 fp=>h1 C s2 H2 fp _ ?_⟩
  have ih':=fun acc=>ih (acc:=acc) fun d hd=>hs d (zu3 _ hd)
  cases hp:p d with
  |true=>
   rw[if_pos rfl]
   refine fun C s2 H2 fp=>h2 hp C s2 H2 fp _ (ih' _ ?_)
   simpa[List.filter_cons,hp] using hd
  |false=>
   rw[if_neg (by decide)]
   refine ih' _ ?_
   simpa[List.filter_cons,hp] using hd
end
theorem oV {ds:List PyData}{v:Int}(h0:0≤v)(h1:v<ds.length):∃d,d∈ds∧atI ds v=some d:=by
 obtain⟨j,rfl⟩:=zC2 h0
 have hj:j<ds.length:=by omega
 exact⟨ds[j],zD5 hj,wo (zt5 hj)⟩
theorem mG (st:Stmt)(env:Env):execs [st] env=exec st env:=by
 rw[PySem.execs_cons]
 have:(fun f:Flow=>(match f with|.next=>execs [] env|f=>pure f:Sem Flow))=pure:=by
  funext f
  cases f<;>rfl
 exact (congrArg (fun g=>exec st env >>= g) this).trans (bind_pure _)
section
variable {X:Cx}{α:Ev}{e a b c:Expr}{es rest:List Expr}{pos p:Pos}{Q:PyData→Prop}{E:xi}{st:Stmt}{sts sts':List Stmt}
theorem vh (P:Ev→Prop)(h1:SvS X α [st] {E with nx:=P})(h2:∀α',P α'→SvS X α' sts E):SvS X α (st::sts) E:=fun F σ H D m r=>by
 refine zW (fun σ' H'=>∃α',M F α' σ' H'∧P α') ?_ ?_
 ·obtain⟨t,p,q⟩:=h1 F σ H {D with nx:=fun σ' H'=>∃α',M F α' σ' H'∧P α'} m ⟨fun α' σ' H' m' z=>⟨α',m',z⟩,r.rt,r.bk,r.ct⟩
  exact⟨t,fun pins s σ H D I h=>(by
   have:=p pins s σ H D I h
   rw[mG] at this
   exact this),q⟩
 ·rintro σ' H' ⟨α',m',z⟩
  exact h2 α' z F σ' H' D m' r
theorem eQ {c:Prop}[Decidable c]{a b:List Stmt}(h1:c→SvS X α a E)(h2:¬c→SvS X α b E):SvS X α (if decide c=true then a else b) E:=by
 by_cases h:c
 ·rw[zD2 h];exact h1 h
 ·rw[zy5 h];exact h2 h
theorem xN {k:Bool}{a b:List Stmt}(h1:k=true→SvS X α a E)(h2:k=false→SvS X α b E):SvS X α (if k=true then a else b) E:=by
 cases k with
 |true=>exact h1 rfl
 |false=>exact h2 rfl
theorem bq {i j:Int}:Cmp rEq (.int i) (.int j) (decide (i=j)):=fun p H vx vy R rx ry h=>by
 cases rx.int_inv;cases ry.int_inv
 refine⟨rfl,?_⟩
 rw[show decide (V.int i=V.int j)=decide (i=j) by simp]
 exact h
theorem je {i j:Str}:Cmp rEq (.str i) (.str j) (decide (i=j)):=fun p H vx vy R rx ry h=>by
 cases rx.str_inv;cases ry.str_inv
 refine⟨rfl,?_⟩
 rw[show decide (V.str i=V.str j)=decide (i=j) by simp]
 exact h
theorem zf0 {op:CmpOp}{r:R2}(ho:OpR X (compareOp op) r)(hm:behindInMarks op b=false)(h:EvD X α a fun x=>EvD X α b fun y=>∃k,Cmp r x y k∧Q (.bool k)):EvD X α (.Compare a [op] [b] pos) Q:=fun F σ H R m k=>by
 refine⟨_,xR ho zq zq hm,?_⟩
 refine h F σ H _ m fun x vx H1 q1 t1 k1 r1=>?_
 have m1:=m.kz k1 t1
 refine q1 F σ H1 _ m1 fun y vy H2 q2 t2 k2 r2=>?_
 obtain⟨b,hc,q⟩:=q2
 exact hc _ H2 vx vy _ (r1.same (k2.gz m1.tp)) r2 (k _ _ H2 q t2 (k1.trans k2) (.bl b))
theorem zf2 {Q:Bool→Prop}(h:EvD X α a fun x=>EvD X α b fun y=>∃i j,x=.int i∧y=.int j∧Q (decide (i=j))):EvT X α (.Compare a [.Eq] [b] pos) Q:=
 vZ wN (zF _) (h.imp fun x h=>h.imp fun y ⟨i,j,e1,e2,q⟩=>⟨_,by subst e1 e2;exact bq,q⟩)
theorem zi9 {Q:Bool→Prop}(h:EvD X α a fun x=>EvD X α b fun y=>∃i j,x=.str i∧y=.str j∧Q (decide (i=j))):EvT X α (.Compare a [.Eq] [b] pos) Q:=
 vZ wN (zF _) (h.imp fun x h=>h.imp fun y ⟨i,j,e1,e2,q⟩=>⟨_,by subst e1 e2;exact je,q⟩)
theorem ae {p q:Bool}{Q:Bool→Prop}(ha:∀Q:Bool→Prop,Q p→EvT X α a Q)(hb:p=true→∀Q:Bool→Prop,Q q→EvW X α (.BoolOp .And (b::rest) pos) Q)(k:Q (p&&q)):EvW X α (.BoolOp .And (a::b::rest) pos) Q:=by
 refine eX (ha _ ?_)
 cases p with
 |true=>rw[if_pos rfl];exact hb rfl _ (by simpa using k)
 |false=>rw[if_neg (by decide)];simpa using k
end
structure NbT (mg:Str→Option Value):Prop where
 abs:mg "abs"=none
 list:mg "list"=none
 len:mg "len"=none
 range:mg "range"=none
 min:mg "min"=none
 max:mg "max"=none
 sorted:mg "sorted"=none
 isinstance:mg "isinstance"=none
 int:mg "int"=none
 bool:mg "bool"=none
 str:mg "str"=none
 tuple:mg "tuple"=none
 all:mg "all"=none
 any:mg "any"=none
 repr:mg "repr"=none
 zip:mg "zip"=none
 enumerate:mg "enumerate"=none
 reversed:mg "reversed"=none
 sum:mg "sum"=none
theorem sQ {X:Cx}{K:PySem.W.Frag}{es:List Expr}{k:Nat}{t:TGs}{n:Nat}{pos:Pos}(hK:X.K=K)(hc:X.calm=true)(h:PGs X es t)
  (hn:(assignEach es X.env).length=n:=by rfl) (hst:(assignEach es X.env).findIdx? (·.1)=none:=by rfl):PG X (.Tuple es k pos) (zi2 K n t):=by
 subst hK
 exact zh7 hc h hn hst
end L2
namespace SortA
open PySem PySem.W PyProof.Rows
def run {α:Type}(lt:Nat→Nat→Bool):KasT α→α
 |.ret a=>a
 |.ask i j k=>run lt (k (lt i j))
theorem run_bind {α β:Type}(lt:Nat→Nat→Bool)(f:α→KasT β):∀t:KasT α,run lt (t.bind f)=run lt (f (run lt t))
 |.ret _=>rfl
 |.ask i j k=>run_bind lt f (k (lt i j))
structure Ord (lt:Nat→Nat→Bool):Prop where
 irr:∀a,lt a a=false
 tr:∀a b c,lt b a=false→lt c b=false→lt c a=false
 asy:∀a b,lt a b=true→lt b a=false
abbrev g (p:Array Nat)(i:Nat):Nat:=p.getD i 0
def Up (lt:Nat→Nat→Bool)(p:Array Nat)(m:Nat):Prop:=∀i j,i≤j→j<m→lt (g p j) (g p i)=false
def Down (lt:Nat→Nat→Bool)(p:Array Nat)(m:Nat):Prop:=∀i j,i≤j→j<m→lt (g p i) (g p j)=false
theorem gQ {p q:Array Nat}{i j:Nat}(h:p[i]?=q[j]?):g p i=g q j:=by
 unfold g
 rw[Array.getD_eq_getD_getElem?,Array.getD_eq_getD_getElem?,h]
variable {lt:Nat→Nat→Bool}
theorem Up.succ (O:Ord lt){p:Array Nat}{m:Nat}(h:Up lt p m)(hm:0<m)(e:lt (g p m) (g p (m-1))=false):Up lt p (m+1):=fun i j hij hj=>by
 by_cases e1:j<m
 ·exact h i j hij e1
 ·have ej:j=m:=by omega
  subst ej
  by_cases e2:i=j
  ·subst e2;exact O.irr _
  ·exact O.tr _ _ _ (h i (j-1) (by omega) (by omega)) e
theorem Down.succ (O:Ord lt){p:Array Nat}{m:Nat}(h:Down lt p m)(hm:0<m)(e:lt (g p (m-1)) (g p m)=false):Down lt p (m+1):=fun i j hij hj=>by
 by_cases e1:j<m
 ·exact h i j hij e1
 ·have ej:j=m:=by omega
  subst ej
  by_cases e2:i=j
  ·subst e2;exact O.irr _
  ·exact O.tr _ _ _ e (h i (j-1) (by omega) (by omega))
theorem zg5 (O:Ord lt)(p:Array Nat):Up lt p 1:=fun i j hij hj=>by
 have e1:i=0:=by omega
 have e2:j=0:=by omega
 rw[e1,e2];exact O.irr _
theorem lV (O:Ord lt)(p:Array Nat):∀(f n:Nat),0<n→Up lt p n→n≤run lt (kas_asc p f n)∧run lt (kas_asc p f n)≤n+f∧Up lt p (run lt (kas_asc p f n))∧
  (run lt (kas_asc p f n)<n+f→lt (g p (run lt (kas_asc p f n))) (g p (run lt (kas_asc p f n)-1))=true)
 |0,n,_,h=>⟨zt9 _,zt9 _,h,fun z=>absurd z (zz4 _)⟩
 |f+1,n,hn,h=>by
  show n≤run lt ((fun c=>if c=true then KasT.ret n else kas_asc p f (n+1)) (lt (p.getD n 0) (p.getD (n-1) 0)))∧_
  cases e:lt (p.getD n 0) (p.getD (n-1) 0) with
  |true=>
   have er:run lt (kas_asc p (f+1) n)=n:=by
    show run lt ((fun c=>if c=true then KasT.ret n else kas_asc p f (n+1)) (lt (p.getD n 0) (p.getD (n-1) 0)))=n
    rw[e];rfl
   rw[er]
   exact⟨zt9 _,by omega,h,fun _=>e⟩
  |false=>
   have er:run lt (kas_asc p (f+1) n)=run lt (kas_asc p f (n+1)):=by
    show run lt ((fun c=>if c=true then KasT.ret n else kas_asc p f (n+1)) (lt (p.getD n 0) (p.getD (n-1) 0)))=_
    rw[e];rfl
   rw[er]
   obtain⟨a,b,c,d⟩:=lV O p f (n+1) (by omega) (h.succ O hn e)
   exact⟨by show n≤run lt (kas_asc p f (n+1));omega,by omega,c,fun z=>d (by omega)⟩
theorem uT {p:Array Nat}{i j:Nat}(hj:j≤p.size)(k:Nat):g (kas_rev p i j) k=if i≤k∧k<j then g p (i+j-1-k) else g p k:=by
 have h:=getElem?_mirror_all (xs:=p) (i:=i) hj k
 split
 ·rename_i c
  rw[if_pos c] at h
  exact gQ h
 ·rename_i c
  rw[if_neg c] at h
  exact gQ h
theorem xC (p:Array Nat)(i j:Nat):(kas_rev p i j).size=p.size:=mirror_size _ _ _ _
theorem yN (p:Array Nat)(i j:Nat):(kas_rev p i j).Perm p:=mirror_perm _ _ _ _
def Eqv (lt:Nat→Nat→Bool)(a b:Nat):Prop:=lt a b=false∧lt b a=false
theorem Down.eqv (O:Ord lt){p q:Array Nat}{n:Nat}(h:Down lt p n)(e:∀k,k<n→Eqv lt (g q k) (g p k)):Down lt q n:=fun i j hij hj=>
 O.tr _ _ _ (O.tr _ _ _ (e j hj).2 (h i j hij hj)) (e i (by omega)).1
def Last (lt:Nat→Nat→Bool)(p:Array Nat)(n q:Nat):Prop:=∀a b,n≤a+(q+1)→a<n→n≤b+(q+1)→b<n→lt (g p a) (g p b)=false
theorem rev_last (O:Ord lt){p:Array Nat}{n q:Nat}(hn:n≤p.size)(hq:q<n)(L:Last lt p n q):∀k,k<n→Eqv lt (g (kas_rev p (n-(q+1)) n) k) (g p k):=fun k hk=>by
 rw[uT hn]
 split
 ·rename_i c
  exact⟨L _ _ (by omega) (by omega) (by omega) hk,L _ _ (by omega) hk (by omega) (by omega)⟩
 ·exact⟨O.irr _,O.irr _⟩
theorem tF (O:Ord lt):∀(f:Nat) (p:Array Nat) (n q:Nat),q<n→n+f≤p.size→Down lt p n→Last lt p n q→
  ∃p' m q',run lt (kas_desc f p n q)=(p',m,q')∧n≤m∧m≤n+f∧p'.size=p.size∧p'.Perm p∧q'<m∧Down lt p' m∧Last lt p' m q'
 |0,p,n,q,hq,hs,h,L=>⟨p,n,q,rfl,zt9 _,zt9 _,rfl,zE5 _,hq,h,L⟩
 |f+1,p,n,q,hq,hs,h,L=>by
  cases e:lt (p.getD n 0) (p.getD (n-1) 0) with
  |true=>
   by_cases hq0:q > 0
   ·have er:run lt (kas_desc (f+1) p n q)=run lt (kas_desc f (kas_rev p (n-(q+1)) n) (n+1) 0):=by
     show run lt ((fun c=>if c=true then (if q > 0 then kas_desc f (kas_rev p (n-(q+1)) n) (n+1) 0 else kas_desc f p (n+1) 0)
      else .ask (p.getD (n-1) 0) (p.getD n 0) fun d=>if d=true then .ret (p,n,q) else kas_desc f p (n+1) (q+1)) (lt (p.getD n 0) (p.getD (n-1) 0)))=_
     rw[e]
     show run lt (if q > 0 then _ else _)=_
     rw[if_pos hq0]
    have ev:=rev_last O (by omega:n≤p.size) hq L
    have h1:=h.eqv O ev
    have hn:g (kas_rev p (n-(q+1)) n) n=g p n:=by rw[uT (by omega),if_neg (by omega)]
    have h2:Down lt (kas_rev p (n-(q+1)) n) (n+1):=h1.succ O (by omega) (by
     rw[hn]
     exact O.tr _ _ _ (O.asy _ _ e) (ev (n-1) (by omega)).1)
    obtain⟨p',m,q',a,b,c,d1,d2,d3,d4,d5⟩:=tF O f (kas_rev p (n-(q+1)) n) (n+1) 0 (by omega) (by rw[xC];omega) h2 (fun a b h1 h2 h3 h4=>by
     have e1:a=n:=by omega
     have e2:b=n:=by omega
     rw[e1,e2];exact O.irr _)
    exact⟨p',m,q',er.trans a,by omega,by omega,by rw[d1,xC],d2.trans (yN _ _ _),d3,d4,d5⟩
   ·have er:run lt (kas_desc (f+1) p n q)=run lt (kas_desc f p (n+1) 0):=by
     show run lt ((fun c=>if c=true then (if q > 0 then kas_desc f (kas_rev p (n-(q+1)) n) (n+1) 0 else kas_desc f p (n+1) 0)
      else .ask (p.getD (n-1) 0) (p.getD n 0) fun d=>if d=true then .ret (p,n,q) else kas_desc f p (n+1) (q+1)) (lt (p.getD n 0) (p.getD (n-1) 0)))=_
     rw[e]
     show run lt (if q > 0 then _ else _)=_
     rw[if_neg hq0]
    obtain⟨p',m,q',a,b,c,d1,d2,d3,d4,d5⟩:=tF O f p (n+1) 0 (by omega) (by omega) (h.succ O (by omega) (O.asy _ _ e)) (fun a b h1 h2 h3 h4=>by
     have e1:a=n:=by omega
     have e2:b=n:=by omega
     rw[e1,e2];exact O.irr _)
    exact⟨p',m,q',er.trans a,by omega,by omega,d1,d2,d3,d4,d5⟩
  |false=>
   cases e2:lt (p.getD (n-1) 0) (p.getD n 0) with
   |true=>
    have er:run lt (kas_desc (f+1) p n q)=(p,n,q):=by
     show run lt ((fun c=>if c=true then (if q > 0 then kas_desc f (kas_rev p (n-(q+1)) n) (n+1) 0 else kas_desc f p (n+1) 0)
      else .ask (p.getD (n-1) 0) (p.getD n 0) fun d=>if d=true then .ret (p,n,q) else kas_desc f p (n+1) (q+1)) (lt (p.getD n 0) (p.getD (n-1) 0)))=_
     rw[e]
     show run lt ((fun d=>if d=true then KasT.ret (p,n,q) else kas_desc f p (n+1) (q+1)) (lt (p.getD (n-1) 0) (p.getD n 0)))=_
     rw[e2];rfl
    exact⟨p,n,q,er,zt9 _,by omega,rfl,zE5 _,hq,h,L⟩
   |false=>
    have er:run lt (kas_desc (f+1) p n q)=run lt (kas_desc f p (n+1) (q+1)):=by
     show run lt ((fun c=>if c=true then (if q > 0 then kas_desc f (kas_rev p (n-(q+1)) n) (n+1) 0 else kas_desc f p (n+1) 0)
      else .ask (p.getD (n-1) 0) (p.getD n 0) fun d=>if d=true then .ret (p,n,q) else kas_desc f p (n+1) (q+1)) (lt (p.getD n 0) (p.getD (n-1) 0)))=_
     rw[e]
     show run lt ((fun d=>if d=true then KasT.ret (p,n,q) else kas_desc f p (n+1) (q+1)) (lt (p.getD (n-1) 0) (p.getD n 0)))=_
     rw[e2];rfl
    have Ln:Last lt p (n+1) (q+1):=fun a b h1 h2 h3 h4=>by
     have two:∀a,n+1≤a+(q+1+1)→a<n+1→Eqv lt (g p a) (g p (n-1)):=fun a x1 x2=>by
      by_cases ea:a=n
      ·rw[ea];exact⟨e,e2⟩
      ·exact⟨L a (n-1) (by omega) (by omega) (by omega) (by omega),L (n-1) a (by omega) (by omega) (by omega) (by omega)⟩
     exact O.tr _ _ _ (two b h3 h4).2 (two a h1 h2).1
    obtain⟨p',m,q',a,b,c,d1,d2,d3,d4,d5⟩:=tF O f p (n+1) (q+1) (by omega) (by omega) (h.succ O (by omega) e2) Ln
    exact⟨p',m,q',er.trans a,by omega,by omega,d1,d2,d3,d4,d5⟩
theorem zg1 {p:Array Nat}{n:Nat}(hn:n≤p.size)(h:Down lt p n):Up lt (kas_rev p 0 n) n:=fun i j hij hj=>by
 rw[uT hn,uT hn,if_pos (by omega),if_pos (by omega)]
 exact h _ _ (by omega) (by omega)
theorem ou (O:Ord lt){p:Array Nat}{n nrem:Nat}(h0:0<n)(hn:n≤nrem)(hs:nrem≤p.size)(h:Down lt p n):
  ∃p' m,run lt (kas_tail3 n nrem p)=(m,p')∧1≤m∧m≤nrem∧p'.size=p.size∧p'.Perm p∧Up lt p' m:=by
 obtain⟨a,b,c,_⟩:=lV O (kas_rev p 0 n) (nrem-n) n h0 (zg1 (by omega) h)
 refine⟨kas_rev p 0 n,run lt (kas_asc (kas_rev p 0 n) (nrem-n) n),?_,by omega,by omega,xC _ _ _,yN _ _ _,c⟩
 unfold kas_tail3
 rw[run_bind]
 rfl
theorem uU (O:Ord lt){p:Array Nat}{n nrem:Nat}(h0:0<n)(hn:n+1≤nrem)(hs:nrem≤p.size)(h:Down lt p (n+1)):
  ∃p' m,run lt (kas_descPart n nrem p)=(m,p')∧1≤m∧m≤nrem∧p'.size=p.size∧p'.Perm p∧Up lt p' m:=by
 obtain⟨p1,m1,q1,e,a1,a2,a3,a4,a5,a6,a7⟩:=tF O (nrem-(n+1)) p (n+1) 0 (by omega) (by omega) h (fun a b h1 h2 h3 h4=>by
  have e1:a=n:=by omega
  have e2:b=n:=by omega
  rw[e1,e2];exact O.irr _)
 unfold kas_descPart
 rw[run_bind,e]
 dsimp only
 split
 ·obtain⟨p',m,b1,b2,b3,b4,b5,b6⟩:=ou O (p:=kas_rev p1 (m1-(q1+1)) m1) (n:=m1) (nrem:=nrem) (by omega) (by omega) (by rw[xC];omega) (a6.eqv O (rev_last O (by omega) a5 a7))
  exact⟨p',m,b1,b2,b3,by rw[b4,xC,a3],(b5.trans (yN _ _ _)).trans a4,b6⟩
 ·obtain⟨p',m,b1,b2,b3,b4,b5,b6⟩:=ou O (p:=p1) (n:=m1) (nrem:=nrem) (by omega) (by omega) (by omega) a6
  exact⟨p',m,b1,b2,b3,by rw[b4,a3],b5.trans a4,b6⟩
theorem gu (O:Ord lt){p:Array Nat}{nrem:Nat}(h0:0<nrem)(hs:nrem≤p.size):
  ∃p' m,run lt (kas_count nrem p)=(m,p')∧1≤m∧m≤nrem∧p'.size=p.size∧p'.Perm p∧Up lt p' m:=by
 obtain⟨a,b,c,d⟩:=lV O p (nrem-1) 1 (by omega) (zg5 O p)
 unfold kas_count
 rw[run_bind]
 generalize run lt (kas_asc p (nrem-1) 1)=n at a b c d
 by_cases en:n=nrem
 ·rw[if_pos (by rw[en];simp)]
  exact⟨p,n,rfl,a,by omega,rfl,zE5 _,c⟩
 ·rw[if_neg (by simpa using en)]
  have hd:=d (by omega)
  by_cases h1:n > 1
  ·rw[if_pos h1]
   cases e:lt (p.getD 0 0) (p.getD (n-1) 0) with
   |true=>
    refine⟨p,n,?_,a,by omega,rfl,zE5 _,c⟩
    show run lt ((fun c=>if c=true then KasT.ret (n,p) else kas_descPart n nrem (kas_rev p 0 n)) (lt (p.getD 0 0) (p.getD (n-1) 0)))=_
    rw[e];rfl
   |false=>
    have all:∀k,k<n→Eqv lt (g p k) (g p 0):=fun k hk=>⟨c 0 k (by omega) hk,O.tr _ _ _ (c k (n-1) (by omega) (by omega)) e⟩
    have hD:Down lt (kas_rev p 0 n) (n+1):=by
     have h2:Down lt (kas_rev p 0 n) n:=fun i j hij hj=>by
      rw[uT (by omega),uT (by omega),if_pos (by omega),if_pos (by omega)]
      exact O.tr _ _ _ (all _ (by omega)).2 (all _ (by omega)).1
     refine h2.succ O (by omega) ?_
     rw[uT (by omega),uT (by omega),if_pos (by omega),if_neg (by omega)]
     have e0:lt (g p (n-1)) (g p n)=false:=O.asy _ _ hd
     exact O.tr _ _ _ e0 (O.tr _ _ _ (all (n-1) (by omega)).2 (all _ (by omega)).1)
    obtain⟨p',m,b1,b2,b3,b4,b5,b6⟩:=uU O (p:=kas_rev p 0 n) (n:=n) (nrem:=nrem) (by omega) (by omega) (by rw[xC];omega) hD
    refine⟨p',m,?_,b2,b3,by rw[b4,xC],b5.trans (yN _ _ _),b6⟩
    rw[←b1]
    show run lt ((fun c=>if c=true then KasT.ret (n,p) else kas_descPart n nrem (kas_rev p 0 n)) (lt (p.getD 0 0) (p.getD (n-1) 0)))=_
    rw[e];rfl
  ·rw[if_neg h1]
   have e1:n=1:=by omega
   subst e1
   refine uU O (by omega) (by omega) hs ?_
   have d1:Down lt p 1:=fun i j hij hj=>by
    have e1:i=0:=by omega
    have e2:j=0:=by omega
    rw[e1,e2];exact O.irr _
   exact d1.succ O (by omega) (O.asy _ _ hd)
theorem sH (O:Ord lt){p:Array Nat}{k:Nat}(U:Up lt p k):∀(f l r:Nat),r≤l+f→l≤r→r≤k→(∀i,i<l→lt (g p k) (g p i)=false)→(∀i,r≤i→i<k→lt (g p k) (g p i)=true)→
  run lt (kas_place p k f l r)≤k∧(∀i,i<run lt (kas_place p k f l r)→lt (g p k) (g p i)=false)∧(∀i,run lt (kas_place p k f l r)≤i→i<k→lt (g p k) (g p i)=true)
 |0,l,r,h1,h2,h3,ha,hb=>by
  show l≤k∧_
  exact⟨by omega,ha,fun i x y=>hb i (by have:l≤i:=x;omega) y⟩
 |f+1,l,r,h1,h2,h3,ha,hb=>by
  by_cases hlr:l≥r
  ·have er:run lt (kas_place p k (f+1) l r)=l:=by
    show run lt (if l≥r then _ else _)=_
    rw[if_pos hlr];rfl
   rw[er]
   exact⟨by omega,ha,fun i x y=>hb i (by omega) y⟩
  ·cases e:lt (p.getD k 0) (p.getD ((l+r) / 2) 0) with
   |true=>
    have er:run lt (kas_place p k (f+1) l r)=run lt (kas_place p k f l ((l+r) / 2)):=by
     show run lt (if l≥r then _ else _)=_
     rw[if_neg hlr]
     show run lt ((fun c=>if c=true then kas_place p k f l ((l+r) / 2) else kas_place p k f ((l+r) / 2+1) r) (lt (p.getD k 0) (p.getD ((l+r) / 2) 0)))=_
     rw[e];rfl
    rw[er]
    refine sH O U f l ((l+r) / 2) (by omega) (by omega) (by omega) ha fun i x y=>?_
    cases e3:lt (g p k) (g p i) with
    |true=>rfl
    |false=>
     have e4:lt (g p k) (g p ((l+r) / 2))=false:=O.tr _ _ _ (U ((l+r) / 2) i x y) e3
     have e5:lt (g p k) (g p ((l+r) / 2))=true:=e
     rw[e4] at e5;cases e5
   |false=>
    have er:run lt (kas_place p k (f+1) l r)=run lt (kas_place p k f ((l+r) / 2+1) r):=by
     show run lt (if l≥r then _ else _)=_
     rw[if_neg hlr]
     show run lt ((fun c=>if c=true then kas_place p k f l ((l+r) / 2) else kas_place p k f ((l+r) / 2+1) r) (lt (p.getD k 0) (p.getD ((l+r) / 2) 0)))=_
     rw[e];rfl
    rw[er]
    exact sH O U f ((l+r) / 2+1) r (by omega) (by omega) h3 (fun i hi=>O.tr _ _ _ (U i ((l+r) / 2) (by omega) (by omega)) e) hb
theorem iD (O:Ord lt){p:Array Nat}{k l:Nat}(hk:k<p.size)(hl:l≤k)(U:Up lt p k)(ha:∀i,i<l→lt (g p k) (g p i)=false)(hb:∀i,l≤i→i<k→lt (g p k) (g p i)=true):Up lt (bubble p k (k-l)) (k+1):=by
 have gb:∀i,g (bubble p k (k-l)) i=if i=l then g p k else if l<i∧i≤k then g p (i-1) else g p i:=fun i=>by
  have h:=getElem?_bubble hk (k-l) (by omega) i
  have el:k-(k-l)=l:=by omega
  rw[el] at h
  by_cases c:i=l
  ·rw[if_pos c] at h ⊢;exact gQ h
  ·rw[if_neg c] at h ⊢
   by_cases c2:l<i∧i≤k
   ·rw[if_pos c2] at h ⊢;exact gQ h
   ·rw[if_neg c2] at h ⊢;exact gQ h
 intro i j hij hj
 have gl:g (bubble p k (k-l)) l=g p k:=by rw[gb,if_pos rfl]
 have gm:∀i,l<i→i≤k→g (bubble p k (k-l)) i=g p (i-1):=fun i x y=>by rw[gb,if_neg (by omega),if_pos ⟨x,y⟩]
 have gs:∀i,i<l→g (bubble p k (k-l)) i=g p i:=fun i x=>by rw[gb,if_neg (by omega),if_neg (by omega)]
 rcases Nat.lt_trichotomy i l with hi|hi|hi
 ·rw[gs i hi]
  rcases Nat.lt_trichotomy j l with h|h|h
  ·rw[gs j h];exact U _ _ (by omega) (by omega)
  ·rw[h,gl];exact ha i hi
  ·rw[gm j h (by omega)];exact U _ _ (by omega) (by omega)
 ·rw[hi,gl]
  rcases Nat.lt_trichotomy j l with h|h|h
  ·omega
  ·rw[h,gl];exact O.irr _
  ·rw[gm j h (by omega)];exact O.asy _ _ (hb (j-1) (by omega) (by omega))
 ·rw[gm i hi (by omega),gm j (by omega) (by omega)]
  exact U _ _ (by omega) (by omega)
theorem fY (O:Ord lt):∀(f:Nat) (p:Array Nat) (k:Nat),0<k→k+f≤p.size→Up lt p k→(run lt (kas_bin f p k)).size=p.size∧(run lt (kas_bin f p k)).Perm p∧Up lt (run lt (kas_bin f p k)) (k+f)
 |0,p,k,_,_,U=>⟨rfl,zE5 _,U⟩
 |f+1,p,k,hk,hs,U=>by
  obtain⟨a,b,c⟩:=sH O U k 0 k (by omega) (by omega) (by omega) (fun i hi=>by omega) (fun i x y=>by omega)
  have er:run lt (kas_bin (f+1) p k)=run lt (kas_bin f (bubble p k (k-run lt (kas_place p k k 0 k))) (k+1)):=by
   show run lt ((kas_place p k k 0 k).bind _)=_
   rw[run_bind]
  rw[er]
  obtain⟨x,y,z⟩:=fY O f (bubble p k (k-run lt (kas_place p k k 0 k))) (k+1) (by omega) (by rw[bubble_size];omega) (iD O (by omega) a U b c)
  have e:k+(f+1)=k+1+f:=by omega
  rw[e]
  exact⟨by rw[x,bubble_size],y.trans (bubble_perm _ _ _),z⟩
theorem bb (O:Ord lt){n:Nat}(h:0<n):(run lt (kas_sort n)).size=n∧(run lt (kas_sort n)).Perm (List.range n).toArray∧Up lt (run lt (kas_sort n)) n:=by
 obtain⟨p,m,e,a,b,c,d,u⟩:=gu O (p:=(List.range n).toArray) (nrem:=n) h (by simp)
 unfold kas_sort
 rw[run_bind,e]
 dsimp only
 have hs:p.size=n:=by rw[c];simp
 by_cases hm:m<n
 ·rw[if_pos hm]
  have em:max m 1=m:=by omega
  rw[em]
  obtain⟨x,y,z⟩:=fY O (n-m) p m (by omega) (by omega) u
  refine⟨by rw[x,hs],y.trans d,?_⟩
  have e:m+(n-m)=n:=by omega
  rw[e] at z
  exact z
 ·rw[if_neg hm]
  have e:m=n:=by omega
  subst e
  exact⟨hs,d,u⟩
end SortA
namespace SortA
open PySem PySem.W PyProof.Rows
def xG {α:Type}(n:Nat)(P:α→Prop):KasT α→Prop
 |.ret a=>P a
 |.ask i j k=>i<n∧j<n∧∀b,xG n P (k b)
theorem xG.bind {α β:Type}{n:Nat}{P:α→Prop}{P':β→Prop}{f:α→KasT β}(h2:∀a,P a→xG n P' (f a)):∀t:KasT α,xG n P t→xG n P' (t.bind f)
 |.ret a,h=>h2 a h
 |.ask i j k,⟨a,b,c⟩=>⟨a,b,fun x=>xG.bind h2 (k x) (c x)⟩
def Bd (n:Nat)(p:Array Nat):Prop:=∀x∈p,x<n
theorem Bd.get {n:Nat}{p:Array Nat}(h:Bd n p)(hn:0<n)(i:Nat):p.getD i 0<n:=by
 by_cases hi:i<p.size
 ·have e:p.getD i 0=p[i]:=by simp[Array.getD,hi]
  rw[e];exact h _ (Array.getElem_mem hi)
 ·have e:p.getD i 0=0:=by simp[Array.getD,hi]
  rw[e];exact hn
theorem Bd.perm {n:Nat}{p q:Array Nat}(h:Bd n p)(e:q.Perm p):Bd n q:=fun x hx=>h x (e.mem_iff.mp hx)
theorem sr {n:Nat}{p:Array Nat}(B:Bd n p)(hn:0<n):∀f k,xG n (fun _=>True) (kas_asc p f k)
 |0,_=>trivial
 |f+1,k=>⟨B.get hn _,B.get hn _,fun b=>by
  cases b with
  |true=>exact trivial
  |false=>exact sr B hn f (k+1)⟩
theorem vC {n:Nat}(hn:0<n):∀f (p:Array Nat) k q,Bd n p→xG n (fun r:Array Nat×Nat×Nat=>Bd n r.1) (kas_desc f p k q)
 |0,_,_,_,B=>B
 |f+1,p,k,q,B=>⟨B.get hn _,B.get hn _,fun b=>by
  cases b with
  |true=>
   show xG n _ (if q > 0 then _ else _)
   split
   ·exact vC hn f _ _ _ (B.perm (yN _ _ _))
   ·exact vC hn f _ _ _ B
  |false=>
   refine⟨B.get hn _,B.get hn _,fun b=>?_⟩
   cases b with
   |true=>exact B
   |false=>exact vC hn f _ _ _ B⟩
theorem sE {n:Nat}{p:Array Nat}(B:Bd n p)(hn:0<n)(m r:Nat):xG n (fun r:Nat×Array Nat=>Bd n r.2) (kas_tail3 m r p):=by
 unfold kas_tail3
 refine xG.bind (P:=fun _=>True) (fun a _=>?_) _ (sr (B.perm (yN _ _ _)) hn _ _)
 exact B.perm (yN _ _ _)
theorem vL {n:Nat}{p:Array Nat}(B:Bd n p)(hn:0<n)(m r:Nat):xG n (fun r:Nat×Array Nat=>Bd n r.2) (kas_descPart m r p):=
 xG.bind (fun a ha=>by
  split
  ·exact sE (Bd.perm ha (yN _ _ _)) hn _ _
  ·exact sE ha hn _ _) _ (vC hn _ _ _ _ B)
theorem lS {n:Nat}{p:Array Nat}(B:Bd n p)(hn:0<n)(r:Nat):xG n (fun r:Nat×Array Nat=>Bd n r.2) (kas_count r p):=
 xG.bind (fun a _=>by
  split
  ·exact B
  ·split
   ·refine⟨B.get hn _,B.get hn _,fun b=>?_⟩
    cases b with
    |true=>exact B
    |false=>exact vL (B.perm (yN _ _ _)) hn _ _
   ·exact vL B hn _ _) _ (sr B hn _ _)
theorem ub {n:Nat}{p:Array Nat}(B:Bd n p)(hn:0<n)(k:Nat):∀f l r,xG n (fun _=>True) (kas_place p k f l r)
 |0,_,_=>trivial
 |f+1,l,r=>by
  show xG n _ (if l≥r then _ else _)
  split
  ·exact trivial
  ·refine⟨B.get hn _,B.get hn _,fun b=>?_⟩
   cases b with
   |true=>exact ub B hn k f _ _
   |false=>exact ub B hn k f _ _
theorem nM {n:Nat}(hn:0<n):∀f (p:Array Nat) k,Bd n p→xG n (fun _=>True) (kas_bin f p k)
 |0,_,_,_=>trivial
 |f+1,p,k,B=>xG.bind (fun l _=>nM hn f _ _ (B.perm (bubble_perm _ _ _))) _ (ub B hn k _ _ _)
theorem iX {n:Nat}(hn:0<n):xG n (fun _=>True) (kas_sort n):=
 xG.bind (fun a ha=>by
  split
  ·exact nM hn _ _ _ ha
  ·exact trivial) _ (lS (fun x hx=>by simpa using hx) hn n)
theorem wp_run {α:Type}{n:Nat}{P:α→Prop}{cmp:Nat→Nat→(Bool→Shared→Prop)→Shared→Prop}{lt:Nat→Nat→Bool}{Q:α→Shared→Prop}{s:Shared}(hc:∀i j C,i<n→j<n→C (lt i j) s→cmp i j C s):
  ∀t:KasT α,xG n P t→Q (run lt t) s→t.kasWp cmp Q s
 |.ret _,_,h=>h
 |.ask i j k,⟨a,b,c⟩,h=>hc i j _ a b (wp_run hc (k (lt i j)) (c _) h)
def lx (p q:Int×Int):Bool:=decide (p.1<q.1∨(p.1=q.1∧p.2<q.2))
def at2 (ps:List (Int×Int))(i:Nat):Int×Int:=ps.getD i (0,0)
theorem zd9 (ps:List (Int×Int)):Ord fun i j=>lx (at2 ps i) (at2 ps j) where
 irr:=fun a=>by simp[lx]
 tr:=fun a b c=>by
  unfold lx
  generalize at2 ps a=x;generalize at2 ps b=y;generalize at2 ps c=z
  simp only[zF4]
  omega
 asy:=fun a b=>by
  unfold lx
  generalize at2 ps a=x;generalize at2 ps b=y
  simp only[zF4,zx2]
  omega
theorem mf (ps:List (Int×Int))(h:0<ps.length):∃ix:List Nat,run (fun i j=>lx (at2 ps i) (at2 ps j)) (kas_sort ps.length)=ix.toArray∧ix.length=ps.length∧(∀i∈ix,i<ps.length)∧(ix.map (at2 ps)).Perm ps∧(ix.map (at2 ps)).Pairwise (fun p q=>lx q p=false):=by
 obtain⟨a,b,c⟩:=bb (zd9 ps) h
 generalize run (fun i j=>lx (at2 ps i) (at2 ps j)) (kas_sort ps.length)=r at a b c
 have e:(List.range ps.length).map (at2 ps)=ps:=by
  apply List.ext_getElem
  ·simp
  ·intro i h1 h2
   simp[at2,h2]
 have pl:r.toList.Perm (List.range ps.length):=by
  have:=Array.perm_iff_toList_perm.mp b
  simpa using this
 refine⟨r.toList,by simp,by simpa using a,fun i hi=>by simpa using pl.mem_iff.mp hi,?_,?_⟩
 ·have:=pl.map (at2 ps)
  rw[e] at this
  exact this
 ·rw[List.pairwise_map,zE6]
  intro i j hi hj hij
  have h1:j<r.size:=by simpa using hj
  have:=c i j (by omega) (by rw[←a];exact h1)
  have ei:g r i=r.toList[i]:=by
   have:i<r.size:=by omega
   simp[g,Array.getD,this]
  have ej:g r j=r.toList[j]:=by simp[g,Array.getD,h1]
  rw[ei,ej] at this
  exact this
end SortA
namespace L2
open PySem PySem.Spec PySem.Calls PySem.W PyProof.Rows SortA
section
variable {prog:Program}{w:World}{A:Around}{E:Value→Shared→Prop}{s:Shared}
def Prs (h:Heap):List Value→List (Int×Int)→Prop
 |[],[]=>True
 |v::vs,p::ps=>(∃a o t u n,v=.ref a∧h.get? a=some o∧o.cls=.type "tuple"∧o.data=.seq #[.int p.1 t,.int p.2 u] n)∧Prs h vs ps
 |_,_=>False
theorem Prs.len {h:Heap}:∀{vs:List Value} {ps:List (Int×Int)},Prs h vs ps→vs.length=ps.length
 |[],[],_=>rfl
 |[],_::_,h=>h.elim
 |_::_,[],h=>h.elim
 |_::_,_::_,⟨_,h⟩=>by simp[Prs.len h]
theorem Prs.at {h:Heap}:∀{vs:List Value} {ps:List (Int×Int)} (i:Nat),Prs h vs ps→i<ps.length→∃a o t u n,vs.getD i Value.none=.ref a∧h.get? a=some o∧o.cls=.type "tuple"∧o.data=.seq #[.int (at2 ps i).1 t,.int (at2 ps i).2 u] n
 |[],[],_,_,hi=>by simp at hi
 |[],_::_,_,h,_=>h.elim
 |_::_,[],_,h,_=>h.elim
 |_::_,_::_,0,⟨x,_⟩,_=>x
 |_::_,_::_,i+1,⟨_,r⟩,hi=>by
  obtain⟨a,o,t,u,n,e,q⟩:=Prs.at i r (by simpa using hi)
  exact⟨a,o,t,u,n,by simpa using e,q⟩
theorem Prs.tups {h:Heap}:∀{vs:List Value} {ps:List (Int×Int)},Prs h vs ps→∃fs:List Value,KatTups h vs fs∧fs.length=ps.length∧∀v∈fs,∃i t,v=.int i t
 |[],[],_=>⟨[],trivial,rfl,fun _ h=>by simp at h⟩
 |[],_::_,h=>h.elim
 |_::_,[],h=>h.elim
 |_::_,p::_,⟨⟨a,o,t,u,n,e,ho,hc,hd⟩,r⟩=>by
  obtain⟨fs,x,y,z⟩:=Prs.tups r
  subst e
  refine⟨.int p.1 t::fs,KatTups.cons ho hc hd (by simp) x,by simp[y],fun v hv=>?_⟩
  rcases zu1.mp hv with rfl|hv
  ·exact⟨_,_,rfl⟩
  ·exact z v hv
theorem gZ {a b:Addr}{oa ob:Obj}{p q:Int×Int}{t u t' u':Tok}{n k:Nat}{Q:Bool→Shared→Prop}(ha:s.heap.get? a=some oa)(da:oa.data=.seq #[.int p.1 t,.int p.2 u] n)(hb:s.heap.get? b=some ob)(db:ob.data=.seq #[.int q.1 t',.int q.2 u'] k)
  (h:Q (lx p q) s):wpAny (model prog w) A (keyLt' (tuples' true) (.ref a) (.ref b)) Q E s:=by
 refine kat_lt ha da hb db (kat_cons (wpAny_eqBool_int ?_))
 by_cases e:p.1=q.1
 ·have e1:(p.1 == q.1)=true:=by simp[e]
  rw[e1]
  refine kat_yes (kat_cons (wpAny_eqBool_int ?_))
  by_cases e2:p.2=q.2
  ·have e3:(p.2 == q.2)=true:=by simp[e2]
   rw[e3]
   refine kat_yes (kat_nil ?_)
   have:lx p q=false:=by simp[lx,e,e2]
   rw[this] at h
   simpa using h
  ·have e3:(p.2 == q.2)=false:=by simp[e2]
   rw[e3]
   refine kat_no (kat_one _ _ (wpAny_lt_int ?_))
   have:lx p q=decide (p.2<q.2):=by simp[lx,e]
   rw[this] at h
   exact h
 ·have e1:(p.1 == q.1)=false:=by simp[e]
  rw[e1]
  refine kat_no (oneLt_int ?_)
  have:lx p q=decide (p.1<q.1):=by simp[lx,e]
  rw[this] at h
  exact h
theorem me {vs:List Value}{ps:List (Int×Int)}(h2:2≤vs.length)(P:Prs s.heap vs ps){R:Array Nat→Shared→Prop}(hr:∀ix:List Nat,ix.length=ps.length→(∀i∈ix,i<ps.length)→(ix.map (at2 ps)).Perm ps→(ix.map (at2 ps)).Pairwise (fun p q=>lx q p=false)→R ix.toArray s):
  wpAny (model prog w) A (keyKind' vs.toArray) (fun κ s'=>(kas_sort vs.length).kasWp (kas_ask prog w A κ vs) R s') (fun _ _=>False) s:=by
 obtain⟨fs,t,hl,hi⟩:=P.tups
 have hlen:=P.len
 refine kat_kind (T:=.type "int") t (by omega) (fun v hv=>?_) (by decide) ?_
 ·obtain⟨i,t,rfl⟩:=hi v hv
  exact .now
 ·have e:(Value.type "int" != Value.type "tuple")=true:=by decide
  rw[e]
  obtain⟨ix,e1,e2,e3,e4,e5⟩:=mf ps (by omega)
  rw[hlen]
  refine wp_run (n:=ps.length) (P:=fun _=>True) (lt:=fun i j=>lx (at2 ps i) (at2 ps j)) (fun i j C hi hj hC=>?_) _ (iX (by omega)) ?_
  ·obtain⟨a,o,t,u,n,ea,ha,_,da⟩:=P.at i hi
   obtain⟨b,o',t',u',n',eb,hb,_,db⟩:=P.at j hj
   unfold kas_ask
   rw[ea,eb]
   exact gZ ha da hb db hC
  ·rw[e1];exact hr ix e2 e3 e4 e5
def Srt (vs:List Value)(ps:List (Int×Int))(out:List Value):Prop:=
 ∃ix:List Nat,out=ix.map (fun i=>vs.getD i Value.none)∧ix.length=ps.length∧(∀i∈ix,i<ps.length)∧(ix.map (at2 ps)).Perm ps∧(ix.map (at2 ps)).Pairwise (fun p q=>lx q p=false)
theorem Srt.len {vs:List Value}{ps:List (Int×Int)}{out:List Value}(h:Srt vs ps out):out.length=ps.length:=by
 obtain⟨ix,rfl,e,_⟩:=h
 simp[e]
end
inductive PrV (H:Hp):List V→List (Int×Int)→Prop where
 |nil:PrV H [] []
 |cons {a:Addr} {xs:List V} {p:Int×Int} {ps:List (Int×Int)}:H a=some (.tup [.int p.1,.int p.2])→PrV H xs ps→PrV H (.ref a::xs) (p::ps)
section
variable {X:Cx}{pins:List (Addr×Obj)}{σ:St}{H H':Hp}{s:Shared}
theorem PrV.len {xs:List V}{ps:List (Int×Int)}(h:PrV H xs ps):xs.length=ps.length:=by
 induction h with
 |nil=>rfl
 |cons _ _ ih=>simp[ih]
theorem PrV.keep {xs:List V}{ps:List (Int×Int)}(k:∀a p q,H a=some (.tup [.int p,.int q])→H' a=some (.tup [.int p,.int q]))(h:PrV H xs ps):PrV H' xs ps:=by
 induction h with
 |nil=>exact .nil
 |cons e _ ih=>exact .cons (k _ _ _ e) ih
theorem PrV.app {xs ys:List V}{ps qs:List (Int×Int)}(h:PrV H xs ps)(h':PrV H ys qs):PrV H (xs++ys) (ps++qs):=by
 induction h with
 |nil=>exact h'
 |cons e _ ih=>exact .cons e ih
theorem PrV.prs (I:Inv X pins σ H s):∀{xs:List V} {ps:List (Int×Int)} {us:List Value},PrV H xs ps→Vals xs us→Prs s.heap us ps:=by
 intro xs ps us h
 induction h generalizing us with
 |nil=>intro r;cases r;exact trivial
 |@cons a xs p ps e _ ih=>
  intro r
  cases r with
  |cons r rr=>
   cases (show _=Value.ref a from r)
   obtain⟨_,its,vi,o,ho,hc,n,hd⟩:=(show yf X.prog X.w H s.heap a (.tup [.int p.1,.int p.2]) from I.hok a _ e)
   obtain⟨u,v,rfl,⟨t,rfl⟩,⟨t',rfl⟩⟩:=Vals.two vi
   exact⟨⟨a,o,t,t',n,rfl,ho,hc,hd⟩,ih rr⟩
theorem nk {xs:List V}{us:List Value}(r:Vals xs us):∀i x,xs[i]?=some x→RelV x (us.getD i Value.none):=by
 induction r with
 |nil=>intro i x h;simp at h
 |cons e _ ih=>
  intro i x h
  cases i with
  |zero=>have h':=zw0 (by simpa using h);subst h';exact e
  |succ i=>exact ih i x (by simpa using h)
end
end L2
namespace Days
end Days
namespace L2
open PySem PySem.Spec PyProof.Rows Days
section
variable {X:Cx}{α:Ev}{e a b c tg:Expr}{pos p:Pos}{Q:PyData→Prop}{E:xi}{sts:List Stmt}
end
theorem fZ (ds:List PyData):ds.filter (fun _=>true)=ds:=List.filter_eq_self.mpr fun _ _=>rfl
section
variable {X:Cx}{α:Ev}{tg:Expr}{pos p:Pos}{E:xi}{sts body:List Stmt}
end
def isNone :PyData→Bool
 |.none=>true
 |_=>false
theorem DV.non_iff {H:Hp}{x:V}{d:PyData}(h:DV H x d):decide (x=.non)=isNone d:=by
 cases h<;>simp[isNone]
abbrev eqS (d:PyData)(s:Str):Bool:=PyData.eqv d (.str s)
abbrev vm :PyData→Bool:=yk 0 1000000000000
def uA :PyData→Bool
 |.tuple [.int m,f]=>yk 2 14 (.int m)&&yk 1 (m-1) f
 |_=>false
def zD (w v:PyData):Bool:=
 if eqS w "price"=true then isNone v||vm v
 else if (eqS w "come"||eqS w "go")=true then isBool v
 else if (eqS w "least"||eqS w "most")=true then yk 1 14 v
 else if eqS w "deal"=true then isNone v||uA v
 else eqS w "fee"&&vm v
def yT :PyData→Bool
 |.tuple [w,a,b,v]=>yp (.tuple [a,b])&&zD w v
 |_=>false
abbrev words :List Str:=["price","come","go","least","most","deal","fee"]
theorem lO {x:Str}(h:(PyData.str x).canLay0=true):SeqAt.shaped (.str x)=true:=by
 unfold SeqAt.shaped
 rw[h]
 rfl
def kA :Sp:=fun vs H Q _=>∃x y dw dv,vs=[x,y]∧DV H x dw∧SeqAt.shaped dw=true∧DV H y dv∧Q (.bl (zD dw dv)) H
def eO :Sp:=fun vs H Q _=>∃x d,vs=[x]∧DV H x d∧SeqAt.shaped d=true∧∀H',zy H H'→Q (.bl (yT d)) H'
theorem qD {ds:List PyData}(h:SeqAt.shaped (.tuple ds)=true):∀d∈ds,SeqAt.shaped d=true:=by
 unfold SeqAt.shaped at h
 rw[zv6,zx2] at h
 obtain⟨h1,h2⟩:=h
 simp only[PyData.canLay0] at h1
 simp only[PyData.depth] at h2
 have key:∀(ds:List PyData),PyData.canLayAll0 ds=true→PyData.depthAll ds+1≤64→∀d∈ds,SeqAt.shaped d=true:=by
  intro ds
  induction ds with
  |nil=>intro _ _ d hd;simp at hd
  |cons e r ih=>
   intro a b d hd
   simp only[PyData.canLayAll0,zv6] at a
   simp only[PyData.depthAll] at b
   rcases zu1.mp hd with z|z
   ·subst z
    unfold SeqAt.shaped
    rw[a.1,zz5,zx2]
    omega
   ·exact ih a.2 (by omega) d z
 exact key ds h1 (by omega)
def wV (x y z:V):List (Str×V):=xH "worth" z (xH "last" y (xH "first" x []))
theorem de :¬(("worth":Str)="last"):=by decide +kernel
theorem cE :¬(("worth":Str)="first"):=by decide +kernel
theorem dA :¬(("last":Str)="first"):=by decide +kernel
theorem sk (x y z:V):(wV x y z).lookup ("first":Str)=some x:=by
 unfold wV
 rw[zU,if_neg (fun e=>cE e.symm),zU,if_neg (fun e=>dA e.symm),zU,if_pos rfl]
theorem qA (x y z:V):(wV x y z).lookup ("last":Str)=some y:=by
 unfold wV
 rw[zU,if_neg (fun e=>de e.symm),zU,if_pos rfl]
theorem lR (x y z:V):(wV x y z).lookup ("worth":Str)=some z:=by
 unfold wV
 rw[zU,if_pos rfl]
theorem cN (x y z:V){m:Str}(h1:¬m="worth")(h2:¬m="last")(h3:¬m="first"):(wV x y z).lookup m=none:=by
 unfold wV
 rw[zU,if_neg h1,zU,if_neg h2,zU,if_neg h3]
 rfl
structure Cs where
 price:Addr
 come:Addr
 go:Addr
 least:Addr
 most:Addr
 deal:Addr
 fee:Addr
def Cs.of (c:Cs)(w:Str):Addr:=
 if w="price" then c.price else if w="come" then c.come else if w="go" then c.go else if w="least" then c.least else if w="most" then c.most else if w="deal" then c.deal else c.fee
structure xY (K:PySem.W.Frag)(C fI fT fE fW:Addr):Prop where
 cl:Cls K C
 nf:yH K C "first"
 nl:yH K C "last"
 nw:yH K C "worth"
 makes:Mk K C fI
 told:Meth K C "told" fT
 tells:Meth K C "tells" fE
 word:Meth K C "word" fW
def zc8 (C:Addr):Sp:=fun vs H Q _=>∃(p dx:Addr) (x y z:V),vs=[.ref p,x,y,z]∧H p=some (.ins C dx [])∧Q .non (upd H p (.ins C dx (wV x y z)))
def wG (w:Str):Sp:=fun vs H Q _=>∃p,vs=[.ref p]∧Q (.str w) H
def fu (C:Addr)(w:Str):Sp:=fun vs H Q _=>∃(p dx:Addr) (x y z:V),vs=[.ref p]∧H p=some (.ins C dx (wV x y z))∧∀q,H q=none→Q (.ref q) (upd H q (.tup [.str w,x,y,z]))
def ky (C:Addr):Sp:=fun vs H Q _=>∃(p dx:Addr) (a b day:Int) (z:V),vs=[.ref p,.int day]∧H p=some (.ins C dx (wV (.int a) (.int b) z))∧Q (.bl (decide (a≤day)&&decide (day≤b))) H
def cD (cs:Cs):Sp:=fun vs H Q _=>∃(w:Str) (x y z:V),vs=[.str w,x,y,z]∧w∈words∧∀(p dx:Addr) (H':Hp),H' p=some (.ins (cs.of w) dx (wV x y z))→H p=none→zy H H'→Q (.ref p) H'
def oP (cs:Cs):Sp:=fun vs H Q _=>∃x d,vs=[x]∧DV H x d∧SeqAt.shaped d=true∧(yT d=false→∀H',zy H H'→Q .non H')∧
 (∀(r:Addr) (w:Str) (x1 x2 x3:V) (p dx:Addr) (H':Hp),x=.ref r→yT d=true→w∈words→H r=some (.tup [.str w,x1,x2,x3])→H' p=some (.ins (cs.of w) dx (wV x1 x2 x3))→H p=none→zy H H'→Q (.ref p) H')
theorem wJ {d:PyData}{s:Str}(h:eqS d s=true):d=.str s:=by
 cases d with
 |str x=>
  have h':(x == s)=true:=h
  rw[eq_of_beq h']
 |_=>simp[PyData.eqv] at h
theorem nj {w v:PyData}(h:zD w v=true):∃s∈words,w=.str s:=by
 unfold zD at h
 split at h
 ·rename_i e;exact⟨"price",by simp[words],wJ e⟩
 ·split at h
  ·rename_i e
   rcases (zC6 _ _).mp e with e|e
   ·exact⟨"come",by simp[words],wJ e⟩
   ·exact⟨"go",by simp[words],wJ e⟩
  ·split at h
   ·rename_i e
    rcases (zC6 _ _).mp e with e|e
    ·exact⟨"least",by simp[words],wJ e⟩
    ·exact⟨"most",by simp[words],wJ e⟩
   ·split at h
    ·rename_i e;exact⟨"deal",by simp[words],wJ e⟩
    ·rw[zv6] at h;exact⟨"fee",by simp[words],wJ h.1⟩
theorem xS {d:PyData}(h:yT d=true):∃(s:Str) (a b v:PyData),s∈words∧d=.tuple [.str s,a,b,v]:=by
 unfold yT at h
 split at h
 ·rename_i w a b v
  rw[zv6] at h
  obtain⟨s,hs,rfl⟩:=nj h.2
  exact⟨s,a,b,v,hs,rfl⟩
 ·cases h
section
variable {X:Cx}
end
abbrev va (C:Addr)(fs:List (PyData×PyData)):PyData:=.dict ((.int (C:Nat),.none)::fs)
def um :List (PyData×PyData)→Str→Option PyData
 |[],_=>none
 |(.str g,d)::r,f=>if f=g then some d else um r f
 |_::r,f=>um r f
theorem AVf.get {H:Hp}:∀{fs:List (Str×V)} {ds:List (PyData×PyData)} {f:Str} {d:PyData},AVf H fs ds→um ds f=some d→∃v,fs.lookup f=some v∧AV H v d
 |_,_,f,d,.nil,e=>by cases e
 |_,_,f,d,.cons (f:=g) h r,e=>by
  rw[zx0]
  unfold um at e
  by_cases z:f=g
  ·subst z
   rw[if_pos rfl] at e
   cases e
   exact⟨_,by simp,h⟩
  ·rw[if_neg z] at e
   have z':(f == g)=false:=by simpa using z
   rw[z']
   exact AVf.get r e
theorem AVf.none {H:Hp}:∀{fs:List (Str×V)} {ds:List (PyData×PyData)} {f:Str},AVf H fs ds→um ds f=Option.none→fs.lookup f=Option.none
 |_,_,f,.nil,e=>rfl
 |_,_,f,.cons (f:=g) h r,e=>by
  rw[zx0]
  unfold um at e
  by_cases z:f=g
  ·subst z
   rw[if_pos rfl] at e
   cases e
  ·rw[if_neg z] at e
   have z':(f == g)=false:=by simpa using z
   rw[z']
   exact AVf.none r e
theorem AV.ins_inv {H:Hp}{v:V}{C:Addr}{ds:List (PyData×PyData)}(h:AV H v (va C ds)):∃a dx fs,v=.ref a∧H a=some (.ins C dx fs)∧AVf H fs ds:=by
 generalize e:va C ds=d at h
 cases h with
 |@ins a C' dx fs ds' h1 h2=>
  injection e with e
  injection e with e1 e2
  have e3:(C:Int)=(C':Int):=by
   have:=congrArg Prod.fst e1
   injection this
  have e4:C=C':=Int.ofNat.inj e3
  subst e4 e2
  exact⟨a,dx,fs,rfl,h1,h2⟩
 |_=>cases e
section
variable {X:Cx}{α:Ev}{o e:Expr}{es:List Expr}{pos apos p:Pos}{Q:PyData→Prop}{C:Addr}{f m:Str}
theorem lW (c:Cls X.K C)(na:yH X.K C f)(h:EvD X α o fun x=>∃fs d,x=va C fs∧um fs f=some d∧Q d)(hb:attributeBase o f X.env (eval o X.env)=eval o X.env:=by rfl):EvD X α (.Attribute o f pos) Q:=fun F σ H R m k=>by
 refine⟨_,uN zq hb,?_⟩
 refine h F σ H _ m fun x vx H1 q1 t1 k1 r1=>?_
 obtain⟨fs,d,rfl,hf,q⟩:=q1
 obtain⟨a,dx,gs,rfl,h1,h2⟩:=r1.ins_inv
 obtain⟨v,hv,av⟩:=h2.get hf
 exact⟨a,C,dx,gs,v,rfl,(zj h1).2,c,na,hv,k d v H1 q t1 k1 av⟩
structure wF (P:Program)(w:World)(K:PySem.W.Frag)(mg:Str→Option Value)(base:Heap)(C:Addr)(m:Str)(k:Nat)(φ:List A→(A→Prop)→Prop):Prop where
 ex:∃f fd ps,Cls K C∧Meth K C m f∧Binds K fd ps []∧zA P w K mg base CX0 k f fd ps (spA φ)
theorem xg {k:Nat}{φ:List A→(A→Prop)→Prop}{pl:Sem Bool}(M':wF X.prog X.w X.K X.mg X.base C m k φ)(hr:zK k X.A)(h:EvD X α o fun x=>∃fs,x=va C fs∧um fs m=none∧EvA X α (e::es) fun as=>φ (.dat (va C fs)::as) fun a=>Q a.d)
  (hst:starEach (e::es) X.env=(false,eval e X.env)::starEach es X.env:=by rfl) (hpl:(backTo pos (starEach es X.env)).any (·.1)=false:=by rfl)
  (ht:eval (.Call (.Attribute o m apos) (e::es) [] pos) X.env=(do
   let ov ←eval o X.env
   standAt apos.atName
   let (f,first) ←holding [ov] (getMethod ov m pl)
   callWith pos f first (backTo pos (starEach (e::es) X.env)) (backToKw pos (keywordEach [] X.env))):=by rfl):EvD X α (.Call (.Attribute o m apos) (e::es) [] pos) Q:=fun F σ H R m' kk=>by
 obtain⟨f,fd,ps,c,hm,hb,G⟩:=M'.ex
 refine⟨_,bH zq c hm G hr hb .nil yb yQ hst hpl ht,?_⟩
 refine h F σ H _ m' fun x vx H1 q1 t1 k1 r1=>?_
 obtain⟨fs,rfl,hf,q⟩:=q1
 have m1:=m'.kz k1 t1
 obtain⟨a,dx,gs,rfl,h1,h2⟩:=r1.ins_inv
 refine⟨a,dx,gs,rfl,(zj h1).2,h2.none hf,?_⟩
 refine q F σ H1 _ m1 fun as vs H2 q2 t2 k2 r2=>?_
 have m2:=m1.kz k2 t2
 have cf:=wL (vs:=.ref a::vs) (as:=.dat (va C fs)::as) (R:=R) (E:=E0) m2 (.cons (r1.same (k2.gz m1.tp)) r2) q2 fun z v H' qa ra=>by
  obtain⟨g1,g2,g3⟩:=ra.back m2
  exact kk _ v H' qa g1 ((k1.trans k2).trans g2) g3
 exact cf
theorem tP {k:Nat}{φ:List A→(A→Prop)→Prop}{pl:Sem Bool}(M':wF X.prog X.w X.K X.mg X.base C m k φ)(hr:zK k X.A)(h:EvD X α o fun x=>∃fs,x=va C fs∧um fs m=none∧φ [.dat (va C fs)] fun a=>Q a.d)
  (ht:eval (.Call (.Attribute o m apos) [] [] pos) X.env=(do
   let ov ←eval o X.env
   standAt apos.atName
   let (f,first) ←holding [ov] (getMethod ov m pl)
   callWith pos f first (backTo pos (starEach [] X.env)) (backToKw pos (keywordEach [] X.env))):=by rfl):EvD X α (.Call (.Attribute o m apos) [] [] pos) Q:=fun F σ H R m' kk=>by
 obtain⟨f,fd,ps,c,hm,hb,G⟩:=M'.ex
 refine⟨_,oi zq c hm G hr hb .nil yb ht,?_⟩
 refine h F σ H _ m' fun x vx H1 q1 t1 k1 r1=>?_
 obtain⟨fs,rfl,hf,q⟩:=q1
 have m1:=m'.kz k1 t1
 obtain⟨a,dx,gs,rfl,h1,h2⟩:=r1.ins_inv
 refine⟨a,dx,gs,rfl,(zj h1).2,h2.none hf,?_⟩
 have cf:=wL (vs:=[.ref a]) (as:=[.dat (va C fs)]) (R:=R) (E:=E0) m1 (.cons r1 .nil) q fun z v H' qa ra=>by
  obtain⟨g1,g2,g3⟩:=ra.back m1
  exact kk _ v H' qa g1 (k1.trans g2) g3
 exact cf
def bV (F:Fr)(v:V)(H':Hp)(d:PyData):Prop:=zR F H'∧Kz F F.H0 H'∧AV (sub (fun x=>¬F.O0 x∧∀xs,F.H0 x≠some (.lst xs)) H') v d
def EvN (X:Cx)(α:Ev)(e:Expr)(Q:PyData→Prop):Prop:=∀(F:Fr) (σ:St) (H:Hp) (R:VK),M F α σ H→(∀d v H',Q d→zR F H'→Kz F H H'→AV (sub (fun x=>¬Ow F α σ x∧∀xs,H x≠some (.lst xs)) H') v d→R v H')→tD X e σ H R
theorem EvN.d (h:EvN X α e Q):EvD X α e Q:=fun F σ H R m k=>h F σ H R m fun d v H' q t z r=>k d v H' q t z (r.same (zu fun a o h e=>⟨h.1,e⟩))
def spI (C:Addr)(φ:List A→(A→Prop)→Prop):Sp:=fun vs H Qc _=>∃(F:Fr) (as:List A) (Q:A→Prop) (x dx:Addr) (vs':List V) (H1:Hp),vs=.ref x::vs'∧H1 x=none∧H1 dx=none∧dx≠x∧H=upd (upd H1 dx (.own x)) x (.ins C dx [])∧
 F.H0=H1∧zR F H1∧(∀y,F.O0 y→∃u,H1 y=some u∧wR u)∧ye F (sub (fun y=>¬F.O0 y) H1) vs' as∧φ as Q∧∀d H',Q (.dat d)→bV F (.ref x) H' d→Qc .non H'
structure cj (P:Program)(w:World)(K:PySem.W.Frag)(mg:Str→Option Value)(base:Heap)(x:Str)(k:Nat)(dvs:List V)(φ:List A→(A→Prop)→Prop):Prop where
 ex:∃C f fd ps ds,mg x=some (.ref C)∧Mk K C f∧Binds K fd ps ds∧Vals dvs ds∧zA P w K mg base CX0 k f fd ps (spI C φ)
theorem lP {F:Fr}{σ:St}{H:Hp}{vs:List V}{as:List A}{QA:A→Prop}{R:VK}{φ:List A→(A→Prop)→Prop}(m:M F α σ H)(rv:ye F (Gz F α σ H) vs as)(hφ:φ as QA)
  (kk:∀d v H',QA (.dat d)→bV ⟨H,Ow F α σ,F.tp⟩ v H' d→R v H') {E:XK} (x dx:Addr) (hx:H x=none) (hdx:H dx=none) (hne:dx≠x):spI C φ (.ref x::vs) (upd (upd H dx (.own x)) x (.ins C dx [])) (fun v H2=>v=.non∧R (.ref x) H2) E:=by
 refine⟨⟨H,Ow F α σ,F.tp⟩,as,QA,x,dx,vs,H,rfl,hx,hdx,hne,rfl,rfl,?_,?_,?_,hφ,fun d H' qa ra=>⟨rfl,kk d _ H' qa ra⟩⟩
 ·exact m.tp.to rfl fun _ z=>.inl z
 ·exact fun y z=>m.owEx z
 ·exact ye.to (F:=F) (F':=⟨H,Ow F α σ,F.tp⟩) (fun _ _ e=>e) rfl rv
theorem bV.back {F:Fr}{σ:St}{H H1 H':Hp}{v:V}{d:PyData}(m:M F α σ H)(k1:Kz F H H1)(h:bV ⟨H1,Ow F α σ,F.tp⟩ v H' d):zR F H'∧Kz F H1 H'∧AV (sub (fun x=>¬Ow F α σ x∧∀xs,H x≠some (.lst xs)) H') v d:=by
 obtain⟨t,kz,r⟩:=h
 refine⟨m.tp.re t rfl,kz,r.same (zu fun a o h e=>⟨⟨h.1,fun xs z=>h.2 xs (k1 _ _ z (m.tp.nt (ow0 h.1)))⟩,e⟩)⟩
theorem ai {k:Nat}{φ:List A→(A→Prop)→Prop}{x:Str}(M':cj X.prog X.w X.K X.mg X.base x k [] φ)(hr:zK (k+1) X.A)(hg:Gl X x)(h:EvA X α (e::es) fun as=>φ as fun a=>Q a.d)
  (hdb:(x == ("__debug__":Str))=false:=by decide) (he:starEach (e::es) X.env=(false,eval e X.env)::starEach es X.env:=by rfl) (hpl:(backTo pos (starEach es X.env)).any (·.1)=false:=by rfl):EvN X α (.Call (.Name x p) (e::es) [] pos) Q:=fun F σ H R m kk=>by
 obtain⟨C,f,fd,ps,ds,hm,hk,hb,hd,G⟩:=M'.ex
 cases hd
 refine⟨_,xO hk G hr hg hm hb .nil yb yQ hdb he hpl,?_⟩
 refine h F σ H _ m fun as vs H1 q1 t1 k1 r1=>?_
 have m1:=m.kz k1 t1
 intro y dx hy hdx hne
 rw[zx9]
 refine lP m1 r1 q1 (fun d v H' qa ra=>?_) y dx hy hdx hne
 obtain⟨g1,g2,g3⟩:=ra.back m k1
 exact kk d v H' qa g1 (k1.trans g2) g3
end
structure zh9 (K:PySem.W.Frag)(x qual:Str)(st:Stmt)(dV:Value)(f:Addr)(fd:FuncData):Prop where
 ex:∃(oc:Value) (od:Option Addr) (kV doc pm:Value) (an:Option Addr) (cdv ct:Value) (osl:Array (Option Value)),
  fd=PySem.W.fnOf x qual (zN st) (zw st) (zb st) dV kV doc pm an cdv ct∧K.lookup f=some ⟨oc,od,.func fd,osl⟩∧PySem.W.codeIn K cdv qual=true
 kp:PySem.W.keepIn K (.ref f)=true
theorem cX {K:PySem.W.Frag}{x qual:Str}{st:Stmt}{f:Addr}{oc:Value}{od an:Option Addr}{osl:Array (Option Value)}{dV kV doc pm cdv ct:Value}(l:K.lookup f=some ⟨oc,od,.func (PySem.W.fnOf x qual (zN st) (zw st) (zb st) dV kV doc pm an cdv ct),osl⟩)
  (c:PySem.W.codeIn K cdv qual=true) (k:PySem.W.keepIn K (.ref f)=true):zh9 K x qual st dV f (PySem.W.fnOf x qual (zN st) (zw st) (zb st) dV kV doc pm an cdv ct):=⟨⟨oc,od,kV,doc,pm,an,cdv,ct,osl,rfl,l,c⟩,k⟩
section
variable {P:Program}{w:World}{K:PySem.W.Frag}{mg:Str→Option Value}{base:Heap}
theorem zk7 {qual:Str}{st:Stmt}{f C:Addr}{dV:Value}{fd:FuncData}{N:List Str}{x:Str}{k:Nat}{φ:List A→(A→Prop)→Prop}{fl:Str}{e:Expr}{p1 p2 p3:Pos}(G:zh9 K "__init__" qual st dV f fd)(S:zl ("self"::x::N) ["self",x] (zb st))(c:Cls K C)(na:yH K C fl)
  (hb:zw st=[.Assign [.Attribute (.Name "self" p1) fl p2] e p3]) (hlen:∀as Q,φ as Q→as.length=1)
  (hbody:∀(cdv:Value) (A':Around) (outer:List Env) (s:Shared) (H:Hp) (E:XK) (as:List A) (Q:A→Prop),zK k (A'.deeper (envOfC qual (zb st) s.heap.objs.size f cdv))→φ as Q→
   EvL (xy CX0 P w K mg base ("self"::x::N) qual (zb st) f cdv A' outer s H E).nox (none::as.map some++List.replicate N.length none) e fun ds=>vK ds=true∧Q (.dat (va C [(.str fl,.list ds)])))
  (hsw:∀(cdv:Value) (A':Around) (outer:List Env) (s:Shared) (H:Hp) (E:XK),swapsWith e (some (.Attribute (.Name "self" p1) fl p2)) p3.line (xy CX0 P w K mg base ("self"::x::N) qual (zb st) f cdv A' outer s H E).nox.env=pure false)
  (hv:Vis (zb st) "self"):zA P w K mg base CX0 (k+1) f fd ["self",x] (spI C φ):=by
 obtain⟨oc,od,kV,doc,pm,an,cdv,ct,osl,rfl,lk,hcd⟩:=G.ex
 refine kE lk hcd S (fun vs H Q E h=>?_) fun A' outer s H vs Qc E hr h=>?_
 ·obtain⟨F,as,Q',y,dx,vs',H1,rfl,_,_,_,_,_,_,_,rv,hφ,_⟩:=h
  rw[zv0,rv.length,hlen as _ hφ]
  rfl
 ·obtain⟨F,as,Q',y,dx,vs',H1,rfl,hy,hdx,hne,rfl,rfl,t,o,rv,hφ,kk⟩:=h
  have hl:=rv.length
  have hl1:=hlen as _ hφ
  rw[hb]
  refine⟨_,(show PSs _ _ _ from (zv (pf (X:=(xy CX0 P w K mg base ("self"::x::N) qual (zb st) f cdv A' outer s (upd (upd F.H0 dx (.own y)) y (.ins C dx [])) E).nox) (yI (i:=0) rfl hv) zq (hsw cdv A' outer s _ E))).nox),?_⟩
  let F2:Fr:=⟨F.H0,fun z=>F.O0 z∨z=y∨z=dx,F.tp⟩
  have s1:zy F.H0 (upd (upd F.H0 dx (.own y)) y (.ins C dx [])):=fun a u q=>by
   rw[zg (zk q hy),zg (zk q hdx)];exact q
  have noy:¬F.O0 y:=fun z=>by obtain⟨u,hu,_⟩:=o y z;rw[hy] at hu;cases hu
  have nodx:¬F.O0 dx:=fun z=>by obtain⟨u,hu,_⟩:=o dx z;rw[hdx] at hu;cases hu
  have t2:zR F2 (upd (upd F.H0 dx (.own y)) y (.ins C dx [])):=(t.same s1).to rfl fun _ z=>.inl z
  -- the names of the body
  have g:∀{i:Nat} {a:A},(none::as.map some++List.replicate N.length none:Ev)[i]?=some (some a)→∃j,i=j+1∧as[j]?=some a:=fun {i a} h=>by
   cases i with
   |zero=>simp at h
   |succ j=>
    refine⟨j,rfl,?_⟩
    have h':(as.map some++List.replicate N.length none:Ev)[j]?=some (some a):=by simpa using h
    rcases zA6 j as.length with z|z
    ·rw[zv9 (by rw[zt4];exact z),zv2,zw9] at h'
     obtain⟨b,h1,h2⟩:=h'
     cases h2;exact h1
    ·rw[zw3 (by rw[zt4];exact z),zy8] at h'
     split at h'<;>cases h'
  have at':∀{vs:List V} {as:List A} {i:Nat} {a:A},ye F (sub (fun x=>¬F.O0 x) F.H0) vs as→as[i]?=some a→∃v,vs[i]?=some v∧jA F (sub (fun x=>¬F.O0 x) F.H0) v a:=by
   intro vs as i a h
   induction h generalizing i with
   |nil=>intro e;simp at e
   |cons h r ih=>
    intro e
    cases i with
    |zero=>simp at e;subst e;exact⟨_,rfl,h⟩
    |succ i=>obtain⟨v,h1,h2⟩:=ih (by simpa using e);exact⟨v,by simpa using h1,h2⟩
  have gv:∀{j:Nat} {v:V},vs'[j]?=some v→(L2.start ("self"::x::N) (.ref y::vs'))[j+1]?=some (some v):=fun {j v} h=>by
   have hj:j<vs'.length:=(zt8.mp h).1
   unfold L2.start
   rw[zv9 (by rw[zt4,zv0];omega),zv2,zF3,h];rfl
  have no:∀(i:Nat) a,(none::as.map some++List.replicate N.length none:Ev)[i]?=some (some a)→(∃d,a=.dat d)∨a=.tape:=fun i a z=>by
   obtain⟨j,_,hj⟩:=g z
   obtain⟨v,_,h⟩:=at' rv hj
   cases a with
   |dat d=>exact .inl ⟨d,rfl⟩
   |tape=>exact .inr rfl
   |_=>exact h.elim
  have gs:zy (sub (fun x=>¬F.O0 x) F.H0) (Gz F2 (none::as.map some++List.replicate N.length none) (L2.start ("self"::x::N) (.ref y::vs')) (upd (upd F.H0 dx (.own y)) y (.ins C dx []))):=fun a u q=>by
   obtain⟨z1,z2⟩:=zj q
   refine zM ?_ (s1 _ _ z2)
   rintro ((z|z|z)|⟨i,b,s,e,_,f⟩)
   ·exact z1 z
   ·rw[z,hy] at z2;cases z2
   ·rw[z,hdx] at z2;cases z2
   ·rcases no i b e with ⟨d,rfl⟩|rfl
    ·exact f.elim
    ·exact f.elim
  have m2:M F2 (none::as.map some++List.replicate N.length none) (L2.start ("self"::x::N) (.ref y::vs')) (upd (upd F.H0 dx (.own y)) y (.ins C dx [])):=by
   refine⟨by unfold L2.start;simp[hl,hl1],fun i a s e1 e2=>?_,fun i j a b s t x e1 _ _ _ f=>?_,fun i r q z=>(by rcases no i _ z with ⟨d,w⟩|w<;>cases w),t2,fun z u h _=>s1 z u h,fun z hz=>?_⟩
   ·obtain⟨j,rfl,hj⟩:=g e1
    obtain⟨v,h1,h2⟩:=at' rv hj
    rw[gv h1] at e2;cases e2
    rcases no _ a e1 with ⟨d,rfl⟩|rfl
    ·exact⟨v,rfl,AV.same gs h2⟩
    ·obtain⟨t',b,c,h3,rfl⟩:=h2
     exact⟨t',b,c,h3,rfl⟩
   ·rcases no i a e1 with ⟨d,rfl⟩|rfl
    ·exact f.elim
    ·exact f.elim
   ·rcases hz with q|q|q
    ·obtain⟨u,hu,hn⟩:=o z q
     exact⟨u,s1 _ _ hu,hn⟩
    ·exact⟨_,by rw[q];exact zh,fun _ q=>by cases q⟩
    ·exact⟨_,by rw[q,zg hne];exact zh,fun _ q=>by cases q⟩
  refine hbody cdv A' outer s _ E as Q' hr hφ F2 _ _ _ m2 fun d v H2 qd t3 k3 r3=>?_
  obtain⟨l,xs,rfl,hl0,hl2,avl⟩:=r3
  obtain⟨nol,qd⟩:=qd
  have nly:l≠y:=fun z=>by rw[z,zh] at hl0;cases hl0
  have nldx:l≠dx:=fun z=>by rw[z,zg hne,zh] at hl0;cases hl0
  have hl00:F.H0 l=none:=by rw[zg nly,zg nldx] at hl0;exact hl0
  have nol0:¬F.O0 l:=fun z=>by obtain⟨u,hu,_⟩:=o l z;rw[hl00] at hu;cases hu
  have nty:NT F2 y:=t.nt noy
  have hy2:H2 y=some (.ins C dx []):=k3 _ _ zh nty
  refine⟨.ref y,rfl,y,C,dx,[],rfl,hy2,c,na,by show 0<1000;decide,?_⟩
  refine kk _ _ qd ⟨(t.re t3 rfl).updO noy (jV hy2),fun z u h n=>?_,?_⟩
  ·rw[zg (zk h hy)]
   exact k3 _ _ (s1 _ _ h) n
  ·refine AV.ins (zM ⟨noy,fun xs z=>by rw[hy] at z;cases z⟩ zh) (.cons (.lst (zM ⟨nol0,fun xs z=>by rw[hl00] at z;cases z⟩ (by rw[zg nly];exact hl2)) ?_) .nil)
   refine avl.noL (fun a u hno z=>?_) nol
   obtain⟨z1,z2⟩:=zj z
   have na:a≠y:=fun w=>z1.1 (.inl (.inr (.inl w)))
   refine zM ⟨fun w=>z1.1 (.inl (.inl w)),fun xs w=>?_⟩ (by rw[zg na];exact z2)
   have:H2 a=some (.lst xs):=k3 _ _ (s1 _ _ w) (t.nt fun w=>z1.1 (.inl (.inl w)))
   rw[z2] at this
   cases this
   exact hno trivial
end
section
variable {X:Cx}{α:Ev}{e e':Expr}{pos:Pos}{E:xi}{sts:List Stmt}
end
def Itv (K:PySem.W.Frag)(a:Addr)(n:Nat):It:=
 ⟨fun i H=>∃xs x,SqL K H a xs∧xs.length=n∧i<n∧xs[n-1-i]?=some x,fun i H x H'=>H'=H∧∀xs,SqL K H a xs→xs[n-1-i]?=some x,fun i H=>n≤i⟩
theorem dG {P:Program}{w:World}{K:PySem.W.Frag}{tg:Expr}(a it:Addr)(n:Nat):Turn P w K tg (Itv K a n) [it] it (fun i h=>i≤n∧h.IsRevIter it a ((n:Int)-1-(i:Int))) where
 mem:=by simp
 obj:=fun i h st b hb=>by
  have e:b=it:=by simpa using hb
  subst e
  obtain⟨_,o,e,c,d⟩:=st
  exact⟨o,e,fun v z=>by rw[d] at z;cases z⟩
 keep:=fun i h h' st k=>⟨st.1,st.2.at fun o e=>k it (by simp) o e⟩
 item:=by
  intro X hP hw hK hc i pins s σ H E I hf st hg
  subst hP hw hK
  obtain⟨xs,x,hq,hl,hi,hx⟩:=hg
  obtain⟨its,rv,p,hz⟩:=I.list hq
  obtain⟨u,hu,ru⟩:=rv.get hx
  obtain⟨f0,f1,f2,f3,f4,f5⟩:=hf it (by simp)
  have e1:((n:Int)-1-(i:Int))=((n-1-i:Nat):Int):=by omega
  have st':=st.2
  rw[e1] at st'
  refine wpAny_pyNext_rev_item st' p.isList (x:=u) (by simpa using hu) fun h' st2 sb=>?_
  have I1:Inv X pins σ H {s with heap:=h'}:=I.turned (t':=s.toks) (fun b o hb e=>(sb.2 b hb).trans e) f0 f1 f3 f4 f5
  obtain⟨o,e,c,d⟩:=id st2
  have e2:(((n-1-i:Nat):Int)-1)=(n:Int)-1-((i+1:Nat):Int):=by omega
  rw[e2] at st2
  exact⟨u,rfl,eB (s:={s with heap:=h'}) e c d (by decide) ⟨x,H,I1,ru,⟨rfl,fun ys hy=>by rw[I.list_inj hy hq];exact hx⟩,⟨hi,st2⟩,fun b hb=>(hf b hb).1⟩⟩
 done:=by
  intro X hP hw hK hc i pins s σ H E I hf st hg
  subst hP hw hK
  have hi:i=n:=Nat.le_antisymm st.1 hg
  obtain⟨f0,f1,f2,f3,f4,f5⟩:=hf it (by simp)
  have st':=st.2
  rw[show ((n:Int)-1-(i:Int))=-1 by omega] at st'
  exact wpAny_pyNext_rev_end (I.ok.hd hc) st' fun h' eb=>⟨rfl,I.turned (t':=s.toks) (fun b o hb e=>eb b o hb e) f0 f1 f3 f4 f5⟩
 self:=fun A i s Q E st h=>wpAny_pyIter_revIter st.2 h
section
variable {X:Cx}{α:Ev}{tg:Expr}{p pos:Pos}{a:Expr}
def zr1 (K:PySem.W.Frag)(ta:TA):TI:=fun σ H R=>ta σ H fun vs H1=>∃l xs,vs=[.ref l]∧SqL K H1 l xs∧R (Itv K l xs.length) H1
theorem zd2 {ta:TA}(hg:Gl X "reversed")(hm:X.mg "reversed"=none)(ha:PA X [a] ta)(hs:starEach [a] X.env=[(false,eval a X.env)]:=by rfl):PI X tg (.Call (.Name "reversed" p) [a] [] pos) (zr1 X.K ta):=by
 intro pins s σ H R I h
 refine Call_ (wq I hg hm boot_reversed (zy3 (thn (ha pos pins s σ H _ I h) fun us s1 ⟨vs,H1,I1,r1,q1⟩=>?_) hs rfl))
 obtain⟨l1,xs,e,hq1,q⟩:=q1
 subst e
 obtain⟨u,rfl,ru⟩:=Vals.one r1
 cases (show u=Value.ref l1 from ru)
 obtain⟨its1,rv1,p1,hz1⟩:=I1.list hq1
 have hlen:=rv1.length
 refine call_reversed_list p1.isList ?_
 have it0:({s1 with heap:=s1.heap.push (revObj l1 ((its1.toArray.size:Int)-1))}:Shared).heap.IsRevIter s1.heap.objs.size l1 ((xs.length:Int)-1-((0:Nat):Int)):=by
  refine⟨_,zu7 _ rfl,rfl,?_⟩
  show Data.fields _=_
  rw[zu2,hlen]
  simp
 refine wpAny_pyIter_revIter it0 ?_
 refine⟨_,_,_,_,H1,rfl,I1.kept (t':=s1.toks) fun b o e=>zt3 _ e,dG l1 _ xs.length,⟨zv3 _,it0⟩,fun b hb=>?_,q⟩
 have e:b=s1.heap.objs.size:=by simpa using hb
 subst e
 exact I1.fpOk (zt9 _) (I1.hok.fresh (zt9 _))
theorem ze2 {Q:List PyData→Prop}(hg:Gl X "reversed")(hm:X.mg "reversed"=none)(h:EvD X α a fun x=>∃ds,x=.list ds∧Q ds.reverse)(hs:starEach [a] X.env=[(false,eval a X.env)]:=by rfl):
  EvI X α tg (.Call (.Name "reversed" p) [a] [] pos) Q:=fun F σ H R m k=>by
 refine⟨_,zd2 hg hm (zd zq zr hs) hs,?_⟩
 refine h F σ H _ m fun x vx H1 q1 t1 k1 r1=>?_
 obtain⟨ds,rfl,q⟩:=q1
 obtain⟨l1,xs,rfl,g1,g2⟩:=r1.lst_inv
 refine⟨l1,xs,rfl,SqL.of (zj g1).2,k _ _ H1 q t1 k1 fun i H3 p s=>⟨fun d hd=>?_,fun hl=>?_⟩⟩
 ·have s1:=SqL.of (K:=X.K) (zj (s _ _ g1)).2
  have hi:i<ds.length:=by
   have:=(zt8.mp hd).1
   rwa [zE1] at this
  rw[List.getElem?_reverse hi] at hd
  obtain⟨x1,hx1,av1⟩:=g2.get hd
  rw[←g2.length] at hx1
  refine⟨⟨xs,x1,s1,rfl,by rw[g2.length];exact hi,hx1⟩,fun v H4 y=>?_⟩
  obtain⟨rfl,hy⟩:=y
  have:=hy _ s1
  rw[hx1] at this;cases this
  exact⟨zy.refl _,fun _=>av1.same s⟩
 ·rw[zE1,←g2.length] at hl
  exact hl
end
def EnS (w:World):List DictEntry→List (Str×V)→Prop:=Paired fun e p=>e.hash=hashStr w p.1∧(∃t,e.key=.str p.1 t)∧RelV p.2 e.val
def kq (K:PySem.W.Frag)(w:World)(d:Addr)(tb:List (Str×V)):Prop:=
 ∃es n,K.lookup d=some ⟨.type "dict",none,.dict es n,#[]⟩∧EnS w es.toList tb∧(tb.map (·.1)).Nodup
theorem qC {P:Program}{w:World}:∀{es:List DictEntry} {tb:List (Str×V)},EnS w es tb→Pairs (PySem.strKind P w) es (List.zipWith (fun e (p:Str×V)=>(p.1,e.val)) es tb)
 |_,_,.nil=>.nil
 |e::_,p::_,.cons ⟨_,⟨t,ek⟩,_⟩ r=>.cons (by rw[ek];simp[PySem.strKind,Value.isStrOf]) rfl (qC r)
theorem ki {w:World}:∀{es:List DictEntry} {tb:List (Str×V)},EnS w es tb→(List.zipWith (fun e (p:Str×V)=>(p.1,e.val)) es tb).map (·.1)=tb.map (·.1)
 |_,_,.nil=>rfl
 |_,_,.cons _ r=>by simp only[List.zipWith_cons_cons,zy1,ki r]
theorem oW {P:Program}{w:World}:∀{es:List DictEntry} {tb:List (Str×V)},EnS w es tb→∀e∈es,∃k,(PySem.strKind P w).is k e.key=true∧e.hash=(PySem.strKind P w).hash k
 |_,_,.nil,e,he=>by simp at he
 |_,_,.cons (b:=p) ⟨h1,⟨t,ek⟩,_⟩ r,e,he=>by
  rcases zu1.mp he with rfl|he
  ·exact⟨p.1,by rw[ek];simp[PySem.strKind,Value.isStrOf],h1⟩
  ·exact oW r e he
theorem kG {w:World}{x:Str}{v:V}:∀{es:List DictEntry} {tb:List (Str×V)},EnS w es tb→tb.lookup x=some v→∃u,valueAt (List.zipWith (fun e (p:Str×V)=>(p.1,e.val)) es tb) x=some u∧RelV v u
 |_,_,.nil,e=>by simp at e
 |e::es,p::tb,.cons ⟨_,_,rv⟩ r,h=>by
  obtain⟨y,z⟩:=p
  by_cases q:x=y
  ·subst q
   simp only[List.lookup_cons_self,Option.some.injEq] at h
   subst h
   exact⟨e.val,by simp[valueAt],rv⟩
  ·rw[zx0,zC1.mpr q] at h
   obtain⟨u,h1,h2⟩:=kG r h
   refine⟨u,?_,h2⟩
   rw[←h1]
   simp[valueAt,zz0,zw7 q]
section
variable {X:Cx}{α:Ev}{p pos:Pos}{a:Expr}{g:Str}{Q:PyData→Prop}
def zb0 (i:Expr):Prop:=∀ov iv,subscripted i false ov iv=operate [ov,iv] (getItem ov iv)
theorem zt1 {prog:Program}{w:World}{A:Around}{E:Value→Shared→Prop}{s:Shared}{env:Env}{value slice:Expr}{pos:Pos}{T id:String}{Q:Value→Shared→Prop}
  (hl:typeLookup (.type T) "__getitem__"=pure (some (.builtin id))) (hs:zb0 slice)
  (h:wpAny (model prog w) A (eval value env) (fun o s₁=>wpAny (model prog w) A (eval slice env) (fun i s₂=>s₂.TypeIs o T∧wpAny (model prog w) A (getItem o i) Q E s₂) E s₁) E s):
  wpAny (model prog w) A (eval (.Subscript value slice pos) env) Q E s:=by
 refine Subscript_ (thn h fun o s₁ h₁=>thn h₁ fun i s₂ h₂=>?_)
 obtain⟨hT,h₂⟩:=h₂
 unfold subscriptTail
 refine zt2 ?_
 rw[getitemInPython_of_ne hT.not_modules]
 refine zt2 (wpAny_specialOf hT hl ?_)
 have fin:wpAny (model prog w) A (subscripted slice false o i) (fun r s₃=>wpAny (model prog w) A (letTemporaryGo value o r >>= fun _=>pure r) Q E s₃) E s₂:=by
  rw[hs o i]
  exact wpAny_operating (thn h₂ fun r s₃ h₃=>zt2 (wpAny_letTemporaryGo (zt6 h₃)))
 first
  |exact zt6 (zt2 fin)
  |exact zt2 (zt6 (zt2 fin))
  |exact zt2 fin
theorem gP {d:Addr}{tb:List (Str×V)}{ty:TE}(hg:Gl X g)(hm:X.mg g=some (.ref d))(hd:kq X.K X.w d tb)(hi:PE X a ty)(hs:zb0 a)(hb:(g == ("__debug__":Str))=false:=by decide):
  PE X (.Subscript (.Name g p) a pos) (fun σ H Q=>ty σ H fun y H1=>∃x v,y=.str x∧tb.lookup x=some v∧Q v H1):=by
 intro pins s σ H Q I h
 refine zt1 PySem.F.slot_dict_getitem.lookup hs (xM I hg hm (thn (hi pins s σ H _ I h) fun iv s2 ⟨y,H2,I2,ry,x,v,ey,ex,q2⟩=>?_) hb)
 subst ey
 obtain⟨t,rfl⟩:=ry
 obtain⟨es,n,hl,he,hn⟩:=hd
 have dd:s2.heap.DictOf (PySem.strKind X.prog X.w) d (List.zipWith (fun e (p:Str×V)=>(p.1,e.val)) es.toList tb):=
  ⟨_,es,n,I2.kIn _ _ hl,⟨rfl,rfl,rfl⟩,rfl,fun e he'=>oW he e (by simpa using he'),qC he,by rw[ki he];exact hn⟩
 obtain⟨u,h1,h2⟩:=kG he ex
 exact⟨dd.typeIs,wpAny_getItem_of (show (PySem.strKind X.prog X.w).is x (.str x t)=true by simp[PySem.strKind,Value.isStrOf]) dd.mapOf h1 ⟨v,H2,I2.tok _,h2,q2⟩⟩
def scV :PyData→Option V
 |.none=>some .non
 |.bool b=>some (.bl b)
 |.int i=>some (.int i)
 |.str x=>some (.str x)
 |_=>Option.none
theorem zi4 {H:Hp}{d:PyData}{v:V}(h:scV d=some v):AV H v d:=by
 cases d<;>simp[scV] at h<;>subst h<;>constructor
theorem eU {d:Addr}{tb:List (Str×V)}(hg:Gl X g)(hm:X.mg g=some (.ref d))(hd:kq X.K X.w d tb)(h:EvD X α a fun y=>∃x d v,y=.str x∧tb.lookup x=some v∧scV d=some v∧Q d)(hs:zb0 a:=by exact fun _ _=>rfl)
  (hb:(g == ("__debug__":Str))=false:=by decide):EvD X α (.Subscript (.Name g p) a pos) Q:=fun F σ H R m k=>by
 refine⟨_,gP hg hm hd zq hs hb,?_⟩
 refine h F σ H _ m fun y vy H1 q1 t1 k1 r1=>?_
 obtain⟨x,d',v,rfl,h1,h2,q⟩:=q1
 cases r1.str_inv
 exact⟨x,v,rfl,h1,k _ _ H1 q t1 k1 (zi4 h2)⟩
end
section
variable {X:Cx}{α:Ev}{p pos:Pos}{a b:Expr}{g:Str}{Q:PyData→Prop}
end
section
variable {X:Cx}{α:Ev}{p pos:Pos}{a b:Expr}{Q:PyData→Prop}
end
section
variable {X:Cx}{α:Ev}{a e:Expr}{pos p2 p3 p4:Pos}{n1:Nat}{te:TE}
end
def fN (T:Addr)(H:Hp):Prop:=∀b:Addr,H b=none∨b=T∨∃o xs,H b=some (.frz o (.lst xs))
theorem jy {P:Program}{w:World}{K:PySem.W.Frag}{mg mb:Str→Option Value}{CX:CXT}{k:Nat}{fa a T:Addr}{fd:FuncData}{x:Str}{sp:Sp}{s₁:Shared}{vs:List Value}{ns:List Int}{ps:Array Value}
  (KX:K.In s₁.heap) (hns:s₁.heap.Ns mainGlobals mg) (hb:s₁.heap.Ns builtinsNs mb) (hbb:∀x:Str,x≠"__name__"→mb x=bootBuiltins x) (hlim:s₁.heap.NoLimit) (hg:s₁.gens=#[])
  (ha:s₁.heap.get? a=some {cls:=.type "list",data:=.seq vs.toArray}) (hi:IntsAre vs ns) (hl:ns.length≤sizeLine) (hr:zK k callerA)
  (hT:s₁.heap.get? T=some (PySem.W.tabObj ps)) (hKT:K.lookup T=none) (hct:isCodeTable s₁.heap T)
  (hbm:∃bm ob,mg "__builtins__"=some (.ref bm)∧bm≠builtinsNs∧s₁.heap.get? bm=some ob∧ob.cls=.type "module"∧ob.dict=some builtinsNs∧ob.data=.plain)
  (F:∀base:Heap,K.In base→base.Ns mainGlobals mg→base.BuiltinsAt mg T→zA P w K mg base CX k fa fd [x] sp) (hbind:∀(s:Shared) (u:Value),BindsTo s fd ⟨[u],[]⟩ [(x,u)])
  (hsp:∀H:Hp,fN T H→H T=some (.tbl ps)→SqL K H a (ns.map V.int)→sp [.ref a] H (fun v _=>v=.bl true) fun _ _ _=>False)
  (hCX:∀H e s',CX [] H s₁ (fun _ _ _=>False) e s'→False):
  codeAny (model P w) callerA (.call (.ref fa) ⟨[.ref a],[]⟩) (fun r s'=>r=.ok (.ret (.bool true))∧OldK s₁.heap s'.heap∧s'.os=s₁.os∧AllBare s'.gens) s₁:=by
 have rv:=rT hi
 have lenV:=hi.length
 have haT:a≠T:=fun z=>by rw[z,hT] at ha;cases ha
 have core:∀H:Hp,fN T H→H T=some (.tbl ps)→SqL K H a (ns.map V.int)→HOk P w H s₁.heap→(∀b,H b≠none→b=a∨b=T)→(H a≠none→K.lookup a=none)→
   codeAny (model P w) callerA (.call (.ref fa) ⟨[.ref a],[]⟩) (fun r s'=>r=.ok (.ret (.bool true))∧OldK s₁.heap s'.heap∧s'.os=s₁.os∧AllBare s'.gens) s₁:=by
  intro H hO hHT hS hok hA hK
  have base_of:∀{b:Addr} {o:Obj},s₁.heap.get? b=some o→H b=none→(rF s₁.heap H).get? b=some o:=fun e n=>gq e n
  have noA:∀{b:Addr} {o:Obj} {es:Array DictEntry} {ep:Nat},s₁.heap.get? b=some o→o.data=.dict es ep→H b=none:=fun {b o es ep} e d=>by
   cases q:H b with
   |none=>rfl
   |some u=>
    rcases hA b (by rw[q];simp) with e'|e'
    ·subst e'
     rw[ha] at e;cases e
     have d':Data.seq vs.toArray _=Data.dict es ep:=d
     cases d'
    ·subst e'
     rw[hT] at e;cases e
     have d':Data.fields ps=Data.dict es ep:=d
     cases d'
  have nsK:∀{b:Addr} {m:Str→Option Value},s₁.heap.Ns b m→(rF s₁.heap H).Ns b m:=fun {b m} ⟨o,es,ep,e,d,r⟩=>⟨o,es,ep,base_of e (noA e d),d,r⟩
  have hKb:K.In (rF s₁.heap H):=fun b o e=>base_of (KX b o e) (by
   cases q:H b with
   |none=>rfl
   |some u=>
    rcases hA b (by rw[q];simp) with e'|e'
    ·subst e'
     rw[hK (by rw[q];simp)] at e;cases e
    ·subst e'
     rw[hKT] at e;cases e)
  have hM:Mod K mg (rF s₁.heap H):=⟨hKb,nsK hns,⟨mb,nsK hb,hbb⟩,let ⟨mc,h1,h2⟩:=hlim;⟨mc,nsK h1,h2⟩⟩
  have hBA:(rF s₁.heap H).BuiltinsAt mg T:=by
   obtain⟨bm,ob,b1,b2,b3,b4,b5,b6⟩:=hbm
   have n1:bm≠T:=fun z=>by rw[z,hT] at b3;cases b3;cases b4
   have n2:bm≠a:=fun z=>by rw[z,ha] at b3;cases b3;cases b6
   have n3:bm≠mainGlobals:=fun z=>by
    obtain⟨o,es,ep,e,d,_⟩:=hns
    rw[z,e] at b3;cases b3
    rw[d] at b6;cases b6
   exact⟨bm,ob,b1,b2,n3,n1,base_of b3 (by
    cases q:H bm with
    |none=>rfl
    |some u=>
          rcases hA bm (by rw[q];simp) with e'|e'
          ·exact absurd e' n2
          ·exact absurd e' n1),b4,b5,b6⟩
  have e0:uF P w K mg (rF s₁.heap H) callerA [] s₁ H:=⟨rfl,hM,fun b o e=>bx e,zG9 (jw _ _),trivial,fun b hb=>absurd (show b∈([]:List Addr) from hb) (by simp),hok,.of_eq hg⟩
  refine zD0 ((F _ hKb (nsK hns) hBA).run callerA [] s₁ H ⟨[.ref a],[]⟩ [.ref a] [.ref a] _ _ hr e0 (hbind s₁ (.ref a)) (.cons rfl .nil) (hsp H hO hHT hS)) fun r s' h=>?_
  cases r with
  |error e=>exact (hCX H e s' h).elim
  |ok fl=>
   cases fl with
   |next=>exact False.elim h
   |brk=>exact False.elim h
   |cont=>exact False.elim h
   |ret u=>
    obtain⟨v,H',os,bare,un,hok',r',q⟩:=h
    have q':v=.bl true:=q
    subst q'
    obtain rfl:u=Value.bool true:=r'
    have old:∀b o,s₁.heap.get? b=some o→asItWas s₁.heap s'.heap b o:=fun b o e=>by
     cases q:H b with
     |none=>exact .inl (un.keep b o e q (by intro z;exact absurd (show b∈([]:List Addr) from z) (by simp)) (by simp))
     |some u=>
      rcases hO b with z|z|⟨ob,xs,z⟩
      ·rw[q] at z;cases z
      ·subst z
       obtain⟨more,hm⟩:=un.tbls _ _ hHT
       have e2:s'.heap.get? b=some {cls:=.none,data:=.fields (ps++more)}:=hok' _ _ hm
       rw[hT] at e;cases e
       exact .inr (.inl ⟨hct,rfl,ps,more,rfl,e2⟩)
      ·have z2:=un.frzs b ob _ z
       obtain⟨e1,_⟩:=hok b _ z
       obtain⟨e2,_⟩:=hok' b _ z2
       rw[e] at e1;cases e1
       exact .inl e2
    refine⟨rfl,⟨old,fun b o e=>?_⟩,os,bare⟩
    rcases old b o e with z|⟨_,_,_,_,_,z⟩|⟨_,_,⟨o',_,_,z,_⟩,_⟩
    ·exact⟨_,z⟩
    ·exact⟨_,z⟩
    ·exact⟨_,z⟩
 cases hk:K.lookup a with
 |some o=>
  have e:=KX a o hk
  rw[ha] at e
  cases e
  refine core (fun b=>if b=T then some (.tbl ps) else none) (fun b=>?_) (if_pos rfl) (.inr ⟨_,vs.toArray,_,hk,rfl,rfl,rfl,by rw[zu2,lenV];exact hl,by simpa using rv⟩) (fun b u z=>?_) (fun b z=>?_) fun z=>absurd (if_neg haT) z
  ·by_cases h:b=T
   ·exact .inr (.inl h)
   ·exact .inl (if_neg h)
  ·by_cases h:b=T
   ·have z':=(if_pos h).symm.trans z
    cases z'
    subst h
    exact hT
   ·have z':=(if_neg h).symm.trans z
    cases z'
  ·by_cases h:b=T
   ·exact .inr h
   ·exact absurd (if_neg h) z
 |none=>
  refine core (fun b=>if b=T then some (.tbl ps) else if b=a then some (.frz {cls:=.type "list",data:=.seq vs.toArray} (.lst (ns.map V.int))) else none) (fun b=>?_) (if_pos rfl) (.inl (.inr ⟨{cls:=.type "list",data:=.seq vs.toArray},(if_neg haT).trans (if_pos rfl)⟩)) (fun b u z=>?_) (fun b z=>?_) fun _=>hk
  ·by_cases h:b=T
   ·exact .inr (.inl h)
   ·by_cases hb:b=a
    ·exact .inr (.inr ⟨_,_,(if_neg h).trans (if_pos hb)⟩)
    ·exact .inl ((if_neg h).trans (if_neg hb))
  ·by_cases h:b=T
   ·have z':=(if_pos h).symm.trans z
    cases z'
    subst h
    exact hT
   ·have z:=(if_neg h).symm.trans z
    by_cases hb:b=a
    ·have z':=(if_pos hb).symm.trans z
     cases z'
     subst hb
     exact⟨ha,by rw[zt4];exact hl,vs,_,rv,ha⟩
    ·have z':=(if_neg hb).symm.trans z
     cases z'
  ·by_cases h:b=T
   ·exact .inr h
   ·by_cases hb:b=a
    ·exact .inl hb
    ·exact absurd ((if_neg h).trans (if_neg hb)) z
theorem eh {l:PySem.W.OpenLaw}{n k:Nat}{q:Program}{loose:List Str}{XP:(Str→Option Value)→Heap→Prop}{YP:World→Heap→Prop}{d:DefRec}{K:Params→PySem.W.Frag}{CX:World→CXT}{sp:World→Sp}{x:Str}{T c:Addr}{ps:Array Value}
  (hn:l.most=some n) (hn2:n≤sizeLine) (hdf:d.params.defaults=[]) (hr:zK k callerA)
  (hY:∀(w:World) (h:Heap),YP w h→(K w.params).In h) (hYT:∀(w:World) (h:Heap),YP w h→h.get? T=some (PySem.W.tabObj ps))
  (hNo:∀w:World,(K w.params).lookup T=none) (hTab:∀w:World,∃o vs,(K w.params).lookup c=some o∧o.cls=.type "code"∧o.data=.fields vs∧vs[11]?=some (.ref T))
  (F:∀(w:World) (mg:Str→Option Value) (fa:Addr) (h:Heap),(K w.params).In h→h.Ns mainGlobals mg→mg d.name=some (.ref fa)→
   ∃fd:FuncData,(∀(s:Shared) (u:Value),BindsTo s fd ⟨[u],[]⟩ [(x,u)])∧
    ∀base:Heap,(K w.params).In base→base.Ns mainGlobals mg→base.BuiltinsAt mg T→zA l.prog w (K w.params) mg base (CX w) k fa fd [x] (sp w))
  (hsp:∀(w:World) (H:Hp) (a:Addr) (ns:List Int),ns.length≤n→fN T H→H T=some (.tbl ps)→SqL (K w.params) H a (ns.map V.int)→sp w [.ref a] H (fun v _=>v=.bl true) fun _ _ _=>False)
  (hCX:∀(w:World) (H:Hp) (s:Shared) (e:Value) (s':Shared),CX w [] H s (fun _ _ _=>False) e s'→False):
  PySem.W.WalkO q loose XP YP l.row.toRowW d [] (fun f vs=>PySem.call f vs):=by
 refine Att.attach_call hn hdf fun w s₀ s₁ mg mb fa o pm cd doc a vs ns G Y ho hd hcd hmg hobj hints hlen hg=>?_
 have KX:=hY w _ Y
 obtain⟨oc,cv,t2,t3,t4,t5⟩:=hTab w
 obtain⟨fd,hb,hF⟩:=F w mg fa _ KX G.T.g hmg
 exact jy KX G.T.g G.T.b G.T.builtins G.T.nolimit hg hobj hints (zx7 hlen hn2) hr (hYT w _ Y) (hNo w) ⟨c,oc,cv,KX _ _ t2,t3,t4,t5⟩ G.T.bmain hF hb (fun H hO hT hS=>hsp w H a ns hlen hO hT hS) fun H e s'=>hCX w H s₁ e s'
theorem TabAt.same {H H':Hp}(T:TabAt H)(h:∀a o,(∀xs,o≠.lst xs)→H a=some o→H' a=some o):TabAt H':=rp T h
section
variable {X:Cx}{pins:List (Addr×Obj)}{σ:St}{H:Hp}{s:Shared}{h':Heap}
theorem Inv.tblMore {t':Nat}{p:Addr}{ps more:Array Value}{H':Hp}(I:Inv X pins σ H s)(h:H p=some (.tbl ps))(k:∀b u,b≠p→s.heap.get? b=some u→h'.get? b=some u)(e:h'.get? p=some (PySem.W.tabObj (ps++more)))
  (hp:H' p=some (.tbl (ps++more))) (hH:∀b,b≠p→b<s.heap.objs.size→H' b=H b) (new:∀b o,s.heap.objs.size≤b→H' b=some o→yf X.prog X.w H' h' b o):
  Inv X pins σ H' {s with heap:=h',toks:=t'}:=by
 have ne:∀b,H b=none→b≠p:=fun b n z=>by rw[z,h] at n;cases n
 have nt:∀b o,H b=some o→(∀qs,o≠.tbl qs)→b≠p:=fun b o q n z=>by rw[z,h] at q;cases q;exact n _ rfl
 have lt:∀b o,H b=some o→b<s.heap.objs.size:=fun b o q=>by
  rcases zA6 b s.heap.objs.size with z|z
  ·exact z
  ·rw[I.hok.fresh z] at q;cases q
 have st:∀b o,H b=some o→(∀qs,o≠.tbl qs)→H' b=some o:=fun b o q n=>by rw[hH b (nt b o q n) (lt b o q)];exact q
 refine I.un ⟨fun b o q n _ _=>k b o (ne b n) q,fun b o q n _ _=>⟨o.slots,k b o (ne b n) q⟩,fun b o q n _=>by rw[hH b (ne b n) (zu0 q)];exact n,fun b o q _=>?_,fun b xs q=>st b _ q (fun _ z=>by cases z),fun b o u q=>st b _ q (fun _ z=>by cases z),fun b qs q=>?_⟩ fun b u q=>?_
 ·by_cases z:b=p
  ·exact⟨_,by rw[z];exact e⟩
  ·exact⟨o,k b o z q⟩
 ·by_cases z:b=p
  ·subst z
   rw[h] at q;cases q
   exact⟨more,hp⟩
  ·exact⟨#[],by rw[hH b z (lt b _ q),q];simp⟩
 ·by_cases z:b=p
  ·subst z
   rw[hp] at q;cases q
   exact e
  ·rcases zA6 b s.heap.objs.size with l|l
   ·rw[hH b z l] at q
    refine (I.hok b u q).stay (fun c v hc r=>k c v (fun w=>?_) r) (fun c r=>st c _ r fun _ z=>by cases z) fun c xs r=>st c _ r fun _ z=>by cases z
    subst w
    rcases hc with rfl|hc
    ·exact z rfl
    ·rw[h] at hc;cases hc
   ·exact new b u l q
def lE (f c:Addr)(qual:Str)(params:Arguments)(body:Expr)(scope:Scope)(clos:List (Str×Addr)):HO:=
 .ext fun h=>∃(pm ctv:Value),h.get? f=some (PySem.W.kla_obj "<lambda>" qual params body scope clos pm c ctv)
theorem bB {P:Program}{w:World}{H:Hp}{h:Heap}{c:Addr}(r:h.CodeRec (.ref c) xI):yf P w H h c (uR c):=by
 refine⟨r,?_,fun h1 h2 p k=>?_⟩
 ·obtain⟨c',o,vs,t,e1,e2,_⟩:=r
  cases e1
  exact⟨o,e2⟩
 ·obtain⟨c',o,vs,t,e1,e2,e3⟩:=p
  cases e1
  exact⟨c,o,vs,t,rfl,k _ e2,e3⟩
theorem gI {P:Program}{w:World}{H:Hp}{h:Heap}{f c:Addr}{qual:Str}{params:Arguments}{body:Expr}{scope:Scope}{clos:List (Str×Addr)}{pm ctv:Value}(r:h.get? f=some (PySem.W.kla_obj "<lambda>" qual params body scope clos pm c ctv)):yf P w H h f (lE f c qual params body scope clos):=
 ⟨⟨pm,ctv,r⟩,⟨_,r⟩,fun h1 h2 ⟨pm',ctv',p⟩ k=>⟨pm',ctv',k _ p⟩⟩
theorem mw {pos:Pos}{a b:Int}{c cv:Value}(l:List Value):TriplesOk l→codeAmong pos (l++[rawInt a,rawInt b,c])=some cv→codeAmong pos l=some cv∨cv=c:=by
 induction l using TriplesOk.induct with
 |case1=>
  intro _ h
  rw[zH1,rawInt,rawInt,codeAmong.eq_1] at h
  split at h
  ·cases h;exact .inr rfl
  ·rw[codeAmong.eq_2 _ _ (by intro _ _ _ _ _ _ z;cases z)] at h;cases h
 |case2 i t j u d rest ih=>
  intro ok h
  rw[TriplesOk.eq_2] at ok
  rw[zD6,zD6,zD6,codeAmong.eq_1] at h
  rw[codeAmong.eq_1]
  split at h
  ·rename_i z
   rw[if_pos z];exact .inl h
  ·rename_i z
   rw[if_neg z];exact ih ok h
 |case3 t h1 h2=>
  intro ok
  rw[TriplesOk.eq_3 t h1 h2] at ok
  exact ok.elim
theorem gD {params:Arguments}{body:Expr}{scope:Scope}{lpos:Pos}{clos:List (Str×Addr)}{c:Addr}(I:Inv X pins σ H s)(hcl:closureFor scope X.env=pure clos)(hgl:X.env.globals=mainGlobals)(hco:X.env.code=.ref c)(hhd:PySem.W.CodeHd X.base c yw)
  (hbi:X.base.BuiltinsAt X.mg yw) (hdf:defaultsOf params X.env=([],[])) (hq:X.env.qual++("<lambda>":Str)=xI) (hne:mainGlobals≠yw) (T:TabAt H) {Q:Value→Shared→Prop}
  (h:∀(f c':Addr) (H':Hp) (s':Shared),Inv X pins σ H' s'→TabAt H'→(∀a o,a≠yw→H a=some o→H' a=some o)→(∀a ps,H a=some (.tbl ps)→∃qs,H' a=some (.tbl qs))→H f=none→H' f=some (lE f c' xI params body scope clos)→H' c'=some (uR c')→Q (.ref f) s'):
  wpAny (model X.prog X.w) X.A (eval (.Lambda params body scope lpos) X.env) Q X.xe s:=by
 refine PySem.W.kla_eval hdf ?_
 rw[hq]
 obtain⟨ps,t1,t2,t3⟩:=T.ex
 have hT:s.heap.get? yw=some (PySem.W.tabObj ps):=I.hok _ _ t1
 have hb:∀b o,X.base.get? b=some o→s.heap.get? b=some o:=fun b o e=>(I.bs b o e).1
 have hhd':PySem.W.CodeHd s.heap c yw:=by
  obtain⟨o,vs,f1,f2,f3,f4,f5,f6,f7,e1,e2⟩:=hhd
  exact⟨o,vs,f1,f2,f3,f4,f5,f6,f7,hb _ _ e1,e2⟩
 have hbi':s.heap.BuiltinsAt X.mg yw:=by
  obtain⟨bm,o,e1,e2,e3,e4,e5,e6⟩:=hbi
  exact⟨bm,o,e1,e2,e3,e4,hb _ _ e5,e6⟩
 have hns:s.heap.Ns mainGlobals X.mg:=by
  obtain⟨o,es,ep,e,d,r⟩:=I.ok.mod.glob
  exact⟨o,es,ep,hb _ _ e,d,r⟩
 cases hc:codeAmong lpos ps.toList with
 |none=>
  refine PySem.W.kla_makeFunction hcl hgl hns hco hhd' hT t2 hc hne hbi' fun c' ctv h' tk ex l1 l2 cr ht=>?_
  have hlt:c'<(h'.push (PySem.W.kla_obj "<lambda>" xI params body scope clos ((X.mg "__name__").getD Value.none) c' ctv)).objs.size:=by rw[size_push'];omega
  have n1:(c':Addr)≠h'.objs.size:=zv4 l2
  have szT:yw<s.heap.objs.size:=zu0 hT
  have n2:(c':Addr)≠yw:=zA4 (zv1 szT l1)
  have lf:s.heap.objs.size≤h'.objs.size:=zz2 (Nat.lt_of_le_of_lt l1 l2)
  have n3:(h'.objs.size:Addr)≠yw:=zA4 (zv1 szT lf)
  let HN:Hp:=upd (upd (upd H h'.objs.size (lE h'.objs.size c' xI params body scope clos)) c' (uR c')) yw (.tbl (ps++#[rawInt ↑lpos.line,rawInt ↑lpos.col,Value.ref c']))
  have eP:HN yw=some (.tbl (ps++#[rawInt ↑lpos.line,rawInt ↑lpos.col,Value.ref c'])):=zh
  have eC:HN c'=some (uR c'):=by show upd _ _ _ _=_;rw[zg n2,zh]
  have eF:HN h'.objs.size=some (lE h'.objs.size c' xI params body scope clos):=by show upd _ _ _ _=_;rw[zg n3,zg n1.symm,zh]
  have old:∀b,b≠yw→b<s.heap.objs.size→HN b=H b:=fun b nb lb=>by
   show upd _ _ _ _=_
   rw[zg nb,zg (zv4 (zv1 lb l1)),zg (zv4 (zv1 lb lf))]
  have I1:Inv X pins σ HN {s with heap:=h'.push (PySem.W.kla_obj "<lambda>" xI params body scope clos ((X.mg "__name__").getD Value.none) c' ctv),toks:=tk}:=by
   refine I.tblMore (more:=#[rawInt ↑lpos.line,rawInt ↑lpos.col,Value.ref c']) t1 (fun b u nb e=>zt3 _ (ex b u nb e)) (zt3 _ ht) eP old fun b o lb e=>?_
   by_cases z1:b=h'.objs.size
   ·subst z1
    rw[eF] at e;cases e
    exact gI (zu7 _ rfl)
   ·by_cases z2:b=c'
    ·subst z2
     rw[eC] at e;cases e
     obtain⟨c2,o,vs,t,e1,e2,e3⟩:=cr
     cases e1
     exact bB ⟨_,o,vs,t,rfl,zt3 _ e2,e3⟩
    ·have nb:b≠yw:=fun z=>absurd lb (Nat.not_le_of_lt (z▸szT))
     have e':HN b=H b:=by show upd _ _ _ _=_;rw[zg nb,zg z2,zg z1]
     rw[e',I.hok.fresh lb] at e;cases e
  have stay:∀a o,a≠yw→H a=some o→HN a=some o:=fun a o no e=>by
   have la:a<s.heap.objs.size:=by
    rcases zA6 a s.heap.objs.size with z|z
    ·exact z
    ·rw[I.hok.fresh z] at e;cases e
   rw[old a no la];exact e
  refine h _ c' HN _ I1 ⟨_,eP,?_,fun pos cv hcv=>?_⟩ stay (fun a qs e=>?_) (I.hok.fresh lf) eF eC
  ·rw[Array.toList_append]
   exact TriplesOk_snoc _ _ _ _ t2
  ·rw[Array.toList_append] at hcv
   rcases mw _ t2 hcv with z|z
   ·obtain⟨c2,rfl,e2⟩:=t3 _ _ z
    exact⟨c2,rfl,stay _ _ (fun z=>by rw[z,t1] at e2;cases e2) e2⟩
   ·exact⟨c',z,eC⟩
  ·by_cases za:a=yw
   ·exact⟨_,by rw[za];exact eP⟩
   ·refine⟨qs,?_⟩
    rw[old a za (by
     rcases zA6 a s.heap.objs.size with z|z
     ·exact z
     ·rw[I.hok.fresh z] at e;cases e)]
    exact e
 |some cv=>
  obtain⟨c',rfl,t4⟩:=t3 _ _ hc
  refine PySem.W.kla_makeFunctionHit hcl hgl hns hco hhd' hT t2 hc hbi' fun ctv h' tk k l=>?_
  have hf:H h'.objs.size=none:=I.hok.fresh l
  have k2:∀b u,s.heap.get? b=some u→(h'.push (PySem.W.kla_obj "<lambda>" xI params body scope clos ((X.mg "__name__").getD Value.none) c' ctv)).get? b=some u:=fun b u e=>zt3 _ (k b u e)
  have I1:=I.laid (t':=tk) (o:=lE h'.objs.size c' xI params body scope clos) k2 l (gI (zu7 _ rfl))
  have n1:∀a o,H a=some o→a≠h'.objs.size:=fun a o e z=>by rw[z,hf] at e;cases e
  refine h _ c' _ _ I1 (T.same fun a o _ e=>by rw[zg (n1 a o e)];exact e) (fun a o _ e=>by rw[zg (n1 a o e)];exact e) (fun a qs e=>⟨qs,by rw[zg (n1 a _ e)];exact e⟩) hf zh ?_
  rw[zg (n1 _ _ t4)];exact t4
end
structure wk (x y:Str)(params:Arguments)(scope:Scope):Prop where
 kind:scope.kind=.function
 co:scope.isCoroutine=false
 gen:scope.isGenerator=false
 px:scope.names.lookup x=some .local
 py:scope.names.lookup y=some .free
 nocell:∀z∈scope.names,z.2≠NameKind.cell
 only:∀z∈scope.names,z.2=NameKind.free→z.1=y
 ne:x≠y
def pY (P:Program)(w:World)(K:PySem.W.Frag)(mg:Str→Option Value)(base:Heap)(x y:Str)(scope:Scope)(f c cl:Addr)(A:Around)(outer:List Env)(s:Shared)(H:Hp):Cx where
 prog:=P
 w:=w
 K:=K
 mg:=mg
 base:=base
 A:=A.deeper (PySem.W.envX xI scope s.heap.objs.size f (.ref c) [(y,cl)])
 N:=[x,y]
 s₀:=s
 H₀:=H
 env:=PySem.W.envX xI scope s.heap.objs.size f (.ref c) [(y,cl)]
 outer:=outer
 stack:=PySem.W.envX xI scope s.heap.objs.size f (.ref c) [(y,cl)]::outer
 ex:=[]
 calm:=true
 fn:=fun _=>false
 pn:=[]
 xe:=fun _ _=>False
theorem iy {P:Program}{w:World}{K:PySem.W.Frag}{mg:Str→Option Value}{base:Heap}{x y:Str}{params:Arguments}{scope:Scope}{f c cl:Addr}{A:Around}{outer:List Env}{s:Shared}{H:Hp}{h':Heap}{tk:Nat}{v l:V}{u ul:Value}
  (S:wk x y params scope) (hd:A.handled=none) (e0:uF P w K mg base A outer s H) (rv:RelV v u) (rl:RelV l ul) (hcl:s.heap.IsCell cl (some ul)) (fcl:H cl=none)
  (ns:h'.Ns s.heap.objs.size fun z=>[(x,u)].reverse.lookup z) (k:∀b o,s.heap.get? b=some o→h'.get? b=some o):
  Inv (pY P w K mg base x y scope f c cl A outer s H) [] [some v,some l] H {s with heap:=h',toks:=tk}:=by
 have noA:∀b:Addr,b∉(pY P w K mg base x y scope f c cl A outer s H).ex:=fun b z=>absurd (show b∈([]:List Addr) from z) (by simp)
 have one:∀z d,(pY P w K mg base x y scope f c cl A outer s H).env.cells.lookup z=some d→z=y∧d=cl:=fun z d h=>by
  have h:List.lookup z [(y,cl)]=some d:=h
  rw[zx0] at h
  split at h
  ·rename_i e
   cases h
   exact⟨eq_of_beq e,rfl⟩
  ·cases h
 have hit:(pY P w K mg base x y scope f c cl A outer s H).env.cells.lookup y=some cl:=by
  show List.lookup y [(y,cl)]=some cl
  simp[zx0]
 have cell':h'.IsCell cl (some ul):=by
  obtain⟨o,e1,e2⟩:=hcl
  exact⟨o,k _ _ e1,e2⟩
 refine⟨⟨e0.mod,S.kind,rfl,rfl,zt9 _,fun a b d h1 h2=>(one a d h1).1.trans (one b d h2).1.symm,fun z hz=>?_,fun z d hf _=>?_,fun _=>hd,Around.frames_deeper e0.frames,.inr ⟨rfl,rfl⟩,fun b z=>absurd z (noA b),e0.bs,e0.bsz,fun b _ _=>noA b,fun b z=>absurd z (noA b),e0.funs,e0.frf⟩,
  rfl,e0.bare,Un.kept k,⟨_,ns,fun i z v' h1 h2 h3=>?_⟩,fun z d h=>?_,e0.hok.fresh (zt9 _),fun z d h=>?_,fun p hp=>absurd (show p∈([]:List (Addr×Obj)) from hp) (by simp),e0.hok.kept k,rfl⟩
 ·have hz:scope.names.lookup z=some .cell∨scope.names.lookup z=some .free:=hz
  rcases hz with hz|hz
  ·exact absurd rfl (S.nocell _ (zx5 hz))
  ·have:z=y:=S.only _ (zx5 hz) rfl
   subst this
   exact⟨cl,hit⟩
 ·exact absurd (show false=true from hf) zu4
 ·have h1:([x,y]:List Str)[i]?=some z:=h1
  match i,h1,h2 with
  |0,h1,h2=>
   cases h1;cases h2
   exact⟨u,rv,.inl ⟨S.px,by simp[zx0]⟩⟩
  |1,h1,h2=>
   cases h1;cases h2
   exact⟨ul,rl,.inr ⟨.inr S.py,cl,hit,cell'⟩⟩
  |i+2,h1,h2=>simp at h1
 ·obtain⟨rfl,rfl⟩:=one z d h
  exact⟨_,cell'⟩
 ·obtain⟨rfl,rfl⟩:=one z d h
  exact fcl
theorem cJ {P:Program}{w:World}{K:PySem.W.Frag}{mg:Str→Option Value}{base:Heap}{x y:Str}{params:Arguments}{body:Expr}{scope:Scope}{f c cl:Addr}{A:Around}{outer:List Env}{s:Shared}{H:Hp}{v l:V}{u ul:Value}{k:Nat}{Q:VK}{t:TE}
  (S:wk x y params scope) (hr:zK k A) (e0:uF P w K mg base A outer s H) (hf:H f=some (lE f c xI params body scope [(y,cl)])) (hc:H c=some (uR c)) (hcl:s.heap.IsCell cl (some ul)) (fcl:H cl=none) (rv:RelV v u) (rl:RelV l ul)
  (hb:∀pm ctv,bindArgs (PySem.W.kla_fn "<lambda>" xI params body scope [(y,cl)] pm (.ref c) ctv) ⟨[u],[]⟩=pure [(x,u)])
  (ht:PE (pY P w K mg base x y scope f c cl A outer s H) body t) (hq:t [some v,some l] H Q):
  codeAny (model P w) A (.call (.ref f) ⟨[u],[]⟩) (CR CX0 outer P w H s Q E0) s:=by
 obtain⟨⟨pm,ctv,ho⟩,_,_⟩:=e0.hok _ _ hf
 have cr:s.heap.CodeRec (.ref c) xI:=(e0.hok _ _ hc).1
 have lim:s.heap.NoLimit:=e0.mod.nolimit.keeps fun b o e=>(e0.bs b o e).1
 refine PySem.W.kla_callFunE hr.depth ho rfl S.co S.gen rfl cr ?_
 rw[hb]
 refine zt6 ?_
 refine wpAny_newFunctionEnv S.nocell (fun z hz=>?_) (fun h' ns sb=>?_) S.kind
 ·rw[zw2.mp hz];exact S.px
 ·have kk:∀b o,s.heap.get? b=some o→h'.get? b=some o:=fun b o e=>sb.extBut b o (zv4 (zu0 e)) (zt3 _ e)
  refine⟨lim.keeps kk,PySem.W.kla_codeExpr ?_⟩
  have I:=iy (tk:=s.toks+[(x,u)].length) (f:=f) (c:=c) S hr.hd e0 rv rl hcl fcl ns kk
  refine zw4 (ht [] _ _ H _ I hq) (fun u' s' hs=>?_) fun e s' hs=>hs.elim
  obtain⟨v',H',J,r',q⟩:=hs
  exact⟨v',H',J.os,J.bare,J.base,J.hok,r',q⟩
open PySem.W SortA
section
variable {X:Cx}{pins:List (Addr×Obj)}{σ:St}{H:Hp}{s:Shared}
def dB (X:Cx)(H1 H2:Hp)(s1 s2:Shared):Prop:=∀b o,s1.heap.get? b=some o→H1 b=none→b∉frs X.stack→s2.heap.get? b=some o∧H2 b=none
structure cF (X:Cx)(pins:List (Addr×Obj))(σ:St)(H:Hp)(D kS:Addr)(e1:Nat)(ps:List (Int×Int))(i:Nat)(s':Shared):Prop where
 ex:∃(H':Hp) (ks:List Value) (xs:List V) (e:Nat),Inv X pins σ H' s'∧(∀a o,H a=some o→H' a=some o)∧s'.heap.get? D=some (seqObj "list" #[] e1)∧s'.heap.get? kS=some (seqObj "list" ks.toArray e)∧H' D=none∧H' kS=none∧Vals xs ks∧PrV H' xs (ps.take i)
theorem ig {A:Around}{E:Value→Shared→Prop}{vs:List Value}{ps:List (Int×Int)}{f D kS:Addr}{e1:Nat}{Q:PUnit→Shared→Prop}(hlen:vs.length=ps.length)(h64:vs.length<64)(nD:D∉frs X.stack)(nK:kS∉frs X.stack)(hne:D≠kS)
  (fK:∀H',H' kS=none→xq X pins H' kS)
  (hcall:∀i v,vs[i]?=some v→∀H1 s1,Inv X pins σ H1 s1→(∀a o,H a=some o→H1 a=some o)→
   wpAny (model X.prog X.w) A (call (.ref f) [v]) (fun u s2=>∃t H2,u=.ref t∧Inv X pins σ H2 s2∧(∀a o,H1 a=some o→H2 a=some o)∧H2 t=some (.tup [.int (at2 ps i).1,.int (at2 ps i).2])∧dB X H1 H2 s1 s2) (fun _ _=>False) s1)
  (h0:cF X pins σ H D kS e1 ps 0 s) (hQ:∀s',cF X pins σ H D kS e1 ps vs.length s'→Q PUnit.unit s'):
  wpAny (model X.prog X.w) A (forIn vs PUnit.unit fun x __s=>do
   let __do_lift ←(call (.ref f) [x]).attempt
   match __do_lift with
    |Except.ok k=>do
     Builtin.List.listUpdate (.ref kS) fun x=>x.push k
     pure (ForInStep.yield PUnit.unit)
    |Except.error e=>do
     rule "list.sort.key-raised"
     let made ←Builtin.List.listItems (.ref kS)
     Builtin.List.listUpdate (.ref kS) fun x=>#[]
     letGo made.toList.reverse [e]
     Builtin.List.listUpdate (Value.ref D) fun x=>vs.toArray
     throw e
     pure (ForInStep.yield PUnit.unit)) Q E s:=by
 refine ksk_fold (cF X pins σ H D kS e1 ps) vs 0 s h0 (fun j x s' hj hI=>?_) (fun s' hI=>hQ s' (by simpa using hI))
 obtain⟨H1,ks,xs,e,I1,st,eD,eK,fD,fK',rv,pr⟩:=hI.ex
 rw[Nat.zero_add] at pr ⊢
 have hjl:j<ps.length:=by rw[←hlen];exact (zt8.mp hj).1
 have lks:ks.length=j:=by rw[←rv.length,pr.len,zw8];omega
 refine zt2 (zE0 (zw4 (hcall j x hj H1 s' I1 st) (fun u s2 hu=>?_) fun _ _ z=>z.elim))
 obtain⟨t,H2,rfl,I2,st2,et,kp⟩:=hu
 obtain⟨eD2,fD2⟩:=kp D _ eD fD nD
 obtain⟨eK2,fK2⟩:=kp kS _ eK fK' nK
 refine zt2 (listUpdate_at eK2 rfl (zt6 ⟨rfl,?_⟩) (by rw[zu2,lks,zx4];omega) (by rw[Array.size_push,zu2,lks,zx4];omega))
 obtain⟨e',hk⟩:∃e',(s2.heap.update kS (Obj.mapSeq fun x=>x.push (Value.ref t))).get? kS=some (seqObj "list" (ks++[Value.ref t]).toArray e'):=by
  have:=zB0 eK2 fun x=>x.push (Value.ref t)
  rw[List.push_toArray] at this
  exact⟨_,this⟩
 have kk:∀b o,b∉[kS]→s2.heap.get? b=some o→(s2.heap.update kS (Obj.mapSeq fun x=>x.push (Value.ref t))).get? b=some o:=fun b o nb q=>(zu5 _ _ (zw7 (by simpa using nb))).trans q
 refine⟨H2,ks++[Value.ref t],xs++[V.ref t],e',I2.turnL (t':=s2.toks) kk (fun b hb=>by rw[zw2.mp hb];exact fK H2 fK2),fun a o q=>st2 a o (st a o q),kk D _ (by simpa using hne) eD2,hk,fD2,fK2,rv.append (.cons rfl .nil),?_⟩
 rw[zC8,zt5 hjl]
 refine PrV.app (pr.keep fun a p q z=>st2 _ _ z) ?_
 have ea:at2 ps j=ps[j]:=by unfold at2;rw[zt7,zt5 hjl];rfl
 rw[ea] at et
 exact .cons et .nil
theorem mE {A:Around}{E:Value→Shared→Prop}{vs:List Value}{ps:List (Int×Int)}{f D:Addr}{n:Nat}{Pf:PySem.Fin→Shared→Prop}(I:Inv X pins σ H s)(ho:s.heap.get? D=some (seqObj "list" vs.toArray n))(hlen:vs.length=ps.length)(h64:vs.length<64)(fD:H D=none)
  (nD:D∉frs X.stack) (fpD:∀H',H' D=none→xq X pins H' D)
  (hcall:∀i v,vs[i]?=some v→∀H1 s1,Inv X pins σ H1 s1→(∀a o,H a=some o→H1 a=some o)→
   wpAny (model X.prog X.w) A (call (.ref f) [v]) (fun u s2=>∃t H2,u=.ref t∧Inv X pins σ H2 s2∧(∀a o,H1 a=some o→H2 a=some o)∧H2 t=some (.tup [.int (at2 ps i).1,.int (at2 ps i).2])∧dB X H1 H2 s1 s2) (fun _ _=>False) s1)
  (h:∀out H' s' c,Srt vs ps out→Inv X pins σ H' s'→(∀a o,H a=some o→H' a=some o)→s'.heap.get? D=some (seqObj "list" out.toArray c)→H' D=none→Pf (.done (.ret .none)) s'):
  wpAny (model X.prog X.w) A (ksk_tree D (.ref f) false) Pf E s:=by
 have hD:D<s.heap.objs.size:=zu0 ho
 have s1:=zE2 s.heap D (Obj.mapSeq fun _=>(#[]:Array Value))
 obtain⟨e1,ho1⟩:∃e1,(s.heap.update D (Obj.mapSeq fun _=>(#[]:Array Value))).get? D=some (seqObj "list" #[] e1):=⟨_,zB0 ho fun _=>#[]⟩
 have hsz1:(s.heap.update D (Obj.mapSeq fun _=>(#[]:Array Value))).objs.size=s.heap.objs.size:=Heap.size_update _ _ _
 unfold ksk_tree
 refine zt2 (listItems_at ho rfl ?_)
 refine zt2 (listUpdate_at ho rfl ?_ (by rw[zu2,zx4];omega) (zv3 _))
 generalize hh1:s.heap.update D (Obj.mapSeq fun _=>(#[]:Array Value))=h1 at s1 ho1 hsz1
 refine zt2 (seqEpoch_at ho1 rfl ?_)
 refine zt2 (wpAny_newTuple ?_ (by show vs.length≤_;rw[zx4];omega))
 refine zt2 (wpAny_newList ?_ (zv3 _))
 refine zx6 ?_
 show wpAny (model X.prog X.w) A (ksk_rest D (.ref f) false vs.toArray e1 (.ref (h1.push (seqObj "tuple" vs.toArray 0)).objs.size)) Pf E {s with heap:=(h1.push (seqObj "tuple" vs.toArray 0)).push (seqObj "list" #[] 0)}
 have kS0:(h1.push (seqObj "tuple" vs.toArray 0)).objs.size=s.heap.objs.size+1:=by rw[size_push',hsz1]
 have eK0:((h1.push (seqObj "tuple" vs.toArray 0)).push (seqObj "list" #[] 0)).get? (h1.push (seqObj "tuple" vs.toArray 0)).objs.size=some (seqObj "list" #[] 0):=zu7 _ rfl
 have eD0:((h1.push (seqObj "tuple" vs.toArray 0)).push (seqObj "list" #[] 0)).get? D=some (seqObj "list" #[] e1):=zt3 _ (zt3 _ ho1)
 have k1:∀b o,b∉[D]→s.heap.get? b=some o→((h1.push (seqObj "tuple" vs.toArray 0)).push (seqObj "list" #[] 0)).get? b=some o:=fun b o hb e=>
  zt3 _ (zt3 _ ((s1.2 b (by simpa using hb)).trans e))
 have I0:Inv X pins σ H {s with heap:=(h1.push (seqObj "tuple" vs.toArray 0)).push (seqObj "list" #[] 0),toks:=s.toks}:=I.turnL k1 fun b hb=>by rw[zw2.mp hb];exact fpD H fD
 generalize (h1.push (seqObj "tuple" vs.toArray 0)).push (seqObj "list" #[] 0)=h2 at eK0 eD0 k1 I0
 generalize hkS:(h1.push (seqObj "tuple" vs.toArray 0)).objs.size=kS at kS0 eK0
 have lK:s.heap.objs.size≤kS:=by rw[kS0];exact zB7 _
 have fK:∀H',H' kS=none→xq X pins H' kS:=fun H' hn=>I.fpOk lK hn
 have nK:(kS:Addr)∉frs X.stack:=fun z=>by
  rcases zu1.mp (I.stkSub _ z) with q|q
  ·exact (I.fpOk (H':=fun _=>none) lK rfl).2.1 q
  ·exact (I.fpOk (H':=fun _=>none) lK rfl).2.2.1 q
 have hne:D≠kS:=zv4 (zv1 hD lK)
 have hK0:H kS=none:=I.hok.fresh lK
 unfold ksk_rest
 refine zt2 (wpAny_rule ?_)
 rw[zH6]
 refine zt2 (ig (s:={s with heap:=h2}) hlen h64 nD nK hne fK hcall ⟨H,[],[],0,I0,fun _ _ q=>q,eD0,eK0,fD,hK0,.nil,.nil⟩ fun s' hI=>?_)
 obtain⟨H1,ks,xs,e,I1,st,eD,eK,fD1,fK1,rv,pr⟩:=hI.ex
 rw[hlen,zD7] at pr
 have lks:ks.length=vs.length:=by rw[←rv.length,pr.len,hlen]
 refine zt2 (listItems_at eK rfl ?_)
 unfold ksk_end
 dsimp only
 rw[if_neg (by decide)]
 have P:Prs s'.heap ks ps:=pr.prs I1 rv
 have tail:∀(st':SortSt) (out:List Value),out.length≤64→Srt vs ps out→failedOf st'=none→(arrOf st').map (·.2)=out.toArray→wpAny (model X.prog X.w) A (ksk_tail D false e1 (.ref kS) st') Pf E s':=by
  intro st' out lo so hf hout
  unfold ksk_tail
  dsimp only
  rw[hout,hf]
  refine zt2 (listUpdate_at eK rfl ?_ (by rw[zu2,lks,zx4];omega) (zv3 _))
  have s3:=zE2 s'.heap kS (Obj.mapSeq fun _=>(#[]:Array Value))
  have eD3:(s'.heap.update kS (Obj.mapSeq fun _=>(#[]:Array Value))).get? D=some (seqObj "list" #[] e1):=(s3.2 D hne).trans eD
  have I3:Inv X pins σ H1 {s' with heap:=s'.heap.update kS (Obj.mapSeq fun _=>(#[]:Array Value)),toks:=s'.toks}:=I1.turnL (ch:=[kS]) (fun b o hb q=>(s3.2 b (by simpa using hb)).trans q) fun b hb=>by rw[zw2.mp hb];exact fK H1 fK1
  generalize s'.heap.update kS (Obj.mapSeq fun _=>(#[]:Array Value))=h3 at eD3 I3
  refine zt2 (wpAny_letGo ?_)
  refine zt2 (seqEpoch_at eD3 rfl ?_)
  rw[if_neg (by decide)]
  refine zt2 (listUpdate_at eD3 rfl ?_ (zv3 _) (by rw[zu2,zx4];omega))
  have s4:=zE2 h3 D (Obj.mapSeq fun _=>out.toArray)
  obtain⟨c4,eD4⟩:∃c4,(h3.update D (Obj.mapSeq fun _=>out.toArray)).get? D=some (seqObj "list" out.toArray c4):=⟨_,zB0 eD3 fun _=>out.toArray⟩
  simp only[bne_self_eq_false,zA5,zG2]
  have I4:=I3.turnL (ch:=[D]) (t':=s'.toks) (h':=h3.update D (Obj.mapSeq fun _=>out.toArray)) (fun b o hb q=>(s4.2 b (by simpa using hb)).trans q) fun b hb=>by rw[zw2.mp hb];exact fpD H1 fD1
  exact zt6 (h out H1 _ c4 so I4 st eD4 fD1)
 by_cases hn2:vs.toArray.size<2
 ·rw[if_pos hn2,if_pos hn2]
  have hv:vs.length<2:=by simpa using hn2
  refine zt2 (zt6 ?_)
  refine zt2 (zt6 ?_)
  dsimp only
  have so:Srt vs ps vs:=by
   match vs,ps,hv,hlen with
   |[],[],_,_=>exact⟨[],rfl,rfl,fun _ h=>by simp at h,.refl _,.nil⟩
   |[v],[p],_,_=>exact⟨[0],rfl,rfl,fun i h=>by simp at h;subst h;simp,.refl _,by simp⟩
   |_::_::_,_,hv,_=>simp only[zv0] at hv;omega
  refine tail _ vs (by omega) so rfl ?_
  rw[if_neg (by decide)]
  show (ks.toArray.zip vs.toArray).map (·.2)=vs.toArray
  apply Array.toList_inj.mp
  rw[Array.toList_map,Array.toList_zip]
  exact List.map_snd_zip (zG9 lks.symm)
 ·rw[if_neg hn2,if_neg hn2,if_neg (by decide)]
  have h2:2≤vs.length:=by simp at hn2;omega
  have ask:=me (prog:=X.prog) (w:=X.w) (A:=A) (s:=s') (by rw[lks];exact h2) P
   (R:=fun p s''=>Srt vs ps (p.toList.map fun i=>vs.getD i Value.none)∧s''=s') (fun ix a b c d=>⟨⟨ix,by simp,a,b,c,d⟩,rfl⟩)
  refine zt2 (zw4 ask (fun κ s0 hk=>?_) fun _ _ x=>x.elim)
  rw[lks] at hk
  refine zt2 (zw4 (kat_run (Q:=fun st' s''=>∃p:Array Nat,p.size=vs.length∧arrOf st'=p.map (kas_item (ks.toArray.zip vs.toArray))∧failedOf st'=none∧Srt vs ps (p.toList.map fun i=>vs.getD i Value.none)∧s''=s')
   lks h2 h64 (fun p' st' s'' a1 a2 a3 a4=>⟨p',a1,a2,a3,a4⟩) hk) ?_ fun _ _ e=>e)
  rintro⟨⟨⟩,st'⟩ s'' ⟨p,hp,har,hf,so,rfl⟩
  dsimp only
  exact tail st' _ (by rw[so.len,←hlen];omega) so hf (kat_snds lks har)
end
section
variable {X:Cx}{pins:List (Addr×Obj)}{σ:St}{H:Hp}{s:Shared}
theorem Inv.adopt {D:Addr}{o:HO}(I:Inv X pins σ H s)(fp:xq X pins H D)(new:yf X.prog X.w (upd H D o) s.heap D o):Inv X pins σ (upd H D o) s:=by
 have nD:=fp.1
 have st:∀b u,H b=some u→upd H D o b=some u:=fun b u e=>by rw[zg (zk e nD)];exact e
 have:=I.step (g':=s.gens) (t':=s.toks) (d':=s.drawn) (h':=s.heap) (H':=upd H D o) (ch:=[D]) (fun b hb=>by rw[zw2.mp hb];exact⟨fp.2.2.2.1,fp.2.1,fp.2.2.2.2.1,fp.2.2.2.2.2⟩) (fun b u _ _ _ e _=>e) (fun b u _ _ _ e _=>⟨u.slots,e⟩) (fun b u hb e n=>by rw[zg (by simpa using hb)];exact n)
  (fun b u _ e=>⟨u,e⟩) (fun b xs e=>st b _ e) (fun b u xs e=>st b _ e) (fun b ps e=>⟨#[],by rw[st b _ e];simp⟩) (fun m hm=>hm) (fun b u e=>?_) I.bare
 ·exact this
 ·by_cases hb:b=D
  ·subst hb;rw[zh] at e;cases e;exact new
  ·rw[zg hb] at e
   exact (I.hok b u e).stay (fun c v _ q=>q) (fun c q=>st c _ q) fun c xs q=>st c _ q
theorem qY {A:Around}{E:Value→Shared→Prop}{l f:Addr}{vs:List Value}{ps:List (Int×Int)}{Q:Value→Shared→Prop}(I:Inv X pins σ H s)(hl:s.heap.IsList l vs.toArray)(hlen:vs.length=ps.length)(h64:vs.length<64)
  (hcall:∀i v,vs[i]?=some v→∀H1 s1,Inv X pins σ H1 s1→(∀a o,H a=some o→H1 a=some o)→
   wpAny (model X.prog X.w) A.in1.in1 (call (.ref f) [v]) (fun u s2=>∃t H2,u=.ref t∧Inv X pins σ H2 s2∧(∀a o,H1 a=some o→H2 a=some o)∧H2 t=some (.tup [.int (at2 ps i).1,.int (at2 ps i).2])∧dB X H1 H2 s1 s2) (fun _ _=>False) s1)
  (h:∀D out H' s' c,s.heap.objs.size≤D→Srt vs ps out→Inv X pins σ H' s'→(∀a o,H a=some o→H' a=some o)→s'.heap.get? D=some (seqObj "list" out.toArray c)→H' D=none→xq X pins H' D→Q (.ref D) s'):
  wpAny (model X.prog X.w) A (call (.builtin "sorted") [.ref l] [("key",.ref f)]) Q E s:=by
 refine call_function_entry_kw kind_sorted plain_sorted entry_sorted (ksk_s1 _ _) ?_
 unfold Builtin.«sorted»
 refine zt2 (m:=checkCount "sorted" 1 1 _) (zt6 ?_)
 refine zt2 (collect_list hl ?_ (by rw[zx4];omega))
 refine zt2 (wpAny_newList ?_ (by rw[zx4];omega))
 have hsz:((s.heap.push (seqObj "list" #[] 0)).update s.heap.objs.size (Obj.mapSeq (·++vs.toArray))).objs.size=s.heap.objs.size+1:=by
  rw[Heap.size_update,size_push']
 have hoL:(((s.heap.push (seqObj "list" #[] 0)).update s.heap.objs.size (Obj.mapSeq (·++vs.toArray))).push (seqObj "list" vs.toArray 0)).get? (s.heap.objs.size+1)=some (seqObj "list" vs.toArray 0):=by
  rw[←hsz];exact zu7 _ rfl
 have keep:∀b o,s.heap.get? b=some o→(((s.heap.push (seqObj "list" #[] 0)).update s.heap.objs.size (Obj.mapSeq (·++vs.toArray))).push (seqObj "list" vs.toArray 0)).get? b=some o:=fun b o q=>by
  have hlt:b<s.heap.objs.size:=zu0 q
  rw[Heap.get?_push_ne _ _ _ (by rw[hsz];exact zv4 (Nat.lt_succ_of_lt hlt)),Heap.get?_update_ne _ _ _ _ (zv4 hlt),Heap.get?_push_ne _ _ _ (zv4 hlt)]
  exact q
 show wpAny _ _ _ _ _ {s with heap:=((s.heap.push (seqObj "list" #[] 0)).update s.heap.objs.size (Obj.mapSeq (·++vs.toArray))).push (seqObj "list" vs.toArray 0)}
 rw[hsz]
 have I1:Inv X pins σ H {s with heap:=((s.heap.push (seqObj "list" #[] 0)).update s.heap.objs.size (Obj.mapSeq (·++vs.toArray))).push (seqObj "list" vs.toArray 0),toks:=s.toks}:=I.kept keep
 have lD:s.heap.objs.size≤s.heap.objs.size+1:=zB7 _
 refine zt2 (zx6 (wpAny_call_entry_kw slot_list_sort ⟨_,hoL,rfl⟩ entry_list_sort ?body (ksk_l1 _ _)))
 case body=>
  rw[ksk_t1]
  refine mE (s:={s with heap:=((s.heap.push (seqObj "list" #[] 0)).update s.heap.objs.size (Obj.mapSeq (·++vs.toArray))).push (seqObj "list" vs.toArray 0)}) I1 hoL hlen h64 (I.hok.fresh lD) (fun z=>?_) (fun H' hn=>I.fpOk lD hn) hcall fun out H' s' c so I' st e fD=>?_
  ·rcases zu1.mp (I.stkSub _ z) with q|q
   ·exact (I.fpOk (H':=fun _=>none) lD rfl).2.1 q
   ·exact (I.fpOk (H':=fun _=>none) lD rfl).2.2.1 q
  ·exact⟨_,rfl,zt6 ⟨_,rfl,h _ out H' s' c lD so I' st e fD (I.fpOk lD fD)⟩⟩
end
section
variable {X:Cx}{a:Expr}{p pos kpos lpos p1 p2 p3 p4 p5 p6:Pos}{n1:Nat}{x y:Str}{params:Arguments}{scope:Scope}
abbrev pairE (x y:Str)(n1:Nat)(p1 p2 p3 p4 p5 p6:Pos):Expr:=.Tuple [.Subscript (.Name y p1) (.Name x p2) p3,.UnaryOp .USub (.Name x p4) p5] n1 p6
def keyOf (zs:List Int)(n:Int):Int×Int:=(zs.getD n.toNat 0,-n)
theorem bJ {P:Program}{w:World}{K:PySem.W.Frag}{mg:Str→Option Value}{base:Heap}{f c cl l:Addr}{A:Around}{outer:List Env}{s:Shared}{H:Hp}{u ul:Value}{k:Nat}{n:Int}{zs:List Int}
  (S:wk x y params scope) (hr:zK k A) (e0:uF P w K mg base A outer s H) (hf:H f=some (lE f c xI params (pairE x y n1 p1 p2 p3 p4 p5 p6) scope [(y,cl)])) (hc:H c=some (uR c)) (hcl:s.heap.IsCell cl (some ul)) (fcl:H cl=none) (rv:RelV (.int n) u) (rl:RelV (.ref l) ul)
  (hb:∀pm ctv,bindArgs (PySem.W.kla_fn "<lambda>" xI params (pairE x y n1 p1 p2 p3 p4 p5 p6) scope [(y,cl)] pm (.ref c) ctv) ⟨[u],[]⟩=pure [(x,u)])
  (hdx:(x == ("__debug__":Str))=false) (hdy:(y == ("__debug__":Str))=false) (hcx:(x == ("__classdict__":Str))=false) (hcy:(y == ("__classdict__":Str))=false)
  (hl:SqL K H l (zs.map V.int)) (h0:0≤n) (h1:n<zs.length):
  codeAny (model P w) A (.call (.ref f) ⟨[u],[]⟩) (CR CX0 outer P w H s (fun v H'=>∃t,v=.ref t∧H t=none∧H'=upd H t (.tup [.int (keyOf zs n).1,.int (keyOf zs n).2])) E0) s:=by
 obtain⟨j,rfl⟩:=zC2 h0
 have hj:j<zs.length:=by omega
 refine cJ S hr e0 hf hc hcl fcl rv rl hb (t:=_) (pd (zd (zP zS (yI (i:=1) rfl (Or.inr (Or.inr S.py)) hdy hcy) (yI (i:=0) rfl (Or.inl S.px) hdx hcx) (fun _ _=>rfl)) (zd (zm9 zb7 (yI (i:=0) rfl (Or.inl S.px) hdx hcx)) zr))) ?_
 refine⟨_,rfl,_,rfl,l,_,_,.int (zs.getD j 0),rfl,rfl,hl,wo ?_,_,rfl,_,rfl,(by show 2≤sizeLine;decide),fun t ht=>⟨t,rfl,ht,?_⟩⟩
 ·rw[zv2,zt5 hj,zt7,zt5 hj];rfl
 ·simp[keyOf]
def sT (ns zs ms:List Int):Prop:=ms.Perm ns∧ms.Pairwise fun m k=>lx (keyOf zs k) (keyOf zs m)=false
theorem fL {ns zs:List Int}{vs out:List Value}(r:Vals (ns.map V.int) vs)(h:Srt vs (ns.map (keyOf zs)) out):∃ms,sT ns zs ms∧Vals (ms.map V.int) out:=by
 obtain⟨ix,rfl,hl,hb,hp,hw⟩:=h
 have at_:∀i∈ix,at2 (ns.map (keyOf zs)) i=keyOf zs (ns.getD i 0):=fun i hi=>by
  have:=hb i hi
  rw[zt4] at this
  unfold at2
  rw[zt7,zv2,zt5 this,zt7,zt5 this];rfl
 have em:ix.map (at2 (ns.map (keyOf zs)))=(ix.map fun i=>ns.getD i 0).map (keyOf zs):=by
  rw[List.map_map]
  exact List.map_congr_left at_
 rw[em] at hp hw
 have inv:∀l:List Int,(l.map (keyOf zs)).map (fun q=>-q.2)=l:=fun l=>by
  rw[List.map_map]
  have:((fun q:Int×Int=>-q.2)∘keyOf zs)=id:=by funext n;simp[keyOf]
  rw[this,List.map_id]
 refine⟨ix.map fun i=>ns.getD i 0,⟨?_,List.pairwise_map.mp hw⟩,?_⟩
 ·have:=hp.map (fun q=>-q.2)
  rwa [inv,inv] at this
 ·clear em hp hw hl
  induction ix with
  |nil=>exact .nil
  |cons i ix ih=>
   refine .cons ?_ (ih (fun k hk=>hb k (zu3 _ hk)) fun k hk=>at_ k (zu3 _ hk))
   have hi:=hb i zv5
   rw[zt4] at hi
   refine nk r i _ ?_
   show _=some (V.int (ns.getD i 0))
   rw[zv2,zt5 hi,zt7,zt5 hi];rfl
theorem wB {K:PySem.W.Frag}{H H':Hp}{a:Addr}{xs:List V}(h:SqL K H a xs)(k:∀a o,(∀ps,o≠.tbl ps)→H a=some o→H' a=some o):SqL K H' a xs:=by
 rcases h with (h|⟨o,h⟩)|h
 ·exact .inl (.inl (k _ _ (fun _ z=>by cases z) h))
 ·exact .inl (.inr ⟨o,k _ _ (fun _ z=>by cases z) h⟩)
 ·exact .inr h
theorem mq {ta:TE}{j k:Nat}{c:Addr}(S:wk x y params scope)(hr:zK (k+2) X.A)(hg:Gl X "sorted")(hm:X.mg "sorted"=none)(hN:X.N[j]?=some y)(hy:X.env.scope.names.lookup y=some .cell)
  (hcl:∀cl,X.env.cells.lookup y=some cl→closureFor scope X.env=pure [(y,cl)]) (hgl:X.env.globals=mainGlobals) (hco:X.env.code=.ref c) (hhd:PySem.W.CodeHd X.base c yw) (hbi:X.base.BuiltinsAt X.mg yw) (hdf:defaultsOf params X.env=([],[])) (hq:X.env.qual++("<lambda>":Str)=xI) (hne:mainGlobals≠yw)
  (hb:∀u cl c' pm ctv,bindArgs (PySem.W.kla_fn "<lambda>" xI params (pairE x y n1 p1 p2 p3 p4 p5 p6) scope [(y,cl)] pm (.ref c') ctv) ⟨[u],[]⟩=pure [(x,u)])
  (hdx:(x == ("__debug__":Str))=false) (hdy:(y == ("__debug__":Str))=false) (hcx:(x == ("__classdict__":Str))=false) (hcy:(y == ("__classdict__":Str))=false) (ha:PE X a ta)
  (he:starEach [a] X.env=(false,eval a X.env)::starEach [] X.env:=by rfl) (he2:backTo pos (starEach [a] X.env)=(false,eval a X.env)::backTo pos (starEach [] X.env):=by rfl) (hpl:((backTo pos (starEach [a] X.env)).any fun x=>x.1)=false:=by rfl):
  PE X (.Call (.Name "sorted" p) [a] [⟨some "key",.Lambda params (pairE x y n1 p1 p2 p3 p4 p5 p6) scope lpos,kpos⟩] pos)
   (fun σ H Q=>ta σ H fun v H1=>∃l ns lp zs,v=.ref l∧SqL X.K H1 l (ns.map V.int)∧σ[j]?=some (some (.ref lp))∧SqL X.K H1 lp (zs.map V.int)∧ns.length<64∧(∀n∈ns,0≤n∧n<zs.length)∧TabAt H1∧
    ∀D H' ms,H1 D=none→H' D=some (.lst (ms.map V.int))→sT ns zs ms→TabAt H'→(∀a o,a≠yw→H1 a=some o→H' a=some o)→Q (.ref D) H'):=by
 intro pins s σ H Q I h
 refine zz8 (wq I hg hm boot_sorted ?_)
 let Pd:V→Hp→Prop:=fun v H1=>∃l ns lp zs,v=.ref l∧SqL X.K H1 l (ns.map V.int)∧σ[j]?=some (some (.ref lp))∧SqL X.K H1 lp (zs.map V.int)∧ns.length<64∧(∀n∈ns,0≤n∧n<zs.length)∧TabAt H1∧
    ∀D H' ms,H1 D=none→H' D=some (.lst (ms.map V.int))→sT ns zs ms→TabAt H'→(∀a o,a≠yw→H1 a=some o→H' a=some o)→Q (.ref D) H'
 refine callWith_kw (thn (zd ha zr he pos pins s σ H (fun vs H1=>match vs with|[v]=>Pd v H1|_=>False) I h) fun us s1 ⟨vs,H1,I1,r1,q1⟩=>?_) he2 hpl
 match vs,r1,q1 with
 |[v],r1,q1=>
  obtain⟨u,rfl,ru⟩:=vals1 r1
  obtain⟨l,ns,lp,zs,rfl,hS,hσ,hZ,h64,hin,T,q⟩:=(show Pd v H1 from q1)
  obtain⟨m,hn,hl⟩:=id I1.loc
  obtain⟨ul,rl,lk⟩:=hl j y _ hN hσ (.inr (.inl hy))
  obtain⟨cl,ecl,hcell⟩:∃cl,X.env.cells.lookup y=some cl∧s1.heap.IsCell cl (some ul):=by
   rcases lk with ⟨z,_⟩|⟨_,cl,z1,z2⟩
   ·have z:X.env.scope.names.lookup y=some .local:=z
    rw[hy] at z;cases z
   ·exact⟨cl,z1,z2⟩
  show wpAny _ _ (evalAll ((do let v ←eval (.Lambda params (pairE x y n1 p1 p2 p3 p4 p5 p6) scope lpos) X.env;standAt pos;pure v)::[])) _ _ s1
  refine wpAny_evalAll_cons (zt2 (gD I1 (hcl cl ecl) hgl hco hhd hbi hdf hq hne T fun f c' H2 s2 I2 T2 st2 tb2 hf hlam hcode=>zt2 (zD9 (zt6 (wpAny_evalAll_nil ?_)))))
  cases ru
  show wpAny _ _ (call (.builtin "sorted") [.ref l] [("key",.ref f)]) _ _ s2
  have st3:∀a o,(∀ps,o≠.tbl ps)→H1 a=some o→H2 a=some o:=fun a o no e=>st2 a o (fun z=>by
   obtain⟨ps,t1,_⟩:=T.ex
   rw[z,t1] at e;cases e;exact no _ rfl) e
  have S2:=wB hS st3
  have Z2:=wB hZ st3
  obtain⟨its,r,ht,hz⟩:=I2.list S2
  have lenI:its.length=ns.length:=by rw[←r.length,zt4]
  refine qY (ps:=ns.map (keyOf zs)) I2 ht.isList (by rw[zt4];exact lenI) (by omega) (fun i v hv H3 s3 I3 st3=>?_) fun D out H' s' c0 lD so I' st e fD fp=>?_
  ·have hi:i<ns.length:=by rw[←lenI];exact (zt8.mp hv).1
   have rv:RelV (.int ns[i]) v:=by
    have:=nk r i (.int ns[i]) (by rw[zv2,zt5 hi];rfl)
    rwa [zt7,hv] at this
   obtain⟨m3,hn3,hl3⟩:=id I3.loc
   obtain⟨ul3,rl3,lk3⟩:=hl3 j y _ hN hσ (.inr (.inl hy))
   have cell3:s3.heap.IsCell cl (some ul3):=by
    rcases lk3 with ⟨z,_⟩|⟨_,cl3,z1,z2⟩
    ·have z:X.env.scope.names.lookup y=some .local:=z
     rw[hy] at z;cases z
    ·rw[ecl] at z1;cases z1;exact z2
   have hb3:=hin ns[i] (zD5 hi)
   have ek:at2 (ns.map (keyOf zs)) i=keyOf zs ns[i]:=by
    unfold at2
    rw[zt7,zv2,zt5 hi];rfl
   rw[ek]
   have Z3:=wB Z2 fun a o _ e=>st3 a o e
   refine zC4 (zD0 (bJ S hr.in1.in1 I3.env0.in1.in1 (st3 _ _ hlam) (st3 _ _ hcode) cell3 (I3.freeC y cl ecl) rv rl3 (fun pm ctv=>hb _ _ _ pm ctv) hdx hdy hcx hcy Z3 hb3.1 hb3.2) fun rr s4 hq4=>?_)
   cases rr with
   |error e=>exact False.elim hq4
   |ok fl=>
    cases fl with
    |next=>exact False.elim hq4
    |brk=>exact False.elim hq4
    |cont=>exact False.elim hq4
    |ret u4=>
     obtain⟨v4,H4,os,bare,un,hok,r4,t,rfl,ht4,eH4⟩:=hq4
     cases r4
     obtain⟨hh,g,d,tk,os'⟩:=s4
     obtain rfl:os'=s3.os:=os
     refine⟨t,H4,rfl,I3.call (h':=hh) (g':=g) (d':=d) (t':=tk) (ch:=[]) un hok bare (fun b z=>absurd z (by simp)),fun a o e=>?_,by rw[eH4];exact zh,fun b o e n nf=>⟨un.keep b o e n nf (by simp),un.free b o e n (by simp)⟩⟩
     rw[eH4,zg (zk e ht4)];exact e
  ·obtain⟨ms,sm,rm⟩:=fL r so
   have nD:∀a o,H' a=some o→a≠D:=fun a o e z=>by rw[z,fD] at e;cases e
   have h2D:H2 D=none:=I2.hok.fresh lD
   have stD:∀a o,H2 a=some o→upd H' D (.lst (ms.map V.int)) a=some o:=fun a o e=>by rw[zg (nD a o (st a o e))];exact st a o e
   refine⟨.ref D,upd H' D (.lst (ms.map V.int)),I'.adopt fp ⟨?_,out,c0,rm,e⟩,rfl,q D _ ms ?_ zh sm (T2.same fun a o _ e=>stD a o e) fun a o no e=>stD a o (st2 a o no e)⟩
   ·rw[zt4,sm.1.length_eq,zx4];omega
   ·cases z:H1 D with
    |none=>rfl
    |some o=>
     by_cases nt:∀ps,o≠.tbl ps
     ·rw[st3 D o nt z] at h2D;cases h2D
     ·simp only[Classical.not_forall,Classical.not_not] at nt
      obtain⟨qs,rfl⟩:=nt
      obtain⟨qs',w'⟩:=tb2 D qs z
      rw[w'] at h2D;cases h2D
end
section
variable {X:Cx}{α:Ev}{p q pos:Pos}{a b:Expr}
theorem su {G:Hp}:∀ns:List Int,AVs G (ns.map V.int) (ns.map .int)
 |[]=>.nil
 |n::ns=>.cons (.int n) (su ns)
theorem fk {Q:List PyData→Prop}(hc:X.calm=true)(hg:Gl X "list")(hm:X.mg "list"=none)(hg2:Gl X "range")(hm2:X.mg "range"=none)(h:EvD X α a fun x=>EvD X α b fun y=>∃i j,x=.int i∧y=.int j∧(-(2 ^ 62)≤i∧i<2 ^ 62∧-(2 ^ 62)≤j∧j<2 ^ 62)∧(j-i).toNat≤1000∧Q ((zx i (j-i).toNat).map .int))
  (he:starEach [.Call (.Name "range" q) [a,b] [] p] X.env=(false,eval (.Call (.Name "range" q) [a,b] [] p) X.env)::starEach [] X.env:=by rfl) (he2:starEach [a,b] X.env=(false,eval a X.env)::starEach [b] X.env:=by rfl) (he3:starEach [b] X.env=(false,eval b X.env)::starEach [] X.env:=by rfl)
  (hpl:(backTo p (starEach [b] X.env)).any (·.1)=false:=by rfl) {p0:Pos}:EvL X α (.Call (.Name "list" p0) [.Call (.Name "range" q) [a,b] [] p] [] pos) Q:=fun F σ H R m k=>by
 refine⟨_,wj (rH hc) hg hm boot_list (zd (wj oF hg2 hm2 boot_range (zd zq (zd zq zr he3) he2) (he:=he2) (hpl:=hpl)) zr he) (he:=he),?_⟩
 refine h F σ H _ m fun x vx H1 q1 t1 k1 r1=>?_
 have m1:=m.kz k1 t1
 refine q1 F σ H1 _ m1 fun y vy H2 q2 t2 k2 r2=>?_
 have m2:=m1.kz k2 t2
 obtain⟨i,j,rfl,rfl,⟨b1,b2,b3,b4⟩,hz,q⟩:=q2
 cases r1.int_inv;cases r2.int_inv
 refine⟨i,j,rfl,fun r hr=>?_⟩
 refine⟨r,i,j,rfl,zh,⟨b1,b2,b3,b4⟩,zz2 (yM hz),by omega,fun l hl=>?_⟩
 have nlr:l≠r:=fun z=>by rw[z,zh] at hl;cases hl
 have hl':H2 l=none:=by rw[zg nlr] at hl;exact hl
 have kk:=k1.trans k2
 have s1:zy H2 (upd (upd H2 r (.rng i j)) l (.lst ((zx i (j-i).toNat).map V.int))):=(yD hr).trans (yD hl)
 refine k _ _ _ q (t2.same s1) (kk.trans (Kz.of_same s1)) ⟨l,_,rfl,?_,zh,su _⟩
 cases z:H l with
 |none=>rfl
 |some o=>rw[kk l o z (m.tp.nt (ow0 (m2.fresh hl')))] at hl';cases hl'
end
section
variable {X:Cx}{α:Ev}{p pos:Pos}{a b:Expr}{Q:PyData→Prop}
end
theorem AVs.ints {H:Hp}:∀{xs:List V} {ns:List Int},AVs H xs (ns.map .int)→xs=ns.map V.int
 |_,[],.nil=>rfl
 |_,n::ns,.cons h hs=>by rw[zy1,AVs.ints hs,h.int_inv]
section
variable {X:Cx}{α:Ev}{a:Expr}{p pos kpos lpos p1 p2 p3 p4 p5 p6:Pos}{n1:Nat}{x y:Str}{params:Arguments}{scope:Scope}
structure eR (X:Cx)(c:Addr)(x y:Str)(n1:Nat)(p1 p2 p3 p4 p5 p6:Pos)(params:Arguments)(scope:Scope):Prop where
 S:wk x y params scope
 hy:X.env.scope.names.lookup y=some .cell
 hcl:∀cl,X.env.cells.lookup y=some cl→closureFor scope X.env=pure [(y,cl)]
 hgl:X.env.globals=mainGlobals
 hco:X.env.code=.ref c
 hhd:PySem.W.CodeHd X.base c yw
 hbi:X.base.BuiltinsAt X.mg yw
 hdf:defaultsOf params X.env=([],[])
 hq:X.env.qual++("<lambda>":Str)=xI
 hne:mainGlobals≠yw
 hb:∀u cl c' pm ctv,bindArgs (PySem.W.kla_fn "<lambda>" xI params (pairE x y n1 p1 p2 p3 p4 p5 p6) scope [(y,cl)] pm (.ref c') ctv) ⟨[u],[]⟩=pure [(x,u)]
 hdx:(x == ("__debug__":Str))=false
 hdy:(y == ("__debug__":Str))=false
 hcx:(x == ("__classdict__":Str))=false
 hcy:(y == ("__classdict__":Str))=false
theorem ml {j k:Nat}{c:Addr}{Q:List PyData→Prop}(T:eR X c x y n1 p1 p2 p3 p4 p5 p6 params scope)(hr:zK (k+2) X.A)(hg:Gl X "sorted")(hm:X.mg "sorted"=none)(hN:X.N[j]?=some y)
  (h:EvD X α a fun d=>∃ns zs:List Int,d=.list (ns.map .int)∧α[j]?=some (some (.dat (.list (zs.map .int))))∧ns.length<64∧(∀n∈ns,0≤n∧n<zs.length)∧∀ms,sT ns zs ms→Q (ms.map .int))
  (he:starEach [a] X.env=(false,eval a X.env)::starEach [] X.env:=by rfl) (he2:backTo pos (starEach [a] X.env)=(false,eval a X.env)::backTo pos (starEach [] X.env):=by rfl) (hpl:((backTo pos (starEach [a] X.env)).any fun x=>x.1)=false:=by rfl):
  EvL X α (.Call (.Name "sorted" p) [a] [⟨some "key",.Lambda params (pairE x y n1 p1 p2 p3 p4 p5 p6) scope lpos,kpos⟩] pos) Q:=fun F σ H R m k=>by
 refine⟨_,mq (j:=j) T.S hr hg hm hN T.hy T.hcl T.hgl T.hco T.hhd T.hbi T.hdf T.hq T.hne T.hb T.hdx T.hdy T.hcx T.hcy zq he he2 hpl,?_⟩
 refine h F σ H _ m fun d vx H1 q1 t1 k1 r1=>?_
 have m1:=m.kz k1 t1
 obtain⟨ns,zs,rfl,hz,h64,hin,q⟩:=q1
 obtain⟨l,xs,rfl,g1,g2⟩:=r1.lst_inv
 obtain⟨v,s1,s2⟩:=m1.dat j _ hz
 obtain⟨lp,ys,rfl,g3,g4⟩:=s2.lst_inv
 cases g2.ints;cases g4.ints
 refine⟨l,ns,lp,zs,rfl,SqL.of (zj g1).2,s1,SqL.of (zj g3).2,h64,hin,t1.tab,fun D H' ms hD hD' sm tb kp=>?_⟩
 have tl:∀a xs,H1 a=some (.lst xs)→H' a=some (.lst xs):=fun a xs e=>kp a _ (fun z=>by
  obtain⟨ps,e1,_⟩:=t1.tab.ex
  rw[z,e1] at e;cases e) e
 have kz:Kz F H1 H':=fun x o e n=>kp x o n.2 e
 refine k _ _ H' (q ms sm) ⟨tb,t1.ot,fun t b c e=>⟨?_,(t1 t b c e).2⟩⟩ (k1.trans kz) ⟨D,_,rfl,?_,hD',su _⟩
 ·obtain⟨n,bs,cs,n1,e1,e2,e3,l1,l2⟩:=(t1 t b c e).1.ex
  exact⟨n,bs,cs,n1,tl _ _ e1,tl _ _ e2,tl _ _ e3,l1,l2⟩
 ·cases z:H D with
  |none=>rfl
  |some o=>rw[k1 D o z (m.tp.nt (ow0 (m1.fresh hD)))] at hD;cases hD
end
section
variable {P:Program}{w:World}{K:PySem.W.Frag}{mg:Str→Option Value}{base:Heap}
theorem zs6 {x qual:Str}{st:Stmt}{f:Addr}{N ps:List Str}{k:Nat}{φ:List A→(A→Prop)→Prop}{oc:Value}{od an:Option Addr}{osl:Array (Option Value)}{kV doc pm cdv ct:Value}
  (lk:K.lookup f=some ⟨oc,od,.func (PySem.W.fnOf x qual (zN st) (zw st) (zb st) .none kV doc pm an cdv ct),osl⟩) (hcd:PySem.W.codeIn K cdv qual=true) (S:zl N ps (zb st)) (hlen:∀as Q,φ as Q→as.length=ps.length)
  (hbody:∀(A':Around) (outer:List Env) (s:Shared) (H:Hp) (E:XK) (as:List A) (Q:A→Prop),zK k (A'.deeper (envOfC qual (zb st) s.heap.objs.size f cdv))→φ as Q→
   SvS (xy CX0 P w K mg base N qual (zb st) f cdv A' outer s H E).nox (as.map some++List.replicate (N.length-as.length) none) (zw st) {nx:=fun _=>Q (.dat .none),rt:=Q}):zA P w K mg base CX0 (k+1) f (PySem.W.fnOf x qual (zN st) (zw st) (zb st) .none kV doc pm an cdv ct) ps (spA φ):=by
 refine kE lk hcd S (fun vs H Q E h=>?_) (fun A' outer s H vs Qc E hr h=>?_)
 ·obtain⟨F,as,Q',_,_,_,rv,hφ,_⟩:=h
  rw[rv.length,hlen as _ hφ]
 ·obtain⟨F,as,Q',e,t,o,rv,hφ,kk⟩:=h
  have:=hbody A' outer s H E as Q' hr hφ F _ H {nx:=fun _ H'=>Qc .non H',rt:=Qc} (M.start e t o rv) ⟨fun α σ H' m q=>?_,fun a v H' r q=>kk a v H' q r,fun _ _ _ _ z=>z.elim,fun _ _ _ _ z=>z.elim⟩
  ·obtain⟨t,h,q⟩:=this
   exact⟨t,h.nox,q⟩
  ·exact kk _ _ _ q ⟨m.tp,m.keep,.non⟩
end
section
variable {X:Cx}{α:Ev}{Q:PyData→Prop}{a b:Expr}{pos:Pos}
end
theorem oz (c:Int)(n:Nat):zx c (n+1)=zx c n++[c+(n:Nat)]:=by
 simp[zx,List.range_succ]
theorem yJ {c m:Int}{n:Nat}:m∈zx c n↔c≤m∧m<c+n:=by
 simp only[zx,zH2,List.mem_range]
 constructor
 ·rintro⟨i,hi,rfl⟩;omega
 ·rintro⟨h1,h2⟩;exact⟨(m-c).toNat,by omega,by omega⟩
theorem rX (c:Int):∀n:Nat,(zx c n).Nodup
 |0=>by simp[zx]
 |n+1=>by
  rw[oz,List.nodup_append]
  refine⟨rX c n,by simp,?_⟩
  intro a ha b hb
  rw[yJ] at ha
  simp at hb
  omega
def vY (zs:List Int)(many free i:Nat)(bs:List Bool):Prop:=
 bs.length=zs.length∧(∀j,i / many*many≤j→bs.getD j false=false)∧∀k,k<i / many→∃ms:List Int,sT (zx ((k*many:Nat):Int) many) zs ms∧∀q,q<many→bs.getD (ms.getD q 0).toNat false=decide (q<free)
theorem jX (zs:List Int){many:Nat}(free:Nat):vY zs many free 0 (List.replicate zs.length false):=by
 refine⟨by simp,fun j _=>?_,fun k hk=>?_⟩
 ·rw[zt7,zy8]
  split<;>rfl
 ·rw[Nat.zero_div] at hk;omega
theorem sx {i many:Nat}(h:0<many)(h1:i % many+1<many):(i+1) / many=i / many∧(i+1) % many=i % many+1:=by
 have e:=zE7 i many
 have e2:i+1=(i % many+1)+many*(i / many):=by omega
 constructor
 ·rw[e2,Nat.add_mul_div_left _ _ h,Nat.div_eq_of_lt h1,Nat.zero_add]
 ·rw[e2,Nat.add_mul_mod_self_left,Nat.mod_eq_of_lt h1]
theorem nJ {i many:Nat}(h:0<many)(h1:i % many+1=many):(i+1) / many=i / many+1∧(i+1) % many=0∧(i / many+1)*many=i+1:=by
 have e:=zE7 i many
 have e3:many*(i / many+1)=i+1:=by rw[Nat.mul_add,Nat.mul_one];omega
 refine⟨?_,?_,?_⟩
 ·rw[←e3,Nat.mul_div_cancel_left _ h]
 ·rw[←e3,Nat.mul_mod_right]
 ·rw[Nat.mul_comm];exact e3
theorem jC {zs:List Int}{many free i:Nat}{bs:List Bool}(h:0<many)(h1:i % many+1<many)(m:vY zs many free i bs):vY zs many free (i+1) bs:=by
 unfold vY at *
 rw[(sx h h1).1]
 exact m
theorem vE {lo:Int}{n:Nat}{zs ms:List Int}(s:sT (zx lo n) zs ms){q:Nat}(h:q<n):lo≤ms.getD q 0∧ms.getD q 0<lo+n:=by
 have hl:ms.length=n:=by rw[s.1.length_eq,zi]
 have:ms.getD q 0∈ms:=by
  rw[zt7,zt5 (by omega)]
  exact zD5 _
 exact yJ.mp (s.1.mem_iff.mp this)
theorem ia {zs ms:List Int}{many free i:Nat}{bs bs':List Bool}(h:0<many)(h1:i % many+1=many)(m:vY zs many free i bs)(s:sT (zx ((i / many*many:Nat):Int) many) zs ms)
  (e0:bs'.length=bs.length) (e1:∀q,q<many→bs'.getD (ms.getD q 0).toNat false=decide (q<free)) (e2:∀j,(∀q,q<many→(ms.getD q 0).toNat≠j)→bs'.getD j false=bs.getD j false):vY zs many free (i+1) bs':=by
 obtain⟨d1,d2,d3⟩:=nJ h h1
 obtain⟨m1,m2,m3⟩:=m
 refine⟨by rw[e0,m1],fun j hj=>?_,fun k hk=>?_⟩
 ·rw[d1,d3] at hj
  have e:=zE7 i many
  have e4:i / many*many=many*(i / many):=Nat.mul_comm _ _
  rw[e2 j fun q hq=>?_,m2 j (by omega)]
  have:=vE s hq
  omega
 ·rw[d1] at hk
  by_cases hk2:k=i / many
  ·subst hk2
   exact⟨ms,s,e1⟩
  ·obtain⟨ms2,s2,f2⟩:=m3 k (by omega)
   refine⟨ms2,s2,fun q hq=>?_⟩
   rw[e2 _ fun q2 hq2=>?_,f2 q hq]
   have a1:=vE s hq2
   have a2:=vE s2 hq
   have:(k+1)*many≤i / many*many:=zD8 _ (by omega)
   rw[Nat.add_mul,Nat.one_mul] at this
   omega
theorem oM (f:Nat):∀n,((List.range n).map fun q=>decide (q<f)).count true=min f n
 |0=>by simp
 |n+1=>by
  rw[List.range_succ,zB1,List.count_append,oM f n]
  by_cases h:n<f
  ·simp[h];omega
  ·simp[h];omega
theorem au {α:Type}(l:List α)(d:α)(a n:Nat)(h:a+n≤l.length):(l.drop a).take n=(zx (a:Int) n).map fun m=>l.getD m.toNat d:=by
 apply List.ext_getElem
 ·simp[zi];omega
 ·intro i h1 h2
  have hi:i<n:=by simpa[zi] using h2
  simp only[zx,List.getElem_take,List.getElem_drop,List.getElem_map,List.getElem_range]
  rw[show ((a:Int)+(i:Nat)).toNat=a+i by omega,zt7,zt5 (by omega)]
  rfl
theorem uB {zs ms:List Int}{lo many free:Nat}{bs:List Bool}(s:sT (zx (lo:Int) many) zs ms)(hb:lo+many≤bs.length)(h:∀q,q<many→bs.getD (ms.getD q 0).toNat false=decide (q<free))(hf:free≤many):((bs.drop lo).take many).count true=free:=by
 have hl:ms.length=many:=by rw[s.1.length_eq,zi]
 rw[au bs false lo many hb,←(s.1.map fun m=>bs.getD m.toNat false).count_eq]
 have:ms.map (fun m=>bs.getD m.toNat false)=(List.range many).map fun q=>decide (q<free):=by
  apply List.ext_getElem
  ·simp[hl]
  ·intro i h1 h2
   have hi:i<many:=by simpa using h2
   simp only[List.getElem_map,List.getElem_range]
   have:=h i hi
   rw[zt7 (l:=ms),zt5 (by omega)] at this
   exact this
 rw[this,oM]
 omega
theorem zg6 {lo:Int}{n:Nat}{zs ms:List Int}(s:sT (zx lo n) zs ms){m:Int}(h1:lo≤m)(h2:m<lo+n):∃q,q<n∧ms.getD q 0=m:=by
 have hl:ms.length=n:=by rw[s.1.length_eq,zi]
 obtain⟨q,hq,e⟩:=List.mem_iff_getElem.mp (s.1.mem_iff.mpr (yJ.mpr ⟨h1,h2⟩))
 exact⟨q,by omega,by rw[zt7,zt5 hq];exact e⟩
open PySem (IsZip)
section
variable {prog:Program}{w:World}{A:Around}{E:Value→Shared→Prop}{s:Shared}
theorem oB {M:Model}{a:Addr}{Q:Option Obj→Shared→Prop}(h:Q (s.heap.get? a) s):wpAny M A (loadIfAlive a) Q E s:=fun Γ p hΓ=>by
 show Sem.wp M Γ (.loadIfAlive a .pure) _ _ p s
 rw[Sem.wp_loadIfAlive]
 exact h
abbrev zO (f0 f1:Value)(TI TO:Addr):Obj:={cls:=.type "zip",dict:=none,data:=.fields #[f0,f1,.bool false,.ref TI,.ref TO],slots:=#[]}
abbrev tO3 (a b c:Value):Obj:={cls:=.type "tuple",data:=.seq #[a,b,c]}
theorem wa {T:Addr}{a b c x:Value}{k:Nat}{Q:Unit→Shared→Prop}(hT:s.heap.get? T=some (tO3 a b c))
  (h:∀h',h'.get? T=some {cls:=.type "tuple",data:=.seq ((#[a,b,c]:Array Value).setIfInBounds k x)}→Heap.SameBut T s.heap h'→Q () {s with heap:=h'}):
  wpAny (model prog w) A (updateSeq T (·.setIfInBounds k x)) Q E s:=by
 refine zE8 hT rfl (h _ ?_ (zE2 ..))
 rw[zy2 _ hT rfl]
 simp[Obj.mapSeq]
structure wW (h:Heap)(n:Nat)(l1 l2 l3:Addr)(k:Nat)(f0 f1 a b c:Value):Prop where
 z:h.get? (n+5:Nat)=some (zO f0 f1 (n+3:Nat) (n+4:Nat))
 ti:h.get? (n+3:Nat)=some (tO3 (.ref (n:Nat)) (.ref (n+1:Nat)) (.ref (n+2:Nat)))
 to:h.get? (n+4:Nat)=some (tO3 a b c)
 i1:h.IsListIter (n:Nat) l1 k
 i2:h.IsListIter (n+1:Nat) l2 k
 i3:h.IsListIter (n+2:Nat) l3 k
abbrev z3 (n:Nat):List Addr:=[(n:Nat),(n+1:Nat),(n+2:Nat),(n+3:Nat),(n+4:Nat),(n+5:Nat)]
theorem zt (a b:Nat)(h:a<b∨b<a):@Ne Addr a b:=fun e=>by
 have e:@Eq Nat a b:=e
 omega
theorem mB {n l1 l2 l3:Nat}{k:Nat}{f1 a b c x y z:Value}{xs ys zs:Array Value}{Q:Value→Shared→Prop}(h1:l1<n)(h2:l2<n)(h3:l3<n)(Z:wW s.heap n l1 l2 l3 k .none f1 a b c)
  (hl1:s.heap.IsList l1 xs) (hl2:s.heap.IsList l2 ys) (hl3:s.heap.IsList l3 zs) (hx:xs[k]?=some x) (hy:ys[k]?=some y) (hz:zs[k]?=some z)
  (hQ:∀h',wW h' n l1 l2 l3 (k+1) (rawInt s.heap.objs.size) (.bool false) x y z→h'.get? s.heap.objs.size=some (tO3 x y z)→
   (∀c o,c∉z3 n→s.heap.get? c=some o→h'.get? c=some o)→Q (.ref s.heap.objs.size) {s with heap:=h'}):
  wpAny (model prog w) A (Builtin.«zip.__next__» ⟨[.ref (n+5:Nat)],[]⟩) (fun fin s'=>∃v,fin=.done (.ret v)∧Q v s') E s:=by
 obtain⟨hz0,hTI,hTO,g1,g2,g3⟩:=Z
 show wpAny _ _ (field (.ref _) 2 >>= _) _ _ _
 refine zt2 (zy4 hz0 rfl (x:=.bool false) rfl ?_)
 show wpAny _ _ (field (.ref _) 3 >>= _) _ _ _
 refine zt2 (zy4 hz0 rfl (x:=.ref (n+3:Nat)) rfl ?_)
 refine zt2 (zA2 hTI rfl ?_)
 show wpAny _ _ (Builtin.SmallTypes.ownedTupleIsFree (.ref (n+5:Nat)) >>= _) _ _ _
 refine zt2 ?_
 unfold Builtin.SmallTypes.ownedTupleIsFree
 refine zt2 (zy4 hz0 rfl (x:=.none) rfl (zt6 ?_))
 simp only[if_true]
 refine zt2 (wpAny_rule ?_)
 refine zt2 (zy4 hz0 rfl (x:=.ref (n+4:Nat)) rfl ?_)
 refine zt2 (zF1 hz0 (by simp) fun h₁ hz₁ hs₁=>?_)
 replace hz₁:h₁.get? (n+5:Nat)=some (zO .ellipsis f1 (n+3:Nat) (n+4:Nat)):=hz₁
 refine zt2 ?_
 simp only[List.zipIdx_cons,List.zipIdx_nil,zE4,zH5]
 refine zt2 (zt2 (wpAny_onRaise ?_))
 show wpAny _ _ (Builtin.SmallTypes.nextOf (.ref (n:Nat)) >>= _) _ _ _
 refine zt2 (zz3 (g1.extBut hs₁.extBut (by refine zt _ _ ?_;omega)) (hl1.extBut hs₁.extBut (by refine zt _ _ ?_;omega)) hx fun h₂ g1₂ hs₂=>zt6 ?_)
 have hTO₂:h₂.get? (n+4:Nat)=some (tO3 a b c):=hs₂.extBut _ _ (by refine zt _ _ ?_;omega) (hs₁.extBut _ _ (by refine zt _ _ ?_;omega) hTO)
 refine zt2 (zA2 hTO₂ rfl ?_)
 refine zt2 (wa hTO₂ fun h₃ hTO₃ hs₃=>?_)
 replace hTO₃:h₃.get? (n+4:Nat)=some (tO3 x b c):=hTO₃
 refine zt2 (wpAny_letGo (zt6 ?_))
 refine zt2 (zt2 (wpAny_onRaise ?_))
 show wpAny _ _ (Builtin.SmallTypes.nextOf (.ref (n+1:Nat)) >>= _) _ _ _
 refine zt2 (zz3 (((g2.extBut hs₁.extBut (by refine zt _ _ ?_;omega)).extBut hs₂.extBut (by refine zt _ _ ?_;omega)).extBut hs₃.extBut (by refine zt _ _ ?_;omega))
  (((hl2.extBut hs₁.extBut (by refine zt _ _ ?_;omega)).extBut hs₂.extBut (by refine zt _ _ ?_;omega)).extBut hs₃.extBut (by refine zt _ _ ?_;omega)) hy fun h₄ g2₄ hs₄=>zt6 ?_)
 have hTO₄:h₄.get? (n+4:Nat)=some (tO3 x b c):=hs₄.extBut _ _ (by refine zt _ _ ?_;omega) hTO₃
 refine zt2 (zA2 hTO₄ rfl ?_)
 refine zt2 (wa hTO₄ fun h₅ hTO₅ hs₅=>?_)
 replace hTO₅:h₅.get? (n+4:Nat)=some (tO3 x y c):=hTO₅
 refine zt2 (wpAny_letGo (zt6 ?_))
 refine zt2 (zt2 (wpAny_onRaise ?_))
 show wpAny _ _ (Builtin.SmallTypes.nextOf (.ref (n+2:Nat)) >>= _) _ _ _
 refine zt2 (zz3 (((((g3.extBut hs₁.extBut (by refine zt _ _ ?_;omega)).extBut hs₂.extBut (by refine zt _ _ ?_;omega)).extBut hs₃.extBut (by refine zt _ _ ?_;omega)).extBut hs₄.extBut (by refine zt _ _ ?_;omega)).extBut hs₅.extBut (by refine zt _ _ ?_;omega))
  (((((hl3.extBut hs₁.extBut (by refine zt _ _ ?_;omega)).extBut hs₂.extBut (by refine zt _ _ ?_;omega)).extBut hs₃.extBut (by refine zt _ _ ?_;omega)).extBut hs₄.extBut (by refine zt _ _ ?_;omega)).extBut hs₅.extBut (by refine zt _ _ ?_;omega)) hz fun h₆ g3₆ hs₆=>zt6 ?_)
 have hTO₆:h₆.get? (n+4:Nat)=some (tO3 x y c):=hs₆.extBut _ _ (by refine zt _ _ ?_;omega) hTO₅
 refine zt2 (zA2 hTO₆ rfl ?_)
 refine zt2 (wa hTO₆ fun h₇ hTO₇ hs₇=>?_)
 replace hTO₇:h₇.get? (n+4:Nat)=some (tO3 x y z):=hTO₇
 refine zt2 (wpAny_letGo (zt6 (zt6 ?_)))
 refine zt2 (zA2 hTO₇ rfl ?_)
 refine zt2 (wpAny_newTuple ?_)
 have hsz:h₇.objs.size=s.heap.objs.size:=by rw[hs₇.1,hs₆.1,hs₅.1,hs₄.1,hs₃.1,hs₂.1,hs₁.1]
 have up7:∀c o,c≠(n+5:Nat)→c≠(n:Nat)→c≠(n+4:Nat)→c≠(n+1:Nat)→c≠(n+2:Nat)→s.heap.get? c=some o→h₇.get? c=some o:=fun c o c1 c2 c3 c4 c5 e=>
  hs₇.extBut _ _ c3 (hs₆.extBut _ _ c5 (hs₅.extBut _ _ c3 (hs₄.extBut _ _ c4 (hs₃.extBut _ _ c3 (hs₂.extBut _ _ c2 (hs₁.extBut _ _ c1 e))))))
 have hz₇:h₇.get? (n+5:Nat)=some (zO .ellipsis f1 (n+3:Nat) (n+4:Nat)):=hs₇.extBut _ _ (by refine zt _ _ ?_;omega) (hs₆.extBut _ _ (by refine zt _ _ ?_;omega) (hs₅.extBut _ _ (by refine zt _ _ ?_;omega) (hs₄.extBut _ _ (by refine zt _ _ ?_;omega) (hs₃.extBut _ _ (by refine zt _ _ ?_;omega) (hs₂.extBut _ _ (by refine zt _ _ ?_;omega) hz₁)))))
 have g1₇:h₇.IsListIter (n:Nat) l1 (k+1):=((((g1₂.extBut hs₃.extBut (by refine zt _ _ ?_;omega)).extBut hs₄.extBut (by refine zt _ _ ?_;omega)).extBut hs₅.extBut (by refine zt _ _ ?_;omega)).extBut hs₆.extBut (by refine zt _ _ ?_;omega)).extBut hs₇.extBut (by refine zt _ _ ?_;omega)
 have g2₇:h₇.IsListIter (n+1:Nat) l2 (k+1):=((g2₄.extBut hs₅.extBut (by refine zt _ _ ?_;omega)).extBut hs₆.extBut (by refine zt _ _ ?_;omega)).extBut hs₇.extBut (by refine zt _ _ ?_;omega)
 have g3₇:h₇.IsListIter (n+2:Nat) l3 (k+1):=g3₆.extBut hs₇.extBut (by refine zt _ _ ?_;omega)
 have hTI₇:=up7 _ _ (by refine zt _ _ ?_;omega) (by refine zt _ _ ?_;omega) (by refine zt _ _ ?_;omega) (by refine zt _ _ ?_;omega) (by refine zt _ _ ?_;omega) hTI
 have hzlt:(n+5:Nat)<h₇.objs.size:=zu0 hz₇
 show wpAny _ _ (Builtin.SmallTypes.ownedTupleHandOut (.ref (n+5:Nat)) (.ref h₇.objs.size) >>= _) _ _ _
 refine zt2 ?_
 unfold Builtin.SmallTypes.ownedTupleHandOut
 have hz₈:(h₇.push {cls:=.type "tuple",data:=.seq #[x,y,z]}).get? (n+5:Nat)=some (zO .ellipsis f1 (n+3:Nat) (n+4:Nat)):=zt3 _ hz₇
 refine zt2 (zF1 hz₈ (by simp) fun h₉ hz₉ hs₉=>?_)
 replace hz₉:h₉.get? (n+5:Nat)=some (zO (rawInt h₇.objs.size) f1 (n+3:Nat) (n+4:Nat)):=hz₉
 refine zF1 hz₉ (by simp) fun hA hzA hsA=>?_
 replace hzA:hA.get? (n+5:Nat)=some (zO (rawInt h₇.objs.size) (.bool false) (n+3:Nat) (n+4:Nat)):=hzA
 have up:∀c o,c≠(n+5:Nat)→h₇.get? c=some o→hA.get? c=some o:=fun c o c1 e=>hsA.extBut _ _ c1 (hs₉.extBut _ _ c1 (zt3 _ e))
 have hTA:hA.get? h₇.objs.size=some (tO3 x y z):=hsA.extBut _ _ (zA4 hzlt) (hs₉.extBut _ _ (zA4 hzlt) (zu7 _ rfl))
 rw[hsz] at hzA hTA
 refine zt6 ⟨_,rfl,?_⟩
 show Q (.ref h₇.objs.size) _
 rw[hsz]
 refine hQ hA ⟨hzA,up _ _ (by refine zt _ _ ?_;omega) hTI₇,up _ _ (by refine zt _ _ ?_;omega) hTO₇,g1₇.at fun o e=>up _ o (by refine zt _ _ ?_;omega) e,g2₇.at fun o e=>up _ o (by refine zt _ _ ?_;omega) e,g3₇.at fun o e=>up _ o (by refine zt _ _ ?_;omega) e⟩ hTA fun c o hc e=>?_
 simp only[z3,zu1,zu8,zx1,not_or] at hc
 exact up c o hc.2.2.2.2.2 (up7 c o hc.2.2.2.2.2 hc.1 hc.2.2.2.2.1 hc.2.1 hc.2.2.1 e)
theorem rW {n l1 l2 l3 k T:Nat}{f1 a b c:Value}{ot:Obj}{Q:Bool→Shared→Prop}(h1:l1<n)(h2:l2<n)(h3:l3<n)(Z:wW s.heap n l1 l2 l3 k (rawInt (T:Nat)) f1 a b c)(hT:s.heap.get? T=some ot)
  (hQ:∀h' f1',wW h' n l1 l2 l3 k (rawInt (T:Nat)) f1' a b c→h'.objs.size=s.heap.objs.size→(∀c o,c≠(n+5:Nat)→s.heap.get? c=some o→h'.get? c=some o)→Q false {s with heap:=h'}):
  wpAny (model prog w) A (Builtin.SmallTypes.ownedTupleIsFree (.ref (n+5:Nat))) Q E s:=by
 obtain⟨hz0,hTI,hTO,g1,g2,g3⟩:=Z
 unfold Builtin.SmallTypes.ownedTupleIsFree
 refine zt2 (zy4 hz0 rfl (x:=rawInt (T:Nat)) rfl ?_)
 show wpAny _ _ (loadIfAlive ((T:Int).toNat) >>= _) _ _ _
 refine zt2 (oB ?_)
 rw[show ((T:Int).toNat)=T from zF9 T,hT]
 show wpAny _ _ (field (.ref (n+5:Nat)) 1 >>= _) _ _ _
 refine zt2 (zy4 hz0 rfl (x:=f1) rfl ?_)
 refine wpAny_ite_split (fun _=>?_) (fun _=>?_)
 ·refine zt2 (zF1 hz0 (by simp) fun h₁ hz₁ hs₁=>zt6 ?_)
  replace hz₁:h₁.get? (n+5:Nat)=some (zO (rawInt (T:Nat)) (.bool true) (n+3:Nat) (n+4:Nat)):=hz₁
  exact hQ h₁ _ ⟨hz₁,hs₁.extBut _ _ (by refine zt _ _ ?_;omega) hTI,hs₁.extBut _ _ (by refine zt _ _ ?_;omega) hTO,g1.extBut hs₁.extBut (by refine zt _ _ ?_;omega),g2.extBut hs₁.extBut (by refine zt _ _ ?_;omega),g3.extBut hs₁.extBut (by refine zt _ _ ?_;omega)⟩ hs₁.1 fun c o hc e=>hs₁.extBut _ _ hc e
 ·exact zt6 (hQ s.heap f1 ⟨hz0,hTI,hTO,g1,g2,g3⟩ rfl fun _ _ _ e=>e)
theorem iH {n l1 l2 l3 k T:Nat}{f1 a b c x y z:Value}{ot:Obj}{xs ys zs:Array Value}{Q:Value→Shared→Prop}(h1:l1<n)(h2:l2<n)(h3:l3<n)(Z:wW s.heap n l1 l2 l3 k (rawInt (T:Nat)) f1 a b c)(hT:s.heap.get? T=some ot)
  (hl1:s.heap.IsList l1 xs) (hl2:s.heap.IsList l2 ys) (hl3:s.heap.IsList l3 zs) (hx:xs[k]?=some x) (hy:ys[k]?=some y) (hz:zs[k]?=some z)
  (hQ:∀h' f1',wW h' n l1 l2 l3 (k+1) (rawInt (T:Nat)) f1' a b c→h'.get? s.heap.objs.size=some (tO3 x y z)→
   (∀c o,c∉z3 n→s.heap.get? c=some o→h'.get? c=some o)→Q (.ref s.heap.objs.size) {s with heap:=h'}):
  wpAny (model prog w) A (Builtin.«zip.__next__» ⟨[.ref (n+5:Nat)],[]⟩) (fun fin s'=>∃v,fin=.done (.ret v)∧Q v s') E s:=by
 show wpAny _ _ (field (.ref _) 2 >>= _) _ _ _
 refine zt2 (zy4 Z.z rfl (x:=.bool false) rfl ?_)
 show wpAny _ _ (field (.ref _) 3 >>= _) _ _ _
 refine zt2 (zy4 Z.z rfl (x:=.ref (n+3:Nat)) rfl ?_)
 refine zt2 (zA2 Z.ti rfl ?_)
 show wpAny _ _ (Builtin.SmallTypes.ownedTupleIsFree (.ref (n+5:Nat)) >>= _) _ _ _
 refine zt2 (rW h1 h2 h3 Z hT fun hB f1' ZB szB kB=>?_)
 obtain⟨hz0,hTI,hTO,g1,g2,g3⟩:=ZB
 replace hl1:hB.IsList l1 xs:=hl1.at fun o e=>kB _ o (by refine zt _ _ ?_;omega) e
 replace hl2:hB.IsList l2 ys:=hl2.at fun o e=>kB _ o (by refine zt _ _ ?_;omega) e
 replace hl3:hB.IsList l3 zs:=hl3.at fun o e=>kB _ o (by refine zt _ _ ?_;omega) e
 simp only[zA5,zG2]
 rw[zH6]
 simp only[zE4,zH5]
 refine zt2 (zt2 (zt2 (zx6 ?_)))
 show wpAny _ _ (Builtin.SmallTypes.nextOf (.ref (n:Nat)) >>= _) _ _ _
 refine zt2 (zz3 g1 hl1 hx fun h₂ g1₂ hs₂=>zt6 (zt6 ?_))
 refine zt2 (zt2 (zx6 ?_))
 show wpAny _ _ (Builtin.SmallTypes.nextOf (.ref (n+1:Nat)) >>= _) _ _ _
 refine zt2 (zz3 (g2.extBut hs₂.extBut (by refine zt _ _ ?_;omega)) (hl2.extBut hs₂.extBut (by refine zt _ _ ?_;omega)) hy fun h₄ g2₄ hs₄=>zt6 (zt6 ?_))
 refine zt2 (zt2 (zx6 ?_))
 show wpAny _ _ (Builtin.SmallTypes.nextOf (.ref (n+2:Nat)) >>= _) _ _ _
 refine zt2 (zz3 ((g3.extBut hs₂.extBut (by refine zt _ _ ?_;omega)).extBut hs₄.extBut (by refine zt _ _ ?_;omega)) ((hl3.extBut hs₂.extBut (by refine zt _ _ ?_;omega)).extBut hs₄.extBut (by refine zt _ _ ?_;omega)) hz fun h₆ g3₆ hs₆=>zt6 (zt6 (zt6 ?_)))
 refine zt2 (wpAny_newTuple ?_ (by show 3≤sizeLine;decide))
 have hsz:h₆.objs.size=s.heap.objs.size:=by rw[hs₆.1,hs₄.1,hs₂.1];exact szB
 have up6:∀c o,c≠(n:Nat)→c≠(n+1:Nat)→c≠(n+2:Nat)→hB.get? c=some o→h₆.get? c=some o:=fun c o c1 c2 c3 e=>hs₆.extBut _ _ c3 (hs₄.extBut _ _ c2 (hs₂.extBut _ _ c1 e))
 have up:∀c o,h₆.get? c=some o→(h₆.push {cls:=.type "tuple",data:=.seq #[x,y,z]}).get? c=some o:=fun c o e=>zt3 _ e
 have g1₆:h₆.IsListIter (n:Nat) l1 (k+1):=(g1₂.extBut hs₄.extBut (by refine zt _ _ ?_;omega)).extBut hs₆.extBut (by refine zt _ _ ?_;omega)
 have g2₆:h₆.IsListIter (n+1:Nat) l2 (k+1):=g2₄.extBut hs₆.extBut (by refine zt _ _ ?_;omega)
 refine zt6 ⟨_,rfl,?_⟩
 show Q (.ref h₆.objs.size) _
 rw[hsz]
 refine hQ _ f1' ⟨up _ _ (up6 _ _ (by refine zt _ _ ?_;omega) (by refine zt _ _ ?_;omega) (by refine zt _ _ ?_;omega) hz0),up _ _ (up6 _ _ (by refine zt _ _ ?_;omega) (by refine zt _ _ ?_;omega) (by refine zt _ _ ?_;omega) hTI),up _ _ (up6 _ _ (by refine zt _ _ ?_;omega) (by refine zt _ _ ?_;omega) (by refine zt _ _ ?_;omega) hTO),g1₆.at fun o e=>up _ o e,g2₆.at fun o e=>up _ o e,g3₆.at fun o e=>up _ o e⟩ ?_ fun c o hc e=>?_
 ·rw[←hsz];exact zu7 _ rfl
 ·simp only[z3,zu1,zu8,zx1,not_or] at hc
  exact up c o (up6 c o hc.1 hc.2.1 hc.2.2.1 (kB c o hc.2.2.2.2.2 e))
theorem cc {n l1 l2 l3 k T:Nat}{f1 a b c:Value}{ot:Obj}{xs:Array Value}{Q:PySem.Fin→Shared→Prop}(hh:A.handled=none)(h1:l1<n)(h2:l2<n)(h3:l3<n)(Z:wW s.heap n l1 l2 l3 k (rawInt (T:Nat)) f1 a b c)(hT:s.heap.get? T=some ot)
  (hl1:s.heap.IsList l1 xs) (hx:xs[k]?=none)
  (hE:∀h' e,(∀c o,c∉z3 n→s.heap.get? c=some o→h'.get? c=some o)→(∃o,h'.get? e=some o∧o.cls=.type "StopIteration")→E (.ref e) {s with heap:=h'}):
  wpAny (model prog w) A (Builtin.«zip.__next__» ⟨[.ref (n+5:Nat)],[]⟩) Q E s:=by
 show wpAny _ _ (field (.ref _) 2 >>= _) _ _ _
 refine zt2 (zy4 Z.z rfl (x:=.bool false) rfl ?_)
 show wpAny _ _ (field (.ref _) 3 >>= _) _ _ _
 refine zt2 (zy4 Z.z rfl (x:=.ref (n+3:Nat)) rfl ?_)
 refine zt2 (zA2 Z.ti rfl ?_)
 show wpAny _ _ (Builtin.SmallTypes.ownedTupleIsFree (.ref (n+5:Nat)) >>= _) _ _ _
 refine zt2 (rW h1 h2 h3 Z hT fun hB f1' ZB szB kB=>?_)
 replace hl1:hB.IsList l1 xs:=hl1.at fun o e=>kB _ o (by refine zt _ _ ?_;omega) e
 simp only[zA5,zG2]
 rw[zH6]
 simp only[zE4,zH5]
 refine zt2 (zt2 (zt2 (zx6 ?_)))
 show wpAny _ _ (Builtin.SmallTypes.nextOf (.ref (n:Nat)) >>= _) _ _ _
 refine zt2 (wpAny_nextOf_list_end hh ZB.i1 hl1 hx fun h₂ e hs₂ he=>?_)
 refine hE h₂ e (fun c o hc q=>?_) he
 simp only[z3,zu1,zu8,zx1,not_or] at hc
 exact hs₂ _ _ hc.1 (kB _ _ hc.2.2.2.2.2 q)
theorem oC {n l1 l2 l3 k:Nat}{f1 a b c x y z:Value}{xs ys zs:Array Value}{Q:Option Value→Shared→Prop}(h1:l1<n)(h2:l2<n)(h3:l3<n)(Z:wW s.heap n l1 l2 l3 k .none f1 a b c)
  (hl1:s.heap.IsList l1 xs) (hl2:s.heap.IsList l2 ys) (hl3:s.heap.IsList l3 zs) (hx:xs[k]?=some x) (hy:ys[k]?=some y) (hz:zs[k]?=some z)
  (hQ:∀h',wW h' n l1 l2 l3 (k+1) (rawInt s.heap.objs.size) (.bool false) x y z→h'.get? s.heap.objs.size=some (tO3 x y z)→
   (∀c o,c∉z3 n→s.heap.get? c=some o→h'.get? c=some o)→Q (some (.ref s.heap.objs.size)) {s with heap:=h'}):
  wpAny (model prog w) A (pyNext (.ref (n+5:Nat))) Q E s:=by
 have hT:s.TypeIs (.ref (n+5:Nat)) "zip":=⟨_,Z.z,rfl⟩
 unfold pyNext
 exact zt2 (zE0 (zF5 (name:=Str.ofString "__next__") hT zy6
  (zG4 zy6 hT zG0
   (mB h1 h2 h3 Z hl1 hl2 hl3 hx hy hz fun h' a1 a2 a3=>zt6 (hQ h' a1 a2 a3)) (zF6 _))))
theorem mz {n l1 l2 l3 k T:Nat}{f1 a b c x y z:Value}{ot:Obj}{xs ys zs:Array Value}{Q:Option Value→Shared→Prop}(h1:l1<n)(h2:l2<n)(h3:l3<n)(Z:wW s.heap n l1 l2 l3 k (rawInt (T:Nat)) f1 a b c)(hT:s.heap.get? T=some ot)
  (hl1:s.heap.IsList l1 xs) (hl2:s.heap.IsList l2 ys) (hl3:s.heap.IsList l3 zs) (hx:xs[k]?=some x) (hy:ys[k]?=some y) (hz:zs[k]?=some z)
  (hQ:∀h' f1',wW h' n l1 l2 l3 (k+1) (rawInt (T:Nat)) f1' a b c→h'.get? s.heap.objs.size=some (tO3 x y z)→
   (∀c o,c∉z3 n→s.heap.get? c=some o→h'.get? c=some o)→Q (some (.ref s.heap.objs.size)) {s with heap:=h'}):
  wpAny (model prog w) A (pyNext (.ref (n+5:Nat))) Q E s:=by
 have hT':s.TypeIs (.ref (n+5:Nat)) "zip":=⟨_,Z.z,rfl⟩
 unfold pyNext
 exact zt2 (zE0 (zF5 (name:=Str.ofString "__next__") hT' zy6
  (zG4 zy6 hT' zG0
   (iH h1 h2 h3 Z hT hl1 hl2 hl3 hx hy hz fun h' f1' a1 a2 a3=>zt6 (hQ h' f1' a1 a2 a3)) (zF6 _))))
theorem ie {n l1 l2 l3 k T:Nat}{f1 a b c:Value}{ot:Obj}{xs:Array Value}{Q:Option Value→Shared→Prop}(hh:A.handled=none)(h1:l1<n)(h2:l2<n)(h3:l3<n)(Z:wW s.heap n l1 l2 l3 k (rawInt (T:Nat)) f1 a b c)(hT:s.heap.get? T=some ot)
  (hl1:s.heap.IsList l1 xs) (hx:xs[k]?=none)
  (hQ:∀h',(∀c o,c∉z3 n→s.heap.get? c=some o→h'.get? c=some o)→Q none {s with heap:=h'}):
  wpAny (model prog w) A (pyNext (.ref (n+5:Nat))) Q E s:=by
 have hT':s.TypeIs (.ref (n+5:Nat)) "zip":=⟨_,Z.z,rfl⟩
 unfold pyNext
 refine zt2 (zE0 (zF5 (name:=Str.ofString "__next__") hT' zy6
  (zG4 zy6 hT' zG0 (cc hh h1 h2 h3 Z hT hl1 hx fun h' e hk he=>?_) (zF6 _))))
 obtain⟨o,ho,hc⟩:=he
 refine zt2 (wpAny_isInstance (T:="StopIteration") (b:=true) ⟨o,ho,hc⟩ isSubtype_stop ?_)
 exact zt6 (hQ _ hk)
end
section
variable {X:Cx}{pins:List (Addr×Obj)}{σ:St}{H:Hp}{s:Shared}
def Tri (H0 H:Hp)(xs ys zs vs:List V)(i:Nat):Prop:=vs.length=i∧∀j,j<i→∃t x y z,vs[j]?=some (.ref t)∧xs[j]?=some x∧ys[j]?=some y∧zs[j]?=some z∧H t=some (.tup [x,y,z])∧H0 t=none
structure ZAt (X:Cx)(pins:List (Addr×Obj))(σ:St)(H:Hp)(n l1 l2 l3:Nat)(S:Addr)(xs ys zs:List V)(i:Nat)(s':Shared):Prop where
 ex:∃(H':Hp) (acc:List Value) (vs:List V) (e:Nat) (f0 f1 a b c:Value),Inv X pins σ H' s'∧(∀a o,H a=some o→H' a=some o)∧s'.heap.get? S=some {cls:=.type "list",dict:=none,data:=.seq acc.toArray e,slots:=#[]}∧H' S=none∧(∀b∈z3 n,H' b=none)∧
  wW s'.heap n l1 l2 l3 i f0 f1 a b c∧(i=0∧f0=.none∨∃(T:Nat) (ot:Obj),f0=rawInt (T:Nat)∧s'.heap.get? T=some ot∧T∉S::z3 n)∧Vals vs acc∧Tri H H' xs ys zs vs i
structure ze1 (X:Cx)(pins:List (Addr×Obj))(σ:St)(H:Hp)(S:Addr)(xs ys zs:List V)(s':Shared):Prop where
 ex:∃(H':Hp) (acc:List Value) (vs:List V) (e:Nat),Inv X pins σ H' s'∧(∀a o,H a=some o→H' a=some o)∧s'.heap.get? S=some {cls:=.type "list",dict:=none,data:=.seq acc.toArray e,slots:=#[]}∧H' S=none∧Vals vs acc∧Tri H H' xs ys zs vs xs.length
theorem Tri.snoc {H0 H H':Hp}{xs ys zs vs:List V}{i:Nat}{t:Addr}{x y z:V}(h:Tri H0 H xs ys zs vs i)(k:∀a o,H a=some o→H' a=some o)(hx:xs[i]?=some x)(hy:ys[i]?=some y)(hz:zs[i]?=some z)(ht:H' t=some (.tup [x,y,z]))(hn:H0 t=none):Tri H0 H' xs ys zs (vs++[.ref t]) (i+1):=by
 refine⟨by rw[zu9,h.1];rfl,fun j hj=>?_⟩
 rcases zA6 j i with z'|z'
 ·obtain⟨t',x',y',z2,e1,e2,e3,e4,e5,e6⟩:=h.2 j z'
  exact⟨t',x',y',z2,by rw[zv9 (by rw[h.1];exact z')];exact e1,e2,e3,e4,k _ _ e5,e6⟩
 ·have:j=i:=by omega
  subst this
  exact⟨t,x,y,z,by rw[zw3 (by rw[h.1];exact zt9 _),h.1];simp,hx,hy,hz,ht,hn⟩
theorem jB {A:Around}{R:Result→Shared→Prop}{n l1 l2 l3:Nat}{S:Addr}{xs ys zs:List V}(hh:A.handled=none)(h1:l1<n)(h2:l2<n)(h3:l3<n)(fS:∀H',H' S=none→xq X pins H' S)(fz:∀b∈z3 n,∀H',H' b=none→xq X pins H' b)(hSz:S∉z3 n)
  (q1:SqL X.K H l1 xs) (q2:SqL X.K H l2 ys) (q3:SqL X.K H l3 zs) (e2:ys.length=xs.length) (e3:zs.length=xs.length) (h0:0<xs.length) (hN:xs.length≤1000)
  (hR:∀s',ze1 X pins σ H S xs ys zs s'→R (.ok (.ret .none)) s'):
  ∀(k i:Nat) (s:Shared),xs.length-i=k→i≤xs.length→ZAt X pins σ H n l1 l2 l3 S xs ys zs i s→codeAny (model X.prog X.w) A (.builtin "list.extend.loop" ⟨[.ref S,.ref (n+5:Nat),.none],[]⟩) R s:=by
 have hh':A.in1.handled=none:=hh
 intro k
 induction k with
 |zero=>
  intro i s hk hi hst
  have hin:i=xs.length:=by omega
  subst hin
  obtain⟨H',acc,vs,e,f0,f1,a,b,c,I,st,hS,nS,nz,Z,fr,rv,tr⟩:=hst.ex
  refine codeAny_builtin PySem.F.entry_extend_loop ?_
  rw[Around.under_plainId zz9 _]
  show wpAny _ A.in1 (pyNext (.ref (n+5:Nat)) >>= _) _ _ s
  rcases fr with ⟨z,_⟩|⟨T,ot,rfl,hT,hTn⟩
  ·omega
  obtain⟨its1,rv1,p1,hz1⟩:=I.list (wB q1 fun a o _ e=>st a o e)
  refine zt2 (ie hh' h1 h2 h3 Z hT p1.isList (by
   rw[List.getElem?_toArray,List.getElem?_eq_none];rw[rv1.length];exact zt9 _) fun h' kk=>?_)
  refine zt6 (hR _ ⟨H',acc,vs,e,I.turnL (t':=s.toks) (ch:=z3 n) (fun b o hb q=>kk b o hb q) (fun b hb=>fz b hb H' (nz b hb)),st,kk _ _ hSz hS,nS,rv,tr⟩)
 |succ k ih=>
  intro i s hk hi hst
  have hlt:i<xs.length:=by omega
  obtain⟨H',acc,vs,e,f0,f1,a,b,c,I,st,hS,nS,nz,Z,fr,rv,tr⟩:=hst.ex
  refine codeAny_builtin PySem.F.entry_extend_loop ?_
  rw[Around.under_plainId zz9 _]
  show wpAny _ A.in1 (pyNext (.ref (n+5:Nat)) >>= _) _ _ s
  obtain⟨its1,rv1,p1,hz1⟩:=I.list (wB q1 fun a o _ e=>st a o e)
  obtain⟨its2,rv2,p2,hz2⟩:=I.list (wB q2 fun a o _ e=>st a o e)
  obtain⟨its3,rv3,p3,hz3⟩:=I.list (wB q3 fun a o _ e=>st a o e)
  have gx:xs[i]?=some xs[i]:=zt5 hlt
  have gy:ys[i]?=some ys[i]:=zt5 (by omega)
  have gz:zs[i]?=some zs[i]:=zt5 (by omega)
  obtain⟨u,hu,ru⟩:=rv1.get gx
  obtain⟨v,hv,rv'⟩:=rv2.get gy
  obtain⟨w,hw,rw'⟩:=rv3.get gz
  have lacc:acc.length=i:=by rw[←rv.length,tr.1]
  have zlt:∀b∈z3 n,b<s.heap.objs.size:=fun b hb=>by
   have:∃o,s.heap.get? b=some o:=by
    simp only[z3,zu1,zu8,zx1] at hb
    obtain⟨o1,q1,_⟩:=Z.i1
    obtain⟨o2,q2,_⟩:=Z.i2
    obtain⟨o3,q3,_⟩:=Z.i3
    rcases hb with rfl|rfl|rfl|rfl|rfl|rfl
    ·exact⟨_,q1⟩
    ·exact⟨_,q2⟩
    ·exact⟨_,q3⟩
    ·exact⟨_,Z.ti⟩
    ·exact⟨_,Z.to⟩
    ·exact⟨_,Z.z⟩
   obtain⟨o,q⟩:=this
   exact zu0 q
  have main:∀(h':Heap) (f0' f1' a' b' c':Value),wW h' n l1 l2 l3 (i+1) f0' f1' a' b' c'→(∃(T:Nat) (ot:Obj),f0'=rawInt (T:Nat)∧h'.get? T=some ot∧T∉S::z3 n)→h'.get? s.heap.objs.size=some (tO3 u v w)→
    (∀c o,c∉z3 n→s.heap.get? c=some o→h'.get? c=some o)→wpAny (model X.prog X.w) A.in1 (updateSeq S (·.push (.ref s.heap.objs.size)) >>= fun _=>again (.builtin "list.extend.loop" ⟨[.ref S,.ref (n+5:Nat),.none],[]⟩))
     (fun fin s'=>match fin with|.done f=>R (.ok f) s'|.again c'=>c'.quiet=true∧codeAny (model X.prog X.w) A c' R s') (fun e s'=>R (.error e) s') {s with heap:=h'}:=by
   intro h' f0' f1' a' b' c' Z' ⟨T,ot,hf,hT,hTn⟩ gT kk
   have nT:H' s.heap.objs.size=none:=I.hok.fresh (zt9 _)
   have nT0:H s.heap.objs.size=none:=by
    cases q:H s.heap.objs.size with
    |none=>rfl
    |some o=>rw[st _ _ q] at nT;cases nT
   have stT:∀a o,H' a=some o→upd H' s.heap.objs.size (.tup [xs[i],ys[i],zs[i]]) a=some o:=fun a o q=>by rw[zg (zk q nT)];exact q
   have J:=I.turnLay (t':=s.toks) (h':=h') (ch:=z3 n) (T:=s.heap.objs.size) (o:=.tup [xs[i],ys[i],zs[i]]) kk (fun b hb=>fz b hb H' (nz b hb)) (zt9 _) ⟨by show 3≤sizeLine;decide,[u,v,w],.cons ru (.cons rv' (.cons rw' .nil)),_,gT,rfl,0,rfl⟩
   have hS':=kk _ _ hSz hS
   have SltS:S<s.heap.objs.size:=zu0 hS
   have nS':upd H' s.heap.objs.size (.tup [xs[i],ys[i],zs[i]]) S=none:=by rw[zg (zv4 SltS)];exact nS
   obtain⟨e',hSn⟩:∃e',(h'.update S (Obj.mapSeq (·.push (Value.ref s.heap.objs.size)))).get? S=some {cls:=.type "list",dict:=none,data:=.seq (acc++[Value.ref s.heap.objs.size]).toArray e',slots:=#[]}:=by
    have:=zB0 (c:="list") hS' fun x=>x.push (Value.ref s.heap.objs.size)
    rw[List.push_toArray] at this
    exact⟨_,this⟩
   refine zt2 ?_
   refine zE8 hS' rfl (zt6 ⟨plainId_quiet zz9 _,ih (i+1) _ (by omega) hlt ⟨_,acc++[.ref s.heap.objs.size],vs++[.ref s.heap.objs.size],e',f0',f1',a',b',c',
    J.turnL (t':=s.toks) (ch:=[S]) (fun b o hb q=>(zu5 _ _ (zw7 (by simpa using hb))).trans q) (fun b hb=>by rw[zw2.mp hb];exact fS _ nS'),fun a o q=>stT _ _ (st a o q),hSn,nS',fun b hb=>?_,?_,.inr ⟨T,ot,hf,?_,hTn⟩,rv.append (.cons (show RelV (.ref s.heap.objs.size) (.ref s.heap.objs.size) from rfl) .nil),tr.snoc stT gx gy gz zh nT0⟩⟩)
    (by rw[zu2,lacc,zx4];omega) (by show (acc.toArray.push _).size≤sizeLine+1;rw[Array.size_push,zu2,lacc,zx4];omega)
   ·rw[zg]
    ·exact nz b hb
    ·exact zv4 (zlt b hb)
   ·have oth:∀b o,b≠S→h'.get? b=some o→(h'.update S (Obj.mapSeq (·.push (Value.ref s.heap.objs.size)))).get? b=some o:=fun b o hb q=>(zu5 _ _ (zw7 hb)).trans q
    simp only[z3,zu1,zu8,zx1,not_or] at hSz
    obtain⟨d1,d2,d3,d4,d5,d6⟩:=hSz
    exact⟨oth _ _ (zw7 d6) Z'.z,oth _ _ (zw7 d4) Z'.ti,oth _ _ (zw7 d5) Z'.to,Z'.i1.at fun o q=>oth _ o (zw7 d1) q,Z'.i2.at fun o q=>oth _ o (zw7 d2) q,Z'.i3.at fun o q=>oth _ o (zw7 d3) q⟩
   ·exact (zu5 _ _ (fun z=>hTn (by rw[←z];exact zv5))).trans hT
  rcases fr with ⟨_,rfl⟩|⟨T,ot,rfl,hT,hTn⟩
  ·refine zt2 (oC h1 h2 h3 Z p1.isList p2.isList p3.isList (by simpa using hu) (by simpa using hv) (by simpa using hw) fun h' Z' gT kk=>?_)
   refine main h' _ _ _ _ _ Z' ⟨s.heap.objs.size,_,rfl,gT,?_⟩ gT kk
   intro z
   rcases zu1.mp z with z|z
   ·exact absurd (zu0 hS) (by rw[←z];exact zz4 _)
   ·exact absurd (zlt _ z) (zz4 _)
  ·refine zt2 (mz h1 h2 h3 Z hT p1.isList p2.isList p3.isList (by simpa using hu) (by simpa using hv) (by simpa using hw) fun h' f1' Z' gT kk=>?_)
   exact main h' _ _ _ _ _ Z' ⟨T,ot,rfl,kk _ _ (fun z=>hTn (zu3 _ z)) hT,hTn⟩ gT kk
end
theorem tO (a b c:Value):checkTypeCall "zip" ⟨[a,b,c],[]⟩=pure ():=by kernel_rfl
theorem rM (a b c:Value):checkBuiltinCall "zip.__new__" ⟨[.type "zip",a,b,c],[]⟩=pure ():=by kernel_rfl
theorem ud (a b c d:Value):argsOk "object.__init__" ⟨[a,b,c,d],[]⟩:=by
 unfold argsOk;rw[signature?_of (id:="object.__init__") (n:=['_','_','t','i','n','i','_','_']) (o:=['t','c','e','j','b','o']) (by kernel_rfl) PySem.F.owner_object];kernel_rfl
theorem ke :typeLookup (.type "zip") "__len__"=pure none:=by rw[typeLookup_type,builtinLookup_eq_fast];kernel_rfl
theorem pW :typeLookup (.type "zip") "__length_hint__"=pure none:=by rw[typeLookup_type,builtinLookup_eq_fast];kernel_rfl
abbrev itO (l:Addr):Obj:={cls:=.type "list_iterator",data:=.fields #[.ref l,.int 0 0]}
abbrev zh3 (h:Heap)(l1 l2 l3:Addr):Heap:=((h.push (itO l1)).push (itO l2)).push (itO l3)
abbrev zh4 (h:Heap)(l1 l2 l3:Addr):Heap:=(zh3 h l1 l2 l3).push (tO3 (.ref h.objs.size) (.ref (h.push (itO l1)).objs.size) (.ref ((h.push (itO l1)).push (itO l2)).objs.size))
abbrev zh5 (h:Heap)(l1 l2 l3:Addr):Heap:=(zh4 h l1 l2 l3).push (tO3 .none .none .none)
abbrev zh6 (h:Heap)(l1 l2 l3:Addr):Heap:=(zh5 h l1 l2 l3).push (zO .none (.bool false) (zh3 h l1 l2 l3).objs.size (zh4 h l1 l2 l3).objs.size)
set_option maxHeartbeats 8000000 in
theorem rk (l1 l2 l3:Addr)(xs ys zs:Array Value):
  Meets (Builtin.«zip.__new__» ⟨[.type "zip",.ref l1,.ref l2,.ref l3],[]⟩) (fun _ R s=>s.heap.IsList l1 xs∧s.heap.IsList l2 ys∧s.heap.IsList l3 zs∧
   R (.ok (.ret (.ref (zh5 s.heap l1 l2 l3).objs.size))) {s with heap:=zh6 s.heap l1 l2 l3}):=
 .of_wp fun prog w A R s h=>by
  obtain⟨hp,g,d,tk,os⟩:=s;obtain⟨hl1,hl2,hl3,h⟩:=h
  have hsub:=sub_zip
  have hL1:Heap.IsList (Shared.heap ⟨hp,g,d,tk,os⟩) l1 xs:=hl1
  have hL2:Heap.IsList (Shared.heap ⟨hp.push {cls:=.type "list_iterator",data:=.fields #[.ref l1,.int 0 0]},g,d,tk,os⟩) l2 ys:=Heap.IsList.push hl2 _
  have hL3:Heap.IsList (Shared.heap ⟨(hp.push {cls:=.type "list_iterator",data:=.fields #[.ref l1,.int 0 0]}).push {cls:=.type "list_iterator",data:=.fields #[.ref l2,.int 0 0]},g,d,tk,os⟩) l3 zs:=Heap.IsList.push (Heap.IsList.push hl3 _) _
  wp_walk using zF7 hL1,zF7 hL2,zF7 hL3
  exact⟨_,rfl,h⟩
section
variable {prog:Program}{w:World}{A:Around}{E:Value→Shared→Prop}{s:Shared}
theorem nZ {l1 l2 l3:Addr}{xs ys zs:Array Value}{Q:Value→Shared→Prop}(hl1:s.heap.IsList l1 xs)(hl2:s.heap.IsList l2 ys)(hl3:s.heap.IsList l3 zs)
  (h:∀h',wW h' s.heap.objs.size l1 l2 l3 0 .none (.bool false) .none .none .none→h'.objs.size=s.heap.objs.size+6→(∀c o,s.heap.get? c=some o→h'.get? c=some o)→Q (.ref (s.heap.objs.size+5)) {s with heap:=h'}):
  wpAny (model prog w) A (call (.type "zip") [.ref l1,.ref l2,.ref l3]) Q E s:=by
 refine callType_new PySem.F.called_zip (by decide) (tO _ _ _) (rM _ _ _) (fun obj=>ud obj _ _ _) PySem.F.entry_zip_new
  (rk l1 l2 l3 xs ys zs) ⟨hl1,hl2,hl3,?_⟩
 have z1:(s.heap.push (itO l1)).objs.size=s.heap.objs.size+1:=zz7 ..
 have z2:((s.heap.push (itO l1)).push (itO l2)).objs.size=s.heap.objs.size+2:=by rw[zz7,z1]
 have z3':(zh3 s.heap l1 l2 l3).objs.size=s.heap.objs.size+3:=by rw[zz7,z2]
 have z4:(zh4 s.heap l1 l2 l3).objs.size=s.heap.objs.size+4:=by rw[zz7,z3']
 have z5:(zh5 s.heap l1 l2 l3).objs.size=s.heap.objs.size+5:=by rw[zz7,z4]
 have z6:(zh6 s.heap l1 l2 l3).objs.size=s.heap.objs.size+6:=by rw[zz7,z5]
 have g6:(zh6 s.heap l1 l2 l3).get? (zh5 s.heap l1 l2 l3).objs.size=some _:=zu7 _ rfl
 have g5:(zh6 s.heap l1 l2 l3).get? (zh4 s.heap l1 l2 l3).objs.size=some _:=zt3 _ (zu7 _ rfl)
 have g4:(zh6 s.heap l1 l2 l3).get? (zh3 s.heap l1 l2 l3).objs.size=some _:=zt3 _ (zt3 _ (zu7 _ rfl))
 have g3:(zh6 s.heap l1 l2 l3).get? ((s.heap.push (itO l1)).push (itO l2)).objs.size=some _:=zt3 _ (zt3 _ (zt3 _ (zu7 _ rfl)))
 have g2:(zh6 s.heap l1 l2 l3).get? (s.heap.push (itO l1)).objs.size=some _:=zt3 _ (zt3 _ (zt3 _ (zt3 _ (zu7 _ rfl))))
 have g1:(zh6 s.heap l1 l2 l3).get? s.heap.objs.size=some _:=zt3 _ (zt3 _ (zt3 _ (zt3 _ (zt3 _ (zu7 _ rfl)))))
 show _∧_
 rw[z5,z4,z3'] at g6
 rw[z4] at g5
 rw[z3',z2,z1] at g4
 rw[z2] at g3
 rw[z1] at g2
 rw[z5]
 exact⟨⟨_,g6,rfl⟩,h _ ⟨g6,g4,g5,⟨_,g1,rfl,rfl⟩,⟨_,g2,rfl,rfl⟩,⟨_,g3,rfl,rfl⟩⟩ z6 fun c o x=>
  zt3 _ (zt3 _ (zt3 _ (zt3 _ (zt3 _ (zt3 _ x)))))⟩
end
section
variable {X:Cx}{pins:List (Addr×Obj)}{σ:St}{H:Hp}{s:Shared}
theorem iV {A:Around}{R:Result→Shared→Prop}{n l1 l2 l3:Nat}{S:Addr}{xs ys zs:List V}(hh:A.handled=none)(h1:l1<n)(h2:l2<n)(h3:l3<n)(I:Inv X pins σ H s)(Z:wW s.heap n l1 l2 l3 0 .none (.bool false) .none .none .none)(hS:s.heap.get? S=some {cls:=.type "list",data:=.seq #[]})
  (nS:H S=none) (nz:∀b∈z3 n,H b=none) (fS:∀H',H' S=none→xq X pins H' S) (fz:∀b∈z3 n,∀H',H' b=none→xq X pins H' b) (hSz:S∉z3 n)
  (q1:SqL X.K H l1 xs) (q2:SqL X.K H l2 ys) (q3:SqL X.K H l3 zs) (e2:ys.length=xs.length) (e3:zs.length=xs.length) (h0:0<xs.length) (hN:xs.length≤1000)
  (hR:∀s',ze1 X pins σ H S xs ys zs s'→R (.ok (.ret .none)) s'):
  wpAny (model X.prog X.w) A.in1 (Builtin.«list.__init__» ⟨[.ref S,.ref (n+5:Nat)],[]⟩)
   (fun fin s'=>match fin with|.done f=>R (.ok f) s'|.again c'=>c'.quiet=true∧codeAny (model X.prog X.w) A c' R s') (fun e s'=>R (.error e) s') s:=by
 have hSz':=hSz
 simp only[z3,zu1,zu8,zx1,not_or] at hSz'
 obtain⟨d1,d2,d3,d4,d5,d6⟩:=hSz'
 show wpAny _ _ (do let old ←Builtin.List.listItems (.ref S);Builtin.List.listUpdate (.ref S) (fun _=>#[]);letGo old.toList.reverse;Builtin.List.listExtendWith (.ref S) (.ref (n+5:Nat)) .none) _ _ s
 refine zt2 ?_
 unfold Builtin.List.listItems
 refine zt2 (zA2 hS rfl (zt6 ?_))
 show wpAny _ _ (updateSeq S (fun _=>#[]) >>= fun _=>letGo (#[]:Array Value).toList.reverse >>= fun _=>Builtin.List.listExtendWith (.ref S) (.ref (n+5:Nat)) .none) _ _ s
 refine zt2 (zE8 hS rfl ?_)
 obtain⟨e',hS₂⟩:∃e',(s.heap.update S (Obj.mapSeq (fun _=>(#[]:Array Value)))).get? S=some {cls:=.type "list",dict:=none,data:=.seq #[] e',slots:=#[]}:=⟨_,zB0 (c:="list") hS fun _=>#[]⟩
 have oth:∀b o,b≠S→s.heap.get? b=some o→(s.heap.update S (Obj.mapSeq (fun _=>(#[]:Array Value)))).get? b=some o:=
  fun b o hb e=>(zu5 _ _ (zw7 hb)).trans e
 have Z₂:wW (s.heap.update S (Obj.mapSeq (fun _=>(#[]:Array Value)))) n l1 l2 l3 0 .none (.bool false) .none .none .none:=⟨oth _ _ (zw7 d6) Z.z,oth _ _ (zw7 d4) Z.ti,oth _ _ (zw7 d5) Z.to,Z.i1.at fun o q=>oth _ o (zw7 d1) q,Z.i2.at fun o q=>oth _ o (zw7 d2) q,Z.i3.at fun o q=>oth _ o (zw7 d3) q⟩
 refine zt2 (wpAny_letGo ?_)
 have I₂:Inv X pins σ H {s with heap:=s.heap.update S (Obj.mapSeq (fun _=>(#[]:Array Value))),toks:=s.toks}:=I.turnL (ch:=[S]) (fun b o hb q=>oth b o (by simpa using hb) q) fun b hb=>by rw[zw2.mp hb];exact fS H nS
 have hT:({s with heap:=s.heap.update S (Obj.mapSeq (fun _=>(#[]:Array Value)))}:Shared).TypeIs (.ref (n+5:Nat)) "zip":=⟨_,Z₂.z,rfl⟩
 unfold Builtin.List.listExtendWith
 refine zt2 (wpAny_typeOf hT ?_)
 have b1:Builtin.List.listSameRef (.ref S) (.ref (n+5:Nat))=false:=by simp[Builtin.List.listSameRef];exact d6
 have b2:(Value.type "zip" == Value.type "list")=false:=by decide
 have b3:(Value.type "zip" == Value.type "tuple")=false:=by decide
 simp only[b1,b2,b3,Bool.or_false,zA5,zG2]
 refine zt2 (wpAny_pyIter_slot hT PySem.F.slot_zip_iter (zG4 PySem.F.slot_zip_iter hT PySem.F.entry_zip_iter ?_ (PySem.F.args_zip_iter_1 _)))
 show wpAny _ _ (ret (.ref (n+5:Nat))) _ _ _
 refine zt6 ⟨_,rfl,"zip",_,hT,zy6.lookup,?_⟩
 refine zt2 (zx6 ?_)
 unfold Builtin.List.listLengthHint
 refine zt2 (wpAny_specialOf hT ke ?_)
 show wpAny _ _ (specialOf (Value.ref (n+5:Nat)) (Str.ofString "__length_hint__") >>= _) _ _ _
 refine zt2 (wpAny_specialOf hT pW ?_)
 refine zt6 ?_
 have key:∀(h:Heap) (e:Nat),h.get? S=some {cls:=.type "list",dict:=none,data:=.seq #[] e,slots:=#[]}→(∀b o,b≠S→s.heap.get? b=some o→h.get? b=some o)→codeAny (model X.prog X.w) A (.builtin "list.extend.loop" ⟨[.ref S,.ref (n+5:Nat),.none],[]⟩) R {s with heap:=h}:=by
  intro h e hS' oth'
  refine jB hh h1 h2 h3 fS fz hSz q1 q2 q3 e2 e3 h0 hN hR xs.length 0 _ (by omega) (zv3 _) ⟨H,[],[],e,.none,.bool false,.none,.none,.none,I.turnL (t':=s.toks) (ch:=[S]) (fun b o hb q=>oth' b o (by simpa using hb) q) (fun b hb=>by rw[zw2.mp hb];exact fS H nS),fun _ _ e=>e,hS',nS,nz,?_,.inl ⟨rfl,rfl⟩,.nil,rfl,fun j hj=>absurd hj (Nat.not_lt_zero _)⟩
  exact⟨oth' _ _ (zw7 d6) Z.z,oth' _ _ (zw7 d4) Z.ti,oth' _ _ (zw7 d5) Z.to,Z.i1.at fun o q=>oth' _ o (zw7 d1) q,Z.i2.at fun o q=>oth' _ o (zw7 d2) q,Z.i3.at fun o q=>oth' _ o (zw7 d3) q⟩
 refine wpAny_ite_split (fun _=>?_) (fun _=>zt6 ⟨plainId_quiet zz9 _,key _ _ hS₂ oth⟩)
 refine zt2 (wpAny_rule ?_)
 refine zt2 ?_
 show wpAny _ _ (updateSeq S (·.push .none) >>= fun _=>updateSeq S (·.pop)) _ _ _
 refine zt2 (zE8 hS₂ rfl ?_)
 obtain⟨e3',hS₃⟩:∃e',((s.heap.update S (Obj.mapSeq (fun _=>(#[]:Array Value)))).update S (Obj.mapSeq (·.push Value.none))).get? S=some {cls:=.type "list",dict:=none,data:=.seq #[.none] e',slots:=#[]}:=⟨_,zB0 (c:="list") hS₂ fun x=>x.push Value.none⟩
 refine zE8 (hz:=by seq_fits) hS₃ rfl ?_
 obtain⟨e4',hS₄⟩:∃e',(((s.heap.update S (Obj.mapSeq (fun _=>(#[]:Array Value)))).update S (Obj.mapSeq (·.push Value.none))).update S (Obj.mapSeq (·.pop))).get? S=some {cls:=.type "list",dict:=none,data:=.seq #[] e',slots:=#[]}:=⟨_,zB0 (c:="list") hS₃ fun x=>x.pop⟩
 refine zt6 ⟨plainId_quiet zz9 _,key _ _ hS₄ fun b o hb e=>?_⟩
 exact (zu5 _ _ (zw7 hb)).trans ((zu5 _ _ (zw7 hb)).trans (oth b o hb e))
end
section
variable {X:Cx}{pins:List (Addr×Obj)}{σ:St}{H:Hp}{s:Shared}
theorem tT {A:Around}{E:Value→Shared→Prop}{Q:Value→Shared→Prop}{n l1 l2 l3:Nat}{xs ys zs:List V}(hh:A.handled=none)(h1:l1<n)(h2:l2<n)(h3:l3<n)(I:Inv X pins σ H s)(Z:wW s.heap n l1 l2 l3 0 .none (.bool false) .none .none .none)
  (nz:∀b∈z3 n,H b=none) (fz:∀b∈z3 n,∀H',H' b=none→xq X pins H' b)
  (q1:SqL X.K H l1 xs) (q2:SqL X.K H l2 ys) (q3:SqL X.K H l3 zs) (e2:ys.length=xs.length) (e3:zs.length=xs.length) (h0:0<xs.length) (hN:xs.length≤1000)
  (hQ:∀D s',s.heap.objs.size≤D→ze1 X pins σ H D xs ys zs s'→(∀H',H' D=none→xq X pins H' D)→Q (.ref D) s'):
  wpAny (model X.prog X.w) A (call (.type "list") [.ref (n+5:Nat)]) Q E s:=by
 refine callType_codes (Q₁:=fun obj s₁=>obj=.ref s.heap.objs.size∧s₁={s with heap:=s.heap.push {cls:=.type "list",data:=.seq #[]}}) PySem.F.called_list (PySem.F.typeCall_list_1 _) PySem.F.entry_list_init
  (code_list_new _ ⟨rfl,rfl⟩) fun obj s₁ h₁=>?_
 obtain⟨rfl,rfl⟩:=h₁
 have hS:(s.heap.push {cls:=.type "list",data:=.seq #[]}).get? s.heap.objs.size=some {cls:=.type "list",data:=.seq #[]}:=zu7 _ rfl
 have up:∀b o,s.heap.get? b=some o→(s.heap.push {cls:=.type "list",data:=.seq #[]}).get? b=some o:=fun b o e=>zt3 _ e
 have fS:∀H':Hp,H' s.heap.objs.size=none→xq X pins H' s.heap.objs.size:=fun H' h=>I.fpOk (zt9 _) h
 have hSz:s.heap.objs.size∉z3 n:=fun hb=>by
  have:∃o,s.heap.get? s.heap.objs.size=some o:=by
   simp only[z3,zu1,zu8,zx1] at hb
   obtain⟨o1,q1,_⟩:=Z.i1
   obtain⟨o2,q2,_⟩:=Z.i2
   obtain⟨o3,q3,_⟩:=Z.i3
   rcases hb with z|z|z|z|z|z<;>rw[z]
   ·exact⟨_,q1⟩
   ·exact⟨_,q2⟩
   ·exact⟨_,q3⟩
   ·exact⟨_,Z.ti⟩
   ·exact⟨_,Z.to⟩
   ·exact⟨_,Z.z⟩
  obtain⟨o,q⟩:=this
  exact absurd (zu0 q) (zz4 _)
 refine⟨⟨_,hS,rfl⟩,PySem.F.args_list_init_2 _ _,iV (A:=A.in1) hh h1 h2 h3 (I.kept (t':=s.toks) up) ⟨up _ _ Z.z,up _ _ Z.ti,up _ _ Z.to,Z.i1.at fun o q=>up _ o q,Z.i2.at fun o q=>up _ o q,Z.i3.at fun o q=>up _ o q⟩ hS (I.hok.fresh (zt9 _)) nz fS fz hSz q1 q2 q3 e2 e3 h0 hN fun s' ze=>⟨rfl,hQ _ s' (zt9 _) ze fS⟩⟩
variable {a b c:Expr}{p p0 pos pos2:Pos}
set_option maxHeartbeats 2000000 in
theorem oZ {ta:TA}(hc:X.calm=true)(hgl:Gl X "list")(hml:X.mg "list"=none)(hg:Gl X "zip")(hm:X.mg "zip"=none)(ha:PA X [a,b,c] ta)
  (hs0:starEach [.Call (.Name "zip" p) [a,b,c] [] pos2] X.env=[(false,eval (.Call (.Name "zip" p) [a,b,c] [] pos2) X.env)]:=by rfl)
  (hs:starEach [a,b,c] X.env=(false,eval a X.env)::starEach [b,c] X.env:=by rfl) (hpl:(backTo pos2 (starEach [b,c] X.env)).any (·.1)=false:=by rfl):
  PE X (.Call (.Name "list" p0) [.Call (.Name "zip" p) [a,b,c] [] pos2] [] pos) (fun σ H Q=>ta σ H fun vs H1=>∃(l1 l2 l3:Addr) (xs ys zs:List V),vs=[.ref l1,.ref l2,.ref l3]∧SqL X.K H1 l1 xs∧SqL X.K H1 l2 ys∧SqL X.K H1 l3 zs∧ys.length=xs.length∧zs.length=xs.length∧0<xs.length∧xs.length≤1000∧
   ∀D H' vs,H1 D=none→(∀a o,H1 a=some o→H' a=some o)→H' D=some (.lst vs)→(∃H'',(∀a o,H'' a=some o→a≠D∧H' a=some o)∧Tri H1 H'' xs ys zs vs xs.length)→Q (.ref D) H'):=by
 intro pins s σ H Q I h
 refine Call_ (wq I hgl hml boot_list (zy3 ?_ hs0 rfl))
 rw[hs0]
 show wpAny _ _ (spliced ((false,eval _ X.env)::backTo pos [])) _ _ s
 refine Calls.spliced_cons ?_
 refine Call_ (wq I hg hm boot_zip (zy3 (thn (ha pos2 pins s σ H _ I h) fun us s1 ⟨vs,H1,I1,r1,q1⟩=>?_) hs hpl))
 obtain⟨l1,l2,l3,xs,ys,zs,e,hq1,hq2,hq3,e2,e3,h0,hN,q⟩:=q1
 subst e
 obtain⟨u,v,w,rfl,ru,rv,rw'⟩:∃u v w,us=[u,v,w]∧RelV (.ref l1) u∧RelV (.ref l2) v∧RelV (.ref l3) w:=by
  cases r1 with
  |cons a r1=>
   cases r1 with
   |cons b r1=>
    cases r1 with
    |cons c r1=>
     cases r1
     exact⟨_,_,_,rfl,a,b,c⟩
 cases (show u=Value.ref l1 from ru)
 cases (show v=Value.ref l2 from rv)
 cases (show w=Value.ref l3 from rw')
 obtain⟨its1,rv1,p1,hz1⟩:=I1.list hq1
 obtain⟨its2,rv2,p2,hz2⟩:=I1.list hq2
 obtain⟨its3,rv3,p3,hz3⟩:=I1.list hq3
 refine nZ p1.isList p2.isList p3.isList fun h' Z sz hk=>?_
 have lt1:l1<s1.heap.objs.size:=by obtain⟨o,e,_⟩:=p1.isList;exact zu0 e
 have lt2:l2<s1.heap.objs.size:=by obtain⟨o,e,_⟩:=p2.isList;exact zu0 e
 have lt3:l3<s1.heap.objs.size:=by obtain⟨o,e,_⟩:=p3.isList;exact zu0 e
 have le:∀b∈z3 s1.heap.objs.size,s1.heap.objs.size≤b:=fun b hb=>by
  simp only[z3,zu1,zu8,zx1] at hb
  have key:∀n b:Nat,(b=n∨b=n+1∨b=n+2∨b=n+3∨b=n+4∨b=n+5)→n≤b:=fun n b h=>by omega
  exact key _ _ hb
 have I2:Inv X pins σ H1 {s1 with heap:=h',toks:=s1.toks}:=I1.kept fun b o e=>hk b o e
 refine zw4 (Q:=_) (show wpAny _ _ (spliced []) (fun vs s₁=>vs=[]∧s₁={s1 with heap:=h'}) X.xe {s1 with heap:=h'} from zt6 ⟨rfl,rfl⟩) (fun vs s2 hv=>?_) fun _ _ z=>z
 obtain⟨rfl,rfl⟩:=hv
 refine tT (s:={s1 with heap:=h'}) (I.ok.hd hc) lt1 lt2 lt3 I2 Z (fun b hb=>I1.hok.fresh (le b hb)) (fun b hb H' hn=>I1.fpOk (le b hb) hn) hq1 hq2 hq3 e2 e3 h0 hN fun D s' lD ze fD=>?_
 obtain⟨H',acc,vs,e,I',st,hD,nD,rvs,tri⟩:=ze.ex
 have nD1:H1 D=none:=I2.hok.fresh lD
 have stD:∀a o,H' a=some o→a≠D∧upd H' D (.lst vs) a=some o:=fun a o q=>by
  have n:a≠D:=fun z=>by rw[z,nD] at q;cases q
  exact⟨n,by rw[zg n];exact q⟩
 refine⟨.ref D,upd H' D (.lst vs),I'.adopt (fD H' nD) ⟨?_,acc,e,rvs,hD⟩,rfl,q D _ vs nD1 (fun a o q=>(stD a o (st a o q)).2) zh ⟨H',stD,tri⟩⟩
 rw[tri.1,zx4];omega
end
def bw (a b c:PyData):PyData:=.tuple [a,b,c]
def wg :List PyData→List PyData→List PyData→List PyData
 |a::as,b::bs,c::cs=>bw a b c::wg as bs cs
 |_,_,_=>[]
theorem uJ :∀{as bs cs:List PyData},bs.length=as.length→cs.length=as.length→(wg as bs cs).length=as.length
 |[],_,_,_,_=>rfl
 |a::as,b::bs,c::cs,h1,h2=>by
  rw[wg,zv0,zv0,uJ (by simpa using h1) (by simpa using h2)]
theorem uI :∀{as bs cs:List PyData} {j:Nat} {d:PyData},(wg as bs cs)[j]?=some d→∃a b c,as[j]?=some a∧bs[j]?=some b∧cs[j]?=some c∧d=bw a b c
 |[],_,_,j,d,h=>by simp[wg] at h
 |a::as,[],_,j,d,h=>by simp[wg] at h
 |a::as,b::bs,[],j,d,h=>by simp[wg] at h
 |a::as,b::bs,c::cs,0,d,h=>by simp[wg] at h;exact⟨a,b,c,rfl,rfl,rfl,h.symm⟩
 |a::as,b::bs,c::cs,j+1,d,h=>by
  obtain⟨x,y,z,e1,e2,e3,e4⟩:=uI (as:=as) (bs:=bs) (cs:=cs) (j:=j) (d:=d) (by simpa[wg] using h)
  exact⟨x,y,z,by simpa using e1,by simpa using e2,by simpa using e3,e4⟩
theorem kO {G:Hp}:∀{vs:List V} {ds:List PyData},vs.length=ds.length→(∀(j:Nat) d,ds[j]?=some d→∃v,vs[j]?=some v∧AV G v d)→AVs G vs ds
 |[],[],_,_=>.nil
 |v::vs,d::ds,hl,h=>by
  obtain⟨v',e,a⟩:=h 0 d rfl
  cases e
  exact .cons a (kO (by simpa using hl) fun j d' hd=>h (j+1) d' (by simpa using hd))
section
variable {X:Cx}{α:Ev}{a b c:Expr}{p p0 pos pos2:Pos}
theorem nh {Q:List PyData→Prop}(hc:X.calm=true)(hgl:Gl X "list")(hml:X.mg "list"=none)(hg:Gl X "zip")(hm:X.mg "zip"=none)
  (h:EvA X α [a,b,c] fun as=>∃ds es fs,as=[.dat (.list ds),.dat (.list es),.dat (.list fs)]∧es.length=ds.length∧fs.length=ds.length∧0<ds.length∧ds.length≤1000∧Q (wg ds es fs))
  (hs0:starEach [.Call (.Name "zip" p) [a,b,c] [] pos2] X.env=[(false,eval (.Call (.Name "zip" p) [a,b,c] [] pos2) X.env)]:=by rfl)
  (hs:starEach [a,b,c] X.env=(false,eval a X.env)::starEach [b,c] X.env:=by rfl) (hpl:(backTo pos2 (starEach [b,c] X.env)).any (·.1)=false:=by rfl):
  EvL X α (.Call (.Name "list" p0) [.Call (.Name "zip" p) [a,b,c] [] pos2] [] pos) Q:=fun F σ H R m k=>by
 refine⟨_,oZ hc hgl hml hg hm yQ hs0 hs hpl,?_⟩
 refine h F σ H _ m fun as vs H1 q1 t1 k1 rv=>?_
 have m1:=m.kz k1 t1
 obtain⟨ds,es,fs,rfl,l2,l3,l0,lN,q⟩:=q1
 cases rv with
 |cons r1 rv=>
  cases rv with
  |cons r2 rv=>
   cases rv with
   |cons r3 rv=>
    cases rv
    obtain⟨a1,xs,rfl,g1,A1⟩:=AV.lst_inv r1
    obtain⟨a2,ys,rfl,g2,A2⟩:=AV.lst_inv r2
    obtain⟨a3,zs,rfl,g3,A3⟩:=AV.lst_inv r3
    have y1:=A1.length
    have y2:=A2.length
    have y3:=A3.length
    refine⟨a1,a2,a3,xs,ys,zs,rfl,SqL.of (zj g1).2,SqL.of (zj g2).2,SqL.of (zj g3).2,by omega,by omega,by omega,by omega,fun D H' vs hD st hD' tr=>?_⟩
    obtain⟨H'',sb,tri⟩:=tr
    have sm:zy H1 H':=fun a o e=>st a o e
    refine k _ _ H' q (t1.same sm) (k1.trans (Kz.of_same sm)) ⟨D,vs,rfl,?_,hD',?_⟩
    ·cases z:H D with
     |none=>rfl
     |some o=>rw[k1 D o z (m.tp.nt (ow0 (m1.fresh hD)))] at hD;cases hD
    ·have gs:zy (Gz F α σ H1) (sub (fun x=>¬Ow F α σ x∧x≠D) H'):=zu fun a o h e=>⟨⟨h,zk e hD⟩,st a o e⟩
     refine kO (by rw[tri.1,uJ l2 l3];exact y1) fun j d hd=>?_
     obtain⟨d1,d2,d3,e1,e2,e3,rfl⟩:=uI hd
     have hj:j<xs.length:=by rw[y1];exact (zt8.mp e1).1
     obtain⟨t,x,y,z,f1,f2,f3,f4,f5,f6⟩:=tri.2 j hj
     obtain⟨x',ex,ax⟩:=A1.get e1
     obtain⟨y',ey,ay⟩:=A2.get e2
     obtain⟨z',ez,az⟩:=A3.get e3
     rw[f2] at ex;cases ex
     rw[f3] at ey;cases ey
     rw[f4] at ez;cases ez
     obtain⟨nt,ht⟩:=sb t _ f5
     exact⟨_,f1,.tup (zM ⟨m1.fresh f6,nt⟩ ht) (.cons (ax.same gs) (.cons (ay.same gs) (.cons (az.same gs) .nil)))⟩
theorem sV :∀{ns:List Int} {its:List Value},Vals (ns.map V.int) its→∃ps:List (Int×Tok),its=ps.map (fun p=>Value.int p.1 p.2)∧ps.map (·.1)=ns
 |[],_,.nil=>⟨[],rfl,rfl⟩
 |n::ns,_,.cons h hs=>by
  obtain⟨ps,e1,e2⟩:=sV hs
  obtain⟨t,rfl⟩:=h
  exact⟨(n,t)::ps,by rw[e1];rfl,by rw[←e2];rfl⟩
theorem sJ (ps:List (Int×Tok))(k:Nat):numAt ps.toArray k=(ps.map (·.1)).getD k 0:=by
 unfold numAt
 rw[List.getElem?_toArray,zt7,zv2]
theorem vo (ps:List (Int×Tok)):∀k,k≤ps.length→preSum (numAt ps.toArray) k=((ps.map (·.1)).take k).sum
 |0,_=>by simp[preSum]
 |k+1,h=>by
  have hk:k<(ps.map (·.1)).length:=by rw[zt4];omega
  rw[preSum,vo ps k (by omega),sJ,zC8,zt5 hk,List.sum_append,zt7,zt5 hk]
  simp
def Fits (ns:List Int):Prop:=∀k,k≤ns.length→-(2 ^ 62)≤(ns.take k).sum∧(ns.take k).sum<2 ^ 62
theorem ip (hc:X.calm=true):xQ X (.builtin "sum") (fun xs H Q=>∃(l:Addr) (ns:List Int),xs=[.ref l]∧SqL X.K H l (ns.map V.int)∧(∀n∈ns,-(2 ^ 62)≤n∧n<2 ^ 62)∧Fits ns∧Q (.int ns.sum) H):=by
 intro pins s σ H xs us Q I r h
 obtain⟨l,ns,rfl,hS,hb,hf,q⟩:=h
 obtain⟨u,rfl,rx⟩:=Vals.one r
 cases (show u=Value.ref l from rx)
 obtain⟨its,rv,p,hz⟩:=I.list hS
 obtain⟨ps,rfl,rfl⟩:=sV rv
 have hl:s.heap.IsList l (intItems ps.toArray):=by
  have:=p.isList
  rwa [show intItems ps.toArray=(ps.map fun p=>Value.int p.1 p.2).toArray by simp[intItems]]
 refine sum_intList (I.ok.hd hc) hl (fun j hj=>?_) fun h' tk t' hk=>?_
 ·have hj':j<ps.length:=by simpa using hj
  have hk:j<(ps.map (·.1)).length:=by rw[zt4];exact hj'
  rw[vo ps (j+1) (by omega),sJ,zt7,zt5 hk]
  have h1:=hb _ (zD5 hk)
  have h2:=hf (j+1) (by omega)
  refine⟨⟨?_,?_⟩,?_,?_⟩
  ·show -(2 ^ 63)≤(ps.map (·.1))[j];omega
  ·show (ps.map (·.1))[j]<2 ^ 63;omega
  ·omega
  ·omega
 ·rw[show preSum (numAt ps.toArray) ps.toArray.size=(ps.map (·.1)).sum by
   rw[zu2,vo ps ps.length (zt9 _),←zt4 (f:=(·.1)) (as:=ps),zD7]]
  exact⟨.int _,H,I.kept (t':=tk) hk,⟨_,rfl⟩,q⟩
theorem ao {Q:PyData→Prop}{e:Expr}(hc:X.calm=true)(hg:Gl X "sum")(hm:X.mg "sum"=none)(h:EvD X α e fun x=>∃ns:List Int,x=.list (ns.map .int)∧(∀n∈ns,-(2 ^ 62)≤n∧n<2 ^ 62)∧Fits ns∧Q (.int ns.sum))(he:starEach [e] X.env=(false,eval e X.env)::starEach [] X.env:=by rfl):
  EvD X α (.Call (.Name "sum" p) [e] [] pos) Q:=by
 refine rn (ip hc) hg hm boot_sum (zf (h.imp fun x ⟨ns,e1,hb,hf,q⟩=>zo ?_) he) (he:=he)
 intro F σ H vs R m rv k
 subst e1
 obtain⟨v,rfl,av⟩:=rv.one
 obtain⟨a,xs,rfl,h1,h2⟩:=av.lst_inv
 cases h2.ints
 exact⟨a,ns,rfl,SqL.of (zj h1).2,hb,hf,k _ _ H q m.tp Kz.refl (.int _)⟩
end
def yx :List Int→List Bool→List Int
 |z::zs,b::bs=>if b=true then yx zs bs else z::yx zs bs
 |_,_=>[]
theorem uL :∀{zs:List Int} {bs:List Bool} {z:Int},z∈yx zs bs→z∈zs
 |[],_,z,h=>by simp[yx] at h
 |y::zs,[],z,h=>by simp[yx] at h
 |y::zs,b::bs,z,h=>by
  rw[yx] at h
  split at h
  ·exact zu3 _ (uL h)
  ·rcases zu1.mp h with e|h
   ·rw[e];exact zv5
   ·exact zu3 _ (uL h)
theorem qr :∀(zs:List Int) (bs:List Bool),(yx zs bs).length≤zs.length
 |[],_=>by simp[yx]
 |y::zs,[]=>by simp[yx]
 |y::zs,b::bs=>by
  rw[yx]
  have:=qr zs bs
  split
  ·rw[zv0];omega
  ·rw[zv0,zv0];omega
theorem sum_bound :∀{ns:List Int} {m:Int},0≤m→(∀n∈ns,0≤n∧n≤m)→0≤ns.sum∧ns.sum≤ns.length*m
 |[],m,_,_=>by simp
 |n::ns,m,h0,h=>by
  obtain⟨a,b⟩:=sum_bound h0 fun x hx=>h x (zu3 _ hx)
  have:=h n zv5
  rw[zC3,zv0,Int.natCast_add,Int.add_mul]
  constructor
  ·omega
  ·simp;omega
theorem lM {ns:List Int}(h:∀n∈ns,0≤n∧n≤1000000000000)(hl:ns.length≤1000):Fits ns:=fun k hk=>by
 obtain⟨a,b⟩:=sum_bound (ns:=ns.take k) (m:=1000000000000) (by decide) fun n hn=>h n (List.mem_of_mem_take hn)
 have:((ns.take k).length:Int)*1000000000000≤1000*1000000000000:=by
  apply Int.mul_le_mul_of_nonneg_right _ (by decide)
  rw[zw8];omega
 omega
def zf1 (p:Nat):PyData→PyData
 |.tuple [a,b,c]=>if p=1 then b else c
 |_=>.none
def tH :PyData→Bool
 |.tuple [_,_,.bool b]=>b
 |_=>false
theorem rC :∀{ds:List PyData} {zs:List Int} {bs:List Bool},zs.length=ds.length→bs.length=ds.length→((wg ds (zs.map .int) (bs.map .bool)).filter fun d=>!tH d).map (zf1 1)=(yx zs bs).map .int
 |[],[],[],_,_=>rfl
 |d::ds,z::zs,b::bs,h1,h2=>by
  have ih:=rC (ds:=ds) (zs:=zs) (bs:=bs) (by simpa using h1) (by simpa using h2)
  rw[zy1,zy1,wg,yx,List.filter_cons]
  cases b with
  |true=>simpa[tH,bw] using ih
  |false=>simp[tH,bw,zf1];exact ih
def wm (d:PyData)(zs:List Int)(bs:List Bool):Prop:=(d=.none∧bs=List.replicate zs.length false)∨∃many free:Nat,d=.tuple [.int many,.int free]∧vY zs many free zs.length bs
theorem wm.len {d:PyData}{zs:List Int}{bs:List Bool}(h:wm d zs bs):bs.length=zs.length:=by
 rcases h with ⟨_,rfl⟩|⟨_,_,_,h⟩
 ·simp
 ·exact h.1
def zE :List Int→List Bool→Int
 |z::zs,b::bs=>(if b=true then z else 0)+zE zs bs
 |_,_=>0
theorem vS :∀{zs:List Int} {bs:List Bool},bs.length=zs.length→(yx zs bs).sum=zs.sum-zE zs bs
 |[],[],_=>by simp[yx,zE]
 |z::zs,b::bs,h=>by
  have ih:=vS (zs:=zs) (bs:=bs) (by simpa using h)
  rw[yx,zE,zC3]
  cases b with
  |true=>rw[if_pos rfl,if_pos rfl,ih];omega
  |false=>rw[if_neg (by decide),if_neg (by decide),zC3,ih];omega
theorem vt :∀{zs ys:List Int} {bs cs:List Bool},bs.length=zs.length→zE (zs++ys) (bs++cs)=zE zs bs+zE ys cs
 |[],ys,[],cs,_=>by simp[zE]
 |z::zs,ys,b::bs,cs,h=>by
  rw[zD6,zD6,zE,zE,vt (by simpa using h)]
  omega
theorem ua :∀{zs:List Int} {bs:List Bool},(∀b∈bs,b=false)→zE zs bs=0
 |[],_,_=>by simp[zE]
 |_::_,[],_=>by simp[zE]
 |z::zs,b::bs,h=>by
  rw[zE,h b zv5,ua fun x hx=>h x (zu3 _ hx)]
  rfl
theorem ny :∀{zs ys:List Int} {bs:List Bool},ys.length=zs.length→(∀i,i<zs.length→zs.getD i 0≤ys.getD i 0)→zE zs bs≤zE ys bs
 |[],[],_,_,_=>by simp[zE]
 |_::_,_::_,[],_,_=>by simp[zE]
 |z::zs,y::ys,b::bs,hl,h=>by
  have ih:=ny (zs:=zs) (ys:=ys) (bs:=bs) (by simpa using hl) fun i hi=>by
   have:=h (i+1) (by simpa using hi)
   simpa using this
  have h0:=h 0 (by simp)
  simp at h0
  rw[zE,zE]
  split<;>omega
theorem wy :∀{zs ys:List Int} {bs:List Bool} {d:Int},ys.length=zs.length→ys.sum=zs.sum+d→(∀i,i<zs.length→zs.getD i 0≤ys.getD i 0)→zE ys bs≤zE zs bs+d
 |[],[],_,d,_,hs,_=>by simp[zE] at hs ⊢;omega
 |z::zs,y::ys,[],d,hl,hs,h=>by
  have ih:=wy (zs:=zs) (ys:=ys) (bs:=[]) (d:=d-(y-z)) (by simpa using hl) (by rw[zC3,zC3] at hs;omega) fun i hi=>by
   have:=h (i+1) (by simpa using hi)
   simpa using this
  have h0:=h 0 (by simp)
  simp at h0
  have e1:zE ys []=0:=by cases ys<;>rfl
  have e2:zE zs []=0:=by cases zs<;>rfl
  rw[e1,e2] at ih
  show (0:Int)≤0+d
  omega
 |z::zs,y::ys,b::bs,d,hl,hs,h=>by
  have ih:=wy (zs:=zs) (ys:=ys) (bs:=bs) (d:=d-(y-z)) (by simpa using hl) (by rw[zC3,zC3] at hs;omega) fun i hi=>by
   have:=h (i+1) (by simpa using hi)
   simpa using this
  have h0:=h 0 (by simp)
  simp at h0
  rw[zE,zE]
  split<;>omega
theorem nq {t:Int}:∀{zs:List Int} {bs cs:List Bool},bs.length=zs.length→cs.length=zs.length→(∀i,i<zs.length→(bs.getD i false=true→zs.getD i 0≤t)∧(bs.getD i false=false→t≤zs.getD i 0))→
  zE zs bs-t*(bs.count true:Nat)≤zE zs cs-t*(cs.count true:Nat)
 |[],[],[],_,_,_=>by simp[zE]
 |z::zs,b::bs,c::cs,h1,h2,h=>by
  have ih:=nq (t:=t) (zs:=zs) (bs:=bs) (cs:=cs) (by simpa using h1) (by simpa using h2) fun i hi=>by
   have:=h (i+1) (by simpa using hi)
   simpa using this
  have h0:=h 0 (by simp)
  simp only[List.getD_cons_zero] at h0
  rw[zE,zE]
  have eb:t*(((b::bs).count true:Nat):Int)=t*(bs.count true:Nat)+(if b=true then t else 0):=by
   cases b with
   |true=>rw[List.count_cons_self,Int.natCast_add,Int.mul_add,if_pos rfl];simp
   |false=>rw[List.count_cons_of_ne (by decide),if_neg (by decide)];simp
  have ecc:t*(((c::cs).count true:Nat):Int)=t*(cs.count true:Nat)+(if c=true then t else 0):=by
   cases c with
   |true=>rw[List.count_cons_self,Int.natCast_add,Int.mul_add,if_pos rfl];simp
   |false=>rw[List.count_cons_of_ne (by decide),if_neg (by decide)];simp
  rw[eb,ecc]
  generalize t*((bs.count true:Nat):Int)=x at *
  generalize t*((cs.count true:Nat):Int)=y at *
  cases b with
  |true=>
   have:=h0.1 rfl
   cases c<;>simp<;>omega
  |false=>
   have:=h0.2 rfl
   cases c<;>simp<;>omega
theorem nV {zs ms:List Int}{lo many free:Nat}{bs cs:List Bool}(s:sT (zx (lo:Int) many) zs ms)(hz:lo+many≤zs.length)(hb:bs.length=zs.length)(h:∀q,q<many→bs.getD (ms.getD q 0).toNat false=decide (q<free))(f0:0<free)(hf:free≤many)(h0:∀z∈zs,0≤z)
  (hc:cs.length=many) (hn:free≤cs.count true):zE ((zs.drop lo).take many) ((bs.drop lo).take many)≤zE ((zs.drop lo).take many) cs:=by
 have hl:ms.length=many:=by rw[s.1.length_eq,zi]
 have lz:((zs.drop lo).take many).length=many:=by rw[zw8,zB9];omega
 have lb:((bs.drop lo).take many).length=many:=by rw[zw8,zB9];omega
 have gb:∀a,a<many→((bs.drop lo).take many).getD a false=bs.getD (lo+a) false:=fun a ha=>by
  rw[zt7,zt7,zF0 ha,List.getElem?_drop]
 have gz:∀a,a<many→((zs.drop lo).take many).getD a 0=zs.getD (lo+a) 0:=fun a ha=>by
  rw[zt7,zt7,zF0 ha,List.getElem?_drop]
 have up:∀p q,p<q→q<many→zs.getD (ms.getD p 0).toNat 0≤zs.getD (ms.getD q 0).toNat 0:=fun p q hpq hq=>by
  have w:=zE6.mp s.2 p q (by omega) (by omega) hpq
  have w:=of_decide_eq_false (show decide _=false from w)
  simp only[keyOf] at w
  rw[zt7 (l:=ms),zt7 (l:=ms),zt5 (by omega),zt5 (by omega)]
  simp only[Option.getD_some]
  omega
 have line:=nq (t:=zs.getD (ms.getD (free-1) 0).toNat 0) (zs:=(zs.drop lo).take many) (bs:=(bs.drop lo).take many) (cs:=cs) (by rw[lb,lz]) (by rw[hc,lz]) fun i hi=>by
  rw[lz] at hi
  rw[gb i hi,gz i hi]
  obtain⟨q,hq,e⟩:=zg6 s (m:=((lo+i:Nat):Int)) (by omega) (by omega)
  have fq:=h q hq
  rw[e,zF9] at fq
  have eq:zs.getD (lo+i) 0=zs.getD (ms.getD q 0).toNat 0:=by rw[e,zF9]
  rw[fq,eq]
  constructor
  ·intro hd
   have hd:=zF8 hd
   by_cases he:q=free-1
   ·rw[he];exact Int.le_refl _
   ·exact up q (free-1) (by omega) (by omega)
  ·intro hd
   have hd:=of_decide_eq_false hd
   exact up (free-1) q (by omega) hq
 have hcnt:=uB s (by omega) h hf
 rw[hcnt] at line
 have t0:0≤zs.getD (ms.getD (free-1) 0).toNat 0:=by
  have:=vE s (q:=free-1) (by omega)
  have hlt:(ms.getD (free-1) 0).toNat<zs.length:=by omega
  rw[zt7 (l:=zs),zt5 hlt]
  exact h0 _ (zD5 _)
 generalize zs.getD (ms.getD (free-1) 0).toNat 0=t at *
 have:t*(free:Nat)≤t*(cs.count true:Nat):=Int.mul_le_mul_of_nonneg_left (by omega) t0
 omega
theorem qt {zs ys:List Int}{many free free':Nat}{bs cs:List Bool}(mk:vY zs many free zs.length bs)(mk':vY ys many free' ys.length cs)(hl:ys.length=zs.length)(f0:0<free)(hff:free≤free')(hf:free'≤many)(h0:∀z∈zs,0≤z):
  ∀k,k≤zs.length / many→zE (zs.take (k*many)) (bs.take (k*many))≤zE (zs.take (k*many)) (cs.take (k*many))
 |0,_=>by simp[zE]
 |k+1,hk=>by
  obtain⟨ms,s,f⟩:=mk.2.2 k hk
  obtain⟨ms',s',f'⟩:=mk'.2.2 k (by rw[hl];exact hk)
  have hkm:(k+1)*many≤zs.length:=zx7 (zD8 _ hk) (Nat.div_mul_le_self _ _)
  rw[Nat.add_mul,Nat.one_mul] at hkm ⊢
  have b1:=mk.1
  have c1:=mk'.1
  have ih:=qt mk mk' hl f0 hff hf h0 k (by omega)
  have one:=nV (cs:=(cs.drop (k*many)).take many) s hkm b1 f f0 (by omega) h0 (by rw[zw8,zB9];omega) (by rw[uB s' (by omega) f' hf];exact hff)
  rw[List.take_add,List.take_add,List.take_add,vt (by rw[zw8,zw8];omega),vt (by rw[zw8,zw8];omega)]
  omega
theorem cz {zs:List Int}{many free:Nat}{bs:List Bool}(ys:List Int)(hy:ys.length=zs.length)(mk:vY zs many free zs.length bs):zE ys bs=zE (ys.take (zs.length / many*many)) (bs.take (zs.length / many*many)):=by
 have hw:=Nat.div_mul_le_self zs.length many
 have b1:=mk.1
 have e1:zE ys bs=zE (ys.take (zs.length / many*many)++ys.drop (zs.length / many*many)) (bs.take (zs.length / many*many)++bs.drop (zs.length / many*many)):=by rw[List.take_append_drop,List.take_append_drop]
 rw[e1,vt (by rw[zw8,zw8];omega),ua (zs:=ys.drop _) (bs:=bs.drop _) fun b hb=>?_,Int.add_zero]
 obtain⟨j,hj,rfl⟩:=List.mem_iff_getElem.mp hb
 rw[List.getElem_drop]
 rw[zB9] at hj
 have:=mk.2.1 (zs.length / many*many+j) (by omega)
 rw[zt7,zt5 (by omega)] at this
 exact this
theorem gJ {zs ys:List Int}{many free free':Nat}{bs cs:List Bool}(mk:vY zs many free zs.length bs)(mk':vY ys many free' ys.length cs)(hl:ys.length=zs.length)(f0:0<free)(hff:free≤free')(hf:free'≤many)(h0:∀z∈zs,0≤z):zE zs bs≤zE zs cs:=by
 have e2:=cz zs hl.symm mk'
 rw[hl] at e2
 rw[cz zs rfl mk,e2]
 exact qt mk mk' hl f0 hff hf h0 _ (zt9 _)
def fU (d:PyData):Prop:=d=.none∨∃many free:Nat,d=.tuple [.int many,.int free]∧0<free∧free<many∧many<64
theorem og {many free:Nat}{zs:List Int}{bs:List Bool}(h:wm (.tuple [.int many,.int free]) zs bs):vY zs many free zs.length bs:=by
 rcases h with ⟨h,_⟩|⟨m',f',h,mk⟩
 ·cases h
 ·injection h with h
  injection h with h1 h2
  injection h2 with h2 _
  injection h1 with h1
  injection h2 with h2
  have e1:m'=many:=by omega
  have e2:f'=free:=by omega
  rw[e1,e2] at mk
  exact mk
theorem oJ {zs:List Int}{bs:List Bool}(h:wm .none zs bs):zE zs bs=0:=by
 rcases h with ⟨_,rfl⟩|⟨_,_,h,_⟩
 ·exact ua fun b hb=>(List.mem_replicate.mp hb).2
 ·cases h
theorem mR {d:PyData}{zs ys:List Int}{bs cs:List Bool}{e:Int}(hb:wm d zs bs)(hc:wm d ys cs)(hd:fU d)(hl:ys.length=zs.length)(hs:ys.sum=zs.sum+e)(hle:∀i,i<zs.length→zs.getD i 0≤ys.getD i 0)(h0:∀z∈zs,0≤z)(h1:∀z∈ys,0≤z):
  (yx zs bs).sum≤(yx ys cs).sum∧(yx ys cs).sum≤(yx zs bs).sum+e:=by
 rw[vS hb.len,vS hc.len,hs]
 rcases hd with rfl|⟨many,free,rfl,f0,fm,_⟩
 ·rw[oJ hb,oJ hc]
  have:=wy (bs:=[]) hl hs hle
  have e1:zE ys []=0:=by cases ys<;>rfl
  have e2:zE zs []=0:=by cases zs<;>rfl
  rw[e1,e2] at this
  omega
 ·have mk:=og hb
  have mk':=og hc
  have a1:=gJ mk mk' hl f0 (zt9 _) (by omega) h0
  have a2:=gJ mk' mk hl.symm f0 (zt9 _) (by omega) h1
  have a3:=ny (bs:=cs) hl hle
  have a4:=wy (bs:=bs) hl hs hle
  omega
section
variable {κ:Type}[DecidableEq κ]
def rL (kvs:List (κ×V))(k:κ):Option V:=(kvs.find? fun kv=>decide (kv.1=k)).map (·.2)
theorem sj {p:κ×V}{r:List (κ×V)}{k:κ}(e:p.1=k):rL (p::r) k=some p.2:=by simp[rL,zz0,e]
theorem sX {p:κ×V}{r:List (κ×V)}{k:κ}(e:¬p.1=k):rL (p::r) k=rL r k:=by simp[rL,zz0,e]
theorem KV.val {kvs:List (κ×V)}{vs:List (κ×Value)}(r:KV kvs vs)(k:κ):vI (rL kvs k) (valueAt vs k):=by
 unfold KV at r
 induction r with
 |nil=>exact True.intro
 |@cons p q ps qs h t ih=>
  obtain⟨h1,h2⟩:=h
  by_cases e:p.1=k
  ·have e':q.1=k:=h1.symm.trans e
   have b:valueAt (q::qs) k=some q.2:=by simp[valueAt,zz0,e']
   rw[sj e,b];exact h2
  ·have e':¬q.1=k:=fun z=>e (h1.trans z)
   have b:valueAt (q::qs) k=valueAt qs k:=by simp[valueAt,zz0,e']
   rw[sX e,b];exact ih
end
theorem aY {P:Program}{w:World}{k:Key}{u:Value}(r:RelV (kV k) u):(yO P w).is k u=true:=by
 cases k with
 |inl i=>obtain⟨t,e⟩:=(show ∃t,u=Value.int i t from r);subst e;exact nE P w i t
 |inr x=>obtain⟨t,e⟩:=(show ∃t,u=Value.str x t from r);subst e;exact nA P w x t
theorem rV {P:Program}{w:World}:∀{ks:List Key} {us:List Value},Vals (ks.map kV) us→ItemsAre (yO P w) ks us
 |[],_,r=>by rw[List.map_nil] at r;cases r;exact .nil
 |k::ks,_,r=>by
  rw[zy1] at r
  cases r with
  |cons h t=>exact .cons (aY h) (rV t)
abbrev KT (H:Hp):List (List Key×V)→List (List Key×Addr×Value)→Prop:=Paired fun p q=>p.1=q.1∧H q.2.1=some (.tup (p.1.map kV))∧RelV p.2 q.2.2
theorem KT.val {H:Hp}{kvs:List (List Key×V)}{xs:List (List Key×Addr×Value)}(r:KT H kvs xs)(k:List Key):vI (rL kvs k) ((atKey xs k).map (·.2)):=by
 induction r with
 |nil=>exact True.intro
 |@cons p q ps qs h t ih=>
  obtain⟨h1,_,h2⟩:=h
  by_cases e:p.1=k
  ·have e':q.1=k:=h1.symm.trans e
   have b:atKey (q::qs) k=some q.2:=by simp[atKey,zz0,e']
   rw[sj e,b];exact h2
  ·have e':¬q.1=k:=fun z=>e (h1.trans z)
   have b:atKey (q::qs) k=atKey qs k:=by simp[atKey,zz0,e']
   rw[sX e,b];exact ih
section
variable {P:Program}{w:World}{H:Hp}{h:Heap}{a:Addr}
theorem aP {u:HO}(ok:HOk P w H h)(e:Rd H a u):yf P w H h a u:=e.ok ok
theorem aO {kvs:List (Key×V)}(ok:HOk P w H h)(e:Rd H a (.dK kvs)):kvs.length≤sizeLine∧(a == sysModules)=false∧∃vs,KV kvs vs∧h.DictOf (yO P w) a vs:=
 show yf P w H h a (.dK kvs) from aP ok e
theorem eo {ks:List Key}(ok:HOk P w H h)(e:H a=some (.tup (ks.map kV))):(tupleKind (yO P w)).is h ks a:=by
 obtain⟨_,its,r,o,h1,h2,n,h3⟩:=(show yf P w H h a (.tup (ks.map kV)) from ok a _ e)
 exact⟨o,its.toArray,n,h1,h2,h3,by simpa using rV r⟩
theorem aV {kvs:List (List Key×V)}(ok:HOk P w H h)(e:Rd H a (.dT kvs)):kvs.length≤sizeLine∧(a == sysModules)=false∧
  ∃xs,KT H kvs xs∧h.DictOfH (tupleKind (yO P w)) a xs:=by
 obtain⟨z,y,xs,r,o,es,ep,h1,h2,h3,h4,h5⟩:=(show yf P w H h a (.dT kvs) from aP ok e)
 refine⟨z,y,xs,r,o,es,ep,h1,h2,h3,h4,fun x hx=>?_,h5⟩
 have all:∀{l:List (List Key×V)} {m:List (List Key×Addr×Value)},KT H l m→∀x∈m,(tupleKind (yO P w)).is h x.1 x.2.1:=by
  intro l m q
  induction q with
  |nil=>intro x hx;exact nomatch hx
  |@cons p q ps qs hq t ih=>
   intro x hx
   rcases zu1.mp hx with e|hx
   ·subst e
    exact eo ok (by rw[←hq.1];exact hq.2.1)
   ·exact ih x hx
 exact all r x hx
end
def zb4 (H:Hp)(a:Addr)(y:V)(r:Option V):Prop:=
 (∃kvs k,Rd H a (.dK kvs)∧y=kV k∧r=rL kvs k)∨∃kvs k b,Rd H a (.dT kvs)∧y=.ref b∧H b=some (.tup (k.map kV))∧r=rL kvs k
section
variable {X:Cx}{pins:List (Addr×Obj)}{σ:St}{H:Hp}{s:Shared}{a:Addr}{y v:V}{u r:Value}{o:Option V}{A:Around}{E:Value→Shared→Prop}
theorem iB {Q:Value→Shared→Prop}(hu:A.units+1<cLine)(I:Inv X pins σ H s)(g:zb4 H a y (some v))(ry:RelV y u)(h:∀w' s',Inv X pins σ H s'→RelV v w'→Q w' s'):
  wpAny (model X.prog X.w) A (getItem (.ref a) u) Q E s:=by
 rcases g with ⟨kvs,k,e,ey,l⟩|⟨kvs,k,b,e,ey,eb,l⟩
 ·subst ey
  obtain⟨z,hd,vs,rel,dd⟩:=aO I.hok e
  obtain⟨w',hw,rw'⟩:=vI.some_of (v:=v) (o:=valueAt vs k) (by rw[l];exact rel.val k)
  exact wpAny_getItem_of (aY ry) dd.mapOf hw (h w' _ (I.tok _) rw')
 ·subst ey
  cases (show u=Value.ref b from ry)
  obtain⟨z,hd,xs,rel,dd⟩:=aV I.hok e
  obtain⟨w',hw,rw'⟩:=vI.some_of (v:=v) (o:=(atKey xs k).map (·.2)) (by rw[l];exact rel.val k)
  obtain⟨p,hp,hp2⟩:=zw9.mp hw
  refine wpAny_getItem_heap (tupleKind_room_in1 hu) (eo I.hok eb) dd hp ?_
  rw[hp2]
  exact h w' _ (I.tok _) rw'
end
section
variable {X:Cx}{pins:List (Addr×Obj)}{σ:St}{H:Hp}{s:Shared}{a:Addr}{kvs:List (Key×V)}{k:Key}{u:Value}{A:Around}{E:Value→Shared→Prop}
end
theorem pT {X:Cx}{pins:List (Addr×Obj)}{σ:St}{H:Hp}{s:Shared}{a:Addr}{y:V}{o:Option V}(I:Inv X pins σ H s)(g:zb4 H a y o):s.TypeIs (.ref a) "dict":=by
 rcases g with ⟨kvs,k,e,_,_⟩|⟨kvs,k,b,e,_,_,_⟩
 ·obtain⟨_,_,vs,_,dd⟩:=aO I.hok e
  exact dd.typeIs
 ·obtain⟨_,_,xs,_,dd⟩:=aV I.hok e
  exact dd.typeIs
section
variable {X:Cx}{o i e value:Expr}{pos pos' tpos:Pos}{td ty tv:TE}
end
section
variable {X:Cx}{pos:Pos}
end
section
variable {X:Cx}{pins:List (Addr×Obj)}{σ:St}{H:Hp}{s:Shared}{a:Addr}{y d:V}{u r:Value}{o:Option V}{A:Around}{E:Value→Shared→Prop}
end
section
variable {X:Cx}{o e f:Expr}{apos cpos:Pos}{td ty tx:TE}
end
section
variable {X:Cx}{pins:List (Addr×Obj)}{σ:St}{H:Hp}{s:Shared}{a:Addr}{kvs:List (Key×V)}{A:Around}{E:Value→Shared→Prop}
end
section
variable {X:Cx}{pins:List (Addr×Obj)}{σ:St}{H:Hp}{s:Shared}{a:Addr}{y:V}{u:Value}{A:Around}{E:Value→Shared→Prop}
end
def kEq :PyData→Key→Bool
 |.int i,.inl j=>decide (i=j)
 |.str x,.inr y=>decide (x=y)
 |_,_=>false
theorem gk (k j:Key):kEq (iI k) j=decide (k=j):=by
 cases k<;>cases j<;>simp[kEq,iI]
def cO :List (PyData×PyData)→Key→Option PyData
 |[],_=>none
 |(p,d)::r,k=>if kEq p k=true then some d else cO r k
theorem AVk.get {H:Hp}:∀{kvs:List (Key×V)} {ds:List (PyData×PyData)} {k:Key} {d:PyData},AVk H kvs ds→cO ds k=some d→∃v,rL kvs k=some v∧AV H v d
 |_,_,k,d,.nil,e=>by cases e
 |_,_,k,d,.cons (k:=j) h r,e=>by
  unfold cO at e
  rw[gk] at e
  by_cases z:j=k
  ·rw[zD2 z,if_pos rfl] at e
   cases e
   exact⟨_,sj z,h⟩
  ·rw[zy5 z,if_neg (by decide)] at e
   rw[sX z]
   exact AVk.get r e
theorem aF {H:Hp}{v:V}{k:Key}(h:AV H v (iI k)):v=kV k:=by
 cases k with
 |inl i=>exact h.int_inv
 |inr x=>exact h.str_inv
theorem AV.dk_inv {H:Hp}{v:V}{ds:List (PyData×PyData)}(h:AV H v (bX ds)):∃a o kvs,v=.ref a∧H a=some (.frz o (.dK kvs))∧AVk H kvs ds:=by
 generalize e:bX ds=d at h
 cases h with
 |dk h1 h2=>cases e;exact⟨_,_,_,rfl,h1,h2⟩
 |_=>cases e
section
variable {X:Cx}{pins:List (Addr×Obj)}{σ:St}{H:Hp}{s:Shared}{l:Addr}{kvs:List (Key×V)}
end
section
variable {X:Cx}{e:Expr}{sts:List Stmt}
end
section
variable {X:Cx}{α:Ev}{e a b:Expr}{pos p:Pos}{Q:PyData→Prop}
end
section
variable {X:Cx}{α:Ev}{e a b:Expr}{pos p:Pos}{Q:PyData→Prop}
end
section
variable {X:Cx}{tg:Expr}
end
section
variable {X:Cx}{α:Ev}{e a b tg:Expr}{pos p:Pos}{Q:List PyData→Prop}
end
mutual
def ltD :PyData→PyData→Option Bool
 |.int a,.int b=>some (decide (a<b))
 |.str a,.str b=>some (decide (a.cps.toList<b.cps.toList))
 |.tuple xs,.tuple ys=>zp3 xs ys
 |_,_=>none
def zp3 :List PyData→List PyData→Option Bool
 |[],[]=>some false
 |[],_::_=>some true
 |_::_,[]=>some false
 |x::xs,y::ys=>if PyData.eqv x y=true then zp3 xs ys else ltD x y
end
section
open PySem.SeqAt
open PySem.AutoSeq1 (wpAny_loadPart')
open PySem.MeetsSeq PySem.MeetsSeq2 PySem.MeetsSeq3
end
section
variable {prog:Program}{w:World}{A:Around}{R:Result→Shared→Prop}{it:Addr}{fp wr:List Addr}{m:Nat}{P:Nat→Value→Prop}{St:Nat→Heap→Prop}
end
section
variable {prog:Program}{w:World}{A:Around}{E:Value→Shared→Prop}{s:Shared}
end
section
variable {X:Cx}{α:Ev}{e:Expr}{pos p:Pos}{Q:PyData→Prop}
end
section
variable {prog:Program}{w:World}{A:Around}{E:Value→Shared→Prop}{s:Shared}{it l:Addr}{items:Array Value}
end
section
variable {X:Cx}{α:Ev}{a e c:Expr}{p p0 pos pos2:Pos}{Q:List PyData→Prop}
end
def pS (Q:PyData→Prop):List PyData→Prop
 |[]=>True
 |d::r=>Q d∧pS Q r
theorem pS.mem {Q:PyData→Prop}:∀{ds:List PyData},pS Q ds→∀d∈ds,Q d
 |[],_,d,h=>by cases h
 |x::r,h,d,hd=>by
  rcases zu1.mp hd with rfl|hd
  ·exact h.1
  ·exact pS.mem h.2 d hd
theorem aJ {x:PyData}{ds:List PyData}{v:Int}{Q:PyData→Prop}(hx:wK x=some ds)(h0:0≤v)(h1:v<ds.length)(h:pS Q ds):∃ds i d,wK x=some ds∧PyData.int v=.int i∧atI ds i=some d∧Q d:=by
 obtain⟨d,hd,e⟩:=oV h0 h1
 exact⟨ds,v,d,hx,rfl,e,h.mem d hd⟩
theorem dm {x:PyData}{ds:List PyData}{v:Int}{Q:PyData→Prop}(P:PyData→Prop)(hx:wK x=some ds)(h0:0≤v)(h1:v<ds.length)(h:pS P ds)(k:∀d,P d→Q d):∃ds i d,wK x=some ds∧PyData.int v=.int i∧atI ds i=some d∧Q d:=by
 obtain⟨d,hd,e⟩:=oV h0 h1
 exact⟨ds,v,d,hx,rfl,e,k d (h.mem d hd)⟩
section
variable {X:Cx}{α:Ev}{e a b:Expr}{pos p:Pos}{E:xi}{rest:List Stmt}
end
def zl7 :R2:=fun x y H R=>rEq x y H R∨zp4 x y H R
def zk3 :R2:=fun x y H R=>rNe x y H R∨zo5 x y H R
theorem fc {X:Cx}(hu:X.A.units+64<cLine):OpR X (compareOp .Eq) zl7:=fun pins s σ H x y v u Q I rx ry h=>h.elim (fun h=>wN _ _ _ _ _ _ _ _ _ I rx ry h) fun h=>vc hu _ _ _ _ _ _ _ _ _ I rx ry h
theorem zf4 {X:Cx}(hu:X.A.units+64<cLine):OpR X (compareOp .NotEq) zk3:=fun pins s σ H x y v u Q I rx ry h=>h.elim (fun h=>zp0 _ _ _ _ _ _ _ _ _ I rx ry h) fun h=>zd6 hu _ _ _ _ _ _ _ _ _ I rx ry h
theorem cW {i j:Str}:Cmp rNe (.str i) (.str j) (!decide (i=j)):=fun p H vx vy R rx ry h=>by
 cases rx.str_inv;cases ry.str_inv
 refine⟨rfl,?_⟩
 rw[show decide (V.str i=V.str j)=decide (i=j) by simp]
 exact h
def jS (x y:PyData)(Q:Bool→Prop):Prop:=∃k,Cmp zl7 x y k∧Cmp zk3 x y (!k)∧Q k
theorem bK {i j:Str}{Q:Bool→Prop}(h:Q (decide (i=j))):jS (.str i) (.str j) Q:=⟨_,fun p H vx vy R rx ry z=>.inl (je p H vx vy R rx ry z),fun p H vx vy R rx ry z=>.inl (cW p H vx vy R rx ry z),h⟩
theorem eqk {x y:PyData}{Q:Bool→Prop}(s1:SeqAt.shaped x=true)(s2:SeqAt.shaped y=true)(d1:x.hasDict=false)(d2:y.hasDict=false)(h:Q (PyData.eqv x y)):jS x y Q:=
 ⟨_,fun p H vx vy R rx ry z=>.inr ⟨x,y,(rx.dv d1).same xE,(ry.dv d2).same xE,s1,s2,z⟩,fun p H vx vy R rx ry z=>.inr ⟨x,y,(rx.dv d1).same xE,(ry.dv d2).same xE,s1,s2,z⟩,h⟩
section
variable {X:Cx}{α:Ev}{a b:Expr}{pos:Pos}{Q:PyData→Prop}{T:Bool→Prop}
theorem ze7 (hu:X.A.units+64<cLine)(h:EvD X α a fun x=>EvD X α b fun y=>jS x y fun k=>Q (.bool k)):EvD X α (.Compare a [.Eq] [b] pos) Q:=zf0 (fc hu) (zF _) (h.imp fun x h=>h.imp fun y ⟨k,e,_,q⟩=>⟨k,e,q⟩)
theorem zf7 (hu:X.A.units+64<cLine)(h:EvD X α a fun x=>EvD X α b fun y=>jS x y T):EvT X α (.Compare a [.Eq] [b] pos) T:=vZ (fc hu) (zF _) (h.imp fun x h=>h.imp fun y ⟨k,e,_,q⟩=>⟨k,e,q⟩)
theorem zd4 (hu:X.A.units+64<cLine)(h:EvD X α a fun x=>EvD X α b fun y=>jS x y fun k=>T (!k)):EvT X α (.Compare a [.NotEq] [b] pos) T:=vZ (zf4 hu) (zF _) (h.imp fun x h=>h.imp fun y ⟨k,_,e,q⟩=>⟨!k,e,q⟩)
theorem zl8 {k:Bool}{p q:Prop}(e:k=true)(h:p):if k=true then p else q:=by rw[if_pos e];exact h
theorem uk {k:Bool}{p q:Prop}(e:k=false)(h:q):if k=true then p else q:=by rw[if_neg (by rw[e];decide)];exact h
variable {E:xi}{s t:List Stmt}
theorem kX {k:Bool}(e:k=true)(h:SvS X α s E):SvS X α (if k=true then s else t) E:=by rw[if_pos e];exact h
theorem vB {k:Bool}(e:k=false)(h:SvS X α t E):SvS X α (if k=true then s else t) E:=by rw[if_neg (by rw[e];decide)];exact h
end
section
variable {X:Cx}{α:Ev}{a b:Expr}{pos:Pos}{Q:PyData→Prop}{T:Bool→Prop}
def zo7 :R2:=fun x y H Q=>∃a v,x=.ref a∧zb4 H a y (some v)∧Q v H
theorem cV (hu:X.A.units+1<cLine):IxR X zo7:=fun value slice pins s σ H x y v u Q I rx ry h hs=>by
 obtain⟨a,z,rfl,g,q⟩:=h
 cases rx
 exact tail_any (pT I g) PySem.F.slot_dict_getitem.lookup (iB hu I g ry fun w' s' I' r'=>⟨z,H,I',r',q⟩) hs
def eY (x y:PyData)(Q:PyData→Prop):Prop:=(∃ds i d,wK x=some ds∧y=.int i∧atI ds i=some d∧Q d)∨∃ds k d,x=bX ds∧y=iI k∧cO ds k=some d∧Q d
theorem ixk {x y:PyData}{ds:List PyData}{i:Int}{d:PyData}(h1:wK x=some ds)(h2:y=.int i)(h3:atI ds i=some d)(h:Q d):eY x y Q:=.inl ⟨ds,i,d,h1,h2,h3,h⟩
theorem pw {x:PyData}{ds:List PyData}{v:Int}(hx:wK x=some ds)(h0:0≤v)(h1:v<ds.length)(h:pS Q ds):eY x (.int v) Q:=.inl (aJ hx h0 h1 h)
theorem aX {x:PyData}{ds:List PyData}{v:Int}(P:PyData→Prop)(hx:wK x=some ds)(h0:0≤v)(h1:v<ds.length)(h:pS P ds)(k:∀d,P d→Q d):eY x (.int v) Q:=.inl (dm P hx h0 h1 h k)
theorem zj4 (hu:X.A.units+1<cLine)(hs:tJ b)(h:EvD X α a fun x=>EvD X α b fun y=>eY x y Q):EvD X α (.Subscript a b pos) Q:=by
 refine uH (f:=tOp (fun x y H Q=>rIx X.K x y H Q∨zo7 x y H Q)) (zP (zd0.or (cV hu)) zq zq hs) (fun _ _ _=>Iff.rfl) (h.imp fun x h=>h.imp fun y h=>?_)
 intro F σ H vx vy R m rx ry k
 rcases h with ⟨ds,i,d,e1,rfl,hat,hq⟩|⟨ds,kk,d,rfl,rfl,hv,hq⟩
 ·cases ry.int_inv
  cases x with
  |list ds'=>
   cases e1
   obtain⟨a,xs,rfl,h1,h2⟩:=rx.lst_inv
   obtain⟨v,hv,av⟩:=h2.atI hat
   exact .inl (.inl ⟨a,xs,i,v,rfl,rfl,SqL.of (zj h1).2,hv,k d v H hq m.tp Kz.refl av⟩)
  |tuple ds'=>
   cases e1
   obtain⟨a,xs,rfl,h1,h2⟩:=rx.tup_inv
   obtain⟨v,hv,av⟩:=h2.atI hat
   exact .inl (.inr (.inl ⟨a,xs,i,v,rfl,rfl,SqT.of (zj h1).2,hv,k d v H hq m.tp Kz.refl av⟩))
  |_=>cases e1
 ·obtain⟨a,o,kvs,rfl,g1,g2⟩:=rx.dk_inv
  obtain⟨v,w1,w2⟩:=g2.get hv
  cases aF ry
  exact .inr ⟨a,v,rfl,.inl ⟨kvs,kk,.inr ⟨o,(zj g1).2⟩,rfl,w1.symm⟩,k d v H hq m.tp Kz.refl w2⟩
end
theorem zK.one {k:Nat}{A:Around}(h:zK k A):A.units+1<cLine:=by have:=h.units;omega
section
variable {X:Cx}{α:Ev}{E:xi}{rest body:List Stmt}{e c tg iter:Expr}{pos p:Pos}
theorem aE (pat:Pat)(h:EvI X α tg iter fun ds=>uY X pat body rest E ds α)(hN:X.N.Nodup:=by assumption)(hp:PassesOwn (model X.prog X.w) X.A X.env X.xe:=by exact zz1)(hc:X.calm=true:=by rfl)
  (hg:PG X tg (iW X.K pat):=by first|exact yg (by assumption) rfl (Or.inl rfl)|exact yg (by assumption) rfl (Or.inr rfl)|exact sQ rfl rfl (by repeat (first|exact pj|refine vq (by first|exact yg (by assumption) rfl (Or.inl rfl)|exact yg (by assumption) rfl (Or.inr rfl)) ?_)))
  (hs:∀x,foldedSetIterable iter X.env x=pure x:=by intro _;rfl):SvS X α (.For tg iter body [] pos::rest) E:=wY hp hc hg h hs
end
section
variable {Y:Addr→Shared→Hp→List Addr→Cx}{pat:Pat}{ifs:List Expr}{elt:Expr}{α0:Ev}{ι:Type}{g f:ι→PyData}{l:List ι}{acc:List PyData}{Q:List PyData→Prop}
end
section
variable {co:Co}{N:Nat}
end
section
variable {co:Co}{N:Nat}
end
section
variable {X:Cx}{α:Ev}{a b e:Expr}{pos p:Pos}{Q:PyData→Prop}
end
section
variable {X:Cx}{α:Ev}{a b c e:Expr}{pos p:Pos}{Q:PyData→Prop}{T:Bool→Prop}
end
section
variable {X:Cx}{α:Ev}{a b c e:Expr}{pos p p2 pos2:Pos}{Q:PyData→Prop}{T:Bool→Prop}
end
section
variable {X:Cx}{α:Ev}{a b c d e:Expr}{pos p:Pos}{ta tb tc td:TE}{T:Bool→Prop}
end
section
variable {X:Cx}{α:Ev}{a b c d e:Expr}{pos p:Pos}{T:Bool→Prop}
end
abbrev jt (X:Cx)(P:Program)(w:World)(K:PySem.W.Frag)(mg:Str→Option Value)(base:Heap):Prop:=X.prog=P∧X.w=w∧X.K=K∧X.mg=mg∧X.base=base
section
variable {X:Cx}{α:Ev}{e o:Expr}{es:List Expr}{pos p apos:Pos}{Q:PyData→Prop}{k:Nat}{φ:List A→(A→Prop)→Prop}{x m:Str}{C:Addr}{pl:Sem Bool}{P:Program}{w:World}{K:PySem.W.Frag}{mg:Str→Option Value}{base:Heap}
theorem bL (D:Cal P w K mg base x k φ)(hX:jt X P w K mg base)(hr:zK k X.A)(hg:Gl X x)(h:EvA X α (e::es) fun as=>φ as fun a=>Q a.d)
  (hdb:(x == ("__debug__":Str))=false:=by decide) (he:starEach (e::es) X.env=(false,eval e X.env)::starEach es X.env:=by rfl) (hpl:(backTo pos (starEach es X.env)).any (·.1)=false:=by rfl):EvD X α (.Call (.Name x p) (e::es) [] pos) Q:=by
 obtain⟨rfl,rfl,rfl,rfl,rfl⟩:=hX
 exact yn D hr hg h hdb he hpl
theorem gF (D:cj P w K mg base x k [] φ)(hX:jt X P w K mg base)(hr:zK (k+1) X.A)(hg:Gl X x)(h:EvA X α (e::es) fun as=>φ as fun a=>Q a.d)
  (hdb:(x == ("__debug__":Str))=false:=by decide) (he:starEach (e::es) X.env=(false,eval e X.env)::starEach es X.env:=by rfl) (hpl:(backTo pos (starEach es X.env)).any (·.1)=false:=by rfl):EvN X α (.Call (.Name x p) (e::es) [] pos) Q:=by
 obtain⟨rfl,rfl,rfl,rfl,rfl⟩:=hX
 exact ai D hr hg h hdb he hpl
theorem dM (D:wF P w K mg base C m k φ)(hX:jt X P w K mg base)(hr:zK k X.A)(h:EvD X α o fun x=>∃fs,x=va C fs∧um fs m=none∧EvA X α (e::es) fun as=>φ (.dat (va C fs)::as) fun a=>Q a.d)
  (hst:starEach (e::es) X.env=(false,eval e X.env)::starEach es X.env:=by rfl) (hpl:(backTo pos (starEach es X.env)).any (·.1)=false:=by rfl)
  (ht:eval (.Call (.Attribute o m apos) (e::es) [] pos) X.env=(do
   let ov ←eval o X.env
   standAt apos.atName
   let (f,first) ←holding [ov] (getMethod ov m pl)
   callWith pos f first (backTo pos (starEach (e::es) X.env)) (backToKw pos (keywordEach [] X.env))):=by rfl):EvD X α (.Call (.Attribute o m apos) (e::es) [] pos) Q:=by
 obtain⟨rfl,rfl,rfl,rfl,rfl⟩:=hX
 exact xg D hr h hst hpl ht
theorem iM (D:wF P w K mg base C m k φ)(hX:jt X P w K mg base)(hr:zK k X.A)(h:EvD X α o fun x=>∃fs,x=va C fs∧um fs m=none∧φ [.dat (va C fs)] fun a=>Q a.d)
  (ht:eval (.Call (.Attribute o m apos) [] [] pos) X.env=(do
   let ov ←eval o X.env
   standAt apos.atName
   let (f,first) ←holding [ov] (getMethod ov m pl)
   callWith pos f first (backTo pos (starEach [] X.env)) (backToKw pos (keywordEach [] X.env))):=by rfl):EvD X α (.Call (.Attribute o m apos) [] [] pos) Q:=by
 obtain⟨rfl,rfl,rfl,rfl,rfl⟩:=hX
 exact tP D hr h ht
end
section
variable {X:Cx}{α:Ev}{pos:Pos}{Q:PyData→Prop}
end
structure Moved (fs:List Addr)(e:Addr)(ts:List Addr)(h h':Heap):Prop where
 keep:∀b o,b≠e→b∉ts→b∉fs→h.get? b=some o→h'.get? b=some o
 slot:∀b o,b∈fs→h.get? b=some o→∃sl,h'.get? b=some {o with slots:=sl}
 exc:∀o vs,h.get? e=some o→o.data=.fields vs→∃o' vs',h'.get? e=some o'∧o'.cls=o.cls∧o'.dict=o.dict∧o'.data=.fields vs'
 there:∀b o,h.get? b=some o→∃o',h'.get? b=some o'
def Ent (h base:Heap)(e T:Addr)(fl:Value):Prop:=
 ∃oe vs oT tv,h.get? e=some oe∧oe.data=.fields vs∧vs[1]?=some (.ref T)∧T≠e∧base.get? T=none∧h.get? T=some oT∧oT.data=.fields tv∧tv[3]?=some fl
def Beg (h base:Heap)(e:Addr)(ts:List Addr):Prop:=
 (ts=[]∧∃oe vs,h.get? e=some oe∧oe.data=.fields vs∧vs[1]?=some .none)∨∃T,ts=[T]∧Ent h base e T .none
theorem tK {base h:Heap}{l:List Env}{b:Addr}(hl:h.FunFrames base l)(hb:b∈frs l):base.get? b=none∧∃o,h.get? b=some o∧∀vs,o.data≠.fields vs:=hl.mem hb
section
variable {M:Model}{A:Around}{E:Value→Shared→Prop}{s:Shared}
theorem vD (o:Obj)(f:Array Value→Array Value):(o.mapFields f).cls=o.cls∧(o.mapFields f).dict=o.dict:=by
 obtain⟨c,d,dt,sl⟩:=o
 cases dt<;>exact⟨rfl,rfl⟩
theorem rZ {fs:List Addr}{e T:Addr}{h:Heap}{oT:Obj}{tv:Array Value}{f:Array Value→Array Value}(hT:h.get? T=some oT)(hd:oT.data=.fields tv)(hfs:∀b∈fs,b≠T):Moved fs e [T] h (h.update T (Obj.mapFields f)) where
 keep:=fun b o _ hb _ q=>by
  rw[zu5 _ _ (fun z=>hb (by rw[←z];exact zw2.mpr rfl))]
  exact q
 slot:=fun b o hb q=>⟨o.slots,by rw[zu5 _ _ (zw7 (hfs b hb))];exact q⟩
 exc:=fun o vs q d=>by
  by_cases z:T=e
  ·subst z
   rw[hT] at q;cases q
   refine⟨_,_,zy2 _ hT (zB2 (zA7 hd _)),(vD _ _).1,(vD _ _).2,zA7 hd _⟩
  ·exact⟨o,vs,by rw[zu5 _ _ z];exact q,rfl,rfl,d⟩
 there:=fun b o q=>by
  by_cases z:T=b
  ·subst z
   exact⟨_,zy2 _ hT (zB2 (zA7 hd _))⟩
  ·exact⟨o,by rw[zu5 _ _ z];exact q⟩
theorem bh {base:Heap}{l:List Env}{e T:Addr}{fl:Value}{fo:Option Addr}{Q:Unit→Shared→Prop}(hl:s.heap.FunFrames base l)(hk:base.StaysIn s.heap)(x:Ent s.heap base e T fl)
  (h:∀h',Moved (frs l) e [T] s.heap h'→Ent h' base e T (fo.elim .none fun f=>rawInt f)→h'.FunFrames base l→base.StaysIn h'→h'.objs.size=s.heap.objs.size→Q () {s with heap:=h'}):wpAny M A (setFlight (.ref e) fo) Q E s:=by
 obtain⟨oe,vs,oT,tv,he,hd,h1,hne,hb,hT,hdT,h3⟩:=x
 have hsz:3<tv.size:=(zB3.mp h3).1
 unfold setFlight
 refine zt2 (zy4 he hd h1 ?_)
 rw[if_pos (show (Value.ref T != Value.none)=true from by simp)]
 refine wpAny_setField hT hdT hsz (h _ (rZ hT hdT fun b hb' z=>?_) ?_ ?_ ?_ (by simp))
 ·obtain⟨_,o,ho,hn⟩:=tK hl hb'
  rw[z,hT] at ho;cases ho
  exact hn _ hdT
 ·exact⟨oe,vs,_,_,by rw[zu5 _ _ hne];exact he,hd,h1,hne,hb,zy2 _ hT (zB2 (zA7 hdT _)),zA7 hdT _,by simp[hsz]⟩
 ·refine hl.of_keeps fun b o hb' hn=>⟨o,?_,rfl⟩
  rw[zu5 _ _ (fun z=>by subst z;rw[hT] at hb';cases hb';exact hn _ hdT)]
  exact hb'
 ·intro b o q
  rw[zu5 _ _ (fun z=>by subst z;rw[hb] at q;cases q)]
  exact hk b o q
theorem dq {base:Heap}{env:Env}{outer:List Env}{L e:Addr}{oe:Obj}{vs:Array Value}{head:Value}{hadNext:Bool}{Q:Unit→Shared→Prop}
  (hfr:A.frames=some (env::outer)) (hl:s.heap.FunFrames base (env::outer)) (hf:env.frame=some L) (he:s.heap.get? e=some oe) (hkb:base.StaysIn s.heap) (hen:base.get? e=none) (hd:oe.data=.fields vs) (hsz:1<vs.size)
  (h:∀h' T,Moved (frs (env::outer)) e [] s.heap h'→s.heap.objs.size≤T→Ent h' base e T (rawInt L)→h'.FunFrames base (env::outer)→base.StaysIn h'→Q () {s with heap:=h'}):
  wpAny M A (do let a ←frameOf env;let pl ←entryPlaceOf L hadNext;let b ←EntryCells.newEntry head a .none (rawInt L) .none pl;setField (.ref e) 1 b) Q E s:=by
 have hene:e∉frs (env::outer):=fun hm=>by
  obtain⟨_,o,ho,hnf⟩:=tK hl hm
  rw[he] at ho;injection ho with ho;subst ho;exact hnf vs hd
 refine zt2 (wpAny_frameOf_fun hfr hl hf fun h₁ hs₁=>?_)
 refine zt2 (wpAny_entryPlaceOf fun pl hpl=>?_)
 unfold EntryCells.newEntry newFields
 refine zt2 (wpAny_newObj_type ?_ (hpl.sizeOk5 _ _ _ _ _))
 have he₁:h₁.get? e=some oe:=(hs₁.2.1 e hene).trans he
 have kb₁:base.StaysIn h₁:=fun b o hbo=>(hs₁.2.1 b fun hm=>by rw[(tK hl hm).1] at hbo;cases hbo).trans (hkb b o hbo)
 generalize hob:({cls:=.type "traceback",dict:=none,data:=.fields ([head,.ref L,.none,rawInt L,.none]++(if pl.isEmpty then List.replicate 6 Value.none else pl)).toArray}:Obj)=ob
 have obd:ob.data=.fields ([head,.ref L,.none,rawInt L,.none]++(if pl.isEmpty then List.replicate 6 Value.none else pl)).toArray:=by rw[←hob]
 have he₂:=zt3 (h:=h₁) ob he₁
 refine wpAny_setField he₂ hd hsz ?_
 have hTe:h₁.objs.size≠e:=zA4 (zu0 he₁)
 have hd₃:=zA7 hd (·.setIfInBounds 1 (Value.ref h₁.objs.size))
 have he₃:=zy2 (Obj.mapFields (·.setIfInBounds 1 (Value.ref h₁.objs.size))) he₂ (zB2 hd₃)
 have hT₃:((h₁.push ob).update e (Obj.mapFields (·.setIfInBounds 1 (Value.ref h₁.objs.size)))).get? h₁.objs.size=some ob:=
  (zu5 (h₁.push ob) (Obj.mapFields (·.setIfInBounds 1 (Value.ref h₁.objs.size))) (zw7 hTe)).trans (zu7 h₁ (zB2 obd))
 have keep:∀b o,b≠e→h₁.get? b=some o→((h₁.push ob).update e (Obj.mapFields (·.setIfInBounds 1 (Value.ref h₁.objs.size)))).get? b=some o:=fun b o hbe hb=>by
  rw[zu5 _ _ (zw7 hbe)]
  exact zt3 _ hb
 refine h _ h₁.objs.size ⟨fun b o hb _ hf q=>keep b o hb ((hs₁.2.1 b hf).trans q),fun b o hb q=>?_,fun o vs' q d=>?_,fun b o q=>?_⟩ (by rw[hs₁.1];exact zt9 _) ⟨_,_,ob,_,he₃,hd₃,by simp[hsz],hTe,kb₁.fresh,hT₃,obd,by simp⟩ ?_ (fun b o q=>keep b o (fun z=>by rw[z,hen] at q;cases q) (kb₁ b o q))
 ·obtain⟨sl,hs⟩:=hs₁.2.2 b o q
  exact⟨sl,keep b _ (fun z=>hene (z▸hb)) hs⟩
 ·rw[he] at q;cases q
  exact⟨_,_,he₃,(vD _ _).1,(vD _ _).2,hd₃⟩
 ·by_cases z:b=e
  ·subst z;exact⟨_,he₃⟩
  ·obtain⟨sl,hs⟩:=hs₁.2.2 b o q
   exact⟨_,keep b _ z hs⟩
 ·refine hl.of_keeps fun b o hb hn=>?_
  obtain⟨sl,hs⟩:=hs₁.2.2 b o hb
  exact⟨_,keep b _ (fun z=>by subst z;rw[he] at hb;cases hb;exact hn _ hd) hs,rfl⟩
theorem zp5 {base:Heap}{env:Env}{outer:List Env}{L e:Addr}{ts:List Addr}{Q:Unit→Shared→Prop}
  (hfr:A.frames=some (env::outer)) (hl:s.heap.FunFrames base (env::outer)) (hf:env.frame=some L) (hkb:base.StaysIn s.heap) (hen:base.get? e=none) (x:Beg s.heap base e ts)
  (h:∀h' T,Moved (frs (env::outer)) e ts s.heap h'→s.heap.objs.size≤T→Ent h' base e T (rawInt L)→h'.FunFrames base (env::outer)→base.StaysIn h'→Q () {s with heap:=h'}):wpAny M A (noteFrame (.ref e) env) Q E s:=by
 rcases x with ⟨rfl,oe,vs,he,hd,h1⟩|⟨T,rfl,oe,vs,oT,tv,he,hd,h1,hne,hb,hT,hdT,h3⟩
 ·unfold noteFrame
  simp only[hf]
  refine zt2 (zy4 he hd h1 ?_)
  rw[if_neg (by decide)]
  exact dq hfr hl hf he hkb hen hd (zB3.mp h1).1 h
 ·unfold noteFrame
  simp only[hf]
  refine zt2 (zy4 he hd h1 ?_)
  rw[if_pos (show (Value.ref T != Value.none)=true from by simp)]
  refine zt2 (zy4 hT hdT h3 ?_)
  rw[if_neg (show ¬((Value.none == rawInt L)=true) from by simp[rawInt])]
  refine zt2 (wpAny_setField hT hdT (zB3.mp h3).1 ?_)
  have hfs:∀b∈frs (env::outer),b≠T:=fun b hb' z=>by
   obtain⟨_,o,ho,hn⟩:=tK hl hb'
   rw[z,hT] at ho;cases ho
   exact hn _ hdT
  have mv:Moved (frs (env::outer)) e [T] s.heap (s.heap.update T (Obj.mapFields (·.setIfInBounds 3 Value.none))):=rZ hT hdT hfs
  refine dq (s:={s with heap:=s.heap.update T (Obj.mapFields (·.setIfInBounds 3 Value.none))}) hfr ?_ hf (show (s.heap.update T (Obj.mapFields (·.setIfInBounds 3 Value.none))).get? e=some oe by rw[zu5 _ _ hne];exact he) ?_ hen hd (zB3.mp h1).1 fun h' T' m1 m2 m3 m4 m5=>?_
  ·refine hl.of_keeps fun b o hb' hn=>⟨o,?_,rfl⟩
   rw[zu5 _ _ (fun z=>by subst z;rw[hT] at hb';cases hb';exact hn _ hdT)]
   exact hb'
  ·intro b o q
   show (s.heap.update T _).get? b=some o
   rw[zu5 _ _ (fun z=>by subst z;rw[hb] at q;cases q)]
   exact hkb b o q
  ·refine h h' T' ⟨fun b o q1 q2 q3 q=>m1.keep b o q1 (by simp) q3 (mv.keep b o q1 q2 q3 q),fun b o q1 q=>?_,fun o vs' q d=>?_,fun b o q=>?_⟩ (by have m2:(s.heap.update T _).objs.size≤T':=m2;simpa using m2) m3 m4 m5
   ·obtain⟨sl,e1⟩:=mv.slot b o q1 q
    obtain⟨sl',e2⟩:=m1.slot b _ q1 e1
    exact⟨sl',e2⟩
   ·obtain⟨o1,vs1,e1,c1,d1,f1⟩:=mv.exc o vs' q d
    obtain⟨o2,vs2,e2,c2,d2,f2⟩:=m1.exc o1 vs1 e1 f1
    exact⟨o2,vs2,e2,c2.trans c1,d2.trans d1,f2⟩
   ·obtain⟨o1,e1⟩:=mv.there b o q
    exact m1.there b o1 e1
theorem gA {base:Heap}{env:Env}{L e T:Addr}{Q:Unit→Shared→Prop}(hf:env.frame=some L)(x:Ent s.heap base e T (rawInt L))(h:Q () s):wpAny M A (noteFrame (.ref e) env) Q E s:=by
 obtain⟨oe,vs,oT,tv,he,hd,h1,hne,hb,hT,hdT,h3⟩:=x
 exact wpAny_noteFrame_inFlight hf he hd h1 hT hdT h3 h
end
section
variable {P:Program}{w:World}{H H0:Hp}{h h' h0:Heap}{fs fs' ts:List Addr}{e:Addr}
theorem HOk.moved (x:HOk P w H h)(m:Moved fs e ts h h')(hfs:∀b∈fs,H b=none)(hts:∀b∈ts,H b=none)(he:∃C d,H e=some (xcO e C d)):HOk P w H h':=fun a o q=>by
 obtain⟨C,d,he⟩:=he
 by_cases z:a=e
 ·subst z
  rw[he] at q;cases q
  obtain⟨⟨o,vs,h1,h2,h3,h4⟩,_,st⟩:=x _ _ he
  obtain⟨o',vs',g1,g2,g3,g4⟩:=m.exc o vs h1 h4
  exact⟨⟨o',vs',g1,g2.trans h2,g3.trans h3,g4⟩,⟨o',g1⟩,st⟩
 ·have nf:∀{b:Addr} {u:HO},H b=some u→b∉fs:=fun {b u} hb q=>by rw[hfs b q] at hb;cases hb
  have nt:∀{b:Addr} {u:HO},H b=some u→b∉ts:=fun {b u} hb q=>by rw[hts b q] at hb;cases hb
  refine (x a o q).stay (fun b u hb e1=>?_) (fun _ q=>q) fun _ _ q=>q
  rcases hb with rfl|hb
  ·exact m.keep _ _ z (nt q) (nf q) e1
  ·refine m.keep _ _ (fun z=>?_) (nt hb) (nf hb) e1
   rw[z,he] at hb;cases hb
end
def CX1 (P:Program)(w:World)(base:Heap):CXT:=fun outer H s E e s'=>∃a T H',e=.ref a∧s'.os=s.os∧AllBare s'.gens∧Un (frs outer) [] H H' s.heap s'.heap∧HOk P w H' s'.heap∧(∃C d,H' a=some (xcO a C d))∧H' T=none∧s.heap.get? T=none∧Ent s'.heap base a T .none∧E (.ref a) none H'
inductive Fl (X:Cx)(H:Hp)(h:Heap)(a:Addr):Prop where
 |new {oe:Obj} {vs:Array Value}:h.get? a=some oe→oe.data=.fields vs→vs[1]?=some .none→Fl X H h a
 |old {T:Addr}:H T=none→X.s₀.heap.get? T=none→(∀p∈X.pn,p.1≠T)→Ent h X.base a T .none→Fl X H h a
 |here {T:Addr}:H T=none→X.s₀.heap.get? T=none→(∀p∈X.pn,p.1≠T)→Ent h X.base a T (rawInt X.env.locals)→Fl X H h a
def XE (X:Cx)(R:St→Addr→Hp→Prop):Value→Shared→Prop:=fun e s=>∃σ H a,e=.ref a∧Inv X [] σ H s∧(∃C d,H a=some (xcO a C d))∧Fl X H s.heap a∧R σ a H
section
variable {X:Cx}{pins:List (Addr×Obj)}{σ:St}{H H':Hp}{s s':Shared}{a:Addr}
theorem Inv.nopins (I:Inv X pins σ H s):Inv X [] σ H s:=I.pins_of fun p hp=>by cases hp
theorem Inv.basex (I:Inv X pins σ H s)(h:H a≠none):X.base.get? a=none:=by
 cases q:X.base.get? a with
 |none=>rfl
 |some o=>exact absurd (I.bs a o q).2 h
theorem Inv.moved {ts:List Addr}{h':Heap}(I:Inv X pins σ H s)(hst:X.stack=X.env::X.outer)(m:Moved (frs X.stack) a ts s.heap h')(ha:∃C d,H a=some (xcO a C d))(hts:∀T∈ts,H T=none∧X.s₀.heap.get? T=none∧(∀p∈X.pn++pins,p.1≠T)∧∃o vs,s.heap.get? T=some o∧o.data=.fields vs):Inv X pins σ H {s with heap:=h'}:=by
 have ha':H a≠none:=by obtain⟨C,d,z⟩:=ha;rw[z];simp
 have hf:X.env.frame=some X.env.locals:=by
  rcases I.ok.stk with z|⟨_,z⟩
  ·rw[hst] at z;exact absurd (congrArg List.length z) (by simp)
  ·exact z
 have mem:∀b∈frs X.stack,b=X.env.locals∨b∈X.fs:=fun b hb=>by
  rw[hst] at hb
  unfold frs at hb
  rw[List.filterMap_cons_some hf] at hb
  rcases zu1.mp hb with z|z
  ·exact .inl z
  ·exact .inr z
 have dat:∀{b:Addr} {o:Obj},s.heap.get? b=some o→(∀vs,o.data≠.fields vs)→b∉ts:=fun {b o} q n z=>by
  obtain⟨_,_,_,o',vs,q',d⟩:=hts b z
  rw[q] at q';cases q'
  exact n vs d
 obtain⟨mm,hn,hl⟩:=id I.loc
 obtain⟨oL,es,ep,hoL,hdL,hrL⟩:=id hn
 have hLL:∃sl,h'.get? X.env.locals=some {oL with slots:=sl}:=m.slot _ _ (by rw[hst];unfold frs;rw[List.filterMap_cons_some hf];exact zv5) hoL
 have hn':h'.Ns X.env.locals mm:=by obtain⟨sl,z⟩:=hLL;exact⟨_,es,ep,z,hdL,hrL⟩
 have cells:∀{x:Str} {c:Addr} {v:Option Value},X.env.cells.lookup x=some c→s.heap.IsCell c v→h'.IsCell c v:=fun {x c v} e ⟨oc,hoc,hd⟩=>by
  by_cases z:c∈frs X.stack
  ·obtain⟨sl,z'⟩:=m.slot c oc z hoc
   exact⟨_,z',hd⟩
  ·exact⟨oc,m.keep c oc (fun z=>ha' (z▸I.freeC x c e)) (dat hoc fun vs q=>by rw[hd] at q;cases q) z hoc,hd⟩
 have un:Un X.fs X.ex X.H₀ H X.s₀.heap h':=by
  have u:=I.base
  have ne:∀{b:Addr} {o:Obj},X.s₀.heap.get? b=some o→X.H₀ b=none→b∉X.ex→b≠a:=fun {b o} q n hx z=>ha' (z▸u.free b o q n hx)
  have nt:∀{b:Addr} {o:Obj},X.s₀.heap.get? b=some o→b∉ts:=fun {b o} q z=>by rw[(hts b z).2.1] at q;cases q
  have nl:∀{b:Addr} {o:Obj},X.s₀.heap.get? b=some o→b≠X.env.locals:=fun {b o} q=>zv4 (zv1 (zu0 q) I.ok.above)
  refine⟨fun b o q n hb hx=>m.keep b o (ne q n hx) (nt q) (fun z=>(mem b z).elim (nl q) hb) (u.keep b o q n hb hx),fun b o q n hb hx=>?_,u.free,fun b o q hx=>?_,u.tups,u.frzs,u.tbls⟩
  ·obtain⟨sl,e1⟩:=u.slot b o q n hb hx
   by_cases z:b∈frs X.stack
   ·obtain⟨sl',e2⟩:=m.slot b _ z e1
    exact⟨sl',e2⟩
   ·exact⟨sl,m.keep b _ (ne q n hx) (nt q) z e1⟩
  ·obtain⟨o',e1⟩:=u.there b o q hx
   exact m.there b o' e1
 refine⟨I.ok,I.os,I.bare,un,⟨mm,hn',fun i x v e1 e2 e3=>?_⟩,fun x c e=>?_,I.free,I.freeC,fun p hp=>?_,I.hok.moved m I.stkFree (fun b hb=>(hts b hb).1) ha,I.len⟩
 ·obtain⟨u,r,q⟩:=hl i x v e1 e2 e3
  refine⟨u,r,?_⟩
  rcases q with q|⟨k,c,e,z⟩
  ·exact .inl q
  ·exact .inr ⟨k,c,e,cells e z⟩
 ·obtain⟨v,z⟩:=I.cell x c e
  exact⟨v,cells e z⟩
 ·obtain⟨e,n,ne,nf,d⟩:=I.pin p hp
  exact⟨m.keep _ _ (fun z=>ha' (z▸n)) (fun z=>(hts _ z).2.2.1 p hp rfl) (fun z=>(mem _ z).elim ne nf) e,n,ne,nf,d⟩
theorem Fl.beg (f:Fl X H s.heap a):(∃ts,Beg s.heap X.base a ts∧∀T∈ts,H T=none∧X.s₀.heap.get? T=none∧(∀p∈X.pn,p.1≠T)∧∃o vs,s.heap.get? T=some o∧o.data=.fields vs)∨∃T,H T=none∧X.s₀.heap.get? T=none∧(∀p∈X.pn,p.1≠T)∧Ent s.heap X.base a T (rawInt X.env.locals):=by
 cases f with
 |new h1 h2 h3=>exact .inl ⟨[],.inl ⟨rfl,_,_,h1,h2,h3⟩,fun T hT=>by cases hT⟩
 |@old T h1 h2 h3 h4=>
  refine .inl ⟨[T],.inr ⟨T,rfl,h4⟩,fun T' hT=>?_⟩
  rw[zw2] at hT
  subst hT
  obtain⟨_,_,oT,tv,_,_,_,_,_,hT,hdT,_⟩:=h4
  exact⟨h1,h2,h3,oT,tv,hT,hdT⟩
 |@here T h1 h2 h3 h4=>exact .inr ⟨T,h1,h2,h3,h4⟩
theorem Inv.stkf (I:Inv X pins σ H s)(hst:X.stack=X.env::X.outer):X.env.frame=some X.env.locals:=by
 rcases I.ok.stk with z|⟨_,z⟩
 ·rw[hst] at z;exact absurd (congrArg List.length z) (by simp)
 ·exact z
theorem Inv.stays (I:Inv X pins σ H s):X.base.StaysIn s.heap:=I.bk
theorem Inv.note {M:Model}{Q:Unit→Shared→Prop}{E:Value→Shared→Prop}(I:Inv X [] σ H s)(hst:X.stack=X.env::X.outer)(ha:∃C d,H a=some (xcO a C d))(f:Fl X H s.heap a)
  (h:∀h' T,Inv X [] σ H {s with heap:=h'}→H T=none→X.s₀.heap.get? T=none→(∀p∈X.pn,p.1≠T)→Ent h' X.base a T (rawInt X.env.locals)→Q () {s with heap:=h'}):wpAny M X.A (noteFrame (.ref a) X.env) Q E s:=by
 have ha':H a≠none:=by obtain⟨C,d,z⟩:=ha;rw[z];simp
 have hf:=I.stkf hst
 rcases f.beg with ⟨ts,bg,ht⟩|⟨T,h1,h2,h3,h4⟩
 ·refine zp5 (by rw[←hst];exact I.ok.frames) (by rw[←hst];exact I.stack) hf I.stays (I.basex ha') bg fun h' T m1 m2 m3 _ _=>?_
  have I':Inv X [] σ H {s with heap:=h'}:=I.moved hst (by rw[hst];exact m1) ha fun T hT=>by
   obtain⟨q1,q2,q3,q4⟩:=ht T hT
   exact⟨q1,q2,fun p hp=>q3 p (by simpa using hp),q4⟩
  refine h h' T I' (I.hok.fresh m2) (Heap.get?_none_of_le (zx7 I.sz m2)) (fun p hp z=>?_) m3
  have:=zu0 (I.pin p (by simpa using hp)).1
  rw[z] at this
  exact absurd this (Nat.not_lt.mpr m2)
 ·exact gA hf h4 (by have:=h s.heap T I h1 h2 h3 h4;exact this)
theorem Inv.flight {M:Model}{Q:Unit→Shared→Prop}{E:Value→Shared→Prop}{A:Around}{T:Addr}{fl:Value}{fo:Option Addr}(I:Inv X pins σ H s)(hst:X.stack=X.env::X.outer)(ha:∃C d,H a=some (xcO a C d))(h1:H T=none)(h2:X.s₀.heap.get? T=none)(h3:∀p∈X.pn++pins,p.1≠T)(x:Ent s.heap X.base a T fl)
  (h:∀h',Inv X pins σ H {s with heap:=h'}→Ent h' X.base a T (fo.elim .none fun f=>rawInt f)→Q () {s with heap:=h'}):wpAny M A (setFlight (.ref a) fo) Q E s:=by
 refine bh (l:=X.stack) I.stack I.stays x fun h' m1 m2 _ _ _=>h h' (I.moved hst m1 ha fun T' hT=>?_) m2
 rw[zw2] at hT
 subst hT
 obtain⟨_,_,oT,tv,_,_,_,_,_,hT,hdT,_⟩:=x
 exact⟨h1,h2,h3,oT,tv,hT,hdT⟩
theorem cR {R:St→Addr→Hp→Prop}{E:XK}{e:Value}(hex:X.ex=[])(I:Inv X pins σ H s)(h:CX1 X.prog X.w X.base X.stack H s E e s')(hE:∀a H',E (.ref a) none H'→R σ a H'):XE X R e s':=by
 obtain⟨a,T,H',rfl,ho,hg,u,hok,ha,h1,h2,h3,hE'⟩:=h
 have I':Inv X pins σ H' s':=I.call' (ch:=[]) ho u hok hg fun b hb=>by cases hb
 refine⟨σ,H',a,rfl,I'.nopins,ha,.old h1 ?_ (fun p hp z=>?_) h3,hE a H' hE'⟩
 ·cases q:X.s₀.heap.get? T with
  |none=>rfl
  |some o=>
   exfalso
   obtain⟨o',e1⟩:=I.base.there T o q (by rw[hex];simp)
   rw[h2] at e1;cases e1
 ·have:=(I.pin p (zG7 _ hp)).1
  rw[z,h2] at this;cases this
end
section
variable {X:Cx}{E':Value→Shared→Prop}
theorem PSs.wishx {st:List Stmt}{t:TS}(h:PSs (X.wish E') st t)(k:∀e s,E' e s→X.xe e s):PSs X st t:=fun pins s σ H D I hw=>
 zw4 (h pins s σ H D (I.wish _) hw) (fun _ _ q=>q.unwish) fun e s z=>k e s z
end
section
variable {P:Program}{w:World}{K:PySem.W.Frag}{mg:Str→Option Value}{base:Heap}
theorem bf {N:List Str}{qual:Str}{scope:Scope}{f:Addr}{cd:Value}{A:Around}{outer:List Env}{s₀ s:Shared}{H₀:Hp}{E:XK}{e:Value}
  (h:XE (xy (CX1 P w base) P w K mg base N qual scope f cd A outer s₀ H₀ E) (fun _ a H=>E (.ref a) none H) e s):(xy (CX1 P w base) P w K mg base N qual scope f cd A outer s₀ H₀ E).xe e s:=by
 obtain⟨σ,H,a,rfl,I,ha,f',r⟩:=h
 show wpAny _ _ (leaving _ _) _ _ _
 unfold leaving
 refine zt2 (I.note rfl ha f' fun h' T I' h1 h2 h3 h4=>?_)
 refine I'.flight (fo:=none) rfl ha h1 h2 (by simpa using h3) h4 fun h'' I'' e''=>?_
 exact⟨a,T,H,rfl,I''.os,I''.bare,I''.base,I''.hok,ha,h1,h2,e'',r⟩
theorem Fun.okX {x qual:Str}{st:Stmt}{f:Addr}{fd:FuncData}{N ps:List Str}{k:Nat}{sp:Sp}(F:Fun K x qual st f fd)(S:zl N ps (zb st))(len:∀vs H Q E,sp vs H Q E→vs.length=ps.length)
  (hbody:∀(cdv:Value) (A:Around) (outer:List Env) (s:Shared) (H:Hp) (vs:List V) (Q:VK) (E:XK),zK k (A.deeper (envOfC qual (zb st) s.heap.objs.size f cdv))→sp vs H Q E→
   ∃t,PSs ((xy (CX1 P w base) P w K mg base N qual (zb st) f cdv A outer s H E).wish (XE (xy (CX1 P w base) P w K mg base N qual (zb st) f cdv A outer s H E) fun _ a H=>E (.ref a) none H)) (zw st) t∧t {nx:=fun _ H'=>Q .non H',rt:=Q} (start N vs) H):zA P w K mg base (CX1 P w base) (k+1) f fd ps sp:=by
 obtain⟨oc,od,kV,doc,pm,an,cdv,ct,osl,rfl,lk,hcd⟩:=F.ex
 refine kE lk hcd S len fun A outer s H vs Q E hr hsp=>?_
 obtain⟨t,h,q⟩:=hbody cdv A outer s H vs Q E hr hsp
 exact⟨t,h.wishx fun e s z=>bf z,q⟩
end
section
variable {prog:Program}{w:World}{A:Around}{E:Value→Shared→Prop}{h:Heap}{g:Array GenState}{d:Drawn}{t:Nat}{os:OsState}
variable {nm q:Str}{C N:Addr}{bs bm bmB:List Value}{hdct:Bool}{sn:List Str}{sub:List Value}{ab:Bool}{col:Option Bool}{dd:Option Addr}{k0 k1 k2 k3 k5:Option Value}{B Bn newId nid initId inN:String}{bmN:List Value}
abbrev ue (C t:Addr)(d:Option Addr):Obj:={cls:=.ref C,dict:=d,data:=.fields #[.ref t,.none,.none,.none,.bool false,.none]}
def vn (h:Heap)(C:Addr)(rest:List Value):Heap:=(h.push {cls:=.type "tuple",data:=.seq rest.toArray}).push (ue C h.objs.size none)
theorem mD (Fn:ExcBaseFacts Bn newId inN bmN)(hBn:bmB.contains (.type Bn)=true)(F:ExcBaseFacts B nid initId bmB)(T:OwnTail h bmB bm){mN:Str→Option Value}{rest:List Value}{fI:Addr}{oI:Obj}{Q:Fin→Shared→Prop}
  (hC:h.get? C=some (excClassObj nm q C N bs bm hdct sn sub ab col dd k0 k1 k2 k3 k5 newId)) (hn:h.Ns N mN) (hi:mN "__init__"=some (.ref fI))
  (hfI:h.get? fI=some oI) (hfc:oI.cls=.type "function")
  (hq:wpAny (model prog w) A (call (.ref fI) (.ref (h.objs.size+1)::rest)) (fun r s'=>r=.none∧Q (.done (.ret (.ref (h.objs.size+1)))) s') E ⟨vn h C rest,g,d,t,os⟩) (hrest:rest.length≤sizeLine):
  wpAny (model prog w) A (Builtin.«type.__call__» ⟨.ref C::rest,[]⟩) Q E ⟨h,g,d,t,os⟩:=by
 repeat (first|with_reducible refine zB5 hC ?_|with_reducible refine wpAny_madeBy_exc hC ?_|wp_step)
 refine codeAny_call_builtin_code (Code.quiet_builtin _ Fn.quiet) (wpAny_check_new_subU Fn hBn T hC ?_)
 refine codeAny_exc_new_subU Fn hBn F T hC ?_ hrest
 show wpAny _ _ _ _ _ ⟨vn h C rest,g,d,t,os⟩
 have keep:∀b o,h.get? b=some o→(vn h C rest).get? b=some o:=fun b o e=>zt3 _ (zt3 _ e)
 have hC₁:=keep _ _ hC
 have hfI₁:=keep _ _ hfI
 have hn₁:(vn h C rest).Ns N mN:=let ⟨o,es,ep,e,r⟩:=hn;⟨o,es,ep,keep _ _ e,r⟩
 have hget:(vn h C rest).get? (h.objs.size+1)=some (ue C h.objs.size none):=by unfold vn;heap_get
 have hcC:(Value.ref C::bm).contains (.ref C)=true:=by simp
 have T₁:=T.keeps keep
 unfold isInstance
 repeat (first|with_reducible refine zB5 hget ?_|(with_reducible refine wpAny_isSubtype_exc hC₁ ?_;rw[hcC])|wp_step)
 show wpAny _ _ (typeLookup (.ref C) _) _ _ _
 refine wpAny_typeLookup_tail hC₁ hn₁ T₁ F.mroIs F.init.lookup ?_
 rw[hi]
 refine zx6 (zt2 ?_)
 unfold bindSpecial
 refine zt2 (wpAny_typeOf (T:="function") ⟨_,hfI₁,hfc⟩ ?_)
 rw[if_pos (by decide)]
 refine zt6 (zt2 (zw4 hq (fun r s' hr=>?_) fun _ _ x=>x))
 obtain⟨rfl,hQ⟩:=hr
 wp_walk
 exact hQ
theorem zo8 (Fn:ExcBaseFacts Bn newId inN bmN)(hBn:bmB.contains (.type Bn)=true)(F:ExcBaseFacts B nid initId bmB)(T:OwnTail h bmB bm){mN:Str→Option Value}{rest:List Value}{fI:Addr}{oI:Obj}{Q:Value→Shared→Prop}
  (hC:h.get? C=some (excClassObj nm q C N bs bm hdct sn sub ab col dd k0 k1 k2 k3 k5 newId)) (hn:h.Ns N mN) (hi:mN "__init__"=some (.ref fI))
  (hfI:h.get? fI=some oI) (hfc:oI.cls=.type "function")
  (hq:wpAny (model prog w) (A.under (.builtin "type.__call__" ⟨.ref C::rest,[]⟩)) (call (.ref fI) (.ref (h.objs.size+1)::rest)) (fun r s'=>r=.none∧Q (.ref (h.objs.size+1)) s') E ⟨vn h C rest,g,d,t,os⟩) (hrest:rest.length≤sizeLine):
  wpAny (model prog w) A (call (.ref C) rest) Q E ⟨h,g,d,t,os⟩:=by
 have f1:=tc_lookup
 have f2:=tc_bind (.ref C)
 have hT:(⟨h,g,d,t,os⟩:Shared).TypeIs (.ref C) "type":=⟨_,hC,rfl⟩
 refine zC4 (codeAny_of_tree ?_)
 show wpAny _ _ (callAny (.ref C) _) _ _ _
 repeat (any_goals (first|assumption|with_reducible refine zB5 hC ?_|wp_step))
 refine⟨rfl,?_⟩
 exact codeAny_call_builtin_at (Code.quiet_builtin _ (by decide +kernel)) entry_typeCall (wpAny_check_type_call_sub hC (mD Fn hBn F T hC hn hi hfI hfc hq hrest))
theorem zi6 {M:Model}{s:Shared}{env:Env}{x:Sem Value}{Q:Flow→Shared→Prop}(hbase:bm.contains (.type "BaseException")=true)(hh:A.handled=none)
  (h:wpAny M A x (fun v s₁=>∃e t d,v=.ref e∧s₁.heap.get? C=some (excClassObj nm q C N bs bm hdct sn sub ab col dd k0 k1 k2 k3 k5 newId)∧s₁.heap.get? e=some (ue C t d)∧E (.ref e) s₁) E s):
  wpAny M A (raiseStmt env (some x) none) Q E s:=by
 have hcB:(Value.ref C::bm).contains (.type "BaseException")=true:=by rw[List.contains_cons,hbase,Bool.or_true]
 unfold raiseStmt
 refine zt2 (zw4 h (fun v s₁ h₁=>?_) fun _ _ x=>x)
 obtain⟨e,t,d,rfl,hC,he,hE⟩:=h₁
 obtain⟨hp,g,d,tk,os⟩:=s₁
 repeat (first|with_reducible refine zB5 he ?_|with_reducible refine zB5 hC ?_|(with_reducible refine wpAny_isSubtype_exc hC ?_;rw[hcB])|wp_step)
 exact wpAny_raiseNew_none hh hE
end
open Builtin Builtin.ObjectAttr
def bmV :List Value:=[.type "ValueError",.type "Exception",.type "BaseException",.type "object"]
def wb (K:Frag)(C S:Addr)(init:Option Value):Bool:=match K.lookup C with
 |some ⟨.type "type",_,.cls cd,sl⟩=>(match sl.toList with
  |[_,_,_,_,some (.builtin n),_]=>cd.mro == .ref C::.ref S::bmV&&n == "ValueError.__new__"&&!cd.hasDel&&cd.hasDict&&tailIn K bmV (.ref S::bmV)&&nsOkIn K cd.ns&&nsIn K cd.ns "__init__" == some init
  |_=>false)
 |_=>false
theorem fH {K:Frag}{h:Heap}{N:Addr}{mg:Str→Option Value}{n:Str}{v:Option Value}(X:K.In h)(G:h.Ns N mg)(e:nsIn K N n=some v):mg n=v:=by
 cases v with
 |none=>exact ns_none_of X G e
 |some v=>
  obtain⟨o,es,ep,ho,hd,_,hf⟩:=G
  unfold nsIn at e
  split at e
  ·rename_i c d es' n' sl q
   have:=X _ _ q
   rw[ho] at this
   cases this
   cases hd
   split at e
   ·rename_i en he
    cases e
    rw[←hf]
    unfold nsFind findBy
    rw[←Array.find?_toList,he]
    rfl
   ·split at e<;>cases e
  ·cases e
theorem yP {K:Frag}{h:Heap}{C S:Addr}{init:Option Value}(X:K.In h)(q:wb K C S init=true):
  ∃nm qn N bs sn sub ab col dd k0 k1 k2 k3 k5 mN,h.get? C=some (excClassObj nm qn C N bs (.ref S::bmV) true sn sub ab col dd k0 k1 k2 k3 k5 "ValueError.__new__")∧h.Ns N mN∧mN "__init__"=init∧OwnTail h bmV (.ref S::bmV)∧∃cd,clsIn K C=some cd∧cd.hasDict=true∧cd.mro=.ref C::.ref S::bmV∧K.lookup C=some (excClassObj nm qn C N bs (.ref S::bmV) true sn sub ab col dd k0 k1 k2 k3 k5 "ValueError.__new__"):=by
 unfold wb at q
 split at q
 ·rename_i dd cd sl ho
  split at q
  ·rename_i k0 k1 k2 k3 n k5 hs
   simp only[zv6,zA3,Bool.not_eq_true'] at q
   obtain⟨⟨⟨⟨⟨⟨hm,hn⟩,hdel⟩,hdd⟩,ht⟩,hok⟩,hni⟩:=q
   obtain⟨nm,bs,mro,ns,qn,hd,sn,sub,ab,col,del⟩:=cd
   dsimp only at hm hdel hok hni hdd
   subst hm hdel hn hdd
   have hsl:sl=#[k0,k1,k2,k3,some (.builtin "ValueError.__new__"),k5]:=by
    obtain⟨l⟩:=sl
    simp only at hs
    rw[hs]
   subst hsl
   have N:=Heap.Ns.of_isNs (isNs_of_in X hok)
   exact⟨nm,qn,ns,bs,sn,sub,ab,col,dd,k0,k1,k2,k3,k5,_,X _ _ ho,N,fH X N hni,tail_of_in X ht,_,by unfold clsIn;rw[ho],rfl,rfl,ho⟩
  ·cases q
 ·cases q
section
variable {prog:Program}{w:World}{A:Around}{E:Value→Shared→Prop}{h:Heap}{g:Array GenState}{d:Drawn}{t:Nat}{os:OsState}{K:Frag}{C S e t0:Addr}{dx:Option Addr}{init:Option Value}
theorem my {rest:List Value}{Q:Value→Shared→Prop}(X:K.In h)(q:wb K C S init=true)(he:h.get? e=some (ue C t0 dx))(hr:rest.length≤1000)
  (hq:∀h' t',(∀b o,b≠e→h.get? b=some o→h'.get? b=some o)→h'.get? e=some (ue C t' dx)→Q .none ⟨h',g,d,t,os⟩):wpAny (model prog w) A (call (.builtin "ValueError.__init__") (.ref e::rest)) Q E ⟨h,g,d,t,os⟩:=by
 obtain⟨nm,qn,N,bs,sn,sub,ab,col,dd,k0,k1,k2,k3,k5,mN,hC,hN,hi,T,_⟩:=yP X q
 have F:=zB4
 have hz:rest.length≤sizeLine:=by rw[zx4];omega
 refine zC4 (codeAny_call_builtin F.init.plain F.initEntry (wpAny_check_init_subU F T hC he rfl ?_))
 unfold Builtin.«BaseException.__init__»
 wp_walk
 refine hq _ h.objs.size (fun b o hb z=>?_) ?_
 ·rw[zu5 _ _ (zw7 hb)]
  exact zt3 _ z
 ·rw[zy2 _ (zt3 _ he) rfl]
  rfl
theorem jm {ox:Obj}(he:h.get? e=some ox)(hc:ox.cls=.ref C)(hd:∃vs,ox.data=.fields vs){od:Option Obj}(hdx:match ox.dict,od with
  |some dx,some o=>h.get? dx=some o
  |none,none=>True
  |_,_=>False):InstAt h e ox C od:=⟨he,hc,by obtain⟨vs,hd⟩:=hd;unfold notCls;rw[hd],hdx⟩
theorem zr8 {name:Str}{v:Value}{Q:Unit→Shared→Prop}(X:K.In h)(q:wb K C S init=true)(hs:findIn K (.ref C) "__setattr__"=some (some (.builtin "object.__setattr__")))(hn:findIn K (.ref C) name=some none)(he:h.get? e=some (ue C t0 none))
  (hq:∀h' dx tk',h.objs.size≤dx→(∀b o,b≠e→h.get? b=some o→h'.get? b=some o)→h'.get? e=some (ue C t0 (some dx))→h'.Ns1 dx (fun y=>if y=name then some v else none)→Q () ⟨h',g,d,tk',os⟩):wpAny (model prog w) A (setAttr (.ref e) name v) Q E ⟨h,g,d,t,os⟩:=by
 obtain⟨nm,qn,N,bs,sn,sub,ab,col,dd,k0,k1,k2,k3,k5,mN,hC,hN,hi,T,cd,hcd,hdict,hmro,_⟩:=yP X q
 have I:InstAt h e (ue C t0 none) C none:=jm he rfl ⟨_,rfl⟩ trivial
 refine set_plain (s:=⟨h,g,d,t,os⟩) X I hs ?_
 have SF:=PySem.F.store_object
 have sub:Looks (model prog w) h (isInstance (.ref e) (.type "object")) true:=I.type.andThen (looks_mroIn X (by unfold mroIn;rw[hcd,zC0,hmro]<;>rfl))
 refine codeAny_call_builtin SF.slot.plain SF.entry (@check_slot (model prog w) _ _ ⟨h,g,d,t+1,os⟩ "object.__setattr__" "object" "__setattr__" (.ref e) [.str name t,v] [] _ SF.kind SF.split sub (SF.args (.ref e) (.str name t) v) ?_)
 have hm:Looks (model prog w) h (mroOf (.ref C)) (.ref C::.ref S::bmV):=hmro▸(looks_clsIn X hcd).andThen .now
 rw[osa_eq,refuse_eq]
 refine zt2 (zt2 (I.type.at (zt2 (hm.at ?_))))
 rw[refuseLoop_ref,refuseLoop_ref,show refuseLoop (.ref e) "__setattr__" bmV=pure () from PySem.F.store_ValueError.passes _]
 refine zt6 (zt2 (I.type.at (zt2 ((looks_findIn X hn).at (zt2 (zt6 ?_))))))
 show wpAny _ _ (storeInOwnDict (.ref e) (.ref C) (.str name t) name v false) _ _ _
 refine zt2 (zt6 (zt2 (zt2 (zB5 he (zt2 ((looks_clsIn X hcd).at ?_))))))
 rw[hdict]
 have hx₁:(h.push {cls:=.type "dict",data:=.dict #[]}).get? e=some (ue C t0 none):=zt3 _ he
 have hxs:e≠h.objs.size:=zv4 (zu0 he)
 refine zt2 (wpAny_alloc' ?_)
 refine zt2 (wpAny_update' hx₁ ?_)
 refine zt6 ?_
 generalize hh1:((h.push {cls:=.type "dict",data:=.dict #[]}).update e fun o=>{cls:=o.cls,dict:=some h.objs.size,data:=o.data,slots:=o.slots})=h1
 have hgd:h1.get? h.objs.size=some {cls:=.type "dict",data:=.dict #[]}:=by
  rw[←hh1]
  exact (Heap.get?_update_ne _ _ _ _ hxs.symm).trans (Heap.get?_push_at rfl rfl)
 have hnd:h1.Ns h.objs.size (fun _=>none):=⟨_,#[],_,hgd,rfl,fun e he=>absurd he (by simp),fun _=>rfl⟩
 show wpAny _ _ (storeInDict h.objs.size (.str name t) name v) _ _ _
 unfold storeInDict newKeyGuard
 refine zt2 (zt6 (zt2 (wpAny_nsSet1 (Heap.Ns1.of_empty hnd) fun h' hn' hs=>?_)))
 obtain⟨oD,esD,epD,hoD,hdD,hcD⟩:=hn'.count (Within.cons name v Within.nil)
 refine zt2 (wpAny_lookBehind hoD (by rw[hdD];exact pastItsLine_dict (zx7 hcD (by rw[zv0,List.length_nil,zx4];omega))) ?_)
 refine zt6 (hq h' h.objs.size _ (zt9 _) (fun b o hb z=>?_) ?_ hn')
 ·refine (hs.2 b (zv4 (zu0 z))).trans ?_
  rw[←hh1]
  exact (Heap.get?_update_ne _ _ _ _ hb).trans (zt3 _ z)
 ·refine (hs.2 e hxs).trans ?_
  rw[←hh1]
  exact zy2 _ hx₁ rfl
end
structure XC (K:Frag)(C S:Addr)(init:Option Value):Prop where
 ok:wb K C S init=true
 sa:findIn K (.ref C) "__setattr__"=some (some (.builtin "object.__setattr__"))
 ga:findIn K (.ref C) "__getattribute__"=some (some (.builtin "BaseException.__getattribute__"))
 gt:findIn K (.ref C) "__getattr__"=some none
 cl:findIn K (.ref C) "__class__"=some (some (.builtin "object.__class__"))
 cg:specialIn K (.builtin "object.__class__") "__get__"=some (some (.builtin "getset_descriptor.__get__"))
 ct:takesIn K (.builtin "object.__class__")=some true
section
variable {prog:Program}{w:World}{A:Around}{E:Value→Shared→Prop}{h:Heap}{g:Array GenState}{d:Drawn}{t:Nat}{os:OsState}{K:Frag}{C S e t0:Addr}{init:Option Value}
theorem oS {name:Str}{tk:Tok}{fill expr:Bool}{ox:Obj}{od:Option Obj}{Q:Value→Shared→Prop}(X:K.In h)(c:XC K C S init)(I:InstAt h e ox C od)
  (hq:wpAny (model prog w) A.in1 (Builtin.«object.__getattribute__» ⟨[.ref e,.str name tk],[]⟩) (fun fin s'=>match fin with|.done (.ret v)=>wpAny (model prog w) A (handedOut v) Q E s'|_=>False) (fun _ _=>False) ⟨h,g,d,t,os⟩):
  wpAny (model prog w) A (getAttrBy (.ref e) (.str name tk) fill expr) Q E ⟨h,g,d,t,os⟩:=by
 obtain⟨nm,qn,N,bs,sn,sub,ab,col,dd,k0,k1,k2,k3,k5,mN,hC,hN,hi,T,cd,hcd,hdict,hmro,_⟩:=yP X c.ok
 have FA:=PySem.F.attr_ValueError
 unfold getAttrBy
 refine zx6 (zt2 (I.type.at (zt2 ((looks_findIn X c.ga).at ?_))))
 have hx2:(Value.builtin "BaseException.__getattribute__" == Value.builtin "object.__getattribute__")=false:=by decide +kernel
 dsimp only
 rw[hx2,Bool.and_false,if_neg (by decide)]
 have hb:Looks (model prog w) h (hookBefore (.ref C)) none:=looks_hook X (by rw[if_pos (show onTheHeap (.ref C)=true from rfl)];exact c.gt)
 refine zt2 (hb.at (zt2 (zE0 (zx6 ?_))))
 unfold callGetattribute
 rw[show (expr&&onTheHeap (Value.builtin "BaseException.__getattribute__"))=false from Bool.and_false _,if_neg (by decide)]
 unfold boundAndCalled
 rw[FA.ga.bind]
 refine zt2 (zt6 ?_)
 have sub:Looks (model prog w) h (isInstance (.ref e) (.type "BaseException")) true:=I.type.andThen (looks_mroIn X (by unfold mroIn;rw[hcd,zC0,hmro]<;>rfl))
 show wpAny _ _ (call (.builtin "BaseException.__getattribute__") [.ref e,.str name tk]) _ _ _
 refine zC4 (codeAny_call_builtin FA.ga.plain PySem.F.entry_bexc_ga (@check_slot (model prog w) _ _ ⟨h,g,d,t,os⟩ "BaseException.__getattribute__" "BaseException" "__getattribute__" (.ref e) [.str name tk] [] _ (by decide +kernel) (by decide +kernel) sub (PySem.F.args_bexc_ga (.ref e) (.str name tk)) ?_))
 refine zw4 hq (fun fin s' z=>?_) fun _ _ z=>z.elim
 rcases fin with (_|_|_|_)|_<;>first|exact z|exact z.elim
theorem zn0 {name:Str}{v:Value}{expr:Bool}{ox od:Obj}{Q:Value→Shared→Prop}(X:K.In h)(c:XC K C S init)(I:InstAt h e ox C (some od))(hf:findObj K C (some od) name=some (.value v))(hh:handedIn v=true)(hq:Q v ⟨h,g,d,t+1,os⟩):
  wpAny (model prog w) A (getAttr (.ref e) name expr) Q E ⟨h,g,d,t,os⟩:=by
 unfold getAttr
 refine zt2 (wpAny_mkText (oS X c I ?_))
 unfold Builtin.«object.__getattribute__»
 refine zt2 (zt6 (zt2 (zt6 (zt2 (I.type.at (zt2 ((looks_find X I hf).at ?_)))))))
 refine zt6 ?_
 show wpAny _ _ (handedOut v) _ _ _
 rw[handedOut_of hh]
 exact zt6 hq
theorem zf3 {ox:Obj}{od:Option Obj}{Q:Option Value→Shared→Prop}(X:K.In h)(c:XC K C S init)(I:InstAt h e ox C od)(hq:Q (some (.ref C)) ⟨h,g,d,t+1,os⟩):wpAny (model prog w) A (getAttr? (.ref e) "__class__") Q E ⟨h,g,d,t,os⟩:=by
 obtain⟨nm,qn,N,bs,sn,sub,ab,col,dd,k0,k1,k2,k3,k5,mN,hC,hN,hi,T,cd,hcd,hdict,hmro,_⟩:=yP X c.ok
 have hf:findObj K C od "__class__"=some (.bind (.builtin "getset_descriptor.__get__") (.builtin "object.__class__")):=by
  unfold findObj
  rw[hcd,zC0,c.cl,zC0]
  dsimp only
  rw[c.cg,zC0]
  dsimp only
  rw[c.ct]
  rfl
 unfold getAttr? getAttrBy?
 refine zt2 (wpAny_mkText (zt2 (zE0 (oS X c I ?_))))
 unfold Builtin.«object.__getattribute__»
 refine zt2 (zt6 (zt2 (zt6 (zt2 (I.type.at (zt2 ((looks_find X I hf).at ?_)))))))
 show wpAny _ _ (bindTo _ _ _ _) _ _ _
 have hm:mroIn K C (.type "object")=some true:=by unfold mroIn;rw[hcd,zC0,hmro]<;>rfl
 refine zt2 (zx6 (zC4 (class_get (s:=⟨h,g,d,t+1,os⟩) (ox:=ox) (od:=od) X I hm ?_)))
 refine zt6 ?_
 exact handed_on rfl (zt6 hq)
theorem fX {ox:Obj}{od:Option Obj}(c:XC K C S init):KitX K (.ref e) (.ref C) (fun h=>InstAt h e ox C od) where
 ty:=fun _ _ _ I=>I.type
 it:=fun _ _ X _=>by
  obtain⟨nm,qn,N,bs,sn,sub,ab,col,dd,k0,k1,k2,k3,k5,mN,hC,_⟩:=yP X c.ok
  intro A' Q' E' s' k q
  unfold isType loadHead
  exact zt2 (wpAny_loadPart (k _ _ hC) (zt6 q))
 ne:=fun h tp dd its n sl X htp=>by
  obtain⟨nm,qn,N,bs,sn,sub,ab,col,dd,k0,k1,k2,k3,k5,mN,hC,_⟩:=yP X c.ok
  refine zw5.mpr fun q=>?_
  have e:C=tp:=Value.ref.inj (zA3.mp q)
  subst e
  cases (show Data.cls _=Data.seq _ _ from congrArg Obj.data (zw0 (hC.symm.trans htp)))
 ca:=fun {_ _ _ _ _ s} X I k=>by obtain⟨h,g,d,t,os⟩:=s;exact zf3 X c I k
structure XB (K:Frag)(C B:Addr):Prop where
 ty:typeIn K (.ref B)=some (.type "type")
 be:mroIn K B (.type "BaseException")=some true
 sub:mroIn K C (.ref B)=some true
theorem zc3 {B:Addr}{ox:Obj}{od:Option Obj}{Q:Bool→Shared→Prop}(X:K.In h)(b:XB K C B)(I:InstAt h e ox C od)(hq:Q true ⟨h,g,d,t,os⟩):wpAny (model prog w) A (excMatches (.ref e) (.ref B)) Q E ⟨h,g,d,t,os⟩:=by
 have l1:Looks (model prog w) h (isType (.ref B)) true:=by
  obtain⟨cd,hcd,_⟩:=Option.bind_eq_some_iff.mp b.be
  unfold clsIn at hcd
  split at hcd
  ·rename_i c' d' cd' sl' ho
   intro A' Q' E' s' k q
   unfold isType loadHead
   exact zt2 (wpAny_loadPart (k _ _ (X _ _ ho)) (zt6 q))
  ·cases hcd
 have l2:Looks (model prog w) h (isExcClass (.ref B)) true:=l1.andThen (by rw[if_pos rfl];exact looks_mroIn X b.be)
 have l3:Looks (model prog w) h (isInstance (.ref B) (.type "tuple")) false:=(looks_typeIn X b.ty).andThen (Looks.of_pure tc_notTuple)
 have l4:=looks_mroIn (M:=model prog w) X b.sub
 have l5:=I.type (M:=model prog w)
 unfold excMatches
 refine zt2 (l3.at ?_)
 rw[if_neg (by decide)]
 refine zt2 (zt6 ?_)
 simp only[zE4,zH5]
 refine zt2 (zt2 (zt2 (l2.at ?_)))
 refine zt6 (zt6 (zt2 (l5.at (zt2 (zt2 (zt2 (l4.at ?_)))))))
 exact zt6 (zt6 (zt6 hq))
end
def xcF (a C:Addr)(d:Option Addr):HO:=.ext fun h=>∃t,h.get? a=some (ue C t d)
section
variable {X:Cx}{pins:List (Addr×Obj)}{σ:St}{H:Hp}{s:Shared}{a C:Addr}{d:Option Addr}{pos:Pos}
theorem mO {P:Program}{w:World}{H':Hp}{h:Heap}{t:Addr}(e:h.get? a=some (ue C t d)):yf P w H' h a (xcF a C d):=⟨⟨t,e⟩,⟨_,e⟩,fun _ _ ⟨t,e⟩ k=>⟨t,k _ e⟩⟩
theorem Inv.xat (I:Inv X pins σ H s)(e:H a=some (xcF a C d)):∃t,s.heap.get? a=some (ue C t d):=(I.hok a _ e).1
theorem dh {o:HO}(e:H a=some o):upd H a o=H:=by
 funext b
 unfold upd
 split
 ·rename_i z;rw[z,e]
 ·rfl
theorem Inv.xthaw (I:Inv X pins σ H s)(e:H a=some (xcF a C d)):Inv X pins σ (upd H a (xcO a C d)) s:=by
 obtain⟨t,h⟩:=I.xat e
 have:=I.write (x:=a) (e:=a) (o:=xcO a C d) (h':=s.heap) (t':=s.toks) (by rw[e];exact True.intro) (.inl rfl) (fun _ _ _ q=>q) ⟨_,h⟩ ⟨⟨_,_,h,rfl,rfl,rfl⟩,⟨_,h⟩,fun _ _ ⟨o,vs,h1,h2⟩ k=>⟨o,vs,k _ h1,h2⟩⟩
 exact this
structure XS (K:PySem.W.Frag)(S:Addr):Prop where
 rd:PySem.W.readsIn K S (.type "type")=true
 fi:PySem.W.findCls K (.ref S) (.type "type") "__init__"=some (.val (.builtin "ValueError.__init__"))
 ga:PySem.W.specialIn K (.ref S) "__getattribute__"=some (some (.builtin "type.__getattribute__"))
theorem cA {pl:Sem Bool}{sn:Str}{S:Addr}{init:Option Value}{p apos:Pos}{e:Expr}{es:List Expr}{ta:TA}(hg:Gl X sn)(hm:X.mg sn=some (.ref S))(xs:XS X.K S)(c:wb X.K C S init=true)(ha:PA X (e::es) ta)(hdb:(sn == ("__debug__":Str))=false:=by decide)
  (hst:starEach (e::es) X.env=(false,eval e X.env)::starEach es X.env:=by rfl) (hpl:(backTo pos (starEach es X.env)).any (·.1)=false:=by rfl)
  (ht:eval (.Call (.Attribute (.Name sn p) "__init__" apos) (e::es) [] pos) X.env=(do
   let ov ←eval (.Name sn p) X.env
   standAt apos.atName
   let (f,first) ←holding [ov] (getMethod ov "__init__" pl)
   callWith pos f first (backTo pos (starEach (e::es) X.env)) (backToKw pos (keywordEach [] X.env))):=by rfl):
  PE X (.Call (.Attribute (.Name sn p) "__init__" apos) (e::es) [] pos) (fun σ H Q=>ta σ H fun vs H1=>∃a rest d,vs=.ref a::rest∧rest.length≤100∧H1 a=some (xcF a C d)∧Q .non H1):=by
 intro pins s σ H Q I h
 refine zC9 (pl:=pl) (xM I hg hm ?_ hdb) ht
 refine PySem.W.method_cls I.kIn xs.ga (PySem.W.cls_value I.kIn xs.rd xs.fi (by decide +kernel) ?_)
 refine PyProof.Rows.callWith_builtin1 (thn (ha pos pins _ σ H _ (I.tok (s.toks+1)) h) fun us s1 ⟨vs,H1,I1,r1,a,rest,d,ev,lr,ea,q⟩=>?_) hst hpl
 subst ev
 obtain⟨t,hx⟩:=I1.xat ea
 cases r1 with
 |@cons _ u _ us r0 r1=>
  obtain rfl:u=Value.ref a:=r0
  obtain⟨h1,g1,d1,t1,o1⟩:=s1
  refine my I1.kIn c hx (by have:=r1.length;omega) fun h' t' hk he=>?_
  have I2:=I1.write (x:=a) (e:=a) (o:=xcF a C d) (h':=h') (t':=t1) (by rw[ea];exact True.intro) (.inl rfl) (fun b u hb q=>hk b u hb q) ⟨_,he⟩ (mO he)
  rw[dh ea] at I2
  exact⟨.non,H1,I2,rfl,q⟩
theorem Inv.xput {h':Heap}{t':Nat}{dx t:Addr}{f:Str}{y:V}{u:Value}(I:Inv X pins σ H s)(ea:H a=some (xcF a C none))(hdx:s.heap.objs.size≤dx)(hk:∀b o,b≠a→s.heap.get? b=some o→h'.get? b=some o)(he:h'.get? a=some (ue C t (some dx)))(hn:h'.Ns1 dx (fun z=>if z=f then some u else none))(ry:RelV y u):
  Inv X pins σ (upd (upd H dx (.xd [(f,y)])) a (xcF a C (some dx))) {s with heap:=h',toks:=t'}:=by
 have hf:H dx=none:=I.hok.fresh hdx
 have da:dx≠a:=fun z=>by rw[z,ea] at hf;cases hf
 have lt:∀{b:Addr} {o:Obj},s.heap.get? b=some o→b≠dx:=fun {b o} q z=>absurd (zu0 q) (by rw[z];exact Nat.not_lt.mpr hdx)
 have na:∀{b:Addr},H b=none→b≠a:=fun {b} n z=>by rw[z,ea] at n;cases n
 have nn:∀{b:Addr} {o:HO},H b=some o→b≠dx:=fun {b o} q z=>by rw[z,hf] at q;cases q
 have keepH:∀{b:Addr} {o:HO},H b=some o→b≠a→(upd (upd H dx (.xd [(f,y)])) a (xcF a C (some dx))) b=some o:=fun {b o} q z=>by rw[zg z,zg (nn q)];exact q
 refine I.un ⟨fun b o q n _ _=>hk b o (na n) q,fun b o q n _ _=>⟨o.slots,hk b o (na n) q⟩,fun b o q n _=>by rw[zg (na n),zg (lt q)];exact n,fun b o q _=>?_,fun b xs q=>keepH q (fun z=>by rw[z,ea] at q;cases q),fun b o u q=>keepH q (fun z=>by rw[z,ea] at q;cases q),fun b ps q=>⟨#[],by rw[Array.append_empty];exact keepH q (fun z=>by rw[z,ea] at q;cases q)⟩⟩ fun b o q=>?_
 ·by_cases z:b=a
  ·subst z;exact⟨_,he⟩
  ·exact⟨o,hk b o z q⟩
 ·by_cases z:b=a
  ·subst z
   rw[zh] at q;cases q
   exact mO he
  ·rw[zg z] at q
   by_cases z2:b=dx
   ·subst z2
    rw[zh] at q;cases q
    refine⟨_,hn,fun g=>?_⟩
    show vI (([(f,y)]:List (Str×V)).lookup g) (if g=f then some u else none)
    by_cases zz:g=f
    ·subst zz
     rw[if_pos rfl]
     simp only[zx0,beq_self_eq_true]
     exact ry
    ·rw[if_neg zz]
     have:(g == f)=false:=by simpa using zz
     simp only[zx0,this,List.lookup_nil]
     trivial
   ·rw[zg z2] at q
    refine (I.hok b o q).stay (fun c v hc e=>hk c v ?_ e) (fun c e=>keepH e (fun z=>by rw[z,ea] at e;cases e)) fun c xs e=>keepH e (fun z=>by rw[z,ea] at e;cases e)
    rcases hc with rfl|hc
    ·exact z
    ·intro z3;rw[z3,ea] at hc;cases hc
theorem ah {o value:Expr}{ta tv:TE}{f:Str}{S:Addr}{init:Option Value}{pos':Pos}(ha:PE X o ta)(hv:PE X value tv)(c:XC X.K C S init)(hn:PySem.W.findIn X.K (.ref C) f=some none)(hs:swapsWith value (some (.Attribute o f pos')) pos.line X.env=pure false:=by rfl):
  PS X (.Assign [.Attribute o f pos'] value pos) (fun D σ H=>tv σ H fun y H1=>ta σ H1 fun x H2=>∃a,x=.ref a∧H2 a=some (xcF a C none)∧∀dx,H2 dx=none→dx≠a→D.nx σ (upd (upd H2 dx (.xd [(f,y)])) a (xcF a C (some dx)))):=by
 intro pins s σ H D I h
 refine plainObj_wpAny_Assign_Attribute (thn (hv pins s σ H _ I h) fun u s1 ⟨y,H1,I1,ry,q⟩=>thn (ha pins s1 σ H1 _ I1 q) fun ov s2 ⟨x,H2,I2,rx,a,ex,ea,q2⟩=>?_) hs
 subst ex
 obtain rfl:ov=Value.ref a:=rx
 obtain⟨t,hx⟩:=I2.xat ea
 obtain⟨h2,g2,d2,t2,o2⟩:=s2
 refine zr8 I2.kIn c.ok c.sa hn hx fun h' dx tk' hdx hk he hn'=>⟨σ,_,I2.xput ea hdx hk he hn' ry,q2 dx (I2.hok.fresh hdx) fun z=>?_⟩
 have:=I2.hok.fresh hdx
 rw[z,ea] at this;cases this
end
section
variable {prog:Program}{w:World}{A:Around}{E:Value→Shared→Prop}{h:Heap}{g:Array GenState}{d:Drawn}{t:Nat}{os:OsState}
variable {nm q:Str}{C N:Addr}{bs bm bmB:List Value}{hdct:Bool}{sn:List Str}{sub:List Value}{ab:Bool}{col:Option Bool}{dd:Option Addr}{k0 k1 k2 k3 k5:Option Value}{B Bn newId nid initId inN:String}{bmN:List Value}
end
section
variable {X:Cx}{pins:List (Addr×Obj)}{σ:St}{H:Hp}{s:Shared}{k:Nat}{f C S:Addr}{fd:FuncData}{ps:List Str}{sp:Sp}{x:Str}{p pos:Pos}{e:Expr}{es:List Expr}{t:TA}
theorem Inv.xmade {h':Heap}{t':Addr}(I:Inv X pins σ H s)(hk:∀b o,s.heap.get? b=some o→h'.get? b=some o)(he:h'.get? (s.heap.objs.size+1)=some (ue C t' none)):Inv X pins σ (upd H (s.heap.objs.size+1) (xcF (s.heap.objs.size+1) C none)) {s with heap:=h'}:=
 I.laid (t':=s.toks) hk (zB7 _) (mO he)
theorem gX (c:wb X.K C S (some (.ref f))=true)(hfn:PySem.W.typeIn X.K (.ref f)=some (.type "function"))(kp:PySem.W.keepIn X.K (.ref C)=true)(F:zA X.prog X.w X.K X.mg X.base CX0 k f fd ps sp)(hr:zK (k+1) X.A)(hg:Gl X x)(hm:X.mg x=some (.ref C))(hb:Binds X.K fd ps [])
  (ha:PA X (e::es) t) (hdb:(x == ("__debug__":Str))=false:=by decide) (he:starEach (e::es) X.env=(false,eval e X.env)::starEach es X.env:=by rfl) (hpl:(backTo pos (starEach es X.env)).any (·.1)=false:=by rfl):
  PE X (.Call (.Name x p) (e::es) [] pos) (fun σ H Q=>t σ H fun vs H1=>vs.length≤100∧∀a,H1 a=none→sp (.ref a::vs) (upd H1 a (xcF a C none)) (fun v H2=>v=.non∧Q (.ref a) H2) E0):=by
 intro pins s σ H Q I h
 refine zz8 (xM I hg hm ?_ hdb)
 refine zC5 (h₀:=X.base) I.ok.mod.kin kp (thn (ha pos pins s σ H _ I h) fun us s1 ⟨vs,H1,I1,r,lv,q⟩=>⟨I1.kIn,?_⟩) he hpl
 obtain⟨nm,qn,N,bs,sn,sub,ab,col,dd,k0,k1,k2,k3,k5,mN,hC,hN,hi,T,_⟩:=yP I1.kIn c
 obtain⟨oI,lI,cI⟩:=zw9.mp hfn
 have hfI:=I1.kIn _ _ lI
 have hl:=r.length
 have hq:=q (s1.heap.objs.size+1) (I1.hok.fresh (zB7 _))
 obtain⟨h0,g,d,tk,os⟩:=s1
 refine zo8 zB4 (by decide +kernel) zB4 T hC hN hi hfI cI ?_ (by show us.length≤_;rw[zx4];omega)
 have keep:∀b o,h0.get? b=some o→(vn h0 C us).get? b=some o:=fun b o e=>zt3 _ (zt3 _ e)
 have hget:(vn h0 C us).get? (h0.objs.size+1)=some (ue C h0.objs.size none):=by unfold vn;heap_get
 have I2:=I1.xmade (h':=vn h0 C us) keep hget
 have r2:Vals (V.ref (h0.objs.size+1)::vs) (Value.ref (h0.objs.size+1)::us):=.cons rfl r
 have hl2:(Value.ref (h0.objs.size+1)::us++[]).length=ps.length:=by
  have e:=r2.length
  rw[F.len _ _ _ _ hq] at e
  rw[zx9]
  exact e.symm
 have hbb:=hb _ (Value.ref (h0.objs.size+1)::us) I2.kIn hl2
 rw[zx9] at hbb
 refine zC4 (zD0 (F.run _ X.stack _ _ ⟨Value.ref (h0.objs.size+1)::us,[]⟩ _ _ _ E0 (hr.make C us []) (I2.env0.make C us []) hbb r2 hq) fun r s' hq'=>?_)
 cases r with
 |error e=>exact (hq':False).elim
 |ok fl=>
  cases fl with
  |ret u=>
   obtain⟨v,H',I3,rv,ev,q3⟩:=I2.after hq'
   subst ev
   exact⟨rv,⟨V.ref (h0.objs.size+1),H',I3,rfl,q3⟩⟩
  |next=>exact False.elim hq'
  |brk=>exact False.elim hq'
  |cont=>exact False.elim hq'
theorem fQ {X0:Cx}{R:St→Addr→Hp→Prop}{te:TE}{init:Option Value}(c:wb X0.K C S init=true)(hc:X0.calm=true)(he:PE (X0.wish (XE X0 R)) e te):
  PS (X0.wish (XE X0 R)) (.Raise (some e) none pos) (fun D σ H=>te σ H fun x H1=>∃a d,x=.ref a∧H1 a=some (xcF a C d)∧R σ a (upd H1 a (xcO a C d))):=by
 intro pins s σ H D I h
 show wpAny _ _ (do standAt pos;raiseStmt X0.env (some (do let v ←eval e X0.env;standAt pos;pure v)) none) _ _ _
 obtain⟨nm,qn,N,bs,sn,sub,ab,col,dd,k0,k1,k2,k3,k5,mN,hC,hN,hi,T,_,_,_,_,lk⟩:=yP I.kIn c
 refine zt2 (zD9 (zi6 (C:=C) (nm:=nm) (q:=qn) (N:=N) (bs:=bs) (bm:=.ref S::bmV) (hdct:=true) (sn:=sn) (sub:=sub) (ab:=ab) (col:=col) (dd:=dd) (k0:=k0) (k1:=k1) (k2:=k2) (k3:=k3) (k5:=k5) (newId:="ValueError.__new__") (T.hasType zB4.hasBase) (I.ok.hd hc) (zt2 (thn (he pins s σ H _ I h) fun v s1 ⟨x,H1,I1,rx,a,d,ex,ea,r⟩=>zt2 (zD9 (zt6 ?_))))))
 subst ex
 obtain rfl:v=Value.ref a:=rx
 obtain⟨t',ha⟩:=I1.xat ea
 exact⟨a,t',d,rfl,I1.kIn _ _ lk,ha,⟨σ,_,a,rfl,(I1.xthaw ea).unwish.nopins,⟨C,d,zh⟩,.new ha rfl rfl,r⟩⟩
end
abbrev Cx.held (X:Cx)(pins:List (Addr×Obj)):Cx:={X with pn:=X.pn++pins}
abbrev Cx.suite (X:Cx)(a:Addr):Cx:={X with A:=X.A.mark (some (.ref a)),calm:=false,xe:=fun _ _=>False}
section
variable {X:Cx}{pins:List (Addr×Obj)}{σ:St}{H:Hp}{s:Shared}{a:Addr}{D:Ends}{f:Flow}
theorem Inv.held (I:Inv X pins σ H s):Inv (X.held pins) [] σ H s:=
 ⟨⟨I.ok.mod,I.ok.kind,I.ok.glob,I.ok.blt,I.ok.above,I.ok.inj,I.ok.has,I.ok.cab,I.ok.hd,I.ok.frames,I.ok.stk,I.ok.exf,I.ok.bs,I.ok.bsz,I.ok.noex,I.ok.exfs,I.ok.funs,I.ok.frf⟩,I.os,I.bare,I.base,I.loc,I.cell,I.free,I.freeC,fun p hp=>I.pin p (by simpa using hp),I.hok,I.len⟩
theorem Inv.unheld (I:Inv (X.held pins) [] σ H s):Inv X pins σ H s:=
 ⟨⟨I.ok.mod,I.ok.kind,I.ok.glob,I.ok.blt,I.ok.above,I.ok.inj,I.ok.has,I.ok.cab,I.ok.hd,I.ok.frames,I.ok.stk,I.ok.exf,I.ok.bs,I.ok.bsz,I.ok.noex,I.ok.exfs,I.ok.funs,I.ok.frf⟩,I.os,I.bare,I.base,I.loc,I.cell,I.free,I.freeC,fun p hp=>I.pin p (by simpa using hp),I.hok,I.len⟩
theorem Inv.suite (I:Inv X pins σ H s):Inv (X.suite a) pins σ H s:=
 ⟨⟨I.ok.mod,I.ok.kind,I.ok.glob,I.ok.blt,I.ok.above,I.ok.inj,I.ok.has,I.ok.cab,(fun z=>nomatch z),I.ok.frames,I.ok.stk,I.ok.exf,I.ok.bs,I.ok.bsz,I.ok.noex,I.ok.exfs,I.ok.funs,I.ok.frf⟩,I.os,I.bare,I.base,I.loc,I.cell,I.free,I.freeC,I.pin,I.hok,I.len⟩
theorem Inv.unsuite (J:Inv X [] σ H s){σ':St}{H':Hp}{s':Shared}(I:Inv (X.suite a) pins σ' H' s'):Inv X pins σ' H' s':=
 ⟨J.ok,I.os,I.bare,I.base,I.loc,I.cell,I.free,I.freeC,I.pin,I.hok,I.len⟩
theorem SP.held {E:Value→Shared→Prop}(h:SP ((X.held pins).wish E) [] D f s):SP X pins D f s:=by
 cases f with
 |next=>obtain⟨σ',H',I,q⟩:=h;exact⟨σ',H',I.unwish.unheld,q⟩
 |brk=>obtain⟨σ',H',I,q⟩:=h;exact⟨σ',H',I.unwish.unheld,q⟩
 |cont=>obtain⟨σ',H',I,q⟩:=h;exact⟨σ',H',I.unwish.unheld,q⟩
 |ret u=>obtain⟨v,σ',H',I,r,q⟩:=h;exact⟨v,σ',H',I.unwish.unheld,r,q⟩
theorem Inv.gone {M:Model}{A:Around}{E:Value→Shared→Prop}{Q:Unit→Shared→Prop}{i:Nat}{n:Str}{pos:Pos}(I:Inv X pins σ H s)(hN:X.N.Nodup)(hi:X.N[i]?=some n)(hl:X.env.scope.names.lookup n=some .local)
  (h:∀s',Inv X pins (σ.set i none) H s'→Q () s'):wpAny M A (do bindName X.env n .none;unbindBehindTheSuite X.env n pos) Q E s:=by
 obtain⟨m,hn,hlk⟩:=id I.loc
 have hcls:(X.env.scope.kind == .class||(X.env.scope.kind == .module&&X.env.locals != X.env.globals))=false:=by rw[I.ok.kind];rfl
 have hiσ:i<σ.length:=by rw[I.len];exact (zt8.mp hi).1
 have cne:=I.cne
 refine wpAny_nameGoes_keeps hl hn hcls fun h' v hn' hs=>?_
 obtain⟨oL,_,_,hoL,_⟩:=id hn
 have nl:∀{b:Addr} {o:Obj},X.s₀.heap.get? b=some o→b≠X.env.locals:=fun {b o} e=>zv4 (zv1 (zu0 e) I.ok.above)
 refine h _ ⟨I.ok,I.os,I.bare,⟨fun b o e n hb hx=>(hs.2 b (nl e)).trans (I.base.keep b o e n hb hx),fun b o e n hb hx=>?_,I.base.free,fun b o e hx=>?_,I.base.tups,I.base.frzs,I.base.tbls⟩,⟨_,hn',fun j y v' e1 e2 e3=>?_⟩,fun y c e=>?_,I.free,I.freeC,fun p hp=>?_,fun b ob e=>?_,by simpa using I.len⟩
 ·obtain⟨sl,e1⟩:=I.base.slot b o e n hb hx
  exact⟨sl,(hs.2 b (nl e)).trans e1⟩
 ·obtain⟨o',e1⟩:=I.base.there b o e hx
  exact⟨o',(hs.2 b (nl e)).trans e1⟩
 ·by_cases hj:j=i
  ·subst hj
   rw[zy0 hiσ] at e2
   cases e2
  ·rw[zw6 (zw7 hj)] at e2
   obtain⟨u',r',q⟩:=hlk j y v' e1 e2 e3
   refine⟨u',r',?_⟩
   rcases q with ⟨k,e⟩|⟨k,c,e,z⟩
   ·refine .inl ⟨k,?_⟩
    have:y≠n:=fun e=>hj (sC hN e1 (e▸hi))
    simp[this,e]
   ·exact .inr ⟨k,c,e,z.sameBut hs (cne y c e)⟩
 ·obtain⟨w',z⟩:=I.cell y c e
  exact⟨w',z.sameBut hs (cne y c e)⟩
 ·obtain⟨e,n,ne,nf,d⟩:=I.pin p hp
  exact⟨(hs.2 p.1 ne).trans e,n,ne,nf,d⟩
 ·refine (I.hok b ob e).stay (fun c w' hc q=>(hs.2 c ?_).trans q) (fun _ q=>q) fun _ _ q=>q
  rintro rfl
  rcases hc with rfl|hc
  ·rw[I.free] at e;cases e
  ·rw[I.free] at hc;cases hc
theorem Inv.caught {R:St→Addr→Hp→Prop}{E':Value→Shared→Prop}{Q:Flow→Shared→Prop}{e:Value}{hs:List ExceptHandler}(hst:X.stack=X.env::X.outer)(h:XE X R e s)
  (k:∀σ H a T s',Inv X [] σ H s'→(∃C d,H a=some (xcO a C d))→R σ a H→H T=none→X.s₀.heap.get? T=none→(∀p∈X.pn,p.1≠T)→Ent s'.heap X.base a T .none→wpAny (model X.prog X.w) X.A (handleBy (.ref a) X.env hs) Q E' s'):
  wpAny (model X.prog X.w) X.A (noteFrame e X.env) (fun _ s₂=>wpAny (model X.prog X.w) X.A (setFlight e none) (fun _ s₃=>wpAny (model X.prog X.w) X.A (handleBy e X.env hs) Q E' s₃) E' s₂) E' s:=by
 obtain⟨σ,H,a,rfl,I,ha,f,r⟩:=h
 refine I.note hst ha f fun h' T I' h1 h2 h3 h4=>?_
 refine I'.flight (fo:=none) hst ha h1 h2 (by simpa using h3) h4 fun h'' I'' e''=>?_
 exact k σ H a T _ I'' ha r h1 h2 h3 e''
theorem jn {P:Program}{w:World}{h:Heap}{C:Addr}{d:Option Addr}(hok:HOk P w H h)(e:H a=some (xcO a C d))(hd:∀dx,d=some dx→∃fs,H dx=some (.xd fs)):∃ox od,PySem.W.InstAt h a ox C od∧od.isSome=d.isSome:=by
 obtain⟨⟨o,vs,h1,h2,h3,h4⟩,_⟩:=hok a _ e
 cases d with
 |none=>exact⟨o,none,jm h1 h2 ⟨vs,h4⟩ (by rw[h3];trivial),rfl⟩
 |some dx=>
  obtain⟨fs,hx⟩:=hd dx rfl
  obtain⟨mA,⟨od,es,ep,e1,_⟩,_⟩:=hok dx _ hx
  exact⟨o,some od,jm h1 h2 ⟨vs,h4⟩ (by rw[h3];exact e1),rfl⟩
end
section
variable {X:Cx}{body suite:List Stmt}{b0:Stmt}{x n:Str}{np hpos pos:Pos}{B:Addr}
def kZ (K:PySem.W.Frag)(B:Addr)(R:St→Addr→Hp→Prop):Prop:=∀σ a H,R σ a H→∃C d,H a=some (xcO a C d)∧(∀dx,d=some dx→∃fs,H dx=some (.xd fs))∧XB K C B
theorem dH {R:St→Addr→Hp→Prop}{i:Nat}(hst:X.stack=X.env::X.outer)(hN:X.N.Nodup)(hi:X.N[i]?=some n)(hl:X.env.scope.names.lookup n=some .local)(hg:Gl X x)(hm:X.mg x=some (.ref B))(hR:kZ X.K B R)(hdb:(x == ("__debug__":Str))=false:=by decide):
  PS X (.Try body [.ExceptHandler (some (.Name x np)) (some n) (b0::suite) hpos] [] [] pos) (fun D σ H=>(∀pins,iY ((X.held pins).wish (XE (X.held pins) R)) body D σ H)∧
   ∀pins a σ' H',R σ' a H'→iY ((X.held pins).suite a) (b0::suite) {nx:=fun σ'' H''=>D.nx (σ''.set i none) H'',rt:=D.rt,bk:=fun σ'' H''=>D.bk (σ''.set i none) H'',ct:=fun σ'' H''=>D.ct (σ''.set i none) H''} (σ'.set i (some (.ref a))) H'):=by
 rintro pins s σ H D I ⟨h1,h2⟩
 obtain⟨tb,pb,qb⟩:=h1 pins
 refine wpAny_Try_except (zw4 (pb [] s σ H D (I.held.wish _) qb) (fun f s1 hf=>?_) fun e s1 hx=>?_)
 ·have hf:=SP.held hf
  cases f with
  |next=>exact zE3 hf
  |brk=>exact hf
  |cont=>exact hf
  |ret u=>exact hf
 ·refine Inv.caught (X:=X.held pins) hst hx fun σ' H' a T s' I' ha r t1 t2 t3 ent=>?_
  obtain⟨C,d,hc,hd,xb⟩:=hR σ' a H' r
  refine wpAny_handleBy_cons (codeAny_handlers_test (xM (I'.suite (a:=a)) hg hm ?_ hdb)) (by intro q;cases q)
  obtain⟨ox,od,J,_⟩:=jn I'.hok hc hd
  obtain⟨h',g',d',tk',os'⟩:=s'
  refine zc3 I'.kIn xb J (codeAny_handlers_suite_as ?_)
  refine I'.flight (fo:=none) hst ha t1 t2 (by simpa using t3) ent fun h'' I'' _=>?_
  refine sy I'' hN hi (Or.inl hl) (v:=.ref a) rfl (fun s2 I2=>?_) (.inr hl)
  obtain⟨ts,p2,q2⟩:=h2 pins a σ' H' r
  refine zw4 (p2 [] s2 _ H' _ I2.suite q2) (fun f s3 hf=>?_) fun _ _ z=>(z:False).elim
  cases f with
  |next=>
   obtain⟨σ3,H3,I3,q3⟩:=hf
   exact (I''.unsuite I3).gone hN hi hl fun s4 I4=>⟨_,H3,I4.unheld,q3⟩
  |brk=>
   obtain⟨σ3,H3,I3,q3⟩:=hf
   exact (I''.unsuite I3).gone hN hi hl fun s4 I4=>⟨_,H3,I4.unheld,q3⟩
  |cont=>
   obtain⟨σ3,H3,I3,q3⟩:=hf
   exact (I''.unsuite I3).gone hN hi hl fun s4 I4=>⟨_,H3,I4.unheld,q3⟩
  |ret u=>
   obtain⟨v,σ3,H3,I3,r3,q3⟩:=hf
   exact (I''.unsuite I3).gone hN hi hl fun s4 I4=>⟨v,_,H3,I4.unheld,r3,q3⟩
end
def xD (C:Addr)(fs:List (PyData×PyData)):PyData:=.dict ((.int (C:Nat),.bool true)::fs)
def xD0 (C:Addr):PyData:=.dict [(.int (C:Nat),.bool false)]
section
variable {G:Hp}{v:V}{C:Addr}{ds:List (PyData×PyData)}
theorem AV.xc_inv (h:AV G v (xD C ds)):∃a dx fs,v=.ref a∧G a=some (xcO a C (some dx))∧G dx=some (.xd fs)∧AVf G fs ds:=by
 generalize e:xD C ds=d at h
 cases h with
 |@xc a C' dx fs ds' h1 h2 h3=>
  unfold xD at e
  injection e with e
  injection e with e1 e2
  injection e1 with e1 _
  injection e1 with e1
  have:C=C':=by exact_mod_cast e1
  subst this;subst e2
  exact⟨a,dx,fs,rfl,h1,h2,h3⟩
 |_=>simp[xD] at e
theorem AV.xn_inv (h:AV G v (xD0 C)):∃a,v=.ref a∧G a=some (xcO a C none):=by
 generalize e:xD0 C=d at h
 cases h with
 |@xn a C' h1=>
  unfold xD0 at e
  injection e with e
  injection e with e1 e2
  injection e1 with e1 _
  injection e1 with e1
  have:C=C':=by exact_mod_cast e1
  subst this
  exact⟨a,rfl,h1⟩
 |_=>simp[xD0] at e
end
def isX (C:Addr)(d:PyData):Prop:=(∃fs,d=xD C fs)∨d=xD0 C
theorem isX.at {G:Hp}{v:V}{C:Addr}{d:PyData}(x:isX C d)(h:AV G v d):∃a dx,v=.ref a∧G a=some (xcO a C dx)∧∀y,dx=some y→∃fs,G y=some (.xd fs):=by
 rcases x with ⟨fs,rfl⟩|rfl
 ·obtain⟨a,dx,gs,rfl,h1,h2,_⟩:=h.xc_inv
  exact⟨a,some dx,rfl,h1,fun y e=>by cases e;exact⟨gs,h2⟩⟩
 ·obtain⟨a,rfl,h1⟩:=h.xn_inv
  exact⟨a,none,rfl,h1,fun y e=>by cases e⟩
theorem M.reidx {F:Fr}{α α':Ev}{σ σ':St}{H:Hp}(m:M F α σ H)(f:Nat→Nat)(hl:α'.length=σ'.length)(hf:∀(k:Nat) a s,α'[k]?=some (some a)→σ'[k]?=some s→α[f k]?=some (some a)∧σ[f k]?=some s)(inj:∀(k k':Nat) a a',α'[k]?=some (some a)→α'[k']?=some (some a')→f k=f k'→k=k'):M F α' σ' H:=by
 have ow:∀{y:Addr},Ow F α' σ' y→Ow F α σ y:=fun {y} h=>by
  rcases h with z|⟨i,c,s,e1,e2,fo⟩
  ·exact .inl z
  ·obtain⟨g1,g2⟩:=hf i c s e1 e2
   exact .inr ⟨_,c,s,g1,g2,fo⟩
 have gs:zy (Gz F α σ H) (Gz F α' σ' H):=zu fun a o h e=>⟨fun z=>h (ow z),e⟩
 refine⟨hl,fun i c s e1 e2=>?_,fun i i' c d s s' x e1 e2 h1 h2 f1 f2=>?_,fun i r q e i' c s x e1 e2 fo=>?_,m.tp,m.keep,m.oex⟩
 ·obtain⟨g1,g2⟩:=hf i c s e1 e2
  exact (m.ok _ c s g1 g2).stay gs (fun x o fo e=>⟨e,(m.ft g1 g2 fo).1,(m.ft g1 g2 fo).2.1⟩) rfl fun _ _ _ l=>l
 ·obtain⟨g1,g2⟩:=hf i c s e1 h1
  obtain⟨k1,k2⟩:=hf i' d s' e2 h2
  exact inj i i' c d e1 e2 (m.dj _ _ c d s s' x g1 k1 g2 k2 f1 f2)
 ·have:i<σ'.length:=by rw[←hl];exact (zt8.mp e).1
  obtain⟨g1,_⟩:=hf i _ _ e (zt5 this)
  obtain⟨k1,k2⟩:=hf i' c s e1 e2
  exact m.xd _ r q g1 _ c s x k1 k2 fo
theorem sL {β:Ev}{b:Option A}{k:Nat}{a:A}(h:(β++[b])[k]?=some (some a)):(k<β.length∧β[k]?=some (some a))∨(k=β.length∧b=some a):=by
 rcases zA6 k β.length with z|z
 ·rw[zv9 z] at h;exact .inl ⟨z,h⟩
 ·rw[zw3 z] at h
  obtain⟨j,hj⟩:∃j,k-β.length=j:=⟨_,rfl⟩
  rw[hj] at h
  cases j with
  |zero=>simp at h;exact .inr ⟨by omega,h⟩
  |succ j=>simp at h
section
variable {F:Fr}{α αh:Ev}{σ:St}{H:Hp}
theorem M.grow (m:M F α σ H):M F (α++[none]) (σ++[none]) H:=by
 have hl:=m.len
 refine m.reidx id (by rw[zu9,zu9,hl];rfl) (fun k a s e1 e2=>?_) fun _ _ _ _ _ _ e=>e
 rcases sL e1 with ⟨z,e⟩|⟨_,e⟩
 ·exact⟨e,by rw[zv9 (by omega)] at e2;exact e2⟩
 ·cases e
theorem M.snoc {v:V}{b:A}{H':Hp}(m:M F α σ H)(t:zR F H')(k:Kz F H H')(hn:∀x,foot (some v) b x→H x=none)(hok:vk (sub (fun x=>¬Ow F α σ x∧¬foot (some v) b x) H') F H' (some v) b)(hx:noX b:=by trivial):M F (α++[some b]) (σ++[some v]) H':=by
 have hl:=m.len
 have mg:=m.grow
 have ow:∀{y:Addr},Ow F (α++[none]) (σ++[none]) y→Ow F α σ y:=fun {y} h=>by
  rcases h with z|⟨i,c,s,e1,e2,fo⟩
  ·exact .inl z
  ·rcases sL e1 with ⟨z,e⟩|⟨_,e⟩
   ·exact .inr ⟨i,c,s,e,by rw[zv9 (by omega)] at e2;exact e2,fo⟩
   ·cases e
 have m2:=mg.store (i:=α.length) (v:=v) (b:=b) t k hn (hok.stay (zu fun a o h e=>⟨⟨fun z=>h.1 (ow z),h.2⟩,e⟩) (fun x o f e=>by
  obtain⟨w1,w2,_⟩:=tI hok f
  exact⟨e,w1,w2⟩) rfl fun _ _ _ l=>l) hx
 have e1:(α++[none]).set α.length (some b)=α++[some b]:=by rw[zG6 _ _ (zt9 _),zA8]<;>rfl
 have e2:(σ++[none]).set α.length (some v)=σ++[some v]:=by rw[zG6 _ _ (by omega),hl,zA8]<;>rfl
 rw[e1,e2] at m2
 exact m2
theorem M.len' {b:Option A}{s:Option V}(m:M F (α++[b]) (σ++[s]) H):α.length=σ.length:=by
 have:=m.len
 rw[zu9,zu9] at this
 exact Nat.add_right_cancel this
theorem M.lastAt {b:A}{v:V}{i:Nat}(m:M F (α++[some b]) (σ++[some v]) H):M F (α.set i (some b)) (σ.set i (some v)) H:=by
 have hl:=m.len'
 have key:∀{k:Nat} {a:A},(α.set i (some b))[k]?=some (some a)→k<α.length∧((k=i∧a=b)∨(k≠i∧α[k]?=some (some a))):=fun {k a} e=>by
  have hk:=(zt8.mp e).1
  rw[zv8] at hk
  rcases zI e with ⟨rfl,z⟩|⟨z1,z2⟩
  ·cases z;exact⟨hk,.inl ⟨rfl,rfl⟩⟩
  ·exact⟨hk,.inr ⟨fun w=>z1 w.symm,z2⟩⟩
 refine m.reidx (fun k=>if k=i then α.length else k) (by rw[zv8,zv8];exact hl) (fun k a s e1 e2=>?_) fun k k' a a' e e' z=>?_
 ·obtain⟨hk,⟨rfl,rfl⟩|⟨hne,e⟩⟩:=key e1
  ·rw[if_pos rfl]
   rw[zy0 (by omega)] at e2
   cases e2
   exact⟨by rw[zw3 (zt9 _),zA8]<;>rfl,by rw[zw3 (by omega),hl,zA8]<;>rfl⟩
  ·rw[if_neg hne]
   rw[zw6 (fun w=>hne w.symm)] at e2
   exact⟨by rw[zv9 hk];exact e,by rw[zv9 (by omega)];exact e2⟩
 ·have h1:=(key e).1
  have h2:=(key e').1
  by_cases z1:k=i
  ·by_cases z2:k'=i
   ·omega
   ·rw[if_pos z1,if_neg z2] at z;omega
  ·by_cases z2:k'=i
   ·rw[if_neg z1,if_pos z2] at z;omega
   ·rw[if_neg z1,if_neg z2] at z;exact z
theorem pA {S:Addr→Prop}{G H:Hp}{x:Addr}{o:HO}(h:G x=some o)(hs:¬S x)(hn:∀xs,o≠.lst xs):vR S G H x=some o:=by
 unfold vR
 rw[if_neg hs,h]
 cases o<;>first|rfl|exact absurd rfl (hn _)
theorem pF {S:Addr→Prop}{p:Addr→Prop}{H:Hp}{x:Addr}{o:HO}(h:vR S (sub p H) H x=some o):H x=some o:=by
 rcases sv h with ⟨_,z⟩|⟨_,z⟩
 ·exact z
 ·exact (zj z).2
end
structure Xok (X:Cx)(r:Fr)(αh:Ev)(q:PyData→Prop):Prop where
 ex:∃(X0:Cx) (R:St→Addr→Hp→Prop),X=X0.wish (XE X0 R)∧X0.stack=X0.env::X0.outer∧X0.ex=[]∧∀σ d S a H',M r (αh++[some (.deep d S)]) (σ++[some (.ref a)]) H'→q d→R σ a H'
section
variable {F:Fr}{α αh:Ev}{σ:St}{H:Hp}
theorem M.exc {j:Nat}{q:PyData→Prop}(m:M F α σ H)(hj:α[j]?=some none):M F (α.set j (some (.exc F q))) σ H:=by
 have hs:∀{i:Nat} {c:A},(α.set j (some (.exc F q)))[i]?=some (some c)→(i=j∧c=.exc F q)∨α[i]?=some (some c):=fun {i c} e=>by
  rcases zI e with ⟨rfl,z⟩|⟨_,e'⟩
  ·cases z;exact .inl ⟨rfl,rfl⟩
  ·exact .inr e'
 have ow:∀{y:Addr},Ow F (α.set j (some (.exc F q))) σ y→Ow F α σ y:=fun {y} h=>by
  rcases h with z|⟨i,c,s,e1,e2,f⟩
  ·exact .inl z
  ·rcases hs e1 with ⟨_,rfl⟩|e1
   ·exact f.elim
   ·exact .inr ⟨i,c,s,e1,e2,f⟩
 have gs:zy (Gz F α σ H) (Gz F (α.set j (some (.exc F q))) σ H):=zu fun a o h e=>⟨fun z=>h (ow z),e⟩
 refine⟨by rw[zv8];exact m.len,fun i c s e1 e2=>?_,fun i i' c c' s s' x e1 e2 h1 h2 f1 f2=>?_,fun i r' q' e i' c s x e1 e2 f=>?_,m.tp,m.keep,m.oex⟩
 ·rcases hs e1 with ⟨_,rfl⟩|e1
  ·exact⟨rfl,fun _ z=>z,m.tp,m.keep⟩
  ·exact (m.ok i c s e1 e2).stay gs (fun x o f e=>⟨e,(m.ft e1 e2 f).1,(m.ft e1 e2 f).2.1⟩) rfl fun _ _ _ l=>l
 ·rcases hs e1 with ⟨_,rfl⟩|e1
  ·exact f1.elim
  ·rcases hs e2 with ⟨_,rfl⟩|e2
   ·exact f2.elim
   ·exact m.dj i i' c c' s s' x e1 e2 h1 h2 f1 f2
 ·rcases hs e1 with ⟨_,rfl⟩|e1
  ·exact f.elim
  ·rcases hs e with ⟨_,z⟩|e
   ·cases z;exact (m.ft e1 e2 f).2.1
   ·exact m.xd i r' q' e i' c s x e1 e2 f
theorem M.back {j:Nat}{r:Fr}{q:PyData→Prop}(m:M F α σ H)(hj:α[j]?=some (some (.exc r q)))(hl:αh.length=α.length)(le:∀(i:Nat) a,αh[i]?=some (some a)→α[i]?=some (some a)∧noX a):M r αh σ H:=by
 have l:=m.lnk hj
 have ow:∀{y:Addr},Ow r αh σ y→Ow F α σ y:=fun {y} h=>by
  rcases h with z|⟨i,c,s,e1,e2,f⟩
  ·exact .inl (l.o y z)
  ·exact .inr ⟨i,c,s,(le _ _ e1).1,e2,f⟩
 have gs:zy (Gz F α σ H) (Gz r αh σ H):=zu fun a o h e=>⟨fun z=>h (ow z),e⟩
 refine⟨hl.trans m.len,fun i c s e1 e2=>?_,fun i i' c d s s' x e1 e2=>m.dj i i' c d s s' x (le _ _ e1).1 (le _ _ e2).1,fun i r' q' e=>((le _ _ e).2:False).elim,l.ok,l.k,fun x hx=>m.oex x (l.o x hx)⟩
 refine (m.ok i c s (le _ _ e1).1 e2).stay gs (fun x o f e=>⟨e,fun z=>(m.ft (le _ _ e1).1 e2 f).1 (l.o x z),m.xd j r q hj i c s x (le _ _ e1).1 e2 f⟩) l.tp fun r' q' z=>?_
 subst z
 exact ((le _ _ e1).2:False).elim
end
def leX :Ev→Ev→Prop:=fun αh α=>αh.length=α.length∧∀(i:Nat) a,αh[i]?=some (some a)→α[i]?=some (some a)∧noX a
theorem leX.nil {n:Nat}{α:Ev}(h:n=α.length):leX (List.replicate n none) α:=⟨by rw[zG5];exact h,fun i a e=>by
 rw[zy8] at e
 split at e<;>cases e⟩
theorem leX.cons {x y:Option A}{αh α:Ev}(h:x=none∨(x=y∧∀a,x=some a→noX a))(r:leX αh α):leX (x::αh) (y::α):=⟨by rw[zv0,zv0,r.1],fun i a e=>by
 cases i with
 |zero=>
  simp at e
  rcases h with h|⟨h1,h2⟩
  ·rw[h] at e;cases e
  ·subst h1;subst e;exact⟨rfl,h2 _ rfl⟩
 |succ i=>simpa using r.2 i a (by simpa using e)⟩
theorem leX.nil' :leX [] []:=⟨rfl,fun i a e=>by simp at e⟩
theorem leX.snoc {αh α:Ev}{b:A}(h:leX αh α)(hb:noX b):leX (αh++[some b]) (α++[some b]):=⟨by rw[zu9,zu9,h.1],fun i a e=>by
 rcases sL e with ⟨z,e⟩|⟨z,e⟩
 ·rw[zv9 (by rw[←h.1];exact z)]
  exact h.2 i a e
 ·cases e
  rw[z,h.1,zw3 (zt9 _),zA8]
  exact⟨rfl,hb⟩⟩
theorem M.backS {F:Fr}{α αh:Ev}{σ:St}{H:Hp}{j:Nat}{r:Fr}{q:PyData→Prop}{b:A}{v:V}(m:M F (α++[some b]) (σ++[some v]) H)(hj:α[j]?=some (some (.exc r q)))(le:leX αh α)(hb:noX b):M r (αh++[some b]) (σ++[some v]) H:=by
 have hj':(α++[some b])[j]?=some (some (.exc r q)):=by rw[zv9 (zt8.mp hj).1];exact hj
 exact m.back hj' (le.snoc hb).1 (le.snoc hb).2
theorem qx {r:Fr}{αh:Ev}{σ:St}{H':Hp}{d:PyData}{S:Addr→Prop}{a:Addr}(m:M r (αh++[some (.deep d S)]) (σ++[some (.ref a)]) H'):dr r (.ref a) H' (.deep d S):=by
 obtain⟨v,h1,h2,h3⟩:=m.deep αh.length d S (by rw[zw3 (zt9 _),zA8]<;>rfl)
 rw[m.len',zw3 (zt9 _),zA8] at h1
 cases h1
 exact⟨h2.same (uM (zu fun a o h e=>⟨ow0 h,e⟩) fun _ _ _ e=>e),h3⟩
def spX (φ:List A→(A→Prop)→(PyData→Prop)→Prop):Sp:=fun vs H Qc E=>∃(F:Fr) (as:List A) (Q:A→Prop) (q:PyData→Prop),F.H0=H∧zR F H∧(∀x,F.O0 x→∃o,H x=some o∧wR o)∧ye F (sub (fun x=>¬F.O0 x) H) vs as∧φ as Q q∧(∀a v H',Q a→wO F v H' a→Qc v H')∧∀d S a H',q d→wO F (.ref a) H' (.deep d S)→E (.ref a) none H'
section
variable {P:Program}{w:World}{K:PySem.W.Frag}{mg:Str→Option Value}{base:Heap}
theorem fnX {x qual:Str}{st:Stmt}{f:Addr}{fd:FuncData}{N ps:List Str}{z:Str}{k:Nat}{φ:List A→(A→Prop)→(PyData→Prop)→Prop}(G:Fun K x qual st f fd)(S:zl (N++[z]) ps (zb st))(hpn:ps.length≤N.length)(hlen:∀as Q q,φ as Q q→as.length=ps.length)
  (hbody:∀(cdv:Value) (A':Around) (outer:List Env) (s:Shared) (H:Hp) (E:XK) (as:List A) (Q:A→Prop) (q:PyData→Prop) (r:Fr) (xe:Value→Shared→Prop),zK k (A'.deeper (envOfC qual (zb st) s.heap.objs.size f cdv))→φ as Q q→Xok ((xy (CX1 P w base) P w K mg base (N++[z]) qual (zb st) f cdv A' outer s H E).wish xe) r (List.replicate (N.length+1) none) q→
   SvS ((xy (CX1 P w base) P w K mg base (N++[z]) qual (zb st) f cdv A' outer s H E).wish xe) ((as.map some++List.replicate (N.length-as.length) none)++[some (.exc r fun _=>True)]) (zw st) {nx:=fun _=>Q (.dat .none),rt:=Q}):zA P w K mg base (CX1 P w base) (k+1) f fd ps (spX φ):=by
 refine G.okX S (fun vs H Q E h=>?_) (fun cdv A' outer s H vs Qc E hr h=>?_)
 ·obtain⟨F,as,Q',q,_,_,_,rv,hφ,_⟩:=h
  rw[rv.length,hlen as _ _ hφ]
 ·obtain⟨F,as,Q',q,e,t,o,rv,hφ,kk,kx⟩:=h
  have hl:=hlen as _ _ hφ
  have m:=M.start (N:=N++[z]) e t o rv
  have ea:as.map some++List.replicate ((N++[z]).length-as.length) none=(as.map some++List.replicate (N.length-as.length) none)++[none]:=by
   rw[zu9,zD1,show N.length+1-as.length=(N.length-as.length)+1 by omega,List.replicate_succ',List.append_assoc]
  rw[ea] at m
  have el:(as.map some++List.replicate (N.length-as.length) (none:Option A)).length=N.length:=by rw[zu9,zt4,zG5];omega
  have mx:=m.exc (j:=N.length) (q:=fun _=>True) (by rw[zw3 (by omega),el,zA8]<;>rfl)
  have es:((as.map some++List.replicate (N.length-as.length) (none:Option A))++[none]).set N.length (some (A.exc F fun _=>True))=(as.map some++List.replicate (N.length-as.length) none)++[some (.exc F fun _=>True)]:=by
   rw[zG6 _ _ (by omega),el,zA8]<;>rfl
  rw[es] at mx
  refine hbody cdv A' outer s H E as Q' q F _ hr hφ ⟨_,_,rfl,rfl,rfl,fun σ d S a H' mr qd=>kx d S a H' qd ⟨mr.tp,mr.keep,qx mr⟩⟩ F _ H _ mx ⟨fun α σ H' m q=>?_,fun a v H' r q=>kk a v H' q r,fun _ _ _ _ z=>z.elim,fun _ _ _ _ z=>z.elim⟩
  exact kk _ _ _ q ⟨m.tp,m.keep,.non⟩
end
structure aw (P:Program)(w:World)(K:PySem.W.Frag)(mg:Str→Option Value)(base:Heap)(x:Str)(k:Nat)(φ:List A→(A→Prop)→(PyData→Prop)→Prop):Prop where
 ex:∃f fd ps,mg x=some (.ref f)∧PySem.W.keepIn K (.ref f)=true∧Binds K fd ps []∧zA P w K mg base (CX1 P w base) k f fd ps (spX φ)
section
variable {X:Cx}{α αh:Ev}{r:Fr}{q q0:PyData→Prop}{j k:Nat}{x fl:Str}{C:Addr}{e:Expr}{es:List Expr}{p pos pos':Pos}{rest:List Stmt}{E:xi}
theorem gS {X0:Cx}{R:St→Addr→Hp→Prop}{f:Addr}{fd:FuncData}{ps:List Str}{sp:Sp}{t:TA}(hex:X0.ex=[])(F:zA X0.prog X0.w X0.K X0.mg X0.base (CX1 X0.prog X0.w X0.base) k f fd ps sp)(hr:zK k X0.A)(hg:Gl X0 x)(hm:X0.mg x=some (.ref f))(hk:PySem.W.keepIn X0.K (.ref f)=true)(hb:Binds X0.K fd ps [])
  (ha:PA (X0.wish (XE X0 R)) (e::es) t) (hdb:(x == ("__debug__":Str))=false:=by decide) (he:starEach (e::es) X0.env=(false,eval e X0.env)::starEach es X0.env:=by rfl) (hpl:(backTo pos (starEach es X0.env)).any (·.1)=false:=by rfl):
  PE (X0.wish (XE X0 R)) (.Call (.Name x p) (e::es) [] pos) (fun σ H Q=>t σ H fun vs H1=>∃E:XK,(∀a H',E (.ref a) none H'→R σ a H')∧sp vs H1 Q E):=by
 intro pins s σ H Q I h
 refine zz8 (xM I hg hm ?_ hdb)
 refine zC5 (h₀:=X0.base) I.ok.mod.kin hk (thn (ha pos pins s σ H _ I h) fun us s1 ⟨vs,H1,I1,r,E,hE,q⟩=>⟨I1.kIn,?_⟩) he hpl
 have hl:(us++[]).length=ps.length:=by rw[zx9,←r.length];exact F.len _ _ _ _ q
 have hbb:=hb s1 us I1.kIn hl
 rw[zx9] at hbb
 refine zC4 (zD0 (F.run X0.A X0.stack s1 H1 ⟨us,[]⟩ us vs Q E hr I1.env0 hbb r q) fun r s' hq=>?_)
 cases r with
 |error e=>exact cR hex I1.unwish hq hE
 |ok fl=>
  cases fl with
  |ret u=>exact I1.after hq
  |next=>exact False.elim hq
  |brk=>exact False.elim hq
  |cont=>exact False.elim hq
variable {φ:List A→(A→Prop)→(PyData→Prop)→Prop}{Q:PyData→Prop}
theorem oH {F:Fr}{σ:St}{H:Hp}{vs:List V}{as:List A}{QA:A→Prop}{Rk:VK}{R:St→Addr→Hp→Prop}(m:M F α σ H)(hj:α[j]?=some (some (.exc r q0)))(le:leX αh α)(h3:∀σ d S a H',M r (αh++[some (.deep d S)]) (σ++[some (.ref a)]) H'→q d→R σ a H')(rv:ye F (Gz F α σ H) vs as)(hφ:φ as QA q)
  (kk:∀a v H',QA a→wO ⟨H,Ow F α σ,F.tp⟩ v H' a→Rk v H'):∃E:XK,(∀a H',E (.ref a) none H'→R σ a H')∧spX φ vs H Rk E:=by
 refine⟨fun v _ H'=>∃a,v=.ref a∧∃d S,q d∧wO ⟨H,Ow F α σ,F.tp⟩ (.ref a) H' (.deep d S),fun a H' ⟨a',e,d,S,qd,ra⟩=>?_,⟨⟨H,Ow F α σ,F.tp⟩,as,QA,q,rfl,m.tp.to rfl fun _ z=>.inl z,fun y z=>m.owEx z,ye.to (F:=F) (F':=⟨H,Ow F α σ,F.tp⟩) (fun _ _ e=>e) rfl rv,hφ,kk,fun d S a H' qd ra=>⟨a,rfl,d,S,qd,ra⟩⟩⟩
 cases e
 obtain⟨g1,g2,_⟩:=ra.back m
 obtain⟨_,_,g3,g4⟩:=ra
 have m3:=m.snoc (v:=.ref a) (b:=.deep d S) (H':=H') g1 g2 (fun x z=>(g4 x z).2.1) ⟨_,rfl,g3.same fun x o e=>?_,fun x z=>⟨ow0 (g4 x z).1,m.fresh0 (g4 x z).2.1,(g4 x z).2.2⟩⟩
 ·exact h3 σ d S a H' (m3.backS hj le trivial) qd
 ·unfold vR at e ⊢
  by_cases z:S x
  ·rw[if_pos z] at e ⊢;exact e
  ·rw[if_neg z] at e ⊢
   cases q:sub (fun x=>¬Ow F α σ x) H' x with
   |none=>rw[q] at e;cases e
   |some u=>
    obtain⟨w1,w2⟩:=zj q
    rw[zM (p:=fun x=>¬Ow F α σ x∧¬foot (some (V.ref a)) (.deep d S) x) ⟨w1,z⟩ w2]
    rw[q] at e
    exact e
theorem aD (xo:Xok X r αh q)(hj:α[j]?=some (some (.exc r q0)))(le:leX αh α)(C:aw X.prog X.w X.K X.mg X.base x k φ)(hr:zK k X.A)(hg:Gl X x)(h:EvA X α (e::es) fun as=>φ as (fun a=>Q a.d) q)
  (hdb:(x == ("__debug__":Str))=false:=by decide) (he:starEach (e::es) X.env=(false,eval e X.env)::starEach es X.env:=by rfl) (hpl:(backTo pos (starEach es X.env)).any (·.1)=false:=by rfl):EvD X α (.Call (.Name x p) (e::es) [] pos) Q:=fun F σ H Rk m kk=>by
 obtain⟨X0,R,rfl,h1,h2,h3⟩:=xo.ex
 obtain⟨f,fd,ps,c1,c2,c3,c4⟩:=C.ex
 refine⟨_,gS h2 c4 hr hg c1 c2 c3 yQ hdb he hpl,?_⟩
 refine h F σ H _ m fun as vs H1 q1 t1 k1 r1=>?_
 have m1:=m.kz k1 t1
 refine oH m1 hj le h3 r1 q1 fun a v H' qa ra=>?_
 obtain⟨g1,g2,g3⟩:=ra.back m1
 exact kk _ v H' qa g1 (k1.trans g2) g3
end
section
variable {P:Program}{w:World}{K:PySem.W.Frag}{mg:Str→Option Value}{base:Heap}
theorem zr7 {x qual:Str}{st:Stmt}{f:Addr}{fd:FuncData}{N ps:List Str}{z:Str}{k:Nat}{φ:List A→(A→Prop)→(PyData→Prop)→Prop}(G:Fun K x qual st f fd)(hm:mg x=some (.ref f))(hb:Binds K fd ps [])(S:zl (N++[z]) ps (zb st))(hpn:ps.length≤N.length)(hlen:∀as Q q,φ as Q q→as.length=ps.length)
  (hbody:∀(cdv:Value) (A':Around) (outer:List Env) (s:Shared) (H:Hp) (E:XK) (as:List A) (Q:A→Prop) (q:PyData→Prop) (r:Fr) (xe:Value→Shared→Prop),zK k (A'.deeper (envOfC qual (zb st) s.heap.objs.size f cdv))→φ as Q q→Xok ((xy (CX1 P w base) P w K mg base (N++[z]) qual (zb st) f cdv A' outer s H E).wish xe) r (List.replicate (N.length+1) none) q→
   SvS ((xy (CX1 P w base) P w K mg base (N++[z]) qual (zb st) f cdv A' outer s H E).wish xe) ((as.map some++List.replicate (N.length-as.length) none)++[some (.exc r fun _=>True)]) (zw st) {nx:=fun _=>Q (.dat .none),rt:=Q}):aw P w K mg base x (k+1) φ:=
 ⟨f,fd,ps,hm,G.kp,hb,fnX G S hpn hlen hbody⟩
end
section
variable {X:Cx}{α αh:Ev}{q:PyData→Prop}{i j:Nat}{x n:Str}{B:Addr}{body suite rest:List Stmt}{b0:Stmt}{np hpos pos:Pos}{E:xi}
theorem lB {K:PySem.W.Frag}{r:Fr}{αh:Ev}(hq:∀d,q d→∃C,isX C d∧XB K C B):kZ K B (fun σ a H=>∃d S,M r (αh++[some (.deep d S)]) (σ++[some (.ref a)]) H∧q d):=fun σ a H ⟨d,S,m,qd⟩=>by
 obtain⟨C,x,b⟩:=hq d qd
 obtain⟨av,_⟩:=qx m
 obtain⟨a',dx,e,h1,h2⟩:=x.at av
 cases e
 exact⟨C,dx,pF h1,fun y e=>by obtain⟨fs,h⟩:=h2 y e;exact⟨fs,pF h⟩,b⟩
theorem qQ {β:Ev}{j:Nat}{a:A}{i:Nat}(e:(β.set j none)[i]?=some (some a)):β[i]?=some (some a):=by
 rcases zI e with ⟨_,z⟩|⟨_,z⟩
 ·cases z
 ·exact z
theorem M.drop {F:Fr}{β:Ev}{σ:St}{H:Hp}{j:Nat}(m:M F β σ H):M F (β.set j none) σ H:=m.forget (by rw[zv8]) fun i a e=>qQ e
theorem M.dropS {F:Fr}{β:Ev}{σ:St}{H:Hp}{j:Nat}(m:M F β σ H):M F (β.set j none) (σ.set j none) H:=by
 have m':=m.drop (j:=j)
 have gs:∀{i:Nat} {a:A} {s:Option V},(β.set j none)[i]?=some (some a)→(σ.set j none)[i]?=some s→σ[i]?=some s:=fun {i a s} e1 e2=>by
  by_cases z:j=i
  ·subst z
   rcases zI e1 with ⟨_,z⟩|⟨z,_⟩
   ·cases z
   ·exact absurd rfl z
  ·rw[zw6 z] at e2;exact e2
 have ow:∀{y:Addr},Ow F (β.set j none) (σ.set j none) y→Ow F (β.set j none) σ y:=fun {y} h=>by
  rcases h with z|⟨i,c,s,e1,e2,f⟩
  ·exact .inl z
  ·exact .inr ⟨i,c,s,e1,gs e1 e2,f⟩
 have gz:zy (Gz F (β.set j none) σ H) (Gz F (β.set j none) (σ.set j none) H):=zu fun a o h e=>⟨fun z=>h (ow z),e⟩
 exact⟨by rw[zv8,zv8];exact m.len,fun i c s e1 e2=>(m'.ok i c s e1 (gs e1 e2)).stay gz (fun x o f e=>⟨e,(m'.ft e1 (gs e1 e2) f).1,(m'.ft e1 (gs e1 e2) f).2.1⟩) rfl fun _ _ _ l=>l,fun i i' c d s s' x e1 e2 h1 h2=>m'.dj i i' c d s s' x e1 e2 (gs e1 h1) (gs e2 h2),fun i r' q' e i' c s x e1 e2=>m'.xd i r' q' e i' c s x e1 (gs e1 e2),m'.tp,m'.keep,m'.oex⟩
theorem oX (i j:Nat)(αh:Ev)(q:PyData→Prop)(hst:X.stack=X.env::X.outer)(hex:X.ex=[])(hN:X.N.Nodup)(hj:α[j]?=some none)(le:leX αh α)(hg:Gl X x)(hm:X.mg x=some (.ref B))(hq:∀d,q d→∃C,isX C d∧XB X.K C B)
  (h1:∀(pins:List (Addr×Obj)) (xe:Value→Shared→Prop) (r:Fr),Xok ((X.held pins).wish xe) r αh q→SvS ((X.held pins).wish xe) (α.set j (some (.exc r fun _=>True))) body {nx:=fun α'=>SvS X (α'.set j none) rest E,rt:=E.rt,bk:=fun α'=>E.bk (α'.set j none),ct:=fun α'=>E.ct (α'.set j none)})
  (h2:∀(pins:List (Addr×Obj)) (a:Addr) d S,q d→SvS ((X.held pins).suite a) (αh.set i (some (.deep d S))) (b0::suite) {nx:=fun α'=>SvS X (α'.set i none) rest E,rt:=E.rt,bk:=fun α'=>E.bk (α'.set i none),ct:=fun α'=>E.ct (α'.set i none)})
  (hi:X.N[i]?=some n:=by rfl) (hl:X.env.scope.names.lookup n=some .local:=by rfl) (hdb:(x == ("__debug__":Str))=false:=by decide):
  SvS X α (.Try body [.ExceptHandler (some (.Name x np)) (some n) (b0::suite) hpos] [] [] pos::rest) E:=fun F σ H D m rr=>by
 refine⟨_,zJ (dH (R:=fun σ a H=>∃d S,M F (αh++[some (.deep d S)]) (σ++[some (.ref a)]) H∧q d) hst hN hi hl hg hm (lB hq) hdb) ym,fun pins=>?_,fun pins a σ' H' hR=>?_⟩
 ·refine h1 pins _ F ⟨_,_,rfl,hst,hex,fun σ d S a H' mr qd=>⟨d,S,mr,qd⟩⟩ F σ H _ (m.exc hj) ⟨fun α' σ' H' m' z=>?_,rr.rt,fun α' σ' H' m' z=>rr.bk _ _ _ m'.drop z,fun α' σ' H' m' z=>rr.ct _ _ _ m'.drop z⟩
  exact z F σ' H' D m'.drop rr
 ·obtain⟨d,S,mr,qd⟩:=hR
  refine h2 pins a d S qd F _ H' _ mr.lastAt ⟨fun α' σ' H' m' z=>?_,rr.rt,fun α' σ' H' m' z=>rr.bk _ _ _ m'.dropS z,fun α' σ' H' m' z=>rr.ct _ _ _ m'.dropS z⟩
  exact z F _ H' D m'.dropS rr
end
section
variable {X:Cx}{α:Ev}{p p1 pos:Pos}{a:Expr}{Q:PyData→Prop}{C S:Addr}{init:Option Value}
inductive TyX (K:PySem.W.Frag)(H:Hp):V→Addr→Prop where
 |mk {a C S:Addr} {d:Option Addr} {init:Option Value} (e:H a=some (xcO a C d)) (hd:∀dx,d=some dx→∃fs,H dx=some (.xd fs)) (c:XC K C S init):TyX K H (.ref a) C
theorem tR {pins:List (Addr×Obj)}{σ:St}{H:Hp}{s:Shared}{A:Around}{E:Value→Shared→Prop}{Q:Value→Shared→Prop}{c:Value}{b:Bool}{x:V}{u:Value}(I:Inv X pins σ H s)(rx:RelV x u)(ty:TyX X.K H x C)(e:PySem.W.kitOne X.K (.ref C) c=some b)(h:∀tk,Q (.bool b) {s with toks:=tk}):
  wpAny (model X.prog X.w) A (call (.builtin "isinstance") [u,c]) Q E s:=by
 cases ty with
 |@mk a C S d init ea hd xc=>
  cases (show u=Value.ref a from rx)
  obtain⟨ox,od,J,_⟩:=jn I.hok ea hd
  exact zx8 (fX xc) I.kIn J e (fun z=>nomatch z) h
theorem jL :xQ X (.builtin "isinstance") (fun xs H Q=>∃x B C b,xs=[x,.ref B]∧TyX X.K H x C∧PySem.W.kitOne X.K (.ref C) (.ref B)=some b∧Q (.bl b) H):=by
 intro pins s σ H xs us Q I r h
 obtain⟨x,B,C,b,rfl,ty,e,q⟩:=h
 obtain⟨u,v,rfl,rx,ry⟩:=Vals.two r
 cases (show v=Value.ref B from ry)
 exact tR I rx ty e fun tk=>⟨.bl b,H,I.tok tk,rfl,q⟩
theorem mW :xQ X (.builtin "isinstance") (fun xs H Q=>∃x T C b,xs=[x,.ty T]∧TyX X.K H x C∧PySem.W.kitOne X.K (.ref C) (.type T)=some b∧Q (.bl b) H):=by
 intro pins s σ H xs us Q I r h
 obtain⟨x,T,C,b,rfl,ty,e,q⟩:=h
 obtain⟨u,v,rfl,rx,ry⟩:=Vals.two r
 cases (show v=Value.type T from ry)
 exact tR I rx ty e fun tk=>⟨.bl b,H,I.tok tk,rfl,q⟩
theorem fj {G H:Hp}{pr:Addr→Prop}{v:V}{d:PyData}(x:isX C d)(c:XC X.K C S init)(h:AV (sub pr H) v d):TyX X.K H v C:=by
 obtain⟨a,dx,rfl,h1,h2⟩:=x.at h
 exact .mk (zj h1).2 (fun y e=>by obtain⟨fs,z⟩:=h2 y e;exact⟨fs,(zj z).2⟩) c
theorem wt {B:Addr}{x:Str}(hg:Gl X "isinstance")(hm:X.mg "isinstance"=none)(hgC:Gl X x)(hmC:X.mg x=some (.ref B))(h:EvD X α a fun d=>∃C S init b,isX C d∧XC X.K C S init∧PySem.W.kitOne X.K (.ref C) (.ref B)=some b∧Q (.bool b))
  (hdx:(x == ("__debug__":Str))=false:=by decide) (he:starEach [a,.Name x p1] X.env=(false,eval a X.env)::starEach [.Name x p1] X.env:=by rfl) (he2:starEach [.Name x p1] X.env=(false,eval (.Name x p1) X.env)::starEach [] X.env:=by rfl) (hpl:(backTo pos (starEach [.Name x p1] X.env)).any (·.1)=false:=by rfl):
  EvD X α (.Call (.Name "isinstance" p) [a,.Name x p1] [] pos) Q:=fun F σ H R m k=>by
 refine⟨_,zV jL hg hm zA1 (zd zq (zd (vv (v:=.ref B) hgC hmC rfl hdx) zr he2) he) (he:=he) (hpl:=hpl),?_⟩
 refine h F σ H _ m fun d vx H1 q1 t1 k1 r1=>?_
 obtain⟨C,S,init,b,x,c,e,q⟩:=q1
 exact⟨vx,B,C,b,rfl,fj (G:=H1) x c r1,e,k _ _ H1 q t1 k1 (.bl b)⟩
theorem gB {T:String}{x:Str}(hg:Gl X "isinstance")(hm:X.mg "isinstance"=none)(hgC:Gl X x)(hmC:X.mg x=none)(hv:bootBuiltins x=some (.type T))(h:EvD X α a fun d=>∃C S init b,isX C d∧XC X.K C S init∧PySem.W.kitOne X.K (.ref C) (.type T)=some b∧Q (.bool b))(hn:x≠"__name__":=by decide)
  (hdx:(x == ("__debug__":Str))=false:=by decide) (he:starEach [a,.Name x p1] X.env=(false,eval a X.env)::starEach [.Name x p1] X.env:=by rfl) (he2:starEach [.Name x p1] X.env=(false,eval (.Name x p1) X.env)::starEach [] X.env:=by rfl) (hpl:(backTo pos (starEach [.Name x p1] X.env)).any (·.1)=false:=by rfl):
  EvD X α (.Call (.Name "isinstance" p) [a,.Name x p1] [] pos) Q:=fun F σ H R m k=>by
 refine⟨_,zV mW hg hm zA1 (zd zq (zd (wz hgC hmC hv (show RelV (.ty T) (.type T) from rfl) hn hdx) zr he2) he) (he:=he) (hpl:=hpl),?_⟩
 refine h F σ H _ m fun d vx H1 q1 t1 k1 r1=>?_
 obtain⟨C,S,init,b,x,c,e,q⟩:=q1
 exact⟨vx,T,C,b,rfl,fj (G:=H1) x c r1,e,k _ _ H1 q t1 k1 (.bl b)⟩
end
section
variable {X:Cx}{α:Ev}{pos:Pos}{o:Expr}{f:Str}{Q:PyData→Prop}{C S:Addr}{init:Option Value}
theorem pV {pins:List (Addr×Obj)}{σ:St}{H:Hp}{s:Shared}{A:Around}{E:Value→Shared→Prop}{b:Bool}{Q:Value→Shared→Prop}{a dx:Addr}{fs:List (Str×V)}{v:V}(I:Inv X pins σ H s)(e:H a=some (xcO a C (some dx)))(ed:H dx=some (.xd fs))(c:XC X.K C S init)(n:PySem.W.findIn X.K (.ref C) f=some none)(l:fs.lookup f=some v)
  (h:∀u s',Inv X pins σ H s'→RelV v u→Q u s'):wpAny (model X.prog X.w) A (getAttr (.ref a) f b) Q E s:=by
 obtain⟨⟨ox,vs,h1,h2,h3,h4⟩,_⟩:=I.hok a _ e
 obtain⟨mA,ns,r⟩:=I.hok dx _ ed
 obtain⟨od,ho,hl⟩:=rO ns
 obtain⟨u,hu,ru⟩:=vI.some_of (v:=v) (o:=mA f) (by rw[←l];exact r f)
 have J:PySem.W.InstAt s.heap a ox C (some od):=jm h1 h2 ⟨vs,h4⟩ (by rw[h3];exact ho)
 obtain⟨nm,qn,N,bs,sn,sub,ab,col,dd,k0,k1,k2,k3,k5,mN,hC,hN,hi,T,cd,hcd,hdict,hmro,_⟩:=yP I.kIn c.ok
 have hh:PySem.W.hasDictIn X.K C=true:=by unfold PySem.W.hasDictIn;rw[hcd];exact hdict
 have q:=h u _ (I.tok (s.toks+1)) ru
 obtain⟨h0,g,d,t,os⟩:=s
 exact zn0 I.kIn c J (PySem.W.findObj_own hh n rfl (by rw[hl,hu])) (rR ru) q
theorem kQ {ta:TE}(c:XC X.K C S init)(n:PySem.W.findIn X.K (.ref C) f=some none)(he:PE X o ta)(hb:attributeBase o f X.env (eval o X.env)=eval o X.env):
  PE X (.Attribute o f pos) (fun σ H Q=>ta σ H fun x H1=>∃a dx fs v,x=.ref a∧H1 a=some (xcO a C (some dx))∧H1 dx=some (.xd fs)∧fs.lookup f=some v∧Q v H1):=by
 intro pins s σ H Q I h
 refine jf hb (thn (he pins s σ H _ I h) fun u s1 ⟨x,H1,I1,rx,a,dx,fs,v,ex,ea,ed,l,q⟩=>?_)
 subst ex
 obtain rfl:u=Value.ref a:=rx
 exact pV I1 ea ed c n l fun u' s2 I2 ru=>⟨v,H1,I2,ru,q⟩
theorem kL (c:XC X.K C S init)(n:PySem.W.findIn X.K (.ref C) f=some none)(h:EvD X α o fun x=>∃fs d,x=xD C fs∧um fs f=some d∧Q d)(hb:attributeBase o f X.env (eval o X.env)=eval o X.env:=by rfl):EvD X α (.Attribute o f pos) Q:=fun F σ H R m k=>by
 refine⟨_,kQ c n zq hb,?_⟩
 refine h F σ H _ m fun x vx H1 q1 t1 k1 r1=>?_
 obtain⟨fs,d,rfl,hf,q⟩:=q1
 obtain⟨a,dx,gs,rfl,h1,h2,h3⟩:=r1.xc_inv
 obtain⟨v,hv,av⟩:=h3.get hf
 exact⟨a,dx,gs,v,rfl,(zj h1).2,(zj h2).2,hv,k d v H1 q t1 k1 av⟩
end
section
variable {P:Program}{w:World}{K:PySem.W.Frag}{mg:Str→Option Value}{base:Heap}
end
def zn3 (C:Addr)(fl:Str):Sp:=fun vs H Qc _=>∃(a l:Addr) (xs:List V),vs=[.ref a,.ref l]∧H a=some (xcF a C none)∧H l=some (.lst xs)∧∀l2 dx,H l2=none→(upd H l2 (.lst xs)) dx=none→dx≠a→Qc .non (upd (upd (upd H l2 (.lst xs)) dx (.xd [(fl,.ref l2)])) a (xcF a C (some dx)))
structure ze4 (P:Program)(w:World)(K:PySem.W.Frag)(mg:Str→Option Value)(base:Heap)(x:Str)(k:Nat)(C:Addr)(fl:Str):Prop where
 m:mg x=some (.ref C)
 kp:PySem.W.keepIn K (.ref C)=true
 ex:∃S f fd ps,wb K C S (some (.ref f))=true∧PySem.W.typeIn K (.ref f)=some (.type "function")∧Binds K fd ps []∧zA P w K mg base CX0 k f fd ps (zn3 C fl)
section
variable {X:Cx}{α αh:Ev}{r:Fr}{q q0:PyData→Prop}{j k:Nat}{x fl:Str}{C:Addr}{e:Expr}{es:List Expr}{p pos pos':Pos}{rest:List Stmt}{E:xi}
theorem iz (xo:Xok X r αh q)(hc:X.calm=true)(ck:ze4 X.prog X.w X.K X.mg X.base x k C fl)(hr:zK (k+1) X.A)(hg:Gl X x)(hj:α[j]?=some (some (.exc r q0)))(le:leX αh α)(h:EvD X α e fun d=>∃ds,d=.list ds∧vK ds=true∧q (xD C [(.str fl,.list ds)]))
  (hdb:(x == ("__debug__":Str))=false:=by decide) (he:starEach [e] X.env=(false,eval e X.env)::starEach [] X.env:=by rfl):SvS X α (.Raise (some (.Call (.Name x p) [e] [] pos)) none pos'::rest) E:=fun F σ H D m rr=>by
 obtain⟨X0,R,rfl,h1,h2,h3⟩:=xo.ex
 obtain⟨S,f,fd,ps,c,hf,hb,G⟩:=ck.ex
 refine⟨_,zJ (fQ c hc (gX (X:=X0.wish (XE X0 R)) c hf ck.kp G hr hg ck.m hb (zd zq zr he) hdb he)) ym,?_⟩
 refine h F σ H _ m fun d v H1 q1 t1 k1 r1=>?_
 obtain⟨ds,rfl,nl,qi⟩:=q1
 obtain⟨l,xs,rfl,g1,g2⟩:=r1.lst_inv
 have m1:=m.kz k1 t1
 have hl1:H1 l=some (.lst xs):=(zj g1).2
 refine⟨zu6 rfl,fun a ha=>⟨a,l,xs,rfl,zh,by rw[zg (fun z=>by rw[z,ha] at hl1;cases hl1)];exact hl1,fun l2 dx hl2 hdx hne=>⟨rfl,a,some dx,rfl,zh,?_⟩⟩⟩
 rw[uq]
 have na2:l2≠a:=fun z=>by rw[z,zh] at hl2;cases hl2
 have nd2:dx≠l2:=fun z=>by rw[z,zh] at hdx;cases hdx
 have hl2':H1 l2=none:=by rw[zg na2] at hl2;exact hl2
 have hd1:H1 dx=none:=by rw[zg nd2,zg hne] at hdx;exact hdx
 generalize hH3:upd (upd (upd (upd H1 a (xcF a C none)) l2 (.lst xs)) dx (HO.xd [(fl,.ref l2)])) a (xcO a C (some dx))=H3
 have s3:∀y,y≠a→y≠dx→y≠l2→H3 y=H1 y:=fun y ya yd yl=>by rw[←hH3,zg ya,zg yd,zg yl,zg ya]
 have ea:H3 a=some (xcO a C (some dx)):=by rw[←hH3];exact zh
 have ed:H3 dx=some (HO.xd [(fl,.ref l2)]):=by rw[←hH3,zg hne];exact zh
 have el:H3 l2=some (.lst xs):=by rw[←hH3,zg na2,zg nd2.symm];exact zh
 have sm:zy H1 H3:=fun y o e=>by
  rw[s3 y (fun z=>by rw[z,ha] at e;cases e) (fun z=>by rw[z,hd1] at e;cases e) (fun z=>by rw[z,hl2'] at e;cases e)]
  exact e
 have m3:=m1.snoc (v:=.ref a) (b:=.deep (xD C [(.str fl,.list ds)]) fun y=>y=l2) (H':=H3) (m1.tp.same sm) (Kz.of_same sm) (fun y z=>by rw[show y=l2 from z];exact hl2')
  ⟨_,rfl,.xc (dx:=dx) (fs:=[(fl,.ref l2)]) (pA (zM ⟨m1.fresh ha,fun z=>na2 (show a=l2 from z).symm⟩ ea) (fun z=>na2 z.symm) fun xs z=>by cases z) (pA (zM ⟨m1.fresh hd1,fun z=>nd2 z⟩ ed) nd2 fun xs z=>by cases z)
   (.cons (.lst (xs:=xs) (by unfold vR;rw[if_pos rfl];exact el) (g2.noL (fun y o ho e=>by
    obtain⟨w1,w2⟩:=zj e
    have n2:y≠l2:=fun z=>by rw[z,hl2'] at w2;cases w2
    exact pA (zM ⟨w1,n2⟩ (sm _ _ w2)) n2 fun xs z=>by rw[z] at ho;exact ho trivial) nl)) .nil),fun y z=>by
   have z:y=l2:=z
   rw[z]
   exact⟨ow0 (m1.fresh hl2'),m1.fresh0 hl2',xs,el⟩⟩
 exact h3 σ _ _ a H3 (m3.backS hj le trivial) qi
theorem M.wrD {F:Fr}{σ:St}{H:Hp}{i:Nat}{d:PyData}{S:Addr→Prop}{l:Addr}{zs:List V}{o':HO}(m:M F α σ H)(hi:α[i]?=some (some (.deep d S)))(Sl:S l)(hl:H l=some (.lst zs)):M F (α.set i none) σ (upd H l o'):=by
 obtain⟨v,h1,h2,h3⟩:=m.deep i d S hi
 obtain⟨w1,w2,_⟩:=h3 l Sl
 have ol:Ow F α σ l:=.inr ⟨i,_,_,hi,h1,Sl⟩
 have hs:∀{k:Nat} {a:A},(α.set i none)[k]?=some (some a)→i≠k∧α[k]?=some (some a):=fun {k a} e=>by
  rcases zI e with ⟨_,z⟩|z
  ·cases z
  ·exact z
 have ow:∀{y:Addr},Ow F (α.set i none) σ y→Ow F α σ y:=fun {y} h=>by
  rcases h with z|⟨k,c,s,e1,e2,f⟩
  ·exact .inl z
  ·exact .inr ⟨k,c,s,(hs e1).2,e2,f⟩
 have gs:zy (Gz F α σ H) (Gz F (α.set i none) σ (upd H l o')):=zu fun a o h e=>⟨fun z=>h (ow z),by rw[zg (fun z=>h (by rw[z];exact ol))];exact e⟩
 have tu:=m.tp.updO (o:=o') w1 (vz hl)
 refine⟨by rw[zv8];exact m.len,fun k c s e1 e2=>?_,fun k k' c d s s' x e1 e2 g1 g2 f1 f2=>m.dj k k' c d s s' x (hs e1).2 (hs e2).2 g1 g2 f1 f2,fun k r q e k' c s x e1 e2 f=>m.xd k r q (hs e).2 k' c s x (hs e1).2 e2 f,tu,fun y u e n=>?_,fun y hy=>?_⟩
 ·have nf:∀y,foot s c y→y≠l:=fun y f z=>(hs e1).1 (m.dj i k _ c _ s l hi (hs e1).2 h1 e2 Sl (z▸f))
  refine (m.ok k c s (hs e1).2 e2).stay gs (fun y o f e=>⟨by rw[zg (nf y f)];exact e,(m.ft (hs e1).2 e2 f).1,(m.ft (hs e1).2 e2 f).2.1⟩) rfl fun r q z lk=>?_
  subst z
  have rl:r.H0 l=none:=m.xd k r q (hs e1).2 i _ _ l hi h1 Sl
  exact⟨lk.tp,lk.o,lk.ok.updO (fun z=>w1 (lk.o l z)) (vz hl),fun y u e n=>by rw[zg (zk e rl)];exact lk.k y u e n⟩
 ·rw[zg (zk e w2)];exact m.keep y u e n
 ·obtain⟨u,hu,hn⟩:=m.oex y hy
  exact⟨u,by rw[zg (fun z:y=l=>w1 (z▸hy))];exact hu,hn⟩
theorem bu (i:Nat){f:Str}{ds:List (PyData×PyData)}{es:List PyData}{S:Addr→Prop}{Sx:Addr}{init:Option Value}{p0 p1 p2 p3:Pos}(c:XC X.K C Sx init)(n:PySem.W.findIn X.K (.ref C) fl=some none)(hi:α[i]?=some (some (.deep (xD C ds) S)))(hf:um ds fl=some (.list es))(hl:es.length<1000)(h:EvD X α e fun _=>SvS X (α.set i none) rest E)
  (hN:X.N[i]?=some x:=by rfl) (hv:Vis X.env.scope x:=by first|exact Or.inl rfl|exact Or.inr (Or.inl rfl)|exact Or.inr (Or.inr rfl)) (hd:(x == ("__debug__":Str))=false:=by decide) (hcd:(x == ("__classdict__":Str))=false:=by decide)
  (hb1:attributeBase (.Name x p0) fl X.env (eval (.Name x p0) X.env)=eval (.Name x p0) X.env:=by rfl)
  (hbase:attributeBase (.Attribute (.Name x p0) fl p1) "append" X.env (eval (.Attribute (.Name x p0) fl p1) X.env)=eval (.Attribute (.Name x p0) fl p1) X.env:=by rfl) (hs:starEach [e] X.env=(false,eval e X.env)::starEach [] X.env:=by rfl)
  (hpl:((((backTo p3 (starEach [e] X.env)).all fun x=>!x.fst)&&(backToKw p3 (keywordEach [] X.env)).all fun x=>x.fst.isSome)&&decide (([e].length+([]:List Keyword).length+if ([]:List Keyword).isEmpty=true then 0 else 1)<30))=true:=by rfl)
  (hline:(p2.endLine == p3.line)=true:=by rfl) (hsw:swapsWith (.Call (.Attribute (.Attribute (.Name x p0) fl p1) "append" p2) [e] [] p3) none pos.line X.env=pure false:=by rfl):
  SvS X α (.Expr (.Call (.Attribute (.Attribute (.Name x p0) fl p1) "append" p2) [e] [] p3) pos::rest) E:=fun F σ H D m r=>by
 obtain⟨v,h1,h2,h3⟩:=m.deep i _ S hi
 obtain⟨a,dx,fs,rfl,g1,g2,g3⟩:=h2.xc_inv
 obtain⟨y,hy,av⟩:=g3.get hf
 obtain⟨l,zs,rfl,g5,g6⟩:=av.lst_inv
 obtain⟨Sl,hl0⟩:=dS g5
 refine⟨_,zJ (tM (du zF2 PySem.F.slot_list_append PySem.F.type_list_append uC (kQ c n (yI hN hv hd hcd) hb1) (zd zq zr hs) hbase hpl hline hs) hsw) ym,?_⟩
 refine⟨_,h1,a,dx,fs,.ref l,rfl,pF g1,pF g2,hy,.inl ⟨rfl,_,SqL.of hl0⟩,?_⟩
 refine h F σ H _ m fun d vd H1 q1 t1 k1 r1=>?_
 have m1:=m.kz k1 t1
 obtain⟨w1,w2,_⟩:=h3 l Sl
 have hl1:H1 l=some (.lst zs):=k1 _ _ hl0 (m.tp.nt w1)
 refine⟨l,zs,vd,rfl,rfl,hl1,by rw[g6.length];exact yM (zz2 hl),?_⟩
 exact q1 F σ _ D (m1.wrD hi Sl hl1) r
end
section
variable {P:Program}{w:World}{K:PySem.W.Frag}{mg:Str→Option Value}{base:Heap}
theorem iF {st:Stmt}{f C S:Addr}{fd:FuncData}{qual n fl a:Str}{init:Option Value}{j1:Nat}{p1 p2 p3 p4 p9 p10 p11 p12 p13 p14 p15 p16:Pos}(G:Fun K "__init__" qual st f fd)(S':zl ["self",n] ["self",n] (zb st))
  (hb:zw st=[.Expr (.Call (.Attribute (.Name "StayError" p1) "__init__" p2) [.Name "self" p3,.Constant (.str a) j1 p4] [] p9) p10,.Assign [.Attribute (.Name "self" p11) fl p12] (.Call (.Name "list" p13) [.Name n p14] [] p15) p16])
  (hg:(zb st).names.lookup ("StayError":Str)=some .globalImplicit) (hgl:(zb st).names.lookup ("list":Str)=some .globalImplicit) (hml:mg "list"=none) (hm:mg "StayError"=some (.ref S)) (xs:XS K S) (xc:XC K C S init) (hn:PySem.W.findIn K (.ref C) fl=some none)
  {pl:Env→Sem Bool} (ht:∀env:Env,eval (.Call (.Attribute (.Name "StayError" p1) "__init__" p2) [.Name "self" p3,.Constant (.str a) j1 p4] [] p9) env=(do
   let ov ←eval (.Name "StayError" p1) env
   standAt p2.atName
   let (f,first) ←holding [ov] (getMethod ov "__init__" (pl env))
   callWith p9 f first (backTo p9 (starEach [.Name "self" p3,.Constant (.str a) j1 p4] env)) (backToKw p9 (keywordEach [] env))))
  (v0:Vis (zb st) "self") (v1:Vis (zb st) n) (hd:(n == ("__debug__":Str))=false:=by decide) (hcd:(n == ("__classdict__":Str))=false:=by decide):zA P w K mg base CX0 1 f fd ["self",n] (zn3 C fl):=by
 refine G.ok S' (fun vs H Q E h=>?_) (fun cdv A outer s H vs Q E hr h=>?_)
 ·obtain⟨a,l,xs,rfl,_⟩:=h
  rfl
 ·obtain⟨a',l,ys,rfl,ha,hl,k⟩:=h
  rw[hb]
  refine⟨_,zJ (tM (cA (C:=C) (init:=init) hg hm xs xc.ok (zd (yI (i:=0) rfl v0) (zd yi zr)) (ht:=ht _))) (zv (ah (yI (i:=0) rfl v0) (wj wI hgl hml boot_list (zd (yI (i:=1) rfl v1 hd hcd) zr)) xc hn)),?_⟩
  refine⟨_,rfl,a',_,none,rfl,zu6 rfl,ha,?_⟩
  refine⟨_,rfl,l,ys,rfl,.inl (SqL.of hl),fun l2 hl2=>⟨_,rfl,a',rfl,?_,fun dx h1 h2=>k l2 dx hl2 h1 h2⟩⟩
  rw[zg (fun z=>by rw[←z,ha] at hl2;cases hl2)]
  exact ha
end
def lA (K:Frag)(C S:Addr)(init:Option Value):Bool:=wb K C S init&&findIn K (.ref C) "__setattr__" == some (some (.builtin "object.__setattr__"))&&findIn K (.ref C) "__getattribute__" == some (some (.builtin "BaseException.__getattribute__"))&&findIn K (.ref C) "__getattr__" == some none&&findIn K (.ref C) "__class__" == some (some (.builtin "object.__class__"))&&specialIn K (.builtin "object.__class__") "__get__" == some (some (.builtin "getset_descriptor.__get__"))&&takesIn K (.builtin "object.__class__")==some true
theorem XC.of {K:Frag}{C S:Addr}{init:Option Value}(h:lA K C S init=true):XC K C S init:=by
 simp only[lA,zv6,zA3] at h
 obtain⟨⟨⟨⟨⟨⟨h1,h2⟩,h3⟩,h4⟩,h5⟩,h6⟩,h7⟩:=h
 exact⟨h1,h2,h3,h4,h5,h6,h7⟩
def ff (K:Frag)(S:Addr):Bool:=readsIn K S (.type "type")&&(match findCls K (.ref S) (.type "type") "__init__" with|some (.val v)=>v == .builtin "ValueError.__init__"|_=>false)&&specialIn K (.ref S) "__getattribute__" == some (some (.builtin "type.__getattribute__"))
theorem XS.of {K:Frag}{S:Addr}(h:ff K S=true):XS K S:=by
 simp only[ff,zv6,zA3] at h
 obtain⟨⟨h1,h2⟩,h3⟩:=h
 refine⟨h1,?_,h3⟩
 split at h2
 ·rename_i v e
  rw[e,zA3.mp h2]
 ·cases h2
def dC (K:Frag)(C B:Addr):Bool:=typeIn K (.ref B)==some (.type "type")&&mroIn K B (.type "BaseException")==some true&&mroIn K C (.ref B)==some true
theorem XB.of {K:Frag}{C B:Addr}(h:dC K C B=true):XB K C B:=by
 simp only[dC,zv6,zA3] at h
 exact⟨h.1.1,h.1.2,h.2⟩
end L2
set_option maxHeartbeats 4000000
namespace K42
open PySem PySem.Spec PyProof.Rows L2
def top (i:Nat):Stmt:=PySem.Challenge.pw_stayprice_k42_had_and_cost.main.body.getD i (.Pass ⟨0,0,0,0⟩)
abbrev qw :Stmt:=top 51
abbrev dn :Stmt:=top 52
def iK :Scope:=match zw qw with
 |[.Return (some (.List (.ListComp _ _ sc _::_) _)) _]=>sc
 |_=>zb qw
section
variable {P:Program}{w:World}{K:PySem.W.Frag}{mg:Str→Option Value}{base:Heap}
theorem zf5 :zl ["_law_script"] ["_law_script"] (zb qw):=⟨rfl,rfl,rfl,by decide +kernel,rfl,by decide +kernel,by decide +kernel⟩
theorem gp :zL ["_law_script"] (zb qw) ["_law_cell"] [none] iK:=⟨rfl,by decide +kernel,by decide +kernel,by decide +kernel,by decide +kernel,rfl,by decide +kernel⟩
theorem bA {f:Addr}{fd:FuncData}(F:Fun K "_law_tape" "_law_tape" qw f fd)(T:zg4 mg):zA P w K mg base CX0 1 f fd ["_law_script"] (nY K):=by
 refine F.ok zf5 (fun vs H Q E h=>?_) (fun cdv A outer s H vs Q E hr h=>?_)
 ·obtain⟨a,ns,rfl,_⟩:=h
  rfl
 ·obtain⟨a,ns,rfl,hS,hlen,k⟩:=h
  refine⟨_,zv (zC (dO (zd
   (aM rfl gp (jj (oy ko (pv 0) jb (kl zp)))
    (fun _ _ _ _=>yg (i:=0) gp.nd rfl (Or.inl rfl))
    (fun _ _ _ _=>jq (yh zl4 (zV nL (by rfl) T.abs boot_abs (zd (pv 0) zr)) (yt fG zp zp) (zF _)))
    (fun _ _ _ _=>zV nL (by rfl) T.abs boot_abs (zd (pv 0) zr)))
   (zd (wj wI (by rfl) T.list boot_list (zd (oy ko (pv 0) jb (kl zp)) zr))
   (zd zp zr))))),?_⟩
  -- script[:63]
  refine⟨_,rfl,63,rfl,a,_,rfl,hS,fun l hl=>?_⟩
  obtain⟨ms,em,lm⟩:=iZ ns none (some 63)
  rw[em]
  refine⟨l,rfl,⟨_,SqL.of zh⟩,fun acc hacc=>?_⟩
  have nal:acc≠l:=fun z=>by rw[z,zh] at hacc;cases hacc
  have hacc':H acc=none:=by rw[zg nal] at hacc;exact hacc
  have s0:zy H (upd H l (.lst (ms.map V.int))):=fun b o e=>by rw[zg (zk e hl)];exact e
  refine iC (K:=K) (a:=l) (xs:=ms.map V.int) (fun i ys τ H2=>∃(bs:List Int) (v:Option V),ys=bs.map V.int∧bs.length≤i∧τ=[v]∧H2=upd (upd H l (.lst (ms.map V.int))) acc (.lst (bs.map V.int)))
   ⟨[],none,rfl,zt9 _,rfl,rfl⟩ ?_ ?_ ?_
  ·rintro i ys τ H2 _ ⟨bs,v,rfl,_,rfl,rfl⟩
   exact SqL.of (by rw[zg nal.symm,zh])
  ·rintro i x ys τ H2 hx ⟨bs,v,rfl,hb,rfl,rfl⟩
   have hi:i<ms.length:=by
    have:=(zt8.mp hx).1
    rwa [zt4] at this
   obtain⟨z,rfl⟩:∃z,x=V.int z:=by
    rw[zv2] at hx
    cases e:ms[i]? with
    |none=>rw[e] at hx;cases hx
    |some z=>rw[e] at hx;exact⟨z,(zw0 hx).symm⟩
   refine⟨_,rfl,z,rfl,_,_,rfl,rfl,⟨by decide,by decide,by decide⟩,_,_,rfl,rfl,_,rfl,?_⟩
   refine yz (fun _=>?_) (fun _=>?_)
   ·refine⟨_,rfl,z,rfl,zh,?_,bs++[if z<0 then -z else z],_,?_,?_,rfl,?_⟩
    ·rw[zt4];exact yM (by omega)
    ·rw[zB1];rfl
    ·rw[zu9];simp;omega
    ·rw[uq,zB1];rfl
   ·exact⟨bs,_,rfl,by omega,rfl,rfl⟩
  ·rintro ys τ H2 ⟨bs,v,rfl,hb,rfl,rfl⟩
   rw[zt4] at hb
   -- list(script[:63])
   have s1:zy H (upd (upd H l (.lst (ms.map V.int))) acc (.lst (bs.map V.int))):=fun b o e=>by rw[zg (zk e hacc')];exact s0 b o e
   refine⟨_,rfl,63,rfl,a,_,rfl,s1.seq hS,fun l2 hl2=>?_⟩
   rw[em]
   refine⟨l2,_,rfl,.inl (SqL.of zh),fun c hc=>?_⟩
   refine⟨(by show 3≤sizeLine;decide),fun t ht=>?_⟩
   have n1:l2≠acc:=fun z=>by rw[z,zh] at hl2;cases hl2
   have n2:c≠l2:=fun z=>by rw[z,zh] at hc;cases hc
   have hc2:upd (upd H l (.lst (ms.map V.int))) acc (.lst (bs.map V.int)) c=none:=by rw[zg n2] at hc;exact hc
   have n3:c≠acc:=fun z=>by rw[z,zh] at hc2;cases hc2
   have n4:t≠c:=fun z=>by rw[z,zh] at ht;cases ht
   have ht2:upd (upd (upd H l (.lst (ms.map V.int))) acc (.lst (bs.map V.int))) l2 (.lst (ms.map V.int)) t=none:=by rw[zg n4] at ht;exact ht
   have n5:t≠l2:=fun z=>by rw[z,zh] at ht2;cases ht2
   have ht3:upd (upd H l (.lst (ms.map V.int))) acc (.lst (bs.map V.int)) t=none:=by rw[zg n5] at ht2;exact ht2
   have n6:t≠acc:=fun z=>by rw[z,zh] at ht3;cases ht3
   refine k t acc c _ ⟨0,bs,ms,n3.symm,zh,?_,?_,by omega,by omega⟩ (s1.free ht3) hacc' (s1.free hc2) fun b o e=>?_
   ·rw[zg n6.symm,zg n3.symm,zg n1.symm,zh]
   ·rw[zg n4.symm,zh]
   ·have e1:=s1 b o e
    rw[zg (zk e1 ht3),zg (zk e1 hc2),zg (zk e1 hl2)]
    exact e1
theorem uO :zl ["_law_tape_here","_law_many","_law_found","_law_cell","_law_number"] ["_law_tape_here","_law_many"] (zb dn):=⟨rfl,rfl,rfl,by decide +kernel,rfl,by decide +kernel,by decide +kernel⟩
theorem aH {f:Addr}{fd:FuncData}(F:Fun K "_law_draw" "_law_draw" dn f fd)(T:zg4 mg):zA P w K mg base CX0 1 f fd ["_law_tape_here","_law_many"] eI:=by
 refine F.ok uO (fun vs H Q E h=>?_) (fun cdv A outer s H vs Q E hr h=>?_)
 ·obtain⟨t,b,c,many,rfl,_⟩:=h
  rfl
 ·obtain⟨t,b,c,many,rfl,⟨n,bs,cs,nbc,ht,hb,hc,lb,lc⟩,hm0,hm1,k⟩:=h
  have ntb:t≠b:=za9 ht hb (jo bs)
  have ntc:t≠c:=za9 ht hc (jo cs)
  have hlog:many.natAbs.log2<9000:=log2_small hm0 hm1
  -- tape[2]=tape[2]+1
  refine zW (fun σ H1=>σ=[some (.ref t),some (.int many),none,none,none]∧H1=upd H t (.lst [.ref b,.ref c,.int (n+1)]))
   ⟨_,mH (yt uD (zP zS (pv 0) zp (fun _ _=>rfl)) zp) (mM (pv 0) zp set_list),?_⟩ ?_
  ·exact⟨_,rfl,t,_,2,_,rfl,rfl,SqL.of ht,rfl,_,_,rfl,rfl,_,rfl,t,_,2,2,rfl,rfl,ht,rfl,rfl,rfl⟩
  rintro σ H1 ⟨rfl,hH1⟩
  have ht1:H1 t=some (.lst [.ref b,.ref c,.int (n+1)]):=by rw[hH1];exact zh
  have hb1:H1 b=some (.lst (bs.map V.int)):=by rw[hH1,zg ntb.symm];exact hb
  have hc1:H1 c=some (.lst (cs.map V.int)):=by rw[hH1,zg ntc.symm];exact hc
  have off1:pq t b H H1:=fun a h1 h2=>by rw[hH1,zg h1]
  clear hH1
  -- while len(tape[0]) > 0 and tape[0][0]==0:tape[0].pop(0)
  refine zW (fun σ H2=>∃bs2:List Int,bs2.length≤63∧σ=[some (.ref t),some (.int many),none,none,none]∧H2 t=some (.lst [.ref b,.ref c,.int (n+1)])∧H2 b=some (.lst (bs2.map V.int))∧H2 c=some (.lst (cs.map V.int))∧pq t b H H2)
   ⟨_,dF zz1 (dg (yh kj (zV yr (by rfl) T.len zB8 (zd (zP zS (pv 0) zp (fun _ _=>rfl)) zr)) zp (zF _))
     (jr (yh wN (zP zS (zP zS (pv 0) zp (fun _ _=>rfl)) zp (fun _ _=>rfl)) zp (zF _)))).pt
    (zv (tM (du zF2 PySem.F.slot_list_pop PySem.F.type_list_pop dP (zP zS (pv 0) zp (fun _ _=>rfl)) (zd zp zr)))),?_⟩ ?_
  ·refine⟨fun m σ H2=>∃bs2:List Int,m=bs2.length∧bs2.length≤63∧σ=[some (.ref t),some (.int many),none,none,none]∧H2 t=some (.lst [.ref b,.ref c,.int (n+1)])∧H2 b=some (.lst (bs2.map V.int))∧H2 c=some (.lst (cs.map V.int))∧pq t b H H2,
    ⟨_,bs,rfl,lb,rfl,ht1,hb1,hc1,off1⟩,?_⟩
   rintro m σ H2 ⟨bs2,rfl,lb2,rfl,ht2,hb2,hc2,off2⟩
   refine⟨_,rfl,t,_,0,_,rfl,rfl,SqL.of ht2,rfl,b,_,rfl,.inl (SqL.of hb2),_,_,rfl,rfl,_,rfl,?_⟩
   refine yz (fun _=>?_) (fun _=>?_)
   ·cases bs2 with
    |nil=>rename_i z;simp at z
    |cons z r=>
     refine⟨_,rfl,t,_,0,_,rfl,rfl,SqL.of ht2,rfl,b,_,0,_,rfl,rfl,SqL.of hb2,at0,rfl,_,rfl,?_⟩
     refine yz (fun _=>?_) (fun _=>?_)
     ·refine⟨_,fun σ' H' h'=>h',_,rfl,t,_,0,_,rfl,rfl,SqL.of ht2,rfl,.inl ⟨rfl,_,SqL.of hb2⟩,b,_,0,0,_,rfl,rfl,hb2,by decide,by decide,zq9,rfl,r.length,?_,r,rfl,?_,rfl,?_,zh,?_,?_⟩
      ·simp
      ·simp at lb2;omega
      ·rw[zg ntb];exact ht2
      ·rw[zg nbc.symm];exact hc2
      ·exact off2.trans fun a h1 h2=>by rw[zg h2]
     ·exact⟨_,lb2,rfl,ht2,hb2,hc2,off2⟩
   ·exact⟨_,lb2,rfl,ht2,hb2,hc2,off2⟩
  rintro σ H2 ⟨bs2,lb2,rfl,ht2,hb2,hc2,off2⟩
  -- if len(tape[0]) > 0:..
  refine zW (fun σ H3=>σ=[some (.ref t),some (.int many),none,none,none]∧H2=H3)
   ⟨_,xK (yh kj (zV yr (by rfl) T.len zB8 (zd (zP zS (pv 0) zp (fun _ _=>rfl)) zr)) zp (zF _))
    (zJ (wC (i:=2) uO.nd rfl (Or.inl rfl) (yt vV (zP zS (zP zS (pv 0) zp (fun _ _=>rfl)) zp (fun _ _=>rfl)) (pv 1)))
    (zJ (mH (yt rB (zP zS (zP zS (pv 0) zp (fun _ _=>rfl)) zp (fun _ _=>rfl)) (pv 1)) (mM (zP zS (pv 0) zp (fun _ _=>rfl)) zp set_list))
    (zv (zC (pv 2))))) yy,?_⟩ ?_
  ·refine⟨_,rfl,t,_,0,_,rfl,rfl,SqL.of ht2,rfl,b,_,rfl,.inl (SqL.of hb2),_,_,rfl,rfl,_,rfl,?_⟩
   refine yz (fun _=>?_) (fun _=>?_)
   ·cases bs2 with
    |nil=>rename_i z;simp at z
    |cons z r=>
     refine⟨_,rfl,t,_,0,_,rfl,rfl,SqL.of ht2,rfl,b,_,0,_,rfl,rfl,SqL.of hb2,at0,_,rfl,_,_,rfl,rfl,hm0,?_⟩
     refine⟨_,rfl,t,_,0,_,rfl,rfl,SqL.of ht2,rfl,b,_,0,_,rfl,rfl,SqL.of hb2,at0,_,rfl,_,_,rfl,rfl,⟨hm0,hlog⟩,?_⟩
     refine⟨_,rfl,t,_,0,_,rfl,rfl,SqL.of ht2,rfl,b,_,0,0,rfl,rfl,hb2,ix0,_,rfl,?_⟩
     refine k _ _ (zE9 _ (Int.ne_of_gt hm0)) (zC7 _ hm0) ⟨n+1,(z / many)::r,cs,nbc,?_,zh,?_,?_,lc⟩ ?_
     ·rw[zg ntb];exact ht2
     ·rw[zg nbc.symm];exact hc2
     ·simpa using lb2
     ·exact off2.trans fun a h1 h2=>by rw[zg h2]
   ·exact⟨rfl,rfl⟩
  rintro σ H3 ⟨rfl,rfl⟩
  -- cell=5;if len(tape[1]) > 0:..
  refine zW (fun σ H3=>σ=[some (.ref t),some (.int many),none,some (.int 5),none]∧H2=H3) ⟨_,wC (i:=3) uO.nd rfl (Or.inl rfl) zp,rfl,rfl⟩ ?_
  rintro σ H3 ⟨rfl,rfl⟩
  refine zW (fun σ H3=>∃z:Int,σ=[some (.ref t),some (.int many),none,some (.int z),none]∧H2=H3)
   ⟨_,xK (yh kj (zV yr (by rfl) T.len zB8 (zd (zP zS (pv 0) zp (fun _ _=>rfl)) zr)) zp (zF _))
    (zv (wC (i:=3) uO.nd rfl (Or.inl rfl) (zP zS (zP zS (pv 0) zp (fun _ _=>rfl)) (yt vV (zP zS (pv 0) zp (fun _ _=>rfl)) (zV yr (by rfl) T.len zB8 (zd (zP zS (pv 0) zp (fun _ _=>rfl)) zr))) (fun _ _=>rfl)))) yy,?_⟩ ?_
  ·refine⟨_,rfl,t,_,1,_,rfl,rfl,SqL.of ht2,rfl,c,_,rfl,.inl (SqL.of hc2),_,_,rfl,rfl,_,rfl,?_⟩
   refine yz (fun hpos=>?_) (fun _=>?_)
   ·have hpos':0<cs.length:=by simpa using hpos
    have hp:(0:Int)<((cs.map V.int).length:Int):=by rw[zt4];omega
    have h1:=zE9 (n+1) (Int.ne_of_gt hp)
    have h2:=zC7 (n+1) hp
    obtain⟨j,hj⟩:=zC2 h1
    have hjl:j<cs.length:=by rw[hj,zt4] at h2;omega
    refine⟨_,rfl,t,_,1,_,rfl,rfl,SqL.of ht2,rfl,_,rfl,t,_,2,_,rfl,rfl,SqL.of ht2,rfl,_,rfl,t,_,1,_,rfl,rfl,SqL.of ht2,rfl,c,_,rfl,.inl (SqL.of hc2),_,_,rfl,rfl,hp,c,_,_,V.int cs[j],rfl,rfl,SqL.of hc2,?_,cs[j],rfl,rfl⟩
    rw[hj]
    exact wo (by rw[zv2,zt5 hjl];rfl)
   ·exact⟨5,rfl,rfl⟩
  rintro σ H3 ⟨z,rfl,rfl⟩
  -- the numbers
  refine zW (fun σ H3=>∃y:Int,(0≤y∧y<2147483647)∧σ=[some (.ref t),some (.int many),none,some (.int z),some (.int y)]∧H2=H3)
   ⟨_,wC (i:=4) uO.nd rfl (Or.inl rfl) (yt vV (yt tW (yt uD (yt uD (yt vV (pv 3) zp) (yt tW zp (zP zS (pv 0) zp (fun _ _=>rfl)))) zp) zp) zp),?_⟩ ?_
  ·exact⟨_,rfl,_,_,rfl,rfl,(by show (0:Int)<999983;decide),_,rfl,t,_,2,_,rfl,rfl,SqL.of ht2,rfl,_,_,rfl,rfl,.inl ⟨by decide,by decide⟩,_,_,rfl,rfl,_,_,rfl,rfl,_,_,rfl,rfl,.inr ⟨by decide,by decide⟩,_,_,rfl,rfl,(by show (0:Int)<2147483647;decide),
    _,⟨zE9 _ (by decide),zC7 _ (by decide)⟩,rfl,rfl⟩
  rintro σ H3 ⟨y,⟨hy0,hy1⟩,rfl,rfl⟩
  refine zW (fun σ H3=>∃y:Int,(0≤y∧y<2147483647)∧σ=[some (.ref t),some (.int many),none,some (.int z),some (.int y)]∧H2=H3)
   ⟨_,wC (i:=4) uO.nd rfl (Or.inl rfl) (yt vV (yt uD (yt uD (yt tW (pv 4) (pv 4)) (yt tW zp (zP zS (pv 0) zp (fun _ _=>rfl)))) zp) zp),?_⟩ ?_
  ·refine⟨_,rfl,_,rfl,_,_,rfl,rfl,.inl ⟨by omega,by omega⟩,_,rfl,t,_,2,_,rfl,rfl,SqL.of ht2,rfl,_,_,rfl,rfl,.inl ⟨by decide,by decide⟩,_,_,rfl,rfl,_,_,rfl,rfl,_,_,rfl,rfl,(by show (0:Int)<2147483629;decide),
    _,⟨zE9 _ (by decide),Int.lt_trans (zC7 _ (by decide)) (by decide)⟩,rfl,rfl⟩
  rintro σ H3 ⟨y2,⟨hy0,hy1⟩,rfl,rfl⟩
  refine⟨_,zv (zC (yt vV (yt rB (yt vV (yt tW (yt rB (pv 4) zp) zp) zp) zp) (pv 1))),?_⟩
  refine⟨_,rfl,_,_,rfl,rfl,⟨by decide,by decide +kernel⟩,_,_,rfl,rfl,.inr ⟨by decide,by decide⟩,_,_,rfl,rfl,(by show (0:Int)<2147483587;decide),_,_,rfl,rfl,⟨by decide,by decide +kernel⟩,_,rfl,_,_,rfl,rfl,hm0,?_⟩
  exact k _ _ (zE9 _ (Int.ne_of_gt hm0)) (zC7 _ hm0) ⟨n+1,bs2,cs,nbc,ht2,hb2,hc2,lb2,lc⟩ off2
end
abbrev qK :Stmt:=top 3
abbrev ph :Stmt:=top 4
abbrev eV :Stmt:=top 5
abbrev ze3 :Stmt:=top 6
abbrev gL :Stmt:=top 7
abbrev sZ :Stmt:=top 8
structure oE (mg:Str→Option Value)(fW fI fP fD fPD:Addr):Prop where
 isi:mg "isinstance"=none
 int:mg "int"=none
 bool:mg "bool"=none
 tuple:mg "tuple"=none
 len:mg "len"=none
 last:∃t,mg "LAST_DAY"=some (.int 1000000 t)
 most:∃t,mg "MOST_NIGHTS"=some (.int 14 t)
 whole:mg "is_whole"=some (.ref fW)
 within:mg "is_whole_within"=some (.ref fI)
 pair:mg "is_pair"=some (.ref fP)
 day:mg "is_day"=some (.ref fD)
 days:mg "is_pair_of_days"=some (.ref fPD)
section
variable {P:Program}{w:World}{K:PySem.W.Frag}{mg:Str→Option Value}{base:Heap}{fW fI fP fD fPD:Addr}
theorem aC :zl ["thing"] ["thing"] (zb qK):=⟨rfl,rfl,rfl,by decide +kernel,rfl,by decide +kernel,by decide +kernel⟩
theorem cx {f:Addr}{fd:FuncData}(F:Fun K "is_whole" "is_whole" qK f fd)(T:oE mg fW fI fP fD fPD):zA P w K mg base CX0 1 f fd ["thing"] (yL mQ):=by
 refine F.ok aC (fun vs H Q E h=>?_) (fun cdv A outer s H vs Q E hr h=>?_)
 ·obtain⟨x,d,rfl,_⟩:=h
  rfl
 ·obtain⟨x,d,rfl,hd,q⟩:=h
  refine⟨_,zv (zC (xm (zV xu (by rfl) T.isi zA1 (zd (pv 0) (zd (wz (v:=.ty "int") (by rfl) T.int boot_int rfl) zr)))
   (xW (zd7 (zV xu (by rfl) T.isi zA1 (zd (pv 0) (zd (wz (v:=.ty "bool") (by rfl) T.bool boot_bool rfl) zr))))))),?_⟩
  rw[jT] at q
  refine⟨_,rfl,x,"int",d,_,rfl,hd,cP d,_,rfl,?_⟩
  refine yz (fun h=>?_) (fun h=>?_)
  ·rw[h,zz5] at q
   exact⟨_,rfl,x,"bool",d,_,rfl,hd,tU d,_,rfl,q⟩
  ·rw[zw5.mpr h,zz6] at q
   exact q
theorem hU :zl ["thing","lowest","highest"] ["thing","lowest","highest"] (zb ph):=⟨rfl,rfl,rfl,by decide +kernel,rfl,by decide +kernel,by decide +kernel⟩
theorem jD {f:Addr}{fd fdW:FuncData}(F:Fun K "is_whole_within" "is_whole_within" ph f fd)(T:oE mg fW fI fP fD fPD)(FW:Fun K "is_whole" "is_whole" qK fW fdW)(bW:Binds K fdW ["thing"] []):
  zA P w K mg base CX0 2 f fd ["thing","lowest","highest"] vb:=by
 have GW:zA P w K mg base CX0 1 fW fdW ["thing"] (yL mQ):=cx FW T
 refine F.ok hU (fun vs H Q E h=>?_) (fun cdv A outer s H vs Q E hr h=>?_)
 ·obtain⟨x,d,lo,hi,rfl,_⟩:=h
  rfl
 ·obtain⟨x,d,lo,hi,rfl,hd,q⟩:=h
  refine⟨_,zv (zC (xm (zT GW hr (by rfl) T.whole FW.kp bW .nil yb (zd (pv 0) zr)) (xW (oR oU oU (pv 1) (pv 0) (pv 2))))),?_⟩
  refine⟨_,rfl,x,d,rfl,hd,_,rfl,?_⟩
  cases hd with
  |int i=>
   have q':Q (.bl (decide (lo≤i)&&decide (i≤hi))) H:=q
   refine rj ⟨_,rfl,_,rfl,_,_,rfl,rfl,_,rfl,?_⟩
   refine yz (fun h=>?_) (fun h=>?_)
   ·rw[h,zz5] at q'
    exact⟨_,rfl,_,_,rfl,rfl,q'⟩
   ·rw[zw5.mpr h,zz6] at q'
    exact q'
  |_=>exact rG q
theorem zb9 :zl ["thing"] ["thing"] (zb eV):=⟨rfl,rfl,rfl,by decide +kernel,rfl,by decide +kernel,by decide +kernel⟩
theorem cY {f:Addr}{fd:FuncData}(F:Fun K "is_pair" "is_pair" eV f fd)(T:oE mg fW fI fP fD fPD):zA P w K mg base CX0 1 f fd ["thing"] (yL pairD):=by
 refine F.ok zb9 (fun vs H Q E h=>?_) (fun cdv A outer s H vs Q E hr h=>?_)
 ·obtain⟨x,d,rfl,_⟩:=h
  rfl
 ·obtain⟨x,d,rfl,hd,q⟩:=h
  refine⟨_,zv (zC (xm (zV xu (by rfl) T.isi zA1 (zd (pv 0) (zd (wz (v:=.ty "tuple") (by rfl) T.tuple boot_tuple rfl) zr)))
   (xW (xR wN (zV yr (by rfl) T.len zB8 (zd (pv 0) zr)) zp (zF _))))),?_⟩
  refine⟨_,rfl,x,"tuple",d,_,rfl,hd,qv d,_,rfl,?_⟩
  cases hd with
  |@tup a xs ds e hs=>
   refine rj ⟨_,rfl,a,_,rfl,.inr (SqT.of e),rfl,?_⟩
   rw[ba,hs.length]
   exact q
  |_=>exact rG q
theorem zn5 :zl ["thing"] ["thing"] (zb ze3):=⟨rfl,rfl,rfl,by decide +kernel,rfl,by decide +kernel,by decide +kernel⟩
theorem zi1 {f:Addr}{fd fdI:FuncData}(F:Fun K "is_day" "is_day" ze3 f fd)(T:oE mg fW fI fP fD fPD)(GI:zA P w K mg base CX0 2 fI fdI ["thing","lowest","highest"] vb)(kI:PySem.W.keepIn K (.ref fI)=true)(bI:Binds K fdI ["thing","lowest","highest"] []):
  zA P w K mg base CX0 3 f fd ["thing"] (yL uo):=by
 obtain⟨tl,hl⟩:=T.last
 refine F.ok zn5 (fun vs H Q E h=>?_) (fun cdv A outer s H vs Q E hr h=>?_)
 ·obtain⟨x,d,rfl,_⟩:=h
  rfl
 ·obtain⟨x,d,rfl,hd,q⟩:=h
  refine⟨_,zv (zC (zT GI hr (by rfl) T.within kI bI .nil yb (zd (pv 0) (zd zp (zd (vv (v:=.int 1000000) (by rfl) hl ⟨tl,rfl⟩) zr))))),?_⟩
  exact⟨_,rfl,x,d,_,_,rfl,hd,q⟩
theorem zc1 :zl ["thing"] ["thing"] (zb gL):=⟨rfl,rfl,rfl,by decide +kernel,rfl,by decide +kernel,by decide +kernel⟩
theorem cU {f:Addr}{fd fdP fdD:FuncData}(F:Fun K "is_pair_of_days" "is_pair_of_days" gL f fd)(T:oE mg fW fI fP fD fPD)(GP:zA P w K mg base CX0 1 fP fdP ["thing"] (yL pairD))(kP:PySem.W.keepIn K (.ref fP)=true)(bP:Binds K fdP ["thing"] [])
  (GD:zA P w K mg base CX0 3 fD fdD ["thing"] (yL uo)) (kD:PySem.W.keepIn K (.ref fD)=true) (bD:Binds K fdD ["thing"] []):zA P w K mg base CX0 4 f fd ["thing"] (yL sY):=by
 refine F.ok zc1 (fun vs H Q E h=>?_) (fun cdv A outer s H vs Q E hr h=>?_)
 ·obtain⟨x,d,rfl,_⟩:=h
  rfl
 ·obtain⟨x,d,rfl,hd,q⟩:=h
  have hr1:zK 1 _:=hr.mono (by decide)
  refine⟨_,zv (zC (xm (zT GP hr1 (by rfl) T.pair kP bP .nil yb (zd (pv 0) zr))
   (xm (zT GD hr (by rfl) T.day kD bD .nil yb (zd (zP yC (pv 0) zp (fun _ _=>rfl)) zr))
   (xW (zT GD hr (by rfl) T.day kD bD .nil yb (zd (zP yC (pv 0) zp (fun _ _=>rfl)) zr)))))),?_⟩
  refine⟨_,rfl,x,d,rfl,hd,_,rfl,?_⟩
  refine yz (fun h=>?_) (fun h=>?_)
  ·obtain⟨a,b,rfl⟩:=tq h
   cases hd with
   |tup e hs=>
    cases hs with
    |cons ha hs=>
     cases hs with
     |cons hb hs=>
      cases hs
      have q':Q (.bl (uo a&&uo b)) H:=q
      refine⟨_,rfl,_,_,0,_,rfl,rfl,SqT.of e,rfl,_,_,rfl,ha,_,rfl,?_⟩
      refine yz (fun h=>?_) (fun h=>?_)
      ·rw[h,zz5] at q'
       exact⟨_,rfl,_,_,1,_,rfl,rfl,SqT.of e,rfl,_,_,rfl,hb,q'⟩
      ·rw[zw5.mpr h,zz6] at q'
       exact q'
  ·have e:sY d=false:=by
    unfold sY
    split
    ·exact absurd rfl h
    ·rfl
   rw[e] at q
   exact q
theorem jJ :zl ["thing"] ["thing"] (zb sZ):=⟨rfl,rfl,rfl,by decide +kernel,rfl,by decide +kernel,by decide +kernel⟩
theorem lQ {f:Addr}{fd fdP:FuncData}(F:Fun K "is_stretch" "is_stretch" sZ f fd)(T:oE mg fW fI fP fD fPD)(G:zA P w K mg base CX0 4 fPD fdP ["thing"] (yL sY))(kP:PySem.W.keepIn K (.ref fPD)=true)(bP:Binds K fdP ["thing"] []):
  zA P w K mg base CX0 5 f fd ["thing"] (yL yp):=by
 refine F.ok jJ (fun vs H Q E h=>?_) (fun cdv A outer s H vs Q E hr h=>?_)
 ·obtain⟨x,d,rfl,_⟩:=h
  rfl
 ·obtain⟨x,d,rfl,hd,q⟩:=h
  refine⟨_,zv (zC (xm (zT G hr (by rfl) T.days kP bP .nil yb (zd (pv 0) zr))
   (xW (xR oU (zP yC (pv 0) zp (fun _ _=>rfl)) (zP yC (pv 0) zp (fun _ _=>rfl)) (zF _))))),?_⟩
  refine⟨_,rfl,x,d,rfl,hd,_,rfl,?_⟩
  refine yz (fun h=>?_) (fun h=>?_)
  ·obtain⟨a,b,rfl,ef⟩:=nX h
   unfold yp at q
   rw[ef] at q
   have q':Q (.bl (decide (0≤b-a))) H:=q
   have eq1:decide (0≤b-a)=decide (a≤b):=by
    rw[decide_eq_decide]
    omega
   rw[eq1] at q'
   cases hd with
   |tup e hs=>
    cases hs with
    |cons ha hs=>
     cases ha
     cases hs with
     |cons hb hs=>
      cases hb
      cases hs
      exact⟨_,rfl,_,_,0,_,rfl,rfl,SqT.of e,rfl,_,rfl,_,_,1,_,rfl,rfl,SqT.of e,rfl,_,_,rfl,rfl,q'⟩
  ·rw[sq] at h
   unfold yp at q
   cases ef:rK d with
   |some k=>rw[ef] at h;exact absurd rfl h
   |none=>
    rw[ef] at q
    exact q
end
abbrev kr :Stmt:=inClass (top 31) 0
abbrev eN :Stmt:=inClass (top 31) 2
abbrev kd :Stmt:=inClass (top 31) 3
abbrev qV :Stmt:=inClass (top 32) 0
abbrev lL :Stmt:=inClass (top 33) 0
abbrev zc5 :Stmt:=inClass (top 34) 0
abbrev qF :Stmt:=inClass (top 35) 0
abbrev lX :Stmt:=inClass (top 36) 0
abbrev lj :Stmt:=inClass (top 37) 0
abbrev gc :Stmt:=inClass (top 38) 0
abbrev lZ :Stmt:=top 40
abbrev pH :Stmt:=top 41
abbrev lH :Stmt:=top 42
abbrev pC :Stmt:=top 43
abbrev gR :Stmt:=top 44
abbrev qU :Stmt:=top 45
structure mK (mg:Str→Option Value)(fW fI fP fD fPD fS fC fDl fWo fR fM:Addr)(cs:Cs):Prop where
 d:oE mg fW fI fP fD fPD
 coinsMost:∃t,mg "MOST_COINS"=some (.int 1000000000000 t)
 stretch:mg "is_stretch"=some (.ref fS)
 coins:mg "is_coins"=some (.ref fC)
 deal:mg "is_deal"=some (.ref fDl)
 worth:mg "is_worth"=some (.ref fWo)
 rule:mg "is_rule"=some (.ref fR)
 made:mg "made"=some (.ref fM)
 cPrice:mg "Price"=some (.ref cs.price)
 cCome:mg "Come"=some (.ref cs.come)
 cGo:mg "Go"=some (.ref cs.go)
 cLeast:mg "Least"=some (.ref cs.least)
 cMost:mg "Most"=some (.ref cs.most)
 cDeal:mg "Deal"=some (.ref cs.deal)
 cFee:mg "Fee"=some (.ref cs.fee)
section
variable {P:Program}{w:World}{K:PySem.W.Frag}{mg:Str→Option Value}{base:Heap}{fW fI fP fD fPD fS fC fDl fWo fR fM:Addr}{cs:Cs}
theorem ze0 :zl ["self","first","last","worth"] ["self","first","last","worth"] (zb kr):=⟨rfl,rfl,rfl,by decide +kernel,rfl,by decide +kernel,by decide +kernel⟩
theorem wu {f C fT fE fWd:Addr}{fd:FuncData}(F:Fun K "__init__" "Rule.__init__" kr f fd)(R:xY K C f fT fE fWd):zA P w K mg base CX0 1 f fd ["self","first","last","worth"] (zc8 C):=by
 refine F.ok ze0 (fun vs H Q E h=>?_) (fun cdv A outer s H vs Q E hr h=>?_)
 ·obtain⟨p,dx,x,y,z,rfl,_⟩:=h
  rfl
 ·obtain⟨p,dx,x,y,z,rfl,hp,q⟩:=h
  refine⟨_,zJ (pf (pv 0) (pv 1) rfl) (zJ (pf (pv 0) (pv 2) rfl) (zv (pf (pv 0) (pv 3) rfl))),?_⟩
  refine⟨_,rfl,_,rfl,p,C,dx,[],rfl,hp,R.cl,R.nf,(by show 0<1000;decide),?_⟩
  refine⟨_,rfl,_,rfl,p,C,dx,_,rfl,zh,R.cl,R.nl,(by show 1<1000;decide),?_⟩
  refine⟨_,rfl,_,rfl,p,C,dx,xH "last" y (xH "first" x []),rfl,zh,R.cl,R.nw,?_,?_⟩
  ·show (if ("first":Str)="last" then _ else _:List (Str×V)).length<1000
   rw[if_neg (fun e=>dA e.symm)]
   show 2<1000
   decide
  ·rw[uq,uq]
   exact q
theorem dQ :zl ["self"] ["self"] (zb qV):=⟨rfl,rfl,rfl,by decide +kernel,rfl,by decide +kernel,by decide +kernel⟩
theorem cZ :zl ["self"] ["self"] (zb lL):=⟨rfl,rfl,rfl,by decide +kernel,rfl,by decide +kernel,by decide +kernel⟩
theorem zn2 :zl ["self"] ["self"] (zb zc5):=⟨rfl,rfl,rfl,by decide +kernel,rfl,by decide +kernel,by decide +kernel⟩
theorem eG :zl ["self"] ["self"] (zb qF):=⟨rfl,rfl,rfl,by decide +kernel,rfl,by decide +kernel,by decide +kernel⟩
theorem bz :zl ["self"] ["self"] (zb lX):=⟨rfl,rfl,rfl,by decide +kernel,rfl,by decide +kernel,by decide +kernel⟩
theorem bt :zl ["self"] ["self"] (zb lj):=⟨rfl,rfl,rfl,by decide +kernel,rfl,by decide +kernel,by decide +kernel⟩
theorem zc7 :zl ["self"] ["self"] (zb gc):=⟨rfl,rfl,rfl,by decide +kernel,rfl,by decide +kernel,by decide +kernel⟩
theorem qk {f:Addr}{fd:FuncData}(F:Fun K "word" "Price.word" qV f fd):zA P w K mg base CX0 1 f fd ["self"] (wG "price"):=by
 refine F.ok dQ (fun vs H Q E h=>?_) (fun cdv A outer s H vs Q E hr h=>?_)
 ·obtain⟨p,rfl,_⟩:=h;rfl
 ·obtain⟨p,rfl,q⟩:=h;exact⟨_,zv (zC yi),q⟩
theorem ng {f:Addr}{fd:FuncData}(F:Fun K "word" "Come.word" lL f fd):zA P w K mg base CX0 1 f fd ["self"] (wG "come"):=by
 refine F.ok cZ (fun vs H Q E h=>?_) (fun cdv A outer s H vs Q E hr h=>?_)
 ·obtain⟨p,rfl,_⟩:=h;rfl
 ·obtain⟨p,rfl,q⟩:=h;exact⟨_,zv (zC yi),q⟩
theorem gG {f:Addr}{fd:FuncData}(F:Fun K "word" "Go.word" zc5 f fd):zA P w K mg base CX0 1 f fd ["self"] (wG "go"):=by
 refine F.ok zn2 (fun vs H Q E h=>?_) (fun cdv A outer s H vs Q E hr h=>?_)
 ·obtain⟨p,rfl,_⟩:=h;rfl
 ·obtain⟨p,rfl,q⟩:=h;exact⟨_,zv (zC yi),q⟩
theorem qf {f:Addr}{fd:FuncData}(F:Fun K "word" "Least.word" qF f fd):zA P w K mg base CX0 1 f fd ["self"] (wG "least"):=by
 refine F.ok eG (fun vs H Q E h=>?_) (fun cdv A outer s H vs Q E hr h=>?_)
 ·obtain⟨p,rfl,_⟩:=h;rfl
 ·obtain⟨p,rfl,q⟩:=h;exact⟨_,zv (zC yi),q⟩
theorem oQ {f:Addr}{fd:FuncData}(F:Fun K "word" "Most.word" lX f fd):zA P w K mg base CX0 1 f fd ["self"] (wG "most"):=by
 refine F.ok bz (fun vs H Q E h=>?_) (fun cdv A outer s H vs Q E hr h=>?_)
 ·obtain⟨p,rfl,_⟩:=h;rfl
 ·obtain⟨p,rfl,q⟩:=h;exact⟨_,zv (zC yi),q⟩
theorem nv {f:Addr}{fd:FuncData}(F:Fun K "word" "Deal.word" lj f fd):zA P w K mg base CX0 1 f fd ["self"] (wG "deal"):=by
 refine F.ok bt (fun vs H Q E h=>?_) (fun cdv A outer s H vs Q E hr h=>?_)
 ·obtain⟨p,rfl,_⟩:=h;rfl
 ·obtain⟨p,rfl,q⟩:=h;exact⟨_,zv (zC yi),q⟩
theorem jd {f:Addr}{fd:FuncData}(F:Fun K "word" "Fee.word" gc f fd):zA P w K mg base CX0 1 f fd ["self"] (wG "fee"):=by
 refine F.ok zc7 (fun vs H Q E h=>?_) (fun cdv A outer s H vs Q E hr h=>?_)
 ·obtain⟨p,rfl,_⟩:=h;rfl
 ·obtain⟨p,rfl,q⟩:=h;exact⟨_,zv (zC yi),q⟩
theorem zg2 :zl ["self"] ["self"] (zb eN):=⟨rfl,rfl,rfl,by decide +kernel,rfl,by decide +kernel,by decide +kernel⟩
theorem bj (x y z:V):(wV x y z).lookup ("word":Str)=none:=cN x y z (by decide +kernel) (by decide +kernel) (by decide +kernel)
theorem wD {f C fIn fE fWd:Addr}{fd fdW:FuncData}{wd:Str}(F:Fun K "told" "Rule.told" eN f fd)(R:xY K C fIn f fE fWd)(GW:zA P w K mg base CX0 1 fWd fdW ["self"] (wG wd))(bW:Binds K fdW ["self"] []):
  zA P w K mg base CX0 2 f fd ["self"] (fu C wd):=by
 refine F.ok zg2 (fun vs H Q E h=>?_) (fun cdv A outer s H vs Q E hr h=>?_)
 ·obtain⟨p,dx,x,y,z,rfl,_⟩:=h
  rfl
 ·obtain⟨p,dx,x,y,z,rfl,hp,q⟩:=h
  refine⟨_,zv (zC (pd (zd (oi (pv 0) R.cl R.word GW hr bW .nil yb) (zd (uN (pv 0) rfl) (zd (uN (pv 0) rfl) (zd (uN (pv 0) rfl) zr)))))),?_⟩
  refine⟨_,rfl,p,dx,_,rfl,hp,bj _ _ _,p,rfl,?_⟩
  exact⟨_,rfl,p,C,dx,_,_,rfl,hp,R.cl,R.nf,sk _ _ _,_,rfl,p,C,dx,_,_,rfl,hp,R.cl,R.nl,qA _ _ _,_,rfl,p,C,dx,_,_,rfl,hp,R.cl,R.nw,lR _ _ _,(by show 4≤sizeLine;decide),q⟩
theorem bo :zl ["self","day"] ["self","day"] (zb kd):=⟨rfl,rfl,rfl,by decide +kernel,rfl,by decide +kernel,by decide +kernel⟩
theorem xA {f C fIn fT fWd:Addr}{fd:FuncData}(F:Fun K "tells" "Rule.tells" kd f fd)(R:xY K C fIn fT f fWd):zA P w K mg base CX0 1 f fd ["self","day"] (ky C):=by
 refine F.ok bo (fun vs H Q E h=>?_) (fun cdv A outer s H vs Q E hr h=>?_)
 ·obtain⟨p,dx,a,b,day,z,rfl,_⟩:=h
  rfl
 ·obtain⟨p,dx,a,b,day,z,rfl,hp,q⟩:=h
  refine⟨_,zv (zC (oR oU oU (uN (pv 0) rfl) (pv 1) (uN (pv 0) rfl))),?_⟩
  refine⟨_,rfl,p,C,dx,_,_,rfl,hp,R.cl,R.nf,sk _ _ _,_,rfl,_,_,rfl,rfl,_,rfl,?_⟩
  refine yz (fun h=>?_) (fun h=>?_)
  ·rw[h,zz5] at q
   exact⟨_,rfl,p,C,dx,_,_,rfl,hp,R.cl,R.nl,qA _ _ _,_,_,rfl,rfl,q⟩
  ·rw[zw5.mpr h,zz6] at q
   exact q
theorem aa :zl ["thing"] ["thing"] (zb lZ):=⟨rfl,rfl,rfl,by decide +kernel,rfl,by decide +kernel,by decide +kernel⟩
theorem eZ {f:Addr}{fd fdI:FuncData}(F:Fun K "is_coins" "is_coins" lZ f fd)(T:mK mg fW fI fP fD fPD fS fC fDl fWo fR fM cs)(GI:zA P w K mg base CX0 2 fI fdI ["thing","lowest","highest"] vb)(kI:PySem.W.keepIn K (.ref fI)=true)(bI:Binds K fdI ["thing","lowest","highest"] []):
  zA P w K mg base CX0 3 f fd ["thing"] (yL vm):=by
 obtain⟨tl,hl⟩:=T.coinsMost
 refine F.ok aa (fun vs H Q E h=>?_) (fun cdv A outer s H vs Q E hr h=>?_)
 ·obtain⟨x,d,rfl,_⟩:=h
  rfl
 ·obtain⟨x,d,rfl,hd,q⟩:=h
  refine⟨_,zv (zC (zT GI hr (by rfl) T.d.within kI bI .nil yb (zd (pv 0) (zd zp (zd (vv (v:=.int 1000000000000) (by rfl) hl ⟨tl,rfl⟩) zr))))),?_⟩
  exact⟨_,rfl,x,d,_,_,rfl,hd,q⟩
theorem dZ :zl ["thing"] ["thing"] (zb pH):=⟨rfl,rfl,rfl,by decide +kernel,rfl,by decide +kernel,by decide +kernel⟩
theorem iU {f:Addr}{fd fdI fdP:FuncData}(F:Fun K "is_deal" "is_deal" pH f fd)(T:mK mg fW fI fP fD fPD fS fC fDl fWo fR fM cs)(GI:zA P w K mg base CX0 2 fI fdI ["thing","lowest","highest"] vb)(kI:PySem.W.keepIn K (.ref fI)=true)(bI:Binds K fdI ["thing","lowest","highest"] [])
  (GP:zA P w K mg base CX0 1 fP fdP ["thing"] (yL pairD)) (kP:PySem.W.keepIn K (.ref fP)=true) (bP:Binds K fdP ["thing"] []):zA P w K mg base CX0 3 f fd ["thing"] (yL uA):=by
 obtain⟨tm,hm⟩:=T.d.most
 refine F.ok dZ (fun vs H Q E h=>?_) (fun cdv A outer s H vs Q E hr h=>?_)
 ·obtain⟨x,d,rfl,_⟩:=h
  rfl
 ·obtain⟨x,d,rfl,hd,q⟩:=h
  have hr1:zK 1 _:=hr.mono (by decide)
  refine⟨_,zv (zC (xm (zT GP hr1 (by rfl) T.d.pair kP bP .nil yb (zd (pv 0) zr))
   (xm (zT GI hr (by rfl) T.d.within kI bI .nil yb (zd (zP yC (pv 0) zp (fun _ _=>rfl)) (zd zp (zd (vv (v:=.int 14) (by rfl) hm ⟨tm,rfl⟩) zr))))
   (xW (zT GI hr (by rfl) T.d.within kI bI .nil yb (zd (zP yC (pv 0) zp (fun _ _=>rfl)) (zd zp (zd (yt gf (zP yC (pv 0) zp (fun _ _=>rfl)) zp) zr)))))))),?_⟩
  refine⟨_,rfl,x,d,rfl,hd,_,rfl,?_⟩
  refine yz (fun h=>?_) (fun h=>?_)
  ·obtain⟨a,b,rfl⟩:=tq h
   cases hd with
   |tup e hs=>
    cases hs with
    |cons ha hs=>
     cases hs with
     |cons hb hs=>
      cases hs
      refine⟨_,rfl,_,_,0,_,rfl,rfl,SqT.of e,rfl,_,_,_,_,rfl,ha,_,rfl,?_⟩
      cases ha with
      |int m=>
       have q':Q (.bl (yk 2 14 (.int m)&&yk 1 (m-1) b)) H:=q
       refine yz (fun h=>?_) (fun h=>?_)
       ·rw[h,zz5] at q'
        exact⟨_,rfl,_,_,1,_,rfl,rfl,SqT.of e,rfl,_,rfl,_,_,0,_,rfl,rfl,SqT.of e,rfl,_,_,rfl,rfl,_,_,_,_,rfl,hb,q'⟩
       ·rw[zw5.mpr h,zz6] at q'
        exact q'
      |_=>exact rG q
  ·have e:uA d=false:=by
    unfold uA
    split
    ·exact absurd rfl h
    ·rfl
   rw[e] at q
   exact q
theorem bG :zl ["word","thing"] ["word","thing"] (zb lH):=⟨rfl,rfl,rfl,by decide +kernel,rfl,by decide +kernel,by decide +kernel⟩
theorem ee {f:Addr}{fd fdI fdC fdDl:FuncData}(F:Fun K "is_worth" "is_worth" lH f fd)(T:mK mg fW fI fP fD fPD fS fC fDl fWo fR fM cs)(GI:zA P w K mg base CX0 2 fI fdI ["thing","lowest","highest"] vb)(kI:PySem.W.keepIn K (.ref fI)=true)(bI:Binds K fdI ["thing","lowest","highest"] [])
  (GC:zA P w K mg base CX0 3 fC fdC ["thing"] (yL vm)) (kC:PySem.W.keepIn K (.ref fC)=true) (bC:Binds K fdC ["thing"] []) (GDl:zA P w K mg base CX0 3 fDl fdDl ["thing"] (yL uA)) (kDl:PySem.W.keepIn K (.ref fDl)=true) (bDl:Binds K fdDl ["thing"] []):
  zA P w K mg base CX0 4 f fd ["word","thing"] kA:=by
 obtain⟨tm,hm⟩:=T.d.most
 refine F.ok bG (fun vs H Q E h=>?_) (fun cdv A outer s H vs Q E hr h=>?_)
 ·obtain⟨x,y,dw,dv,rfl,_⟩:=h
  rfl
 ·obtain⟨x,y,dw,dv,rfl,hx,sw,hy,q⟩:=h
  have hr2:zK 2 _:=hr.mono (by decide)
  have hu:=hr.units
  have st:∀{z:Str},z∈words→SeqAt.shaped (.str z)=true:=fun {z} hz=>lO (by
   simp only[words,zu1,zu8,zx1] at hz
   rcases hz with rfl|rfl|rfl|rfl|rfl|rfl|rfl<;>decide +kernel)
  unfold zD at q
  -- if word == 'price'
  refine zW (fun σ H1=>σ=[some x,some y]∧eqS dw "price"=false∧H=H1)
   ⟨_,xK (yh (vc hu) (pv 0) yi (zF _)) (zv (zC (za5 (xR lG (pv 1) qH (zF _)) (xW (zT GC hr (by rfl) T.coins kC bC .nil yb (zd (pv 1) zr)))))) yy,?_⟩ ?_
  ·refine⟨_,rfl,dw,.str "price",hx,.str _,sw,st (by simp[words]),_,rfl,?_⟩
   refine yz (fun h=>?_) (fun h=>⟨rfl,zw5.mpr h,rfl⟩)
   rw[if_pos h] at q
   refine⟨_,rfl,rfl,_,rfl,?_⟩
   rw[hy.non_iff]
   refine yz (fun h2=>?_) (fun h2=>?_)
   ·rw[h2,Bool.true_or] at q
    exact q
   ·rw[zw5.mpr h2,zH7] at q
    exact⟨_,rfl,y,dv,rfl,hy,q⟩
  rintro σ H1 ⟨rfl,e1,rfl⟩
  rw[e1,if_neg zu4] at q
  -- if word == 'come' or word == 'go'
  refine zW (fun σ H1=>σ=[some x,some y]∧(eqS dw "come"||eqS dw "go")=false∧H=H1)
   ⟨_,xK (PW.pt (gj (yh (vc hu) (pv 0) yi (zF _)) (mJ (yh (vc hu) (pv 0) yi (zF _))))) (zv (zC (zV xu (by rfl) T.d.isi zA1 (zd (pv 1) (zd (wz (v:=.ty "bool") (by rfl) T.d.bool boot_bool rfl) zr))))) yy,?_⟩ ?_
  ·refine⟨_,rfl,dw,.str "come",hx,.str _,sw,st (by simp[words]),_,rfl,?_⟩
   refine yz (fun h=>?_) (fun h=>?_)
   ·have h':eqS dw "come"=true:=h
    rw[h',Bool.true_or,if_pos rfl] at q
    exact rj ⟨_,rfl,y,"bool",dv,_,rfl,hy,tU dv,q⟩
   ·have h':eqS dw "come"=false:=zw5.mpr h
    refine⟨_,rfl,dw,.str "go",hx,.str _,sw,st (by simp[words]),_,rfl,?_⟩
    refine yz (fun h2=>?_) (fun h2=>?_)
    ·have h2':eqS dw "go"=true:=h2
     rw[h',h2',zH7,if_pos rfl] at q
     exact⟨_,rfl,y,"bool",dv,_,rfl,hy,tU dv,q⟩
    ·have h2':eqS dw "go"=false:=zw5.mpr h2
     exact⟨rfl,by rw[h',h2'];rfl,rfl⟩
  rintro σ H1 ⟨rfl,e2,rfl⟩
  rw[e2,if_neg zu4] at q
  -- if word == 'least' or word == 'most'
  refine zW (fun σ H1=>σ=[some x,some y]∧(eqS dw "least"||eqS dw "most")=false∧H=H1)
   ⟨_,xK (PW.pt (gj (yh (vc hu) (pv 0) yi (zF _)) (mJ (yh (vc hu) (pv 0) yi (zF _))))) (zv (zC (zT GI hr2 (by rfl) T.d.within kI bI .nil yb (zd (pv 1) (zd zp (zd (vv (v:=.int 14) (by rfl) hm ⟨tm,rfl⟩) zr)))))) yy,?_⟩ ?_
  ·refine⟨_,rfl,dw,.str "least",hx,.str _,sw,st (by simp[words]),_,rfl,?_⟩
   refine yz (fun h=>?_) (fun h=>?_)
   ·have h':eqS dw "least"=true:=h
    rw[h',Bool.true_or,if_pos rfl] at q
    exact rj ⟨_,rfl,y,dv,_,_,rfl,hy,q⟩
   ·have h':eqS dw "least"=false:=zw5.mpr h
    refine⟨_,rfl,dw,.str "most",hx,.str _,sw,st (by simp[words]),_,rfl,?_⟩
    refine yz (fun h2=>?_) (fun h2=>?_)
    ·have h2':eqS dw "most"=true:=h2
     rw[h',h2',zH7,if_pos rfl] at q
     exact⟨_,rfl,y,dv,_,_,rfl,hy,q⟩
    ·have h2':eqS dw "most"=false:=zw5.mpr h2
     exact⟨rfl,by rw[h',h2'];rfl,rfl⟩
  rintro σ H1 ⟨rfl,e3,rfl⟩
  rw[e3,if_neg zu4] at q
  -- if word == 'deal'
  refine zW (fun σ H1=>σ=[some x,some y]∧eqS dw "deal"=false∧H=H1)
   ⟨_,xK (yh (vc hu) (pv 0) yi (zF _)) (zv (zC (za5 (xR lG (pv 1) qH (zF _)) (xW (zT GDl hr (by rfl) T.deal kDl bDl .nil yb (zd (pv 1) zr)))))) yy,?_⟩ ?_
  ·refine⟨_,rfl,dw,.str "deal",hx,.str _,sw,st (by simp[words]),_,rfl,?_⟩
   refine yz (fun h=>?_) (fun h=>⟨rfl,zw5.mpr h,rfl⟩)
   rw[if_pos h] at q
   refine⟨_,rfl,rfl,_,rfl,?_⟩
   rw[hy.non_iff]
   refine yz (fun h2=>?_) (fun h2=>?_)
   ·rw[h2,Bool.true_or] at q
    exact q
   ·rw[zw5.mpr h2,zH7] at q
    exact⟨_,rfl,y,dv,rfl,hy,q⟩
  rintro σ H1 ⟨rfl,e4,rfl⟩
  rw[e4,if_neg zu4] at q
  refine⟨_,zv (zC (xm (xR (vc hu) (pv 0) yi (zF _)) (xW (zT GC hr (by rfl) T.coins kC bC .nil yb (zd (pv 1) zr))))),?_⟩
  refine⟨_,rfl,dw,.str "fee",hx,.str _,sw,st (by simp[words]),_,rfl,?_⟩
  refine yz (fun h=>?_) (fun h=>?_)
  ·have h':eqS dw "fee"=true:=h
   rw[h',zz5] at q
   exact⟨_,rfl,y,dv,rfl,hy,q⟩
  ·have h':eqS dw "fee"=false:=zw5.mpr h
   rw[h',zz6] at q
   exact q
theorem cy :zl ["thing"] ["thing"] (zb pC):=⟨rfl,rfl,rfl,by decide +kernel,rfl,by decide +kernel,by decide +kernel⟩
theorem ik {f:Addr}{fd fdS fdWo:FuncData}(F:Fun K "is_rule" "is_rule" pC f fd)(T:mK mg fW fI fP fD fPD fS fC fDl fWo fR fM cs)(GS:zA P w K mg base CX0 5 fS fdS ["thing"] (yL yp))(kS:PySem.W.keepIn K (.ref fS)=true)(bS:Binds K fdS ["thing"] [])
  (GW:zA P w K mg base CX0 4 fWo fdWo ["word","thing"] kA) (kW:PySem.W.keepIn K (.ref fWo)=true) (bW:Binds K fdWo ["word","thing"] []):zA P w K mg base CX0 6 f fd ["thing"] eO:=by
 refine F.ok cy (fun vs H Q E h=>?_) (fun cdv A outer s H vs Q E hr h=>?_)
 ·obtain⟨x,d,rfl,_⟩:=h
  rfl
 ·obtain⟨x,d,rfl,hd,sd,q⟩:=h
  have hr4:zK 4 _:=hr.mono (by decide)
  refine⟨_,zv (zC (xm (zV xu (by rfl) T.d.isi zA1 (zd (pv 0) (zd (wz (v:=.ty "tuple") (by rfl) T.d.tuple boot_tuple rfl) zr)))
   (xm (xR wN (zV yr (by rfl) T.d.len zB8 (zd (pv 0) zr)) zp (zF _))
   (xm (zT GS hr (by rfl) T.stretch kS bS .nil yb (zd (pd (zd (zP yC (pv 0) zp (fun _ _=>rfl)) (zd (zP yC (pv 0) zp (fun _ _=>rfl)) zr))) zr))
   (xW (zT GW hr4 (by rfl) T.worth kW bW .nil yb (zd (zP yC (pv 0) zp (fun _ _=>rfl)) (zd (zP yC (pv 0) zp (fun _ _=>rfl)) zr)))))))),?_⟩
  refine⟨_,rfl,x,"tuple",d,_,rfl,hd,qv d,_,rfl,?_⟩
  cases hd with
  |@tup a xs ds e hs=>
   refine rj ⟨_,rfl,a,_,rfl,.inr (SqT.of e),rfl,_,rfl,?_⟩
   cases hs with
   |nil=>exact yz (fun h=>absurd h (by simp)) (fun _=>q H (zy.refl H))
   |@cons xw _ dw _ hw hs=>
   cases hs with
   |nil=>exact yz (fun h=>absurd h (by simp)) (fun _=>q H (zy.refl H))
   |@cons xa _ da _ ha hs=>
   cases hs with
   |nil=>exact yz (fun h=>absurd h (by simp)) (fun _=>q H (zy.refl H))
   |@cons xb _ db _ hb hs=>
   cases hs with
   |nil=>exact yz (fun h=>absurd h (by simp)) (fun _=>q H (zy.refl H))
   |@cons xv _ dv _ hv hs=>
   cases hs with
   |cons _ _=>exact yz (fun h=>absurd h (by simp;omega)) (fun _=>q H (zy.refl H))
   |nil=>
    refine yz (fun _=>?_) (fun h=>absurd rfl h)
    refine⟨_,rfl,a,_,1,_,rfl,rfl,SqT.of e,rfl,_,rfl,a,_,2,_,rfl,rfl,SqT.of e,rfl,(by show 2≤sizeLine;decide),fun p hp=>?_⟩
    have s1:zy H (upd H p (.tup [xa,xb])):=yD hp
    refine⟨_,.tuple [da,db],rfl,.tup zh (.cons (ha.same s1) (.cons (hb.same s1) .nil)),_,rfl,?_⟩
    have q':Q (.bl (yp (.tuple [da,db])&&zD dw dv)) (upd H p (.tup [xa,xb])):=q _ s1
    refine yz (fun h=>?_) (fun h=>?_)
    ·rw[h,zz5] at q'
     exact⟨_,rfl,a,_,0,_,rfl,rfl,SqT.of (s1 _ _ e),rfl,_,rfl,a,_,3,_,rfl,rfl,SqT.of (s1 _ _ e),rfl,_,_,_,_,rfl,hw.same s1,qD sd dw (by simp),hv.same s1,q'⟩
    ·rw[zw5.mpr h,zz6] at q'
     exact q'
  |_=>exact rG (q H (zy.refl H))
end
section
variable {P:Program}{w:World}{K:PySem.W.Frag}{mg:Str→Option Value}{base:Heap}{fW fI fP fD fPD fS fC fDl fWo fR fM:Addr}{cs:Cs}
structure cb (K:PySem.W.Frag)(cs:Cs)(fIn fTo fTe w1 w2 w3 w4 w5 w6 w7:Addr):Prop where
 price:xY K cs.price fIn fTo fTe w1
 come:xY K cs.come fIn fTo fTe w2
 go:xY K cs.go fIn fTo fTe w3
 least:xY K cs.least fIn fTo fTe w4
 most:xY K cs.most fIn fTo fTe w5
 deal:xY K cs.deal fIn fTo fTe w6
 fee:xY K cs.fee fIn fTo fTe w7
theorem ve (cs:Cs):cs.of "price"=cs.price:=by unfold Cs.of;rw[if_pos rfl]
theorem uw (cs:Cs):cs.of "come"=cs.come:=by unfold Cs.of;rw[if_neg (by decide +kernel),if_pos rfl]
theorem oh (cs:Cs):cs.of "go"=cs.go:=by unfold Cs.of;rw[if_neg (by decide +kernel),if_neg (by decide +kernel),if_pos rfl]
theorem vj (cs:Cs):cs.of "least"=cs.least:=by unfold Cs.of;rw[if_neg (by decide +kernel),if_neg (by decide +kernel),if_neg (by decide +kernel),if_pos rfl]
theorem uj (cs:Cs):cs.of "most"=cs.most:=by unfold Cs.of;rw[if_neg (by decide +kernel),if_neg (by decide +kernel),if_neg (by decide +kernel),if_neg (by decide +kernel),if_pos rfl]
theorem ui (cs:Cs):cs.of "deal"=cs.deal:=by unfold Cs.of;rw[if_neg (by decide +kernel),if_neg (by decide +kernel),if_neg (by decide +kernel),if_neg (by decide +kernel),if_neg (by decide +kernel),if_pos rfl]
theorem sP (cs:Cs):cs.of "fee"=cs.fee:=by unfold Cs.of;rw[if_neg (by decide +kernel),if_neg (by decide +kernel),if_neg (by decide +kernel),if_neg (by decide +kernel),if_neg (by decide +kernel),if_neg (by decide +kernel)]
theorem uG {x y:Str}(h:decide (V.str x=V.str y)=true):x=y:=by
 have:=zF8 h
 injection this
theorem uK {x y:Str}(h:¬decide (V.str x=V.str y)=true):x≠y:=fun e=>h (by rw[e];exact zD2 rfl)
theorem xB {C p dx:Addr}{H:Hp}{x y z:V}{Q:VK}(k:∀(p dx:Addr) (H':Hp),H' p=some (.ins C dx (wV x y z))→H p=none→zy H H'→Q (.ref p) H')(hp:H p=none)(hx:H dx=none)(n:dx≠p):
  Q (.ref p) (upd (upd (upd H dx (.own p)) p (.ins C dx [])) p (.ins C dx (wV x y z))):=by
 refine k p dx _ zh hp fun a o e=>?_
 rw[uq,zg (zk e hp),zg (zk e hx)]
 exact e
theorem zc4 :zl ["word","first","last","worth"] ["word","first","last","worth"] (zb gR):=⟨rfl,rfl,rfl,by decide +kernel,rfl,by decide +kernel,by decide +kernel⟩
set_option maxHeartbeats 4000000 in
theorem bO {f fIn fTo fTe w1 w2 w3 w4 w5 w6 w7:Addr}{fd fdIn:FuncData}(F:Fun K "made" "made" gR f fd)(T:mK mg fW fI fP fD fPD fS fC fDl fWo fR fM cs)(A7:cb K cs fIn fTo fTe w1 w2 w3 w4 w5 w6 w7)
  (FI:Fun K "__init__" "Rule.__init__" kr fIn fdIn) (bI:Binds K fdIn ["self","first","last","worth"] []):zA P w K mg base CX0 3 f fd ["word","first","last","worth"] (cD cs):=by
 refine F.ok zc4 (fun vs H Q E h=>?_) (fun cdv A outer s H vs Q E hr h=>?_)
 ·obtain⟨wd,x,y,z,rfl,_⟩:=h
  rfl
 ·obtain⟨wd,x,y,z,rfl,hw,k⟩:=h
  refine zW (fun σ H1=>σ=[some (.str wd),some x,some y,some z]∧wd≠"price"∧H=H1)
   ⟨_,xK (yh wN (pv 0) yi (zF _)) (zv (zC (xO A7.price.makes (wu FI A7.price) hr (by rfl) T.cPrice bI .nil yb (zd (pv 1) (zd (pv 2) (zd (pv 3) zr)))))) yy,?_⟩ ?_
  ·refine⟨_,rfl,rfl,_,rfl,yz (fun h=>?_) (fun h=>⟨rfl,uK h,rfl⟩)⟩
   rw[uG h,ve] at k
   exact⟨_,rfl,_,rfl,_,rfl,fun p dx hp hx n=>⟨p,dx,_,_,_,rfl,zh,rfl,xB k hp hx n⟩⟩
  rintro σ H1 ⟨rfl,n1,rfl⟩
  refine zW (fun σ H1=>σ=[some (.str wd),some x,some y,some z]∧wd≠"come"∧H=H1)
   ⟨_,xK (yh wN (pv 0) yi (zF _)) (zv (zC (xO A7.come.makes (wu FI A7.come) hr (by rfl) T.cCome bI .nil yb (zd (pv 1) (zd (pv 2) (zd (pv 3) zr)))))) yy,?_⟩ ?_
  ·refine⟨_,rfl,rfl,_,rfl,yz (fun h=>?_) (fun h=>⟨rfl,uK h,rfl⟩)⟩
   rw[uG h,uw] at k
   exact⟨_,rfl,_,rfl,_,rfl,fun p dx hp hx n=>⟨p,dx,_,_,_,rfl,zh,rfl,xB k hp hx n⟩⟩
  rintro σ H1 ⟨rfl,n2,rfl⟩
  refine zW (fun σ H1=>σ=[some (.str wd),some x,some y,some z]∧wd≠"go"∧H=H1)
   ⟨_,xK (yh wN (pv 0) yi (zF _)) (zv (zC (xO A7.go.makes (wu FI A7.go) hr (by rfl) T.cGo bI .nil yb (zd (pv 1) (zd (pv 2) (zd (pv 3) zr)))))) yy,?_⟩ ?_
  ·refine⟨_,rfl,rfl,_,rfl,yz (fun h=>?_) (fun h=>⟨rfl,uK h,rfl⟩)⟩
   rw[uG h,oh] at k
   exact⟨_,rfl,_,rfl,_,rfl,fun p dx hp hx n=>⟨p,dx,_,_,_,rfl,zh,rfl,xB k hp hx n⟩⟩
  rintro σ H1 ⟨rfl,n3,rfl⟩
  refine zW (fun σ H1=>σ=[some (.str wd),some x,some y,some z]∧wd≠"least"∧H=H1)
   ⟨_,xK (yh wN (pv 0) yi (zF _)) (zv (zC (xO A7.least.makes (wu FI A7.least) hr (by rfl) T.cLeast bI .nil yb (zd (pv 1) (zd (pv 2) (zd (pv 3) zr)))))) yy,?_⟩ ?_
  ·refine⟨_,rfl,rfl,_,rfl,yz (fun h=>?_) (fun h=>⟨rfl,uK h,rfl⟩)⟩
   rw[uG h,vj] at k
   exact⟨_,rfl,_,rfl,_,rfl,fun p dx hp hx n=>⟨p,dx,_,_,_,rfl,zh,rfl,xB k hp hx n⟩⟩
  rintro σ H1 ⟨rfl,n4,rfl⟩
  refine zW (fun σ H1=>σ=[some (.str wd),some x,some y,some z]∧wd≠"most"∧H=H1)
   ⟨_,xK (yh wN (pv 0) yi (zF _)) (zv (zC (xO A7.most.makes (wu FI A7.most) hr (by rfl) T.cMost bI .nil yb (zd (pv 1) (zd (pv 2) (zd (pv 3) zr)))))) yy,?_⟩ ?_
  ·refine⟨_,rfl,rfl,_,rfl,yz (fun h=>?_) (fun h=>⟨rfl,uK h,rfl⟩)⟩
   rw[uG h,uj] at k
   exact⟨_,rfl,_,rfl,_,rfl,fun p dx hp hx n=>⟨p,dx,_,_,_,rfl,zh,rfl,xB k hp hx n⟩⟩
  rintro σ H1 ⟨rfl,n5,rfl⟩
  refine zW (fun σ H1=>σ=[some (.str wd),some x,some y,some z]∧wd≠"deal"∧H=H1)
   ⟨_,xK (yh wN (pv 0) yi (zF _)) (zv (zC (xO A7.deal.makes (wu FI A7.deal) hr (by rfl) T.cDeal bI .nil yb (zd (pv 1) (zd (pv 2) (zd (pv 3) zr)))))) yy,?_⟩ ?_
  ·refine⟨_,rfl,rfl,_,rfl,yz (fun h=>?_) (fun h=>⟨rfl,uK h,rfl⟩)⟩
   rw[uG h,ui] at k
   exact⟨_,rfl,_,rfl,_,rfl,fun p dx hp hx n=>⟨p,dx,_,_,_,rfl,zh,rfl,xB k hp hx n⟩⟩
  rintro σ H1 ⟨rfl,n6,rfl⟩
  have e7:wd="fee":=by
   simp only[words,zu1,zu8,zx1] at hw
   rcases hw with e|e|e|e|e|e|e
   ·exact absurd e n1
   ·exact absurd e n2
   ·exact absurd e n3
   ·exact absurd e n4
   ·exact absurd e n5
   ·exact absurd e n6
   ·exact e
  rw[e7,sP] at k
  refine⟨_,zv (zC (xO A7.fee.makes (wu FI A7.fee) hr (by rfl) T.cFee bI .nil yb (zd (pv 1) (zd (pv 2) (zd (pv 3) zr))))),?_⟩
  exact⟨_,rfl,_,rfl,_,rfl,fun p dx hp hx n=>⟨p,dx,_,_,_,rfl,zh,rfl,xB k hp hx n⟩⟩
theorem dR :zl ["thing"] ["thing"] (zb qU):=⟨rfl,rfl,rfl,by decide +kernel,rfl,by decide +kernel,by decide +kernel⟩
theorem iL {f:Addr}{fd fdR fdM:FuncData}(F:Fun K "rule_of" "rule_of" qU f fd)(T:mK mg fW fI fP fD fPD fS fC fDl fWo fR fM cs)(GR:zA P w K mg base CX0 6 fR fdR ["thing"] eO)(kR:PySem.W.keepIn K (.ref fR)=true)(bR:Binds K fdR ["thing"] [])
  (GM:zA P w K mg base CX0 3 fM fdM ["word","first","last","worth"] (cD cs)) (kM:PySem.W.keepIn K (.ref fM)=true) (bM:Binds K fdM ["word","first","last","worth"] []):zA P w K mg base CX0 7 f fd ["thing"] (oP cs):=by
 refine F.ok dR (fun vs H Q E h=>?_) (fun cdv A outer s H vs Q E hr h=>?_)
 ·obtain⟨x,d,rfl,_⟩:=h
  rfl
 ·obtain⟨x,d,rfl,hd,sd,k0,k1⟩:=h
  have hr3:zK 3 _:=hr.mono (by decide)
  refine zW (fun σ H1=>σ=[some x]∧yT d=true∧zy H H1)
   ⟨_,xK (gg (fV (zT GR hr (by rfl) T.rule kR bR .nil yb (zd (pv 0) zr)))) (zv (zC qH)) yy,?_⟩ ?_
  ·refine⟨_,rfl,x,d,rfl,hd,sd,fun H1 s1=>⟨_,rfl,?_⟩⟩
   refine yz (fun h=>?_) (fun h=>?_)
   ·exact k0 (by simpa using h) H1 s1
   ·exact⟨rfl,by simpa using h,s1⟩
  rintro σ H1 ⟨rfl,er,s1⟩
  obtain⟨sw,da,db,dv,hsw,rfl⟩:=xS er
  cases hd with
  |@tup r xs ds e hs=>
   cases hs with
   |@cons xw _ _ _ hw hs=>
    cases hw
    cases hs with
    |@cons xa _ _ _ ha hs=>
     cases hs with
     |@cons xb _ _ _ hb hs=>
      cases hs with
      |@cons xv _ _ _ hv hs=>
       cases hs
       have e1:=s1 _ _ e
       refine⟨_,zv (zC (zT GM hr3 (by rfl) T.made kM bM .nil yb (zd (zP yC (pv 0) zp (fun _ _=>rfl)) (zd (zP yC (pv 0) zp (fun _ _=>rfl)) (zd (zP yC (pv 0) zp (fun _ _=>rfl)) (zd (zP yC (pv 0) zp (fun _ _=>rfl)) zr)))))),?_⟩
       refine⟨_,rfl,r,_,0,_,rfl,rfl,SqT.of e1,rfl,_,rfl,r,_,1,_,rfl,rfl,SqT.of e1,rfl,_,rfl,r,_,2,_,rfl,rfl,SqT.of e1,rfl,_,rfl,r,_,3,_,rfl,rfl,SqT.of e1,rfl,sw,_,_,_,rfl,hsw,fun p dx H2 h2 hp s2=>?_⟩
       exact k1 r sw xa xb xv p dx H2 rfl er hsw e h2 (s1.free hp) (s1.trans s2)
end
abbrev fg :Stmt:=top 49
abbrev xl :Stmt:=inClass (top 48) 0
abbrev vF :Stmt:=inClass (top 48) 1
def sI (C:Addr)(a b v:PyData):PyData:=va C [(.str "first",a),(.str "last",b),(.str "worth",v)]
def uW (cs:Cs):PyData→PyData
 |.tuple [.str w,a,b,v]=>sI (cs.of w) a b v
 |_=>.none
def yu (C:Addr)(cs:Cs)(ds:List PyData):PyData:=va C [(.str "kept",.list (ds.map (uW cs)))]
def Rules (ds:List PyData):Prop:=∀d∈ds,yT d=true∧SeqAt.shaped d=true∧d.hasDict=false
def tV (cs:Cs):List A→(A→Prop)→Prop:=fun as Q=>∃d,as=[.dat d]∧d.hasDict=false∧SeqAt.shaped d=true∧(yT d=false→Q (.dat .none))∧(yT d=true→Q (.dat (uW cs d)))
def mn (cs:Cs):List A→(A→Prop)→Prop:=fun as Q=>∃ds,as=[.dat (.list ds)]∧Rules ds∧ds.length≤24∧Q (.own (ds.map (uW cs)))
def pO (C:Addr)(cs:Cs):List A→(A→Prop)→Prop:=fun as Q=>∃ds,(as=[.dat (.list ds)]∨(as=[.dat .none]∧ds=[]))∧Rules ds∧ds.length≤24∧Q (.dat (yu C cs ds))
def nW (C:Addr)(w:Str):List A→(A→Prop)→Prop:=fun as Q=>∃a b v,as=[.dat (sI C a b v)]∧Q (.dat (.tuple [.str w,a,b,v]))
def pM (C:Addr)(cs:Cs):List A→(A→Prop)→Prop:=fun as Q=>∃ds,as=[.dat (yu C cs ds)]∧Rules ds∧ds.length≤1000∧Q (.own ds)
theorem qT (x y z:V):wV x y z=[(("first":Str),x),(("last":Str),y),(("worth":Str),z)]:=by
 unfold wV
 show xH "worth" z (if ("first":Str)="last" then _ else _)=_
 rw[if_neg (fun e=>dA e.symm)]
 show (if ("first":Str)="worth" then _ else _)=_
 rw[if_neg (fun e=>cE e.symm)]
 show _::(if ("last":Str)="worth" then _ else _)=_
 rw[if_neg (fun e=>de e.symm)]
 rfl
theorem uc {cs:Cs}{d:PyData}(h:yT d=true):∃(s:Str) (a b v:PyData),s∈words∧d=.tuple [.str s,a,b,v]∧uW cs d=sI (cs.of s) a b v:=by
 obtain⟨s,a,b,v,hs,rfl⟩:=xS h
 exact⟨s,a,b,v,hs,rfl,rfl⟩
def gr :Scope:=match zw vF with
 |[.Return (some (.ListComp _ _ sc _)) _]=>sc
 |_=>zb vF
section
variable {P:Program}{w:World}{K:PySem.W.Frag}{mg:Str→Option Value}{base:Heap}{cs:Cs}
theorem lJ {k:Nat}{f:Addr}{fd:FuncData}{ps:List Str}(hm:mg "rule_of"=some (.ref f))(hk:PySem.W.keepIn K (.ref f)=true)(hb:Binds K fd ps [])(G:zA P w K mg base CX0 k f fd ps (oP cs)):Cal P w K mg base "rule_of" k (tV cs):=by
 refine⟨f,fd,_,hm,hk,hb,G.imp fun vs H Q E h=>?_⟩
 obtain⟨F,as,Q',rfl,t,o,rv,⟨d,rfl,nd,sh,q0,q1⟩,kk⟩:=h
 obtain⟨x,rfl,av⟩:=rv.one
 have oo:∀{a:Addr},F.H0 a=none→¬F.O0 a:=fun {a} e z=>by
  obtain⟨u,hu,_⟩:=o a z
  rw[e] at hu;cases hu
 refine⟨x,d,rfl,(av.dv nd).same xE,sh,fun hr H' s=>kk _ _ _ (q0 hr) ⟨t.same s,Kz.of_same s,.non⟩,fun r wd x1 x2 x3 p dx H' hx hr hw he hp' hp s=>kk _ _ _ (q1 hr) ⟨t.same s,Kz.of_same s,?_⟩⟩
 subst hx
 obtain⟨s',a,b,v,_,rfl⟩:=xS hr
 obtain⟨r',xs,e1,e2,e3⟩:=av.tup_inv
 cases e1
 have e4:=(zj e2).2
 rw[he] at e4
 cases e4
 have gs:zy (sub (fun x=>¬F.O0 x) F.H0) (sub (fun x=>¬F.O0 x) H'):=zu fun a u h e=>⟨h,s _ _ e⟩
 cases e3 with
 |cons g1 e3=>
  cases g1.str_inv
  cases e3 with
  |cons g2 e3=>
   cases e3 with
   |cons g3 e3=>
    cases e3 with
    |cons g4 e3=>
     cases e3
     rw[qT] at hp'
     exact .ins (zM (oo hp) hp') (.cons (g2.same gs) (.cons (g3.same gs) (.cons (g4.same gs) .nil)))
theorem yY {C f fIn fE fWd:Addr}{fd:FuncData}{wd:Str}(R:xY K C fIn f fE fWd)(hb:Binds K fd ["self"] [])(G:zA P w K mg base CX0 2 f fd ["self"] (fu C wd)):wF P w K mg base C "told" 2 (nW C wd):=by
 refine⟨f,fd,_,R.cl,R.told,hb,G.imp fun vs H Q E h=>?_⟩
 obtain⟨F,as,Q',rfl,t,o,rv,⟨a,b,v,rfl,q⟩,kk⟩:=h
 obtain⟨x,rfl,av⟩:=rv.one
 obtain⟨p,dx,fs,rfl,h1,h2⟩:=av.ins_inv
 cases h2 with
 |cons g1 h2=>
  cases h2 with
  |cons g2 h2=>
   cases h2 with
   |cons g3 h2=>
    cases h2
    refine⟨p,dx,_,_,_,rfl,by rw[qT];exact (zj h1).2,fun r hr=>kk _ _ _ q ⟨t.same (yD hr),Kz.of_same (yD hr),?_⟩⟩
    have gs:∀o':HO,zy (sub (fun x=>¬F.O0 x) F.H0) (sub (fun x=>¬F.O0 x) (upd F.H0 r o')):=fun o'=>zu fun a u h e=>⟨h,by rw[zg (zk e hr)];exact e⟩
    refine .tup (zM (fun z=>?_) zh) (.cons (.str _) (.cons (g1.same (gs _)) (.cons (g2.same (gs _)) (.cons (g3.same (gs _)) .nil))))
    obtain⟨u,hu,_⟩:=o r z
    rw[hr] at hu;cases hu
theorem eW :zl ["things","kept","number","thing","rule"] ["things"] (zb fg):=⟨rfl,rfl,rfl,by decide +kernel,rfl,by decide +kernel,by decide +kernel⟩
set_option maxHeartbeats 4000000 in
theorem dJ {f:Addr}{fd:FuncData}(F:Fun K "kept_rules" "kept_rules" fg f fd)(hm:mg "kept_rules"=some (.ref f))(hb:Binds K fd ["things"] [])(nb:NbT mg)(gM:∃t,mg "MOST_RULES"=some (.int 24 t))(CRO:Cal P w K mg base "rule_of" 7 (tV cs)):Cal P w K mg base "kept_rules" 8 (mn cs):=by
 refine vJ F hm hb eW (fun as Q h=>?_) (fun cdv A' outer s H E as Q hr h=>?_)
 ·obtain⟨ds,rfl,_⟩:=h
  rfl
 ·obtain⟨ds,rfl,rd,hl,q⟩:=h
  refine wA 1 eW.nd (xp (zo (⟨_,rfl,zu6 rfl,?_⟩)))
  refine wY (pat:=.many [2,3]) zz1 rfl (sQ (n:=2) (K:=K) rfl rfl (vq (yg (i:=2) eW.nd rfl (Or.inl rfl)) (vq (yg (i:=3) eW.nd rfl (Or.inl rfl)) (pj)))) (jk (by rfl) nb.enumerate (zc 0 rfl (⟨_,rfl,?_⟩)))
  refine xh (fun i α=>∃v2 v3 v4,α=[some (.dat (.list ds)),some (.own ((ds.take i).map (uW cs))),v2,v3,v4]) ⟨none,none,none,rfl⟩ ?_ ?_
  ·rintro i d α hd ⟨v2,v3,v4,rfl⟩
   obtain⟨e,he,rfl⟩:=vG hd
   obtain⟨r1,r2,r3⟩:=rd e (zy7 he)
   have hi:i<ds.length:=(zt8.mp he).1
   refine⟨_,rfl,?_⟩
   refine zQ 4 eW.nd (yn CRO hr (by rfl) (zf (zc 3 rfl (zo (⟨_,rfl,r3,r2,fun z=>(by rw[r1] at z;cases z),fun _=>?_⟩)))))
   refine yS (wH (zc 4 rfl ?_))
   obtain⟨s',a,b,v,hs,rfl,ei⟩:=uc (cs:=cs) r1
   refine xN (fun h=>by rw[show (A.dat (uW cs (.tuple [.str s',a,b,v]))).d=sI (cs.of s') a b v from rfl] at h;cases h) (fun _=>zB ?_)
   refine yv 1 rfl (zc 4 rfl ⟨by rw[zt4,zw8];omega,?_⟩)
   refine zB ⟨some (.dat (.int ((0+i:Nat):Int))),some (.dat (.tuple [.str s',a,b,v])),some (.dat (uW cs (.tuple [.str s',a,b,v]))),?_⟩
   rw[zC8,he,zB1]
   rfl
  ·rintro α ⟨v2,v3,v4,rfl⟩
   rw[vw,zD7]
   refine yS (ku 1 rfl (eu (qO (by rfl) nb.len (zc 1 rfl ⟨_,rfl,eM (by rfl) gM ⟨_,_,rfl,rfl,?_⟩⟩))))
   refine eQ (fun h=>?_) (fun _=>zB ?_)
   ·rw[zt4] at h
    omega
   ·exact xU 1 rfl q
theorem zq2 :zl ["self","rules"] ["self","rules"] (zb xl):=⟨rfl,rfl,rfl,by decide +kernel,rfl,by decide +kernel,by decide +kernel⟩
theorem jE {w' v:PyData}(h:zD w' v=true):noL v=true:=by
 have wi:∀{lo hi:Int} {x:PyData},yk lo hi x=true→noL x=true:=fun {lo hi x} h=>by
  cases x with
  |int i=>rfl
  |_=>cases h
 have nn:∀{x:PyData},isNone x=true→noL x=true:=fun {x} h=>by
  cases x with
  |none=>rfl
  |_=>cases h
 unfold zD at h
 split at h
 ·rcases (zC6 _ _).mp h with h|h
  ·exact nn h
  ·exact wi h
 ·split at h
  ·cases v with
   |bool b=>rfl
   |_=>cases h
  ·split at h
   ·exact wi h
   ·split at h
    ·rcases (zC6 _ _).mp h with h|h
     ·exact nn h
     ·unfold uA at h
      split at h
      ·rw[zv6] at h
       simp only[noL,vK,wi h.2,Bool.and_self]
      ·cases h
    ·rw[zv6] at h
     exact wi h.2
theorem dE {s':Str}{a b v:PyData}(h:yT (.tuple [.str s',a,b,v])=true):noL a=true∧noL b=true∧noL v=true:=by
 have h':(yp (.tuple [a,b])&&zD (.str s') v)=true:=h
 rw[zv6] at h'
 refine⟨?_,?_,jE h'.2⟩
 ·have:=h'.1
  unfold yp rK at this
  split at this
  ·rename_i k e
   split at e
   ·rename_i z;cases z;rfl
   ·cases e
  ·cases this
 ·have:=h'.1
  unfold yp rK at this
  split at this
  ·rename_i k e
   split at e
   ·rename_i z;cases z;rfl
   ·cases e
  ·cases this
theorem oK {ds:List PyData}(rd:Rules ds):vK (ds.map (uW cs))=true:=by
 induction ds with
 |nil=>rfl
 |cons d r ih=>
  have ih':=ih fun x hx=>rd x (zu3 _ hx)
  have h1:=(rd d zv5).1
  obtain⟨s',a,b,v,hs,rfl,ei⟩:=uc (cs:=cs) h1
  obtain⟨z1,z2,z3⟩:=dE h1
  rw[zy1,ei]
  simp only[vK,ih',Bool.and_true]
  simp[sI,va,noL,lq,z1,z2,z3]
theorem fv {f C:Addr}{dV:Value}{fd:FuncData}(F:zh9 K "__init__" "Book.__init__" xl dV f fd)(c:Cls K C)(na:yH K C "kept")(CK:Cal P w K mg base "kept_rules" 8 (mn cs)):zA P w K mg base CX0 9 f fd ["self","rules"] (spI C (pO C cs)):=by
 refine zk7 (N:=[]) F zq2 c na rfl (fun as Q h=>?_) (fun cdv A' outer s H E as Q hr h=>?_) (fun _ _ _ _ _ _=>rfl) (Or.inl rfl)
 ·obtain⟨ds,h|⟨h,_⟩,_⟩:=h<;>rw[h]<;>rfl
 ·obtain⟨ds,h|⟨h,hz⟩,rd,hl,q⟩:=h
  ·subst h
   exact xX CK hr (by rfl) (zf (ll (wH (zc 1 rfl (rG (zc 1 rfl (zo ⟨_,rfl,rd,hl,_,rfl,oK rd,q⟩)))))))
  ·subst h hz
   exact xX CK hr (by rfl) (zf (ll (wH (zc 1 rfl (rj (EvL.d (xp (zo ⟨_,rfl,zu6 rfl,zo ⟨[],rfl,rd,hl,_,rfl,oK rd,q⟩⟩))))))))
theorem zr3 :zl ["self"] ["self"] (zb vF):=⟨rfl,rfl,rfl,by decide +kernel,rfl,by decide +kernel,by decide +kernel⟩
theorem zl1 :zL ["self"] (zb vF) ["rule"] [none] gr:=⟨rfl,by decide +kernel,by decide +kernel,by decide +kernel,by decide +kernel,rfl,by decide +kernel⟩
set_option maxHeartbeats 4000000 in
theorem iJ {f C:Addr}{fd:FuncData}(F:Fun K "rules" "Book.rules" vF f fd)(c:Cls K C)(na:yH K C "kept")(hb:Binds K fd ["self"] [])(O:∀w'∈words,wF P w K mg base (cs.of w') "told" 2 (nW (cs.of w') w')):zA P w K mg base CX0 3 f fd ["self"] (spA (pM C cs)):=by
 refine fnA F zr3 (fun as Q h=>?_) (fun cdv A' outer s H E as Q hr h=>?_)
 ·obtain⟨ds,rfl,_⟩:=h
  rfl
 ·obtain⟨ds,rfl,rd,hl,q⟩:=h
  refine pP (za1 (pat:=.one 0) rfl zl1 rfl (fun _ _ _ _=>yg (i:=0) zl1.nd rfl (Or.inl rfl)) (ur (lW c na (zc 0 rfl ⟨_,_,rfl,rfl,⟨_,rfl,by rw[zt4];exact hl,?comp⟩⟩))))
  case comp=>
   refine jN (fun i acc=>acc=ds.take i) rfl ?_ (fun acc h=>?_)
   ·rintro i d acc hd rfl
    rw[zv2,zw9] at hd
    obtain⟨e,he,rfl⟩:=hd
    obtain⟨s',a,b,v,hs,rfl,ei⟩:=uc (cs:=cs) (rd e (zy7 he)).1
    refine⟨_,rfl,fun C s2 H2 fp=>gY ?_⟩
    rw[if_pos rfl]
    refine fun C s2 H2 fp=>tP (O s' hs) hr (zc 0 rfl ⟨_,rfl,rfl,_,_,_,rfl,?_⟩)
    show ds.take i++[_]=ds.take (i+1)
    rw[zC8,he]
    rfl
   ·rw[zt4,zD7] at h
    rw[h]
    exact q
end
abbrev pK :Stmt:=inClass (top 48) 2
abbrev ma :Stmt:=top 39
def tbU :List (Str×V):=[("price",.non),("come",.bl true),("go",.bl true),("least",.int 1),("most",.int 14),("deal",.non),("fee",.int 0)]
def cp (x:Str):PyData:=if x="price"∨x="deal" then .none else if x="come"∨x="go" then .bool true else if x="least" then .int 1 else if x="most" then .int 14 else .int 0
theorem zf9 {x:Str}(h:x∈words):∃v,tbU.lookup x=some v∧scV (cp x)=some v:=by
 simp only[words,zu1,zu8,zx1] at h
 rcases h with rfl|rfl|rfl|rfl|rfl|rfl|rfl
 ·exact⟨.non,by decide +kernel,by decide +kernel⟩
 ·exact⟨.bl true,by decide +kernel,by decide +kernel⟩
 ·exact⟨.bl true,by decide +kernel,by decide +kernel⟩
 ·exact⟨.int 1,by decide +kernel,by decide +kernel⟩
 ·exact⟨.int 14,by decide +kernel,by decide +kernel⟩
 ·exact⟨.non,by decide +kernel,by decide +kernel⟩
 ·exact⟨.int 0,by decide +kernel,by decide +kernel⟩
def ag (w:Str)(day:Int):PyData→Bool
 |.tuple [.str x,.int a,.int b,_]=>decide (x=w)&&(decide (a≤day)&&decide (day≤b))
 |_=>false
def kN :PyData→PyData
 |.tuple [_,_,_,v]=>v
 |_=>.none
def zm (ds:List PyData)(w:Str)(day:Int):PyData:=match ds.reverse.find? (ag w day) with
 |some d=>kN d
 |none=>cp w
theorem tS {p:PyData→Bool}{e:PyData}:∀{l:List PyData} {i:Nat},(∀j<i,∀d,l[j]?=some d→p d=false)→l[i]?=some e→p e=true→l.find? p=some e
 |[],i,_,h,_=>by simp at h
 |d::l,0,_,h,q=>by
  simp at h;subst h
  simp[zz0,q]
 |d::l,i+1,a,h,q=>by
  have hd:=a 0 (Nat.succ_pos _) d rfl
  rw[zz0,hd]
  exact tS (i:=i) (fun j hj x hx=>a (j+1) (Nat.succ_lt_succ hj) x (by simpa using hx)) (by simpa using h) q
theorem aG {p:PyData→Bool}{l:List PyData}(h:∀(j:Nat) d,l[j]?=some d→p d=false):l.find? p=none:=by
 rw[List.find?_eq_none]
 intro x hx
 obtain⟨j,hj⟩:=List.mem_iff_getElem?.mp hx
 rw[h j x hj];simp
theorem sS {d:PyData}(h:yT d=true):∃(s:Str) (i j:Int) (v:PyData),s∈words∧d=.tuple [.str s,.int i,.int j,v]∧0≤i∧i≤j∧j≤1000000∧zD (.str s) v=true:=by
 obtain⟨s,a,b,v,hs,rfl⟩:=xS h
 have h':(yp (.tuple [a,b])&&zD (.str s) v)=true:=h
 rw[zv6] at h'
 have h1:=h'.1
 unfold yp rK at h1
 split at h1
 ·rename_i k e
  split at e
  ·rename_i z
   cases z
   split at e
   ·rename_i q
    cases e
    rw[zv6] at q
    rename_i a' b'
    have qa:(decide (0≤a')&&decide (a'≤1000000))=true:=q.1
    have qb:(decide (0≤b')&&decide (b'≤1000000))=true:=q.2
    rw[zv6,zx2,zx2] at qa qb
    have h2:=zF8 h1
    exact⟨s,a',b',v,hs,rfl,qa.1,by omega,qb.2,h'.2⟩
   ·cases e
  ·cases e
 ·cases h1
theorem jH (a b v:PyData):um [(.str "first",a),(.str "last",b),(.str "worth",v)] "worth"=some v:=by
 show (if ("worth":Str)="first" then _ else _)=_
 rw[if_neg cE]
 show (if ("worth":Str)="last" then _ else _)=_
 rw[if_neg de]
 show (if ("worth":Str)="worth" then _ else _)=_
 rw[if_pos rfl]
def pN :List A→(A→Prop)→Prop:=fun as Q=>∃x,as=[.dat (.str x)]∧x∈words∧Q (.dat (cp x))
def md (C:Addr)(w:Str):List A→(A→Prop)→Prop:=fun as Q=>∃a b v,as=[.dat (sI C a b v)]∧Q (.dat (.str w))
def tX (C:Addr):List A→(A→Prop)→Prop:=fun as Q=>∃(a b day:Int) (v:PyData),as=[.dat (sI C (.int a) (.int b) v),.dat (.int day)]∧Q (.dat (.bool (decide (a≤day)&&decide (day≤b))))
def uh (C:Addr)(cs:Cs):List A→(A→Prop)→Prop:=fun as Q=>∃ds x day,as=[.dat (yu C cs ds),.dat (.str x),.dat (.int day)]∧Rules ds∧x∈words∧Q (.dat (zm ds x day))
section
variable {P:Program}{w:World}{K:PySem.W.Frag}{mg:Str→Option Value}{base:Heap}{cs:Cs}
theorem zp8 :zl ["word"] ["word"] (zb ma):=⟨rfl,rfl,rfl,by decide +kernel,rfl,by decide +kernel,by decide +kernel⟩
theorem iA {f dU:Addr}{fd:FuncData}(F:Fun K "usual" "usual" ma f fd)(hm:mg "usual"=some (.ref f))(hb:Binds K fd ["word"] [])(mU:mg "USUAL"=some (.ref dU))(DU:kq K w dU tbU):Cal P w K mg base "usual" 1 pN:=by
 refine vJ F hm hb zp8 (fun as Q h=>?_) (fun cdv A' outer s H E as Q hr h=>?_)
 ·obtain⟨x,rfl,_⟩:=h
  rfl
 ·obtain⟨x,rfl,hx,q⟩:=h
  obtain⟨v,h1,h2⟩:=zf9 hx
  exact vg (eU (by rfl) mU DU (zc 0 rfl ⟨x,cp x,v,rfl,h1,h2,q⟩))
theorem yW {C f fIn fT fE:Addr}{fd:FuncData}{wd:Str}(R:xY K C fIn fT fE f)(hb:Binds K fd ["self"] [])(G:zA P w K mg base CX0 1 f fd ["self"] (wG wd)):wF P w K mg base C "word" 1 (md C wd):=by
 refine⟨f,fd,_,R.cl,R.word,hb,G.imp fun vs H Q E h=>?_⟩
 obtain⟨F,as,Q',rfl,t,o,rv,⟨a,b,v,rfl,q⟩,kk⟩:=h
 obtain⟨x,rfl,av⟩:=rv.one
 obtain⟨p,dx,fs,rfl,h1,h2⟩:=av.ins_inv
 exact⟨p,rfl,kk _ _ _ q ⟨t,Kz.refl,.str _⟩⟩
theorem yB {C f fIn fT fWd:Addr}{fd:FuncData}(R:xY K C fIn fT f fWd)(hb:Binds K fd ["self","day"] [])(G:zA P w K mg base CX0 1 f fd ["self","day"] (ky C)):wF P w K mg base C "tells" 1 (tX C):=by
 refine⟨f,fd,_,R.cl,R.tells,hb,G.imp fun vs H Q E h=>?_⟩
 obtain⟨F,as,Q',rfl,t,o,rv,⟨a,b,day,v,rfl,q⟩,kk⟩:=h
 obtain⟨x,y,rfl,av,ay⟩:=rv.two
 cases ay.int_inv
 obtain⟨p,dx,fs,rfl,h1,h2⟩:=av.ins_inv
 cases h2 with
 |cons g1 h2=>
  cases h2 with
  |cons g2 h2=>
   cases h2 with
   |cons g3 h2=>
    cases h2
    cases g1.int_inv
    cases g2.int_inv
    exact⟨p,dx,a,b,day,_,rfl,by rw[qT];exact (zj h1).2,kk _ _ _ q ⟨t,Kz.refl,.bl _⟩⟩
theorem zk8 :zl ["self","word","day","rule"] ["self","word","day"] (zb pK):=⟨rfl,rfl,rfl,by decide +kernel,rfl,by decide +kernel,by decide +kernel⟩
set_option maxHeartbeats 4000000 in
theorem jU {f C:Addr}{fd:FuncData}(F:Fun K "tells_of" "Book.tells_of" pK f fd)(c:Cls K C)(na:yH K C "kept")(nb:NbT mg)(CU:Cal P w K mg base "usual" 1 pN)(OW:∀u∈words,wF P w K mg base (cs.of u) "word" 1 (md (cs.of u) u))(OR:∀u∈words,wF P w K mg base (cs.of u) "tells" 1 (tX (cs.of u)))
  (OC:∀u∈words,Cls K (cs.of u)∧yH K (cs.of u) "worth"):zA P w K mg base CX0 2 f fd ["self","word","day"] (spA (uh C cs)):=by
 refine fnA F zk8 (fun as Q h=>?_) (fun cdv A' outer s H E as Q hr h=>?_)
 ·obtain⟨ds,x,d,rfl,_⟩:=h
  rfl
 ·obtain⟨ds,x,day,rfl,rd,hx,q⟩:=h
  refine wY (pat:=.one 3) zz1 rfl (yg (i:=3) zk8.nd rfl (Or.inl rfl)) (ze2 (by rfl) nb.reversed (lW c na (zc 0 rfl ⟨_,_,rfl,rfl,⟨_,rfl,?_⟩⟩)))
  refine xh (fun i α=>(∃v3,α=[some (.dat (yu C cs ds)),some (.dat (.str x)),some (.dat (.int day)),v3])∧∀j<i,∀d,ds.reverse[j]?=some d→ag x day d=false) ⟨⟨none,rfl⟩,fun j hj=>absurd hj (Nat.not_lt_zero _)⟩ ?_ ?_
  ·rintro i d α hd ⟨⟨v3,rfl⟩,hno⟩
   rw[←List.map_reverse,zv2,zw9] at hd
   obtain⟨e,he,rfl⟩:=hd
   have hme:e∈ds:=List.mem_reverse.mp (zy7 he)
   obtain⟨u,a,b,v,hu,rfl,_,_,_,_⟩:=sS (rd e hme).1
   refine⟨_,rfl,?_⟩
   refine yS (EvW.t (ae (fun _ k=>zi9 (tP (OW u hu) hr (zc 3 rfl ⟨_,rfl,rfl,_,_,_,rfl,zc 1 rfl ⟨_,_,rfl,rfl,k⟩⟩)))
    (fun hp _ k=>kH (yZ (xg (OR u hu) hr (zc 3 rfl ⟨_,rfl,rfl,zf (zc 2 rfl (zo ⟨_,_,_,_,rfl,_,rfl,k⟩))⟩)))) ?_))
   refine xN (fun h=>?_) (fun h=>?_)
   ·refine vg (lW (OC u hu).1 (OC u hu).2 (zc 3 rfl ⟨_,_,rfl,jH _ _ _,?_⟩))
    have e1:ds.reverse.find? (ag x day)=some (.tuple [.str u,.int a,.int b,v]):=tS hno he h
    unfold zm at q
    rw[e1] at q
    exact q
   ·refine zB (zB ⟨⟨_,rfl⟩,fun j hj d' hd'=>?_⟩)
    rcases zA6 j i with z|z
    ·exact hno j z d' hd'
    ·have:j=i:=by omega
     subst this
     rw[he] at hd';cases hd'
     exact h
  ·rintro α ⟨⟨v3,rfl⟩,hno⟩
   refine vg (yn CU (hr.mono (by decide)) (by rfl) (zf (zc 1 rfl (zo ⟨x,rfl,hx,?_⟩))))
   have e1:ds.reverse.find? (ag x day)=none:=aG fun j d hd=>hno j (by
    have:=(zt8.mp hd).1
    rw[zE1,zt4]
    rwa [zE1] at this) d hd
   unfold zm at q
   rw[e1] at q
   exact q
end
theorem xj (d:PyData):zD (.str "price") d=(isNone d||vm d):=by unfold zD;rw[if_pos (by decide +kernel)]
theorem rg (d:PyData):zD (.str "come") d=isBool d:=by unfold zD;rw[if_neg (by decide +kernel),if_pos (by decide +kernel)]
theorem oN (d:PyData):zD (.str "go") d=isBool d:=by unfold zD;rw[if_neg (by decide +kernel),if_pos (by decide +kernel)]
theorem uX (d:PyData):zD (.str "least") d=yk 1 14 d:=by unfold zD;rw[if_neg (by decide +kernel),if_neg (by decide +kernel),if_pos (by decide +kernel)]
theorem sO (d:PyData):zD (.str "most") d=yk 1 14 d:=by unfold zD;rw[if_neg (by decide +kernel),if_neg (by decide +kernel),if_pos (by decide +kernel)]
theorem vW (d:PyData):zD (.str "deal") d=(isNone d||uA d):=by unfold zD;rw[if_neg (by decide +kernel),if_neg (by decide +kernel),if_neg (by decide +kernel),if_pos (by decide +kernel)]
theorem qu (d:PyData):zD (.str "fee") d=vm d:=by
 unfold zD
 rw[if_neg (by decide +kernel),if_neg (by decide +kernel),if_neg (by decide +kernel),if_neg (by decide +kernel),show eqS (.str "fee") "fee"=true by decide +kernel,zz5]
theorem within_int {lo hi i:Int}(h1:lo≤i)(h2:i≤hi):yk lo hi (.int i)=true:=by
 show (decide (lo≤i)&&decide (i≤hi))=true
 rw[zD2 h1,zD2 h2]<;>rfl
theorem eE {i:Int}(h0:-2000000000000≤i)(h1:i≤2000000000000):zX 2000 (.int i):=zX.int (by unfold big;omega) (by unfold big;omega)
def qP :List A→(A→Prop)→Prop:=fun as Q=>as=[.tape]∧∀z:Int,0≤z→z≤1000000000000→Q (.dat (.int z))
def pX :List A→(A→Prop)→Prop:=fun as Q=>∃wd,as=[.tape,.dat (.str wd)]∧wd∈words∧∀d,zD (.str wd) d=true→zX 5000 d→d.depth≤1→Q (.dat d)
theorem br {m f:Int}(h0:2≤m)(h1:m≤14)(h2:1≤f)(h3:f<m):zD (.str "deal") (.tuple [.int m,.int f])=true∧zX 5000 (.tuple [.int m,.int f])∧(PyData.tuple [.int m,.int f]).depth≤1:=by
 have hbig:(1000001:Int)<big:=by decide
 have hneg:-big<(0:Int):=by decide
 refine⟨?_,zX.tuple (n:=2000) (yo.two (zX.int (by omega) (by omega)) (zX.int (by omega) (by omega)) (zv3 _) (zv3 _)) (by show 2*(2000+2)+3≤5000;decide),by simp[PyData.depth,PyData.depthAll]⟩
 rw[vW]
 show (false||(yk 2 14 (.int m)&&yk 1 (m-1) (.int f)))=true
 rw[within_int h0 h1,within_int h2 (by omega)]
 rfl
end K42
set_option compiler.extract_closed false
set_option hygiene false in
local macro_rules
 |`(tactic| exists $f,$a)=>`(tactic| first|refine $f 0 $a ?_|refine $f 1 $a ?_|refine $f 2 $a ?_|refine $f 3 $a ?_|refine $f 4 $a ?_|refine $f 5 $a ?_|refine $f 6 $a ?_|refine $f 7 $a ?_|refine $f 8 $a ?_|refine $f 9 $a ?_|refine $f 10 $a ?_|refine $f 11 $a ?_|refine $f 12 $a ?_|refine $f 13 $a ?_|refine $f 14 $a ?_|refine $f 15 $a ?_|refine $f 16 $a ?_|refine $f 17 $a ?_)
set_option hygiene false in
local macro_rules
 |`(tactic| and_intros)=>`(tactic| repeat (first
  |((with_reducible show EvD _ _ _ _);first
   |((with_reducible show EvD _ _ (.Name _ _) _);exists zc,rfl)
   |((with_reducible show EvD _ _ (.Constant _ _ _) _);first|with_reducible refine yc ?_|with_reducible refine zY ?_|with_reducible refine za7 ?_|with_reducible refine sR ?_)
   |((with_reducible show EvD _ _ (.BinOp (.Constant (.int 10) _ _) .Pow (.Constant (.int 6) _ _) _) _);refine qM (r:=1000000) ⟨by decide,by decide,by decide⟩ (by decide) ?_)
   |((with_reducible show EvD _ _ (.BinOp (.Constant (.int 10) _ _) .Pow (.Constant (.int 12) _ _) _) _);refine qM (r:=1000000000000) ⟨by decide,by decide,by decide⟩ (by decide) ?_)
   |((with_reducible show EvD _ _ (.BinOp (.Constant (.int 10) _ _) .Pow (.Constant (.int 9) _ _) _) _);refine qM (r:=1000000000) ⟨by decide,by decide,by decide⟩ (by decide) ?_)
   |((with_reducible show EvD _ _ (.BinOp (.Constant (.int 10) _ _) .Pow (.Constant (.int 11) _ _) _) _);refine qM (r:=100000000000) ⟨by decide,by decide,by decide⟩ (by decide) ?_)
   |((with_reducible show EvD _ _ (.BinOp _ .Add (.List _ _) _) _);refine EvL.d (wM ?_))
   |((with_reducible show EvD _ _ (.BinOp (.List _ _) .Add _ _) _);refine EvL.d (wM ?_))
   |((with_reducible show EvD _ _ (.BinOp (.Subscript _ (.Slice _ _ none _) _) .Add _ _) _);refine EvL.d (wM ?_))
   |((with_reducible show EvD _ _ (.BinOp _ .Add (.Subscript _ (.Slice _ _ none _) _) _) _);refine EvL.d (wM ?_))
   |((with_reducible show EvD _ _ (.BinOp (.Call (.Attribute _ "rules" _) _ _ _) .Add _ _) _);refine EvL.d (wM ?_))
   |with_reducible refine xF ?_
   |with_reducible refine pe ?_
   |with_reducible refine ev_mod ?_
   |with_reducible refine ev_fdiv ?_
   |with_reducible refine ev_mul ?_
   |with_reducible refine ev_shl ?_
   |with_reducible refine ev_neg ?_
   |with_reducible refine ev_not ?_
   |with_reducible refine yR ?_
   |((with_reducible show EvD _ _ (.Subscript _ (.Slice _ _ none _) _) _);refine EvL.d (el_sl ?_))
   |((with_reducible show EvD _ _ (.Subscript _ _ _) _);refine zj4 hr.one (fun _ _=>rfl) ?_)
   |((with_reducible show EvD _ _ (.List _ _) _);refine EvL.d (xp ?_))
   |((with_reducible show EvD _ _ (.Call (.Name "len" _) [.Call (.Name "set" _) _ _ _] _ _) _);refine ev_lenSet rfl (by rfl) nb.len (by rfl) (by assumption) ?_)
   |((with_reducible show EvD _ _ (.Call (.Name "len" _) _ _ _) _);refine qO (by rfl) nb.len ?_)
   |((with_reducible show EvD _ _ (.Call (.Name "min" _) [_,_] _ _) _);refine ev_min rfl (by rfl) nb.min ?_)
   |((with_reducible show EvD _ _ (.Call (.Name "max" _) [_,_] _ _) _);refine ev_max rfl (by rfl) nb.max ?_)
   |((with_reducible show EvD _ _ (.Call (.Name "list" _) _ _ _) _);refine EvL.d (kg (by rfl) nb.list ?_))
   |((with_reducible show EvD _ _ (.Call (.Name "repr" _) _ _ _) _);refine qL hr.gd hr.units (by rfl) nb.repr ?_)
   |((with_reducible show EvD _ _ (.Call (.Name "min" _) [_] _ _) _);refine ev_minI rfl hr.few (by rfl) nb.min ?_)
   |((with_reducible show EvD _ _ (.Call (.Name "isinstance" _) _ _ _) _);first|refine uE (by rfl) nb.isinstance (by rfl) nb.int boot_int ?_|refine uE (by rfl) nb.isinstance (by rfl) nb.bool boot_bool ?_|refine uE (by rfl) nb.isinstance (by rfl) nb.str boot_str ?_|refine uE (by rfl) nb.isinstance (by rfl) nb.list boot_list ?_|refine uE (by rfl) nb.isinstance (by rfl) nb.tuple boot_tuple ?_)
   |((with_reducible show EvD _ _ (.Call (.Name "int" _) _ _ _) _);refine ev_intB (by rfl) nb.int ?_)
   |((with_reducible show EvD _ _ (.Call (.Name _ _) _ _ _) _);first|refine bL (by with_reducible assumption) (by exact⟨rfl,rfl,rfl,rfl,rfl⟩) (hr.mono (by decide)) (by rfl) ?_|refine EvN.d (gF (by with_reducible assumption) (by exact⟨rfl,rfl,rfl,rfl,rfl⟩) (hr.mono (by decide)) (by rfl) ?_))
   |((with_reducible show EvD _ _ (.Call (.Attribute _ _ _) (_::_) _ _) _);refine dM (by with_reducible assumption) (by exact⟨rfl,rfl,rfl,rfl,rfl⟩) (hr.mono (by decide)) ?_)
   |((with_reducible show EvD _ _ (.Call (.Attribute _ _ _) [] _ _) _);refine iM (by with_reducible assumption) (by exact⟨rfl,rfl,rfl,rfl,rfl⟩) (hr.mono (by decide)) ?_)
   |((with_reducible show EvD _ _ (.Compare _ [_] _ _) _);first|with_reducible refine aS ?_|with_reducible refine ev_le ?_|with_reducible refine ev_gt ?_|with_reducible refine ev_ge ?_|with_reducible refine ev_isN ?_|with_reducible refine ev_notN ?_|((with_reducible show EvD _ _ (.Compare _ [.Eq] _ _) _);refine ze7 hr.units ?_)|((with_reducible show EvD _ _ (.Compare _ [.NotEq] _ _) _);refine ev_nek hr.units ?_)|((with_reducible show EvD _ _ (.Compare _ [.In] _ _) _);refine ev_ink hr.one ?_)|((with_reducible show EvD _ _ (.Compare _ [.NotIn] _ _) _);refine ev_nink hr.one ?_)|((with_reducible show EvD _ _ (.Compare _ [.Is] [.Constant (.bool _) _ _] _) _);refine ev_isB ?_))
   |((with_reducible show EvD _ _ (.Compare _ [_,_] _ _) _);first|refine ev_lelt ?_|refine ev_ltle ?_|refine ev_lele' ?_)
   |((with_reducible show EvD _ _ (.BoolOp _ _ _) _);first|with_reducible refine ev_and ?_|with_reducible refine ev_or ?_|with_reducible refine ev_one ?_)
   |with_reducible refine ll ?_)
  |((with_reducible show EvA _ _ _ _);first
   |with_reducible refine zo ?_
   |((with_reducible show EvA _ _ (.Name "_law_tape_here" _::_) _);exists zZ,rfl)
   |refine zf ?_)
  |((with_reducible show EvT _ _ _ _);first
   |((with_reducible show EvT _ _ (.Compare _ [_] _ _) _);first|with_reducible refine aR ?_|with_reducible refine et_le ?_|with_reducible refine eu ?_|with_reducible refine et_ge ?_|with_reducible refine wH ?_|with_reducible refine et_notN ?_|((with_reducible show EvT _ _ (.Compare _ [.Eq] _ _) _);refine zf7 hr.units ?_)|((with_reducible show EvT _ _ (.Compare _ [.NotEq] _ _) _);refine zd4 hr.units ?_)|((with_reducible show EvT _ _ (.Compare _ [.In] _ _) _);refine et_ink hr.one ?_)|((with_reducible show EvT _ _ (.Compare _ [.NotIn] _ _) _);refine et_nink hr.one ?_)|((with_reducible show EvT _ _ (.Compare _ [.Is] [.Constant (.bool _) _ _] _) _);refine et_isB ?_)|((with_reducible show EvT _ _ (.Compare _ [.IsNot] [.Constant (.bool _) _ _] _) _);refine et_isntB ?_))
   |((with_reducible show EvT _ _ (.Compare _ [_,_] _ _) _);first|refine et_lelt ?_|refine et_ltle ?_|refine et_lele' ?_)
   |with_reducible refine vT ?_
   |((with_reducible show EvT _ _ (.BoolOp _ _ _) _);with_reducible refine EvW.t ?_)
   |refine nC ?_)
  |((with_reducible show EvL _ _ _ _);first
   |with_reducible refine xp ?_
   |((with_reducible show EvL _ _ (.Call (.Name "list" _) _ _ _) _);refine kg (by rfl) nb.list ?_)
   |((with_reducible show EvL _ _ (.Call (.Name _ _) _ _ _) _);refine el_calR (by with_reducible assumption) (by exact⟨rfl,rfl,rfl,rfl,rfl⟩) (hr.mono (by decide)) (by rfl) ?_)
   |((with_reducible show EvL _ _ (.Call (.Attribute _ _ _) [] _ _) _);refine el_meth0R (by with_reducible assumption) (by exact⟨rfl,rfl,rfl,rfl,rfl⟩) (hr.mono (by decide)) ?_)
   |((with_reducible show EvL _ _ (.Subscript _ (.Slice _ _ none _) _) _);refine el_sl ?_)
   |((with_reducible show EvL _ _ (.BinOp _ .Add _ _) _);refine wM ?_))
  |((with_reducible show EvW _ _ _ _);first
   |with_reducible refine eX ?_
   |with_reducible refine ug ?_
   |with_reducible refine kH ?_
   |with_reducible refine rz ?_)
  |((with_reducible show EvO _ _ _ _);first
   |with_reducible refine eo_none ?_
   |with_reducible refine eo_some ?_)
  |((with_reducible show eY _ _ _);first
   |refine ixk rfl rfl rfl ?_
   |refine ixk_0 ?_
   |refine ixk_1 ?_)
  |((with_reducible show InOk _ _ _ _);first
   |refine ink rfl rfl ?_
   |refine inkT rfl rfl ?_)
  |((with_reducible show jS _ _ _);first
   |with_reducible refine eqk_int ?_
   |with_reducible refine bK ?_
   |with_reducible refine eqk_bool ?_
   |refine eqk rfl rfl rfl rfl ?_)
  |((with_reducible show SvS _ _ _ _);first
   |((with_reducible show SvS _ (List.set _ _ _) _ _);dsimp only[List.set])
   |((with_reducible show SvS _ _ (zw _) _);show SvS _ _ (_::_) _)
   |((with_reducible show SvS _ _ (.Assign [.Name _ _] (.List [] _) _::_) _);exists wA,nd)
   |((with_reducible show SvS _ _ (.Assign [.Name _ _] _ _::_) _);exists zQ,nd)
   |((with_reducible show SvS _ _ (.Expr (.Call (.Attribute _ "append" _) _ _ _) _::_) _);exists yv,rfl)
   |((with_reducible show SvS _ _ (.Return (some (.Name _ _)) _::_) _);exists xU,rfl)
   |with_reducible refine vg ?_
   |with_reducible refine sv_cont ?_
   |with_reducible refine sv_pass ?_
   |with_reducible refine yS ?_
   |with_reducible refine zB ?_
   |((with_reducible refine kX ?hk ?_);case hk=>first|rfl|decide +kernel)
   |((with_reducible refine vB ?hk ?_);case hk=>first|rfl|decide +kernel))
  |((with_reducible show xV _ _);refine⟨_,rfl,by first|decide|omega,by first|decide|(show _<big;unfold big;omega),fun _ _ _=>?_⟩)
  |((with_reducible refine zl8 ?hk ?_);case hk=>first|rfl|decide +kernel)
  |((with_reducible refine uk ?hk ?_);case hk=>first|rfl|decide +kernel)
  |refine⟨_,_,rfl,rfl,?_⟩
  |refine⟨_,_,_,rfl,rfl,rfl,?_⟩
  |refine⟨_,rfl,zu6 rfl,?_⟩
  |refine⟨_,rfl,rfl,?_⟩
  |refine⟨_,rfl,?_⟩))
namespace K42
open PySem PySem.Spec PyProof.Rows L2
abbrev qI :Stmt:=top 53
abbrev qX :Stmt:=top 54
section
variable {P:Program}{w:World}{K:PySem.W.Frag}{mg:Str→Option Value}{base:Heap}{cs:Cs}
theorem zp6 :zl ["_law_tape_here"] ["_law_tape_here"] (zb qI):=⟨rfl,rfl,rfl,by decide +kernel,rfl,by decide +kernel,by decide +kernel⟩
theorem iq {f:Addr}{fd:FuncData}(F:Fun K "_law_coins" "_law_coins" qI f fd)(hm:mg "_law_coins"=some (.ref f))(hb:Binds K fd ["_law_tape_here"] [])(CD:Cal P w K mg base "_law_draw" 1 xV):Cal P w K mg base "_law_coins" 2 qP:=by
 refine vJ F hm hb zp6 (fun as Q h=>?_) (fun cdv A' outer s H E as Q hr h=>?_)
 ·obtain⟨rfl,_⟩:=h
  rfl
 ·obtain⟨rfl,q⟩:=h
  have nd:=zp6.nd
  and_intros
  exact pw rfl (by assumption) (by assumption) ⟨q _ (by omega) (by omega),q _ (by omega) (by omega),q _ (by omega) (by omega),q _ (by omega) (by omega),q _ (by omega) (by omega),trivial⟩
theorem zm3 :zl ["_law_tape_here","_law_word","_law_many"] ["_law_tape_here","_law_word"] (zb qX):=⟨rfl,rfl,rfl,by decide +kernel,rfl,by decide +kernel,by decide +kernel⟩
set_option maxHeartbeats 4000000 in
theorem iN {f:Addr}{fd:FuncData}(F:Fun K "_law_worth" "_law_worth" qX f fd)(hm:mg "_law_worth"=some (.ref f))(hb:Binds K fd ["_law_tape_here","_law_word"] [])(CD:Cal P w K mg base "_law_draw" 1 xV)(CC:Cal P w K mg base "_law_coins" 2 qP):Cal P w K mg base "_law_worth" 3 pX:=by
 refine vJ F hm hb zm3 (fun as Q h=>?_) (fun cdv A' outer s H E as Q hr h=>?_)
 ·obtain⟨wd,rfl,_⟩:=h
  rfl
 ·obtain⟨wd,rfl,hw,q⟩:=h
  have nd:=zm3.nd
  have qc:∀z:Int,0≤z→z≤1000000000000→vm (.int z)=true:=fun z h0 h1=>within_int h0 h1
  have hbig:(1000000000001:Int)<big:=by decide
  have hneg:-big<(0:Int):=by decide
  have nc:∀z:Int,0≤z→z≤1000000000000→zX 5000 (.int z):=fun z h0 h1=>(zX.int (by omega) (by omega)).mono (by decide)
  have qn:zD (.str wd) .none=true→Q (.dat .none):=fun h=>q _ h (zX.none.mono (by decide)) (zv3 _)
  have qi:∀z:Int,0≤z→z≤1000000000000→zD (.str wd) (.int z)=true→Q (.dat (.int z)):=fun z a b h=>q _ h (nc z a b) (zv3 _)
  have qd:∀m f:Int,wd="deal"→2≤m→m≤14→1≤f→f<m→Q (.dat (.tuple [.int m,.int f])):=fun m f e a b c d=>by
   subst e
   obtain⟨x,y,z⟩:=br a b c d
   exact q _ x y z
  have qp:∀z:Int,0≤z→z≤1000000000000→wd="price"→Q (.dat (.int z)):=fun z a b e=>by
   subst e
   exact qi z a b (by rw[xj,qc z a b,Bool.or_true])
  simp only[words,zu1,zu8,zx1] at hw
  rcases hw with rfl|rfl|rfl|rfl|rfl|rfl|rfl
  ·and_intros
   refine⟨rfl,fun z1 a1 b1=>?_⟩
   and_intros
   refine⟨rfl,fun z2 a2 b2=>?_⟩
   and_intros
   exact pw rfl (by assumption) (by assumption) ⟨qn (by rw[xj]<;>rfl),qp z1 a1 b1 rfl,qp z2 a2 b2 rfl,trivial⟩
  ·and_intros
   exact q _ (by rw[rg]<;>rfl) ((zX.bool _).mono (by decide)) (zv3 _)
  ·and_intros
   exact q _ (by rw[oN]<;>rfl) ((zX.bool _).mono (by decide)) (zv3 _)
  ·and_intros
   exact qi _ (by omega) (by omega) (by rw[uX];exact within_int (by omega) (by omega))
  ·and_intros
   exact qi _ (by omega) (by omega) (by rw[sO];exact within_int (by omega) (by omega))
  ·and_intros
   exact pw rfl (by assumption) (by assumption) ⟨qn (by rw[vW]<;>rfl),qd _ _ rfl (by omega) (by omega) (by omega) (by omega),qd _ _ rfl (by omega) (by omega) (by omega) (by omega),qd _ _ rfl (by omega) (by omega) (by omega) (by omega),trivial⟩
  ·and_intros
   refine⟨rfl,fun z1 a1 b1=>?_⟩
   exact qi z1 a1 b1 (by rw[qu];exact qc z1 a1 b1)
end
structure rq (d:PyData):Prop where
 rule:yT d=true
 nice:zX 20011 d
 dep:d.depth≤2
 wn:zX 5000 (kN d)
def zG (ds:List PyData):Prop:=∀d∈ds,rq d
theorem qq {s:Str}(h:s∈words):zX 2000 (.str s):=by
 simp only[words,zu1,zu8,zx1] at h
 rcases h with rfl|rfl|rfl|rfl|rfl|rfl|rfl<;>exact⟨rfl,rfl,zv3 _,by decide +kernel,by decide +kernel⟩
theorem rq.of {s:Str}{i j:Int}{d:PyData}(hs:s∈words)(i0:0≤i)(ij:i≤j)(j1:j≤1000000)(hw:zD (.str s) d=true)(hn:zX 5000 d)(hd:d.depth≤1):rq (.tuple [.str s,.int i,.int j,d]):=by
 have hbig:(1000001:Int)<big:=by decide
 have hneg:-big<(0:Int):=by decide
 have na:yo 5000 [.str s,.int i,.int j,d]:=by
  constructor
  ·intro x hx
   simp only[zu1,zu8,zx1] at hx
   rcases hx with rfl|rfl|rfl|rfl
   ·exact (qq hs).mono (by decide)
   ·exact (zX.int (by omega) (by omega)).mono (by decide)
   ·exact (zX.int (by omega) (by omega)).mono (by decide)
   ·exact hn
  ·intro x hx
   simp only[zu1,zu8,zx1] at hx
   rcases hx with rfl|rfl|rfl|rfl
   ·exact zv3 _
   ·exact zv3 _
   ·exact zv3 _
   ·omega
 refine⟨?_,zX.tuple na (by show 4*(5000+2)+3≤20011;decide),?_,hn⟩
 ·show (yp (.tuple [.int i,.int j])&&zD (.str s) d)=true
  rw[hw,Bool.and_true]
  unfold yp rK
  have h1:(uo (.int i)&&uo (.int j))=true:=by
   show ((decide (0≤i)&&decide (i≤1000000))&&(decide (0≤j)&&decide (j≤1000000)))=true
   simp only[zv6,zx2]
   omega
  simp only[h1,if_true,zx2]
  omega
 ·simp only[PyData.depth,PyData.depthAll]
  omega
theorem zG.rules {ds:List PyData}(h:zG ds):Rules ds:=fun d hd=>⟨(h d hd).rule,(h d hd).nice.shaped,(h d hd).nice.nod⟩
theorem zG.nice {ds:List PyData}(h:zG ds)(hl:ds.length≤100):zX sizeLine (.list ds):=by
 refine zX.list (n:=20011) ⟨fun d hd=>(h d hd).nice,fun d hd=>by have:=(h d hd).dep;omega⟩ ?_
 have h2:ds.length*(20011+2)≤100*(20011+2):=zD8 _ hl
 have h3:100*(20011+2)+2≤sizeLine:=by decide
 omega
def Bd (bs dy:Int):Prop:=0≤bs∧bs≤999980∧1≤dy∧dy≤14
theorem zG.app {ds es:List PyData}(h:zG ds)(h':zG es):zG (ds++es):=fun x hx=>by
 rcases zA0.mp hx with hx|hx
 ·exact h x hx
 ·exact h' x hx
theorem dD {c:Int}(h0:0≤c)(h1:c≤1000000000000):vm (.int c)=true:=within_int h0 h1
def wZ (lo hi:Int)(d:PyData):Prop:=∃(s:Str) (i j:Int) (v:PyData),d=.tuple [.str s,.int i,.int j,v]∧s∈words∧lo≤i∧i≤j∧j≤hi∧zD (.str s) v=true∧zX 5000 v∧v.depth≤1
def yA (lo hi:Int)(ds:List PyData):Prop:=∀d∈ds,wZ lo hi d
theorem wZ.of {lo hi:Int}{s:Str}{i j:Int}{d:PyData}(hs:s∈words)(i0:lo≤i)(ij:i≤j)(j1:j≤hi)(hw:zD (.str s) d=true)(hn:zX 5000 d)(hd:d.depth≤1):wZ lo hi (.tuple [.str s,.int i,.int j,d]):=⟨s,i,j,d,rfl,hs,i0,ij,j1,hw,hn,hd⟩
theorem wZ.ok {lo hi:Int}{d:PyData}(h:wZ lo hi d)(h0:0≤lo)(h1:hi≤1000000):rq d:=by
 obtain⟨s,i,j,v,rfl,hs,i0,ij,j1,hw,hn,hd⟩:=h
 exact rq.of hs (by omega) ij (by omega) hw hn hd
theorem yA.ok {lo hi:Int}{ds:List PyData}(h:yA lo hi ds)(h0:0≤lo)(h1:hi≤1000000):zG ds:=fun d hd=>(h d hd).ok h0 h1
theorem yA.snoc {lo hi:Int}{ds:List PyData}{d:PyData}(h:yA lo hi ds)(hd:wZ lo hi d):yA lo hi (ds++[d]):=fun x hx=>by
 rcases zA0.mp hx with hx|hx
 ·exact h x hx
 ·rw[zw2.mp hx];exact hd
theorem yA.app {lo hi:Int}{ds es:List PyData}(h:yA lo hi ds)(h':yA lo hi es):yA lo hi (ds++es):=fun x hx=>by
 rcases zA0.mp hx with hx|hx
 ·exact h x hx
 ·exact h' x hx
theorem yA.nil {lo hi:Int}:yA lo hi []:=fun x hx=>by simp at hx
theorem sN {lo hi i j c:Int}(i0:lo≤i)(ij:i≤j)(j1:j≤hi)(h0:0≤c)(h1:c≤1000000000000):wZ lo hi (.tuple [.str "price",.int i,.int j,.int c]):=
 wZ.of (by simp[words]) i0 ij j1 (by rw[xj,dD h0 h1,Bool.or_true]) ((eE (by omega) (by omega)).mono (by decide)) (zv3 _)
theorem ka {lo hi i j:Int}(i0:lo≤i)(ij:i≤j)(j1:j≤hi):wZ lo hi (.tuple [.str "price",.int i,.int j,.none]):=
 wZ.of (by simp[words]) i0 ij j1 (by rw[xj]<;>rfl) (zX.none.mono (by decide)) (zv3 _)
def BdW (bs dy:Int):Prop:=0≤bs∧bs≤1000000∧1≤dy∧dy≤20
abbrev qR :Stmt:=top 55
abbrev pz :Stmt:=top 56
abbrev pk :Stmt:=top 57
def wc :List A→(A→Prop)→Prop:=fun as Q=>∃bs dy:Int,as=[.tape,.dat (.int bs),.dat (.int dy)]∧BdW bs dy∧∀ds,yA bs (bs+dy+5) ds→ds.length≤5→Q (.own ds)
def pU :List A→(A→Prop)→Prop:=fun as Q=>∃bs dy:Int,as=[.tape,.dat (.int bs),.dat (.int dy)]∧BdW bs dy∧∀ds,yA bs (bs+dy+5) ds→ds.length≤10→Q (.dat (.list ds))
section
variable {P:Program}{w:World}{K:PySem.W.Frag}{mg:Str→Option Value}{base:Heap}
theorem eH :zl ["_law_tape_here","_law_base","_law_days","_law_found","_law_k","_law_first","_law_worth_here"] ["_law_tape_here","_law_base","_law_days"] (zb qR):=⟨rfl,rfl,rfl,by decide +kernel,rfl,by decide +kernel,by decide +kernel⟩
set_option maxHeartbeats 4000000 in
theorem nP {f:Addr}{fd:FuncData}(F:Fun K "_law_price_rules" "_law_price_rules" qR f fd)(hm:mg "_law_price_rules"=some (.ref f))(hb:Binds K fd ["_law_tape_here","_law_base","_law_days"] [])(nb:NbT mg)(CD:Cal P w K mg base "_law_draw" 1 xV)(CC:Cal P w K mg base "_law_coins" 2 qP):Cal P w K mg base "_law_price_rules" 3 wc:=by
 refine vJ F hm hb eH (fun as Q h=>?_) (fun cdv A' outer s H E as Q hr h=>?_)
 ·obtain⟨bs,dy,rfl,_⟩:=h
  rfl
 ·obtain⟨bs,dy,rfl,⟨b1,b2,b3,b4⟩,q⟩:=h
  have hbig:(1000001:Int)<big:=by decide
  refine wA 3 eH.nd (xp (zf (yR (zf (zY (zf (zc 1 rfl (zf (xF (zc 1 rfl (zc 2 rfl (⟨_,_,rfl,rfl,zf (yn CC hr (by rfl) (zZ 0 rfl (zo (⟨rfl,fun c1 p1 q1=>zo (⟨_,rfl,zu6 rfl,zo (⟨_,rfl,zu6 rfl,?_⟩)⟩)⟩))))⟩))))))))))))
  refine wY (pat:=.one 4) zz1 rfl (yg (i:=4) eH.nd rfl (by first|exact Or.inl rfl|exact Or.inr rfl)) (vA (by rfl) nb.range (yn CD (hr.mono (by decide)) (by rfl) (zZ 0 rfl (zf (yc (zo (⟨_,rfl,by decide,by decide,fun v2 h2 g2=>⟨_,rfl,by omega,by omega,?_⟩⟩)))))))
  refine xh (fun i α=>∃v4 v5 v6 ds,α=[some .tape,some (.dat (.int bs)),some (.dat (.int dy)),some (.own ds),v4,v5,v6]∧yA bs (bs+dy+5) ds∧ds.length≤1+i) ⟨none,none,none,_,rfl,yA.nil.snoc (sN (by omega) (by omega) (by omega) p1 q1),zt9 _⟩ ?_ ?_
  ·rintro i d α hd ⟨v4,v5,v6,ds,rfl,ro,ld⟩
   have hi:i<4:=by
    have:=(zt8.mp hd).1
    rw[zt4,zi] at this
    omega
   refine⟨_,rfl,?_⟩
   refine zQ 5 eH.nd (xF (zc 1 rfl (yn CD (hr.mono (by decide)) (by rfl) (zZ 0 rfl (zf (zc 2 rfl (zo (⟨_,rfl,by omega,by omega,fun v3 h3 g3=>⟨_,_,rfl,rfl,?_⟩⟩))))))))
   refine zQ 6 eH.nd (EvD.imp (Q':=fun d=>d=.none∨∃c:Int,d=.int c∧0≤c∧c≤1000000000000) (lY (fun _ _=>rfl) (EvL.d (xp (zf (sR (zf (yn CC hr (by rfl) (zZ 0 rfl (zo (⟨rfl,fun c7 p7 q7=>zf (yn CC hr (by rfl) (zZ 0 rfl (zo (⟨rfl,fun c6 p6 q6=>zf (yn CC hr (by rfl) (zZ 0 rfl (zo (⟨rfl,fun c5 p5 q5=>zo (⟨_,rfl,zu6 rfl,yn CD (hr.mono (by decide)) (by rfl) (zZ 0 rfl (zf (yc (zo (⟨_,rfl,by decide,by decide,fun v4 h4 g4=>?pick⟩)))))⟩)⟩))))⟩))))⟩)))))))))) ?_)
   case pick=>
    obtain⟨z,hz,e⟩:=oV (ds:=[PyData.none,.int c7,.int c6,.int c5]) h4 g4
    refine⟨_,_,z,rfl,rfl,e,?_⟩
    simp only[zu1,zu8,zx1] at hz
    rcases hz with rfl|rfl|rfl|rfl
    ·exact .inl rfl
    ·exact .inr ⟨_,rfl,p7,q7⟩
    ·exact .inr ⟨_,rfl,p6,q6⟩
    ·exact .inr ⟨_,rfl,p5,q5⟩
   intro d6 hd6
   refine yv 3 rfl (yR (zf (zY (zf (zc 5 rfl (zf (xF (zc 5 rfl (yn CD (hr.mono (by decide)) (by rfl) (zZ 0 rfl (zf (yc (zo (⟨_,rfl,by decide,by decide,fun v8 h8 g8=>⟨_,_,rfl,rfl,zf (zc 6 rfl (zo (⟨_,rfl,zu6 rfl,⟨by omega,?_⟩⟩)))⟩⟩))))))))))))))
   refine zB ⟨some (.dat d),some (.dat (.int (bs+v3))),some (.dat d6),ds++[.tuple [.str "price",.int (bs+v3),.int (bs+v3+v8),d6]],rfl,ro.snoc ?_,by rw[zu9,zD1];omega⟩
   rcases hd6 with rfl|⟨c,rfl,c0,c1⟩
   ·exact ka (by omega) (by omega) (by omega)
   ·exact sN (by omega) (by omega) (by omega) c0 c1
  ·rintro α ⟨v4,v5,v6,ds,rfl,ro,ld⟩
   rw[zt4,zi] at ld
   exact xU 3 rfl (q ds ro (by omega))
theorem eS :zl ["_law_tape_here","_law_base","_law_days","_law_found","_law_k","_law_word","_law_first"] ["_law_tape_here","_law_base","_law_days"] (zb pz):=⟨rfl,rfl,rfl,by decide +kernel,rfl,by decide +kernel,by decide +kernel⟩
set_option maxHeartbeats 4000000 in
theorem kb {f:Addr}{fd:FuncData}(F:Fun K "_law_other_rules" "_law_other_rules" pz f fd)(hm:mg "_law_other_rules"=some (.ref f))(hb:Binds K fd ["_law_tape_here","_law_base","_law_days"] [])(nb:NbT mg)(CD:Cal P w K mg base "_law_draw" 1 xV)(CW:Cal P w K mg base "_law_worth" 3 pX):Cal P w K mg base "_law_other_rules" 4 wc:=by
 refine vJ F hm hb eS (fun as Q h=>?_) (fun cdv A' outer s H E as Q hr h=>?_)
 ·obtain⟨bs,dy,rfl,_⟩:=h
  rfl
 ·obtain⟨bs,dy,rfl,⟨b1,b2,b3,b4⟩,q⟩:=h
  have hbig:(1000001:Int)<big:=by decide
  refine wA 3 eS.nd (xp (zo (⟨_,rfl,zu6 rfl,?_⟩)))
  refine wY (pat:=.one 4) zz1 rfl (yg (i:=4) eS.nd rfl (by first|exact Or.inl rfl|exact Or.inr rfl)) (vA (by rfl) nb.range (yn CD (hr.mono (by decide)) (by rfl) (zZ 0 rfl (zf (yc (zo (⟨_,rfl,by decide,by decide,fun v1 h1 g1=>⟨_,rfl,by omega,by omega,?_⟩⟩)))))))
  refine xh (fun i α=>∃v4 v5 v6 ds,α=[some .tape,some (.dat (.int bs)),some (.dat (.int dy)),some (.own ds),v4,v5,v6]∧yA bs (bs+dy+5) ds∧ds.length≤i) ⟨none,none,none,_,rfl,yA.nil,zt9 _⟩ ?_ ?_
  ·rintro i d α hd ⟨v4,v5,v6,ds,rfl,ro,ld⟩
   have hi:i<5:=by
    have:=(zt8.mp hd).1
    rw[zt4,zi] at this
    omega
   refine⟨_,rfl,?_⟩
   refine zQ 5 eS.nd (EvD.imp (Q':=fun d=>∃x,d=.str x∧x∈words) (lY (fun _ _=>rfl) (EvL.d (xp (zf (zY (zf (zY (zf (zY (zf (zY (zf (zY (zf (zY (zo (⟨_,rfl,zu6 rfl,yn CD (hr.mono (by decide)) (by rfl) (zZ 0 rfl (zf (yc (zo (⟨_,rfl,by decide,by decide,fun v2 h2 g2=>?pick⟩)))))⟩))))))))))))))))) ?_)
   case pick=>
    obtain⟨z,hz,e⟩:=oV (ds:=[PyData.str "come",.str "go",.str "least",.str "most",.str "deal",.str "fee"]) h2 g2
    refine⟨_,_,z,rfl,rfl,e,?_⟩
    simp only[zu1,zu8,zx1] at hz
    rcases hz with rfl|rfl|rfl|rfl|rfl|rfl<;>exact⟨_,rfl,by simp[words]⟩
   rintro _ ⟨wd,rfl,hw⟩
   refine zQ 6 eS.nd (xF (zc 1 rfl (yn CD (hr.mono (by decide)) (by rfl) (zZ 0 rfl (zf (zc 2 rfl (zo (⟨_,rfl,by omega,by omega,fun v3 h3 g3=>⟨_,_,rfl,rfl,?_⟩⟩))))))))
   refine yv 3 rfl (yR (zf (zc 5 rfl (zf (zc 6 rfl (zf (xF (zc 6 rfl (yn CD (hr.mono (by decide)) (by rfl) (zZ 0 rfl (zf (yc (zo (⟨_,rfl,by decide,by decide,fun v5 h5 g5=>⟨_,_,rfl,rfl,zf (yn CW hr (by rfl) (zZ 0 rfl (zf (zc 5 rfl (zo (⟨_,rfl,hw,fun d4 a4 b4 c4=>zo (⟨_,rfl,zu6 rfl,⟨by omega,?_⟩⟩)⟩))))))⟩⟩))))))))))))))
   exact zB ⟨some (.dat d),some (.dat (.str wd)),some (.dat (.int (bs+v3))),ds++[.tuple [.str wd,.int (bs+v3),.int (bs+v3+v5),d4]],rfl,ro.snoc (wZ.of hw (by omega) (by omega) (by omega) a4 b4 c4),by rw[zu9,zD1];omega⟩
  ·rintro α ⟨v4,v5,v6,ds,rfl,ro,ld⟩
   rw[zt4,zi] at ld
   exact xU 3 rfl (q ds ro (by omega))
theorem ze5 :zl ["_law_tape_here","_law_base","_law_days","_law_ones","_law_others"] ["_law_tape_here","_law_base","_law_days"] (zb pk):=⟨rfl,rfl,rfl,by decide +kernel,rfl,by decide +kernel,by decide +kernel⟩
set_option maxHeartbeats 4000000 in
theorem lu {f:Addr}{fd:FuncData}(F:Fun K "_law_rules" "_law_rules" pk f fd)(hm:mg "_law_rules"=some (.ref f))(hb:Binds K fd ["_law_tape_here","_law_base","_law_days"] [])(CD:Cal P w K mg base "_law_draw" 1 xV)(CP:Cal P w K mg base "_law_price_rules" 3 wc)(CO:Cal P w K mg base "_law_other_rules" 4 wc):Cal P w K mg base "_law_rules" 5 pU:=by
 refine vJ F hm hb ze5 (fun as Q h=>?_) (fun cdv A' outer s H E as Q hr h=>?_)
 ·obtain⟨bs,dy,rfl,_⟩:=h
  rfl
 ·obtain⟨bs,dy,rfl,bd,q⟩:=h
  refine zQ 3 ze5.nd (EvL.d (xX CP (hr.mono (by decide)) (by rfl) (zZ 0 rfl (zf (zc 1 rfl (zf (zc 2 rfl (zo (⟨_,_,rfl,bd,fun ds1 r1 l1=>⟨_,rfl,?_⟩⟩)))))))))
  refine zQ 4 ze5.nd (EvL.d (xX CO hr (by rfl) (zZ 0 rfl (zf (zc 1 rfl (zf (zc 2 rfl (zo (⟨_,_,rfl,bd,fun ds2 r2 l2=>⟨_,rfl,?_⟩⟩)))))))))
  refine vg (lY (fun _ _=>rfl) (EvL.d (xp (zf (EvL.d (wM (zc 3 rfl (zc 4 rfl (⟨_,_,rfl,rfl,by omega,zf (EvL.d (wM (zc 4 rfl (zc 3 rfl (⟨_,_,rfl,rfl,by omega,zo (⟨_,rfl,zu6 rfl,yn CD (hr.mono (by decide)) (by rfl) (zZ 0 rfl (zf (yc (zo (⟨_,rfl,by decide,by decide,fun v3 h3 g3=>?_⟩)))))⟩)⟩)))))⟩)))))))))
  obtain⟨z,hz,e⟩:=oV (ds:=[PyData.list (ds1++ds2),.list (ds2++ds1)]) h3 g3
  refine⟨_,_,z,rfl,rfl,e,?_⟩
  simp only[zu1,zu8,zx1] at hz
  rcases hz with rfl|rfl
  ·exact q _ (r1.app r2) (by rw[zu9];omega)
  ·exact q _ (r2.app r1) (by rw[zu9];omega)
def gW :List A→(A→Prop)→Prop:=fun as Q=>∃bs dy:Int,as=[.tape,.dat (.int bs),.dat (.int dy)]∧Bd bs dy∧∀ds,zG ds→ds.length≤5→Q (.own ds)
def om :List A→(A→Prop)→Prop:=fun as Q=>∃bs dy:Int,as=[.tape,.dat (.int bs),.dat (.int dy)]∧Bd bs dy∧∀ds,zG ds→ds.length≤10→Q (.dat (.list ds))
theorem zj6 {x:Str}{k:Nat}(C:Cal P w K mg base x k wc):Cal P w K mg base x k gW:=C.imp fun as Q h=>by
 obtain⟨bs,dy,rfl,⟨b1,b2,b3,b4⟩,q⟩:=h
 exact⟨bs,dy,rfl,⟨b1,by omega,b3,by omega⟩,fun ds rw l=>q ds (rw.ok (by omega) (by omega)) l⟩
theorem jM {x:Str}{k:Nat}(C:Cal P w K mg base x k pU):Cal P w K mg base x k om:=C.imp fun as Q h=>by
 obtain⟨bs,dy,rfl,⟨b1,b2,b3,b4⟩,q⟩:=h
 exact⟨bs,dy,rfl,⟨b1,by omega,b3,by omega⟩,fun ds rw l=>q ds (rw.ok (by omega) (by omega)) l⟩
end
abbrev pE :Stmt:=top 9
def tN :List A→(A→Prop)→Prop:=fun as Q=>∃c g:Int,as=[.dat (.tuple [.int c,.int g])]∧-100≤c∧c<g∧g≤c+500∧c≤1000100∧Q (.own ((zx c (g-c).toNat).map .int))
section
variable {P:Program}{w:World}{K:PySem.W.Frag}{mg:Str→Option Value}{base:Heap}{cs:Cs}
theorem zq1 :zl ["stay"] ["stay"] (zb pE):=⟨rfl,rfl,rfl,by decide +kernel,rfl,by decide +kernel,by decide +kernel⟩
theorem mY {f:Addr}{fd:FuncData}(F:Fun K "nights_of" "nights_of" pE f fd)(hm:mg "nights_of"=some (.ref f))(hb:Binds K fd ["stay"] [])(nb:NbT mg):Cal P w K mg base "nights_of" 1 tN:=by
 refine vJ F hm hb zq1 (fun as Q h=>?_) (fun cdv A' outer s H E as Q hr h=>?_)
 ·obtain⟨c,g,rfl,_⟩:=h
  rfl
 ·obtain⟨c,g,rfl,h1,h2,h3,h4,q⟩:=h
  exact pP (fk rfl (by rfl) nb.list (by rfl) nb.range (xZ (fun _ _=>rfl) (zc 0 rfl (yc (⟨_,_,_,rfl,rfl,rfl,xZ (fun _ _=>rfl) (zc 0 rfl (yc (⟨_,_,_,rfl,rfl,rfl,⟨_,_,rfl,rfl,⟨by omega,by omega,by omega,by omega⟩,by omega,q⟩⟩)))⟩)))))
end
abbrev yK :Stmt:=top 20
def qB :Arguments×Scope:=match zw yK with
 |[.Return (some (.Call _ _ [⟨_,.Lambda ps _ sc _,_⟩] _)) _]=>(ps,sc)
 |_=>(zN yK,zb yK)
section
variable {P:Program}{w:World}{K:PySem.W.Frag}{mg:Str→Option Value}{base:Heap}
theorem cQ :zl ["prices","places"] ["prices","places"] (zb yK):=⟨rfl,rfl,rfl,by decide +kernel,rfl,by decide +kernel,by decide +kernel⟩
theorem zn1 :wk "place" "prices" qB.1 qB.2:=⟨rfl,rfl,rfl,rfl,rfl,by decide +kernel,by decide +kernel,by decide⟩
theorem zg8 {f c:Addr}{A':Around}{outer:List Env}{s:Shared}{H:Hp}{E:XK}{n1:Nat}{p1 p2 p3 p4 p5 p6:Pos}(hhd:PySem.W.codeHdIn K c yw=true)(KX:K.In base)(hbi:base.BuiltinsAt mg yw):
  eR (xy CX0 P w K mg base ["prices","places"] "cheapest_first" (zb yK) f (.ref c) A' outer s H E).nox c "place" "prices" n1 p1 p2 p3 p4 p5 p6 qB.1 qB.2 where
 S:=zn1
 hy:=rfl
 hcl:=fun cl h=>by
  have e:qB.2.names=[(("prices":Str),NameKind.free),(("place":Str),NameKind.local)]∨qB.2.names=[(("place":Str),NameKind.local),(("prices":Str),NameKind.free)]:=by decide +kernel
  unfold closureFor
  rcases e with e|e<;>rw[e]<;>simp[cellOf,h]
 hgl:=rfl
 hco:=rfl
 hhd:=PySem.W.codeHd_of_K KX hhd
 hbi:=hbi
 hdf:=rfl
 hq:=rfl
 hne:=by decide
 hb:=fun u cl c' pm ctv=>rfl
 hdx:=by decide
 hdy:=by decide
 hcx:=by decide
 hcy:=by decide
def qZ :List A→(A→Prop)→Prop:=fun as Q=>∃ns zs:List Int,as=[.dat (.list (zs.map .int)),.dat (.list (ns.map .int))]∧ns.length<64∧(∀n∈ns,0≤n∧n<zs.length)∧∀ms,sT ns zs ms→Q (.own (ms.map .int))
theorem ir {f c:Addr}{oc:Value}{od an:Option Addr}{osl:Array (Option Value)}{kV doc pm ct:Value}(lk:K.lookup f=some ⟨oc,od,.func (PySem.W.fnOf "cheapest_first" "cheapest_first" (zN yK) (zw yK) (zb yK) .none kV doc pm an (.ref c) ct),osl⟩)(hcd:PySem.W.codeIn K (.ref c) "cheapest_first"=true)(kp:PySem.W.keepIn K (.ref f)=true)
  (hm:mg "cheapest_first"=some (.ref f)) (hb:Binds K (PySem.W.fnOf "cheapest_first" "cheapest_first" (zN yK) (zw yK) (zb yK) .none kV doc pm an (.ref c) ct) ["prices","places"] []) (nb:NbT mg) (hhd:PySem.W.codeHdIn K c yw=true) (KX:K.In base) (hbi:base.BuiltinsAt mg yw):Cal P w K mg base "cheapest_first" 3 qZ:=by
 refine⟨f,_,_,hm,kp,hb,zs6 lk hcd cQ (fun as Q h=>by obtain⟨ns,zs,rfl,_⟩:=h;rfl) fun A' outer s H E as Q hr h=>?_⟩
 obtain⟨ns,zs,rfl,h64,hin,q⟩:=h
 exact pP (ml (j:=0) (k:=0) (zg8 hhd KX hbi) hr (by rfl) nb.sorted rfl (zc 1 rfl ⟨ns,zs,rfl,rfl,h64,hin,fun ms sm=>q ms sm⟩))
end
abbrev vH :Stmt:=top 21
def zl9 :Scope:=match zw vH with
 |.Assign _ (.ListComp _ _ sc _) _::_=>sc
 |_=>zb vH
def tQ :List A→(A→Prop)→Prop:=fun as Q=>∃(zs:List Int) (d:PyData),as=[.dat (.list (zs.map .int)),.dat d]∧zs.length≤500∧
 ((d=.none∧Q (.own ((List.replicate zs.length false).map .bool)))∨∃many free:Nat,d=.tuple [.int many,.int free]∧0<many∧many<64∧∀bs,vY zs many free zs.length bs→Q (.own (bs.map .bool)))
theorem jP (ns:List Int):vK (ns.map .int)=true:=by
 induction ns with
 |nil=>rfl
 |cons n ns ih=>rw[zy1,vK,ih];rfl
section
variable {P:Program}{w:World}{K:PySem.W.Frag}{mg:Str→Option Value}{base:Heap}
theorem lh :zl ["prices","deal","marks","bundle","place","rank","other"] ["prices","deal"] (zb vH):=⟨rfl,rfl,rfl,by decide +kernel,rfl,by decide +kernel,by decide +kernel⟩
theorem zm0 :zL ["prices","deal","marks","bundle","place","rank","other"] (zb vH) ["price"] [none] zl9:=⟨rfl,by decide +kernel,by decide +kernel,by decide +kernel,by decide +kernel,rfl,by decide +kernel⟩
set_option maxHeartbeats 4000000 in
theorem mi {f:Addr}{fd:FuncData}(F:Fun K "marked" "marked" vH f fd)(hm:mg "marked"=some (.ref f))(hb:Binds K fd ["prices","deal"] [])(nb:NbT mg)(CC:Cal P w K mg base "cheapest_first" 3 qZ):Cal P w K mg base "marked" 4 tQ:=by
 refine vJ F hm hb lh (fun as Q h=>?_) (fun cdv A' outer s H E as Q hr h=>?_)
 ·obtain⟨zs,d,rfl,_⟩:=h
  rfl
 ·obtain⟨zs,d,rfl,hlen,h⟩:=h
  refine za8 2 (pat:=.one 0) lh.nd rfl zm0 rfl (fun _ _ _ _=>yg (i:=0) zm0.nd rfl (Or.inl rfl)) (ur (zc 0 rfl ⟨_,rfl,?_,?comp⟩))
  ·rw[zt4];omega
  refine vU (fun _=>true) (fun _=>.bool false) (fun d hd=>⟨_,rfl,fun _ _ _ _ _ k=>gY k,fun _ _ _ _ _ _ k=>za7 k⟩) ?_
  have e0:([]:List PyData)++List.map (fun _=>PyData.bool false) (List.filter (fun _=>true) (List.map PyData.int zs))=(List.replicate zs.length false).map .bool:=by
   rw[zH1,fZ,List.map_map,List.map_replicate]
   exact List.eq_replicate_iff.mpr ⟨by simp,by simp⟩
  rw[e0]
  rcases h with ⟨rfl,q⟩|⟨many,free,rfl,hp,hm64,q⟩
  ·refine yS (wH (zc 1 rfl ?_))
   exact xU 2 rfl q
  refine yS (wH (zc 1 rfl (zB ?_)))
  refine wA 3 lh.nd (xp (zo ⟨_,rfl,zv3 _,?_⟩))
  refine wY (pat:=.one 4) zz1 rfl (yg (i:=4) lh.nd rfl (Or.inl rfl)) (vA (by rfl) nb.range (qO (by rfl) nb.len (zc 0 rfl ⟨_,rfl,⟨_,rfl,by omega,by rw[zt4];omega,?_⟩⟩)))
  refine xh (fun i α=>∃(bs:List Bool) (o4 o5 o6:Option A),vY zs many free i bs∧α=[some (.dat (.list (zs.map .int))),some (.dat (.tuple [.int many,.int free])),some (.own (bs.map .bool)),some (.own ((zx ((i / many*many:Nat):Int) (i % many)).map .int)),o4,o5,o6]) ?_ ?_ ?_
  ·refine⟨_,none,none,none,jX zs free,?_⟩
   rw[Nat.zero_mod,Nat.zero_div]
   rfl
  ·rintro i d α hd ⟨bs,o4,o5,o6,mk,rfl⟩
   have hi:i<zs.length:=by
    have:=(zt8.mp hd).1
    simpa[zi] using this
   obtain rfl:d=.int (i:Int):=by
    rw[zv2,vX (by simpa using hi)] at hd
    simpa using hd.symm
   refine⟨_,rfl,?_⟩
   have hmod:=Nat.mod_lt i hp
   refine yv 3 rfl (zc 4 rfl ⟨by rw[zt4,zi];omega,?_⟩)
   have eb:List.map PyData.int (zx ((i / many*many:Nat):Int) (i % many))++[PyData.int (i:Int)]=(zx ((i / many*many:Nat):Int) (i % many+1)).map .int:=by
    have e:=zE7 i many
    have e4:i / many*many=many*(i / many):=Nat.mul_comm _ _
    rw[oz,zB1]
    congr 1
    simp only[zy1,List.map_nil]
    congr 2
    omega
   rw[eb]
   refine yS (ku 3 rfl (zf2 (qO (by rfl) nb.len (zc 3 rfl ⟨_,rfl,xZ (fun _ _=>rfl) (zc 1 rfl (yc ⟨_,_,_,rfl,rfl,at0,_,_,rfl,rfl,?_⟩))⟩))))
   refine eQ (fun hc=>?_) (fun hc=>zB ?_)
   ·have hfull:i % many+1=many:=by
     rw[zt4,zi] at hc
     omega
    rw[hfull]
    have hin:∀n∈zx ((i / many*many:Nat):Int) many,0≤n∧n<zs.length:=fun n hn=>by
     rw[yJ] at hn
     have e:=zE7 i many
     have e4:i / many*many=many*(i / many):=Nat.mul_comm _ _
     omega
    refine wY (pat:=.many [5,6]) zz1 rfl (sQ (n:=2) (K:=K) rfl rfl (vq (yg (i:=5) lh.nd rfl (Or.inl rfl)) (vq (yg (i:=6) lh.nd rfl (Or.inl rfl)) (pj))))
     (jk (by rfl) nb.enumerate (EvL.d (ak 3 rfl (xX CC hr (by rfl) (zf (zc 0 rfl (zf (zc 3 rfl (zo ⟨_,zs,rfl,by rw[zi];exact hm64,hin,fun ms sm=>⟨_,rfl,jP ms,_,rfl,?_⟩⟩)))))))))
    have hml:ms.length=many:=by rw[sm.1.length_eq,zi]
    refine xh (fun r α=>∃(bs':List Bool) (p5 p6:Option A),(bs'.length=bs.length∧(∀q,q<r→bs'.getD (ms.getD q 0).toNat false=decide (q<free))∧∀j,(∀q,q<r→(ms.getD q 0).toNat≠j)→bs'.getD j false=bs.getD j false)∧
     α=[some (.dat (.list (zs.map .int))),some (.dat (.tuple [.int many,.int free])),some (.own (bs'.map .bool)),some (.own ((zx ((i / many*many:Nat):Int) many).map .int)),some (.dat (.int i)),p5,p6]) ?_ ?_ ?_
    ·exact⟨bs,o5,o6,⟨rfl,fun q h=>absurd h (Nat.not_lt_zero _),fun _ _=>rfl⟩,rfl⟩
    ·rintro r d α hd ⟨bs',p5,p6,⟨f0,f1,f2⟩,rfl⟩
     obtain⟨e,he,rfl⟩:=vG hd
     have hr':r<ms.length:=by
      have:=(zt8.mp he).1
      simpa using this
     obtain rfl:e=.int (ms.getD r 0):=by
      rw[zv2,zt5 hr'] at he
      rw[zt7,zt5 hr']
      simpa using he.symm
     refine⟨_,rfl,?_⟩
     have hmem:=vE sm (q:=r) (by omega)
     have hub:=hin (ms.getD r 0) (yJ.mpr hmem)
     obtain⟨j,hj⟩:=zC2 hub.1
     rw[hj]
     have jl:j<bs'.length:=by rw[f0,mk.1];omega
     refine zc2 2 rfl (aS (zc 5 rfl (xZ (fun _ _=>rfl) (zc 1 rfl (yc ⟨_,_,_,rfl,rfl,wo (j:=1) rfl,_,_,rfl,rfl,zc 6 rfl ⟨_,j,rfl,?_,zB ?_⟩⟩)))))
     ·unfold ixN
      rw[if_pos (by omega),if_pos (by rw[zt4];omega)]
      simp
     ·refine⟨bs'.set j (decide (r<free)),some (.dat (.int ((0+r:Nat):Int))),some (.dat (.int (j:Int))),⟨?_,fun q hq=>?_,fun l hl=>?_⟩,?_⟩
      ·rw[zv8,f0]
      ·by_cases hqr:q=r
       ·subst hqr
        rw[hj,zF9,zt7,zy0 jl]
        rfl
       ·have hne:(ms.getD q 0).toNat≠j:=fun z=>by
         have nd:ms.Nodup:=sm.1.nodup_iff.mpr (rX _ _)
         have a1:=(vE sm (q:=q) (by omega)).1
         have z2:ms.getD q 0=ms.getD r 0:=by rw[hj];omega
         rw[zt7,zt7,zt5 (by omega),zt5 hr'] at z2
         exact (zE6.mp nd q r (by omega) hr' (by omega)) z2
        rw[zt7,zw6 hne.symm,←zt7,f1 q (by omega)]
      ·have hne:j≠l:=fun z=>hl r (zD3 _) (by rw[hj];omega)
       rw[zt7,zw6 hne,←zt7,f2 l fun q hq=>hl q (by omega)]
      ·have ed:decide (((0+r:Nat):Int)<(free:Int))=decide (r<free):=by
        rw[decide_eq_decide];omega
       rw[ed,List.map_set]
       rfl
    ·rintro α ⟨bs',p5,p6,⟨f0,f1,f2⟩,rfl⟩
     refine wA 3 lh.nd (xp (zo ⟨_,rfl,zv3 _,zB ?_⟩))
     rw[vw,zt4,hml] at f1 f2
     refine zB ?_
     refine⟨bs',some (.dat (.int i)),p5,p6,ia hp hfull mk sm f0 f1 f2,?_⟩
     rw[(nJ hp hfull).2.1]
     rfl
   ·have hmore:i % many+1<many:=by
     rw[zt4,zi] at hc
     omega
    refine zB ?_
    refine⟨bs,some (.dat (.int i)),o5,o6,jC hp hmore mk,?_⟩
    rw[(sx hp hmore).1,(sx hp hmore).2]
    rfl
  ·rintro α ⟨bs,o4,o5,o6,mk,rfl⟩
   have el:(List.map PyData.int (zx 0 ((List.map PyData.int zs).length:Int).toNat)).length=zs.length:=by simp[zi]
   rw[el] at mk
   exact xU 2 rfl (q bs mk)
end
abbrev sNP :Stmt:=top 22
abbrev tj :Stmt:=top 23
def aA :Scope:=match (zw tj).getD 5 (.Pass ⟨0,0,0,0⟩) with
 |.Assign _ (.Call _ [.ListComp _ _ sc _] _ _) _=>sc
 |_=>zb tj
def zl3 (C:Addr)(cs:Cs):List A→(A→Prop)→Prop:=fun as Q=>∃(ds:List PyData) (ns:List Int) (pr:Int→Int),as=[.dat (yu C cs ds),.dat (.list (ns.map .int))]∧Rules ds∧ns.length≤900∧(∀z∈ns,zm ds "price" z=.int (pr z))∧Q (.own ((ns.map pr).map .int))
def hV (C:Addr)(cs:Cs):List A→(A→Prop)→Prop:=fun as Q=>∃(ds:List PyData) (c g fee:Int) (pr:Int→Int),as=[.dat (yu C cs ds),.dat (.tuple [.int c,.int g])]∧Rules ds∧0≤c∧c<g∧g≤c+400∧c≤1000000∧(∀z,c≤z→z<g→zm ds "price" z=.int (pr z)∧0≤pr z∧pr z≤1000000000000)∧
 (zm ds "deal" c=.none∨∃many free:Nat,zm ds "deal" c=.tuple [.int many,.int free]∧0<many∧many<64)∧zm ds "fee" c=.int fee∧
 ∀bs,wm (zm ds "deal" c) ((zx c (g-c).toNat).map pr) bs→Q (.dat (.tuple [.int ((yx ((zx c (g-c).toNat).map pr) bs).sum+fee),.list (wg ((zx c (g-c).toNat).map .int) (((zx c (g-c).toNat).map pr).map .int) (bs.map .bool)),.int fee]))
section
variable {P:Program}{w:World}{K:PySem.W.Frag}{mg:Str→Option Value}{base:Heap}{cs:Cs}
theorem bN :zl ["book","nights","prices","night","price"] ["book","nights"] (zb sNP):=⟨rfl,rfl,rfl,by decide +kernel,rfl,by decide +kernel,by decide +kernel⟩
set_option maxHeartbeats 4000000 in
theorem zh0 {f C:Addr}{fd:FuncData}(F:Fun K "night_prices" "night_prices" sNP f fd)(hm:mg "night_prices"=some (.ref f))(hb:Binds K fd ["book","nights"] [])(MT:wF P w K mg base C "tells_of" 2 (uh C cs)):Cal P w K mg base "night_prices" 3 (zl3 C cs):=by
 refine vJ F hm hb bN (fun as Q h=>?_) (fun cdv A' outer s H E as Q hr h=>?_)
 ·obtain⟨ds,ns,pr,rfl,_⟩:=h
  rfl
 ·obtain⟨ds,ns,pr,rfl,rd,hl,hp,q⟩:=h
  refine wA 2 bN.nd (xp (zo ⟨_,rfl,zv3 _,?_⟩))
  refine wY (pat:=.one 3) zz1 rfl (yg (i:=3) bN.nd rfl (Or.inl rfl)) (ur (zc 1 rfl ⟨_,rfl,?_⟩))
  refine xh (fun i α=>∃o3 o4:Option A,α=[some (.dat (yu C cs ds)),some (.dat (.list (ns.map .int))),some (.own (((ns.take i).map pr).map .int)),o3,o4]) ⟨none,none,rfl⟩ ?_ ?_
  ·rintro i d α hd ⟨o3,o4,rfl⟩
   rw[zv2,zw9] at hd
   obtain⟨z,hz,rfl⟩:=hd
   have hi:i<ns.length:=(zt8.mp hz).1
   have e:=hp z (zy7 hz)
   refine⟨_,rfl,?_⟩
   refine zQ 4 bN.nd (xg MT hr (zc 0 rfl ⟨_,rfl,rfl,zf (zY (zf (zc 3 rfl (zo ⟨ds,_,_,rfl,rd,by simp[words],?_⟩))))⟩))
   show SvS _ (List.set _ _ (some (.dat (zm ds "price" z)))) _ _
   rw[e]
   refine yS (wH (zc 4 rfl ?_))
   refine xN (fun h=>by cases h) (fun _=>zB ?_)
   refine yv 2 rfl (zc 4 rfl ⟨by rw[zt4,zt4,zw8];omega,zB ⟨some (.dat (.int z)),some (.dat (.int (pr z))),?_⟩⟩)
   rw[zC8,hz,zB1,zB1]
   rfl
  ·rintro α ⟨o3,o4,rfl⟩
   rw[zt4,zD7]
   exact xU 2 rfl q
theorem mZ :zl ["book","stay","nights","prices","marks","fee","rows","paid"] ["book","stay"] (zb tj):=⟨rfl,rfl,rfl,by decide +kernel,rfl,by decide +kernel,by decide +kernel⟩
theorem zj9 :zL ["book","stay","nights","prices","marks","fee","rows","paid"] (zb tj) ["row"] [none] aA:=⟨rfl,by decide +kernel,by decide +kernel,by decide +kernel,by decide +kernel,rfl,by decide +kernel⟩
set_option maxHeartbeats 4000000 in
theorem hJ {f C:Addr}{fd:FuncData}(F:Fun K "bill" "bill" tj f fd)(hm:mg "bill"=some (.ref f))(hb:Binds K fd ["book","stay"] [])(nb:NbT mg)(MT:wF P w K mg base C "tells_of" 2 (uh C cs))(CN:Cal P w K mg base "nights_of" 1 tN)(CP:Cal P w K mg base "night_prices" 3 (zl3 C cs))(CM:Cal P w K mg base "marked" 4 tQ):
  Cal P w K mg base "bill" 5 (hV C cs):=by
 refine vJ F hm hb mZ (fun as Q h=>?_) (fun cdv A' outer s H E as Q hr h=>?_)
 ·obtain⟨ds,c,g,fee,pr,rfl,_⟩:=h
  rfl
 ·obtain⟨ds,c,g,fee,pr,rfl,rd,c0,cg,gl,c1,hpr,hdeal,hfee,q⟩:=h
  generalize hn:(g-c).toNat=n at q
  have hn0:0<n:=by omega
  have hn4:n≤400:=by omega
  refine zQ 2 mZ.nd (EvL.d (xX CN (hr.mono (by decide)) (by rfl) (zf (zc 1 rfl (zo ⟨c,g,rfl,by omega,cg,by omega,by omega,_,rfl,?_⟩)))))
  rw[hn]
  refine zQ 3 mZ.nd (EvL.d (xX CP (hr.mono (by decide)) (by rfl) (zf (zc 0 rfl (zf (zc 2 rfl (zo ⟨ds,zx c n,pr,rfl,rd,by rw[zi];omega,fun z hz=>(hpr z (yJ.mp hz).1 (by have:=(yJ.mp hz).2;omega)).1,_,rfl,?_⟩)))))))
  have lz:((zx c n).map pr).length=n:=by rw[zt4,zi]
  refine zQ 4 mZ.nd (EvL.d (xX CM hr (by rfl) (zf (zc 3 rfl (zf (xg MT (hr.mono (by decide)) (zc 0 rfl ⟨_,rfl,rfl,zf (zY (zf (xZ (fun _ _=>rfl) (zc 1 rfl (yc ⟨_,_,_,rfl,rfl,at0,zo ⟨ds,_,_,rfl,rd,by simp[words],zo ⟨_,_,rfl,by omega,?_⟩⟩⟩)))))⟩)))))))
  have key:∀bs,wm (zm ds "deal" c) ((zx c n).map pr) bs→SvS (xy CX0 P w K mg base ["book","stay","nights","prices","marks","fee","rows","paid"] "bill" (zb tj) f cdv A' outer s H E).nox
    [some (.dat (yu C cs ds)),some (.dat (.tuple [.int c,.int g])),some (.dat (.list ((zx c n).map .int))),some (.dat (.list (((zx c n).map pr).map .int))),some (.dat (.list (bs.map .bool))),none,none,none] ((zw tj).drop 3) {nx:=fun _=>Q (.dat .none),rt:=Q}:=by
   intro bs mk
   have lb:=mk.len
   refine zQ 5 mZ.nd (xg MT (hr.mono (by decide)) (zc 0 rfl ⟨_,rfl,rfl,zf (zY (zf (xZ (fun _ _=>rfl) (zc 1 rfl (yc ⟨_,_,_,rfl,rfl,at0,zo ⟨ds,_,_,rfl,rd,by simp[words],?_⟩⟩)))))⟩))
   show SvS _ (List.set _ _ (some (.dat (zm ds "fee" c)))) _ _
   rw[hfee]
   refine zQ 6 mZ.nd (EvL.d (nh rfl (by rfl) nb.list (by rfl) nb.zip (zf (zc 2 rfl (zf (zc 3 rfl (zf (zc 4 rfl (zo ⟨_,_,_,rfl,?_,?_,?_,?_,?_⟩)))))))))
   ·rw[zt4,zt4,zt4]
   ·rw[zt4,zt4,lb,lz,zi]
   ·rw[zt4,zi];omega
   ·rw[zt4,zi];omega
   have pm:∀z∈yx ((zx c n).map pr) bs,0≤z∧z≤1000000000000:=fun z hz=>by
    obtain⟨y,hy,rfl⟩:=zH2.mp (uL hz)
    have hy:=yJ.mp hy
    exact (hpr y hy.1 (by omega)).2
   refine zQ 7 mZ.nd (ao rfl (by rfl) nb.sum (EvL.d (za1 (pat:=.one 0) rfl zj9 rfl (fun _ _ _ _=>yg (i:=0) zj9.nd rfl (Or.inl rfl)) (ur (zc 6 rfl ⟨_,rfl,?_,?comp⟩)))))
   ·rw[uJ (by rw[zt4,zt4,zt4]) (by rw[zt4,zt4,lb,lz,zi]),zt4,zi];omega
   refine vU (fun d=>!tH d) (zf1 1) (fun d hd=>?_) ?_
   ·obtain⟨j,hj⟩:=List.mem_iff_getElem?.mp hd
    obtain⟨x,y,z,e1,e2,e3,rfl⟩:=uI hj
    rw[zv2,zw9] at e3
    obtain⟨b,_,rfl⟩:=e3
    exact⟨_,rfl,fun _ _ _ _ _ k=>fF (vT (yZ (xZ (fun _ _=>rfl) (zc 0 rfl (yc ⟨_,_,_,rfl,rfl,wo (j:=2) rfl,⟨_,rfl,k⟩⟩))))),fun _ _ _ _ _ _ k=>xZ (fun _ _=>rfl) (zc 0 rfl (yc ⟨_,_,_,rfl,rfl,wo (j:=1) rfl,k⟩))⟩
   ·rw[zH1,rC (by rw[lz,zt4,zi]) (by rw[lb,lz,zt4,zi])]
    refine⟨_,rfl,fun z hz=>by have:=pm z hz;omega,lM pm (zx7 (qr _ _) (by omega)),?_⟩
    exact vg (yR (zf (xF (zc 7 rfl (zc 5 rfl ⟨_,_,rfl,rfl,zf (zc 6 rfl (zf (zc 5 rfl (zo ⟨_,rfl,zu6 rfl,q bs mk⟩))))⟩)))))
  rcases hdeal with hd|⟨many,free,hd,m0,m64⟩
  ·exact .inl ⟨hd,⟨_,rfl,key _ (.inl ⟨hd,rfl⟩)⟩⟩
  ·exact .inr ⟨many,free,hd,m0,m64,fun bs mk=>⟨_,rfl,key bs (.inr ⟨many,free,hd,mk⟩)⟩⟩
end
abbrev rQ :Stmt:=top 25
abbrev ze9 :Stmt:=top 26
abbrev oA :Stmt:=top 27
theorem iS {x:Str}(h:x∈words):zD (.str x) (cp x)=true:=by
 simp only[words,zu1,zu8,zx1] at h
 rcases h with rfl|rfl|rfl|rfl|rfl|rfl|rfl<;>decide +kernel
theorem yE {ds:List PyData}(h:∀d∈ds,yT d=true){x:Str}(hx:x∈words)(day:Int):zD (.str x) (zm ds x day)=true:=by
 unfold zm
 split
 ·rename_i d e
  obtain⟨u,i,j,v,hu,rfl,_,_,_,hw⟩:=sS (h d (List.mem_reverse.mp (List.mem_of_find?_eq_some e)))
  have:=List.find?_some e
  have h2:(decide (u=x)&&(decide (i≤day)&&decide (day≤j)))=true:=this
  rw[zv6,zx2] at h2
  rw[←h2.1]
  exact hw
 ·exact iS hx
def isF :PyData→Bool
 |.bool b=>!b
 |_=>false
def intOf :PyData→Int
 |.int i=>i
 |_=>0
theorem yU {lo hi:Int}{d:PyData}(h:yk lo hi d=true):∃i,d=.int i∧lo≤i∧i≤hi:=by
 cases d with
 |int i=>
  have h':(decide (lo≤i)&&decide (i≤hi))=true:=h
  rw[zv6,zx2,zx2] at h'
  exact⟨i,rfl,h'⟩
 |_=>cases h
theorem bool_inv {d:PyData}(h:isBool d=true):∃b,d=.bool b:=by
 cases d with
 |bool b=>exact⟨b,rfl⟩
 |_=>cases h
section
variable {ds:List PyData}(h:∀d∈ds,yT d=true)(day:Int)
include h
theorem zj1 :∃b,zm ds "come" day=.bool b:=bool_inv (by rw[←rg];exact yE h (by simp[words]) day)
theorem zr0 :∃b,zm ds "go" day=.bool b:=bool_inv (by rw[←oN];exact yE h (by simp[words]) day)
theorem cS :∃i,zm ds "least" day=.int i∧1≤i∧i≤14:=yU (by rw[←uX];exact yE h (by simp[words]) day)
theorem zc6 :∃i,zm ds "most" day=.int i∧1≤i∧i≤14:=yU (by rw[←sO];exact yE h (by simp[words]) day)
theorem zp1 :∃i,zm ds "fee" day=.int i∧0≤i∧i≤1000000000000:=yU (by
 have:=yE h (x:="fee") (by simp[words]) day
 rw[qu] at this
 exact this)
theorem bY :zm ds "price" day=.none∨∃i,zm ds "price" day=.int i∧0≤i∧i≤1000000000000:=by
 have:=yE h (x:="price") (by simp[words]) day
 rw[xj,zC6] at this
 rcases this with z|z
 ·left
  cases e:zm ds "price" day with
  |none=>rfl
  |_=>rw[e] at z;cases z
 ·exact .inr (yU z)
end
def pB (x:Str)(d:Int):PyData:=.tuple [.str x,.int d]
def xt (ds:List PyData)(c:Int)(n:Nat):List PyData:=((zx c n).filter fun z=>vN (zm ds "price" z)).map (pB "price")
def opt (b:Bool)(d:PyData):List PyData:=if b=true then [d] else []
def yF (ds:List PyData)(c g:Int):List PyData:=xt ds c (g-c).toNat++opt (isF (zm ds "come" c)) (pB "come" c)++opt (isF (zm ds "go" g)) (pB "go" g)++opt (decide (g-c<intOf (zm ds "least" c))) (pB "least" c)++opt (decide (intOf (zm ds "most" c)<g-c)) (pB "most" c)
theorem xJ (b:Bool)(d:PyData):(opt b d).length≤1:=by unfold opt;split<;>simp
theorem tf (ds:List PyData)(c:Int)(n:Nat):(xt ds c n).length≤n:=by
 unfold xt
 rw[zt4]
 have:=List.length_filter_le (fun z=>vN (zm ds "price" z)) (zx c n)
 rw[zi] at this
 exact this
def sF (C:Addr)(cs:Cs):List A→(A→Prop)→Prop:=fun as Q=>∃ds c g,as=[.dat (yu C cs ds),.dat (.tuple [.int c,.int g])]∧Rules ds∧-100≤c∧c<g∧g≤c+100∧c≤1000100∧Q (.own (yF ds c g))
def bZ :Scope:=match zw rQ with
 |[_,_,.Assign _ (.ListComp _ _ sc _) _,_,_,_,_,_]=>sc
 |_=>zb rQ
section
variable {P:Program}{w:World}{K:PySem.W.Frag}{mg:Str→Option Value}{base:Heap}{cs:Cs}
theorem bQ :zl ["book","stay","come","go","told"] ["book","stay"] (zb rQ):=⟨rfl,rfl,rfl,by decide +kernel,rfl,by decide +kernel,by decide +kernel⟩
theorem zm2 :zL ["book","stay","come","go","told"] (zb rQ) ["night","book"] [none,some 0] bZ:=⟨rfl,by decide +kernel,by decide +kernel,by decide +kernel,by decide +kernel,rfl,by decide +kernel⟩
theorem pR (ds:List PyData)(ns:List Int)(f:PyData→Bool)(hf:∀z,f (.int z)=vN (zm ds "price" z))(g:PyData→PyData)(hg:∀z,g (.int z)=pB "price" z):((ns.map PyData.int).filter f).map g=(ns.filter fun z=>vN (zm ds "price" z)).map (pB "price"):=by
 rw[List.filter_map,List.map_map]
 have e1:(f∘PyData.int)=fun z=>vN (zm ds "price" z):=funext hf
 have e2:(g∘PyData.int)=pB "price":=funext hg
 rw[e1,e2]
def zn4 :PyData→Int
 |.int z=>z
 |_=>0
set_option maxHeartbeats 4000000 in
theorem hG {f C:Addr}{fd:FuncData}(F:Fun K "bars" "bars" rQ f fd)(hm:mg "bars"=some (.ref f))(hb:Binds K fd ["book","stay"] [])(CN:Cal P w K mg base "nights_of" 1 tN)(MT:wF P w K mg base C "tells_of" 2 (uh C cs)):Cal P w K mg base "bars" 3 (sF C cs):=by
 refine vJ F hm hb bQ (fun as Q h=>?_) (fun cdv A' outer s H E as Q hr h=>?_)
 ·obtain⟨ds,c,g,rfl,_⟩:=h
  rfl
 ·obtain⟨ds,c,g,rfl,rd,c0,cg,g1,c1,q⟩:=h
  have rr:∀d∈ds,yT d=true:=fun d hd=>(rd d hd).1
  refine zQ 2 bQ.nd (xZ (fun _ _=>rfl) (zc 1 rfl (yc (⟨_,_,_,rfl,rfl,rfl,?_⟩))))
  refine zQ 3 bQ.nd (xZ (fun _ _=>rfl) (zc 1 rfl (yc (⟨_,_,_,rfl,rfl,rfl,?_⟩))))
  refine vh (fun α=>α=[some (.dat (yu C cs ds)),some (.dat (.tuple [.int c,.int g])),some (.dat (.int c)),some (.dat (.int g)),some (.own (xt ds c (g-c).toNat))]) ?_ ?_
  ·refine za8 4 (pat:=.one 0) bQ.nd rfl zm2 rfl (fun _ _ _ _=>yg (i:=0) zm2.nd rfl (by first|exact Or.inl rfl|exact Or.inr rfl)) (ur (EvL.d (xX CN (hr.mono (by decide)) (by rfl) (zf (zc 1 rfl (zo (⟨c,g,rfl,by omega,by omega,by omega,by omega,⟨_,rfl,⟨_,rfl,⟨by rw[zt4,zi];omega,?comp⟩⟩⟩⟩)))))))
   case comp=>
    refine vU (fun d=>vN (zm ds "price" (zn4 d))) (fun d=>pB "price" (zn4 d)) (fun d hd=>?_) ?_
    ·obtain⟨z,_,rfl⟩:=zH2.mp hd
     refine⟨_,rfl,fun C s2 H2 fp Q k=>fF (wH (xg MT hr (zc 1 rfl ⟨_,rfl,rfl,zf (zY (zf (zc 0 rfl (zo ⟨ds,_,_,rfl,rd,by simp[words],k⟩))))⟩))),fun _ C s2 H2 fp Q k=>yR (zf (zY (zf (zc 0 rfl (zo (⟨_,rfl,zu6 rfl,k⟩))))))⟩
    ·refine zB ?_
     rw[zH1,pR ds _ _ (fun _=>rfl) _ (fun _=>rfl)]
     rfl
  rintro α rfl
  have n0:=tf ds c (g-c).toNat
  obtain⟨bc,ec⟩:=zj1 rr c
  obtain⟨bg,eg⟩:=zr0 rr g
  obtain⟨il,el,_,_⟩:=cS rr c
  obtain⟨im,em,_,_⟩:=zc6 rr c
  refine vh (fun α=>α=[some (.dat (yu C cs ds)),some (.dat (.tuple [.int c,.int g])),some (.dat (.int c)),some (.dat (.int g)),some (.own (xt ds c (g-c).toNat++opt (isF (zm ds "come" c)) (pB "come" c)))]) ?_ ?_
  ·refine yS (vT (yZ (xg MT hr (zc 0 rfl ⟨_,rfl,rfl,zf (zY (zf (zc 2 rfl (zo ⟨ds,_,_,rfl,rd,by simp[words],⟨bc,ec,?_⟩⟩))))⟩))))
   rw[ec]
   refine xN (fun hc=>?_) (fun hc=>?_)
   ·refine yv 4 rfl (yR (zf (zY (zf (zc 2 rfl (zo (⟨_,rfl,zu6 rfl,⟨by omega,zB (zB ?_)⟩⟩)))))))
    have hb:isF (PyData.bool bc)=true:=hc
    rw[hb]<;>rfl
   ·refine zB (zB ?_)
    have hb:isF (PyData.bool bc)=false:=hc
    rw[hb,show opt false (pB "come" c)=[] from rfl,zx9]
  rintro α rfl
  have l1:(xt ds c (g-c).toNat++opt (isF (zm ds "come" c)) (pB "come" c)).length≤101:=by
   have:=xJ (isF (zm ds "come" c)) (pB "come" c)
   rw[zu9];omega
  generalize eacc1:xt ds c (g-c).toNat++opt (isF (zm ds "come" c)) (pB "come" c)=acc1 at l1
  refine vh (fun α=>α=[some (.dat (yu C cs ds)),some (.dat (.tuple [.int c,.int g])),some (.dat (.int c)),some (.dat (.int g)),some (.own (acc1++opt (isF (zm ds "go" g)) (pB "go" g)))]) ?_ ?_
  ·refine yS (vT (yZ (xg MT hr (zc 0 rfl ⟨_,rfl,rfl,zf (zY (zf (zc 3 rfl (zo ⟨ds,_,_,rfl,rd,by simp[words],⟨bg,eg,?_⟩⟩))))⟩))))
   rw[eg]
   refine xN (fun hc=>?_) (fun hc=>?_)
   ·refine yv 4 rfl (yR (zf (zY (zf (zc 3 rfl (zo (⟨_,rfl,zu6 rfl,⟨by omega,zB (zB ?_)⟩⟩)))))))
    have hb:isF (PyData.bool bg)=true:=hc
    rw[hb]<;>rfl
   ·refine zB (zB ?_)
    have hb:isF (PyData.bool bg)=false:=hc
    rw[hb,show opt false (pB "go" g)=[] from rfl,zx9]
  rintro α rfl
  have l2:(acc1++opt (isF (zm ds "go" g)) (pB "go" g)).length≤102:=by
   have:=xJ (isF (zm ds "go" g)) (pB "go" g)
   rw[zu9];omega
  generalize eacc2:acc1++opt (isF (zm ds "go" g)) (pB "go" g)=acc2 at l2
  refine vh (fun α=>α=[some (.dat (yu C cs ds)),some (.dat (.tuple [.int c,.int g])),some (.dat (.int c)),some (.dat (.int g)),some (.own (acc2++opt (decide (g-c<intOf (zm ds "least" c))) (pB "least" c)))]) ?_ ?_
  ·refine yS (aR (pe (zc 3 rfl (zc 2 rfl (⟨_,_,rfl,rfl,xg MT hr (zc 0 rfl ⟨_,rfl,rfl,zf (zY (zf (zc 2 rfl (zo ⟨ds,_,_,rfl,rd,by simp[words],⟨_,il,rfl,el,?_⟩⟩))))⟩)⟩)))))
   rw[el]
   refine xN (fun hc=>?_) (fun hc=>?_)
   ·refine yv 4 rfl (yR (zf (zY (zf (zc 2 rfl (zo (⟨_,rfl,zu6 rfl,⟨by omega,zB (zB ?_)⟩⟩)))))))
    have hb:decide (g-c<intOf (PyData.int il))=true:=hc
    rw[hb]<;>rfl
   ·refine zB (zB ?_)
    have hb:decide (g-c<intOf (PyData.int il))=false:=hc
    rw[hb,show opt false (pB "least" c)=[] from rfl,zx9]
  rintro α rfl
  have l3:(acc2++opt (decide (g-c<intOf (zm ds "least" c))) (pB "least" c)).length≤103:=by
   have:=xJ (decide (g-c<intOf (zm ds "least" c))) (pB "least" c)
   rw[zu9];omega
  generalize eacc3:acc2++opt (decide (g-c<intOf (zm ds "least" c))) (pB "least" c)=acc3 at l3
  refine vh (fun α=>α=[some (.dat (yu C cs ds)),some (.dat (.tuple [.int c,.int g])),some (.dat (.int c)),some (.dat (.int g)),some (.own (acc3++opt (decide (intOf (zm ds "most" c)<g-c)) (pB "most" c)))]) ?_ ?_
  ·refine yS (eu (pe (zc 3 rfl (zc 2 rfl (⟨_,_,rfl,rfl,xg MT hr (zc 0 rfl ⟨_,rfl,rfl,zf (zY (zf (zc 2 rfl (zo ⟨ds,_,_,rfl,rd,by simp[words],⟨_,im,rfl,em,?_⟩⟩))))⟩)⟩)))))
   rw[em]
   refine xN (fun hc=>?_) (fun hc=>?_)
   ·refine yv 4 rfl (yR (zf (zY (zf (zc 2 rfl (zo (⟨_,rfl,zu6 rfl,⟨by omega,zB (zB ?_)⟩⟩)))))))
    have hb:decide (intOf (PyData.int im)<g-c)=true:=hc
    rw[hb]<;>rfl
   ·refine zB (zB ?_)
    have hb:decide (intOf (PyData.int im)<g-c)=false:=hc
    rw[hb,show opt false (pB "most" c)=[] from rfl,zx9]
  rintro α rfl
  have l4:(acc3++opt (decide (intOf (zm ds "most" c)<g-c)) (pB "most" c)).length≤104:=by
   have:=xJ (decide (intOf (zm ds "most" c)<g-c)) (pB "most" c)
   rw[zu9];omega
  generalize eacc4:acc3++opt (decide (intOf (zm ds "most" c)<g-c)) (pB "most" c)=acc4 at l4
  have eb:yF ds c g=acc4:=by
   unfold yF
   rw[eacc1,eacc2,eacc3,eacc4]
  rw[eb] at q
  exact xU 4 rfl q
end
theorem gH {d:PyData}(h:uA d=true):∃many free:Nat,d=.tuple [.int many,.int free]∧0<free∧free<many∧many<64:=by
 unfold uA at h
 split at h
 ·rename_i m r
  rw[zv6] at h
  obtain⟨i,e,i0,i1⟩:=yU h.1
  obtain⟨j,e2,j0,j1⟩:=yU h.2
  subst e2
  injection e with e
  subst e
  refine⟨m.toNat,j.toNat,?_,by omega,by omega,by omega⟩
  rw[show ((m.toNat:Nat):Int)=m by omega,show ((j.toNat:Nat):Int)=j by omega]
 ·cases h
theorem fO {ds:List PyData}(h:∀d∈ds,yT d=true)(day:Int):fU (zm ds "deal" day):=by
 have:=yE h (x:="deal") (by simp[words]) day
 rw[vW,zC6] at this
 rcases this with z|z
 ·left
  cases e:zm ds "deal" day with
  |none=>rfl
  |_=>rw[e] at z;cases z
 ·exact .inr (gH z)
theorem zG.all {ds:List PyData}(h:zG ds):∀d∈ds,yT d=true:=fun d hd=>(h d hd).rule
def pZ (ds:List PyData)(c g:Int):Prop:=∀z,c≤z→z<g→vN (zm ds "price" z)=false
def prs (ds:List PyData)(c g:Int):List Int:=(zx c (g-c).toNat).map fun z=>intOf (zm ds "price" z)
def uf (ds:List PyData)(c:Int):Int:=intOf (zm ds "fee" c)
theorem sD {ds:List PyData}{c g z:Int}(h:zG ds)(s:pZ ds c g)(h0:c≤z)(h1:z<g):zm ds "price" z=.int (intOf (zm ds "price" z))∧0≤intOf (zm ds "price" z)∧intOf (zm ds "price" z)≤1000000000000:=by
 rcases bY h.all z with e|⟨i,e,i0,i1⟩
 ·have:=s z h0 h1
  rw[e] at this;cases this
 ·rw[e];exact⟨rfl,i0,i1⟩
theorem aj {ds:List PyData}(h:zG ds)(c:Int):zm ds "fee" c=.int (uf ds c)∧0≤uf ds c∧uf ds c≤1000000000000:=by
 obtain⟨i,e,i0,i1⟩:=zp1 h.all c
 unfold uf
 rw[e];exact⟨rfl,i0,i1⟩
def si (c g:Int):Prop:=0≤c∧c<g∧g≤c+14∧g≤1000000
def pQ (C:Addr)(cs:Cs):List A→(A→Prop)→Prop:=fun as Q=>∃(ds:List PyData) (c g:Int),as=[.dat (yu C cs ds),.dat (.tuple [.int c,.int g])]∧zG ds∧si c g∧pZ ds c g∧
 ∀bs rows,wm (zm ds "deal" c) (prs ds c g) bs→Q (.dat (.tuple [.int ((yx (prs ds c g) bs).sum+uf ds c),rows,.int (uf ds c)]))
def wU (ds:List PyData)(c g:Int):Bool:=(yF ds c g).isEmpty
noncomputable def zl5 (ds:List PyData)(c g:Int):List Bool:=Classical.epsilon fun bs=>wm (zm ds "deal" c) (prs ds c g) bs
noncomputable def coD (ds:List PyData)(c g:Int):Int:=(yx (prs ds c g) (zl5 ds c g)).sum+uf ds c
theorem kF {ds:List PyData}{c g y:Int}(ro:zG ds)(so:pZ ds c g)(h:y∈prs ds c g):0≤y∧y≤1000000000000:=by
 obtain⟨z,hz,rfl⟩:=zH2.mp h
 have hz:=yJ.mp hz
 exact (sD ro so hz.1 (by omega)).2
theorem aW {ds:List PyData}{c g:Int}{bs:List Bool}(ro:zG ds)(so:pZ ds c g)(mk:wm (zm ds "deal" c) (prs ds c g) bs):(yx (prs ds c g) bs).sum+uf ds c=coD ds c g:=by
 have h2:wm (zm ds "deal" c) (prs ds c g) (zl5 ds c g):=Classical.epsilon_spec (p:=fun bs=>wm (zm ds "deal" c) (prs ds c g) bs) ⟨bs,mk⟩
 have:=mR (e:=0) mk h2 (fO ro.all c) rfl (by simp) (fun i hi=>Int.le_refl _) (fun z hz=>(kF ro so hz).1) fun z hz=>(kF ro so hz).1
 unfold coD
 omega
theorem xP {α:Type}{a b:List α}:(a++b).isEmpty=(a.isEmpty&&b.isEmpty):=by cases a<;>rfl
theorem tG {b:Bool}{d:PyData}:(opt b d).isEmpty=!b:=by cases b<;>rfl
theorem cT {ds:List PyData}{c g:Int}:wU ds c g=true↔pZ ds c g∧isF (zm ds "come" c)=false∧isF (zm ds "go" g)=false∧¬g-c<intOf (zm ds "least" c)∧¬intOf (zm ds "most" c)<g-c:=by
 unfold wU yF
 rw[xP,xP,xP,xP,tG,tG,tG,tG]
 have:(xt ds c (g-c).toNat).isEmpty=true↔pZ ds c g:=by
  unfold xt pZ
  rw[List.isEmpty_iff,List.map_eq_nil_iff,List.filter_eq_nil_iff]
  refine⟨fun h z z0 z1=>?_,fun h z hz=>?_⟩
  ·have:=h z (yJ.mpr ⟨z0,by omega⟩)
   simpa using this
  ·have hz:=yJ.mp hz
   rw[h z hz.1 (by omega)];decide
 simp only[zv6,this,Bool.not_eq_true',zF4,and_assoc]
theorem uy {ds:List PyData}{c g:Int}(h:wU ds c g=true):pZ ds c g:=(cT.mp h).1
theorem tZ {ds:List PyData}{c g:Int}(cg:c≤g){d:PyData}(h:d∈yF ds c g):∃(x:Str) (z:Int),d=pB x z∧x∈words∧c≤z∧z≤g:=by
 unfold yF at h
 simp only[zA0] at h
 have ho:∀{b:Bool} {x:Str} {z:Int},d∈opt b (pB x z)→d=pB x z:=fun {b x z} h=>by
  cases b
  ·simp[opt] at h
  ·simpa[opt] using h
 rcases h with (((h|h)|h)|h)|h
 ·obtain⟨z,hz,rfl⟩:=zH2.mp h
  have hz:=yJ.mp (List.mem_filter.mp hz).1
  exact⟨_,z,rfl,by simp[words],hz.1,by omega⟩
 ·exact⟨_,c,ho h,by simp[words],by omega,by omega⟩
 ·exact⟨_,g,ho h,by simp[words],by omega,by omega⟩
 ·exact⟨_,c,ho h,by simp[words],by omega,by omega⟩
 ·exact⟨_,c,ho h,by simp[words],by omega,by omega⟩
theorem jc {x:Str}{z:Int}(hx:x∈words)(h0:-100≤z)(h1:z≤2000000):zX 5000 (pB x z)∧(pB x z).depth≤1:=by
 have hbig:(2000001:Int)<big:=by decide
 have hneg:-big<(-100:Int):=by decide
 exact⟨zX.tuple (n:=2000) (yo.two (qq hx) (zX.int (by omega) (by omega)) (zv3 _) (zv3 _)) (by show 2*(2000+2)+3≤5000;decide),by simp[pB,PyData.depth,PyData.depthAll]⟩
theorem nH {ds:List PyData}{c g:Int}:(yF ds c g).length≤(g-c).toNat+4:=by
 unfold yF
 simp only[zu9]
 have h0:=tf ds c (g-c).toNat
 have h1:=xJ (isF (zm ds "come" c)) (pB "come" c)
 have h2:=xJ (isF (zm ds "go" g)) (pB "go" g)
 have h3:=xJ (decide (g-c<intOf (zm ds "least" c))) (pB "least" c)
 have h4:=xJ (decide (intOf (zm ds "most" c)<g-c)) (pB "most" c)
 omega
theorem yq {ds:List PyData}{c g:Int}(sb:si c g):zX sizeLine (.list (yF ds c g)):=by
 obtain⟨c0,cg,g1,g2⟩:=sb
 refine zX.list (n:=5000) ⟨fun d hd=>?_,fun d hd=>?_⟩ ?_
 ·obtain⟨x,z,rfl,hx,a,b⟩:=tZ (by omega) hd
  exact (jc hx (by omega) (by omega)).1
 ·obtain⟨x,z,rfl,hx,a,b⟩:=tZ (by omega) hd
  have:=(jc hx (z:=z) (by omega) (by omega)).2
  omega
 ·have h2:(yF ds c g).length*(5000+2)≤18*(5000+2):=zD8 _ (by have:=nH (ds:=ds) (c:=c) (g:=g);omega)
  have h3:18*(5000+2)+2≤sizeLine:=by decide
  omega
theorem ja {ds:List PyData}:PyData.eqv (.list ds) (.list [])=ds.isEmpty:=by
 cases ds<;>rfl
def za0 (C:Addr)(cs:Cs):List A→(A→Prop)→Prop:=fun as Q=>∃(ds:List PyData) (c g:Int),as=[.dat (yu C cs ds),.dat (.tuple [.int c,.int g])]∧zG ds∧si c g∧Q (.dat (.bool (wU ds c g)))
def dz (C:Addr)(cs:Cs):List A→(A→Prop)→Prop:=fun as Q=>∃(ds:List PyData) (c g:Int),as=[.dat (yu C cs ds),.dat (.tuple [.int c,.int g])]∧zG ds∧si c g∧wU ds c g=true∧Q (.dat (.int (coD ds c g)))
section
variable {P:Program}{w:World}{K:PySem.W.Frag}{mg:Str→Option Value}{base:Heap}{cs:Cs}
theorem jW {C:Addr}(CB:Cal P w K mg base "bill" 5 (hV C cs)):Cal P w K mg base "bill" 5 (pQ C cs):=by
 refine CB.imp fun as Q h=>?_
 obtain⟨ds,c,g,rfl,ro,⟨c0,cg,g1,g2⟩,so,q⟩:=h
 refine⟨ds,c,g,uf ds c,fun z=>intOf (zm ds "price" z),rfl,ro.rules,c0,cg,by omega,by omega,fun z z0 z1=>sD ro so z0 z1,?_,(aj ro c).1,fun bs mk=>q bs _ mk⟩
 rcases fO ro.all c with e|⟨m,f,e,f0,fm,m6⟩
 ·exact .inl e
 ·exact .inr ⟨m,f,e,by omega,m6⟩
theorem zp7 :zl ["book","stay"] ["book","stay"] (zb ze9):=⟨rfl,rfl,rfl,by decide +kernel,rfl,by decide +kernel,by decide +kernel⟩
theorem cL {f C:Addr}{fd:FuncData}(F:Fun K "can_be_had" "can_be_had" ze9 f fd)(hm:mg "can_be_had"=some (.ref f))(hb:Binds K fd ["book","stay"] [])(CB:Cal P w K mg base "bars" 3 (sF C cs)):Cal P w K mg base "can_be_had" 4 (za0 C cs):=by
 refine vJ F hm hb zp7 (fun as Q h=>?_) (fun cdv A' outer s H E as Q hr h=>?_)
 ·obtain⟨ds,c,g,rfl,_⟩:=h
  rfl
 ·obtain⟨ds,c,g,rfl,ro,sb,q⟩:=h
  obtain⟨c0,cg,g1,g2⟩:=id sb
  have nd:=zp7.nd
  and_intros
  refine⟨ds,c,g,rfl,ro.rules,by omega,by omega,by omega,by omega,?_⟩
  and_intros
  exact eqk (yq sb).shaped rfl (yq sb).nod rfl (by rw[show PyData.eqv (A.own (yF ds c g)).d (.list [])=wU ds c g from ja];exact q)
theorem za6 :zl ["book","stay","found"] ["book","stay"] (zb oA):=⟨rfl,rfl,rfl,by decide +kernel,rfl,by decide +kernel,by decide +kernel⟩
theorem eA {f C:Addr}{fd:FuncData}(F:Fun K "cost" "cost" oA f fd)(hm:mg "cost"=some (.ref f))(hb:Binds K fd ["book","stay"] [])(CB:Cal P w K mg base "bars" 3 (sF C cs))(CL:Cal P w K mg base "bill" 5 (pQ C cs)):Cal P w K mg base "cost" 6 (dz C cs):=by
 refine vJ F hm hb za6 (fun as Q h=>?_) (fun cdv A' outer s H E as Q hr h=>?_)
 ·obtain⟨ds,c,g,rfl,_⟩:=h
  rfl
 ·obtain⟨ds,c,g,rfl,ro,sb,hh,q⟩:=h
  obtain⟨c0,cg,g1,g2⟩:=id sb
  have nd:=za6.nd
  have e0:yF ds c g=[]:=List.isEmpty_iff.mp hh
  and_intros
  refine⟨ds,c,g,rfl,ro.rules,by omega,by omega,by omega,by omega,?_⟩
  rw[e0]
  and_intros
  refine⟨ds,c,g,rfl,ro,sb,uy hh,fun bs rows mk=>?_⟩
  and_intros
  show Q _
  rw[aW ro (uy hh) mk]
  exact q
end
abbrev dN :Stmt:=top 58
def gO :List A→(A→Prop)→Prop:=fun as Q=>∃bs dy:Int,as=[.tape,.dat (.int bs),.dat (.int dy)]∧Bd bs dy∧∀c g:Int,bs≤c→c<g→g≤bs+dy→Q (.dat (.tuple [.int c,.int g]))
section
variable {P:Program}{w:World}{K:PySem.W.Frag}{mg:Str→Option Value}{base:Heap}
theorem zh2 :zl ["_law_tape_here","_law_base","_law_days","_law_many","_law_come"] ["_law_tape_here","_law_base","_law_days"] (zb dN):=⟨rfl,rfl,rfl,by decide +kernel,rfl,by decide +kernel,by decide +kernel⟩
theorem di {f:Addr}{fd:FuncData}(F:Fun K "_law_stay" "_law_stay" dN f fd)(hm:mg "_law_stay"=some (.ref f))(hb:Binds K fd ["_law_tape_here","_law_base","_law_days"] [])(CD:Cal P w K mg base "_law_draw" 1 xV):Cal P w K mg base "_law_stay" 2 gO:=by
 refine vJ F hm hb zh2 (fun as Q h=>?_) (fun cdv A' outer s H E as Q hr h=>?_)
 ·obtain⟨bs,dy,rfl,_⟩:=h
  rfl
 ·obtain⟨bs,dy,rfl,⟨b1,b2,b3,b4⟩,q⟩:=h
  have hbig:(1000001:Int)<big:=by decide
  refine zQ 3 zh2.nd (xF (yc (yn CD hr (by rfl) (zZ 0 rfl (zf (zc 2 rfl (zo (⟨_,rfl,by omega,by omega,fun v1 h1 g1=>⟨_,_,rfl,rfl,?_⟩⟩))))))))
  refine zQ 4 zh2.nd (xF (zc 1 rfl (yn CD hr (by rfl) (zZ 0 rfl (zf (xF (pe (zc 2 rfl (zc 3 rfl (⟨_,_,rfl,rfl,yc (⟨_,_,rfl,rfl,zo (⟨_,rfl,by omega,by omega,fun v2 h2 g2=>⟨_,_,rfl,rfl,?_⟩⟩)⟩)⟩))))))))))
  refine vg (yR (zf (zc 4 rfl (zf (xF (zc 4 rfl (zc 3 rfl (⟨_,_,rfl,rfl,zo (⟨_,rfl,zu6 rfl,?_⟩)⟩))))))))
  exact q _ _ (by omega) (by omega) (by omega)
end
end K42
namespace L2
open PySem PySem.Spec PyProof.Rows
theorem ze8 {X:Cx}{α:Ev}{E:xi}{rest:List Stmt}{pos p p':Pos}(i y:Nat){x n:Str}{d:PyData}{S:Addr→Prop}(hN:X.N.Nodup)(hy:α[y]?=some (some (.deep d S)))(hne:y≠i)(h:SvS X ((α.set y none).set i (some (.deep d S))) rest E)(hn:X.N[y]?=some n:=by rfl)(hv:Vis X.env.scope n:=by first|exact Or.inl rfl|exact Or.inr (Or.inl rfl)|exact Or.inr (Or.inr rfl))
  (hdb:(n == ("__debug__":Str))=false:=by decide) (hcd:(n == ("__classdict__":Str))=false:=by decide) (hi:X.N[i]?=some x:=by rfl) (hx:Loc X.env.scope x:=by first|exact Or.inl rfl|exact Or.inr rfl)
  (hs:swapsWith (.Name n p) (some (.Name x p')) pos.line X.env=pure false:=by rfl) (hf:X.fn x=true∨X.env.scope.names.lookup x=some .local:=by first|exact .inl rfl|exact .inr rfl|assumption):SvS X α (.Assign [.Name x p'] (.Name n p) pos::rest) E:=fun F σ H D m r=>by
 refine⟨_,zJ (wC hN hi hx (yI hn hv hdb hcd) hs hf) ym,?_⟩
 obtain⟨v,h1,h2,h3⟩:=m.deep y d S hy
 refine⟨v,h1,h F _ H D ?_ r⟩
 have hl:=m.len
 have key:∀{k:Nat} {a:A},((α.set y none).set i (some (.deep d S)))[k]?=some (some a)→k<α.length∧((k=i∧a=.deep d S)∨(k≠i∧k≠y∧α[k]?=some (some a))):=fun {k a} e=>by
  have hk:=(zt8.mp e).1
  rw[zv8,zv8] at hk
  rcases zI e with ⟨rfl,z⟩|⟨z1,z2⟩
  ·cases z;exact⟨hk,.inl ⟨rfl,rfl⟩⟩
  ·rcases zI z2 with ⟨_,z⟩|⟨z3,z4⟩
   ·cases z
   ·exact⟨hk,.inr ⟨fun w=>z1 w.symm,fun w=>z3 w.symm,z4⟩⟩
 refine m.reidx (fun k=>if k=i then y else k) (by rw[zv8,zv8,zv8];exact hl) (fun k a s e1 e2=>?_) fun k k' a a' e e' z=>?_
 ·obtain⟨hk,⟨rfl,rfl⟩|⟨hne,hny,e⟩⟩:=key e1
  ·rw[if_pos rfl]
   rw[zy0 (by omega)] at e2
   cases e2
   exact⟨hy,h1⟩
  ·rw[if_neg hne]
   rw[zw6 (fun w=>hne w.symm)] at e2
   exact⟨e,e2⟩
 ·rcases (key e).2 with ⟨z1,_⟩|⟨z1,y1,_⟩
  ·rcases (key e').2 with ⟨z2,_⟩|⟨z2,y2,_⟩
   ·omega
   ·rw[if_pos z1,if_neg z2] at z;exact absurd z.symm y2
  ·rcases (key e').2 with ⟨z2,_⟩|⟨z2,y2,_⟩
   ·rw[if_neg z1,if_pos z2] at z;exact absurd z y1
   ·rw[if_neg z1,if_neg z2] at z;exact z
end L2
namespace K42
open PySem PySem.Spec PyProof.Rows L2
abbrev tY :Stmt:=inClass (top 15) 0
theorem zo0 :zl ["self","bars"] ["self","bars"] (zb tY):=⟨rfl,rfl,rfl,by decide +kernel,rfl,by decide +kernel,by decide +kernel⟩
theorem zb8 {P:Program}{w:World}{K:PySem.W.Frag}{mg:Str→Option Value}{base:Heap}{f C S:Addr}{fd:FuncData}(F:Fun K "__init__" "Barred.__init__" tY f fd)(nb:NbT mg)(hb:Binds K fd ["self","bars"] [])(hm:mg "Barred"=some (.ref C))(hS:mg "StayError"=some (.ref S))(kp:PySem.W.keepIn K (.ref C)=true)(hf:PySem.W.typeIn K (.ref f)=some (.type "function"))(xs:XS K S)(xc:XC K C S (some (.ref f)))(hn:PySem.W.findIn K (.ref C) "bars"=some none):ze4 P w K mg base "Barred" 1 C "bars":=
 ⟨hm,kp,S,f,fd,_,xc.ok,hf,hb,iF F zo0 rfl rfl rfl nb.list hS xs xc hn (fun _=>rfl) (Or.inl rfl) (Or.inl rfl)⟩
def baX (CB:Addr)(ds:List PyData):PyData:=xD CB [(.str "bars",.list ds)]
theorem ji :∀{ds:List PyData},(∀d∈ds,noL d=true)→vK ds=true
 |[],_=>rfl
 |d::ds,h=>by
  rw[vK,h d zv5,ji fun e he=>h e (zu3 _ he)]
  rfl
theorem iQ {ds:List PyData}{c g:Int}(cg:c≤g):vK (yF ds c g)=true:=ji fun d hd=>by
 obtain⟨x,z,rfl,_⟩:=tZ cg hd
 rfl
def jv (C:Addr)(cs:Cs)(CB:Addr):List A→(A→Prop)→(PyData→Prop)→Prop:=fun as _ q=>∃(ds:List PyData) (c g:Int),as=[.dat (yu C cs ds),.dat (.tuple [.int c,.int g])]∧zG ds∧si c g∧wU ds c g=false∧q (baX CB (yF ds c g))
section
variable {P:Program}{w:World}{K:PySem.W.Frag}{mg:Str→Option Value}{base:Heap}{cs:Cs}
theorem aN :zl ((["book","stay","found"]:List Str)++[("":Str)]) ["book","stay"] (zb oA):=⟨rfl,rfl,rfl,by decide +kernel,rfl,by decide +kernel,by decide +kernel⟩
theorem jQ {f C CBr:Addr}{fd:FuncData}(F:Fun K "cost" "cost" oA f fd)(hm:mg "cost"=some (.ref f))(hb:Binds K fd ["book","stay"] [])(CB:Cal P w K mg base "bars" 3 (sF C cs))(XB':ze4 P w K mg base "Barred" 1 CBr "bars"):aw P w K mg base "cost" 6 (jv C cs CBr):=by
 refine zr7 F hm hb aN (by decide) (fun as Q q h=>?_) (fun cdv A' outer s H E as Q q r xe hr h xo=>?_)
 ·obtain⟨ds,c,g,rfl,_⟩:=h
  rfl
 ·obtain⟨ds,c,g,rfl,ro,sb,hh,qz⟩:=h
  obtain⟨c0,cg,g1,g2⟩:=id sb
  have nd:=aN.nd
  refine zQ 2 nd (EvL.d (xX CB (hr.mono (by decide)) (by rfl) (zf (zc 0 rfl (zf (zc 1 rfl (zo ⟨ds,c,g,rfl,ro.rules,by omega,by omega,by omega,by omega,_,rfl,?_⟩)))))))
  refine yS (nC (zc 2 rfl ⟨true,?_,?_⟩))
  ·unfold wU at hh
   cases hb':yF ds c g with
   |nil=>rw[hb'] at hh;cases hh
   |cons x xs=>rfl
  refine kX rfl ?_
  exact iz (j:=3) xo rfl XB' (hr.mono (by decide)) (by rfl) rfl (leX.nil rfl) (zc 2 rfl ⟨_,rfl,iQ (by omega),qz⟩)
end
abbrev mj :Stmt:=top 59
def Kit (K:PySem.W.Frag)(mg:Str→Option Value)(C:Addr)(x:Str)(b:Bool):Prop:=∃B,mg x=some (.ref B)∧PySem.W.kitOne K (.ref C) (.ref B)=some b
structure XF (K:PySem.W.Frag)(mg:Str→Option Value)(CN S:Addr):Prop where
 mS:mg "StayError"=some (.ref S)
 b:XB K CN S
 xc:∃init,XC K CN S init
 nn:PySem.W.findIn K (.ref CN) "bars"=some none
 k1:Kit K mg CN "Barred" true
 k2:Kit K mg CN "Had" false
 k3:Kit K mg CN "NoRule" false
 k4:Kit K mg CN "NoText" false
 k5:Kit K mg CN "NotSold" false
 k6:Kit K mg CN "Off" false
 k7:Kit K mg CN "TooMany" false
 mV:mg "ValueError"=none
 kV:PySem.W.kitOne K (.ref CN) (.type "ValueError")=some true
noncomputable def qS (ds:List PyData)(c g:Int):PyData:=if wU ds c g=true then .tuple [.str "costs",.int (coD ds c g)] else .tuple [.str "barred",.str (PyData.list (yF ds c g)).shown]
def kJ (C:Addr)(cs:Cs):List A→(A→Prop)→Prop:=fun as Q=>∃(ds:List PyData) (c g:Int),as=[.dat (yu C cs ds),.dat (.tuple [.int c,.int g])]∧zG ds∧si c g∧Q (.dat (qS ds c g))
section
variable {P:Program}{w:World}{K:PySem.W.Frag}{mg:Str→Option Value}{base:Heap}{cs:Cs}
theorem zo9 :zl ((["_law_book","_law_stay_here","_law_found","_law_coins_here","e","_law_told_here"]:List Str)++[("":Str)]) ["_law_book","_law_stay_here"] (zb mj):=⟨rfl,rfl,rfl,by decide +kernel,rfl,by decide +kernel,by decide +kernel⟩
set_option maxHeartbeats 4000000 in
theorem jR {f C CN S:Addr}{fd:FuncData}(F:Fun K "_law_told" "_law_told" mj f fd)(hm:mg "_law_told"=some (.ref f))(hb:Binds K fd ["_law_book","_law_stay_here"] [])(nb:NbT mg)(xf:XF K mg CN S)(CC:Cal P w K mg base "cost" 6 (dz C cs))(CU:aw P w K mg base "cost" 6 (jv C cs CN)):Cal P w K mg base "_law_told" 7 (kJ C cs):=by
 refine vJ F hm hb zo9 (fun as Q h=>?_) (fun cdv A' outer s H E as Q hr h=>?_)
 ·obtain⟨ds,c,g,rfl,_⟩:=h
  rfl
 ·obtain⟨ds,c,g,rfl,ro,sb,q⟩:=h
  obtain⟨c0,cg,g1,g2⟩:=id sb
  have nd:=zo9.nd
  obtain⟨init,xc⟩:=xf.xc
  refine zQ 2 nd (sR ?_)
  refine zQ 3 nd (sR ?_)
  have lx:leX [some (.dat (yu C cs ds)),some (.dat (.tuple [.int c,.int g])),some (.dat .none),some (.dat .none),none,none,none] [some (.dat (yu C cs ds)),some (.dat (.tuple [.int c,.int g])),some (.dat .none),some (.dat .none),none,none,none]:=leX.cons (.inr ⟨rfl,fun a e=>by cases e;trivial⟩) (leX.cons (.inr ⟨rfl,fun a e=>by cases e;trivial⟩) (leX.cons (.inr ⟨rfl,fun a e=>by cases e;trivial⟩) (leX.cons (.inr ⟨rfl,fun a e=>by cases e;trivial⟩) (leX.cons (.inl rfl) (leX.cons (.inl rfl) (leX.cons (.inl rfl) leX.nil'))))))
  unfold qS at q
  by_cases hh:wU ds c g=true
  ·rw[if_pos hh] at q
   refine oX 4 6 [some (.dat (yu C cs ds)),some (.dat (.tuple [.int c,.int g])),some (.dat .none),some (.dat .none),none,none,none] (fun _=>False) rfl rfl nd rfl lx (by rfl) xf.mS (fun _ z=>z.elim) (fun pins xe r xo=>?_) (fun pins a d S z=>z.elim)
   refine zQ 3 nd (yn CC hr (by rfl) (zf (zc 0 rfl (zf (zc 1 rfl (zo ⟨ds,c,g,rfl,ro,sb,hh,zB ?_⟩))))))
   and_intros
   exact q
  ·rw[if_neg hh] at q
   have hh:wU ds c g=false:=by simpa using hh
   refine oX 4 6 [some (.dat (yu C cs ds)),some (.dat (.tuple [.int c,.int g])),some (.dat .none),some (.dat .none),none,none,none] (fun d=>d=baX CN (yF ds c g)) rfl rfl nd rfl lx (by rfl) xf.mS (fun d e=>⟨CN,.inl ⟨_,e⟩,xf.b⟩) (fun pins xe r xo=>?_) (fun pins a d S e=>?_)
   ·exact zQ 3 nd (aD (j:=6) xo rfl (leX.cons (.inr ⟨rfl,fun a e=>by cases e;trivial⟩) (leX.cons (.inr ⟨rfl,fun a e=>by cases e;trivial⟩) (leX.cons (.inr ⟨rfl,fun a e=>by cases e;trivial⟩) (leX.cons (.inr ⟨rfl,fun a e=>by cases e;trivial⟩) (leX.cons (.inl rfl) (leX.cons (.inl rfl) (leX.cons (.inl rfl) leX.nil'))))))) CU hr (by rfl) (zf (zc 0 rfl (zf (zc 1 rfl (zo ⟨ds,c,g,rfl,ro,sb,hh,rfl⟩))))))
   ·subst e
    refine ze8 2 4 nd rfl (by decide) (zB ?_)
    refine yS (uu 2 rfl (wH (zc 2 rfl ?_)))
    refine vB rfl (zB ?_)
    obtain⟨B1,m1,e1⟩:=xf.k1
    obtain⟨B2,m2,e2⟩:=xf.k2
    obtain⟨B3,m3,e3⟩:=xf.k3
    obtain⟨B4,m4,e4⟩:=xf.k4
    obtain⟨B5,m5,e5⟩:=xf.k5
    obtain⟨B6,m6,e6⟩:=xf.k6
    obtain⟨B7,m7,e7⟩:=xf.k7
    have ix:isX CN (baX CN (yF ds c g)):=.inl ⟨_,rfl⟩
    refine yS (uu 2 rfl (EvW.t (ug (vT (yZ (wt (by rfl) nb.isinstance (by rfl) m1 (zc 2 rfl ⟨CN,_,init,true,ix,xc,e1,⟨_,rfl,?_⟩⟩)))))))
    refine uk rfl (rz (vT (yZ (gB (by rfl) nb.isinstance (by rfl) xf.mV PyProof.Rows.Boot.«ValueError» (zc 2 rfl ⟨CN,_,init,true,ix,xc,xf.kV,⟨_,rfl,?_⟩⟩)))))
    refine vB rfl (zB ?_)
    refine yS (uu 2 rfl (EvW.t (ug (yZ (wt (by rfl) nb.isinstance (by rfl) m2 (zc 2 rfl ⟨CN,_,init,false,ix,xc,e2,⟨_,rfl,?_⟩⟩))))))
    refine uk rfl (ug (yZ (wt (by rfl) nb.isinstance (by rfl) m3 (zc 2 rfl ⟨CN,_,init,false,ix,xc,e3,⟨_,rfl,?_⟩⟩))))
    refine uk rfl (ug (yZ (wt (by rfl) nb.isinstance (by rfl) m4 (zc 2 rfl ⟨CN,_,init,false,ix,xc,e4,⟨_,rfl,?_⟩⟩))))
    refine uk rfl (rz (yZ (wt (by rfl) nb.isinstance (by rfl) m5 (zc 2 rfl ⟨CN,_,init,false,ix,xc,e5,⟨_,rfl,?_⟩⟩))))
    refine vB rfl (zB ?_)
    refine yS (uu 2 rfl (EvW.t (ug (yZ (wt (by rfl) nb.isinstance (by rfl) m6 (zc 2 rfl ⟨CN,_,init,false,ix,xc,e6,⟨_,rfl,?_⟩⟩))))))
    refine uk rfl (ug (yZ (wt (by rfl) nb.isinstance (by rfl) m7 (zc 2 rfl ⟨CN,_,init,false,ix,xc,e7,⟨_,rfl,?_⟩⟩))))
    refine uk rfl (rz (vT (yZ (uE (by rfl) nb.isinstance (by rfl) nb.list boot_list (kL xc xf.nn (zc 2 rfl ⟨_,_,rfl,rfl,true,(yq sb).nod,rfl,⟨_,rfl,?_⟩⟩))))))
    refine vB rfl (zB ?_)
    refine zQ 5 nd (gU 2 rfl (yR (zf (zY (zf (qL hr.gd hr.units (by rfl) nb.repr (kL xc xf.nn (zc 2 rfl ⟨_,_,rfl,rfl,yq sb,zo ⟨_,rfl,zu6 rfl,rfl,?_⟩⟩))))))))
    refine bu (f:="") 2 xc xf.nn rfl rfl (by have:=nH (ds:=ds) (c:=c) (g:=g);omega) (yR (zf (zY (zf (yc (zo ⟨_,rfl,zu6 rfl,?_⟩))))))
    exact vg (zc 5 rfl q)
end
end K42
namespace L2
open PySem PySem.Spec PyProof.Rows
def zq7 :R2:=fun x y H R=>∃a b vs,x=.ref a∧y=.ref b∧H a=some (.tup vs)∧H b=some (.tup vs)∧vs.all nF=true∧R (.bl false) H
theorem dW {x:V}(h:nF x=true):eqV x x=true:=by cases x<;>first|(simp[eqV];done)|cases h
theorem Vals.at {vs:List V}{us:List Value}(r:Vals vs us):∀{j:Nat} {u:Value},us[j]?=some u→∃x,vs[j]?=some x∧RelV x u:=by
 induction r with
 |nil=>intro j u e;simp at e
 |cons h _ ih=>
  intro j u e
  cases j with
  |zero=>simp at e;subst e;exact⟨_,rfl,h⟩
  |succ j=>exact ih (by simpa using e)
theorem zd8 {X:Cx}(hu:X.A.units+64<cLine):OpR X (compareOp .NotEq) zq7:=by
 intro pins s σ H x y v u Q I rx ry h
 obtain⟨a,b,vs,rfl,rfl,ha,hb,hv,q⟩:=h
 cases rx;cases ry
 obtain⟨its,r1,p1,_⟩:=I.tuple (SqT.of ha)
 obtain⟨its2,r2,p2,_⟩:=I.tuple (SqT.of hb)
 have l1:=r1.length
 have l2:=r2.length
 have h:=SeqAt.RcNeAt.tuples (A:=X.A) (e:=fun _=>true) p1 p2 (by omega) (fun j h1 h2=>by
  obtain⟨x1,e1,q1⟩:=r1.at (zt5 (by simpa using h1))
  obtain⟨x2,e2,q2⟩:=r2.at (zt5 (by simpa using h2))
  rw[e1] at e2;cases e2
  have f:=zD4.mp hv x1 (zy7 e1)
  have:=zj2 (A:=X.A.in1) (s:=s) q1 q2 f f
  rw[dW f] at this
  simpa using this)
 refine h X.prog X.w X.xe _ ⟨.bl false,H,I,?_,q⟩
 simp[RelV,←l1,←l2]
def scD :PyData→Bool
 |.str _=>true
 |.int _=>true
 |_=>false
theorem oj {G:Hp}:∀{xs ys:List V} {ts:List PyData},AVs G xs ts→AVs G ys ts→ts.all scD=true→xs=ys∧xs.all nF=true
 |_,_,_,.nil,.nil,_=>⟨rfl,rfl⟩
 |_,_,_,.cons (d:=d) h r,.cons h' r',a=>by
  rw[List.all_cons,zv6] at a
  obtain⟨e,f⟩:=oj r r' a.2
  cases d with
  |str s=>cases h.str_inv;cases h'.str_inv;exact⟨by rw[e],by rw[List.all_cons,f];rfl⟩
  |int i=>cases h.int_inv;cases h'.int_inv;exact⟨by rw[e],by rw[List.all_cons,f];rfl⟩
  |_=>cases a.1
theorem gK {X:Cx}{α:Ev}{a b:Expr}{pos:Pos}{Q:Bool→Prop}(hu:X.A.units+64<cLine)(h:EvD X α a fun x=>EvD X α b fun y=>∃ts,x=.tuple ts∧y=.tuple ts∧ts.all scD=true∧Q false):EvT X α (.Compare a [.NotEq] [b] pos) Q:=
 vZ (zd8 hu) (zF _) (h.imp fun x h=>h.imp fun y ⟨ts,e1,e2,sc,q⟩=>⟨false,by
  subst e1 e2
  intro p H vx vy R rx ry h
  obtain⟨a,xs,rfl,g1,g2⟩:=rx.tup_inv
  obtain⟨b,ys,rfl,k1,k2⟩:=ry.tup_inv
  obtain⟨rfl,f⟩:=oj g2 k2 sc
  exact⟨a,b,xs,rfl,rfl,(zj g1).2,(zj k1).2,f,h⟩,q⟩)
end L2
namespace K42
open PySem PySem.Spec PyProof.Rows L2
abbrev qN :Stmt:=top 60
theorem aL (ds:List PyData)(c g:Int):∃ts,qS ds c g=.tuple ts∧ts.all scD=true:=by
 unfold qS
 split
 ·exact⟨_,rfl,rfl⟩
 ·exact⟨_,rfl,rfl⟩
abbrev stL (C:Addr)(cs:Cs)(dy b:Int)(rs:List PyData)(d:PyData)(c g:Int)(o10 o11:Option A):Ev:=[none,some .tape,some (.dat (.int dy)),some (.dat (.int b)),some (.dat (.list rs)),some (.dat (yu C cs rs)),some (.dat d),some (.dat (.tuple [.int c,.int g])),some (.dat (.list (yF rs c g))),some (.dat (.bool (wU rs c g))),o10,o11]
section
variable {P:Program}{w:World}{K:PySem.W.Frag}{mg:Str→Option Value}{base:Heap}{cs:Cs}
theorem zk5 :zl ["_law_script","_law_tape_here","_law_days","_law_base","_law_rules_here","_law_book","_law_turn","_law_stay_here","_law_some","_law_had","_law_due","_law_told_here"] ["_law_script"] (zb qN):=⟨rfl,rfl,rfl,by decide +kernel,rfl,by decide +kernel,by decide +kernel⟩
theorem zj0 {f fT C:Addr}{fd fdT:FuncData}(F:Fun K "law" "law" qN f fd)(nb:NbT mg)(GT:zA P w K mg base CX0 1 fT fdT ["_law_script"] (nY K))(mT:mg "_law_tape"=some (.ref fT))(kT:PySem.W.keepIn K (.ref fT)=true)(bT:Binds K fdT ["_law_script"] [])
  (CD:Cal P w K mg base "_law_draw" 1 xV) (CRF:Cal P w K mg base "_law_rules" 5 om) (CO:Cal P w K mg base "_law_other_rules" 4 wc) (CS:Cal P w K mg base "_law_stay" 2 gO) (CBk:cj P w K mg base "Book" 9 [] (pO C cs)) (MR:wF P w K mg base C "rules" 3 (pM C cs)) (CBa:Cal P w K mg base "bars" 3 (sF C cs)) (CHa:Cal P w K mg base "can_be_had" 4 (za0 C cs)) (CBi:Cal P w K mg base "bill" 5 (pQ C cs)) (CTo:Cal P w K mg base "_law_told" 7 (kJ C cs)):
  zA P w K mg base CX0 13 f fd ["_law_script"] (oO K):=by
 refine zr6 (k:=11) F zk5 GT mT kT bT rfl rfl (Or.inl rfl) (Or.inl rfl) (fun cdv A' outer s H E hr=>?_)
 have nd:=zk5.nd
 and_intros
 rename_i v1 a1 b1 v2 a2 b2 v3 a3 b3
 obtain⟨dy,hdy⟩:∃dy:Int,dy=4+v1:=⟨_,rfl⟩
 rw[←hdy]
 refine aX (fun d=>∃b:Int,d=.int b∧0≤b∧b≤999980) rfl (by assumption) (by assumption) ⟨⟨_,rfl,by omega,by omega⟩,⟨_,rfl,by omega,by omega⟩,⟨_,rfl,by omega,by omega⟩,trivial⟩ ?_
 rintro _ ⟨b,rfl,b0,b1⟩
 refine zQ 4 nd (EvL.d (wM ?_))
 and_intros
 refine⟨b,dy,rfl,⟨b0,b1,by omega,by omega⟩,fun ds ro ld=>?_⟩
 and_intros
 refine⟨b,dy,rfl,⟨b0,by omega,by omega,by omega⟩,fun es re le=>?_⟩
 have ree:zG es:=re.ok (by omega) (by omega)
 and_intros
 refine aX (fun d=>∃fs,d=.list fs∧zG fs∧fs.length≤5) rfl (by assumption) (by assumption) ⟨⟨es,rfl,ree,le⟩,⟨[],rfl,(fun _ h=>by cases h),zv3 _⟩,trivial⟩ ?_
 rintro _ ⟨fs,rfl,rf,lf⟩
 and_intros
 refine⟨by omega,?_⟩
 obtain⟨rs,hrs⟩:∃rs,rs=ds++fs:=⟨_,rfl⟩
 have rr:zG rs:=by rw[hrs];exact ro.app rf
 have rl:rs.length≤15:=by rw[hrs,zu9];omega
 rw[←hrs]
 and_intros
 refine⟨rs,.inl rfl,rr.rules,by omega,?_⟩
 refine aE (.one 6) (vA (by rfl) nb.range ?_)
 and_intros
 refine⟨by omega,by omega,?_⟩
 refine xh (fun i α=>∃o6 o7 o8 o9 o10 o11:Option A,α=[none,some .tape,some (.dat (.int dy)),some (.dat (.int b)),some (.dat (.list rs)),some (.dat (yu C cs rs)),o6,o7,o8,o9,o10,o11]) ⟨none,none,none,none,none,none,rfl⟩ ?_ ?_
 ·rintro i d α hd ⟨o6,o7,o8,o9,o10,o11,rfl⟩
  refine⟨_,rfl,?_⟩
  and_intros
  refine⟨b,dy,rfl,⟨b0,b1,by omega,by omega⟩,fun c g h1 h2 h3=>?_⟩
  have sg:si c g:=⟨by omega,by omega,by omega,by omega⟩
  and_intros
  refine⟨rs,c,g,rfl,rr.rules,by omega,by omega,by omega,by omega,?_⟩
  and_intros
  refine⟨rs,c,g,rfl,rr,sg,?_⟩
  have eb:PyData.eqv (.list (yF rs c g)) (.list [])=wU rs c g:=ja
  refine vh (fun α=>α=stL C cs dy b rs d c g o10 o11) ?_ ?_
  ·and_intros
   refine eqk (yq sg).shaped rfl (yq sg).nod rfl ?_
   rw[show PyData.eqv (A.own (yF rs c g)).d (.list [])=wU rs c g from eb]
   refine eqk rfl rfl rfl rfl ?_
   rw[show PyData.eqv (A.dat (.bool (wU rs c g))).d (.bool (wU rs c g))=true from by cases wU rs c g<;>rfl]
   and_intros
   rfl
  rintro α rfl
  refine zQ 10 nd (yR (zf (zY (zf (qL hr.gd hr.units (by rfl) nb.repr (zc 8 rfl ⟨yq sg,zo ⟨_,rfl,zu6 rfl,?_⟩⟩))))))
  refine vh (fun α=>α=stL C cs dy b rs d c g (some (.dat (qS rs c g))) o11) ?_ ?_
  ·and_intros
   refine eqk (yq sg).shaped rfl (yq sg).nod rfl ?_
   rw[eb]
   unfold qS
   refine xN (fun hh=>?_) (fun hh=>?_)
   ·rw[if_pos hh]
    and_intros
    refine⟨rs,c,g,rfl,rr,sg,uy hh,fun bs rows mk=>?_⟩
    and_intros
    rw[aW rr (uy hh) mk]
   ·rw[if_neg (by rw[hh];decide)]
    and_intros
    rfl
  rintro α rfl
  and_intros
  refine⟨rs,c,g,rfl,rr,sg,?_⟩
  obtain⟨ts,et,sc⟩:=aL rs c g
  refine vh (fun α=>α=stL C cs dy b rs d c g (some (.dat (qS rs c g))) (some (.dat (qS rs c g)))) ?_ ?_
  ·refine yS (EvW.t (ug (gK hr.units (zc 11 rfl (zc 10 rfl ⟨ts,et,et,sc,?_⟩)))))
   refine uk rfl (ug (gK hr.units (yn CTo (hr.mono (by decide)) (by rfl) (zf (zc 5 rfl (zf (zc 7 rfl (zo ⟨rs,c,g,rfl,rr,sg,zc 10 rfl ⟨ts,et,et,sc,?_⟩⟩))))))))
   refine uk rfl (rz ?_)
   and_intros
   refine⟨rs,c,g,rfl,rr.rules,by omega,by omega,by omega,by omega,?_⟩
   refine⟨yq sg,?_⟩
   and_intros
   refine⟨yq sg,?_⟩
   and_intros
   refine vB (by simp[A.d]) ?_
   and_intros
   rfl
  rintro α rfl
  unfold qS
  by_cases hh:wU rs c g=true
  ·rw[if_pos hh]
   and_intros
   exact⟨_,_,_,_,_,_,rfl⟩
  ·rw[if_neg hh]
   and_intros
   exact⟨_,_,_,_,_,_,rfl⟩
 ·rintro α ⟨o6,o7,o8,o9,o10,o11,rfl⟩
  and_intros
  refine⟨rr.rules,by omega,?_⟩
  and_intros
  refine⟨rr.nice (by omega),?_⟩
  and_intros
  refine⟨rr.nice (by omega),?_⟩
  and_intros
  simp[A.d]
end
def FnF (K:PySem.W.Frag)(f:Addr)(nm ql:Str)(st:Stmt):Prop:=∃fd,Fun K nm ql st f fd
theorem mkF {K:PySem.W.Frag}{f:Addr}{nm ql:Str}{st:Stmt}{oc kV dc pm cd ct:Value}{od an:Option Addr}{sl:Array (Option Value)}(l:K.lookup f=some ⟨oc,od,.func (PySem.W.fnOf nm ql (zN st) (zw st) (zb st) .none kV dc pm an cd ct),sl⟩)(c:PySem.W.codeIn K cd ql=true)(k:PySem.W.keepIn K (.ref f)=true):FnF K f nm ql st:=⟨_,mP l c k⟩
def FnG (K:PySem.W.Frag)(f:Addr)(nm:Str)(st:Stmt):Prop:=PySem.W.nsIn K mainGlobals nm=some (some (.ref f))∧FnF K f nm nm st
theorem mkG {K:PySem.W.Frag}{f:Addr}{nm:Str}{st:Stmt}{oc kV dc pm cd ct:Value}{od an:Option Addr}{sl:Array (Option Value)}(a:PySem.W.nsIn K mainGlobals nm=some (some (.ref f)))(l:K.lookup f=some ⟨oc,od,.func (PySem.W.fnOf nm nm (zN st) (zw st) (zb st) .none kV dc pm an cd ct),sl⟩)(c:PySem.W.codeIn K cd nm=true)(k:PySem.W.keepIn K (.ref f)=true):FnG K f nm st:=⟨a,mkF l c k⟩
theorem FnF.get {K:PySem.W.Frag}{f:Addr}{nm ql:Str}{st:Stmt}(ps:List Str)(h:FnF K f nm ql st)(hb:∀(kV doc pm:Value) (an:Option Addr) (cdv ct:Value) (us:List Value),us.length=ps.length→bindArgs (PySem.W.fnOf nm ql (zN st) (zw st) (zb st) .none kV doc pm an cdv ct) ⟨us,[]⟩=pure (ps.zip us)):∃fd,Fun K nm ql st f fd∧Binds K fd ps []:=by
 obtain⟨fd,F⟩:=h
 exact⟨fd,F,F.binds hb⟩
theorem FnG.get {K:PySem.W.Frag}{h0:Heap}{mg:Str→Option Value}{f:Addr}{nm:Str}{st:Stmt}(ps:List Str)(h:FnG K f nm st)(X:K.In h0)(G:h0.Ns mainGlobals mg)(hb:∀(kV doc pm:Value) (an:Option Addr) (cdv ct:Value) (us:List Value),us.length=ps.length→bindArgs (PySem.W.fnOf nm nm (zN st) (zw st) (zb st) .none kV doc pm an cdv ct) ⟨us,[]⟩=pure (ps.zip us)):∃fd,mg nm=some (.ref f)∧Fun K nm nm st f fd∧Binds K fd ps []:=by
 obtain⟨a,fd,F⟩:=h
 exact⟨fd,zw1 X G a,F,F.binds hb⟩
theorem mkR {K:PySem.W.Frag}{C gi gt ge gw:Addr}(pg:PySem.W.plainGet K C Str.empty=true)(hd:PySem.W.hasDictIn K C=true)(po:PySem.W.plainOver K C=true)(sa:PySem.W.findIn K (.ref C) "__setattr__"=some (some (.builtin "object.__setattr__")))(n1:PySem.W.findIn K (.ref C) "first"=some none)(n2:PySem.W.findIn K (.ref C) "last"=some none)(n3:PySem.W.findIn K (.ref C) "worth"=some none)(mk:PySem.W.makesIn K C=true)(f1:PySem.W.findIn K (.ref C) "__init__"=some (some (.ref gi)))(i1:PySem.W.isFn K (.ref gi)=true)(kc:PySem.W.keepIn K (.ref C)=true)(f2:PySem.W.findIn K (.ref C) "told"=some (some (.ref gt)))(i2:PySem.W.isFn K (.ref gt)=true)(k2:PySem.W.keepIn K (.ref gt)=true)(f3:PySem.W.findIn K (.ref C) "tells"=some (some (.ref ge)))(i3:PySem.W.isFn K (.ref ge)=true)(k3:PySem.W.keepIn K (.ref ge)=true)(f4:PySem.W.findIn K (.ref C) "word"=some (some (.ref gw)))(i4:PySem.W.isFn K (.ref gw)=true)(k4:PySem.W.keepIn K (.ref gw)=true):xY K C gi gt ge gw:=⟨⟨pg,hd,po,sa⟩,n1,n2,n3,⟨mk,f1,i1,kc⟩,⟨f2,i2,k2⟩,⟨f3,i3,k3⟩,⟨f4,i4,k4⟩⟩
theorem iT {K:PySem.W.Frag}{dT:Addr}{oc kV doc pm cdv ct:Value}{od an:Option Addr}{n:Nat}{sl:Array (Option Value)}(lk:K.lookup dT=some ⟨oc,od,.seq #[.none] n,sl⟩):
  Binds K (PySem.W.fnOf "__init__" "Book.__init__" (zN xl) (zw xl) (zb xl) (.ref dT) kV doc pm an cdv ct) ["self","rules"] [.none]:=fun s us hk hl=>by
 match us,(show us.length=1 by rw[zu9] at hl;simpa using hl) with
 |[u],_=>exact BindsTo.of_defaults (T:=dT) rfl (hk _ _ lk) rfl rfl rfl
theorem jY {K:PySem.W.Frag}{dT:Addr}{oc kV doc pm cdv ct:Value}{od an:Option Addr}{n:Nat}{sl:Array (Option Value)}(lk:K.lookup dT=some ⟨oc,od,.seq #[.none] n,sl⟩):
  Binds K (PySem.W.fnOf "__init__" "Book.__init__" (zN xl) (zw xl) (zb xl) (.ref dT) kV doc pm an cdv ct) ["self","rules"] []:=fun s us hk hl=>by
 rw[zx9] at hl ⊢
 match us,hl with
 |[u,v],_=>exact BindsTo.of_defaults (T:=dT) rfl (hk _ _ lk) rfl rfl rfl
theorem bF {P:Str→Prop}(h1:P "price")(h2:P "come")(h3:P "go")(h4:P "least")(h5:P "most")(h6:P "deal")(h7:P "fee"):∀u∈words,P u:=by
 intro u hu
 simp only[words,zu1,zu8,zx1] at hu
 rcases hu with rfl|rfl|rfl|rfl|rfl|rfl|rfl<;>assumption
set_option maxHeartbeats 8000000 in
theorem us1 {α:Type}{p:List α→Prop}(h:∀a,p [a])(us:List α)(hl:us.length=1):p us:=by
 obtain⟨a,rfl⟩:=List.length_eq_one_iff.mp hl
 exact h a
theorem us2 {α:Type}{p:List α→Prop}(h:∀a b,p [a,b])(us:List α)(hl:us.length=2):p us:=by
 cases us with
 |nil=>cases hl
 |cons a us=>exact us1 (p:=fun us=>p (a::us)) (h a) us (Nat.succ.inj hl)
theorem us3 {α:Type}{p:List α→Prop}(h:∀a b c,p [a,b,c])(us:List α)(hl:us.length=3):p us:=by
 cases us with
 |nil=>cases hl
 |cons a us=>exact us2 (p:=fun us=>p (a::us)) (h a) us (Nat.succ.inj hl)
theorem us4 {α:Type}{p:List α→Prop}(h:∀a b c d,p [a,b,c,d])(us:List α)(hl:us.length=4):p us:=by
 cases us with
 |nil=>cases hl
 |cons a us=>exact us3 (p:=fun us=>p (a::us)) (h a) us (Nat.succ.inj hl)
set_option maxHeartbeats 0 in
theorem all_mk {l:PySem.W.OpenLaw}{w:World}{K:PySem.W.Frag}{h:Heap}{mg:Str→Option Value}{fa cC f1 f2 f3 f4 f5 f6 f7 f8 f9 f10 f11 f12 f13 f14 f15 f16 f17 f18 f19 f20 f21 f22 f23 f24 f25 f26 f27 f28 f29 f30 f31 f32 g_init g_told g_tells g_wPrice g_wCome g_wGo g_wLeast g_wMost g_wDeal g_wFee CPrice CCome CGo CLeast CMost CDeal CFee CB dT g_binit g_brules g_btells dU CSt CX_Barred CX_Had CX_NoRule CX_NoText CX_NotSold CX_Off CX_TooMany gx_Barred:Addr}(X:K.In h)(G:h.Ns mainGlobals mg)(hfa:mg "law"=some (.ref fa))
  {od14 an14 od32 an32 odB anB odT:Option Addr} {sl14 sl32 slB slT:Array (Option Value)} {oc14 kV14 dc14 pm14 ct14 oc32 kV32 dc32 pm32 ct32 cd32 ocB kVB dcB pmB ctB cdB ocT:Value} {tk1 tk2 tk3 tk4 tu1 tu2 tu3 tu4 tu5 tu6 tu7 tu8 tu9 tu10:Tok} {hu1 hu2 hu3 hu4 hu5 hu6 hu7:Int} {nT nU:Nat}
  (q1:FnG K f1 "is_whole" qK)
  (q2:FnG K f2 "is_whole_within" ph)
  (q3:FnG K f3 "is_pair" eV)
  (q4:FnG K f4 "is_day" ze3)
  (q5:FnG K f5 "is_pair_of_days" gL)
  (q6:FnG K f6 "is_stretch" sZ)
  (q7:FnG K f7 "is_coins" lZ)
  (q8:FnG K f8 "is_deal" pH)
  (q9:FnG K f9 "is_worth" lH)
  (q10:FnG K f10 "is_rule" pC)
  (q11:FnG K f11 "made" gR)
  (q12:FnG K f12 "rule_of" qU)
  (q13:FnG K f13 "nights_of" pE)
  (a14:PySem.W.nsIn K mainGlobals "cheapest_first"=some (some (.ref f14)))
  (l14:K.lookup f14=some ⟨oc14,od14,.func (PySem.W.fnOf "cheapest_first" "cheapest_first" (zN yK) (zw yK) (zb yK) .none kV14 dc14 pm14 an14 (.ref cC) ct14),sl14⟩)
  (c14:PySem.W.codeIn K (.ref cC) "cheapest_first"=true)
  (k14:PySem.W.keepIn K (.ref f14)=true)
  (q15:FnG K f15 "marked" vH)
  (q16:FnG K f16 "night_prices" sNP)
  (q17:FnG K f17 "bill" tj)
  (q18:FnG K f18 "bars" rQ)
  (q19:FnG K f19 "can_be_had" ze9)
  (q20:FnG K f20 "cost" oA)
  (q21:FnG K f21 "usual" ma)
  (q22:FnG K f22 "kept_rules" fg)
  (q23:FnG K f23 "_law_tape" qw)
  (q24:FnG K f24 "_law_draw" dn)
  (q25:FnG K f25 "_law_coins" qI)
  (q26:FnG K f26 "_law_worth" qX)
  (q27:FnG K f27 "_law_price_rules" qR)
  (q28:FnG K f28 "_law_other_rules" pz)
  (q29:FnG K f29 "_law_rules" pk)
  (q30:FnG K f30 "_law_stay" dN)
  (q31:FnG K f31 "_law_told" mj)
  (a32:PySem.W.nsIn K mainGlobals "law"=some (some (.ref f32)))
  (l32:K.lookup f32=some ⟨oc32,od32,.func (PySem.W.fnOf "law" "law" (zN qN) (zw qN) (zb qN) .none kV32 dc32 pm32 an32 cd32 ct32),sl32⟩)
  (c32:PySem.W.codeIn K cd32 "law"=true)
  (k32:PySem.W.keepIn K (.ref f32)=true)
  (aCPrice:PySem.W.nsIn K mainGlobals "Price"=some (some (.ref CPrice)))
  (aCCome:PySem.W.nsIn K mainGlobals "Come"=some (some (.ref CCome)))
  (aCGo:PySem.W.nsIn K mainGlobals "Go"=some (some (.ref CGo)))
  (aCLeast:PySem.W.nsIn K mainGlobals "Least"=some (some (.ref CLeast)))
  (aCMost:PySem.W.nsIn K mainGlobals "Most"=some (some (.ref CMost)))
  (aCDeal:PySem.W.nsIn K mainGlobals "Deal"=some (some (.ref CDeal)))
  (aCFee:PySem.W.nsIn K mainGlobals "Fee"=some (some (.ref CFee)))
  (RPrice:xY K CPrice g_init g_told g_tells g_wPrice)
  (RCome:xY K CCome g_init g_told g_tells g_wCome)
  (RGo:xY K CGo g_init g_told g_tells g_wGo)
  (RLeast:xY K CLeast g_init g_told g_tells g_wLeast)
  (RMost:xY K CMost g_init g_told g_tells g_wMost)
  (RDeal:xY K CDeal g_init g_told g_tells g_wDeal)
  (RFee:xY K CFee g_init g_told g_tells g_wFee)
  (q_init:FnF K g_init "__init__" "Rule.__init__" kr)
  (q_told:FnF K g_told "told" "Rule.told" eN)
  (q_tells:FnF K g_tells "tells" "Rule.tells" kd)
  (q_wPrice:FnF K g_wPrice "word" "Price.word" qV)
  (q_wCome:FnF K g_wCome "word" "Come.word" lL)
  (q_wGo:FnF K g_wGo "word" "Go.word" zc5)
  (q_wLeast:FnF K g_wLeast "word" "Least.word" qF)
  (q_wMost:FnF K g_wMost "word" "Most.word" lX)
  (q_wDeal:FnF K g_wDeal "word" "Deal.word" lj)
  (q_wFee:FnF K g_wFee "word" "Fee.word" gc)
  (aCB:PySem.W.nsIn K mainGlobals "Book"=some (some (.ref CB)))
  (fi_binit:PySem.W.findIn K (.ref CB) "__init__"=some (some (.ref g_binit)))
  (is_binit:PySem.W.isFn K (.ref g_binit)=true)
  (l_binit:K.lookup g_binit=some ⟨ocB,odB,.func (PySem.W.fnOf "__init__" "Book.__init__" (zN xl) (zw xl) (zb xl) (.ref dT) kVB dcB pmB anB cdB ctB),slB⟩)
  (c_binit:PySem.W.codeIn K cdB "Book.__init__"=true)
  (k_binit:PySem.W.keepIn K (.ref g_binit)=true)
  (lT:K.lookup dT=some ⟨ocT,odT,.seq #[.none] nT,slT⟩)
  (fi_brules:PySem.W.findIn K (.ref CB) "rules"=some (some (.ref g_brules)))
  (is_brules:PySem.W.isFn K (.ref g_brules)=true)
  (q_brules:FnF K g_brules "rules" "Book.rules" vF)
  (fi_btells:PySem.W.findIn K (.ref CB) "tells_of"=some (some (.ref g_btells)))
  (is_btells:PySem.W.isFn K (.ref g_btells)=true)
  (q_btells:FnF K g_btells "tells_of" "Book.tells_of" pK)
  (pgB:PySem.W.plainGet K CB Str.empty=true)
  (hdB:PySem.W.hasDictIn K CB=true)
  (poB:PySem.W.plainOver K CB=true)
  (saB:PySem.W.findIn K (.ref CB) "__setattr__"=some (some (.builtin "object.__setattr__")))
  (mkB:PySem.W.makesIn K CB=true)
  (kcB:PySem.W.keepIn K (.ref CB)=true)
  (noB:PySem.W.findIn K (.ref CB) "kept"=some none)
  (z1:PySem.W.nsIn K mainGlobals "abs"=some none)
  (z2:PySem.W.nsIn K mainGlobals "list"=some none)
  (z3:PySem.W.nsIn K mainGlobals "len"=some none)
  (z4:PySem.W.nsIn K mainGlobals "range"=some none)
  (z5:PySem.W.nsIn K mainGlobals "min"=some none)
  (z6:PySem.W.nsIn K mainGlobals "max"=some none)
  (z7:PySem.W.nsIn K mainGlobals "sorted"=some none)
  (z8:PySem.W.nsIn K mainGlobals "isinstance"=some none)
  (z9:PySem.W.nsIn K mainGlobals "int"=some none)
  (z10:PySem.W.nsIn K mainGlobals "bool"=some none)
  (z11:PySem.W.nsIn K mainGlobals "str"=some none)
  (z12:PySem.W.nsIn K mainGlobals "tuple"=some none)
  (z13:PySem.W.nsIn K mainGlobals "all"=some none)
  (z14:PySem.W.nsIn K mainGlobals "any"=some none)
  (z15:PySem.W.nsIn K mainGlobals "repr"=some none)
  (z16:PySem.W.nsIn K mainGlobals "zip"=some none)
  (z17:PySem.W.nsIn K mainGlobals "enumerate"=some none)
  (z18:PySem.W.nsIn K mainGlobals "reversed"=some none)
  (z19:PySem.W.nsIn K mainGlobals "sum"=some none)
  (z20:PySem.W.nsIn K mainGlobals "ValueError"=some none)
  (gi1:PySem.W.nsIn K mainGlobals "LAST_DAY"=some (some (.int 1000000 tk1)))
  (gi2:PySem.W.nsIn K mainGlobals "MOST_NIGHTS"=some (some (.int 14 tk2)))
  (gi3:PySem.W.nsIn K mainGlobals "MOST_COINS"=some (some (.int 1000000000000 tk3)))
  (gi4:PySem.W.nsIn K mainGlobals "MOST_RULES"=some (some (.int 24 tk4)))
  (aU:PySem.W.nsIn K mainGlobals "USUAL"=some (some (.ref dU)))
  (lU:K.lookup dU=some ⟨.type "dict",none,.dict #[⟨hu1,.str "price" tu1,.none⟩,⟨hu2,.str "come" tu2,.bool true⟩,⟨hu3,.str "go" tu3,.bool true⟩,⟨hu4,.str "least" tu4,.int 1 tu8⟩,⟨hu5,.str "most" tu5,.int 14 tu9⟩,⟨hu6,.str "deal" tu6,.none⟩,⟨hu7,.str "fee" tu7,.int 0 tu10⟩] nU,#[]⟩)
  (hh1:hu1=hashStr w "price")
  (hh2:hu2=hashStr w "come")
  (hh3:hu3=hashStr w "go")
  (hh4:hu4=hashStr w "least")
  (hh5:hu5=hashStr w "most")
  (hh6:hu6=hashStr w "deal")
  (hh7:hu7=hashStr w "fee")
  (hhd:PySem.W.codeHdIn K cC yw=true)
  (aSt:PySem.W.nsIn K mainGlobals "StayError"=some (some (.ref CSt)))
  (aX_Barred:PySem.W.nsIn K mainGlobals "Barred"=some (some (.ref CX_Barred)))
  (aX_Had:PySem.W.nsIn K mainGlobals "Had"=some (some (.ref CX_Had)))
  (aX_NoRule:PySem.W.nsIn K mainGlobals "NoRule"=some (some (.ref CX_NoRule)))
  (aX_NoText:PySem.W.nsIn K mainGlobals "NoText"=some (some (.ref CX_NoText)))
  (aX_NotSold:PySem.W.nsIn K mainGlobals "NotSold"=some (some (.ref CX_NotSold)))
  (aX_Off:PySem.W.nsIn K mainGlobals "Off"=some (some (.ref CX_Off)))
  (aX_TooMany:PySem.W.nsIn K mainGlobals "TooMany"=some (some (.ref CX_TooMany)))
  (fX_Barred:PySem.W.findIn K (.ref CX_Barred) "__init__"=some (some (.ref gx_Barred)))
  (tX_Barred:PySem.W.typeIn K (.ref gx_Barred)=some (.type "function"))
  (qX_Barred:FnF K gx_Barred "__init__" "Barred.__init__" tY)
  (uSt:ff K CSt=true)
  (eX_Barred:lA K CX_Barred CSt (some (.ref gx_Barred))=true)
  (kX_Barred:PySem.W.keepIn K (.ref CX_Barred)=true)
  (nX_Barred_bars:PySem.W.findIn K (.ref CX_Barred) "bars"=some none)
  (bX_Barred_StayError:dC K CX_Barred CSt=true)
  (kt_Barred_Barred:PySem.W.kitOne K (.ref CX_Barred) (.ref CX_Barred)=some true)
  (kt_Barred_Had:PySem.W.kitOne K (.ref CX_Barred) (.ref CX_Had)=some false)
  (kt_Barred_NoRule:PySem.W.kitOne K (.ref CX_Barred) (.ref CX_NoRule)=some false)
  (kt_Barred_NoText:PySem.W.kitOne K (.ref CX_Barred) (.ref CX_NoText)=some false)
  (kt_Barred_NotSold:PySem.W.kitOne K (.ref CX_Barred) (.ref CX_NotSold)=some false)
  (kt_Barred_Off:PySem.W.kitOne K (.ref CX_Barred) (.ref CX_Off)=some false)
  (kt_Barred_TooMany:PySem.W.kitOne K (.ref CX_Barred) (.ref CX_TooMany)=some false)
  (kt_Barred_ValueError:PySem.W.kitOne K (.ref CX_Barred) (.type "ValueError")=some true):
  ∃fd:FuncData,(∀(s:Shared) (v:Value),BindsTo s fd ⟨[v],[]⟩ [("_law_script",v)])∧∀base:Heap,K.In base→base.Ns mainGlobals mg→base.BuiltinsAt mg yw→zA l.prog w K mg base CX0 13 fa fd ["_law_script"] (oO K):=by
 have e:=hfa.symm.trans (zw1 X G a32)
 cases e
 have nb:NbT mg:=⟨zv7 X G z1,zv7 X G z2,zv7 X G z3,zv7 X G z4,zv7 X G z5,zv7 X G z6,zv7 X G z7,zv7 X G z8,zv7 X G z9,zv7 X G z10,zv7 X G z11,zv7 X G z12,zv7 X G z13,zv7 X G z14,zv7 X G z15,zv7 X G z16,zv7 X G z17,zv7 X G z18,zv7 X G z19⟩
 have n_ValueError:mg "ValueError"=none:=zv7 X G z20
 obtain⟨_,m_is_whole,F_is_whole,b_is_whole⟩:=q1.get ["thing"] X G fun _ _ _ _ _ _=>us1 fun _=>rfl
 obtain⟨_,m_is_whole_within,F_is_whole_within,b_is_whole_within⟩:=q2.get ["thing","lowest","highest"] X G fun _ _ _ _ _ _=>us3 fun _ _ _=>rfl
 obtain⟨_,m_is_pair,F_is_pair,b_is_pair⟩:=q3.get ["thing"] X G fun _ _ _ _ _ _=>us1 fun _=>rfl
 obtain⟨_,m_is_day,F_is_day,b_is_day⟩:=q4.get ["thing"] X G fun _ _ _ _ _ _=>us1 fun _=>rfl
 obtain⟨_,m_is_pair_of_days,F_is_pair_of_days,b_is_pair_of_days⟩:=q5.get ["thing"] X G fun _ _ _ _ _ _=>us1 fun _=>rfl
 obtain⟨_,m_is_stretch,F_is_stretch,b_is_stretch⟩:=q6.get ["thing"] X G fun _ _ _ _ _ _=>us1 fun _=>rfl
 obtain⟨_,m_is_coins,F_is_coins,b_is_coins⟩:=q7.get ["thing"] X G fun _ _ _ _ _ _=>us1 fun _=>rfl
 obtain⟨_,m_is_deal,F_is_deal,b_is_deal⟩:=q8.get ["thing"] X G fun _ _ _ _ _ _=>us1 fun _=>rfl
 obtain⟨_,m_is_worth,F_is_worth,b_is_worth⟩:=q9.get ["word","thing"] X G fun _ _ _ _ _ _=>us2 fun _ _=>rfl
 obtain⟨_,m_is_rule,F_is_rule,b_is_rule⟩:=q10.get ["thing"] X G fun _ _ _ _ _ _=>us1 fun _=>rfl
 obtain⟨_,m_made,F_made,b_made⟩:=q11.get ["word","first","last","worth"] X G fun _ _ _ _ _ _=>us4 fun _ _ _ _=>rfl
 obtain⟨_,m_rule_of,F_rule_of,b_rule_of⟩:=q12.get ["thing"] X G fun _ _ _ _ _ _=>us1 fun _=>rfl
 obtain⟨_,m_nights_of,F_nights_of,b_nights_of⟩:=q13.get ["stay"] X G fun _ _ _ _ _ _=>us1 fun _=>rfl
 have m_cheapest_first:mg "cheapest_first"=some (.ref f14):=zw1 X G a14
 have F_cheapest_first:=mP (st:=yK) l14 c14 k14
 have b_cheapest_first:=F_cheapest_first.binds (ps:=["prices","places"]) fun _ _ _ _ _ _=>us2 fun _ _=>rfl
 obtain⟨_,m_marked,F_marked,b_marked⟩:=q15.get ["prices","deal"] X G fun _ _ _ _ _ _=>us2 fun _ _=>rfl
 obtain⟨_,m_night_prices,F_night_prices,b_night_prices⟩:=q16.get ["book","nights"] X G fun _ _ _ _ _ _=>us2 fun _ _=>rfl
 obtain⟨_,m_bill,F_bill,b_bill⟩:=q17.get ["book","stay"] X G fun _ _ _ _ _ _=>us2 fun _ _=>rfl
 obtain⟨_,m_bars,F_bars,b_bars⟩:=q18.get ["book","stay"] X G fun _ _ _ _ _ _=>us2 fun _ _=>rfl
 obtain⟨_,m_can_be_had,F_can_be_had,b_can_be_had⟩:=q19.get ["book","stay"] X G fun _ _ _ _ _ _=>us2 fun _ _=>rfl
 obtain⟨_,m_cost,F_cost,b_cost⟩:=q20.get ["book","stay"] X G fun _ _ _ _ _ _=>us2 fun _ _=>rfl
 obtain⟨_,m_usual,F_usual,b_usual⟩:=q21.get ["word"] X G fun _ _ _ _ _ _=>us1 fun _=>rfl
 obtain⟨_,m_kept_rules,F_kept_rules,b_kept_rules⟩:=q22.get ["things"] X G fun _ _ _ _ _ _=>us1 fun _=>rfl
 obtain⟨_,m__law_tape,F__law_tape,b__law_tape⟩:=q23.get ["_law_script"] X G fun _ _ _ _ _ _=>us1 fun _=>rfl
 obtain⟨_,m__law_draw,F__law_draw,b__law_draw⟩:=q24.get ["_law_tape_here","_law_many"] X G fun _ _ _ _ _ _=>us2 fun _ _=>rfl
 obtain⟨_,m__law_coins,F__law_coins,b__law_coins⟩:=q25.get ["_law_tape_here"] X G fun _ _ _ _ _ _=>us1 fun _=>rfl
 obtain⟨_,m__law_worth,F__law_worth,b__law_worth⟩:=q26.get ["_law_tape_here","_law_word"] X G fun _ _ _ _ _ _=>us2 fun _ _=>rfl
 obtain⟨_,m__law_price_rules,F__law_price_rules,b__law_price_rules⟩:=q27.get ["_law_tape_here","_law_base","_law_days"] X G fun _ _ _ _ _ _=>us3 fun _ _ _=>rfl
 obtain⟨_,m__law_other_rules,F__law_other_rules,b__law_other_rules⟩:=q28.get ["_law_tape_here","_law_base","_law_days"] X G fun _ _ _ _ _ _=>us3 fun _ _ _=>rfl
 obtain⟨_,m__law_rules,F__law_rules,b__law_rules⟩:=q29.get ["_law_tape_here","_law_base","_law_days"] X G fun _ _ _ _ _ _=>us3 fun _ _ _=>rfl
 obtain⟨_,m__law_stay,F__law_stay,b__law_stay⟩:=q30.get ["_law_tape_here","_law_base","_law_days"] X G fun _ _ _ _ _ _=>us3 fun _ _ _=>rfl
 obtain⟨_,m__law_told,F__law_told,b__law_told⟩:=q31.get ["_law_book","_law_stay_here"] X G fun _ _ _ _ _ _=>us2 fun _ _=>rfl
 have F_law:=mP (st:=qN) l32 c32 k32
 have b_law:=F_law.binds (ps:=["_law_script"]) fun _ _ _ _ _ _=>us1 fun _=>rfl
 obtain⟨_,F_init,b_init⟩:=q_init.get ["self","first","last","worth"] fun _ _ _ _ _ _=>us4 fun _ _ _ _=>rfl
 obtain⟨_,F_told,b_told⟩:=q_told.get ["self"] fun _ _ _ _ _ _=>us1 fun _=>rfl
 obtain⟨_,F_tells,b_tells⟩:=q_tells.get ["self","day"] fun _ _ _ _ _ _=>us2 fun _ _=>rfl
 obtain⟨_,F_wPrice,b_wPrice⟩:=q_wPrice.get ["self"] fun _ _ _ _ _ _=>us1 fun _=>rfl
 obtain⟨_,F_wCome,b_wCome⟩:=q_wCome.get ["self"] fun _ _ _ _ _ _=>us1 fun _=>rfl
 obtain⟨_,F_wGo,b_wGo⟩:=q_wGo.get ["self"] fun _ _ _ _ _ _=>us1 fun _=>rfl
 obtain⟨_,F_wLeast,b_wLeast⟩:=q_wLeast.get ["self"] fun _ _ _ _ _ _=>us1 fun _=>rfl
 obtain⟨_,F_wMost,b_wMost⟩:=q_wMost.get ["self"] fun _ _ _ _ _ _=>us1 fun _=>rfl
 obtain⟨_,F_wDeal,b_wDeal⟩:=q_wDeal.get ["self"] fun _ _ _ _ _ _=>us1 fun _=>rfl
 obtain⟨_,F_wFee,b_wFee⟩:=q_wFee.get ["self"] fun _ _ _ _ _ _=>us1 fun _=>rfl
 obtain⟨_,F_brules,b_brules⟩:=q_brules.get ["self"] fun _ _ _ _ _ _=>us1 fun _=>rfl
 obtain⟨_,F_btells,b_btells⟩:=q_btells.get ["self","word","day"] fun _ _ _ _ _ _=>us3 fun _ _ _=>rfl
 have TD:oE mg f1 f2 f3 f4 f5:=⟨nb.isinstance,nb.int,nb.bool,nb.tuple,nb.len,⟨tk1,zw1 X G gi1⟩,⟨tk2,zw1 X G gi2⟩,m_is_whole,m_is_whole_within,m_is_pair,m_is_day,m_is_pair_of_days⟩
 have TR:mK mg f1 f2 f3 f4 f5 f6 f7 f8 f9 f10 f11 ⟨CPrice,CCome,CGo,CLeast,CMost,CDeal,CFee⟩:=⟨TD,⟨tk3,zw1 X G gi3⟩,m_is_stretch,m_is_coins,m_is_deal,m_is_worth,m_is_rule,m_made,zw1 X G aCPrice,zw1 X G aCCome,zw1 X G aCGo,zw1 X G aCLeast,zw1 X G aCMost,zw1 X G aCDeal,zw1 X G aCFee⟩
 have TT:zg4 mg:=⟨nb.abs,nb.list,nb.len⟩
 have A7:cb K ⟨CPrice,CCome,CGo,CLeast,CMost,CDeal,CFee⟩ g_init g_told g_tells g_wPrice g_wCome g_wGo g_wLeast g_wMost g_wDeal g_wFee:=⟨RPrice,RCome,RGo,RLeast,RMost,RDeal,RFee⟩
 refine⟨PySem.W.fnOf "law" "law" (zN qN) (zw qN) (zb qN) .none kV32 dc32 pm32 an32 cd32 ct32,fun s v=>.of_eq rfl,fun base KX _ hbi=>?_⟩
 have G_in:=jD (P:=l.prog) (w:=w) (base:=base) F_is_whole_within TD F_is_whole b_is_whole
 have G_pair:=cY (P:=l.prog) (w:=w) (base:=base) F_is_pair TD
 have G_day:=zi1 F_is_day TD G_in F_is_whole_within.kp b_is_whole_within
 have G_days:=cU F_is_pair_of_days TD G_pair F_is_pair.kp b_is_pair G_day F_is_day.kp b_is_day
 have G_stretch:=lQ F_is_stretch TD G_days F_is_pair_of_days.kp b_is_pair_of_days
 have G_coins:=eZ F_is_coins TR G_in F_is_whole_within.kp b_is_whole_within
 have G_deal:=iU F_is_deal TR G_in F_is_whole_within.kp b_is_whole_within G_pair F_is_pair.kp b_is_pair
 have G_worth:=ee F_is_worth TR G_in F_is_whole_within.kp b_is_whole_within G_coins F_is_coins.kp b_is_coins G_deal F_is_deal.kp b_is_deal
 have G_rule:=ik F_is_rule TR G_stretch F_is_stretch.kp b_is_stretch G_worth F_is_worth.kp b_is_worth
 have G_made:=bO (P:=l.prog) (w:=w) (base:=base) F_made TR A7 F_init b_init
 have G_ruleOf:=iL F_rule_of TR G_rule F_is_rule.kp b_is_rule G_made F_made.kp b_made
 have CRO:Cal l.prog w K mg base "rule_of" 7 (tV ⟨CPrice,CCome,CGo,CLeast,CMost,CDeal,CFee⟩):=lJ m_rule_of F_rule_of.kp b_rule_of G_ruleOf
 have CKe:Cal l.prog w K mg base "kept_rules" 8 (mn ⟨CPrice,CCome,CGo,CLeast,CMost,CDeal,CFee⟩):=dJ F_kept_rules m_kept_rules b_kept_rules nb ⟨tk4,zw1 X G gi4⟩ CRO
 have cB:Cls K CB:=⟨pgB,hdB,poB,saB⟩
 have GBI:=fv (cX (st:=xl) l_binit c_binit k_binit) cB noB CKe
 have m_Book:mg "Book"=some (.ref CB):=zw1 X G aCB
 have MkB:Mk K CB g_binit:=⟨mkB,fi_binit,is_binit,kcB⟩
 have CBk:cj l.prog w K mg base "Book" 9 [] (pO CB ⟨CPrice,CCome,CGo,CLeast,CMost,CDeal,CFee⟩):=⟨CB,g_binit,_,_,_,m_Book,MkB,jY lT,.nil,GBI⟩
 have CBk0:cj l.prog w K mg base "Book" 9 [.non] (pO CB ⟨CPrice,CCome,CGo,CLeast,CMost,CDeal,CFee⟩):=⟨CB,g_binit,_,_,_,m_Book,MkB,iT lT,.cons rfl .nil,GBI⟩
 have OT:∀u∈words,wF l.prog w K mg base ((⟨CPrice,CCome,CGo,CLeast,CMost,CDeal,CFee⟩:Cs).of u) "told" 2 (nW ((⟨CPrice,CCome,CGo,CLeast,CMost,CDeal,CFee⟩:Cs).of u) u):=bF (by rw[ve];exact yY RPrice b_told (wD F_told RPrice (qk F_wPrice) b_wPrice)) (by rw[uw];exact yY RCome b_told (wD F_told RCome (ng F_wCome) b_wCome)) (by rw[oh];exact yY RGo b_told (wD F_told RGo (gG F_wGo) b_wGo)) (by rw[vj];exact yY RLeast b_told (wD F_told RLeast (qf F_wLeast) b_wLeast)) (by rw[uj];exact yY RMost b_told (wD F_told RMost (oQ F_wMost) b_wMost)) (by rw[ui];exact yY RDeal b_told (wD F_told RDeal (nv F_wDeal) b_wDeal)) (by rw[sP];exact yY RFee b_told (wD F_told RFee (jd F_wFee) b_wFee))
 have DU:kq K w dU tbU:=⟨_,nU,lU,.cons ⟨hh1,⟨_,rfl⟩,rfl⟩ (.cons ⟨hh2,⟨_,rfl⟩,rfl⟩ (.cons ⟨hh3,⟨_,rfl⟩,rfl⟩ (.cons ⟨hh4,⟨_,rfl⟩,⟨_,rfl⟩⟩ (.cons ⟨hh5,⟨_,rfl⟩,⟨_,rfl⟩⟩ (.cons ⟨hh6,⟨_,rfl⟩,rfl⟩ (.cons ⟨hh7,⟨_,rfl⟩,⟨_,rfl⟩⟩ (.nil))))))),by decide +kernel⟩
 have CU:Cal l.prog w K mg base "usual" 1 pN:=iA F_usual m_usual b_usual (zw1 X G aU) DU
 have OW:∀u∈words,wF l.prog w K mg base ((⟨CPrice,CCome,CGo,CLeast,CMost,CDeal,CFee⟩:Cs).of u) "word" 1 (md ((⟨CPrice,CCome,CGo,CLeast,CMost,CDeal,CFee⟩:Cs).of u) u):=bF (by rw[ve];exact yW RPrice b_wPrice (qk F_wPrice)) (by rw[uw];exact yW RCome b_wCome (ng F_wCome)) (by rw[oh];exact yW RGo b_wGo (gG F_wGo)) (by rw[vj];exact yW RLeast b_wLeast (qf F_wLeast)) (by rw[uj];exact yW RMost b_wMost (oQ F_wMost)) (by rw[ui];exact yW RDeal b_wDeal (nv F_wDeal)) (by rw[sP];exact yW RFee b_wFee (jd F_wFee))
 have ORT:∀u∈words,wF l.prog w K mg base ((⟨CPrice,CCome,CGo,CLeast,CMost,CDeal,CFee⟩:Cs).of u) "tells" 1 (tX ((⟨CPrice,CCome,CGo,CLeast,CMost,CDeal,CFee⟩:Cs).of u)):=bF (by rw[ve];exact yB RPrice b_tells (xA F_tells RPrice)) (by rw[uw];exact yB RCome b_tells (xA F_tells RCome)) (by rw[oh];exact yB RGo b_tells (xA F_tells RGo)) (by rw[vj];exact yB RLeast b_tells (xA F_tells RLeast)) (by rw[uj];exact yB RMost b_tells (xA F_tells RMost)) (by rw[ui];exact yB RDeal b_tells (xA F_tells RDeal)) (by rw[sP];exact yB RFee b_tells (xA F_tells RFee))
 have OC:∀u∈words,Cls K ((⟨CPrice,CCome,CGo,CLeast,CMost,CDeal,CFee⟩:Cs).of u)∧yH K ((⟨CPrice,CCome,CGo,CLeast,CMost,CDeal,CFee⟩:Cs).of u) "worth":=bF (by rw[ve];exact⟨RPrice.cl,RPrice.nw⟩) (by rw[uw];exact⟨RCome.cl,RCome.nw⟩) (by rw[oh];exact⟨RGo.cl,RGo.nw⟩) (by rw[vj];exact⟨RLeast.cl,RLeast.nw⟩) (by rw[uj];exact⟨RMost.cl,RMost.nw⟩) (by rw[ui];exact⟨RDeal.cl,RDeal.nw⟩) (by rw[sP];exact⟨RFee.cl,RFee.nw⟩)
 have MTe:wF l.prog w K mg base CB "tells_of" 2 (uh CB ⟨CPrice,CCome,CGo,CLeast,CMost,CDeal,CFee⟩):=⟨g_btells,_,_,cB,⟨fi_btells,is_btells,F_btells.kp⟩,b_btells,jU F_btells cB noB nb CU OW ORT OC⟩
 have MR:wF l.prog w K mg base CB "rules" 3 (pM CB ⟨CPrice,CCome,CGo,CLeast,CMost,CDeal,CFee⟩):=⟨g_brules,_,_,cB,⟨fi_brules,is_brules,F_brules.kp⟩,b_brules,iJ F_brules cB noB b_brules OT⟩
 have m_StayError:mg "StayError"=some (.ref CSt):=zw1 X G aSt
 have mX_Barred:mg "Barred"=some (.ref CX_Barred):=zw1 X G aX_Barred
 have mX_Had:mg "Had"=some (.ref CX_Had):=zw1 X G aX_Had
 have mX_NoRule:mg "NoRule"=some (.ref CX_NoRule):=zw1 X G aX_NoRule
 have mX_NoText:mg "NoText"=some (.ref CX_NoText):=zw1 X G aX_NoText
 have mX_NotSold:mg "NotSold"=some (.ref CX_NotSold):=zw1 X G aX_NotSold
 have mX_Off:mg "Off"=some (.ref CX_Off):=zw1 X G aX_Off
 have mX_TooMany:mg "TooMany"=some (.ref CX_TooMany):=zw1 X G aX_TooMany
 have XC_Barred:=XC.of eX_Barred
 obtain⟨_,FX_Barred,bX_Barred⟩:=qX_Barred.get ["self","bars"] fun _ _ _ _ _ _=>us2 fun _ _=>rfl
 have CD:Cal l.prog w K mg base "_law_draw" 1 xV:=cq m__law_draw F__law_draw.kp b__law_draw (aH F__law_draw TT)
 have CCo:=iq F__law_coins m__law_coins b__law_coins CD
 have CW:=iN F__law_worth m__law_worth b__law_worth CD CCo
 have CPR:=nP F__law_price_rules m__law_price_rules b__law_price_rules nb CD CCo
 have CO:=kb F__law_other_rules m__law_other_rules b__law_other_rules nb CD CW
 have CRW:=lu F__law_rules m__law_rules b__law_rules CD CPR CO
 have CRF:=jM CRW
 have CSt:=di F__law_stay m__law_stay b__law_stay CD
 have CN:=mY (P:=l.prog) (w:=w) (base:=base) F_nights_of m_nights_of b_nights_of nb
 have CC:Cal l.prog w K mg base "cheapest_first" 3 qZ:=ir l14 c14 k14 m_cheapest_first b_cheapest_first nb hhd KX hbi
 have CMa:Cal l.prog w K mg base "marked" 4 tQ:=mi F_marked m_marked b_marked nb CC
 have CNP:=zh0 F_night_prices m_night_prices b_night_prices MTe
 have CBi:=jW (hJ F_bill m_bill b_bill nb MTe CN CNP CMa)
 have CBa:=hG F_bars m_bars b_bars CN MTe
 have CHa:=cL F_can_be_had m_can_be_had b_can_be_had CBa
 have CCs:=eA F_cost m_cost b_cost CBa CBi
 have XBa:=zb8 (P:=l.prog) (w:=w) (base:=base) FX_Barred nb bX_Barred mX_Barred m_StayError kX_Barred tX_Barred (XS.of uSt) XC_Barred nX_Barred_bars
 have CCU:=jQ F_cost m_cost b_cost CBa XBa
 have CTo:=jR F__law_told m__law_told b__law_told nb ⟨m_StayError,XB.of bX_Barred_StayError,⟨_,XC_Barred⟩,nX_Barred_bars,⟨_,mX_Barred,kt_Barred_Barred⟩,⟨_,mX_Had,kt_Barred_Had⟩,⟨_,mX_NoRule,kt_Barred_NoRule⟩,⟨_,mX_NoText,kt_Barred_NoText⟩,⟨_,mX_NotSold,kt_Barred_NotSold⟩,⟨_,mX_Off,kt_Barred_Off⟩,⟨_,mX_TooMany,kt_Barred_TooMany⟩,n_ValueError,kt_Barred_ValueError⟩ CCs CCU
 exact zj0 F_law nb (bA F__law_tape TT) m__law_tape F__law_tape.kp b__law_tape CD CRF CO CSt CBk MR CBa CHa CBi CTo
theorem walk {l:PySem.W.OpenLaw}{q:Program}{loose:List Str}{XP:(Str→Option Value)→Heap→Prop}{YP:World→Heap→Prop}{d:DefRec}{K:Params→PySem.W.Frag}{c:Addr}(hn:l.most=some 63)(hdf:d.params.defaults=[])
  (hY:∀(w:World) (h:Heap),YP w h→(K w.params).In h) (hYT:∀(w:World) (h:Heap),YP w h→h.get? yw=some (PySem.W.tabObj #[]))
  (hNo:∀w:World,(K w.params).lookup yw=none) (hTab:∀w:World,∃o vs,(K w.params).lookup c=some o∧o.cls=.type "code"∧o.data=.fields vs∧vs[11]?=some (.ref yw))
  (F:∀(w:World) (mg:Str→Option Value) (fa:Addr) (h:Heap),(K w.params).In h→h.Ns mainGlobals mg→mg d.name=some (.ref fa)→
   ∃fd:FuncData,(∀(s:Shared) (u:Value),BindsTo s fd ⟨[u],[]⟩ [("_law_script",u)])∧∀base:Heap,(K w.params).In base→base.Ns mainGlobals mg→base.BuiltinsAt mg yw→zA l.prog w (K w.params) mg base CX0 13 fa fd ["_law_script"] (oO (K w.params))):
  PySem.W.WalkO q loose XP YP l.row.toRowW d [] (fun f vs=>PySem.call f vs):=
 L2.eh (n:=63) (k:=13) (x:="_law_script") (CX:=fun _=>CX0) (sp:=fun w=>oO (K w.params)) hn (by decide) hdf ⟨rfl,by decide,by decide,rfl⟩ hY hYT hNo hTab F (fun _ H a ns hl _ hT hS=>⟨a,ns,rfl,hS,hl,⟨#[],hT,trivial,fun pos cv hc=>by cases hc⟩,fun _=>rfl⟩) fun _ _ _ _ _ z=>z
end K42
def PySem.W.Fast.tw6314740815701099071 :Nat:=0
def PySem.W.Fast.tw12040478737754734245 :Nat:=0
def PySem.W.Fast.tw10006113950024561045 :Nat:=0
def PySem.W.Fast.tw13842382750454326053 :Nat:=0
def PySem.W.Fast.tw14734989789316340179 :Nat:=0
def PySem.W.Fast.tw4676624955724756269 :Nat:=0
def PySem.W.Fast.tw18125593321223857652 :Nat:=0
def PySem.W.Fast.tw8256247104562022998 :Nat:=0
def PySem.W.Fast.tw17916282237194184696 :Nat:=0
def PySem.W.Fast.tw5378286202263088098 :Nat:=0
def PySem.W.Fast.tw3191021545247728832 :Nat:=0
def PySem.W.Fast.tw6866909649614308803 :Nat:=0
def PySem.W.Fast.tw13942183556000246360 :Nat:=0
def PySem.W.Fast.tw12682799844948757736 :Nat:=0
def PySem.W.Fast.tw6181774140814303013 :Nat:=0
def PySem.W.Fast.tw12938099122886742998 :Nat:=0
def PySem.W.Fast.tw7066304876587970929 :Nat:=0
def PySem.W.Fast.tw18068562446735416988 :Nat:=0
def PySem.W.Fast.tw6834547814119667646 :Nat:=0
def PySem.W.Fast.tw12776409915551428018 :Nat:=0
def PySem.W.Fast.tw12014575756803881526 :Nat:=0
def PySem.W.Fast.tw13032435938809123697 :Nat:=0
def PySem.W.Fast.tw2391468685416945379 :Nat:=0
def PySem.W.Fast.tw10196786842514768586 :Nat:=0
def PySem.W.Fast.tw1138965020316459351 :Nat:=0
def PySem.W.Fast.tw7395304440077978119 :Nat:=0
def PySem.W.Fast.tw16985981106860775666 :Nat:=0
def PySem.W.Fast.tw7725417911977361523 :Nat:=0
def PySem.W.Fast.tw11267492914501281821 :Nat:=0
def PySem.W.Fast.tw3125815349350495998 :Nat:=0
def PySem.W.Fast.tw15571993453387135262 :Nat:=0
def PySem.W.Fast.tw7480468877887365992 :Nat:=0
def PySem.W.Fast.tw2714695647098512039 :Nat:=0
def PySem.W.Fast.tw9686984285150865355 :Nat:=0
def PySem.W.Fast.tw15646486167353412257 :Nat:=0
def PySem.W.Fast.tw16868340718960215049 :Nat:=0
def PySem.W.Fast.tw17342912856084035108 :Nat:=0
def PySem.W.Fast.tw14287707409760419395 :Nat:=0
def PySem.W.Fast.tw1188533615821382193 :Nat:=0
def PySem.W.Fast.tw17914419510155524798 :Nat:=0
def PySem.W.Fast.tw981770151776635950 :Nat:=0
def PySem.W.Fast.tw16671149285266315813 :Nat:=0
def PySem.W.Fast.tw2674956922451983597 :Nat:=0
def PySem.W.Fast.tw14088819848674459455 :Nat:=0
def PySem.W.Fast.tw1324254151748942196 :Nat:=0
def PySem.W.Fast.tw12057692434560342805 :Nat:=0
def PySem.W.Fast.tw1343243068533418481 :Nat:=0
def PySem.W.Fast.tw16656633593487215950 :Nat:=0
def PySem.W.Fast.tw7580902380927649593 :Nat:=0
def PySem.W.Fast.tw2771834342363470024 :Nat:=0
def PySem.W.Fast.tw13247104564681951077 :Nat:=0
def PySem.W.Fast.tw7298474339271007048 :Nat:=0
def PySem.W.Fast.tw4993949466365146942 :Nat:=0
def PySem.W.Fast.tw5745191228566627293 :Nat:=0
def PySem.W.Fast.tw13145277084911949931 :Nat:=0
def PySem.W.Fast.tw952121298380405783 :Nat:=0
def PySem.W.Fast.tw9818741864634251576 :Nat:=0
def PySem.W.Fast.tw11090593803281171652 :Nat:=0
def PySem.W.Fast.tw2364578056365191022 :Nat:=0
def PySem.W.Fast.tw17303995956529182215 :Nat:=0
def PySem.W.Fast.tw6999569621059609428 :Nat:=0
def PySem.W.Fast.tw18083785945383677800 :Nat:=0
def PySem.W.Fast.tw17568232613439917859 :Nat:=0
def PySem.W.Fast.tw17091410005982714126 :Nat:=0
def PySem.W.Fast.tw1193638933342649647 :Nat:=0
def PySem.W.Fast.tw11218650691332198110 :Nat:=0
def PySem.W.Fast.tw14100224080588830913 :Nat:=0
def PySem.W.Fast.tw11491098807598449135 :Nat:=0
def PySem.W.Fast.tw1107085623838555324 :Nat:=0
def PySem.W.Fast.tw17709439763779016612 :Nat:=0
def PySem.W.Fast.tw5343049966432866907 :Nat:=0
def PySem.W.Fast.tw9842257594824847626 :Nat:=0
def PySem.W.Fast.tw2702185096167060016 :Nat:=0
def PySem.W.Fast.tw15484705371756021258 :Nat:=0
def PySem.W.Fast.tw8230541522755027943 :Nat:=0
def PySem.W.Fast.tw15272048126862926294 :Nat:=0
def PySem.W.Fast.tw7672011547539067952 :Nat:=0
def PySem.W.Fast.tw14403581078427599418 :Nat:=0
def PySem.W.Fast.tw9567870377058336669 :Nat:=0
def PySem.W.Fast.tw11226376273991900678 :Nat:=0
def PySem.W.Fast.tw3368947470140012864 :Nat:=0
def PySem.W.Fast.tw18337049854891660547 :Nat:=0
def PySem.W.Fast.tw16896802975242000815 :Nat:=0
def PySem.W.Fast.tw16160546312188052863 :Nat:=0
def PySem.W.Fast.tw3625008659999807044 :Nat:=0
def PySem.W.Fast.tw11065266430879428301 :Nat:=0
def PySem.W.Fast.tw5971264087328382792 :Nat:=0
def PySem.W.Fast.tw5503302828094681174 :Nat:=0
def PySem.W.Fast.tw17442370123207663188 :Nat:=0
def PySem.W.Fast.tw11361276149300576716 :Nat:=0
def PySem.W.Fast.tw16301584195784973007 :Nat:=0
def PySem.W.Fast.tw15908650799567965932 :Nat:=0
def PySem.W.Fast.tw2359503434996933648 :Nat:=0
def PySem.W.Fast.tw5036009345394816927 :Nat:=0
def PySem.W.Fast.tw7700286073464203585 :Nat:=0
def PySem.W.Fast.tw13746939319701789978 :Nat:=0
def PySem.W.Fast.tw4267769529787791769 :Nat:=0
def PySem.W.Fast.tw12520439678903671021 :Nat:=0
def PySem.W.Fast.tw17553749042410111327 :Nat:=0
def PySem.W.Fast.tw12514316960772758086 :Nat:=0
def PySem.W.Fast.tw1061441204102276833 :Nat:=0
def PySem.W.Fast.tw6609966164810370906 :Nat:=0
def PySem.W.Fast.tw16803802162573431148 :Nat:=0
def PySem.W.Fast.tw10686438632976598802 :Nat:=0
def PySem.W.Fast.tw8292405474700459209 :Nat:=0
def PySem.W.Fast.tw2799654656249014807 :Nat:=0
def PySem.W.Fast.tw12510494893324697561 :Nat:=0
def PySem.W.Fast.tw9471509866450324197 :Nat:=0
def PySem.W.Fast.tw17136047354789854827 :Nat:=0
def PySem.W.Fast.tw15372991677487972834 :Nat:=0
def PySem.W.Fast.tw3317080545582945828 :Nat:=0
def PySem.W.Fast.tw7605834308561860361 :Nat:=0
def PySem.W.Fast.tw15471857829383122703 :Nat:=0
def PySem.W.Fast.tw8621020645228440505 :Nat:=0
def PySem.W.Fast.tw1937492274395368594 :Nat:=0
def PySem.W.Fast.tw572946632877845974 :Nat:=0
def PySem.W.Fast.tw2504467037284320197 :Nat:=0
def PySem.W.Fast.tw2615641778850020336 :Nat:=0
def PySem.W.Fast.tw4851948229724376298 :Nat:=0
def PySem.W.Fast.tw9065823962152875498 :Nat:=0
def PySem.W.Fast.tw2340932378246744239 :Nat:=0
def PySem.W.Fast.tw13511275820534972752 :Nat:=0
def PySem.W.Fast.tw1156747696653581640 :Nat:=0
def PySem.W.Fast.tw17402057710363810265 :Nat:=0
def PySem.W.Fast.tw8654537694022438227 :Nat:=0
def PySem.W.Fast.tw16716736507919963075 :Nat:=0
def PySem.W.Fast.tw11142510789653910117 :Nat:=0
def PySem.W.Fast.tw7856952072435149623 :Nat:=0
def PySem.W.Fast.tw10732021456932216059 :Nat:=0
def PySem.W.Fast.tw17799513179931685462 :Nat:=0
def PySem.W.Fast.tw8293684214997328158 :Nat:=0
def PySem.W.Fast.tw7911254542868040211 :Nat:=0
def PySem.W.Fast.tw5368509888326813114 :Nat:=0
def PySem.W.Fast.tw2355514718078748181 :Nat:=0
def PySem.W.Fast.tw1323441801848982499 :Nat:=0
def PySem.W.Fast.tw664742503682986212 :Nat:=0
def PySem.W.Fast.tw12355142304466186722 :Nat:=0
def PySem.W.Fast.tw17983886931871021327 :Nat:=0
def PySem.W.Fast.tw672352901473296565 :Nat:=0
def PySem.W.Fast.tw4573167590016585237 :Nat:=0
def PySem.W.Fast.tw5225164679118956630 :Nat:=0
def PySem.W.Fast.tw1567441438137418470 :Nat:=0
def PySem.W.Fast.tw14135958780638433746 :Nat:=0
def PySem.W.Fast.tw13786160018272667640 :Nat:=0
def PySem.W.Fast.tw10068264992158542229 :Nat:=0
def PySem.W.Fast.tw9049010598998625772 :Nat:=0
def PySem.W.Fast.tw10100984341520672151 :Nat:=0
def PySem.W.Fast.tw16151394487234789047 :Nat:=0
def PySem.W.Fast.tw17591090677702459331 :Nat:=0
def PySem.W.Fast.tw10445428148071391906 :Nat:=0
def PySem.W.Fast.tw922140321437061401 :Nat:=0
def PySem.W.Fast.tw6906763891755262287 :Nat:=0
def PySem.W.Fast.tw13777016783638354748 :Nat:=0
def PySem.W.Fast.tw10725731621886449211 :Nat:=0
def PySem.W.Fast.tw15350986488219727322 :Nat:=0
def PySem.W.Fast.tw9023581361625699236 :Nat:=0
def PySem.W.Fast.tw10324150837405903452 :Nat:=0
def PySem.W.Fast.tw1439476646546246982 :Nat:=0
def PySem.W.Fast.tw8902526134100026703 :Nat:=0
def PySem.W.Fast.tw2880881429018836396 :Nat:=0
def PySem.W.Fast.tw587081732773154430 :Nat:=0
def PySem.W.Fast.tw7324040077849462332 :Nat:=0
def PySem.W.Fast.tw13418894738326218433 :Nat:=0
def PySem.W.Fast.tw3306284622779514241 :Nat:=0
def PySem.W.Fast.tw4104277361662867350 :Nat:=0
def PySem.W.Fast.tw10666611401051342902 :Nat:=0
def PySem.W.Fast.tw12447797364163918369 :Nat:=0
def PySem.W.Fast.tw17271506855019532788 :Nat:=0
def PySem.W.Fast.tw17536013137536623620 :Nat:=0
def PySem.W.Fast.tw7036469710638762456 :Nat:=0
def PySem.W.Fast.tw3536164781577196450 :Nat:=0
def PySem.W.Fast.tw13158022197693959966 :Nat:=0
def PySem.W.Fast.tw13968376460136344715 :Nat:=0
def PySem.W.Fast.tw9508985366953397054 :Nat:=0
def PySem.W.Fast.tw3319620734916176015 :Nat:=0
def PySem.W.Fast.tw11722426608067618047 :Nat:=0
def PySem.W.Fast.tw2408672576246963027 :Nat:=0
def PySem.W.Fast.tw7304324666830245554 :Nat:=0
def PySem.W.Fast.tw14817558738680631293 :Nat:=0
def PySem.W.Fast.tw15298211829544284904 :Nat:=0
def PySem.W.Fast.tw10545388083793747833 :Nat:=0
def PySem.W.Fast.tw11160140659802703098 :Nat:=0
def PySem.W.Fast.tw7678459128009358930 :Nat:=0
def PySem.W.Fast.tw11674648186108358304 :Nat:=0
def PySem.W.Fast.tw9989912378174883632 :Nat:=0
def PySem.W.Fast.tw997873457070567484 :Nat:=0
def PySem.W.Fast.tw6064051210392567217 :Nat:=0
def PySem.W.Fast.tw2068683553603452556 :Nat:=0
def PySem.W.Fast.tw1575321747785238077 :Nat:=0
def PySem.W.Fast.tw7036293261014973492 :Nat:=0
def PySem.W.Fast.tw13270407726064487092 :Nat:=0
def PySem.W.Fast.tw5715129751531979576 :Nat:=0
def PySem.W.Fast.tw11406217316351363614 :Nat:=0
def PySem.W.Fast.tw715520590332599386 :Nat:=0
def PySem.W.Fast.tw5332457744027764453 :Nat:=0
def PySem.W.Fast.tw6138998295941944245 :Nat:=0
def PySem.W.Fast.tw13617048019977078516 :Nat:=0
def PySem.W.Fast.tw15270723036289240134 :Nat:=0
def PySem.W.Fast.tw6745080590926816772 :Nat:=0
def PySem.W.Fast.tw12406345528598968084 :Nat:=0
def PySem.W.Fast.tw4993869340084575290 :Nat:=0
def PySem.W.Fast.tw4407297835060704947 :Nat:=0
def PySem.W.Fast.tw15340626377407622614 :Nat:=0
def PySem.W.Fast.tw9767440902341984554 :Nat:=0
def PySem.W.Fast.tw15638700197812504945 :Nat:=0
def PySem.W.Fast.tw597982599042205705 :Nat:=0
def PySem.W.Fast.tw18027043607251075971 :Nat:=0
def PySem.W.Fast.tw3068980436450391308 :Nat:=0
def PySem.W.Fast.tw442149458309465857 :Nat:=0
def PySem.W.Fast.tw12005107764960753709 :Nat:=0
def PySem.W.Fast.tw6274058869469099473 :Nat:=0
def PySem.W.Fast.tw7340250537554068839 :Nat:=0
def PySem.W.Fast.tw6002394654919548160 :Nat:=0
def PySem.W.Fast.tw3741925461003992670 :Nat:=0
def PySem.W.Fast.tw14070059404038875296 :Nat:=0
def PySem.W.Fast.tw4193328975881438460 :Nat:=0
def PySem.W.Fast.tw13659234596986636226 :Nat:=0
def PySem.W.Fast.tw3309156569967026762 :Nat:=0
def PySem.W.Fast.tw3018243597267148985 :Nat:=0
def PySem.W.Fast.tw6487926716502723449 :Nat:=0
def PySem.W.Fast.tw9100503708767840772 :Nat:=0
def PySem.W.Fast.tw9999659845631716596 :Nat:=0
def PySem.W.Fast.tw464777058560657994 :Nat:=0
def PySem.W.Fast.tw8206371367475242138 :Nat:=0
def PySem.W.Fast.tw16751817587055558147 :Nat:=0
def PySem.W.Fast.tw8483124727385605540 :Nat:=0
def PySem.W.Fast.tw16140352367689183825 :Nat:=0
def PySem.W.Fast.tw6544947708956411595 :Nat:=0
def PySem.W.Fast.tw4649720252868579572 :Nat:=0
def PySem.W.Fast.tw1367212161647223901 :Nat:=0
def PySem.W.Fast.tw12889829569271610026 :Nat:=0
def PySem.W.Fast.tw3337276363697613199 :Nat:=0
def PySem.W.Fast.tw12586112416418668997 :Nat:=0
def PySem.W.Fast.tw7346759945204249442 :Nat:=0
def PySem.W.Fast.tw12414942725047257097 :Nat:=0
def PySem.W.Fast.tw7381192436495455434 :Nat:=0
def PySem.W.Fast.tw1221178711638803557 :Nat:=0
def PySem.W.Fast.tw13036545604981441532 :Nat:=0
def PySem.W.Fast.tw12192348723576578248 :Nat:=0
def PySem.W.Fast.tw6674714816602704839 :Nat:=0
def PySem.W.Fast.tw1583031438383432684 :Nat:=0
def PySem.W.Fast.tw3557905432966813676 :Nat:=0
def PySem.W.Fast.tw18339299800529171542 :Nat:=0
def PySem.W.Fast.tw11234451489512384952 :Nat:=0
def PySem.W.Fast.tw15810183694184271959 :Nat:=0
def PySem.W.Fast.tw517421609936706706 :Nat:=0
def PySem.W.Fast.tw13490066271836264593 :Nat:=0
def PySem.W.Fast.tw12557891516045173958 :Nat:=0
def PySem.W.Fast.tw6226259739942142388 :Nat:=0
def PySem.W.Fast.tw9768152689118391302 :Nat:=0
def PySem.W.Fast.tw4111225087797796975 :Nat:=0
def PySem.W.Fast.tw10117556126915865090 :Nat:=0
def PySem.W.Fast.tw16051514645596483640 :Nat:=0
def PySem.W.Fast.tw899569311098344284 :Nat:=0
def PySem.W.Fast.tw16659200088569522327 :Nat:=0
def PySem.W.Fast.tw16993287387498502157 :Nat:=0
def PySem.W.Fast.tw1797487957509469550 :Nat:=0
def PySem.W.Fast.tw11481100127280153374 :Nat:=0
def PySem.W.Fast.tw6234182641184957288 :Nat:=0
def PySem.W.Fast.tw6504549882513323588 :Nat:=0
def PySem.W.Fast.tw9314956125478549188 :Nat:=0
def PySem.W.Fast.tw12638089720409303807 :Nat:=0
def PySem.W.Fast.tw17659880016665974138 :Nat:=0
open PySem PySem.W PyProof.Rows
set_option maxRecDepth 100000 in
set_option maxHeartbeats 0 in
theorem PySem.Challenge.cw_stayprice_k42_had_and_cost_holds : PySem.Challenge.rw_stayprice_k42_had_and_cost.Holds := by
 w_on;o_law;k_head;(case hw=>w_witness2)
 k_fill
 refine K42.walk (l:=PySem.Challenge.rw_stayprice_k42_had_and_cost) (c:=(201:Nat)) rfl rfl (fun w h Y=>PySem.W.km_in_of Y) (fun w h Y=>PySem.W.km_tabs_of Y _ (zw2.mpr rfl)) ?hno ?htab ?hF
 case hno=>intro w;kernel_rfl
 case htab=>intro w;exact⟨_,_,by k_is,rfl,rfl,rfl⟩
 case hF=>
  intro w mg fa h KX G hmg
  refine' K42.all_mk KX G hmg (K42.mkG ?_ ?_ ?_ ?_) (K42.mkG ?_ ?_ ?_ ?_) (K42.mkG ?_ ?_ ?_ ?_) (K42.mkG ?_ ?_ ?_ ?_) (K42.mkG ?_ ?_ ?_ ?_) (K42.mkG ?_ ?_ ?_ ?_) (K42.mkG ?_ ?_ ?_ ?_) (K42.mkG ?_ ?_ ?_ ?_) (K42.mkG ?_ ?_ ?_ ?_) (K42.mkG ?_ ?_ ?_ ?_) (K42.mkG ?_ ?_ ?_ ?_) (K42.mkG ?_ ?_ ?_ ?_) (K42.mkG ?_ ?_ ?_ ?_) ?_ ?_ ?_ ?_ (K42.mkG ?_ ?_ ?_ ?_) (K42.mkG ?_ ?_ ?_ ?_) (K42.mkG ?_ ?_ ?_ ?_) (K42.mkG ?_ ?_ ?_ ?_) (K42.mkG ?_ ?_ ?_ ?_) (K42.mkG ?_ ?_ ?_ ?_) (K42.mkG ?_ ?_ ?_ ?_) (K42.mkG ?_ ?_ ?_ ?_) (K42.mkG ?_ ?_ ?_ ?_) (K42.mkG ?_ ?_ ?_ ?_) (K42.mkG ?_ ?_ ?_ ?_) (K42.mkG ?_ ?_ ?_ ?_) (K42.mkG ?_ ?_ ?_ ?_) (K42.mkG ?_ ?_ ?_ ?_) (K42.mkG ?_ ?_ ?_ ?_) (K42.mkG ?_ ?_ ?_ ?_) (K42.mkG ?_ ?_ ?_ ?_) ?_ ?_ ?_ ?_ ?_ ?_ ?_ ?_ ?_ ?_ ?_ (K42.mkR ?_ ?_ ?_ ?_ ?_ ?_ ?_ ?_ ?_ ?_ ?_ ?_ ?_ ?_ ?_ ?_ ?_ ?_ ?_ ?_) (K42.mkR ?_ ?_ ?_ ?_ ?_ ?_ ?_ ?_ ?_ ?_ ?_ ?_ ?_ ?_ ?_ ?_ ?_ ?_ ?_ ?_) (K42.mkR ?_ ?_ ?_ ?_ ?_ ?_ ?_ ?_ ?_ ?_ ?_ ?_ ?_ ?_ ?_ ?_ ?_ ?_ ?_ ?_) (K42.mkR ?_ ?_ ?_ ?_ ?_ ?_ ?_ ?_ ?_ ?_ ?_ ?_ ?_ ?_ ?_ ?_ ?_ ?_ ?_ ?_) (K42.mkR ?_ ?_ ?_ ?_ ?_ ?_ ?_ ?_ ?_ ?_ ?_ ?_ ?_ ?_ ?_ ?_ ?_ ?_ ?_ ?_) (K42.mkR ?_ ?_ ?_ ?_ ?_ ?_ ?_ ?_ ?_ ?_ ?_ ?_ ?_ ?_ ?_ ?_ ?_ ?_ ?_ ?_) (K42.mkR ?_ ?_ ?_ ?_ ?_ ?_ ?_ ?_ ?_ ?_ ?_ ?_ ?_ ?_ ?_ ?_ ?_ ?_ ?_ ?_) (K42.mkF ?_ ?_ ?_) (K42.mkF ?_ ?_ ?_) (K42.mkF ?_ ?_ ?_) (K42.mkF ?_ ?_ ?_) (K42.mkF ?_ ?_ ?_) (K42.mkF ?_ ?_ ?_) (K42.mkF ?_ ?_ ?_) (K42.mkF ?_ ?_ ?_) (K42.mkF ?_ ?_ ?_) (K42.mkF ?_ ?_ ?_) ?_ ?_ ?_ ?_ ?_ ?_ ?_ ?_ ?_ (K42.mkF ?_ ?_ ?_) ?_ ?_ (K42.mkF ?_ ?_ ?_) ?_ ?_ ?_ ?_ ?_ ?_ ?_ ?_ ?_ ?_ ?_ ?_ ?_ ?_ ?_ ?_ ?_ ?_ ?_ ?_ ?_ ?_ ?_ ?_ ?_ ?_ ?_ ?_ ?_ ?_ ?_ ?_ ?_ ?_ ?_ ?_ ?_ ?_ ?_ ?_ ?_ ?_ ?_ ?_ ?_ ?_ ?_ ?_ ?_ ?_ ?_ (K42.mkF ?_ ?_ ?_) ?_ ?_ ?_ ?_ ?_ ?_ ?_ ?_ ?_ ?_ ?_ ?_ ?_
  all_goals try (show _=_;first|k_is|kernel_rfl)
