import PyProof.Rows.All
import Wide.All
import OpenK.AllK
import Wide.FinOn
import Lean
import PyProof.EqAt
import PyProof.EqKinds
import PyProof.TupleCall
import PyProof.AttrMissHeap
import PyProof.DictRoadsH
import KE.KDictOf
import PyProof.P3In
import PyProof.StrLoop
import PyProof.StrWalks
import PyProof.StrCalls2
import KE.KIntText
import PyProof.IsRules
import PyProof.ZipIter
import PyProof.TupleIter
import PyProof.WalksMore
import PyProof.StrBlockH
import PyProof.SliceStr2
import PyProof.StrOps2
import PySem.Challenge.RW_stayprice_k24_texts_refused
set_option Elab.async false
set_option linter.all false
set_option maxRecDepth 100000
def zj1 := @_root_.List.length_map
def zj2 := @_root_.PySem.wpAny_bind
def zj3 := @_root_.PySem.Heap.get?_push_of_some
def zj4 := @_root_.Nat.le_of_ble_eq_true
def zj5 := @_root_.List.mem_cons
def zj6 := @_root_.List.getElem?_eq_some_iff
def zj7 := @_root_.List.mem_cons_of_mem
def zj8 := @_root_.Nat.le_refl
def zj9 := @_root_.PySem.Heap.lt_size
def zk0 := @_root_.List.mem_cons_self
def zk1 := @_root_.Bool.false_ne_true
def zk2 := @_root_.List.not_mem_nil
def zk3 := @_root_.Bool.and_eq_true
def zk4 := @_root_.PySem.wpAny_pure
def zk5 := @_root_.List.length_cons
def zk6 := @_root_.List.length_append
def zk7 := @_root_.List.mem_singleton
def zk8 := @_root_.List.size_toArray
def zk9 := @_root_.PySem.W.mg_none_of
def zl0 := @_root_.PySem.Heap.get?_update_other
def zl1 := @_root_.Nat.lt_of_lt_of_le
def zl2 := @_root_.Nat.le_trans
def zl3 := @_root_.Option.some.inj
def zl4 := @_root_.List.getElem?_append_left
def zl5 := @_root_.decide_eq_false
def zl6 := @_root_.List.getElem?_append_right
def zl7 := @_root_.decide_eq_true_eq
def zl8 := @_root_.Nat.ne_of_lt
def zl9 := @_root_.List.getElem?_map
def zm0 := @_root_.decide_eq_true
def zm1 := @_root_.Nat.zero_le
def zm2 := @_root_.List.length_set
def zm3 := @_root_.PySem.strLen_append
def zm4 := @_root_.PySem.W.mg_of
def zm5 := @_root_.Bool.eq_false_iff
def zm6 := @_root_.List.mem_append_right
def zm7 := @_root_.PySem.Heap.get?_push_size
def zm8 := @_root_.List.map_cons
def zm9 := @_root_.Option.map_eq_some_iff
def zn0 := @_root_.List.getElem?_eq_getElem
def zn1 := @_root_.PySem.wpAny_mono
def zn2 := @_root_.or_false
def zn3 := @_root_.List.getElem?_set_ne
def zn4 := @_root_.PySem.W.kia_one
def zn5 := @_root_.List.lookup_cons
def zn6 := @_root_.Array.toList_append
def zn7 := @_root_.PySem.Heap.get?_update_self
def zn8 := @_root_.PySem.StrLaws.glued_eq_join
def zn9 := @_root_.List.mem_append
def zo0 := @_root_.List.append_nil
def zo1 := @_root_.PySem.wpAny_Call_Name_kw
def zo2 := @_root_.PySem.F.excBase_ValueError
def zo3 := @_root_.PySem.wpAny_truthy_bool
def zo4 := @_root_.PySem.wpAny_loadPart_at
def zo5 := @_root_.PySem.mem_of_lookup
def zo6 := @_root_.PySem.W.callWith_K
def zo7 := @_root_.Nat.sub_self
def zo8 := @_root_.Bool.true_and
def zo9 := @_root_.decide_eq_false_iff_not
def zp0 := @_root_.List.getElem?_set_self
def zp1 := @_root_.Array.getElem?_eq_some_iff
def zp2 := @_root_.List.length_singleton
def zp3 := @_root_.PySem.Str.cps_append
def zp4 := @_root_.PySem.sizeLine_eq
def zp5 := @_root_.beq_iff_eq
def zp6 := @_root_.List.mem_of_getElem?
def zp7 := @_root_.PyProof.Rows.boot_isinstance
def zp8 := @_root_.Bool.or_eq_true
def zp9 := @_root_.List.take_add_one
def zq0 := @_root_.List.getElem?_replicate
def zq1 := @_root_.Bool.false_and
def zq2 := @_root_.List.all_eq_true
def zq3 := @_root_.PySem.wpAny_call
def zq4 := @_root_.PySem.Obj.data_mapFields
def zq5 := @_root_.List.length_replicate
def zq6 := @_root_.PySem.Obj.isFreed_of_fields
def zq7 := @_root_.List.map_append
def zq8 := @_root_.PySem.wpAny_holding
def zq9 := @_root_.of_decide_eq_true
def zr0 := @_root_.List.drop_eq_getElem_cons
def zr1 := @_root_.List.length_take
def zr2 := @_root_.Option.bind_some
def zr3 := @_root_.Nat.lt_irrefl
def zr4 := @_root_.List.find?_cons
def zr5 := @_root_.Nat.le_succ
def zr6 := @_root_.PySem.F.slot_str_split
def zr7 := @_root_.PySem.StrLaws.join_length_le
def zr8 := @_root_.Nat.le_of_lt
def zr9 := @_root_.Ne.symm
def zs0 := @_root_.PySem.W.methodCall_KW
def zs1 := @_root_.PySem.codeAny_mono
def zs2 := @_root_.List.set_append_right
def zs3 := @_root_.PyProof.Rows.callWith_type1
def zs4 := @_root_.Array.mem_toList_iff
def zs5 := @_root_.Nat.lt_succ_self
def zs6 := @_root_.PySem.codeAny_call_builtin
def zs7 := @_root_.List.take_length
def zs8 := @_root_.beq_eq_false_iff_ne
def zs9 := @_root_.PySem.wpAny_passesOwn
def zt0 := @_root_.Nat.ne_of_gt
def zt1 := @_root_.PySem.Code.quiet_builtin
def zt2 := @_root_.PySem.F.args_str_split_2
def zt3 := @_root_.Int.emod_lt_of_pos
def zt4 := @_root_.PySem.boot_len
def zt5 := @_root_.PySem.wpAny_is_plain
def zt6 := @_root_.Int.eq_ofNat_of_zero_le
def zt7 := @_root_.PySem.F.entry_str_split
def zt8 := @_root_.Bool.not_eq_true'
def zt9 := @_root_.PySem.wpAny_standAt
def zu0 := @_root_.List.cons.inj
def zu1 := @_root_.Bool.and_true
def zu2 := @_root_.List.drop_length
def zu3 := @_root_.List.mem_append_left
def zu4 := @_root_.PySem.wpAny_execs_nil
def zu5 := @_root_.Bool.eq_iff_iff
def zu6 := @_root_.List.nodup_cons
def zu7 := @_root_.PySem.typeIs_str
def zu8 := @_root_.Bool.or_eq_false_iff
def zu9 := @_root_.Int.emod_nonneg
def zv0 := @_root_.PySem.PassesOwn.never
def zv1 := @_root_.List.nil_append
def zv2 := @_root_.List.filterMap_cons
def zv3 := @_root_.Array.length_toList
def zv4 := @_root_.PySem.W.plainGet_of
def zv5 := @_root_.ne_true_of_eq_false
def zv6 := @_root_.Nat.log2_lt
def zv7 := @_root_.Array.all_eq_true'
def zv8 := @_root_.Bool.or_false
def zv9 := @_root_.List.all_cons
def zw0 := @_root_.List.any_cons
def zw1 := @_root_.Bool.false_or
def zw2 := @_root_.List.sum_cons
namespace L2
open PySem PySem.Spec PyProof.Rows
abbrev Key :=Sum Int Str
def tQ :Key→Value→Bool
 |.inl k,v=>Value.isInt k v
 |.inr x,v=>Value.isStrOf x v
def zi9 (w:World):Key→Int
 |.inl k=>hashInt k
 |.inr x=>hashStr w x
theorem zS :∀{k:Key} {v:Value},tQ k v=true→(∃i t,k=Sum.inl i∧v=Value.int i t)∨(∃x t,k=Sum.inr x∧v=Value.str x t)
 |.inl i,v,h=>by
  obtain⟨t,e⟩:=Value.isInt_shape (k:=i) (v:=v) h
  exact .inl ⟨i,t,rfl,e⟩
 |.inr x,v,h=>by
  obtain⟨t,e⟩:=Value.isStrOf_shape (x:=x) (v:=v) h
  exact .inr ⟨x,t,rfl,e⟩
theorem km (i:Int)(t:Tok):tQ (.inl i) (.int i t)=true:=by simp[tQ,Value.isInt]
theorem lB (x:Str)(t:Tok):tQ (.inr x) (.str x t)=true:=by simp[tQ,Value.isStrOf]
theorem aH (a b:Int):decide ((Sum.inl a:Key)=Sum.inl b)=(a == b):=by
 by_cases e:a=b
 ·subst e;simp
 ·have h:¬(Sum.inl a:Key)=Sum.inl b:=fun q=>e (Sum.inl.inj q)
  rw[zl5 h]
  exact (zs8.mpr e).symm
theorem cN (a b:Str):decide ((Sum.inr a:Key)=Sum.inr b)=decide (a=b):=by
 by_cases e:a=b
 ·subst e;simp
 ·have h:¬(Sum.inr a:Key)=Sum.inr b:=fun q=>e (Sum.inr.inj q)
  rw[zl5 h,zl5 e]
theorem cV (a:Int)(b:Str):decide ((Sum.inl a:Key)=Sum.inr b)=false:=zl5 (fun q=>nomatch q)
theorem bU (a:Str)(b:Int):decide ((Sum.inr a:Key)=Sum.inl b)=false:=zl5 (fun q=>nomatch q)
def yE (prog:Program)(w:World):PySem.KeyKind prog w Key where
 is:=tQ
 hash:=zi9 w
 inj:=fun v a b ha hb=>by
  rcases zS ha with ⟨i,t,rfl,rfl⟩|⟨x,t,rfl,rfl⟩
  ·rcases zS hb with ⟨j,u,rfl,e⟩|⟨y,u,rfl,e⟩
   ·injection e with e1 _;rw[e1]
   ·exact nomatch e
  ·rcases zS hb with ⟨j,u,rfl,e⟩|⟨y,u,rfl,e⟩
   ·exact nomatch e
   ·injection e with e1 _;rw[e1]
 byValue:=fun k v h=>by
  rcases zS h with ⟨i,t,rfl,rfl⟩|⟨x,t,rfl,rfl⟩<;>rfl
 pyHash:=fun hv h=>by
  rcases zS hv with ⟨i,t,rfl,rfl⟩|⟨x,t,rfl,rfl⟩
  ·exact wpAny_pyHash_int h
  ·exact wpAny_pyHash_str h
 eqBool:=fun hu hv h=>by
  rcases zS hu with ⟨i,t,rfl,rfl⟩|⟨x,t,rfl,rfl⟩
  ·rcases zS hv with ⟨j,u,rfl,rfl⟩|⟨y,u,rfl,rfl⟩
   ·rw[aH] at h;exact wpAny_eqBool_int h
   ·rw[cV] at h;exact SeqAt.EqAt.int_str i t y u _ _ _ _ h
  ·rcases zS hv with ⟨j,u,rfl,rfl⟩|⟨y,u,rfl,rfl⟩
   ·rw[bU] at h;exact SeqAt.EqAt.str_int x t j u _ _ _ _ h
   ·rw[cN] at h;exact wpAny_eqBool_str h
 «strs»:=fun k x t v h=>by
  rcases zS h with ⟨i,u,rfl,e⟩|⟨y,u,rfl,e⟩
  ·exact nomatch e
  ·injection e with e1 _
   subst e1
   cases v<;>rfl
theorem qo (prog:Program)(w:World)(i:Int)(t:Tok):(yE prog w).is (.inl i) (.int i t)=true:=km i t
theorem qB (prog:Program)(w:World)(x:Str)(t:Tok):(yE prog w).is (.inr x) (.str x t)=true:=lB x t
inductive V where
 |non|bl (b:Bool)|int (i:Int)|str (x:Str)|byt (b:Array UInt8)|flt (b:UInt64)|ref (a:Addr)|ty (n:String)
 deriving DecidableEq
def RelV :V→Value→Prop
 |.non,u=>u=Value.none
 |.bl b,u=>u=Value.bool b
 |.int i,u=>∃t,u=Value.int i t
 |.str x,u=>∃t,u=Value.str x t
 |.byt b,u=>∃t,u=Value.bytes b t
 |.flt b,u=>∃t,u=Value.float b t
 |.ref a,u=>u=Value.ref a
 |.ty n,u=>u=Value.type n
abbrev Vals :List V→List Value→Prop:=Paired RelV
theorem Vals.length {xs:List V}{us:List Value}(r:Vals xs us):xs.length=us.length:=Paired.length r
theorem Vals.get :∀{xs:List V} {us:List Value} {i:Nat} {x:V},Vals xs us→xs[i]?=some x→∃u,us[i]?=some u∧RelV x u
 |_,_,_,_,.nil,e=>by simp at e
 |_,_,0,_,.cons r _,e=>by simp at e;subst e;exact⟨_,rfl,r⟩
 |_,_,i+1,x,.cons _ t,e=>by
  obtain⟨u,h1,h2⟩:=Vals.get (i:=i) (x:=x) t (by simpa using e)
  exact⟨u,by simpa using h1,h2⟩
theorem Vals.set {x:V}{u:Value}(r:RelV x u):∀{xs:List V} {us:List Value} (i:Nat),Vals xs us→Vals (xs.set i x) (us.set i u)
 |_,_,_,.nil=>.nil
 |_,_,0,.cons _ t=>.cons r t
 |_,_,i+1,.cons q t=>.cons q (Vals.set r i t)
theorem Vals.append :∀{xs ys:List V} {us ws:List Value},Vals xs us→Vals ys ws→Vals (xs++ys) (us++ws)
 |_,_,_,_,.nil,s=>s
 |_,_,_,_,.cons r t,s=>.cons r (Vals.append t s)
theorem Vals.take :∀{xs:List V} {us:List Value} (n:Nat),Vals xs us→Vals (xs.take n) (us.take n)
 |_,_,0,_=>.nil
 |_,_,_+1,.nil=>.nil
 |_,_,n+1,.cons r t=>.cons r (Vals.take n t)
theorem Vals.drop :∀{xs:List V} {us:List Value} (n:Nat),Vals xs us→Vals (xs.drop n) (us.drop n)
 |_,_,0,r=>r
 |_,_,_+1,.nil=>.nil
 |_,_,n+1,.cons _ t=>Vals.drop n t
def wU :Option V→Option Value→Prop
 |some v,some u=>RelV v u
 |none,none=>True
 |_,_=>False
def KV {κ:Type}:List (κ×V)→List (κ×Value)→Prop:=Paired fun (p:κ×V) (q:κ×Value)=>p.1=q.1∧RelV p.2 q.2
def kV :Key→V
 |.inl i=>.int i
 |.inr x=>.str x
inductive HO where
  |lst (xs:List V)
  |tup (xs:List V)
  |dK (kvs:List (Key×V))|dT (kvs:List (List Key×V))
  |set (S:Int→Bool) (n:Nat)
  |ins (C dx:Addr) (fs:List (Str×V))
  |own (x:Addr)
  |xd (fs:List (Str×V))
  |met (f x:Addr)
  |rng (lo hi:Int)
  |frz (o:Obj) (u:HO)
  |tbl (ps:Array Value)
  |ext (φ:Heap→Prop)
abbrev Hp :=Addr→Option HO
def upd (H:Hp)(a:Addr)(o:HO):Hp:=fun b=>if b=a then some o else H b
theorem zj {H:Hp}{a:Addr}{o:HO}:upd H a o a=some o:=by unfold upd;rw[if_pos rfl]
theorem zg {H:Hp}{a b:Addr}{o:HO}(h:b≠a):upd H a o b=H b:=by unfold upd;rw[if_neg h]
theorem vq {H:Hp}{a:Addr}{o u:HO}:upd (upd H a o) a u=upd H a u:=by
 funext b;unfold upd;split<;>rfl
theorem zk {H:Hp}{a b:Addr}{o:HO}(h:H a=some o)(h':H b=none):a≠b:=by
 intro e;subst e;rw[h] at h';cases h'
section
variable (P:Program)(w:World)
def zY (H:Hp)(h:Heap)(a:Addr):HO→Prop
 |.lst xs=>xs.length≤sizeLine∧∃(its:List Value) (n:Nat),Vals xs its∧h.get? a=some {cls:=.type "list",data:=.seq its.toArray n}
 |.tup xs=>xs.length≤sizeLine∧∃its:List Value,Vals xs its∧IsTup h a its.toArray
 |.dK kvs=>kvs.length≤sizeLine∧(a == sysModules)=false∧∃vs,KV kvs vs∧h.DictOf (yE P w) a vs
 |.dT kvs=>kvs.length≤sizeLine∧(a == sysModules)=false∧∃xs:List (List Key×Addr×Value),
   Paired (fun (p:List Key×V) (q:List Key×Addr×Value)=>p.1=q.1∧H q.2.1=some (.tup (p.1.map kV))∧RelV p.2 q.2.2) kvs xs∧
   ∃o es ep,h.get? a=some o∧o.ExactDict∧o.data=.dict es ep∧es.toList=xs.map (entryOfKey (tupleKind (yE P w)))∧(xs.map (·.1)).Nodup
 |.set S n=>h.SetOf (intKind P w) a S n
 |.ins C dx fs=>H dx=some (.own a)∧fs.length≤1000∧dx≠a∧h.get? a=some (PySem.W.instObj C dx)∧
   ∃mA,h.Ns1 dx mA∧(∀f,wU (fs.lookup f) (mA f))∧PySem.Within mA (fs.map (·.1))
 |.own _=>∃o,h.get? a=some o
 |.xd fs=>∃mA,h.Ns1 a mA∧∀f,wU (fs.lookup f) (mA f)
 |.rng lo hi=>∃t u v,h.get? a=some {cls:=.type "range",data:=.fields #[.int lo t,.int hi u,.int 1 v]}
 |.frz o u=>h.get? a=some o∧zY H h a u
 |.tbl ps=>h.get? a=some {cls:=.none,data:=.fields ps}
 |.met f x=>h.get? a=some (PySem.W.methodObj (.ref f) (.ref x))
 |.ext φ=>φ h∧(∃o,h.get? a=some o)∧∀h1 h2:Heap,φ h1→(∀o,h1.get? a=some o→h2.get? a=some o)→φ h2
def HOk (H:Hp)(h:Heap):Prop:=∀a o,H a=some o→zY P w H h a o
end
section
variable {P:Program}{w:World}{H H':Hp}{h h':Heap}{a:Addr}{o:HO}
theorem zY.lt (x:zY P w H h a o):a<h.objs.size:=by
 cases o with
 |lst xs=>obtain⟨_,_,_,_,e⟩:=x;exact zj9 e
 |tup xs=>obtain⟨_,_,_,p⟩:=x;exact p.lt
 |dK kvs=>obtain⟨_,_,_,_,o,_,_,e,_⟩:=x;exact zj9 e
 |dT kvs=>obtain⟨_,_,_,_,o,_,_,e,_⟩:=x;exact zj9 e
 |set S n=>obtain⟨o,_,_,_,e,_⟩:=x;exact zj9 e
 |ins C dx fs=>obtain⟨_,_,_,e,_⟩:=x;exact zj9 e
 |own y=>obtain⟨_,e⟩:=x;exact zj9 e
 |xd fs=>obtain⟨_,⟨_,_,_,e,_⟩,_⟩:=x;exact zj9 e
 |rng lo hi=>obtain⟨_,_,_,e⟩:=x;exact zj9 e
 |frz ob u=>obtain⟨e,_⟩:=x;exact zj9 e
 |tbl ps=>exact zj9 (show h.get? a=some _ from x)
 |met f y=>exact zj9 (show h.get? a=some _ from x)
 |ext φ=>obtain⟨_,⟨_,e⟩,_⟩:=x;exact zj9 e
theorem Paired.mapP {α β:Type}{F G:α→β→Prop}:∀{l₁:List α} {l₂:List β},Paired F l₁ l₂→(∀a b,F a b→G a b)→Paired G l₁ l₂
 |_,_,.nil,_=>.nil
 |_,_,.cons r t,f=>.cons (f _ _ r) (Paired.mapP t f)
theorem zY.stay (x:zY P w H h a o)(k:∀b u,(b=a∨H b=some (.own a))→h.get? b=some u→h'.get? b=some u)
  (ho:∀b,H b=some (.own a)→H' b=some (.own a)) (ht:∀b xs,H b=some (.tup xs)→H' b=some (.tup xs)):zY P w H' h' a o:=by
 induction o with
 |lst xs=>obtain⟨z,its,n,r,e⟩:=x;exact⟨z,its,n,r,k _ _ (.inl rfl) e⟩
 |tup xs=>obtain⟨z,its,r,ob,e,c⟩:=x;exact⟨z,its,r,ob,k _ _ (.inl rfl) e,c⟩
 |dK kvs=>obtain⟨z,y,vs,r,ob,es,ep,e,c⟩:=x;exact⟨z,y,vs,r,ob,es,ep,k _ _ (.inl rfl) e,c⟩
 |dT kvs=>
  obtain⟨z,y,xs,r,ob,es,ep,e,c⟩:=x
  exact⟨z,y,xs,Paired.mapP r fun p q z=>⟨z.1,ht _ _ z.2.1,z.2.2⟩,ob,es,ep,k _ _ (.inl rfl) e,c⟩
 |set S n=>obtain⟨ob,es,ep,t,e,c⟩:=x;exact⟨ob,es,ep,t,k _ _ (.inl rfl) e,c⟩
 |ins C dx fs=>
  obtain⟨d,z,ne,e,mA,⟨od,es,ep,e2,c⟩,r⟩:=x
  exact⟨ho _ d,z,ne,k _ _ (.inl rfl) e,mA,⟨od,es,ep,k _ _ (.inr d) e2,c⟩,r⟩
 |own y=>obtain⟨ob,e⟩:=x;exact⟨ob,k _ _ (.inl rfl) e⟩
 |xd fs=>obtain⟨mA,⟨od,es,ep,e,c⟩,r⟩:=x;exact⟨mA,⟨od,es,ep,k _ _ (.inl rfl) e,c⟩,r⟩
 |rng lo hi=>obtain⟨t,u,v,e⟩:=x;exact⟨t,u,v,k _ _ (.inl rfl) e⟩
 |frz ob u ih=>obtain⟨e,q⟩:=x;exact⟨k _ _ (.inl rfl) e,ih q⟩
 |tbl ps=>
  have e:h.get? a=some {cls:=.none,data:=.fields ps}:=x
  show h'.get? a=some {cls:=.none,data:=.fields ps}
  exact k a _ (.inl rfl) e
 |met f y=>
  have e:h.get? a=some (PySem.W.methodObj (.ref f) (.ref y)):=x
  show h'.get? a=some (PySem.W.methodObj (.ref f) (.ref y))
  exact k a _ (.inl rfl) e
 |ext φ=>obtain⟨p,⟨o,e⟩,st⟩:=x;exact⟨st _ _ p fun o q=>k _ _ (.inl rfl) q,⟨o,k _ _ (.inl rfl) e⟩,st⟩
theorem HOk.lt (x:HOk P w H h)(e:H a=some o):a<h.objs.size:=(x a o e).lt
theorem HOk.fresh (x:HOk P w H h)(e:h.objs.size≤a):H a=none:=by
 cases q:H a with
 |none=>rfl
 |some u=>exact absurd (zl1 (x.lt q) e) (zr3 _)
theorem HOk.kept (x:HOk P w H h)(k:∀b u,h.get? b=some u→h'.get? b=some u):HOk P w H h':=fun a o e=>
 (x a o e).stay (fun b u _ q=>k b u q) (fun _ q=>q) fun _ _ q=>q
theorem HOk.laid (x:HOk P w H h)(k:∀b u,h.get? b=some u→h'.get? b=some u)(hp:h.objs.size≤a)(new:zY P w (upd H a o) h' a o):HOk P w (upd H a o) h':=fun b u e=>by
 have hn:=x.fresh hp
 by_cases hb:b=a
 ·subst hb;rw[zj] at e;cases e;exact new
 ·rw[zg hb] at e
  exact (x b u e).stay (fun c v _ q=>k c v q) (fun c q=>by rw[zg (zk q hn)];exact q) fun c xs q=>by rw[zg (zk q hn)];exact q
end
def Rd (H:Hp)(a:Addr)(u:HO):Prop:=H a=some u∨∃o,H a=some (.frz o u)
theorem Rd.ok {P:Program}{w:World}{H:Hp}{h:Heap}{a:Addr}{u:HO}(r:Rd H a u)(x:HOk P w H h):zY P w H h a u:=by
 rcases r with r|⟨o,r⟩
 ·exact x a u r
 ·obtain⟨_,q⟩:=x a _ r
  exact q
def Mut :Option HO→Prop
 |some (.lst _)=>True
 |some (.dK _)=>True
 |some (.dT _)=>True
 |some (.set _ _)=>True
 |some (.ins _ _ _)=>True
 |some (.ext _)=>True
 |_=>False
section
variable {P:Program}{w:World}{H:Hp}{h h':Heap}{x e:Addr}{o':HO}
theorem HOk.write (ok:HOk P w H h)(mu:Mut (H x))(he:e=x∨H e=some (.own x))(k:∀b u,b≠e→h.get? b=some u→h'.get? b=some u)(heo:∃u,h'.get? e=some u)
  (new:zY P w (upd H x o') h' x o'):HOk P w (upd H x o') h':=fun b u q=>by
 have nown:∀c y,H c=some (.own y)→c≠x:=fun c y r z=>by subst z;rw[r] at mu;exact mu
 have ntup:∀c xs,H c=some (.tup xs)→c≠x:=fun c xs r z=>by subst z;rw[r] at mu;exact mu
 by_cases hb:b=x
 ·subst hb;rw[zj] at q;cases q;exact new
 ·rw[zg hb] at q
  by_cases hbe:b=e
  ·have q':H b=some (.own x):=by
    rcases he with z|z
    ·exact absurd (hbe.trans z) hb
    ·rw[hbe];exact z
   rw[q] at q';cases q'
   obtain⟨v,hv⟩:=heo
   exact⟨v,by rw[hbe];exact hv⟩
  ·refine (ok b u q).stay (fun c v hc r=>k c v ?_ r) (fun c r=>by rw[zg (nown c b r)];exact r) fun c xs r=>by rw[zg (ntup c xs r)];exact r
   rcases hc with rfl|hc
   ·exact hbe
   ·rintro rfl
    rcases he with z|z
    ·exact nown c b hc z
    ·rw[hc] at z;cases z;exact hb rfl
end
structure Un (fs ex:List Addr)(H H':Hp)(h h':Heap):Prop where
 keep:∀b o,h.get? b=some o→H b=none→b∉fs→b∉ex→h'.get? b=some o
 slot:∀b o,h.get? b=some o→H b=none→b∈fs→b∉ex→∃sl,h'.get? b=some {o with slots:=sl}
 free:∀b o,h.get? b=some o→H b=none→b∉ex→H' b=none
 there:∀b o,h.get? b=some o→b∉ex→∃o',h'.get? b=some o'
 tups:∀b xs,H b=some (.tup xs)→H' b=some (.tup xs)
 frzs:∀b o u,H b=some (.frz o u)→H' b=some (.frz o u)
 tbls:∀b ps,H b=some (.tbl ps)→∃more,H' b=some (.tbl (ps++more))
section
variable {fs fs' ex ex':List Addr}{H H1 H2:Hp}{h h1 h2 h':Heap}{a x e:Addr}{o:HO}
theorem Un.any (u:Un fs ex H H1 h h1){b:Addr}{ob:Obj}(q:h.get? b=some ob)(n:H b=none)(hx:b∉ex):∃sl,h1.get? b=some {ob with slots:=sl}:=by
 by_cases hb:b∈fs
 ·exact u.slot b ob q n hb hx
 ·exact⟨ob.slots,u.keep b ob q n hb hx⟩
theorem Un.kept (k:∀b u,h.get? b=some u→h'.get? b=some u):Un fs ex H H h h':=
 ⟨fun b ob q _ _ _=>k b ob q,fun b ob q _ _ _=>⟨ob.slots,k b ob q⟩,fun _ _ _ n _=>n,fun b ob q _=>⟨ob,k b ob q⟩,fun _ _ q=>q,fun _ _ _ q=>q,fun _ ps q=>⟨#[],by rw[q];simp⟩⟩
theorem Un.refl :Un fs ex H H h h:=Un.kept fun _ _ q=>q
theorem Un.laid (k:∀b u,h.get? b=some u→h'.get? b=some u)(hp:h.objs.size≤a)(hn:H a=none):Un fs ex H (upd H a o) h h' where
 keep:=fun b u q _ _ _=>k b u q
 slot:=fun b u q _ _ _=>⟨u.slots,k b u q⟩
 free:=fun b u q n _=>by rw[zg (zl8 (zl1 (zj9 q) hp))];exact n
 there:=fun b u q _=>⟨u,k b u q⟩
 tups:=fun b xs q=>by rw[zg (zk q hn)];exact q
 frzs:=fun b u xs q=>by rw[zg (zk q hn)];exact q
 tbls:=fun b ps q=>⟨#[],by rw[zg (zk q hn),q];simp⟩
theorem Un.write (mu:Mut (H x))(he:e=x∨H e=some (.own x))(k:∀b u,b≠e→h.get? b=some u→h'.get? b=some u)(heo:∃u,h'.get? e=some u):Un fs ex H (upd H x o) h h':=by
 have hx:∀b,H b=none→b≠x:=fun b n z=>by subst z;rw[n] at mu;exact mu
 have hb:∀b,H b=none→b≠e:=fun b n z=>by
  subst z
  rcases he with r|r
  ·exact hx b n r
  ·rw[n] at r;cases r
 have hm:∀b u,H b=some u→¬Mut (some u)→b≠x:=fun b u q nm z=>by subst z;rw[q] at mu;exact nm mu
 refine⟨fun b u q n _ _=>k b u (hb b n) q,fun b u q n _ _=>⟨u.slots,k b u (hb b n) q⟩,fun b u q n _=>by rw[zg (hx b n)];exact n,fun b u q _=>?_,
  fun b xs q=>by rw[zg (hm b _ q fun z=>z)];exact q,fun b u xs q=>by rw[zg (hm b _ q fun z=>z)];exact q,fun b ps q=>⟨#[],by rw[zg (hm b _ q fun z=>z),q];simp⟩⟩
 by_cases hbe:b=e
 ·subst hbe;exact heo
 ·exact⟨u,k b u hbe q⟩
end
def trk (h:Heap)(H:Hp):List Addr:=(List.range h.objs.size).filter fun a=>(H a).isSome
def rR (h:Heap)(H:Hp):Heap:=PySem.W.hideAll h (trk h H)
theorem lW (h:Heap)(H:Hp):(rR h H).objs.size=h.objs.size:=PySem.W.hideAll_size _ _
theorem jT {h:Heap}{H:Hp}{b:Addr}{o:Obj}(e:h.get? b=some o)(n:H b=none):(rR h H).get? b=some o:=
 PySem.W.hideAll_get _ e fun hm=>by
  have q:(H b).isSome=true:=(List.mem_filter.mp hm).2
  rw[n] at q;simp at q
theorem fZ {h:Heap}{H:Hp}{b:Addr}{o:Obj}(e:(rR h H).get? b=some o):h.get? b=some o∧H b=none:=by
 have e':h.get? b=some o:=PySem.W.of_hideAll (trk h H) e
 refine⟨e',?_⟩
 cases q:H b with
 |none=>rfl
 |some x=>
  have hm:b∈trk h H:=List.mem_filter.mpr ⟨List.mem_range.mpr (zj9 e'),by simp[q]⟩
  have z:(rR h H).get? b=none:=PySem.W.hideAll_none (trk h H) hm
  rw[z] at e;cases e
structure Mod (K:PySem.W.Frag)(mg:Str→Option Value)(base:Heap):Prop where
 kin:K.In base
 glob:base.Ns mainGlobals mg
 blt:∃mb,base.Ns builtinsNs mb∧∀x:Str,x≠"__name__"→mb x=bootBuiltins x
 nolimit:base.NoLimit
structure Cx where
 prog:Program
 w:World
 K:PySem.W.Frag
 mg:Str→Option Value
 base:Heap
 A:Around
 N:List Str
 s₀:Shared
 H₀:Hp
 env:Env
 outer:List Env
 stack:List Env
 ex:List Addr
 fn:Str→Bool
 calm:Bool
 pn:List (Addr×Obj)
 xe:Value→Shared→Prop
def frs (l:List Env):List Addr:=l.filterMap (·.frame)
abbrev Cx.fs (X:Cx):List Addr:=frs X.outer
def Vis (sc:Scope)(x:Str):Prop:=sc.names.lookup x=some .local∨sc.names.lookup x=some .cell∨sc.names.lookup x=some .free
def Loc (sc:Scope)(x:Str):Prop:=sc.names.lookup x=some .local∨sc.names.lookup x=some .cell
def Look (env:Env)(h:Heap)(m:Str→Option Value)(x:Str)(u:Value):Prop:=
 (env.kindOf x=some .local∧m x=some u)∨((env.kindOf x=some .cell∨env.kindOf x=some .free)∧∃c,env.cells.lookup x=some c∧h.IsCell c (some u))
structure Cx.Ok (X:Cx):Prop where
 mod:Mod X.K X.mg X.base
 kind:X.env.scope.kind=.function
 glob:X.env.globals=mainGlobals
 blt:X.env.builtins=builtinsNs
 above:X.s₀.heap.objs.size≤X.env.locals
 inj:∀x y c,X.env.cells.lookup x=some c→X.env.cells.lookup y=some c→x=y
 has:∀x,(X.env.kindOf x=some .cell∨X.env.kindOf x=some .free)→∃c,X.env.cells.lookup x=some c
 cab:∀x c,X.fn x=true→X.env.cells.lookup x=some c→X.s₀.heap.objs.size≤c
 hd:X.calm=true→X.A.handled=none
 frames:X.A.frames=some X.stack
 stk:X.stack=X.outer∨(X.stack=X.env::X.outer∧X.env.frame=some X.env.locals)
 exf:∀b∈X.ex,b≠X.env.locals∧∀x c,X.env.cells.lookup x=some c→c≠b
 bs:∀b o,X.base.get? b=some o→X.s₀.heap.get? b=some o∧X.H₀ b=none
 bsz:X.base.objs.size≤X.s₀.heap.objs.size
 noex:∀b o,X.base.get? b=some o→b∉X.ex
 exfs:∀b∈X.ex,b∉X.fs
 funs:X.s₀.heap.FunFrames X.base X.outer
 frf:∀b∈X.fs,X.H₀ b=none
structure Inv (X:Cx)(pins:List (Addr×Obj))(σ:List (Option V))(H:Hp)(s:Shared):Prop where
 ok:X.Ok
 os:s.os=X.s₀.os
 bare:AllBare s.gens
 base:Un X.fs X.ex X.H₀ H X.s₀.heap s.heap
 loc:∃m,s.heap.Ns X.env.locals m∧∀(i:Nat) (x:Str) (v:V),X.N[i]?=some x→σ[i]?=some (some v)→Vis X.env.scope x→∃u,RelV v u∧Look X.env s.heap m x u
 cell:∀x c,X.env.cells.lookup x=some c→∃v,s.heap.IsCell c v
 free:H X.env.locals=none
 freeC:∀x c,X.env.cells.lookup x=some c→H c=none
 pin:∀p∈X.pn++pins,s.heap.get? p.1=some p.2∧H p.1=none∧p.1≠X.env.locals∧p.1∉X.fs∧∀v,p.2.data≠.cell v
 hok:HOk X.prog X.w H s.heap
 len:σ.length=X.N.length
section
variable {X:Cx}{pins:List (Addr×Obj)}{σ:List (Option V)}{H H':Hp}{s:Shared}{h':Heap}
theorem Cx.Ok.nofr (ok:X.Ok){b:Addr}{o:Obj}(e:X.base.get? b=some o):b∉X.fs:=fun hb=>by
 have:=(ok.funs.mem hb).1
 rw[e] at this;cases this
theorem Inv.bs (I:Inv X pins σ H s):∀b o,X.base.get? b=some o→s.heap.get? b=some o∧H b=none:=fun b o e=>
 ⟨I.base.keep b o (I.ok.bs b o e).1 (I.ok.bs b o e).2 (I.ok.nofr e) (I.ok.noex b o e),I.base.free b o (I.ok.bs b o e).1 (I.ok.bs b o e).2 (I.ok.noex b o e)⟩
theorem Inv.bk (I:Inv X pins σ H s):∀b o,X.base.get? b=some o→s.heap.get? b=some o:=fun b o e=>(I.bs b o e).1
theorem Inv.mod (I:Inv X pins σ H s):Mod X.K X.mg X.base:=I.ok.mod
theorem Inv.kIn (I:Inv X pins σ H s):X.K.In s.heap:=I.ok.mod.kin.keeps I.bk
theorem Inv.lt (I:Inv X pins σ H s):X.env.locals<s.heap.objs.size:=let ⟨_,hn,_⟩:=I.loc;hn.lt
theorem Inv.sz (I:Inv X pins σ H s):X.s₀.heap.objs.size≤s.heap.objs.size:=zl2 I.ok.above (zr8 I.lt)
theorem Inv.nofs (I:Inv X pins σ H s){a:Addr}(h:s.heap.objs.size≤a):a∉X.fs:=fun hb=>by
 obtain⟨_,o,ho,_⟩:=I.ok.funs.mem hb
 exact absurd (zl1 (zj9 ho) (zl2 I.sz h)) (zr3 _)
theorem Inv.cne (I:Inv X pins σ H s):∀x c,X.env.cells.lookup x=some c→c≠X.env.locals:=fun x c e z=>by
 obtain⟨v,o,ho,hd⟩:=I.cell x c e
 obtain⟨m,⟨o',es,ep,ho',hd',_⟩,_⟩:=I.loc
 rw[z,ho'] at ho;cases ho;rw[hd'] at hd;cases hd
theorem Inv.funs (I:Inv X pins σ H s):s.heap.FunFrames X.base X.outer:=by
 have all:∀(l:List Env),(∀b∈frs l,b∈X.fs)→X.s₀.heap.FunFrames X.base l→s.heap.FunFrames X.base l:=by
  intro l
  induction l with
  |nil=>intro _ _;trivial
  |cons env r ih=>
   intro hs hl
   obtain⟨hk,⟨L,o,hf,hn,ho,hd⟩,hr⟩:=hl
   have hL:L∈X.fs:=hs L (by unfold frs;rw[zv2,hf];exact zk0)
   obtain⟨sl,e⟩:=I.base.slot L o ho (I.ok.frf L hL) hL fun z=>I.ok.exfs L z hL
   exact⟨hk,⟨L,_,hf,hn,e,hd⟩,ih (fun b hb=>hs b (by unfold frs;rw[zv2,hf];exact zj7 _ hb)) hr⟩
 exact all X.outer (fun _ hb=>hb) I.ok.funs
theorem Inv.stack (I:Inv X pins σ H s):s.heap.FunFrames X.base X.stack:=by
 rcases I.ok.stk with e|⟨e,hf⟩
 ·rw[e];exact I.funs
 ·rw[e]
  obtain⟨m,hn,_⟩:=I.loc
  refine .cons (by rw[I.ok.kind];decide) hf hn ?_ I.funs
  exact Heap.get?_none_of_le (zl2 I.ok.bsz I.ok.above)
theorem Inv.stkSub (I:Inv X pins σ H s):∀b∈frs X.stack,b∈X.env.locals::X.fs:=fun b hb=>by
 rcases I.ok.stk with e|⟨e,hf⟩
 ·rw[e] at hb;exact zj7 _ hb
 ·rw[e] at hb
  unfold frs at hb
  rw[zv2,hf] at hb
  exact hb
theorem Inv.stkFree (I:Inv X pins σ H s):∀b∈frs X.stack,H b=none:=fun b hb=>by
 rcases zj5.mp (I.stkSub b hb) with e|hb
 ·rw[e];exact I.free
 ·obtain⟨_,o,ho,_⟩:=I.ok.funs.mem hb
  exact I.base.free b o ho (I.ok.frf b hb) fun z=>I.ok.exfs b z hb
theorem Inv.step {g':Array GenState}{t':Nat}{d':Drawn}{ch:List Addr}(I:Inv X pins σ H s)
  (hch:∀b∈ch,(b∈X.ex∨X.s₀.heap.objs.size≤b)∧b≠X.env.locals∧(∀x c,X.env.cells.lookup x=some c→c≠b)∧∀p∈X.pn++pins,p.1≠b)
  (keep:∀b o,b≠X.env.locals→b∉X.fs→b∉ch→s.heap.get? b=some o→H b=none→h'.get? b=some o)
  (slot:∀b o,b≠X.env.locals→b∈X.fs→b∉ch→s.heap.get? b=some o→H b=none→∃sl,h'.get? b=some {o with slots:=sl}) (free:∀b o,b∉ch→s.heap.get? b=some o→H b=none→H' b=none)
  (there:∀b o,b∉ch→s.heap.get? b=some o→∃o',h'.get? b=some o')
  (tups:∀b xs,H b=some (.tup xs)→H' b=some (.tup xs)) (frzs:∀b o u,H b=some (.frz o u)→H' b=some (.frz o u)) (tbls:∀b ps,H b=some (.tbl ps)→∃more,H' b=some (.tbl (ps++more)))
  (ns:∀m,s.heap.Ns X.env.locals m→h'.Ns X.env.locals m) (hok:HOk X.prog X.w H' h') (hg:AllBare g'):
  Inv X pins σ H' {s with heap:=h',gens:=g',drawn:=d',toks:=t'}:=by
 have neL:∀b o,X.s₀.heap.get? b=some o→b≠X.env.locals:=fun b o e=>zl8 (zl1 (zj9 e) I.ok.above)
 have neC:∀b o,X.s₀.heap.get? b=some o→b∉X.ex→b∉ch:=fun b o e hx hb=>by
  rcases (hch b hb).1 with z|z
  ·exact hx z
  ·exact absurd (zl1 (zj9 e) z) (zr3 _)
 have cellK:∀x c,X.env.cells.lookup x=some c→∀v,s.heap.IsCell c v→h'.IsCell c v:=fun x c e v ⟨o,ho,hd⟩=>by
  have nch:c∉ch:=fun z=>(hch c z).2.2.1 x c e rfl
  by_cases hc:c∈X.fs
  ·obtain⟨sl,q⟩:=slot c o (I.cne x c e) hc nch ho (I.freeC x c e)
   exact⟨_,q,hd⟩
  ·exact⟨o,keep c o (I.cne x c e) hc nch ho (I.freeC x c e),hd⟩
 refine⟨I.ok,I.os,hg,⟨fun b o e n hb hx=>?_,fun b o e n hb hx=>?_,fun b o e n hx=>?_,fun b o e hx=>?_,fun b xs e=>tups b xs (I.base.tups b xs e),fun b o xs e=>frzs b o xs (I.base.frzs b o xs e),fun b ps e=>?_⟩,?_,fun x c e=>?_,?_,fun x c e=>?_,fun p hp=>?_,hok,I.len⟩
 ·exact keep b o (neL b o e) hb (neC b o e hx) (I.base.keep b o e n hb hx) (I.base.free b o e n hx)
 ·obtain⟨sl,e1⟩:=I.base.slot b o e n hb hx
  obtain⟨sl',e2⟩:=slot b _ (neL b o e) hb (neC b o e hx) e1 (I.base.free b o e n hx)
  exact⟨sl',e2⟩
 ·obtain⟨o',e1⟩:=I.base.there b o e hx
  exact free b o' (neC b o e hx) e1 (I.base.free b o e n hx)
 ·obtain⟨o',e1⟩:=I.base.there b o e hx
  exact there b o' (neC b o e hx) e1
 ·obtain⟨m1,e1⟩:=I.base.tbls b ps e
  obtain⟨m2,e2⟩:=tbls b _ e1
  exact⟨m1++m2,by rw[e2,Array.append_assoc]⟩
 ·obtain⟨m,hn,hl⟩:=I.loc
  refine⟨m,ns m hn,fun i x v e1 e2 e3=>?_⟩
  obtain⟨u,r,l⟩:=hl i x v e1 e2 e3
  refine⟨u,r,?_⟩
  rcases l with l|⟨k,c,e,z⟩
  ·exact .inl l
  ·exact .inr ⟨k,c,e,cellK x c e _ z⟩
 ·obtain⟨v,z⟩:=I.cell x c e
  exact⟨v,cellK x c e v z⟩
 ·obtain⟨m,⟨o,_,_,ho,_⟩,_⟩:=I.loc
  exact free _ o (fun z=>(hch _ z).2.1 rfl) ho I.free
 ·obtain⟨v,o,ho,hd⟩:=I.cell x c e
  exact free c o (fun z=>(hch c z).2.2.1 x c e rfl) ho (I.freeC x c e)
 ·obtain⟨e,n,ne,nf,d⟩:=I.pin p hp
  have nch:p.1∉ch:=fun z=>(hch p.1 z).2.2.2 p hp rfl
  exact⟨keep p.1 p.2 ne nf nch e n,free p.1 p.2 nch e n,ne,nf,d⟩
theorem Inv.un {t':Nat}(I:Inv X pins σ H s)(u:Un X.fs [] H H' s.heap h')(hok:HOk X.prog X.w H' h'):Inv X pins σ H' {s with heap:=h',toks:=t'}:=by
 obtain⟨m,⟨o,es,ep,ho,r⟩,_⟩:=id I.loc
 obtain⟨sl,hL⟩:=u.any ho I.free (by simp)
 exact I.step (g':=s.gens) (d':=s.drawn) (ch:=[]) (fun _ z=>nomatch z) (fun b o _ hb _ e n=>u.keep b o e n hb (by simp)) (fun b o _ hb _ e n=>u.slot b o e n hb (by simp)) (fun b o _ e n=>u.free b o e n (by simp)) (fun b o _ e=>u.there b o e (by simp)) u.tups u.frzs u.tbls (fun m' hm=>by
  obtain⟨o',es',ep',ho',r'⟩:=hm
  rw[ho] at ho';cases ho'
  exact⟨_,es',ep',hL,r'⟩) hok I.bare
theorem Inv.call {g':Array GenState}{t':Nat}{d':Drawn}{ch:List Addr}(I:Inv X pins σ H s)(u:Un (frs X.stack) ch H H' s.heap h')(hok:HOk X.prog X.w H' h')(hg:AllBare g')
  (hch:∀b∈ch,(b∈X.ex∨X.s₀.heap.objs.size≤b)∧b≠X.env.locals∧(∀x c,X.env.cells.lookup x=some c→c≠b)∧∀p∈X.pn++pins,p.1≠b):
  Inv X pins σ H' {s with heap:=h',gens:=g',drawn:=d',toks:=t'}:=by
 obtain⟨m,⟨o,es,ep,ho,r⟩,_⟩:=id I.loc
 obtain⟨sl,hL⟩:=u.any ho I.free fun z=>(hch _ z).2.1 rfl
 exact I.step (ch:=ch) hch (fun b o hL hb hc e n=>u.keep b o e n (fun z=>(zj5.mp (I.stkSub b z)).elim hL hb) hc) (fun b o _ _ hc e n=>u.any e n hc) (fun b o hc e n=>u.free b o e n hc) (fun b o hc e=>u.there b o e hc) u.tups u.frzs u.tbls (fun m' hm=>by
  obtain⟨o',es',ep',ho',r'⟩:=hm
  rw[ho] at ho';cases ho'
  exact⟨_,es',ep',hL,r'⟩) hok hg
theorem Inv.turned {t':Nat}{it:Addr}(I:Inv X pins σ H s)(k:∀b o,b≠it→s.heap.get? b=some o→h'.get? b=some o)(hn:H it=none)(hL:it≠X.env.locals)
  (h1:it∈X.ex∨X.s₀.heap.objs.size≤it) (h2:∀x c,X.env.cells.lookup x=some c→c≠it) (h3:∀p∈X.pn++pins,p.1≠it):Inv X pins σ H {s with heap:=h',toks:=t'}:=by
 have nit:∀b u,H b=some u→b≠it:=fun b u e z=>by rw[z,hn] at e;cases e
 refine I.step (g':=s.gens) (d':=s.drawn) (ch:=[it]) (fun b hb=>?_) (fun b o _ _ hc e _=>k b o (fun z=>hc (by simp[z])) e) (fun b o _ _ hc e _=>⟨o.slots,k b o (fun z=>hc (by simp[z])) e⟩) (fun _ _ _ _ n=>n)
  (fun b o hc e=>⟨o,k b o (fun z=>hc (by simp[z])) e⟩) (fun _ _ e=>e) (fun _ _ _ e=>e) (fun b ps e=>⟨#[],by rw[e];simp⟩) (fun m hm=>?_) (fun b u e=>?_) I.bare
 ·have e:b=it:=by simpa using hb
  subst e
  exact⟨h1,hL,h2,h3⟩
 ·obtain⟨o,es,ep,ho,r⟩:=hm
  exact⟨o,es,ep,k _ o (zr9 hL) ho,r⟩
 ·refine (I.hok b u e).stay (fun c v hc q=>k c v ?_ q) (fun _ q=>q) fun _ _ q=>q
  rcases hc with z|z
  ·rw[z];exact nit b u e
  ·exact nit c _ z
theorem Inv.tok (I:Inv X pins σ H s)(t:Nat):Inv X pins σ H {s with toks:=t}:=I.un (h':=s.heap) (t':=t) Un.refl I.hok
theorem Inv.kept {t':Nat}(I:Inv X pins σ H s)(k:∀b u,s.heap.get? b=some u→h'.get? b=some u):Inv X pins σ H {s with heap:=h',toks:=t'}:=I.un (Un.kept k) (I.hok.kept k)
theorem Inv.laid {a:Addr}{o:HO}{t':Nat}(I:Inv X pins σ H s)(k:∀b u,s.heap.get? b=some u→h'.get? b=some u)(hp:s.heap.objs.size≤a)(new:zY X.prog X.w (upd H a o) h' a o):
  Inv X pins σ (upd H a o) {s with heap:=h',toks:=t'}:=I.un (Un.laid k hp (I.hok.fresh hp)) (I.hok.laid k hp new)
theorem Inv.write {x e:Addr}{o:HO}{t':Nat}(I:Inv X pins σ H s)(mu:Mut (H x))(he:e=x∨H e=some (.own x))(k:∀b u,b≠e→s.heap.get? b=some u→h'.get? b=some u)(heo:∃u,h'.get? e=some u)
  (new:zY X.prog X.w (upd H x o) h' x o):Inv X pins σ (upd H x o) {s with heap:=h',toks:=t'}:=I.un (Un.write mu he k heo) (I.hok.write mu he k heo new)
theorem Inv.pins_of {pins':List (Addr×Obj)}(I:Inv X pins σ H s)(h:∀p∈pins',s.heap.get? p.1=some p.2∧H p.1=none∧p.1≠X.env.locals∧p.1∉X.fs∧∀v,p.2.data≠.cell v):Inv X pins' σ H s:=
 ⟨I.ok,I.os,I.bare,I.base,I.loc,I.cell,I.free,I.freeC,fun p hp=>(zn9.mp hp).elim (fun z=>I.pin p (zu3 _ z)) (h p),I.hok,I.len⟩
theorem tq {N:List Str}(hN:N.Nodup){i j:Nat}{x:Str}(a:N[i]?=some x)(b:N[j]?=some x):i=j:=by
 obtain⟨h1,e1⟩:=zj6.mp a
 obtain⟨h2,e2⟩:=zj6.mp b
 exact (List.getElem_inj hN).mp (e1.trans e2.symm)
theorem sF {M:Model}{A:Around}{E:Value→Shared→Prop}{i:Nat}{x:Str}{v:V}{u:Value}{Q:Unit→Shared→Prop}(I:Inv X pins σ H s)(hN:X.N.Nodup)(hi:X.N[i]?=some x)(hx:Loc X.env.scope x)(r:RelV v u)
  (h:∀s',Inv X pins (σ.set i (some v)) H s'→(∃a,Heap.SameBut a s.heap s'.heap∧(a=X.env.locals∨X.env.cells.lookup x=some a))→Q () s') (hf:X.fn x=true∨X.env.scope.names.lookup x=some .local:=by first|exact .inl rfl|exact .inr rfl|assumption):wpAny M A (storeName X.env x u) Q E s:=by
 obtain⟨m,hn,hl⟩:=id I.loc
 have hcls:(X.env.scope.kind == .class||(X.env.scope.kind == .module&&X.env.locals != X.env.globals))=false:=by rw[I.ok.kind];rfl
 have hiσ:i<σ.length:=by rw[I.len];exact (zj6.mp hi).1
 have cne:=I.cne
 have tracked:∀{a:Addr} {h':Heap},(∃o,s.heap.get? a=some o∧H a=none)→Heap.SameBut a s.heap h'→HOk X.prog X.w H h':=fun {a h'} ha hs b ob e=>by
  obtain⟨_,_,hfree⟩:=ha
  refine (I.hok b ob e).stay (fun c w' hc q=>(hs.2 c ?_).trans q) (fun _ q=>q) fun _ _ q=>q
  rintro rfl
  rcases hc with rfl|hc
  ·rw[hfree] at e;cases e
  ·rw[hfree] at hc;cases hc
 rcases hx with hk|hk
 ·refine wpAny_storeName_local hk hn (fun h' hn' hs=>?_) hcls
  obtain⟨oL,_,_,hoL,_⟩:=id hn
  refine h _ ⟨I.ok,I.os,I.bare,⟨fun b o e n hb hx=>?_,fun b o e n hb hx=>?_,I.base.free,fun b o e hx=>?_,I.base.tups,I.base.frzs,I.base.tbls⟩,⟨_,hn',fun j y v' e1 e2 e3=>?_⟩,fun y c e=>?_,I.free,I.freeC,fun p hp=>?_,tracked ⟨oL,hoL,I.free⟩ hs,by simpa using I.len⟩ ⟨_,hs,.inl rfl⟩
  ·exact (hs.2 b (zl8 (zl1 (zj9 e) I.ok.above))).trans (I.base.keep b o e n hb hx)
  ·obtain⟨sl,e1⟩:=I.base.slot b o e n hb hx
   exact⟨sl,(hs.2 b (zl8 (zl1 (zj9 e) I.ok.above))).trans e1⟩
  ·obtain⟨o',e1⟩:=I.base.there b o e hx
   exact⟨o',(hs.2 b (zl8 (zl1 (zj9 e) I.ok.above))).trans e1⟩
  ·by_cases hj:j=i
   ·subst hj
    rw[hi] at e1;cases e1
    rw[zp0 hiσ] at e2
    cases e2
    exact⟨u,r,.inl ⟨hk,by simp⟩⟩
   ·rw[zn3 (zr9 hj)] at e2
    obtain⟨u',r',q⟩:=hl j y v' e1 e2 e3
    refine⟨u',r',?_⟩
    rcases q with ⟨k,e⟩|⟨k,c,e,z⟩
    ·refine .inl ⟨k,?_⟩
     have:y≠x:=fun e=>hj (tq hN e1 (e▸hi))
     simp[this,e]
    ·exact .inr ⟨k,c,e,z.sameBut hs (cne y c e)⟩
  ·obtain⟨w',z⟩:=I.cell y c e
   exact⟨w',z.sameBut hs (cne y c e)⟩
  ·obtain⟨e,n,ne,nf,d⟩:=I.pin p hp
   exact⟨(hs.2 p.1 ne).trans e,n,ne,nf,d⟩
 ·have hfn:X.fn x=true:=by
   rcases hf with z|z
   ·exact z
   ·rw[z] at hk;cases hk
  obtain⟨c,hc⟩:=I.ok.has x (.inl hk)
  obtain⟨w',z⟩:=I.cell x c hc
  refine wpAny_storeName_cell I.ok.kind hk hc z (fun h' hc' hs=>?_)
  obtain⟨oc,hoc,hocd⟩:=id z
  refine h {s with heap:=h'} ⟨I.ok,I.os,I.bare,⟨fun b o e n hb hx=>?_,fun b o e n hb hx=>?_,I.base.free,fun b o e hx=>?_,I.base.tups,I.base.frzs,I.base.tbls⟩,⟨m,hn.sameBut hs (zr9 (cne x c hc)),fun j y v' e1 e2 e3=>?_⟩,fun y c' e=>?_,I.free,I.freeC,fun p hp=>?_,tracked ⟨oc,hoc,I.freeC x c hc⟩ hs,by simpa using I.len⟩ ⟨c,hs,.inr hc⟩
  ·exact (hs.2 b (zl8 (zl1 (zj9 e) (I.ok.cab x c hfn hc)))).trans (I.base.keep b o e n hb hx)
  ·obtain⟨sl,e1⟩:=I.base.slot b o e n hb hx
   exact⟨sl,(hs.2 b (zl8 (zl1 (zj9 e) (I.ok.cab x c hfn hc)))).trans e1⟩
  ·obtain⟨o',e1⟩:=I.base.there b o e hx
   exact⟨o',(hs.2 b (zl8 (zl1 (zj9 e) (I.ok.cab x c hfn hc)))).trans e1⟩
  ·by_cases hj:j=i
   ·subst hj
    rw[hi] at e1;cases e1
    rw[zp0 hiσ] at e2
    cases e2
    exact⟨u,r,.inr ⟨.inl hk,c,hc,hc'⟩⟩
   ·rw[zn3 (zr9 hj)] at e2
    obtain⟨u',r',q⟩:=hl j y v' e1 e2 e3
    refine⟨u',r',?_⟩
    rcases q with q|⟨k,c',e,z'⟩
    ·exact .inl q
    ·refine .inr ⟨k,c',e,z'.sameBut hs ?_⟩
     rintro rfl
     exact hj (tq hN e1 (I.ok.inj _ _ _ e hc▸hi))
  ·by_cases hcc:c'=c
   ·subst hcc;exact⟨_,hc'⟩
   ·obtain⟨w2,z2⟩:=I.cell y c' e
    exact⟨w2,z2.sameBut hs hcc⟩
  ·obtain⟨e,n,ne,nf,d⟩:=I.pin p hp
   refine⟨(hs.2 p.1 ?_).trans e,n,ne,nf,d⟩
   intro q
   rw[q,hoc] at e
   have q':oc=p.2:=zl3 e
   exact d w' (by rw[←q'];exact hocd)
theorem uV {M:Model}{A:Around}{E:Value→Shared→Prop}{i:Nat}{x:Str}{v:V}{u:Value}{Q:Unit→Shared→Prop}(I:Inv X pins σ H s)(hN:X.N.Nodup)(hi:X.N[i]?=some x)(hx:Loc X.env.scope x)(r:RelV v u)
  (h:∀s',Inv X pins (σ.set i (some v)) H s'→Q () s') (hf:X.fn x=true∨X.env.scope.names.lookup x=some .local:=by first|exact .inl rfl|exact .inr rfl|assumption):wpAny M A (storeName X.env x u) Q E s:=
 sF I hN hi hx r (fun s' I' _=>h s' I') hf
theorem Inv.call' {s':Shared}{ch:List Addr}(I:Inv X pins σ H s)(ho:s'.os=s.os)(u:Un (frs X.stack) ch H H' s.heap s'.heap)(hok:HOk X.prog X.w H' s'.heap)(hg:AllBare s'.gens)
  (hch:∀b∈ch,(b∈X.ex∨X.s₀.heap.objs.size≤b)∧b≠X.env.locals∧(∀x c,X.env.cells.lookup x=some c→c≠b)∧∀p∈X.pn++pins,p.1≠b):Inv X pins σ H' s':=by
 obtain⟨h',g',d',t',o'⟩:=s'
 have e:o'=s.os:=ho
 subst e
 exact I.call (g':=g') (t':=t') (d':=d') u hok hg hch
end
abbrev XK :=Value→Option Addr→Hp→Prop
abbrev St :=List (Option V)
abbrev VK :=V→Hp→Prop
abbrev TE :=St→Hp→VK→Prop
abbrev TT :=St→Hp→(Bool→Hp→Prop)→Prop
abbrev TA :=St→Hp→(List V→Hp→Prop)→Prop
structure Ends where
 nx:St→Hp→Prop
 rt:VK
 bk:St→Hp→Prop:=fun _ _=>False
 ct:St→Hp→Prop:=fun _ _=>False
abbrev TS :=Ends→St→Hp→Prop
def EP (X:Cx)(pins:List (Addr×Obj))(σ:St)(Q:VK)(u:Value)(s':Shared):Prop:=∃v H',Inv X pins σ H' s'∧RelV v u∧Q v H'
def TP (X:Cx)(pins:List (Addr×Obj))(σ:St)(Q:Bool→Hp→Prop)(b:Bool)(s':Shared):Prop:=∃H',Inv X pins σ H' s'∧Q b H'
def AP (X:Cx)(pins:List (Addr×Obj))(σ:St)(Q:List V→Hp→Prop)(us:List Value)(s':Shared):Prop:=∃vs H',Inv X pins σ H' s'∧Vals vs us∧Q vs H'
def SP (X:Cx)(pins:List (Addr×Obj))(D:Ends)(f:Flow)(s':Shared):Prop:=
 match f with
 |.next=>∃σ' H',Inv X pins σ' H' s'∧D.nx σ' H'
 |.brk=>∃σ' H',Inv X pins σ' H' s'∧D.bk σ' H'
 |.cont=>∃σ' H',Inv X pins σ' H' s'∧D.ct σ' H'
 |.ret u=>∃v σ' H',Inv X pins σ' H' s'∧RelV v u∧D.rt v H'
def PE (X:Cx)(e:Expr)(t:TE):Prop:=
 ∀(pins:List (Addr×Obj)) (s:Shared) (σ:St) (H:Hp) (Q:VK),Inv X pins σ H s→t σ H Q→wpAny (model X.prog X.w) X.A (eval e X.env) (EP X pins σ Q) X.xe s
def PT (X:Cx)(e:Expr)(t:TT):Prop:=
 ∀(pins:List (Addr×Obj)) (s:Shared) (σ:St) (H:Hp) (Q:Bool→Hp→Prop),Inv X pins σ H s→t σ H Q→wpAny (model X.prog X.w) X.A (isTrue e X.env (eval e X.env)) (TP X pins σ Q) X.xe s
def PW (X:Cx)(e:Expr)(t:TT):Prop:=
 ∀(whole:Sem Value) (pins:List (Addr×Obj)) (s:Shared) (σ:St) (H:Hp) (Q:Bool→Hp→Prop),Inv X pins σ H s→t σ H Q→wpAny (model X.prog X.w) X.A (isTrue e X.env whole) (TP X pins σ Q) X.xe s
theorem PW.pt {X:Cx}{e:Expr}{t:TT}(h:PW X e t):PT X e t:=h _
def PA (X:Cx)(es:List Expr)(t:TA):Prop:=
 ∀(pos:Pos) (pins:List (Addr×Obj)) (s:Shared) (σ:St) (H:Hp) (Q:List V→Hp→Prop),Inv X pins σ H s→t σ H Q→wpAny (model X.prog X.w) X.A (spliced (backTo pos (starEach es X.env))) (AP X pins σ Q) X.xe s
def PS (X:Cx)(st:Stmt)(t:TS):Prop:=
 ∀(pins:List (Addr×Obj)) (s:Shared) (σ:St) (H:Hp) (D:Ends),Inv X pins σ H s→t D σ H→wpAny (model X.prog X.w) X.A (exec st X.env) (SP X pins D) X.xe s
def PSs (X:Cx)(st:List Stmt)(t:TS):Prop:=
 ∀(pins:List (Addr×Obj)) (s:Shared) (σ:St) (H:Hp) (D:Ends),Inv X pins σ H s→t D σ H→wpAny (model X.prog X.w) X.A (execs st X.env) (SP X pins D) X.xe s
theorem thn {α:Type}{t:Sem α}{Q Q':α→Shared→Prop}{M:Model}{A:Around}{E:Value→Shared→Prop}{s:Shared}(h:wpAny M A t Q E s)(hQ:∀a s,Q a s→Q' a s):wpAny M A t Q' E s:=zn1 h hQ fun _ _ x=>x
section
variable {X:Cx}
theorem bin {a b:Expr}{ta tb:TE}(ha:PE X a ta)(hb:PE X b tb){pins:List (Addr×Obj)}{s:Shared}{σ:St}{H:Hp}{R:V→V→Hp→Prop}(I:Inv X pins σ H s)(h:ta σ H fun x H1=>tb σ H1 fun y H2=>R x y H2)
  {α:Type} {Q:α→Shared→Prop} {f:Value→Value→Sem α}
  (hf:∀v u s2 x y H2,Inv X pins σ H2 s2→RelV x v→RelV y u→R x y H2→wpAny (model X.prog X.w) X.A (f v u) Q X.xe s2):
  wpAny (model X.prog X.w) X.A (eval a X.env) (fun v s₁=>wpAny (model X.prog X.w) X.A (eval b X.env) (fun u s₂=>wpAny (model X.prog X.w) X.A (f v u) Q X.xe s₂) X.xe s₁) X.xe s:=by
 refine thn (ha pins s σ H _ I h) fun v s1 ⟨x,H1,I1,r1,q1⟩=>?_
 refine thn (hb pins s1 σ H1 _ I1 q1) fun u s2 ⟨y,H2,I2,r2,q2⟩=>?_
 exact hf v u s2 x y H2 I2 r1 r2 q2
def zc0 (i:Nat):TE:=fun σ H Q=>∃v,σ[i]?=some (some v)∧Q v H
def tC (v:V):TE:=fun _ H Q=>Q v H
theorem yx {i:Nat}{x:Str}{pos:Pos}(hN:X.N[i]?=some x)(hv:Vis X.env.scope x)(hd:(x == ("__debug__":Str))=false:=by decide)(hcd:(x == ("__classdict__":Str))=false:=by decide):PE X (.Name x pos) (zc0 i):=by
 intro pins s σ H Q I h
 obtain⟨v,e,h⟩:=h
 obtain⟨m,hn,hl⟩:=I.loc
 obtain⟨u,r,l⟩:=hl i x v hN e hv
 have fin:EP X pins σ Q u s:=⟨v,H,I,r,h⟩
 rcases l with ⟨hk,hm⟩|⟨hk,c,hc,hcell⟩
 ·exact wpAny_Name (wpAny_loadName_local I.ok.kind hk hn hm fin) hd
 ·rcases hk with hk|hk
  ·exact wpAny_Name (wpAny_loadName_cell I.ok.kind hk hc hcell fin) hd
  ·exact wpAny_Name (wpAny_loadName_free I.ok.kind hk hc hcell fin hcd) hd
theorem zt {i j pos}:PE X (.Constant (.int i) j pos) (tC (.int i)):=fun _ _ _ H _ I h=>wpAny_Constant_int ⟨.int i,H,I.tok _,⟨_,rfl⟩,h⟩
theorem za8 {b j pos}:PE X (.Constant (.bool b) j pos) (tC (.bl b)):=fun _ _ _ H _ I h=>Constant_bool ⟨.bl b,H,I,rfl,h⟩
theorem rL {j pos}:PE X (.Constant .none j pos) (tC .non):=fun _ _ _ H _ I h=>Constant_none ⟨.non,H,I,rfl,h⟩
theorem zN {x j pos}:PE X (.Constant (.str x) j pos) (tC (.str x)):=fun _ _ _ H _ I h=>Calls.Constant_str ⟨.str x,H,I.tok _,⟨_,rfl⟩,h⟩
def Gl (X:Cx)(x:Str):Prop:=X.env.kindOf x=some .globalImplicit
theorem yM {E:Value→Shared→Prop}{pins:List (Addr×Obj)}{s:Shared}{σ:St}{H:Hp}{x:Str}{u:Value}{pos:Pos}{Q:Value→Shared→Prop}(I:Inv X pins σ H s)(hg:Gl X x)(hm:X.mg x=some u)(h:Q u s)
  (hd:(x == ("__debug__":Str))=false:=by decide):wpAny (model X.prog X.w) X.A (eval (.Name x pos) X.env) Q E s:=
 Calls.Name_function_global I.ok.kind hg (Calls.loadGlobal_global (by rw[I.ok.glob];exact I.mod.glob.keeps I.bk) hm h) hd
theorem uH {E:Value→Shared→Prop}{pins:List (Addr×Obj)}{s:Shared}{σ:St}{H:Hp}{x:Str}{u:Value}{pos:Pos}{Q:Value→Shared→Prop}(I:Inv X pins σ H s)(hg:Gl X x)(hm:X.mg x=none)(hv:bootBuiltins x=some u)(h:Q u s)
  (hn:x≠"__name__":=by decide) (hd:(x == ("__debug__":Str))=false:=by decide):wpAny (model X.prog X.w) X.A (eval (.Name x pos) X.env) Q E s:=by
 obtain⟨mb,h1,h2⟩:=I.mod.blt
 exact Calls.Name_function_global I.ok.kind hg (Calls.loadGlobal_builtin (by rw[I.ok.glob];exact I.mod.glob.keeps I.bk) hm (by rw[I.ok.blt];exact h1.keeps I.bk) ((h2 x hn).trans hv) h) hd
theorem xW {x:Str}{v:V}{u:Value}{pos:Pos}(hg:Gl X x)(hm:X.mg x=some u)(r:RelV v u)(hd:(x == ("__debug__":Str))=false:=by decide):PE X (.Name x pos) (tC v):=
 fun _ _ _ H _ I h=>yM I hg hm ⟨v,H,I,r,h⟩ hd
theorem xV {x:Str}{v:V}{u:Value}{pos:Pos}(hg:Gl X x)(hm:X.mg x=none)(hv:bootBuiltins x=some u)(r:RelV v u)(hn:x≠"__name__":=by decide)(hd:(x == ("__debug__":Str))=false:=by decide):PE X (.Name x pos) (tC v):=
 fun _ _ _ H _ I h=>uH I hg hm hv ⟨v,H,I,r,h⟩ hn hd
variable {a b:Expr}{ta tb:TE}{pos:Pos}
def PC (X:Cx)(op:CmpOp)(a b:Expr)(t:TE):Prop:=
 ∀(pins:List (Addr×Obj)) (s:Shared) (σ:St) (H:Hp) (Q:VK),Inv X pins σ H s→t σ H Q→
  wpAny (model X.prog X.w) X.A (eval a X.env) (fun v s₁=>wpAny (model X.prog X.w) X.A (eval b X.env) (fun u s₂=>wpAny (model X.prog X.w) X.A (compareOp op v u) (EP X pins σ Q) X.xe s₂) X.xe s₁) X.xe s
def tB (t:TE):TT:=fun σ H Q=>t σ H fun x H1=>∃c,x=.bl c∧Q c H1
theorem zh1 {op:CmpOp}{t:TE}(h:PC X op a b t)(h1:behindInMarks op b=false:=by first|exact nobehind _ (by decide) (by decide)|rfl):PT X (.Compare a [op] [b] pos) (tB t):=by
 intro pins s σ H Q I hw
 refine wpAny_isTrue_Compare1 (thn (h pins s σ H _ I hw) fun v s1 h1=>thn h1 fun u s2 h2=>thn h2 fun c s3 ⟨x,H1,I1,r1,q1⟩=>?_) h1
 obtain⟨d,rfl,q⟩:=q1
 cases r1
 exact zo3 ⟨H1,I1,q⟩
theorem kZ {e:Expr}{t:TE}(h:PE X e t)(he:∀whole,isTrue e X.env whole=(do let v ←whole;standAt e.pos;holding [v] (truthy v)):=by intro _;rfl):PT X e (tB t):=by
 intro pins s σ H Q I hw
 refine isTrue_plain (thn (h pins s σ H _ I hw) fun v s1 ⟨x,H1,I1,r1,q1⟩=>?_) (he _)
 obtain⟨d,rfl,q⟩:=q1
 cases r1
 exact zo3 ⟨H1,I1,q⟩
variable {tA tB':TT}{rest:List Expr}
def zi0 (t u:TT):TT:=fun σ H Q=>t σ H fun c H1=>if c=true then u σ H1 Q else Q false H1
def tOr (t u:TT):TT:=fun σ H Q=>t σ H fun c H1=>if c=true then Q true H1 else u σ H1 Q
def zf3 (t:TT):TT:=fun σ H Q=>t σ H fun c H1=>Q (!c) H1
theorem eB (ha:PT X a tA):PW X (.BoolOp .And [a] pos) tA:=by
 intro wh pins s σ H Q I h
 refine isTrue_and (thn (ha pins s σ H Q I h) fun c s1 e=>?_)
 cases c with
 |true=>exact isTrue_and_nil e
 |false=>exact e
theorem pH (ha:PT X a tA):PW X (.BoolOp .Or [a] pos) tA:=by
 intro wh pins s σ H Q I h
 refine isTrue_or (thn (ha pins s σ H Q I h) fun c s1 e=>?_)
 cases c with
 |false=>exact isTrue_or_nil e
 |true=>exact e
theorem bf (ha:PT X a tA)(hb:PW X (.BoolOp .And (b::rest) pos) tB'):PW X (.BoolOp .And (a::b::rest) pos) (zi0 tA tB'):=by
 intro wh pins s σ H Q I h
 refine isTrue_and (thn (ha pins s σ H _ I h) fun c s1 ⟨H1,I1,q1⟩=>?_)
 cases c with
 |true=>exact hb wh pins s1 σ H1 Q I1 q1
 |false=>exact⟨H1,I1,q1⟩
theorem iH (ha:PT X a tA)(hb:PW X (.BoolOp .Or (b::rest) pos) tB'):PW X (.BoolOp .Or (a::b::rest) pos) (tOr tA tB'):=by
 intro wh pins s σ H Q I h
 refine isTrue_or (thn (ha pins s σ H _ I h) fun c s1 ⟨H1,I1,q1⟩=>?_)
 cases c with
 |true=>exact⟨H1,I1,q1⟩
 |false=>exact hb wh pins s1 σ H1 Q I1 q1
theorem ji (ha:PT X a tA):PT X (.UnaryOp .Not a pos) (zf3 tA):=by
 intro pins s σ H Q I h
 exact isTrue_not (ha pins s σ H (fun c H1=>Q (!c) H1) I h)
def za0 (ta tb:TE):TE:=fun σ H Q=>ta σ H fun x H1=>∃c,x=.bl c∧if c=true then tb σ H1 Q else Q (.bl false) H1
def zg8 (ta tb:TE):TE:=fun σ H Q=>ta σ H fun x H1=>∃c,x=.bl c∧if c=true then Q (.bl true) H1 else tb σ H1 Q
def ze5 (ta:TE):TE:=fun σ H Q=>ta σ H fun x H1=>∃c,x=.bl c∧Q (.bl (!c)) H1
theorem xj {op}{t:TE}(h:PE X a t):PE X (.BoolOp op [a] pos) t:=fun pins s σ H Q I hw=>BoolOp_one (h pins s σ H Q I hw)
theorem yG (ha:PE X a ta)(hb:PE X (.BoolOp .And (b::rest) pos) tb):PE X (.BoolOp .And (a::b::rest) pos) (za0 ta tb):=by
 intro pins s σ H Q I h
 refine BoolOp_and (thn (ha pins s σ H _ I h) fun v s1 ⟨x,H1,I1,r1,q1⟩=>?_)
 obtain⟨c,rfl,q1⟩:=q1
 cases r1
 refine zo3 ?_
 cases c with
 |true=>exact hb pins s1 σ H1 Q I1 q1
 |false=>exact⟨.bl false,H1,I1,rfl,q1⟩
theorem jW (ha:PE X a ta)(hb:PE X (.BoolOp .Or (b::rest) pos) tb):PE X (.BoolOp .Or (a::b::rest) pos) (zg8 ta tb):=by
 intro pins s σ H Q I h
 refine BoolOp_or (thn (ha pins s σ H _ I h) fun v s1 ⟨x,H1,I1,r1,q1⟩=>?_)
 obtain⟨c,rfl,q1⟩:=q1
 cases r1
 refine zo3 ?_
 cases c with
 |false=>exact hb pins s1 σ H1 Q I1 q1
 |true=>exact⟨.bl true,H1,I1,rfl,q1⟩
theorem jH (ha:PE X a ta):PE X (.UnaryOp .Not a pos) (ze5 ta):=by
 intro pins s σ H Q I h
 refine UnaryOp_ (thn (ha pins s σ H _ I h) fun v s1 ⟨x,H1,I1,r1,q1⟩=>?_)
 obtain⟨c,rfl,q1⟩:=q1
 cases r1
 exact not_of (zo3 ⟨.bl (!c),H1,I1,rfl,q1⟩)
def tIf (t:TT)(ta tb:TE):TE:=fun σ H Q=>t σ H fun c H1=>if c=true then ta σ H1 Q else tb σ H1 Q
theorem gL {c:Expr}(hc:PT X c tA)(ha:PE X a ta)(hb:PE X b tb):PE X (.IfExp c a b pos) (tIf tA ta tb):=by
 intro pins s σ H Q I h
 refine wpAny_IfExp (thn (hc pins s σ H _ I h) fun d s1 ⟨H1,I1,q1⟩=>?_)
 cases d with
 |true=>exact ha pins s1 σ H1 Q I1 q1
 |false=>exact hb pins s1 σ H1 Q I1 q1
end
def SqL (K:PySem.W.Frag)(H:Hp)(a:Addr)(xs:List V):Prop:=
 Rd H a (.lst xs)∨
  ∃(o:Obj) (its:Array Value) (n:Nat),K.lookup a=some o∧o.cls=.type "list"∧o.dict=none∧o.data=.seq its n∧its.size≤sizeLine∧Vals xs its.toList
def SqT (K:PySem.W.Frag)(H:Hp)(a:Addr)(xs:List V):Prop:=
 Rd H a (.tup xs)∨
  ∃(o:Obj) (its:Array Value) (n:Nat),K.lookup a=some o∧o.cls=.type "tuple"∧o.data=.seq its n∧its.size≤sizeLine∧Vals xs its.toList
def zi8 :Value→Option V
 |.none=>some .non
 |.bool b=>some (.bl b)
 |.int i _=>some (.int i)
 |.str x _=>some (.str x)
 |.bytes b _=>some (.byt b)
 |.float b _=>some (.flt b)
 |.ref a=>some (.ref a)
 |.type n=>some (.ty n)
 |_=>none
theorem RelV.abs {x:V}{u:Value}(r:RelV x u):zi8 u=some x:=by
 cases x with
 |non=>cases r;rfl
 |bl _=>cases r;rfl
 |int _=>obtain⟨t,rfl⟩:=r;rfl
 |str _=>obtain⟨t,rfl⟩:=r;rfl
 |byt _=>obtain⟨t,rfl⟩:=r;rfl
 |flt _=>obtain⟨t,rfl⟩:=r;rfl
 |ref _=>cases r;rfl
 |ty _=>cases r;rfl
theorem RelV.inj {x y:V}{u:Value}(r:RelV x u)(q:RelV y u):x=y:=zl3 (r.abs.symm.trans q.abs)
theorem Vals.inj :∀{xs ys:List V} {us:List Value},Vals xs us→Vals ys us→xs=ys
 |_,_,_,.nil,.nil=>rfl
 |_,_,_,.cons r t,.cons r' t'=>by rw[r.inj r',Vals.inj t t']
section
variable {X:Cx}{pins:List (Addr×Obj)}{σ:St}{H:Hp}{s:Shared}{a:Addr}{xs ys:List V}
theorem SqL.of {K:PySem.W.Frag}(h:H a=some (.lst xs)):SqL K H a xs:=.inl (.inl h)
theorem SqT.of {K:PySem.W.Frag}(h:H a=some (.tup xs)):SqT K H a xs:=.inl (.inl h)
theorem Inv.list (I:Inv X pins σ H s)(h:SqL X.K H a xs):∃its:List Value,Vals xs its∧PlainL s.heap a its.toArray∧xs.length≤sizeLine:=by
 rcases h with h|⟨o,its,n,hk,hc,hd,hs,hz,r⟩
 ·obtain⟨z,its,n,r,e⟩:=h.ok I.hok
  exact⟨its,r,⟨_,n,e,rfl,rfl,rfl⟩,z⟩
 ·refine⟨its.toList,r,⟨o,n,I.kIn a o hk,hc,hd,by simpa using hs⟩,?_⟩
  have e:=r.length
  simp only[zv3] at e
  omega
theorem Inv.tuple (I:Inv X pins σ H s)(h:SqT X.K H a xs):∃its:List Value,Vals xs its∧IsTup s.heap a its.toArray∧xs.length≤sizeLine:=by
 rcases h with h|⟨o,its,n,hk,hc,hs,hz,r⟩
 ·obtain⟨z,its,r,p⟩:=h.ok I.hok
  exact⟨its,r,p,z⟩
 ·refine⟨its.toList,r,⟨o,I.kIn a o hk,hc,n,by simpa using hs⟩,?_⟩
  have e:=r.length
  simp only[zv3] at e
  omega
theorem Inv.list_inj (I:Inv X pins σ H s)(h:SqL X.K H a xs)(h':SqL X.K H a ys):xs=ys:=by
 obtain⟨its,r,⟨o,n,e,_,_,d⟩,_⟩:=I.list h
 obtain⟨its',r',⟨o',n',e',_,_,d'⟩,_⟩:=I.list h'
 rw[e] at e';cases e'
 rw[d] at d'
 injection d' with d1 _
 have:its=its':=by simpa using congrArg Array.toList d1
 subst this
 exact r.inj r'
theorem Inv.tuple_inj (I:Inv X pins σ H s)(h:SqT X.K H a xs)(h':SqT X.K H a ys):xs=ys:=by
 obtain⟨its,r,⟨o,e,_,n,d⟩,_⟩:=I.tuple h
 obtain⟨its',r',⟨o',e',_,n',d'⟩,_⟩:=I.tuple h'
 rw[e] at e';cases e'
 rw[d] at d'
 injection d' with d1 _
 have:its=its':=by simpa using congrArg Array.toList d1
 subst this
 exact r.inj r'
end
abbrev Cx.wish (X:Cx)(E:Value→Shared→Prop):Cx:={X with xe:=E}
abbrev Cx.nox (X:Cx):Cx:=X.wish fun _ _=>False
theorem Cx.Ok.wish {X:Cx}(ok:X.Ok)(E:Value→Shared→Prop):(X.wish E).Ok:=
 ⟨ok.mod,ok.kind,ok.glob,ok.blt,ok.above,ok.inj,ok.has,ok.cab,ok.hd,ok.frames,ok.stk,ok.exf,ok.bs,ok.bsz,ok.noex,ok.exfs,ok.funs,ok.frf⟩
theorem Cx.Ok.unwish {X:Cx}{E:Value→Shared→Prop}(ok:(X.wish E).Ok):X.Ok:=
 ⟨ok.mod,ok.kind,ok.glob,ok.blt,ok.above,ok.inj,ok.has,ok.cab,ok.hd,ok.frames,ok.stk,ok.exf,ok.bs,ok.bsz,ok.noex,ok.exfs,ok.funs,ok.frf⟩
section
variable {X:Cx}{pins:List (Addr×Obj)}{σ:St}{H:Hp}{s:Shared}{E:Value→Shared→Prop}
theorem Inv.wish (I:Inv X pins σ H s)(E:Value→Shared→Prop):Inv (X.wish E) pins σ H s:=⟨I.ok.wish E,I.os,I.bare,I.base,I.loc,I.cell,I.free,I.freeC,I.pin,I.hok,I.len⟩
theorem Inv.unwish (I:Inv (X.wish E) pins σ H s):Inv X pins σ H s:=⟨I.ok.unwish,I.os,I.bare,I.base,I.loc,I.cell,I.free,I.freeC,I.pin,I.hok,I.len⟩
theorem SP.unwish {D:Ends}{f:Flow}{s':Shared}(h:SP (X.wish E) pins D f s'):SP X pins D f s':=by
 cases f with
 |next=>obtain⟨σ',H',I,q⟩:=h;exact⟨σ',H',I.unwish,q⟩
 |brk=>obtain⟨σ',H',I,q⟩:=h;exact⟨σ',H',I.unwish,q⟩
 |cont=>obtain⟨σ',H',I,q⟩:=h;exact⟨σ',H',I.unwish,q⟩
 |ret u=>obtain⟨v,σ',H',I,r,q⟩:=h;exact⟨v,σ',H',I.unwish,r,q⟩
theorem PSs.nox {st:List Stmt}{t:TS}(h:PSs X.nox st t):PSs X st t:=fun pins s σ H D I hw=>
 zn1 (h pins s σ H D (I.wish _) hw) (fun _ _ q=>q.unwish) fun _ _ z=>False.elim z
end
section
variable {X:Cx}{st:Stmt}{rest:List Stmt}{t u:TS}{e:Expr}{te:TE}{pos:Pos}
def za9 :TS:=fun D σ H=>D.nx σ H
def ze0 (t u:TS):TS:=fun D σ H=>t {D with nx:=u D} σ H
theorem yn :PSs X [] za9:=fun _ _ σ H _ I h=>zu4 ⟨σ,H,I,h⟩
theorem zD (h1:PS X st t)(h2:PSs X rest u):PSs X (st::rest) (ze0 t u):=by
 intro pins s σ H D I h
 refine wpAny_execs_cons (thn (h1 pins s σ H {D with nx:=u D} I h) fun f s1 q=>?_)
 cases f with
 |next=>
  obtain⟨σ',H',I',q⟩:=q
  exact h2 pins s1 σ' H' D I' q
 |ret v=>exact q
 |brk=>exact q
 |cont=>exact q
theorem zp (h1:PS X st t):PSs X [st] t:=by
 intro pins s σ H D I h
 refine wpAny_execs_cons (thn (h1 pins s σ H D I h) fun f s1 q=>?_)
 cases f with
 |next=>exact zu4 q
 |ret v=>exact q
 |brk=>exact q
 |cont=>exact q
theorem Inv.quiet {pins:List (Addr×Obj)}{σ:St}{H:Hp}{s:Shared}(I:Inv X pins σ H s):interactive X.env=false:=by simp[interactive,I.ok.kind]
def za1 (te:TE):TS:=fun D σ H=>te σ H fun _ H1=>D.nx σ H1
theorem mj (he:PE X e te)(hs:swapsWith e none pos.line X.env=pure false:=by rfl):PS X (.Expr e pos) (za1 te):=by
 intro pins s σ H D I h
 exact wpAny_Expr_any (thn (he pins s σ H _ I h) fun v s1 ⟨x,H1,I1,r1,q1⟩=>⟨σ,H1,I1,q1⟩) I.quiet hs
def zi6 (te:TE):TS:=fun D σ H=>te σ H D.rt
theorem zw (he:PE X e te):PS X (.Return (some e) pos) (zi6 te):=by
 intro pins s σ H D I h
 exact wpAny_Return_some (thn (he pins s σ H _ I h) fun v s1 ⟨x,H1,I1,r1,q1⟩=>⟨x,σ,H1,I1,r1,q1⟩)
def zh2 (c:TT)(t u:TS):TS:=fun D σ H=>c σ H fun b H1=>if b=true then t D σ H1 else u D σ H1
theorem xI {c:Expr}{a b:List Stmt}{tc:TT}(hc:PT X c tc)(ha:PSs X a t)(hb:PSs X b u):PS X (.If c a b pos) (zh2 tc t u):=by
 intro pins s σ H D I h
 refine wpAny_If (thn (hc pins s σ H _ I h) fun d s1 ⟨H1,I1,q1⟩=>?_)
 cases d with
 |true=>exact ha pins s1 σ H1 D I1 q1
 |false=>exact hb pins s1 σ H1 D I1 q1
end
abbrev TG :=V→St→Hp→(St→Hp→Prop)→Prop
abbrev TGs :=List V→St→Hp→(St→Hp→Prop)→Prop
def PG (X:Cx)(target:Expr)(t:TG):Prop:=
 ∀(pins:List (Addr×Obj)) (s:Shared) (σ:St) (H:Hp) (v:V) (u:Value) (Q:St→Hp→Prop),Inv X pins σ H s→RelV v u→t v σ H Q→
  wpAny (model X.prog X.w) X.A (assign target X.env u) (fun _ s'=>∃σ' H',Inv X pins σ' H' s'∧Q σ' H') X.xe s
def PGs (X:Cx)(ts:List Expr)(t:TGs):Prop:=
 ∀(pins:List (Addr×Obj)) (s:Shared) (σ:St) (H:Hp) (vs:List V) (us:List Value) (Q:St→Hp→Prop),Inv X pins σ H s→Vals vs us→t vs σ H Q→
  wpAny (model X.prog X.w) X.A (assignInOrder ((assignEach ts X.env).map (·.2)) us) (fun _ s'=>∃σ' H',Inv X pins σ' H' s'∧Q σ' H') X.xe s
abbrev ak :=V→V→V→Hp→(Hp→Prop)→Prop
def zb9 (X:Cx)(t:ak):Prop:=
 ∀(pins:List (Addr×Obj)) (s:Shared) (σ:St) (H:Hp) (o i v:V) (ov iv u:Value) (Q:Hp→Prop),Inv X pins σ H s→RelV o ov→RelV i iv→RelV v u→t o i v H Q→
  wpAny (model X.prog X.w) X.A (setItem ov iv u) (fun _ s'=>∃H',Inv X pins σ H' s'∧Q H') X.xe s
section
variable {X:Cx}{pos:Pos}
def tU (i:Nat):TG:=fun v σ H Q=>Q (σ.set i (some v)) H
theorem yg {i:Nat}{x:Str}(hN:X.N.Nodup)(hi:X.N[i]?=some x)(hx:Loc X.env.scope x)(hf:X.fn x=true∨X.env.scope.names.lookup x=some .local:=by first|exact .inl rfl|exact .inr rfl|assumption):PG X (.Name x pos) (tU i):=by
 intro pins s σ H v u Q I r h
 exact wpAny_assign_Name (uV I hN hi hx r (fun s' I'=>⟨_,H,I',h⟩) hf)
def zd7 :TGs:=fun vs σ H Q=>vs=[]∧Q σ H
def cq (t:TG)(u:TGs):TGs:=fun vs σ H Q=>∃v r,vs=v::r∧t v σ H fun σ' H'=>u r σ' H' Q
theorem vp :PGs X [] zd7:=by
 intro pins s σ H vs us Q I r h
 obtain⟨e,h⟩:=h
 subst e
 cases r
 exact assignInOrder_nil ⟨σ,H,I,h⟩
theorem yP {e:Expr}{es:List Expr}{t:TG}{u:TGs}(h1:PG X e t)(h2:PGs X es u)
  (hs:(assignEach (e::es) X.env).map (·.2)=assign e X.env::(assignEach es X.env).map (·.2):=by rfl):PGs X (e::es) (cq t u):=by
 intro pins s σ H vs us Q I r h
 obtain⟨v,vr,e1,h⟩:=h
 subst e1
 cases r with
 |cons r rr=>
  rw[hs]
  refine assignInOrder_cons (thn (h1 pins s σ H _ _ _ I r h) fun _ s1 ⟨σ1,H1,I1,q1⟩=>?_)
  exact h2 pins s1 σ1 H1 _ _ Q I1 rr q1
def cX (K:PySem.W.Frag)(n:Nat)(t:TGs):TG:=fun v σ H Q=>∃a xs,v=.ref a∧SqT K H a xs∧xs.length=n∧t xs σ H Q
theorem aF {es:List Expr}{k:Nat}{t:TGs}{n:Nat}(hc:X.calm=true)(h:PGs X es t)
  (hn:(assignEach es X.env).length=n:=by rfl) (hst:(assignEach es X.env).findIdx? (·.1)=none:=by rfl):PG X (.Tuple es k pos) (cX X.K n t):=by
 intro pins s σ H v u Q I r hw
 obtain⟨a,xs,e1,hq,hl,hw⟩:=hw
 subst e1
 cases r
 obtain⟨its,rv,ht,hz⟩:=I.tuple hq
 refine assign_Tuple_tuple (I.ok.hd hc) ht (by simp[hn,←hl,rv.length]) hst fun h' hx=>?_
 have I1:Inv X pins σ H {s with heap:=h'}:=I.kept (t':=s.toks) fun b o e=>hx b o (zl8 (zj9 e)) e
 exact h pins _ σ H xs _ Q I1 (by simpa using rv) hw
def zf2 (to ti:TE)(t:ak):TG:=fun v σ H Q=>to σ H fun o H1=>ti σ H1 fun i H2=>t o i v H2 fun H3=>Q σ H3
theorem fh {o i:Expr}{to ti:TE}{t:ak}(ho:PE X o to)(hi:PE X i ti)(hs:zb9 X t)
  (ha:∀v,assign (.Subscript o i pos) X.env v=(do
   let ov ←holding [v] (eval o X.env)
   let iv ←holding [v,ov] (eval i X.env)
   standAt pos
   holding [v,ov,iv] (setItem ov iv v)
   release [v,ov,iv] []):=by intro _;rfl):PG X (.Subscript o i pos) (zf2 to ti t):=by
 intro pins s σ H v u Q I r h
 rw[ha]
 refine zj2 (zq8 (thn (ho pins s σ H _ I h) fun ov s1 ⟨x,H1,I1,r1,q1⟩=>?_))
 refine zj2 (zq8 (thn (hi pins s1 σ H1 _ I1 q1) fun iv s2 ⟨y,H2,I2,r2,q2⟩=>?_))
 refine zj2 (zt9 (zj2 (zq8 (thn (hs pins s2 σ H2 x y v ov iv u _ I2 r1 r2 r q2) fun _ s3 ⟨H3,I3,q3⟩=>?_))))
 exact wpAny_release ⟨σ,H3,I3,q3⟩
def bO (te:TE)(g:TG):TS:=fun D σ H=>te σ H fun x H1=>g x σ H1 D.nx
theorem gZ {tg e:Expr}{te:TE}{g:TG}(he:PE X e te)(hg:PG X tg g)(hs:swapsWithSole [tg] e pos.line X.env=pure false:=by rfl)(hw:swappedStores [tg] e X.env=pure none:=by rfl)
  (h1:(assignEach [tg] X.env).map (·.2)=[assign tg X.env]:=by rfl):PS X (.Assign [tg] e pos) (bO te g):=by
 intro pins s σ H D I h
 refine wpAny_Assign_stores (thn (he pins s σ H _ I h) fun v s1 ⟨x,H1,I1,r1,q1⟩=>?_) hs hw
 rw[h1]
 exact thn (hg pins s1 σ H1 x v _ I1 r1 q1) fun _ s2 q=>q
theorem uA {i:Nat}{x:Str}{e:Expr}{te:TE}{pos':Pos}(hN:X.N.Nodup)(hi:X.N[i]?=some x)(hx:Loc X.env.scope x)(he:PE X e te)(hs:swapsWith e (some (.Name x pos')) pos.line X.env=pure false:=by rfl)(hf:X.fn x=true∨X.env.scope.names.lookup x=some .local:=by first|exact .inl rfl|exact .inr rfl|assumption):
  PS X (.Assign [.Name x pos'] e pos) (bO te (tU i)):=by
 intro pins s σ H D I h
 refine wpAny_Assign_Name (thn (he pins s σ H _ I h) fun v s1 ⟨y,H1,I1,r1,q1⟩=>?_) hs
 exact uV I1 hN hi hx r1 (fun s2 I2=>⟨_,H1,I2,q1⟩) hf
end
section
variable {X:Cx}{pos:Pos}
end
structure It where
 go:Nat→Hp→Prop
 yld:Nat→Hp→V→Hp→Prop
 stop:Nat→Hp→Prop
def vG (X:Cx)(pins:List (Addr×Obj))(H:Hp)(b:Addr):Prop:=
 H b=none∧b≠X.env.locals∧b∉X.fs∧(b∈X.ex∨X.s₀.heap.objs.size≤b)∧(∀x c,X.env.cells.lookup x=some c→c≠b)∧∀p∈X.pn++pins,p.1≠b
theorem Inv.fpOk {X:Cx}{pins:List (Addr×Obj)}{σ:St}{H H':Hp}{s:Shared}{b:Addr}(I:Inv X pins σ H s)(hb:s.heap.objs.size≤b)(hn:H' b=none):vG X pins H' b:=by
 refine⟨hn,zt0 (zl1 I.lt hb),I.nofs hb,.inr (zl2 I.sz hb),fun x c e z=>?_,fun p hp z=>?_⟩
 ·obtain⟨v,q⟩:=I.cell x c e
  exact absurd (zl1 q.lt (by rw[z];exact hb)) (zr3 _)
 ·exact absurd (zl1 (zj9 (I.pin p hp).1) (by rw[z];exact hb)) (zr3 _)
structure Turn (P:Program)(w:World)(K:PySem.W.Frag)(tg:Expr)(J:It)(fp:List Addr)(it:Addr)(tn:Nat→Heap→Prop):Prop where
 mem:it∈fp
 obj:∀i h,tn i h→∀b∈fp,∃o,h.get? b=some o∧∀v,o.data≠.cell v
 keep:∀i h h',tn i h→(∀b∈fp,∀o,h.get? b=some o→h'.get? b=some o)→tn i h'
 item:∀(X:Cx),X.prog=P→X.w=w→X.K=K→X.calm=true→∀(i:Nat) (pins:List (Addr×Obj)) (s:Shared) (σ:St) (H:Hp) (E:Value→Shared→Prop),Inv X pins σ H s→(∀b∈fp,vG X pins H b)→tn i s.heap→J.go i H→
  wpAny (model P w) X.A (pyNext (.ref it)) (fun r s1=>∃u,r=some u∧
   wpAny (model P w) X.A (letOwnedTupleGo tg (.ref it) u) (fun _ s2=>∃x H',Inv X pins σ H' s2∧RelV x u∧J.yld i H x H'∧tn (i+1) s2.heap∧∀b∈fp,H' b=none) E s1) E s
 done:∀(X:Cx),X.prog=P→X.w=w→X.K=K→X.calm=true→∀(i:Nat) (pins:List (Addr×Obj)) (s:Shared) (σ:St) (H:Hp) (E:Value→Shared→Prop),Inv X pins σ H s→(∀b∈fp,vG X pins H b)→tn i s.heap→J.stop i H→
  wpAny (model P w) X.A (pyNext (.ref it)) (fun r s1=>r=none∧Inv X pins σ H s1) E s
 self:∀(A:Around) (i:Nat) (s:Shared) (Q:Value→Shared→Prop) (E:Value→Shared→Prop),tn i s.heap→Q (.ref it) s→wpAny (model P w) A (pyIter (.ref it)) Q E s
abbrev TI :=St→Hp→(It→Hp→Prop)→Prop
def PIE (X:Cx)(pins:List (Addr×Obj))(σ:St)(tg:Expr)(R:It→Hp→Prop)(itv:Value)(s2:Shared):Prop:=
 ∃(it:Addr) (fp:List Addr) (tn:Nat→Heap→Prop) (J:It) (H':Hp),itv=.ref it∧Inv X pins σ H' s2∧Turn X.prog X.w X.K tg J fp it tn∧tn 0 s2.heap∧(∀b∈fp,vG X pins H' b)∧R J H'
def PI (X:Cx)(tg iter:Expr)(wi:TI):Prop:=
 ∀(pins:List (Addr×Obj)) (s:Shared) (σ:St) (H:Hp) (R:It→Hp→Prop),Inv X pins σ H s→wi σ H R→
  wpAny (model X.prog X.w) X.A (eval iter X.env) (fun v s1=>wpAny (model X.prog X.w) X.A (pyIter v) (PIE X pins σ tg R) X.xe s1) X.xe s
theorem nP {M:Model}{A:Around}{E:Value→Shared→Prop}{s:Shared}{tg:Expr}{it:Addr}{u:Value}{o:Obj}{n:String}{vs:Array Value}{Q:Unit→Shared→Prop}(ho:s.heap.get? it=some o)(hc:o.cls=.type n)(hd:o.data=.fields vs)
  (hn:["enumerate","zip","dict_itemiterator","dict_reverseitemiterator","odict_iterator","itertools.zip_longest","itertools.pairwise"].contains n=false) (hQ:Q () s):wpAny M A (letOwnedTupleGo tg (.ref it) u) Q E s:=by
 unfold letOwnedTupleGo
 cases tg<;>first
  |exact zk4 hQ
  |(cases u<;>first
    |exact zk4 hQ
    |(refine zj2 (wpAny_load ho ?_)
      rw[hc,hd]
      show wpAny M A (if (["enumerate","zip","dict_itemiterator","dict_reverseitemiterator","odict_iterator","itertools.zip_longest","itertools.pairwise"].contains n&&vs[0]? == some (rawInt _))=true then _ else _) Q E s
      rw[if_neg (by intro h;rw[hn,zq1] at h;cases h)]
      exact zk4 hQ))
def Itl (K:PySem.W.Frag)(a:Addr):It:=
 ⟨fun i H=>∃xs x,SqL K H a xs∧xs[i]?=some x,fun i H x H'=>H'=H∧∀xs,SqL K H a xs→xs[i]?=some x,fun i H=>∃xs,SqL K H a xs∧xs.length≤i⟩
def Itt (K:PySem.W.Frag)(a:Addr):It:=
 ⟨fun i H=>∃xs x,SqT K H a xs∧xs[i]?=some x,fun i H x H'=>H'=H∧∀xs,SqT K H a xs→xs[i]?=some x,fun i H=>∃xs,SqT K H a xs∧xs.length≤i⟩
def Itr (lo:Int)(n:Nat):It:=⟨fun i _=>i<n,fun i H x H'=>H'=H∧x=.int (lo+i),fun i _=>n≤i⟩
theorem lQ {P:Program}{w:World}{K:PySem.W.Frag}{tg:Expr}(a it:Addr):Turn P w K tg (Itl K a) [it] it (fun i h=>h.IsListIter it a i) where
 mem:=by simp
 obj:=fun i h st b hb=>by
  have e:b=it:=by simpa using hb
  subst e
  obtain⟨o,e,c,d⟩:=st
  exact⟨o,e,fun v z=>by rw[d] at z;cases z⟩
 keep:=fun i h h' st k=>st.at fun o e=>k it (by simp) o e
 item:=by
  intro X hP hw hK hc i pins s σ H E I hf st hg
  subst hP hw hK
  obtain⟨xs,x,hq,hx⟩:=hg
  obtain⟨its,rv,p,hz⟩:=I.list hq
  obtain⟨u,hu,ru⟩:=rv.get hx
  obtain⟨f0,f1,f2,f3,f4,f5⟩:=hf it (by simp)
  refine wpAny_pyNext_list_item st p.isList (x:=u) (by simpa using hu) fun h' st' sb=>?_
  have I1:Inv X pins σ H {s with heap:=h'}:=I.turned (t':=s.toks) (fun b o hb e=>(sb.2 b hb).trans e) f0 f1 f3 f4 f5
  obtain⟨o,e,c,d⟩:=id st'
  exact⟨u,rfl,nP (s:={s with heap:=h'}) e c d (by decide) ⟨x,H,I1,ru,⟨rfl,fun ys hy=>by rw[I.list_inj hy hq];exact hx⟩,st',fun b hb=>(hf b hb).1⟩⟩
 done:=by
  intro X hP hw hK hc i pins s σ H E I hf st hg
  subst hP hw hK
  obtain⟨xs,hq,hx⟩:=hg
  obtain⟨its,rv,p,hz⟩:=I.list hq
  obtain⟨f0,f1,f2,f3,f4,f5⟩:=hf it (by simp)
  have hl:=rv.length
  exact wpAny_pyNext_list_end (I.ok.hd hc) st p.isList (by simp;omega) fun h' eb=>⟨rfl,I.turned (t':=s.toks) (fun b o hb e=>eb b o hb e) f0 f1 f3 f4 f5⟩
 self:=fun _ _ _ _ _ st h=>wpAny_pyIter_listiter st h
theorem pX {P:Program}{w:World}{K:PySem.W.Frag}{tg:Expr}(a it:Addr):Turn P w K tg (Itt K a) [it] it (fun i h=>h.IsTupleIter it a i) where
 mem:=by simp
 obj:=fun i h st b hb=>by
  have e:b=it:=by simpa using hb
  subst e
  obtain⟨o,e,c,d⟩:=st
  exact⟨o,e,fun v z=>by rw[d] at z;cases z⟩
 keep:=fun i h h' st k=>st.at fun o e=>k it (by simp) o e
 item:=by
  intro X hP hw hK hc i pins s σ H E I hf st hg
  subst hP hw hK
  obtain⟨xs,x,hq,hx⟩:=hg
  obtain⟨its,rv,p,hz⟩:=I.tuple hq
  obtain⟨u,hu,ru⟩:=rv.get hx
  obtain⟨f0,f1,f2,f3,f4,f5⟩:=hf it (by simp)
  refine wpAny_pyNext_tuple_item st (show s.heap.IsTuple a its.toArray from p) (x:=u) (by simpa using hu) fun h' st' sb=>?_
  have I1:Inv X pins σ H {s with heap:=h'}:=I.turned (t':=s.toks) (fun b o hb e=>(sb.2 b hb).trans e) f0 f1 f3 f4 f5
  obtain⟨o,e,c,d⟩:=id st'
  exact⟨u,rfl,nP (s:={s with heap:=h'}) e c d (by decide) ⟨x,H,I1,ru,⟨rfl,fun ys hy=>by rw[I.tuple_inj hy hq];exact hx⟩,st',fun b hb=>(hf b hb).1⟩⟩
 done:=by
  intro X hP hw hK hc i pins s σ H E I hf st hg
  subst hP hw hK
  obtain⟨xs,hq,hx⟩:=hg
  obtain⟨its,rv,p,hz⟩:=I.tuple hq
  obtain⟨f0,f1,f2,f3,f4,f5⟩:=hf it (by simp)
  have hl:=rv.length
  exact wpAny_pyNext_tuple_end (I.ok.hd hc) st (show s.heap.IsTuple a its.toArray from p) (by simp;omega) fun h' eb=>⟨rfl,I.turned (t':=s.toks) (fun b o hb e=>eb b o hb e) f0 f1 f3 f4 f5⟩
 self:=fun _ _ _ _ _ st h=>wpAny_pyIter_tupleiter st h
theorem pL {P:Program}{w:World}{K:PySem.W.Frag}{tg:Expr}(it:Addr)(lo:Int)(n:Nat):Turn P w K tg (Itr lo n) [it] it (fun i h=>IsRangeIter h it (lo+(i:Nat)*1) ((n:Int)-(i:Nat)) 1) where
 mem:=by simp
 obj:=fun i h st b hb=>by
  have e:b=it:=by simpa using hb
  subst e
  exact⟨_,st,fun v z=>by
   have z':Data.fields _=Data.cell v:=z
   cases z'⟩
 keep:=fun i h h' st k=>k it (by simp) _ st
 item:=by
  intro X hP hw hK hc i pins s σ H E I hf st hg
  subst hP hw hK
  obtain⟨f0,f1,f2,f3,f4,f5⟩:=hf it (by simp)
  have W:=Walks.range (prog:=X.prog) (w:=X.w) (I.ok.hd hc) it lo 1 n
  refine W.item i s _ _ hg st fun v h' tk hv st' kk=>?_
  obtain⟨t,rfl⟩:=hv
  have I1:Inv X pins σ H {s with heap:=h',toks:=tk}:=I.turned (fun b o hb e=>kk b o (by simpa using hb) e) f0 f1 f3 f4 f5
  refine⟨_,rfl,nP (s:={s with heap:=h',toks:=tk}) (n:="range_iterator") st' rfl rfl (by decide) ⟨.int (lo+i),H,I1,⟨t,?_⟩,⟨rfl,rfl⟩,st',fun b hb=>(hf b hb).1⟩⟩
  rw[Int.mul_one]
 done:=by
  intro X hP hw hK hc i pins s σ H E I hf st hg
  subst hP hw hK
  obtain⟨f0,f1,f2,f3,f4,f5⟩:=hf it (by simp)
  exact wpAny_pyNext_range_end (I.ok.hd hc) st (by have:n≤i:=hg;omega) fun h' eb=>⟨rfl,I.turned (t':=s.toks) (fun b o hb e=>eb b o hb e) f0 f1 f3 f4 f5⟩
 self:=fun _ _ _ _ _ st h=>wpAny_pyIter_rangeiter st h
section
variable {X:Cx}{tg:Expr}
def zb1 (K:PySem.W.Frag)(tl:TE):TI:=fun σ H R=>tl σ H fun x H1=>∃a,x=.ref a∧(∃xs,SqL K H1 a xs)∧R (Itl K a) H1
def zh3 (K:PySem.W.Frag)(tl:TE):TI:=fun σ H R=>tl σ H fun x H1=>∃a,x=.ref a∧(∃xs,SqT K H1 a xs)∧R (Itt K a) H1
theorem eK {l:Expr}{tl:TE}(hl:PE X l tl):PI X tg l (zb1 X.K tl):=by
 intro pins s σ H R I h
 refine thn (hl pins s σ H _ I h) fun v s1 ⟨x,H1,I1,r1,q1⟩=>?_
 obtain⟨a,e,⟨xs,hq⟩,q⟩:=q1
 subst e
 cases r1
 obtain⟨its,rv,p,hz⟩:=I1.list hq
 refine wpAny_pyIter_list p.isList ?_
 refine⟨s1.heap.objs.size,[s1.heap.objs.size],_,_,H1,rfl,I1.kept (t':=s1.toks) fun b o e=>zj3 _ e,lQ a _,⟨_,zm7 _ rfl,rfl,rfl⟩,fun b hb=>?_,q⟩
 have e:b=s1.heap.objs.size:=by simpa using hb
 subst e
 exact I1.fpOk (zj8 _) (I1.hok.fresh (zj8 _))
theorem bx {l:Expr}{tl:TE}(hl:PE X l tl):PI X tg l (zh3 X.K tl):=by
 intro pins s σ H R I h
 refine thn (hl pins s σ H _ I h) fun v s1 ⟨x,H1,I1,r1,q1⟩=>?_
 obtain⟨a,e,⟨xs,hq⟩,q⟩:=q1
 subst e
 cases r1
 obtain⟨its,rv,p,hz⟩:=I1.tuple hq
 refine wpAny_pyIter_tuple (show s1.heap.IsTuple a its.toArray from p) ?_
 refine⟨s1.heap.objs.size,[s1.heap.objs.size],_,_,H1,rfl,I1.kept (t':=s1.toks) fun b o e=>zj3 _ e,pX a _,⟨_,zm7 _ rfl,rfl,rfl⟩,fun b hb=>?_,q⟩
 have e:b=s1.heap.objs.size:=by simpa using hb
 subst e
 exact I1.fpOk (zj8 _) (I1.hok.fresh (zj8 _))
theorem gN {pins:List (Addr×Obj)}{σ:St}{H:Hp}{s:Shared}{R:It→Hp→Prop}{E:Value→Shared→Prop}{lo hi:Int}{t u v:Tok}{tk:Nat}(I:Inv X pins σ H s)(h1:-(2 ^ 62)≤lo)(h2:lo<2 ^ 62)(h3:-(2 ^ 62)≤hi)(h4:hi<2 ^ 62)
  (q:R (Itr lo (hi-lo).toNat) H):wpAny (model X.prog X.w) X.A (pyIter (.ref s.heap.objs.size)) (PIE X pins σ tg R) E {s with heap:=s.heap.push {cls:=.type "range",data:=.fields #[.int lo t,.int hi u,.int 1 v]},toks:=tk}:=by
 refine wpAny_pyIter_range (IsRange.new ..) (small_one h1 h2 h3 h4) ?_
 have I1:Inv X pins σ H {s with heap:=s.heap.push {cls:=.type "range",data:=.fields #[.int lo t,.int hi u,.int 1 v]},toks:=tk}:=I.kept fun b o e=>zj3 _ e
 refine⟨(s.heap.push {cls:=.type "range",data:=.fields #[.int lo t,.int hi u,.int 1 v]}).objs.size,[(s.heap.push {cls:=.type "range",data:=.fields #[.int lo t,.int hi u,.int 1 v]}).objs.size],_,_,H,rfl,
  I1.kept (t':=tk) fun b o e=>zj3 _ e,pL _ lo (hi-lo).toNat,?_,fun b hb=>?_,q⟩
 ·have e1:lo+((0:Nat):Int)*1=lo:=by simp
  have e2:(((hi-lo).toNat:Nat):Int)-((0:Nat):Int)=Builtin.Range.rangeSize lo hi 1:=by rw[rangeSize_one];split<;>omega
  show IsRangeIter _ _ (lo+((0:Nat):Int)*1) ((((hi-lo).toNat:Nat):Int)-((0:Nat):Int)) 1
  rw[e1,e2]
  exact zm7 _ rfl
 ·have e:b=(s.heap.push {cls:=.type "range",data:=.fields #[.int lo t,.int hi u,.int 1 v]}).objs.size:=by simpa using hb
  subst e
  exact I1.fpOk (zj8 _) (I1.hok.fresh (zj8 _))
def aN (ta:TA):TI:=fun σ H R=>ta σ H fun vs H1=>∃j:Int,vs=[.int j]∧-(2 ^ 62)≤j∧j<2 ^ 62∧R (Itr 0 j.toNat) H1
theorem lp {a:Expr}{ta:TA}{p pos:Pos}(hg:Gl X "range")(hm:X.mg "range"=none)(ha:PA X [a] ta)(hs:starEach [a] X.env=[(false,eval a X.env)]:=by rfl):PI X tg (.Call (.Name "range" p) [a] [] pos) (aN ta):=by
 intro pins s σ H R I h
 refine Call_ (uH I hg hm boot_range (zs3 (thn (ha pos pins s σ H _ I h) fun us s1 ⟨vs,H1,I1,r1,q1⟩=>?_) hs rfl))
 obtain⟨j,e,q1,q2,q⟩:=q1
 subst e
 cases r1 with
 |cons r rr=>
  cases rr
  obtain⟨t,rfl⟩:=r
  exact call_range_1 (gN I1 (by omega) (by omega) q1 q2 (by simpa using q))
def zi4 (wi:TI)(g:TG)(tb:TS):TS:=fun D σ H=>wi σ H fun J H1=>∃W:Nat→Nat→St→Hp→Prop,(∃m,W 0 m σ H1)∧∀i m σ H,W i m σ H→
 (J.stop i H∧D.nx σ H)∨(J.go i H∧∃N:St→Hp→Prop,(∀σ' H',N σ' H'→∃m',m'<m∧W (i+1) m' σ' H')∧∀x H',J.yld i H x H'→g x σ H' fun σ2 H2=>tb {D with nx:=N,ct:=N,bk:=D.nx} σ2 H2)
def uB (fp:List Addr)(h:Heap):List (Addr×Obj):=fp.filterMap fun b=>(h.get? b).map fun o=>(b,o)
theorem xQ {fp:List Addr}{h:Heap}{b:Addr}{o:Obj}(hb:b∈fp)(e:h.get? b=some o):(b,o)∈uB fp h:=List.mem_filterMap.mpr ⟨b,hb,by rw[e];rfl⟩
theorem lE {fp:List Addr}{h:Heap}{p:Addr×Obj}(hp:p∈uB fp h):p.1∈fp∧h.get? p.1=some p.2:=by
 obtain⟨b,hb,e⟩:=List.mem_filterMap.mp hp
 cases q:h.get? b with
 |none=>rw[q] at e;cases e
 |some o=>
  rw[q] at e
  have e':(b,o)=p:=zl3 e
  subst e'
  exact⟨hb,q⟩
theorem Inv.pinned {pins:List (Addr×Obj)}{σ:St}{H:Hp}{s:Shared}{fp:List Addr}(I:Inv X pins σ H s)(hf:∀b∈fp,vG X pins H b)(ho:∀b∈fp,∃o,s.heap.get? b=some o∧∀v,o.data≠.cell v):Inv X (pins++uB fp s.heap) σ H s:=
 I.pins_of fun p hp=>(zn9.mp hp).elim (fun z=>I.pin p (zm6 _ z)) fun z=>by
  obtain⟨hb,e⟩:=lE z
  obtain⟨f0,f1,f2,_⟩:=hf p.1 hb
  obtain⟨o,e',d⟩:=ho p.1 hb
  rw[e] at e';cases e'
  exact⟨e,f0,f1,f2,d⟩
theorem Inv.unpinned {pins pl:List (Addr×Obj)}{σ:St}{H:Hp}{s:Shared}(I:Inv X (pins++pl) σ H s):Inv X pins σ H s:=I.pins_of fun p hp=>I.pin p (zm6 _ (zu3 _ hp))
theorem cT {iter:Expr}{body:List Stmt}{wi:TI}{g:TG}{tb:TS}{pos:Pos}(hp:PassesOwn (model X.prog X.w) X.A X.env X.xe)(hc:X.calm=true)(hi:PI X tg iter wi)(hg:PG X tg g)(hb:PSs X body tb)
  (hs:∀x,foldedSetIterable iter X.env x=pure x:=by intro _;rfl):PS X (.For tg iter body [] pos) (zi4 wi g tb):=by
 intro pins s σ H D I h
 refine wpAny_For (thn (hi pins s σ H _ I h) fun v s1 h1=>thn h1 fun itv s2 h2=>?_) hs
 obtain⟨it,fp,tn,J,H2,e,I2,T,st2,f2,W,⟨m0,w0⟩,turn⟩:=h2
 subst e
 -- what stays true of the iterator's objects through the loop
 have stat:∀{H':Hp},(∀b∈fp,H' b=none)→∀b∈fp,vG X pins H' b:=fun hn b hb=>⟨hn b hb,(f2 b hb).2⟩
 refine codeAny_forLoop_any (fun n s'=>∃i σ' H',Inv X pins σ' H' s'∧tn i s'.heap∧(∀b∈fp,H' b=none)∧W i n σ' H') ?_ m0 ⟨0,σ,H2,I2,st2,fun b hb=>(f2 b hb).1,w0⟩
 rintro n s3 ⟨i,σ3,H3,I3,st3,fr3,w3⟩
 rcases turn i n σ3 H3 w3 with ⟨stop,qn⟩|⟨go,N,hN,step⟩
 ·refine zs9 hp (thn (T.done X rfl rfl rfl hc i pins s3 σ3 H3 X.xe I3 (stat fr3) st3 stop) fun r s4 ⟨hr,I4⟩=>?_)
  subst hr
  exact zu4 ⟨σ3,H3,I4,qn⟩
 ·refine zs9 hp (thn (T.item X rfl rfl rfl hc i pins s3 σ3 H3 X.xe I3 (stat fr3) st3 go) fun r s4 ⟨u,hr,h4⟩=>?_)
  subst hr
  refine zs9 hp (thn h4 fun _ s5 ⟨x,H5,I5,r5,y5,st5,fr5⟩=>?_)
  have I5':=I5.pinned (stat fr5) (T.obj _ _ st5)
  refine zs9 hp (thn (hg _ s5 σ3 H5 x u _ I5' r5 (step x H5 y5)) fun _ s6 ⟨σ6,H6,I6,q6⟩=>?_)
  refine zs9 hp (thn (hb _ s6 σ6 H6 _ I6 q6) fun f s7 q7=>?_)
  have again:∀{σ7:St} {H7:Hp},Inv X (pins++uB fp s5.heap) σ7 H7 s7→N σ7 H7→∃m,m<n∧∃i σ' H',Inv X pins σ' H' s7∧tn i s7.heap∧(∀b∈fp,H' b=none)∧W i m σ' H':=fun {σ7 H7} I7 n7=>by
   obtain⟨m',hm,w7⟩:=hN σ7 H7 n7
   refine⟨m',hm,i+1,σ7,H7,I7.unpinned,T.keep _ _ _ st5 fun b hb o e=>(I7.pin (b,o) (zm6 _ (zm6 _ (xQ hb e)))).1,fun b hb=>?_,w7⟩
   obtain⟨o,e,d⟩:=T.obj _ _ st5 b hb
   exact (I7.pin (b,o) (zm6 _ (zm6 _ (xQ hb e)))).2.1
  cases f with
  |next=>obtain⟨σ7,H7,I7,n7⟩:=q7;exact again I7 n7
  |cont=>obtain⟨σ7,H7,I7,n7⟩:=q7;exact again I7 n7
  |brk=>obtain⟨σ7,H7,I7,q7⟩:=q7;exact⟨σ7,H7,I7.unpinned,q7⟩
  |ret v=>obtain⟨x7,σ7,H7,I7,r7,q7⟩:=q7;exact⟨x7,σ7,H7,I7.unpinned,r7,q7⟩
end
abbrev R2 :=V→V→Hp→VK→Prop
def OpR (X:Cx)(f:Value→Value→Sem Value)(r:R2):Prop:=
 ∀(pins:List (Addr×Obj)) (s:Shared) (σ:St) (H:Hp) (x y:V) (v u:Value) (Q:VK),Inv X pins σ H s→RelV x v→RelV y u→r x y H Q→
  wpAny (model X.prog X.w) X.A (f v u) (EP X pins σ Q) X.xe s
def UnR (X:Cx)(f:Value→Sem Value)(r:V→Hp→VK→Prop):Prop:=
 ∀(pins:List (Addr×Obj)) (s:Shared) (σ:St) (H:Hp) (x:V) (v:Value) (Q:VK),Inv X pins σ H s→RelV x v→r x H Q→
  wpAny (model X.prog X.w) X.A (f v) (EP X pins σ Q) X.xe s
def yU (X:Cx)(f:Value)(r:List V→Hp→VK→Prop):Prop:=
 ∀(pins:List (Addr×Obj)) (s:Shared) (σ:St) (H:Hp) (xs:List V) (us:List Value) (Q:VK),Inv X pins σ H s→Vals xs us→r xs H Q→
  wpAny (model X.prog X.w) X.A (call f us) (EP X pins σ Q) X.xe s
def zi5 (X:Cx)(r:V→Hp→(Bool→Hp→Prop)→Prop):Prop:=
 ∀(pins:List (Addr×Obj)) (s:Shared) (σ:St) (H:Hp) (x:V) (v:Value) (Q:Bool→Hp→Prop),Inv X pins σ H s→RelV x v→r x H Q→
  wpAny (model X.prog X.w) X.A (truthy v) (TP X pins σ Q) X.xe s
def tOp (r:R2)(ta tb:TE):TE:=fun σ H Q=>ta σ H fun x H1=>tb σ H1 fun y H2=>r x y H2 Q
def tUn (r:V→Hp→VK→Prop)(ta:TE):TE:=fun σ H Q=>ta σ H fun x H1=>r x H1 Q
def rI (C:Int→Int→Prop)(g:Int→Int→V):R2:=fun x y H Q=>∃i j,x=.int i∧y=.int j∧C i j∧Q (g i j) H
def rI0 (g:Int→Int→V):R2:=fun x y H Q=>∃i j,x=.int i∧y=.int j∧Q (g i j) H
def rU (g:Int→V):V→Hp→VK→Prop:=fun x H Q=>∃i,x=.int i∧Q (g i) H
section
variable {X:Cx}{a b c:Expr}{ta tb tc:TE}{pos:Pos}
theorem aq (ha:PE X a ta)(hb:PE X b tb){pins:List (Addr×Obj)}{s:Shared}{σ:St}{H:Hp}{R:V→V→Hp→Prop}(I:Inv X pins σ H s)
  (h:ta σ H fun x H1=>tb σ H1 fun y H2=>R x y H2) {Q:Value→Shared→Prop} {f:Value→Value→Sem Value}
  (hf:∀v u s2 x y H2,Inv X pins σ H2 s2→RelV x v→RelV y u→R x y H2→wpAny (model X.prog X.w) X.A (f v u) Q X.xe s2):
  wpAny (model X.prog X.w) X.A (eval a X.env) (fun v s₁=>wpAny (model X.prog X.w) X.A (eval b X.env) (fun u s₂=>wpAny (model X.prog X.w) X.A (f v u) Q X.xe s₂) X.xe s₁) X.xe s:=by
 refine thn (ha pins s σ H _ I h) fun v s1 ⟨x,H1,I1,r1,q1⟩=>?_
 refine thn (hb pins s1 σ H1 _ I1 q1) fun u s2 ⟨y,H2,I2,r2,q2⟩=>?_
 exact hf v u s2 x y H2 I2 r1 r2 q2
theorem yV {op:Operator}{r:R2}(ho:OpR X (binaryOp op) r)(ha:PE X a ta)(hb:PE X b tb):PE X (.BinOp a op b pos) (tOp r ta tb):=by
 intro pins s σ H Q I h
 exact wpAny_BinOp (aq ha hb I h fun v u s2 x y H2 I2 rx ry q=>ho pins s2 σ H2 x y v u Q I2 rx ry q)
theorem zf1 {op:UnaryOp}{r:V→Hp→VK→Prop}(ho:UnR X (unaryOp op) r)(ha:PE X a ta):PE X (.UnaryOp op a pos) (tUn r ta):=by
 intro pins s σ H Q I h
 exact UnaryOp_ (thn (ha pins s σ H _ I h) fun v s1 ⟨x,H1,I1,r1,q1⟩=>ho pins s1 σ H1 x v Q I1 r1 q1)
theorem opI {f:Value→Value→Sem Value}{C:Int→Int→Prop}{g:Int→Int→Int}
  (rule:∀(i j:Int) (t u:Tok) (s:Shared) (Q:Value→Shared→Prop) (E:Value→Shared→Prop),C i j→Q (.int (g i j) s.toks) {s with toks:=s.toks+1}→wpAny (model X.prog X.w) X.A (f (.int i t) (.int j u)) Q E s):
  OpR X f (rI C fun i j=>.int (g i j)):=by
 intro pins s σ H x y v u Q I rx ry h
 obtain⟨i,j,rfl,rfl,hc,q⟩:=h
 obtain⟨t,rfl⟩:=rx
 obtain⟨t',rfl⟩:=ry
 exact rule i j t t' s _ _ hc ⟨.int (g i j),H,I.tok _,⟨_,rfl⟩,q⟩
theorem zb2 {f:Value→Value→Sem Value}{g:Int→Int→Int}
  (rule:∀(i j:Int) (t u:Tok) (s:Shared) (Q:Value→Shared→Prop) (E:Value→Shared→Prop),Q (.int (g i j) s.toks) {s with toks:=s.toks+1}→wpAny (model X.prog X.w) X.A (f (.int i t) (.int j u)) Q E s):
  OpR X f (rI0 fun i j=>.int (g i j)):=by
 intro pins s σ H x y v u Q I rx ry h
 obtain⟨i,j,rfl,rfl,q⟩:=h
 obtain⟨t,rfl⟩:=rx
 obtain⟨t',rfl⟩:=ry
 exact rule i j t t' s _ _ ⟨.int (g i j),H,I.tok _,⟨_,rfl⟩,q⟩
theorem df {f:Value→Value→Sem Value}{g:Int→Int→Bool}
  (rule:∀(i j:Int) (t u:Tok) (s:Shared) (Q:Value→Shared→Prop) (E:Value→Shared→Prop),Q (.bool (g i j)) s→wpAny (model X.prog X.w) X.A (f (.int i t) (.int j u)) Q E s):
  OpR X f (rI0 fun i j=>.bl (g i j)):=by
 intro pins s σ H x y v u Q I rx ry h
 obtain⟨i,j,rfl,rfl,q⟩:=h
 obtain⟨t,rfl⟩:=rx
 obtain⟨t',rfl⟩:=ry
 exact rule i j t t' s _ _ ⟨.bl (g i j),H,I,rfl,q⟩
def aD (i j:Int):Prop:=0≤j∧j≤1000000∧i.natAbs<2 ^ 64
def dP (i j:Int):Prop:=(-(2 ^ 64)<i∧i<2 ^ 64)∨(-(2 ^ 64)<j∧j<2 ^ 64)
theorem dP.ok {i j:Int}(h:dP i j):IntMulOk i j:=by
 rcases h with ⟨h1,h2⟩|⟨h1,h2⟩
 ·exact .of_left (intBits_le_64 h1 h2)
 ·exact .of_right (intBits_le_64 h1 h2)
theorem sL :OpR X (binaryOp .Add) (rI0 fun i j=>.int (i+j)):=zb2 fun _ _ _ _ _ _ _ q=>add_int q
theorem gD :OpR X (binaryOp .Sub) (rI0 fun i j=>.int (i-j)):=zb2 fun _ _ _ _ _ _ _ q=>sub_int q
theorem rm :OpR X (binaryOp .Mult) (rI dP fun i j=>.int (i*j)):=opI fun _ _ _ _ _ _ _ hc q=>mul_int q hc.ok
theorem uR :OpR X (binaryOp .Mod) (rI (fun _ j=>0<j) fun i j=>.int (i % j)):=opI fun i j _ _ _ _ _ hc q=>by
 have h1:(0:Int)<j:=hc
 exact mod_int' (by omega) (by rw[Int.fmod_eq_emod_of_nonneg i (by omega)];exact q)
theorem bV :OpR X (binaryOp .Pow) (rI aD fun i j=>.int (i ^ j.toNat)):=opI fun _ _ _ _ _ _ _ hc q=>pow_int_small hc.1 hc.2.1 hc.2.2 q
theorem unI {f:Value→Sem Value}{g:Int→Int}
  (rule:∀(i:Int) (t:Tok) (s:Shared) (Q:Value→Shared→Prop) (E:Value→Shared→Prop),Q (.int (g i) s.toks) {s with toks:=s.toks+1}→wpAny (model X.prog X.w) X.A (f (.int i t)) Q E s):
  UnR X f (rU fun i=>.int (g i)):=by
 intro pins s σ H x v Q I rx h
 obtain⟨i,rfl,q⟩:=h
 obtain⟨t,rfl⟩:=rx
 exact rule i t s _ _ ⟨.int (g i),H,I.tok _,⟨_,rfl⟩,q⟩
theorem aa :UnR X (unaryOp .USub) (rU fun i=>.int (-i)):=unI fun _ _ _ _ _ q=>neg_int q
end
def aM :V→V→Bool
 |.non,.non=>true|.non,.int _=>true|.int _,.non=>true|.non,.bl _=>true|.bl _,.non=>true|.non,.str _=>true|.str _,.non=>true
 |.int _,.int _=>true|.bl _,.bl _=>true|.str _,.str _=>true|.byt _,.byt _=>true
 |.int _,.str _=>true|.str _,.int _=>true|.bl _,.str _=>true|.str _,.bl _=>true
 |_,_=>false
def rEq :R2:=fun x y H Q=>aM x y=true∧Q (.bl (decide (x=y))) H
def rNe :R2:=fun x y H Q=>aM x y=true∧Q (.bl (!decide (x=y))) H
theorem nB {i j:Int}:decide (V.int i=V.int j)=(i == j):=by
 rw[zu5]
 simp
theorem kX {i j:Bool}:decide (V.bl i=V.bl j)=(i == j):=by
 rw[zu5]
 simp
theorem mG {i j:Str}:decide (V.str i=V.str j)=(i == j):=by
 rw[zu5]
 simp
theorem ml {i j:Array UInt8}:decide (V.byt i=V.byt j)=(i.toList == j.toList):=by
 rw[zu5]
 cases i
 cases j
 simp
section
variable {X:Cx}{a b c:Expr}{ta tb tc:TE}{pos:Pos}
theorem zu {pins:List (Addr×Obj)}{σ:St}{H:Hp}{s:Shared}{Q:VK}{k k':Bool}(I:Inv X pins σ H s)(q:Q (.bl k) H)(e:k=k'):EP X pins σ Q (.bool k') s:=by
 subst e
 exact⟨.bl k,H,I,rfl,q⟩
theorem we :OpR X (compareOp .Eq) rEq:=by
 intro pins s σ H x y v u Q I rx ry h
 obtain⟨hs,q⟩:=h
 cases x with
 |non=>
  cases rx
  cases y with
  |non=>cases ry;exact PySem.EqNone.eq_none_none (zu I q (by simp))
  |bl j=>cases ry;exact PySem.EqNone.eq_none_bool (zu I q (by simp))
  |int j=>obtain⟨t',rfl⟩:=ry;exact PySem.EqNone.eq_none_int (zu I q (by simp))
  |str j=>obtain⟨t',rfl⟩:=ry;exact PySem.EqNone.eq_none_str (zu I q (by simp))
  |_=>exact absurd (show false=true from hs) zk1
 |bl i=>
  cases rx
  cases y with
  |non=>cases ry;exact PySem.EqNone.eq_bool_none (zu I q (by simp))
  |bl j=>cases ry;exact eq_bool (zu I q kX)
  |str j=>obtain⟨t',rfl⟩:=ry;exact PySem.EqMixed.eq_bool_str (zu I q (by simp))
  |_=>exact absurd (show false=true from hs) zk1
 |int i=>
  obtain⟨t,rfl⟩:=rx
  cases y with
  |non=>cases ry;exact PySem.EqNone.eq_int_none (zu I q (by simp))
  |int j=>obtain⟨t',rfl⟩:=ry;exact eq_int (zu I q nB)
  |str j=>obtain⟨t',rfl⟩:=ry;exact PySem.EqMixed.eq_int_str (zu I q (by simp))
  |_=>exact absurd (show false=true from hs) zk1
 |str i=>
  obtain⟨t,rfl⟩:=rx
  cases y with
  |non=>cases ry;exact PySem.EqNone.eq_str_none (zu I q (by simp))
  |bl j=>cases ry;exact PySem.EqMixed.eq_str_bool (zu I q (by simp))
  |int j=>obtain⟨t',rfl⟩:=ry;exact PySem.EqMixed.eq_str_int (zu I q (by simp))
  |str j=>obtain⟨t',rfl⟩:=ry;exact eq_str (zu I q mG)
  |_=>exact absurd (show false=true from hs) zk1
 |byt i=>
  obtain⟨t,rfl⟩:=rx
  cases y with
  |byt j=>obtain⟨t',rfl⟩:=ry;exact PySem.W.eq_bytes (zu I q ml)
  |_=>exact absurd (show false=true from hs) zk1
 |_=>cases y<;>exact absurd (show false=true from hs) zk1
theorem ze3 :OpR X (compareOp .NotEq) rNe:=by
 intro pins s σ H x y v u Q I rx ry h
 obtain⟨hs,q⟩:=h
 cases x with
 |non=>
  cases rx
  cases y with
  |non=>cases ry;exact PySem.EqNone.ne_none_none (zu I q (by simp))
  |bl j=>cases ry;exact PySem.EqNone.ne_none_bool (zu I q (by simp))
  |int j=>obtain⟨t',rfl⟩:=ry;exact PySem.EqNone.ne_none_int (zu I q (by simp))
  |str j=>obtain⟨t',rfl⟩:=ry;exact PySem.EqNone.ne_none_str (zu I q (by simp))
  |_=>exact absurd (show false=true from hs) zk1
 |bl i=>
  cases rx
  cases y with
  |non=>cases ry;exact PySem.EqNone.ne_bool_none (zu I q (by simp))
  |bl j=>cases ry;exact ne_bool (zu I q (congrArg not kX))
  |str j=>obtain⟨t',rfl⟩:=ry;exact PySem.EqMixed.ne_bool_str (zu I q (by simp))
  |_=>exact absurd (show false=true from hs) zk1
 |int i=>
  obtain⟨t,rfl⟩:=rx
  cases y with
  |non=>cases ry;exact PySem.EqNone.ne_int_none (zu I q (by simp))
  |int j=>obtain⟨t',rfl⟩:=ry;exact ne_int (zu I q (congrArg not nB))
  |str j=>obtain⟨t',rfl⟩:=ry;exact PySem.EqMixed.ne_int_str (zu I q (by simp))
  |_=>exact absurd (show false=true from hs) zk1
 |str i=>
  obtain⟨t,rfl⟩:=rx
  cases y with
  |non=>cases ry;exact PySem.EqNone.ne_str_none (zu I q (by simp))
  |bl j=>cases ry;exact PySem.EqMixed.ne_str_bool (zu I q (by simp))
  |int j=>obtain⟨t',rfl⟩:=ry;exact PySem.EqMixed.ne_str_int (zu I q (by simp))
  |str j=>obtain⟨t',rfl⟩:=ry;exact ne_str (zu I q (congrArg not mG))
  |_=>exact absurd (show false=true from hs) zk1
 |byt i=>
  obtain⟨t,rfl⟩:=rx
  cases y with
  |byt j=>obtain⟨t',rfl⟩:=ry;exact PySem.W.ne_bytes (zu I q (congrArg not ml))
  |_=>exact absurd (show false=true from hs) zk1
 |_=>cases y<;>exact absurd (show false=true from hs) zk1
theorem zd1 :OpR X (compareOp .Lt) (rI0 fun i j=>.bl (decide (i<j))):=df fun _ _ _ _ _ _ _ q=>lt_int q
theorem fc :OpR X (compareOp .LtE) (rI0 fun i j=>.bl (decide (i≤j))):=df fun _ _ _ _ _ _ _ q=>le_int q
theorem cy :OpR X (compareOp .Gt) (rI0 fun i j=>.bl (decide (j<i))):=df fun _ _ _ _ _ _ _ q=>gt_int q
theorem aO :OpR X (compareOp .GtE) (rI0 fun i j=>.bl (decide (j≤i))):=df fun _ _ _ _ _ _ _ q=>ge_int q
theorem lY :OpR X (compareOp .In) (fun x y H Q=>∃i j,x=.str i∧y=.str j∧Q (.bl (!(Builtin.Str.occurrences j i 0 j.length 1).isEmpty)) H):=by
 intro pins s σ H x y v u Q I rx ry h
 obtain⟨i,j,rfl,rfl,q⟩:=h
 obtain⟨t,rfl⟩:=rx
 obtain⟨t',rfl⟩:=ry
 exact in_str (zu I q rfl)
theorem pT :OpR X (compareOp .Is) (fun x y H Q=>y=.non∧Q (.bl (decide (x=.non))) H):=by
 intro pins s σ H x y v u Q I rx ry h
 obtain⟨rfl,q⟩:=h
 cases ry
 refine is_none_gen (zu I q ?_)
 cases x<;>first
  |(cases rx;rfl)
  |(obtain⟨t,rfl⟩:=rx;rfl)
theorem dq :OpR X (compareOp .IsNot) (fun x y H Q=>y=.non∧Q (.bl (!decide (x=.non))) H):=by
 intro pins s σ H x y v u Q I rx ry h
 obtain⟨rfl,q⟩:=h
 cases ry
 refine isnot_none_gen (zu I q ?_)
 cases x<;>first
  |(cases rx;rfl)
  |(obtain⟨t,rfl⟩:=rx;rfl)
theorem zC (b:Expr){op:CmpOp}(h:op≠.In:=by decide)(h2:op≠.NotIn:=by decide):behindInMarks op b=false:=by
 have e1:(op == CmpOp.In)=false:=by cases op<;>first|rfl|exact absurd rfl h
 have e2:(op == CmpOp.NotIn)=false:=by cases op<;>first|rfl|exact absurd rfl h2
 cases b<;>simp[behindInMarks,e1,e2]
theorem xy {op:CmpOp}{r:R2}(ho:OpR X (compareOp op) r)(ha:PE X a ta)(hb:PE X b tb)(hm:behindInMarks op b=false):PE X (.Compare a [op] [b] pos) (tOp r ta tb):=by
 intro pins s σ H Q I h
 exact wpAny_Compare1 (aq ha hb I h fun v u s2 x y H2 I2 rx ry q=>ho pins s2 σ H2 x y v u Q I2 rx ry q) hm
def aK (t:TE):TT:=fun σ H Q=>t σ H fun x H'=>∃k,x=.bl k∧Q k H'
theorem yh {op:CmpOp}{r:R2}(ho:OpR X (compareOp op) r)(ha:PE X a ta)(hb:PE X b tb)(hm:behindInMarks op b=false):PT X (.Compare a [op] [b] pos) (aK (tOp r ta tb)):=by
 intro pins s σ H Q I h
 refine wpAny_isTrue_Compare1 (thn (ha pins s σ H _ I h) fun v s1 ⟨x,H1,I1,r1,q1⟩=>thn (hb pins s1 σ H1 _ I1 q1) fun u s2 ⟨y,H2,I2,r2,q2⟩=>
  thn (ho pins s2 σ H2 x y v u _ I2 r1 r2 q2) fun c s3 ⟨z,H3,I3,r3,k,e,q3⟩=>?_) hm
 subst e
 cases r3
 exact zo3 ⟨H3,I3,q3⟩
def cR (r r':R2)(ta tb tc:TE):TE:=fun σ H Q=>ta σ H fun x H1=>tb σ H1 fun y H2=>r x y H2 fun z H3=>∃k,z=.bl k∧
 (if k=true then tc σ H3 fun w' H4=>r' y w' H4 Q else Q (.bl false) H3)
theorem iC {op op':CmpOp}{r r':R2}(ho:OpR X (compareOp op) r)(ho':OpR X (compareOp op') r')(ha:PE X a ta)(hb:PE X b tb)(hc:PE X c tc)
  (hm:lastMarks [op,op'] [b,c]=false:=by with_unfolding_all rfl):PE X (.Compare a [op,op'] [b,c] pos) (cR r r' ta tb tc):=by
 intro pins s σ H Q I h
 refine Compare_chain (thn (ha pins s σ H _ I h) fun v s1 ⟨x,H1,I1,r1,q1⟩=>chain_link (thn (hb pins s1 σ H1 _ I1 q1) fun u s2 ⟨y,H2,I2,r2,q2⟩=>
  thn (ho pins s2 σ H2 x y v u _ I2 r1 r2 q2) fun d s3 ⟨z,H3,I3,r3,k,e,q3⟩=>?_)) hm
 subst e
 cases r3
 refine zo3 ?_
 cases k with
 |false=>exact ite_ff ⟨.bl false,H3,I3,rfl,q3⟩
 |true=>exact ite_tt (chain_last (thn (hc pins s3 σ H3 _ I3 q3) fun w' s4 ⟨z',H4,I4,r4,q4⟩=>ho' pins s4 σ H4 y z' u w' Q I4 r2 r4 q4))
def zb8 (K:PySem.W.Frag)(x:V)(H:Hp)(k:Bool):Prop:=
 match x with
 |.non=>k=false
 |.bl b=>k=b
 |.int i=>k=(i != 0)
 |.str y=>y.length≤sizeLine∧k=((y.length:Int) != 0)
 |.byt y=>y.size≤sizeLine∧k=((y.size:Int) != 0)
 |.ref p=>(∃xs,SqL K H p xs∧k=!xs.isEmpty)∨(∃xs,SqT K H p xs∧k=!xs.isEmpty)∨∃kvs,H p=some (.dK kvs)∧k=!kvs.isEmpty
 |_=>False
theorem oK {κ:Type}{kvs:List (κ×V)}{vs:List (κ×Value)}(r:KV kvs vs):(!vs.isEmpty)=!kvs.isEmpty:=by
 cases r<;>rfl
theorem uw {xs:List V}{its:List Value}(r:Vals xs its):(!its.toArray.isEmpty)=!xs.isEmpty:=by
 cases r<;>simp
theorem wY :(sizeLine:Nat)<2 ^ 63:=by rw[zp4];decide
theorem bA :zi5 X (fun x H Q=>∃k,zb8 X.K x H k∧Q k H):=by
 intro pins s σ H x v Q I rx h
 obtain⟨k,e,q⟩:=h
 have hl:=wY
 have hs:sizeLine=16777216:=zp4
 cases x with
 |non=>
  cases rx
  have e':k=false:=e
  subst e'
  exact truthy_none ⟨H,I,q⟩
 |bl b=>
  cases rx
  have e':k=b:=e
  subst e'
  exact zo3 ⟨H,I,q⟩
 |int i=>
  obtain⟨t,rfl⟩:=rx
  have e':k=(i != 0):=e
  subst e'
  exact PySem.P.truthy_int ⟨H,I,q⟩
 |str y=>
  obtain⟨t,rfl⟩:=rx
  obtain⟨hy,e'⟩:y.length≤sizeLine∧k=((y.length:Int) != 0):=e
  subst e'
  exact PySem.P.truthy_str (by omega) ⟨H,I.tok _,q⟩
 |byt y=>
  obtain⟨t,rfl⟩:=rx
  obtain⟨hy,e'⟩:y.size≤sizeLine∧k=((y.size:Int) != 0):=e
  subst e'
  exact PySem.W.truthy_bytes (by omega) ⟨H,I.tok _,q⟩
 |ref p=>
  cases rx
  have e':(∃xs,SqL X.K H p xs∧k=!xs.isEmpty)∨(∃xs,SqT X.K H p xs∧k=!xs.isEmpty)∨∃kvs,H p=some (.dK kvs)∧k=!kvs.isEmpty:=e
  rcases e' with ⟨xs,hx,e'⟩|⟨xs,hx,e'⟩|⟨kvs,hx,e'⟩
  ·subst e'
   obtain⟨its,r,pl,hz⟩:=I.list hx
   have hlen:=r.length
   exact wpAny_truthy_list pl.isList (by simp only[zk8];omega) ⟨H,I.tok _,by rw[uw r];exact q⟩
  ·subst e'
   obtain⟨its,r,pl,hz⟩:=I.tuple hx
   have hlen:=r.length
   exact truthy_tuple pl (by simp only[zk8];omega) ⟨H,I.tok _,by rw[uw r];exact q⟩
  ·subst e'
   obtain⟨hz,hS,vs,r,m⟩:kvs.length≤sizeLine∧(p == sysModules)=false∧∃vs,KV kvs vs∧s.heap.DictOf (yE X.prog X.w) p vs:=I.hok p _ hx
   have hlen:kvs.length=vs.length:=Paired.length r
   exact wpAny_truthy_dict hS m (by omega) ⟨H,I.tok _,by rw[oK r];exact q⟩
 |_=>exact (show False from e).elim
theorem gP (ha:PE X a ta)(he:∀whole,isTrue a X.env whole=(do let v ←whole;standAt a.pos;holding [v] (truthy v))):
  PT X a (fun σ H Q=>ta σ H fun x H'=>∃k,zb8 X.K x H' k∧Q k H'):=by
 intro pins s σ H Q I h
 exact isTrue_plain (thn (ha pins s σ H _ I h) fun v s1 ⟨x,H1,I1,r1,q1⟩=>bA pins s1 σ H1 x v Q I1 r1 q1) (he _)
theorem pU :OpR X (binaryOp .Add) (fun x y H Q=>∃i j,x=.str i∧y=.str j∧i.length+j.length≤sizeLine∧Q (.str (i++j)) H):=by
 intro pins s σ H x y v u Q I rx ry h
 obtain⟨i,j,rfl,rfl,hz,q⟩:=h
 obtain⟨t,rfl⟩:=rx
 obtain⟨t',rfl⟩:=ry
 exact add_str (fun t' tk=>⟨.str (i++j),H,I.tok _,⟨_,rfl⟩,q⟩) hz
theorem vals1 {x:V}{us:List Value}(r:Vals [x] us):∃u,us=[u]∧RelV x u:=by
 cases r with
 |cons r1 r2=>cases r2;exact⟨_,rfl,r1⟩
theorem vals2 {x y:V}{us:List Value}(r:Vals [x,y] us):∃u w',us=[u,w']∧RelV x u∧RelV y w':=by
 cases r with
 |cons r1 r2=>
  cases r2 with
  |cons r3 r4=>cases r4;exact⟨_,_,rfl,r1,r3⟩
theorem lC (hc:X.calm=true):yU X (.builtin "max") (fun xs H Q=>∃i j,xs=[.int i,.int j]∧Q (.int (if j > i then j else i)) H):=by
 intro pins s σ H xs us Q I r h
 obtain⟨i,j,rfl,q⟩:=h
 obtain⟨u,w',rfl,⟨t,rfl⟩,⟨t',rfl⟩⟩:=vals2 r
 refine max_two_ints (I.ok.hd hc) fun h' tk k=>⟨_,H,I.kept k,?_,q⟩
 by_cases hj:j > i
 ·rw[if_pos hj,if_pos hj];exact⟨_,rfl⟩
 ·rw[if_neg hj,if_neg hj];exact⟨_,rfl⟩
theorem lg (hc:X.calm=true):yU X (.builtin "min") (fun xs H Q=>∃i j,xs=[.int i,.int j]∧Q (.int (if j<i then j else i)) H):=by
 intro pins s σ H xs us Q I r h
 obtain⟨i,j,rfl,q⟩:=h
 obtain⟨u,w',rfl,⟨t,rfl⟩,⟨t',rfl⟩⟩:=vals2 r
 refine min_two_ints (I.ok.hd hc) fun h' tk k=>⟨_,H,I.kept k,?_,q⟩
 by_cases hj:j<i
 ·rw[if_pos hj,if_pos hj];exact⟨_,rfl⟩
 ·rw[if_neg hj,if_neg hj];exact⟨_,rfl⟩
theorem sW :yU X (.type "str") (fun xs H Q=>∃i,xs=[.int i]∧i.natAbs.log2<1920∧Q (.str (toString i)) H):=by
 intro pins s σ H xs us Q I r h
 obtain⟨i,rfl,hz,q⟩:=h
 obtain⟨u,rfl,t,rfl⟩:=vals1 r
 exact PySem.P.str_of_int hz ⟨.str _,H,I.tok _,⟨_,rfl⟩,q⟩
def zf7 (K:PySem.W.Frag)(x:V)(H:Hp)(n:Nat):Prop:=
 match x with
 |.str y=>y.length≤sizeLine∧n=y.length
 |.byt y=>y.size≤sizeLine∧n=y.size
 |.ref p=>(∃xs,SqL K H p xs∧n=xs.length)∨∃xs,SqT K H p xs∧n=xs.length
 |_=>False
theorem iu :yU X (.builtin "len") (fun xs H Q=>∃x n,xs=[x]∧zf7 X.K x H n∧Q (.int n) H):=by
 intro pins s σ H xs us Q I r h
 obtain⟨x,n,rfl,e,q⟩:=h
 obtain⟨u,rfl,rx⟩:=vals1 r
 have hl:=wY
 have hs:sizeLine=16777216:=zp4
 cases x with
 |str y=>
  obtain⟨t,rfl⟩:=rx
  obtain⟨hy,e'⟩:y.length≤sizeLine∧n=y.length:=e
  subst e'
  exact len_str (by omega) ⟨.int _,H,I.tok _,⟨_,rfl⟩,q⟩
 |byt y=>
  obtain⟨t,rfl⟩:=rx
  obtain⟨hy,e'⟩:y.size≤sizeLine∧n=y.size:=e
  subst e'
  exact PySem.W.len_bytes (by omega) ⟨.int _,H,I.tok _,⟨_,rfl⟩,q⟩
 |ref p=>
  cases rx
  have e':(∃xs,SqL X.K H p xs∧n=xs.length)∨∃xs,SqT X.K H p xs∧n=xs.length:=e
  rcases e' with ⟨xs,hx,e'⟩|⟨xs,hx,e'⟩
  ·subst e'
   obtain⟨its,r',pl,hz⟩:=I.list hx
   have hlen:=r'.length
   exact Calls.call_len_list pl.isList (by simp only[zk8];omega) ⟨.int xs.length,H,I.tok _,⟨_,by simp only[zk8];rw[hlen]⟩,q⟩
  ·subst e'
   obtain⟨its,r',pl,hz⟩:=I.tuple hx
   have hlen:=r'.length
   exact len_tuple pl (by simp only[zk8];omega) ⟨.int xs.length,H,I.tok _,⟨_,by simp only[zk8];rw[hlen]⟩,q⟩
 |_=>exact (show False from e).elim
end
structure nv (h:Heap)(x dx C:Addr)(mA:Str→Option Value):Prop where
 obj:h.get? x=some (PySem.W.instObj C dx)
 ns:h.Ns1 dx mA
 ne:dx≠x
theorem sv {h:Heap}{dx:Addr}{mA:Str→Option Value}(n:h.Ns1 dx mA):∃od,h.get? dx=some od∧∀name,PySem.W.lookIn name od=some (mA name):=by
 obtain⟨o,es,ep,ho,hd,hk,_,hm⟩:=n
 refine⟨o,ho,fun name=>?_⟩
 have e:=hm name
 unfold nsFind findBy at e
 rw[←Array.find?_toList] at e
 unfold PySem.W.lookIn
 rw[hd]
 dsimp only
 split
 ·rename_i y q
  rw[q] at e
  exact congrArg some e
 ·rename_i q
  rw[q] at e
  have a:es.toList.any (·.refKey)=false:=by
   rw[List.any_eq_false]
   intro y hy
   obtain⟨z,t,hkey⟩:=hk y (zs4.mp hy)
   simp[DictEntry.refKey,hkey]
  have a':¬es.toList.any (·.refKey)=true:=by rw[a];exact zk1
  rw[if_neg a']
  exact congrArg some e
theorem nv.look {h:Heap}{x dx C:Addr}{mA:Str→Option Value}(I:nv h x dx C mA):∃od,PySem.W.InstAt h x (PySem.W.instObj C dx) C (some od)∧∀name,PySem.W.lookIn name od=some (mA name):=
 let ⟨od,ho,hl⟩:=sv I.ns
 ⟨od,⟨I.obj,rfl,rfl,ho⟩,hl⟩
section
variable {prog:Program}{w:World}{A:Around}{E:Value→Shared→Prop}{s:Shared}{K:PySem.W.Frag}{x dx C f:Addr}{mA:Str→Option Value}{name:Str}{v:Value}
theorem get_map {expr:Bool}{Q:Value→Shared→Prop}(X:K.In s.heap)(I:nv s.heap x dx C mA)(hg:PySem.W.plainGet K C name=true)(hh:PySem.W.hasDictIn K C=true)
  (ha:PySem.W.findIn K (.ref C) name=some none) (hv:mA name=some v) (hv':PySem.W.handedIn v=true) (h:Q v {s with toks:=s.toks+1}):
  wpAny (model prog w) A (getAttr (.ref x) name expr) Q E s:=by
 obtain⟨od,J,hl⟩:=I.look
 exact PySem.W.get_value X J (zv4 hg).1 (PySem.W.findObj_own hh ha rfl (by rw[hl,hv])) hv' h
theorem iM {pl:Sem Bool}{Q:Value×List Value→Shared→Prop}(X:K.In s.heap)(I:nv s.heap x dx C mA)(hg:PySem.W.plainGet K C name=true)
  (hf:PySem.W.findIn K (.ref C) name=some (some (.ref f))) (ht:PySem.W.isFn K (.ref f)=true) (hv:mA name=none) (h:Q (.ref f,[.ref x]) s):
  wpAny (model prog w) A (getMethod (.ref x) name pl) Q E s:=by
 obtain⟨od,J,hl⟩:=I.look
 exact PySem.W.method_fn X J (zv4 hg).1 (zv4 hg).2 hf (zp5.mp ht) (by show (PySem.W.lookIn name od).map (·.isSome)=some false;rw[hl,hv];rfl) h
theorem dQ {ns:List Str}{Q:Unit→Shared→Prop}(X:K.In s.heap)(I:nv s.heap x dx C mA)
  (hs:PySem.W.findIn K (.ref C) "__setattr__"=some (some (.builtin "object.__setattr__"))) (hp:PySem.W.plainOver K C=true) (ht:PySem.W.takerIn K C name=some none) (hh:PySem.W.hasDictIn K C=true)
  (hw:PySem.Within mA ns) (hsz:ns.length≤sizeLine)
  (h:∀h',nv h' x dx C (fun y=>if y=name then some v else mA y)→Heap.SameBut dx s.heap h'→Q () {s with heap:=h',toks:=s.toks+2}):
  wpAny (model prog w) A (setAttr (.ref x) name v) Q E s:=by
 obtain⟨od,J,hl⟩:=I.look
 refine PySem.W.set_plain X J hs (PySem.W.osa_open (s:={s with toks:=s.toks+1}) (r:=none) X J hp ht fun b=>?_)
 obtain⟨cd,hc,hd'⟩:=PySem.W.any_some hh
 have hx:s.heap.get? x=some ⟨.ref C,some dx,.plain,#[]⟩:=I.obj
 refine zj2 (zk4 (zj2 (zj2 (wpAny_loadPart hx (zj2 (PySem.W.Looks.here (s:={s with toks:=s.toks+1}) (PySem.W.looks_clsIn X hc) ?_))))))
 rw[hd']
 refine zk4 (a:=some dx) (zj2 (zk4 (zj2 ?_)))
 refine wpAny_nsSet1 (s:={s with toks:=s.toks+1}) I.ns fun h' hn2 hs2=>?_
 obtain⟨oD,esD,epD,hoD,hdD,hcD⟩:=hn2.count (PySem.Within.cons name v hw)
 refine zj2 (wpAny_lookBehind hoD (by rw[hdD];exact pastItsLine_dict (zl2 hcD (by rw[zk5];omega))) ?_)
 exact zk4 (h _ ⟨(hs2.2 _ (zr9 I.ne)).trans I.obj,hn2,I.ne⟩ hs2)
theorem qP {R:Result→Shared→Prop}{vs:List Value}{kw:List (Str×Value)}(X:K.In s.heap)(hm:PySem.W.makesIn K C=true)
  (hi:PySem.W.findIn K (.ref C) "__init__"=some (some (.ref f))) (hf:PySem.W.typeIn K (.ref f)=some (.type "function"))
  (h:codeAny (model prog w) (A.under (.builtin "type.__call__" ⟨.ref C::vs,kw⟩)) (.call (.ref f) ⟨.ref (s.heap.objs.size+1)::vs,kw⟩) (PySem.W.InitBack (s.heap.objs.size+1) R)
   {s with heap:=(s.heap.push PySem.W.emptyDict).push (PySem.W.instObj C s.heap.objs.size)}):
  codeAny (model prog w) A (.call (.ref C) ⟨vs,kw⟩) R s:=by
 obtain⟨hh,g,d,t,os⟩:=s
 exact PySem.W.make_core (PySem.W.makes_of X hm) (PySem.W.looks_findIn X hi) (fun self=>PySem.W.bind_fn X self hf) (.inl rfl) h
end
def xp (f:Str)(v:V):List (Str×V)→List (Str×V)
 |[]=>[(f,v)]
 |(g,x)::r=>if g=f then (g,v)::r else (g,x)::xp f v r
theorem zJ (f g:Str)(v:V):∀fs:List (Str×V),(xp f v fs).lookup g=if g=f then some v else fs.lookup g
 |[]=>by
  show List.lookup g [(f,v)]=_
  by_cases h:g=f
  ·have hb:(g == f)=true:=zp5.mpr h
   simp only[List.lookup,hb,if_pos h]
  ·have hb:(g == f)=false:=zs8.mpr h
   simp only[List.lookup,hb,if_neg h]
 |(k,x)::r=>by
  have ih:=zJ f g v r
  rw[show xp f v ((k,x)::r)=(if k=f then (k,v)::r else (k,x)::xp f v r) from rfl]
  by_cases hk:k=f
  ·rw[if_pos hk]
   by_cases h:g=k
   ·have hb:(g == k)=true:=zp5.mpr h
    simp only[List.lookup,hb,if_pos (h.trans hk)]
   ·have hb:(g == k)=false:=zs8.mpr h
    simp only[List.lookup,hb,if_neg (fun e:g=f=>h (e.trans hk.symm))]
  ·rw[if_neg hk]
   by_cases h:g=k
   ·have hb:(g == k)=true:=zp5.mpr h
    simp only[List.lookup,hb,if_neg (fun e:g=f=>hk (h.symm.trans e))]
   ·have hb:(g == k)=false:=zs8.mpr h
    simp only[List.lookup,hb]
    exact ih
theorem vI (f:Str)(v:V):∀fs:List (Str×V),f∈(xp f v fs).map (·.1)∧∀g,g∈fs.map (·.1)→g∈(xp f v fs).map (·.1)
 |[]=>⟨by simp[xp],fun g h=>by simp at h⟩
 |(k,x)::r=>by
  obtain⟨i1,i2⟩:=vI f v r
  rw[show xp f v ((k,x)::r)=(if k=f then (k,v)::r else (k,x)::xp f v r) from rfl]
  by_cases hk:k=f
  ·rw[if_pos hk]
   subst hk
   exact⟨by simp,fun g h=>by simpa using h⟩
  ·rw[if_neg hk]
   refine⟨?_,fun g h=>?_⟩
   ·rw[zm8]
    exact zj7 _ i1
   ·rw[zm8] at h ⊢
    rcases zj5.mp h with e|e
    ·exact zj5.mpr (.inl e)
    ·exact zj7 _ (i2 g e)
theorem vV (f:Str)(v:V):∀fs:List (Str×V),(xp f v fs).length≤fs.length+1
 |[]=>by simp[xp]
 |(k,x)::r=>by
  have ih:=vV f v r
  rw[show xp f v ((k,x)::r)=(if k=f then (k,v)::r else (k,x)::xp f v r) from rfl]
  by_cases hk:k=f
  ·rw[if_pos hk,zk5,zk5];omega
  ·rw[if_neg hk,zk5,zk5];omega
theorem wU.some_of {v:V}{o:Option Value}(r:wU (some v) o):∃u,o=some u∧RelV v u:=by
 cases o with
 |none=>exact (show False from r).elim
 |some u=>exact⟨u,rfl,r⟩
theorem wU.none_of {o:Option Value}(r:wU none o):o=none:=by
 cases o with
 |none=>rfl
 |some u=>exact (show False from r).elim
theorem tX {v:V}{u:Value}(r:RelV v u):PySem.W.handedIn u=true:=by
 cases v with
 |non=>cases (show u=Value.none from r);rfl
 |bl b=>cases (show u=Value.bool b from r);rfl
 |int i=>obtain⟨t,e⟩:=(show ∃t,u=Value.int i t from r);cases e;rfl
 |str x=>obtain⟨t,e⟩:=(show ∃t,u=Value.str x t from r);cases e;rfl
 |byt b=>obtain⟨t,e⟩:=(show ∃t,u=Value.bytes b t from r);cases e;rfl
 |flt b=>obtain⟨t,e⟩:=(show ∃t,u=Value.float b t from r);cases e;rfl
 |ref a=>cases (show u=Value.ref a from r);rfl
 |ty n=>cases (show u=Value.type n from r);rfl
section
variable {P:Program}{w:World}{H H':Hp}{h h':Heap}{a C dx:Addr}{fs fs':List (Str×V)}
theorem uc (hok:HOk P w H h)(e:H a=some (.ins C dx fs)):∃mA,nv h a dx C mA∧(∀f,wU (fs.lookup f) (mA f))∧PySem.Within mA (fs.map (·.1))∧fs.length≤1000∧H dx=some (.own a):=by
 obtain⟨d,z,ne,ob,mA,n,r,q⟩:=(show zY P w H h a (.ins C dx fs) from hok a _ e)
 exact⟨mA,⟨ob,n,ne⟩,r,q,z,d⟩
end
structure Cls (K:PySem.W.Frag)(C:Addr):Prop where
 pg:PySem.W.plainGet K C Str.empty=true
 hd:PySem.W.hasDictIn K C=true
 po:PySem.W.plainOver K C=true
 sa:PySem.W.findIn K (.ref C) "__setattr__"=some (some (.builtin "object.__setattr__"))
theorem Cls.get {K:PySem.W.Frag}{C:Addr}(c:Cls K C)(f:Str):PySem.W.plainGet K C f=true:=c.pg
def yH (K:PySem.W.Frag)(C:Addr)(f:Str):Prop:=PySem.W.findIn K (.ref C) f=some none
theorem yH.taker {K:PySem.W.Frag}{C:Addr}{f:Str}(n:yH K C f):PySem.W.takerIn K C f=some none:=by
 unfold PySem.W.takerIn
 rw[show PySem.W.findIn K (.ref C) f=some none from n]
 rfl
structure Meth (K:PySem.W.Frag)(C:Addr)(m:Str)(f:Addr):Prop where
 at_:PySem.W.findIn K (.ref C) m=some (some (.ref f))
 fn:PySem.W.isFn K (.ref f)=true
 kp:PySem.W.keepIn K (.ref f)=true
section
variable {X:Cx}{pins:List (Addr×Obj)}{σ:St}{H:Hp}{s:Shared}{a C dx:Addr}{fs:List (Str×V)}{f:Str}{v:V}{A:Around}{E:Value→Shared→Prop}
theorem ng {b:Bool}{Q:Value→Shared→Prop}(I:Inv X pins σ H s)(e:H a=some (.ins C dx fs))(c:Cls X.K C)(n:yH X.K C f)(l:fs.lookup f=some v)
  (h:∀u s',Inv X pins σ H s'→RelV v u→Q u s'):wpAny (model X.prog X.w) A (getAttr (.ref a) f b) Q E s:=by
 obtain⟨mA,O,r,_,_,_⟩:=uc I.hok e
 obtain⟨u,hu,ru⟩:=wU.some_of (v:=v) (o:=mA f) (by rw[←l];exact r f)
 exact get_map I.kIn O (c.get f) c.hd n hu (tX ru) (h u _ (I.tok _) ru)
theorem vb {m:Str}{g:Addr}{pl:Sem Bool}{Q:Value×List Value→Shared→Prop}(I:Inv X pins σ H s)(e:H a=some (.ins C dx fs))(c:Cls X.K C)(k:Meth X.K C m g)(l:fs.lookup m=none)
  (h:Q (.ref g,[.ref a]) s):wpAny (model X.prog X.w) A (getMethod (.ref a) m pl) Q E s:=by
 obtain⟨mA,O,r,_,_,_⟩:=uc I.hok e
 have hn:mA m=none:=wU.none_of (by rw[←l];exact r m)
 exact iM I.kIn O (c.get m) k.at_ k.fn hn h
theorem nr {y:V}{u:Value}{Q:Unit→Shared→Prop}(I:Inv X pins σ H s)(e:H a=some (.ins C dx fs))(c:Cls X.K C)(n:yH X.K C f)(hl:fs.length<1000)(ry:RelV y u)
  (h:∀s',Inv X pins σ (upd H a (.ins C dx (xp f y fs))) s'→Q () s'):wpAny (model X.prog X.w) A (setAttr (.ref a) f u) Q E s:=by
 obtain⟨mA,O,r,wi,_,ho⟩:=uc I.hok e
 have hz:(fs.map (·.1)).length≤sizeLine:=by rw[zj1,zp4];omega
 refine dQ I.kIn O c.sa c.po n.taker c.hd wi hz fun h' O' sb=>h _ ?_
 have hd:∃o,h'.get? dx=some o:=let ⟨o,_,_,e',_⟩:=O'.ns;⟨o,e'⟩
 refine I.write (x:=a) (e:=dx) (by rw[e];exact True.intro) (.inr ho) (fun b q hb z=>(sb.2 b hb).trans z) hd ?_
 refine⟨by rw[zg O.ne];exact ho,?_,O.ne,O'.obj,_,O'.ns,fun g=>?_,fun g hg=>?_⟩
 ·have:=vV f y fs;omega
 ·show wU ((xp f y fs).lookup g) (if g=f then some u else mA g)
  rw[zJ]
  by_cases q:g=f
  ·rw[if_pos q,if_pos q];exact ry
  ·rw[if_neg q,if_neg q];exact r g
 ·by_cases q:g=f
  ·rw[q];exact (vI f y fs).1
  ·refine (vI f y fs).2 g (wi g fun z=>hg ?_)
   show (if g=f then some u else mA g)=none
   rw[if_neg q];exact z
theorem Inv.made (I:Inv X pins σ H s):Inv X pins σ (upd (upd H s.heap.objs.size (.own (s.heap.objs.size+1))) (s.heap.objs.size+1) (.ins C s.heap.objs.size []))
  {s with heap:=(s.heap.push PySem.W.emptyDict).push (PySem.W.instObj C s.heap.objs.size)}:=by
 have e1:(s.heap.push PySem.W.emptyDict).get? s.heap.objs.size=some PySem.W.emptyDict:=zm7 s.heap rfl
 have e2:((s.heap.push PySem.W.emptyDict).push (PySem.W.instObj C s.heap.objs.size)).get? (s.heap.objs.size+1)=some (PySem.W.instObj C s.heap.objs.size):=by
  have:=zm7 (s.heap.push PySem.W.emptyDict) (o:=PySem.W.instObj C s.heap.objs.size) rfl
  rwa [Heap.size_push] at this
 have e3:(s.heap.push PySem.W.emptyDict).Ns s.heap.objs.size (fun _=>none):=⟨PySem.W.emptyDict,#[],_,e1,rfl,(fun e he=>absurd he (by simp)),fun _=>rfl⟩
 have I1:=I.laid (a:=s.heap.objs.size) (o:=.own (s.heap.objs.size+1)) (h':=s.heap.push PySem.W.emptyDict) (t':=s.toks) (fun b u q=>zj3 _ q) (zj8 _) ⟨_,e1⟩
 refine I1.laid (a:=s.heap.objs.size+1) (o:=.ins C s.heap.objs.size []) (t':=s.toks) (fun b u q=>zj3 _ q) (Nat.le_of_eq (Heap.size_push _ _)) ?_
 have ne:s.heap.objs.size≠s.heap.objs.size+1:=zl8 (zs5 _)
 refine⟨by rw[zg ne,zj],zm1 _,ne,e2,fun _=>none,(Heap.Ns1.of_empty e3).at fun o q=>zj3 _ q,fun _=>True.intro,fun y hy=>absurd rfl hy⟩
theorem mq {prog:Program}{w:World}{env:Env}{e:Expr}{f:Str}{pos:Pos}{s:Shared}{Q:Value→Shared→Prop}(hb:attributeBase e f env (eval e env)=eval e env)
  (h:wpAny (model prog w) A (eval e env) (fun o s₁=>wpAny (model prog w) A (getAttr o f true) Q E s₁) E s):wpAny (model prog w) A (eval (.Attribute e f pos) env) Q E s:=
 Attribute_any_ h (by rw[arm_eval_Attribute,hb])
end
def zh6 (K:PySem.W.Frag)(ta:TE)(f:Str):TE:=fun σ H Q=>ta σ H fun x H1=>∃a C dx fs v,x=.ref a∧H1 a=some (.ins C dx fs)∧Cls K C∧yH K C f∧fs.lookup f=some v∧Q v H1
def zg4 (K:PySem.W.Frag)(ta tv:TE)(f:Str):TS:=fun D σ H=>tv σ H fun y H1=>ta σ H1 fun x H2=>∃a C dx fs,x=.ref a∧H2 a=some (.ins C dx fs)∧Cls K C∧yH K C f∧fs.length<1000∧
 D.nx σ (upd H2 a (.ins C dx (xp f y fs)))
section
variable {X:Cx}{o e value:Expr}{f:Str}{pos pos' tpos:Pos}{ta tv:TE}
theorem sV (he:PE X e ta)(hb:attributeBase e f X.env (eval e X.env)=eval e X.env):PE X (.Attribute e f pos) (zh6 X.K ta f):=by
 intro pins s σ H Q I h
 refine mq hb (thn (he pins s σ H _ I h) fun u s1 ⟨x,H1,I1,rx,a,C,dx,fs,v,ex,ea,c,n,l,q⟩=>?_)
 subst ex
 obtain rfl:u=Value.ref a:=rx
 exact ng I1 ea c n l fun u' s2 I2 ru=>⟨v,H1,I2,ru,q⟩
theorem uZ (ha:PE X o ta)(hv:PE X value tv)(hs:swapsWith value (some (.Attribute o f pos')) pos.line X.env=pure false):PS X (.Assign [.Attribute o f pos'] value pos) (zg4 X.K ta tv f):=by
 intro pins s σ H D I h
 refine plainObj_wpAny_Assign_Attribute (thn (hv pins s σ H _ I h) fun u s1 ⟨y,H1,I1,ry,q⟩=>thn (ha pins s1 σ H1 _ I1 q) fun ov s2 ⟨x,H2,I2,rx,a,C,dx,fs,ex,ea,c,n,l,q2⟩=>?_) hs
 subst ex
 obtain rfl:ov=Value.ref a:=rx
 exact nr I2 ea c n l ry fun s3 I3=>⟨σ,_,I3,q2⟩
theorem dY {pl:Sem Bool}{m:Str}{apos:Pos}{args:List Expr}{pins:List (Addr×Obj)}{s:Shared}{σ:St}{H:Hp}{Q:Value→Shared→Prop}{te:TE}(he:PE X e te)(I:Inv X pins σ H s)
  (h:te σ H fun x H1=>∃a C dx fs g,x=.ref a∧H1 a=some (.ins C dx fs)∧Cls X.K C∧Meth X.K C m g∧fs.lookup m=none∧
   ∀s1,Inv X pins σ H1 s1→wpAny (model X.prog X.w) X.A (callWith pos (.ref g) [.ref a] (backTo pos (starEach args X.env)) (backToKw pos (keywordEach [] X.env))) Q X.xe s1)
  (ht:eval (.Call (.Attribute e m apos) args [] pos) X.env=(do
   let ov ←eval e X.env
   standAt apos.atName
   let (f,first) ←holding [ov] (getMethod ov m pl)
   callWith pos f first (backTo pos (starEach args X.env)) (backToKw pos (keywordEach [] X.env)))):
  wpAny (model X.prog X.w) X.A (eval (.Call (.Attribute e m apos) args [] pos) X.env) Q X.xe s:=by
 refine zs0 (pl:=pl) (thn (he pins s σ H _ I h) fun u s1 ⟨x,H1,I1,rx,a,C,dx,fs,g,ex,ea,c,k,l,q⟩=>?_) ht
 subst ex
 obtain rfl:u=Value.ref a:=rx
 exact vb I1 ea c k l (q s1 I1)
end
section
variable {X:Cx}{pins:List (Addr×Obj)}{σ:St}{H:Hp}{s:Shared}{A:Around}{E:Value→Shared→Prop}{Q:Value→Shared→Prop}{c:Value}{b:Bool}
inductive vo (K:PySem.W.Frag)(H:Hp):V→Value→Prop where
 |non:vo K H .non (.type "NoneType")
 |bl (x:Bool):vo K H (.bl x) (.type "bool")
 |int (i:Int):vo K H (.int i) (.type "int")
 |str (x:Str):vo K H (.str x) (.type "str")
 |flt (x:UInt64):vo K H (.flt x) (.type "float")
 |lst {a:Addr} {xs:List V} (e:H a=some (.lst xs)):vo K H (.ref a) (.type "list")
 |frz {a:Addr} {o:Obj} {xs:List V} (e:H a=some (.frz o (.lst xs))):vo K H (.ref a) (.type "list")
 |tup {a:Addr} {xs:List V} (e:H a=some (.tup xs)):vo K H (.ref a) (.type "tuple")
 |dK {a:Addr} {kvs:List (Key×V)} (e:H a=some (.dK kvs)):vo K H (.ref a) (.type "dict")
 |dT {a:Addr} {kvs:List (List Key×V)} (e:H a=some (.dT kvs)):vo K H (.ref a) (.type "dict")
 |ins {a C dx:Addr} {fs:List (Str×V)} (e:H a=some (.ins C dx fs)) (cl:Cls K C) (ha:PySem.W.findIn K (.ref C) "__class__"=some (some (.builtin "object.__class__")))
   (hn:PySem.W.specialIn K (.builtin "object.__class__") "__get__"=some (some (.builtin "getset_descriptor.__get__"))) (htk:PySem.W.takesIn K (.builtin "object.__class__")=some true)
   (hm:PySem.W.mroIn K C (.type "object")=some true):vo K H (.ref a) (.ref C)
theorem lh {x:V}{u t:Value}(I:Inv X pins σ H s)(rx:RelV x u)(ty:vo X.K H x t)(e:PySem.W.kitOne X.K t c=some b)(h:∀tk,Q (.bool b) {s with toks:=tk}):
  wpAny (model X.prog X.w) A (call (.builtin "isinstance") [u,c]) Q E s:=by
 cases ty with
 |non=>cases (show u=Value.none from rx);exact zn4 PySem.W.kitx_none I.kIn True.intro e (fun z=>nomatch z) h
 |bl y=>cases (show u=Value.bool y from rx);exact zn4 PySem.W.kitx_bool I.kIn True.intro e (fun z=>nomatch z) h
 |int i=>obtain⟨t,q⟩:=(show ∃t,u=Value.int i t from rx);cases q;exact zn4 PySem.W.kitx_int I.kIn True.intro e (fun z=>nomatch z) h
 |str y=>obtain⟨t,q⟩:=(show ∃t,u=Value.str y t from rx);cases q;exact zn4 PySem.W.kitx_str I.kIn True.intro e (fun z=>nomatch z) h
 |flt y=>obtain⟨t,q⟩:=(show ∃t,u=Value.float y t from rx);cases q;exact zn4 PySem.W.kitx_float I.kIn True.intro e (fun z=>nomatch z) h
 |@lst a xs ea=>
  cases (show u=Value.ref a from rx)
  obtain⟨_,_,n,_,h1⟩:=(show zY X.prog X.w H s.heap a (.lst xs) from I.hok a _ ea)
  exact zn4 PySem.W.kitx_list I.kIn ⟨_,h1,rfl⟩ e (fun z=>nomatch z) h
 |@frz a ob xs ea=>
  cases (show u=Value.ref a from rx)
  obtain⟨_,_,_,n,_,h1⟩:=(show zY X.prog X.w H s.heap a (.frz ob (.lst xs)) from I.hok a _ ea)
  exact zn4 PySem.W.kitx_list I.kIn ⟨_,h1,rfl⟩ e (fun z=>nomatch z) h
 |@tup a xs ea=>
  cases (show u=Value.ref a from rx)
  obtain⟨_,_,_,p⟩:=(show zY X.prog X.w H s.heap a (.tup xs) from I.hok a _ ea)
  obtain⟨o,h1,h2,_⟩:=p
  exact zn4 PySem.W.kitx_tuple I.kIn ⟨o,h1,h2⟩ e (fun z=>nomatch z) h
 |@dK a kvs ea=>
  cases (show u=Value.ref a from rx)
  obtain⟨_,_,vs,_,p⟩:=(show zY X.prog X.w H s.heap a (.dK kvs) from I.hok a _ ea)
  obtain⟨o,es,ep,h1,h2,_⟩:=p
  exact zn4 PySem.W.kitx_dict I.kIn ⟨o,h1,h2.1⟩ e (fun z=>nomatch z) h
 |@dT a kvs ea=>
  cases (show u=Value.ref a from rx)
  obtain⟨_,_,xs,_,o,es,ep,h1,h2,_⟩:=(show zY X.prog X.w H s.heap a (.dT kvs) from I.hok a _ ea)
  exact zn4 PySem.W.kitx_dict I.kIn ⟨o,h1,h2.1⟩ e (fun z=>nomatch z) h
 |@ins a C dx fs ea cl ha hn htk hm=>
  cases (show u=Value.ref a from rx)
  obtain⟨mA,O,_⟩:=uc I.hok ea
  obtain⟨od,J,_⟩:=O.look
  exact zn4 (PySem.W.kitx_own (cl.get _) cl.hd ha hn htk hm) I.kIn J e (fun z=>nomatch z) h
end
structure zG (k:Nat)(A:Around):Prop where
 hd:A.handled=none
 dp:A.depth+3*k+5<recursionLimit
 un:A.units+16*k+200<cLine
 gd:A.guards=some []
theorem zG.mono {j k:Nat}{A:Around}(r:zG k A)(h:j≤k):zG j A:=⟨r.hd,by have:=r.dp;omega,by have:=r.un;omega,r.gd⟩
theorem zG.deeper {k:Nat}{A:Around}(r:zG (k+1) A)(env:Env):zG k (A.deeper env):=
 ⟨r.hd,by have:=r.dp;show A.depth+1+3*k+5<_;omega,by have:=r.un;show A.units+3+16*k+200<_;omega,r.gd⟩
theorem pR {A:Around}{C:Addr}{us:List Value}{kw:List (Str×Value)}:(A.under (.builtin "type.__call__" ⟨.ref C::us,kw⟩)).depth=A.depth+1:=by
 first|rfl|simp[Around.under,Code.weight,Code.isCreation,Code.isGuard,Code.isCaller,Code.frames,Code.isFrame,guardIds]
theorem om {A:Around}{C:Addr}{us:List Value}{kw:List (Str×Value)}:(A.under (.builtin "type.__call__" ⟨.ref C::us,kw⟩)).units=A.units+1:=by
 first|rfl|simp[Around.under,Code.cUnits,Code.frames,Code.isFrame]
theorem qg {A:Around}{C:Addr}{us:List Value}{kw:List (Str×Value)}:(A.under (.builtin "type.__call__" ⟨.ref C::us,kw⟩)).guards=A.guards:=by
 first|rfl|simp[Around.under,Code.guards,Code.isGuard,guardIds,pushGuards]
theorem zG.make {k:Nat}{A:Around}(r:zG (k+1) A)(C:Addr)(us:List Value)(kw:List (Str×Value)):zG k (A.under (.builtin "type.__call__" ⟨.ref C::us,kw⟩)):=
 ⟨r.hd,by have:=r.dp;rw[pR];omega,by have:=r.un;rw[om];omega,(qg (A:=A)).trans r.gd⟩
theorem zG.depth {k:Nat}{A:Around}(r:zG k A):A.depth<recursionLimit:=by have:=r.dp;omega
theorem zG.units {k:Nat}{A:Around}(r:zG k A):A.units+64<cLine:=by have:=r.un;omega
def zc6 :TA:=fun _ H Q=>Q [] H
def aZ (ta:TE)(tr:TA):TA:=fun σ H Q=>ta σ H fun x H1=>tr σ H1 fun xs H2=>Q (x::xs) H2
section
variable {X:Cx}{e:Expr}{es:List Expr}{te:TE}{t:TA}{pos:Pos}
theorem zm :PA X [] zc6:=fun _ _ _ _ H Q I h=>Calls.spliced_nil ⟨[],H,I,.nil,h⟩
theorem zc (ha:PE X e te)(hr:PA X es t)(hs:starEach (e::es) X.env=(false,eval e X.env)::starEach es X.env:=by rfl):PA X (e::es) (aZ te t):=by
 intro pos pins s σ H Q I h
 rw[hs]
 show wpAny _ _ (spliced ((false,eval e X.env)::backTo pos (starEach es X.env))) _ _ s
 refine Calls.spliced_cons (thn (ha pins s σ H _ I h) fun u s1 ⟨x,H1,I1,r1,q1⟩=>?_)
 exact thn (hr pos pins s1 σ H1 _ I1 q1) fun us s2 ⟨xs,H2,I2,r2,q2⟩=>⟨x::xs,H2,I2,.cons r1 r2,q2⟩
def zh0 (t:TA):TE:=fun σ H Q=>t σ H fun xs H1=>xs.length≤sizeLine∧∀p,H1 p=none→Q (.ref p) (upd H1 p (.tup xs))
def zh7 (t:TA):TE:=fun σ H Q=>t σ H fun xs H1=>xs.length≤sizeLine∧∀p,H1 p=none→Q (.ref p) (upd H1 p (.lst xs))
theorem oM {x1}(h:PA X es t):PE X (.Tuple es x1 pos) (zh0 t):=by
 intro pins s σ H Q I hq
 refine wpAny_Tuple_spliced (thn (h pos pins s σ H _ I hq) fun us s1 ⟨xs,H1,I1,r,z,q⟩=>⟨by rw[←r.length];exact z,?_⟩)
 have hf:H1 s1.heap.objs.size=none:=I1.hok.fresh (zj8 _)
 refine⟨.ref s1.heap.objs.size,upd H1 s1.heap.objs.size (.tup xs),I1.laid (t':=s1.toks) (fun b u e=>zj3 _ e) (zj8 _) ?_,rfl,q _ hf⟩
 exact⟨z,us,r,⟨_,zm7 _ rfl,rfl,_,rfl⟩⟩
theorem aA (h:PA X es t):PE X (.List es pos) (zh7 t):=by
 intro pins s σ H Q I hq
 refine wpAny_List_spliced (thn (h pos pins s σ H _ I hq) fun us s1 ⟨xs,H1,I1,r,z,q⟩=>⟨by rw[←r.length];exact z,?_⟩)
 have hf:H1 s1.heap.objs.size=none:=I1.hok.fresh (zj8 _)
 refine⟨.ref s1.heap.objs.size,upd H1 s1.heap.objs.size (.lst xs),I1.laid (t':=s1.toks) (fun b u e=>zj3 _ e) (zj8 _) ?_,rfl,q _ hf⟩
 exact⟨z,us,0,r,zm7 _ rfl⟩
end
abbrev Sp :=List V→Hp→VK→XK→Prop
abbrev CXT :=List Env→Hp→Shared→XK→Value→Shared→Prop
structure oR (P:Program)(w:World)(K:PySem.W.Frag)(mg:Str→Option Value)(base:Heap)(A:Around)(outer:List Env)(s:Shared)(H:Hp):Prop where
 frames:A.frames=some outer
 mod:Mod K mg base
 bs:∀b o,base.get? b=some o→s.heap.get? b=some o∧H b=none
 bsz:base.objs.size≤s.heap.objs.size
 funs:s.heap.FunFrames base outer
 frf:∀b∈frs outer,H b=none
 hok:HOk P w H s.heap
 bare:AllBare s.gens
def CE (outer:List Env)(P:Program)(w:World)(H:Hp)(s:Shared)(Q:VK)(u:Value)(s':Shared):Prop:=
 ∃v H',s'.os=s.os∧AllBare s'.gens∧Un (frs outer) [] H H' s.heap s'.heap∧HOk P w H' s'.heap∧RelV v u∧Q v H'
def CR (CX:CXT)(outer:List Env)(P:Program)(w:World)(H:Hp)(s:Shared)(Q:VK)(E:XK)(r:Result)(s':Shared):Prop:=
 match r with
 |.ok (.ret u)=>CE outer P w H s Q u s'
 |.ok _=>False
 |.error e=>CX outer H s E e s'
structure zr (P:Program)(w:World)(K:PySem.W.Frag)(mg:Str→Option Value)(base:Heap)(CX:CXT)(k:Nat)(f:Addr)(fd:FuncData)(ps:List Str)(sp:Sp):Prop where
 len:∀vs H Q E,sp vs H Q E→vs.length=ps.length
 run:∀(A:Around) (outer:List Env) (s:Shared) (H:Hp) (args:Args) (us:List Value) (vs:List V) (Q:VK) (E:XK),zG k A→oR P w K mg base A outer s H→BindsTo s fd args (ps.zip us)→Vals vs us→sp vs H Q E→
  codeAny (model P w) A (.call (.ref f) args) (CR CX outer P w H s Q E) s
theorem zr.imp {P:Program}{w:World}{K:PySem.W.Frag}{mg:Str→Option Value}{base:Heap}{CX:CXT}{k:Nat}{f:Addr}{fd:FuncData}{ps:List Str}{sp sp':Sp}(F:zr P w K mg base CX k f fd ps sp)
  (h:∀vs H Q E,sp' vs H Q E→sp vs H Q E):zr P w K mg base CX k f fd ps sp':=
 ⟨fun vs H Q E q=>F.len vs H Q E (h _ _ _ _ q),fun A outer s H args us vs Q E hr he hb hv hs=>F.run A outer s H args us vs Q E hr he hb hv (h _ _ _ _ hs)⟩
theorem oR.make {P:Program}{w:World}{K:PySem.W.Frag}{mg:Str→Option Value}{base:Heap}{A:Around}{outer:List Env}{s:Shared}{H:Hp}(e:oR P w K mg base A outer s H)(C:Addr)(us:List Value)(kw:List (Str×Value)):
  oR P w K mg base (A.under (.builtin "type.__call__" ⟨.ref C::us,kw⟩)) outer s H:=⟨by first|exact e.frames|(simpa[Around.under,Code.envs,Code.isFrame,pushEnvs] using e.frames),e.mod,e.bs,e.bsz,e.funs,e.frf,e.hok,e.bare⟩
section
variable {X:Cx}{pins:List (Addr×Obj)}{σ:St}{H:Hp}{s s':Shared}
theorem Inv.env0 (I:Inv X pins σ H s):oR X.prog X.w X.K X.mg X.base X.A X.stack s H:=
 ⟨I.ok.frames,I.ok.mod,I.bs,zl2 I.ok.bsz I.sz,I.stack,I.stkFree,I.hok,I.bare⟩
theorem Inv.after {Q:VK}{u:Value}(I:Inv X pins σ H s)(h:CE X.stack X.prog X.w H s Q u s'):EP X pins σ Q u s':=by
 obtain⟨v,H',os,bare,un,hok,r,q⟩:=h
 obtain⟨hh,g,d,t,os'⟩:=s'
 obtain rfl:os'=s.os:=os
 exact⟨v,H',I.call (h':=hh) (g':=g) (d':=d) (t':=t) (ch:=[]) un hok bare (fun b z=>absurd z (by simp)),r,q⟩
end
def zb3 (sp:Sp)(dvs:List V)(E:XK)(t:TA):TE:=fun σ H Q=>t σ H fun vs H1=>sp (vs++dvs) H1 Q E
def cu (C:Addr)(m:Str)(sp:Sp)(dvs:List V)(E:XK)(ta:TE)(t:TA):TE:=fun σ H Q=>ta σ H fun x H1=>∃a dx fs,x=.ref a∧H1 a=some (.ins C dx fs)∧fs.lookup m=none∧
 t σ H1 fun vs H2=>sp (x::(vs++dvs)) H2 Q E
def aW (C:Addr)(sp:Sp)(dvs:List V)(E:XK)(t:TA):TE:=fun σ H Q=>t σ H fun vs H1=>∀x dx,H1 x=none→H1 dx=none→dx≠x→
 sp (.ref x::(vs++dvs)) (upd (upd H1 dx (.own x)) x (.ins C dx [])) (fun v H2=>v=.non∧Q (.ref x) H2) E
def Binds (K:PySem.W.Frag)(fd:FuncData)(ps:List Str)(ds:List Value):Prop:=
 ∀(s:Shared) (us:List Value),K.In s.heap→(us++ds).length=ps.length→BindsTo s fd ⟨us,[]⟩ (ps.zip (us++ds))
theorem Binds.all {K:PySem.W.Frag}{fd:FuncData}{ps:List Str}(h:∀us:List Value,us.length=ps.length→bindArgs fd ⟨us,[]⟩=pure (ps.zip us)):Binds K fd ps []:=fun s us _ hl=>by
 rw[zo0] at hl ⊢
 exact .of_eq (h us hl)
def Passes (CX:CXT)(X:Cx)(E:XK):Prop:=∀(pins:List (Addr×Obj)) (σ:St) (H:Hp) (s:Shared) (e:Value) (s':Shared),Inv X pins σ H s→CX X.stack H s E e s'→X.xe e s'
section
variable {X:Cx}{CX:CXT}{k:Nat}{f C:Addr}{fd:FuncData}{ps:List Str}{sp:Sp}{dvs:List V}{ds:List Value}{E:XK}{x m:Str}{p pos apos:Pos}{e o:Expr}{es:List Expr}{ta:TE}{t:TA}
theorem rq {pins:List (Addr×Obj)}{σ:St}{H:Hp}{s:Shared}{Q:VK}{us:List Value}{vs:List V}(F:zr X.prog X.w X.K X.mg X.base CX k f fd ps sp)(hr:zG k X.A)(hb:Binds X.K fd ps ds)(hd:Vals dvs ds)(hx:Passes CX X E)
  (I:Inv X pins σ H s) (r:Vals vs us) (h:sp (vs++dvs) H Q E):wpAny (model X.prog X.w) X.A (call (.ref f) us) (EP X pins σ Q) X.xe s:=by
 have r2:Vals (vs++dvs) (us++ds):=r.append hd
 have hl:(us++ds).length=ps.length:=by rw[←r2.length];exact F.len _ _ _ _ h
 refine zq3 (zs1 (F.run X.A X.stack s H ⟨us,[]⟩ (us++ds) (vs++dvs) Q E hr I.env0 (hb s us I.kIn hl) r2 h) fun r s' hq=>?_)
 cases r with
 |error e=>exact hx pins σ H s e s' I hq
 |ok fl=>
  cases fl with
  |ret u=>exact I.after hq
  |next=>exact False.elim hq
  |brk=>exact False.elim hq
  |cont=>exact False.elim hq
theorem zM (F:zr X.prog X.w X.K X.mg X.base CX k f fd ps sp)(hr:zG k X.A)(hg:Gl X x)(hm:X.mg x=some (.ref f))(hk:PySem.W.keepIn X.K (.ref f)=true)(hb:Binds X.K fd ps ds)(hd:Vals dvs ds)(hx:Passes CX X E)
  (ha:PA X (e::es) t) (hdb:(x == ("__debug__":Str))=false:=by decide) (he:starEach (e::es) X.env=(false,eval e X.env)::starEach es X.env:=by rfl) (hpl:(backTo pos (starEach es X.env)).any (·.1)=false:=by rfl):
  PE X (.Call (.Name x p) (e::es) [] pos) (zb3 sp dvs E t):=by
 intro pins s σ H Q I h
 refine zo1 (yM I hg hm ?_ hdb)
 refine zo6 (h₀:=X.base) I.ok.mod.kin hk (thn (ha pos pins s σ H _ I h) fun us s1 ⟨vs,H1,I1,r,q⟩=>⟨I1.kIn,?_⟩) he hpl
 exact rq F hr hb hd hx I1 r q
theorem dz {pl:Sem Bool}(he:PE X o ta)(c:Cls X.K C)(hm:Meth X.K C m f)(F:zr X.prog X.w X.K X.mg X.base CX k f fd ps sp)(hr:zG k X.A)(hb:Binds X.K fd ps ds)(hd:Vals dvs ds)(hx:Passes CX X E)(ha:PA X (e::es) t)
  (hst:starEach (e::es) X.env=(false,eval e X.env)::starEach es X.env:=by rfl) (hpl:(backTo pos (starEach es X.env)).any (·.1)=false:=by rfl)
  (ht:eval (.Call (.Attribute o m apos) (e::es) [] pos) X.env=(do
   let ov ←eval o X.env
   standAt apos.atName
   let (f,first) ←holding [ov] (getMethod ov m pl)
   callWith pos f first (backTo pos (starEach (e::es) X.env)) (backToKw pos (keywordEach [] X.env))):=by rfl):
  PE X (.Call (.Attribute o m apos) (e::es) [] pos) (cu C m sp dvs E ta t):=by
 intro pins s σ H Q I h
 refine zs0 (pl:=pl) (thn (he pins s σ H _ I h) fun u s1 ⟨x,H1,I1,rx,a,dx,fs,ex,ea,l,q⟩=>?_) ht
 subst ex
 obtain rfl:u=Value.ref a:=rx
 refine vb I1 ea c hm l ?_
 refine zo6 (first:=[.ref a]) (h₀:=X.base) I.ok.mod.kin hm.kp (thn (ha pos pins s1 σ H1 _ I1 q) fun us s2 ⟨vs,H2,I2,r,q2⟩=>⟨I2.kIn,?_⟩) hst hpl
 exact rq (us:=.ref a::us) (vs:=.ref a::vs) F hr hb hd hx I2 (.cons rfl r) q2
theorem qx {pl:Sem Bool}(he:PE X o ta)(c:Cls X.K C)(hm:Meth X.K C m f)(F:zr X.prog X.w X.K X.mg X.base CX k f fd ps sp)(hr:zG k X.A)(hb:Binds X.K fd ps ds)(hd:Vals dvs ds)(hx:Passes CX X E)
  (ht:eval (.Call (.Attribute o m apos) [] [] pos) X.env=(do
   let ov ←eval o X.env
   standAt apos.atName
   let (f,first) ←holding [ov] (getMethod ov m pl)
   callWith pos f first (backTo pos (starEach [] X.env)) (backToKw pos (keywordEach [] X.env))):=by rfl):
  PE X (.Call (.Attribute o m apos) [] [] pos) (cu C m sp dvs E ta zc6):=by
 intro pins s σ H Q I h
 refine zs0 (pl:=pl) (thn (he pins s σ H _ I h) fun u s1 ⟨x,H1,I1,rx,a,dx,fs,ex,ea,l,q⟩=>?_) ht
 subst ex
 obtain rfl:u=Value.ref a:=rx
 refine vb I1 ea c hm l ?_
 exact PySem.W.callWith_K0 (first:=[.ref a]) I1.kIn hm.kp (rq (us:=[.ref a]) (vs:=[.ref a]) F hr hb hd hx I1 (.cons rfl .nil) q)
structure Mk (K:PySem.W.Frag)(C f:Addr):Prop where
 makes:PySem.W.makesIn K C=true
 init:PySem.W.findIn K (.ref C) "__init__"=some (some (.ref f))
 fn:PySem.W.isFn K (.ref f)=true
 kp:PySem.W.keepIn K (.ref C)=true
theorem gC {pins:List (Addr×Obj)}{σ:St}{H:Hp}{s:Shared}{Q:VK}{us:List Value}{vs:List V}(M:Mk X.K C f)(F:zr X.prog X.w X.K X.mg X.base CX k f fd ps sp)(hr:zG (k+1) X.A)(hb:Binds X.K fd ps ds)(hd:Vals dvs ds)
  (hx:Passes CX X E) (I:Inv X pins σ H s) (r:Vals vs us)
  (h:∀x dx,H x=none→H dx=none→dx≠x→sp (.ref x::(vs++dvs)) (upd (upd H dx (.own x)) x (.ins C dx [])) (fun v H2=>v=.non∧Q (.ref x) H2) E):
  wpAny (model X.prog X.w) X.A (call (.ref C) us) (EP X pins σ Q) X.xe s:=by
 have hq:=h (s.heap.objs.size+1) s.heap.objs.size (I.hok.fresh (zr5 _)) (I.hok.fresh (zj8 _)) (zl8 (zs5 _))
 have I2:=Inv.made (C:=C) I
 have r2:Vals (V.ref (s.heap.objs.size+1)::(vs++dvs)) (Value.ref (s.heap.objs.size+1)::(us++ds)):=.cons rfl (r.append hd)
 have hl:(Value.ref (s.heap.objs.size+1)::us++ds).length=ps.length:=by
  have e:=r2.length
  rw[F.len _ _ _ _ hq] at e
  exact e.symm
 refine zq3 (qP (f:=f) I.kIn M.makes M.init (zp5.mp M.fn) (zs1 (F.run _ X.stack _ _ ⟨Value.ref (s.heap.objs.size+1)::us,[]⟩ (Value.ref (s.heap.objs.size+1)::(us++ds)) _ _ E (hr.make C us [])
  (I2.env0.make C us []) (hb _ (Value.ref (s.heap.objs.size+1)::us) I2.kIn hl) r2 hq) fun r s' hq'=>?_))
 cases r with
 |error e=>exact hx pins σ _ _ e s' I2 hq'
 |ok fl=>
  cases fl with
  |ret u=>
   obtain⟨v,H',I3,rv,ev,q3⟩:=I2.after hq'
   subst ev
   exact⟨rv,⟨V.ref (s.heap.objs.size+1),H',I3,rfl,q3⟩⟩
  |next=>exact False.elim hq'
  |brk=>exact False.elim hq'
  |cont=>exact False.elim hq'
theorem xx (M:Mk X.K C f)(F:zr X.prog X.w X.K X.mg X.base CX k f fd ps sp)(hr:zG (k+1) X.A)(hg:Gl X x)(hm:X.mg x=some (.ref C))(hb:Binds X.K fd ps ds)(hd:Vals dvs ds)(hx:Passes CX X E)
  (ha:PA X (e::es) t) (hdb:(x == ("__debug__":Str))=false:=by decide) (he:starEach (e::es) X.env=(false,eval e X.env)::starEach es X.env:=by rfl) (hpl:(backTo pos (starEach es X.env)).any (·.1)=false:=by rfl):
  PE X (.Call (.Name x p) (e::es) [] pos) (aW C sp dvs E t):=by
 intro pins s σ H Q I h
 refine zo1 (yM I hg hm ?_ hdb)
 refine zo6 (h₀:=X.base) I.ok.mod.kin M.kp (thn (ha pos pins s σ H _ I h) fun us s1 ⟨vs,H1,I1,r,q⟩=>⟨I1.kIn,?_⟩) he hpl
 exact gC M F hr hb hd hx I1 r q
end
section
variable {X:Cx}{CX:CXT}{k:Nat}{f C:Addr}{fd:FuncData}{ps ks:List Str}{sp:Sp}{E:XK}{x m:Str}{p pos apos kpos:Pos}{e o:Expr}{es:List Expr}{kws:List Keyword}{te ta:TE}{t tk:TA}{nm:Option Str}
variable {g:List Value→List Value→List Value}{gV:List V→List V→List V}
end
structure zf (N P:List Str)(sc:Scope):Prop where
 kind:sc.kind=.function
 co:sc.isCoroutine=false
 gen:sc.isGenerator=false
 nd:N.Nodup
 pre:N.take P.length=P
 par:∀x∈P,sc.names.lookup x=some .local∨sc.names.lookup x=some .cell
 nofree:∀y∈sc.names,y.2≠.free
theorem sH {kindOf:Str→Option NameKind}{x:Str}:∀{binds:List (Str×Value)} {m:Str→Option Value},(∀v,(x,v)∉binds)→bindL kindOf binds m x=m x
 |[],_,_=>rfl
 |(n,v)::r,m,h=>by
  unfold bindL
  rw[sH fun w hw=>h w (zj7 _ hw)]
  split
  ·have:x≠n:=by rintro rfl;exact h v zk0
   simp[this]
  ·rfl
theorem sf {kindOf:Str→Option NameKind}{x:Str}:∀{binds:List (Str×Value)} {m:Str→Option Value},(∀v,(x,v)∉binds)→bindC kindOf binds m x=m x
 |[],_,_=>rfl
 |(n,v)::r,m,h=>by
  unfold bindC
  rw[sf fun w hw=>h w (zj7 _ hw)]
  split
  ·rfl
  ·have:x≠n:=by rintro rfl;exact h v zk0
   simp[this]
theorem sx {kindOf:Str→Option NameKind}{x:Str}{v:Value}:∀{P:List Str} {vs:List Value} {i:Nat} {m:Str→Option Value},P.Nodup→P[i]?=some x→vs[i]?=some v→kindOf x=some .local→
  bindL kindOf (P.zip vs) m x=some v
 |[],_,_,_,_,h,_,_=>by simp at h
 |_::_,[],_,_,_,_,h,_=>by simp at h
 |p::P,w::vs,0,m,nd,h1,h2,hk=>by
  simp at h1 h2;subst h1;subst h2
  show bindL kindOf ((p,w)::P.zip vs) m p=_
  unfold bindL
  rw[sH fun v hv=>(zu6.mp nd).1 (List.of_mem_zip hv).1,if_pos hk]
  simp
 |p::P,w::vs,i+1,m,nd,h1,h2,hk=>by
  show bindL kindOf ((p,w)::P.zip vs) m x=_
  unfold bindL
  exact sx (i:=i) (zu6.mp nd).2 (by simpa using h1) (by simpa using h2) hk
theorem sC {kindOf:Str→Option NameKind}{x:Str}{v:Value}:∀{P:List Str} {vs:List Value} {i:Nat} {m:Str→Option Value},P.Nodup→P[i]?=some x→vs[i]?=some v→kindOf x≠some .local→
  bindC kindOf (P.zip vs) m x=some v
 |[],_,_,_,_,h,_,_=>by simp at h
 |_::_,[],_,_,_,_,h,_=>by simp at h
 |p::P,w::vs,0,m,nd,h1,h2,hk=>by
  simp at h1 h2;subst h1;subst h2
  show bindC kindOf ((p,w)::P.zip vs) m p=_
  unfold bindC
  rw[sf fun v hv=>(zu6.mp nd).1 (List.of_mem_zip hv).1,if_neg hk]
  simp
 |p::P,w::vs,i+1,m,nd,h1,h2,hk=>by
  show bindC kindOf ((p,w)::P.zip vs) m x=_
  unfold bindC
  exact sC (i:=i) (zu6.mp nd).2 (by simpa using h1) (by simpa using h2) hk
def start (N:List Str)(vs:List V):St:=vs.map some++List.replicate (N.length-vs.length) none
def yQ (CX:CXT)(P:Program)(w:World)(K:PySem.W.Frag)(mg:Str→Option Value)(base:Heap)(N:List Str)(qual:Str)(scope:Scope)(f:Addr)(cd:Value)(A:Around)(outer:List Env)(s:Shared)(H:Hp)(E:XK):Cx where
 prog:=P
 w:=w
 K:=K
 mg:=mg
 base:=base
 A:=A.deeper (envOfC qual scope s.heap.objs.size f cd)
 N:=N
 s₀:=s
 H₀:=H
 env:=envOfC qual scope s.heap.objs.size f cd
 outer:=outer
 stack:=envOfC qual scope s.heap.objs.size f cd::outer
 ex:=[]
 calm:=true
 fn:=fun _=>true
 pn:=[]
 xe:=fun e s'=>wpAny (model P w) (A.deeper (envOfC qual scope s.heap.objs.size f cd)) (leaving (envOfC qual scope s.heap.objs.size f cd) e) (fun _ s''=>CX outer H s E e s'') (fun e' s''=>CX outer H s E e' s'') s'
theorem pw {sc:Scope}{n:Nat}{x:Str}(h:sc.names.lookup x=some .cell):∃c,(cellsFrom n sc.names []).lookup x=some c:=by
 have q:=PySem.W.cellsFrom_some sc.names n [] (.inl h)
 exact Option.isSome_iff_exists.mp q
theorem kd {CX:CXT}{P:Program}{w:World}{K:PySem.W.Frag}{mg:Str→Option Value}{base:Heap}{N ps:List Str}{qual:Str}{scope:Scope}{f:Addr}{cd:Value}{A:Around}{outer:List Env}{s s1:Shared}{H:Hp}{E:XK}{us:List Value}{vs:List V}
  (S:zf N ps scope) (hd:A.handled=none) (e0:oR P w K mg base A outer s H) (hl:vs.length=ps.length) (r:Vals vs us)
  (x:InCallC s s.heap.objs.size (bindL (envOfC qual scope s.heap.objs.size f cd).kindOf (ps.zip us) fun _=>none) (cellsFrom (s.heap.objs.size+1) scope.names []) (bindC (envOfC qual scope s.heap.objs.size f cd).kindOf (ps.zip us) fun _=>none) s1):
  Inv (yQ CX P w K mg base N qual scope f cd A outer s H E) [] (start N vs) H s1:=by
 have hpl:ps.length≤N.length:=by have:=congrArg List.length S.pre;rw[zr1] at this;omega
 obtain⟨h1,tk,rfl,hk⟩:=x.done
 have noA:∀b:Addr,b∉(yQ CX P w K mg base N qual scope f cd A outer s H E).ex:=fun b z=>absurd (show b∈([]:List Addr) from z) (by simp)
 refine⟨⟨e0.mod,S.kind,rfl,rfl,zj8 _,fun y z c h1 h2=>?_,fun y hy=>?_,fun y c _ h=>?_,fun _=>hd,Around.frames_deeper e0.frames,.inr ⟨rfl,rfl⟩,fun b z=>absurd z (noA b),e0.bs,e0.bsz,fun b _ _=>noA b,fun b z=>absurd z (noA b),e0.funs,e0.frf⟩,
  rfl,e0.bare,Un.kept hk,⟨_,x.toInCall.ns,fun i y v h1 h2 h3=>?_⟩,fun y c h=>⟨_,x.cell y c h⟩,e0.hok.fresh (zj8 _),fun y c h=>?_,fun p hp=>absurd (show p∈([]:List (Addr×Obj)) from hp) (by simp),e0.hok.kept hk,?_⟩
 ·exact name_of_addr x.apart (zo5 h1) (zo5 h2)
 ·have hy:scope.names.lookup y=some .cell∨scope.names.lookup y=some .free:=hy
  rcases hy with hy|hy
  ·exact pw hy
  ·exact absurd rfl (S.nofree _ (zo5 hy))
 ·exact zr8 (x.above y c (zo5 h))
 ·have hi:i<vs.length:=by
   unfold start at h2
   by_cases hi:i<vs.length
   ·exact hi
   ·rw[zl6 (by simpa using hi)] at h2
    rw[zq0] at h2
    split at h2<;>cases h2
  have ha:vs[i]?=some v:=by
   unfold start at h2
   rw[zl4 (by simpa using hi),zl9] at h2
   cases e:vs[i]? with
   |none=>rw[e] at h2;cases h2
   |some a=>rw[e] at h2;cases h2;rfl
  obtain⟨u,hu,rv⟩:=r.get ha
  have hp:ps[i]?=some y:=by
   rw[←S.pre,List.getElem?_take_of_lt (by omega)];exact h1
  have ndP:ps.Nodup:=by rw[←S.pre];exact S.nd.sublist (List.take_sublist _ _)
  refine⟨u,rv,?_⟩
  rcases S.par y (zp6 hp) with k|k
  ·exact .inl ⟨k,sx ndP hp hu k⟩
  ·obtain⟨c,e⟩:=pw (n:=s.heap.objs.size+1) k
   refine .inr ⟨.inl k,c,e,?_⟩
   have q:=x.cell y c e
   rw[sC ndP hp hu (by show scope.names.lookup y≠_;rw[k];decide)] at q
   exact q
 ·exact e0.hok.fresh (zr8 (x.above y c (zo5 h)))
 ·unfold start
  show _=N.length
  rw[zk6,zj1,zq5]
  omega
theorem mM {CX:CXT}{P:Program}{w:World}{K:PySem.W.Frag}{mg:Str→Option Value}{base:Heap}{k:Nat}{f:Addr}{name qual:Str}{params:Arguments}{body:List Stmt}{scope:Scope}{dV kV doc pm cdv ct oc:Value}{an od:Option Addr}
  {osl:Array (Option Value)} {N ps:List Str} {sp:Sp} (lk:K.lookup f=some ⟨oc,od,.func (PySem.W.fnOf name qual params body scope dV kV doc pm an cdv ct),osl⟩) (hcd:PySem.W.codeIn K cdv qual=true) (S:zf N ps scope)
  (len:∀vs H Q E,sp vs H Q E→vs.length=ps.length)
  (hbody:∀(A:Around) (outer:List Env) (s:Shared) (H:Hp) (vs:List V) (Q:VK) (E:XK),zG k (A.deeper (envOfC qual scope s.heap.objs.size f cdv))→sp vs H Q E→
   ∃t,PSs (yQ CX P w K mg base N qual scope f cdv A outer s H E) body t∧t {nx:=fun _ H'=>Q .non H',rt:=Q} (start N vs) H):
  zr P w K mg base CX (k+1) f (PySem.W.fnOf name qual params body scope dV kV doc pm an cdv ct) ps sp:=by
 refine⟨len,fun A outer s H args us vs Q E hr e0 hb r hsp=>?_⟩
 have hl:=len _ _ _ _ hsp
 have KX:K.In s.heap:=e0.mod.kin.keeps fun b o e=>(e0.bs b o e).1
 have lim:s.heap.NoLimit:=e0.mod.nolimit.keeps fun b o e=>(e0.bs b o e).1
 have hkind:∀y∈ps.zip us,scope.names.lookup y.1=some .local∨(scope.names.lookup y.1=some .cell∧((cellsFrom (s.heap.objs.size+1) scope.names []).lookup y.1).isSome=true):=fun⟨n,v⟩ hy=>by
  rcases S.par n (List.of_mem_zip hy).1 with q|q
  ·exact .inl q
  ·exact .inr ⟨q,PySem.W.cellsFrom_some _ _ _ (.inl q)⟩
 refine codeAny_call_function hr.depth (KX _ _ lk) rfl S.co S.gen rfl (PySem.W.codeRec_of KX hcd) (hb _ _ _ _ ?_)
 refine wpAny_newFunctionEnv_cells S.kind hkind fun env he s1 x=>?_
 subst he
 refine⟨lim.keeps x.toInCall.keep,codeAny_func ?_⟩
 obtain⟨t,ht,hq⟩:=hbody A outer s H vs Q E (hr.deeper _) hsp
 have I:Inv (yQ CX P w K mg base N qual scope f cdv A outer s H E) [] (start N vs) H s1:=kd S hr.hd e0 hl r x
 refine zn1 (ht [] s1 (start N vs) H _ I hq) (fun fl s' hs=>?_) fun e s' hs=>hs
 have fin:∀{σ':St} {H':Hp} {v:V} {u:Value},Inv (yQ CX P w K mg base N qual scope f cdv A outer s H E) [] σ' H' s'→RelV v u→Q v H'→CE outer P w H s Q u s':=
  fun {σ' H' v u} J rv q=>⟨v,H',J.os,J.bare,J.base,J.hok,rv,q⟩
 cases fl with
 |ret u=>
  obtain⟨v,σ',H',J,rv,q⟩:=hs
  exact fin J rv q
 |next=>
  obtain⟨σ',H',J,q⟩:=hs
  exact fin (v:=V.non) (u:=Value.none) J rfl q
 |brk=>
  obtain⟨_,_,_,q⟩:=hs
  exact False.elim q
 |cont=>
  obtain⟨_,_,_,q⟩:=hs
  exact False.elim q
section
variable {X:Cx}{x:Str}{p pos:Pos}{e:Expr}{es:List Expr}{t:TA}{id T:String}{r:List V→Hp→VK→Prop}
def tCB (r:List V→Hp→VK→Prop)(t:TA):TE:=fun σ H Q=>t σ H fun vs H1=>r vs H1 Q
theorem yc (hc:yU X (.builtin id) r)(hg:Gl X x)(hm:X.mg x=none)(hv:bootBuiltins x=some (.builtin id))(ha:PA X (e::es) t)(hn:x≠"__name__":=by decide)(hdb:(x == ("__debug__":Str))=false:=by decide)
  (he:starEach (e::es) X.env=(false,eval e X.env)::starEach es X.env:=by rfl) (hpl:(backTo pos (starEach es X.env)).any (·.1)=false:=by rfl):PE X (.Call (.Name x p) (e::es) [] pos) (tCB r t):=by
 intro pins s σ H Q I h
 refine zo1 (uH I hg hm hv ?_ hn hdb)
 exact PyProof.Rows.callWith_builtin1 (thn (ha pos pins s σ H _ I h) fun us s1 ⟨vs,H1,I1,r1,q1⟩=>hc pins s1 σ H1 vs us Q I1 r1 q1) he hpl
theorem vH (hc:yU X (.type T) r)(hg:Gl X x)(hm:X.mg x=none)(hv:bootBuiltins x=some (.type T))(ha:PA X (e::es) t)(hn:x≠"__name__":=by decide)(hdb:(x == ("__debug__":Str))=false:=by decide)
  (he:starEach (e::es) X.env=(false,eval e X.env)::starEach es X.env:=by rfl) (hpl:(backTo pos (starEach es X.env)).any (·.1)=false:=by rfl):PE X (.Call (.Name x p) (e::es) [] pos) (tCB r t):=by
 intro pins s σ H Q I h
 refine zo1 (uH I hg hm hv ?_ hn hdb)
 exact zs3 (thn (ha pos pins s σ H _ I h) fun us s1 ⟨vs,H1,I1,r1,q1⟩=>hc pins s1 σ H1 vs us Q I1 r1 q1) he hpl
end
end L2
namespace HT
open PySem PyProof.Rows
section
open PySem.SeqAt
open PySem.AutoSeq1 (wpAny_loadPart')
open PySem.MeetsSeq PySem.MeetsSeq2 PySem.MeetsSeq3
end
section
variable {prog:Program}{w:World}{A:Around}{E:Value→Shared→Prop}{s:Shared}
def sIx (n d:Nat):Option Int→Nat
 |none=>d
 |some v=>if v<0 then (v+(n:Int)).toNat else min v.toNat n
theorem qr (n d:Nat):sIx n d none=d:=rfl
theorem de (n d k:Nat):sIx n d (some (k:Int))=min k n:=by
 show (if (k:Int)<0 then ((k:Int)+(n:Int)).toNat else min (k:Int).toNat n)=min k n
 rw[if_neg (by omega),Int.toNat_natCast]
end
end HT
namespace L2
open PySem PySem.Spec PyProof.Rows
abbrev TO :=St→Hp→(Option Int→Hp→Prop)→Prop
def PO (X:Cx)(e:Option Expr)(t:TO):Prop:=
 ∀(pins:List (Addr×Obj)) (s:Shared) (σ:St) (H:Hp) (Q:Option Int→Hp→Prop),Inv X pins σ H s→t σ H Q→
  wpAny (model X.prog X.w) X.A (evalPart e X.env) (fun u s'=>∃o H',Inv X pins σ H' s'∧IsPart u o∧Q o H') X.xe s
def eH :TO:=fun _ H Q=>Q none H
def zd4 (t:TE):TO:=fun σ H Q=>t σ H fun x H1=>∃i,x=.int i∧Q (some i) H1
section
variable {X:Cx}{e:Expr}{te:TE}{lo hi:Option Expr}{tl th:TO}{pos p2:Pos}
theorem eL :PO X none eH:=by
 intro pins s σ H Q I h
 rw[evalPart_none]
 exact zk4 ⟨none,H,I,.none,h⟩
theorem eY (h:PE X e te):PO X (some e) (zd4 te):=by
 intro pins s σ H Q I hw
 rw[evalPart_some]
 refine thn (h pins s σ H _ I hw) fun u s1 ⟨x,H1,I1,r1,q1⟩=>?_
 obtain⟨i,rfl,q⟩:=q1
 obtain⟨t,rfl⟩:=r1
 exact⟨some i,H1,I1,.int i t,q⟩
def SlR (X:Cx)(r:V→Option Int→Option Int→Hp→VK→Prop):Prop:=
 ∀(pins:List (Addr×Obj)) (s:Shared) (σ:St) (H:Hp) (x:V) (v vl vu:Value) (lo hi:Option Int) (sl:Addr) (Q:VK),Inv X pins σ H s→RelV x v→s.heap.IsSliceOf sl vl vu .none→IsPart vl lo→IsPart vu hi→r x lo hi H Q→
  ∃T id,typeLookup (.type T) "__getitem__"=pure (some (.builtin id))∧s.TypeIs v T∧wpAny (model X.prog X.w) X.A (getItem v (.ref sl)) (EP X pins σ Q) X.xe s
def tSl (r:V→Option Int→Option Int→Hp→VK→Prop)(te:TE)(tl th:TO):TE:=fun σ H Q=>te σ H fun x H1=>tl σ H1 fun l H2=>th σ H2 fun u H3=>r x l u H3 Q
theorem qq {r:V→Option Int→Option Int→Hp→VK→Prop}(hr:SlR X r)(he:PE X e te)(hl:PO X lo tl)(hu:PO X hi th):PE X (.Subscript e (.Slice lo hi none p2) pos) (tSl r te tl th):=by
 intro pins s σ H Q I h
 refine Subscript_ (thn (he pins s σ H _ I h) fun v s1 ⟨x,H1,I1,r1,q1⟩=>?_)
 refine wpAny_Slice (thn (hl pins s1 σ H1 _ I1 q1) fun vl s2 ⟨l,H2,I2,pl,q2⟩=>thn (hu pins s2 σ H2 _ I2 q2) fun vu s3 ⟨u,H3,I3,pu,q3⟩=>?_)
 rw[evalPart_none]
 refine zk4 ?_
 have I4:Inv X pins σ H3 {s3 with heap:=s3.heap.push {cls:=.type "slice",data:=.fields #[vl,vu,.none]}}:=I3.kept (t':=s3.toks) fun b ob q=>zj3 _ q
 obtain⟨T,id,hT,ht,hg⟩:=hr pins {s3 with heap:=s3.heap.push {cls:=.type "slice",data:=.fields #[vl,vu,.none]}} σ H3 x v vl vu l u s3.heap.objs.size Q I4 r1 (Heap.IsSliceOf.new ..) pl pu q3
 show wpAny (model X.prog X.w) X.A (subscriptTail e (.Slice lo hi none p2) v (.ref s3.heap.objs.size)) (EP X pins σ Q) X.xe {s3 with heap:=s3.heap.push {cls:=.type "slice",data:=.fields #[vl,vu,.none]}}
 exact tail_any (ops:=[.ref s3.heap.objs.size,v]) ht hT hg (by with_unfolding_all rfl)
def kB (xs:List V)(lo hi:Option Int):List V:=(xs.drop (HT.sIx xs.length 0 lo)).take (HT.sIx xs.length xs.length hi-HT.sIx xs.length 0 lo)
theorem qj (xs:List V)(lo hi:Option Int):(kB xs lo hi).length≤xs.length:=by
 unfold kB
 rw[zr1,List.length_drop]
 omega
end
def ixN (n:Nat)(i:Int):Option Nat:=if 0≤i then (if i<n then some i.toNat else none) else if -(n:Int)≤i then some (i+n).toNat else none
def atI {α:Type}(xs:List α)(i:Int):Option α:=(ixN xs.length i).bind fun j=>xs[j]?
theorem nK {n:Nat}{i:Int}{j:Nat}(h:ixN n i=some j):seqIndex? i n=some j∧j<n∧-(n:Int)≤i∧i<n:=by
 unfold ixN at h
 by_cases h0:0≤i
 ·rw[if_pos h0] at h
  by_cases h1:i<n
  ·rw[if_pos h1] at h
   have e:i.toNat=j:=zl3 h
   exact⟨by rw[seqIndex_of h0 h1,e],by omega,by omega,h1⟩
  ·rw[if_neg h1] at h;cases h
 ·rw[if_neg h0] at h
  by_cases h1:-(n:Int)≤i
  ·rw[if_pos h1] at h
   have e:(i+n).toNat=j:=zl3 h
   exact⟨by rw[seqIndex_neg (by omega) h1,e],by omega,h1,by omega⟩
  ·rw[if_neg h1] at h;cases h
theorem rP {α:Type}{xs:List α}{i:Int}{v:α}(h:atI xs i=some v):∃j,seqIndex? i xs.length=some j∧xs[j]?=some v∧j<xs.length∧-(xs.length:Int)≤i∧i<xs.length:=by
 unfold atI at h
 cases e:ixN xs.length i with
 |none=>rw[e] at h;cases h
 |some j=>
  rw[e] at h
  obtain⟨h1,h2,h3,h4⟩:=nK e
  exact⟨j,h1,h,h2,h3,h4⟩
theorem wR {α:Type}{xs:List α}{j:Nat}{v:α}(h:xs[j]?=some v):atI xs (j:Int)=some v:=by
 have hj:j<xs.length:=(zj6.mp h).1
 have e:ixN xs.length (j:Int)=some j:=by
  unfold ixN
  rw[if_pos (by omega),if_pos (by omega)];simp
 unfold atI;rw[e];exact h
def vt (b:Expr):Prop:=∀o i,subscripted b false o i=operate [o,i] (getItem o i)
def IxR (X:Cx)(r:R2):Prop:=
 ∀(value slice:Expr) (pins:List (Addr×Obj)) (s:Shared) (σ:St) (H:Hp) (x y:V) (v u:Value) (Q:VK),Inv X pins σ H s→RelV x v→RelV y u→r x y H Q→
  subscripted slice false v u=operate [v,u] (getItem v u)→wpAny (model X.prog X.w) X.A (subscriptTail value slice v u) (EP X pins σ Q) X.xe s
def MtR (X:Cx)(id:String)(r:V→List V→Hp→VK→Prop):Prop:=
 ∀(pins:List (Addr×Obj)) (s:Shared) (σ:St) (H:Hp) (x:V) (xs:List V) (v:Value) (us:List Value) (Q:VK),Inv X pins σ H s→RelV x v→Vals xs us→r x xs H Q→
  wpAny (model X.prog X.w) X.A (call (.builtin id) (v::us)) (EP X pins σ Q) X.xe s
section
variable {X:Cx}{a b:Expr}{ta tb:TE}{pos:Pos}
theorem IxR.or {r r':R2}(h:IxR X r)(h':IxR X r'):IxR X (fun x y H Q=>r x y H Q∨r' x y H Q):=by
 intro value slice pins s σ H x y v u Q I rx ry q hs
 rcases q with q|q
 ·exact h value slice pins s σ H x y v u Q I rx ry q hs
 ·exact h' value slice pins s σ H x y v u Q I rx ry q hs
theorem zX {r:R2}(hr:IxR X r)(ha:PE X a ta)(hb:PE X b tb)(hs:vt b):PE X (.Subscript a b pos) (tOp r ta tb):=by
 intro pins s σ H Q I h
 exact Subscript_ (aq ha hb I h fun v u s2 x y H2 I2 rx ry q=>hr a b pins s2 σ H2 x y v u Q I2 rx ry q (hs _ _))
def bL (K:PySem.W.Frag):R2:=fun x y H Q=>∃p xs i v,x=.ref p∧y=.int i∧SqL K H p xs∧atI xs i=some v∧Q v H
def aS (K:PySem.W.Frag):R2:=fun x y H Q=>∃p xs i v,x=.ref p∧y=.int i∧SqT K H p xs∧atI xs i=some v∧Q v H
def aV :R2:=fun x y H Q=>∃z i c,x=.str z∧y=.int i∧z.length≤sizeLine∧atI z.cps.toList i=some c∧Q (.str ⟨#[c]⟩) H
theorem yL :IxR X (bL X.K):=by
 intro value slice pins s σ H x y v u Q I rx ry h hs
 obtain⟨p,xs,i,z,rfl,rfl,hq,he,q⟩:=h
 cases rx
 obtain⟨t,rfl⟩:=ry
 obtain⟨its,r,pl,hz⟩:=I.list hq
 obtain⟨j,h1,h2,h3,h4,h5⟩:=rP he
 obtain⟨w,ew,rw'⟩:=r.get h2
 have hl:=r.length
 have hn:=wY
 have fin:EP X pins σ Q w s:=⟨z,H,I,rw',q⟩
 by_cases h0:0≤i
 ·have hj:i.toNat=j:=by
   rw[seqIndex_of h0 h5] at h1
   exact zl3 h1
  exact item_listR pl.isList h0 (by omega) (by rw[hj];simpa using ew) fin hs
 ·have hj:(i+(its.toArray.size:Int)).toNat=j:=by
   rw[seqIndex_neg (by omega) h4] at h1
   rw[zk8,←hl]
   exact zl3 h1
  exact subscriptTail_builtinR (x:=w) pl.isList.typeIs slot_list_getitem.lookup
   (wpAny_getItem_list_neg (Q:=fun r s'=>r=w∧EP X pins σ Q r s') pl.isList (by omega) (by rw[zk8]<;>omega) (by omega) (by rw[hj];simpa using ew) ⟨rfl,fin⟩) hs
theorem yo :IxR X (aS X.K):=by
 intro value slice pins s σ H x y v u Q I rx ry h hs
 obtain⟨p,xs,i,z,rfl,rfl,hq,he,q⟩:=h
 cases rx
 obtain⟨t,rfl⟩:=ry
 obtain⟨its,r,pl,hz⟩:=I.tuple hq
 obtain⟨j,h1,h2,h3,h4,h5⟩:=rP he
 obtain⟨w,ew,rw'⟩:=r.get h2
 have hl:=r.length
 have hn:=wY
 have fin:EP X pins σ Q w s:=⟨z,H,I,rw',q⟩
 exact subscriptTail_builtinR (x:=w) pl.typeIs slot_tuple_getitem.lookup
  (getItem_tuple (j:=j) (Q:=fun r s'=>r=w∧EP X pins σ Q r s') pl (by omega) (by omega) (by rw[zk8,←hl];exact h1) (by simpa using ew) ⟨rfl,fin⟩) hs
theorem gm :IxR X aV:=by
 intro value slice pins s σ H x y v u Q I rx ry h hs
 obtain⟨z,i,c,rfl,rfl,hz,he,q⟩:=h
 obtain⟨t,rfl⟩:=rx
 obtain⟨t',rfl⟩:=ry
 obtain⟨j,h1,h2,h3,h4,h5⟩:=rP he
 have hl:z.cps.toList.length=z.length:=by simp[Str.length]
 rw[hl] at h1 h4 h5
 have hn:=wY
 exact tail_any (zu7 s z t) slot_str_getitem.lookup (getItem_str (c:=c) (by
  have e1:decide (i < -(2 ^ 63:Int))=false:=zl5 (by omega)
  have e2:decide (i≥2 ^ 63)=false:=zl5 (by omega)
  rw[e1,e2,zv8]) (by rw[h1];simpa using h2) ⟨.str ⟨#[c]⟩,H,I.tok _,⟨_,rfl⟩,q⟩) hs
def rIx (K:PySem.W.Frag):R2:=fun x y H Q=>bL K x y H Q∨aS K x y H Q∨aV x y H Q
theorem bu :IxR X (rIx X.K):=yL.or (yo.or gm)
theorem oB (its:List Value)(n j:Nat)(u:Value):Obj.mapSeq (·.setIfInBounds j u) {cls:=.type "list",data:=.seq its.toArray n}={cls:=.type "list",data:=.seq (its.set j u).toArray n}:=by
 simp[Obj.mapSeq]
theorem Inv.lst {pins:List (Addr×Obj)}{σ:St}{H:Hp}{s:Shared}{p:Addr}{xs:List V}(I:Inv X pins σ H s)(h:H p=some (.lst xs)):
  ∃(its:List Value) (n:Nat),Vals xs its∧s.heap.get? p=some {cls:=.type "list",data:=.seq its.toArray n}∧xs.length≤sizeLine:=by
 obtain⟨z,its,n,r,e⟩:=I.hok p _ h
 exact⟨its,n,r,e,z⟩
theorem Inv.lstUpd {pins:List (Addr×Obj)}{σ:St}{H:Hp}{s:Shared}{p:Addr}{xs ys:List V}{its its':List Value}{n n':Nat}{f:Obj→Obj}(I:Inv X pins σ H s)(h:H p=some (.lst xs))
  (ho:s.heap.get? p=some {cls:=.type "list",data:=.seq its.toArray n}) (hf:f {cls:=.type "list",data:=.seq its.toArray n}={cls:=.type "list",data:=.seq its'.toArray n'}) (r:Vals ys its') (hz:ys.length≤sizeLine) (t:Nat):
  Inv X pins σ (upd H p (.lst ys)) {s with heap:=s.heap.update p f,toks:=t}:=by
 have e:(s.heap.update p f).get? p=some {cls:=.type "list",data:=.seq its'.toArray n'}:=by
  rw[zn7 f ho (by rw[hf]<;>rfl),hf]
 refine I.write (x:=p) (e:=p) (by rw[h];trivial) (.inl rfl) (fun b u hb q=>(zl0 _ _ (zr9 hb)).trans q) ⟨_,e⟩ ?_
 exact⟨hz,its',n',r,e⟩
def ze1 :V→V→V→Hp→(Hp→Prop)→Prop:=fun o i v H Q=>∃p xs k j,o=.ref p∧i=.int k∧H p=some (.lst xs)∧ixN xs.length k=some j∧Q (upd H p (.lst (xs.set j v)))
theorem set_list :zb9 X ze1:=by
 intro pins s σ H o i v ov iv u Q I ro ri rv h
 obtain⟨p,xs,k,j,rfl,rfl,hp,hj,q⟩:=h
 cases ro
 obtain⟨t,rfl⟩:=ri
 obtain⟨its,n,r,ho,hz⟩:=I.lst hp
 obtain⟨h1,h2,h3,h4⟩:=nK hj
 have hl:=r.length
 have hn:=wY
 have I':Inv X pins σ (upd H p (.lst (xs.set j v))) {s with heap:=s.heap.update p (Obj.mapSeq (·.setIfInBounds j u))}:=
  I.lstUpd hp ho (oB its n j u) (r.set rv j) (by rw[zm2];exact hz) s.toks
 by_cases h0:0≤k
 ·have hk:k.toNat=j:=by
   rw[seqIndex_of h0 h4] at h1
   exact zl3 h1
  exact PySem.W.ki_setAt ho h0 (by omega) (by rw[zk8,←hl];exact h4) (by rw[hk];exact⟨_,I',q⟩)
 ·have hk:(k+(its.toArray.size:Int)).toNat=j:=by
   rw[seqIndex_neg (by omega) h3] at h1
   rw[zk8,←hl]
   exact zl3 h1
  exact PySem.W.ki_setBack ho (by omega) (by rw[zk8,←hl];exact h3) (by omega) (by rw[hk];exact⟨_,I',q⟩)
theorem rE (lo hi:Option Int)(n:Nat):(sliceBounds lo hi none n).1=((HT.sIx n 0 lo:Nat):Int)∧(sliceBounds lo hi none n).2.1=((HT.sIx n n hi:Nat):Int)∧(sliceBounds lo hi none n).2.2=1:=by
 refine⟨?_,?_,rfl⟩
 ·cases lo with
  |none=>simp[sliceBounds,HT.sIx]
  |some i=>
   simp only[sliceBounds,HT.sIx,Option.getD_none,show (1:Int) > 0 by decide,if_true]
   by_cases h:i<0
   ·simp only[h,if_true]<;>omega
   ·simp only[h,if_false]<;>omega
 ·cases hi with
  |none=>simp[sliceBounds,HT.sIx]
  |some i=>
   simp only[sliceBounds,HT.sIx,Option.getD_none,show (1:Int) > 0 by decide,if_true]
   by_cases h:i<0
   ·simp only[h,if_true]<;>omega
   ·simp only[h,if_false]<;>omega
theorem tM (its:List Value)(lo hi:Option Int):slicePick its.toArray lo hi none=((its.drop (HT.sIx its.length 0 lo)).take (HT.sIx its.length its.length hi-HT.sIx its.length 0 lo)).toArray:=by
 obtain⟨h1,h2,h3⟩:=rE lo hi its.toArray.size
 unfold slicePick
 rw[h1,h2,h3]
 simp only[sliceRange_one,pick_run,zk8]<;>rfl
def zh5 (K:PySem.W.Frag):V→Option Int→Option Int→Hp→VK→Prop:=fun x lo hi H Q=>∃a xs,x=.ref a∧SqL K H a xs∧∀p,H p=none→Q (.ref p) (upd H p (.lst (kB xs lo hi)))
theorem dB :SlR X (zh5 X.K):=by
 intro pins s σ H x v vl vu lo hi sl Q I rx hs pl pu h
 obtain⟨a,xs,rfl,hx,q⟩:=h
 cases rx
 obtain⟨its,r,ht,hz⟩:=I.list hx
 have hlen:=r.length
 refine⟨"list",_,slot_list_getitem.lookup,ht.isList.typeIs,?_⟩
 refine wpAny_getItem_list_slice ht.isList hs pl pu .none (by simp) ?_ (by rw[zk8]<;>omega)
 rw[tM,←hlen]
 refine⟨.ref s.heap.objs.size,_,I.laid (t':=s.toks) (o:=.lst (kB xs lo hi)) (fun b ob q=>zj3 _ q) (zj8 _) ?_,rfl,q _ (I.hok.fresh (zj8 _))⟩
 exact⟨zl2 (qj xs lo hi) hz,_,0,(r.drop (HT.sIx xs.length 0 lo)).take (HT.sIx xs.length xs.length hi-HT.sIx xs.length 0 lo),zm7 _ rfl⟩
def wV :V→Bool
 |.non=>true
 |.bl _=>true
 |.int _=>true
 |.str _=>true
 |_=>false
def eqV :V→V→Bool
 |.non,.non=>true
 |.bl a,.bl b=>a == b
 |.bl a,.int b=>(if a then 1 else 0)==b
 |.int a,.bl b=>a == (if b then 1 else 0)
 |.int a,.int b=>a == b
 |.str a,.str b=>a == b
 |_,_=>false
theorem ae {A:Around}{s:Shared}{y x:V}{u v:Value}(ry:RelV y u)(rx:RelV x v)(fy:wV y=true)(fx:wV x=true):SeqAt.EqAt A s u v (eqV y x):=by
 cases y with
 |non=>
  cases ry
  cases x with
  |non=>cases rx;exact SeqAt.EqAt.same _
  |bl b=>cases rx;exact SeqAt.EqAt.none_bool b
  |int b=>obtain⟨t,rfl⟩:=rx;exact SeqAt.EqAt.none_int b t
  |str b=>obtain⟨t,rfl⟩:=rx;exact SeqAt.EqAt.none_str b t
  |_=>exact absurd (show false=true from fx) zk1
 |bl a=>
  cases ry
  cases x with
  |non=>cases rx;exact SeqAt.EqAt.bool_none a
  |bl b=>cases rx;exact SeqAt.EqAt.bool_bool a b
  |int b=>obtain⟨t,rfl⟩:=rx;exact SeqAt.EqAt.bool_int a b t
  |str b=>obtain⟨t,rfl⟩:=rx;exact SeqAt.EqAt.bool_str a b t
  |_=>exact absurd (show false=true from fx) zk1
 |int a=>
  obtain⟨t',rfl⟩:=ry
  cases x with
  |non=>cases rx;exact SeqAt.EqAt.int_none a t'
  |bl b=>cases rx;exact SeqAt.EqAt.int_bool a t' b
  |int b=>obtain⟨t,rfl⟩:=rx;exact SeqAt.EqAt.int_int a t' b t
  |str b=>obtain⟨t,rfl⟩:=rx;exact SeqAt.EqAt.int_str a t' b t
  |_=>exact absurd (show false=true from fx) zk1
 |str a=>
  obtain⟨t',rfl⟩:=ry
  cases x with
  |non=>cases rx;exact SeqAt.EqAt.str_none a t'
  |bl b=>cases rx;exact SeqAt.EqAt.str_bool a t' b
  |int b=>obtain⟨t,rfl⟩:=rx;exact SeqAt.EqAt.str_int a t' b t
  |str b=>obtain⟨t,rfl⟩:=rx;exact SeqAt.EqAt.str_str a t' b t
  |_=>exact absurd (show false=true from fx) zk1
 |_=>exact absurd (show false=true from fy) zk1
def eqU (x:V)(u:Value):Bool:=match u with
 |.none=>eqV .non x
 |.bool b=>eqV (.bl b) x
 |.int i _=>eqV (.int i) x
 |.str z _=>eqV (.str z) x
 |_=>false
theorem jr {x y:V}{u:Value}(r:RelV y u)(f:wV y=true):eqU x u=eqV y x:=by
 cases y with
 |non=>cases r;rfl
 |bl b=>cases r;rfl
 |int i=>obtain⟨t,rfl⟩:=r;rfl
 |str z=>obtain⟨t,rfl⟩:=r;rfl
 |_=>exact absurd (show false=true from f) zk1
theorem rk {x:V}:∀{xs:List V} {us:List Value},Vals xs us→xs.all wV=true→us.any (eqU x)=xs.any fun y=>eqV y x
 |_,_,.nil,_=>rfl
 |y::xs,u::us,.cons r t,f=>by
  rw[zv9,zk3] at f
  rw[zw0,zw0,jr r f.1,rk t f.2]
theorem uT {A:Around}{s:Shared}{x:V}{v:Value}(rx:RelV x v)(fx:wV x=true):∀{xs:List V} {us:List Value},Vals xs us→xs.all wV=true→∀u∈us,SeqAt.EqAt A s u v (eqU x u)
 |_,_,.nil,_=>fun u hu=>by cases hu
 |y::xs,u::us,.cons r t,f=>fun u' hu=>by
  rw[zv9,zk3] at f
  rcases zj5.mp hu with rfl|hu
  ·rw[jr r f.1];exact ae r rx f.1 fx
  ·exact uT rx fx t f.2 u' hu
def inV (x:V)(xs:List V):Bool:=xs.any fun y=>eqV y x
def rIn (K:PySem.W.Frag)(neg:Bool):R2:=fun x y H Q=>∃p xs,y=.ref p∧(SqL K H p xs∨SqT K H p xs)∧wV x=true∧xs.all wV=true∧Q (.bl (if neg then !inV x xs else inV x xs)) H
theorem lL :OpR X (compareOp .In) (rIn X.K false):=by
 intro pins s σ H x y v u Q I rx ry h
 obtain⟨p,xs,rfl,hq,fx,fs,q⟩:=h
 cases ry
 rcases hq with hq|hq
 ·obtain⟨its,r,pl,hz⟩:=I.list hq
  refine SeqAt.in_listAt (eqU x) pl.isList (fun w hw=>uT rx fx r fs w (by simpa using hw)) ⟨.bl _,H,I,rfl,?_⟩
  rw[show its.toArray.any (eqU x)=its.any (eqU x) by simp,rk r fs]
  exact q
 ·obtain⟨its,r,pl,hz⟩:=I.tuple hq
  refine SeqAt.in_tupleAt (eqU x) pl (fun w hw=>uT rx fx r fs w (by simpa using hw)) ⟨.bl _,H,I,rfl,?_⟩
  rw[show its.toArray.any (eqU x)=its.any (eqU x) by simp,rk r fs]
  exact q
theorem yW :yU X (.builtin "len") (fun xs H Q=>∃p ys,xs=[.ref p]∧(SqL X.K H p ys∨SqT X.K H p ys)∧Q (.int ys.length) H):=by
 intro pins s σ H xs us Q I r h
 obtain⟨p,ys,rfl,hq,q⟩:=h
 obtain⟨u,rfl,rx⟩:=vals1 r
 cases rx
 have hn:=wY
 rcases hq with hq|hq
 ·obtain⟨its,r',pl,hz⟩:=I.list hq
  have hlen:=r'.length
  exact Calls.call_len_list pl.isList (by simp only[zk8]<;>omega) ⟨.int ys.length,H,I.tok _,⟨s.toks+1,by rw[zk8,hlen]⟩,q⟩
 ·obtain⟨its,r',pl,hz⟩:=I.tuple hq
  have hlen:=r'.length
  exact len_tuple pl (by simp only[zk8]<;>omega) ⟨.int ys.length,H,I.tok _,⟨s.toks+1,by rw[zk8,hlen]⟩,q⟩
theorem tI :yU X (.type "tuple") (fun xs H Q=>∃p ys,xs=[.ref p]∧((SqL X.K H p ys∧∀l,H l=none→Q (.ref l) (upd H l (.tup ys)))∨(SqT X.K H p ys∧Q (.ref p) H))):=by
 intro pins s σ H xs us Q I r h
 obtain⟨p,ys,rfl,h⟩:=h
 obtain⟨u,rfl,rx⟩:=vals1 r
 cases rx
 rcases h with ⟨hq,q⟩|⟨hq,q⟩
 ·obtain⟨its,r',pl,hz⟩:=I.list hq
  have hlen:=r'.length
  refine call_tuple_list pl.isList (fun h' kp=>?_) (by simp only[zk8]<;>omega)
  have I1:Inv X pins σ H {s with heap:=h'}:=I.kept (t':=s.toks) kp
  have I2:Inv X pins σ (upd H h'.objs.size (.tup ys)) {s with heap:=h'.push {cls:=.type "tuple",data:=.seq its.toArray}}:=
   I1.laid (t':=s.toks) (fun b o e=>zj3 _ e) (zj8 _) (show zY X.prog X.w _ _ _ (.tup ys) from ⟨hz,its,r',IsTup.new _ _⟩)
  exact⟨.ref h'.objs.size,_,I2,rfl,q _ (I1.hok.fresh (zj8 _))⟩
 ·obtain⟨its,r',pl,hz⟩:=I.tuple hq
  exact call_tuple_same pl ⟨.ref p,H,I,rfl,q⟩
def tyV (K:PySem.W.Frag)(T:String)(x:V)(H:Hp):Prop:=match x with
 |.str _=>T="str"
 |.int _=>T="int"
 |.ref p=>(T="list"∧∃xs,SqL K H p xs)∨(T="tuple"∧∃o,K.lookup p=some o∧o.cls=.type "tuple"∧o.dict=none)∨
   (T="dict"∧((∃kvs,H p=some (.dK kvs))∨∃kvs,H p=some (.dT kvs)))∨(T="set"∧∃S n,H p=some (.set S n))
 |_=>False
theorem bt {pins:List (Addr×Obj)}{σ:St}{H:Hp}{s:Shared}{T:String}{x:V}{v:Value}(I:Inv X pins σ H s)(r:RelV x v)(ty:tyV X.K T x H):
  s.TypeIs v T∧∀a,v=.ref a→∃ob,s.heap.get? a=some ob∧ob.dict=none:=by
 cases x with
 |str z=>
  obtain⟨t,rfl⟩:=r
  cases (show T="str" from ty)
  exact⟨zu7 s z t,fun _ e=>nomatch e⟩
 |int i=>
  obtain⟨t,rfl⟩:=r
  cases (show T="int" from ty)
  exact⟨typeIs_int s i t,fun _ e=>nomatch e⟩
 |ref p=>
  cases r
  rcases ty with ⟨rfl,xs,hq⟩|⟨rfl,o,hk,hc,hd⟩|⟨rfl,hk⟩|⟨rfl,S,n,hk⟩
  ·obtain⟨its,_,pl,_⟩:=I.list hq
   refine⟨pl.isList.typeIs,fun a e=>?_⟩
   cases e
   obtain⟨o,n,e,c,hd,_⟩:=pl
   exact⟨o,e,hd⟩
  ·refine⟨⟨o,I.kIn p o hk,hc⟩,fun a e=>?_⟩
   cases e
   exact⟨o,I.kIn _ o hk,hd⟩
  ·have z:∃o,s.heap.get? p=some o∧o.ExactDict:=by
    rcases hk with ⟨kvs,hk⟩|⟨kvs,hk⟩
    ·obtain⟨_,_,_,_,o,_,_,e,ex,_⟩:=I.hok p _ hk
     exact⟨o,e,ex⟩
    ·obtain⟨_,_,_,_,o,_,_,e,ex,_⟩:=I.hok p _ hk
     exact⟨o,e,ex⟩
   obtain⟨o,e,ex⟩:=z
   refine⟨⟨o,e,ex.1⟩,fun a e2=>?_⟩
   cases e2
   exact⟨o,e,ex.2.1⟩
  ·obtain⟨o,_,_,_,e,ex,_⟩:=I.hok p _ hk
   refine⟨⟨o,e,ex.1⟩,fun a e2=>?_⟩
   cases e2
   exact⟨o,e,ex.2.1⟩
 |_=>exact False.elim ty
def tBM (K:PySem.W.Frag)(T:String)(r:V→List V→Hp→VK→Prop)(to:TE)(t:TA):TE:=fun σ H Q=>to σ H fun x H1=>tyV K T x H1∧t σ H1 fun xs H2=>r x xs H2 Q
variable {o e:Expr}{es:List Expr}{to:TE}{t:TA}{name:Str}{apos cpos:Pos}{T id:String}{r:V→List V→Hp→VK→Prop}
theorem gf (pa:PlainAttrs T)(slot:Slot T name id)(hty:typeOf (.builtin id)=pure (.type "method_descriptor"))(hm:MtR X id r)(ho:PE X o to)(ha:PA X (e::es) t)
  (hbase:attributeBase o name X.env (eval o X.env)=eval o X.env:=by rfl)
  (hfew:((backTo cpos (starEach (e::es) X.env)).all (fun x=>!x.1)&&(backToKw cpos (keywordEach [] X.env)).all (fun x=>x.1.isSome)
   &&decide ((e::es).length+([]:List Keyword).length+(if ([]:List Keyword).isEmpty then 0 else 1)<30))=true:=by rfl)
  (hline:(apos.endLine == cpos.line)=true:=by rfl) (hs:starEach (e::es) X.env=(false,eval e X.env)::starEach es X.env:=by rfl) (hplain:(backTo cpos (starEach es X.env)).any (·.1)=false:=by rfl):
  PE X (.Call (.Attribute o name apos) (e::es) [] cpos) (tBM X.K T r to t):=by
 intro pins s σ H Q I h
 refine wpAny_Call_method_late hbase hfew hline rfl (thn (ho pins s σ H _ I h) fun v s1 ⟨x,H1,I1,r1,ty,q1⟩=>?_)
 obtain⟨h1,h2⟩:=bt I1 r1 ty
 refine⟨T,id,pa,slot,hty,h1,h2,?_⟩
 have hA:=ha cpos pins s1 σ H1 _ I1 q1
 rw[hs] at hA ⊢
 refine Calls.callWith_builtin (by show (false||(backTo cpos (starEach es X.env)).any (·.1))=false;rw[hplain]<;>rfl) (Calls.evalArgs_plain ?_)
 exact thn hA fun us s2 ⟨vs,H2,I2,r2,q2⟩=>hm pins s2 σ H2 x vs v us Q I2 r1 r2 q2
/- xs.append(e),list.index on a module's tuple .. are MtR facts of 06m -/
end
def MtM (X:Cx)(id:String)(r:V→List V→Hp→VK→Prop):Prop:=
 ∀(pins:List (Addr×Obj)) (s:Shared) (σ:St) (H:Hp) (x:V) (xs:List V) (v:Value) (us:List Value) (Q:VK),Inv X pins σ H s→RelV x v→Vals xs us→r x xs H Q→
  wpAny (model X.prog X.w) X.A (call (.builtin id) (v::us)) (EP X pins σ Q) X.xe s
theorem Vals.one :∀{x:V} {us:List Value},Vals [x] us→∃u,us=[u]∧RelV x u
 |_,_,.cons r .nil=>⟨_,rfl,r⟩
theorem Vals.two :∀{x y:V} {us:List Value},Vals [x,y] us→∃u v,us=[u,v]∧RelV x u∧RelV y v
 |_,_,_,.cons r (.cons q .nil)=>⟨_,_,rfl,r,q⟩
section
variable {X:Cx}{pins:List (Addr×Obj)}{σ:St}{H:Hp}{s:Shared}{l b:Addr}{xs ys zs:List V}
theorem Inv.lset {its its':List Value}{n:Nat}{f:Array Value→Array Value}{t':Nat}(I:Inv X pins σ H s)(hH:H l=some (.lst xs))
  (e:s.heap.get? l=some {cls:=.type "list",data:=.seq its.toArray n}) (hf:f its.toArray=its'.toArray) (hv:Vals ys its') (hz:ys.length≤sizeLine):
  Inv X pins σ (upd H l (.lst ys)) {s with heap:=s.heap.update l (Obj.mapSeq f),toks:=t'}:=by
 have q:=PySem.IsL.update e f
 rw[hf] at q
 refine I.write (x:=l) (e:=l) (by rw[hH];exact trivial) (.inl rfl) (fun b' u hb hu=>(zl0 s.heap (Obj.mapSeq f) (zr9 hb)).trans hu) ⟨_,q⟩ ?_
 exact⟨hz,its',_,hv,q⟩
theorem Inv.fresh (I:Inv X pins σ H s):H s.heap.objs.size=none:=I.hok.fresh (zj8 _)
theorem Inv.lstM (I:Inv X pins σ H s)(hH:H l=some (.lst xs)):xs.length≤sizeLine∧∃(its:List Value) (n:Nat),Vals xs its∧xs.length=its.length∧s.heap.get? l=some {cls:=.type "list",data:=.seq its.toArray n}:=by
 obtain⟨z,its,n,r,e⟩:=I.hok l _ hH
 exact⟨z,its,n,r,r.length,e⟩
end
section
variable {X:Cx}
def fq :V→List V→Hp→VK→Prop:=fun x vs H Q=>∃l xs y,x=.ref l∧vs=[y]∧H l=some (.lst xs)∧xs.length<sizeLine∧Q .non (upd H l (.lst (xs++[y])))
theorem sr :MtM X "list.append" fq:=by
 intro pins s σ H x vs v us Q I rx rv h
 obtain⟨l,xs,y,rfl,rfl,hH,hz,q⟩:=h
 cases rx
 obtain⟨u,rfl,ru⟩:=rv.one
 obtain⟨z,its,n,r,hl,e⟩:=I.lstM hH
 refine call_meets F.slot_list_append ⟨_,e,rfl⟩ F.entry_list_append (F.args_list_append_2 _ _) (PySem.list_append l its.toArray n u (by rw[zk8];omega)) ⟨e,?_⟩
 refine⟨.non,_,I.lset (its':=its++[u]) hH e (by simp) (r.append (.cons ru .nil)) ?_,rfl,q⟩
 rw[zk6,zp2]
 omega
end
section
variable {prog:Program}{w:World}{A:Around}{E:Value→Shared→Prop}{s:Shared}
end
section
variable {X:Cx}
end
end L2
namespace Att
open PySem PySem.W PySem.Calls PyProof.Rows
theorem ub {P:Params}{h:Heap}:∀(ns:List Int) (vs:List Value),WellAll P h vs (ns.map WData.int)→IntsAre vs ns:=by
 intro ns
 induction ns with
 |nil=>
  intro vs w
  rw[List.map_nil] at w
  cases w
  exact .nil
 |cons n ns ih=>
  intro vs w
  rw[zm8] at w
  cases w with
  |cons a b=>
   cases a
   exact .cons _ _ (ih _ b)
theorem kF {l:OpenLaw}{n:Nat}(hn:l.most=some n){P:Params}{h:Heap}{args:List WData}{vals:List Value}
  (hpre:l.row.toRowW.claim.pre args=true) (hwl:WellAll P h vals args):
  ∃a vs ns,vals=[Value.ref a]∧args=[WData.list (ns.map WData.int)]∧h.get? a=some {cls:=.type "list",data:=.seq vs.toArray}∧IntsAre vs ns∧ns.length≤n:=by
 have hsh:WShape.hasAll [] args [.list .int]=true:=(pre_splitW hpre).1
 have hc:l.pre.holds [] {args:=args}=true:=(pre_splitW hpre).2
 obtain⟨d,r,rfl,h1,h2⟩:=hasAllW_cons hsh
 obtain rfl:=hasAllW_nil h2
 obtain⟨xs,rfl,h3⟩:=hasW_list h1
 obtain⟨ns,rfl⟩:=items_int h3
 have hlen:ns.length≤n:=by
  unfold OpenLaw.pre at hc
  have h4:(WTm.not (.lt (.lit (.int (n:Int))) (.len (.arg 0)))).holds [] {args:=[.list (ns.map .int)]}=true:=by
   have h4:=(holds_andW hc).1
   rw[hn] at h4
   exact h4
  have h5:=condW_of h4 (w_not (w_lt w_lit (w_len_list (w_arg rfl))))
  rw[zj1] at h5
  refine Nat.le_of_not_lt fun q=>?_
  have q':(n:Int)<((ns.length:Nat):Int):=by omega
  first
   |(rw[zm0 q'] at h5;exact absurd h5 (by decide))
   |(simp at h5;omega)
 cases hwl with
 |cons w1 w2=>
  cases w2
  cases w1 with
  |list ho hall=>exact⟨_,_,ns,rfl,rfl,ho,ub ns _ hall,hlen⟩
theorem lF (l:OpenLaw)(args:List WData):l.row.toRowW.claim.post args (.bool true) args=true:=
 postW_of (r:=l.row.toRowW) (X:=(true == true))
  (show WShape.has [] (.bool true) .bool=true by first|rfl|decide|simp[WShape.has,WShape.arms,WShape.armsAll])
  (show (WTm.eq .res (.lit (.bool true))).value [] {args:=args,res:=some (.bool true),after:=args}=some (.bool (true == true)) from w_eq_bool (w_res rfl) w_lit) rfl
theorem attach_call {l:OpenLaw}{n:Nat}{q:Program}{loose:List Str}{XP:(Str→Option Value)→Heap→Prop}{YP:World→Heap→Prop}{d:DefRec}
  (hn:l.most=some n) (hdf:d.params.defaults=[])
  (call:∀(w:World) (s₀ s₁:Shared) (mg mb:Str→Option Value) (fa:Addr) (o:Obj) (pm cd doc:Value) (a:Addr) (vs:List Value) (ns:List Int),
   Ground q loose [] XP w s₀ mg mb s₁.heap→YP w s₁.heap→
   s₁.heap.get? fa=some o→o.data=.func (docDef d.name d.params d.body d.scope pm cd doc)→s₁.heap.CodeRec cd d.name→mg d.name=some (.ref fa)→
   s₁.heap.get? a=some {cls:=.type "list",data:=.seq vs.toArray}→IntsAre vs ns→ns.length≤n→s₁.gens=#[]→
   codeAny (model l.prog w) callerA (.call (.ref fa) ⟨[.ref a],[]⟩) (fun r s'=>r=.ok (.ret (.bool true))∧OldK s₁.heap s'.heap∧s'.os=s₁.os∧AllBare s'.gens) s₁):
  WalkO q loose XP YP l.row.toRowW d [] (fun f vs=>PySem.call f vs):=by
 intro w s₀ s₁ mg mb G Y fa o pm cd doc dV kV ho hd hcd hD hmg hg args vals as hpre hlay hrd hwl hlo
 obtain rfl:dV=.none:=Dflts.none hD hdf
 obtain rfl:kV=.none:=Dflts.noKw hD
 obtain⟨a,vs,ns,rfl,rfl,hobj,hints,hlen⟩:=kF hn hpre hwl
 refine enter_call (zs1 (call w s₀ s₁ mg mb fa o pm cd doc a vs ns G Y ho (fd_plain hd) hcd hmg hobj hints hlen hg) fun r s' hq=>?_)
 obtain⟨rfl,h2,h3,h4⟩:=hq
 exact⟨.inl ⟨.bool true,.bool true,[],rfl,fun _=>rfl,.bool true,lF l _,fun _=>⟨List.Pairwise.nil,fun _ hm=>(nomatch hm)⟩⟩,h2,h3,h4⟩
section
variable {prog:Program}{w:World}{A:Around}{E:Value→Shared→Prop}{s:Shared}{K:Frag}
end
end Att
namespace L2
open PySem PySem.Spec PyProof.Rows
theorem sA :∀{vs:List Value} {ns:List Int},IntsAre vs ns→Vals (ns.map V.int) vs
 |_,_,.nil=>.nil
 |_,_,.cons n t h=>.cons ⟨t,rfl⟩ (sA h)
def dI (H:Hp):Prop:=∀b,H b=none∨∃o xs,H b=some (.frz o (.lst xs))
theorem jg {P:Program}{w:World}{K:PySem.W.Frag}{mg mb:Str→Option Value}{CX:CXT}{k:Nat}{fa a:Addr}{fd:FuncData}{x:Str}{sp:Sp}{s₁:Shared}{vs:List Value}{ns:List Int}
  (KX:K.In s₁.heap) (hns:s₁.heap.Ns mainGlobals mg) (hb:s₁.heap.Ns builtinsNs mb) (hbb:∀x:Str,x≠"__name__"→mb x=bootBuiltins x) (hlim:s₁.heap.NoLimit) (hg:s₁.gens=#[])
  (ha:s₁.heap.get? a=some {cls:=.type "list",data:=.seq vs.toArray}) (hi:IntsAre vs ns) (hl:ns.length≤sizeLine) (hr:zG k callerA)
  (F:∀base:Heap,K.In base→base.Ns mainGlobals mg→zr P w K mg base CX k fa fd [x] sp) (hbind:∀(s:Shared) (u:Value),BindsTo s fd ⟨[u],[]⟩ [(x,u)])
  (hsp:∀H:Hp,dI H→SqL K H a (ns.map V.int)→sp [.ref a] H (fun v _=>v=.bl true) fun _ _ _=>False)
  (hCX:∀H e s',CX [] H s₁ (fun _ _ _=>False) e s'→False):
  codeAny (model P w) callerA (.call (.ref fa) ⟨[.ref a],[]⟩) (fun r s'=>r=.ok (.ret (.bool true))∧OldK s₁.heap s'.heap∧s'.os=s₁.os∧AllBare s'.gens) s₁:=by
 have rv:=sA hi
 have lenV:=hi.length
 -- from an abstract heap in which nothing but the script may be tracked
 have core:∀H:Hp,dI H→SqL K H a (ns.map V.int)→HOk P w H s₁.heap→(∀b,H b≠none→b=a)→(H a≠none→K.lookup a=none)→
   codeAny (model P w) callerA (.call (.ref fa) ⟨[.ref a],[]⟩) (fun r s'=>r=.ok (.ret (.bool true))∧OldK s₁.heap s'.heap∧s'.os=s₁.os∧AllBare s'.gens) s₁:=by
  intro H hO hS hok hA hK
  have base_of:∀{b:Addr} {o:Obj},s₁.heap.get? b=some o→H b=none→(rR s₁.heap H).get? b=some o:=fun e n=>jT e n
  have noA:∀{b:Addr} {o:Obj} {es:Array DictEntry} {ep:Nat},s₁.heap.get? b=some o→o.data=.dict es ep→H b=none:=fun {b o es ep} e d=>by
   cases q:H b with
   |none=>rfl
   |some u=>
    have e':b=a:=hA b (by rw[q];simp)
    subst e'
    rw[ha] at e;cases e
    have d':Data.seq vs.toArray _=Data.dict es ep:=d
    cases d'
  have nsK:∀{b:Addr} {m:Str→Option Value},s₁.heap.Ns b m→(rR s₁.heap H).Ns b m:=fun {b m} ⟨o,es,ep,e,d,r⟩=>⟨o,es,ep,base_of e (noA e d),d,r⟩
  have hKb:K.In (rR s₁.heap H):=fun b o e=>base_of (KX b o e) (by
   cases q:H b with
   |none=>rfl
   |some u=>
    have e':b=a:=hA b (by rw[q];simp)
    subst e'
    rw[hK (by rw[q];simp)] at e;cases e)
  have hM:Mod K mg (rR s₁.heap H):=⟨hKb,nsK hns,⟨mb,nsK hb,hbb⟩,let ⟨mc,h1,h2⟩:=hlim;⟨mc,nsK h1,h2⟩⟩
  have e0:oR P w K mg (rR s₁.heap H) callerA [] s₁ H:=⟨rfl,hM,fun b o e=>fZ e,Nat.le_of_eq (lW _ _),trivial,fun b hb=>absurd (show b∈([]:List Addr) from hb) (by simp),hok,.of_eq hg⟩
  refine zs1 ((F _ hKb (nsK hns)).run callerA [] s₁ H ⟨[.ref a],[]⟩ [.ref a] [.ref a] _ _ hr e0 (hbind s₁ (.ref a)) (.cons rfl .nil) (hsp H hO hS)) fun r s' h=>?_
  cases r with
  |error e=>exact (hCX H e s' h).elim
  |ok fl=>
   cases fl with
   |next=>exact False.elim h
   |brk=>exact False.elim h
   |cont=>exact False.elim h
   |ret u=>
    obtain⟨v,H',os,bare,un,hok',r',q⟩:=h
    have q':v=.bl true:=q
    subst q'
    obtain rfl:u=Value.bool true:=r'
    refine⟨rfl,OldK.of_keep fun b o e=>?_,os,bare⟩
    cases q:H b with
    |none=>exact un.keep b o e q (by intro z;exact absurd (show b∈([]:List Addr) from z) (by simp)) (by simp)
    |some u=>
     rcases hO b with z|⟨ob,xs,z⟩
     ·rw[q] at z;cases z
     ·have z2:=un.frzs b ob _ z
      obtain⟨e1,_⟩:=hok b _ z
      obtain⟨e2,_⟩:=hok' b _ z2
      rw[e] at e1;cases e1
      exact e2
 cases hk:K.lookup a with
 |some o=>
  -- the script is one of the module's own objects
  have e:=KX a o hk
  rw[ha] at e
  cases e
  refine core (fun _=>none) (fun _=>.inl rfl) (.inr ⟨_,vs.toArray,_,hk,rfl,rfl,rfl,by rw[zk8,lenV];exact hl,by simpa using rv⟩) (fun b u z=>by have z':(none:Option HO)=some u:=z;cases z') (fun b z=>absurd rfl z) fun z=>absurd rfl z
 |none=>
  refine core (fun b=>if b=a then some (.frz {cls:=.type "list",data:=.seq vs.toArray} (.lst (ns.map V.int))) else none) (fun b=>?_) (.inl (.inr ⟨{cls:=.type "list",data:=.seq vs.toArray},if_pos rfl⟩)) (fun b u z=>?_) (fun b z=>?_) fun _=>hk
  ·by_cases hb:b=a
   ·exact .inr ⟨_,_,if_pos hb⟩
   ·exact .inl (if_neg hb)
  ·by_cases hb:b=a
   ·have z':=(if_pos hb).symm.trans z
    cases z'
    subst hb
    exact⟨ha,by rw[zj1];exact hl,vs,_,rv,ha⟩
   ·have z':=(if_neg hb).symm.trans z
    cases z'
  ·by_cases hb:b=a
   ·exact hb
   ·exact absurd (if_neg hb) z
theorem eS {l:PySem.W.OpenLaw}{n k:Nat}{q:Program}{loose:List Str}{XP:(Str→Option Value)→Heap→Prop}{YP:World→Heap→Prop}{d:DefRec}{K:Params→PySem.W.Frag}{CX:World→CXT}{sp:World→Sp}{x:Str}
  (hn:l.most=some n) (hn2:n≤sizeLine) (hdf:d.params.defaults=[]) (hr:zG k callerA)
  (hY:∀(w:World) (h:Heap),YP w h→(K w.params).In h)
  (F:∀(w:World) (mg:Str→Option Value) (fa:Addr) (h:Heap),(K w.params).In h→h.Ns mainGlobals mg→mg d.name=some (.ref fa)→
   ∃fd:FuncData,(∀(s:Shared) (u:Value),BindsTo s fd ⟨[u],[]⟩ [(x,u)])∧
    ∀base:Heap,(K w.params).In base→base.Ns mainGlobals mg→zr l.prog w (K w.params) mg base (CX w) k fa fd [x] (sp w))
  (hsp:∀(w:World) (H:Hp) (a:Addr) (ns:List Int),ns.length≤n→dI H→SqL (K w.params) H a (ns.map V.int)→sp w [.ref a] H (fun v _=>v=.bl true) fun _ _ _=>False)
  (hCX:∀(w:World) (H:Hp) (s:Shared) (e:Value) (s':Shared),CX w [] H s (fun _ _ _=>False) e s'→False):
  PySem.W.WalkO q loose XP YP l.row.toRowW d [] (fun f vs=>PySem.call f vs):=by
 refine Att.attach_call hn hdf fun w s₀ s₁ mg mb fa o pm cd doc a vs ns G Y ho hd hcd hmg hobj hints hlen hg=>?_
 have KX:=hY w _ Y
 obtain⟨fd,hb,hF⟩:=F w mg fa _ KX G.T.g hmg
 exact jg KX G.T.g G.T.b G.T.builtins G.T.nolimit hg hobj hints (zl2 hlen hn2) hr hF hb (fun H hO hS=>hsp w H a ns hlen hO hS) fun H e s'=>hCX w H s₁ e s'
def inClass (s:Stmt)(j:Nat):Stmt:=match s with
 |.ClassDef _ _ _ body _ _ _ _ _ _ _=>body.getD j (.Pass ⟨0,0,0,0⟩)
 |_=>.Pass ⟨0,0,0,0⟩
def zV (s:Stmt):Arguments:=match s with
 |.FunctionDef _ a _ _ _ _ _ _ _ _=>a
 |_=>{posonlyargs:=[],args:=[],vararg:=none,kwonlyargs:=[],kw_defaults:=[],kwarg:=none,defaults:=[]}
def zv (s:Stmt):List Stmt:=match s with
 |.FunctionDef _ _ b _ _ _ _ _ _ _=>b
 |_=>[]
def za (s:Stmt):Scope:=match s with
 |.FunctionDef _ _ _ _ _ _ sc _ _ _=>sc
 |_=>{kind:=.function,names:=[],isGenerator:=false,isCoroutine:=false}
abbrev CX0 :CXT:=fun _ _ _ _ _ _=>False
abbrev E0 :XK:=fun _ _ _=>False
theorem zQ {X:Cx}:Passes CX0 X E0:=fun _ _ _ _ _ _ _ h=>h.elim
structure Fun (K:PySem.W.Frag)(x qual:Str)(st:Stmt)(f:Addr)(fd:FuncData):Prop where
 ex:∃(oc:Value) (od:Option Addr) (kV doc pm:Value) (an:Option Addr) (cdv ct:Value) (osl:Array (Option Value)),
  fd=PySem.W.fnOf x qual (zV st) (zv st) (za st) .none kV doc pm an cdv ct∧K.lookup f=some ⟨oc,od,.func fd,osl⟩∧PySem.W.codeIn K cdv qual=true
 kp:PySem.W.keepIn K (.ref f)=true
section
variable {P:Program}{w:World}{K:PySem.W.Frag}{mg:Str→Option Value}{base:Heap}
theorem Fun.ok {x qual:Str}{st:Stmt}{f:Addr}{fd:FuncData}{N ps:List Str}{k:Nat}{sp:Sp}(F:Fun K x qual st f fd)(S:zf N ps (za st))(len:∀vs H Q E,sp vs H Q E→vs.length=ps.length)
  (hbody:∀(cdv:Value) (A:Around) (outer:List Env) (s:Shared) (H:Hp) (vs:List V) (Q:VK) (E:XK),zG k (A.deeper (envOfC qual (za st) s.heap.objs.size f cdv))→sp vs H Q E→
   ∃t,PSs (yQ CX0 P w K mg base N qual (za st) f cdv A outer s H E).nox (zv st) t∧t {nx:=fun _ H'=>Q .non H',rt:=Q} (start N vs) H):zr P w K mg base CX0 (k+1) f fd ps sp:=by
 obtain⟨oc,od,kV,doc,pm,an,cdv,ct,osl,rfl,lk,hcd⟩:=F.ex
 refine mM lk hcd S len fun A outer s H vs Q E hr hsp=>?_
 obtain⟨t,h,q⟩:=hbody cdv A outer s H vs Q E hr hsp
 exact⟨t,h.nox,q⟩
theorem Fun.binds {x qual:Str}{st:Stmt}{f:Addr}{fd:FuncData}{ps:List Str}(F:Fun K x qual st f fd)
  (h:∀(kV doc pm:Value) (an:Option Addr) (cdv ct:Value) (us:List Value),us.length=ps.length→bindArgs (PySem.W.fnOf x qual (zV st) (zv st) (za st) .none kV doc pm an cdv ct) ⟨us,[]⟩=pure (ps.zip us)):Binds K fd ps []:=by
 obtain⟨oc,od,kV,doc,pm,an,cdv,ct,osl,rfl,lk,hcd⟩:=F.ex
 exact .all (h kV doc pm an cdv ct)
theorem iS {x qual:Str}{st:Stmt}{f:Addr}{oc:Value}{od an:Option Addr}{osl:Array (Option Value)}{kV doc pm cdv ct:Value}(l:K.lookup f=some ⟨oc,od,.func (PySem.W.fnOf x qual (zV st) (zv st) (za st) .none kV doc pm an cdv ct),osl⟩)
  (c:PySem.W.codeIn K cdv qual=true) (k:PySem.W.keepIn K (.ref f)=true):Fun K x qual st f (PySem.W.fnOf x qual (zV st) (zv st) (za st) .none kV doc pm an cdv ct):=⟨⟨oc,od,kV,doc,pm,an,cdv,ct,osl,rfl,l,c⟩,k⟩
end
theorem wL {n:Nat}(h:n≤1000):n<sizeLine:=Nat.lt_of_le_of_lt h (by decide)
section
variable {X:Cx}
theorem pv (i:Nat){x:Str}{pos:Pos}(hN:X.N[i]?=some x:=by rfl)(hv:Vis X.env.scope x:=by first|exact Or.inl rfl|exact Or.inr (Or.inl rfl)|exact Or.inr (Or.inr rfl))(hd:(x == ("__debug__":Str))=false:=by decide)
  (hcd:(x == ("__classdict__":Str))=false:=by decide):PE X (.Name x pos) (zc0 i):=yx hN hv hd hcd
end
theorem vC {A B:Prop}(h:B):if false=true then A else B:=by
 rw[if_neg zk1]
 exact h
theorem vL {A B:Prop}(h:A):if true=true then A else B:=by
 rw[if_pos rfl]
 exact h
theorem yt {c A B:Prop}[Decidable c](h1:c→A)(h2:¬c→B):if c then A else B:=by
 by_cases h:c
 ·rw[if_pos h]
  exact h1 h
 ·rw[if_neg h]
  exact h2 h
def zq (H H':Hp):Prop:=∀b o,H b=some o→H' b=some o
theorem zq.refl (H:Hp):zq H H:=fun _ _ h=>h
theorem zq.trans {H H1 H2:Hp}(a:zq H H1)(b:zq H1 H2):zq H H2:=fun c o h=>b c o (a c o h)
theorem zq.free {H H':Hp}(e:zq H H'){l:Addr}(h:H' l=Option.none):H l=Option.none:=by
 cases q:H l with
 |none=>rfl
 |some o=>
  rw[e l o q] at h
  cases h
def vh (cells:List (Str×Addr)):List (Str×NameKind)→List (Str×Addr)→List (Str×Addr)
 |[],acc=>acc
 |(n,k)::r,acc=>vh cells r (if k=.free then (n,(cells.lookup n).getD 0)::acc else acc)
theorem wW {env:Env}{scope:Scope}(h:∀y∈scope.names,y.2=.free→∃c,env.cells.lookup y.1=some c):
  closureFor scope env=pure (vh env.cells scope.names []):=by
 have key:∀(ns:List (Str×NameKind)) (acc:List (Str×Addr)),(∀y∈ns,y.2=.free→∃c,env.cells.lookup y.1=some c)→
   (forIn ns acc fun (x:Str×NameKind) (r:List (Str×Addr))=>(if (x.2 == NameKind.free)=true then (do let a ←cellOf env x.1;pure (ForInStep.yield ((x.1,a)::r))) else pure (ForInStep.yield r):Sem (ForInStep (List (Str×Addr)))))=pure (vh env.cells ns acc):=by
  intro ns
  induction ns with
  |nil=>intro acc _;rfl
  |cons y r ih=>
   intro acc hy
   obtain⟨n,k⟩:=y
   rw[List.forIn_cons]
   have hr:∀z∈r,z.2=.free→∃c,env.cells.lookup z.1=some c:=fun z hz=>hy z (zj7 _ hz)
   by_cases hk:k=.free
   ·subst hk
    obtain⟨c,hc⟩:=hy (n,.free) zk0 rfl
    have e1:cellOf env n=pure c:=by
     unfold cellOf
     rw[hc]
    have e2:((NameKind.free == NameKind.free)=true):=rfl
    simp only[e2,if_true,e1,pure_bind]
    rw[ih _ hr]
    show _=pure (vh env.cells r (if NameKind.free=NameKind.free then (n,(env.cells.lookup n).getD 0)::acc else acc))
    rw[if_pos rfl,hc]
    rfl
   ·have e2:(k == NameKind.free)=false:=by simpa using hk
    simp only[e2,Bool.false_eq_true,if_false,pure_bind]
    rw[ih _ hr]
    show _=pure (vh env.cells r (if k=NameKind.free then (n,(env.cells.lookup n).getD 0)::acc else acc))
    rw[if_neg hk]
 have q:=key scope.names [] h
 unfold closureFor
 simp only[] at q ⊢
 rw[show (forIn scope.names ([]:List (Str×Addr)) fun (x:Str×NameKind) (r:List (Str×Addr))=>_)=_ from q]
 rfl
theorem pD {cells:List (Str×Addr)}:∀(ns:List (Str×NameKind)) (acc:List (Str×Addr)),(∀y∈ns,y.2=.free→∃c,cells.lookup y.1=some c)→
  ∀x c,(x,c)∈vh cells ns acc→(x,c)∈acc∨((x,NameKind.free)∈ns∧cells.lookup x=some c)
 |[],acc,_,x,c,h=>.inl h
 |(n,k)::r,acc,hy,x,c,h=>by
  have hr:∀z∈r,z.2=.free→∃c,cells.lookup z.1=some c:=fun z hz=>hy z (zj7 _ hz)
  have h':(x,c)∈vh cells r (if k=.free then (n,(cells.lookup n).getD 0)::acc else acc):=h
  rcases pD r _ hr x c h' with q|⟨q1,q2⟩
  ·by_cases hk:k=.free
   ·rw[if_pos hk] at q
    rcases zj5.mp q with e|q
    ·obtain⟨c',hc⟩:=hy (n,k) zk0 hk
     have e1:x=n:=congrArg Prod.fst e
     have e2:c=(cells.lookup n).getD 0:=congrArg Prod.snd e
     have hc':cells.lookup n=some c':=hc
     rw[hc'] at e2
     have e3:c=c':=e2
     subst e1 e3 hk
     exact .inr ⟨zk0,hc'⟩
    ·exact .inl q
   ·rw[if_neg hk] at q
    exact .inl q
  ·exact .inr ⟨zj7 _ q1,q2⟩
theorem pB {cells:List (Str×Addr)}:∀(ns:List (Str×NameKind)) (acc:List (Str×Addr)) (p:Str×Addr),p∈acc→p∈vh cells ns acc
 |[],_,_,h=>h
 |(n,k)::r,acc,p,h=>by
  show p∈vh cells r (if k=.free then (n,(cells.lookup n).getD 0)::acc else acc)
  refine pB r _ p ?_
  split
  ·exact zj7 _ h
  ·exact h
theorem qN {cells:List (Str×Addr)}:∀(ns:List (Str×NameKind)) (acc:List (Str×Addr)) (x:Str),(x,NameKind.free)∈ns→∃c,(x,c)∈vh cells ns acc
 |[],_,_,h=>by simp at h
 |(n,k)::r,acc,x,h=>by
  show ∃c,(x,c)∈vh cells r (if k=.free then (n,(cells.lookup n).getD 0)::acc else acc)
  rcases zj5.mp h with e|h
  ·have e1:x=n:=congrArg Prod.fst e
   have e2:NameKind.free=k:=congrArg Prod.snd e
   subst e1 e2
   rw[if_pos rfl]
   exact⟨_,pB r _ _ zk0⟩
  ·exact qN r _ x h
theorem mem_lookup {x:Str}{c:Addr}:∀{l:List (Str×Addr)},(x,c)∈l→∃d,l.lookup x=some d
 |[],h=>by simp at h
 |(n,a)::r,h=>by
  rw[zn5]
  cases e:x == n with
  |true=>exact⟨a,rfl⟩
  |false=>
   rcases zj5.mp h with q|q
   ·have e1:x=n:=congrArg Prod.fst q
    rw[e1] at e
    simp at e
   ·exact mem_lookup q
structure zR (XN:List Str)(xs:Scope)(N:List Str)(imp:List (Option Nat))(scope:Scope):Prop where
 kind:scope.kind=.function
 nd:N.Nodup
 nocell:∀y∈scope.names,y.2≠.cell
 locs:∀y∈scope.names,y.2=.local→scope.names.lookup y.1=some .local
 frees:∀y∈scope.names,y.2=.free→xs.names.lookup y.1=some .cell∨xs.names.lookup y.1=some .free
 len:imp.length=N.length
 impsB:((imp.zip N).all fun p=>match p.1 with|none=>true|some j=>XN[j]? == some p.2&&scope.names.lookup p.2 == some .free)=true
theorem zR.imps {XN N:List Str}{xs scope:Scope}{imp:List (Option Nat)}(S:zR XN xs N imp scope):∀(i j:Nat),imp[i]?=some (some j)→∃x,N[i]?=some x∧XN[j]?=some x∧scope.names.lookup x=some .free:=by
 intro i j h
 have hi:i<imp.length:=(zj6.mp h).1
 have hn:i<N.length:=by rw[←S.len];exact hi
 have hx:N[i]?=some N[i]:=zn0 hn
 have hm:(some j,N[i])∈imp.zip N:=by
  have hz:(imp.zip N)[i]?=some (some j,N[i]):=by
   rw[List.getElem?_zip_eq_some]
   exact⟨h,hx⟩
  exact zp6 hz
 have q:=zq2.mp S.impsB _ hm
 have q':(XN[j]? == some N[i]&&scope.names.lookup N[i]==some .free)=true:=q
 rw[zk3] at q'
 exact⟨N[i],hx,eq_of_beq q'.1,eq_of_beq q'.2⟩
def xB (imp:List (Option Nat))(σ:St):St:=imp.map fun o=>o.bind fun j=>(σ[j]?).bind id
theorem lR {imp:List (Option Nat)}{σ:St}{i:Nat}{v:V}(h:(xB imp σ)[i]?=some (some v)):∃j,imp[i]?=some (some j)∧σ[j]?=some (some v):=by
 unfold xB at h
 rw[zl9] at h
 cases e:imp[i]? with
 |none=>rw[e] at h;cases h
 |some o=>
  rw[e] at h
  have h':(o.bind fun j=>(σ[j]?).bind id)=some v:=zl3 h
  cases o with
  |none=>cases h'
  |some j=>
   have h2:(σ[j]?).bind id=some v:=h'
   cases e2:σ[j]? with
   |none=>rw[e2] at h2;cases h2
   |some w=>
    rw[e2] at h2
    have h3:w=some v:=h2
    exact⟨j,rfl,by rw[e2,h3]⟩
def Cx.comp (X:Cx)(N:List Str)(scope:Scope)(C:Addr)(s2:Shared)(H2:Hp)(fp:List Addr):Cx where
 prog:=X.prog
 w:=X.w
 K:=X.K
 mg:=X.mg
 base:=X.base
 A:=X.A
 N:=N
 s₀:=s2
 H₀:=H2
 env:=compEnvC scope (vh X.env.cells scope.names []) C X.env
 outer:=X.stack
 stack:=X.stack
 ex:=fp
 fn:=fun _=>false
 calm:=X.calm
 pn:=[]
 xe:=fun _ _=>False
theorem vB {env:Env}:∀{names:List (Str×NameKind)} {x:Str},
  (names.map fun (n,k)=>if (k == NameKind.free&&env.scope.kind == .function&&env.kindOf n == some .cell) then (n,NameKind.cell) else (n,k)).lookup x=some .cell∨
  (names.map fun (n,k)=>if (k == NameKind.free&&env.scope.kind == .function&&env.kindOf n == some .cell) then (n,NameKind.cell) else (n,k)).lookup x=some .free→
  (∀y∈names,y.2≠.cell)→(x,NameKind.free)∈names
 |[],x,h,_=>by simp at h
 |(n,k)::r,x,h,hc=>by
  have ih:=@vB env r x
  rw[zm8] at h
  dsimp only at h
  by_cases hx:x=n
  ·subst hx
   by_cases hk:k=.free
   ·subst hk;exact zk0
   ·have hk':(k == NameKind.free)=false:=by simpa using hk
    simp only[hk',zq1,Bool.false_eq_true,if_false,zn5,beq_self_eq_true,if_true] at h
    rcases h with h|h
    ·have e:k=.cell:=zl3 h
     exact absurd e (hc (x,k) zk0)
    ·have e:k=.free:=zl3 h
     exact absurd e hk
  ·have hxn:(x == n)=false:=by simpa using hx
   have step:∀(b:Bool) (l:List (Str×NameKind)),List.lookup x ((if b=true then (n,NameKind.cell) else (n,k))::l)=l.lookup x:=fun b l=>by
    cases b<;>simp[zn5,hxn]
   rw[step] at h
   exact zj7 _ (ih h fun y hy=>hc y (zj7 _ hy))
theorem vY {env:Env}:∀{names:List (Str×NameKind)} {x:Str},names.lookup x=some .free→
  (names.map fun (n,k)=>if (k == NameKind.free&&env.scope.kind == .function&&env.kindOf n == some .cell) then (n,NameKind.cell) else (n,k)).lookup x=some .cell∨
  (names.map fun (n,k)=>if (k == NameKind.free&&env.scope.kind == .function&&env.kindOf n == some .cell) then (n,NameKind.cell) else (n,k)).lookup x=some .free
 |[],x,h=>by simp at h
 |(n,k)::r,x,h=>by
  have ih:=@vY env r x
  rw[zm8]
  dsimp only
  rw[zn5] at h
  cases hx:x == n with
  |true=>
   rw[hx] at h
   have e:k=.free:=zl3 h
   subst e
   by_cases hb:(NameKind.free == NameKind.free&&env.scope.kind == .function&&env.kindOf n == some .cell)=true
   ·left;rw[if_pos hb];simp[zn5,hx]
   ·right;rw[if_neg hb];simp[zn5,hx]
  |false=>
   rw[hx] at h
   have step:∀(b:Bool) (l:List (Str×NameKind)),List.lookup x ((if b=true then (n,NameKind.cell) else (n,k))::l)=l.lookup x:=fun b l=>by
    cases b<;>simp[zn5,hx]
   rw[step]
   exact ih h
section
variable {X:Cx}{pins:List (Addr×Obj)}{σ:St}{H2 H':Hp}{s2 s':Shared}{fp:List Addr}{N:List Str}{imp:List (Option Nat)}{scope:Scope}{C acc:Addr}
theorem ve (I:Inv X pins σ H2 s2)(S:zR X.N X.env.scope N imp scope):∀y∈scope.names,y.2=.free→∃c,X.env.cells.lookup y.1=some c:=fun y hy hk=>I.ok.has y.1 (S.frees y hy hk)
theorem xg (I:Inv X pins σ H2 s2)(S:zR X.N X.env.scope N imp scope){x:Str}{c:Addr}(h:(vh X.env.cells scope.names []).lookup x=some c):(x,NameKind.free)∈scope.names∧X.env.cells.lookup x=some c:=by
 rcases pD scope.names [] (ve I S) x c (zo5 h) with q|q
 ·exact absurd q (by simp)
 ·exact q
theorem vA (I:Inv X pins σ H2 s2)(S:zR X.N X.env.scope N imp scope){x:Str}(h:(x,NameKind.free)∈scope.names):∃c,(vh X.env.cells scope.names []).lookup x=some c:=by
 obtain⟨c,hc⟩:=qN (cells:=X.env.cells) scope.names [] x h
 exact mem_lookup hc
theorem gq {h1:Heap}{tk:Nat}{m:Str→Option Value}{n0:Nat}(I:Inv X pins σ H2 s2)(S:zR X.N X.env.scope N imp scope)(hf:∀b∈fp,vG X pins H2 b)(ho:∀b∈fp,∃o,s2.heap.get? b=some o)
  (hacc:acc=s2.heap.objs.size) (hC:C=s2.heap.objs.size+1) (old:∀b o,s2.heap.get? b=some o→h1.get? b=some o) (hn:h1.Ns C m)
  (hl:h1.get? acc=some {cls:=.type "list",data:=.seq ([]:List Value).toArray n0}):
  Inv (X.comp N scope C s2 H2 fp) [] (xB imp σ) (upd H2 acc (.lst [])) {s2 with heap:=h1,toks:=tk}:=by
 have fa:H2 acc=none:=I.hok.fresh (by rw[hacc];exact zj8 _)
 have cac:C≠acc:=by rw[hC,hacc];exact Nat.succ_ne_self _
 have clt:∀x c,X.env.cells.lookup x=some c→c<s2.heap.objs.size:=fun x c e=>by
  obtain⟨v,q⟩:=I.cell x c e
  exact q.lt
 refine⟨⟨I.ok.mod,S.kind,I.ok.glob,I.ok.blt,?above,?inj,?has,?cab,I.ok.hd,I.ok.frames,.inl rfl,?exf,fun b o e=>I.bs b o e,zl2 I.ok.bsz I.sz,?noex,?exfs,I.stack,I.stkFree⟩,
  rfl,I.bare,Un.laid old (by rw[hacc];exact zj8 _) fa,⟨m,hn,?loc⟩,?cell,?free,?freeC,fun p hp=>absurd (show p∈([]:List (Addr×Obj)) from hp) (by simp),I.hok.laid old (by rw[hacc];exact zj8 _) ⟨zm1 _,[],n0,.nil,hl⟩,?len⟩
 case above=>show s2.heap.objs.size≤C;rw[hC];exact zr5 _
 case inj=>exact fun x y c h1 h2=>I.ok.inj x y c (xg I S h1).2 (xg I S h2).2
 case has=>exact fun x hx=>vA I S (vB (env:=X.env) hx S.nocell)
 case cab=>exact fun x c h _=>absurd h (by show ¬(false=true);simp)
 case exf=>
  intro b hb
  obtain⟨o,hob⟩:=ho b hb
  refine⟨?_,fun x c e=>(hf b hb).2.2.2.2.1 x c (xg I S e).2⟩
  show b≠C
  rw[hC]
  exact zl8 (Nat.lt_succ_of_lt (zj9 hob))
 case noex=>
  intro b o e hb
  rcases (hf b hb).2.2.2.1 with z|z
  ·exact I.ok.noex b o e z
  ·exact absurd (zl1 (zj9 e) (zl2 I.ok.bsz z)) (zr3 _)
 case exfs=>
  intro b hb hz
  rcases zj5.mp (I.stkSub b hz) with e|e
  ·exact (hf b hb).2.1 e
  ·exact (hf b hb).2.2.1 e
 case loc=>
  intro i x v e1 e2 e3
  obtain⟨j,q1,q2⟩:=lR e2
  obtain⟨y,n1,n2,n3⟩:=S.imps i j q1
  have n1':(X.comp N scope C s2 H2 fp).N[i]?=some y:=n1
  rw[n1'] at e1
  have exy:y=x:=zl3 e1
  subst exy
  have hfr:=S.frees (y,.free) (zo5 n3) rfl
  obtain⟨mX,hnX,hlX⟩:=I.loc
  obtain⟨u,r,l⟩:=hlX j y v n2 q2 (.inr hfr)
  refine⟨u,r,?_⟩
  rcases l with ⟨k,_⟩|⟨k,c,e,z⟩
  ·have k':X.env.scope.names.lookup y=some .local:=k
   rcases hfr with z|z
   ·have z':X.env.scope.names.lookup y=some .cell:=z
    rw[k'] at z';cases z'
   ·have z':X.env.scope.names.lookup y=some .free:=z
    rw[k'] at z';cases z'
  ·obtain⟨d,hd⟩:=vA I S (zo5 n3)
   have hd2:=(xg I S hd).2
   rw[e] at hd2
   have edc:c=d:=zl3 hd2
   subst edc
   exact .inr ⟨vY (env:=X.env) n3,c,hd,z.keeps old⟩
 case cell=>
  intro x c e
  obtain⟨v,q⟩:=I.cell x c (xg I S e).2
  exact⟨v,q.keeps old⟩
 case free=>
  show upd H2 acc _ C=none
  rw[zg cac]
  exact I.hok.fresh (by rw[hC];exact zr5 _)
 case freeC=>
  intro x c e
  have e':=(xg I S e).2
  have hlt:=clt x c e'
  show upd H2 acc _ c=none
  rw[zg (by rw[hacc];exact zl8 hlt)]
  exact I.freeC x c e'
 case len=>
  show (xB imp σ).length=N.length
  unfold xB
  rw[zj1]
  exact S.len
theorem lV {pl:List (Addr×Obj)}{τ:St}(I:Inv X pins σ H2 s2)(hf:∀b∈fp,vG X pins H2 b)(J:Inv (X.comp N scope C s2 H2 fp) pl τ H' s'):Inv X pins σ H' s':=
 I.call' (ch:=fp) J.os J.base J.hok J.bare fun b hb=>⟨(hf b hb).2.2.2.1,(hf b hb).2.1,(hf b hb).2.2.2.2.1,(hf b hb).2.2.2.2.2⟩
end
section
variable {prog:Program}{w:World}{A:Around}{R:Result→Shared→Prop}{s:Shared}
theorem rX {elt target iter:Expr}{ifs:List Expr}{scope:Scope}{pos:Pos}{it acc:Value}{env:Env}(I:Nat→Shared→Prop)
  (turn:∀n s,I n s→wpAny (model prog w) A (pyNext it) (fun r s1=>match r with
   |none=>R (.ok .next) s1
   |some v=>wpAny (model prog w) A (letOwnedTupleGo target it v) (fun _ s2=>wpAny (model prog w) A (assign target env v) (fun _ s3=>
     wpAny (model prog w) A (forIn ifs true fun c r=>if r=true then do let ok ←isTrue c env (eval c env);pure (ForInStep.yield ok) else pure (ForInStep.yield r)) (fun ok s4=>
      if ok=true then wpAny (model prog w) A (eval elt env) (fun x s5=>
       wpAny (model prog w) A (call (.builtin "list.append") [acc,x]) (fun _ s6=>∃m,m<n∧I m s6) (fun _ _=>False) s5) (fun _ _=>False) s4
      else ∃m,m<n∧I m s4) (fun _ _=>False) s3) (fun _ _=>False) s2) (fun _ _=>False) s1) (fun _ _=>False) s)
  (n:Nat) (h:I n s):codeAny (model prog w) A (.compLoop (.ListComp elt [⟨target,iter,ifs,0⟩] scope pos) 0 it acc env) R s:=by
 refine codeAny_loop rfl I (fun n s hI=>?_) n h
 show wpAny _ A ((compTurn (.ListComp elt [⟨target,iter,ifs,0⟩] scope pos) 0 it acc env).onRaise (fun x=>do noteFrame x env;theTreesLotGoes x)) _ _ s
 refine wpAny_noted ?_
 rw[compTurn_list]
 refine zj2 (zt9 (zj2 (zn1 (turn n s hI) (fun r s1 h1=>?_) fun _ _ h'=>False.elim h')))
 cases r with
 |none=>exact zk4 h1
 |some v=>
  refine zj2 (zn1 h1 (fun _ s2 h2=>?_) fun _ _ h'=>False.elim h')
  refine zj2 (zn1 h2 (fun _ s3 h3=>zj2 (zn1 h3 (fun ok s4 h4=>?_) fun _ _ h'=>False.elim h')) fun _ _ h'=>False.elim h')
  cases ok with
  |false=>exact zk4 ⟨rfl,h4⟩
  |true=>
   exact zj2 (zj2 (zn1 h4 (fun x s5 h5=>zj2 (zn1 h5 (fun _ s6 h6=>zk4 (zk4 ⟨rfl,h6⟩)) fun _ _ h'=>False.elim h')) fun _ _ h'=>False.elim h'))
end
def va (Y:Cx)(ifs:List Expr)(t:TT):Prop:=
 ∀(pins:List (Addr×Obj)) (s:Shared) (σ:St) (H:Hp) (Q:Bool→Hp→Prop),Inv Y pins σ H s→t σ H Q→
  wpAny (model Y.prog Y.w) Y.A (forIn ifs true fun c r=>if r=true then do let ok ←isTrue c Y.env (eval c Y.env);pure (ForInStep.yield ok) else pure (ForInStep.yield r)) (TP Y pins σ Q) Y.xe s
def zi2 :TT:=fun _ H Q=>Q true H
theorem fK {Y:Cx}:va Y [] zi2:=fun _ _ _ H _ I h=>wpAny_tests_nil ⟨H,I,h⟩
def nz (J:It)(acc:Addr)(g:TG)(tt:TT)(te:TE)(τ0:St)(H0:Hp)(Q:VK):Prop:=
 ∃W:Nat→Nat→List V→St→Hp→Prop,(∃m,W 0 m [] τ0 H0)∧∀i m ys τ H2,W i m ys τ H2→
  (J.stop i H2∧Q (.ref acc) H2)∨(J.go i H2∧∃N:List V→St→Hp→Prop,(∀ys' τ' H',N ys' τ' H'→∃m',m'<m∧W (i+1) m' ys' τ' H')∧
   ∀x H3,J.yld i H2 x H3→g x τ H3 fun τ2 H4=>tt τ2 H4 fun c H5=>
    if c=true then te τ2 H5 fun y H6=>H6 acc=some (.lst ys)∧ys.length<sizeLine∧N (ys++[y]) τ2 (upd H6 acc (.lst (ys++[y]))) else N ys τ2 H5)
def gp (wi:TI)(imp:List (Option Nat))(g:TG)(tt:TT)(te:TE):TE:=fun σ H Q=>wi σ H fun J H1=>∀acc,H1 acc=none→nz J acc g tt te (xB imp σ) (upd H1 acc (.lst [])) Q
section
variable {X:Cx}{pins:List (Addr×Obj)}{σ:St}{elt iter tg:Expr}{ifs:List Expr}{scope:Scope}{pos:Pos}{wi:TI}{g:TG}{tt:TT}{te:TE}{N:List Str}{imp:List (Option Nat)}
theorem uq {H2:Hp}{s2:Shared}{it:Addr}{fp:List Addr}{tn:Nat→Heap→Prop}{J:It}{RR:Value→Addr→Result→Shared→Prop}{E:Value→Shared→Prop}{Q:VK}
  (hc:X.calm=true) (S:zR X.N X.env.scope N imp scope) (hg:∀C s2 H2 fp,PG (X.comp N scope C s2 H2 fp) tg g) (ht:∀C s2 H2 fp,va (X.comp N scope C s2 H2 fp) ifs tt) (he:∀C s2 H2 fp,PE (X.comp N scope C s2 H2 fp) elt te)
  (I2:Inv X pins σ H2 s2) (T:Turn X.prog X.w X.K tg J fp it tn) (st2:tn 0 s2.heap) (f2:∀b∈fp,vG X pins H2 b)
  (hW:∀acc,H2 acc=none→nz J acc g tt te (xB imp σ) (upd H2 acc (.lst [])) Q)
  (hRR:∀a C H' s' m,Inv X pins σ H' s'→s'.heap.Ns C m→vG X pins H' C→Q (.ref a) H'→RR (.ref a) C (.ok .next) s'):
  wpAny (model X.prog X.w) X.A (newList []) (fun acc s3=>wpAny (model X.prog X.w) X.A (newFunctionEnv scope X.env.globals (vh X.env.cells scope.names []) [] X.env.qual none .none (some X.env)) (fun cenv s4=>
   codeAny (model X.prog X.w) X.A (.compStart (.ListComp elt [⟨tg,iter,ifs,0⟩] scope pos) 0 (.ref it) acc {cenv with scope:=relabel scope X.env}) (RR acc cenv.locals) s4) E s3) E s2:=by
 refine wpAny_newObj_type (wpAny_newFunctionEnv S.nocell (by intro y hy;simp at hy) (fun h1 hns1 hsb1=>?_) S.kind)
 dsimp only at hns1 hsb1 ⊢
 generalize hHH:s2.heap.push {cls:=.type "list",dict:=none,data:=.seq ([]:List Value).toArray}=HH at hns1 hsb1 ⊢
 have hC:HH.objs.size=s2.heap.objs.size+1:=by rw[←hHH,Heap.size_push]
 have hDC:s2.heap.objs.size≠HH.objs.size:=by rw[hC];exact zl8 (zs5 _)
 have old:∀b o,s2.heap.get? b=some o→h1.get? b=some o:=fun b o e=>hsb1.extBut b o (by rw[hC];exact zl8 (Nat.lt_succ_of_lt (zj9 e))) (zj3 _ (hHH▸zj3 _ e))
 have hacc:h1.get? s2.heap.objs.size=some {cls:=.type "list",data:=.seq ([]:List Value).toArray}:=hsb1.extBut _ _ hDC (zj3 _ (hHH▸zm7 _ rfl))
 obtain⟨W,⟨m0,w0⟩,turn⟩:=hW s2.heap.objs.size I2.fresh
 generalize hCC:HH.objs.size=C at hns1 hsb1 hC hDC ⊢
 have ho:∀b∈fp,∃o,s2.heap.get? b=some o:=fun b hb=>let ⟨o,e,_⟩:=T.obj 0 _ st2 b hb;⟨o,e⟩
 generalize hacc0:s2.heap.objs.size=acc at *
 have loop:∀s3:Shared,s3={s2 with heap:=h1,toks:=s2.toks+([]:List (Str×Value)).length}→
   codeAny (model X.prog X.w) X.A (.compLoop (.ListComp elt [⟨tg,iter,ifs,0⟩] scope pos) 0 (.ref it) (.ref acc) (X.comp N scope C s2 H2 fp).env) (RR (.ref acc) C) s3:=by
  rintro s3 rfl
  have I3:Inv (X.comp N scope C s2 H2 fp) [] (xB imp σ) (upd H2 acc (.lst [])) {s2 with heap:=h1,toks:=s2.toks+([]:List (Str×Value)).length}:=
   gq I2 S f2 ho hacc0.symm (by rw[hC,hacc0]) old hns1 hacc
  have fpn:∀b∈fp,upd H2 acc (.lst []) b=none:=fun b hb=>by
   obtain⟨o,e⟩:=ho b hb
   rw[zg (by rw[←hacc0];exact zl8 (zj9 e))]
   exact (f2 b hb).1
  have stat:∀{H':Hp},(∀b∈fp,H' b=none)→∀b∈fp,vG (X.comp N scope C s2 H2 fp) [] H' b:=fun hn b hb=>by
   obtain⟨e1,e2⟩:=I3.ok.exf b hb
   exact⟨hn b hb,e1,I3.ok.exfs b hb,.inl hb,e2,fun p hp=>absurd (show p∈([]:List (Addr×Obj)) from hp) (by simp)⟩
  refine rX (fun n s'=>∃i ys τ H',Inv (X.comp N scope C s2 H2 fp) [] τ H' s'∧tn i s'.heap∧(∀b∈fp,H' b=none)∧W i n ys τ H') ?_ m0
   ⟨0,[],_,_,I3,T.keep _ _ _ st2 fun b _ o e=>old b o e,fpn,w0⟩
  rintro n s4 ⟨i,ys,τ,H4,I4,st4,fr4,w4⟩
  rcases turn i n ys τ H4 w4 with ⟨stop,qn⟩|⟨go,NN,hN,step⟩
  ·refine zn1 (T.done (X.comp N scope C s2 H2 fp) rfl rfl rfl hc i [] s4 τ H4 (fun _ _=>False) I4 (stat fr4) st4 stop) (fun r s5 ⟨hr,I5⟩=>?_) fun _ _ z=>z
   subst hr
   obtain⟨m5,hn5,_⟩:=id I5.loc
   exact hRR acc C H4 s5 m5 (lV I2 f2 I5) hn5 (I2.fpOk (by rw[hC,hacc0];exact zr5 _) I5.free) qn
  ·refine zn1 (T.item (X.comp N scope C s2 H2 fp) rfl rfl rfl hc i [] s4 τ H4 (fun _ _=>False) I4 (stat fr4) st4 go) (fun r s5 ⟨u,hr,h5⟩=>?_) fun _ _ z=>z
   subst hr
   refine zn1 h5 (fun _ s6 ⟨x,H6,I6,r6,y6,st6,fr6⟩=>?_) fun _ _ z=>z
   have I6':=I6.pinned (stat fr6) (T.obj _ _ st6)
   refine zn1 (hg C s2 H2 fp _ s6 τ H6 x u _ I6' r6 (step x H6 y6)) (fun _ s7 ⟨τ7,H7,I7,q7⟩=>?_) fun _ _ z=>z
   refine zn1 (ht C s2 H2 fp _ s7 τ7 H7 _ I7 q7) (fun ok s8 ⟨H8,I8,q8⟩=>?_) fun _ _ z=>z
   have again:∀{ys9:List V} {H9:Hp} {s9:Shared},Inv (X.comp N scope C s2 H2 fp) ([]++uB fp s6.heap) τ7 H9 s9→NN ys9 τ7 H9→∃m,m<n∧∃i ys τ H',Inv (X.comp N scope C s2 H2 fp) [] τ H' s9∧tn i s9.heap∧(∀b∈fp,H' b=none)∧W i m ys τ H':=fun {ys9 H9 s9} I9 n9=>by
    obtain⟨m',hm,w9⟩:=hN ys9 τ7 H9 n9
    refine⟨m',hm,i+1,ys9,τ7,H9,I9.unpinned,T.keep _ _ _ st6 fun b hb o e=>(I9.pin (b,o) (zm6 _ (zm6 _ (xQ hb e)))).1,fun b hb=>?_,w9⟩
    obtain⟨o,e,d⟩:=T.obj _ _ st6 b hb
    exact (I9.pin (b,o) (zm6 _ (zm6 _ (xQ hb e)))).2.1
   cases ok with
   |false=>
    have q8':NN ys τ7 H8:=by
     have z:=q8
     rw[if_neg zk1] at z
     exact z
    rw[if_neg zk1]
    exact again I8 q8'
   |true=>
    rw[if_pos rfl] at q8 ⊢
    refine zn1 (he C s2 H2 fp _ s8 τ7 H8 _ I8 q8) (fun v s9 ⟨y,H9,I9,r9,a9,z9,q9⟩=>?_) fun _ _ z=>z
    refine zn1 (sr (X:=X.comp N scope C s2 H2 fp) _ s9 τ7 H9 (.ref acc) [y] (.ref acc) [v] (fun _ H10=>H10=upd H9 acc (.lst (ys++[y]))) I9 rfl (.cons r9 .nil) ⟨acc,ys,y,rfl,rfl,a9,z9,rfl⟩) (fun _ s10 ⟨_,H10,I10,_,e10⟩=>?_) fun _ _ z=>z
    subst e10
    exact again I10 q9
 exact codeAny_compStart_list (loop _ rfl) (T.self X.A 0 _ _ _ (T.keep _ _ _ st2 fun b _ o e=>old b o e) (loop _ rfl))
theorem zc9 (hc:X.calm=true)(S:zR X.N X.env.scope N imp scope)(hi:PI X tg iter wi)(hg:∀C s2 H2 fp,PG (X.comp N scope C s2 H2 fp) tg g)(ht:∀C s2 H2 fp,va (X.comp N scope C s2 H2 fp) ifs tt)
  (he:∀C s2 H2 fp,PE (X.comp N scope C s2 H2 fp) elt te) (hs:∀x,foldedSetIterable iter X.env x=pure x:=by intro _;rfl):
  PE X (.ListComp elt [⟨tg,iter,ifs,0⟩] scope pos) (gp wi imp g tt te):=by
 intro pins s σ H Q I h
 rw[eval_ListComp]
 refine wpAny_comprehension_free (use:=none) rfl hs (wW (ve I S)) S.kind S.locs (thn (hi pins s σ H _ I h) fun v s1 h1=>thn h1 fun itv s2 h2=>?_)
 obtain⟨it,fp,tn,J,H2,e,I2,T,st2,f2,hW⟩:=h2
 subst e
 refine uq (RR:=fun acc C=>compPost (model X.prog X.w) X.A X.xe none (EP X pins σ Q) acc C) hc S hg ht he I2 T st2 f2 hW fun a C H' s' m I' hn f q=>?_
 refine⟨m,hn,fun h' sb=>?_⟩
 obtain⟨g0,g1,g2,g3,g4,g5⟩:=f
 exact⟨.ref a,H',I'.turned (t':=s'.toks) (it:=C) (fun b o hb e=>(sb.2 b hb).trans e) g0 g1 g3 g4 g5,rfl,q⟩
theorem jC {i:Nat}{x:Str}{px:Pos}{spos:Pos}(hc:X.calm=true)(S:zR X.N X.env.scope N imp scope)(hi:PI X tg iter wi)(hg:∀C s2 H2 fp,PG (X.comp N scope C s2 H2 fp) tg g)(ht:∀C s2 H2 fp,va (X.comp N scope C s2 H2 fp) ifs tt)
  (he:∀C s2 H2 fp,PE (X.comp N scope C s2 H2 fp) elt te) (hN:X.N.Nodup) (hx:X.N[i]?=some x) (hl:Loc X.env.scope x) (hsw:swapsWith (.ListComp elt [⟨tg,iter,ifs,0⟩] scope pos) (some (.Name x px)) spos.line X.env=pure true:=by rfl)
  (hf:X.fn x=true∨X.env.scope.names.lookup x=some .local:=by first|exact .inl rfl|exact .inr rfl|assumption) (hs:∀x,foldedSetIterable iter X.env x=pure x:=by intro _;rfl):
  PS X (.Assign [.Name x px] (.ListComp elt [⟨tg,iter,ifs,0⟩] scope pos) spos) (bO (gp wi imp g tt te) (tU i)):=by
 intro pins s σ H D I h
 rw[exec_Assign_Name_used _ _ _ _ hsw]
 refine zj2 (zt9 (zj2 ?_))
 show wpAny _ X.A (do let _ ←comprehension (.ListComp elt [⟨tg,iter,ifs,0⟩] scope pos) scope X.env _ (newList []) false (eval iter X.env) (some (assign (.Name x px) X.env))) _ _ s
 refine zj2 (zn1 (wpAny_comprehension_free (use:=some (assign (.Name x px) X.env)) (Q:=fun _ s'=>SP X pins D .next s') rfl hs (wW (ve I S)) S.kind S.locs (thn (hi pins s σ H _ I h) fun v s1 h1=>thn h1 fun itv s2 h2=>?_))
  (fun _ s' hq=>zk4 (zk4 hq)) fun _ _ e=>e)
 obtain⟨it,fp,tn,J,H2,e,I2,T,st2,f2,hW⟩:=h2
 subst e
 refine uq (Q:=fun x H1=>tU i x σ H1 D.nx) (RR:=fun acc C=>compPost (model X.prog X.w) X.A X.xe (some (assign (.Name x px) X.env)) (fun _ s'=>SP X pins D .next s') acc C) hc S hg ht he I2 T st2 f2 hW fun a C H' s' m I' hn f q=>?_
 show wpAny _ X.A (assign (.Name x px) X.env (.ref a)) _ _ _
 obtain⟨g0,g1,g2,g3,g4,g5⟩:=f
 refine wpAny_assign_Name (sF I' hN hx hl (show RelV (.ref a) (.ref a) from rfl) (fun s4 I4 hch=>?_) hf)
 obtain⟨ad,sb,had⟩:=hch
 have hCa:C≠ad:=by
  rcases had with e|e
  ·rw[e];exact g1
  ·exact (g4 x ad e).symm
 refine⟨m,hn.sameBut sb hCa,fun h' sb2=>?_⟩
 exact⟨_,H',I4.turned (t':=s4.toks) (it:=C) (fun b o hb e=>(sb2.2 b hb).trans e) g0 g1 g3 g4 g5,q⟩
end
mutual
inductive DV (H:Hp):V→PyData→Prop where
 |non:DV H .non .none
 |bl (b:Bool):DV H (.bl b) (.bool b)
 |int (i:Int):DV H (.int i) (.int i)
 |str (x:Str):DV H (.str x) (.str x)
 |lst {a:Addr} {xs:List V} {ds:List PyData}:H a=some (.lst xs)→DVs H xs ds→DV H (.ref a) (.list ds)
 |tup {a:Addr} {xs:List V} {ds:List PyData}:H a=some (.tup xs)→DVs H xs ds→DV H (.ref a) (.tuple ds)
inductive DVs (H:Hp):List V→List PyData→Prop where
 |nil:DVs H [] []
 |cons {x:V} {xs:List V} {d:PyData} {ds:List PyData}:DV H x d→DVs H xs ds→DVs H (x::xs) (d::ds)
end
section
variable {X:Cx}{pins:List (Addr×Obj)}{σ:St}{H:Hp}{s:Shared}
mutual
theorem DV.reads (I:Inv X pins σ H s):∀{x:V} {d:PyData} {u:Value},DV H x d→RelV x u→∃as,Reads s.heap u d as
 |_,_,u,.non,r=>by cases (show u=Value.none from r);exact⟨_,.none⟩
 |_,_,u,.bl b,r=>by cases (show u=Value.bool b from r);exact⟨_,.bool b⟩
 |_,_,u,.int i,r=>by obtain⟨t,rfl⟩:=(show ∃t,u=Value.int i t from r);exact⟨_,.int i t⟩
 |_,_,u,.str x,r=>by obtain⟨t,rfl⟩:=(show ∃t,u=Value.str x t from r);exact⟨_,.str x t⟩
 |_,_,u,.lst (a:=a) hq hs,r=>by
  cases (show u=Value.ref a from r)
  obtain⟨its,rv,p,hz⟩:=I.list (SqL.of hq)
  obtain⟨o,ho,hc,n,hd⟩:=p.isList
  obtain⟨as,ra⟩:=DVs.reads I hs rv
  exact⟨_,.list ho hc hd (by simpa using ra)⟩
 |_,_,u,.tup (a:=a) hq hs,r=>by
  cases (show u=Value.ref a from r)
  obtain⟨its,rv,p,hz⟩:=I.tuple (SqT.of hq)
  obtain⟨o,ho,hc,n,hd⟩:=p
  obtain⟨as,ra⟩:=DVs.reads I hs rv
  exact⟨_,.tuple ho hc hd (by simpa using ra)⟩
theorem DVs.reads (I:Inv X pins σ H s):∀{xs:List V} {ds:List PyData} {us:List Value},DVs H xs ds→Vals xs us→∃as,ReadsAll s.heap us ds as
 |_,_,_,.nil,.nil=>⟨_,.nil⟩
 |_,_,_,.cons h hs,.cons r rs=>by
  obtain⟨as,ra⟩:=DV.reads I h r
  obtain⟨bs,rb⟩:=DVs.reads I hs rs
  exact⟨_,.cons ra rb⟩
end
end
mutual
theorem DV.same {H H':Hp}(e:zq H H'):∀{x:V} {d:PyData},DV H x d→DV H' x d
 |_,_,.non=>.non
 |_,_,.bl b=>.bl b
 |_,_,.int i=>.int i
 |_,_,.str x=>.str x
 |_,_,.lst hq hs=>.lst (e _ _ hq) (DVs.same e hs)
 |_,_,.tup hq hs=>.tup (e _ _ hq) (DVs.same e hs)
theorem DVs.same {H H':Hp}(e:zq H H'):∀{xs:List V} {ds:List PyData},DVs H xs ds→DVs H' xs ds
 |_,_,.nil=>.nil
 |_,_,.cons h hs=>.cons (DV.same e h) (DVs.same e hs)
end
theorem DVs.length {H:Hp}:∀{xs:List V} {ds:List PyData},DVs H xs ds→xs.length=ds.length
 |_,_,.nil=>rfl
 |_,_,.cons _ hs=>by rw[zk5,zk5,DVs.length hs]
def tyD :PyData→String
 |.none=>"NoneType"
 |.bool _=>"bool"
 |.int _=>"int"
 |.str _=>"str"
 |.list _=>"list"
 |.tuple _=>"tuple"
 |.dict _=>"dict"
theorem DV.ty {K:PySem.W.Frag}{H:Hp}{x:V}{d:PyData}(h:DV H x d):vo K H x (.type (tyD d)):=by
 cases h with
 |non=>exact .non
 |bl b=>exact .bl b
 |int i=>exact .int i
 |str x=>exact .str x
 |lst e _=>exact .lst e
 |tup e _=>exact .tup e
def isInt :PyData→Bool
 |.int _=>true
 |.bool _=>true
 |_=>false
def isBool :PyData→Bool
 |.bool _=>true
 |_=>false
def isStr :PyData→Bool
 |.str _=>true
 |_=>false
def isList :PyData→Bool
 |.list _=>true
 |_=>false
def nE :PyData→Bool
 |.tuple _=>true
 |_=>false
def tG (T:String)(d:PyData):Option Bool:=
 if T="int" then some (isInt d) else if T="bool" then some (isBool d) else if T="str" then some (isStr d) else if T="list" then some (isList d) else if T="tuple" then some (nE d) else none
def cJ (t T:String):Option Bool:=if (Value.type t == Value.type T)=true then some true else if PySem.W.kitMeta T=true then (fastBuiltinMro t).map (·.contains (Value.type T)) else none
theorem gB (K:PySem.W.Frag)(t T:String):PySem.W.kitOne K (.type t) (.type T)=cJ t T:=rfl
theorem gX :(["NoneType","bool","int","str","list","tuple"].all fun t=>["int","bool","str","list","tuple"].all fun T=>
  cJ t T == some (if T="int" then t == "int"||t == "bool" else t == T))=true:=by decide +kernel
theorem zd5 (K:PySem.W.Frag){H:Hp}{x:V}{d:PyData}(h:DV H x d){T:String}{b:Bool}(e:tG T d=some b):PySem.W.kitOne K (.type (tyD d)) (.type T)=some b:=by
 rw[gB]
 have key:∀t∈["NoneType","bool","int","str","list","tuple"],∀T∈["int","bool","str","list","tuple"],cJ t T=some (if T="int" then t == "int"||t == "bool" else t == T):=fun t ht T hT=>
  eq_of_beq (zq2.mp (zq2.mp gX t ht) T hT)
 have hd:tyD d∈["NoneType","bool","int","str","list","tuple"]:=by cases h<;>simp[tyD]
 unfold tG at e
 split at e
 ·rename_i eT
  subst eT
  rw[key _ hd "int" (by decide)]
  cases e
  cases h<;>rfl
 ·split at e
  ·rename_i eT
   subst eT
   rw[key _ hd "bool" (by decide)]
   cases e
   cases h<;>rfl
  ·split at e
   ·rename_i eT
    subst eT
    rw[key _ hd "str" (by decide)]
    cases e
    cases h<;>rfl
   ·split at e
    ·rename_i eT
     subst eT
     rw[key _ hd "list" (by decide)]
     cases e
     cases h<;>rfl
    ·split at e
     ·rename_i eT
      subst eT
      rw[key _ hd "tuple" (by decide)]
      cases e
      cases h<;>rfl
     ·cases e
section
variable {X:Cx}
def aT :R2:=fun x y H Q=>∃d e,DV H x d∧DV H y e∧SeqAt.shaped d=true∧SeqAt.shaped e=true∧Q (.bl (PyData.eqv d e)) H
def zd9 :R2:=fun x y H Q=>∃d e,DV H x d∧DV H y e∧SeqAt.shaped d=true∧SeqAt.shaped e=true∧Q (.bl (!PyData.eqv d e)) H
theorem wA (hu:X.A.units+64<cLine):OpR X (compareOp .Eq) aT:=by
 intro pins s σ H x y v u Q I rx ry h
 obtain⟨d,e,hd,he,sd,se,q⟩:=h
 obtain⟨as,ra⟩:=hd.reads I rx
 obtain⟨bs,rb⟩:=he.reads I ry
 exact SeqAt.compareEq_shaped ra rb sd se hu ⟨.bl _,H,I,rfl,q⟩
theorem cH (hu:X.A.units+64<cLine):OpR X (compareOp .NotEq) zd9:=by
 intro pins s σ H x y v u Q I rx ry h
 obtain⟨d,e,hd,he,sd,se,q⟩:=h
 obtain⟨as,ra⟩:=hd.reads I rx
 obtain⟨bs,rb⟩:=he.reads I ry
 exact SeqAt.compareNe_shaped ra rb sd se hu ⟨.bl _,H,I,rfl,q⟩
theorem gy :yU X (.builtin "isinstance") (fun xs H Q=>∃x T t b,xs=[x,.ty T]∧vo X.K H x t∧PySem.W.kitOne X.K t (.type T)=some b∧Q (.bl b) H):=by
 intro pins s σ H xs us Q I r h
 obtain⟨x,T,t,b,rfl,ty,e,q⟩:=h
 obtain⟨u,v,rfl,rx,ry⟩:=Vals.two r
 cases (show v=Value.type T from ry)
 exact lh I rx ty e fun tk=>⟨.bl b,H,I.tok tk,rfl,q⟩
theorem yY :yU X (.builtin "isinstance") (fun xs H Q=>∃x T d b,xs=[x,.ty T]∧DV H x d∧tG T d=some b∧Q (.bl b) H):=by
 intro pins s σ H xs us Q I r h
 obtain⟨x,T,d,b,e,hd,ht,q⟩:=h
 exact gy pins s σ H xs us Q I r ⟨x,T,_,b,e,hd.ty,zd5 X.K hd ht,q⟩
def cx (i j:Int):Prop:=0<j∧j.natAbs.log2<9000
theorem ux :OpR X (binaryOp .FloorDiv) (rI cx fun i j=>.int (i / j)):=opI fun i j _ _ _ _ _ hc q=>by
 have h1:(0:Int)<j:=hc.1
 refine floordiv_int (Int.ne_of_gt h1) ?_ (.inl (PyProof.noPylong_of_log2 hc.2))
 rw[Int.fdiv_eq_ediv_of_nonneg _ (Int.le_of_lt h1)]
 exact q
abbrev big :Int:=115792089237316195423570985008687907853269984665640564039457584007913129639936
theorem log2_small {j:Int}(h0:0<j)(h:j<big):j.natAbs.log2<9000:=by
 have hn:j.natAbs≠0:=by omega
 have h2:j.natAbs<2 ^ 256:=by
  have e:(2:Nat) ^ 256=115792089237316195423570985008687907853269984665640564039457584007913129639936:=by decide +kernel
  rw[e]
  unfold big at h
  omega
 have h3:j.natAbs.log2<256:=(zv6 hn).mpr h2
 omega
def vM (lo:Int)(n:Nat):List Int:=(List.range n).map fun i=>lo+(i:Nat)
theorem ye (lo:Int)(n:Nat):(vM lo n).length=n:=by simp[vM]
theorem vc {lo:Int}{n i:Nat}(h:i<n):(vM lo n)[i]?=some (lo+(i:Nat)):=by simp[vM,h]
theorem gY {bs:List Bool}:∀{us:List Value},Vals (bs.map V.bl) us→LSm.BoolsAre us bs:=by
 induction bs with
 |nil=>intro us h;cases h;exact .nil
 |cons b bs ih=>
  intro us h
  cases h with
  |cons r rr=>
   cases (show _=Value.bool b from r)
   exact .cons b (ih rr)
end
def lX (X:Cx)(body:List Stmt):TS:=fun D σ H=>∃t,PSs X body t∧t D σ H
theorem zT {X:Cx}{body:List Stmt}:PSs X body (lX X body):=fun pins s σ H D I ⟨t,p,q⟩=>p pins s σ H D I q
theorem yb {X:Cx}{st:Stmt}{rest:List Stmt}{D:Ends}{σ:St}{H:Hp}(M:St→Hp→Prop)(h1:∃t,PS X st t∧t {D with nx:=M} σ H)(h2:∀σ' H',M σ' H'→∃t,PSs X rest t∧t D σ' H'):
  ∃t,PSs X (st::rest) t∧t D σ H:=by
 obtain⟨t1,p1,q1⟩:=h1
 refine⟨fun D' σ' H'=>D'=D∧σ'=σ∧H'=H,?_,rfl,rfl,rfl⟩
 intro pins s σ' H' D' I h
 obtain⟨e1,e2,e3⟩:=h
 subst e1 e2 e3
 have step:PSs X (st::rest) (ze0 t1 fun D2 σ2 H2=>D2=D'∧M σ2 H2):=zD p1 fun pins s σ2 H2 D2 I2 ⟨e,m⟩=>by
  subst e
  obtain⟨t2,p2,q2⟩:=h2 σ2 H2 m
  exact p2 pins s σ2 H2 _ I2 q2
 refine step pins s _ _ _ I ?_
 show t1 {D' with nx:=fun σ2 H2=>D'=D'∧M σ2 H2} _ _
 have e:(fun (σ2:St) (H2:Hp)=>D'=D'∧M σ2 H2)=M:=by
  funext σ2 H2
  exact propext ⟨fun z=>z.2,fun z=>⟨rfl,z⟩⟩
 rw[e]
 exact q1
def ze7 (bs:List Int):Prop:=∃x y:Int,bs=[x,y]∧0≤y∧y<4294967296
structure yK (H:Hp)(t b c:Addr):Prop where
 ex:∃(n:Int) (bs cs:List Int),(b=t∧c=t)∧H t=some (.lst (bs.map V.int))∧H b=some (.lst (bs.map V.int))∧H c=some (.lst (cs.map V.int))∧ze7 bs∧n=0
def bz (t b:Addr)(H H':Hp):Prop:=∀a,a≠t→a≠b→H' a=H a
def iV :Sp:=fun vs H Q _=>∃(t b c:Addr) (many:Int),vs=[.ref t,.int many]∧yK H t b c∧0<many∧many<big∧
 ∀(v:Int) (H':Hp),0≤v→v<many→yK H' t b c→bz t b H H'→Q (.int v) H'
theorem yK.free {H:Hp}{t b c l:Addr}(T:yK H t b c)(h:H l=none):l≠t∧l≠b∧l≠c:=by
 obtain⟨n,bs,cs,n1,e1,e2,e3,l1,l2⟩:=T.ex
 exact⟨(zk e1 h).symm,(zk e2 h).symm,(zk e3 h).symm⟩
theorem yK.off {H H':Hp}{t b c:Addr}(T:yK H t b c)(h:∀a,a=t∨a=b∨a=c→H' a=H a):yK H' t b c:=by
 obtain⟨n,bs,cs,n1,e1,e2,e3,l1,l2⟩:=T.ex
 exact⟨n,bs,cs,n1,by rw[h t (.inl rfl)];exact e1,by rw[h b (.inr (.inl rfl))];exact e2,by rw[h c (.inr (.inr rfl))];exact e3,l1,l2⟩
theorem jL {H:Hp}{t b c l:Addr}{o:HO}(T:yK H t b c)(h:l≠t∧l≠b∧l≠c):yK (upd H l o) t b c:=
 T.off fun a ha=>zg (ha.elim (fun e=>e▸h.1.symm) fun ha=>ha.elim (fun e=>e▸h.2.1.symm) fun e=>e▸h.2.2.symm)
theorem lO {H H':Hp}{t b c:Addr}(T:yK H t b c)(s:zq H H'):yK H' t b c:=by
 obtain⟨n,bs,cs,n1,e1,e2,e3,l1,l2⟩:=T.ex
 exact⟨n,bs,cs,n1,s _ _ e1,s _ _ e2,s _ _ e3,l1,l2⟩
theorem yk {H:Hp}{p:Addr}{o:HO}(h:H p=none):zq H (upd H p o):=fun b u e=>by rw[zg (zk e h)];exact e
def uQ (x:Addr):Prop:=False
def TabAt (H:Hp):Prop:=True
def Plain (H:Hp)(l:Addr):Prop:=True
theorem pE {H H':Hp}(T:TabAt H)(h:∀a o,(∀xs,o≠.lst xs)→H a=some o→H' a=some o):TabAt H':=trivial
theorem dN {H:Hp}{l:Addr}{o:HO}(T:TabAt H)(h:Plain H l):TabAt (upd H l o):=trivial
theorem ud {H:Hp}{x:Addr}(T:TabAt H)(h:uQ x):∃o,H x=some o∧(∀ts,o≠.tup ts)∧∀xs,o≠.lst xs:=h.elim
theorem tY {H:Hp}{l:Addr}{xs:List V}(h:H l=some (.lst xs)):Plain H l:=trivial
theorem hJ {H:Hp}{l:Addr}{xs:List (Key×V)}(h:H l=some (.dK xs)):Plain H l:=trivial
theorem kj {H:Hp}{l C dx:Addr}{fs:List (Str×V)}(h:H l=some (.ins C dx fs)):Plain H l:=trivial
theorem qH {H:Hp}{l:Addr}(T:TabAt H)(h:H l=none):¬uQ l:=fun z=>by
 obtain⟨o,e,_⟩:=ud T z
 rw[h] at e;cases e
theorem dM {H H':Hp}{t b:Addr}{xs ys:List V}(T:TabAt H)(ht:H t=some (.lst xs))(hb:H b=some (.lst ys))(off:bz t b H H'):TabAt H':=pE T fun a o no e=>by
 have n1:a≠t:=fun z=>by rw[z,ht] at e;cases e;exact no _ rfl
 have n2:a≠b:=fun z=>by rw[z,hb] at e;cases e;exact no _ rfl
 rw[off a n1 n2];exact e
theorem bK {H H':Hp}(T:TabAt H)(h:zq H H'):TabAt H':=pE T fun a o _ e=>h a o e
theorem fB (d:PyData):tG "int" d=some (isInt d):=by unfold tG;rw[if_pos rfl]
theorem uG (d:PyData):tG "bool" d=some (isBool d):=by unfold tG;rw[if_neg (by decide),if_pos rfl]
theorem sE (d:PyData):tG "tuple" d=some (nE d):=by unfold tG;rw[if_neg (by decide),if_neg (by decide),if_neg (by decide),if_neg (by decide),if_pos rfl]
structure yp (n:Nat)(d:PyData):Prop where
 shw:d.showable=true
 nod:d.hasDict=false
 dep:d.depth≤8
 len:d.shown.length≤n
 lay:d.canLay0=true
theorem yp.mono {m n:Nat}{d:PyData}(h:yp m d)(e:m≤n):yp n d:=⟨h.shw,h.nod,h.dep,zl2 h.len e,h.lay⟩
theorem vP :∀(ts:List Str) (k:Nat) (acc:Str),(textFrom k acc ts).length≤acc.length+piled ts
 |[],_,acc=>by rw[piled_nil];exact zj8 _
 |t::r,k,acc=>by
  have h:=vP r (k+1) (acc++(if k > 0 then ", " else "":String)++t)
  rw[piled_cons]
  have e2:(Str.ofString (if k > 0 then ", " else "":String)).length≤2:=by
   split
   ·exact Nat.le_of_eq rfl
   ·exact zm1 _
  have e3:=zm3 (acc++Str.ofString (if k > 0 then ", " else "":String)) t
  have e4:=zm3 acc (Str.ofString (if k > 0 then ", " else "":String))
  show (textFrom (k+1) (acc++Str.ofString (if k > 0 then ", " else "":String)++t) r).length≤_
  have h':(textFrom (k+1) (acc++Str.ofString (if k > 0 then ", " else "":String)++t) r).length≤(acc++Str.ofString (if k > 0 then ", " else "":String)++t).length+piled r:=h
  omega
theorem pG (ts:List Str):(listText ts).length≤piled ts+2:=by
 unfold listText
 rw[zm3]
 have h:=vP ts 0 (Str.ofString "[")
 have e1:(Str.ofString "[").length=1:=rfl
 have e2:(Str.ofString "]").length=1:=rfl
 show (textFrom 0 (Str.ofString "[") ts).length+(Str.ofString "]").length≤_
 omega
theorem rV (ts:List Str):(tupleText ts).length≤piled ts+3:=by
 cases ts with
 |nil=>decide +kernel
 |cons t r=>
  have h:=join_length_add (t::r) (by simp)
  unfold tupleText
  rw[zm3,zm3]
  have e1:(Str.ofString "(").length=1:=rfl
  have e2:(Str.ofString (if (t::r).length == 1 then ",)" else ")":String)).length≤2:=by
   split
   ·exact Nat.le_of_eq rfl
   ·exact zr8 (show 1<2 by decide)
  show (Str.ofString "(").length+(Str.join ", " (t::r)).length+(Str.ofString (if (t::r).length == 1 then ",)" else ")":String)).length≤_
  omega
theorem wD {n:Nat}:∀(ds:List PyData),(∀d∈ds,yp n d)→piled (PyData.shownAll ds)≤ds.length*(n+2)
 |[],_=>zm1 _
 |d::r,h=>by
  have h1:=(h d zk0).len
  have h2:=wD r fun e he=>h e (zj7 _ he)
  show piled (d.shown::PyData.shownAll r)≤_
  rw[piled_cons,zk5,Nat.succ_mul]
  omega
structure zZ (n:Nat)(ds:List PyData):Prop where
 all:∀d∈ds,yp n d
 dep:∀d∈ds,d.depth≤7
theorem zZ.parts {n:Nat}:∀{ds:List PyData},zZ n ds→PyData.showableAll ds=true∧PyData.hasDictAll ds=false∧PyData.depthAll ds≤7∧PyData.canLayAll0 ds=true
 |[],_=>⟨rfl,rfl,zm1 _,rfl⟩
 |d::r,h=>by
  obtain⟨a,b,c,e⟩:=zZ.parts (ds:=r) ⟨fun x hx=>h.all x (zj7 _ hx),fun x hx=>h.dep x (zj7 _ hx)⟩
  have hd:=h.all d zk0
  have hp:=h.dep d zk0
  refine⟨?_,?_,?_,?_⟩
  ·simp only[PyData.showableAll,hd.shw,a,Bool.and_self]
  ·simp only[PyData.hasDictAll,hd.nod,b,Bool.or_self]
  ·simp only[PyData.depthAll];omega
  ·simp only[PyData.canLayAll0,hd.lay,e,Bool.and_self]
theorem yp.list {n m:Nat}{ds:List PyData}(h:zZ n ds)(e:ds.length*(n+2)+2≤m):yp m (.list ds):=by
 obtain⟨a,b,c,f⟩:=h.parts
 refine⟨by simp only[PyData.showable,a],by simp only[PyData.hasDict,b],by simp only[PyData.depth];omega,?_,by simp only[PyData.canLay0,f]⟩
 show (listText (PyData.shownAll ds)).length≤m
 have h1:=pG (PyData.shownAll ds)
 have h2:=wD ds h.all
 omega
theorem yp.tuple {n m:Nat}{ds:List PyData}(h:zZ n ds)(e:ds.length*(n+2)+3≤m):yp m (.tuple ds):=by
 obtain⟨a,b,c,f⟩:=h.parts
 refine⟨by simp only[PyData.showable,a],by simp only[PyData.hasDict,b],by simp only[PyData.depth];omega,?_,by simp only[PyData.canLay0,f]⟩
 show (tupleText (PyData.shownAll ds)).length≤m
 have h1:=rV (PyData.shownAll ds)
 have h2:=wD ds h.all
 omega
theorem iR {i:Int}(h0:-big<i)(h1:i<big):i.natAbs.log2<1920:=by
 by_cases hn:i.natAbs=0
 ·rw[hn];decide
 ·have h2:i.natAbs<2 ^ 256:=by
   have e:(2:Nat) ^ 256=115792089237316195423570985008687907853269984665640564039457584007913129639936:=by decide +kernel
   rw[e]
   unfold big at h0 h1
   omega
  have h3:i.natAbs.log2<256:=(zv6 hn).mpr h2
  omega
theorem yp.int {i:Int}(h0:-big<i)(h1:i<big):yp 2000 (.int i):=by
 have hl:=iR h0 h1
 refine⟨by simp only[PyData.showable,zl7];exact hl,rfl,zm1 _,?_,rfl⟩
 have:=int_text_len_1921 hl
 show (Str.ofString (toString i)).length≤2000
 omega
theorem yp.none :yp 2000 .none:=⟨rfl,rfl,zm1 _,by decide +kernel,rfl⟩
theorem yp.bool (b:Bool):yp 2000 (.bool b):=⟨rfl,rfl,zm1 _,by cases b<;>decide +kernel,rfl⟩
section
variable {X:Cx}
theorem kb {s:Shared}{h':Heap}{o:Obj}{q:Addr}(hq:q=s.heap.objs.size)(hk:∀b x,b∉[q]→(s.heap.push o).get? b=some x→h'.get? b=some x):∀b x,s.heap.get? b=some x→h'.get? b=some x:=fun b x e=>by
 refine hk b x (fun hm=>?_) (zj3 _ e)
 have e2:b=q:=by simpa using hm
 rw[e2,hq] at e
 exact zr3 _ (zj9 e)
theorem kK (hc:X.calm=true):yU X (.builtin "all") (fun xs H Q=>∃(p:Addr) (bs:List Bool),xs=[.ref p]∧H p=some (.lst (bs.map V.bl))∧Q (.bl (bs.all id)) H):=by
 intro pins s σ H xs us Q I r h
 obtain⟨p,bs,rfl,hp,q⟩:=h
 obtain⟨u,rfl,rx⟩:=Vals.one r
 cases (show u=Value.ref p from rx)
 obtain⟨its,rv,pl,hz⟩:=I.list (SqL.of hp)
 have hB:=gY rv
 have hL:=pl.isList
 have hlt:p<s.heap.objs.size:=I.hok.lt hp
 refine call_all_walk (wpAny_pyIter_list hL ⟨s.heap.objs.size,[s.heap.objs.size,p],[s.heap.objs.size],its.toArray.size,_,_,fun i=>(bs[i]?).getD true,rfl,
  Walks.list (A:=X.A.in1) (I.ok.hd hc) _ p (zl8 hlt) its.toArray,⟨⟨_,zm7 _ rfl,rfl,rfl⟩,hL.push _⟩,fun i v s' Q' E' hP hQ=>?_,fun h' tk hk=>?_⟩)
 ·obtain⟨b,eb,rfl⟩:=hB.get i v (by simpa using hP)
  dsimp only at hQ
  rw[eb] at hQ
  exact zo3 hQ
 ·have ee:((List.range its.toArray.size).all fun i=>(bs[i]?).getD true)=bs.all id:=by
   rw[zk8,hB.length]
   exact LSm.range_all bs
  rw[ee]
  exact⟨.bl _,H,I.kept (t':=tk) (kb rfl hk),rfl,q⟩
end
def oa :PyData→Bool
 |.int _=>true
 |_=>false
def zO (lo hi:Int):PyData→Bool
 |.int i=>decide (lo≤i)&&decide (i≤hi)
 |_=>false
def pairD :PyData→Bool
 |.tuple ds=>decide ((ds.length:Int)=2)
 |_=>false
abbrev vv :PyData→Bool:=zO 0 1000000
def uo :PyData→Bool
 |.tuple [a,b]=>vv a&&vv b
 |_=>false
def tL :PyData→Option Int
 |.tuple [.int a,.int b]=>if vv (.int a)&&vv (.int b) then some (b-a) else none
 |_=>none
def zW (d:PyData):Bool:=match tL d with
 |some k=>decide (0≤k)
 |none=>false
theorem ki (d:PyData):oa d=(isInt d&&!isBool d):=by cases d<;>rfl
theorem vS {d:PyData}(h:pairD d=true):∃a b,d=.tuple [a,b]:=by
 cases d with
 |tuple ds=>
  have h':(ds.length:Int)=2:=zq9 h
  match ds,h' with
  |[a,b],_=>exact⟨a,b,rfl⟩
  |[],z=>simp at z
  |[_],z=>simp at z
  |_::_::_::_,z=>simp at z;omega
 |_=>cases h
theorem uU (d:PyData):uo d=(tL d).isSome:=by
 unfold uo tL
 split
 ·rename_i a b
  cases a with
  |int i=>
   cases b with
   |int j=>
    show (vv (.int i)&&vv (.int j))=_
    cases e:(vv (.int i)&&vv (.int j))<;>simp[e]
   |_=>simp[zO]
  |_=>simp[zO]
 ·rename_i h
  split
  ·rename_i a b
   exact absurd rfl (h (.int a) (.int b))
  ·rfl
theorem oF {d:PyData}(h:uo d=true):∃a b:Int,d=.tuple [.int a,.int b]∧tL d=some (b-a):=by
 rw[uU] at h
 unfold tL at h ⊢
 split at h
 ·rename_i a b
  split at h
  ·rename_i hc
   exact⟨a,b,rfl,by simp[hc]⟩
  ·cases h
 ·cases h
def yz (g:PyData→Bool):Sp:=fun vs H Q _=>∃x d,vs=[x]∧DV H x d∧Q (.bl (g d)) H
def wu :Sp:=fun vs H Q _=>∃x d lo hi,vs=[x,.int lo,.int hi]∧DV H x d∧Q (.bl (zO lo hi d)) H
theorem eQ {n:Nat}:decide (V.int (n:Int)=V.int 2)=decide ((n:Int)=2):=by simp
noncomputable def sub (p:Addr→Prop)(H:Hp):Hp:=fun a=>open Classical in if p a then H a else none
theorem zh {p:Addr→Prop}{H:Hp}{a:Addr}{o:HO}(h:sub p H a=some o):p a∧H a=some o:=by
 unfold sub at h
 split at h
 ·rename_i hp;exact⟨hp,h⟩
 ·cases h
theorem zK {p:Addr→Prop}{H:Hp}{a:Addr}{o:HO}(hp:p a)(h:H a=some o):sub p H a=some o:=by
 unfold sub
 rw[if_pos hp]
 exact h
theorem zl {p q:Addr→Prop}{H H':Hp}(h:∀a o,p a→H a=some o→q a∧H' a=some o):zq (sub p H) (sub q H'):=fun a o e=>by
 obtain⟨hp,he⟩:=zh e
 obtain⟨hq,he'⟩:=h a o hp he
 exact zK hq he'
theorem xm {p:Addr→Prop}{H:Hp}:zq (sub p H) H:=fun _ _ e=>(zh e).2
theorem zZ.snoc {n:Nat}{ds:List PyData}{d:PyData}(h:zZ n ds)(hd:yp n d)(hp:d.depth≤7):zZ n (ds++[d]):=
 ⟨fun e he=>(zn9.mp he).elim (h.all e) fun z=>by rw[zk7.mp z];exact hd,fun e he=>(zn9.mp he).elim (h.dep e) fun z=>by rw[zk7.mp z];exact hp⟩
theorem zZ.nil {n:Nat}:zZ n []:=⟨fun d hd=>by simp at hd,fun d hd=>by simp at hd⟩
theorem zZ.two {n:Nat}{d e:PyData}(hd:yp n d)(he:yp n e)(h1:d.depth≤7)(h2:e.depth≤7):zZ n [d,e]:=(zZ.nil.snoc hd h1).snoc he h2
section
variable {X:Cx}{e:Expr}{es:List Expr}
def uE (X:Cx)(e:Expr):TE:=fun σ H Q=>∃t,PE X e t∧t σ H Q
theorem ze :PE X e (uE X e):=fun pins s σ H Q I ⟨t,p,q⟩=>p pins s σ H Q I q
def zd8 (X:Cx)(e:Expr):TT:=fun σ H Q=>∃t,PT X e t∧t σ H Q
theorem xO :PT X e (zd8 X e):=fun pins s σ H Q I ⟨t,p,q⟩=>p pins s σ H Q I q
def zd3 (X:Cx)(es:List Expr):TA:=fun σ H Q=>∃t,PA X es t∧t σ H Q
theorem yu :PA X es (zd3 X es):=fun pos pins s σ H Q I ⟨t,p,q⟩=>p pos pins s σ H Q I q
end
def ku :Key→PyData
 |.inl i=>.int i
 |.inr x=>.str x
def xcO (a C:Addr)(d:Option Addr):HO:=.ext fun h=>∃o vs,h.get? a=some o∧o.cls=.ref C∧o.dict=d∧o.data=.fields vs
mutual
inductive AV (H:Hp):V→PyData→Prop where
 |non:AV H .non .none
 |bl (b:Bool):AV H (.bl b) (.bool b)
 |int (i:Int):AV H (.int i) (.int i)
 |str (x:Str):AV H (.str x) (.str x)
 |lst {a:Addr} {xs:List V} {ds:List PyData}:H a=some (.lst xs)→AVs H xs ds→AV H (.ref a) (.list ds)
 |tup {a:Addr} {xs:List V} {ds:List PyData}:H a=some (.tup xs)→AVs H xs ds→AV H (.ref a) (.tuple ds)
 |ins {a C dx:Addr} {fs:List (Str×V)} {ds:List (PyData×PyData)}:H a=some (.ins C dx fs)→AVf H fs ds→AV H (.ref a) (.dict ((.int (C:Nat),.none)::ds))
 |dk {a:Addr} {o:Obj} {kvs:List (Key×V)} {ds:List (PyData×PyData)}:H a=some (.frz o (.dK kvs))→AVk H kvs ds→AV H (.ref a) (.dict ((.none,.none)::ds))
 |dt {a:Addr} {o:Obj} {kvs:List (List Key×V)} {ds:List (PyData×PyData)}:H a=some (.frz o (.dT kvs))→AVt H kvs ds→AV H (.ref a) (.dict ((.none,.bool true)::ds))
 |xc {a C dx:Addr} {fs:List (Str×V)} {ds:List (PyData×PyData)}:H a=some (xcO a C (some dx))→H dx=some (.xd fs)→AVf H fs ds→AV H (.ref a) (.dict ((.int (C:Nat),.bool true)::ds))
 |xn {a C:Addr}:H a=some (xcO a C none)→AV H (.ref a) (.dict [(.int (C:Nat),.bool false)])
inductive AVs (H:Hp):List V→List PyData→Prop where
 |nil:AVs H [] []
 |cons {x:V} {xs:List V} {d:PyData} {ds:List PyData}:AV H x d→AVs H xs ds→AVs H (x::xs) (d::ds)
inductive AVf (H:Hp):List (Str×V)→List (PyData×PyData)→Prop where
 |nil:AVf H [] []
 |cons {f:Str} {x:V} {fs:List (Str×V)} {d:PyData} {ds:List (PyData×PyData)}:AV H x d→AVf H fs ds→AVf H ((f,x)::fs) ((.str f,d)::ds)
inductive AVk (H:Hp):List (Key×V)→List (PyData×PyData)→Prop where
 |nil:AVk H [] []
 |cons {k:Key} {x:V} {fs:List (Key×V)} {d:PyData} {ds:List (PyData×PyData)}:AV H x d→AVk H fs ds→AVk H ((k,x)::fs) ((ku k,d)::ds)
inductive AVt (H:Hp):List (List Key×V)→List (PyData×PyData)→Prop where
 |nil:AVt H [] []
 |cons {k:List Key} {x:V} {fs:List (List Key×V)} {d:PyData} {ds:List (PyData×PyData)}:AV H x d→AVt H fs ds→AVt H ((k,x)::fs) ((.tuple (k.map ku),d)::ds)
end
mutual
theorem AV.same {H H':Hp}(e:zq H H'):∀{x:V} {d:PyData},AV H x d→AV H' x d
 |_,_,.non=>.non
 |_,_,.bl b=>.bl b
 |_,_,.int i=>.int i
 |_,_,.str x=>.str x
 |_,_,.lst hq hs=>.lst (e _ _ hq) (AVs.same e hs)
 |_,_,.tup hq hs=>.tup (e _ _ hq) (AVs.same e hs)
 |_,_,.ins hq hs=>.ins (e _ _ hq) (AVf.same e hs)
 |_,_,.dk hq hs=>.dk (e _ _ hq) (AVk.same e hs)
 |_,_,.dt hq hs=>.dt (e _ _ hq) (AVt.same e hs)
 |_,_,.xc hq hd hs=>.xc (e _ _ hq) (e _ _ hd) (AVf.same e hs)
 |_,_,.xn hq=>.xn (e _ _ hq)
theorem AVs.same {H H':Hp}(e:zq H H'):∀{xs:List V} {ds:List PyData},AVs H xs ds→AVs H' xs ds
 |_,_,.nil=>.nil
 |_,_,.cons h hs=>.cons (AV.same e h) (AVs.same e hs)
theorem AVf.same {H H':Hp}(e:zq H H'):∀{fs:List (Str×V)} {ds:List (PyData×PyData)},AVf H fs ds→AVf H' fs ds
 |_,_,.nil=>.nil
 |_,_,.cons h hs=>.cons (AV.same e h) (AVf.same e hs)
theorem AVk.same {H H':Hp}(e:zq H H'):∀{fs:List (Key×V)} {ds:List (PyData×PyData)},AVk H fs ds→AVk H' fs ds
 |_,_,.nil=>.nil
 |_,_,.cons h hs=>.cons (AV.same e h) (AVk.same e hs)
theorem AVt.same {H H':Hp}(e:zq H H'):∀{fs:List (List Key×V)} {ds:List (PyData×PyData)},AVt H fs ds→AVt H' fs ds
 |_,_,.nil=>.nil
 |_,_,.cons h hs=>.cons (AV.same e h) (AVt.same e hs)
end
mutual
theorem AV.dv {H:Hp}:∀{x:V} {d:PyData},AV H x d→d.hasDict=false→DV H x d
 |_,_,.non,_=>.non
 |_,_,.bl b,_=>.bl b
 |_,_,.int i,_=>.int i
 |_,_,.str x,_=>.str x
 |_,_,.lst hq hs,h=>.lst hq (AVs.dv hs (by simpa only[PyData.hasDict] using h))
 |_,_,.tup hq hs,h=>.tup hq (AVs.dv hs (by simpa only[PyData.hasDict] using h))
 |_,_,.ins hq hs,h=>by simp[PyData.hasDict] at h
 |_,_,.dk hq hs,h=>by simp[PyData.hasDict] at h
 |_,_,.dt hq hs,h=>by simp[PyData.hasDict] at h
 |_,_,.xc hq _ hs,h=>by simp[PyData.hasDict] at h
 |_,_,.xn hq,h=>by simp[PyData.hasDict] at h
theorem AVs.dv {H:Hp}:∀{xs:List V} {ds:List PyData},AVs H xs ds→PyData.hasDictAll ds=false→DVs H xs ds
 |_,_,.nil,_=>.nil
 |_,_,.cons h hs,e=>by
  simp only[PyData.hasDictAll,zu8] at e
  exact .cons (AV.dv h e.1) (AVs.dv hs e.2)
end
mutual
theorem DV.av {H:Hp}:∀{x:V} {d:PyData},DV H x d→AV H x d
 |_,_,.non=>.non
 |_,_,.bl b=>.bl b
 |_,_,.int i=>.int i
 |_,_,.str x=>.str x
 |_,_,.lst hq hs=>.lst hq (DVs.av hs)
 |_,_,.tup hq hs=>.tup hq (DVs.av hs)
theorem DVs.av {H:Hp}:∀{xs:List V} {ds:List PyData},DVs H xs ds→AVs H xs ds
 |_,_,.nil=>.nil
 |_,_,.cons h hs=>.cons (DV.av h) (DVs.av hs)
end
theorem AVs.length {H:Hp}:∀{xs:List V} {ds:List PyData},AVs H xs ds→xs.length=ds.length
 |_,_,.nil=>rfl
 |_,_,.cons _ hs=>by rw[zk5,zk5,AVs.length hs]
theorem AVs.append {H:Hp}:∀{xs ys:List V} {ds es:List PyData},AVs H xs ds→AVs H ys es→AVs H (xs++ys) (ds++es)
 |_,_,_,_,.nil,h=>h
 |_,_,_,_,.cons a r,h=>.cons a (AVs.append r h)
theorem AVs.get {H:Hp}:∀{xs:List V} {ds:List PyData} {i:Nat} {d:PyData},AVs H xs ds→ds[i]?=some d→∃x,xs[i]?=some x∧AV H x d
 |_,_,_,_,.nil,e=>by simp at e
 |_,_,0,_,.cons a _,e=>by simp at e;subst e;exact⟨_,rfl,a⟩
 |_,_,i+1,d,.cons _ r,e=>by
  obtain⟨x,h1,h2⟩:=AVs.get (i:=i) (d:=d) r (by simpa using e)
  exact⟨x,by simpa using h1,h2⟩
theorem AVs.take {H:Hp}:∀{xs:List V} {ds:List PyData} (n:Nat),AVs H xs ds→AVs H (xs.take n) (ds.take n)
 |_,_,0,_=>.nil
 |_,_,_+1,.nil=>.nil
 |_,_,n+1,.cons a r=>.cons a (AVs.take n r)
theorem AVs.drop {H:Hp}:∀{xs:List V} {ds:List PyData} (n:Nat),AVs H xs ds→AVs H (xs.drop n) (ds.drop n)
 |_,_,0,r=>r
 |_,_,_+1,.nil=>.nil
 |_,_,n+1,.cons _ r=>AVs.drop n r
theorem AVs.atI {H:Hp}{xs:List V}{ds:List PyData}{i:Int}{d:PyData}(h:AVs H xs ds)(e:atI ds i=some d):∃x,L2.atI xs i=some x∧AV H x d:=by
 unfold L2.atI at e ⊢
 rw[h.length]
 cases q:ixN ds.length i with
 |none=>rw[q] at e;cases e
 |some j=>
  rw[q] at e
  exact h.get (i:=j) e
def cutD (ds:List PyData)(lo hi:Option Int):List PyData:=(ds.drop (HT.sIx ds.length 0 lo)).take (HT.sIx ds.length ds.length hi-HT.sIx ds.length 0 lo)
theorem AVs.cut {H:Hp}{xs:List V}{ds:List PyData}(h:AVs H xs ds)(lo hi:Option Int):AVs H (kB xs lo hi) (cutD ds lo hi):=by
 unfold kB cutD
 rw[h.length]
 exact (h.drop _).take _
mutual
def noL :PyData→Bool
 |.list _=>false
 |.dict ((.none,_)::_)=>false
 |.dict kvs=>oy kvs
 |.tuple ds=>qK ds
 |_=>true
def qK :List PyData→Bool
 |[]=>true
 |d::r=>noL d&&qK r
def oy :List (PyData×PyData)→Bool
 |[]=>true
 |(_,d)::r=>noL d&&oy r
end
def Ob :HO→Prop
 |.lst _=>True
 |.dK _=>True
 |.frz _ _=>True
 |_=>False
mutual
theorem AV.noL {H H':Hp}(e:∀a o,¬Ob o→H a=some o→H' a=some o):∀{x:V} {d:PyData},AV H x d→noL d=true→AV H' x d
 |_,_,.non,_=>.non
 |_,_,.bl b,_=>.bl b
 |_,_,.int i,_=>.int i
 |_,_,.str x,_=>.str x
 |_,_,.lst _ _,h=>by simp[L2.noL] at h
 |_,_,.tup hq hs,h=>.tup (e _ _ (fun z=>z) hq) (AVs.noL e hs (by simpa only[L2.noL] using h))
 |_,_,.ins hq hs,h=>.ins (e _ _ (fun z=>z) hq) (AVf.noL e hs (by simpa[L2.noL,L2.oy] using h))
 |_,_,.dk _ _,h=>by simp[L2.noL] at h
 |_,_,.dt _ _,h=>by simp[L2.noL] at h
 |_,_,.xc hq hd hs,h=>.xc (e _ _ (fun z=>z) hq) (e _ _ (fun z=>z) hd) (AVf.noL e hs (by simpa[L2.noL,L2.oy] using h))
 |_,_,.xn hq,h=>.xn (e _ _ (fun z=>z) hq)
theorem AVs.noL {H H':Hp}(e:∀a o,¬Ob o→H a=some o→H' a=some o):∀{xs:List V} {ds:List PyData},AVs H xs ds→qK ds=true→AVs H' xs ds
 |_,_,.nil,_=>.nil
 |_,_,.cons h hs,q=>by
  simp only[L2.qK,zk3] at q
  exact .cons (AV.noL e h q.1) (AVs.noL e hs q.2)
theorem AVf.noL {H H':Hp}(e:∀a o,¬Ob o→H a=some o→H' a=some o):∀{fs:List (Str×V)} {ds:List (PyData×PyData)},AVf H fs ds→oy ds=true→AVf H' fs ds
 |_,_,.nil,_=>.nil
 |_,_,.cons h hs,q=>by
  simp only[L2.oy,zk3] at q
  exact .cons (AV.noL e h q.1) (AVf.noL e hs q.2)
end
structure Fr where
 H0:Hp
 O0:Addr→Prop
 tp:Option (Addr×Addr×Addr)
inductive A where
 |dat (d:PyData)
 |ow (c:PyData)
 |deep (d:PyData) (S:Addr→Prop)
 |tape
 |at (l:Addr)
 |exc (r:Fr) (q:PyData→Prop)
 |pin (l:Addr) (vs:List V) (ds:List PyData)
@[reducible] def A.own (ds:List PyData):A:=.ow (.list ds)
abbrev eW (ds:List (PyData×PyData)):PyData:=.dict ((.none,.none)::ds)
abbrev Ev :=List (Option A)
def xZ (o:HO):Prop:=∀ts,o≠.tup ts
theorem xJ {xs:List V}:xZ (.lst xs):=fun _ z=>by cases z
theorem Ob.notup {o:HO}(h:Ob o):xZ o:=fun ts z=>by subst z;exact h
def NT (F:Fr)(x:Addr):Prop:=(∀t b c,F.tp=some (t,b,c)→x≠t∧x≠b)∧¬uQ x
def Kz (F:Fr)(H H':Hp):Prop:=∀x o,H x=some o→NT F x→H' x=some o
structure zE (F:Fr)(H:Hp):Prop where
 tab:TabAt H
 ot:∀x,uQ x→F.O0 x
 all:∀t b c,F.tp=some (t,b,c)→yK H t b c∧F.O0 t∧F.O0 b∧F.O0 c
instance {F:Fr} {H:Hp}:CoeFun (zE F H) (fun _=>∀t b c,F.tp=some (t,b,c)→yK H t b c∧F.O0 t∧F.O0 b∧F.O0 c):=⟨zE.all⟩
theorem zE.to {F F':Fr}{H:Hp}(t:zE F H)(hp:F'.tp=F.tp)(ho:∀x,F.O0 x→F'.O0 x):zE F' H:=⟨t.tab,fun x h=>ho x (t.ot x h),fun a b c e=>by
 obtain⟨h1,h2,h3,h4⟩:=t a b c (hp▸e)
 exact⟨h1,ho _ h2,ho _ h3,ho _ h4⟩⟩
theorem zE.re {F F':Fr}{H H':Hp}(t:zE F H)(t':zE F' H')(hp:F'.tp=F.tp):zE F H':=⟨t'.tab,t.ot,fun a b c e=>⟨(t' a b c (hp▸e)).1,(t a b c e).2⟩⟩
theorem zE.upd {F:Fr}{H:Hp}{l:Addr}{o:HO}(t:zE F H)(h:∀a b c,F.tp=some (a,b,c)→l≠a∧l≠b∧l≠c)(hp:Plain H l):zE F (upd H l o):=⟨dN t.tab hp,t.ot,fun a b c e=>⟨jL (t a b c e).1 (h a b c e),(t a b c e).2⟩⟩
theorem zE.updO {F:Fr}{H:Hp}{l:Addr}{o:HO}(t:zE F H)(h:¬F.O0 l)(hp:Plain H l):zE F (L2.upd H l o):=t.upd (fun a b c e=>⟨fun z=>h (by rw[z];exact (t a b c e).2.1),fun z=>h (by rw[z];exact (t a b c e).2.2.1),fun z=>h (by rw[z];exact (t a b c e).2.2.2)⟩) hp
def foot (s:Option V):A→Addr→Prop
 |.ow _,x=>s=some (.ref x)
 |.deep _ S,x=>S x
 |_,_=>False
def Ow (F:Fr)(α:Ev)(σ:St)(x:Addr):Prop:=F.O0 x∨∃(i:Nat) (a:A) (s:Option V),α[i]?=some (some a)∧σ[i]?=some s∧foot s a x
noncomputable abbrev Gz (F:Fr)(α:Ev)(σ:St)(H:Hp):Hp:=sub (fun x=>¬Ow F α σ x) H
noncomputable def ua (S:Addr→Prop)(G H:Hp):Hp:=fun x=>open Classical in if S x then H x else match G x with
 |some (.lst _)=>none
 |o=>o
theorem wO {S:Addr→Prop}{G G' H H':Hp}(h:zq G G')(hS:∀x o,S x→H x=some o→H' x=some o):zq (ua S G H) (ua S G' H'):=fun x o e=>by
 unfold ua at e ⊢
 by_cases z:S x
 ·rw[if_pos z] at e ⊢;exact hS x o z e
 ·rw[if_neg z] at e ⊢
  cases q:G x with
  |none=>rw[q] at e;cases e
  |some u=>
   rw[h _ _ q]
   rw[q] at e
   exact e
theorem tD {S:Addr→Prop}{G H:Hp}{x:Addr}{o:HO}(h:ua S G H x=some o):(S x∧H x=some o)∨(¬S x∧G x=some o):=by
 unfold ua at h
 by_cases z:S x
 ·rw[if_pos z] at h;exact .inl ⟨z,h⟩
 ·rw[if_neg z] at h
  split at h
  ·cases h
  ·exact .inr ⟨z,h⟩
inductive yN (G:Hp):HO→PyData→Prop where
 |lst {xs:List V} {ds:List PyData}:AVs G xs ds→yN G (.lst xs) (.list ds)
 |dk {kvs:List (Key×V)} {ds:List (PyData×PyData)}:AVk G kvs ds→yN G (.dK kvs) (eW ds)
theorem yN.ob {G:Hp}{o:HO}{c:PyData}(h:yN G o c):Ob o:=by cases h<;>trivial
theorem yN.same {G G':Hp}{o:HO}{c:PyData}(h:yN G o c)(s:zq G G'):yN G' o c:=by
 cases h with
 |lst h=>exact .lst (h.same s)
 |dk h=>exact .dk (h.same s)
theorem yN.av {G:Hp}{o:HO}{ds:List PyData}{l:Addr}(h:yN G o (.list ds))(e:G l=some o):AV G (.ref l) (.list ds):=by
 cases h with
 |lst h=>exact .lst e h
theorem yN.lst_inv {G:Hp}{o:HO}{ds:List PyData}(h:yN G o (.list ds)):∃xs,o=.lst xs∧AVs G xs ds:=by cases h;exact⟨_,rfl,by assumption⟩
theorem yN.plain {G H:Hp}{o:HO}{c:PyData}{l:Addr}(h:yN G o c)(e:H l=some o):Plain H l:=by
 cases h with
 |lst h=>exact tY e
 |dk h=>exact hJ e
structure Lnk (r F:Fr)(H:Hp):Prop where
 tp:r.tp=F.tp
 o:∀x,r.O0 x→F.O0 x
 ok:zE r H
 k:Kz r r.H0 H
def yS (G:Hp)(F:Fr)(H:Hp)(s:Option V):A→Prop
 |.dat d=>∃v,s=some v∧AV G v d
 |.ow c=>∃l o,s=some (.ref l)∧H l=some o∧yN G o c∧¬F.O0 l∧F.H0 l=none
 |.deep d S=>∃v,s=some v∧AV (ua S G H) v d∧∀x,S x→¬F.O0 x∧F.H0 x=none∧∃xs,H x=some (.lst xs)
 |.tape=>∃t b c,F.tp=some (t,b,c)∧s=some (.ref t)
 |.at l=>s=some (.ref l)
 |.exc r _=>Lnk r F H
 |.pin l vs ds=>s=some (.ref l)∧G l=some (.lst vs)∧AVs G vs ds
structure M (F:Fr)(α:Ev)(σ:St)(H:Hp):Prop where
 len:α.length=σ.length
 ok:∀(i:Nat) (a:A) (s:Option V),α[i]?=some (some a)→σ[i]?=some s→yS (Gz F α σ H) F H s a
 dj:∀(i j:Nat) (a b:A) (s t:Option V) (x:Addr),α[i]?=some (some a)→α[j]?=some (some b)→σ[i]?=some s→σ[j]?=some t→foot s a x→foot t b x→i=j
 xd:∀(i:Nat) (r:Fr) (q:PyData→Prop),α[i]?=some (some (.exc r q))→∀(j:Nat) (a:A) (s:Option V) (x:Addr),α[j]?=some (some a)→σ[j]?=some s→foot s a x→r.H0 x=none
 tp:zE F H
 keep:Kz F F.H0 H
 oex:∀x,F.O0 x→∃o,H x=some o∧xZ o
theorem M.at' {F:Fr}{α:Ev}{σ:St}{H:Hp}(m:M F α σ H){i:Nat}{a:Option A}(e:α[i]?=some a):∃s,σ[i]?=some s:=by
 have:i<σ.length:=by rw[←m.len];exact (zj6.mp e).1
 exact⟨_,zn0 this⟩
theorem uf {G:Hp}{F:Fr}{H:Hp}{s:Option V}{a:A}{x:Addr}(h:yS G F H s a)(f:foot s a x):¬F.O0 x∧F.H0 x=none∧∃o,H x=some o∧Ob o:=by
 cases a with
 |ow c=>
  obtain⟨l,o,h1,h2,h3,h4,h5⟩:=h
  have f':s=some (.ref x):=f
  rw[f'] at h1;cases h1
  exact⟨h4,h5,o,h2,h3.ob⟩
 |deep d S=>
  obtain⟨v,h1,h2,h3⟩:=h
  obtain⟨z1,z2,xs,z3⟩:=h3 x f
  exact⟨z1,z2,_,z3,trivial⟩
 |dat d=>exact f.elim
 |tape=>exact f.elim
 |«at» l=>exact f.elim
 |exc r q=>exact f.elim
 |pin l vs ds=>exact f.elim
theorem Lnk.kz {r F:Fr}{H H':Hp}(l:Lnk r F H)(k:Kz F H H')(t:zE F H'):Lnk r F H':=⟨l.tp,l.o,l.ok.re t l.tp.symm,fun x o e n=>k x o (l.k x o e n) ⟨fun a b c z=>n.1 a b c (l.tp.trans z),n.2⟩⟩
theorem Lnk.none {r F:Fr}{H:Hp}(l:Lnk r F H){x:Addr}(h:H x=Option.none):r.H0 x=Option.none:=by
 cases q:r.H0 x with
 |none=>rfl
 |some o=>rw[l.k x o q ⟨fun a b c e=>⟨((l.ok a b c e).1.free h).1,((l.ok a b c e).1.free h).2.1⟩,qH l.ok.tab h⟩] at h;cases h
def noX :A→Prop
 |.exc _ _=>False
 |_=>True
theorem yS.stay {G G':Hp}{F F':Fr}{H H':Hp}{s:Option V}{a:A}(h:yS G F H s a)(g:zq G G')(hf:∀x o,foot s a x→H x=some o→H' x=some o∧¬F'.O0 x∧F'.H0 x=none)(hp:F'.tp=F.tp)(hl:∀r q,a=.exc r q→Lnk r F H→Lnk r F' H'):yS G' F' H' s a:=by
 cases a with
 |dat d=>obtain⟨v,h1,h2⟩:=h;exact⟨v,h1,h2.same g⟩
 |ow c=>
  obtain⟨l,o,h1,h2,h3,h4,h5⟩:=h
  obtain⟨z1,z2,z3⟩:=hf l o h1 h2
  exact⟨l,o,h1,z1,h3.same g,z2,z3⟩
 |deep d S=>
  obtain⟨v,h1,h2,h3⟩:=h
  refine⟨v,h1,h2.same (wO g fun x o z e=>(hf x o z e).1),fun x z=>?_⟩
  obtain⟨_,_,xs,e⟩:=h3 x z
  obtain⟨z1,z2,z3⟩:=hf x _ z e
  exact⟨z2,z3,xs,z1⟩
 |tape=>obtain⟨t,b,c,e,z⟩:=h;exact⟨t,b,c,hp.trans e,z⟩
 |«at» l=>exact h
 |exc r q=>exact hl r q rfl h
 |pin l vs ds=>exact⟨h.1,g _ _ h.2.1,h.2.2.same g⟩
section
variable {F:Fr}{α:Ev}{σ:St}{H H' H'':Hp}
theorem M.dat (m:M F α σ H)(i:Nat)(d:PyData)(e:α[i]?=some (some (.dat d))):∃v,σ[i]?=some (some v)∧AV (Gz F α σ H) v d:=by
 obtain⟨s,hs⟩:=m.at' e
 obtain⟨v,rfl,h⟩:=m.ok i _ s e hs
 exact⟨v,hs,h⟩
theorem M.owc (m:M F α σ H)(i:Nat)(c:PyData)(e:α[i]?=some (some (.ow c))):∃l o,σ[i]?=some (some (.ref l))∧H l=some o∧yN (Gz F α σ H) o c∧¬F.O0 l∧F.H0 l=none:=by
 obtain⟨s,hs⟩:=m.at' e
 obtain⟨l,o,rfl,h⟩:=m.ok i _ s e hs
 exact⟨l,o,hs,h⟩
theorem M.own (m:M F α σ H)(i:Nat)(ds:List PyData)(e:α[i]?=some (some (.own ds))):∃l xs,σ[i]?=some (some (.ref l))∧H l=some (.lst xs)∧AVs (Gz F α σ H) xs ds∧¬F.O0 l∧F.H0 l=none:=by
 obtain⟨l,o,h1,h2,h3,h4⟩:=m.owc i _ e
 obtain⟨xs,rfl,h5⟩:=h3.lst_inv
 exact⟨l,xs,h1,h2,h5,h4⟩
theorem M.deep (m:M F α σ H)(i:Nat)(d:PyData)(S:Addr→Prop)(e:α[i]?=some (some (.deep d S))):∃v,σ[i]?=some (some v)∧AV (ua S (Gz F α σ H) H) v d∧∀x,S x→¬F.O0 x∧F.H0 x=none∧∃xs,H x=some (.lst xs):=by
 obtain⟨s,hs⟩:=m.at' e
 obtain⟨v,rfl,h⟩:=m.ok i _ s e hs
 exact⟨v,hs,h⟩
theorem M.tvar (m:M F α σ H)(i:Nat)(e:α[i]?=some (some .tape)):∃t b c,F.tp=some (t,b,c)∧σ[i]?=some (some (.ref t)):=by
 obtain⟨s,hs⟩:=m.at' e
 obtain⟨t,b,c,h,rfl⟩:=m.ok i _ s e hs
 exact⟨t,b,c,h,hs⟩
theorem M.lnk (m:M F α σ H){i:Nat}{r:Fr}{q:PyData→Prop}(e:α[i]?=some (some (.exc r q))):Lnk r F H:=by
 obtain⟨s,hs⟩:=m.at' e
 exact m.ok i _ s e hs
theorem Kz.refl :Kz F H H:=fun _ _ e _=>e
theorem Kz.trans (h:Kz F H H')(k:Kz F H' H''):Kz F H H'':=fun x o e n=>k x o (h x o e n) n
theorem Kz.of_same (h:zq H H'):Kz F H H':=fun x o e _=>h x o e
theorem zE.same (t:zE F H)(h:zq H H'):zE F H':=⟨bK t.tab h,t.ot,fun a b c e=>⟨lO (t a b c e).1 h,(t a b c e).2⟩⟩
theorem zE.nt (t:zE F H){x:Addr}(h:¬F.O0 x):NT F x:=⟨fun a b c e=>⟨fun z=>h (z▸(t a b c e).2.1),fun z=>h (z▸(t a b c e).2.2.1)⟩,fun z=>h (t.ot x z)⟩
theorem ow0 {x:Addr}(h:¬Ow F α σ x):¬F.O0 x:=fun z=>h (.inl z)
theorem Kz.gz (k:Kz F H H')(t:zE F H):zq (Gz F α σ H) (Gz F α σ H'):=zl fun a o h e=>⟨h,k a o e (t.nt (ow0 h))⟩
theorem M.oex' (t:zE F H')(k:Kz F H H')(h:∀x,F.O0 x→∃o,H x=some o∧xZ o):∀x,F.O0 x→∃o,H' x=some o∧xZ o:=fun x hx=>by
 by_cases n:NT F x
 ·obtain⟨o,ho,hn⟩:=h x hx
  exact⟨o,k _ _ ho n,hn⟩
 ·by_cases z:uQ x
  ·obtain⟨o,ho,hn,_⟩:=ud t.tab z
   exact⟨o,ho,hn⟩
  ·have:∃a b c,F.tp=some (a,b,c)∧¬(x≠a∧x≠b):=by
    refine Classical.byContradiction fun q=>n ⟨fun a b c e=>?_,z⟩
    exact Classical.byContradiction fun w=>q ⟨a,b,c,e,w⟩
   obtain⟨a,b,c,e,w⟩:=this
   obtain⟨n,bs,cs,_,e1,e2,e3,_⟩:=(t a b c e).1.ex
   by_cases xa:x=a
   ·exact⟨_,xa▸e1,xJ⟩
   ·by_cases xb:x=b
    ·exact⟨_,xb▸e2,xJ⟩
    ·exact absurd ⟨xa,xb⟩ w
theorem M.kz (m:M F α σ H)(k:Kz F H H')(t:zE F H'):M F α σ H' where
 len:=m.len
 ok:=fun i a s e1 e2=>(m.ok i a s e1 e2).stay (k.gz m.tp) (fun x o hf e=>by
  obtain⟨h1,h2,_⟩:=uf (m.ok i a s e1 e2) hf
  exact⟨k x o e (m.tp.nt h1),h1,h2⟩) rfl fun r _ _ l=>l.kz k t
 dj:=m.dj
 xd:=m.xd
 tp:=t
 keep:=m.keep.trans k
 oex:=M.oex' t k m.oex
theorem M.ft (m:M F α σ H){i:Nat}{a:A}{s:Option V}{x:Addr}(e1:α[i]?=some (some a))(e2:σ[i]?=some s)(f:foot s a x):¬F.O0 x∧F.H0 x=none∧∃o,H x=some o∧Ob o:=uf (m.ok i a s e1 e2) f
theorem M.owEx (m:M F α σ H){x:Addr}(h:Ow F α σ x):∃o,H x=some o∧xZ o:=by
 rcases h with z|⟨i,a,s,e1,e2,f⟩
 ·exact m.oex x z
 ·obtain⟨_,_,o,ho,hb⟩:=m.ft e1 e2 f
  exact⟨o,ho,hb.notup⟩
theorem M.fresh (m:M F α σ H){l:Addr}(h:H l=none):¬Ow F α σ l:=fun z=>by
 obtain⟨o,ho,_⟩:=m.owEx z
 rw[h] at ho;cases ho
theorem M.fresh0 (m:M F α σ H){l:Addr}(h:H l=none):F.H0 l=none:=by
 cases q:F.H0 l with
 |none=>rfl
 |some o=>rw[m.keep l o q (m.tp.nt fun z=>m.fresh h (.inl z))] at h;cases h
theorem M.old (m:M F α σ H):zq (sub (fun x=>¬F.O0 x) F.H0) (Gz F α σ H):=fun a o e=>by
 obtain⟨h1,h2⟩:=zh e
 refine zK ?_ (m.keep a o h2 (m.tp.nt h1))
 rintro (z|⟨i,b,s,e1,e2,f⟩)
 ·exact h1 z
 ·obtain⟨_,z,_⟩:=m.ft e1 e2 f
  rw[h2] at z;cases z
noncomputable def Fr.up (F:Fr)(G:Hp):Fr:={F with H0:=fun x=>(F.H0 x).or (G x)}
theorem rC {G:Hp}{x:Addr}{o:HO}(h:F.H0 x=some o):(F.up G).H0 x=some o:=by show (F.H0 x).or (G x)=some o;rw[h];rfl
theorem nX {G:Hp}{x:Addr}(h:(F.up G).H0 x=none):F.H0 x=none:=by
 cases q:F.H0 x with
 |none=>rfl
 |some o=>rw[rC q] at h;cases h
theorem M.up (m:M F α σ H):M (F.up (Gz F α σ H)) α σ H where
 len:=m.len
 ok:=fun i a s e1 e2=>(m.ok i a s e1 e2).stay (fun _ _ e=>e) (fun x o hf e=>by
  obtain⟨h1,h2,_⟩:=m.ft e1 e2 hf
  refine⟨e,h1,?_⟩
  show (F.H0 x).or (Gz F α σ H x)=none
  rw[h2]
  show Gz F α σ H x=none
  cases q:Gz F α σ H x with
  |none=>rfl
  |some o=>exact absurd (.inr ⟨i,a,s,e1,e2,hf⟩) (zh q).1) rfl fun r _ _ l=>⟨l.tp,l.o,l.ok,l.k⟩
 dj:=m.dj
 xd:=m.xd
 tp:=m.tp.to rfl fun _ z=>z
 keep:=fun x o e n=>by
  have e':(F.H0 x).or (Gz F α σ H x)=some o:=e
  cases q:F.H0 x with
  |none=>rw[q,Option.none_or] at e';exact (zh e').2
  |some o'=>rw[q] at e';cases e';exact m.keep x _ q n
 oex:=m.oex
theorem M.down {G:Hp}(m:M (F.up G) α σ H):M F α σ H where
 len:=m.len
 ok:=fun i a s e1 e2=>(m.ok i a s e1 e2).stay (fun _ _ e=>e) (fun x o hf e=>by
  obtain⟨h1,h2,_⟩:=m.ft e1 e2 hf
  exact⟨e,h1,nX h2⟩) rfl fun r _ _ l=>⟨l.tp,l.o,l.ok,l.k⟩
 dj:=m.dj
 xd:=m.xd
 tp:=m.tp.to rfl fun _ z=>z
 keep:=fun x o e n=>m.keep x o (rC e) n
 oex:=m.oex
theorem M.upold {α0:Ev}{σ0:St}{H1:Hp}(m0:M F α0 σ0 H1)(m:M (F.up (Gz F α0 σ0 H1)) α σ H):zq (Gz F α0 σ0 H1) (Gz F α σ H):=fun a o e=>by
 obtain⟨h1,h2⟩:=zh e
 have e0:(F.up (Gz F α0 σ0 H1)).H0 a=some o:=by
  show (F.H0 a).or (Gz F α0 σ0 H1 a)=some o
  cases q:F.H0 a with
  |none=>exact e
  |some o'=>
   have:=m0.keep a o' q (m0.tp.nt (ow0 h1))
   rw[h2] at this;cases this;rfl
 exact m.old a o (zK (p:=fun x=>¬F.O0 x) (ow0 h1) e0)
end
def yD (F:Fr)(α:Ev)(σ:St)(H:Hp)(v:V)(H':Hp)(ds:List PyData):Prop:=
 ∃l xs,v=.ref l∧H l=none∧H' l=some (.lst xs)∧AVs (sub (fun x=>¬Ow F α σ x∧x≠l) H') xs ds
def jS (F:Fr)(α:Ev)(σ:St)(H:Hp)(v:V)(H':Hp)(c:PyData):Prop:=
 ∃l o,v=.ref l∧H l=none∧H' l=some o∧yN (sub (fun x=>¬Ow F α σ x∧x≠l) H') o c
theorem yD.c {F:Fr}{α:Ev}{σ:St}{H H':Hp}{v:V}{ds:List PyData}(h:yD F α σ H v H' ds):jS F α σ H v H' (.list ds):=by
 obtain⟨l,xs,h1,h2,h3,h4⟩:=h
 exact⟨l,_,h1,h2,h3,.lst h4⟩
theorem yD.av {F:Fr}{α:Ev}{σ:St}{H H':Hp}{v:V}{ds:List PyData}(m:M F α σ H)(h:yD F α σ H v H' ds):AV (Gz F α σ H') v (.list ds):=by
 obtain⟨l,xs,rfl,h1,h2,h3⟩:=h
 exact .lst (zK (m.fresh h1) h2) (h3.same (zl fun a o h e=>⟨h.1,e⟩))
section
variable (X:Cx)(α:Ev)
def EvD (e:Expr)(Q:PyData→Prop):Prop:=∀(F:Fr) (σ:St) (H:Hp) (R:VK),M F α σ H→(∀d v H',Q d→zE F H'→Kz F H H'→AV (Gz F α σ H') v d→R v H')→uE X e σ H R
def EvL (e:Expr)(Q:List PyData→Prop):Prop:=∀(F:Fr) (σ:St) (H:Hp) (R:VK),M F α σ H→(∀ds v H',Q ds→zE F H'→Kz F H H'→yD F α σ H v H' ds→R v H')→uE X e σ H R
def EvT (e:Expr)(Q:Bool→Prop):Prop:=∀(F:Fr) (σ:St) (H:Hp) (R:Bool→Hp→Prop),M F α σ H→(∀b H',Q b→zE F H'→Kz F H H'→R b H')→zd8 X e σ H R
def kg (F:Fr)(G:Hp)(v:V):A→Prop
 |.dat d=>AV G v d
 |.tape=>∃t b c,F.tp=some (t,b,c)∧v=.ref t
 |_=>False
inductive zL (F:Fr)(G:Hp):List V→List A→Prop where
 |nil:zL F G [] []
 |cons {v:V} {vs:List V} {a:A} {as:List A}:kg F G v a→zL F G vs as→zL F G (v::vs) (a::as)
def EvA (es:List Expr)(Q:List A→Prop):Prop:=∀(F:Fr) (σ:St) (H:Hp) (R:List V→Hp→Prop),M F α σ H→(∀as vs H',Q as→zE F H'→Kz F H H'→zL F (Gz F α σ H') vs as→R vs H')→zd3 X es σ H R
end
theorem kg.to {F F':Fr}{G G':Hp}(s:zq G G')(hp:F'.tp=F.tp){v:V}:∀{a:A},kg F G v a→kg F' G' v a
 |.dat _,h=>AV.same s h
 |.tape,⟨t,b,c,e,z⟩=>⟨t,b,c,hp.trans e,z⟩
 |.ow _,h=>h
 |.deep _ _,h=>h
 |.at _,h=>h
 |.exc _ _,h=>h
 |.pin _ _ _,h=>h
theorem zL.to {F F':Fr}{G G':Hp}(s:zq G G')(hp:F'.tp=F.tp):∀{vs:List V} {as:List A},zL F G vs as→zL F' G' vs as
 |_,_,.nil=>.nil
 |_,_,.cons h r=>.cons (h.to s hp) (zL.to s hp r)
theorem zL.same {F:Fr}{G G':Hp}(s:zq G G'){vs:List V}{as:List A}(h:zL F G vs as):zL F G' vs as:=h.to s rfl
theorem zL.length {F:Fr}{G:Hp}:∀{vs:List V} {as:List A},zL F G vs as→vs.length=as.length
 |_,_,.nil=>rfl
 |_,_,.cons _ r=>by rw[zk5,zk5,zL.length r]
def A.d :A→PyData
 |.dat d=>d
 |.ow c=>c
 |.deep d _=>d
 |_=>.none
def jm (F:Fr)(v:V)(H':Hp):A→Prop
 |.dat d=>AV (sub (fun x=>¬F.O0 x) H') v d
 |.ow c=>∃l xs ds,v=.ref l∧c=.list ds∧F.H0 l=none∧¬F.O0 l∧H' l=some (.lst xs)∧AVs (sub (fun x=>¬F.O0 x∧x≠l) H') xs ds
 |.deep d S=>AV (ua S (sub (fun x=>¬F.O0 x) H') H') v d∧∀x,S x→¬F.O0 x∧F.H0 x=none∧∃xs,H' x=some (.lst xs)
 |_=>False
def xh (F:Fr)(v:V)(H':Hp)(a:A):Prop:=zE F H'∧Kz F F.H0 H'∧jm F v H' a
def spA (φ:List A→(A→Prop)→Prop):Sp:=fun vs H Qc _=>∃(F:Fr) (as:List A) (Q:A→Prop),F.H0=H∧zE F H∧(∀x,F.O0 x→∃o,H x=some o∧xZ o)∧zL F (sub (fun x=>¬F.O0 x) H) vs as∧φ as Q∧∀a v H',Q a→xh F v H' a→Qc v H'
theorem jm.to {F F':Fr}{v:V}{H':Hp}{a:A}(r:jm F v H' a)(ho:∀x,F'.O0 x→F.O0 x)(h0:∀x,F.H0 x=none→F'.H0 x=none):jm F' v H' a:=by
 have s:zq (sub (fun x=>¬F.O0 x) H') (sub (fun x=>¬F'.O0 x) H'):=zl fun a o h e=>⟨fun z=>h (ho _ z),e⟩
 cases a with
 |dat d=>exact AV.same s r
 |ow c=>
  obtain⟨l,xs,ds,h1,hc,h2,h3,h4,h5⟩:=r
  exact⟨l,xs,ds,h1,hc,h0 _ h2,fun z=>h3 (ho _ z),h4,h5.same (zl fun a o h e=>⟨⟨fun z=>h.1 (ho _ z),h.2⟩,e⟩)⟩
 |deep d S=>
  obtain⟨h1,h2⟩:=r
  refine⟨h1.same (wO s fun _ _ _ e=>e),fun x z=>?_⟩
  obtain⟨z1,z2,z3⟩:=h2 x z
  exact⟨fun w=>z1 (ho _ w),h0 _ z2,z3⟩
 |tape=>exact r
 |«at» _=>exact r
 |exc _ _=>exact r
 |pin _ _ _=>exact r
structure yi where
 nx:Ev→Prop
 rt:A→Prop
 bk:Ev→Prop:=fun _=>False
 ct:Ev→Prop:=fun _=>False
structure qM (F:Fr)(E:yi)(D:Ends):Prop where
 nx:∀α σ H,M F α σ H→E.nx α→D.nx σ H
 rt:∀a v H,xh F v H a→E.rt a→D.rt v H
 bk:∀α σ H,M F α σ H→E.bk α→D.bk σ H
 ct:∀α σ H,M F α σ H→E.ct α→D.ct σ H
def SvS (X:Cx)(α:Ev)(sts:List Stmt)(E:yi):Prop:=∀(F:Fr) (σ:St) (H:Hp) (D:Ends),M F α σ H→qM F E D→lX X sts D σ H
theorem qM.up {F:Fr}{G:Hp}{E:yi}{D:Ends}(e:qM F E D):qM (F.up G) E D where
 nx:=fun α σ H m q=>e.nx α σ H m.down q
 bk:=fun α σ H m q=>e.bk α σ H m.down q
 ct:=fun α σ H m q=>e.ct α σ H m.down q
 rt:=fun a v H r q=>e.rt a v H (by
  obtain⟨t,k,r⟩:=r
  exact⟨t.to rfl fun _ z=>z,fun x o e n=>k x o (rC e) n,r.to (fun _ z=>z) fun x z=>nX z⟩) q
section
variable {X:Cx}{α:Ev}{e a b c:Expr}{es:List Expr}{pos p q:Pos}{Q:PyData→Prop}
theorem EvL.d (h:EvL X α e (fun ds=>Q (.list ds))):EvD X α e Q:=fun F σ H R m k=>h F σ H R m fun ds v H' q t z f=>k _ v H' q t z (f.av m)
theorem EvD.imp {Q':PyData→Prop}(h:EvD X α e Q')(k:∀d,Q' d→Q d):EvD X α e Q:=fun F σ H R m r=>h F σ H R m fun d v H' q=>r d v H' (k d q)
theorem zd (i:Nat){x:Str}{d:PyData}(hi:α[i]?=some (some (.dat d)))(q:Q d)(hN:X.N[i]?=some x:=by rfl)(hv:Vis X.env.scope x:=by first|exact Or.inl rfl|exact Or.inr (Or.inl rfl)|exact Or.inr (Or.inr rfl))
  (hd:(x == ("__debug__":Str))=false:=by decide) (hcd:(x == ("__classdict__":Str))=false:=by decide):EvD X α (.Name x pos) Q:=fun F σ H R m k=>by
 obtain⟨v,h1,h2⟩:=m.dat i d hi
 exact⟨_,yx hN hv hd hcd,v,h1,k d v H q m.tp Kz.refl h2⟩
theorem zo {i:Int}{j:Nat}(q:Q (.int i)):EvD X α (.Constant (.int i) j pos) Q:=fun F σ H R m k=>⟨_,zt,k _ _ H q m.tp Kz.refl (.int i)⟩
theorem cb {i:Bool}{j:Nat}(q:Q (.bool i)):EvD X α (.Constant (.bool i) j pos) Q:=fun F σ H R m k=>⟨_,za8,k _ _ H q m.tp Kz.refl (.bl i)⟩
theorem vj {j:Nat}(q:Q .none):EvD X α (.Constant .none j pos) Q:=fun F σ H R m k=>⟨_,rL,k _ _ H q m.tp Kz.refl .non⟩
theorem zF {x:Str}{j:Nat}(q:Q (.str x)):EvD X α (.Constant (.str x) j pos) Q:=fun F σ H R m k=>⟨_,zN,k _ _ H q m.tp Kz.refl (.str x)⟩
theorem uD {x:Str}{i:Int}(hg:Gl X x)(hm:∃t,X.mg x=some (.int i t))(q:Q (.int i))(hd:(x == ("__debug__":Str))=false:=by decide):EvD X α (.Name x pos) Q:=fun F σ H R m k=>by
 obtain⟨t,hm⟩:=hm
 exact⟨_,xW hg hm (show RelV (.int i) (.int i t) from ⟨t,rfl⟩) hd,k _ _ H q m.tp Kz.refl (.int i)⟩
theorem uP {f:TE→TE→TE}(hf:PE X e (f (uE X a) (uE X b)))(hr:∀σ H R,f (uE X a) (uE X b) σ H R↔uE X a σ H (fun x H1=>uE X b σ H1 fun y H2=>f (tC x) (tC y) σ H2 R))
  (h:EvD X α a fun x=>EvD X α b fun y=>∀(F:Fr) (σ:St) (H:Hp) (vx vy:V) (R:VK),M F α σ H→AV (Gz F α σ H) vx x→AV (Gz F α σ H) vy y→(∀d v H',Q d→zE F H'→Kz F H H'→AV (Gz F α σ H') v d→R v H')→f (tC vx) (tC vy) σ H R):
  EvD X α e Q:=fun F σ H R m k=>by
 refine⟨_,hf,(hr σ H R).mpr ?_⟩
 refine h F σ H _ m fun x vx H1 q1 t1 k1 r1=>?_
 have m1:=m.kz k1 t1
 refine q1 F σ H1 _ m1 fun y vy H2 q2 t2 k2 r2=>?_
 exact q2 F σ H2 vx vy R (m1.kz k2 t2) (r1.same (k2.gz m1.tp)) r2 fun d v H' qd t3 k3 r3=>k d v H' qd t3 ((k1.trans k2).trans k3) r3
theorem AV.int_inv {H:Hp}{v:V}{i:Int}(h:AV H v (.int i)):v=.int i:=by cases h;rfl
theorem AV.bl_inv {H:Hp}{v:V}{i:Bool}(h:AV H v (.bool i)):v=.bl i:=by cases h;rfl
theorem AV.str_inv {H:Hp}{v:V}{i:Str}(h:AV H v (.str i)):v=.str i:=by cases h;rfl
theorem AV.tup_inv {H:Hp}{v:V}{ds:List PyData}(h:AV H v (.tuple ds)):∃a xs,v=.ref a∧H a=some (.tup xs)∧AVs H xs ds:=by cases h;exact⟨_,_,rfl,by assumption,by assumption⟩
theorem AV.lst_inv {H:Hp}{v:V}{ds:List PyData}(h:AV H v (.list ds)):∃a xs,v=.ref a∧H a=some (.lst xs)∧AVs H xs ds:=by cases h;exact⟨_,_,rfl,by assumption,by assumption⟩
theorem AV.non_inv {H:Hp}{v:V}(h:AV H v .none):v=.non:=by cases h;rfl
theorem AV.isnon {H:Hp}{v:V}{d:PyData}(h:AV H v d):decide (v=.non)=(match d with|.none=>true|_=>false):=by cases h<;>simp
theorem sN {op:Operator}{C:Int→Int→Prop}{g:Int→Int→V}{gd:Int→Int→PyData}(ho:OpR X (binaryOp op) (rI C g))(hg:∀H i j,AV H (g i j) (gd i j))
  (h:EvD X α a fun x=>EvD X α b fun y=>∃i j,x=.int i∧y=.int j∧C i j∧Q (gd i j)):EvD X α (.BinOp a op b pos) Q:=by
 refine uP (f:=tOp (rI C g)) (yV ho ze ze) (fun _ _ _=>Iff.rfl) (h.imp fun x h=>h.imp fun y ⟨i,j,e1,e2,hc,hq⟩=>?_)
 subst e1 e2
 intro F σ H vx vy R m rx ry k
 cases rx.int_inv;cases ry.int_inv
 exact⟨i,j,rfl,rfl,hc,k _ _ H hq m.tp Kz.refl (hg _ i j)⟩
theorem mH {op:Operator}{g:Int→Int→V}{gd:Int→Int→PyData}(ho:OpR X (binaryOp op) (rI0 g))(hg:∀H i j,AV H (g i j) (gd i j))
  (h:EvD X α a fun x=>EvD X α b fun y=>∃i j,x=.int i∧y=.int j∧Q (gd i j)):EvD X α (.BinOp a op b pos) Q:=by
 refine uP (f:=tOp (rI0 g)) (yV ho ze ze) (fun _ _ _=>Iff.rfl) (h.imp fun x h=>h.imp fun y ⟨i,j,e1,e2,hq⟩=>?_)
 subst e1 e2
 intro F σ H vx vy R m rx ry k
 cases rx.int_inv;cases ry.int_inv
 exact⟨i,j,rfl,rfl,k _ _ H hq m.tp Kz.refl (hg _ i j)⟩
theorem xl (h:EvD X α a fun x=>EvD X α b fun y=>∃i j,x=.int i∧y=.int j∧Q (.int (i+j))):EvD X α (.BinOp a .Add b pos) Q:=mH (gd:=fun i j=>.int (i+j)) sL (fun _ _ _=>.int _) h
theorem rp (h:EvD X α a fun x=>EvD X α b fun y=>∃i j,x=.int i∧y=.int j∧Q (.int (i-j))):EvD X α (.BinOp a .Sub b pos) Q:=mH (gd:=fun i j=>.int (i-j)) gD (fun _ _ _=>.int _) h
theorem sO (h:EvD X α a fun x=>EvD X α b fun y=>∃i j,x=.int i∧y=.int j∧dP i j∧Q (.int (i*j))):EvD X α (.BinOp a .Mult b pos) Q:=sN (gd:=fun i j=>.int (i*j)) rm (fun _ _ _=>.int _) h
theorem bw (h:EvD X α a fun x=>EvD X α b fun y=>∃i j,x=.int i∧y=.int j∧aD i j∧Q (.int (i ^ j.toNat))):EvD X α (.BinOp a .Pow b pos) Q:=sN (gd:=fun i j=>.int (i ^ j.toNat)) bV (fun _ _ _=>.int _) h
theorem ff (h:EvD X α a fun x=>EvD X α b fun y=>∃i j,x=.int i∧y=.int j∧0<j∧Q (.int (i % j))):EvD X α (.BinOp a .Mod b pos) Q:=sN (gd:=fun i j=>.int (i % j)) uR (fun _ _ _=>.int _) h
theorem nO (h:EvD X α a fun x=>EvD X α b fun y=>∃i j,x=.int i∧y=.int j∧cx i j∧Q (.int (i / j))):EvD X α (.BinOp a .FloorDiv b pos) Q:=sN (gd:=fun i j=>.int (i / j)) ux (fun _ _ _=>.int _) h
theorem yI {i j r:Int}{p1 p2:Pos}{n1 n2:Nat}(hc:aD i j)(hr:i ^ j.toNat=r)(q:Q (.int r)):EvD X α (.BinOp (.Constant (.int i) n1 p1) .Pow (.Constant (.int j) n2 p2) pos) Q:=
 bw (zo (zo ⟨i,j,rfl,rfl,hc,hr▸q⟩))
theorem iY (h:EvD X α a fun x=>∃i,x=.int i∧Q (.int (-i))):EvD X α (.UnaryOp .USub a pos) Q:=fun F σ H R m k=>by
 refine⟨_,zf1 aa ze,?_⟩
 refine h F σ H _ m fun x vx H1 q1 t1 k1 r1=>?_
 obtain⟨i,rfl,q⟩:=q1
 cases r1.int_inv
 exact⟨i,rfl,k _ _ H1 q t1 k1 (.int _)⟩
def xE :PyData→Bool
 |.none=>true
 |_=>false
theorem AV.non_iff {H:Hp}{v:V}{d:PyData}(h:AV H v d):decide (v=.non)=xE d:=by cases h<;>simp[xE]
theorem jb {Q:Bool→Prop}(h:EvD X α e fun x=>∃k,x=.bool k∧Q k)(he:∀whole,isTrue e X.env whole=(do let v ←whole;standAt e.pos;holding [v] (truthy v)):=by intro _;rfl):EvT X α e Q:=fun F σ H R m k=>by
 refine⟨_,kZ ze he,?_⟩
 refine h F σ H _ m fun x vx H1 q1 t1 k1 r1=>?_
 obtain⟨b,rfl,q⟩:=q1
 cases r1.bl_inv
 exact⟨b,rfl,k b H1 q t1 k1⟩
def Cmp (r:R2)(x y:PyData)(k:Bool):Prop:=∀(p:Addr→Prop) (H:Hp) (vx vy:V) (R:VK),AV (sub p H) vx x→AV (sub p H) vy y→R (.bl k) H→r vx vy H R
theorem xP {op:CmpOp}{r:R2}{Q:Bool→Prop}(ho:OpR X (compareOp op) r)(hm:behindInMarks op b=false)(h:EvD X α a fun x=>EvD X α b fun y=>∃k,Cmp r x y k∧Q k):EvT X α (.Compare a [op] [b] pos) Q:=fun F σ H R m k=>by
 refine⟨_,yh ho ze ze hm,?_⟩
 refine h F σ H _ m fun x vx H1 q1 t1 k1 r1=>?_
 have m1:=m.kz k1 t1
 refine q1 F σ H1 _ m1 fun y vy H2 q2 t2 k2 r2=>?_
 obtain⟨b,hc,q⟩:=q2
 exact hc _ H2 vx vy _ (r1.same (k2.gz m1.tp)) r2 ⟨b,rfl,k b H2 q t2 (k1.trans k2)⟩
theorem dC {g:Int→Int→Bool}{i j:Int}:Cmp (rI0 fun i j=>.bl (g i j)) (.int i) (.int j) (g i j):=fun p H vx vy R rx ry h=>by
 cases rx.int_inv;cases ry.int_inv
 exact⟨i,j,rfl,rfl,h⟩
theorem sQ {op:CmpOp}{g:Int→Int→Bool}{Q:Bool→Prop}(ho:OpR X (compareOp op) (rI0 fun i j=>.bl (g i j)))(hm:behindInMarks op b=false)
  (h:EvD X α a fun x=>EvD X α b fun y=>∃i j,x=.int i∧y=.int j∧Q (g i j)):EvT X α (.Compare a [op] [b] pos) Q:=
 xP ho hm (h.imp fun x h=>h.imp fun y ⟨i,j,e1,e2,q⟩=>⟨_,by subst e1 e2;exact dC,q⟩)
theorem gk {Q:Bool→Prop}(h:EvD X α a fun x=>EvD X α b fun y=>∃i j,x=.int i∧y=.int j∧Q (decide (i<j))):EvT X α (.Compare a [.Lt] [b] pos) Q:=sQ zd1 (zC _) h
theorem hV {Q:Bool→Prop}(h:EvD X α a fun x=>EvD X α b fun y=>∃i j,x=.int i∧y=.int j∧Q (decide (j<i))):EvT X α (.Compare a [.Gt] [b] pos) Q:=sQ cy (zC _) h
theorem cE {Q:Bool→Prop}(h:EvD X α a fun x=>EvD X α b fun y=>∃i j,x=.int i∧y=.int j∧Q (decide (j≤i))):EvT X α (.Compare a [.GtE] [b] pos) Q:=sQ aO (zC _) h
theorem wI {j:Nat}{Q:Bool→Prop}(h:EvD X α a fun x=>Q (xE x)):EvT X α (.Compare a [.Is] [.Constant .none j p] pos) Q:=
 xP pT (zC _) (h.imp fun x h=>vj ⟨_,fun p H vx vy R rx ry z=>⟨ry.non_inv,by rw[rx.non_iff];exact z⟩,h⟩)
theorem fz {j:Nat}{Q:Bool→Prop}(h:EvD X α a fun x=>Q (!xE x)):EvT X α (.Compare a [.IsNot] [.Constant .none j p] pos) Q:=
 xP dq (zC _) (h.imp fun x h=>vj ⟨_,fun p H vx vy R rx ry z=>⟨ry.non_inv,by rw[rx.non_iff];exact z⟩,h⟩)
def zg7 :PyData→Option Bool
 |.none=>some false
 |.bool b=>some b
 |.int i=>some (i != 0)
 |.list ds=>some (!ds.isEmpty)
 |.tuple ds=>some (!ds.isEmpty)
 |_=>none
theorem AVs.isEmpty {H:Hp}{xs:List V}{ds:List PyData}(h:AVs H xs ds):xs.isEmpty=ds.isEmpty:=by cases h<;>rfl
theorem jx {Q:Bool→Prop}(h:EvD X α e fun x=>∃k,zg7 x=some k∧Q k)(he:∀whole,isTrue e X.env whole=(do let v ←whole;standAt e.pos;holding [v] (truthy v)):=by intro _;rfl):EvT X α e Q:=fun F σ H R m k=>by
 refine⟨_,gP ze he,?_⟩
 refine h F σ H _ m fun x vx H1 q1 t1 k1 r1=>?_
 obtain⟨b,hb,q⟩:=q1
 refine⟨b,?_,k b H1 q t1 k1⟩
 cases r1 with
 |non=>cases hb;rfl
 |bl z=>cases hb;rfl
 |int i=>cases hb;rfl
 |str s=>cases hb
 |lst h1 h2=>cases hb;exact .inl ⟨_,SqL.of (zh h1).2,by rw[h2.isEmpty]⟩
 |tup h1 h2=>cases hb;exact .inr (.inl ⟨_,SqT.of (zh h1).2,by rw[h2.isEmpty]⟩)
 |ins _ _=>cases hb
 |dk _ _=>cases hb
 |dt _ _=>cases hb
 |xc _ _ _=>cases hb
 |xn _=>cases hb
theorem oX {Q:Bool→Prop}(h:EvT X α a fun k=>Q (!k)):EvT X α (.UnaryOp .Not a pos) Q:=fun F σ H R m k=>by
 refine⟨_,ji xO,?_⟩
 exact h F σ H _ m fun b H1 q1 t1 k1=>k _ H1 q1 t1 k1
def EvW (X:Cx)(α:Ev)(e:Expr)(Q:Bool→Prop):Prop:=∀(F:Fr) (σ:St) (H:Hp) (R:Bool→Hp→Prop),M F α σ H→(∀b H',Q b→zE F H'→Kz F H H'→R b H')→∃t,PW X e t∧t σ H R
def zh8 (X:Cx)(e:Expr):TT:=fun σ H Q=>∃t,PW X e t∧t σ H Q
theorem nC :PW X e (zh8 X e):=fun w pins s σ H Q I ⟨t,p,q⟩=>p w pins s σ H Q I q
theorem EvW.t {Q:Bool→Prop}(h:EvW X α e Q):EvT X α e Q:=fun F σ H R m k=>by
 obtain⟨t,p,q⟩:=h F σ H R m k
 exact⟨t,p.pt,q⟩
variable {rest:List Expr}
theorem ma {Q:Bool→Prop}(h:EvT X α a Q):EvW X α (.BoolOp .And [a] pos) Q:=fun F σ H R m k=>⟨_,eB xO,h F σ H R m k⟩
theorem bj {Q:Bool→Prop}(h:EvT X α a Q):EvW X α (.BoolOp .Or [a] pos) Q:=fun F σ H R m k=>⟨_,pH xO,h F σ H R m k⟩
theorem jc {Q:Bool→Prop}(h:EvT X α a fun k=>if k=true then EvW X α (.BoolOp .And (b::rest) pos) Q else Q false):EvW X α (.BoolOp .And (a::b::rest) pos) Q:=fun F σ H R m k=>by
 refine⟨_,bf xO nC,?_⟩
 refine h F σ H _ m fun c H1 q1 t1 k1=>?_
 cases c with
 |true=>exact vL ((by simpa using q1:EvW X α _ Q) F σ H1 R (m.kz k1 t1) fun b H2 q2 t2 k2=>k b H2 q2 t2 (k1.trans k2))
 |false=>exact vC (k _ H1 (by simpa using q1) t1 k1)
theorem qu {Q:Bool→Prop}(h:EvT X α a fun k=>if k=true then Q true else EvW X α (.BoolOp .Or (b::rest) pos) Q):EvW X α (.BoolOp .Or (a::b::rest) pos) Q:=fun F σ H R m k=>by
 refine⟨_,iH xO nC,?_⟩
 refine h F σ H _ m fun c H1 q1 t1 k1=>?_
 cases c with
 |false=>exact vC ((by simpa using q1:EvW X α _ Q) F σ H1 R (m.kz k1 t1) fun b H2 q2 t2 k2=>k b H2 q2 t2 (k1.trans k2))
 |true=>exact vL (k _ H1 (by simpa using q1) t1 k1)
theorem iX {op}(h:EvD X α a Q):EvD X α (.BoolOp op [a] pos) Q:=fun F σ H R m k=>⟨_,xj ze,h F σ H R m k⟩
theorem aJ (h:EvD X α a fun x=>∃k,x=.bool k∧if k=true then EvD X α (.BoolOp .And (b::rest) pos) Q else Q (.bool false)):EvD X α (.BoolOp .And (a::b::rest) pos) Q:=fun F σ H R m k=>by
 refine⟨_,yG ze ze,?_⟩
 refine h F σ H _ m fun x vx H1 q1 t1 k1 r1=>?_
 obtain⟨c,rfl,q1⟩:=q1
 cases r1.bl_inv
 refine⟨c,rfl,?_⟩
 cases c with
 |true=>exact vL ((by simpa using q1:EvD X α _ Q) F σ H1 R (m.kz k1 t1) fun d v H2 q2 t2 k2 r2=>k d v H2 q2 t2 (k1.trans k2) r2)
 |false=>exact vC (k _ _ H1 (by simpa using q1) t1 k1 (.bl _))
theorem za2 (h:EvD X α a fun x=>∃k,x=.bool k∧if k=true then Q (.bool true) else EvD X α (.BoolOp .Or (b::rest) pos) Q):EvD X α (.BoolOp .Or (a::b::rest) pos) Q:=fun F σ H R m k=>by
 refine⟨_,jW ze ze,?_⟩
 refine h F σ H _ m fun x vx H1 q1 t1 k1 r1=>?_
 obtain⟨c,rfl,q1⟩:=q1
 cases r1.bl_inv
 refine⟨c,rfl,?_⟩
 cases c with
 |false=>exact vC ((by simpa using q1:EvD X α _ Q) F σ H1 R (m.kz k1 t1) fun d v H2 q2 t2 k2 r2=>k d v H2 q2 t2 (k1.trans k2) r2)
 |true=>exact vL (k _ _ H1 (by simpa using q1) t1 k1 (.bl _))
theorem bG (h:EvD X α a fun x=>∃k,x=.bool k∧Q (.bool (!k))):EvD X α (.UnaryOp .Not a pos) Q:=fun F σ H R m k=>by
 refine⟨_,jH ze,?_⟩
 refine h F σ H _ m fun x vx H1 q1 t1 k1 r1=>?_
 obtain⟨c,rfl,q⟩:=q1
 cases r1.bl_inv
 exact⟨c,rfl,k _ _ H1 q t1 k1 (.bl _)⟩
theorem rS (h:EvT X α c fun k=>if k=true then EvD X α a Q else EvD X α b Q):EvD X α (.IfExp c a b pos) Q:=fun F σ H R m k=>by
 refine⟨_,gL xO ze ze,?_⟩
 refine h F σ H _ m fun x H1 q1 t1 k1=>?_
 cases x with
 |true=>exact vL ((by simpa using q1:EvD X α _ Q) F σ H1 R (m.kz k1 t1) fun d v H2 q2 t2 k2 r2=>k d v H2 q2 t2 (k1.trans k2) r2)
 |false=>exact vC ((by simpa using q1:EvD X α _ Q) F σ H1 R (m.kz k1 t1) fun d v H2 q2 t2 k2 r2=>k d v H2 q2 t2 (k1.trans k2) r2)
theorem vm (hs:vt b)(h:EvD X α a fun x=>EvD X α b fun y=>∃ds i d,x=.list ds∧y=.int i∧atI ds i=some d∧Q d):EvD X α (.Subscript a b pos) Q:=by
 refine uP (f:=tOp (bL X.K)) (zX yL ze ze hs) (fun _ _ _=>Iff.rfl) (h.imp fun x h=>h.imp fun y ⟨ds,i,d,e1,e2,hat,hq⟩=>?_)
 subst e1 e2
 intro F σ H vx vy R m rx ry k
 obtain⟨a,xs,rfl,h1,h2⟩:=rx.lst_inv
 cases ry.int_inv
 obtain⟨v,hv,av⟩:=h2.atI hat
 exact⟨a,xs,i,v,rfl,rfl,SqL.of (zh h1).2,hv,k d v H hq m.tp Kz.refl av⟩
def EvO (X:Cx)(α:Ev)(e:Option Expr)(Q:Option Int→Prop):Prop:=∀(F:Fr) (σ:St) (H:Hp) (R:Option Int→Hp→Prop),M F α σ H→(∀i H',Q i→zE F H'→Kz F H H'→R i H')→∃t,PO X e t∧t σ H R
def zg9 (X:Cx)(e:Option Expr):TO:=fun σ H Q=>∃t,PO X e t∧t σ H Q
theorem ue {e:Option Expr}:PO X e (zg9 X e):=fun pins s σ H Q I ⟨t,p,q⟩=>p pins s σ H Q I q
theorem rD {Q:Option Int→Prop}(q:Q none):EvO X α none Q:=fun F σ H R m k=>⟨_,eL,k _ H q m.tp Kz.refl⟩
theorem sZ {Q:Option Int→Prop}(h:EvD X α a fun x=>∃i,x=.int i∧Q (some i)):EvO X α (some a) Q:=fun F σ H R m k=>by
 refine⟨_,eY ze,?_⟩
 refine h F σ H _ m fun x vx H1 q1 t1 k1 r1=>?_
 obtain⟨i,rfl,q⟩:=q1
 cases r1.int_inv
 exact⟨i,rfl,k _ H1 q t1 k1⟩
theorem M.lay {F:Fr}{σ:St}{H:Hp}{l:Addr}{xs:List V}{ds:List PyData}(m:M F α σ H)(hl:H l=none)(h:AVs (Gz F α σ H) xs ds):zE F (upd H l (.lst xs))∧Kz F H (upd H l (.lst xs))∧yD F α σ H (.ref l) (upd H l (.lst xs)) ds:=by
 refine⟨m.tp.same (yk hl),Kz.of_same (yk hl),l,xs,rfl,hl,zj,h.same (zl fun a o ha e=>?_)⟩
 have:=zk e hl
 exact⟨⟨ha,this⟩,by rw[zg this];exact e⟩
theorem gS {lo hi:Option Expr}{Q:List PyData→Prop}(h:EvD X α a fun x=>EvO X α lo fun l=>EvO X α hi fun u=>∃ds,x=.list ds∧Q (cutD ds l u)):EvL X α (.Subscript a (.Slice lo hi none p) pos) Q:=fun F σ H R m k=>by
 refine⟨_,qq dB ze ue ue,?_⟩
 refine h F σ H _ m fun x vx H1 q1 t1 k1 r1=>?_
 have m1:=m.kz k1 t1
 refine q1 F σ H1 _ m1 fun l H2 q2 t2 k2=>?_
 have m2:=m1.kz k2 t2
 refine q2 F σ H2 _ m2 fun u H3 q3 t3 k3=>?_
 have m3:=m2.kz k3 t3
 obtain⟨ds,rfl,q⟩:=q3
 obtain⟨a,xs,rfl,h1,h2⟩:=(r1.same ((k2.gz m1.tp).trans (k3.gz m2.tp))).lst_inv
 refine⟨a,xs,rfl,SqL.of (zh h1).2,fun p hp=>?_⟩
 obtain⟨g1,g2,g3⟩:=m3.lay hp (h2.cut l u)
 have kk:=(k1.trans k2).trans k3
 obtain⟨l',xs',e1,e2,e3,e4⟩:=g3
 refine k _ _ _ q g1 (kk.trans g2) ⟨l',xs',e1,?_,e3,e4⟩
 cases z:H l' with
 |none=>rfl
 |some o=>rw[kk l' o z (m.tp.nt (ow0 (m3.fresh e2)))] at e2;cases e2
theorem yD.back {F:Fr}{σ:St}{H H1 H':Hp}{v:V}{ds:List PyData}(m:M F α σ H)(k:Kz F H H1)(t1:zE F H1)(h:yD F α σ H1 v H' ds):yD F α σ H v H' ds:=by
 obtain⟨l',xs',e1,e2,e3,e4⟩:=h
 refine⟨l',xs',e1,?_,e3,e4⟩
 cases z:H l' with
 |none=>rfl
 |some o=>rw[k l' o z (m.tp.nt (ow0 ((m.kz k t1).fresh e2)))] at e2;cases e2
theorem zi {Q:List A→Prop}(q:Q []):EvA X α [] Q:=fun F σ H R m k=>⟨_,zm,k _ _ H q m.tp Kz.refl .nil⟩
theorem zb {Q:List A→Prop}(h:EvD X α e fun d=>EvA X α es fun as=>Q (.dat d::as))(hs:starEach (e::es) X.env=(false,eval e X.env)::starEach es X.env:=by rfl):EvA X α (e::es) Q:=fun F σ H R m k=>by
 refine⟨_,zc ze yu hs,?_⟩
 refine h F σ H _ m fun d v H1 q1 t1 k1 r1=>?_
 have m1:=m.kz k1 t1
 exact q1 F σ H1 _ m1 fun as vs H2 q2 t2 k2 r2=>k _ _ H2 q2 t2 (k1.trans k2) (.cons (r1.same (k2.gz m1.tp)) r2)
theorem zy {Q:List A→Prop}(i:Nat){x:Str}(hi:α[i]?=some (some .tape))(h:EvA X α es fun as=>Q (.tape::as))(hN:X.N[i]?=some x:=by rfl)(hv:Vis X.env.scope x:=by first|exact Or.inl rfl|exact Or.inr (Or.inl rfl)|exact Or.inr (Or.inr rfl))
  (hd:(x == ("__debug__":Str))=false:=by decide) (hcd:(x == ("__classdict__":Str))=false:=by decide) (hs:starEach (.Name x pos::es) X.env=(false,eval (.Name x pos) X.env)::starEach es X.env:=by rfl):EvA X α (.Name x pos::es) Q:=fun F σ H R m k=>by
 obtain⟨t,b,c,h1,h2⟩:=m.tvar i hi
 refine⟨_,zc (yx hN hv hd hcd) yu hs,.ref t,h2,?_⟩
 exact h F σ H _ m fun as vs H2 q2 t2 k2 r2=>k _ _ H2 q2 t2 k2 (.cons ⟨t,b,c,h1,rfl⟩ r2)
def datas :List A→Option (List PyData)
 |[]=>some []
 |.dat d::r=>(datas r).map (d::·)
 |_::_=>none
theorem zL.datas {F:Fr}{G:Hp}:∀{vs:List V} {as:List A} {ds:List PyData},zL F G vs as→L2.datas as=some ds→AVs G vs ds
 |_,_,ds,.nil,h=>by cases h;exact .nil
 |_,_,ds,.cons (a:=.dat d) (as:=as) h r,e=>by
  simp only[L2.datas,zm9] at e
  obtain⟨es,e1,rfl⟩:=e
  exact .cons h (zL.datas r e1)
 |_,_,ds,.cons (a:=.ow _) h r,e=>by cases h
 |_,_,ds,.cons (a:=.deep _ _) h r,e=>by cases h
 |_,_,ds,.cons (a:=.exc _ _) h r,e=>by cases h
 |_,_,ds,.cons (a:=.pin _ _ _) h r,e=>by cases h
 |_,_,ds,.cons (a:=.tape) h r,e=>by cases e
 |_,_,ds,.cons (a:=.at _) h r,e=>by cases h
theorem vd {n:Nat}(h:EvA X α es fun as=>∃ds,datas as=some ds∧ds.length≤1000∧Q (.tuple ds)):EvD X α (.Tuple es n pos) Q:=fun F σ H R m k=>by
 refine⟨_,oM yu,?_⟩
 refine h F σ H _ m fun as vs H1 q1 t1 k1 r1=>?_
 obtain⟨ds,e,hl,q⟩:=q1
 have r:=r1.datas e
 have m1:=m.kz k1 t1
 refine⟨by rw[r.length];exact zr8 (wL hl),fun p hp=>?_⟩
 refine k _ _ _ q (t1.same (yk hp)) (k1.trans (Kz.of_same (yk hp))) (.tup (xs:=vs) (zK (m1.fresh hp) zj) (r.same (zl fun a o ha e=>⟨ha,by rw[zg (zk e hp)];exact e⟩)))
theorem zU {Q:List PyData→Prop}(h:EvA X α es fun as=>∃ds,datas as=some ds∧ds.length≤1000∧Q ds):EvL X α (.List es pos) Q:=fun F σ H R m k=>by
 refine⟨_,aA yu,?_⟩
 refine h F σ H _ m fun as vs H1 q1 t1 k1 r1=>?_
 obtain⟨ds,e,hl,q⟩:=q1
 have r:=r1.datas e
 have m1:=m.kz k1 t1
 refine⟨by rw[r.length];exact zr8 (wL hl),fun p hp=>?_⟩
 obtain⟨g1,g2,g3⟩:=m1.lay hp r
 exact k _ _ _ q g1 (k1.trans g2) (g3.back m k1 t1)
theorem wo {id:String}{x:Str}{r:List V→Hp→VK→Prop}(hc:yU X (.builtin id) r)(hg:Gl X x)(hm:X.mg x=none)(hv:bootBuiltins x=some (.builtin id))
  (h:EvA X α (e::es) fun as=>∀(F:Fr) (σ:St) (H:Hp) (vs:List V) (R:VK),M F α σ H→zL F (Gz F α σ H) vs as→(∀d v H',Q d→zE F H'→Kz F H H'→AV (Gz F α σ H') v d→R v H')→r vs H R)
  (hn:x≠"__name__":=by decide) (hdb:(x == ("__debug__":Str))=false:=by decide) (he:starEach (e::es) X.env=(false,eval e X.env)::starEach es X.env:=by rfl) (hpl:(backTo pos (starEach es X.env)).any (·.1)=false:=by rfl):
  EvD X α (.Call (.Name x p) (e::es) [] pos) Q:=fun F σ H R m k=>by
 refine⟨_,yc hc hg hm hv yu hn hdb he hpl,?_⟩
 refine h F σ H _ m fun as vs H1 q1 t1 k1 r1=>?_
 exact q1 F σ H1 vs R (m.kz k1 t1) r1 fun d v H' qd t2 k2 r2=>k d v H' qd t2 (k1.trans k2) r2
end
section
variable {X:Cx}{α:Ev}{e a b c:Expr}{es:List Expr}{pos p q:Pos}{Q:PyData→Prop}
theorem zL.one {F:Fr}{G:Hp}{vs:List V}{d:PyData}(h:zL F G vs [.dat d]):∃v,vs=[v]∧AV G v d:=by
 cases h with|cons h r=>cases r;exact⟨_,rfl,h⟩
theorem zL.two {F:Fr}{G:Hp}{vs:List V}{d e:PyData}(h:zL F G vs [.dat d,.dat e]):∃v u,vs=[v,u]∧AV G v d∧AV G u e:=by
 cases h with|cons h r=>obtain⟨u,rfl,h2⟩:=r.one;exact⟨_,u,rfl,h,h2⟩
def zf5 :PyData→Option Int
 |.list ds=>some ds.length
 |.tuple ds=>some ds.length
 |_=>none
theorem rQ (hg:Gl X "len")(hm:X.mg "len"=none)(h:EvD X α e fun x=>∃n,zf5 x=some n∧Q (.int n))(he:starEach [e] X.env=(false,eval e X.env)::starEach [] X.env:=by rfl):
  EvD X α (.Call (.Name "len" p) [e] [] pos) Q:=by
 refine wo yW hg hm zt4 (zb (h.imp fun x ⟨n,e1,q⟩=>zi ?_) he) (he:=he)
 intro F σ H vs R m rv k
 obtain⟨v,rfl,av⟩:=rv.one
 cases av with
 |lst h1 h2=>cases e1;rw[←h2.length] at q;exact⟨_,_,rfl,.inl (SqL.of (zh h1).2),k _ _ H q m.tp Kz.refl (.int _)⟩
 |tup h1 h2=>cases e1;rw[←h2.length] at q;exact⟨_,_,rfl,.inr (SqT.of (zh h1).2),k _ _ H q m.tp Kz.refl (.int _)⟩
 |_=>cases e1
theorem kQ (hc:X.calm=true)(hg:Gl X "max")(hm:X.mg "max"=none)(h:EvD X α a fun x=>EvD X α b fun y=>∃i j,x=.int i∧y=.int j∧Q (.int (if j > i then j else i)))
  (he:starEach [a,b] X.env=(false,eval a X.env)::starEach [b] X.env:=by rfl) (he2:starEach [b] X.env=(false,eval b X.env)::starEach [] X.env:=by rfl) (hpl:(backTo pos (starEach [b] X.env)).any (·.1)=false:=by rfl):
  EvD X α (.Call (.Name "max" p) [a,b] [] pos) Q:=by
 refine wo (lC hc) hg hm boot_max (zb (h.imp fun x h=>zb (h.imp fun y ⟨i,j,e1,e2,q⟩=>zi ?_) he2) he) (he:=he) (hpl:=hpl)
 intro F σ H vs R m rv k
 subst e1 e2
 obtain⟨v,u,rfl,av,au⟩:=rv.two
 cases av.int_inv;cases au.int_inv
 exact⟨i,j,rfl,k _ _ H q m.tp Kz.refl (.int _)⟩
theorem oC (hc:X.calm=true)(hg:Gl X "min")(hm:X.mg "min"=none)(h:EvD X α a fun x=>EvD X α b fun y=>∃i j,x=.int i∧y=.int j∧Q (.int (if j<i then j else i)))
  (he:starEach [a,b] X.env=(false,eval a X.env)::starEach [b] X.env:=by rfl) (he2:starEach [b] X.env=(false,eval b X.env)::starEach [] X.env:=by rfl) (hpl:(backTo pos (starEach [b] X.env)).any (·.1)=false:=by rfl):
  EvD X α (.Call (.Name "min" p) [a,b] [] pos) Q:=by
 refine wo (lg hc) hg hm boot_min (zb (h.imp fun x h=>zb (h.imp fun y ⟨i,j,e1,e2,q⟩=>zi ?_) he2) he) (he:=he) (hpl:=hpl)
 intro F σ H vs R m rv k
 subst e1 e2
 obtain⟨v,u,rfl,av,au⟩:=rv.two
 cases av.int_inv;cases au.int_inv
 exact⟨i,j,rfl,k _ _ H q m.tp Kz.refl (.int _)⟩
theorem uO {T:String}{x:Str}{p1:Pos}(hg:Gl X "isinstance")(hm:X.mg "isinstance"=none)(hgT:Gl X x)(hmT:X.mg x=none)(hT:bootBuiltins x=some (.type T))
  (h:EvD X α a fun x=>∃k,x.hasDict=false∧tG T x=some k∧Q (.bool k)) (hnx:x≠"__name__":=by decide) (hdx:(x == ("__debug__":Str))=false:=by decide)
  (he:starEach [a,.Name x p1] X.env=(false,eval a X.env)::starEach [.Name x p1] X.env:=by rfl) (he2:starEach [.Name x p1] X.env=(false,eval (.Name x p1) X.env)::starEach [] X.env:=by rfl) (hpl:(backTo pos (starEach [.Name x p1] X.env)).any (·.1)=false:=by rfl):
  EvD X α (.Call (.Name "isinstance" p) [a,.Name x p1] [] pos) Q:=fun F σ H R m k=>by
 refine⟨_,yc yY hg hm zp7 (zc ze (zc (xV hgT hmT hT (show RelV (.ty T) (.type T) from rfl) hnx hdx) zm he2) he) (he:=he) (hpl:=hpl),?_⟩
 refine h F σ H _ m fun x vx H1 q1 t1 k1 r1=>?_
 obtain⟨b,hd,e,q⟩:=q1
 exact⟨vx,T,x,b,rfl,(r1.dv hd).same xm,e,k _ _ H1 q t1 k1 (.bl b)⟩
def tj :PyData→Option (List PyData)
 |.list ds=>some ds
 |.tuple ds=>some ds
 |_=>none
theorem AVs.bools {H:Hp}:∀{xs:List V} {bs:List Bool},AVs H xs (bs.map .bool)→xs=bs.map V.bl
 |_,[],.nil=>rfl
 |_,b::bs,.cons h r=>by rw[h.bl_inv,AVs.bools r];rfl
theorem bH (hc:X.calm=true)(hg:Gl X "all")(hm:X.mg "all"=none)(h:EvD X α e fun x=>∃bs:List Bool,x=.list (bs.map .bool)∧Q (.bool (bs.all id)))(he:starEach [e] X.env=(false,eval e X.env)::starEach [] X.env:=by rfl):
  EvD X α (.Call (.Name "all" p) [e] [] pos) Q:=by
 refine wo (kK hc) hg hm boot_all (zb (h.imp fun x ⟨bs,e1,q⟩=>zi ?_) he) (he:=he)
 intro F σ H vs R m rv k
 subst e1
 obtain⟨v,rfl,av⟩:=rv.one
 obtain⟨a,xs,rfl,h1,h2⟩:=av.lst_inv
 exact⟨a,bs,rfl,by rw[(zh h1).2,h2.bools],k _ _ H q m.tp Kz.refl (.bl _)⟩
section
variable {k:Nat}{f:Addr}{fd:FuncData}{ps:List Str}{φ:List A→(A→Prop)→Prop}{x:Str}
theorem xR {F:Fr}{σ:St}{H:Hp}{vs:List V}{as:List A}{QA:A→Prop}{R:VK}(m:M F α σ H)(rv:zL F (Gz F α σ H) vs as)(hφ:φ as QA)
  (kk:∀a v H',QA a→xh ⟨H,Ow F α σ,F.tp⟩ v H' a→R v H') {E:XK}:spA φ (vs++[]) H R E:=by
 refine⟨⟨H,Ow F α σ,F.tp⟩,as,QA,rfl,?_,?_,?_,hφ,kk⟩
 ·exact m.tp.to rfl fun _ z=>.inl z
 ·exact fun y z=>m.owEx z
 ·rw[zo0]
  exact zL.to (F:=F) (F':=⟨H,Ow F α σ,F.tp⟩) (fun _ _ e=>e) rfl rv
theorem xh.back {F:Fr}{σ:St}{H H':Hp}{v:V}{a:A}(m:M F α σ H)(h:xh ⟨H,Ow F α σ,F.tp⟩ v H' a):zE F H'∧Kz F H H'∧AV (Gz F α σ H') v a.d:=by
 obtain⟨t,kz,r⟩:=h
 refine⟨m.tp.re t rfl,kz,?_⟩
 cases a with
 |dat d=>exact r
 |ow c=>
  obtain⟨l,xs,ds,rfl,rfl,h1,h2,h3,h4⟩:=r
  exact .lst (zK h2 h3) (h4.same (zl fun a o h e=>⟨h.1,e⟩))
 |deep d S=>
  obtain⟨h1,h2⟩:=r
  refine h1.same fun x o e=>?_
  rcases tD e with ⟨z1,z2⟩|⟨_,z2⟩
  ·exact zK (h2 x z1).1 z2
  ·exact z2
 |tape=>exact r.elim
 |«at» _=>exact r.elim
 |exc _ _=>exact r.elim
 |pin _ _ _=>exact r.elim
theorem eU (G:zr X.prog X.w X.K X.mg X.base CX0 k f fd ps (spA φ))(hr:zG k X.A)(hg:Gl X x)(hm:X.mg x=some (.ref f))(hk:PySem.W.keepIn X.K (.ref f)=true)(hb:Binds X.K fd ps [])
  (h:EvA X α (e::es) fun as=>φ as fun a=>Q a.d) (hdb:(x == ("__debug__":Str))=false:=by decide) (he:starEach (e::es) X.env=(false,eval e X.env)::starEach es X.env:=by rfl) (hpl:(backTo pos (starEach es X.env)).any (·.1)=false:=by rfl):
  EvD X α (.Call (.Name x p) (e::es) [] pos) Q:=fun F σ H R m kk=>by
 refine⟨_,zM G hr hg hm hk hb .nil zQ yu hdb he hpl,?_⟩
 refine h F σ H _ m fun as vs H1 q1 t1 k1 r1=>?_
 have m1:=m.kz k1 t1
 refine xR m1 r1 q1 fun a v H' qa ra=>?_
 obtain⟨g1,g2,g3⟩:=ra.back m1
 exact kk _ v H' qa g1 (k1.trans g2) g3
theorem fL {Q:List PyData→Prop}(G:zr X.prog X.w X.K X.mg X.base CX0 k f fd ps (spA φ))(hr:zG k X.A)(hg:Gl X x)(hm:X.mg x=some (.ref f))(hk:PySem.W.keepIn X.K (.ref f)=true)(hb:Binds X.K fd ps [])
  (h:EvA X α (e::es) fun as=>φ as fun a=>∃ds,a=.own ds∧Q ds) (hdb:(x == ("__debug__":Str))=false:=by decide) (he:starEach (e::es) X.env=(false,eval e X.env)::starEach es X.env:=by rfl) (hpl:(backTo pos (starEach es X.env)).any (·.1)=false:=by rfl):
  EvL X α (.Call (.Name x p) (e::es) [] pos) Q:=fun F σ H R m kk=>by
 refine⟨_,zM G hr hg hm hk hb .nil zQ yu hdb he hpl,?_⟩
 refine h F σ H _ m fun as vs H1 q1 t1 k1 r1=>?_
 have m1:=m.kz k1 t1
 refine xR m1 r1 q1 fun a v H' qa ra=>?_
 obtain⟨ds,rfl,q⟩:=qa
 obtain⟨g1,g2,_⟩:=ra.back m1
 obtain⟨_,_,l,xs,ds',rfl,hc,h1,h2,h3,h4⟩:=ra
 cases hc
 exact kk ds _ H' q g1 (k1.trans g2) (yD.back m k1 t1 ⟨l,xs,rfl,h1,h3,h4⟩)
end
theorem zx {i:Nat}{x:Option A}{j:Nat}{y:Option A}(h:(α.set i x)[j]?=some y):(i=j∧x=y)∨(i≠j∧α[j]?=some y):=by
 by_cases hij:i=j
 ·subst hij
  left
  have hl:i<α.length:=by
   have:=(zj6.mp h).1
   rwa [zm2] at this
  rw[zp0 hl] at h
  exact⟨rfl,zl3 h⟩
 ·right
  rw[zn3 hij] at h
  exact⟨hij,h⟩
theorem M.put {F:Fr}{σ:St}{H:Hp}{i:Nat}{b:Option A}(m:M F α σ H)(hf:∀s c x,σ[i]?=some s→b=some c→foot s c x→∃a,α[i]?=some (some a)∧foot s a x)
  (hok:∀s c,i<α.length→σ[i]?=some s→b=some c→yS (Gz F (α.set i b) σ H) F H s c) (hx:∀c,b=some c→noX c:=by intro c z;cases z;trivial):zq (Gz F α σ H) (Gz F (α.set i b) σ H)∧M F (α.set i b) σ H:=by
 have gs:zq (Gz F α σ H) (Gz F (α.set i b) σ H):=zl fun a o h e=>⟨fun z=>h (by
  rcases z with z|⟨j,c,s,e1,e2,f⟩
  ·exact .inl z
  ·rcases zx e1 with ⟨rfl,z⟩|⟨hj,e1'⟩
   ·obtain⟨a',h1,h2⟩:=hf s c a e2 z f
    exact .inr ⟨i,a',s,h1,e2,h2⟩
   ·exact .inr ⟨j,c,s,e1',e2,f⟩),e⟩
 have old:∀{j:Nat} {c:A} {s:Option V} {x:Addr},(α.set i b)[j]?=some (some c)→σ[j]?=some s→foot s c x→∃a,α[j]?=some (some a)∧foot s a x:=fun {j c s x} e1 e2 f=>by
  rcases zx e1 with ⟨rfl,z⟩|⟨hj,e1'⟩
  ·exact hf s c x e2 z f
  ·exact⟨c,e1',f⟩
 refine⟨gs,by rw[zm2];exact m.len,fun j c s e1 e2=>?_,fun j k c d s t x e1 e2 h1 h2 f1 f2=>?_,fun j r q e j' c s x e1 e2 f=>?_,m.tp,m.keep,m.oex⟩
 ·rcases zx e1 with ⟨rfl,z⟩|⟨hj,e1'⟩
  ·refine hok s c ?_ e2 z
   have:=(zj6.mp e1).1
   rwa [zm2] at this
  ·exact (m.ok j c s e1' e2).stay gs (fun x o f e=>⟨e,(m.ft e1' e2 f).1,(m.ft e1' e2 f).2.1⟩) rfl fun _ _ _ l=>l
 ·obtain⟨a',g1,g2⟩:=old e1 h1 f1
  obtain⟨b',g3,g4⟩:=old e2 h2 f2
  exact m.dj j k a' b' s t x g1 g3 h1 h2 g2 g4
 ·obtain⟨a',g1,g2⟩:=old e1 e2 f
  rcases zx e with ⟨rfl,z⟩|⟨_,e'⟩
  ·exact (hx _ z).elim
  ·exact m.xd j r q e' j' a' s x g1 e2 g2
theorem M.gave {F:Fr}{σ:St}{H:Hp}{i:Nat}{a:A}{s:Option V}{b:Option A}{x:Addr}(m:M F α σ H)(e1:α[i]?=some (some a))(e2:σ[i]?=some s)(f:foot s a x)(hb:∀c,b=some c→¬foot s c x):¬Ow F (α.set i b) σ x:=by
 rintro (z|⟨j,c,t,h1,h2,g⟩)
 ·exact (m.ft e1 e2 f).1 z
 ·rcases zx h1 with ⟨rfl,z⟩|⟨hj,h1'⟩
  ·rw[e2] at h2;cases h2;exact hb c z g
  ·exact hj (m.dj i j a c s t x e1 h1' e2 h2 f g)
theorem jj {F:Fr}{σ:St}{H:Hp}{i:Nat}{b:A}(hb:∀s x,¬foot s b x):zq (Gz F α σ H) (Gz F (α.set i (some b)) σ H):=zl fun a o h e=>⟨fun z=>h (by
 rcases z with z|⟨j,c,s,e1,e2,f⟩
 ·exact .inl z
 ·rcases zx e1 with ⟨rfl,z⟩|⟨hj,e1'⟩
  ·cases z;exact (hb _ _ f).elim
  ·exact .inr ⟨j,c,s,e1',e2,f⟩),e⟩
theorem M.frz {F:Fr}{σ:St}{H:Hp}{i:Nat}{ds:List PyData}(m:M F α σ H)(hi:α[i]?=some (some (.own ds))):M F (α.set i (some (.dat (.list ds)))) σ H:=
 (m.put (b:=some (.dat (.list ds))) (fun s c' x _ z f=>by cases z;exact f.elim) fun s c' _ e2 z=>by
  cases z
  obtain⟨l,o,h1,h2,h3,h4,h5⟩:=m.owc i _ hi
  rw[h1] at e2;cases e2
  exact⟨.ref l,rfl,(h3.same (jj (b:=.dat (.list ds)) fun _ _ f=>f)).av (zK (m.gave hi h1 rfl fun c z=>by cases z;exact id) h2)⟩).2
theorem M.frzd {F:Fr}{σ:St}{H:Hp}{i:Nat}{d:PyData}{S:Addr→Prop}(m:M F α σ H)(hi:α[i]?=some (some (.deep d S))):M F (α.set i (some (.dat d))) σ H:=
 (m.put (b:=some (.dat d)) (fun s c' x _ z f=>by cases z;exact f.elim) fun s c' _ e2 z=>by
  cases z
  obtain⟨v,h1,h2,h3⟩:=m.deep i d S hi
  rw[h1] at e2;cases e2
  refine⟨v,rfl,h2.same fun x o e=>?_⟩
  rcases tD e with ⟨z1,z2⟩|⟨_,z2⟩
  ·exact zK (m.gave hi h1 z1 fun c z=>by cases z;exact id) z2
  ·obtain⟨w1,w2⟩:=zh z2
   refine zK (fun q=>w1 ?_) w2
   rcases q with z|⟨j,c,s,e1,e2,f⟩
   ·exact .inl z
   ·rcases zx e1 with ⟨rfl,z⟩|⟨hj,e1'⟩
    ·cases z;exact f.elim
    ·exact .inr ⟨j,c,s,e1',e2,f⟩).2
theorem nL {Q:Bool→Prop}(i:Nat){ds:List PyData}(hi:α[i]?=some (some (.own ds)))(h:EvT X (α.set i (some (.dat (.list ds)))) e Q):EvT X α e Q:=fun F σ H R m k=>h F σ H R (m.frz hi) k
def ItW (p:Addr→Prop)(J:It)(ds:List PyData)(G:Hp):Prop:=∀(i:Nat) (H2:Hp) (q:Addr→Prop),zq G (sub q H2)→
 (∀d,ds[i]?=some d→J.go i H2∧∀x H3,J.yld i H2 x H3→zq H2 H3∧((∀a o,H3 a=some o→H2 a=none→q a)→AV (sub q H3) x d))∧(ds.length≤i→J.stop i H2)
def bJ (X:Cx)(tg e:Expr):TI:=fun σ H R=>∃t,PI X tg e t∧t σ H R
theorem sR {tg e:Expr}:PI X tg e (bJ X tg e):=fun pins s σ H R I ⟨t,p,q⟩=>p pins s σ H R I q
def EvI (X:Cx)(α:Ev)(tg e:Expr)(Q:List PyData→Prop):Prop:=∀(F:Fr) (σ:St) (H:Hp) (R:It→Hp→Prop),M F α σ H→
 (∀ds J H',Q ds→zE F H'→Kz F H H'→ItW (fun x=>¬Ow F α σ x) J ds (Gz F α σ H')→R J H')→bJ X tg e σ H R
theorem uh {tg:Expr}{Q:List PyData→Prop}(h:EvD X α e fun x=>∃ds,x=.list ds∧Q ds):EvI X α tg e Q:=fun F σ H R m k=>by
 refine⟨_,eK ze,?_⟩
 refine h F σ H _ m fun x vx H1 q1 t1 k1 r1=>?_
 obtain⟨ds,rfl,q⟩:=q1
 obtain⟨a,xs,rfl,h1,h2⟩:=r1.lst_inv
 refine⟨a,rfl,⟨xs,SqL.of (zh h1).2⟩,k ds _ H1 q t1 k1 fun i H2 p s=>⟨fun d hd=>?_,fun hl=>?_⟩⟩
 ·obtain⟨x,hx,av⟩:=h2.get hd
  have ha:=SqL.of (K:=X.K) (zh (s _ _ h1)).2
  refine⟨⟨xs,x,ha,hx⟩,fun x' H3 y=>?_⟩
  obtain⟨e,y⟩:=y
  subst e
  have:=y xs ha
  rw[hx] at this;cases this
  exact⟨zq.refl _,fun _=>av.same s⟩
 ·exact⟨xs,SqL.of (zh (s _ _ h1)).2,by rw[h2.length];exact hl⟩
theorem lG {p:Addr→Prop}{lo:Int}{n:Nat}{G:Hp}:ItW p (Itr lo n) ((vM lo n).map .int) G:=fun i H2 q s=>⟨fun d hd=>by
  rw[zl9,zm9] at hd
  obtain⟨z,h1,rfl⟩:=hd
  have hi:i<n:=by
   have:=(zj6.mp h1).1
   rwa [ye] at this
  rw[vc hi] at h1
  cases h1
  refine⟨hi,fun x H3 y=>?_⟩
  obtain⟨rfl,rfl⟩:=y
  exact⟨zq.refl _,fun _=>.int _⟩,fun hl=>by
  rw[zj1,ye] at hl
  exact hl⟩
theorem tV {tg:Expr}{Q:List PyData→Prop}(hg:Gl X "range")(hm:X.mg "range"=none)(h:EvD X α a fun x=>∃j,x=.int j∧-(2 ^ 62)≤j∧j<2 ^ 62∧Q ((vM 0 j.toNat).map .int))(hs:starEach [a] X.env=[(false,eval a X.env)]:=by rfl):
  EvI X α tg (.Call (.Name "range" p) [a] [] pos) Q:=fun F σ H R m k=>by
 refine⟨_,lp hg hm (zc ze zm hs) hs,?_⟩
 refine h F σ H _ m fun x vx H1 q1 t1 k1 r1=>?_
 obtain⟨j,rfl,b1,b2,q⟩:=q1
 cases r1.int_inv
 exact⟨j,rfl,b1,b2,k _ _ H1 q t1 k1 lG⟩
end
inductive Pat where
 |one (i:Nat)
 |many (is:List Nat)
def wz :List Nat→List PyData→Ev→Option Ev
 |[],[],α=>some α
 |i::is,d::ds,α=>wz is ds (α.set i (some (.dat d)))
 |_,_,_=>none
def Pat.bind :Pat→PyData→Ev→Option Ev
 |.one i,d,α=>some (α.set i (some (.dat d)))
 |.many is,.tuple ds,α=>wz is ds α
 |_,_,_=>none
def gIs :List Nat→TGs
 |[]=>zd7
 |i::is=>cq (tU i) (gIs is)
def pN (K:PySem.W.Frag):Pat→TG
 |.one i=>tU i
 |.many is=>cX K is.length (gIs is)
def Pat.slots :Pat→List Nat
 |.one i=>[i]
 |.many is=>is
def isFree (α:Ev)(i:Nat):Bool:=match α[i]? with
 |some none=>true
 |_=>false
def Pat.free (p:Pat)(α:Ev):Bool:=p.slots.all (isFree α)
section
variable {X:Cx}{α α':Ev}{F:Fr}{σ:St}{H:Hp}
theorem M.store {i:Nat}{v:V}{b:A}{H':Hp}(m:M F α σ H)(t:zE F H')(k:Kz F H H')(hn:∀x,foot (some v) b x→H x=none)(hok:yS (sub (fun x=>¬Ow F α σ x∧¬foot (some v) b x) H') F H' (some v) b)(hx:noX b:=by trivial):M F (α.set i (some b)) (σ.set i (some v)) H':=by
 have m':=m.kz k t
 have hs:∀{j:Nat} {c:A} {s:Option V},(α.set i (some b))[j]?=some (some c)→(σ.set i (some v))[j]?=some s→(i=j∧c=b∧s=some v)∨(i≠j∧α[j]?=some (some c)∧σ[j]?=some s):=fun {j c s} e1 e2=>by
  rcases zx e1 with ⟨rfl,z⟩|⟨hj,e1'⟩
  ·cases z
   have hl:i<σ.length:=by
    have:=(zj6.mp e2).1
    rwa [zm2] at this
   rw[zp0 hl] at e2
   cases e2
   exact .inl ⟨rfl,rfl,rfl⟩
  ·rw[zn3 hj] at e2
   exact .inr ⟨hj,e1',e2⟩
 have ow:∀{y:Addr},Ow F (α.set i (some b)) (σ.set i (some v)) y→Ow F α σ y∨foot (some v) b y:=fun {y} h=>by
  rcases h with z|⟨j,c,s,e1,e2,f⟩
  ·exact .inl (.inl z)
  ·rcases hs e1 e2 with ⟨_,rfl,rfl⟩|⟨_,g1,g2⟩
   ·exact .inr f
   ·exact .inl (.inr ⟨j,c,s,g1,g2,f⟩)
 have g1:zq (sub (fun x=>¬Ow F α σ x∧¬foot (some v) b x) H') (Gz F (α.set i (some b)) (σ.set i (some v)) H'):=zl fun a o h e=>⟨fun z=>(ow z).elim h.1 h.2,e⟩
 have g0:zq (Gz F α σ H) (sub (fun x=>¬Ow F α σ x∧¬foot (some v) b x) H'):=zl fun a o h e=>⟨⟨h,fun z=>by rw[hn a z] at e;cases e⟩,k a o e (m.tp.nt (ow0 h))⟩
 refine⟨by rw[zm2,zm2];exact m.len,fun j c s e1 e2=>?_,fun j j' c d s s' x e1 e2 h1 h2 f1 f2=>?_,fun j r q e j' c s x e1 e2 f=>?_,t,m.keep.trans k,m'.oex⟩
 ·rcases hs e1 e2 with ⟨rfl,rfl,rfl⟩|⟨_,z1,z2⟩
  ·exact hok.stay g1 (fun x o f e=>by
    obtain⟨w1,w2,_⟩:=uf hok f
    exact⟨e,w1,w2⟩) rfl fun _ _ _ l=>l
  ·exact (m.ok j c s z1 z2).stay (g0.trans g1) (fun x o f e=>by
    obtain⟨w1,w2,_⟩:=m.ft z1 z2 f
    exact⟨k x o e (m.tp.nt w1),w1,w2⟩) rfl fun _ _ _ l=>l.kz k t
 ·have nn:∀{j:Nat} {c:A} {s:Option V},α[j]?=some (some c)→σ[j]?=some s→foot s c x→¬foot (some v) b x:=fun {j c s} z1 z2 f g=>by
   obtain⟨_,_,o,w,_⟩:=m.ft z1 z2 f
   rw[hn x g] at w;cases w
  rcases hs e1 h1 with ⟨rfl,rfl,rfl⟩|⟨_,z1,z2⟩
  ·rcases hs e2 h2 with ⟨rfl,_⟩|⟨_,w1,w2⟩
   ·rfl
   ·exact absurd f1 (nn w1 w2 f2)
  ·rcases hs e2 h2 with ⟨rfl,rfl,rfl⟩|⟨_,w1,w2⟩
   ·exact absurd f2 (nn z1 z2 f1)
   ·exact m.dj j j' c d s s' x z1 w1 z2 w2 f1 f2
 ·rcases zx e with ⟨rfl,z⟩|⟨_,e'⟩
  ·cases z;exact hx.elim
  ·rcases hs e1 e2 with ⟨rfl,rfl,rfl⟩|⟨_,z1,z2⟩
   ·exact (m.lnk e').none (hn x f)
   ·exact m.xd j r q e' j' c s x z1 z2 f
theorem M.set {i:Nat}{v:V}{d:PyData}(m:M F α σ H)(av:AV (Gz F α σ H) v d):M F (α.set i (some (.dat d))) (σ.set i (some v)) H:=
 m.store m.tp Kz.refl (fun x z=>z.elim) ⟨v,rfl,av.same (zl fun a o h e=>⟨⟨h,fun z=>z⟩,e⟩)⟩
theorem M.setC {i:Nat}{v:V}{c:PyData}{H':Hp}(m:M F α σ H)(t:zE F H')(k:Kz F H H')(fl:jS F α σ H v H' c):M F (α.set i (some (.ow c))) (σ.set i (some v)) H':=by
 obtain⟨l,o,rfl,h1,h2,h3⟩:=fl
 have nl:¬Ow F α σ l:=m.fresh h1
 refine m.store t k (fun x z=>?_) ⟨l,o,rfl,h2,h3.same (zl fun a o h e=>⟨⟨h.1,fun z=>h.2 (by cases z;rfl)⟩,e⟩),ow0 nl,m.fresh0 h1⟩
 have z':some (V.ref l)=some (.ref x):=z
 cases z';exact h1
theorem M.setOwn {i:Nat}{v:V}{ds:List PyData}{H':Hp}(m:M F α σ H)(t:zE F H')(k:Kz F H H')(fl:yD F α σ H v H' ds):M F (α.set i (some (.own ds))) (σ.set i (some v)) H':=m.setC t k fl.c
theorem M.wr {x:Addr}{o:HO}(m:M F α σ H)(hno:xZ o)(ho:F.O0 x)(ht:∀t b c,F.tp=some (t,b,c)→x≠t∧x≠b∧x≠c)(h0:F.H0 x=none)(hpl:Plain H x)(hx:∀(i:Nat) r q,α[i]?=some (some (.exc r q))→r.H0 x=none):M F α σ (upd H x o):=by
 have gs:zq (Gz F α σ H) (Gz F α σ (upd H x o)):=zl fun a u h e=>⟨h,by rw[zg (fun z=>h (.inl (by rw[z];exact ho)))];exact e⟩
 refine⟨m.len,fun j c s e1 e2=>?_,m.dj,m.xd,m.tp.upd ht hpl,fun y u e n=>?_,fun y hy=>?_⟩
 ·have:=m.ok j c s e1 e2
  cases c with
  |exc r q=>
   have l:Lnk r F H:=this
   exact⟨l.tp,l.o,l.ok.upd (fun a b c e=>ht a b c (l.tp▸e)) hpl,fun y u e n=>by rw[zg (zk e (hx j r q e1))];exact l.k y u e n⟩
  |_=>exact this.stay gs (fun y u f e=>by
    obtain⟨w1,w2,_⟩:=m.ft e1 e2 f
    exact⟨by rw[zg (fun z=>w1 (by rw[z];exact ho))];exact e,w1,w2⟩) rfl fun _ _ z=>by cases z
 ·rw[zg (zk e h0)];exact m.keep y u e n
 ·by_cases z:y=x
  ·exact⟨o,by rw[z];exact zj,hno⟩
  ·obtain⟨u,hu,hn⟩:=m.oex y hy
   exact⟨u,by rw[zg z];exact hu,hn⟩
theorem M.forget {α0:Ev}(m:M F α σ H)(hl:α0.length=α.length)(le:∀(i:Nat) a,α0[i]?=some (some a)→α[i]?=some (some a)):M F α0 σ H:=by
 have ow:∀{y:Addr},Ow F α0 σ y→Ow F α σ y:=fun {y} h=>by
  rcases h with z|⟨j,c,s,e1,e2,f⟩
  ·exact .inl z
  ·exact .inr ⟨j,c,s,le _ _ e1,e2,f⟩
 have gs:zq (Gz F α σ H) (Gz F α0 σ H):=zl fun a o h e=>⟨fun z=>h (ow z),e⟩
 exact⟨hl.trans m.len,fun j c s e1 e2=>(m.ok j c s (le _ _ e1) e2).stay gs (fun x o f e=>⟨e,(m.ft (le _ _ e1) e2 f).1,(m.ft (le _ _ e1) e2 f).2.1⟩) rfl fun _ _ _ l=>l,fun j j' c d s s' x e1 e2=>m.dj j j' c d s s' x (le _ _ e1) (le _ _ e2),fun j r q e j' c s x e1=>m.xd j r q (le _ _ e) j' c s x (le _ _ e1),m.tp,m.keep,m.oex⟩
theorem sI {H:Hp}:∀{is:List Nat} {ds:List PyData} {α α':Ev} {σ:St} {xs:List V} {R:St→Hp→Prop},wz is ds α=some α'→M F α σ H→(∀G,zq (Gz F α σ H) G→AVs G xs ds)→(∀σ',M F α' σ' H→R σ' H)→gIs is xs σ H R
 |[],[],α,α',σ,xs,R,e,m,av,k=>by
  cases e
  cases av _ (zq.refl _)
  exact⟨rfl,k σ m⟩
 |i::is,d::ds,α,α',σ,xs,R,e,m,av,k=>by
  cases h:av _ (zq.refl _) with
  |@cons x xs _ _ h1 h2=>
   refine⟨x,xs,rfl,?_⟩
   have gs:zq (Gz F α σ H) (Gz F (α.set i (some (.dat d))) (σ.set i (some x)) H):=zl fun a o h e=>⟨fun z=>h (by
    rcases z with z|⟨j,c,s,e1,e2,f⟩
    ·exact .inl z
    ·rcases zx e1 with ⟨_,z⟩|⟨hj,e1'⟩
     ·cases z;exact f.elim
     ·rw[zn3 hj] at e2
      exact .inr ⟨j,c,s,e1',e2,f⟩),e⟩
   exact sI (is:=is) (ds:=ds) e (m.set (i:=i) h1) (fun G s=>h2.same (gs.trans s)) k
 |[],_::_,_,_,_,_,_,e,_,_,_=>by cases e
 |_::_,[],_,_,_,_,_,e,_,_,_=>by cases e
theorem mw {K:PySem.W.Frag}{pat:Pat}{d:PyData}{v:V}{R:St→Hp→Prop}(e:pat.bind d α=some α')(m:M F α σ H)(av:AV (Gz F α σ H) v d)(k:∀σ',M F α' σ' H→R σ' H):pN K pat v σ H R:=by
 cases pat with
 |one i=>cases e;exact k _ (m.set av)
 |many is=>
  cases d with
  |tuple ds=>
   obtain⟨a,xs,rfl,h1,h2⟩:=av.tup_inv
   have hl:∀{is:List Nat} {ds:List PyData} {α α':Ev},wz is ds α=some α'→ds.length=is.length:=by
    intro is
    induction is with
    |nil=>intro ds α α' h;cases ds with|nil=>rfl|cons _ _=>cases h
    |cons i is ih=>intro ds α α' h;cases ds with|nil=>cases h|cons d ds=>rw[zk5,zk5,ih h]
   exact⟨a,xs,rfl,SqT.of (zh h1).2,by rw[h2.length];exact hl e,sI e m (fun G s=>h2.same s) k⟩
  |_=>cases e
theorem uj :∀{is:List Nat} {ds:List PyData} {α α':Ev},wz is ds α=some α'→α'.length=α.length
 |[],[],_,_,e=>by cases e;rfl
 |i::is,d::ds,α,α',e=>by
  have:=uj (is:=is) (ds:=ds) e
  rwa [zm2] at this
 |[],_::_,_,_,e=>by cases e
 |_::_,[],_,_,e=>by cases e
theorem uS :∀{is:List Nat} {ds:List PyData} {α α':Ev} {j:Nat},wz is ds α=some α'→j∉is→α'[j]?=α[j]?
 |[],[],_,_,_,e,_=>by cases e;rfl
 |i::is,d::ds,α,α',j,e,h=>by
  rw[uS (is:=is) (ds:=ds) e fun z=>h (zj7 _ z)]
  exact zn3 fun (z:i=j)=>h (by rw[←z];exact zk0)
 |[],_::_,_,_,_,e,_=>by cases e
 |_::_,[],_,_,_,e,_=>by cases e
theorem uC :∀{is:List Nat} {ds:List PyData} {α α':Ev} {j:Nat} {a:A},wz is ds α=some α'→α'[j]?=some (some a)→(∀d,a≠.dat d)→α[j]?=some (some a)
 |[],[],_,_,_,_,e,h,_=>by cases e;exact h
 |i::is,d::ds,α,α',j,a,e,h,hn=>by
  rcases zx (uC (is:=is) (ds:=ds) e h hn) with ⟨_,z⟩|⟨_,z⟩
  ·cases z;exact absurd rfl (hn d)
  ·exact z
 |[],_::_,_,_,_,_,e,_,_=>by cases e
 |_::_,[],_,_,_,_,e,_,_=>by cases e
theorem Pat.is_ok {pat:Pat}{d:PyData}(e:pat.bind d α=some α'):∃is ds,pat.slots=is∧wz is ds α=some α':=by
 cases pat with
 |one i=>cases e;exact⟨_,[d],rfl,rfl⟩
 |many is=>
  cases d with
  |tuple ds=>exact⟨_,ds,rfl,e⟩
  |_=>cases e
theorem Pat.back {pat:Pat}{d:PyData}(e:pat.bind d α=some α')(fr:pat.free α=true)(m:M F α' σ H):M F α σ H:=by
 obtain⟨is,ds,rfl,e⟩:=Pat.is_ok e
 refine m.forget (uj e).symm fun j a h=>?_
 by_cases hj:j∈pat.slots
 ·have:=zq2.mp fr j hj
  unfold isFree at this
  rw[h] at this
  cases this
 ·rw[uS e hj];exact h
end
section
variable {X:Cx}{α:Ev}
def eI (X:Cx)(α:Ev)(ifs:List Expr)(Q:Bool→Prop):Prop:=∀(F:Fr) (σ:St) (H:Hp) (R:Bool→Hp→Prop),M F α σ H→(∀b H',Q b→zE F H'→Kz F H H'→R b H')→∃t,va X ifs t∧t σ H R
def cj (X:Cx)(ifs:List Expr):TT:=fun σ H R=>∃t,va X ifs t∧t σ H R
theorem nM {ifs:List Expr}:va X ifs (cj X ifs):=fun pins s σ H Q I ⟨t,p,q⟩=>p pins s σ H Q I q
theorem jU {Q:Bool→Prop}(q:Q true):eI X α [] Q:=fun F σ H R m k=>⟨_,fK,k _ H q m.tp Kz.refl⟩
def seen :Option A→Option A
 |some (.dat d)=>some (.dat d)
 |some .tape=>some .tape
 |_=>none
def yC (imp:List (Option Nat))(α:Ev):Ev:=imp.map fun o=>o.bind fun j=>(α[j]?).bind seen
theorem qR {imp:List (Option Nat)}{i:Nat}{a:A}(h:(yC imp α)[i]?=some (some a)):∃j,imp[i]?=some (some j)∧α[j]?=some (some a)∧((∃d,a=.dat d)∨a=.tape):=by
 unfold yC at h
 rw[zl9,zm9] at h
 obtain⟨o,h1,h2⟩:=h
 cases o with
 |none=>cases h2
 |some j=>
  have h2':(α[j]?).bind seen=some a:=h2
  cases q:α[j]? with
  |none=>rw[q] at h2';cases h2'
  |some b=>
   rw[q] at h2'
   cases b with
   |none=>cases h2'
   |some b=>
    cases b with
    |dat d=>cases h2';exact⟨j,h1,q,.inl ⟨d,rfl⟩⟩
    |tape=>cases h2';exact⟨j,h1,q,.inr rfl⟩
    |_=>cases h2'
theorem qU {imp:List (Option Nat)}{σ:St}{i j:Nat}{v:V}(h1:imp[i]?=some (some j))(h2:σ[j]?=some (some v)):(xB imp σ)[i]?=some (some v):=by
 unfold xB
 rw[zl9,h1]
 show some ((σ[j]?).bind id)=_
 rw[h2];rfl
def xi (Y:Addr→Shared→Hp→List Addr→Cx)(pat:Pat)(ifs:List Expr)(elt:Expr)(α0:Ev):List PyData→List PyData→(List PyData→Prop)→Prop
 |[],acc,Q=>Q acc
 |d::ds,acc,Q=>∃α1,pat.bind d α0=some α1∧∀C s2 H2 fp,eI (Y C s2 H2 fp) α1 ifs fun k=>if k=true then ∀C s2 H2 fp,EvD (Y C s2 H2 fp) α1 elt fun y=>xi Y pat ifs elt α0 ds (acc++[y]) Q else xi Y pat ifs elt α0 ds acc Q
def eC (Y:Addr→Shared→Hp→List Addr→Cx)(e:Expr):TE:=fun σ H Q=>∀C s2 H2 fp,uE (Y C s2 H2 fp) e σ H Q
def tsC (Y:Addr→Shared→Hp→List Addr→Cx)(ifs:List Expr):TT:=fun σ H Q=>∀C s2 H2 fp,cj (Y C s2 H2 fp) ifs σ H Q
theorem nG {N:List Str}{imp:List (Option Nat)}{scope:Scope}{tg iter elt:Expr}{ifs:List Expr}{pat:Pat}{Q:List PyData→Prop}(hfree:pat.free (yC imp α)=true)
  (h:EvI X α tg iter fun ds=>ds.length≤1000∧xi (fun C s2 H2 fp=>X.comp N scope C s2 H2 fp) pat ifs elt (yC imp α) ds [] Q)
  (F:Fr) (σ:St) (H:Hp) (R:VK) (m:M F α σ H) (k:∀ds v H',Q ds→zE F H'→Kz F H H'→yD F α σ H v H' ds→R v H'):
  ∃Y:Addr→Shared→Hp→List Addr→Cx,Y=(fun C s2 H2 fp=>X.comp N scope C s2 H2 fp)∧gp (bJ X tg iter) imp (pN X.K pat) (tsC Y ifs) (eC Y elt) σ H R:=by
 refine⟨_,rfl,?_⟩
 refine h F σ H _ m fun ds J H1 ⟨hl,q1⟩ t1 k1 itw acc hacc=>?_
 have m1:=m.kz k1 t1
 have nacc:¬Ow F α σ acc:=m1.fresh hacc
 let Fc:Fr:=⟨H1,fun x=>Ow F α σ x∨x=acc,F.tp⟩
 let Nd:Ev→Prop:=fun α1=>∀(j:Nat) a,α1[j]?=some (some a)→(∃d,a=.dat d)∨a=.tape
 have no0:Nd (yC imp α):=fun j a z=>by
  obtain⟨_,_,_,n⟩:=qR z
  exact n
 have owc:∀{α1:Ev} {τ:St} {x:Addr},Nd α1→(Ow Fc α1 τ x↔Fc.O0 x):=fun {α1 τ x} hh=>⟨fun z=>z.elim id fun⟨j,a,s,e1,e2,f⟩=>by
  rcases hh j a e1 with ⟨d,rfl⟩|rfl
  ·exact f.elim
  ·exact f.elim,.inl⟩
 have gz:∀{α1 α2:Ev} {τ1 τ2:St} {H:Hp},Nd α1→Nd α2→zq (Gz Fc α1 τ1 H) (Gz Fc α2 τ2 H):=fun h1 h2=>zl fun a o h e=>⟨fun z=>h ((owc h1).mpr ((owc h2).mp z)),e⟩
 have tpc:∀{H2:Hp},zE F H2→zE Fc H2:=fun t=>t.to rfl fun x z=>.inl (.inl z)
 have s01:zq H1 (upd H1 acc (.lst [])):=yk hacc
 have mc0:M Fc (yC imp α) (xB imp σ) (upd H1 acc (.lst [])):=by
  have g1:zq (Gz F α σ H1) (Gz Fc (yC imp α) (xB imp σ) (upd H1 acc (.lst []))):=fun a o e=>by
   obtain⟨z1,z2⟩:=zh e
   have na:a≠acc:=zk z2 hacc
   exact zK (fun z=>((owc no0).mp z).elim z1 na) (by rw[zg na];exact z2)
  refine⟨by unfold yC xB;rw[zj1,zj1],fun i a s e1 e2=>?_,fun i j a b s t x e1 e2 _ _ f=>?_,fun i r q e=>(by rcases no0 i _ e with ⟨d,w⟩|w<;>cases w),tpc (t1.same s01),fun x o e _=>s01 x o e,?_⟩
  ·obtain⟨j,w1,w2,w3⟩:=qR e1
   rcases w3 with ⟨d,rfl⟩|rfl
   ·obtain⟨v,g2,g3⟩:=m1.dat j d w2
    rw[qU w1 g2] at e2;cases e2
    exact⟨v,rfl,g3.same g1⟩
   ·obtain⟨t,b,c,g2,g3⟩:=m1.tvar j w2
    rw[qU w1 g3] at e2;cases e2
    exact⟨t,b,c,g2,rfl⟩
  ·rcases no0 i a e1 with ⟨d,rfl⟩|rfl
   ·exact f.elim
   ·exact f.elim
  ·rintro x (z|z)
   ·have:∃o,H1 x=some o∧xZ o:=m1.owEx z
    obtain⟨o,ho,hn⟩:=this
    exact⟨o,s01 _ _ ho,hn⟩
   ·exact⟨_,by rw[z];exact zj,xJ⟩
 refine⟨fun i n ys τ H2=>n=ds.length-i∧i≤ds.length∧∃ad:List PyData,M Fc (yC imp α) τ H2∧H2 acc=some (.lst ys)∧AVs (Gz Fc (yC imp α) τ H2) ys ad∧ad.length≤i∧xi (fun C s2 H2 fp=>X.comp N scope C s2 H2 fp) pat ifs elt (yC imp α) (ds.drop i) ad Q,
  ⟨ds.length,by simp,zm1 _,[],mc0,zj,.nil,zj8 _,q1⟩,?_⟩
 rintro i n ys τ H2 ⟨rfl,hi,ad,m2,ha,av,had,cw⟩
 have sG:zq (Gz F α σ H1) (Gz Fc (yC imp α) τ H2):=fun a o e=>by
  obtain⟨z1,z2⟩:=zh e
  exact m2.old a o (zK (p:=fun x=>¬Fc.O0 x) (fun z=>z.elim z1 (zk z2 hacc)) z2)
 obtain⟨w1,w2⟩:=itw i H2 _ sG
 by_cases hlt:i<ds.length
 ·have hd:ds[i]?=some ds[i]:=zn0 hlt
  have hdr:ds.drop i=ds[i]::ds.drop (i+1):=zr0 hlt
  rw[hdr] at cw
  obtain⟨α1,eb,body⟩:=cw
  obtain⟨go,yl⟩:=w1 _ hd
  have no1:Nd α1:=fun j a z=>by
   obtain⟨is,ds',_,e⟩:=Pat.is_ok eb
   by_cases hn:∀d,a≠.dat d
   ·exact no0 j a (uC e z hn)
   ·simp only[Classical.not_forall,Classical.not_not] at hn
    exact .inl hn
  refine .inr ⟨go,fun ys' τ' H'=>∃ad:List PyData,M Fc (yC imp α) τ' H'∧H' acc=some (.lst ys')∧AVs (Gz Fc (yC imp α) τ' H') ys' ad∧ad.length≤i+1∧xi (fun C s2 H2 fp=>X.comp N scope C s2 H2 fp) pat ifs elt (yC imp α) (ds.drop (i+1)) ad Q,
   fun ys' τ' H' ⟨ad',r1,r2,r3,r4,r5⟩=>⟨ds.length-(i+1),by omega,rfl,hlt,ad',r1,r2,r3,r4,r5⟩,fun x H3 y=>?_⟩
  obtain⟨s23,avx⟩:=yl x H3 y
  have m3:M Fc (yC imp α) τ H3:=m2.kz (Kz.of_same s23) (m2.tp.same s23)
  have avx':=avx fun a o _ e=>m2.fresh e
  refine mw eb m3 avx' fun τ1 m4 C s2 H2' fp=>?_
  refine body C s2 H2' fp Fc τ1 H3 _ m4 fun b H5 qb t5 k5=>?_
  have m5:=m4.kz k5 t5
  have av5:AVs (Gz Fc (yC imp α) τ1 H5) ys ad:=av.same ((Kz.of_same s23).gz m2.tp |>.trans ((gz (τ2:=τ1) no0 no1).trans ((k5.gz m4.tp).trans (gz no1 no0))))
  have accN:NT Fc acc:=⟨fun t b c e=>by
   have:=(t1 t b c e).1.free hacc
   exact⟨this.1,this.2.1⟩,qH t1.tab hacc⟩
  have ha5:H5 acc=some (.lst ys):=k5 _ _ (s23 _ _ ha) accN
  cases b with
  |false=>
   have qb':xi (fun C s2 H2 fp=>X.comp N scope C s2 H2 fp) pat ifs elt (yC imp α) (ds.drop (i+1)) ad Q:=by simpa using qb
   exact vC ⟨ad,Pat.back eb hfree m5,ha5,av5,by omega,qb'⟩
  |true=>
   refine vL fun C s2 H2'' fp=>?_
   have qe:EvD (X.comp N scope C s2 H2'' fp) α1 elt fun y=>xi (fun C s2 H2 fp=>X.comp N scope C s2 H2 fp) pat ifs elt (yC imp α) (ds.drop (i+1)) (ad++[y]) Q:=by
    have z:=qb
    rw[if_pos rfl] at z
    exact z C s2 H2'' fp
   refine qe Fc τ1 H5 _ m5 fun y v H6 qy t6 k6 r6=>?_
   have m6:=m5.kz k6 t6
   have ha6:H6 acc=some (.lst ys):=k6 _ _ ha5 accN
   have hlen:ys.length≤i:=by rw[av.length];exact had
   have oacc:Fc.O0 acc:=.inr rfl
   have tacc:∀t b c,Fc.tp=some (t,b,c)→acc≠t∧acc≠b∧acc≠c:=fun t b c e=>(t1 t b c e).1.free hacc
   have m7:=(Pat.back eb hfree m6).wr (o:=.lst (ys++[v])) xJ oacc tacc hacc (tY ha6) (fun i r q z=>by rcases no0 i _ z with ⟨d,w⟩|w<;>cases w)
   refine⟨ha6,wL (by omega),ad++[y],m7,zj,?_,by simp;omega,qy⟩
   have g67:zq (Gz Fc (yC imp α) τ1 H6) (Gz Fc (yC imp α) τ1 (upd H6 acc (.lst (ys++[v])))):=zl fun a o h e=>⟨h,by rw[zg (fun z=>h (.inl (by rw[z];exact oacc)))];exact e⟩
   exact ((av5.same ((gz (τ2:=τ1) no0 no1).trans ((k6.gz m5.tp).trans (gz no1 no0)))).append (.cons (r6.same (gz no1 no0)) .nil)).same g67
 ·have e:i=ds.length:=by omega
  subst e
  rw[zu2] at cw
  refine .inl ⟨w2 (zj8 _),k ad _ H2 cw ?_ (k1.trans m2.keep) (yD.back m k1 t1 ⟨acc,ys,rfl,hacc,ha,av.same (zl fun a o h e=>⟨⟨fun z=>h (.inl (.inl z)),fun z=>h (.inl (.inr z))⟩,e⟩)⟩)⟩
  exact m.tp.re m2.tp rfl
theorem cm {N:List Str}{imp:List (Option Nat)}{scope:Scope}{tg iter elt:Expr}{ifs:List Expr}{pat:Pat}{Q:List PyData→Prop}{pos:Pos}(hc:X.calm=true)(S:zR X.N X.env.scope N imp scope)(hfree:pat.free (yC imp α)=true)
  (hg:∀C s2 H2 fp,PG (X.comp N scope C s2 H2 fp) tg (pN X.K pat))
  (h:EvI X α tg iter fun ds=>ds.length≤1000∧xi (fun C s2 H2 fp=>X.comp N scope C s2 H2 fp) pat ifs elt (yC imp α) ds [] Q) (hs:∀x,foldedSetIterable iter X.env x=pure x:=by intro _;rfl):
  EvL X α (.ListComp elt [⟨tg,iter,ifs,0⟩] scope pos) Q:=fun F σ H R m k=>by
 obtain⟨Y,rfl,h⟩:=nG hfree h F σ H R m k
 exact⟨_,zc9 hc S sR hg (fun C s2 H2 fp pins s σ H Q I h=>nM pins s σ H Q I (h C s2 H2 fp)) (fun C s2 H2 fp pins s σ H Q I h=>ze pins s σ H Q I (h C s2 H2 fp)) hs,h⟩
section
variable {E:yi}{rest body:List Stmt}{e c tg iter:Expr}{pos p:Pos}
theorem qM.then {F:Fr}{D:Ends}(h:qM F E D):qM F {E with nx:=fun α'=>SvS X α' rest E} {D with nx:=lX X rest D}:=
 ⟨fun α' σ' H' m q=>q F σ' H' D m h,h.rt,h.bk,h.ct⟩
theorem zB (q:E.nx α):SvS X α [] E:=fun F σ H D m h=>⟨_,yn,h.nx _ _ _ m q⟩
theorem SvS.imp {sts:List Stmt}{E':yi}(h:SvS X α sts E')(hn:∀α,E'.nx α→E.nx α)(hr:∀a,E'.rt a→E.rt a)(hb:∀α,E'.bk α→E.bk α)(hc:∀α,E'.ct α→E.ct α):SvS X α sts E:=fun F σ H D m r=>
 h F σ H D m ⟨fun α σ H m q=>r.nx α σ H m (hn _ q),fun a v H m q=>r.rt a v H m (hr _ q),fun α σ H m q=>r.bk α σ H m (hb _ q),fun α σ H m q=>r.ct α σ H m (hc _ q)⟩
theorem zI (i:Nat){x:Str}{pos':Pos}(hN:X.N.Nodup)(h:EvD X α e fun d=>SvS X (α.set i (some (.dat d))) rest E)(hi:X.N[i]?=some x:=by rfl)(hx:Loc X.env.scope x:=by first|exact Or.inl rfl|exact Or.inr rfl)
  (hs:swapsWith e (some (.Name x pos')) pos.line X.env=pure false:=by rfl) (hf:X.fn x=true∨X.env.scope.names.lookup x=some .local:=by first|exact .inl rfl|exact .inr rfl|assumption):SvS X α (.Assign [.Name x pos'] e pos::rest) E:=fun F σ H D m r=>by
 refine⟨_,zD (uA hN hi hx ze hs hf) zT,?_⟩
 exact h F σ H _ m fun d v H1 q1 t1 k1 r1=>q1 F _ H1 D ((m.kz k1 t1).set r1) r
theorem xu (i:Nat){x:Str}{pos':Pos}(hN:X.N.Nodup)(h:EvL X α e fun ds=>SvS X (α.set i (some (.own ds))) rest E)(hi:X.N[i]?=some x:=by rfl)(hx:Loc X.env.scope x:=by first|exact Or.inl rfl|exact Or.inr rfl)
  (hs:swapsWith e (some (.Name x pos')) pos.line X.env=pure false:=by rfl) (hf:X.fn x=true∨X.env.scope.names.lookup x=some .local:=by first|exact .inl rfl|exact .inr rfl|assumption):SvS X α (.Assign [.Name x pos'] e pos::rest) E:=fun F σ H D m r=>by
 refine⟨_,zD (uA hN hi hx ze hs hf) zT,?_⟩
 exact h F σ H _ m fun d v H1 q1 t1 k1 r1=>q1 F _ H1 D (m.setOwn t1 k1 r1) r
theorem zc8 (i:Nat){x:Str}{pos' cpos:Pos}{N:List Str}{imp:List (Option Nat)}{scope:Scope}{elt:Expr}{ifs:List Expr}{pat:Pat}(hN:X.N.Nodup)(hc:X.calm=true)(S:zR X.N X.env.scope N imp scope)(hfree:pat.free (yC imp α)=true)
  (hg:∀C s2 H2 fp,PG (X.comp N scope C s2 H2 fp) tg (pN X.K pat))
  (h:EvI X α tg iter fun ds=>ds.length≤1000∧xi (fun C s2 H2 fp=>X.comp N scope C s2 H2 fp) pat ifs elt (yC imp α) ds [] fun ds=>SvS X (α.set i (some (.own ds))) rest E)
  (hi:X.N[i]?=some x:=by rfl) (hx:Loc X.env.scope x:=by first|exact Or.inl rfl|exact Or.inr rfl) (hsw:swapsWith (.ListComp elt [⟨tg,iter,ifs,0⟩] scope cpos) (some (.Name x pos')) pos.line X.env=pure true:=by rfl)
  (hf:X.fn x=true∨X.env.scope.names.lookup x=some .local:=by first|exact .inl rfl|exact .inr rfl|assumption) (hs:∀x,foldedSetIterable iter X.env x=pure x:=by intro _;rfl):
  SvS X α (.Assign [.Name x pos'] (.ListComp elt [⟨tg,iter,ifs,0⟩] scope cpos) pos::rest) E:=fun F σ H D m r=>by
 obtain⟨Y,rfl,h⟩:=nG hfree h F σ H (fun v H'=>lX X rest D (σ.set i (some v)) H') m fun ds v H' q t k fl=>q F _ H' D (m.setOwn t k fl) r
 exact⟨_,zD (jC hc S sR hg (fun C s2 H2 fp pins s σ H Q I h=>nM pins s σ H Q I (h C s2 H2 fp)) (fun C s2 H2 fp pins s σ H Q I h=>ze pins s σ H Q I (h C s2 H2 fp)) hN hi hx hsw hf hs) zT,h⟩
theorem xh.dat {F:Fr}{σ:St}{H:Hp}{v:V}{d:PyData}(m:M F α σ H)(r:AV (Gz F α σ H) v d):xh F v H (.dat d):=
 ⟨m.tp,m.keep,r.same (zl fun a o h e=>⟨ow0 h,e⟩)⟩
theorem yj (h:EvD X α e fun d=>E.rt (.dat d)):SvS X α (.Return (some e) pos::rest) E:=fun F σ H D m r=>by
 refine⟨_,zD (zw ze) zT,?_⟩
 exact h F σ H _ m fun d v H1 q1 t1 k1 r1=>r.rt _ _ _ (xh.dat (m.kz k1 t1) r1) q1
theorem rG (h:EvL X α e fun ds=>E.rt (.own ds)):SvS X α (.Return (some e) pos::rest) E:=fun F σ H D m r=>by
 refine⟨_,zD (zw ze) zT,?_⟩
 refine h F σ H _ m fun d v H1 q1 t1 k1 r1=>r.rt _ _ _ ?_ q1
 obtain⟨l,xs,h1,h2,h3,h4⟩:=r1
 exact⟨t1,m.keep.trans k1,l,xs,_,h1,rfl,m.fresh0 h2,ow0 (m.fresh h2),h3,h4.same (zl fun a o h e=>⟨⟨ow0 h.1,h.2⟩,e⟩)⟩
theorem nZ (i:Nat){x:Str}{ds:List PyData}(hi:α[i]?=some (some (.own ds)))(q:E.rt (.own ds))(hN:X.N[i]?=some x:=by rfl)(hv:Vis X.env.scope x:=by first|exact Or.inl rfl|exact Or.inr (Or.inl rfl)|exact Or.inr (Or.inr rfl))
  (hd:(x == ("__debug__":Str))=false:=by decide) (hcd:(x == ("__classdict__":Str))=false:=by decide):SvS X α (.Return (some (.Name x p)) pos::rest) E:=fun F σ H D m r=>by
 obtain⟨l,xs,h1,h2,h3,h4,h5⟩:=m.own i ds hi
 refine⟨_,zD (zw (yx hN hv hd hcd)) zT,.ref l,h1,r.rt (.own ds) _ _ ⟨m.tp,m.keep,l,xs,_,rfl,rfl,h5,h4,h2,h3.same (zl fun a o h e=>⟨⟨ow0 h,fun z=>h (by rw[z];exact .inr ⟨i,_,_,hi,h1,rfl⟩)⟩,e⟩)⟩ q⟩
theorem yT {a b:List Stmt}(h:EvT X α c fun k=>SvS X α (if k=true then a else b) {E with nx:=fun α'=>SvS X α' rest E}):SvS X α (.If c a b pos::rest) E:=fun F σ H D m r=>by
 refine⟨_,zD (xI xO zT zT) zT,?_⟩
 refine h F σ H _ m fun k H1 q1 t1 k1=>?_
 cases k with
 |true=>exact vL ((by simpa using q1:SvS X α a _) F σ H1 _ (m.kz k1 t1) r.then)
 |false=>exact vC ((by simpa using q1:SvS X α b _) F σ H1 _ (m.kz k1 t1) r.then)
theorem nA (i:Nat){c:PyData}{S:Addr→Prop}{sts:List Stmt}(hi:α[i]?=some (some (.deep c S)))(h:SvS X (α.set i (some (.dat c))) sts E):SvS X α sts E:=fun F σ H D m r=>h F σ H D (m.frzd hi) r
theorem uN (i:Nat){ds:List PyData}{sts:List Stmt}(hi:α[i]?=some (some (.own ds)))(h:SvS X (α.set i (some (.dat (.list ds)))) sts E):SvS X α sts E:=fun F σ H D m r=>h F σ H D (m.frz hi) r
theorem M.wrC {F:Fr}{σ:St}{H:Hp}{i:Nat}{c c':PyData}{l:Addr}{o':HO}(m:M F α σ H)(hi:α[i]?=some (some (.ow c)))(hl:σ[i]?=some (some (.ref l)))(av:yN (Gz F α σ H) o' c'):
  M F (α.set i (some (.ow c'))) σ (upd H l o'):=by
 obtain⟨l',o,h1,h2,h3,h4,h5⟩:=m.owc i c hi
 rw[hl] at h1;cases h1
 have hs:∀{j:Nat} {a:A} {s:Option V},(α.set i (some (.ow c')))[j]?=some (some a)→σ[j]?=some s→(i=j∧a=.ow c'∧s=some (.ref l))∨(i≠j∧α[j]?=some (some a)):=fun {j a s} e1 e2=>by
  rcases zx e1 with ⟨rfl,z⟩|⟨hj,e1'⟩
  ·cases z;rw[hl] at e2;cases e2;exact .inl ⟨rfl,rfl,rfl⟩
  ·exact .inr ⟨hj,e1'⟩
 have oww:∀{y:Addr},Ow F (α.set i (some (.ow c'))) σ y→Ow F α σ y:=fun {y} h=>by
  rcases h with z|⟨j,a,s,e1,e2,f⟩
  ·exact .inl z
  ·rcases hs e1 e2 with ⟨rfl,rfl,rfl⟩|⟨hj,e1'⟩
   ·exact .inr ⟨i,_,_,hi,hl,f⟩
   ·exact .inr ⟨j,a,s,e1',e2,f⟩
 have ol:Ow F α σ l:=.inr ⟨i,_,_,hi,hl,rfl⟩
 have gs:zq (Gz F α σ H) (Gz F (α.set i (some (.ow c'))) σ (upd H l o')):=zl fun a o h e=>⟨fun z=>h (oww z),by rw[zg (fun z=>h (by rw[z];exact ol))];exact e⟩
 refine⟨by rw[zm2];exact m.len,fun j a s e1 e2=>?_,fun j j' a b s t x e1 e2 q1 q2 f1 f2=>?_,fun j r q e j' a s x e1 e2 f=>?_,m.tp.updO h4 (h3.plain h2),fun y o e n=>?_,fun y hy=>?_⟩
 ·rcases hs e1 e2 with ⟨rfl,rfl,rfl⟩|⟨hj,e1'⟩
  ·exact⟨l,o',rfl,zj,av.same gs,h4,h5⟩
  ·refine (m.ok j a s e1' e2).stay gs (fun y u f e=>?_) rfl fun r q ea k=>⟨k.tp,k.o,k.ok.updO (fun z=>h4 (k.o _ z)) (h3.plain h2),fun y u e n=>?_⟩
   ·obtain⟨w1,w2,_⟩:=m.ft e1' e2 f
    refine⟨?_,w1,w2⟩
    rw[zg fun z=>hj (m.dj i j _ a _ s l hi e1' hl e2 rfl (by rw[←z];exact f))]
    exact e
   ·rw[zg (zk e (m.xd j r q (by rw[←ea];exact e1') i _ _ l hi hl rfl))];exact k.k y u e n
 ·rcases hs e1 q1 with ⟨rfl,rfl,rfl⟩|⟨hj,e1'⟩
  ·rcases hs e2 q2 with ⟨rfl,_⟩|⟨hj',e2'⟩
   ·rfl
   ·exact m.dj i j' _ b _ t x hi e2' hl q2 f1 f2
  ·rcases hs e2 q2 with ⟨rfl,rfl,rfl⟩|⟨hj',e2'⟩
   ·exact m.dj j i a _ s _ x e1' hi q1 hl f1 f2
   ·exact m.dj j j' a b s t x e1' e2' q1 q2 f1 f2
 ·rcases zx e with ⟨_,z⟩|⟨_,e'⟩
  ·cases z
  ·rcases hs e1 e2 with ⟨rfl,rfl,rfl⟩|⟨_,e1'⟩
   ·exact m.xd j r q e' i _ _ x hi hl f
   ·exact m.xd j r q e' j' a s x e1' e2 f
 ·rw[zg (zk e h5)];exact m.keep y o e n
 ·rw[zg (fun z=>h4 (by rw[←z];exact hy))];exact m.oex y hy
theorem M.wrOwn {F:Fr}{σ:St}{H:Hp}{i:Nat}{ds es:List PyData}{l:Addr}{ys:List V}(m:M F α σ H)(hi:α[i]?=some (some (.own ds)))(hl:σ[i]?=some (some (.ref l)))(av:AVs (Gz F α σ H) ys es):
  M F (α.set i (some (.own es))) σ (upd H l (.lst ys)):=m.wrC hi hl (.lst av)
theorem yJ (i:Nat){x:Str}{ds:List PyData}{p1 p2 p3:Pos}(hi:α[i]?=some (some (.own ds)))(h:EvD X α e fun d=>ds.length<1000∧SvS X (α.set i (some (.own (ds++[d])))) rest E)
  (hN:X.N[i]?=some x:=by rfl) (hv:Vis X.env.scope x:=by first|exact Or.inl rfl|exact Or.inr (Or.inl rfl)|exact Or.inr (Or.inr rfl)) (hd:(x == ("__debug__":Str))=false:=by decide) (hcd:(x == ("__classdict__":Str))=false:=by decide)
  (hbase:attributeBase (.Name x p1) "append" X.env (eval (.Name x p1) X.env)=eval (.Name x p1) X.env:=by rfl) (hs:starEach [e] X.env=(false,eval e X.env)::starEach [] X.env:=by rfl)
  (hpl:((((backTo p3 (starEach [e] X.env)).all fun x=>!x.fst)&&(backToKw p3 (keywordEach [] X.env)).all fun x=>x.fst.isSome)&&decide (([e].length+([]:List Keyword).length+if ([]:List Keyword).isEmpty=true then 0 else 1)<30))=true:=by rfl)
  (hline:(p2.endLine == p3.line)=true:=by rfl) (hsw:swapsWith (.Call (.Attribute (.Name x p1) "append" p2) [e] [] p3) none pos.line X.env=pure false:=by rfl):SvS X α (.Expr (.Call (.Attribute (.Name x p1) "append" p2) [e] [] p3) pos::rest) E:=fun F σ H D m r=>by
 obtain⟨l,xs,h1,h2,h3,h4,h5⟩:=m.own i ds hi
 refine⟨_,zD (mj (gf PySem.F.plainAttrs_list PySem.F.slot_list_append PySem.F.type_list_append sr (yx hN hv hd hcd) (zc ze zm hs) hbase hpl hline hs) hsw) zT,?_⟩
 refine⟨.ref l,h1,.inl ⟨rfl,_,SqL.of h2⟩,?_⟩
 refine h F σ H _ m fun d v H1 q1 t1 k1 r1=>?_
 have m1:=m.kz k1 t1
 refine⟨l,xs,v,rfl,rfl,k1 _ _ h2 (m.tp.nt h4),by rw[h3.length];exact wL (zr8 q1.1),?_⟩
 exact q1.2 F σ _ D (m1.wrOwn hi h1 ((h3.same (k1.gz m.tp)).append (.cons r1 .nil))) r
def uI (X:Cx)(pat:Pat)(body rest:List Stmt)(E:yi):List PyData→Ev→Prop
 |[],α=>SvS X α rest E
 |d::ds,α=>∃α1,pat.bind d α=some α1∧SvS X α1 body {nx:=uI X pat body rest E ds,ct:=uI X pat body rest E ds,bk:=fun α'=>SvS X α' rest E,rt:=E.rt}
theorem vE {pat:Pat}(hp:PassesOwn (model X.prog X.w) X.A X.env X.xe)(hc:X.calm=true)(hg:PG X tg (pN X.K pat))(h:EvI X α tg iter fun ds=>uI X pat body rest E ds α)
  (hs:∀x,foldedSetIterable iter X.env x=pure x:=by intro _;rfl):SvS X α (.For tg iter body [] pos::rest) E:=fun F σ H D m r=>by
 refine⟨_,zD (cT hp hc sR hg zT hs) zT,?_⟩
 refine h F σ H _ m fun ds J H1 q1 t1 k1 itw=>?_
 have m1:=m.kz k1 t1
 have mu:=m1.up
 have ru:qM (F.up (Gz F α σ H1)) E D:=r.up
 refine⟨fun i n σ' H'=>n=ds.length-i∧i≤ds.length∧∃α',M (F.up (Gz F α σ H1)) α' σ' H'∧uI X pat body rest E (ds.drop i) α',⟨ds.length,by simp,zm1 _,α,mu,q1⟩,?_⟩
 rintro i n σ' H' ⟨rfl,hi,α',m',lw⟩
 obtain⟨w1,w2⟩:=itw i H' _ (m1.upold m')
 by_cases hlt:i<ds.length
 ·have hd:ds[i]?=some ds[i]:=zn0 hlt
  rw[zr0 hlt] at lw
  obtain⟨α1,eb,body⟩:=lw
  obtain⟨go,yl⟩:=w1 _ hd
  refine .inr ⟨go,fun σ'' H''=>∃α',M (F.up (Gz F α σ H1)) α' σ'' H''∧uI X pat _ rest E (ds.drop (i+1)) α',fun σ'' H'' ⟨α'',r1,r2⟩=>⟨ds.length-(i+1),by omega,rfl,hlt,α'',r1,r2⟩,fun x H3 y=>?_⟩
  obtain⟨s23,avx⟩:=yl x H3 y
  have m3:=m'.kz (Kz.of_same s23) (m'.tp.same s23)
  refine mw eb m3 (avx fun a o _ e=>m'.fresh e) fun σ1 m4=>?_
  exact body _ σ1 H3 _ m4 ⟨fun α2 σ2 H2 m2 q=>⟨α2,m2,q⟩,ru.rt,fun α2 σ2 H2 m2 q=>q _ σ2 H2 D m2 ru,fun α2 σ2 H2 m2 q=>⟨α2,m2,q⟩⟩
 ·have e:i=ds.length:=by omega
  subst e
  rw[zu2] at lw
  exact .inl ⟨w2 (zj8 _),lw _ σ' H' D m' ru⟩
theorem wH {pat:Pat}{ds:List PyData}(P:Nat→Ev→Prop)(h0:P 0 α)(hs:∀i d α,ds[i]?=some d→P i α→∃α1,pat.bind d α=some α1∧SvS X α1 body {nx:=P (i+1),ct:=P (i+1),bk:=fun α'=>SvS X α' rest E,rt:=E.rt})
  (hd:∀α,P ds.length α→SvS X α rest E):uI X pat body rest E ds α:=by
 have key:∀n i α,n=ds.length-i→i≤ds.length→P i α→uI X pat body rest E (ds.drop i) α:=by
  intro n
  induction n with
  |zero=>
   intro i α hn hi p
   have e:i=ds.length:=by omega
   subst e
   rw[zu2]
   exact hd α p
  |succ n ih=>
   intro i α hn hi p
   have hlt:i<ds.length:=by omega
   rw[zr0 hlt]
   obtain⟨α1,e,b⟩:=hs i ds[i] α (zn0 hlt) p
   exact⟨α1,e,b.imp (fun α p=>ih (i+1) α (by omega) hlt p) (fun _ z=>z) (fun _ z=>z) (fun α p=>ih (i+1) α (by omega) hlt p)⟩
 exact key _ 0 α rfl (zm1 _) h0
end
end
section
variable {P:Program}{w:World}{K:PySem.W.Frag}{mg:Str→Option Value}{base:Heap}
theorem M.start {F:Fr}{N:List Str}{vs:List V}{as:List A}{H:Hp}(e:F.H0=H)(t:zE F H)(o:∀x,F.O0 x→∃u,H x=some u∧xZ u)(rv:zL F (sub (fun x=>¬F.O0 x) H) vs as):
  M F (as.map some++List.replicate (N.length-as.length) none) (L2.start N vs) H:=by
 have hl:=rv.length
 have g:∀{i:Nat} {a:A},(as.map some++List.replicate (N.length-as.length) none)[i]?=some (some a)→as[i]?=some a:=fun {i a} h=>by
  rcases Nat.lt_or_ge i as.length with z|z
  ·rw[zl4 (by rw[zj1];exact z),zl9,zm9] at h
   obtain⟨b,h1,h2⟩:=h
   cases h2;exact h1
  ·rw[zl6 (by rw[zj1];exact z),zq0] at h
   split at h<;>cases h
 have at':∀{vs:List V} {as:List A} {i:Nat} {a:A},zL F (sub (fun x=>¬F.O0 x) H) vs as→as[i]?=some a→∃v,vs[i]?=some v∧kg F (sub (fun x=>¬F.O0 x) H) v a:=by
  intro vs as i a h
  induction h generalizing i with
  |nil=>intro e;simp at e
  |cons h r ih=>
   intro e
   cases i with
   |zero=>simp at e;subst e;exact⟨_,rfl,h⟩
   |succ i=>obtain⟨v,h1,h2⟩:=ih (by simpa using e);exact⟨v,by simpa using h1,h2⟩
 have gv:∀{i:Nat} {v:V},vs[i]?=some v→(L2.start N vs)[i]?=some (some v):=fun {i v} h=>by
  have hi:i<vs.length:=(zj6.mp h).1
  unfold L2.start
  rw[zl4 (by rw[zj1];exact hi),zl9,h];rfl
 have no:∀(i:Nat) a,(as.map some++List.replicate (N.length-as.length) none)[i]?=some (some a)→(∃d,a=.dat d)∨a=.tape:=fun i a z=>by
  obtain⟨v,_,h⟩:=at' rv (g z)
  cases a with
  |dat d=>exact .inl ⟨d,rfl⟩
  |tape=>exact .inr rfl
  |_=>exact h.elim
 have gs:zq (sub (fun x=>¬F.O0 x) H) (Gz F (as.map some++List.replicate (N.length-as.length) none) (L2.start N vs) H):=zl fun a o h e=>⟨fun z=>z.elim h fun⟨i,b,s,e1,_,f⟩=>by
  rcases no i b e1 with ⟨d,rfl⟩|rfl
  ·exact f.elim
  ·exact f.elim,e⟩
 refine⟨by unfold L2.start;simp[hl],fun i a s e1 e2=>?_,fun i j a b s t x e1 _ _ _ f=>?_,fun i r q z=>(by rcases no i _ z with ⟨d,w⟩|w<;>cases w),t,fun x o' h _=>by rw[←e];exact h,o⟩
 ·obtain⟨v,h1,h2⟩:=at' rv (g e1)
  rw[gv h1] at e2;cases e2
  rcases no i a e1 with ⟨d,rfl⟩|rfl
  ·exact⟨v,rfl,AV.same gs h2⟩
  ·obtain⟨t',b,c,h3,rfl⟩:=h2
   exact⟨t',b,c,h3,rfl⟩
 ·rcases no i a e1 with ⟨d,rfl⟩|rfl
  ·exact f.elim
  ·exact f.elim
theorem fnA {x qual:Str}{st:Stmt}{f:Addr}{fd:FuncData}{N ps:List Str}{k:Nat}{φ:List A→(A→Prop)→Prop}(G:Fun K x qual st f fd)(S:zf N ps (za st))(hlen:∀as Q,φ as Q→as.length=ps.length)
  (hbody:∀(cdv:Value) (A':Around) (outer:List Env) (s:Shared) (H:Hp) (E:XK) (as:List A) (Q:A→Prop),zG k (A'.deeper (envOfC qual (za st) s.heap.objs.size f cdv))→φ as Q→
   SvS (yQ CX0 P w K mg base N qual (za st) f cdv A' outer s H E).nox (as.map some++List.replicate (N.length-as.length) none) (zv st) {nx:=fun _=>Q (.dat .none),rt:=Q}):zr P w K mg base CX0 (k+1) f fd ps (spA φ):=by
 refine G.ok S (fun vs H Q E h=>?_) (fun cdv A' outer s H vs Qc E hr h=>?_)
 ·obtain⟨F,as,Q',_,_,_,rv,hφ,_⟩:=h
  rw[rv.length,hlen as _ hφ]
 ·obtain⟨F,as,Q',e,t,o,rv,hφ,kk⟩:=h
  refine hbody cdv A' outer s H E as Q' hr hφ F _ H _ (M.start e t o rv) ⟨fun α σ H' m q=>?_,fun a v H' r q=>kk a v H' q r,fun _ _ _ _ z=>z.elim,fun _ _ _ _ z=>z.elim⟩
  exact kk _ _ _ q ⟨m.tp,m.keep,.non⟩
end
section
variable {X:Cx}{pins:List (Addr×Obj)}{σ:St}{H:Hp}{s:Shared}{h':Heap}
theorem Inv.turnL {t':Nat}{ch:List Addr}(I:Inv X pins σ H s)(k:∀b o,b∉ch→s.heap.get? b=some o→h'.get? b=some o)(hf:∀b∈ch,vG X pins H b):Inv X pins σ H {s with heap:=h',toks:=t'}:=by
 have nit:∀b u,H b=some u→b∉ch:=fun b u e z=>by rw[(hf b z).1] at e;cases e
 refine I.step (g':=s.gens) (d':=s.drawn) (ch:=ch) (fun b hb=>?_) (fun b o _ _ hc e _=>k b o hc e) (fun b o _ _ hc e _=>⟨o.slots,k b o hc e⟩) (fun _ _ _ _ n=>n)
  (fun b o hc e=>⟨o,k b o hc e⟩) (fun _ _ e=>e) (fun _ _ _ e=>e) (fun b ps e=>⟨#[],by rw[e];simp⟩) (fun m hm=>?_) (fun b u e=>?_) I.bare
 ·obtain⟨_,f1,_,f3,f4,f5⟩:=hf b hb
  exact⟨f3,f1,f4,f5⟩
 ·obtain⟨o,es,ep,ho,r⟩:=hm
  exact⟨o,es,ep,k _ o (fun z=>(hf _ z).2.1 rfl) ho,r⟩
 ·refine (I.hok b u e).stay (fun c v hc q=>k c v ?_ q) (fun _ q=>q) fun _ _ q=>q
  rcases hc with z|z
  ·rw[z];exact nit b u e
  ·exact nit c _ z
theorem Inv.turnLay {t':Nat}{ch:List Addr}{T:Addr}{o:HO}(I:Inv X pins σ H s)(k:∀b o,b∉ch→s.heap.get? b=some o→h'.get? b=some o)(hf:∀b∈ch,vG X pins H b)(hT:s.heap.objs.size≤T)(new:zY X.prog X.w (upd H T o) h' T o):
  Inv X pins σ (upd H T o) {s with heap:=h',toks:=t'}:=by
 have nit:∀b u,H b=some u→b∉ch:=fun b u e z=>by rw[(hf b z).1] at e;cases e
 have hn:H T=none:=I.hok.fresh hT
 have lt:∀{b:Addr} {u:Obj},s.heap.get? b=some u→b≠T:=fun e=>zl8 (zl1 (zj9 e) hT)
 refine I.step (g':=s.gens) (d':=s.drawn) (ch:=ch) (fun b hb=>?_) (fun b o _ _ hc e _=>k b o hc e) (fun b o _ _ hc e _=>⟨o.slots,k b o hc e⟩) (fun b u _ e n=>by rw[zg (lt e)];exact n)
  (fun b o hc e=>⟨o,k b o hc e⟩) (fun b xs e=>by rw[zg (zk e hn)];exact e) (fun b u xs e=>by rw[zg (zk e hn)];exact e) (fun b ps e=>⟨#[],by rw[zg (zk e hn),e];simp⟩) (fun m hm=>?_) (fun b u e=>?_) I.bare
 ·obtain⟨_,f1,_,f3,f4,f5⟩:=hf b hb
  exact⟨f3,f1,f4,f5⟩
 ·obtain⟨o,es,ep,ho,r⟩:=hm
  exact⟨o,es,ep,k _ o (fun z=>(hf _ z).2.1 rfl) ho,r⟩
 ·by_cases hb:b=T
  ·subst hb;rw[zj] at e;cases e;exact new
  ·rw[zg hb] at e
   refine (I.hok b u e).stay (fun c v hc q=>k c v ?_ q) (fun c q=>by rw[zg (zk q hn)];exact q) fun c xs q=>by rw[zg (zk q hn)];exact q
   rcases hc with z|z
   ·rw[z];exact nit b u e
   ·exact nit c _ z
end
theorem zf8 {a b:Nat}(h:b<a):(a:Addr)≠b:=zt0 h
def Itz (K:PySem.W.Frag)(l1 l2:Addr):It:=
 ⟨fun i H=>∃xs ys x y,SqL K H l1 xs∧SqL K H l2 ys∧xs[i]?=some x∧ys[i]?=some y,
  fun i H v H'=>∃T x y,v=.ref T∧H T=none∧H'=upd H T (.tup [x,y])∧(∀xs,SqL K H l1 xs→xs[i]?=some x)∧∀ys,SqL K H l2 ys→ys[i]?=some y,
  fun i H=>∃xs ys,SqL K H l1 xs∧SqL K H l2 ys∧(xs.length≤i∨ys.length≤i)⟩
def Ite (K:PySem.W.Frag)(l:Addr):It:=
 ⟨fun i H=>∃xs x,SqL K H l xs∧xs[i]?=some x,
  fun i H v H'=>∃T x,v=.ref T∧H T=none∧H'=upd H T (.tup [.int i,x])∧∀xs,SqL K H l xs→xs[i]?=some x,
  fun i H=>∃xs,SqL K H l xs∧xs.length≤i⟩
theorem aQ {P:Program}{w:World}{K:PySem.W.Frag}{elts:List Expr}{kk:Nat}{pos:Pos}{z TI TO i1 i2 l1 l2:Addr}(D:ZipApart z TI TO i1 i2 l1 l2):
  Turn P w K (.Tuple elts kk pos) (Itz K l1 l2) [z,TI,TO,i1,i2] z (fun i h=>IsZip h z TI TO .none∧IsPair h TI (.ref i1) (.ref i2)∧(∃a b,IsPair h TO a b)∧h.IsListIter i1 l1 i∧h.IsListIter i2 l2 i) where
 mem:=by simp
 obj:=fun i h st b hb=>by
  obtain⟨h1,h2,⟨a,c,h3⟩,⟨o1,e1,_,d1⟩,⟨o2,e2,_,d2⟩⟩:=st
  simp only[zj5,zk2,zn2] at hb
  rcases hb with rfl|rfl|rfl|rfl|rfl
  ·exact⟨_,h1,fun v z=>by cases (show Data.fields _=Data.cell v from z)⟩
  ·exact⟨_,h2,fun v z=>by cases (show Data.seq _ _=Data.cell v from z)⟩
  ·exact⟨_,h3,fun v z=>by cases (show Data.seq _ _=Data.cell v from z)⟩
  ·exact⟨o1,e1,fun v z=>by rw[d1] at z;cases z⟩
  ·exact⟨o2,e2,fun v z=>by rw[d2] at z;cases z⟩
 keep:=fun i h h' st k=>by
  obtain⟨h1,h2,⟨a,c,h3⟩,h4,h5⟩:=st
  exact⟨k z (by simp) _ h1,k TI (by simp) _ h2,⟨a,c,k TO (by simp) _ h3⟩,h4.at fun o e=>k i1 (by simp) o e,h5.at fun o e=>k i2 (by simp) o e⟩
 item:=by
  intro X hP hw hK hc i pins s σ H E I hf st hg
  subst hP hw hK
  obtain⟨xs,ys,x,y,hq1,hq2,hx,hy⟩:=hg
  obtain⟨its1,rv1,p1,hz1⟩:=I.list hq1
  obtain⟨its2,rv2,p2,hz2⟩:=I.list hq2
  obtain⟨u,hu,ru⟩:=rv1.get hx
  obtain⟨v,hv,rv⟩:=rv2.get hy
  obtain⟨h1,h2,⟨a,c,h3⟩,h4,h5⟩:=st
  refine wpAny_pyNext_zip_item D h1 h2 h3 h4 h5 p1.isList p2.isList (x:=u) (y:=v) (by simpa using hu) (by simpa using hv) fun h' a1 a2 a3 a4 a5 a6 hk=>⟨_,rfl,?_⟩
  refine wpAny_letOwnedTupleGo_zip (s:={s with heap:=h'}) a1 fun h'' b1 b2=>?_
  have hTz:s.heap.objs.size≠z:=zt0 (zj9 h1)
  have hk2:∀b o,b∉[z,TI,TO,i1,i2]→s.heap.get? b=some o→h''.get? b=some o:=fun b o hb e=>by
   simp only[zj5,zk2,zn2,not_or] at hb
   exact b2.extBut _ _ hb.1 (hk b o hb.1 hb.2.2.1 hb.2.2.2.1 hb.2.2.2.2 e)
  have gT:h''.get? s.heap.objs.size=some {cls:=.type "tuple",data:=.seq #[u,v]}:=b2.extBut _ _ hTz a5
  have J:=I.turnLay (t':=s.toks) (T:=s.heap.objs.size) (o:=.tup [x,y]) hk2 hf (zj8 _) ⟨by show 2≤sizeLine;decide,[u,v],.cons ru (.cons rv .nil),_,gT,rfl,0,rfl⟩
  refine⟨.ref s.heap.objs.size,_,J,rfl,⟨_,x,y,rfl,I.hok.fresh (zj8 _),rfl,fun zs hz=>by rw[I.list_inj hz hq1];exact hx,fun zs hz=>by rw[I.list_inj hz hq2];exact hy⟩,⟨b1,b2.extBut _ _ D.TIz (hk _ _ D.TIz D.TITO D.TIi1 D.TIi2 h2),⟨u,v,b2.extBut _ _ D.TOz a2⟩,a3.extBut b2.extBut D.i1z,a4.extBut b2.extBut D.i2z⟩,fun b hb=>?_⟩
  rw[zg]
  ·exact (hf b hb).1
  ·obtain⟨o,e,_⟩:=(show ∃o,s.heap.get? b=some o∧True from by
    simp only[zj5,zk2,zn2] at hb
    obtain⟨o1,e1,_⟩:=h4
    obtain⟨o2,e2,_⟩:=h5
    rcases hb with rfl|rfl|rfl|rfl|rfl
    ·exact⟨_,h1,trivial⟩
    ·exact⟨_,h2,trivial⟩
    ·exact⟨_,h3,trivial⟩
    ·exact⟨_,e1,trivial⟩
    ·exact⟨_,e2,trivial⟩)
   exact zl8 (zj9 e)
 done:=by
  intro X hP hw hK hc i pins s σ H E I hf st hg
  subst hP hw hK
  obtain⟨xs,ys,hq1,hq2,hl⟩:=hg
  obtain⟨its1,rv1,p1,hz1⟩:=I.list hq1
  obtain⟨its2,rv2,p2,hz2⟩:=I.list hq2
  obtain⟨h1,h2,⟨a,c,h3⟩,h4,h5⟩:=st
  have e1:=rv1.length
  have e2:=rv2.length
  refine wpAny_pyNext_zip_end (I.ok.hd hc) D h1 h2 h3 h4 h5 p1.isList p2.isList (hl.imp (fun z=>by simp;omega) fun z=>by simp;omega) fun h' hk=>⟨rfl,?_⟩
  exact I.turnL (t':=s.toks) (ch:=[z,TI,TO,i1,i2]) (fun b o hb e=>by
   simp only[zj5,zk2,zn2,not_or] at hb
   exact hk b o hb.1 hb.2.2.1 hb.2.2.2.1 hb.2.2.2.2 e) hf
 self:=fun A i s Q E st h=>wpAny_pyIter_zip st.1 h
theorem lu {P:Program}{w:World}{K:PySem.W.Frag}{elts:List Expr}{kk:Nat}{pos:Pos}{e it l:Addr}(hne:e≠it):
  Turn P w K (.Tuple elts kk pos) (Ite K l) [e,it] e (fun i h=>(∃old,IsEnum h e it i old)∧h.IsListIter it l i) where
 mem:=by simp
 obj:=fun i h st b hb=>by
  obtain⟨⟨old,h1⟩,⟨o1,e1,_,d1⟩⟩:=st
  simp only[zj5,zk2,zn2] at hb
  rcases hb with rfl|rfl
  ·exact⟨_,h1,fun v z=>by cases (show Data.fields _=Data.cell v from z)⟩
  ·exact⟨o1,e1,fun v z=>by rw[d1] at z;cases z⟩
 keep:=fun i h h' st k=>by
  obtain⟨⟨old,h1⟩,h4⟩:=st
  exact⟨⟨old,k e (by simp) _ h1⟩,h4.at fun o q=>k it (by simp) o q⟩
 item:=by
  intro X hP hw hK hc i pins s σ H E I hf st hg
  subst hP hw hK
  obtain⟨xs,x,hq1,hx⟩:=hg
  obtain⟨its1,rv1,p1,hz1⟩:=I.list hq1
  obtain⟨u,hu,ru⟩:=rv1.get hx
  obtain⟨⟨old,h1⟩,h4⟩:=st
  refine wpAny_pyNext_enum_item h1 h4 p1.isList (x:=u) (by simpa using hu) hne fun h' a1 a3 a5 a6 hk=>⟨_,rfl,?_⟩
  refine wpAny_letOwnedTupleGo_enum (s:={s with heap:=h',toks:=s.toks+1}) a1 fun h'' b1 b2=>?_
  have hTz:s.heap.objs.size≠e:=zt0 (zj9 h1)
  have hk2:∀b o,b∉[e,it]→s.heap.get? b=some o→h''.get? b=some o:=fun b o hb q=>by
   simp only[zj5,zk2,zn2,not_or] at hb
   exact b2.extBut _ _ hb.1 (hk b o hb.1 hb.2 q)
  have gT:h''.get? s.heap.objs.size=some {cls:=.type "tuple",data:=.seq #[.int i s.toks,u]}:=b2.extBut _ _ hTz a5
  have J:=I.turnLay (t':=s.toks+1) (T:=s.heap.objs.size) (o:=.tup [.int i,x]) hk2 hf (zj8 _) ⟨by show 2≤sizeLine;decide,[.int i s.toks,u],.cons ⟨_,rfl⟩ (.cons ru .nil),_,gT,rfl,0,rfl⟩
  refine⟨.ref s.heap.objs.size,_,J,rfl,⟨_,x,rfl,I.hok.fresh (zj8 _),rfl,fun zs hz=>by rw[I.list_inj hz hq1];exact hx⟩,⟨⟨u,by simpa using b1⟩,a3.extBut b2.extBut hne.symm⟩,fun b hb=>?_⟩
  rw[zg]
  ·exact (hf b hb).1
  ·obtain⟨o,q,_⟩:=(show ∃o,s.heap.get? b=some o∧True from by
    simp only[zj5,zk2,zn2] at hb
    obtain⟨o1,e1,_⟩:=h4
    rcases hb with rfl|rfl
    ·exact⟨_,h1,trivial⟩
    ·exact⟨_,e1,trivial⟩)
   exact zl8 (zj9 q)
 done:=by
  intro X hP hw hK hc i pins s σ H E I hf st hg
  subst hP hw hK
  obtain⟨xs,hq1,hl⟩:=hg
  obtain⟨its1,rv1,p1,hz1⟩:=I.list hq1
  obtain⟨⟨old,h1⟩,h4⟩:=st
  have e1:=rv1.length
  refine wpAny_pyNext_enum_end (I.ok.hd hc) h1 h4 p1.isList (by simp;omega) fun h' hk=>⟨rfl,?_⟩
  exact I.turnL (t':=s.toks) (ch:=[e,it]) (fun b o hb q=>by
   simp only[zj5,zk2,zn2,not_or] at hb
   exact hk b o hb.2 q) hf
 self:=fun A i s Q E st h=>by
  obtain⟨⟨old,h1⟩,h4⟩:=st
  exact wpAny_pyIter_enum h1 h
section
variable {X:Cx}{α:Ev}{elts:List Expr}{kk:Nat}{tp p pos:Pos}{a b:Expr}
def aP (K:PySem.W.Frag)(ta:TA):TI:=fun σ H R=>ta σ H fun vs H1=>∃l,vs=[.ref l]∧(∃xs,SqL K H1 l xs)∧R (Ite K l) H1
theorem fF {ta:TA}(hg:Gl X "enumerate")(hm:X.mg "enumerate"=none)(ha:PA X [a] ta)(hs:starEach [a] X.env=[(false,eval a X.env)]:=by rfl):
  PI X (.Tuple elts kk tp) (.Call (.Name "enumerate" p) [a] [] pos) (aP X.K ta):=by
 intro pins s σ H R I h
 refine Call_ (uH I hg hm boot_enumerate (zs3 (thn (ha pos pins s σ H _ I h) fun us s1 ⟨vs,H1,I1,r1,q1⟩=>?_) hs rfl))
 obtain⟨l1,e,⟨xs,hq1⟩,q⟩:=q1
 subst e
 obtain⟨u,rfl,ru⟩:=Vals.one r1
 cases (show u=Value.ref l1 from ru)
 obtain⟨its1,rv1,p1,hz1⟩:=I1.list hq1
 refine call_enumerate_list p1.isList fun h' z1 z4 z6 hk=>?_
 refine wpAny_pyIter_enum (s:={s1 with heap:=h'}) z1 ?_
 refine⟨_,_,_,_,H1,rfl,I1.kept (t':=s1.toks) fun b o e=>hk b o e,lu (zf8 (a:=s1.heap.objs.size+1) (b:=s1.heap.objs.size) (zs5 _)),⟨⟨_,z1⟩,z4⟩,fun b hb=>?_,q⟩
 simp only[zj5,zk2,zn2] at hb
 have hb':s1.heap.objs.size≤b:=by
  have key:∀n b:Nat,n=s1.heap.objs.size→(b=n+1∨b=n)→n≤b:=fun n b _ h=>by omega
  exact key _ _ rfl hb
 exact I1.fpOk hb' (I1.hok.fresh hb')
def vX (n:Nat):List PyData→List PyData
 |[]=>[]
 |d::ds=>.tuple [.int n,d]::vX (n+1) ds
theorem xC :∀{ds:List PyData} {n i:Nat} {d:PyData},(vX n ds)[i]?=some d→∃e,ds[i]?=some e∧d=.tuple [.int ((n+i:Nat):Int),e]
 |[],n,i,d,h=>by simp[vX] at h
 |e::ds,n,0,d,h=>by simp[vX] at h;exact⟨e,rfl,by simp[←h]⟩
 |e::ds,n,i+1,d,h=>by
  simp only[vX,List.getElem?_cons_succ] at h
  obtain⟨e',h1,h2⟩:=xC h
  exact⟨e',by simpa using h1,by rw[h2,Nat.add_assoc,Nat.add_comm 1 i]⟩
theorem xH :∀(ds:List PyData) (n:Nat),(vX n ds).length=ds.length
 |[],_=>rfl
 |_::ds,n=>by simp[vX,xH ds (n+1)]
theorem rA {Q:List PyData→Prop}(hg:Gl X "enumerate")(hm:X.mg "enumerate"=none)(h:EvD X α a fun x=>∃ds,x=.list ds∧Q (vX 0 ds))(hs:starEach [a] X.env=[(false,eval a X.env)]:=by rfl):
  EvI X α (.Tuple elts kk tp) (.Call (.Name "enumerate" p) [a] [] pos) Q:=fun F σ H R m k=>by
 refine⟨_,fF hg hm (zc ze zm hs) hs,?_⟩
 refine h F σ H _ m fun x vx H1 q1 t1 k1 r1=>?_
 obtain⟨ds,rfl,q⟩:=q1
 obtain⟨l1,xs,rfl,g1,g2⟩:=r1.lst_inv
 refine⟨l1,rfl,⟨xs,SqL.of (zh g1).2⟩,k _ _ H1 q t1 k1 fun i H3 p s=>⟨fun d hd=>?_,fun hl=>?_⟩⟩
 ·have s1:=SqL.of (K:=X.K) (zh (s _ _ g1)).2
  obtain⟨e,he,rfl⟩:=xC hd
  obtain⟨x1,hx1,av1⟩:=g2.get he
  refine⟨⟨xs,x1,s1,hx1⟩,fun v H4 y=>?_⟩
  obtain⟨T,x,rfl,hT,rfl,hx⟩:=y
  have hx:=hx _ s1
  rw[hx1] at hx;cases hx
  refine⟨yk hT,fun fr=>?_⟩
  have gs:zq (Gz F α σ H1) (sub p (upd H3 T (.tup [.int i,x1]))):=fun a o e=>by
   obtain⟨z1,z2⟩:=zh (s a o e)
   exact zK z1 (by rw[zg (zk z2 hT)];exact z2)
  refine .tup (zK (fr T _ zj hT) zj) (.cons ?_ (.cons (av1.same gs) .nil))
  rw[Nat.zero_add]
  exact .int _
 ·refine⟨xs,SqL.of (zh (s _ _ g1)).2,?_⟩
  rw[xH,←g2.length] at hl
  exact hl
end
structure Cal (P:Program)(w:World)(K:PySem.W.Frag)(mg:Str→Option Value)(base:Heap)(x:Str)(k:Nat)(φ:List A→(A→Prop)→Prop):Prop where
 ex:∃f fd ps,mg x=some (.ref f)∧PySem.W.keepIn K (.ref f)=true∧Binds K fd ps []∧zr P w K mg base CX0 k f fd ps (spA φ)
section
variable {X:Cx}{α:Ev}{e a b:Expr}{es:List Expr}{pos p:Pos}{Q:PyData→Prop}{k:Nat}{φ:List A→(A→Prop)→Prop}{x:Str}
theorem zA (C:Cal X.prog X.w X.K X.mg X.base x k φ)(hr:zG k X.A)(hg:Gl X x)(h:EvA X α (e::es) fun as=>φ as fun a=>Q a.d)
  (hdb:(x == ("__debug__":Str))=false:=by decide) (he:starEach (e::es) X.env=(false,eval e X.env)::starEach es X.env:=by rfl) (hpl:(backTo pos (starEach es X.env)).any (·.1)=false:=by rfl):EvD X α (.Call (.Name x p) (e::es) [] pos) Q:=by
 obtain⟨f,fd,ps,h1,h2,h3,h4⟩:=C.ex
 exact eU h4 hr hg h1 h2 h3 h hdb he hpl
theorem rK {Q:List PyData→Prop}(C:Cal X.prog X.w X.K X.mg X.base x k φ)(hr:zG k X.A)(hg:Gl X x)(h:EvA X α (e::es) fun as=>φ as fun a=>∃ds,a=.own ds∧Q ds)
  (hdb:(x == ("__debug__":Str))=false:=by decide) (he:starEach (e::es) X.env=(false,eval e X.env)::starEach es X.env:=by rfl) (hpl:(backTo pos (starEach es X.env)).any (·.1)=false:=by rfl):EvL X α (.Call (.Name x p) (e::es) [] pos) Q:=by
 obtain⟨f,fd,ps,h1,h2,h3,h4⟩:=C.ex
 exact fL h4 hr hg h1 h2 h3 h hdb he hpl
end
section
variable {P:Program}{w:World}{K:PySem.W.Frag}{mg:Str→Option Value}{base:Heap}
theorem vf {x qual:Str}{st:Stmt}{f:Addr}{fd:FuncData}{N ps:List Str}{k:Nat}{φ:List A→(A→Prop)→Prop}(G:Fun K x qual st f fd)(hm:mg x=some (.ref f))(hb:Binds K fd ps [])(S:zf N ps (za st))(hlen:∀as Q,φ as Q→as.length=ps.length)
  (hbody:∀(cdv:Value) (A':Around) (outer:List Env) (s:Shared) (H:Hp) (E:XK) (as:List A) (Q:A→Prop),zG k (A'.deeper (envOfC qual (za st) s.heap.objs.size f cdv))→φ as Q→
   SvS (yQ CX0 P w K mg base N qual (za st) f cdv A' outer s H E).nox (as.map some++List.replicate (N.length-as.length) none) (zv st) {nx:=fun _=>Q (.dat .none),rt:=Q}):Cal P w K mg base x (k+1) φ:=
 ⟨f,fd,ps,hm,G.kp,hb,fnA G S hlen hbody⟩
def wG :List A→(A→Prop)→Prop:=fun as Q=>∃n:Int,as=[.tape,.dat (.int n)]∧0<n∧n<big∧∀v,0≤v→v<n→Q (.dat (.int v))
end
section
variable {Y:Addr→Shared→Hp→List Addr→Cx}{pat:Pat}{ifs:List Expr}{elt:Expr}{α0:Ev}
theorem lJ {ds acc:List PyData}{Q:List PyData→Prop}(P:Nat→List PyData→Prop)(h0:P 0 acc)
  (hs:∀i d acc,ds[i]?=some d→P i acc→∃α1,pat.bind d α0=some α1∧∀C s2 H2 fp,eI (Y C s2 H2 fp) α1 ifs fun k=>if k=true then ∀C s2 H2 fp,EvD (Y C s2 H2 fp) α1 elt fun y=>P (i+1) (acc++[y]) else P (i+1) acc)
  (hd:∀acc,P ds.length acc→Q acc):xi Y pat ifs elt α0 ds acc Q:=by
 have key:∀n i acc,n=ds.length-i→i≤ds.length→P i acc→xi Y pat ifs elt α0 (ds.drop i) acc Q:=by
  intro n
  induction n with
  |zero=>
   intro i acc hn hi p
   have e:i=ds.length:=by omega
   subst e
   rw[zu2]
   exact hd acc p
  |succ n ih=>
   intro i acc hn hi p
   have hlt:i<ds.length:=by omega
   rw[zr0 hlt]
   obtain⟨α1,e,b⟩:=hs i ds[i] acc (zn0 hlt) p
   refine⟨α1,e,fun C s2 H2 fp F σ H R m kk=>b C s2 H2 fp F σ H R m fun k H' q=>kk k H' ?_⟩
   cases k with
   |true=>
    rw[if_pos rfl] at q ⊢
    exact fun C s2 H2 fp=>(q C s2 H2 fp).imp fun y p=>ih (i+1) _ (by omega) hlt p
   |false=>
    rw[if_neg (by decide)] at q ⊢
    exact ih (i+1) _ (by omega) hlt q
 exact key _ 0 acc rfl (zm1 _) h0
end
theorem vQ {ds:List PyData}{v:Int}(h0:0≤v)(h1:v<ds.length):∃d,d∈ds∧atI ds v=some d:=by
 obtain⟨j,rfl⟩:=zt6 h0
 have hj:j<ds.length:=by omega
 exact⟨ds[j],List.getElem_mem hj,wR (zn0 hj)⟩
theorem ou (st:Stmt)(env:Env):execs [st] env=exec st env:=by
 rw[PySem.execs_cons]
 have:(fun f:Flow=>(match f with|.next=>execs [] env|f=>pure f:Sem Flow))=pure:=by
  funext f
  cases f<;>rfl
 exact (congrArg (fun g=>exec st env >>= g) this).trans (bind_pure _)
section
variable {X:Cx}{α:Ev}{e a b c:Expr}{es rest:List Expr}{pos p:Pos}{Q:PyData→Prop}{E:yi}{st:Stmt}{sts sts':List Stmt}
theorem pI (P:Ev→Prop)(h1:SvS X α [st] {E with nx:=P})(h2:∀α',P α'→SvS X α' sts E):SvS X α (st::sts) E:=fun F σ H D m r=>by
 refine yb (fun σ' H'=>∃α',M F α' σ' H'∧P α') ?_ ?_
 ·obtain⟨t,p,q⟩:=h1 F σ H {D with nx:=fun σ' H'=>∃α',M F α' σ' H'∧P α'} m ⟨fun α' σ' H' m' z=>⟨α',m',z⟩,r.rt,r.bk,r.ct⟩
  exact⟨t,fun pins s σ H D I h=>(by
   have:=p pins s σ H D I h
   rw[ou] at this
   exact this),q⟩
 ·rintro σ' H' ⟨α',m',z⟩
  exact h2 α' z F σ' H' D m' r
theorem rT {c:Prop}[Decidable c]{a b:List Stmt}(h1:c→SvS X α a E)(h2:¬c→SvS X α b E):SvS X α (if decide c=true then a else b) E:=by
 by_cases h:c
 ·rw[zm0 h];exact h1 h
 ·rw[zl5 h];exact h2 h
theorem yw {k:Bool}{a b:List Stmt}(h1:k=true→SvS X α a E)(h2:k=false→SvS X α b E):SvS X α (if k=true then a else b) E:=by
 cases k with
 |true=>exact h1 rfl
 |false=>exact h2 rfl
theorem rH {i j:Int}:Cmp rEq (.int i) (.int j) (decide (i=j)):=fun p H vx vy R rx ry h=>by
 cases rx.int_inv;cases ry.int_inv
 refine⟨rfl,?_⟩
 rw[show decide (V.int i=V.int j)=decide (i=j) by simp]
 exact h
theorem fU {i j:Int}:Cmp rNe (.int i) (.int j) (!decide (i=j)):=fun p H vx vy R rx ry h=>by
 cases rx.int_inv;cases ry.int_inv
 refine⟨rfl,?_⟩
 rw[show decide (V.int i=V.int j)=decide (i=j) by simp]
 exact h
theorem mP {i j:Str}:Cmp rEq (.str i) (.str j) (decide (i=j)):=fun p H vx vy R rx ry h=>by
 cases rx.str_inv;cases ry.str_inv
 refine⟨rfl,?_⟩
 rw[show decide (V.str i=V.str j)=decide (i=j) by simp]
 exact h
theorem oP {op:CmpOp}{r:R2}(ho:OpR X (compareOp op) r)(hm:behindInMarks op b=false)(h:EvD X α a fun x=>EvD X α b fun y=>∃k,Cmp r x y k∧Q (.bool k)):EvD X α (.Compare a [op] [b] pos) Q:=fun F σ H R m k=>by
 refine⟨_,xy ho ze ze hm,?_⟩
 refine h F σ H _ m fun x vx H1 q1 t1 k1 r1=>?_
 have m1:=m.kz k1 t1
 refine q1 F σ H1 _ m1 fun y vy H2 q2 t2 k2 r2=>?_
 obtain⟨b,hc,q⟩:=q2
 exact hc _ H2 vx vy _ (r1.same (k2.gz m1.tp)) r2 (k _ _ H2 q t2 (k1.trans k2) (.bl b))
theorem ba {Q:Bool→Prop}(h:EvD X α a fun x=>EvD X α b fun y=>∃i j,x=.int i∧y=.int j∧Q (decide (i=j))):EvT X α (.Compare a [.Eq] [b] pos) Q:=
 xP we (zC _) (h.imp fun x h=>h.imp fun y ⟨i,j,e1,e2,q⟩=>⟨_,by subst e1 e2;exact rH,q⟩)
theorem aE (h:EvD X α a fun x=>EvD X α b fun y=>∃i j,x=.int i∧y=.int j∧Q (.bool (decide (i=j)))):EvD X α (.Compare a [.Eq] [b] pos) Q:=
 oP we (zC _) (h.imp fun x h=>h.imp fun y ⟨i,j,e1,e2,q⟩=>⟨_,by subst e1 e2;exact rH,q⟩)
theorem gn {Q:Bool→Prop}(h:EvD X α a fun x=>EvD X α b fun y=>∃i j,x=.str i∧y=.str j∧Q (decide (i=j))):EvT X α (.Compare a [.Eq] [b] pos) Q:=
 xP we (zC _) (h.imp fun x h=>h.imp fun y ⟨i,j,e1,e2,q⟩=>⟨_,by subst e1 e2;exact mP,q⟩)
end
structure NbT (mg:Str→Option Value):Prop where
 abs:mg "abs"=none
 list:mg "list"=none
 len:mg "len"=none
 range:mg "range"=none
 min:mg "min"=none
 max:mg "max"=none
 sorted:mg "sorted"=none
 isinstance:mg "isinstance"=none
 int:mg "int"=none
 bool:mg "bool"=none
 str:mg "str"=none
 tuple:mg "tuple"=none
 all:mg "all"=none
 any:mg "any"=none
 repr:mg "repr"=none
 zip:mg "zip"=none
 enumerate:mg "enumerate"=none
 reversed:mg "reversed"=none
 sum:mg "sum"=none
theorem wk {X:Cx}{K:PySem.W.Frag}{es:List Expr}{k:Nat}{t:TGs}{n:Nat}{pos:Pos}(hK:X.K=K)(hc:X.calm=true)(h:PGs X es t)
  (hn:(assignEach es X.env).length=n:=by rfl) (hst:(assignEach es X.env).findIdx? (·.1)=none:=by rfl):PG X (.Tuple es k pos) (cX K n t):=by
 subst hK
 exact aF hc h hn hst
end L2
namespace SortA
open PySem PySem.W PyProof.Rows
abbrev g (p:Array Nat)(i:Nat):Nat:=p.getD i 0
variable {lt:Nat→Nat→Bool}
end SortA
namespace SortA
open PySem PySem.W PyProof.Rows
end SortA
namespace L2
open PySem PySem.Spec PySem.Calls PySem.W PyProof.Rows SortA
section
variable {prog:Program}{w:World}{A:Around}{E:Value→Shared→Prop}{s:Shared}
end
section
variable {X:Cx}{pins:List (Addr×Obj)}{σ:St}{H H':Hp}{s:Shared}
end
end L2
namespace Days
end Days
namespace L2
open PySem PySem.Spec PyProof.Rows Days
section
variable {X:Cx}{α:Ev}{e a b c tg:Expr}{pos p:Pos}{Q:PyData→Prop}{E:yi}{sts:List Stmt}
end
section
variable {X:Cx}{α:Ev}{tg:Expr}{pos p:Pos}{E:yi}{sts body:List Stmt}
def noE :Ev→Bool
 |[]=>true
 |some (.exc _ _)::_=>false
 |_::r=>noE r
end
def isNone :PyData→Bool
 |.none=>true
 |_=>false
theorem DV.non_iff {H:Hp}{x:V}{d:PyData}(h:DV H x d):decide (x=.non)=isNone d:=by
 cases h<;>simp[isNone]
abbrev eqS (d:PyData)(s:Str):Bool:=PyData.eqv d (.str s)
abbrev vg :PyData→Bool:=zO 0 1000000000000
def vU :PyData→Bool
 |.tuple [.int m,f]=>zO 2 14 (.int m)&&zO 1 (m-1) f
 |_=>false
def zH (w v:PyData):Bool:=
 if eqS w "price"=true then isNone v||vg v
 else if (eqS w "come"||eqS w "go")=true then isBool v
 else if (eqS w "least"||eqS w "most")=true then zO 1 14 v
 else if eqS w "deal"=true then isNone v||vU v
 else eqS w "fee"&&vg v
def yr :PyData→Bool
 |.tuple [w,a,b,v]=>zW (.tuple [a,b])&&zH w v
 |_=>false
abbrev words :List Str:=["price","come","go","least","most","deal","fee"]
theorem nq {x:Str}(h:(PyData.str x).canLay0=true):SeqAt.shaped (.str x)=true:=by
 unfold SeqAt.shaped
 rw[h]
 rfl
def nW :Sp:=fun vs H Q _=>∃x y dw dv,vs=[x,y]∧DV H x dw∧SeqAt.shaped dw=true∧DV H y dv∧Q (.bl (zH dw dv)) H
def pK :Sp:=fun vs H Q _=>∃x d,vs=[x]∧DV H x d∧SeqAt.shaped d=true∧∀H',zq H H'→Q (.bl (yr d)) H'
theorem rJ {ds:List PyData}(h:SeqAt.shaped (.tuple ds)=true):∀d∈ds,SeqAt.shaped d=true:=by
 unfold SeqAt.shaped at h
 rw[zk3,zl7] at h
 obtain⟨h1,h2⟩:=h
 simp only[PyData.canLay0] at h1
 simp only[PyData.depth] at h2
 have key:∀(ds:List PyData),PyData.canLayAll0 ds=true→PyData.depthAll ds+1≤64→∀d∈ds,SeqAt.shaped d=true:=by
  intro ds
  induction ds with
  |nil=>intro _ _ d hd;simp at hd
  |cons e r ih=>
   intro a b d hd
   simp only[PyData.canLayAll0,zk3] at a
   simp only[PyData.depthAll] at b
   rcases zj5.mp hd with z|z
   ·subst z
    unfold SeqAt.shaped
    rw[a.1,zo8,zl7]
    omega
   ·exact ih a.2 (by omega) d z
 exact key ds h1 (by omega)
def wt (x y z:V):List (Str×V):=xp "worth" z (xp "last" y (xp "first" x []))
theorem cz :¬(("worth":Str)="last"):=by decide +kernel
theorem cC :¬(("worth":Str)="first"):=by decide +kernel
theorem gb :¬(("last":Str)="first"):=by decide +kernel
theorem oq (x y z:V):(wt x y z).lookup ("first":Str)=some x:=by
 unfold wt
 rw[zJ,if_neg (fun e=>cC e.symm),zJ,if_neg (fun e=>gb e.symm),zJ,if_pos rfl]
theorem mW (x y z:V):(wt x y z).lookup ("last":Str)=some y:=by
 unfold wt
 rw[zJ,if_neg (fun e=>cz e.symm),zJ,if_pos rfl]
theorem nk (x y z:V):(wt x y z).lookup ("worth":Str)=some z:=by
 unfold wt
 rw[zJ,if_pos rfl]
theorem fA (x y z:V){m:Str}(h1:¬m="worth")(h2:¬m="last")(h3:¬m="first"):(wt x y z).lookup m=none:=by
 unfold wt
 rw[zJ,if_neg h1,zJ,if_neg h2,zJ,if_neg h3]
 rfl
structure Cs where
 price:Addr
 come:Addr
 go:Addr
 least:Addr
 most:Addr
 deal:Addr
 fee:Addr
def Cs.of (c:Cs)(w:Str):Addr:=
 if w="price" then c.price else if w="come" then c.come else if w="go" then c.go else if w="least" then c.least else if w="most" then c.most else if w="deal" then c.deal else c.fee
structure wj (K:PySem.W.Frag)(C fI fT fE fW:Addr):Prop where
 cl:Cls K C
 nf:yH K C "first"
 nl:yH K C "last"
 nw:yH K C "worth"
 makes:Mk K C fI
 told:Meth K C "told" fT
 tells:Meth K C "tells" fE
 word:Meth K C "word" fW
def ar (C:Addr):Sp:=fun vs H Q _=>∃(p dx:Addr) (x y z:V),vs=[.ref p,x,y,z]∧H p=some (.ins C dx [])∧Q .non (upd H p (.ins C dx (wt x y z)))
def wJ (w:Str):Sp:=fun vs H Q _=>∃p,vs=[.ref p]∧Q (.str w) H
def ie (C:Addr)(w:Str):Sp:=fun vs H Q _=>∃(p dx:Addr) (x y z:V),vs=[.ref p]∧H p=some (.ins C dx (wt x y z))∧∀q,H q=none→Q (.ref q) (upd H q (.tup [.str w,x,y,z]))
def ja (cs:Cs):Sp:=fun vs H Q _=>∃(w:Str) (x y z:V),vs=[.str w,x,y,z]∧w∈words∧∀(p dx:Addr) (H':Hp),H' p=some (.ins (cs.of w) dx (wt x y z))→H p=none→zq H H'→Q (.ref p) H'
def qD (cs:Cs):Sp:=fun vs H Q _=>∃x d,vs=[x]∧DV H x d∧SeqAt.shaped d=true∧(yr d=false→∀H',zq H H'→Q .non H')∧
 (∀(r:Addr) (w:Str) (x1 x2 x3:V) (p dx:Addr) (H':Hp),x=.ref r→yr d=true→w∈words→H r=some (.tup [.str w,x1,x2,x3])→H' p=some (.ins (cs.of w) dx (wt x1 x2 x3))→H p=none→zq H H'→Q (.ref p) H')
theorem xX {d:PyData}{s:Str}(h:eqS d s=true):d=.str s:=by
 cases d with
 |str x=>
  have h':(x == s)=true:=h
  rw[eq_of_beq h']
 |_=>simp[PyData.eqv] at h
theorem qZ {w v:PyData}(h:zH w v=true):∃s∈words,w=.str s:=by
 unfold zH at h
 split at h
 ·rename_i e;exact⟨"price",by simp[words],xX e⟩
 ·split at h
  ·rename_i e
   rcases (zp8 _ _).mp e with e|e
   ·exact⟨"come",by simp[words],xX e⟩
   ·exact⟨"go",by simp[words],xX e⟩
  ·split at h
   ·rename_i e
    rcases (zp8 _ _).mp e with e|e
    ·exact⟨"least",by simp[words],xX e⟩
    ·exact⟨"most",by simp[words],xX e⟩
   ·split at h
    ·rename_i e;exact⟨"deal",by simp[words],xX e⟩
    ·rw[zk3] at h;exact⟨"fee",by simp[words],xX h.1⟩
theorem xt {d:PyData}(h:yr d=true):∃(s:Str) (a b v:PyData),s∈words∧d=.tuple [.str s,a,b,v]:=by
 unfold yr at h
 split at h
 ·rename_i w a b v
  rw[zk3] at h
  obtain⟨s,hs,rfl⟩:=qZ h.2
  exact⟨s,a,b,v,hs,rfl⟩
 ·cases h
section
variable {X:Cx}
end
abbrev xY (C:Addr)(fs:List (PyData×PyData)):PyData:=.dict ((.int (C:Nat),.none)::fs)
def vZ :List (PyData×PyData)→Str→Option PyData
 |[],_=>none
 |(.str g,d)::r,f=>if f=g then some d else vZ r f
 |_::r,f=>vZ r f
theorem AVf.get {H:Hp}:∀{fs:List (Str×V)} {ds:List (PyData×PyData)} {f:Str} {d:PyData},AVf H fs ds→vZ ds f=some d→∃v,fs.lookup f=some v∧AV H v d
 |_,_,f,d,.nil,e=>by cases e
 |_,_,f,d,.cons (f:=g) h r,e=>by
  rw[zn5]
  unfold vZ at e
  by_cases z:f=g
  ·subst z
   rw[if_pos rfl] at e
   cases e
   exact⟨_,by simp,h⟩
  ·rw[if_neg z] at e
   have z':(f == g)=false:=by simpa using z
   rw[z']
   exact AVf.get r e
theorem AVf.none {H:Hp}:∀{fs:List (Str×V)} {ds:List (PyData×PyData)} {f:Str},AVf H fs ds→vZ ds f=Option.none→fs.lookup f=Option.none
 |_,_,f,.nil,e=>rfl
 |_,_,f,.cons (f:=g) h r,e=>by
  rw[zn5]
  unfold vZ at e
  by_cases z:f=g
  ·subst z
   rw[if_pos rfl] at e
   cases e
  ·rw[if_neg z] at e
   have z':(f == g)=false:=by simpa using z
   rw[z']
   exact AVf.none r e
theorem AV.ins_inv {H:Hp}{v:V}{C:Addr}{ds:List (PyData×PyData)}(h:AV H v (xY C ds)):∃a dx fs,v=.ref a∧H a=some (.ins C dx fs)∧AVf H fs ds:=by
 generalize e:xY C ds=d at h
 cases h with
 |@ins a C' dx fs ds' h1 h2=>
  injection e with e
  injection e with e1 e2
  have e3:(C:Int)=(C':Int):=by
   have:=congrArg Prod.fst e1
   injection this
  have e4:C=C':=Int.ofNat.inj e3
  subst e4 e2
  exact⟨a,dx,fs,rfl,h1,h2⟩
 |_=>cases e
section
variable {X:Cx}{α:Ev}{o e:Expr}{es:List Expr}{pos apos p:Pos}{Q:PyData→Prop}{C:Addr}{f m:Str}
theorem cF (c:Cls X.K C)(na:yH X.K C f)(h:EvD X α o fun x=>∃fs d,x=xY C fs∧vZ fs f=some d∧Q d)(hb:attributeBase o f X.env (eval o X.env)=eval o X.env:=by rfl):EvD X α (.Attribute o f pos) Q:=fun F σ H R m k=>by
 refine⟨_,sV ze hb,?_⟩
 refine h F σ H _ m fun x vx H1 q1 t1 k1 r1=>?_
 obtain⟨fs,d,rfl,hf,q⟩:=q1
 obtain⟨a,dx,gs,rfl,h1,h2⟩:=r1.ins_inv
 obtain⟨v,hv,av⟩:=h2.get hf
 exact⟨a,C,dx,gs,v,rfl,(zh h1).2,c,na,hv,k d v H1 q t1 k1 av⟩
structure rg (P:Program)(w:World)(K:PySem.W.Frag)(mg:Str→Option Value)(base:Heap)(C:Addr)(m:Str)(k:Nat)(φ:List A→(A→Prop)→Prop):Prop where
 ex:∃f fd ps,Cls K C∧Meth K C m f∧Binds K fd ps []∧zr P w K mg base CX0 k f fd ps (spA φ)
theorem fu {k:Nat}{φ:List A→(A→Prop)→Prop}{pl:Sem Bool}(M':rg X.prog X.w X.K X.mg X.base C m k φ)(hr:zG k X.A)(h:EvD X α o fun x=>∃fs,x=xY C fs∧vZ fs m=none∧EvA X α (e::es) fun as=>φ (.dat (xY C fs)::as) fun a=>Q a.d)
  (hst:starEach (e::es) X.env=(false,eval e X.env)::starEach es X.env:=by rfl) (hpl:(backTo pos (starEach es X.env)).any (·.1)=false:=by rfl)
  (ht:eval (.Call (.Attribute o m apos) (e::es) [] pos) X.env=(do
   let ov ←eval o X.env
   standAt apos.atName
   let (f,first) ←holding [ov] (getMethod ov m pl)
   callWith pos f first (backTo pos (starEach (e::es) X.env)) (backToKw pos (keywordEach [] X.env))):=by rfl):EvD X α (.Call (.Attribute o m apos) (e::es) [] pos) Q:=fun F σ H R m' kk=>by
 obtain⟨f,fd,ps,c,hm,hb,G⟩:=M'.ex
 refine⟨_,dz ze c hm G hr hb .nil zQ yu hst hpl ht,?_⟩
 refine h F σ H _ m' fun x vx H1 q1 t1 k1 r1=>?_
 obtain⟨fs,rfl,hf,q⟩:=q1
 have m1:=m'.kz k1 t1
 obtain⟨a,dx,gs,rfl,h1,h2⟩:=r1.ins_inv
 refine⟨a,dx,gs,rfl,(zh h1).2,h2.none hf,?_⟩
 refine q F σ H1 _ m1 fun as vs H2 q2 t2 k2 r2=>?_
 have m2:=m1.kz k2 t2
 have cf:=xR (vs:=.ref a::vs) (as:=.dat (xY C fs)::as) (R:=R) (E:=E0) m2 (.cons (r1.same (k2.gz m1.tp)) r2) q2 fun z v H' qa ra=>by
  obtain⟨g1,g2,g3⟩:=ra.back m2
  exact kk _ v H' qa g1 ((k1.trans k2).trans g2) g3
 exact cf
theorem qG {k:Nat}{φ:List A→(A→Prop)→Prop}{pl:Sem Bool}(M':rg X.prog X.w X.K X.mg X.base C m k φ)(hr:zG k X.A)(h:EvD X α o fun x=>∃fs,x=xY C fs∧vZ fs m=none∧φ [.dat (xY C fs)] fun a=>Q a.d)
  (ht:eval (.Call (.Attribute o m apos) [] [] pos) X.env=(do
   let ov ←eval o X.env
   standAt apos.atName
   let (f,first) ←holding [ov] (getMethod ov m pl)
   callWith pos f first (backTo pos (starEach [] X.env)) (backToKw pos (keywordEach [] X.env))):=by rfl):EvD X α (.Call (.Attribute o m apos) [] [] pos) Q:=fun F σ H R m' kk=>by
 obtain⟨f,fd,ps,c,hm,hb,G⟩:=M'.ex
 refine⟨_,qx ze c hm G hr hb .nil zQ ht,?_⟩
 refine h F σ H _ m' fun x vx H1 q1 t1 k1 r1=>?_
 obtain⟨fs,rfl,hf,q⟩:=q1
 have m1:=m'.kz k1 t1
 obtain⟨a,dx,gs,rfl,h1,h2⟩:=r1.ins_inv
 refine⟨a,dx,gs,rfl,(zh h1).2,h2.none hf,?_⟩
 have cf:=xR (vs:=[.ref a]) (as:=[.dat (xY C fs)]) (R:=R) (E:=E0) m1 (.cons r1 .nil) q fun z v H' qa ra=>by
  obtain⟨g1,g2,g3⟩:=ra.back m1
  exact kk _ v H' qa g1 (k1.trans g2) g3
 exact cf
def et (F:Fr)(v:V)(H':Hp)(d:PyData):Prop:=zE F H'∧Kz F F.H0 H'∧AV (sub (fun x=>¬F.O0 x∧∀xs,F.H0 x≠some (.lst xs)) H') v d
def EvN (X:Cx)(α:Ev)(e:Expr)(Q:PyData→Prop):Prop:=∀(F:Fr) (σ:St) (H:Hp) (R:VK),M F α σ H→(∀d v H',Q d→zE F H'→Kz F H H'→AV (sub (fun x=>¬Ow F α σ x∧∀xs,H x≠some (.lst xs)) H') v d→R v H')→uE X e σ H R
theorem EvN.d (h:EvN X α e Q):EvD X α e Q:=fun F σ H R m k=>h F σ H R m fun d v H' q t z r=>k d v H' q t z (r.same (zl fun a o h e=>⟨h.1,e⟩))
def spI (C:Addr)(φ:List A→(A→Prop)→Prop):Sp:=fun vs H Qc _=>∃(F:Fr) (as:List A) (Q:A→Prop) (x dx:Addr) (vs':List V) (H1:Hp),vs=.ref x::vs'∧H1 x=none∧H1 dx=none∧dx≠x∧H=upd (upd H1 dx (.own x)) x (.ins C dx [])∧
 F.H0=H1∧zE F H1∧(∀y,F.O0 y→∃u,H1 y=some u∧xZ u)∧zL F (sub (fun y=>¬F.O0 y) H1) vs' as∧φ as Q∧∀d H',Q (.dat d)→et F (.ref x) H' d→Qc .non H'
structure fV (P:Program)(w:World)(K:PySem.W.Frag)(mg:Str→Option Value)(base:Heap)(x:Str)(k:Nat)(dvs:List V)(φ:List A→(A→Prop)→Prop):Prop where
 ex:∃C f fd ps ds,mg x=some (.ref C)∧Mk K C f∧Binds K fd ps ds∧Vals dvs ds∧zr P w K mg base CX0 k f fd ps (spI C φ)
theorem oj {F:Fr}{σ:St}{H:Hp}{vs:List V}{as:List A}{QA:A→Prop}{R:VK}{φ:List A→(A→Prop)→Prop}(m:M F α σ H)(rv:zL F (Gz F α σ H) vs as)(hφ:φ as QA)
  (kk:∀d v H',QA (.dat d)→et ⟨H,Ow F α σ,F.tp⟩ v H' d→R v H') {E:XK} (x dx:Addr) (hx:H x=none) (hdx:H dx=none) (hne:dx≠x):spI C φ (.ref x::vs) (upd (upd H dx (.own x)) x (.ins C dx [])) (fun v H2=>v=.non∧R (.ref x) H2) E:=by
 refine⟨⟨H,Ow F α σ,F.tp⟩,as,QA,x,dx,vs,H,rfl,hx,hdx,hne,rfl,rfl,?_,?_,?_,hφ,fun d H' qa ra=>⟨rfl,kk d _ H' qa ra⟩⟩
 ·exact m.tp.to rfl fun _ z=>.inl z
 ·exact fun y z=>m.owEx z
 ·exact zL.to (F:=F) (F':=⟨H,Ow F α σ,F.tp⟩) (fun _ _ e=>e) rfl rv
theorem et.back {F:Fr}{σ:St}{H H1 H':Hp}{v:V}{d:PyData}(m:M F α σ H)(k1:Kz F H H1)(h:et ⟨H1,Ow F α σ,F.tp⟩ v H' d):zE F H'∧Kz F H1 H'∧AV (sub (fun x=>¬Ow F α σ x∧∀xs,H x≠some (.lst xs)) H') v d:=by
 obtain⟨t,kz,r⟩:=h
 refine⟨m.tp.re t rfl,kz,r.same (zl fun a o h e=>⟨⟨h.1,fun xs z=>h.2 xs (k1 _ _ z (m.tp.nt (ow0 h.1)))⟩,e⟩)⟩
theorem di {k:Nat}{φ:List A→(A→Prop)→Prop}{x:Str}(M':fV X.prog X.w X.K X.mg X.base x k [] φ)(hr:zG (k+1) X.A)(hg:Gl X x)(h:EvA X α (e::es) fun as=>φ as fun a=>Q a.d)
  (hdb:(x == ("__debug__":Str))=false:=by decide) (he:starEach (e::es) X.env=(false,eval e X.env)::starEach es X.env:=by rfl) (hpl:(backTo pos (starEach es X.env)).any (·.1)=false:=by rfl):EvN X α (.Call (.Name x p) (e::es) [] pos) Q:=fun F σ H R m kk=>by
 obtain⟨C,f,fd,ps,ds,hm,hk,hb,hd,G⟩:=M'.ex
 cases hd
 refine⟨_,xx hk G hr hg hm hb .nil zQ yu hdb he hpl,?_⟩
 refine h F σ H _ m fun as vs H1 q1 t1 k1 r1=>?_
 have m1:=m.kz k1 t1
 intro y dx hy hdx hne
 rw[zo0]
 refine oj m1 r1 q1 (fun d v H' qa ra=>?_) y dx hy hdx hne
 obtain⟨g1,g2,g3⟩:=ra.back m k1
 exact kk d v H' qa g1 (k1.trans g2) g3
end
structure oi (K:PySem.W.Frag)(x qual:Str)(st:Stmt)(dV:Value)(f:Addr)(fd:FuncData):Prop where
 ex:∃(oc:Value) (od:Option Addr) (kV doc pm:Value) (an:Option Addr) (cdv ct:Value) (osl:Array (Option Value)),
  fd=PySem.W.fnOf x qual (zV st) (zv st) (za st) dV kV doc pm an cdv ct∧K.lookup f=some ⟨oc,od,.func fd,osl⟩∧PySem.W.codeIn K cdv qual=true
 kp:PySem.W.keepIn K (.ref f)=true
theorem mJ {K:PySem.W.Frag}{x qual:Str}{st:Stmt}{f:Addr}{oc:Value}{od an:Option Addr}{osl:Array (Option Value)}{dV kV doc pm cdv ct:Value}(l:K.lookup f=some ⟨oc,od,.func (PySem.W.fnOf x qual (zV st) (zv st) (za st) dV kV doc pm an cdv ct),osl⟩)
  (c:PySem.W.codeIn K cdv qual=true) (k:PySem.W.keepIn K (.ref f)=true):oi K x qual st dV f (PySem.W.fnOf x qual (zV st) (zv st) (za st) dV kV doc pm an cdv ct):=⟨⟨oc,od,kV,doc,pm,an,cdv,ct,osl,rfl,l,c⟩,k⟩
section
variable {P:Program}{w:World}{K:PySem.W.Frag}{mg:Str→Option Value}{base:Heap}
theorem zc4 {qual:Str}{st:Stmt}{f C:Addr}{dV:Value}{fd:FuncData}{N:List Str}{x:Str}{k:Nat}{φ:List A→(A→Prop)→Prop}{fl:Str}{e:Expr}{p1 p2 p3:Pos}(G:oi K "__init__" qual st dV f fd)(S:zf ("self"::x::N) ["self",x] (za st))(c:Cls K C)(na:yH K C fl)
  (hb:zv st=[.Assign [.Attribute (.Name "self" p1) fl p2] e p3]) (hlen:∀as Q,φ as Q→as.length=1)
  (hbody:∀(cdv:Value) (A':Around) (outer:List Env) (s:Shared) (H:Hp) (E:XK) (as:List A) (Q:A→Prop),zG k (A'.deeper (envOfC qual (za st) s.heap.objs.size f cdv))→φ as Q→
   EvL (yQ CX0 P w K mg base ("self"::x::N) qual (za st) f cdv A' outer s H E).nox (none::as.map some++List.replicate N.length none) e fun ds=>qK ds=true∧Q (.dat (xY C [(.str fl,.list ds)])))
  (hsw:∀(cdv:Value) (A':Around) (outer:List Env) (s:Shared) (H:Hp) (E:XK),swapsWith e (some (.Attribute (.Name "self" p1) fl p2)) p3.line (yQ CX0 P w K mg base ("self"::x::N) qual (za st) f cdv A' outer s H E).nox.env=pure false)
  (hv:Vis (za st) "self"):zr P w K mg base CX0 (k+1) f fd ["self",x] (spI C φ):=by
 obtain⟨oc,od,kV,doc,pm,an,cdv,ct,osl,rfl,lk,hcd⟩:=G.ex
 refine mM lk hcd S (fun vs H Q E h=>?_) fun A' outer s H vs Qc E hr h=>?_
 ·obtain⟨F,as,Q',y,dx,vs',H1,rfl,_,_,_,_,_,_,_,rv,hφ,_⟩:=h
  rw[zk5,rv.length,hlen as _ hφ]
  rfl
 ·obtain⟨F,as,Q',y,dx,vs',H1,rfl,hy,hdx,hne,rfl,rfl,t,o,rv,hφ,kk⟩:=h
  have hl:=rv.length
  have hl1:=hlen as _ hφ
  rw[hb]
  refine⟨_,(show PSs _ _ _ from (zp (uZ (X:=(yQ CX0 P w K mg base ("self"::x::N) qual (za st) f cdv A' outer s (upd (upd F.H0 dx (.own y)) y (.ins C dx [])) E).nox) (yx (i:=0) rfl hv) ze (hsw cdv A' outer s _ E))).nox),?_⟩
  let F2:Fr:=⟨F.H0,fun z=>F.O0 z∨z=y∨z=dx,F.tp⟩
  have s1:zq F.H0 (upd (upd F.H0 dx (.own y)) y (.ins C dx [])):=fun a u q=>by
   rw[zg (zk q hy),zg (zk q hdx)];exact q
  have noy:¬F.O0 y:=fun z=>by obtain⟨u,hu,_⟩:=o y z;rw[hy] at hu;cases hu
  have nodx:¬F.O0 dx:=fun z=>by obtain⟨u,hu,_⟩:=o dx z;rw[hdx] at hu;cases hu
  have t2:zE F2 (upd (upd F.H0 dx (.own y)) y (.ins C dx [])):=(t.same s1).to rfl fun _ z=>.inl z
  -- the names of the body
  have g:∀{i:Nat} {a:A},(none::as.map some++List.replicate N.length none:Ev)[i]?=some (some a)→∃j,i=j+1∧as[j]?=some a:=fun {i a} h=>by
   cases i with
   |zero=>simp at h
   |succ j=>
    refine⟨j,rfl,?_⟩
    have h':(as.map some++List.replicate N.length none:Ev)[j]?=some (some a):=by simpa using h
    rcases Nat.lt_or_ge j as.length with z|z
    ·rw[zl4 (by rw[zj1];exact z),zl9,zm9] at h'
     obtain⟨b,h1,h2⟩:=h'
     cases h2;exact h1
    ·rw[zl6 (by rw[zj1];exact z),zq0] at h'
     split at h'<;>cases h'
  have at':∀{vs:List V} {as:List A} {i:Nat} {a:A},zL F (sub (fun x=>¬F.O0 x) F.H0) vs as→as[i]?=some a→∃v,vs[i]?=some v∧kg F (sub (fun x=>¬F.O0 x) F.H0) v a:=by
   intro vs as i a h
   induction h generalizing i with
   |nil=>intro e;simp at e
   |cons h r ih=>
    intro e
    cases i with
    |zero=>simp at e;subst e;exact⟨_,rfl,h⟩
    |succ i=>obtain⟨v,h1,h2⟩:=ih (by simpa using e);exact⟨v,by simpa using h1,h2⟩
  have gv:∀{j:Nat} {v:V},vs'[j]?=some v→(L2.start ("self"::x::N) (.ref y::vs'))[j+1]?=some (some v):=fun {j v} h=>by
   have hj:j<vs'.length:=(zj6.mp h).1
   unfold L2.start
   rw[zl4 (by rw[zj1,zk5];omega),zl9,List.getElem?_cons_succ,h];rfl
  have no:∀(i:Nat) a,(none::as.map some++List.replicate N.length none:Ev)[i]?=some (some a)→(∃d,a=.dat d)∨a=.tape:=fun i a z=>by
   obtain⟨j,_,hj⟩:=g z
   obtain⟨v,_,h⟩:=at' rv hj
   cases a with
   |dat d=>exact .inl ⟨d,rfl⟩
   |tape=>exact .inr rfl
   |_=>exact h.elim
  have gs:zq (sub (fun x=>¬F.O0 x) F.H0) (Gz F2 (none::as.map some++List.replicate N.length none) (L2.start ("self"::x::N) (.ref y::vs')) (upd (upd F.H0 dx (.own y)) y (.ins C dx []))):=fun a u q=>by
   obtain⟨z1,z2⟩:=zh q
   refine zK ?_ (s1 _ _ z2)
   rintro ((z|z|z)|⟨i,b,s,e,_,f⟩)
   ·exact z1 z
   ·rw[z,hy] at z2;cases z2
   ·rw[z,hdx] at z2;cases z2
   ·rcases no i b e with ⟨d,rfl⟩|rfl
    ·exact f.elim
    ·exact f.elim
  have m2:M F2 (none::as.map some++List.replicate N.length none) (L2.start ("self"::x::N) (.ref y::vs')) (upd (upd F.H0 dx (.own y)) y (.ins C dx [])):=by
   refine⟨by unfold L2.start;simp[hl,hl1],fun i a s e1 e2=>?_,fun i j a b s t x e1 _ _ _ f=>?_,fun i r q z=>(by rcases no i _ z with ⟨d,w⟩|w<;>cases w),t2,fun z u h _=>s1 z u h,fun z hz=>?_⟩
   ·obtain⟨j,rfl,hj⟩:=g e1
    obtain⟨v,h1,h2⟩:=at' rv hj
    rw[gv h1] at e2;cases e2
    rcases no _ a e1 with ⟨d,rfl⟩|rfl
    ·exact⟨v,rfl,AV.same gs h2⟩
    ·obtain⟨t',b,c,h3,rfl⟩:=h2
     exact⟨t',b,c,h3,rfl⟩
   ·rcases no i a e1 with ⟨d,rfl⟩|rfl
    ·exact f.elim
    ·exact f.elim
   ·rcases hz with q|q|q
    ·obtain⟨u,hu,hn⟩:=o z q
     exact⟨u,s1 _ _ hu,hn⟩
    ·exact⟨_,by rw[q];exact zj,fun _ q=>by cases q⟩
    ·exact⟨_,by rw[q,zg hne];exact zj,fun _ q=>by cases q⟩
  refine hbody cdv A' outer s _ E as Q' hr hφ F2 _ _ _ m2 fun d v H2 qd t3 k3 r3=>?_
  obtain⟨l,xs,rfl,hl0,hl2,avl⟩:=r3
  obtain⟨nol,qd⟩:=qd
  have nly:l≠y:=fun z=>by rw[z,zj] at hl0;cases hl0
  have nldx:l≠dx:=fun z=>by rw[z,zg hne,zj] at hl0;cases hl0
  have hl00:F.H0 l=none:=by rw[zg nly,zg nldx] at hl0;exact hl0
  have nol0:¬F.O0 l:=fun z=>by obtain⟨u,hu,_⟩:=o l z;rw[hl00] at hu;cases hu
  have nty:NT F2 y:=t.nt noy
  have hy2:H2 y=some (.ins C dx []):=k3 _ _ zj nty
  refine⟨.ref y,rfl,y,C,dx,[],rfl,hy2,c,na,by show 0<1000;decide,?_⟩
  refine kk _ _ qd ⟨(t.re t3 rfl).updO noy (kj hy2),fun z u h n=>?_,?_⟩
  ·rw[zg (zk h hy)]
   exact k3 _ _ (s1 _ _ h) n
  ·refine AV.ins (zK ⟨noy,fun xs z=>by rw[hy] at z;cases z⟩ zj) (.cons (.lst (zK ⟨nol0,fun xs z=>by rw[hl00] at z;cases z⟩ (by rw[zg nly];exact hl2)) ?_) .nil)
   refine avl.noL (fun a u hno z=>?_) nol
   obtain⟨z1,z2⟩:=zh z
   have na:a≠y:=fun w=>z1.1 (.inl (.inr (.inl w)))
   refine zK ⟨fun w=>z1.1 (.inl (.inl w)),fun xs w=>?_⟩ (by rw[zg na];exact z2)
   have:H2 a=some (.lst xs):=k3 _ _ (s1 _ _ w) (t.nt fun w=>z1.1 (.inl (.inl w)))
   rw[z2] at this
   cases this
   exact hno trivial
end
section
variable {X:Cx}{α:Ev}{e e':Expr}{pos:Pos}{E:yi}{sts:List Stmt}
end
section
variable {X:Cx}{α:Ev}{tg:Expr}{p pos:Pos}{a:Expr}
end
section
variable {X:Cx}{α:Ev}{p pos:Pos}{a:Expr}{g:Str}{Q:PyData→Prop}
def scV :PyData→Option V
 |.none=>some .non
 |.bool b=>some (.bl b)
 |.int i=>some (.int i)
 |.str x=>some (.str x)
 |_=>Option.none
end
section
variable {X:Cx}{α:Ev}{p pos:Pos}{a b:Expr}{g:Str}{Q:PyData→Prop}
theorem xr (h:EvD X α a fun x=>EvD X α b fun y=>∃i j,x=.str i∧y=.str j∧i.length+j.length≤sizeLine∧Q (.str (i++j))):EvD X α (.BinOp a .Add b pos) Q:=by
 refine uP (f:=tOp _) (yV pU ze ze) (fun _ _ _=>Iff.rfl) (h.imp fun x h=>h.imp fun y ⟨i,j,e1,e2,hl,hq⟩=>?_)
 subst e1 e2
 intro F σ H vx vy R m rx ry k
 cases rx.str_inv;cases ry.str_inv
 exact⟨i,j,rfl,rfl,hl,k _ _ H hq m.tp Kz.refl (.str _)⟩
def vO :PyData→Bool
 |.none=>true
 |.bool _=>true
 |.int _=>true
 |.str _=>true
 |_=>false
theorem rZ {H:Hp}{v:V}{d:PyData}(h:AV H v d)(f:vO d=true):wV v=true∧scV d=some v:=by
 cases h<;>first|exact⟨rfl,rfl⟩|cases f
theorem ur {H:Hp}:∀{xs:List V} {ds:List PyData},AVs H xs ds→ds.all vO=true→xs.all wV=true∧ds.map scV=xs.map some
 |_,_,.nil,_=>⟨rfl,rfl⟩
 |_,_,.cons h r,f=>by
  rw[zv9,zk3] at f
  obtain⟨h1,h2⟩:=rZ h f.1
  obtain⟨h3,h4⟩:=ur r f.2
  exact⟨by rw[zv9,h1,h3];rfl,by rw[zm8,zm8,h2,h4]⟩
def inD (x:PyData)(ds:List PyData):Bool:=ds.any fun y=>match scV y,scV x with
 |some u,some v=>eqV u v
 |_,_=>false
theorem rh {v:V}{x:PyData}(hx:scV x=some v):∀{xs:List V} {ds:List PyData},ds.map scV=xs.map some→inV v xs=inD x ds
 |[],[],_=>rfl
 |[],_::_,e=>by cases e
 |_::_,[],e=>by cases e
 |u::xs,d::ds,e=>by
  rw[zm8,zm8] at e
  injection e with e1 e2
  have ih:=rh hx e2
  unfold inV inD at ih ⊢
  rw[zw0,zw0,ih,e1,hx]
theorem aI {neg:Bool}{x:PyData}{ds:List PyData}(fx:vO x=true)(fs:ds.all vO=true):Cmp (rIn X.K neg) x (.list ds) (if neg then !inD x ds else inD x ds):=fun p H vx vy R rx ry h=>by
 obtain⟨ad,xs,rfl,g1,g2⟩:=ry.lst_inv
 obtain⟨f1,s1⟩:=rZ rx fx
 obtain⟨f2,s2⟩:=ur g2 fs
 refine⟨ad,xs,rfl,.inl (SqL.of (zh g1).2),f1,f2,?_⟩
 rw[rh s1 s2]
 exact h
theorem fQ {neg:Bool}{x:PyData}{ds:List PyData}(fx:vO x=true)(fs:ds.all vO=true):Cmp (rIn X.K neg) x (.tuple ds) (if neg then !inD x ds else inD x ds):=fun p H vx vy R rx ry h=>by
 obtain⟨ad,xs,rfl,g1,g2⟩:=ry.tup_inv
 obtain⟨f1,s1⟩:=rZ rx fx
 obtain⟨f2,s2⟩:=ur g2 fs
 refine⟨ad,xs,rfl,.inr (SqT.of (zh g1).2),f1,f2,?_⟩
 rw[rh s1 s2]
 exact h
theorem cA {Q:Bool→Prop}(h:EvD X α a fun x=>EvD X α b fun y=>∃ds,(y=.list ds∨y=.tuple ds)∧vO x=true∧ds.all vO=true∧Q (inD x ds))(hm:behindInMarks .In b=false:=by rfl):EvT X α (.Compare a [.In] [b] pos) Q:=
 xP lL hm (h.imp fun x h=>h.imp fun y ⟨ds,e,f1,f2,q⟩=>⟨inD x ds,by rcases e with rfl|rfl;exact aI (neg:=false) f1 f2;exact fQ (neg:=false) f1 f2,q⟩)
end
section
variable {X:Cx}{α:Ev}{p pos:Pos}{a b:Expr}{Q:PyData→Prop}
end
section
variable {X:Cx}{α:Ev}{a e:Expr}{pos p2 p3 p4:Pos}{n1:Nat}{te:TE}
end
section
variable {X:Cx}{pins:List (Addr×Obj)}{σ:St}{H:Hp}{s:Shared}
end
section
variable {X:Cx}{α:Ev}{p q pos:Pos}{a b:Expr}
end
section
variable {X:Cx}{α:Ev}{p pos:Pos}{a b:Expr}{Q:PyData→Prop}
end
open PySem.W SortA
section
variable {P:Program}{w:World}{K:PySem.W.Frag}{mg:Str→Option Value}{base:Heap}
end
section
variable {X:Cx}{α:Ev}{Q:PyData→Prop}{a b:Expr}{pos:Pos}
end
open PySem (IsZip)
section
variable {prog:Program}{w:World}{A:Around}{E:Value→Shared→Prop}{s:Shared}
abbrev z3 (n:Nat):List Addr:=[(n:Nat),(n+1:Nat),(n+2:Nat),(n+3:Nat),(n+4:Nat),(n+5:Nat)]
end
section
variable {X:Cx}{pins:List (Addr×Obj)}{σ:St}{H:Hp}{s:Shared}
end
section
variable {prog:Program}{w:World}{A:Around}{E:Value→Shared→Prop}{s:Shared}
end
section
variable {X:Cx}{pins:List (Addr×Obj)}{σ:St}{H:Hp}{s:Shared}
end
section
variable {X:Cx}{pins:List (Addr×Obj)}{σ:St}{H:Hp}{s:Shared}
variable {a b c:Expr}{p p0 pos pos2:Pos}
end
section
variable {X:Cx}{α:Ev}{a b c:Expr}{p p0 pos pos2:Pos}
end
section
variable {κ:Type}[DecidableEq κ]
def tH (kvs:List (κ×V))(k:κ):Option V:=(kvs.find? fun kv=>decide (kv.1=k)).map (·.2)
theorem uY {p:κ×V}{r:List (κ×V)}{k:κ}(e:p.1=k):tH (p::r) k=some p.2:=by simp[tH,zr4,e]
theorem uW {p:κ×V}{r:List (κ×V)}{k:κ}(e:¬p.1=k):tH (p::r) k=tH r k:=by simp[tH,zr4,e]
theorem KV.val {kvs:List (κ×V)}{vs:List (κ×Value)}(r:KV kvs vs)(k:κ):wU (tH kvs k) (valueAt vs k):=by
 unfold KV at r
 induction r with
 |nil=>exact True.intro
 |@cons p q ps qs h t ih=>
  obtain⟨h1,h2⟩:=h
  by_cases e:p.1=k
  ·have e':q.1=k:=h1.symm.trans e
   have b:valueAt (q::qs) k=some q.2:=by simp[valueAt,zr4,e']
   rw[uY e,b];exact h2
  ·have e':¬q.1=k:=fun z=>e (h1.trans z)
   have b:valueAt (q::qs) k=valueAt qs k:=by simp[valueAt,zr4,e']
   rw[uW e,b];exact ih
end
theorem dZ {P:Program}{w:World}{k:Key}{u:Value}(r:RelV (kV k) u):(yE P w).is k u=true:=by
 cases k with
 |inl i=>obtain⟨t,e⟩:=(show ∃t,u=Value.int i t from r);subst e;exact qo P w i t
 |inr x=>obtain⟨t,e⟩:=(show ∃t,u=Value.str x t from r);subst e;exact qB P w x t
theorem tW {P:Program}{w:World}:∀{ks:List Key} {us:List Value},Vals (ks.map kV) us→ItemsAre (yE P w) ks us
 |[],_,r=>by rw[List.map_nil] at r;cases r;exact .nil
 |k::ks,_,r=>by
  rw[zm8] at r
  cases r with
  |cons h t=>exact .cons (dZ h) (tW t)
abbrev KT (H:Hp):List (List Key×V)→List (List Key×Addr×Value)→Prop:=Paired fun p q=>p.1=q.1∧H q.2.1=some (.tup (p.1.map kV))∧RelV p.2 q.2.2
theorem KT.val {H:Hp}{kvs:List (List Key×V)}{xs:List (List Key×Addr×Value)}(r:KT H kvs xs)(k:List Key):wU (tH kvs k) ((atKey xs k).map (·.2)):=by
 induction r with
 |nil=>exact True.intro
 |@cons p q ps qs h t ih=>
  obtain⟨h1,_,h2⟩:=h
  by_cases e:p.1=k
  ·have e':q.1=k:=h1.symm.trans e
   have b:atKey (q::qs) k=some q.2:=by simp[atKey,zr4,e']
   rw[uY e,b];exact h2
  ·have e':¬q.1=k:=fun z=>e (h1.trans z)
   have b:atKey (q::qs) k=atKey qs k:=by simp[atKey,zr4,e']
   rw[uW e,b];exact ih
section
variable {P:Program}{w:World}{H:Hp}{h:Heap}{a:Addr}
theorem cn {u:HO}(ok:HOk P w H h)(e:Rd H a u):zY P w H h a u:=e.ok ok
theorem cp {kvs:List (Key×V)}(ok:HOk P w H h)(e:Rd H a (.dK kvs)):kvs.length≤sizeLine∧(a == sysModules)=false∧∃vs,KV kvs vs∧h.DictOf (yE P w) a vs:=
 show zY P w H h a (.dK kvs) from cn ok e
theorem iJ {ks:List Key}(ok:HOk P w H h)(e:H a=some (.tup (ks.map kV))):(tupleKind (yE P w)).is h ks a:=by
 obtain⟨_,its,r,o,h1,h2,n,h3⟩:=(show zY P w H h a (.tup (ks.map kV)) from ok a _ e)
 exact⟨o,its.toArray,n,h1,h2,h3,by simpa using tW r⟩
theorem dX {kvs:List (List Key×V)}(ok:HOk P w H h)(e:Rd H a (.dT kvs)):kvs.length≤sizeLine∧(a == sysModules)=false∧
  ∃xs,KT H kvs xs∧h.DictOfH (tupleKind (yE P w)) a xs:=by
 obtain⟨z,y,xs,r,o,es,ep,h1,h2,h3,h4,h5⟩:=(show zY P w H h a (.dT kvs) from cn ok e)
 refine⟨z,y,xs,r,o,es,ep,h1,h2,h3,h4,fun x hx=>?_,h5⟩
 have all:∀{l:List (List Key×V)} {m:List (List Key×Addr×Value)},KT H l m→∀x∈m,(tupleKind (yE P w)).is h x.1 x.2.1:=by
  intro l m q
  induction q with
  |nil=>intro x hx;exact nomatch hx
  |@cons p q ps qs hq t ih=>
   intro x hx
   rcases zj5.mp hx with e|hx
   ·subst e
    exact iJ ok (by rw[←hq.1];exact hq.2.1)
   ·exact ih x hx
 exact all r x hx
end
def cY (H:Hp)(a:Addr)(y:V)(r:Option V):Prop:=
 (∃kvs k,Rd H a (.dK kvs)∧y=kV k∧r=tH kvs k)∨∃kvs k b,Rd H a (.dT kvs)∧y=.ref b∧H b=some (.tup (k.map kV))∧r=tH kvs k
section
variable {X:Cx}{pins:List (Addr×Obj)}{σ:St}{H:Hp}{s:Shared}{a:Addr}{y v:V}{u r:Value}{o:Option V}{A:Around}{E:Value→Shared→Prop}
theorem kr {Q:Value→Shared→Prop}(hu:A.units+1<cLine)(I:Inv X pins σ H s)(g:cY H a y (some v))(ry:RelV y u)(h:∀w' s',Inv X pins σ H s'→RelV v w'→Q w' s'):
  wpAny (model X.prog X.w) A (getItem (.ref a) u) Q E s:=by
 rcases g with ⟨kvs,k,e,ey,l⟩|⟨kvs,k,b,e,ey,eb,l⟩
 ·subst ey
  obtain⟨z,hd,vs,rel,dd⟩:=cp I.hok e
  obtain⟨w',hw,rw'⟩:=wU.some_of (v:=v) (o:=valueAt vs k) (by rw[l];exact rel.val k)
  exact wpAny_getItem_of (dZ ry) dd.mapOf hw (h w' _ (I.tok _) rw')
 ·subst ey
  cases (show u=Value.ref b from ry)
  obtain⟨z,hd,xs,rel,dd⟩:=dX I.hok e
  obtain⟨w',hw,rw'⟩:=wU.some_of (v:=v) (o:=(atKey xs k).map (·.2)) (by rw[l];exact rel.val k)
  obtain⟨p,hp,hp2⟩:=zm9.mp hw
  refine wpAny_getItem_heap (tupleKind_room_in1 hu) (iJ I.hok eb) dd hp ?_
  rw[hp2]
  exact h w' _ (I.tok _) rw'
end
section
variable {X:Cx}{pins:List (Addr×Obj)}{σ:St}{H:Hp}{s:Shared}{a:Addr}{kvs:List (Key×V)}{k:Key}{u:Value}{A:Around}{E:Value→Shared→Prop}
end
theorem pj {X:Cx}{pins:List (Addr×Obj)}{σ:St}{H:Hp}{s:Shared}{a:Addr}{y:V}{o:Option V}(I:Inv X pins σ H s)(g:cY H a y o):s.TypeIs (.ref a) "dict":=by
 rcases g with ⟨kvs,k,e,_,_⟩|⟨kvs,k,b,e,_,_,_⟩
 ·obtain⟨_,_,vs,_,dd⟩:=cp I.hok e
  exact dd.typeIs
 ·obtain⟨_,_,xs,_,dd⟩:=dX I.hok e
  exact dd.typeIs
section
variable {X:Cx}{o i e value:Expr}{pos pos' tpos:Pos}{td ty tv:TE}
end
section
variable {X:Cx}{pos:Pos}
end
section
variable {X:Cx}{pins:List (Addr×Obj)}{σ:St}{H:Hp}{s:Shared}{a:Addr}{y d:V}{u r:Value}{o:Option V}{A:Around}{E:Value→Shared→Prop}
end
section
variable {X:Cx}{o e f:Expr}{apos cpos:Pos}{td ty tx:TE}
end
section
variable {X:Cx}{pins:List (Addr×Obj)}{σ:St}{H:Hp}{s:Shared}{a:Addr}{kvs:List (Key×V)}{A:Around}{E:Value→Shared→Prop}
end
section
variable {X:Cx}{pins:List (Addr×Obj)}{σ:St}{H:Hp}{s:Shared}{a:Addr}{y:V}{u:Value}{A:Around}{E:Value→Shared→Prop}
end
def kEq :PyData→Key→Bool
 |.int i,.inl j=>decide (i=j)
 |.str x,.inr y=>decide (x=y)
 |_,_=>false
theorem jn (k j:Key):kEq (ku k) j=decide (k=j):=by
 cases k<;>cases j<;>simp[kEq,ku]
def dW :List (PyData×PyData)→Key→Option PyData
 |[],_=>none
 |(p,d)::r,k=>if kEq p k=true then some d else dW r k
theorem AVk.get {H:Hp}:∀{kvs:List (Key×V)} {ds:List (PyData×PyData)} {k:Key} {d:PyData},AVk H kvs ds→dW ds k=some d→∃v,tH kvs k=some v∧AV H v d
 |_,_,k,d,.nil,e=>by cases e
 |_,_,k,d,.cons (k:=j) h r,e=>by
  unfold dW at e
  rw[jn] at e
  by_cases z:j=k
  ·rw[zm0 z,if_pos rfl] at e
   cases e
   exact⟨_,uY z,h⟩
  ·rw[zl5 z,if_neg (by decide)] at e
   rw[uW z]
   exact AVk.get r e
theorem eZ {H:Hp}{v:V}{k:Key}(h:AV H v (ku k)):v=kV k:=by
 cases k with
 |inl i=>exact h.int_inv
 |inr x=>exact h.str_inv
theorem AV.dk_inv {H:Hp}{v:V}{ds:List (PyData×PyData)}(h:AV H v (eW ds)):∃a o kvs,v=.ref a∧H a=some (.frz o (.dK kvs))∧AVk H kvs ds:=by
 generalize e:eW ds=d at h
 cases h with
 |dk h1 h2=>cases e;exact⟨_,_,_,rfl,h1,h2⟩
 |_=>cases e
section
variable {X:Cx}{pins:List (Addr×Obj)}{σ:St}{H:Hp}{s:Shared}{l:Addr}{kvs:List (Key×V)}
end
section
variable {X:Cx}{e:Expr}{sts:List Stmt}
end
section
variable {X:Cx}{α:Ev}{e a b:Expr}{pos p:Pos}{Q:PyData→Prop}
end
section
variable {X:Cx}{α:Ev}{e a b:Expr}{pos p:Pos}{Q:PyData→Prop}
end
section
variable {X:Cx}{tg:Expr}
end
section
variable {X:Cx}{α:Ev}{e a b tg:Expr}{pos p:Pos}{Q:List PyData→Prop}
end
mutual
def ltD :PyData→PyData→Option Bool
 |.int a,.int b=>some (decide (a<b))
 |.str a,.str b=>some (decide (a.cps.toList<b.cps.toList))
 |.tuple xs,.tuple ys=>ze9 xs ys
 |_,_=>none
def ze9 :List PyData→List PyData→Option Bool
 |[],[]=>some false
 |[],_::_=>some true
 |_::_,[]=>some false
 |x::xs,y::ys=>if PyData.eqv x y=true then ze9 xs ys else ltD x y
end
section
open PySem.SeqAt
open PySem.AutoSeq1 (wpAny_loadPart')
open PySem.MeetsSeq PySem.MeetsSeq2 PySem.MeetsSeq3
end
section
variable {prog:Program}{w:World}{A:Around}{R:Result→Shared→Prop}{it:Addr}{fp wr:List Addr}{m:Nat}{P:Nat→Value→Prop}{St:Nat→Heap→Prop}
end
section
variable {prog:Program}{w:World}{A:Around}{E:Value→Shared→Prop}{s:Shared}
end
section
variable {X:Cx}{α:Ev}{e:Expr}{pos p:Pos}{Q:PyData→Prop}
end
section
variable {prog:Program}{w:World}{A:Around}{E:Value→Shared→Prop}{s:Shared}{it l:Addr}{items:Array Value}
end
section
variable {X:Cx}{α:Ev}{a e c:Expr}{p p0 pos pos2:Pos}{Q:List PyData→Prop}
end
def lU (Q:PyData→Prop):List PyData→Prop
 |[]=>True
 |d::r=>Q d∧lU Q r
theorem lU.mem {Q:PyData→Prop}:∀{ds:List PyData},lU Q ds→∀d∈ds,Q d
 |[],_,d,h=>by cases h
 |x::r,h,d,hd=>by
  rcases zj5.mp hd with rfl|hd
  ·exact h.1
  ·exact lU.mem h.2 d hd
theorem jk {x:PyData}{ds:List PyData}{v:Int}{Q:PyData→Prop}(P:PyData→Prop)(hx:tj x=some ds)(h0:0≤v)(h1:v<ds.length)(h:lU P ds)(k:∀d,P d→Q d):∃ds i d,tj x=some ds∧PyData.int v=.int i∧atI ds i=some d∧Q d:=by
 obtain⟨d,hd,e⟩:=vQ h0 h1
 exact⟨ds,v,d,hx,rfl,e,k d (h.mem d hd)⟩
section
variable {X:Cx}{α:Ev}{e a b:Expr}{pos p:Pos}{E:yi}{rest:List Stmt}
end
def aL :R2:=fun x y H R=>rEq x y H R∨aT x y H R
def zc7 :R2:=fun x y H R=>rNe x y H R∨zd9 x y H R
theorem jP {X:Cx}(hu:X.A.units+64<cLine):OpR X (compareOp .Eq) aL:=fun pins s σ H x y v u Q I rx ry h=>h.elim (fun h=>we _ _ _ _ _ _ _ _ _ I rx ry h) fun h=>wA hu _ _ _ _ _ _ _ _ _ I rx ry h
theorem jX {X:Cx}(hu:X.A.units+64<cLine):OpR X (compareOp .NotEq) zc7:=fun pins s σ H x y v u Q I rx ry h=>h.elim (fun h=>ze3 _ _ _ _ _ _ _ _ _ I rx ry h) fun h=>cH hu _ _ _ _ _ _ _ _ _ I rx ry h
theorem eN {i j:Str}:Cmp rNe (.str i) (.str j) (!decide (i=j)):=fun p H vx vy R rx ry h=>by
 cases rx.str_inv;cases ry.str_inv
 refine⟨rfl,?_⟩
 rw[show decide (V.str i=V.str j)=decide (i=j) by simp]
 exact h
def tK (x y:PyData)(Q:Bool→Prop):Prop:=∃k,Cmp aL x y k∧Cmp zc7 x y (!k)∧Q k
theorem ej {i j:Int}{Q:Bool→Prop}(h:Q (decide (i=j))):tK (.int i) (.int j) Q:=⟨_,fun p H vx vy R rx ry z=>.inl (rH p H vx vy R rx ry z),fun p H vx vy R rx ry z=>.inl (fU p H vx vy R rx ry z),h⟩
theorem dy {i j:Str}{Q:Bool→Prop}(h:Q (decide (i=j))):tK (.str i) (.str j) Q:=⟨_,fun p H vx vy R rx ry z=>.inl (mP p H vx vy R rx ry z),fun p H vx vy R rx ry z=>.inl (eN p H vx vy R rx ry z),h⟩
theorem eqk {x y:PyData}{Q:Bool→Prop}(s1:SeqAt.shaped x=true)(s2:SeqAt.shaped y=true)(d1:x.hasDict=false)(d2:y.hasDict=false)(h:Q (PyData.eqv x y)):tK x y Q:=
 ⟨_,fun p H vx vy R rx ry z=>.inr ⟨x,y,(rx.dv d1).same xm,(ry.dv d2).same xm,s1,s2,z⟩,fun p H vx vy R rx ry z=>.inr ⟨x,y,(rx.dv d1).same xm,(ry.dv d2).same xm,s1,s2,z⟩,h⟩
theorem gr {i j:Bool}{Q:Bool→Prop}(h:Q (i == j)):tK (.bool i) (.bool j) Q:=eqk rfl rfl rfl rfl (by simpa[PyData.eqv] using h)
section
variable {X:Cx}{α:Ev}{a b:Expr}{pos:Pos}{Q:PyData→Prop}{T:Bool→Prop}
theorem bc (hu:X.A.units+64<cLine)(h:EvD X α a fun x=>EvD X α b fun y=>tK x y fun k=>Q (.bool k)):EvD X α (.Compare a [.Eq] [b] pos) Q:=oP (jP hu) (zC _) (h.imp fun x h=>h.imp fun y ⟨k,e,_,q⟩=>⟨k,e,q⟩)
theorem hZ (hu:X.A.units+64<cLine)(h:EvD X α a fun x=>EvD X α b fun y=>tK x y fun k=>Q (.bool (!k))):EvD X α (.Compare a [.NotEq] [b] pos) Q:=oP (jX hu) (zC _) (h.imp fun x h=>h.imp fun y ⟨k,_,e,q⟩=>⟨!k,e,q⟩)
theorem ax (hu:X.A.units+64<cLine)(h:EvD X α a fun x=>EvD X α b fun y=>tK x y T):EvT X α (.Compare a [.Eq] [b] pos) T:=xP (jP hu) (zC _) (h.imp fun x h=>h.imp fun y ⟨k,e,_,q⟩=>⟨k,e,q⟩)
theorem bQ (hu:X.A.units+64<cLine)(h:EvD X α a fun x=>EvD X α b fun y=>tK x y fun k=>T (!k)):EvT X α (.Compare a [.NotEq] [b] pos) T:=xP (jX hu) (zC _) (h.imp fun x h=>h.imp fun y ⟨k,_,e,q⟩=>⟨!k,e,q⟩)
theorem su {k:Bool}{p q:Prop}(e:k=true)(h:p):if k=true then p else q:=by rw[if_pos e];exact h
theorem tw {k:Bool}{p q:Prop}(e:k=false)(h:q):if k=true then p else q:=by rw[if_neg (by rw[e];decide)];exact h
variable {E:yi}{s t:List Stmt}
theorem ym {k:Bool}(e:k=true)(h:SvS X α s E):SvS X α (if k=true then s else t) E:=by rw[if_pos e];exact h
theorem yv {k:Bool}(e:k=false)(h:SvS X α t E):SvS X α (if k=true then s else t) E:=by rw[if_neg (by rw[e];decide)];exact h
end
section
variable {X:Cx}{α:Ev}{a b:Expr}{pos:Pos}{Q:PyData→Prop}{T:Bool→Prop}
def aU :R2:=fun x y H Q=>∃a v,x=.ref a∧cY H a y (some v)∧Q v H
theorem dR (hu:X.A.units+1<cLine):IxR X aU:=fun value slice pins s σ H x y v u Q I rx ry h hs=>by
 obtain⟨a,z,rfl,g,q⟩:=h
 cases rx
 exact tail_any (pj I g) PySem.F.slot_dict_getitem.lookup (kr hu I g ry fun w' s' I' r'=>⟨z,H,I',r',q⟩) hs
def dU (x y:PyData)(Q:PyData→Prop):Prop:=(∃ds i d,tj x=some ds∧y=.int i∧atI ds i=some d∧Q d)∨∃ds k d,x=eW ds∧y=ku k∧dW ds k=some d∧Q d
theorem ixk {x y:PyData}{ds:List PyData}{i:Int}{d:PyData}(h1:tj x=some ds)(h2:y=.int i)(h3:atI ds i=some d)(h:Q d):dU x y Q:=.inl ⟨ds,i,d,h1,h2,h3,h⟩
theorem jd {x:PyData}{ds:List PyData}{v:Int}(P:PyData→Prop)(hx:tj x=some ds)(h0:0≤v)(h1:v<ds.length)(h:lU P ds)(k:∀d,P d→Q d):dU x (.int v) Q:=.inl (jk P hx h0 h1 h k)
theorem oE (hu:X.A.units+1<cLine)(hs:vt b)(h:EvD X α a fun x=>EvD X α b fun y=>dU x y Q):EvD X α (.Subscript a b pos) Q:=by
 refine uP (f:=tOp (fun x y H Q=>rIx X.K x y H Q∨aU x y H Q)) (zX (bu.or (dR hu)) ze ze hs) (fun _ _ _=>Iff.rfl) (h.imp fun x h=>h.imp fun y h=>?_)
 intro F σ H vx vy R m rx ry k
 rcases h with ⟨ds,i,d,e1,rfl,hat,hq⟩|⟨ds,kk,d,rfl,rfl,hv,hq⟩
 ·cases ry.int_inv
  cases x with
  |list ds'=>
   cases e1
   obtain⟨a,xs,rfl,h1,h2⟩:=rx.lst_inv
   obtain⟨v,hv,av⟩:=h2.atI hat
   exact .inl (.inl ⟨a,xs,i,v,rfl,rfl,SqL.of (zh h1).2,hv,k d v H hq m.tp Kz.refl av⟩)
  |tuple ds'=>
   cases e1
   obtain⟨a,xs,rfl,h1,h2⟩:=rx.tup_inv
   obtain⟨v,hv,av⟩:=h2.atI hat
   exact .inl (.inr (.inl ⟨a,xs,i,v,rfl,rfl,SqT.of (zh h1).2,hv,k d v H hq m.tp Kz.refl av⟩))
  |_=>cases e1
 ·obtain⟨a,o,kvs,rfl,g1,g2⟩:=rx.dk_inv
  obtain⟨v,w1,w2⟩:=g2.get hv
  cases eZ ry
  exact .inr ⟨a,v,rfl,.inl ⟨kvs,kk,.inr ⟨o,(zh g1).2⟩,rfl,w1.symm⟩,k d v H hq m.tp Kz.refl w2⟩
end
theorem zG.one {k:Nat}{A:Around}(h:zG k A):A.units+1<cLine:=by have:=h.units;omega
section
variable {X:Cx}{α:Ev}{E:yi}{rest body:List Stmt}{e c tg iter:Expr}{pos p:Pos}
def freeOk (xs:Scope)(y:Str×NameKind):Bool:=match y.2 with
 |.free=>match xs.names.lookup y.1 with
  |some .cell=>true
  |some .free=>true
  |_=>false
 |_=>true
theorem qh {xs scope:Scope}(h:scope.names.all (freeOk xs)=true):∀y∈scope.names,y.2=.free→xs.names.lookup y.1=some .cell∨xs.names.lookup y.1=some .free:=fun y hy e=>by
 have:=zq2.mp h y hy
 unfold freeOk at this
 rw[e] at this
 cases z:xs.names.lookup y.1 with
 |none=>rw[z] at this;cases this
 |some k=>
  rw[z] at this
  cases k<;>first|exact .inl rfl|exact .inr rfl|cases this
theorem pS (N:List Str)(imp:List (Option Nat))(pat:Pat){scope:Scope}{elt:Expr}{ifs:List Expr}{Q:List PyData→Prop}(h:EvI X α tg iter fun ds=>ds.length≤1000∧xi (fun C s2 H2 fp=>X.comp N scope C s2 H2 fp) pat ifs elt (yC imp α) ds [] Q)
  (nd:N.Nodup:=by decide +kernel) (h1:scope.kind=.function:=by rfl) (h2:∀y∈scope.names,y.2≠.cell:=by decide +kernel) (h3:∀y∈scope.names,y.2=.local→scope.names.lookup y.1=some .local:=by decide +kernel) (h4:scope.names.all (freeOk X.env.scope)=true:=by rfl) (h5:imp.length=N.length:=by rfl)
  (h6:((imp.zip N).all fun p=>match p.1 with|none=>true|some j=>X.N[j]? == some p.2&&scope.names.lookup p.2 == some .free)=true:=by rfl) (hfree:pat.free (yC imp α)=true:=by rfl)
  (hg:∀C s2 H2 fp,N.Nodup→PG (X.comp N scope C s2 H2 fp) tg (pN X.K pat):=by intro _ _ _ _ hnd;first|exact yg hnd rfl (Or.inl rfl)|exact wk rfl rfl (by repeat (first|exact vp|refine yP (yg hnd rfl (Or.inl rfl)) ?_)))
  (hc:X.calm=true:=by rfl) (hs:∀x,foldedSetIterable iter X.env x=pure x:=by intro _;rfl):EvL X α (.ListComp elt [⟨tg,iter,ifs,0⟩] scope pos) Q:=cm hc ⟨h1,nd,h2,h3,qh h4,h5,h6⟩ hfree (fun C s2 H2 fp=>hg C s2 H2 fp nd) h hs
theorem cZ (i:Nat)(N:List Str)(imp:List (Option Nat))(pat:Pat){x:Str}{pos' cpos:Pos}{scope:Scope}{elt:Expr}{ifs:List Expr}(h:EvI X α tg iter fun ds=>ds.length≤1000∧xi (fun C s2 H2 fp=>X.comp N scope C s2 H2 fp) pat ifs elt (yC imp α) ds [] fun ds=>SvS X (α.set i (some (.own ds))) rest E)
  (hN:X.N.Nodup:=by assumption)
  (nd:N.Nodup:=by decide +kernel) (h1:scope.kind=.function:=by rfl) (h2:∀y∈scope.names,y.2≠.cell:=by decide +kernel) (h3:∀y∈scope.names,y.2=.local→scope.names.lookup y.1=some .local:=by decide +kernel) (h4:scope.names.all (freeOk X.env.scope)=true:=by rfl) (h5:imp.length=N.length:=by rfl)
  (h6:((imp.zip N).all fun p=>match p.1 with|none=>true|some j=>X.N[j]? == some p.2&&scope.names.lookup p.2 == some .free)=true:=by rfl) (hfree:pat.free (yC imp α)=true:=by rfl)
  (hg:∀C s2 H2 fp,N.Nodup→PG (X.comp N scope C s2 H2 fp) tg (pN X.K pat):=by intro _ _ _ _ hnd;first|exact yg hnd rfl (Or.inl rfl)|exact wk rfl rfl (by repeat (first|exact vp|refine yP (yg hnd rfl (Or.inl rfl)) ?_)))
  (hc:X.calm=true:=by rfl)
  (hi:X.N[i]?=some x:=by rfl) (hx:Loc X.env.scope x:=by first|exact Or.inl rfl|exact Or.inr rfl) (hsw:swapsWith (.ListComp elt [⟨tg,iter,ifs,0⟩] scope cpos) (some (.Name x pos')) pos.line X.env=pure true:=by rfl)
  (hf:X.fn x=true∨X.env.scope.names.lookup x=some .local:=by first|exact .inl rfl|exact .inr rfl|assumption) (hs:∀x,foldedSetIterable iter X.env x=pure x:=by intro _;rfl):
  SvS X α (.Assign [.Name x pos'] (.ListComp elt [⟨tg,iter,ifs,0⟩] scope cpos) pos::rest) E:=zc8 i hN hc ⟨h1,nd,h2,h3,qh h4,h5,h6⟩ hfree (fun C s2 H2 fp=>hg C s2 H2 fp nd) h hi hx hsw hf hs
end
section
variable {Y:Addr→Shared→Hp→List Addr→Cx}{pat:Pat}{ifs:List Expr}{elt:Expr}{α0:Ev}{ι:Type}{g f:ι→PyData}{l:List ι}{acc:List PyData}{Q:List PyData→Prop}
theorem gc (p:ι→Bool)(f:ι→PyData)(hs:∀x∈l,∃α1,pat.bind (g x) α0=some α1∧(∀C s2 H2 fp (Q:Bool→Prop),Q (p x)→eI (Y C s2 H2 fp) α1 ifs Q)∧(p x=true→∀C s2 H2 fp (Q:PyData→Prop),Q (f x)→EvD (Y C s2 H2 fp) α1 elt Q))
  (hd:Q (acc++(l.filter p).map f)):xi Y pat ifs elt α0 (l.map g) acc Q:=by
 induction l generalizing acc with
 |nil=>
  show Q acc
  simpa using hd
 |cons d ds ih=>
  obtain⟨α1,e,h1,h2⟩:=hs d zk0
  refine⟨α1,e,fun C s2 H2 fp=>h1 C s2 H2 fp _ ?_⟩
  have ih':=fun acc=>ih (acc:=acc) fun d hd=>hs d (zj7 _ hd)
  cases hp:p d with
  |true=>
   rw[if_pos rfl]
   refine fun C s2 H2 fp=>h2 hp C s2 H2 fp _ (ih' _ ?_)
   simpa[List.filter_cons,hp] using hd
  |false=>
   rw[if_neg (by decide)]
   refine ih' _ ?_
   simpa[List.filter_cons,hp] using hd
theorem wN (f:ι→PyData)(hs:∀x∈l,∃α1,pat.bind (g x) α0=some α1∧∀C s2 H2 fp (Q:PyData→Prop),Q (f x)→EvD (Y C s2 H2 fp) α1 elt Q)(hd:Q (acc++l.map f)):xi Y pat [] elt α0 (l.map g) acc Q:=
 gc (fun _=>true) f (fun x hx=>by
  obtain⟨α1,h1,h2⟩:=hs x hx
  exact⟨α1,h1,fun _ _ _ _ _ k=>jU k,fun _=>h2⟩) (by rw[List.filter_eq_self.mpr fun _ _=>rfl];exact hd)
end
section
variable {co:Co}{N:Nat}
end
section
variable {co:Co}{N:Nat}
end
section
variable {X:Cx}{α:Ev}{a b e:Expr}{pos p:Pos}{Q:PyData→Prop}
end
section
variable {X:Cx}{α:Ev}{a b c e:Expr}{pos p:Pos}{Q:PyData→Prop}{T:Bool→Prop}
end
section
variable {X:Cx}{α:Ev}{a b c e:Expr}{pos p p2 pos2:Pos}{Q:PyData→Prop}{T:Bool→Prop}
end
section
variable {X:Cx}{α:Ev}{a b c d e:Expr}{pos p:Pos}{ta tb tc td:TE}{T:Bool→Prop}
end
theorem bb {X:Cx}{α:Ev}{e tg:Expr}{Q:List PyData→Prop}(h:EvD X α e fun x=>∃ds,x=.tuple ds∧Q ds):EvI X α tg e Q:=fun F σ H R m k=>by
 refine⟨_,bx ze,?_⟩
 refine h F σ H _ m fun x vx H1 q1 t1 k1 r1=>?_
 obtain⟨ds,rfl,q⟩:=q1
 obtain⟨a,xs,rfl,h1,h2⟩:=r1.tup_inv
 refine⟨a,rfl,⟨xs,SqT.of (zh h1).2⟩,k ds _ H1 q t1 k1 fun i H2 p s=>⟨fun d hd=>?_,fun hl=>?_⟩⟩
 ·obtain⟨x,hx,av⟩:=h2.get hd
  have ha:=SqT.of (K:=X.K) (zh (s _ _ h1)).2
  refine⟨⟨xs,x,ha,hx⟩,fun x' H3 y=>?_⟩
  obtain⟨e,y⟩:=y
  subst e
  have:=y xs ha
  rw[hx] at this;cases this
  exact⟨zq.refl _,fun _=>av.same s⟩
 ·exact⟨xs,SqT.of (zh (s _ _ h1)).2,by rw[h2.length];exact hl⟩
section
variable {X:Cx}{α:Ev}{a b c d e:Expr}{pos p:Pos}{T:Bool→Prop}
end
abbrev ju (X:Cx)(P:Program)(w:World)(K:PySem.W.Frag)(mg:Str→Option Value)(base:Heap):Prop:=X.prog=P∧X.w=w∧X.K=K∧X.mg=mg∧X.base=base
section
variable {X:Cx}{α:Ev}{e o:Expr}{es:List Expr}{pos p apos:Pos}{Q:PyData→Prop}{k:Nat}{φ:List A→(A→Prop)→Prop}{x m:Str}{C:Addr}{pl:Sem Bool}{P:Program}{w:World}{K:PySem.W.Frag}{mg:Str→Option Value}{base:Heap}
theorem fO (D:Cal P w K mg base x k φ)(hX:ju X P w K mg base)(hr:zG k X.A)(hg:Gl X x)(h:EvA X α (e::es) fun as=>φ as fun a=>Q a.d)
  (hdb:(x == ("__debug__":Str))=false:=by decide) (he:starEach (e::es) X.env=(false,eval e X.env)::starEach es X.env:=by rfl) (hpl:(backTo pos (starEach es X.env)).any (·.1)=false:=by rfl):EvD X α (.Call (.Name x p) (e::es) [] pos) Q:=by
 obtain⟨rfl,rfl,rfl,rfl,rfl⟩:=hX
 exact zA D hr hg h hdb he hpl
theorem jl (D:rg P w K mg base C m k φ)(hX:ju X P w K mg base)(hr:zG k X.A)(h:EvD X α o fun x=>∃fs,x=xY C fs∧vZ fs m=none∧EvA X α (e::es) fun as=>φ (.dat (xY C fs)::as) fun a=>Q a.d)
  (hst:starEach (e::es) X.env=(false,eval e X.env)::starEach es X.env:=by rfl) (hpl:(backTo pos (starEach es X.env)).any (·.1)=false:=by rfl)
  (ht:eval (.Call (.Attribute o m apos) (e::es) [] pos) X.env=(do
   let ov ←eval o X.env
   standAt apos.atName
   let (f,first) ←holding [ov] (getMethod ov m pl)
   callWith pos f first (backTo pos (starEach (e::es) X.env)) (backToKw pos (keywordEach [] X.env))):=by rfl):EvD X α (.Call (.Attribute o m apos) (e::es) [] pos) Q:=by
 obtain⟨rfl,rfl,rfl,rfl,rfl⟩:=hX
 exact fu D hr h hst hpl ht
theorem lM (D:rg P w K mg base C m k φ)(hX:ju X P w K mg base)(hr:zG k X.A)(h:EvD X α o fun x=>∃fs,x=xY C fs∧vZ fs m=none∧φ [.dat (xY C fs)] fun a=>Q a.d)
  (ht:eval (.Call (.Attribute o m apos) [] [] pos) X.env=(do
   let ov ←eval o X.env
   standAt apos.atName
   let (f,first) ←holding [ov] (getMethod ov m pl)
   callWith pos f first (backTo pos (starEach [] X.env)) (backToKw pos (keywordEach [] X.env))):=by rfl):EvD X α (.Call (.Attribute o m apos) [] [] pos) Q:=by
 obtain⟨rfl,rfl,rfl,rfl,rfl⟩:=hX
 exact qG D hr h ht
end
section
variable {X:Cx}{α:Ev}{pos:Pos}{Q:PyData→Prop}
end
section
variable {X:Cx}{α:Ev}{e ix:Expr}{pos:Pos}{rest:List Stmt}{E:yi}
end
section
variable {X:Cx}{tg:Expr}
variable {α:Ev}{a b c:Expr}{p pos:Pos}
end
section
variable {prog:Program}{w:World}{K:Type}[DecidableEq K](knd:KeyKind prog w K)
variable {knd}
end
section
variable {X:Cx}
end
section
variable {X:Cx}{α:Ev}{e a b:Expr}{p pos:Pos}{Q:PyData→Prop}
end
structure Moved (fs:List Addr)(e:Addr)(ts:List Addr)(h h':Heap):Prop where
 keep:∀b o,b≠e→b∉ts→b∉fs→h.get? b=some o→h'.get? b=some o
 slot:∀b o,b∈fs→h.get? b=some o→∃sl,h'.get? b=some {o with slots:=sl}
 exc:∀o vs,h.get? e=some o→o.data=.fields vs→∃o' vs',h'.get? e=some o'∧o'.cls=o.cls∧o'.dict=o.dict∧o'.data=.fields vs'
 there:∀b o,h.get? b=some o→∃o',h'.get? b=some o'
def Ent (h base:Heap)(e T:Addr)(fl:Value):Prop:=
 ∃oe vs oT tv,h.get? e=some oe∧oe.data=.fields vs∧vs[1]?=some (.ref T)∧T≠e∧base.get? T=none∧h.get? T=some oT∧oT.data=.fields tv∧tv[3]?=some fl
def Beg (h base:Heap)(e:Addr)(ts:List Addr):Prop:=
 (ts=[]∧∃oe vs,h.get? e=some oe∧oe.data=.fields vs∧vs[1]?=some .none)∨∃T,ts=[T]∧Ent h base e T .none
theorem ug {base h:Heap}{l:List Env}{b:Addr}(hl:h.FunFrames base l)(hb:b∈frs l):base.get? b=none∧∃o,h.get? b=some o∧∀vs,o.data≠.fields vs:=hl.mem hb
section
variable {M:Model}{A:Around}{E:Value→Shared→Prop}{s:Shared}
theorem wM (o:Obj)(f:Array Value→Array Value):(o.mapFields f).cls=o.cls∧(o.mapFields f).dict=o.dict:=by
 obtain⟨c,d,dt,sl⟩:=o
 cases dt<;>exact⟨rfl,rfl⟩
theorem sy {fs:List Addr}{e T:Addr}{h:Heap}{oT:Obj}{tv:Array Value}{f:Array Value→Array Value}(hT:h.get? T=some oT)(hd:oT.data=.fields tv)(hfs:∀b∈fs,b≠T):Moved fs e [T] h (h.update T (Obj.mapFields f)) where
 keep:=fun b o _ hb _ q=>by
  rw[zl0 _ _ (fun z=>hb (by rw[←z];exact zk7.mpr rfl))]
  exact q
 slot:=fun b o hb q=>⟨o.slots,by rw[zl0 _ _ (zr9 (hfs b hb))];exact q⟩
 exc:=fun o vs q d=>by
  by_cases z:T=e
  ·subst z
   rw[hT] at q;cases q
   refine⟨_,_,zn7 _ hT (zq6 (zq4 hd _)),(wM _ _).1,(wM _ _).2,zq4 hd _⟩
  ·exact⟨o,vs,by rw[zl0 _ _ z];exact q,rfl,rfl,d⟩
 there:=fun b o q=>by
  by_cases z:T=b
  ·subst z
   exact⟨_,zn7 _ hT (zq6 (zq4 hd _))⟩
  ·exact⟨o,by rw[zl0 _ _ z];exact q⟩
theorem eR {base:Heap}{l:List Env}{e T:Addr}{fl:Value}{fo:Option Addr}{Q:Unit→Shared→Prop}(hl:s.heap.FunFrames base l)(hk:base.StaysIn s.heap)(x:Ent s.heap base e T fl)
  (h:∀h',Moved (frs l) e [T] s.heap h'→Ent h' base e T (fo.elim .none fun f=>rawInt f)→h'.FunFrames base l→base.StaysIn h'→h'.objs.size=s.heap.objs.size→Q () {s with heap:=h'}):wpAny M A (setFlight (.ref e) fo) Q E s:=by
 obtain⟨oe,vs,oT,tv,he,hd,h1,hne,hb,hT,hdT,h3⟩:=x
 have hsz:3<tv.size:=(zp1.mp h3).1
 unfold setFlight
 refine zj2 (wpAny_field he hd h1 ?_)
 rw[if_pos (show (Value.ref T != Value.none)=true from by simp)]
 refine wpAny_setField hT hdT hsz (h _ (sy hT hdT fun b hb' z=>?_) ?_ ?_ ?_ (by simp))
 ·obtain⟨_,o,ho,hn⟩:=ug hl hb'
  rw[z,hT] at ho;cases ho
  exact hn _ hdT
 ·exact⟨oe,vs,_,_,by rw[zl0 _ _ hne];exact he,hd,h1,hne,hb,zn7 _ hT (zq6 (zq4 hdT _)),zq4 hdT _,by simp[hsz]⟩
 ·refine hl.of_keeps fun b o hb' hn=>⟨o,?_,rfl⟩
  rw[zl0 _ _ (fun z=>by subst z;rw[hT] at hb';cases hb';exact hn _ hdT)]
  exact hb'
 ·intro b o q
  rw[zl0 _ _ (fun z=>by subst z;rw[hb] at q;cases q)]
  exact hk b o q
theorem jK {base:Heap}{env:Env}{outer:List Env}{L e:Addr}{oe:Obj}{vs:Array Value}{head:Value}{hadNext:Bool}{Q:Unit→Shared→Prop}
  (hfr:A.frames=some (env::outer)) (hl:s.heap.FunFrames base (env::outer)) (hf:env.frame=some L) (he:s.heap.get? e=some oe) (hkb:base.StaysIn s.heap) (hen:base.get? e=none) (hd:oe.data=.fields vs) (hsz:1<vs.size)
  (h:∀h' T,Moved (frs (env::outer)) e [] s.heap h'→s.heap.objs.size≤T→Ent h' base e T (rawInt L)→h'.FunFrames base (env::outer)→base.StaysIn h'→Q () {s with heap:=h'}):
  wpAny M A (do let a ←frameOf env;let pl ←entryPlaceOf L hadNext;let b ←EntryCells.newEntry head a .none (rawInt L) .none pl;setField (.ref e) 1 b) Q E s:=by
 have hene:e∉frs (env::outer):=fun hm=>by
  obtain⟨_,o,ho,hnf⟩:=ug hl hm
  rw[he] at ho;injection ho with ho;subst ho;exact hnf vs hd
 refine zj2 (wpAny_frameOf_fun hfr hl hf fun h₁ hs₁=>?_)
 refine zj2 (wpAny_entryPlaceOf fun pl hpl=>?_)
 unfold EntryCells.newEntry newFields
 refine zj2 (wpAny_newObj_type ?_ (hpl.sizeOk5 _ _ _ _ _))
 have he₁:h₁.get? e=some oe:=(hs₁.2.1 e hene).trans he
 have kb₁:base.StaysIn h₁:=fun b o hbo=>(hs₁.2.1 b fun hm=>by rw[(ug hl hm).1] at hbo;cases hbo).trans (hkb b o hbo)
 generalize hob:({cls:=.type "traceback",dict:=none,data:=.fields ([head,.ref L,.none,rawInt L,.none]++(if pl.isEmpty then List.replicate 6 Value.none else pl)).toArray}:Obj)=ob
 have obd:ob.data=.fields ([head,.ref L,.none,rawInt L,.none]++(if pl.isEmpty then List.replicate 6 Value.none else pl)).toArray:=by rw[←hob]
 have he₂:=zj3 (h:=h₁) ob he₁
 refine wpAny_setField he₂ hd hsz ?_
 have hTe:h₁.objs.size≠e:=zt0 (zj9 he₁)
 have hd₃:=zq4 hd (·.setIfInBounds 1 (Value.ref h₁.objs.size))
 have he₃:=zn7 (Obj.mapFields (·.setIfInBounds 1 (Value.ref h₁.objs.size))) he₂ (zq6 hd₃)
 have hT₃:((h₁.push ob).update e (Obj.mapFields (·.setIfInBounds 1 (Value.ref h₁.objs.size)))).get? h₁.objs.size=some ob:=
  (zl0 (h₁.push ob) (Obj.mapFields (·.setIfInBounds 1 (Value.ref h₁.objs.size))) (zr9 hTe)).trans (zm7 h₁ (zq6 obd))
 have keep:∀b o,b≠e→h₁.get? b=some o→((h₁.push ob).update e (Obj.mapFields (·.setIfInBounds 1 (Value.ref h₁.objs.size)))).get? b=some o:=fun b o hbe hb=>by
  rw[zl0 _ _ (zr9 hbe)]
  exact zj3 _ hb
 refine h _ h₁.objs.size ⟨fun b o hb _ hf q=>keep b o hb ((hs₁.2.1 b hf).trans q),fun b o hb q=>?_,fun o vs' q d=>?_,fun b o q=>?_⟩ (by rw[hs₁.1];exact zj8 _) ⟨_,_,ob,_,he₃,hd₃,by simp[hsz],hTe,kb₁.fresh,hT₃,obd,by simp⟩ ?_ (fun b o q=>keep b o (fun z=>by rw[z,hen] at q;cases q) (kb₁ b o q))
 ·obtain⟨sl,hs⟩:=hs₁.2.2 b o q
  exact⟨sl,keep b _ (fun z=>hene (z▸hb)) hs⟩
 ·rw[he] at q;cases q
  exact⟨_,_,he₃,(wM _ _).1,(wM _ _).2,hd₃⟩
 ·by_cases z:b=e
  ·subst z;exact⟨_,he₃⟩
  ·obtain⟨sl,hs⟩:=hs₁.2.2 b o q
   exact⟨_,keep b _ z hs⟩
 ·refine hl.of_keeps fun b o hb hn=>?_
  obtain⟨sl,hs⟩:=hs₁.2.2 b o hb
  exact⟨_,keep b _ (fun z=>by subst z;rw[he] at hb;cases hb;exact hn _ hd) hs,rfl⟩
theorem zb6 {base:Heap}{env:Env}{outer:List Env}{L e:Addr}{ts:List Addr}{Q:Unit→Shared→Prop}
  (hfr:A.frames=some (env::outer)) (hl:s.heap.FunFrames base (env::outer)) (hf:env.frame=some L) (hkb:base.StaysIn s.heap) (hen:base.get? e=none) (x:Beg s.heap base e ts)
  (h:∀h' T,Moved (frs (env::outer)) e ts s.heap h'→s.heap.objs.size≤T→Ent h' base e T (rawInt L)→h'.FunFrames base (env::outer)→base.StaysIn h'→Q () {s with heap:=h'}):wpAny M A (noteFrame (.ref e) env) Q E s:=by
 rcases x with ⟨rfl,oe,vs,he,hd,h1⟩|⟨T,rfl,oe,vs,oT,tv,he,hd,h1,hne,hb,hT,hdT,h3⟩
 ·unfold noteFrame
  simp only[hf]
  refine zj2 (wpAny_field he hd h1 ?_)
  rw[if_neg (by decide)]
  exact jK hfr hl hf he hkb hen hd (zp1.mp h1).1 h
 ·unfold noteFrame
  simp only[hf]
  refine zj2 (wpAny_field he hd h1 ?_)
  rw[if_pos (show (Value.ref T != Value.none)=true from by simp)]
  refine zj2 (wpAny_field hT hdT h3 ?_)
  rw[if_neg (show ¬((Value.none == rawInt L)=true) from by simp[rawInt])]
  refine zj2 (wpAny_setField hT hdT (zp1.mp h3).1 ?_)
  have hfs:∀b∈frs (env::outer),b≠T:=fun b hb' z=>by
   obtain⟨_,o,ho,hn⟩:=ug hl hb'
   rw[z,hT] at ho;cases ho
   exact hn _ hdT
  have mv:Moved (frs (env::outer)) e [T] s.heap (s.heap.update T (Obj.mapFields (·.setIfInBounds 3 Value.none))):=sy hT hdT hfs
  refine jK (s:={s with heap:=s.heap.update T (Obj.mapFields (·.setIfInBounds 3 Value.none))}) hfr ?_ hf (show (s.heap.update T (Obj.mapFields (·.setIfInBounds 3 Value.none))).get? e=some oe by rw[zl0 _ _ hne];exact he) ?_ hen hd (zp1.mp h1).1 fun h' T' m1 m2 m3 m4 m5=>?_
  ·refine hl.of_keeps fun b o hb' hn=>⟨o,?_,rfl⟩
   rw[zl0 _ _ (fun z=>by subst z;rw[hT] at hb';cases hb';exact hn _ hdT)]
   exact hb'
  ·intro b o q
   show (s.heap.update T _).get? b=some o
   rw[zl0 _ _ (fun z=>by subst z;rw[hb] at q;cases q)]
   exact hkb b o q
  ·refine h h' T' ⟨fun b o q1 q2 q3 q=>m1.keep b o q1 (by simp) q3 (mv.keep b o q1 q2 q3 q),fun b o q1 q=>?_,fun o vs' q d=>?_,fun b o q=>?_⟩ (by have m2:(s.heap.update T _).objs.size≤T':=m2;simpa using m2) m3 m4 m5
   ·obtain⟨sl,e1⟩:=mv.slot b o q1 q
    obtain⟨sl',e2⟩:=m1.slot b _ q1 e1
    exact⟨sl',e2⟩
   ·obtain⟨o1,vs1,e1,c1,d1,f1⟩:=mv.exc o vs' q d
    obtain⟨o2,vs2,e2,c2,d2,f2⟩:=m1.exc o1 vs1 e1 f1
    exact⟨o2,vs2,e2,c2.trans c1,d2.trans d1,f2⟩
   ·obtain⟨o1,e1⟩:=mv.there b o q
    exact m1.there b o1 e1
theorem gA {base:Heap}{env:Env}{L e T:Addr}{Q:Unit→Shared→Prop}(hf:env.frame=some L)(x:Ent s.heap base e T (rawInt L))(h:Q () s):wpAny M A (noteFrame (.ref e) env) Q E s:=by
 obtain⟨oe,vs,oT,tv,he,hd,h1,hne,hb,hT,hdT,h3⟩:=x
 exact wpAny_noteFrame_inFlight hf he hd h1 hT hdT h3 h
end
section
variable {P:Program}{w:World}{H H0:Hp}{h h' h0:Heap}{fs fs' ts:List Addr}{e:Addr}
theorem HOk.moved (x:HOk P w H h)(m:Moved fs e ts h h')(hfs:∀b∈fs,H b=none)(hts:∀b∈ts,H b=none)(he:∃C d,H e=some (xcO e C d)):HOk P w H h':=fun a o q=>by
 obtain⟨C,d,he⟩:=he
 by_cases z:a=e
 ·subst z
  rw[he] at q;cases q
  obtain⟨⟨o,vs,h1,h2,h3,h4⟩,_,st⟩:=x _ _ he
  obtain⟨o',vs',g1,g2,g3,g4⟩:=m.exc o vs h1 h4
  exact⟨⟨o',vs',g1,g2.trans h2,g3.trans h3,g4⟩,⟨o',g1⟩,st⟩
 ·have nf:∀{b:Addr} {u:HO},H b=some u→b∉fs:=fun {b u} hb q=>by rw[hfs b q] at hb;cases hb
  have nt:∀{b:Addr} {u:HO},H b=some u→b∉ts:=fun {b u} hb q=>by rw[hts b q] at hb;cases hb
  refine (x a o q).stay (fun b u hb e1=>?_) (fun _ q=>q) fun _ _ q=>q
  rcases hb with rfl|hb
  ·exact m.keep _ _ z (nt q) (nf q) e1
  ·refine m.keep _ _ (fun z=>?_) (nt hb) (nf hb) e1
   rw[z,he] at hb;cases hb
end
def CX1 (P:Program)(w:World)(base:Heap):CXT:=fun outer H s E e s'=>∃a T H',e=.ref a∧s'.os=s.os∧AllBare s'.gens∧Un (frs outer) [] H H' s.heap s'.heap∧HOk P w H' s'.heap∧(∃C d,H' a=some (xcO a C d))∧H' T=none∧s.heap.get? T=none∧Ent s'.heap base a T .none∧E (.ref a) none H'
inductive Fl (X:Cx)(H:Hp)(h:Heap)(a:Addr):Prop where
 |new {oe:Obj} {vs:Array Value}:h.get? a=some oe→oe.data=.fields vs→vs[1]?=some .none→Fl X H h a
 |old {T:Addr}:H T=none→X.s₀.heap.get? T=none→(∀p∈X.pn,p.1≠T)→Ent h X.base a T .none→Fl X H h a
 |here {T:Addr}:H T=none→X.s₀.heap.get? T=none→(∀p∈X.pn,p.1≠T)→Ent h X.base a T (rawInt X.env.locals)→Fl X H h a
def XE (X:Cx)(R:St→Addr→Hp→Prop):Value→Shared→Prop:=fun e s=>∃σ H a,e=.ref a∧Inv X [] σ H s∧(∃C d,H a=some (xcO a C d))∧Fl X H s.heap a∧R σ a H
section
variable {X:Cx}{pins:List (Addr×Obj)}{σ:St}{H H':Hp}{s s':Shared}{a:Addr}
theorem Inv.nopins (I:Inv X pins σ H s):Inv X [] σ H s:=I.pins_of fun p hp=>by cases hp
theorem Inv.basex (I:Inv X pins σ H s)(h:H a≠none):X.base.get? a=none:=by
 cases q:X.base.get? a with
 |none=>rfl
 |some o=>exact absurd (I.bs a o q).2 h
theorem Inv.moved {ts:List Addr}{h':Heap}(I:Inv X pins σ H s)(hst:X.stack=X.env::X.outer)(m:Moved (frs X.stack) a ts s.heap h')(ha:∃C d,H a=some (xcO a C d))(hts:∀T∈ts,H T=none∧X.s₀.heap.get? T=none∧(∀p∈X.pn++pins,p.1≠T)∧∃o vs,s.heap.get? T=some o∧o.data=.fields vs):Inv X pins σ H {s with heap:=h'}:=by
 have ha':H a≠none:=by obtain⟨C,d,z⟩:=ha;rw[z];simp
 have hf:X.env.frame=some X.env.locals:=by
  rcases I.ok.stk with z|⟨_,z⟩
  ·rw[hst] at z;exact absurd (congrArg List.length z) (by simp)
  ·exact z
 have mem:∀b∈frs X.stack,b=X.env.locals∨b∈X.fs:=fun b hb=>by
  rw[hst] at hb
  unfold frs at hb
  rw[List.filterMap_cons_some hf] at hb
  rcases zj5.mp hb with z|z
  ·exact .inl z
  ·exact .inr z
 have dat:∀{b:Addr} {o:Obj},s.heap.get? b=some o→(∀vs,o.data≠.fields vs)→b∉ts:=fun {b o} q n z=>by
  obtain⟨_,_,_,o',vs,q',d⟩:=hts b z
  rw[q] at q';cases q'
  exact n vs d
 obtain⟨mm,hn,hl⟩:=id I.loc
 obtain⟨oL,es,ep,hoL,hdL,hrL⟩:=id hn
 have hLL:∃sl,h'.get? X.env.locals=some {oL with slots:=sl}:=m.slot _ _ (by rw[hst];unfold frs;rw[List.filterMap_cons_some hf];exact zk0) hoL
 have hn':h'.Ns X.env.locals mm:=by obtain⟨sl,z⟩:=hLL;exact⟨_,es,ep,z,hdL,hrL⟩
 have cells:∀{x:Str} {c:Addr} {v:Option Value},X.env.cells.lookup x=some c→s.heap.IsCell c v→h'.IsCell c v:=fun {x c v} e ⟨oc,hoc,hd⟩=>by
  by_cases z:c∈frs X.stack
  ·obtain⟨sl,z'⟩:=m.slot c oc z hoc
   exact⟨_,z',hd⟩
  ·exact⟨oc,m.keep c oc (fun z=>ha' (z▸I.freeC x c e)) (dat hoc fun vs q=>by rw[hd] at q;cases q) z hoc,hd⟩
 have un:Un X.fs X.ex X.H₀ H X.s₀.heap h':=by
  have u:=I.base
  have ne:∀{b:Addr} {o:Obj},X.s₀.heap.get? b=some o→X.H₀ b=none→b∉X.ex→b≠a:=fun {b o} q n hx z=>ha' (z▸u.free b o q n hx)
  have nt:∀{b:Addr} {o:Obj},X.s₀.heap.get? b=some o→b∉ts:=fun {b o} q z=>by rw[(hts b z).2.1] at q;cases q
  have nl:∀{b:Addr} {o:Obj},X.s₀.heap.get? b=some o→b≠X.env.locals:=fun {b o} q=>zl8 (zl1 (zj9 q) I.ok.above)
  refine⟨fun b o q n hb hx=>m.keep b o (ne q n hx) (nt q) (fun z=>(mem b z).elim (nl q) hb) (u.keep b o q n hb hx),fun b o q n hb hx=>?_,u.free,fun b o q hx=>?_,u.tups,u.frzs,u.tbls⟩
  ·obtain⟨sl,e1⟩:=u.slot b o q n hb hx
   by_cases z:b∈frs X.stack
   ·obtain⟨sl',e2⟩:=m.slot b _ z e1
    exact⟨sl',e2⟩
   ·exact⟨sl,m.keep b _ (ne q n hx) (nt q) z e1⟩
  ·obtain⟨o',e1⟩:=u.there b o q hx
   exact m.there b o' e1
 refine⟨I.ok,I.os,I.bare,un,⟨mm,hn',fun i x v e1 e2 e3=>?_⟩,fun x c e=>?_,I.free,I.freeC,fun p hp=>?_,I.hok.moved m I.stkFree (fun b hb=>(hts b hb).1) ha,I.len⟩
 ·obtain⟨u,r,q⟩:=hl i x v e1 e2 e3
  refine⟨u,r,?_⟩
  rcases q with q|⟨k,c,e,z⟩
  ·exact .inl q
  ·exact .inr ⟨k,c,e,cells e z⟩
 ·obtain⟨v,z⟩:=I.cell x c e
  exact⟨v,cells e z⟩
 ·obtain⟨e,n,ne,nf,d⟩:=I.pin p hp
  exact⟨m.keep _ _ (fun z=>ha' (z▸n)) (fun z=>(hts _ z).2.2.1 p hp rfl) (fun z=>(mem _ z).elim ne nf) e,n,ne,nf,d⟩
theorem Fl.beg (f:Fl X H s.heap a):(∃ts,Beg s.heap X.base a ts∧∀T∈ts,H T=none∧X.s₀.heap.get? T=none∧(∀p∈X.pn,p.1≠T)∧∃o vs,s.heap.get? T=some o∧o.data=.fields vs)∨∃T,H T=none∧X.s₀.heap.get? T=none∧(∀p∈X.pn,p.1≠T)∧Ent s.heap X.base a T (rawInt X.env.locals):=by
 cases f with
 |new h1 h2 h3=>exact .inl ⟨[],.inl ⟨rfl,_,_,h1,h2,h3⟩,fun T hT=>by cases hT⟩
 |@old T h1 h2 h3 h4=>
  refine .inl ⟨[T],.inr ⟨T,rfl,h4⟩,fun T' hT=>?_⟩
  rw[zk7] at hT
  subst hT
  obtain⟨_,_,oT,tv,_,_,_,_,_,hT,hdT,_⟩:=h4
  exact⟨h1,h2,h3,oT,tv,hT,hdT⟩
 |@here T h1 h2 h3 h4=>exact .inr ⟨T,h1,h2,h3,h4⟩
theorem Inv.stkf (I:Inv X pins σ H s)(hst:X.stack=X.env::X.outer):X.env.frame=some X.env.locals:=by
 rcases I.ok.stk with z|⟨_,z⟩
 ·rw[hst] at z;exact absurd (congrArg List.length z) (by simp)
 ·exact z
theorem Inv.stays (I:Inv X pins σ H s):X.base.StaysIn s.heap:=I.bk
theorem Inv.note {M:Model}{Q:Unit→Shared→Prop}{E:Value→Shared→Prop}(I:Inv X [] σ H s)(hst:X.stack=X.env::X.outer)(ha:∃C d,H a=some (xcO a C d))(f:Fl X H s.heap a)
  (h:∀h' T,Inv X [] σ H {s with heap:=h'}→H T=none→X.s₀.heap.get? T=none→(∀p∈X.pn,p.1≠T)→Ent h' X.base a T (rawInt X.env.locals)→Q () {s with heap:=h'}):wpAny M X.A (noteFrame (.ref a) X.env) Q E s:=by
 have ha':H a≠none:=by obtain⟨C,d,z⟩:=ha;rw[z];simp
 have hf:=I.stkf hst
 rcases f.beg with ⟨ts,bg,ht⟩|⟨T,h1,h2,h3,h4⟩
 ·refine zb6 (by rw[←hst];exact I.ok.frames) (by rw[←hst];exact I.stack) hf I.stays (I.basex ha') bg fun h' T m1 m2 m3 _ _=>?_
  have I':Inv X [] σ H {s with heap:=h'}:=I.moved hst (by rw[hst];exact m1) ha fun T hT=>by
   obtain⟨q1,q2,q3,q4⟩:=ht T hT
   exact⟨q1,q2,fun p hp=>q3 p (by simpa using hp),q4⟩
  refine h h' T I' (I.hok.fresh m2) (Heap.get?_none_of_le (zl2 I.sz m2)) (fun p hp z=>?_) m3
  have:=zj9 (I.pin p (by simpa using hp)).1
  rw[z] at this
  exact absurd this (Nat.not_lt.mpr m2)
 ·exact gA hf h4 (by have:=h s.heap T I h1 h2 h3 h4;exact this)
theorem Inv.flight {M:Model}{Q:Unit→Shared→Prop}{E:Value→Shared→Prop}{A:Around}{T:Addr}{fl:Value}{fo:Option Addr}(I:Inv X pins σ H s)(hst:X.stack=X.env::X.outer)(ha:∃C d,H a=some (xcO a C d))(h1:H T=none)(h2:X.s₀.heap.get? T=none)(h3:∀p∈X.pn++pins,p.1≠T)(x:Ent s.heap X.base a T fl)
  (h:∀h',Inv X pins σ H {s with heap:=h'}→Ent h' X.base a T (fo.elim .none fun f=>rawInt f)→Q () {s with heap:=h'}):wpAny M A (setFlight (.ref a) fo) Q E s:=by
 refine eR (l:=X.stack) I.stack I.stays x fun h' m1 m2 _ _ _=>h h' (I.moved hst m1 ha fun T' hT=>?_) m2
 rw[zk7] at hT
 subst hT
 obtain⟨_,_,oT,tv,_,_,_,_,_,hT,hdT,_⟩:=x
 exact⟨h1,h2,h3,oT,tv,hT,hdT⟩
theorem af {R:St→Addr→Hp→Prop}(hst:X.stack=X.env::X.outer):PassesOwn (model X.prog X.w) X.A X.env (XE X R):=by
 rintro e s ⟨σ,H,a,rfl,I,ha,f,r⟩
 refine I.note hst ha f fun h' T I' h1 h2 h3 h4=>?_
 obtain⟨oe,vs,oT,tv,he,hd,hv,_⟩:=id h4
 show wpAny _ _ _ _ _ _
 refine zj2 (wpAny_field he hd hv ?_)
 rw[if_neg (by simp)]
 rw[I.stkf hst]
 refine I'.flight hst ha h1 h2 (by simpa using h3) h4 fun h'' I'' e''=>?_
 exact⟨σ,H,a,rfl,I'',ha,.here h1 h2 h3 e'',r⟩
theorem nF {R:St→Addr→Hp→Prop}{E:XK}{e:Value}(hex:X.ex=[])(I:Inv X pins σ H s)(h:CX1 X.prog X.w X.base X.stack H s E e s')(hE:∀a H',E (.ref a) none H'→R σ a H'):XE X R e s':=by
 obtain⟨a,T,H',rfl,ho,hg,u,hok,ha,h1,h2,h3,hE'⟩:=h
 have I':Inv X pins σ H' s':=I.call' (ch:=[]) ho u hok hg fun b hb=>by cases hb
 refine⟨σ,H',a,rfl,I'.nopins,ha,.old h1 ?_ (fun p hp z=>?_) h3,hE a H' hE'⟩
 ·cases q:X.s₀.heap.get? T with
  |none=>rfl
  |some o=>
   exfalso
   obtain⟨o',e1⟩:=I.base.there T o q (by rw[hex];simp)
   rw[h2] at e1;cases e1
 ·have:=(I.pin p (zu3 _ hp)).1
  rw[z,h2] at this;cases this
end
section
variable {X:Cx}{E':Value→Shared→Prop}
theorem PSs.wishx {st:List Stmt}{t:TS}(h:PSs (X.wish E') st t)(k:∀e s,E' e s→X.xe e s):PSs X st t:=fun pins s σ H D I hw=>
 zn1 (h pins s σ H D (I.wish _) hw) (fun _ _ q=>q.unwish) fun e s z=>k e s z
end
section
variable {P:Program}{w:World}{K:PySem.W.Frag}{mg:Str→Option Value}{base:Heap}
theorem mQ {N:List Str}{qual:Str}{scope:Scope}{f:Addr}{cd:Value}{A:Around}{outer:List Env}{s₀ s:Shared}{H₀:Hp}{E:XK}{e:Value}
  (h:XE (yQ (CX1 P w base) P w K mg base N qual scope f cd A outer s₀ H₀ E) (fun _ a H=>E (.ref a) none H) e s):(yQ (CX1 P w base) P w K mg base N qual scope f cd A outer s₀ H₀ E).xe e s:=by
 obtain⟨σ,H,a,rfl,I,ha,f',r⟩:=h
 show wpAny _ _ (leaving _ _) _ _ _
 unfold leaving
 refine zj2 (I.note rfl ha f' fun h' T I' h1 h2 h3 h4=>?_)
 refine I'.flight (fo:=none) rfl ha h1 h2 (by simpa using h3) h4 fun h'' I'' e''=>?_
 exact⟨a,T,H,rfl,I''.os,I''.bare,I''.base,I''.hok,ha,h1,h2,e'',r⟩
theorem Fun.okX {x qual:Str}{st:Stmt}{f:Addr}{fd:FuncData}{N ps:List Str}{k:Nat}{sp:Sp}(F:Fun K x qual st f fd)(S:zf N ps (za st))(len:∀vs H Q E,sp vs H Q E→vs.length=ps.length)
  (hbody:∀(cdv:Value) (A:Around) (outer:List Env) (s:Shared) (H:Hp) (vs:List V) (Q:VK) (E:XK),zG k (A.deeper (envOfC qual (za st) s.heap.objs.size f cdv))→sp vs H Q E→
   ∃t,PSs ((yQ (CX1 P w base) P w K mg base N qual (za st) f cdv A outer s H E).wish (XE (yQ (CX1 P w base) P w K mg base N qual (za st) f cdv A outer s H E) fun _ a H=>E (.ref a) none H)) (zv st) t∧t {nx:=fun _ H'=>Q .non H',rt:=Q} (start N vs) H):zr P w K mg base (CX1 P w base) (k+1) f fd ps sp:=by
 obtain⟨oc,od,kV,doc,pm,an,cdv,ct,osl,rfl,lk,hcd⟩:=F.ex
 refine mM lk hcd S len fun A outer s H vs Q E hr hsp=>?_
 obtain⟨t,h,q⟩:=hbody cdv A outer s H vs Q E hr hsp
 exact⟨t,h.wishx fun e s z=>mQ z,q⟩
end
section
variable {prog:Program}{w:World}{A:Around}{E:Value→Shared→Prop}{h:Heap}{g:Array GenState}{d:Drawn}{t:Nat}{os:OsState}
variable {nm q:Str}{C N:Addr}{bs bm bmB:List Value}{hdct:Bool}{sn:List Str}{sub:List Value}{ab:Bool}{col:Option Bool}{dd:Option Addr}{k0 k1 k2 k3 k5:Option Value}{B Bn newId nid initId inN:String}{bmN:List Value}
abbrev wg (C t:Addr)(d:Option Addr):Obj:={cls:=.ref C,dict:=d,data:=.fields #[.ref t,.none,.none,.none,.bool false,.none]}
def yO (h:Heap)(C:Addr)(rest:List Value):Heap:=(h.push {cls:=.type "tuple",data:=.seq rest.toArray}).push (wg C h.objs.size none)
theorem nj (Fn:ExcBaseFacts Bn newId inN bmN)(hBn:bmB.contains (.type Bn)=true)(F:ExcBaseFacts B nid initId bmB)(T:OwnTail h bmB bm){mN:Str→Option Value}{rest:List Value}{fI:Addr}{oI:Obj}{Q:Fin→Shared→Prop}
  (hC:h.get? C=some (excClassObj nm q C N bs bm hdct sn sub ab col dd k0 k1 k2 k3 k5 newId)) (hn:h.Ns N mN) (hi:mN "__init__"=some (.ref fI))
  (hfI:h.get? fI=some oI) (hfc:oI.cls=.type "function")
  (hq:wpAny (model prog w) A (call (.ref fI) (.ref (h.objs.size+1)::rest)) (fun r s'=>r=.none∧Q (.done (.ret (.ref (h.objs.size+1)))) s') E ⟨yO h C rest,g,d,t,os⟩) (hrest:rest.length≤sizeLine):
  wpAny (model prog w) A (Builtin.«type.__call__» ⟨.ref C::rest,[]⟩) Q E ⟨h,g,d,t,os⟩:=by
 repeat (first|with_reducible refine zo4 hC ?_|with_reducible refine wpAny_madeBy_exc hC ?_|wp_step)
 refine codeAny_call_builtin_code (zt1 _ Fn.quiet) (wpAny_check_new_subU Fn hBn T hC ?_)
 refine codeAny_exc_new_subU Fn hBn F T hC ?_ hrest
 show wpAny _ _ _ _ _ ⟨yO h C rest,g,d,t,os⟩
 have keep:∀b o,h.get? b=some o→(yO h C rest).get? b=some o:=fun b o e=>zj3 _ (zj3 _ e)
 have hC₁:=keep _ _ hC
 have hfI₁:=keep _ _ hfI
 have hn₁:(yO h C rest).Ns N mN:=let ⟨o,es,ep,e,r⟩:=hn;⟨o,es,ep,keep _ _ e,r⟩
 have hget:(yO h C rest).get? (h.objs.size+1)=some (wg C h.objs.size none):=by unfold yO;heap_get
 have hcC:(Value.ref C::bm).contains (.ref C)=true:=by simp
 have T₁:=T.keeps keep
 unfold isInstance
 repeat (first|with_reducible refine zo4 hget ?_|(with_reducible refine wpAny_isSubtype_exc hC₁ ?_;rw[hcC])|wp_step)
 show wpAny _ _ (typeLookup (.ref C) _) _ _ _
 refine wpAny_typeLookup_tail hC₁ hn₁ T₁ F.mroIs F.init.lookup ?_
 rw[hi]
 refine zq8 (zj2 ?_)
 unfold bindSpecial
 refine zj2 (wpAny_typeOf (T:="function") ⟨_,hfI₁,hfc⟩ ?_)
 rw[if_pos (by decide)]
 refine zk4 (zj2 (zn1 hq (fun r s' hr=>?_) fun _ _ x=>x))
 obtain⟨rfl,hQ⟩:=hr
 wp_walk
 exact hQ
theorem zb7 (Fn:ExcBaseFacts Bn newId inN bmN)(hBn:bmB.contains (.type Bn)=true)(F:ExcBaseFacts B nid initId bmB)(T:OwnTail h bmB bm){mN:Str→Option Value}{rest:List Value}{fI:Addr}{oI:Obj}{Q:Value→Shared→Prop}
  (hC:h.get? C=some (excClassObj nm q C N bs bm hdct sn sub ab col dd k0 k1 k2 k3 k5 newId)) (hn:h.Ns N mN) (hi:mN "__init__"=some (.ref fI))
  (hfI:h.get? fI=some oI) (hfc:oI.cls=.type "function")
  (hq:wpAny (model prog w) (A.under (.builtin "type.__call__" ⟨.ref C::rest,[]⟩)) (call (.ref fI) (.ref (h.objs.size+1)::rest)) (fun r s'=>r=.none∧Q (.ref (h.objs.size+1)) s') E ⟨yO h C rest,g,d,t,os⟩) (hrest:rest.length≤sizeLine):
  wpAny (model prog w) A (call (.ref C) rest) Q E ⟨h,g,d,t,os⟩:=by
 have f1:=tc_lookup
 have f2:=tc_bind (.ref C)
 have hT:(⟨h,g,d,t,os⟩:Shared).TypeIs (.ref C) "type":=⟨_,hC,rfl⟩
 refine zq3 (codeAny_of_tree ?_)
 show wpAny _ _ (callAny (.ref C) _) _ _ _
 repeat (any_goals (first|assumption|with_reducible refine zo4 hC ?_|wp_step))
 refine⟨rfl,?_⟩
 exact codeAny_call_builtin_at (zt1 _ (by decide +kernel)) entry_typeCall (wpAny_check_type_call_sub hC (nj Fn hBn F T hC hn hi hfI hfc hq hrest))
theorem bB {M:Model}{s:Shared}{env:Env}{x:Sem Value}{Q:Flow→Shared→Prop}(hbase:bm.contains (.type "BaseException")=true)(hh:A.handled=none)
  (h:wpAny M A x (fun v s₁=>∃e t d,v=.ref e∧s₁.heap.get? C=some (excClassObj nm q C N bs bm hdct sn sub ab col dd k0 k1 k2 k3 k5 newId)∧s₁.heap.get? e=some (wg C t d)∧E (.ref e) s₁) E s):
  wpAny M A (raiseStmt env (some x) none) Q E s:=by
 have hcB:(Value.ref C::bm).contains (.type "BaseException")=true:=by rw[List.contains_cons,hbase,Bool.or_true]
 unfold raiseStmt
 refine zj2 (zn1 h (fun v s₁ h₁=>?_) fun _ _ x=>x)
 obtain⟨e,t,d,rfl,hC,he,hE⟩:=h₁
 obtain⟨hp,g,d,tk,os⟩:=s₁
 repeat (first|with_reducible refine zo4 he ?_|with_reducible refine zo4 hC ?_|(with_reducible refine wpAny_isSubtype_exc hC ?_;rw[hcB])|wp_step)
 exact wpAny_raiseNew_none hh hE
end
open Builtin Builtin.ObjectAttr
def bmV :List Value:=[.type "ValueError",.type "Exception",.type "BaseException",.type "object"]
def yR (K:Frag)(C S:Addr)(init:Option Value):Bool:=match K.lookup C with
 |some ⟨.type "type",_,.cls cd,sl⟩=>(match sl.toList with
  |[_,_,_,_,some (.builtin n),_]=>cd.mro == .ref C::.ref S::bmV&&n == "ValueError.__new__"&&!cd.hasDel&&cd.hasDict&&tailIn K bmV (.ref S::bmV)&&nsOkIn K cd.ns&&nsIn K cd.ns "__init__" == some init
  |_=>false)
 |_=>false
theorem fm {K:Frag}{h:Heap}{N:Addr}{mg:Str→Option Value}{n:Str}{v:Option Value}(X:K.In h)(G:h.Ns N mg)(e:nsIn K N n=some v):mg n=v:=by
 cases v with
 |none=>exact ns_none_of X G e
 |some v=>
  obtain⟨o,es,ep,ho,hd,_,hf⟩:=G
  unfold nsIn at e
  split at e
  ·rename_i c d es' n' sl q
   have:=X _ _ q
   rw[ho] at this
   cases this
   cases hd
   split at e
   ·rename_i en he
    cases e
    rw[←hf]
    unfold nsFind findBy
    rw[←Array.find?_toList,he]
    rfl
   ·split at e<;>cases e
  ·cases e
theorem yq {K:Frag}{h:Heap}{C S:Addr}{init:Option Value}(X:K.In h)(q:yR K C S init=true):
  ∃nm qn N bs sn sub ab col dd k0 k1 k2 k3 k5 mN,h.get? C=some (excClassObj nm qn C N bs (.ref S::bmV) true sn sub ab col dd k0 k1 k2 k3 k5 "ValueError.__new__")∧h.Ns N mN∧mN "__init__"=init∧OwnTail h bmV (.ref S::bmV)∧∃cd,clsIn K C=some cd∧cd.hasDict=true∧cd.mro=.ref C::.ref S::bmV∧K.lookup C=some (excClassObj nm qn C N bs (.ref S::bmV) true sn sub ab col dd k0 k1 k2 k3 k5 "ValueError.__new__"):=by
 unfold yR at q
 split at q
 ·rename_i dd cd sl ho
  split at q
  ·rename_i k0 k1 k2 k3 n k5 hs
   simp only[zk3,zp5,zt8] at q
   obtain⟨⟨⟨⟨⟨⟨hm,hn⟩,hdel⟩,hdd⟩,ht⟩,hok⟩,hni⟩:=q
   obtain⟨nm,bs,mro,ns,qn,hd,sn,sub,ab,col,del⟩:=cd
   dsimp only at hm hdel hok hni hdd
   subst hm hdel hn hdd
   have hsl:sl=#[k0,k1,k2,k3,some (.builtin "ValueError.__new__"),k5]:=by
    obtain⟨l⟩:=sl
    simp only at hs
    rw[hs]
   subst hsl
   have N:=Heap.Ns.of_isNs (isNs_of_in X hok)
   exact⟨nm,qn,ns,bs,sn,sub,ab,col,dd,k0,k1,k2,k3,k5,_,X _ _ ho,N,fm X N hni,tail_of_in X ht,_,by unfold clsIn;rw[ho],rfl,rfl,ho⟩
  ·cases q
 ·cases q
section
variable {prog:Program}{w:World}{A:Around}{E:Value→Shared→Prop}{h:Heap}{g:Array GenState}{d:Drawn}{t:Nat}{os:OsState}{K:Frag}{C S e t0:Addr}{dx:Option Addr}{init:Option Value}
theorem ni {rest:List Value}{Q:Value→Shared→Prop}(X:K.In h)(q:yR K C S init=true)(he:h.get? e=some (wg C t0 dx))(hr:rest.length≤1000)
  (hq:∀h' t',(∀b o,b≠e→h.get? b=some o→h'.get? b=some o)→h'.get? e=some (wg C t' dx)→Q .none ⟨h',g,d,t,os⟩):wpAny (model prog w) A (call (.builtin "ValueError.__init__") (.ref e::rest)) Q E ⟨h,g,d,t,os⟩:=by
 obtain⟨nm,qn,N,bs,sn,sub,ab,col,dd,k0,k1,k2,k3,k5,mN,hC,hN,hi,T,_⟩:=yq X q
 have F:=zo2
 have hz:rest.length≤sizeLine:=by rw[zp4];omega
 refine zq3 (zs6 F.init.plain F.initEntry (wpAny_check_init_subU F T hC he rfl ?_))
 unfold Builtin.«BaseException.__init__»
 wp_walk
 refine hq _ h.objs.size (fun b o hb z=>?_) ?_
 ·rw[zl0 _ _ (zr9 hb)]
  exact zj3 _ z
 ·rw[zn7 _ (zj3 _ he) rfl]
  rfl
theorem mh {ox:Obj}(he:h.get? e=some ox)(hc:ox.cls=.ref C)(hd:∃vs,ox.data=.fields vs){od:Option Obj}(hdx:match ox.dict,od with
  |some dx,some o=>h.get? dx=some o
  |none,none=>True
  |_,_=>False):InstAt h e ox C od:=⟨he,hc,by obtain⟨vs,hd⟩:=hd;unfold notCls;rw[hd],hdx⟩
theorem zg0 {name:Str}{v:Value}{Q:Unit→Shared→Prop}(X:K.In h)(q:yR K C S init=true)(hs:findIn K (.ref C) "__setattr__"=some (some (.builtin "object.__setattr__")))(hn:findIn K (.ref C) name=some none)(he:h.get? e=some (wg C t0 none))
  (hq:∀h' dx tk',h.objs.size≤dx→(∀b o,b≠e→h.get? b=some o→h'.get? b=some o)→h'.get? e=some (wg C t0 (some dx))→h'.Ns1 dx (fun y=>if y=name then some v else none)→Q () ⟨h',g,d,tk',os⟩):wpAny (model prog w) A (setAttr (.ref e) name v) Q E ⟨h,g,d,t,os⟩:=by
 obtain⟨nm,qn,N,bs,sn,sub,ab,col,dd,k0,k1,k2,k3,k5,mN,hC,hN,hi,T,cd,hcd,hdict,hmro,_⟩:=yq X q
 have I:InstAt h e (wg C t0 none) C none:=mh he rfl ⟨_,rfl⟩ trivial
 refine set_plain (s:=⟨h,g,d,t,os⟩) X I hs ?_
 have SF:=PySem.F.store_object
 have sub:Looks (model prog w) h (isInstance (.ref e) (.type "object")) true:=I.type.andThen (looks_mroIn X (by unfold mroIn;rw[hcd,zr2,hmro]<;>rfl))
 refine zs6 SF.slot.plain SF.entry (@check_slot (model prog w) _ _ ⟨h,g,d,t+1,os⟩ "object.__setattr__" "object" "__setattr__" (.ref e) [.str name t,v] [] _ SF.kind SF.split sub (SF.args (.ref e) (.str name t) v) ?_)
 have hm:Looks (model prog w) h (mroOf (.ref C)) (.ref C::.ref S::bmV):=hmro▸(looks_clsIn X hcd).andThen .now
 rw[osa_eq,refuse_eq]
 refine zj2 (zj2 (I.type.at (zj2 (hm.at ?_))))
 rw[refuseLoop_ref,refuseLoop_ref,show refuseLoop (.ref e) "__setattr__" bmV=pure () from PySem.F.store_ValueError.passes _]
 refine zk4 (zj2 (I.type.at (zj2 ((looks_findIn X hn).at (zj2 (zk4 ?_))))))
 show wpAny _ _ (storeInOwnDict (.ref e) (.ref C) (.str name t) name v false) _ _ _
 refine zj2 (zk4 (zj2 (zj2 (zo4 he (zj2 ((looks_clsIn X hcd).at ?_))))))
 rw[hdict]
 have hx₁:(h.push {cls:=.type "dict",data:=.dict #[]}).get? e=some (wg C t0 none):=zj3 _ he
 have hxs:e≠h.objs.size:=zl8 (zj9 he)
 refine zj2 (wpAny_alloc' ?_)
 refine zj2 (wpAny_update' hx₁ ?_)
 refine zk4 ?_
 generalize hh1:((h.push {cls:=.type "dict",data:=.dict #[]}).update e fun o=>{cls:=o.cls,dict:=some h.objs.size,data:=o.data,slots:=o.slots})=h1
 have hgd:h1.get? h.objs.size=some {cls:=.type "dict",data:=.dict #[]}:=by
  rw[←hh1]
  exact (Heap.get?_update_ne _ _ _ _ hxs.symm).trans (Heap.get?_push_at rfl rfl)
 have hnd:h1.Ns h.objs.size (fun _=>none):=⟨_,#[],_,hgd,rfl,fun e he=>absurd he (by simp),fun _=>rfl⟩
 show wpAny _ _ (storeInDict h.objs.size (.str name t) name v) _ _ _
 unfold storeInDict newKeyGuard
 refine zj2 (zk4 (zj2 (wpAny_nsSet1 (Heap.Ns1.of_empty hnd) fun h' hn' hs=>?_)))
 obtain⟨oD,esD,epD,hoD,hdD,hcD⟩:=hn'.count (Within.cons name v Within.nil)
 refine zj2 (wpAny_lookBehind hoD (by rw[hdD];exact pastItsLine_dict (zl2 hcD (by rw[zk5,List.length_nil,zp4];omega))) ?_)
 refine zk4 (hq h' h.objs.size _ (zj8 _) (fun b o hb z=>?_) ?_ hn')
 ·refine (hs.2 b (zl8 (zj9 z))).trans ?_
  rw[←hh1]
  exact (Heap.get?_update_ne _ _ _ _ hb).trans (zj3 _ z)
 ·refine (hs.2 e hxs).trans ?_
  rw[←hh1]
  exact zn7 _ hx₁ rfl
end
structure XC (K:Frag)(C S:Addr)(init:Option Value):Prop where
 ok:yR K C S init=true
 sa:findIn K (.ref C) "__setattr__"=some (some (.builtin "object.__setattr__"))
 ga:findIn K (.ref C) "__getattribute__"=some (some (.builtin "BaseException.__getattribute__"))
 gt:findIn K (.ref C) "__getattr__"=some none
 cl:findIn K (.ref C) "__class__"=some (some (.builtin "object.__class__"))
 cg:specialIn K (.builtin "object.__class__") "__get__"=some (some (.builtin "getset_descriptor.__get__"))
 ct:takesIn K (.builtin "object.__class__")=some true
section
variable {prog:Program}{w:World}{A:Around}{E:Value→Shared→Prop}{h:Heap}{g:Array GenState}{d:Drawn}{t:Nat}{os:OsState}{K:Frag}{C S e t0:Addr}{init:Option Value}
theorem pd {name:Str}{tk:Tok}{fill expr:Bool}{ox:Obj}{od:Option Obj}{Q:Value→Shared→Prop}(X:K.In h)(c:XC K C S init)(I:InstAt h e ox C od)
  (hq:wpAny (model prog w) A.in1 (Builtin.«object.__getattribute__» ⟨[.ref e,.str name tk],[]⟩) (fun fin s'=>match fin with|.done (.ret v)=>wpAny (model prog w) A (handedOut v) Q E s'|_=>False) (fun _ _=>False) ⟨h,g,d,t,os⟩):
  wpAny (model prog w) A (getAttrBy (.ref e) (.str name tk) fill expr) Q E ⟨h,g,d,t,os⟩:=by
 obtain⟨nm,qn,N,bs,sn,sub,ab,col,dd,k0,k1,k2,k3,k5,mN,hC,hN,hi,T,cd,hcd,hdict,hmro,_⟩:=yq X c.ok
 have FA:=PySem.F.attr_ValueError
 unfold getAttrBy
 refine zq8 (zj2 (I.type.at (zj2 ((looks_findIn X c.ga).at ?_))))
 have hx2:(Value.builtin "BaseException.__getattribute__" == Value.builtin "object.__getattribute__")=false:=by decide +kernel
 dsimp only
 rw[hx2,Bool.and_false,if_neg (by decide)]
 have hb:Looks (model prog w) h (hookBefore (.ref C)) none:=looks_hook X (by rw[if_pos (show onTheHeap (.ref C)=true from rfl)];exact c.gt)
 refine zj2 (hb.at (zj2 (wpAny_attempt (zq8 ?_))))
 unfold callGetattribute
 rw[show (expr&&onTheHeap (Value.builtin "BaseException.__getattribute__"))=false from Bool.and_false _,if_neg (by decide)]
 unfold boundAndCalled
 rw[FA.ga.bind]
 refine zj2 (zk4 ?_)
 have sub:Looks (model prog w) h (isInstance (.ref e) (.type "BaseException")) true:=I.type.andThen (looks_mroIn X (by unfold mroIn;rw[hcd,zr2,hmro]<;>rfl))
 show wpAny _ _ (call (.builtin "BaseException.__getattribute__") [.ref e,.str name tk]) _ _ _
 refine zq3 (zs6 FA.ga.plain PySem.F.entry_bexc_ga (@check_slot (model prog w) _ _ ⟨h,g,d,t,os⟩ "BaseException.__getattribute__" "BaseException" "__getattribute__" (.ref e) [.str name tk] [] _ (by decide +kernel) (by decide +kernel) sub (PySem.F.args_bexc_ga (.ref e) (.str name tk)) ?_))
 refine zn1 hq (fun fin s' z=>?_) fun _ _ z=>z.elim
 rcases fin with (_|_|_|_)|_<;>first|exact z|exact z.elim
theorem ze2 {name:Str}{v:Value}{expr:Bool}{ox od:Obj}{Q:Value→Shared→Prop}(X:K.In h)(c:XC K C S init)(I:InstAt h e ox C (some od))(hf:findObj K C (some od) name=some (.value v))(hh:handedIn v=true)(hq:Q v ⟨h,g,d,t+1,os⟩):
  wpAny (model prog w) A (getAttr (.ref e) name expr) Q E ⟨h,g,d,t,os⟩:=by
 unfold getAttr
 refine zj2 (wpAny_mkText (pd X c I ?_))
 unfold Builtin.«object.__getattribute__»
 refine zj2 (zk4 (zj2 (zk4 (zj2 (I.type.at (zj2 ((looks_find X I hf).at ?_)))))))
 refine zk4 ?_
 show wpAny _ _ (handedOut v) _ _ _
 rw[handedOut_of hh]
 exact zk4 hq
theorem cU {ox:Obj}{od:Option Obj}{Q:Option Value→Shared→Prop}(X:K.In h)(c:XC K C S init)(I:InstAt h e ox C od)(hq:Q (some (.ref C)) ⟨h,g,d,t+1,os⟩):wpAny (model prog w) A (getAttr? (.ref e) "__class__") Q E ⟨h,g,d,t,os⟩:=by
 obtain⟨nm,qn,N,bs,sn,sub,ab,col,dd,k0,k1,k2,k3,k5,mN,hC,hN,hi,T,cd,hcd,hdict,hmro,_⟩:=yq X c.ok
 have hf:findObj K C od "__class__"=some (.bind (.builtin "getset_descriptor.__get__") (.builtin "object.__class__")):=by
  unfold findObj
  rw[hcd,zr2,c.cl,zr2]
  dsimp only
  rw[c.cg,zr2]
  dsimp only
  rw[c.ct]
  rfl
 unfold getAttr? getAttrBy?
 refine zj2 (wpAny_mkText (zj2 (wpAny_attempt (pd X c I ?_))))
 unfold Builtin.«object.__getattribute__»
 refine zj2 (zk4 (zj2 (zk4 (zj2 (I.type.at (zj2 ((looks_find X I hf).at ?_)))))))
 show wpAny _ _ (bindTo _ _ _ _) _ _ _
 have hm:mroIn K C (.type "object")=some true:=by unfold mroIn;rw[hcd,zr2,hmro]<;>rfl
 refine zj2 (zq8 (zq3 (class_get (s:=⟨h,g,d,t+1,os⟩) (ox:=ox) (od:=od) X I hm ?_)))
 refine zk4 ?_
 exact handed_on rfl (zk4 hq)
theorem ir {ox:Obj}{od:Option Obj}(c:XC K C S init):KitX K (.ref e) (.ref C) (fun h=>InstAt h e ox C od) where
 ty:=fun _ _ _ I=>I.type
 it:=fun _ _ X _=>by
  obtain⟨nm,qn,N,bs,sn,sub,ab,col,dd,k0,k1,k2,k3,k5,mN,hC,_⟩:=yq X c.ok
  intro A' Q' E' s' k q
  unfold isType loadHead
  exact zj2 (wpAny_loadPart (k _ _ hC) (zk4 q))
 ne:=fun h tp dd its n sl X htp=>by
  obtain⟨nm,qn,N,bs,sn,sub,ab,col,dd,k0,k1,k2,k3,k5,mN,hC,_⟩:=yq X c.ok
  refine zm5.mpr fun q=>?_
  have e:C=tp:=Value.ref.inj (zp5.mp q)
  subst e
  cases (show Data.cls _=Data.seq _ _ from congrArg Obj.data (zl3 (hC.symm.trans htp)))
 ca:=fun {_ _ _ _ _ s} X I k=>by obtain⟨h,g,d,t,os⟩:=s;exact cU X c I k
structure XB (K:Frag)(C B:Addr):Prop where
 ty:typeIn K (.ref B)=some (.type "type")
 be:mroIn K B (.type "BaseException")=some true
 sub:mroIn K C (.ref B)=some true
theorem bq {B:Addr}{ox:Obj}{od:Option Obj}{Q:Bool→Shared→Prop}(X:K.In h)(b:XB K C B)(I:InstAt h e ox C od)(hq:Q true ⟨h,g,d,t,os⟩):wpAny (model prog w) A (excMatches (.ref e) (.ref B)) Q E ⟨h,g,d,t,os⟩:=by
 have l1:Looks (model prog w) h (isType (.ref B)) true:=by
  obtain⟨cd,hcd,_⟩:=Option.bind_eq_some_iff.mp b.be
  unfold clsIn at hcd
  split at hcd
  ·rename_i c' d' cd' sl' ho
   intro A' Q' E' s' k q
   unfold isType loadHead
   exact zj2 (wpAny_loadPart (k _ _ (X _ _ ho)) (zk4 q))
  ·cases hcd
 have l2:Looks (model prog w) h (isExcClass (.ref B)) true:=l1.andThen (by rw[if_pos rfl];exact looks_mroIn X b.be)
 have l3:Looks (model prog w) h (isInstance (.ref B) (.type "tuple")) false:=(looks_typeIn X b.ty).andThen (Looks.of_pure tc_notTuple)
 have l4:=looks_mroIn (M:=model prog w) X b.sub
 have l5:=I.type (M:=model prog w)
 unfold excMatches
 refine zj2 (l3.at ?_)
 rw[if_neg (by decide)]
 refine zj2 (zk4 ?_)
 simp only[List.forIn_cons,List.forIn_nil]
 refine zj2 (zj2 (zj2 (l2.at ?_)))
 refine zk4 (zk4 (zj2 (l5.at (zj2 (zj2 (zj2 (l4.at ?_)))))))
 exact zk4 (zk4 (zk4 hq))
end
def xcF (a C:Addr)(d:Option Addr):HO:=.ext fun h=>∃t,h.get? a=some (wg C t d)
section
variable {X:Cx}{pins:List (Addr×Obj)}{σ:St}{H:Hp}{s:Shared}{a C:Addr}{d:Option Addr}{pos:Pos}
theorem pV {P:Program}{w:World}{H':Hp}{h:Heap}{t:Addr}(e:h.get? a=some (wg C t d)):zY P w H' h a (xcF a C d):=⟨⟨t,e⟩,⟨_,e⟩,fun _ _ ⟨t,e⟩ k=>⟨t,k _ e⟩⟩
theorem Inv.xat (I:Inv X pins σ H s)(e:H a=some (xcF a C d)):∃t,s.heap.get? a=some (wg C t d):=(I.hok a _ e).1
theorem kU {o:HO}(e:H a=some o):upd H a o=H:=by
 funext b
 unfold upd
 split
 ·rename_i z;rw[z,e]
 ·rfl
theorem Inv.xthaw (I:Inv X pins σ H s)(e:H a=some (xcF a C d)):Inv X pins σ (upd H a (xcO a C d)) s:=by
 obtain⟨t,h⟩:=I.xat e
 have:=I.write (x:=a) (e:=a) (o:=xcO a C d) (h':=s.heap) (t':=s.toks) (by rw[e];exact True.intro) (.inl rfl) (fun _ _ _ q=>q) ⟨_,h⟩ ⟨⟨_,_,h,rfl,rfl,rfl⟩,⟨_,h⟩,fun _ _ ⟨o,vs,h1,h2⟩ k=>⟨o,vs,k _ h1,h2⟩⟩
 exact this
theorem fj {e:Expr}{te:TE}(he:PE X e te):PE X (.FormattedValue e (-1) none pos) (fun σ H Q=>te σ H fun x H1=>∃i:Int,x=.int i∧i.natAbs.log2<1920∧Q (.str (toString i)) H1):=by
 intro pins s σ H Q I h
 refine FormattedValue_plain (thn (he pins s σ H _ I h) fun u s1 ⟨x,H1,I1,rx,i,ex,hi,q⟩=>?_)
 subst ex
 obtain⟨t,rfl⟩:=(show ∃t,u=Value.int i t from rx)
 exact formatField_int_small hi ⟨.str (toString i),H1,I1.tok _,⟨_,rfl⟩,q⟩
def tJ (t:TE)(k:Str→TE):TE:=fun σ H Q=>t σ H fun x H1=>∃a,x=.str a∧a.length≤10000∧k a σ H1 Q
theorem qJ {a b c:Expr}{ta tb tc:TE}(ha:PE X a ta)(hb:PE X b tb)(hc:PE X c tc):PE X (.JoinedStr [a,b,c] pos) (tJ ta fun x=>tJ tb fun y=>tJ tc fun z=>fun _ H Q=>Q (.str (Str.empty++x++y++z)) H):=by
 intro pins s σ H Q I h
 refine PyProof.Rows.JoinedStr_many (joinParts_cons (thn (ha pins s σ H _ I h) fun u s1 ⟨x,H1,I1,rx,x',ex,lx,h1⟩=>?_))
 subst ex
 obtain⟨t1,rfl⟩:=(show ∃t,u=Value.str x' t from rx)
 have e0:Str.empty.length=0:=rfl
 refine⟨by rw[zm3,zp4];omega,joinParts_cons (thn (hb pins s1 σ H1 _ I1 h1) fun u s2 ⟨y,H2,I2,ry,y',ey,ly,h2⟩=>?_)⟩
 subst ey
 obtain⟨t2,rfl⟩:=(show ∃t,u=Value.str y' t from ry)
 refine⟨by rw[zm3,zm3,zp4];omega,joinParts_cons (thn (hc pins s2 σ H2 _ I2 h2) fun u s3 ⟨z,H3,I3,rz,z',ez,lz,h3⟩=>?_)⟩
 subst ez
 obtain⟨t3,rfl⟩:=(show ∃t,u=Value.str z' t from rz)
 have hl:(Str.empty++x'++y'++z').length≤sizeLine:=by rw[zm3,zm3,zm3,zp4];omega
 exact⟨hl,joinParts_nil ⟨.str (Str.empty++x'++y'++z'),H3,I3.tok _,⟨_,rfl⟩,h3⟩ hl⟩
theorem nV {i:Int}(h:i.natAbs.log2<1920):(Str.ofString (toString i)).length≤10000:=by
 have e:=int_text_length_le (k:=1920) (by decide) h
 rw[PySem.ofString_length];omega
structure XS (K:PySem.W.Frag)(S:Addr):Prop where
 rd:PySem.W.readsIn K S (.type "type")=true
 fi:PySem.W.findCls K (.ref S) (.type "type") "__init__"=some (.val (.builtin "ValueError.__init__"))
 ga:PySem.W.specialIn K (.ref S) "__getattribute__"=some (some (.builtin "type.__getattribute__"))
theorem gJ {pl:Sem Bool}{sn:Str}{S:Addr}{init:Option Value}{p apos:Pos}{e:Expr}{es:List Expr}{ta:TA}(hg:Gl X sn)(hm:X.mg sn=some (.ref S))(xs:XS X.K S)(c:yR X.K C S init=true)(ha:PA X (e::es) ta)(hdb:(sn == ("__debug__":Str))=false:=by decide)
  (hst:starEach (e::es) X.env=(false,eval e X.env)::starEach es X.env:=by rfl) (hpl:(backTo pos (starEach es X.env)).any (·.1)=false:=by rfl)
  (ht:eval (.Call (.Attribute (.Name sn p) "__init__" apos) (e::es) [] pos) X.env=(do
   let ov ←eval (.Name sn p) X.env
   standAt apos.atName
   let (f,first) ←holding [ov] (getMethod ov "__init__" pl)
   callWith pos f first (backTo pos (starEach (e::es) X.env)) (backToKw pos (keywordEach [] X.env))):=by rfl):
  PE X (.Call (.Attribute (.Name sn p) "__init__" apos) (e::es) [] pos) (fun σ H Q=>ta σ H fun vs H1=>∃a rest d,vs=.ref a::rest∧rest.length≤100∧H1 a=some (xcF a C d)∧Q .non H1):=by
 intro pins s σ H Q I h
 refine zs0 (pl:=pl) (yM I hg hm ?_ hdb) ht
 refine PySem.W.method_cls I.kIn xs.ga (PySem.W.cls_value I.kIn xs.rd xs.fi (by decide +kernel) ?_)
 refine PyProof.Rows.callWith_builtin1 (thn (ha pos pins _ σ H _ (I.tok (s.toks+1)) h) fun us s1 ⟨vs,H1,I1,r1,a,rest,d,ev,lr,ea,q⟩=>?_) hst hpl
 subst ev
 obtain⟨t,hx⟩:=I1.xat ea
 cases r1 with
 |@cons _ u _ us r0 r1=>
  obtain rfl:u=Value.ref a:=r0
  obtain⟨h1,g1,d1,t1,o1⟩:=s1
  refine ni I1.kIn c hx (by have:=r1.length;omega) fun h' t' hk he=>?_
  have I2:=I1.write (x:=a) (e:=a) (o:=xcF a C d) (h':=h') (t':=t1) (by rw[ea];exact True.intro) (.inl rfl) (fun b u hb q=>hk b u hb q) ⟨_,he⟩ (pV he)
  rw[kU ea] at I2
  exact⟨.non,H1,I2,rfl,q⟩
theorem Inv.xput {h':Heap}{t':Nat}{dx t:Addr}{f:Str}{y:V}{u:Value}(I:Inv X pins σ H s)(ea:H a=some (xcF a C none))(hdx:s.heap.objs.size≤dx)(hk:∀b o,b≠a→s.heap.get? b=some o→h'.get? b=some o)(he:h'.get? a=some (wg C t (some dx)))(hn:h'.Ns1 dx (fun z=>if z=f then some u else none))(ry:RelV y u):
  Inv X pins σ (upd (upd H dx (.xd [(f,y)])) a (xcF a C (some dx))) {s with heap:=h',toks:=t'}:=by
 have hf:H dx=none:=I.hok.fresh hdx
 have da:dx≠a:=fun z=>by rw[z,ea] at hf;cases hf
 have lt:∀{b:Addr} {o:Obj},s.heap.get? b=some o→b≠dx:=fun {b o} q z=>absurd (zj9 q) (by rw[z];exact Nat.not_lt.mpr hdx)
 have na:∀{b:Addr},H b=none→b≠a:=fun {b} n z=>by rw[z,ea] at n;cases n
 have nn:∀{b:Addr} {o:HO},H b=some o→b≠dx:=fun {b o} q z=>by rw[z,hf] at q;cases q
 have keepH:∀{b:Addr} {o:HO},H b=some o→b≠a→(upd (upd H dx (.xd [(f,y)])) a (xcF a C (some dx))) b=some o:=fun {b o} q z=>by rw[zg z,zg (nn q)];exact q
 refine I.un ⟨fun b o q n _ _=>hk b o (na n) q,fun b o q n _ _=>⟨o.slots,hk b o (na n) q⟩,fun b o q n _=>by rw[zg (na n),zg (lt q)];exact n,fun b o q _=>?_,fun b xs q=>keepH q (fun z=>by rw[z,ea] at q;cases q),fun b o u q=>keepH q (fun z=>by rw[z,ea] at q;cases q),fun b ps q=>⟨#[],by rw[Array.append_empty];exact keepH q (fun z=>by rw[z,ea] at q;cases q)⟩⟩ fun b o q=>?_
 ·by_cases z:b=a
  ·subst z;exact⟨_,he⟩
  ·exact⟨o,hk b o z q⟩
 ·by_cases z:b=a
  ·subst z
   rw[zj] at q;cases q
   exact pV he
  ·rw[zg z] at q
   by_cases z2:b=dx
   ·subst z2
    rw[zj] at q;cases q
    refine⟨_,hn,fun g=>?_⟩
    show wU (([(f,y)]:List (Str×V)).lookup g) (if g=f then some u else none)
    by_cases zz:g=f
    ·subst zz
     rw[if_pos rfl]
     simp only[zn5,beq_self_eq_true]
     exact ry
    ·rw[if_neg zz]
     have:(g == f)=false:=by simpa using zz
     simp only[zn5,this,List.lookup_nil]
     trivial
   ·rw[zg z2] at q
    refine (I.hok b o q).stay (fun c v hc e=>hk c v ?_ e) (fun c e=>keepH e (fun z=>by rw[z,ea] at e;cases e)) fun c xs e=>keepH e (fun z=>by rw[z,ea] at e;cases e)
    rcases hc with rfl|hc
    ·exact z
    ·intro z3;rw[z3,ea] at hc;cases hc
theorem fv {o value:Expr}{ta tv:TE}{f:Str}{S:Addr}{init:Option Value}{pos':Pos}(ha:PE X o ta)(hv:PE X value tv)(c:XC X.K C S init)(hn:PySem.W.findIn X.K (.ref C) f=some none)(hs:swapsWith value (some (.Attribute o f pos')) pos.line X.env=pure false:=by rfl):
  PS X (.Assign [.Attribute o f pos'] value pos) (fun D σ H=>tv σ H fun y H1=>ta σ H1 fun x H2=>∃a,x=.ref a∧H2 a=some (xcF a C none)∧∀dx,H2 dx=none→dx≠a→D.nx σ (upd (upd H2 dx (.xd [(f,y)])) a (xcF a C (some dx)))):=by
 intro pins s σ H D I h
 refine plainObj_wpAny_Assign_Attribute (thn (hv pins s σ H _ I h) fun u s1 ⟨y,H1,I1,ry,q⟩=>thn (ha pins s1 σ H1 _ I1 q) fun ov s2 ⟨x,H2,I2,rx,a,ex,ea,q2⟩=>?_) hs
 subst ex
 obtain rfl:ov=Value.ref a:=rx
 obtain⟨t,hx⟩:=I2.xat ea
 obtain⟨h2,g2,d2,t2,o2⟩:=s2
 refine zg0 I2.kIn c.ok c.sa hn hx fun h' dx tk' hdx hk he hn'=>⟨σ,_,I2.xput ea hdx hk he hn' ry,q2 dx (I2.hok.fresh hdx) fun z=>?_⟩
 have:=I2.hok.fresh hdx
 rw[z,ea] at this;cases this
end
section
variable {prog:Program}{w:World}{A:Around}{E:Value→Shared→Prop}{h:Heap}{g:Array GenState}{d:Drawn}{t:Nat}{os:OsState}
variable {nm q:Str}{C N:Addr}{bs bm bmB:List Value}{hdct:Bool}{sn:List Str}{sub:List Value}{ab:Bool}{col:Option Bool}{dd:Option Addr}{k0 k1 k2 k3 k5:Option Value}{B Bn newId nid initId inN:String}{bmN:List Value}
theorem qX (Fn:ExcBaseFacts Bn newId inN bmN)(hBn:bmB.contains (.type Bn)=true)(F:ExcBaseFacts B nid initId bmB)(T:OwnTail h bmB bm){mN:Str→Option Value}{rest:List Value}{Q:Fin→Shared→Prop}
  (hC:h.get? C=some (excClassObj nm q C N bs bm hdct sn sub ab col dd k0 k1 k2 k3 k5 newId)) (hn:h.Ns N mN) (hni:mN "__init__"=none)
  (hq:∀h' t',(∀b o,h.get? b=some o→h'.get? b=some o)→h'.get? (h.objs.size+1)=some (wg C t' none)→Q (.done (.ret (.ref (h.objs.size+1)))) ⟨h',g,d,t,os⟩) (hrest:rest.length≤sizeLine):
  wpAny (model prog w) A (Builtin.«type.__call__» ⟨.ref C::rest,[]⟩) Q E ⟨h,g,d,t,os⟩:=by
 repeat (first|with_reducible refine zo4 hC ?_|with_reducible refine wpAny_madeBy_exc hC ?_|wp_step)
 refine codeAny_call_builtin_code (zt1 _ Fn.quiet) (wpAny_check_new_subU Fn hBn T hC ?_)
 refine codeAny_exc_new_subU Fn hBn F T hC ?_ hrest
 show wpAny _ _ _ _ _ ⟨yO h C rest,g,d,t,os⟩
 have keep:∀b o,h.get? b=some o→(yO h C rest).get? b=some o:=fun b o e=>zj3 _ (zj3 _ e)
 have hC₁:=keep _ _ hC
 have hn₁:(yO h C rest).Ns N mN:=let ⟨o,es,ep,e,r⟩:=hn;⟨o,es,ep,keep _ _ e,r⟩
 have hget:(yO h C rest).get? (h.objs.size+1)=some (wg C h.objs.size none):=by unfold yO;heap_get
 have hcC:(Value.ref C::bm).contains (.ref C)=true:=by simp
 have T₁:=T.keeps keep
 unfold isInstance
 repeat (first|with_reducible refine zo4 hget ?_|(with_reducible refine wpAny_isSubtype_exc hC₁ ?_;rw[hcC])|wp_step)
 show wpAny _ _ (typeLookup (.ref C) _) _ _ _
 refine wpAny_typeLookup_tail hC₁ hn₁ T₁ F.mroIs F.init.lookup ?_
 rw[hni]
 refine zq8 (zj2 (wpAny_of_eq (F.init.bind _) ?_))
 refine zj2 (zq3 (zs6 F.init.plain F.initEntry (wpAny_check_init_subU F T₁ hC₁ hget rfl ?_)))
 wp_walk
 refine hq _ (yO h C rest).objs.size (fun b o hb=>?_) ?_
 ·rw[zl0 _ _ (zt0 (Nat.lt_succ_of_lt (zj9 hb)))]
  exact zj3 _ (keep _ _ hb)
 ·rw[zn7 _ (zj3 _ hget) rfl]
  rfl
theorem cS (Fn:ExcBaseFacts Bn newId inN bmN)(hBn:bmB.contains (.type Bn)=true)(F:ExcBaseFacts B nid initId bmB)(T:OwnTail h bmB bm){mN:Str→Option Value}{rest:List Value}{Q:Value→Shared→Prop}
  (hC:h.get? C=some (excClassObj nm q C N bs bm hdct sn sub ab col dd k0 k1 k2 k3 k5 newId)) (hn:h.Ns N mN) (hni:mN "__init__"=none)
  (hq:∀h' t',(∀b o,h.get? b=some o→h'.get? b=some o)→h'.get? (h.objs.size+1)=some (wg C t' none)→Q (.ref (h.objs.size+1)) ⟨h',g,d,t,os⟩) (hrest:rest.length≤sizeLine):
  wpAny (model prog w) A (call (.ref C) rest) Q E ⟨h,g,d,t,os⟩:=by
 have f1:=tc_lookup
 have f2:=tc_bind (.ref C)
 have hT:(⟨h,g,d,t,os⟩:Shared).TypeIs (.ref C) "type":=⟨_,hC,rfl⟩
 refine zq3 (codeAny_of_tree ?_)
 show wpAny _ _ (callAny (.ref C) _) _ _ _
 repeat (any_goals (first|assumption|with_reducible refine zo4 hC ?_|wp_step))
 refine⟨rfl,?_⟩
 exact codeAny_call_builtin_at (zt1 _ (by decide +kernel)) entry_typeCall (wpAny_check_type_call_sub hC (qX Fn hBn F T hC hn hni hq hrest))
end
section
variable {X:Cx}{pins:List (Addr×Obj)}{σ:St}{H:Hp}{s:Shared}{k:Nat}{f C S:Addr}{fd:FuncData}{ps:List Str}{sp:Sp}{x:Str}{p pos:Pos}{e:Expr}{es:List Expr}{t:TA}
theorem Inv.xmade {h':Heap}{t':Addr}(I:Inv X pins σ H s)(hk:∀b o,s.heap.get? b=some o→h'.get? b=some o)(he:h'.get? (s.heap.objs.size+1)=some (wg C t' none)):Inv X pins σ (upd H (s.heap.objs.size+1) (xcF (s.heap.objs.size+1) C none)) {s with heap:=h'}:=
 I.laid (t':=s.toks) hk (zr5 _) (pV he)
theorem js (c:yR X.K C S (some (.ref f))=true)(hfn:PySem.W.typeIn X.K (.ref f)=some (.type "function"))(kp:PySem.W.keepIn X.K (.ref C)=true)(F:zr X.prog X.w X.K X.mg X.base CX0 k f fd ps sp)(hr:zG (k+1) X.A)(hg:Gl X x)(hm:X.mg x=some (.ref C))(hb:Binds X.K fd ps [])
  (ha:PA X (e::es) t) (hdb:(x == ("__debug__":Str))=false:=by decide) (he:starEach (e::es) X.env=(false,eval e X.env)::starEach es X.env:=by rfl) (hpl:(backTo pos (starEach es X.env)).any (·.1)=false:=by rfl):
  PE X (.Call (.Name x p) (e::es) [] pos) (fun σ H Q=>t σ H fun vs H1=>vs.length≤100∧∀a,H1 a=none→sp (.ref a::vs) (upd H1 a (xcF a C none)) (fun v H2=>v=.non∧Q (.ref a) H2) E0):=by
 intro pins s σ H Q I h
 refine zo1 (yM I hg hm ?_ hdb)
 refine zo6 (h₀:=X.base) I.ok.mod.kin kp (thn (ha pos pins s σ H _ I h) fun us s1 ⟨vs,H1,I1,r,lv,q⟩=>⟨I1.kIn,?_⟩) he hpl
 obtain⟨nm,qn,N,bs,sn,sub,ab,col,dd,k0,k1,k2,k3,k5,mN,hC,hN,hi,T,_⟩:=yq I1.kIn c
 obtain⟨oI,lI,cI⟩:=zm9.mp hfn
 have hfI:=I1.kIn _ _ lI
 have hl:=r.length
 have hq:=q (s1.heap.objs.size+1) (I1.hok.fresh (zr5 _))
 obtain⟨h0,g,d,tk,os⟩:=s1
 refine zb7 zo2 (by decide +kernel) zo2 T hC hN hi hfI cI ?_ (by show us.length≤_;rw[zp4];omega)
 have keep:∀b o,h0.get? b=some o→(yO h0 C us).get? b=some o:=fun b o e=>zj3 _ (zj3 _ e)
 have hget:(yO h0 C us).get? (h0.objs.size+1)=some (wg C h0.objs.size none):=by unfold yO;heap_get
 have I2:=I1.xmade (h':=yO h0 C us) keep hget
 have r2:Vals (V.ref (h0.objs.size+1)::vs) (Value.ref (h0.objs.size+1)::us):=.cons rfl r
 have hl2:(Value.ref (h0.objs.size+1)::us++[]).length=ps.length:=by
  have e:=r2.length
  rw[F.len _ _ _ _ hq] at e
  rw[zo0]
  exact e.symm
 have hbb:=hb _ (Value.ref (h0.objs.size+1)::us) I2.kIn hl2
 rw[zo0] at hbb
 refine zq3 (zs1 (F.run _ X.stack _ _ ⟨Value.ref (h0.objs.size+1)::us,[]⟩ _ _ _ E0 (hr.make C us []) (I2.env0.make C us []) hbb r2 hq) fun r s' hq'=>?_)
 cases r with
 |error e=>exact (hq':False).elim
 |ok fl=>
  cases fl with
  |ret u=>
   obtain⟨v,H',I3,rv,ev,q3⟩:=I2.after hq'
   subst ev
   exact⟨rv,⟨V.ref (h0.objs.size+1),H',I3,rfl,q3⟩⟩
  |next=>exact False.elim hq'
  |brk=>exact False.elim hq'
  |cont=>exact False.elim hq'
theorem mZ (c:yR X.K C S none=true)(kp:PySem.W.keepIn X.K (.ref C)=true)(hg:Gl X x)(hm:X.mg x=some (.ref C))
  (ha:PA X (e::es) t) (hdb:(x == ("__debug__":Str))=false:=by decide) (he:starEach (e::es) X.env=(false,eval e X.env)::starEach es X.env:=by rfl) (hpl:(backTo pos (starEach es X.env)).any (·.1)=false:=by rfl):
  PE X (.Call (.Name x p) (e::es) [] pos) (fun σ H Q=>t σ H fun vs H1=>vs.length≤100∧∀a,H1 a=none→Q (.ref a) (upd H1 a (xcF a C none))):=by
 intro pins s σ H Q I h
 refine zo1 (yM I hg hm ?_ hdb)
 refine zo6 (h₀:=X.base) I.ok.mod.kin kp (thn (ha pos pins s σ H _ I h) fun us s1 ⟨vs,H1,I1,r,lv,q⟩=>⟨I1.kIn,?_⟩) he hpl
 obtain⟨nm,qn,N,bs,sn,sub,ab,col,dd,k0,k1,k2,k3,k5,mN,hC,hN,hi,T,_⟩:=yq I1.kIn c
 have hl:=r.length
 have hq:=q (s1.heap.objs.size+1) (I1.hok.fresh (zr5 _))
 obtain⟨h0,g,d,tk,os⟩:=s1
 refine cS zo2 (by decide +kernel) zo2 T hC hN hi (fun h' t' hk he=>?_) (by show us.length≤_;rw[zp4];omega)
 exact⟨.ref (h0.objs.size+1),_,I1.xmade hk he,rfl,hq⟩
theorem qQ {X0:Cx}{R:St→Addr→Hp→Prop}{te:TE}{init:Option Value}(c:yR X0.K C S init=true)(hc:X0.calm=true)(he:PE (X0.wish (XE X0 R)) e te):
  PS (X0.wish (XE X0 R)) (.Raise (some e) none pos) (fun D σ H=>te σ H fun x H1=>∃a d,x=.ref a∧H1 a=some (xcF a C d)∧R σ a (upd H1 a (xcO a C d))):=by
 intro pins s σ H D I h
 show wpAny _ _ (do standAt pos;raiseStmt X0.env (some (do let v ←eval e X0.env;standAt pos;pure v)) none) _ _ _
 obtain⟨nm,qn,N,bs,sn,sub,ab,col,dd,k0,k1,k2,k3,k5,mN,hC,hN,hi,T,_,_,_,_,lk⟩:=yq I.kIn c
 refine zj2 (zt9 (bB (C:=C) (nm:=nm) (q:=qn) (N:=N) (bs:=bs) (bm:=.ref S::bmV) (hdct:=true) (sn:=sn) (sub:=sub) (ab:=ab) (col:=col) (dd:=dd) (k0:=k0) (k1:=k1) (k2:=k2) (k3:=k3) (k5:=k5) (newId:="ValueError.__new__") (T.hasType zo2.hasBase) (I.ok.hd hc) (zj2 (thn (he pins s σ H _ I h) fun v s1 ⟨x,H1,I1,rx,a,d,ex,ea,r⟩=>zj2 (zt9 (zk4 ?_))))))
 subst ex
 obtain rfl:v=Value.ref a:=rx
 obtain⟨t',ha⟩:=I1.xat ea
 exact⟨a,t',d,rfl,I1.kIn _ _ lk,ha,⟨σ,_,a,rfl,(I1.xthaw ea).unwish.nopins,⟨C,d,zj⟩,.new ha rfl rfl,r⟩⟩
end
abbrev Cx.held (X:Cx)(pins:List (Addr×Obj)):Cx:={X with pn:=X.pn++pins}
abbrev Cx.suite (X:Cx)(a:Addr):Cx:={X with A:=X.A.mark (some (.ref a)),calm:=false,xe:=fun _ _=>False}
section
variable {X:Cx}{pins:List (Addr×Obj)}{σ:St}{H:Hp}{s:Shared}{a:Addr}{D:Ends}{f:Flow}
theorem Inv.held (I:Inv X pins σ H s):Inv (X.held pins) [] σ H s:=
 ⟨⟨I.ok.mod,I.ok.kind,I.ok.glob,I.ok.blt,I.ok.above,I.ok.inj,I.ok.has,I.ok.cab,I.ok.hd,I.ok.frames,I.ok.stk,I.ok.exf,I.ok.bs,I.ok.bsz,I.ok.noex,I.ok.exfs,I.ok.funs,I.ok.frf⟩,I.os,I.bare,I.base,I.loc,I.cell,I.free,I.freeC,fun p hp=>I.pin p (by simpa using hp),I.hok,I.len⟩
theorem Inv.unheld (I:Inv (X.held pins) [] σ H s):Inv X pins σ H s:=
 ⟨⟨I.ok.mod,I.ok.kind,I.ok.glob,I.ok.blt,I.ok.above,I.ok.inj,I.ok.has,I.ok.cab,I.ok.hd,I.ok.frames,I.ok.stk,I.ok.exf,I.ok.bs,I.ok.bsz,I.ok.noex,I.ok.exfs,I.ok.funs,I.ok.frf⟩,I.os,I.bare,I.base,I.loc,I.cell,I.free,I.freeC,fun p hp=>I.pin p (by simpa using hp),I.hok,I.len⟩
theorem Inv.suite (I:Inv X pins σ H s):Inv (X.suite a) pins σ H s:=
 ⟨⟨I.ok.mod,I.ok.kind,I.ok.glob,I.ok.blt,I.ok.above,I.ok.inj,I.ok.has,I.ok.cab,(fun z=>nomatch z),I.ok.frames,I.ok.stk,I.ok.exf,I.ok.bs,I.ok.bsz,I.ok.noex,I.ok.exfs,I.ok.funs,I.ok.frf⟩,I.os,I.bare,I.base,I.loc,I.cell,I.free,I.freeC,I.pin,I.hok,I.len⟩
theorem Inv.unsuite (J:Inv X [] σ H s){σ':St}{H':Hp}{s':Shared}(I:Inv (X.suite a) pins σ' H' s'):Inv X pins σ' H' s':=
 ⟨J.ok,I.os,I.bare,I.base,I.loc,I.cell,I.free,I.freeC,I.pin,I.hok,I.len⟩
theorem SP.held {E:Value→Shared→Prop}(h:SP ((X.held pins).wish E) [] D f s):SP X pins D f s:=by
 cases f with
 |next=>obtain⟨σ',H',I,q⟩:=h;exact⟨σ',H',I.unwish.unheld,q⟩
 |brk=>obtain⟨σ',H',I,q⟩:=h;exact⟨σ',H',I.unwish.unheld,q⟩
 |cont=>obtain⟨σ',H',I,q⟩:=h;exact⟨σ',H',I.unwish.unheld,q⟩
 |ret u=>obtain⟨v,σ',H',I,r,q⟩:=h;exact⟨v,σ',H',I.unwish.unheld,r,q⟩
theorem Inv.gone {M:Model}{A:Around}{E:Value→Shared→Prop}{Q:Unit→Shared→Prop}{i:Nat}{n:Str}{pos:Pos}(I:Inv X pins σ H s)(hN:X.N.Nodup)(hi:X.N[i]?=some n)(hl:X.env.scope.names.lookup n=some .local)
  (h:∀s',Inv X pins (σ.set i none) H s'→Q () s'):wpAny M A (do bindName X.env n .none;unbindBehindTheSuite X.env n pos) Q E s:=by
 obtain⟨m,hn,hlk⟩:=id I.loc
 have hcls:(X.env.scope.kind == .class||(X.env.scope.kind == .module&&X.env.locals != X.env.globals))=false:=by rw[I.ok.kind];rfl
 have hiσ:i<σ.length:=by rw[I.len];exact (zj6.mp hi).1
 have cne:=I.cne
 refine wpAny_nameGoes_keeps hl hn hcls fun h' v hn' hs=>?_
 obtain⟨oL,_,_,hoL,_⟩:=id hn
 have nl:∀{b:Addr} {o:Obj},X.s₀.heap.get? b=some o→b≠X.env.locals:=fun {b o} e=>zl8 (zl1 (zj9 e) I.ok.above)
 refine h _ ⟨I.ok,I.os,I.bare,⟨fun b o e n hb hx=>(hs.2 b (nl e)).trans (I.base.keep b o e n hb hx),fun b o e n hb hx=>?_,I.base.free,fun b o e hx=>?_,I.base.tups,I.base.frzs,I.base.tbls⟩,⟨_,hn',fun j y v' e1 e2 e3=>?_⟩,fun y c e=>?_,I.free,I.freeC,fun p hp=>?_,fun b ob e=>?_,by simpa using I.len⟩
 ·obtain⟨sl,e1⟩:=I.base.slot b o e n hb hx
  exact⟨sl,(hs.2 b (nl e)).trans e1⟩
 ·obtain⟨o',e1⟩:=I.base.there b o e hx
  exact⟨o',(hs.2 b (nl e)).trans e1⟩
 ·by_cases hj:j=i
  ·subst hj
   rw[zp0 hiσ] at e2
   cases e2
  ·rw[zn3 (zr9 hj)] at e2
   obtain⟨u',r',q⟩:=hlk j y v' e1 e2 e3
   refine⟨u',r',?_⟩
   rcases q with ⟨k,e⟩|⟨k,c,e,z⟩
   ·refine .inl ⟨k,?_⟩
    have:y≠n:=fun e=>hj (tq hN e1 (e▸hi))
    simp[this,e]
   ·exact .inr ⟨k,c,e,z.sameBut hs (cne y c e)⟩
 ·obtain⟨w',z⟩:=I.cell y c e
  exact⟨w',z.sameBut hs (cne y c e)⟩
 ·obtain⟨e,n,ne,nf,d⟩:=I.pin p hp
  exact⟨(hs.2 p.1 ne).trans e,n,ne,nf,d⟩
 ·refine (I.hok b ob e).stay (fun c w' hc q=>(hs.2 c ?_).trans q) (fun _ q=>q) fun _ _ q=>q
  rintro rfl
  rcases hc with rfl|hc
  ·rw[I.free] at e;cases e
  ·rw[I.free] at hc;cases hc
theorem Inv.caught {R:St→Addr→Hp→Prop}{E':Value→Shared→Prop}{Q:Flow→Shared→Prop}{e:Value}{hs:List ExceptHandler}(hst:X.stack=X.env::X.outer)(h:XE X R e s)
  (k:∀σ H a T s',Inv X [] σ H s'→(∃C d,H a=some (xcO a C d))→R σ a H→H T=none→X.s₀.heap.get? T=none→(∀p∈X.pn,p.1≠T)→Ent s'.heap X.base a T .none→wpAny (model X.prog X.w) X.A (handleBy (.ref a) X.env hs) Q E' s'):
  wpAny (model X.prog X.w) X.A (noteFrame e X.env) (fun _ s₂=>wpAny (model X.prog X.w) X.A (setFlight e none) (fun _ s₃=>wpAny (model X.prog X.w) X.A (handleBy e X.env hs) Q E' s₃) E' s₂) E' s:=by
 obtain⟨σ,H,a,rfl,I,ha,f,r⟩:=h
 refine I.note hst ha f fun h' T I' h1 h2 h3 h4=>?_
 refine I'.flight (fo:=none) hst ha h1 h2 (by simpa using h3) h4 fun h'' I'' e''=>?_
 exact k σ H a T _ I'' ha r h1 h2 h3 e''
theorem nU {P:Program}{w:World}{h:Heap}{C:Addr}{d:Option Addr}(hok:HOk P w H h)(e:H a=some (xcO a C d))(hd:∀dx,d=some dx→∃fs,H dx=some (.xd fs)):∃ox od,PySem.W.InstAt h a ox C od∧od.isSome=d.isSome:=by
 obtain⟨⟨o,vs,h1,h2,h3,h4⟩,_⟩:=hok a _ e
 cases d with
 |none=>exact⟨o,none,mh h1 h2 ⟨vs,h4⟩ (by rw[h3];trivial),rfl⟩
 |some dx=>
  obtain⟨fs,hx⟩:=hd dx rfl
  obtain⟨mA,⟨od,es,ep,e1,_⟩,_⟩:=hok dx _ hx
  exact⟨o,some od,mh h1 h2 ⟨vs,h4⟩ (by rw[h3];exact e1),rfl⟩
end
section
variable {X:Cx}{body suite:List Stmt}{b0:Stmt}{x n:Str}{np hpos pos:Pos}{B:Addr}
def mF (K:PySem.W.Frag)(B:Addr)(R:St→Addr→Hp→Prop):Prop:=∀σ a H,R σ a H→∃C d,H a=some (xcO a C d)∧(∀dx,d=some dx→∃fs,H dx=some (.xd fs))∧XB K C B
theorem ia {R:St→Addr→Hp→Prop}{i:Nat}(hst:X.stack=X.env::X.outer)(hN:X.N.Nodup)(hi:X.N[i]?=some n)(hl:X.env.scope.names.lookup n=some .local)(hg:Gl X x)(hm:X.mg x=some (.ref B))(hR:mF X.K B R)(hdb:(x == ("__debug__":Str))=false:=by decide):
  PS X (.Try body [.ExceptHandler (some (.Name x np)) (some n) (b0::suite) hpos] [] [] pos) (fun D σ H=>(∀pins,lX ((X.held pins).wish (XE (X.held pins) R)) body D σ H)∧
   ∀pins a σ' H',R σ' a H'→lX ((X.held pins).suite a) (b0::suite) {nx:=fun σ'' H''=>D.nx (σ''.set i none) H'',rt:=D.rt,bk:=fun σ'' H''=>D.bk (σ''.set i none) H'',ct:=fun σ'' H''=>D.ct (σ''.set i none) H''} (σ'.set i (some (.ref a))) H'):=by
 rintro pins s σ H D I ⟨h1,h2⟩
 obtain⟨tb,pb,qb⟩:=h1 pins
 refine wpAny_Try_except (zn1 (pb [] s σ H D (I.held.wish _) qb) (fun f s1 hf=>?_) fun e s1 hx=>?_)
 ·have hf:=SP.held hf
  cases f with
  |next=>exact zu4 hf
  |brk=>exact hf
  |cont=>exact hf
  |ret u=>exact hf
 ·refine Inv.caught (X:=X.held pins) hst hx fun σ' H' a T s' I' ha r t1 t2 t3 ent=>?_
  obtain⟨C,d,hc,hd,xb⟩:=hR σ' a H' r
  refine wpAny_handleBy_cons (codeAny_handlers_test (yM (I'.suite (a:=a)) hg hm ?_ hdb)) (by intro q;cases q)
  obtain⟨ox,od,J,_⟩:=nU I'.hok hc hd
  obtain⟨h',g',d',tk',os'⟩:=s'
  refine bq I'.kIn xb J (codeAny_handlers_suite_as ?_)
  refine I'.flight (fo:=none) hst ha t1 t2 (by simpa using t3) ent fun h'' I'' _=>?_
  refine uV I'' hN hi (Or.inl hl) (v:=.ref a) rfl (fun s2 I2=>?_) (.inr hl)
  obtain⟨ts,p2,q2⟩:=h2 pins a σ' H' r
  refine zn1 (p2 [] s2 _ H' _ I2.suite q2) (fun f s3 hf=>?_) fun _ _ z=>(z:False).elim
  cases f with
  |next=>
   obtain⟨σ3,H3,I3,q3⟩:=hf
   exact (I''.unsuite I3).gone hN hi hl fun s4 I4=>⟨_,H3,I4.unheld,q3⟩
  |brk=>
   obtain⟨σ3,H3,I3,q3⟩:=hf
   exact (I''.unsuite I3).gone hN hi hl fun s4 I4=>⟨_,H3,I4.unheld,q3⟩
  |cont=>
   obtain⟨σ3,H3,I3,q3⟩:=hf
   exact (I''.unsuite I3).gone hN hi hl fun s4 I4=>⟨_,H3,I4.unheld,q3⟩
  |ret u=>
   obtain⟨v,σ3,H3,I3,r3,q3⟩:=hf
   exact (I''.unsuite I3).gone hN hi hl fun s4 I4=>⟨v,_,H3,I4.unheld,r3,q3⟩
end
def xD (C:Addr)(fs:List (PyData×PyData)):PyData:=.dict ((.int (C:Nat),.bool true)::fs)
def xD0 (C:Addr):PyData:=.dict [(.int (C:Nat),.bool false)]
section
variable {G:Hp}{v:V}{C:Addr}{ds:List (PyData×PyData)}
theorem AV.xc_inv (h:AV G v (xD C ds)):∃a dx fs,v=.ref a∧G a=some (xcO a C (some dx))∧G dx=some (.xd fs)∧AVf G fs ds:=by
 generalize e:xD C ds=d at h
 cases h with
 |@xc a C' dx fs ds' h1 h2 h3=>
  unfold xD at e
  injection e with e
  injection e with e1 e2
  injection e1 with e1 _
  injection e1 with e1
  have:C=C':=by exact_mod_cast e1
  subst this;subst e2
  exact⟨a,dx,fs,rfl,h1,h2,h3⟩
 |_=>simp[xD] at e
theorem AV.xn_inv (h:AV G v (xD0 C)):∃a,v=.ref a∧G a=some (xcO a C none):=by
 generalize e:xD0 C=d at h
 cases h with
 |@xn a C' h1=>
  unfold xD0 at e
  injection e with e
  injection e with e1 e2
  injection e1 with e1 _
  injection e1 with e1
  have:C=C':=by exact_mod_cast e1
  subst this
  exact⟨a,rfl,h1⟩
 |_=>simp[xD0] at e
end
def isX (C:Addr)(d:PyData):Prop:=(∃fs,d=xD C fs)∨d=xD0 C
theorem isX.at {G:Hp}{v:V}{C:Addr}{d:PyData}(x:isX C d)(h:AV G v d):∃a dx,v=.ref a∧G a=some (xcO a C dx)∧∀y,dx=some y→∃fs,G y=some (.xd fs):=by
 rcases x with ⟨fs,rfl⟩|rfl
 ·obtain⟨a,dx,gs,rfl,h1,h2,_⟩:=h.xc_inv
  exact⟨a,some dx,rfl,h1,fun y e=>by cases e;exact⟨gs,h2⟩⟩
 ·obtain⟨a,rfl,h1⟩:=h.xn_inv
  exact⟨a,none,rfl,h1,fun y e=>by cases e⟩
theorem M.reidx {F:Fr}{α α':Ev}{σ σ':St}{H:Hp}(m:M F α σ H)(f:Nat→Nat)(hl:α'.length=σ'.length)(hf:∀(k:Nat) a s,α'[k]?=some (some a)→σ'[k]?=some s→α[f k]?=some (some a)∧σ[f k]?=some s)(inj:∀(k k':Nat) a a',α'[k]?=some (some a)→α'[k']?=some (some a')→f k=f k'→k=k'):M F α' σ' H:=by
 have ow:∀{y:Addr},Ow F α' σ' y→Ow F α σ y:=fun {y} h=>by
  rcases h with z|⟨i,c,s,e1,e2,fo⟩
  ·exact .inl z
  ·obtain⟨g1,g2⟩:=hf i c s e1 e2
   exact .inr ⟨_,c,s,g1,g2,fo⟩
 have gs:zq (Gz F α σ H) (Gz F α' σ' H):=zl fun a o h e=>⟨fun z=>h (ow z),e⟩
 refine⟨hl,fun i c s e1 e2=>?_,fun i i' c d s s' x e1 e2 h1 h2 f1 f2=>?_,fun i r q e i' c s x e1 e2 fo=>?_,m.tp,m.keep,m.oex⟩
 ·obtain⟨g1,g2⟩:=hf i c s e1 e2
  exact (m.ok _ c s g1 g2).stay gs (fun x o fo e=>⟨e,(m.ft g1 g2 fo).1,(m.ft g1 g2 fo).2.1⟩) rfl fun _ _ _ l=>l
 ·obtain⟨g1,g2⟩:=hf i c s e1 h1
  obtain⟨k1,k2⟩:=hf i' d s' e2 h2
  exact inj i i' c d e1 e2 (m.dj _ _ c d s s' x g1 k1 g2 k2 f1 f2)
 ·have:i<σ'.length:=by rw[←hl];exact (zj6.mp e).1
  obtain⟨g1,_⟩:=hf i _ _ e (zn0 this)
  obtain⟨k1,k2⟩:=hf i' c s e1 e2
  exact m.xd _ r q g1 _ c s x k1 k2 fo
theorem uz {β:Ev}{b:Option A}{k:Nat}{a:A}(h:(β++[b])[k]?=some (some a)):(k<β.length∧β[k]?=some (some a))∨(k=β.length∧b=some a):=by
 rcases Nat.lt_or_ge k β.length with z|z
 ·rw[zl4 z] at h;exact .inl ⟨z,h⟩
 ·rw[zl6 z] at h
  obtain⟨j,hj⟩:∃j,k-β.length=j:=⟨_,rfl⟩
  rw[hj] at h
  cases j with
  |zero=>simp at h;exact .inr ⟨by omega,h⟩
  |succ j=>simp at h
section
variable {F:Fr}{α αh:Ev}{σ:St}{H:Hp}
theorem M.grow (m:M F α σ H):M F (α++[none]) (σ++[none]) H:=by
 have hl:=m.len
 refine m.reidx id (by rw[zk6,zk6,hl];rfl) (fun k a s e1 e2=>?_) fun _ _ _ _ _ _ e=>e
 rcases uz e1 with ⟨z,e⟩|⟨_,e⟩
 ·exact⟨e,by rw[zl4 (by omega)] at e2;exact e2⟩
 ·cases e
theorem M.snoc {v:V}{b:A}{H':Hp}(m:M F α σ H)(t:zE F H')(k:Kz F H H')(hn:∀x,foot (some v) b x→H x=none)(hok:yS (sub (fun x=>¬Ow F α σ x∧¬foot (some v) b x) H') F H' (some v) b)(hx:noX b:=by trivial):M F (α++[some b]) (σ++[some v]) H':=by
 have hl:=m.len
 have mg:=m.grow
 have ow:∀{y:Addr},Ow F (α++[none]) (σ++[none]) y→Ow F α σ y:=fun {y} h=>by
  rcases h with z|⟨i,c,s,e1,e2,fo⟩
  ·exact .inl z
  ·rcases uz e1 with ⟨z,e⟩|⟨_,e⟩
   ·exact .inr ⟨i,c,s,e,by rw[zl4 (by omega)] at e2;exact e2,fo⟩
   ·cases e
 have m2:=mg.store (i:=α.length) (v:=v) (b:=b) t k hn (hok.stay (zl fun a o h e=>⟨⟨fun z=>h.1 (ow z),h.2⟩,e⟩) (fun x o f e=>by
  obtain⟨w1,w2,_⟩:=uf hok f
  exact⟨e,w1,w2⟩) rfl fun _ _ _ l=>l) hx
 have e1:(α++[none]).set α.length (some b)=α++[some b]:=by rw[zs2 _ _ (zj8 _),zo7]<;>rfl
 have e2:(σ++[none]).set α.length (some v)=σ++[some v]:=by rw[zs2 _ _ (by omega),hl,zo7]<;>rfl
 rw[e1,e2] at m2
 exact m2
theorem M.len' {b:Option A}{s:Option V}(m:M F (α++[b]) (σ++[s]) H):α.length=σ.length:=by
 have:=m.len
 rw[zk6,zk6] at this
 exact Nat.add_right_cancel this
theorem M.lastAt {b:A}{v:V}{i:Nat}(m:M F (α++[some b]) (σ++[some v]) H):M F (α.set i (some b)) (σ.set i (some v)) H:=by
 have hl:=m.len'
 have key:∀{k:Nat} {a:A},(α.set i (some b))[k]?=some (some a)→k<α.length∧((k=i∧a=b)∨(k≠i∧α[k]?=some (some a))):=fun {k a} e=>by
  have hk:=(zj6.mp e).1
  rw[zm2] at hk
  rcases zx e with ⟨rfl,z⟩|⟨z1,z2⟩
  ·cases z;exact⟨hk,.inl ⟨rfl,rfl⟩⟩
  ·exact⟨hk,.inr ⟨fun w=>z1 w.symm,z2⟩⟩
 refine m.reidx (fun k=>if k=i then α.length else k) (by rw[zm2,zm2];exact hl) (fun k a s e1 e2=>?_) fun k k' a a' e e' z=>?_
 ·obtain⟨hk,⟨rfl,rfl⟩|⟨hne,e⟩⟩:=key e1
  ·rw[if_pos rfl]
   rw[zp0 (by omega)] at e2
   cases e2
   exact⟨by rw[zl6 (zj8 _),zo7]<;>rfl,by rw[zl6 (by omega),hl,zo7]<;>rfl⟩
  ·rw[if_neg hne]
   rw[zn3 (fun w=>hne w.symm)] at e2
   exact⟨by rw[zl4 hk];exact e,by rw[zl4 (by omega)];exact e2⟩
 ·have h1:=(key e).1
  have h2:=(key e').1
  by_cases z1:k=i
  ·by_cases z2:k'=i
   ·omega
   ·rw[if_pos z1,if_neg z2] at z;omega
  ·by_cases z2:k'=i
   ·rw[if_neg z1,if_pos z2] at z;omega
   ·rw[if_neg z1,if_neg z2] at z;exact z
theorem rf {S:Addr→Prop}{G H:Hp}{x:Addr}{o:HO}(h:G x=some o)(hs:¬S x)(hn:∀xs,o≠.lst xs):ua S G H x=some o:=by
 unfold ua
 rw[if_neg hs,h]
 cases o<;>first|rfl|exact absurd rfl (hn _)
theorem iK {S:Addr→Prop}{p:Addr→Prop}{H:Hp}{x:Addr}{o:HO}(h:ua S (sub p H) H x=some o):H x=some o:=by
 rcases tD h with ⟨_,z⟩|⟨_,z⟩
 ·exact z
 ·exact (zh z).2
end
structure Xok (X:Cx)(r:Fr)(αh:Ev)(q:PyData→Prop):Prop where
 ex:∃(X0:Cx) (R:St→Addr→Hp→Prop),X=X0.wish (XE X0 R)∧X0.stack=X0.env::X0.outer∧X0.ex=[]∧∀σ d S a H',M r (αh++[some (.deep d S)]) (σ++[some (.ref a)]) H'→q d→R σ a H'
theorem Xok.own {X:Cx}{r:Fr}{αh:Ev}{q:PyData→Prop}(x:Xok X r αh q):PassesOwn (model X.prog X.w) X.A X.env X.xe:=by
 obtain⟨X0,R,rfl,h1,_⟩:=x.ex
 exact af h1
section
variable {F:Fr}{α αh:Ev}{σ:St}{H:Hp}
theorem M.exc {j:Nat}{q:PyData→Prop}(m:M F α σ H)(hj:α[j]?=some none):M F (α.set j (some (.exc F q))) σ H:=by
 have hs:∀{i:Nat} {c:A},(α.set j (some (.exc F q)))[i]?=some (some c)→(i=j∧c=.exc F q)∨α[i]?=some (some c):=fun {i c} e=>by
  rcases zx e with ⟨rfl,z⟩|⟨_,e'⟩
  ·cases z;exact .inl ⟨rfl,rfl⟩
  ·exact .inr e'
 have ow:∀{y:Addr},Ow F (α.set j (some (.exc F q))) σ y→Ow F α σ y:=fun {y} h=>by
  rcases h with z|⟨i,c,s,e1,e2,f⟩
  ·exact .inl z
  ·rcases hs e1 with ⟨_,rfl⟩|e1
   ·exact f.elim
   ·exact .inr ⟨i,c,s,e1,e2,f⟩
 have gs:zq (Gz F α σ H) (Gz F (α.set j (some (.exc F q))) σ H):=zl fun a o h e=>⟨fun z=>h (ow z),e⟩
 refine⟨by rw[zm2];exact m.len,fun i c s e1 e2=>?_,fun i i' c c' s s' x e1 e2 h1 h2 f1 f2=>?_,fun i r' q' e i' c s x e1 e2 f=>?_,m.tp,m.keep,m.oex⟩
 ·rcases hs e1 with ⟨_,rfl⟩|e1
  ·exact⟨rfl,fun _ z=>z,m.tp,m.keep⟩
  ·exact (m.ok i c s e1 e2).stay gs (fun x o f e=>⟨e,(m.ft e1 e2 f).1,(m.ft e1 e2 f).2.1⟩) rfl fun _ _ _ l=>l
 ·rcases hs e1 with ⟨_,rfl⟩|e1
  ·exact f1.elim
  ·rcases hs e2 with ⟨_,rfl⟩|e2
   ·exact f2.elim
   ·exact m.dj i i' c c' s s' x e1 e2 h1 h2 f1 f2
 ·rcases hs e1 with ⟨_,rfl⟩|e1
  ·exact f.elim
  ·rcases hs e with ⟨_,z⟩|e
   ·cases z;exact (m.ft e1 e2 f).2.1
   ·exact m.xd i r' q' e i' c s x e1 e2 f
theorem M.back {j:Nat}{r:Fr}{q:PyData→Prop}(m:M F α σ H)(hj:α[j]?=some (some (.exc r q)))(hl:αh.length=α.length)(le:∀(i:Nat) a,αh[i]?=some (some a)→α[i]?=some (some a)∧noX a):M r αh σ H:=by
 have l:=m.lnk hj
 have ow:∀{y:Addr},Ow r αh σ y→Ow F α σ y:=fun {y} h=>by
  rcases h with z|⟨i,c,s,e1,e2,f⟩
  ·exact .inl (l.o y z)
  ·exact .inr ⟨i,c,s,(le _ _ e1).1,e2,f⟩
 have gs:zq (Gz F α σ H) (Gz r αh σ H):=zl fun a o h e=>⟨fun z=>h (ow z),e⟩
 refine⟨hl.trans m.len,fun i c s e1 e2=>?_,fun i i' c d s s' x e1 e2=>m.dj i i' c d s s' x (le _ _ e1).1 (le _ _ e2).1,fun i r' q' e=>((le _ _ e).2:False).elim,l.ok,l.k,fun x hx=>m.oex x (l.o x hx)⟩
 refine (m.ok i c s (le _ _ e1).1 e2).stay gs (fun x o f e=>⟨e,fun z=>(m.ft (le _ _ e1).1 e2 f).1 (l.o x z),m.xd j r q hj i c s x (le _ _ e1).1 e2 f⟩) l.tp fun r' q' z=>?_
 subst z
 exact ((le _ _ e1).2:False).elim
end
def leX :Ev→Ev→Prop:=fun αh α=>αh.length=α.length∧∀(i:Nat) a,αh[i]?=some (some a)→α[i]?=some (some a)∧noX a
theorem leX.nil {n:Nat}{α:Ev}(h:n=α.length):leX (List.replicate n none) α:=⟨by rw[zq5];exact h,fun i a e=>by
 rw[zq0] at e
 split at e<;>cases e⟩
theorem leX.cons {x y:Option A}{αh α:Ev}(h:x=none∨(x=y∧∀a,x=some a→noX a))(r:leX αh α):leX (x::αh) (y::α):=⟨by rw[zk5,zk5,r.1],fun i a e=>by
 cases i with
 |zero=>
  simp at e
  rcases h with h|⟨h1,h2⟩
  ·rw[h] at e;cases e
  ·subst h1;subst e;exact⟨rfl,h2 _ rfl⟩
 |succ i=>simpa using r.2 i a (by simpa using e)⟩
theorem leX.nil' :leX [] []:=⟨rfl,fun i a e=>by simp at e⟩
theorem leX.snoc {αh α:Ev}{b:A}(h:leX αh α)(hb:noX b):leX (αh++[some b]) (α++[some b]):=⟨by rw[zk6,zk6,h.1],fun i a e=>by
 rcases uz e with ⟨z,e⟩|⟨z,e⟩
 ·rw[zl4 (by rw[←h.1];exact z)]
  exact h.2 i a e
 ·cases e
  rw[z,h.1,zl6 (zj8 _),zo7]
  exact⟨rfl,hb⟩⟩
theorem M.backS {F:Fr}{α αh:Ev}{σ:St}{H:Hp}{j:Nat}{r:Fr}{q:PyData→Prop}{b:A}{v:V}(m:M F (α++[some b]) (σ++[some v]) H)(hj:α[j]?=some (some (.exc r q)))(le:leX αh α)(hb:noX b):M r (αh++[some b]) (σ++[some v]) H:=by
 have hj':(α++[some b])[j]?=some (some (.exc r q)):=by rw[zl4 (zj6.mp hj).1];exact hj
 exact m.back hj' (le.snoc hb).1 (le.snoc hb).2
theorem vK {r:Fr}{αh:Ev}{σ:St}{H':Hp}{d:PyData}{S:Addr→Prop}{a:Addr}(m:M r (αh++[some (.deep d S)]) (σ++[some (.ref a)]) H'):jm r (.ref a) H' (.deep d S):=by
 obtain⟨v,h1,h2,h3⟩:=m.deep αh.length d S (by rw[zl6 (zj8 _),zo7]<;>rfl)
 rw[m.len',zl6 (zj8 _),zo7] at h1
 cases h1
 exact⟨h2.same (wO (zl fun a o h e=>⟨ow0 h,e⟩) fun _ _ _ e=>e),h3⟩
def spX (φ:List A→(A→Prop)→(PyData→Prop)→Prop):Sp:=fun vs H Qc E=>∃(F:Fr) (as:List A) (Q:A→Prop) (q:PyData→Prop),F.H0=H∧zE F H∧(∀x,F.O0 x→∃o,H x=some o∧xZ o)∧zL F (sub (fun x=>¬F.O0 x) H) vs as∧φ as Q q∧(∀a v H',Q a→xh F v H' a→Qc v H')∧∀d S a H',q d→xh F (.ref a) H' (.deep d S)→E (.ref a) none H'
section
variable {P:Program}{w:World}{K:PySem.W.Frag}{mg:Str→Option Value}{base:Heap}
theorem fnX {x qual:Str}{st:Stmt}{f:Addr}{fd:FuncData}{N ps:List Str}{z:Str}{k:Nat}{φ:List A→(A→Prop)→(PyData→Prop)→Prop}(G:Fun K x qual st f fd)(S:zf (N++[z]) ps (za st))(hpn:ps.length≤N.length)(hlen:∀as Q q,φ as Q q→as.length=ps.length)
  (hbody:∀(cdv:Value) (A':Around) (outer:List Env) (s:Shared) (H:Hp) (E:XK) (as:List A) (Q:A→Prop) (q:PyData→Prop) (r:Fr) (xe:Value→Shared→Prop),zG k (A'.deeper (envOfC qual (za st) s.heap.objs.size f cdv))→φ as Q q→Xok ((yQ (CX1 P w base) P w K mg base (N++[z]) qual (za st) f cdv A' outer s H E).wish xe) r (List.replicate (N.length+1) none) q→
   SvS ((yQ (CX1 P w base) P w K mg base (N++[z]) qual (za st) f cdv A' outer s H E).wish xe) ((as.map some++List.replicate (N.length-as.length) none)++[some (.exc r fun _=>True)]) (zv st) {nx:=fun _=>Q (.dat .none),rt:=Q}):zr P w K mg base (CX1 P w base) (k+1) f fd ps (spX φ):=by
 refine G.okX S (fun vs H Q E h=>?_) (fun cdv A' outer s H vs Qc E hr h=>?_)
 ·obtain⟨F,as,Q',q,_,_,_,rv,hφ,_⟩:=h
  rw[rv.length,hlen as _ _ hφ]
 ·obtain⟨F,as,Q',q,e,t,o,rv,hφ,kk,kx⟩:=h
  have hl:=hlen as _ _ hφ
  have m:=M.start (N:=N++[z]) e t o rv
  have ea:as.map some++List.replicate ((N++[z]).length-as.length) none=(as.map some++List.replicate (N.length-as.length) none)++[none]:=by
   rw[zk6,zp2,show N.length+1-as.length=(N.length-as.length)+1 by omega,List.replicate_succ',List.append_assoc]
  rw[ea] at m
  have el:(as.map some++List.replicate (N.length-as.length) (none:Option A)).length=N.length:=by rw[zk6,zj1,zq5];omega
  have mx:=m.exc (j:=N.length) (q:=fun _=>True) (by rw[zl6 (by omega),el,zo7]<;>rfl)
  have es:((as.map some++List.replicate (N.length-as.length) (none:Option A))++[none]).set N.length (some (A.exc F fun _=>True))=(as.map some++List.replicate (N.length-as.length) none)++[some (.exc F fun _=>True)]:=by
   rw[zs2 _ _ (by omega),el,zo7]<;>rfl
  rw[es] at mx
  refine hbody cdv A' outer s H E as Q' q F _ hr hφ ⟨_,_,rfl,rfl,rfl,fun σ d S a H' mr qd=>kx d S a H' qd ⟨mr.tp,mr.keep,vK mr⟩⟩ F _ H _ mx ⟨fun α σ H' m q=>?_,fun a v H' r q=>kk a v H' q r,fun _ _ _ _ z=>z.elim,fun _ _ _ _ z=>z.elim⟩
  exact kk _ _ _ q ⟨m.tp,m.keep,.non⟩
end
structure oN (P:Program)(w:World)(K:PySem.W.Frag)(mg:Str→Option Value)(base:Heap)(x:Str)(k:Nat)(φ:List A→(A→Prop)→(PyData→Prop)→Prop):Prop where
 ex:∃f fd ps,mg x=some (.ref f)∧PySem.W.keepIn K (.ref f)=true∧Binds K fd ps []∧zr P w K mg base (CX1 P w base) k f fd ps (spX φ)
def ze8 (C:Addr)(fl:Str):Sp:=fun vs H Qc _=>∃(a:Addr) (i:Int),vs=[.ref a,.int i]∧i.natAbs.log2<1920∧H a=some (xcF a C none)∧∀dx,H dx=none→dx≠a→Qc .non (upd (upd H dx (.xd [(fl,.int i)])) a (xcF a C (some dx)))
structure XMk (P:Program)(w:World)(K:PySem.W.Frag)(mg:Str→Option Value)(base:Heap)(x:Str)(k:Nat)(C:Addr)(fl:Str):Prop where
 m:mg x=some (.ref C)
 kp:PySem.W.keepIn K (.ref C)=true
 ex:∃S f fd ps,yR K C S (some (.ref f))=true∧PySem.W.typeIn K (.ref f)=some (.type "function")∧Binds K fd ps []∧zr P w K mg base CX0 k f fd ps (ze8 C fl)
structure bX (K:PySem.W.Frag)(mg:Str→Option Value)(x:Str)(C:Addr):Prop where
 m:mg x=some (.ref C)
 kp:PySem.W.keepIn K (.ref C)=true
 ex:∃S,yR K C S none=true
section
variable {X:Cx}{α αh:Ev}{r:Fr}{q q0:PyData→Prop}{j k:Nat}{x fl:Str}{C:Addr}{e:Expr}{es:List Expr}{p pos pos':Pos}{rest:List Stmt}{E:yi}
theorem vD (xo:Xok X r αh q)(hc:X.calm=true)(ck:XMk X.prog X.w X.K X.mg X.base x k C fl)(hr:zG (k+1) X.A)(hg:Gl X x)(hj:α[j]?=some (some (.exc r q0)))(le:leX αh α)(h:EvD X α e fun d=>∃i:Int,d=.int i∧i.natAbs.log2<1920∧q (xD C [(.str fl,.int i)]))
  (hdb:(x == ("__debug__":Str))=false:=by decide) (he:starEach [e] X.env=(false,eval e X.env)::starEach [] X.env:=by rfl):SvS X α (.Raise (some (.Call (.Name x p) [e] [] pos)) none pos'::rest) E:=fun F σ H D m rr=>by
 obtain⟨X0,R,rfl,h1,h2,h3⟩:=xo.ex
 obtain⟨S,f,fd,ps,c,hf,hb,G⟩:=ck.ex
 refine⟨_,zD (qQ c hc (js (X:=X0.wish (XE X0 R)) c hf ck.kp G hr hg ck.m hb (zc ze zm he) hdb he)) zT,?_⟩
 refine h F σ H _ m fun d v H1 q1 t1 k1 r1=>?_
 obtain⟨i,rfl,hi,qi⟩:=q1
 cases r1.int_inv
 refine⟨zj4 rfl,fun a ha=>⟨a,i,rfl,hi,zj,fun dx hd hne=>⟨rfl,a,some dx,rfl,zj,?_⟩⟩⟩
 have m1:=m.kz k1 t1
 rw[vq]
 have hd1:H1 dx=none:=by rw[zg hne] at hd;exact hd
 generalize hH3:upd (upd (upd H1 a (xcF a C none)) dx (HO.xd [(fl,.int i)])) a (xcO a C (some dx))=H3
 have sm:zq H1 H3:=fun y o e=>by
  have ya:y≠a:=fun z=>by rw[z,ha] at e;cases e
  have yd:y≠dx:=fun z=>by rw[z,hd1] at e;cases e
  rw[←hH3,zg ya,zg yd,zg ya]
  exact e
 have fa:∀y,H1 y=none→¬Ow F α σ y∧¬foot (some (.ref a)) (.deep (xD C [(.str fl,.int i)]) fun _=>False) y:=fun y hy=>⟨m1.fresh hy,fun z=>z⟩
 have m3:=m1.snoc (v:=.ref a) (b:=.deep (xD C [(.str fl,.int i)]) fun _=>False) (H':=H3) (m1.tp.same sm) (Kz.of_same sm) (fun x z=>z.elim) ⟨_,rfl,.xc (dx:=dx) (fs:=[(fl,.int i)]) (rf (zK (fa a ha) (by rw[←hH3];exact zj)) (fun z=>z) fun xs z=>by cases z) (rf (zK (fa dx hd1) (by rw[←hH3,zg hne];exact zj)) (fun z=>z) fun xs z=>by cases z) (.cons (.int i) .nil),fun x z=>z.elim⟩
 exact h3 σ _ _ a H3 (m3.backS hj le trivial) qi
theorem kL (xo:Xok X r αh q)(hc:X.calm=true)(ck:bX X.K X.mg x C)(hg:Gl X x)(hj:α[j]?=some (some (.exc r q0)))(le:leX αh α)(h:EvD X α e fun _=>q (xD0 C))
  (hdb:(x == ("__debug__":Str))=false:=by decide) (he:starEach [e] X.env=(false,eval e X.env)::starEach [] X.env:=by rfl):SvS X α (.Raise (some (.Call (.Name x p) [e] [] pos)) none pos'::rest) E:=fun F σ H D m rr=>by
 obtain⟨X0,R,rfl,h1,h2,h3⟩:=xo.ex
 obtain⟨S,c⟩:=ck.ex
 refine⟨_,zD (qQ c hc (mZ (X:=X0.wish (XE X0 R)) c ck.kp hg ck.m (zc ze zm he) hdb he)) zT,?_⟩
 refine h F σ H _ m fun d v H1 q1 t1 k1 r1=>?_
 refine⟨zj4 rfl,fun a ha=>⟨a,none,rfl,zj,?_⟩⟩
 have m1:=m.kz k1 t1
 rw[vq]
 have sm:zq H1 (upd H1 a (xcO a C none)):=fun y o e=>by rw[zg (fun z=>by rw[z,ha] at e;cases e)];exact e
 have m3:=m1.snoc (v:=.ref a) (b:=.deep (xD0 C) fun _=>False) (H':=upd H1 a (xcO a C none)) (m1.tp.same sm) (Kz.of_same sm) (fun x z=>z.elim) ⟨_,rfl,.xn (rf (zK ⟨m1.fresh ha,fun z=>z⟩ zj) (fun z=>z) fun xs z=>by cases z),fun x z=>z.elim⟩
 exact h3 σ _ _ a _ (m3.backS hj le trivial) q1
theorem qw {X0:Cx}{R:St→Addr→Hp→Prop}{f:Addr}{fd:FuncData}{ps:List Str}{sp:Sp}{t:TA}(hex:X0.ex=[])(F:zr X0.prog X0.w X0.K X0.mg X0.base (CX1 X0.prog X0.w X0.base) k f fd ps sp)(hr:zG k X0.A)(hg:Gl X0 x)(hm:X0.mg x=some (.ref f))(hk:PySem.W.keepIn X0.K (.ref f)=true)(hb:Binds X0.K fd ps [])
  (ha:PA (X0.wish (XE X0 R)) (e::es) t) (hdb:(x == ("__debug__":Str))=false:=by decide) (he:starEach (e::es) X0.env=(false,eval e X0.env)::starEach es X0.env:=by rfl) (hpl:(backTo pos (starEach es X0.env)).any (·.1)=false:=by rfl):
  PE (X0.wish (XE X0 R)) (.Call (.Name x p) (e::es) [] pos) (fun σ H Q=>t σ H fun vs H1=>∃E:XK,(∀a H',E (.ref a) none H'→R σ a H')∧sp vs H1 Q E):=by
 intro pins s σ H Q I h
 refine zo1 (yM I hg hm ?_ hdb)
 refine zo6 (h₀:=X0.base) I.ok.mod.kin hk (thn (ha pos pins s σ H _ I h) fun us s1 ⟨vs,H1,I1,r,E,hE,q⟩=>⟨I1.kIn,?_⟩) he hpl
 have hl:(us++[]).length=ps.length:=by rw[zo0,←r.length];exact F.len _ _ _ _ q
 have hbb:=hb s1 us I1.kIn hl
 rw[zo0] at hbb
 refine zq3 (zs1 (F.run X0.A X0.stack s1 H1 ⟨us,[]⟩ us vs Q E hr I1.env0 hbb r q) fun r s' hq=>?_)
 cases r with
 |error e=>exact nF hex I1.unwish hq hE
 |ok fl=>
  cases fl with
  |ret u=>exact I1.after hq
  |next=>exact False.elim hq
  |brk=>exact False.elim hq
  |cont=>exact False.elim hq
variable {φ:List A→(A→Prop)→(PyData→Prop)→Prop}{Q:PyData→Prop}
theorem wy {F:Fr}{σ:St}{H:Hp}{vs:List V}{as:List A}{QA:A→Prop}{Rk:VK}{R:St→Addr→Hp→Prop}(m:M F α σ H)(hj:α[j]?=some (some (.exc r q0)))(le:leX αh α)(h3:∀σ d S a H',M r (αh++[some (.deep d S)]) (σ++[some (.ref a)]) H'→q d→R σ a H')(rv:zL F (Gz F α σ H) vs as)(hφ:φ as QA q)
  (kk:∀a v H',QA a→xh ⟨H,Ow F α σ,F.tp⟩ v H' a→Rk v H'):∃E:XK,(∀a H',E (.ref a) none H'→R σ a H')∧spX φ vs H Rk E:=by
 refine⟨fun v _ H'=>∃a,v=.ref a∧∃d S,q d∧xh ⟨H,Ow F α σ,F.tp⟩ (.ref a) H' (.deep d S),fun a H' ⟨a',e,d,S,qd,ra⟩=>?_,⟨⟨H,Ow F α σ,F.tp⟩,as,QA,q,rfl,m.tp.to rfl fun _ z=>.inl z,fun y z=>m.owEx z,zL.to (F:=F) (F':=⟨H,Ow F α σ,F.tp⟩) (fun _ _ e=>e) rfl rv,hφ,kk,fun d S a H' qd ra=>⟨a,rfl,d,S,qd,ra⟩⟩⟩
 cases e
 obtain⟨g1,g2,_⟩:=ra.back m
 obtain⟨_,_,g3,g4⟩:=ra
 have m3:=m.snoc (v:=.ref a) (b:=.deep d S) (H':=H') g1 g2 (fun x z=>(g4 x z).2.1) ⟨_,rfl,g3.same fun x o e=>?_,fun x z=>⟨ow0 (g4 x z).1,m.fresh0 (g4 x z).2.1,(g4 x z).2.2⟩⟩
 ·exact h3 σ d S a H' (m3.backS hj le trivial) qd
 ·unfold ua at e ⊢
  by_cases z:S x
  ·rw[if_pos z] at e ⊢;exact e
  ·rw[if_neg z] at e ⊢
   cases q:sub (fun x=>¬Ow F α σ x) H' x with
   |none=>rw[q] at e;cases e
   |some u=>
    obtain⟨w1,w2⟩:=zh q
    rw[zK (p:=fun x=>¬Ow F α σ x∧¬foot (some (V.ref a)) (.deep d S) x) ⟨w1,z⟩ w2]
    rw[q] at e
    exact e
theorem fY (xo:Xok X r αh q)(hj:α[j]?=some (some (.exc r q0)))(le:leX αh α)(C:oN X.prog X.w X.K X.mg X.base x k φ)(hr:zG k X.A)(hg:Gl X x)(h:EvA X α (e::es) fun as=>φ as (fun a=>Q a.d) q)
  (hdb:(x == ("__debug__":Str))=false:=by decide) (he:starEach (e::es) X.env=(false,eval e X.env)::starEach es X.env:=by rfl) (hpl:(backTo pos (starEach es X.env)).any (·.1)=false:=by rfl):EvD X α (.Call (.Name x p) (e::es) [] pos) Q:=fun F σ H Rk m kk=>by
 obtain⟨X0,R,rfl,h1,h2,h3⟩:=xo.ex
 obtain⟨f,fd,ps,c1,c2,c3,c4⟩:=C.ex
 refine⟨_,qw h2 c4 hr hg c1 c2 c3 yu hdb he hpl,?_⟩
 refine h F σ H _ m fun as vs H1 q1 t1 k1 r1=>?_
 have m1:=m.kz k1 t1
 refine wy m1 hj le h3 r1 q1 fun a v H' qa ra=>?_
 obtain⟨g1,g2,g3⟩:=ra.back m1
 exact kk _ v H' qa g1 (k1.trans g2) g3
theorem dG {Q:List PyData→Prop}(xo:Xok X r αh q)(hj:α[j]?=some (some (.exc r q0)))(le:leX αh α)(C:oN X.prog X.w X.K X.mg X.base x k φ)(hr:zG k X.A)(hg:Gl X x)(h:EvA X α (e::es) fun as=>φ as (fun a=>∃ds,a=.own ds∧Q ds) q)
  (hdb:(x == ("__debug__":Str))=false:=by decide) (he:starEach (e::es) X.env=(false,eval e X.env)::starEach es X.env:=by rfl) (hpl:(backTo pos (starEach es X.env)).any (·.1)=false:=by rfl):EvL X α (.Call (.Name x p) (e::es) [] pos) Q:=fun F σ H Rk m kk=>by
 obtain⟨X0,R,rfl,h1,h2,h3⟩:=xo.ex
 obtain⟨f,fd,ps,c1,c2,c3,c4⟩:=C.ex
 refine⟨_,qw h2 c4 hr hg c1 c2 c3 yu hdb he hpl,?_⟩
 refine h F σ H _ m fun as vs H1 q1 t1 k1 r1=>?_
 have m1:=m.kz k1 t1
 refine wy m1 hj le h3 r1 q1 fun a v H' qa ra=>?_
 obtain⟨ds,rfl,qd⟩:=qa
 obtain⟨g1,g2,_⟩:=ra.back m1
 obtain⟨_,_,l,xs,ds',rfl,hc,w1,w2,w3,w4⟩:=ra
 cases hc
 exact kk ds _ H' qd g1 (k1.trans g2) (yD.back m k1 t1 ⟨l,xs,rfl,w1,w3,w4⟩)
end
section
variable {P:Program}{w:World}{K:PySem.W.Frag}{mg:Str→Option Value}{base:Heap}
theorem zc5 {x qual:Str}{st:Stmt}{f:Addr}{fd:FuncData}{N ps:List Str}{z:Str}{k:Nat}{φ:List A→(A→Prop)→(PyData→Prop)→Prop}(G:Fun K x qual st f fd)(hm:mg x=some (.ref f))(hb:Binds K fd ps [])(S:zf (N++[z]) ps (za st))(hpn:ps.length≤N.length)(hlen:∀as Q q,φ as Q q→as.length=ps.length)
  (hbody:∀(cdv:Value) (A':Around) (outer:List Env) (s:Shared) (H:Hp) (E:XK) (as:List A) (Q:A→Prop) (q:PyData→Prop) (r:Fr) (xe:Value→Shared→Prop),zG k (A'.deeper (envOfC qual (za st) s.heap.objs.size f cdv))→φ as Q q→Xok ((yQ (CX1 P w base) P w K mg base (N++[z]) qual (za st) f cdv A' outer s H E).wish xe) r (List.replicate (N.length+1) none) q→
   SvS ((yQ (CX1 P w base) P w K mg base (N++[z]) qual (za st) f cdv A' outer s H E).wish xe) ((as.map some++List.replicate (N.length-as.length) none)++[some (.exc r fun _=>True)]) (zv st) {nx:=fun _=>Q (.dat .none),rt:=Q}):oN P w K mg base x (k+1) φ:=
 ⟨f,fd,ps,hm,G.kp,hb,fnX G S hpn hlen hbody⟩
end
section
variable {X:Cx}{α αh:Ev}{q:PyData→Prop}{i j:Nat}{x n:Str}{B:Addr}{body suite rest:List Stmt}{b0:Stmt}{np hpos pos:Pos}{E:yi}
theorem oh {K:PySem.W.Frag}{r:Fr}{αh:Ev}(hq:∀d,q d→∃C,isX C d∧XB K C B):mF K B (fun σ a H=>∃d S,M r (αh++[some (.deep d S)]) (σ++[some (.ref a)]) H∧q d):=fun σ a H ⟨d,S,m,qd⟩=>by
 obtain⟨C,x,b⟩:=hq d qd
 obtain⟨av,_⟩:=vK m
 obtain⟨a',dx,e,h1,h2⟩:=x.at av
 cases e
 exact⟨C,dx,iK h1,fun y e=>by obtain⟨fs,h⟩:=h2 y e;exact⟨fs,iK h⟩,b⟩
theorem rM {β:Ev}{j:Nat}{a:A}{i:Nat}(e:(β.set j none)[i]?=some (some a)):β[i]?=some (some a):=by
 rcases zx e with ⟨_,z⟩|⟨_,z⟩
 ·cases z
 ·exact z
theorem M.drop {F:Fr}{β:Ev}{σ:St}{H:Hp}{j:Nat}(m:M F β σ H):M F (β.set j none) σ H:=m.forget (by rw[zm2]) fun i a e=>rM e
theorem M.dropS {F:Fr}{β:Ev}{σ:St}{H:Hp}{j:Nat}(m:M F β σ H):M F (β.set j none) (σ.set j none) H:=by
 have m':=m.drop (j:=j)
 have gs:∀{i:Nat} {a:A} {s:Option V},(β.set j none)[i]?=some (some a)→(σ.set j none)[i]?=some s→σ[i]?=some s:=fun {i a s} e1 e2=>by
  by_cases z:j=i
  ·subst z
   rcases zx e1 with ⟨_,z⟩|⟨z,_⟩
   ·cases z
   ·exact absurd rfl z
  ·rw[zn3 z] at e2;exact e2
 have ow:∀{y:Addr},Ow F (β.set j none) (σ.set j none) y→Ow F (β.set j none) σ y:=fun {y} h=>by
  rcases h with z|⟨i,c,s,e1,e2,f⟩
  ·exact .inl z
  ·exact .inr ⟨i,c,s,e1,gs e1 e2,f⟩
 have gz:zq (Gz F (β.set j none) σ H) (Gz F (β.set j none) (σ.set j none) H):=zl fun a o h e=>⟨fun z=>h (ow z),e⟩
 exact⟨by rw[zm2,zm2];exact m.len,fun i c s e1 e2=>(m'.ok i c s e1 (gs e1 e2)).stay gz (fun x o f e=>⟨e,(m'.ft e1 (gs e1 e2) f).1,(m'.ft e1 (gs e1 e2) f).2.1⟩) rfl fun _ _ _ l=>l,fun i i' c d s s' x e1 e2 h1 h2=>m'.dj i i' c d s s' x e1 e2 (gs e1 h1) (gs e2 h2),fun i r' q' e i' c s x e1 e2=>m'.xd i r' q' e i' c s x e1 (gs e1 e2),m'.tp,m'.keep,m'.oex⟩
theorem jO (i j:Nat)(αh:Ev)(q:PyData→Prop)(hst:X.stack=X.env::X.outer)(hex:X.ex=[])(hN:X.N.Nodup)(hj:α[j]?=some none)(le:leX αh α)(hg:Gl X x)(hm:X.mg x=some (.ref B))(hq:∀d,q d→∃C,isX C d∧XB X.K C B)
  (h1:∀(pins:List (Addr×Obj)) (xe:Value→Shared→Prop) (r:Fr),Xok ((X.held pins).wish xe) r αh q→SvS ((X.held pins).wish xe) (α.set j (some (.exc r fun _=>True))) body {nx:=fun α'=>SvS X (α'.set j none) rest E,rt:=E.rt,bk:=fun α'=>E.bk (α'.set j none),ct:=fun α'=>E.ct (α'.set j none)})
  (h2:∀(pins:List (Addr×Obj)) (a:Addr) d S,q d→SvS ((X.held pins).suite a) (αh.set i (some (.deep d S))) (b0::suite) {nx:=fun α'=>SvS X (α'.set i none) rest E,rt:=E.rt,bk:=fun α'=>E.bk (α'.set i none),ct:=fun α'=>E.ct (α'.set i none)})
  (hi:X.N[i]?=some n:=by rfl) (hl:X.env.scope.names.lookup n=some .local:=by rfl) (hdb:(x == ("__debug__":Str))=false:=by decide):
  SvS X α (.Try body [.ExceptHandler (some (.Name x np)) (some n) (b0::suite) hpos] [] [] pos::rest) E:=fun F σ H D m rr=>by
 refine⟨_,zD (ia (R:=fun σ a H=>∃d S,M F (αh++[some (.deep d S)]) (σ++[some (.ref a)]) H∧q d) hst hN hi hl hg hm (oh hq) hdb) zT,fun pins=>?_,fun pins a σ' H' hR=>?_⟩
 ·refine h1 pins _ F ⟨_,_,rfl,hst,hex,fun σ d S a H' mr qd=>⟨d,S,mr,qd⟩⟩ F σ H _ (m.exc hj) ⟨fun α' σ' H' m' z=>?_,rr.rt,fun α' σ' H' m' z=>rr.bk _ _ _ m'.drop z,fun α' σ' H' m' z=>rr.ct _ _ _ m'.drop z⟩
  exact z F σ' H' D m'.drop rr
 ·obtain⟨d,S,mr,qd⟩:=hR
  refine h2 pins a d S qd F _ H' _ mr.lastAt ⟨fun α' σ' H' m' z=>?_,rr.rt,fun α' σ' H' m' z=>rr.bk _ _ _ m'.dropS z,fun α' σ' H' m' z=>rr.ct _ _ _ m'.dropS z⟩
  exact z F _ H' D m'.dropS rr
end
section
variable {X:Cx}{α:Ev}{p p1 pos:Pos}{a:Expr}{Q:PyData→Prop}{C S:Addr}{init:Option Value}
inductive TyX (K:PySem.W.Frag)(H:Hp):V→Addr→Prop where
 |mk {a C S:Addr} {d:Option Addr} {init:Option Value} (e:H a=some (xcO a C d)) (hd:∀dx,d=some dx→∃fs,H dx=some (.xd fs)) (c:XC K C S init):TyX K H (.ref a) C
theorem uy {pins:List (Addr×Obj)}{σ:St}{H:Hp}{s:Shared}{A:Around}{E:Value→Shared→Prop}{Q:Value→Shared→Prop}{c:Value}{b:Bool}{x:V}{u:Value}(I:Inv X pins σ H s)(rx:RelV x u)(ty:TyX X.K H x C)(e:PySem.W.kitOne X.K (.ref C) c=some b)(h:∀tk,Q (.bool b) {s with toks:=tk}):
  wpAny (model X.prog X.w) A (call (.builtin "isinstance") [u,c]) Q E s:=by
 cases ty with
 |@mk a C S d init ea hd xc=>
  cases (show u=Value.ref a from rx)
  obtain⟨ox,od,J,_⟩:=nU I.hok ea hd
  exact zn4 (ir xc) I.kIn J e (fun z=>nomatch z) h
theorem ky :yU X (.builtin "isinstance") (fun xs H Q=>∃x B C b,xs=[x,.ref B]∧TyX X.K H x C∧PySem.W.kitOne X.K (.ref C) (.ref B)=some b∧Q (.bl b) H):=by
 intro pins s σ H xs us Q I r h
 obtain⟨x,B,C,b,rfl,ty,e,q⟩:=h
 obtain⟨u,v,rfl,rx,ry⟩:=Vals.two r
 cases (show v=Value.ref B from ry)
 exact uy I rx ty e fun tk=>⟨.bl b,H,I.tok tk,rfl,q⟩
theorem oZ :yU X (.builtin "isinstance") (fun xs H Q=>∃x T C b,xs=[x,.ty T]∧TyX X.K H x C∧PySem.W.kitOne X.K (.ref C) (.type T)=some b∧Q (.bl b) H):=by
 intro pins s σ H xs us Q I r h
 obtain⟨x,T,C,b,rfl,ty,e,q⟩:=h
 obtain⟨u,v,rfl,rx,ry⟩:=Vals.two r
 cases (show v=Value.type T from ry)
 exact uy I rx ty e fun tk=>⟨.bl b,H,I.tok tk,rfl,q⟩
theorem gU {G H:Hp}{pr:Addr→Prop}{v:V}{d:PyData}(x:isX C d)(c:XC X.K C S init)(h:AV (sub pr H) v d):TyX X.K H v C:=by
 obtain⟨a,dx,rfl,h1,h2⟩:=x.at h
 exact .mk (zh h1).2 (fun y e=>by obtain⟨fs,z⟩:=h2 y e;exact⟨fs,(zh z).2⟩) c
theorem xq {B:Addr}{x:Str}(hg:Gl X "isinstance")(hm:X.mg "isinstance"=none)(hgC:Gl X x)(hmC:X.mg x=some (.ref B))(h:EvD X α a fun d=>∃C S init b,isX C d∧XC X.K C S init∧PySem.W.kitOne X.K (.ref C) (.ref B)=some b∧Q (.bool b))
  (hdx:(x == ("__debug__":Str))=false:=by decide) (he:starEach [a,.Name x p1] X.env=(false,eval a X.env)::starEach [.Name x p1] X.env:=by rfl) (he2:starEach [.Name x p1] X.env=(false,eval (.Name x p1) X.env)::starEach [] X.env:=by rfl) (hpl:(backTo pos (starEach [.Name x p1] X.env)).any (·.1)=false:=by rfl):
  EvD X α (.Call (.Name "isinstance" p) [a,.Name x p1] [] pos) Q:=fun F σ H R m k=>by
 refine⟨_,yc ky hg hm zp7 (zc ze (zc (xW (v:=.ref B) hgC hmC rfl hdx) zm he2) he) (he:=he) (hpl:=hpl),?_⟩
 refine h F σ H _ m fun d vx H1 q1 t1 k1 r1=>?_
 obtain⟨C,S,init,b,x,c,e,q⟩:=q1
 exact⟨vx,B,C,b,rfl,gU (G:=H1) x c r1,e,k _ _ H1 q t1 k1 (.bl b)⟩
theorem qO {T:String}{x:Str}(hg:Gl X "isinstance")(hm:X.mg "isinstance"=none)(hgC:Gl X x)(hmC:X.mg x=none)(hv:bootBuiltins x=some (.type T))(h:EvD X α a fun d=>∃C S init b,isX C d∧XC X.K C S init∧PySem.W.kitOne X.K (.ref C) (.type T)=some b∧Q (.bool b))(hn:x≠"__name__":=by decide)
  (hdx:(x == ("__debug__":Str))=false:=by decide) (he:starEach [a,.Name x p1] X.env=(false,eval a X.env)::starEach [.Name x p1] X.env:=by rfl) (he2:starEach [.Name x p1] X.env=(false,eval (.Name x p1) X.env)::starEach [] X.env:=by rfl) (hpl:(backTo pos (starEach [.Name x p1] X.env)).any (·.1)=false:=by rfl):
  EvD X α (.Call (.Name "isinstance" p) [a,.Name x p1] [] pos) Q:=fun F σ H R m k=>by
 refine⟨_,yc oZ hg hm zp7 (zc ze (zc (xV hgC hmC hv (show RelV (.ty T) (.type T) from rfl) hn hdx) zm he2) he) (he:=he) (hpl:=hpl),?_⟩
 refine h F σ H _ m fun d vx H1 q1 t1 k1 r1=>?_
 obtain⟨C,S,init,b,x,c,e,q⟩:=q1
 exact⟨vx,T,C,b,rfl,gU (G:=H1) x c r1,e,k _ _ H1 q t1 k1 (.bl b)⟩
end
section
variable {X:Cx}{α:Ev}{pos:Pos}{o:Expr}{f:Str}{Q:PyData→Prop}{C S:Addr}{init:Option Value}
theorem qS {pins:List (Addr×Obj)}{σ:St}{H:Hp}{s:Shared}{A:Around}{E:Value→Shared→Prop}{b:Bool}{Q:Value→Shared→Prop}{a dx:Addr}{fs:List (Str×V)}{v:V}(I:Inv X pins σ H s)(e:H a=some (xcO a C (some dx)))(ed:H dx=some (.xd fs))(c:XC X.K C S init)(n:PySem.W.findIn X.K (.ref C) f=some none)(l:fs.lookup f=some v)
  (h:∀u s',Inv X pins σ H s'→RelV v u→Q u s'):wpAny (model X.prog X.w) A (getAttr (.ref a) f b) Q E s:=by
 obtain⟨⟨ox,vs,h1,h2,h3,h4⟩,_⟩:=I.hok a _ e
 obtain⟨mA,ns,r⟩:=I.hok dx _ ed
 obtain⟨od,ho,hl⟩:=sv ns
 obtain⟨u,hu,ru⟩:=wU.some_of (v:=v) (o:=mA f) (by rw[←l];exact r f)
 have J:PySem.W.InstAt s.heap a ox C (some od):=mh h1 h2 ⟨vs,h4⟩ (by rw[h3];exact ho)
 obtain⟨nm,qn,N,bs,sn,sub,ab,col,dd,k0,k1,k2,k3,k5,mN,hC,hN,hi,T,cd,hcd,hdict,hmro,_⟩:=yq I.kIn c.ok
 have hh:PySem.W.hasDictIn X.K C=true:=by unfold PySem.W.hasDictIn;rw[hcd];exact hdict
 have q:=h u _ (I.tok (s.toks+1)) ru
 obtain⟨h0,g,d,t,os⟩:=s
 exact ze2 I.kIn c J (PySem.W.findObj_own hh n rfl (by rw[hl,hu])) (tX ru) q
theorem fw {ta:TE}(c:XC X.K C S init)(n:PySem.W.findIn X.K (.ref C) f=some none)(he:PE X o ta)(hb:attributeBase o f X.env (eval o X.env)=eval o X.env):
  PE X (.Attribute o f pos) (fun σ H Q=>ta σ H fun x H1=>∃a dx fs v,x=.ref a∧H1 a=some (xcO a C (some dx))∧H1 dx=some (.xd fs)∧fs.lookup f=some v∧Q v H1):=by
 intro pins s σ H Q I h
 refine mq hb (thn (he pins s σ H _ I h) fun u s1 ⟨x,H1,I1,rx,a,dx,fs,v,ex,ea,ed,l,q⟩=>?_)
 subst ex
 obtain rfl:u=Value.ref a:=rx
 exact qS I1 ea ed c n l fun u' s2 I2 ru=>⟨v,H1,I2,ru,q⟩
theorem dA (c:XC X.K C S init)(n:PySem.W.findIn X.K (.ref C) f=some none)(h:EvD X α o fun x=>∃fs d,x=xD C fs∧vZ fs f=some d∧Q d)(hb:attributeBase o f X.env (eval o X.env)=eval o X.env:=by rfl):EvD X α (.Attribute o f pos) Q:=fun F σ H R m k=>by
 refine⟨_,fw c n ze hb,?_⟩
 refine h F σ H _ m fun x vx H1 q1 t1 k1 r1=>?_
 obtain⟨fs,d,rfl,hf,q⟩:=q1
 obtain⟨a,dx,gs,rfl,h1,h2,h3⟩:=r1.xc_inv
 obtain⟨v,hv,av⟩:=h3.get hf
 exact⟨a,dx,gs,v,rfl,(zh h1).2,(zh h2).2,hv,k d v H1 q t1 k1 av⟩
end
section
variable {P:Program}{w:World}{K:PySem.W.Frag}{mg:Str→Option Value}{base:Heap}
theorem fb {st:Stmt}{f C S:Addr}{fd:FuncData}{qual n fl a b:Str}{init:Option Value}{j1 j2:Nat}{p1 p2 p3 p4 p5 p6 p7 p8 p9 p10 p11 p12 p13 p14:Pos}(G:Fun K "__init__" qual st f fd)(S':zf ["self",n] ["self",n] (za st))
  (hb:zv st=[.Expr (.Call (.Attribute (.Name "StayError" p1) "__init__" p2) [.Name "self" p3,.JoinedStr [.Constant (.str a) j1 p4,.FormattedValue (.Name n p5) (-1) none p6,.Constant (.str b) j2 p7] p8] [] p9) p10,.Assign [.Attribute (.Name "self" p11) fl p12] (.Name n p13) p14])
  (hg:(za st).names.lookup ("StayError":Str)=some .globalImplicit) (hm:mg "StayError"=some (.ref S)) (xs:XS K S) (xc:XC K C S init) (hn:PySem.W.findIn K (.ref C) fl=some none) (la:a.length≤10000) (lb:b.length≤10000)
  {pl:Env→Sem Bool} (ht:∀env:Env,eval (.Call (.Attribute (.Name "StayError" p1) "__init__" p2) [.Name "self" p3,.JoinedStr [.Constant (.str a) j1 p4,.FormattedValue (.Name n p5) (-1) none p6,.Constant (.str b) j2 p7] p8] [] p9) env=(do
   let ov ←eval (.Name "StayError" p1) env
   standAt p2.atName
   let (f,first) ←holding [ov] (getMethod ov "__init__" (pl env))
   callWith p9 f first (backTo p9 (starEach [.Name "self" p3,.JoinedStr [.Constant (.str a) j1 p4,.FormattedValue (.Name n p5) (-1) none p6,.Constant (.str b) j2 p7] p8] env)) (backToKw p9 (keywordEach [] env))))
  (v0:Vis (za st) "self") (v1:Vis (za st) n) (hd:(n == ("__debug__":Str))=false:=by decide) (hcd:(n == ("__classdict__":Str))=false:=by decide):zr P w K mg base CX0 1 f fd ["self",n] (ze8 C fl):=by
 refine G.ok S' (fun vs H Q E h=>?_) (fun cdv A outer s H vs Q E hr h=>?_)
 ·obtain⟨a,i,rfl,_⟩:=h
  rfl
 ·obtain⟨a',i,rfl,hi,ha,k⟩:=h
  rw[hb]
  refine⟨_,zD (mj (gJ (C:=C) (init:=init) hg hm xs xc.ok (zc (yx (i:=0) rfl v0) (zc (qJ zN (fj (yx (i:=1) rfl v1 hd hcd)) zN) zm)) (ht:=ht _))) (zp (fv (yx (i:=0) rfl v0) (yx (i:=1) rfl v1 hd hcd) xc hn)),?_⟩
  refine⟨_,rfl,a,rfl,la,_,rfl,i,rfl,hi,_,rfl,nV hi,b,rfl,lb,a',_,none,rfl,zj4 rfl,ha,?_⟩
  exact⟨_,rfl,_,rfl,a',rfl,ha,fun dx h1 h2=>k dx h1 h2⟩
end
section
variable {X:Cx}{α αh:Ev}{r:Fr}{q q0:PyData→Prop}{j k:Nat}{x fl:Str}{C:Addr}{e:Expr}{es:List Expr}{p pos pos':Pos}{rest:List Stmt}{E:yi}
end
section
variable {P:Program}{w:World}{K:PySem.W.Frag}{mg:Str→Option Value}{base:Heap}
end
def sU (K:Frag)(C S:Addr)(init:Option Value):Bool:=yR K C S init&&findIn K (.ref C) "__setattr__" == some (some (.builtin "object.__setattr__"))&&findIn K (.ref C) "__getattribute__" == some (some (.builtin "BaseException.__getattribute__"))&&findIn K (.ref C) "__getattr__" == some none&&findIn K (.ref C) "__class__" == some (some (.builtin "object.__class__"))&&specialIn K (.builtin "object.__class__") "__get__" == some (some (.builtin "getset_descriptor.__get__"))&&takesIn K (.builtin "object.__class__")==some true
theorem XC.of {K:Frag}{C S:Addr}{init:Option Value}(h:sU K C S init=true):XC K C S init:=by
 simp only[sU,zk3,zp5] at h
 obtain⟨⟨⟨⟨⟨⟨h1,h2⟩,h3⟩,h4⟩,h5⟩,h6⟩,h7⟩:=h
 exact⟨h1,h2,h3,h4,h5,h6,h7⟩
def gj (K:Frag)(S:Addr):Bool:=readsIn K S (.type "type")&&(match findCls K (.ref S) (.type "type") "__init__" with|some (.val v)=>v == .builtin "ValueError.__init__"|_=>false)&&specialIn K (.ref S) "__getattribute__" == some (some (.builtin "type.__getattribute__"))
theorem XS.of {K:Frag}{S:Addr}(h:gj K S=true):XS K S:=by
 simp only[gj,zk3,zp5] at h
 obtain⟨⟨h1,h2⟩,h3⟩:=h
 refine⟨h1,?_,h3⟩
 split at h2
 ·rename_i v e
  rw[e,zp5.mp h2]
 ·cases h2
def mL (K:Frag)(C B:Addr):Bool:=typeIn K (.ref B)==some (.type "type")&&mroIn K B (.type "BaseException")==some true&&mroIn K C (.ref B)==some true
theorem XB.of {K:Frag}{C B:Addr}(h:mL K C B=true):XB K C B:=by
 simp only[mL,zk3,zp5] at h
 exact⟨h.1.1,h.1.2,h.2⟩
section
variable {P:Program}{w:World}{K:PySem.W.Frag}{mg:Str→Option Value}{base:Heap}
theorem oi.okX {dV:Value}{x qual:Str}{st:Stmt}{f:Addr}{fd:FuncData}{N ps:List Str}{k:Nat}{sp:Sp}(F:oi K x qual st dV f fd)(S:zf N ps (za st))(len:∀vs H Q E,sp vs H Q E→vs.length=ps.length)
  (hbody:∀(cdv:Value) (A:Around) (outer:List Env) (s:Shared) (H:Hp) (vs:List V) (Q:VK) (E:XK),zG k (A.deeper (envOfC qual (za st) s.heap.objs.size f cdv))→sp vs H Q E→
   ∃t,PSs ((yQ (CX1 P w base) P w K mg base N qual (za st) f cdv A outer s H E).wish (XE (yQ (CX1 P w base) P w K mg base N qual (za st) f cdv A outer s H E) fun _ a H=>E (.ref a) none H)) (zv st) t∧t {nx:=fun _ H'=>Q .non H',rt:=Q} (start N vs) H):zr P w K mg base (CX1 P w base) (k+1) f fd ps sp:=by
 obtain⟨oc,od,kV,doc,pm,an,cdv,ct,osl,rfl,lk,hcd⟩:=F.ex
 refine mM lk hcd S len fun A outer s H vs Q E hr hsp=>?_
 obtain⟨t,h,q⟩:=hbody cdv A outer s H vs Q E hr hsp
 exact⟨t,h.wishx fun e s z=>mQ z,q⟩
theorem zf9 {dV:Value}{x qual:Str}{st:Stmt}{f:Addr}{fd:FuncData}{N ps:List Str}{z:Str}{k:Nat}{φ:List A→(A→Prop)→(PyData→Prop)→Prop}(G:oi K x qual st dV f fd)(S:zf (N++[z]) ps (za st))(hpn:ps.length≤N.length)(hlen:∀as Q q,φ as Q q→as.length=ps.length)
  (hbody:∀(cdv:Value) (A':Around) (outer:List Env) (s:Shared) (H:Hp) (E:XK) (as:List A) (Q:A→Prop) (q:PyData→Prop) (r:Fr) (xe:Value→Shared→Prop),zG k (A'.deeper (envOfC qual (za st) s.heap.objs.size f cdv))→φ as Q q→Xok ((yQ (CX1 P w base) P w K mg base (N++[z]) qual (za st) f cdv A' outer s H E).wish xe) r (List.replicate (N.length+1) none) q→
   SvS ((yQ (CX1 P w base) P w K mg base (N++[z]) qual (za st) f cdv A' outer s H E).wish xe) ((as.map some++List.replicate (N.length-as.length) none)++[some (.exc r fun _=>True)]) (zv st) {nx:=fun _=>Q (.dat .none),rt:=Q}):zr P w K mg base (CX1 P w base) (k+1) f fd ps (spX φ):=by
 refine G.okX S (fun vs H Q E h=>?_) (fun cdv A' outer s H vs Qc E hr h=>?_)
 ·obtain⟨F,as,Q',q,_,_,_,rv,hφ,_⟩:=h
  rw[rv.length,hlen as _ _ hφ]
 ·obtain⟨F,as,Q',q,e,t,o,rv,hφ,kk,kx⟩:=h
  have hl:=hlen as _ _ hφ
  have m:=M.start (N:=N++[z]) e t o rv
  have ea:as.map some++List.replicate ((N++[z]).length-as.length) none=(as.map some++List.replicate (N.length-as.length) none)++[none]:=by
   rw[zk6,zp2,show N.length+1-as.length=(N.length-as.length)+1 by omega,List.replicate_succ',List.append_assoc]
  rw[ea] at m
  have el:(as.map some++List.replicate (N.length-as.length) (none:Option A)).length=N.length:=by rw[zk6,zj1,zq5];omega
  have mx:=m.exc (j:=N.length) (q:=fun _=>True) (by rw[zl6 (by omega),el,zo7]<;>rfl)
  have es:((as.map some++List.replicate (N.length-as.length) (none:Option A))++[none]).set N.length (some (A.exc F fun _=>True))=(as.map some++List.replicate (N.length-as.length) none)++[some (.exc F fun _=>True)]:=by
   rw[zs2 _ _ (by omega),el,zo7]<;>rfl
  rw[es] at mx
  refine hbody cdv A' outer s H E as Q' q F _ hr hφ ⟨_,_,rfl,rfl,rfl,fun σ d S a H' mr qd=>kx d S a H' qd ⟨mr.tp,mr.keep,vK mr⟩⟩ F _ H _ mx ⟨fun α σ H' m q=>?_,fun a v H' r q=>kk a v H' q r,fun _ _ _ _ z=>z.elim,fun _ _ _ _ z=>z.elim⟩
  exact kk _ _ _ q ⟨m.tp,m.keep,.non⟩
structure kY (P:Program)(w:World)(K:PySem.W.Frag)(mg:Str→Option Value)(base:Heap)(x:Str)(k:Nat)(φ:List A→(PyData→Prop)→Prop):Prop where
 ex:∃C f fd ps,mg x=some (.ref C)∧Mk K C f∧Binds K fd ps []∧zr P w K mg base (CX1 P w base) k f fd ps (spX fun as _ q=>∃as',as=.dat (xY C [])::as'∧φ as' q)
end
section
variable {X:Cx}{α αh:Ev}{r:Fr}{q q0:PyData→Prop}{j k:Nat}{x fl:Str}{C:Addr}{e:Expr}{es:List Expr}{p pos pos':Pos}{rest:List Stmt}{E:yi}{Q:PyData→Prop}{φ:List A→(PyData→Prop)→Prop}
theorem jy {X0:Cx}{R:St→Addr→Hp→Prop}{f:Addr}{fd:FuncData}{ps:List Str}{sp:Sp}{t:TA}(hex:X0.ex=[])(M':Mk X0.K C f)(F:zr X0.prog X0.w X0.K X0.mg X0.base (CX1 X0.prog X0.w X0.base) k f fd ps sp)(hr:zG (k+1) X0.A)(hg:Gl X0 x)(hm:X0.mg x=some (.ref C))(hb:Binds X0.K fd ps [])
  (ha:PA (X0.wish (XE X0 R)) (e::es) t) (hdb:(x == ("__debug__":Str))=false:=by decide) (he:starEach (e::es) X0.env=(false,eval e X0.env)::starEach es X0.env:=by rfl) (hpl:(backTo pos (starEach es X0.env)).any (·.1)=false:=by rfl):
  PE (X0.wish (XE X0 R)) (.Call (.Name x p) (e::es) [] pos) (fun σ H Q=>t σ H fun vs H1=>∀y dx,H1 y=none→H1 dx=none→dx≠y→∃E:XK,(∀a H',E (.ref a) none H'→R σ a H')∧sp (.ref y::vs) (upd (upd H1 dx (.own y)) y (.ins C dx [])) (fun v H2=>v=.non∧Q (.ref y) H2) E):=by
 intro pins s σ H Q I h
 refine zo1 (yM I hg hm ?_ hdb)
 refine zo6 (h₀:=X0.base) I.ok.mod.kin M'.kp (thn (ha pos pins s σ H _ I h) fun us s1 ⟨vs,H1,I1,r,q⟩=>⟨I1.kIn,?_⟩) he hpl
 obtain⟨E,hE,hq⟩:=q (s1.heap.objs.size+1) s1.heap.objs.size (I1.hok.fresh (zr5 _)) (I1.hok.fresh (zj8 _)) (zl8 (zs5 _))
 have I2:=Inv.made (C:=C) I1
 have r2:Vals (V.ref (s1.heap.objs.size+1)::vs) (Value.ref (s1.heap.objs.size+1)::us):=.cons rfl r
 have hl:(Value.ref (s1.heap.objs.size+1)::us++[]).length=ps.length:=by
  rw[zo0,←r2.length]
  exact F.len _ _ _ _ hq
 have hbb:=hb _ (Value.ref (s1.heap.objs.size+1)::us) I2.kIn hl
 rw[zo0] at hbb
 refine zq3 (qP (f:=f) I1.kIn M'.makes M'.init (zp5.mp M'.fn) (zs1 (F.run _ X0.stack _ _ ⟨Value.ref (s1.heap.objs.size+1)::us,[]⟩ (Value.ref (s1.heap.objs.size+1)::us) _ _ E (hr.make C us [])
  (I2.env0.make C us []) hbb r2 hq) fun r s' hq'=>?_))
 cases r with
 |error e=>exact nF hex I2.unwish hq' hE
 |ok fl=>
  cases fl with
  |ret u=>
   obtain⟨v,H',I3,rv,ev,q3⟩:=I2.after hq'
   subst ev
   exact⟨rv,⟨V.ref (s1.heap.objs.size+1),H',I3,rfl,q3⟩⟩
  |next=>exact False.elim hq'
  |brk=>exact False.elim hq'
  |cont=>exact False.elim hq'
theorem gG (xo:Xok X r αh q)(hj:α[j]?=some (some (.exc r q0)))(le:leX αh α)(C':kY X.prog X.w X.K X.mg X.base x k φ)(hr:zG (k+1) X.A)(hg:Gl X x)(h:EvA X α (e::es) fun as=>φ as q)
  (hdb:(x == ("__debug__":Str))=false:=by decide) (he:starEach (e::es) X.env=(false,eval e X.env)::starEach es X.env:=by rfl) (hpl:(backTo pos (starEach es X.env)).any (·.1)=false:=by rfl):EvD X α (.Call (.Name x p) (e::es) [] pos) Q:=fun F σ H Rk m kk=>by
 obtain⟨X0,R,rfl,h1,h2,h3⟩:=xo.ex
 obtain⟨C,f,fd,ps,c1,c2,c3,c4⟩:=C'.ex
 refine⟨_,jy h2 c2 c4 hr hg c1 c3 yu hdb he hpl,?_⟩
 refine h F σ H _ m fun as vs H1 q1 t1 k1 r1=>?_
 have m1:=m.kz k1 t1
 intro y dx hy hdx hne
 have sm:zq H1 (upd (upd H1 dx (.own y)) y (.ins C dx [])):=fun a o e=>by rw[zg (zk e hy),zg (zk e hdx)];exact e
 have m2:=m1.kz (Kz.of_same sm) (m1.tp.same sm)
 refine wy (as:=.dat (xY C [])::as) (QA:=fun _=>False) m2 hj le h3 (.cons ?_ (r1.same ?_)) ⟨as,rfl,q1⟩ fun a v H' z=>z.elim
 ·exact .ins (zK (m1.fresh hy) zj) .nil
 ·exact zl fun a o hh e=>⟨hh,sm a o e⟩
theorem fJ {y f:Str}{p1 p2:Pos}(i:Nat)(h:EvD X α e fun _=>False)(hN:X.N[i]?=some y:=by rfl)(hv:Vis X.env.scope y:=by first|exact Or.inl rfl|exact Or.inr (Or.inl rfl)|exact Or.inr (Or.inr rfl))(hd:(y == ("__debug__":Str))=false:=by decide)(hcd:(y == ("__classdict__":Str))=false:=by decide)
  (hs:swapsWith e (some (.Attribute (.Name y p1) f p2)) pos.line X.env=pure false:=by rfl):SvS X α (.Assign [.Attribute (.Name y p1) f p2] e pos::rest) E:=fun F σ H D m r=>by
 refine⟨_,zD (uZ (yx hN hv hd hcd) ze hs) zT,?_⟩
 exact h F σ H _ m fun d v H' z=>z.elim
theorem iI {a b:Str}{j1 j2:Nat}{p4 p6 p7 p8:Pos}(la:a.length≤10000)(lb:b.length≤10000)(h:EvD X α e fun d=>∃i:Int,d=.int i∧i.natAbs.log2<1920∧∀t:Str,Q (.str t)):EvD X α (.JoinedStr [.Constant (.str a) j1 p4,.FormattedValue e (-1) none p6,.Constant (.str b) j2 p7] p8) Q:=fun F σ H R m k=>by
 refine⟨_,qJ zN (fj ze) zN,?_⟩
 refine⟨a,rfl,la,?_⟩
 refine h F σ H _ m fun d v H1 q1 t1 k1 r1=>?_
 obtain⟨i,rfl,hi,q⟩:=q1
 cases r1.int_inv
 exact⟨i,rfl,hi,_,rfl,nV hi,b,rfl,lb,k _ _ H1 (q _) t1 k1 (.str _)⟩
end
def zc2 :Option A→Option A
 |some .tape=>none
 |some (.exc _ _)=>none
 |a=>a
def yB (α:Ev):Ev:=α.map zc2
def iA :A→Prop
 |.tape=>False
 |.exc _ _=>False
 |_=>True
theorem yZ {α:Ev}{i:Nat}{a:A}(h:(yB α)[i]?=some (some a)):α[i]?=some (some a)∧iA a:=by
 unfold yB at h
 rw[zl9,zm9] at h
 obtain⟨b,h1,h2⟩:=h
 cases b with
 |none=>cases h2
 |some b=>cases b<;>cases h2<;>exact⟨h1,trivial⟩
theorem yS.to {G G':Hp}{F F':Fr}{H H':Hp}{s:Option V}{a:A}(ka:iA a)(h:yS G F H s a)(g:zq G G')(hf:∀x o,foot s a x→H x=some o→H' x=some o∧¬F'.O0 x∧F'.H0 x=none):yS G' F' H' s a:=by
 cases a with
 |dat d=>obtain⟨v,h1,h2⟩:=h;exact⟨v,h1,h2.same g⟩
 |ow c=>
  obtain⟨l,o,h1,h2,h3,h4,h5⟩:=h
  obtain⟨z1,z2,z3⟩:=hf l o h1 h2
  exact⟨l,o,h1,z1,h3.same g,z2,z3⟩
 |deep d S=>
  obtain⟨v,h1,h2,h3⟩:=h
  refine⟨v,h1,h2.same (wO g fun x o z e=>(hf x o z e).1),fun x z=>?_⟩
  obtain⟨_,_,xs,e⟩:=h3 x z
  obtain⟨z1,z2,z3⟩:=hf x _ z e
  exact⟨z2,z3,xs,z1⟩
 |tape=>exact ka.elim
 |«at» l=>exact h
 |exc r q=>exact ka.elim
 |pin l vs ds=>exact⟨h.1,g _ _ h.2.1,h.2.2.same g⟩
def Tp (F:Fr)(x:Addr):Prop:=∃t b c,F.tp=some (t,b,c)∧(x=t∨x=b∨x=c)
noncomputable instance tpDec (F:Fr)(x:Addr):Decidable (Tp F x):=Classical.propDecidable _
noncomputable def Fr.row (F:Fr)(H:Hp)(l:Addr):Fr:=⟨fun x=>if Tp F x then H x else F.H0 x,fun x=>F.O0 x∨x=l,some (l,l,l)⟩
section
variable {F:Fr}{α α':Ev}{σ σ':St}{H H':Hp}{l:Addr}
theorem Tp.own (t:zE F H){x:Addr}(h:Tp F x):F.O0 x:=by
 obtain⟨a,b,c,e,z⟩:=h
 obtain⟨_,h1,h2,h3⟩:=t a b c e
 rcases z with z|z|z
 ·rw[z];exact h1
 ·rw[z];exact h2
 ·rw[z];exact h3
theorem Tp.lst (t:zE F H){x:Addr}(h:Tp F x):∃xs,H x=some (.lst xs):=by
 obtain⟨a,b,c,e,z⟩:=h
 obtain⟨n,bs,cs,n1,e1,e2,e3,_⟩:=(t a b c e).1.ex
 rcases z with z|z|z
 ·rw[z];exact⟨_,e1⟩
 ·rw[z];exact⟨_,e2⟩
 ·rw[z];exact⟨_,e3⟩
theorem Tp.noTab (t:zE F H){x:Addr}(h:Tp F x):¬uQ x:=fun z=>by
 obtain⟨o,e,_,n⟩:=ud t.tab z
 obtain⟨xs,e2⟩:=Tp.lst t h
 rw[e] at e2;cases e2
 exact n _ rfl
theorem qf (t:zE F H){x:Addr}(h:(F.row H l).H0 x=none):F.H0 x=none:=by
 have h':(if Tp F x then H x else F.H0 x)=none:=h
 split at h'
 ·rename_i q
  obtain⟨xs,e⟩:=Tp.lst t q
  rw[e] at h';cases h'
 ·exact h'
theorem M.row {i:Nat}{x y:Int}(m:M F α σ H)(hi:α[i]?=some (some (.own [.int x,.int y])))(h0:0≤y)(h1:y<4294967296):∃l,F.H0 l=none∧¬F.O0 l∧M (F.row H l) ((yB α).set i (some .tape)) σ H:=by
 obtain⟨l,xs,e1,e2,e3,e4,e5⟩:=m.own i _ hi
 have ex:xs=[.int x,.int y]:=by
  cases e3 with
  |cons a r=>
   cases r with
   |cons b r=>
    cases r
    rw[a.int_inv,b.int_inv]
 subst ex
 have old:∀{j:Nat} {a:A},((yB α).set i (some .tape))[j]?=some (some a)→(i=j∧a=.tape)∨(i≠j∧α[j]?=some (some a)∧iA a):=fun {j a} e=>by
  rcases zx e with ⟨z,w⟩|⟨z,w⟩
  ·cases w;exact .inl ⟨z,rfl⟩
  ·obtain⟨w1,w2⟩:=yZ w
   exact .inr ⟨z,w1,w2⟩
 have ow:∀{z:Addr},Ow (F.row H l) ((yB α).set i (some .tape)) σ z→Ow F α σ z:=fun {z} h=>by
  rcases h with (h|h)|⟨j,a,s,w1,w2,w3⟩
  ·exact .inl h
  ·rw[h];exact .inr ⟨i,_,_,hi,e1,rfl⟩
  ·rcases old w1 with ⟨_,q⟩|⟨_,q,_⟩
   ·subst q;exact w3.elim
   ·exact .inr ⟨j,a,s,q,w2,w3⟩
 have gs:zq (Gz F α σ H) (Gz (F.row H l) ((yB α).set i (some .tape)) σ H):=zl fun a o h e=>⟨fun z=>h (ow z),e⟩
 refine⟨l,e5,e4,?_,fun j a s q1 q2=>?_,fun j j' a b s t z q1 q2 q3 q4 f1 f2=>?_,fun j r q e=>?_,⟨m.tp.tab,fun x h=>.inl (m.tp.ot x h),fun t b c e=>?_⟩,fun z o e n=>?_,fun z hz=>?_⟩
 ·rw[zm2]
  unfold yB
  rw[zj1]
  exact m.len
 ·rcases old q1 with ⟨z,q⟩|⟨hj,q,ka⟩
  ·subst z q
   rw[e1] at q2;cases q2
   exact⟨l,l,l,rfl,rfl⟩
  ·refine (m.ok j a s q q2).to ka gs fun x o f e=>?_
   obtain⟨g1,g2,_⟩:=m.ft q q2 f
   refine⟨e,fun z=>z.elim g1 fun z=>hj (m.dj i j _ _ _ _ x hi q e1 q2 (by rw[z];exact rfl) f),?_⟩
   show (if Tp F x then H x else F.H0 x)=none
   rw[if_neg fun z=>g1 (Tp.own m.tp z)]
   exact g2
 ·rcases old q1 with ⟨_,q⟩|⟨_,w1,_⟩
  ·subst q;exact f1.elim
  ·rcases old q2 with ⟨_,q⟩|⟨_,w2,_⟩
   ·subst q;exact f2.elim
   ·exact m.dj j j' a b s t z w1 w2 q3 q4 f1 f2
 ·rcases old e with ⟨_,q⟩|⟨_,_,ka⟩
  ·cases q
  ·exact ka.elim
 ·cases e
  exact⟨⟨0,[x,y],[x,y],⟨rfl,rfl⟩,e2,e2,e2,⟨x,y,rfl,h0,h1⟩,rfl⟩,.inr rfl,.inr rfl,.inr rfl⟩
 ·have e':(if Tp F z then H z else F.H0 z)=some o:=e
  split at e'
  ·exact e'
  ·rename_i q
   exact m.keep z o e' ⟨fun t b c w=>⟨fun y=>q ⟨t,b,c,w,.inl y⟩,fun y=>q ⟨t,b,c,w,.inr (.inl y)⟩⟩,n.2⟩
 ·rcases hz with z|z
  ·exact m.oex _ z
  ·exact⟨_,by rw[z];exact e2,xJ⟩
theorem zE.unrow (t:zE F H)(hl:¬F.O0 l)(tb:TabAt H')(k:Kz (F.row H l) (F.row H l).H0 H'):zE F H':=⟨tb,t.ot,fun a b c e=>by
 obtain⟨h1,h2,h3,h4⟩:=t a b c e
 refine⟨h1.off fun z hz=>?_,h2,h3,h4⟩
 have tz:Tp F z:=⟨a,b,c,e,hz⟩
 have oz:F.O0 z:=Tp.own t tz
 have nl:z≠l:=fun q=>hl (by rw[←q];exact oz)
 obtain⟨xs,ho⟩:=Tp.lst t tz
 rw[ho]
 refine k z _ ?_ ⟨fun t' b' c' w=>by cases w;exact⟨nl,nl⟩,Tp.noTab t tz⟩
 show (if Tp F z then H z else F.H0 z)=some _
 rw[if_pos tz];exact ho⟩
theorem Kz.unrow (m:M F α σ H)(h0:F.H0 l=none)(k:Kz (F.row H l) (F.row H l).H0 H'):Kz F F.H0 H':=fun x o e n=>by
 have nl:x≠l:=fun q=>by rw[q,h0] at e;cases e
 refine k x o ?_ ⟨fun t' b' c' w=>by cases w;exact⟨nl,nl⟩,n.2⟩
 show (if Tp F x then H x else F.H0 x)=some o
 split
 ·exact m.keep x o e n
 ·exact e
theorem M.unrow (m:M F α σ H)(h0:F.H0 l=none)(hl:¬F.O0 l)(m':M (F.row H l) α' σ' H'):M F (yB α') σ' H':=by
 have ow:∀{z:Addr},Ow F (yB α') σ' z→Ow (F.row H l) α' σ' z:=fun {z} h=>by
  rcases h with h|⟨j,a,s,w1,w2,w3⟩
  ·exact .inl (.inl h)
  ·exact .inr ⟨j,a,s,(yZ w1).1,w2,w3⟩
 have gs:zq (Gz (F.row H l) α' σ' H') (Gz F (yB α') σ' H'):=zl fun a o h e=>⟨fun z=>h (ow z),e⟩
 refine⟨?_,fun j a s q1 q2=>?_,fun j j' a b s t z q1 q2=>m'.dj j j' a b s t z (yZ q1).1 (yZ q2).1,fun j r q e=>?_,m.tp.unrow hl m'.tp.tab m'.keep,Kz.unrow m h0 m'.keep,fun z hz=>m'.oex z (.inl hz)⟩
 ·unfold yB
  rw[zj1]
  exact m'.len
 ·obtain⟨w1,ka⟩:=yZ q1
  refine (m'.ok j a s w1 q2).to ka gs fun x o f e=>?_
  obtain⟨g1,g2,_⟩:=m'.ft w1 q2 f
  exact⟨e,fun z=>g1 (.inl z),qf m.tp g2⟩
 ·exact (yZ e).2.elim
theorem xh.unrow {v:V}{a:A}(m:M F α σ H)(h0:F.H0 l=none)(hl:¬F.O0 l)(r:xh (F.row H l) v H' a):xh F v H' a:=by
 obtain⟨t,k,r⟩:=r
 exact⟨m.tp.unrow hl t.tab k,Kz.unrow m h0 k,r.to (fun _ z=>.inl z) fun x z=>qf m.tp z⟩
end
section
variable {X:Cx}{α:Ev}{E:yi}{sts rest body:List Stmt}{tg iter:Expr}{pos:Pos}
theorem bo (i:Nat){x y:Int}(hi:α[i]?=some (some (.own [.int x,.int y])))(h0:0≤y)(h1:y<4294967296)
  (h:SvS X ((yB α).set i (some .tape)) sts {nx:=fun α'=>E.nx (yB α'),rt:=E.rt,bk:=fun α'=>E.bk (yB α'),ct:=fun α'=>E.ct (yB α')}):SvS X α sts E:=fun F σ H D m r=>by
 obtain⟨l,e5,e4,mr⟩:=m.row hi h0 h1
 refine h _ σ H D mr ⟨fun α' σ' H' m' q=>r.nx _ _ _ (m.unrow e5 e4 m') q,fun a v H' z q=>r.rt a v H' (z.unrow m e5 e4) q,fun α' σ' H' m' q=>r.bk _ _ _ (m.unrow e5 e4 m') q,fun α' σ' H' m' q=>r.ct _ _ _ (m.unrow e5 e4 m') q⟩
end
section
variable {P:Program}{w:World}{K:PySem.W.Frag}{mg:Str→Option Value}{base:Heap}
def fr0 (H:Hp):Fr:=⟨H,uQ,none⟩
theorem M.zero {H:Hp}{σ:St}{n:Nat}(tb:TabAt H)(hl:n=σ.length):M (fr0 H) (List.replicate n none) σ H:=by
 have no:∀(i:Nat) a,(List.replicate n (none:Option A))[i]?≠some (some a):=fun i a z=>by
  rw[zq0] at z
  split at z<;>cases z
 exact⟨by rw[zq5];exact hl,fun i a s e=>absurd e (no i _),fun i j a b s t l e=>absurd e (no i _),fun i r q e=>absurd e (no i _),⟨tb,fun _ h=>h,fun t b c e=>by (cases e)⟩,fun _ _ e _=>e,fun x hx=>by
  obtain⟨o,ho,hn,_⟩:=ud tb hx
  exact⟨o,ho,hn⟩⟩
end
section
variable {X:Cx}{α:Ev}{p pos ap:Pos}{a b c:Expr}{Q:PyData→Prop}
end
section
variable {X:Cx}{α:Ev}{E:yi}{rest:List Stmt}{tg iter:Expr}{pos:Pos}
end
section
variable {X:Cx}{α:Ev}{a b e tg:Expr}{p pos apos:Pos}{Q:PyData→Prop}
theorem eX (hg:Gl X "str")(hm:X.mg "str"=none)(h:EvD X α e fun x=>∃i:Int,x=.int i∧i.natAbs.log2<1920∧Q (.str (toString i)))(he:starEach [e] X.env=(false,eval e X.env)::starEach [] X.env:=by rfl):
  EvD X α (.Call (.Name "str" p) [e] [] pos) Q:=fun F σ H R m k=>by
 refine⟨_,vH sW hg hm boot_str (zc ze zm he) (he:=he),?_⟩
 refine h F σ H _ m fun x vx H1 q1 t1 k1 r1=>?_
 obtain⟨i,rfl,hz,q⟩:=q1
 cases r1.int_inv
 exact⟨i,rfl,hz,k _ _ H1 q t1 k1 (.str _)⟩
theorem tF :yU X (.type "int") (fun xs H Q=>∃x n,xs=[.str x]∧PySem.intText? x=some n∧x.length≤640∧Q (.int n) H):=by
 intro pins s σ H xs us Q I r h
 obtain⟨x,n,rfl,hn,hl,q⟩:=h
 obtain⟨u,rfl,t,rfl⟩:=vals1 r
 exact PySem.W.KIN.call_text hn hl ⟨.int n,H,I.tok _,⟨_,rfl⟩,q⟩
theorem mi (hg:Gl X "int")(hm:X.mg "int"=none)(h:EvD X α e fun x=>∃z n,x=.str z∧PySem.intText? z=some n∧z.length≤640∧Q (.int n))(he:starEach [e] X.env=(false,eval e X.env)::starEach [] X.env:=by rfl):
  EvD X α (.Call (.Name "int" p) [e] [] pos) Q:=fun F σ H R m k=>by
 refine⟨_,vH tF hg hm boot_int (zc ze zm he) (he:=he),?_⟩
 refine h F σ H _ m fun x vx H1 q1 t1 k1 r1=>?_
 obtain⟨z,n,rfl,hn,hl,q⟩:=q1
 cases r1.str_inv
 exact⟨z,n,rfl,hn,hl,k _ _ H1 q t1 k1 (.int _)⟩
theorem bp (hs:vt b)(h:EvD X α a fun x=>EvD X α b fun y=>∃z i c,x=.str z∧y=.int i∧z.length≤sizeLine∧atI z.cps.toList i=some c∧Q (.str ⟨#[c]⟩)):EvD X α (.Subscript a b pos) Q:=fun F σ H R m k=>by
 refine⟨_,zX gm ze ze hs,?_⟩
 refine h F σ H _ m fun x vx H1 q1 t1 k1 r1=>?_
 have m1:=m.kz k1 t1
 refine q1 F σ H1 _ m1 fun y vy H2 q2 t2 k2 r2=>?_
 obtain⟨z,i,c,rfl,rfl,hz,hc,q⟩:=q2
 cases r1.str_inv;cases r2.int_inv
 exact⟨z,i,c,rfl,rfl,hz,hc,k _ _ H2 q t2 (k1.trans k2) (.str _)⟩
theorem ik {x:Str}{z:Str}(hg:Gl X x)(hm:∃t,X.mg x=some (.str z t))(q:Q (.str z))(hd:(x == ("__debug__":Str))=false:=by decide):EvD X α (.Name x pos) Q:=fun F σ H R m k=>by
 obtain⟨t,hm⟩:=hm
 exact⟨_,xW hg hm (show RelV (.str z) _ from ⟨t,rfl⟩) hd,k _ _ H q m.tp Kz.refl (.str _)⟩
theorem cP (h:EvD X α a fun x=>EvD X α b fun y=>∃i j,x=.str i∧y=.str j∧Q (.bool (!(Builtin.Str.occurrences j i 0 j.length 1).isEmpty)))(hm:behindInMarks .In b=false:=by rfl):EvD X α (.Compare a [.In] [b] pos) Q:=fun F σ H R m k=>by
 refine⟨_,xy lY ze ze hm,?_⟩
 refine h F σ H _ m fun x vx H1 q1 t1 k1 r1=>?_
 have m1:=m.kz k1 t1
 refine q1 F σ H1 _ m1 fun y vy H2 q2 t2 k2 r2=>?_
 obtain⟨i,j,rfl,rfl,q⟩:=q2
 cases r1.str_inv;cases r2.str_inv
 exact⟨i,j,rfl,rfl,k _ _ H2 q t2 (k1.trans k2) (.bl _)⟩
theorem dm (hg:Gl X "tuple")(hm:X.mg "tuple"=none)(h:EvD X α e fun x=>∃ds,x=.list ds∧Q (.tuple ds))(he:starEach [e] X.env=(false,eval e X.env)::starEach [] X.env:=by rfl):
  EvD X α (.Call (.Name "tuple" p) [e] [] pos) Q:=fun F σ H R m k=>by
 refine⟨_,vH tI hg hm boot_tuple (zc ze zm he) (he:=he),?_⟩
 refine h F σ H _ m fun x vx H1 q1 t1 k1 r1=>?_
 obtain⟨ds,rfl,q⟩:=q1
 have m1:=m.kz k1 t1
 obtain⟨l,xs,rfl,h1,h2⟩:=r1.lst_inv
 refine⟨_,xs,rfl,.inl ⟨SqL.of (zh h1).2,fun l' hl=>?_⟩⟩
 exact k _ _ _ q (t1.same (yk hl)) (k1.trans (Kz.of_same (yk hl))) (.tup (xs:=xs) (zK (m1.fresh hl) zj) (h2.same (zl fun a o ha e=>⟨ha,by rw[zg (zk e hl)];exact e⟩)))
theorem tZ :∀{ts:List Str} {us:List Value},Vals (ts.map .str) us→∃l:List (Str×Tok),us=strValues l∧l.map (·.1)=ts
 |[],_,.nil=>⟨[],rfl,rfl⟩
 |x::r,_,.cons h q=>by
  obtain⟨t,rfl⟩:=h
  obtain⟨l,rfl,rfl⟩:=tZ q
  exact⟨(x,t)::l,rfl,rfl⟩
theorem AVs.strs {H:Hp}:∀{xs:List V} {ts:List Str},AVs H xs (ts.map .str)→xs=ts.map V.str
 |_,[],.nil=>rfl
 |_,b::bs,.cons h r=>by rw[h.str_inv,AVs.strs r];rfl
theorem eF :MtM X "str.join" (fun x xs H Q=>∃i l ts,x=.str i∧xs=[.ref l]∧SqL X.K H l (ts.map .str)∧JoinOk i ts=true∧Q (.str (Txt.join i ts)) H):=by
 intro pins s σ H x xs v us Q I rx rv h
 obtain⟨i,l,ts,rfl,rfl,hq,hj,q⟩:=h
 obtain⟨t,rfl⟩:=rx
 obtain⟨u,rfl,r1⟩:=vals1 rv
 cases r1
 obtain⟨its,r',pl,hz⟩:=I.list hq
 obtain⟨l',rfl,e⟩:=tZ r'
 exact SC.join pl.isList e hj fun t' k=>⟨.str _,H,I.tok _,⟨_,rfl⟩,q⟩
theorem mD (h:EvD X α a fun x=>∃i,x=.str i∧EvD X α e fun y=>∃ts,y=.list (ts.map .str)∧JoinOk i ts=true∧Q (.str (Txt.join i ts)))(hbase:attributeBase a "join" X.env (eval a X.env)=eval a X.env:=by rfl)(hline:(apos.endLine == pos.line)=true:=by rfl)
  (he:starEach [e] X.env=(false,eval e X.env)::starEach [] X.env:=by rfl) (hfew:((backTo pos (starEach (e::[]) X.env)).all (fun x=>!x.1)&&(backToKw pos (keywordEach [] X.env)).all (fun x=>x.1.isSome)
   &&decide ((e::[]).length+([]:List Keyword).length+(if ([]:List Keyword).isEmpty then 0 else 1)<30))=true:=by rfl):EvD X α (.Call (.Attribute a "join" apos) [e] [] pos) Q:=fun F σ H R m k=>by
 refine⟨_,gf PySem.F.plainAttrs_str PySem.F.slot_str_join PySem.F.type_str_join eF ze (zc ze zm he) hbase hfew hline he rfl,?_⟩
 refine h F σ H _ m fun x vx H1 q1 t1 k1 r1=>?_
 have m1:=m.kz k1 t1
 obtain⟨i,rfl,q1⟩:=q1
 cases r1.str_inv
 refine⟨rfl,?_⟩
 refine q1 F σ H1 _ m1 fun y vy H2 q2 t2 k2 r2=>?_
 obtain⟨ts,rfl,hj,q⟩:=q2
 obtain⟨l,xs,rfl,h1,h2⟩:=r2.lst_inv
 cases h2.strs
 exact⟨i,l,ts,rfl,rfl,SqL.of (zh h1).2,hj,k _ _ H2 q t2 (k1.trans k2) (.str _)⟩
theorem sD :∀(l:List (Str×Tok)),Vals ((l.map (·.1)).map V.str) (strValues l)
 |[]=>.nil
 |p::r=>.cons ⟨p.2,rfl⟩ (sD r)
theorem jV :MtM X "str.split" (fun x xs H Q=>∃i j,x=.str i∧xs=[.str j]∧(j.length == 0)=false∧i.length+2≤sizeLine∧∀l,H l=none→Q (.ref l) (upd H l (.lst ((Txt.split i j).map .str)))):=by
 intro pins s σ H x xs v us Q I rx rv h
 obtain⟨i,j,rfl,rfl,hj,hi,q⟩:=h
 obtain⟨t,rfl⟩:=rx
 obtain⟨u,rfl,t',rfl⟩:=vals1 rv
 have hs:(Txt.split i j).length≤sizeLine:=zl2 (split_le i j) hi
 have fin:∀(l:List (Str×Tok)) (tk:Nat),l.map (·.1)=Txt.split i j→EP X pins σ Q (.ref s.heap.objs.size) {s with heap:=s.heap.push {cls:=.type "list",data:=.seq (strValues l).toArray},toks:=tk}:=fun l tk e=>
  ⟨.ref s.heap.objs.size,_,I.laid (t':=tk) (fun b o e=>zj3 _ e) (zj8 _) (show zY X.prog X.w _ _ _ (.lst ((Txt.split i j).map .str)) from ⟨by rw[zj1];exact hs,_,_,by rw[←e];exact sD l,zm7 _ rfl⟩),rfl,q _ (I.hok.fresh (zj8 _))⟩
 cases h1:(decide (i.length<j.length)||decide (Builtin.Str.strKind i<Builtin.Str.strKind j))
 ·cases hf:(Builtin.Str.occurrences i j 0 i.length (i.length+1)).isEmpty
  ·have e:Builtin.Str.partsBetween i (Builtin.Str.occurrences i j 0 i.length (i.length+1)) j.length=Txt.split i j:=by
    rw[Txt.split,if_neg (zv5 h1),if_neg (zv5 hf)]
   refine call_meets zr6 (zu7 _ _ _) zt7 (zt2 _ _) (meets_str_split_sep i j t t' h1 hj hf (by omega) (by rw[e];exact hs)) ?_
   rw[e,strsFrom_eq]
   exact fin (numbered s.toks _) _ (numbered_texts _ _)
  ·exact call_meets zr6 (zu7 _ _ _) zt7 (zt2 _ _) (meets_str_split_not_found i j t t' h1 hj hf)
    (fin [(i,t)] s.toks (by rw[Txt.split,if_neg (zv5 h1),if_pos hf];rfl))
 ·exact call_meets zr6 (zu7 _ _ _) zt7 (zt2 _ _) (meets_str_split_cannot_occur i j t t' h1)
   (fin [(i,t)] s.toks (by rw[Txt.split,if_pos h1];rfl))
theorem AVs.of_strs {H:Hp}:∀(ts:List Str),AVs H (ts.map V.str) (ts.map .str)
 |[]=>.nil
 |x::r=>.cons (.str x) (AVs.of_strs r)
theorem uX {Q:List PyData→Prop}(h:EvD X α a fun x=>∃i,x=.str i∧EvD X α e fun y=>∃j,y=.str j∧(j.length == 0)=false∧i.length+2≤sizeLine∧Q ((Txt.split i j).map .str))(hbase:attributeBase a "split" X.env (eval a X.env)=eval a X.env:=by rfl)(hline:(apos.endLine == pos.line)=true:=by rfl)
  (he:starEach [e] X.env=(false,eval e X.env)::starEach [] X.env:=by rfl) (hfew:((backTo pos (starEach (e::[]) X.env)).all (fun x=>!x.1)&&(backToKw pos (keywordEach [] X.env)).all (fun x=>x.1.isSome)
   &&decide ((e::[]).length+([]:List Keyword).length+(if ([]:List Keyword).isEmpty then 0 else 1)<30))=true:=by rfl):EvL X α (.Call (.Attribute a "split" apos) [e] [] pos) Q:=fun F σ H R m k=>by
 refine⟨_,gf PySem.F.plainAttrs_str zr6 PySem.F.type_str_split jV ze (zc ze zm he) hbase hfew hline he rfl,?_⟩
 refine h F σ H _ m fun x vx H1 q1 t1 k1 r1=>?_
 have m1:=m.kz k1 t1
 obtain⟨i,rfl,q1⟩:=q1
 cases r1.str_inv
 refine⟨rfl,?_⟩
 refine q1 F σ H1 _ m1 fun y vy H2 q2 t2 k2 r2=>?_
 have m2:=m1.kz k2 t2
 obtain⟨j,rfl,hj,hi,q⟩:=q2
 cases r2.str_inv
 refine⟨i,j,rfl,rfl,hj,hi,fun p hp=>?_⟩
 obtain⟨g1,g2,g3⟩:=m2.lay hp (AVs.of_strs (Txt.split i j))
 exact k _ _ _ q g1 ((k1.trans k2).trans g2) (g3.back m (k1.trans k2) t2)
def Its (z:Str):It:=⟨fun i _=>i<z.cps.size,fun i H x H'=>H'=H∧∃c,z.cps[i]?=some c∧x=.str ⟨#[c]⟩,fun i _=>z.cps.size≤i⟩
theorem fe {P:Program}{w:World}{K:PySem.W.Frag}{tg:Expr}(z:Str)(t:Tok)(it:Addr):Turn P w K tg (Its z) [it] it (fun i h=>h.IsStrIter it "str_ascii_iterator" z t i) where
 mem:=by simp
 obj:=fun i h st b hb=>by
  have e:b=it:=by simpa using hb
  subst e
  obtain⟨o,e,c,d⟩:=st
  exact⟨o,e,fun v z=>by rw[d] at z;cases z⟩
 keep:=fun i h h' st k=>by
  obtain⟨o,e,c,d⟩:=st
  exact⟨o,k it (by simp) o e,c,d⟩
 item:=by
  intro X hP hw hK hc i pins s σ H E I hf st hg
  subst hP hw hK
  obtain⟨f0,f1,f2,f3,f4,f5⟩:=hf it (by simp)
  have hx:z.cps[i]?=some z.cps[i]:=Array.getElem?_eq_getElem hg
  refine wpAny_pyNext_ascii_item st hx fun h' st' sb=>?_
  have I1:Inv X pins σ H {s with heap:=h',toks:=s.toks+1}:=I.turned (t':=s.toks+1) (fun b o hb e=>(sb.2 b hb).trans e) f0 f1 f3 f4 f5
  obtain⟨o,e,c,d⟩:=id st'
  exact⟨_,rfl,nP (s:={s with heap:=h',toks:=s.toks+1}) e c d (by decide) ⟨.str ⟨#[z.cps[i]]⟩,H,I1,⟨_,rfl⟩,⟨rfl,_,hx,rfl⟩,st',fun b hb=>(hf b hb).1⟩⟩
 done:=by
  intro X hP hw hK hc i pins s σ H E I hf st hg
  subst hP hw hK
  obtain⟨f0,f1,f2,f3,f4,f5⟩:=hf it (by simp)
  exact wpAny_pyNext_ascii_end (I.ok.hd hc) st (Array.getElem?_eq_none hg) fun h' eb=>⟨rfl,I.turned (t':=s.toks) (fun b o hb e=>eb b o hb e) f0 f1 f3 f4 f5⟩
 self:=fun _ _ _ _ _ st h=>wpAny_pyIter_striter_ascii st h
def zg6 (tl:TE):TI:=fun σ H R=>tl σ H fun x H1=>∃z,x=.str z∧z.cps.all (·<128)=true∧R (Its z) H1
theorem bZ {l:Expr}{tl:TE}(hl:PE X l tl):PI X tg l (zg6 tl):=by
 intro pins s σ H R I h
 refine thn (hl pins s σ H _ I h) fun v s1 ⟨x,H1,I1,r1,q1⟩=>?_
 obtain⟨z,e,ha,q⟩:=q1
 subst e
 obtain⟨t,rfl⟩:=r1
 refine wpAny_pyIter_ascii ha ?_
 refine⟨s1.heap.objs.size,[s1.heap.objs.size],_,_,H1,rfl,I1.kept (t':=s1.toks) fun b o e=>zj3 _ e,fe z t _,⟨_,zm7 _ rfl,rfl,rfl⟩,fun b hb=>?_,q⟩
 have e:b=s1.heap.objs.size:=by simpa using hb
 subst e
 exact I1.fpOk (zj8 _) (I1.hok.fresh (zj8 _))
def sgn (z:Str):List PyData:=z.cps.toList.map fun c=>.str ⟨#[c]⟩
theorem cK {Q:List PyData→Prop}(h:EvD X α e fun x=>∃z,x=.str z∧z.cps.all (·<128)=true∧Q (sgn z)):EvI X α tg e Q:=fun F σ H R m k=>by
 refine⟨_,bZ ze,?_⟩
 refine h F σ H _ m fun x vx H1 q1 t1 k1 r1=>?_
 obtain⟨z,rfl,ha,q⟩:=q1
 cases r1.str_inv
 refine⟨z,rfl,ha,k _ _ H1 q t1 k1 fun i H2 p s=>⟨fun d hd=>?_,fun hl=>?_⟩⟩
 ·rw[sgn,zl9,Array.getElem?_toList] at hd
  obtain⟨c,hc,rfl⟩:=zm9.mp hd
  obtain⟨hi,_⟩:=zp1.mp hc
  refine⟨hi,fun x' H3 y=>?_⟩
  obtain⟨e,c',hc',rfl⟩:=y
  subst e
  rw[hc] at hc';cases hc'
  exact⟨zq.refl _,fun _=>.str _⟩
 ·rw[sgn,zj1,zv3] at hl
  exact hl
end
section
variable {X:Cx}{α:Ev}{a b e:Expr}{rest:List Expr}{p pos apos:Pos}{Q:PyData→Prop}
def ai (c:Bool):PyData→Bool
 |.bool d=>d == c
 |_=>false
def plV :V→Bool
 |.non|.bl _|.int _|.str _|.ref _=>true
 |_=>false
def zc3 (c:Bool):V→Bool
 |.bl d=>d == c
 |_=>false
theorem ag :OpR X (compareOp .Is) (fun x y H Q=>∃c,y=.bl c∧plV x=true∧Q (.bl (zc3 c x)) H):=by
 intro pins s σ H x y v u Q I rx ry h
 obtain⟨c,rfl,hp,q⟩:=h
 cases ry
 cases x with
 |non=>cases rx;exact zt5 rfl (zu I q rfl)
 |bl d=>cases rx;exact zt5 rfl (zu I q (by cases c<;>cases d<;>rfl))
 |int i=>obtain⟨t,rfl⟩:=rx;exact zt5 rfl (zu I q rfl)
 |str i=>obtain⟨t,rfl⟩:=rx;exact zt5 rfl (zu I q rfl)
 |ref l=>cases rx;exact zt5 rfl (zu I q rfl)
 |_=>cases hp
theorem AV.isB {H:Hp}{v:V}{d:PyData}(c:Bool)(h:AV H v d):plV v=true∧zc3 c v=ai c d:=by cases h<;>exact⟨rfl,rfl⟩
theorem bE {T:Bool→Prop}{j:Nat}{c:Bool}(h:EvD X α a fun x=>T (ai c x)):EvT X α (.Compare a [.Is] [.Constant (.bool c) j p] pos) T:=
 xP ag (zC _) (h.imp fun x h=>cb ⟨ai c x,fun p H vx vy R rx ry z=>by
  cases ry.bl_inv
  exact⟨c,rfl,(rx.isB c).1,by rw[(rx.isB c).2];exact z⟩,h⟩)
end
theorem qI {c:Nat}:∀{a a' r r':List Nat},c∉a→c∉a'→a++c::r=a'++c::r'→a=a'∧r=r'
 |[],[],r,r',_,_,h=>⟨rfl,(zu0 h).2⟩
 |[],x::a',r,r',_,h2,h=>absurd ((zu0 h).1▸zk0 ..) h2
 |x::a,[],r,r',h1,_,h=>absurd ((zu0 h).1▸zk0 ..) h1
 |x::a,y::a',r,r',h1,h2,h=>by
  obtain⟨e,h⟩:=zu0 h
  obtain⟨e1,e2⟩:=qI (fun z=>h1 (zj7 _ z)) (fun z=>h2 (zj7 _ z)) h
  exact⟨by rw[e,e1],e2⟩
theorem yX {x y:Str}(h:x.cps.toList=y.cps.toList):x=y:=by
 cases x;cases y;congr 1;exact Array.toList_inj.mp h
theorem join_list (c:Nat)(x y:Str)(r:List Str):(Str.join ⟨#[c]⟩ (x::y::r)).cps.toList=x.cps.toList++c::(Str.join ⟨#[c]⟩ (y::r)).cps.toList:=by
 show (x++(⟨#[c]⟩:Str)++Str.join ⟨#[c]⟩ (y::r)).cps.toList=_
 rw[zp3,zp3,zn6,zn6]
 simp
theorem qV (c:Nat):∀ts ts':List Str,(∀p∈ts,c∉p.cps.toList)→(∀p∈ts',c∉p.cps.toList)→ts≠[]→ts'≠[]→Str.join ⟨#[c]⟩ ts=Str.join ⟨#[c]⟩ ts'→ts=ts'
 |[],_,_,_,h,_,_=>absurd rfl h
 |_,[],_,_,_,h,_=>absurd rfl h
 |[x],[y],_,_,_,_,h=>by rw[show x=y from h]
 |[x],y::z::r,h1,_,_,_,h=>by
  have e:=congrArg (·.cps.toList) h
  rw[join_list] at e
  exact absurd (show c∈x.cps.toList from (show x.cps.toList=_ from e)▸zm6 _ (zk0 ..)) (h1 x (zk0 ..))
 |x::z::r,[y],_,h1,_,_,h=>by
  have e:=congrArg (·.cps.toList) h
  rw[join_list] at e
  exact absurd (show c∈y.cps.toList from (show y.cps.toList=_ from e.symm)▸zm6 _ (zk0 ..)) (h1 y (zk0 ..))
 |x::z::r,x'::z'::r',h1,h2,_,_,h=>by
  have e:=congrArg (·.cps.toList) h
  rw[join_list,join_list] at e
  obtain⟨e1,e2⟩:=qI (h1 x (zk0 ..)) (h2 x' (zk0 ..)) e
  rw[yX e1,qV c (z::r) (z'::r') (fun p hp=>h1 p (zj7 _ hp)) (fun p hp=>h2 p (zj7 _ hp)) (by simp) (by simp) (yX e2)]
theorem oO (c:Nat)(ts:List Str)(hf:∀p∈ts,c∉p.cps.toList)(hn:ts≠[]):Txt.split (Txt.join ⟨#[c]⟩ ts) ⟨#[c]⟩=ts:=by
 have h:=StrLaws.join_split (Txt.join ⟨#[c]⟩ ts) ⟨#[c]⟩
 have e:Txt.join ⟨#[c]⟩ ts=Str.join ⟨#[c]⟩ ts:=zn8 _ _
 refine qV c _ ts (StrLaws.split_free _ c) hf ?_ hn (h.trans e)
 intro z
 have:=split_pos (Txt.join ⟨#[c]⟩ ts) ⟨#[c]⟩
 rw[z] at this
 exact absurd this (by decide)
def fig (n:Nat):Str:=toString (n:Int)
theorem iP (n:Nat):(fig n).cps.toList=(Nat.toDigits 10 n).map Char.toNat:=PySem.W.KIN.signs_num n
theorem eV (n:Nat):PySem.NumText.AllDigits (fig n).cps.toList:=by
 intro c hc
 rw[iP] at hc
 obtain⟨ch,hch,e⟩:=List.mem_map.mp hc
 rw[←e]
 exact digit_range (Nat.isDigit_of_mem_toDigits (by decide) (by decide) hch)
theorem dn {n k:Nat}(hk:1≤k)(h:n<10 ^ k):(fig n).length≤k:=toString_length_le (by omega) hk (by exact_mod_cast h)
section
variable {prog:Program}{w:World}{E:Value→Shared→Prop}{s:Shared}
end
section
variable {X:Cx}{α:Ev}{elts:List Expr}{kk:Nat}{tp p pos:Pos}{a b:Expr}
end
section
variable {X:Cx}{α:Ev}{a b e:Expr}{p pos apos:Pos}{Q:PyData→Prop}
theorem nD (hg:Gl X "len")(hm:X.mg "len"=none)(h:EvD X α e fun x=>∃z,x=.str z∧z.length≤sizeLine∧Q (.int z.length))(he:starEach [e] X.env=(false,eval e X.env)::starEach [] X.env:=by rfl):
  EvD X α (.Call (.Name "len" p) [e] [] pos) Q:=by
 refine wo iu hg hm zt4 (zb (h.imp fun x ⟨z,e1,hz,q⟩=>zi ?_) he) (he:=he)
 intro F σ H vs R m rv k
 obtain⟨v,rfl,av⟩:=rv.one
 subst e1
 cases av.str_inv
 exact⟨_,_,rfl,⟨hz,rfl⟩,k _ _ H q m.tp Kz.refl (.int _)⟩
end
section
variable {prog:Program}{w:World}{A:Around}{E:Value→Shared→Prop}{s:Shared}
end
section
variable {X:Cx}{α:Ev}{e:Expr}{es:List Expr}{kk:Nat}{p pos:Pos}{sts:List Stmt}{E:yi}
end
section
variable {X:Cx}{α:Ev}{a:Expr}{p pos:Pos}{Q:PyData→Prop}
theorem qv {v:Value}{o:Option Int}(h:IsPart v o):∃l:Option (Int×Tok),v=partValue l∧l.map (·.1)=o:=by
 cases h with
 |none=>exact⟨none,rfl,rfl⟩
 |int i t=>exact⟨some (i,t),rfl,rfl⟩
theorem ao :SlR X (fun x lo hi H Q=>∃z,x=.str z∧z.length≤sizeLine∧Q (.str (Txt.slice z lo hi)) H):=by
 intro pins s σ H x v vl vu lo hi sl Q I rx hs pl pu h
 obtain⟨z,rfl,hz,q⟩:=h
 obtain⟨t,rfl⟩:=rx
 obtain⟨l,rfl,rfl⟩:=qv pl
 obtain⟨u,rfl,rfl⟩:=qv pu
 exact⟨"str",_,F.slot_str_getitem.lookup,zu7 _ _ _,wpAny_getItem_str_slice (l:=l) (u:=u) (st:=none) hs rfl (post_val_or_str ⟨zl2 (Txt.slice_le z _ _) hz,fun t' k=>⟨.str _,H,I.tok _,⟨_,rfl⟩,q⟩⟩)⟩
theorem cQ {lo hi:Option Expr}(h:EvD X α a fun x=>EvO X α lo fun l=>EvO X α hi fun u=>∃z,x=.str z∧z.length≤sizeLine∧Q (.str (Txt.slice z l u))):EvD X α (.Subscript a (.Slice lo hi none p) pos) Q:=fun F σ H R m k=>by
 refine⟨_,qq ao ze ue ue,?_⟩
 refine h F σ H _ m fun x vx H1 q1 t1 k1 r1=>?_
 have m1:=m.kz k1 t1
 refine q1 F σ H1 _ m1 fun l H2 q2 t2 k2=>?_
 have m2:=m1.kz k2 t2
 refine q2 F σ H2 _ m2 fun u H3 q3 t3 k3=>?_
 obtain⟨z,rfl,hz,q⟩:=q3
 cases r1.str_inv
 exact⟨z,rfl,hz,k _ _ _ q t3 ((k1.trans k2).trans k3) (.str _)⟩
end
section
variable {X:Cx}{α:Ev}{p pos ap:Pos}{a b c:Expr}{Q:PyData→Prop}
end
section
variable {X:Cx}{α:Ev}{e:Expr}{kk:Nat}{p pos:Pos}{rest:List Stmt}{E:yi}
end
def zf4 (K:PySem.W.Frag)(a:Addr)(xs:List V):Prop:=∃(o:Obj) (its:Array Value) (n:Nat),K.lookup a=some o∧o.cls=.type "list"∧o.dict=none∧o.data=.seq its n∧its.size≤sizeLine∧Vals xs its.toList
def ScH (K:PySem.W.Frag)(H:Hp)(a:Addr)(xs:List V):Prop:=(∃o,H a=some (.frz o (.lst xs)))∨zf4 K a xs
theorem ScH.sq {K:PySem.W.Frag}{H:Hp}{a:Addr}{xs:List V}(h:ScH K H a xs):SqL K H a xs:=h.elim (fun⟨o,e⟩=>.inl (.inr ⟨o,e⟩)) .inr
theorem eP {K:PySem.W.Frag}{H:Hp}{a:Addr}{xs:List V}(hO:dI H)(hS:SqL K H a xs):ScH K H a xs:=by
 rcases hS with (h|h)|h
 ·rcases hO a with z|⟨o,ys,z⟩<;>rw[z] at h<;>cases h
 ·exact .inl h
 ·exact .inr h
def um (K:PySem.W.Frag):Sp:=fun vs H Q _=>∃(a:Addr) (ns:List Int),vs=[.ref a]∧ScH K H a (ns.map V.int)∧ns.length≤63∧TabAt H∧∀H',Q (.bl true) H'
def rj (K:PySem.W.Frag):Sp:=fun vs H Q _=>∃(a:Addr) (ns:List Int) (k:Int),vs=[.ref a,.int k]∧ScH K H a (ns.map V.int)∧0≤k∧ns.length≤63∧TabAt H∧∀z H',zq H H'→Q (.int z) H'
section
variable {X:Cx}{α:Ev}{a:Addr}{xs:List V}{pins:List (Addr×Obj)}{σ:St}{H:Hp}{s:Shared}
theorem Inv.sc (I:Inv X pins σ H s)(h:ScH X.K X.H₀ a xs):ScH X.K H a xs:=h.imp (fun⟨o,e⟩=>⟨o,I.base.frzs _ _ _ e⟩) id
theorem eg (sc:ScH X.K X.H₀ a xs):yU X (.builtin "len") (fun vs H Q=>vs=[.ref a]∧Q (.int xs.length) H):=by
 intro pins s σ H vs us Q I r h
 exact yW pins s σ H vs us Q I r ⟨a,xs,h.1,.inl (Inv.sc I sc).sq,h.2⟩
theorem za4 (sc:ScH X.K X.H₀ a xs):IxR X (fun x y H Q=>∃i v,x=.ref a∧y=.int i∧atI xs i=some v∧Q v H):=by
 intro value slice pins s σ H x y v u Q I rx ry h hs
 obtain⟨i,z,e1,e2,e3,q⟩:=h
 exact yL value slice pins s σ H x y v u Q I rx ry ⟨a,xs,i,z,e1,e2,(Inv.sc I sc).sq,e3,q⟩ hs
end
section
variable {F:Fr}{α:Ev}{σ:St}{H:Hp}
theorem M.note {i:Nat}{b:A}(m:M F α σ H)(hb:∀s x,¬foot s b x)(hx:noX b)(hok:∀s,σ[i]?=some s→yS (Gz F (α.set i (some b)) σ H) F H s b):M F (α.set i (some b)) σ H:=by
 have gs:zq (Gz F α σ H) (Gz F (α.set i (some b)) σ H):=jj hb
 refine⟨by rw[zm2];exact m.len,fun j c s e1 e2=>?_,fun j j' c d s t x e1 e2 q1 q2 f1 f2=>?_,fun j r q e j' c s x e1 e2 f=>?_,m.tp,m.keep,m.oex⟩
 ·rcases zx e1 with ⟨rfl,z⟩|⟨hj,e1'⟩
  ·cases z;exact hok s e2
  ·exact (m.ok j c s e1' e2).stay gs (fun y u f e=>⟨e,(m.ft e1' e2 f).1,(m.ft e1' e2 f).2.1⟩) rfl fun r q _ k=>k
 ·rcases zx e1 with ⟨rfl,z⟩|⟨hj,e1'⟩
  ·cases z;exact (hb _ _ f1).elim
  ·rcases zx e2 with ⟨rfl,z⟩|⟨hj',e2'⟩
   ·cases z;exact (hb _ _ f2).elim
   ·exact m.dj j j' c d s t x e1' e2' q1 q2 f1 f2
 ·rcases zx e with ⟨rfl,z⟩|⟨hj,e'⟩
  ·cases z;exact hx.elim
  ·rcases zx e1 with ⟨rfl,z⟩|⟨hj',e1'⟩
   ·cases z;exact (hb _ _ f).elim
   ·exact m.xd j r q e' j' c s x e1' e2 f
end
section
variable {X:Cx}{α:Ev}{E:yi}{sts rest:List Stmt}{e:Expr}{pos p p':Pos}{Q:PyData→Prop}{a:Addr}{ns:List Int}
theorem qY (i:Nat){n:Str}(hi:α[i]?=some (some (.at a)))(sc:ScH X.K X.H₀ a (ns.map V.int))(hg:Gl X "len")(hm:X.mg "len"=none)(h:Q (.int ns.length))(hN:X.N[i]?=some n:=by rfl)(hv:Vis X.env.scope n:=by first|exact Or.inl rfl|exact Or.inr (Or.inl rfl)|exact Or.inr (Or.inr rfl))
  (hd:(n == ("__debug__":Str))=false:=by decide) (hcd:(n == ("__classdict__":Str))=false:=by decide) (he:starEach [.Name n p'] X.env=(false,eval (.Name n p') X.env)::starEach [] X.env:=by rfl):EvD X α (.Call (.Name "len" p) [.Name n p'] [] pos) Q:=fun F σ H R m k=>by
 refine⟨_,yc (eg sc) hg hm zt4 (zc (yx hN hv hd hcd) zm he) (he:=he),?_⟩
 obtain⟨s,hs⟩:=m.at' hi
 have e1:s=some (.ref a):=m.ok i _ s hi hs
 subst e1
 refine⟨.ref a,hs,rfl,?_⟩
 rw[zj1]
 exact k _ _ H h m.tp Kz.refl (.int _)
theorem mE (i:Nat){n:Str}(hi:α[i]?=some (some (.at a)))(sc:ScH X.K X.H₀ a (ns.map V.int))(hs:vt e)(h:EvD X α e fun y=>∃k:Int,y=.int k∧0≤k∧k<ns.length∧∀z,Q (.int z))(hN:X.N[i]?=some n:=by rfl)(hv:Vis X.env.scope n:=by first|exact Or.inl rfl|exact Or.inr (Or.inl rfl)|exact Or.inr (Or.inr rfl))
  (hd:(n == ("__debug__":Str))=false:=by decide) (hcd:(n == ("__classdict__":Str))=false:=by decide):EvD X α (.Subscript (.Name n p') e pos) Q:=fun F σ H R m k=>by
 refine⟨_,zX (za4 sc) (yx hN hv hd hcd) ze hs,?_⟩
 obtain⟨s,hs⟩:=m.at' hi
 have e1:s=some (.ref a):=m.ok i _ s hi hs
 subst e1
 refine⟨.ref a,hs,?_⟩
 refine h F σ H _ m fun y vy H1 q1 t1 k1 r1=>?_
 obtain⟨kk,rfl,k0,kl,q⟩:=q1
 cases r1.int_inv
 have lt:kk.toNat<ns.length:=by omega
 refine⟨kk,.int ns[kk.toNat],rfl,rfl,?_,k _ _ H1 (q _) t1 k1 (.int _)⟩
 unfold atI ixN
 rw[if_pos k0,zj1,if_pos kl]
 show (ns.map V.int)[kk.toNat]?=_
 rw[zl9,zn0 lt];rfl
theorem aw (i y:Nat){x n:Str}(hN:X.N.Nodup)(hy:α[y]?=some (some .tape))(h:SvS X (α.set i (some .tape)) rest E)(hn:X.N[y]?=some n:=by rfl)(hv:Vis X.env.scope n:=by first|exact Or.inl rfl|exact Or.inr (Or.inl rfl)|exact Or.inr (Or.inr rfl))
  (hdb:(n == ("__debug__":Str))=false:=by decide) (hcd:(n == ("__classdict__":Str))=false:=by decide) (hi:X.N[i]?=some x:=by rfl) (hx:Loc X.env.scope x:=by first|exact Or.inl rfl|exact Or.inr rfl)
  (hs:swapsWith (.Name n p) (some (.Name x p')) pos.line X.env=pure false:=by rfl) (hf:X.fn x=true∨X.env.scope.names.lookup x=some .local:=by first|exact .inl rfl|exact .inr rfl|assumption):SvS X α (.Assign [.Name x p'] (.Name n p) pos::rest) E:=fun F σ H D m r=>by
 refine⟨_,zD (uA hN hi hx (yx hn hv hdb hcd) hs hf) zT,?_⟩
 obtain⟨t,b,c,h1,h2⟩:=m.tvar y hy
 exact⟨.ref t,h2,h F _ H D (m.store m.tp Kz.refl (fun x z=>z.elim) ⟨t,b,c,h1,rfl⟩) r⟩
theorem eh (r0 i:Nat){x y:Int}(hr:α[r0]?=some (some .tape))(hi:α[i]?=some (some (.own [.int x,.int y])))(h0:0≤y)(h1:y<4294967296)
  (h:∀t,SvS X (((yB α).set i (some .tape)).set r0 (some (.at t))) sts {nx:=fun α'=>α'[r0]?=some (some (.at t))∧E.nx ((yB α').set r0 (some .tape)),rt:=E.rt,bk:=fun α'=>α'[r0]?=some (some (.at t))∧E.bk ((yB α').set r0 (some .tape)),ct:=fun α'=>α'[r0]?=some (some (.at t))∧E.ct ((yB α').set r0 (some .tape))}):SvS X α sts E:=fun F σ H D m r=>by
 obtain⟨t,b,c,ht,hst⟩:=m.tvar r0 hr
 obtain⟨l,e5,e4,mr⟩:=m.row hi h0 h1
 have m2:=mr.note (i:=r0) (b:=.at t) (fun s x z=>z) trivial (fun s e=>by rw[hst] at e;exact (zl3 e).symm)
 have back:∀{α':Ev} {σ':St} {H':Hp},M (F.row H l) α' σ' H'→α'[r0]?=some (some (.at t))→M F ((yB α').set r0 (some .tape)) σ' H':=fun {α' σ' H'} m' q=>by
  refine (m.unrow e5 e4 m').note (fun s x z=>z) trivial fun s e=>⟨t,b,c,ht,?_⟩
  exact m'.ok r0 _ s q e
 exact h t _ σ H D m2 ⟨fun α' σ' H' m' q=>r.nx _ _ _ (back m' q.1) q.2,fun a v H' z q=>r.rt a v H' (z.unrow m e5 e4) q,fun α' σ' H' m' q=>r.bk _ _ _ (back m' q.1) q.2,fun α' σ' H' m' q=>r.ct _ _ _ (back m' q.1) q.2⟩
end
section
variable {X:Cx}{e:Expr}{es:List Expr}{x:Str}{p pos:Pos}{f:Addr}{fd:FuncData}{ps:List Str}{sp:Sp}{k:Nat}{CX:CXT}{E:XK}{t:TA}
theorem jD (F:zr X.prog X.w X.K X.mg X.base CX k f fd ps sp)(hr:zG k X.A)(hg:Gl X x)(hm:X.mg x=some (.ref f))(hk:PySem.W.keepIn X.K (.ref f)=true)(hb:Binds X.K fd ps [])(hx:Passes CX X E)
  (ha:PA X (e::es) t) (hdb:(x == ("__debug__":Str))=false:=by decide) (he:starEach (e::es) X.env=(false,eval e X.env)::starEach es X.env:=by rfl) (hpl:(backTo pos (starEach es X.env)).any (·.1)=false:=by rfl):
  PE X (.Call (.Name x p) (e::es) [] pos) (fun σ H Q=>t σ H fun vs H1=>∀pins s,Inv X pins σ H1 s→sp (vs++[]) H1 Q E):=by
 intro pins s σ H Q I h
 refine zo1 (yM I hg hm ?_ hdb)
 refine zo6 (h₀:=X.base) I.ok.mod.kin hk (thn (ha pos pins s σ H _ I h) fun us s1 ⟨vs,H1,I1,r,q⟩=>⟨I1.kIn,?_⟩) he hpl
 exact rq F hr hb .nil hx I1 r (q pins s1 I1)
end
section
variable {X:Cx}{α:Ev}{e:Expr}{pos p p':Pos}{Q:PyData→Prop}{a:Addr}{ns:List Int}{f:Addr}{fd:FuncData}{ps:List Str}{x n:Str}
theorem fH (i:Nat)(G:zr X.prog X.w X.K X.mg X.base CX0 1 f fd ps (rj X.K))(hr:zG 1 X.A)(hg:Gl X x)(hm:X.mg x=some (.ref f))(hk:PySem.W.keepIn X.K (.ref f)=true)(hb:Binds X.K fd ps [])(hi:α[i]?=some (some (.at a)))(sc:ScH X.K X.H₀ a (ns.map V.int))(hl:ns.length≤63)
  (h:EvD X α e fun y=>∃k:Int,y=.int k∧0≤k∧∀z,Q (.int z)) (hN:X.N[i]?=some n:=by rfl) (hv:Vis X.env.scope n:=by first|exact Or.inl rfl|exact Or.inr (Or.inl rfl)|exact Or.inr (Or.inr rfl))
  (hd:(n == ("__debug__":Str))=false:=by decide) (hcd:(n == ("__classdict__":Str))=false:=by decide) (hdb:(x == ("__debug__":Str))=false:=by decide) (he:starEach [.Name n p',e] X.env=(false,eval (.Name n p') X.env)::starEach [e] X.env:=by rfl) (he2:starEach [e] X.env=(false,eval e X.env)::starEach [] X.env:=by rfl) (hpl:(backTo pos (starEach [e] X.env)).any (·.1)=false:=by rfl):
  EvD X α (.Call (.Name x p) [.Name n p',e] [] pos) Q:=fun F σ H R m k=>by
 refine⟨_,jD G hr hg hm hk hb zQ (zc (yx hN hv hd hcd) (zc ze zm he2) he) hdb he hpl,?_⟩
 obtain⟨s,hs⟩:=m.at' hi
 have e1:s=some (.ref a):=m.ok i _ s hi hs
 subst e1
 refine⟨.ref a,hs,?_⟩
 refine h F σ H _ m fun y vy H1 q1 t1 k1 r1=>?_
 obtain⟨kk,rfl,k0,q⟩:=q1
 cases r1.int_inv
 intro pins s I
 exact⟨a,ns,kk,rfl,Inv.sc I sc,k0,hl,t1.tab,fun z H' sm=>k _ _ H' (q z) (t1.same sm) (k1.trans (Kz.of_same sm)) (.int _)⟩
end
section
variable {P:Program}{w:World}{K:PySem.W.Frag}{mg:Str→Option Value}{base:Heap}
theorem zi1 {st:Stmt}{f:Addr}{fd:FuncData}{N':List Str}{k:Nat}(G:Fun K "law" "law" st f fd)(S:zf ("_law_script"::N') ["_law_script"] (za st))
  (hbody:∀(cdv:Value) (A':Around) (outer:List Env) (s:Shared) (H:Hp) (E:XK) (a:Addr) (ns:List Int),zG k (A'.deeper (envOfC "law" (za st) s.heap.objs.size f cdv))→ns.length≤63→ScH K H a (ns.map V.int)→
   SvS (yQ CX0 P w K mg base ("_law_script"::N') "law" (za st) f cdv A' outer s H E).nox (some (.at a)::List.replicate N'.length none) (zv st) {nx:=fun _=>False,rt:=fun a=>a=.dat (.bool true)}):
  zr P w K mg base CX0 (k+1) f fd ["_law_script"] (um K):=by
 refine G.ok S (fun vs H Q E h=>?_) (fun cdv A' outer s H vs Qc E hr h=>?_)
 ·obtain⟨a,ns,rfl,_⟩:=h
  rfl
 ·obtain⟨a,ns,rfl,hS,hn,tb,kq⟩:=h
  have mz:M (fr0 H) (List.replicate (N'.length+1) none) (L2.start ("_law_script"::N') [.ref a]) H:=M.zero tb (by unfold L2.start;simp)
  have m1:=mz.note (i:=0) (b:=.at a) (fun s x z=>z) trivial (fun s e=>(zl3 e).symm)
  refine hbody cdv A' outer s H E a ns hr hn hS (fr0 H) _ H _ m1 ⟨fun _ _ _ _ z=>z.elim,fun z v H' r e=>?_,fun _ _ _ _ z=>z.elim,fun _ _ _ _ z=>z.elim⟩
  cases e
  obtain⟨_,_,r⟩:=r
  rw[AV.bl_inv r]
  exact kq H'
theorem za7 {st:Stmt}{f:Addr}{fd:FuncData}{x:Str}(G:Fun K x x st f fd)(S:zf ["_law_script","_law_k"] ["_law_script","_law_k"] (za st))
  (hbody:∀(cdv:Value) (A':Around) (outer:List Env) (s:Shared) (H:Hp) (E:XK) (a:Addr) (ns:List Int) (i:Int),zG 0 (A'.deeper (envOfC x (za st) s.heap.objs.size f cdv))→ns.length≤63→ScH K H a (ns.map V.int)→0≤i→
   SvS (yQ CX0 P w K mg base ["_law_script","_law_k"] x (za st) f cdv A' outer s H E).nox [some (.at a),some (.dat (.int i))] (zv st) {nx:=fun _=>False,rt:=fun b=>∃z,b=.dat (.int z)}):
  zr P w K mg base CX0 1 f fd ["_law_script","_law_k"] (rj K):=by
 refine G.ok S (fun vs H Q E h=>?_) (fun cdv A' outer s H vs Qc E hr h=>?_)
 ·obtain⟨a,ns,k,rfl,_⟩:=h
  rfl
 ·obtain⟨a,ns,i,rfl,hS,i0,hn,tb,kq⟩:=h
  have mz:M (fr0 H) (List.replicate 2 none) (L2.start ["_law_script","_law_k"] [.ref a,.int i]) H:=M.zero tb (by unfold L2.start;simp)
  have m1:=(mz.note (i:=0) (b:=.at a) (fun s x z=>z) trivial (fun s e=>(zl3 e).symm)).note (i:=1) (b:=.dat (.int i)) (fun s x z=>z) trivial (fun s e=>⟨.int i,(zl3 e).symm,.int _⟩)
  refine hbody cdv A' outer s H E a ns i hr hn hS i0 (fr0 H) _ H _ m1 ⟨fun _ _ _ _ z=>z.elim,fun z v H' r e=>?_,fun _ _ _ _ z=>z.elim,fun _ _ _ _ z=>z.elim⟩
  obtain⟨z,rfl⟩:=e
  obtain⟨_,kz,r⟩:=r
  cases AV.int_inv r
  exact kq z H' fun x o e=>kz x o e ⟨(fun t b c w=>by cases w),fun z=>z⟩
end
end L2
set_option maxHeartbeats 4000000
namespace K24
open PySem PySem.Spec PyProof.Rows L2
def top (i:Nat):Stmt:=PySem.Challenge.pw_stayprice_k24_texts_refused.main.body.getD i (.Pass ⟨0,0,0,0⟩)
abbrev iw :Stmt:=top 47
abbrev oJ :Stmt:=top 46
def nJ :List A→(A→Prop)→Prop:=fun as Q=>∃c:Int,as=[.dat (.int c)]∧∀x y:Int,0≤y→y<4294967296→Q (.own [.int x,.int y])
section
variable {P:Program}{w:World}{K:PySem.W.Frag}{mg:Str→Option Value}{base:Heap}
theorem pZ :zf ["_law_row","_law_base","_law_found","_law_number"] ["_law_row","_law_base"] (za iw):=⟨rfl,rfl,rfl,by decide +kernel,rfl,by decide +kernel,by decide +kernel⟩
theorem eO {f:Addr}{fd:FuncData}(F:Fun K "_law_take" "_law_take" iw f fd):zr P w K mg base CX0 1 f fd ["_law_row","_law_base"] iV:=by
 refine F.ok pZ (fun vs H Q E h=>?_) (fun cdv A outer s H vs Q E hr h=>?_)
 ·obtain⟨t,b,c,many,rfl,_⟩:=h
  rfl
 ·obtain⟨t,b,c,many,rfl,⟨n,bs,cs,⟨eb,ec⟩,ht,hb,hc,⟨x,y,rfl,y0,y1⟩,hn⟩,hm0,hm1,k⟩:=h
  rw[eb,ec] at k
  have hlog:many.natAbs.log2<9000:=log2_small hm0 hm1
  have ht:H t=some (.lst [.int x,.int y]):=ht
  refine yb (fun σ H3=>σ=[some (.ref t),some (.int many),none,none]∧H=H3)
   ⟨_,xI (yh cy (zX yL (pv 0) zt (fun _ _=>rfl)) zt (zC _))
    (zD (uA (i:=2) pZ.nd rfl (Or.inl rfl) (yV uR (zX yL (pv 0) zt (fun _ _=>rfl)) (pv 1)))
    (zD (gZ (yV ux (zX yL (pv 0) zt (fun _ _=>rfl)) (pv 1)) (fh (pv 0) zt set_list))
    (zp (zw (pv 2))))) yn,?_⟩ ?_
  ·refine⟨_,rfl,t,_,0,_,rfl,rfl,SqL.of ht,rfl,_,_,rfl,rfl,_,rfl,?_⟩
   refine yt (fun _=>?_) (fun _=>⟨rfl,rfl⟩)
   refine⟨_,rfl,t,_,0,_,rfl,rfl,SqL.of ht,rfl,_,rfl,_,_,rfl,rfl,hm0,?_⟩
   refine⟨_,rfl,t,_,0,_,rfl,rfl,SqL.of ht,rfl,_,rfl,_,_,rfl,rfl,⟨hm0,hlog⟩,?_⟩
   refine⟨_,rfl,t,_,0,0,rfl,rfl,ht,rfl,_,rfl,?_⟩
   refine k _ _ (zu9 _ (Int.ne_of_gt hm0)) (zt3 _ hm0) ⟨0,[x / many,y],[x / many,y],⟨rfl,rfl⟩,zj,zj,zj,⟨_,_,rfl,y0,y1⟩,rfl⟩ fun a h1 h2=>by rw[zg h1]
  rintro σ H3 ⟨rfl,rfl⟩
  refine yb (fun σ H1=>∃z:Int,0≤z∧z<2147483647∧σ=[some (.ref t),some (.int many),none,none]∧H1=upd H t (.lst [.int x,.int z]))
   ⟨_,gZ (yV uR (yV sL (yV rm (zX yL (pv 0) zt (fun _ _=>rfl)) zt) zt) zt) (fh (pv 0) zt set_list),?_⟩ ?_
  ·refine⟨_,rfl,t,_,1,_,rfl,rfl,SqL.of ht,rfl,_,_,rfl,rfl,.inl ⟨by omega,by omega⟩,_,_,rfl,rfl,_,_,rfl,rfl,(by show (0:Int)<2147483647;decide),?_⟩
   exact⟨_,rfl,t,_,1,1,rfl,rfl,ht,rfl,_,zu9 _ (by decide),zt3 _ (by decide),rfl,rfl⟩
  rintro σ H1 ⟨z,z0,z1,rfl,hH1⟩
  have ht1:H1 t=some (.lst [.int x,.int z]):=by rw[hH1];exact zj
  have off:bz t t H H1:=fun a h1 _=>by rw[hH1,zg h1]
  clear hH1
  refine yb (fun σ H2=>∃u:Int,σ=[some (.ref t),some (.int many),none,some (.int u)]∧H1=H2)
   ⟨_,uA (i:=3) pZ.nd rfl (Or.inl rfl) (yV uR (yV sL (yV sL (yV rm (zX yL (pv 0) zt (fun _ _=>rfl)) (zX yL (pv 0) zt (fun _ _=>rfl))) (yV rm zt (zX yL (pv 0) zt (fun _ _=>rfl)))) zt) zt),?_⟩ ?_
  ·exact⟨_,rfl,t,_,1,_,rfl,rfl,SqL.of ht1,rfl,_,rfl,t,_,1,_,rfl,rfl,SqL.of ht1,rfl,_,_,rfl,rfl,.inl ⟨by omega,by omega⟩,_,rfl,t,_,1,_,rfl,rfl,SqL.of ht1,rfl,_,_,rfl,rfl,.inl ⟨by decide,by decide⟩,_,_,rfl,rfl,_,_,rfl,rfl,_,_,rfl,rfl,(by show (0:Int)<2147483629;decide),_,rfl,rfl⟩
  rintro σ H2 ⟨u,rfl,rfl⟩
  refine⟨_,zp (zw (yV uR (yV ux (pv 3) zt) (pv 1))),?_⟩
  refine⟨_,rfl,_,_,rfl,rfl,⟨by decide,by decide +kernel⟩,_,rfl,_,_,rfl,rfl,hm0,?_⟩
  exact k _ _ (zu9 _ (Int.ne_of_gt hm0)) (zt3 _ hm0) ⟨0,[x,z],[x,z],⟨rfl,rfl⟩,ht1,ht1,ht1,⟨_,_,rfl,z0,by omega⟩,rfl⟩ off
theorem gx {f:Addr}{fd:FuncData}(hm:mg "_law_take"=some (.ref f))(hk:PySem.W.keepIn K (.ref f)=true)(hb:Binds K fd ["_law_row","_law_base"] [])(G:zr P w K mg base CX0 1 f fd ["_law_row","_law_base"] iV):Cal P w K mg base "_law_take" 1 wG:=by
 refine⟨f,fd,_,hm,hk,hb,G.imp fun vs H Q E h=>?_⟩
 obtain⟨F,as,Q',rfl,t,o,rv,⟨n,rfl,h0,h1,hq⟩,kk⟩:=h
 cases rv with
 |cons a1 r=>
  obtain⟨ta,b,c,e,rfl⟩:=a1
  obtain⟨v,rfl,av⟩:=r.one
  cases av.int_inv
  refine⟨ta,b,c,n,rfl,(t ta b c e).1,h0,h1,fun z H' z0 z1 TA off=>kk _ _ _ (hq z z0 z1) ⟨⟨(by
   obtain⟨_,_,_,_,e1,e2,_⟩:=(t ta b c e).1.ex
   exact dM t.tab e1 e2 off),t.ot,fun t' b' c' e'=>?_⟩,fun y u hy n=>?_,.int z⟩⟩
  ·rw[e] at e';cases e'
   exact⟨TA,(t ta b c e).2⟩
  ·rw[off y (n.1 _ _ _ e).1 (n.1 _ _ _ e).2];exact hy
theorem dJ :zf ["_law_cell"] ["_law_cell"] (za oJ):=⟨rfl,rfl,rfl,by decide +kernel,rfl,by decide +kernel,by decide +kernel⟩
theorem kf {f:Addr}{fd:FuncData}(F:Fun K "_law_begin" "_law_begin" oJ f fd)(hm:mg "_law_begin"=some (.ref f))(hb:Binds K fd ["_law_cell"] []):Cal P w K mg base "_law_begin" 1 nJ:=by
 refine vf F hm hb dJ (fun as Q h=>?_) (fun cdv A' outer s H E as Q hr h=>?_)
 ·obtain⟨c,rfl,_⟩:=h
  rfl
 ·obtain⟨c,rfl,q⟩:=h
  refine yT (cE (zd 0 rfl (yI (r:=1000000000000000000) ⟨by decide,by decide,by decide⟩ (by decide) ⟨_,_,rfl,rfl,?_⟩)))
  refine rT (fun _=>?_) (fun _=>zB ?_)
  ·exact rG (zU (zb (rp (zd 0 rfl (yI (r:=1000000000000000000) ⟨by decide,by decide,by decide⟩ (by decide) ⟨_,_,rfl,rfl,zb (zo (zi ⟨_,rfl,zj4 rfl,q _ _ (by decide) (by decide)⟩))⟩)))))
  ·refine rG (zU (zb (zo (zb (xl (ff (zd 0 rfl (zo ⟨_,_,rfl,rfl,by decide,zo ⟨_,_,rfl,rfl,zi ⟨_,rfl,zj4 rfl,?_⟩⟩⟩))))))))
   have h1:=zu9 c (show (2147483629:Int)≠0 by decide)
   have h2:=zt3 c (show (0:Int)<2147483629 by decide)
   exact q _ _ (by omega) (by omega)
end
abbrev sX :Stmt:=top 4
abbrev rY :Stmt:=top 5
abbrev jI :Stmt:=top 6
abbrev cM :Stmt:=top 7
abbrev jq :Stmt:=top 8
abbrev uu :Stmt:=top 9
structure pk (mg:Str→Option Value)(fW fI fP fD fPD:Addr):Prop where
 isi:mg "isinstance"=none
 int:mg "int"=none
 bool:mg "bool"=none
 tuple:mg "tuple"=none
 len:mg "len"=none
 last:∃t,mg "LAST_DAY"=some (.int 1000000 t)
 most:∃t,mg "MOST_NIGHTS"=some (.int 14 t)
 whole:mg "is_whole"=some (.ref fW)
 within:mg "is_whole_within"=some (.ref fI)
 pair:mg "is_pair"=some (.ref fP)
 day:mg "is_day"=some (.ref fD)
 days:mg "is_pair_of_days"=some (.ref fPD)
section
variable {P:Program}{w:World}{K:PySem.W.Frag}{mg:Str→Option Value}{base:Heap}{fW fI fP fD fPD:Addr}
theorem eA :zf ["thing"] ["thing"] (za sX):=⟨rfl,rfl,rfl,by decide +kernel,rfl,by decide +kernel,by decide +kernel⟩
theorem gh {f:Addr}{fd:FuncData}(F:Fun K "is_whole" "is_whole" sX f fd)(T:pk mg fW fI fP fD fPD):zr P w K mg base CX0 1 f fd ["thing"] (yz oa):=by
 refine F.ok eA (fun vs H Q E h=>?_) (fun cdv A outer s H vs Q E hr h=>?_)
 ·obtain⟨x,d,rfl,_⟩:=h
  rfl
 ·obtain⟨x,d,rfl,hd,q⟩:=h
  refine⟨_,zp (zw (yG (yc yY (by rfl) T.isi zp7 (zc (pv 0) (zc (xV (v:=.ty "int") (by rfl) T.int boot_int rfl) zm)))
   (xj (jH (yc yY (by rfl) T.isi zp7 (zc (pv 0) (zc (xV (v:=.ty "bool") (by rfl) T.bool boot_bool rfl) zm))))))),?_⟩
  rw[ki] at q
  refine⟨_,rfl,x,"int",d,_,rfl,hd,fB d,_,rfl,?_⟩
  refine yt (fun h=>?_) (fun h=>?_)
  ·rw[h,zo8] at q
   exact⟨_,rfl,x,"bool",d,_,rfl,hd,uG d,_,rfl,q⟩
  ·rw[zm5.mpr h,zq1] at q
   exact q
theorem iQ :zf ["thing","lowest","highest"] ["thing","lowest","highest"] (za rY):=⟨rfl,rfl,rfl,by decide +kernel,rfl,by decide +kernel,by decide +kernel⟩
theorem lj {f:Addr}{fd fdW:FuncData}(F:Fun K "is_whole_within" "is_whole_within" rY f fd)(T:pk mg fW fI fP fD fPD)(FW:Fun K "is_whole" "is_whole" sX fW fdW)(bW:Binds K fdW ["thing"] []):
  zr P w K mg base CX0 2 f fd ["thing","lowest","highest"] wu:=by
 have GW:zr P w K mg base CX0 1 fW fdW ["thing"] (yz oa):=gh FW T
 refine F.ok iQ (fun vs H Q E h=>?_) (fun cdv A outer s H vs Q E hr h=>?_)
 ·obtain⟨x,d,lo,hi,rfl,_⟩:=h
  rfl
 ·obtain⟨x,d,lo,hi,rfl,hd,q⟩:=h
  refine⟨_,zp (zw (yG (zM GW hr (by rfl) T.whole FW.kp bW .nil zQ (zc (pv 0) zm)) (xj (iC fc fc (pv 1) (pv 0) (pv 2))))),?_⟩
  refine⟨_,rfl,x,d,rfl,hd,_,rfl,?_⟩
  cases hd with
  |int i=>
   have q':Q (.bl (decide (lo≤i)&&decide (i≤hi))) H:=q
   refine vL ⟨_,rfl,_,rfl,_,_,rfl,rfl,_,rfl,?_⟩
   refine yt (fun h=>?_) (fun h=>?_)
   ·rw[h,zo8] at q'
    exact⟨_,rfl,_,_,rfl,rfl,q'⟩
   ·rw[zm5.mpr h,zq1] at q'
    exact q'
  |_=>exact vC q
theorem aj :zf ["thing"] ["thing"] (za jI):=⟨rfl,rfl,rfl,by decide +kernel,rfl,by decide +kernel,by decide +kernel⟩
theorem dr {f:Addr}{fd:FuncData}(F:Fun K "is_pair" "is_pair" jI f fd)(T:pk mg fW fI fP fD fPD):zr P w K mg base CX0 1 f fd ["thing"] (yz pairD):=by
 refine F.ok aj (fun vs H Q E h=>?_) (fun cdv A outer s H vs Q E hr h=>?_)
 ·obtain⟨x,d,rfl,_⟩:=h
  rfl
 ·obtain⟨x,d,rfl,hd,q⟩:=h
  refine⟨_,zp (zw (yG (yc yY (by rfl) T.isi zp7 (zc (pv 0) (zc (xV (v:=.ty "tuple") (by rfl) T.tuple boot_tuple rfl) zm)))
   (xj (xy we (yc yW (by rfl) T.len zt4 (zc (pv 0) zm)) zt (zC _))))),?_⟩
  refine⟨_,rfl,x,"tuple",d,_,rfl,hd,sE d,_,rfl,?_⟩
  cases hd with
  |@tup a xs ds e hs=>
   refine vL ⟨_,rfl,a,_,rfl,.inr (SqT.of e),rfl,?_⟩
   rw[eQ,hs.length]
   exact q
  |_=>exact vC q
theorem aX :zf ["thing"] ["thing"] (za cM):=⟨rfl,rfl,rfl,by decide +kernel,rfl,by decide +kernel,by decide +kernel⟩
theorem aB {f:Addr}{fd fdI:FuncData}(F:Fun K "is_day" "is_day" cM f fd)(T:pk mg fW fI fP fD fPD)(GI:zr P w K mg base CX0 2 fI fdI ["thing","lowest","highest"] wu)(kI:PySem.W.keepIn K (.ref fI)=true)(bI:Binds K fdI ["thing","lowest","highest"] []):
  zr P w K mg base CX0 3 f fd ["thing"] (yz vv):=by
 obtain⟨tl,hl⟩:=T.last
 refine F.ok aX (fun vs H Q E h=>?_) (fun cdv A outer s H vs Q E hr h=>?_)
 ·obtain⟨x,d,rfl,_⟩:=h
  rfl
 ·obtain⟨x,d,rfl,hd,q⟩:=h
  refine⟨_,zp (zw (zM GI hr (by rfl) T.within kI bI .nil zQ (zc (pv 0) (zc zt (zc (xW (v:=.int 1000000) (by rfl) hl ⟨tl,rfl⟩) zm))))),?_⟩
  exact⟨_,rfl,x,d,_,_,rfl,hd,q⟩
theorem bF :zf ["thing"] ["thing"] (za jq):=⟨rfl,rfl,rfl,by decide +kernel,rfl,by decide +kernel,by decide +kernel⟩
theorem eu {f:Addr}{fd fdP fdD:FuncData}(F:Fun K "is_pair_of_days" "is_pair_of_days" jq f fd)(T:pk mg fW fI fP fD fPD)(GP:zr P w K mg base CX0 1 fP fdP ["thing"] (yz pairD))(kP:PySem.W.keepIn K (.ref fP)=true)(bP:Binds K fdP ["thing"] [])
  (GD:zr P w K mg base CX0 3 fD fdD ["thing"] (yz vv)) (kD:PySem.W.keepIn K (.ref fD)=true) (bD:Binds K fdD ["thing"] []):zr P w K mg base CX0 4 f fd ["thing"] (yz uo):=by
 refine F.ok bF (fun vs H Q E h=>?_) (fun cdv A outer s H vs Q E hr h=>?_)
 ·obtain⟨x,d,rfl,_⟩:=h
  rfl
 ·obtain⟨x,d,rfl,hd,q⟩:=h
  have hr1:zG 1 _:=hr.mono (by decide)
  refine⟨_,zp (zw (yG (zM GP hr1 (by rfl) T.pair kP bP .nil zQ (zc (pv 0) zm))
   (yG (zM GD hr (by rfl) T.day kD bD .nil zQ (zc (zX yo (pv 0) zt (fun _ _=>rfl)) zm))
   (xj (zM GD hr (by rfl) T.day kD bD .nil zQ (zc (zX yo (pv 0) zt (fun _ _=>rfl)) zm)))))),?_⟩
  refine⟨_,rfl,x,d,rfl,hd,_,rfl,?_⟩
  refine yt (fun h=>?_) (fun h=>?_)
  ·obtain⟨a,b,rfl⟩:=vS h
   cases hd with
   |tup e hs=>
    cases hs with
    |cons ha hs=>
     cases hs with
     |cons hb hs=>
      cases hs
      have q':Q (.bl (vv a&&vv b)) H:=q
      refine⟨_,rfl,_,_,0,_,rfl,rfl,SqT.of e,rfl,_,_,rfl,ha,_,rfl,?_⟩
      refine yt (fun h=>?_) (fun h=>?_)
      ·rw[h,zo8] at q'
       exact⟨_,rfl,_,_,1,_,rfl,rfl,SqT.of e,rfl,_,_,rfl,hb,q'⟩
      ·rw[zm5.mpr h,zq1] at q'
       exact q'
  ·have e:uo d=false:=by
    unfold uo
    split
    ·exact absurd rfl h
    ·rfl
   rw[e] at q
   exact q
theorem kG :zf ["thing"] ["thing"] (za uu):=⟨rfl,rfl,rfl,by decide +kernel,rfl,by decide +kernel,by decide +kernel⟩
theorem pW {f:Addr}{fd fdP:FuncData}(F:Fun K "is_stretch" "is_stretch" uu f fd)(T:pk mg fW fI fP fD fPD)(G:zr P w K mg base CX0 4 fPD fdP ["thing"] (yz uo))(kP:PySem.W.keepIn K (.ref fPD)=true)(bP:Binds K fdP ["thing"] []):
  zr P w K mg base CX0 5 f fd ["thing"] (yz zW):=by
 refine F.ok kG (fun vs H Q E h=>?_) (fun cdv A outer s H vs Q E hr h=>?_)
 ·obtain⟨x,d,rfl,_⟩:=h
  rfl
 ·obtain⟨x,d,rfl,hd,q⟩:=h
  refine⟨_,zp (zw (yG (zM G hr (by rfl) T.days kP bP .nil zQ (zc (pv 0) zm))
   (xj (xy fc (zX yo (pv 0) zt (fun _ _=>rfl)) (zX yo (pv 0) zt (fun _ _=>rfl)) (zC _))))),?_⟩
  refine⟨_,rfl,x,d,rfl,hd,_,rfl,?_⟩
  refine yt (fun h=>?_) (fun h=>?_)
  ·obtain⟨a,b,rfl,ef⟩:=oF h
   unfold zW at q
   rw[ef] at q
   have q':Q (.bl (decide (0≤b-a))) H:=q
   have eq1:decide (0≤b-a)=decide (a≤b):=by
    rw[decide_eq_decide]
    omega
   rw[eq1] at q'
   cases hd with
   |tup e hs=>
    cases hs with
    |cons ha hs=>
     cases ha
     cases hs with
     |cons hb hs=>
      cases hb
      cases hs
      exact⟨_,rfl,_,_,0,_,rfl,rfl,SqT.of e,rfl,_,rfl,_,_,1,_,rfl,rfl,SqT.of e,rfl,_,_,rfl,rfl,q'⟩
  ·rw[uU] at h
   unfold zW at q
   cases ef:tL d with
   |some k=>rw[ef] at h;exact absurd rfl h
   |none=>
    rw[ef] at q
    exact q
end
abbrev nH :Stmt:=inClass (top 17) 0
abbrev jv :Stmt:=inClass (top 17) 2
abbrev sJ :Stmt:=inClass (top 18) 0
abbrev ny :Stmt:=inClass (top 19) 0
abbrev cW :Stmt:=inClass (top 20) 0
abbrev rF :Stmt:=inClass (top 21) 0
abbrev oV :Stmt:=inClass (top 22) 0
abbrev pP :Stmt:=inClass (top 23) 0
abbrev kO :Stmt:=inClass (top 24) 0
abbrev oH :Stmt:=top 25
abbrev sM :Stmt:=top 26
abbrev oS :Stmt:=top 27
abbrev rN :Stmt:=top 28
abbrev jw :Stmt:=top 29
abbrev sP :Stmt:=top 30
structure nh (mg:Str→Option Value)(fW fI fP fD fPD fS fC fDl fWo fR fM:Addr)(cs:Cs):Prop where
 d:pk mg fW fI fP fD fPD
 coinsMost:∃t,mg "MOST_COINS"=some (.int 1000000000000 t)
 stretch:mg "is_stretch"=some (.ref fS)
 coins:mg "is_coins"=some (.ref fC)
 deal:mg "is_deal"=some (.ref fDl)
 worth:mg "is_worth"=some (.ref fWo)
 rule:mg "is_rule"=some (.ref fR)
 made:mg "made"=some (.ref fM)
 cPrice:mg "Price"=some (.ref cs.price)
 cCome:mg "Come"=some (.ref cs.come)
 cGo:mg "Go"=some (.ref cs.go)
 cLeast:mg "Least"=some (.ref cs.least)
 cMost:mg "Most"=some (.ref cs.most)
 cDeal:mg "Deal"=some (.ref cs.deal)
 cFee:mg "Fee"=some (.ref cs.fee)
section
variable {P:Program}{w:World}{K:PySem.W.Frag}{mg:Str→Option Value}{base:Heap}{fW fI fP fD fPD fS fC fDl fWo fR fM:Addr}{cs:Cs}
theorem cL :zf ["self","first","last","worth"] ["self","first","last","worth"] (za nH):=⟨rfl,rfl,rfl,by decide +kernel,rfl,by decide +kernel,by decide +kernel⟩
theorem xK {f C fT fE fWd:Addr}{fd:FuncData}(F:Fun K "__init__" "Rule.__init__" nH f fd)(R:wj K C f fT fE fWd):zr P w K mg base CX0 1 f fd ["self","first","last","worth"] (ar C):=by
 refine F.ok cL (fun vs H Q E h=>?_) (fun cdv A outer s H vs Q E hr h=>?_)
 ·obtain⟨p,dx,x,y,z,rfl,_⟩:=h
  rfl
 ·obtain⟨p,dx,x,y,z,rfl,hp,q⟩:=h
  refine⟨_,zD (uZ (pv 0) (pv 1) rfl) (zD (uZ (pv 0) (pv 2) rfl) (zp (uZ (pv 0) (pv 3) rfl))),?_⟩
  refine⟨_,rfl,_,rfl,p,C,dx,[],rfl,hp,R.cl,R.nf,(by show 0<1000;decide),?_⟩
  refine⟨_,rfl,_,rfl,p,C,dx,_,rfl,zj,R.cl,R.nl,(by show 1<1000;decide),?_⟩
  refine⟨_,rfl,_,rfl,p,C,dx,xp "last" y (xp "first" x []),rfl,zj,R.cl,R.nw,?_,?_⟩
  ·show (if ("first":Str)="last" then _ else _:List (Str×V)).length<1000
   rw[if_neg (fun e=>gb e.symm)]
   show 2<1000
   decide
  ·rw[vq,vq]
   exact q
theorem jF :zf ["self"] ["self"] (za sJ):=⟨rfl,rfl,rfl,by decide +kernel,rfl,by decide +kernel,by decide +kernel⟩
theorem dO :zf ["self"] ["self"] (za ny):=⟨rfl,rfl,rfl,by decide +kernel,rfl,by decide +kernel,by decide +kernel⟩
theorem zf0 :zf ["self"] ["self"] (za cW):=⟨rfl,rfl,rfl,by decide +kernel,rfl,by decide +kernel,by decide +kernel⟩
theorem hU :zf ["self"] ["self"] (za rF):=⟨rfl,rfl,rfl,by decide +kernel,rfl,by decide +kernel,by decide +kernel⟩
theorem dS :zf ["self"] ["self"] (za oV):=⟨rfl,rfl,rfl,by decide +kernel,rfl,by decide +kernel,by decide +kernel⟩
theorem dE :zf ["self"] ["self"] (za pP):=⟨rfl,rfl,rfl,by decide +kernel,rfl,by decide +kernel,by decide +kernel⟩
theorem aG :zf ["self"] ["self"] (za kO):=⟨rfl,rfl,rfl,by decide +kernel,rfl,by decide +kernel,by decide +kernel⟩
theorem mU {f:Addr}{fd:FuncData}(F:Fun K "word" "Price.word" sJ f fd):zr P w K mg base CX0 1 f fd ["self"] (wJ "price"):=by
 refine F.ok jF (fun vs H Q E h=>?_) (fun cdv A outer s H vs Q E hr h=>?_)
 ·obtain⟨p,rfl,_⟩:=h;rfl
 ·obtain⟨p,rfl,q⟩:=h;exact⟨_,zp (zw zN),q⟩
theorem jR {f:Addr}{fd:FuncData}(F:Fun K "word" "Come.word" ny f fd):zr P w K mg base CX0 1 f fd ["self"] (wJ "come"):=by
 refine F.ok dO (fun vs H Q E h=>?_) (fun cdv A outer s H vs Q E hr h=>?_)
 ·obtain⟨p,rfl,_⟩:=h;rfl
 ·obtain⟨p,rfl,q⟩:=h;exact⟨_,zp (zw zN),q⟩
theorem aC {f:Addr}{fd:FuncData}(F:Fun K "word" "Go.word" cW f fd):zr P w K mg base CX0 1 f fd ["self"] (wJ "go"):=by
 refine F.ok zf0 (fun vs H Q E h=>?_) (fun cdv A outer s H vs Q E hr h=>?_)
 ·obtain⟨p,rfl,_⟩:=h;rfl
 ·obtain⟨p,rfl,q⟩:=h;exact⟨_,zp (zw zN),q⟩
theorem lK {f:Addr}{fd:FuncData}(F:Fun K "word" "Least.word" rF f fd):zr P w K mg base CX0 1 f fd ["self"] (wJ "least"):=by
 refine F.ok hU (fun vs H Q E h=>?_) (fun cdv A outer s H vs Q E hr h=>?_)
 ·obtain⟨p,rfl,_⟩:=h;rfl
 ·obtain⟨p,rfl,q⟩:=h;exact⟨_,zp (zw zN),q⟩
theorem jo {f:Addr}{fd:FuncData}(F:Fun K "word" "Most.word" oV f fd):zr P w K mg base CX0 1 f fd ["self"] (wJ "most"):=by
 refine F.ok dS (fun vs H Q E h=>?_) (fun cdv A outer s H vs Q E hr h=>?_)
 ·obtain⟨p,rfl,_⟩:=h;rfl
 ·obtain⟨p,rfl,q⟩:=h;exact⟨_,zp (zw zN),q⟩
theorem gK {f:Addr}{fd:FuncData}(F:Fun K "word" "Deal.word" pP f fd):zr P w K mg base CX0 1 f fd ["self"] (wJ "deal"):=by
 refine F.ok dE (fun vs H Q E h=>?_) (fun cdv A outer s H vs Q E hr h=>?_)
 ·obtain⟨p,rfl,_⟩:=h;rfl
 ·obtain⟨p,rfl,q⟩:=h;exact⟨_,zp (zw zN),q⟩
theorem eM {f:Addr}{fd:FuncData}(F:Fun K "word" "Fee.word" kO f fd):zr P w K mg base CX0 1 f fd ["self"] (wJ "fee"):=by
 refine F.ok aG (fun vs H Q E h=>?_) (fun cdv A outer s H vs Q E hr h=>?_)
 ·obtain⟨p,rfl,_⟩:=h;rfl
 ·obtain⟨p,rfl,q⟩:=h;exact⟨_,zp (zw zN),q⟩
theorem az :zf ["self"] ["self"] (za jv):=⟨rfl,rfl,rfl,by decide +kernel,rfl,by decide +kernel,by decide +kernel⟩
theorem fG (x y z:V):(wt x y z).lookup ("word":Str)=none:=fA x y z (by decide +kernel) (by decide +kernel) (by decide +kernel)
theorem xS {f C fIn fE fWd:Addr}{fd fdW:FuncData}{wd:Str}(F:Fun K "told" "Rule.told" jv f fd)(R:wj K C fIn f fE fWd)(GW:zr P w K mg base CX0 1 fWd fdW ["self"] (wJ wd))(bW:Binds K fdW ["self"] []):
  zr P w K mg base CX0 2 f fd ["self"] (ie C wd):=by
 refine F.ok az (fun vs H Q E h=>?_) (fun cdv A outer s H vs Q E hr h=>?_)
 ·obtain⟨p,dx,x,y,z,rfl,_⟩:=h
  rfl
 ·obtain⟨p,dx,x,y,z,rfl,hp,q⟩:=h
  refine⟨_,zp (zw (oM (zc (qx (pv 0) R.cl R.word GW hr bW .nil zQ) (zc (sV (pv 0) rfl) (zc (sV (pv 0) rfl) (zc (sV (pv 0) rfl) zm)))))),?_⟩
  refine⟨_,rfl,p,dx,_,rfl,hp,fG _ _ _,p,rfl,?_⟩
  exact⟨_,rfl,p,C,dx,_,_,rfl,hp,R.cl,R.nf,oq _ _ _,_,rfl,p,C,dx,_,_,rfl,hp,R.cl,R.nl,mW _ _ _,_,rfl,p,C,dx,_,_,rfl,hp,R.cl,R.nw,nk _ _ _,(by show 4≤sizeLine;decide),q⟩
theorem dg :zf ["thing"] ["thing"] (za oH):=⟨rfl,rfl,rfl,by decide +kernel,rfl,by decide +kernel,by decide +kernel⟩
theorem iL {f:Addr}{fd fdI:FuncData}(F:Fun K "is_coins" "is_coins" oH f fd)(T:nh mg fW fI fP fD fPD fS fC fDl fWo fR fM cs)(GI:zr P w K mg base CX0 2 fI fdI ["thing","lowest","highest"] wu)(kI:PySem.W.keepIn K (.ref fI)=true)(bI:Binds K fdI ["thing","lowest","highest"] []):
  zr P w K mg base CX0 3 f fd ["thing"] (yz vg):=by
 obtain⟨tl,hl⟩:=T.coinsMost
 refine F.ok dg (fun vs H Q E h=>?_) (fun cdv A outer s H vs Q E hr h=>?_)
 ·obtain⟨x,d,rfl,_⟩:=h
  rfl
 ·obtain⟨x,d,rfl,hd,q⟩:=h
  refine⟨_,zp (zw (zM GI hr (by rfl) T.d.within kI bI .nil zQ (zc (pv 0) (zc zt (zc (xW (v:=.int 1000000000000) (by rfl) hl ⟨tl,rfl⟩) zm))))),?_⟩
  exact⟨_,rfl,x,d,_,_,rfl,hd,q⟩
theorem iZ :zf ["thing"] ["thing"] (za sM):=⟨rfl,rfl,rfl,by decide +kernel,rfl,by decide +kernel,by decide +kernel⟩
theorem kN {f:Addr}{fd fdI fdP:FuncData}(F:Fun K "is_deal" "is_deal" sM f fd)(T:nh mg fW fI fP fD fPD fS fC fDl fWo fR fM cs)(GI:zr P w K mg base CX0 2 fI fdI ["thing","lowest","highest"] wu)(kI:PySem.W.keepIn K (.ref fI)=true)(bI:Binds K fdI ["thing","lowest","highest"] [])
  (GP:zr P w K mg base CX0 1 fP fdP ["thing"] (yz pairD)) (kP:PySem.W.keepIn K (.ref fP)=true) (bP:Binds K fdP ["thing"] []):zr P w K mg base CX0 3 f fd ["thing"] (yz vU):=by
 obtain⟨tm,hm⟩:=T.d.most
 refine F.ok iZ (fun vs H Q E h=>?_) (fun cdv A outer s H vs Q E hr h=>?_)
 ·obtain⟨x,d,rfl,_⟩:=h
  rfl
 ·obtain⟨x,d,rfl,hd,q⟩:=h
  have hr1:zG 1 _:=hr.mono (by decide)
  refine⟨_,zp (zw (yG (zM GP hr1 (by rfl) T.d.pair kP bP .nil zQ (zc (pv 0) zm))
   (yG (zM GI hr (by rfl) T.d.within kI bI .nil zQ (zc (zX yo (pv 0) zt (fun _ _=>rfl)) (zc zt (zc (xW (v:=.int 14) (by rfl) hm ⟨tm,rfl⟩) zm))))
   (xj (zM GI hr (by rfl) T.d.within kI bI .nil zQ (zc (zX yo (pv 0) zt (fun _ _=>rfl)) (zc zt (zc (yV gD (zX yo (pv 0) zt (fun _ _=>rfl)) zt) zm)))))))),?_⟩
  refine⟨_,rfl,x,d,rfl,hd,_,rfl,?_⟩
  refine yt (fun h=>?_) (fun h=>?_)
  ·obtain⟨a,b,rfl⟩:=vS h
   cases hd with
   |tup e hs=>
    cases hs with
    |cons ha hs=>
     cases hs with
     |cons hb hs=>
      cases hs
      refine⟨_,rfl,_,_,0,_,rfl,rfl,SqT.of e,rfl,_,_,_,_,rfl,ha,_,rfl,?_⟩
      cases ha with
      |int m=>
       have q':Q (.bl (zO 2 14 (.int m)&&zO 1 (m-1) b)) H:=q
       refine yt (fun h=>?_) (fun h=>?_)
       ·rw[h,zo8] at q'
        exact⟨_,rfl,_,_,1,_,rfl,rfl,SqT.of e,rfl,_,rfl,_,_,0,_,rfl,rfl,SqT.of e,rfl,_,_,rfl,rfl,_,_,_,_,rfl,hb,q'⟩
       ·rw[zm5.mpr h,zq1] at q'
        exact q'
      |_=>exact vC q
  ·have e:vU d=false:=by
    unfold vU
    split
    ·exact absurd rfl h
    ·rfl
   rw[e] at q
   exact q
theorem fN :zf ["word","thing"] ["word","thing"] (za oS):=⟨rfl,rfl,rfl,by decide +kernel,rfl,by decide +kernel,by decide +kernel⟩
theorem jY {f:Addr}{fd fdI fdC fdDl:FuncData}(F:Fun K "is_worth" "is_worth" oS f fd)(T:nh mg fW fI fP fD fPD fS fC fDl fWo fR fM cs)(GI:zr P w K mg base CX0 2 fI fdI ["thing","lowest","highest"] wu)(kI:PySem.W.keepIn K (.ref fI)=true)(bI:Binds K fdI ["thing","lowest","highest"] [])
  (GC:zr P w K mg base CX0 3 fC fdC ["thing"] (yz vg)) (kC:PySem.W.keepIn K (.ref fC)=true) (bC:Binds K fdC ["thing"] []) (GDl:zr P w K mg base CX0 3 fDl fdDl ["thing"] (yz vU)) (kDl:PySem.W.keepIn K (.ref fDl)=true) (bDl:Binds K fdDl ["thing"] []):
  zr P w K mg base CX0 4 f fd ["word","thing"] nW:=by
 obtain⟨tm,hm⟩:=T.d.most
 refine F.ok fN (fun vs H Q E h=>?_) (fun cdv A outer s H vs Q E hr h=>?_)
 ·obtain⟨x,y,dw,dv,rfl,_⟩:=h
  rfl
 ·obtain⟨x,y,dw,dv,rfl,hx,sw,hy,q⟩:=h
  have hr2:zG 2 _:=hr.mono (by decide)
  have hu:=hr.units
  have st:∀{z:Str},z∈words→SeqAt.shaped (.str z)=true:=fun {z} hz=>nq (by
   simp only[words,zj5,zk2,zn2] at hz
   rcases hz with rfl|rfl|rfl|rfl|rfl|rfl|rfl<;>decide +kernel)
  unfold zH at q
  -- if word == 'price'
  refine yb (fun σ H1=>σ=[some x,some y]∧eqS dw "price"=false∧H=H1)
   ⟨_,xI (yh (wA hu) (pv 0) zN (zC _)) (zp (zw (jW (xy pT (pv 1) rL (zC _)) (xj (zM GC hr (by rfl) T.coins kC bC .nil zQ (zc (pv 1) zm)))))) yn,?_⟩ ?_
  ·refine⟨_,rfl,dw,.str "price",hx,.str _,sw,st (by simp[words]),_,rfl,?_⟩
   refine yt (fun h=>?_) (fun h=>⟨rfl,zm5.mpr h,rfl⟩)
   rw[if_pos h] at q
   refine⟨_,rfl,rfl,_,rfl,?_⟩
   rw[hy.non_iff]
   refine yt (fun h2=>?_) (fun h2=>?_)
   ·rw[h2,Bool.true_or] at q
    exact q
   ·rw[zm5.mpr h2,zw1] at q
    exact⟨_,rfl,y,dv,rfl,hy,q⟩
  rintro σ H1 ⟨rfl,e1,rfl⟩
  rw[e1,if_neg zk1] at q
  -- if word == 'come' or word == 'go'
  refine yb (fun σ H1=>σ=[some x,some y]∧(eqS dw "come"||eqS dw "go")=false∧H=H1)
   ⟨_,xI (PW.pt (iH (yh (wA hu) (pv 0) zN (zC _)) (pH (yh (wA hu) (pv 0) zN (zC _))))) (zp (zw (yc yY (by rfl) T.d.isi zp7 (zc (pv 1) (zc (xV (v:=.ty "bool") (by rfl) T.d.bool boot_bool rfl) zm))))) yn,?_⟩ ?_
  ·refine⟨_,rfl,dw,.str "come",hx,.str _,sw,st (by simp[words]),_,rfl,?_⟩
   refine yt (fun h=>?_) (fun h=>?_)
   ·have h':eqS dw "come"=true:=h
    rw[h',Bool.true_or,if_pos rfl] at q
    exact vL ⟨_,rfl,y,"bool",dv,_,rfl,hy,uG dv,q⟩
   ·have h':eqS dw "come"=false:=zm5.mpr h
    refine⟨_,rfl,dw,.str "go",hx,.str _,sw,st (by simp[words]),_,rfl,?_⟩
    refine yt (fun h2=>?_) (fun h2=>?_)
    ·have h2':eqS dw "go"=true:=h2
     rw[h',h2',zw1,if_pos rfl] at q
     exact⟨_,rfl,y,"bool",dv,_,rfl,hy,uG dv,q⟩
    ·have h2':eqS dw "go"=false:=zm5.mpr h2
     exact⟨rfl,by rw[h',h2'];rfl,rfl⟩
  rintro σ H1 ⟨rfl,e2,rfl⟩
  rw[e2,if_neg zk1] at q
  -- if word == 'least' or word == 'most'
  refine yb (fun σ H1=>σ=[some x,some y]∧(eqS dw "least"||eqS dw "most")=false∧H=H1)
   ⟨_,xI (PW.pt (iH (yh (wA hu) (pv 0) zN (zC _)) (pH (yh (wA hu) (pv 0) zN (zC _))))) (zp (zw (zM GI hr2 (by rfl) T.d.within kI bI .nil zQ (zc (pv 1) (zc zt (zc (xW (v:=.int 14) (by rfl) hm ⟨tm,rfl⟩) zm)))))) yn,?_⟩ ?_
  ·refine⟨_,rfl,dw,.str "least",hx,.str _,sw,st (by simp[words]),_,rfl,?_⟩
   refine yt (fun h=>?_) (fun h=>?_)
   ·have h':eqS dw "least"=true:=h
    rw[h',Bool.true_or,if_pos rfl] at q
    exact vL ⟨_,rfl,y,dv,_,_,rfl,hy,q⟩
   ·have h':eqS dw "least"=false:=zm5.mpr h
    refine⟨_,rfl,dw,.str "most",hx,.str _,sw,st (by simp[words]),_,rfl,?_⟩
    refine yt (fun h2=>?_) (fun h2=>?_)
    ·have h2':eqS dw "most"=true:=h2
     rw[h',h2',zw1,if_pos rfl] at q
     exact⟨_,rfl,y,dv,_,_,rfl,hy,q⟩
    ·have h2':eqS dw "most"=false:=zm5.mpr h2
     exact⟨rfl,by rw[h',h2'];rfl,rfl⟩
  rintro σ H1 ⟨rfl,e3,rfl⟩
  rw[e3,if_neg zk1] at q
  -- if word == 'deal'
  refine yb (fun σ H1=>σ=[some x,some y]∧eqS dw "deal"=false∧H=H1)
   ⟨_,xI (yh (wA hu) (pv 0) zN (zC _)) (zp (zw (jW (xy pT (pv 1) rL (zC _)) (xj (zM GDl hr (by rfl) T.deal kDl bDl .nil zQ (zc (pv 1) zm)))))) yn,?_⟩ ?_
  ·refine⟨_,rfl,dw,.str "deal",hx,.str _,sw,st (by simp[words]),_,rfl,?_⟩
   refine yt (fun h=>?_) (fun h=>⟨rfl,zm5.mpr h,rfl⟩)
   rw[if_pos h] at q
   refine⟨_,rfl,rfl,_,rfl,?_⟩
   rw[hy.non_iff]
   refine yt (fun h2=>?_) (fun h2=>?_)
   ·rw[h2,Bool.true_or] at q
    exact q
   ·rw[zm5.mpr h2,zw1] at q
    exact⟨_,rfl,y,dv,rfl,hy,q⟩
  rintro σ H1 ⟨rfl,e4,rfl⟩
  rw[e4,if_neg zk1] at q
  refine⟨_,zp (zw (yG (xy (wA hu) (pv 0) zN (zC _)) (xj (zM GC hr (by rfl) T.coins kC bC .nil zQ (zc (pv 1) zm))))),?_⟩
  refine⟨_,rfl,dw,.str "fee",hx,.str _,sw,st (by simp[words]),_,rfl,?_⟩
  refine yt (fun h=>?_) (fun h=>?_)
  ·have h':eqS dw "fee"=true:=h
   rw[h',zo8] at q
   exact⟨_,rfl,y,dv,rfl,hy,q⟩
  ·have h':eqS dw "fee"=false:=zm5.mpr h
   rw[h',zq1] at q
   exact q
theorem iF :zf ["thing"] ["thing"] (za rN):=⟨rfl,rfl,rfl,by decide +kernel,rfl,by decide +kernel,by decide +kernel⟩
theorem lP {f:Addr}{fd fdS fdWo:FuncData}(F:Fun K "is_rule" "is_rule" rN f fd)(T:nh mg fW fI fP fD fPD fS fC fDl fWo fR fM cs)(GS:zr P w K mg base CX0 5 fS fdS ["thing"] (yz zW))(kS:PySem.W.keepIn K (.ref fS)=true)(bS:Binds K fdS ["thing"] [])
  (GW:zr P w K mg base CX0 4 fWo fdWo ["word","thing"] nW) (kW:PySem.W.keepIn K (.ref fWo)=true) (bW:Binds K fdWo ["word","thing"] []):zr P w K mg base CX0 6 f fd ["thing"] pK:=by
 refine F.ok iF (fun vs H Q E h=>?_) (fun cdv A outer s H vs Q E hr h=>?_)
 ·obtain⟨x,d,rfl,_⟩:=h
  rfl
 ·obtain⟨x,d,rfl,hd,sd,q⟩:=h
  have hr4:zG 4 _:=hr.mono (by decide)
  refine⟨_,zp (zw (yG (yc yY (by rfl) T.d.isi zp7 (zc (pv 0) (zc (xV (v:=.ty "tuple") (by rfl) T.d.tuple boot_tuple rfl) zm)))
   (yG (xy we (yc yW (by rfl) T.d.len zt4 (zc (pv 0) zm)) zt (zC _))
   (yG (zM GS hr (by rfl) T.stretch kS bS .nil zQ (zc (oM (zc (zX yo (pv 0) zt (fun _ _=>rfl)) (zc (zX yo (pv 0) zt (fun _ _=>rfl)) zm))) zm))
   (xj (zM GW hr4 (by rfl) T.worth kW bW .nil zQ (zc (zX yo (pv 0) zt (fun _ _=>rfl)) (zc (zX yo (pv 0) zt (fun _ _=>rfl)) zm)))))))),?_⟩
  refine⟨_,rfl,x,"tuple",d,_,rfl,hd,sE d,_,rfl,?_⟩
  cases hd with
  |@tup a xs ds e hs=>
   refine vL ⟨_,rfl,a,_,rfl,.inr (SqT.of e),rfl,_,rfl,?_⟩
   match xs,ds,hs with
   |_,[dw,da,db,dv],.cons (x:=xw) hw (.cons (x:=xa) ha (.cons (x:=xb) hb (.cons (x:=xv) hv .nil)))=>
    refine yt (fun _=>?_) (fun h=>absurd rfl h)
    refine⟨_,rfl,a,_,1,_,rfl,rfl,SqT.of e,rfl,_,rfl,a,_,2,_,rfl,rfl,SqT.of e,rfl,(by show 2≤sizeLine;decide),fun p hp=>?_⟩
    have s1:zq H (upd H p (.tup [xa,xb])):=yk hp
    refine⟨_,.tuple [da,db],rfl,.tup zj (.cons (ha.same s1) (.cons (hb.same s1) .nil)),_,rfl,?_⟩
    have q':Q (.bl (zW (.tuple [da,db])&&zH dw dv)) (upd H p (.tup [xa,xb])):=q _ s1
    refine yt (fun h=>?_) (fun h=>?_)
    ·rw[h,zo8] at q'
     exact⟨_,rfl,a,_,0,_,rfl,rfl,SqT.of (s1 _ _ e),rfl,_,rfl,a,_,3,_,rfl,rfl,SqT.of (s1 _ _ e),rfl,_,_,_,_,rfl,hw.same s1,rJ sd dw (by simp),hv.same s1,q'⟩
    ·rw[zm5.mpr h,zq1] at q'
     exact q'
   |_,[],.nil=>exact yt (fun h=>absurd h (by simp)) (fun _=>q H (zq.refl H))
   |_,[_],.cons _ .nil=>exact yt (fun h=>absurd h (by simp)) (fun _=>q H (zq.refl H))
   |_,[_,_],.cons _ (.cons _ .nil)=>exact yt (fun h=>absurd h (by simp)) (fun _=>q H (zq.refl H))
   |_,[_,_,_],.cons _ (.cons _ (.cons _ .nil))=>exact yt (fun h=>absurd h (by simp)) (fun _=>q H (zq.refl H))
   |_,_::_::_::_::_::_,.cons _ (.cons _ (.cons _ (.cons _ (.cons _ _))))=>exact yt (fun h=>absurd h (by simp;omega)) (fun _=>q H (zq.refl H))
  |_=>exact vC (q H (zq.refl H))
end
section
variable {P:Program}{w:World}{K:PySem.W.Frag}{mg:Str→Option Value}{base:Heap}{fW fI fP fD fPD fS fC fDl fWo fR fM:Addr}{cs:Cs}
structure iO (K:PySem.W.Frag)(cs:Cs)(fIn fTo fTe w1 w2 w3 w4 w5 w6 w7:Addr):Prop where
 price:wj K cs.price fIn fTo fTe w1
 come:wj K cs.come fIn fTo fTe w2
 go:wj K cs.go fIn fTo fTe w3
 least:wj K cs.least fIn fTo fTe w4
 most:wj K cs.most fIn fTo fTe w5
 deal:wj K cs.deal fIn fTo fTe w6
 fee:wj K cs.fee fIn fTo fTe w7
theorem pC (cs:Cs):cs.of "price"=cs.price:=by unfold Cs.of;rw[if_pos rfl]
theorem mT (cs:Cs):cs.of "come"=cs.come:=by unfold Cs.of;rw[if_neg (by decide +kernel),if_pos rfl]
theorem cv (cs:Cs):cs.of "go"=cs.go:=by unfold Cs.of;rw[if_neg (by decide +kernel),if_neg (by decide +kernel),if_pos rfl]
theorem qp (cs:Cs):cs.of "least"=cs.least:=by unfold Cs.of;rw[if_neg (by decide +kernel),if_neg (by decide +kernel),if_neg (by decide +kernel),if_pos rfl]
theorem my (cs:Cs):cs.of "most"=cs.most:=by unfold Cs.of;rw[if_neg (by decide +kernel),if_neg (by decide +kernel),if_neg (by decide +kernel),if_neg (by decide +kernel),if_pos rfl]
theorem mO (cs:Cs):cs.of "deal"=cs.deal:=by unfold Cs.of;rw[if_neg (by decide +kernel),if_neg (by decide +kernel),if_neg (by decide +kernel),if_neg (by decide +kernel),if_neg (by decide +kernel),if_pos rfl]
theorem gH (cs:Cs):cs.of "fee"=cs.fee:=by unfold Cs.of;rw[if_neg (by decide +kernel),if_neg (by decide +kernel),if_neg (by decide +kernel),if_neg (by decide +kernel),if_neg (by decide +kernel),if_neg (by decide +kernel)]
theorem vJ {x y:Str}(h:decide (V.str x=V.str y)=true):x=y:=by
 have:=zq9 h
 injection this
theorem vF {x y:Str}(h:¬decide (V.str x=V.str y)=true):x≠y:=fun e=>h (by rw[e];exact zm0 rfl)
theorem xk {C p dx:Addr}{H:Hp}{x y z:V}{Q:VK}(k:∀(p dx:Addr) (H':Hp),H' p=some (.ins C dx (wt x y z))→H p=none→zq H H'→Q (.ref p) H')(hp:H p=none)(hx:H dx=none)(n:dx≠p):
  Q (.ref p) (upd (upd (upd H dx (.own p)) p (.ins C dx [])) p (.ins C dx (wt x y z))):=by
 refine k p dx _ zj hp fun a o e=>?_
 rw[vq,zg (zk e hp),zg (zk e hx)]
 exact e
theorem cO :zf ["word","first","last","worth"] ["word","first","last","worth"] (za jw):=⟨rfl,rfl,rfl,by decide +kernel,rfl,by decide +kernel,by decide +kernel⟩
set_option maxHeartbeats 4000000 in
theorem ek {f fIn fTo fTe w1 w2 w3 w4 w5 w6 w7:Addr}{fd fdIn:FuncData}(F:Fun K "made" "made" jw f fd)(T:nh mg fW fI fP fD fPD fS fC fDl fWo fR fM cs)(A7:iO K cs fIn fTo fTe w1 w2 w3 w4 w5 w6 w7)
  (FI:Fun K "__init__" "Rule.__init__" nH fIn fdIn) (bI:Binds K fdIn ["self","first","last","worth"] []):zr P w K mg base CX0 3 f fd ["word","first","last","worth"] (ja cs):=by
 refine F.ok cO (fun vs H Q E h=>?_) (fun cdv A outer s H vs Q E hr h=>?_)
 ·obtain⟨wd,x,y,z,rfl,_⟩:=h
  rfl
 ·obtain⟨wd,x,y,z,rfl,hw,k⟩:=h
  refine yb (fun σ H1=>σ=[some (.str wd),some x,some y,some z]∧wd≠"price"∧H=H1)
   ⟨_,xI (yh we (pv 0) zN (zC _)) (zp (zw (xx A7.price.makes (xK FI A7.price) hr (by rfl) T.cPrice bI .nil zQ (zc (pv 1) (zc (pv 2) (zc (pv 3) zm)))))) yn,?_⟩ ?_
  ·refine⟨_,rfl,rfl,_,rfl,yt (fun h=>?_) (fun h=>⟨rfl,vF h,rfl⟩)⟩
   rw[vJ h,pC] at k
   exact⟨_,rfl,_,rfl,_,rfl,fun p dx hp hx n=>⟨p,dx,_,_,_,rfl,zj,rfl,xk k hp hx n⟩⟩
  rintro σ H1 ⟨rfl,n1,rfl⟩
  refine yb (fun σ H1=>σ=[some (.str wd),some x,some y,some z]∧wd≠"come"∧H=H1)
   ⟨_,xI (yh we (pv 0) zN (zC _)) (zp (zw (xx A7.come.makes (xK FI A7.come) hr (by rfl) T.cCome bI .nil zQ (zc (pv 1) (zc (pv 2) (zc (pv 3) zm)))))) yn,?_⟩ ?_
  ·refine⟨_,rfl,rfl,_,rfl,yt (fun h=>?_) (fun h=>⟨rfl,vF h,rfl⟩)⟩
   rw[vJ h,mT] at k
   exact⟨_,rfl,_,rfl,_,rfl,fun p dx hp hx n=>⟨p,dx,_,_,_,rfl,zj,rfl,xk k hp hx n⟩⟩
  rintro σ H1 ⟨rfl,n2,rfl⟩
  refine yb (fun σ H1=>σ=[some (.str wd),some x,some y,some z]∧wd≠"go"∧H=H1)
   ⟨_,xI (yh we (pv 0) zN (zC _)) (zp (zw (xx A7.go.makes (xK FI A7.go) hr (by rfl) T.cGo bI .nil zQ (zc (pv 1) (zc (pv 2) (zc (pv 3) zm)))))) yn,?_⟩ ?_
  ·refine⟨_,rfl,rfl,_,rfl,yt (fun h=>?_) (fun h=>⟨rfl,vF h,rfl⟩)⟩
   rw[vJ h,cv] at k
   exact⟨_,rfl,_,rfl,_,rfl,fun p dx hp hx n=>⟨p,dx,_,_,_,rfl,zj,rfl,xk k hp hx n⟩⟩
  rintro σ H1 ⟨rfl,n3,rfl⟩
  refine yb (fun σ H1=>σ=[some (.str wd),some x,some y,some z]∧wd≠"least"∧H=H1)
   ⟨_,xI (yh we (pv 0) zN (zC _)) (zp (zw (xx A7.least.makes (xK FI A7.least) hr (by rfl) T.cLeast bI .nil zQ (zc (pv 1) (zc (pv 2) (zc (pv 3) zm)))))) yn,?_⟩ ?_
  ·refine⟨_,rfl,rfl,_,rfl,yt (fun h=>?_) (fun h=>⟨rfl,vF h,rfl⟩)⟩
   rw[vJ h,qp] at k
   exact⟨_,rfl,_,rfl,_,rfl,fun p dx hp hx n=>⟨p,dx,_,_,_,rfl,zj,rfl,xk k hp hx n⟩⟩
  rintro σ H1 ⟨rfl,n4,rfl⟩
  refine yb (fun σ H1=>σ=[some (.str wd),some x,some y,some z]∧wd≠"most"∧H=H1)
   ⟨_,xI (yh we (pv 0) zN (zC _)) (zp (zw (xx A7.most.makes (xK FI A7.most) hr (by rfl) T.cMost bI .nil zQ (zc (pv 1) (zc (pv 2) (zc (pv 3) zm)))))) yn,?_⟩ ?_
  ·refine⟨_,rfl,rfl,_,rfl,yt (fun h=>?_) (fun h=>⟨rfl,vF h,rfl⟩)⟩
   rw[vJ h,my] at k
   exact⟨_,rfl,_,rfl,_,rfl,fun p dx hp hx n=>⟨p,dx,_,_,_,rfl,zj,rfl,xk k hp hx n⟩⟩
  rintro σ H1 ⟨rfl,n5,rfl⟩
  refine yb (fun σ H1=>σ=[some (.str wd),some x,some y,some z]∧wd≠"deal"∧H=H1)
   ⟨_,xI (yh we (pv 0) zN (zC _)) (zp (zw (xx A7.deal.makes (xK FI A7.deal) hr (by rfl) T.cDeal bI .nil zQ (zc (pv 1) (zc (pv 2) (zc (pv 3) zm)))))) yn,?_⟩ ?_
  ·refine⟨_,rfl,rfl,_,rfl,yt (fun h=>?_) (fun h=>⟨rfl,vF h,rfl⟩)⟩
   rw[vJ h,mO] at k
   exact⟨_,rfl,_,rfl,_,rfl,fun p dx hp hx n=>⟨p,dx,_,_,_,rfl,zj,rfl,xk k hp hx n⟩⟩
  rintro σ H1 ⟨rfl,n6,rfl⟩
  have e7:wd="fee":=by
   simp only[words,zj5,zk2,zn2] at hw
   rcases hw with e|e|e|e|e|e|e
   ·exact absurd e n1
   ·exact absurd e n2
   ·exact absurd e n3
   ·exact absurd e n4
   ·exact absurd e n5
   ·exact absurd e n6
   ·exact e
  rw[e7,gH] at k
  refine⟨_,zp (zw (xx A7.fee.makes (xK FI A7.fee) hr (by rfl) T.cFee bI .nil zQ (zc (pv 1) (zc (pv 2) (zc (pv 3) zm))))),?_⟩
  exact⟨_,rfl,_,rfl,_,rfl,fun p dx hp hx n=>⟨p,dx,_,_,_,rfl,zj,rfl,xk k hp hx n⟩⟩
theorem gR :zf ["thing"] ["thing"] (za sP):=⟨rfl,rfl,rfl,by decide +kernel,rfl,by decide +kernel,by decide +kernel⟩
theorem lA {f:Addr}{fd fdR fdM:FuncData}(F:Fun K "rule_of" "rule_of" sP f fd)(T:nh mg fW fI fP fD fPD fS fC fDl fWo fR fM cs)(GR:zr P w K mg base CX0 6 fR fdR ["thing"] pK)(kR:PySem.W.keepIn K (.ref fR)=true)(bR:Binds K fdR ["thing"] [])
  (GM:zr P w K mg base CX0 3 fM fdM ["word","first","last","worth"] (ja cs)) (kM:PySem.W.keepIn K (.ref fM)=true) (bM:Binds K fdM ["word","first","last","worth"] []):zr P w K mg base CX0 7 f fd ["thing"] (qD cs):=by
 refine F.ok gR (fun vs H Q E h=>?_) (fun cdv A outer s H vs Q E hr h=>?_)
 ·obtain⟨x,d,rfl,_⟩:=h
  rfl
 ·obtain⟨x,d,rfl,hd,sd,k0,k1⟩:=h
  have hr3:zG 3 _:=hr.mono (by decide)
  refine yb (fun σ H1=>σ=[some x]∧yr d=true∧zq H H1)
   ⟨_,xI (ji (kZ (zM GR hr (by rfl) T.rule kR bR .nil zQ (zc (pv 0) zm)))) (zp (zw rL)) yn,?_⟩ ?_
  ·refine⟨_,rfl,x,d,rfl,hd,sd,fun H1 s1=>⟨_,rfl,?_⟩⟩
   refine yt (fun h=>?_) (fun h=>?_)
   ·exact k0 (by simpa using h) H1 s1
   ·exact⟨rfl,by simpa using h,s1⟩
  rintro σ H1 ⟨rfl,er,s1⟩
  obtain⟨sw,da,db,dv,hsw,rfl⟩:=xt er
  cases hd with
  |@tup r xs ds e hs=>
   cases hs with
   |@cons xw _ _ _ hw hs=>
    cases hw
    cases hs with
    |@cons xa _ _ _ ha hs=>
     cases hs with
     |@cons xb _ _ _ hb hs=>
      cases hs with
      |@cons xv _ _ _ hv hs=>
       cases hs
       have e1:=s1 _ _ e
       refine⟨_,zp (zw (zM GM hr3 (by rfl) T.made kM bM .nil zQ (zc (zX yo (pv 0) zt (fun _ _=>rfl)) (zc (zX yo (pv 0) zt (fun _ _=>rfl)) (zc (zX yo (pv 0) zt (fun _ _=>rfl)) (zc (zX yo (pv 0) zt (fun _ _=>rfl)) zm)))))),?_⟩
       refine⟨_,rfl,r,_,0,_,rfl,rfl,SqT.of e1,rfl,_,rfl,r,_,1,_,rfl,rfl,SqT.of e1,rfl,_,rfl,r,_,2,_,rfl,rfl,SqT.of e1,rfl,_,rfl,r,_,3,_,rfl,rfl,SqT.of e1,rfl,sw,_,_,_,rfl,hsw,fun p dx H2 h2 hp s2=>?_⟩
       exact k1 r sw xa xb xv p dx H2 rfl er hsw e h2 (s1.free hp) (s1.trans s2)
end
abbrev pz :Stmt:=top 34
abbrev yA :Stmt:=inClass (top 33) 0
abbrev wK :Stmt:=inClass (top 33) 1
def tP (C:Addr)(a b v:PyData):PyData:=xY C [(.str "first",a),(.str "last",b),(.str "worth",v)]
def wx (cs:Cs):PyData→PyData
 |.tuple [.str w,a,b,v]=>tP (cs.of w) a b v
 |_=>.none
def iD (C:Addr)(cs:Cs)(ds:List PyData):PyData:=xY C [(.str "kept",.list (ds.map (wx cs)))]
def Rules (ds:List PyData):Prop:=∀d∈ds,yr d=true∧SeqAt.shaped d=true∧d.hasDict=false
def vn (cs:Cs):List A→(A→Prop)→Prop:=fun as Q=>∃d,as=[.dat d]∧d.hasDict=false∧SeqAt.shaped d=true∧(yr d=false→Q (.dat .none))∧(yr d=true→Q (.dat (wx cs d)))
def pQ (cs:Cs):List A→(A→Prop)→Prop:=fun as Q=>∃ds,as=[.dat (.list ds)]∧Rules ds∧ds.length≤24∧Q (.own (ds.map (wx cs)))
def rW (C:Addr)(cs:Cs):List A→(A→Prop)→Prop:=fun as Q=>∃ds,(as=[.dat (.list ds)]∨(as=[.dat .none]∧ds=[]))∧Rules ds∧ds.length≤24∧Q (.dat (iD C cs ds))
def oG (C:Addr)(w:Str):List A→(A→Prop)→Prop:=fun as Q=>∃a b v,as=[.dat (tP C a b v)]∧Q (.dat (.tuple [.str w,a,b,v]))
def sT (C:Addr)(cs:Cs):List A→(A→Prop)→Prop:=fun as Q=>∃ds,as=[.dat (iD C cs ds)]∧Rules ds∧ds.length≤1000∧Q (.own ds)
theorem nY (x y z:V):wt x y z=[(("first":Str),x),(("last":Str),y),(("worth":Str),z)]:=by
 unfold wt
 show xp "worth" z (if ("first":Str)="last" then _ else _)=_
 rw[if_neg (fun e=>gb e.symm)]
 show (if ("first":Str)="worth" then _ else _)=_
 rw[if_neg (fun e=>cC e.symm)]
 show _::(if ("last":Str)="worth" then _ else _)=_
 rw[if_neg (fun e=>cz e.symm)]
 rfl
theorem xM {cs:Cs}{d:PyData}(h:yr d=true):∃(s:Str) (a b v:PyData),s∈words∧d=.tuple [.str s,a,b,v]∧wx cs d=tP (cs.of s) a b v:=by
 obtain⟨s,a,b,v,hs,rfl⟩:=xt h
 exact⟨s,a,b,v,hs,rfl,rfl⟩
def jf :Scope:=match zv wK with
 |[.Return (some (.ListComp _ _ sc _)) _]=>sc
 |_=>za wK
section
variable {P:Program}{w:World}{K:PySem.W.Frag}{mg:Str→Option Value}{base:Heap}{cs:Cs}
theorem oY {k:Nat}{f:Addr}{fd:FuncData}{ps:List Str}(hm:mg "rule_of"=some (.ref f))(hk:PySem.W.keepIn K (.ref f)=true)(hb:Binds K fd ps [])(G:zr P w K mg base CX0 k f fd ps (qD cs)):Cal P w K mg base "rule_of" k (vn cs):=by
 refine⟨f,fd,_,hm,hk,hb,G.imp fun vs H Q E h=>?_⟩
 obtain⟨F,as,Q',rfl,t,o,rv,⟨d,rfl,nd,sh,q0,q1⟩,kk⟩:=h
 obtain⟨x,rfl,av⟩:=rv.one
 have oo:∀{a:Addr},F.H0 a=none→¬F.O0 a:=fun {a} e z=>by
  obtain⟨u,hu,_⟩:=o a z
  rw[e] at hu;cases hu
 refine⟨x,d,rfl,(av.dv nd).same xm,sh,fun hr H' s=>kk _ _ _ (q0 hr) ⟨t.same s,Kz.of_same s,.non⟩,fun r wd x1 x2 x3 p dx H' hx hr hw he hp' hp s=>kk _ _ _ (q1 hr) ⟨t.same s,Kz.of_same s,?_⟩⟩
 subst hx
 obtain⟨s',a,b,v,_,rfl⟩:=xt hr
 obtain⟨r',xs,e1,e2,e3⟩:=av.tup_inv
 cases e1
 have e4:=(zh e2).2
 rw[he] at e4
 cases e4
 have gs:zq (sub (fun x=>¬F.O0 x) F.H0) (sub (fun x=>¬F.O0 x) H'):=zl fun a u h e=>⟨h,s _ _ e⟩
 cases e3 with
 |cons g1 e3=>
  cases g1.str_inv
  cases e3 with
  |cons g2 e3=>
   cases e3 with
   |cons g3 e3=>
    cases e3 with
    |cons g4 e3=>
     cases e3
     rw[nY] at hp'
     exact .ins (zK (oo hp) hp') (.cons (g2.same gs) (.cons (g3.same gs) (.cons (g4.same gs) .nil)))
theorem yF {C f fIn fE fWd:Addr}{fd:FuncData}{wd:Str}(R:wj K C fIn f fE fWd)(hb:Binds K fd ["self"] [])(G:zr P w K mg base CX0 2 f fd ["self"] (ie C wd)):rg P w K mg base C "told" 2 (oG C wd):=by
 refine⟨f,fd,_,R.cl,R.told,hb,G.imp fun vs H Q E h=>?_⟩
 obtain⟨F,as,Q',rfl,t,o,rv,⟨a,b,v,rfl,q⟩,kk⟩:=h
 obtain⟨x,rfl,av⟩:=rv.one
 obtain⟨p,dx,fs,rfl,h1,h2⟩:=av.ins_inv
 cases h2 with
 |cons g1 h2=>
  cases h2 with
  |cons g2 h2=>
   cases h2 with
   |cons g3 h2=>
    cases h2
    refine⟨p,dx,_,_,_,rfl,by rw[nY];exact (zh h1).2,fun r hr=>kk _ _ _ q ⟨t.same (yk hr),Kz.of_same (yk hr),?_⟩⟩
    have gs:∀o':HO,zq (sub (fun x=>¬F.O0 x) F.H0) (sub (fun x=>¬F.O0 x) (upd F.H0 r o')):=fun o'=>zl fun a u h e=>⟨h,by rw[zg (zk e hr)];exact e⟩
    refine .tup (zK (fun z=>?_) zj) (.cons (.str _) (.cons (g1.same (gs _)) (.cons (g2.same (gs _)) (.cons (g3.same (gs _)) .nil))))
    obtain⟨u,hu,_⟩:=o r z
    rw[hr] at hu;cases hu
theorem il :zf ["things","kept","number","thing","rule"] ["things"] (za pz):=⟨rfl,rfl,rfl,by decide +kernel,rfl,by decide +kernel,by decide +kernel⟩
set_option maxHeartbeats 4000000 in
theorem iq {f:Addr}{fd:FuncData}(F:Fun K "kept_rules" "kept_rules" pz f fd)(hm:mg "kept_rules"=some (.ref f))(hb:Binds K fd ["things"] [])(nb:NbT mg)(gM:∃t,mg "MOST_RULES"=some (.int 24 t))(CRO:Cal P w K mg base "rule_of" 7 (vn cs)):Cal P w K mg base "kept_rules" 8 (pQ cs):=by
 refine vf F hm hb il (fun as Q h=>?_) (fun cdv A' outer s H E as Q hr h=>?_)
 ·obtain⟨ds,rfl,_⟩:=h
  rfl
 ·obtain⟨ds,rfl,rd,hl,q⟩:=h
  refine xu 1 il.nd (zU (zi (⟨_,rfl,zj4 rfl,?_⟩)))
  refine vE (pat:=.many [2,3]) zv0 rfl (wk (n:=2) (K:=K) rfl rfl (yP (yg (i:=2) il.nd rfl (Or.inl rfl)) (yP (yg (i:=3) il.nd rfl (Or.inl rfl)) (vp)))) (rA (by rfl) nb.enumerate (zd 0 rfl (⟨_,rfl,?_⟩)))
  refine wH (fun i α=>∃v2 v3 v4,α=[some (.dat (.list ds)),some (.own ((ds.take i).map (wx cs))),v2,v3,v4]) ⟨none,none,none,rfl⟩ ?_ ?_
  ·rintro i d α hd ⟨v2,v3,v4,rfl⟩
   obtain⟨e,he,rfl⟩:=xC hd
   obtain⟨r1,r2,r3⟩:=rd e (zp6 he)
   have hi:i<ds.length:=(zj6.mp he).1
   refine⟨_,rfl,?_⟩
   refine zI 4 il.nd (zA CRO hr (by rfl) (zb (zd 3 rfl (zi (⟨_,rfl,r3,r2,fun z=>(by rw[r1] at z;cases z),fun _=>?_⟩)))))
   refine yT (wI (zd 4 rfl ?_))
   obtain⟨s',a,b,v,hs,rfl,ei⟩:=xM (cs:=cs) r1
   refine yw (fun h=>by rw[show (A.dat (wx cs (.tuple [.str s',a,b,v]))).d=tP (cs.of s') a b v from rfl] at h;cases h) (fun _=>zB ?_)
   refine yJ 1 rfl (zd 4 rfl ⟨by rw[zj1,zr1];omega,?_⟩)
   refine zB ⟨some (.dat (.int ((0+i:Nat):Int))),some (.dat (.tuple [.str s',a,b,v])),some (.dat (wx cs (.tuple [.str s',a,b,v]))),?_⟩
   rw[zp9,he,zq7]
   rfl
  ·rintro α ⟨v2,v3,v4,rfl⟩
   rw[xH,zs7]
   refine yT (nL 1 rfl (hV (rQ (by rfl) nb.len (zd 1 rfl ⟨_,rfl,uD (by rfl) gM ⟨_,_,rfl,rfl,?_⟩⟩))))
   refine rT (fun h=>?_) (fun _=>zB ?_)
   ·rw[zj1] at h
    omega
   ·exact nZ 1 rfl q
theorem zj0 :zf ["self","rules"] ["self","rules"] (za yA):=⟨rfl,rfl,rfl,by decide +kernel,rfl,by decide +kernel,by decide +kernel⟩
theorem kA {w' v:PyData}(h:zH w' v=true):noL v=true:=by
 have wi:∀{lo hi:Int} {x:PyData},zO lo hi x=true→noL x=true:=fun {lo hi x} h=>by
  cases x with
  |int i=>rfl
  |_=>cases h
 have nn:∀{x:PyData},isNone x=true→noL x=true:=fun {x} h=>by
  cases x with
  |none=>rfl
  |_=>cases h
 unfold zH at h
 split at h
 ·rcases (zp8 _ _).mp h with h|h
  ·exact nn h
  ·exact wi h
 ·split at h
  ·cases v with
   |bool b=>rfl
   |_=>cases h
  ·split at h
   ·exact wi h
   ·split at h
    ·rcases (zp8 _ _).mp h with h|h
     ·exact nn h
     ·unfold vU at h
      split at h
      ·rw[zk3] at h
       simp only[noL,qK,wi h.2,Bool.and_self]
      ·cases h
    ·rw[zk3] at h
     exact wi h.2
theorem je {s':Str}{a b v:PyData}(h:yr (.tuple [.str s',a,b,v])=true):noL a=true∧noL b=true∧noL v=true:=by
 have h':(zW (.tuple [a,b])&&zH (.str s') v)=true:=h
 rw[zk3] at h'
 refine⟨?_,?_,kA h'.2⟩
 ·have:=h'.1
  unfold zW tL at this
  split at this
  ·rename_i k e
   split at e
   ·rename_i z;cases z;rfl
   ·cases e
  ·cases this
 ·have:=h'.1
  unfold zW tL at this
  split at this
  ·rename_i k e
   split at e
   ·rename_i z;cases z;rfl
   ·cases e
  ·cases this
theorem qW {ds:List PyData}(rd:Rules ds):qK (ds.map (wx cs))=true:=by
 induction ds with
 |nil=>rfl
 |cons d r ih=>
  have ih':=ih fun x hx=>rd x (zj7 _ hx)
  have h1:=(rd d zk0).1
  obtain⟨s',a,b,v,hs,rfl,ei⟩:=xM (cs:=cs) h1
  obtain⟨z1,z2,z3⟩:=je h1
  rw[zm8,ei]
  simp only[qK,ih',zu1]
  simp[tP,xY,noL,oy,z1,z2,z3]
theorem iE {f C:Addr}{dV:Value}{fd:FuncData}(F:oi K "__init__" "Book.__init__" yA dV f fd)(c:Cls K C)(na:yH K C "kept")(CK:Cal P w K mg base "kept_rules" 8 (pQ cs)):zr P w K mg base CX0 9 f fd ["self","rules"] (spI C (rW C cs)):=by
 refine zc4 (N:=[]) F zj0 c na rfl (fun as Q h=>?_) (fun cdv A' outer s H E as Q hr h=>?_) (fun _ _ _ _ _ _=>rfl) (Or.inl rfl)
 ·obtain⟨ds,h|⟨h,_⟩,_⟩:=h<;>rw[h]<;>rfl
 ·obtain⟨ds,h|⟨h,hz⟩,rd,hl,q⟩:=h
  ·subst h
   exact rK CK hr (by rfl) (zb (rS (wI (zd 1 rfl (vC (zd 1 rfl (zi ⟨_,rfl,rd,hl,_,rfl,qW rd,q⟩)))))))
  ·subst h hz
   exact rK CK hr (by rfl) (zb (rS (wI (zd 1 rfl (vL (EvL.d (zU (zi ⟨_,rfl,zj4 rfl,zi ⟨[],rfl,rd,hl,_,rfl,qW rd,q⟩⟩))))))))
theorem zh9 :zf ["self"] ["self"] (za wK):=⟨rfl,rfl,rfl,by decide +kernel,rfl,by decide +kernel,by decide +kernel⟩
theorem zd6 :zR ["self"] (za wK) ["rule"] [none] jf:=⟨rfl,by decide +kernel,by decide +kernel,by decide +kernel,by decide +kernel,rfl,by decide +kernel⟩
set_option maxHeartbeats 4000000 in
theorem mY {f C:Addr}{fd:FuncData}(F:Fun K "rules" "Book.rules" wK f fd)(c:Cls K C)(na:yH K C "kept")(hb:Binds K fd ["self"] [])(O:∀w'∈words,rg P w K mg base (cs.of w') "told" 2 (oG (cs.of w') w')):zr P w K mg base CX0 3 f fd ["self"] (spA (sT C cs)):=by
 refine fnA F zh9 (fun as Q h=>?_) (fun cdv A' outer s H E as Q hr h=>?_)
 ·obtain⟨ds,rfl,_⟩:=h
  rfl
 ·obtain⟨ds,rfl,rd,hl,q⟩:=h
  refine rG (cm (pat:=.one 0) rfl zd6 rfl (fun _ _ _ _=>yg (i:=0) zd6.nd rfl (Or.inl rfl)) (uh (cF c na (zd 0 rfl ⟨_,_,rfl,rfl,⟨_,rfl,by rw[zj1];exact hl,?comp⟩⟩))))
  case comp=>
   refine lJ (fun i acc=>acc=ds.take i) rfl ?_ (fun acc h=>?_)
   ·rintro i d acc hd rfl
    rw[zl9,zm9] at hd
    obtain⟨e,he,rfl⟩:=hd
    obtain⟨s',a,b,v,hs,rfl,ei⟩:=xM (cs:=cs) (rd e (zp6 he)).1
    refine⟨_,rfl,fun C s2 H2 fp=>jU ?_⟩
    rw[if_pos rfl]
    refine fun C s2 H2 fp=>qG (O s' hs) hr (zd 0 rfl ⟨_,rfl,rfl,_,_,_,rfl,?_⟩)
    show ds.take i++[_]=ds.take (i+1)
    rw[zp9,he]
    rfl
   ·rw[zj1,zs7] at h
    rw[h]
    exact q
end
def eo :PyData→PyData
 |.tuple [_,_,_,v]=>v
 |_=>.none
theorem uJ {d:PyData}(h:yr d=true):∃(s:Str) (i j:Int) (v:PyData),s∈words∧d=.tuple [.str s,.int i,.int j,v]∧0≤i∧i≤j∧j≤1000000∧zH (.str s) v=true:=by
 obtain⟨s,a,b,v,hs,rfl⟩:=xt h
 have h':(zW (.tuple [a,b])&&zH (.str s) v)=true:=h
 rw[zk3] at h'
 have h1:=h'.1
 unfold zW tL at h1
 split at h1
 ·rename_i k e
  split at e
  ·rename_i z
   cases z
   split at e
   ·rename_i q
    cases e
    rw[zk3] at q
    rename_i a' b'
    have qa:(decide (0≤a')&&decide (a'≤1000000))=true:=q.1
    have qb:(decide (0≤b')&&decide (b'≤1000000))=true:=q.2
    rw[zk3,zl7,zl7] at qa qb
    have h2:=zq9 h1
    exact⟨s,a',b',v,hs,rfl,qa.1,by omega,qb.2,h'.2⟩
   ·cases e
  ·cases e
 ·cases h1
structure sS (d:PyData):Prop where
 rule:yr d=true
 nice:yp 20011 d
 dep:d.depth≤2
 wn:yp 5000 (eo d)
theorem ko {s:Str}(h:s∈words):yp 2000 (.str s):=by
 simp only[words,zj5,zk2,zn2] at h
 rcases h with rfl|rfl|rfl|rfl|rfl|rfl|rfl<;>exact⟨rfl,rfl,zm1 _,by decide +kernel,by decide +kernel⟩
theorem sS.of {s:Str}{i j:Int}{d:PyData}(hs:s∈words)(i0:0≤i)(ij:i≤j)(j1:j≤1000000)(hw:zH (.str s) d=true)(hn:yp 5000 d)(hd:d.depth≤1):sS (.tuple [.str s,.int i,.int j,d]):=by
 have hbig:(1000001:Int)<big:=by decide
 have hneg:-big<(0:Int):=by decide
 have na:zZ 5000 [.str s,.int i,.int j,d]:=by
  constructor
  ·intro x hx
   simp only[zj5,zk2,zn2] at hx
   rcases hx with rfl|rfl|rfl|rfl
   ·exact (ko hs).mono (by decide)
   ·exact (yp.int (by omega) (by omega)).mono (by decide)
   ·exact (yp.int (by omega) (by omega)).mono (by decide)
   ·exact hn
  ·intro x hx
   simp only[zj5,zk2,zn2] at hx
   rcases hx with rfl|rfl|rfl|rfl
   ·exact zm1 _
   ·exact zm1 _
   ·exact zm1 _
   ·omega
 refine⟨?_,yp.tuple na (by show 4*(5000+2)+3≤20011;decide),?_,hn⟩
 ·show (zW (.tuple [.int i,.int j])&&zH (.str s) d)=true
  rw[hw,zu1]
  unfold zW tL
  have h1:(vv (.int i)&&vv (.int j))=true:=by
   show ((decide (0≤i)&&decide (i≤1000000))&&(decide (0≤j)&&decide (j≤1000000)))=true
   simp only[zk3,zl7]
   omega
  simp only[h1,if_true,zl7]
  omega
 ·simp only[PyData.depth,PyData.depthAll]
  omega
abbrev qc :Stmt:=top 48
abbrev rn :Stmt:=top 49
abbrev oQ :Stmt:=top 50
theorem wB (d:PyData):zH (.str "price") d=(isNone d||vg d):=by unfold zH;rw[if_pos (by decide +kernel)]
theorem uv (d:PyData):zH (.str "come") d=isBool d:=by unfold zH;rw[if_neg (by decide +kernel),if_pos (by decide +kernel)]
theorem qk (d:PyData):zH (.str "go") d=isBool d:=by unfold zH;rw[if_neg (by decide +kernel),if_pos (by decide +kernel)]
theorem vW (d:PyData):zH (.str "least") d=zO 1 14 d:=by unfold zH;rw[if_neg (by decide +kernel),if_neg (by decide +kernel),if_pos (by decide +kernel)]
theorem uk (d:PyData):zH (.str "most") d=zO 1 14 d:=by unfold zH;rw[if_neg (by decide +kernel),if_neg (by decide +kernel),if_pos (by decide +kernel)]
theorem vi (d:PyData):zH (.str "deal") d=(isNone d||vU d):=by unfold zH;rw[if_neg (by decide +kernel),if_neg (by decide +kernel),if_neg (by decide +kernel),if_pos (by decide +kernel)]
theorem sg (d:PyData):zH (.str "fee") d=vg d:=by
 unfold zH;rw[if_neg (by decide +kernel),if_neg (by decide +kernel),if_neg (by decide +kernel),if_neg (by decide +kernel)]
 have:eqS (.str "fee") "fee"=true:=by decide +kernel
 rw[this,zo8]
theorem within_int {lo hi i:Int}(h1:lo≤i)(h2:i≤hi):zO lo hi (.int i)=true:=by
 show (decide (lo≤i)&&decide (i≤hi))=true
 rw[zm0 h1,zm0 h2];rfl
theorem vw {i:Int}(h0:-2000000000000≤i)(h1:i≤2000000000000):yp 2000 (.int i):=yp.int (by unfold big;omega) (by unfold big;omega)
def nS :List A→(A→Prop)→Prop:=fun as Q=>as=[.tape]∧∀z:Int,0≤z→z≤1000000000000→Q (.dat (.int z))
def qt :List A→(A→Prop)→Prop:=fun as Q=>∃wd,as=[.tape,.dat (.str wd)]∧wd∈words∧∀d,zH (.str wd) d=true→yp 5000 d→d.depth≤1→Q (.dat d)
def mB :List A→(A→Prop)→Prop:=fun as Q=>∃y:Int,as=[.tape,.dat (.int y)]∧0≤y∧y≤1000000∧∀d,sS d→Q (.dat d)
section
variable {P:Program}{w:World}{K:PySem.W.Frag}{mg:Str→Option Value}{base:Heap}
theorem dF :zf ["_law_row","_law_few","_law_many","_law_great"] ["_law_row"] (za qc):=⟨rfl,rfl,rfl,by decide +kernel,rfl,by decide +kernel,by decide +kernel⟩
set_option maxHeartbeats 4000000 in
theorem kH {f:Addr}{fd:FuncData}(F:Fun K "_law_coins" "_law_coins" qc f fd)(hm:mg "_law_coins"=some (.ref f))(hb:Binds K fd ["_law_row"] [])(CD:Cal P w K mg base "_law_take" 1 wG):Cal P w K mg base "_law_coins" 2 nS:=by
 refine vf F hm hb dF (fun as Q h=>?_) (fun cdv A' outer s H E as Q hr h=>?_)
 ·obtain⟨rfl,_⟩:=h
  rfl
 ·obtain⟨rfl,q⟩:=h
  refine zI 1 dF.nd (zA CD hr (by rfl) (zy 0 rfl (zb (zo (zi (⟨_,rfl,by decide,by decide,fun v1 h1 g1=>?_⟩))))))
  refine zI 2 dF.nd (sO (zo (zA CD hr (by rfl) (zy 0 rfl (zb (zo (zi (⟨_,rfl,by decide,by decide,fun v2 h2 g2=>⟨_,_,rfl,rfl,.inl ⟨by decide,by decide⟩,?_⟩⟩))))))))
  refine zI 3 dF.nd (xl (sO (zA CD hr (by rfl) (zy 0 rfl (zb (yI (r:=1000000) ⟨by decide,by decide,by decide⟩ (by decide) (zi (⟨_,rfl,by decide,by decide,fun v4 h4 g4=>yI (r:=1000000) ⟨by decide,by decide,by decide⟩ (by decide) (⟨_,_,rfl,rfl,.inr ⟨by decide,by decide⟩,zA CD hr (by rfl) (zy 0 rfl (zb (yI (r:=1000000) ⟨by decide,by decide,by decide⟩ (by decide) (zi (⟨_,rfl,by decide,by decide,fun v3 h3 g3=>⟨_,_,rfl,rfl,?_⟩⟩)))))⟩)⟩))))))))
  refine yj (vm (fun _ _=>rfl) (EvL.d (zU (zb (zd 1 rfl (zb (zd 2 rfl (zb (xl (zd 1 rfl (sO (zo (zd 2 rfl (⟨_,_,rfl,rfl,.inl ⟨by decide,by decide⟩,⟨_,_,rfl,rfl,zb (zd 3 rfl (zb (yI (r:=1000000000000) ⟨by decide,by decide,by decide⟩ (by decide) (zi (⟨_,rfl,zj4 rfl,nO (zA CD hr (by rfl) (zy 0 rfl (zb (zo (zi (⟨_,rfl,by decide,by decide,fun v5 h5 g5=>zo (⟨_,_,rfl,rfl,⟨by decide,by decide +kernel⟩,?_⟩)⟩))))))⟩)))))⟩⟩))))))))))))))
  obtain⟨z,hz,e⟩:=vQ (ds:=[PyData.int v1,.int (10*v2),.int (v1+10*(10*v2)),.int (v4*1000000+v3),.int 1000000000000]) (v:=v5 / 2) (by omega) (by show v5 / 2<5;omega)
  refine⟨_,_,z,rfl,rfl,e,?_⟩
  simp only[zj5,zk2,zn2] at hz
  rcases hz with rfl|rfl|rfl|rfl|rfl
  ·exact q _ (by omega) (by omega)
  ·exact q _ (by omega) (by omega)
  ·exact q _ (by omega) (by omega)
  ·exact q _ (by omega) (by omega)
  ·exact q _ (by omega) (by omega)
theorem dH :zf ["_law_row","_law_word","_law_many","_law_free","_law_coins_here"] ["_law_row","_law_word"] (za rn):=⟨rfl,rfl,rfl,by decide +kernel,rfl,by decide +kernel,by decide +kernel⟩
theorem iU (s a b:Str):inD (.str s) [.str a,.str b]=(decide (a=s)||decide (b=s)):=by
 show ((a == s)||((b == s)||false))=_
 rw[zv8]
 by_cases h1:a=s<;>by_cases h2:b=s<;>simp[h1,h2]
set_option maxHeartbeats 4000000 in
theorem lD {f:Addr}{fd:FuncData}(F:Fun K "_law_worth" "_law_worth" rn f fd)(hm:mg "_law_worth"=some (.ref f))(hb:Binds K fd ["_law_row","_law_word"] [])(CD:Cal P w K mg base "_law_take" 1 wG)(CC:Cal P w K mg base "_law_coins" 2 nS):Cal P w K mg base "_law_worth" 3 qt:=by
 refine vf F hm hb dH (fun as Q h=>?_) (fun cdv A' outer s H E as Q hr h=>?_)
 ·obtain⟨wd,rfl,_⟩:=h
  rfl
 ·obtain⟨wd,rfl,hw,q⟩:=h
  have hr1:=hr.mono (show 1≤2 by decide)
  have hbig:(1000001:Int)<big:=by decide
  refine yT (cA (zd 1 rfl (vd (zb (zF (zb (zF (zi (⟨_,rfl,zj4 rfl,⟨_,.inr rfl,rfl,rfl,?_⟩⟩)))))))))
  rw[iU]
  refine yw (fun hc=>?_) (fun hc=>zB ?_)
  ·refine yj (aE (zA CD hr1 (by rfl) (zy 0 rfl (zb (zo (zi (⟨_,rfl,by decide,by decide,fun v1 h1 g1=>zo (⟨_,_,rfl,rfl,?_⟩)⟩)))))))
   refine q _ ?_ ((yp.bool _).mono (by decide)) (zm1 _)
   simp only[zp8,zl7] at hc
   rcases hc with rfl|rfl
   ·rw[uv];rfl
   ·rw[qk];rfl
  simp only[zu8,zo9] at hc
  refine yT (cA (zd 1 rfl (vd (zb (zF (zb (zF (zi (⟨_,rfl,zj4 rfl,⟨_,.inr rfl,rfl,rfl,?_⟩⟩)))))))))
  rw[iU]
  refine yw (fun h2=>?_) (fun h2=>zB ?_)
  ·refine yj (xl (zo (zA CD hr1 (by rfl) (zy 0 rfl (zb (EvD.imp (Q':=fun d=>∃z:Int,d=.int z∧0<z∧z≤14) (vm (fun _ _=>rfl) (EvL.d (zU (zb (zo (zb (zo (zi (⟨_,rfl,zj4 rfl,zA CD hr1 (by rfl) (zy 0 rfl (zb (zo (zi (⟨_,rfl,by decide,by decide,fun v3 h3 g3=>?pick⟩)))))⟩))))))))) ?_))))))
   case pick=>
    obtain⟨z,hz,e⟩:=vQ (ds:=[PyData.int 4,.int 14]) h3 g3
    refine⟨_,_,z,rfl,rfl,e,?_⟩
    simp only[zj5,zk2,zn2] at hz
    rcases hz with rfl|rfl
    ·exact⟨_,rfl,by decide,by decide⟩
    ·exact⟨_,rfl,by decide,by decide⟩
   rintro _ ⟨z,rfl,z0,z1⟩
   refine zi ⟨_,rfl,z0,by omega,fun v2 h2' g2=>⟨_,_,rfl,rfl,?_⟩⟩
   refine q _ ?_ ((vw (by omega) (by omega)).mono (by decide)) (zm1 _)
   simp only[zp8,zl7] at h2
   rcases h2 with rfl|rfl
   ·rw[vW];exact within_int (by omega) (by omega)
   ·rw[uk];exact within_int (by omega) (by omega)
  simp only[zu8,zo9] at h2
  refine yT (gn (zd 1 rfl (zF (⟨_,_,rfl,rfl,?_⟩))))
  refine yw (fun h3=>?_) (fun h3=>zB ?_)
  ·rw[zl7] at h3
   subst h3
   refine zI 2 dH.nd (xl (zo (zA CD hr1 (by rfl) (zy 0 rfl (zb (EvD.imp (Q':=fun d=>∃z:Int,d=.int z∧0<z∧z≤13) (vm (fun _ _=>rfl) (EvL.d (zU (zb (zo (zb (zo (zi (⟨_,rfl,zj4 rfl,zA CD hr1 (by rfl) (zy 0 rfl (zb (zo (zi (⟨_,rfl,by decide,by decide,fun v3 h3 g3=>?pick⟩)))))⟩))))))))) ?_))))))
   case pick=>
    obtain⟨z,hz,e⟩:=vQ (ds:=[PyData.int 3,.int 13]) h3 g3
    refine⟨_,_,z,rfl,rfl,e,?_⟩
    simp only[zj5,zk2,zn2] at hz
    rcases hz with rfl|rfl
    ·exact⟨_,rfl,by decide,by decide⟩
    ·exact⟨_,rfl,by decide,by decide⟩
   rintro _ ⟨z,rfl,z0,z1⟩
   refine zi ⟨_,rfl,z0,by omega,fun v4 h4 g4=>⟨_,_,rfl,rfl,?_⟩⟩
   refine zI 3 dH.nd (xl (zo (zA CD hr1 (by rfl) (zy 0 rfl (zb (rp (zd 2 rfl (zo (⟨_,_,rfl,rfl,zi (⟨_,rfl,by omega,by omega,fun v6 h6 g6=>⟨_,_,rfl,rfl,?_⟩⟩)⟩)))))))))
   refine yj (vm (fun _ _=>rfl) (EvL.d (zU (zb (vd (zb (zd 2 rfl (zb (zd 3 rfl (zi (⟨_,rfl,zj4 rfl,zb (vd (zb (zd 2 rfl (zb (zd 3 rfl (zi (⟨_,rfl,zj4 rfl,zb (vj (zi (⟨_,rfl,zj4 rfl,zA CD hr1 (by rfl) (zy 0 rfl (zb (zo (zi (⟨_,rfl,by decide,by decide,fun v7 h7 g7=>?_⟩)))))⟩)))⟩)))))))⟩)))))))))))
   obtain⟨u,hu,e⟩:=vQ (ds:=[PyData.tuple [.int (2+v4),.int (1+v6)],.tuple [.int (2+v4),.int (1+v6)],.none]) h7 g7
   refine⟨_,_,u,rfl,rfl,e,?_⟩
   have dl:Q (.dat (.tuple [.int (2+v4),.int (1+v6)])):=by
    refine q _ ?_ (yp.tuple (n:=2000) (zZ.two (vw (by omega) (by omega)) (vw (by omega) (by omega)) (zm1 _) (zm1 _)) (by show 2*(2000+2)+3≤5000;decide)) (zj8 _)
    rw[vi]
    show (false||(zO 2 14 (.int (2+v4))&&zO 1 (2+v4-1) (.int (1+v6))))=true
    rw[within_int (by omega) (by omega),within_int (by omega) (by omega)];rfl
   simp only[zj5,zk2,zn2] at hu
   rcases hu with rfl|rfl|rfl
   ·exact dl
   ·exact dl
   ·exact q _ (by rw[vi];rfl) (yp.none.mono (by decide)) (zm1 _)
  rw[zo9] at h3
  have hs:wd="price"∨wd="fee":=by
   simp only[words,zj5,zk2,zn2] at hw
   rcases hw with z|z|z|z|z|z|z
   ·exact .inl z
   ·exact absurd z.symm hc.1
   ·exact absurd z.symm hc.2
   ·exact absurd z.symm h2.1
   ·exact absurd z.symm h2.2
   ·exact absurd z h3
   ·exact .inr z
  refine zI 4 dH.nd (zA CC hr (by rfl) (zy 0 rfl (zi (⟨rfl,fun c8 p8 q8=>?_⟩))))
  have last:Q (.dat (.int c8)):=by
   refine q _ ?_ ((vw (by omega) (by omega)).mono (by decide)) (zm1 _)
   rcases hs with rfl|rfl
   ·rw[wB];show (false||zO 0 1000000000000 (.int c8))=true;rw[within_int p8 q8];rfl
   ·rw[sg];exact within_int p8 q8
  refine yT (EvW.t (jc (gn (zd 1 rfl (zF (⟨_,_,rfl,rfl,?_⟩))))))
  refine yt (fun h9=>?_) (fun h9=>?_)
  ·rw[zl7] at h9
   subst h9
   refine ma (ba (zA CD hr1 (by rfl) (zy 0 rfl (zb (zo (zi (⟨_,rfl,by decide,by decide,fun v9 h9 g9=>zo (⟨_,_,rfl,rfl,?_⟩)⟩)))))))
   refine rT (fun _=>yj (vj ?_)) (fun _=>zB (yj (zd 4 rfl last)))
   exact q _ (by rw[wB];rfl) (yp.none.mono (by decide)) (zm1 _)
  ·exact yw (fun z=>nomatch z) (fun _=>zB (yj (zd 4 rfl last)))
theorem fg :zf ["_law_row","_law_day","_law_word","_law_ahead","_law_first","_law_last"] ["_law_row","_law_day"] (za oQ):=⟨rfl,rfl,rfl,by decide +kernel,rfl,by decide +kernel,by decide +kernel⟩
set_option maxHeartbeats 8000000 in
theorem gO {f:Addr}{fd:FuncData}(F:Fun K "_law_rule" "_law_rule" oQ f fd)(hm:mg "_law_rule"=some (.ref f))(hb:Binds K fd ["_law_row","_law_day"] [])(nb:NbT mg)(CD:Cal P w K mg base "_law_take" 1 wG)(CW:Cal P w K mg base "_law_worth" 3 qt):Cal P w K mg base "_law_rule" 4 mB:=by
 refine vf F hm hb fg (fun as Q h=>?_) (fun cdv A' outer s H E as Q hr h=>?_)
 ·obtain⟨y,rfl,_⟩:=h
  rfl
 ·obtain⟨y,rfl,y0,y1,q⟩:=h
  have hr1:=hr.mono (show 1≤3 by decide)
  refine zI 2 fg.nd (EvD.imp (Q':=fun d=>∃x,d=.str x∧x∈words) (vm (fun _ _=>rfl) (EvL.d (zU (zb (zF (zb (zF (zb (zF (zb (zF (zb (zF (zb (zF (zb (zF (zb (zF (zb (zF (zi (⟨_,rfl,zj4 rfl,zA CD hr1 (by rfl) (zy 0 rfl (zb (zo (zi (⟨_,rfl,by decide,by decide,fun v1 h1 g1=>?pick⟩)))))⟩))))))))))))))))))))))) ?_)
  case pick=>
   obtain⟨z,hz,e⟩:=vQ (ds:=[PyData.str "price",.str "price",.str "price",.str "come",.str "go",.str "least",.str "most",.str "deal",.str "fee"]) h1 g1
   refine⟨_,_,z,rfl,rfl,e,?_⟩
   simp only[zj5,zk2,zn2] at hz
   rcases hz with rfl|rfl|rfl|rfl|rfl|rfl|rfl|rfl|rfl<;>exact⟨_,rfl,by simp[words]⟩
  rintro _ ⟨wd,rfl,hw⟩
  refine zI 3 fg.nd (EvD.imp (Q':=fun d=>∃z:Int,d=.int z) (vm (fun _ _=>rfl) (EvL.d (zU (zb (rp (zA CD hr1 (by rfl) (zy 0 rfl (zb (zo (zi (⟨_,rfl,by decide,by decide,fun v4 h4 g4=>zo (⟨_,_,rfl,rfl,zb (zA CD hr1 (by rfl) (zy 0 rfl (zb (zo (zi (⟨_,rfl,by decide,by decide,fun v3 h3 g3=>zb (iY (zd 1 rfl (⟨_,rfl,zb (zo (zi (⟨_,rfl,zj4 rfl,zA CD hr1 (by rfl) (zy 0 rfl (zb (zo (zi (⟨_,rfl,by decide,by decide,fun v2 h2 g2=>?pick⟩)))))⟩)))⟩)))⟩))))))⟩)⟩))))))))))) ?_)
  case pick=>
   obtain⟨z,hz,e⟩:=vQ (ds:=[PyData.int (v4-3),.int v3,.int (-y),.int 0]) h2 g2
   refine⟨_,_,z,rfl,rfl,e,?_⟩
   simp only[zj5,zk2,zn2] at hz
   rcases hz with rfl|rfl|rfl|rfl<;>exact⟨_,rfl⟩
  rintro _ ⟨ah,rfl⟩
  refine pI (fun α=>∃fi:Int,0≤fi∧fi≤1000000∧α=[some .tape,some (.dat (.int y)),some (.dat (.str wd)),some (.dat (.int ah)),some (.dat (.int fi)),none]) ?_ ?_
  ·refine zI 4 fg.nd (oC rfl (by rfl) nb.min (yI (r:=1000000) ⟨by decide,by decide,by decide⟩ (by decide) (kQ rfl (by rfl) nb.max (zo (xl (zd 1 rfl (zd 3 rfl (⟨_,_,rfl,rfl,⟨_,_,rfl,rfl,⟨_,_,rfl,rfl,zB ⟨_,?_,?_,rfl⟩⟩⟩⟩))))))))
   ·split<;>split<;>omega
   ·split<;>split<;>omega
  rintro α ⟨fi,f0,f1,rfl⟩
  refine pI (fun α=>∃la:Int,fi≤la∧α=[some .tape,some (.dat (.int y)),some (.dat (.str wd)),some (.dat (.int ah)),some (.dat (.int fi)),some (.dat (.int la))]) ?_ ?_
  ·refine zI 5 fg.nd (xl (zd 4 rfl (EvD.imp (Q':=fun d=>∃z:Int,d=.int z∧0≤z) (vm (fun _ _=>rfl) (EvL.d (zU (zb (zo (zb (zA CD hr1 (by rfl) (zy 0 rfl (zb (zo (zi (⟨_,rfl,by decide,by decide,fun v7 h7 g7=>zb (zA CD hr1 (by rfl) (zy 0 rfl (zb (zo (zi (⟨_,rfl,by decide,by decide,fun v6 h6 g6=>zb (zo (zb (yI (r:=1000000) ⟨by decide,by decide,by decide⟩ (by decide) (zi (⟨_,rfl,zj4 rfl,zA CD hr1 (by rfl) (zy 0 rfl (zb (zo (zi (⟨_,rfl,by decide,by decide,fun v5 h5 g5=>?pick⟩)))))⟩)))))⟩))))))⟩)))))))))))) ?_)))
   case pick=>
    obtain⟨z,hz,e⟩:=vQ (ds:=[PyData.int 0,.int v7,.int v6,.int 60,.int 1000000]) h5 g5
    refine⟨_,_,z,rfl,rfl,e,?_⟩
    simp only[zj5,zk2,zn2] at hz
    rcases hz with rfl|rfl|rfl|rfl|rfl<;>exact⟨_,rfl,by omega⟩
   rintro _ ⟨z,rfl,z0⟩
   exact⟨_,_,rfl,rfl,zB ⟨fi+z,by omega,rfl⟩⟩
  rintro α ⟨la,hla,rfl⟩
  refine yj (vd (zb (zd 2 rfl (zb (zd 4 rfl (zb (oC rfl (by rfl) nb.min (yI (r:=1000000) ⟨by decide,by decide,by decide⟩ (by decide) (zd 5 rfl (⟨_,_,rfl,rfl,zb (zA CW hr (by rfl) (zy 0 rfl (zb (zd 2 rfl (zi (⟨_,rfl,hw,fun d8 a8 b8 c8=>zi (⟨_,rfl,zj4 rfl,?_⟩)⟩))))))⟩))))))))))
  refine q _ (sS.of hw f0 ?_ ?_ a8 b8 c8)
  ·split<;>omega
  ·split<;>omega
end
end K24
set_option compiler.extract_closed false
set_option hygiene false in
local macro_rules
 |`(tactic| exists $f,$a)=>`(tactic| first|refine $f 0 $a ?_|refine $f 1 $a ?_|refine $f 2 $a ?_|refine $f 3 $a ?_|refine $f 4 $a ?_|refine $f 5 $a ?_|refine $f 6 $a ?_|refine $f 7 $a ?_|refine $f 8 $a ?_|refine $f 9 $a ?_|refine $f 10 $a ?_|refine $f 11 $a ?_|refine $f 12 $a ?_|refine $f 13 $a ?_|refine $f 14 $a ?_|refine $f 15 $a ?_|refine $f 16 $a ?_|refine $f 17 $a ?_)
set_option hygiene false in
local macro_rules
 |`(tactic| and_intros)=>`(tactic| repeat (first
  |((with_reducible show EvD _ _ _ _);first
   |((with_reducible show EvD _ _ (.Name _ _) _);exists zd,rfl)
   |((with_reducible show EvD _ _ (.Call (.Name "str" _) _ _ _) _);refine eX (by rfl) nb.str ?_)
   |((with_reducible show EvD _ _ (.Call (.Name "len" _) [.Name "_law_word" _] _ _) _);refine nD (by rfl) nb.len ?_)
   |((with_reducible show EvD _ _ (.Call (.Name "len" _) [.Name "_law_text" _] _ _) _);refine nD (by rfl) nb.len ?_)
   |((with_reducible show EvD _ _ (.Call (.Name "tuple" _) _ _ _) _);refine dm (by rfl) nb.tuple ?_)
   |((with_reducible show EvD _ _ (.Call (.Attribute _ "join" _) _ _ _) _);refine mD ?_)
   |((with_reducible show EvD _ _ (.Call (.Attribute _ "split" _) _ _ _) _);refine EvL.d (uX ?_))
   |((with_reducible show EvD _ _ (.Constant _ _ _) _);first|with_reducible refine zo ?_|with_reducible refine zF ?_|with_reducible refine cb ?_|with_reducible refine vj ?_)
   |((with_reducible show EvD _ _ (.BinOp (.Constant (.int 10) _ _) .Pow (.Constant (.int 6) _ _) _) _);refine yI (r:=1000000) ⟨by decide,by decide,by decide⟩ (by decide) ?_)
   |((with_reducible show EvD _ _ (.BinOp (.Constant (.int 10) _ _) .Pow (.Constant (.int 12) _ _) _) _);refine yI (r:=1000000000000) ⟨by decide,by decide,by decide⟩ (by decide) ?_)
   |((with_reducible show EvD _ _ (.BinOp (.Constant (.int 10) _ _) .Pow (.Constant (.int 9) _ _) _) _);refine yI (r:=1000000000) ⟨by decide,by decide,by decide⟩ (by decide) ?_)
   |((with_reducible show EvD _ _ (.BinOp (.Constant (.int 10) _ _) .Pow (.Constant (.int 11) _ _) _) _);refine yI (r:=100000000000) ⟨by decide,by decide,by decide⟩ (by decide) ?_)
   |((with_reducible show EvD _ _ (.BinOp _ .Add (.List _ _) _) _);refine EvL.d (el_cat ?_))
   |((with_reducible show EvD _ _ (.BinOp (.List _ _) .Add _ _) _);refine EvL.d (el_cat ?_))
   |((with_reducible show EvD _ _ (.BinOp (.Subscript _ (.Slice _ _ none _) _) .Add _ _) _);refine EvL.d (el_cat ?_))
   |((with_reducible show EvD _ _ (.BinOp _ .Add (.Subscript _ (.Slice _ _ none _) _) _) _);refine EvL.d (el_cat ?_))
   |((with_reducible show EvD _ _ (.BinOp (.Call (.Attribute _ "rules" _) _ _ _) .Add _ _) _);refine EvL.d (el_cat ?_))
   |with_reducible refine xl ?_
   |with_reducible refine rp ?_
   |with_reducible refine ff ?_
   |with_reducible refine nO ?_
   |with_reducible refine sO ?_
   |with_reducible refine ev_shl ?_
   |with_reducible refine iY ?_
   |with_reducible refine bG ?_
   |with_reducible refine vd ?_
   |((with_reducible show EvD _ _ (.Subscript _ (.Slice _ _ none _) _) _);refine EvL.d (gS ?_))
   |((with_reducible show EvD _ _ (.Subscript _ _ _) _);refine oE hr.one (fun _ _=>rfl) ?_)
   |((with_reducible show EvD _ _ (.List _ _) _);refine EvL.d (zU ?_))
   |((with_reducible show EvD _ _ (.Call (.Name "len" _) [.Call (.Name "set" _) _ _ _] _ _) _);refine ev_lenSet rfl (by rfl) nb.len (by rfl) (by assumption) ?_)
   |((with_reducible show EvD _ _ (.Call (.Name "len" _) _ _ _) _);refine rQ (by rfl) nb.len ?_)
   |((with_reducible show EvD _ _ (.Call (.Name "min" _) [_,_] _ _) _);refine oC rfl (by rfl) nb.min ?_)
   |((with_reducible show EvD _ _ (.Call (.Name "max" _) [_,_] _ _) _);refine kQ rfl (by rfl) nb.max ?_)
   |((with_reducible show EvD _ _ (.Call (.Name "list" _) _ _ _) _);refine EvL.d (el_list (by rfl) nb.list ?_))
   |((with_reducible show EvD _ _ (.Call (.Name "repr" _) _ _ _) _);refine ev_repr hr.gd hr.units (by rfl) nb.repr ?_)
   |((with_reducible show EvD _ _ (.Call (.Name "min" _) [_] _ _) _);refine ev_minI rfl hr.few (by rfl) nb.min ?_)
   |((with_reducible show EvD _ _ (.Call (.Name "isinstance" _) _ _ _) _);first|refine uO (by rfl) nb.isinstance (by rfl) nb.int boot_int ?_|refine uO (by rfl) nb.isinstance (by rfl) nb.bool boot_bool ?_|refine uO (by rfl) nb.isinstance (by rfl) nb.str boot_str ?_|refine uO (by rfl) nb.isinstance (by rfl) nb.list boot_list ?_|refine uO (by rfl) nb.isinstance (by rfl) nb.tuple boot_tuple ?_)
   |((with_reducible show EvD _ _ (.Call (.Name "int" _) _ _ _) _);refine mi (by rfl) nb.int ?_)
   |((with_reducible show EvD _ _ (.Call (.Name _ _) _ _ _) _);first|refine fO (by with_reducible assumption) (by exact⟨rfl,rfl,rfl,rfl,rfl⟩) (hr.mono (by decide)) (by rfl) ?_|refine EvN.d (en_makeR (by with_reducible assumption) (by exact⟨rfl,rfl,rfl,rfl,rfl⟩) (hr.mono (by decide)) (by rfl) ?_))
   |((with_reducible show EvD _ _ (.Call (.Attribute _ _ _) (_::_) _ _) _);refine jl (by with_reducible assumption) (by exact⟨rfl,rfl,rfl,rfl,rfl⟩) (hr.mono (by decide)) ?_)
   |((with_reducible show EvD _ _ (.Call (.Attribute _ _ _) [] _ _) _);refine lM (by with_reducible assumption) (by exact⟨rfl,rfl,rfl,rfl,rfl⟩) (hr.mono (by decide)) ?_)
   |((with_reducible show EvD _ _ (.Compare _ [_] _ _) _);first|with_reducible refine ev_lt ?_|with_reducible refine ev_le ?_|with_reducible refine ev_gt ?_|with_reducible refine ev_ge ?_|with_reducible refine ev_isN ?_|with_reducible refine ev_notN ?_|((with_reducible show EvD _ _ (.Compare _ [.Eq] _ _) _);refine bc hr.units ?_)|((with_reducible show EvD _ _ (.Compare _ [.NotEq] _ _) _);refine hZ hr.units ?_)|((with_reducible show EvD _ _ (.Compare _ [.In] _ _) _);refine ev_ink hr.one ?_)|((with_reducible show EvD _ _ (.Compare _ [.NotIn] _ _) _);refine ev_nink hr.one ?_)|((with_reducible show EvD _ _ (.Compare _ [.Is] [.Constant (.bool _) _ _] _) _);refine ev_isT ?_))
   |((with_reducible show EvD _ _ (.Compare _ [_,_] _ _) _);first|refine ev_lelt ?_|refine ev_ltle ?_|refine ev_lele' ?_)
   |((with_reducible show EvD _ _ (.BoolOp _ _ _) _);first|with_reducible refine aJ ?_|with_reducible refine za2 ?_|with_reducible refine iX ?_)
   |with_reducible refine rS ?_)
  |((with_reducible show EvA _ _ _ _);first
   |with_reducible refine zi ?_
   |((with_reducible show EvA _ _ (.Name "_law_row" _::_) _);exists zy,rfl)
   |refine zb ?_)
  |((with_reducible show EvT _ _ _ _);first
   |((with_reducible show EvT _ _ (.Compare _ [_] _ _) _);first|with_reducible refine gk ?_|with_reducible refine et_le ?_|with_reducible refine hV ?_|with_reducible refine cE ?_|with_reducible refine wI ?_|with_reducible refine fz ?_|((with_reducible show EvT _ _ (.Compare _ [.Eq] _ _) _);refine ax hr.units ?_)|((with_reducible show EvT _ _ (.Compare _ [.NotEq] _ _) _);refine bQ hr.units ?_)|((with_reducible show EvT _ _ (.Compare _ [.In] _ _) _);refine et_ink hr.one ?_)|((with_reducible show EvT _ _ (.Compare _ [.NotIn] _ _) _);refine et_nink hr.one ?_)|((with_reducible show EvT _ _ (.Compare _ [.Is] [.Constant (.bool _) _ _] _) _);refine bE ?_)|((with_reducible show EvT _ _ (.Compare _ [.IsNot] [.Constant (.bool _) _ _] _) _);refine et_isntB ?_))
   |((with_reducible show EvT _ _ (.Compare _ [_,_] _ _) _);first|refine et_lelt ?_|refine et_ltle ?_|refine et_lele' ?_)
   |with_reducible refine oX ?_
   |((with_reducible show EvT _ _ (.BoolOp _ _ _) _);with_reducible refine EvW.t ?_)
   |refine jx ?_)
  |((with_reducible show EvL _ _ _ _);first
   |with_reducible refine zU ?_
   |((with_reducible show EvL _ _ (.Call (.Name "list" _) _ _ _) _);refine el_list (by rfl) nb.list ?_)
   |((with_reducible show EvL _ _ (.Call (.Name _ _) _ _ _) _);refine el_calR (by with_reducible assumption) (by exact⟨rfl,rfl,rfl,rfl,rfl⟩) (hr.mono (by decide)) (by rfl) ?_)
   |((with_reducible show EvL _ _ (.Call (.Attribute _ _ _) [] _ _) _);refine el_meth0R (by with_reducible assumption) (by exact⟨rfl,rfl,rfl,rfl,rfl⟩) (hr.mono (by decide)) ?_)
   |((with_reducible show EvL _ _ (.Subscript _ (.Slice _ _ none _) _) _);refine gS ?_)
   |((with_reducible show EvL _ _ (.BinOp _ .Add _ _) _);refine el_cat ?_))
  |((with_reducible show EvW _ _ _ _);first
   |with_reducible refine jc ?_
   |with_reducible refine qu ?_
   |with_reducible refine ma ?_
   |with_reducible refine bj ?_)
  |((with_reducible show EvO _ _ _ _);first
   |with_reducible refine rD ?_
   |with_reducible refine sZ ?_)
  |((with_reducible show dU _ _ _);first
   |refine ixk rfl rfl rfl ?_
   |refine ixk_0 ?_
   |refine ixk_1 ?_)
  |((with_reducible show InOk _ _ _ _);first
   |refine ink rfl rfl ?_
   |refine ink_hind ?_
   |refine inkT rfl rfl ?_)
  |((with_reducible show tK _ _ _);first
   |with_reducible refine ej ?_
   |with_reducible refine dy ?_
   |with_reducible refine gr ?_
   |refine eqk rfl rfl rfl rfl ?_)
  |((with_reducible show SvS _ _ _ _);first
   |((with_reducible show SvS _ (List.set _ _ _) _ _);dsimp only[List.set])
   |((with_reducible show SvS _ _ (zv _) _);show SvS _ _ (_::_) _)
   |((with_reducible show SvS _ _ (.Assign [.Name _ _] (.List [] _) _::_) _);exists xu,nd)
   |((with_reducible show SvS _ _ (.Assign [.Name _ _] _ _::_) _);exists zI,nd)
   |((with_reducible show SvS _ _ (.Expr (.Call (.Attribute _ "append" _) _ _ _) _::_) _);exists yJ,rfl)
   |((with_reducible show SvS _ _ (.Return (some (.Name _ _)) _::_) _);exists nZ,rfl)
   |with_reducible refine yj ?_
   |with_reducible refine sv_cont ?_
   |with_reducible refine sv_pass ?_
   |with_reducible refine yT ?_
   |with_reducible refine zB ?_
   |((with_reducible refine ym ?hk ?_);case hk=>first|rfl|decide +kernel)
   |((with_reducible refine yv ?hk ?_);case hk=>first|rfl|decide +kernel))
  |((with_reducible show wG _ _);refine⟨_,rfl,by first|decide|omega,by first|decide|(show _<big;unfold big;omega),fun _ _ _=>?_⟩)
  |((with_reducible refine su ?hk ?_);case hk=>first|rfl|decide +kernel)
  |((with_reducible refine tw ?hk ?_);case hk=>first|rfl|decide +kernel)
  |refine⟨_,_,rfl,rfl,?_⟩
  |refine⟨_,_,_,rfl,rfl,rfl,?_⟩
  |refine⟨_,rfl,zj4 rfl,?_⟩
  |refine⟨_,rfl,rfl,?_⟩
  |refine⟨_,rfl,?_⟩))
namespace K24
open PySem PySem.Spec PyProof.Rows L2
abbrev pO :Stmt:=top 37
abbrev pM :Stmt:=top 38
abbrev jE :Stmt:=top 39
abbrev iz :Stmt:=top 40
abbrev bY :Stmt:=top 41
abbrev br :Stmt:=top 42
inductive WOk :Str→PyData→Prop
 |non {s:Str}:(s="price"∨s="deal")→WOk s .none
 |bl {s:Str} (b:Bool):(s="come"∨s="go")→WOk s (.bool b)
 |int {s:Str} (n:Nat):s≠"come"→s≠"go"→s≠"deal"→n≤1000000000000→WOk s (.int n)
 |deal (a b:Nat):a≤14→b≤14→WOk "deal" (.tuple [.int a,.int b])
def yf :PyData→List Str
 |.none=>["none"]
 |.bool b=>[if b then "yes" else "no"]
 |.int n=>[fig n.toNat]
 |.tuple [.int a,.int b]=>[fig a.toNat,fig b.toNat]
 |_=>[]
def tf (v:PyData):Str:=Txt.join " " (yf v)
def ui (s:Str)(i j:Nat)(v:PyData):Str:=Txt.join " " (s::fig i::fig j::yf v)
theorem jM {ts:List Str}(h:∀t∈ts,t.length≤100)(hl:ts.length≤20):JoinOk " " ts=true:=by
 unfold JoinOk Builtin.Str.tooLong
 rw[StrLaws.joinTotal,zt8,zo9]
 have e:(" ":Str).length=1:=by decide +kernel
 have hs:(ts.map (·.length)).sum≤ts.length*100:=by
  clear hl
  induction ts with
  |nil=>exact zj8 _
  |cons x r ih=>
   have h1:=h x (zk0 ..)
   have h2:=ih fun t ht=>h t (zj7 _ ht)
   simp only[zm8,zw2,zk5]
   omega
 have:20*100+20*1≤sizeLine:=by decide
 rw[e]
 omega
theorem xA {n:Nat}(h:n≤1000000000000):(fig n).length≤13:=dn (by decide) (by omega)
theorem wQ {n:Nat}(h:n≤1000000000000):((n:Int)).natAbs.log2<1920:=by
 have e:((n:Int)).natAbs=n:=by omega
 rw[e]
 by_cases z:n=0
 ·subst z;decide
 ·exact (zv6 z).mpr (Nat.lt_of_le_of_lt h (zl1 (show 1000000000000<2 ^ 40 by decide) (Nat.pow_le_pow_right (by decide) (by decide))))
theorem lN {s:Str}(h:s∈words):s.length≤100:=by
 simp only[words,zj5,zk2,zn2] at h
 rcases h with rfl|rfl|rfl|rfl|rfl|rfl|rfl<;>decide +kernel
theorem vk {s:Str}{v:PyData}(h:WOk s v):(∀t∈yf v,t.length≤50)∧(yf v).length≤2:=by
 cases h with
 |non _=>exact⟨fun t ht=>by rw[zk7.mp ht];decide +kernel,by decide⟩
 |bl b _=>exact⟨fun t ht=>by rw[zk7.mp ht];cases b<;>decide +kernel,by cases b<;>decide⟩
 |int n _ _ _ hn=>exact⟨fun t ht=>by rw[zk7.mp ht];exact zl2 (xA (by omega)) (by decide),by show 1≤2;decide⟩
 |deal a b ha hb=>
  refine⟨fun t ht=>?_,by show 2≤2;decide⟩
  rcases zj5.mp ht with rfl|ht
  ·exact zl2 (xA (by omega)) (by decide)
  ·rw[zk7.mp ht];exact zl2 (xA (by omega)) (by decide)
def nI :List A→(A→Prop)→Prop:=fun as Q=>∃s v,as=[.dat v]∧WOk s v∧Q (.dat (.str (tf v)))
def md :List A→(A→Prop)→Prop:=fun as Q=>∃(s:Str) (i j:Nat) (v:PyData),as=[.dat (.tuple [.str s,.int i,.int j,v])]∧s∈words∧i≤1000000∧j≤1000000∧WOk s v∧Q (.dat (.str (ui s i j v)))
section
variable {P:Program}{w:World}{K:PySem.W.Frag}{mg:Str→Option Value}{base:Heap}
theorem zh4 :zf ["worth"] ["worth"] (za pO):=⟨rfl,rfl,rfl,by decide +kernel,rfl,by decide +kernel,by decide +kernel⟩
theorem kE {f:Addr}{fd:FuncData}(F:Fun K "worth_text" "worth_text" pO f fd)(hm:mg "worth_text"=some (.ref f))(hb:Binds K fd ["worth"] [])(nb:NbT mg):Cal P w K mg base "worth_text" 1 nI:=by
 refine vf F hm hb zh4 (fun as Q h=>?_) (fun cdv A' outer s H E as Q hr h=>?_)
 ·obtain⟨s,v,rfl,_⟩:=h
  rfl
 ·obtain⟨x,v,rfl,hv,q⟩:=h
  cases hv with
  |non _=>and_intros;exact q
  |bl b _=>
   and_intros
   cases b with
   |true=>refine ym rfl ?_;and_intros;exact q
   |false=>refine yv rfl ?_;and_intros;exact q
  |int n _ _ _ hn=>
   and_intros
   exact⟨wQ hn,q⟩
  |deal a b ha hb=>
   and_intros
   refine EvL.d (pS ["number"] [none] (.one 0) (bb (zd 0 rfl ⟨_,rfl,zj4 rfl,?_⟩)))
   refine wN (l:=[a,b]) (g:=fun n:Nat=>.int n) (fun n=>.str (fig n)) (fun n hn=>⟨_,rfl,fun C s2 H2 fp Q h=>?_⟩) ?_
   ·and_intros
    refine⟨wQ ?_,h⟩
    simp only[zj5,zk2,zn2] at hn
    omega
   ·exact⟨[fig a,fig b],rfl,jM (fun t ht=>zl2 ((vk (.deal a b ha hb)).1 t ht) (by decide)) (by show 2≤20;decide),q⟩
theorem zi7 :zf ["rule"] ["rule"] (za pM):=⟨rfl,rfl,rfl,by decide +kernel,rfl,by decide +kernel,by decide +kernel⟩
theorem kn {s:Str}{v:PyData}(h:WOk s v)(a b c:Str):Txt.join " " [a,b,c,tf v]=Txt.join " " (a::b::c::yf v):=by
 unfold tf
 show Builtin.Str.glued _ _=Builtin.Str.glued _ _
 cases h<;>first
  |rfl
  |(rw[zn8,zn8];rfl)
theorem lZ {s:Str}{v:PyData}(h:WOk s v):(tf v).length≤100:=by
 have e:(" ":Str).length=1:=by decide +kernel
 unfold tf
 rw[show Txt.join " " (yf v)=Str.join " " (yf v) from zn8 _ _]
 have h1:=zr7 " " (yf v)
 obtain⟨h2,h3⟩:=vk h
 rw[e] at h1
 have:((yf v).map (·.length)).sum≤50*(yf v).length:=by
  clear h1 h3 h
  generalize yf v=l at h2
  induction l with
  |nil=>exact zj8 _
  |cons x r ih=>
   have g1:=h2 x (zk0 ..)
   have g2:=ih fun t ht=>h2 t (zj7 _ ht)
   simp only[zm8,zw2,zk5]
   omega
 have:(yf v).length≤1∨(yf v).length=2:=by omega
 cases h with
 |non _=>decide +kernel
 |bl b _=>cases b<;>decide +kernel
 |int n _ _ _ hn=>exact zl2 (xA (by omega)) (by decide)
 |deal a b ha hb=>
  have f1:(fig a).length≤13:=xA (by omega)
  have f2:(fig b).length≤13:=xA (by omega)
  have:(Str.join " " [fig a,fig b]).length≤13+13+2:=by
   have h1:=zr7 " " [fig a,fig b]
   simp only[zm8,zw2,zk5,List.map_nil,List.sum_nil,List.length_nil] at h1
   rw[e] at h1
   omega
  exact zl2 this (by decide)
theorem lH {f:Addr}{fd:FuncData}(F:Fun K "rule_text" "rule_text" pM f fd)(hm:mg "rule_text"=some (.ref f))(hb:Binds K fd ["rule"] [])(nb:NbT mg)(CWT:Cal P w K mg base "worth_text" 1 nI):Cal P w K mg base "rule_text" 2 md:=by
 refine vf F hm hb zi7 (fun as Q h=>?_) (fun cdv A' outer s H E as Q hr h=>?_)
 ·obtain⟨s,i,j,v,rfl,_⟩:=h
  rfl
 ·obtain⟨x,i,j,v,rfl,hx,hi,hj,hv,q⟩:=h
  and_intros
  refine⟨wQ (by omega),?_⟩
  and_intros
  refine⟨wQ (by omega),?_⟩
  and_intros
  refine⟨x,v,rfl,hv,?_⟩
  and_intros
  refine⟨[x,fig i,fig j,tf v],rfl,jM (fun t ht=>?_) (by show 4≤20;decide),?_⟩
  ·simp only[zj5,zk2,zn2] at ht
   rcases ht with rfl|rfl|rfl|rfl
   ·exact lN hx
   ·exact zl2 (xA (by omega)) (by decide)
   ·exact zl2 (xA (by omega)) (by decide)
   ·exact lZ hv
  ·show Q (.dat (.str (Txt.join " " [x,fig i,fig j,tf v])))
   rw[kn hv]
   exact q
end
def sY (c:Nat):Bool:=decide (48≤c)&&decide (c≤57)
def Asc (w:Str):Prop:=w.cps.all (·<128)=true
def kJ (w:Str):Bool:=!decide (w="")&&(w.cps.toList.all sY&&(decide (w="0")||!decide (w.cps.toList.head?=some 48)))
def zP (w:Str):PyData:=if kJ w then .int (PySem.NumText.digitsVal w.cps.toList:Nat) else .none
theorem Asc.lt {w:Str}(h:Asc w){c:Nat}(hc:c∈w.cps.toList):c<128:=by
 unfold Asc at h
 rw[zv7] at h
 exact zq9 (h c (zs4.mp hc))
theorem eD {c:Nat}(h:c<128):(!(Builtin.Str.occurrences ("0123456789":Str) ⟨#[c]⟩ 0 ("0123456789":Str).length 1).isEmpty)=sY c:=by
 have:∀c:Fin 128,(!(Builtin.Str.occurrences ("0123456789":Str) ⟨#[c.1]⟩ 0 ("0123456789":Str).length 1).isEmpty)=sY c.1:=by decide +kernel
 exact this ⟨c,h⟩
def iB :List A→(A→Prop)→Prop:=fun as Q=>∃w:Str,as=[.dat (.str w)]∧Asc w∧w.length≤600∧Q (.dat (.bool (kJ w)))
def nc :List A→(A→Prop)→Prop:=fun as Q=>∃w:Str,as=[.dat (.str w)]∧Asc w∧w.length≤600∧Q (.dat (zP w))
section
variable {P:Program}{w:World}{K:PySem.W.Frag}{mg:Str→Option Value}{base:Heap}
theorem zg3 :zf ["word"] ["word"] (za jE):=⟨rfl,rfl,rfl,by decide +kernel,rfl,by decide +kernel,by decide +kernel⟩
theorem fk {f:Addr}{fd:FuncData}(F:Fun K "is_number_text" "is_number_text" jE f fd)(hm:mg "is_number_text"=some (.ref f))(hb:Binds K fd ["word"] [])(nb:NbT mg)(gF:∃t,mg "FIGURES"=some (.str "0123456789" t)):Cal P w K mg base "is_number_text" 1 iB:=by
 refine vf F hm hb zg3 (fun as Q h=>?_) (fun cdv A' outer s H E as Q hr h=>?_)
 ·obtain⟨n,rfl,_⟩:=h
  rfl
 ·obtain⟨x,rfl,hx,hl,q⟩:=h
  have h6:600≤sizeLine:=by decide
  unfold kJ at q
  and_intros
  by_cases e:x=""
  ·refine su (zm0 e) ?_
   rw[zm0 e] at q
   and_intros
   exact q
  refine tw (zl5 e) ?_
  rw[zl5 e] at q
  and_intros
  refine bH rfl (by rfl) nb.all (EvL.d (pS ["sign"] [none] (.one 0) (cK (zd 0 rfl ⟨_,rfl,hx,?_⟩))))
  have hl2:(sgn x).length≤1000:=by
   unfold sgn
   rw[zj1]
   exact zl2 hl (by decide)
  refine⟨hl2,?_⟩
  refine wN (l:=x.cps.toList) (g:=fun c=>.str ⟨#[c]⟩) (fun c=>.bool (sY c)) (fun c hc=>⟨_,rfl,fun C s2 H2 fp Q h=>?_⟩) ?_
  ·refine cP (zd 0 rfl (ik (by rfl) gF ⟨_,_,rfl,rfl,?_⟩))
   rw[eD (hx.lt hc)]
   exact h
  refine⟨x.cps.toList.map sY,by rw[zv1,List.map_map];rfl,?_⟩
  rw[show (x.cps.toList.map sY).all id=x.cps.toList.all sY from by rw[List.all_map];rfl]
  cases ha:x.cps.toList.all sY with
  |false=>
   rw[ha] at q
   and_intros
   exact q
  |true=>
   rw[ha] at q
   and_intros
   by_cases z:x="0"
   ·refine su (zm0 z) ?_
    rw[zm0 z] at q
    exact q
   ·refine tw (zl5 z) ?_
    rw[zl5 z] at q
    cases e1:x.cps.toList with
    |nil=>exact absurd (yX (e1.trans (by decide +kernel))) e
    |cons c r=>
     refine iX (hZ hr.units (bp (fun _ _=>rfl) (zd 0 rfl (zo ⟨_,_,c,rfl,rfl,by omega,by rw[e1];exact wR (j:=0) rfl,?_⟩))))
     and_intros
     rw[e1] at q
     have e:decide ((⟨#[c]⟩:Str)="0")=decide (List.head? (c::r)=some 48):=by
      have z:("0":Str).cps.toList=[48]:=by decide +kernel
      by_cases hc:c=48
      ·subst hc
       exact (zm0 (yX z.symm)).trans (zm0 rfl).symm
      ·exact (zl5 fun e=>hc (zu0 ((congrArg (·.cps.toList) e).trans z)).1).trans (zl5 fun e=>hc (zl3 e)).symm
     rw[e]
     exact q
theorem jQ {x:Str}(h:kJ x=true):PySem.NumText.AllDigits x.cps.toList∧x.cps.toList≠[]:=by
 unfold kJ at h
 simp only[zk3,zt8,zo9,zq2] at h
 refine⟨fun c hc=>?_,fun e=>h.1 (yX (e.trans (by decide +kernel)))⟩
 have:=h.2.1 c hc
 unfold sY at this
 rw[zk3,zl7,zl7] at this
 exact this
theorem zi3 :zf ["word"] ["word"] (za iz):=⟨rfl,rfl,rfl,by decide +kernel,rfl,by decide +kernel,by decide +kernel⟩
theorem kT {f:Addr}{fd:FuncData}(F:Fun K "number_by" "number_by" iz f fd)(hm:mg "number_by"=some (.ref f))(hb:Binds K fd ["word"] [])(nb:NbT mg)(CNT:Cal P w K mg base "is_number_text" 1 iB):Cal P w K mg base "number_by" 2 nc:=by
 refine vf F hm hb zi3 (fun as Q h=>?_) (fun cdv A' outer s H E as Q hr h=>?_)
 ·obtain⟨n,rfl,_⟩:=h
  rfl
 ·obtain⟨x,rfl,hx,hl,q⟩:=h
  unfold zP at q
  and_intros
  refine⟨hx,hl,_,rfl,?_⟩
  cases hn:kJ x with
  |true=>
   rw[hn] at q
   obtain⟨h1,h2⟩:=jQ hn
   exact su rfl (mi (by rfl) nb.int (zd 0 rfl ⟨_,_,rfl,PySem.intText_digits h1 h2 (zl2 hl (by decide)),zl2 hl (by decide),q⟩))
  |false=>
   rw[hn] at q
   exact tw rfl (vj q)
end
theorem Asc.ok {x:Str}(h:Asc x):PyData.strOk x=true:=by
 unfold PyData.strOk
 rw[zv7]
 intro c hc
 have:=h.lt (zs4.mpr hc)
 exact zm0 (by omega)
def Ws (ws:List Str):Prop:=∀w∈ws,Asc w∧w.length≤600
theorem pA :∀{ws:List Str},Ws ws→PyData.canLayAll0 (ws.map .str)=true
 |[],_=>by simp[PyData.canLayAll0]
 |x::r,h=>by
  show PyData.canLayAll0 (.str x::r.map .str)=true
  simp only[PyData.canLayAll0,PyData.canLay0,zk3]
  exact⟨(h x (zk0 ..)).1.ok,pA fun w hw=>h w (zj7 _ hw)⟩
theorem ph :∀ws:List Str,PyData.depthAll (ws.map .str)=0
 |[]=>by simp[PyData.depthAll]
 |x::r=>by
  show PyData.depthAll (.str x::r.map .str)=0
  simp only[PyData.depthAll,PyData.depth,ph r]
  omega
theorem gg :∀ws:List Str,(PyData.list (ws.map .str)).hasDict=false:=by
 intro ws
 simp only[PyData.hasDict]
 induction ws with
 |nil=>simp[PyData.hasDictAll]
 |cons x r ih=>simp only[zm8,PyData.hasDictAll,PyData.hasDict,ih,Bool.or_self]
theorem eE {ws:List Str}(h:Ws ws):SeqAt.shaped (.list (ws.map .str))=true:=by
 unfold SeqAt.shaped
 rw[zk3,zl7]
 refine⟨by simp only[PyData.canLay0];exact pA h,?_⟩
 simp only[PyData.depth,ph]
 omega
theorem jB (ws:List Str)(x:Str):PyData.eqv (.list (ws.map .str)) (.list [.str x])=decide (ws=[x]):=by
 match ws with
 |[]=>simp[PyData.eqv,PyData.eqvAll]
 |[a]=>
  show ((a == x)&&true)=_
  rw[zu1]
  by_cases h:a=x<;>simp[h]
 |a::b::r=>simp[PyData.eqv,PyData.eqvAll]
theorem uM {ws:List Str}{x:Str}{Q:Bool→Prop}(h1:Ws ws)(h2:PyData.strOk x=true)(h:Q (decide (ws=[x]))):tK (.list (ws.map .str)) (.list [.str x]) Q:=
 eqk (eE h1) (by simp[SeqAt.shaped,PyData.canLay0,PyData.canLayAll0,h2,PyData.depth,PyData.depthAll]) (gg ws) rfl (by rw[jB];exact h)
def zc1 (ds:List PyData):PyData:=match ds with
 |[d]=>if xE d then .tuple [d] else d
 |ds=>.tuple ds
def wBy (ws:List Str):PyData:=if ws=[("none":Str)] then .none else if ws=[("yes":Str)] then .bool true else if ws=[("no":Str)] then .bool false else zc1 (ws.map zP)
def gu :List A→(A→Prop)→Prop:=fun as Q=>∃ws,as=[.dat (.list (ws.map .str))]∧Ws ws∧ws.length≤700∧Q (.dat (wBy ws))
section
variable {P:Program}{w:World}{K:PySem.W.Frag}{mg:Str→Option Value}{base:Heap}
theorem zb0 :zf ["words","numbers"] ["words"] (za bY):=⟨rfl,rfl,rfl,by decide +kernel,rfl,by decide +kernel,by decide +kernel⟩
theorem jA {f:Addr}{fd:FuncData}(F:Fun K "worth_by" "worth_by" bY f fd)(hm:mg "worth_by"=some (.ref f))(hb:Binds K fd ["words"] [])(nb:NbT mg)(CNB:Cal P w K mg base "number_by" 2 nc):Cal P w K mg base "worth_by" 3 gu:=by
 refine vf F hm hb zb0 (fun as Q h=>?_) (fun cdv A' outer s H E as Q hr h=>?_)
 ·obtain⟨ws,rfl,_⟩:=h
  rfl
 ·obtain⟨ws,rfl,hw,hl,q⟩:=h
  have nd:=zb0.nd
  unfold wBy at q
  and_intros
  refine uM hw (by decide +kernel) ?_
  by_cases c1:ws=[("none":Str)]
  ·rw[if_pos c1] at q
   refine ym (zm0 c1) ?_
   and_intros
   exact q
  rw[if_neg c1] at q
  refine yv (zl5 c1) ?_
  and_intros
  refine uM hw (by decide +kernel) ?_
  by_cases c2:ws=[("yes":Str)]
  ·rw[if_pos c2] at q
   refine ym (zm0 c2) ?_
   and_intros
   exact q
  rw[if_neg c2] at q
  refine yv (zl5 c2) ?_
  and_intros
  refine uM hw (by decide +kernel) ?_
  by_cases c3:ws=[("no":Str)]
  ·rw[if_pos c3] at q
   refine ym (zm0 c3) ?_
   and_intros
   exact q
  rw[if_neg c3] at q
  refine yv (zl5 c3) ?_
  and_intros
  refine cZ 1 ["word"] [none] (.one 0) (uh (zd 0 rfl ⟨_,rfl,by rw[zj1];omega,?_⟩))
  refine wN (l:=ws) (g:=fun x=>.str x) (fun x=>zP x) (fun x hx=>⟨_,rfl,fun C s2 H2 fp Q h=>?_⟩) ?_
  ·and_intros
   exact⟨(hw x hx).1,(hw x hx).2,h⟩
  refine uN 1 rfl ?_
  rw[zv1]
  generalize ws.map zP=ds at q
  match ds,q with
  |[],q=>
   and_intros
   exact q
  |[d],q=>
   have q:Q (.dat (if xE d=true then .tuple [d] else d)):=q
   and_intros
   cases hd:xE d with
   |true=>
    rw[hd] at q
    refine yv rfl ?_
    and_intros
    exact q
   |false=>
    rw[hd] at q
    refine ym rfl ?_
    and_intros
    exact q
  |d::e::r,q=>
   and_intros
   exact q
theorem mem_join {sep:Str}{c:Nat}:∀{ts:List Str} {p:Str},p∈ts→c∈p.cps.toList→c∈(Str.join sep ts).cps.toList
 |[x],p,hp,hc=>by rw[zk7.mp hp] at hc;exact hc
 |x::y::r,p,hp,hc=>by
  show c∈(x++sep++Str.join sep (y::r)).cps.toList
  rw[zp3,zp3,zn6,zn6,zn9,zn9]
  rcases zj5.mp hp with rfl|hp
  ·exact .inl (.inl hc)
  ·exact .inr (mem_join hp hc)
theorem Asc.of {x:Str}(h:∀c∈x.cps.toList,c<128):Asc x:=by
 unfold Asc
 rw[zv7]
 intro c hc
 exact zm0 (h c (zs4.mpr hc))
theorem uL {x:Str}(h:Asc x)(hl:x.length≤600)(y:Str):Ws (Txt.split x y):=fun p hp=>
 ⟨.of fun c hc=>h.lt (by have:=mem_join (sep:=y) hp hc;rw[StrLaws.join_split] at this;exact this),zl2 (part_short hp) hl⟩
def iW (ws:List Str):PyData:=match ws with
 |a::b::c::d::r=>.tuple [.str a,zP b,zP c,wBy (d::r)]
 |_=>.none
def rBy (x:Str):PyData:=if yr (iW (Txt.split x " "))=true then iW (Txt.split x " ") else .none
theorem og (x:Str):zP x=.none∨∃n:Nat,zP x=.int n:=by
 unfold zP
 split
 ·exact .inr ⟨_,rfl⟩
 ·exact .inl rfl
theorem xF (x:Str):(zP x).canLay0=true∧(zP x).depth=0∧(zP x).hasDict=false:=by
 rcases og x with e|⟨n,e⟩<;>rw[e]<;>exact⟨by simp[PyData.canLay0],by simp[PyData.depth],by simp[PyData.hasDict]⟩
theorem qE :∀ws:List Str,PyData.canLayAll0 (ws.map zP)=true∧PyData.depthAll (ws.map zP)=0∧PyData.hasDictAll (ws.map zP)=false
 |[]=>by simp[PyData.canLayAll0,PyData.depthAll,PyData.hasDictAll]
 |x::r=>by
  obtain⟨a,b,c⟩:=xF x
  obtain⟨a',b',c'⟩:=qE r
  simp only[zm8,PyData.canLayAll0,PyData.depthAll,PyData.hasDictAll,a,b,c,a',b',c']
  exact⟨rfl,by omega,rfl⟩
theorem mI (ws:List Str):(wBy ws).canLay0=true∧(wBy ws).depth≤1∧(wBy ws).hasDict=false:=by
 have k:∀d:PyData,(d=.none∨∃b,d=.bool b)→d.canLay0=true∧d.depth≤1∧d.hasDict=false:=by
  rintro d (rfl|⟨b,rfl⟩)<;>exact⟨by simp[PyData.canLay0],by simp[PyData.depth],by simp[PyData.hasDict]⟩
 unfold wBy
 split
 ·exact k _ (.inl rfl)
 split
 ·exact k _ (.inr ⟨_,rfl⟩)
 split
 ·exact k _ (.inr ⟨_,rfl⟩)
 have t:∀ws:List Str,(PyData.tuple (ws.map zP)).canLay0=true∧(PyData.tuple (ws.map zP)).depth≤1∧(PyData.tuple (ws.map zP)).hasDict=false:=fun ws=>by
  obtain⟨a,b,c⟩:=qE ws
  simp only[PyData.canLay0,PyData.depth,PyData.hasDict,a,b,c]
  exact⟨trivial,by omega,trivial⟩
 match ws with
 |[]=>exact t []
 |[x]=>
  show (if xE (zP x)=true then PyData.tuple [zP x] else zP x).canLay0=true∧_
  show _∧(if xE (zP x)=true then PyData.tuple [zP x] else zP x).depth≤1∧(if xE (zP x)=true then PyData.tuple [zP x] else zP x).hasDict=false
  split
  ·exact t [x]
  ·obtain⟨a,b,c⟩:=xF x
   exact⟨a,by omega,c⟩
 |x::y::r=>exact t (x::y::r)
def qm :List A→(A→Prop)→Prop:=fun as Q=>∃d,as=[.dat d]∧d.hasDict=false∧SeqAt.shaped d=true∧Q (.dat (.bool (yr d)))
theorem pJ {k:Nat}{f:Addr}{fd:FuncData}{ps:List Str}(hm:mg "is_rule"=some (.ref f))(hk:PySem.W.keepIn K (.ref f)=true)(hb:Binds K fd ps [])(G:zr P w K mg base CX0 k f fd ps pK):Cal P w K mg base "is_rule" k qm:=by
 refine⟨f,fd,_,hm,hk,hb,G.imp fun vs H Q E h=>?_⟩
 obtain⟨F,as,Q',rfl,t,o,rv,⟨d,rfl,nd,sh,q0⟩,kk⟩:=h
 obtain⟨x,rfl,av⟩:=rv.one
 exact⟨x,d,rfl,(av.dv nd).same xm,sh,fun H' s=>kk _ _ _ q0 ⟨t.same s,Kz.of_same s,.bl _⟩⟩
def oA :List A→(A→Prop)→Prop:=fun as Q=>∃x:Str,as=[.dat (.str x)]∧Asc x∧x.length≤600∧Q (.dat (rBy x))
theorem zg1 (a b c:Str)(r:List Str):L2.cutD (List.map PyData.str (a::b::c::r)) (some 3) none=r.map .str:=by
 unfold L2.cutD
 rw[show (some (3:Int))=some ((3:Nat):Int) from rfl,HT.qr,HT.de]
 simp only[zj1,zk5,zm8]
 rw[Nat.min_eq_left (by omega)]
 simp
 rw[List.take_of_length_le (by rw[zj1];exact zj8 _)]
theorem pF {a b c d:Str}{r:List Str}(ha:Asc a):SeqAt.shaped (.tuple [.str a,zP b,zP c,wBy (d::r)])=true∧(PyData.tuple [.str a,zP b,zP c,wBy (d::r)]).hasDict=false:=by
 obtain⟨b1,b2,b3⟩:=xF b
 obtain⟨c1,c2,c3⟩:=xF c
 obtain⟨d1,d2,d3⟩:=mI (d::r)
 unfold SeqAt.shaped
 simp only[PyData.canLay0,PyData.canLayAll0,PyData.depth,PyData.depthAll,PyData.hasDict,PyData.hasDictAll,ha.ok,b1,b2,b3,c1,c2,c3,d1,d3,zu1,zo8,zv8,zl7]
 exact⟨by omega,trivial⟩
theorem aY :zf ["text","words","rule"] ["text"] (za br):=⟨rfl,rfl,rfl,by decide +kernel,rfl,by decide +kernel,by decide +kernel⟩
theorem jz {f:Addr}{fd:FuncData}(F:Fun K "rule_by" "rule_by" br f fd)(hm:mg "rule_by"=some (.ref f))(hb:Binds K fd ["text"] [])(nb:NbT mg)(CNB:Cal P w K mg base "number_by" 2 nc)(CWB:Cal P w K mg base "worth_by" 3 gu)(CIR:Cal P w K mg base "is_rule" 6 qm):Cal P w K mg base "rule_by" 7 oA:=by
 refine vf F hm hb aY (fun as Q h=>?_) (fun cdv A' outer s H E as Q hr h=>?_)
 ·obtain⟨x,rfl,_⟩:=h
  rfl
 ·obtain⟨x,rfl,hx,hl,q⟩:=h
  have nd:=aY.nd
  have h6:1000≤sizeLine:=by decide
  refine zI 1 nd (EvL.d (uX (zd 0 rfl ⟨_,rfl,zF ⟨_,rfl,by decide +kernel,by omega,?_⟩⟩)))
  have hw:=uL hx hl " "
  have hn:(Txt.split x " ").length≤602:=zl2 (split_le x " ") (by omega)
  unfold rBy at q
  generalize Txt.split x " "=ws at q hw hn
  match ws,q,hw,hn with
  |[],q,hw,hn=>and_intros;exact q
  |[a],q,hw,hn=>and_intros;exact q
  |[a,b],q,hw,hn=>and_intros;exact q
  |[a,b,c],q,hw,hn=>and_intros;exact q
  |a::b::c::d::r,q,hw,hn=>
   have wa:=hw a (by simp)
   have wb:=hw b (by simp)
   have wc:=hw c (by simp)
   have wd:Ws (d::r):=fun w h=>hw w (by simp only[zj5] at h ⊢;exact .inr (.inr (.inr h)))
   obtain⟨s1,s2⟩:=pF (a:=a) (b:=b) (c:=c) (d:=d) (r:=r) wa.1
   have q:Q (.dat (if yr (.tuple [.str a,zP b,zP c,wBy (d::r)])=true then .tuple [.str a,zP b,zP c,wBy (d::r)] else .none)):=q
   and_intros
   refine ixk rfl rfl (wR (j:=0) rfl) ?_
   and_intros
   refine ixk rfl rfl (wR (j:=1) rfl) ?_
   and_intros
   refine⟨wb.1,wb.2,?_⟩
   and_intros
   refine ixk rfl rfl (wR (j:=2) rfl) ?_
   and_intros
   refine⟨wc.1,wc.2,?_⟩
   and_intros
   refine⟨d::r,by rw[zg1],wd,by simp only[zk5] at hn ⊢;omega,?_⟩
   and_intros
   refine⟨s2,s1,_,rfl,?_⟩
   cases hu:yr (.tuple [.str a,zP b,zP c,wBy (d::r)]) with
   |true=>
    rw[hu] at q
    exact su hu (zd 2 rfl q)
   |false=>
    rw[hu] at q
    exact tw hu (vj q)
end
end K24
namespace L2
open PySem PySem.Spec PyProof.Rows
end L2
namespace K24
open PySem PySem.Spec PyProof.Rows L2
def nQ (CT:Addr):List A→(A→Prop)→(PyData→Prop)→Prop:=fun as _ q=>∃ds,as=[.dat (.list ds)]∧Rules ds∧24<ds.length∧ds.length≤900∧q (xD0 CT)
def mf (CT:Addr):List A→(PyData→Prop)→Prop:=fun as q=>∃ds,as=[.dat (.list ds)]∧Rules ds∧24<ds.length∧ds.length≤900∧q (xD0 CT)
section
variable {P:Program}{w:World}{K:PySem.W.Frag}{mg:Str→Option Value}{base:Heap}{cs:Cs}
theorem cc :zf ((["things","kept","number","thing","rule"]:List Str)++[("":Str)]) ["things"] (za pz):=⟨rfl,rfl,rfl,by decide +kernel,rfl,by decide +kernel,by decide +kernel⟩
set_option maxHeartbeats 4000000 in
theorem ke {f CT:Addr}{fd:FuncData}(F:Fun K "kept_rules" "kept_rules" pz f fd)(hm:mg "kept_rules"=some (.ref f))(hb:Binds K fd ["things"] [])(nb:NbT mg)(gM:∃t,mg "MOST_RULES"=some (.int 24 t))(CRO:Cal P w K mg base "rule_of" 7 (vn cs))(XT:bX K mg "TooMany" CT):oN P w K mg base "kept_rules" 8 (nQ CT):=by
 refine zc5 F hm hb cc (by decide) (fun as Q q h=>?_) (fun cdv A' outer s H E as Q q r xe hr h xo=>?_)
 ·obtain⟨ds,rfl,_⟩:=h
  rfl
 ·obtain⟨ds,rfl,rd,hl,hu,qz⟩:=h
  have nd:=cc.nd
  refine xu 1 nd (zU (zi (⟨_,rfl,zj4 rfl,?_⟩)))
  refine vE (pat:=.many [2,3]) xo.own rfl (wk (n:=2) (K:=K) rfl rfl (yP (yg (i:=2) nd rfl (Or.inl rfl)) (yP (yg (i:=3) nd rfl (Or.inl rfl)) (vp)))) (rA (by rfl) nb.enumerate (zd 0 rfl (⟨_,rfl,?_⟩)))
  refine wH (fun i α=>∃v2 v3 v4,α=[some (.dat (.list ds)),some (.own ((ds.take i).map (wx cs))),v2,v3,v4,some (.exc r fun _=>True)]∧noE [v2,v3,v4]=true) ⟨none,none,none,rfl,rfl⟩ ?_ ?_
  ·rintro i d α hd ⟨v2,v3,v4,rfl,ne⟩
   obtain⟨e,he,rfl⟩:=xC hd
   obtain⟨r1,r2,r3⟩:=rd e (zp6 he)
   have hi:i<ds.length:=(zj6.mp he).1
   refine⟨_,rfl,?_⟩
   refine zI 4 nd (zA CRO hr (by rfl) (zb (zd 3 rfl (zi (⟨_,rfl,r3,r2,fun z=>(by rw[r1] at z;cases z),fun _=>?_⟩)))))
   refine yT (wI (zd 4 rfl ?_))
   obtain⟨s',a,b,v,hs,rfl,ei⟩:=xM (cs:=cs) r1
   refine yw (fun h=>by rw[show (A.dat (wx cs (.tuple [.str s',a,b,v]))).d=tP (cs.of s') a b v from rfl] at h;cases h) (fun _=>zB ?_)
   refine yJ 1 rfl (zd 4 rfl ⟨by rw[zj1,zr1];omega,?_⟩)
   refine zB ⟨some (.dat (.int ((0+i:Nat):Int))),some (.dat (.tuple [.str s',a,b,v])),some (.dat (wx cs (.tuple [.str s',a,b,v]))),?_,rfl⟩
   rw[zp9,he,zq7]
   rfl
  ·rintro α ⟨v2,v3,v4,rfl,ne⟩
   rw[xH,zs7]
   refine yT (nL 1 rfl (hV (rQ (by rfl) nb.len (zd 1 rfl ⟨_,rfl,uD (by rfl) gM ⟨_,_,rfl,rfl,?_⟩⟩))))
   refine rT (fun h=>?_) (fun h=>?_)
   ·exact kL (j:=5) xo rfl XT (by rfl) rfl (leX.nil rfl) (iI (by decide +kernel) (by decide +kernel) (uD (by rfl) gM ⟨24,rfl,by decide,fun _=>qz⟩))
   ·rw[zj1] at h
    omega
theorem za5 :zf ((["self","rules"]:List Str)++[("":Str)]) ["self","rules"] (za yA):=⟨rfl,rfl,rfl,by decide +kernel,rfl,by decide +kernel,by decide +kernel⟩
theorem nu {f C CT:Addr}{dV:Value}{fd:FuncData}(F:oi K "__init__" "Book.__init__" yA dV f fd)(hm:mg "Book"=some (.ref C))(mk:Mk K C f)(hb:Binds K fd ["self","rules"] [])(CKe:oN P w K mg base "kept_rules" 8 (nQ CT)):kY P w K mg base "Book" 9 (mf CT):=by
 refine⟨C,f,fd,_,hm,mk,hb,zf9 F za5 (by decide) (fun as Q q h=>?_) (fun cdv A' outer s H E as Q q r xe hr h xo=>?_)⟩
 ·obtain⟨as',rfl,ds,rfl,_⟩:=h
  rfl
 ·obtain⟨as',rfl,ds,rfl,rd,hl,hu,qz⟩:=h
  refine fJ 0 (EvL.d (dG (j:=2) xo rfl (leX.nil rfl) CKe hr (by rfl) (zb (rS (wI (zd 1 rfl (vC (zd 1 rfl (zi ⟨ds,rfl,rd,hl,hu,qz⟩)))))))))
end
abbrev iy :Stmt:=top 43
abbrev tu :Stmt:=inClass (top 13) 0
theorem zd0 :zf ["self","line"] ["self","line"] (za tu):=⟨rfl,rfl,rfl,by decide +kernel,rfl,by decide +kernel,by decide +kernel⟩
theorem bh {P:Program}{w:World}{K:PySem.W.Frag}{mg:Str→Option Value}{base:Heap}{f C S:Addr}{fd:FuncData}(F:Fun K "__init__" "NoText.__init__" tu f fd)(hb:Binds K fd ["self","line"] [])(hm:mg "NoText"=some (.ref C))(hS:mg "StayError"=some (.ref S))(kp:PySem.W.keepIn K (.ref C)=true)(hf:PySem.W.typeIn K (.ref f)=some (.type "function"))(xs:XS K S)(xc:XC K C S (some (.ref f)))(hn:PySem.W.findIn K (.ref C) "line"=some none):XMk P w K mg base "NoText" 1 C "line":=
 ⟨hm,kp,S,f,fd,_,xc.ok,hf,hb,fb F zd0 rfl rfl hS xs xc hn (by decide +kernel) (by decide +kernel) (fun _=>rfl) (Or.inl rfl) (Or.inl rfl)⟩
def ntX (CN:Addr)(n:Nat):PyData:=xD CN [(.str "line",.int n)]
structure Lns (bs:List Str)(la:Str):Prop where
 all:∀t∈bs++[la],Asc t∧t.length≤600∧10∉t.cps.toList
 len:bs.length≤60
def txt (bs:List Str)(la:Str):Str:=Txt.join "\n" (bs++[la])
theorem zb5 :("\n":Str)=⟨#[10]⟩:=by decide +kernel
theorem sk {bs:List Str}{la:Str}(h:Lns bs la):Txt.split (txt bs la) "\n"=bs++[la]:=by
 unfold txt
 rw[zb5]
 exact oO 10 _ (fun t ht=>(h.all t ht).2.2) (by simp)
theorem rO {bs:List Str}{la:Str}(h:Lns bs la):(txt bs la).length≤40000:=by
 unfold txt
 rw[show Txt.join "\n" (bs++[la])=Str.join "\n" (bs++[la]) from zn8 _ _]
 have h1:=zr7 "\n" (bs++[la])
 have h2:=StrLaws.sumLen_le (B:=600) (bs++[la]) fun y hy=>(h.all y hy).2.1
 have e:("\n":Str).length=1:=by decide +kernel
 rw[e] at h1
 have h3:(bs++[la]).length≤61:=by rw[zk6];have:=h.len;show bs.length+1≤61;omega
 have h4:(bs++[la]).length*600≤61*600:=Nat.mul_le_mul_right _ h3
 omega
def rl (b:Str):Bool:=!xE (rBy b)
def qA (bs:List Str):Prop:=∀b∈bs,rl b=true
def cD (bs:List Str)(n:Nat):Prop:=∃b,bs[n]?=some b∧rl b=false∧qA (bs.take n)
theorem pq {b:Str}(h:rl b=false):rBy b=.none:=by
 unfold rl at h
 unfold rBy at h ⊢
 split
 ·rename_i hr
  rw[if_pos hr] at h
  obtain⟨s,i,j,v,_,e,_⟩:=uJ hr
  rw[e] at h
  cases h
 ·rfl
theorem gQ {b:Str}(hb:Asc b)(hl:b.length≤600)(h:rl b=true):yr (rBy b)=true∧SeqAt.shaped (rBy b)=true∧(rBy b).hasDict=false:=by
 unfold rl at h
 have hw:=uL hb hl " "
 unfold rBy at h ⊢
 generalize Txt.split b " "=ws at h hw ⊢
 by_cases hr:yr (iW ws)=true
 ·rw[if_pos hr]
  refine⟨hr,?_⟩
  match ws,hr,hw with
  |a::b::c::d::r,hr,hw=>exact pF (hw a (by simp)).1
 ·rw[if_neg hr] at h
  cases h
theorem tE {bs:List Str}{la:Str}(h:Lns bs la)(ha:qA bs):Rules (bs.map rBy):=fun d hd=>by
 obtain⟨b,hb,rfl⟩:=List.mem_map.mp hd
 have:=h.all b (by simp[hb])
 exact gQ this.1 this.2.1 (ha b hb)
structure ze6 (C:Addr)(cs:Cs)(CN CT:Addr)(bs:List Str)(la:Str)(Q:A→Prop)(q:PyData→Prop):Prop where
 bad:∀n,cD bs n→q (ntX CN n)
 last:qA bs→la≠""→q (ntX CN bs.length)
 many:qA bs→la=""→24<bs.length→q (xD0 CT)
 book:qA bs→la=""→bs.length≤24→Q (.dat (iD C cs (bs.map rBy)))
def ig (C:Addr)(cs:Cs)(CN CT:Addr):List A→(A→Prop)→(PyData→Prop)→Prop:=fun as Q q=>∃d,as=[.dat d]∧((isStr d=false∧d.hasDict=false∧q (ntX CN 0))∨∃bs la,d=.str (txt bs la)∧Lns bs la∧ze6 C cs CN CT bs la Q q)
theorem zg5 (bs:List Str)(la:Str):L2.cutD (List.map PyData.str (bs++[la])) none (some (-1))=bs.map .str:=by
 unfold L2.cutD
 rw[HT.qr]
 have:HT.sIx (List.map PyData.str (bs++[la])).length (List.map PyData.str (bs++[la])).length (some (-1))=bs.length:=by
  show (if (-1:Int)<0 then ((-1:Int)+((List.map PyData.str (bs++[la])).length:Int)).toNat else min (-1:Int).toNat (List.map PyData.str (bs++[la])).length)=_
  rw[if_pos (by decide),zj1,zk6,zp2];omega
 rw[this,zq7,List.drop_zero,Nat.sub_zero,List.take_append_of_le_length (by rw[zj1];exact zj8 _),List.take_of_length_le (by rw[zj1];exact zj8 _)]
theorem me (bs:List Str)(la:Str):atI ((bs++[la]).map PyData.str) (-1)=some (.str la):=by
 unfold atI ixN
 rw[if_neg (by decide),zj1,zk6,zp2,if_pos (by omega)]
 show ((bs++[la]).map PyData.str)[((-1:Int)+((bs.length+1:Nat):Int)).toNat]?=_
 rw[show ((-1:Int)+((bs.length+1:Nat):Int)).toNat=bs.length by omega,zq7,zl6 (by rw[zj1];exact zj8 _),zj1,zo7]
 rfl
section
variable {P:Program}{w:World}{K:PySem.W.Frag}{mg:Str→Option Value}{base:Heap}{cs:Cs}
theorem za6 :zf ((["thing","lines","rules","number","line","rule"]:List Str)++[("":Str)]) ["thing"] (za iy):=⟨rfl,rfl,rfl,by decide +kernel,rfl,by decide +kernel,by decide +kernel⟩
set_option maxHeartbeats 4000000 in
theorem iG {f C CN CT:Addr}{fd:FuncData}(F:Fun K "read_book" "read_book" iy f fd)(hm:mg "read_book"=some (.ref f))(hb:Binds K fd ["thing"] [])(nb:NbT mg)(CRB:Cal P w K mg base "rule_by" 7 oA)(XN:XMk P w K mg base "NoText" 1 CN "line")(CBk:fV P w K mg base "Book" 9 [] (rW C cs))(CKT:kY P w K mg base "Book" 9 (mf CT)):oN P w K mg base "read_book" 11 (ig C cs CN CT):=by
 refine zc5 F hm hb za6 (by decide) (fun as Q q h=>?_) (fun cdv A' outer s H E as Q q r xe hr h xo=>?_)
 ·obtain⟨d,rfl,_⟩:=h
  rfl
 ·obtain⟨d,rfl,h⟩:=h
  have nd:=za6.nd
  have h6:50000≤sizeLine:=by decide
  rcases h with ⟨h1,h2,h3⟩|⟨bs,la,rfl,hL,ro⟩
  ·and_intros
   refine⟨_,h2,rfl,_,rfl,?_⟩
   refine ym (by rw[h1];rfl) ?_
   exact vD (j:=6) xo rfl XN (hr.mono (by decide)) (by rfl) rfl (leX.nil rfl) (zo ⟨_,rfl,by decide,h3⟩)
  ·and_intros
   refine⟨by have:=rO hL;omega,?_⟩
   rw[sk hL]
   refine xu 2 nd (zU (zi (⟨_,rfl,zj4 rfl,?_⟩)))
   refine vE (pat:=.many [3,4]) xo.own rfl (wk (n:=2) (K:=K) rfl rfl (yP (yg (i:=3) nd rfl (Or.inl rfl)) (yP (yg (i:=4) nd rfl (Or.inl rfl)) (vp)))) (rA (by rfl) nb.enumerate (EvL.d (gS (zd 1 rfl (rD (sZ ?_))))))
   and_intros
   rw[zg5]
   refine wH (fun i α=>i≤bs.length∧qA (bs.take i)∧∃v3 v4 v5,α=[some (.dat (.str (txt bs la))),some (.dat (.list ((bs++[la]).map .str))),some (.own ((bs.take i).map rBy)),v3,v4,v5,some (.exc r fun _=>True)]∧noE [v3,v4,v5]=true) ⟨zm1 _,fun b hb=>by simp at hb,none,none,none,rfl,rfl⟩ ?_ ?_
   ·rintro i d α hd ⟨ip,ha,v3,v4,v5,rfl,ne⟩
    obtain⟨e,he,rfl⟩:=xC hd
    rw[zl9,zm9] at he
    obtain⟨b,he,rfl⟩:=he
    have hi:i<bs.length:=(zj6.mp he).1
    have hb:=hL.all b (by simp[zp6 he])
    refine⟨_,rfl,?_⟩
    have lb:=hL.len
    refine zI 5 nd (zA CRB (hr.mono (by decide)) (by rfl) (zb (zd 4 rfl (zi ⟨b,rfl,hb.1,hb.2.1,?_⟩))))
    refine yT (wI (zd 5 rfl ?_))
    cases hr1:rl b with
    |false=>
     rw[show (A.dat (rBy b)).d=.none from pq hr1]
     refine ym rfl ?_
     exact vD (j:=6) xo rfl XN (hr.mono (by decide)) (by rfl) rfl (leX.nil rfl) (zd 3 rfl ⟨((0+i:Nat):Int),rfl,by
      have:(((0+i:Nat):Int).natAbs).log2<64:=by
       by_cases e:((0+i:Nat):Int).natAbs=0
       ·rw[e];decide
       ·exact (zv6 e).mpr (by omega)
      omega,by rw[Nat.zero_add];exact ro.bad i ⟨b,he,hr1,ha⟩⟩)
    |true=>
     refine yv (show xE (rBy b)=false by unfold rl at hr1;simpa using hr1) (zB ?_)
     refine yJ 2 rfl (zd 5 rfl ⟨by rw[zj1,zr1];omega,?_⟩)
     refine zB ⟨by omega,fun c hc=>?_,some (.dat (.int ((0+i:Nat):Int))),some (.dat (.str b)),some (.dat (rBy b)),?_,rfl⟩
     ·rw[zp9,he] at hc
      rcases zn9.mp hc with hc|hc
      ·exact ha c hc
      ·rw[zk7.mp hc];exact hr1
     ·have mt:(bs.take (i+1)).map rBy=(bs.take i).map rBy++[rBy b]:=by rw[zp9,he,zq7];rfl
      rw[mt]
      rfl
   ·rintro α ⟨ip,ha,v3,v4,v5,rfl,ne⟩
    rw[xH,zj1,zs7] at ha ⊢
    have lb:=hL.len
    and_intros
    refine ixk rfl rfl (me bs la) ?_
    and_intros
    by_cases hq:la=""
    ·refine yv (by rw[zm0 hq];rfl) ?_
     refine zB ?_
     refine uN 2 rfl ?_
     by_cases h24:bs.length≤24
     ·exact yj (EvN.d (di CBk hr (by rfl) (zb (zd 2 rfl (zi ⟨bs.map rBy,.inl rfl,tE hL ha,by rw[zj1];exact h24,ro.book ha hq h24⟩)))))
     ·exact yj (gG (j:=6) xo rfl (leX.nil rfl) CKT hr (by rfl) (zb (zd 2 rfl (zi ⟨bs.map rBy,rfl,tE hL ha,by rw[zj1];omega,by rw[zj1];omega,ro.many ha hq (by omega)⟩))))
    ·refine ym (by rw[zl5 hq];rfl) ?_
     refine uN 2 rfl ?_
     refine vD (j:=6) xo rfl XN (hr.mono (by decide)) (by rfl) rfl (leX.nil rfl) (rQ (by rfl) nb.len (zd 2 rfl ⟨_,rfl,_,rfl,?_,?_⟩))
     ·have:(((bs.map rBy).length:Int).natAbs).log2<64:=by
       by_cases e:((bs.map rBy).length:Int).natAbs=0
       ·rw[e];decide
       ·exact (zv6 e).mpr (by rw[zj1];omega)
      omega
     ·have:=ro.last ha hq
      rw[zj1]
      exact this
end
abbrev pY :Stmt:=top 52
abbrev ay :Stmt:=top 53
abbrev oU :Stmt:=top 54
def vR (n:Nat):PyData:=.tuple [.str "text",.int n]
def gW :PyData:=.tuple [.str "many",.none]
def mK (ds:List PyData):PyData:=.tuple [.str "book",.list ds]
def vz (bs:List Str)(la:Str):PyData:=match bs.findIdx? (fun b=>!rl b) with
 |some n=>vR n
 |none=>if la="" then (if bs.length≤24 then mK (bs.map rBy) else gW) else vR bs.length
theorem uK {bs:List Str}{la:Str}{n:Nat}(h:cD bs n):vz bs la=vR n:=by
 obtain⟨b,hb,hr,ha⟩:=h
 have hi:n<bs.length:=(zj6.mp hb).1
 have e:bs.findIdx? (fun b=>!rl b)=some n:=by
  rw[List.findIdx?_eq_some_iff_getElem]
  refine⟨hi,?_,fun j hj=>?_⟩
  ·rw[(zj6.mp hb).2,hr];rfl
  ·have:bs[j]∈bs.take n:=by
    rw[List.mem_take_iff_getElem]
    exact⟨j,by omega,rfl⟩
   rw[ha _ this];decide
 unfold vz
 rw[e]
theorem wq {bs:List Str}{la:Str}(h:qA bs):vz bs la=if la="" then (if bs.length≤24 then mK (bs.map rBy) else gW) else vR bs.length:=by
 have e:bs.findIdx? (fun b=>!rl b)=none:=by
  rw[List.findIdx?_eq_none_iff]
  intro b hb
  rw[h b hb];rfl
 unfold vz
 rw[e]
inductive wX :PyData→PyData→Prop
 |no {d:PyData}:isStr d=false→d.hasDict=false→wX d (vR 0)
 |txt {bs:List Str} {la:Str}:Lns bs la→wX (.str (txt bs la)) (vz bs la)
structure XG (K:PySem.W.Frag)(mg:Str→Option Value)(CN CT S:Addr):Prop where
 mS:mg "StayError"=some (.ref S)
 bN:XB K CN S
 bT:XB K CT S
 xN:∃init,XC K CN S init
 xT:∃init,XC K CT S init
 nn:PySem.W.findIn K (.ref CN) "line"=some none
 nR:∃B,mg "NoRule"=some (.ref B)∧PySem.W.kitOne K (.ref CN) (.ref B)=some false
 nT:∃B,mg "TooMany"=some (.ref B)∧PySem.W.kitOne K (.ref CN) (.ref B)=some false
 nN:∃B,mg "NoText"=some (.ref B)∧PySem.W.kitOne K (.ref CN) (.ref B)=some true
 tR:∃B,mg "NoRule"=some (.ref B)∧PySem.W.kitOne K (.ref CT) (.ref B)=some false
 tT:∃B,mg "TooMany"=some (.ref B)∧PySem.W.kitOne K (.ref CT) (.ref B)=some true
 tN:∃B,mg "NoText"=some (.ref B)∧PySem.W.kitOne K (.ref CT) (.ref B)=some false
 mV:mg "ValueError"=none
 vN:PySem.W.kitOne K (.ref CN) (.type "ValueError")=some true
 vT:PySem.W.kitOne K (.ref CT) (.type "ValueError")=some true
def qC :List A→(A→Prop)→Prop:=fun as Q=>∃d e,as=[.dat d]∧wX d e∧Q (.dat e)
section
variable {P:Program}{w:World}{K:PySem.W.Frag}{mg:Str→Option Value}{base:Heap}{cs:Cs}
theorem ze4 :zf ((["_law_thing","_law_found","_law_kinds","e"]:List Str)++[("":Str)]) ["_law_thing"] (za pY):=⟨rfl,rfl,rfl,by decide +kernel,rfl,by decide +kernel,by decide +kernel⟩
set_option maxHeartbeats 4000000 in
theorem jG {f C CN CT S:Addr}{fd:FuncData}(F:Fun K "_law_told" "_law_told" pY f fd)(hm:mg "_law_told"=some (.ref f))(hb:Binds K fd ["_law_thing"] [])(nb:NbT mg)(xf:XG K mg CN CT S)(CR:oN P w K mg base "read_book" 11 (ig C cs CN CT))(MR:rg P w K mg base C "rules" 3 (sT C cs)):Cal P w K mg base "_law_told" 12 qC:=by
 refine vf F hm hb ze4 (fun as Q h=>?_) (fun cdv A' outer s H E as Q hr h=>?_)
 ·obtain⟨d,e,rfl,_⟩:=h
  rfl
 ·obtain⟨d,e,rfl,td,q⟩:=h
  have nd:=ze4.nd
  obtain⟨iN,xN⟩:=xf.xN
  obtain⟨iT,xT⟩:=xf.xT
  have lx:leX [some (.dat d),none,none,none,none] [some (.dat d),none,none,none,none]:=leX.cons (.inr ⟨rfl,fun a e=>by cases e;trivial⟩) (leX.cons (.inl rfl) (leX.cons (.inl rfl) (leX.cons (.inl rfl) (leX.cons (.inl rfl) leX.nil'))))
  refine jO 3 4 [some (.dat d),none,none,none,none] (fun x=>(x=xD0 CT∧e=gW)∨∃n:Nat,x=ntX CN n∧e=vR n) rfl rfl nd rfl lx (by rfl) xf.mS (fun x h=>?_) (fun pins xe r xo=>?_) (fun pins a x S h=>?_)
  ·rcases h with ⟨h,_⟩|⟨n,h,_⟩
   ·exact⟨CT,.inr h,xf.bT⟩
   ·exact⟨CN,.inl ⟨_,h⟩,xf.bN⟩
  ·refine zI 1 nd (fY (j:=4) xo rfl (leX.cons (.inr ⟨rfl,fun a e=>by cases e;trivial⟩) (leX.cons (.inl rfl) (leX.cons (.inl rfl) (leX.cons (.inl rfl) (leX.cons (.inl rfl) leX.nil'))))) CR hr (by rfl) (zb (zd 0 rfl (zi ⟨d,rfl,?_⟩))))
   cases td with
   |no h1 h2=>exact .inl ⟨h1,h2,.inr ⟨0,rfl,rfl⟩⟩
   |@txt bs la hL=>
    refine .inr ⟨bs,la,rfl,hL,fun n hb=>.inr ⟨n,rfl,uK hb⟩,fun ha hq=>.inr ⟨bs.length,rfl,by rw[wq ha,if_neg hq]⟩,fun ha hq h24=>.inl ⟨rfl,by rw[wq ha,if_pos hq,if_neg (by omega)]⟩,fun ha hq h24=>?_⟩
    rw[wq ha,if_pos hq,if_pos h24] at q
    refine zB ?_
    and_intros
    refine⟨tE hL ha,by rw[zj1];omega,?_⟩
    and_intros
    exact q
  ·rcases h with ⟨rfl,rfl⟩|⟨n,rfl,rfl⟩
   ·have ix:isX CT (xD0 CT):=.inr rfl
    obtain⟨B1,m1,e1⟩:=xf.tR
    obtain⟨B2,m2,e2⟩:=xf.tT
    obtain⟨B3,m3,e3⟩:=xf.tN
    refine nA 3 rfl ?_
    refine zI 2 nd (EvL.d (zU (zb (xq (by rfl) nb.isinstance (by rfl) m1 (zd 3 rfl ⟨CT,_,iT,false,ix,xT,e1,?_⟩)))))
    refine zb (xq (by rfl) nb.isinstance (by rfl) m2 (zd 3 rfl ⟨CT,_,iT,true,ix,xT,e2,?_⟩))
    refine zb (xq (by rfl) nb.isinstance (by rfl) m3 (zd 3 rfl ⟨CT,_,iT,false,ix,xT,e3,zi ⟨_,rfl,zj4 rfl,?_⟩⟩))
    refine yT (EvW.t (qu (oX (jb (qO (by rfl) nb.isinstance (by rfl) xf.mV PyProof.Rows.Boot.«ValueError» (zd 3 rfl ⟨CT,_,iT,true,ix,xT,xf.vT,⟨_,rfl,?_⟩⟩))))))
    refine tw rfl (qu ?_)
    and_intros
    refine xq (by rfl) nb.isinstance (by rfl) m2 (zd 3 rfl ⟨CT,_,iT,true,ix,xT,e2,⟨_,rfl,?_⟩⟩)
    refine ym rfl ?_
    and_intros
    exact q
   ·have ix:isX CN (ntX CN n):=.inl ⟨_,rfl⟩
    obtain⟨B1,m1,e1⟩:=xf.nR
    obtain⟨B2,m2,e2⟩:=xf.nT
    obtain⟨B3,m3,e3⟩:=xf.nN
    refine nA 3 rfl ?_
    refine zI 2 nd (EvL.d (zU (zb (xq (by rfl) nb.isinstance (by rfl) m1 (zd 3 rfl ⟨CN,_,iN,false,ix,xN,e1,?_⟩)))))
    refine zb (xq (by rfl) nb.isinstance (by rfl) m2 (zd 3 rfl ⟨CN,_,iN,false,ix,xN,e2,?_⟩))
    refine zb (xq (by rfl) nb.isinstance (by rfl) m3 (zd 3 rfl ⟨CN,_,iN,true,ix,xN,e3,zi ⟨_,rfl,zj4 rfl,?_⟩⟩))
    refine yT (EvW.t (qu (oX (jb (qO (by rfl) nb.isinstance (by rfl) xf.mV PyProof.Rows.Boot.«ValueError» (zd 3 rfl ⟨CN,_,iN,true,ix,xN,xf.vN,⟨_,rfl,?_⟩⟩))))))
    refine tw rfl (qu ?_)
    and_intros
    refine xq (by rfl) nb.isinstance (by rfl) m2 (zd 3 rfl ⟨CN,_,iN,false,ix,xN,e2,⟨_,rfl,?_⟩⟩)
    refine yv rfl (zB ?_)
    exact yj (vd (zb (zF (zb (dA xN xf.nn (zd 3 rfl ⟨_,_,rfl,rfl,zi ⟨_,rfl,zj4 rfl,q⟩⟩))))))
end
def ib :List A→(A→Prop)→Prop:=fun as Q=>∃bs la,as=[.dat (.str (txt bs la))]∧Lns bs la∧Q (.dat (vz bs la))
def si :List A→(A→Prop)→Prop:=fun as Q=>∃d e,as=[.dat d,.dat e]∧wX d e∧Q (.dat (.bool true))
theorem fX {b:Str}(hb:Asc b)(hl:b.length≤600):(rBy b).canLay0=true∧(rBy b).depth≤3∧(rBy b).hasDict=false:=by
 have hw:=uL hb hl " "
 unfold rBy
 generalize Txt.split b " "=ws at hw ⊢
 by_cases hr:yr (iW ws)=true
 ·rw[if_pos hr]
  match ws,hr,hw with
  |a::b::c::d::r,hr,hw=>
   obtain⟨b1,b2,b3⟩:=xF b
   obtain⟨c1,c2,c3⟩:=xF c
   obtain⟨d1,d2,d3⟩:=mI (d::r)
   have ha:=(hw a (by simp)).1.ok
   show (PyData.tuple [.str a,zP b,zP c,wBy (d::r)]).canLay0=true∧(PyData.tuple [.str a,zP b,zP c,wBy (d::r)]).depth≤3∧(PyData.tuple [.str a,zP b,zP c,wBy (d::r)]).hasDict=false
   simp only[PyData.canLay0,PyData.canLayAll0,PyData.depth,PyData.depthAll,PyData.hasDict,PyData.hasDictAll,ha,b1,b2,b3,c1,c2,c3,d1,d3,zu1,zo8,zv8]
   exact⟨trivial,by omega,trivial⟩
 ·rw[if_neg hr]
  exact⟨by simp[PyData.canLay0],by simp[PyData.depth],by simp[PyData.hasDict]⟩
theorem qL :∀{bs:List Str},(∀b∈bs,Asc b∧b.length≤600)→PyData.canLayAll0 (bs.map rBy)=true∧PyData.depthAll (bs.map rBy)≤3∧PyData.hasDictAll (bs.map rBy)=false
 |[],_=>⟨by simp[PyData.canLayAll0],by simp[PyData.depthAll],by simp[PyData.hasDictAll]⟩
 |x::r,h=>by
  obtain⟨a,b,c⟩:=fX (h x (by simp)).1 (h x (by simp)).2
  obtain⟨a',b',c'⟩:=qL (bs:=r) fun b hb=>h b (zj7 _ hb)
  simp only[zm8,PyData.canLayAll0,PyData.depthAll,PyData.hasDictAll,a,c,a',c']
  exact⟨rfl,by omega,rfl⟩
structure Two (e:PyData):Prop where
 sh:SeqAt.shaped e=true
 nd:e.hasDict=false
 eq:PyData.eqv e e=true
 it:∃x y,e=.tuple [x,y]∧isBool y=false∧y.hasDict=false
theorem Two.of {x:Str}{y:PyData}(hx:PyData.strOk x=true)(h1:y.canLay0=true)(h2:y.depth≤5)(h3:y.hasDict=false)(h4:isBool y=false):Two (.tuple [.str x,y]):=by
 have ly:(PyData.tuple [.str x,y]).canLay0=true:=by simp[PyData.canLay0,PyData.canLayAll0,hx,h1]
 refine⟨?_,?_,SeqAt.eqv_refl _ ly,_,_,rfl,h4,h3⟩
 ·unfold SeqAt.shaped
  rw[ly,zo8,zl7]
  simp only[PyData.depth,PyData.depthAll]
  omega
 ·simp[PyData.hasDict,PyData.hasDictAll,h3]
theorem wX.two {d e:PyData}(h:wX d e):Two e:=by
 have tt:∀n:Nat,Two (vR n):=fun n=>Two.of (by decide +kernel) (by simp[PyData.canLay0]) (by simp[PyData.depth]) (by simp[PyData.hasDict]) rfl
 cases h with
 |no _ _=>exact tt 0
 |@txt bs la hL=>
  unfold vz
  split
  ·exact tt _
  ·split
   ·split
    ·obtain⟨a,b,c⟩:=qL (bs:=bs) fun b hb=>⟨(hL.all b (by simp[hb])).1,(hL.all b (by simp[hb])).2.1⟩
     exact Two.of (by decide +kernel) (by simp only[PyData.canLay0];exact a) (by simp only[PyData.depth];omega) (by simp only[PyData.hasDict];exact c) rfl
    ·exact Two.of (by decide +kernel) (by simp[PyData.canLay0]) (by simp[PyData.depth]) (by simp[PyData.hasDict]) rfl
   ·exact tt _
section
variable {P:Program}{w:World}{K:PySem.W.Frag}{mg:Str→Option Value}{base:Heap}{cs:Cs}
theorem zb4 :zf ["_law_thing","_law_due_here","_law_found"] ["_law_thing","_law_due_here"] (za oU):=⟨rfl,rfl,rfl,by decide +kernel,rfl,by decide +kernel,by decide +kernel⟩
theorem lq {f:Addr}{fd:FuncData}(F:Fun K "_law_right" "_law_right" oU f fd)(hm:mg "_law_right"=some (.ref f))(hb:Binds K fd ["_law_thing","_law_due_here"] [])(nb:NbT mg)(CT:Cal P w K mg base "_law_told" 12 qC):Cal P w K mg base "_law_right" 13 si:=by
 refine vf F hm hb zb4 (fun as Q h=>?_) (fun cdv A' outer s H E as Q hr h=>?_)
 ·obtain⟨d,e,rfl,_⟩:=h
  rfl
 ·obtain⟨d,e,rfl,td,q⟩:=h
  have nd:=zb4.nd
  refine zI 2 nd (zA CT (hr.mono (by decide)) (by rfl) (zb (zd 0 rfl (zi ⟨d,e,rfl,td,?_⟩))))
  obtain⟨sh,nd',eq,x,y,rfl,hy,yd⟩:=td.two
  refine yj ?_
  and_intros
  refine eqk sh sh nd' nd' ⟨true,congrArg PyData.bool eq,su rfl ?_⟩
  and_intros
  refine⟨_,yd,rfl,?_⟩
  rw[hy]
  and_intros
  exact q
abbrev nDu :List Str:=["_law_text","_law_lines","_law_rules","_law_number","_law_rule_here"]
theorem za3 :zf nDu ["_law_text"] (za ay):=⟨rfl,rfl,rfl,by decide +kernel,rfl,by decide +kernel,by decide +kernel⟩
theorem eG {f:Addr}{fd:FuncData}(F:Fun K "_law_due" "_law_due" ay f fd)(hm:mg "_law_due"=some (.ref f))(hb:Binds K fd ["_law_text"] [])(nb:NbT mg)(CRB:Cal P w K mg base "rule_by" 7 oA):Cal P w K mg base "_law_due" 8 ib:=by
 refine vf F hm hb za3 (fun as Q h=>?_) (fun cdv A' outer s H E as Q hr h=>?_)
 ·obtain⟨bs,la,rfl,_⟩:=h
  rfl
 ·obtain⟨bs,la,rfl,hL,q⟩:=h
  have nd:=za3.nd
  have h6:50000≤sizeLine:=by decide
  have lb:=hL.len
  refine zI 1 nd (EvL.d (uX (zd 0 rfl ⟨_,rfl,zF ⟨_,rfl,by decide +kernel,by have:=rO hL;omega,?_⟩⟩)))
  rw[sk hL]
  refine xu 2 nd (zU (zi (⟨_,rfl,zj4 rfl,?_⟩)))
  refine vE (pat:=.one 3) zv0 rfl (yg (i:=3) nd rfl (Or.inl rfl)) (tV (by rfl) nb.range ?_)
  and_intros
  have ll:((List.map PyData.str (bs++[la])).length:Int)-1=(bs.length:Int):=by
   rw[zj1,zk6,zp2]
   omega
  rw[ll]
  refine⟨by omega,by omega,?_⟩
  rw[Int.toNat_natCast]
  refine wH (fun i α=>i≤bs.length∧qA (bs.take i)∧∃v3 v4,α=[some (.dat (.str (txt bs la))),some (.dat (.list ((bs++[la]).map .str))),some (.own ((bs.take i).map rBy)),v3,v4]) ⟨zm1 _,fun b hb=>by simp at hb,none,none,rfl⟩ ?_ ?_
  ·rintro i d α hd ⟨ip,ha,v3,v4,rfl⟩
   have hi:i<bs.length:=by
    have:=(zj6.mp hd).1
    rwa [zj1,ye] at this
   rw[zl9,vc hi] at hd
   cases hd
   refine⟨_,rfl,?_⟩
   rw[Int.zero_add]
   have he:bs[i]?=some bs[i]:=zn0 hi
   have hb:=hL.all bs[i] (by simp)
   have hat:atI ((bs++[la]).map PyData.str) (i:Int)=some (.str bs[i]):=wR (by rw[zl9,zl4 hi,he];rfl)
   generalize bs[i]=b at he hb hat
   refine zI 4 nd (zA CRB (hr.mono (by decide)) (by rfl) (zb (oE hr.one (fun _ _=>rfl) (zd 1 rfl (zd 3 rfl (ixk rfl rfl hat (zi ⟨b,rfl,hb.1,hb.2.1,?_⟩)))))))
   refine yT (wI (zd 4 rfl ?_))
   cases hr1:rl b with
   |false=>
    rw[show (A.dat (rBy b)).d=.none from pq hr1]
    refine ym rfl ?_
    rw[uK ⟨b,he,hr1,ha⟩] at q
    and_intros
    exact q
   |true=>
    refine yv (show xE (rBy b)=false by unfold rl at hr1;simpa using hr1) (zB ?_)
    refine yJ 2 rfl (zd 4 rfl ⟨by rw[zj1,zr1];omega,?_⟩)
    refine zB ⟨by omega,fun c hc=>?_,some (.dat (.int (i:Int))),some (.dat (rBy b)),?_⟩
    ·rw[zp9,he] at hc
     rcases zn9.mp hc with hc|hc
     ·exact ha c hc
     ·rw[zk7.mp hc];exact hr1
    ·have mt:(bs.take (i+1)).map rBy=(bs.take i).map rBy++[rBy b]:=by rw[zp9,he,zq7];rfl
     rw[mt]
     rfl
  ·rintro α ⟨ip,ha,v3,v4,rfl⟩
   rw[zj1,ye,zs7] at ha ⊢
   rw[wq ha] at q
   refine uN 2 rfl ?_
   and_intros
   refine ixk rfl rfl (me bs la) ?_
   and_intros
   by_cases hq:la=""
   ·rw[if_pos hq] at q
    refine yv (by rw[zm0 hq];rfl) ?_
    and_intros
    rw[zj1]
    by_cases h24:bs.length≤24
    ·rw[if_pos h24] at q
     refine yv (zl5 (by omega)) ?_
     and_intros
     exact q
    ·rw[if_neg h24] at q
     refine ym (zm0 (by omega)) ?_
     and_intros
     exact q
   ·rw[if_neg hq] at q
    refine ym (by rw[zl5 hq];rfl) ?_
    and_intros
    rw[zj1]
    exact q
end
abbrev jZ :Stmt:=top 45
abbrev gE :Stmt:=top 51
def Pl (t:Str):Prop:=∀c∈t.cps.toList,32≤c∧c<128
theorem Pl.asc {t:Str}(h:Pl t):Asc t:=.of fun c hc=>(h c hc).2
theorem Pl.nl {t:Str}(h:Pl t):10∉t.cps.toList:=fun hc=>by have:=(h 10 hc).1;omega
theorem wZ {x y:Str}(hx:Pl x)(hy:Pl y):Pl (x++y):=fun c hc=>by
 rw[zp3,zn6,zn9] at hc
 exact hc.elim (hx c) (hy c)
theorem mR {s:Str}(hs:Pl s):∀{ts:List Str},(∀t∈ts,Pl t)→Pl (Str.join s ts)
 |[],_=>fun c hc=>by
  have:(Str.join s []).cps.toList=[]:=by rfl
  rw[this] at hc;cases hc
 |[x],h=>h x (by simp)
 |x::y::r,h=>wZ (wZ (h x (by simp)) hs) (mR hs (ts:=y::r) fun t ht=>h t (zj7 _ ht))
theorem wF {t:Str}(h:(t.cps.toList.all fun c=>decide (32≤c)&&decide (c<128))=true):Pl t:=fun c hc=>by
 have:=zq2.mp h c hc
 simpa using this
theorem uF (n:Nat):Pl (fig n):=fun c hc=>by have:=eV n c hc;omega
theorem qT {s:Str}(h:s∈words):Pl s∧s.length≤5:=by
 simp only[words,zj5,zk2,zn2] at h
 rcases h with rfl|rfl|rfl|rfl|rfl|rfl|rfl<;>exact⟨wF (by decide +kernel),by decide +kernel⟩
theorem lS {s:Str}{v:PyData}(h:WOk s v):∀t∈yf v,Pl t:=by
 intro t ht
 cases h with
 |non _=>rw[zk7.mp ht];exact wF (by decide +kernel)
 |bl b _=>rw[zk7.mp ht];cases b<;>exact wF (by decide +kernel)
 |int n _ _ _ hn=>rw[zk7.mp ht];exact uF _
 |deal a b ha hb=>
  rcases zj5.mp ht with rfl|ht
  ·exact uF _
  ·rw[zk7.mp ht];exact uF _
theorem ic {s:Str}{i j:Nat}{v:PyData}(hs:s∈words)(hi:i≤1000000)(hj:j≤1000000)(h:WOk s v):Pl (ui s i j v)∧(ui s i j v).length≤140:=by
 obtain⟨h2,h3⟩:=vk h
 unfold ui
 rw[show Txt.join " " (s::fig i::fig j::yf v)=Str.join " " (s::fig i::fig j::yf v) from zn8 _ _]
 refine⟨mR (wF (by decide +kernel)) fun t ht=>?_,?_⟩
 ·simp only[zj5] at ht
  rcases ht with rfl|rfl|rfl|ht
  ·exact (qT hs).1
  ·exact uF _
  ·exact uF _
  ·exact lS h t ht
 ·have f1:=xA (n:=i) (by omega)
  have f2:=xA (n:=j) (by omega)
  have w1:=(qT hs).2
  have e:(" ":Str).length=1:=by decide +kernel
  have h1:=zr7 " " (s::fig i::fig j::yf v)
  rw[e] at h1
  have h4:=StrLaws.sumLen_le (B:=50) (yf v) h2
  simp only[zm8,zw2,zk5] at h1
  omega
theorem xU {lo hi:Int}{v:PyData}(h:zO lo hi v=true)(h0:0≤lo):∃n:Nat,v=.int n∧(n:Int)≤hi:=by
 cases v with
 |int i=>
  have h:(decide (lo≤i)&&decide (i≤hi))=true:=h
  rw[zk3,zl7,zl7] at h
  exact⟨i.toNat,by rw[Int.toNat_of_nonneg (by omega)],by omega⟩
 |_=>cases h
theorem wok {s:Str}{v:PyData}(hs:s∈words)(h:zH (.str s) v=true):WOk s v:=by
 have none_of:isNone v=true→v=.none:=fun e=>by cases v<;>first|rfl|cases e
 have bool_of:isBool v=true→∃b,v=.bool b:=fun e=>by cases v<;>first|exact⟨_,rfl⟩|cases e
 have coins:∀{s:Str},s≠"come"→s≠"go"→s≠"deal"→vg v=true→WOk s v:=fun {s} a b c e=>by
  obtain⟨n,rfl,hn⟩:=xU (lo:=0) (hi:=1000000000000) e (by decide)
  exact .int n a b c (by omega)
 have few:∀{s:Str},s≠"come"→s≠"go"→s≠"deal"→zO 1 14 v=true→WOk s v:=fun {s} a b c e=>by
  obtain⟨n,rfl,hn⟩:=xU e (by decide)
  exact .int n a b c (by omega)
 simp only[words,zj5,zk2,zn2] at hs
 rcases hs with rfl|rfl|rfl|rfl|rfl|rfl|rfl
 ·rw[wB,zp8] at h
  rcases h with h|h
  ·rw[none_of h];exact .non (.inl rfl)
  ·exact coins (by decide +kernel) (by decide +kernel) (by decide +kernel) h
 ·rw[uv] at h
  obtain⟨b,rfl⟩:=bool_of h
  exact .bl b (.inl rfl)
 ·rw[qk] at h
  obtain⟨b,rfl⟩:=bool_of h
  exact .bl b (.inr rfl)
 ·rw[vW] at h
  exact few (by decide +kernel) (by decide +kernel) (by decide +kernel) h
 ·rw[uk] at h
  exact few (by decide +kernel) (by decide +kernel) (by decide +kernel) h
 ·rw[vi,zp8] at h
  rcases h with h|h
  ·rw[none_of h];exact .non (.inr rfl)
  ·unfold vU at h
   split at h
   ·rename_i m f
    rw[zk3] at h
    obtain⟨a,ea,ha⟩:=xU h.1 (by decide)
    obtain⟨b,rfl,hb⟩:=xU h.2 (by decide)
    cases ea
    exact .deal a b (by omega) (by omega)
   ·cases h
 ·rw[sg] at h
  exact coins (by decide +kernel) (by decide +kernel) (by decide +kernel) h
theorem hG {d:PyData}(h:yr d=true):∃(t:Str) (i j:Nat) (v:PyData),d=.tuple [.str t,.int i,.int j,v]∧t∈words∧i≤1000000∧j≤1000000∧WOk t v∧Pl (ui t i j v)∧(ui t i j v).length≤140:=by
 obtain⟨t,i,j,v,ht,rfl,i0,ij,j1,hw⟩:=uJ h
 obtain⟨i,rfl⟩:=zt6 i0
 obtain⟨j,rfl⟩:=zt6 (show 0≤j by omega)
 have hv:=wok ht hw
 have hi:i≤1000000:=by omega
 have hj:j≤1000000:=by omega
 exact⟨t,i,j,v,rfl,ht,hi,hj,hv,ic ht hi hj hv⟩
def PlT (d:PyData):Prop:=∃t:Str,d=.str t∧Pl t∧t.length≤300
def jh :List A→(A→Prop)→Prop:=fun as Q=>as=[.tape]∧∀t:Str,Pl t→t.length≤300→Q (.dat (.str t))
section
variable {P:Program}{w:World}{K:PySem.W.Frag}{mg:Str→Option Value}{base:Heap}{cs:Cs}
theorem zg2 :zf ["_law_script","_law_k"] ["_law_script","_law_k"] (za jZ):=⟨rfl,rfl,rfl,by decide +kernel,rfl,by decide +kernel,by decide +kernel⟩
theorem du {f:Addr}{fd:FuncData}(F:Fun K "_law_cell_at" "_law_cell_at" jZ f fd)(nb:NbT mg):zr P w K mg base CX0 1 f fd ["_law_script","_law_k"] (rj K):=by
 refine za7 F zg2 (fun cdv A' outer s H E a ns i hr hl sc i0=>?_)
 refine yT (gk (zd 1 rfl (qY 0 rfl sc (by rfl) nb.len ⟨_,_,rfl,rfl,?_⟩)))
 refine yw (fun h=>?_) (fun h=>zB ?_)
 ·exact yj (mE 0 rfl sc (fun _ _=>rfl) (zd 1 rfl ⟨i,rfl,i0,zq9 h,fun z=>⟨z,rfl⟩⟩))
 ·exact yj (zo ⟨_,rfl⟩)
theorem zd2 :zf ["_law_row","_law_text","_law_way","_law_odd"] ["_law_row"] (za gE):=⟨rfl,rfl,rfl,by decide +kernel,rfl,by decide +kernel,by decide +kernel⟩
theorem jt {f:Addr}{fd:FuncData}(F:Fun K "_law_line" "_law_line" gE f fd)(hm:mg "_law_line"=some (.ref f))(hb:Binds K fd ["_law_row"] [])(nb:NbT mg)(CD:Cal P w K mg base "_law_take" 1 wG)(CRl:Cal P w K mg base "_law_rule" 4 mB)(CRT:Cal P w K mg base "rule_text" 2 md):Cal P w K mg base "_law_line" 5 jh:=by
 refine vf F hm hb zd2 (fun as Q h=>?_) (fun cdv A' outer s H E as Q hr h=>?_)
 ·obtain⟨rfl,_⟩:=h
  rfl
 ·obtain⟨rfl,q⟩:=h
  have nd:=zd2.nd
  have h6:50000≤sizeLine:=by decide
  refine zI 1 nd (zA CRT (hr.mono (by decide)) (by rfl) (zb (zA CRl (hr.mono (by decide)) (by rfl) (zy 0 rfl (zb ?_)))))
  and_intros
  rename_i v1 h1 g1
  refine jd (fun d=>∃y:Int,d=.int y∧0≤y∧y≤1000000) rfl h1 g1 ⟨⟨_,rfl,by decide,by decide⟩,⟨_,rfl,by decide,by decide⟩,⟨_,rfl,by decide,by decide⟩,trivial⟩ (fun d ⟨yy,e,yy0,yy1⟩=>?_)
  subst e
  refine zi ⟨yy,rfl,yy0,yy1,fun d hR=>zi ?_⟩
  obtain⟨t,i,j,v,rfl,ht,hi,hj,hv,ta,tl⟩:=hG hR.rule
  refine⟨t,i,j,v,rfl,ht,hi,hj,hv,?_⟩
  generalize ui t i j v=tx at ta tl ⊢
  and_intros
  rename_i k k0 k1
  refine yw (fun h=>?_) (fun h=>?_)
  ·and_intros
   exact q _ ta (by omega)
  refine zB ?_
  have b1:Pl " ":=wF (by decide +kernel)
  have b2:Pl ";":=wF (by decide +kernel)
  have e1:(" ":Str).length=1:=by decide +kernel
  have e2:(";":Str).length=1:=by decide +kernel
  have l1:(tx++" ").length≤141:=by rw[zm3];omega
  refine zI 3 nd (EvL.d (zU (zb (xr (zd 1 rfl (zF ⟨_,_,rfl,rfl,by omega,?_⟩))))))
  refine zb (xr (zF (zd 1 rfl ⟨_,_,rfl,rfl,by omega,?_⟩)))
  refine zb (zF ?_)
  refine zb (xr (zd 1 rfl (zF ⟨_,_,rfl,rfl,by omega,?_⟩)))
  refine zb (zF (zb (zF ?_)))
  refine zb (xr (xr (zd 1 rfl (zF ⟨_,_,rfl,rfl,by omega,zd 1 rfl ⟨_,_,rfl,rfl,by omega,zi ⟨_,rfl,zj4 rfl,?_⟩⟩⟩))))
  have od:∀x:Str,Pl x→x.length≤300→PlT (.str x):=fun x h1 h2=>⟨x,rfl,h1,h2⟩
  refine yj (oE hr.one (fun _ _=>rfl) (zd 3 rfl (zd 2 rfl ?_)))
  refine jd PlT rfl k0 (by have:=of_decide_eq_false h;show k<7;omega) ⟨od _ (wZ ta b1) (by rw[zm3];omega),od _ (wZ b1 ta) (by rw[zm3];omega),od _ (wF (by decide +kernel)) (by decide +kernel),od _ (wZ ta b2) (by rw[zm3];omega),od _ (wF (by decide +kernel)) (by decide +kernel),od _ (wF (by decide +kernel)) (by decide +kernel),od _ (wZ (wZ ta b1) ta) (by rw[zm3,zm3];omega),trivial⟩ (fun d ⟨x,e,ha,hl⟩=>?_)
  subst e
  exact q x ha hl
end
theorem qF (bs:List Str)(la:Str):txt bs la=Str.join "\n" (bs++[la]):=zn8 _ _
theorem wm (x:Str):x++""=x:=yX (by rw[zp3,zn6,show ("":Str).cps.toList=[] by decide +kernel,zo0])
theorem eJ (x:Str):""++x=x:=yX (by rw[zp3,zn6,show ("":Str).cps.toList=[] by decide +kernel,zv1])
theorem sj (x y z:Str):x++y++z=x++(y++z):=yX (by simp only[zp3,zn6,List.append_assoc])
theorem xG (b:Str)(bs:List Str)(la:Str):txt (b::bs) la=b++"\n"++txt bs la:=by
 rw[qF,qF]
 cases bs with
 |nil=>rfl
 |cons c r=>rfl
theorem mn :∀(bs:List Str) (la x:Str),txt bs la++x=txt bs (la++x)
 |[],la,x=>by rw[qF,qF];rfl
 |b::r,la,x=>by rw[xG,xG,sj,mn r la x]
theorem oW :∀(bs:List Str) (la:Str),txt bs la++"\n"=txt (bs++[la]) ""
 |[],la=>by
  rw[qF,qF]
  show la++"\n"=la++"\n"++""
  rw[wm]
 |b::r,la=>by rw[List.cons_append,xG,xG,sj,oW r la]
theorem tS :∀ls:List Str,Str.join "" (ls.map (·++"\n"))=txt ls ""
 |[]=>by rw[qF];rfl
 |[x]=>by
  rw[xG,qF]
  show x++"\n"=x++"\n"++""
  rw[wm]
 |x::y::r=>by
  rw[xG,←tS (y::r)]
  show x++"\n"++""++Str.join "" ((y::r).map (·++"\n"))=_
  rw[wm]
theorem jJ {bs:List Str}{la x:Str}(e:x=txt bs la++"\n"):Txt.slice x none (some (x.length-1))=txt bs la:=by
 have hl:x.length=(txt bs la).length+1:=by rw[e,zm3];rfl
 have hx:x.length=x.cps.toList.length:=by simp[Str.length]
 have ht:(txt bs la).length=(txt bs la).cps.toList.length:=by simp[Str.length]
 rw[show Txt.slice x none (some ((x.length:Int)-1))=StrLaws.sliceText x none (some ((x.length:Int)-1)) from rfl,StrLaws.sliceText_to ⟨by omega,by omega⟩]
 refine yX ?_
 rw[List.drop_zero,Int.sub_zero,show ((x.length:Int)-1).toNat=(txt bs la).cps.toList.length by omega]
 show List.take _ x.cps.toList=_
 rw[e,zp3,zn6,List.take_left]
abbrev rB :Stmt:=top 55
def LsOk (ls:List Str):Prop:=∀t∈ls,Pl t∧t.length≤300
theorem wC {ls:List Str}{la:Str}(h:LsOk ls)(hl:ls.length≤40)(ha:Pl la∧la.length≤300):Lns ls la:=by
 refine⟨fun t ht=>?_,by omega⟩
 have:Pl t∧t.length≤300:=by
  rcases zn9.mp ht with h1|h1
  ·exact h t h1
  ·rw[zk7.mp h1];exact ha
 exact⟨this.1.asc,by omega,this.1.nl⟩
theorem so {X:Cx}{α α0:Ev}{E:yi}{sts:List Stmt}(hl:α0.length=α.length)(le:∀(i:Nat) a,α0[i]?=some (some a)→α[i]?=some (some a))(h:SvS X α0 sts E):SvS X α sts E:=fun F σ H D m r=>h F σ H D (m.forget hl le) r
theorem dD {ls:List Str}(h:LsOk ls)(hl:ls.length≤27):JoinOk "" (ls.map (·++"\n"))=true:=by
 unfold JoinOk Builtin.Str.tooLong
 rw[StrLaws.joinTotal,zt8,zo9]
 have e:("":Str).length=0:=by decide +kernel
 have:=StrLaws.sumLen_le (B:=301) (ls.map (·++"\n")) fun y hy=>by
  obtain⟨x,hx,rfl⟩:=List.mem_map.mp hy
  have:=(h x hx).2
  rw[zm3]
  show x.length+1≤301
  omega
 have h6:50000≤sizeLine:=by decide
 rw[zj1] at this
 have h7:ls.length*301≤27*301:=Nat.mul_le_mul_right _ hl
 rw[e,Nat.mul_zero]
 omega
theorem dh :vz [""] ""=vR 0:=uK ⟨"",rfl,by decide +kernel,fun b hb=>by cases hb⟩
theorem gI :rBy "fee 0 0 0"=.tuple [.str "fee",.int 0,.int 0,.int 0]:=by
 have h0:zP "0"=.int 0:=by unfold zP;rw[if_pos (by decide +kernel)];rfl
 have hs:Txt.split "fee 0 0 0" " "=[("fee":Str),"0","0","0"]:=by decide +kernel
 have hw:wBy [("0":Str)]=.int 0:=by
  unfold wBy
  rw[if_neg (by decide +kernel),if_neg (by decide +kernel),if_neg (by decide +kernel)]
  show zc1 [zP "0"]=_
  rw[h0];rfl
 unfold rBy
 rw[hs]
 have hd:iW [("fee":Str),"0","0","0"]=.tuple [.str "fee",.int 0,.int 0,.int 0]:=by
  show PyData.tuple [.str "fee",zP "0",zP "0",wBy [("0":Str)]]=_
  rw[h0,hw]
 rw[hd,if_pos (by decide +kernel)]
theorem jN :vz ["fee 0 0 0"] ""=mK [.tuple [.str "fee",.int 0,.int 0,.int 0]]:=by
 rw[wq (fun b hb=>by rw[zk7.mp hb];unfold rl;rw[gI];rfl),if_pos rfl,if_pos (by decide)]
 show mK [rBy "fee 0 0 0"]=_
 rw[gI]
section
variable {P:Program}{w:World}{K:PySem.W.Frag}{mg:Str→Option Value}{base:Heap}{cs:Cs}
abbrev nL' :List Str:=["_law_row","_law_many","_law_lines","_law_k","_law_draws","_law_text","_law_way","_law_thing"]
theorem aR :zf ("_law_script"::nL') ["_law_script"] (za rB):=⟨rfl,rfl,rfl,by decide +kernel,rfl,by decide +kernel,by decide +kernel⟩
abbrev stL (a:Addr)(m:Int)(ls:List Str)(o4 o5:Option A):Ev:=[some (.at a),some .tape,some (.dat (.int m)),some (.own (ls.map .str)),o4,o5,none,none,none]
set_option maxHeartbeats 8000000 in
theorem cG {f fC:Addr}{fd fdC:FuncData}(F:Fun K "law" "law" rB f fd)(nb:NbT mg)(GC:zr P w K mg base CX0 1 fC fdC ["_law_script","_law_k"] (rj K))(mC:mg "_law_cell_at"=some (.ref fC))(kC:PySem.W.keepIn K (.ref fC)=true)(bC:Binds K fdC ["_law_script","_law_k"] [])
  (CB:Cal P w K mg base "_law_begin" 1 nJ) (CD:Cal P w K mg base "_law_take" 1 wG) (CL:Cal P w K mg base "_law_line" 5 jh) (CDu:Cal P w K mg base "_law_due" 8 ib) (CRi:Cal P w K mg base "_law_right" 13 si):zr P w K mg base CX0 14 f fd ["_law_script"] (um K):=by
 refine zi1 (k:=13) F aR (fun cdv A' outer s H E a ns hr hl sc=>?_)
 have nd:=aR.nd
 have h6:50000≤sizeLine:=by decide
 refine xu 1 nd (rK CB (hr.mono (by decide)) (by rfl) (zb (fH 0 GC (hr.mono (by decide)) (by rfl) mC kC bC rfl sc hl (zo ⟨0,rfl,by decide,fun z=>zi ⟨z,rfl,fun x y y0 y1=>⟨_,rfl,?_⟩⟩⟩))))
 refine bo 1 rfl y0 y1 ?_
 and_intros
 rename_i v1 h1 g1 v2 h2 g2 v3 h3 g3
 refine jd (fun d=>∃m:Int,d=.int m∧0≤m∧m≤27) rfl h3 g3 ⟨⟨_,rfl,h1,by omega⟩,⟨_,rfl,by decide,by decide⟩,⟨_,rfl,by decide,by decide⟩,⟨_,rfl,h2,by omega⟩,trivial⟩ (fun d ⟨m,e,m0,m1⟩=>?_)
 subst e
 refine xu 3 nd (zU (zi ⟨_,rfl,zj4 rfl,?_⟩))
 refine vE (pat:=.one 4) zv0 rfl (yg (i:=4) nd rfl (Or.inl rfl)) (tV (by rfl) nb.range (zd 2 rfl ⟨m,rfl,by omega,by omega,?_⟩))
 have nine:∀{α:Ev} {b0 b1 b2 b3 b4 b5:Option A} {o4 o5:Option A},α=[b0,b1,b2,b3,b4,b5,none,none,none]→(o4=none∨o4=b4)→(o5=none∨o5=b5)→∀(j:Nat) c,([b0,b1,b2,b3,o4,o5,none,none,none]:Ev)[j]?=some (some c)→α[j]?=some (some c):=by
  rintro α b0 b1 b2 b3 b4 b5 o4 o5 rfl h4 h5 j c hj
  match j,hj with
  |0,hj=>exact hj
  |1,hj=>exact hj
  |2,hj=>exact hj
  |3,hj=>exact hj
  |4,hj=>rcases h4 with rfl|rfl;cases hj;exact hj
  |5,hj=>rcases h5 with rfl|rfl;cases hj;exact hj
  |6,hj=>exact hj
  |7,hj=>exact hj
  |8,hj=>exact hj
  |n+9,hj=>exact hj
 have more:∀{ls:List Str} {tx:Str},LsOk ls→Pl tx→tx.length≤300→LsOk (ls++[tx]):=fun {ls tx} h tp tl t ht=>by
  rcases zn9.mp ht with h1|h1
  ·exact h t h1
  ·rw[zk7.mp h1];exact⟨tp,tl⟩
 have mapA:∀(ls:List Str) (tx:Str),(ls++[tx]).map PyData.str=ls.map PyData.str++[.str tx]:=fun ls tx=>by rw[zq7];rfl
 refine wH (fun i α=>∃ls o4 o5,α=stL a m ls o4 o5∧LsOk ls∧ls.length=i) ⟨[],none,none,rfl,fun t ht=>by simp at ht,rfl⟩ ?_ ?_
 ·rintro i d α hd ⟨ls,o4,o5,rfl,ok,ll⟩
  have hi:i<m.toNat:=by
   have:=(zj6.mp hd).1
   rwa [zj1,ye] at this
  rw[zl9,vc hi] at hd
  cases hd
  refine⟨_,rfl,?_⟩
  rw[Int.zero_add]
  refine so (α0:=stL a m ls (some (.dat (.int i))) none) rfl (nine (b4:=some (.dat (.int i))) (b5:=o5) rfl (.inr rfl) (.inl rfl)) ?_
  refine aw 5 1 nd rfl ?_
  refine yT (gk (xl (zd 4 rfl (zo ⟨_,_,rfl,rfl,qY 0 rfl sc (by rfl) nb.len ⟨_,_,rfl,rfl,?_⟩⟩))))
  refine yw (fun h=>?_) (fun h=>?_)
  ·refine xu 5 nd (rK CB (hr.mono (by decide)) (by rfl) (zb (mE 0 rfl sc (fun _ _=>rfl) (xl (zd 4 rfl (zo ⟨_,_,rfl,rfl,_,rfl,by omega,zq9 h,fun z=>zi ⟨z,rfl,fun x y y0 y1=>⟨_,rfl,?_⟩⟩⟩))))))
   refine zB ?_
   refine eh 1 5 rfl rfl y0 y1 (fun t=>?_)
   refine yJ 3 rfl (zA CL (hr.mono (by decide)) (by rfl) (zy 5 rfl (zi ⟨rfl,fun tx tp tl=>⟨by rw[zj1];omega,?_⟩⟩)))
   refine zB ⟨rfl,ls++[tx],some (.dat (.int i)),none,?_,more ok tp tl,by rw[zk6,ll];rfl⟩
   unfold stL
   rw[mapA]
   rfl
  ·refine zB ?_
   refine yJ 3 rfl (zA CL (hr.mono (by decide)) (by rfl) (zy 5 rfl (zi ⟨rfl,fun tx tp tl=>⟨by rw[zj1];omega,?_⟩⟩)))
   refine zB ⟨ls++[tx],some (.dat (.int i)),some .tape,?_,more ok tp tl,by rw[zk6,ll];rfl⟩
   unfold stL
   rw[mapA]
   rfl
 ·rintro α ⟨ls,o4,o5,rfl,ok,ll⟩
  rw[zj1,ye] at ll
  refine so (α0:=stL a m ls none none) rfl (nine (b4:=o4) (b5:=o5) rfl (.inl rfl) (.inl rfl)) ?_
  refine uN 3 rfl ?_
  have l27:ls.length≤27:=by omega
  refine zI 6 nd (mD (zF ⟨_,rfl,EvL.d (pS ["_law_line_here"] [none] (.one 0) (uh (zd 3 rfl ⟨_,rfl,by rw[zj1];omega,?_⟩)))⟩))
  refine wN (l:=ls) (g:=fun x=>.str x) (fun x=>.str (x++"\n")) (fun x hx=>⟨_,rfl,fun C s2 H2 fp Q h=>?_⟩) ?_
  ·exact xr (zd 0 rfl (zF ⟨_,_,rfl,rfl,by have:=(ok x hx).2;show x.length+1≤sizeLine;omega,h⟩))
  refine⟨ls.map (·++"\n"),by rw[zv1,List.map_map];rfl,dD ok l27,?_⟩
  rw[show Txt.join "" (ls.map (·++"\n"))=txt ls "" from (zn8 _ _).trans (tS ls)]
  have pe:Pl ""∧("":Str).length≤300:=⟨wF (by decide +kernel),by decide +kernel⟩
  have pf:Pl "fee 0 0 0"∧("fee 0 0 0":Str).length≤300:=⟨wF (by decide +kernel),by decide +kernel⟩
  have tl:=rO (wC ok (by omega) pe)
  have tnl:wX (.str "\n") (.tuple [.str "text",.int 0]):=by
   have h:=wX.txt (wC (ls:=[("":Str)]) (la:="") (fun t ht=>by rw[zk7.mp ht];exact pe) (by decide) pe)
   rw[dh,show txt [("":Str)] ""="\n" by decide +kernel] at h
   exact h
  have tfe:wX (.str "fee 0 0 0\n") (.tuple [.str "book",.list [.tuple [.str "fee",.int 0,.int 0,.int 0]]]):=by
   have h:=wX.txt (wC (ls:=[("fee 0 0 0":Str)]) (la:="") (fun t ht=>by rw[zk7.mp ht];exact pf) (by decide) pe)
   rw[jN,show txt [("fee 0 0 0":Str)] ""="fee 0 0 0\n" by decide +kernel] at h
   exact h
  refine zI 7 nd (zA CD (hr.mono (by decide)) (by rfl) (zy 1 rfl (zb (zo (zi ⟨8,rfl,by decide,by decide,fun k k0 k1=>?_⟩)))))
  refine pI (fun α=>∃bs la,α=[some (.at a),some .tape,some (.dat (.int m)),some (.dat (.list (ls.map .str))),none,none,some (.dat (.str (txt bs la))),some (.dat (.int k)),none]∧Lns bs la) ?_ ?_
  ·and_intros
   refine yw (fun _=>?_) (fun _=>?_)
   ·refine zI 6 nd (cQ (zd 6 rfl (rD (sZ ?_))))
    and_intros
    refine⟨by omega,?_⟩
    and_intros
    refine⟨by omega,?_⟩
    rcases List.eq_nil_or_concat ls with rfl|⟨bs,la,rfl⟩
    ·repeat refine zB ?_
     refine⟨[],"",?_,wC ok (by omega) pe⟩
     rw[show Txt.slice (txt [] "") none (some (if ((txt [] "").length:Int)-1 > 0 then ((txt [] "").length:Int)-1 else 0))=txt [] "" by decide +kernel]
     rfl
    ·rw[List.concat_eq_append] at *
     have e:=(oW bs la).symm
     repeat refine zB ?_
     refine⟨bs,la,?_,wC (fun t ht=>ok t (by simp[ht])) (by rw[zk6] at l27;omega) (ok la (by simp))⟩
     have e1:(txt (bs++[la]) "").length=(txt bs la).length+1:=by rw[e,zm3];rfl
     rw[show (if ((txt (bs++[la]) "").length:Int)-1 > 0 then ((txt (bs++[la]) "").length:Int)-1 else 0)=((txt (bs++[la]) "").length:Int)-1 by split<;>omega,jJ e]
     rfl
   and_intros
   refine yw (fun _=>?_) (fun _=>?_)
   ·refine zI 6 nd (xr (zd 6 rfl (zF ⟨_,_,rfl,rfl,by show (txt ls "").length+1≤sizeLine;omega,?_⟩)))
    rw[oW]
    repeat refine zB ?_
    exact⟨ls++[("":Str)],"",rfl,wC (more ok pe.1 pe.2) (by rw[zk6];show ls.length+1≤40;omega) pe⟩
   and_intros
   refine yw (fun _=>?_) (fun _=>?_)
   ·refine zI 6 nd (xr (zd 6 rfl (zF ⟨_,_,rfl,rfl,by show (txt ls "").length+9≤sizeLine;omega,?_⟩)))
    rw[mn,eJ]
    repeat refine zB ?_
    exact⟨ls,"fee 0 0 0",rfl,wC ok (by omega) pf⟩
   ·repeat refine zB ?_
    exact⟨ls,"",rfl,wC ok (by omega) pe⟩
  ·rintro α ⟨bs,la,rfl,hL⟩
   and_intros
   refine⟨bs,la,rfl,hL,?_⟩
   and_intros
   refine⟨_,_,rfl,.txt hL,?_⟩
   and_intros
   refine⟨bs,la,rfl,hL,?_⟩
   and_intros
   refine⟨_,_,rfl,.txt hL,?_⟩
   and_intros
   refine vE (pat:=.one 8) zv0 rfl (yg (i:=8) nd rfl (Or.inl rfl)) (uh (EvL.d (zU ?_)))
   and_intros
   refine⟨_,_,rfl,.no rfl rfl,?_⟩
   and_intros
   refine⟨_,_,rfl,.no rfl rfl,?_⟩
   and_intros
   refine⟨_,_,rfl,.no rfl rfl,?_⟩
   and_intros
   refine⟨_,_,rfl,.no rfl rfl,?_⟩
   and_intros
   refine⟨_,_,rfl,.no rfl rfl,?_⟩
   and_intros
   refine⟨_,_,rfl,.no rfl rfl,?_⟩
   and_intros
   refine yj ?_
   and_intros
   refine⟨_,_,rfl,tnl,?_⟩
   and_intros
   refine⟨_,_,rfl,tfe,?_⟩
   and_intros
   rfl
end
def FnF (K:PySem.W.Frag)(f:Addr)(nm ql:Str)(st:Stmt):Prop:=∃fd,Fun K nm ql st f fd
theorem mkF {K:PySem.W.Frag}{f:Addr}{nm ql:Str}{st:Stmt}{oc kV dc pm cd ct:Value}{od an:Option Addr}{sl:Array (Option Value)}(l:K.lookup f=some ⟨oc,od,.func (PySem.W.fnOf nm ql (zV st) (zv st) (za st) .none kV dc pm an cd ct),sl⟩)(c:PySem.W.codeIn K cd ql=true)(k:PySem.W.keepIn K (.ref f)=true):FnF K f nm ql st:=⟨_,iS l c k⟩
def FnG (K:PySem.W.Frag)(f:Addr)(nm:Str)(st:Stmt):Prop:=PySem.W.nsIn K mainGlobals nm=some (some (.ref f))∧FnF K f nm nm st
theorem mkG {K:PySem.W.Frag}{f:Addr}{nm:Str}{st:Stmt}{oc kV dc pm cd ct:Value}{od an:Option Addr}{sl:Array (Option Value)}(a:PySem.W.nsIn K mainGlobals nm=some (some (.ref f)))(l:K.lookup f=some ⟨oc,od,.func (PySem.W.fnOf nm nm (zV st) (zv st) (za st) .none kV dc pm an cd ct),sl⟩)(c:PySem.W.codeIn K cd nm=true)(k:PySem.W.keepIn K (.ref f)=true):FnG K f nm st:=⟨a,mkF l c k⟩
theorem FnF.get {K:PySem.W.Frag}{f:Addr}{nm ql:Str}{st:Stmt}(ps:List Str)(h:FnF K f nm ql st)(hb:∀(kV doc pm:Value) (an:Option Addr) (cdv ct:Value) (us:List Value),us.length=ps.length→bindArgs (PySem.W.fnOf nm ql (zV st) (zv st) (za st) .none kV doc pm an cdv ct) ⟨us,[]⟩=pure (ps.zip us)):∃fd,Fun K nm ql st f fd∧Binds K fd ps []:=by
 obtain⟨fd,F⟩:=h
 exact⟨fd,F,F.binds hb⟩
theorem FnG.get {K:PySem.W.Frag}{h0:Heap}{mg:Str→Option Value}{f:Addr}{nm:Str}{st:Stmt}(ps:List Str)(h:FnG K f nm st)(X:K.In h0)(G:h0.Ns mainGlobals mg)(hb:∀(kV doc pm:Value) (an:Option Addr) (cdv ct:Value) (us:List Value),us.length=ps.length→bindArgs (PySem.W.fnOf nm nm (zV st) (zv st) (za st) .none kV doc pm an cdv ct) ⟨us,[]⟩=pure (ps.zip us)):∃fd,mg nm=some (.ref f)∧Fun K nm nm st f fd∧Binds K fd ps []:=by
 obtain⟨a,fd,F⟩:=h
 exact⟨fd,zm4 X G a,F,F.binds hb⟩
theorem mkR {K:PySem.W.Frag}{C gi gt ge gw:Addr}(pg:PySem.W.plainGet K C Str.empty=true)(hd:PySem.W.hasDictIn K C=true)(po:PySem.W.plainOver K C=true)(sa:PySem.W.findIn K (.ref C) "__setattr__"=some (some (.builtin "object.__setattr__")))(n1:PySem.W.findIn K (.ref C) "first"=some none)(n2:PySem.W.findIn K (.ref C) "last"=some none)(n3:PySem.W.findIn K (.ref C) "worth"=some none)(mk:PySem.W.makesIn K C=true)(f1:PySem.W.findIn K (.ref C) "__init__"=some (some (.ref gi)))(i1:PySem.W.isFn K (.ref gi)=true)(kc:PySem.W.keepIn K (.ref C)=true)(f2:PySem.W.findIn K (.ref C) "told"=some (some (.ref gt)))(i2:PySem.W.isFn K (.ref gt)=true)(k2:PySem.W.keepIn K (.ref gt)=true)(f3:PySem.W.findIn K (.ref C) "tells"=some (some (.ref ge)))(i3:PySem.W.isFn K (.ref ge)=true)(k3:PySem.W.keepIn K (.ref ge)=true)(f4:PySem.W.findIn K (.ref C) "word"=some (some (.ref gw)))(i4:PySem.W.isFn K (.ref gw)=true)(k4:PySem.W.keepIn K (.ref gw)=true):wj K C gi gt ge gw:=⟨⟨pg,hd,po,sa⟩,n1,n2,n3,⟨mk,f1,i1,kc⟩,⟨f2,i2,k2⟩,⟨f3,i3,k3⟩,⟨f4,i4,k4⟩⟩
theorem kh {K:PySem.W.Frag}{dT:Addr}{oc kV doc pm cdv ct:Value}{od an:Option Addr}{n:Nat}{sl:Array (Option Value)}(lk:K.lookup dT=some ⟨oc,od,.seq #[.none] n,sl⟩):
  Binds K (PySem.W.fnOf "__init__" "Book.__init__" (zV yA) (zv yA) (za yA) (.ref dT) kV doc pm an cdv ct) ["self","rules"] [.none]:=fun s us hk hl=>by
 match us,(show us.length=1 by rw[zk6] at hl;simpa using hl) with
 |[u],_=>exact BindsTo.of_defaults (T:=dT) rfl (hk _ _ lk) rfl rfl rfl
theorem tO {K:PySem.W.Frag}{dT:Addr}{oc kV doc pm cdv ct:Value}{od an:Option Addr}{n:Nat}{sl:Array (Option Value)}(lk:K.lookup dT=some ⟨oc,od,.seq #[.none] n,sl⟩):
  Binds K (PySem.W.fnOf "__init__" "Book.__init__" (zV yA) (zv yA) (za yA) (.ref dT) kV doc pm an cdv ct) ["self","rules"] []:=fun s us hk hl=>by
 rw[zo0] at hl ⊢
 match us,hl with
 |[u,v],_=>exact BindsTo.of_defaults (T:=dT) rfl (hk _ _ lk) rfl rfl rfl
theorem zf6 {P:Str→Prop}(h1:P "price")(h2:P "come")(h3:P "go")(h4:P "least")(h5:P "most")(h6:P "deal")(h7:P "fee"):∀u∈words,P u:=by
 intro u hu
 simp only[words,zj5,zk2,zn2] at hu
 rcases hu with rfl|rfl|rfl|rfl|rfl|rfl|rfl<;>assumption
set_option maxHeartbeats 8000000 in
theorem us1 {α:Type}{p:List α→Prop}(h:∀a,p [a])(us:List α)(hl:us.length=1):p us:=by
 obtain⟨a,rfl⟩:=List.length_eq_one_iff.mp hl
 exact h a
theorem us2 {α:Type}{p:List α→Prop}(h:∀a b,p [a,b])(us:List α)(hl:us.length=2):p us:=by
 cases us with
 |nil=>cases hl
 |cons a us=>exact us1 (p:=fun us=>p (a::us)) (h a) us (Nat.succ.inj hl)
theorem us3 {α:Type}{p:List α→Prop}(h:∀a b c,p [a,b,c])(us:List α)(hl:us.length=3):p us:=by
 cases us with
 |nil=>cases hl
 |cons a us=>exact us2 (p:=fun us=>p (a::us)) (h a) us (Nat.succ.inj hl)
theorem us4 {α:Type}{p:List α→Prop}(h:∀a b c d,p [a,b,c,d])(us:List α)(hl:us.length=4):p us:=by
 cases us with
 |nil=>cases hl
 |cons a us=>exact us3 (p:=fun us=>p (a::us)) (h a) us (Nat.succ.inj hl)
set_option maxHeartbeats 0 in
theorem all_mk {l:PySem.W.OpenLaw}{w:World}{K:PySem.W.Frag}{h:Heap}{mg:Str→Option Value}{fa f1 f2 f3 f4 f5 f6 f7 f8 f9 f10 f11 f12 f13 f14 f15 f16 f17 f18 f19 f20 f21 f22 f23 f24 f25 f26 f27 f28 f29 f30 f31 g_init g_told g_tells g_wPrice g_wCome g_wGo g_wLeast g_wMost g_wDeal g_wFee CPrice CCome CGo CLeast CMost CDeal CFee CB dT g_binit g_brules CSt CX_NoRule CX_NoText CX_TooMany gx_NoText:Addr}(X:K.In h)(G:h.Ns mainGlobals mg)(hfa:mg "law"=some (.ref fa))
  {od31 an31 odB anB odT:Option Addr} {sl31 slB slT:Array (Option Value)} {oc31 kV31 dc31 pm31 ct31 cd31 ocB kVB dcB pmB ctB cdB ocT:Value} {tk1 tk2 tk3 tk4 ts1:Tok} {nT:Nat}
  (q1:FnG K f1 "is_whole" sX)
  (q2:FnG K f2 "is_whole_within" rY)
  (q3:FnG K f3 "is_pair" jI)
  (q4:FnG K f4 "is_day" cM)
  (q5:FnG K f5 "is_pair_of_days" jq)
  (q6:FnG K f6 "is_stretch" uu)
  (q7:FnG K f7 "is_coins" oH)
  (q8:FnG K f8 "is_deal" sM)
  (q9:FnG K f9 "is_worth" oS)
  (q10:FnG K f10 "is_rule" rN)
  (q11:FnG K f11 "made" jw)
  (q12:FnG K f12 "rule_of" sP)
  (q13:FnG K f13 "kept_rules" pz)
  (q14:FnG K f14 "worth_text" pO)
  (q15:FnG K f15 "rule_text" pM)
  (q16:FnG K f16 "is_number_text" jE)
  (q17:FnG K f17 "number_by" iz)
  (q18:FnG K f18 "worth_by" bY)
  (q19:FnG K f19 "rule_by" br)
  (q20:FnG K f20 "read_book" iy)
  (q21:FnG K f21 "_law_cell_at" jZ)
  (q22:FnG K f22 "_law_begin" oJ)
  (q23:FnG K f23 "_law_take" iw)
  (q24:FnG K f24 "_law_coins" qc)
  (q25:FnG K f25 "_law_worth" rn)
  (q26:FnG K f26 "_law_rule" oQ)
  (q27:FnG K f27 "_law_line" gE)
  (q28:FnG K f28 "_law_told" pY)
  (q29:FnG K f29 "_law_due" ay)
  (q30:FnG K f30 "_law_right" oU)
  (a31:PySem.W.nsIn K mainGlobals "law"=some (some (.ref f31)))
  (l31:K.lookup f31=some ⟨oc31,od31,.func (PySem.W.fnOf "law" "law" (zV rB) (zv rB) (za rB) .none kV31 dc31 pm31 an31 cd31 ct31),sl31⟩)
  (c31:PySem.W.codeIn K cd31 "law"=true)
  (k31:PySem.W.keepIn K (.ref f31)=true)
  (aCPrice:PySem.W.nsIn K mainGlobals "Price"=some (some (.ref CPrice)))
  (aCCome:PySem.W.nsIn K mainGlobals "Come"=some (some (.ref CCome)))
  (aCGo:PySem.W.nsIn K mainGlobals "Go"=some (some (.ref CGo)))
  (aCLeast:PySem.W.nsIn K mainGlobals "Least"=some (some (.ref CLeast)))
  (aCMost:PySem.W.nsIn K mainGlobals "Most"=some (some (.ref CMost)))
  (aCDeal:PySem.W.nsIn K mainGlobals "Deal"=some (some (.ref CDeal)))
  (aCFee:PySem.W.nsIn K mainGlobals "Fee"=some (some (.ref CFee)))
  (RPrice:wj K CPrice g_init g_told g_tells g_wPrice)
  (RCome:wj K CCome g_init g_told g_tells g_wCome)
  (RGo:wj K CGo g_init g_told g_tells g_wGo)
  (RLeast:wj K CLeast g_init g_told g_tells g_wLeast)
  (RMost:wj K CMost g_init g_told g_tells g_wMost)
  (RDeal:wj K CDeal g_init g_told g_tells g_wDeal)
  (RFee:wj K CFee g_init g_told g_tells g_wFee)
  (q_init:FnF K g_init "__init__" "Rule.__init__" nH)
  (q_told:FnF K g_told "told" "Rule.told" jv)
  (q_wPrice:FnF K g_wPrice "word" "Price.word" sJ)
  (q_wCome:FnF K g_wCome "word" "Come.word" ny)
  (q_wGo:FnF K g_wGo "word" "Go.word" cW)
  (q_wLeast:FnF K g_wLeast "word" "Least.word" rF)
  (q_wMost:FnF K g_wMost "word" "Most.word" oV)
  (q_wDeal:FnF K g_wDeal "word" "Deal.word" pP)
  (q_wFee:FnF K g_wFee "word" "Fee.word" kO)
  (aCB:PySem.W.nsIn K mainGlobals "Book"=some (some (.ref CB)))
  (fi_binit:PySem.W.findIn K (.ref CB) "__init__"=some (some (.ref g_binit)))
  (is_binit:PySem.W.isFn K (.ref g_binit)=true)
  (l_binit:K.lookup g_binit=some ⟨ocB,odB,.func (PySem.W.fnOf "__init__" "Book.__init__" (zV yA) (zv yA) (za yA) (.ref dT) kVB dcB pmB anB cdB ctB),slB⟩)
  (c_binit:PySem.W.codeIn K cdB "Book.__init__"=true)
  (k_binit:PySem.W.keepIn K (.ref g_binit)=true)
  (lT:K.lookup dT=some ⟨ocT,odT,.seq #[.none] nT,slT⟩)
  (fi_brules:PySem.W.findIn K (.ref CB) "rules"=some (some (.ref g_brules)))
  (is_brules:PySem.W.isFn K (.ref g_brules)=true)
  (q_brules:FnF K g_brules "rules" "Book.rules" wK)
  (pgB:PySem.W.plainGet K CB Str.empty=true)
  (hdB:PySem.W.hasDictIn K CB=true)
  (poB:PySem.W.plainOver K CB=true)
  (saB:PySem.W.findIn K (.ref CB) "__setattr__"=some (some (.builtin "object.__setattr__")))
  (mkB:PySem.W.makesIn K CB=true)
  (kcB:PySem.W.keepIn K (.ref CB)=true)
  (noB:PySem.W.findIn K (.ref CB) "kept"=some none)
  (z1:PySem.W.nsIn K mainGlobals "abs"=some none)
  (z2:PySem.W.nsIn K mainGlobals "list"=some none)
  (z3:PySem.W.nsIn K mainGlobals "len"=some none)
  (z4:PySem.W.nsIn K mainGlobals "range"=some none)
  (z5:PySem.W.nsIn K mainGlobals "min"=some none)
  (z6:PySem.W.nsIn K mainGlobals "max"=some none)
  (z7:PySem.W.nsIn K mainGlobals "sorted"=some none)
  (z8:PySem.W.nsIn K mainGlobals "isinstance"=some none)
  (z9:PySem.W.nsIn K mainGlobals "int"=some none)
  (z10:PySem.W.nsIn K mainGlobals "bool"=some none)
  (z11:PySem.W.nsIn K mainGlobals "str"=some none)
  (z12:PySem.W.nsIn K mainGlobals "tuple"=some none)
  (z13:PySem.W.nsIn K mainGlobals "all"=some none)
  (z14:PySem.W.nsIn K mainGlobals "any"=some none)
  (z15:PySem.W.nsIn K mainGlobals "repr"=some none)
  (z16:PySem.W.nsIn K mainGlobals "zip"=some none)
  (z17:PySem.W.nsIn K mainGlobals "enumerate"=some none)
  (z18:PySem.W.nsIn K mainGlobals "reversed"=some none)
  (z19:PySem.W.nsIn K mainGlobals "sum"=some none)
  (z20:PySem.W.nsIn K mainGlobals "ValueError"=some none)
  (gi1:PySem.W.nsIn K mainGlobals "LAST_DAY"=some (some (.int 1000000 tk1)))
  (gi2:PySem.W.nsIn K mainGlobals "MOST_NIGHTS"=some (some (.int 14 tk2)))
  (gi3:PySem.W.nsIn K mainGlobals "MOST_COINS"=some (some (.int 1000000000000 tk3)))
  (gi4:PySem.W.nsIn K mainGlobals "MOST_RULES"=some (some (.int 24 tk4)))
  (gs1:PySem.W.nsIn K mainGlobals "FIGURES"=some (some (.str "0123456789" ts1)))
  (aSt:PySem.W.nsIn K mainGlobals "StayError"=some (some (.ref CSt)))
  (aX_NoRule:PySem.W.nsIn K mainGlobals "NoRule"=some (some (.ref CX_NoRule)))
  (aX_NoText:PySem.W.nsIn K mainGlobals "NoText"=some (some (.ref CX_NoText)))
  (aX_TooMany:PySem.W.nsIn K mainGlobals "TooMany"=some (some (.ref CX_TooMany)))
  (fX_NoText:PySem.W.findIn K (.ref CX_NoText) "__init__"=some (some (.ref gx_NoText)))
  (tX_NoText:PySem.W.typeIn K (.ref gx_NoText)=some (.type "function"))
  (qX_NoText:FnF K gx_NoText "__init__" "NoText.__init__" tu)
  (uSt:gj K CSt=true)
  (eX_NoText:sU K CX_NoText CSt (some (.ref gx_NoText))=true)
  (kX_NoText:PySem.W.keepIn K (.ref CX_NoText)=true)
  (eX_TooMany:sU K CX_TooMany CSt none=true)
  (kX_TooMany:PySem.W.keepIn K (.ref CX_TooMany)=true)
  (nX_NoText_line:PySem.W.findIn K (.ref CX_NoText) "line"=some none)
  (bX_NoText_StayError:mL K CX_NoText CSt=true)
  (bX_TooMany_StayError:mL K CX_TooMany CSt=true)
  (kt_NoText_NoRule:PySem.W.kitOne K (.ref CX_NoText) (.ref CX_NoRule)=some false)
  (kt_NoText_NoText:PySem.W.kitOne K (.ref CX_NoText) (.ref CX_NoText)=some true)
  (kt_NoText_TooMany:PySem.W.kitOne K (.ref CX_NoText) (.ref CX_TooMany)=some false)
  (kt_TooMany_NoRule:PySem.W.kitOne K (.ref CX_TooMany) (.ref CX_NoRule)=some false)
  (kt_TooMany_NoText:PySem.W.kitOne K (.ref CX_TooMany) (.ref CX_NoText)=some false)
  (kt_TooMany_TooMany:PySem.W.kitOne K (.ref CX_TooMany) (.ref CX_TooMany)=some true)
  (kt_NoText_ValueError:PySem.W.kitOne K (.ref CX_NoText) (.type "ValueError")=some true)
  (kt_TooMany_ValueError:PySem.W.kitOne K (.ref CX_TooMany) (.type "ValueError")=some true):
  ∃fd:FuncData,(∀(s:Shared) (v:Value),BindsTo s fd ⟨[v],[]⟩ [("_law_script",v)])∧∀base:Heap,K.In base→base.Ns mainGlobals mg→zr l.prog w K mg base CX0 14 fa fd ["_law_script"] (um K):=by
 have e:=hfa.symm.trans (zm4 X G a31)
 cases e
 have nb:NbT mg:=⟨zk9 X G z1,zk9 X G z2,zk9 X G z3,zk9 X G z4,zk9 X G z5,zk9 X G z6,zk9 X G z7,zk9 X G z8,zk9 X G z9,zk9 X G z10,zk9 X G z11,zk9 X G z12,zk9 X G z13,zk9 X G z14,zk9 X G z15,zk9 X G z16,zk9 X G z17,zk9 X G z18,zk9 X G z19⟩
 have n_ValueError:mg "ValueError"=none:=zk9 X G z20
 obtain⟨_,m_is_whole,F_is_whole,b_is_whole⟩:=q1.get ["thing"] X G fun _ _ _ _ _ _=>us1 fun _=>rfl
 obtain⟨_,m_is_whole_within,F_is_whole_within,b_is_whole_within⟩:=q2.get ["thing","lowest","highest"] X G fun _ _ _ _ _ _=>us3 fun _ _ _=>rfl
 obtain⟨_,m_is_pair,F_is_pair,b_is_pair⟩:=q3.get ["thing"] X G fun _ _ _ _ _ _=>us1 fun _=>rfl
 obtain⟨_,m_is_day,F_is_day,b_is_day⟩:=q4.get ["thing"] X G fun _ _ _ _ _ _=>us1 fun _=>rfl
 obtain⟨_,m_is_pair_of_days,F_is_pair_of_days,b_is_pair_of_days⟩:=q5.get ["thing"] X G fun _ _ _ _ _ _=>us1 fun _=>rfl
 obtain⟨_,m_is_stretch,F_is_stretch,b_is_stretch⟩:=q6.get ["thing"] X G fun _ _ _ _ _ _=>us1 fun _=>rfl
 obtain⟨_,m_is_coins,F_is_coins,b_is_coins⟩:=q7.get ["thing"] X G fun _ _ _ _ _ _=>us1 fun _=>rfl
 obtain⟨_,m_is_deal,F_is_deal,b_is_deal⟩:=q8.get ["thing"] X G fun _ _ _ _ _ _=>us1 fun _=>rfl
 obtain⟨_,m_is_worth,F_is_worth,b_is_worth⟩:=q9.get ["word","thing"] X G fun _ _ _ _ _ _=>us2 fun _ _=>rfl
 obtain⟨_,m_is_rule,F_is_rule,b_is_rule⟩:=q10.get ["thing"] X G fun _ _ _ _ _ _=>us1 fun _=>rfl
 obtain⟨_,m_made,F_made,b_made⟩:=q11.get ["word","first","last","worth"] X G fun _ _ _ _ _ _=>us4 fun _ _ _ _=>rfl
 obtain⟨_,m_rule_of,F_rule_of,b_rule_of⟩:=q12.get ["thing"] X G fun _ _ _ _ _ _=>us1 fun _=>rfl
 obtain⟨_,m_kept_rules,F_kept_rules,b_kept_rules⟩:=q13.get ["things"] X G fun _ _ _ _ _ _=>us1 fun _=>rfl
 obtain⟨_,m_worth_text,F_worth_text,b_worth_text⟩:=q14.get ["worth"] X G fun _ _ _ _ _ _=>us1 fun _=>rfl
 obtain⟨_,m_rule_text,F_rule_text,b_rule_text⟩:=q15.get ["rule"] X G fun _ _ _ _ _ _=>us1 fun _=>rfl
 obtain⟨_,m_is_number_text,F_is_number_text,b_is_number_text⟩:=q16.get ["word"] X G fun _ _ _ _ _ _=>us1 fun _=>rfl
 obtain⟨_,m_number_by,F_number_by,b_number_by⟩:=q17.get ["word"] X G fun _ _ _ _ _ _=>us1 fun _=>rfl
 obtain⟨_,m_worth_by,F_worth_by,b_worth_by⟩:=q18.get ["words"] X G fun _ _ _ _ _ _=>us1 fun _=>rfl
 obtain⟨_,m_rule_by,F_rule_by,b_rule_by⟩:=q19.get ["text"] X G fun _ _ _ _ _ _=>us1 fun _=>rfl
 obtain⟨_,m_read_book,F_read_book,b_read_book⟩:=q20.get ["thing"] X G fun _ _ _ _ _ _=>us1 fun _=>rfl
 obtain⟨_,m__law_cell_at,F__law_cell_at,b__law_cell_at⟩:=q21.get ["_law_script","_law_k"] X G fun _ _ _ _ _ _=>us2 fun _ _=>rfl
 obtain⟨_,m__law_begin,F__law_begin,b__law_begin⟩:=q22.get ["_law_cell"] X G fun _ _ _ _ _ _=>us1 fun _=>rfl
 obtain⟨_,m__law_take,F__law_take,b__law_take⟩:=q23.get ["_law_row","_law_base"] X G fun _ _ _ _ _ _=>us2 fun _ _=>rfl
 obtain⟨_,m__law_coins,F__law_coins,b__law_coins⟩:=q24.get ["_law_row"] X G fun _ _ _ _ _ _=>us1 fun _=>rfl
 obtain⟨_,m__law_worth,F__law_worth,b__law_worth⟩:=q25.get ["_law_row","_law_word"] X G fun _ _ _ _ _ _=>us2 fun _ _=>rfl
 obtain⟨_,m__law_rule,F__law_rule,b__law_rule⟩:=q26.get ["_law_row","_law_day"] X G fun _ _ _ _ _ _=>us2 fun _ _=>rfl
 obtain⟨_,m__law_line,F__law_line,b__law_line⟩:=q27.get ["_law_row"] X G fun _ _ _ _ _ _=>us1 fun _=>rfl
 obtain⟨_,m__law_told,F__law_told,b__law_told⟩:=q28.get ["_law_thing"] X G fun _ _ _ _ _ _=>us1 fun _=>rfl
 obtain⟨_,m__law_due,F__law_due,b__law_due⟩:=q29.get ["_law_text"] X G fun _ _ _ _ _ _=>us1 fun _=>rfl
 obtain⟨_,m__law_right,F__law_right,b__law_right⟩:=q30.get ["_law_thing","_law_due_here"] X G fun _ _ _ _ _ _=>us2 fun _ _=>rfl
 have F_law:=iS (st:=rB) l31 c31 k31
 have b_law:=F_law.binds (ps:=["_law_script"]) fun _ _ _ _ _ _=>us1 fun _=>rfl
 obtain⟨_,F_init,b_init⟩:=q_init.get ["self","first","last","worth"] fun _ _ _ _ _ _=>us4 fun _ _ _ _=>rfl
 obtain⟨_,F_told,b_told⟩:=q_told.get ["self"] fun _ _ _ _ _ _=>us1 fun _=>rfl
 obtain⟨_,F_wPrice,b_wPrice⟩:=q_wPrice.get ["self"] fun _ _ _ _ _ _=>us1 fun _=>rfl
 obtain⟨_,F_wCome,b_wCome⟩:=q_wCome.get ["self"] fun _ _ _ _ _ _=>us1 fun _=>rfl
 obtain⟨_,F_wGo,b_wGo⟩:=q_wGo.get ["self"] fun _ _ _ _ _ _=>us1 fun _=>rfl
 obtain⟨_,F_wLeast,b_wLeast⟩:=q_wLeast.get ["self"] fun _ _ _ _ _ _=>us1 fun _=>rfl
 obtain⟨_,F_wMost,b_wMost⟩:=q_wMost.get ["self"] fun _ _ _ _ _ _=>us1 fun _=>rfl
 obtain⟨_,F_wDeal,b_wDeal⟩:=q_wDeal.get ["self"] fun _ _ _ _ _ _=>us1 fun _=>rfl
 obtain⟨_,F_wFee,b_wFee⟩:=q_wFee.get ["self"] fun _ _ _ _ _ _=>us1 fun _=>rfl
 obtain⟨_,F_brules,b_brules⟩:=q_brules.get ["self"] fun _ _ _ _ _ _=>us1 fun _=>rfl
 have s_FIGURES:∃t,mg "FIGURES"=some (.str "0123456789" t):=⟨ts1,zm4 X G gs1⟩
 have TD:pk mg f1 f2 f3 f4 f5:=⟨nb.isinstance,nb.int,nb.bool,nb.tuple,nb.len,⟨tk1,zm4 X G gi1⟩,⟨tk2,zm4 X G gi2⟩,m_is_whole,m_is_whole_within,m_is_pair,m_is_day,m_is_pair_of_days⟩
 have TR:nh mg f1 f2 f3 f4 f5 f6 f7 f8 f9 f10 f11 ⟨CPrice,CCome,CGo,CLeast,CMost,CDeal,CFee⟩:=⟨TD,⟨tk3,zm4 X G gi3⟩,m_is_stretch,m_is_coins,m_is_deal,m_is_worth,m_is_rule,m_made,zm4 X G aCPrice,zm4 X G aCCome,zm4 X G aCGo,zm4 X G aCLeast,zm4 X G aCMost,zm4 X G aCDeal,zm4 X G aCFee⟩
 have A7:iO K ⟨CPrice,CCome,CGo,CLeast,CMost,CDeal,CFee⟩ g_init g_told g_tells g_wPrice g_wCome g_wGo g_wLeast g_wMost g_wDeal g_wFee:=⟨RPrice,RCome,RGo,RLeast,RMost,RDeal,RFee⟩
 refine⟨PySem.W.fnOf "law" "law" (zV rB) (zv rB) (za rB) .none kV31 dc31 pm31 an31 cd31 ct31,fun s v=>.of_eq rfl,fun base KX _=>?_⟩
 have G_in:=lj (P:=l.prog) (w:=w) (base:=base) F_is_whole_within TD F_is_whole b_is_whole
 have G_pair:=dr (P:=l.prog) (w:=w) (base:=base) F_is_pair TD
 have G_day:=aB F_is_day TD G_in F_is_whole_within.kp b_is_whole_within
 have G_days:=eu F_is_pair_of_days TD G_pair F_is_pair.kp b_is_pair G_day F_is_day.kp b_is_day
 have G_stretch:=pW F_is_stretch TD G_days F_is_pair_of_days.kp b_is_pair_of_days
 have G_coins:=iL F_is_coins TR G_in F_is_whole_within.kp b_is_whole_within
 have G_deal:=kN F_is_deal TR G_in F_is_whole_within.kp b_is_whole_within G_pair F_is_pair.kp b_is_pair
 have G_worth:=jY F_is_worth TR G_in F_is_whole_within.kp b_is_whole_within G_coins F_is_coins.kp b_is_coins G_deal F_is_deal.kp b_is_deal
 have G_rule:=lP F_is_rule TR G_stretch F_is_stretch.kp b_is_stretch G_worth F_is_worth.kp b_is_worth
 have G_made:=ek (P:=l.prog) (w:=w) (base:=base) F_made TR A7 F_init b_init
 have G_ruleOf:=lA F_rule_of TR G_rule F_is_rule.kp b_is_rule G_made F_made.kp b_made
 have CRO:Cal l.prog w K mg base "rule_of" 7 (vn ⟨CPrice,CCome,CGo,CLeast,CMost,CDeal,CFee⟩):=oY m_rule_of F_rule_of.kp b_rule_of G_ruleOf
 have CKe:Cal l.prog w K mg base "kept_rules" 8 (pQ ⟨CPrice,CCome,CGo,CLeast,CMost,CDeal,CFee⟩):=iq F_kept_rules m_kept_rules b_kept_rules nb ⟨tk4,zm4 X G gi4⟩ CRO
 have cB:Cls K CB:=⟨pgB,hdB,poB,saB⟩
 have GBI:=iE (mJ (st:=yA) l_binit c_binit k_binit) cB noB CKe
 have m_Book:mg "Book"=some (.ref CB):=zm4 X G aCB
 have MkB:Mk K CB g_binit:=⟨mkB,fi_binit,is_binit,kcB⟩
 have CBk:fV l.prog w K mg base "Book" 9 [] (rW CB ⟨CPrice,CCome,CGo,CLeast,CMost,CDeal,CFee⟩):=⟨CB,g_binit,_,_,_,m_Book,MkB,tO lT,.nil,GBI⟩
 have CBk0:fV l.prog w K mg base "Book" 9 [.non] (rW CB ⟨CPrice,CCome,CGo,CLeast,CMost,CDeal,CFee⟩):=⟨CB,g_binit,_,_,_,m_Book,MkB,kh lT,.cons rfl .nil,GBI⟩
 have OT:∀u∈words,rg l.prog w K mg base ((⟨CPrice,CCome,CGo,CLeast,CMost,CDeal,CFee⟩:Cs).of u) "told" 2 (oG ((⟨CPrice,CCome,CGo,CLeast,CMost,CDeal,CFee⟩:Cs).of u) u):=zf6 (by rw[pC];exact yF RPrice b_told (xS F_told RPrice (mU F_wPrice) b_wPrice)) (by rw[mT];exact yF RCome b_told (xS F_told RCome (jR F_wCome) b_wCome)) (by rw[cv];exact yF RGo b_told (xS F_told RGo (aC F_wGo) b_wGo)) (by rw[qp];exact yF RLeast b_told (xS F_told RLeast (lK F_wLeast) b_wLeast)) (by rw[my];exact yF RMost b_told (xS F_told RMost (jo F_wMost) b_wMost)) (by rw[mO];exact yF RDeal b_told (xS F_told RDeal (gK F_wDeal) b_wDeal)) (by rw[gH];exact yF RFee b_told (xS F_told RFee (eM F_wFee) b_wFee))
 have MR:rg l.prog w K mg base CB "rules" 3 (sT CB ⟨CPrice,CCome,CGo,CLeast,CMost,CDeal,CFee⟩):=⟨g_brules,_,_,cB,⟨fi_brules,is_brules,F_brules.kp⟩,b_brules,mY F_brules cB noB b_brules OT⟩
 have m_StayError:mg "StayError"=some (.ref CSt):=zm4 X G aSt
 have mX_NoRule:mg "NoRule"=some (.ref CX_NoRule):=zm4 X G aX_NoRule
 have mX_NoText:mg "NoText"=some (.ref CX_NoText):=zm4 X G aX_NoText
 have mX_TooMany:mg "TooMany"=some (.ref CX_TooMany):=zm4 X G aX_TooMany
 have XC_NoText:=XC.of eX_NoText
 have XC_TooMany:=XC.of eX_TooMany
 obtain⟨_,FX_NoText,bX_NoText⟩:=qX_NoText.get ["self","line"] fun _ _ _ _ _ _=>us2 fun _ _=>rfl
 have CB:=kf (P:=l.prog) (w:=w) (base:=base) F__law_begin m__law_begin b__law_begin
 have CD:Cal l.prog w K mg base "_law_take" 1 wG:=gx m__law_take F__law_take.kp b__law_take (eO F__law_take)
 have CCo:=kH F__law_coins m__law_coins b__law_coins CD
 have CW:=lD F__law_worth m__law_worth b__law_worth CD CCo
 have CRl:=gO F__law_rule m__law_rule b__law_rule nb CD CW
 have CWT:=kE (P:=l.prog) (w:=w) (base:=base) F_worth_text m_worth_text b_worth_text nb
 have CRT:=lH F_rule_text m_rule_text b_rule_text nb CWT
 have CIR:=pJ m_is_rule F_is_rule.kp b_is_rule G_rule
 have CNG:=fk (P:=l.prog) (w:=w) (base:=base) F_is_number_text m_is_number_text b_is_number_text nb s_FIGURES
 have CNV:=kT F_number_by m_number_by b_number_by nb CNG
 have CWB:=jA F_worth_by m_worth_by b_worth_by nb CNV
 have CRB:=jz F_rule_by m_rule_by b_rule_by nb CNV CWB CIR
 have XT0:bX K mg "TooMany" CX_TooMany:=⟨mX_TooMany,kX_TooMany,⟨_,XC_TooMany.ok⟩⟩
 have XN0:=bh (P:=l.prog) (w:=w) (base:=base) FX_NoText bX_NoText mX_NoText m_StayError kX_NoText tX_NoText (XS.of uSt) XC_NoText nX_NoText_line
 have CKT:=ke F_kept_rules m_kept_rules b_kept_rules nb ⟨tk4,zm4 X G gi4⟩ CRO XT0
 have CKTX:=nu (mJ (st:=yA) l_binit c_binit k_binit) m_Book MkB (tO lT) CKT
 have CRd:=iG F_read_book m_read_book b_read_book nb CRB XN0 CBk CKTX
 have CL:=jt F__law_line m__law_line b__law_line nb CD CRl CRT
 have CTo:=jG F__law_told m__law_told b__law_told nb ⟨m_StayError,XB.of bX_NoText_StayError,XB.of bX_TooMany_StayError,⟨_,XC_NoText⟩,⟨_,XC_TooMany⟩,nX_NoText_line,⟨_,mX_NoRule,kt_NoText_NoRule⟩,⟨_,mX_TooMany,kt_NoText_TooMany⟩,⟨_,mX_NoText,kt_NoText_NoText⟩,⟨_,mX_NoRule,kt_TooMany_NoRule⟩,⟨_,mX_TooMany,kt_TooMany_TooMany⟩,⟨_,mX_NoText,kt_TooMany_NoText⟩,n_ValueError,kt_NoText_ValueError,kt_TooMany_ValueError⟩ CRd MR
 have CDu:=eG F__law_due m__law_due b__law_due nb CRB
 have CRi:=lq F__law_right m__law_right b__law_right nb CTo
 exact cG F_law nb (du (P:=l.prog) (w:=w) (base:=base) F__law_cell_at nb) m__law_cell_at F__law_cell_at.kp b__law_cell_at CB CD CL CDu CRi
theorem walk {l:PySem.W.OpenLaw}{q:Program}{loose:List Str}{XP:(Str→Option Value)→Heap→Prop}{YP:World→Heap→Prop}{d:DefRec}{K:Params→PySem.W.Frag}(hn:l.most=some 63)(hdf:d.params.defaults=[])
  (hY:∀(w:World) (h:Heap),YP w h→(K w.params).In h)
  (F:∀(w:World) (mg:Str→Option Value) (fa:Addr) (h:Heap),(K w.params).In h→h.Ns mainGlobals mg→mg d.name=some (.ref fa)→
   ∃fd:FuncData,(∀(s:Shared) (u:Value),BindsTo s fd ⟨[u],[]⟩ [("_law_script",u)])∧∀base:Heap,(K w.params).In base→base.Ns mainGlobals mg→zr l.prog w (K w.params) mg base CX0 14 fa fd ["_law_script"] (um (K w.params))):
  PySem.W.WalkO q loose XP YP l.row.toRowW d [] (fun f vs=>PySem.call f vs):=
 L2.eS (n:=63) (k:=14) (x:="_law_script") (CX:=fun _=>CX0) (sp:=fun w=>um (K w.params)) hn (by decide) hdf ⟨rfl,by decide,by decide,rfl⟩ hY F (fun _ _ a ns hl hO hS=>⟨a,ns,rfl,eP hO hS,hl,trivial,fun _=>rfl⟩) fun _ _ _ _ _ z=>z
end K24
def PySem.W.Fast.tw17173701649648480667 :Nat:=0
def PySem.W.Fast.tw15434210820299065485 :Nat:=0
def PySem.W.Fast.tw15704323730487003940 :Nat:=0
def PySem.W.Fast.tw8410385386394994310 :Nat:=0
def PySem.W.Fast.tw4912185755411352877 :Nat:=0
def PySem.W.Fast.tw5069313962196672468 :Nat:=0
def PySem.W.Fast.tw2988255717738233674 :Nat:=0
def PySem.W.Fast.tw17706895819373369778 :Nat:=0
def PySem.W.Fast.tw4463519286773747642 :Nat:=0
def PySem.W.Fast.tw13277649840872145052 :Nat:=0
def PySem.W.Fast.tw12004770206089478792 :Nat:=0
def PySem.W.Fast.tw8571087531750818215 :Nat:=0
def PySem.W.Fast.tw12617932543321721325 :Nat:=0
def PySem.W.Fast.tw2774540758143429921 :Nat:=0
def PySem.W.Fast.tw11229992627040544108 :Nat:=0
def PySem.W.Fast.tw3246373131124224515 :Nat:=0
def PySem.W.Fast.tw1984222301855989131 :Nat:=0
def PySem.W.Fast.tw8342550239254072361 :Nat:=0
def PySem.W.Fast.tw3372497173762933734 :Nat:=0
def PySem.W.Fast.tw17341711220079962526 :Nat:=0
def PySem.W.Fast.tw12015248251712103036 :Nat:=0
def PySem.W.Fast.tw9181268274118356406 :Nat:=0
def PySem.W.Fast.tw172951544352974135 :Nat:=0
def PySem.W.Fast.tw2409964925423531956 :Nat:=0
def PySem.W.Fast.tw6901234154949156484 :Nat:=0
def PySem.W.Fast.tw18100881915248678334 :Nat:=0
def PySem.W.Fast.tw12594978592962144689 :Nat:=0
def PySem.W.Fast.tw3860284279557828986 :Nat:=0
def PySem.W.Fast.tw4439373692618093937 :Nat:=0
def PySem.W.Fast.tw12456580523641864768 :Nat:=0
def PySem.W.Fast.tw11078148499587250723 :Nat:=0
def PySem.W.Fast.tw11873293729191753129 :Nat:=0
def PySem.W.Fast.tw14062435899556959356 :Nat:=0
def PySem.W.Fast.tw11773922813116597519 :Nat:=0
def PySem.W.Fast.tw3644432031118845961 :Nat:=0
def PySem.W.Fast.tw1578640367333949375 :Nat:=0
def PySem.W.Fast.tw8955423542973910222 :Nat:=0
def PySem.W.Fast.tw12841005737030768859 :Nat:=0
def PySem.W.Fast.tw2792176100494182092 :Nat:=0
def PySem.W.Fast.tw17011502794320052140 :Nat:=0
def PySem.W.Fast.tw10397621824699157410 :Nat:=0
def PySem.W.Fast.tw9384912973745455471 :Nat:=0
def PySem.W.Fast.tw8788513557854462312 :Nat:=0
def PySem.W.Fast.tw18364066734789674981 :Nat:=0
def PySem.W.Fast.tw11410687512456901367 :Nat:=0
def PySem.W.Fast.tw10666564735373830617 :Nat:=0
def PySem.W.Fast.tw7979359317288443216 :Nat:=0
def PySem.W.Fast.tw15098395975355087031 :Nat:=0
def PySem.W.Fast.tw8188577354558447531 :Nat:=0
def PySem.W.Fast.tw13598726644513709525 :Nat:=0
def PySem.W.Fast.tw16378024476163756790 :Nat:=0
def PySem.W.Fast.tw3583349446106045811 :Nat:=0
def PySem.W.Fast.tw2462280716224950755 :Nat:=0
def PySem.W.Fast.tw7774151026747695972 :Nat:=0
def PySem.W.Fast.tw12372918645110041940 :Nat:=0
def PySem.W.Fast.tw5808877549415018694 :Nat:=0
def PySem.W.Fast.tw4523076869286022792 :Nat:=0
def PySem.W.Fast.tw16155297266572855733 :Nat:=0
def PySem.W.Fast.tw8440645137698249230 :Nat:=0
def PySem.W.Fast.tw1871513787478005239 :Nat:=0
def PySem.W.Fast.tw9312605932364054695 :Nat:=0
def PySem.W.Fast.tw9710918360053471346 :Nat:=0
def PySem.W.Fast.tw17444770122393504559 :Nat:=0
def PySem.W.Fast.tw11973963790315114578 :Nat:=0
def PySem.W.Fast.tw16829294393498291605 :Nat:=0
def PySem.W.Fast.tw14201075193725505392 :Nat:=0
def PySem.W.Fast.tw7802374978810033457 :Nat:=0
def PySem.W.Fast.tw1397419184444348715 :Nat:=0
def PySem.W.Fast.tw11307442255942682458 :Nat:=0
def PySem.W.Fast.tw10012359448317603819 :Nat:=0
def PySem.W.Fast.tw14088968100454206991 :Nat:=0
def PySem.W.Fast.tw13660953608636007487 :Nat:=0
def PySem.W.Fast.tw5832448756185240834 :Nat:=0
def PySem.W.Fast.tw17134140471065657554 :Nat:=0
def PySem.W.Fast.tw6747732347933051147 :Nat:=0
def PySem.W.Fast.tw546259918896598767 :Nat:=0
def PySem.W.Fast.tw466374746215135180 :Nat:=0
def PySem.W.Fast.tw6647306467081116910 :Nat:=0
def PySem.W.Fast.tw14635509151361695143 :Nat:=0
def PySem.W.Fast.tw8236068883216180902 :Nat:=0
def PySem.W.Fast.tw15259898619074664694 :Nat:=0
def PySem.W.Fast.tw16910592971829465130 :Nat:=0
def PySem.W.Fast.tw11457815391532737300 :Nat:=0
def PySem.W.Fast.tw10184380832427444170 :Nat:=0
def PySem.W.Fast.tw10102747560404579921 :Nat:=0
def PySem.W.Fast.tw7149253136646123644 :Nat:=0
def PySem.W.Fast.tw8798635940902494732 :Nat:=0
def PySem.W.Fast.tw170725537958415127 :Nat:=0
def PySem.W.Fast.tw11512917044703499718 :Nat:=0
def PySem.W.Fast.tw13284029377427774854 :Nat:=0
def PySem.W.Fast.tw14969458498083740137 :Nat:=0
def PySem.W.Fast.tw8625984485686252642 :Nat:=0
def PySem.W.Fast.tw5457459586887556255 :Nat:=0
def PySem.W.Fast.tw18301335359264428858 :Nat:=0
def PySem.W.Fast.tw15025911068547009777 :Nat:=0
def PySem.W.Fast.tw3270270234880102052 :Nat:=0
def PySem.W.Fast.tw7873314153133567965 :Nat:=0
def PySem.W.Fast.tw8518867114368249921 :Nat:=0
def PySem.W.Fast.tw10338340118585210999 :Nat:=0
def PySem.W.Fast.tw13315987433891012150 :Nat:=0
def PySem.W.Fast.tw434316790874642722 :Nat:=0
def PySem.W.Fast.tw7499998366579432511 :Nat:=0
def PySem.W.Fast.tw13573711724624856177 :Nat:=0
def PySem.W.Fast.tw13378783457344738801 :Nat:=0
def PySem.W.Fast.tw17805203948332128156 :Nat:=0
def PySem.W.Fast.tw14623363548454129711 :Nat:=0
def PySem.W.Fast.tw10274067914884043840 :Nat:=0
def PySem.W.Fast.tw9291904643278450306 :Nat:=0
def PySem.W.Fast.tw14564363083233971747 :Nat:=0
def PySem.W.Fast.tw10018143629160265602 :Nat:=0
def PySem.W.Fast.tw9248370521218849667 :Nat:=0
def PySem.W.Fast.tw6981610397177499691 :Nat:=0
def PySem.W.Fast.tw3857876085443140648 :Nat:=0
def PySem.W.Fast.tw2023304988353936869 :Nat:=0
def PySem.W.Fast.tw12992834716658546311 :Nat:=0
def PySem.W.Fast.tw16938371734152376110 :Nat:=0
def PySem.W.Fast.tw7113418965150498711 :Nat:=0
def PySem.W.Fast.tw3528849321058698018 :Nat:=0
def PySem.W.Fast.tw4023383607097194704 :Nat:=0
def PySem.W.Fast.tw2267412388898720433 :Nat:=0
def PySem.W.Fast.tw2839560586025781911 :Nat:=0
def PySem.W.Fast.tw6073863904794017140 :Nat:=0
def PySem.W.Fast.tw13015040953929349572 :Nat:=0
def PySem.W.Fast.tw10562489731764857855 :Nat:=0
def PySem.W.Fast.tw1078097638420593507 :Nat:=0
def PySem.W.Fast.tw7291609614265789204 :Nat:=0
def PySem.W.Fast.tw7706523483648901867 :Nat:=0
def PySem.W.Fast.tw7213379944132159302 :Nat:=0
def PySem.W.Fast.tw11207392022868969246 :Nat:=0
def PySem.W.Fast.tw18271798382703242849 :Nat:=0
def PySem.W.Fast.tw3079398169527803997 :Nat:=0
def PySem.W.Fast.tw2036033468248694480 :Nat:=0
def PySem.W.Fast.tw13690322102803820885 :Nat:=0
def PySem.W.Fast.tw14654283252861490449 :Nat:=0
def PySem.W.Fast.tw5103630760372214319 :Nat:=0
def PySem.W.Fast.tw16897169881086579362 :Nat:=0
def PySem.W.Fast.tw16223854916975757626 :Nat:=0
def PySem.W.Fast.tw9137371497051055898 :Nat:=0
def PySem.W.Fast.tw9825002716418468113 :Nat:=0
def PySem.W.Fast.tw1030133302789448994 :Nat:=0
def PySem.W.Fast.tw13334494083817233143 :Nat:=0
def PySem.W.Fast.tw8124445182208256021 :Nat:=0
def PySem.W.Fast.tw16999942287363527302 :Nat:=0
def PySem.W.Fast.tw18244347928202519598 :Nat:=0
def PySem.W.Fast.tw17770647691556001247 :Nat:=0
def PySem.W.Fast.tw4688924674851597812 :Nat:=0
def PySem.W.Fast.tw2410141554391568946 :Nat:=0
def PySem.W.Fast.tw3381876952055450790 :Nat:=0
def PySem.W.Fast.tw4617397596787345216 :Nat:=0
def PySem.W.Fast.tw8748411476432336203 :Nat:=0
def PySem.W.Fast.tw5416828586970985133 :Nat:=0
def PySem.W.Fast.tw15161578698228332821 :Nat:=0
def PySem.W.Fast.tw7535934331832546666 :Nat:=0
def PySem.W.Fast.tw13230286660897702736 :Nat:=0
def PySem.W.Fast.tw12263625243939626834 :Nat:=0
def PySem.W.Fast.tw12346938579416777073 :Nat:=0
def PySem.W.Fast.tw15503735173595826587 :Nat:=0
def PySem.W.Fast.tw4559480191983884414 :Nat:=0
def PySem.W.Fast.tw14533915495731000080 :Nat:=0
def PySem.W.Fast.tw9515313489395910299 :Nat:=0
def PySem.W.Fast.tw226437328367266720 :Nat:=0
def PySem.W.Fast.tw13869364218312652794 :Nat:=0
def PySem.W.Fast.tw15073750051448227586 :Nat:=0
def PySem.W.Fast.tw8970368334479986919 :Nat:=0
def PySem.W.Fast.tw15704170601386787056 :Nat:=0
def PySem.W.Fast.tw10353821004303625052 :Nat:=0
def PySem.W.Fast.tw2466282111575772651 :Nat:=0
def PySem.W.Fast.tw8803924631636194893 :Nat:=0
def PySem.W.Fast.tw950957340550534443 :Nat:=0
def PySem.W.Fast.tw14680729841574786745 :Nat:=0
def PySem.W.Fast.tw4915548786573035874 :Nat:=0
def PySem.W.Fast.tw506871033117446295 :Nat:=0
def PySem.W.Fast.tw4476746762313365964 :Nat:=0
def PySem.W.Fast.tw17264309214211376638 :Nat:=0
def PySem.W.Fast.tw4276853809285523115 :Nat:=0
def PySem.W.Fast.tw11919761245493323209 :Nat:=0
def PySem.W.Fast.tw11834996566773376748 :Nat:=0
def PySem.W.Fast.tw3907895571485407618 :Nat:=0
def PySem.W.Fast.tw6015509256683970450 :Nat:=0
def PySem.W.Fast.tw10874628649926818664 :Nat:=0
def PySem.W.Fast.tw2686409400805895617 :Nat:=0
def PySem.W.Fast.tw13407888744215839086 :Nat:=0
def PySem.W.Fast.tw319148897084123934 :Nat:=0
def PySem.W.Fast.tw8291342322119677504 :Nat:=0
def PySem.W.Fast.tw18410559122949267299 :Nat:=0
def PySem.W.Fast.tw2573798018597796959 :Nat:=0
def PySem.W.Fast.tw5432609323669975839 :Nat:=0
def PySem.W.Fast.tw5712422273744777867 :Nat:=0
def PySem.W.Fast.tw2751859709879169089 :Nat:=0
def PySem.W.Fast.tw5275435632231307820 :Nat:=0
def PySem.W.Fast.tw1957521834222230864 :Nat:=0
def PySem.W.Fast.tw4512895352699537802 :Nat:=0
def PySem.W.Fast.tw13544591412485434879 :Nat:=0
def PySem.W.Fast.tw5339495608955683768 :Nat:=0
def PySem.W.Fast.tw3979908302686374315 :Nat:=0
def PySem.W.Fast.tw5731872288288898548 :Nat:=0
def PySem.W.Fast.tw4152094631795885859 :Nat:=0
def PySem.W.Fast.tw8797298951102107041 :Nat:=0
def PySem.W.Fast.tw10230518205055967657 :Nat:=0
def PySem.W.Fast.tw6404003885174296127 :Nat:=0
def PySem.W.Fast.tw2122331595283246431 :Nat:=0
def PySem.W.Fast.tw1541878918001580932 :Nat:=0
def PySem.W.Fast.tw848870864363282414 :Nat:=0
def PySem.W.Fast.tw12364533852969670419 :Nat:=0
def PySem.W.Fast.tw12252451412482157905 :Nat:=0
def PySem.W.Fast.tw11031378222267974751 :Nat:=0
def PySem.W.Fast.tw7836439101110952377 :Nat:=0
def PySem.W.Fast.tw12439430236669384498 :Nat:=0
def PySem.W.Fast.tw17565246486951597246 :Nat:=0
def PySem.W.Fast.tw11834561507750842010 :Nat:=0
def PySem.W.Fast.tw11831294579394423448 :Nat:=0
def PySem.W.Fast.tw6241086477487780742 :Nat:=0
def PySem.W.Fast.tw16408299989373794557 :Nat:=0
def PySem.W.Fast.tw9173035861382791657 :Nat:=0
def PySem.W.Fast.tw4527473129927702800 :Nat:=0
def PySem.W.Fast.tw8685724442941080102 :Nat:=0
def PySem.W.Fast.tw2418839936370207885 :Nat:=0
open PySem PySem.W PyProof.Rows
set_option maxRecDepth 100000 in
set_option maxHeartbeats 0 in
theorem PySem.Challenge.cw_stayprice_k24_texts_refused_holds : PySem.Challenge.rw_stayprice_k24_texts_refused.Holds := by
 w_on;o_law;k_head;(case hw=>w_witness2)
 k_fill
 refine K24.walk (l:=PySem.Challenge.rw_stayprice_k24_texts_refused) rfl rfl (fun w h Y=>PySem.W.kIn_of Y) ?hF
 case hF=>
  intro w mg fa h KX G hmg
  refine' K24.all_mk KX G hmg (K24.mkG ?_ ?_ ?_ ?_) (K24.mkG ?_ ?_ ?_ ?_) (K24.mkG ?_ ?_ ?_ ?_) (K24.mkG ?_ ?_ ?_ ?_) (K24.mkG ?_ ?_ ?_ ?_) (K24.mkG ?_ ?_ ?_ ?_) (K24.mkG ?_ ?_ ?_ ?_) (K24.mkG ?_ ?_ ?_ ?_) (K24.mkG ?_ ?_ ?_ ?_) (K24.mkG ?_ ?_ ?_ ?_) (K24.mkG ?_ ?_ ?_ ?_) (K24.mkG ?_ ?_ ?_ ?_) (K24.mkG ?_ ?_ ?_ ?_) (K24.mkG ?_ ?_ ?_ ?_) (K24.mkG ?_ ?_ ?_ ?_) (K24.mkG ?_ ?_ ?_ ?_) (K24.mkG ?_ ?_ ?_ ?_) (K24.mkG ?_ ?_ ?_ ?_) (K24.mkG ?_ ?_ ?_ ?_) (K24.mkG ?_ ?_ ?_ ?_) (K24.mkG ?_ ?_ ?_ ?_) (K24.mkG ?_ ?_ ?_ ?_) (K24.mkG ?_ ?_ ?_ ?_) (K24.mkG ?_ ?_ ?_ ?_) (K24.mkG ?_ ?_ ?_ ?_) (K24.mkG ?_ ?_ ?_ ?_) (K24.mkG ?_ ?_ ?_ ?_) (K24.mkG ?_ ?_ ?_ ?_) (K24.mkG ?_ ?_ ?_ ?_) (K24.mkG ?_ ?_ ?_ ?_) ?_ ?_ ?_ ?_ ?_ ?_ ?_ ?_ ?_ ?_ ?_ (K24.mkR ?_ ?_ ?_ ?_ ?_ ?_ ?_ ?_ ?_ ?_ ?_ ?_ ?_ ?_ ?_ ?_ ?_ ?_ ?_ ?_) (K24.mkR ?_ ?_ ?_ ?_ ?_ ?_ ?_ ?_ ?_ ?_ ?_ ?_ ?_ ?_ ?_ ?_ ?_ ?_ ?_ ?_) (K24.mkR ?_ ?_ ?_ ?_ ?_ ?_ ?_ ?_ ?_ ?_ ?_ ?_ ?_ ?_ ?_ ?_ ?_ ?_ ?_ ?_) (K24.mkR ?_ ?_ ?_ ?_ ?_ ?_ ?_ ?_ ?_ ?_ ?_ ?_ ?_ ?_ ?_ ?_ ?_ ?_ ?_ ?_) (K24.mkR ?_ ?_ ?_ ?_ ?_ ?_ ?_ ?_ ?_ ?_ ?_ ?_ ?_ ?_ ?_ ?_ ?_ ?_ ?_ ?_) (K24.mkR ?_ ?_ ?_ ?_ ?_ ?_ ?_ ?_ ?_ ?_ ?_ ?_ ?_ ?_ ?_ ?_ ?_ ?_ ?_ ?_) (K24.mkR ?_ ?_ ?_ ?_ ?_ ?_ ?_ ?_ ?_ ?_ ?_ ?_ ?_ ?_ ?_ ?_ ?_ ?_ ?_ ?_) (K24.mkF ?_ ?_ ?_) (K24.mkF ?_ ?_ ?_) (K24.mkF ?_ ?_ ?_) (K24.mkF ?_ ?_ ?_) (K24.mkF ?_ ?_ ?_) (K24.mkF ?_ ?_ ?_) (K24.mkF ?_ ?_ ?_) (K24.mkF ?_ ?_ ?_) (K24.mkF ?_ ?_ ?_) ?_ ?_ ?_ ?_ ?_ ?_ ?_ ?_ ?_ (K24.mkF ?_ ?_ ?_) ?_ ?_ ?_ ?_ ?_ ?_ ?_ ?_ ?_ ?_ ?_ ?_ ?_ ?_ ?_ ?_ ?_ ?_ ?_ ?_ ?_ ?_ ?_ ?_ ?_ ?_ ?_ ?_ ?_ ?_ ?_ ?_ ?_ ?_ ?_ ?_ ?_ ?_ (K24.mkF ?_ ?_ ?_) ?_ ?_ ?_ ?_ ?_ ?_ ?_ ?_ ?_ ?_ ?_ ?_ ?_ ?_ ?_ ?_
  all_goals try (show _=_;first|k_is|kernel_rfl)
