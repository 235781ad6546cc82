import PyProof.Rows.All
import Wide.All
import OpenK.AllK
import Wide.FinOn
import Lean
import PyProof.EqAt
import PyProof.EqKinds
import PyProof.TupleCall
import PyProof.AttrMissHeap
import PyProof.DictRoadsH
import KE.KDictOf
import PyProof.P3In
import PySem.Challenge.RW_stayprice_k73_tidied
set_option Elab.async false
set_option linter.all false
set_option maxRecDepth 100000
def zc8 := @_root_.PySem.wpAny_bind
def zc9 := @_root_.List.mem_cons
def zd0 := @_root_.PySem.wpAny_pure
def zd1 := @_root_.List.getElem?_eq_some_iff
def zd2 := @_root_.List.mem_cons_of_mem
def zd3 := @_root_.PySem.Heap.get?_push_of_some
def zd4 := @_root_.List.not_mem_nil
def zd5 := @_root_.List.length_map
def zd6 := @_root_.Nat.le_refl
def zd7 := @_root_.List.mem_cons_self
def zd8 := @_root_.List.getElem?_eq_getElem
def zd9 := @_root_.PySem.Heap.lt_size
def ze0 := @_root_.Bool.false_ne_true
def ze1 := @_root_.PySem.Heap.get?_push_size
def ze2 := @_root_.Nat.le_of_ble_eq_true
def ze3 := @_root_.List.size_toArray
def ze4 := @_root_.List.getElem?_map
def ze5 := @_root_.Nat.ne_of_lt
def ze6 := @_root_.PySem.W.mg_none_of
def ze7 := @_root_.List.length_cons
def ze8 := @_root_.Nat.zero_le
def ze9 := @_root_.Bool.and_eq_true
def zf0 := @_root_.Option.map_eq_some_iff
def zf1 := @_root_.List.length_append
def zf2 := @_root_.List.mem_append_right
def zf3 := @_root_.Nat.lt_of_lt_of_le
def zf4 := @_root_.or_false
def zf5 := @_root_.decide_eq_false
def zf6 := @_root_.List.mem_append
def zf7 := @_root_.List.mem_of_getElem?
def zf8 := @_root_.PySem.wpAny_ite_split
def zf9 := @_root_.Bool.eq_false_iff
def zg0 := @_root_.List.map_cons
def zg1 := @_root_.List.mem_append_left
def zg2 := @_root_.Option.some.inj
def zg3 := @_root_.decide_eq_true_eq
def zg4 := @_root_.List.drop_eq_getElem_cons
def zg5 := @_root_.List.find?_cons
def zg6 := @_root_.PySem.W.mg_of
def zg7 := @_root_.PySem.wpAny_mono
def zg8 := @_root_.List.mem_singleton
def zg9 := @_root_.Nat.lt_or_ge
def zh0 := @_root_.decide_eq_true
def zh1 := @_root_.PySem.wpAny_truthy_bool
def zh2 := @_root_.Nat.le_of_lt
def zh3 := @_root_.Bool.false_and
def zh4 := @_root_.PySem.W.kia_one
def zh5 := @_root_.List.length_set
def zh6 := @_root_.List.getElem?_set_ne
def zh7 := @_root_.List.lookup_cons
def zh8 := @_root_.List.append_assoc
def zh9 := @_root_.PySem.mem_of_lookup
def zi0 := @_root_.Array.getElem?_eq_getElem
def zi1 := @_root_.List.drop_length
def zi2 := @_root_.Bool.true_and
def zi3 := @_root_.List.getElem?_replicate
def zi4 := @_root_.PySem.wpAny_newObj_type
def zi5 := @_root_.beq_eq_false_iff_ne
def zi6 := @_root_.Nat.le_trans
def zi7 := @_root_.List.length_drop
def zi8 := @_root_.List.take_length
def zi9 := @_root_.List.getElem?_append_left
def zj0 := @_root_.Bool.or_eq_true
def zj1 := @_root_.Nat.lt_succ_of_lt
def zj2 := @_root_.PySem.wpAny_setState_of
def zj3 := @_root_.List.take_add_one
def zj4 := @_root_.Array.length_toList
def zj5 := @_root_.Nat.lt_succ_self
def zj6 := @_root_.List.length_take
def zj7 := @_root_.List.getElem_mem
def zj8 := @_root_.PySem.wpAny_askSetting
def zj9 := @_root_.PySem.wpAny_call_entry
def zk0 := @_root_.List.mem_reverse
def zk1 := @_root_.List.getElem?_set_self
def zk2 := @_root_.PyProof.Rows.callWith_type1
def zk3 := @_root_.PySem.wpAny_setField_rec
def zk4 := @_root_.List.append_nil
def zk5 := @_root_.PySem.wpAny_holding
def zk6 := @_root_.PySem.Around.under_plainId
def zk7 := @_root_.PySem.F.called_set
def zk8 := @_root_.PySem.wpAny_setEntries_of
def zk9 := @_root_.PySem.wpAny_callSpecial?_slot
def zl0 := @_root_.Nat.lt_irrefl
def zl1 := @_root_.List.any_cons
def zl2 := @_root_.PyProof.Rows.boot_isinstance
def zl3 := @_root_.PySem.codeAny_builtin
def zl4 := @_root_.Nat.le_succ
def zl5 := @_root_.PySem.Heap.get?_update_other
def zl6 := @_root_.PySem.wpAny_of_eq
def zl7 := @_root_.Int.toNat_natCast
def zl8 := @_root_.of_decide_eq_true
def zl9 := @_root_.Ne.symm
def zm0 := @_root_.PySem.Heap.size_push
def zm1 := @_root_.PySem.Heap.get?_update_self
def zm2 := @_root_.beq_iff_eq
def zm3 := @_root_.List.all_eq_true
def zm4 := @_root_.List.mem_of_mem_drop
def zm5 := @_root_.List.getElem?_append_right
def zm6 := @_root_.List.filterMap_cons
def zm7 := @_root_.List.length_reverse
def zm8 := @_root_.List.getElem_of_mem
def zm9 := @_root_.PySem.wpAny_passesOwn
def zn0 := @_root_.List.nodup_cons
def zn1 := @_root_.PySem.F.slot_dict_getitem
def zn2 := @_root_.PySem.PassesOwn.never
def zn3 := @_root_.PySem.codeAny_mono
def zn4 := @_root_.PySem.wpAny_Call_Name_kw
def zn5 := @_root_.Nat.lt_trans
def zn6 := @_root_.Int.emod_lt_of_pos
def zn7 := @_root_.if_true
def zn8 := @_root_.PySem.F.plainAttrs_list
def zn9 := @_root_.List.getElem?_cons_succ
def zo0 := @_root_.List.length_eq_zero_iff
def zo1 := @_root_.decide_eq_false_iff_not
def zo2 := @_root_.PySem.fits_of_scanBound
def zo3 := @_root_.List.take_of_length_le
def zo4 := @_root_.PySem.strLen_append
def zo5 := @_root_.Bool.false_or
def zo6 := @_root_.PySem.W.methodCall_KW
def zo7 := @_root_.List.getElem?_eq_none
def zo8 := @_root_.Nat.ne_of_gt
def zo9 := @_root_.Bool.eq_iff_iff
def zp0 := @_root_.Bool.or_eq_false_iff
def zp1 := @_root_.Bool.true_or
def zp2 := @_root_.Nat.not_lt_zero
def zp3 := @_root_.Int.emod_nonneg
def zp4 := @_root_.PySem.W.plainGet_of
def zp5 := @_root_.List.reverse_append
def zp6 := @_root_.PySem.W.callWith_K
def zp7 := @_root_.List.find?_eq_none
def zp8 := @_root_.List.all_cons
namespace L2
open PySem PySem.Spec PyProof.Rows
abbrev Key :=Sum Int Str
def sT :Key→Value→Bool
 |.inl k,v=>Value.isInt k v
 |.inr x,v=>Value.isStrOf x v
def za2 (w:World):Key→Int
 |.inl k=>hashInt k
 |.inr x=>hashStr w x
theorem zU :∀{k:Key} {v:Value},sT k v=true→(∃i t,k=Sum.inl i∧v=Value.int i t)∨(∃x t,k=Sum.inr x∧v=Value.str x t)
 |.inl i,v,h=>by
  obtain⟨t,e⟩:=Value.isInt_shape (k:=i) (v:=v) h
  exact .inl ⟨i,t,rfl,e⟩
 |.inr x,v,h=>by
  obtain⟨t,e⟩:=Value.isStrOf_shape (x:=x) (v:=v) h
  exact .inr ⟨x,t,rfl,e⟩
theorem lu (i:Int)(t:Tok):sT (.inl i) (.int i t)=true:=by simp[sT,Value.isInt]
theorem lY (x:Str)(t:Tok):sT (.inr x) (.str x t)=true:=by simp[sT,Value.isStrOf]
theorem bc (a b:Int):decide ((Sum.inl a:Key)=Sum.inl b)=(a == b):=by
 by_cases e:a=b
 ·subst e;simp
 ·have h:¬(Sum.inl a:Key)=Sum.inl b:=fun q=>e (Sum.inl.inj q)
  rw[zf5 h]
  exact (zi5.mpr e).symm
theorem dI (a b:Str):decide ((Sum.inr a:Key)=Sum.inr b)=decide (a=b):=by
 by_cases e:a=b
 ·subst e;simp
 ·have h:¬(Sum.inr a:Key)=Sum.inr b:=fun q=>e (Sum.inr.inj q)
  rw[zf5 h,zf5 e]
theorem dJ (a:Int)(b:Str):decide ((Sum.inl a:Key)=Sum.inr b)=false:=zf5 (fun q=>nomatch q)
theorem dC (a:Str)(b:Int):decide ((Sum.inr a:Key)=Sum.inl b)=false:=zf5 (fun q=>nomatch q)
def yg (prog:Program)(w:World):PySem.KeyKind prog w Key where
 is:=sT
 hash:=za2 w
 inj:=fun v a b ha hb=>by
  rcases zU ha with ⟨i,t,rfl,rfl⟩|⟨x,t,rfl,rfl⟩
  ·rcases zU hb with ⟨j,u,rfl,e⟩|⟨y,u,rfl,e⟩
   ·injection e with e1 _;rw[e1]
   ·exact nomatch e
  ·rcases zU hb with ⟨j,u,rfl,e⟩|⟨y,u,rfl,e⟩
   ·exact nomatch e
   ·injection e with e1 _;rw[e1]
 byValue:=fun k v h=>by
  rcases zU h with ⟨i,t,rfl,rfl⟩|⟨x,t,rfl,rfl⟩<;>rfl
 pyHash:=fun hv h=>by
  rcases zU hv with ⟨i,t,rfl,rfl⟩|⟨x,t,rfl,rfl⟩
  ·exact wpAny_pyHash_int h
  ·exact wpAny_pyHash_str h
 eqBool:=fun hu hv h=>by
  rcases zU hu with ⟨i,t,rfl,rfl⟩|⟨x,t,rfl,rfl⟩
  ·rcases zU hv with ⟨j,u,rfl,rfl⟩|⟨y,u,rfl,rfl⟩
   ·rw[bc] at h;exact wpAny_eqBool_int h
   ·rw[dJ] at h;exact SeqAt.EqAt.int_str i t y u _ _ _ _ h
  ·rcases zU hv with ⟨j,u,rfl,rfl⟩|⟨y,u,rfl,rfl⟩
   ·rw[dC] at h;exact SeqAt.EqAt.str_int x t j u _ _ _ _ h
   ·rw[dI] at h;exact wpAny_eqBool_str h
 «strs»:=fun k x t v h=>by
  rcases zU h with ⟨i,u,rfl,e⟩|⟨y,u,rfl,e⟩
  ·exact nomatch e
  ·injection e with e1 _
   subst e1
   cases v<;>rfl
theorem qD (prog:Program)(w:World)(i:Int)(t:Tok):(yg prog w).is (.inl i) (.int i t)=true:=lu i t
theorem pz (prog:Program)(w:World)(x:Str)(t:Tok):(yg prog w).is (.inr x) (.str x t)=true:=lY x t
inductive V where
 |non|bl (b:Bool)|int (i:Int)|str (x:Str)|byt (b:Array UInt8)|flt (b:UInt64)|ref (a:Addr)|ty (n:String)
 deriving DecidableEq
def RelV :V→Value→Prop
 |.non,u=>u=Value.none
 |.bl b,u=>u=Value.bool b
 |.int i,u=>∃t,u=Value.int i t
 |.str x,u=>∃t,u=Value.str x t
 |.byt b,u=>∃t,u=Value.bytes b t
 |.flt b,u=>∃t,u=Value.float b t
 |.ref a,u=>u=Value.ref a
 |.ty n,u=>u=Value.type n
abbrev Vals :List V→List Value→Prop:=Paired RelV
theorem Vals.length {xs:List V}{us:List Value}(r:Vals xs us):xs.length=us.length:=Paired.length r
theorem Vals.get :∀{xs:List V} {us:List Value} {i:Nat} {x:V},Vals xs us→xs[i]?=some x→∃u,us[i]?=some u∧RelV x u
 |_,_,_,_,.nil,e=>by simp at e
 |_,_,0,_,.cons r _,e=>by simp at e;subst e;exact⟨_,rfl,r⟩
 |_,_,i+1,x,.cons _ t,e=>by
  obtain⟨u,h1,h2⟩:=Vals.get (i:=i) (x:=x) t (by simpa using e)
  exact⟨u,by simpa using h1,h2⟩
theorem Vals.set {x:V}{u:Value}(r:RelV x u):∀{xs:List V} {us:List Value} (i:Nat),Vals xs us→Vals (xs.set i x) (us.set i u)
 |_,_,_,.nil=>.nil
 |_,_,0,.cons _ t=>.cons r t
 |_,_,i+1,.cons q t=>.cons q (Vals.set r i t)
theorem Vals.append :∀{xs ys:List V} {us ws:List Value},Vals xs us→Vals ys ws→Vals (xs++ys) (us++ws)
 |_,_,_,_,.nil,s=>s
 |_,_,_,_,.cons r t,s=>.cons r (Vals.append t s)
theorem Vals.take :∀{xs:List V} {us:List Value} (n:Nat),Vals xs us→Vals (xs.take n) (us.take n)
 |_,_,0,_=>.nil
 |_,_,_+1,.nil=>.nil
 |_,_,n+1,.cons r t=>.cons r (Vals.take n t)
theorem Vals.drop :∀{xs:List V} {us:List Value} (n:Nat),Vals xs us→Vals (xs.drop n) (us.drop n)
 |_,_,0,r=>r
 |_,_,_+1,.nil=>.nil
 |_,_,n+1,.cons _ t=>Vals.drop n t
def vt :Option V→Option Value→Prop
 |some v,some u=>RelV v u
 |none,none=>True
 |_,_=>False
def KV {κ:Type}:List (κ×V)→List (κ×Value)→Prop:=Paired fun (p:κ×V) (q:κ×Value)=>p.1=q.1∧RelV p.2 q.2
def kV :Key→V
 |.inl i=>.int i
 |.inr x=>.str x
inductive HO where
  |lst (xs:List V)
  |tup (xs:List V)
  |dK (kvs:List (Key×V))|dT (kvs:List (List Key×V))
  |set (S:Int→Bool) (n:Nat)
  |ins (C dx:Addr) (fs:List (Str×V))
  |own (x:Addr)
  |xd (fs:List (Str×V))
  |met (f x:Addr)
  |rng (lo hi:Int)
  |frz (o:Obj) (u:HO)
  |tbl (ps:Array Value)
  |ext (φ:Heap→Prop)
abbrev Hp :=Addr→Option HO
def upd (H:Hp)(a:Addr)(o:HO):Hp:=fun b=>if b=a then some o else H b
theorem zh {H:Hp}{a:Addr}{o:HO}:upd H a o a=some o:=by unfold upd;rw[if_pos rfl]
theorem zj {H:Hp}{a b:Addr}{o:HO}(h:b≠a):upd H a o b=H b:=by unfold upd;rw[if_neg h]
theorem rY {H:Hp}{a:Addr}{o u:HO}:upd (upd H a o) a u=upd H a u:=by
 funext b;unfold upd;split<;>rfl
theorem zm {H:Hp}{a b:Addr}{o:HO}(h:H a=some o)(h':H b=none):a≠b:=by
 intro e;subst e;rw[h] at h';cases h'
section
variable (P:Program)(w:World)
def yc (H:Hp)(h:Heap)(a:Addr):HO→Prop
 |.lst xs=>xs.length≤sizeLine∧∃(its:List Value) (n:Nat),Vals xs its∧h.get? a=some {cls:=.type "list",data:=.seq its.toArray n}
 |.tup xs=>xs.length≤sizeLine∧∃its:List Value,Vals xs its∧IsTup h a its.toArray
 |.dK kvs=>kvs.length≤sizeLine∧(a == sysModules)=false∧∃vs,KV kvs vs∧h.DictOf (yg P w) a vs
 |.dT kvs=>kvs.length≤sizeLine∧(a == sysModules)=false∧∃xs:List (List Key×Addr×Value),
   Paired (fun (p:List Key×V) (q:List Key×Addr×Value)=>p.1=q.1∧H q.2.1=some (.tup (p.1.map kV))∧RelV p.2 q.2.2) kvs xs∧
   ∃o es ep,h.get? a=some o∧o.ExactDict∧o.data=.dict es ep∧es.toList=xs.map (entryOfKey (tupleKind (yg P w)))∧(xs.map (·.1)).Nodup
 |.set S n=>h.SetOf (intKind P w) a S n
 |.ins C dx fs=>H dx=some (.own a)∧fs.length≤1000∧dx≠a∧h.get? a=some (PySem.W.instObj C dx)∧
   ∃mA,h.Ns1 dx mA∧(∀f,vt (fs.lookup f) (mA f))∧PySem.Within mA (fs.map (·.1))
 |.own _=>∃o,h.get? a=some o
 |.xd fs=>∃mA,h.Ns1 a mA∧∀f,vt (fs.lookup f) (mA f)
 |.rng lo hi=>∃t u v,h.get? a=some {cls:=.type "range",data:=.fields #[.int lo t,.int hi u,.int 1 v]}
 |.frz o u=>h.get? a=some o∧yc H h a u
 |.tbl ps=>h.get? a=some {cls:=.none,data:=.fields ps}
 |.met f x=>h.get? a=some (PySem.W.methodObj (.ref f) (.ref x))
 |.ext φ=>φ h∧(∃o,h.get? a=some o)∧∀h1 h2:Heap,φ h1→(∀o,h1.get? a=some o→h2.get? a=some o)→φ h2
def HOk (H:Hp)(h:Heap):Prop:=∀a o,H a=some o→yc P w H h a o
end
section
variable {P:Program}{w:World}{H H':Hp}{h h':Heap}{a:Addr}{o:HO}
theorem yc.lt (x:yc P w H h a o):a<h.objs.size:=by
 cases o with
 |lst xs=>obtain⟨_,_,_,_,e⟩:=x;exact zd9 e
 |tup xs=>obtain⟨_,_,_,p⟩:=x;exact p.lt
 |dK kvs=>obtain⟨_,_,_,_,o,_,_,e,_⟩:=x;exact zd9 e
 |dT kvs=>obtain⟨_,_,_,_,o,_,_,e,_⟩:=x;exact zd9 e
 |set S n=>obtain⟨o,_,_,_,e,_⟩:=x;exact zd9 e
 |ins C dx fs=>obtain⟨_,_,_,e,_⟩:=x;exact zd9 e
 |own y=>obtain⟨_,e⟩:=x;exact zd9 e
 |xd fs=>obtain⟨_,⟨_,_,_,e,_⟩,_⟩:=x;exact zd9 e
 |rng lo hi=>obtain⟨_,_,_,e⟩:=x;exact zd9 e
 |frz ob u=>obtain⟨e,_⟩:=x;exact zd9 e
 |tbl ps=>exact zd9 (show h.get? a=some _ from x)
 |met f y=>exact zd9 (show h.get? a=some _ from x)
 |ext φ=>obtain⟨_,⟨_,e⟩,_⟩:=x;exact zd9 e
theorem Paired.mapP {α β:Type}{F G:α→β→Prop}:∀{l₁:List α} {l₂:List β},Paired F l₁ l₂→(∀a b,F a b→G a b)→Paired G l₁ l₂
 |_,_,.nil,_=>.nil
 |_,_,.cons r t,f=>.cons (f _ _ r) (Paired.mapP t f)
theorem yc.stay (x:yc P w H h a o)(k:∀b u,(b=a∨H b=some (.own a))→h.get? b=some u→h'.get? b=some u)
  (ho:∀b,H b=some (.own a)→H' b=some (.own a)) (ht:∀b xs,H b=some (.tup xs)→H' b=some (.tup xs)):yc P w H' h' a o:=by
 induction o with
 |lst xs=>obtain⟨z,its,n,r,e⟩:=x;exact⟨z,its,n,r,k _ _ (.inl rfl) e⟩
 |tup xs=>obtain⟨z,its,r,ob,e,c⟩:=x;exact⟨z,its,r,ob,k _ _ (.inl rfl) e,c⟩
 |dK kvs=>obtain⟨z,y,vs,r,ob,es,ep,e,c⟩:=x;exact⟨z,y,vs,r,ob,es,ep,k _ _ (.inl rfl) e,c⟩
 |dT kvs=>
  obtain⟨z,y,xs,r,ob,es,ep,e,c⟩:=x
  exact⟨z,y,xs,Paired.mapP r fun p q z=>⟨z.1,ht _ _ z.2.1,z.2.2⟩,ob,es,ep,k _ _ (.inl rfl) e,c⟩
 |set S n=>obtain⟨ob,es,ep,t,e,c⟩:=x;exact⟨ob,es,ep,t,k _ _ (.inl rfl) e,c⟩
 |ins C dx fs=>
  obtain⟨d,z,ne,e,mA,⟨od,es,ep,e2,c⟩,r⟩:=x
  exact⟨ho _ d,z,ne,k _ _ (.inl rfl) e,mA,⟨od,es,ep,k _ _ (.inr d) e2,c⟩,r⟩
 |own y=>obtain⟨ob,e⟩:=x;exact⟨ob,k _ _ (.inl rfl) e⟩
 |xd fs=>obtain⟨mA,⟨od,es,ep,e,c⟩,r⟩:=x;exact⟨mA,⟨od,es,ep,k _ _ (.inl rfl) e,c⟩,r⟩
 |rng lo hi=>obtain⟨t,u,v,e⟩:=x;exact⟨t,u,v,k _ _ (.inl rfl) e⟩
 |frz ob u ih=>obtain⟨e,q⟩:=x;exact⟨k _ _ (.inl rfl) e,ih q⟩
 |tbl ps=>
  have e:h.get? a=some {cls:=.none,data:=.fields ps}:=x
  show h'.get? a=some {cls:=.none,data:=.fields ps}
  exact k a _ (.inl rfl) e
 |met f y=>
  have e:h.get? a=some (PySem.W.methodObj (.ref f) (.ref y)):=x
  show h'.get? a=some (PySem.W.methodObj (.ref f) (.ref y))
  exact k a _ (.inl rfl) e
 |ext φ=>obtain⟨p,⟨o,e⟩,st⟩:=x;exact⟨st _ _ p fun o q=>k _ _ (.inl rfl) q,⟨o,k _ _ (.inl rfl) e⟩,st⟩
theorem HOk.lt (x:HOk P w H h)(e:H a=some o):a<h.objs.size:=(x a o e).lt
theorem HOk.fresh (x:HOk P w H h)(e:h.objs.size≤a):H a=none:=by
 cases q:H a with
 |none=>rfl
 |some u=>exact absurd (zf3 (x.lt q) e) (zl0 _)
theorem HOk.kept (x:HOk P w H h)(k:∀b u,h.get? b=some u→h'.get? b=some u):HOk P w H h':=fun a o e=>
 (x a o e).stay (fun b u _ q=>k b u q) (fun _ q=>q) fun _ _ q=>q
theorem HOk.laid (x:HOk P w H h)(k:∀b u,h.get? b=some u→h'.get? b=some u)(hp:h.objs.size≤a)(new:yc P w (upd H a o) h' a o):HOk P w (upd H a o) h':=fun b u e=>by
 have hn:=x.fresh hp
 by_cases hb:b=a
 ·subst hb;rw[zh] at e;cases e;exact new
 ·rw[zj hb] at e
  exact (x b u e).stay (fun c v _ q=>k c v q) (fun c q=>by rw[zj (zm q hn)];exact q) fun c xs q=>by rw[zj (zm q hn)];exact q
end
def Rd (H:Hp)(a:Addr)(u:HO):Prop:=H a=some u∨∃o,H a=some (.frz o u)
theorem Rd.ok {P:Program}{w:World}{H:Hp}{h:Heap}{a:Addr}{u:HO}(r:Rd H a u)(x:HOk P w H h):yc P w H h a u:=by
 rcases r with r|⟨o,r⟩
 ·exact x a u r
 ·obtain⟨_,q⟩:=x a _ r
  exact q
def Mut :Option HO→Prop
 |some (.lst _)=>True
 |some (.dK _)=>True
 |some (.dT _)=>True
 |some (.set _ _)=>True
 |some (.ins _ _ _)=>True
 |some (.ext _)=>True
 |_=>False
section
variable {P:Program}{w:World}{H:Hp}{h h':Heap}{x e:Addr}{o':HO}
theorem HOk.write (ok:HOk P w H h)(mu:Mut (H x))(he:e=x∨H e=some (.own x))(k:∀b u,b≠e→h.get? b=some u→h'.get? b=some u)(heo:∃u,h'.get? e=some u)
  (new:yc P w (upd H x o') h' x o'):HOk P w (upd H x o') h':=fun b u q=>by
 have nown:∀c y,H c=some (.own y)→c≠x:=fun c y r z=>by subst z;rw[r] at mu;exact mu
 have ntup:∀c xs,H c=some (.tup xs)→c≠x:=fun c xs r z=>by subst z;rw[r] at mu;exact mu
 by_cases hb:b=x
 ·subst hb;rw[zh] at q;cases q;exact new
 ·rw[zj hb] at q
  by_cases hbe:b=e
  ·have q':H b=some (.own x):=by
    rcases he with z|z
    ·exact absurd (hbe.trans z) hb
    ·rw[hbe];exact z
   rw[q] at q';cases q'
   obtain⟨v,hv⟩:=heo
   exact⟨v,by rw[hbe];exact hv⟩
  ·refine (ok b u q).stay (fun c v hc r=>k c v ?_ r) (fun c r=>by rw[zj (nown c b r)];exact r) fun c xs r=>by rw[zj (ntup c xs r)];exact r
   rcases hc with rfl|hc
   ·exact hbe
   ·rintro rfl
    rcases he with z|z
    ·exact nown c b hc z
    ·rw[hc] at z;cases z;exact hb rfl
end
structure Un (fs ex:List Addr)(H H':Hp)(h h':Heap):Prop where
 keep:∀b o,h.get? b=some o→H b=none→b∉fs→b∉ex→h'.get? b=some o
 slot:∀b o,h.get? b=some o→H b=none→b∈fs→b∉ex→∃sl,h'.get? b=some {o with slots:=sl}
 free:∀b o,h.get? b=some o→H b=none→b∉ex→H' b=none
 there:∀b o,h.get? b=some o→b∉ex→∃o',h'.get? b=some o'
 tups:∀b xs,H b=some (.tup xs)→H' b=some (.tup xs)
 frzs:∀b o u,H b=some (.frz o u)→H' b=some (.frz o u)
 tbls:∀b ps,H b=some (.tbl ps)→∃more,H' b=some (.tbl (ps++more))
section
variable {fs fs' ex ex':List Addr}{H H1 H2:Hp}{h h1 h2 h':Heap}{a x e:Addr}{o:HO}
theorem Un.any (u:Un fs ex H H1 h h1){b:Addr}{ob:Obj}(q:h.get? b=some ob)(n:H b=none)(hx:b∉ex):∃sl,h1.get? b=some {ob with slots:=sl}:=by
 by_cases hb:b∈fs
 ·exact u.slot b ob q n hb hx
 ·exact⟨ob.slots,u.keep b ob q n hb hx⟩
theorem Un.kept (k:∀b u,h.get? b=some u→h'.get? b=some u):Un fs ex H H h h':=
 ⟨fun b ob q _ _ _=>k b ob q,fun b ob q _ _ _=>⟨ob.slots,k b ob q⟩,fun _ _ _ n _=>n,fun b ob q _=>⟨ob,k b ob q⟩,fun _ _ q=>q,fun _ _ _ q=>q,fun _ ps q=>⟨#[],by rw[q];simp⟩⟩
theorem Un.refl :Un fs ex H H h h:=Un.kept fun _ _ q=>q
theorem Un.laid (k:∀b u,h.get? b=some u→h'.get? b=some u)(hp:h.objs.size≤a)(hn:H a=none):Un fs ex H (upd H a o) h h' where
 keep:=fun b u q _ _ _=>k b u q
 slot:=fun b u q _ _ _=>⟨u.slots,k b u q⟩
 free:=fun b u q n _=>by rw[zj (ze5 (zf3 (zd9 q) hp))];exact n
 there:=fun b u q _=>⟨u,k b u q⟩
 tups:=fun b xs q=>by rw[zj (zm q hn)];exact q
 frzs:=fun b u xs q=>by rw[zj (zm q hn)];exact q
 tbls:=fun b ps q=>⟨#[],by rw[zj (zm q hn),q];simp⟩
theorem Un.write (mu:Mut (H x))(he:e=x∨H e=some (.own x))(k:∀b u,b≠e→h.get? b=some u→h'.get? b=some u)(heo:∃u,h'.get? e=some u):Un fs ex H (upd H x o) h h':=by
 have hx:∀b,H b=none→b≠x:=fun b n z=>by subst z;rw[n] at mu;exact mu
 have hb:∀b,H b=none→b≠e:=fun b n z=>by
  subst z
  rcases he with r|r
  ·exact hx b n r
  ·rw[n] at r;cases r
 have hm:∀b u,H b=some u→¬Mut (some u)→b≠x:=fun b u q nm z=>by subst z;rw[q] at mu;exact nm mu
 refine⟨fun b u q n _ _=>k b u (hb b n) q,fun b u q n _ _=>⟨u.slots,k b u (hb b n) q⟩,fun b u q n _=>by rw[zj (hx b n)];exact n,fun b u q _=>?_,
  fun b xs q=>by rw[zj (hm b _ q fun z=>z)];exact q,fun b u xs q=>by rw[zj (hm b _ q fun z=>z)];exact q,fun b ps q=>⟨#[],by rw[zj (hm b _ q fun z=>z),q];simp⟩⟩
 by_cases hbe:b=e
 ·subst hbe;exact heo
 ·exact⟨u,k b u hbe q⟩
end
def trk (h:Heap)(H:Hp):List Addr:=(List.range h.objs.size).filter fun a=>(H a).isSome
def rq (h:Heap)(H:Hp):Heap:=PySem.W.hideAll h (trk h H)
theorem mT (h:Heap)(H:Hp):(rq h H).objs.size=h.objs.size:=PySem.W.hideAll_size _ _
theorem jf {h:Heap}{H:Hp}{b:Addr}{o:Obj}(e:h.get? b=some o)(n:H b=none):(rq h H).get? b=some o:=
 PySem.W.hideAll_get _ e fun hm=>by
  have q:(H b).isSome=true:=(List.mem_filter.mp hm).2
  rw[n] at q;simp at q
theorem eF {h:Heap}{H:Hp}{b:Addr}{o:Obj}(e:(rq h H).get? b=some o):h.get? b=some o∧H b=none:=by
 have e':h.get? b=some o:=PySem.W.of_hideAll (trk h H) e
 refine⟨e',?_⟩
 cases q:H b with
 |none=>rfl
 |some x=>
  have hm:b∈trk h H:=List.mem_filter.mpr ⟨List.mem_range.mpr (zd9 e'),by simp[q]⟩
  have z:(rq h H).get? b=none:=PySem.W.hideAll_none (trk h H) hm
  rw[z] at e;cases e
structure Mod (K:PySem.W.Frag)(mg:Str→Option Value)(base:Heap):Prop where
 kin:K.In base
 glob:base.Ns mainGlobals mg
 blt:∃mb,base.Ns builtinsNs mb∧∀x:Str,x≠"__name__"→mb x=bootBuiltins x
 nolimit:base.NoLimit
structure Cx where
 prog:Program
 w:World
 K:PySem.W.Frag
 mg:Str→Option Value
 base:Heap
 A:Around
 N:List Str
 s₀:Shared
 H₀:Hp
 env:Env
 outer:List Env
 stack:List Env
 ex:List Addr
 fn:Str→Bool
 calm:Bool
 pn:List (Addr×Obj)
 xe:Value→Shared→Prop
def frs (l:List Env):List Addr:=l.filterMap (·.frame)
abbrev Cx.fs (X:Cx):List Addr:=frs X.outer
def Vis (sc:Scope)(x:Str):Prop:=sc.names.lookup x=some .local∨sc.names.lookup x=some .cell∨sc.names.lookup x=some .free
def Loc (sc:Scope)(x:Str):Prop:=sc.names.lookup x=some .local∨sc.names.lookup x=some .cell
def Look (env:Env)(h:Heap)(m:Str→Option Value)(x:Str)(u:Value):Prop:=
 (env.kindOf x=some .local∧m x=some u)∨((env.kindOf x=some .cell∨env.kindOf x=some .free)∧∃c,env.cells.lookup x=some c∧h.IsCell c (some u))
structure Cx.Ok (X:Cx):Prop where
 mod:Mod X.K X.mg X.base
 kind:X.env.scope.kind=.function
 glob:X.env.globals=mainGlobals
 blt:X.env.builtins=builtinsNs
 above:X.s₀.heap.objs.size≤X.env.locals
 inj:∀x y c,X.env.cells.lookup x=some c→X.env.cells.lookup y=some c→x=y
 has:∀x,(X.env.kindOf x=some .cell∨X.env.kindOf x=some .free)→∃c,X.env.cells.lookup x=some c
 cab:∀x c,X.fn x=true→X.env.cells.lookup x=some c→X.s₀.heap.objs.size≤c
 hd:X.calm=true→X.A.handled=none
 frames:X.A.frames=some X.stack
 stk:X.stack=X.outer∨(X.stack=X.env::X.outer∧X.env.frame=some X.env.locals)
 exf:∀b∈X.ex,b≠X.env.locals∧∀x c,X.env.cells.lookup x=some c→c≠b
 bs:∀b o,X.base.get? b=some o→X.s₀.heap.get? b=some o∧X.H₀ b=none
 bsz:X.base.objs.size≤X.s₀.heap.objs.size
 noex:∀b o,X.base.get? b=some o→b∉X.ex
 exfs:∀b∈X.ex,b∉X.fs
 funs:X.s₀.heap.FunFrames X.base X.outer
 frf:∀b∈X.fs,X.H₀ b=none
structure Inv (X:Cx)(pins:List (Addr×Obj))(σ:List (Option V))(H:Hp)(s:Shared):Prop where
 ok:X.Ok
 os:s.os=X.s₀.os
 bare:AllBare s.gens
 base:Un X.fs X.ex X.H₀ H X.s₀.heap s.heap
 loc:∃m,s.heap.Ns X.env.locals m∧∀(i:Nat) (x:Str) (v:V),X.N[i]?=some x→σ[i]?=some (some v)→Vis X.env.scope x→∃u,RelV v u∧Look X.env s.heap m x u
 cell:∀x c,X.env.cells.lookup x=some c→∃v,s.heap.IsCell c v
 free:H X.env.locals=none
 freeC:∀x c,X.env.cells.lookup x=some c→H c=none
 pin:∀p∈X.pn++pins,s.heap.get? p.1=some p.2∧H p.1=none∧p.1≠X.env.locals∧p.1∉X.fs∧∀v,p.2.data≠.cell v
 hok:HOk X.prog X.w H s.heap
 len:σ.length=X.N.length
section
variable {X:Cx}{pins:List (Addr×Obj)}{σ:List (Option V)}{H H':Hp}{s:Shared}{h':Heap}
theorem Cx.Ok.nofr (ok:X.Ok){b:Addr}{o:Obj}(e:X.base.get? b=some o):b∉X.fs:=fun hb=>by
 have:=(ok.funs.mem hb).1
 rw[e] at this;cases this
theorem Inv.bs (I:Inv X pins σ H s):∀b o,X.base.get? b=some o→s.heap.get? b=some o∧H b=none:=fun b o e=>
 ⟨I.base.keep b o (I.ok.bs b o e).1 (I.ok.bs b o e).2 (I.ok.nofr e) (I.ok.noex b o e),I.base.free b o (I.ok.bs b o e).1 (I.ok.bs b o e).2 (I.ok.noex b o e)⟩
theorem Inv.bk (I:Inv X pins σ H s):∀b o,X.base.get? b=some o→s.heap.get? b=some o:=fun b o e=>(I.bs b o e).1
theorem Inv.mod (I:Inv X pins σ H s):Mod X.K X.mg X.base:=I.ok.mod
theorem Inv.kIn (I:Inv X pins σ H s):X.K.In s.heap:=I.ok.mod.kin.keeps I.bk
theorem Inv.lt (I:Inv X pins σ H s):X.env.locals<s.heap.objs.size:=let ⟨_,hn,_⟩:=I.loc;hn.lt
theorem Inv.sz (I:Inv X pins σ H s):X.s₀.heap.objs.size≤s.heap.objs.size:=zi6 I.ok.above (zh2 I.lt)
theorem Inv.nofs (I:Inv X pins σ H s){a:Addr}(h:s.heap.objs.size≤a):a∉X.fs:=fun hb=>by
 obtain⟨_,o,ho,_⟩:=I.ok.funs.mem hb
 exact absurd (zf3 (zd9 ho) (zi6 I.sz h)) (zl0 _)
theorem Inv.cne (I:Inv X pins σ H s):∀x c,X.env.cells.lookup x=some c→c≠X.env.locals:=fun x c e z=>by
 obtain⟨v,o,ho,hd⟩:=I.cell x c e
 obtain⟨m,⟨o',es,ep,ho',hd',_⟩,_⟩:=I.loc
 rw[z,ho'] at ho;cases ho;rw[hd'] at hd;cases hd
theorem Inv.funs (I:Inv X pins σ H s):s.heap.FunFrames X.base X.outer:=by
 have all:∀(l:List Env),(∀b∈frs l,b∈X.fs)→X.s₀.heap.FunFrames X.base l→s.heap.FunFrames X.base l:=by
  intro l
  induction l with
  |nil=>intro _ _;trivial
  |cons env r ih=>
   intro hs hl
   obtain⟨hk,⟨L,o,hf,hn,ho,hd⟩,hr⟩:=hl
   have hL:L∈X.fs:=hs L (by unfold frs;rw[zm6,hf];exact zd7)
   obtain⟨sl,e⟩:=I.base.slot L o ho (I.ok.frf L hL) hL fun z=>I.ok.exfs L z hL
   exact⟨hk,⟨L,_,hf,hn,e,hd⟩,ih (fun b hb=>hs b (by unfold frs;rw[zm6,hf];exact zd2 _ hb)) hr⟩
 exact all X.outer (fun _ hb=>hb) I.ok.funs
theorem Inv.stack (I:Inv X pins σ H s):s.heap.FunFrames X.base X.stack:=by
 rcases I.ok.stk with e|⟨e,hf⟩
 ·rw[e];exact I.funs
 ·rw[e]
  obtain⟨m,hn,_⟩:=I.loc
  refine .cons (by rw[I.ok.kind];decide) hf hn ?_ I.funs
  exact Heap.get?_none_of_le (zi6 I.ok.bsz I.ok.above)
theorem Inv.stkSub (I:Inv X pins σ H s):∀b∈frs X.stack,b∈X.env.locals::X.fs:=fun b hb=>by
 rcases I.ok.stk with e|⟨e,hf⟩
 ·rw[e] at hb;exact zd2 _ hb
 ·rw[e] at hb
  unfold frs at hb
  rw[zm6,hf] at hb
  exact hb
theorem Inv.stkFree (I:Inv X pins σ H s):∀b∈frs X.stack,H b=none:=fun b hb=>by
 rcases zc9.mp (I.stkSub b hb) with e|hb
 ·rw[e];exact I.free
 ·obtain⟨_,o,ho,_⟩:=I.ok.funs.mem hb
  exact I.base.free b o ho (I.ok.frf b hb) fun z=>I.ok.exfs b z hb
theorem Inv.step {g':Array GenState}{t':Nat}{d':Drawn}{ch:List Addr}(I:Inv X pins σ H s)
  (hch:∀b∈ch,(b∈X.ex∨X.s₀.heap.objs.size≤b)∧b≠X.env.locals∧(∀x c,X.env.cells.lookup x=some c→c≠b)∧∀p∈X.pn++pins,p.1≠b)
  (keep:∀b o,b≠X.env.locals→b∉X.fs→b∉ch→s.heap.get? b=some o→H b=none→h'.get? b=some o)
  (slot:∀b o,b≠X.env.locals→b∈X.fs→b∉ch→s.heap.get? b=some o→H b=none→∃sl,h'.get? b=some {o with slots:=sl}) (free:∀b o,b∉ch→s.heap.get? b=some o→H b=none→H' b=none)
  (there:∀b o,b∉ch→s.heap.get? b=some o→∃o',h'.get? b=some o')
  (tups:∀b xs,H b=some (.tup xs)→H' b=some (.tup xs)) (frzs:∀b o u,H b=some (.frz o u)→H' b=some (.frz o u)) (tbls:∀b ps,H b=some (.tbl ps)→∃more,H' b=some (.tbl (ps++more)))
  (ns:∀m,s.heap.Ns X.env.locals m→h'.Ns X.env.locals m) (hok:HOk X.prog X.w H' h') (hg:AllBare g'):
  Inv X pins σ H' {s with heap:=h',gens:=g',drawn:=d',toks:=t'}:=by
 have neL:∀b o,X.s₀.heap.get? b=some o→b≠X.env.locals:=fun b o e=>ze5 (zf3 (zd9 e) I.ok.above)
 have neC:∀b o,X.s₀.heap.get? b=some o→b∉X.ex→b∉ch:=fun b o e hx hb=>by
  rcases (hch b hb).1 with z|z
  ·exact hx z
  ·exact absurd (zf3 (zd9 e) z) (zl0 _)
 have cellK:∀x c,X.env.cells.lookup x=some c→∀v,s.heap.IsCell c v→h'.IsCell c v:=fun x c e v ⟨o,ho,hd⟩=>by
  have nch:c∉ch:=fun z=>(hch c z).2.2.1 x c e rfl
  by_cases hc:c∈X.fs
  ·obtain⟨sl,q⟩:=slot c o (I.cne x c e) hc nch ho (I.freeC x c e)
   exact⟨_,q,hd⟩
  ·exact⟨o,keep c o (I.cne x c e) hc nch ho (I.freeC x c e),hd⟩
 refine⟨I.ok,I.os,hg,⟨fun b o e n hb hx=>?_,fun b o e n hb hx=>?_,fun b o e n hx=>?_,fun b o e hx=>?_,fun b xs e=>tups b xs (I.base.tups b xs e),fun b o xs e=>frzs b o xs (I.base.frzs b o xs e),fun b ps e=>?_⟩,?_,fun x c e=>?_,?_,fun x c e=>?_,fun p hp=>?_,hok,I.len⟩
 ·exact keep b o (neL b o e) hb (neC b o e hx) (I.base.keep b o e n hb hx) (I.base.free b o e n hx)
 ·obtain⟨sl,e1⟩:=I.base.slot b o e n hb hx
  obtain⟨sl',e2⟩:=slot b _ (neL b o e) hb (neC b o e hx) e1 (I.base.free b o e n hx)
  exact⟨sl',e2⟩
 ·obtain⟨o',e1⟩:=I.base.there b o e hx
  exact free b o' (neC b o e hx) e1 (I.base.free b o e n hx)
 ·obtain⟨o',e1⟩:=I.base.there b o e hx
  exact there b o' (neC b o e hx) e1
 ·obtain⟨m1,e1⟩:=I.base.tbls b ps e
  obtain⟨m2,e2⟩:=tbls b _ e1
  exact⟨m1++m2,by rw[e2,Array.append_assoc]⟩
 ·obtain⟨m,hn,hl⟩:=I.loc
  refine⟨m,ns m hn,fun i x v e1 e2 e3=>?_⟩
  obtain⟨u,r,l⟩:=hl i x v e1 e2 e3
  refine⟨u,r,?_⟩
  rcases l with l|⟨k,c,e,z⟩
  ·exact .inl l
  ·exact .inr ⟨k,c,e,cellK x c e _ z⟩
 ·obtain⟨v,z⟩:=I.cell x c e
  exact⟨v,cellK x c e v z⟩
 ·obtain⟨m,⟨o,_,_,ho,_⟩,_⟩:=I.loc
  exact free _ o (fun z=>(hch _ z).2.1 rfl) ho I.free
 ·obtain⟨v,o,ho,hd⟩:=I.cell x c e
  exact free c o (fun z=>(hch c z).2.2.1 x c e rfl) ho (I.freeC x c e)
 ·obtain⟨e,n,ne,nf,d⟩:=I.pin p hp
  have nch:p.1∉ch:=fun z=>(hch p.1 z).2.2.2 p hp rfl
  exact⟨keep p.1 p.2 ne nf nch e n,free p.1 p.2 nch e n,ne,nf,d⟩
theorem Inv.un {t':Nat}(I:Inv X pins σ H s)(u:Un X.fs [] H H' s.heap h')(hok:HOk X.prog X.w H' h'):Inv X pins σ H' {s with heap:=h',toks:=t'}:=by
 obtain⟨m,⟨o,es,ep,ho,r⟩,_⟩:=id I.loc
 obtain⟨sl,hL⟩:=u.any ho I.free (by simp)
 exact I.step (g':=s.gens) (d':=s.drawn) (ch:=[]) (fun _ z=>nomatch z) (fun b o _ hb _ e n=>u.keep b o e n hb (by simp)) (fun b o _ hb _ e n=>u.slot b o e n hb (by simp)) (fun b o _ e n=>u.free b o e n (by simp)) (fun b o _ e=>u.there b o e (by simp)) u.tups u.frzs u.tbls (fun m' hm=>by
  obtain⟨o',es',ep',ho',r'⟩:=hm
  rw[ho] at ho';cases ho'
  exact⟨_,es',ep',hL,r'⟩) hok I.bare
theorem Inv.call {g':Array GenState}{t':Nat}{d':Drawn}{ch:List Addr}(I:Inv X pins σ H s)(u:Un (frs X.stack) ch H H' s.heap h')(hok:HOk X.prog X.w H' h')(hg:AllBare g')
  (hch:∀b∈ch,(b∈X.ex∨X.s₀.heap.objs.size≤b)∧b≠X.env.locals∧(∀x c,X.env.cells.lookup x=some c→c≠b)∧∀p∈X.pn++pins,p.1≠b):
  Inv X pins σ H' {s with heap:=h',gens:=g',drawn:=d',toks:=t'}:=by
 obtain⟨m,⟨o,es,ep,ho,r⟩,_⟩:=id I.loc
 obtain⟨sl,hL⟩:=u.any ho I.free fun z=>(hch _ z).2.1 rfl
 exact I.step (ch:=ch) hch (fun b o hL hb hc e n=>u.keep b o e n (fun z=>(zc9.mp (I.stkSub b z)).elim hL hb) hc) (fun b o _ _ hc e n=>u.any e n hc) (fun b o hc e n=>u.free b o e n hc) (fun b o hc e=>u.there b o e hc) u.tups u.frzs u.tbls (fun m' hm=>by
  obtain⟨o',es',ep',ho',r'⟩:=hm
  rw[ho] at ho';cases ho'
  exact⟨_,es',ep',hL,r'⟩) hok hg
theorem Inv.turned {t':Nat}{it:Addr}(I:Inv X pins σ H s)(k:∀b o,b≠it→s.heap.get? b=some o→h'.get? b=some o)(hn:H it=none)(hL:it≠X.env.locals)
  (h1:it∈X.ex∨X.s₀.heap.objs.size≤it) (h2:∀x c,X.env.cells.lookup x=some c→c≠it) (h3:∀p∈X.pn++pins,p.1≠it):Inv X pins σ H {s with heap:=h',toks:=t'}:=by
 have nit:∀b u,H b=some u→b≠it:=fun b u e z=>by rw[z,hn] at e;cases e
 refine I.step (g':=s.gens) (d':=s.drawn) (ch:=[it]) (fun b hb=>?_) (fun b o _ _ hc e _=>k b o (fun z=>hc (by simp[z])) e) (fun b o _ _ hc e _=>⟨o.slots,k b o (fun z=>hc (by simp[z])) e⟩) (fun _ _ _ _ n=>n)
  (fun b o hc e=>⟨o,k b o (fun z=>hc (by simp[z])) e⟩) (fun _ _ e=>e) (fun _ _ _ e=>e) (fun b ps e=>⟨#[],by rw[e];simp⟩) (fun m hm=>?_) (fun b u e=>?_) I.bare
 ·have e:b=it:=by simpa using hb
  subst e
  exact⟨h1,hL,h2,h3⟩
 ·obtain⟨o,es,ep,ho,r⟩:=hm
  exact⟨o,es,ep,k _ o (zl9 hL) ho,r⟩
 ·refine (I.hok b u e).stay (fun c v hc q=>k c v ?_ q) (fun _ q=>q) fun _ _ q=>q
  rcases hc with z|z
  ·rw[z];exact nit b u e
  ·exact nit c _ z
theorem Inv.tok (I:Inv X pins σ H s)(t:Nat):Inv X pins σ H {s with toks:=t}:=I.un (h':=s.heap) (t':=t) Un.refl I.hok
theorem Inv.kept {t':Nat}(I:Inv X pins σ H s)(k:∀b u,s.heap.get? b=some u→h'.get? b=some u):Inv X pins σ H {s with heap:=h',toks:=t'}:=I.un (Un.kept k) (I.hok.kept k)
theorem Inv.laid {a:Addr}{o:HO}{t':Nat}(I:Inv X pins σ H s)(k:∀b u,s.heap.get? b=some u→h'.get? b=some u)(hp:s.heap.objs.size≤a)(new:yc X.prog X.w (upd H a o) h' a o):
  Inv X pins σ (upd H a o) {s with heap:=h',toks:=t'}:=I.un (Un.laid k hp (I.hok.fresh hp)) (I.hok.laid k hp new)
theorem Inv.write {x e:Addr}{o:HO}{t':Nat}(I:Inv X pins σ H s)(mu:Mut (H x))(he:e=x∨H e=some (.own x))(k:∀b u,b≠e→s.heap.get? b=some u→h'.get? b=some u)(heo:∃u,h'.get? e=some u)
  (new:yc X.prog X.w (upd H x o) h' x o):Inv X pins σ (upd H x o) {s with heap:=h',toks:=t'}:=I.un (Un.write mu he k heo) (I.hok.write mu he k heo new)
theorem Inv.pins_of {pins':List (Addr×Obj)}(I:Inv X pins σ H s)(h:∀p∈pins',s.heap.get? p.1=some p.2∧H p.1=none∧p.1≠X.env.locals∧p.1∉X.fs∧∀v,p.2.data≠.cell v):Inv X pins' σ H s:=
 ⟨I.ok,I.os,I.bare,I.base,I.loc,I.cell,I.free,I.freeC,fun p hp=>(zf6.mp hp).elim (fun z=>I.pin p (zg1 _ z)) (h p),I.hok,I.len⟩
theorem pb {N:List Str}(hN:N.Nodup){i j:Nat}{x:Str}(a:N[i]?=some x)(b:N[j]?=some x):i=j:=by
 obtain⟨h1,e1⟩:=zd1.mp a
 obtain⟨h2,e2⟩:=zd1.mp b
 exact (List.getElem_inj hN).mp (e1.trans e2.symm)
theorem sF {M:Model}{A:Around}{E:Value→Shared→Prop}{i:Nat}{x:Str}{v:V}{u:Value}{Q:Unit→Shared→Prop}(I:Inv X pins σ H s)(hN:X.N.Nodup)(hi:X.N[i]?=some x)(hx:Loc X.env.scope x)(r:RelV v u)
  (h:∀s',Inv X pins (σ.set i (some v)) H s'→(∃a,Heap.SameBut a s.heap s'.heap∧(a=X.env.locals∨X.env.cells.lookup x=some a))→Q () s') (hf:X.fn x=true∨X.env.scope.names.lookup x=some .local:=by first|exact .inl rfl|exact .inr rfl|assumption):wpAny M A (storeName X.env x u) Q E s:=by
 obtain⟨m,hn,hl⟩:=id I.loc
 have hcls:(X.env.scope.kind == .class||(X.env.scope.kind == .module&&X.env.locals != X.env.globals))=false:=by rw[I.ok.kind];rfl
 have hiσ:i<σ.length:=by rw[I.len];exact (zd1.mp hi).1
 have cne:=I.cne
 have tracked:∀{a:Addr} {h':Heap},(∃o,s.heap.get? a=some o∧H a=none)→Heap.SameBut a s.heap h'→HOk X.prog X.w H h':=fun {a h'} ha hs b ob e=>by
  obtain⟨_,_,hfree⟩:=ha
  refine (I.hok b ob e).stay (fun c w' hc q=>(hs.2 c ?_).trans q) (fun _ q=>q) fun _ _ q=>q
  rintro rfl
  rcases hc with rfl|hc
  ·rw[hfree] at e;cases e
  ·rw[hfree] at hc;cases hc
 rcases hx with hk|hk
 ·refine wpAny_storeName_local hk hn (fun h' hn' hs=>?_) hcls
  obtain⟨oL,_,_,hoL,_⟩:=id hn
  refine h _ ⟨I.ok,I.os,I.bare,⟨fun b o e n hb hx=>?_,fun b o e n hb hx=>?_,I.base.free,fun b o e hx=>?_,I.base.tups,I.base.frzs,I.base.tbls⟩,⟨_,hn',fun j y v' e1 e2 e3=>?_⟩,fun y c e=>?_,I.free,I.freeC,fun p hp=>?_,tracked ⟨oL,hoL,I.free⟩ hs,by simpa using I.len⟩ ⟨_,hs,.inl rfl⟩
  ·exact (hs.2 b (ze5 (zf3 (zd9 e) I.ok.above))).trans (I.base.keep b o e n hb hx)
  ·obtain⟨sl,e1⟩:=I.base.slot b o e n hb hx
   exact⟨sl,(hs.2 b (ze5 (zf3 (zd9 e) I.ok.above))).trans e1⟩
  ·obtain⟨o',e1⟩:=I.base.there b o e hx
   exact⟨o',(hs.2 b (ze5 (zf3 (zd9 e) I.ok.above))).trans e1⟩
  ·by_cases hj:j=i
   ·subst hj
    rw[hi] at e1;cases e1
    rw[zk1 hiσ] at e2
    cases e2
    exact⟨u,r,.inl ⟨hk,by simp⟩⟩
   ·rw[zh6 (zl9 hj)] at e2
    obtain⟨u',r',q⟩:=hl j y v' e1 e2 e3
    refine⟨u',r',?_⟩
    rcases q with ⟨k,e⟩|⟨k,c,e,z⟩
    ·refine .inl ⟨k,?_⟩
     have:y≠x:=fun e=>hj (pb hN e1 (e▸hi))
     simp[this,e]
    ·exact .inr ⟨k,c,e,z.sameBut hs (cne y c e)⟩
  ·obtain⟨w',z⟩:=I.cell y c e
   exact⟨w',z.sameBut hs (cne y c e)⟩
  ·obtain⟨e,n,ne,nf,d⟩:=I.pin p hp
   exact⟨(hs.2 p.1 ne).trans e,n,ne,nf,d⟩
 ·have hfn:X.fn x=true:=by
   rcases hf with z|z
   ·exact z
   ·rw[z] at hk;cases hk
  obtain⟨c,hc⟩:=I.ok.has x (.inl hk)
  obtain⟨w',z⟩:=I.cell x c hc
  refine wpAny_storeName_cell I.ok.kind hk hc z (fun h' hc' hs=>?_)
  obtain⟨oc,hoc,hocd⟩:=id z
  refine h {s with heap:=h'} ⟨I.ok,I.os,I.bare,⟨fun b o e n hb hx=>?_,fun b o e n hb hx=>?_,I.base.free,fun b o e hx=>?_,I.base.tups,I.base.frzs,I.base.tbls⟩,⟨m,hn.sameBut hs (zl9 (cne x c hc)),fun j y v' e1 e2 e3=>?_⟩,fun y c' e=>?_,I.free,I.freeC,fun p hp=>?_,tracked ⟨oc,hoc,I.freeC x c hc⟩ hs,by simpa using I.len⟩ ⟨c,hs,.inr hc⟩
  ·exact (hs.2 b (ze5 (zf3 (zd9 e) (I.ok.cab x c hfn hc)))).trans (I.base.keep b o e n hb hx)
  ·obtain⟨sl,e1⟩:=I.base.slot b o e n hb hx
   exact⟨sl,(hs.2 b (ze5 (zf3 (zd9 e) (I.ok.cab x c hfn hc)))).trans e1⟩
  ·obtain⟨o',e1⟩:=I.base.there b o e hx
   exact⟨o',(hs.2 b (ze5 (zf3 (zd9 e) (I.ok.cab x c hfn hc)))).trans e1⟩
  ·by_cases hj:j=i
   ·subst hj
    rw[hi] at e1;cases e1
    rw[zk1 hiσ] at e2
    cases e2
    exact⟨u,r,.inr ⟨.inl hk,c,hc,hc'⟩⟩
   ·rw[zh6 (zl9 hj)] at e2
    obtain⟨u',r',q⟩:=hl j y v' e1 e2 e3
    refine⟨u',r',?_⟩
    rcases q with q|⟨k,c',e,z'⟩
    ·exact .inl q
    ·refine .inr ⟨k,c',e,z'.sameBut hs ?_⟩
     rintro rfl
     exact hj (pb hN e1 (I.ok.inj _ _ _ e hc▸hi))
  ·by_cases hcc:c'=c
   ·subst hcc;exact⟨_,hc'⟩
   ·obtain⟨w2,z2⟩:=I.cell y c' e
    exact⟨w2,z2.sameBut hs hcc⟩
  ·obtain⟨e,n,ne,nf,d⟩:=I.pin p hp
   refine⟨(hs.2 p.1 ?_).trans e,n,ne,nf,d⟩
   intro q
   rw[q,hoc] at e
   have q':oc=p.2:=zg2 e
   exact d w' (by rw[←q'];exact hocd)
theorem pD {M:Model}{A:Around}{E:Value→Shared→Prop}{i:Nat}{x:Str}{v:V}{u:Value}{Q:Unit→Shared→Prop}(I:Inv X pins σ H s)(hN:X.N.Nodup)(hi:X.N[i]?=some x)(hx:Loc X.env.scope x)(r:RelV v u)
  (h:∀s',Inv X pins (σ.set i (some v)) H s'→Q () s') (hf:X.fn x=true∨X.env.scope.names.lookup x=some .local:=by first|exact .inl rfl|exact .inr rfl|assumption):wpAny M A (storeName X.env x u) Q E s:=
 sF I hN hi hx r (fun s' I' _=>h s' I') hf
theorem Inv.call' {s':Shared}{ch:List Addr}(I:Inv X pins σ H s)(ho:s'.os=s.os)(u:Un (frs X.stack) ch H H' s.heap s'.heap)(hok:HOk X.prog X.w H' s'.heap)(hg:AllBare s'.gens)
  (hch:∀b∈ch,(b∈X.ex∨X.s₀.heap.objs.size≤b)∧b≠X.env.locals∧(∀x c,X.env.cells.lookup x=some c→c≠b)∧∀p∈X.pn++pins,p.1≠b):Inv X pins σ H' s':=by
 obtain⟨h',g',d',t',o'⟩:=s'
 have e:o'=s.os:=ho
 subst e
 exact I.call (g':=g') (t':=t') (d':=d') u hok hg hch
end
abbrev XK :=Value→Option Addr→Hp→Prop
abbrev St :=List (Option V)
abbrev VK :=V→Hp→Prop
abbrev TE :=St→Hp→VK→Prop
abbrev TT :=St→Hp→(Bool→Hp→Prop)→Prop
abbrev TA :=St→Hp→(List V→Hp→Prop)→Prop
structure Ends where
 nx:St→Hp→Prop
 rt:VK
 bk:St→Hp→Prop:=fun _ _=>False
 ct:St→Hp→Prop:=fun _ _=>False
abbrev TS :=Ends→St→Hp→Prop
def EP (X:Cx)(pins:List (Addr×Obj))(σ:St)(Q:VK)(u:Value)(s':Shared):Prop:=∃v H',Inv X pins σ H' s'∧RelV v u∧Q v H'
def TP (X:Cx)(pins:List (Addr×Obj))(σ:St)(Q:Bool→Hp→Prop)(b:Bool)(s':Shared):Prop:=∃H',Inv X pins σ H' s'∧Q b H'
def AP (X:Cx)(pins:List (Addr×Obj))(σ:St)(Q:List V→Hp→Prop)(us:List Value)(s':Shared):Prop:=∃vs H',Inv X pins σ H' s'∧Vals vs us∧Q vs H'
def SP (X:Cx)(pins:List (Addr×Obj))(D:Ends)(f:Flow)(s':Shared):Prop:=
 match f with
 |.next=>∃σ' H',Inv X pins σ' H' s'∧D.nx σ' H'
 |.brk=>∃σ' H',Inv X pins σ' H' s'∧D.bk σ' H'
 |.cont=>∃σ' H',Inv X pins σ' H' s'∧D.ct σ' H'
 |.ret u=>∃v σ' H',Inv X pins σ' H' s'∧RelV v u∧D.rt v H'
def PE (X:Cx)(e:Expr)(t:TE):Prop:=
 ∀(pins:List (Addr×Obj)) (s:Shared) (σ:St) (H:Hp) (Q:VK),Inv X pins σ H s→t σ H Q→wpAny (model X.prog X.w) X.A (eval e X.env) (EP X pins σ Q) X.xe s
def PT (X:Cx)(e:Expr)(t:TT):Prop:=
 ∀(pins:List (Addr×Obj)) (s:Shared) (σ:St) (H:Hp) (Q:Bool→Hp→Prop),Inv X pins σ H s→t σ H Q→wpAny (model X.prog X.w) X.A (isTrue e X.env (eval e X.env)) (TP X pins σ Q) X.xe s
def PW (X:Cx)(e:Expr)(t:TT):Prop:=
 ∀(whole:Sem Value) (pins:List (Addr×Obj)) (s:Shared) (σ:St) (H:Hp) (Q:Bool→Hp→Prop),Inv X pins σ H s→t σ H Q→wpAny (model X.prog X.w) X.A (isTrue e X.env whole) (TP X pins σ Q) X.xe s
theorem PW.pt {X:Cx}{e:Expr}{t:TT}(h:PW X e t):PT X e t:=h _
def PA (X:Cx)(es:List Expr)(t:TA):Prop:=
 ∀(pos:Pos) (pins:List (Addr×Obj)) (s:Shared) (σ:St) (H:Hp) (Q:List V→Hp→Prop),Inv X pins σ H s→t σ H Q→wpAny (model X.prog X.w) X.A (spliced (backTo pos (starEach es X.env))) (AP X pins σ Q) X.xe s
def PS (X:Cx)(st:Stmt)(t:TS):Prop:=
 ∀(pins:List (Addr×Obj)) (s:Shared) (σ:St) (H:Hp) (D:Ends),Inv X pins σ H s→t D σ H→wpAny (model X.prog X.w) X.A (exec st X.env) (SP X pins D) X.xe s
def PSs (X:Cx)(st:List Stmt)(t:TS):Prop:=
 ∀(pins:List (Addr×Obj)) (s:Shared) (σ:St) (H:Hp) (D:Ends),Inv X pins σ H s→t D σ H→wpAny (model X.prog X.w) X.A (execs st X.env) (SP X pins D) X.xe s
theorem thn {α:Type}{t:Sem α}{Q Q':α→Shared→Prop}{M:Model}{A:Around}{E:Value→Shared→Prop}{s:Shared}(h:wpAny M A t Q E s)(hQ:∀a s,Q a s→Q' a s):wpAny M A t Q' E s:=zg7 h hQ fun _ _ x=>x
section
variable {X:Cx}
theorem bin {a b:Expr}{ta tb:TE}(ha:PE X a ta)(hb:PE X b tb){pins:List (Addr×Obj)}{s:Shared}{σ:St}{H:Hp}{R:V→V→Hp→Prop}(I:Inv X pins σ H s)(h:ta σ H fun x H1=>tb σ H1 fun y H2=>R x y H2)
  {α:Type} {Q:α→Shared→Prop} {f:Value→Value→Sem α}
  (hf:∀v u s2 x y H2,Inv X pins σ H2 s2→RelV x v→RelV y u→R x y H2→wpAny (model X.prog X.w) X.A (f v u) Q X.xe s2):
  wpAny (model X.prog X.w) X.A (eval a X.env) (fun v s₁=>wpAny (model X.prog X.w) X.A (eval b X.env) (fun u s₂=>wpAny (model X.prog X.w) X.A (f v u) Q X.xe s₂) X.xe s₁) X.xe s:=by
 refine thn (ha pins s σ H _ I h) fun v s1 ⟨x,H1,I1,r1,q1⟩=>?_
 refine thn (hb pins s1 σ H1 _ I1 q1) fun u s2 ⟨y,H2,I2,r2,q2⟩=>?_
 exact hf v u s2 x y H2 I2 r1 r2 q2
def bL (i:Nat):TE:=fun σ H Q=>∃v,σ[i]?=some (some v)∧Q v H
def tC (v:V):TE:=fun _ H Q=>Q v H
theorem xF {i:Nat}{x:Str}{pos:Pos}(hN:X.N[i]?=some x)(hv:Vis X.env.scope x)(hd:(x == ("__debug__":Str))=false:=by decide)(hcd:(x == ("__classdict__":Str))=false:=by decide):PE X (.Name x pos) (bL i):=by
 intro pins s σ H Q I h
 obtain⟨v,e,h⟩:=h
 obtain⟨m,hn,hl⟩:=I.loc
 obtain⟨u,r,l⟩:=hl i x v hN e hv
 have fin:EP X pins σ Q u s:=⟨v,H,I,r,h⟩
 rcases l with ⟨hk,hm⟩|⟨hk,c,hc,hcell⟩
 ·exact wpAny_Name (wpAny_loadName_local I.ok.kind hk hn hm fin) hd
 ·rcases hk with hk|hk
  ·exact wpAny_Name (wpAny_loadName_cell I.ok.kind hk hc hcell fin) hd
  ·exact wpAny_Name (wpAny_loadName_free I.ok.kind hk hc hcell fin hcd) hd
theorem zw {i j pos}:PE X (.Constant (.int i) j pos) (tC (.int i)):=fun _ _ _ H _ I h=>wpAny_Constant_int ⟨.int i,H,I.tok _,⟨_,rfl⟩,h⟩
theorem bw {b j pos}:PE X (.Constant (.bool b) j pos) (tC (.bl b)):=fun _ _ _ H _ I h=>Constant_bool ⟨.bl b,H,I,rfl,h⟩
theorem rG {j pos}:PE X (.Constant .none j pos) (tC .non):=fun _ _ _ H _ I h=>Constant_none ⟨.non,H,I,rfl,h⟩
theorem zI {x j pos}:PE X (.Constant (.str x) j pos) (tC (.str x)):=fun _ _ _ H _ I h=>Calls.Constant_str ⟨.str x,H,I.tok _,⟨_,rfl⟩,h⟩
def Gl (X:Cx)(x:Str):Prop:=X.env.kindOf x=some .globalImplicit
theorem vG {E:Value→Shared→Prop}{pins:List (Addr×Obj)}{s:Shared}{σ:St}{H:Hp}{x:Str}{u:Value}{pos:Pos}{Q:Value→Shared→Prop}(I:Inv X pins σ H s)(hg:Gl X x)(hm:X.mg x=some u)(h:Q u s)
  (hd:(x == ("__debug__":Str))=false:=by decide):wpAny (model X.prog X.w) X.A (eval (.Name x pos) X.env) Q E s:=
 Calls.Name_function_global I.ok.kind hg (Calls.loadGlobal_global (by rw[I.ok.glob];exact I.mod.glob.keeps I.bk) hm h) hd
theorem vL {E:Value→Shared→Prop}{pins:List (Addr×Obj)}{s:Shared}{σ:St}{H:Hp}{x:Str}{u:Value}{pos:Pos}{Q:Value→Shared→Prop}(I:Inv X pins σ H s)(hg:Gl X x)(hm:X.mg x=none)(hv:bootBuiltins x=some u)(h:Q u s)
  (hn:x≠"__name__":=by decide) (hd:(x == ("__debug__":Str))=false:=by decide):wpAny (model X.prog X.w) X.A (eval (.Name x pos) X.env) Q E s:=by
 obtain⟨mb,h1,h2⟩:=I.mod.blt
 exact Calls.Name_function_global I.ok.kind hg (Calls.loadGlobal_builtin (by rw[I.ok.glob];exact I.mod.glob.keeps I.bk) hm (by rw[I.ok.blt];exact h1.keeps I.bk) ((h2 x hn).trans hv) h) hd
theorem wH {x:Str}{v:V}{u:Value}{pos:Pos}(hg:Gl X x)(hm:X.mg x=some u)(r:RelV v u)(hd:(x == ("__debug__":Str))=false:=by decide):PE X (.Name x pos) (tC v):=
 fun _ _ _ H _ I h=>vG I hg hm ⟨v,H,I,r,h⟩ hd
theorem vH {x:Str}{v:V}{u:Value}{pos:Pos}(hg:Gl X x)(hm:X.mg x=none)(hv:bootBuiltins x=some u)(r:RelV v u)(hn:x≠"__name__":=by decide)(hd:(x == ("__debug__":Str))=false:=by decide):PE X (.Name x pos) (tC v):=
 fun _ _ _ H _ I h=>vL I hg hm hv ⟨v,H,I,r,h⟩ hn hd
variable {a b:Expr}{ta tb:TE}{pos:Pos}
def PC (X:Cx)(op:CmpOp)(a b:Expr)(t:TE):Prop:=
 ∀(pins:List (Addr×Obj)) (s:Shared) (σ:St) (H:Hp) (Q:VK),Inv X pins σ H s→t σ H Q→
  wpAny (model X.prog X.w) X.A (eval a X.env) (fun v s₁=>wpAny (model X.prog X.w) X.A (eval b X.env) (fun u s₂=>wpAny (model X.prog X.w) X.A (compareOp op v u) (EP X pins σ Q) X.xe s₂) X.xe s₁) X.xe s
def tB (t:TE):TT:=fun σ H Q=>t σ H fun x H1=>∃c,x=.bl c∧Q c H1
theorem zb4 {op:CmpOp}{t:TE}(h:PC X op a b t)(h1:behindInMarks op b=false:=by first|exact nobehind _ (by decide) (by decide)|rfl):PT X (.Compare a [op] [b] pos) (tB t):=by
 intro pins s σ H Q I hw
 refine wpAny_isTrue_Compare1 (thn (h pins s σ H _ I hw) fun v s1 h1=>thn h1 fun u s2 h2=>thn h2 fun c s3 ⟨x,H1,I1,r1,q1⟩=>?_) h1
 obtain⟨d,rfl,q⟩:=q1
 cases r1
 exact zh1 ⟨H1,I1,q⟩
theorem kX {e:Expr}{t:TE}(h:PE X e t)(he:∀whole,isTrue e X.env whole=(do let v ←whole;standAt e.pos;holding [v] (truthy v)):=by intro _;rfl):PT X e (tB t):=by
 intro pins s σ H Q I hw
 refine isTrue_plain (thn (h pins s σ H _ I hw) fun v s1 ⟨x,H1,I1,r1,q1⟩=>?_) (he _)
 obtain⟨d,rfl,q⟩:=q1
 cases r1
 exact zh1 ⟨H1,I1,q⟩
variable {tA tB':TT}{rest:List Expr}
def za4 (t u:TT):TT:=fun σ H Q=>t σ H fun c H1=>if c=true then u σ H1 Q else Q false H1
def tOr (t u:TT):TT:=fun σ H Q=>t σ H fun c H1=>if c=true then Q true H1 else u σ H1 Q
def zc4 (t:TT):TT:=fun σ H Q=>t σ H fun c H1=>Q (!c) H1
theorem gP (ha:PT X a tA):PW X (.BoolOp .And [a] pos) tA:=by
 intro wh pins s σ H Q I h
 refine isTrue_and (thn (ha pins s σ H Q I h) fun c s1 e=>?_)
 cases c with
 |true=>exact isTrue_and_nil e
 |false=>exact e
theorem oj (ha:PT X a tA):PW X (.BoolOp .Or [a] pos) tA:=by
 intro wh pins s σ H Q I h
 refine isTrue_or (thn (ha pins s σ H Q I h) fun c s1 e=>?_)
 cases c with
 |false=>exact isTrue_or_nil e
 |true=>exact e
theorem bb (ha:PT X a tA)(hb:PW X (.BoolOp .And (b::rest) pos) tB'):PW X (.BoolOp .And (a::b::rest) pos) (za4 tA tB'):=by
 intro wh pins s σ H Q I h
 refine isTrue_and (thn (ha pins s σ H _ I h) fun c s1 ⟨H1,I1,q1⟩=>?_)
 cases c with
 |true=>exact hb wh pins s1 σ H1 Q I1 q1
 |false=>exact⟨H1,I1,q1⟩
theorem kJ (ha:PT X a tA)(hb:PW X (.BoolOp .Or (b::rest) pos) tB'):PW X (.BoolOp .Or (a::b::rest) pos) (tOr tA tB'):=by
 intro wh pins s σ H Q I h
 refine isTrue_or (thn (ha pins s σ H _ I h) fun c s1 ⟨H1,I1,q1⟩=>?_)
 cases c with
 |true=>exact⟨H1,I1,q1⟩
 |false=>exact hb wh pins s1 σ H1 Q I1 q1
theorem kZ (ha:PT X a tA):PT X (.UnaryOp .Not a pos) (zc4 tA):=by
 intro pins s σ H Q I h
 exact isTrue_not (ha pins s σ H (fun c H1=>Q (!c) H1) I h)
def bu (ta tb:TE):TE:=fun σ H Q=>ta σ H fun x H1=>∃c,x=.bl c∧if c=true then tb σ H1 Q else Q (.bl false) H1
def aZ (ta tb:TE):TE:=fun σ H Q=>ta σ H fun x H1=>∃c,x=.bl c∧if c=true then Q (.bl true) H1 else tb σ H1 Q
def bU (ta:TE):TE:=fun σ H Q=>ta σ H fun x H1=>∃c,x=.bl c∧Q (.bl (!c)) H1
theorem xm {op}{t:TE}(h:PE X a t):PE X (.BoolOp op [a] pos) t:=fun pins s σ H Q I hw=>BoolOp_one (h pins s σ H Q I hw)
theorem yS (ha:PE X a ta)(hb:PE X (.BoolOp .And (b::rest) pos) tb):PE X (.BoolOp .And (a::b::rest) pos) (bu ta tb):=by
 intro pins s σ H Q I h
 refine BoolOp_and (thn (ha pins s σ H _ I h) fun v s1 ⟨x,H1,I1,r1,q1⟩=>?_)
 obtain⟨c,rfl,q1⟩:=q1
 cases r1
 refine zh1 ?_
 cases c with
 |true=>exact hb pins s1 σ H1 Q I1 q1
 |false=>exact⟨.bl false,H1,I1,rfl,q1⟩
theorem de (ha:PE X a ta)(hb:PE X (.BoolOp .Or (b::rest) pos) tb):PE X (.BoolOp .Or (a::b::rest) pos) (aZ ta tb):=by
 intro pins s σ H Q I h
 refine BoolOp_or (thn (ha pins s σ H _ I h) fun v s1 ⟨x,H1,I1,r1,q1⟩=>?_)
 obtain⟨c,rfl,q1⟩:=q1
 cases r1
 refine zh1 ?_
 cases c with
 |false=>exact hb pins s1 σ H1 Q I1 q1
 |true=>exact⟨.bl true,H1,I1,rfl,q1⟩
theorem cu (ha:PE X a ta):PE X (.UnaryOp .Not a pos) (bU ta):=by
 intro pins s σ H Q I h
 refine UnaryOp_ (thn (ha pins s σ H _ I h) fun v s1 ⟨x,H1,I1,r1,q1⟩=>?_)
 obtain⟨c,rfl,q1⟩:=q1
 cases r1
 exact not_of (zh1 ⟨.bl (!c),H1,I1,rfl,q1⟩)
def tIf (t:TT)(ta tb:TE):TE:=fun σ H Q=>t σ H fun c H1=>if c=true then ta σ H1 Q else tb σ H1 Q
theorem jU {c:Expr}(hc:PT X c tA)(ha:PE X a ta)(hb:PE X b tb):PE X (.IfExp c a b pos) (tIf tA ta tb):=by
 intro pins s σ H Q I h
 refine wpAny_IfExp (thn (hc pins s σ H _ I h) fun d s1 ⟨H1,I1,q1⟩=>?_)
 cases d with
 |true=>exact ha pins s1 σ H1 Q I1 q1
 |false=>exact hb pins s1 σ H1 Q I1 q1
end
def SqL (K:PySem.W.Frag)(H:Hp)(a:Addr)(xs:List V):Prop:=
 Rd H a (.lst xs)∨
  ∃(o:Obj) (its:Array Value) (n:Nat),K.lookup a=some o∧o.cls=.type "list"∧o.dict=none∧o.data=.seq its n∧its.size≤sizeLine∧Vals xs its.toList
def SqT (K:PySem.W.Frag)(H:Hp)(a:Addr)(xs:List V):Prop:=
 Rd H a (.tup xs)∨
  ∃(o:Obj) (its:Array Value) (n:Nat),K.lookup a=some o∧o.cls=.type "tuple"∧o.data=.seq its n∧its.size≤sizeLine∧Vals xs its.toList
def zc7 :Value→Option V
 |.none=>some .non
 |.bool b=>some (.bl b)
 |.int i _=>some (.int i)
 |.str x _=>some (.str x)
 |.bytes b _=>some (.byt b)
 |.float b _=>some (.flt b)
 |.ref a=>some (.ref a)
 |.type n=>some (.ty n)
 |_=>none
theorem RelV.abs {x:V}{u:Value}(r:RelV x u):zc7 u=some x:=by
 cases x with
 |non=>cases r;rfl
 |bl _=>cases r;rfl
 |int _=>obtain⟨t,rfl⟩:=r;rfl
 |str _=>obtain⟨t,rfl⟩:=r;rfl
 |byt _=>obtain⟨t,rfl⟩:=r;rfl
 |flt _=>obtain⟨t,rfl⟩:=r;rfl
 |ref _=>cases r;rfl
 |ty _=>cases r;rfl
theorem RelV.inj {x y:V}{u:Value}(r:RelV x u)(q:RelV y u):x=y:=zg2 (r.abs.symm.trans q.abs)
theorem Vals.inj :∀{xs ys:List V} {us:List Value},Vals xs us→Vals ys us→xs=ys
 |_,_,_,.nil,.nil=>rfl
 |_,_,_,.cons r t,.cons r' t'=>by rw[r.inj r',Vals.inj t t']
section
variable {X:Cx}{pins:List (Addr×Obj)}{σ:St}{H:Hp}{s:Shared}{a:Addr}{xs ys:List V}
theorem SqL.of {K:PySem.W.Frag}(h:H a=some (.lst xs)):SqL K H a xs:=.inl (.inl h)
theorem SqT.of {K:PySem.W.Frag}(h:H a=some (.tup xs)):SqT K H a xs:=.inl (.inl h)
theorem Inv.list (I:Inv X pins σ H s)(h:SqL X.K H a xs):∃its:List Value,Vals xs its∧PlainL s.heap a its.toArray∧xs.length≤sizeLine:=by
 rcases h with h|⟨o,its,n,hk,hc,hd,hs,hz,r⟩
 ·obtain⟨z,its,n,r,e⟩:=h.ok I.hok
  exact⟨its,r,⟨_,n,e,rfl,rfl,rfl⟩,z⟩
 ·refine⟨its.toList,r,⟨o,n,I.kIn a o hk,hc,hd,by simpa using hs⟩,?_⟩
  have e:=r.length
  simp only[zj4] at e
  omega
theorem Inv.tuple (I:Inv X pins σ H s)(h:SqT X.K H a xs):∃its:List Value,Vals xs its∧IsTup s.heap a its.toArray∧xs.length≤sizeLine:=by
 rcases h with h|⟨o,its,n,hk,hc,hs,hz,r⟩
 ·obtain⟨z,its,r,p⟩:=h.ok I.hok
  exact⟨its,r,p,z⟩
 ·refine⟨its.toList,r,⟨o,I.kIn a o hk,hc,n,by simpa using hs⟩,?_⟩
  have e:=r.length
  simp only[zj4] at e
  omega
theorem Inv.list_inj (I:Inv X pins σ H s)(h:SqL X.K H a xs)(h':SqL X.K H a ys):xs=ys:=by
 obtain⟨its,r,⟨o,n,e,_,_,d⟩,_⟩:=I.list h
 obtain⟨its',r',⟨o',n',e',_,_,d'⟩,_⟩:=I.list h'
 rw[e] at e';cases e'
 rw[d] at d'
 injection d' with d1 _
 have:its=its':=by simpa using congrArg Array.toList d1
 subst this
 exact r.inj r'
theorem Inv.tuple_inj (I:Inv X pins σ H s)(h:SqT X.K H a xs)(h':SqT X.K H a ys):xs=ys:=by
 obtain⟨its,r,⟨o,e,_,n,d⟩,_⟩:=I.tuple h
 obtain⟨its',r',⟨o',e',_,n',d'⟩,_⟩:=I.tuple h'
 rw[e] at e';cases e'
 rw[d] at d'
 injection d' with d1 _
 have:its=its':=by simpa using congrArg Array.toList d1
 subst this
 exact r.inj r'
end
abbrev Cx.wish (X:Cx)(E:Value→Shared→Prop):Cx:={X with xe:=E}
abbrev Cx.nox (X:Cx):Cx:=X.wish fun _ _=>False
theorem Cx.Ok.wish {X:Cx}(ok:X.Ok)(E:Value→Shared→Prop):(X.wish E).Ok:=
 ⟨ok.mod,ok.kind,ok.glob,ok.blt,ok.above,ok.inj,ok.has,ok.cab,ok.hd,ok.frames,ok.stk,ok.exf,ok.bs,ok.bsz,ok.noex,ok.exfs,ok.funs,ok.frf⟩
theorem Cx.Ok.unwish {X:Cx}{E:Value→Shared→Prop}(ok:(X.wish E).Ok):X.Ok:=
 ⟨ok.mod,ok.kind,ok.glob,ok.blt,ok.above,ok.inj,ok.has,ok.cab,ok.hd,ok.frames,ok.stk,ok.exf,ok.bs,ok.bsz,ok.noex,ok.exfs,ok.funs,ok.frf⟩
section
variable {X:Cx}{pins:List (Addr×Obj)}{σ:St}{H:Hp}{s:Shared}{E:Value→Shared→Prop}
theorem Inv.wish (I:Inv X pins σ H s)(E:Value→Shared→Prop):Inv (X.wish E) pins σ H s:=⟨I.ok.wish E,I.os,I.bare,I.base,I.loc,I.cell,I.free,I.freeC,I.pin,I.hok,I.len⟩
theorem Inv.unwish (I:Inv (X.wish E) pins σ H s):Inv X pins σ H s:=⟨I.ok.unwish,I.os,I.bare,I.base,I.loc,I.cell,I.free,I.freeC,I.pin,I.hok,I.len⟩
theorem SP.unwish {D:Ends}{f:Flow}{s':Shared}(h:SP (X.wish E) pins D f s'):SP X pins D f s':=by
 cases f with
 |next=>obtain⟨σ',H',I,q⟩:=h;exact⟨σ',H',I.unwish,q⟩
 |brk=>obtain⟨σ',H',I,q⟩:=h;exact⟨σ',H',I.unwish,q⟩
 |cont=>obtain⟨σ',H',I,q⟩:=h;exact⟨σ',H',I.unwish,q⟩
 |ret u=>obtain⟨v,σ',H',I,r,q⟩:=h;exact⟨v,σ',H',I.unwish,r,q⟩
theorem PSs.nox {st:List Stmt}{t:TS}(h:PSs X.nox st t):PSs X st t:=fun pins s σ H D I hw=>
 zg7 (h pins s σ H D (I.wish _) hw) (fun _ _ q=>q.unwish) fun _ _ z=>False.elim z
end
section
variable {X:Cx}{st:Stmt}{rest:List Stmt}{t u:TS}{e:Expr}{te:TE}{pos:Pos}
def aE :TS:=fun D σ H=>D.nx σ H
def aB (t u:TS):TS:=fun D σ H=>t {D with nx:=u D} σ H
theorem yr :PSs X [] aE:=fun _ _ σ H _ I h=>wpAny_execs_nil ⟨σ,H,I,h⟩
theorem zJ (h1:PS X st t)(h2:PSs X rest u):PSs X (st::rest) (aB t u):=by
 intro pins s σ H D I h
 refine wpAny_execs_cons (thn (h1 pins s σ H {D with nx:=u D} I h) fun f s1 q=>?_)
 cases f with
 |next=>
  obtain⟨σ',H',I',q⟩:=q
  exact h2 pins s1 σ' H' D I' q
 |ret v=>exact q
 |brk=>exact q
 |cont=>exact q
theorem zt (h1:PS X st t):PSs X [st] t:=by
 intro pins s σ H D I h
 refine wpAny_execs_cons (thn (h1 pins s σ H D I h) fun f s1 q=>?_)
 cases f with
 |next=>exact wpAny_execs_nil q
 |ret v=>exact q
 |brk=>exact q
 |cont=>exact q
theorem Inv.quiet {pins:List (Addr×Obj)}{σ:St}{H:Hp}{s:Shared}(I:Inv X pins σ H s):interactive X.env=false:=by simp[interactive,I.ok.kind]
def bV (te:TE):TS:=fun D σ H=>te σ H fun _ H1=>D.nx σ H1
theorem rV (he:PE X e te)(hs:swapsWith e none pos.line X.env=pure false:=by rfl):PS X (.Expr e pos) (bV te):=by
 intro pins s σ H D I h
 exact wpAny_Expr_any (thn (he pins s σ H _ I h) fun v s1 ⟨x,H1,I1,r1,q1⟩=>⟨σ,H1,I1,q1⟩) I.quiet hs
def zc2 (te:TE):TS:=fun D σ H=>te σ H D.rt
theorem zz (he:PE X e te):PS X (.Return (some e) pos) (zc2 te):=by
 intro pins s σ H D I h
 exact wpAny_Return_some (thn (he pins s σ H _ I h) fun v s1 ⟨x,H1,I1,r1,q1⟩=>⟨x,σ,H1,I1,r1,q1⟩)
def aW (c:TT)(t u:TS):TS:=fun D σ H=>c σ H fun b H1=>if b=true then t D σ H1 else u D σ H1
theorem xq {c:Expr}{a b:List Stmt}{tc:TT}(hc:PT X c tc)(ha:PSs X a t)(hb:PSs X b u):PS X (.If c a b pos) (aW tc t u):=by
 intro pins s σ H D I h
 refine wpAny_If (thn (hc pins s σ H _ I h) fun d s1 ⟨H1,I1,q1⟩=>?_)
 cases d with
 |true=>exact ha pins s1 σ H1 D I1 q1
 |false=>exact hb pins s1 σ H1 D I1 q1
end
abbrev TG :=V→St→Hp→(St→Hp→Prop)→Prop
abbrev TGs :=List V→St→Hp→(St→Hp→Prop)→Prop
def PG (X:Cx)(target:Expr)(t:TG):Prop:=
 ∀(pins:List (Addr×Obj)) (s:Shared) (σ:St) (H:Hp) (v:V) (u:Value) (Q:St→Hp→Prop),Inv X pins σ H s→RelV v u→t v σ H Q→
  wpAny (model X.prog X.w) X.A (assign target X.env u) (fun _ s'=>∃σ' H',Inv X pins σ' H' s'∧Q σ' H') X.xe s
def PGs (X:Cx)(ts:List Expr)(t:TGs):Prop:=
 ∀(pins:List (Addr×Obj)) (s:Shared) (σ:St) (H:Hp) (vs:List V) (us:List Value) (Q:St→Hp→Prop),Inv X pins σ H s→Vals vs us→t vs σ H Q→
  wpAny (model X.prog X.w) X.A (assignInOrder ((assignEach ts X.env).map (·.2)) us) (fun _ s'=>∃σ' H',Inv X pins σ' H' s'∧Q σ' H') X.xe s
abbrev cy :=V→V→V→Hp→(Hp→Prop)→Prop
def aS (X:Cx)(t:cy):Prop:=
 ∀(pins:List (Addr×Obj)) (s:Shared) (σ:St) (H:Hp) (o i v:V) (ov iv u:Value) (Q:Hp→Prop),Inv X pins σ H s→RelV o ov→RelV i iv→RelV v u→t o i v H Q→
  wpAny (model X.prog X.w) X.A (setItem ov iv u) (fun _ s'=>∃H',Inv X pins σ H' s'∧Q H') X.xe s
section
variable {X:Cx}{pos:Pos}
def tq (i:Nat):TG:=fun v σ H Q=>Q (σ.set i (some v)) H
theorem ym {i:Nat}{x:Str}(hN:X.N.Nodup)(hi:X.N[i]?=some x)(hx:Loc X.env.scope x)(hf:X.fn x=true∨X.env.scope.names.lookup x=some .local:=by first|exact .inl rfl|exact .inr rfl|assumption):PG X (.Name x pos) (tq i):=by
 intro pins s σ H v u Q I r h
 exact wpAny_assign_Name (pD I hN hi hx r (fun s' I'=>⟨_,H,I',h⟩) hf)
def cJ :TGs:=fun vs σ H Q=>vs=[]∧Q σ H
def nq (t:TG)(u:TGs):TGs:=fun vs σ H Q=>∃v r,vs=v::r∧t v σ H fun σ' H'=>u r σ' H' Q
theorem uz :PGs X [] cJ:=by
 intro pins s σ H vs us Q I r h
 obtain⟨e,h⟩:=h
 subst e
 cases r
 exact assignInOrder_nil ⟨σ,H,I,h⟩
theorem wm {e:Expr}{es:List Expr}{t:TG}{u:TGs}(h1:PG X e t)(h2:PGs X es u)
  (hs:(assignEach (e::es) X.env).map (·.2)=assign e X.env::(assignEach es X.env).map (·.2):=by rfl):PGs X (e::es) (nq t u):=by
 intro pins s σ H vs us Q I r h
 obtain⟨v,vr,e1,h⟩:=h
 subst e1
 cases r with
 |cons r rr=>
  rw[hs]
  refine assignInOrder_cons (thn (h1 pins s σ H _ _ _ I r h) fun _ s1 ⟨σ1,H1,I1,q1⟩=>?_)
  exact h2 pins s1 σ1 H1 _ _ Q I1 rr q1
def kA (K:PySem.W.Frag)(n:Nat)(t:TGs):TG:=fun v σ H Q=>∃a xs,v=.ref a∧SqT K H a xs∧xs.length=n∧t xs σ H Q
theorem dO {es:List Expr}{k:Nat}{t:TGs}{n:Nat}(hc:X.calm=true)(h:PGs X es t)
  (hn:(assignEach es X.env).length=n:=by rfl) (hst:(assignEach es X.env).findIdx? (·.1)=none:=by rfl):PG X (.Tuple es k pos) (kA X.K n t):=by
 intro pins s σ H v u Q I r hw
 obtain⟨a,xs,e1,hq,hl,hw⟩:=hw
 subst e1
 cases r
 obtain⟨its,rv,ht,hz⟩:=I.tuple hq
 refine assign_Tuple_tuple (I.ok.hd hc) ht (by simp[hn,←hl,rv.length]) hst fun h' hx=>?_
 have I1:Inv X pins σ H {s with heap:=h'}:=I.kept (t':=s.toks) fun b o e=>hx b o (ze5 (zd9 e)) e
 exact h pins _ σ H xs _ Q I1 (by simpa using rv) hw
def zc5 (to ti:TE)(t:cy):TG:=fun v σ H Q=>to σ H fun o H1=>ti σ H1 fun i H2=>t o i v H2 fun H3=>Q σ H3
theorem kE {o i:Expr}{to ti:TE}{t:cy}(ho:PE X o to)(hi:PE X i ti)(hs:aS X t)
  (ha:∀v,assign (.Subscript o i pos) X.env v=(do
   let ov ←holding [v] (eval o X.env)
   let iv ←holding [v,ov] (eval i X.env)
   standAt pos
   holding [v,ov,iv] (setItem ov iv v)
   release [v,ov,iv] []):=by intro _;rfl):PG X (.Subscript o i pos) (zc5 to ti t):=by
 intro pins s σ H v u Q I r h
 rw[ha]
 refine zc8 (zk5 (thn (ho pins s σ H _ I h) fun ov s1 ⟨x,H1,I1,r1,q1⟩=>?_))
 refine zc8 (zk5 (thn (hi pins s1 σ H1 _ I1 q1) fun iv s2 ⟨y,H2,I2,r2,q2⟩=>?_))
 refine zc8 (wpAny_standAt (zc8 (zk5 (thn (hs pins s2 σ H2 x y v ov iv u _ I2 r1 r2 r q2) fun _ s3 ⟨H3,I3,q3⟩=>?_))))
 exact wpAny_release ⟨σ,H3,I3,q3⟩
def dZ (te:TE)(g:TG):TS:=fun D σ H=>te σ H fun x H1=>g x σ H1 D.nx
theorem kx {tg e:Expr}{te:TE}{g:TG}(he:PE X e te)(hg:PG X tg g)(hs:swapsWithSole [tg] e pos.line X.env=pure false:=by rfl)(hw:swappedStores [tg] e X.env=pure none:=by rfl)
  (h1:(assignEach [tg] X.env).map (·.2)=[assign tg X.env]:=by rfl):PS X (.Assign [tg] e pos) (dZ te g):=by
 intro pins s σ H D I h
 refine wpAny_Assign_stores (thn (he pins s σ H _ I h) fun v s1 ⟨x,H1,I1,r1,q1⟩=>?_) hs hw
 rw[h1]
 exact thn (hg pins s1 σ H1 x v _ I1 r1 q1) fun _ s2 q=>q
theorem rJ {i:Nat}{x:Str}{e:Expr}{te:TE}{pos':Pos}(hN:X.N.Nodup)(hi:X.N[i]?=some x)(hx:Loc X.env.scope x)(he:PE X e te)(hs:swapsWith e (some (.Name x pos')) pos.line X.env=pure false:=by rfl)(hf:X.fn x=true∨X.env.scope.names.lookup x=some .local:=by first|exact .inl rfl|exact .inr rfl|assumption):
  PS X (.Assign [.Name x pos'] e pos) (dZ te (tq i)):=by
 intro pins s σ H D I h
 refine wpAny_Assign_Name (thn (he pins s σ H _ I h) fun v s1 ⟨y,H1,I1,r1,q1⟩=>?_) hs
 exact pD I1 hN hi hx r1 (fun s2 I2=>⟨_,H1,I2,q1⟩) hf
end
section
variable {X:Cx}{pos:Pos}
end
structure It where
 go:Nat→Hp→Prop
 yld:Nat→Hp→V→Hp→Prop
 stop:Nat→Hp→Prop
def ub (X:Cx)(pins:List (Addr×Obj))(H:Hp)(b:Addr):Prop:=
 H b=none∧b≠X.env.locals∧b∉X.fs∧(b∈X.ex∨X.s₀.heap.objs.size≤b)∧(∀x c,X.env.cells.lookup x=some c→c≠b)∧∀p∈X.pn++pins,p.1≠b
theorem Inv.fpOk {X:Cx}{pins:List (Addr×Obj)}{σ:St}{H H':Hp}{s:Shared}{b:Addr}(I:Inv X pins σ H s)(hb:s.heap.objs.size≤b)(hn:H' b=none):ub X pins H' b:=by
 refine⟨hn,zo8 (zf3 I.lt hb),I.nofs hb,.inr (zi6 I.sz hb),fun x c e z=>?_,fun p hp z=>?_⟩
 ·obtain⟨v,q⟩:=I.cell x c e
  exact absurd (zf3 q.lt (by rw[z];exact hb)) (zl0 _)
 ·exact absurd (zf3 (zd9 (I.pin p hp).1) (by rw[z];exact hb)) (zl0 _)
structure Turn (P:Program)(w:World)(K:PySem.W.Frag)(tg:Expr)(J:It)(fp:List Addr)(it:Addr)(tn:Nat→Heap→Prop):Prop where
 mem:it∈fp
 obj:∀i h,tn i h→∀b∈fp,∃o,h.get? b=some o∧∀v,o.data≠.cell v
 keep:∀i h h',tn i h→(∀b∈fp,∀o,h.get? b=some o→h'.get? b=some o)→tn i h'
 item:∀(X:Cx),X.prog=P→X.w=w→X.K=K→X.calm=true→∀(i:Nat) (pins:List (Addr×Obj)) (s:Shared) (σ:St) (H:Hp) (E:Value→Shared→Prop),Inv X pins σ H s→(∀b∈fp,ub X pins H b)→tn i s.heap→J.go i H→
  wpAny (model P w) X.A (pyNext (.ref it)) (fun r s1=>∃u,r=some u∧
   wpAny (model P w) X.A (letOwnedTupleGo tg (.ref it) u) (fun _ s2=>∃x H',Inv X pins σ H' s2∧RelV x u∧J.yld i H x H'∧tn (i+1) s2.heap∧∀b∈fp,H' b=none) E s1) E s
 done:∀(X:Cx),X.prog=P→X.w=w→X.K=K→X.calm=true→∀(i:Nat) (pins:List (Addr×Obj)) (s:Shared) (σ:St) (H:Hp) (E:Value→Shared→Prop),Inv X pins σ H s→(∀b∈fp,ub X pins H b)→tn i s.heap→J.stop i H→
  wpAny (model P w) X.A (pyNext (.ref it)) (fun r s1=>r=none∧Inv X pins σ H s1) E s
 self:∀(A:Around) (i:Nat) (s:Shared) (Q:Value→Shared→Prop) (E:Value→Shared→Prop),tn i s.heap→Q (.ref it) s→wpAny (model P w) A (pyIter (.ref it)) Q E s
abbrev TI :=St→Hp→(It→Hp→Prop)→Prop
def PIE (X:Cx)(pins:List (Addr×Obj))(σ:St)(tg:Expr)(R:It→Hp→Prop)(itv:Value)(s2:Shared):Prop:=
 ∃(it:Addr) (fp:List Addr) (tn:Nat→Heap→Prop) (J:It) (H':Hp),itv=.ref it∧Inv X pins σ H' s2∧Turn X.prog X.w X.K tg J fp it tn∧tn 0 s2.heap∧(∀b∈fp,ub X pins H' b)∧R J H'
def PI (X:Cx)(tg iter:Expr)(wi:TI):Prop:=
 ∀(pins:List (Addr×Obj)) (s:Shared) (σ:St) (H:Hp) (R:It→Hp→Prop),Inv X pins σ H s→wi σ H R→
  wpAny (model X.prog X.w) X.A (eval iter X.env) (fun v s1=>wpAny (model X.prog X.w) X.A (pyIter v) (PIE X pins σ tg R) X.xe s1) X.xe s
theorem qJ {M:Model}{A:Around}{E:Value→Shared→Prop}{s:Shared}{tg:Expr}{it:Addr}{u:Value}{o:Obj}{n:String}{vs:Array Value}{Q:Unit→Shared→Prop}(ho:s.heap.get? it=some o)(hc:o.cls=.type n)(hd:o.data=.fields vs)
  (hn:["enumerate","zip","dict_itemiterator","dict_reverseitemiterator","odict_iterator","itertools.zip_longest","itertools.pairwise"].contains n=false) (hQ:Q () s):wpAny M A (letOwnedTupleGo tg (.ref it) u) Q E s:=by
 unfold letOwnedTupleGo
 cases tg<;>first
  |exact zd0 hQ
  |(cases u<;>first
    |exact zd0 hQ
    |(refine zc8 (wpAny_load ho ?_)
      rw[hc,hd]
      show wpAny M A (if (["enumerate","zip","dict_itemiterator","dict_reverseitemiterator","odict_iterator","itertools.zip_longest","itertools.pairwise"].contains n&&vs[0]? == some (rawInt _))=true then _ else _) Q E s
      rw[if_neg (by intro h;rw[hn,zh3] at h;cases h)]
      exact zd0 hQ))
def Itl (K:PySem.W.Frag)(a:Addr):It:=
 ⟨fun i H=>∃xs x,SqL K H a xs∧xs[i]?=some x,fun i H x H'=>H'=H∧∀xs,SqL K H a xs→xs[i]?=some x,fun i H=>∃xs,SqL K H a xs∧xs.length≤i⟩
def Itt (K:PySem.W.Frag)(a:Addr):It:=
 ⟨fun i H=>∃xs x,SqT K H a xs∧xs[i]?=some x,fun i H x H'=>H'=H∧∀xs,SqT K H a xs→xs[i]?=some x,fun i H=>∃xs,SqT K H a xs∧xs.length≤i⟩
def Itr (lo:Int)(n:Nat):It:=⟨fun i _=>i<n,fun i H x H'=>H'=H∧x=.int (lo+i),fun i _=>n≤i⟩
theorem kd {P:Program}{w:World}{K:PySem.W.Frag}{tg:Expr}(a it:Addr):Turn P w K tg (Itl K a) [it] it (fun i h=>h.IsListIter it a i) where
 mem:=by simp
 obj:=fun i h st b hb=>by
  have e:b=it:=by simpa using hb
  subst e
  obtain⟨o,e,c,d⟩:=st
  exact⟨o,e,fun v z=>by rw[d] at z;cases z⟩
 keep:=fun i h h' st k=>st.at fun o e=>k it (by simp) o e
 item:=by
  intro X hP hw hK hc i pins s σ H E I hf st hg
  subst hP hw hK
  obtain⟨xs,x,hq,hx⟩:=hg
  obtain⟨its,rv,p,hz⟩:=I.list hq
  obtain⟨u,hu,ru⟩:=rv.get hx
  obtain⟨f0,f1,f2,f3,f4,f5⟩:=hf it (by simp)
  refine wpAny_pyNext_list_item st p.isList (x:=u) (by simpa using hu) fun h' st' sb=>?_
  have I1:Inv X pins σ H {s with heap:=h'}:=I.turned (t':=s.toks) (fun b o hb e=>(sb.2 b hb).trans e) f0 f1 f3 f4 f5
  obtain⟨o,e,c,d⟩:=id st'
  exact⟨u,rfl,qJ (s:={s with heap:=h'}) e c d (by decide) ⟨x,H,I1,ru,⟨rfl,fun ys hy=>by rw[I.list_inj hy hq];exact hx⟩,st',fun b hb=>(hf b hb).1⟩⟩
 done:=by
  intro X hP hw hK hc i pins s σ H E I hf st hg
  subst hP hw hK
  obtain⟨xs,hq,hx⟩:=hg
  obtain⟨its,rv,p,hz⟩:=I.list hq
  obtain⟨f0,f1,f2,f3,f4,f5⟩:=hf it (by simp)
  have hl:=rv.length
  exact wpAny_pyNext_list_end (I.ok.hd hc) st p.isList (by simp;omega) fun h' eb=>⟨rfl,I.turned (t':=s.toks) (fun b o hb e=>eb b o hb e) f0 f1 f3 f4 f5⟩
 self:=fun _ _ _ _ _ st h=>wpAny_pyIter_listiter st h
theorem oO {P:Program}{w:World}{K:PySem.W.Frag}{tg:Expr}(a it:Addr):Turn P w K tg (Itt K a) [it] it (fun i h=>h.IsTupleIter it a i) where
 mem:=by simp
 obj:=fun i h st b hb=>by
  have e:b=it:=by simpa using hb
  subst e
  obtain⟨o,e,c,d⟩:=st
  exact⟨o,e,fun v z=>by rw[d] at z;cases z⟩
 keep:=fun i h h' st k=>st.at fun o e=>k it (by simp) o e
 item:=by
  intro X hP hw hK hc i pins s σ H E I hf st hg
  subst hP hw hK
  obtain⟨xs,x,hq,hx⟩:=hg
  obtain⟨its,rv,p,hz⟩:=I.tuple hq
  obtain⟨u,hu,ru⟩:=rv.get hx
  obtain⟨f0,f1,f2,f3,f4,f5⟩:=hf it (by simp)
  refine wpAny_pyNext_tuple_item st (show s.heap.IsTuple a its.toArray from p) (x:=u) (by simpa using hu) fun h' st' sb=>?_
  have I1:Inv X pins σ H {s with heap:=h'}:=I.turned (t':=s.toks) (fun b o hb e=>(sb.2 b hb).trans e) f0 f1 f3 f4 f5
  obtain⟨o,e,c,d⟩:=id st'
  exact⟨u,rfl,qJ (s:={s with heap:=h'}) e c d (by decide) ⟨x,H,I1,ru,⟨rfl,fun ys hy=>by rw[I.tuple_inj hy hq];exact hx⟩,st',fun b hb=>(hf b hb).1⟩⟩
 done:=by
  intro X hP hw hK hc i pins s σ H E I hf st hg
  subst hP hw hK
  obtain⟨xs,hq,hx⟩:=hg
  obtain⟨its,rv,p,hz⟩:=I.tuple hq
  obtain⟨f0,f1,f2,f3,f4,f5⟩:=hf it (by simp)
  have hl:=rv.length
  exact wpAny_pyNext_tuple_end (I.ok.hd hc) st (show s.heap.IsTuple a its.toArray from p) (by simp;omega) fun h' eb=>⟨rfl,I.turned (t':=s.toks) (fun b o hb e=>eb b o hb e) f0 f1 f3 f4 f5⟩
 self:=fun _ _ _ _ _ st h=>wpAny_pyIter_tupleiter st h
theorem oB {P:Program}{w:World}{K:PySem.W.Frag}{tg:Expr}(it:Addr)(lo:Int)(n:Nat):Turn P w K tg (Itr lo n) [it] it (fun i h=>IsRangeIter h it (lo+(i:Nat)*1) ((n:Int)-(i:Nat)) 1) where
 mem:=by simp
 obj:=fun i h st b hb=>by
  have e:b=it:=by simpa using hb
  subst e
  exact⟨_,st,fun v z=>by
   have z':Data.fields _=Data.cell v:=z
   cases z'⟩
 keep:=fun i h h' st k=>k it (by simp) _ st
 item:=by
  intro X hP hw hK hc i pins s σ H E I hf st hg
  subst hP hw hK
  obtain⟨f0,f1,f2,f3,f4,f5⟩:=hf it (by simp)
  have W:=Walks.range (prog:=X.prog) (w:=X.w) (I.ok.hd hc) it lo 1 n
  refine W.item i s _ _ hg st fun v h' tk hv st' kk=>?_
  obtain⟨t,rfl⟩:=hv
  have I1:Inv X pins σ H {s with heap:=h',toks:=tk}:=I.turned (fun b o hb e=>kk b o (by simpa using hb) e) f0 f1 f3 f4 f5
  refine⟨_,rfl,qJ (s:={s with heap:=h',toks:=tk}) (n:="range_iterator") st' rfl rfl (by decide) ⟨.int (lo+i),H,I1,⟨t,?_⟩,⟨rfl,rfl⟩,st',fun b hb=>(hf b hb).1⟩⟩
  rw[Int.mul_one]
 done:=by
  intro X hP hw hK hc i pins s σ H E I hf st hg
  subst hP hw hK
  obtain⟨f0,f1,f2,f3,f4,f5⟩:=hf it (by simp)
  exact wpAny_pyNext_range_end (I.ok.hd hc) st (by have:n≤i:=hg;omega) fun h' eb=>⟨rfl,I.turned (t':=s.toks) (fun b o hb e=>eb b o hb e) f0 f1 f3 f4 f5⟩
 self:=fun _ _ _ _ _ st h=>wpAny_pyIter_rangeiter st h
section
variable {X:Cx}{tg:Expr}
def aw (K:PySem.W.Frag)(tl:TE):TI:=fun σ H R=>tl σ H fun x H1=>∃a,x=.ref a∧(∃xs,SqL K H1 a xs)∧R (Itl K a) H1
def zb0 (K:PySem.W.Frag)(tl:TE):TI:=fun σ H R=>tl σ H fun x H1=>∃a,x=.ref a∧(∃xs,SqT K H1 a xs)∧R (Itt K a) H1
theorem nR {l:Expr}{tl:TE}(hl:PE X l tl):PI X tg l (aw X.K tl):=by
 intro pins s σ H R I h
 refine thn (hl pins s σ H _ I h) fun v s1 ⟨x,H1,I1,r1,q1⟩=>?_
 obtain⟨a,e,⟨xs,hq⟩,q⟩:=q1
 subst e
 cases r1
 obtain⟨its,rv,p,hz⟩:=I1.list hq
 refine wpAny_pyIter_list p.isList ?_
 refine⟨s1.heap.objs.size,[s1.heap.objs.size],_,_,H1,rfl,I1.kept (t':=s1.toks) fun b o e=>zd3 _ e,kd a _,⟨_,ze1 _ rfl,rfl,rfl⟩,fun b hb=>?_,q⟩
 have e:b=s1.heap.objs.size:=by simpa using hb
 subst e
 exact I1.fpOk (zd6 _) (I1.hok.fresh (zd6 _))
theorem cg {l:Expr}{tl:TE}(hl:PE X l tl):PI X tg l (zb0 X.K tl):=by
 intro pins s σ H R I h
 refine thn (hl pins s σ H _ I h) fun v s1 ⟨x,H1,I1,r1,q1⟩=>?_
 obtain⟨a,e,⟨xs,hq⟩,q⟩:=q1
 subst e
 cases r1
 obtain⟨its,rv,p,hz⟩:=I1.tuple hq
 refine wpAny_pyIter_tuple (show s1.heap.IsTuple a its.toArray from p) ?_
 refine⟨s1.heap.objs.size,[s1.heap.objs.size],_,_,H1,rfl,I1.kept (t':=s1.toks) fun b o e=>zd3 _ e,oO a _,⟨_,ze1 _ rfl,rfl,rfl⟩,fun b hb=>?_,q⟩
 have e:b=s1.heap.objs.size:=by simpa using hb
 subst e
 exact I1.fpOk (zd6 _) (I1.hok.fresh (zd6 _))
theorem jW {pins:List (Addr×Obj)}{σ:St}{H:Hp}{s:Shared}{R:It→Hp→Prop}{E:Value→Shared→Prop}{lo hi:Int}{t u v:Tok}{tk:Nat}(I:Inv X pins σ H s)(h1:-(2 ^ 62)≤lo)(h2:lo<2 ^ 62)(h3:-(2 ^ 62)≤hi)(h4:hi<2 ^ 62)
  (q:R (Itr lo (hi-lo).toNat) H):wpAny (model X.prog X.w) X.A (pyIter (.ref s.heap.objs.size)) (PIE X pins σ tg R) E {s with heap:=s.heap.push {cls:=.type "range",data:=.fields #[.int lo t,.int hi u,.int 1 v]},toks:=tk}:=by
 refine wpAny_pyIter_range (IsRange.new ..) (small_one h1 h2 h3 h4) ?_
 have I1:Inv X pins σ H {s with heap:=s.heap.push {cls:=.type "range",data:=.fields #[.int lo t,.int hi u,.int 1 v]},toks:=tk}:=I.kept fun b o e=>zd3 _ e
 refine⟨(s.heap.push {cls:=.type "range",data:=.fields #[.int lo t,.int hi u,.int 1 v]}).objs.size,[(s.heap.push {cls:=.type "range",data:=.fields #[.int lo t,.int hi u,.int 1 v]}).objs.size],_,_,H,rfl,
  I1.kept (t':=tk) fun b o e=>zd3 _ e,oB _ lo (hi-lo).toNat,?_,fun b hb=>?_,q⟩
 ·have e1:lo+((0:Nat):Int)*1=lo:=by simp
  have e2:(((hi-lo).toNat:Nat):Int)-((0:Nat):Int)=Builtin.Range.rangeSize lo hi 1:=by rw[rangeSize_one];split<;>omega
  show IsRangeIter _ _ (lo+((0:Nat):Int)*1) ((((hi-lo).toNat:Nat):Int)-((0:Nat):Int)) 1
  rw[e1,e2]
  exact ze1 _ rfl
 ·have e:b=(s.heap.push {cls:=.type "range",data:=.fields #[.int lo t,.int hi u,.int 1 v]}).objs.size:=by simpa using hb
  subst e
  exact I1.fpOk (zd6 _) (I1.hok.fresh (zd6 _))
def aQ (ta:TA):TI:=fun σ H R=>ta σ H fun vs H1=>∃j:Int,vs=[.int j]∧-(2 ^ 62)≤j∧j<2 ^ 62∧R (Itr 0 j.toNat) H1
theorem mS {a:Expr}{ta:TA}{p pos:Pos}(hg:Gl X "range")(hm:X.mg "range"=none)(ha:PA X [a] ta)(hs:starEach [a] X.env=[(false,eval a X.env)]:=by rfl):PI X tg (.Call (.Name "range" p) [a] [] pos) (aQ ta):=by
 intro pins s σ H R I h
 refine Call_ (vL I hg hm boot_range (zk2 (thn (ha pos pins s σ H _ I h) fun us s1 ⟨vs,H1,I1,r1,q1⟩=>?_) hs rfl))
 obtain⟨j,e,q1,q2,q⟩:=q1
 subst e
 cases r1 with
 |cons r rr=>
  cases rr
  obtain⟨t,rfl⟩:=r
  exact call_range_1 (jW I1 (by omega) (by omega) q1 q2 (by simpa using q))
def zb6 (wi:TI)(g:TG)(tb:TS):TS:=fun D σ H=>wi σ H fun J H1=>∃W:Nat→Nat→St→Hp→Prop,(∃m,W 0 m σ H1)∧∀i m σ H,W i m σ H→
 (J.stop i H∧D.nx σ H)∨(J.go i H∧∃N:St→Hp→Prop,(∀σ' H',N σ' H'→∃m',m'<m∧W (i+1) m' σ' H')∧∀x H',J.yld i H x H'→g x σ H' fun σ2 H2=>tb {D with nx:=N,ct:=N,bk:=D.nx} σ2 H2)
def tu (fp:List Addr)(h:Heap):List (Addr×Obj):=fp.filterMap fun b=>(h.get? b).map fun o=>(b,o)
theorem xR {fp:List Addr}{h:Heap}{b:Addr}{o:Obj}(hb:b∈fp)(e:h.get? b=some o):(b,o)∈tu fp h:=List.mem_filterMap.mpr ⟨b,hb,by rw[e];rfl⟩
theorem lN {fp:List Addr}{h:Heap}{p:Addr×Obj}(hp:p∈tu fp h):p.1∈fp∧h.get? p.1=some p.2:=by
 obtain⟨b,hb,e⟩:=List.mem_filterMap.mp hp
 cases q:h.get? b with
 |none=>rw[q] at e;cases e
 |some o=>
  rw[q] at e
  have e':(b,o)=p:=zg2 e
  subst e'
  exact⟨hb,q⟩
theorem Inv.pinned {pins:List (Addr×Obj)}{σ:St}{H:Hp}{s:Shared}{fp:List Addr}(I:Inv X pins σ H s)(hf:∀b∈fp,ub X pins H b)(ho:∀b∈fp,∃o,s.heap.get? b=some o∧∀v,o.data≠.cell v):Inv X (pins++tu fp s.heap) σ H s:=
 I.pins_of fun p hp=>(zf6.mp hp).elim (fun z=>I.pin p (zf2 _ z)) fun z=>by
  obtain⟨hb,e⟩:=lN z
  obtain⟨f0,f1,f2,_⟩:=hf p.1 hb
  obtain⟨o,e',d⟩:=ho p.1 hb
  rw[e] at e';cases e'
  exact⟨e,f0,f1,f2,d⟩
theorem Inv.unpinned {pins pl:List (Addr×Obj)}{σ:St}{H:Hp}{s:Shared}(I:Inv X (pins++pl) σ H s):Inv X pins σ H s:=I.pins_of fun p hp=>I.pin p (zf2 _ (zg1 _ hp))
theorem hZ {iter:Expr}{body:List Stmt}{wi:TI}{g:TG}{tb:TS}{pos:Pos}(hp:PassesOwn (model X.prog X.w) X.A X.env X.xe)(hc:X.calm=true)(hi:PI X tg iter wi)(hg:PG X tg g)(hb:PSs X body tb)
  (hs:∀x,foldedSetIterable iter X.env x=pure x:=by intro _;rfl):PS X (.For tg iter body [] pos) (zb6 wi g tb):=by
 intro pins s σ H D I h
 refine wpAny_For (thn (hi pins s σ H _ I h) fun v s1 h1=>thn h1 fun itv s2 h2=>?_) hs
 obtain⟨it,fp,tn,J,H2,e,I2,T,st2,f2,W,⟨m0,w0⟩,turn⟩:=h2
 subst e
 -- what stays true of the iterator's objects through the loop
 have stat:∀{H':Hp},(∀b∈fp,H' b=none)→∀b∈fp,ub X pins H' b:=fun hn b hb=>⟨hn b hb,(f2 b hb).2⟩
 refine codeAny_forLoop_any (fun n s'=>∃i σ' H',Inv X pins σ' H' s'∧tn i s'.heap∧(∀b∈fp,H' b=none)∧W i n σ' H') ?_ m0 ⟨0,σ,H2,I2,st2,fun b hb=>(f2 b hb).1,w0⟩
 rintro n s3 ⟨i,σ3,H3,I3,st3,fr3,w3⟩
 rcases turn i n σ3 H3 w3 with ⟨stop,qn⟩|⟨go,N,hN,step⟩
 ·refine zm9 hp (thn (T.done X rfl rfl rfl hc i pins s3 σ3 H3 X.xe I3 (stat fr3) st3 stop) fun r s4 ⟨hr,I4⟩=>?_)
  subst hr
  exact wpAny_execs_nil ⟨σ3,H3,I4,qn⟩
 ·refine zm9 hp (thn (T.item X rfl rfl rfl hc i pins s3 σ3 H3 X.xe I3 (stat fr3) st3 go) fun r s4 ⟨u,hr,h4⟩=>?_)
  subst hr
  refine zm9 hp (thn h4 fun _ s5 ⟨x,H5,I5,r5,y5,st5,fr5⟩=>?_)
  have I5':=I5.pinned (stat fr5) (T.obj _ _ st5)
  refine zm9 hp (thn (hg _ s5 σ3 H5 x u _ I5' r5 (step x H5 y5)) fun _ s6 ⟨σ6,H6,I6,q6⟩=>?_)
  refine zm9 hp (thn (hb _ s6 σ6 H6 _ I6 q6) fun f s7 q7=>?_)
  have again:∀{σ7:St} {H7:Hp},Inv X (pins++tu fp s5.heap) σ7 H7 s7→N σ7 H7→∃m,m<n∧∃i σ' H',Inv X pins σ' H' s7∧tn i s7.heap∧(∀b∈fp,H' b=none)∧W i m σ' H':=fun {σ7 H7} I7 n7=>by
   obtain⟨m',hm,w7⟩:=hN σ7 H7 n7
   refine⟨m',hm,i+1,σ7,H7,I7.unpinned,T.keep _ _ _ st5 fun b hb o e=>(I7.pin (b,o) (zf2 _ (zf2 _ (xR hb e)))).1,fun b hb=>?_,w7⟩
   obtain⟨o,e,d⟩:=T.obj _ _ st5 b hb
   exact (I7.pin (b,o) (zf2 _ (zf2 _ (xR hb e)))).2.1
  cases f with
  |next=>obtain⟨σ7,H7,I7,n7⟩:=q7;exact again I7 n7
  |cont=>obtain⟨σ7,H7,I7,n7⟩:=q7;exact again I7 n7
  |brk=>obtain⟨σ7,H7,I7,q7⟩:=q7;exact⟨σ7,H7,I7.unpinned,q7⟩
  |ret v=>obtain⟨x7,σ7,H7,I7,r7,q7⟩:=q7;exact⟨x7,σ7,H7,I7.unpinned,r7,q7⟩
end
abbrev R2 :=V→V→Hp→VK→Prop
def OpR (X:Cx)(f:Value→Value→Sem Value)(r:R2):Prop:=
 ∀(pins:List (Addr×Obj)) (s:Shared) (σ:St) (H:Hp) (x y:V) (v u:Value) (Q:VK),Inv X pins σ H s→RelV x v→RelV y u→r x y H Q→
  wpAny (model X.prog X.w) X.A (f v u) (EP X pins σ Q) X.xe s
def UnR (X:Cx)(f:Value→Sem Value)(r:V→Hp→VK→Prop):Prop:=
 ∀(pins:List (Addr×Obj)) (s:Shared) (σ:St) (H:Hp) (x:V) (v:Value) (Q:VK),Inv X pins σ H s→RelV x v→r x H Q→
  wpAny (model X.prog X.w) X.A (f v) (EP X pins σ Q) X.xe s
def xZ (X:Cx)(f:Value)(r:List V→Hp→VK→Prop):Prop:=
 ∀(pins:List (Addr×Obj)) (s:Shared) (σ:St) (H:Hp) (xs:List V) (us:List Value) (Q:VK),Inv X pins σ H s→Vals xs us→r xs H Q→
  wpAny (model X.prog X.w) X.A (call f us) (EP X pins σ Q) X.xe s
def za3 (X:Cx)(r:V→Hp→(Bool→Hp→Prop)→Prop):Prop:=
 ∀(pins:List (Addr×Obj)) (s:Shared) (σ:St) (H:Hp) (x:V) (v:Value) (Q:Bool→Hp→Prop),Inv X pins σ H s→RelV x v→r x H Q→
  wpAny (model X.prog X.w) X.A (truthy v) (TP X pins σ Q) X.xe s
def tOp (r:R2)(ta tb:TE):TE:=fun σ H Q=>ta σ H fun x H1=>tb σ H1 fun y H2=>r x y H2 Q
def tUn (r:V→Hp→VK→Prop)(ta:TE):TE:=fun σ H Q=>ta σ H fun x H1=>r x H1 Q
def rI (C:Int→Int→Prop)(g:Int→Int→V):R2:=fun x y H Q=>∃i j,x=.int i∧y=.int j∧C i j∧Q (g i j) H
def rI0 (g:Int→Int→V):R2:=fun x y H Q=>∃i j,x=.int i∧y=.int j∧Q (g i j) H
def rU (g:Int→V):V→Hp→VK→Prop:=fun x H Q=>∃i,x=.int i∧Q (g i) H
section
variable {X:Cx}{a b c:Expr}{ta tb tc:TE}{pos:Pos}
theorem dR (ha:PE X a ta)(hb:PE X b tb){pins:List (Addr×Obj)}{s:Shared}{σ:St}{H:Hp}{R:V→V→Hp→Prop}(I:Inv X pins σ H s)
  (h:ta σ H fun x H1=>tb σ H1 fun y H2=>R x y H2) {Q:Value→Shared→Prop} {f:Value→Value→Sem Value}
  (hf:∀v u s2 x y H2,Inv X pins σ H2 s2→RelV x v→RelV y u→R x y H2→wpAny (model X.prog X.w) X.A (f v u) Q X.xe s2):
  wpAny (model X.prog X.w) X.A (eval a X.env) (fun v s₁=>wpAny (model X.prog X.w) X.A (eval b X.env) (fun u s₂=>wpAny (model X.prog X.w) X.A (f v u) Q X.xe s₂) X.xe s₁) X.xe s:=by
 refine thn (ha pins s σ H _ I h) fun v s1 ⟨x,H1,I1,r1,q1⟩=>?_
 refine thn (hb pins s1 σ H1 _ I1 q1) fun u s2 ⟨y,H2,I2,r2,q2⟩=>?_
 exact hf v u s2 x y H2 I2 r1 r2 q2
theorem yN {op:Operator}{r:R2}(ho:OpR X (binaryOp op) r)(ha:PE X a ta)(hb:PE X b tb):PE X (.BinOp a op b pos) (tOp r ta tb):=by
 intro pins s σ H Q I h
 exact wpAny_BinOp (dR ha hb I h fun v u s2 x y H2 I2 rx ry q=>ho pins s2 σ H2 x y v u Q I2 rx ry q)
theorem bN {op:UnaryOp}{r:V→Hp→VK→Prop}(ho:UnR X (unaryOp op) r)(ha:PE X a ta):PE X (.UnaryOp op a pos) (tUn r ta):=by
 intro pins s σ H Q I h
 exact UnaryOp_ (thn (ha pins s σ H _ I h) fun v s1 ⟨x,H1,I1,r1,q1⟩=>ho pins s1 σ H1 x v Q I1 r1 q1)
theorem opI {f:Value→Value→Sem Value}{C:Int→Int→Prop}{g:Int→Int→Int}
  (rule:∀(i j:Int) (t u:Tok) (s:Shared) (Q:Value→Shared→Prop) (E:Value→Shared→Prop),C i j→Q (.int (g i j) s.toks) {s with toks:=s.toks+1}→wpAny (model X.prog X.w) X.A (f (.int i t) (.int j u)) Q E s):
  OpR X f (rI C fun i j=>.int (g i j)):=by
 intro pins s σ H x y v u Q I rx ry h
 obtain⟨i,j,rfl,rfl,hc,q⟩:=h
 obtain⟨t,rfl⟩:=rx
 obtain⟨t',rfl⟩:=ry
 exact rule i j t t' s _ _ hc ⟨.int (g i j),H,I.tok _,⟨_,rfl⟩,q⟩
theorem aC {f:Value→Value→Sem Value}{g:Int→Int→Int}
  (rule:∀(i j:Int) (t u:Tok) (s:Shared) (Q:Value→Shared→Prop) (E:Value→Shared→Prop),Q (.int (g i j) s.toks) {s with toks:=s.toks+1}→wpAny (model X.prog X.w) X.A (f (.int i t) (.int j u)) Q E s):
  OpR X f (rI0 fun i j=>.int (g i j)):=by
 intro pins s σ H x y v u Q I rx ry h
 obtain⟨i,j,rfl,rfl,q⟩:=h
 obtain⟨t,rfl⟩:=rx
 obtain⟨t',rfl⟩:=ry
 exact rule i j t t' s _ _ ⟨.int (g i j),H,I.tok _,⟨_,rfl⟩,q⟩
theorem gX {f:Value→Value→Sem Value}{g:Int→Int→Bool}
  (rule:∀(i j:Int) (t u:Tok) (s:Shared) (Q:Value→Shared→Prop) (E:Value→Shared→Prop),Q (.bool (g i j)) s→wpAny (model X.prog X.w) X.A (f (.int i t) (.int j u)) Q E s):
  OpR X f (rI0 fun i j=>.bl (g i j)):=by
 intro pins s σ H x y v u Q I rx ry h
 obtain⟨i,j,rfl,rfl,q⟩:=h
 obtain⟨t,rfl⟩:=rx
 obtain⟨t',rfl⟩:=ry
 exact rule i j t t' s _ _ ⟨.bl (g i j),H,I,rfl,q⟩
def dH (i j:Int):Prop:=0≤j∧j≤1000000∧i.natAbs<2 ^ 64
def gB (i j:Int):Prop:=(-(2 ^ 64)<i∧i<2 ^ 64)∨(-(2 ^ 64)<j∧j<2 ^ 64)
theorem gB.ok {i j:Int}(h:gB i j):IntMulOk i j:=by
 rcases h with ⟨h1,h2⟩|⟨h1,h2⟩
 ·exact .of_left (intBits_le_64 h1 h2)
 ·exact .of_right (intBits_le_64 h1 h2)
theorem rT :OpR X (binaryOp .Add) (rI0 fun i j=>.int (i+j)):=aC fun _ _ _ _ _ _ _ q=>add_int q
theorem iu :OpR X (binaryOp .Sub) (rI0 fun i j=>.int (i-j)):=aC fun _ _ _ _ _ _ _ q=>sub_int q
theorem qr :OpR X (binaryOp .Mult) (rI gB fun i j=>.int (i*j)):=opI fun _ _ _ _ _ _ _ hc q=>mul_int q hc.ok
theorem tP :OpR X (binaryOp .Mod) (rI (fun _ j=>0<j) fun i j=>.int (i % j)):=opI fun i j _ _ _ _ _ hc q=>by
 have h1:(0:Int)<j:=hc
 exact mod_int' (by omega) (by rw[Int.fmod_eq_emod_of_nonneg i (by omega)];exact q)
theorem dD :OpR X (binaryOp .Pow) (rI dH fun i j=>.int (i ^ j.toNat)):=opI fun _ _ _ _ _ _ _ hc q=>pow_int_small hc.1 hc.2.1 hc.2.2 q
theorem unI {f:Value→Sem Value}{g:Int→Int}
  (rule:∀(i:Int) (t:Tok) (s:Shared) (Q:Value→Shared→Prop) (E:Value→Shared→Prop),Q (.int (g i) s.toks) {s with toks:=s.toks+1}→wpAny (model X.prog X.w) X.A (f (.int i t)) Q E s):
  UnR X f (rU fun i=>.int (g i)):=by
 intro pins s σ H x v Q I rx h
 obtain⟨i,rfl,q⟩:=h
 obtain⟨t,rfl⟩:=rx
 exact rule i t s _ _ ⟨.int (g i),H,I.tok _,⟨_,rfl⟩,q⟩
theorem cL :UnR X (unaryOp .USub) (rU fun i=>.int (-i)):=unI fun _ _ _ _ _ q=>neg_int q
end
def bX :V→V→Bool
 |.non,.non=>true|.non,.int _=>true|.int _,.non=>true|.non,.bl _=>true|.bl _,.non=>true|.non,.str _=>true|.str _,.non=>true
 |.int _,.int _=>true|.bl _,.bl _=>true|.str _,.str _=>true|.byt _,.byt _=>true
 |.int _,.str _=>true|.str _,.int _=>true|.bl _,.str _=>true|.str _,.bl _=>true
 |_,_=>false
def rEq :R2:=fun x y H Q=>bX x y=true∧Q (.bl (decide (x=y))) H
def rNe :R2:=fun x y H Q=>bX x y=true∧Q (.bl (!decide (x=y))) H
theorem nL {i j:Int}:decide (V.int i=V.int j)=(i == j):=by
 rw[zo9]
 simp
theorem jG {i j:Bool}:decide (V.bl i=V.bl j)=(i == j):=by
 rw[zo9]
 simp
theorem nz {i j:Str}:decide (V.str i=V.str j)=(i == j):=by
 rw[zo9]
 simp
theorem md {i j:Array UInt8}:decide (V.byt i=V.byt j)=(i.toList == j.toList):=by
 rw[zo9]
 cases i
 cases j
 simp
section
variable {X:Cx}{a b c:Expr}{ta tb tc:TE}{pos:Pos}
theorem zE {pins:List (Addr×Obj)}{σ:St}{H:Hp}{s:Shared}{Q:VK}{k k':Bool}(I:Inv X pins σ H s)(q:Q (.bl k) H)(e:k=k'):EP X pins σ Q (.bool k') s:=by
 subst e
 exact⟨.bl k,H,I,rfl,q⟩
theorem xS :OpR X (compareOp .Eq) rEq:=by
 intro pins s σ H x y v u Q I rx ry h
 obtain⟨hs,q⟩:=h
 cases x with
 |non=>
  cases rx
  cases y with
  |non=>cases ry;exact PySem.EqNone.eq_none_none (zE I q (by simp))
  |bl j=>cases ry;exact PySem.EqNone.eq_none_bool (zE I q (by simp))
  |int j=>obtain⟨t',rfl⟩:=ry;exact PySem.EqNone.eq_none_int (zE I q (by simp))
  |str j=>obtain⟨t',rfl⟩:=ry;exact PySem.EqNone.eq_none_str (zE I q (by simp))
  |_=>exact absurd (show false=true from hs) ze0
 |bl i=>
  cases rx
  cases y with
  |non=>cases ry;exact PySem.EqNone.eq_bool_none (zE I q (by simp))
  |bl j=>cases ry;exact eq_bool (zE I q jG)
  |str j=>obtain⟨t',rfl⟩:=ry;exact PySem.EqMixed.eq_bool_str (zE I q (by simp))
  |_=>exact absurd (show false=true from hs) ze0
 |int i=>
  obtain⟨t,rfl⟩:=rx
  cases y with
  |non=>cases ry;exact PySem.EqNone.eq_int_none (zE I q (by simp))
  |int j=>obtain⟨t',rfl⟩:=ry;exact eq_int (zE I q nL)
  |str j=>obtain⟨t',rfl⟩:=ry;exact PySem.EqMixed.eq_int_str (zE I q (by simp))
  |_=>exact absurd (show false=true from hs) ze0
 |str i=>
  obtain⟨t,rfl⟩:=rx
  cases y with
  |non=>cases ry;exact PySem.EqNone.eq_str_none (zE I q (by simp))
  |bl j=>cases ry;exact PySem.EqMixed.eq_str_bool (zE I q (by simp))
  |int j=>obtain⟨t',rfl⟩:=ry;exact PySem.EqMixed.eq_str_int (zE I q (by simp))
  |str j=>obtain⟨t',rfl⟩:=ry;exact eq_str (zE I q nz)
  |_=>exact absurd (show false=true from hs) ze0
 |byt i=>
  obtain⟨t,rfl⟩:=rx
  cases y with
  |byt j=>obtain⟨t',rfl⟩:=ry;exact PySem.W.eq_bytes (zE I q md)
  |_=>exact absurd (show false=true from hs) ze0
 |_=>cases y<;>exact absurd (show false=true from hs) ze0
theorem aH :OpR X (compareOp .NotEq) rNe:=by
 intro pins s σ H x y v u Q I rx ry h
 obtain⟨hs,q⟩:=h
 cases x with
 |non=>
  cases rx
  cases y with
  |non=>cases ry;exact PySem.EqNone.ne_none_none (zE I q (by simp))
  |bl j=>cases ry;exact PySem.EqNone.ne_none_bool (zE I q (by simp))
  |int j=>obtain⟨t',rfl⟩:=ry;exact PySem.EqNone.ne_none_int (zE I q (by simp))
  |str j=>obtain⟨t',rfl⟩:=ry;exact PySem.EqNone.ne_none_str (zE I q (by simp))
  |_=>exact absurd (show false=true from hs) ze0
 |bl i=>
  cases rx
  cases y with
  |non=>cases ry;exact PySem.EqNone.ne_bool_none (zE I q (by simp))
  |bl j=>cases ry;exact ne_bool (zE I q (congrArg not jG))
  |str j=>obtain⟨t',rfl⟩:=ry;exact PySem.EqMixed.ne_bool_str (zE I q (by simp))
  |_=>exact absurd (show false=true from hs) ze0
 |int i=>
  obtain⟨t,rfl⟩:=rx
  cases y with
  |non=>cases ry;exact PySem.EqNone.ne_int_none (zE I q (by simp))
  |int j=>obtain⟨t',rfl⟩:=ry;exact ne_int (zE I q (congrArg not nL))
  |str j=>obtain⟨t',rfl⟩:=ry;exact PySem.EqMixed.ne_int_str (zE I q (by simp))
  |_=>exact absurd (show false=true from hs) ze0
 |str i=>
  obtain⟨t,rfl⟩:=rx
  cases y with
  |non=>cases ry;exact PySem.EqNone.ne_str_none (zE I q (by simp))
  |bl j=>cases ry;exact PySem.EqMixed.ne_str_bool (zE I q (by simp))
  |int j=>obtain⟨t',rfl⟩:=ry;exact PySem.EqMixed.ne_str_int (zE I q (by simp))
  |str j=>obtain⟨t',rfl⟩:=ry;exact ne_str (zE I q (congrArg not nz))
  |_=>exact absurd (show false=true from hs) ze0
 |byt i=>
  obtain⟨t,rfl⟩:=rx
  cases y with
  |byt j=>obtain⟨t',rfl⟩:=ry;exact PySem.W.ne_bytes (zE I q (congrArg not md))
  |_=>exact absurd (show false=true from hs) ze0
 |_=>cases y<;>exact absurd (show false=true from hs) ze0
theorem af :OpR X (compareOp .Lt) (rI0 fun i j=>.bl (decide (i<j))):=gX fun _ _ _ _ _ _ _ q=>lt_int q
theorem uM :OpR X (compareOp .LtE) (rI0 fun i j=>.bl (decide (i≤j))):=gX fun _ _ _ _ _ _ _ q=>le_int q
theorem dh :OpR X (compareOp .Gt) (rI0 fun i j=>.bl (decide (j<i))):=gX fun _ _ _ _ _ _ _ q=>gt_int q
theorem aM :OpR X (compareOp .GtE) (rI0 fun i j=>.bl (decide (j≤i))):=gX fun _ _ _ _ _ _ _ q=>ge_int q
theorem oa :OpR X (compareOp .Is) (fun x y H Q=>y=.non∧Q (.bl (decide (x=.non))) H):=by
 intro pins s σ H x y v u Q I rx ry h
 obtain⟨rfl,q⟩:=h
 cases ry
 refine is_none_gen (zE I q ?_)
 cases x<;>first
  |(cases rx;rfl)
  |(obtain⟨t,rfl⟩:=rx;rfl)
theorem gY :OpR X (compareOp .IsNot) (fun x y H Q=>y=.non∧Q (.bl (!decide (x=.non))) H):=by
 intro pins s σ H x y v u Q I rx ry h
 obtain⟨rfl,q⟩:=h
 cases ry
 refine isnot_none_gen (zE I q ?_)
 cases x<;>first
  |(cases rx;rfl)
  |(obtain⟨t,rfl⟩:=rx;rfl)
theorem zH (b:Expr){op:CmpOp}(h:op≠.In:=by decide)(h2:op≠.NotIn:=by decide):behindInMarks op b=false:=by
 have e1:(op == CmpOp.In)=false:=by cases op<;>first|rfl|exact absurd rfl h
 have e2:(op == CmpOp.NotIn)=false:=by cases op<;>first|rfl|exact absurd rfl h2
 cases b<;>simp[behindInMarks,e1,e2]
theorem xH {op:CmpOp}{r:R2}(ho:OpR X (compareOp op) r)(ha:PE X a ta)(hb:PE X b tb)(hm:behindInMarks op b=false):PE X (.Compare a [op] [b] pos) (tOp r ta tb):=by
 intro pins s σ H Q I h
 exact wpAny_Compare1 (dR ha hb I h fun v u s2 x y H2 I2 rx ry q=>ho pins s2 σ H2 x y v u Q I2 rx ry q) hm
def df (t:TE):TT:=fun σ H Q=>t σ H fun x H'=>∃k,x=.bl k∧Q k H'
theorem yk {op:CmpOp}{r:R2}(ho:OpR X (compareOp op) r)(ha:PE X a ta)(hb:PE X b tb)(hm:behindInMarks op b=false):PT X (.Compare a [op] [b] pos) (df (tOp r ta tb)):=by
 intro pins s σ H Q I h
 refine wpAny_isTrue_Compare1 (thn (ha pins s σ H _ I h) fun v s1 ⟨x,H1,I1,r1,q1⟩=>thn (hb pins s1 σ H1 _ I1 q1) fun u s2 ⟨y,H2,I2,r2,q2⟩=>
  thn (ho pins s2 σ H2 x y v u _ I2 r1 r2 q2) fun c s3 ⟨z,H3,I3,r3,k,e,q3⟩=>?_) hm
 subst e
 cases r3
 exact zh1 ⟨H3,I3,q3⟩
def ic (r r':R2)(ta tb tc:TE):TE:=fun σ H Q=>ta σ H fun x H1=>tb σ H1 fun y H2=>r x y H2 fun z H3=>∃k,z=.bl k∧
 (if k=true then tc σ H3 fun w' H4=>r' y w' H4 Q else Q (.bl false) H3)
theorem pH {op op':CmpOp}{r r':R2}(ho:OpR X (compareOp op) r)(ho':OpR X (compareOp op') r')(ha:PE X a ta)(hb:PE X b tb)(hc:PE X c tc)
  (hm:lastMarks [op,op'] [b,c]=false:=by with_unfolding_all rfl):PE X (.Compare a [op,op'] [b,c] pos) (ic r r' ta tb tc):=by
 intro pins s σ H Q I h
 refine Compare_chain (thn (ha pins s σ H _ I h) fun v s1 ⟨x,H1,I1,r1,q1⟩=>chain_link (thn (hb pins s1 σ H1 _ I1 q1) fun u s2 ⟨y,H2,I2,r2,q2⟩=>
  thn (ho pins s2 σ H2 x y v u _ I2 r1 r2 q2) fun d s3 ⟨z,H3,I3,r3,k,e,q3⟩=>?_)) hm
 subst e
 cases r3
 refine zh1 ?_
 cases k with
 |false=>exact ite_ff ⟨.bl false,H3,I3,rfl,q3⟩
 |true=>exact ite_tt (chain_last (thn (hc pins s3 σ H3 _ I3 q3) fun w' s4 ⟨z',H4,I4,r4,q4⟩=>ho' pins s4 σ H4 y z' u w' Q I4 r2 r4 q4))
theorem ig {op op':CmpOp}{r r':R2}(ho:OpR X (compareOp op) r)(ho':OpR X (compareOp op') r')(ha:PE X a ta)(hb:PE X b tb)(hc:PE X c tc)
  (hm:lastMarks [op,op'] [b,c]=false:=by with_unfolding_all rfl):PT X (.Compare a [op,op'] [b,c] pos) (df (ic r r' ta tb tc)):=by
 intro pins s σ H Q I h
 refine isTrue_chain (thn (ha pins s σ H _ I h) fun v s1 ⟨x,H1,I1,r1,q1⟩=>test_link (thn (hb pins s1 σ H1 _ I1 q1) fun u s2 ⟨y,H2,I2,r2,q2⟩=>
  thn (ho pins s2 σ H2 x y v u _ I2 r1 r2 q2) fun d s3 ⟨z,H3,I3,r3,k,e,q3⟩=>?_)) hm
 subst e
 cases r3
 refine zh1 ?_
 cases k with
 |false=>
  obtain⟨k',e',q'⟩:=q3
  cases e'
  exact ite_ff ⟨H3,I3,q'⟩
 |true=>
  refine ite_tt (test_last (thn (hc pins s3 σ H3 _ I3 q3) fun w' s4 ⟨z',H4,I4,r4,q4⟩=>thn (ho' pins s4 σ H4 y z' u w' _ I4 r2 r4 q4) fun d' s5 ⟨z2,H5,I5,r5,k2,e2,q5⟩=>?_))
  subst e2
  cases r5
  exact zh1 ⟨H5,I5,q5⟩
def ag (K:PySem.W.Frag)(x:V)(H:Hp)(k:Bool):Prop:=
 match x with
 |.non=>k=false
 |.bl b=>k=b
 |.int i=>k=(i != 0)
 |.str y=>y.length≤sizeLine∧k=((y.length:Int) != 0)
 |.byt y=>y.size≤sizeLine∧k=((y.size:Int) != 0)
 |.ref p=>(∃xs,SqL K H p xs∧k=!xs.isEmpty)∨(∃xs,SqT K H p xs∧k=!xs.isEmpty)∨∃kvs,H p=some (.dK kvs)∧k=!kvs.isEmpty
 |_=>False
theorem oS {κ:Type}{kvs:List (κ×V)}{vs:List (κ×Value)}(r:KV kvs vs):(!vs.isEmpty)=!kvs.isEmpty:=by
 cases r<;>rfl
theorem uX {xs:List V}{its:List Value}(r:Vals xs its):(!its.toArray.isEmpty)=!xs.isEmpty:=by
 cases r<;>simp
theorem vP :(sizeLine:Nat)<2 ^ 63:=by rw[sizeLine_eq];decide
theorem cC :za3 X (fun x H Q=>∃k,ag X.K x H k∧Q k H):=by
 intro pins s σ H x v Q I rx h
 obtain⟨k,e,q⟩:=h
 have hl:=vP
 have hs:sizeLine=16777216:=sizeLine_eq
 cases x with
 |non=>
  cases rx
  have e':k=false:=e
  subst e'
  exact truthy_none ⟨H,I,q⟩
 |bl b=>
  cases rx
  have e':k=b:=e
  subst e'
  exact zh1 ⟨H,I,q⟩
 |int i=>
  obtain⟨t,rfl⟩:=rx
  have e':k=(i != 0):=e
  subst e'
  exact PySem.P.truthy_int ⟨H,I,q⟩
 |str y=>
  obtain⟨t,rfl⟩:=rx
  obtain⟨hy,e'⟩:y.length≤sizeLine∧k=((y.length:Int) != 0):=e
  subst e'
  exact PySem.P.truthy_str (by omega) ⟨H,I.tok _,q⟩
 |byt y=>
  obtain⟨t,rfl⟩:=rx
  obtain⟨hy,e'⟩:y.size≤sizeLine∧k=((y.size:Int) != 0):=e
  subst e'
  exact PySem.W.truthy_bytes (by omega) ⟨H,I.tok _,q⟩
 |ref p=>
  cases rx
  have e':(∃xs,SqL X.K H p xs∧k=!xs.isEmpty)∨(∃xs,SqT X.K H p xs∧k=!xs.isEmpty)∨∃kvs,H p=some (.dK kvs)∧k=!kvs.isEmpty:=e
  rcases e' with ⟨xs,hx,e'⟩|⟨xs,hx,e'⟩|⟨kvs,hx,e'⟩
  ·subst e'
   obtain⟨its,r,pl,hz⟩:=I.list hx
   have hlen:=r.length
   exact wpAny_truthy_list pl.isList (by simp only[ze3];omega) ⟨H,I.tok _,by rw[uX r];exact q⟩
  ·subst e'
   obtain⟨its,r,pl,hz⟩:=I.tuple hx
   have hlen:=r.length
   exact truthy_tuple pl (by simp only[ze3];omega) ⟨H,I.tok _,by rw[uX r];exact q⟩
  ·subst e'
   obtain⟨hz,hS,vs,r,m⟩:kvs.length≤sizeLine∧(p == sysModules)=false∧∃vs,KV kvs vs∧s.heap.DictOf (yg X.prog X.w) p vs:=I.hok p _ hx
   have hlen:kvs.length=vs.length:=Paired.length r
   exact wpAny_truthy_dict hS m (by omega) ⟨H,I.tok _,by rw[oS r];exact q⟩
 |_=>exact (show False from e).elim
theorem jn (ha:PE X a ta)(he:∀whole,isTrue a X.env whole=(do let v ←whole;standAt a.pos;holding [v] (truthy v))):
  PT X a (fun σ H Q=>ta σ H fun x H'=>∃k,ag X.K x H' k∧Q k H'):=by
 intro pins s σ H Q I h
 exact isTrue_plain (thn (ha pins s σ H _ I h) fun v s1 ⟨x,H1,I1,r1,q1⟩=>cC pins s1 σ H1 x v Q I1 r1 q1) (he _)
theorem vals1 {x:V}{us:List Value}(r:Vals [x] us):∃u,us=[u]∧RelV x u:=by
 cases r with
 |cons r1 r2=>cases r2;exact⟨_,rfl,r1⟩
theorem vals2 {x y:V}{us:List Value}(r:Vals [x,y] us):∃u w',us=[u,w']∧RelV x u∧RelV y w':=by
 cases r with
 |cons r1 r2=>
  cases r2 with
  |cons r3 r4=>cases r4;exact⟨_,_,rfl,r1,r3⟩
theorem lq (hc:X.calm=true):xZ X (.builtin "max") (fun xs H Q=>∃i j,xs=[.int i,.int j]∧Q (.int (if j > i then j else i)) H):=by
 intro pins s σ H xs us Q I r h
 obtain⟨i,j,rfl,q⟩:=h
 obtain⟨u,w',rfl,⟨t,rfl⟩,⟨t',rfl⟩⟩:=vals2 r
 refine max_two_ints (I.ok.hd hc) fun h' tk k=>⟨_,H,I.kept k,?_,q⟩
 by_cases hj:j > i
 ·rw[if_pos hj,if_pos hj];exact⟨_,rfl⟩
 ·rw[if_neg hj,if_neg hj];exact⟨_,rfl⟩
theorem mQ (hc:X.calm=true):xZ X (.builtin "min") (fun xs H Q=>∃i j,xs=[.int i,.int j]∧Q (.int (if j<i then j else i)) H):=by
 intro pins s σ H xs us Q I r h
 obtain⟨i,j,rfl,q⟩:=h
 obtain⟨u,w',rfl,⟨t,rfl⟩,⟨t',rfl⟩⟩:=vals2 r
 refine min_two_ints (I.ok.hd hc) fun h' tk k=>⟨_,H,I.kept k,?_,q⟩
 by_cases hj:j<i
 ·rw[if_pos hj,if_pos hj];exact⟨_,rfl⟩
 ·rw[if_neg hj,if_neg hj];exact⟨_,rfl⟩
end
structure pV (h:Heap)(x dx C:Addr)(mA:Str→Option Value):Prop where
 obj:h.get? x=some (PySem.W.instObj C dx)
 ns:h.Ns1 dx mA
 ne:dx≠x
theorem lO {h:Heap}{dx:Addr}{mA:Str→Option Value}(n:h.Ns1 dx mA):∃od,h.get? dx=some od∧∀name,PySem.W.lookIn name od=some (mA name):=by
 obtain⟨o,es,ep,ho,hd,hk,_,hm⟩:=n
 refine⟨o,ho,fun name=>?_⟩
 have e:=hm name
 unfold nsFind findBy at e
 rw[←Array.find?_toList] at e
 unfold PySem.W.lookIn
 rw[hd]
 dsimp only
 split
 ·rename_i y q
  rw[q] at e
  exact congrArg some e
 ·rename_i q
  rw[q] at e
  have a:es.toList.any (·.refKey)=false:=by
   rw[List.any_eq_false]
   intro y hy
   obtain⟨z,t,hkey⟩:=hk y (Array.mem_toList_iff.mp hy)
   simp[DictEntry.refKey,hkey]
  have a':¬es.toList.any (·.refKey)=true:=by rw[a];exact ze0
  rw[if_neg a']
  exact congrArg some e
theorem pV.look {h:Heap}{x dx C:Addr}{mA:Str→Option Value}(I:pV h x dx C mA):∃od,PySem.W.InstAt h x (PySem.W.instObj C dx) C (some od)∧∀name,PySem.W.lookIn name od=some (mA name):=
 let ⟨od,ho,hl⟩:=lO I.ns
 ⟨od,⟨I.obj,rfl,rfl,ho⟩,hl⟩
section
variable {prog:Program}{w:World}{A:Around}{E:Value→Shared→Prop}{s:Shared}{K:PySem.W.Frag}{x dx C f:Addr}{mA:Str→Option Value}{name:Str}{v:Value}
theorem get_map {expr:Bool}{Q:Value→Shared→Prop}(X:K.In s.heap)(I:pV s.heap x dx C mA)(hg:PySem.W.plainGet K C name=true)(hh:PySem.W.hasDictIn K C=true)
  (ha:PySem.W.findIn K (.ref C) name=some none) (hv:mA name=some v) (hv':PySem.W.handedIn v=true) (h:Q v {s with toks:=s.toks+1}):
  wpAny (model prog w) A (getAttr (.ref x) name expr) Q E s:=by
 obtain⟨od,J,hl⟩:=I.look
 exact PySem.W.get_value X J (zp4 hg).1 (PySem.W.findObj_own hh ha rfl (by rw[hl,hv])) hv' h
theorem jQ {pl:Sem Bool}{Q:Value×List Value→Shared→Prop}(X:K.In s.heap)(I:pV s.heap x dx C mA)(hg:PySem.W.plainGet K C name=true)
  (hf:PySem.W.findIn K (.ref C) name=some (some (.ref f))) (ht:PySem.W.isFn K (.ref f)=true) (hv:mA name=none) (h:Q (.ref f,[.ref x]) s):
  wpAny (model prog w) A (getMethod (.ref x) name pl) Q E s:=by
 obtain⟨od,J,hl⟩:=I.look
 exact PySem.W.method_fn X J (zp4 hg).1 (zp4 hg).2 hf (zm2.mp ht) (by show (PySem.W.lookIn name od).map (·.isSome)=some false;rw[hl,hv];rfl) h
theorem fL {ns:List Str}{Q:Unit→Shared→Prop}(X:K.In s.heap)(I:pV s.heap x dx C mA)
  (hs:PySem.W.findIn K (.ref C) "__setattr__"=some (some (.builtin "object.__setattr__"))) (hp:PySem.W.plainOver K C=true) (ht:PySem.W.takerIn K C name=some none) (hh:PySem.W.hasDictIn K C=true)
  (hw:PySem.Within mA ns) (hsz:ns.length≤sizeLine)
  (h:∀h',pV h' x dx C (fun y=>if y=name then some v else mA y)→Heap.SameBut dx s.heap h'→Q () {s with heap:=h',toks:=s.toks+2}):
  wpAny (model prog w) A (setAttr (.ref x) name v) Q E s:=by
 obtain⟨od,J,hl⟩:=I.look
 refine PySem.W.set_plain X J hs (PySem.W.osa_open (s:={s with toks:=s.toks+1}) (r:=none) X J hp ht fun b=>?_)
 obtain⟨cd,hc,hd'⟩:=PySem.W.any_some hh
 have hx:s.heap.get? x=some ⟨.ref C,some dx,.plain,#[]⟩:=I.obj
 refine zc8 (zd0 (zc8 (zc8 (wpAny_loadPart hx (zc8 (PySem.W.Looks.here (s:={s with toks:=s.toks+1}) (PySem.W.looks_clsIn X hc) ?_))))))
 rw[hd']
 refine zd0 (a:=some dx) (zc8 (zd0 (zc8 ?_)))
 refine wpAny_nsSet1 (s:={s with toks:=s.toks+1}) I.ns fun h' hn2 hs2=>?_
 obtain⟨oD,esD,epD,hoD,hdD,hcD⟩:=hn2.count (PySem.Within.cons name v hw)
 refine zc8 (wpAny_lookBehind hoD (by rw[hdD];exact pastItsLine_dict (zi6 hcD (by rw[ze7];omega))) ?_)
 exact zd0 (h _ ⟨(hs2.2 _ (zl9 I.ne)).trans I.obj,hn2,I.ne⟩ hs2)
theorem kY {R:Result→Shared→Prop}{vs:List Value}{kw:List (Str×Value)}(X:K.In s.heap)(hm:PySem.W.makesIn K C=true)
  (hi:PySem.W.findIn K (.ref C) "__init__"=some (some (.ref f))) (hf:PySem.W.typeIn K (.ref f)=some (.type "function"))
  (h:codeAny (model prog w) (A.under (.builtin "type.__call__" ⟨.ref C::vs,kw⟩)) (.call (.ref f) ⟨.ref (s.heap.objs.size+1)::vs,kw⟩) (PySem.W.InitBack (s.heap.objs.size+1) R)
   {s with heap:=(s.heap.push PySem.W.emptyDict).push (PySem.W.instObj C s.heap.objs.size)}):
  codeAny (model prog w) A (.call (.ref C) ⟨vs,kw⟩) R s:=by
 obtain⟨hh,g,d,t,os⟩:=s
 exact PySem.W.make_core (PySem.W.makes_of X hm) (PySem.W.looks_findIn X hi) (fun self=>PySem.W.bind_fn X self hf) (.inl rfl) h
end
def xg (f:Str)(v:V):List (Str×V)→List (Str×V)
 |[]=>[(f,v)]
 |(g,x)::r=>if g=f then (g,v)::r else (g,x)::xg f v r
theorem zK (f g:Str)(v:V):∀fs:List (Str×V),(xg f v fs).lookup g=if g=f then some v else fs.lookup g
 |[]=>by
  show List.lookup g [(f,v)]=_
  by_cases h:g=f
  ·have hb:(g == f)=true:=zm2.mpr h
   simp only[List.lookup,hb,if_pos h]
  ·have hb:(g == f)=false:=zi5.mpr h
   simp only[List.lookup,hb,if_neg h]
 |(k,x)::r=>by
  have ih:=zK f g v r
  rw[show xg f v ((k,x)::r)=(if k=f then (k,v)::r else (k,x)::xg f v r) from rfl]
  by_cases hk:k=f
  ·rw[if_pos hk]
   by_cases h:g=k
   ·have hb:(g == k)=true:=zm2.mpr h
    simp only[List.lookup,hb,if_pos (h.trans hk)]
   ·have hb:(g == k)=false:=zi5.mpr h
    simp only[List.lookup,hb,if_neg (fun e:g=f=>h (e.trans hk.symm))]
  ·rw[if_neg hk]
   by_cases h:g=k
   ·have hb:(g == k)=true:=zm2.mpr h
    simp only[List.lookup,hb,if_neg (fun e:g=f=>hk (h.symm.trans e))]
   ·have hb:(g == k)=false:=zi5.mpr h
    simp only[List.lookup,hb]
    exact ih
theorem vJ (f:Str)(v:V):∀fs:List (Str×V),f∈(xg f v fs).map (·.1)∧∀g,g∈fs.map (·.1)→g∈(xg f v fs).map (·.1)
 |[]=>⟨by simp[xg],fun g h=>by simp at h⟩
 |(k,x)::r=>by
  obtain⟨i1,i2⟩:=vJ f v r
  rw[show xg f v ((k,x)::r)=(if k=f then (k,v)::r else (k,x)::xg f v r) from rfl]
  by_cases hk:k=f
  ·rw[if_pos hk]
   subst hk
   exact⟨by simp,fun g h=>by simpa using h⟩
  ·rw[if_neg hk]
   refine⟨?_,fun g h=>?_⟩
   ·rw[zg0]
    exact zd2 _ i1
   ·rw[zg0] at h ⊢
    rcases zc9.mp h with e|e
    ·exact zc9.mpr (.inl e)
    ·exact zd2 _ (i2 g e)
theorem ui (f:Str)(v:V):∀fs:List (Str×V),(xg f v fs).length≤fs.length+1
 |[]=>by simp[xg]
 |(k,x)::r=>by
  have ih:=ui f v r
  rw[show xg f v ((k,x)::r)=(if k=f then (k,v)::r else (k,x)::xg f v r) from rfl]
  by_cases hk:k=f
  ·rw[if_pos hk,ze7,ze7];omega
  ·rw[if_neg hk,ze7,ze7];omega
theorem vt.some_of {v:V}{o:Option Value}(r:vt (some v) o):∃u,o=some u∧RelV v u:=by
 cases o with
 |none=>exact (show False from r).elim
 |some u=>exact⟨u,rfl,r⟩
theorem vt.none_of {o:Option Value}(r:vt none o):o=none:=by
 cases o with
 |none=>rfl
 |some u=>exact (show False from r).elim
theorem lC {v:V}{u:Value}(r:RelV v u):PySem.W.handedIn u=true:=by
 cases v with
 |non=>cases (show u=Value.none from r);rfl
 |bl b=>cases (show u=Value.bool b from r);rfl
 |int i=>obtain⟨t,e⟩:=(show ∃t,u=Value.int i t from r);cases e;rfl
 |str x=>obtain⟨t,e⟩:=(show ∃t,u=Value.str x t from r);cases e;rfl
 |byt b=>obtain⟨t,e⟩:=(show ∃t,u=Value.bytes b t from r);cases e;rfl
 |flt b=>obtain⟨t,e⟩:=(show ∃t,u=Value.float b t from r);cases e;rfl
 |ref a=>cases (show u=Value.ref a from r);rfl
 |ty n=>cases (show u=Value.type n from r);rfl
section
variable {P:Program}{w:World}{H H':Hp}{h h':Heap}{a C dx:Addr}{fs fs':List (Str×V)}
theorem uF (hok:HOk P w H h)(e:H a=some (.ins C dx fs)):∃mA,pV h a dx C mA∧(∀f,vt (fs.lookup f) (mA f))∧PySem.Within mA (fs.map (·.1))∧fs.length≤1000∧H dx=some (.own a):=by
 obtain⟨d,z,ne,ob,mA,n,r,q⟩:=(show yc P w H h a (.ins C dx fs) from hok a _ e)
 exact⟨mA,⟨ob,n,ne⟩,r,q,z,d⟩
end
structure Cls (K:PySem.W.Frag)(C:Addr):Prop where
 pg:PySem.W.plainGet K C Str.empty=true
 hd:PySem.W.hasDictIn K C=true
 po:PySem.W.plainOver K C=true
 sa:PySem.W.findIn K (.ref C) "__setattr__"=some (some (.builtin "object.__setattr__"))
theorem Cls.get {K:PySem.W.Frag}{C:Addr}(c:Cls K C)(f:Str):PySem.W.plainGet K C f=true:=c.pg
def yt (K:PySem.W.Frag)(C:Addr)(f:Str):Prop:=PySem.W.findIn K (.ref C) f=some none
theorem yt.taker {K:PySem.W.Frag}{C:Addr}{f:Str}(n:yt K C f):PySem.W.takerIn K C f=some none:=by
 unfold PySem.W.takerIn
 rw[show PySem.W.findIn K (.ref C) f=some none from n]
 rfl
structure Meth (K:PySem.W.Frag)(C:Addr)(m:Str)(f:Addr):Prop where
 at_:PySem.W.findIn K (.ref C) m=some (some (.ref f))
 fn:PySem.W.isFn K (.ref f)=true
 kp:PySem.W.keepIn K (.ref f)=true
section
variable {X:Cx}{pins:List (Addr×Obj)}{σ:St}{H:Hp}{s:Shared}{a C dx:Addr}{fs:List (Str×V)}{f:Str}{v:V}{A:Around}{E:Value→Shared→Prop}
theorem pO {b:Bool}{Q:Value→Shared→Prop}(I:Inv X pins σ H s)(e:H a=some (.ins C dx fs))(c:Cls X.K C)(n:yt X.K C f)(l:fs.lookup f=some v)
  (h:∀u s',Inv X pins σ H s'→RelV v u→Q u s'):wpAny (model X.prog X.w) A (getAttr (.ref a) f b) Q E s:=by
 obtain⟨mA,O,r,_,_,_⟩:=uF I.hok e
 obtain⟨u,hu,ru⟩:=vt.some_of (v:=v) (o:=mA f) (by rw[←l];exact r f)
 exact get_map I.kIn O (c.get f) c.hd n hu (lC ru) (h u _ (I.tok _) ru)
theorem wU {m:Str}{g:Addr}{pl:Sem Bool}{Q:Value×List Value→Shared→Prop}(I:Inv X pins σ H s)(e:H a=some (.ins C dx fs))(c:Cls X.K C)(k:Meth X.K C m g)(l:fs.lookup m=none)
  (h:Q (.ref g,[.ref a]) s):wpAny (model X.prog X.w) A (getMethod (.ref a) m pl) Q E s:=by
 obtain⟨mA,O,r,_,_,_⟩:=uF I.hok e
 have hn:mA m=none:=vt.none_of (by rw[←l];exact r m)
 exact jQ I.kIn O (c.get m) k.at_ k.fn hn h
theorem oR {y:V}{u:Value}{Q:Unit→Shared→Prop}(I:Inv X pins σ H s)(e:H a=some (.ins C dx fs))(c:Cls X.K C)(n:yt X.K C f)(hl:fs.length<1000)(ry:RelV y u)
  (h:∀s',Inv X pins σ (upd H a (.ins C dx (xg f y fs))) s'→Q () s'):wpAny (model X.prog X.w) A (setAttr (.ref a) f u) Q E s:=by
 obtain⟨mA,O,r,wi,_,ho⟩:=uF I.hok e
 have hz:(fs.map (·.1)).length≤sizeLine:=by rw[zd5,sizeLine_eq];omega
 refine fL I.kIn O c.sa c.po n.taker c.hd wi hz fun h' O' sb=>h _ ?_
 have hd:∃o,h'.get? dx=some o:=let ⟨o,_,_,e',_⟩:=O'.ns;⟨o,e'⟩
 refine I.write (x:=a) (e:=dx) (by rw[e];exact True.intro) (.inr ho) (fun b q hb z=>(sb.2 b hb).trans z) hd ?_
 refine⟨by rw[zj O.ne];exact ho,?_,O.ne,O'.obj,_,O'.ns,fun g=>?_,fun g hg=>?_⟩
 ·have:=ui f y fs;omega
 ·show vt ((xg f y fs).lookup g) (if g=f then some u else mA g)
  rw[zK]
  by_cases q:g=f
  ·rw[if_pos q,if_pos q];exact ry
  ·rw[if_neg q,if_neg q];exact r g
 ·by_cases q:g=f
  ·rw[q];exact (vJ f y fs).1
  ·refine (vJ f y fs).2 g (wi g fun z=>hg ?_)
   show (if g=f then some u else mA g)=none
   rw[if_neg q];exact z
theorem Inv.made (I:Inv X pins σ H s):Inv X pins σ (upd (upd H s.heap.objs.size (.own (s.heap.objs.size+1))) (s.heap.objs.size+1) (.ins C s.heap.objs.size []))
  {s with heap:=(s.heap.push PySem.W.emptyDict).push (PySem.W.instObj C s.heap.objs.size)}:=by
 have e1:(s.heap.push PySem.W.emptyDict).get? s.heap.objs.size=some PySem.W.emptyDict:=ze1 s.heap rfl
 have e2:((s.heap.push PySem.W.emptyDict).push (PySem.W.instObj C s.heap.objs.size)).get? (s.heap.objs.size+1)=some (PySem.W.instObj C s.heap.objs.size):=by
  have:=ze1 (s.heap.push PySem.W.emptyDict) (o:=PySem.W.instObj C s.heap.objs.size) rfl
  rwa [zm0] at this
 have e3:(s.heap.push PySem.W.emptyDict).Ns s.heap.objs.size (fun _=>none):=⟨PySem.W.emptyDict,#[],_,e1,rfl,(fun e he=>absurd he (by simp)),fun _=>rfl⟩
 have I1:=I.laid (a:=s.heap.objs.size) (o:=.own (s.heap.objs.size+1)) (h':=s.heap.push PySem.W.emptyDict) (t':=s.toks) (fun b u q=>zd3 _ q) (zd6 _) ⟨_,e1⟩
 refine I1.laid (a:=s.heap.objs.size+1) (o:=.ins C s.heap.objs.size []) (t':=s.toks) (fun b u q=>zd3 _ q) (Nat.le_of_eq (zm0 _ _)) ?_
 have ne:s.heap.objs.size≠s.heap.objs.size+1:=ze5 (zj5 _)
 refine⟨by rw[zj ne,zh],ze8 _,ne,e2,fun _=>none,(Heap.Ns1.of_empty e3).at fun o q=>zd3 _ q,fun _=>True.intro,fun y hy=>absurd rfl hy⟩
theorem fk {prog:Program}{w:World}{env:Env}{e:Expr}{f:Str}{pos:Pos}{s:Shared}{Q:Value→Shared→Prop}(hb:attributeBase e f env (eval e env)=eval e env)
  (h:wpAny (model prog w) A (eval e env) (fun o s₁=>wpAny (model prog w) A (getAttr o f true) Q E s₁) E s):wpAny (model prog w) A (eval (.Attribute e f pos) env) Q E s:=
 Attribute_any_ h (by rw[arm_eval_Attribute,hb])
end
def za1 (K:PySem.W.Frag)(ta:TE)(f:Str):TE:=fun σ H Q=>ta σ H fun x H1=>∃a C dx fs v,x=.ref a∧H1 a=some (.ins C dx fs)∧Cls K C∧yt K C f∧fs.lookup f=some v∧Q v H1
def zc1 (K:PySem.W.Frag)(ta tv:TE)(f:Str):TS:=fun D σ H=>tv σ H fun y H1=>ta σ H1 fun x H2=>∃a C dx fs,x=.ref a∧H2 a=some (.ins C dx fs)∧Cls K C∧yt K C f∧fs.length<1000∧
 D.nx σ (upd H2 a (.ins C dx (xg f y fs)))
section
variable {X:Cx}{o e value:Expr}{f:Str}{pos pos' tpos:Pos}{ta tv:TE}
theorem vO (he:PE X e ta)(hb:attributeBase e f X.env (eval e X.env)=eval e X.env):PE X (.Attribute e f pos) (za1 X.K ta f):=by
 intro pins s σ H Q I h
 refine fk hb (thn (he pins s σ H _ I h) fun u s1 ⟨x,H1,I1,rx,a,C,dx,fs,v,ex,ea,c,n,l,q⟩=>?_)
 subst ex
 obtain rfl:u=Value.ref a:=rx
 exact pO I1 ea c n l fun u' s2 I2 ru=>⟨v,H1,I2,ru,q⟩
theorem qo (ha:PE X o ta)(hv:PE X value tv)(hs:swapsWith value (some (.Attribute o f pos')) pos.line X.env=pure false):PS X (.Assign [.Attribute o f pos'] value pos) (zc1 X.K ta tv f):=by
 intro pins s σ H D I h
 refine plainObj_wpAny_Assign_Attribute (thn (hv pins s σ H _ I h) fun u s1 ⟨y,H1,I1,ry,q⟩=>thn (ha pins s1 σ H1 _ I1 q) fun ov s2 ⟨x,H2,I2,rx,a,C,dx,fs,ex,ea,c,n,l,q2⟩=>?_) hs
 subst ex
 obtain rfl:ov=Value.ref a:=rx
 exact oR I2 ea c n l ry fun s3 I3=>⟨σ,_,I3,q2⟩
theorem eK {pl:Sem Bool}{m:Str}{apos:Pos}{args:List Expr}{pins:List (Addr×Obj)}{s:Shared}{σ:St}{H:Hp}{Q:Value→Shared→Prop}{te:TE}(he:PE X e te)(I:Inv X pins σ H s)
  (h:te σ H fun x H1=>∃a C dx fs g,x=.ref a∧H1 a=some (.ins C dx fs)∧Cls X.K C∧Meth X.K C m g∧fs.lookup m=none∧
   ∀s1,Inv X pins σ H1 s1→wpAny (model X.prog X.w) X.A (callWith pos (.ref g) [.ref a] (backTo pos (starEach args X.env)) (backToKw pos (keywordEach [] X.env))) Q X.xe s1)
  (ht:eval (.Call (.Attribute e m apos) args [] pos) X.env=(do
   let ov ←eval e X.env
   standAt apos.atName
   let (f,first) ←holding [ov] (getMethod ov m pl)
   callWith pos f first (backTo pos (starEach args X.env)) (backToKw pos (keywordEach [] X.env)))):
  wpAny (model X.prog X.w) X.A (eval (.Call (.Attribute e m apos) args [] pos) X.env) Q X.xe s:=by
 refine zo6 (pl:=pl) (thn (he pins s σ H _ I h) fun u s1 ⟨x,H1,I1,rx,a,C,dx,fs,g,ex,ea,c,k,l,q⟩=>?_) ht
 subst ex
 obtain rfl:u=Value.ref a:=rx
 exact wU I1 ea c k l (q s1 I1)
end
section
variable {X:Cx}{pins:List (Addr×Obj)}{σ:St}{H:Hp}{s:Shared}{A:Around}{E:Value→Shared→Prop}{Q:Value→Shared→Prop}{c:Value}{b:Bool}
inductive wK (K:PySem.W.Frag)(H:Hp):V→Value→Prop where
 |non:wK K H .non (.type "NoneType")
 |bl (x:Bool):wK K H (.bl x) (.type "bool")
 |int (i:Int):wK K H (.int i) (.type "int")
 |str (x:Str):wK K H (.str x) (.type "str")
 |flt (x:UInt64):wK K H (.flt x) (.type "float")
 |lst {a:Addr} {xs:List V} (e:H a=some (.lst xs)):wK K H (.ref a) (.type "list")
 |frz {a:Addr} {o:Obj} {xs:List V} (e:H a=some (.frz o (.lst xs))):wK K H (.ref a) (.type "list")
 |tup {a:Addr} {xs:List V} (e:H a=some (.tup xs)):wK K H (.ref a) (.type "tuple")
 |dK {a:Addr} {kvs:List (Key×V)} (e:H a=some (.dK kvs)):wK K H (.ref a) (.type "dict")
 |dT {a:Addr} {kvs:List (List Key×V)} (e:H a=some (.dT kvs)):wK K H (.ref a) (.type "dict")
 |ins {a C dx:Addr} {fs:List (Str×V)} (e:H a=some (.ins C dx fs)) (cl:Cls K C) (ha:PySem.W.findIn K (.ref C) "__class__"=some (some (.builtin "object.__class__")))
   (hn:PySem.W.specialIn K (.builtin "object.__class__") "__get__"=some (some (.builtin "getset_descriptor.__get__"))) (htk:PySem.W.takesIn K (.builtin "object.__class__")=some true)
   (hm:PySem.W.mroIn K C (.type "object")=some true):wK K H (.ref a) (.ref C)
theorem sP {x:V}{u t:Value}(I:Inv X pins σ H s)(rx:RelV x u)(ty:wK X.K H x t)(e:PySem.W.kitOne X.K t c=some b)(h:∀tk,Q (.bool b) {s with toks:=tk}):
  wpAny (model X.prog X.w) A (call (.builtin "isinstance") [u,c]) Q E s:=by
 cases ty with
 |non=>cases (show u=Value.none from rx);exact zh4 PySem.W.kitx_none I.kIn True.intro e (fun z=>nomatch z) h
 |bl y=>cases (show u=Value.bool y from rx);exact zh4 PySem.W.kitx_bool I.kIn True.intro e (fun z=>nomatch z) h
 |int i=>obtain⟨t,q⟩:=(show ∃t,u=Value.int i t from rx);cases q;exact zh4 PySem.W.kitx_int I.kIn True.intro e (fun z=>nomatch z) h
 |str y=>obtain⟨t,q⟩:=(show ∃t,u=Value.str y t from rx);cases q;exact zh4 PySem.W.kitx_str I.kIn True.intro e (fun z=>nomatch z) h
 |flt y=>obtain⟨t,q⟩:=(show ∃t,u=Value.float y t from rx);cases q;exact zh4 PySem.W.kitx_float I.kIn True.intro e (fun z=>nomatch z) h
 |@lst a xs ea=>
  cases (show u=Value.ref a from rx)
  obtain⟨_,_,n,_,h1⟩:=(show yc X.prog X.w H s.heap a (.lst xs) from I.hok a _ ea)
  exact zh4 PySem.W.kitx_list I.kIn ⟨_,h1,rfl⟩ e (fun z=>nomatch z) h
 |@frz a ob xs ea=>
  cases (show u=Value.ref a from rx)
  obtain⟨_,_,_,n,_,h1⟩:=(show yc X.prog X.w H s.heap a (.frz ob (.lst xs)) from I.hok a _ ea)
  exact zh4 PySem.W.kitx_list I.kIn ⟨_,h1,rfl⟩ e (fun z=>nomatch z) h
 |@tup a xs ea=>
  cases (show u=Value.ref a from rx)
  obtain⟨_,_,_,p⟩:=(show yc X.prog X.w H s.heap a (.tup xs) from I.hok a _ ea)
  obtain⟨o,h1,h2,_⟩:=p
  exact zh4 PySem.W.kitx_tuple I.kIn ⟨o,h1,h2⟩ e (fun z=>nomatch z) h
 |@dK a kvs ea=>
  cases (show u=Value.ref a from rx)
  obtain⟨_,_,vs,_,p⟩:=(show yc X.prog X.w H s.heap a (.dK kvs) from I.hok a _ ea)
  obtain⟨o,es,ep,h1,h2,_⟩:=p
  exact zh4 PySem.W.kitx_dict I.kIn ⟨o,h1,h2.1⟩ e (fun z=>nomatch z) h
 |@dT a kvs ea=>
  cases (show u=Value.ref a from rx)
  obtain⟨_,_,xs,_,o,es,ep,h1,h2,_⟩:=(show yc X.prog X.w H s.heap a (.dT kvs) from I.hok a _ ea)
  exact zh4 PySem.W.kitx_dict I.kIn ⟨o,h1,h2.1⟩ e (fun z=>nomatch z) h
 |@ins a C dx fs ea cl ha hn htk hm=>
  cases (show u=Value.ref a from rx)
  obtain⟨mA,O,_⟩:=uF I.hok ea
  obtain⟨od,J,_⟩:=O.look
  exact zh4 (PySem.W.kitx_own (cl.get _) cl.hd ha hn htk hm) I.kIn J e (fun z=>nomatch z) h
end
structure zR (k:Nat)(A:Around):Prop where
 hd:A.handled=none
 dp:A.depth+3*k+5<recursionLimit
 un:A.units+16*k+200<cLine
 gd:A.guards=some []
theorem zR.mono {j k:Nat}{A:Around}(r:zR k A)(h:j≤k):zR j A:=⟨r.hd,by have:=r.dp;omega,by have:=r.un;omega,r.gd⟩
theorem zR.deeper {k:Nat}{A:Around}(r:zR (k+1) A)(env:Env):zR k (A.deeper env):=
 ⟨r.hd,by have:=r.dp;show A.depth+1+3*k+5<_;omega,by have:=r.un;show A.units+3+16*k+200<_;omega,r.gd⟩
theorem oU {A:Around}{C:Addr}{us:List Value}{kw:List (Str×Value)}:(A.under (.builtin "type.__call__" ⟨.ref C::us,kw⟩)).depth=A.depth+1:=by
 first|rfl|simp[Around.under,Code.weight,Code.isCreation,Code.isGuard,Code.isCaller,Code.frames,Code.isFrame,guardIds]
theorem oI {A:Around}{C:Addr}{us:List Value}{kw:List (Str×Value)}:(A.under (.builtin "type.__call__" ⟨.ref C::us,kw⟩)).units=A.units+1:=by
 first|rfl|simp[Around.under,Code.cUnits,Code.frames,Code.isFrame]
theorem qP {A:Around}{C:Addr}{us:List Value}{kw:List (Str×Value)}:(A.under (.builtin "type.__call__" ⟨.ref C::us,kw⟩)).guards=A.guards:=by
 first|rfl|simp[Around.under,Code.guards,Code.isGuard,guardIds,pushGuards]
theorem zR.make {k:Nat}{A:Around}(r:zR (k+1) A)(C:Addr)(us:List Value)(kw:List (Str×Value)):zR k (A.under (.builtin "type.__call__" ⟨.ref C::us,kw⟩)):=
 ⟨r.hd,by have:=r.dp;rw[oU];omega,by have:=r.un;rw[oI];omega,(qP (A:=A)).trans r.gd⟩
theorem zR.depth {k:Nat}{A:Around}(r:zR k A):A.depth<recursionLimit:=by have:=r.dp;omega
theorem zR.units {k:Nat}{A:Around}(r:zR k A):A.units+64<cLine:=by have:=r.un;omega
def aa :TA:=fun _ H Q=>Q [] H
def bZ (ta:TE)(tr:TA):TA:=fun σ H Q=>ta σ H fun x H1=>tr σ H1 fun xs H2=>Q (x::xs) H2
section
variable {X:Cx}{e:Expr}{es:List Expr}{te:TE}{t:TA}{pos:Pos}
theorem zv :PA X [] aa:=fun _ _ _ _ H Q I h=>Calls.spliced_nil ⟨[],H,I,.nil,h⟩
theorem ze (ha:PE X e te)(hr:PA X es t)(hs:starEach (e::es) X.env=(false,eval e X.env)::starEach es X.env:=by rfl):PA X (e::es) (bZ te t):=by
 intro pos pins s σ H Q I h
 rw[hs]
 show wpAny _ _ (spliced ((false,eval e X.env)::backTo pos (starEach es X.env))) _ _ s
 refine Calls.spliced_cons (thn (ha pins s σ H _ I h) fun u s1 ⟨x,H1,I1,r1,q1⟩=>?_)
 exact thn (hr pos pins s1 σ H1 _ I1 q1) fun us s2 ⟨xs,H2,I2,r2,q2⟩=>⟨x::xs,H2,I2,.cons r1 r2,q2⟩
def zb3 (t:TA):TE:=fun σ H Q=>t σ H fun xs H1=>xs.length≤sizeLine∧∀p,H1 p=none→Q (.ref p) (upd H1 p (.tup xs))
def zb8 (t:TA):TE:=fun σ H Q=>t σ H fun xs H1=>xs.length≤sizeLine∧∀p,H1 p=none→Q (.ref p) (upd H1 p (.lst xs))
theorem oH {x1}(h:PA X es t):PE X (.Tuple es x1 pos) (zb3 t):=by
 intro pins s σ H Q I hq
 refine wpAny_Tuple_spliced (thn (h pos pins s σ H _ I hq) fun us s1 ⟨xs,H1,I1,r,z,q⟩=>⟨by rw[←r.length];exact z,?_⟩)
 have hf:H1 s1.heap.objs.size=none:=I1.hok.fresh (zd6 _)
 refine⟨.ref s1.heap.objs.size,upd H1 s1.heap.objs.size (.tup xs),I1.laid (t':=s1.toks) (fun b u e=>zd3 _ e) (zd6 _) ?_,rfl,q _ hf⟩
 exact⟨z,us,r,⟨_,ze1 _ rfl,rfl,_,rfl⟩⟩
theorem iK (h:PA X es t):PE X (.List es pos) (zb8 t):=by
 intro pins s σ H Q I hq
 refine wpAny_List_spliced (thn (h pos pins s σ H _ I hq) fun us s1 ⟨xs,H1,I1,r,z,q⟩=>⟨by rw[←r.length];exact z,?_⟩)
 have hf:H1 s1.heap.objs.size=none:=I1.hok.fresh (zd6 _)
 refine⟨.ref s1.heap.objs.size,upd H1 s1.heap.objs.size (.lst xs),I1.laid (t':=s1.toks) (fun b u e=>zd3 _ e) (zd6 _) ?_,rfl,q _ hf⟩
 exact⟨z,us,0,r,ze1 _ rfl⟩
end
abbrev Sp :=List V→Hp→VK→XK→Prop
abbrev CXT :=List Env→Hp→Shared→XK→Value→Shared→Prop
structure pS (P:Program)(w:World)(K:PySem.W.Frag)(mg:Str→Option Value)(base:Heap)(A:Around)(outer:List Env)(s:Shared)(H:Hp):Prop where
 frames:A.frames=some outer
 mod:Mod K mg base
 bs:∀b o,base.get? b=some o→s.heap.get? b=some o∧H b=none
 bsz:base.objs.size≤s.heap.objs.size
 funs:s.heap.FunFrames base outer
 frf:∀b∈frs outer,H b=none
 hok:HOk P w H s.heap
 bare:AllBare s.gens
def CE (outer:List Env)(P:Program)(w:World)(H:Hp)(s:Shared)(Q:VK)(u:Value)(s':Shared):Prop:=
 ∃v H',s'.os=s.os∧AllBare s'.gens∧Un (frs outer) [] H H' s.heap s'.heap∧HOk P w H' s'.heap∧RelV v u∧Q v H'
def CR (CX:CXT)(outer:List Env)(P:Program)(w:World)(H:Hp)(s:Shared)(Q:VK)(E:XK)(r:Result)(s':Shared):Prop:=
 match r with
 |.ok (.ret u)=>CE outer P w H s Q u s'
 |.ok _=>False
 |.error e=>CX outer H s E e s'
structure zB (P:Program)(w:World)(K:PySem.W.Frag)(mg:Str→Option Value)(base:Heap)(CX:CXT)(k:Nat)(f:Addr)(fd:FuncData)(ps:List Str)(sp:Sp):Prop where
 len:∀vs H Q E,sp vs H Q E→vs.length=ps.length
 run:∀(A:Around) (outer:List Env) (s:Shared) (H:Hp) (args:Args) (us:List Value) (vs:List V) (Q:VK) (E:XK),zR k A→pS P w K mg base A outer s H→BindsTo s fd args (ps.zip us)→Vals vs us→sp vs H Q E→
  codeAny (model P w) A (.call (.ref f) args) (CR CX outer P w H s Q E) s
theorem zB.imp {P:Program}{w:World}{K:PySem.W.Frag}{mg:Str→Option Value}{base:Heap}{CX:CXT}{k:Nat}{f:Addr}{fd:FuncData}{ps:List Str}{sp sp':Sp}(F:zB P w K mg base CX k f fd ps sp)
  (h:∀vs H Q E,sp' vs H Q E→sp vs H Q E):zB P w K mg base CX k f fd ps sp':=
 ⟨fun vs H Q E q=>F.len vs H Q E (h _ _ _ _ q),fun A outer s H args us vs Q E hr he hb hv hs=>F.run A outer s H args us vs Q E hr he hb hv (h _ _ _ _ hs)⟩
theorem pS.make {P:Program}{w:World}{K:PySem.W.Frag}{mg:Str→Option Value}{base:Heap}{A:Around}{outer:List Env}{s:Shared}{H:Hp}(e:pS P w K mg base A outer s H)(C:Addr)(us:List Value)(kw:List (Str×Value)):
  pS P w K mg base (A.under (.builtin "type.__call__" ⟨.ref C::us,kw⟩)) outer s H:=⟨by first|exact e.frames|(simpa[Around.under,Code.envs,Code.isFrame,pushEnvs] using e.frames),e.mod,e.bs,e.bsz,e.funs,e.frf,e.hok,e.bare⟩
section
variable {X:Cx}{pins:List (Addr×Obj)}{σ:St}{H:Hp}{s s':Shared}
theorem Inv.env0 (I:Inv X pins σ H s):pS X.prog X.w X.K X.mg X.base X.A X.stack s H:=
 ⟨I.ok.frames,I.ok.mod,I.bs,zi6 I.ok.bsz I.sz,I.stack,I.stkFree,I.hok,I.bare⟩
theorem Inv.after {Q:VK}{u:Value}(I:Inv X pins σ H s)(h:CE X.stack X.prog X.w H s Q u s'):EP X pins σ Q u s':=by
 obtain⟨v,H',os,bare,un,hok,r,q⟩:=h
 obtain⟨hh,g,d,t,os'⟩:=s'
 obtain rfl:os'=s.os:=os
 exact⟨v,H',I.call (h':=hh) (g':=g) (d':=d) (t':=t) (ch:=[]) un hok bare (fun b z=>absurd z (by simp)),r,q⟩
end
def br (sp:Sp)(dvs:List V)(E:XK)(t:TA):TE:=fun σ H Q=>t σ H fun vs H1=>sp (vs++dvs) H1 Q E
def eZ (C:Addr)(m:Str)(sp:Sp)(dvs:List V)(E:XK)(ta:TE)(t:TA):TE:=fun σ H Q=>ta σ H fun x H1=>∃a dx fs,x=.ref a∧H1 a=some (.ins C dx fs)∧fs.lookup m=none∧
 t σ H1 fun vs H2=>sp (x::(vs++dvs)) H2 Q E
def bE (C:Addr)(sp:Sp)(dvs:List V)(E:XK)(t:TA):TE:=fun σ H Q=>t σ H fun vs H1=>∀x dx,H1 x=none→H1 dx=none→dx≠x→
 sp (.ref x::(vs++dvs)) (upd (upd H1 dx (.own x)) x (.ins C dx [])) (fun v H2=>v=.non∧Q (.ref x) H2) E
def Binds (K:PySem.W.Frag)(fd:FuncData)(ps:List Str)(ds:List Value):Prop:=
 ∀(s:Shared) (us:List Value),K.In s.heap→(us++ds).length=ps.length→BindsTo s fd ⟨us,[]⟩ (ps.zip (us++ds))
theorem Binds.all {K:PySem.W.Frag}{fd:FuncData}{ps:List Str}(h:∀us:List Value,us.length=ps.length→bindArgs fd ⟨us,[]⟩=pure (ps.zip us)):Binds K fd ps []:=fun s us _ hl=>by
 rw[zk4] at hl ⊢
 exact .of_eq (h us hl)
def Passes (CX:CXT)(X:Cx)(E:XK):Prop:=∀(pins:List (Addr×Obj)) (σ:St) (H:Hp) (s:Shared) (e:Value) (s':Shared),Inv X pins σ H s→CX X.stack H s E e s'→X.xe e s'
section
variable {X:Cx}{CX:CXT}{k:Nat}{f C:Addr}{fd:FuncData}{ps:List Str}{sp:Sp}{dvs:List V}{ds:List Value}{E:XK}{x m:Str}{p pos apos:Pos}{e o:Expr}{es:List Expr}{ta:TE}{t:TA}
theorem oJ {pins:List (Addr×Obj)}{σ:St}{H:Hp}{s:Shared}{Q:VK}{us:List Value}{vs:List V}(F:zB X.prog X.w X.K X.mg X.base CX k f fd ps sp)(hr:zR k X.A)(hb:Binds X.K fd ps ds)(hd:Vals dvs ds)(hx:Passes CX X E)
  (I:Inv X pins σ H s) (r:Vals vs us) (h:sp (vs++dvs) H Q E):wpAny (model X.prog X.w) X.A (call (.ref f) us) (EP X pins σ Q) X.xe s:=by
 have r2:Vals (vs++dvs) (us++ds):=r.append hd
 have hl:(us++ds).length=ps.length:=by rw[←r2.length];exact F.len _ _ _ _ h
 refine wpAny_call (zn3 (F.run X.A X.stack s H ⟨us,[]⟩ (us++ds) (vs++dvs) Q E hr I.env0 (hb s us I.kIn hl) r2 h) fun r s' hq=>?_)
 cases r with
 |error e=>exact hx pins σ H s e s' I hq
 |ok fl=>
  cases fl with
  |ret u=>exact I.after hq
  |next=>exact False.elim hq
  |brk=>exact False.elim hq
  |cont=>exact False.elim hq
theorem zL (F:zB X.prog X.w X.K X.mg X.base CX k f fd ps sp)(hr:zR k X.A)(hg:Gl X x)(hm:X.mg x=some (.ref f))(hk:PySem.W.keepIn X.K (.ref f)=true)(hb:Binds X.K fd ps ds)(hd:Vals dvs ds)(hx:Passes CX X E)
  (ha:PA X (e::es) t) (hdb:(x == ("__debug__":Str))=false:=by decide) (he:starEach (e::es) X.env=(false,eval e X.env)::starEach es X.env:=by rfl) (hpl:(backTo pos (starEach es X.env)).any (·.1)=false:=by rfl):
  PE X (.Call (.Name x p) (e::es) [] pos) (br sp dvs E t):=by
 intro pins s σ H Q I h
 refine zn4 (vG I hg hm ?_ hdb)
 refine zp6 (h₀:=X.base) I.ok.mod.kin hk (thn (ha pos pins s σ H _ I h) fun us s1 ⟨vs,H1,I1,r,q⟩=>⟨I1.kIn,?_⟩) he hpl
 exact oJ F hr hb hd hx I1 r q
theorem fB {pl:Sem Bool}(he:PE X o ta)(c:Cls X.K C)(hm:Meth X.K C m f)(F:zB X.prog X.w X.K X.mg X.base CX k f fd ps sp)(hr:zR k X.A)(hb:Binds X.K fd ps ds)(hd:Vals dvs ds)(hx:Passes CX X E)(ha:PA X (e::es) t)
  (hst:starEach (e::es) X.env=(false,eval e X.env)::starEach es X.env:=by rfl) (hpl:(backTo pos (starEach es X.env)).any (·.1)=false:=by rfl)
  (ht:eval (.Call (.Attribute o m apos) (e::es) [] pos) X.env=(do
   let ov ←eval o X.env
   standAt apos.atName
   let (f,first) ←holding [ov] (getMethod ov m pl)
   callWith pos f first (backTo pos (starEach (e::es) X.env)) (backToKw pos (keywordEach [] X.env))):=by rfl):
  PE X (.Call (.Attribute o m apos) (e::es) [] pos) (eZ C m sp dvs E ta t):=by
 intro pins s σ H Q I h
 refine zo6 (pl:=pl) (thn (he pins s σ H _ I h) fun u s1 ⟨x,H1,I1,rx,a,dx,fs,ex,ea,l,q⟩=>?_) ht
 subst ex
 obtain rfl:u=Value.ref a:=rx
 refine wU I1 ea c hm l ?_
 refine zp6 (first:=[.ref a]) (h₀:=X.base) I.ok.mod.kin hm.kp (thn (ha pos pins s1 σ H1 _ I1 q) fun us s2 ⟨vs,H2,I2,r,q2⟩=>⟨I2.kIn,?_⟩) hst hpl
 exact oJ (us:=.ref a::us) (vs:=.ref a::vs) F hr hb hd hx I2 (.cons rfl r) q2
theorem qu {pl:Sem Bool}(he:PE X o ta)(c:Cls X.K C)(hm:Meth X.K C m f)(F:zB X.prog X.w X.K X.mg X.base CX k f fd ps sp)(hr:zR k X.A)(hb:Binds X.K fd ps ds)(hd:Vals dvs ds)(hx:Passes CX X E)
  (ht:eval (.Call (.Attribute o m apos) [] [] pos) X.env=(do
   let ov ←eval o X.env
   standAt apos.atName
   let (f,first) ←holding [ov] (getMethod ov m pl)
   callWith pos f first (backTo pos (starEach [] X.env)) (backToKw pos (keywordEach [] X.env))):=by rfl):
  PE X (.Call (.Attribute o m apos) [] [] pos) (eZ C m sp dvs E ta aa):=by
 intro pins s σ H Q I h
 refine zo6 (pl:=pl) (thn (he pins s σ H _ I h) fun u s1 ⟨x,H1,I1,rx,a,dx,fs,ex,ea,l,q⟩=>?_) ht
 subst ex
 obtain rfl:u=Value.ref a:=rx
 refine wU I1 ea c hm l ?_
 exact PySem.W.callWith_K0 (first:=[.ref a]) I1.kIn hm.kp (oJ (us:=[.ref a]) (vs:=[.ref a]) F hr hb hd hx I1 (.cons rfl .nil) q)
structure Mk (K:PySem.W.Frag)(C f:Addr):Prop where
 makes:PySem.W.makesIn K C=true
 init:PySem.W.findIn K (.ref C) "__init__"=some (some (.ref f))
 fn:PySem.W.isFn K (.ref f)=true
 kp:PySem.W.keepIn K (.ref C)=true
theorem kF {pins:List (Addr×Obj)}{σ:St}{H:Hp}{s:Shared}{Q:VK}{us:List Value}{vs:List V}(M:Mk X.K C f)(F:zB X.prog X.w X.K X.mg X.base CX k f fd ps sp)(hr:zR (k+1) X.A)(hb:Binds X.K fd ps ds)(hd:Vals dvs ds)
  (hx:Passes CX X E) (I:Inv X pins σ H s) (r:Vals vs us)
  (h:∀x dx,H x=none→H dx=none→dx≠x→sp (.ref x::(vs++dvs)) (upd (upd H dx (.own x)) x (.ins C dx [])) (fun v H2=>v=.non∧Q (.ref x) H2) E):
  wpAny (model X.prog X.w) X.A (call (.ref C) us) (EP X pins σ Q) X.xe s:=by
 have hq:=h (s.heap.objs.size+1) s.heap.objs.size (I.hok.fresh (zl4 _)) (I.hok.fresh (zd6 _)) (ze5 (zj5 _))
 have I2:=Inv.made (C:=C) I
 have r2:Vals (V.ref (s.heap.objs.size+1)::(vs++dvs)) (Value.ref (s.heap.objs.size+1)::(us++ds)):=.cons rfl (r.append hd)
 have hl:(Value.ref (s.heap.objs.size+1)::us++ds).length=ps.length:=by
  have e:=r2.length
  rw[F.len _ _ _ _ hq] at e
  exact e.symm
 refine wpAny_call (kY (f:=f) I.kIn M.makes M.init (zm2.mp M.fn) (zn3 (F.run _ X.stack _ _ ⟨Value.ref (s.heap.objs.size+1)::us,[]⟩ (Value.ref (s.heap.objs.size+1)::(us++ds)) _ _ E (hr.make C us [])
  (I2.env0.make C us []) (hb _ (Value.ref (s.heap.objs.size+1)::us) I2.kIn hl) r2 hq) fun r s' hq'=>?_))
 cases r with
 |error e=>exact hx pins σ _ _ e s' I2 hq'
 |ok fl=>
  cases fl with
  |ret u=>
   obtain⟨v,H',I3,rv,ev,q3⟩:=I2.after hq'
   subst ev
   exact⟨rv,⟨V.ref (s.heap.objs.size+1),H',I3,rfl,q3⟩⟩
  |next=>exact False.elim hq'
  |brk=>exact False.elim hq'
  |cont=>exact False.elim hq'
theorem xj (M:Mk X.K C f)(F:zB X.prog X.w X.K X.mg X.base CX k f fd ps sp)(hr:zR (k+1) X.A)(hg:Gl X x)(hm:X.mg x=some (.ref C))(hb:Binds X.K fd ps ds)(hd:Vals dvs ds)(hx:Passes CX X E)
  (ha:PA X (e::es) t) (hdb:(x == ("__debug__":Str))=false:=by decide) (he:starEach (e::es) X.env=(false,eval e X.env)::starEach es X.env:=by rfl) (hpl:(backTo pos (starEach es X.env)).any (·.1)=false:=by rfl):
  PE X (.Call (.Name x p) (e::es) [] pos) (bE C sp dvs E t):=by
 intro pins s σ H Q I h
 refine zn4 (vG I hg hm ?_ hdb)
 refine zp6 (h₀:=X.base) I.ok.mod.kin M.kp (thn (ha pos pins s σ H _ I h) fun us s1 ⟨vs,H1,I1,r,q⟩=>⟨I1.kIn,?_⟩) he hpl
 exact kF M F hr hb hd hx I1 r q
end
section
variable {X:Cx}{CX:CXT}{k:Nat}{f C:Addr}{fd:FuncData}{ps ks:List Str}{sp:Sp}{E:XK}{x m:Str}{p pos apos kpos:Pos}{e o:Expr}{es:List Expr}{kws:List Keyword}{te ta:TE}{t tk:TA}{nm:Option Str}
variable {g:List Value→List Value→List Value}{gV:List V→List V→List V}
end
structure zl (N P:List Str)(sc:Scope):Prop where
 kind:sc.kind=.function
 co:sc.isCoroutine=false
 gen:sc.isGenerator=false
 nd:N.Nodup
 pre:N.take P.length=P
 par:∀x∈P,sc.names.lookup x=some .local∨sc.names.lookup x=some .cell
 nofree:∀y∈sc.names,y.2≠.free
theorem sH {kindOf:Str→Option NameKind}{x:Str}:∀{binds:List (Str×Value)} {m:Str→Option Value},(∀v,(x,v)∉binds)→bindL kindOf binds m x=m x
 |[],_,_=>rfl
 |(n,v)::r,m,h=>by
  unfold bindL
  rw[sH fun w hw=>h w (zd2 _ hw)]
  split
  ·have:x≠n:=by rintro rfl;exact h v zd7
   simp[this]
  ·rfl
theorem sj {kindOf:Str→Option NameKind}{x:Str}:∀{binds:List (Str×Value)} {m:Str→Option Value},(∀v,(x,v)∉binds)→bindC kindOf binds m x=m x
 |[],_,_=>rfl
 |(n,v)::r,m,h=>by
  unfold bindC
  rw[sj fun w hw=>h w (zd2 _ hw)]
  split
  ·rfl
  ·have:x≠n:=by rintro rfl;exact h v zd7
   simp[this]
theorem sD {kindOf:Str→Option NameKind}{x:Str}{v:Value}:∀{P:List Str} {vs:List Value} {i:Nat} {m:Str→Option Value},P.Nodup→P[i]?=some x→vs[i]?=some v→kindOf x=some .local→
  bindL kindOf (P.zip vs) m x=some v
 |[],_,_,_,_,h,_,_=>by simp at h
 |_::_,[],_,_,_,_,h,_=>by simp at h
 |p::P,w::vs,0,m,nd,h1,h2,hk=>by
  simp at h1 h2;subst h1;subst h2
  show bindL kindOf ((p,w)::P.zip vs) m p=_
  unfold bindL
  rw[sH fun v hv=>(zn0.mp nd).1 (List.of_mem_zip hv).1,if_pos hk]
  simp
 |p::P,w::vs,i+1,m,nd,h1,h2,hk=>by
  show bindL kindOf ((p,w)::P.zip vs) m x=_
  unfold bindL
  exact sD (i:=i) (zn0.mp nd).2 (by simpa using h1) (by simpa using h2) hk
theorem sE {kindOf:Str→Option NameKind}{x:Str}{v:Value}:∀{P:List Str} {vs:List Value} {i:Nat} {m:Str→Option Value},P.Nodup→P[i]?=some x→vs[i]?=some v→kindOf x≠some .local→
  bindC kindOf (P.zip vs) m x=some v
 |[],_,_,_,_,h,_,_=>by simp at h
 |_::_,[],_,_,_,_,h,_=>by simp at h
 |p::P,w::vs,0,m,nd,h1,h2,hk=>by
  simp at h1 h2;subst h1;subst h2
  show bindC kindOf ((p,w)::P.zip vs) m p=_
  unfold bindC
  rw[sj fun v hv=>(zn0.mp nd).1 (List.of_mem_zip hv).1,if_neg hk]
  simp
 |p::P,w::vs,i+1,m,nd,h1,h2,hk=>by
  show bindC kindOf ((p,w)::P.zip vs) m x=_
  unfold bindC
  exact sE (i:=i) (zn0.mp nd).2 (by simpa using h1) (by simpa using h2) hk
def start (N:List Str)(vs:List V):St:=vs.map some++List.replicate (N.length-vs.length) none
def uv (CX:CXT)(P:Program)(w:World)(K:PySem.W.Frag)(mg:Str→Option Value)(base:Heap)(N:List Str)(qual:Str)(scope:Scope)(f:Addr)(cd:Value)(A:Around)(outer:List Env)(s:Shared)(H:Hp)(E:XK):Cx where
 prog:=P
 w:=w
 K:=K
 mg:=mg
 base:=base
 A:=A.deeper (envOfC qual scope s.heap.objs.size f cd)
 N:=N
 s₀:=s
 H₀:=H
 env:=envOfC qual scope s.heap.objs.size f cd
 outer:=outer
 stack:=envOfC qual scope s.heap.objs.size f cd::outer
 ex:=[]
 calm:=true
 fn:=fun _=>true
 pn:=[]
 xe:=fun e s'=>wpAny (model P w) (A.deeper (envOfC qual scope s.heap.objs.size f cd)) (leaving (envOfC qual scope s.heap.objs.size f cd) e) (fun _ s''=>CX outer H s E e s'') (fun e' s''=>CX outer H s E e' s'') s'
theorem qz {sc:Scope}{n:Nat}{x:Str}(h:sc.names.lookup x=some .cell):∃c,(cellsFrom n sc.names []).lookup x=some c:=by
 have q:=PySem.W.cellsFrom_some sc.names n [] (.inl h)
 exact Option.isSome_iff_exists.mp q
theorem lH {CX:CXT}{P:Program}{w:World}{K:PySem.W.Frag}{mg:Str→Option Value}{base:Heap}{N ps:List Str}{qual:Str}{scope:Scope}{f:Addr}{cd:Value}{A:Around}{outer:List Env}{s s1:Shared}{H:Hp}{E:XK}{us:List Value}{vs:List V}
  (S:zl N ps scope) (hd:A.handled=none) (e0:pS P w K mg base A outer s H) (hl:vs.length=ps.length) (r:Vals vs us)
  (x:InCallC s s.heap.objs.size (bindL (envOfC qual scope s.heap.objs.size f cd).kindOf (ps.zip us) fun _=>none) (cellsFrom (s.heap.objs.size+1) scope.names []) (bindC (envOfC qual scope s.heap.objs.size f cd).kindOf (ps.zip us) fun _=>none) s1):
  Inv (uv CX P w K mg base N qual scope f cd A outer s H E) [] (start N vs) H s1:=by
 have hpl:ps.length≤N.length:=by have:=congrArg List.length S.pre;rw[zj6] at this;omega
 obtain⟨h1,tk,rfl,hk⟩:=x.done
 have noA:∀b:Addr,b∉(uv CX P w K mg base N qual scope f cd A outer s H E).ex:=fun b z=>absurd (show b∈([]:List Addr) from z) (by simp)
 refine⟨⟨e0.mod,S.kind,rfl,rfl,zd6 _,fun y z c h1 h2=>?_,fun y hy=>?_,fun y c _ h=>?_,fun _=>hd,Around.frames_deeper e0.frames,.inr ⟨rfl,rfl⟩,fun b z=>absurd z (noA b),e0.bs,e0.bsz,fun b _ _=>noA b,fun b z=>absurd z (noA b),e0.funs,e0.frf⟩,
  rfl,e0.bare,Un.kept hk,⟨_,x.toInCall.ns,fun i y v h1 h2 h3=>?_⟩,fun y c h=>⟨_,x.cell y c h⟩,e0.hok.fresh (zd6 _),fun y c h=>?_,fun p hp=>absurd (show p∈([]:List (Addr×Obj)) from hp) (by simp),e0.hok.kept hk,?_⟩
 ·exact name_of_addr x.apart (zh9 h1) (zh9 h2)
 ·have hy:scope.names.lookup y=some .cell∨scope.names.lookup y=some .free:=hy
  rcases hy with hy|hy
  ·exact qz hy
  ·exact absurd rfl (S.nofree _ (zh9 hy))
 ·exact zh2 (x.above y c (zh9 h))
 ·have hi:i<vs.length:=by
   unfold start at h2
   by_cases hi:i<vs.length
   ·exact hi
   ·rw[zm5 (by simpa using hi)] at h2
    rw[zi3] at h2
    split at h2<;>cases h2
  have ha:vs[i]?=some v:=by
   unfold start at h2
   rw[zi9 (by simpa using hi),ze4] at h2
   cases e:vs[i]? with
   |none=>rw[e] at h2;cases h2
   |some a=>rw[e] at h2;cases h2;rfl
  obtain⟨u,hu,rv⟩:=r.get ha
  have hp:ps[i]?=some y:=by
   rw[←S.pre,List.getElem?_take_of_lt (by omega)];exact h1
  have ndP:ps.Nodup:=by rw[←S.pre];exact S.nd.sublist (List.take_sublist _ _)
  refine⟨u,rv,?_⟩
  rcases S.par y (zf7 hp) with k|k
  ·exact .inl ⟨k,sD ndP hp hu k⟩
  ·obtain⟨c,e⟩:=qz (n:=s.heap.objs.size+1) k
   refine .inr ⟨.inl k,c,e,?_⟩
   have q:=x.cell y c e
   rw[sE ndP hp hu (by show scope.names.lookup y≠_;rw[k];decide)] at q
   exact q
 ·exact e0.hok.fresh (zh2 (x.above y c (zh9 h)))
 ·unfold start
  show _=N.length
  rw[zf1,zd5,List.length_replicate]
  omega
theorem eV {CX:CXT}{P:Program}{w:World}{K:PySem.W.Frag}{mg:Str→Option Value}{base:Heap}{k:Nat}{f:Addr}{name qual:Str}{params:Arguments}{body:List Stmt}{scope:Scope}{dV kV doc pm cdv ct oc:Value}{an od:Option Addr}
  {osl:Array (Option Value)} {N ps:List Str} {sp:Sp} (lk:K.lookup f=some ⟨oc,od,.func (PySem.W.fnOf name qual params body scope dV kV doc pm an cdv ct),osl⟩) (hcd:PySem.W.codeIn K cdv qual=true) (S:zl N ps scope)
  (len:∀vs H Q E,sp vs H Q E→vs.length=ps.length)
  (hbody:∀(A:Around) (outer:List Env) (s:Shared) (H:Hp) (vs:List V) (Q:VK) (E:XK),zR k (A.deeper (envOfC qual scope s.heap.objs.size f cdv))→sp vs H Q E→
   ∃t,PSs (uv CX P w K mg base N qual scope f cdv A outer s H E) body t∧t {nx:=fun _ H'=>Q .non H',rt:=Q} (start N vs) H):
  zB P w K mg base CX (k+1) f (PySem.W.fnOf name qual params body scope dV kV doc pm an cdv ct) ps sp:=by
 refine⟨len,fun A outer s H args us vs Q E hr e0 hb r hsp=>?_⟩
 have hl:=len _ _ _ _ hsp
 have KX:K.In s.heap:=e0.mod.kin.keeps fun b o e=>(e0.bs b o e).1
 have lim:s.heap.NoLimit:=e0.mod.nolimit.keeps fun b o e=>(e0.bs b o e).1
 have hkind:∀y∈ps.zip us,scope.names.lookup y.1=some .local∨(scope.names.lookup y.1=some .cell∧((cellsFrom (s.heap.objs.size+1) scope.names []).lookup y.1).isSome=true):=fun⟨n,v⟩ hy=>by
  rcases S.par n (List.of_mem_zip hy).1 with q|q
  ·exact .inl q
  ·exact .inr ⟨q,PySem.W.cellsFrom_some _ _ _ (.inl q)⟩
 refine codeAny_call_function hr.depth (KX _ _ lk) rfl S.co S.gen rfl (PySem.W.codeRec_of KX hcd) (hb _ _ _ _ ?_)
 refine wpAny_newFunctionEnv_cells S.kind hkind fun env he s1 x=>?_
 subst he
 refine⟨lim.keeps x.toInCall.keep,codeAny_func ?_⟩
 obtain⟨t,ht,hq⟩:=hbody A outer s H vs Q E (hr.deeper _) hsp
 have I:Inv (uv CX P w K mg base N qual scope f cdv A outer s H E) [] (start N vs) H s1:=lH S hr.hd e0 hl r x
 refine zg7 (ht [] s1 (start N vs) H _ I hq) (fun fl s' hs=>?_) fun e s' hs=>hs
 have fin:∀{σ':St} {H':Hp} {v:V} {u:Value},Inv (uv CX P w K mg base N qual scope f cdv A outer s H E) [] σ' H' s'→RelV v u→Q v H'→CE outer P w H s Q u s':=
  fun {σ' H' v u} J rv q=>⟨v,H',J.os,J.bare,J.base,J.hok,rv,q⟩
 cases fl with
 |ret u=>
  obtain⟨v,σ',H',J,rv,q⟩:=hs
  exact fin J rv q
 |next=>
  obtain⟨σ',H',J,q⟩:=hs
  exact fin (v:=V.non) (u:=Value.none) J rfl q
 |brk=>
  obtain⟨_,_,_,q⟩:=hs
  exact False.elim q
 |cont=>
  obtain⟨_,_,_,q⟩:=hs
  exact False.elim q
section
variable {X:Cx}{x:Str}{p pos:Pos}{e:Expr}{es:List Expr}{t:TA}{id T:String}{r:List V→Hp→VK→Prop}
def tCB (r:List V→Hp→VK→Prop)(t:TA):TE:=fun σ H Q=>t σ H fun vs H1=>r vs H1 Q
theorem yv (hc:xZ X (.builtin id) r)(hg:Gl X x)(hm:X.mg x=none)(hv:bootBuiltins x=some (.builtin id))(ha:PA X (e::es) t)(hn:x≠"__name__":=by decide)(hdb:(x == ("__debug__":Str))=false:=by decide)
  (he:starEach (e::es) X.env=(false,eval e X.env)::starEach es X.env:=by rfl) (hpl:(backTo pos (starEach es X.env)).any (·.1)=false:=by rfl):PE X (.Call (.Name x p) (e::es) [] pos) (tCB r t):=by
 intro pins s σ H Q I h
 refine zn4 (vL I hg hm hv ?_ hn hdb)
 exact PyProof.Rows.callWith_builtin1 (thn (ha pos pins s σ H _ I h) fun us s1 ⟨vs,H1,I1,r1,q1⟩=>hc pins s1 σ H1 vs us Q I1 r1 q1) he hpl
theorem lG (hc:xZ X (.type T) r)(hg:Gl X x)(hm:X.mg x=none)(hv:bootBuiltins x=some (.type T))(ha:PA X (e::es) t)(hn:x≠"__name__":=by decide)(hdb:(x == ("__debug__":Str))=false:=by decide)
  (he:starEach (e::es) X.env=(false,eval e X.env)::starEach es X.env:=by rfl) (hpl:(backTo pos (starEach es X.env)).any (·.1)=false:=by rfl):PE X (.Call (.Name x p) (e::es) [] pos) (tCB r t):=by
 intro pins s σ H Q I h
 refine zn4 (vL I hg hm hv ?_ hn hdb)
 exact zk2 (thn (ha pos pins s σ H _ I h) fun us s1 ⟨vs,H1,I1,r1,q1⟩=>hc pins s1 σ H1 vs us Q I1 r1 q1) he hpl
end
end L2
namespace HT
open PySem PyProof.Rows
section
open PySem.SeqAt
open PySem.AutoSeq1 (wpAny_loadPart')
open PySem.MeetsSeq PySem.MeetsSeq2 PySem.MeetsSeq3
end
section
variable {prog:Program}{w:World}{A:Around}{E:Value→Shared→Prop}{s:Shared}
def sIx (n d:Nat):Option Int→Nat
 |none=>d
 |some v=>if v<0 then (v+(n:Int)).toNat else min v.toNat n
theorem pI (n d:Nat):sIx n d none=d:=rfl
theorem mn (n d k:Nat):sIx n d (some (k:Int))=min k n:=by
 show (if (k:Int)<0 then ((k:Int)+(n:Int)).toNat else min (k:Int).toNat n)=min k n
 rw[if_neg (by omega),zl7]
end
end HT
namespace L2
open PySem PySem.Spec PyProof.Rows
abbrev TO :=St→Hp→(Option Int→Hp→Prop)→Prop
def PO (X:Cx)(e:Option Expr)(t:TO):Prop:=
 ∀(pins:List (Addr×Obj)) (s:Shared) (σ:St) (H:Hp) (Q:Option Int→Hp→Prop),Inv X pins σ H s→t σ H Q→
  wpAny (model X.prog X.w) X.A (evalPart e X.env) (fun u s'=>∃o H',Inv X pins σ H' s'∧IsPart u o∧Q o H') X.xe s
def ff :TO:=fun _ H Q=>Q none H
def bK (t:TE):TO:=fun σ H Q=>t σ H fun x H1=>∃i,x=.int i∧Q (some i) H1
theorem intsAre_of {ns:List Int}:∀{us:List Value},Vals (ns.map V.int) us→IntsAre us ns:=by
 induction ns with
 |nil=>intro us r;rw[List.map_nil] at r;cases r;exact .nil
 |cons n ns ih=>
  intro us r
  rw[zg0] at r
  cases r with
  |cons r1 r2=>
   obtain⟨t,e⟩:=r1
   subst e
   exact .cons n t (ih r2)
section
variable {X:Cx}{e:Expr}{te:TE}{lo hi:Option Expr}{tl th:TO}{pos p2:Pos}
theorem nk :PO X none ff:=by
 intro pins s σ H Q I h
 rw[evalPart_none]
 exact zd0 ⟨none,H,I,.none,h⟩
theorem nZ (h:PE X e te):PO X (some e) (bK te):=by
 intro pins s σ H Q I hw
 rw[evalPart_some]
 refine thn (h pins s σ H _ I hw) fun u s1 ⟨x,H1,I1,r1,q1⟩=>?_
 obtain⟨i,rfl,q⟩:=q1
 obtain⟨t,rfl⟩:=r1
 exact⟨some i,H1,I1,.int i t,q⟩
def SlR (X:Cx)(r:V→Option Int→Option Int→Hp→VK→Prop):Prop:=
 ∀(pins:List (Addr×Obj)) (s:Shared) (σ:St) (H:Hp) (x:V) (v vl vu:Value) (lo hi:Option Int) (sl:Addr) (Q:VK),Inv X pins σ H s→RelV x v→s.heap.IsSliceOf sl vl vu .none→IsPart vl lo→IsPart vu hi→r x lo hi H Q→
  ∃T id,typeLookup (.type T) "__getitem__"=pure (some (.builtin id))∧s.TypeIs v T∧wpAny (model X.prog X.w) X.A (getItem v (.ref sl)) (EP X pins σ Q) X.xe s
def tSl (r:V→Option Int→Option Int→Hp→VK→Prop)(te:TE)(tl th:TO):TE:=fun σ H Q=>te σ H fun x H1=>tl σ H1 fun l H2=>th σ H2 fun u H3=>r x l u H3 Q
theorem pj {r:V→Option Int→Option Int→Hp→VK→Prop}(hr:SlR X r)(he:PE X e te)(hl:PO X lo tl)(hu:PO X hi th):PE X (.Subscript e (.Slice lo hi none p2) pos) (tSl r te tl th):=by
 intro pins s σ H Q I h
 refine Subscript_ (thn (he pins s σ H _ I h) fun v s1 ⟨x,H1,I1,r1,q1⟩=>?_)
 refine wpAny_Slice (thn (hl pins s1 σ H1 _ I1 q1) fun vl s2 ⟨l,H2,I2,pl,q2⟩=>thn (hu pins s2 σ H2 _ I2 q2) fun vu s3 ⟨u,H3,I3,pu,q3⟩=>?_)
 rw[evalPart_none]
 refine zd0 ?_
 have I4:Inv X pins σ H3 {s3 with heap:=s3.heap.push {cls:=.type "slice",data:=.fields #[vl,vu,.none]}}:=I3.kept (t':=s3.toks) fun b ob q=>zd3 _ q
 obtain⟨T,id,hT,ht,hg⟩:=hr pins {s3 with heap:=s3.heap.push {cls:=.type "slice",data:=.fields #[vl,vu,.none]}} σ H3 x v vl vu l u s3.heap.objs.size Q I4 r1 (Heap.IsSliceOf.new ..) pl pu q3
 show wpAny (model X.prog X.w) X.A (subscriptTail e (.Slice lo hi none p2) v (.ref s3.heap.objs.size)) (EP X pins σ Q) X.xe {s3 with heap:=s3.heap.push {cls:=.type "slice",data:=.fields #[vl,vu,.none]}}
 exact tail_any (ops:=[.ref s3.heap.objs.size,v]) ht hT hg (by with_unfolding_all rfl)
def pA (xs:List V)(lo hi:Option Int):List V:=(xs.drop (HT.sIx xs.length 0 lo)).take (HT.sIx xs.length xs.length hi-HT.sIx xs.length 0 lo)
theorem qU (xs:List V)(lo hi:Option Int):(pA xs lo hi).length≤xs.length:=by
 unfold pA
 rw[zj6,zi7]
 omega
end
def ixN (n:Nat)(i:Int):Option Nat:=if 0≤i then (if i<n then some i.toNat else none) else if -(n:Int)≤i then some (i+n).toNat else none
def atI {α:Type}(xs:List α)(i:Int):Option α:=(ixN xs.length i).bind fun j=>xs[j]?
theorem nQ {n:Nat}{i:Int}{j:Nat}(h:ixN n i=some j):seqIndex? i n=some j∧j<n∧-(n:Int)≤i∧i<n:=by
 unfold ixN at h
 by_cases h0:0≤i
 ·rw[if_pos h0] at h
  by_cases h1:i<n
  ·rw[if_pos h1] at h
   have e:i.toNat=j:=zg2 h
   exact⟨by rw[seqIndex_of h0 h1,e],by omega,by omega,h1⟩
  ·rw[if_neg h1] at h;cases h
 ·rw[if_neg h0] at h
  by_cases h1:-(n:Int)≤i
  ·rw[if_pos h1] at h
   have e:(i+n).toNat=j:=zg2 h
   exact⟨by rw[seqIndex_neg (by omega) h1,e],by omega,h1,by omega⟩
  ·rw[if_neg h1] at h;cases h
theorem qg {α:Type}{xs:List α}{i:Int}{v:α}(h:atI xs i=some v):∃j,seqIndex? i xs.length=some j∧xs[j]?=some v∧j<xs.length∧-(xs.length:Int)≤i∧i<xs.length:=by
 unfold atI at h
 cases e:ixN xs.length i with
 |none=>rw[e] at h;cases h
 |some j=>
  rw[e] at h
  obtain⟨h1,h2,h3,h4⟩:=nQ e
  exact⟨j,h1,h,h2,h3,h4⟩
theorem ny {α:Type}{xs:List α}{j:Nat}{v:α}(h:xs[j]?=some v):atI xs (j:Int)=some v:=by
 have hj:j<xs.length:=(zd1.mp h).1
 have e:ixN xs.length (j:Int)=some j:=by
  unfold ixN
  rw[if_pos (by omega),if_pos (by omega)];simp
 unfold atI;rw[e];exact h
def uC (b:Expr):Prop:=∀o i,subscripted b false o i=operate [o,i] (getItem o i)
def IxR (X:Cx)(r:R2):Prop:=
 ∀(value slice:Expr) (pins:List (Addr×Obj)) (s:Shared) (σ:St) (H:Hp) (x y:V) (v u:Value) (Q:VK),Inv X pins σ H s→RelV x v→RelV y u→r x y H Q→
  subscripted slice false v u=operate [v,u] (getItem v u)→wpAny (model X.prog X.w) X.A (subscriptTail value slice v u) (EP X pins σ Q) X.xe s
def MtR (X:Cx)(id:String)(r:V→List V→Hp→VK→Prop):Prop:=
 ∀(pins:List (Addr×Obj)) (s:Shared) (σ:St) (H:Hp) (x:V) (xs:List V) (v:Value) (us:List Value) (Q:VK),Inv X pins σ H s→RelV x v→Vals xs us→r x xs H Q→
  wpAny (model X.prog X.w) X.A (call (.builtin id) (v::us)) (EP X pins σ Q) X.xe s
section
variable {X:Cx}{a b:Expr}{ta tb:TE}{pos:Pos}
theorem IxR.or {r r':R2}(h:IxR X r)(h':IxR X r'):IxR X (fun x y H Q=>r x y H Q∨r' x y H Q):=by
 intro value slice pins s σ H x y v u Q I rx ry q hs
 rcases q with q|q
 ·exact h value slice pins s σ H x y v u Q I rx ry q hs
 ·exact h' value slice pins s σ H x y v u Q I rx ry q hs
theorem yi {r:R2}(hr:IxR X r)(ha:PE X a ta)(hb:PE X b tb)(hs:uC b):PE X (.Subscript a b pos) (tOp r ta tb):=by
 intro pins s σ H Q I h
 exact Subscript_ (dR ha hb I h fun v u s2 x y H2 I2 rx ry q=>hr a b pins s2 σ H2 x y v u Q I2 rx ry q (hs _ _))
def cM (K:PySem.W.Frag):R2:=fun x y H Q=>∃p xs i v,x=.ref p∧y=.int i∧SqL K H p xs∧atI xs i=some v∧Q v H
def cz (K:PySem.W.Frag):R2:=fun x y H Q=>∃p xs i v,x=.ref p∧y=.int i∧SqT K H p xs∧atI xs i=some v∧Q v H
def aF :R2:=fun x y H Q=>∃z i c,x=.str z∧y=.int i∧z.length≤sizeLine∧atI z.cps.toList i=some c∧Q (.str ⟨#[c]⟩) H
theorem yU :IxR X (cM X.K):=by
 intro value slice pins s σ H x y v u Q I rx ry h hs
 obtain⟨p,xs,i,z,rfl,rfl,hq,he,q⟩:=h
 cases rx
 obtain⟨t,rfl⟩:=ry
 obtain⟨its,r,pl,hz⟩:=I.list hq
 obtain⟨j,h1,h2,h3,h4,h5⟩:=qg he
 obtain⟨w,ew,rw'⟩:=r.get h2
 have hl:=r.length
 have hn:=vP
 have fin:EP X pins σ Q w s:=⟨z,H,I,rw',q⟩
 by_cases h0:0≤i
 ·have hj:i.toNat=j:=by
   rw[seqIndex_of h0 h5] at h1
   exact zg2 h1
  exact item_listR pl.isList h0 (by omega) (by rw[hj];simpa using ew) fin hs
 ·have hj:(i+(its.toArray.size:Int)).toNat=j:=by
   rw[seqIndex_neg (by omega) h4] at h1
   rw[ze3,←hl]
   exact zg2 h1
  exact subscriptTail_builtinR (x:=w) pl.isList.typeIs slot_list_getitem.lookup
   (wpAny_getItem_list_neg (Q:=fun r s'=>r=w∧EP X pins σ Q r s') pl.isList (by omega) (by rw[ze3]<;>omega) (by omega) (by rw[hj];simpa using ew) ⟨rfl,fin⟩) hs
theorem yn :IxR X (cz X.K):=by
 intro value slice pins s σ H x y v u Q I rx ry h hs
 obtain⟨p,xs,i,z,rfl,rfl,hq,he,q⟩:=h
 cases rx
 obtain⟨t,rfl⟩:=ry
 obtain⟨its,r,pl,hz⟩:=I.tuple hq
 obtain⟨j,h1,h2,h3,h4,h5⟩:=qg he
 obtain⟨w,ew,rw'⟩:=r.get h2
 have hl:=r.length
 have hn:=vP
 have fin:EP X pins σ Q w s:=⟨z,H,I,rw',q⟩
 exact subscriptTail_builtinR (x:=w) pl.typeIs slot_tuple_getitem.lookup
  (getItem_tuple (j:=j) (Q:=fun r s'=>r=w∧EP X pins σ Q r s') pl (by omega) (by omega) (by rw[ze3,←hl];exact h1) (by simpa using ew) ⟨rfl,fin⟩) hs
theorem dX :IxR X aF:=by
 intro value slice pins s σ H x y v u Q I rx ry h hs
 obtain⟨z,i,c,rfl,rfl,hz,he,q⟩:=h
 obtain⟨t,rfl⟩:=rx
 obtain⟨t',rfl⟩:=ry
 obtain⟨j,h1,h2,h3,h4,h5⟩:=qg he
 have hl:z.cps.toList.length=z.length:=by simp[Str.length]
 rw[hl] at h1 h4 h5
 have hn:=vP
 exact tail_any (typeIs_str s z t) slot_str_getitem.lookup (getItem_str (c:=c) (by
  have e1:decide (i < -(2 ^ 63:Int))=false:=zf5 (by omega)
  have e2:decide (i≥2 ^ 63)=false:=zf5 (by omega)
  rw[e1,e2,Bool.or_false]) (by rw[h1];simpa using h2) ⟨.str ⟨#[c]⟩,H,I.tok _,⟨_,rfl⟩,q⟩) hs
def rIx (K:PySem.W.Frag):R2:=fun x y H Q=>cM K x y H Q∨cz K x y H Q∨aF x y H Q
theorem cj :IxR X (rIx X.K):=yU.or (yn.or dX)
theorem oF (its:List Value)(n j:Nat)(u:Value):Obj.mapSeq (·.setIfInBounds j u) {cls:=.type "list",data:=.seq its.toArray n}={cls:=.type "list",data:=.seq (its.set j u).toArray n}:=by
 simp[Obj.mapSeq]
theorem Inv.lst {pins:List (Addr×Obj)}{σ:St}{H:Hp}{s:Shared}{p:Addr}{xs:List V}(I:Inv X pins σ H s)(h:H p=some (.lst xs)):
  ∃(its:List Value) (n:Nat),Vals xs its∧s.heap.get? p=some {cls:=.type "list",data:=.seq its.toArray n}∧xs.length≤sizeLine:=by
 obtain⟨z,its,n,r,e⟩:=I.hok p _ h
 exact⟨its,n,r,e,z⟩
theorem Inv.lstUpd {pins:List (Addr×Obj)}{σ:St}{H:Hp}{s:Shared}{p:Addr}{xs ys:List V}{its its':List Value}{n n':Nat}{f:Obj→Obj}(I:Inv X pins σ H s)(h:H p=some (.lst xs))
  (ho:s.heap.get? p=some {cls:=.type "list",data:=.seq its.toArray n}) (hf:f {cls:=.type "list",data:=.seq its.toArray n}={cls:=.type "list",data:=.seq its'.toArray n'}) (r:Vals ys its') (hz:ys.length≤sizeLine) (t:Nat):
  Inv X pins σ (upd H p (.lst ys)) {s with heap:=s.heap.update p f,toks:=t}:=by
 have e:(s.heap.update p f).get? p=some {cls:=.type "list",data:=.seq its'.toArray n'}:=by
  rw[zm1 f ho (by rw[hf]<;>rfl),hf]
 refine I.write (x:=p) (e:=p) (by rw[h];trivial) (.inl rfl) (fun b u hb q=>(zl5 _ _ (zl9 hb)).trans q) ⟨_,e⟩ ?_
 exact⟨hz,its',n',r,e⟩
def bQ :V→V→V→Hp→(Hp→Prop)→Prop:=fun o i v H Q=>∃p xs k j,o=.ref p∧i=.int k∧H p=some (.lst xs)∧ixN xs.length k=some j∧Q (upd H p (.lst (xs.set j v)))
theorem set_list :aS X bQ:=by
 intro pins s σ H o i v ov iv u Q I ro ri rv h
 obtain⟨p,xs,k,j,rfl,rfl,hp,hj,q⟩:=h
 cases ro
 obtain⟨t,rfl⟩:=ri
 obtain⟨its,n,r,ho,hz⟩:=I.lst hp
 obtain⟨h1,h2,h3,h4⟩:=nQ hj
 have hl:=r.length
 have hn:=vP
 have I':Inv X pins σ (upd H p (.lst (xs.set j v))) {s with heap:=s.heap.update p (Obj.mapSeq (·.setIfInBounds j u))}:=
  I.lstUpd hp ho (oF its n j u) (r.set rv j) (by rw[zh5];exact hz) s.toks
 by_cases h0:0≤k
 ·have hk:k.toNat=j:=by
   rw[seqIndex_of h0 h4] at h1
   exact zg2 h1
  exact PySem.W.ki_setAt ho h0 (by omega) (by rw[ze3,←hl];exact h4) (by rw[hk];exact⟨_,I',q⟩)
 ·have hk:(k+(its.toArray.size:Int)).toNat=j:=by
   rw[seqIndex_neg (by omega) h3] at h1
   rw[ze3,←hl]
   exact zg2 h1
  exact PySem.W.ki_setBack ho (by omega) (by rw[ze3,←hl];exact h3) (by omega) (by rw[hk];exact⟨_,I',q⟩)
theorem rR (lo hi:Option Int)(n:Nat):(sliceBounds lo hi none n).1=((HT.sIx n 0 lo:Nat):Int)∧(sliceBounds lo hi none n).2.1=((HT.sIx n n hi:Nat):Int)∧(sliceBounds lo hi none n).2.2=1:=by
 refine⟨?_,?_,rfl⟩
 ·cases lo with
  |none=>simp[sliceBounds,HT.sIx]
  |some i=>
   simp only[sliceBounds,HT.sIx,Option.getD_none,show (1:Int) > 0 by decide,zn7]
   by_cases h:i<0
   ·simp only[h,zn7]<;>omega
   ·simp only[h,if_false]<;>omega
 ·cases hi with
  |none=>simp[sliceBounds,HT.sIx]
  |some i=>
   simp only[sliceBounds,HT.sIx,Option.getD_none,show (1:Int) > 0 by decide,zn7]
   by_cases h:i<0
   ·simp only[h,zn7]<;>omega
   ·simp only[h,if_false]<;>omega
theorem sg (its:List Value)(lo hi:Option Int):slicePick its.toArray lo hi none=((its.drop (HT.sIx its.length 0 lo)).take (HT.sIx its.length its.length hi-HT.sIx its.length 0 lo)).toArray:=by
 obtain⟨h1,h2,h3⟩:=rR lo hi its.toArray.size
 unfold slicePick
 rw[h1,h2,h3]
 simp only[sliceRange_one,pick_run,ze3]<;>rfl
def za9 (K:PySem.W.Frag):V→Option Int→Option Int→Hp→VK→Prop:=fun x lo hi H Q=>∃a xs,x=.ref a∧SqL K H a xs∧∀p,H p=none→Q (.ref p) (upd H p (.lst (pA xs lo hi)))
theorem nN :SlR X (za9 X.K):=by
 intro pins s σ H x v vl vu lo hi sl Q I rx hs pl pu h
 obtain⟨a,xs,rfl,hx,q⟩:=h
 cases rx
 obtain⟨its,r,ht,hz⟩:=I.list hx
 have hlen:=r.length
 refine⟨"list",_,slot_list_getitem.lookup,ht.isList.typeIs,?_⟩
 refine wpAny_getItem_list_slice ht.isList hs pl pu .none (by simp) ?_ (by rw[ze3]<;>omega)
 rw[sg,←hlen]
 refine⟨.ref s.heap.objs.size,_,I.laid (t':=s.toks) (o:=.lst (pA xs lo hi)) (fun b ob q=>zd3 _ q) (zd6 _) ?_,rfl,q _ (I.hok.fresh (zd6 _))⟩
 exact⟨zi6 (qU xs lo hi) hz,_,0,(r.drop (HT.sIx xs.length 0 lo)).take (HT.sIx xs.length xs.length hi-HT.sIx xs.length 0 lo),ze1 _ rfl⟩
def wN :V→Bool
 |.non=>true
 |.bl _=>true
 |.int _=>true
 |.str _=>true
 |_=>false
def eqV :V→V→Bool
 |.non,.non=>true
 |.bl a,.bl b=>a == b
 |.bl a,.int b=>(if a then 1 else 0)==b
 |.int a,.bl b=>a == (if b then 1 else 0)
 |.int a,.int b=>a == b
 |.str a,.str b=>a == b
 |_,_=>false
theorem cS {A:Around}{s:Shared}{y x:V}{u v:Value}(ry:RelV y u)(rx:RelV x v)(fy:wN y=true)(fx:wN x=true):SeqAt.EqAt A s u v (eqV y x):=by
 cases y with
 |non=>
  cases ry
  cases x with
  |non=>cases rx;exact SeqAt.EqAt.same _
  |bl b=>cases rx;exact SeqAt.EqAt.none_bool b
  |int b=>obtain⟨t,rfl⟩:=rx;exact SeqAt.EqAt.none_int b t
  |str b=>obtain⟨t,rfl⟩:=rx;exact SeqAt.EqAt.none_str b t
  |_=>exact absurd (show false=true from fx) ze0
 |bl a=>
  cases ry
  cases x with
  |non=>cases rx;exact SeqAt.EqAt.bool_none a
  |bl b=>cases rx;exact SeqAt.EqAt.bool_bool a b
  |int b=>obtain⟨t,rfl⟩:=rx;exact SeqAt.EqAt.bool_int a b t
  |str b=>obtain⟨t,rfl⟩:=rx;exact SeqAt.EqAt.bool_str a b t
  |_=>exact absurd (show false=true from fx) ze0
 |int a=>
  obtain⟨t',rfl⟩:=ry
  cases x with
  |non=>cases rx;exact SeqAt.EqAt.int_none a t'
  |bl b=>cases rx;exact SeqAt.EqAt.int_bool a t' b
  |int b=>obtain⟨t,rfl⟩:=rx;exact SeqAt.EqAt.int_int a t' b t
  |str b=>obtain⟨t,rfl⟩:=rx;exact SeqAt.EqAt.int_str a t' b t
  |_=>exact absurd (show false=true from fx) ze0
 |str a=>
  obtain⟨t',rfl⟩:=ry
  cases x with
  |non=>cases rx;exact SeqAt.EqAt.str_none a t'
  |bl b=>cases rx;exact SeqAt.EqAt.str_bool a t' b
  |int b=>obtain⟨t,rfl⟩:=rx;exact SeqAt.EqAt.str_int a t' b t
  |str b=>obtain⟨t,rfl⟩:=rx;exact SeqAt.EqAt.str_str a t' b t
  |_=>exact absurd (show false=true from fx) ze0
 |_=>exact absurd (show false=true from fy) ze0
def eqU (x:V)(u:Value):Bool:=match u with
 |.none=>eqV .non x
 |.bool b=>eqV (.bl b) x
 |.int i _=>eqV (.int i) x
 |.str z _=>eqV (.str z) x
 |_=>false
theorem hJ {x y:V}{u:Value}(r:RelV y u)(f:wN y=true):eqU x u=eqV y x:=by
 cases y with
 |non=>cases r;rfl
 |bl b=>cases r;rfl
 |int i=>obtain⟨t,rfl⟩:=r;rfl
 |str z=>obtain⟨t,rfl⟩:=r;rfl
 |_=>exact absurd (show false=true from f) ze0
theorem qh {x:V}:∀{xs:List V} {us:List Value},Vals xs us→xs.all wN=true→us.any (eqU x)=xs.any fun y=>eqV y x
 |_,_,.nil,_=>rfl
 |y::xs,u::us,.cons r t,f=>by
  rw[zp8,ze9] at f
  rw[zl1,zl1,hJ r f.1,qh t f.2]
theorem tL {A:Around}{s:Shared}{x:V}{v:Value}(rx:RelV x v)(fx:wN x=true):∀{xs:List V} {us:List Value},Vals xs us→xs.all wN=true→∀u∈us,SeqAt.EqAt A s u v (eqU x u)
 |_,_,.nil,_=>fun u hu=>by cases hu
 |y::xs,u::us,.cons r t,f=>fun u' hu=>by
  rw[zp8,ze9] at f
  rcases zc9.mp hu with rfl|hu
  ·rw[hJ r f.1];exact cS r rx f.1 fx
  ·exact tL rx fx t f.2 u' hu
def inV (x:V)(xs:List V):Bool:=xs.any fun y=>eqV y x
def rIn (K:PySem.W.Frag)(neg:Bool):R2:=fun x y H Q=>∃p xs,y=.ref p∧(SqL K H p xs∨SqT K H p xs)∧wN x=true∧xs.all wN=true∧Q (.bl (if neg then !inV x xs else inV x xs)) H
theorem lB :OpR X (compareOp .In) (rIn X.K false):=by
 intro pins s σ H x y v u Q I rx ry h
 obtain⟨p,xs,rfl,hq,fx,fs,q⟩:=h
 cases ry
 rcases hq with hq|hq
 ·obtain⟨its,r,pl,hz⟩:=I.list hq
  refine SeqAt.in_listAt (eqU x) pl.isList (fun w hw=>tL rx fx r fs w (by simpa using hw)) ⟨.bl _,H,I,rfl,?_⟩
  rw[show its.toArray.any (eqU x)=its.any (eqU x) by simp,qh r fs]
  exact q
 ·obtain⟨its,r,pl,hz⟩:=I.tuple hq
  refine SeqAt.in_tupleAt (eqU x) pl (fun w hw=>tL rx fx r fs w (by simpa using hw)) ⟨.bl _,H,I,rfl,?_⟩
  rw[show its.toArray.any (eqU x)=its.any (eqU x) by simp,qh r fs]
  exact q
theorem xD :xZ X (.builtin "len") (fun xs H Q=>∃p ys,xs=[.ref p]∧(SqL X.K H p ys∨SqT X.K H p ys)∧Q (.int ys.length) H):=by
 intro pins s σ H xs us Q I r h
 obtain⟨p,ys,rfl,hq,q⟩:=h
 obtain⟨u,rfl,rx⟩:=vals1 r
 cases rx
 have hn:=vP
 rcases hq with hq|hq
 ·obtain⟨its,r',pl,hz⟩:=I.list hq
  have hlen:=r'.length
  exact Calls.call_len_list pl.isList (by simp only[ze3]<;>omega) ⟨.int ys.length,H,I.tok _,⟨s.toks+1,by rw[ze3,hlen]⟩,q⟩
 ·obtain⟨its,r',pl,hz⟩:=I.tuple hq
  have hlen:=r'.length
  exact len_tuple pl (by simp only[ze3]<;>omega) ⟨.int ys.length,H,I.tok _,⟨s.toks+1,by rw[ze3,hlen]⟩,q⟩
def tyV (K:PySem.W.Frag)(T:String)(x:V)(H:Hp):Prop:=match x with
 |.str _=>T="str"
 |.int _=>T="int"
 |.ref p=>(T="list"∧∃xs,SqL K H p xs)∨(T="tuple"∧∃o,K.lookup p=some o∧o.cls=.type "tuple"∧o.dict=none)∨
   (T="dict"∧((∃kvs,H p=some (.dK kvs))∨∃kvs,H p=some (.dT kvs)))∨(T="set"∧∃S n,H p=some (.set S n))
 |_=>False
theorem ba {pins:List (Addr×Obj)}{σ:St}{H:Hp}{s:Shared}{T:String}{x:V}{v:Value}(I:Inv X pins σ H s)(r:RelV x v)(ty:tyV X.K T x H):
  s.TypeIs v T∧∀a,v=.ref a→∃ob,s.heap.get? a=some ob∧ob.dict=none:=by
 cases x with
 |str z=>
  obtain⟨t,rfl⟩:=r
  cases (show T="str" from ty)
  exact⟨typeIs_str s z t,fun _ e=>nomatch e⟩
 |int i=>
  obtain⟨t,rfl⟩:=r
  cases (show T="int" from ty)
  exact⟨typeIs_int s i t,fun _ e=>nomatch e⟩
 |ref p=>
  cases r
  rcases ty with ⟨rfl,xs,hq⟩|⟨rfl,o,hk,hc,hd⟩|⟨rfl,hk⟩|⟨rfl,S,n,hk⟩
  ·obtain⟨its,_,pl,_⟩:=I.list hq
   refine⟨pl.isList.typeIs,fun a e=>?_⟩
   cases e
   obtain⟨o,n,e,c,hd,_⟩:=pl
   exact⟨o,e,hd⟩
  ·refine⟨⟨o,I.kIn p o hk,hc⟩,fun a e=>?_⟩
   cases e
   exact⟨o,I.kIn _ o hk,hd⟩
  ·have z:∃o,s.heap.get? p=some o∧o.ExactDict:=by
    rcases hk with ⟨kvs,hk⟩|⟨kvs,hk⟩
    ·obtain⟨_,_,_,_,o,_,_,e,ex,_⟩:=I.hok p _ hk
     exact⟨o,e,ex⟩
    ·obtain⟨_,_,_,_,o,_,_,e,ex,_⟩:=I.hok p _ hk
     exact⟨o,e,ex⟩
   obtain⟨o,e,ex⟩:=z
   refine⟨⟨o,e,ex.1⟩,fun a e2=>?_⟩
   cases e2
   exact⟨o,e,ex.2.1⟩
  ·obtain⟨o,_,_,_,e,ex,_⟩:=I.hok p _ hk
   refine⟨⟨o,e,ex.1⟩,fun a e2=>?_⟩
   cases e2
   exact⟨o,e,ex.2.1⟩
 |_=>exact False.elim ty
def tBM (K:PySem.W.Frag)(T:String)(r:V→List V→Hp→VK→Prop)(to:TE)(t:TA):TE:=fun σ H Q=>to σ H fun x H1=>tyV K T x H1∧t σ H1 fun xs H2=>r x xs H2 Q
variable {o e:Expr}{es:List Expr}{to:TE}{t:TA}{name:Str}{apos cpos:Pos}{T id:String}{r:V→List V→Hp→VK→Prop}
theorem iV (pa:PlainAttrs T)(slot:Slot T name id)(hty:typeOf (.builtin id)=pure (.type "method_descriptor"))(hm:MtR X id r)(ho:PE X o to)(ha:PA X (e::es) t)
  (hbase:attributeBase o name X.env (eval o X.env)=eval o X.env:=by rfl)
  (hfew:((backTo cpos (starEach (e::es) X.env)).all (fun x=>!x.1)&&(backToKw cpos (keywordEach [] X.env)).all (fun x=>x.1.isSome)
   &&decide ((e::es).length+([]:List Keyword).length+(if ([]:List Keyword).isEmpty then 0 else 1)<30))=true:=by rfl)
  (hline:(apos.endLine == cpos.line)=true:=by rfl) (hs:starEach (e::es) X.env=(false,eval e X.env)::starEach es X.env:=by rfl) (hplain:(backTo cpos (starEach es X.env)).any (·.1)=false:=by rfl):
  PE X (.Call (.Attribute o name apos) (e::es) [] cpos) (tBM X.K T r to t):=by
 intro pins s σ H Q I h
 refine wpAny_Call_method_late hbase hfew hline rfl (thn (ho pins s σ H _ I h) fun v s1 ⟨x,H1,I1,r1,ty,q1⟩=>?_)
 obtain⟨h1,h2⟩:=ba I1 r1 ty
 refine⟨T,id,pa,slot,hty,h1,h2,?_⟩
 have hA:=ha cpos pins s1 σ H1 _ I1 q1
 rw[hs] at hA ⊢
 refine Calls.callWith_builtin (by show (false||(backTo cpos (starEach es X.env)).any (·.1))=false;rw[hplain]<;>rfl) (Calls.evalArgs_plain ?_)
 exact thn hA fun us s2 ⟨vs,H2,I2,r2,q2⟩=>hm pins s2 σ H2 x vs v us Q I2 r1 r2 q2
/- xs.append(e),list.index on a module's tuple .. are MtR facts of 06m -/
end
def MtM (X:Cx)(id:String)(r:V→List V→Hp→VK→Prop):Prop:=
 ∀(pins:List (Addr×Obj)) (s:Shared) (σ:St) (H:Hp) (x:V) (xs:List V) (v:Value) (us:List Value) (Q:VK),Inv X pins σ H s→RelV x v→Vals xs us→r x xs H Q→
  wpAny (model X.prog X.w) X.A (call (.builtin id) (v::us)) (EP X pins σ Q) X.xe s
theorem Vals.one :∀{x:V} {us:List Value},Vals [x] us→∃u,us=[u]∧RelV x u
 |_,_,.cons r .nil=>⟨_,rfl,r⟩
theorem Vals.two :∀{x y:V} {us:List Value},Vals [x,y] us→∃u v,us=[u,v]∧RelV x u∧RelV y v
 |_,_,_,.cons r (.cons q .nil)=>⟨_,_,rfl,r,q⟩
section
variable {X:Cx}{pins:List (Addr×Obj)}{σ:St}{H:Hp}{s:Shared}{l b:Addr}{xs ys zs:List V}
theorem Inv.lset {its its':List Value}{n:Nat}{f:Array Value→Array Value}{t':Nat}(I:Inv X pins σ H s)(hH:H l=some (.lst xs))
  (e:s.heap.get? l=some {cls:=.type "list",data:=.seq its.toArray n}) (hf:f its.toArray=its'.toArray) (hv:Vals ys its') (hz:ys.length≤sizeLine):
  Inv X pins σ (upd H l (.lst ys)) {s with heap:=s.heap.update l (Obj.mapSeq f),toks:=t'}:=by
 have q:=PySem.IsL.update e f
 rw[hf] at q
 refine I.write (x:=l) (e:=l) (by rw[hH];exact trivial) (.inl rfl) (fun b' u hb hu=>(zl5 s.heap (Obj.mapSeq f) (zl9 hb)).trans hu) ⟨_,q⟩ ?_
 exact⟨hz,its',_,hv,q⟩
theorem Inv.lnew {its:List Value}{t':Nat}(I:Inv X pins σ H s)(hv:Vals ys its)(hz:ys.length≤sizeLine):
  Inv X pins σ (upd H s.heap.objs.size (.lst ys)) {s with heap:=s.heap.push {cls:=.type "list",data:=.seq its.toArray},toks:=t'}:=
 I.laid (fun _ _ q=>zd3 _ q) (zd6 _) ⟨hz,its,0,hv,ze1 _ rfl⟩
theorem Inv.fresh (I:Inv X pins σ H s):H s.heap.objs.size=none:=I.hok.fresh (zd6 _)
theorem Inv.lstM (I:Inv X pins σ H s)(hH:H l=some (.lst xs)):xs.length≤sizeLine∧∃(its:List Value) (n:Nat),Vals xs its∧xs.length=its.length∧s.heap.get? l=some {cls:=.type "list",data:=.seq its.toArray n}:=by
 obtain⟨z,its,n,r,e⟩:=I.hok l _ hH
 exact⟨z,its,n,r,r.length,e⟩
theorem jY {n:Nat}(h:n≤sizeLine):Builtin.List.listTooLong n=false:=by
 unfold Builtin.List.listTooLong
 exact zf5 (by omega)
end
section
variable {X:Cx}
def fU :V→List V→Hp→VK→Prop:=fun x vs H Q=>∃l xs y,x=.ref l∧vs=[y]∧H l=some (.lst xs)∧xs.length<sizeLine∧Q .non (upd H l (.lst (xs++[y])))
theorem si :MtM X "list.append" fU:=by
 intro pins s σ H x vs v us Q I rx rv h
 obtain⟨l,xs,y,rfl,rfl,hH,hz,q⟩:=h
 cases rx
 obtain⟨u,rfl,ru⟩:=rv.one
 obtain⟨z,its,n,r,hl,e⟩:=I.lstM hH
 refine call_meets F.slot_list_append ⟨_,e,rfl⟩ F.entry_list_append (F.args_list_append_2 _ _) (PySem.list_append l its.toArray n u (by rw[ze3];omega)) ⟨e,?_⟩
 refine⟨.non,_,I.lset (its':=its++[u]) hH e (by simp) (r.append (.cons ru .nil)) ?_,rfl,q⟩
 rw[zf1,List.length_singleton]
 omega
def fe :V→List V→Hp→VK→Prop:=fun x vs H Q=>∃l b xs zs,x=.ref l∧vs=[.ref b]∧H l=some (.lst xs)∧H b=some (.lst zs)∧xs.length+zs.length≤sizeLine∧Q .non (upd H l (.lst (xs++zs)))
theorem lI :MtM X "list.extend" fe:=by
 intro pins s σ H x vs v us Q I rx rv h
 obtain⟨l,b,xs,zs,rfl,rfl,hH,hB,hz,q⟩:=h
 cases rx
 obtain⟨u,rfl,ru⟩:=rv.one
 cases ru
 obtain⟨z,its,n,r,hl,e⟩:=I.lstM hH
 obtain⟨z2,its2,n2,r2,hl2,e2⟩:=I.lstM hB
 have hsz:its.toArray.size+its2.toArray.size≤sizeLine:=by rw[ze3,ze3];omega
 have hlong:¬(!its.toArray.isEmpty&&Builtin.List.listTooLong (its.toArray.size+its2.toArray.size))=true:=by
  rw[jY hsz,Bool.and_false]
  exact ze0
 refine call_meets F.slot_list_extend ⟨_,e,rfl⟩ F.entry_list_extend (F.args_list_extend_2 _ _)
  (AutoSeq1.list_extend_list_list_0 l its.toArray n b its2.toArray n2 hlong (by rw[ze3];omega) (by omega)) ⟨e,e2,?_⟩
 refine⟨.non,_,I.lset (its':=its++its2) hH e (by simp) (r.append r2) ?_,rfl,q⟩
 rw[zf1]
 omega
def za6 :R2:=fun x y H Q=>∃l b xs zs,x=.ref l∧y=.ref b∧H l=some (.lst xs)∧H b=some (.lst zs)∧xs.length+zs.length≤sizeLine∧∀p,H p=none→Q (.ref p) (upd H p (.lst (xs++zs)))
theorem ju :OpR X (binaryOp .Add) za6:=by
 intro pins s σ H x y v u Q I rx ry h
 obtain⟨l,b,xs,zs,rfl,rfl,hH,hB,hz,q⟩:=h
 cases rx
 cases ry
 obtain⟨z,its,n,r,hl,e⟩:=I.lstM hH
 obtain⟨z2,its2,n2,r2,hl2,e2⟩:=I.lstM hB
 refine PySem.P.add_list e e2 ?_ (by rw[ze3,ze3];omega)
 have ea:its.toArray++its2.toArray=(its++its2).toArray:=by simp
 rw[ea]
 exact⟨.ref _,_,I.lnew (t':=s.toks) (r.append r2) (by rw[zf1];omega),rfl,q _ I.fresh⟩
end
section
variable {prog:Program}{w:World}{A:Around}{E:Value→Shared→Prop}{s:Shared}
end
section
variable {X:Cx}
end
end L2
namespace Att
open PySem PySem.W PySem.Calls PyProof.Rows
theorem uw {P:Params}{h:Heap}:∀(ns:List Int) (vs:List Value),WellAll P h vs (ns.map WData.int)→IntsAre vs ns:=by
 intro ns
 induction ns with
 |nil=>
  intro vs w
  rw[List.map_nil] at w
  cases w
  exact .nil
 |cons n ns ih=>
  intro vs w
  rw[zg0] at w
  cases w with
  |cons a b=>
   cases a
   exact .cons _ _ (ih _ b)
theorem mM {l:OpenLaw}{n:Nat}(hn:l.most=some n){P:Params}{h:Heap}{args:List WData}{vals:List Value}
  (hpre:l.row.toRowW.claim.pre args=true) (hwl:WellAll P h vals args):
  ∃a vs ns,vals=[Value.ref a]∧args=[WData.list (ns.map WData.int)]∧h.get? a=some {cls:=.type "list",data:=.seq vs.toArray}∧IntsAre vs ns∧ns.length≤n:=by
 have hsh:WShape.hasAll [] args [.list .int]=true:=(pre_splitW hpre).1
 have hc:l.pre.holds [] {args:=args}=true:=(pre_splitW hpre).2
 obtain⟨d,r,rfl,h1,h2⟩:=hasAllW_cons hsh
 obtain rfl:=hasAllW_nil h2
 obtain⟨xs,rfl,h3⟩:=hasW_list h1
 obtain⟨ns,rfl⟩:=items_int h3
 have hlen:ns.length≤n:=by
  unfold OpenLaw.pre at hc
  have h4:(WTm.not (.lt (.lit (.int (n:Int))) (.len (.arg 0)))).holds [] {args:=[.list (ns.map .int)]}=true:=by
   have h4:=(holds_andW hc).1
   rw[hn] at h4
   exact h4
  have h5:=condW_of h4 (w_not (w_lt w_lit (w_len_list (w_arg rfl))))
  rw[zd5] at h5
  refine Nat.le_of_not_lt fun q=>?_
  have q':(n:Int)<((ns.length:Nat):Int):=by omega
  first
   |(rw[zh0 q'] at h5;exact absurd h5 (by decide))
   |(simp at h5;omega)
 cases hwl with
 |cons w1 w2=>
  cases w2
  cases w1 with
  |list ho hall=>exact⟨_,_,ns,rfl,rfl,ho,uw ns _ hall,hlen⟩
theorem lZ (l:OpenLaw)(args:List WData):l.row.toRowW.claim.post args (.bool true) args=true:=
 postW_of (r:=l.row.toRowW) (X:=(true == true))
  (show WShape.has [] (.bool true) .bool=true by first|rfl|decide|simp[WShape.has,WShape.arms,WShape.armsAll])
  (show (WTm.eq .res (.lit (.bool true))).value [] {args:=args,res:=some (.bool true),after:=args}=some (.bool (true == true)) from w_eq_bool (w_res rfl) w_lit) rfl
theorem attach_call {l:OpenLaw}{n:Nat}{q:Program}{loose:List Str}{XP:(Str→Option Value)→Heap→Prop}{YP:World→Heap→Prop}{d:DefRec}
  (hn:l.most=some n) (hdf:d.params.defaults=[])
  (call:∀(w:World) (s₀ s₁:Shared) (mg mb:Str→Option Value) (fa:Addr) (o:Obj) (pm cd doc:Value) (a:Addr) (vs:List Value) (ns:List Int),
   Ground q loose [] XP w s₀ mg mb s₁.heap→YP w s₁.heap→
   s₁.heap.get? fa=some o→o.data=.func (docDef d.name d.params d.body d.scope pm cd doc)→s₁.heap.CodeRec cd d.name→mg d.name=some (.ref fa)→
   s₁.heap.get? a=some {cls:=.type "list",data:=.seq vs.toArray}→IntsAre vs ns→ns.length≤n→s₁.gens=#[]→
   codeAny (model l.prog w) callerA (.call (.ref fa) ⟨[.ref a],[]⟩) (fun r s'=>r=.ok (.ret (.bool true))∧OldK s₁.heap s'.heap∧s'.os=s₁.os∧AllBare s'.gens) s₁):
  WalkO q loose XP YP l.row.toRowW d [] (fun f vs=>PySem.call f vs):=by
 intro w s₀ s₁ mg mb G Y fa o pm cd doc dV kV ho hd hcd hD hmg hg args vals as hpre hlay hrd hwl hlo
 obtain rfl:dV=.none:=Dflts.none hD hdf
 obtain rfl:kV=.none:=Dflts.noKw hD
 obtain⟨a,vs,ns,rfl,rfl,hobj,hints,hlen⟩:=mM hn hpre hwl
 refine enter_call (zn3 (call w s₀ s₁ mg mb fa o pm cd doc a vs ns G Y ho (fd_plain hd) hcd hmg hobj hints hlen hg) fun r s' hq=>?_)
 obtain⟨rfl,h2,h3,h4⟩:=hq
 exact⟨.inl ⟨.bool true,.bool true,[],rfl,fun _=>rfl,.bool true,lZ l _,fun _=>⟨List.Pairwise.nil,fun _ hm=>(nomatch hm)⟩⟩,h2,h3,h4⟩
section
variable {prog:Program}{w:World}{A:Around}{E:Value→Shared→Prop}{s:Shared}{K:Frag}
end
end Att
namespace L2
open PySem PySem.Spec PyProof.Rows
theorem sS :∀{vs:List Value} {ns:List Int},IntsAre vs ns→Vals (ns.map V.int) vs
 |_,_,.nil=>.nil
 |_,_,.cons n t h=>.cons ⟨t,rfl⟩ (sS h)
def cb (H:Hp):Prop:=∀b,H b=none∨∃o xs,H b=some (.frz o (.lst xs))
theorem jR {P:Program}{w:World}{K:PySem.W.Frag}{mg mb:Str→Option Value}{CX:CXT}{k:Nat}{fa a:Addr}{fd:FuncData}{x:Str}{sp:Sp}{s₁:Shared}{vs:List Value}{ns:List Int}
  (KX:K.In s₁.heap) (hns:s₁.heap.Ns mainGlobals mg) (hb:s₁.heap.Ns builtinsNs mb) (hbb:∀x:Str,x≠"__name__"→mb x=bootBuiltins x) (hlim:s₁.heap.NoLimit) (hg:s₁.gens=#[])
  (ha:s₁.heap.get? a=some {cls:=.type "list",data:=.seq vs.toArray}) (hi:IntsAre vs ns) (hl:ns.length≤sizeLine) (hr:zR k callerA)
  (F:∀base:Heap,K.In base→base.Ns mainGlobals mg→zB P w K mg base CX k fa fd [x] sp) (hbind:∀(s:Shared) (u:Value),BindsTo s fd ⟨[u],[]⟩ [(x,u)])
  (hsp:∀H:Hp,cb H→SqL K H a (ns.map V.int)→sp [.ref a] H (fun v _=>v=.bl true) fun _ _ _=>False)
  (hCX:∀H e s',CX [] H s₁ (fun _ _ _=>False) e s'→False):
  codeAny (model P w) callerA (.call (.ref fa) ⟨[.ref a],[]⟩) (fun r s'=>r=.ok (.ret (.bool true))∧OldK s₁.heap s'.heap∧s'.os=s₁.os∧AllBare s'.gens) s₁:=by
 have rv:=sS hi
 have lenV:=hi.length
 -- from an abstract heap in which nothing but the script may be tracked
 have core:∀H:Hp,cb H→SqL K H a (ns.map V.int)→HOk P w H s₁.heap→(∀b,H b≠none→b=a)→(H a≠none→K.lookup a=none)→
   codeAny (model P w) callerA (.call (.ref fa) ⟨[.ref a],[]⟩) (fun r s'=>r=.ok (.ret (.bool true))∧OldK s₁.heap s'.heap∧s'.os=s₁.os∧AllBare s'.gens) s₁:=by
  intro H hO hS hok hA hK
  have base_of:∀{b:Addr} {o:Obj},s₁.heap.get? b=some o→H b=none→(rq s₁.heap H).get? b=some o:=fun e n=>jf e n
  have noA:∀{b:Addr} {o:Obj} {es:Array DictEntry} {ep:Nat},s₁.heap.get? b=some o→o.data=.dict es ep→H b=none:=fun {b o es ep} e d=>by
   cases q:H b with
   |none=>rfl
   |some u=>
    have e':b=a:=hA b (by rw[q];simp)
    subst e'
    rw[ha] at e;cases e
    have d':Data.seq vs.toArray _=Data.dict es ep:=d
    cases d'
  have nsK:∀{b:Addr} {m:Str→Option Value},s₁.heap.Ns b m→(rq s₁.heap H).Ns b m:=fun {b m} ⟨o,es,ep,e,d,r⟩=>⟨o,es,ep,base_of e (noA e d),d,r⟩
  have hKb:K.In (rq s₁.heap H):=fun b o e=>base_of (KX b o e) (by
   cases q:H b with
   |none=>rfl
   |some u=>
    have e':b=a:=hA b (by rw[q];simp)
    subst e'
    rw[hK (by rw[q];simp)] at e;cases e)
  have hM:Mod K mg (rq s₁.heap H):=⟨hKb,nsK hns,⟨mb,nsK hb,hbb⟩,let ⟨mc,h1,h2⟩:=hlim;⟨mc,nsK h1,h2⟩⟩
  have e0:pS P w K mg (rq s₁.heap H) callerA [] s₁ H:=⟨rfl,hM,fun b o e=>eF e,Nat.le_of_eq (mT _ _),trivial,fun b hb=>absurd (show b∈([]:List Addr) from hb) (by simp),hok,.of_eq hg⟩
  refine zn3 ((F _ hKb (nsK hns)).run callerA [] s₁ H ⟨[.ref a],[]⟩ [.ref a] [.ref a] _ _ hr e0 (hbind s₁ (.ref a)) (.cons rfl .nil) (hsp H hO hS)) fun r s' h=>?_
  cases r with
  |error e=>exact (hCX H e s' h).elim
  |ok fl=>
   cases fl with
   |next=>exact False.elim h
   |brk=>exact False.elim h
   |cont=>exact False.elim h
   |ret u=>
    obtain⟨v,H',os,bare,un,hok',r',q⟩:=h
    have q':v=.bl true:=q
    subst q'
    obtain rfl:u=Value.bool true:=r'
    refine⟨rfl,OldK.of_keep fun b o e=>?_,os,bare⟩
    cases q:H b with
    |none=>exact un.keep b o e q (by intro z;exact absurd (show b∈([]:List Addr) from z) (by simp)) (by simp)
    |some u=>
     rcases hO b with z|⟨ob,xs,z⟩
     ·rw[q] at z;cases z
     ·have z2:=un.frzs b ob _ z
      obtain⟨e1,_⟩:=hok b _ z
      obtain⟨e2,_⟩:=hok' b _ z2
      rw[e] at e1;cases e1
      exact e2
 cases hk:K.lookup a with
 |some o=>
  -- the script is one of the module's own objects
  have e:=KX a o hk
  rw[ha] at e
  cases e
  refine core (fun _=>none) (fun _=>.inl rfl) (.inr ⟨_,vs.toArray,_,hk,rfl,rfl,rfl,by rw[ze3,lenV];exact hl,by simpa using rv⟩) (fun b u z=>by have z':(none:Option HO)=some u:=z;cases z') (fun b z=>absurd rfl z) fun z=>absurd rfl z
 |none=>
  refine core (fun b=>if b=a then some (.frz {cls:=.type "list",data:=.seq vs.toArray} (.lst (ns.map V.int))) else none) (fun b=>?_) (.inl (.inr ⟨{cls:=.type "list",data:=.seq vs.toArray},if_pos rfl⟩)) (fun b u z=>?_) (fun b z=>?_) fun _=>hk
  ·by_cases hb:b=a
   ·exact .inr ⟨_,_,if_pos hb⟩
   ·exact .inl (if_neg hb)
  ·by_cases hb:b=a
   ·have z':=(if_pos hb).symm.trans z
    cases z'
    subst hb
    exact⟨ha,by rw[zd5];exact hl,vs,_,rv,ha⟩
   ·have z':=(if_neg hb).symm.trans z
    cases z'
  ·by_cases hb:b=a
   ·exact hb
   ·exact absurd (if_neg hb) z
theorem gW {l:PySem.W.OpenLaw}{n k:Nat}{q:Program}{loose:List Str}{XP:(Str→Option Value)→Heap→Prop}{YP:World→Heap→Prop}{d:DefRec}{K:Params→PySem.W.Frag}{CX:World→CXT}{sp:World→Sp}{x:Str}
  (hn:l.most=some n) (hn2:n≤sizeLine) (hdf:d.params.defaults=[]) (hr:zR k callerA)
  (hY:∀(w:World) (h:Heap),YP w h→(K w.params).In h)
  (F:∀(w:World) (mg:Str→Option Value) (fa:Addr) (h:Heap),(K w.params).In h→h.Ns mainGlobals mg→mg d.name=some (.ref fa)→
   ∃fd:FuncData,(∀(s:Shared) (u:Value),BindsTo s fd ⟨[u],[]⟩ [(x,u)])∧
    ∀base:Heap,(K w.params).In base→base.Ns mainGlobals mg→zB l.prog w (K w.params) mg base (CX w) k fa fd [x] (sp w))
  (hsp:∀(w:World) (H:Hp) (a:Addr) (ns:List Int),ns.length≤n→cb H→SqL (K w.params) H a (ns.map V.int)→sp w [.ref a] H (fun v _=>v=.bl true) fun _ _ _=>False)
  (hCX:∀(w:World) (H:Hp) (s:Shared) (e:Value) (s':Shared),CX w [] H s (fun _ _ _=>False) e s'→False):
  PySem.W.WalkO q loose XP YP l.row.toRowW d [] (fun f vs=>PySem.call f vs):=by
 refine Att.attach_call hn hdf fun w s₀ s₁ mg mb fa o pm cd doc a vs ns G Y ho hd hcd hmg hobj hints hlen hg=>?_
 have KX:=hY w _ Y
 obtain⟨fd,hb,hF⟩:=F w mg fa _ KX G.T.g hmg
 exact jR KX G.T.g G.T.b G.T.builtins G.T.nolimit hg hobj hints (zi6 hlen hn2) hr hF hb (fun H hO hS=>hsp w H a ns hlen hO hS) fun H e s'=>hCX w H s₁ e s'
def inClass (s:Stmt)(j:Nat):Stmt:=match s with
 |.ClassDef _ _ _ body _ _ _ _ _ _ _=>body.getD j (.Pass ⟨0,0,0,0⟩)
 |_=>.Pass ⟨0,0,0,0⟩
def ya (s:Stmt):Arguments:=match s with
 |.FunctionDef _ a _ _ _ _ _ _ _ _=>a
 |_=>{posonlyargs:=[],args:=[],vararg:=none,kwonlyargs:=[],kw_defaults:=[],kwarg:=none,defaults:=[]}
def zG (s:Stmt):List Stmt:=match s with
 |.FunctionDef _ _ b _ _ _ _ _ _ _=>b
 |_=>[]
def zc (s:Stmt):Scope:=match s with
 |.FunctionDef _ _ _ _ _ _ sc _ _ _=>sc
 |_=>{kind:=.function,names:=[],isGenerator:=false,isCoroutine:=false}
abbrev CX0 :CXT:=fun _ _ _ _ _ _=>False
abbrev E0 :XK:=fun _ _ _=>False
theorem zP {X:Cx}:Passes CX0 X E0:=fun _ _ _ _ _ _ _ h=>h.elim
structure Fun (K:PySem.W.Frag)(x qual:Str)(st:Stmt)(f:Addr)(fd:FuncData):Prop where
 ex:∃(oc:Value) (od:Option Addr) (kV doc pm:Value) (an:Option Addr) (cdv ct:Value) (osl:Array (Option Value)),
  fd=PySem.W.fnOf x qual (ya st) (zG st) (zc st) .none kV doc pm an cdv ct∧K.lookup f=some ⟨oc,od,.func fd,osl⟩∧PySem.W.codeIn K cdv qual=true
 kp:PySem.W.keepIn K (.ref f)=true
section
variable {P:Program}{w:World}{K:PySem.W.Frag}{mg:Str→Option Value}{base:Heap}
theorem Fun.ok {x qual:Str}{st:Stmt}{f:Addr}{fd:FuncData}{N ps:List Str}{k:Nat}{sp:Sp}(F:Fun K x qual st f fd)(S:zl N ps (zc st))(len:∀vs H Q E,sp vs H Q E→vs.length=ps.length)
  (hbody:∀(cdv:Value) (A:Around) (outer:List Env) (s:Shared) (H:Hp) (vs:List V) (Q:VK) (E:XK),zR k (A.deeper (envOfC qual (zc st) s.heap.objs.size f cdv))→sp vs H Q E→
   ∃t,PSs (uv CX0 P w K mg base N qual (zc st) f cdv A outer s H E).nox (zG st) t∧t {nx:=fun _ H'=>Q .non H',rt:=Q} (start N vs) H):zB P w K mg base CX0 (k+1) f fd ps sp:=by
 obtain⟨oc,od,kV,doc,pm,an,cdv,ct,osl,rfl,lk,hcd⟩:=F.ex
 refine eV lk hcd S len fun A outer s H vs Q E hr hsp=>?_
 obtain⟨t,h,q⟩:=hbody cdv A outer s H vs Q E hr hsp
 exact⟨t,h.nox,q⟩
theorem Fun.binds {x qual:Str}{st:Stmt}{f:Addr}{fd:FuncData}{ps:List Str}(F:Fun K x qual st f fd)
  (h:∀(kV doc pm:Value) (an:Option Addr) (cdv ct:Value) (us:List Value),us.length=ps.length→bindArgs (PySem.W.fnOf x qual (ya st) (zG st) (zc st) .none kV doc pm an cdv ct) ⟨us,[]⟩=pure (ps.zip us)):Binds K fd ps []:=by
 obtain⟨oc,od,kV,doc,pm,an,cdv,ct,osl,rfl,lk,hcd⟩:=F.ex
 exact .all (h kV doc pm an cdv ct)
theorem jt {x qual:Str}{st:Stmt}{f:Addr}{oc:Value}{od an:Option Addr}{osl:Array (Option Value)}{kV doc pm cdv ct:Value}(l:K.lookup f=some ⟨oc,od,.func (PySem.W.fnOf x qual (ya st) (zG st) (zc st) .none kV doc pm an cdv ct),osl⟩)
  (c:PySem.W.codeIn K cdv qual=true) (k:PySem.W.keepIn K (.ref f)=true):Fun K x qual st f (PySem.W.fnOf x qual (ya st) (zG st) (zc st) .none kV doc pm an cdv ct):=⟨⟨oc,od,kV,doc,pm,an,cdv,ct,osl,rfl,l,c⟩,k⟩
end
theorem yB {n:Nat}(h:n≤1000):n<sizeLine:=Nat.lt_of_le_of_lt h (by decide)
section
variable {X:Cx}
theorem pv (i:Nat){x:Str}{pos:Pos}(hN:X.N[i]?=some x:=by rfl)(hv:Vis X.env.scope x:=by first|exact Or.inl rfl|exact Or.inr (Or.inl rfl)|exact Or.inr (Or.inr rfl))(hd:(x == ("__debug__":Str))=false:=by decide)
  (hcd:(x == ("__classdict__":Str))=false:=by decide):PE X (.Name x pos) (bL i):=xF hN hv hd hcd
end
theorem uP {A B:Prop}(h:B):if false=true then A else B:=by
 rw[if_neg ze0]
 exact h
theorem ux {A B:Prop}(h:A):if true=true then A else B:=by
 rw[if_pos rfl]
 exact h
theorem yu {c A B:Prop}[Decidable c](h1:c→A)(h2:¬c→B):if c then A else B:=by
 by_cases h:c
 ·rw[if_pos h]
  exact h1 h
 ·rw[if_neg h]
  exact h2 h
def zx (H H':Hp):Prop:=∀b o,H b=some o→H' b=some o
theorem zx.refl (H:Hp):zx H H:=fun _ _ h=>h
theorem zx.trans {H H1 H2:Hp}(a:zx H H1)(b:zx H1 H2):zx H H2:=fun c o h=>b c o (a c o h)
theorem zx.free {H H':Hp}(e:zx H H'){l:Addr}(h:H' l=Option.none):H l=Option.none:=by
 cases q:H l with
 |none=>rfl
 |some o=>
  rw[e l o q] at h
  cases h
def wR (cells:List (Str×Addr)):List (Str×NameKind)→List (Str×Addr)→List (Str×Addr)
 |[],acc=>acc
 |(n,k)::r,acc=>wR cells r (if k=.free then (n,(cells.lookup n).getD 0)::acc else acc)
theorem wL {env:Env}{scope:Scope}(h:∀y∈scope.names,y.2=.free→∃c,env.cells.lookup y.1=some c):
  closureFor scope env=pure (wR env.cells scope.names []):=by
 have key:∀(ns:List (Str×NameKind)) (acc:List (Str×Addr)),(∀y∈ns,y.2=.free→∃c,env.cells.lookup y.1=some c)→
   (forIn ns acc fun (x:Str×NameKind) (r:List (Str×Addr))=>(if (x.2 == NameKind.free)=true then (do let a ←cellOf env x.1;pure (ForInStep.yield ((x.1,a)::r))) else pure (ForInStep.yield r):Sem (ForInStep (List (Str×Addr)))))=pure (wR env.cells ns acc):=by
  intro ns
  induction ns with
  |nil=>intro acc _;rfl
  |cons y r ih=>
   intro acc hy
   obtain⟨n,k⟩:=y
   rw[List.forIn_cons]
   have hr:∀z∈r,z.2=.free→∃c,env.cells.lookup z.1=some c:=fun z hz=>hy z (zd2 _ hz)
   by_cases hk:k=.free
   ·subst hk
    obtain⟨c,hc⟩:=hy (n,.free) zd7 rfl
    have e1:cellOf env n=pure c:=by
     unfold cellOf
     rw[hc]
    have e2:((NameKind.free == NameKind.free)=true):=rfl
    simp only[e2,zn7,e1,pure_bind]
    rw[ih _ hr]
    show _=pure (wR env.cells r (if NameKind.free=NameKind.free then (n,(env.cells.lookup n).getD 0)::acc else acc))
    rw[if_pos rfl,hc]
    rfl
   ·have e2:(k == NameKind.free)=false:=by simpa using hk
    simp only[e2,Bool.false_eq_true,if_false,pure_bind]
    rw[ih _ hr]
    show _=pure (wR env.cells r (if k=NameKind.free then (n,(env.cells.lookup n).getD 0)::acc else acc))
    rw[if_neg hk]
 have q:=key scope.names [] h
 unfold closureFor
 simp only[] at q ⊢
 rw[show (forIn scope.names ([]:List (Str×Addr)) fun (x:Str×NameKind) (r:List (Str×Addr))=>_)=_ from q]
 rfl
theorem pC {cells:List (Str×Addr)}:∀(ns:List (Str×NameKind)) (acc:List (Str×Addr)),(∀y∈ns,y.2=.free→∃c,cells.lookup y.1=some c)→
  ∀x c,(x,c)∈wR cells ns acc→(x,c)∈acc∨((x,NameKind.free)∈ns∧cells.lookup x=some c)
 |[],acc,_,x,c,h=>.inl h
 |(n,k)::r,acc,hy,x,c,h=>by
  have hr:∀z∈r,z.2=.free→∃c,cells.lookup z.1=some c:=fun z hz=>hy z (zd2 _ hz)
  have h':(x,c)∈wR cells r (if k=.free then (n,(cells.lookup n).getD 0)::acc else acc):=h
  rcases pC r _ hr x c h' with q|⟨q1,q2⟩
  ·by_cases hk:k=.free
   ·rw[if_pos hk] at q
    rcases zc9.mp q with e|q
    ·obtain⟨c',hc⟩:=hy (n,k) zd7 hk
     have e1:x=n:=congrArg Prod.fst e
     have e2:c=(cells.lookup n).getD 0:=congrArg Prod.snd e
     have hc':cells.lookup n=some c':=hc
     rw[hc'] at e2
     have e3:c=c':=e2
     subst e1 e3 hk
     exact .inr ⟨zd7,hc'⟩
    ·exact .inl q
   ·rw[if_neg hk] at q
    exact .inl q
  ·exact .inr ⟨zd2 _ q1,q2⟩
theorem qx {cells:List (Str×Addr)}:∀(ns:List (Str×NameKind)) (acc:List (Str×Addr)) (p:Str×Addr),p∈acc→p∈wR cells ns acc
 |[],_,_,h=>h
 |(n,k)::r,acc,p,h=>by
  show p∈wR cells r (if k=.free then (n,(cells.lookup n).getD 0)::acc else acc)
  refine qx r _ p ?_
  split
  ·exact zd2 _ h
  ·exact h
theorem qR {cells:List (Str×Addr)}:∀(ns:List (Str×NameKind)) (acc:List (Str×Addr)) (x:Str),(x,NameKind.free)∈ns→∃c,(x,c)∈wR cells ns acc
 |[],_,_,h=>by simp at h
 |(n,k)::r,acc,x,h=>by
  show ∃c,(x,c)∈wR cells r (if k=.free then (n,(cells.lookup n).getD 0)::acc else acc)
  rcases zc9.mp h with e|h
  ·have e1:x=n:=congrArg Prod.fst e
   have e2:NameKind.free=k:=congrArg Prod.snd e
   subst e1 e2
   rw[if_pos rfl]
   exact⟨_,qx r _ _ zd7⟩
  ·exact qR r _ x h
theorem mem_lookup {x:Str}{c:Addr}:∀{l:List (Str×Addr)},(x,c)∈l→∃d,l.lookup x=some d
 |[],h=>by simp at h
 |(n,a)::r,h=>by
  rw[zh7]
  cases e:x == n with
  |true=>exact⟨a,rfl⟩
  |false=>
   rcases zc9.mp h with q|q
   ·have e1:x=n:=congrArg Prod.fst q
    rw[e1] at e
    simp at e
   ·exact mem_lookup q
structure zT (XN:List Str)(xs:Scope)(N:List Str)(imp:List (Option Nat))(scope:Scope):Prop where
 kind:scope.kind=.function
 nd:N.Nodup
 nocell:∀y∈scope.names,y.2≠.cell
 locs:∀y∈scope.names,y.2=.local→scope.names.lookup y.1=some .local
 frees:∀y∈scope.names,y.2=.free→xs.names.lookup y.1=some .cell∨xs.names.lookup y.1=some .free
 len:imp.length=N.length
 impsB:((imp.zip N).all fun p=>match p.1 with|none=>true|some j=>XN[j]? == some p.2&&scope.names.lookup p.2 == some .free)=true
theorem zT.imps {XN N:List Str}{xs scope:Scope}{imp:List (Option Nat)}(S:zT XN xs N imp scope):∀(i j:Nat),imp[i]?=some (some j)→∃x,N[i]?=some x∧XN[j]?=some x∧scope.names.lookup x=some .free:=by
 intro i j h
 have hi:i<imp.length:=(zd1.mp h).1
 have hn:i<N.length:=by rw[←S.len];exact hi
 have hx:N[i]?=some N[i]:=zd8 hn
 have hm:(some j,N[i])∈imp.zip N:=by
  have hz:(imp.zip N)[i]?=some (some j,N[i]):=by
   rw[List.getElem?_zip_eq_some]
   exact⟨h,hx⟩
  exact zf7 hz
 have q:=zm3.mp S.impsB _ hm
 have q':(XN[j]? == some N[i]&&scope.names.lookup N[i]==some .free)=true:=q
 rw[ze9] at q'
 exact⟨N[i],hx,eq_of_beq q'.1,eq_of_beq q'.2⟩
def xp (imp:List (Option Nat))(σ:St):St:=imp.map fun o=>o.bind fun j=>(σ[j]?).bind id
theorem lD {imp:List (Option Nat)}{σ:St}{i:Nat}{v:V}(h:(xp imp σ)[i]?=some (some v)):∃j,imp[i]?=some (some j)∧σ[j]?=some (some v):=by
 unfold xp at h
 rw[ze4] at h
 cases e:imp[i]? with
 |none=>rw[e] at h;cases h
 |some o=>
  rw[e] at h
  have h':(o.bind fun j=>(σ[j]?).bind id)=some v:=zg2 h
  cases o with
  |none=>cases h'
  |some j=>
   have h2:(σ[j]?).bind id=some v:=h'
   cases e2:σ[j]? with
   |none=>rw[e2] at h2;cases h2
   |some w=>
    rw[e2] at h2
    have h3:w=some v:=h2
    exact⟨j,rfl,by rw[e2,h3]⟩
def Cx.comp (X:Cx)(N:List Str)(scope:Scope)(C:Addr)(s2:Shared)(H2:Hp)(fp:List Addr):Cx where
 prog:=X.prog
 w:=X.w
 K:=X.K
 mg:=X.mg
 base:=X.base
 A:=X.A
 N:=N
 s₀:=s2
 H₀:=H2
 env:=compEnvC scope (wR X.env.cells scope.names []) C X.env
 outer:=X.stack
 stack:=X.stack
 ex:=fp
 fn:=fun _=>false
 calm:=X.calm
 pn:=[]
 xe:=fun _ _=>False
theorem vD {env:Env}:∀{names:List (Str×NameKind)} {x:Str},
  (names.map fun (n,k)=>if (k == NameKind.free&&env.scope.kind == .function&&env.kindOf n == some .cell) then (n,NameKind.cell) else (n,k)).lookup x=some .cell∨
  (names.map fun (n,k)=>if (k == NameKind.free&&env.scope.kind == .function&&env.kindOf n == some .cell) then (n,NameKind.cell) else (n,k)).lookup x=some .free→
  (∀y∈names,y.2≠.cell)→(x,NameKind.free)∈names
 |[],x,h,_=>by simp at h
 |(n,k)::r,x,h,hc=>by
  have ih:=@vD env r x
  rw[zg0] at h
  dsimp only at h
  by_cases hx:x=n
  ·subst hx
   by_cases hk:k=.free
   ·subst hk;exact zd7
   ·have hk':(k == NameKind.free)=false:=by simpa using hk
    simp only[hk',zh3,Bool.false_eq_true,if_false,zh7,beq_self_eq_true,zn7] at h
    rcases h with h|h
    ·have e:k=.cell:=zg2 h
     exact absurd e (hc (x,k) zd7)
    ·have e:k=.free:=zg2 h
     exact absurd e hk
  ·have hxn:(x == n)=false:=by simpa using hx
   have step:∀(b:Bool) (l:List (Str×NameKind)),List.lookup x ((if b=true then (n,NameKind.cell) else (n,k))::l)=l.lookup x:=fun b l=>by
    cases b<;>simp[zh7,hxn]
   rw[step] at h
   exact zd2 _ (ih h fun y hy=>hc y (zd2 _ hy))
theorem uq {env:Env}:∀{names:List (Str×NameKind)} {x:Str},names.lookup x=some .free→
  (names.map fun (n,k)=>if (k == NameKind.free&&env.scope.kind == .function&&env.kindOf n == some .cell) then (n,NameKind.cell) else (n,k)).lookup x=some .cell∨
  (names.map fun (n,k)=>if (k == NameKind.free&&env.scope.kind == .function&&env.kindOf n == some .cell) then (n,NameKind.cell) else (n,k)).lookup x=some .free
 |[],x,h=>by simp at h
 |(n,k)::r,x,h=>by
  have ih:=@uq env r x
  rw[zg0]
  dsimp only
  rw[zh7] at h
  cases hx:x == n with
  |true=>
   rw[hx] at h
   have e:k=.free:=zg2 h
   subst e
   by_cases hb:(NameKind.free == NameKind.free&&env.scope.kind == .function&&env.kindOf n == some .cell)=true
   ·left;rw[if_pos hb];simp[zh7,hx]
   ·right;rw[if_neg hb];simp[zh7,hx]
  |false=>
   rw[hx] at h
   have step:∀(b:Bool) (l:List (Str×NameKind)),List.lookup x ((if b=true then (n,NameKind.cell) else (n,k))::l)=l.lookup x:=fun b l=>by
    cases b<;>simp[zh7,hx]
   rw[step]
   exact ih h
section
variable {X:Cx}{pins:List (Addr×Obj)}{σ:St}{H2 H':Hp}{s2 s':Shared}{fp:List Addr}{N:List Str}{imp:List (Option Nat)}{scope:Scope}{C acc:Addr}
theorem wX (I:Inv X pins σ H2 s2)(S:zT X.N X.env.scope N imp scope):∀y∈scope.names,y.2=.free→∃c,X.env.cells.lookup y.1=some c:=fun y hy hk=>I.ok.has y.1 (S.frees y hy hk)
theorem yW (I:Inv X pins σ H2 s2)(S:zT X.N X.env.scope N imp scope){x:Str}{c:Addr}(h:(wR X.env.cells scope.names []).lookup x=some c):(x,NameKind.free)∈scope.names∧X.env.cells.lookup x=some c:=by
 rcases pC scope.names [] (wX I S) x c (zh9 h) with q|q
 ·exact absurd q (by simp)
 ·exact q
theorem vv (I:Inv X pins σ H2 s2)(S:zT X.N X.env.scope N imp scope){x:Str}(h:(x,NameKind.free)∈scope.names):∃c,(wR X.env.cells scope.names []).lookup x=some c:=by
 obtain⟨c,hc⟩:=qR (cells:=X.env.cells) scope.names [] x h
 exact mem_lookup hc
theorem iO {h1:Heap}{tk:Nat}{m:Str→Option Value}{n0:Nat}(I:Inv X pins σ H2 s2)(S:zT X.N X.env.scope N imp scope)(hf:∀b∈fp,ub X pins H2 b)(ho:∀b∈fp,∃o,s2.heap.get? b=some o)
  (hacc:acc=s2.heap.objs.size) (hC:C=s2.heap.objs.size+1) (old:∀b o,s2.heap.get? b=some o→h1.get? b=some o) (hn:h1.Ns C m)
  (hl:h1.get? acc=some {cls:=.type "list",data:=.seq ([]:List Value).toArray n0}):
  Inv (X.comp N scope C s2 H2 fp) [] (xp imp σ) (upd H2 acc (.lst [])) {s2 with heap:=h1,toks:=tk}:=by
 have fa:H2 acc=none:=I.hok.fresh (by rw[hacc];exact zd6 _)
 have cac:C≠acc:=by rw[hC,hacc];exact Nat.succ_ne_self _
 have clt:∀x c,X.env.cells.lookup x=some c→c<s2.heap.objs.size:=fun x c e=>by
  obtain⟨v,q⟩:=I.cell x c e
  exact q.lt
 refine⟨⟨I.ok.mod,S.kind,I.ok.glob,I.ok.blt,?above,?inj,?has,?cab,I.ok.hd,I.ok.frames,.inl rfl,?exf,fun b o e=>I.bs b o e,zi6 I.ok.bsz I.sz,?noex,?exfs,I.stack,I.stkFree⟩,
  rfl,I.bare,Un.laid old (by rw[hacc];exact zd6 _) fa,⟨m,hn,?loc⟩,?cell,?free,?freeC,fun p hp=>absurd (show p∈([]:List (Addr×Obj)) from hp) (by simp),I.hok.laid old (by rw[hacc];exact zd6 _) ⟨ze8 _,[],n0,.nil,hl⟩,?len⟩
 case above=>show s2.heap.objs.size≤C;rw[hC];exact zl4 _
 case inj=>exact fun x y c h1 h2=>I.ok.inj x y c (yW I S h1).2 (yW I S h2).2
 case has=>exact fun x hx=>vv I S (vD (env:=X.env) hx S.nocell)
 case cab=>exact fun x c h _=>absurd h (by show ¬(false=true);simp)
 case exf=>
  intro b hb
  obtain⟨o,hob⟩:=ho b hb
  refine⟨?_,fun x c e=>(hf b hb).2.2.2.2.1 x c (yW I S e).2⟩
  show b≠C
  rw[hC]
  exact ze5 (zj1 (zd9 hob))
 case noex=>
  intro b o e hb
  rcases (hf b hb).2.2.2.1 with z|z
  ·exact I.ok.noex b o e z
  ·exact absurd (zf3 (zd9 e) (zi6 I.ok.bsz z)) (zl0 _)
 case exfs=>
  intro b hb hz
  rcases zc9.mp (I.stkSub b hz) with e|e
  ·exact (hf b hb).2.1 e
  ·exact (hf b hb).2.2.1 e
 case loc=>
  intro i x v e1 e2 e3
  obtain⟨j,q1,q2⟩:=lD e2
  obtain⟨y,n1,n2,n3⟩:=S.imps i j q1
  have n1':(X.comp N scope C s2 H2 fp).N[i]?=some y:=n1
  rw[n1'] at e1
  have exy:y=x:=zg2 e1
  subst exy
  have hfr:=S.frees (y,.free) (zh9 n3) rfl
  obtain⟨mX,hnX,hlX⟩:=I.loc
  obtain⟨u,r,l⟩:=hlX j y v n2 q2 (.inr hfr)
  refine⟨u,r,?_⟩
  rcases l with ⟨k,_⟩|⟨k,c,e,z⟩
  ·have k':X.env.scope.names.lookup y=some .local:=k
   rcases hfr with z|z
   ·have z':X.env.scope.names.lookup y=some .cell:=z
    rw[k'] at z';cases z'
   ·have z':X.env.scope.names.lookup y=some .free:=z
    rw[k'] at z';cases z'
  ·obtain⟨d,hd⟩:=vv I S (zh9 n3)
   have hd2:=(yW I S hd).2
   rw[e] at hd2
   have edc:c=d:=zg2 hd2
   subst edc
   exact .inr ⟨uq (env:=X.env) n3,c,hd,z.keeps old⟩
 case cell=>
  intro x c e
  obtain⟨v,q⟩:=I.cell x c (yW I S e).2
  exact⟨v,q.keeps old⟩
 case free=>
  show upd H2 acc _ C=none
  rw[zj cac]
  exact I.hok.fresh (by rw[hC];exact zl4 _)
 case freeC=>
  intro x c e
  have e':=(yW I S e).2
  have hlt:=clt x c e'
  show upd H2 acc _ c=none
  rw[zj (by rw[hacc];exact ze5 hlt)]
  exact I.freeC x c e'
 case len=>
  show (xp imp σ).length=N.length
  unfold xp
  rw[zd5]
  exact S.len
theorem kf {pl:List (Addr×Obj)}{τ:St}(I:Inv X pins σ H2 s2)(hf:∀b∈fp,ub X pins H2 b)(J:Inv (X.comp N scope C s2 H2 fp) pl τ H' s'):Inv X pins σ H' s':=
 I.call' (ch:=fp) J.os J.base J.hok J.bare fun b hb=>⟨(hf b hb).2.2.2.1,(hf b hb).2.1,(hf b hb).2.2.2.2.1,(hf b hb).2.2.2.2.2⟩
end
section
variable {prog:Program}{w:World}{A:Around}{R:Result→Shared→Prop}{s:Shared}
theorem qp {elt target iter:Expr}{ifs:List Expr}{scope:Scope}{pos:Pos}{it acc:Value}{env:Env}(I:Nat→Shared→Prop)
  (turn:∀n s,I n s→wpAny (model prog w) A (pyNext it) (fun r s1=>match r with
   |none=>R (.ok .next) s1
   |some v=>wpAny (model prog w) A (letOwnedTupleGo target it v) (fun _ s2=>wpAny (model prog w) A (assign target env v) (fun _ s3=>
     wpAny (model prog w) A (forIn ifs true fun c r=>if r=true then do let ok ←isTrue c env (eval c env);pure (ForInStep.yield ok) else pure (ForInStep.yield r)) (fun ok s4=>
      if ok=true then wpAny (model prog w) A (eval elt env) (fun x s5=>
       wpAny (model prog w) A (call (.builtin "list.append") [acc,x]) (fun _ s6=>∃m,m<n∧I m s6) (fun _ _=>False) s5) (fun _ _=>False) s4
      else ∃m,m<n∧I m s4) (fun _ _=>False) s3) (fun _ _=>False) s2) (fun _ _=>False) s1) (fun _ _=>False) s)
  (n:Nat) (h:I n s):codeAny (model prog w) A (.compLoop (.ListComp elt [⟨target,iter,ifs,0⟩] scope pos) 0 it acc env) R s:=by
 refine codeAny_loop rfl I (fun n s hI=>?_) n h
 show wpAny _ A ((compTurn (.ListComp elt [⟨target,iter,ifs,0⟩] scope pos) 0 it acc env).onRaise (fun x=>do noteFrame x env;theTreesLotGoes x)) _ _ s
 refine wpAny_noted ?_
 rw[compTurn_list]
 refine zc8 (wpAny_standAt (zc8 (zg7 (turn n s hI) (fun r s1 h1=>?_) fun _ _ h'=>False.elim h')))
 cases r with
 |none=>exact zd0 h1
 |some v=>
  refine zc8 (zg7 h1 (fun _ s2 h2=>?_) fun _ _ h'=>False.elim h')
  refine zc8 (zg7 h2 (fun _ s3 h3=>zc8 (zg7 h3 (fun ok s4 h4=>?_) fun _ _ h'=>False.elim h')) fun _ _ h'=>False.elim h')
  cases ok with
  |false=>exact zd0 ⟨rfl,h4⟩
  |true=>
   exact zc8 (zc8 (zg7 h4 (fun x s5 h5=>zc8 (zg7 h5 (fun _ s6 h6=>zd0 (zd0 ⟨rfl,h6⟩)) fun _ _ h'=>False.elim h')) fun _ _ h'=>False.elim h'))
end
def wO (Y:Cx)(ifs:List Expr)(t:TT):Prop:=
 ∀(pins:List (Addr×Obj)) (s:Shared) (σ:St) (H:Hp) (Q:Bool→Hp→Prop),Inv Y pins σ H s→t σ H Q→
  wpAny (model Y.prog Y.w) Y.A (forIn ifs true fun c r=>if r=true then do let ok ←isTrue c Y.env (eval c Y.env);pure (ForInStep.yield ok) else pure (ForInStep.yield r)) (TP Y pins σ Q) Y.xe s
def zc6 :TT:=fun _ H Q=>Q true H
theorem gK {Y:Cx}:wO Y [] zc6:=fun _ _ _ H _ I h=>wpAny_tests_nil ⟨H,I,h⟩
def nB (J:It)(acc:Addr)(g:TG)(tt:TT)(te:TE)(τ0:St)(H0:Hp)(Q:VK):Prop:=
 ∃W:Nat→Nat→List V→St→Hp→Prop,(∃m,W 0 m [] τ0 H0)∧∀i m ys τ H2,W i m ys τ H2→
  (J.stop i H2∧Q (.ref acc) H2)∨(J.go i H2∧∃N:List V→St→Hp→Prop,(∀ys' τ' H',N ys' τ' H'→∃m',m'<m∧W (i+1) m' ys' τ' H')∧
   ∀x H3,J.yld i H2 x H3→g x τ H3 fun τ2 H4=>tt τ2 H4 fun c H5=>
    if c=true then te τ2 H5 fun y H6=>H6 acc=some (.lst ys)∧ys.length<sizeLine∧N (ys++[y]) τ2 (upd H6 acc (.lst (ys++[y]))) else N ys τ2 H5)
def iQ (wi:TI)(imp:List (Option Nat))(g:TG)(tt:TT)(te:TE):TE:=fun σ H Q=>wi σ H fun J H1=>∀acc,H1 acc=none→nB J acc g tt te (xp imp σ) (upd H1 acc (.lst [])) Q
section
variable {X:Cx}{pins:List (Addr×Obj)}{σ:St}{elt iter tg:Expr}{ifs:List Expr}{scope:Scope}{pos:Pos}{wi:TI}{g:TG}{tt:TT}{te:TE}{N:List Str}{imp:List (Option Nat)}
theorem uI {H2:Hp}{s2:Shared}{it:Addr}{fp:List Addr}{tn:Nat→Heap→Prop}{J:It}{RR:Value→Addr→Result→Shared→Prop}{E:Value→Shared→Prop}{Q:VK}
  (hc:X.calm=true) (S:zT X.N X.env.scope N imp scope) (hg:∀C s2 H2 fp,PG (X.comp N scope C s2 H2 fp) tg g) (ht:∀C s2 H2 fp,wO (X.comp N scope C s2 H2 fp) ifs tt) (he:∀C s2 H2 fp,PE (X.comp N scope C s2 H2 fp) elt te)
  (I2:Inv X pins σ H2 s2) (T:Turn X.prog X.w X.K tg J fp it tn) (st2:tn 0 s2.heap) (f2:∀b∈fp,ub X pins H2 b)
  (hW:∀acc,H2 acc=none→nB J acc g tt te (xp imp σ) (upd H2 acc (.lst [])) Q)
  (hRR:∀a C H' s' m,Inv X pins σ H' s'→s'.heap.Ns C m→ub X pins H' C→Q (.ref a) H'→RR (.ref a) C (.ok .next) s'):
  wpAny (model X.prog X.w) X.A (newList []) (fun acc s3=>wpAny (model X.prog X.w) X.A (newFunctionEnv scope X.env.globals (wR X.env.cells scope.names []) [] X.env.qual none .none (some X.env)) (fun cenv s4=>
   codeAny (model X.prog X.w) X.A (.compStart (.ListComp elt [⟨tg,iter,ifs,0⟩] scope pos) 0 (.ref it) acc {cenv with scope:=relabel scope X.env}) (RR acc cenv.locals) s4) E s3) E s2:=by
 refine zi4 (wpAny_newFunctionEnv S.nocell (by intro y hy;simp at hy) (fun h1 hns1 hsb1=>?_) S.kind)
 dsimp only at hns1 hsb1 ⊢
 generalize hHH:s2.heap.push {cls:=.type "list",dict:=none,data:=.seq ([]:List Value).toArray}=HH at hns1 hsb1 ⊢
 have hC:HH.objs.size=s2.heap.objs.size+1:=by rw[←hHH,zm0]
 have hDC:s2.heap.objs.size≠HH.objs.size:=by rw[hC];exact ze5 (zj5 _)
 have old:∀b o,s2.heap.get? b=some o→h1.get? b=some o:=fun b o e=>hsb1.extBut b o (by rw[hC];exact ze5 (zj1 (zd9 e))) (zd3 _ (hHH▸zd3 _ e))
 have hacc:h1.get? s2.heap.objs.size=some {cls:=.type "list",data:=.seq ([]:List Value).toArray}:=hsb1.extBut _ _ hDC (zd3 _ (hHH▸ze1 _ rfl))
 obtain⟨W,⟨m0,w0⟩,turn⟩:=hW s2.heap.objs.size I2.fresh
 generalize hCC:HH.objs.size=C at hns1 hsb1 hC hDC ⊢
 have ho:∀b∈fp,∃o,s2.heap.get? b=some o:=fun b hb=>let ⟨o,e,_⟩:=T.obj 0 _ st2 b hb;⟨o,e⟩
 generalize hacc0:s2.heap.objs.size=acc at *
 have loop:∀s3:Shared,s3={s2 with heap:=h1,toks:=s2.toks+([]:List (Str×Value)).length}→
   codeAny (model X.prog X.w) X.A (.compLoop (.ListComp elt [⟨tg,iter,ifs,0⟩] scope pos) 0 (.ref it) (.ref acc) (X.comp N scope C s2 H2 fp).env) (RR (.ref acc) C) s3:=by
  rintro s3 rfl
  have I3:Inv (X.comp N scope C s2 H2 fp) [] (xp imp σ) (upd H2 acc (.lst [])) {s2 with heap:=h1,toks:=s2.toks+([]:List (Str×Value)).length}:=
   iO I2 S f2 ho hacc0.symm (by rw[hC,hacc0]) old hns1 hacc
  have fpn:∀b∈fp,upd H2 acc (.lst []) b=none:=fun b hb=>by
   obtain⟨o,e⟩:=ho b hb
   rw[zj (by rw[←hacc0];exact ze5 (zd9 e))]
   exact (f2 b hb).1
  have stat:∀{H':Hp},(∀b∈fp,H' b=none)→∀b∈fp,ub (X.comp N scope C s2 H2 fp) [] H' b:=fun hn b hb=>by
   obtain⟨e1,e2⟩:=I3.ok.exf b hb
   exact⟨hn b hb,e1,I3.ok.exfs b hb,.inl hb,e2,fun p hp=>absurd (show p∈([]:List (Addr×Obj)) from hp) (by simp)⟩
  refine qp (fun n s'=>∃i ys τ H',Inv (X.comp N scope C s2 H2 fp) [] τ H' s'∧tn i s'.heap∧(∀b∈fp,H' b=none)∧W i n ys τ H') ?_ m0
   ⟨0,[],_,_,I3,T.keep _ _ _ st2 fun b _ o e=>old b o e,fpn,w0⟩
  rintro n s4 ⟨i,ys,τ,H4,I4,st4,fr4,w4⟩
  rcases turn i n ys τ H4 w4 with ⟨stop,qn⟩|⟨go,NN,hN,step⟩
  ·refine zg7 (T.done (X.comp N scope C s2 H2 fp) rfl rfl rfl hc i [] s4 τ H4 (fun _ _=>False) I4 (stat fr4) st4 stop) (fun r s5 ⟨hr,I5⟩=>?_) fun _ _ z=>z
   subst hr
   obtain⟨m5,hn5,_⟩:=id I5.loc
   exact hRR acc C H4 s5 m5 (kf I2 f2 I5) hn5 (I2.fpOk (by rw[hC,hacc0];exact zl4 _) I5.free) qn
  ·refine zg7 (T.item (X.comp N scope C s2 H2 fp) rfl rfl rfl hc i [] s4 τ H4 (fun _ _=>False) I4 (stat fr4) st4 go) (fun r s5 ⟨u,hr,h5⟩=>?_) fun _ _ z=>z
   subst hr
   refine zg7 h5 (fun _ s6 ⟨x,H6,I6,r6,y6,st6,fr6⟩=>?_) fun _ _ z=>z
   have I6':=I6.pinned (stat fr6) (T.obj _ _ st6)
   refine zg7 (hg C s2 H2 fp _ s6 τ H6 x u _ I6' r6 (step x H6 y6)) (fun _ s7 ⟨τ7,H7,I7,q7⟩=>?_) fun _ _ z=>z
   refine zg7 (ht C s2 H2 fp _ s7 τ7 H7 _ I7 q7) (fun ok s8 ⟨H8,I8,q8⟩=>?_) fun _ _ z=>z
   have again:∀{ys9:List V} {H9:Hp} {s9:Shared},Inv (X.comp N scope C s2 H2 fp) ([]++tu fp s6.heap) τ7 H9 s9→NN ys9 τ7 H9→∃m,m<n∧∃i ys τ H',Inv (X.comp N scope C s2 H2 fp) [] τ H' s9∧tn i s9.heap∧(∀b∈fp,H' b=none)∧W i m ys τ H':=fun {ys9 H9 s9} I9 n9=>by
    obtain⟨m',hm,w9⟩:=hN ys9 τ7 H9 n9
    refine⟨m',hm,i+1,ys9,τ7,H9,I9.unpinned,T.keep _ _ _ st6 fun b hb o e=>(I9.pin (b,o) (zf2 _ (zf2 _ (xR hb e)))).1,fun b hb=>?_,w9⟩
    obtain⟨o,e,d⟩:=T.obj _ _ st6 b hb
    exact (I9.pin (b,o) (zf2 _ (zf2 _ (xR hb e)))).2.1
   cases ok with
   |false=>
    have q8':NN ys τ7 H8:=by
     have z:=q8
     rw[if_neg ze0] at z
     exact z
    rw[if_neg ze0]
    exact again I8 q8'
   |true=>
    rw[if_pos rfl] at q8 ⊢
    refine zg7 (he C s2 H2 fp _ s8 τ7 H8 _ I8 q8) (fun v s9 ⟨y,H9,I9,r9,a9,z9,q9⟩=>?_) fun _ _ z=>z
    refine zg7 (si (X:=X.comp N scope C s2 H2 fp) _ s9 τ7 H9 (.ref acc) [y] (.ref acc) [v] (fun _ H10=>H10=upd H9 acc (.lst (ys++[y]))) I9 rfl (.cons r9 .nil) ⟨acc,ys,y,rfl,rfl,a9,z9,rfl⟩) (fun _ s10 ⟨_,H10,I10,_,e10⟩=>?_) fun _ _ z=>z
    subst e10
    exact again I10 q9
 exact codeAny_compStart_list (loop _ rfl) (T.self X.A 0 _ _ _ (T.keep _ _ _ st2 fun b _ o e=>old b o e) (loop _ rfl))
theorem ao (hc:X.calm=true)(S:zT X.N X.env.scope N imp scope)(hi:PI X tg iter wi)(hg:∀C s2 H2 fp,PG (X.comp N scope C s2 H2 fp) tg g)(ht:∀C s2 H2 fp,wO (X.comp N scope C s2 H2 fp) ifs tt)
  (he:∀C s2 H2 fp,PE (X.comp N scope C s2 H2 fp) elt te) (hs:∀x,foldedSetIterable iter X.env x=pure x:=by intro _;rfl):
  PE X (.ListComp elt [⟨tg,iter,ifs,0⟩] scope pos) (iQ wi imp g tt te):=by
 intro pins s σ H Q I h
 rw[eval_ListComp]
 refine wpAny_comprehension_free (use:=none) rfl hs (wL (wX I S)) S.kind S.locs (thn (hi pins s σ H _ I h) fun v s1 h1=>thn h1 fun itv s2 h2=>?_)
 obtain⟨it,fp,tn,J,H2,e,I2,T,st2,f2,hW⟩:=h2
 subst e
 refine uI (RR:=fun acc C=>compPost (model X.prog X.w) X.A X.xe none (EP X pins σ Q) acc C) hc S hg ht he I2 T st2 f2 hW fun a C H' s' m I' hn f q=>?_
 refine⟨m,hn,fun h' sb=>?_⟩
 obtain⟨g0,g1,g2,g3,g4,g5⟩:=f
 exact⟨.ref a,H',I'.turned (t':=s'.toks) (it:=C) (fun b o hb e=>(sb.2 b hb).trans e) g0 g1 g3 g4 g5,rfl,q⟩
theorem jd {i:Nat}{x:Str}{px:Pos}{spos:Pos}(hc:X.calm=true)(S:zT X.N X.env.scope N imp scope)(hi:PI X tg iter wi)(hg:∀C s2 H2 fp,PG (X.comp N scope C s2 H2 fp) tg g)(ht:∀C s2 H2 fp,wO (X.comp N scope C s2 H2 fp) ifs tt)
  (he:∀C s2 H2 fp,PE (X.comp N scope C s2 H2 fp) elt te) (hN:X.N.Nodup) (hx:X.N[i]?=some x) (hl:Loc X.env.scope x) (hsw:swapsWith (.ListComp elt [⟨tg,iter,ifs,0⟩] scope pos) (some (.Name x px)) spos.line X.env=pure true:=by rfl)
  (hf:X.fn x=true∨X.env.scope.names.lookup x=some .local:=by first|exact .inl rfl|exact .inr rfl|assumption) (hs:∀x,foldedSetIterable iter X.env x=pure x:=by intro _;rfl):
  PS X (.Assign [.Name x px] (.ListComp elt [⟨tg,iter,ifs,0⟩] scope pos) spos) (dZ (iQ wi imp g tt te) (tq i)):=by
 intro pins s σ H D I h
 rw[exec_Assign_Name_used _ _ _ _ hsw]
 refine zc8 (wpAny_standAt (zc8 ?_))
 show wpAny _ X.A (do let _ ←comprehension (.ListComp elt [⟨tg,iter,ifs,0⟩] scope pos) scope X.env _ (newList []) false (eval iter X.env) (some (assign (.Name x px) X.env))) _ _ s
 refine zc8 (zg7 (wpAny_comprehension_free (use:=some (assign (.Name x px) X.env)) (Q:=fun _ s'=>SP X pins D .next s') rfl hs (wL (wX I S)) S.kind S.locs (thn (hi pins s σ H _ I h) fun v s1 h1=>thn h1 fun itv s2 h2=>?_))
  (fun _ s' hq=>zd0 (zd0 hq)) fun _ _ e=>e)
 obtain⟨it,fp,tn,J,H2,e,I2,T,st2,f2,hW⟩:=h2
 subst e
 refine uI (Q:=fun x H1=>tq i x σ H1 D.nx) (RR:=fun acc C=>compPost (model X.prog X.w) X.A X.xe (some (assign (.Name x px) X.env)) (fun _ s'=>SP X pins D .next s') acc C) hc S hg ht he I2 T st2 f2 hW fun a C H' s' m I' hn f q=>?_
 show wpAny _ X.A (assign (.Name x px) X.env (.ref a)) _ _ _
 obtain⟨g0,g1,g2,g3,g4,g5⟩:=f
 refine wpAny_assign_Name (sF I' hN hx hl (show RelV (.ref a) (.ref a) from rfl) (fun s4 I4 hch=>?_) hf)
 obtain⟨ad,sb,had⟩:=hch
 have hCa:C≠ad:=by
  rcases had with e|e
  ·rw[e];exact g1
  ·exact (g4 x ad e).symm
 refine⟨m,hn.sameBut sb hCa,fun h' sb2=>?_⟩
 exact⟨_,H',I4.turned (t':=s4.toks) (it:=C) (fun b o hb e=>(sb2.2 b hb).trans e) g0 g1 g3 g4 g5,q⟩
end
mutual
inductive DV (H:Hp):V→PyData→Prop where
 |non:DV H .non .none
 |bl (b:Bool):DV H (.bl b) (.bool b)
 |int (i:Int):DV H (.int i) (.int i)
 |str (x:Str):DV H (.str x) (.str x)
 |lst {a:Addr} {xs:List V} {ds:List PyData}:H a=some (.lst xs)→DVs H xs ds→DV H (.ref a) (.list ds)
 |tup {a:Addr} {xs:List V} {ds:List PyData}:H a=some (.tup xs)→DVs H xs ds→DV H (.ref a) (.tuple ds)
inductive DVs (H:Hp):List V→List PyData→Prop where
 |nil:DVs H [] []
 |cons {x:V} {xs:List V} {d:PyData} {ds:List PyData}:DV H x d→DVs H xs ds→DVs H (x::xs) (d::ds)
end
section
variable {X:Cx}{pins:List (Addr×Obj)}{σ:St}{H:Hp}{s:Shared}
mutual
theorem DV.reads (I:Inv X pins σ H s):∀{x:V} {d:PyData} {u:Value},DV H x d→RelV x u→∃as,Reads s.heap u d as
 |_,_,u,.non,r=>by cases (show u=Value.none from r);exact⟨_,.none⟩
 |_,_,u,.bl b,r=>by cases (show u=Value.bool b from r);exact⟨_,.bool b⟩
 |_,_,u,.int i,r=>by obtain⟨t,rfl⟩:=(show ∃t,u=Value.int i t from r);exact⟨_,.int i t⟩
 |_,_,u,.str x,r=>by obtain⟨t,rfl⟩:=(show ∃t,u=Value.str x t from r);exact⟨_,.str x t⟩
 |_,_,u,.lst (a:=a) hq hs,r=>by
  cases (show u=Value.ref a from r)
  obtain⟨its,rv,p,hz⟩:=I.list (SqL.of hq)
  obtain⟨o,ho,hc,n,hd⟩:=p.isList
  obtain⟨as,ra⟩:=DVs.reads I hs rv
  exact⟨_,.list ho hc hd (by simpa using ra)⟩
 |_,_,u,.tup (a:=a) hq hs,r=>by
  cases (show u=Value.ref a from r)
  obtain⟨its,rv,p,hz⟩:=I.tuple (SqT.of hq)
  obtain⟨o,ho,hc,n,hd⟩:=p
  obtain⟨as,ra⟩:=DVs.reads I hs rv
  exact⟨_,.tuple ho hc hd (by simpa using ra)⟩
theorem DVs.reads (I:Inv X pins σ H s):∀{xs:List V} {ds:List PyData} {us:List Value},DVs H xs ds→Vals xs us→∃as,ReadsAll s.heap us ds as
 |_,_,_,.nil,.nil=>⟨_,.nil⟩
 |_,_,_,.cons h hs,.cons r rs=>by
  obtain⟨as,ra⟩:=DV.reads I h r
  obtain⟨bs,rb⟩:=DVs.reads I hs rs
  exact⟨_,.cons ra rb⟩
end
end
mutual
theorem DV.same {H H':Hp}(e:zx H H'):∀{x:V} {d:PyData},DV H x d→DV H' x d
 |_,_,.non=>.non
 |_,_,.bl b=>.bl b
 |_,_,.int i=>.int i
 |_,_,.str x=>.str x
 |_,_,.lst hq hs=>.lst (e _ _ hq) (DVs.same e hs)
 |_,_,.tup hq hs=>.tup (e _ _ hq) (DVs.same e hs)
theorem DVs.same {H H':Hp}(e:zx H H'):∀{xs:List V} {ds:List PyData},DVs H xs ds→DVs H' xs ds
 |_,_,.nil=>.nil
 |_,_,.cons h hs=>.cons (DV.same e h) (DVs.same e hs)
end
theorem DVs.length {H:Hp}:∀{xs:List V} {ds:List PyData},DVs H xs ds→xs.length=ds.length
 |_,_,.nil=>rfl
 |_,_,.cons _ hs=>by rw[ze7,ze7,DVs.length hs]
def tyD :PyData→String
 |.none=>"NoneType"
 |.bool _=>"bool"
 |.int _=>"int"
 |.str _=>"str"
 |.list _=>"list"
 |.tuple _=>"tuple"
 |.dict _=>"dict"
theorem DV.ty {K:PySem.W.Frag}{H:Hp}{x:V}{d:PyData}(h:DV H x d):wK K H x (.type (tyD d)):=by
 cases h with
 |non=>exact .non
 |bl b=>exact .bl b
 |int i=>exact .int i
 |str x=>exact .str x
 |lst e _=>exact .lst e
 |tup e _=>exact .tup e
def isInt :PyData→Bool
 |.int _=>true
 |.bool _=>true
 |_=>false
def isBool :PyData→Bool
 |.bool _=>true
 |_=>false
def isStr :PyData→Bool
 |.str _=>true
 |_=>false
def isList :PyData→Bool
 |.list _=>true
 |_=>false
def nv :PyData→Bool
 |.tuple _=>true
 |_=>false
def rK (T:String)(d:PyData):Option Bool:=
 if T="int" then some (isInt d) else if T="bool" then some (isBool d) else if T="str" then some (isStr d) else if T="list" then some (isList d) else if T="tuple" then some (nv d) else none
def cZ (t T:String):Option Bool:=if (Value.type t == Value.type T)=true then some true else if PySem.W.kitMeta T=true then (fastBuiltinMro t).map (·.contains (Value.type T)) else none
theorem jH (K:PySem.W.Frag)(t T:String):PySem.W.kitOne K (.type t) (.type T)=cZ t T:=rfl
theorem jq :(["NoneType","bool","int","str","list","tuple"].all fun t=>["int","bool","str","list","tuple"].all fun T=>
  cZ t T == some (if T="int" then t == "int"||t == "bool" else t == T))=true:=by decide +kernel
theorem ar (K:PySem.W.Frag){H:Hp}{x:V}{d:PyData}(h:DV H x d){T:String}{b:Bool}(e:rK T d=some b):PySem.W.kitOne K (.type (tyD d)) (.type T)=some b:=by
 rw[jH]
 have key:∀t∈["NoneType","bool","int","str","list","tuple"],∀T∈["int","bool","str","list","tuple"],cZ t T=some (if T="int" then t == "int"||t == "bool" else t == T):=fun t ht T hT=>
  eq_of_beq (zm3.mp (zm3.mp jq t ht) T hT)
 have hd:tyD d∈["NoneType","bool","int","str","list","tuple"]:=by cases h<;>simp[tyD]
 unfold rK at e
 split at e
 ·rename_i eT
  subst eT
  rw[key _ hd "int" (by decide)]
  cases e
  cases h<;>rfl
 ·split at e
  ·rename_i eT
   subst eT
   rw[key _ hd "bool" (by decide)]
   cases e
   cases h<;>rfl
  ·split at e
   ·rename_i eT
    subst eT
    rw[key _ hd "str" (by decide)]
    cases e
    cases h<;>rfl
   ·split at e
    ·rename_i eT
     subst eT
     rw[key _ hd "list" (by decide)]
     cases e
     cases h<;>rfl
    ·split at e
     ·rename_i eT
      subst eT
      rw[key _ hd "tuple" (by decide)]
      cases e
      cases h<;>rfl
     ·cases e
section
variable {X:Cx}
def bG :R2:=fun x y H Q=>∃d e,DV H x d∧DV H y e∧SeqAt.shaped d=true∧SeqAt.shaped e=true∧Q (.bl (PyData.eqv d e)) H
def bT :R2:=fun x y H Q=>∃d e,DV H x d∧DV H y e∧SeqAt.shaped d=true∧SeqAt.shaped e=true∧Q (.bl (!PyData.eqv d e)) H
theorem wc (hu:X.A.units+64<cLine):OpR X (compareOp .Eq) bG:=by
 intro pins s σ H x y v u Q I rx ry h
 obtain⟨d,e,hd,he,sd,se,q⟩:=h
 obtain⟨as,ra⟩:=hd.reads I rx
 obtain⟨bs,rb⟩:=he.reads I ry
 exact SeqAt.compareEq_shaped ra rb sd se hu ⟨.bl _,H,I,rfl,q⟩
theorem cW (hu:X.A.units+64<cLine):OpR X (compareOp .NotEq) bT:=by
 intro pins s σ H x y v u Q I rx ry h
 obtain⟨d,e,hd,he,sd,se,q⟩:=h
 obtain⟨as,ra⟩:=hd.reads I rx
 obtain⟨bs,rb⟩:=he.reads I ry
 exact SeqAt.compareNe_shaped ra rb sd se hu ⟨.bl _,H,I,rfl,q⟩
theorem jx :xZ X (.builtin "isinstance") (fun xs H Q=>∃x T t b,xs=[x,.ty T]∧wK X.K H x t∧PySem.W.kitOne X.K t (.type T)=some b∧Q (.bl b) H):=by
 intro pins s σ H xs us Q I r h
 obtain⟨x,T,t,b,rfl,ty,e,q⟩:=h
 obtain⟨u,v,rfl,rx,ry⟩:=Vals.two r
 cases (show v=Value.type T from ry)
 exact sP I rx ty e fun tk=>⟨.bl b,H,I.tok tk,rfl,q⟩
theorem xr :xZ X (.builtin "isinstance") (fun xs H Q=>∃x T d b,xs=[x,.ty T]∧DV H x d∧rK T d=some b∧Q (.bl b) H):=by
 intro pins s σ H xs us Q I r h
 obtain⟨x,T,d,b,e,hd,ht,q⟩:=h
 exact jx pins s σ H xs us Q I r ⟨x,T,_,b,e,hd.ty,ar X.K hd ht,q⟩
def eX (i j:Int):Prop:=0<j∧j.natAbs.log2<9000
theorem tD :OpR X (binaryOp .FloorDiv) (rI eX fun i j=>.int (i / j)):=opI fun i j _ _ _ _ _ hc q=>by
 have h1:(0:Int)<j:=hc.1
 refine floordiv_int (Int.ne_of_gt h1) ?_ (.inl (PyProof.noPylong_of_log2 hc.2))
 rw[Int.fdiv_eq_ediv_of_nonneg _ (Int.le_of_lt h1)]
 exact q
abbrev big :Int:=115792089237316195423570985008687907853269984665640564039457584007913129639936
theorem log2_small {j:Int}(h0:0<j)(h:j<big):j.natAbs.log2<9000:=by
 have hn:j.natAbs≠0:=by omega
 have h2:j.natAbs<2 ^ 256:=by
  have e:(2:Nat) ^ 256=115792089237316195423570985008687907853269984665640564039457584007913129639936:=by decide +kernel
  rw[e]
  unfold big at h
  omega
 have h3:j.natAbs.log2<256:=(Nat.log2_lt hn).mpr h2
 omega
def vN (lo:Int)(n:Nat):List Int:=(List.range n).map fun i=>lo+(i:Nat)
theorem zX (lo:Int)(n:Nat):(vN lo n).length=n:=by simp[vN]
theorem tJ {lo:Int}{n i:Nat}(h:i<n):(vN lo n)[i]?=some (lo+(i:Nat)):=by simp[vN,h]
end
def iW (X:Cx)(body:List Stmt):TS:=fun D σ H=>∃t,PSs X body t∧t D σ H
theorem zZ {X:Cx}{body:List Stmt}:PSs X body (iW X body):=fun pins s σ H D I ⟨t,p,q⟩=>p pins s σ H D I q
theorem yf {X:Cx}{st:Stmt}{rest:List Stmt}{D:Ends}{σ:St}{H:Hp}(M:St→Hp→Prop)(h1:∃t,PS X st t∧t {D with nx:=M} σ H)(h2:∀σ' H',M σ' H'→∃t,PSs X rest t∧t D σ' H'):
  ∃t,PSs X (st::rest) t∧t D σ H:=by
 obtain⟨t1,p1,q1⟩:=h1
 refine⟨fun D' σ' H'=>D'=D∧σ'=σ∧H'=H,?_,rfl,rfl,rfl⟩
 intro pins s σ' H' D' I h
 obtain⟨e1,e2,e3⟩:=h
 subst e1 e2 e3
 have step:PSs X (st::rest) (aB t1 fun D2 σ2 H2=>D2=D'∧M σ2 H2):=zJ p1 fun pins s σ2 H2 D2 I2 ⟨e,m⟩=>by
  subst e
  obtain⟨t2,p2,q2⟩:=h2 σ2 H2 m
  exact p2 pins s σ2 H2 _ I2 q2
 refine step pins s _ _ _ I ?_
 show t1 {D' with nx:=fun σ2 H2=>D'=D'∧M σ2 H2} _ _
 have e:(fun (σ2:St) (H2:Hp)=>D'=D'∧M σ2 H2)=M:=by
  funext σ2 H2
  exact propext ⟨fun z=>z.2,fun z=>⟨rfl,z⟩⟩
 rw[e]
 exact q1
theorem iZ (ns:List Int)(lo hi:Option Int):∃ms:List Int,pA (ns.map V.int) lo hi=ms.map V.int∧ms.length≤ns.length:=by
 refine⟨(ns.drop (HT.sIx (ns.map V.int).length 0 lo)).take (HT.sIx (ns.map V.int).length (ns.map V.int).length hi-HT.sIx (ns.map V.int).length 0 lo),?_,?_⟩
 ·unfold pA
  rw[List.map_take,List.map_drop]
 ·rw[zj6,zi7]
  omega
def aG (bs:List Int):Prop:=∃x y:Int,bs=[x,y]∧0≤y∧y<4294967296
structure yK (H:Hp)(t b c:Addr):Prop where
 ex:∃(n:Int) (bs cs:List Int),(b=t∧c=t)∧H t=some (.lst (bs.map V.int))∧H b=some (.lst (bs.map V.int))∧H c=some (.lst (cs.map V.int))∧aG bs∧n=0
def bh (t b:Addr)(H H':Hp):Prop:=∀a,a≠t→a≠b→H' a=H a
def kU :Sp:=fun vs H Q _=>∃(t b c:Addr) (many:Int),vs=[.ref t,.int many]∧yK H t b c∧0<many∧many<big∧
 ∀(v:Int) (H':Hp),0≤v→v<many→yK H' t b c→bh t b H H'→Q (.int v) H'
theorem yK.free {H:Hp}{t b c l:Addr}(T:yK H t b c)(h:H l=none):l≠t∧l≠b∧l≠c:=by
 obtain⟨n,bs,cs,n1,e1,e2,e3,l1,l2⟩:=T.ex
 exact⟨(zm e1 h).symm,(zm e2 h).symm,(zm e3 h).symm⟩
theorem yK.off {H H':Hp}{t b c:Addr}(T:yK H t b c)(h:∀a,a=t∨a=b∨a=c→H' a=H a):yK H' t b c:=by
 obtain⟨n,bs,cs,n1,e1,e2,e3,l1,l2⟩:=T.ex
 exact⟨n,bs,cs,n1,by rw[h t (.inl rfl)];exact e1,by rw[h b (.inr (.inl rfl))];exact e2,by rw[h c (.inr (.inr rfl))];exact e3,l1,l2⟩
theorem iR {H:Hp}{t b c l:Addr}{o:HO}(T:yK H t b c)(h:l≠t∧l≠b∧l≠c):yK (upd H l o) t b c:=
 T.off fun a ha=>zj (ha.elim (fun e=>e▸h.1.symm) fun ha=>ha.elim (fun e=>e▸h.2.1.symm) fun e=>e▸h.2.2.symm)
theorem mY {H H':Hp}{t b c:Addr}(T:yK H t b c)(s:zx H H'):yK H' t b c:=by
 obtain⟨n,bs,cs,n1,e1,e2,e3,l1,l2⟩:=T.ex
 exact⟨n,bs,cs,n1,s _ _ e1,s _ _ e2,s _ _ e3,l1,l2⟩
theorem zM {H:Hp}{p:Addr}{o:HO}(h:H p=none):zx H (upd H p o):=fun b u e=>by rw[zj (zm e h)];exact e
def uf (x:Addr):Prop:=False
def TabAt (H:Hp):Prop:=True
def Plain (H:Hp)(l:Addr):Prop:=True
theorem qI {H H':Hp}(T:TabAt H)(h:∀a o,(∀xs,o≠.lst xs)→H a=some o→H' a=some o):TabAt H':=trivial
theorem gZ {H:Hp}{l:Addr}{o:HO}(T:TabAt H)(h:Plain H l):TabAt (upd H l o):=trivial
theorem uy {H:Hp}{x:Addr}(T:TabAt H)(h:uf x):∃o,H x=some o∧(∀ts,o≠.tup ts)∧∀xs,o≠.lst xs:=h.elim
theorem sA {H:Hp}{l:Addr}{xs:List V}(h:H l=some (.lst xs)):Plain H l:=trivial
theorem qM {H:Hp}{l:Addr}{xs:List (Key×V)}(h:H l=some (.dK xs)):Plain H l:=trivial
theorem mR {H:Hp}{l C dx:Addr}{fs:List (Str×V)}(h:H l=some (.ins C dx fs)):Plain H l:=trivial
theorem vE {H:Hp}{l:Addr}(T:TabAt H)(h:H l=none):¬uf l:=fun z=>by
 obtain⟨o,e,_⟩:=uy T z
 rw[h] at e;cases e
theorem ez {H H':Hp}{t b:Addr}{xs ys:List V}(T:TabAt H)(ht:H t=some (.lst xs))(hb:H b=some (.lst ys))(off:bh t b H H'):TabAt H':=qI T fun a o no e=>by
 have n1:a≠t:=fun z=>by rw[z,ht] at e;cases e;exact no _ rfl
 have n2:a≠b:=fun z=>by rw[z,hb] at e;cases e;exact no _ rfl
 rw[off a n1 n2];exact e
theorem cx {H H':Hp}(T:TabAt H)(h:zx H H'):TabAt H':=qI T fun a o _ e=>h a o e
def pB (K:PySem.W.Frag):Sp:=fun vs H Q _=>∃(a:Addr) (ns:List Int),vs=[.ref a]∧SqL K H a (ns.map V.int)∧ns.length≤63∧TabAt H∧∀H',Q (.bl true) H'
theorem fK (d:PyData):rK "int" d=some (isInt d):=by unfold rK;rw[if_pos rfl]
theorem tH (d:PyData):rK "bool" d=some (isBool d):=by unfold rK;rw[if_neg (by decide),if_pos rfl]
theorem su (d:PyData):rK "tuple" d=some (nv d):=by unfold rK;rw[if_neg (by decide),if_neg (by decide),if_neg (by decide),if_neg (by decide),if_pos rfl]
structure zS (n:Nat)(d:PyData):Prop where
 shw:d.showable=true
 nod:d.hasDict=false
 dep:d.depth≤8
 len:d.shown.length≤n
 lay:d.canLay0=true
theorem zS.mono {m n:Nat}{d:PyData}(h:zS m d)(e:m≤n):zS n d:=⟨h.shw,h.nod,h.dep,zi6 h.len e,h.lay⟩
theorem uo :∀(ts:List Str) (k:Nat) (acc:Str),(textFrom k acc ts).length≤acc.length+piled ts
 |[],_,acc=>by rw[piled_nil];exact zd6 _
 |t::r,k,acc=>by
  have h:=uo r (k+1) (acc++(if k > 0 then ", " else "":String)++t)
  rw[piled_cons]
  have e2:(Str.ofString (if k > 0 then ", " else "":String)).length≤2:=by
   split
   ·exact Nat.le_of_eq rfl
   ·exact ze8 _
  have e3:=zo4 (acc++Str.ofString (if k > 0 then ", " else "":String)) t
  have e4:=zo4 acc (Str.ofString (if k > 0 then ", " else "":String))
  show (textFrom (k+1) (acc++Str.ofString (if k > 0 then ", " else "":String)++t) r).length≤_
  have h':(textFrom (k+1) (acc++Str.ofString (if k > 0 then ", " else "":String)++t) r).length≤(acc++Str.ofString (if k > 0 then ", " else "":String)++t).length+piled r:=h
  omega
theorem pq (ts:List Str):(listText ts).length≤piled ts+2:=by
 unfold listText
 rw[zo4]
 have h:=uo ts 0 (Str.ofString "[")
 have e1:(Str.ofString "[").length=1:=rfl
 have e2:(Str.ofString "]").length=1:=rfl
 show (textFrom 0 (Str.ofString "[") ts).length+(Str.ofString "]").length≤_
 omega
theorem qt (ts:List Str):(tupleText ts).length≤piled ts+3:=by
 cases ts with
 |nil=>decide +kernel
 |cons t r=>
  have h:=join_length_add (t::r) (by simp)
  unfold tupleText
  rw[zo4,zo4]
  have e1:(Str.ofString "(").length=1:=rfl
  have e2:(Str.ofString (if (t::r).length == 1 then ",)" else ")":String)).length≤2:=by
   split
   ·exact Nat.le_of_eq rfl
   ·exact zh2 (show 1<2 by decide)
  show (Str.ofString "(").length+(Str.join ", " (t::r)).length+(Str.ofString (if (t::r).length == 1 then ",)" else ")":String)).length≤_
  omega
theorem wq {n:Nat}:∀(ds:List PyData),(∀d∈ds,zS n d)→piled (PyData.shownAll ds)≤ds.length*(n+2)
 |[],_=>ze8 _
 |d::r,h=>by
  have h1:=(h d zd7).len
  have h2:=wq r fun e he=>h e (zd2 _ he)
  show piled (d.shown::PyData.shownAll r)≤_
  rw[piled_cons,ze7,Nat.succ_mul]
  omega
structure ye (n:Nat)(ds:List PyData):Prop where
 all:∀d∈ds,zS n d
 dep:∀d∈ds,d.depth≤7
theorem ye.parts {n:Nat}:∀{ds:List PyData},ye n ds→PyData.showableAll ds=true∧PyData.hasDictAll ds=false∧PyData.depthAll ds≤7∧PyData.canLayAll0 ds=true
 |[],_=>⟨rfl,rfl,ze8 _,rfl⟩
 |d::r,h=>by
  obtain⟨a,b,c,e⟩:=ye.parts (ds:=r) ⟨fun x hx=>h.all x (zd2 _ hx),fun x hx=>h.dep x (zd2 _ hx)⟩
  have hd:=h.all d zd7
  have hp:=h.dep d zd7
  refine⟨?_,?_,?_,?_⟩
  ·simp only[PyData.showableAll,hd.shw,a,Bool.and_self]
  ·simp only[PyData.hasDictAll,hd.nod,b,Bool.or_self]
  ·simp only[PyData.depthAll];omega
  ·simp only[PyData.canLayAll0,hd.lay,e,Bool.and_self]
theorem zS.list {n m:Nat}{ds:List PyData}(h:ye n ds)(e:ds.length*(n+2)+2≤m):zS m (.list ds):=by
 obtain⟨a,b,c,f⟩:=h.parts
 refine⟨by simp only[PyData.showable,a],by simp only[PyData.hasDict,b],by simp only[PyData.depth];omega,?_,by simp only[PyData.canLay0,f]⟩
 show (listText (PyData.shownAll ds)).length≤m
 have h1:=pq (PyData.shownAll ds)
 have h2:=wq ds h.all
 omega
theorem zS.tuple {n m:Nat}{ds:List PyData}(h:ye n ds)(e:ds.length*(n+2)+3≤m):zS m (.tuple ds):=by
 obtain⟨a,b,c,f⟩:=h.parts
 refine⟨by simp only[PyData.showable,a],by simp only[PyData.hasDict,b],by simp only[PyData.depth];omega,?_,by simp only[PyData.canLay0,f]⟩
 show (tupleText (PyData.shownAll ds)).length≤m
 have h1:=qt (PyData.shownAll ds)
 have h2:=wq ds h.all
 omega
theorem iU {i:Int}(h0:-big<i)(h1:i<big):i.natAbs.log2<1920:=by
 by_cases hn:i.natAbs=0
 ·rw[hn];decide
 ·have h2:i.natAbs<2 ^ 256:=by
   have e:(2:Nat) ^ 256=115792089237316195423570985008687907853269984665640564039457584007913129639936:=by decide +kernel
   rw[e]
   unfold big at h0 h1
   omega
  have h3:i.natAbs.log2<256:=(Nat.log2_lt hn).mpr h2
  omega
theorem zS.int {i:Int}(h0:-big<i)(h1:i<big):zS 2000 (.int i):=by
 have hl:=iU h0 h1
 refine⟨by simp only[PyData.showable,zg3];exact hl,rfl,ze8 _,?_,rfl⟩
 have:=int_text_len_1921 hl
 show (Str.ofString (toString i)).length≤2000
 omega
theorem zS.none :zS 2000 .none:=⟨rfl,rfl,ze8 _,by decide +kernel,rfl⟩
theorem zS.bool (b:Bool):zS 2000 (.bool b):=⟨rfl,rfl,ze8 _,by cases b<;>decide +kernel,rfl⟩
theorem zS.shaped {n:Nat}{d:PyData}(h:zS n d):SeqAt.shaped d=true:=by
 unfold SeqAt.shaped
 rw[h.lay,zi2,zg3]
 have:=h.dep
 omega
section
variable {X:Cx}
end
def oC :PyData→Bool
 |.int _=>true
 |_=>false
def zQ (lo hi:Int):PyData→Bool
 |.int i=>decide (lo≤i)&&decide (i≤hi)
 |_=>false
def pairD :PyData→Bool
 |.tuple ds=>decide ((ds.length:Int)=2)
 |_=>false
abbrev vC :PyData→Bool:=zQ 0 1000000
def tQ :PyData→Bool
 |.tuple [a,b]=>vC a&&vC b
 |_=>false
def tZ :PyData→Option Int
 |.tuple [.int a,.int b]=>if vC (.int a)&&vC (.int b) then some (b-a) else none
 |_=>none
def yb (d:PyData):Bool:=match tZ d with
 |some k=>decide (0≤k)
 |none=>false
theorem kn (d:PyData):oC d=(isInt d&&!isBool d):=by cases d<;>rfl
theorem ue {d:PyData}(h:pairD d=true):∃a b,d=.tuple [a,b]:=by
 cases d with
 |tuple ds=>
  have h':(ds.length:Int)=2:=zl8 h
  match ds,h' with
  |[a,b],_=>exact⟨a,b,rfl⟩
  |[],z=>simp at z
  |[_],z=>simp at z
  |_::_::_::_,z=>simp at z;omega
 |_=>cases h
theorem tK (d:PyData):tQ d=(tZ d).isSome:=by
 unfold tQ tZ
 split
 ·rename_i a b
  cases a with
  |int i=>
   cases b with
   |int j=>
    show (vC (.int i)&&vC (.int j))=_
    cases e:(vC (.int i)&&vC (.int j))<;>simp[e]
   |_=>simp[zQ]
  |_=>simp[zQ]
 ·rename_i h
  split
  ·rename_i a b
   exact absurd rfl (h (.int a) (.int b))
  ·rfl
theorem oK {d:PyData}(h:tQ d=true):∃a b:Int,d=.tuple [.int a,.int b]∧tZ d=some (b-a):=by
 rw[tK] at h
 unfold tZ at h ⊢
 split at h
 ·rename_i a b
  split at h
  ·rename_i hc
   exact⟨a,b,rfl,by simp[hc]⟩
  ·cases h
 ·cases h
def yx (g:PyData→Bool):Sp:=fun vs H Q _=>∃x d,vs=[x]∧DV H x d∧Q (.bl (g d)) H
def wo :Sp:=fun vs H Q _=>∃x d lo hi,vs=[x,.int lo,.int hi]∧DV H x d∧Q (.bl (zQ lo hi d)) H
theorem et {n:Nat}:decide (V.int (n:Int)=V.int 2)=decide ((n:Int)=2):=by simp
noncomputable def sub (p:Addr→Prop)(H:Hp):Hp:=fun a=>open Classical in if p a then H a else none
theorem zf {p:Addr→Prop}{H:Hp}{a:Addr}{o:HO}(h:sub p H a=some o):p a∧H a=some o:=by
 unfold sub at h
 split at h
 ·rename_i hp;exact⟨hp,h⟩
 ·cases h
theorem zN {p:Addr→Prop}{H:Hp}{a:Addr}{o:HO}(hp:p a)(h:H a=some o):sub p H a=some o:=by
 unfold sub
 rw[if_pos hp]
 exact h
theorem zr {p q:Addr→Prop}{H H':Hp}(h:∀a o,p a→H a=some o→q a∧H' a=some o):zx (sub p H) (sub q H'):=fun a o e=>by
 obtain⟨hp,he⟩:=zf e
 obtain⟨hq,he'⟩:=h a o hp he
 exact zN hq he'
theorem xW {p:Addr→Prop}{H:Hp}:zx (sub p H) H:=fun _ _ e=>(zf e).2
theorem ye.snoc {n:Nat}{ds:List PyData}{d:PyData}(h:ye n ds)(hd:zS n d)(hp:d.depth≤7):ye n (ds++[d]):=
 ⟨fun e he=>(zf6.mp he).elim (h.all e) fun z=>by rw[zg8.mp z];exact hd,fun e he=>(zf6.mp he).elim (h.dep e) fun z=>by rw[zg8.mp z];exact hp⟩
theorem ye.nil {n:Nat}:ye n []:=⟨fun d hd=>by simp at hd,fun d hd=>by simp at hd⟩
theorem ye.two {n:Nat}{d e:PyData}(hd:zS n d)(he:zS n e)(h1:d.depth≤7)(h2:e.depth≤7):ye n [d,e]:=(ye.nil.snoc hd h1).snoc he h2
section
variable {X:Cx}{e:Expr}{es:List Expr}
def tf (X:Cx)(e:Expr):TE:=fun σ H Q=>∃t,PE X e t∧t σ H Q
theorem zi :PE X e (tf X e):=fun pins s σ H Q I ⟨t,p,q⟩=>p pins s σ H Q I q
def bF (X:Cx)(e:Expr):TT:=fun σ H Q=>∃t,PT X e t∧t σ H Q
theorem xJ :PT X e (bF X e):=fun pins s σ H Q I ⟨t,p,q⟩=>p pins s σ H Q I q
def bx (X:Cx)(es:List Expr):TA:=fun σ H Q=>∃t,PA X es t∧t σ H Q
theorem yT :PA X es (bx X es):=fun pos pins s σ H Q I ⟨t,p,q⟩=>p pos pins s σ H Q I q
end
def tS :Key→PyData
 |.inl i=>.int i
 |.inr x=>.str x
def xcO (a C:Addr)(d:Option Addr):HO:=.ext fun h=>∃o vs,h.get? a=some o∧o.cls=.ref C∧o.dict=d∧o.data=.fields vs
mutual
inductive AV (H:Hp):V→PyData→Prop where
 |non:AV H .non .none
 |bl (b:Bool):AV H (.bl b) (.bool b)
 |int (i:Int):AV H (.int i) (.int i)
 |str (x:Str):AV H (.str x) (.str x)
 |lst {a:Addr} {xs:List V} {ds:List PyData}:H a=some (.lst xs)→AVs H xs ds→AV H (.ref a) (.list ds)
 |tup {a:Addr} {xs:List V} {ds:List PyData}:H a=some (.tup xs)→AVs H xs ds→AV H (.ref a) (.tuple ds)
 |ins {a C dx:Addr} {fs:List (Str×V)} {ds:List (PyData×PyData)}:H a=some (.ins C dx fs)→AVf H fs ds→AV H (.ref a) (.dict ((.int (C:Nat),.none)::ds))
 |dk {a:Addr} {o:Obj} {kvs:List (Key×V)} {ds:List (PyData×PyData)}:H a=some (.frz o (.dK kvs))→AVk H kvs ds→AV H (.ref a) (.dict ((.none,.none)::ds))
 |dt {a:Addr} {o:Obj} {kvs:List (List Key×V)} {ds:List (PyData×PyData)}:H a=some (.frz o (.dT kvs))→AVt H kvs ds→AV H (.ref a) (.dict ((.none,.bool true)::ds))
 |xc {a C dx:Addr} {fs:List (Str×V)} {ds:List (PyData×PyData)}:H a=some (xcO a C (some dx))→H dx=some (.xd fs)→AVf H fs ds→AV H (.ref a) (.dict ((.int (C:Nat),.bool true)::ds))
 |xn {a C:Addr}:H a=some (xcO a C none)→AV H (.ref a) (.dict [(.int (C:Nat),.bool false)])
inductive AVs (H:Hp):List V→List PyData→Prop where
 |nil:AVs H [] []
 |cons {x:V} {xs:List V} {d:PyData} {ds:List PyData}:AV H x d→AVs H xs ds→AVs H (x::xs) (d::ds)
inductive AVf (H:Hp):List (Str×V)→List (PyData×PyData)→Prop where
 |nil:AVf H [] []
 |cons {f:Str} {x:V} {fs:List (Str×V)} {d:PyData} {ds:List (PyData×PyData)}:AV H x d→AVf H fs ds→AVf H ((f,x)::fs) ((.str f,d)::ds)
inductive AVk (H:Hp):List (Key×V)→List (PyData×PyData)→Prop where
 |nil:AVk H [] []
 |cons {k:Key} {x:V} {fs:List (Key×V)} {d:PyData} {ds:List (PyData×PyData)}:AV H x d→AVk H fs ds→AVk H ((k,x)::fs) ((tS k,d)::ds)
inductive AVt (H:Hp):List (List Key×V)→List (PyData×PyData)→Prop where
 |nil:AVt H [] []
 |cons {k:List Key} {x:V} {fs:List (List Key×V)} {d:PyData} {ds:List (PyData×PyData)}:AV H x d→AVt H fs ds→AVt H ((k,x)::fs) ((.tuple (k.map tS),d)::ds)
end
mutual
theorem AV.same {H H':Hp}(e:zx H H'):∀{x:V} {d:PyData},AV H x d→AV H' x d
 |_,_,.non=>.non
 |_,_,.bl b=>.bl b
 |_,_,.int i=>.int i
 |_,_,.str x=>.str x
 |_,_,.lst hq hs=>.lst (e _ _ hq) (AVs.same e hs)
 |_,_,.tup hq hs=>.tup (e _ _ hq) (AVs.same e hs)
 |_,_,.ins hq hs=>.ins (e _ _ hq) (AVf.same e hs)
 |_,_,.dk hq hs=>.dk (e _ _ hq) (AVk.same e hs)
 |_,_,.dt hq hs=>.dt (e _ _ hq) (AVt.same e hs)
 |_,_,.xc hq hd hs=>.xc (e _ _ hq) (e _ _ hd) (AVf.same e hs)
 |_,_,.xn hq=>.xn (e _ _ hq)
theorem AVs.same {H H':Hp}(e:zx H H'):∀{xs:List V} {ds:List PyData},AVs H xs ds→AVs H' xs ds
 |_,_,.nil=>.nil
 |_,_,.cons h hs=>.cons (AV.same e h) (AVs.same e hs)
theorem AVf.same {H H':Hp}(e:zx H H'):∀{fs:List (Str×V)} {ds:List (PyData×PyData)},AVf H fs ds→AVf H' fs ds
 |_,_,.nil=>.nil
 |_,_,.cons h hs=>.cons (AV.same e h) (AVf.same e hs)
theorem AVk.same {H H':Hp}(e:zx H H'):∀{fs:List (Key×V)} {ds:List (PyData×PyData)},AVk H fs ds→AVk H' fs ds
 |_,_,.nil=>.nil
 |_,_,.cons h hs=>.cons (AV.same e h) (AVk.same e hs)
theorem AVt.same {H H':Hp}(e:zx H H'):∀{fs:List (List Key×V)} {ds:List (PyData×PyData)},AVt H fs ds→AVt H' fs ds
 |_,_,.nil=>.nil
 |_,_,.cons h hs=>.cons (AV.same e h) (AVt.same e hs)
end
mutual
theorem AV.dv {H:Hp}:∀{x:V} {d:PyData},AV H x d→d.hasDict=false→DV H x d
 |_,_,.non,_=>.non
 |_,_,.bl b,_=>.bl b
 |_,_,.int i,_=>.int i
 |_,_,.str x,_=>.str x
 |_,_,.lst hq hs,h=>.lst hq (AVs.dv hs (by simpa only[PyData.hasDict] using h))
 |_,_,.tup hq hs,h=>.tup hq (AVs.dv hs (by simpa only[PyData.hasDict] using h))
 |_,_,.ins hq hs,h=>by simp[PyData.hasDict] at h
 |_,_,.dk hq hs,h=>by simp[PyData.hasDict] at h
 |_,_,.dt hq hs,h=>by simp[PyData.hasDict] at h
 |_,_,.xc hq _ hs,h=>by simp[PyData.hasDict] at h
 |_,_,.xn hq,h=>by simp[PyData.hasDict] at h
theorem AVs.dv {H:Hp}:∀{xs:List V} {ds:List PyData},AVs H xs ds→PyData.hasDictAll ds=false→DVs H xs ds
 |_,_,.nil,_=>.nil
 |_,_,.cons h hs,e=>by
  simp only[PyData.hasDictAll,zp0] at e
  exact .cons (AV.dv h e.1) (AVs.dv hs e.2)
end
mutual
theorem DV.av {H:Hp}:∀{x:V} {d:PyData},DV H x d→AV H x d
 |_,_,.non=>.non
 |_,_,.bl b=>.bl b
 |_,_,.int i=>.int i
 |_,_,.str x=>.str x
 |_,_,.lst hq hs=>.lst hq (DVs.av hs)
 |_,_,.tup hq hs=>.tup hq (DVs.av hs)
theorem DVs.av {H:Hp}:∀{xs:List V} {ds:List PyData},DVs H xs ds→AVs H xs ds
 |_,_,.nil=>.nil
 |_,_,.cons h hs=>.cons (DV.av h) (DVs.av hs)
end
theorem AVs.length {H:Hp}:∀{xs:List V} {ds:List PyData},AVs H xs ds→xs.length=ds.length
 |_,_,.nil=>rfl
 |_,_,.cons _ hs=>by rw[ze7,ze7,AVs.length hs]
theorem AVs.append {H:Hp}:∀{xs ys:List V} {ds es:List PyData},AVs H xs ds→AVs H ys es→AVs H (xs++ys) (ds++es)
 |_,_,_,_,.nil,h=>h
 |_,_,_,_,.cons a r,h=>.cons a (AVs.append r h)
theorem AVs.get {H:Hp}:∀{xs:List V} {ds:List PyData} {i:Nat} {d:PyData},AVs H xs ds→ds[i]?=some d→∃x,xs[i]?=some x∧AV H x d
 |_,_,_,_,.nil,e=>by simp at e
 |_,_,0,_,.cons a _,e=>by simp at e;subst e;exact⟨_,rfl,a⟩
 |_,_,i+1,d,.cons _ r,e=>by
  obtain⟨x,h1,h2⟩:=AVs.get (i:=i) (d:=d) r (by simpa using e)
  exact⟨x,by simpa using h1,h2⟩
theorem AVs.take {H:Hp}:∀{xs:List V} {ds:List PyData} (n:Nat),AVs H xs ds→AVs H (xs.take n) (ds.take n)
 |_,_,0,_=>.nil
 |_,_,_+1,.nil=>.nil
 |_,_,n+1,.cons a r=>.cons a (AVs.take n r)
theorem AVs.drop {H:Hp}:∀{xs:List V} {ds:List PyData} (n:Nat),AVs H xs ds→AVs H (xs.drop n) (ds.drop n)
 |_,_,0,r=>r
 |_,_,_+1,.nil=>.nil
 |_,_,n+1,.cons _ r=>AVs.drop n r
theorem AVs.atI {H:Hp}{xs:List V}{ds:List PyData}{i:Int}{d:PyData}(h:AVs H xs ds)(e:atI ds i=some d):∃x,L2.atI xs i=some x∧AV H x d:=by
 unfold L2.atI at e ⊢
 rw[h.length]
 cases q:ixN ds.length i with
 |none=>rw[q] at e;cases e
 |some j=>
  rw[q] at e
  exact h.get (i:=j) e
def cutD (ds:List PyData)(lo hi:Option Int):List PyData:=(ds.drop (HT.sIx ds.length 0 lo)).take (HT.sIx ds.length ds.length hi-HT.sIx ds.length 0 lo)
theorem AVs.cut {H:Hp}{xs:List V}{ds:List PyData}(h:AVs H xs ds)(lo hi:Option Int):AVs H (pA xs lo hi) (cutD ds lo hi):=by
 unfold pA cutD
 rw[h.length]
 exact (h.drop _).take _
mutual
def noL :PyData→Bool
 |.list _=>false
 |.dict ((.none,_)::_)=>false
 |.dict kvs=>oA kvs
 |.tuple ds=>noLs ds
 |_=>true
def noLs :List PyData→Bool
 |[]=>true
 |d::r=>noL d&&noLs r
def oA :List (PyData×PyData)→Bool
 |[]=>true
 |(_,d)::r=>noL d&&oA r
end
def Ob :HO→Prop
 |.lst _=>True
 |.dK _=>True
 |.frz _ _=>True
 |_=>False
mutual
theorem AV.noL {H H':Hp}(e:∀a o,¬Ob o→H a=some o→H' a=some o):∀{x:V} {d:PyData},AV H x d→noL d=true→AV H' x d
 |_,_,.non,_=>.non
 |_,_,.bl b,_=>.bl b
 |_,_,.int i,_=>.int i
 |_,_,.str x,_=>.str x
 |_,_,.lst _ _,h=>by simp[L2.noL] at h
 |_,_,.tup hq hs,h=>.tup (e _ _ (fun z=>z) hq) (AVs.noL e hs (by simpa only[L2.noL] using h))
 |_,_,.ins hq hs,h=>.ins (e _ _ (fun z=>z) hq) (AVf.noL e hs (by simpa[L2.noL,L2.oA] using h))
 |_,_,.dk _ _,h=>by simp[L2.noL] at h
 |_,_,.dt _ _,h=>by simp[L2.noL] at h
 |_,_,.xc hq hd hs,h=>.xc (e _ _ (fun z=>z) hq) (e _ _ (fun z=>z) hd) (AVf.noL e hs (by simpa[L2.noL,L2.oA] using h))
 |_,_,.xn hq,h=>.xn (e _ _ (fun z=>z) hq)
theorem AVs.noL {H H':Hp}(e:∀a o,¬Ob o→H a=some o→H' a=some o):∀{xs:List V} {ds:List PyData},AVs H xs ds→noLs ds=true→AVs H' xs ds
 |_,_,.nil,_=>.nil
 |_,_,.cons h hs,q=>by
  simp only[L2.noLs,ze9] at q
  exact .cons (AV.noL e h q.1) (AVs.noL e hs q.2)
theorem AVf.noL {H H':Hp}(e:∀a o,¬Ob o→H a=some o→H' a=some o):∀{fs:List (Str×V)} {ds:List (PyData×PyData)},AVf H fs ds→oA ds=true→AVf H' fs ds
 |_,_,.nil,_=>.nil
 |_,_,.cons h hs,q=>by
  simp only[L2.oA,ze9] at q
  exact .cons (AV.noL e h q.1) (AVf.noL e hs q.2)
end
structure Fr where
 H0:Hp
 O0:Addr→Prop
 tp:Option (Addr×Addr×Addr)
inductive A where
 |dat (d:PyData)
 |ow (c:PyData)
 |deep (d:PyData) (S:Addr→Prop)
 |tape
 |at (l:Addr)
 |exc (r:Fr) (q:PyData→Prop)
 |pin (l:Addr) (vs:List V) (ds:List PyData)
 |nst (l:Addr) (ls:List Addr) (dss:List (List PyData))
@[reducible] def A.own (ds:List PyData):A:=.ow (.list ds)
abbrev eD (ds:List (PyData×PyData)):PyData:=.dict ((.none,.none)::ds)
abbrev Ev :=List (Option A)
def xT (o:HO):Prop:=∀ts,o≠.tup ts
theorem xA {xs:List V}:xT (.lst xs):=fun _ z=>by cases z
theorem Ob.notup {o:HO}(h:Ob o):xT o:=fun ts z=>by subst z;exact h
def NT (F:Fr)(x:Addr):Prop:=(∀t b c,F.tp=some (t,b,c)→x≠t∧x≠b)∧¬uf x
def Kz (F:Fr)(H H':Hp):Prop:=∀x o,H x=some o→NT F x→H' x=some o
structure zF (F:Fr)(H:Hp):Prop where
 tab:TabAt H
 ot:∀x,uf x→F.O0 x
 all:∀t b c,F.tp=some (t,b,c)→yK H t b c∧F.O0 t∧F.O0 b∧F.O0 c
instance {F:Fr} {H:Hp}:CoeFun (zF F H) (fun _=>∀t b c,F.tp=some (t,b,c)→yK H t b c∧F.O0 t∧F.O0 b∧F.O0 c):=⟨zF.all⟩
theorem zF.to {F F':Fr}{H:Hp}(t:zF F H)(hp:F'.tp=F.tp)(ho:∀x,F.O0 x→F'.O0 x):zF F' H:=⟨t.tab,fun x h=>ho x (t.ot x h),fun a b c e=>by
 obtain⟨h1,h2,h3,h4⟩:=t a b c (hp▸e)
 exact⟨h1,ho _ h2,ho _ h3,ho _ h4⟩⟩
theorem zF.re {F F':Fr}{H H':Hp}(t:zF F H)(t':zF F' H')(hp:F'.tp=F.tp):zF F H':=⟨t'.tab,t.ot,fun a b c e=>⟨(t' a b c (hp▸e)).1,(t a b c e).2⟩⟩
theorem zF.upd {F:Fr}{H:Hp}{l:Addr}{o:HO}(t:zF F H)(h:∀a b c,F.tp=some (a,b,c)→l≠a∧l≠b∧l≠c)(hp:Plain H l):zF F (upd H l o):=⟨gZ t.tab hp,t.ot,fun a b c e=>⟨iR (t a b c e).1 (h a b c e),(t a b c e).2⟩⟩
theorem zF.updO {F:Fr}{H:Hp}{l:Addr}{o:HO}(t:zF F H)(h:¬F.O0 l)(hp:Plain H l):zF F (L2.upd H l o):=t.upd (fun a b c e=>⟨fun z=>h (by rw[z];exact (t a b c e).2.1),fun z=>h (by rw[z];exact (t a b c e).2.2.1),fun z=>h (by rw[z];exact (t a b c e).2.2.2)⟩) hp
def foot (s:Option V):A→Addr→Prop
 |.ow _,x=>s=some (.ref x)
 |.deep _ S,x=>S x
 |.nst l ls _,x=>x∈l::ls
 |_,_=>False
def Ow (F:Fr)(α:Ev)(σ:St)(x:Addr):Prop:=F.O0 x∨∃(i:Nat) (a:A) (s:Option V),α[i]?=some (some a)∧σ[i]?=some s∧foot s a x
noncomputable abbrev Gz (F:Fr)(α:Ev)(σ:St)(H:Hp):Hp:=sub (fun x=>¬Ow F α σ x) H
noncomputable def oe (S:Addr→Prop)(G H:Hp):Hp:=fun x=>open Classical in if S x then H x else match G x with
 |some (.lst _)=>none
 |o=>o
theorem vM {S:Addr→Prop}{G G' H H':Hp}(h:zx G G')(hS:∀x o,S x→H x=some o→H' x=some o):zx (oe S G H) (oe S G' H'):=fun x o e=>by
 unfold oe at e ⊢
 by_cases z:S x
 ·rw[if_pos z] at e ⊢;exact hS x o z e
 ·rw[if_neg z] at e ⊢
  cases q:G x with
  |none=>rw[q] at e;cases e
  |some u=>
   rw[h _ _ q]
   rw[q] at e
   exact e
theorem iH {S:Addr→Prop}{G H:Hp}{x:Addr}{o:HO}(h:oe S G H x=some o):(S x∧H x=some o)∨(¬S x∧G x=some o):=by
 unfold oe at h
 by_cases z:S x
 ·rw[if_pos z] at h;exact .inl ⟨z,h⟩
 ·rw[if_neg z] at h
  split at h
  ·cases h
  ·exact .inr ⟨z,h⟩
inductive yP (G:Hp):HO→PyData→Prop where
 |lst {xs:List V} {ds:List PyData}:AVs G xs ds→yP G (.lst xs) (.list ds)
 |dk {kvs:List (Key×V)} {ds:List (PyData×PyData)}:AVk G kvs ds→yP G (.dK kvs) (eD ds)
theorem yP.ob {G:Hp}{o:HO}{c:PyData}(h:yP G o c):Ob o:=by cases h<;>trivial
theorem yP.same {G G':Hp}{o:HO}{c:PyData}(h:yP G o c)(s:zx G G'):yP G' o c:=by
 cases h with
 |lst h=>exact .lst (h.same s)
 |dk h=>exact .dk (h.same s)
theorem yP.av {G:Hp}{o:HO}{ds:List PyData}{l:Addr}(h:yP G o (.list ds))(e:G l=some o):AV G (.ref l) (.list ds):=by
 cases h with
 |lst h=>exact .lst e h
theorem yP.lst_inv {G:Hp}{o:HO}{ds:List PyData}(h:yP G o (.list ds)):∃xs,o=.lst xs∧AVs G xs ds:=by cases h;exact⟨_,rfl,by assumption⟩
theorem yP.plain {G H:Hp}{o:HO}{c:PyData}{l:Addr}(h:yP G o c)(e:H l=some o):Plain H l:=by
 cases h with
 |lst h=>exact sA e
 |dk h=>exact qM e
structure Lnk (r F:Fr)(H:Hp):Prop where
 tp:r.tp=F.tp
 o:∀x,r.O0 x→F.O0 x
 ok:zF r H
 k:Kz r r.H0 H
def xu (G H:Hp):List Addr→List (List PyData)→Prop
 |[],[]=>True
 |a::ls,ds::dss=>(∃xs,H a=some (.lst xs)∧AVs G xs ds)∧xu G H ls dss
 |_,_=>False
theorem xu.same {G G' H H':Hp}(g:zx G G'):∀{ls:List Addr} {dss:List (List PyData)},(∀a∈ls,∀o,H a=some o→H' a=some o)→xu G H ls dss→xu G' H' ls dss
 |[],[],_,_=>trivial
 |a::ls,ds::dss,h,⟨⟨xs,e,av⟩,r⟩=>⟨⟨xs,h a zd7 _ e,av.same g⟩,xu.same g (fun b hb=>h b (zd2 _ hb)) r⟩
 |[],_::_,_,z=>z.elim
 |_::_,[],_,z=>z.elim
theorem xu.obj {G H:Hp}:∀{ls:List Addr} {dss:List (List PyData)},xu G H ls dss→∀a∈ls,∃xs,H a=some (.lst xs)
 |[],_,_,_,h=>by cases h
 |b::ls,ds::dss,⟨⟨xs,e,_⟩,r⟩,a,h=>by
  rcases zc9.mp h with z|z
  ·exact⟨xs,z▸e⟩
  ·exact xu.obj r a z
 |_::_,[],z,_,_=>z.elim
theorem xu.avs {G H:Hp}{p:Addr→Prop}(g:zx G (sub p H)):∀{ls:List Addr} {dss:List (List PyData)},(∀a∈ls,p a)→xu G H ls dss→AVs (sub p H) (ls.map .ref) (dss.map .list)
 |[],[],_,_=>.nil
 |a::ls,ds::dss,h,⟨⟨xs,e,av⟩,r⟩=>.cons (.lst (zN (h a zd7) e) (av.same g)) (xu.avs g (fun b hb=>h b (zd2 _ hb)) r)
 |[],_::_,_,z=>z.elim
 |_::_,[],_,z=>z.elim
def xo (G:Hp)(F:Fr)(H:Hp)(s:Option V):A→Prop
 |.dat d=>∃v,s=some v∧AV G v d
 |.ow c=>∃l o,s=some (.ref l)∧H l=some o∧yP G o c∧¬F.O0 l∧F.H0 l=none
 |.deep d S=>∃v,s=some v∧AV (oe S G H) v d∧∀x,S x→¬F.O0 x∧F.H0 x=none∧∃xs,H x=some (.lst xs)
 |.tape=>∃t b c,F.tp=some (t,b,c)∧s=some (.ref t)
 |.at l=>s=some (.ref l)
 |.exc r _=>Lnk r F H
 |.pin l vs ds=>s=some (.ref l)∧G l=some (.lst vs)∧AVs G vs ds
 |.nst l ls dss=>s=some (.ref l)∧H l=some (.lst (ls.map .ref))∧xu G H ls dss∧(l::ls).Nodup∧∀x∈l::ls,¬F.O0 x∧F.H0 x=none
structure M (F:Fr)(α:Ev)(σ:St)(H:Hp):Prop where
 len:α.length=σ.length
 ok:∀(i:Nat) (a:A) (s:Option V),α[i]?=some (some a)→σ[i]?=some s→xo (Gz F α σ H) F H s a
 dj:∀(i j:Nat) (a b:A) (s t:Option V) (x:Addr),α[i]?=some (some a)→α[j]?=some (some b)→σ[i]?=some s→σ[j]?=some t→foot s a x→foot t b x→i=j
 xd:∀(i:Nat) (r:Fr) (q:PyData→Prop),α[i]?=some (some (.exc r q))→∀(j:Nat) (a:A) (s:Option V) (x:Addr),α[j]?=some (some a)→σ[j]?=some s→foot s a x→r.H0 x=none
 tp:zF F H
 keep:Kz F F.H0 H
 oex:∀x,F.O0 x→∃o,H x=some o∧xT o
theorem M.at' {F:Fr}{α:Ev}{σ:St}{H:Hp}(m:M F α σ H){i:Nat}{a:Option A}(e:α[i]?=some a):∃s,σ[i]?=some s:=by
 have:i<σ.length:=by rw[←m.len];exact (zd1.mp e).1
 exact⟨_,zd8 this⟩
theorem rO {G:Hp}{F:Fr}{H:Hp}{s:Option V}{a:A}{x:Addr}(h:xo G F H s a)(f:foot s a x):¬F.O0 x∧F.H0 x=none∧∃o,H x=some o∧Ob o:=by
 cases a with
 |ow c=>
  obtain⟨l,o,h1,h2,h3,h4,h5⟩:=h
  have f':s=some (.ref x):=f
  rw[f'] at h1;cases h1
  exact⟨h4,h5,o,h2,h3.ob⟩
 |deep d S=>
  obtain⟨v,h1,h2,h3⟩:=h
  obtain⟨z1,z2,xs,z3⟩:=h3 x f
  exact⟨z1,z2,_,z3,trivial⟩
 |dat d=>exact f.elim
 |tape=>exact f.elim
 |«at» l=>exact f.elim
 |exc r q=>exact f.elim
 |pin l vs ds=>exact f.elim
 |nst l ls dss=>
  obtain⟨h1,h2,h3,h4,h5⟩:=h
  have f':x∈l::ls:=f
  refine⟨(h5 x f').1,(h5 x f').2,?_⟩
  rcases zc9.mp f' with z|z
  ·exact⟨.lst (ls.map .ref),z▸h2,trivial⟩
  ·obtain⟨xs,e⟩:=h3.obj x z
   exact⟨.lst xs,e,trivial⟩
theorem Lnk.kz {r F:Fr}{H H':Hp}(l:Lnk r F H)(k:Kz F H H')(t:zF F H'):Lnk r F H':=⟨l.tp,l.o,l.ok.re t l.tp.symm,fun x o e n=>k x o (l.k x o e n) ⟨fun a b c z=>n.1 a b c (l.tp.trans z),n.2⟩⟩
theorem Lnk.none {r F:Fr}{H:Hp}(l:Lnk r F H){x:Addr}(h:H x=Option.none):r.H0 x=Option.none:=by
 cases q:r.H0 x with
 |none=>rfl
 |some o=>rw[l.k x o q ⟨fun a b c e=>⟨((l.ok a b c e).1.free h).1,((l.ok a b c e).1.free h).2.1⟩,vE l.ok.tab h⟩] at h;cases h
def noX :A→Prop
 |.exc _ _=>False
 |_=>True
theorem xo.stay {G G':Hp}{F F':Fr}{H H':Hp}{s:Option V}{a:A}(h:xo G F H s a)(g:zx G G')(hf:∀x o,foot s a x→H x=some o→H' x=some o∧¬F'.O0 x∧F'.H0 x=none)(hp:F'.tp=F.tp)(hl:∀r q,a=.exc r q→Lnk r F H→Lnk r F' H'):xo G' F' H' s a:=by
 cases a with
 |dat d=>obtain⟨v,h1,h2⟩:=h;exact⟨v,h1,h2.same g⟩
 |ow c=>
  obtain⟨l,o,h1,h2,h3,h4,h5⟩:=h
  obtain⟨z1,z2,z3⟩:=hf l o h1 h2
  exact⟨l,o,h1,z1,h3.same g,z2,z3⟩
 |deep d S=>
  obtain⟨v,h1,h2,h3⟩:=h
  refine⟨v,h1,h2.same (vM g fun x o z e=>(hf x o z e).1),fun x z=>?_⟩
  obtain⟨_,_,xs,e⟩:=h3 x z
  obtain⟨z1,z2,z3⟩:=hf x _ z e
  exact⟨z2,z3,xs,z1⟩
 |tape=>obtain⟨t,b,c,e,z⟩:=h;exact⟨t,b,c,hp.trans e,z⟩
 |«at» l=>exact h
 |exc r q=>exact hl r q rfl h
 |pin l vs ds=>exact⟨h.1,g _ _ h.2.1,h.2.2.same g⟩
 |nst l ls dss=>
  obtain⟨h1,h2,h3,h4,h5⟩:=h
  refine⟨h1,(hf l _ zd7 h2).1,h3.same g fun a ha o e=>(hf a o (zd2 _ ha) e).1,h4,fun x hx=>?_⟩
  rcases zc9.mp hx with z|z
  ·exact (hf x _ hx (z▸h2)).2
  ·obtain⟨xs,e⟩:=h3.obj x z
   exact (hf x _ hx e).2
section
variable {F:Fr}{α:Ev}{σ:St}{H H' H'':Hp}
theorem M.dat (m:M F α σ H)(i:Nat)(d:PyData)(e:α[i]?=some (some (.dat d))):∃v,σ[i]?=some (some v)∧AV (Gz F α σ H) v d:=by
 obtain⟨s,hs⟩:=m.at' e
 obtain⟨v,rfl,h⟩:=m.ok i _ s e hs
 exact⟨v,hs,h⟩
theorem M.owc (m:M F α σ H)(i:Nat)(c:PyData)(e:α[i]?=some (some (.ow c))):∃l o,σ[i]?=some (some (.ref l))∧H l=some o∧yP (Gz F α σ H) o c∧¬F.O0 l∧F.H0 l=none:=by
 obtain⟨s,hs⟩:=m.at' e
 obtain⟨l,o,rfl,h⟩:=m.ok i _ s e hs
 exact⟨l,o,hs,h⟩
theorem M.own (m:M F α σ H)(i:Nat)(ds:List PyData)(e:α[i]?=some (some (.own ds))):∃l xs,σ[i]?=some (some (.ref l))∧H l=some (.lst xs)∧AVs (Gz F α σ H) xs ds∧¬F.O0 l∧F.H0 l=none:=by
 obtain⟨l,o,h1,h2,h3,h4⟩:=m.owc i _ e
 obtain⟨xs,rfl,h5⟩:=h3.lst_inv
 exact⟨l,xs,h1,h2,h5,h4⟩
theorem M.tvar (m:M F α σ H)(i:Nat)(e:α[i]?=some (some .tape)):∃t b c,F.tp=some (t,b,c)∧σ[i]?=some (some (.ref t)):=by
 obtain⟨s,hs⟩:=m.at' e
 obtain⟨t,b,c,h,rfl⟩:=m.ok i _ s e hs
 exact⟨t,b,c,h,hs⟩
theorem M.lnk (m:M F α σ H){i:Nat}{r:Fr}{q:PyData→Prop}(e:α[i]?=some (some (.exc r q))):Lnk r F H:=by
 obtain⟨s,hs⟩:=m.at' e
 exact m.ok i _ s e hs
theorem Kz.refl :Kz F H H:=fun _ _ e _=>e
theorem Kz.trans (h:Kz F H H')(k:Kz F H' H''):Kz F H H'':=fun x o e n=>k x o (h x o e n) n
theorem Kz.of_same (h:zx H H'):Kz F H H':=fun x o e _=>h x o e
theorem zF.same (t:zF F H)(h:zx H H'):zF F H':=⟨cx t.tab h,t.ot,fun a b c e=>⟨mY (t a b c e).1 h,(t a b c e).2⟩⟩
theorem zF.nt (t:zF F H){x:Addr}(h:¬F.O0 x):NT F x:=⟨fun a b c e=>⟨fun z=>h (z▸(t a b c e).2.1),fun z=>h (z▸(t a b c e).2.2.1)⟩,fun z=>h (t.ot x z)⟩
theorem ow0 {x:Addr}(h:¬Ow F α σ x):¬F.O0 x:=fun z=>h (.inl z)
theorem Kz.gz (k:Kz F H H')(t:zF F H):zx (Gz F α σ H) (Gz F α σ H'):=zr fun a o h e=>⟨h,k a o e (t.nt (ow0 h))⟩
theorem M.oex' (t:zF F H')(k:Kz F H H')(h:∀x,F.O0 x→∃o,H x=some o∧xT o):∀x,F.O0 x→∃o,H' x=some o∧xT o:=fun x hx=>by
 by_cases n:NT F x
 ·obtain⟨o,ho,hn⟩:=h x hx
  exact⟨o,k _ _ ho n,hn⟩
 ·by_cases z:uf x
  ·obtain⟨o,ho,hn,_⟩:=uy t.tab z
   exact⟨o,ho,hn⟩
  ·have:∃a b c,F.tp=some (a,b,c)∧¬(x≠a∧x≠b):=by
    refine Classical.byContradiction fun q=>n ⟨fun a b c e=>?_,z⟩
    exact Classical.byContradiction fun w=>q ⟨a,b,c,e,w⟩
   obtain⟨a,b,c,e,w⟩:=this
   obtain⟨n,bs,cs,_,e1,e2,e3,_⟩:=(t a b c e).1.ex
   by_cases xa:x=a
   ·exact⟨_,xa▸e1,xA⟩
   ·by_cases xb:x=b
    ·exact⟨_,xb▸e2,xA⟩
    ·exact absurd ⟨xa,xb⟩ w
theorem M.kz (m:M F α σ H)(k:Kz F H H')(t:zF F H'):M F α σ H' where
 len:=m.len
 ok:=fun i a s e1 e2=>(m.ok i a s e1 e2).stay (k.gz m.tp) (fun x o hf e=>by
  obtain⟨h1,h2,_⟩:=rO (m.ok i a s e1 e2) hf
  exact⟨k x o e (m.tp.nt h1),h1,h2⟩) rfl fun r _ _ l=>l.kz k t
 dj:=m.dj
 xd:=m.xd
 tp:=t
 keep:=m.keep.trans k
 oex:=M.oex' t k m.oex
theorem M.ft (m:M F α σ H){i:Nat}{a:A}{s:Option V}{x:Addr}(e1:α[i]?=some (some a))(e2:σ[i]?=some s)(f:foot s a x):¬F.O0 x∧F.H0 x=none∧∃o,H x=some o∧Ob o:=rO (m.ok i a s e1 e2) f
theorem M.owEx (m:M F α σ H){x:Addr}(h:Ow F α σ x):∃o,H x=some o∧xT o:=by
 rcases h with z|⟨i,a,s,e1,e2,f⟩
 ·exact m.oex x z
 ·obtain⟨_,_,o,ho,hb⟩:=m.ft e1 e2 f
  exact⟨o,ho,hb.notup⟩
theorem M.fresh (m:M F α σ H){l:Addr}(h:H l=none):¬Ow F α σ l:=fun z=>by
 obtain⟨o,ho,_⟩:=m.owEx z
 rw[h] at ho;cases ho
theorem M.fresh0 (m:M F α σ H){l:Addr}(h:H l=none):F.H0 l=none:=by
 cases q:F.H0 l with
 |none=>rfl
 |some o=>rw[m.keep l o q (m.tp.nt fun z=>m.fresh h (.inl z))] at h;cases h
theorem M.old (m:M F α σ H):zx (sub (fun x=>¬F.O0 x) F.H0) (Gz F α σ H):=fun a o e=>by
 obtain⟨h1,h2⟩:=zf e
 refine zN ?_ (m.keep a o h2 (m.tp.nt h1))
 rintro (z|⟨i,b,s,e1,e2,f⟩)
 ·exact h1 z
 ·obtain⟨_,z,_⟩:=m.ft e1 e2 f
  rw[h2] at z;cases z
noncomputable def Fr.up (F:Fr)(G:Hp):Fr:={F with H0:=fun x=>(F.H0 x).or (G x)}
theorem qf {G:Hp}{x:Addr}{o:HO}(h:F.H0 x=some o):(F.up G).H0 x=some o:=by show (F.H0 x).or (G x)=some o;rw[h];rfl
theorem nX {G:Hp}{x:Addr}(h:(F.up G).H0 x=none):F.H0 x=none:=by
 cases q:F.H0 x with
 |none=>rfl
 |some o=>rw[qf q] at h;cases h
theorem M.up (m:M F α σ H):M (F.up (Gz F α σ H)) α σ H where
 len:=m.len
 ok:=fun i a s e1 e2=>(m.ok i a s e1 e2).stay (fun _ _ e=>e) (fun x o hf e=>by
  obtain⟨h1,h2,_⟩:=m.ft e1 e2 hf
  refine⟨e,h1,?_⟩
  show (F.H0 x).or (Gz F α σ H x)=none
  rw[h2]
  show Gz F α σ H x=none
  cases q:Gz F α σ H x with
  |none=>rfl
  |some o=>exact absurd (.inr ⟨i,a,s,e1,e2,hf⟩) (zf q).1) rfl fun r _ _ l=>⟨l.tp,l.o,l.ok,l.k⟩
 dj:=m.dj
 xd:=m.xd
 tp:=m.tp.to rfl fun _ z=>z
 keep:=fun x o e n=>by
  have e':(F.H0 x).or (Gz F α σ H x)=some o:=e
  cases q:F.H0 x with
  |none=>rw[q,Option.none_or] at e';exact (zf e').2
  |some o'=>rw[q] at e';cases e';exact m.keep x _ q n
 oex:=m.oex
theorem M.down {G:Hp}(m:M (F.up G) α σ H):M F α σ H where
 len:=m.len
 ok:=fun i a s e1 e2=>(m.ok i a s e1 e2).stay (fun _ _ e=>e) (fun x o hf e=>by
  obtain⟨h1,h2,_⟩:=m.ft e1 e2 hf
  exact⟨e,h1,nX h2⟩) rfl fun r _ _ l=>⟨l.tp,l.o,l.ok,l.k⟩
 dj:=m.dj
 xd:=m.xd
 tp:=m.tp.to rfl fun _ z=>z
 keep:=fun x o e n=>m.keep x o (qf e) n
 oex:=m.oex
theorem M.upold {α0:Ev}{σ0:St}{H1:Hp}(m0:M F α0 σ0 H1)(m:M (F.up (Gz F α0 σ0 H1)) α σ H):zx (Gz F α0 σ0 H1) (Gz F α σ H):=fun a o e=>by
 obtain⟨h1,h2⟩:=zf e
 have e0:(F.up (Gz F α0 σ0 H1)).H0 a=some o:=by
  show (F.H0 a).or (Gz F α0 σ0 H1 a)=some o
  cases q:F.H0 a with
  |none=>exact e
  |some o'=>
   have:=m0.keep a o' q (m0.tp.nt (ow0 h1))
   rw[h2] at this;cases this;rfl
 exact m.old a o (zN (p:=fun x=>¬F.O0 x) (ow0 h1) e0)
end
def yI (F:Fr)(α:Ev)(σ:St)(H:Hp)(v:V)(H':Hp)(ds:List PyData):Prop:=
 ∃l xs,v=.ref l∧H l=none∧H' l=some (.lst xs)∧AVs (sub (fun x=>¬Ow F α σ x∧x≠l) H') xs ds
def jA (F:Fr)(α:Ev)(σ:St)(H:Hp)(v:V)(H':Hp)(c:PyData):Prop:=
 ∃l o,v=.ref l∧H l=none∧H' l=some o∧yP (sub (fun x=>¬Ow F α σ x∧x≠l) H') o c
theorem yI.c {F:Fr}{α:Ev}{σ:St}{H H':Hp}{v:V}{ds:List PyData}(h:yI F α σ H v H' ds):jA F α σ H v H' (.list ds):=by
 obtain⟨l,xs,h1,h2,h3,h4⟩:=h
 exact⟨l,_,h1,h2,h3,.lst h4⟩
theorem yI.av {F:Fr}{α:Ev}{σ:St}{H H':Hp}{v:V}{ds:List PyData}(m:M F α σ H)(h:yI F α σ H v H' ds):AV (Gz F α σ H') v (.list ds):=by
 obtain⟨l,xs,rfl,h1,h2,h3⟩:=h
 exact .lst (zN (m.fresh h1) h2) (h3.same (zr fun a o h e=>⟨h.1,e⟩))
section
variable (X:Cx)(α:Ev)
def EvD (e:Expr)(Q:PyData→Prop):Prop:=∀(F:Fr) (σ:St) (H:Hp) (R:VK),M F α σ H→(∀d v H',Q d→zF F H'→Kz F H H'→AV (Gz F α σ H') v d→R v H')→tf X e σ H R
def EvL (e:Expr)(Q:List PyData→Prop):Prop:=∀(F:Fr) (σ:St) (H:Hp) (R:VK),M F α σ H→(∀ds v H',Q ds→zF F H'→Kz F H H'→yI F α σ H v H' ds→R v H')→tf X e σ H R
def EvT (e:Expr)(Q:Bool→Prop):Prop:=∀(F:Fr) (σ:St) (H:Hp) (R:Bool→Hp→Prop),M F α σ H→(∀b H',Q b→zF F H'→Kz F H H'→R b H')→bF X e σ H R
def kg (F:Fr)(G:Hp)(v:V):A→Prop
 |.dat d=>AV G v d
 |.tape=>∃t b c,F.tp=some (t,b,c)∧v=.ref t
 |_=>False
inductive zY (F:Fr)(G:Hp):List V→List A→Prop where
 |nil:zY F G [] []
 |cons {v:V} {vs:List V} {a:A} {as:List A}:kg F G v a→zY F G vs as→zY F G (v::vs) (a::as)
def EvA (es:List Expr)(Q:List A→Prop):Prop:=∀(F:Fr) (σ:St) (H:Hp) (R:List V→Hp→Prop),M F α σ H→(∀as vs H',Q as→zF F H'→Kz F H H'→zY F (Gz F α σ H') vs as→R vs H')→bx X es σ H R
end
theorem kg.to {F F':Fr}{G G':Hp}(s:zx G G')(hp:F'.tp=F.tp){v:V}:∀{a:A},kg F G v a→kg F' G' v a
 |.dat _,h=>AV.same s h
 |.tape,⟨t,b,c,e,z⟩=>⟨t,b,c,hp.trans e,z⟩
 |.ow _,h=>h
 |.deep _ _,h=>h
 |.at _,h=>h
 |.exc _ _,h=>h
 |.pin _ _ _,h=>h
 |.nst _ _ _,h=>h
theorem zY.to {F F':Fr}{G G':Hp}(s:zx G G')(hp:F'.tp=F.tp):∀{vs:List V} {as:List A},zY F G vs as→zY F' G' vs as
 |_,_,.nil=>.nil
 |_,_,.cons h r=>.cons (h.to s hp) (zY.to s hp r)
theorem zY.length {F:Fr}{G:Hp}:∀{vs:List V} {as:List A},zY F G vs as→vs.length=as.length
 |_,_,.nil=>rfl
 |_,_,.cons _ r=>by rw[ze7,ze7,zY.length r]
def A.d :A→PyData
 |.dat d=>d
 |.ow c=>c
 |.deep d _=>d
 |.nst _ _ dss=>.list (dss.map .list)
 |_=>.none
def fv (F:Fr)(v:V)(H':Hp):A→Prop
 |.dat d=>AV (sub (fun x=>¬F.O0 x) H') v d
 |.ow c=>∃l xs ds,v=.ref l∧c=.list ds∧F.H0 l=none∧¬F.O0 l∧H' l=some (.lst xs)∧AVs (sub (fun x=>¬F.O0 x∧x≠l) H') xs ds
 |.deep d S=>AV (oe S (sub (fun x=>¬F.O0 x) H') H') v d∧∀x,S x→¬F.O0 x∧F.H0 x=none∧∃xs,H' x=some (.lst xs)
 |.nst l ls dss=>v=.ref l∧H' l=some (.lst (ls.map .ref))∧xu (sub (fun x=>¬F.O0 x∧x∉l::ls) H') H' ls dss∧(l::ls).Nodup∧∀x∈l::ls,¬F.O0 x∧F.H0 x=none
 |_=>False
def xX (F:Fr)(v:V)(H':Hp)(a:A):Prop:=zF F H'∧Kz F F.H0 H'∧fv F v H' a
def spA (φ:List A→(A→Prop)→Prop):Sp:=fun vs H Qc _=>∃(F:Fr) (as:List A) (Q:A→Prop),F.H0=H∧zF F H∧(∀x,F.O0 x→∃o,H x=some o∧xT o)∧zY F (sub (fun x=>¬F.O0 x) H) vs as∧φ as Q∧∀a v H',Q a→xX F v H' a→Qc v H'
theorem fv.to {F F':Fr}{v:V}{H':Hp}{a:A}(r:fv F v H' a)(ho:∀x,F'.O0 x→F.O0 x)(h0:∀x,F.H0 x=none→F'.H0 x=none):fv F' v H' a:=by
 have s:zx (sub (fun x=>¬F.O0 x) H') (sub (fun x=>¬F'.O0 x) H'):=zr fun a o h e=>⟨fun z=>h (ho _ z),e⟩
 cases a with
 |dat d=>exact AV.same s r
 |ow c=>
  obtain⟨l,xs,ds,h1,hc,h2,h3,h4,h5⟩:=r
  exact⟨l,xs,ds,h1,hc,h0 _ h2,fun z=>h3 (ho _ z),h4,h5.same (zr fun a o h e=>⟨⟨fun z=>h.1 (ho _ z),h.2⟩,e⟩)⟩
 |deep d S=>
  obtain⟨h1,h2⟩:=r
  refine⟨h1.same (vM s fun _ _ _ e=>e),fun x z=>?_⟩
  obtain⟨z1,z2,z3⟩:=h2 x z
  exact⟨fun w=>z1 (ho _ w),h0 _ z2,z3⟩
 |tape=>exact r
 |«at» _=>exact r
 |exc _ _=>exact r
 |pin _ _ _=>exact r
 |nst l ls dss=>
  obtain⟨h1,h2,h3,h4,h5⟩:=r
  exact⟨h1,h2,h3.same (zr fun a o h e=>⟨⟨fun z=>h.1 (ho _ z),h.2⟩,e⟩) (fun _ _ _ e=>e),h4,fun x hx=>⟨fun z=>(h5 x hx).1 (ho _ z),h0 _ (h5 x hx).2⟩⟩
structure yw where
 nx:Ev→Prop
 rt:A→Prop
 bk:Ev→Prop:=fun _=>False
 ct:Ev→Prop:=fun _=>False
structure sf (F:Fr)(E:yw)(D:Ends):Prop where
 nx:∀α σ H,M F α σ H→E.nx α→D.nx σ H
 rt:∀a v H,xX F v H a→E.rt a→D.rt v H
 bk:∀α σ H,M F α σ H→E.bk α→D.bk σ H
 ct:∀α σ H,M F α σ H→E.ct α→D.ct σ H
def SvS (X:Cx)(α:Ev)(sts:List Stmt)(E:yw):Prop:=∀(F:Fr) (σ:St) (H:Hp) (D:Ends),M F α σ H→sf F E D→iW X sts D σ H
theorem sf.up {F:Fr}{G:Hp}{E:yw}{D:Ends}(e:sf F E D):sf (F.up G) E D where
 nx:=fun α σ H m q=>e.nx α σ H m.down q
 bk:=fun α σ H m q=>e.bk α σ H m.down q
 ct:=fun α σ H m q=>e.ct α σ H m.down q
 rt:=fun a v H r q=>e.rt a v H (by
  obtain⟨t,k,r⟩:=r
  exact⟨t.to rfl fun _ z=>z,fun x o e n=>k x o (qf e) n,r.to (fun _ z=>z) fun x z=>nX z⟩) q
section
variable {X:Cx}{α:Ev}{e a b c:Expr}{es:List Expr}{pos p q:Pos}{Q:PyData→Prop}
theorem EvL.d (h:EvL X α e (fun ds=>Q (.list ds))):EvD X α e Q:=fun F σ H R m k=>h F σ H R m fun ds v H' q t z f=>k _ v H' q t z (f.av m)
theorem EvD.imp {Q':PyData→Prop}(h:EvD X α e Q')(k:∀d,Q' d→Q d):EvD X α e Q:=fun F σ H R m r=>h F σ H R m fun d v H' q=>r d v H' (k d q)
theorem zg (i:Nat){x:Str}{d:PyData}(hi:α[i]?=some (some (.dat d)))(q:Q d)(hN:X.N[i]?=some x:=by rfl)(hv:Vis X.env.scope x:=by first|exact Or.inl rfl|exact Or.inr (Or.inl rfl)|exact Or.inr (Or.inr rfl))
  (hd:(x == ("__debug__":Str))=false:=by decide) (hcd:(x == ("__classdict__":Str))=false:=by decide):EvD X α (.Name x pos) Q:=fun F σ H R m k=>by
 obtain⟨v,h1,h2⟩:=m.dat i d hi
 exact⟨_,xF hN hv hd hcd,v,h1,k d v H q m.tp Kz.refl h2⟩
theorem zo {i:Int}{j:Nat}(q:Q (.int i)):EvD X α (.Constant (.int i) j pos) Q:=fun F σ H R m k=>⟨_,zw,k _ _ H q m.tp Kz.refl (.int i)⟩
theorem ik {i:Bool}{j:Nat}(q:Q (.bool i)):EvD X α (.Constant (.bool i) j pos) Q:=fun F σ H R m k=>⟨_,bw,k _ _ H q m.tp Kz.refl (.bl i)⟩
theorem tG {j:Nat}(q:Q .none):EvD X α (.Constant .none j pos) Q:=fun F σ H R m k=>⟨_,rG,k _ _ H q m.tp Kz.refl .non⟩
theorem zO {x:Str}{j:Nat}(q:Q (.str x)):EvD X α (.Constant (.str x) j pos) Q:=fun F σ H R m k=>⟨_,zI,k _ _ H q m.tp Kz.refl (.str x)⟩
theorem iT {x:Str}{i:Int}(hg:Gl X x)(hm:∃t,X.mg x=some (.int i t))(q:Q (.int i))(hd:(x == ("__debug__":Str))=false:=by decide):EvD X α (.Name x pos) Q:=fun F σ H R m k=>by
 obtain⟨t,hm⟩:=hm
 exact⟨_,wH hg hm (show RelV (.int i) (.int i t) from ⟨t,rfl⟩) hd,k _ _ H q m.tp Kz.refl (.int i)⟩
theorem tX {f:TE→TE→TE}(hf:PE X e (f (tf X a) (tf X b)))(hr:∀σ H R,f (tf X a) (tf X b) σ H R↔tf X a σ H (fun x H1=>tf X b σ H1 fun y H2=>f (tC x) (tC y) σ H2 R))
  (h:EvD X α a fun x=>EvD X α b fun y=>∀(F:Fr) (σ:St) (H:Hp) (vx vy:V) (R:VK),M F α σ H→AV (Gz F α σ H) vx x→AV (Gz F α σ H) vy y→(∀d v H',Q d→zF F H'→Kz F H H'→AV (Gz F α σ H') v d→R v H')→f (tC vx) (tC vy) σ H R):
  EvD X α e Q:=fun F σ H R m k=>by
 refine⟨_,hf,(hr σ H R).mpr ?_⟩
 refine h F σ H _ m fun x vx H1 q1 t1 k1 r1=>?_
 have m1:=m.kz k1 t1
 refine q1 F σ H1 _ m1 fun y vy H2 q2 t2 k2 r2=>?_
 exact q2 F σ H2 vx vy R (m1.kz k2 t2) (r1.same (k2.gz m1.tp)) r2 fun d v H' qd t3 k3 r3=>k d v H' qd t3 ((k1.trans k2).trans k3) r3
theorem AV.int_inv {H:Hp}{v:V}{i:Int}(h:AV H v (.int i)):v=.int i:=by cases h;rfl
theorem AV.bl_inv {H:Hp}{v:V}{i:Bool}(h:AV H v (.bool i)):v=.bl i:=by cases h;rfl
theorem AV.str_inv {H:Hp}{v:V}{i:Str}(h:AV H v (.str i)):v=.str i:=by cases h;rfl
theorem AV.tup_inv {H:Hp}{v:V}{ds:List PyData}(h:AV H v (.tuple ds)):∃a xs,v=.ref a∧H a=some (.tup xs)∧AVs H xs ds:=by cases h;exact⟨_,_,rfl,by assumption,by assumption⟩
theorem AV.lst_inv {H:Hp}{v:V}{ds:List PyData}(h:AV H v (.list ds)):∃a xs,v=.ref a∧H a=some (.lst xs)∧AVs H xs ds:=by cases h;exact⟨_,_,rfl,by assumption,by assumption⟩
theorem AV.non_inv {H:Hp}{v:V}(h:AV H v .none):v=.non:=by cases h;rfl
theorem AV.isnon {H:Hp}{v:V}{d:PyData}(h:AV H v d):decide (v=.non)=(match d with|.none=>true|_=>false):=by cases h<;>simp
theorem qc {op:Operator}{C:Int→Int→Prop}{g:Int→Int→V}{gd:Int→Int→PyData}(ho:OpR X (binaryOp op) (rI C g))(hg:∀H i j,AV H (g i j) (gd i j))
  (h:EvD X α a fun x=>EvD X α b fun y=>∃i j,x=.int i∧y=.int j∧C i j∧Q (gd i j)):EvD X α (.BinOp a op b pos) Q:=by
 refine tX (f:=tOp (rI C g)) (yN ho zi zi) (fun _ _ _=>Iff.rfl) (h.imp fun x h=>h.imp fun y ⟨i,j,e1,e2,hc,hq⟩=>?_)
 subst e1 e2
 intro F σ H vx vy R m rx ry k
 cases rx.int_inv;cases ry.int_inv
 exact⟨i,j,rfl,rfl,hc,k _ _ H hq m.tp Kz.refl (hg _ i j)⟩
theorem mD {op:Operator}{g:Int→Int→V}{gd:Int→Int→PyData}(ho:OpR X (binaryOp op) (rI0 g))(hg:∀H i j,AV H (g i j) (gd i j))
  (h:EvD X α a fun x=>EvD X α b fun y=>∃i j,x=.int i∧y=.int j∧Q (gd i j)):EvD X α (.BinOp a op b pos) Q:=by
 refine tX (f:=tOp (rI0 g)) (yN ho zi zi) (fun _ _ _=>Iff.rfl) (h.imp fun x h=>h.imp fun y ⟨i,j,e1,e2,hq⟩=>?_)
 subst e1 e2
 intro F σ H vx vy R m rx ry k
 cases rx.int_inv;cases ry.int_inv
 exact⟨i,j,rfl,rfl,k _ _ H hq m.tp Kz.refl (hg _ i j)⟩
theorem yR (h:EvD X α a fun x=>EvD X α b fun y=>∃i j,x=.int i∧y=.int j∧Q (.int (i+j))):EvD X α (.BinOp a .Add b pos) Q:=mD (gd:=fun i j=>.int (i+j)) rT (fun _ _ _=>.int _) h
theorem uY (h:EvD X α a fun x=>EvD X α b fun y=>∃i j,x=.int i∧y=.int j∧Q (.int (i-j))):EvD X α (.BinOp a .Sub b pos) Q:=mD (gd:=fun i j=>.int (i-j)) iu (fun _ _ _=>.int _) h
theorem sU (h:EvD X α a fun x=>EvD X α b fun y=>∃i j,x=.int i∧y=.int j∧gB i j∧Q (.int (i*j))):EvD X α (.BinOp a .Mult b pos) Q:=qc (gd:=fun i j=>.int (i*j)) qr (fun _ _ _=>.int _) h
theorem cD (h:EvD X α a fun x=>EvD X α b fun y=>∃i j,x=.int i∧y=.int j∧dH i j∧Q (.int (i ^ j.toNat))):EvD X α (.BinOp a .Pow b pos) Q:=qc (gd:=fun i j=>.int (i ^ j.toNat)) dD (fun _ _ _=>.int _) h
theorem kL (h:EvD X α a fun x=>EvD X α b fun y=>∃i j,x=.int i∧y=.int j∧0<j∧Q (.int (i % j))):EvD X α (.BinOp a .Mod b pos) Q:=qc (gd:=fun i j=>.int (i % j)) tP (fun _ _ _=>.int _) h
theorem me (h:EvD X α a fun x=>EvD X α b fun y=>∃i j,x=.int i∧y=.int j∧eX i j∧Q (.int (i / j))):EvD X α (.BinOp a .FloorDiv b pos) Q:=qc (gd:=fun i j=>.int (i / j)) tD (fun _ _ _=>.int _) h
theorem yJ {i j r:Int}{p1 p2:Pos}{n1 n2:Nat}(hc:dH i j)(hr:i ^ j.toNat=r)(q:Q (.int r)):EvD X α (.BinOp (.Constant (.int i) n1 p1) .Pow (.Constant (.int j) n2 p2) pos) Q:=
 cD (zo (zo ⟨i,j,rfl,rfl,hc,hr▸q⟩))
theorem jh (h:EvD X α a fun x=>∃i,x=.int i∧Q (.int (-i))):EvD X α (.UnaryOp .USub a pos) Q:=fun F σ H R m k=>by
 refine⟨_,bN cL zi,?_⟩
 refine h F σ H _ m fun x vx H1 q1 t1 k1 r1=>?_
 obtain⟨i,rfl,q⟩:=q1
 cases r1.int_inv
 exact⟨i,rfl,k _ _ H1 q t1 k1 (.int _)⟩
def ma :PyData→Bool
 |.none=>true
 |_=>false
theorem AV.non_iff {H:Hp}{v:V}{d:PyData}(h:AV H v d):decide (v=.non)=ma d:=by cases h<;>simp[ma]
theorem jz {Q:Bool→Prop}(h:EvD X α e fun x=>∃k,x=.bool k∧Q k)(he:∀whole,isTrue e X.env whole=(do let v ←whole;standAt e.pos;holding [v] (truthy v)):=by intro _;rfl):EvT X α e Q:=fun F σ H R m k=>by
 refine⟨_,kX zi he,?_⟩
 refine h F σ H _ m fun x vx H1 q1 t1 k1 r1=>?_
 obtain⟨b,rfl,q⟩:=q1
 cases r1.bl_inv
 exact⟨b,rfl,k b H1 q t1 k1⟩
def Cmp (r:R2)(x y:PyData)(k:Bool):Prop:=∀(p:Addr→Prop) (H:Hp) (vx vy:V) (R:VK),AV (sub p H) vx x→AV (sub p H) vy y→R (.bl k) H→r vx vy H R
theorem wg {op:CmpOp}{r:R2}{Q:Bool→Prop}(ho:OpR X (compareOp op) r)(hm:behindInMarks op b=false)(h:EvD X α a fun x=>EvD X α b fun y=>∃k,Cmp r x y k∧Q k):EvT X α (.Compare a [op] [b] pos) Q:=fun F σ H R m k=>by
 refine⟨_,yk ho zi zi hm,?_⟩
 refine h F σ H _ m fun x vx H1 q1 t1 k1 r1=>?_
 have m1:=m.kz k1 t1
 refine q1 F σ H1 _ m1 fun y vy H2 q2 t2 k2 r2=>?_
 obtain⟨b,hc,q⟩:=q2
 exact hc _ H2 vx vy _ (r1.same (k2.gz m1.tp)) r2 ⟨b,rfl,k b H2 q t2 (k1.trans k2)⟩
theorem gA {g:Int→Int→Bool}{i j:Int}:Cmp (rI0 fun i j=>.bl (g i j)) (.int i) (.int j) (g i j):=fun p H vx vy R rx ry h=>by
 cases rx.int_inv;cases ry.int_inv
 exact⟨i,j,rfl,rfl,h⟩
theorem rM {op:CmpOp}{g:Int→Int→Bool}{Q:Bool→Prop}(ho:OpR X (compareOp op) (rI0 fun i j=>.bl (g i j)))(hm:behindInMarks op b=false)
  (h:EvD X α a fun x=>EvD X α b fun y=>∃i j,x=.int i∧y=.int j∧Q (g i j)):EvT X α (.Compare a [op] [b] pos) Q:=
 wg ho hm (h.imp fun x h=>h.imp fun y ⟨i,j,e1,e2,q⟩=>⟨_,by subst e1 e2;exact gA,q⟩)
theorem aD {Q:Bool→Prop}(h:EvD X α a fun x=>EvD X α b fun y=>∃i j,x=.int i∧y=.int j∧Q (decide (i<j))):EvT X α (.Compare a [.Lt] [b] pos) Q:=rM af (zH _) h
theorem eO {Q:Bool→Prop}(h:EvD X α a fun x=>EvD X α b fun y=>∃i j,x=.int i∧y=.int j∧Q (decide (j<i))):EvT X α (.Compare a [.Gt] [b] pos) Q:=rM dh (zH _) h
theorem eR {Q:Bool→Prop}(h:EvD X α a fun x=>EvD X α b fun y=>∃i j,x=.int i∧y=.int j∧Q (decide (j≤i))):EvT X α (.Compare a [.GtE] [b] pos) Q:=rM aM (zH _) h
theorem rp {j:Nat}{Q:Bool→Prop}(h:EvD X α a fun x=>Q (ma x)):EvT X α (.Compare a [.Is] [.Constant .none j p] pos) Q:=
 wg oa (zH _) (h.imp fun x h=>tG ⟨_,fun p H vx vy R rx ry z=>⟨ry.non_inv,by rw[rx.non_iff];exact z⟩,h⟩)
theorem mv {j:Nat}{Q:Bool→Prop}(h:EvD X α a fun x=>Q (!ma x)):EvT X α (.Compare a [.IsNot] [.Constant .none j p] pos) Q:=
 wg gY (zH _) (h.imp fun x h=>tG ⟨_,fun p H vx vy R rx ry z=>⟨ry.non_inv,by rw[rx.non_iff];exact z⟩,h⟩)
def zb7 :PyData→Option Bool
 |.none=>some false
 |.bool b=>some b
 |.int i=>some (i != 0)
 |.list ds=>some (!ds.isEmpty)
 |.tuple ds=>some (!ds.isEmpty)
 |_=>none
theorem AVs.isEmpty {H:Hp}{xs:List V}{ds:List PyData}(h:AVs H xs ds):xs.isEmpty=ds.isEmpty:=by cases h<;>rfl
theorem jJ {Q:Bool→Prop}(h:EvD X α e fun x=>∃k,zb7 x=some k∧Q k)(he:∀whole,isTrue e X.env whole=(do let v ←whole;standAt e.pos;holding [v] (truthy v)):=by intro _;rfl):EvT X α e Q:=fun F σ H R m k=>by
 refine⟨_,jn zi he,?_⟩
 refine h F σ H _ m fun x vx H1 q1 t1 k1 r1=>?_
 obtain⟨b,hb,q⟩:=q1
 refine⟨b,?_,k b H1 q t1 k1⟩
 cases r1 with
 |non=>cases hb;rfl
 |bl z=>cases hb;rfl
 |int i=>cases hb;rfl
 |str s=>cases hb
 |lst h1 h2=>cases hb;exact .inl ⟨_,SqL.of (zf h1).2,by rw[h2.isEmpty]⟩
 |tup h1 h2=>cases hb;exact .inr (.inl ⟨_,SqT.of (zf h1).2,by rw[h2.isEmpty]⟩)
 |ins _ _=>cases hb
 |dk _ _=>cases hb
 |dt _ _=>cases hb
 |xc _ _ _=>cases hb
 |xn _=>cases hb
theorem jI {Q:Bool→Prop}(h:EvT X α a fun k=>Q (!k)):EvT X α (.UnaryOp .Not a pos) Q:=fun F σ H R m k=>by
 refine⟨_,kZ xJ,?_⟩
 exact h F σ H _ m fun b H1 q1 t1 k1=>k _ H1 q1 t1 k1
def EvW (X:Cx)(α:Ev)(e:Expr)(Q:Bool→Prop):Prop:=∀(F:Fr) (σ:St) (H:Hp) (R:Bool→Hp→Prop),M F α σ H→(∀b H',Q b→zF F H'→Kz F H H'→R b H')→∃t,PW X e t∧t σ H R
def za7 (X:Cx)(e:Expr):TT:=fun σ H Q=>∃t,PW X e t∧t σ H Q
theorem mi :PW X e (za7 X e):=fun w pins s σ H Q I ⟨t,p,q⟩=>p w pins s σ H Q I q
theorem EvW.t {Q:Bool→Prop}(h:EvW X α e Q):EvT X α e Q:=fun F σ H R m k=>by
 obtain⟨t,p,q⟩:=h F σ H R m k
 exact⟨t,p.pt,q⟩
variable {rest:List Expr}
theorem uE {Q:Bool→Prop}(h:EvT X α a Q):EvW X α (.BoolOp .And [a] pos) Q:=fun F σ H R m k=>⟨_,gP xJ,h F σ H R m k⟩
theorem dN {Q:Bool→Prop}(h:EvT X α a Q):EvW X α (.BoolOp .Or [a] pos) Q:=fun F σ H R m k=>⟨_,oj xJ,h F σ H R m k⟩
theorem rE {Q:Bool→Prop}(h:EvT X α a fun k=>if k=true then EvW X α (.BoolOp .And (b::rest) pos) Q else Q false):EvW X α (.BoolOp .And (a::b::rest) pos) Q:=fun F σ H R m k=>by
 refine⟨_,bb xJ mi,?_⟩
 refine h F σ H _ m fun c H1 q1 t1 k1=>?_
 cases c with
 |true=>exact ux ((by simpa using q1:EvW X α _ Q) F σ H1 R (m.kz k1 t1) fun b H2 q2 t2 k2=>k b H2 q2 t2 (k1.trans k2))
 |false=>exact uP (k _ H1 (by simpa using q1) t1 k1)
theorem eU {Q:Bool→Prop}(h:EvT X α a fun k=>if k=true then Q true else EvW X α (.BoolOp .Or (b::rest) pos) Q):EvW X α (.BoolOp .Or (a::b::rest) pos) Q:=fun F σ H R m k=>by
 refine⟨_,kJ xJ mi,?_⟩
 refine h F σ H _ m fun c H1 q1 t1 k1=>?_
 cases c with
 |false=>exact uP ((by simpa using q1:EvW X α _ Q) F σ H1 R (m.kz k1 t1) fun b H2 q2 t2 k2=>k b H2 q2 t2 (k1.trans k2))
 |true=>exact ux (k _ H1 (by simpa using q1) t1 k1)
theorem ou (h:EvT X α c fun k=>if k=true then EvD X α a Q else EvD X α b Q):EvD X α (.IfExp c a b pos) Q:=fun F σ H R m k=>by
 refine⟨_,jU xJ zi zi,?_⟩
 refine h F σ H _ m fun x H1 q1 t1 k1=>?_
 cases x with
 |true=>exact ux ((by simpa using q1:EvD X α _ Q) F σ H1 R (m.kz k1 t1) fun d v H2 q2 t2 k2 r2=>k d v H2 q2 t2 (k1.trans k2) r2)
 |false=>exact uP ((by simpa using q1:EvD X α _ Q) F σ H1 R (m.kz k1 t1) fun d v H2 q2 t2 k2 r2=>k d v H2 q2 t2 (k1.trans k2) r2)
theorem wj (hs:uC b)(h:EvD X α a fun x=>EvD X α b fun y=>∃ds i d,x=.list ds∧y=.int i∧atI ds i=some d∧Q d):EvD X α (.Subscript a b pos) Q:=by
 refine tX (f:=tOp (cM X.K)) (yi yU zi zi hs) (fun _ _ _=>Iff.rfl) (h.imp fun x h=>h.imp fun y ⟨ds,i,d,e1,e2,hat,hq⟩=>?_)
 subst e1 e2
 intro F σ H vx vy R m rx ry k
 obtain⟨a,xs,rfl,h1,h2⟩:=rx.lst_inv
 cases ry.int_inv
 obtain⟨v,hv,av⟩:=h2.atI hat
 exact⟨a,xs,i,v,rfl,rfl,SqL.of (zf h1).2,hv,k d v H hq m.tp Kz.refl av⟩
theorem rW (hs:uC b)(h:EvD X α a fun x=>EvD X α b fun y=>∃ds i d,x=.tuple ds∧y=.int i∧atI ds i=some d∧Q d):EvD X α (.Subscript a b pos) Q:=by
 refine tX (f:=tOp (cz X.K)) (yi yn zi zi hs) (fun _ _ _=>Iff.rfl) (h.imp fun x h=>h.imp fun y ⟨ds,i,d,e1,e2,hat,hq⟩=>?_)
 subst e1 e2
 intro F σ H vx vy R m rx ry k
 obtain⟨a,xs,rfl,h1,h2⟩:=rx.tup_inv
 cases ry.int_inv
 obtain⟨v,hv,av⟩:=h2.atI hat
 exact⟨a,xs,i,v,rfl,rfl,SqT.of (zf h1).2,hv,k d v H hq m.tp Kz.refl av⟩
def EvO (X:Cx)(α:Ev)(e:Option Expr)(Q:Option Int→Prop):Prop:=∀(F:Fr) (σ:St) (H:Hp) (R:Option Int→Hp→Prop),M F α σ H→(∀i H',Q i→zF F H'→Kz F H H'→R i H')→∃t,PO X e t∧t σ H R
def zb9 (X:Cx)(e:Option Expr):TO:=fun σ H Q=>∃t,PO X e t∧t σ H Q
theorem nG {e:Option Expr}:PO X e (zb9 X e):=fun pins s σ H Q I ⟨t,p,q⟩=>p pins s σ H Q I q
theorem fu {Q:Option Int→Prop}(q:Q none):EvO X α none Q:=fun F σ H R m k=>⟨_,nk,k _ H q m.tp Kz.refl⟩
theorem fX {Q:Option Int→Prop}(h:EvD X α a fun x=>∃i,x=.int i∧Q (some i)):EvO X α (some a) Q:=fun F σ H R m k=>by
 refine⟨_,nZ zi,?_⟩
 refine h F σ H _ m fun x vx H1 q1 t1 k1 r1=>?_
 obtain⟨i,rfl,q⟩:=q1
 cases r1.int_inv
 exact⟨i,rfl,k _ H1 q t1 k1⟩
theorem M.lay {F:Fr}{σ:St}{H:Hp}{l:Addr}{xs:List V}{ds:List PyData}(m:M F α σ H)(hl:H l=none)(h:AVs (Gz F α σ H) xs ds):zF F (upd H l (.lst xs))∧Kz F H (upd H l (.lst xs))∧yI F α σ H (.ref l) (upd H l (.lst xs)) ds:=by
 refine⟨m.tp.same (zM hl),Kz.of_same (zM hl),l,xs,rfl,hl,zh,h.same (zr fun a o ha e=>?_)⟩
 have:=zm e hl
 exact⟨⟨ha,this⟩,by rw[zj this];exact e⟩
theorem di {lo hi:Option Expr}{Q:List PyData→Prop}(h:EvD X α a fun x=>EvO X α lo fun l=>EvO X α hi fun u=>∃ds,x=.list ds∧Q (cutD ds l u)):EvL X α (.Subscript a (.Slice lo hi none p) pos) Q:=fun F σ H R m k=>by
 refine⟨_,pj nN zi nG nG,?_⟩
 refine h F σ H _ m fun x vx H1 q1 t1 k1 r1=>?_
 have m1:=m.kz k1 t1
 refine q1 F σ H1 _ m1 fun l H2 q2 t2 k2=>?_
 have m2:=m1.kz k2 t2
 refine q2 F σ H2 _ m2 fun u H3 q3 t3 k3=>?_
 have m3:=m2.kz k3 t3
 obtain⟨ds,rfl,q⟩:=q3
 obtain⟨a,xs,rfl,h1,h2⟩:=(r1.same ((k2.gz m1.tp).trans (k3.gz m2.tp))).lst_inv
 refine⟨a,xs,rfl,SqL.of (zf h1).2,fun p hp=>?_⟩
 obtain⟨g1,g2,g3⟩:=m3.lay hp (h2.cut l u)
 have kk:=(k1.trans k2).trans k3
 obtain⟨l',xs',e1,e2,e3,e4⟩:=g3
 refine k _ _ _ q g1 (kk.trans g2) ⟨l',xs',e1,?_,e3,e4⟩
 cases z:H l' with
 |none=>rfl
 |some o=>rw[kk l' o z (m.tp.nt (ow0 (m3.fresh e2)))] at e2;cases e2
theorem yI.back {F:Fr}{σ:St}{H H1 H':Hp}{v:V}{ds:List PyData}(m:M F α σ H)(k:Kz F H H1)(t1:zF F H1)(h:yI F α σ H1 v H' ds):yI F α σ H v H' ds:=by
 obtain⟨l',xs',e1,e2,e3,e4⟩:=h
 refine⟨l',xs',e1,?_,e3,e4⟩
 cases z:H l' with
 |none=>rfl
 |some o=>rw[k l' o z (m.tp.nt (ow0 ((m.kz k t1).fresh e2)))] at e2;cases e2
theorem zk {Q:List A→Prop}(q:Q []):EvA X α [] Q:=fun F σ H R m k=>⟨_,zv,k _ _ H q m.tp Kz.refl .nil⟩
theorem zb {Q:List A→Prop}(h:EvD X α e fun d=>EvA X α es fun as=>Q (.dat d::as))(hs:starEach (e::es) X.env=(false,eval e X.env)::starEach es X.env:=by rfl):EvA X α (e::es) Q:=fun F σ H R m k=>by
 refine⟨_,ze zi yT hs,?_⟩
 refine h F σ H _ m fun d v H1 q1 t1 k1 r1=>?_
 have m1:=m.kz k1 t1
 exact q1 F σ H1 _ m1 fun as vs H2 q2 t2 k2 r2=>k _ _ H2 q2 t2 (k1.trans k2) (.cons (r1.same (k2.gz m1.tp)) r2)
theorem zy {Q:List A→Prop}(i:Nat){x:Str}(hi:α[i]?=some (some .tape))(h:EvA X α es fun as=>Q (.tape::as))(hN:X.N[i]?=some x:=by rfl)(hv:Vis X.env.scope x:=by first|exact Or.inl rfl|exact Or.inr (Or.inl rfl)|exact Or.inr (Or.inr rfl))
  (hd:(x == ("__debug__":Str))=false:=by decide) (hcd:(x == ("__classdict__":Str))=false:=by decide) (hs:starEach (.Name x pos::es) X.env=(false,eval (.Name x pos) X.env)::starEach es X.env:=by rfl):EvA X α (.Name x pos::es) Q:=fun F σ H R m k=>by
 obtain⟨t,b,c,h1,h2⟩:=m.tvar i hi
 refine⟨_,ze (xF hN hv hd hcd) yT hs,.ref t,h2,?_⟩
 exact h F σ H _ m fun as vs H2 q2 t2 k2 r2=>k _ _ H2 q2 t2 k2 (.cons ⟨t,b,c,h1,rfl⟩ r2)
def datas :List A→Option (List PyData)
 |[]=>some []
 |.dat d::r=>(datas r).map (d::·)
 |_::_=>none
theorem zY.datas {F:Fr}{G:Hp}:∀{vs:List V} {as:List A} {ds:List PyData},zY F G vs as→L2.datas as=some ds→AVs G vs ds
 |_,_,ds,.nil,h=>by cases h;exact .nil
 |_,_,ds,.cons (a:=.dat d) (as:=as) h r,e=>by
  simp only[L2.datas,zf0] at e
  obtain⟨es,e1,rfl⟩:=e
  exact .cons h (zY.datas r e1)
 |_,_,ds,.cons (a:=.ow _) h r,e=>by cases h
 |_,_,ds,.cons (a:=.deep _ _) h r,e=>by cases h
 |_,_,ds,.cons (a:=.exc _ _) h r,e=>by cases h
 |_,_,ds,.cons (a:=.pin _ _ _) h r,e=>by cases h
 |_,_,ds,.cons (a:=.nst _ _ _) h r,e=>by cases h
 |_,_,ds,.cons (a:=.tape) h r,e=>by cases e
 |_,_,ds,.cons (a:=.at _) h r,e=>by cases h
theorem vf {n:Nat}(h:EvA X α es fun as=>∃ds,datas as=some ds∧ds.length≤1000∧Q (.tuple ds)):EvD X α (.Tuple es n pos) Q:=fun F σ H R m k=>by
 refine⟨_,oH yT,?_⟩
 refine h F σ H _ m fun as vs H1 q1 t1 k1 r1=>?_
 obtain⟨ds,e,hl,q⟩:=q1
 have r:=r1.datas e
 have m1:=m.kz k1 t1
 refine⟨by rw[r.length];exact zh2 (yB hl),fun p hp=>?_⟩
 refine k _ _ _ q (t1.same (zM hp)) (k1.trans (Kz.of_same (zM hp))) (.tup (xs:=vs) (zN (m1.fresh hp) zh) (r.same (zr fun a o ha e=>⟨ha,by rw[zj (zm e hp)];exact e⟩)))
theorem yh {Q:List PyData→Prop}(h:EvA X α es fun as=>∃ds,datas as=some ds∧ds.length≤1000∧Q ds):EvL X α (.List es pos) Q:=fun F σ H R m k=>by
 refine⟨_,iK yT,?_⟩
 refine h F σ H _ m fun as vs H1 q1 t1 k1 r1=>?_
 obtain⟨ds,e,hl,q⟩:=q1
 have r:=r1.datas e
 have m1:=m.kz k1 t1
 refine⟨by rw[r.length];exact zh2 (yB hl),fun p hp=>?_⟩
 obtain⟨g1,g2,g3⟩:=m1.lay hp r
 exact k _ _ _ q g1 (k1.trans g2) (g3.back m k1 t1)
theorem wQ {Q:List PyData→Prop}(h:EvD X α a fun x=>EvD X α b fun y=>∃ds es,x=.list ds∧y=.list es∧ds.length+es.length≤1000∧Q (ds++es)):EvL X α (.BinOp a .Add b pos) Q:=fun F σ H R m k=>by
 refine⟨_,yN ju zi zi,?_⟩
 refine h F σ H _ m fun x vx H1 q1 t1 k1 r1=>?_
 have m1:=m.kz k1 t1
 refine q1 F σ H1 _ m1 fun y vy H2 q2 t2 k2 r2=>?_
 have m2:=m1.kz k2 t2
 obtain⟨ds,es,rfl,rfl,hl,q⟩:=q2
 obtain⟨a,xs,rfl,h1,h2⟩:=(r1.same (k2.gz m1.tp)).lst_inv
 obtain⟨b,ys,rfl,h3,h4⟩:=r2.lst_inv
 refine⟨a,b,xs,ys,rfl,rfl,(zf h1).2,(zf h3).2,by rw[h2.length,h4.length];exact zh2 (yB hl),fun p hp=>?_⟩
 obtain⟨g1,g2,g3⟩:=m2.lay hp (h2.append h4)
 exact k _ _ _ q g1 ((k1.trans k2).trans g2) (g3.back m (k1.trans k2) t2)
theorem uT {id:String}{x:Str}{r:List V→Hp→VK→Prop}(hc:xZ X (.builtin id) r)(hg:Gl X x)(hm:X.mg x=none)(hv:bootBuiltins x=some (.builtin id))
  (h:EvA X α (e::es) fun as=>∀(F:Fr) (σ:St) (H:Hp) (vs:List V) (R:VK),M F α σ H→zY F (Gz F α σ H) vs as→(∀d v H',Q d→zF F H'→Kz F H H'→AV (Gz F α σ H') v d→R v H')→r vs H R)
  (hn:x≠"__name__":=by decide) (hdb:(x == ("__debug__":Str))=false:=by decide) (he:starEach (e::es) X.env=(false,eval e X.env)::starEach es X.env:=by rfl) (hpl:(backTo pos (starEach es X.env)).any (·.1)=false:=by rfl):
  EvD X α (.Call (.Name x p) (e::es) [] pos) Q:=fun F σ H R m k=>by
 refine⟨_,yv hc hg hm hv yT hn hdb he hpl,?_⟩
 refine h F σ H _ m fun as vs H1 q1 t1 k1 r1=>?_
 exact q1 F σ H1 vs R (m.kz k1 t1) r1 fun d v H' qd t2 k2 r2=>k d v H' qd t2 (k1.trans k2) r2
end
section
variable {X:Cx}{α:Ev}{e a b c:Expr}{es:List Expr}{pos p q:Pos}{Q:PyData→Prop}
theorem zY.one {F:Fr}{G:Hp}{vs:List V}{d:PyData}(h:zY F G vs [.dat d]):∃v,vs=[v]∧AV G v d:=by
 cases h with|cons h r=>cases r;exact⟨_,rfl,h⟩
theorem zY.two {F:Fr}{G:Hp}{vs:List V}{d e:PyData}(h:zY F G vs [.dat d,.dat e]):∃v u,vs=[v,u]∧AV G v d∧AV G u e:=by
 cases h with|cons h r=>obtain⟨u,rfl,h2⟩:=r.one;exact⟨_,u,rfl,h,h2⟩
def zc0 :PyData→Option Int
 |.list ds=>some ds.length
 |.tuple ds=>some ds.length
 |_=>none
theorem sZ (hg:Gl X "len")(hm:X.mg "len"=none)(h:EvD X α e fun x=>∃n,zc0 x=some n∧Q (.int n))(he:starEach [e] X.env=(false,eval e X.env)::starEach [] X.env:=by rfl):
  EvD X α (.Call (.Name "len" p) [e] [] pos) Q:=by
 refine uT xD hg hm PySem.boot_len (zb (h.imp fun x ⟨n,e1,q⟩=>zk ?_) he) (he:=he)
 intro F σ H vs R m rv k
 obtain⟨v,rfl,av⟩:=rv.one
 cases av with
 |lst h1 h2=>cases e1;rw[←h2.length] at q;exact⟨_,_,rfl,.inl (SqL.of (zf h1).2),k _ _ H q m.tp Kz.refl (.int _)⟩
 |tup h1 h2=>cases e1;rw[←h2.length] at q;exact⟨_,_,rfl,.inr (SqT.of (zf h1).2),k _ _ H q m.tp Kz.refl (.int _)⟩
 |_=>cases e1
theorem jV (hc:X.calm=true)(hg:Gl X "max")(hm:X.mg "max"=none)(h:EvD X α a fun x=>EvD X α b fun y=>∃i j,x=.int i∧y=.int j∧Q (.int (if j > i then j else i)))
  (he:starEach [a,b] X.env=(false,eval a X.env)::starEach [b] X.env:=by rfl) (he2:starEach [b] X.env=(false,eval b X.env)::starEach [] X.env:=by rfl) (hpl:(backTo pos (starEach [b] X.env)).any (·.1)=false:=by rfl):
  EvD X α (.Call (.Name "max" p) [a,b] [] pos) Q:=by
 refine uT (lq hc) hg hm boot_max (zb (h.imp fun x h=>zb (h.imp fun y ⟨i,j,e1,e2,q⟩=>zk ?_) he2) he) (he:=he) (hpl:=hpl)
 intro F σ H vs R m rv k
 subst e1 e2
 obtain⟨v,u,rfl,av,au⟩:=rv.two
 cases av.int_inv;cases au.int_inv
 exact⟨i,j,rfl,k _ _ H q m.tp Kz.refl (.int _)⟩
theorem ox (hc:X.calm=true)(hg:Gl X "min")(hm:X.mg "min"=none)(h:EvD X α a fun x=>EvD X α b fun y=>∃i j,x=.int i∧y=.int j∧Q (.int (if j<i then j else i)))
  (he:starEach [a,b] X.env=(false,eval a X.env)::starEach [b] X.env:=by rfl) (he2:starEach [b] X.env=(false,eval b X.env)::starEach [] X.env:=by rfl) (hpl:(backTo pos (starEach [b] X.env)).any (·.1)=false:=by rfl):
  EvD X α (.Call (.Name "min" p) [a,b] [] pos) Q:=by
 refine uT (mQ hc) hg hm boot_min (zb (h.imp fun x h=>zb (h.imp fun y ⟨i,j,e1,e2,q⟩=>zk ?_) he2) he) (he:=he) (hpl:=hpl)
 intro F σ H vs R m rv k
 subst e1 e2
 obtain⟨v,u,rfl,av,au⟩:=rv.two
 cases av.int_inv;cases au.int_inv
 exact⟨i,j,rfl,k _ _ H q m.tp Kz.refl (.int _)⟩
def uQ :PyData→Option (List PyData)
 |.list ds=>some ds
 |.tuple ds=>some ds
 |_=>none
section
variable {k:Nat}{f:Addr}{fd:FuncData}{ps:List Str}{φ:List A→(A→Prop)→Prop}{x:Str}
theorem xQ {F:Fr}{σ:St}{H:Hp}{vs:List V}{as:List A}{QA:A→Prop}{R:VK}(m:M F α σ H)(rv:zY F (Gz F α σ H) vs as)(hφ:φ as QA)
  (kk:∀a v H',QA a→xX ⟨H,Ow F α σ,F.tp⟩ v H' a→R v H') {E:XK}:spA φ (vs++[]) H R E:=by
 refine⟨⟨H,Ow F α σ,F.tp⟩,as,QA,rfl,?_,?_,?_,hφ,kk⟩
 ·exact m.tp.to rfl fun _ z=>.inl z
 ·exact fun y z=>m.owEx z
 ·rw[zk4]
  exact zY.to (F:=F) (F':=⟨H,Ow F α σ,F.tp⟩) (fun _ _ e=>e) rfl rv
theorem xX.back {F:Fr}{σ:St}{H H':Hp}{v:V}{a:A}(m:M F α σ H)(h:xX ⟨H,Ow F α σ,F.tp⟩ v H' a):zF F H'∧Kz F H H'∧AV (Gz F α σ H') v a.d:=by
 obtain⟨t,kz,r⟩:=h
 refine⟨m.tp.re t rfl,kz,?_⟩
 cases a with
 |dat d=>exact r
 |ow c=>
  obtain⟨l,xs,ds,rfl,rfl,h1,h2,h3,h4⟩:=r
  exact .lst (zN h2 h3) (h4.same (zr fun a o h e=>⟨h.1,e⟩))
 |deep d S=>
  obtain⟨h1,h2⟩:=r
  refine h1.same fun x o e=>?_
  rcases iH e with ⟨z1,z2⟩|⟨_,z2⟩
  ·exact zN (h2 x z1).1 z2
  ·exact z2
 |tape=>exact r.elim
 |«at» _=>exact r.elim
 |exc _ _=>exact r.elim
 |pin _ _ _=>exact r.elim
 |nst l ls dss=>
  obtain⟨rfl,h2,h3,h4,h5⟩:=r
  exact .lst (zN (h5 l zd7).1 h2) (h3.avs (zr fun a o h e=>⟨h.1,e⟩) fun a ha=>(h5 a (zd2 _ ha)).1)
theorem fo (G:zB X.prog X.w X.K X.mg X.base CX0 k f fd ps (spA φ))(hr:zR k X.A)(hg:Gl X x)(hm:X.mg x=some (.ref f))(hk:PySem.W.keepIn X.K (.ref f)=true)(hb:Binds X.K fd ps [])
  (h:EvA X α (e::es) fun as=>φ as fun a=>Q a.d) (hdb:(x == ("__debug__":Str))=false:=by decide) (he:starEach (e::es) X.env=(false,eval e X.env)::starEach es X.env:=by rfl) (hpl:(backTo pos (starEach es X.env)).any (·.1)=false:=by rfl):
  EvD X α (.Call (.Name x p) (e::es) [] pos) Q:=fun F σ H R m kk=>by
 refine⟨_,zL G hr hg hm hk hb .nil zP yT hdb he hpl,?_⟩
 refine h F σ H _ m fun as vs H1 q1 t1 k1 r1=>?_
 have m1:=m.kz k1 t1
 refine xQ m1 r1 q1 fun a v H' qa ra=>?_
 obtain⟨g1,g2,g3⟩:=ra.back m1
 exact kk _ v H' qa g1 (k1.trans g2) g3
theorem fh {Q:List PyData→Prop}(G:zB X.prog X.w X.K X.mg X.base CX0 k f fd ps (spA φ))(hr:zR k X.A)(hg:Gl X x)(hm:X.mg x=some (.ref f))(hk:PySem.W.keepIn X.K (.ref f)=true)(hb:Binds X.K fd ps [])
  (h:EvA X α (e::es) fun as=>φ as fun a=>∃ds,a=.own ds∧Q ds) (hdb:(x == ("__debug__":Str))=false:=by decide) (he:starEach (e::es) X.env=(false,eval e X.env)::starEach es X.env:=by rfl) (hpl:(backTo pos (starEach es X.env)).any (·.1)=false:=by rfl):
  EvL X α (.Call (.Name x p) (e::es) [] pos) Q:=fun F σ H R m kk=>by
 refine⟨_,zL G hr hg hm hk hb .nil zP yT hdb he hpl,?_⟩
 refine h F σ H _ m fun as vs H1 q1 t1 k1 r1=>?_
 have m1:=m.kz k1 t1
 refine xQ m1 r1 q1 fun a v H' qa ra=>?_
 obtain⟨ds,rfl,q⟩:=qa
 obtain⟨g1,g2,_⟩:=ra.back m1
 obtain⟨_,_,l,xs,ds',rfl,hc,h1,h2,h3,h4⟩:=ra
 cases hc
 exact kk ds _ H' q g1 (k1.trans g2) (yI.back m k1 t1 ⟨l,xs,rfl,h1,h3,h4⟩)
end
theorem pQ {i j:Nat}{x:Option A}(h:i≠j):(α.set i x)[j]?=α[j]?:=zh6 h
theorem zV {i:Nat}{x:Option A}{j:Nat}{y:Option A}(h:(α.set i x)[j]?=some y):(i=j∧x=y)∨(i≠j∧α[j]?=some y):=by
 by_cases hij:i=j
 ·subst hij
  left
  have hl:i<α.length:=by
   have:=(zd1.mp h).1
   rwa [zh5] at this
  rw[zk1 hl] at h
  exact⟨rfl,zg2 h⟩
 ·right
  rw[zh6 hij] at h
  exact⟨hij,h⟩
theorem M.put {F:Fr}{σ:St}{H:Hp}{i:Nat}{b:Option A}(m:M F α σ H)(hf:∀s c x,σ[i]?=some s→b=some c→foot s c x→∃a,α[i]?=some (some a)∧foot s a x)
  (hok:∀s c,i<α.length→σ[i]?=some s→b=some c→xo (Gz F (α.set i b) σ H) F H s c) (hx:∀c,b=some c→noX c:=by intro c z;cases z;trivial):zx (Gz F α σ H) (Gz F (α.set i b) σ H)∧M F (α.set i b) σ H:=by
 have gs:zx (Gz F α σ H) (Gz F (α.set i b) σ H):=zr fun a o h e=>⟨fun z=>h (by
  rcases z with z|⟨j,c,s,e1,e2,f⟩
  ·exact .inl z
  ·rcases zV e1 with ⟨rfl,z⟩|⟨hj,e1'⟩
   ·obtain⟨a',h1,h2⟩:=hf s c a e2 z f
    exact .inr ⟨i,a',s,h1,e2,h2⟩
   ·exact .inr ⟨j,c,s,e1',e2,f⟩),e⟩
 have old:∀{j:Nat} {c:A} {s:Option V} {x:Addr},(α.set i b)[j]?=some (some c)→σ[j]?=some s→foot s c x→∃a,α[j]?=some (some a)∧foot s a x:=fun {j c s x} e1 e2 f=>by
  rcases zV e1 with ⟨rfl,z⟩|⟨hj,e1'⟩
  ·exact hf s c x e2 z f
  ·exact⟨c,e1',f⟩
 refine⟨gs,by rw[zh5];exact m.len,fun j c s e1 e2=>?_,fun j k c d s t x e1 e2 h1 h2 f1 f2=>?_,fun j r q e j' c s x e1 e2 f=>?_,m.tp,m.keep,m.oex⟩
 ·rcases zV e1 with ⟨rfl,z⟩|⟨hj,e1'⟩
  ·refine hok s c ?_ e2 z
   have:=(zd1.mp e1).1
   rwa [zh5] at this
  ·exact (m.ok j c s e1' e2).stay gs (fun x o f e=>⟨e,(m.ft e1' e2 f).1,(m.ft e1' e2 f).2.1⟩) rfl fun _ _ _ l=>l
 ·obtain⟨a',g1,g2⟩:=old e1 h1 f1
  obtain⟨b',g3,g4⟩:=old e2 h2 f2
  exact m.dj j k a' b' s t x g1 g3 h1 h2 g2 g4
 ·obtain⟨a',g1,g2⟩:=old e1 e2 f
  rcases zV e with ⟨rfl,z⟩|⟨_,e'⟩
  ·exact (hx _ z).elim
  ·exact m.xd j r q e' j' a' s x g1 e2 g2
theorem M.gave {F:Fr}{σ:St}{H:Hp}{i:Nat}{a:A}{s:Option V}{b:Option A}{x:Addr}(m:M F α σ H)(e1:α[i]?=some (some a))(e2:σ[i]?=some s)(f:foot s a x)(hb:∀c,b=some c→¬foot s c x):¬Ow F (α.set i b) σ x:=by
 rintro (z|⟨j,c,t,h1,h2,g⟩)
 ·exact (m.ft e1 e2 f).1 z
 ·rcases zV h1 with ⟨rfl,z⟩|⟨hj,h1'⟩
  ·rw[e2] at h2;cases h2;exact hb c z g
  ·exact hj (m.dj i j a c s t x e1 h1' e2 h2 f g)
theorem dW {F:Fr}{σ:St}{H:Hp}{i:Nat}{b:A}(hb:∀s x,¬foot s b x):zx (Gz F α σ H) (Gz F (α.set i (some b)) σ H):=zr fun a o h e=>⟨fun z=>h (by
 rcases z with z|⟨j,c,s,e1,e2,f⟩
 ·exact .inl z
 ·rcases zV e1 with ⟨rfl,z⟩|⟨hj,e1'⟩
  ·cases z;exact (hb _ _ f).elim
  ·exact .inr ⟨j,c,s,e1',e2,f⟩),e⟩
theorem M.frz {F:Fr}{σ:St}{H:Hp}{i:Nat}{ds:List PyData}(m:M F α σ H)(hi:α[i]?=some (some (.own ds))):M F (α.set i (some (.dat (.list ds)))) σ H:=
 (m.put (b:=some (.dat (.list ds))) (fun s c' x _ z f=>by cases z;exact f.elim) fun s c' _ e2 z=>by
  cases z
  obtain⟨l,o,h1,h2,h3,h4,h5⟩:=m.owc i _ hi
  rw[h1] at e2;cases e2
  exact⟨.ref l,rfl,(h3.same (dW (b:=.dat (.list ds)) fun _ _ f=>f)).av (zN (m.gave hi h1 rfl fun c z=>by cases z;exact id) h2)⟩).2
theorem dE {F:Fr}{σ:St}{H H':Hp}{i:Nat}{a:A}{b:Option A}(m:M F α σ H)(k:Kz F H H')(hi:α[i]?=some (some a))(x:Addr)(o:HO)(ho:¬Ob o)(h:Gz F (α.set i b) σ H' x=some o):Gz F α σ H' x=some o:=by
 obtain⟨h1,h2⟩:=zf h
 refine zN ?_ h2
 rintro (z|⟨j,c,s,e1,e2,f⟩)
 ·exact h1 (.inl z)
 ·by_cases hj:i=j
  ·subst hj
   obtain⟨g1,g2,o',g3,g4⟩:=m.ft e1 e2 f
   rw[k _ _ g3 (m.tp.nt g1)] at h2;cases h2;exact ho g4
  ·exact h1 (.inr ⟨j,c,s,by rw[pQ hj];exact e1,e2,f⟩)
theorem mq (i:Nat){ds:List PyData}(hi:α[i]?=some (some (.own ds)))(h:EvD X (α.set i (some (.dat (.list ds)))) e fun d=>noL d=true∧Q d):EvD X α e Q:=fun F σ H R m k=>
 h F σ H R (m.frz hi) fun d v H' q t kz r=>k d v H' q.2 t kz (r.noL (dE m kz hi) q.1)
theorem rL {Q:Bool→Prop}(i:Nat){ds:List PyData}(hi:α[i]?=some (some (.own ds)))(h:EvT X (α.set i (some (.dat (.list ds)))) e Q):EvT X α e Q:=fun F σ H R m k=>h F σ H R (m.frz hi) k
def ItW (p:Addr→Prop)(J:It)(ds:List PyData)(G:Hp):Prop:=∀(i:Nat) (H2:Hp) (q:Addr→Prop),zx G (sub q H2)→
 (∀d,ds[i]?=some d→J.go i H2∧∀x H3,J.yld i H2 x H3→zx H2 H3∧((∀a o,H3 a=some o→H2 a=none→q a)→AV (sub q H3) x d))∧(ds.length≤i→J.stop i H2)
def gh (X:Cx)(tg e:Expr):TI:=fun σ H R=>∃t,PI X tg e t∧t σ H R
theorem uD {tg e:Expr}:PI X tg e (gh X tg e):=fun pins s σ H R I ⟨t,p,q⟩=>p pins s σ H R I q
def EvI (X:Cx)(α:Ev)(tg e:Expr)(Q:List PyData→Prop):Prop:=∀(F:Fr) (σ:St) (H:Hp) (R:It→Hp→Prop),M F α σ H→
 (∀ds J H',Q ds→zF F H'→Kz F H H'→ItW (fun x=>¬Ow F α σ x) J ds (Gz F α σ H')→R J H')→gh X tg e σ H R
theorem xN {tg:Expr}{Q:List PyData→Prop}(h:EvD X α e fun x=>∃ds,x=.list ds∧Q ds):EvI X α tg e Q:=fun F σ H R m k=>by
 refine⟨_,nR zi,?_⟩
 refine h F σ H _ m fun x vx H1 q1 t1 k1 r1=>?_
 obtain⟨ds,rfl,q⟩:=q1
 obtain⟨a,xs,rfl,h1,h2⟩:=r1.lst_inv
 refine⟨a,rfl,⟨xs,SqL.of (zf h1).2⟩,k ds _ H1 q t1 k1 fun i H2 p s=>⟨fun d hd=>?_,fun hl=>?_⟩⟩
 ·obtain⟨x,hx,av⟩:=h2.get hd
  have ha:=SqL.of (K:=X.K) (zf (s _ _ h1)).2
  refine⟨⟨xs,x,ha,hx⟩,fun x' H3 y=>?_⟩
  obtain⟨e,y⟩:=y
  subst e
  have:=y xs ha
  rw[hx] at this;cases this
  exact⟨zx.refl _,fun _=>av.same s⟩
 ·exact⟨xs,SqL.of (zf (s _ _ h1)).2,by rw[h2.length];exact hl⟩
theorem lb {p:Addr→Prop}{lo:Int}{n:Nat}{G:Hp}:ItW p (Itr lo n) ((vN lo n).map .int) G:=fun i H2 q s=>⟨fun d hd=>by
  rw[ze4,zf0] at hd
  obtain⟨z,h1,rfl⟩:=hd
  have hi:i<n:=by
   have:=(zd1.mp h1).1
   rwa [zX] at this
  rw[tJ hi] at h1
  cases h1
  refine⟨hi,fun x H3 y=>?_⟩
  obtain⟨rfl,rfl⟩:=y
  exact⟨zx.refl _,fun _=>.int _⟩,fun hl=>by
  rw[zd5,zX] at hl
  exact hl⟩
theorem ua {tg:Expr}{Q:List PyData→Prop}(hg:Gl X "range")(hm:X.mg "range"=none)(h:EvD X α a fun x=>∃j,x=.int j∧-(2 ^ 62)≤j∧j<2 ^ 62∧Q ((vN 0 j.toNat).map .int))(hs:starEach [a] X.env=[(false,eval a X.env)]:=by rfl):
  EvI X α tg (.Call (.Name "range" p) [a] [] pos) Q:=fun F σ H R m k=>by
 refine⟨_,mS hg hm (ze zi zv hs) hs,?_⟩
 refine h F σ H _ m fun x vx H1 q1 t1 k1 r1=>?_
 obtain⟨j,rfl,b1,b2,q⟩:=q1
 cases r1.int_inv
 exact⟨j,rfl,b1,b2,k _ _ H1 q t1 k1 lb⟩
end
inductive Pat where
 |one (i:Nat)
 |many (is:List Nat)
 |nest (i:Nat) (is:List Nat)
def xk :List Nat→List PyData→Ev→Option Ev
 |[],[],α=>some α
 |i::is,d::ds,α=>xk is ds (α.set i (some (.dat d)))
 |_,_,_=>none
def Pat.bind :Pat→PyData→Ev→Option Ev
 |.one i,d,α=>some (α.set i (some (.dat d)))
 |.many is,.tuple ds,α=>xk is ds α
 |.nest i is,.tuple [d,.tuple ds],α=>xk is ds (α.set i (some (.dat d)))
 |_,_,_=>none
def gIs :List Nat→TGs
 |[]=>cJ
 |i::is=>nq (tq i) (gIs is)
def sV (K:PySem.W.Frag):Pat→TG
 |.one i=>tq i
 |.many is=>kA K is.length (gIs is)
 |.nest i is=>kA K 2 (nq (tq i) (nq (kA K is.length (gIs is)) cJ))
def Pat.slots :Pat→List Nat
 |.one i=>[i]
 |.many is=>is
 |.nest i is=>i::is
def isFree (α:Ev)(i:Nat):Bool:=match α[i]? with
 |some none=>true
 |_=>false
def Pat.free (p:Pat)(α:Ev):Bool:=p.slots.all (isFree α)
section
variable {X:Cx}{α α':Ev}{F:Fr}{σ:St}{H:Hp}
theorem M.store {i:Nat}{v:V}{b:A}{H':Hp}(m:M F α σ H)(t:zF F H')(k:Kz F H H')(hn:∀x,foot (some v) b x→H x=none)(hok:xo (sub (fun x=>¬Ow F α σ x∧¬foot (some v) b x) H') F H' (some v) b)(hx:noX b:=by trivial):M F (α.set i (some b)) (σ.set i (some v)) H':=by
 have m':=m.kz k t
 have hs:∀{j:Nat} {c:A} {s:Option V},(α.set i (some b))[j]?=some (some c)→(σ.set i (some v))[j]?=some s→(i=j∧c=b∧s=some v)∨(i≠j∧α[j]?=some (some c)∧σ[j]?=some s):=fun {j c s} e1 e2=>by
  rcases zV e1 with ⟨rfl,z⟩|⟨hj,e1'⟩
  ·cases z
   have hl:i<σ.length:=by
    have:=(zd1.mp e2).1
    rwa [zh5] at this
   rw[zk1 hl] at e2
   cases e2
   exact .inl ⟨rfl,rfl,rfl⟩
  ·rw[zh6 hj] at e2
   exact .inr ⟨hj,e1',e2⟩
 have ow:∀{y:Addr},Ow F (α.set i (some b)) (σ.set i (some v)) y→Ow F α σ y∨foot (some v) b y:=fun {y} h=>by
  rcases h with z|⟨j,c,s,e1,e2,f⟩
  ·exact .inl (.inl z)
  ·rcases hs e1 e2 with ⟨_,rfl,rfl⟩|⟨_,g1,g2⟩
   ·exact .inr f
   ·exact .inl (.inr ⟨j,c,s,g1,g2,f⟩)
 have g1:zx (sub (fun x=>¬Ow F α σ x∧¬foot (some v) b x) H') (Gz F (α.set i (some b)) (σ.set i (some v)) H'):=zr fun a o h e=>⟨fun z=>(ow z).elim h.1 h.2,e⟩
 have g0:zx (Gz F α σ H) (sub (fun x=>¬Ow F α σ x∧¬foot (some v) b x) H'):=zr fun a o h e=>⟨⟨h,fun z=>by rw[hn a z] at e;cases e⟩,k a o e (m.tp.nt (ow0 h))⟩
 refine⟨by rw[zh5,zh5];exact m.len,fun j c s e1 e2=>?_,fun j j' c d s s' x e1 e2 h1 h2 f1 f2=>?_,fun j r q e j' c s x e1 e2 f=>?_,t,m.keep.trans k,m'.oex⟩
 ·rcases hs e1 e2 with ⟨rfl,rfl,rfl⟩|⟨_,z1,z2⟩
  ·exact hok.stay g1 (fun x o f e=>by
    obtain⟨w1,w2,_⟩:=rO hok f
    exact⟨e,w1,w2⟩) rfl fun _ _ _ l=>l
  ·exact (m.ok j c s z1 z2).stay (g0.trans g1) (fun x o f e=>by
    obtain⟨w1,w2,_⟩:=m.ft z1 z2 f
    exact⟨k x o e (m.tp.nt w1),w1,w2⟩) rfl fun _ _ _ l=>l.kz k t
 ·have nn:∀{j:Nat} {c:A} {s:Option V},α[j]?=some (some c)→σ[j]?=some s→foot s c x→¬foot (some v) b x:=fun {j c s} z1 z2 f g=>by
   obtain⟨_,_,o,w,_⟩:=m.ft z1 z2 f
   rw[hn x g] at w;cases w
  rcases hs e1 h1 with ⟨rfl,rfl,rfl⟩|⟨_,z1,z2⟩
  ·rcases hs e2 h2 with ⟨rfl,_⟩|⟨_,w1,w2⟩
   ·rfl
   ·exact absurd f1 (nn w1 w2 f2)
  ·rcases hs e2 h2 with ⟨rfl,rfl,rfl⟩|⟨_,w1,w2⟩
   ·exact absurd f2 (nn z1 z2 f1)
   ·exact m.dj j j' c d s s' x z1 w1 z2 w2 f1 f2
 ·rcases zV e with ⟨rfl,z⟩|⟨_,e'⟩
  ·cases z;exact hx.elim
  ·rcases hs e1 e2 with ⟨rfl,rfl,rfl⟩|⟨_,z1,z2⟩
   ·exact (m.lnk e').none (hn x f)
   ·exact m.xd j r q e' j' c s x z1 z2 f
theorem M.set {i:Nat}{v:V}{d:PyData}(m:M F α σ H)(av:AV (Gz F α σ H) v d):M F (α.set i (some (.dat d))) (σ.set i (some v)) H:=
 m.store m.tp Kz.refl (fun x z=>z.elim) ⟨v,rfl,av.same (zr fun a o h e=>⟨⟨h,fun z=>z⟩,e⟩)⟩
theorem M.setC {i:Nat}{v:V}{c:PyData}{H':Hp}(m:M F α σ H)(t:zF F H')(k:Kz F H H')(fl:jA F α σ H v H' c):M F (α.set i (some (.ow c))) (σ.set i (some v)) H':=by
 obtain⟨l,o,rfl,h1,h2,h3⟩:=fl
 have nl:¬Ow F α σ l:=m.fresh h1
 refine m.store t k (fun x z=>?_) ⟨l,o,rfl,h2,h3.same (zr fun a o h e=>⟨⟨h.1,fun z=>h.2 (by cases z;rfl)⟩,e⟩),ow0 nl,m.fresh0 h1⟩
 have z':some (V.ref l)=some (.ref x):=z
 cases z';exact h1
theorem M.setOwn {i:Nat}{v:V}{ds:List PyData}{H':Hp}(m:M F α σ H)(t:zF F H')(k:Kz F H H')(fl:yI F α σ H v H' ds):M F (α.set i (some (.own ds))) (σ.set i (some v)) H':=m.setC t k fl.c
theorem M.wr {x:Addr}{o:HO}(m:M F α σ H)(hno:xT o)(ho:F.O0 x)(ht:∀t b c,F.tp=some (t,b,c)→x≠t∧x≠b∧x≠c)(h0:F.H0 x=none)(hpl:Plain H x)(hx:∀(i:Nat) r q,α[i]?=some (some (.exc r q))→r.H0 x=none):M F α σ (upd H x o):=by
 have gs:zx (Gz F α σ H) (Gz F α σ (upd H x o)):=zr fun a u h e=>⟨h,by rw[zj (fun z=>h (.inl (by rw[z];exact ho)))];exact e⟩
 refine⟨m.len,fun j c s e1 e2=>?_,m.dj,m.xd,m.tp.upd ht hpl,fun y u e n=>?_,fun y hy=>?_⟩
 ·have:=m.ok j c s e1 e2
  cases c with
  |exc r q=>
   have l:Lnk r F H:=this
   exact⟨l.tp,l.o,l.ok.upd (fun a b c e=>ht a b c (l.tp▸e)) hpl,fun y u e n=>by rw[zj (zm e (hx j r q e1))];exact l.k y u e n⟩
  |_=>exact this.stay gs (fun y u f e=>by
    obtain⟨w1,w2,_⟩:=m.ft e1 e2 f
    exact⟨by rw[zj (fun z=>w1 (by rw[z];exact ho))];exact e,w1,w2⟩) rfl fun _ _ z=>by cases z
 ·rw[zj (zm e h0)];exact m.keep y u e n
 ·by_cases z:y=x
  ·exact⟨o,by rw[z];exact zh,hno⟩
  ·obtain⟨u,hu,hn⟩:=m.oex y hy
   exact⟨u,by rw[zj z];exact hu,hn⟩
theorem M.forget {α0:Ev}(m:M F α σ H)(hl:α0.length=α.length)(le:∀(i:Nat) a,α0[i]?=some (some a)→α[i]?=some (some a)):M F α0 σ H:=by
 have ow:∀{y:Addr},Ow F α0 σ y→Ow F α σ y:=fun {y} h=>by
  rcases h with z|⟨j,c,s,e1,e2,f⟩
  ·exact .inl z
  ·exact .inr ⟨j,c,s,le _ _ e1,e2,f⟩
 have gs:zx (Gz F α σ H) (Gz F α0 σ H):=zr fun a o h e=>⟨fun z=>h (ow z),e⟩
 exact⟨hl.trans m.len,fun j c s e1 e2=>(m.ok j c s (le _ _ e1) e2).stay gs (fun x o f e=>⟨e,(m.ft (le _ _ e1) e2 f).1,(m.ft (le _ _ e1) e2 f).2.1⟩) rfl fun _ _ _ l=>l,fun j j' c d s s' x e1 e2=>m.dj j j' c d s s' x (le _ _ e1) (le _ _ e2),fun j r q e j' c s x e1=>m.xd j r q (le _ _ e) j' c s x (le _ _ e1),m.tp,m.keep,m.oex⟩
theorem vK {H:Hp}:∀{is:List Nat} {ds:List PyData} {α α':Ev} {σ:St} {xs:List V} {R:St→Hp→Prop},xk is ds α=some α'→M F α σ H→(∀G,zx (Gz F α σ H) G→AVs G xs ds)→(∀σ',M F α' σ' H→R σ' H)→gIs is xs σ H R
 |[],[],α,α',σ,xs,R,e,m,av,k=>by
  cases e
  cases av _ (zx.refl _)
  exact⟨rfl,k σ m⟩
 |i::is,d::ds,α,α',σ,xs,R,e,m,av,k=>by
  cases h:av _ (zx.refl _) with
  |@cons x xs _ _ h1 h2=>
   refine⟨x,xs,rfl,?_⟩
   have gs:zx (Gz F α σ H) (Gz F (α.set i (some (.dat d))) (σ.set i (some x)) H):=zr fun a o h e=>⟨fun z=>h (by
    rcases z with z|⟨j,c,s,e1,e2,f⟩
    ·exact .inl z
    ·rcases zV e1 with ⟨_,z⟩|⟨hj,e1'⟩
     ·cases z;exact f.elim
     ·rw[zh6 hj] at e2
      exact .inr ⟨j,c,s,e1',e2,f⟩),e⟩
   exact vK (is:=is) (ds:=ds) e (m.set (i:=i) h1) (fun G s=>h2.same (gs.trans s)) k
 |[],_::_,_,_,_,_,_,e,_,_,_=>by cases e
 |_::_,[],_,_,_,_,_,e,_,_,_=>by cases e
theorem Pat.nest_inv {i:Nat}{is:List Nat}{d:PyData}(e:(Pat.nest i is).bind d α=some α'):∃d0 ds,d=.tuple [d0,.tuple ds]∧xk is ds (α.set i (some (.dat d0)))=some α':=by
 cases d with
 |tuple xs=>
  cases xs with
  |nil=>cases e
  |cons d0 r=>
   cases r with
   |nil=>cases e
   |cons d1 r=>
    cases r with
    |nil=>
     cases d1 with
     |tuple ds=>exact⟨_,_,rfl,e⟩
     |_=>cases e
    |cons _ _=>cases d1<;>cases e
 |_=>cases e
theorem sJ :∀{is:List Nat} {ds:List PyData} {α α':Ev},xk is ds α=some α'→ds.length=is.length:=by
 intro is
 induction is with
 |nil=>intro ds α α' h;cases ds with|nil=>rfl|cons _ _=>cases h
 |cons i is ih=>intro ds α α' h;cases ds with|nil=>cases h|cons d ds=>rw[ze7,ze7,ih h]
theorem rN {K:PySem.W.Frag}{pat:Pat}{d:PyData}{v:V}{R:St→Hp→Prop}(e:pat.bind d α=some α')(m:M F α σ H)(av:AV (Gz F α σ H) v d)(k:∀σ',M F α' σ' H→R σ' H):sV K pat v σ H R:=by
 cases pat with
 |one i=>cases e;exact k _ (m.set av)
 |many is=>
  cases d with
  |tuple ds=>
   obtain⟨a,xs,rfl,h1,h2⟩:=av.tup_inv
   exact⟨a,xs,rfl,SqT.of (zf h1).2,by rw[h2.length];exact sJ e,vK e m (fun G s=>h2.same s) k⟩
  |_=>cases e
 |nest i is=>
  obtain⟨d0,ds,rfl,e⟩:=Pat.nest_inv e
  obtain⟨a,xs,rfl,h1,h2⟩:=av.tup_inv
  cases h2 with
  |@cons x0 r _ _ z1 z2=>
   cases z2 with
   |@cons x1 r _ _ z3 z4=>
    cases z4
    have m1:=m.set (i:=i) z1
    have gs:zx (Gz F α σ H) (Gz F (α.set i (some (.dat d0))) (σ.set i (some x0)) H):=zr fun a o h e=>⟨fun z=>h (by
     rcases z with z|⟨j,c,s,e1,e2,f⟩
     ·exact .inl z
     ·rcases zV e1 with ⟨_,z⟩|⟨hj,e1'⟩
      ·cases z;exact f.elim
      ·rw[zh6 hj] at e2
       exact .inr ⟨j,c,s,e1',e2,f⟩),e⟩
    obtain⟨b,ys,rfl,w1,w2⟩:=(z3.same gs).tup_inv
    exact⟨a,_,rfl,SqT.of (zf h1).2,rfl,_,_,rfl,_,_,rfl,⟨b,ys,rfl,SqT.of (zf w1).2,by rw[w2.length];exact sJ e,vK e m1 (fun G s=>w2.same s) fun σ' m'=>⟨rfl,k σ' m'⟩⟩⟩
theorem uU :∀{is:List Nat} {ds:List PyData} {α α':Ev},xk is ds α=some α'→α'.length=α.length
 |[],[],_,_,e=>by cases e;rfl
 |i::is,d::ds,α,α',e=>by
  have:=uU (is:=is) (ds:=ds) e
  rwa [zh5] at this
 |[],_::_,_,_,e=>by cases e
 |_::_,[],_,_,e=>by cases e
theorem tT :∀{is:List Nat} {ds:List PyData} {α α':Ev} {j:Nat},xk is ds α=some α'→j∉is→α'[j]?=α[j]?
 |[],[],_,_,_,e,_=>by cases e;rfl
 |i::is,d::ds,α,α',j,e,h=>by
  rw[tT (is:=is) (ds:=ds) e fun z=>h (zd2 _ z)]
  exact zh6 fun (z:i=j)=>h (by rw[←z];exact zd7)
 |[],_::_,_,_,_,e,_=>by cases e
 |_::_,[],_,_,_,e,_=>by cases e
theorem uW :∀{is:List Nat} {ds:List PyData} {α α':Ev} {j:Nat} {a:A},xk is ds α=some α'→α'[j]?=some (some a)→(∀d,a≠.dat d)→α[j]?=some (some a)
 |[],[],_,_,_,_,e,h,_=>by cases e;exact h
 |i::is,d::ds,α,α',j,a,e,h,hn=>by
  rcases zV (uW (is:=is) (ds:=ds) e h hn) with ⟨_,z⟩|⟨_,z⟩
  ·cases z;exact absurd rfl (hn d)
  ·exact z
 |[],_::_,_,_,_,_,e,_,_=>by cases e
 |_::_,[],_,_,_,_,e,_,_=>by cases e
theorem Pat.is_ok {pat:Pat}{d:PyData}(e:pat.bind d α=some α'):∃is ds,pat.slots=is∧xk is ds α=some α':=by
 cases pat with
 |one i=>cases e;exact⟨_,[d],rfl,rfl⟩
 |many is=>
  cases d with
  |tuple ds=>exact⟨_,ds,rfl,e⟩
  |_=>cases e
 |nest i is=>
  obtain⟨d0,ds,rfl,e⟩:=Pat.nest_inv e
  exact⟨_,d0::ds,rfl,e⟩
theorem Pat.back {pat:Pat}{d:PyData}(e:pat.bind d α=some α')(fr:pat.free α=true)(m:M F α' σ H):M F α σ H:=by
 obtain⟨is,ds,rfl,e⟩:=Pat.is_ok e
 refine m.forget (uU e).symm fun j a h=>?_
 by_cases hj:j∈pat.slots
 ·have:=zm3.mp fr j hj
  unfold isFree at this
  rw[h] at this
  cases this
 ·rw[tT e hj];exact h
end
section
variable {X:Cx}{α:Ev}
def du (X:Cx)(α:Ev)(ifs:List Expr)(Q:Bool→Prop):Prop:=∀(F:Fr) (σ:St) (H:Hp) (R:Bool→Hp→Prop),M F α σ H→(∀b H',Q b→zF F H'→Kz F H H'→R b H')→∃t,wO X ifs t∧t σ H R
def eM (X:Cx)(ifs:List Expr):TT:=fun σ H R=>∃t,wO X ifs t∧t σ H R
theorem nY {ifs:List Expr}:wO X ifs (eM X ifs):=fun pins s σ H Q I ⟨t,p,q⟩=>p pins s σ H Q I q
theorem iC {Q:Bool→Prop}(q:Q true):du X α [] Q:=fun F σ H R m k=>⟨_,gK,k _ H q m.tp Kz.refl⟩
def seen :Option A→Option A
 |some (.dat d)=>some (.dat d)
 |some .tape=>some .tape
 |_=>none
def yE (imp:List (Option Nat))(α:Ev):Ev:=imp.map fun o=>o.bind fun j=>(α[j]?).bind seen
theorem qS {imp:List (Option Nat)}{i:Nat}{a:A}(h:(yE imp α)[i]?=some (some a)):∃j,imp[i]?=some (some j)∧α[j]?=some (some a)∧((∃d,a=.dat d)∨a=.tape):=by
 unfold yE at h
 rw[ze4,zf0] at h
 obtain⟨o,h1,h2⟩:=h
 cases o with
 |none=>cases h2
 |some j=>
  have h2':(α[j]?).bind seen=some a:=h2
  cases q:α[j]? with
  |none=>rw[q] at h2';cases h2'
  |some b=>
   rw[q] at h2'
   cases b with
   |none=>cases h2'
   |some b=>
    cases b with
    |dat d=>cases h2';exact⟨j,h1,q,.inl ⟨d,rfl⟩⟩
    |tape=>cases h2';exact⟨j,h1,q,.inr rfl⟩
    |_=>cases h2'
theorem qv {imp:List (Option Nat)}{σ:St}{i j:Nat}{v:V}(h1:imp[i]?=some (some j))(h2:σ[j]?=some (some v)):(xp imp σ)[i]?=some (some v):=by
 unfold xp
 rw[ze4,h1]
 show some ((σ[j]?).bind id)=_
 rw[h2];rfl
def xt (Y:Addr→Shared→Hp→List Addr→Cx)(pat:Pat)(ifs:List Expr)(elt:Expr)(α0:Ev):List PyData→List PyData→(List PyData→Prop)→Prop
 |[],acc,Q=>Q acc
 |d::ds,acc,Q=>∃α1,pat.bind d α0=some α1∧∀C s2 H2 fp,du (Y C s2 H2 fp) α1 ifs fun k=>if k=true then ∀C s2 H2 fp,EvD (Y C s2 H2 fp) α1 elt fun y=>xt Y pat ifs elt α0 ds (acc++[y]) Q else xt Y pat ifs elt α0 ds acc Q
def eC (Y:Addr→Shared→Hp→List Addr→Cx)(e:Expr):TE:=fun σ H Q=>∀C s2 H2 fp,tf (Y C s2 H2 fp) e σ H Q
def tsC (Y:Addr→Shared→Hp→List Addr→Cx)(ifs:List Expr):TT:=fun σ H Q=>∀C s2 H2 fp,eM (Y C s2 H2 fp) ifs σ H Q
theorem mh {N:List Str}{imp:List (Option Nat)}{scope:Scope}{tg iter elt:Expr}{ifs:List Expr}{pat:Pat}{Q:List PyData→Prop}(hfree:pat.free (yE imp α)=true)
  (h:EvI X α tg iter fun ds=>ds.length≤1000∧xt (fun C s2 H2 fp=>X.comp N scope C s2 H2 fp) pat ifs elt (yE imp α) ds [] Q)
  (F:Fr) (σ:St) (H:Hp) (R:VK) (m:M F α σ H) (k:∀ds v H',Q ds→zF F H'→Kz F H H'→yI F α σ H v H' ds→R v H'):
  ∃Y:Addr→Shared→Hp→List Addr→Cx,Y=(fun C s2 H2 fp=>X.comp N scope C s2 H2 fp)∧iQ (gh X tg iter) imp (sV X.K pat) (tsC Y ifs) (eC Y elt) σ H R:=by
 refine⟨_,rfl,?_⟩
 refine h F σ H _ m fun ds J H1 ⟨hl,q1⟩ t1 k1 itw acc hacc=>?_
 have m1:=m.kz k1 t1
 have nacc:¬Ow F α σ acc:=m1.fresh hacc
 let Fc:Fr:=⟨H1,fun x=>Ow F α σ x∨x=acc,F.tp⟩
 let Nd:Ev→Prop:=fun α1=>∀(j:Nat) a,α1[j]?=some (some a)→(∃d,a=.dat d)∨a=.tape
 have no0:Nd (yE imp α):=fun j a z=>by
  obtain⟨_,_,_,n⟩:=qS z
  exact n
 have owc:∀{α1:Ev} {τ:St} {x:Addr},Nd α1→(Ow Fc α1 τ x↔Fc.O0 x):=fun {α1 τ x} hh=>⟨fun z=>z.elim id fun⟨j,a,s,e1,e2,f⟩=>by
  rcases hh j a e1 with ⟨d,rfl⟩|rfl
  ·exact f.elim
  ·exact f.elim,.inl⟩
 have gz:∀{α1 α2:Ev} {τ1 τ2:St} {H:Hp},Nd α1→Nd α2→zx (Gz Fc α1 τ1 H) (Gz Fc α2 τ2 H):=fun h1 h2=>zr fun a o h e=>⟨fun z=>h ((owc h1).mpr ((owc h2).mp z)),e⟩
 have tpc:∀{H2:Hp},zF F H2→zF Fc H2:=fun t=>t.to rfl fun x z=>.inl (.inl z)
 have s01:zx H1 (upd H1 acc (.lst [])):=zM hacc
 have mc0:M Fc (yE imp α) (xp imp σ) (upd H1 acc (.lst [])):=by
  have g1:zx (Gz F α σ H1) (Gz Fc (yE imp α) (xp imp σ) (upd H1 acc (.lst []))):=fun a o e=>by
   obtain⟨z1,z2⟩:=zf e
   have na:a≠acc:=zm z2 hacc
   exact zN (fun z=>((owc no0).mp z).elim z1 na) (by rw[zj na];exact z2)
  refine⟨by unfold yE xp;rw[zd5,zd5],fun i a s e1 e2=>?_,fun i j a b s t x e1 e2 _ _ f=>?_,fun i r q e=>(by rcases no0 i _ e with ⟨d,w⟩|w<;>cases w),tpc (t1.same s01),fun x o e _=>s01 x o e,?_⟩
  ·obtain⟨j,w1,w2,w3⟩:=qS e1
   rcases w3 with ⟨d,rfl⟩|rfl
   ·obtain⟨v,g2,g3⟩:=m1.dat j d w2
    rw[qv w1 g2] at e2;cases e2
    exact⟨v,rfl,g3.same g1⟩
   ·obtain⟨t,b,c,g2,g3⟩:=m1.tvar j w2
    rw[qv w1 g3] at e2;cases e2
    exact⟨t,b,c,g2,rfl⟩
  ·rcases no0 i a e1 with ⟨d,rfl⟩|rfl
   ·exact f.elim
   ·exact f.elim
  ·rintro x (z|z)
   ·have:∃o,H1 x=some o∧xT o:=m1.owEx z
    obtain⟨o,ho,hn⟩:=this
    exact⟨o,s01 _ _ ho,hn⟩
   ·exact⟨_,by rw[z];exact zh,xA⟩
 refine⟨fun i n ys τ H2=>n=ds.length-i∧i≤ds.length∧∃ad:List PyData,M Fc (yE imp α) τ H2∧H2 acc=some (.lst ys)∧AVs (Gz Fc (yE imp α) τ H2) ys ad∧ad.length≤i∧xt (fun C s2 H2 fp=>X.comp N scope C s2 H2 fp) pat ifs elt (yE imp α) (ds.drop i) ad Q,
  ⟨ds.length,by simp,ze8 _,[],mc0,zh,.nil,zd6 _,q1⟩,?_⟩
 rintro i n ys τ H2 ⟨rfl,hi,ad,m2,ha,av,had,cw⟩
 have sG:zx (Gz F α σ H1) (Gz Fc (yE imp α) τ H2):=fun a o e=>by
  obtain⟨z1,z2⟩:=zf e
  exact m2.old a o (zN (p:=fun x=>¬Fc.O0 x) (fun z=>z.elim z1 (zm z2 hacc)) z2)
 obtain⟨w1,w2⟩:=itw i H2 _ sG
 by_cases hlt:i<ds.length
 ·have hd:ds[i]?=some ds[i]:=zd8 hlt
  have hdr:ds.drop i=ds[i]::ds.drop (i+1):=zg4 hlt
  rw[hdr] at cw
  obtain⟨α1,eb,body⟩:=cw
  obtain⟨go,yl⟩:=w1 _ hd
  have no1:Nd α1:=fun j a z=>by
   obtain⟨is,ds',_,e⟩:=Pat.is_ok eb
   by_cases hn:∀d,a≠.dat d
   ·exact no0 j a (uW e z hn)
   ·simp only[Classical.not_forall,Classical.not_not] at hn
    exact .inl hn
  refine .inr ⟨go,fun ys' τ' H'=>∃ad:List PyData,M Fc (yE imp α) τ' H'∧H' acc=some (.lst ys')∧AVs (Gz Fc (yE imp α) τ' H') ys' ad∧ad.length≤i+1∧xt (fun C s2 H2 fp=>X.comp N scope C s2 H2 fp) pat ifs elt (yE imp α) (ds.drop (i+1)) ad Q,
   fun ys' τ' H' ⟨ad',r1,r2,r3,r4,r5⟩=>⟨ds.length-(i+1),by omega,rfl,hlt,ad',r1,r2,r3,r4,r5⟩,fun x H3 y=>?_⟩
  obtain⟨s23,avx⟩:=yl x H3 y
  have m3:M Fc (yE imp α) τ H3:=m2.kz (Kz.of_same s23) (m2.tp.same s23)
  have avx':=avx fun a o _ e=>m2.fresh e
  refine rN eb m3 avx' fun τ1 m4 C s2 H2' fp=>?_
  refine body C s2 H2' fp Fc τ1 H3 _ m4 fun b H5 qb t5 k5=>?_
  have m5:=m4.kz k5 t5
  have av5:AVs (Gz Fc (yE imp α) τ1 H5) ys ad:=av.same ((Kz.of_same s23).gz m2.tp |>.trans ((gz (τ2:=τ1) no0 no1).trans ((k5.gz m4.tp).trans (gz no1 no0))))
  have accN:NT Fc acc:=⟨fun t b c e=>by
   have:=(t1 t b c e).1.free hacc
   exact⟨this.1,this.2.1⟩,vE t1.tab hacc⟩
  have ha5:H5 acc=some (.lst ys):=k5 _ _ (s23 _ _ ha) accN
  cases b with
  |false=>
   have qb':xt (fun C s2 H2 fp=>X.comp N scope C s2 H2 fp) pat ifs elt (yE imp α) (ds.drop (i+1)) ad Q:=by simpa using qb
   exact uP ⟨ad,Pat.back eb hfree m5,ha5,av5,by omega,qb'⟩
  |true=>
   refine ux fun C s2 H2'' fp=>?_
   have qe:EvD (X.comp N scope C s2 H2'' fp) α1 elt fun y=>xt (fun C s2 H2 fp=>X.comp N scope C s2 H2 fp) pat ifs elt (yE imp α) (ds.drop (i+1)) (ad++[y]) Q:=by
    have z:=qb
    rw[if_pos rfl] at z
    exact z C s2 H2'' fp
   refine qe Fc τ1 H5 _ m5 fun y v H6 qy t6 k6 r6=>?_
   have m6:=m5.kz k6 t6
   have ha6:H6 acc=some (.lst ys):=k6 _ _ ha5 accN
   have hlen:ys.length≤i:=by rw[av.length];exact had
   have oacc:Fc.O0 acc:=.inr rfl
   have tacc:∀t b c,Fc.tp=some (t,b,c)→acc≠t∧acc≠b∧acc≠c:=fun t b c e=>(t1 t b c e).1.free hacc
   have m7:=(Pat.back eb hfree m6).wr (o:=.lst (ys++[v])) xA oacc tacc hacc (sA ha6) (fun i r q z=>by rcases no0 i _ z with ⟨d,w⟩|w<;>cases w)
   refine⟨ha6,yB (by omega),ad++[y],m7,zh,?_,by simp;omega,qy⟩
   have g67:zx (Gz Fc (yE imp α) τ1 H6) (Gz Fc (yE imp α) τ1 (upd H6 acc (.lst (ys++[v])))):=zr fun a o h e=>⟨h,by rw[zj (fun z=>h (.inl (by rw[z];exact oacc)))];exact e⟩
   exact ((av5.same ((gz (τ2:=τ1) no0 no1).trans ((k6.gz m5.tp).trans (gz no1 no0)))).append (.cons (r6.same (gz no1 no0)) .nil)).same g67
 ·have e:i=ds.length:=by omega
  subst e
  rw[zi1] at cw
  refine .inl ⟨w2 (zd6 _),k ad _ H2 cw ?_ (k1.trans m2.keep) (yI.back m k1 t1 ⟨acc,ys,rfl,hacc,ha,av.same (zr fun a o h e=>⟨⟨fun z=>h (.inl (.inl z)),fun z=>h (.inl (.inr z))⟩,e⟩)⟩)⟩
  exact m.tp.re m2.tp rfl
theorem eQ {N:List Str}{imp:List (Option Nat)}{scope:Scope}{tg iter elt:Expr}{ifs:List Expr}{pat:Pat}{Q:List PyData→Prop}{pos:Pos}(hc:X.calm=true)(S:zT X.N X.env.scope N imp scope)(hfree:pat.free (yE imp α)=true)
  (hg:∀C s2 H2 fp,PG (X.comp N scope C s2 H2 fp) tg (sV X.K pat))
  (h:EvI X α tg iter fun ds=>ds.length≤1000∧xt (fun C s2 H2 fp=>X.comp N scope C s2 H2 fp) pat ifs elt (yE imp α) ds [] Q) (hs:∀x,foldedSetIterable iter X.env x=pure x:=by intro _;rfl):
  EvL X α (.ListComp elt [⟨tg,iter,ifs,0⟩] scope pos) Q:=fun F σ H R m k=>by
 obtain⟨Y,rfl,h⟩:=mh hfree h F σ H R m k
 exact⟨_,ao hc S uD hg (fun C s2 H2 fp pins s σ H Q I h=>nY pins s σ H Q I (h C s2 H2 fp)) (fun C s2 H2 fp pins s σ H Q I h=>zi pins s σ H Q I (h C s2 H2 fp)) hs,h⟩
section
variable {E:yw}{rest body:List Stmt}{e c tg iter:Expr}{pos p:Pos}
theorem sf.then {F:Fr}{D:Ends}(h:sf F E D):sf F {E with nx:=fun α'=>SvS X α' rest E} {D with nx:=iW X rest D}:=
 ⟨fun α' σ' H' m q=>q F σ' H' D m h,h.rt,h.bk,h.ct⟩
theorem zq (q:E.nx α):SvS X α [] E:=fun F σ H D m h=>⟨_,yr,h.nx _ _ _ m q⟩
theorem SvS.imp {sts:List Stmt}{E':yw}(h:SvS X α sts E')(hn:∀α,E'.nx α→E.nx α)(hr:∀a,E'.rt a→E.rt a)(hb:∀α,E'.bk α→E.bk α)(hc:∀α,E'.ct α→E.ct α):SvS X α sts E:=fun F σ H D m r=>
 h F σ H D m ⟨fun α σ H m q=>r.nx α σ H m (hn _ q),fun a v H m q=>r.rt a v H m (hr _ q),fun α σ H m q=>r.bk α σ H m (hb _ q),fun α σ H m q=>r.ct α σ H m (hc _ q)⟩
theorem yj (i:Nat){x:Str}{pos':Pos}(hN:X.N.Nodup)(h:EvD X α e fun d=>SvS X (α.set i (some (.dat d))) rest E)(hi:X.N[i]?=some x:=by rfl)(hx:Loc X.env.scope x:=by first|exact Or.inl rfl|exact Or.inr rfl)
  (hs:swapsWith e (some (.Name x pos')) pos.line X.env=pure false:=by rfl) (hf:X.fn x=true∨X.env.scope.names.lookup x=some .local:=by first|exact .inl rfl|exact .inr rfl|assumption):SvS X α (.Assign [.Name x pos'] e pos::rest) E:=fun F σ H D m r=>by
 refine⟨_,zJ (rJ hN hi hx zi hs hf) zZ,?_⟩
 exact h F σ H _ m fun d v H1 q1 t1 k1 r1=>q1 F _ H1 D ((m.kz k1 t1).set r1) r
theorem wF (i:Nat){x:Str}{pos':Pos}(hN:X.N.Nodup)(h:EvL X α e fun ds=>SvS X (α.set i (some (.own ds))) rest E)(hi:X.N[i]?=some x:=by rfl)(hx:Loc X.env.scope x:=by first|exact Or.inl rfl|exact Or.inr rfl)
  (hs:swapsWith e (some (.Name x pos')) pos.line X.env=pure false:=by rfl) (hf:X.fn x=true∨X.env.scope.names.lookup x=some .local:=by first|exact .inl rfl|exact .inr rfl|assumption):SvS X α (.Assign [.Name x pos'] e pos::rest) E:=fun F σ H D m r=>by
 refine⟨_,zJ (rJ hN hi hx zi hs hf) zZ,?_⟩
 exact h F σ H _ m fun d v H1 q1 t1 k1 r1=>q1 F _ H1 D (m.setOwn t1 k1 r1) r
theorem bt (i:Nat){x:Str}{pos' cpos:Pos}{N:List Str}{imp:List (Option Nat)}{scope:Scope}{elt:Expr}{ifs:List Expr}{pat:Pat}(hN:X.N.Nodup)(hc:X.calm=true)(S:zT X.N X.env.scope N imp scope)(hfree:pat.free (yE imp α)=true)
  (hg:∀C s2 H2 fp,PG (X.comp N scope C s2 H2 fp) tg (sV X.K pat))
  (h:EvI X α tg iter fun ds=>ds.length≤1000∧xt (fun C s2 H2 fp=>X.comp N scope C s2 H2 fp) pat ifs elt (yE imp α) ds [] fun ds=>SvS X (α.set i (some (.own ds))) rest E)
  (hi:X.N[i]?=some x:=by rfl) (hx:Loc X.env.scope x:=by first|exact Or.inl rfl|exact Or.inr rfl) (hsw:swapsWith (.ListComp elt [⟨tg,iter,ifs,0⟩] scope cpos) (some (.Name x pos')) pos.line X.env=pure true:=by rfl)
  (hf:X.fn x=true∨X.env.scope.names.lookup x=some .local:=by first|exact .inl rfl|exact .inr rfl|assumption) (hs:∀x,foldedSetIterable iter X.env x=pure x:=by intro _;rfl):
  SvS X α (.Assign [.Name x pos'] (.ListComp elt [⟨tg,iter,ifs,0⟩] scope cpos) pos::rest) E:=fun F σ H D m r=>by
 obtain⟨Y,rfl,h⟩:=mh hfree h F σ H (fun v H'=>iW X rest D (σ.set i (some v)) H') m fun ds v H' q t k fl=>q F _ H' D (m.setOwn t k fl) r
 exact⟨_,zJ (jd hc S uD hg (fun C s2 H2 fp pins s σ H Q I h=>nY pins s σ H Q I (h C s2 H2 fp)) (fun C s2 H2 fp pins s σ H Q I h=>zi pins s σ H Q I (h C s2 H2 fp)) hN hi hx hsw hf hs) zZ,h⟩
theorem xX.dat {F:Fr}{σ:St}{H:Hp}{v:V}{d:PyData}(m:M F α σ H)(r:AV (Gz F α σ H) v d):xX F v H (.dat d):=
 ⟨m.tp,m.keep,r.same (zr fun a o h e=>⟨ow0 h,e⟩)⟩
theorem yz (h:EvD X α e fun d=>E.rt (.dat d)):SvS X α (.Return (some e) pos::rest) E:=fun F σ H D m r=>by
 refine⟨_,zJ (zz zi) zZ,?_⟩
 exact h F σ H _ m fun d v H1 q1 t1 k1 r1=>r.rt _ _ _ (xX.dat (m.kz k1 t1) r1) q1
theorem uA (h:EvL X α e fun ds=>E.rt (.own ds)):SvS X α (.Return (some e) pos::rest) E:=fun F σ H D m r=>by
 refine⟨_,zJ (zz zi) zZ,?_⟩
 refine h F σ H _ m fun d v H1 q1 t1 k1 r1=>r.rt _ _ _ ?_ q1
 obtain⟨l,xs,h1,h2,h3,h4⟩:=r1
 exact⟨t1,m.keep.trans k1,l,xs,_,h1,rfl,m.fresh0 h2,ow0 (m.fresh h2),h3,h4.same (zr fun a o h e=>⟨⟨ow0 h.1,h.2⟩,e⟩)⟩
theorem sX (i:Nat){x:Str}{ds:List PyData}(hi:α[i]?=some (some (.own ds)))(q:E.rt (.own ds))(hN:X.N[i]?=some x:=by rfl)(hv:Vis X.env.scope x:=by first|exact Or.inl rfl|exact Or.inr (Or.inl rfl)|exact Or.inr (Or.inr rfl))
  (hd:(x == ("__debug__":Str))=false:=by decide) (hcd:(x == ("__classdict__":Str))=false:=by decide):SvS X α (.Return (some (.Name x p)) pos::rest) E:=fun F σ H D m r=>by
 obtain⟨l,xs,h1,h2,h3,h4,h5⟩:=m.own i ds hi
 refine⟨_,zJ (zz (xF hN hv hd hcd)) zZ,.ref l,h1,r.rt (.own ds) _ _ ⟨m.tp,m.keep,l,xs,_,rfl,rfl,h5,h4,h2,h3.same (zr fun a o h e=>⟨⟨ow0 h,fun z=>h (by rw[z];exact .inr ⟨i,_,_,hi,h1,rfl⟩)⟩,e⟩)⟩ q⟩
theorem xB {a b:List Stmt}(h:EvT X α c fun k=>SvS X α (if k=true then a else b) {E with nx:=fun α'=>SvS X α' rest E}):SvS X α (.If c a b pos::rest) E:=fun F σ H D m r=>by
 refine⟨_,zJ (xq xJ zZ zZ) zZ,?_⟩
 refine h F σ H _ m fun k H1 q1 t1 k1=>?_
 cases k with
 |true=>exact ux ((by simpa using q1:SvS X α a _) F σ H1 _ (m.kz k1 t1) r.then)
 |false=>exact uP ((by simpa using q1:SvS X α b _) F σ H1 _ (m.kz k1 t1) r.then)
theorem rX (i:Nat){ds:List PyData}{sts:List Stmt}(hi:α[i]?=some (some (.own ds)))(h:SvS X (α.set i (some (.dat (.list ds)))) sts E):SvS X α sts E:=fun F σ H D m r=>h F σ H D (m.frz hi) r
theorem M.wrC {F:Fr}{σ:St}{H:Hp}{i:Nat}{c c':PyData}{l:Addr}{o':HO}(m:M F α σ H)(hi:α[i]?=some (some (.ow c)))(hl:σ[i]?=some (some (.ref l)))(av:yP (Gz F α σ H) o' c'):
  M F (α.set i (some (.ow c'))) σ (upd H l o'):=by
 obtain⟨l',o,h1,h2,h3,h4,h5⟩:=m.owc i c hi
 rw[hl] at h1;cases h1
 have hs:∀{j:Nat} {a:A} {s:Option V},(α.set i (some (.ow c')))[j]?=some (some a)→σ[j]?=some s→(i=j∧a=.ow c'∧s=some (.ref l))∨(i≠j∧α[j]?=some (some a)):=fun {j a s} e1 e2=>by
  rcases zV e1 with ⟨rfl,z⟩|⟨hj,e1'⟩
  ·cases z;rw[hl] at e2;cases e2;exact .inl ⟨rfl,rfl,rfl⟩
  ·exact .inr ⟨hj,e1'⟩
 have oww:∀{y:Addr},Ow F (α.set i (some (.ow c'))) σ y→Ow F α σ y:=fun {y} h=>by
  rcases h with z|⟨j,a,s,e1,e2,f⟩
  ·exact .inl z
  ·rcases hs e1 e2 with ⟨rfl,rfl,rfl⟩|⟨hj,e1'⟩
   ·exact .inr ⟨i,_,_,hi,hl,f⟩
   ·exact .inr ⟨j,a,s,e1',e2,f⟩
 have ol:Ow F α σ l:=.inr ⟨i,_,_,hi,hl,rfl⟩
 have gs:zx (Gz F α σ H) (Gz F (α.set i (some (.ow c'))) σ (upd H l o')):=zr fun a o h e=>⟨fun z=>h (oww z),by rw[zj (fun z=>h (by rw[z];exact ol))];exact e⟩
 refine⟨by rw[zh5];exact m.len,fun j a s e1 e2=>?_,fun j j' a b s t x e1 e2 q1 q2 f1 f2=>?_,fun j r q e j' a s x e1 e2 f=>?_,m.tp.updO h4 (h3.plain h2),fun y o e n=>?_,fun y hy=>?_⟩
 ·rcases hs e1 e2 with ⟨rfl,rfl,rfl⟩|⟨hj,e1'⟩
  ·exact⟨l,o',rfl,zh,av.same gs,h4,h5⟩
  ·refine (m.ok j a s e1' e2).stay gs (fun y u f e=>?_) rfl fun r q ea k=>⟨k.tp,k.o,k.ok.updO (fun z=>h4 (k.o _ z)) (h3.plain h2),fun y u e n=>?_⟩
   ·obtain⟨w1,w2,_⟩:=m.ft e1' e2 f
    refine⟨?_,w1,w2⟩
    rw[zj fun z=>hj (m.dj i j _ a _ s l hi e1' hl e2 rfl (by rw[←z];exact f))]
    exact e
   ·rw[zj (zm e (m.xd j r q (by rw[←ea];exact e1') i _ _ l hi hl rfl))];exact k.k y u e n
 ·rcases hs e1 q1 with ⟨rfl,rfl,rfl⟩|⟨hj,e1'⟩
  ·rcases hs e2 q2 with ⟨rfl,_⟩|⟨hj',e2'⟩
   ·rfl
   ·exact m.dj i j' _ b _ t x hi e2' hl q2 f1 f2
  ·rcases hs e2 q2 with ⟨rfl,rfl,rfl⟩|⟨hj',e2'⟩
   ·exact m.dj j i a _ s _ x e1' hi q1 hl f1 f2
   ·exact m.dj j j' a b s t x e1' e2' q1 q2 f1 f2
 ·rcases zV e with ⟨_,z⟩|⟨_,e'⟩
  ·cases z
  ·rcases hs e1 e2 with ⟨rfl,rfl,rfl⟩|⟨_,e1'⟩
   ·exact m.xd j r q e' i _ _ x hi hl f
   ·exact m.xd j r q e' j' a s x e1' e2 f
 ·rw[zj (zm e h5)];exact m.keep y o e n
 ·rw[zj (fun z=>h4 (by rw[←z];exact hy))];exact m.oex y hy
theorem M.wrOwn {F:Fr}{σ:St}{H:Hp}{i:Nat}{ds es:List PyData}{l:Addr}{ys:List V}(m:M F α σ H)(hi:α[i]?=some (some (.own ds)))(hl:σ[i]?=some (some (.ref l)))(av:AVs (Gz F α σ H) ys es):
  M F (α.set i (some (.own es))) σ (upd H l (.lst ys)):=m.wrC hi hl (.lst av)
theorem vX (i:Nat){x:Str}{ds:List PyData}{p1 p2 p3:Pos}(hi:α[i]?=some (some (.own ds)))(h:EvD X α e fun d=>ds.length<1000∧SvS X (α.set i (some (.own (ds++[d])))) rest E)
  (hN:X.N[i]?=some x:=by rfl) (hv:Vis X.env.scope x:=by first|exact Or.inl rfl|exact Or.inr (Or.inl rfl)|exact Or.inr (Or.inr rfl)) (hd:(x == ("__debug__":Str))=false:=by decide) (hcd:(x == ("__classdict__":Str))=false:=by decide)
  (hbase:attributeBase (.Name x p1) "append" X.env (eval (.Name x p1) X.env)=eval (.Name x p1) X.env:=by rfl) (hs:starEach [e] X.env=(false,eval e X.env)::starEach [] X.env:=by rfl)
  (hpl:((((backTo p3 (starEach [e] X.env)).all fun x=>!x.fst)&&(backToKw p3 (keywordEach [] X.env)).all fun x=>x.fst.isSome)&&decide (([e].length+([]:List Keyword).length+if ([]:List Keyword).isEmpty=true then 0 else 1)<30))=true:=by rfl)
  (hline:(p2.endLine == p3.line)=true:=by rfl) (hsw:swapsWith (.Call (.Attribute (.Name x p1) "append" p2) [e] [] p3) none pos.line X.env=pure false:=by rfl):SvS X α (.Expr (.Call (.Attribute (.Name x p1) "append" p2) [e] [] p3) pos::rest) E:=fun F σ H D m r=>by
 obtain⟨l,xs,h1,h2,h3,h4,h5⟩:=m.own i ds hi
 refine⟨_,zJ (rV (iV zn8 PySem.F.slot_list_append PySem.F.type_list_append si (xF hN hv hd hcd) (ze zi zv hs) hbase hpl hline hs) hsw) zZ,?_⟩
 refine⟨.ref l,h1,.inl ⟨rfl,_,SqL.of h2⟩,?_⟩
 refine h F σ H _ m fun d v H1 q1 t1 k1 r1=>?_
 have m1:=m.kz k1 t1
 refine⟨l,xs,v,rfl,rfl,k1 _ _ h2 (m.tp.nt h4),by rw[h3.length];exact yB (zh2 q1.1),?_⟩
 exact q1.2 F σ _ D (m1.wrOwn hi h1 ((h3.same (k1.gz m.tp)).append (.cons r1 .nil))) r
theorem sM (i:Nat){x:Str}{ds:List PyData}{p1 p2 p3:Pos}(hi:α[i]?=some (some (.own ds)))(h:EvD X α e fun d=>∃es,d=.list es∧ds.length+es.length≤1000∧SvS X (α.set i (some (.own (ds++es)))) rest E)
  (hN:X.N[i]?=some x:=by rfl) (hv:Vis X.env.scope x:=by first|exact Or.inl rfl|exact Or.inr (Or.inl rfl)|exact Or.inr (Or.inr rfl)) (hd:(x == ("__debug__":Str))=false:=by decide) (hcd:(x == ("__classdict__":Str))=false:=by decide)
  (hbase:attributeBase (.Name x p1) "extend" X.env (eval (.Name x p1) X.env)=eval (.Name x p1) X.env:=by rfl) (hs:starEach [e] X.env=(false,eval e X.env)::starEach [] X.env:=by rfl)
  (hpl:((((backTo p3 (starEach [e] X.env)).all fun x=>!x.fst)&&(backToKw p3 (keywordEach [] X.env)).all fun x=>x.fst.isSome)&&decide (([e].length+([]:List Keyword).length+if ([]:List Keyword).isEmpty=true then 0 else 1)<30))=true:=by rfl)
  (hline:(p2.endLine == p3.line)=true:=by rfl) (hsw:swapsWith (.Call (.Attribute (.Name x p1) "extend" p2) [e] [] p3) none pos.line X.env=pure false:=by rfl):SvS X α (.Expr (.Call (.Attribute (.Name x p1) "extend" p2) [e] [] p3) pos::rest) E:=fun F σ H D m r=>by
 obtain⟨l,xs,h1,h2,h3,h4,h5⟩:=m.own i ds hi
 refine⟨_,zJ (rV (iV zn8 PySem.F.slot_list_extend PySem.F.type_list_extend lI (xF hN hv hd hcd) (ze zi zv hs) hbase hpl hline hs) hsw) zZ,?_⟩
 refine⟨.ref l,h1,.inl ⟨rfl,_,SqL.of h2⟩,?_⟩
 refine h F σ H _ m fun d v H1 q1 t1 k1 r1=>?_
 have m1:=m.kz k1 t1
 obtain⟨es,rfl,hl,q⟩:=q1
 obtain⟨b,ys,rfl,g1,g2⟩:=r1.lst_inv
 refine⟨l,b,xs,ys,rfl,rfl,k1 _ _ h2 (m.tp.nt h4),(zf g1).2,by rw[h3.length,g2.length];exact zh2 (yB hl),?_⟩
 exact q F σ _ D (m1.wrOwn hi h1 ((h3.same (k1.gz m.tp)).append g2)) r
def xy (X:Cx)(pat:Pat)(body rest:List Stmt)(E:yw):List PyData→Ev→Prop
 |[],α=>SvS X α rest E
 |d::ds,α=>∃α1,pat.bind d α=some α1∧SvS X α1 body {nx:=xy X pat body rest E ds,ct:=xy X pat body rest E ds,bk:=fun α'=>SvS X α' rest E,rt:=E.rt}
theorem rH {pat:Pat}(hp:PassesOwn (model X.prog X.w) X.A X.env X.xe)(hc:X.calm=true)(hg:PG X tg (sV X.K pat))(h:EvI X α tg iter fun ds=>xy X pat body rest E ds α)
  (hs:∀x,foldedSetIterable iter X.env x=pure x:=by intro _;rfl):SvS X α (.For tg iter body [] pos::rest) E:=fun F σ H D m r=>by
 refine⟨_,zJ (hZ hp hc uD hg zZ hs) zZ,?_⟩
 refine h F σ H _ m fun ds J H1 q1 t1 k1 itw=>?_
 have m1:=m.kz k1 t1
 have mu:=m1.up
 have ru:sf (F.up (Gz F α σ H1)) E D:=r.up
 refine⟨fun i n σ' H'=>n=ds.length-i∧i≤ds.length∧∃α',M (F.up (Gz F α σ H1)) α' σ' H'∧xy X pat body rest E (ds.drop i) α',⟨ds.length,by simp,ze8 _,α,mu,q1⟩,?_⟩
 rintro i n σ' H' ⟨rfl,hi,α',m',lw⟩
 obtain⟨w1,w2⟩:=itw i H' _ (m1.upold m')
 by_cases hlt:i<ds.length
 ·have hd:ds[i]?=some ds[i]:=zd8 hlt
  rw[zg4 hlt] at lw
  obtain⟨α1,eb,body⟩:=lw
  obtain⟨go,yl⟩:=w1 _ hd
  refine .inr ⟨go,fun σ'' H''=>∃α',M (F.up (Gz F α σ H1)) α' σ'' H''∧xy X pat _ rest E (ds.drop (i+1)) α',fun σ'' H'' ⟨α'',r1,r2⟩=>⟨ds.length-(i+1),by omega,rfl,hlt,α'',r1,r2⟩,fun x H3 y=>?_⟩
  obtain⟨s23,avx⟩:=yl x H3 y
  have m3:=m'.kz (Kz.of_same s23) (m'.tp.same s23)
  refine rN eb m3 (avx fun a o _ e=>m'.fresh e) fun σ1 m4=>?_
  exact body _ σ1 H3 _ m4 ⟨fun α2 σ2 H2 m2 q=>⟨α2,m2,q⟩,ru.rt,fun α2 σ2 H2 m2 q=>q _ σ2 H2 D m2 ru,fun α2 σ2 H2 m2 q=>⟨α2,m2,q⟩⟩
 ·have e:i=ds.length:=by omega
  subst e
  rw[zi1] at lw
  exact .inl ⟨w2 (zd6 _),lw _ σ' H' D m' ru⟩
theorem zW {pat:Pat}{ds:List PyData}(P:Nat→Ev→Prop)(h0:P 0 α)(hs:∀i d α,ds[i]?=some d→P i α→∃α1,pat.bind d α=some α1∧SvS X α1 body {nx:=P (i+1),ct:=P (i+1),bk:=fun α'=>SvS X α' rest E,rt:=E.rt})
  (hd:∀α,P ds.length α→SvS X α rest E):xy X pat body rest E ds α:=by
 have key:∀n i α,n=ds.length-i→i≤ds.length→P i α→xy X pat body rest E (ds.drop i) α:=by
  intro n
  induction n with
  |zero=>
   intro i α hn hi p
   have e:i=ds.length:=by omega
   subst e
   rw[zi1]
   exact hd α p
  |succ n ih=>
   intro i α hn hi p
   have hlt:i<ds.length:=by omega
   rw[zg4 hlt]
   obtain⟨α1,e,b⟩:=hs i ds[i] α (zd8 hlt) p
   exact⟨α1,e,b.imp (fun α p=>ih (i+1) α (by omega) hlt p) (fun _ z=>z) (fun _ z=>z) (fun α p=>ih (i+1) α (by omega) hlt p)⟩
 exact key _ 0 α rfl (ze8 _) h0
end
end
section
variable {P:Program}{w:World}{K:PySem.W.Frag}{mg:Str→Option Value}{base:Heap}
theorem M.start {F:Fr}{N:List Str}{vs:List V}{as:List A}{H:Hp}(e:F.H0=H)(t:zF F H)(o:∀x,F.O0 x→∃u,H x=some u∧xT u)(rv:zY F (sub (fun x=>¬F.O0 x) H) vs as):
  M F (as.map some++List.replicate (N.length-as.length) none) (L2.start N vs) H:=by
 have hl:=rv.length
 have g:∀{i:Nat} {a:A},(as.map some++List.replicate (N.length-as.length) none)[i]?=some (some a)→as[i]?=some a:=fun {i a} h=>by
  rcases zg9 i as.length with z|z
  ·rw[zi9 (by rw[zd5];exact z),ze4,zf0] at h
   obtain⟨b,h1,h2⟩:=h
   cases h2;exact h1
  ·rw[zm5 (by rw[zd5];exact z),zi3] at h
   split at h<;>cases h
 have at':∀{vs:List V} {as:List A} {i:Nat} {a:A},zY F (sub (fun x=>¬F.O0 x) H) vs as→as[i]?=some a→∃v,vs[i]?=some v∧kg F (sub (fun x=>¬F.O0 x) H) v a:=by
  intro vs as i a h
  induction h generalizing i with
  |nil=>intro e;simp at e
  |cons h r ih=>
   intro e
   cases i with
   |zero=>simp at e;subst e;exact⟨_,rfl,h⟩
   |succ i=>obtain⟨v,h1,h2⟩:=ih (by simpa using e);exact⟨v,by simpa using h1,h2⟩
 have gv:∀{i:Nat} {v:V},vs[i]?=some v→(L2.start N vs)[i]?=some (some v):=fun {i v} h=>by
  have hi:i<vs.length:=(zd1.mp h).1
  unfold L2.start
  rw[zi9 (by rw[zd5];exact hi),ze4,h];rfl
 have no:∀(i:Nat) a,(as.map some++List.replicate (N.length-as.length) none)[i]?=some (some a)→(∃d,a=.dat d)∨a=.tape:=fun i a z=>by
  obtain⟨v,_,h⟩:=at' rv (g z)
  cases a with
  |dat d=>exact .inl ⟨d,rfl⟩
  |tape=>exact .inr rfl
  |_=>exact h.elim
 have gs:zx (sub (fun x=>¬F.O0 x) H) (Gz F (as.map some++List.replicate (N.length-as.length) none) (L2.start N vs) H):=zr fun a o h e=>⟨fun z=>z.elim h fun⟨i,b,s,e1,_,f⟩=>by
  rcases no i b e1 with ⟨d,rfl⟩|rfl
  ·exact f.elim
  ·exact f.elim,e⟩
 refine⟨by unfold L2.start;simp[hl],fun i a s e1 e2=>?_,fun i j a b s t x e1 _ _ _ f=>?_,fun i r q z=>(by rcases no i _ z with ⟨d,w⟩|w<;>cases w),t,fun x o' h _=>by rw[←e];exact h,o⟩
 ·obtain⟨v,h1,h2⟩:=at' rv (g e1)
  rw[gv h1] at e2;cases e2
  rcases no i a e1 with ⟨d,rfl⟩|rfl
  ·exact⟨v,rfl,AV.same gs h2⟩
  ·obtain⟨t',b,c,h3,rfl⟩:=h2
   exact⟨t',b,c,h3,rfl⟩
 ·rcases no i a e1 with ⟨d,rfl⟩|rfl
  ·exact f.elim
  ·exact f.elim
theorem fnA {x qual:Str}{st:Stmt}{f:Addr}{fd:FuncData}{N ps:List Str}{k:Nat}{φ:List A→(A→Prop)→Prop}(G:Fun K x qual st f fd)(S:zl N ps (zc st))(hlen:∀as Q,φ as Q→as.length=ps.length)
  (hbody:∀(cdv:Value) (A':Around) (outer:List Env) (s:Shared) (H:Hp) (E:XK) (as:List A) (Q:A→Prop),zR k (A'.deeper (envOfC qual (zc st) s.heap.objs.size f cdv))→φ as Q→
   SvS (uv CX0 P w K mg base N qual (zc st) f cdv A' outer s H E).nox (as.map some++List.replicate (N.length-as.length) none) (zG st) {nx:=fun _=>Q (.dat .none),rt:=Q}):zB P w K mg base CX0 (k+1) f fd ps (spA φ):=by
 refine G.ok S (fun vs H Q E h=>?_) (fun cdv A' outer s H vs Qc E hr h=>?_)
 ·obtain⟨F,as,Q',_,_,_,rv,hφ,_⟩:=h
  rw[rv.length,hlen as _ hφ]
 ·obtain⟨F,as,Q',e,t,o,rv,hφ,kk⟩:=h
  refine hbody cdv A' outer s H E as Q' hr hφ F _ H _ (M.start e t o rv) ⟨fun α σ H' m q=>?_,fun a v H' r q=>kk a v H' q r,fun _ _ _ _ z=>z.elim,fun _ _ _ _ z=>z.elim⟩
  exact kk _ _ _ q ⟨m.tp,m.keep,.non⟩
end
section
variable {X:Cx}{pins:List (Addr×Obj)}{σ:St}{H:Hp}{s:Shared}{h':Heap}
theorem Inv.turnL {t':Nat}{ch:List Addr}(I:Inv X pins σ H s)(k:∀b o,b∉ch→s.heap.get? b=some o→h'.get? b=some o)(hf:∀b∈ch,ub X pins H b):Inv X pins σ H {s with heap:=h',toks:=t'}:=by
 have nit:∀b u,H b=some u→b∉ch:=fun b u e z=>by rw[(hf b z).1] at e;cases e
 refine I.step (g':=s.gens) (d':=s.drawn) (ch:=ch) (fun b hb=>?_) (fun b o _ _ hc e _=>k b o hc e) (fun b o _ _ hc e _=>⟨o.slots,k b o hc e⟩) (fun _ _ _ _ n=>n)
  (fun b o hc e=>⟨o,k b o hc e⟩) (fun _ _ e=>e) (fun _ _ _ e=>e) (fun b ps e=>⟨#[],by rw[e];simp⟩) (fun m hm=>?_) (fun b u e=>?_) I.bare
 ·obtain⟨_,f1,_,f3,f4,f5⟩:=hf b hb
  exact⟨f3,f1,f4,f5⟩
 ·obtain⟨o,es,ep,ho,r⟩:=hm
  exact⟨o,es,ep,k _ o (fun z=>(hf _ z).2.1 rfl) ho,r⟩
 ·refine (I.hok b u e).stay (fun c v hc q=>k c v ?_ q) (fun _ q=>q) fun _ _ q=>q
  rcases hc with z|z
  ·rw[z];exact nit b u e
  ·exact nit c _ z
theorem Inv.turnLay {t':Nat}{ch:List Addr}{T:Addr}{o:HO}(I:Inv X pins σ H s)(k:∀b o,b∉ch→s.heap.get? b=some o→h'.get? b=some o)(hf:∀b∈ch,ub X pins H b)(hT:s.heap.objs.size≤T)(new:yc X.prog X.w (upd H T o) h' T o):
  Inv X pins σ (upd H T o) {s with heap:=h',toks:=t'}:=by
 have nit:∀b u,H b=some u→b∉ch:=fun b u e z=>by rw[(hf b z).1] at e;cases e
 have hn:H T=none:=I.hok.fresh hT
 have lt:∀{b:Addr} {u:Obj},s.heap.get? b=some u→b≠T:=fun e=>ze5 (zf3 (zd9 e) hT)
 refine I.step (g':=s.gens) (d':=s.drawn) (ch:=ch) (fun b hb=>?_) (fun b o _ _ hc e _=>k b o hc e) (fun b o _ _ hc e _=>⟨o.slots,k b o hc e⟩) (fun b u _ e n=>by rw[zj (lt e)];exact n)
  (fun b o hc e=>⟨o,k b o hc e⟩) (fun b xs e=>by rw[zj (zm e hn)];exact e) (fun b u xs e=>by rw[zj (zm e hn)];exact e) (fun b ps e=>⟨#[],by rw[zj (zm e hn),e];simp⟩) (fun m hm=>?_) (fun b u e=>?_) I.bare
 ·obtain⟨_,f1,_,f3,f4,f5⟩:=hf b hb
  exact⟨f3,f1,f4,f5⟩
 ·obtain⟨o,es,ep,ho,r⟩:=hm
  exact⟨o,es,ep,k _ o (fun z=>(hf _ z).2.1 rfl) ho,r⟩
 ·by_cases hb:b=T
  ·subst hb;rw[zh] at e;cases e;exact new
  ·rw[zj hb] at e
   refine (I.hok b u e).stay (fun c v hc q=>k c v ?_ q) (fun c q=>by rw[zj (zm q hn)];exact q) fun c xs q=>by rw[zj (zm q hn)];exact q
   rcases hc with z|z
   ·rw[z];exact nit b u e
   ·exact nit c _ z
end
theorem zc3 {a b:Nat}(h:b<a):(a:Addr)≠b:=zo8 h
def Itz (K:PySem.W.Frag)(l1 l2:Addr):It:=
 ⟨fun i H=>∃xs ys x y,SqL K H l1 xs∧SqL K H l2 ys∧xs[i]?=some x∧ys[i]?=some y,
  fun i H v H'=>∃T x y,v=.ref T∧H T=none∧H'=upd H T (.tup [x,y])∧(∀xs,SqL K H l1 xs→xs[i]?=some x)∧∀ys,SqL K H l2 ys→ys[i]?=some y,
  fun i H=>∃xs ys,SqL K H l1 xs∧SqL K H l2 ys∧(xs.length≤i∨ys.length≤i)⟩
def Ite (K:PySem.W.Frag)(l:Addr):It:=
 ⟨fun i H=>∃xs x,SqL K H l xs∧xs[i]?=some x,
  fun i H v H'=>∃T x,v=.ref T∧H T=none∧H'=upd H T (.tup [.int i,x])∧∀xs,SqL K H l xs→xs[i]?=some x,
  fun i H=>∃xs,SqL K H l xs∧xs.length≤i⟩
theorem aR {P:Program}{w:World}{K:PySem.W.Frag}{elts:List Expr}{kk:Nat}{pos:Pos}{z TI TO i1 i2 l1 l2:Addr}(D:ZipApart z TI TO i1 i2 l1 l2):
  Turn P w K (.Tuple elts kk pos) (Itz K l1 l2) [z,TI,TO,i1,i2] z (fun i h=>IsZip h z TI TO .none∧IsPair h TI (.ref i1) (.ref i2)∧(∃a b,IsPair h TO a b)∧h.IsListIter i1 l1 i∧h.IsListIter i2 l2 i) where
 mem:=by simp
 obj:=fun i h st b hb=>by
  obtain⟨h1,h2,⟨a,c,h3⟩,⟨o1,e1,_,d1⟩,⟨o2,e2,_,d2⟩⟩:=st
  simp only[zc9,zd4,zf4] at hb
  rcases hb with rfl|rfl|rfl|rfl|rfl
  ·exact⟨_,h1,fun v z=>by cases (show Data.fields _=Data.cell v from z)⟩
  ·exact⟨_,h2,fun v z=>by cases (show Data.seq _ _=Data.cell v from z)⟩
  ·exact⟨_,h3,fun v z=>by cases (show Data.seq _ _=Data.cell v from z)⟩
  ·exact⟨o1,e1,fun v z=>by rw[d1] at z;cases z⟩
  ·exact⟨o2,e2,fun v z=>by rw[d2] at z;cases z⟩
 keep:=fun i h h' st k=>by
  obtain⟨h1,h2,⟨a,c,h3⟩,h4,h5⟩:=st
  exact⟨k z (by simp) _ h1,k TI (by simp) _ h2,⟨a,c,k TO (by simp) _ h3⟩,h4.at fun o e=>k i1 (by simp) o e,h5.at fun o e=>k i2 (by simp) o e⟩
 item:=by
  intro X hP hw hK hc i pins s σ H E I hf st hg
  subst hP hw hK
  obtain⟨xs,ys,x,y,hq1,hq2,hx,hy⟩:=hg
  obtain⟨its1,rv1,p1,hz1⟩:=I.list hq1
  obtain⟨its2,rv2,p2,hz2⟩:=I.list hq2
  obtain⟨u,hu,ru⟩:=rv1.get hx
  obtain⟨v,hv,rv⟩:=rv2.get hy
  obtain⟨h1,h2,⟨a,c,h3⟩,h4,h5⟩:=st
  refine wpAny_pyNext_zip_item D h1 h2 h3 h4 h5 p1.isList p2.isList (x:=u) (y:=v) (by simpa using hu) (by simpa using hv) fun h' a1 a2 a3 a4 a5 a6 hk=>⟨_,rfl,?_⟩
  refine wpAny_letOwnedTupleGo_zip (s:={s with heap:=h'}) a1 fun h'' b1 b2=>?_
  have hTz:s.heap.objs.size≠z:=zo8 (zd9 h1)
  have hk2:∀b o,b∉[z,TI,TO,i1,i2]→s.heap.get? b=some o→h''.get? b=some o:=fun b o hb e=>by
   simp only[zc9,zd4,zf4,not_or] at hb
   exact b2.extBut _ _ hb.1 (hk b o hb.1 hb.2.2.1 hb.2.2.2.1 hb.2.2.2.2 e)
  have gT:h''.get? s.heap.objs.size=some {cls:=.type "tuple",data:=.seq #[u,v]}:=b2.extBut _ _ hTz a5
  have J:=I.turnLay (t':=s.toks) (T:=s.heap.objs.size) (o:=.tup [x,y]) hk2 hf (zd6 _) ⟨by show 2≤sizeLine;decide,[u,v],.cons ru (.cons rv .nil),_,gT,rfl,0,rfl⟩
  refine⟨.ref s.heap.objs.size,_,J,rfl,⟨_,x,y,rfl,I.hok.fresh (zd6 _),rfl,fun zs hz=>by rw[I.list_inj hz hq1];exact hx,fun zs hz=>by rw[I.list_inj hz hq2];exact hy⟩,⟨b1,b2.extBut _ _ D.TIz (hk _ _ D.TIz D.TITO D.TIi1 D.TIi2 h2),⟨u,v,b2.extBut _ _ D.TOz a2⟩,a3.extBut b2.extBut D.i1z,a4.extBut b2.extBut D.i2z⟩,fun b hb=>?_⟩
  rw[zj]
  ·exact (hf b hb).1
  ·obtain⟨o,e,_⟩:=(show ∃o,s.heap.get? b=some o∧True from by
    simp only[zc9,zd4,zf4] at hb
    obtain⟨o1,e1,_⟩:=h4
    obtain⟨o2,e2,_⟩:=h5
    rcases hb with rfl|rfl|rfl|rfl|rfl
    ·exact⟨_,h1,trivial⟩
    ·exact⟨_,h2,trivial⟩
    ·exact⟨_,h3,trivial⟩
    ·exact⟨_,e1,trivial⟩
    ·exact⟨_,e2,trivial⟩)
   exact ze5 (zd9 e)
 done:=by
  intro X hP hw hK hc i pins s σ H E I hf st hg
  subst hP hw hK
  obtain⟨xs,ys,hq1,hq2,hl⟩:=hg
  obtain⟨its1,rv1,p1,hz1⟩:=I.list hq1
  obtain⟨its2,rv2,p2,hz2⟩:=I.list hq2
  obtain⟨h1,h2,⟨a,c,h3⟩,h4,h5⟩:=st
  have e1:=rv1.length
  have e2:=rv2.length
  refine wpAny_pyNext_zip_end (I.ok.hd hc) D h1 h2 h3 h4 h5 p1.isList p2.isList (hl.imp (fun z=>by simp;omega) fun z=>by simp;omega) fun h' hk=>⟨rfl,?_⟩
  exact I.turnL (t':=s.toks) (ch:=[z,TI,TO,i1,i2]) (fun b o hb e=>by
   simp only[zc9,zd4,zf4,not_or] at hb
   exact hk b o hb.1 hb.2.2.1 hb.2.2.2.1 hb.2.2.2.2 e) hf
 self:=fun A i s Q E st h=>wpAny_pyIter_zip st.1 h
theorem lg {P:Program}{w:World}{K:PySem.W.Frag}{elts:List Expr}{kk:Nat}{pos:Pos}{e it l:Addr}(hne:e≠it):
  Turn P w K (.Tuple elts kk pos) (Ite K l) [e,it] e (fun i h=>(∃old,IsEnum h e it i old)∧h.IsListIter it l i) where
 mem:=by simp
 obj:=fun i h st b hb=>by
  obtain⟨⟨old,h1⟩,⟨o1,e1,_,d1⟩⟩:=st
  simp only[zc9,zd4,zf4] at hb
  rcases hb with rfl|rfl
  ·exact⟨_,h1,fun v z=>by cases (show Data.fields _=Data.cell v from z)⟩
  ·exact⟨o1,e1,fun v z=>by rw[d1] at z;cases z⟩
 keep:=fun i h h' st k=>by
  obtain⟨⟨old,h1⟩,h4⟩:=st
  exact⟨⟨old,k e (by simp) _ h1⟩,h4.at fun o q=>k it (by simp) o q⟩
 item:=by
  intro X hP hw hK hc i pins s σ H E I hf st hg
  subst hP hw hK
  obtain⟨xs,x,hq1,hx⟩:=hg
  obtain⟨its1,rv1,p1,hz1⟩:=I.list hq1
  obtain⟨u,hu,ru⟩:=rv1.get hx
  obtain⟨⟨old,h1⟩,h4⟩:=st
  refine wpAny_pyNext_enum_item h1 h4 p1.isList (x:=u) (by simpa using hu) hne fun h' a1 a3 a5 a6 hk=>⟨_,rfl,?_⟩
  refine wpAny_letOwnedTupleGo_enum (s:={s with heap:=h',toks:=s.toks+1}) a1 fun h'' b1 b2=>?_
  have hTz:s.heap.objs.size≠e:=zo8 (zd9 h1)
  have hk2:∀b o,b∉[e,it]→s.heap.get? b=some o→h''.get? b=some o:=fun b o hb q=>by
   simp only[zc9,zd4,zf4,not_or] at hb
   exact b2.extBut _ _ hb.1 (hk b o hb.1 hb.2 q)
  have gT:h''.get? s.heap.objs.size=some {cls:=.type "tuple",data:=.seq #[.int i s.toks,u]}:=b2.extBut _ _ hTz a5
  have J:=I.turnLay (t':=s.toks+1) (T:=s.heap.objs.size) (o:=.tup [.int i,x]) hk2 hf (zd6 _) ⟨by show 2≤sizeLine;decide,[.int i s.toks,u],.cons ⟨_,rfl⟩ (.cons ru .nil),_,gT,rfl,0,rfl⟩
  refine⟨.ref s.heap.objs.size,_,J,rfl,⟨_,x,rfl,I.hok.fresh (zd6 _),rfl,fun zs hz=>by rw[I.list_inj hz hq1];exact hx⟩,⟨⟨u,by simpa using b1⟩,a3.extBut b2.extBut hne.symm⟩,fun b hb=>?_⟩
  rw[zj]
  ·exact (hf b hb).1
  ·obtain⟨o,q,_⟩:=(show ∃o,s.heap.get? b=some o∧True from by
    simp only[zc9,zd4,zf4] at hb
    obtain⟨o1,e1,_⟩:=h4
    rcases hb with rfl|rfl
    ·exact⟨_,h1,trivial⟩
    ·exact⟨_,e1,trivial⟩)
   exact ze5 (zd9 q)
 done:=by
  intro X hP hw hK hc i pins s σ H E I hf st hg
  subst hP hw hK
  obtain⟨xs,hq1,hl⟩:=hg
  obtain⟨its1,rv1,p1,hz1⟩:=I.list hq1
  obtain⟨⟨old,h1⟩,h4⟩:=st
  have e1:=rv1.length
  refine wpAny_pyNext_enum_end (I.ok.hd hc) h1 h4 p1.isList (by simp;omega) fun h' hk=>⟨rfl,?_⟩
  exact I.turnL (t':=s.toks) (ch:=[e,it]) (fun b o hb q=>by
   simp only[zc9,zd4,zf4,not_or] at hb
   exact hk b o hb.2 q) hf
 self:=fun A i s Q E st h=>by
  obtain⟨⟨old,h1⟩,h4⟩:=st
  exact wpAny_pyIter_enum h1 h
section
variable {X:Cx}{α:Ev}{elts:List Expr}{kk:Nat}{tp p pos:Pos}{a b:Expr}
def ae (K:PySem.W.Frag)(ta:TA):TI:=fun σ H R=>ta σ H fun vs H1=>∃l,vs=[.ref l]∧(∃xs,SqL K H1 l xs)∧R (Ite K l) H1
theorem gU {ta:TA}(hg:Gl X "enumerate")(hm:X.mg "enumerate"=none)(ha:PA X [a] ta)(hs:starEach [a] X.env=[(false,eval a X.env)]:=by rfl):
  PI X (.Tuple elts kk tp) (.Call (.Name "enumerate" p) [a] [] pos) (ae X.K ta):=by
 intro pins s σ H R I h
 refine Call_ (vL I hg hm boot_enumerate (zk2 (thn (ha pos pins s σ H _ I h) fun us s1 ⟨vs,H1,I1,r1,q1⟩=>?_) hs rfl))
 obtain⟨l1,e,⟨xs,hq1⟩,q⟩:=q1
 subst e
 obtain⟨u,rfl,ru⟩:=Vals.one r1
 cases (show u=Value.ref l1 from ru)
 obtain⟨its1,rv1,p1,hz1⟩:=I1.list hq1
 refine call_enumerate_list p1.isList fun h' z1 z4 z6 hk=>?_
 refine wpAny_pyIter_enum (s:={s1 with heap:=h'}) z1 ?_
 refine⟨_,_,_,_,H1,rfl,I1.kept (t':=s1.toks) fun b o e=>hk b o e,lg (zc3 (a:=s1.heap.objs.size+1) (b:=s1.heap.objs.size) (zj5 _)),⟨⟨_,z1⟩,z4⟩,fun b hb=>?_,q⟩
 simp only[zc9,zd4,zf4] at hb
 have hb':s1.heap.objs.size≤b:=by
  have key:∀n b:Nat,n=s1.heap.objs.size→(b=n+1∨b=n)→n≤b:=fun n b _ h=>by omega
  exact key _ _ rfl hb
 exact I1.fpOk hb' (I1.hok.fresh hb')
def uh (n:Nat):List PyData→List PyData
 |[]=>[]
 |d::ds=>.tuple [.int n,d]::uh (n+1) ds
theorem wD :∀{ds:List PyData} {n i:Nat} {d:PyData},(uh n ds)[i]?=some d→∃e,ds[i]?=some e∧d=.tuple [.int ((n+i:Nat):Int),e]
 |[],n,i,d,h=>by simp[uh] at h
 |e::ds,n,0,d,h=>by simp[uh] at h;exact⟨e,rfl,by simp[←h]⟩
 |e::ds,n,i+1,d,h=>by
  simp only[uh,zn9] at h
  obtain⟨e',h1,h2⟩:=wD h
  exact⟨e',by simpa using h1,by rw[h2,Nat.add_assoc,Nat.add_comm 1 i]⟩
theorem xx :∀(ds:List PyData) (n:Nat),(uh n ds).length=ds.length
 |[],_=>rfl
 |_::ds,n=>by simp[uh,xx ds (n+1)]
theorem ml {Q:List PyData→Prop}(hg:Gl X "enumerate")(hm:X.mg "enumerate"=none)(h:EvD X α a fun x=>∃ds,x=.list ds∧Q (uh 0 ds))(hs:starEach [a] X.env=[(false,eval a X.env)]:=by rfl):
  EvI X α (.Tuple elts kk tp) (.Call (.Name "enumerate" p) [a] [] pos) Q:=fun F σ H R m k=>by
 refine⟨_,gU hg hm (ze zi zv hs) hs,?_⟩
 refine h F σ H _ m fun x vx H1 q1 t1 k1 r1=>?_
 obtain⟨ds,rfl,q⟩:=q1
 obtain⟨l1,xs,rfl,g1,g2⟩:=r1.lst_inv
 refine⟨l1,rfl,⟨xs,SqL.of (zf g1).2⟩,k _ _ H1 q t1 k1 fun i H3 p s=>⟨fun d hd=>?_,fun hl=>?_⟩⟩
 ·have s1:=SqL.of (K:=X.K) (zf (s _ _ g1)).2
  obtain⟨e,he,rfl⟩:=wD hd
  obtain⟨x1,hx1,av1⟩:=g2.get he
  refine⟨⟨xs,x1,s1,hx1⟩,fun v H4 y=>?_⟩
  obtain⟨T,x,rfl,hT,rfl,hx⟩:=y
  have hx:=hx _ s1
  rw[hx1] at hx;cases hx
  refine⟨zM hT,fun fr=>?_⟩
  have gs:zx (Gz F α σ H1) (sub p (upd H3 T (.tup [.int i,x1]))):=fun a o e=>by
   obtain⟨z1,z2⟩:=zf (s a o e)
   exact zN z1 (by rw[zj (zm z2 hT)];exact z2)
  refine .tup (zN (fr T _ zh hT) zh) (.cons ?_ (.cons (av1.same gs) .nil))
  rw[Nat.zero_add]
  exact .int _
 ·refine⟨xs,SqL.of (zf (s _ _ g1)).2,?_⟩
  rw[xx,←g2.length] at hl
  exact hl
end
structure Cal (P:Program)(w:World)(K:PySem.W.Frag)(mg:Str→Option Value)(base:Heap)(x:Str)(k:Nat)(φ:List A→(A→Prop)→Prop):Prop where
 ex:∃f fd ps,mg x=some (.ref f)∧PySem.W.keepIn K (.ref f)=true∧Binds K fd ps []∧zB P w K mg base CX0 k f fd ps (spA φ)
section
variable {X:Cx}{α:Ev}{e a b:Expr}{es:List Expr}{pos p:Pos}{Q:PyData→Prop}{k:Nat}{φ:List A→(A→Prop)→Prop}{x:Str}
theorem zD (C:Cal X.prog X.w X.K X.mg X.base x k φ)(hr:zR k X.A)(hg:Gl X x)(h:EvA X α (e::es) fun as=>φ as fun a=>Q a.d)
  (hdb:(x == ("__debug__":Str))=false:=by decide) (he:starEach (e::es) X.env=(false,eval e X.env)::starEach es X.env:=by rfl) (hpl:(backTo pos (starEach es X.env)).any (·.1)=false:=by rfl):EvD X α (.Call (.Name x p) (e::es) [] pos) Q:=by
 obtain⟨f,fd,ps,h1,h2,h3,h4⟩:=C.ex
 exact fo h4 hr hg h1 h2 h3 h hdb he hpl
theorem uR {Q:List PyData→Prop}(C:Cal X.prog X.w X.K X.mg X.base x k φ)(hr:zR k X.A)(hg:Gl X x)(h:EvA X α (e::es) fun as=>φ as fun a=>∃ds,a=.own ds∧Q ds)
  (hdb:(x == ("__debug__":Str))=false:=by decide) (he:starEach (e::es) X.env=(false,eval e X.env)::starEach es X.env:=by rfl) (hpl:(backTo pos (starEach es X.env)).any (·.1)=false:=by rfl):EvL X α (.Call (.Name x p) (e::es) [] pos) Q:=by
 obtain⟨f,fd,ps,h1,h2,h3,h4⟩:=C.ex
 exact fh h4 hr hg h1 h2 h3 h hdb he hpl
end
section
variable {P:Program}{w:World}{K:PySem.W.Frag}{mg:Str→Option Value}{base:Heap}
theorem vF {x qual:Str}{st:Stmt}{f:Addr}{fd:FuncData}{N ps:List Str}{k:Nat}{φ:List A→(A→Prop)→Prop}(G:Fun K x qual st f fd)(hm:mg x=some (.ref f))(hb:Binds K fd ps [])(S:zl N ps (zc st))(hlen:∀as Q,φ as Q→as.length=ps.length)
  (hbody:∀(cdv:Value) (A':Around) (outer:List Env) (s:Shared) (H:Hp) (E:XK) (as:List A) (Q:A→Prop),zR k (A'.deeper (envOfC qual (zc st) s.heap.objs.size f cdv))→φ as Q→
   SvS (uv CX0 P w K mg base N qual (zc st) f cdv A' outer s H E).nox (as.map some++List.replicate (N.length-as.length) none) (zG st) {nx:=fun _=>Q (.dat .none),rt:=Q}):Cal P w K mg base x (k+1) φ:=
 ⟨f,fd,ps,hm,G.kp,hb,fnA G S hlen hbody⟩
def xE :List A→(A→Prop)→Prop:=fun as Q=>∃n:Int,as=[.tape,.dat (.int n)]∧0<n∧n<big∧∀v,0≤v→v<n→Q (.dat (.int v))
end
section
variable {Y:Addr→Shared→Hp→List Addr→Cx}{pat:Pat}{ifs:List Expr}{elt:Expr}{α0:Ev}
theorem sR {ds acc:List PyData}{Q:List PyData→Prop}(P:Nat→List PyData→Prop)(h0:P 0 acc)
  (hs:∀i d acc,ds[i]?=some d→P i acc→∃α1,pat.bind d α0=some α1∧∀C s2 H2 fp,du (Y C s2 H2 fp) α1 ifs fun k=>if k=true then ∀C s2 H2 fp,EvD (Y C s2 H2 fp) α1 elt fun y=>P (i+1) (acc++[y]) else P (i+1) acc)
  (hd:∀acc,P ds.length acc→Q acc):xt Y pat ifs elt α0 ds acc Q:=by
 have key:∀n i acc,n=ds.length-i→i≤ds.length→P i acc→xt Y pat ifs elt α0 (ds.drop i) acc Q:=by
  intro n
  induction n with
  |zero=>
   intro i acc hn hi p
   have e:i=ds.length:=by omega
   subst e
   rw[zi1]
   exact hd acc p
  |succ n ih=>
   intro i acc hn hi p
   have hlt:i<ds.length:=by omega
   rw[zg4 hlt]
   obtain⟨α1,e,b⟩:=hs i ds[i] acc (zd8 hlt) p
   refine⟨α1,e,fun C s2 H2 fp F σ H R m kk=>b C s2 H2 fp F σ H R m fun k H' q=>kk k H' ?_⟩
   cases k with
   |true=>
    rw[if_pos rfl] at q ⊢
    exact fun C s2 H2 fp=>(q C s2 H2 fp).imp fun y p=>ih (i+1) _ (by omega) hlt p
   |false=>
    rw[if_neg (by decide)] at q ⊢
    exact ih (i+1) _ (by omega) hlt q
 exact key _ 0 acc rfl (ze8 _) h0
end
theorem vw {ds:List PyData}{v:Int}(h0:0≤v)(h1:v<ds.length):∃d,d∈ds∧atI ds v=some d:=by
 obtain⟨j,rfl⟩:=Int.eq_ofNat_of_zero_le h0
 have hj:j<ds.length:=by omega
 exact⟨ds[j],zj7 hj,ny (zd8 hj)⟩
theorem pX (st:Stmt)(env:Env):execs [st] env=exec st env:=by
 rw[PySem.execs_cons]
 have:(fun f:Flow=>(match f with|.next=>execs [] env|f=>pure f:Sem Flow))=pure:=by
  funext f
  cases f<;>rfl
 exact (congrArg (fun g=>exec st env >>= g) this).trans (bind_pure _)
section
variable {X:Cx}{α:Ev}{e a b c:Expr}{es rest:List Expr}{pos p:Pos}{Q:PyData→Prop}{E:yw}{st:Stmt}{sts sts':List Stmt}
theorem vU (P:Ev→Prop)(h1:SvS X α [st] {E with nx:=P})(h2:∀α',P α'→SvS X α' sts E):SvS X α (st::sts) E:=fun F σ H D m r=>by
 refine yf (fun σ' H'=>∃α',M F α' σ' H'∧P α') ?_ ?_
 ·obtain⟨t,p,q⟩:=h1 F σ H {D with nx:=fun σ' H'=>∃α',M F α' σ' H'∧P α'} m ⟨fun α' σ' H' m' z=>⟨α',m',z⟩,r.rt,r.bk,r.ct⟩
  exact⟨t,fun pins s σ H D I h=>(by
   have:=p pins s σ H D I h
   rw[pX] at this
   exact this),q⟩
 ·rintro σ' H' ⟨α',m',z⟩
  exact h2 α' z F σ' H' D m' r
theorem oM {c:Prop}[Decidable c]{a b:List Stmt}(h1:c→SvS X α a E)(h2:¬c→SvS X α b E):SvS X α (if decide c=true then a else b) E:=by
 by_cases h:c
 ·rw[zh0 h];exact h1 h
 ·rw[zf5 h];exact h2 h
theorem yM {k:Bool}{a b:List Stmt}(h1:k=true→SvS X α a E)(h2:k=false→SvS X α b E):SvS X α (if k=true then a else b) E:=by
 cases k with
 |true=>exact h1 rfl
 |false=>exact h2 rfl
theorem nA {i j:Int}:Cmp rEq (.int i) (.int j) (decide (i=j)):=fun p H vx vy R rx ry h=>by
 cases rx.int_inv;cases ry.int_inv
 refine⟨rfl,?_⟩
 rw[show decide (V.int i=V.int j)=decide (i=j) by simp]
 exact h
theorem my {i j:Str}:Cmp rEq (.str i) (.str j) (decide (i=j)):=fun p H vx vy R rx ry h=>by
 cases rx.str_inv;cases ry.str_inv
 refine⟨rfl,?_⟩
 rw[show decide (V.str i=V.str j)=decide (i=j) by simp]
 exact h
theorem dQ {op:CmpOp}{r:R2}(ho:OpR X (compareOp op) r)(hm:behindInMarks op b=false)(h:EvD X α a fun x=>EvD X α b fun y=>∃k,Cmp r x y k∧Q (.bool k)):EvD X α (.Compare a [op] [b] pos) Q:=fun F σ H R m k=>by
 refine⟨_,xH ho zi zi hm,?_⟩
 refine h F σ H _ m fun x vx H1 q1 t1 k1 r1=>?_
 have m1:=m.kz k1 t1
 refine q1 F σ H1 _ m1 fun y vy H2 q2 t2 k2 r2=>?_
 obtain⟨b,hc,q⟩:=q2
 exact hc _ H2 vx vy _ (r1.same (k2.gz m1.tp)) r2 (k _ _ H2 q t2 (k1.trans k2) (.bl b))
theorem dM {Q:Bool→Prop}(h:EvD X α a fun x=>EvD X α b fun y=>∃i j,x=.int i∧y=.int j∧Q (decide (i=j))):EvT X α (.Compare a [.Eq] [b] pos) Q:=
 wg xS (zH _) (h.imp fun x h=>h.imp fun y ⟨i,j,e1,e2,q⟩=>⟨_,by subst e1 e2;exact nA,q⟩)
theorem cX (h:EvD X α a fun x=>EvD X α b fun y=>∃i j,x=.int i∧y=.int j∧Q (.bool (decide (i=j)))):EvD X α (.Compare a [.Eq] [b] pos) Q:=
 dQ xS (zH _) (h.imp fun x h=>h.imp fun y ⟨i,j,e1,e2,q⟩=>⟨_,by subst e1 e2;exact nA,q⟩)
theorem rA {Q:Bool→Prop}(h:EvD X α a fun x=>EvD X α b fun y=>∃i j,x=.str i∧y=.str j∧Q (decide (i=j))):EvT X α (.Compare a [.Eq] [b] pos) Q:=
 wg xS (zH _) (h.imp fun x h=>h.imp fun y ⟨i,j,e1,e2,q⟩=>⟨_,by subst e1 e2;exact my,q⟩)
theorem nM {p q:Bool}{Q:Bool→Prop}(ha:∀Q:Bool→Prop,Q p→EvT X α a Q)(hb:p=true→∀Q:Bool→Prop,Q q→EvW X α (.BoolOp .And (b::rest) pos) Q)(k:Q (p&&q)):EvW X α (.BoolOp .And (a::b::rest) pos) Q:=by
 refine rE (ha _ ?_)
 cases p with
 |true=>rw[if_pos rfl];exact hb rfl _ (by simpa using k)
 |false=>rw[if_neg (by decide)];simpa using k
theorem M.park {F:Fr}{σ:St}{H H1:Hp}{l:Addr}{o:HO}(m:M F α σ H)(k1:Kz F H H1)(t1:zF F H1)(hl:H l=none)(hl1:H1 l=some o)(no:xT o):M ⟨F.H0,fun x=>F.O0 x∨x=l,F.tp⟩ α σ H1:=by
 have m1:=m.kz k1 t1
 have g0:zx (Gz F α σ H) (Gz ⟨F.H0,fun x=>F.O0 x∨x=l,F.tp⟩ α σ H1):=fun y o z=>by
  obtain⟨z1,z2⟩:=zf z
  refine zN ?_ (k1 _ _ z2 (m.tp.nt (ow0 z1)))
  rintro ((w|w)|⟨i,a,s,e1,e2,f⟩)
  ·exact z1 (.inl w)
  ·rw[w,hl] at z2;cases z2
  ·exact z1 (.inr ⟨i,a,s,e1,e2,f⟩)
 refine⟨m.len,fun i a s e1 e2=>(m.ok i a s e1 e2).stay g0 (fun x o f e=>?_) rfl fun r q _ y=>?_,m.dj,m.xd,t1.to rfl fun _ z=>.inl z,fun y o z n=>m1.keep y o z n,fun y z=>?_⟩
 ·obtain⟨w1,w2,_⟩:=m.ft e1 e2 f
  exact⟨k1 _ _ e (m.tp.nt w1),fun (w:F.O0 x∨x=l)=>w.elim w1 (fun w=>by rw[w,hl] at e;cases e),w2⟩
 ·have y':=y.kz k1 t1
  exact⟨y'.tp,fun x z=>.inl (y'.o x z),y'.ok,y'.k⟩
 ·rcases z with z|z
  ·exact m1.oex y z
  ·exact⟨_,by rw[z];exact hl1,no⟩
end
structure NbT (mg:Str→Option Value):Prop where
 abs:mg "abs"=none
 list:mg "list"=none
 len:mg "len"=none
 range:mg "range"=none
 min:mg "min"=none
 max:mg "max"=none
 sorted:mg "sorted"=none
 isinstance:mg "isinstance"=none
 int:mg "int"=none
 bool:mg "bool"=none
 str:mg "str"=none
 tuple:mg "tuple"=none
 all:mg "all"=none
 any:mg "any"=none
 repr:mg "repr"=none
 zip:mg "zip"=none
 enumerate:mg "enumerate"=none
 reversed:mg "reversed"=none
 sum:mg "sum"=none
theorem vp {X:Cx}{K:PySem.W.Frag}{es:List Expr}{k:Nat}{t:TGs}{n:Nat}{pos:Pos}(hK:X.K=K)(hc:X.calm=true)(h:PGs X es t)
  (hn:(assignEach es X.env).length=n:=by rfl) (hst:(assignEach es X.env).findIdx? (·.1)=none:=by rfl):PG X (.Tuple es k pos) (kA K n t):=by
 subst hK
 exact dO hc h hn hst
end L2
namespace SortA
open PySem PySem.W PyProof.Rows
abbrev g (p:Array Nat)(i:Nat):Nat:=p.getD i 0
variable {lt:Nat→Nat→Bool}
end SortA
namespace SortA
open PySem PySem.W PyProof.Rows
end SortA
namespace L2
open PySem PySem.Spec PySem.Calls PySem.W PyProof.Rows SortA
section
variable {prog:Program}{w:World}{A:Around}{E:Value→Shared→Prop}{s:Shared}
end
section
variable {X:Cx}{pins:List (Addr×Obj)}{σ:St}{H H':Hp}{s:Shared}
end
end L2
namespace Days
end Days
namespace L2
open PySem PySem.Spec PyProof.Rows Days
section
variable {X:Cx}{α:Ev}{e a b c tg:Expr}{pos p:Pos}{Q:PyData→Prop}{E:yw}{sts:List Stmt}
theorem lR {op op':CmpOp}{g g':Int→Int→Bool}{i j k:Int}{Q:Bool→Prop}(ho:OpR X (compareOp op) (rI0 fun i j=>.bl (g i j)))(ho':OpR X (compareOp op') (rI0 fun i j=>.bl (g' i j)))(hm:lastMarks [op,op'] [b,c]=false)
  (ha:∀Q:PyData→Prop,Q (.int i)→EvD X α a Q) (hb:∀Q:PyData→Prop,Q (.int j)→EvD X α b Q) (hc:∀Q:PyData→Prop,Q (.int k)→EvD X α c Q) (h:Q (g i j&&g' j k)):EvT X α (.Compare a [op,op'] [b,c] pos) Q:=fun F σ H R m kk=>by
 refine⟨_,ig ho ho' zi zi zi hm,?_⟩
 refine ha (fun d=>d=.int i) rfl F σ H _ m fun x vx H1 q1 t1 k1 r1=>?_
 have m1:=m.kz k1 t1
 refine hb (fun d=>d=.int j) rfl F σ H1 _ m1 fun y vy H2 q2 t2 k2 r2=>?_
 subst q1 q2
 cases r1.int_inv;cases r2.int_inv
 have m2:=m1.kz k2 t2
 refine⟨i,j,rfl,rfl,_,rfl,?_⟩
 cases hg:g i j with
 |true=>
  refine ux ?_
  refine hc (fun d=>d=.int k) rfl F σ H2 _ m2 fun z vz H3 q3 t3 k3 r3=>?_
  subst q3
  cases r3.int_inv
  rw[hg,zi2] at h
  exact⟨j,k,rfl,rfl,_,rfl,kk _ H3 h t3 ((k1.trans k2).trans k3)⟩
 |false=>
  rw[hg,zh3] at h
  exact uP ⟨_,rfl,kk _ H2 h t2 (k1.trans k2)⟩
end
section
variable {X:Cx}{α:Ev}{tg:Expr}{pos p:Pos}{E:yw}{sts body:List Stmt}
end
def isNone :PyData→Bool
 |.none=>true
 |_=>false
theorem DV.non_iff {H:Hp}{x:V}{d:PyData}(h:DV H x d):decide (x=.non)=isNone d:=by
 cases h<;>simp[isNone]
abbrev eqS (d:PyData)(s:Str):Bool:=PyData.eqv d (.str s)
abbrev uc :PyData→Bool:=zQ 0 1000000000000
def vm :PyData→Bool
 |.tuple [.int m,f]=>zQ 2 14 (.int m)&&zQ 1 (m-1) f
 |_=>false
def zC (w v:PyData):Bool:=
 if eqS w "price"=true then isNone v||uc v
 else if (eqS w "come"||eqS w "go")=true then isBool v
 else if (eqS w "least"||eqS w "most")=true then zQ 1 14 v
 else if eqS w "deal"=true then isNone v||vm v
 else eqS w "fee"&&uc v
def yp :PyData→Bool
 |.tuple [w,a,b,v]=>yb (.tuple [a,b])&&zC w v
 |_=>false
abbrev words :List Str:=["price","come","go","least","most","deal","fee"]
theorem pM {x:Str}(h:(PyData.str x).canLay0=true):SeqAt.shaped (.str x)=true:=by
 unfold SeqAt.shaped
 rw[h]
 rfl
def nV :Sp:=fun vs H Q _=>∃x y dw dv,vs=[x,y]∧DV H x dw∧SeqAt.shaped dw=true∧DV H y dv∧Q (.bl (zC dw dv)) H
def jl :Sp:=fun vs H Q _=>∃x d,vs=[x]∧DV H x d∧SeqAt.shaped d=true∧∀H',zx H H'→Q (.bl (yp d)) H'
theorem rj {ds:List PyData}(h:SeqAt.shaped (.tuple ds)=true):∀d∈ds,SeqAt.shaped d=true:=by
 unfold SeqAt.shaped at h
 rw[ze9,zg3] at h
 obtain⟨h1,h2⟩:=h
 simp only[PyData.canLay0] at h1
 simp only[PyData.depth] at h2
 have key:∀(ds:List PyData),PyData.canLayAll0 ds=true→PyData.depthAll ds+1≤64→∀d∈ds,SeqAt.shaped d=true:=by
  intro ds
  induction ds with
  |nil=>intro _ _ d hd;simp at hd
  |cons e r ih=>
   intro a b d hd
   simp only[PyData.canLayAll0,ze9] at a
   simp only[PyData.depthAll] at b
   rcases zc9.mp hd with z|z
   ·subst z
    unfold SeqAt.shaped
    rw[a.1,zi2,zg3]
    omega
   ·exact ih a.2 (by omega) d z
 exact key ds h1 (by omega)
def xV (x y z:V):List (Str×V):=xg "worth" z (xg "last" y (xg "first" x []))
theorem jX :¬(("worth":Str)="last"):=by decide +kernel
theorem iz :¬(("worth":Str)="first"):=by decide +kernel
theorem ji :¬(("last":Str)="first"):=by decide +kernel
theorem tE (x y z:V):(xV x y z).lookup ("first":Str)=some x:=by
 unfold xV
 rw[zK,if_neg (fun e=>iz e.symm),zK,if_neg (fun e=>ji e.symm),zK,if_pos rfl]
theorem so (x y z:V):(xV x y z).lookup ("last":Str)=some y:=by
 unfold xV
 rw[zK,if_neg (fun e=>jX e.symm),zK,if_pos rfl]
theorem pZ (x y z:V):(xV x y z).lookup ("worth":Str)=some z:=by
 unfold xV
 rw[zK,if_pos rfl]
theorem gQ (x y z:V){m:Str}(h1:¬m="worth")(h2:¬m="last")(h3:¬m="first"):(xV x y z).lookup m=none:=by
 unfold xV
 rw[zK,if_neg h1,zK,if_neg h2,zK,if_neg h3]
 rfl
structure Cs where
 price:Addr
 come:Addr
 go:Addr
 least:Addr
 most:Addr
 deal:Addr
 fee:Addr
def Cs.of (c:Cs)(w:Str):Addr:=
 if w="price" then c.price else if w="come" then c.come else if w="go" then c.go else if w="least" then c.least else if w="most" then c.most else if w="deal" then c.deal else c.fee
structure xl (K:PySem.W.Frag)(C fI fT fE fW:Addr):Prop where
 cl:Cls K C
 nf:yt K C "first"
 nl:yt K C "last"
 nw:yt K C "worth"
 makes:Mk K C fI
 told:Meth K C "told" fT
 tells:Meth K C "tells" fE
 word:Meth K C "word" fW
def cE (C:Addr):Sp:=fun vs H Q _=>∃(p dx:Addr) (x y z:V),vs=[.ref p,x,y,z]∧H p=some (.ins C dx [])∧Q .non (upd H p (.ins C dx (xV x y z)))
def xG (w:Str):Sp:=fun vs H Q _=>∃p,vs=[.ref p]∧Q (.str w) H
def iB (C:Addr)(w:Str):Sp:=fun vs H Q _=>∃(p dx:Addr) (x y z:V),vs=[.ref p]∧H p=some (.ins C dx (xV x y z))∧∀q,H q=none→Q (.ref q) (upd H q (.tup [.str w,x,y,z]))
def nO (C:Addr):Sp:=fun vs H Q _=>∃(p dx:Addr) (a b day:Int) (z:V),vs=[.ref p,.int day]∧H p=some (.ins C dx (xV (.int a) (.int b) z))∧Q (.bl (decide (a≤day)&&decide (day≤b))) H
def jO (cs:Cs):Sp:=fun vs H Q _=>∃(w:Str) (x y z:V),vs=[.str w,x,y,z]∧w∈words∧∀(p dx:Addr) (H':Hp),H' p=some (.ins (cs.of w) dx (xV x y z))→H p=none→zx H H'→Q (.ref p) H'
def pG (cs:Cs):Sp:=fun vs H Q _=>∃x d,vs=[x]∧DV H x d∧SeqAt.shaped d=true∧(yp d=false→∀H',zx H H'→Q .non H')∧
 (∀(r:Addr) (w:Str) (x1 x2 x3:V) (p dx:Addr) (H':Hp),x=.ref r→yp d=true→w∈words→H r=some (.tup [.str w,x1,x2,x3])→H' p=some (.ins (cs.of w) dx (xV x1 x2 x3))→H p=none→zx H H'→Q (.ref p) H')
theorem xK {d:PyData}{s:Str}(h:eqS d s=true):d=.str s:=by
 cases d with
 |str x=>
  have h':(x == s)=true:=h
  rw[eq_of_beq h']
 |_=>simp[PyData.eqv] at h
theorem qH {w v:PyData}(h:zC w v=true):∃s∈words,w=.str s:=by
 unfold zC at h
 split at h
 ·rename_i e;exact⟨"price",by simp[words],xK e⟩
 ·split at h
  ·rename_i e
   rcases (zj0 _ _).mp e with e|e
   ·exact⟨"come",by simp[words],xK e⟩
   ·exact⟨"go",by simp[words],xK e⟩
  ·split at h
   ·rename_i e
    rcases (zj0 _ _).mp e with e|e
    ·exact⟨"least",by simp[words],xK e⟩
    ·exact⟨"most",by simp[words],xK e⟩
   ·split at h
    ·rename_i e;exact⟨"deal",by simp[words],xK e⟩
    ·rw[ze9] at h;exact⟨"fee",by simp[words],xK h.1⟩
theorem xi {d:PyData}(h:yp d=true):∃(s:Str) (a b v:PyData),s∈words∧d=.tuple [.str s,a,b,v]:=by
 unfold yp at h
 split at h
 ·rename_i w a b v
  rw[ze9] at h
  obtain⟨s,hs,rfl⟩:=qH h.2
  exact⟨s,a,b,v,hs,rfl⟩
 ·cases h
section
variable {X:Cx}
theorem lJ :xZ X (.builtin "isinstance") (fun xs H Q=>∃x C t b,xs=[x,.ref C]∧wK X.K H x t∧PySem.W.kitOne X.K t (.ref C)=some b∧Q (.bl b) H):=by
 intro pins s σ H xs us Q I r h
 obtain⟨x,C,t,b,rfl,ty,e,q⟩:=h
 obtain⟨u,v,rfl,rx,ry⟩:=Vals.two r
 cases (show v=Value.ref C from ry)
 exact sP I rx ty e fun tk=>⟨.bl b,H,I.tok tk,rfl,q⟩
end
abbrev xU (C:Addr)(fs:List (PyData×PyData)):PyData:=.dict ((.int (C:Nat),.none)::fs)
def uu :List (PyData×PyData)→Str→Option PyData
 |[],_=>none
 |(.str g,d)::r,f=>if f=g then some d else uu r f
 |_::r,f=>uu r f
theorem AVf.get {H:Hp}:∀{fs:List (Str×V)} {ds:List (PyData×PyData)} {f:Str} {d:PyData},AVf H fs ds→uu ds f=some d→∃v,fs.lookup f=some v∧AV H v d
 |_,_,f,d,.nil,e=>by cases e
 |_,_,f,d,.cons (f:=g) h r,e=>by
  rw[zh7]
  unfold uu at e
  by_cases z:f=g
  ·subst z
   rw[if_pos rfl] at e
   cases e
   exact⟨_,by simp,h⟩
  ·rw[if_neg z] at e
   have z':(f == g)=false:=by simpa using z
   rw[z']
   exact AVf.get r e
theorem AVf.none {H:Hp}:∀{fs:List (Str×V)} {ds:List (PyData×PyData)} {f:Str},AVf H fs ds→uu ds f=Option.none→fs.lookup f=Option.none
 |_,_,f,.nil,e=>rfl
 |_,_,f,.cons (f:=g) h r,e=>by
  rw[zh7]
  unfold uu at e
  by_cases z:f=g
  ·subst z
   rw[if_pos rfl] at e
   cases e
  ·rw[if_neg z] at e
   have z':(f == g)=false:=by simpa using z
   rw[z']
   exact AVf.none r e
theorem AV.ins_inv {H:Hp}{v:V}{C:Addr}{ds:List (PyData×PyData)}(h:AV H v (xU C ds)):∃a dx fs,v=.ref a∧H a=some (.ins C dx fs)∧AVf H fs ds:=by
 generalize e:xU C ds=d at h
 cases h with
 |@ins a C' dx fs ds' h1 h2=>
  injection e with e
  injection e with e1 e2
  have e3:(C:Int)=(C':Int):=by
   have:=congrArg Prod.fst e1
   injection this
  have e4:C=C':=Int.ofNat.inj e3
  subst e4 e2
  exact⟨a,dx,fs,rfl,h1,h2⟩
 |_=>cases e
section
variable {X:Cx}{α:Ev}{o e:Expr}{es:List Expr}{pos apos p:Pos}{Q:PyData→Prop}{C:Addr}{f m:Str}
theorem pK (c:Cls X.K C)(na:yt X.K C f)(h:EvD X α o fun x=>∃fs d,x=xU C fs∧uu fs f=some d∧Q d)(hb:attributeBase o f X.env (eval o X.env)=eval o X.env:=by rfl):EvD X α (.Attribute o f pos) Q:=fun F σ H R m k=>by
 refine⟨_,vO zi hb,?_⟩
 refine h F σ H _ m fun x vx H1 q1 t1 k1 r1=>?_
 obtain⟨fs,d,rfl,hf,q⟩:=q1
 obtain⟨a,dx,gs,rfl,h1,h2⟩:=r1.ins_inv
 obtain⟨v,hv,av⟩:=h2.get hf
 exact⟨a,C,dx,gs,v,rfl,(zf h1).2,c,na,hv,k d v H1 q t1 k1 av⟩
structure xI (P:Program)(w:World)(K:PySem.W.Frag)(mg:Str→Option Value)(base:Heap)(C:Addr)(m:Str)(k:Nat)(φ:List A→(A→Prop)→Prop):Prop where
 ex:∃f fd ps,Cls K C∧Meth K C m f∧Binds K fd ps []∧zB P w K mg base CX0 k f fd ps (spA φ)
theorem nC {k:Nat}{φ:List A→(A→Prop)→Prop}{pl:Sem Bool}(M':xI X.prog X.w X.K X.mg X.base C m k φ)(hr:zR k X.A)(h:EvD X α o fun x=>∃fs,x=xU C fs∧uu fs m=none∧EvA X α (e::es) fun as=>φ (.dat (xU C fs)::as) fun a=>Q a.d)
  (hst:starEach (e::es) X.env=(false,eval e X.env)::starEach es X.env:=by rfl) (hpl:(backTo pos (starEach es X.env)).any (·.1)=false:=by rfl)
  (ht:eval (.Call (.Attribute o m apos) (e::es) [] pos) X.env=(do
   let ov ←eval o X.env
   standAt apos.atName
   let (f,first) ←holding [ov] (getMethod ov m pl)
   callWith pos f first (backTo pos (starEach (e::es) X.env)) (backToKw pos (keywordEach [] X.env))):=by rfl):EvD X α (.Call (.Attribute o m apos) (e::es) [] pos) Q:=fun F σ H R m' kk=>by
 obtain⟨f,fd,ps,c,hm,hb,G⟩:=M'.ex
 refine⟨_,fB zi c hm G hr hb .nil zP yT hst hpl ht,?_⟩
 refine h F σ H _ m' fun x vx H1 q1 t1 k1 r1=>?_
 obtain⟨fs,rfl,hf,q⟩:=q1
 have m1:=m'.kz k1 t1
 obtain⟨a,dx,gs,rfl,h1,h2⟩:=r1.ins_inv
 refine⟨a,dx,gs,rfl,(zf h1).2,h2.none hf,?_⟩
 refine q F σ H1 _ m1 fun as vs H2 q2 t2 k2 r2=>?_
 have m2:=m1.kz k2 t2
 have cf:=xQ (vs:=.ref a::vs) (as:=.dat (xU C fs)::as) (R:=R) (E:=E0) m2 (.cons (r1.same (k2.gz m1.tp)) r2) q2 fun z v H' qa ra=>by
  obtain⟨g1,g2,g3⟩:=ra.back m2
  exact kk _ v H' qa g1 ((k1.trans k2).trans g2) g3
 exact cf
theorem tR {k:Nat}{φ:List A→(A→Prop)→Prop}{pl:Sem Bool}(M':xI X.prog X.w X.K X.mg X.base C m k φ)(hr:zR k X.A)(h:EvD X α o fun x=>∃fs,x=xU C fs∧uu fs m=none∧φ [.dat (xU C fs)] fun a=>Q a.d)
  (ht:eval (.Call (.Attribute o m apos) [] [] pos) X.env=(do
   let ov ←eval o X.env
   standAt apos.atName
   let (f,first) ←holding [ov] (getMethod ov m pl)
   callWith pos f first (backTo pos (starEach [] X.env)) (backToKw pos (keywordEach [] X.env))):=by rfl):EvD X α (.Call (.Attribute o m apos) [] [] pos) Q:=fun F σ H R m' kk=>by
 obtain⟨f,fd,ps,c,hm,hb,G⟩:=M'.ex
 refine⟨_,qu zi c hm G hr hb .nil zP ht,?_⟩
 refine h F σ H _ m' fun x vx H1 q1 t1 k1 r1=>?_
 obtain⟨fs,rfl,hf,q⟩:=q1
 have m1:=m'.kz k1 t1
 obtain⟨a,dx,gs,rfl,h1,h2⟩:=r1.ins_inv
 refine⟨a,dx,gs,rfl,(zf h1).2,h2.none hf,?_⟩
 have cf:=xQ (vs:=[.ref a]) (as:=[.dat (xU C fs)]) (R:=R) (E:=E0) m1 (.cons r1 .nil) q fun z v H' qa ra=>by
  obtain⟨g1,g2,g3⟩:=ra.back m1
  exact kk _ v H' qa g1 (k1.trans g2) g3
 exact cf
def gu (F:Fr)(v:V)(H':Hp)(d:PyData):Prop:=zF F H'∧Kz F F.H0 H'∧AV (sub (fun x=>¬F.O0 x∧∀xs,F.H0 x≠some (.lst xs)) H') v d
def EvN (X:Cx)(α:Ev)(e:Expr)(Q:PyData→Prop):Prop:=∀(F:Fr) (σ:St) (H:Hp) (R:VK),M F α σ H→(∀d v H',Q d→zF F H'→Kz F H H'→AV (sub (fun x=>¬Ow F α σ x∧∀xs,H x≠some (.lst xs)) H') v d→R v H')→tf X e σ H R
theorem EvN.d (h:EvN X α e Q):EvD X α e Q:=fun F σ H R m k=>h F σ H R m fun d v H' q t z r=>k d v H' q t z (r.same (zr fun a o h e=>⟨h.1,e⟩))
def spI (C:Addr)(φ:List A→(A→Prop)→Prop):Sp:=fun vs H Qc _=>∃(F:Fr) (as:List A) (Q:A→Prop) (x dx:Addr) (vs':List V) (H1:Hp),vs=.ref x::vs'∧H1 x=none∧H1 dx=none∧dx≠x∧H=upd (upd H1 dx (.own x)) x (.ins C dx [])∧
 F.H0=H1∧zF F H1∧(∀y,F.O0 y→∃u,H1 y=some u∧xT u)∧zY F (sub (fun y=>¬F.O0 y) H1) vs' as∧φ as Q∧∀d H',Q (.dat d)→gu F (.ref x) H' d→Qc .non H'
structure ko (P:Program)(w:World)(K:PySem.W.Frag)(mg:Str→Option Value)(base:Heap)(x:Str)(k:Nat)(dvs:List V)(φ:List A→(A→Prop)→Prop):Prop where
 ex:∃C f fd ps ds,mg x=some (.ref C)∧Mk K C f∧Binds K fd ps ds∧Vals dvs ds∧zB P w K mg base CX0 k f fd ps (spI C φ)
theorem oh {F:Fr}{σ:St}{H:Hp}{vs:List V}{as:List A}{QA:A→Prop}{R:VK}{φ:List A→(A→Prop)→Prop}(m:M F α σ H)(rv:zY F (Gz F α σ H) vs as)(hφ:φ as QA)
  (kk:∀d v H',QA (.dat d)→gu ⟨H,Ow F α σ,F.tp⟩ v H' d→R v H') {E:XK} (x dx:Addr) (hx:H x=none) (hdx:H dx=none) (hne:dx≠x):spI C φ (.ref x::vs) (upd (upd H dx (.own x)) x (.ins C dx [])) (fun v H2=>v=.non∧R (.ref x) H2) E:=by
 refine⟨⟨H,Ow F α σ,F.tp⟩,as,QA,x,dx,vs,H,rfl,hx,hdx,hne,rfl,rfl,?_,?_,?_,hφ,fun d H' qa ra=>⟨rfl,kk d _ H' qa ra⟩⟩
 ·exact m.tp.to rfl fun _ z=>.inl z
 ·exact fun y z=>m.owEx z
 ·exact zY.to (F:=F) (F':=⟨H,Ow F α σ,F.tp⟩) (fun _ _ e=>e) rfl rv
theorem gu.back {F:Fr}{σ:St}{H H1 H':Hp}{v:V}{d:PyData}(m:M F α σ H)(k1:Kz F H H1)(h:gu ⟨H1,Ow F α σ,F.tp⟩ v H' d):zF F H'∧Kz F H1 H'∧AV (sub (fun x=>¬Ow F α σ x∧∀xs,H x≠some (.lst xs)) H') v d:=by
 obtain⟨t,kz,r⟩:=h
 refine⟨m.tp.re t rfl,kz,r.same (zr fun a o h e=>⟨⟨h.1,fun xs z=>h.2 xs (k1 _ _ z (m.tp.nt (ow0 h.1)))⟩,e⟩)⟩
theorem ng {k:Nat}{φ:List A→(A→Prop)→Prop}{x:Str}(M':ko X.prog X.w X.K X.mg X.base x k [] φ)(hr:zR (k+1) X.A)(hg:Gl X x)(h:EvA X α (e::es) fun as=>φ as fun a=>Q a.d)
  (hdb:(x == ("__debug__":Str))=false:=by decide) (he:starEach (e::es) X.env=(false,eval e X.env)::starEach es X.env:=by rfl) (hpl:(backTo pos (starEach es X.env)).any (·.1)=false:=by rfl):EvN X α (.Call (.Name x p) (e::es) [] pos) Q:=fun F σ H R m kk=>by
 obtain⟨C,f,fd,ps,ds,hm,hk,hb,hd,G⟩:=M'.ex
 cases hd
 refine⟨_,xj hk G hr hg hm hb .nil zP yT hdb he hpl,?_⟩
 refine h F σ H _ m fun as vs H1 q1 t1 k1 r1=>?_
 have m1:=m.kz k1 t1
 intro y dx hy hdx hne
 rw[zk4]
 refine oh m1 r1 q1 (fun d v H' qa ra=>?_) y dx hy hdx hne
 obtain⟨g1,g2,g3⟩:=ra.back m k1
 exact kk d v H' qa g1 (k1.trans g2) g3
end
structure cv (K:PySem.W.Frag)(x qual:Str)(st:Stmt)(dV:Value)(f:Addr)(fd:FuncData):Prop where
 ex:∃(oc:Value) (od:Option Addr) (kV doc pm:Value) (an:Option Addr) (cdv ct:Value) (osl:Array (Option Value)),
  fd=PySem.W.fnOf x qual (ya st) (zG st) (zc st) dV kV doc pm an cdv ct∧K.lookup f=some ⟨oc,od,.func fd,osl⟩∧PySem.W.codeIn K cdv qual=true
 kp:PySem.W.keepIn K (.ref f)=true
theorem gk {K:PySem.W.Frag}{x qual:Str}{st:Stmt}{f:Addr}{oc:Value}{od an:Option Addr}{osl:Array (Option Value)}{dV kV doc pm cdv ct:Value}(l:K.lookup f=some ⟨oc,od,.func (PySem.W.fnOf x qual (ya st) (zG st) (zc st) dV kV doc pm an cdv ct),osl⟩)
  (c:PySem.W.codeIn K cdv qual=true) (k:PySem.W.keepIn K (.ref f)=true):cv K x qual st dV f (PySem.W.fnOf x qual (ya st) (zG st) (zc st) dV kV doc pm an cdv ct):=⟨⟨oc,od,kV,doc,pm,an,cdv,ct,osl,rfl,l,c⟩,k⟩
section
variable {P:Program}{w:World}{K:PySem.W.Frag}{mg:Str→Option Value}{base:Heap}
theorem aK {qual:Str}{st:Stmt}{f C:Addr}{dV:Value}{fd:FuncData}{N:List Str}{x:Str}{k:Nat}{φ:List A→(A→Prop)→Prop}{fl:Str}{e:Expr}{p1 p2 p3:Pos}(G:cv K "__init__" qual st dV f fd)(S:zl ("self"::x::N) ["self",x] (zc st))(c:Cls K C)(na:yt K C fl)
  (hb:zG st=[.Assign [.Attribute (.Name "self" p1) fl p2] e p3]) (hlen:∀as Q,φ as Q→as.length=1)
  (hbody:∀(cdv:Value) (A':Around) (outer:List Env) (s:Shared) (H:Hp) (E:XK) (as:List A) (Q:A→Prop),zR k (A'.deeper (envOfC qual (zc st) s.heap.objs.size f cdv))→φ as Q→
   EvL (uv CX0 P w K mg base ("self"::x::N) qual (zc st) f cdv A' outer s H E).nox (none::as.map some++List.replicate N.length none) e fun ds=>noLs ds=true∧Q (.dat (xU C [(.str fl,.list ds)])))
  (hsw:∀(cdv:Value) (A':Around) (outer:List Env) (s:Shared) (H:Hp) (E:XK),swapsWith e (some (.Attribute (.Name "self" p1) fl p2)) p3.line (uv CX0 P w K mg base ("self"::x::N) qual (zc st) f cdv A' outer s H E).nox.env=pure false)
  (hv:Vis (zc st) "self"):zB P w K mg base CX0 (k+1) f fd ["self",x] (spI C φ):=by
 obtain⟨oc,od,kV,doc,pm,an,cdv,ct,osl,rfl,lk,hcd⟩:=G.ex
 refine eV lk hcd S (fun vs H Q E h=>?_) fun A' outer s H vs Qc E hr h=>?_
 ·obtain⟨F,as,Q',y,dx,vs',H1,rfl,_,_,_,_,_,_,_,rv,hφ,_⟩:=h
  rw[ze7,rv.length,hlen as _ hφ]
  rfl
 ·obtain⟨F,as,Q',y,dx,vs',H1,rfl,hy,hdx,hne,rfl,rfl,t,o,rv,hφ,kk⟩:=h
  have hl:=rv.length
  have hl1:=hlen as _ hφ
  rw[hb]
  refine⟨_,(show PSs _ _ _ from (zt (qo (X:=(uv CX0 P w K mg base ("self"::x::N) qual (zc st) f cdv A' outer s (upd (upd F.H0 dx (.own y)) y (.ins C dx [])) E).nox) (xF (i:=0) rfl hv) zi (hsw cdv A' outer s _ E))).nox),?_⟩
  let F2:Fr:=⟨F.H0,fun z=>F.O0 z∨z=y∨z=dx,F.tp⟩
  have s1:zx F.H0 (upd (upd F.H0 dx (.own y)) y (.ins C dx [])):=fun a u q=>by
   rw[zj (zm q hy),zj (zm q hdx)];exact q
  have noy:¬F.O0 y:=fun z=>by obtain⟨u,hu,_⟩:=o y z;rw[hy] at hu;cases hu
  have nodx:¬F.O0 dx:=fun z=>by obtain⟨u,hu,_⟩:=o dx z;rw[hdx] at hu;cases hu
  have t2:zF F2 (upd (upd F.H0 dx (.own y)) y (.ins C dx [])):=(t.same s1).to rfl fun _ z=>.inl z
  -- the names of the body
  have g:∀{i:Nat} {a:A},(none::as.map some++List.replicate N.length none:Ev)[i]?=some (some a)→∃j,i=j+1∧as[j]?=some a:=fun {i a} h=>by
   cases i with
   |zero=>simp at h
   |succ j=>
    refine⟨j,rfl,?_⟩
    have h':(as.map some++List.replicate N.length none:Ev)[j]?=some (some a):=by simpa using h
    rcases zg9 j as.length with z|z
    ·rw[zi9 (by rw[zd5];exact z),ze4,zf0] at h'
     obtain⟨b,h1,h2⟩:=h'
     cases h2;exact h1
    ·rw[zm5 (by rw[zd5];exact z),zi3] at h'
     split at h'<;>cases h'
  have at':∀{vs:List V} {as:List A} {i:Nat} {a:A},zY F (sub (fun x=>¬F.O0 x) F.H0) vs as→as[i]?=some a→∃v,vs[i]?=some v∧kg F (sub (fun x=>¬F.O0 x) F.H0) v a:=by
   intro vs as i a h
   induction h generalizing i with
   |nil=>intro e;simp at e
   |cons h r ih=>
    intro e
    cases i with
    |zero=>simp at e;subst e;exact⟨_,rfl,h⟩
    |succ i=>obtain⟨v,h1,h2⟩:=ih (by simpa using e);exact⟨v,by simpa using h1,h2⟩
  have gv:∀{j:Nat} {v:V},vs'[j]?=some v→(L2.start ("self"::x::N) (.ref y::vs'))[j+1]?=some (some v):=fun {j v} h=>by
   have hj:j<vs'.length:=(zd1.mp h).1
   unfold L2.start
   rw[zi9 (by rw[zd5,ze7];omega),ze4,zn9,h];rfl
  have no:∀(i:Nat) a,(none::as.map some++List.replicate N.length none:Ev)[i]?=some (some a)→(∃d,a=.dat d)∨a=.tape:=fun i a z=>by
   obtain⟨j,_,hj⟩:=g z
   obtain⟨v,_,h⟩:=at' rv hj
   cases a with
   |dat d=>exact .inl ⟨d,rfl⟩
   |tape=>exact .inr rfl
   |_=>exact h.elim
  have gs:zx (sub (fun x=>¬F.O0 x) F.H0) (Gz F2 (none::as.map some++List.replicate N.length none) (L2.start ("self"::x::N) (.ref y::vs')) (upd (upd F.H0 dx (.own y)) y (.ins C dx []))):=fun a u q=>by
   obtain⟨z1,z2⟩:=zf q
   refine zN ?_ (s1 _ _ z2)
   rintro ((z|z|z)|⟨i,b,s,e,_,f⟩)
   ·exact z1 z
   ·rw[z,hy] at z2;cases z2
   ·rw[z,hdx] at z2;cases z2
   ·rcases no i b e with ⟨d,rfl⟩|rfl
    ·exact f.elim
    ·exact f.elim
  have m2:M F2 (none::as.map some++List.replicate N.length none) (L2.start ("self"::x::N) (.ref y::vs')) (upd (upd F.H0 dx (.own y)) y (.ins C dx [])):=by
   refine⟨by unfold L2.start;simp[hl,hl1],fun i a s e1 e2=>?_,fun i j a b s t x e1 _ _ _ f=>?_,fun i r q z=>(by rcases no i _ z with ⟨d,w⟩|w<;>cases w),t2,fun z u h _=>s1 z u h,fun z hz=>?_⟩
   ·obtain⟨j,rfl,hj⟩:=g e1
    obtain⟨v,h1,h2⟩:=at' rv hj
    rw[gv h1] at e2;cases e2
    rcases no _ a e1 with ⟨d,rfl⟩|rfl
    ·exact⟨v,rfl,AV.same gs h2⟩
    ·obtain⟨t',b,c,h3,rfl⟩:=h2
     exact⟨t',b,c,h3,rfl⟩
   ·rcases no i a e1 with ⟨d,rfl⟩|rfl
    ·exact f.elim
    ·exact f.elim
   ·rcases hz with q|q|q
    ·obtain⟨u,hu,hn⟩:=o z q
     exact⟨u,s1 _ _ hu,hn⟩
    ·exact⟨_,by rw[q];exact zh,fun _ q=>by cases q⟩
    ·exact⟨_,by rw[q,zj hne];exact zh,fun _ q=>by cases q⟩
  refine hbody cdv A' outer s _ E as Q' hr hφ F2 _ _ _ m2 fun d v H2 qd t3 k3 r3=>?_
  obtain⟨l,xs,rfl,hl0,hl2,avl⟩:=r3
  obtain⟨nol,qd⟩:=qd
  have nly:l≠y:=fun z=>by rw[z,zh] at hl0;cases hl0
  have nldx:l≠dx:=fun z=>by rw[z,zj hne,zh] at hl0;cases hl0
  have hl00:F.H0 l=none:=by rw[zj nly,zj nldx] at hl0;exact hl0
  have nol0:¬F.O0 l:=fun z=>by obtain⟨u,hu,_⟩:=o l z;rw[hl00] at hu;cases hu
  have nty:NT F2 y:=t.nt noy
  have hy2:H2 y=some (.ins C dx []):=k3 _ _ zh nty
  refine⟨.ref y,rfl,y,C,dx,[],rfl,hy2,c,na,by show 0<1000;decide,?_⟩
  refine kk _ _ qd ⟨(t.re t3 rfl).updO noy (mR hy2),fun z u h n=>?_,?_⟩
  ·rw[zj (zm h hy)]
   exact k3 _ _ (s1 _ _ h) n
  ·refine AV.ins (zN ⟨noy,fun xs z=>by rw[hy] at z;cases z⟩ zh) (.cons (.lst (zN ⟨nol0,fun xs z=>by rw[hl00] at z;cases z⟩ (by rw[zj nly];exact hl2)) ?_) .nil)
   refine avl.noL (fun a u hno z=>?_) nol
   obtain⟨z1,z2⟩:=zf z
   have na:a≠y:=fun w=>z1.1 (.inl (.inr (.inl w)))
   refine zN ⟨fun w=>z1.1 (.inl (.inl w)),fun xs w=>?_⟩ (by rw[zj na];exact z2)
   have:H2 a=some (.lst xs):=k3 _ _ (s1 _ _ w) (t.nt fun w=>z1.1 (.inl (.inl w)))
   rw[z2] at this
   cases this
   exact hno trivial
end
section
variable {X:Cx}{α:Ev}{e e':Expr}{pos:Pos}{E:yw}{sts:List Stmt}
def vI {α:Type}(l:List α)(x:Int)(y:α):List α:=l.take (if x<0 then (x+(l.length:Int)).toNat else min x.toNat l.length)++y::l.drop (if x<0 then (x+(l.length:Int)).toNat else min x.toNat l.length)
theorem pE {α:Type}(l:List α)(x:Int)(y:α):(vI l x y).length=l.length+1:=by
 unfold vI
 rw[zf1,ze7,zj6,zi7]
 omega
theorem Vals.ins {xs:List V}{us:List Value}{y:V}{u:Value}(r:Vals xs us)(ry:RelV y u)(i:Int):Vals (vI xs i y) (vI us i u):=by
 unfold vI
 rw[r.length]
 exact (r.take _).append (.cons ry (r.drop _))
theorem AVs.ins {H:Hp}{xs:List V}{ds:List PyData}{y:V}{d:PyData}(r:AVs H xs ds)(ry:AV H y d)(i:Int):AVs H (vI xs i y) (vI ds i d):=by
 unfold vI
 rw[r.length]
 exact (r.take _).append (.cons ry (r.drop _))
theorem gp (l:List Value)(k:Nat)(y:Value):(l.toArray.extract 0 k).push y++l.toArray.extract k=(l.take k++y::l.drop k).toArray:=by
 apply Array.toList_inj.mp
 simp
 exact zo3 (by simp)
def gN :V→List V→Hp→VK→Prop:=fun x vs H Q=>∃l xs i y,x=.ref l∧vs=[.int i,y]∧H l=some (.lst xs)∧-(2 ^ 63)≤i∧i<2 ^ 63∧xs.length<sizeLine∧Q .non (upd H l (.lst (vI xs i y)))
theorem mL :MtM X "list.insert" gN:=by
 intro pins s σ H x vs v us Q I rx rv h
 obtain⟨l,xs,i,y,rfl,rfl,hH,h1,h2,hz,q⟩:=h
 cases rx
 obtain⟨u,u2,rfl,ru,ru2⟩:=rv.two
 obtain⟨t,rfl⟩:=ru
 obtain⟨z,its,n,r,hl,e⟩:=I.lstM hH
 refine call_meets F.slot_list_insert ⟨_,e,rfl⟩ F.entry_list_insert (F.args_list_insert_3 _ _ _)
  (PySem.AutoSeq1.list_insert_list_int_val_1 l its.toArray n i t u2 (by
   have:=fitsIndex_both h1 h2
   simp[this]) (by rw[ze3];omega)) ⟨e,?_⟩
 refine⟨.non,_,I.lset (its':=vI its i u2) hH e ?_ (r.ins ru2 i) (by rw[pE];omega),rfl,q⟩
 show (its.toArray.extract 0 (if i<0 then (i+(its.toArray.size:Int)).toNat else min i.toNat its.toArray.size)).push u2++its.toArray.extract (if i<0 then (i+(its.toArray.size:Int)).toNat else min i.toNat its.toArray.size)=(vI its i u2).toArray
 rw[gp,ze3]
 rfl
theorem mG (i:Nat){x:Str}{ds:List PyData}{p1 p2 p3:Pos}(hi:α[i]?=some (some (.own ds)))(h:EvD X α e fun k=>EvD X α e' fun d=>∃j,k=.int j∧-(2 ^ 63)≤j∧j<2 ^ 63∧ds.length<1000∧SvS X (α.set i (some (.own (vI ds j d)))) sts E)
  (hN:X.N[i]?=some x:=by rfl) (hv:Vis X.env.scope x:=by first|exact Or.inl rfl|exact Or.inr (Or.inl rfl)|exact Or.inr (Or.inr rfl)) (hd:(x == ("__debug__":Str))=false:=by decide) (hcd:(x == ("__classdict__":Str))=false:=by decide)
  (hbase:attributeBase (.Name x p1) "insert" X.env (eval (.Name x p1) X.env)=eval (.Name x p1) X.env:=by rfl) (hs:starEach [e,e'] X.env=(false,eval e X.env)::starEach [e'] X.env:=by rfl) (hs2:starEach [e'] X.env=(false,eval e' X.env)::starEach [] X.env:=by rfl)
  (hpl:((((backTo p3 (starEach [e,e'] X.env)).all fun x=>!x.fst)&&(backToKw p3 (keywordEach [] X.env)).all fun x=>x.fst.isSome)&&decide (([e,e'].length+([]:List Keyword).length+if ([]:List Keyword).isEmpty=true then 0 else 1)<30))=true:=by rfl)
  (hline:(p2.endLine == p3.line)=true:=by rfl) (hpl2:(backTo p3 (starEach [e'] X.env)).any (·.1)=false:=by rfl) (hsw:swapsWith (.Call (.Attribute (.Name x p1) "insert" p2) [e,e'] [] p3) none pos.line X.env=pure false:=by rfl):SvS X α (.Expr (.Call (.Attribute (.Name x p1) "insert" p2) [e,e'] [] p3) pos::sts) E:=fun F σ H D m r=>by
 obtain⟨l,xs,h1,h2,h3,h4,h5⟩:=m.own i ds hi
 refine⟨_,zJ (rV (iV zn8 PySem.F.slot_list_insert PySem.F.type_list_insert mL (xF hN hv hd hcd) (ze zi (ze zi zv hs2) hs) hbase hpl hline hs hpl2) hsw) zZ,?_⟩
 refine⟨.ref l,h1,.inl ⟨rfl,_,SqL.of h2⟩,?_⟩
 refine h F σ H _ m fun k vk H1 q1 t1 k1 r1=>?_
 have m1:=m.kz k1 t1
 refine q1 F σ H1 _ m1 fun d v H2 q2 t2 k2 r2=>?_
 have m2:=m1.kz k2 t2
 obtain⟨j,rfl,b1,b2,hl,q⟩:=q2
 cases r1.int_inv
 refine⟨l,xs,j,v,rfl,rfl,k2 _ _ (k1 _ _ h2 (m.tp.nt h4)) (m.tp.nt h4),b1,b2,by rw[h3.length];exact yB (zh2 hl),?_⟩
 exact q F σ _ D (m2.wrOwn hi h1 ((((h3.same (k1.gz m.tp)).same (k2.gz m1.tp))).ins r2 j)) r
end
def Itv (K:PySem.W.Frag)(a:Addr)(n:Nat):It:=
 ⟨fun i H=>∃xs x,SqL K H a xs∧xs.length=n∧i<n∧xs[n-1-i]?=some x,fun i H x H'=>H'=H∧∀xs,SqL K H a xs→xs[n-1-i]?=some x,fun i H=>n≤i⟩
theorem kO {P:Program}{w:World}{K:PySem.W.Frag}{tg:Expr}(a it:Addr)(n:Nat):Turn P w K tg (Itv K a n) [it] it (fun i h=>i≤n∧h.IsRevIter it a ((n:Int)-1-(i:Int))) where
 mem:=by simp
 obj:=fun i h st b hb=>by
  have e:b=it:=by simpa using hb
  subst e
  obtain⟨_,o,e,c,d⟩:=st
  exact⟨o,e,fun v z=>by rw[d] at z;cases z⟩
 keep:=fun i h h' st k=>⟨st.1,st.2.at fun o e=>k it (by simp) o e⟩
 item:=by
  intro X hP hw hK hc i pins s σ H E I hf st hg
  subst hP hw hK
  obtain⟨xs,x,hq,hl,hi,hx⟩:=hg
  obtain⟨its,rv,p,hz⟩:=I.list hq
  obtain⟨u,hu,ru⟩:=rv.get hx
  obtain⟨f0,f1,f2,f3,f4,f5⟩:=hf it (by simp)
  have e1:((n:Int)-1-(i:Int))=((n-1-i:Nat):Int):=by omega
  have st':=st.2
  rw[e1] at st'
  refine wpAny_pyNext_rev_item st' p.isList (x:=u) (by simpa using hu) fun h' st2 sb=>?_
  have I1:Inv X pins σ H {s with heap:=h'}:=I.turned (t':=s.toks) (fun b o hb e=>(sb.2 b hb).trans e) f0 f1 f3 f4 f5
  obtain⟨o,e,c,d⟩:=id st2
  have e2:(((n-1-i:Nat):Int)-1)=(n:Int)-1-((i+1:Nat):Int):=by omega
  rw[e2] at st2
  exact⟨u,rfl,qJ (s:={s with heap:=h'}) e c d (by decide) ⟨x,H,I1,ru,⟨rfl,fun ys hy=>by rw[I.list_inj hy hq];exact hx⟩,⟨hi,st2⟩,fun b hb=>(hf b hb).1⟩⟩
 done:=by
  intro X hP hw hK hc i pins s σ H E I hf st hg
  subst hP hw hK
  have hi:i=n:=Nat.le_antisymm st.1 hg
  obtain⟨f0,f1,f2,f3,f4,f5⟩:=hf it (by simp)
  have st':=st.2
  rw[show ((n:Int)-1-(i:Int))=-1 by omega] at st'
  exact wpAny_pyNext_rev_end (I.ok.hd hc) st' fun h' eb=>⟨rfl,I.turned (t':=s.toks) (fun b o hb e=>eb b o hb e) f0 f1 f3 f4 f5⟩
 self:=fun A i s Q E st h=>wpAny_pyIter_revIter st.2 h
section
variable {X:Cx}{α:Ev}{tg:Expr}{p pos:Pos}{a:Expr}
def zb1 (K:PySem.W.Frag)(ta:TA):TI:=fun σ H R=>ta σ H fun vs H1=>∃l xs,vs=[.ref l]∧SqL K H1 l xs∧R (Itv K l xs.length) H1
theorem bf {ta:TA}(hg:Gl X "reversed")(hm:X.mg "reversed"=none)(ha:PA X [a] ta)(hs:starEach [a] X.env=[(false,eval a X.env)]:=by rfl):PI X tg (.Call (.Name "reversed" p) [a] [] pos) (zb1 X.K ta):=by
 intro pins s σ H R I h
 refine Call_ (vL I hg hm boot_reversed (zk2 (thn (ha pos pins s σ H _ I h) fun us s1 ⟨vs,H1,I1,r1,q1⟩=>?_) hs rfl))
 obtain⟨l1,xs,e,hq1,q⟩:=q1
 subst e
 obtain⟨u,rfl,ru⟩:=Vals.one r1
 cases (show u=Value.ref l1 from ru)
 obtain⟨its1,rv1,p1,hz1⟩:=I1.list hq1
 have hlen:=rv1.length
 refine call_reversed_list p1.isList ?_
 have it0:({s1 with heap:=s1.heap.push (revObj l1 ((its1.toArray.size:Int)-1))}:Shared).heap.IsRevIter s1.heap.objs.size l1 ((xs.length:Int)-1-((0:Nat):Int)):=by
  refine⟨_,ze1 _ rfl,rfl,?_⟩
  show Data.fields _=_
  rw[ze3,hlen]
  simp
 refine wpAny_pyIter_revIter it0 ?_
 refine⟨_,_,_,_,H1,rfl,I1.kept (t':=s1.toks) fun b o e=>zd3 _ e,kO l1 _ xs.length,⟨ze8 _,it0⟩,fun b hb=>?_,q⟩
 have e:b=s1.heap.objs.size:=by simpa using hb
 subst e
 exact I1.fpOk (zd6 _) (I1.hok.fresh (zd6 _))
theorem cY {Q:List PyData→Prop}(hg:Gl X "reversed")(hm:X.mg "reversed"=none)(h:EvD X α a fun x=>∃ds,x=.list ds∧Q ds.reverse)(hs:starEach [a] X.env=[(false,eval a X.env)]:=by rfl):
  EvI X α tg (.Call (.Name "reversed" p) [a] [] pos) Q:=fun F σ H R m k=>by
 refine⟨_,bf hg hm (ze zi zv hs) hs,?_⟩
 refine h F σ H _ m fun x vx H1 q1 t1 k1 r1=>?_
 obtain⟨ds,rfl,q⟩:=q1
 obtain⟨l1,xs,rfl,g1,g2⟩:=r1.lst_inv
 refine⟨l1,xs,rfl,SqL.of (zf g1).2,k _ _ H1 q t1 k1 fun i H3 p s=>⟨fun d hd=>?_,fun hl=>?_⟩⟩
 ·have s1:=SqL.of (K:=X.K) (zf (s _ _ g1)).2
  have hi:i<ds.length:=by
   have:=(zd1.mp hd).1
   rwa [zm7] at this
  rw[List.getElem?_reverse hi] at hd
  obtain⟨x1,hx1,av1⟩:=g2.get hd
  rw[←g2.length] at hx1
  refine⟨⟨xs,x1,s1,rfl,by rw[g2.length];exact hi,hx1⟩,fun v H4 y=>?_⟩
  obtain⟨rfl,hy⟩:=y
  have:=hy _ s1
  rw[hx1] at this;cases this
  exact⟨zx.refl _,fun _=>av1.same s⟩
 ·rw[zm7,←g2.length] at hl
  exact hl
end
def EnS (w:World):List DictEntry→List (Str×V)→Prop:=Paired fun e p=>e.hash=hashStr w p.1∧(∃t,e.key=.str p.1 t)∧RelV p.2 e.val
def nP (K:PySem.W.Frag)(w:World)(d:Addr)(tb:List (Str×V)):Prop:=
 ∃es n,K.lookup d=some ⟨.type "dict",none,.dict es n,#[]⟩∧EnS w es.toList tb∧(tb.map (·.1)).Nodup
theorem vR {P:Program}{w:World}:∀{es:List DictEntry} {tb:List (Str×V)},EnS w es tb→Pairs (PySem.strKind P w) es (List.zipWith (fun e (p:Str×V)=>(p.1,e.val)) es tb)
 |_,_,.nil=>.nil
 |e::_,p::_,.cons ⟨_,⟨t,ek⟩,_⟩ r=>.cons (by rw[ek];simp[PySem.strKind,Value.isStrOf]) rfl (vR r)
theorem uB {w:World}:∀{es:List DictEntry} {tb:List (Str×V)},EnS w es tb→(List.zipWith (fun e (p:Str×V)=>(p.1,e.val)) es tb).map (·.1)=tb.map (·.1)
 |_,_,.nil=>rfl
 |_,_,.cons _ r=>by simp only[List.zipWith_cons_cons,zg0,uB r]
theorem uS {P:Program}{w:World}:∀{es:List DictEntry} {tb:List (Str×V)},EnS w es tb→∀e∈es,∃k,(PySem.strKind P w).is k e.key=true∧e.hash=(PySem.strKind P w).hash k
 |_,_,.nil,e,he=>by simp at he
 |_,_,.cons (b:=p) ⟨h1,⟨t,ek⟩,_⟩ r,e,he=>by
  rcases zc9.mp he with rfl|he
  ·exact⟨p.1,by rw[ek];simp[PySem.strKind,Value.isStrOf],h1⟩
  ·exact uS r e he
theorem mx {w:World}{x:Str}{v:V}:∀{es:List DictEntry} {tb:List (Str×V)},EnS w es tb→tb.lookup x=some v→∃u,valueAt (List.zipWith (fun e (p:Str×V)=>(p.1,e.val)) es tb) x=some u∧RelV v u
 |_,_,.nil,e=>by simp at e
 |e::es,p::tb,.cons ⟨_,_,rv⟩ r,h=>by
  obtain⟨y,z⟩:=p
  by_cases q:x=y
  ·subst q
   simp only[List.lookup_cons_self,Option.some.injEq] at h
   subst h
   exact⟨e.val,by simp[valueAt],rv⟩
  ·rw[zh7,zi5.mpr q] at h
   obtain⟨u,h1,h2⟩:=mx r h
   refine⟨u,?_,h2⟩
   rw[←h1]
   simp[valueAt,zg5,zl9 q]
section
variable {X:Cx}{α:Ev}{p pos:Pos}{a:Expr}{g:Str}{Q:PyData→Prop}
def lX (i:Expr):Prop:=∀ov iv,subscripted i false ov iv=operate [ov,iv] (getItem ov iv)
theorem aY {prog:Program}{w:World}{A:Around}{E:Value→Shared→Prop}{s:Shared}{env:Env}{value slice:Expr}{pos:Pos}{T id:String}{Q:Value→Shared→Prop}
  (hl:typeLookup (.type T) "__getitem__"=pure (some (.builtin id))) (hs:lX slice)
  (h:wpAny (model prog w) A (eval value env) (fun o s₁=>wpAny (model prog w) A (eval slice env) (fun i s₂=>s₂.TypeIs o T∧wpAny (model prog w) A (getItem o i) Q E s₂) E s₁) E s):
  wpAny (model prog w) A (eval (.Subscript value slice pos) env) Q E s:=by
 refine Subscript_ (thn h fun o s₁ h₁=>thn h₁ fun i s₂ h₂=>?_)
 obtain⟨hT,h₂⟩:=h₂
 unfold subscriptTail
 refine zc8 ?_
 rw[getitemInPython_of_ne hT.not_modules]
 refine zc8 (wpAny_specialOf hT hl ?_)
 have fin:wpAny (model prog w) A (subscripted slice false o i) (fun r s₃=>wpAny (model prog w) A (letTemporaryGo value o r >>= fun _=>pure r) Q E s₃) E s₂:=by
  rw[hs o i]
  exact wpAny_operating (thn h₂ fun r s₃ h₃=>zc8 (wpAny_letTemporaryGo (zd0 h₃)))
 first
  |exact zd0 (zc8 fin)
  |exact zc8 (zd0 (zc8 fin))
  |exact zc8 fin
theorem jo {d:Addr}{tb:List (Str×V)}{ty:TE}(hg:Gl X g)(hm:X.mg g=some (.ref d))(hd:nP X.K X.w d tb)(hi:PE X a ty)(hs:lX a)(hb:(g == ("__debug__":Str))=false:=by decide):
  PE X (.Subscript (.Name g p) a pos) (fun σ H Q=>ty σ H fun y H1=>∃x v,y=.str x∧tb.lookup x=some v∧Q v H1):=by
 intro pins s σ H Q I h
 refine aY zn1.lookup hs (vG I hg hm (thn (hi pins s σ H _ I h) fun iv s2 ⟨y,H2,I2,ry,x,v,ey,ex,q2⟩=>?_) hb)
 subst ey
 obtain⟨t,rfl⟩:=ry
 obtain⟨es,n,hl,he,hn⟩:=hd
 have dd:s2.heap.DictOf (PySem.strKind X.prog X.w) d (List.zipWith (fun e (p:Str×V)=>(p.1,e.val)) es.toList tb):=
  ⟨_,es,n,I2.kIn _ _ hl,⟨rfl,rfl,rfl⟩,rfl,fun e he'=>uS he e (by simpa using he'),vR he,by rw[uB he];exact hn⟩
 obtain⟨u,h1,h2⟩:=mx he ex
 exact⟨dd.typeIs,wpAny_getItem_of (show (PySem.strKind X.prog X.w).is x (.str x t)=true by simp[PySem.strKind,Value.isStrOf]) dd.mapOf h1 ⟨v,H2,I2.tok _,h2,q2⟩⟩
def scV :PyData→Option V
 |.none=>some .non
 |.bool b=>some (.bl b)
 |.int i=>some (.int i)
 |.str x=>some (.str x)
 |_=>Option.none
theorem jw {H:Hp}{d:PyData}{v:V}(h:scV d=some v):AV H v d:=by
 cases d<;>simp[scV] at h<;>subst h<;>constructor
theorem iL {d:Addr}{tb:List (Str×V)}(hg:Gl X g)(hm:X.mg g=some (.ref d))(hd:nP X.K X.w d tb)(h:EvD X α a fun y=>∃x d v,y=.str x∧tb.lookup x=some v∧scV d=some v∧Q d)(hs:lX a:=by exact fun _ _=>rfl)
  (hb:(g == ("__debug__":Str))=false:=by decide):EvD X α (.Subscript (.Name g p) a pos) Q:=fun F σ H R m k=>by
 refine⟨_,jo hg hm hd zi hs hb,?_⟩
 refine h F σ H _ m fun y vy H1 q1 t1 k1 r1=>?_
 obtain⟨x,d',v,rfl,h1,h2,q⟩:=q1
 cases r1.str_inv
 exact⟨x,v,rfl,h1,k _ _ H1 q t1 k1 (jw h2)⟩
end
section
variable {X:Cx}{α:Ev}{p pos:Pos}{a b:Expr}{g:Str}{Q:PyData→Prop}
def ug :List (PyData×PyData)→Str→Option PyData
 |[],_=>none
 |(.str y,d)::r,x=>if y=x then some d else ug r x
 |_::r,x=>ug r x
theorem gq (h0:Heap){v:V}{d:PyData}{u:Value}(h:scV d=some v)(f:PyProof.V.Flat u d):RelV v u:=by
 have r:=f h0
 cases d with
 |none=>cases h;cases r;rfl
 |bool b=>cases h;cases r;rfl
 |int i=>cases h;cases r;exact⟨_,rfl⟩
 |str x=>cases h;cases r;exact⟨_,rfl⟩
 |_=>cases h
def um :PyData→Bool
 |.none=>true
 |.bool _=>true
 |.int _=>true
 |.str _=>true
 |_=>false
theorem qj {H:Hp}{v:V}{d:PyData}(h:AV H v d)(f:um d=true):wN v=true∧scV d=some v:=by
 cases h<;>first|exact⟨rfl,rfl⟩|cases f
theorem tI {H:Hp}:∀{xs:List V} {ds:List PyData},AVs H xs ds→ds.all um=true→xs.all wN=true∧ds.map scV=xs.map some
 |_,_,.nil,_=>⟨rfl,rfl⟩
 |_,_,.cons h r,f=>by
  rw[zp8,ze9] at f
  obtain⟨h1,h2⟩:=qj h f.1
  obtain⟨h3,h4⟩:=tI r f.2
  exact⟨by rw[zp8,h1,h3];rfl,by rw[zg0,zg0,h2,h4]⟩
def inD (x:PyData)(ds:List PyData):Bool:=ds.any fun y=>match scV y,scV x with
 |some u,some v=>eqV u v
 |_,_=>false
theorem rn {v:V}{x:PyData}(hx:scV x=some v):∀{xs:List V} {ds:List PyData},ds.map scV=xs.map some→inV v xs=inD x ds
 |[],[],_=>rfl
 |[],_::_,e=>by cases e
 |_::_,[],e=>by cases e
 |u::xs,d::ds,e=>by
  rw[zg0,zg0] at e
  injection e with e1 e2
  have ih:=rn hx e2
  unfold inV inD at ih ⊢
  rw[zl1,zl1,ih,e1,hx]
theorem bo {neg:Bool}{x:PyData}{ds:List PyData}(fx:um x=true)(fs:ds.all um=true):Cmp (rIn X.K neg) x (.list ds) (if neg then !inD x ds else inD x ds):=fun p H vx vy R rx ry h=>by
 obtain⟨ad,xs,rfl,g1,g2⟩:=ry.lst_inv
 obtain⟨f1,s1⟩:=qj rx fx
 obtain⟨f2,s2⟩:=tI g2 fs
 refine⟨ad,xs,rfl,.inl (SqL.of (zf g1).2),f1,f2,?_⟩
 rw[rn s1 s2]
 exact h
theorem gr {neg:Bool}{x:PyData}{ds:List PyData}(fx:um x=true)(fs:ds.all um=true):Cmp (rIn X.K neg) x (.tuple ds) (if neg then !inD x ds else inD x ds):=fun p H vx vy R rx ry h=>by
 obtain⟨ad,xs,rfl,g1,g2⟩:=ry.tup_inv
 obtain⟨f1,s1⟩:=qj rx fx
 obtain⟨f2,s2⟩:=tI g2 fs
 refine⟨ad,xs,rfl,.inr (SqT.of (zf g1).2),f1,f2,?_⟩
 rw[rn s1 s2]
 exact h
theorem eS {Q:Bool→Prop}(h:EvD X α a fun x=>EvD X α b fun y=>∃ds,(y=.list ds∨y=.tuple ds)∧um x=true∧ds.all um=true∧Q (inD x ds))(hm:behindInMarks .In b=false:=by rfl):EvT X α (.Compare a [.In] [b] pos) Q:=
 wg lB hm (h.imp fun x h=>h.imp fun y ⟨ds,e,f1,f2,q⟩=>⟨inD x ds,by rcases e with rfl|rfl;exact bo (neg:=false) f1 f2;exact gr (neg:=false) f1 f2,q⟩)
end
section
variable {X:Cx}{α:Ev}{p pos:Pos}{a b:Expr}{Q:PyData→Prop}
end
section
variable {X:Cx}{α:Ev}{a e:Expr}{pos p2 p3 p4:Pos}{n1:Nat}{te:TE}
theorem fO {b c:Expr}{i j k:Int}{Q:Bool→Prop}(hm:lastMarks [.LtE,.LtE] [b,c]=false)(ha:∀Q:PyData→Prop,Q (.int i)→EvD X α a Q)(hb:∀Q:PyData→Prop,Q (.int j)→EvD X α b Q)(hc:∀Q:PyData→Prop,Q (.int k)→EvD X α c Q)(h:Q (decide (i≤j)&&decide (j≤k))):
  EvT X α (.Compare a [.LtE,.LtE] [b,c] pos) Q:=lR uM uM hm ha hb hc h
end
section
variable {X:Cx}{pins:List (Addr×Obj)}{σ:St}{H:Hp}{s:Shared}
end
section
variable {X:Cx}{α:Ev}{p q pos:Pos}{a b:Expr}
theorem qQ {G:Hp}:∀ns:List Int,AVs G (ns.map V.int) (ns.map .int)
 |[]=>.nil
 |n::ns=>.cons (.int n) (qQ ns)
end
section
variable {X:Cx}{α:Ev}{p pos:Pos}{a b:Expr}{Q:PyData→Prop}
structure bH (K:PySem.W.Frag)(C:Addr):Prop where
 cl:Cls K C
 ha:PySem.W.findIn K (.ref C) "__class__"=some (some (.builtin "object.__class__"))
 hn:PySem.W.specialIn K (.builtin "object.__class__") "__get__"=some (some (.builtin "getset_descriptor.__get__"))
 ht:PySem.W.takesIn K (.builtin "object.__class__")=some true
 hm:PySem.W.mroIn K C (.type "object")=some true
theorem fj {C:Addr}{x:Str}{p1:Pos}(hg:Gl X "isinstance")(hm:X.mg "isinstance"=none)(hgC:Gl X x)(hmC:X.mg x=some (.ref C))(h:EvD X α a fun d=>∃C' fs k,d=xU C' fs∧bH X.K C'∧PySem.W.kitOne X.K (.ref C') (.ref C)=some k∧Q (.bool k))
  (hdx:(x == ("__debug__":Str))=false:=by decide) (he:starEach [a,.Name x p1] X.env=(false,eval a X.env)::starEach [.Name x p1] X.env:=by rfl) (he2:starEach [.Name x p1] X.env=(false,eval (.Name x p1) X.env)::starEach [] X.env:=by rfl) (hpl:(backTo pos (starEach [.Name x p1] X.env)).any (·.1)=false:=by rfl):
  EvD X α (.Call (.Name "isinstance" p) [a,.Name x p1] [] pos) Q:=fun F σ H R m k=>by
 refine⟨_,yv lJ hg hm zl2 (ze zi (ze (wH (v:=.ref C) hgC hmC rfl hdx) zv he2) he) (he:=he) (hpl:=hpl),?_⟩
 refine h F σ H _ m fun d vx H1 q1 t1 k1 r1=>?_
 obtain⟨C',fs,b,rfl,ck,e,q⟩:=q1
 obtain⟨ad,dx,gs,rfl,h1,h2⟩:=r1.ins_inv
 exact⟨.ref ad,C,.ref C',b,rfl,wK.ins (zf h1).2 ck.cl ck.ha ck.hn ck.ht ck.hm,e,k _ _ H1 q t1 k1 (.bl b)⟩
end
open PySem.W SortA
section
variable {P:Program}{w:World}{K:PySem.W.Frag}{mg:Str→Option Value}{base:Heap}
end
section
variable {X:Cx}{α:Ev}{Q:PyData→Prop}{a b:Expr}{pos:Pos}
end
open PySem (IsZip)
section
variable {prog:Program}{w:World}{A:Around}{E:Value→Shared→Prop}{s:Shared}
abbrev z3 (n:Nat):List Addr:=[(n:Nat),(n+1:Nat),(n+2:Nat),(n+3:Nat),(n+4:Nat),(n+5:Nat)]
end
section
variable {X:Cx}{pins:List (Addr×Obj)}{σ:St}{H:Hp}{s:Shared}
end
section
variable {prog:Program}{w:World}{A:Around}{E:Value→Shared→Prop}{s:Shared}
end
section
variable {X:Cx}{pins:List (Addr×Obj)}{σ:St}{H:Hp}{s:Shared}
end
section
variable {X:Cx}{pins:List (Addr×Obj)}{σ:St}{H:Hp}{s:Shared}
variable {a b c:Expr}{p p0 pos pos2:Pos}
end
section
variable {X:Cx}{α:Ev}{a b c:Expr}{p p0 pos pos2:Pos}
end
section
variable {κ:Type}[DecidableEq κ]
def vV (kvs:List (κ×V))(k:κ):Option V:=(kvs.find? fun kv=>decide (kv.1=k)).map (·.2)
def putK (kvs:List (κ×V))(k:κ)(v:V):List (κ×V):=
 if (kvs.any fun kv=>decide (kv.1=k))=true then kvs.map (fun kv=>if kv.1=k then (kv.1,v) else kv) else kvs++[(k,v)]
theorem vo {p:κ×V}{r:List (κ×V)}{k:κ}(e:p.1=k):vV (p::r) k=some p.2:=by simp[vV,zg5,e]
theorem wy {p:κ×V}{r:List (κ×V)}{k:κ}(e:¬p.1=k):vV (p::r) k=vV r k:=by simp[vV,zg5,e]
theorem pJ (k:κ):∀kvs:List (κ×V),(kvs.any fun kv=>decide (kv.1=k))=(vV kvs k).isSome
 |[]=>rfl
 |p::r=>by
  rw[zl1]
  by_cases e:p.1=k
  ·simp only[vo e,zh0 e,zp1,Option.isSome_some]
  ·rw[wy e,zf5 e,zo5];exact pJ k r
theorem qZ (kvs:List (κ×V))(k:κ)(v:V):(putK kvs k v).length≤kvs.length+1:=by
 unfold putK
 split
 ·rw[zd5];omega
 ·rw[zf1,ze7,List.length_nil];omega
theorem KV.val {kvs:List (κ×V)}{vs:List (κ×Value)}(r:KV kvs vs)(k:κ):vt (vV kvs k) (valueAt vs k):=by
 unfold KV at r
 induction r with
 |nil=>exact True.intro
 |@cons p q ps qs h t ih=>
  obtain⟨h1,h2⟩:=h
  by_cases e:p.1=k
  ·have e':q.1=k:=h1.symm.trans e
   have b:valueAt (q::qs) k=some q.2:=by simp[valueAt,zg5,e']
   rw[vo e,b];exact h2
  ·have e':¬q.1=k:=fun z=>e (h1.trans z)
   have b:valueAt (q::qs) k=valueAt qs k:=by simp[valueAt,zg5,e']
   rw[wy e,b];exact ih
theorem KV.any {kvs:List (κ×V)}{vs:List (κ×Value)}(r:KV kvs vs)(k:κ):(kvs.any fun kv=>decide (kv.1=k))=vs.any fun kv=>decide (kv.1=k):=by
 unfold KV at r
 induction r with
 |nil=>rfl
 |cons h t ih=>rw[zl1,zl1,ih,h.1]
theorem KV.repl {kvs:List (κ×V)}{vs:List (κ×Value)}(r:KV kvs vs)(k:κ){y:V}{u:Value}(ry:RelV y u):
  KV (kvs.map fun kv=>if kv.1=k then (kv.1,y) else kv) (vs.map fun kv=>if kv.1=k then (kv.1,u) else kv):=by
 unfold KV at r ⊢
 induction r with
 |nil=>exact .nil
 |@cons p q ps qs h t ih=>
  rw[zg0,zg0]
  refine .cons ?_ ih
  obtain⟨h1,h2⟩:=h
  by_cases e:p.1=k
  ·rw[if_pos e,if_pos (h1.symm.trans e)];exact⟨h1,ry⟩
  ·rw[if_neg e,if_neg (fun z=>e (h1.trans z))];exact⟨h1,h2⟩
theorem KV.put {kvs:List (κ×V)}{vs:List (κ×Value)}(r:KV kvs vs)(k:κ){y:V}{u:Value}(ry:RelV y u):KV (putK kvs k y) (stored vs k u):=by
 unfold putK stored
 rw[r.any k]
 by_cases e:(vs.any fun kv=>decide (kv.1=k))=true
 ·rw[if_pos e,if_pos e];exact r.repl k ry
 ·rw[if_neg e,if_neg e];exact Paired.snoc r ⟨rfl,ry⟩
end
theorem iY {P:Program}{w:World}{k:Key}{u:Value}(r:RelV (kV k) u):(yg P w).is k u=true:=by
 cases k with
 |inl i=>obtain⟨t,e⟩:=(show ∃t,u=Value.int i t from r);subst e;exact qD P w i t
 |inr x=>obtain⟨t,e⟩:=(show ∃t,u=Value.str x t from r);subst e;exact pz P w x t
theorem sL {P:Program}{w:World}:∀{ks:List Key} {us:List Value},Vals (ks.map kV) us→ItemsAre (yg P w) ks us
 |[],_,r=>by rw[List.map_nil] at r;cases r;exact .nil
 |k::ks,_,r=>by
  rw[zg0] at r
  cases r with
  |cons h t=>exact .cons (iY h) (sL t)
abbrev KT (H:Hp):List (List Key×V)→List (List Key×Addr×Value)→Prop:=Paired fun p q=>p.1=q.1∧H q.2.1=some (.tup (p.1.map kV))∧RelV p.2 q.2.2
theorem KT.val {H:Hp}{kvs:List (List Key×V)}{xs:List (List Key×Addr×Value)}(r:KT H kvs xs)(k:List Key):vt (vV kvs k) ((atKey xs k).map (·.2)):=by
 induction r with
 |nil=>exact True.intro
 |@cons p q ps qs h t ih=>
  obtain⟨h1,_,h2⟩:=h
  by_cases e:p.1=k
  ·have e':q.1=k:=h1.symm.trans e
   have b:atKey (q::qs) k=some q.2:=by simp[atKey,zg5,e']
   rw[vo e,b];exact h2
  ·have e':¬q.1=k:=fun z=>e (h1.trans z)
   have b:atKey (q::qs) k=atKey qs k:=by simp[atKey,zg5,e']
   rw[wy e,b];exact ih
section
variable {P:Program}{w:World}{H:Hp}{h:Heap}{a:Addr}
theorem eP {u:HO}(ok:HOk P w H h)(e:Rd H a u):yc P w H h a u:=e.ok ok
theorem iF {kvs:List (Key×V)}(ok:HOk P w H h)(e:Rd H a (.dK kvs)):kvs.length≤sizeLine∧(a == sysModules)=false∧∃vs,KV kvs vs∧h.DictOf (yg P w) a vs:=
 show yc P w H h a (.dK kvs) from eP ok e
theorem aq {kvs:List (Key×V)}(ok:HOk P w H h)(e:H a=some (.dK kvs)):kvs.length≤sizeLine∧(a == sysModules)=false∧∃vs,KV kvs vs∧h.DictOf (yg P w) a vs:=iF ok (.inl e)
theorem iy {ks:List Key}(ok:HOk P w H h)(e:H a=some (.tup (ks.map kV))):(tupleKind (yg P w)).is h ks a:=by
 obtain⟨_,its,r,o,h1,h2,n,h3⟩:=(show yc P w H h a (.tup (ks.map kV)) from ok a _ e)
 exact⟨o,its.toArray,n,h1,h2,h3,by simpa using sL r⟩
theorem eY {kvs:List (List Key×V)}(ok:HOk P w H h)(e:Rd H a (.dT kvs)):kvs.length≤sizeLine∧(a == sysModules)=false∧
  ∃xs,KT H kvs xs∧h.DictOfH (tupleKind (yg P w)) a xs:=by
 obtain⟨z,y,xs,r,o,es,ep,h1,h2,h3,h4,h5⟩:=(show yc P w H h a (.dT kvs) from eP ok e)
 refine⟨z,y,xs,r,o,es,ep,h1,h2,h3,h4,fun x hx=>?_,h5⟩
 have all:∀{l:List (List Key×V)} {m:List (List Key×Addr×Value)},KT H l m→∀x∈m,(tupleKind (yg P w)).is h x.1 x.2.1:=by
  intro l m q
  induction q with
  |nil=>intro x hx;exact nomatch hx
  |@cons p q ps qs hq t ih=>
   intro x hx
   rcases zc9.mp hx with e|hx
   ·subst e
    exact iy ok (by rw[←hq.1];exact hq.2.1)
   ·exact ih x hx
 exact all r x hx
end
def fb (H:Hp)(a:Addr)(y:V)(r:Option V):Prop:=
 (∃kvs k,Rd H a (.dK kvs)∧y=kV k∧r=vV kvs k)∨∃kvs k b,Rd H a (.dT kvs)∧y=.ref b∧H b=some (.tup (k.map kV))∧r=vV kvs k
section
variable {X:Cx}{pins:List (Addr×Obj)}{σ:St}{H:Hp}{s:Shared}{a:Addr}{y v:V}{u r:Value}{o:Option V}{A:Around}{E:Value→Shared→Prop}
theorem Inv.big (I:Inv X pins σ H s):sysModules<s.heap.objs.size:=by
 have h:mainGlobals<s.heap.objs.size:=(I.mod.glob.keeps I.bk).lt
 exact zn5 (by decide) h
theorem sv {Q:Value→Shared→Prop}(hu:A.units+1<cLine)(I:Inv X pins σ H s)(g:fb H a y (some v))(ry:RelV y u)(h:∀w' s',Inv X pins σ H s'→RelV v w'→Q w' s'):
  wpAny (model X.prog X.w) A (getItem (.ref a) u) Q E s:=by
 rcases g with ⟨kvs,k,e,ey,l⟩|⟨kvs,k,b,e,ey,eb,l⟩
 ·subst ey
  obtain⟨z,hd,vs,rel,dd⟩:=iF I.hok e
  obtain⟨w',hw,rw'⟩:=vt.some_of (v:=v) (o:=valueAt vs k) (by rw[l];exact rel.val k)
  exact wpAny_getItem_of (iY ry) dd.mapOf hw (h w' _ (I.tok _) rw')
 ·subst ey
  cases (show u=Value.ref b from ry)
  obtain⟨z,hd,xs,rel,dd⟩:=eY I.hok e
  obtain⟨w',hw,rw'⟩:=vt.some_of (v:=v) (o:=(atKey xs k).map (·.2)) (by rw[l];exact rel.val k)
  obtain⟨p,hp,hp2⟩:=zf0.mp hw
  refine wpAny_getItem_heap (tupleKind_room_in1 hu) (iy I.hok eb) dd hp ?_
  rw[hp2]
  exact h w' _ (I.tok _) rw'
theorem gS {h':Heap}{t':Nat}{ob:HO}(I:Inv X pins σ H s)(mu:Mut (H a))(hs:Heap.SameBut a s.heap h')(he:∃q,h'.get? a=some q)(new:yc X.prog X.w (upd H a ob) h' a ob):
  Inv X pins σ (upd H a ob) {s with heap:=h',toks:=t'}:=
 I.write (x:=a) (e:=a) mu (.inl rfl) (fun b q hb z=>(hs.2 b hb).trans z) he new
theorem cH {P:Program}{w:World}{H':Hp}{h':Heap}{kvs:List (Key×V)}{vs:List (Key×Value)}(z:kvs.length≤sizeLine)(hd:(a == sysModules)=false)(rel:KV kvs vs)(dd:h'.DictOf (yg P w) a vs):
  yc P w H' h' a (.dK kvs):=⟨z,hd,vs,rel,dd⟩
end
section
variable {X:Cx}{pins:List (Addr×Obj)}{σ:St}{H:Hp}{s:Shared}{a:Addr}{kvs:List (Key×V)}{k:Key}{u:Value}{A:Around}{E:Value→Shared→Prop}
end
theorem fV {prog:Program}{w:World}{A:Around}{E:Value→Shared→Prop}{s:Shared}{env:Env}{value slice:Expr}{pos:Pos}{T id:String}{Q:Value→Shared→Prop}
  (hl:typeLookup (.type T) "__getitem__"=pure (some (.builtin id))) (hs:lX slice)
  (h:wpAny (model prog w) A (eval value env) (fun o s₁=>wpAny (model prog w) A (eval slice env) (fun i s₂=>s₂.TypeIs o T∧wpAny (model prog w) A (getItem o i) Q E s₂) E s₁) E s):
  wpAny (model prog w) A (eval (.Subscript value slice pos) env) Q E s:=by
 refine Subscript_ (zg7 h (fun o s₁ h₁=>zg7 h₁ (fun i s₂ h₂=>?_) fun _ _ x=>x) fun _ _ x=>x)
 obtain⟨hT,h₂⟩:=h₂
 unfold subscriptTail
 refine zc8 ?_
 rw[getitemInPython_of_ne hT.not_modules]
 refine zc8 (wpAny_specialOf hT hl ?_)
 have fin:wpAny (model prog w) A (subscripted slice false o i) (fun r s₃=>wpAny (model prog w) A (letTemporaryGo value o r >>= fun _=>pure r) Q E s₃) E s₂:=by
  rw[hs o i]
  exact wpAny_operating (zg7 h₂ (fun r s₃ h₃=>zc8 (wpAny_letTemporaryGo (zd0 h₃))) fun _ _ x=>x)
 first
  |exact zd0 (zc8 fin)
  |exact zc8 (zd0 (zc8 fin))
  |exact zc8 fin
theorem ud {X:Cx}{pins:List (Addr×Obj)}{σ:St}{H:Hp}{s:Shared}{a:Addr}{y:V}{o:Option V}(I:Inv X pins σ H s)(g:fb H a y o):s.TypeIs (.ref a) "dict":=by
 rcases g with ⟨kvs,k,e,_,_⟩|⟨kvs,k,b,e,_,_,_⟩
 ·obtain⟨_,_,vs,_,dd⟩:=iF I.hok e
  exact dd.typeIs
 ·obtain⟨_,_,xs,_,dd⟩:=eY I.hok e
  exact dd.typeIs
def aP (td ty:TE):TE:=fun σ H Q=>td σ H fun x H1=>ty σ H1 fun y H2=>∃a v,x=.ref a∧fb H2 a y (some v)∧Q v H2
section
variable {X:Cx}{o i e value:Expr}{pos pos' tpos:Pos}{td ty tv:TE}
theorem gI (hu:X.A.units+1<cLine)(ho:PE X o td)(hi:PE X i ty)(hs:lX i):PE X (.Subscript o i pos) (aP td ty):=by
 intro pins s σ H Q I h
 refine fV zn1.lookup hs (thn (ho pins s σ H _ I h) fun u s1 ⟨x,H1,I1,rx,q1⟩=>thn (hi pins s1 σ H1 _ I1 q1) fun iv s2 ⟨y,H2,I2,ry,a,v,ex,g,q2⟩=>?_)
 subst ex
 obtain rfl:u=Value.ref a:=rx
 exact⟨ud I2 g,sv hu I2 g ry fun w' s3 I3 rw'=>⟨v,H2,I3,rw',q2⟩⟩
end
theorem jg {P:Program}{w:World}{H:Hp}(h:Heap)(hb:sysModules<h.objs.size):yc P w H (h.push {cls:=.type "dict",data:=.dict #[]}) h.objs.size (.dK []):=
 ⟨ze8 _,zi5.mpr (zl9 (ze5 hb)),[],.nil,Heap.DictOf.new h⟩
section
variable {X:Cx}{pos:Pos}
end
def oP :List (TE×TE)→St→Hp→(List (V×V)→Hp→Prop)→Prop
 |[],_,H,Q=>Q [] H
 |(tk,tv)::r,σ,H,Q=>tk σ H fun x H1=>tv σ H1 fun y H2=>oP r σ H2 fun ps H3=>Q ((x,y)::ps) H3
abbrev VV :List (V×V)→List (Value×Value)→Prop:=Paired fun p q=>RelV p.1 q.1∧RelV p.2 q.2
def PPs (X:Cx)(pos:Pos)(keys:List (Option Expr))(values:List Expr)(trs:List (TE×TE)):Prop:=
 ∀(pins:List (Addr×Obj)) (s:Shared) (σ:St) (H:Hp) (Q:List (V×V)→Hp→Prop),Inv X pins σ H s→oP trs σ H Q→
  wpAny (model X.prog X.w) X.A (evalPairs (pairTrees keys values X.env pos)) (fun vs s'=>∃ps H',Inv X pins σ H' s'∧VV ps vs∧Q ps H') X.xe s
theorem fF {X:Cx}{pos:Pos}:PPs X pos [] [] []:=fun pins s σ H Q I h=>pairTrees_nil_walk ⟨[],H,I,.nil,h⟩
theorem we {X:Cx}{pos:Pos}{k v:Expr}{ks:List (Option Expr)}{vs:List Expr}{tk tv:TE}{trs:List (TE×TE)}(hk:PE X k tk)(hv:PE X v tv)(hr:PPs X pos ks vs trs):
  PPs X pos (some k::ks) (v::vs) ((tk,tv)::trs):=fun pins s σ H Q I h=>
 pairTrees_cons_walk (thn (hk pins s σ H _ I h) fun u s1 ⟨x,H1,I1,rx,q1⟩=>thn (hv pins s1 σ H1 _ I1 q1) fun w2 s2 ⟨y,H2,I2,ry,q2⟩=>
  thn (hr pins s2 σ H2 _ I2 q2) fun ws s3 ⟨ps,H3,I3,rel,q3⟩=>⟨(x,y)::ps,H3,I3,.cons ⟨rx,ry⟩ rel,q3⟩)
def xP (kvs more:List (Key×V)):List (Key×V):=more.foldl (fun acc kv=>putK acc kv.1 kv.2) kvs
theorem KV.merge :∀{more:List (Key×V)} {rs:List (Key×Value)} {kvs:List (Key×V)} {vs:List (Key×Value)},KV more rs→KV kvs vs→KV (xP kvs more) (merged vs rs):=by
 intro more rs kvs vs r
 unfold KV at r
 induction r generalizing kvs vs with
 |nil=>intro q;exact q
 |@cons p q ps qs h t ih=>
  intro r0
  have e:KV (putK kvs p.1 p.2) (stored vs q.1 q.2):=by
   have:=r0.put p.1 h.2
   rw[←h.1];exact this
  exact ih e
theorem wM :∀(more kvs:List (Key×V)),(xP kvs more).length≤kvs.length+more.length
 |[],kvs=>by show kvs.length≤kvs.length+0;omega
 |p::r,kvs=>by
  have h1:=wM r (putK kvs p.1 p.2)
  have h2:=qZ kvs p.1 p.2
  show (xP (putK kvs p.1 p.2) r).length≤_
  rw[ze7];omega
theorem uZ {P:Program}{w:World}:∀{kvs:List (Key×V)} {ws:List (Value×Value)},VV (kvs.map fun kv=>(kV kv.1,kv.2)) ws→∃rs,Carries (yg P w) ws rs∧KV kvs rs
 |[],_,r=>by rw[List.map_nil] at r;cases r;exact⟨[],True.intro,.nil⟩
 |p::kvs,_,r=>by
  rw[zg0] at r
  cases r with
  |@cons a b as bs h t=>
   obtain⟨rs,c,q⟩:=uZ (P:=P) (w:=w) t
   obtain⟨b1,b2⟩:=b
   exact⟨(p.1,b2)::rs,⟨iY h.1,rfl,c⟩,.cons ⟨rfl,h.2⟩ q⟩
def bz (trs:List (TE×TE)):TE:=fun σ H Q=>∀p,H p=none→oP trs σ (upd H p (.dK [])) fun ps H2=>H2 p=some (.dK [])∧∃kvs:List (Key×V),ps=kvs.map (fun kv=>(kV kv.1,kv.2))∧kvs.length≤15∧Q (.ref p) (upd H2 p (.dK (xP [] kvs)))
theorem gf {X:Cx}{pos:Pos}{keys:List (Option Expr)}{values:List Expr}{trs:List (TE×TE)}(h:PPs X pos keys values trs)(hall:keys.all (·.isSome)=true)(hl:keys.length=values.length)(h0:keys≠[])
  (h15:keys.length≤15):PE X (.Dict keys values pos) (bz trs):=by
 intro pins s σ H Q I q
 have hn:=I.hok.fresh (zd6 s.heap.objs.size)
 have I1:=I.laid (a:=s.heap.objs.size) (o:=.dK []) (h':=s.heap.push {cls:=.type "dict",data:=.dict #[]}) (t':=s.toks) (fun _ _ q=>zd3 _ q) (zd6 _) (jg s.heap I.big)
 refine wpAny_Dict_walk (knd:=yg X.prog X.w) hall hl h0 h15 (thn (h pins _ σ _ _ I1 (q _ hn)) fun ws s2 ⟨ps,H2,I2,rel,e,kvs,ep,lk,q2⟩=>?_)
 subst ep
 obtain⟨rs,c,rk⟩:=uZ (P:=X.prog) (w:=X.w) rel
 obtain⟨z,hd,vs0,r0,dd⟩:=aq I2.hok e
 cases r0
 refine⟨rs,c,dd,fun h' dd' hs=>⟨.ref s.heap.objs.size,_,?_,rfl,q2⟩⟩
 have hz:(xP [] kvs).length≤sizeLine:=by
  have h1:=wM kvs []
  rw[List.length_nil] at h1
  rw[sizeLine_eq];omega
 have he:∃q,h'.get? s.heap.objs.size=some q:=let ⟨q,_,_,hq,_⟩:=dd';⟨q,hq⟩
 exact gS I2 (by rw[e];exact True.intro) hs he (cH hz hd (rk.merge .nil) dd')
section
variable {X:Cx}{pins:List (Addr×Obj)}{σ:St}{H:Hp}{s:Shared}{a:Addr}{y d:V}{u r:Value}{o:Option V}{A:Around}{E:Value→Shared→Prop}
end
section
variable {X:Cx}{o e f:Expr}{apos cpos:Pos}{td ty tx:TE}
end
section
variable {X:Cx}{pins:List (Addr×Obj)}{σ:St}{H:Hp}{s:Shared}{a:Addr}{kvs:List (Key×V)}{A:Around}{E:Value→Shared→Prop}
end
section
variable {X:Cx}{pins:List (Addr×Obj)}{σ:St}{H:Hp}{s:Shared}{a:Addr}{y:V}{u:Value}{A:Around}{E:Value→Shared→Prop}
end
def kEq :PyData→Key→Bool
 |.int i,.inl j=>decide (i=j)
 |.str x,.inr y=>decide (x=y)
 |_,_=>false
theorem tW (k j:Key):kEq (tS k) j=decide (k=j):=by
 cases k<;>cases j<;>simp[kEq,tS]
def tN :List (PyData×PyData)→Key→Option PyData
 |[],_=>none
 |(p,d)::r,k=>if kEq p k=true then some d else tN r k
def putD (ds:List (PyData×PyData))(k:Key)(d:PyData):List (PyData×PyData):=
 if (tN ds k).isSome=true then ds.map (fun p=>if kEq p.1 k=true then (p.1,d) else p) else ds++[(tS k,d)]
theorem AVk.get {H:Hp}:∀{kvs:List (Key×V)} {ds:List (PyData×PyData)} {k:Key} {d:PyData},AVk H kvs ds→tN ds k=some d→∃v,vV kvs k=some v∧AV H v d
 |_,_,k,d,.nil,e=>by cases e
 |_,_,k,d,.cons (k:=j) h r,e=>by
  unfold tN at e
  rw[tW] at e
  by_cases z:j=k
  ·rw[zh0 z,if_pos rfl] at e
   cases e
   exact⟨_,vo z,h⟩
  ·rw[zf5 z,if_neg (by decide)] at e
   rw[wy z]
   exact AVk.get r e
theorem AVk.none {H:Hp}:∀{kvs:List (Key×V)} {ds:List (PyData×PyData)} {k:Key},AVk H kvs ds→tN ds k=Option.none→vV kvs k=Option.none
 |_,_,k,.nil,e=>rfl
 |_,_,k,.cons (k:=j) h r,e=>by
  unfold tN at e
  rw[tW] at e
  by_cases z:j=k
  ·rw[zh0 z,if_pos rfl] at e
   cases e
  ·rw[zf5 z,if_neg (by decide)] at e
   rw[wy z]
   exact AVk.none r e
theorem AVk.some_iff {H:Hp}{kvs:List (Key×V)}{ds:List (PyData×PyData)}(h:AVk H kvs ds)(k:Key):(vV kvs k).isSome=(tN ds k).isSome:=by
 cases e:tN ds k with
 |none=>rw[h.none e];rfl
 |some d=>
  obtain⟨v,hv,_⟩:=h.get e
  rw[hv];rfl
theorem AVk.length {H:Hp}:∀{kvs:List (Key×V)} {ds:List (PyData×PyData)},AVk H kvs ds→kvs.length=ds.length
 |_,_,.nil=>rfl
 |_,_,.cons _ r=>by rw[ze7,ze7,AVk.length r]
theorem AVk.snoc {H:Hp}{k:Key}{v:V}{d:PyData}(a:AV H v d):∀{kvs:List (Key×V)} {ds:List (PyData×PyData)},AVk H kvs ds→AVk H (kvs++[(k,v)]) (ds++[(tS k,d)])
 |_,_,.nil=>.cons a .nil
 |_,_,.cons h r=>.cons h (AVk.snoc a r)
theorem AVk.repl {H:Hp}{k:Key}{v:V}{d:PyData}(a:AV H v d):∀{kvs:List (Key×V)} {ds:List (PyData×PyData)},AVk H kvs ds→AVk H (kvs.map fun kv=>if kv.1=k then (kv.1,v) else kv) (ds.map fun p=>if kEq p.1 k=true then (p.1,d) else p)
 |_,_,.nil=>.nil
 |_,_,.cons (k:=j) h r=>by
  rw[zg0,zg0]
  show AVk H ((if j=k then (j,v) else (j,_))::_) ((if kEq (tS j) k=true then (tS j,d) else (tS j,_))::_)
  rw[tW]
  by_cases z:j=k
  ·rw[if_pos z,zh0 z,if_pos rfl];exact .cons a (AVk.repl a r)
  ·rw[if_neg z,zf5 z,if_neg (by decide)];exact .cons h (AVk.repl a r)
theorem AVk.put {H:Hp}{kvs:List (Key×V)}{ds:List (PyData×PyData)}{k:Key}{v:V}{d:PyData}(h:AVk H kvs ds)(a:AV H v d):AVk H (putK kvs k v) (putD ds k d):=by
 unfold putK putD
 rw[pJ,h.some_iff]
 split
 ·exact h.repl a
 ·exact h.snoc a
theorem gR {H:Hp}{v:V}{k:Key}(h:AV H v (tS k)):v=kV k:=by
 cases k with
 |inl i=>exact h.int_inv
 |inr x=>exact h.str_inv
theorem AV.dk_inv {H:Hp}{v:V}{ds:List (PyData×PyData)}(h:AV H v (eD ds)):∃a o kvs,v=.ref a∧H a=some (.frz o (.dK kvs))∧AVk H kvs ds:=by
 generalize e:eD ds=d at h
 cases h with
 |dk h1 h2=>cases e;exact⟨_,_,_,rfl,h1,h2⟩
 |_=>cases e
section
variable {X:Cx}{pins:List (Addr×Obj)}{σ:St}{H:Hp}{s:Shared}{l:Addr}{kvs:List (Key×V)}
end
section
variable {X:Cx}{e:Expr}{sts:List Stmt}
end
section
variable {X:Cx}{α:Ev}{e a b:Expr}{pos p:Pos}{Q:PyData→Prop}
end
section
variable {X:Cx}{α:Ev}{e a b:Expr}{pos p:Pos}{Q:PyData→Prop}
end
section
variable {X:Cx}{tg:Expr}
end
section
variable {X:Cx}{α:Ev}{e a b tg:Expr}{pos p:Pos}{Q:List PyData→Prop}
end
mutual
def ltD :PyData→PyData→Option Bool
 |.int a,.int b=>some (decide (a<b))
 |.str a,.str b=>some (decide (a.cps.toList<b.cps.toList))
 |.tuple xs,.tuple ys=>bq xs ys
 |_,_=>none
def bq :List PyData→List PyData→Option Bool
 |[],[]=>some false
 |[],_::_=>some true
 |_::_,[]=>some false
 |x::xs,y::ys=>if PyData.eqv x y=true then bq xs ys else ltD x y
end
section
open PySem.SeqAt
open PySem.AutoSeq1 (wpAny_loadPart')
open PySem.MeetsSeq PySem.MeetsSeq2 PySem.MeetsSeq3
end
section
variable {prog:Program}{w:World}{A:Around}{R:Result→Shared→Prop}{it:Addr}{fp wr:List Addr}{m:Nat}{P:Nat→Value→Prop}{St:Nat→Heap→Prop}
end
section
variable {prog:Program}{w:World}{A:Around}{E:Value→Shared→Prop}{s:Shared}
end
section
variable {X:Cx}{α:Ev}{e:Expr}{pos p:Pos}{Q:PyData→Prop}
theorem AVs.intsV {H:Hp}:∀{xs:List V} {zs:List Int},AVs H xs (zs.map .int)→xs=zs.map V.int
 |_,[],.nil=>rfl
 |_,z::zs,.cons h r=>by rw[h.int_inv,AVs.intsV r];rfl
end
section
variable {prog:Program}{w:World}{A:Around}{E:Value→Shared→Prop}{s:Shared}{it l:Addr}{items:Array Value}
end
section
variable {X:Cx}{α:Ev}{a e c:Expr}{p p0 pos pos2:Pos}{Q:List PyData→Prop}
end
def mF (Q:PyData→Prop):List PyData→Prop
 |[]=>True
 |d::r=>Q d∧mF Q r
theorem mF.mem {Q:PyData→Prop}:∀{ds:List PyData},mF Q ds→∀d∈ds,Q d
 |[],_,d,h=>by cases h
 |x::r,h,d,hd=>by
  rcases zc9.mp hd with rfl|hd
  ·exact h.1
  ·exact mF.mem h.2 d hd
theorem iw {x:PyData}{ds:List PyData}{v:Int}{Q:PyData→Prop}(P:PyData→Prop)(hx:uQ x=some ds)(h0:0≤v)(h1:v<ds.length)(h:mF P ds)(k:∀d,P d→Q d):∃ds i d,uQ x=some ds∧PyData.int v=.int i∧atI ds i=some d∧Q d:=by
 obtain⟨d,hd,e⟩:=vw h0 h1
 exact⟨ds,v,d,hx,rfl,e,k d (h.mem d hd)⟩
theorem ak {k:Bool}{p q:Prop}(h1:k=true→p)(h2:k=false→q):if k=true then p else q:=by
 cases k with
 |true=>exact h1 rfl
 |false=>exact h2 rfl
section
variable {X:Cx}{α:Ev}{e a b:Expr}{pos p:Pos}{E:yw}{rest:List Stmt}
end
def aT :R2:=fun x y H R=>rEq x y H R∨bG x y H R
def aj :R2:=fun x y H R=>rNe x y H R∨bT x y H R
theorem cF {X:Cx}(hu:X.A.units+64<cLine):OpR X (compareOp .Eq) aT:=fun pins s σ H x y v u Q I rx ry h=>h.elim (fun h=>xS _ _ _ _ _ _ _ _ _ I rx ry h) fun h=>wc hu _ _ _ _ _ _ _ _ _ I rx ry h
theorem cR {X:Cx}(hu:X.A.units+64<cLine):OpR X (compareOp .NotEq) aj:=fun pins s σ H x y v u Q I rx ry h=>h.elim (fun h=>aH _ _ _ _ _ _ _ _ _ I rx ry h) fun h=>cW hu _ _ _ _ _ _ _ _ _ I rx ry h
theorem gn {i j:Str}:Cmp rNe (.str i) (.str j) (!decide (i=j)):=fun p H vx vy R rx ry h=>by
 cases rx.str_inv;cases ry.str_inv
 refine⟨rfl,?_⟩
 rw[show decide (V.str i=V.str j)=decide (i=j) by simp]
 exact h
def kl (x y:PyData)(Q:Bool→Prop):Prop:=∃k,Cmp aT x y k∧Cmp aj x y (!k)∧Q k
theorem gF {i j:Str}{Q:Bool→Prop}(h:Q (decide (i=j))):kl (.str i) (.str j) Q:=⟨_,fun p H vx vy R rx ry z=>.inl (my p H vx vy R rx ry z),fun p H vx vy R rx ry z=>.inl (gn p H vx vy R rx ry z),h⟩
theorem eqk {x y:PyData}{Q:Bool→Prop}(s1:SeqAt.shaped x=true)(s2:SeqAt.shaped y=true)(d1:x.hasDict=false)(d2:y.hasDict=false)(h:Q (PyData.eqv x y)):kl x y Q:=
 ⟨_,fun p H vx vy R rx ry z=>.inr ⟨x,y,(rx.dv d1).same xW,(ry.dv d2).same xW,s1,s2,z⟩,fun p H vx vy R rx ry z=>.inr ⟨x,y,(rx.dv d1).same xW,(ry.dv d2).same xW,s1,s2,z⟩,h⟩
section
variable {X:Cx}{α:Ev}{a b:Expr}{pos:Pos}{Q:PyData→Prop}{T:Bool→Prop}
theorem cK (hu:X.A.units+64<cLine)(h:EvD X α a fun x=>EvD X α b fun y=>kl x y T):EvT X α (.Compare a [.Eq] [b] pos) T:=wg (cF hu) (zH _) (h.imp fun x h=>h.imp fun y ⟨k,e,_,q⟩=>⟨k,e,q⟩)
theorem iX (hu:X.A.units+64<cLine)(h:EvD X α a fun x=>EvD X α b fun y=>kl x y fun k=>T (!k)):EvT X α (.Compare a [.NotEq] [b] pos) T:=wg (cR hu) (zH _) (h.imp fun x h=>h.imp fun y ⟨k,_,e,q⟩=>⟨!k,e,q⟩)
theorem eW {k:Bool}{p q:Prop}(e:k=true)(h:p):if k=true then p else q:=by rw[if_pos e];exact h
theorem sN {k:Bool}{p q:Prop}(e:k=false)(h:q):if k=true then p else q:=by rw[if_neg (by rw[e];decide)];exact h
variable {E:yw}{s t:List Stmt}
theorem vq {k:Bool}(e:k=true)(h:SvS X α s E):SvS X α (if k=true then s else t) E:=by rw[if_pos e];exact h
theorem yD {k:Bool}(e:k=false)(h:SvS X α t E):SvS X α (if k=true then s else t) E:=by rw[if_neg (by rw[e];decide)];exact h
end
section
variable {X:Cx}{α:Ev}{a b:Expr}{pos:Pos}{Q:PyData→Prop}{T:Bool→Prop}
def aJ :R2:=fun x y H Q=>∃a v,x=.ref a∧fb H a y (some v)∧Q v H
theorem eh (hu:X.A.units+1<cLine):IxR X aJ:=fun value slice pins s σ H x y v u Q I rx ry h hs=>by
 obtain⟨a,z,rfl,g,q⟩:=h
 cases rx
 exact tail_any (ud I g) zn1.lookup (sv hu I g ry fun w' s' I' r'=>⟨z,H,I',r',q⟩) hs
def eG (x y:PyData)(Q:PyData→Prop):Prop:=(∃ds i d,uQ x=some ds∧y=.int i∧atI ds i=some d∧Q d)∨∃ds k d,x=eD ds∧y=tS k∧tN ds k=some d∧Q d
theorem ixk {x y:PyData}{ds:List PyData}{i:Int}{d:PyData}(h1:uQ x=some ds)(h2:y=.int i)(h3:atI ds i=some d)(h:Q d):eG x y Q:=.inl ⟨ds,i,d,h1,h2,h3,h⟩
theorem dg {x:PyData}{ds:List PyData}{v:Int}(P:PyData→Prop)(hx:uQ x=some ds)(h0:0≤v)(h1:v<ds.length)(h:mF P ds)(k:∀d,P d→Q d):eG x (.int v) Q:=.inl (iw P hx h0 h1 h k)
theorem jj (hu:X.A.units+1<cLine)(hs:uC b)(h:EvD X α a fun x=>EvD X α b fun y=>eG x y Q):EvD X α (.Subscript a b pos) Q:=by
 refine tX (f:=tOp (fun x y H Q=>rIx X.K x y H Q∨aJ x y H Q)) (yi (cj.or (eh hu)) zi zi hs) (fun _ _ _=>Iff.rfl) (h.imp fun x h=>h.imp fun y h=>?_)
 intro F σ H vx vy R m rx ry k
 rcases h with ⟨ds,i,d,e1,rfl,hat,hq⟩|⟨ds,kk,d,rfl,rfl,hv,hq⟩
 ·cases ry.int_inv
  cases x with
  |list ds'=>
   cases e1
   obtain⟨a,xs,rfl,h1,h2⟩:=rx.lst_inv
   obtain⟨v,hv,av⟩:=h2.atI hat
   exact .inl (.inl ⟨a,xs,i,v,rfl,rfl,SqL.of (zf h1).2,hv,k d v H hq m.tp Kz.refl av⟩)
  |tuple ds'=>
   cases e1
   obtain⟨a,xs,rfl,h1,h2⟩:=rx.tup_inv
   obtain⟨v,hv,av⟩:=h2.atI hat
   exact .inl (.inr (.inl ⟨a,xs,i,v,rfl,rfl,SqT.of (zf h1).2,hv,k d v H hq m.tp Kz.refl av⟩))
  |_=>cases e1
 ·obtain⟨a,o,kvs,rfl,g1,g2⟩:=rx.dk_inv
  obtain⟨v,w1,w2⟩:=g2.get hv
  cases gR ry
  exact .inr ⟨a,v,rfl,.inl ⟨kvs,kk,.inr ⟨o,(zf g1).2⟩,rfl,w1.symm⟩,k d v H hq m.tp Kz.refl w2⟩
end
theorem zR.one {k:Nat}{A:Around}(h:zR k A):A.units+1<cLine:=by have:=h.units;omega
section
variable {X:Cx}{α:Ev}{E:yw}{rest body:List Stmt}{e c tg iter:Expr}{pos p:Pos}
theorem yL (pat:Pat)(h:EvI X α tg iter fun ds=>xy X pat body rest E ds α)(hN:X.N.Nodup:=by assumption)(hp:PassesOwn (model X.prog X.w) X.A X.env X.xe:=by exact zn2)(hc:X.calm=true:=by rfl)
  (hg:PG X tg (sV X.K pat):=by first|exact ym (by assumption) rfl (Or.inl rfl)|exact ym (by assumption) rfl (Or.inr rfl)|exact vp rfl rfl (by repeat (first|exact uz|refine wm (by first|exact ym (by assumption) rfl (Or.inl rfl)|exact ym (by assumption) rfl (Or.inr rfl)) ?_)))
  (hs:∀x,foldedSetIterable iter X.env x=pure x:=by intro _;rfl):SvS X α (.For tg iter body [] pos::rest) E:=rH hp hc hg h hs
def freeOk (xs:Scope)(y:Str×NameKind):Bool:=match y.2 with
 |.free=>match xs.names.lookup y.1 with
  |some .cell=>true
  |some .free=>true
  |_=>false
 |_=>true
theorem qC {xs scope:Scope}(h:scope.names.all (freeOk xs)=true):∀y∈scope.names,y.2=.free→xs.names.lookup y.1=some .cell∨xs.names.lookup y.1=some .free:=fun y hy e=>by
 have:=zm3.mp h y hy
 unfold freeOk at this
 rw[e] at this
 cases z:xs.names.lookup y.1 with
 |none=>rw[z] at this;cases this
 |some k=>
  rw[z] at this
  cases k<;>first|exact .inl rfl|exact .inr rfl|cases this
theorem zb5 (N:List Str)(imp:List (Option Nat))(pat:Pat){scope:Scope}{elt:Expr}{ifs:List Expr}{Q:List PyData→Prop}(h:EvI X α tg iter fun ds=>ds.length≤1000∧xt (fun C s2 H2 fp=>X.comp N scope C s2 H2 fp) pat ifs elt (yE imp α) ds [] Q)
  (nd:N.Nodup:=by decide +kernel) (h1:scope.kind=.function:=by rfl) (h2:∀y∈scope.names,y.2≠.cell:=by decide +kernel) (h3:∀y∈scope.names,y.2=.local→scope.names.lookup y.1=some .local:=by decide +kernel) (h4:scope.names.all (freeOk X.env.scope)=true:=by rfl) (h5:imp.length=N.length:=by rfl)
  (h6:((imp.zip N).all fun p=>match p.1 with|none=>true|some j=>X.N[j]? == some p.2&&scope.names.lookup p.2 == some .free)=true:=by rfl) (hfree:pat.free (yE imp α)=true:=by rfl)
  (hg:∀C s2 H2 fp,N.Nodup→PG (X.comp N scope C s2 H2 fp) tg (sV X.K pat):=by intro _ _ _ _ hnd;first|exact ym hnd rfl (Or.inl rfl)|exact vp rfl rfl (by repeat (first|exact uz|refine wm (ym hnd rfl (Or.inl rfl)) ?_)))
  (hc:X.calm=true:=by rfl) (hs:∀x,foldedSetIterable iter X.env x=pure x:=by intro _;rfl):EvL X α (.ListComp elt [⟨tg,iter,ifs,0⟩] scope pos) Q:=eQ hc ⟨h1,nd,h2,h3,qC h4,h5,h6⟩ hfree (fun C s2 H2 fp=>hg C s2 H2 fp nd) h hs
theorem dP (i:Nat)(N:List Str)(imp:List (Option Nat))(pat:Pat){x:Str}{pos' cpos:Pos}{scope:Scope}{elt:Expr}{ifs:List Expr}(h:EvI X α tg iter fun ds=>ds.length≤1000∧xt (fun C s2 H2 fp=>X.comp N scope C s2 H2 fp) pat ifs elt (yE imp α) ds [] fun ds=>SvS X (α.set i (some (.own ds))) rest E)
  (hN:X.N.Nodup:=by assumption)
  (nd:N.Nodup:=by decide +kernel) (h1:scope.kind=.function:=by rfl) (h2:∀y∈scope.names,y.2≠.cell:=by decide +kernel) (h3:∀y∈scope.names,y.2=.local→scope.names.lookup y.1=some .local:=by decide +kernel) (h4:scope.names.all (freeOk X.env.scope)=true:=by rfl) (h5:imp.length=N.length:=by rfl)
  (h6:((imp.zip N).all fun p=>match p.1 with|none=>true|some j=>X.N[j]? == some p.2&&scope.names.lookup p.2 == some .free)=true:=by rfl) (hfree:pat.free (yE imp α)=true:=by rfl)
  (hg:∀C s2 H2 fp,N.Nodup→PG (X.comp N scope C s2 H2 fp) tg (sV X.K pat):=by intro _ _ _ _ hnd;first|exact ym hnd rfl (Or.inl rfl)|exact vp rfl rfl (by repeat (first|exact uz|refine wm (ym hnd rfl (Or.inl rfl)) ?_)))
  (hc:X.calm=true:=by rfl)
  (hi:X.N[i]?=some x:=by rfl) (hx:Loc X.env.scope x:=by first|exact Or.inl rfl|exact Or.inr rfl) (hsw:swapsWith (.ListComp elt [⟨tg,iter,ifs,0⟩] scope cpos) (some (.Name x pos')) pos.line X.env=pure true:=by rfl)
  (hf:X.fn x=true∨X.env.scope.names.lookup x=some .local:=by first|exact .inl rfl|exact .inr rfl|assumption) (hs:∀x,foldedSetIterable iter X.env x=pure x:=by intro _;rfl):
  SvS X α (.Assign [.Name x pos'] (.ListComp elt [⟨tg,iter,ifs,0⟩] scope cpos) pos::rest) E:=bt i hN hc ⟨h1,nd,h2,h3,qC h4,h5,h6⟩ hfree (fun C s2 H2 fp=>hg C s2 H2 fp nd) h hi hx hsw hf hs
end
section
variable {Y:Addr→Shared→Hp→List Addr→Cx}{pat:Pat}{ifs:List Expr}{elt:Expr}{α0:Ev}{ι:Type}{g f:ι→PyData}{l:List ι}{acc:List PyData}{Q:List PyData→Prop}
end
section
variable {co:Co}{N:Nat}
end
section
variable {co:Co}{N:Nat}
end
section
variable {X:Cx}{α:Ev}{a b e:Expr}{pos p:Pos}{Q:PyData→Prop}
end
section
variable {X:Cx}{α:Ev}{a b c e:Expr}{pos p:Pos}{Q:PyData→Prop}{T:Bool→Prop}
end
section
variable {X:Cx}{α:Ev}{a b c e:Expr}{pos p p2 pos2:Pos}{Q:PyData→Prop}{T:Bool→Prop}
theorem rB {us:List Value}{ns:List Int}(h:IntsAre us ns):Vals (ns.map V.int) us:=by
 induction h with
 |nil=>exact .nil
 |cons n t _ ih=>exact .cons ⟨t,rfl⟩ ih
end
section
variable {X:Cx}{α:Ev}{a b c d e:Expr}{pos p:Pos}{ta tb tc td:TE}{T:Bool→Prop}
end
theorem dA {X:Cx}{α:Ev}{e tg:Expr}{Q:List PyData→Prop}(h:EvD X α e fun x=>∃ds,x=.tuple ds∧Q ds):EvI X α tg e Q:=fun F σ H R m k=>by
 refine⟨_,cg zi,?_⟩
 refine h F σ H _ m fun x vx H1 q1 t1 k1 r1=>?_
 obtain⟨ds,rfl,q⟩:=q1
 obtain⟨a,xs,rfl,h1,h2⟩:=r1.tup_inv
 refine⟨a,rfl,⟨xs,SqT.of (zf h1).2⟩,k ds _ H1 q t1 k1 fun i H2 p s=>⟨fun d hd=>?_,fun hl=>?_⟩⟩
 ·obtain⟨x,hx,av⟩:=h2.get hd
  have ha:=SqT.of (K:=X.K) (zf (s _ _ h1)).2
  refine⟨⟨xs,x,ha,hx⟩,fun x' H3 y=>?_⟩
  obtain⟨e,y⟩:=y
  subst e
  have:=y xs ha
  rw[hx] at this;cases this
  exact⟨zx.refl _,fun _=>av.same s⟩
 ·exact⟨xs,SqT.of (zf (s _ _ h1)).2,by rw[h2.length];exact hl⟩
section
variable {X:Cx}{α:Ev}{a b c d e:Expr}{pos p:Pos}{T:Bool→Prop}
end
abbrev nK (X:Cx)(P:Program)(w:World)(K:PySem.W.Frag)(mg:Str→Option Value)(base:Heap):Prop:=X.prog=P∧X.w=w∧X.K=K∧X.mg=mg∧X.base=base
section
variable {X:Cx}{α:Ev}{e o:Expr}{es:List Expr}{pos p apos:Pos}{Q:PyData→Prop}{k:Nat}{φ:List A→(A→Prop)→Prop}{x m:Str}{C:Addr}{pl:Sem Bool}{P:Program}{w:World}{K:PySem.W.Frag}{mg:Str→Option Value}{base:Heap}
theorem fN (D:Cal P w K mg base x k φ)(hX:nK X P w K mg base)(hr:zR k X.A)(hg:Gl X x)(h:EvA X α (e::es) fun as=>φ as fun a=>Q a.d)
  (hdb:(x == ("__debug__":Str))=false:=by decide) (he:starEach (e::es) X.env=(false,eval e X.env)::starEach es X.env:=by rfl) (hpl:(backTo pos (starEach es X.env)).any (·.1)=false:=by rfl):EvD X α (.Call (.Name x p) (e::es) [] pos) Q:=by
 obtain⟨rfl,rfl,rfl,rfl,rfl⟩:=hX
 exact zD D hr hg h hdb he hpl
theorem ip (D:ko P w K mg base x k [] φ)(hX:nK X P w K mg base)(hr:zR (k+1) X.A)(hg:Gl X x)(h:EvA X α (e::es) fun as=>φ as fun a=>Q a.d)
  (hdb:(x == ("__debug__":Str))=false:=by decide) (he:starEach (e::es) X.env=(false,eval e X.env)::starEach es X.env:=by rfl) (hpl:(backTo pos (starEach es X.env)).any (·.1)=false:=by rfl):EvN X α (.Call (.Name x p) (e::es) [] pos) Q:=by
 obtain⟨rfl,rfl,rfl,rfl,rfl⟩:=hX
 exact ng D hr hg h hdb he hpl
theorem iI (D:xI P w K mg base C m k φ)(hX:nK X P w K mg base)(hr:zR k X.A)(h:EvD X α o fun x=>∃fs,x=xU C fs∧uu fs m=none∧EvA X α (e::es) fun as=>φ (.dat (xU C fs)::as) fun a=>Q a.d)
  (hst:starEach (e::es) X.env=(false,eval e X.env)::starEach es X.env:=by rfl) (hpl:(backTo pos (starEach es X.env)).any (·.1)=false:=by rfl)
  (ht:eval (.Call (.Attribute o m apos) (e::es) [] pos) X.env=(do
   let ov ←eval o X.env
   standAt apos.atName
   let (f,first) ←holding [ov] (getMethod ov m pl)
   callWith pos f first (backTo pos (starEach (e::es) X.env)) (backToKw pos (keywordEach [] X.env))):=by rfl):EvD X α (.Call (.Attribute o m apos) (e::es) [] pos) Q:=by
 obtain⟨rfl,rfl,rfl,rfl,rfl⟩:=hX
 exact nC D hr h hst hpl ht
theorem mK (D:xI P w K mg base C m k φ)(hX:nK X P w K mg base)(hr:zR k X.A)(h:EvD X α o fun x=>∃fs,x=xU C fs∧uu fs m=none∧φ [.dat (xU C fs)] fun a=>Q a.d)
  (ht:eval (.Call (.Attribute o m apos) [] [] pos) X.env=(do
   let ov ←eval o X.env
   standAt apos.atName
   let (f,first) ←holding [ov] (getMethod ov m pl)
   callWith pos f first (backTo pos (starEach [] X.env)) (backToKw pos (keywordEach [] X.env))):=by rfl):EvD X α (.Call (.Attribute o m apos) [] [] pos) Q:=by
 obtain⟨rfl,rfl,rfl,rfl,rfl⟩:=hX
 exact tR D hr h ht
end
section
variable {X:Cx}{α:Ev}{pos:Pos}{Q:PyData→Prop}
end
section
variable {X:Cx}{α:Ev}{e ix:Expr}{pos:Pos}{rest:List Stmt}{E:yw}
end
section
variable {X:Cx}{tg:Expr}
variable {α:Ev}{a b c:Expr}{p pos:Pos}
end
section
variable {prog:Program}{w:World}{K:Type}[DecidableEq K](knd:KeyKind prog w K)
variable {knd}
end
section
variable {X:Cx}
end
section
variable {X:Cx}{α:Ev}{e a b:Expr}{p pos:Pos}{Q:PyData→Prop}
end
section
variable {M:Model}{A:Around}{E:Value→Shared→Prop}{s:Shared}
end
section
variable {P:Program}{w:World}{H H0:Hp}{h h' h0:Heap}{fs fs' ts:List Addr}{e:Addr}
end
section
variable {X:Cx}{pins:List (Addr×Obj)}{σ:St}{H H':Hp}{s s':Shared}{a:Addr}
end
section
variable {X:Cx}{E':Value→Shared→Prop}
end
section
variable {P:Program}{w:World}{K:PySem.W.Frag}{mg:Str→Option Value}{base:Heap}
end
section
variable {prog:Program}{w:World}{A:Around}{E:Value→Shared→Prop}{h:Heap}{g:Array GenState}{d:Drawn}{t:Nat}{os:OsState}
variable {nm q:Str}{C N:Addr}{bs bm bmB:List Value}{hdct:Bool}{sn:List Str}{sub:List Value}{ab:Bool}{col:Option Bool}{dd:Option Addr}{k0 k1 k2 k3 k5:Option Value}{B Bn newId nid initId inN:String}{bmN:List Value}
end
open Builtin Builtin.ObjectAttr
section
variable {prog:Program}{w:World}{A:Around}{E:Value→Shared→Prop}{h:Heap}{g:Array GenState}{d:Drawn}{t:Nat}{os:OsState}{K:Frag}{C S e t0:Addr}{dx:Option Addr}{init:Option Value}
end
section
variable {prog:Program}{w:World}{A:Around}{E:Value→Shared→Prop}{h:Heap}{g:Array GenState}{d:Drawn}{t:Nat}{os:OsState}{K:Frag}{C S e t0:Addr}{init:Option Value}
end
section
variable {X:Cx}{pins:List (Addr×Obj)}{σ:St}{H:Hp}{s:Shared}{a C:Addr}{d:Option Addr}{pos:Pos}
end
section
variable {prog:Program}{w:World}{A:Around}{E:Value→Shared→Prop}{h:Heap}{g:Array GenState}{d:Drawn}{t:Nat}{os:OsState}
variable {nm q:Str}{C N:Addr}{bs bm bmB:List Value}{hdct:Bool}{sn:List Str}{sub:List Value}{ab:Bool}{col:Option Bool}{dd:Option Addr}{k0 k1 k2 k3 k5:Option Value}{B Bn newId nid initId inN:String}{bmN:List Value}
end
section
variable {X:Cx}{pins:List (Addr×Obj)}{σ:St}{H:Hp}{s:Shared}{k:Nat}{f C S:Addr}{fd:FuncData}{ps:List Str}{sp:Sp}{x:Str}{p pos:Pos}{e:Expr}{es:List Expr}{t:TA}
end
section
variable {X:Cx}{pins:List (Addr×Obj)}{σ:St}{H:Hp}{s:Shared}{a:Addr}{D:Ends}{f:Flow}
end
section
variable {X:Cx}{body suite:List Stmt}{b0:Stmt}{x n:Str}{np hpos pos:Pos}{B:Addr}
end
section
variable {G:Hp}{v:V}{C:Addr}{ds:List (PyData×PyData)}
end
section
variable {F:Fr}{α αh:Ev}{σ:St}{H:Hp}
end
section
variable {F:Fr}{α αh:Ev}{σ:St}{H:Hp}
end
section
variable {P:Program}{w:World}{K:PySem.W.Frag}{mg:Str→Option Value}{base:Heap}
end
section
variable {X:Cx}{α αh:Ev}{r:Fr}{q q0:PyData→Prop}{j k:Nat}{x fl:Str}{C:Addr}{e:Expr}{es:List Expr}{p pos pos':Pos}{rest:List Stmt}{E:yw}
variable {φ:List A→(A→Prop)→(PyData→Prop)→Prop}{Q:PyData→Prop}
end
section
variable {P:Program}{w:World}{K:PySem.W.Frag}{mg:Str→Option Value}{base:Heap}
end
section
variable {X:Cx}{α αh:Ev}{q:PyData→Prop}{i j:Nat}{x n:Str}{B:Addr}{body suite rest:List Stmt}{b0:Stmt}{np hpos pos:Pos}{E:yw}
end
section
variable {X:Cx}{α:Ev}{p p1 pos:Pos}{a:Expr}{Q:PyData→Prop}{C S:Addr}{init:Option Value}
end
section
variable {X:Cx}{α:Ev}{pos:Pos}{o:Expr}{f:Str}{Q:PyData→Prop}{C S:Addr}{init:Option Value}
end
section
variable {P:Program}{w:World}{K:PySem.W.Frag}{mg:Str→Option Value}{base:Heap}
end
section
variable {X:Cx}{α αh:Ev}{r:Fr}{q q0:PyData→Prop}{j k:Nat}{x fl:Str}{C:Addr}{e:Expr}{es:List Expr}{p pos pos':Pos}{rest:List Stmt}{E:yw}
end
section
variable {P:Program}{w:World}{K:PySem.W.Frag}{mg:Str→Option Value}{base:Heap}
end
section
variable {P:Program}{w:World}{K:PySem.W.Frag}{mg:Str→Option Value}{base:Heap}
end
section
variable {X:Cx}{α αh:Ev}{r:Fr}{q q0:PyData→Prop}{j k:Nat}{x fl:Str}{C:Addr}{e:Expr}{es:List Expr}{p pos pos':Pos}{rest:List Stmt}{E:yw}{Q:PyData→Prop}{φ:List A→(PyData→Prop)→Prop}
end
def aI :Option A→Option A
 |some .tape=>none
 |some (.exc _ _)=>none
 |a=>a
def yZ (α:Ev):Ev:=α.map aI
def jZ :A→Prop
 |.tape=>False
 |.exc _ _=>False
 |_=>True
theorem yV {α:Ev}{i:Nat}{a:A}(h:(yZ α)[i]?=some (some a)):α[i]?=some (some a)∧jZ a:=by
 unfold yZ at h
 rw[ze4,zf0] at h
 obtain⟨b,h1,h2⟩:=h
 cases b with
 |none=>cases h2
 |some b=>cases b<;>cases h2<;>exact⟨h1,trivial⟩
theorem xo.to {G G':Hp}{F F':Fr}{H H':Hp}{s:Option V}{a:A}(ka:jZ a)(h:xo G F H s a)(g:zx G G')(hf:∀x o,foot s a x→H x=some o→H' x=some o∧¬F'.O0 x∧F'.H0 x=none):xo G' F' H' s a:=by
 cases a with
 |dat d=>obtain⟨v,h1,h2⟩:=h;exact⟨v,h1,h2.same g⟩
 |ow c=>
  obtain⟨l,o,h1,h2,h3,h4,h5⟩:=h
  obtain⟨z1,z2,z3⟩:=hf l o h1 h2
  exact⟨l,o,h1,z1,h3.same g,z2,z3⟩
 |deep d S=>
  obtain⟨v,h1,h2,h3⟩:=h
  refine⟨v,h1,h2.same (vM g fun x o z e=>(hf x o z e).1),fun x z=>?_⟩
  obtain⟨_,_,xs,e⟩:=h3 x z
  obtain⟨z1,z2,z3⟩:=hf x _ z e
  exact⟨z2,z3,xs,z1⟩
 |tape=>exact ka.elim
 |«at» l=>exact h
 |exc r q=>exact ka.elim
 |pin l vs ds=>exact⟨h.1,g _ _ h.2.1,h.2.2.same g⟩
 |nst l ls dss=>
  obtain⟨h1,h2,h3,h4,h5⟩:=h
  refine⟨h1,(hf l _ zd7 h2).1,h3.same g fun a ha o e=>(hf a o (zd2 _ ha) e).1,h4,fun x hx=>?_⟩
  rcases zc9.mp hx with z|z
  ·exact (hf x _ hx (z▸h2)).2
  ·obtain⟨xs,e⟩:=h3.obj x z
   exact (hf x _ hx e).2
def Tp (F:Fr)(x:Addr):Prop:=∃t b c,F.tp=some (t,b,c)∧(x=t∨x=b∨x=c)
noncomputable instance tpDec (F:Fr)(x:Addr):Decidable (Tp F x):=Classical.propDecidable _
noncomputable def Fr.row (F:Fr)(H:Hp)(l:Addr):Fr:=⟨fun x=>if Tp F x then H x else F.H0 x,fun x=>F.O0 x∨x=l,some (l,l,l)⟩
section
variable {F:Fr}{α α':Ev}{σ σ':St}{H H':Hp}{l:Addr}
theorem Tp.own (t:zF F H){x:Addr}(h:Tp F x):F.O0 x:=by
 obtain⟨a,b,c,e,z⟩:=h
 obtain⟨_,h1,h2,h3⟩:=t a b c e
 rcases z with z|z|z
 ·rw[z];exact h1
 ·rw[z];exact h2
 ·rw[z];exact h3
theorem Tp.lst (t:zF F H){x:Addr}(h:Tp F x):∃xs,H x=some (.lst xs):=by
 obtain⟨a,b,c,e,z⟩:=h
 obtain⟨n,bs,cs,n1,e1,e2,e3,_⟩:=(t a b c e).1.ex
 rcases z with z|z|z
 ·rw[z];exact⟨_,e1⟩
 ·rw[z];exact⟨_,e2⟩
 ·rw[z];exact⟨_,e3⟩
theorem Tp.noTab (t:zF F H){x:Addr}(h:Tp F x):¬uf x:=fun z=>by
 obtain⟨o,e,_,n⟩:=uy t.tab z
 obtain⟨xs,e2⟩:=Tp.lst t h
 rw[e] at e2;cases e2
 exact n _ rfl
theorem pf (t:zF F H){x:Addr}(h:(F.row H l).H0 x=none):F.H0 x=none:=by
 have h':(if Tp F x then H x else F.H0 x)=none:=h
 split at h'
 ·rename_i q
  obtain⟨xs,e⟩:=Tp.lst t q
  rw[e] at h';cases h'
 ·exact h'
theorem M.row {i:Nat}{x y:Int}(m:M F α σ H)(hi:α[i]?=some (some (.own [.int x,.int y])))(h0:0≤y)(h1:y<4294967296):∃l,F.H0 l=none∧¬F.O0 l∧M (F.row H l) ((yZ α).set i (some .tape)) σ H:=by
 obtain⟨l,xs,e1,e2,e3,e4,e5⟩:=m.own i _ hi
 have ex:xs=[.int x,.int y]:=by
  cases e3 with
  |cons a r=>
   cases r with
   |cons b r=>
    cases r
    rw[a.int_inv,b.int_inv]
 subst ex
 have old:∀{j:Nat} {a:A},((yZ α).set i (some .tape))[j]?=some (some a)→(i=j∧a=.tape)∨(i≠j∧α[j]?=some (some a)∧jZ a):=fun {j a} e=>by
  rcases zV e with ⟨z,w⟩|⟨z,w⟩
  ·cases w;exact .inl ⟨z,rfl⟩
  ·obtain⟨w1,w2⟩:=yV w
   exact .inr ⟨z,w1,w2⟩
 have ow:∀{z:Addr},Ow (F.row H l) ((yZ α).set i (some .tape)) σ z→Ow F α σ z:=fun {z} h=>by
  rcases h with (h|h)|⟨j,a,s,w1,w2,w3⟩
  ·exact .inl h
  ·rw[h];exact .inr ⟨i,_,_,hi,e1,rfl⟩
  ·rcases old w1 with ⟨_,q⟩|⟨_,q,_⟩
   ·subst q;exact w3.elim
   ·exact .inr ⟨j,a,s,q,w2,w3⟩
 have gs:zx (Gz F α σ H) (Gz (F.row H l) ((yZ α).set i (some .tape)) σ H):=zr fun a o h e=>⟨fun z=>h (ow z),e⟩
 refine⟨l,e5,e4,?_,fun j a s q1 q2=>?_,fun j j' a b s t z q1 q2 q3 q4 f1 f2=>?_,fun j r q e=>?_,⟨m.tp.tab,fun x h=>.inl (m.tp.ot x h),fun t b c e=>?_⟩,fun z o e n=>?_,fun z hz=>?_⟩
 ·rw[zh5]
  unfold yZ
  rw[zd5]
  exact m.len
 ·rcases old q1 with ⟨z,q⟩|⟨hj,q,ka⟩
  ·subst z q
   rw[e1] at q2;cases q2
   exact⟨l,l,l,rfl,rfl⟩
  ·refine (m.ok j a s q q2).to ka gs fun x o f e=>?_
   obtain⟨g1,g2,_⟩:=m.ft q q2 f
   refine⟨e,fun z=>z.elim g1 fun z=>hj (m.dj i j _ _ _ _ x hi q e1 q2 (by rw[z];exact rfl) f),?_⟩
   show (if Tp F x then H x else F.H0 x)=none
   rw[if_neg fun z=>g1 (Tp.own m.tp z)]
   exact g2
 ·rcases old q1 with ⟨_,q⟩|⟨_,w1,_⟩
  ·subst q;exact f1.elim
  ·rcases old q2 with ⟨_,q⟩|⟨_,w2,_⟩
   ·subst q;exact f2.elim
   ·exact m.dj j j' a b s t z w1 w2 q3 q4 f1 f2
 ·rcases old e with ⟨_,q⟩|⟨_,_,ka⟩
  ·cases q
  ·exact ka.elim
 ·cases e
  exact⟨⟨0,[x,y],[x,y],⟨rfl,rfl⟩,e2,e2,e2,⟨x,y,rfl,h0,h1⟩,rfl⟩,.inr rfl,.inr rfl,.inr rfl⟩
 ·have e':(if Tp F z then H z else F.H0 z)=some o:=e
  split at e'
  ·exact e'
  ·rename_i q
   exact m.keep z o e' ⟨fun t b c w=>⟨fun y=>q ⟨t,b,c,w,.inl y⟩,fun y=>q ⟨t,b,c,w,.inr (.inl y)⟩⟩,n.2⟩
 ·rcases hz with z|z
  ·exact m.oex _ z
  ·exact⟨_,by rw[z];exact e2,xA⟩
theorem zF.unrow (t:zF F H)(hl:¬F.O0 l)(tb:TabAt H')(k:Kz (F.row H l) (F.row H l).H0 H'):zF F H':=⟨tb,t.ot,fun a b c e=>by
 obtain⟨h1,h2,h3,h4⟩:=t a b c e
 refine⟨h1.off fun z hz=>?_,h2,h3,h4⟩
 have tz:Tp F z:=⟨a,b,c,e,hz⟩
 have oz:F.O0 z:=Tp.own t tz
 have nl:z≠l:=fun q=>hl (by rw[←q];exact oz)
 obtain⟨xs,ho⟩:=Tp.lst t tz
 rw[ho]
 refine k z _ ?_ ⟨fun t' b' c' w=>by cases w;exact⟨nl,nl⟩,Tp.noTab t tz⟩
 show (if Tp F z then H z else F.H0 z)=some _
 rw[if_pos tz];exact ho⟩
theorem Kz.unrow (m:M F α σ H)(h0:F.H0 l=none)(k:Kz (F.row H l) (F.row H l).H0 H'):Kz F F.H0 H':=fun x o e n=>by
 have nl:x≠l:=fun q=>by rw[q,h0] at e;cases e
 refine k x o ?_ ⟨fun t' b' c' w=>by cases w;exact⟨nl,nl⟩,n.2⟩
 show (if Tp F x then H x else F.H0 x)=some o
 split
 ·exact m.keep x o e n
 ·exact e
theorem M.unrow (m:M F α σ H)(h0:F.H0 l=none)(hl:¬F.O0 l)(m':M (F.row H l) α' σ' H'):M F (yZ α') σ' H':=by
 have ow:∀{z:Addr},Ow F (yZ α') σ' z→Ow (F.row H l) α' σ' z:=fun {z} h=>by
  rcases h with h|⟨j,a,s,w1,w2,w3⟩
  ·exact .inl (.inl h)
  ·exact .inr ⟨j,a,s,(yV w1).1,w2,w3⟩
 have gs:zx (Gz (F.row H l) α' σ' H') (Gz F (yZ α') σ' H'):=zr fun a o h e=>⟨fun z=>h (ow z),e⟩
 refine⟨?_,fun j a s q1 q2=>?_,fun j j' a b s t z q1 q2=>m'.dj j j' a b s t z (yV q1).1 (yV q2).1,fun j r q e=>?_,m.tp.unrow hl m'.tp.tab m'.keep,Kz.unrow m h0 m'.keep,fun z hz=>m'.oex z (.inl hz)⟩
 ·unfold yZ
  rw[zd5]
  exact m'.len
 ·obtain⟨w1,ka⟩:=yV q1
  refine (m'.ok j a s w1 q2).to ka gs fun x o f e=>?_
  obtain⟨g1,g2,_⟩:=m'.ft w1 q2 f
  exact⟨e,fun z=>g1 (.inl z),pf m.tp g2⟩
 ·exact (yV e).2.elim
theorem xX.unrow {v:V}{a:A}(m:M F α σ H)(h0:F.H0 l=none)(hl:¬F.O0 l)(r:xX (F.row H l) v H' a):xX F v H' a:=by
 obtain⟨t,k,r⟩:=r
 exact⟨m.tp.unrow hl t.tab k,Kz.unrow m h0 k,r.to (fun _ z=>.inl z) fun x z=>pf m.tp z⟩
end
section
variable {X:Cx}{α:Ev}{E:yw}{sts rest body:List Stmt}{tg iter:Expr}{pos:Pos}
theorem cI (i:Nat){x y:Int}(hi:α[i]?=some (some (.own [.int x,.int y])))(h0:0≤y)(h1:y<4294967296)
  (h:SvS X ((yZ α).set i (some .tape)) sts {nx:=fun α'=>E.nx (yZ α'),rt:=E.rt,bk:=fun α'=>E.bk (yZ α'),ct:=fun α'=>E.ct (yZ α')}):SvS X α sts E:=fun F σ H D m r=>by
 obtain⟨l,e5,e4,mr⟩:=m.row hi h0 h1
 refine h _ σ H D mr ⟨fun α' σ' H' m' q=>r.nx _ _ _ (m.unrow e5 e4 m') q,fun a v H' z q=>r.rt a v H' (z.unrow m e5 e4) q,fun α' σ' H' m' q=>r.bk _ _ _ (m.unrow e5 e4 m') q,fun α' σ' H' m' q=>r.ct _ _ _ (m.unrow e5 e4 m') q⟩
theorem cq {pat:Pat}{F:Fr}{σ:St}{H:Hp}{D:Ends}(hp:PassesOwn (model X.prog X.w) X.A X.env X.xe)(hc:X.calm=true)(hg:PG X tg (sV X.K pat))(m:M F α σ H)(r:sf F E D)
  (h:∀R:It→Hp→Prop,(∀ds J H',xy X pat body rest E ds α→zF F H'→Kz F H H'→ItW (fun x=>¬Ow F α σ x) J ds (Gz F α σ H')→R J H')→gh X tg iter σ H R)
  (hs:∀x,foldedSetIterable iter X.env x=pure x):iW X (.For tg iter body [] pos::rest) D σ H:=by
 refine⟨_,zJ (hZ hp hc uD hg zZ hs) zZ,?_⟩
 refine h _ fun ds J H1 q1 t1 k1 itw=>?_
 have m1:=m.kz k1 t1
 have mu:=m1.up
 have ru:sf (F.up (Gz F α σ H1)) E D:=r.up
 refine⟨fun i n σ' H'=>n=ds.length-i∧i≤ds.length∧∃α',M (F.up (Gz F α σ H1)) α' σ' H'∧xy X pat body rest E (ds.drop i) α',⟨ds.length,by simp,ze8 _,α,mu,q1⟩,?_⟩
 rintro i n σ' H' ⟨rfl,hi,α',m',lw⟩
 obtain⟨w1,w2⟩:=itw i H' _ (m1.upold m')
 by_cases hlt:i<ds.length
 ·have hd:ds[i]?=some ds[i]:=zd8 hlt
  rw[zg4 hlt] at lw
  obtain⟨α1,eb,body⟩:=lw
  obtain⟨go,yl⟩:=w1 _ hd
  refine .inr ⟨go,fun σ'' H''=>∃α',M (F.up (Gz F α σ H1)) α' σ'' H''∧xy X pat _ rest E (ds.drop (i+1)) α',fun σ'' H'' ⟨α'',r1,r2⟩=>⟨ds.length-(i+1),by omega,rfl,hlt,α'',r1,r2⟩,fun x H3 y=>?_⟩
  obtain⟨s23,avx⟩:=yl x H3 y
  have m3:=m'.kz (Kz.of_same s23) (m'.tp.same s23)
  refine rN eb m3 (avx fun a o _ e=>m'.fresh e) fun σ1 m4=>?_
  exact body _ σ1 H3 _ m4 ⟨fun α2 σ2 H2 m2 q=>⟨α2,m2,q⟩,ru.rt,fun α2 σ2 H2 m2 q=>q _ σ2 H2 D m2 ru,fun α2 σ2 H2 m2 q=>⟨α2,m2,q⟩⟩
 ·have e:i=ds.length:=by omega
  subst e
  rw[zi1] at lw
  exact .inl ⟨w2 (zd6 _),lw _ σ' H' D m' ru⟩
end
section
variable {P:Program}{w:World}{K:PySem.W.Frag}{mg:Str→Option Value}{base:Heap}
def fr0 (H:Hp):Fr:=⟨H,uf,none⟩
theorem M.zero {H:Hp}{σ:St}{n:Nat}(tb:TabAt H)(hl:n=σ.length):M (fr0 H) (List.replicate n none) σ H:=by
 have no:∀(i:Nat) a,(List.replicate n (none:Option A))[i]?≠some (some a):=fun i a z=>by
  rw[zi3] at z
  split at z<;>cases z
 exact⟨by rw[List.length_replicate];exact hl,fun i a s e=>absurd e (no i _),fun i j a b s t l e=>absurd e (no i _),fun i r q e=>absurd e (no i _),⟨tb,fun _ h=>h,fun t b c e=>by (cases e)⟩,fun _ _ e _=>e,fun x hx=>by
  obtain⟨o,ho,hn,_⟩:=uy tb hx
  exact⟨o,ho,hn⟩⟩
theorem SqL.same {H H':Hp}{a:Addr}{xs:List V}(h:SqL K H a xs)(s:zx H H'):SqL K H' a xs:=by
 rcases h with (h|⟨o,h⟩)|h
 ·exact .inl (.inl (s _ _ h))
 ·exact .inl (.inr ⟨o,s _ _ h⟩)
 ·exact .inr h
theorem za5 {st:Stmt}{f:Addr}{fd:FuncData}{N':List Str}{k:Nat}{x:Str}{pt:Pos}{p0 p1 p2 p3 p4 p5 p6 p7:Pos}{n0 n1:Nat}{kk:Int}{body rest:List Stmt}{j:Nat}(G:Fun K "law" "law" st f fd)(S:zl ("_law_script"::N') ["_law_script"] (zc st))
  (hb:zG st=.For (.Name x pt) (.BinOp (.List [.Constant (.int 0) n0 p0] p1) .Add (.Subscript (.Name "_law_script" p2) (.Slice none (some (.Constant (.int kk) n1 p3)) none p4) p5) p6) body [] p7::rest)
  (hv:Vis (zc st) "_law_script") (hj:(("_law_script":Str)::N')[j]?=some x) (hx:Loc (zc st) x)
  (hbody:∀(cdv:Value) (A':Around) (outer:List Env) (s:Shared) (H:Hp) (E:XK) (zs:List Int),zR k (A'.deeper (envOfC "law" (zc st) s.heap.objs.size f cdv))→zs.length≤64→
   xy (uv CX0 P w K mg base ("_law_script"::N') "law" (zc st) f cdv A' outer s H E).nox (.one j) body rest {nx:=fun _=>False,rt:=fun a=>a=.dat (.bool true)} (zs.map .int) (List.replicate (N'.length+1) none)):
  zB P w K mg base CX0 (k+1) f fd ["_law_script"] (pB K):=by
 refine G.ok S (fun vs H Q E h=>?_) (fun cdv A' outer s H vs Qc E hr h=>?_)
 ·obtain⟨a,ns,rfl,_⟩:=h
  rfl
 ·obtain⟨a,ns,rfl,hS,hn,tb,kq⟩:=h
  rw[hb]
  have mz:M (fr0 H) (List.replicate (N'.length+1) none) (L2.start ("_law_script"::N') [.ref a]) H:=M.zero tb (by unfold L2.start;simp)
  have no3:∀{l3:Addr},¬uf l3→¬Ow (fr0 H) (List.replicate (N'.length+1) none) (L2.start ("_law_script"::N') [.ref a]) l3:=fun {l3} hn=>by
   rintro (z|⟨i,ds,s,e1,e2,_⟩)
   ·exact hn z
   ·rw[zi3] at e1
    split at e1<;>cases e1
  refine cq (E:={nx:=fun _=>False,rt:=fun a=>a=.dat (.bool true)}) (pat:=.one j) zn2 rfl (ym (i:=j) S.nd hj hx) mz ⟨fun _ _ _ _ z=>z.elim,fun z v H' r e=>?_,fun _ _ _ _ z=>z.elim,fun _ _ _ _ z=>z.elim⟩ (fun R hR=>?_) (fun _=>rfl)
  ·cases e
   obtain⟨_,_,r⟩:=r
   rw[AV.bl_inv r]
   exact kq H'
  ·refine⟨_,nR (yN ju (iK (ze zw zv)) (pj nN (xF (i:=0) rfl hv) nk (nZ zw))),?_⟩
   obtain⟨ms,em,lm⟩:=iZ ns none (some kk)
   refine⟨(by show 1≤sizeLine;decide),fun l1 hl1=>⟨_,rfl,kk,rfl,a,ns.map V.int,rfl,SqL.same hS (zM hl1),fun l2 hl2=>?_⟩⟩
   rw[em] at *
   have n12:l1≠l2:=fun z=>by rw[←z,zh] at hl2;cases hl2
   have hl2':H l2=none:=by rw[zj n12.symm] at hl2;exact hl2
   refine⟨l1,l2,[.int 0],ms.map V.int,rfl,rfl,by rw[zj n12];exact zh,zh,by rw[zd5];exact zh2 (yB (by simp;omega)),fun l3 hl3=>?_⟩
   have e3:([V.int 0]++ms.map V.int)=((0::ms).map V.int):=rfl
   rw[e3]
   have s3:zx H (upd (upd (upd H l1 (.lst [.int 0])) l2 (.lst (ms.map V.int))) l3 (.lst ((0::ms).map V.int))):=((zM hl1).trans (zM hl2)).trans (zM hl3)
   have hl3':H l3=none:=by
    have n13:l3≠l2:=fun z=>by rw[z,zh] at hl3;cases hl3
    have n11:l3≠l1:=fun z=>by rw[z,zj n12,zh] at hl3;cases hl3
    rw[zj n13,zj n11] at hl3;exact hl3
   refine⟨l3,rfl,⟨_,SqL.of zh⟩,hR ((0::ms).map .int) _ _ (hbody cdv A' outer s H E (0::ms) hr (by simp;omega)) (mz.tp.same s3) (Kz.of_same s3) fun i H2 p' sm=>⟨fun d hd=>?_,fun hl=>?_⟩⟩
   ·have ha:=SqL.of (K:=K) (zf (sm l3 _ (zN (no3 (vE tb hl3')) zh))).2
    obtain⟨v,hx,av⟩:=(qQ (G:=H) (0::ms)).get hd
    refine⟨⟨_,v,ha,hx⟩,fun x' H3 y=>?_⟩
    obtain⟨e,y⟩:=y
    subst e
    have:=y _ ha
    rw[hx] at this;cases this
    rw[ze4,zf0] at hd hx
    obtain⟨z1,q1,rfl⟩:=hd
    obtain⟨z2,q2,rfl⟩:=hx
    rw[q1] at q2;cases q2
    exact⟨zx.refl _,fun _=>.int _⟩
   ·exact⟨_,SqL.of (zf (sm l3 _ (zN (no3 (vE tb hl3')) zh))).2,by rw[zd5] at hl ⊢;exact hl⟩
end
section
variable {X:Cx}{α:Ev}{p pos ap:Pos}{a b c:Expr}{Q:PyData→Prop}
theorem uO (h0:Heap){x:Str}:∀{kvs:List (Str×Value)} {D:List (PyData×PyData)},PyProof.V.FlatPairs PyData.str kvs D→(∀q∈D,∃v,scV q.2=some v)→∃v,scV ((ug D x).getD .none)=some v∧RelV v ((valueAt kvs x).getD .none)
 |_,_,.nil,_=>⟨.non,rfl,rfl⟩
 |_,_,.cons (k:=k) (v:=u) (d:=d') (kvs:=kvs) (D:=D) f r,hs=>by
  unfold ug
  by_cases q:k=x
  ·rw[if_pos q]
   obtain⟨v,hv⟩:=hs (.str k,d') zd7
   refine⟨v,hv,?_⟩
   have e:valueAt ((k,u)::kvs) x=some u:=by simp[valueAt,q]
   rw[e]
   exact gq h0 hv f
  ·rw[if_neg q]
   obtain⟨v,h1,h2⟩:=uO h0 (x:=x) r fun z hz=>hs z (zd2 _ hz)
   refine⟨v,h1,?_⟩
   have e:valueAt ((k,u)::kvs) x=valueAt kvs x:=by simp[valueAt,zg5,q]
   rw[e]
   exact h2
theorem ir {keys:List (Option Expr)}{values:List Expr}{D:List (PyData×PyData)}{ty:TE}(hD:litPairs keys values=some D)(h1:strKeyed D=true)(h2:(strKeysOf D).Nodup)(h3:keys.all (·.isSome)=true)(h4:keys.length=values.length)(h5:keys≠[])(h6:keys.length≤15)(hsc:∀q∈D,∃v,scV q.2=some v)(hi:PE X a ty)
  (hbase:attributeBase (.Dict keys values p) "get" X.env (eval (.Dict keys values p) X.env)=eval (.Dict keys values p) X.env)
  (hfew:((backTo pos (starEach [a] X.env)).all (fun x=>!x.1)&&(backToKw pos (keywordEach [] X.env)).all (fun x=>x.1.isSome)&&decide (([a]:List Expr).length+([]:List Keyword).length+(if ([]:List Keyword).isEmpty then 0 else 1)<30))=true)
  (hline:(ap.endLine == pos.line)=true) (htr:backTo pos (starEach [a] X.env)=[(false,eval a X.env)]):
  PE X (.Call (.Attribute (.Dict keys values p) "get" ap) [a] [] pos) (fun σ H Q=>ty σ H fun y H1=>∃x v,y=.str x∧scV ((ug D x).getD .none)=some v∧Q v H1):=by
 intro pins s σ H Q I h
 refine wpAny_Call_method hbase hfew hline PySem.F.plainAttrs_dict PySem.F.slot_dict_get PySem.F.type_dict_get (Dict_lits_str hD h1 h2 h3 h4 h5 h6 fun ad o h₁ tk hsz ho tab kp=>?_)
 obtain⟨kvs,isd,fl⟩:=tab
 have I1:Inv X pins σ H {s with heap:=h₁,toks:=tk}:=I.kept kp
 have hcell:∀v,o.data≠.cell v:=fun v z=>by
  obtain⟨es,ep,_,e,_⟩:=isd
  rw[e] at z;cases z
 have I1':Inv X ((ad,o)::pins) σ H {s with heap:=h₁,toks:=tk}:=I1.pins_of fun q hq=>by
  rcases zc9.mp hq with rfl|hq
  ·exact⟨ho,I.hok.fresh hsz,fun z=>absurd I.lt (by rw[←z];exact Nat.not_lt.mpr hsz),I.nofs hsz,hcell⟩
  ·exact I1.pin q (by first|exact hq|exact zf2 _ hq|exact zg1 _ hq)
 obtain⟨es,ep,a1,a2,a3,a4,a5⟩:=isd
 have dd1:h₁.DictOf (PySem.strKind X.prog X.w) ad kvs:=⟨o,es,ep,ho,a1,a2,a3,a4,a5⟩
 refine⟨dd1.typeIs,fun z hz=>?_,?_⟩
 ·cases hz
  exact⟨o,ho,a1.2.1⟩
 rw[htr]
 refine Calls.callWith_builtin rfl (Calls.evalArgs_plain (Calls.spliced_cons (thn (hi _ _ σ H _ I1' h) fun iv s2 ⟨y,H2,I2,ry,x,v,ey,hv,q2⟩=>Calls.spliced_nil ?_)))
 subst ey
 obtain⟨t,rfl⟩:=ry
 have hp:=I2.pin (ad,o) (by first|exact zd7|exact zf2 _ zd7|exact zg1 _ zd7)
 have dd:s2.heap.DictOf (PySem.strKind X.prog X.w) ad kvs:=⟨o,es,ep,hp.1,a1,a2,a3,a4,a5⟩
 have I3:Inv X pins σ H2 s2:=I2.pins_of fun q hq=>I2.pin q (by rcases zf6.mp (zf2 X.pn hq) with z|z;exact zg1 _ z;exact zf2 _ (zd2 _ z))
 have hsys:(ad == sysModules)=false:=by
  have hb:sysModules<s.heap.objs.size:=zn5 (by decide) (I.mod.glob.keeps I.bk).lt
  exact zi5.mpr fun z=>absurd hb (by rw[←z];exact Nat.not_lt.mpr hsz)
 refine call_meetsIn PySem.F.slot_dict_get dd.typeIs PySem.F.entry_dict_get (PySem.F.args_dict_get_2 _ _) (meets_dict_get (PySem.strKind X.prog X.w) ad (show (PySem.strKind X.prog X.w).is x (.str x t)=true by simp[PySem.strKind,Value.isStrOf]) hsys) ⟨_,dd.mapOf,?_⟩
 obtain⟨v',g1,g2⟩:=uO s.heap (x:=x) fl hsc
 rw[hv] at g1;cases g1
 exact⟨v,H2,I3.tok _,g2,q2⟩
theorem ia {keys:List (Option Expr)}{values:List Expr}{D:List (PyData×PyData)}(hD:litPairs keys values=some D)(h1:strKeyed D=true)(h2:(strKeysOf D).Nodup)(hsc:∀q∈D,∃v,scV q.2=some v)(h:EvD X α a fun y=>∃x v,y=.str x∧scV ((ug D x).getD .none)=some v∧Q ((ug D x).getD .none))
  (h3:keys.all (·.isSome)=true:=by rfl) (h4:keys.length=values.length:=by rfl) (h5:keys≠[]:=by exact List.cons_ne_nil _ _) (h6:keys.length≤15:=by decide)
  (hbase:attributeBase (.Dict keys values p) "get" X.env (eval (.Dict keys values p) X.env)=eval (.Dict keys values p) X.env:=by rfl)
  (hfew:((backTo pos (starEach [a] X.env)).all (fun x=>!x.1)&&(backToKw pos (keywordEach [] X.env)).all (fun x=>x.1.isSome)&&decide (([a]:List Expr).length+([]:List Keyword).length+(if ([]:List Keyword).isEmpty then 0 else 1)<30))=true:=by rfl)
  (hline:(ap.endLine == pos.line)=true:=by rfl) (htr:backTo pos (starEach [a] X.env)=[(false,eval a X.env)]:=by rfl):EvD X α (.Call (.Attribute (.Dict keys values p) "get" ap) [a] [] pos) Q:=fun F σ H R m k=>by
 refine⟨_,ir hD h1 h2 h3 h4 h5 h6 hsc zi hbase hfew hline htr,?_⟩
 refine h F σ H _ m fun y vy H1 q1 t1 k1 r1=>?_
 obtain⟨x,v,rfl,g2,q⟩:=q1
 cases r1.str_inv
 exact⟨x,v,rfl,g2,k _ _ H1 q t1 k1 (jw g2)⟩
end
section
variable {X:Cx}{α:Ev}{E:yw}{rest:List Stmt}{tg iter:Expr}{pos:Pos}
end
end L2
namespace SetW
open PySem PyProof.Rows
abbrev Up (xs:Array Nat):Prop:=xs.toList.Pairwise (·<·)
def Ris (t:SetTable):Prop:=t.plain=true→Up t.place
theorem Up.lt {xs:Array Nat}(h:Up xs){i j:Nat}(hij:i<j)(hj:j<xs.size):xs[i]'(zn5 hij hj)<xs[j]:=by
 have:=List.pairwise_iff_getElem.mp h i j (by simpa using zn5 hij hj) (by simpa using hj) hij
 simpa using this
theorem uL {xs:Array Nat}(h:Up xs)(j:Nat):∀f lo up,up-lo≤f→lo≤up→up≤xs.size→(∀i (hi:i<xs.size),i<lo→xs[i]<j)→(∀i (hi:i<xs.size),up≤i→j≤xs[i])→
  SetTable.below.go xs j f lo up≤xs.size∧(∀i (hi:i<xs.size),i<SetTable.below.go xs j f lo up→xs[i]<j)∧(∀i (hi:i<xs.size),SetTable.below.go xs j f lo up≤i→j≤xs[i])
 |0,lo,up,hf,hle,hs,h1,h2=>by
  have e:lo=up:=by omega
  subst e
  exact⟨hs,h1,h2⟩
 |f+1,lo,up,hf,hle,hs,h1,h2=>by
  unfold SetTable.below.go
  by_cases hlt:lo<up
  ·rw[if_pos hlt]
   have hm:(lo+up) / 2<xs.size:=by omega
   have eg:xs.getD ((lo+up) / 2) j=xs[(lo+up) / 2]:=by simp[Array.getD,hm]
   dsimp only
   rw[eg]
   by_cases hc:xs[(lo+up) / 2]<j
   ·rw[if_pos hc]
    refine uL h j f ((lo+up) / 2+1) up (by omega) (by omega) hs (fun i hi' hl=>?_) h2
    rcases zg9 i ((lo+up) / 2) with z|z
    ·exact zn5 (h.lt z hm) hc
    ·have e:i=(lo+up) / 2:=by omega
     subst e
     exact hc
   ·rw[if_neg hc]
    refine uL h j f lo ((lo+up) / 2) (by omega) (by omega) (by omega) h1 (fun i hi' hl=>?_)
    rcases zg9 ((lo+up) / 2) i with z|z
    ·have:=h.lt z hi'
     omega
    ·have e:i=(lo+up) / 2:=by omega
     subst e
     omega
  ·rw[if_neg hlt]
   have e:lo=up:=by omega
   subst e
   exact⟨hs,h1,h2⟩
theorem vi {xs:Array Nat}(h:Up xs)(j:Nat):SetTable.below xs j≤xs.size∧(∀i (hi:i<xs.size),i<SetTable.below xs j→xs[i]<j)∧(∀i (hi:i<xs.size),SetTable.below xs j≤i→j≤xs[i]):=
 uL h j xs.size 0 xs.size (by omega) (ze8 _) (zd6 _) (fun i _ z=>absurd z (zp2 _)) (fun i hi z=>absurd hi (by omega))
theorem kr {xs:Array Nat}(h:Up xs){i:Nat}(hi:i<xs.size):SetTable.below xs xs[i]=i:=by
 obtain⟨a,b,c⟩:=vi h xs[i]
 rcases zg9 i (SetTable.below xs xs[i]) with z|z
 ·have:=b i hi z
  omega
 ·rcases zg9 (SetTable.below xs xs[i]) i with y|y
  ·have h1:=c _ (by omega) (zd6 _)
   have h2:=h.lt y hi
   omega
  ·omega
theorem pN {xs:Array Nat}(h:Up xs){i:Nat}(hi:i<xs.size):SetTable.below xs (xs[i]+1)=i+1:=by
 obtain⟨a,b,c⟩:=vi h (xs[i]+1)
 rcases zg9 i (SetTable.below xs (xs[i]+1)) with z|z
 ·rcases zg9 (i+1) (SetTable.below xs (xs[i]+1)) with y|y
  ·have h1:=b (i+1) (by omega) y
   have h2:=h.lt (zj5 i) (show i+1<xs.size by omega)
   have e:xs[i.succ]'(by omega)=xs[i+1]'(by omega):=rfl
   omega
  ·omega
 ·have:=c i hi z
  omega
theorem pT {xs:Array Nat}(h:Up xs):SetTable.below xs 0=0:=by
 obtain⟨a,b,c⟩:=vi h 0
 rcases zg9 0 (SetTable.below xs 0) with z|z
 ·have:=b 0 (by omega) z
  omega
 ·omega
def Off (t:SetTable)(j:Nat):Prop:=t.place[SetTable.below t.place j]?≠some j
theorem Off.notin {t:SetTable}{j:Nat}(h:Off t j)(u:Up t.place):j∉t.place.toList:=fun z=>by
 obtain⟨i,hi,e⟩:=zm8 z
 have hi':i<t.place.size:=by simpa using hi
 have e':t.place[i]=j:=by simpa using e
 have:=kr u hi'
 rw[e'] at this
 exact h (by rw[this,zi0 hi',e'])
theorem qF {t:SetTable}{j:Nat}(h:∀i,t.slot j≠.live i):Off t j:=fun z=>by
 refine h (SetTable.below t.place j) ?_
 unfold SetTable.slot
 simp only[z,beq_self_eq_true,zn7]
theorem vS {t:SetTable}{ha:Nat→Int}{hh:Int}:∀f (p:SetTable.Probe) {j:Nat} {d:Option Nat},(∀x,p.dummy=some x→Off t x)→SetTable.probe.go t ha hh f p=some (.empty j d)→Off t j∧∀x,d=some x→Off t x
 |0,p,j,d,_,e=>by cases e
 |f+1,p,j,d,h,e=>by
  unfold SetTable.probe.go at e
  split at e
  ·rename_i hs
   cases e
   exact⟨qF (fun i z=>by rw[hs] at z;cases z),h⟩
  ·rename_i hs
   refine vS f _ (fun x hx=>?_) e
   have:∀q:SetTable.Probe,(t.advance q).dummy=q.dummy:=fun q=>by unfold SetTable.advance;split<;>rfl
   rw[this] at hx
   cases hx
   exact qF fun i z=>by rw[hs] at z;cases z
  ·rename_i i hs
   have:∀q:SetTable.Probe,(t.advance q).dummy=q.dummy:=fun q=>by unfold SetTable.advance;split<;>rfl
   split at e
   ·cases e
   ·exact vS f _ (fun x hx=>by rw[this] at hx;exact h x hx) e
theorem jF {t:SetTable}{h:Int}{j:Nat}{b:Bool}(e:t.freeSlot h=some (j,b)):Off t j:=by
 unfold SetTable.freeSlot at e
 split at e
 ·rename_i j' d hp
  cases e
  obtain⟨h1,h2⟩:=vS _ _ (fun x hx=>by unfold SetTable.probeStart at hx;cases hx) hp
  cases d with
  |none=>exact h1
  |some x=>exact h2 x rfl
 ·cases e
theorem lK {xs:Array Nat}{j:Nat}(h:Up xs)(hj:j∉xs.toList):Up (SetTable.insertAt xs (SetTable.below xs j) j):=by
 obtain⟨a,b,c⟩:=vi h j
 have e1:∀y∈xs.toList.take (SetTable.below xs j),y<j:=fun y hy=>by
  obtain⟨i,hi,e⟩:=zm8 hy
  rw[zj6] at hi
  rw[List.getElem_take] at e
  have:=b i (by simp at hi;omega) (by omega)
  simp at e
  omega
 have e2:∀y∈xs.toList.drop (SetTable.below xs j),j<y:=fun y hy=>by
  have hne:y≠j:=fun z=>hj (z▸zm4 hy)
  obtain⟨i,hi,e⟩:=zm8 hy
  rw[zi7] at hi
  rw[List.getElem_drop] at e
  have hi':i<xs.size-SetTable.below xs j:=by simpa using hi
  have:=c (SetTable.below xs j+i) (by omega) (by omega)
  simp at e
  omega
 unfold Up
 rw[SetTable.toList_insertAt,List.pairwise_append]
 refine⟨h.sublist (List.take_sublist _ _),List.pairwise_cons.mpr ⟨e2,h.sublist (List.drop_sublist _ _)⟩,fun y hy z hz=>?_⟩
 rcases zc9.mp hz with rfl|hz
 ·exact e1 y hy
 ·exact zn5 (e1 y hy) (e2 z hz)
theorem eA {t:SetTable}(es:Array (Int×Value))(h:Int)(x:Value)(r:Ris t):Ris (layNew t es h x).2.1∧(layNew t es h x).2.1.led=t.led:=by
 unfold layNew
 split
 ·rename_i j b hf
  have ho:=jF hf
  dsimp only
  unfold SetTable.orStandIn
  split
  ·refine⟨fun hp=>?_,rfl⟩
   exact lK (r hp) (ho.notin (r hp))
  ·exact⟨fun hp=>Bool.noConfusion (show false=true from hp),rfl⟩
 ·exact⟨fun hp=>Bool.noConfusion (show false=true from hp),rfl⟩
theorem ki {t:SetTable}(es:Array (Int×Value))(n:Nat):Ris (relayAll t es n).2.1∧(relayAll t es n).2.1.led=t.led:=by
 unfold relayAll
 split
 ·rename_i t' order hr
  unfold SetTable.relaid SetTable.laid at hr
  cases ho:SetTable.layClean (SetTable.sizeAbove n-1) (es.map (·.1)) with
  |none=>rw[ho] at hr;cases hr
  |some owner=>
   rw[ho] at hr
   cases hr
   dsimp only
   split
   ·refine⟨fun _=>?_,rfl⟩
    show (List.toArray _).toList.Pairwise (·<·)
    rw[List.toList_toArray]
    have key:∀(l:List Nat),l.Pairwise (·<·)→((l.filterMap fun j=>(owner.getD j none).map fun y=>(j,y)).map (·.1)).Pairwise (·<·):=by
     intro l hl
     rw[List.map_filterMap]
     refine List.Pairwise.sublist ?_ hl
     have:∀l:List Nat,(l.filterMap fun j=>Option.map (fun x:Nat×Nat=>x.1) ((owner.getD j none).map fun y=>(j,y))).Sublist l:=by
      intro l
      induction l with
      |nil=>exact .slnil
      |cons a l ih=>
       rw[zm6]
       cases owner.getD a none with
       |none=>exact ih.cons _
       |some y=>exact ih.cons_cons _
     exact this l
    exact key _ List.pairwise_lt_range
   ·exact⟨fun hp=>Bool.noConfusion (show false=true from hp),rfl⟩
 ·exact⟨fun hp=>Bool.noConfusion (show false=true from hp),rfl⟩
section
variable {prog:Program}{w:World}{A:Around}{E:Value→Shared→Prop}{s:Shared}
structure WkO (prog:Program)(w:World)(o:Obj)(S:Int→Bool)(n:Nat)(b:Bool)(es:Array (Int×Value))(ep:Nat)(t:SetTable):Prop where
 ex:o.ExactSet
 dt:o.data=.set es ep t
 el:ElemsOf (intKind prog w) es.toList
 mem:∀k,S k=true↔∃e∈es.toList,(intKind prog w).is k e.2=true
 sb:es.size<scanBound
 fit:t.fits es.size=true
 sz:es.size=n
 led:t.led=b
 ris:Ris t
def Wk (prog:Program)(w:World)(h:Heap)(a:Addr)(S:Int→Bool)(n:Nat)(b:Bool):Prop:=∃o es ep t,h.get? a=some o∧WkO prog w o S n b es ep t
theorem Wk.keep {h h':Heap}{a:Addr}{S:Int→Bool}{n:Nat}{b:Bool}(k:∀o,h.get? a=some o→h'.get? a=some o)(x:Wk prog w h a S n b):Wk prog w h' a S n b:=by
 obtain⟨o,es,ep,t,ho,r⟩:=x
 exact⟨o,es,ep,t,k o ho,r⟩
theorem Wk.congr {h:Heap}{a:Addr}{S S':Int→Bool}{n n':Nat}{b:Bool}(x:Wk prog w h a S n b)(e:∀k,S k=S' k)(en:n=n'):Wk prog w h a S' n' b:=by
 have:S=S':=funext e
 subst this en
 exact x
theorem WkO.put {h:Heap}{a:Addr}{o:Obj}{S S':Int→Bool}{n:Nat}{b b':Bool}{es es':Array (Int×Value)}{ep:Nat}{t t':SetTable}(ho:h.get? a=some o)(x:WkO prog w o S n b es ep t)
  (el:ElemsOf (intKind prog w) es'.toList) (mem:∀k,S' k=true↔∃e∈es'.toList,(intKind prog w).is k e.2=true) (sb:es'.size<scanBound) (fit:t'.fits es'.size=true) (led:t'.led=b') (ris:Ris t'):
  ∃o',(h.update a (Obj.putSet es' t')).get? a=some o'∧WkO prog w o' S' es'.size b' es' (ep+1) t':=by
 refine⟨{o with data:=.set es' (ep+1) t'},?_,x.ex,rfl,el,mem,sb,fit,rfl,led,ris⟩
 have:=zm1 (Obj.putSet es' t') ho (by rw[putSet_of es' t' x.dt];rfl)
 rwa [putSet_of es' t' x.dt] at this
theorem nE {g:Bool→Sem Unit}(hg:∀(d:Bool) (s₁:Shared) (Q':Unit→Shared→Prop),Q' () s₁→wpAny (model prog w) A (g d) Q' E s₁){a:Addr}{o:Obj}{S S':Int→Bool}{n:Nat}{b:Bool}{es es1:Array (Int×Value)}{ep:Nat}{t t2:SetTable}
  (ho:s.heap.get? a=some o) (x:WkO prog w o S n b es ep t) (el:ElemsOf (intKind prog w) es1.toList) (mem:∀k,S' k=true↔∃e∈es1.toList,(intKind prog w).is k e.2=true) (sb:es1.size<scanBound) (fit:t2.fits es1.size=true) (led:t2.led=b) (ris:Ris t2)
  {wd:Bool} {R:Option Bool→Shared→Prop} (h:∀h',Heap.SameBut a s.heap h'→Wk prog w h' a S' es1.size b→R (some true) {s with heap:=h'}):
  wpAny (model prog w) A (storeSet a es1 t2 >>= fun _=>if (!wd&&t2.tooFull)=true then (g (relayAll t2 es1 (SetTable.grown es1.size)).2.2 >>= fun _=>storeSet a (relayAll t2 es1 (SetTable.grown es1.size)).1 (relayAll t2 es1 (SetTable.grown es1.size)).2.1 >>= fun _=>pure (some true)) else pure (some true)) R E s:=by
 refine zc8 (wpAny_storeSet_of ho x.dt ?_ (zo2 sb))
 obtain⟨o1,ho1,x1⟩:=x.put ho el mem sb fit led ris
 have same:=Heap.SameBut.update s.heap a (Obj.putSet es1 t2)
 split
 ·obtain⟨rr,rl⟩:=ki (t:=t2) es1 (SetTable.grown es1.size)
  have pm:=relayAll_perm t2 es1 (SetTable.grown es1.size)
  have ft:=relayAll_fits t2 es1 (SetTable.grown es1.size)
  generalize relayAll t2 es1 (SetTable.grown es1.size)=Z at rr rl pm ft
  obtain⟨es2,t3,gv⟩:=Z
  dsimp only at rr rl pm ft ⊢
  have sz:es2.size=es1.size:=by rw[←zj4,pm.length_eq,zj4]
  refine zc8 (hg _ _ _ (zc8 (wpAny_storeSet_of ho1 x1.dt ?_ (zo2 (by omega)))))
  obtain⟨o2,ho2,x2⟩:=x1.put (es':=es2) (t':=t3) ho1 (el.perm pm) (fun k=>(mem k).trans ⟨fun⟨e,he,q⟩=>⟨e,pm.mem_iff.mpr he,q⟩,fun⟨e,he,q⟩=>⟨e,pm.mem_iff.mp he,q⟩⟩) (by omega) ft (rl.trans led) rr
  rw[sz] at x2
  exact zd0 (h _ (same.trans (Heap.SameBut.update _ a _)) ⟨o2,es2,_,t3,ho2,x2⟩)
 ·exact zd0 (h _ same ⟨o1,es1,_,t2,ho1,x1⟩)
theorem bp {a:Addr}{S:Int→Bool}{n:Nat}{b:Bool}{k:Int}{tk:Tok}{Q:Bool→Shared→Prop}(x:Wk prog w s.heap a S n b)(hroom:n+1<scanBound)
  (h:∀h',Heap.SameBut a s.heap h'→Wk prog w h' a (fun j=>S j||decide (j=k)) (if S k then n else n+1) b→∀r,Q r {s with heap:=h'}):
  wpAny (model prog w) A (setAddHashed a (.int k tk) ((intKind prog w).hash k)) Q E s:=by
 obtain⟨o,es,ep,t,ho,x⟩:=x
 have hkey:(intKind prog w).is k (.int k tk)=true:=intKind_is _ _ _ _
 have hsc:(Value.int k tk).scannable=true:=rfl
 unfold setAddHashed setAddHashedIn
 refine zk5 (zc8 (zj2 ho x.dt x.fit ?_))
 dsimp only
 rw[byScan_of hsc x.sb x.el,if_pos rfl]
 unfold setAddByScan
 refine zc8 (zc8 (wpAny_rule (zc8 (wpAny_setScan_of hkey ho x.dt x.fit x.el ?_))))
 cases hr:List.findIdx? (fun e=>(intKind prog w).is k e.2) es.toList with
 |some j=>
  obtain⟨hj,hpj,_⟩:=List.findIdx?_eq_some_iff_getElem.mp hr
  have hSk:S k=true:=(x.mem k).mpr ⟨_,zj7 hj,hpj⟩
  refine zd0 (zd0 ?_)
  have q:=h s.heap (Heap.SameBut.refl a s.heap) ⟨o,es,ep,t,ho,x.ex,x.dt,x.el,fun k'=>by
   rw[zj0,zg3,←x.mem k']
   exact⟨fun z=>z.elim id fun e=>e▸hSk,.inl⟩,x.sb,x.fit,by rw[hSk];exact x.sz,x.led,x.ris⟩
  cases s
  exact q _
 |none=>
  have hSk:S k=false:=by
   cases hk:S k with
   |false=>rfl
   |true=>
    obtain⟨e,he,hp⟩:=(x.mem k).mp hk
    have:=List.findIdx?_eq_none_iff.mp hr e he
    rw[hp] at this;cases this
  obtain⟨nr,nl⟩:=eA es ((intKind prog w).hash k) (.int k tk) x.ris
  have pm:=layNew_perm t es ((intKind prog w).hash k) (.int k tk)
  have ft:=layNew_fits t es ((intKind prog w).hash k) (.int k tk)
  dsimp only
  generalize layNew t es ((intKind prog w).hash k) (.int k tk)=L at nr nl pm ft
  obtain⟨es1,t1,wd,gv⟩:=L
  dsimp only at nr nl pm ft ⊢
  rw[Array.toList_push] at pm
  have sz1:es1.size=n+1:=by rw[←zj4,pm.length_eq,zf1,zj4,x.sz];rfl
  have el1:ElemsOf (intKind prog w) es1.toList:=(x.el.push hkey hsc).perm pm
  have mem1:∀j,(S j||decide (j=k))=true↔∃e∈es1.toList,(intKind prog w).is j e.2=true:=mem_push_iff hkey x.mem pm
  have fin:∀h',Heap.SameBut a s.heap h'→Wk prog w h' a (fun j=>S j||decide (j=k)) es1.size b→∀r,Q r {s with heap:=h'}:=fun h' sb y=>by
   have:=h h' sb
   rw[hSk] at this
   exact this (y.congr (fun _=>rfl) sz1)
  refine zc8 ?_
  have gw:∀(d:Bool) (s₁:Shared) (Q':Unit→Shared→Prop),Q' () s₁→wpAny (model prog w) A (match d with|true=>rule "set.scan.the-table-gave-way"|false=>pure ()) Q' E s₁:=fun d s₁ Q' hq=>by
   cases d
   ·exact zd0 hq
   ·exact wpAny_rule hq
  refine gw _ _ _ ?_
  have sb1:es1.size<scanBound:=by omega
  split
  ·rw[show hashByValue 8 (Value.int k tk)=pure true from rfl]
   refine zc8 (zd0 ?_)
   simp only[zn7]
   refine nE ?_ ho x el1 mem1 sb1 ft (nl.trans x.led) nr fun h' sb y=>zd0 (fin h' sb y _)
   intro d s₁ Q' hq
   cases d<;>first|exact zd0 hq|exact wpAny_rule hq
  ·refine zc8 (zd0 ?_)
   simp only[zn7]
   refine nE ?_ ho x el1 mem1 sb1 ft (nl.trans x.led) nr fun h' sb y=>zd0 (fin h' sb y _)
   intro d s₁ Q' hq
   cases d<;>first|exact zd0 hq|exact wpAny_rule hq
end
def yO (w:World):Bool:=!w.params.followText "set-order"
abbrev ur (w:World):Obj:={cls:=.type "set",dict:=none,data:=.set #[] 0 (.fresh 0 0 (yO w))}
theorem gy {prog:Program}{w:World}:WkO prog w (ur w) (fun _=>false) 0 (yO w) #[] 0 (.fresh 0 0 (yO w)):=
 ⟨⟨rfl,rfl,rfl⟩,rfl,fun e he=>by simp at he,fun k=>by simp,by decide,by rfl,rfl,rfl,fun _=>.nil⟩
section
variable {prog:Program}{w:World}{A:Around}{E:Value→Shared→Prop}{s:Shared}
theorem dY (v:Value){Q₁:Value→Shared→Prop}(h:Q₁ (.ref s.heap.objs.size) {s with heap:=s.heap.push (ur w)}):codeAny (model prog w) A (.call (.builtin "set.__new__") ⟨[.type "set",v],[]⟩) (wants Q₁ E) s:=by
 refine codeAny_of_tree ?_
 show wpAny _ A.in1 (checkBuiltinCall "set.__new__" ⟨[.type "set",v],[]⟩ >>= fun _=>again (.builtin "set.__new__" ⟨[.type "set",v],[]⟩)) _ _ s
 refine zc8 (zl6 (F.newCall_set_1 v) (zd0 ⟨plainId_quiet F.plain_set_new _,zl3 F.entry_set_new ?_⟩))
 rw[zk6 F.plain_set_new _]
 unfold Builtin.«set.__new__» Builtin.Frozenset.newClass
 have hsub:=sub_set_self
 obtain⟨hp,g,d,tk,os⟩:=s
 dsimp only
 wp_walk
 refine zj8 (zd0 ?_)
 simp only[newObj]
 exact zc8 (wpAny_alloc (zd0 (zd0 h)))
end
section
variable {prog:Program}{w:World}{A:Around}{R:Result→Shared→Prop}{I:Addr}{fp wr:List Addr}{G:Array GenState→Array GenState→Prop}{n:Nat}{P:Nat→Value→Prop}{St:Nat→Shared→Prop}{b:Bool}
theorem gg (W:WalksS prog w A.in1 I fp wr G n P St)(S:Addr)(hSf:S∉fp)(val:Nat→Int)(hval:∀i v,P i v→∃t,v=.int (val i) t)(hb:n+1<scanBound):
  ∀(k i:Nat) (s:Shared),n-i=k→i≤n→St i s→Wk prog w s.heap S (fun j=>(firstMet val i).any (· == j)) (firstMet val i).length b→
   (∀s',Moved (S::wr) G s s'→Wk prog w s'.heap S (fun j=>(firstMet val n).any (· == j)) (firstMet val n).length b→R (.ok (.ret .none)) s')→
   codeAny (model prog w) A (.builtin "set.update.loop" ⟨[.ref S,.ref I],[]⟩) R s:=by
 have hSw:S∉wr:=fun h=>hSf (W.sub _ h)
 have hsub:∀c∈wr,c∈S::wr:=fun c hc=>zd2 _ hc
 intro k
 induction k with
 |zero=>
  intro i s hk hi hst x hR
  have e:i=n:=by omega
  subst e
  refine zl3 F.entry_set_update_loop ?_
  rw[zk6 F.plain_set_update_loop _]
  exact zc8 (W.done s _ _ hst fun s' hm=>zd0 (hR s' (hm.mono hsub) (x.keep fun o ho=>hm.heap S _ hSw ho)))
 |succ k ih=>
  intro i s hk hi hst x hR
  have hlt:i<n:=by omega
  refine zl3 F.entry_set_update_loop ?_
  rw[zk6 F.plain_set_update_loop _]
  refine zc8 (W.item i s _ _ hlt hst fun v s' hP hst' hm=>?_)
  obtain⟨t,rfl⟩:=hval i v hP
  have x1:Wk prog w s'.heap S (fun j=>(firstMet val i).any (· == j)) (firstMet val i).length b:=x.keep fun o ho=>hm.heap S _ hSw ho
  show wpAny _ A.in1 (holding [Value.int (val i) t] (setAdd S (.int (val i) t)) >>= _) _ _ s'
  refine zc8 (zk5 ?_)
  unfold setAdd
  refine zk5 (zc8 ((intKind prog w).pyHash (k:=val i) (intKind_is _ _ _ _) ?_))
  have room:(firstMet val i).length+1<scanBound:=by have:=firstMet_length_le val i;omega
  refine bp (s:={s' with toks:=s'.toks+1}) x1 room fun h' hsb x2 r=>?_
  have x3:Wk prog w h' S (fun j=>(firstMet val (i+1)).any (· == j)) (firstMet val (i+1)).length b:=x2.congr (fun j=>by rw[firstMet_succ,step_any]) (by rw[firstMet_succ,step_length])
  refine zd0 ⟨plainId_quiet F.plain_set_update_loop _,ih (i+1) _ (by omega) hlt (W.frame _ s' _ _ hst' (zl4 _) fun c hc o e=>?_) x3 fun s'' hm'' x4=>?_⟩
  ·rw[hsb.2 c fun z=>hSf (by rw[←z];exact hc)];exact e
  ·refine hR s'' (Moved.trans W.gtrans ((hm.mono hsub).then_heap (zl4 _) fun c o hc e=>?_) hm'') x4
   rw[hsb.2 c fun z=>hc (by rw[z];exact zd7)];exact e
end
section
variable {prog:Program}{w:World}{A:Around}{E:Value→Shared→Prop}{s:Shared}
set_option maxHeartbeats 3200000 in
theorem dz {l:Addr}{its:Array Value}{ns:List Int}{Q:Value→Shared→Prop}(hh:A.handled=none)(hl:s.heap.IsList l its)(hi:IntsAre its.toList ns)(hb:its.size+1<scanBound)
  (h:∀(h':Heap) (tk:Nat),Wk prog w h' s.heap.objs.size (fun j=>(firstMet (fun i=>ns.getD i 0) its.size).any (· == j)) (firstMet (fun i=>ns.getD i 0) its.size).length (yO w)→
   (∀c o,c<s.heap.objs.size→s.heap.get? c=some o→h'.get? c=some o)→Q (.ref s.heap.objs.size) {s with heap:=h',toks:=tk}):wpAny (model prog w) A (call (.type "set") [.ref l]) Q E s:=by
 obtain⟨c,tl,hmro⟩:=zk7.mro
 have hmade:=zk7.made
 have hsub:=zk7.sub
 refine wpAny_call (codeAny_of_tree ?_)
 show wpAny _ _ (callAny (.type "set") _) _ _ _
 refine zd0 ⟨Code.quiet_builtin _ (by decide +kernel),zl3 F.entry_type_call ?_⟩
 rw[Around.under_plain (weight_type_call_type "set" [.ref l] []) rfl]
 have h1:=zk7.notType
 have h2:=zk7.canCreate
 have hct:=F.typeCall_set_1 (.ref l)
 repeat (any_goals (first|assumption|wp_step))
 refine zn3 (dY (.ref l) (E:=E) (Q₁:=fun ob s₁=>ob=.ref s.heap.objs.size∧s₁={s with heap:=s.heap.push (ur w)}) ⟨rfl,rfl⟩) fun r s₁ hr=>?_
 cases r with
 |error e=>exact hr
 |ok fl=>
  cases fl with
  |ret ob=>
   obtain⟨rfl,rfl⟩:=hr
   have hS:(s.heap.push (ur w)).get? s.heap.objs.size=some (ur w):=ze1 _ rfl
   have hT:Shared.TypeIs {s with heap:=s.heap.push (ur w)} (.ref s.heap.objs.size) "set":=⟨_,hS,rfl⟩
   have hli:=zk7.init.lookup
   have hbi:=zk7.init.bind (.ref s.heap.objs.size)
   repeat (any_goals (first|assumption|wp_step))
   refine zn3 (codeAny_call_builtin (R:=wants (fun r s₂=>r=.none∧∃h' tk,s₂={s with heap:=h',toks:=tk}∧Wk prog w h' s.heap.objs.size (fun j=>(firstMet (fun i=>ns.getD i 0) its.size).any (· == j)) (firstMet (fun i=>ns.getD i 0) its.size).length (yO w)∧
     (∀c o,c<s.heap.objs.size→s.heap.get? c=some o→h'.get? c=some o)) E) zk7.init.plain F.entry_set_init (check_set_init_1 hT ?_)) fun r₂ s₂ hr₂=>?_
   ·obtain⟨ol,hol,hcl,nl,hdl⟩:=hl
    obtain⟨ocls,odict,odata,oslots⟩:=ol
    simp only at hcl hdl
    subst hcl hdl
    have hol':(s.heap.push (ur w)).get? l=some {cls:=.type "list",dict:=odict,data:=.seq its nl,slots:=oslots}:=zd3 _ hol
    have hsls:=F.sub_list_set
    have hslf:=F.sub_list_frozenset
    have hne:(Value.type "list" == Value.type "dict")=false:=by decide
    have hl1:(s.heap.push (ur w)).IsList l its:=⟨_,hol',rfl,nl,rfl⟩
    unfold Builtin.«set.__init__» noKeywords Builtin.Frozenset.updateFrom
    generalize hPI:pyIter=PI
    wp_walk
    subst hPI
    refine wpAny_pyIter_list hl1 (zc8 (wpAny_runValue ?_))
    have hlS:l<s.heap.objs.size:=zd9 hol
    have sz:(s.heap.push (ur w)).objs.size=s.heap.objs.size+1:=zm0 _ _
    have hneI:l≠(s.heap.push (ur w)).objs.size:=by rw[sz];exact ze5 (zj1 hlS)
    have hSf:s.heap.objs.size∉[(s.heap.push (ur w)).objs.size,l]:=by
     rw[sz]
     simp only[zc9,zd4,zf4,not_or]
     exact⟨ze5 (zj5 _),zo8 hlS⟩
    refine gg ((Walks.list (by simp[hh]) _ l hneI its).toS) s.heap.objs.size hSf (fun i=>ns.getD i 0) (fun i v hv=>IntsAre.int_at hi i v (by rw[Array.getElem?_toList];exact hv)) hb (its.size-0) 0 _ (by omega) (ze8 _)
     ⟨⟨_,ze1 _ rfl,rfl,rfl⟩,hl1.push _⟩ ⟨ur w,_,_,_,zd3 _ hS,gy⟩ fun s' hm x=>?_
    obtain⟨h',g',d',tk',os'⟩:=s'
    have eg:g'=s.gens:=hm.gens
    have ed:d'=s.drawn:=hm.drawn
    have eo:os'=s.os:=hm.os
    subst eg ed eo
    refine zd0 (zd0 ⟨rfl,h',tk',rfl,x,fun c o hc e=>?_⟩)
    refine hm.heap c o ?_ (zd3 _ (zd3 _ e))
    rw[sz]
    simp only[zc9,zd4,zf4,not_or]
    exact⟨ze5 hc,ze5 (zj1 hc)⟩
   ·cases r₂ with
    |error e=>exact hr₂
    |ok fl₂=>
     cases fl₂ with
     |ret r=>
      obtain⟨rfl,h',tk,rfl,x,hk⟩:=hr₂
      repeat (any_goals (first|assumption|wp_step))
      exact h _ _ x hk
     |_=>exact hr₂.elim
  |_=>exact hr.elim
end
theorem ve {α:Type}:∀(l:List α) (i:Nat) (x:α),l[i]?=some x→(x::l.eraseIdx i).Perm l
 |[],i,x,h=>by simp at h
 |a::l,0,x,h=>by simp at h;subst h;exact .refl _
 |a::l,i+1,x,h=>by
  have h':l[i]?=some x:=by simpa using h
  exact (List.Perm.swap a x (l.eraseIdx i)).trans ((ve l i x h').cons a)
theorem nu {α:Type}(next:Nat→Nat):∀(f k:Nat) (left:List α) (out:Array α),left.length=f→(pickOrder.go next f k left out).toList.Perm (out.toList++left)
 |0,k,left,out,e=>by
  rw[zo0.mp e,zk4]
  exact .refl _
 |f+1,k,left,out,e=>by
  unfold pickOrder.go
  have hl:next k % left.length<left.length:=Nat.mod_lt _ (by omega)
  rw[zd8 hl]
  dsimp only
  refine (nu next f (k+1) _ _ (by rw[List.length_eraseIdx];split<;>omega)).trans ?_
  rw[Array.toList_push,zh8]
  exact List.Perm.append_left _ (ve left _ _ (zd8 hl))
theorem vT {α:Type}(next:Nat→Nat)(xs:Array α):(pickOrder next xs).toList.Perm xs.toList:=by
 have:=nu next xs.size 0 xs.toList #[] (by simp)
 simpa[pickOrder] using this
section
variable {prog:Program}{w:World}{A:Around}{E:Value→Shared→Prop}
theorem lA {M:Model}{src:Source}{n:Nat}{s:Shared}{Q:Nat→Shared→Prop}(hn:n≠0)(h:∀i d,i<n→Q i {s with drawn:=d}):wpAny M A (choose src n) Q E s:=fun _ _ _=>⟨hn,h _ _ (Nat.mod_lt _ (Nat.pos_of_ne_zero hn))⟩
theorem mf {α:Type}:∀(n:Nat) (xs:List α) {s:Shared} {Q:List α→Shared→Prop},xs.length=n→(∀ys d,ys.Perm xs→Q ys {s with drawn:=d})→wpAny (model prog w) A (drawOrder n xs) Q E s
 |0,xs,s,Q,e,h=>by
  rw[zo0.mp e] at h
  cases s
  exact zd0 (h [] _ (.refl _))
 |n+1,[],s,Q,e,h=>by cases e
 |n+1,x::xs,s,Q,e,h=>by
  unfold drawOrder
  refine zc8 (lA (by simp) fun i d0 hl=>?_)
  rw[zd8 hl]
  dsimp only
  refine zc8 (mf n _ (by rw[List.length_eraseIdx,if_pos hl];simp at e ⊢;omega) fun ys d hy=>zd0 ?_)
  exact h _ d ((hy.cons _).trans (ve _ _ _ (zd8 hl)))
end
theorem yo :Slot "set_iterator" "__next__" "set_iterator.__next__":=
 .of (owner:="set_iterator") (n:="__next__") (by rw[typeLookup_type,builtinLookup_eq_fast];kernel_rfl) (by decide +kernel) (by decide +kernel) (by decide +kernel) (by first|exact .inl (by decide +kernel)|exact .inr (by decide +kernel)) (by rw[isSubtype_type];kernel_rfl)
theorem wC :entryFor table "set_iterator.__next__"=some Builtin.«set_iterator.__next__»:=entryFor_of_fast (by kernel_rfl)
theorem vn (a:Value):argsOk "set_iterator.__next__" ⟨[a],[]⟩:=by unfold argsOk;kernel_rfl
theorem mH :entryFor table "set.__iter__"=some Builtin.«frozenset.__iter__»:=entryFor_alias (id':="frozenset.__iter__") (by kernel_rfl) rfl (by decide +kernel) (by kernel_rfl)
abbrev itO (f:Value)(i:Nat)(a:Addr)(n ep:Nat):Obj:={cls:=.type "set_iterator",data:=.fields #[f,.int i 0,.ref a,.int n 0,.int ep 0]}
section
variable {prog:Program}{w:World}{A:Around}{E:Value→Shared→Prop}{s:Shared}{I a:Addr}{i n ep:Nat}{o:Obj}{es:Array (Int×Value)}{S:Int→Bool}{m:Nat}{b:Bool}{t:SetTable}{Q:Option Value→Shared→Prop}
theorem fw {sl sl':Nat}{v:Value}(ho:s.heap.get? I=some (itO (.int sl 0) i a n ep))(hoa:s.heap.get? a=some o)(x:WkO prog w o S m b es ep t)(hn:es.size=n)
  (hN:∀(A':Around) (E:Value→Shared→Prop) (Q':Option (Value×Nat)→Shared→Prop),Q' (some (v,sl')) s→wpAny (model prog w) A' (setNext a sl i ep) Q' E s)
  (hQ:∀h',h'.get? I=some (itO (.int sl' 0) (i+1) a n ep)→Heap.SameBut I s.heap h'→Q (some v) {s with heap:=h'}):wpAny (model prog w) A (pyNext (.ref I)) Q E s:=by
 have hT:s.TypeIs (.ref I) "set_iterator":=⟨_,ho,rfl⟩
 unfold pyNext
 refine zc8 (wpAny_attempt (zk9 (name:=Str.ofString "__next__") hT yo (zj9 yo hT wC ?_ (vn _))))
 unfold Builtin.«set_iterator.__next__»
 refine zc8 (zl6 (a:=(Value.ref I,([]:List Value))) (by rfl) (zc8 (wpAny_fieldsOf ho rfl ?_)))
 refine zc8 (zk8 hoa x.dt x.fit ?_)
 rw[hn]
 refine zf8 (fun z=>absurd z (by simp)) (fun _=>?_)
 refine zc8 (hN _ _ _ ?_)
 refine zc8 (zk3 ho (by simp) fun h1 e1 s1=>?_)
 refine zc8 (zk3 e1 (by simp) fun h2 e2 s2=>?_)
 exact zd0 ⟨v,rfl,zd0 (hQ h2 e2 (s1.trans s2))⟩
theorem cm {sl:Nat}(hh:A.handled=none)(ho:s.heap.get? I=some (itO (.int sl 0) i a n ep))(hoa:s.heap.get? a=some o)(x:WkO prog w o S m b es ep t)(hn:es.size=n)
  (hN:∀(A':Around) (E:Value→Shared→Prop) (Q':Option (Value×Nat)→Shared→Prop),Q' none s→wpAny (model prog w) A' (setNext a sl i ep) Q' E s)
  (hQ:∀h',Heap.ExtBut I s.heap h'→Q none {s with heap:=h'}):wpAny (model prog w) A (pyNext (.ref I)) Q E s:=by
 have hT:s.TypeIs (.ref I) "set_iterator":=⟨_,ho,rfl⟩
 unfold pyNext
 refine zc8 (wpAny_attempt (zk9 (name:=Str.ofString "__next__") hT yo (zj9 yo hT wC ?_ (vn _))))
 unfold Builtin.«set_iterator.__next__»
 refine zc8 (zl6 (a:=(Value.ref I,([]:List Value))) (by rfl) (zc8 (wpAny_fieldsOf ho rfl ?_)))
 refine zc8 (zk8 hoa x.dt x.fit ?_)
 rw[hn]
 refine zf8 (fun z=>absurd z (by simp)) (fun _=>?_)
 refine zc8 (hN _ _ _ ?_)
 refine zc8 (zk3 ho (by simp) fun h1 e1 s1=>?_)
 refine zc8 ?_
 simp only[newExc,newTuple]
 refine zc8 (zi4 ?_ (by size_fits))
 refine zc8 (m:=firstArgMember _ _) (zl6 (a:=Value.none) (by first|rfl|(simp only[firstArgMember];rfl)) ?_)
 refine zi4 ?_ (by size_fits)
 simp only[raiseNew]
 refine zc8 (wpAny_handled ?_)
 rw[show A.in1.handled=none from hh]
 refine zc8 (zd0 (wpAny_throw ?_))
 refine zc8 (wpAny_isInstance (T:="StopIteration") (b:=true) ⟨_,ze1 _ rfl,rfl⟩ isSubtype_stop ?_)
 exact zd0 (hQ _ ((s1.extBut.push _).push _))
theorem ie {tp:Addr}{ot:Obj}{places:Array Value}{c:Nat}{k:Nat}{u:Tok}{e:Int×Value}(ho:s.heap.get? I=some (itO (.ref tp) i a n ep))(hot:s.heap.get? tp=some ot)(hdt:ot.data=.seq places c)(hoa:s.heap.get? a=some o)(x:WkO prog w o S m b es ep t)(hn:es.size=n)
  (hp:places[i]?=some (.int k u)) (he:es[k]?=some e)
  (hQ:∀h',h'.get? I=some (itO (.ref tp) (i+1) a n ep)→Heap.SameBut I s.heap h'→Q (some e.2) {s with heap:=h'}):wpAny (model prog w) A (pyNext (.ref I)) Q E s:=by
 have hT:s.TypeIs (.ref I) "set_iterator":=⟨_,ho,rfl⟩
 unfold pyNext
 refine zc8 (wpAny_attempt (zk9 (name:=Str.ofString "__next__") hT yo (zj9 yo hT wC ?_ (vn _))))
 unfold Builtin.«set_iterator.__next__»
 refine zc8 (zl6 (a:=(Value.ref I,([]:List Value))) (by rfl) (zc8 (wpAny_fieldsOf ho rfl ?_)))
 refine zc8 (zk8 hoa x.dt x.fit ?_)
 rw[hn]
 refine zf8 (fun z=>absurd z (by simp)) (fun _=>?_)
 refine zc8 (wpAny_seqItems hot hdt ?_)
 dsimp only
 rw[zl7,hp]
 dsimp only
 unfold setNextDrawn
 refine zc8 (zc8 (zj2 hoa x.dt x.fit ?_))
 dsimp only
 rw[zl7,zl7]
 refine zf8 (fun z=>absurd z (by simp)) (fun _=>?_)
 rw[he]
 refine zd0 ?_
 refine zc8 (zk3 ho (by simp) fun h2 e2 s2=>?_)
 exact zd0 ⟨e.2,rfl,zd0 (hQ h2 e2 s2)⟩
theorem fq {tp:Addr}{ot:Obj}{places:Array Value}{c:Nat}(hh:A.handled=none)(ho:s.heap.get? I=some (itO (.ref tp) i a n ep))(hot:s.heap.get? tp=some ot)(hdt:ot.data=.seq places c)(hoa:s.heap.get? a=some o)(x:WkO prog w o S m b es ep t)(hn:es.size=n)
  (hp:places[i]?=none) (hQ:∀h',Heap.ExtBut I s.heap h'→Q none {s with heap:=h'}):wpAny (model prog w) A (pyNext (.ref I)) Q E s:=by
 have hT:s.TypeIs (.ref I) "set_iterator":=⟨_,ho,rfl⟩
 unfold pyNext
 refine zc8 (wpAny_attempt (zk9 (name:=Str.ofString "__next__") hT yo (zj9 yo hT wC ?_ (vn _))))
 unfold Builtin.«set_iterator.__next__»
 refine zc8 (zl6 (a:=(Value.ref I,([]:List Value))) (by rfl) (zc8 (wpAny_fieldsOf ho rfl ?_)))
 refine zc8 (zk8 hoa x.dt x.fit ?_)
 rw[hn]
 refine zf8 (fun z=>absurd z (by simp)) (fun _=>?_)
 refine zc8 (wpAny_seqItems hot hdt ?_)
 dsimp only
 rw[zl7,hp]
 refine zc8 (zk3 ho (by simp) fun h0 e0 s0=>?_)
 refine zc8 (zk3 e0 (by simp) fun h1 e1 s1=>?_)
 refine zc8 ?_
 simp only[newExc,newTuple]
 refine zc8 (zi4 ?_ (by size_fits))
 refine zc8 (m:=firstArgMember _ _) (zl6 (a:=Value.none) (by first|rfl|(simp only[firstArgMember];rfl)) ?_)
 refine zi4 ?_ (by size_fits)
 simp only[raiseNew]
 refine zc8 (wpAny_handled ?_)
 rw[show A.in1.handled=none from hh]
 refine zc8 (zd0 (wpAny_throw ?_))
 refine zc8 (wpAny_isInstance (T:="StopIteration") (b:=true) ⟨_,ze1 _ rfl,rfl⟩ isSubtype_stop ?_)
 exact zd0 (hQ _ (((s0.trans s1).extBut.push _).push _))
theorem oQ (hoa:s.heap.get? a=some o)(x:WkO prog w o S m b es ep t)(hl:yO w=true)(hb:b=true)(hp:(!t.plain&&decide (es.size > 1))=false)(hi:i<es.size)(A':Around)(E:Value→Shared→Prop)(Q':Option (Value×Nat)→Shared→Prop){sl:Nat}(hs:SetTable.below t.place sl=i)
  (q:∀(hi':i<t.place.size),Q' (some (es[i].2,t.place[i]+1)) s):wpAny (model prog w) A' (setNext a sl i ep) Q' E s:=by
 have ht:w.params.followText "set-order"=false:=by simpa[yO] using hl
 have hpl:t.place.size=es.size:=by
  have:=x.fit
  simp only[SetTable.fits,ze9,zm2] at this
  exact this.1
 unfold setNext
 refine zc8 (zj2 hoa x.dt x.fit ?_)
 dsimp only
 unfold setsByText
 refine zc8 (zc8 (zj8 (zd0 ?_)))
 refine zf8 (fun z=>absurd z (by show ¬(w.params.followText "set-order"=true);rw[ht];decide)) (fun _=>?_)
 have hb2:t.led=true:=x.led.trans hb
 refine zf8 (fun z=>absurd (show (!t.plain&&decide (es.size > 1))=true from z) (by rw[hp];decide)) (fun _=>?_)
 refine zc8 ((?_:wpAny (model prog w) A' (if (!t.led&&!es.isEmpty)=true then unsupported "set:maker-not-led" else pure ()) _ E s))
 rw[hb2]
 refine zd0 ?_
 rw[hs,zi0 hi,zi0 (show i<t.place.size by omega)]
 exact zd0 (q (by omega))
theorem lV (hoa:s.heap.get? a=some o)(x:WkO prog w o S m b es ep t)(hl:yO w=true)(hb:b=true)(hp:(!t.plain&&decide (es.size > 1))=false)(A':Around)(E:Value→Shared→Prop)(Q':Option (Value×Nat)→Shared→Prop){sl:Nat}(hs:SetTable.below t.place sl=es.size)
  (q:Q' none s):wpAny (model prog w) A' (setNext a sl i ep) Q' E s:=by
 have ht:w.params.followText "set-order"=false:=by simpa[yO] using hl
 unfold setNext
 refine zc8 (zj2 hoa x.dt x.fit ?_)
 dsimp only
 unfold setsByText
 refine zc8 (zc8 (zj8 (zd0 ?_)))
 refine zf8 (fun z=>absurd z (by show ¬(w.params.followText "set-order"=true);rw[ht];decide)) (fun _=>?_)
 have hb2:t.led=true:=x.led.trans hb
 refine zf8 (fun z=>absurd (show (!t.plain&&decide (es.size > 1))=true from z) (by rw[hp];decide)) (fun _=>?_)
 refine zc8 ((?_:wpAny (model prog w) A' (if (!t.led&&!es.isEmpty)=true then unsupported "set:maker-not-led" else pure ()) _ E s))
 rw[hb2]
 refine zd0 ?_
 rw[hs,Array.getElem?_eq_none (zd6 _)]
 exact zd0 q
theorem sx (hoa:s.heap.get? a=some o)(x:WkO prog w o S m b es ep t)(hl:yO w=false)(A':Around)(E:Value→Shared→Prop)(Q':Option (Value×Nat)→Shared→Prop){sl:Nat}
  (q:Q' (((pickOrder (w.params.setOrder a ep) es)[i]?).map fun e=>(e.2,sl)) s):wpAny (model prog w) A' (setNext a sl i ep) Q' E s:=by
 have ht:w.params.followText "set-order"=true:=by simpa[yO] using hl
 unfold setNext
 refine zc8 (zj2 hoa x.dt x.fit ?_)
 dsimp only
 unfold setsByText
 refine zc8 (zc8 (zj8 (zd0 ?_)))
 refine zf8 (fun _=>?_) (fun z=>absurd ht z)
 refine zf8 (fun z=>absurd z (by simp)) (fun _=>?_)
 unfold setWalk
 refine zc8 (zc8 (zj2 hoa x.dt x.fit ?_))
 dsimp only
 unfold setsByText
 refine zc8 (zc8 (zj8 (zd0 ?_)))
 refine zf8 (fun _=>?_) (fun z=>absurd ht z)
 exact zc8 (zj8 (zd0 (zd0 q)))
end
theorem pd :Slot "set_iterator" "__iter__" "set_iterator.__iter__":=
 .of (owner:="set_iterator") (n:="__iter__") (by rw[typeLookup_type,builtinLookup_eq_fast];kernel_rfl) (by decide +kernel) (by decide +kernel) (by decide +kernel) (by first|exact .inl (by decide +kernel)|exact .inr (by decide +kernel)) (by rw[isSubtype_type];kernel_rfl)
theorem lM :entryFor table "set_iterator.__iter__"=some Builtin.«dict_keyiterator.__iter__»:=entryFor_alias (id':="dict_keyiterator.__iter__") (by kernel_rfl) rfl (by decide +kernel) (by kernel_rfl)
theorem iE (a:Value):argsOk "set_iterator.__iter__" ⟨[a],[]⟩:=by unfold argsOk;kernel_rfl
section
variable {prog:Program}{w:World}{A:Around}{I a:Addr}{n ep:Nat}{o:Obj}{es:Array (Int×Value)}{S:Int→Bool}{m:Nat}{b:Bool}{t:SetTable}{ord:List Value}
theorem nH {E:Value→Shared→Prop}{s:Shared}{f:Value}{i:Nat}{Q:Value→Shared→Prop}(ho:s.heap.get? I=some (itO f i a n ep))(q:Q (.ref I) s):wpAny (model prog w) A (pyIter (.ref I)) Q E s:=by
 have hT:s.TypeIs (.ref I) "set_iterator":=⟨_,ho,rfl⟩
 refine wpAny_pyIter_slot hT pd (zj9 pd hT lM ?_ (iE _))
 show wpAny _ _ (ret (.ref I)) _ _ s
 exact zd0 ⟨_,rfl,"set_iterator",_,hT,yo.lookup,q⟩
theorem eN (hh:A.handled=none)(hne:a≠I)(x:WkO prog w o S m b es ep t)(hn:es.size=n)(hl:ord.length=n)(stp:Nat→Nat)
  (hN:∀(i:Nat) (s:Shared) (A':Around) (E:Value→Shared→Prop) (Q':Option (Value×Nat)→Shared→Prop),s.heap.get? a=some o→(hi:i<ord.length)→Q' (some (ord[i],stp (i+1))) s→wpAny (model prog w) A' (setNext a (stp i) i ep) Q' E s)
  (hE:∀(s:Shared) (A':Around) (E:Value→Shared→Prop) (Q':Option (Value×Nat)→Shared→Prop),s.heap.get? a=some o→Q' none s→wpAny (model prog w) A' (setNext a (stp n) n ep) Q' E s):
  Walks prog w A I [I,a] [I] n (fun i v=>ord[i]?=some v) (fun i h=>h.get? I=some (itO (.int (stp i) 0) i a n ep)∧h.get? a=some o) where
 sub:=fun c hc=>by simp at hc;simp[hc]
 frame:=fun i h h' st k=>⟨k I (by simp) _ st.1,k a (by simp) _ st.2⟩
 item:=fun i s Q E hi st hQ=>fw st.1 st.2 x hn (fun A' E Q' q=>hN i s A' E Q' st.2 (by omega) q) fun h' e sb=>by
  cases s
  exact hQ _ h' _ (zd8 (by omega)) ⟨e,by rw[sb.2 a hne];exact st.2⟩ fun c u hc e=>by rw[sb.2 c fun z=>hc (by simp[z])];exact e
 done:=fun s Q E st hQ=>cm hh st.1 st.2 x hn (fun A' E Q' q=>hE s A' E Q' st.2 q) fun h' e=>by
  cases s
  exact hQ h' _ fun c u hc e'=>e c u (fun z=>hc (by simp[z])) e'
 self:=fun i s Q E st q=>nH st.1 q
theorem bB {tp:Addr}{ot:Obj}{ks:List Nat}{c:Nat}(hh:A.handled=none)(hne:a≠I)(htp:tp≠I)(x:WkO prog w o S m b es ep t)(hn:es.size=n)(hl:ks.length=n)(hk:∀k∈ks,k<n)(hdt:ot.data=.seq (ks.map fun k=>Value.int (k:Nat) 0).toArray c):
  Walks prog w A I [I,a,tp] [I] n (fun i v=>(ks.map fun k=>(es.getD k (0,.none)).2)[i]?=some v) (fun i h=>h.get? I=some (itO (.ref tp) i a n ep)∧h.get? a=some o∧h.get? tp=some ot) where
 sub:=fun c hc=>by simp at hc;simp[hc]
 frame:=fun i h h' st k=>⟨k I (by simp) _ st.1,k a (by simp) _ st.2.1,k tp (by simp) _ st.2.2⟩
 item:=fun i s Q E hi st hQ=>by
  have hi':i<ks.length:=by omega
  have hki:ks[i]<es.size:=by rw[hn];exact hk _ (zj7 hi')
  refine ie (k:=ks[i]) (u:=0) (e:=es[ks[i]]) st.1 st.2.2 hdt st.2.1 x hn (by simp[hi']) (zi0 hki) fun h' e sb=>?_
  cases s
  refine hQ _ h' _ ?_ ⟨e,by rw[sb.2 a hne];exact st.2.1,by rw[sb.2 tp htp];exact st.2.2⟩ fun c u hc e=>by rw[sb.2 c fun z=>hc (by simp[z])];exact e
  rw[ze4,zd8 hi']
  simp[Array.getD,hki]
 done:=fun s Q E st hQ=>fq hh st.1 st.2.2 hdt st.2.1 x hn (by simp[hl]) fun h' e=>by
  cases s
  exact hQ h' _ fun c u hc e'=>e c u (fun z=>hc (by simp[z])) e'
 self:=fun i s Q E st q=>nH st.1 q
def lW (t:SetTable):Nat→Nat
 |0=>0
 |i+1=>t.place.getD i 0+1
def Wkd (prog:Program)(w:World)(h:Heap)(I a:Addr)(N n:Nat)(ord:List Value):Prop:=∀A:Around,A.handled=none→∃fp St,Walks prog w A I fp [I] n (fun i v=>ord[i]?=some v) St∧St 0 h∧(∀c∈fp,c=a∨N≤c)∧I∈fp
theorem ee {E:Value→Shared→Prop}{s:Shared}{Q:Value→Shared→Prop}(hoa:s.heap.get? a=some o)(x:WkO prog w o S m (yO w) es ep t)
  (h:∀(I:Addr) (h':Heap) d (ord:List Value),(∀c u,s.heap.get? c=some u→h'.get? c=some u)→s.heap.objs.size≤I→ord.Perm (es.toList.map (·.2))→Wkd prog w h' I a s.heap.objs.size es.size ord→Q (.ref I) {s with heap:=h',drawn:=d}):wpAny (model prog w) A (pyIter (.ref a)) Q E s:=by
 have hT:s.TypeIs (.ref a) "set":=⟨_,hoa,x.ex.1⟩
 have alt:a<s.heap.objs.size:=zd9 hoa
 refine wpAny_pyIter_slot hT F.slot_set_iter (zj9 F.slot_set_iter hT mH ?_ (F.args_set_iter_1 _))
 unfold Builtin.«frozenset.__iter__»
 refine zc8 (zl6 (a:=a) (by rfl) ?_)
 refine zc8 ?_
 unfold Builtin.Frozenset.sizeOf
 refine zc8 (zk8 hoa x.dt x.fit (zd0 ?_))
 refine zc8 ?_
 unfold setDrawn
 refine zc8 (zj2 hoa x.dt x.fit ?_)
 dsimp only
 unfold setsByText
 refine zc8 (zc8 (zj8 (zd0 (zd0 ?_))))
 have sz:es.size≤sizeLine:=zo2 x.sb
 refine zf8 (fun hd=>?_) (fun hd=>?_)
 ·refine zc8 (mf _ _ (by simp) fun ks d pk=>?_)
  have lk:ks.length=es.size:=by rw[pk.length_eq,List.length_range]
  refine zc8 (wpAny_newTuple ?_ (by rw[zd5];omega))
  generalize hI:(s.heap.push {cls:=.type "tuple",data:=.seq (ks.map fun (i:Nat)=>rawInt i).toArray}).objs.size=I
  have eI:I=s.heap.objs.size+1:=by rw[←hI];exact zm0 _ _
  have k1:∀c u,s.heap.get? c=some u→(s.heap.push {cls:=.type "tuple",data:=.seq (ks.map fun (i:Nat)=>rawInt i).toArray}).get? c=some u:=fun c u e=>zd3 _ e
  refine zc8 (wpAny_setEpoch_of (k1 _ _ hoa) x.dt x.fit ?_)
  refine zc8 (zi4 (zd0 ⟨_,rfl,"set_iterator",_,⟨_,ze1 _ rfl,rfl⟩,yo.lookup,?_⟩))
  dsimp only
  rw[hI]
  have k2:∀c u,s.heap.get? c=some u→((s.heap.push {cls:=.type "tuple",data:=.seq (ks.map fun (i:Nat)=>rawInt i).toArray}).push (itO (.ref s.heap.objs.size) 0 a es.size ep)).get? c=some u:=fun c u e=>zd3 _ (k1 c u e)
  refine h I _ d (ks.map fun k=>(es.getD k (0,.none)).2) k2 (by rw[eI];exact zl4 _) ?_ (fun A hh=>⟨_,_,bB (tp:=s.heap.objs.size) hh (by rw[eI];exact ze5 (zj1 alt)) (by rw[eI];exact ze5 (zj5 _)) x rfl lk (fun k hk=>List.mem_range.mp (pk.mem_iff.mp hk)) rfl,⟨by rw[←hI];exact ze1 _ rfl,k2 _ _ hoa,zd3 _ (ze1 _ rfl)⟩,fun c hc=>?_,by simp⟩)
  ·have e:es.toList.map (·.2)=(List.range es.size).map fun k=>(es.getD k (0,.none)).2:=by
    refine List.ext_getElem (by simp) fun i h1 h2=>?_
    have:i<es.size:=by simpa using h1
    simp[Array.getD,this]
   rw[e]
   exact pk.map _
  ·simp only[zc9,zd4,zf4] at hc
   rcases hc with rfl|rfl|rfl
   ·rw[eI];exact .inr (zl4 _)
   ·exact .inl rfl
   ·exact .inr (zd6 _)
 ·refine zc8 (zd0 (zc8 (wpAny_setEpoch_of hoa x.dt x.fit ?_)))
  refine zc8 (zi4 (zd0 ⟨_,rfl,"set_iterator",_,⟨_,ze1 _ rfl,rfl⟩,yo.lookup,?_⟩))
  have k2:∀c u,s.heap.get? c=some u→(s.heap.push (itO (.int (0:Nat) 0) 0 a es.size ep)).get? c=some u:=fun c u e=>zd3 _ e
  have fpl:∀c∈[s.heap.objs.size,a],c=a∨s.heap.objs.size≤c:=fun c hc=>by
   simp only[zc9,zd4,zf4] at hc
   rcases hc with rfl|rfl
   ·exact .inr (zd6 _)
   ·exact .inl rfl
  cases hw:yO w with
  |false=>
   have q:=h s.heap.objs.size _ s.drawn ((pickOrder (w.params.setOrder a ep) es).toList.map (·.2)) k2 (zd6 _) ((vT _ _).map _) (fun A hh=>⟨_,_,eN hh (ze5 alt) x rfl (by rw[zd5,(vT _ es).length_eq];simp) (fun _=>0) (fun i s A' E Q' e hi q=>sx e x hw A' E Q' ?_) (fun s A' E Q' e q=>sx e x hw A' E Q' ?_),⟨ze1 _ rfl,k2 _ _ hoa⟩,fpl,by simp⟩)
   ·exact q
   ·have hi':i<(pickOrder (w.params.setOrder a ep) es).size:=by simpa using hi
    rw[zi0 hi']
    simpa using q
   ·rw[Array.getElem?_eq_none (by
     have:=(vT (w.params.setOrder a ep) es).length_eq
     simp at this
     omega)]
    exact q
  |true=>
   have ht:w.params.followText "set-order"=false:=by simpa[yO] using hw
   have hx:¬((!w.params.followText "set-order"&&(!t.plain&&decide (es.size > 1)))=true):=hd
   rw[ht] at hx
   have hx':(!t.plain&&decide (es.size > 1))=false:=by simpa using hx
   have hpl:t.place.size=es.size:=by
    have:=x.fit
    simp only[SetTable.fits,ze9,zm2] at this
    exact this.1
   have up:Up t.place:=by
    cases hp:t.plain with
    |true=>exact x.ris hp
    |false=>
     rw[hp] at hx'
     have:es.size≤1:=by simpa using hx'
     unfold Up
     have h1:t.place.toList.length≤1:=by simp;omega
     match hL:t.place.toList,h1 with
     |[],_=>exact .nil
     |[y],_=>exact List.pairwise_singleton _ _
   have st:∀i (hi:i≤es.size),SetTable.below t.place (lW t i)=i:=fun i hi=>by
    cases i with
    |zero=>exact pT up
    |succ i=>
     have hi':i<t.place.size:=by omega
     have e:lW t (i+1)=t.place[i]+1:=by simp[lW,Array.getD,hi']
     rw[e]
     exact pN up hi'
   have q:=h s.heap.objs.size _ s.drawn (es.toList.map (·.2)) k2 (zd6 _) (.refl _) (fun A hh=>⟨_,_,eN hh (ze5 alt) x rfl (by simp) (lW t) (fun i s A' E Q' e hi q=>oQ e x hw hw hx' (by simpa using hi) A' E Q' (st i (by simp at hi;omega)) fun hi'=>?_) (fun s A' E Q' e q=>lV e x hw hw hx' A' E Q' (st _ (zd6 _)) q),⟨ze1 _ rfl,k2 _ _ hoa⟩,fpl,by simp⟩)
   ·exact q
   ·have e:lW t (i+1)=t.place[i]+1:=by simp[lW,Array.getD,hi']
    rw[e] at q
    simpa using q
end
section
variable {prog:Program}{w:World}{A:Around}{E:Value→Shared→Prop}{s:Shared}{a:Addr}{ep:Nat}{o:Obj}{es:Array (Int×Value)}{S:Int→Bool}{m:Nat}{t:SetTable}
theorem iS {Q:Bool→Shared→Prop}(hT:s.TypeIs (.ref a) "set")(h:Q false s):wpAny (model prog w) A (Builtin.List.listLengthHint (.ref a)) Q E s:=by
 unfold Builtin.List.listLengthHint
 refine zc8 (wpAny_specialOf hT F.slot_set_len.lookup ?_)
 generalize hid:("set.__len__":String)=id0
 wp_delta
 rw[show splitId id0=some ("set","__len__") from by subst hid;decide +kernel]
 subst hid
 refine zc8 (wpAny_isInstance (T:="set") (b:=true) hT (by rw[isSubtype_type];kernel_rfl) ?_)
 refine zf8 (fun q=>absurd q (by decide)) fun _=>?_
 refine zf8 (fun _=>?_) fun q=>absurd (by decide +kernel) q
 refine zc8 (wpAny_typeOf hT ?_)
 exact zd0 h
theorem qO {Q:List Value→Shared→Prop}(hh:A.handled=none)(hoa:s.heap.get? a=some o)(x:WkO prog w o S m (yO w) es ep t)
  (h:∀(h':Heap) d (tk:Nat) (ord:List Value),s.heap.objs.size<h'.objs.size→(∀c u,s.heap.get? c=some u→h'.get? c=some u)→ord.Perm (es.toList.map (·.2))→Q ord {s with heap:=h',drawn:=d,toks:=tk}):wpAny (model prog w) A (collect (.ref a)) Q E s:=by
 have alt:a<s.heap.objs.size:=zd9 hoa
 unfold collect
 refine zc8 (wpAny_runValue (zl3 F.entry_proto_collect ?_))
 rw[zk6 F.plain_proto_collect _]
 show wpAny _ A.in1 (newList [] >>= fun l=>again (.builtin "list.__iadd__" ⟨[l,.ref a],[]⟩)) _ _ s
 refine zc8 (zi4 ?_)
 refine zd0 ⟨plainId_quiet F.plain_list_iadd _,zl3 F.entry_list_iadd ?_⟩
 rw[zk6 F.plain_list_iadd _]
 show wpAny _ A.in1 (Builtin.List.listExtendWith (.ref s.heap.objs.size) (.ref a) (.ref s.heap.objs.size)) _ _ _
 generalize hS:s.heap.objs.size=L
 have k1:∀c u,s.heap.get? c=some u→(s.heap.push {cls:=.type "list",data:=.seq ([]:List Value).toArray}).get? c=some u:=fun c u e=>zd3 _ e
 have hL1:(s.heap.push {cls:=.type "list",data:=.seq ([]:List Value).toArray}).get? L=some {cls:=.type "list",data:=.seq ([]:List Value).toArray}:=by rw[←hS];exact ze1 _ rfl
 have sz1:(s.heap.push {cls:=.type "list",data:=.seq ([]:List Value).toArray}).objs.size=L+1:=by rw[←hS];exact zm0 _ _
 generalize hp1:s.heap.push {cls:=.type "list",data:=.seq ([]:List Value).toArray}=h1 at k1 hL1 sz1
 have aL:a≠L:=by rw[←hS];exact ze5 alt
 unfold Builtin.List.listExtendWith
 refine zc8 (wpAny_typeOf (T:="set") ⟨_,k1 _ _ hoa,x.ex.1⟩ ?_)
 have b1:Builtin.List.listSameRef (.ref L) (.ref a)=false:=by simp[Builtin.List.listSameRef,zl9 aL]
 refine zf8 (fun z=>absurd z (by rw[b1];decide)) fun _=>?_
 refine zc8 (ee (k1 _ _ hoa) x fun I h2 d ord k2 hI pm wk=>?_)
 refine zc8 (zk5 (iS ⟨_,k2 _ _ (k1 _ _ hoa),x.ex.1⟩ ?_))
 refine zf8 (fun _=>?_) fun q=>absurd (by decide +kernel) q
 refine zc8 (wpAny_rule ?_)
 refine zc8 ?_
 show wpAny _ A.in1 (updateSeq L (·.push .none) >>= fun _=>updateSeq L (·.pop)) _ _ _
 have hL2:=k2 _ _ hL1
 refine zc8 (wpAny_updateSeq hL2 rfl ?_)
 have hL3:=zm1 (Obj.mapSeq (·.push Value.none)) hL2 rfl
 refine wpAny_updateSeq hL3 rfl ?_
 have hL4:=zm1 (Obj.mapSeq (·.pop)) hL3 rfl
 have oth:∀c u,c≠L→h2.get? c=some u→((h2.update L (Obj.mapSeq (·.push Value.none))).update L (Obj.mapSeq (·.pop))).get? c=some u:=fun c u hc e=>(zl5 _ _ (zl9 hc)).trans ((zl5 _ _ (zl9 hc)).trans e)
 obtain⟨fp,St,W,w0,wf,wI⟩:=wk A.in1 (by simp[hh])
 have hSf:L∉fp:=fun z=>by
  rcases wf L z with e|e
  ·exact aL e.symm
  ·have e':h1.objs.size≤L:=e
   rw[sz1] at e'
   exact absurd e' (Nat.not_succ_le_self _)
 refine zd0 ⟨plainId_quiet F.plain_extend_loop _,codeAny_extend_loopS W.toS (zo2 x.sb) _ hSf _ es.size 0 _ _ _ rfl (ze8 _) (W.frame 0 _ _ w0 fun c hc u e=>oth c u (fun z=>hSf (z▸hc)) e) hL4 (ItemsOf.nil _) fun s' acc c' hm hS' hacc=>?_⟩
 show wpAny _ A (load L >>= _) _ _ s'
 refine zc8 (wpAny_load hS' ?_)
 have lo:ord.length=es.size:=by rw[pm.length_eq];simp
 have ea:acc.toList=ord:=by
  refine List.ext_getElem? fun i=>?_
  rcases zg9 i es.size with hi|hi
  ·have h1:i<acc.size:=by rw[hacc.1];exact hi
   have:=hacc.2 i acc[i] (zi0 h1)
   rw[this]
   simp[h1]
  ·rw[zo7 (by simp[hacc.1];exact hi),zo7 (by omega)]
 have cl:∀{c:Addr} {u:Obj},s.heap.get? c=some u→c<L:=fun e=>by rw[←hS];exact zd9 e
 have q:=h s'.heap s'.drawn s'.toks ord (by rw[hS];exact zd9 hS') (fun c u e=>hm.heap c u (fun z=>?_) (oth c u (ze5 (cl e)) (k2 _ _ (k1 _ _ e)))) pm
 ·refine zd0 ?_
  show Q acc.toList s'
  rw[ea]
  obtain⟨hp,g,dr,tk,os⟩:=s'
  have eg:g=s.gens:=hm.gens
  have eo:os=s.os:=hm.os
  subst eg eo
  exact q
 ·simp only[zc9,zd4,zf4] at z
  rcases z with z|z
  ·exact ze5 (cl e) z
  ·have h1':h1.objs.size≤I:=hI
   rw[sz1] at h1'
   have:=cl e
   rw[z] at this
   exact absurd (zf3 (zj1 this) h1') (zl0 _)
theorem qK :∀{F ms:List Int},F.Nodup→(∀k∈F,k∈ms)→ms.length=F.length→ms.Perm F
 |[],ms,_,_,e=>by rw[zo0.mp e]
 |k::F,ms,nd,sb,e=>by
  have hk:=sb k zd7
  have p1:=List.perm_cons_erase hk
  obtain⟨n1,n2⟩:=zn0.mp nd
  have p2:=qK (ms:=ms.erase k) n2 (fun j hj=>(List.mem_erase_of_ne (fun z:j=k=>n1 (z▸hj))).mpr (sb j (zd2 _ hj))) (by
   have:=p1.length_eq
   simp only[ze7] at this e
   omega)
  exact p1.trans (p2.cons k)
theorem wA (val:Nat→Int):∀n,(firstMet val n).Nodup
 |0=>.nil
 |n+1=>by
  rw[firstMet_succ]
  unfold step_dedup
  split
  ·exact wA val n
  ·rename_i h
   rw[List.nodup_append]
   refine⟨wA val n,by simp,fun x hx y hy e=>?_⟩
   rw[zg8.mp hy] at e
   exact h (List.any_eq_true.mpr ⟨x,hx,by simp[e]⟩)
theorem mj :∀(l:List (Int×Value)),(∀e∈l,∃k,(intKind prog w).is k e.2=true)→∃ms:List Int,IntsAre (l.map (·.2)) ms∧∀k,k∈ms↔∃e∈l,(intKind prog w).is k e.2=true
 |[],_=>⟨[],.nil,fun k=>by simp⟩
 |e::l,h=>by
  obtain⟨ms,h1,h2⟩:=mj l fun x hx=>h x (zd2 _ hx)
  obtain⟨k,hk⟩:=h e zd7
  obtain⟨t,ht⟩:=Value.isInt_shape hk
  refine⟨k::ms,?_,fun j=>?_⟩
  ·rw[zg0,ht]
   exact .cons k t h1
  ·rw[zc9,h2]
   constructor
   ·rintro (rfl|⟨x,hx,q⟩)
    ·exact⟨e,zd7,hk⟩
    ·exact⟨x,zd2 _ hx,q⟩
   ·rintro⟨x,hx,q⟩
    rcases zc9.mp hx with rfl|hx
    ·exact .inl ((intKind prog w).inj _ _ _ q hk)
    ·exact .inr ⟨x,hx,q⟩
theorem mN :∀{vs us:List Value} {ms:List Int},us.Perm vs→IntsAre vs ms→∃ns,IntsAre us ns∧ns.Perm ms:=by
 intro vs us ms p
 induction p generalizing ms with
 |nil=>intro h;exact⟨ms,h,.refl _⟩
 |cons x p ih=>
  intro h
  cases h with
  |cons k t h=>
   obtain⟨ns,h1,h2⟩:=ih h
   exact⟨k::ns,.cons k t h1,h2.cons k⟩
 |swap x y l=>
  intro h
  cases h with
  |cons k t h=>
   cases h with
   |cons k' t' h=>exact⟨k'::k::_,.cons k' t' (.cons k t h),.swap k k' _⟩
 |trans p1 p2 ih1 ih2=>
  intro h
  obtain⟨ns,h1,h2⟩:=ih2 h
  obtain⟨ns',h3,h4⟩:=ih1 h1
  exact⟨ns',h3,h4.trans h2⟩
theorem pU {F:List Int}{Q:Value→Shared→Prop}(hh:A.handled=none)(hoa:s.heap.get? a=some o)(x:WkO prog w o S m (yO w) es ep t)(hF:F.Nodup)(hS:∀k,S k=F.any (· == k))(hm:m=F.length)(h64:F.length<64)
  (h:∀(h':Heap) d (tk:Nat) (L:Addr) (out:Array Value) (c:Nat) (ns:List Int),s.heap.objs.size≤L→(∀c u,s.heap.get? c=some u→h'.get? c=some u)→h'.get? L=some (seqObj "list" out c)→IntsAre out.toList ns→ns.Perm F→ns.Pairwise (·≤·)→Q (.ref L) {s with heap:=h',drawn:=d,toks:=tk}):
  wpAny (model prog w) A (call (.builtin "sorted") [.ref a]) Q E s:=by
 obtain⟨ms,im,mm⟩:=mj (prog:=prog) (w:=w) es.toList x.el.keys
 have lm:ms.length=es.size:=by have:=IntsAre.length im;simp at this;omega
 have pF:ms.Perm F:=qK hF (fun k hk=>(mm k).mpr ((x.mem k).mp (by rw[hS];exact List.any_eq_true.mpr ⟨k,hk,by simp⟩))) (by rw[lm,x.sz,hm])
 refine Calls.call_function_entry kind_sorted plain_sorted entry_sorted (args_sorted1 _) ?_
 unfold Builtin.«sorted»
 refine zc8 (m:=checkCount "sorted" 1 1 _) (zd0 ?_)
 refine zc8 (qO (by simp[hh]) hoa x fun h1 d tk ord sz k1 po=>?_)
 obtain⟨ns0,i0,p0⟩:=mN po im
 have l0:ord.length<64:=by
  have:=po.length_eq
  have:=pF.length_eq
  simp at *
  omega
 refine zc8 (wpAny_newList ?_)
 have hoL:(h1.push (seqObj "list" ord.toArray 0)).get? h1.objs.size=some (seqObj "list" ord.toArray 0):=ze1 _ rfl
 refine zc8 (zk5 (zj9 slot_list_sort ⟨_,hoL,rfl⟩ entry_list_sort (list_sort_tree hoL i0 l0 fun out ns' a1 a2 a3=>⟨_,rfl,?_⟩) (args_list_sort _)))
 obtain⟨e,he⟩:=sortedHeap_at (out:=out) hoL
 refine zd0 ⟨_,rfl,h _ d tk h1.objs.size out e ns' (zh2 sz) (fun c u hc=>?_) he a1 (a2.trans (p0.trans pF)) a3⟩
 have h2:=k1 c u hc
 have hlt:=zd9 h2
 rw[sortedHeap_old (ze5 hlt) (by rw[size_push'];exact zj1 hlt)]
 exact zd3 _ h2
end
end SetW
namespace L2
open PySem PySem.Spec PyProof.Rows SetW
section
variable {X:Cx}{α:Ev}{e:Expr}{pos p p2 pos2:Pos}
abbrev wJ (zs:List Int):List Int:=firstMet (fun i=>zs.getD i 0) zs.length
theorem Inv.drw {pins:List (Addr×Obj)}{σ:List (Option V)}{H:Hp}{s:Shared}(I:Inv X pins σ H s)(d:Drawn):Inv X pins σ H {s with drawn:=d}:=⟨I.ok,I.os,I.bare,I.base,I.loc,I.cell,I.free,I.freeC,I.pin,I.hok,I.len⟩
def SW (P:Program)(w:World)(o:Obj)(zs:List Int):Prop:=∃es ep t,WkO P w o (fun k=>(wJ zs).any (· == k)) (wJ zs).length (yO w) es ep t
theorem mV (hc:X.calm=true):xZ X (.type "set") (fun xs H Q=>∃(l:Addr) (zs:List Int),xs=[.ref l]∧H l=some (.lst (zs.map V.int))∧zs.length<1000∧∀(l':Addr) (o:Obj),H l'=none→SW X.prog X.w o zs→Q (.ref l') (upd H l' (.frz o (.set (fun k=>(wJ zs).any (· == k)) (wJ zs).length)))):=by
 intro pins s σ H xs us Q I r h
 obtain⟨l,zs,rfl,hl,h64,q⟩:=h
 obtain⟨u,rfl,rx⟩:=vals1 r
 cases rx
 obtain⟨its,rv,pl,hz⟩:=I.list (SqL.of hl)
 have l1:=rv.length
 rw[zd5] at l1
 have sz:its.toArray.size=zs.length:=by simp[l1]
 refine dz (its:=its.toArray) (ns:=zs) (I.ok.hd hc) pl.isList (by simpa using intsAre_of rv) (by rw[sz];unfold scanBound;omega) fun h' tk hS hk=>?_
 rw[sz] at hS
 obtain⟨o,es,ep,t,ho,x⟩:=hS
 exact⟨.ref s.heap.objs.size,_,I.laid (o:=.frz o (.set _ _)) (t':=tk) (fun b u e=>hk b u (zd9 e) e) (zd6 _) ⟨ho,o,es,ep,t,ho,x.ex,x.dt,x.el,x.mem,x.sb,x.fit,x.sz⟩,rfl,q _ o (I.hok.fresh (zd6 _)) ⟨es,ep,t,x⟩⟩
theorem rF (hc:X.calm=true):xZ X (.builtin "sorted") (fun xs H Q=>∃(l:Addr) (o:Obj) (u:HO) (zs:List Int),xs=[.ref l]∧H l=some (.frz o u)∧SW X.prog X.w o zs∧zs.length<64∧∀(l':Addr) (ys:List Int),H l'=none→ys.Perm (wJ zs)→ys.Pairwise (·≤·)→Q (.ref l') (upd H l' (.lst (ys.map V.int)))):=by
 intro pins s σ H xs us Q I r h
 obtain⟨l,o,u,zs,rfl,hl,⟨es,ep,t,x⟩,h64,q⟩:=h
 obtain⟨v,rfl,rx⟩:=vals1 r
 cases rx
 have ho:s.heap.get? l=some o:=(show s.heap.get? l=some o∧_ from I.hok l _ hl).1
 have lm:(wJ zs).length≤zs.length:=firstMet_length_le _ _
 refine pU (F:=wJ zs) (I.ok.hd hc) ho x (wA _ _) (fun _=>rfl) rfl (by omega) fun h' d tk L out c ns sz kp hL a1 a2 a3=>?_
 have I':=I.laid (a:=L) (o:=.lst (ns.map V.int)) (t':=tk) kp sz ⟨by rw[zd5,a2.length_eq,sizeLine_eq];omega,out.toList,c,rB a1,by simpa using hL⟩
 exact⟨.ref L,_,I'.drw d,rfl,q _ ns (I.hok.fresh sz) a2 a3⟩
theorem gj {zs:List Int}{k:Int}:k∈wJ zs↔k∈zs:=by
 have h1:k∈wJ zs↔(wJ zs).any (· == k)=true:=by simp
 rw[h1,firstMet_any]
 simp only[List.any_eq_true,List.mem_map,List.mem_range,zm2]
 constructor
 ·rintro⟨x,⟨i,hi,rfl⟩,rfl⟩
  rw[List.getD_eq_getElem?_getD,zd8 hi]
  exact zj7 hi
 ·intro hk
  obtain⟨i,hi,e⟩:=zm8 hk
  exact⟨k,⟨i,hi,by rw[List.getD_eq_getElem?_getD,zd8 hi];exact e⟩,rfl⟩
theorem tV {Q:List PyData→Prop}(hc:X.calm=true)(hgs:Gl X "sorted")(hms:X.mg "sorted"=none)(hg:Gl X "set")(hm:X.mg "set"=none)(h:EvD X α e fun x=>∃zs:List Int,x=.list (zs.map .int)∧zs.length<64∧∀ys:List Int,(∀k,k∈ys↔k∈zs)→ys.Pairwise (·<·)→ys.length≤zs.length→Q (ys.map .int))
  (he:starEach [e] X.env=(false,eval e X.env)::starEach [] X.env:=by rfl) (he2:starEach [.Call (.Name "set" p) [e] [] pos] X.env=(false,eval (.Call (.Name "set" p) [e] [] pos) X.env)::starEach [] X.env:=by rfl):
  EvL X α (.Call (.Name "sorted" p2) [.Call (.Name "set" p) [e] [] pos] [] pos2) Q:=fun F σ H R m k=>by
 refine⟨_,yv (rF hc) hgs hms boot_sorted (ze (lG (mV hc) hg hm PyProof.Rows.boot_set (ze zi zv he) (he:=he)) zv he2) (he:=he2),?_⟩
 refine h F σ H _ m fun x vx H1 q1 t1 k1 r1=>?_
 obtain⟨zs,rfl,h64,q⟩:=q1
 have m1:=m.kz k1 t1
 obtain⟨l,xs,rfl,h1,h2⟩:=r1.lst_inv
 have h3:=(zf h1).2
 rw[h2.intsV] at h3
 refine⟨l,zs,rfl,h3,by omega,fun l' o hl' sw=>?_⟩
 have t2:=t1.same (zM (o:=.frz o (.set (fun k=>(wJ zs).any (· == k)) (wJ zs).length)) hl')
 have k2:=k1.trans (Kz.of_same (F:=F) (zM (o:=.frz o (.set (fun k=>(wJ zs).any (· == k)) (wJ zs).length)) hl'))
 have m2:=m.kz k2 t2
 refine⟨l',o,_,zs,rfl,zh,sw,h64,fun l2 ys hl2 pm pw=>?_⟩
 have ly:ys.length≤zs.length:=by rw[pm.length_eq];exact firstMet_length_le _ _
 have nd:ys.Nodup:=pm.nodup_iff.mpr (wA _ _)
 have pl:ys.Pairwise (·<·):=by
  have:=pw.and nd
  exact this.imp fun {a b} z=>by omega
 have av:AVs (Gz F α σ (upd H1 l' (.frz o (.set (fun k=>(wJ zs).any (· == k)) (wJ zs).length)))) (ys.map V.int) (ys.map .int):=by
  clear pm pw nd pl ly
  induction ys with
  |nil=>exact .nil
  |cons y ys ih=>exact .cons (.int y) ih
 obtain⟨g1,g2,g3⟩:=m2.lay hl2 av
 exact k _ _ _ (q ys (fun j=>pm.mem_iff.trans gj) pl ly) g1 (k2.trans g2) (g3.back m k2 t2)
end
def Itk (tb:List (Str×V)):It:=⟨fun i _=>i<tb.length,fun i H x H'=>H'=H∧∃p,tb[i]?=some p∧x=.str p.1,fun i _=>tb.length≤i⟩
def tY (K:PySem.W.Frag)(w:World)(d:Addr)(tb:List (Str×V))(n:Nat):Prop:=∃es,K.lookup d=some ⟨.type "dict",none,.dict es n,#[]⟩∧EnS w es.toList tb∧(tb.map (·.1)).Nodup
section
variable {X:Cx}{tg:Expr}
theorem tY.at {K:PySem.W.Frag}{P:Program}{w:World}{d:Addr}{tb:List (Str×V)}{n:Nat}(hd:tY K w d tb n){h:Heap}(k:K.In h):∃kvs:List (Str×Value),h.DictAt (PySem.strKind P w) d kvs n∧kvs.map (·.1)=tb.map (·.1):=by
 obtain⟨es,hl,he,hn⟩:=hd
 exact⟨_,⟨_,es,k _ _ hl,⟨rfl,rfl,rfl⟩,rfl,fun e he'=>uS he e (by simpa using he'),vR he,by rw[uB he];exact hn⟩,uB he⟩
theorem oE {P:Program}{w:World}{K:PySem.W.Frag}{d:Addr}{tb:List (Str×V)}{n:Nat}(hd:tY K w d tb n)(it:Addr):Turn P w K tg (Itk tb) [it] it (fun i h=>h.IsKeyIter it d i tb.length n) where
 mem:=by simp
 obj:=fun i h st b hb=>by
  have e:b=it:=by simpa using hb
  subst e
  obtain⟨o,e,c,dd⟩:=st
  exact⟨o,e,fun v z=>by rw[dd] at z;cases z⟩
 keep:=fun i h h' st k=>by
  obtain⟨o,e,r⟩:=st
  exact⟨o,k it (by simp) o e,r⟩
 item:=by
  intro X hP hw hK hc i pins s σ H E I hf st hg
  subst hP hw hK
  obtain⟨kvs,da,ek⟩:=hd.at (P:=X.prog) I.kIn
  have lk:kvs.length=tb.length:=by have:=congrArg List.length ek;simpa using this
  have hi:i<tb.length:=hg
  have hi':i<kvs.length:=by omega
  obtain⟨f0,f1,f2,f3,f4,f5⟩:=hf it (by simp)
  rw[←lk] at st
  refine wpAny_pyNext_dict_item st da (k:=kvs[i].1) (v:=kvs[i].2) (zd8 hi') fun key h' hk st' sb=>?_
  have I1:Inv X pins σ H {s with heap:=h'}:=I.turned (t':=s.toks) (fun b o hb e=>(sb.2 b hb).trans e) f0 f1 f3 f4 f5
  obtain⟨o,e,c,dd⟩:=id st'
  rw[lk] at st'
  have ew:kvs[i].1=tb[i].1:=by
   have h1:(kvs.map (·.1))[i]?=(tb.map (·.1))[i]?:=by rw[ek]
   rw[ze4,ze4,zd8 hi',zd8 hi] at h1
   simpa using h1
  have hkey:∃t,key=.str tb[i].1 t:=by
   rw[ew] at hk
   cases key with
   |str x t=>
    have hk':(x == tb[i].1)=true:=by simpa[PySem.strKind,Value.isStrOf] using hk
    exact⟨t,by rw[eq_of_beq hk']⟩
   |_=>simp[PySem.strKind,Value.isStrOf] at hk
  obtain⟨t,rfl⟩:=hkey
  exact⟨_,rfl,qJ (s:={s with heap:=h'}) e c dd (by decide) ⟨.str tb[i].1,H,I1,⟨t,rfl⟩,⟨rfl,_,zd8 hi,rfl⟩,st',fun b hb=>(hf b hb).1⟩⟩
 done:=by
  intro X hP hw hK hc i pins s σ H E I hf st hg
  subst hP hw hK
  obtain⟨kvs,da,ek⟩:=hd.at (P:=X.prog) I.kIn
  have lk:kvs.length=tb.length:=by have:=congrArg List.length ek;simpa using this
  have hi:tb.length≤i:=hg
  obtain⟨f0,f1,f2,f3,f4,f5⟩:=hf it (by simp)
  rw[←lk] at st
  exact wpAny_pyNext_dict_end (I.ok.hd hc) st da (zo7 (by omega)) fun h' eb=>⟨rfl,I.turned (t':=s.toks) (fun b o hb e=>eb b o hb e) f0 f1 f3 f4 f5⟩
 self:=fun _ _ _ _ _ st h=>wpAny_pyIter_keyiter st h
theorem iP {g:Str}{p:Pos}{d:Addr}{tb:List (Str×V)}{n:Nat}(hg:Gl X g)(hm:X.mg g=some (.ref d))(hd:tY X.K X.w d tb n)(hs:(d == sysModules)=false)(hb:(g == ("__debug__":Str))=false:=by decide):PI X tg (.Name g p) (fun _ H R=>R (Itk tb) H):=by
 intro pins s σ H R I h
 refine vG I hg hm ?_ hb
 obtain⟨kvs,da,ek⟩:=hd.at (P:=X.prog) I.kIn
 have lk:kvs.length=tb.length:=by have:=congrArg List.length ek;simpa using this
 refine wpAny_pyIter_dict hs da ?_
 rw[lk]
 refine⟨s.heap.objs.size,[s.heap.objs.size],_,_,H,rfl,I.kept (t':=s.toks) fun b o e=>zd3 _ e,oE hd _,⟨_,ze1 _ rfl,rfl,rfl⟩,fun b hb=>?_,h⟩
 rw[zg8.mp hb]
 exact I.fpOk (zd6 _) (I.hok.fresh (zd6 _))
theorem iD {α:Ev}{g:Str}{p:Pos}{d:Addr}{tb:List (Str×V)}{n:Nat}{Q:List PyData→Prop}(hg:Gl X g)(hm:X.mg g=some (.ref d))(hd:tY X.K X.w d tb n)(hs:(d == sysModules)=false)(q:Q (tb.map fun p=>.str p.1))(hb:(g == ("__debug__":Str))=false:=by decide):EvI X α tg (.Name g p) Q:=fun F σ H R m k=>by
 refine⟨_,iP hg hm hd hs hb,?_⟩
 refine k _ _ H q m.tp Kz.refl fun i H2 p s=>⟨fun d hd=>?_,fun hl=>?_⟩
 ·rw[ze4,zf0] at hd
  obtain⟨e,he,rfl⟩:=hd
  refine⟨(zd1.mp he).1,fun x' H3 y=>?_⟩
  obtain⟨rfl,e',he',rfl⟩:=y
  rw[he] at he';cases he'
  exact⟨zx.refl _,fun _=>.str _⟩
 ·have:tb.length≤i:=by simpa using hl
  exact this
end
section
variable {X:Cx}{α:Ev}{e1 e2 e3 e4 e5 b:Expr}{pos p p1 p2 p3 p4 p5:Pos}{n1 n2 n3 n4 n5:Nat}{k1 k2 k3 k4 k5:Str}{Q:PyData→Prop}
theorem tU {H G:Hp}{v:V}{d:PyData}(h:AV H v d)(s:(scV d).isSome=true):AV G v d:=by
 cases d with
 |none=>cases h;exact .non
 |bool c=>cases h;exact .bl c
 |int i=>cases h.int_inv;exact .int i
 |str x=>cases h.str_inv;exact .str x
 |_=>cases s
def dq (k1 k2 k3 k4 k5:Str)(d1 d2 d3 d4 d5:PyData):List (PyData×PyData):=putD (putD (putD (putD (putD [] (.inr k1) d1) (.inr k2) d2) (.inr k3) d3) (.inr k4) d4) (.inr k5) d5
theorem fY (hu:X.A.units+1<cLine)(h:EvD X α e1 fun d1=>(scV d1).isSome=true∧EvD X α e2 fun d2=>(scV d2).isSome=true∧EvD X α e3 fun d3=>(scV d3).isSome=true∧EvD X α e4 fun d4=>(scV d4).isSome=true∧EvD X α e5 fun d5=>(scV d5).isSome=true∧EvD X α b fun y=>∃x d,y=.str x∧tN (dq k1 k2 k3 k4 k5 d1 d2 d3 d4 d5) (.inr x)=some d∧Q d)(hs:lX b:=by exact fun _ _=>rfl):
  EvD X α (.Subscript (.Dict [some (.Constant (.str k1) n1 p1),some (.Constant (.str k2) n2 p2),some (.Constant (.str k3) n3 p3),some (.Constant (.str k4) n4 p4),some (.Constant (.str k5) n5 p5)] [e1,e2,e3,e4,e5] p) b pos) Q:=fun F σ H R m kk=>by
 refine⟨_,gI hu (gf (we zI zi (we zI zi (we zI zi (we zI zi (we zI zi fF))))) rfl rfl (List.cons_ne_nil _ _) (by show 5≤15;decide)) zi hs,fun l hl=>?_⟩
 have s0:zx H (upd H l (.dK [])):=zM hl
 have m0:=m.park (Kz.of_same s0) (m.tp.same s0) hl zh (fun _ z=>by cases z)
 refine h _ σ _ _ m0 fun d1 v1 H1 q1 t1 z1 r1=>?_
 have m1:=m0.kz z1 t1
 obtain⟨c1,q1⟩:=q1
 refine q1 _ σ H1 _ m1 fun d2 v2 H2 q2 t2 z2 r2=>?_
 have m2:=m1.kz z2 t2
 obtain⟨c2,q2⟩:=q2
 refine q2 _ σ H2 _ m2 fun d3 v3 H3 q3 t3 z3 r3=>?_
 have m3:=m2.kz z3 t3
 obtain⟨c3,q3⟩:=q3
 refine q3 _ σ H3 _ m3 fun d4 v4 H4 q4 t4 z4 r4=>?_
 have m4:=m3.kz z4 t4
 obtain⟨c4,q4⟩:=q4
 refine q4 _ σ H4 _ m4 fun d5 v5 H5 q5 t5 z5 r5=>?_
 obtain⟨c5,q5⟩:=q5
 have nl:¬Ow F α σ l:=m.fresh hl
 have ntl:NT F l:=m.tp.nt (ow0 nl)
 have kz:∀x o,upd H l (.dK []) x=some o→NT F x→H5 x=some o:=fun x o e n=>z5 _ _ (z4 _ _ (z3 _ _ (z2 _ _ (z1 _ _ e n) n) n) n) n
 have e5:H5 l=some (.dK []):=kz _ _ zh ntl
 have tF:zF F H5:=m.tp.re t5 rfl
 refine⟨e5,[(.inr k1,v1),(.inr k2,v2),(.inr k3,v3),(.inr k4,v4),(.inr k5,v5)],rfl,by show 5≤15;decide,?_⟩
 have av:∀G:Hp,AVk G (xP [] [(.inr k1,v1),(.inr k2,v2),(.inr k3,v3),(.inr k4,v4),(.inr k5,v5)]) (dq k1 k2 k3 k4 k5 d1 d2 d3 d4 d5):=fun G=>((((AVk.put .nil (tU r1 c1)).put (tU r2 c2)).put (tU r3 c3)).put (tU r4 c4)).put (tU r5 c5)
 have t6:=tF.updO (ow0 nl) (qM e5) (o:=.dK (xP [] [(.inr k1,v1),(.inr k2,v2),(.inr k3,v3),(.inr k4,v4),(.inr k5,v5)]))
 have k6:Kz F H (upd H5 l (.dK (xP [] [(.inr k1,v1),(.inr k2,v2),(.inr k3,v3),(.inr k4,v4),(.inr k5,v5)]))):=fun x o e n=>by
  have nx:x≠l:=fun z=>by rw[z,hl] at e;cases e
  rw[zj nx]
  exact kz _ _ (s0 _ _ e) n
 have m6:=m.kz k6 t6
 refine q5 F σ _ _ m6 fun y vy H7 q7 t7 z7 r7=>?_
 obtain⟨x,d,rfl,hv,q⟩:=q7
 cases r7.str_inv
 have e7:H7 l=some (.dK (xP [] [(.inr k1,v1),(.inr k2,v2),(.inr k3,v3),(.inr k4,v4),(.inr k5,v5)])):=z7 _ _ zh ntl
 obtain⟨v,w1,w2⟩:=(av (Gz F α σ H7)).get hv
 exact⟨l,v,rfl,.inl ⟨_,.inr x,.inl e7,rfl,w1.symm⟩,kk d v H7 q t7 (k6.trans z7) w2⟩
end
end L2
set_option maxHeartbeats 4000000
namespace K73
open PySem PySem.Spec PyProof.Rows L2
def top (i:Nat):Stmt:=PySem.Challenge.pw_stayprice_k73_tidied.main.body.getD i (.Pass ⟨0,0,0,0⟩)
abbrev kH :Stmt:=top 42
abbrev oq :Stmt:=top 41
def nj :List A→(A→Prop)→Prop:=fun as Q=>∃c:Int,as=[.dat (.int c)]∧∀x y:Int,0≤y→y<4294967296→Q (.own [.int x,.int y])
section
variable {P:Program}{w:World}{K:PySem.W.Frag}{mg:Str→Option Value}{base:Heap}
theorem oG :zl ["_law_row","_law_base","_law_found","_law_number"] ["_law_row","_law_base"] (zc kH):=⟨rfl,rfl,rfl,by decide +kernel,rfl,by decide +kernel,by decide +kernel⟩
theorem fg {f:Addr}{fd:FuncData}(F:Fun K "_law_take" "_law_take" kH f fd):zB P w K mg base CX0 1 f fd ["_law_row","_law_base"] kU:=by
 refine F.ok oG (fun vs H Q E h=>?_) (fun cdv A outer s H vs Q E hr h=>?_)
 ·obtain⟨t,b,c,many,rfl,_⟩:=h
  rfl
 ·obtain⟨t,b,c,many,rfl,⟨n,bs,cs,⟨eb,ec⟩,ht,hb,hc,⟨x,y,rfl,y0,y1⟩,hn⟩,hm0,hm1,k⟩:=h
  rw[eb,ec] at k
  have hlog:many.natAbs.log2<9000:=log2_small hm0 hm1
  have ht:H t=some (.lst [.int x,.int y]):=ht
  refine yf (fun σ H3=>σ=[some (.ref t),some (.int many),none,none]∧H=H3)
   ⟨_,xq (yk dh (yi yU (pv 0) zw (fun _ _=>rfl)) zw (zH _))
    (zJ (rJ (i:=2) oG.nd rfl (Or.inl rfl) (yN tP (yi yU (pv 0) zw (fun _ _=>rfl)) (pv 1)))
    (zJ (kx (yN tD (yi yU (pv 0) zw (fun _ _=>rfl)) (pv 1)) (kE (pv 0) zw set_list))
    (zt (zz (pv 2))))) yr,?_⟩ ?_
  ·refine⟨_,rfl,t,_,0,_,rfl,rfl,SqL.of ht,rfl,_,_,rfl,rfl,_,rfl,?_⟩
   refine yu (fun _=>?_) (fun _=>⟨rfl,rfl⟩)
   refine⟨_,rfl,t,_,0,_,rfl,rfl,SqL.of ht,rfl,_,rfl,_,_,rfl,rfl,hm0,?_⟩
   refine⟨_,rfl,t,_,0,_,rfl,rfl,SqL.of ht,rfl,_,rfl,_,_,rfl,rfl,⟨hm0,hlog⟩,?_⟩
   refine⟨_,rfl,t,_,0,0,rfl,rfl,ht,rfl,_,rfl,?_⟩
   refine k _ _ (zp3 _ (Int.ne_of_gt hm0)) (zn6 _ hm0) ⟨0,[x / many,y],[x / many,y],⟨rfl,rfl⟩,zh,zh,zh,⟨_,_,rfl,y0,y1⟩,rfl⟩ fun a h1 h2=>by rw[zj h1]
  rintro σ H3 ⟨rfl,rfl⟩
  refine yf (fun σ H1=>∃z:Int,0≤z∧z<2147483647∧σ=[some (.ref t),some (.int many),none,none]∧H1=upd H t (.lst [.int x,.int z]))
   ⟨_,kx (yN tP (yN rT (yN qr (yi yU (pv 0) zw (fun _ _=>rfl)) zw) zw) zw) (kE (pv 0) zw set_list),?_⟩ ?_
  ·refine⟨_,rfl,t,_,1,_,rfl,rfl,SqL.of ht,rfl,_,_,rfl,rfl,.inl ⟨by omega,by omega⟩,_,_,rfl,rfl,_,_,rfl,rfl,(by show (0:Int)<2147483647;decide),?_⟩
   exact⟨_,rfl,t,_,1,1,rfl,rfl,ht,rfl,_,zp3 _ (by decide),zn6 _ (by decide),rfl,rfl⟩
  rintro σ H1 ⟨z,z0,z1,rfl,hH1⟩
  have ht1:H1 t=some (.lst [.int x,.int z]):=by rw[hH1];exact zh
  have off:bh t t H H1:=fun a h1 _=>by rw[hH1,zj h1]
  clear hH1
  refine yf (fun σ H2=>∃u:Int,σ=[some (.ref t),some (.int many),none,some (.int u)]∧H1=H2)
   ⟨_,rJ (i:=3) oG.nd rfl (Or.inl rfl) (yN tP (yN rT (yN rT (yN qr (yi yU (pv 0) zw (fun _ _=>rfl)) (yi yU (pv 0) zw (fun _ _=>rfl))) (yN qr zw (yi yU (pv 0) zw (fun _ _=>rfl)))) zw) zw),?_⟩ ?_
  ·exact⟨_,rfl,t,_,1,_,rfl,rfl,SqL.of ht1,rfl,_,rfl,t,_,1,_,rfl,rfl,SqL.of ht1,rfl,_,_,rfl,rfl,.inl ⟨by omega,by omega⟩,_,rfl,t,_,1,_,rfl,rfl,SqL.of ht1,rfl,_,_,rfl,rfl,.inl ⟨by decide,by decide⟩,_,_,rfl,rfl,_,_,rfl,rfl,_,_,rfl,rfl,(by show (0:Int)<2147483629;decide),_,rfl,rfl⟩
  rintro σ H2 ⟨u,rfl,rfl⟩
  refine⟨_,zt (zz (yN tP (yN tD (pv 3) zw) (pv 1))),?_⟩
  refine⟨_,rfl,_,_,rfl,rfl,⟨by decide,by decide +kernel⟩,_,rfl,_,_,rfl,rfl,hm0,?_⟩
  exact k _ _ (zp3 _ (Int.ne_of_gt hm0)) (zn6 _ hm0) ⟨0,[x,z],[x,z],⟨rfl,rfl⟩,ht1,ht1,ht1,⟨_,_,rfl,z0,by omega⟩,rfl⟩ off
theorem kG {f:Addr}{fd:FuncData}(hm:mg "_law_take"=some (.ref f))(hk:PySem.W.keepIn K (.ref f)=true)(hb:Binds K fd ["_law_row","_law_base"] [])(G:zB P w K mg base CX0 1 f fd ["_law_row","_law_base"] kU):Cal P w K mg base "_law_take" 1 xE:=by
 refine⟨f,fd,_,hm,hk,hb,G.imp fun vs H Q E h=>?_⟩
 obtain⟨F,as,Q',rfl,t,o,rv,⟨n,rfl,h0,h1,hq⟩,kk⟩:=h
 cases rv with
 |cons a1 r=>
  obtain⟨ta,b,c,e,rfl⟩:=a1
  obtain⟨v,rfl,av⟩:=r.one
  cases av.int_inv
  refine⟨ta,b,c,n,rfl,(t ta b c e).1,h0,h1,fun z H' z0 z1 TA off=>kk _ _ _ (hq z z0 z1) ⟨⟨(by
   obtain⟨_,_,_,_,e1,e2,_⟩:=(t ta b c e).1.ex
   exact ez t.tab e1 e2 off),t.ot,fun t' b' c' e'=>?_⟩,fun y u hy n=>?_,.int z⟩⟩
  ·rw[e] at e';cases e'
   exact⟨TA,(t ta b c e).2⟩
  ·rw[off y (n.1 _ _ _ e).1 (n.1 _ _ _ e).2];exact hy
theorem gE :zl ["_law_cell"] ["_law_cell"] (zc oq):=⟨rfl,rfl,rfl,by decide +kernel,rfl,by decide +kernel,by decide +kernel⟩
theorem km {f:Addr}{fd:FuncData}(F:Fun K "_law_begin" "_law_begin" oq f fd)(hm:mg "_law_begin"=some (.ref f))(hb:Binds K fd ["_law_cell"] []):Cal P w K mg base "_law_begin" 1 nj:=by
 refine vF F hm hb gE (fun as Q h=>?_) (fun cdv A' outer s H E as Q hr h=>?_)
 ·obtain⟨c,rfl,_⟩:=h
  rfl
 ·obtain⟨c,rfl,q⟩:=h
  refine xB (eR (zg 0 rfl (yJ (r:=1000000000000000000) ⟨by decide,by decide,by decide⟩ (by decide) ⟨_,_,rfl,rfl,?_⟩)))
  refine oM (fun _=>?_) (fun _=>zq ?_)
  ·exact uA (yh (zb (uY (zg 0 rfl (yJ (r:=1000000000000000000) ⟨by decide,by decide,by decide⟩ (by decide) ⟨_,_,rfl,rfl,zb (zo (zk ⟨_,rfl,ze2 rfl,q _ _ (by decide) (by decide)⟩))⟩)))))
  ·refine uA (yh (zb (zo (zb (yR (kL (zg 0 rfl (zo ⟨_,_,rfl,rfl,by decide,zo ⟨_,_,rfl,rfl,zk ⟨_,rfl,ze2 rfl,?_⟩⟩⟩))))))))
   have h1:=zp3 c (show (2147483629:Int)≠0 by decide)
   have h2:=zn6 c (show (0:Int)<2147483629 by decide)
   exact q _ _ (by omega) (by omega)
end
abbrev rz :Stmt:=top 3
abbrev rD :Stmt:=top 4
abbrev jM :Stmt:=top 5
abbrev cp :Stmt:=top 6
abbrev jr :Stmt:=top 7
abbrev tM :Stmt:=top 8
structure qA (mg:Str→Option Value)(fW fI fP fD fPD:Addr):Prop where
 isi:mg "isinstance"=none
 int:mg "int"=none
 bool:mg "bool"=none
 tuple:mg "tuple"=none
 len:mg "len"=none
 last:∃t,mg "LAST_DAY"=some (.int 1000000 t)
 most:∃t,mg "MOST_NIGHTS"=some (.int 14 t)
 whole:mg "is_whole"=some (.ref fW)
 within:mg "is_whole_within"=some (.ref fI)
 pair:mg "is_pair"=some (.ref fP)
 day:mg "is_day"=some (.ref fD)
 days:mg "is_pair_of_days"=some (.ref fPD)
section
variable {P:Program}{w:World}{K:PySem.W.Frag}{mg:Str→Option Value}{base:Heap}{fW fI fP fD fPD:Addr}
theorem gD :zl ["thing"] ["thing"] (zc rz):=⟨rfl,rfl,rfl,by decide +kernel,rfl,by decide +kernel,by decide +kernel⟩
theorem iJ {f:Addr}{fd:FuncData}(F:Fun K "is_whole" "is_whole" rz f fd)(T:qA mg fW fI fP fD fPD):zB P w K mg base CX0 1 f fd ["thing"] (yx oC):=by
 refine F.ok gD (fun vs H Q E h=>?_) (fun cdv A outer s H vs Q E hr h=>?_)
 ·obtain⟨x,d,rfl,_⟩:=h
  rfl
 ·obtain⟨x,d,rfl,hd,q⟩:=h
  refine⟨_,zt (zz (yS (yv xr (by rfl) T.isi zl2 (ze (pv 0) (ze (vH (v:=.ty "int") (by rfl) T.int boot_int rfl) zv)))
   (xm (cu (yv xr (by rfl) T.isi zl2 (ze (pv 0) (ze (vH (v:=.ty "bool") (by rfl) T.bool boot_bool rfl) zv))))))),?_⟩
  rw[kn] at q
  refine⟨_,rfl,x,"int",d,_,rfl,hd,fK d,_,rfl,?_⟩
  refine yu (fun h=>?_) (fun h=>?_)
  ·rw[h,zi2] at q
   exact⟨_,rfl,x,"bool",d,_,rfl,hd,tH d,_,rfl,q⟩
  ·rw[zf9.mpr h,zh3] at q
   exact q
theorem kQ :zl ["thing","lowest","highest"] ["thing","lowest","highest"] (zc rD):=⟨rfl,rfl,rfl,by decide +kernel,rfl,by decide +kernel,by decide +kernel⟩
theorem kh {f:Addr}{fd fdW:FuncData}(F:Fun K "is_whole_within" "is_whole_within" rD f fd)(T:qA mg fW fI fP fD fPD)(FW:Fun K "is_whole" "is_whole" rz fW fdW)(bW:Binds K fdW ["thing"] []):
  zB P w K mg base CX0 2 f fd ["thing","lowest","highest"] wo:=by
 have GW:zB P w K mg base CX0 1 fW fdW ["thing"] (yx oC):=iJ FW T
 refine F.ok kQ (fun vs H Q E h=>?_) (fun cdv A outer s H vs Q E hr h=>?_)
 ·obtain⟨x,d,lo,hi,rfl,_⟩:=h
  rfl
 ·obtain⟨x,d,lo,hi,rfl,hd,q⟩:=h
  refine⟨_,zt (zz (yS (zL GW hr (by rfl) T.whole FW.kp bW .nil zP (ze (pv 0) zv)) (xm (pH uM uM (pv 1) (pv 0) (pv 2))))),?_⟩
  refine⟨_,rfl,x,d,rfl,hd,_,rfl,?_⟩
  cases hd with
  |int i=>
   have q':Q (.bl (decide (lo≤i)&&decide (i≤hi))) H:=q
   refine ux ⟨_,rfl,_,rfl,_,_,rfl,rfl,_,rfl,?_⟩
   refine yu (fun h=>?_) (fun h=>?_)
   ·rw[h,zi2] at q'
    exact⟨_,rfl,_,_,rfl,rfl,q'⟩
   ·rw[zf9.mpr h,zh3] at q'
    exact q'
  |_=>exact uP q
theorem dF :zl ["thing"] ["thing"] (zc jM):=⟨rfl,rfl,rfl,by decide +kernel,rfl,by decide +kernel,by decide +kernel⟩
theorem gm {f:Addr}{fd:FuncData}(F:Fun K "is_pair" "is_pair" jM f fd)(T:qA mg fW fI fP fD fPD):zB P w K mg base CX0 1 f fd ["thing"] (yx pairD):=by
 refine F.ok dF (fun vs H Q E h=>?_) (fun cdv A outer s H vs Q E hr h=>?_)
 ·obtain⟨x,d,rfl,_⟩:=h
  rfl
 ·obtain⟨x,d,rfl,hd,q⟩:=h
  refine⟨_,zt (zz (yS (yv xr (by rfl) T.isi zl2 (ze (pv 0) (ze (vH (v:=.ty "tuple") (by rfl) T.tuple boot_tuple rfl) zv)))
   (xm (xH xS (yv xD (by rfl) T.len PySem.boot_len (ze (pv 0) zv)) zw (zH _))))),?_⟩
  refine⟨_,rfl,x,"tuple",d,_,rfl,hd,su d,_,rfl,?_⟩
  cases hd with
  |@tup a xs ds e hs=>
   refine ux ⟨_,rfl,a,_,rfl,.inr (SqT.of e),rfl,?_⟩
   rw[et,hs.length]
   exact q
  |_=>exact uP q
theorem aV :zl ["thing"] ["thing"] (zc cp):=⟨rfl,rfl,rfl,by decide +kernel,rfl,by decide +kernel,by decide +kernel⟩
theorem dB {f:Addr}{fd fdI:FuncData}(F:Fun K "is_day" "is_day" cp f fd)(T:qA mg fW fI fP fD fPD)(GI:zB P w K mg base CX0 2 fI fdI ["thing","lowest","highest"] wo)(kI:PySem.W.keepIn K (.ref fI)=true)(bI:Binds K fdI ["thing","lowest","highest"] []):
  zB P w K mg base CX0 3 f fd ["thing"] (yx vC):=by
 obtain⟨tl,hl⟩:=T.last
 refine F.ok aV (fun vs H Q E h=>?_) (fun cdv A outer s H vs Q E hr h=>?_)
 ·obtain⟨x,d,rfl,_⟩:=h
  rfl
 ·obtain⟨x,d,rfl,hd,q⟩:=h
  refine⟨_,zt (zz (zL GI hr (by rfl) T.within kI bI .nil zP (ze (pv 0) (ze zw (ze (wH (v:=.int 1000000) (by rfl) hl ⟨tl,rfl⟩) zv))))),?_⟩
  exact⟨_,rfl,x,d,_,_,rfl,hd,q⟩
theorem cV :zl ["thing"] ["thing"] (zc jr):=⟨rfl,rfl,rfl,by decide +kernel,rfl,by decide +kernel,by decide +kernel⟩
theorem ej {f:Addr}{fd fdP fdD:FuncData}(F:Fun K "is_pair_of_days" "is_pair_of_days" jr f fd)(T:qA mg fW fI fP fD fPD)(GP:zB P w K mg base CX0 1 fP fdP ["thing"] (yx pairD))(kP:PySem.W.keepIn K (.ref fP)=true)(bP:Binds K fdP ["thing"] [])
  (GD:zB P w K mg base CX0 3 fD fdD ["thing"] (yx vC)) (kD:PySem.W.keepIn K (.ref fD)=true) (bD:Binds K fdD ["thing"] []):zB P w K mg base CX0 4 f fd ["thing"] (yx tQ):=by
 refine F.ok cV (fun vs H Q E h=>?_) (fun cdv A outer s H vs Q E hr h=>?_)
 ·obtain⟨x,d,rfl,_⟩:=h
  rfl
 ·obtain⟨x,d,rfl,hd,q⟩:=h
  have hr1:zR 1 _:=hr.mono (by decide)
  refine⟨_,zt (zz (yS (zL GP hr1 (by rfl) T.pair kP bP .nil zP (ze (pv 0) zv))
   (yS (zL GD hr (by rfl) T.day kD bD .nil zP (ze (yi yn (pv 0) zw (fun _ _=>rfl)) zv))
   (xm (zL GD hr (by rfl) T.day kD bD .nil zP (ze (yi yn (pv 0) zw (fun _ _=>rfl)) zv)))))),?_⟩
  refine⟨_,rfl,x,d,rfl,hd,_,rfl,?_⟩
  refine yu (fun h=>?_) (fun h=>?_)
  ·obtain⟨a,b,rfl⟩:=ue h
   cases hd with
   |tup e hs=>
    cases hs with
    |cons ha hs=>
     cases hs with
     |cons hb hs=>
      cases hs
      have q':Q (.bl (vC a&&vC b)) H:=q
      refine⟨_,rfl,_,_,0,_,rfl,rfl,SqT.of e,rfl,_,_,rfl,ha,_,rfl,?_⟩
      refine yu (fun h=>?_) (fun h=>?_)
      ·rw[h,zi2] at q'
       exact⟨_,rfl,_,_,1,_,rfl,rfl,SqT.of e,rfl,_,_,rfl,hb,q'⟩
      ·rw[zf9.mpr h,zh3] at q'
       exact q'
  ·have e:tQ d=false:=by
    unfold tQ
    split
    ·exact absurd rfl h
    ·rfl
   rw[e] at q
   exact q
theorem kj :zl ["thing"] ["thing"] (zc tM):=⟨rfl,rfl,rfl,by decide +kernel,rfl,by decide +kernel,by decide +kernel⟩
theorem oN {f:Addr}{fd fdP:FuncData}(F:Fun K "is_stretch" "is_stretch" tM f fd)(T:qA mg fW fI fP fD fPD)(G:zB P w K mg base CX0 4 fPD fdP ["thing"] (yx tQ))(kP:PySem.W.keepIn K (.ref fPD)=true)(bP:Binds K fdP ["thing"] []):
  zB P w K mg base CX0 5 f fd ["thing"] (yx yb):=by
 refine F.ok kj (fun vs H Q E h=>?_) (fun cdv A outer s H vs Q E hr h=>?_)
 ·obtain⟨x,d,rfl,_⟩:=h
  rfl
 ·obtain⟨x,d,rfl,hd,q⟩:=h
  refine⟨_,zt (zz (yS (zL G hr (by rfl) T.days kP bP .nil zP (ze (pv 0) zv))
   (xm (xH uM (yi yn (pv 0) zw (fun _ _=>rfl)) (yi yn (pv 0) zw (fun _ _=>rfl)) (zH _))))),?_⟩
  refine⟨_,rfl,x,d,rfl,hd,_,rfl,?_⟩
  refine yu (fun h=>?_) (fun h=>?_)
  ·obtain⟨a,b,rfl,ef⟩:=oK h
   unfold yb at q
   rw[ef] at q
   have q':Q (.bl (decide (0≤b-a))) H:=q
   have eq1:decide (0≤b-a)=decide (a≤b):=by
    rw[decide_eq_decide]
    omega
   rw[eq1] at q'
   cases hd with
   |tup e hs=>
    cases hs with
    |cons ha hs=>
     cases ha
     cases hs with
     |cons hb hs=>
      cases hb
      cases hs
      exact⟨_,rfl,_,_,0,_,rfl,rfl,SqT.of e,rfl,_,rfl,_,_,1,_,rfl,rfl,SqT.of e,rfl,_,_,rfl,rfl,q'⟩
  ·rw[tK] at h
   unfold yb at q
   cases ef:tZ d with
   |some k=>rw[ef] at h;exact absurd rfl h
   |none=>
    rw[ef] at q
    exact q
end
abbrev nW :Stmt:=inClass (top 16) 0
abbrev jb :Stmt:=inClass (top 16) 2
abbrev pL :Stmt:=inClass (top 16) 3
abbrev qk :Stmt:=inClass (top 17) 0
abbrev nc :Stmt:=inClass (top 18) 0
abbrev cU :Stmt:=inClass (top 19) 0
abbrev sW :Stmt:=inClass (top 20) 0
abbrev oZ :Stmt:=inClass (top 21) 0
abbrev oi :Stmt:=inClass (top 22) 0
abbrev ja :Stmt:=inClass (top 23) 0
abbrev pR :Stmt:=top 25
abbrev sY :Stmt:=top 26
abbrev oW :Stmt:=top 27
abbrev rm :Stmt:=top 28
abbrev jk :Stmt:=top 29
abbrev qi :Stmt:=top 30
structure pY (mg:Str→Option Value)(fW fI fP fD fPD fS fC fDl fWo fR fM:Addr)(cs:Cs):Prop where
 d:qA mg fW fI fP fD fPD
 coinsMost:∃t,mg "MOST_COINS"=some (.int 1000000000000 t)
 stretch:mg "is_stretch"=some (.ref fS)
 coins:mg "is_coins"=some (.ref fC)
 deal:mg "is_deal"=some (.ref fDl)
 worth:mg "is_worth"=some (.ref fWo)
 rule:mg "is_rule"=some (.ref fR)
 made:mg "made"=some (.ref fM)
 cPrice:mg "Price"=some (.ref cs.price)
 cCome:mg "Come"=some (.ref cs.come)
 cGo:mg "Go"=some (.ref cs.go)
 cLeast:mg "Least"=some (.ref cs.least)
 cMost:mg "Most"=some (.ref cs.most)
 cDeal:mg "Deal"=some (.ref cs.deal)
 cFee:mg "Fee"=some (.ref cs.fee)
section
variable {P:Program}{w:World}{K:PySem.W.Frag}{mg:Str→Option Value}{base:Heap}{fW fI fP fD fPD fS fC fDl fWo fR fM:Addr}{cs:Cs}
theorem cc :zl ["self","first","last","worth"] ["self","first","last","worth"] (zc nW):=⟨rfl,rfl,rfl,by decide +kernel,rfl,by decide +kernel,by decide +kernel⟩
theorem xO {f C fT fE fWd:Addr}{fd:FuncData}(F:Fun K "__init__" "Rule.__init__" nW f fd)(R:xl K C f fT fE fWd):zB P w K mg base CX0 1 f fd ["self","first","last","worth"] (cE C):=by
 refine F.ok cc (fun vs H Q E h=>?_) (fun cdv A outer s H vs Q E hr h=>?_)
 ·obtain⟨p,dx,x,y,z,rfl,_⟩:=h
  rfl
 ·obtain⟨p,dx,x,y,z,rfl,hp,q⟩:=h
  refine⟨_,zJ (qo (pv 0) (pv 1) rfl) (zJ (qo (pv 0) (pv 2) rfl) (zt (qo (pv 0) (pv 3) rfl))),?_⟩
  refine⟨_,rfl,_,rfl,p,C,dx,[],rfl,hp,R.cl,R.nf,(by show 0<1000;decide),?_⟩
  refine⟨_,rfl,_,rfl,p,C,dx,_,rfl,zh,R.cl,R.nl,(by show 1<1000;decide),?_⟩
  refine⟨_,rfl,_,rfl,p,C,dx,xg "last" y (xg "first" x []),rfl,zh,R.cl,R.nw,?_,?_⟩
  ·show (if ("first":Str)="last" then _ else _:List (Str×V)).length<1000
   rw[if_neg (fun e=>ji e.symm)]
   show 2<1000
   decide
  ·rw[rY,rY]
   exact q
theorem jv :zl ["self"] ["self"] (zc qk):=⟨rfl,rfl,rfl,by decide +kernel,rfl,by decide +kernel,by decide +kernel⟩
theorem gO :zl ["self"] ["self"] (zc nc):=⟨rfl,rfl,rfl,by decide +kernel,rfl,by decide +kernel,by decide +kernel⟩
theorem aA :zl ["self"] ["self"] (zc cU):=⟨rfl,rfl,rfl,by decide +kernel,rfl,by decide +kernel,by decide +kernel⟩
theorem ky :zl ["self"] ["self"] (zc sW):=⟨rfl,rfl,rfl,by decide +kernel,rfl,by decide +kernel,by decide +kernel⟩
theorem gJ :zl ["self"] ["self"] (zc oZ):=⟨rfl,rfl,rfl,by decide +kernel,rfl,by decide +kernel,by decide +kernel⟩
theorem gx :zl ["self"] ["self"] (zc oi):=⟨rfl,rfl,rfl,by decide +kernel,rfl,by decide +kernel,by decide +kernel⟩
theorem cN :zl ["self"] ["self"] (zc ja):=⟨rfl,rfl,rfl,by decide +kernel,rfl,by decide +kernel,by decide +kernel⟩
theorem sr {f:Addr}{fd:FuncData}(F:Fun K "word" "Price.word" qk f fd):zB P w K mg base CX0 1 f fd ["self"] (xG "price"):=by
 refine F.ok jv (fun vs H Q E h=>?_) (fun cdv A outer s H vs Q E hr h=>?_)
 ·obtain⟨p,rfl,_⟩:=h;rfl
 ·obtain⟨p,rfl,q⟩:=h;exact⟨_,zt (zz zI),q⟩
theorem qL {f:Addr}{fd:FuncData}(F:Fun K "word" "Come.word" nc f fd):zB P w K mg base CX0 1 f fd ["self"] (xG "come"):=by
 refine F.ok gO (fun vs H Q E h=>?_) (fun cdv A outer s H vs Q E hr h=>?_)
 ·obtain⟨p,rfl,_⟩:=h;rfl
 ·obtain⟨p,rfl,q⟩:=h;exact⟨_,zt (zz zI),q⟩
theorem kT {f:Addr}{fd:FuncData}(F:Fun K "word" "Go.word" cU f fd):zB P w K mg base CX0 1 f fd ["self"] (xG "go"):=by
 refine F.ok aA (fun vs H Q E h=>?_) (fun cdv A outer s H vs Q E hr h=>?_)
 ·obtain⟨p,rfl,_⟩:=h;rfl
 ·obtain⟨p,rfl,q⟩:=h;exact⟨_,zt (zz zI),q⟩
theorem sC {f:Addr}{fd:FuncData}(F:Fun K "word" "Least.word" sW f fd):zB P w K mg base CX0 1 f fd ["self"] (xG "least"):=by
 refine F.ok ky (fun vs H Q E h=>?_) (fun cdv A outer s H vs Q E hr h=>?_)
 ·obtain⟨p,rfl,_⟩:=h;rfl
 ·obtain⟨p,rfl,q⟩:=h;exact⟨_,zt (zz zI),q⟩
theorem qW {f:Addr}{fd:FuncData}(F:Fun K "word" "Most.word" oZ f fd):zB P w K mg base CX0 1 f fd ["self"] (xG "most"):=by
 refine F.ok gJ (fun vs H Q E h=>?_) (fun cdv A outer s H vs Q E hr h=>?_)
 ·obtain⟨p,rfl,_⟩:=h;rfl
 ·obtain⟨p,rfl,q⟩:=h;exact⟨_,zt (zz zI),q⟩
theorem qX {f:Addr}{fd:FuncData}(F:Fun K "word" "Deal.word" oi f fd):zB P w K mg base CX0 1 f fd ["self"] (xG "deal"):=by
 refine F.ok gx (fun vs H Q E h=>?_) (fun cdv A outer s H vs Q E hr h=>?_)
 ·obtain⟨p,rfl,_⟩:=h;rfl
 ·obtain⟨p,rfl,q⟩:=h;exact⟨_,zt (zz zI),q⟩
theorem nh {f:Addr}{fd:FuncData}(F:Fun K "word" "Fee.word" ja f fd):zB P w K mg base CX0 1 f fd ["self"] (xG "fee"):=by
 refine F.ok cN (fun vs H Q E h=>?_) (fun cdv A outer s H vs Q E hr h=>?_)
 ·obtain⟨p,rfl,_⟩:=h;rfl
 ·obtain⟨p,rfl,q⟩:=h;exact⟨_,zt (zz zI),q⟩
theorem cG :zl ["self"] ["self"] (zc jb):=⟨rfl,rfl,rfl,by decide +kernel,rfl,by decide +kernel,by decide +kernel⟩
theorem eu (x y z:V):(xV x y z).lookup ("word":Str)=none:=gQ x y z (by decide +kernel) (by decide +kernel) (by decide +kernel)
theorem xM {f C fIn fE fWd:Addr}{fd fdW:FuncData}{wd:Str}(F:Fun K "told" "Rule.told" jb f fd)(R:xl K C fIn f fE fWd)(GW:zB P w K mg base CX0 1 fWd fdW ["self"] (xG wd))(bW:Binds K fdW ["self"] []):
  zB P w K mg base CX0 2 f fd ["self"] (iB C wd):=by
 refine F.ok cG (fun vs H Q E h=>?_) (fun cdv A outer s H vs Q E hr h=>?_)
 ·obtain⟨p,dx,x,y,z,rfl,_⟩:=h
  rfl
 ·obtain⟨p,dx,x,y,z,rfl,hp,q⟩:=h
  refine⟨_,zt (zz (oH (ze (qu (pv 0) R.cl R.word GW hr bW .nil zP) (ze (vO (pv 0) rfl) (ze (vO (pv 0) rfl) (ze (vO (pv 0) rfl) zv)))))),?_⟩
  refine⟨_,rfl,p,dx,_,rfl,hp,eu _ _ _,p,rfl,?_⟩
  exact⟨_,rfl,p,C,dx,_,_,rfl,hp,R.cl,R.nf,tE _ _ _,_,rfl,p,C,dx,_,_,rfl,hp,R.cl,R.nl,so _ _ _,_,rfl,p,C,dx,_,_,rfl,hp,R.cl,R.nw,pZ _ _ _,(by show 4≤sizeLine;decide),q⟩
theorem gG :zl ["self","day"] ["self","day"] (zc pL):=⟨rfl,rfl,rfl,by decide +kernel,rfl,by decide +kernel,by decide +kernel⟩
theorem yY {f C fIn fT fWd:Addr}{fd:FuncData}(F:Fun K "tells" "Rule.tells" pL f fd)(R:xl K C fIn fT f fWd):zB P w K mg base CX0 1 f fd ["self","day"] (nO C):=by
 refine F.ok gG (fun vs H Q E h=>?_) (fun cdv A outer s H vs Q E hr h=>?_)
 ·obtain⟨p,dx,a,b,day,z,rfl,_⟩:=h
  rfl
 ·obtain⟨p,dx,a,b,day,z,rfl,hp,q⟩:=h
  refine⟨_,zt (zz (pH uM uM (vO (pv 0) rfl) (pv 1) (vO (pv 0) rfl))),?_⟩
  refine⟨_,rfl,p,C,dx,_,_,rfl,hp,R.cl,R.nf,tE _ _ _,_,rfl,_,_,rfl,rfl,_,rfl,?_⟩
  refine yu (fun h=>?_) (fun h=>?_)
  ·rw[h,zi2] at q
   exact⟨_,rfl,p,C,dx,_,_,rfl,hp,R.cl,R.nl,so _ _ _,_,_,rfl,rfl,q⟩
  ·rw[zf9.mpr h,zh3] at q
   exact q
theorem eE :zl ["thing"] ["thing"] (zc pR):=⟨rfl,rfl,rfl,by decide +kernel,rfl,by decide +kernel,by decide +kernel⟩
theorem jN {f:Addr}{fd fdI:FuncData}(F:Fun K "is_coins" "is_coins" pR f fd)(T:pY mg fW fI fP fD fPD fS fC fDl fWo fR fM cs)(GI:zB P w K mg base CX0 2 fI fdI ["thing","lowest","highest"] wo)(kI:PySem.W.keepIn K (.ref fI)=true)(bI:Binds K fdI ["thing","lowest","highest"] []):
  zB P w K mg base CX0 3 f fd ["thing"] (yx uc):=by
 obtain⟨tl,hl⟩:=T.coinsMost
 refine F.ok eE (fun vs H Q E h=>?_) (fun cdv A outer s H vs Q E hr h=>?_)
 ·obtain⟨x,d,rfl,_⟩:=h
  rfl
 ·obtain⟨x,d,rfl,hd,q⟩:=h
  refine⟨_,zt (zz (zL GI hr (by rfl) T.d.within kI bI .nil zP (ze (pv 0) (ze zw (ze (wH (v:=.int 1000000000000) (by rfl) hl ⟨tl,rfl⟩) zv))))),?_⟩
  exact⟨_,rfl,x,d,_,_,rfl,hd,q⟩
theorem iN :zl ["thing"] ["thing"] (zc sY):=⟨rfl,rfl,rfl,by decide +kernel,rfl,by decide +kernel,by decide +kernel⟩
theorem lh {f:Addr}{fd fdI fdP:FuncData}(F:Fun K "is_deal" "is_deal" sY f fd)(T:pY mg fW fI fP fD fPD fS fC fDl fWo fR fM cs)(GI:zB P w K mg base CX0 2 fI fdI ["thing","lowest","highest"] wo)(kI:PySem.W.keepIn K (.ref fI)=true)(bI:Binds K fdI ["thing","lowest","highest"] [])
  (GP:zB P w K mg base CX0 1 fP fdP ["thing"] (yx pairD)) (kP:PySem.W.keepIn K (.ref fP)=true) (bP:Binds K fdP ["thing"] []):zB P w K mg base CX0 3 f fd ["thing"] (yx vm):=by
 obtain⟨tm,hm⟩:=T.d.most
 refine F.ok iN (fun vs H Q E h=>?_) (fun cdv A outer s H vs Q E hr h=>?_)
 ·obtain⟨x,d,rfl,_⟩:=h
  rfl
 ·obtain⟨x,d,rfl,hd,q⟩:=h
  have hr1:zR 1 _:=hr.mono (by decide)
  refine⟨_,zt (zz (yS (zL GP hr1 (by rfl) T.d.pair kP bP .nil zP (ze (pv 0) zv))
   (yS (zL GI hr (by rfl) T.d.within kI bI .nil zP (ze (yi yn (pv 0) zw (fun _ _=>rfl)) (ze zw (ze (wH (v:=.int 14) (by rfl) hm ⟨tm,rfl⟩) zv))))
   (xm (zL GI hr (by rfl) T.d.within kI bI .nil zP (ze (yi yn (pv 0) zw (fun _ _=>rfl)) (ze zw (ze (yN iu (yi yn (pv 0) zw (fun _ _=>rfl)) zw) zv)))))))),?_⟩
  refine⟨_,rfl,x,d,rfl,hd,_,rfl,?_⟩
  refine yu (fun h=>?_) (fun h=>?_)
  ·obtain⟨a,b,rfl⟩:=ue h
   cases hd with
   |tup e hs=>
    cases hs with
    |cons ha hs=>
     cases hs with
     |cons hb hs=>
      cases hs
      refine⟨_,rfl,_,_,0,_,rfl,rfl,SqT.of e,rfl,_,_,_,_,rfl,ha,_,rfl,?_⟩
      cases ha with
      |int m=>
       have q':Q (.bl (zQ 2 14 (.int m)&&zQ 1 (m-1) b)) H:=q
       refine yu (fun h=>?_) (fun h=>?_)
       ·rw[h,zi2] at q'
        exact⟨_,rfl,_,_,1,_,rfl,rfl,SqT.of e,rfl,_,rfl,_,_,0,_,rfl,rfl,SqT.of e,rfl,_,_,rfl,rfl,_,_,_,_,rfl,hb,q'⟩
       ·rw[zf9.mpr h,zh3] at q'
        exact q'
      |_=>exact uP q
  ·have e:vm d=false:=by
    unfold vm
    split
    ·exact absurd rfl h
    ·rfl
   rw[e] at q
   exact q
theorem fZ :zl ["word","thing"] ["word","thing"] (zc oW):=⟨rfl,rfl,rfl,by decide +kernel,rfl,by decide +kernel,by decide +kernel⟩
theorem jD {f:Addr}{fd fdI fdC fdDl:FuncData}(F:Fun K "is_worth" "is_worth" oW f fd)(T:pY mg fW fI fP fD fPD fS fC fDl fWo fR fM cs)(GI:zB P w K mg base CX0 2 fI fdI ["thing","lowest","highest"] wo)(kI:PySem.W.keepIn K (.ref fI)=true)(bI:Binds K fdI ["thing","lowest","highest"] [])
  (GC:zB P w K mg base CX0 3 fC fdC ["thing"] (yx uc)) (kC:PySem.W.keepIn K (.ref fC)=true) (bC:Binds K fdC ["thing"] []) (GDl:zB P w K mg base CX0 3 fDl fdDl ["thing"] (yx vm)) (kDl:PySem.W.keepIn K (.ref fDl)=true) (bDl:Binds K fdDl ["thing"] []):
  zB P w K mg base CX0 4 f fd ["word","thing"] nV:=by
 obtain⟨tm,hm⟩:=T.d.most
 refine F.ok fZ (fun vs H Q E h=>?_) (fun cdv A outer s H vs Q E hr h=>?_)
 ·obtain⟨x,y,dw,dv,rfl,_⟩:=h
  rfl
 ·obtain⟨x,y,dw,dv,rfl,hx,sw,hy,q⟩:=h
  have hr2:zR 2 _:=hr.mono (by decide)
  have hu:=hr.units
  have st:∀{z:Str},z∈words→SeqAt.shaped (.str z)=true:=fun {z} hz=>pM (by
   simp only[words,zc9,zd4,zf4] at hz
   rcases hz with rfl|rfl|rfl|rfl|rfl|rfl|rfl<;>decide +kernel)
  unfold zC at q
  -- if word == 'price'
  refine yf (fun σ H1=>σ=[some x,some y]∧eqS dw "price"=false∧H=H1)
   ⟨_,xq (yk (wc hu) (pv 0) zI (zH _)) (zt (zz (de (xH oa (pv 1) rG (zH _)) (xm (zL GC hr (by rfl) T.coins kC bC .nil zP (ze (pv 1) zv)))))) yr,?_⟩ ?_
  ·refine⟨_,rfl,dw,.str "price",hx,.str _,sw,st (by simp[words]),_,rfl,?_⟩
   refine yu (fun h=>?_) (fun h=>⟨rfl,zf9.mpr h,rfl⟩)
   rw[if_pos h] at q
   refine⟨_,rfl,rfl,_,rfl,?_⟩
   rw[hy.non_iff]
   refine yu (fun h2=>?_) (fun h2=>?_)
   ·rw[h2,zp1] at q
    exact q
   ·rw[zf9.mpr h2,zo5] at q
    exact⟨_,rfl,y,dv,rfl,hy,q⟩
  rintro σ H1 ⟨rfl,e1,rfl⟩
  rw[e1,if_neg ze0] at q
  -- if word == 'come' or word == 'go'
  refine yf (fun σ H1=>σ=[some x,some y]∧(eqS dw "come"||eqS dw "go")=false∧H=H1)
   ⟨_,xq (PW.pt (kJ (yk (wc hu) (pv 0) zI (zH _)) (oj (yk (wc hu) (pv 0) zI (zH _))))) (zt (zz (yv xr (by rfl) T.d.isi zl2 (ze (pv 1) (ze (vH (v:=.ty "bool") (by rfl) T.d.bool boot_bool rfl) zv))))) yr,?_⟩ ?_
  ·refine⟨_,rfl,dw,.str "come",hx,.str _,sw,st (by simp[words]),_,rfl,?_⟩
   refine yu (fun h=>?_) (fun h=>?_)
   ·have h':eqS dw "come"=true:=h
    rw[h',zp1,if_pos rfl] at q
    exact ux ⟨_,rfl,y,"bool",dv,_,rfl,hy,tH dv,q⟩
   ·have h':eqS dw "come"=false:=zf9.mpr h
    refine⟨_,rfl,dw,.str "go",hx,.str _,sw,st (by simp[words]),_,rfl,?_⟩
    refine yu (fun h2=>?_) (fun h2=>?_)
    ·have h2':eqS dw "go"=true:=h2
     rw[h',h2',zo5,if_pos rfl] at q
     exact⟨_,rfl,y,"bool",dv,_,rfl,hy,tH dv,q⟩
    ·have h2':eqS dw "go"=false:=zf9.mpr h2
     exact⟨rfl,by rw[h',h2'];rfl,rfl⟩
  rintro σ H1 ⟨rfl,e2,rfl⟩
  rw[e2,if_neg ze0] at q
  -- if word == 'least' or word == 'most'
  refine yf (fun σ H1=>σ=[some x,some y]∧(eqS dw "least"||eqS dw "most")=false∧H=H1)
   ⟨_,xq (PW.pt (kJ (yk (wc hu) (pv 0) zI (zH _)) (oj (yk (wc hu) (pv 0) zI (zH _))))) (zt (zz (zL GI hr2 (by rfl) T.d.within kI bI .nil zP (ze (pv 1) (ze zw (ze (wH (v:=.int 14) (by rfl) hm ⟨tm,rfl⟩) zv)))))) yr,?_⟩ ?_
  ·refine⟨_,rfl,dw,.str "least",hx,.str _,sw,st (by simp[words]),_,rfl,?_⟩
   refine yu (fun h=>?_) (fun h=>?_)
   ·have h':eqS dw "least"=true:=h
    rw[h',zp1,if_pos rfl] at q
    exact ux ⟨_,rfl,y,dv,_,_,rfl,hy,q⟩
   ·have h':eqS dw "least"=false:=zf9.mpr h
    refine⟨_,rfl,dw,.str "most",hx,.str _,sw,st (by simp[words]),_,rfl,?_⟩
    refine yu (fun h2=>?_) (fun h2=>?_)
    ·have h2':eqS dw "most"=true:=h2
     rw[h',h2',zo5,if_pos rfl] at q
     exact⟨_,rfl,y,dv,_,_,rfl,hy,q⟩
    ·have h2':eqS dw "most"=false:=zf9.mpr h2
     exact⟨rfl,by rw[h',h2'];rfl,rfl⟩
  rintro σ H1 ⟨rfl,e3,rfl⟩
  rw[e3,if_neg ze0] at q
  -- if word == 'deal'
  refine yf (fun σ H1=>σ=[some x,some y]∧eqS dw "deal"=false∧H=H1)
   ⟨_,xq (yk (wc hu) (pv 0) zI (zH _)) (zt (zz (de (xH oa (pv 1) rG (zH _)) (xm (zL GDl hr (by rfl) T.deal kDl bDl .nil zP (ze (pv 1) zv)))))) yr,?_⟩ ?_
  ·refine⟨_,rfl,dw,.str "deal",hx,.str _,sw,st (by simp[words]),_,rfl,?_⟩
   refine yu (fun h=>?_) (fun h=>⟨rfl,zf9.mpr h,rfl⟩)
   rw[if_pos h] at q
   refine⟨_,rfl,rfl,_,rfl,?_⟩
   rw[hy.non_iff]
   refine yu (fun h2=>?_) (fun h2=>?_)
   ·rw[h2,zp1] at q
    exact q
   ·rw[zf9.mpr h2,zo5] at q
    exact⟨_,rfl,y,dv,rfl,hy,q⟩
  rintro σ H1 ⟨rfl,e4,rfl⟩
  rw[e4,if_neg ze0] at q
  refine⟨_,zt (zz (yS (xH (wc hu) (pv 0) zI (zH _)) (xm (zL GC hr (by rfl) T.coins kC bC .nil zP (ze (pv 1) zv))))),?_⟩
  refine⟨_,rfl,dw,.str "fee",hx,.str _,sw,st (by simp[words]),_,rfl,?_⟩
  refine yu (fun h=>?_) (fun h=>?_)
  ·have h':eqS dw "fee"=true:=h
   rw[h',zi2] at q
   exact⟨_,rfl,y,dv,rfl,hy,q⟩
  ·have h':eqS dw "fee"=false:=zf9.mpr h
   rw[h',zh3] at q
   exact q
theorem hG :zl ["thing"] ["thing"] (zc rm):=⟨rfl,rfl,rfl,by decide +kernel,rfl,by decide +kernel,by decide +kernel⟩
theorem mW {f:Addr}{fd fdS fdWo:FuncData}(F:Fun K "is_rule" "is_rule" rm f fd)(T:pY mg fW fI fP fD fPD fS fC fDl fWo fR fM cs)(GS:zB P w K mg base CX0 5 fS fdS ["thing"] (yx yb))(kS:PySem.W.keepIn K (.ref fS)=true)(bS:Binds K fdS ["thing"] [])
  (GW:zB P w K mg base CX0 4 fWo fdWo ["word","thing"] nV) (kW:PySem.W.keepIn K (.ref fWo)=true) (bW:Binds K fdWo ["word","thing"] []):zB P w K mg base CX0 6 f fd ["thing"] jl:=by
 refine F.ok hG (fun vs H Q E h=>?_) (fun cdv A outer s H vs Q E hr h=>?_)
 ·obtain⟨x,d,rfl,_⟩:=h
  rfl
 ·obtain⟨x,d,rfl,hd,sd,q⟩:=h
  have hr4:zR 4 _:=hr.mono (by decide)
  refine⟨_,zt (zz (yS (yv xr (by rfl) T.d.isi zl2 (ze (pv 0) (ze (vH (v:=.ty "tuple") (by rfl) T.d.tuple boot_tuple rfl) zv)))
   (yS (xH xS (yv xD (by rfl) T.d.len PySem.boot_len (ze (pv 0) zv)) zw (zH _))
   (yS (zL GS hr (by rfl) T.stretch kS bS .nil zP (ze (oH (ze (yi yn (pv 0) zw (fun _ _=>rfl)) (ze (yi yn (pv 0) zw (fun _ _=>rfl)) zv))) zv))
   (xm (zL GW hr4 (by rfl) T.worth kW bW .nil zP (ze (yi yn (pv 0) zw (fun _ _=>rfl)) (ze (yi yn (pv 0) zw (fun _ _=>rfl)) zv)))))))),?_⟩
  refine⟨_,rfl,x,"tuple",d,_,rfl,hd,su d,_,rfl,?_⟩
  cases hd with
  |@tup a xs ds e hs=>
   refine ux ⟨_,rfl,a,_,rfl,.inr (SqT.of e),rfl,_,rfl,?_⟩
   cases hs with
   |nil=>exact yu (fun h=>absurd h (by simp)) (fun _=>q H (zx.refl H))
   |@cons xw _ dw _ hw hs=>
   cases hs with
   |nil=>exact yu (fun h=>absurd h (by simp)) (fun _=>q H (zx.refl H))
   |@cons xa _ da _ ha hs=>
   cases hs with
   |nil=>exact yu (fun h=>absurd h (by simp)) (fun _=>q H (zx.refl H))
   |@cons xb _ db _ hb hs=>
   cases hs with
   |nil=>exact yu (fun h=>absurd h (by simp)) (fun _=>q H (zx.refl H))
   |@cons xv _ dv _ hv hs=>
   cases hs with
   |cons _ _=>exact yu (fun h=>absurd h (by simp;omega)) (fun _=>q H (zx.refl H))
   |nil=>
    refine yu (fun _=>?_) (fun h=>absurd rfl h)
    refine⟨_,rfl,a,_,1,_,rfl,rfl,SqT.of e,rfl,_,rfl,a,_,2,_,rfl,rfl,SqT.of e,rfl,(by show 2≤sizeLine;decide),fun p hp=>?_⟩
    have s1:zx H (upd H p (.tup [xa,xb])):=zM hp
    refine⟨_,.tuple [da,db],rfl,.tup zh (.cons (ha.same s1) (.cons (hb.same s1) .nil)),_,rfl,?_⟩
    have q':Q (.bl (yb (.tuple [da,db])&&zC dw dv)) (upd H p (.tup [xa,xb])):=q _ s1
    refine yu (fun h=>?_) (fun h=>?_)
    ·rw[h,zi2] at q'
     exact⟨_,rfl,a,_,0,_,rfl,rfl,SqT.of (s1 _ _ e),rfl,_,rfl,a,_,3,_,rfl,rfl,SqT.of (s1 _ _ e),rfl,_,_,_,_,rfl,hw.same s1,rj sd dw (by simp),hv.same s1,q'⟩
    ·rw[zf9.mpr h,zh3] at q'
     exact q'
  |_=>exact uP (q H (zx.refl H))
end
section
variable {P:Program}{w:World}{K:PySem.W.Frag}{mg:Str→Option Value}{base:Heap}{fW fI fP fD fPD fS fC fDl fWo fR fM:Addr}{cs:Cs}
structure je (K:PySem.W.Frag)(cs:Cs)(fIn fTo fTe w1 w2 w3 w4 w5 w6 w7:Addr):Prop where
 price:xl K cs.price fIn fTo fTe w1
 come:xl K cs.come fIn fTo fTe w2
 go:xl K cs.go fIn fTo fTe w3
 least:xl K cs.least fIn fTo fTe w4
 most:xl K cs.most fIn fTo fTe w5
 deal:xl K cs.deal fIn fTo fTe w6
 fee:xl K cs.fee fIn fTo fTe w7
theorem wu (cs:Cs):cs.of "price"=cs.price:=by unfold Cs.of;rw[if_pos rfl]
theorem vh (cs:Cs):cs.of "come"=cs.come:=by unfold Cs.of;rw[if_neg (by decide +kernel),if_pos rfl]
theorem qE (cs:Cs):cs.of "go"=cs.go:=by unfold Cs.of;rw[if_neg (by decide +kernel),if_neg (by decide +kernel),if_pos rfl]
theorem wx (cs:Cs):cs.of "least"=cs.least:=by unfold Cs.of;rw[if_neg (by decide +kernel),if_neg (by decide +kernel),if_neg (by decide +kernel),if_pos rfl]
theorem vj (cs:Cs):cs.of "most"=cs.most:=by unfold Cs.of;rw[if_neg (by decide +kernel),if_neg (by decide +kernel),if_neg (by decide +kernel),if_neg (by decide +kernel),if_pos rfl]
theorem vA (cs:Cs):cs.of "deal"=cs.deal:=by unfold Cs.of;rw[if_neg (by decide +kernel),if_neg (by decide +kernel),if_neg (by decide +kernel),if_neg (by decide +kernel),if_neg (by decide +kernel),if_pos rfl]
theorem uG (cs:Cs):cs.of "fee"=cs.fee:=by unfold Cs.of;rw[if_neg (by decide +kernel),if_neg (by decide +kernel),if_neg (by decide +kernel),if_neg (by decide +kernel),if_neg (by decide +kernel),if_neg (by decide +kernel)]
theorem vW {x y:Str}(h:decide (V.str x=V.str y)=true):x=y:=by
 have:=zl8 h
 injection this
theorem vQ {x y:Str}(h:¬decide (V.str x=V.str y)=true):x≠y:=fun e=>h (by rw[e];exact zh0 rfl)
theorem xf {C p dx:Addr}{H:Hp}{x y z:V}{Q:VK}(k:∀(p dx:Addr) (H':Hp),H' p=some (.ins C dx (xV x y z))→H p=none→zx H H'→Q (.ref p) H')(hp:H p=none)(hx:H dx=none)(n:dx≠p):
  Q (.ref p) (upd (upd (upd H dx (.own p)) p (.ins C dx [])) p (.ins C dx (xV x y z))):=by
 refine k p dx _ zh hp fun a o e=>?_
 rw[rY,zj (zm e hp),zj (zm e hx)]
 exact e
theorem cT :zl ["word","first","last","worth"] ["word","first","last","worth"] (zc jk):=⟨rfl,rfl,rfl,by decide +kernel,rfl,by decide +kernel,by decide +kernel⟩
set_option maxHeartbeats 4000000 in
theorem fQ {f fIn fTo fTe w1 w2 w3 w4 w5 w6 w7:Addr}{fd fdIn:FuncData}(F:Fun K "made" "made" jk f fd)(T:pY mg fW fI fP fD fPD fS fC fDl fWo fR fM cs)(A7:je K cs fIn fTo fTe w1 w2 w3 w4 w5 w6 w7)
  (FI:Fun K "__init__" "Rule.__init__" nW fIn fdIn) (bI:Binds K fdIn ["self","first","last","worth"] []):zB P w K mg base CX0 3 f fd ["word","first","last","worth"] (jO cs):=by
 refine F.ok cT (fun vs H Q E h=>?_) (fun cdv A outer s H vs Q E hr h=>?_)
 ·obtain⟨wd,x,y,z,rfl,_⟩:=h
  rfl
 ·obtain⟨wd,x,y,z,rfl,hw,k⟩:=h
  refine yf (fun σ H1=>σ=[some (.str wd),some x,some y,some z]∧wd≠"price"∧H=H1)
   ⟨_,xq (yk xS (pv 0) zI (zH _)) (zt (zz (xj A7.price.makes (xO FI A7.price) hr (by rfl) T.cPrice bI .nil zP (ze (pv 1) (ze (pv 2) (ze (pv 3) zv)))))) yr,?_⟩ ?_
  ·refine⟨_,rfl,rfl,_,rfl,yu (fun h=>?_) (fun h=>⟨rfl,vQ h,rfl⟩)⟩
   rw[vW h,wu] at k
   exact⟨_,rfl,_,rfl,_,rfl,fun p dx hp hx n=>⟨p,dx,_,_,_,rfl,zh,rfl,xf k hp hx n⟩⟩
  rintro σ H1 ⟨rfl,n1,rfl⟩
  refine yf (fun σ H1=>σ=[some (.str wd),some x,some y,some z]∧wd≠"come"∧H=H1)
   ⟨_,xq (yk xS (pv 0) zI (zH _)) (zt (zz (xj A7.come.makes (xO FI A7.come) hr (by rfl) T.cCome bI .nil zP (ze (pv 1) (ze (pv 2) (ze (pv 3) zv)))))) yr,?_⟩ ?_
  ·refine⟨_,rfl,rfl,_,rfl,yu (fun h=>?_) (fun h=>⟨rfl,vQ h,rfl⟩)⟩
   rw[vW h,vh] at k
   exact⟨_,rfl,_,rfl,_,rfl,fun p dx hp hx n=>⟨p,dx,_,_,_,rfl,zh,rfl,xf k hp hx n⟩⟩
  rintro σ H1 ⟨rfl,n2,rfl⟩
  refine yf (fun σ H1=>σ=[some (.str wd),some x,some y,some z]∧wd≠"go"∧H=H1)
   ⟨_,xq (yk xS (pv 0) zI (zH _)) (zt (zz (xj A7.go.makes (xO FI A7.go) hr (by rfl) T.cGo bI .nil zP (ze (pv 1) (ze (pv 2) (ze (pv 3) zv)))))) yr,?_⟩ ?_
  ·refine⟨_,rfl,rfl,_,rfl,yu (fun h=>?_) (fun h=>⟨rfl,vQ h,rfl⟩)⟩
   rw[vW h,qE] at k
   exact⟨_,rfl,_,rfl,_,rfl,fun p dx hp hx n=>⟨p,dx,_,_,_,rfl,zh,rfl,xf k hp hx n⟩⟩
  rintro σ H1 ⟨rfl,n3,rfl⟩
  refine yf (fun σ H1=>σ=[some (.str wd),some x,some y,some z]∧wd≠"least"∧H=H1)
   ⟨_,xq (yk xS (pv 0) zI (zH _)) (zt (zz (xj A7.least.makes (xO FI A7.least) hr (by rfl) T.cLeast bI .nil zP (ze (pv 1) (ze (pv 2) (ze (pv 3) zv)))))) yr,?_⟩ ?_
  ·refine⟨_,rfl,rfl,_,rfl,yu (fun h=>?_) (fun h=>⟨rfl,vQ h,rfl⟩)⟩
   rw[vW h,wx] at k
   exact⟨_,rfl,_,rfl,_,rfl,fun p dx hp hx n=>⟨p,dx,_,_,_,rfl,zh,rfl,xf k hp hx n⟩⟩
  rintro σ H1 ⟨rfl,n4,rfl⟩
  refine yf (fun σ H1=>σ=[some (.str wd),some x,some y,some z]∧wd≠"most"∧H=H1)
   ⟨_,xq (yk xS (pv 0) zI (zH _)) (zt (zz (xj A7.most.makes (xO FI A7.most) hr (by rfl) T.cMost bI .nil zP (ze (pv 1) (ze (pv 2) (ze (pv 3) zv)))))) yr,?_⟩ ?_
  ·refine⟨_,rfl,rfl,_,rfl,yu (fun h=>?_) (fun h=>⟨rfl,vQ h,rfl⟩)⟩
   rw[vW h,vj] at k
   exact⟨_,rfl,_,rfl,_,rfl,fun p dx hp hx n=>⟨p,dx,_,_,_,rfl,zh,rfl,xf k hp hx n⟩⟩
  rintro σ H1 ⟨rfl,n5,rfl⟩
  refine yf (fun σ H1=>σ=[some (.str wd),some x,some y,some z]∧wd≠"deal"∧H=H1)
   ⟨_,xq (yk xS (pv 0) zI (zH _)) (zt (zz (xj A7.deal.makes (xO FI A7.deal) hr (by rfl) T.cDeal bI .nil zP (ze (pv 1) (ze (pv 2) (ze (pv 3) zv)))))) yr,?_⟩ ?_
  ·refine⟨_,rfl,rfl,_,rfl,yu (fun h=>?_) (fun h=>⟨rfl,vQ h,rfl⟩)⟩
   rw[vW h,vA] at k
   exact⟨_,rfl,_,rfl,_,rfl,fun p dx hp hx n=>⟨p,dx,_,_,_,rfl,zh,rfl,xf k hp hx n⟩⟩
  rintro σ H1 ⟨rfl,n6,rfl⟩
  have e7:wd="fee":=by
   simp only[words,zc9,zd4,zf4] at hw
   rcases hw with e|e|e|e|e|e|e
   ·exact absurd e n1
   ·exact absurd e n2
   ·exact absurd e n3
   ·exact absurd e n4
   ·exact absurd e n5
   ·exact absurd e n6
   ·exact e
  rw[e7,uG] at k
  refine⟨_,zt (zz (xj A7.fee.makes (xO FI A7.fee) hr (by rfl) T.cFee bI .nil zP (ze (pv 1) (ze (pv 2) (ze (pv 3) zv))))),?_⟩
  exact⟨_,rfl,_,rfl,_,rfl,fun p dx hp hx n=>⟨p,dx,_,_,_,rfl,zh,rfl,xf k hp hx n⟩⟩
theorem iA :zl ["thing"] ["thing"] (zc qi):=⟨rfl,rfl,rfl,by decide +kernel,rfl,by decide +kernel,by decide +kernel⟩
theorem lx {f:Addr}{fd fdR fdM:FuncData}(F:Fun K "rule_of" "rule_of" qi f fd)(T:pY mg fW fI fP fD fPD fS fC fDl fWo fR fM cs)(GR:zB P w K mg base CX0 6 fR fdR ["thing"] jl)(kR:PySem.W.keepIn K (.ref fR)=true)(bR:Binds K fdR ["thing"] [])
  (GM:zB P w K mg base CX0 3 fM fdM ["word","first","last","worth"] (jO cs)) (kM:PySem.W.keepIn K (.ref fM)=true) (bM:Binds K fdM ["word","first","last","worth"] []):zB P w K mg base CX0 7 f fd ["thing"] (pG cs):=by
 refine F.ok iA (fun vs H Q E h=>?_) (fun cdv A outer s H vs Q E hr h=>?_)
 ·obtain⟨x,d,rfl,_⟩:=h
  rfl
 ·obtain⟨x,d,rfl,hd,sd,k0,k1⟩:=h
  have hr3:zR 3 _:=hr.mono (by decide)
  refine yf (fun σ H1=>σ=[some x]∧yp d=true∧zx H H1)
   ⟨_,xq (kZ (kX (zL GR hr (by rfl) T.rule kR bR .nil zP (ze (pv 0) zv)))) (zt (zz rG)) yr,?_⟩ ?_
  ·refine⟨_,rfl,x,d,rfl,hd,sd,fun H1 s1=>⟨_,rfl,?_⟩⟩
   refine yu (fun h=>?_) (fun h=>?_)
   ·exact k0 (by simpa using h) H1 s1
   ·exact⟨rfl,by simpa using h,s1⟩
  rintro σ H1 ⟨rfl,er,s1⟩
  obtain⟨sw,da,db,dv,hsw,rfl⟩:=xi er
  cases hd with
  |@tup r xs ds e hs=>
   cases hs with
   |@cons xw _ _ _ hw hs=>
    cases hw
    cases hs with
    |@cons xa _ _ _ ha hs=>
     cases hs with
     |@cons xb _ _ _ hb hs=>
      cases hs with
      |@cons xv _ _ _ hv hs=>
       cases hs
       have e1:=s1 _ _ e
       refine⟨_,zt (zz (zL GM hr3 (by rfl) T.made kM bM .nil zP (ze (yi yn (pv 0) zw (fun _ _=>rfl)) (ze (yi yn (pv 0) zw (fun _ _=>rfl)) (ze (yi yn (pv 0) zw (fun _ _=>rfl)) (ze (yi yn (pv 0) zw (fun _ _=>rfl)) zv)))))),?_⟩
       refine⟨_,rfl,r,_,0,_,rfl,rfl,SqT.of e1,rfl,_,rfl,r,_,1,_,rfl,rfl,SqT.of e1,rfl,_,rfl,r,_,2,_,rfl,rfl,SqT.of e1,rfl,_,rfl,r,_,3,_,rfl,rfl,SqT.of e1,rfl,sw,_,_,_,rfl,hsw,fun p dx H2 h2 hp s2=>?_⟩
       exact k1 r sw xa xb xv p dx H2 rfl er hsw e h2 (s1.free hp) (s1.trans s2)
end
abbrev gb :Stmt:=top 34
abbrev yQ :Stmt:=inClass (top 33) 0
abbrev wG :Stmt:=inClass (top 33) 1
def tO (C:Addr)(a b v:PyData):PyData:=xU C [(.str "first",a),(.str "last",b),(.str "worth",v)]
def uj (cs:Cs):PyData→PyData
 |.tuple [.str w,a,b,v]=>tO (cs.of w) a b v
 |_=>.none
def xC (C:Addr)(cs:Cs)(ds:List PyData):PyData:=xU C [(.str "kept",.list (ds.map (uj cs)))]
def Rules (ds:List PyData):Prop:=∀d∈ds,yp d=true∧SeqAt.shaped d=true∧d.hasDict=false
def tj (cs:Cs):List A→(A→Prop)→Prop:=fun as Q=>∃d,as=[.dat d]∧d.hasDict=false∧SeqAt.shaped d=true∧(yp d=false→Q (.dat .none))∧(yp d=true→Q (.dat (uj cs d)))
def oX (cs:Cs):List A→(A→Prop)→Prop:=fun as Q=>∃ds,as=[.dat (.list ds)]∧Rules ds∧ds.length≤24∧Q (.own (ds.map (uj cs)))
def uK (C:Addr)(cs:Cs):List A→(A→Prop)→Prop:=fun as Q=>∃ds,(as=[.dat (.list ds)]∨(as=[.dat .none]∧ds=[]))∧Rules ds∧ds.length≤24∧Q (.dat (xC C cs ds))
def om (C:Addr)(w:Str):List A→(A→Prop)→Prop:=fun as Q=>∃a b v,as=[.dat (tO C a b v)]∧Q (.dat (.tuple [.str w,a,b,v]))
def vg (C:Addr)(cs:Cs):List A→(A→Prop)→Prop:=fun as Q=>∃ds,as=[.dat (xC C cs ds)]∧Rules ds∧ds.length≤1000∧Q (.own ds)
theorem rg (x y z:V):xV x y z=[(("first":Str),x),(("last":Str),y),(("worth":Str),z)]:=by
 unfold xV
 show xg "worth" z (if ("first":Str)="last" then _ else _)=_
 rw[if_neg (fun e=>ji e.symm)]
 show (if ("first":Str)="worth" then _ else _)=_
 rw[if_neg (fun e=>iz e.symm)]
 show _::(if ("last":Str)="worth" then _ else _)=_
 rw[if_neg (fun e=>jX e.symm)]
 rfl
theorem wZ {cs:Cs}{d:PyData}(h:yp d=true):∃(s:Str) (a b v:PyData),s∈words∧d=.tuple [.str s,a,b,v]∧uj cs d=tO (cs.of s) a b v:=by
 obtain⟨s,a,b,v,hs,rfl⟩:=xi h
 exact⟨s,a,b,v,hs,rfl,rfl⟩
def gc :Scope:=match zG wG with
 |[.Return (some (.ListComp _ _ sc _)) _]=>sc
 |_=>zc wG
section
variable {P:Program}{w:World}{K:PySem.W.Frag}{mg:Str→Option Value}{base:Heap}{cs:Cs}
theorem oT {k:Nat}{f:Addr}{fd:FuncData}{ps:List Str}(hm:mg "rule_of"=some (.ref f))(hk:PySem.W.keepIn K (.ref f)=true)(hb:Binds K fd ps [])(G:zB P w K mg base CX0 k f fd ps (pG cs)):Cal P w K mg base "rule_of" k (tj cs):=by
 refine⟨f,fd,_,hm,hk,hb,G.imp fun vs H Q E h=>?_⟩
 obtain⟨F,as,Q',rfl,t,o,rv,⟨d,rfl,nd,sh,q0,q1⟩,kk⟩:=h
 obtain⟨x,rfl,av⟩:=rv.one
 have oo:∀{a:Addr},F.H0 a=none→¬F.O0 a:=fun {a} e z=>by
  obtain⟨u,hu,_⟩:=o a z
  rw[e] at hu;cases hu
 refine⟨x,d,rfl,(av.dv nd).same xW,sh,fun hr H' s=>kk _ _ _ (q0 hr) ⟨t.same s,Kz.of_same s,.non⟩,fun r wd x1 x2 x3 p dx H' hx hr hw he hp' hp s=>kk _ _ _ (q1 hr) ⟨t.same s,Kz.of_same s,?_⟩⟩
 subst hx
 obtain⟨s',a,b,v,_,rfl⟩:=xi hr
 obtain⟨r',xs,e1,e2,e3⟩:=av.tup_inv
 cases e1
 have e4:=(zf e2).2
 rw[he] at e4
 cases e4
 have gs:zx (sub (fun x=>¬F.O0 x) F.H0) (sub (fun x=>¬F.O0 x) H'):=zr fun a u h e=>⟨h,s _ _ e⟩
 cases e3 with
 |cons g1 e3=>
  cases g1.str_inv
  cases e3 with
  |cons g2 e3=>
   cases e3 with
   |cons g3 e3=>
    cases e3 with
    |cons g4 e3=>
     cases e3
     rw[rg] at hp'
     exact .ins (zN (oo hp) hp') (.cons (g2.same gs) (.cons (g3.same gs) (.cons (g4.same gs) .nil)))
theorem yG {C f fIn fE fWd:Addr}{fd:FuncData}{wd:Str}(R:xl K C fIn f fE fWd)(hb:Binds K fd ["self"] [])(G:zB P w K mg base CX0 2 f fd ["self"] (iB C wd)):xI P w K mg base C "told" 2 (om C wd):=by
 refine⟨f,fd,_,R.cl,R.told,hb,G.imp fun vs H Q E h=>?_⟩
 obtain⟨F,as,Q',rfl,t,o,rv,⟨a,b,v,rfl,q⟩,kk⟩:=h
 obtain⟨x,rfl,av⟩:=rv.one
 obtain⟨p,dx,fs,rfl,h1,h2⟩:=av.ins_inv
 cases h2 with
 |cons g1 h2=>
  cases h2 with
  |cons g2 h2=>
   cases h2 with
   |cons g3 h2=>
    cases h2
    refine⟨p,dx,_,_,_,rfl,by rw[rg];exact (zf h1).2,fun r hr=>kk _ _ _ q ⟨t.same (zM hr),Kz.of_same (zM hr),?_⟩⟩
    have gs:∀o':HO,zx (sub (fun x=>¬F.O0 x) F.H0) (sub (fun x=>¬F.O0 x) (upd F.H0 r o')):=fun o'=>zr fun a u h e=>⟨h,by rw[zj (zm e hr)];exact e⟩
    refine .tup (zN (fun z=>?_) zh) (.cons (.str _) (.cons (g1.same (gs _)) (.cons (g2.same (gs _)) (.cons (g3.same (gs _)) .nil))))
    obtain⟨u,hu,_⟩:=o r z
    rw[hr] at hu;cases hu
theorem jS :zl ["things","kept","number","thing","rule"] ["things"] (zc gb):=⟨rfl,rfl,rfl,by decide +kernel,rfl,by decide +kernel,by decide +kernel⟩
set_option maxHeartbeats 4000000 in
theorem jK {f:Addr}{fd:FuncData}(F:Fun K "kept_rules" "kept_rules" gb f fd)(hm:mg "kept_rules"=some (.ref f))(hb:Binds K fd ["things"] [])(nb:NbT mg)(gM:∃t,mg "MOST_RULES"=some (.int 24 t))(CRO:Cal P w K mg base "rule_of" 7 (tj cs)):Cal P w K mg base "kept_rules" 8 (oX cs):=by
 refine vF F hm hb jS (fun as Q h=>?_) (fun cdv A' outer s H E as Q hr h=>?_)
 ·obtain⟨ds,rfl,_⟩:=h
  rfl
 ·obtain⟨ds,rfl,rd,hl,q⟩:=h
  refine wF 1 jS.nd (yh (zk (⟨_,rfl,ze2 rfl,?_⟩)))
  refine rH (pat:=.many [2,3]) zn2 rfl (vp (n:=2) (K:=K) rfl rfl (wm (ym (i:=2) jS.nd rfl (Or.inl rfl)) (wm (ym (i:=3) jS.nd rfl (Or.inl rfl)) (uz)))) (ml (by rfl) nb.enumerate (zg 0 rfl (⟨_,rfl,?_⟩)))
  refine zW (fun i α=>∃v2 v3 v4,α=[some (.dat (.list ds)),some (.own ((ds.take i).map (uj cs))),v2,v3,v4]) ⟨none,none,none,rfl⟩ ?_ ?_
  ·rintro i d α hd ⟨v2,v3,v4,rfl⟩
   obtain⟨e,he,rfl⟩:=wD hd
   obtain⟨r1,r2,r3⟩:=rd e (zf7 he)
   have hi:i<ds.length:=(zd1.mp he).1
   refine⟨_,rfl,?_⟩
   refine yj 4 jS.nd (zD CRO hr (by rfl) (zb (zg 3 rfl (zk (⟨_,rfl,r3,r2,fun z=>(by rw[r1] at z;cases z),fun _=>?_⟩)))))
   refine xB (rp (zg 4 rfl ?_))
   obtain⟨s',a,b,v,hs,rfl,ei⟩:=wZ (cs:=cs) r1
   refine yM (fun h=>by rw[show (A.dat (uj cs (.tuple [.str s',a,b,v]))).d=tO (cs.of s') a b v from rfl] at h;cases h) (fun _=>zq ?_)
   refine vX 1 rfl (zg 4 rfl ⟨by rw[zd5,zj6];omega,?_⟩)
   refine zq ⟨some (.dat (.int ((0+i:Nat):Int))),some (.dat (.tuple [.str s',a,b,v])),some (.dat (uj cs (.tuple [.str s',a,b,v]))),?_⟩
   rw[zj3,he,List.map_append]
   rfl
  ·rintro α ⟨v2,v3,v4,rfl⟩
   rw[xx,zi8]
   refine xB (rL 1 rfl (eO (sZ (by rfl) nb.len (zg 1 rfl ⟨_,rfl,iT (by rfl) gM ⟨_,_,rfl,rfl,?_⟩⟩))))
   refine oM (fun h=>?_) (fun _=>zq ?_)
   ·rw[zd5] at h
    omega
   ·exact sX 1 rfl q
theorem za0 :zl ["self","rules"] ["self","rules"] (zc yQ):=⟨rfl,rfl,rfl,by decide +kernel,rfl,by decide +kernel,by decide +kernel⟩
theorem sQ {w' v:PyData}(h:zC w' v=true):noL v=true:=by
 have wi:∀{lo hi:Int} {x:PyData},zQ lo hi x=true→noL x=true:=fun {lo hi x} h=>by
  cases x with
  |int i=>rfl
  |_=>cases h
 have nn:∀{x:PyData},isNone x=true→noL x=true:=fun {x} h=>by
  cases x with
  |none=>rfl
  |_=>cases h
 unfold zC at h
 split at h
 ·rcases (zj0 _ _).mp h with h|h
  ·exact nn h
  ·exact wi h
 ·split at h
  ·cases v with
   |bool b=>rfl
   |_=>cases h
  ·split at h
   ·exact wi h
   ·split at h
    ·rcases (zj0 _ _).mp h with h|h
     ·exact nn h
     ·unfold vm at h
      split at h
      ·rw[ze9] at h
       simp only[noL,noLs,wi h.2,Bool.and_self]
      ·cases h
    ·rw[ze9] at h
     exact wi h.2
theorem hV {s':Str}{a b v:PyData}(h:yp (.tuple [.str s',a,b,v])=true):noL a=true∧noL b=true∧noL v=true:=by
 have h':(yb (.tuple [a,b])&&zC (.str s') v)=true:=h
 rw[ze9] at h'
 refine⟨?_,?_,sQ h'.2⟩
 ·have:=h'.1
  unfold yb tZ at this
  split at this
  ·rename_i k e
   split at e
   ·rename_i z;cases z;rfl
   ·cases e
  ·cases this
 ·have:=h'.1
  unfold yb tZ at this
  split at this
  ·rename_i k e
   split at e
   ·rename_i z;cases z;rfl
   ·cases e
  ·cases this
theorem qw {ds:List PyData}(rd:Rules ds):noLs (ds.map (uj cs))=true:=by
 induction ds with
 |nil=>rfl
 |cons d r ih=>
  have ih':=ih fun x hx=>rd x (zd2 _ hx)
  have h1:=(rd d zd7).1
  obtain⟨s',a,b,v,hs,rfl,ei⟩:=wZ (cs:=cs) h1
  obtain⟨z1,z2,z3⟩:=hV h1
  rw[zg0,ei]
  simp only[noLs,ih',Bool.and_true]
  simp[tO,xU,noL,oA,z1,z2,z3]
theorem ib {f C:Addr}{dV:Value}{fd:FuncData}(F:cv K "__init__" "Book.__init__" yQ dV f fd)(c:Cls K C)(na:yt K C "kept")(CK:Cal P w K mg base "kept_rules" 8 (oX cs)):zB P w K mg base CX0 9 f fd ["self","rules"] (spI C (uK C cs)):=by
 refine aK (N:=[]) F za0 c na rfl (fun as Q h=>?_) (fun cdv A' outer s H E as Q hr h=>?_) (fun _ _ _ _ _ _=>rfl) (Or.inl rfl)
 ·obtain⟨ds,h|⟨h,_⟩,_⟩:=h<;>rw[h]<;>rfl
 ·obtain⟨ds,h|⟨h,hz⟩,rd,hl,q⟩:=h
  ·subst h
   exact uR CK hr (by rfl) (zb (ou (rp (zg 1 rfl (uP (zg 1 rfl (zk ⟨_,rfl,rd,hl,_,rfl,qw rd,q⟩)))))))
  ·subst h hz
   exact uR CK hr (by rfl) (zb (ou (rp (zg 1 rfl (ux (EvL.d (yh (zk ⟨_,rfl,ze2 rfl,zk ⟨[],rfl,rd,hl,_,rfl,qw rd,q⟩⟩))))))))
theorem za8 :zl ["self"] ["self"] (zc wG):=⟨rfl,rfl,rfl,by decide +kernel,rfl,by decide +kernel,by decide +kernel⟩
theorem ai :zT ["self"] (zc wG) ["rule"] [none] gc:=⟨rfl,by decide +kernel,by decide +kernel,by decide +kernel,by decide +kernel,rfl,by decide +kernel⟩
set_option maxHeartbeats 4000000 in
theorem mZ {f C:Addr}{fd:FuncData}(F:Fun K "rules" "Book.rules" wG f fd)(c:Cls K C)(na:yt K C "kept")(hb:Binds K fd ["self"] [])(O:∀w'∈words,xI P w K mg base (cs.of w') "told" 2 (om (cs.of w') w')):zB P w K mg base CX0 3 f fd ["self"] (spA (vg C cs)):=by
 refine fnA F za8 (fun as Q h=>?_) (fun cdv A' outer s H E as Q hr h=>?_)
 ·obtain⟨ds,rfl,_⟩:=h
  rfl
 ·obtain⟨ds,rfl,rd,hl,q⟩:=h
  refine uA (eQ (pat:=.one 0) rfl ai rfl (fun _ _ _ _=>ym (i:=0) ai.nd rfl (Or.inl rfl)) (xN (pK c na (zg 0 rfl ⟨_,_,rfl,rfl,⟨_,rfl,by rw[zd5];exact hl,?comp⟩⟩))))
  case comp=>
   refine sR (fun i acc=>acc=ds.take i) rfl ?_ (fun acc h=>?_)
   ·rintro i d acc hd rfl
    rw[ze4,zf0] at hd
    obtain⟨e,he,rfl⟩:=hd
    obtain⟨s',a,b,v,hs,rfl,ei⟩:=wZ (cs:=cs) (rd e (zf7 he)).1
    refine⟨_,rfl,fun C s2 H2 fp=>iC ?_⟩
    rw[if_pos rfl]
    refine fun C s2 H2 fp=>tR (O s' hs) hr (zg 0 rfl ⟨_,rfl,rfl,_,_,_,rfl,?_⟩)
    show ds.take i++[_]=ds.take (i+1)
    rw[zj3,he]
    rfl
   ·rw[zd5,zi8] at h
    rw[h]
    exact q
end
abbrev rh :Stmt:=inClass (top 33) 2
abbrev oY :Stmt:=top 24
def tbU :List (Str×V):=[("price",.non),("come",.bl true),("go",.bl true),("least",.int 1),("most",.int 14),("deal",.non),("fee",.int 0)]
def rZ (x:Str):PyData:=if x="price"∨x="deal" then .none else if x="come"∨x="go" then .bool true else if x="least" then .int 1 else if x="most" then .int 14 else .int 0
theorem il {x:Str}(h:x∈words):∃v,tbU.lookup x=some v∧scV (rZ x)=some v:=by
 simp only[words,zc9,zd4,zf4] at h
 rcases h with rfl|rfl|rfl|rfl|rfl|rfl|rfl
 ·exact⟨.non,by decide +kernel,by decide +kernel⟩
 ·exact⟨.bl true,by decide +kernel,by decide +kernel⟩
 ·exact⟨.bl true,by decide +kernel,by decide +kernel⟩
 ·exact⟨.int 1,by decide +kernel,by decide +kernel⟩
 ·exact⟨.int 14,by decide +kernel,by decide +kernel⟩
 ·exact⟨.non,by decide +kernel,by decide +kernel⟩
 ·exact⟨.int 0,by decide +kernel,by decide +kernel⟩
theorem ku (x:Str):zS 5000 (rZ x):=by
 have b0:(0:Int)<big:=by decide +kernel
 have b1:(14:Int)<big:=by decide +kernel
 have i1:∀i:Int,0≤i→i≤14→zS 5000 (.int i):=fun i h0 h1=>(zS.int (by omega) (by omega)).mono (by decide)
 unfold rZ
 split
 ·exact zS.none.mono (by decide)
 ·split
  ·exact (zS.bool _).mono (by decide)
  ·split
   ·exact i1 _ (by decide) (by decide)
   ·split
    ·exact i1 _ (by decide) (by decide)
    ·exact i1 _ (by decide) (by decide)
def yF (w:Str)(day:Int):PyData→Bool
 |.tuple [.str x,.int a,.int b,_]=>decide (x=w)&&(decide (a≤day)&&decide (day≤b))
 |_=>false
def wz :PyData→PyData
 |.tuple [_,_,_,v]=>v
 |_=>.none
def zu (ds:List PyData)(w:Str)(day:Int):PyData:=match ds.reverse.find? (yF w day) with
 |some d=>wz d
 |none=>rZ w
theorem qT (ds:List PyData)(d:PyData)(w:Str)(day:Int):zu (ds++[d]) w day=if yF w day d=true then wz d else zu ds w day:=by
 unfold zu
 rw[zp5,List.reverse_singleton,List.singleton_append,zg5]
 cases yF w day d<;>simp
theorem uJ {p:PyData→Bool}{e:PyData}:∀{l:List PyData} {i:Nat},(∀j<i,∀d,l[j]?=some d→p d=false)→l[i]?=some e→p e=true→l.find? p=some e
 |[],i,_,h,_=>by simp at h
 |d::l,0,_,h,q=>by
  simp at h;subst h
  simp[zg5,q]
 |d::l,i+1,a,h,q=>by
  have hd:=a 0 (Nat.succ_pos _) d rfl
  rw[zg5,hd]
  exact uJ (i:=i) (fun j hj x hx=>a (j+1) (Nat.succ_lt_succ hj) x (by simpa using hx)) (by simpa using h) q
theorem gC {p:PyData→Bool}{l:List PyData}(h:∀(j:Nat) d,l[j]?=some d→p d=false):l.find? p=none:=by
 rw[zp7]
 intro x hx
 obtain⟨j,hj⟩:=List.mem_iff_getElem?.mp hx
 rw[h j x hj];simp
theorem yy {d:PyData}(h:yp d=true):∃(s:Str) (i j:Int) (v:PyData),s∈words∧d=.tuple [.str s,.int i,.int j,v]∧0≤i∧i≤j∧j≤1000000∧zC (.str s) v=true:=by
 obtain⟨s,a,b,v,hs,rfl⟩:=xi h
 have h':(yb (.tuple [a,b])&&zC (.str s) v)=true:=h
 rw[ze9] at h'
 have h1:=h'.1
 unfold yb tZ at h1
 split at h1
 ·rename_i k e
  split at e
  ·rename_i z
   cases z
   split at e
   ·rename_i q
    cases e
    rw[ze9] at q
    rename_i a' b'
    have qa:(decide (0≤a')&&decide (a'≤1000000))=true:=q.1
    have qb:(decide (0≤b')&&decide (b'≤1000000))=true:=q.2
    rw[ze9,zg3,zg3] at qa qb
    have h2:=zl8 h1
    exact⟨s,a',b',v,hs,rfl,qa.1,by omega,qb.2,h'.2⟩
   ·cases e
  ·cases e
 ·cases h1
theorem mJ (a b v:PyData):uu [(.str "first",a),(.str "last",b),(.str "worth",v)] "worth"=some v:=by
 show (if ("worth":Str)="first" then _ else _)=_
 rw[if_neg iz]
 show (if ("worth":Str)="last" then _ else _)=_
 rw[if_neg jX]
 show (if ("worth":Str)="worth" then _ else _)=_
 rw[if_pos rfl]
def qq :List A→(A→Prop)→Prop:=fun as Q=>∃x,as=[.dat (.str x)]∧x∈words∧Q (.dat (rZ x))
def pP (C:Addr)(w:Str):List A→(A→Prop)→Prop:=fun as Q=>∃a b v,as=[.dat (tO C a b v)]∧Q (.dat (.str w))
def uH (C:Addr):List A→(A→Prop)→Prop:=fun as Q=>∃(a b day:Int) (v:PyData),as=[.dat (tO C (.int a) (.int b) v),.dat (.int day)]∧Q (.dat (.bool (decide (a≤day)&&decide (day≤b))))
def qm (C:Addr)(cs:Cs):List A→(A→Prop)→Prop:=fun as Q=>∃ds x day,as=[.dat (xC C cs ds),.dat (.str x),.dat (.int day)]∧Rules ds∧x∈words∧Q (.dat (zu ds x day))
section
variable {P:Program}{w:World}{K:PySem.W.Frag}{mg:Str→Option Value}{base:Heap}{cs:Cs}
theorem aX :zl ["word"] ["word"] (zc oY):=⟨rfl,rfl,rfl,by decide +kernel,rfl,by decide +kernel,by decide +kernel⟩
theorem lQ {f dU:Addr}{fd:FuncData}(F:Fun K "usual" "usual" oY f fd)(hm:mg "usual"=some (.ref f))(hb:Binds K fd ["word"] [])(mU:mg "USUAL"=some (.ref dU))(DU:nP K w dU tbU):Cal P w K mg base "usual" 1 qq:=by
 refine vF F hm hb aX (fun as Q h=>?_) (fun cdv A' outer s H E as Q hr h=>?_)
 ·obtain⟨x,rfl,_⟩:=h
  rfl
 ·obtain⟨x,rfl,hx,q⟩:=h
  obtain⟨v,h1,h2⟩:=il hx
  exact yz (iL (by rfl) mU DU (zg 0 rfl ⟨x,rZ x,v,rfl,h1,h2,q⟩))
theorem yH {C f fIn fT fE:Addr}{fd:FuncData}{wd:Str}(R:xl K C fIn fT fE f)(hb:Binds K fd ["self"] [])(G:zB P w K mg base CX0 1 f fd ["self"] (xG wd)):xI P w K mg base C "word" 1 (pP C wd):=by
 refine⟨f,fd,_,R.cl,R.word,hb,G.imp fun vs H Q E h=>?_⟩
 obtain⟨F,as,Q',rfl,t,o,rv,⟨a,b,v,rfl,q⟩,kk⟩:=h
 obtain⟨x,rfl,av⟩:=rv.one
 obtain⟨p,dx,fs,rfl,h1,h2⟩:=av.ins_inv
 exact⟨p,rfl,kk _ _ _ q ⟨t,Kz.refl,.str _⟩⟩
theorem yq {C f fIn fT fWd:Addr}{fd:FuncData}(R:xl K C fIn fT f fWd)(hb:Binds K fd ["self","day"] [])(G:zB P w K mg base CX0 1 f fd ["self","day"] (nO C)):xI P w K mg base C "tells" 1 (uH C):=by
 refine⟨f,fd,_,R.cl,R.tells,hb,G.imp fun vs H Q E h=>?_⟩
 obtain⟨F,as,Q',rfl,t,o,rv,⟨a,b,day,v,rfl,q⟩,kk⟩:=h
 obtain⟨x,y,rfl,av,ay⟩:=rv.two
 cases ay.int_inv
 obtain⟨p,dx,fs,rfl,h1,h2⟩:=av.ins_inv
 cases h2 with
 |cons g1 h2=>
  cases h2 with
  |cons g2 h2=>
   cases h2 with
   |cons g3 h2=>
    cases h2
    cases g1.int_inv
    cases g2.int_inv
    exact⟨p,dx,a,b,day,_,rfl,by rw[rg];exact (zf h1).2,kk _ _ _ q ⟨t,Kz.refl,.bl _⟩⟩
theorem az :zl ["self","word","day","rule"] ["self","word","day"] (zc rh):=⟨rfl,rfl,rfl,by decide +kernel,rfl,by decide +kernel,by decide +kernel⟩
set_option maxHeartbeats 4000000 in
theorem lS {f C:Addr}{fd:FuncData}(F:Fun K "tells_of" "Book.tells_of" rh f fd)(c:Cls K C)(na:yt K C "kept")(nb:NbT mg)(CU:Cal P w K mg base "usual" 1 qq)(OW:∀u∈words,xI P w K mg base (cs.of u) "word" 1 (pP (cs.of u) u))(OR:∀u∈words,xI P w K mg base (cs.of u) "tells" 1 (uH (cs.of u)))
  (OC:∀u∈words,Cls K (cs.of u)∧yt K (cs.of u) "worth"):zB P w K mg base CX0 2 f fd ["self","word","day"] (spA (qm C cs)):=by
 refine fnA F az (fun as Q h=>?_) (fun cdv A' outer s H E as Q hr h=>?_)
 ·obtain⟨ds,x,d,rfl,_⟩:=h
  rfl
 ·obtain⟨ds,x,day,rfl,rd,hx,q⟩:=h
  refine rH (pat:=.one 3) zn2 rfl (ym (i:=3) az.nd rfl (Or.inl rfl)) (cY (by rfl) nb.reversed (pK c na (zg 0 rfl ⟨_,_,rfl,rfl,⟨_,rfl,?_⟩⟩)))
  refine zW (fun i α=>(∃v3,α=[some (.dat (xC C cs ds)),some (.dat (.str x)),some (.dat (.int day)),v3])∧∀j<i,∀d,ds.reverse[j]?=some d→yF x day d=false) ⟨⟨none,rfl⟩,fun j hj=>absurd hj (zp2 _)⟩ ?_ ?_
  ·rintro i d α hd ⟨⟨v3,rfl⟩,hno⟩
   rw[←List.map_reverse,ze4,zf0] at hd
   obtain⟨e,he,rfl⟩:=hd
   have hme:e∈ds:=zk0.mp (zf7 he)
   obtain⟨u,a,b,v,hu,rfl,_,_,_,_⟩:=yy (rd e hme).1
   refine⟨_,rfl,?_⟩
   refine xB (EvW.t (nM (fun _ k=>rA (tR (OW u hu) hr (zg 3 rfl ⟨_,rfl,rfl,_,_,_,rfl,zg 1 rfl ⟨_,_,rfl,rfl,k⟩⟩)))
    (fun hp _ k=>uE (jz (nC (OR u hu) hr (zg 3 rfl ⟨_,rfl,rfl,zb (zg 2 rfl (zk ⟨_,_,_,_,rfl,_,rfl,k⟩))⟩)))) ?_))
   refine yM (fun h=>?_) (fun h=>?_)
   ·refine yz (pK (OC u hu).1 (OC u hu).2 (zg 3 rfl ⟨_,_,rfl,mJ _ _ _,?_⟩))
    have e1:ds.reverse.find? (yF x day)=some (.tuple [.str u,.int a,.int b,v]):=uJ hno he h
    unfold zu at q
    rw[e1] at q
    exact q
   ·refine zq (zq ⟨⟨_,rfl⟩,fun j hj d' hd'=>?_⟩)
    rcases zg9 j i with z|z
    ·exact hno j z d' hd'
    ·have:j=i:=by omega
     subst this
     rw[he] at hd';cases hd'
     exact h
  ·rintro α ⟨⟨v3,rfl⟩,hno⟩
   refine yz (zD CU (hr.mono (by decide)) (by rfl) (zb (zg 1 rfl (zk ⟨x,rfl,hx,?_⟩))))
   have e1:ds.reverse.find? (yF x day)=none:=gC fun j d hd=>hno j (by
    have:=(zd1.mp hd).1
    rw[zm7,zd5]
    rwa [zm7] at this) d hd
   unfold zu at q
   rw[e1] at q
   exact q
end
structure vd (d:PyData):Prop where
 rule:yp d=true
 nice:zS 20011 d
 dep:d.depth≤2
 wn:zS 5000 (wz d)
def zA (ds:List PyData):Prop:=∀d∈ds,vd d
theorem lL {s:Str}(h:s∈words):zS 2000 (.str s):=by
 simp only[words,zc9,zd4,zf4] at h
 rcases h with rfl|rfl|rfl|rfl|rfl|rfl|rfl<;>exact⟨rfl,rfl,ze8 _,by decide +kernel,by decide +kernel⟩
theorem vd.of {s:Str}{i j:Int}{d:PyData}(hs:s∈words)(i0:0≤i)(ij:i≤j)(j1:j≤1000000)(hw:zC (.str s) d=true)(hn:zS 5000 d)(hd:d.depth≤1):vd (.tuple [.str s,.int i,.int j,d]):=by
 have hbig:(1000001:Int)<big:=by decide
 have hneg:-big<(0:Int):=by decide
 have na:ye 5000 [.str s,.int i,.int j,d]:=by
  constructor
  ·intro x hx
   simp only[zc9,zd4,zf4] at hx
   rcases hx with rfl|rfl|rfl|rfl
   ·exact (lL hs).mono (by decide)
   ·exact (zS.int (by omega) (by omega)).mono (by decide)
   ·exact (zS.int (by omega) (by omega)).mono (by decide)
   ·exact hn
  ·intro x hx
   simp only[zc9,zd4,zf4] at hx
   rcases hx with rfl|rfl|rfl|rfl
   ·exact ze8 _
   ·exact ze8 _
   ·exact ze8 _
   ·omega
 refine⟨?_,zS.tuple na (by show 4*(5000+2)+3≤20011;decide),?_,hn⟩
 ·show (yb (.tuple [.int i,.int j])&&zC (.str s) d)=true
  rw[hw,Bool.and_true]
  unfold yb tZ
  have h1:(vC (.int i)&&vC (.int j))=true:=by
   show ((decide (0≤i)&&decide (i≤1000000))&&(decide (0≤j)&&decide (j≤1000000)))=true
   simp only[ze9,zg3]
   omega
  simp only[h1,zn7,zg3]
  omega
 ·simp only[PyData.depth,PyData.depthAll]
  omega
theorem zA.rules {ds:List PyData}(h:zA ds):Rules ds:=fun d hd=>⟨(h d hd).rule,(h d hd).nice.shaped,(h d hd).nice.nod⟩
theorem zA.nice {ds:List PyData}(h:zA ds)(hl:ds.length≤100):zS sizeLine (.list ds):=by
 refine zS.list (n:=20011) ⟨fun d hd=>(h d hd).nice,fun d hd=>by have:=(h d hd).dep;omega⟩ ?_
 have h2:ds.length*(20011+2)≤100*(20011+2):=Nat.mul_le_mul_right _ hl
 have h3:100*(20011+2)+2≤sizeLine:=by decide
 omega
abbrev rC :Stmt:=top 43
abbrev rS :Stmt:=top 44
abbrev oy :Stmt:=top 45
abbrev kN :Stmt:=top 47
theorem xh (d:PyData):zC (.str "price") d=(isNone d||uc d):=by unfold zC;rw[if_pos (by decide +kernel)]
theorem wY (d:PyData):zC (.str "come") d=isBool d:=by unfold zC;rw[if_neg (by decide +kernel),if_pos (by decide +kernel)]
theorem qN (d:PyData):zC (.str "go") d=isBool d:=by unfold zC;rw[if_neg (by decide +kernel),if_pos (by decide +kernel)]
theorem wt (d:PyData):zC (.str "least") d=zQ 1 14 d:=by unfold zC;rw[if_neg (by decide +kernel),if_neg (by decide +kernel),if_pos (by decide +kernel)]
theorem wV (d:PyData):zC (.str "most") d=zQ 1 14 d:=by unfold zC;rw[if_neg (by decide +kernel),if_neg (by decide +kernel),if_pos (by decide +kernel)]
theorem vc (d:PyData):zC (.str "deal") d=(isNone d||vm d):=by unfold zC;rw[if_neg (by decide +kernel),if_neg (by decide +kernel),if_neg (by decide +kernel),if_pos (by decide +kernel)]
theorem vZ (d:PyData):zC (.str "fee") d=uc d:=by
 unfold zC;rw[if_neg (by decide +kernel),if_neg (by decide +kernel),if_neg (by decide +kernel),if_neg (by decide +kernel)]
 have:eqS (.str "fee") "fee"=true:=by decide +kernel
 rw[this,zi2]
theorem within_int {lo hi i:Int}(h1:lo≤i)(h2:i≤hi):zQ lo hi (.int i)=true:=by
 show (decide (lo≤i)&&decide (i≤hi))=true
 rw[zh0 h1,zh0 h2];rfl
theorem xY {i:Int}(h0:-2000000000000≤i)(h1:i≤2000000000000):zS 2000 (.int i):=zS.int (by unfold big;omega) (by unfold big;omega)
def nF :List A→(A→Prop)→Prop:=fun as Q=>as=[.tape]∧∀z:Int,0≤z→z≤1000000000000→Q (.dat (.int z))
def qY :List A→(A→Prop)→Prop:=fun as Q=>∃wd,as=[.tape,.dat (.str wd)]∧wd∈words∧∀d,zC (.str wd) d=true→zS 5000 d→d.depth≤1→Q (.dat d)
def nD :List A→(A→Prop)→Prop:=fun as Q=>∃y:Int,as=[.tape,.dat (.int y)]∧0≤y∧y≤1000000∧∀d,vd d→Q (.dat d)
def js :List A→(A→Prop)→Prop:=fun as Q=>as=[.tape]∧∀z:Int,0≤z→z≤999990→Q (.dat (.int z))
section
variable {P:Program}{w:World}{K:PySem.W.Frag}{mg:Str→Option Value}{base:Heap}
theorem fz :zl ["_law_row","_law_few","_law_many_here","_law_great"] ["_law_row"] (zc rC):=⟨rfl,rfl,rfl,by decide +kernel,rfl,by decide +kernel,by decide +kernel⟩
set_option maxHeartbeats 4000000 in
theorem mI {f:Addr}{fd:FuncData}(F:Fun K "_law_coins" "_law_coins" rC f fd)(hm:mg "_law_coins"=some (.ref f))(hb:Binds K fd ["_law_row"] [])(CD:Cal P w K mg base "_law_take" 1 xE):Cal P w K mg base "_law_coins" 2 nF:=by
 refine vF F hm hb fz (fun as Q h=>?_) (fun cdv A' outer s H E as Q hr h=>?_)
 ·obtain⟨rfl,_⟩:=h
  rfl
 ·obtain⟨rfl,q⟩:=h
  refine yj 1 fz.nd (zD CD hr (by rfl) (zy 0 rfl (zb (zo (zk (⟨_,rfl,by decide,by decide,fun v1 h1 g1=>?_⟩))))))
  refine yj 2 fz.nd (sU (zo (zD CD hr (by rfl) (zy 0 rfl (zb (zo (zk (⟨_,rfl,by decide,by decide,fun v2 h2 g2=>⟨_,_,rfl,rfl,.inl ⟨by decide,by decide⟩,?_⟩⟩))))))))
  refine yj 3 fz.nd (yR (sU (zD CD hr (by rfl) (zy 0 rfl (zb (yJ (r:=1000000) ⟨by decide,by decide,by decide⟩ (by decide) (zk (⟨_,rfl,by decide,by decide,fun v4 h4 g4=>yJ (r:=1000000) ⟨by decide,by decide,by decide⟩ (by decide) (⟨_,_,rfl,rfl,.inr ⟨by decide,by decide⟩,zD CD hr (by rfl) (zy 0 rfl (zb (yJ (r:=1000000) ⟨by decide,by decide,by decide⟩ (by decide) (zk (⟨_,rfl,by decide,by decide,fun v3 h3 g3=>⟨_,_,rfl,rfl,?_⟩⟩)))))⟩)⟩))))))))
  refine yz (wj (fun _ _=>rfl) (EvL.d (yh (zb (zg 1 rfl (zb (zg 2 rfl (zb (yR (zg 1 rfl (sU (zo (zg 2 rfl (⟨_,_,rfl,rfl,.inl ⟨by decide,by decide⟩,⟨_,_,rfl,rfl,zb (zg 3 rfl (zb (yJ (r:=1000000000000) ⟨by decide,by decide,by decide⟩ (by decide) (zk (⟨_,rfl,ze2 rfl,me (zD CD hr (by rfl) (zy 0 rfl (zb (zo (zk (⟨_,rfl,by decide,by decide,fun v5 h5 g5=>zo (⟨_,_,rfl,rfl,⟨by decide,by decide +kernel⟩,?_⟩)⟩))))))⟩)))))⟩⟩))))))))))))))
  obtain⟨z,hz,e⟩:=vw (ds:=[PyData.int v1,.int (10*v2),.int (v1+10*(10*v2)),.int (v4*1000000+v3),.int 1000000000000]) (v:=v5 / 2) (by omega) (by show v5 / 2<5;omega)
  refine⟨_,_,z,rfl,rfl,e,?_⟩
  simp only[zc9,zd4,zf4] at hz
  rcases hz with rfl|rfl|rfl|rfl|rfl
  ·exact q _ (by omega) (by omega)
  ·exact q _ (by omega) (by omega)
  ·exact q _ (by omega) (by omega)
  ·exact q _ (by omega) (by omega)
  ·exact q _ (by omega) (by omega)
theorem eJ :zl ["_law_row","_law_word","_law_many_here","_law_free","_law_coins_here"] ["_law_row","_law_word"] (zc rS):=⟨rfl,rfl,rfl,by decide +kernel,rfl,by decide +kernel,by decide +kernel⟩
theorem jE (s a b:Str):inD (.str s) [.str a,.str b]=(decide (a=s)||decide (b=s)):=by
 show ((a == s)||((b == s)||false))=_
 rw[Bool.or_false]
 by_cases h1:a=s<;>by_cases h2:b=s<;>simp[h1,h2]
set_option maxHeartbeats 4000000 in
theorem lF {f:Addr}{fd:FuncData}(F:Fun K "_law_worth" "_law_worth" rS f fd)(hm:mg "_law_worth"=some (.ref f))(hb:Binds K fd ["_law_row","_law_word"] [])(CD:Cal P w K mg base "_law_take" 1 xE)(CC:Cal P w K mg base "_law_coins" 2 nF):Cal P w K mg base "_law_worth" 3 qY:=by
 refine vF F hm hb eJ (fun as Q h=>?_) (fun cdv A' outer s H E as Q hr h=>?_)
 ·obtain⟨wd,rfl,_⟩:=h
  rfl
 ·obtain⟨wd,rfl,hw,q⟩:=h
  have hr1:=hr.mono (show 1≤2 by decide)
  have hbig:(1000001:Int)<big:=by decide
  refine xB (eS (zg 1 rfl (vf (zb (zO (zb (zO (zk (⟨_,rfl,ze2 rfl,⟨_,.inr rfl,rfl,rfl,?_⟩⟩)))))))))
  rw[jE]
  refine yM (fun hc=>?_) (fun hc=>zq ?_)
  ·refine yz (cX (zD CD hr1 (by rfl) (zy 0 rfl (zb (zo (zk (⟨_,rfl,by decide,by decide,fun v1 h1 g1=>zo (⟨_,_,rfl,rfl,?_⟩)⟩)))))))
   refine q _ ?_ ((zS.bool _).mono (by decide)) (ze8 _)
   simp only[zj0,zg3] at hc
   rcases hc with rfl|rfl
   ·rw[wY];rfl
   ·rw[qN];rfl
  simp only[zp0,zo1] at hc
  refine xB (eS (zg 1 rfl (vf (zb (zO (zb (zO (zk (⟨_,rfl,ze2 rfl,⟨_,.inr rfl,rfl,rfl,?_⟩⟩)))))))))
  rw[jE]
  refine yM (fun h2=>?_) (fun h2=>zq ?_)
  ·refine yz (yR (zo (zD CD hr1 (by rfl) (zy 0 rfl (zb (EvD.imp (Q':=fun d=>∃z:Int,d=.int z∧0<z∧z≤14) (wj (fun _ _=>rfl) (EvL.d (yh (zb (zo (zb (zo (zk (⟨_,rfl,ze2 rfl,zD CD hr1 (by rfl) (zy 0 rfl (zb (zo (zk (⟨_,rfl,by decide,by decide,fun v3 h3 g3=>?pick⟩)))))⟩))))))))) ?_))))))
   case pick=>
    obtain⟨z,hz,e⟩:=vw (ds:=[PyData.int 4,.int 14]) h3 g3
    refine⟨_,_,z,rfl,rfl,e,?_⟩
    simp only[zc9,zd4,zf4] at hz
    rcases hz with rfl|rfl
    ·exact⟨_,rfl,by decide,by decide⟩
    ·exact⟨_,rfl,by decide,by decide⟩
   rintro _ ⟨z,rfl,z0,z1⟩
   refine zk ⟨_,rfl,z0,by omega,fun v2 h2' g2=>⟨_,_,rfl,rfl,?_⟩⟩
   refine q _ ?_ ((xY (by omega) (by omega)).mono (by decide)) (ze8 _)
   simp only[zj0,zg3] at h2
   rcases h2 with rfl|rfl
   ·rw[wt];exact within_int (by omega) (by omega)
   ·rw[wV];exact within_int (by omega) (by omega)
  simp only[zp0,zo1] at h2
  refine xB (rA (zg 1 rfl (zO (⟨_,_,rfl,rfl,?_⟩))))
  refine yM (fun h3=>?_) (fun h3=>zq ?_)
  ·rw[zg3] at h3
   subst h3
   refine yj 2 eJ.nd (yR (zo (zD CD hr1 (by rfl) (zy 0 rfl (zb (EvD.imp (Q':=fun d=>∃z:Int,d=.int z∧0<z∧z≤13) (wj (fun _ _=>rfl) (EvL.d (yh (zb (zo (zb (zo (zk (⟨_,rfl,ze2 rfl,zD CD hr1 (by rfl) (zy 0 rfl (zb (zo (zk (⟨_,rfl,by decide,by decide,fun v3 h3 g3=>?pick⟩)))))⟩))))))))) ?_))))))
   case pick=>
    obtain⟨z,hz,e⟩:=vw (ds:=[PyData.int 3,.int 13]) h3 g3
    refine⟨_,_,z,rfl,rfl,e,?_⟩
    simp only[zc9,zd4,zf4] at hz
    rcases hz with rfl|rfl
    ·exact⟨_,rfl,by decide,by decide⟩
    ·exact⟨_,rfl,by decide,by decide⟩
   rintro _ ⟨z,rfl,z0,z1⟩
   refine zk ⟨_,rfl,z0,by omega,fun v4 h4 g4=>⟨_,_,rfl,rfl,?_⟩⟩
   refine yj 3 eJ.nd (yR (zo (zD CD hr1 (by rfl) (zy 0 rfl (zb (uY (zg 2 rfl (zo (⟨_,_,rfl,rfl,zk (⟨_,rfl,by omega,by omega,fun v6 h6 g6=>⟨_,_,rfl,rfl,?_⟩⟩)⟩)))))))))
   refine yz (wj (fun _ _=>rfl) (EvL.d (yh (zb (vf (zb (zg 2 rfl (zb (zg 3 rfl (zk (⟨_,rfl,ze2 rfl,zb (vf (zb (zg 2 rfl (zb (zg 3 rfl (zk (⟨_,rfl,ze2 rfl,zb (tG (zk (⟨_,rfl,ze2 rfl,zD CD hr1 (by rfl) (zy 0 rfl (zb (zo (zk (⟨_,rfl,by decide,by decide,fun v7 h7 g7=>?_⟩)))))⟩)))⟩)))))))⟩)))))))))))
   obtain⟨u,hu,e⟩:=vw (ds:=[PyData.tuple [.int (2+v4),.int (1+v6)],.tuple [.int (2+v4),.int (1+v6)],.none]) h7 g7
   refine⟨_,_,u,rfl,rfl,e,?_⟩
   have dl:Q (.dat (.tuple [.int (2+v4),.int (1+v6)])):=by
    refine q _ ?_ (zS.tuple (n:=2000) (ye.two (xY (by omega) (by omega)) (xY (by omega) (by omega)) (ze8 _) (ze8 _)) (by show 2*(2000+2)+3≤5000;decide)) (zd6 _)
    rw[vc]
    show (false||(zQ 2 14 (.int (2+v4))&&zQ 1 (2+v4-1) (.int (1+v6))))=true
    rw[within_int (by omega) (by omega),within_int (by omega) (by omega)];rfl
   simp only[zc9,zd4,zf4] at hu
   rcases hu with rfl|rfl|rfl
   ·exact dl
   ·exact dl
   ·exact q _ (by rw[vc];rfl) (zS.none.mono (by decide)) (ze8 _)
  rw[zo1] at h3
  have hs:wd="price"∨wd="fee":=by
   simp only[words,zc9,zd4,zf4] at hw
   rcases hw with z|z|z|z|z|z|z
   ·exact .inl z
   ·exact absurd z.symm hc.1
   ·exact absurd z.symm hc.2
   ·exact absurd z.symm h2.1
   ·exact absurd z.symm h2.2
   ·exact absurd z h3
   ·exact .inr z
  refine yj 4 eJ.nd (zD CC hr (by rfl) (zy 0 rfl (zk (⟨rfl,fun c8 p8 q8=>?_⟩))))
  have last:Q (.dat (.int c8)):=by
   refine q _ ?_ ((xY (by omega) (by omega)).mono (by decide)) (ze8 _)
   rcases hs with rfl|rfl
   ·rw[xh];show (false||zQ 0 1000000000000 (.int c8))=true;rw[within_int p8 q8];rfl
   ·rw[vZ];exact within_int p8 q8
  refine xB (EvW.t (rE (rA (zg 1 rfl (zO (⟨_,_,rfl,rfl,?_⟩))))))
  refine yu (fun h9=>?_) (fun h9=>?_)
  ·rw[zg3] at h9
   subst h9
   refine uE (dM (zD CD hr1 (by rfl) (zy 0 rfl (zb (zo (zk (⟨_,rfl,by decide,by decide,fun v9 h9 g9=>zo (⟨_,_,rfl,rfl,?_⟩)⟩)))))))
   refine oM (fun _=>yz (tG ?_)) (fun _=>zq (yz (zg 4 rfl last)))
   exact q _ (by rw[xh];rfl) (zS.none.mono (by decide)) (ze8 _)
  ·exact yM (fun z=>nomatch z) (fun _=>zq (yz (zg 4 rfl last)))
theorem jP :zl ["_law_row","_law_day_here","_law_word","_law_ahead","_law_first","_law_last"] ["_law_row","_law_day_here"] (zc oy):=⟨rfl,rfl,rfl,by decide +kernel,rfl,by decide +kernel,by decide +kernel⟩
set_option maxHeartbeats 8000000 in
theorem iM {f:Addr}{fd:FuncData}(F:Fun K "_law_rule" "_law_rule" oy f fd)(hm:mg "_law_rule"=some (.ref f))(hb:Binds K fd ["_law_row","_law_day_here"] [])(nb:NbT mg)(CD:Cal P w K mg base "_law_take" 1 xE)(CW:Cal P w K mg base "_law_worth" 3 qY):Cal P w K mg base "_law_rule" 4 nD:=by
 refine vF F hm hb jP (fun as Q h=>?_) (fun cdv A' outer s H E as Q hr h=>?_)
 ·obtain⟨y,rfl,_⟩:=h
  rfl
 ·obtain⟨y,rfl,y0,y1,q⟩:=h
  have hr1:=hr.mono (show 1≤3 by decide)
  refine yj 2 jP.nd (EvD.imp (Q':=fun d=>∃x,d=.str x∧x∈words) (wj (fun _ _=>rfl) (EvL.d (yh (zb (zO (zb (zO (zb (zO (zb (zO (zb (zO (zb (zO (zb (zO (zb (zO (zb (zO (zk (⟨_,rfl,ze2 rfl,zD CD hr1 (by rfl) (zy 0 rfl (zb (zo (zk (⟨_,rfl,by decide,by decide,fun v1 h1 g1=>?pick⟩)))))⟩))))))))))))))))))))))) ?_)
  case pick=>
   obtain⟨z,hz,e⟩:=vw (ds:=[PyData.str "price",.str "price",.str "price",.str "come",.str "go",.str "least",.str "most",.str "deal",.str "fee"]) h1 g1
   refine⟨_,_,z,rfl,rfl,e,?_⟩
   simp only[zc9,zd4,zf4] at hz
   rcases hz with rfl|rfl|rfl|rfl|rfl|rfl|rfl|rfl|rfl<;>exact⟨_,rfl,by simp[words]⟩
  rintro _ ⟨wd,rfl,hw⟩
  refine yj 3 jP.nd (EvD.imp (Q':=fun d=>∃z:Int,d=.int z) (wj (fun _ _=>rfl) (EvL.d (yh (zb (uY (zD CD hr1 (by rfl) (zy 0 rfl (zb (zo (zk (⟨_,rfl,by decide,by decide,fun v4 h4 g4=>zo (⟨_,_,rfl,rfl,zb (zD CD hr1 (by rfl) (zy 0 rfl (zb (zo (zk (⟨_,rfl,by decide,by decide,fun v3 h3 g3=>zb (jh (zg 1 rfl (⟨_,rfl,zb (zo (zk (⟨_,rfl,ze2 rfl,zD CD hr1 (by rfl) (zy 0 rfl (zb (zo (zk (⟨_,rfl,by decide,by decide,fun v2 h2 g2=>?pick⟩)))))⟩)))⟩)))⟩))))))⟩)⟩))))))))))) ?_)
  case pick=>
   obtain⟨z,hz,e⟩:=vw (ds:=[PyData.int (v4-3),.int v3,.int (-y),.int 0]) h2 g2
   refine⟨_,_,z,rfl,rfl,e,?_⟩
   simp only[zc9,zd4,zf4] at hz
   rcases hz with rfl|rfl|rfl|rfl<;>exact⟨_,rfl⟩
  rintro _ ⟨ah,rfl⟩
  refine vU (fun α=>∃fi:Int,0≤fi∧fi≤1000000∧α=[some .tape,some (.dat (.int y)),some (.dat (.str wd)),some (.dat (.int ah)),some (.dat (.int fi)),none]) ?_ ?_
  ·refine yj 4 jP.nd (ox rfl (by rfl) nb.min (yJ (r:=1000000) ⟨by decide,by decide,by decide⟩ (by decide) (jV rfl (by rfl) nb.max (zo (yR (zg 1 rfl (zg 3 rfl (⟨_,_,rfl,rfl,⟨_,_,rfl,rfl,⟨_,_,rfl,rfl,zq ⟨_,?_,?_,rfl⟩⟩⟩⟩))))))))
   ·split<;>split<;>omega
   ·split<;>split<;>omega
  rintro α ⟨fi,f0,f1,rfl⟩
  refine vU (fun α=>∃la:Int,fi≤la∧α=[some .tape,some (.dat (.int y)),some (.dat (.str wd)),some (.dat (.int ah)),some (.dat (.int fi)),some (.dat (.int la))]) ?_ ?_
  ·refine yj 5 jP.nd (yR (zg 4 rfl (EvD.imp (Q':=fun d=>∃z:Int,d=.int z∧0≤z) (wj (fun _ _=>rfl) (EvL.d (yh (zb (zo (zb (zD CD hr1 (by rfl) (zy 0 rfl (zb (zo (zk (⟨_,rfl,by decide,by decide,fun v7 h7 g7=>zb (zD CD hr1 (by rfl) (zy 0 rfl (zb (zo (zk (⟨_,rfl,by decide,by decide,fun v6 h6 g6=>zb (zo (zb (yJ (r:=1000000) ⟨by decide,by decide,by decide⟩ (by decide) (zk (⟨_,rfl,ze2 rfl,zD CD hr1 (by rfl) (zy 0 rfl (zb (zo (zk (⟨_,rfl,by decide,by decide,fun v5 h5 g5=>?pick⟩)))))⟩)))))⟩))))))⟩)))))))))))) ?_)))
   case pick=>
    obtain⟨z,hz,e⟩:=vw (ds:=[PyData.int 0,.int v7,.int v6,.int 60,.int 1000000]) h5 g5
    refine⟨_,_,z,rfl,rfl,e,?_⟩
    simp only[zc9,zd4,zf4] at hz
    rcases hz with rfl|rfl|rfl|rfl|rfl<;>exact⟨_,rfl,by omega⟩
   rintro _ ⟨z,rfl,z0⟩
   exact⟨_,_,rfl,rfl,zq ⟨fi+z,by omega,rfl⟩⟩
  rintro α ⟨la,hla,rfl⟩
  refine yz (vf (zb (zg 2 rfl (zb (zg 4 rfl (zb (ox rfl (by rfl) nb.min (yJ (r:=1000000) ⟨by decide,by decide,by decide⟩ (by decide) (zg 5 rfl (⟨_,_,rfl,rfl,zb (zD CW hr (by rfl) (zy 0 rfl (zb (zg 2 rfl (zk (⟨_,rfl,hw,fun d8 a8 b8 c8=>zk (⟨_,rfl,ze2 rfl,?_⟩)⟩))))))⟩))))))))))
  refine q _ (vd.of hw f0 ?_ ?_ a8 b8 c8)
  ·split<;>omega
  ·split<;>omega
theorem zb2 :zl ["_law_row"] ["_law_row"] (zc kN):=⟨rfl,rfl,rfl,by decide +kernel,rfl,by decide +kernel,by decide +kernel⟩
set_option maxHeartbeats 4000000 in
theorem fG {f:Addr}{fd:FuncData}(F:Fun K "_law_day" "_law_day" kN f fd)(hm:mg "_law_day"=some (.ref f))(hb:Binds K fd ["_law_row"] [])(CD:Cal P w K mg base "_law_take" 1 xE):Cal P w K mg base "_law_day" 2 js:=by
 refine vF F hm hb zb2 (fun as Q h=>?_) (fun cdv A' outer s H E as Q hr h=>?_)
 ·obtain⟨rfl,_⟩:=h
  rfl
 ·obtain⟨rfl,q⟩:=h
  refine yz (wj (fun _ _=>rfl) (EvL.d (yh (zb (zo (zb (zD CD hr (by rfl) (zy 0 rfl (zb (zo (zk (⟨_,rfl,by decide,by decide,fun v4 h4 g4=>zb (zo (zb (yR (zo (zD CD hr (by rfl) (zy 0 rfl (zb (zo (zk (⟨_,rfl,by decide,by decide,fun v3 h3 g3=>⟨_,_,rfl,rfl,zb (zD CD hr (by rfl) (zy 0 rfl (zb (zo (zk (⟨_,rfl,by decide,by decide,fun v2 h2 g2=>zk (⟨_,rfl,ze2 rfl,zD CD hr (by rfl) (zy 0 rfl (zb (zo (zk (⟨_,rfl,by decide,by decide,fun v1 h1 g1=>?_⟩)))))⟩)⟩))))))⟩⟩))))))))))⟩))))))))))))
  obtain⟨z,hz,e⟩:=vw (ds:=[PyData.int 0,.int v4,.int 40,.int (999980+v3),.int v2]) h1 g1
  refine⟨_,_,z,rfl,rfl,e,?_⟩
  simp only[zc9,zd4,zf4] at hz
  rcases hz with rfl|rfl|rfl|rfl|rfl
  ·exact q _ (by omega) (by omega)
  ·exact q _ (by omega) (by omega)
  ·exact q _ (by omega) (by omega)
  ·exact q _ (by omega) (by omega)
  ·exact q _ (by omega) (by omega)
end
theorem mO {x:Str}(h:x∈words):zC (.str x) (rZ x)=true:=by
 simp only[words,zc9,zd4,zf4] at h
 rcases h with rfl|rfl|rfl|rfl|rfl|rfl|rfl<;>decide +kernel
theorem sq {x:Str}{day:Int}{d:PyData}(hd:yp d=true)(h:yF x day d=true):∃(a b:Int) (v:PyData),d=.tuple [.str x,.int a,.int b,v]∧0≤a∧a≤day∧day≤b∧b≤1000000∧zC (.str x) v=true:=by
 obtain⟨u,a,b,v,hu,rfl,a0,ab,b1,hw⟩:=yy hd
 have h':(decide (u=x)&&(decide (a≤day)&&decide (day≤b)))=true:=h
 simp only[ze9,zg3] at h'
 obtain⟨rfl,h1,h2⟩:=h'
 exact⟨a,b,v,rfl,a0,h1,h2,b1,hw⟩
theorem uk {ds:List PyData}(rd:∀d∈ds,yp d=true){x:Str}(hx:x∈words)(day:Int):zC (.str x) (zu ds x day)=true:=by
 unfold zu
 split
 ·rename_i d e
  have hm:=zk0.mp (List.mem_of_find?_eq_some e)
  obtain⟨a,b,v,rfl,_,_,_,_,hw⟩:=sq (rd d hm) (List.find?_some e)
  exact hw
 ·exact mO hx
def NB (u:PyData):Prop:=u=.none∨(∃i,u=.int i)∨∃i j,u=.tuple [.int i,.int j]
theorem pe {u v:PyData}(hu:NB u)(hv:NB v)(h:PyData.eqv u v=true):u=v:=by
 rcases hu with rfl|⟨i,rfl⟩|⟨i,j,rfl⟩<;>rcases hv with rfl|⟨k,rfl⟩|⟨k,l,rfl⟩<;>simp[PyData.eqv,PyData.eqvAll] at h ⊢
 ·exact h
 ·exact h
theorem yA {lo hi:Int}{u:PyData}(h:zQ lo hi u=true):NB u:=by
 cases u with
 |int i=>exact .inr (.inl ⟨i,rfl⟩)
 |_=>cases h
theorem gL {u:PyData}(h:isNone u=true):NB u:=by
 cases u with
 |none=>exact .inl rfl
 |_=>cases h
theorem nI {u:PyData}(h:vm u=true):NB u:=by
 unfold vm at h
 split at h
 ·rename_i m f
  rw[ze9] at h
  cases f with
  |int j=>exact .inr (.inr ⟨m,j,rfl⟩)
  |_=>exact absurd h.2 (by intro z;cases z)
 ·cases h
theorem mC {u:PyData}(h:isBool u=true):∃b,u=.bool b:=by
 cases u with
 |bool b=>exact⟨b,rfl⟩
 |_=>cases h
theorem jL {x:Str}(hx:x∈words){u v:PyData}(hu:zC (.str x) u=true)(hv:zC (.str x) v=true)(h:PyData.eqv u v=true):u=v:=by
 simp only[words,zc9,zd4,zf4] at hx
 have b2:isBool u=true→isBool v=true→u=v:=fun h1 h2=>by
  obtain⟨b,rfl⟩:=mC h1
  obtain⟨c,rfl⟩:=mC h2
  have h':(b == c)=true:=by simpa[PyData.eqv] using h
  rw[eq_of_beq h']
 have or2:∀{a:Bool} {w:PyData},(isNone w||a)=true→(a=true→NB w)→NB w:=fun {a w} h1 h2=>((zj0 _ _).mp h1).elim gL h2
 rcases hx with rfl|rfl|rfl|rfl|rfl|rfl|rfl
 ·rw[xh] at hu hv
  exact pe (or2 hu yA) (or2 hv yA) h
 ·rw[wY] at hu hv
  exact b2 hu hv
 ·rw[qN] at hu hv
  exact b2 hu hv
 ·rw[wt] at hu hv
  exact pe (yA hu) (yA hv) h
 ·rw[wV] at hu hv
  exact pe (yA hu) (yA hv) h
 ·rw[vc] at hu hv
  exact pe (or2 hu nI) (or2 hv nI) h
 ·rw[vZ] at hu hv
  exact pe (yA hu) (yA hv) h
def Alike (ds es:List PyData):Prop:=∀x∈words,∀day:Int,0≤day→day≤1000000→zu ds x day=zu es x day
theorem uN {ds:List PyData}{x:Str}{d e:Int}(h:∀r∈ds,yF x d r=yF x e r):zu ds x d=zu ds x e:=by
 unfold zu
 have:ds.reverse.find? (yF x d)=ds.reverse.find? (yF x e):=by
  have key:∀l:List PyData,(∀r∈l,yF x d r=yF x e r)→l.find? (yF x d)=l.find? (yF x e):=by
   intro l
   induction l with
   |nil=>intro _;rfl
   |cons a l ih=>
    intro hl
    rw[zg5,zg5,hl a zd7,ih fun r hr=>hl r (zd2 _ hr)]
  exact key _ fun r hr=>h r (zk0.mp hr)
 rw[this]
theorem wB {ds:List PyData}(rd:∀d∈ds,yp d=true){x:Str}{day:Int}(h:1000000<day):zu ds x day=rZ x:=by
 unfold zu
 have:ds.reverse.find? (yF x day)=none:=by
  rw[zp7]
  intro r hr hh
  obtain⟨a,b,v,_,_,_,h2,h3,_⟩:=sq (rd r (zk0.mp hr)) hh
  omega
 rw[this]
theorem nJ {d:Int}:∀(ys:List Int),(∃y∈ys,y≤d)→∃e∈ys,e≤d∧∀y∈ys,y≤d→y≤e
 |[],h=>by obtain⟨y,hy,_⟩:=h;simp at hy
 |a::ys,h=>by
  by_cases hs:∃y∈ys,y≤d
  ·obtain⟨e,he,hd,hm⟩:=nJ ys hs
   by_cases ha:a≤d∧e<a
   ·exact⟨a,zd7,ha.1,fun y hy yd=>by
     rcases zc9.mp hy with rfl|hy
     ·exact Int.le_refl _
     ·have:=hm y hy yd;omega⟩
   ·exact⟨e,zd2 _ he,hd,fun y hy yd=>by
     rcases zc9.mp hy with rfl|hy
     ·omega
     ·exact hm y hy yd⟩
  ·obtain⟨y,hy,yd⟩:=h
   rcases zc9.mp hy with rfl|hy
   ·exact⟨y,zd7,yd,fun z hz zd=>by
     rcases zc9.mp hz with rfl|hz
     ·exact Int.le_refl _
     ·exact absurd ⟨z,hz,zd⟩ hs⟩
   ·exact absurd ⟨y,hy,yd⟩ hs
structure Edg (ds:List PyData)(x:Str)(ys:List Int):Prop where
 zero:0∈ys
 pos:∀y∈ys,0≤y
 at':∀a b v,.tuple [.str x,.int a,.int b,v]∈ds→a∈ys∧(b+1≤1000000→b+1∈ys)
theorem Edg.alike {ds es:List PyData}{x:Str}{ys:List Int}(rd:∀d∈ds,yp d=true)(re:∀d∈es,yp d=true)(E:Edg (ds++es) x ys)(h:∀y∈ys,y≤1000000→zu ds x y=zu es x y){day:Int}(d0:0≤day)(d1:day≤1000000):zu ds x day=zu es x day:=by
 obtain⟨e,he,ed,hm⟩:=nJ ys ⟨0,E.zero,d0⟩
 have key:∀r∈ds++es,yp r=true→yF x day r=yF x e r:=fun r hr rr=>by
  obtain⟨u,a,b,v,hu,rfl,a0,ab,b1,hw⟩:=yy rr
  show (decide (u=x)&&(decide (a≤day)&&decide (day≤b)))=(decide (u=x)&&(decide (a≤e)&&decide (e≤b)))
  by_cases hux:u=x
  ·subst hux
   obtain⟨ha,hb⟩:=E.at' a b v hr
   have e1:decide (a≤day)=decide (a≤e):=by
    by_cases z:a≤day
    ·rw[zh0 z,zh0 (hm a ha z)]
    ·rw[zf5 z,zf5 (by omega)]
   have e2:decide (day≤b)=decide (e≤b):=by
    by_cases z:day≤b
    ·rw[zh0 z,zh0 (by omega)]
    ·rw[zf5 z,zf5]
     intro w
     have:=hm (b+1) (hb (by omega)) (by omega)
     omega
   rw[e1,e2]
  ·rw[zf5 hux,zh3,zh3]
 rw[uN fun r hr=>key r (zg1 _ hr) (rd r hr),uN fun r hr=>key r (zf2 _ hr) (re r hr)]
 exact h e he (by omega)
open Classical in
noncomputable def yC (ds:List PyData):List PyData→List PyData→List PyData
 |l,[]=>l
 |l,r::rs=>if Alike ds (l++rs) then yC ds l rs else yC ds (l++[r]) rs
noncomputable def yX (ds:List PyData):List PyData:=yC ds [] ds
theorem vB (ds:List PyData):∀rs l,∃ks,yC ds l rs=l++ks∧ks.Sublist rs
 |[],l=>⟨[],by simp[yC],.slnil⟩
 |r::rs,l=>by
  unfold yC
  split
  ·obtain⟨ks,e,s⟩:=vB ds rs l
   exact⟨ks,e,s.cons _⟩
  ·obtain⟨ks,e,s⟩:=vB ds rs (l++[r])
   exact⟨r::ks,by rw[e,zh8];rfl,s.cons_cons _⟩
theorem jB (ds:List PyData):(yX ds).Sublist ds:=by
 obtain⟨ks,e,s⟩:=vB ds ds []
 unfold yX
 rw[e,List.nil_append]
 exact s
theorem wW {ds:List PyData}:∀rs l,Alike ds (l++rs)→Alike ds (yC ds l rs)
 |[],l,h=>by simpa[yC] using h
 |r::rs,l,h=>by
  unfold yC
  split
  ·rename_i z
   exact wW rs l z
  ·exact wW rs (l++[r]) (by rw[zh8];exact h)
theorem oV (ds:List PyData):Alike ds (yX ds):=wW ds [] fun x _ day _ _=>rfl
theorem sO (l:List PyData)(r:PyData)(rs:List PyData)(x:Str)(day:Int):zu (l++r::rs) x day=match rs.reverse.find? (yF x day) with|some d=>wz d|none=>if yF x day r=true then wz r else zu l x day:=by
 unfold zu
 rw[zp5,List.reverse_cons,zh8,List.find?_append,List.find?_append]
 cases h1:rs.reverse.find? (yF x day) with
 |some d=>simp
 |none=>
  cases h2:yF x day r with
  |true=>simp[zg5,h2]
  |false=>simp[zg5,h2]
theorem sy (l rs:List PyData)(x:Str)(day:Int):zu (l++rs) x day=match rs.reverse.find? (yF x day) with|some d=>wz d|none=>zu l x day:=by
 unfold zu
 rw[zp5,List.find?_append]
 cases h1:rs.reverse.find? (yF x day) with
 |some d=>simp
 |none=>simp
theorem lP {ds l rs ks:List PyData}{r:PyData}(inv:Alike ds (l++r::rs))(no:¬Alike ds (l++rs))(s:ks.Sublist rs):¬Alike (l++r::ks) (l++ks):=fun h=>no fun x hx day d0 d1=>by
 have h1:=inv x hx day d0 d1
 have h2:=h x hx day d0 d1
 rw[h1]
 rw[sO,sy]
 rw[sO,sy] at h2
 cases z:rs.reverse.find? (yF x day) with
 |some d=>rfl
 |none=>
  have z':ks.reverse.find? (yF x day)=none:=by
   rw[zp7] at z ⊢
   intro d hd
   exact z d (zk0.mpr (s.subset (zk0.mp hd)))
  rw[z'] at h2
  exact h2
theorem vY {ds:List PyData}:∀rs l,Alike ds (l++rs)→∀a r b,yC ds l rs=l++a++r::b→¬Alike (l++a++r::b) (l++a++b)
 |[],l,inv,a,r,b,e=>by
  have:=congrArg List.length e
  simp[yC] at this
 |q::rs,l,inv,a,r,b,e=>by
  unfold yC at e
  split at e
  ·rename_i z
   exact vY rs l z a r b e
  ·rename_i z
   have inv':Alike ds ((l++[q])++rs):=by rw[zh8];exact inv
   obtain⟨ks,ek,sk⟩:=vB ds rs (l++[q])
   cases a with
   |nil=>
    rw[ek,zh8,zk4] at e
    have e':q::ks=r::b:=List.append_cancel_left e
    cases e'
    rw[zk4]
    exact lP inv z sk
   |cons c a=>
    have e2:yC ds (l++[q]) rs=l++(q::ks):=by rw[ek,zh8];rfl
    have e3:l++(q::ks)=l++((c::a)++r::b):=by rw[←e2,e,zh8]
    have e4:q::ks=(c::a)++r::b:=List.append_cancel_left e3
    cases e4
    have:=vY rs (l++[q]) inv' a r b (by rw[e];simp)
    simpa using this
theorem sI (ds:List PyData){a b:List PyData}{r:PyData}(e:yX ds=a++r::b):¬Alike (yX ds) (a++b):=by
 have:=vY ds [] (fun x _ day _ _=>rfl) a r b (by simpa[yX] using e)
 rw[e]
 simpa using this
theorem ph {ds:List PyData}:∀rs l,ds=l++rs→(∀a r b,ds=a++r::b→¬Alike ds (a++b))→yC ds l rs=ds
 |[],l,e,_=>by simpa[yC] using e.symm
 |r::rs,l,e,h=>by
  unfold yC
  rw[if_neg (h l r rs e)]
  exact ph rs (l++[r]) (by rw[zh8];exact e) h
theorem lE (ds:List PyData):yX (yX ds)=yX ds:=ph _ [] rfl fun a r b e=>sI ds e
end K73
set_option compiler.extract_closed false
set_option hygiene false in
local macro_rules
 |`(tactic| exists $f,$a)=>`(tactic| first|refine $f 0 $a ?_|refine $f 1 $a ?_|refine $f 2 $a ?_|refine $f 3 $a ?_|refine $f 4 $a ?_|refine $f 5 $a ?_|refine $f 6 $a ?_|refine $f 7 $a ?_|refine $f 8 $a ?_|refine $f 9 $a ?_|refine $f 10 $a ?_|refine $f 11 $a ?_|refine $f 12 $a ?_|refine $f 13 $a ?_|refine $f 14 $a ?_|refine $f 15 $a ?_|refine $f 16 $a ?_|refine $f 17 $a ?_)
set_option hygiene false in
local macro_rules
 |`(tactic| and_intros)=>`(tactic| repeat (first
  |((with_reducible show EvD _ _ _ _);first
   |((with_reducible show EvD _ _ (.Name _ _) _);exists zg,rfl)
   |((with_reducible show EvD _ _ (.Constant _ _ _) _);first|with_reducible refine zo ?_|with_reducible refine zO ?_|with_reducible refine ik ?_|with_reducible refine tG ?_)
   |((with_reducible show EvD _ _ (.BinOp (.Constant (.int 10) _ _) .Pow (.Constant (.int 6) _ _) _) _);refine yJ (r:=1000000) ⟨by decide,by decide,by decide⟩ (by decide) ?_)
   |((with_reducible show EvD _ _ (.BinOp (.Constant (.int 10) _ _) .Pow (.Constant (.int 12) _ _) _) _);refine yJ (r:=1000000000000) ⟨by decide,by decide,by decide⟩ (by decide) ?_)
   |((with_reducible show EvD _ _ (.BinOp (.Constant (.int 10) _ _) .Pow (.Constant (.int 9) _ _) _) _);refine yJ (r:=1000000000) ⟨by decide,by decide,by decide⟩ (by decide) ?_)
   |((with_reducible show EvD _ _ (.BinOp (.Constant (.int 10) _ _) .Pow (.Constant (.int 11) _ _) _) _);refine yJ (r:=100000000000) ⟨by decide,by decide,by decide⟩ (by decide) ?_)
   |((with_reducible show EvD _ _ (.BinOp _ .Add (.List _ _) _) _);refine EvL.d (wQ ?_))
   |((with_reducible show EvD _ _ (.BinOp (.List _ _) .Add _ _) _);refine EvL.d (wQ ?_))
   |((with_reducible show EvD _ _ (.BinOp (.Subscript _ (.Slice _ _ none _) _) .Add _ _) _);refine EvL.d (wQ ?_))
   |((with_reducible show EvD _ _ (.BinOp _ .Add (.Subscript _ (.Slice _ _ none _) _) _) _);refine EvL.d (wQ ?_))
   |((with_reducible show EvD _ _ (.BinOp (.Call (.Attribute _ "rules" _) _ _ _) .Add _ _) _);refine EvL.d (wQ ?_))
   |with_reducible refine yR ?_
   |with_reducible refine uY ?_
   |with_reducible refine kL ?_
   |with_reducible refine me ?_
   |with_reducible refine sU ?_
   |with_reducible refine ev_shl ?_
   |with_reducible refine jh ?_
   |with_reducible refine ev_not ?_
   |with_reducible refine vf ?_
   |((with_reducible show EvD _ _ (.Subscript _ (.Slice _ _ none _) _) _);refine EvL.d (di ?_))
   |((with_reducible show EvD _ _ (.Subscript _ _ _) _);refine jj hr.one (fun _ _=>rfl) ?_)
   |((with_reducible show EvD _ _ (.List _ _) _);refine EvL.d (yh ?_))
   |((with_reducible show EvD _ _ (.Call (.Name "len" _) [.Call (.Name "set" _) _ _ _] _ _) _);refine ev_lenSet rfl (by rfl) nb.len (by rfl) (by assumption) ?_)
   |((with_reducible show EvD _ _ (.Call (.Name "len" _) _ _ _) _);refine sZ (by rfl) nb.len ?_)
   |((with_reducible show EvD _ _ (.Call (.Name "min" _) [_,_] _ _) _);refine ox rfl (by rfl) nb.min ?_)
   |((with_reducible show EvD _ _ (.Call (.Name "max" _) [_,_] _ _) _);refine jV rfl (by rfl) nb.max ?_)
   |((with_reducible show EvD _ _ (.Call (.Name "list" _) _ _ _) _);refine EvL.d (el_list (by rfl) nb.list ?_))
   |((with_reducible show EvD _ _ (.Call (.Name "repr" _) _ _ _) _);refine ev_repr hr.gd hr.units (by rfl) nb.repr ?_)
   |((with_reducible show EvD _ _ (.Call (.Name "min" _) [_] _ _) _);refine ev_minI rfl hr.few (by rfl) nb.min ?_)
   |((with_reducible show EvD _ _ (.Call (.Name "isinstance" _) _ _ _) _);first|refine ev_isi (by rfl) nb.isinstance (by rfl) nb.int boot_int ?_|refine ev_isi (by rfl) nb.isinstance (by rfl) nb.bool boot_bool ?_|refine ev_isi (by rfl) nb.isinstance (by rfl) nb.str boot_str ?_|refine ev_isi (by rfl) nb.isinstance (by rfl) nb.list boot_list ?_|refine ev_isi (by rfl) nb.isinstance (by rfl) nb.tuple boot_tuple ?_)
   |((with_reducible show EvD _ _ (.Call (.Name "int" _) _ _ _) _);refine ev_intB (by rfl) nb.int ?_)
   |((with_reducible show EvD _ _ (.Call (.Name _ _) _ _ _) _);first|refine fN (by with_reducible assumption) (by exact⟨rfl,rfl,rfl,rfl,rfl⟩) (hr.mono (by decide)) (by rfl) ?_|refine EvN.d (ip (by with_reducible assumption) (by exact⟨rfl,rfl,rfl,rfl,rfl⟩) (hr.mono (by decide)) (by rfl) ?_))
   |((with_reducible show EvD _ _ (.Call (.Attribute _ _ _) (_::_) _ _) _);refine iI (by with_reducible assumption) (by exact⟨rfl,rfl,rfl,rfl,rfl⟩) (hr.mono (by decide)) ?_)
   |((with_reducible show EvD _ _ (.Call (.Attribute _ _ _) [] _ _) _);refine mK (by with_reducible assumption) (by exact⟨rfl,rfl,rfl,rfl,rfl⟩) (hr.mono (by decide)) ?_)
   |((with_reducible show EvD _ _ (.Compare _ [_] _ _) _);first|with_reducible refine ev_lt ?_|with_reducible refine ev_le ?_|with_reducible refine ev_gt ?_|with_reducible refine ev_ge ?_|with_reducible refine ev_isN ?_|with_reducible refine ev_notN ?_|((with_reducible show EvD _ _ (.Compare _ [.Eq] _ _) _);refine ev_eqk hr.units ?_)|((with_reducible show EvD _ _ (.Compare _ [.NotEq] _ _) _);refine ev_nek hr.units ?_)|((with_reducible show EvD _ _ (.Compare _ [.In] _ _) _);refine ev_ink hr.one ?_)|((with_reducible show EvD _ _ (.Compare _ [.NotIn] _ _) _);refine ev_nink hr.one ?_)|((with_reducible show EvD _ _ (.Compare _ [.Is] [.Constant (.bool _) _ _] _) _);refine ev_isB ?_))
   |((with_reducible show EvD _ _ (.Compare _ [_,_] _ _) _);first|refine ev_lelt ?_|refine ev_ltle ?_|refine ev_lele' ?_)
   |((with_reducible show EvD _ _ (.BoolOp _ _ _) _);first|with_reducible refine ev_and ?_|with_reducible refine ev_or ?_|with_reducible refine ev_one ?_)
   |with_reducible refine ou ?_)
  |((with_reducible show EvA _ _ _ _);first
   |with_reducible refine zk ?_
   |((with_reducible show EvA _ _ (.Name "_law_row" _::_) _);exists zy,rfl)
   |refine zb ?_)
  |((with_reducible show EvT _ _ _ _);first
   |((with_reducible show EvT _ _ (.Compare _ [_] _ _) _);first|with_reducible refine aD ?_|with_reducible refine et_le ?_|with_reducible refine eO ?_|with_reducible refine eR ?_|with_reducible refine rp ?_|with_reducible refine mv ?_|((with_reducible show EvT _ _ (.Compare _ [.Eq] _ _) _);refine cK hr.units ?_)|((with_reducible show EvT _ _ (.Compare _ [.NotEq] _ _) _);refine iX hr.units ?_)|((with_reducible show EvT _ _ (.Compare _ [.In] _ _) _);refine et_ink hr.one ?_)|((with_reducible show EvT _ _ (.Compare _ [.NotIn] _ _) _);refine et_nink hr.one ?_)|((with_reducible show EvT _ _ (.Compare _ [.Is] [.Constant (.bool _) _ _] _) _);refine et_isB ?_)|((with_reducible show EvT _ _ (.Compare _ [.IsNot] [.Constant (.bool _) _ _] _) _);refine et_isntB ?_))
   |((with_reducible show EvT _ _ (.Compare _ [_,_] _ _) _);first|refine et_lelt ?_|refine et_ltle ?_|refine et_lele' ?_)
   |with_reducible refine jI ?_
   |((with_reducible show EvT _ _ (.BoolOp _ _ _) _);with_reducible refine EvW.t ?_)
   |refine jJ ?_)
  |((with_reducible show EvL _ _ _ _);first
   |with_reducible refine yh ?_
   |((with_reducible show EvL _ _ (.Call (.Name "list" _) _ _ _) _);refine el_list (by rfl) nb.list ?_)
   |((with_reducible show EvL _ _ (.Call (.Name _ _) _ _ _) _);refine el_calR (by with_reducible assumption) (by exact⟨rfl,rfl,rfl,rfl,rfl⟩) (hr.mono (by decide)) (by rfl) ?_)
   |((with_reducible show EvL _ _ (.Call (.Attribute _ _ _) [] _ _) _);refine el_meth0R (by with_reducible assumption) (by exact⟨rfl,rfl,rfl,rfl,rfl⟩) (hr.mono (by decide)) ?_)
   |((with_reducible show EvL _ _ (.Subscript _ (.Slice _ _ none _) _) _);refine di ?_)
   |((with_reducible show EvL _ _ (.BinOp _ .Add _ _) _);refine wQ ?_))
  |((with_reducible show EvW _ _ _ _);first
   |with_reducible refine rE ?_
   |with_reducible refine eU ?_
   |with_reducible refine uE ?_
   |with_reducible refine dN ?_)
  |((with_reducible show EvO _ _ _ _);first
   |with_reducible refine fu ?_
   |with_reducible refine fX ?_)
  |((with_reducible show eG _ _ _);first
   |refine ixk rfl rfl rfl ?_
   |refine ixk_0 ?_
   |refine ixk_1 ?_)
  |((with_reducible show InOk _ _ _ _);first
   |refine ink rfl rfl ?_
   |refine ink_hind ?_
   |refine inkT rfl rfl ?_)
  |((with_reducible show kl _ _ _);first
   |with_reducible refine eqk_int ?_
   |with_reducible refine gF ?_
   |with_reducible refine eqk_bool ?_
   |refine eqk rfl rfl rfl rfl ?_)
  |((with_reducible show SvS _ _ _ _);first
   |((with_reducible show SvS _ (List.set _ _ _) _ _);dsimp only[List.set])
   |((with_reducible show SvS _ _ (zG _) _);show SvS _ _ (_::_) _)
   |((with_reducible show SvS _ _ (.Assign [.Name _ _] (.List [] _) _::_) _);exists wF,nd)
   |((with_reducible show SvS _ _ (.Assign [.Name _ _] _ _::_) _);exists yj,nd)
   |((with_reducible show SvS _ _ (.Expr (.Call (.Attribute _ "append" _) _ _ _) _::_) _);exists vX,rfl)
   |((with_reducible show SvS _ _ (.Return (some (.Name _ _)) _::_) _);exists sX,rfl)
   |with_reducible refine yz ?_
   |with_reducible refine sv_cont ?_
   |with_reducible refine sv_pass ?_
   |with_reducible refine xB ?_
   |with_reducible refine zq ?_
   |((with_reducible refine vq ?hk ?_);case hk=>first|rfl|decide +kernel)
   |((with_reducible refine yD ?hk ?_);case hk=>first|rfl|decide +kernel))
  |((with_reducible show xE _ _);refine⟨_,rfl,by first|decide|omega,by first|decide|(show _<big;unfold big;omega),fun _ _ _=>?_⟩)
  |((with_reducible refine eW ?hk ?_);case hk=>first|rfl|decide +kernel)
  |((with_reducible refine sN ?hk ?_);case hk=>first|rfl|decide +kernel)
  |refine⟨_,_,rfl,rfl,?_⟩
  |refine⟨_,_,_,rfl,rfl,rfl,?_⟩
  |refine⟨_,rfl,ze2 rfl,?_⟩
  |refine⟨_,rfl,rfl,?_⟩
  |refine⟨_,rfl,?_⟩))
namespace K73
open PySem PySem.Spec PyProof.Rows L2
abbrev pW :Stmt:=top 36
abbrev bj :Stmt:=top 37
abbrev iq :Stmt:=top 38
def mw :List A→(A→Prop)→Prop:=fun as Q=>∃ds x,as=[.dat (.list ds),.dat (.str x)]∧(∀d∈ds,yp d=true)∧ds.length≤31∧∀ys:List Int,Edg ds x ys→ys.length≤63→Q (.own (ys.map .int))
def dn (C:Addr)(cs:Cs):List A→(A→Prop)→Prop:=fun as Q=>∃ds es,as=[.dat (xC C cs ds),.dat (xC C cs es)]∧zA ds∧zA es∧ds.length+es.length≤31∧(Alike ds es→Q (.dat .none))∧(¬Alike ds es→∀x day,Q (.dat (.tuple [.str x,.int day])))
def jT (C:Addr)(cs:Cs):List A→(A→Prop)→Prop:=fun as Q=>∃ds,as=[.dat (xC C cs ds)]∧zA ds∧ds.length≤15∧Q (.dat (xC C cs (yX ds)))
section
variable {P:Program}{w:World}{K:PySem.W.Frag}{mg:Str→Option Value}{base:Heap}{cs:Cs}
theorem ax :zl ["rules","word","found","rule"] ["rules","word"] (zc pW):=⟨rfl,rfl,rfl,by decide +kernel,rfl,by decide +kernel,by decide +kernel⟩
theorem ke {f:Addr}{fd:FuncData}(F:Fun K "edges" "edges" pW f fd)(hm:mg "edges"=some (.ref f))(hb:Binds K fd ["rules","word"] [])(nb:NbT mg)(nS:mg "set"=none):Cal P w K mg base "edges" 1 mw:=by
 refine vF F hm hb ax (fun as Q h=>?_) (fun cdv A' outer s H E as Q hr h=>?_)
 ·obtain⟨ds,x,rfl,_⟩:=h
  rfl
 ·obtain⟨ds,x,rfl,rd,hl,q⟩:=h
  have nd:=ax.nd
  refine wF 2 nd (yh ?_)
  and_intros
  refine yL (.one 3) (xN (zg 0 rfl ⟨_,rfl,?_⟩))
  refine zW (fun i α=>∃(ns:List Int) (o3:Option A),α=[some (.dat (.list ds)),some (.dat (.str x)),some (.own (ns.map .int)),o3]∧ns.length≤1+2*i∧0∈ns∧(∀y∈ns,0≤y)∧∀j<i,∀a b v,ds[j]?=some (.tuple [.str x,.int a,.int b,v])→a∈ns∧b+1∈ns) ⟨[0],none,rfl,zd6 _,by simp,by simp,fun j hj=>absurd hj (zp2 _)⟩ ?_ ?_
  ·rintro i d α hd ⟨ns,o3,rfl,ln,z0,zp,za⟩
   have hi:=(zd1.mp hd).1
   obtain⟨u,a,b,v,hu,rfl,a0,ab,b1,hw⟩:=yy (rd d (zf7 hd))
   refine⟨_,rfl,?_⟩
   and_intros
   refine yM (fun hc=>?_) (fun hc=>?_)
   ·have hux:u=x:=zl8 hc
    subst hux
    refine sM 2 rfl (EvL.d (yh ?_))
    and_intros
    refine⟨by rw[zd5];show ns.length+2≤1000;omega,zq (zq ⟨ns++[a,b+1],_,by rw[List.map_append];rfl,by rw[zf1];show ns.length+2≤_;omega,zg1 _ z0,fun y hy=>?_,fun j hj a' b' v' e=>?_⟩)⟩
    ·rcases zf6.mp hy with hy|hy
     ·exact zp y hy
     ·simp only[zc9,zd4,zf4] at hy
      omega
    ·rcases zg9 j i with z|z
     ·obtain⟨h1,h2⟩:=za j z a' b' v' e
      exact⟨zg1 _ h1,zg1 _ h2⟩
     ·have:j=i:=by omega
      subst this
      rw[hd] at e
      cases e
      exact⟨by simp,by simp⟩
   ·refine zq (zq ⟨ns,_,rfl,by omega,z0,zp,fun j hj a' b' v' e=>?_⟩)
    rcases zg9 j i with z|z
    ·exact za j z a' b' v' e
    ·have:j=i:=by omega
     subst this
     rw[hd] at e
     cases e
     exact absurd rfl (of_decide_eq_false hc)
  ·rintro α ⟨ns,o3,rfl,ln,z0,zp,za⟩
   refine rX 2 rfl ?_
   refine uA (tV rfl (by rfl) nb.sorted (by rfl) nS (zg 2 rfl ⟨ns,rfl,by omega,fun ys hy pw ly=>?_⟩))
   refine q ys ⟨(hy 0).mpr z0,fun y h=>zp y ((hy y).mp h),fun a b v h=>?_⟩ (by omega)
   obtain⟨j,hj⟩:=List.getElem?_of_mem h
   obtain⟨h1,h2⟩:=za j (zd1.mp hj).1 a b v hj
   exact⟨(hy a).mpr h1,fun _=>(hy _).mpr h2⟩
theorem uV {ds:List PyData}(ro:zA ds)(x:Str)(day:Int):zS 5000 (zu ds x day):=by
 unfold zu
 split
 ·rename_i d e
  exact (ro d (zk0.mp (List.mem_of_find?_eq_some e))).wn
 ·exact ku x
theorem zA.rd {ds:List PyData}(h:zA ds):∀d∈ds,yp d=true:=fun d hd=>(h d hd).rule
theorem qG {ds es:List PyData}(rd:zA ds)(re:zA es){x:Str}(hx:x∈words)(day:Int){Q:Bool→Prop}(h1:zu ds x day=zu es x day→Q true)(h2:zu ds x day≠zu es x day→Q false):kl (zu ds x day) (zu es x day) Q:=by
 have n1:=uV rd x day
 have n2:=uV re x day
 refine eqk n1.shaped n2.shaped n1.nod n2.nod ?_
 cases z:PyData.eqv (zu ds x day) (zu es x day) with
 |true=>exact h1 (jL hx (uk rd.rd hx day) (uk re.rd hx day) z)
 |false=>exact h2 fun e=>by rw[e,SeqAt.eqv_refl _ n2.lay] at z;cases z
theorem aN :zl ["one","other","rules","word","day"] ["one","other"] (zc bj):=⟨rfl,rfl,rfl,by decide +kernel,rfl,by decide +kernel,by decide +kernel⟩
theorem jc :(tbU.map fun p=>PyData.str p.1)=words.map .str:=rfl
theorem fJ {f C dU:Addr}{fd:FuncData}{n:Nat}(F:Fun K "unlike" "unlike" bj f fd)(hm:mg "unlike"=some (.ref f))(hb:Binds K fd ["one","other"] [])(mU:mg "USUAL"=some (.ref dU))(DN:tY K w dU tbU n)(hU:(dU == sysModules)=false)(CE:Cal P w K mg base "edges" 1 mw)(MR:xI P w K mg base C "rules" 3 (vg C cs))(MT:xI P w K mg base C "tells_of" 2 (qm C cs)):Cal P w K mg base "unlike" 4 (dn C cs):=by
 refine vF F hm hb aN (fun as Q h=>?_) (fun cdv A' outer s H E as Q hr h=>?_)
 ·obtain⟨ds,es,rfl,_⟩:=h
  rfl
 ·obtain⟨ds,es,rfl,rd,re,hl,q1,q2⟩:=h
  have nd:=aN.nd
  and_intros
  refine⟨rd.rules,by omega,?_⟩
  and_intros
  refine⟨re.rules,by omega,?_⟩
  refine⟨ds,es,rfl,rfl,by omega,?_⟩
  refine yL (.one 3) (iD (by rfl) mU DN hU ?_)
  rw[jc]
  refine zW (fun i α=>∃o3 o4:Option A,α=[some (.dat (xC C cs ds)),some (.dat (xC C cs es)),some (.dat (.list (ds++es))),o3,o4]∧∀x∈words.take i,∀day:Int,0≤day→day≤1000000→zu ds x day=zu es x day) ⟨none,none,rfl,fun x hx=>by simp at hx⟩ ?_ ?_
  ·rintro i d α hd ⟨o3,o4,rfl,al⟩
   rw[ze4,zf0] at hd
   obtain⟨x,hx,rfl⟩:=hd
   have hxw:x∈words:=zf7 hx
   refine⟨_,rfl,?_⟩
   refine yL (.one 4) (xN (EvL.d (uR CE (hr.mono (by decide)) (by rfl) (zb (zg 2 rfl (zb (zg 3 rfl (zk ⟨ds++es,x,rfl,fun d hd=>(zf6.mp hd).elim (rd.rd d) (re.rd d),by rw[zf1];exact hl,fun ys ed ly=>⟨_,rfl,⟨_,rfl,?_⟩⟩⟩))))))))
   refine zW (fun j α=>∃o4:Option A,α=[some (.dat (xC C cs ds)),some (.dat (xC C cs es)),some (.dat (.list (ds++es))),some (.dat (.str x)),o4]∧∀y∈ys.take j,zu ds x y=zu es x y) ⟨_,rfl,fun y hy=>by simp at hy⟩ ?_ ?_
   ·rintro j d α hd ⟨o4,rfl,ay⟩
    rw[ze4,zf0] at hd
    obtain⟨y,hy,rfl⟩:=hd
    refine⟨_,rfl,?_⟩
    and_intros
    refine⟨ds,x,y,rfl,rd.rules,hxw,?_⟩
    and_intros
    refine⟨es,x,y,rfl,re.rules,hxw,?_⟩
    refine qG rd re hxw y (fun e=>?_) (fun ne=>?_)
    ·refine yD rfl (zq (zq ⟨_,rfl,fun z hz=>?_⟩))
     rw[zj3,hy] at hz
     rcases zf6.mp hz with hz|hz
     ·exact ay z hz
     ·have hz':z∈[y]:=by simpa using hz
      rw[zg8.mp hz'];exact e
    ·refine vq rfl ?_
     and_intros
     refine q2 (fun a=>ne ?_) x y
     have y0:=ed.pos y (zf7 hy)
     rcases Int.lt_or_le 1000000 y with z|z
     ·rw[wB rd.rd z,wB re.rd z]
     ·exact a x hxw y y0 z
   ·rintro α ⟨o4,rfl,ay⟩
    rw[zd5,zi8] at ay
    refine zq ⟨_,_,rfl,fun z hz day d0 d1=>?_⟩
    rw[zj3,hx] at hz
    rcases zf6.mp hz with hz|hz
    ·exact al z hz day d0 d1
    ·have hz':z∈[x]:=by simpa using hz
     rw[zg8.mp hz']
     exact ed.alike rd.rd re.rd (fun y hy _=>ay y hy) d0 d1
  ·rintro α ⟨o3,o4,rfl,al⟩
   rw[zd5,zi8] at al
   and_intros
   exact q1 al
theorem aO :zl ["book","rules","left","place","rule"] ["book"] (zc iq):=⟨rfl,rfl,rfl,by decide +kernel,rfl,by decide +kernel,by decide +kernel⟩
theorem jC {ds es:List PyData}(h:zA ds)(s:es.Sublist ds):zA es:=fun d hd=>h d (s.subset hd)
theorem qB (ds:List PyData)(n:Nat):L2.cutD ds (some ((n:Nat):Int)) none=ds.drop n:=by
 unfold L2.cutD
 rw[HT.mn,HT.pI]
 rcases zg9 n ds.length with h|h
 ·rw[Nat.min_eq_left (zh2 h),zo3 (by rw[zi7];omega)]
 ·rw[Nat.min_eq_right h,zi1,List.drop_of_length_le h,List.take_nil]
theorem kK {f C:Addr}{fd:FuncData}(F:Fun K "tidied" "tidied" iq f fd)(hm:mg "tidied"=some (.ref f))(hb:Binds K fd ["book"] [])(nb:NbT mg)(CU:Cal P w K mg base "unlike" 4 (dn C cs))(CK:ko P w K mg base "Book" 9 [] (uK C cs))(MR:xI P w K mg base C "rules" 3 (vg C cs)):Cal P w K mg base "tidied" 11 (jT C cs):=by
 refine vF F hm hb aO (fun as Q h=>?_) (fun cdv A' outer s H E as Q hr h=>?_)
 ·obtain⟨ds,rfl,_⟩:=h
  rfl
 ·obtain⟨ds,rfl,rd,hl,q⟩:=h
  have nd:=aO.nd
  and_intros
  refine⟨rd.rules,by omega,?_⟩
  and_intros
  refine yL (.many [3,4]) (ml (by rfl) nb.enumerate (zg 1 rfl ⟨_,rfl,?_⟩))
  refine zW (fun i α=>∃(ls:List PyData) (o3 o4:Option A),α=[some (.dat (xC C cs ds)),some (.dat (.list ds)),some (.own ls),o3,o4]∧zA ls∧ls.length≤i∧yC ds ls (ds.drop i)=yX ds) ⟨[],none,none,rfl,fun d hd=>by simp at hd,zd6 _,rfl⟩ ?_ ?_
  ·rintro i d α hd ⟨ls,o3,o4,rfl,rl,ll,kp⟩
   obtain⟨e,he,rfl⟩:=wD hd
   have hi:i<ds.length:=(zd1.mp he).1
   have re:=rd e (zf7 he)
   refine⟨_,rfl,?_⟩
   have hdr:ds.drop i=e::ds.drop (i+1):=by
    rw[zg4 hi]
    have:=(zd1.mp he).2
    rw[this]
   have rc:zA (ls++ds.drop (i+1)):=fun d hd=>(zf6.mp hd).elim (rl d) fun z=>rd d (zm4 z)
   have lc:(ls++ds.drop (i+1)).length≤15:=by rw[zf1,zi7];omega
   rw[hdr] at kp
   unfold yC at kp
   refine xB (rL 2 rfl (mv ?_))
   and_intros
   rw[show (((0+i:Nat):Int)+1)=((i+1:Nat):Int) by omega,qB]
   refine⟨by rw[zf1] at lc;omega,?_⟩
   and_intros
   refine⟨ls++ds.drop (i+1),.inl rfl,rc.rules,by omega,?_⟩
   and_intros
   refine⟨ds,ls++ds.drop (i+1),rfl,rd,rc,by omega,fun al=>?_,fun nal x day=>?_⟩
   ·rw[if_pos al] at kp
    exact yD rfl (zq (zq ⟨ls,_,_,rfl,rl,by omega,kp⟩))
   ·rw[if_neg nal] at kp
    refine vq rfl ?_
    refine vX 2 rfl (zg 4 rfl ⟨by omega,zq (zq ⟨ls++[e],_,_,rfl,fun d hd=>?_,by rw[zf1];exact Nat.add_le_add_right ll 1,kp⟩)⟩)
    rcases zf6.mp hd with z|z
    ·exact rl d z
    ·rw[zg8.mp z];exact re
  ·rintro α ⟨ls,o3,o4,rfl,rl,ll,kp⟩
   rw[xx,zi1] at kp
   have kp:ls=yX ds:=by simpa[yC] using kp
   refine rX 2 rfl ?_
   and_intros
   refine⟨ls,.inl rfl,rl.rules,by rw[xx] at ll;omega,?_⟩
   rw[kp]
   exact q
end
abbrev rQ :Stmt:=top 46
abbrev cQ :Stmt:=top 48
abbrev cP :Stmt:=top 49
def qV :List A→(A→Prop)→Prop:=fun as Q=>∃ds x day,as=[.dat (.list ds),.dat (.str x),.dat (.int day)]∧(∀d∈ds,yp d=true)∧x∈words∧Q (.dat (zu ds x day))
def tbL :List (PyData×PyData):=[(.str "come",.bool true),(.str "go",.bool true),(.str "least",.int 1),(.str "most",.int 14),(.str "fee",.int 0)]
theorem mE {x:Str}(h:x∈words):(ug tbL x).getD .none=rZ x:=by
 simp only[words,zc9,zd4,zf4] at h
 rcases h with rfl|rfl|rfl|rfl|rfl|rfl|rfl<;>with_unfolding_all rfl
theorem take_snoc {β:Type}{l:List β}{i:Nat}{d:β}(h:l[i]?=some d):l.take (i+1)=l.take i++[d]:=by
 rw[zj3,h];rfl
def eL :List A→(A→Prop)→Prop:=fun as Q=>∃ds es,as=[.dat (.list ds),.dat (.list es)]∧zA ds∧zA es∧ds.length+es.length≤31∧(Alike ds es→Q (.dat (.bool true)))∧(¬Alike ds es→Q (.dat (.bool false)))
structure Tdy (ds fs:List PyData):Prop where
 sub:fs.Sublist ds
 al:Alike ds fs
 want:∀a r b,fs=a++r::b→¬Alike fs (a++b)
def dm :List A→(A→Prop)→Prop:=fun as Q=>∃ds fs,as=[.dat (.list ds),.dat (.list fs)]∧zA ds∧ds.length≤15∧Tdy ds fs∧Q (.dat (.bool true))
section
variable {P:Program}{w:World}{K:PySem.W.Frag}{mg:Str→Option Value}{base:Heap}{cs:Cs}
theorem fH :zl ["_law_rules","_law_word","_law_day_here","_law_found","_law_rule_here"] ["_law_rules","_law_word","_law_day_here"] (zc rQ):=⟨rfl,rfl,rfl,by decide +kernel,rfl,by decide +kernel,by decide +kernel⟩
set_option maxHeartbeats 4000000 in
theorem og {f:Addr}{fd:FuncData}(F:Fun K "_law_tells" "_law_tells" rQ f fd)(hm:mg "_law_tells"=some (.ref f))(hb:Binds K fd ["_law_rules","_law_word","_law_day_here"] []):Cal P w K mg base "_law_tells" 1 qV:=by
 refine vF F hm hb fH (fun as Q h=>?_) (fun cdv A' outer s H E as Q hr h=>?_)
 ·obtain⟨ds,x,day,rfl,_⟩:=h
  rfl
 ·obtain⟨ds,x,day,rfl,rd,hx,q⟩:=h
  obtain⟨v,_,hv⟩:=il hx
  refine yj 3 fH.nd (ia (D:=tbL) (by rfl) (by rfl) (by decide +kernel) (by unfold tbL;simp[scV]) (zg 1 rfl ⟨x,v,rfl,by rw[mE hx];exact hv,?_⟩))
  rw[mE hx]
  refine rH (pat:=.one 4) zn2 rfl (ym (i:=4) fH.nd rfl (by first|exact Or.inl rfl|exact Or.inr rfl)) (xN (zg 0 rfl (⟨_,rfl,?_⟩)))
  refine zW (fun i α=>∃v4,α=[some (.dat (.list ds)),some (.dat (.str x)),some (.dat (.int day)),some (.dat (zu (ds.take i) x day)),v4]) ⟨none,rfl⟩ ?_ ?_
  ·rintro i d α hd ⟨v4,rfl⟩
   obtain⟨u,a,b,e,hu,rfl,_,_,_,_⟩:=yy (rd d (zf7 hd))
   refine⟨_,rfl,?_⟩
   refine xB (EvW.t (nM (fun _ k=>rA (rW (fun _ _=>rfl) (zg 4 rfl (zo (⟨_,_,_,rfl,rfl,rfl,zg 1 rfl ⟨_,_,rfl,rfl,k⟩⟩)))))
    (fun hp _ k=>uE (fO (by with_unfolding_all rfl) (fun _ k=>rW (fun _ _=>rfl) (zg 4 rfl (zo (⟨_,_,_,rfl,rfl,rfl,k⟩)))) (fun _ k=>zg 2 rfl (k)) (fun _ k=>rW (fun _ _=>rfl) (zg 4 rfl (zo (⟨_,_,_,rfl,rfl,rfl,k⟩)))) (k))) ?_))
   have es:=qT (ds.take i) (.tuple [.str u,.int a,.int b,e]) x day
   rw[←take_snoc hd] at es
   refine yM (fun h=>?_) (fun h=>?_)
   ·refine yj 3 fH.nd (rW (fun _ _=>rfl) (zg 4 rfl (zo (⟨_,_,_,rfl,rfl,rfl,?_⟩))))
    rw[if_pos (show yF x day (.tuple [.str u,.int a,.int b,e])=true from h)] at es
    refine zq (zq ⟨some (.dat (.tuple [.str u,.int a,.int b,e])),?_⟩)
    rw[es];rfl
   ·rw[if_neg (by rw[show yF x day (.tuple [.str u,.int a,.int b,e])=false from h];decide)] at es
    refine zq (zq ⟨some (.dat (.tuple [.str u,.int a,.int b,e])),?_⟩)
    rw[es];rfl
  ·rintro α ⟨v4,rfl⟩
   rw[zi8]
   exact yz (zg 3 rfl q)
theorem bJ :zl ["_law_one","_law_other","_law_days","_law_word","_law_first","_law_last","_law_worth_here","_law_day_here"] ["_law_one","_law_other"] (zc cQ):=⟨rfl,rfl,rfl,by decide +kernel,rfl,by decide +kernel,by decide +kernel⟩
theorem fm {f:Addr}{fd:FuncData}(F:Fun K "_law_tells_alike" "_law_tells_alike" cQ f fd)(hm:mg "_law_tells_alike"=some (.ref f))(hb:Binds K fd ["_law_one","_law_other"] [])(nb:NbT mg)(nS:mg "set"=none)(CT:Cal P w K mg base "_law_tells" 1 qV):Cal P w K mg base "_law_tells_alike" 2 eL:=by
 refine vF F hm hb bJ (fun as Q h=>?_) (fun cdv A' outer s H E as Q hr h=>?_)
 ·obtain⟨ds,es,rfl,_⟩:=h
  rfl
 ·obtain⟨ds,es,rfl,rd,re,hl,q1,q2⟩:=h
  have nd:=bJ.nd
  have rr:∀d∈ds++es,yp d=true:=fun d hd=>(zf6.mp hd).elim (rd.rd d) (re.rd d)
  have lr:(ds++es).length≤31:=by rw[zf1];exact hl
  refine wF 2 nd (yh ?_)
  and_intros
  refine vU (fun α=>∃(ns:List Int) (o3 o4 o5 o6:Option A),α=[some (.dat (.list ds)),some (.dat (.list es)),some (.own (ns.map .int)),o3,o4,o5,o6,none]∧ns.length≤63∧0∈ns∧(∀y∈ns,0≤y)∧∀x a b v,.tuple [.str x,.int a,.int b,v]∈ds++es→a∈ns∧(b+1≤1000000→b+1∈ns)) ?_ ?_
  ·refine yL (.many [3,4,5,6]) (xN (EvL.d (wQ (zg 0 rfl (zg 1 rfl ⟨_,_,rfl,rfl,by omega,⟨_,rfl,?_⟩⟩)))))
   refine zW (fun i α=>∃(ns:List Int) (o3 o4 o5 o6:Option A),α=[some (.dat (.list ds)),some (.dat (.list es)),some (.own (ns.map .int)),o3,o4,o5,o6,none]∧ns.length≤1+2*i∧0∈ns∧(∀y∈ns,0≤y)∧∀j<i,∀x a b v,(ds++es)[j]?=some (.tuple [.str x,.int a,.int b,v])→a∈ns∧(b+1≤1000000→b+1∈ns)) ⟨[0],none,none,none,none,rfl,zd6 _,by simp,by simp,fun j hj=>absurd hj (zp2 _)⟩ ?_ ?_
   ·rintro i d α hd ⟨ns,o3,o4,o5,o6,rfl,ln,z0,zp,za⟩
    have hi:=(zd1.mp hd).1
    obtain⟨u,a,b,v,hu,rfl,a0,ab,b1,hw⟩:=yy (rr d (zf7 hd))
    refine⟨_,rfl,?_⟩
    refine sM 2 rfl (EvL.d (yh ?_))
    and_intros
    refine⟨by rw[zd5];show ns.length+2≤1000;omega,zq ⟨ns++[a,if b+1<1000000 then b+1 else 1000000],some (.dat (.str u)),some (.dat (.int a)),some (.dat (.int b)),some (.dat v),by rw[List.map_append];rfl,by rw[zf1];show ns.length+2≤_;omega,zg1 _ z0,fun y hy=>?_,fun j hj x' a' b' v' e=>?_⟩⟩
    ·rcases zf6.mp hy with hy|hy
     ·exact zp y hy
     ·simp only[zc9,zd4,zf4] at hy
      rcases hy with rfl|rfl
      ·exact a0
      ·split<;>omega
    ·rcases zg9 j i with z|z
     ·obtain⟨h1,h2⟩:=za j z x' a' b' v' e
      exact⟨zg1 _ h1,fun k=>zg1 _ (h2 k)⟩
     ·have:j=i:=by omega
      subst this
      rw[hd] at e
      cases e
      refine⟨by simp,fun k=>?_⟩
      have:(if b+1<1000000 then b+1 else 1000000)=b+1:=by split<;>omega
      rw[this]
      simp
   ·rintro α ⟨ns,o3,o4,o5,o6,rfl,ln,z0,zp,za⟩
    refine zq ⟨ns,o3,o4,o5,o6,rfl,by omega,z0,zp,fun x a b v h=>?_⟩
    obtain⟨j,hj⟩:=List.getElem?_of_mem h
    exact za j (zd1.mp hj).1 x a b v hj
  rintro α ⟨ns,o3,o4,o5,o6,rfl,ln,z0,zp,za⟩
  refine rX 2 rfl ?_
  refine yL (.one 3) (dA (vf (zb (zO (zb (zO (zb (zO (zb (zO (zb (zO (zb (zO (zb (zO (zk ⟨_,rfl,ze2 rfl,⟨_,rfl,?_⟩⟩)))))))))))))))))
  refine (?_:xy _ _ _ _ _ (words.map .str) _)
  refine zW (fun i α=>∃o3 o7:Option A,α=[some (.dat (.list ds)),some (.dat (.list es)),some (.dat (.list (ns.map .int))),o3,o4,o5,o6,o7]∧∀x∈words.take i,∀day:Int,0≤day→day≤1000000→zu ds x day=zu es x day) ⟨_,none,rfl,fun x hx=>by simp at hx⟩ ?_ ?_
  ·rintro i d α hd ⟨o3,o7,rfl,al⟩
   rw[ze4,zf0] at hd
   obtain⟨x,hx,rfl⟩:=hd
   have hxw:x∈words:=zf7 hx
   refine⟨_,rfl,?_⟩
   refine yL (.one 7) (xN (EvL.d (tV rfl (by rfl) nb.sorted (by rfl) nS (zg 2 rfl ⟨ns,rfl,by omega,fun ys hy pw ly=>⟨_,rfl,?_⟩⟩))))
   have ed:Edg (ds++es) x ys:=⟨(hy 0).mpr z0,fun y h=>zp y ((hy y).mp h),fun a b v h=>⟨(hy a).mpr (za x a b v h).1,fun k=>(hy _).mpr ((za x a b v h).2 k)⟩⟩
   refine zW (fun j α=>∃o7:Option A,α=[some (.dat (.list ds)),some (.dat (.list es)),some (.dat (.list (ns.map .int))),some (.dat (.str x)),o4,o5,o6,o7]∧∀y∈ys.take j,zu ds x y=zu es x y) ⟨_,rfl,fun y hy=>by simp at hy⟩ ?_ ?_
   ·rintro j d α hd ⟨o7,rfl,ay⟩
    rw[ze4,zf0] at hd
    obtain⟨y,hy',rfl⟩:=hd
    refine⟨_,rfl,?_⟩
    and_intros
    refine⟨ds,x,y,rfl,rd.rd,hxw,?_⟩
    and_intros
    refine⟨es,x,y,rfl,re.rd,hxw,?_⟩
    refine qG rd re hxw y (fun e=>?_) (fun ne=>?_)
    ·refine yD rfl (zq (zq ⟨_,rfl,fun z hz=>?_⟩))
     rw[zj3,hy'] at hz
     rcases zf6.mp hz with hz|hz
     ·exact ay z hz
     ·have hz':z∈[y]:=by simpa using hz
      rw[zg8.mp hz'];exact e
    ·refine vq rfl ?_
     and_intros
     refine q2 (fun a=>ne ?_)
     have y0:=ed.pos y (zf7 hy')
     rcases Int.lt_or_le 1000000 y with z|z
     ·rw[wB rd.rd z,wB re.rd z]
     ·exact a x hxw y y0 z
   ·rintro α ⟨o7,rfl,ay⟩
    rw[zd5,zi8] at ay
    refine zq ⟨_,_,rfl,fun z hz day d0 d1=>?_⟩
    rw[zj3,hx] at hz
    rcases zf6.mp hz with hz|hz
    ·exact al z hz day d0 d1
    ·have hz':z∈[x]:=by simpa using hz
     rw[zg8.mp hz']
     exact ed.alike rd.rd re.rd (fun y hy _=>ay y hy) d0 d1
  ·rintro α ⟨o3,o7,rfl,al⟩
   rw[zd5,zi8] at al
   and_intros
   exact q1 al
theorem bO :zl ["_law_rules","_law_found","_law_at","_law_rule_here","_law_k"] ["_law_rules","_law_found"] (zc cP):=⟨rfl,rfl,rfl,by decide +kernel,rfl,by decide +kernel,by decide +kernel⟩
theorem fc (ds:List PyData)(n:Nat):L2.cutD ds none (some ((n:Nat):Int))=ds.take n:=by
 unfold L2.cutD
 rw[HT.mn,HT.pI,List.drop_zero,Nat.sub_zero]
 rcases zg9 n ds.length with h|h
 ·rw[Nat.min_eq_left (zh2 h)]
 ·rw[Nat.min_eq_right h,zi8,zo3 h]
theorem gH {f:Addr}{fd:FuncData}(F:Fun K "_law_is_tidy" "_law_is_tidy" cP f fd)(hm:mg "_law_is_tidy"=some (.ref f))(hb:Binds K fd ["_law_rules","_law_found"] [])(nb:NbT mg)(CA:Cal P w K mg base "_law_tells_alike" 2 eL):Cal P w K mg base "_law_is_tidy" 3 dm:=by
 refine vF F hm hb bO (fun as Q h=>?_) (fun cdv A' outer s H E as Q hr h=>?_)
 ·obtain⟨ds,fs,rfl,_⟩:=h
  rfl
 ·obtain⟨ds,fs,rfl,rd,hl,td,q⟩:=h
  have nd:=bO.nd
  have rf:=jC rd td.sub
  have lf:fs.length≤ds.length:=td.sub.length_le
  and_intros
  refine vU (fun α=>∃o3:Option A,α=[some (.dat (.list ds)),some (.dat (.list fs)),some (.dat (.int fs.length)),o3,none]) ?_ ?_
  ·refine yL (.one 3) (xN (zg 0 rfl ⟨_,rfl,?_⟩))
   refine zW (fun i α=>∃(n:Nat) (o3:Option A),α=[some (.dat (.list ds)),some (.dat (.list fs)),some (.dat (.int n)),o3,none]∧n≤fs.length∧(fs.drop n).Sublist (ds.drop i)) ⟨0,none,rfl,ze8 _,td.sub⟩ ?_ ?_
   ·rintro i d α hd ⟨n,o3,rfl,hn,sb⟩
    have hi:=(zd1.mp hd).1
    have rnd:=(rd d (zf7 hd)).nice
    have hdr:ds.drop i=d::ds.drop (i+1):=by
     rw[zg4 hi,(zd1.mp hd).2]
    rw[hdr] at sb
    refine⟨_,rfl,?_⟩
    and_intros
    refine ak (fun hc=>?_) (fun hc=>?_)
    ·have hlt:n<fs.length:=by have:=zl8 hc;omega
     have hf:fs[n]?=some fs[n]:=zd8 hlt
     have hfr:fs.drop n=fs[n]::fs.drop (n+1):=zg4 hlt
     rw[hfr] at sb
     have rnf:=(rf _ (zj7 hlt)).nice
     and_intros
     refine ixk rfl rfl (ny hf) ?_
     and_intros
     refine eqk rnf.shaped rnd.shaped rnf.nod rnd.nod ?_
     cases z:PyData.eqv fs[n] d with
     |true=>
      refine vq rfl ?_
      and_intros
      refine⟨n+1,_,rfl,hlt,?_⟩
      cases sb with
      |cons _ sb=>exact (List.sublist_cons_self _ _).trans sb
      |cons_cons _ sb=>exact sb
     |false=>
      refine yD rfl (zq (zq ⟨n,_,rfl,hn,?_⟩))
      rw[hfr]
      generalize hq:fs[n]=q at sb z
      cases sb with
      |cons _ sb=>exact sb
      |cons_cons _ sb=>rw[SeqAt.eqv_refl _ rnd.lay] at z;cases z
    ·have hge:n=fs.length:=by have:=of_decide_eq_false hc;omega
     refine yD rfl (zq (zq ⟨n,_,rfl,hn,?_⟩))
     rw[hge,zi1]
     exact List.nil_sublist _
   ·rintro α ⟨n,o3,rfl,hn,sb⟩
    rw[zi1] at sb
    have:fs.length≤n:=by
     have:=sb.length_le
     rw[zi7] at this
     simp at this
     omega
    have e:n=fs.length:=by omega
    subst e
    exact zq ⟨o3,rfl⟩
  rintro α ⟨o3,rfl⟩
  and_intros
  refine sN (zf5 (by omega)) ?_
  and_intros
  refine⟨ds,fs,rfl,rd,rf,by omega,fun _=>?_,fun z=>absurd td.al z⟩
  refine⟨true,rfl,yD rfl (zq ?_)⟩
  refine yL (.one 4) (ua (by rfl) nb.range ?_)
  and_intros
  refine⟨by omega,by omega,?_⟩
  refine zW (fun i α=>∃o4:Option A,α=[some (.dat (.list ds)),some (.dat (.list fs)),some (.dat (.int fs.length)),o3,o4]) ⟨_,rfl⟩ ?_ ?_
  ·rintro i d α hd ⟨o4,rfl⟩
   have hi:i<fs.length:=by
    have:=(zd1.mp hd).1
    rw[zd5,zX] at this
    omega
   have ed:d=.int (i:Int):=by
    rw[ze4,tJ (by omega)] at hd
    simpa using hd.symm
   subst ed
   refine⟨_,rfl,?_⟩
   and_intros
   rw[show ((i:Int)+1)=((i+1:Nat):Int) by omega,qB,fc]
   have lc:(fs.take i).length+(fs.drop (i+1)).length≤fs.length:=by rw[zj6,zi7];omega
   refine⟨by omega,?_⟩
   and_intros
   refine⟨fs,fs.take i++fs.drop (i+1),rfl,rf,fun d hd=>(zf6.mp hd).elim (fun z=>rf d (List.mem_of_mem_take z)) fun z=>rf d (zm4 z),by rw[zf1];omega,fun z=>absurd z (td.want (fs.take i) fs[i] (fs.drop (i+1)) ?_),fun _=>?_⟩
   ·rw[←zg4 hi,List.take_append_drop]
   ·exact⟨false,rfl,yD rfl (zq (zq ⟨_,rfl⟩))⟩
  ·rintro α ⟨o4,rfl⟩
   and_intros
   exact q
end
abbrev jm :Stmt:=top 50
def jy :List A→(A→Prop)→Prop:=fun as Q=>∃y:Int,as=[.tape,.dat (.int y)]∧0≤y∧y≤999990∧∀ds,zA ds→ds.length≤10→Q (.own ds)
structure Two (a b:Str):Prop where
 ha:a∈words∧a≠"go"∧a≠"deal"
 hb:b∈words∧b≠"go"∧b≠"deal"
def wor (x:Str)(m:Int):PyData:=if x="fee" then .int (m-13) else if x="come" then .bool true else if x="most" then .int m else if x="price" then .int 0 else .int 1
theorem fA {x:Str}(hx:x∈words∧x≠"go"∧x≠"deal")(m:Int):tN (dq "fee" "come" "most" "price" "least" (.int (m-13)) (.bool true) (.int m) (.int 0) (.int 1)) (.inr x)=some (wor x m):=by
 obtain⟨hw,h1,h2⟩:=hx
 simp only[words,zc9,zd4,zf4] at hw
 rcases hw with rfl|rfl|rfl|rfl|rfl|rfl|rfl
 ·with_unfolding_all rfl
 ·with_unfolding_all rfl
 ·exact absurd rfl h1
 ·with_unfolding_all rfl
 ·with_unfolding_all rfl
 ·exact absurd rfl h2
 ·with_unfolding_all rfl
theorem dG {x:Str}(hx:x∈words∧x≠"go"∧x≠"deal"){m:Int}(m0:13≤m)(m1:m≤14):zC (.str x) (wor x m)=true∧zS 5000 (wor x m)∧(wor x m).depth≤1:=by
 obtain⟨hw,h1,h2⟩:=hx
 simp only[words,zc9,zd4,zf4] at hw
 have ni:∀i:Int,0≤i→i≤14→zS 5000 (.int i)∧(PyData.int i).depth≤1:=fun i a b=>⟨(xY (by omega) (by omega)).mono (by decide),ze8 _⟩
 rcases hw with rfl|rfl|rfl|rfl|rfl|rfl|rfl
 ·rw[show wor "price" m=.int 0 by with_unfolding_all rfl,xh]
  exact⟨by decide +kernel,ni _ (by decide) (by decide)⟩
 ·rw[show wor "come" m=.bool true by with_unfolding_all rfl,wY]
  exact⟨rfl,(zS.bool _).mono (by decide),ze8 _⟩
 ·exact absurd rfl h1
 ·rw[show wor "least" m=.int 1 by with_unfolding_all rfl,wt]
  exact⟨by decide +kernel,ni _ (by decide) (by decide)⟩
 ·rw[show wor "most" m=.int m by with_unfolding_all rfl,wV]
  exact⟨within_int (by omega) (by omega),ni _ (by omega) (by omega)⟩
 ·exact absurd rfl h2
 ·rw[show wor "fee" m=.int (m-13) by with_unfolding_all rfl,vZ]
  exact⟨within_int (by omega) (by omega),ni _ (by omega) (by omega)⟩
theorem zA.noLs {ds:List PyData}(h:zA ds):L2.noLs ds=true:=by
 induction ds with
 |nil=>rfl
 |cons d r ih=>
  have h1:=h d zd7
  obtain⟨u,i,j,v,hu,rfl,_,_,_,hw⟩:=yy h1.rule
  have h2:=ih fun e he=>h e (zd2 _ he)
  show (L2.noLs [.str u,.int i,.int j,v]&&L2.noLs r)=true
  rw[h2,Bool.and_true]
  show (true&&(true&&(true&&(L2.noL v&&true))))=true
  rw[sQ hw]
  rfl
theorem bg {ds:List PyData}(h:L2.noLs ds=true):∀d∈ds,L2.noL d=true:=by
 induction ds with
 |nil=>intro d hd;simp at hd
 |cons e r ih=>
  have h':(L2.noL e&&L2.noLs r)=true:=h
  rw[ze9] at h'
  intro d hd
  rcases zc9.mp hd with rfl|hd
  ·exact h'.1
  ·exact ih h'.2 d hd
theorem cn {ds:List PyData}{v:Int}(v0:0≤v)(hv:v.toNat<ds.length):atI ds v=some ds[v.toNat]:=by
 unfold atI ixN
 rw[if_pos v0,if_pos (by omega)]
 show ds[v.toNat]?=_
 rw[zd8 hv]
theorem cA {ds:List PyData}(h:zA ds){d:PyData}(hd:vd d)(j:Int):zA (vI ds j d):=fun e he=>by
 unfold vI at he
 rcases zf6.mp he with z|z
 ·exact h e (List.mem_of_mem_take z)
 ·rcases zc9.mp z with rfl|z
  ·exact hd
  ·exact h e (zm4 z)
section
variable {P:Program}{w:World}{K:PySem.W.Frag}{mg:Str→Option Value}{base:Heap}
abbrev NmM :List Str:=["_law_row","_law_day_here","_law_rules","_law_some","_law_k","_law_first","_law_word","_law_most","_law_worth_here"]
theorem bA :zl NmM ["_law_row","_law_day_here"] (zc jm):=⟨rfl,rfl,rfl,by decide +kernel,rfl,by decide +kernel,by decide +kernel⟩
theorem iG {f:Addr}{fd:FuncData}(F:Fun K "_law_many" "_law_many" jm f fd)(hm:mg "_law_many"=some (.ref f))(hb:Binds K fd ["_law_row","_law_day_here"] [])(nb:NbT mg)(CD:Cal P w K mg base "_law_take" 1 xE)(CR:Cal P w K mg base "_law_rule" 4 nD):Cal P w K mg base "_law_many" 5 jy:=by
 refine vF F hm hb bA (fun as Q h=>?_) (fun cdv A' outer s H E as Q hr h=>?_)
 ·obtain⟨y,rfl,_⟩:=h
  rfl
 ·obtain⟨y,rfl,y0,y1,q⟩:=h
  have nd:=bA.nd
  refine dP 2 ["_law_k","_law_day_here","_law_row"] [none,some 1,some 0] (.one 0) (ua (by rfl) nb.range ?_)
  and_intros
  rename_i v va vb
  refine⟨by omega,by omega,by rw[zd5,zX];omega,?_⟩
  refine sR (fun i acc=>zA acc∧acc.length=i) ⟨fun d hd=>by simp at hd,rfl⟩ (fun i d acc hd ⟨ra,la⟩=>⟨_,rfl,fun C s2 H2 fp=>?_⟩) (fun ds0 h=>?_)
  ·refine iC ?_
   rw[if_pos rfl]
   intro C s2 H2 fp
   and_intros
   refine⟨y0,by omega,fun d rd=>⟨fun e he=>?_,by rw[zf1,la];rfl⟩⟩
   rcases zf6.mp he with he|he
   ·exact ra e he
   ·rw[zg8.mp he];exact rd
  obtain⟨rd0,ld0⟩:=h
  rw[zd5,zX] at ld0
  refine vU (fun α=>∃(ds:List PyData) (o3 o4 o5 o6 o7 o8:Option A),zA ds∧ds.length≤9∧α=[some .tape,some (.dat (.int y)),some (.own ds),o3,o4,o5,o6,o7,o8]) ?_ ?_
  ·and_intros
   refine yM (fun _=>?_) (fun _=>zq (zq ⟨ds0,_,_,_,_,_,_,rd0,by omega,rfl⟩))
   and_intros
   refine dg (fun d=>∃a b:Str,d=.list [.str a,.str b]∧Two a b) rfl (by assumption) (by assumption) ⟨⟨_,_,rfl,⟨by simp[words],by decide +kernel,by decide +kernel⟩,⟨by simp[words],by decide +kernel,by decide +kernel⟩⟩,⟨_,_,rfl,⟨by simp[words],by decide +kernel,by decide +kernel⟩,⟨by simp[words],by decide +kernel,by decide +kernel⟩⟩,⟨_,_,rfl,⟨by simp[words],by decide +kernel,by decide +kernel⟩,⟨by simp[words],by decide +kernel,by decide +kernel⟩⟩,trivial⟩ ?_
   rintro _ ⟨wa,wb,rfl,tw⟩
   and_intros
   refine yL (.one 4) (ua (by rfl) nb.range ?_)
   and_intros
   refine⟨by omega,by omega,?_⟩
   refine zW (fun i α=>∃(ds:List PyData) (o4 o5 o6 o7 o8:Option A),zA ds∧ds.length≤i∧α=[some .tape,some (.dat (.int y)),some (.own ds),some (.dat (.list [.str wa,.str wb])),o4,o5,o6,o7,o8]) ⟨[],_,_,_,_,_,fun d hd=>by simp at hd,zd6 _,rfl⟩ ?_ ?_
   ·rintro i d α hd ⟨ds,o4,o5,o6,o7,o8,ro,ld,rfl⟩
    have hi:=(zd1.mp hd).1
    rw[zd5,zX] at hi
    refine⟨_,rfl,?_⟩
    and_intros
    rename_i u1 ua1 ub1 u2 ua2 ub2
    refine dg (fun d=>∃x:Str,d=.str x∧(x∈words∧x≠"go"∧x≠"deal")) rfl (by assumption) (by assumption) ⟨⟨_,rfl,tw.ha⟩,⟨_,rfl,tw.hb⟩,trivial⟩ ?_
    rintro _ ⟨x,rfl,hx⟩
    refine yj 7 nd (yR (zo (zD CD (hr.mono (by decide)) (by rfl) (zy 0 rfl (zb (zo (zk ⟨_,rfl,by decide,by decide,fun u3 ua3 ub3=>⟨_,_,rfl,rfl,?_⟩⟩)))))))
    refine yj 8 nd (fY hr.one (uY (zg 7 rfl (zo ⟨_,_,rfl,rfl,rfl,ik ⟨rfl,zg 7 rfl ⟨rfl,zo ⟨rfl,zo ⟨rfl,zg 6 rfl ⟨x,wor x (13+u3),rfl,fA hx _,?_⟩⟩⟩⟩⟩⟩))))
    obtain⟨w1,w2,w3⟩:=dG hx (m:=13+u3) (by omega) (by omega)
    generalize wor x (13+u3)=wv at w1 w2 w3
    and_intros
    rename_i u4 ua4 ub4
    refine⟨by omega,zq ⟨_,_,_,_,_,_,fun e he=>?_,by rw[zf1];exact Nat.add_le_add_right ld 1,rfl⟩⟩
    rcases zf6.mp he with he|he
    ·exact ro e he
    ·rw[zg8.mp he]
     exact vd.of hx.1 (by split<;>omega) (by split<;>split<;>omega) (by split<;>split<;>omega) w1 w2 w3
   ·rintro α ⟨ds,o4,o5,o6,o7,o8,ro,ld,rfl⟩
    rw[zd5,zX] at ld
    exact zq (zq ⟨ds,_,_,_,_,_,_,ro,by omega,rfl⟩)
  ·rintro α ⟨ds,o3,o4,o5,o6,o7,o8,ro,ld,rfl⟩
   refine vU (fun α=>∃(es:List PyData) (o3 o4 o5 o6 o7 o8:Option A),zA es∧es.length≤10∧α=[some .tape,some (.dat (.int y)),some (.own es),o3,o4,o5,o6,o7,o8]) ?_ ?_
   ·refine xB (rL 2 rfl (EvW.t (rE (iX hr.units (zg 2 rfl (EvL.d (yh (zk ⟨_,rfl,ze2 rfl,?_⟩))))))))
    have nn:=ro.nice (by omega)
    refine eqk nn.shaped (by decide +kernel) nn.nod (by decide +kernel) ?_
    cases ds with
    |nil=>exact sN (by decide +kernel) (yD rfl (zq (zq ⟨[],_,_,_,_,_,_,ro,by simp,rfl⟩)))
    |cons d0 dr=>
     refine eW (by simp[PyData.eqv,PyData.eqvAll]) ?_
     and_intros
     refine yM (fun _=>?_) (fun _=>zq (zq ⟨d0::dr,_,_,_,_,_,_,ro,by omega,rfl⟩))
     have lp:0<(d0::dr).length:=Nat.succ_pos _
     generalize d0::dr=ds at ro ld lp
     have hbig:(1000:Int)<big:=by decide
     refine mG 2 rfl (zD CD (hr.mono (by decide)) (by rfl) (zy 0 rfl (zb (mq 2 rfl (yR (sZ (by rfl) nb.len (zg 2 rfl ⟨_,rfl,zo ⟨_,_,rfl,rfl,rfl,zk ⟨_,rfl,by omega,by omega,fun v1 va1 vb1=>?_⟩⟩⟩)))))))
     refine mq 2 rfl (jj hr.one (fun _ _=>rfl) (zg 2 rfl (zD CD (hr.mono (by decide)) (by rfl) (zy 0 rfl (zb (sZ (by rfl) nb.len (zg 2 rfl ⟨_,rfl,zk ⟨_,rfl,by omega,by omega,fun v2 va2 vb2=>?_⟩⟩)))))))
     have hv:v2.toNat<ds.length:=by omega
     refine ixk rfl rfl (cn va2 hv) ⟨bg ro.noLs _ (zj7 hv),v1,rfl,by omega,by omega,by omega,?_⟩
     exact zq (zq ⟨_,_,_,_,_,_,_,cA ro (ro _ (zj7 hv)) v1,by rw[pE];omega,rfl⟩)
   ·rintro α ⟨es,o3,o4,o5,o6,o7,o8,re,le,rfl⟩
    exact sX 2 rfl (q es re le)
end
abbrev rP :Stmt:=top 51
abbrev nLa :List Str:=["_law_script","_law_cell","_law_row","_law_rules","_law_book","_law_found"]
theorem bY :zl nLa ["_law_script"] (zc rP):=⟨rfl,rfl,rfl,by decide +kernel,rfl,by decide +kernel,by decide +kernel⟩
theorem lj {X:Cx}{α α0:Ev}{E:yw}{sts:List Stmt}(hl:α0.length=α.length)(le:∀(i:Nat) a,α0[i]?=some (some a)→α[i]?=some (some a))(h:SvS X α0 sts E):SvS X α sts E:=fun F σ H D m r=>h F σ H D (m.forget hl le) r
theorem eH {α:Ev}{n:Nat}{a:A}(hl:α.length=n+2):∀(i:Nat) b,((none:Option A)::some a::List.replicate n none)[i]?=some (some b)→(α.set 1 (some a))[i]?=some (some b):=by
 intro i b h
 rcases i with _|_|i
 ·cases h
 ·rw[zk1 (by omega)];exact h
 ·simp only[zn9,zi3] at h
  split at h<;>cases h
theorem cO (ds:List PyData):Tdy ds (yX ds):=⟨jB ds,oV ds,fun a r b e=>sI ds e⟩
section
variable {P:Program}{w:World}{K:PySem.W.Frag}{mg:Str→Option Value}{base:Heap}{cs:Cs}
theorem dS {f C:Addr}{fd:FuncData}(F:Fun K "law" "law" rP f fd)(nb:NbT mg)(CB:Cal P w K mg base "_law_begin" 1 nj)(CD:Cal P w K mg base "_law_take" 1 xE)(CY:Cal P w K mg base "_law_day" 2 js)(CM:Cal P w K mg base "_law_many" 5 jy)(CT:Cal P w K mg base "tidied" 11 (jT C cs))(CI:Cal P w K mg base "_law_is_tidy" 3 dm)
  (CK:ko P w K mg base "Book" 9 [] (uK C cs)) (MR:xI P w K mg base C "rules" 3 (vg C cs)) (mB:mg "Book"=some (.ref C)) (cB:bH K C) (kB:PySem.W.kitOne K (.ref C) (.ref C)=some true):zB P w K mg base CX0 12 f fd ["_law_script"] (pB K):=by
 refine za5 (k:=11) (j:=1) F bY rfl (Or.inl rfl) rfl (Or.inl rfl) (fun cdv A' outer s H E zs hr lz=>?_)
 have nd:=bY.nd
 refine zW (fun i α=>α.length=6) (by simp) ?_ ?_
 ·intro i d α hd hl
  rw[ze4,zf0] at hd
  obtain⟨z,hz,rfl⟩:=hd
  refine⟨_,rfl,?_⟩
  refine lj (α0:=none::some (.dat (.int z))::List.replicate 4 none) (by rw[zh5,hl];rfl) (eH hl) ?_
  refine wF 2 nd (uR CB (hr.mono (by decide)) (by rfl) (zb (zg 1 rfl (zk ⟨z,rfl,fun x y y0 y1=>⟨_,rfl,?_⟩⟩))))
  refine cI 2 rfl y0 y1 ?_
  refine wF 3 nd (uR CM (hr.mono (by decide)) (by rfl) (zy 2 rfl (zb (zD CY (hr.mono (by decide)) (by rfl) (zy 2 rfl (zk ⟨rfl,fun dy d0 d1=>zk ⟨dy,rfl,d0,d1,fun ds ro ld=>⟨_,rfl,?_⟩⟩⟩))))))
  refine rX 3 rfl ?_
  refine yj 4 nd (EvN.d (ng CK (hr.mono (by decide)) (by rfl) (zb (zg 3 rfl (zk ⟨ds,.inl rfl,ro.rules,by omega,?_⟩)))))
  refine yj 5 nd (zD CT (hr.mono (by decide)) (by rfl) (zb (zg 4 rfl (zk ⟨ds,rfl,ro,by omega,?_⟩))))
  have td:=cO ds
  have tt:=lE ds
  have rt:=jC ro td.sub
  have lt:(yX ds).length≤ds.length:=td.sub.length_le
  generalize hf:yX ds=fs at td tt rt lt
  have n1:=ro.nice (by omega)
  have n2:=rt.nice (by omega)
  refine xB (EvW.t (eU (jI (jz (fj (by rfl) nb.isinstance (by rfl) mB (zg 5 rfl ⟨C,_,true,rfl,cB,kB,⟨_,rfl,?_⟩⟩))))))
  refine sN rfl ?_
  and_intros
  refine⟨rt.rules,by omega,?_⟩
  and_intros
  refine⟨ds,fs,rfl,ro,by omega,td,⟨true,rfl,?_⟩⟩
  refine sN rfl ?_
  and_intros
  refine⟨ro.rules,by omega,?_⟩
  refine zg 3 rfl (eqk n1.shaped n1.shaped n1.nod n1.nod ?_)
  refine yD (by show (!PyData.eqv (.list ds) (.list ds))=false;rw[SeqAt.eqv_refl _ n1.lay];rfl) (zq ?_)
  and_intros
  refine⟨rt,by omega,?_⟩
  rw[tt]
  have ne:(!PyData.eqv (A.own fs).d (A.own fs).d)=false:=by show (!PyData.eqv (.list fs) (.list fs))=false;rw[SeqAt.eqv_refl _ n2.lay];rfl
  and_intros
  refine⟨rt.rules,by omega,?_⟩
  and_intros
  refine⟨rt.rules,by omega,?_⟩
  refine eqk n2.shaped n2.shaped n2.nod n2.nod ?_
  refine sN ne ?_
  and_intros
  refine⟨ro,by omega,?_⟩
  rw[hf]
  and_intros
  refine⟨rt.rules,by omega,?_⟩
  and_intros
  refine⟨rt.rules,by omega,?_⟩
  refine eqk n2.shaped n2.shaped n2.nod n2.nod ?_
  refine yD ne (zq (zq rfl))
 ·intro α _
  exact yz (ik rfl)
end
def FnF (K:PySem.W.Frag)(f:Addr)(nm ql:Str)(st:Stmt):Prop:=∃fd,Fun K nm ql st f fd
theorem mkF {K:PySem.W.Frag}{f:Addr}{nm ql:Str}{st:Stmt}{oc kV dc pm cd ct:Value}{od an:Option Addr}{sl:Array (Option Value)}(l:K.lookup f=some ⟨oc,od,.func (PySem.W.fnOf nm ql (ya st) (zG st) (zc st) .none kV dc pm an cd ct),sl⟩)(c:PySem.W.codeIn K cd ql=true)(k:PySem.W.keepIn K (.ref f)=true):FnF K f nm ql st:=⟨_,jt l c k⟩
def FnG (K:PySem.W.Frag)(f:Addr)(nm:Str)(st:Stmt):Prop:=PySem.W.nsIn K mainGlobals nm=some (some (.ref f))∧FnF K f nm nm st
theorem mkG {K:PySem.W.Frag}{f:Addr}{nm:Str}{st:Stmt}{oc kV dc pm cd ct:Value}{od an:Option Addr}{sl:Array (Option Value)}(a:PySem.W.nsIn K mainGlobals nm=some (some (.ref f)))(l:K.lookup f=some ⟨oc,od,.func (PySem.W.fnOf nm nm (ya st) (zG st) (zc st) .none kV dc pm an cd ct),sl⟩)(c:PySem.W.codeIn K cd nm=true)(k:PySem.W.keepIn K (.ref f)=true):FnG K f nm st:=⟨a,mkF l c k⟩
theorem FnF.get {K:PySem.W.Frag}{f:Addr}{nm ql:Str}{st:Stmt}(ps:List Str)(h:FnF K f nm ql st)(hb:∀(kV doc pm:Value) (an:Option Addr) (cdv ct:Value) (us:List Value),us.length=ps.length→bindArgs (PySem.W.fnOf nm ql (ya st) (zG st) (zc st) .none kV doc pm an cdv ct) ⟨us,[]⟩=pure (ps.zip us)):∃fd,Fun K nm ql st f fd∧Binds K fd ps []:=by
 obtain⟨fd,F⟩:=h
 exact⟨fd,F,F.binds hb⟩
theorem FnG.get {K:PySem.W.Frag}{h0:Heap}{mg:Str→Option Value}{f:Addr}{nm:Str}{st:Stmt}(ps:List Str)(h:FnG K f nm st)(X:K.In h0)(G:h0.Ns mainGlobals mg)(hb:∀(kV doc pm:Value) (an:Option Addr) (cdv ct:Value) (us:List Value),us.length=ps.length→bindArgs (PySem.W.fnOf nm nm (ya st) (zG st) (zc st) .none kV doc pm an cdv ct) ⟨us,[]⟩=pure (ps.zip us)):∃fd,mg nm=some (.ref f)∧Fun K nm nm st f fd∧Binds K fd ps []:=by
 obtain⟨a,fd,F⟩:=h
 exact⟨fd,zg6 X G a,F,F.binds hb⟩
theorem mkR {K:PySem.W.Frag}{C gi gt ge gw:Addr}(pg:PySem.W.plainGet K C Str.empty=true)(hd:PySem.W.hasDictIn K C=true)(po:PySem.W.plainOver K C=true)(sa:PySem.W.findIn K (.ref C) "__setattr__"=some (some (.builtin "object.__setattr__")))(n1:PySem.W.findIn K (.ref C) "first"=some none)(n2:PySem.W.findIn K (.ref C) "last"=some none)(n3:PySem.W.findIn K (.ref C) "worth"=some none)(mk:PySem.W.makesIn K C=true)(f1:PySem.W.findIn K (.ref C) "__init__"=some (some (.ref gi)))(i1:PySem.W.isFn K (.ref gi)=true)(kc:PySem.W.keepIn K (.ref C)=true)(f2:PySem.W.findIn K (.ref C) "told"=some (some (.ref gt)))(i2:PySem.W.isFn K (.ref gt)=true)(k2:PySem.W.keepIn K (.ref gt)=true)(f3:PySem.W.findIn K (.ref C) "tells"=some (some (.ref ge)))(i3:PySem.W.isFn K (.ref ge)=true)(k3:PySem.W.keepIn K (.ref ge)=true)(f4:PySem.W.findIn K (.ref C) "word"=some (some (.ref gw)))(i4:PySem.W.isFn K (.ref gw)=true)(k4:PySem.W.keepIn K (.ref gw)=true):xl K C gi gt ge gw:=⟨⟨pg,hd,po,sa⟩,n1,n2,n3,⟨mk,f1,i1,kc⟩,⟨f2,i2,k2⟩,⟨f3,i3,k3⟩,⟨f4,i4,k4⟩⟩
theorem mP {K:PySem.W.Frag}{dT:Addr}{oc kV doc pm cdv ct:Value}{od an:Option Addr}{n:Nat}{sl:Array (Option Value)}(lk:K.lookup dT=some ⟨oc,od,.seq #[.none] n,sl⟩):
  Binds K (PySem.W.fnOf "__init__" "Book.__init__" (ya yQ) (zG yQ) (zc yQ) (.ref dT) kV doc pm an cdv ct) ["self","rules"] [.none]:=fun s us hk hl=>by
 match us,(show us.length=1 by rw[zf1] at hl;simpa using hl) with
 |[u],_=>exact BindsTo.of_defaults (T:=dT) rfl (hk _ _ lk) rfl rfl rfl
theorem kb {K:PySem.W.Frag}{dT:Addr}{oc kV doc pm cdv ct:Value}{od an:Option Addr}{n:Nat}{sl:Array (Option Value)}(lk:K.lookup dT=some ⟨oc,od,.seq #[.none] n,sl⟩):
  Binds K (PySem.W.fnOf "__init__" "Book.__init__" (ya yQ) (zG yQ) (zc yQ) (.ref dT) kV doc pm an cdv ct) ["self","rules"] []:=fun s us hk hl=>by
 rw[zk4] at hl ⊢
 match us,hl with
 |[u,v],_=>exact BindsTo.of_defaults (T:=dT) rfl (hk _ _ lk) rfl rfl rfl
theorem eB {P:Str→Prop}(h1:P "price")(h2:P "come")(h3:P "go")(h4:P "least")(h5:P "most")(h6:P "deal")(h7:P "fee"):∀u∈words,P u:=by
 intro u hu
 simp only[words,zc9,zd4,zf4] at hu
 rcases hu with rfl|rfl|rfl|rfl|rfl|rfl|rfl<;>assumption
set_option maxHeartbeats 8000000 in
theorem us1 {α:Type}{p:List α→Prop}(h:∀a,p [a])(us:List α)(hl:us.length=1):p us:=by
 obtain⟨a,rfl⟩:=List.length_eq_one_iff.mp hl
 exact h a
theorem us2 {α:Type}{p:List α→Prop}(h:∀a b,p [a,b])(us:List α)(hl:us.length=2):p us:=by
 cases us with
 |nil=>cases hl
 |cons a us=>exact us1 (p:=fun us=>p (a::us)) (h a) us (Nat.succ.inj hl)
theorem us3 {α:Type}{p:List α→Prop}(h:∀a b c,p [a,b,c])(us:List α)(hl:us.length=3):p us:=by
 cases us with
 |nil=>cases hl
 |cons a us=>exact us2 (p:=fun us=>p (a::us)) (h a) us (Nat.succ.inj hl)
theorem us4 {α:Type}{p:List α→Prop}(h:∀a b c d,p [a,b,c,d])(us:List α)(hl:us.length=4):p us:=by
 cases us with
 |nil=>cases hl
 |cons a us=>exact us3 (p:=fun us=>p (a::us)) (h a) us (Nat.succ.inj hl)
set_option maxHeartbeats 0 in
theorem all_mk {l:PySem.W.OpenLaw}{w:World}{K:PySem.W.Frag}{h:Heap}{mg:Str→Option Value}{fa f1 f2 f3 f4 f5 f6 f7 f8 f9 f10 f11 f12 f13 f14 f15 f16 f17 f18 f19 f20 f21 f22 f23 f24 f25 f26 f27 f28 g_init g_told g_tells g_wPrice g_wCome g_wGo g_wLeast g_wMost g_wDeal g_wFee CPrice CCome CGo CLeast CMost CDeal CFee CB dT g_binit g_brules g_btells dU:Addr}(X:K.In h)(G:h.Ns mainGlobals mg)(hfa:mg "law"=some (.ref fa))
  {od28 an28 odB anB odT:Option Addr} {sl28 slB slT:Array (Option Value)} {oc28 kV28 dc28 pm28 ct28 cd28 ocB kVB dcB pmB ctB cdB ocT:Value} {tk1 tk2 tk3 tk4 tu1 tu2 tu3 tu4 tu5 tu6 tu7 tu8 tu9 tu10:Tok} {hu1 hu2 hu3 hu4 hu5 hu6 hu7:Int} {nT nU:Nat}
  (q1:FnG K f1 "is_whole" rz)
  (q2:FnG K f2 "is_whole_within" rD)
  (q3:FnG K f3 "is_pair" jM)
  (q4:FnG K f4 "is_day" cp)
  (q5:FnG K f5 "is_pair_of_days" jr)
  (q6:FnG K f6 "is_stretch" tM)
  (q7:FnG K f7 "is_coins" pR)
  (q8:FnG K f8 "is_deal" sY)
  (q9:FnG K f9 "is_worth" oW)
  (q10:FnG K f10 "is_rule" rm)
  (q11:FnG K f11 "made" jk)
  (q12:FnG K f12 "rule_of" qi)
  (q13:FnG K f13 "usual" oY)
  (q14:FnG K f14 "kept_rules" gb)
  (q15:FnG K f15 "edges" pW)
  (q16:FnG K f16 "unlike" bj)
  (q17:FnG K f17 "tidied" iq)
  (q18:FnG K f18 "_law_begin" oq)
  (q19:FnG K f19 "_law_take" kH)
  (q20:FnG K f20 "_law_coins" rC)
  (q21:FnG K f21 "_law_worth" rS)
  (q22:FnG K f22 "_law_rule" oy)
  (q23:FnG K f23 "_law_tells" rQ)
  (q24:FnG K f24 "_law_day" kN)
  (q25:FnG K f25 "_law_tells_alike" cQ)
  (q26:FnG K f26 "_law_is_tidy" cP)
  (q27:FnG K f27 "_law_many" jm)
  (a28:PySem.W.nsIn K mainGlobals "law"=some (some (.ref f28)))
  (l28:K.lookup f28=some ⟨oc28,od28,.func (PySem.W.fnOf "law" "law" (ya rP) (zG rP) (zc rP) .none kV28 dc28 pm28 an28 cd28 ct28),sl28⟩)
  (c28:PySem.W.codeIn K cd28 "law"=true)
  (k28:PySem.W.keepIn K (.ref f28)=true)
  (aCPrice:PySem.W.nsIn K mainGlobals "Price"=some (some (.ref CPrice)))
  (aCCome:PySem.W.nsIn K mainGlobals "Come"=some (some (.ref CCome)))
  (aCGo:PySem.W.nsIn K mainGlobals "Go"=some (some (.ref CGo)))
  (aCLeast:PySem.W.nsIn K mainGlobals "Least"=some (some (.ref CLeast)))
  (aCMost:PySem.W.nsIn K mainGlobals "Most"=some (some (.ref CMost)))
  (aCDeal:PySem.W.nsIn K mainGlobals "Deal"=some (some (.ref CDeal)))
  (aCFee:PySem.W.nsIn K mainGlobals "Fee"=some (some (.ref CFee)))
  (RPrice:xl K CPrice g_init g_told g_tells g_wPrice)
  (RCome:xl K CCome g_init g_told g_tells g_wCome)
  (RGo:xl K CGo g_init g_told g_tells g_wGo)
  (RLeast:xl K CLeast g_init g_told g_tells g_wLeast)
  (RMost:xl K CMost g_init g_told g_tells g_wMost)
  (RDeal:xl K CDeal g_init g_told g_tells g_wDeal)
  (RFee:xl K CFee g_init g_told g_tells g_wFee)
  (q_init:FnF K g_init "__init__" "Rule.__init__" nW)
  (q_told:FnF K g_told "told" "Rule.told" jb)
  (q_tells:FnF K g_tells "tells" "Rule.tells" pL)
  (q_wPrice:FnF K g_wPrice "word" "Price.word" qk)
  (q_wCome:FnF K g_wCome "word" "Come.word" nc)
  (q_wGo:FnF K g_wGo "word" "Go.word" cU)
  (q_wLeast:FnF K g_wLeast "word" "Least.word" sW)
  (q_wMost:FnF K g_wMost "word" "Most.word" oZ)
  (q_wDeal:FnF K g_wDeal "word" "Deal.word" oi)
  (q_wFee:FnF K g_wFee "word" "Fee.word" ja)
  (aCB:PySem.W.nsIn K mainGlobals "Book"=some (some (.ref CB)))
  (fi_binit:PySem.W.findIn K (.ref CB) "__init__"=some (some (.ref g_binit)))
  (is_binit:PySem.W.isFn K (.ref g_binit)=true)
  (l_binit:K.lookup g_binit=some ⟨ocB,odB,.func (PySem.W.fnOf "__init__" "Book.__init__" (ya yQ) (zG yQ) (zc yQ) (.ref dT) kVB dcB pmB anB cdB ctB),slB⟩)
  (c_binit:PySem.W.codeIn K cdB "Book.__init__"=true)
  (k_binit:PySem.W.keepIn K (.ref g_binit)=true)
  (lT:K.lookup dT=some ⟨ocT,odT,.seq #[.none] nT,slT⟩)
  (fi_brules:PySem.W.findIn K (.ref CB) "rules"=some (some (.ref g_brules)))
  (is_brules:PySem.W.isFn K (.ref g_brules)=true)
  (q_brules:FnF K g_brules "rules" "Book.rules" wG)
  (fi_btells:PySem.W.findIn K (.ref CB) "tells_of"=some (some (.ref g_btells)))
  (is_btells:PySem.W.isFn K (.ref g_btells)=true)
  (q_btells:FnF K g_btells "tells_of" "Book.tells_of" rh)
  (pgB:PySem.W.plainGet K CB Str.empty=true)
  (hdB:PySem.W.hasDictIn K CB=true)
  (poB:PySem.W.plainOver K CB=true)
  (saB:PySem.W.findIn K (.ref CB) "__setattr__"=some (some (.builtin "object.__setattr__")))
  (mkB:PySem.W.makesIn K CB=true)
  (kcB:PySem.W.keepIn K (.ref CB)=true)
  (noB:PySem.W.findIn K (.ref CB) "kept"=some none)
  (z1:PySem.W.nsIn K mainGlobals "abs"=some none)
  (z2:PySem.W.nsIn K mainGlobals "list"=some none)
  (z3:PySem.W.nsIn K mainGlobals "len"=some none)
  (z4:PySem.W.nsIn K mainGlobals "range"=some none)
  (z5:PySem.W.nsIn K mainGlobals "min"=some none)
  (z6:PySem.W.nsIn K mainGlobals "max"=some none)
  (z7:PySem.W.nsIn K mainGlobals "sorted"=some none)
  (z8:PySem.W.nsIn K mainGlobals "isinstance"=some none)
  (z9:PySem.W.nsIn K mainGlobals "int"=some none)
  (z10:PySem.W.nsIn K mainGlobals "bool"=some none)
  (z11:PySem.W.nsIn K mainGlobals "str"=some none)
  (z12:PySem.W.nsIn K mainGlobals "tuple"=some none)
  (z13:PySem.W.nsIn K mainGlobals "all"=some none)
  (z14:PySem.W.nsIn K mainGlobals "any"=some none)
  (z15:PySem.W.nsIn K mainGlobals "repr"=some none)
  (z16:PySem.W.nsIn K mainGlobals "zip"=some none)
  (z17:PySem.W.nsIn K mainGlobals "enumerate"=some none)
  (z18:PySem.W.nsIn K mainGlobals "reversed"=some none)
  (z19:PySem.W.nsIn K mainGlobals "sum"=some none)
  (z20:PySem.W.nsIn K mainGlobals "set"=some none)
  (gi1:PySem.W.nsIn K mainGlobals "LAST_DAY"=some (some (.int 1000000 tk1)))
  (gi2:PySem.W.nsIn K mainGlobals "MOST_NIGHTS"=some (some (.int 14 tk2)))
  (gi3:PySem.W.nsIn K mainGlobals "MOST_COINS"=some (some (.int 1000000000000 tk3)))
  (gi4:PySem.W.nsIn K mainGlobals "MOST_RULES"=some (some (.int 24 tk4)))
  (aU:PySem.W.nsIn K mainGlobals "USUAL"=some (some (.ref dU)))
  (lU:K.lookup dU=some ⟨.type "dict",none,.dict #[⟨hu1,.str "price" tu1,.none⟩,⟨hu2,.str "come" tu2,.bool true⟩,⟨hu3,.str "go" tu3,.bool true⟩,⟨hu4,.str "least" tu4,.int 1 tu8⟩,⟨hu5,.str "most" tu5,.int 14 tu9⟩,⟨hu6,.str "deal" tu6,.none⟩,⟨hu7,.str "fee" tu7,.int 0 tu10⟩] nU,#[]⟩)
  (hh1:hu1=hashStr w "price")
  (hh2:hu2=hashStr w "come")
  (hh3:hu3=hashStr w "go")
  (hh4:hu4=hashStr w "least")
  (hh5:hu5=hashStr w "most")
  (hh6:hu6=hashStr w "deal")
  (hh7:hu7=hashStr w "fee")
  (haB:PySem.W.findIn K (.ref CB) "__class__"=some (some (.builtin "object.__class__")))
  (hnB:PySem.W.specialIn K (.builtin "object.__class__") "__get__"=some (some (.builtin "getset_descriptor.__get__")))
  (htB:PySem.W.takesIn K (.builtin "object.__class__")=some true)
  (hmB:PySem.W.mroIn K CB (.type "object")=some true)
  (kBB:PySem.W.kitOne K (.ref CB) (.ref CB)=some true)
  (nsU:(dU == sysModules)=false):
  ∃fd:FuncData,(∀(s:Shared) (v:Value),BindsTo s fd ⟨[v],[]⟩ [("_law_script",v)])∧∀base:Heap,K.In base→base.Ns mainGlobals mg→zB l.prog w K mg base CX0 12 fa fd ["_law_script"] (pB K):=by
 have e:=hfa.symm.trans (zg6 X G a28)
 cases e
 have nb:NbT mg:=⟨ze6 X G z1,ze6 X G z2,ze6 X G z3,ze6 X G z4,ze6 X G z5,ze6 X G z6,ze6 X G z7,ze6 X G z8,ze6 X G z9,ze6 X G z10,ze6 X G z11,ze6 X G z12,ze6 X G z13,ze6 X G z14,ze6 X G z15,ze6 X G z16,ze6 X G z17,ze6 X G z18,ze6 X G z19⟩
 have n_set:mg "set"=none:=ze6 X G z20
 obtain⟨_,m_is_whole,F_is_whole,b_is_whole⟩:=q1.get ["thing"] X G fun _ _ _ _ _ _=>us1 fun _=>rfl
 obtain⟨_,m_is_whole_within,F_is_whole_within,b_is_whole_within⟩:=q2.get ["thing","lowest","highest"] X G fun _ _ _ _ _ _=>us3 fun _ _ _=>rfl
 obtain⟨_,m_is_pair,F_is_pair,b_is_pair⟩:=q3.get ["thing"] X G fun _ _ _ _ _ _=>us1 fun _=>rfl
 obtain⟨_,m_is_day,F_is_day,b_is_day⟩:=q4.get ["thing"] X G fun _ _ _ _ _ _=>us1 fun _=>rfl
 obtain⟨_,m_is_pair_of_days,F_is_pair_of_days,b_is_pair_of_days⟩:=q5.get ["thing"] X G fun _ _ _ _ _ _=>us1 fun _=>rfl
 obtain⟨_,m_is_stretch,F_is_stretch,b_is_stretch⟩:=q6.get ["thing"] X G fun _ _ _ _ _ _=>us1 fun _=>rfl
 obtain⟨_,m_is_coins,F_is_coins,b_is_coins⟩:=q7.get ["thing"] X G fun _ _ _ _ _ _=>us1 fun _=>rfl
 obtain⟨_,m_is_deal,F_is_deal,b_is_deal⟩:=q8.get ["thing"] X G fun _ _ _ _ _ _=>us1 fun _=>rfl
 obtain⟨_,m_is_worth,F_is_worth,b_is_worth⟩:=q9.get ["word","thing"] X G fun _ _ _ _ _ _=>us2 fun _ _=>rfl
 obtain⟨_,m_is_rule,F_is_rule,b_is_rule⟩:=q10.get ["thing"] X G fun _ _ _ _ _ _=>us1 fun _=>rfl
 obtain⟨_,m_made,F_made,b_made⟩:=q11.get ["word","first","last","worth"] X G fun _ _ _ _ _ _=>us4 fun _ _ _ _=>rfl
 obtain⟨_,m_rule_of,F_rule_of,b_rule_of⟩:=q12.get ["thing"] X G fun _ _ _ _ _ _=>us1 fun _=>rfl
 obtain⟨_,m_usual,F_usual,b_usual⟩:=q13.get ["word"] X G fun _ _ _ _ _ _=>us1 fun _=>rfl
 obtain⟨_,m_kept_rules,F_kept_rules,b_kept_rules⟩:=q14.get ["things"] X G fun _ _ _ _ _ _=>us1 fun _=>rfl
 obtain⟨_,m_edges,F_edges,b_edges⟩:=q15.get ["rules","word"] X G fun _ _ _ _ _ _=>us2 fun _ _=>rfl
 obtain⟨_,m_unlike,F_unlike,b_unlike⟩:=q16.get ["one","other"] X G fun _ _ _ _ _ _=>us2 fun _ _=>rfl
 obtain⟨_,m_tidied,F_tidied,b_tidied⟩:=q17.get ["book"] X G fun _ _ _ _ _ _=>us1 fun _=>rfl
 obtain⟨_,m__law_begin,F__law_begin,b__law_begin⟩:=q18.get ["_law_cell"] X G fun _ _ _ _ _ _=>us1 fun _=>rfl
 obtain⟨_,m__law_take,F__law_take,b__law_take⟩:=q19.get ["_law_row","_law_base"] X G fun _ _ _ _ _ _=>us2 fun _ _=>rfl
 obtain⟨_,m__law_coins,F__law_coins,b__law_coins⟩:=q20.get ["_law_row"] X G fun _ _ _ _ _ _=>us1 fun _=>rfl
 obtain⟨_,m__law_worth,F__law_worth,b__law_worth⟩:=q21.get ["_law_row","_law_word"] X G fun _ _ _ _ _ _=>us2 fun _ _=>rfl
 obtain⟨_,m__law_rule,F__law_rule,b__law_rule⟩:=q22.get ["_law_row","_law_day_here"] X G fun _ _ _ _ _ _=>us2 fun _ _=>rfl
 obtain⟨_,m__law_tells,F__law_tells,b__law_tells⟩:=q23.get ["_law_rules","_law_word","_law_day_here"] X G fun _ _ _ _ _ _=>us3 fun _ _ _=>rfl
 obtain⟨_,m__law_day,F__law_day,b__law_day⟩:=q24.get ["_law_row"] X G fun _ _ _ _ _ _=>us1 fun _=>rfl
 obtain⟨_,m__law_tells_alike,F__law_tells_alike,b__law_tells_alike⟩:=q25.get ["_law_one","_law_other"] X G fun _ _ _ _ _ _=>us2 fun _ _=>rfl
 obtain⟨_,m__law_is_tidy,F__law_is_tidy,b__law_is_tidy⟩:=q26.get ["_law_rules","_law_found"] X G fun _ _ _ _ _ _=>us2 fun _ _=>rfl
 obtain⟨_,m__law_many,F__law_many,b__law_many⟩:=q27.get ["_law_row","_law_day_here"] X G fun _ _ _ _ _ _=>us2 fun _ _=>rfl
 have F_law:=jt (st:=rP) l28 c28 k28
 have b_law:=F_law.binds (ps:=["_law_script"]) fun _ _ _ _ _ _=>us1 fun _=>rfl
 obtain⟨_,F_init,b_init⟩:=q_init.get ["self","first","last","worth"] fun _ _ _ _ _ _=>us4 fun _ _ _ _=>rfl
 obtain⟨_,F_told,b_told⟩:=q_told.get ["self"] fun _ _ _ _ _ _=>us1 fun _=>rfl
 obtain⟨_,F_tells,b_tells⟩:=q_tells.get ["self","day"] fun _ _ _ _ _ _=>us2 fun _ _=>rfl
 obtain⟨_,F_wPrice,b_wPrice⟩:=q_wPrice.get ["self"] fun _ _ _ _ _ _=>us1 fun _=>rfl
 obtain⟨_,F_wCome,b_wCome⟩:=q_wCome.get ["self"] fun _ _ _ _ _ _=>us1 fun _=>rfl
 obtain⟨_,F_wGo,b_wGo⟩:=q_wGo.get ["self"] fun _ _ _ _ _ _=>us1 fun _=>rfl
 obtain⟨_,F_wLeast,b_wLeast⟩:=q_wLeast.get ["self"] fun _ _ _ _ _ _=>us1 fun _=>rfl
 obtain⟨_,F_wMost,b_wMost⟩:=q_wMost.get ["self"] fun _ _ _ _ _ _=>us1 fun _=>rfl
 obtain⟨_,F_wDeal,b_wDeal⟩:=q_wDeal.get ["self"] fun _ _ _ _ _ _=>us1 fun _=>rfl
 obtain⟨_,F_wFee,b_wFee⟩:=q_wFee.get ["self"] fun _ _ _ _ _ _=>us1 fun _=>rfl
 obtain⟨_,F_brules,b_brules⟩:=q_brules.get ["self"] fun _ _ _ _ _ _=>us1 fun _=>rfl
 obtain⟨_,F_btells,b_btells⟩:=q_btells.get ["self","word","day"] fun _ _ _ _ _ _=>us3 fun _ _ _=>rfl
 have TD:qA mg f1 f2 f3 f4 f5:=⟨nb.isinstance,nb.int,nb.bool,nb.tuple,nb.len,⟨tk1,zg6 X G gi1⟩,⟨tk2,zg6 X G gi2⟩,m_is_whole,m_is_whole_within,m_is_pair,m_is_day,m_is_pair_of_days⟩
 have TR:pY mg f1 f2 f3 f4 f5 f6 f7 f8 f9 f10 f11 ⟨CPrice,CCome,CGo,CLeast,CMost,CDeal,CFee⟩:=⟨TD,⟨tk3,zg6 X G gi3⟩,m_is_stretch,m_is_coins,m_is_deal,m_is_worth,m_is_rule,m_made,zg6 X G aCPrice,zg6 X G aCCome,zg6 X G aCGo,zg6 X G aCLeast,zg6 X G aCMost,zg6 X G aCDeal,zg6 X G aCFee⟩
 have A7:je K ⟨CPrice,CCome,CGo,CLeast,CMost,CDeal,CFee⟩ g_init g_told g_tells g_wPrice g_wCome g_wGo g_wLeast g_wMost g_wDeal g_wFee:=⟨RPrice,RCome,RGo,RLeast,RMost,RDeal,RFee⟩
 refine⟨PySem.W.fnOf "law" "law" (ya rP) (zG rP) (zc rP) .none kV28 dc28 pm28 an28 cd28 ct28,fun s v=>.of_eq rfl,fun base KX _=>?_⟩
 have G_in:=kh (P:=l.prog) (w:=w) (base:=base) F_is_whole_within TD F_is_whole b_is_whole
 have G_pair:=gm (P:=l.prog) (w:=w) (base:=base) F_is_pair TD
 have G_day:=dB F_is_day TD G_in F_is_whole_within.kp b_is_whole_within
 have G_days:=ej F_is_pair_of_days TD G_pair F_is_pair.kp b_is_pair G_day F_is_day.kp b_is_day
 have G_stretch:=oN F_is_stretch TD G_days F_is_pair_of_days.kp b_is_pair_of_days
 have G_coins:=jN F_is_coins TR G_in F_is_whole_within.kp b_is_whole_within
 have G_deal:=lh F_is_deal TR G_in F_is_whole_within.kp b_is_whole_within G_pair F_is_pair.kp b_is_pair
 have G_worth:=jD F_is_worth TR G_in F_is_whole_within.kp b_is_whole_within G_coins F_is_coins.kp b_is_coins G_deal F_is_deal.kp b_is_deal
 have G_rule:=mW F_is_rule TR G_stretch F_is_stretch.kp b_is_stretch G_worth F_is_worth.kp b_is_worth
 have G_made:=fQ (P:=l.prog) (w:=w) (base:=base) F_made TR A7 F_init b_init
 have G_ruleOf:=lx F_rule_of TR G_rule F_is_rule.kp b_is_rule G_made F_made.kp b_made
 have CRO:Cal l.prog w K mg base "rule_of" 7 (tj ⟨CPrice,CCome,CGo,CLeast,CMost,CDeal,CFee⟩):=oT m_rule_of F_rule_of.kp b_rule_of G_ruleOf
 have CKe:Cal l.prog w K mg base "kept_rules" 8 (oX ⟨CPrice,CCome,CGo,CLeast,CMost,CDeal,CFee⟩):=jK F_kept_rules m_kept_rules b_kept_rules nb ⟨tk4,zg6 X G gi4⟩ CRO
 have cB:Cls K CB:=⟨pgB,hdB,poB,saB⟩
 have GBI:=ib (gk (st:=yQ) l_binit c_binit k_binit) cB noB CKe
 have m_Book:mg "Book"=some (.ref CB):=zg6 X G aCB
 have MkB:Mk K CB g_binit:=⟨mkB,fi_binit,is_binit,kcB⟩
 have CBk:ko l.prog w K mg base "Book" 9 [] (uK CB ⟨CPrice,CCome,CGo,CLeast,CMost,CDeal,CFee⟩):=⟨CB,g_binit,_,_,_,m_Book,MkB,kb lT,.nil,GBI⟩
 have CBk0:ko l.prog w K mg base "Book" 9 [.non] (uK CB ⟨CPrice,CCome,CGo,CLeast,CMost,CDeal,CFee⟩):=⟨CB,g_binit,_,_,_,m_Book,MkB,mP lT,.cons rfl .nil,GBI⟩
 have OT:∀u∈words,xI l.prog w K mg base ((⟨CPrice,CCome,CGo,CLeast,CMost,CDeal,CFee⟩:Cs).of u) "told" 2 (om ((⟨CPrice,CCome,CGo,CLeast,CMost,CDeal,CFee⟩:Cs).of u) u):=eB (by rw[wu];exact yG RPrice b_told (xM F_told RPrice (sr F_wPrice) b_wPrice)) (by rw[vh];exact yG RCome b_told (xM F_told RCome (qL F_wCome) b_wCome)) (by rw[qE];exact yG RGo b_told (xM F_told RGo (kT F_wGo) b_wGo)) (by rw[wx];exact yG RLeast b_told (xM F_told RLeast (sC F_wLeast) b_wLeast)) (by rw[vj];exact yG RMost b_told (xM F_told RMost (qW F_wMost) b_wMost)) (by rw[vA];exact yG RDeal b_told (xM F_told RDeal (qX F_wDeal) b_wDeal)) (by rw[uG];exact yG RFee b_told (xM F_told RFee (nh F_wFee) b_wFee))
 have DU:nP K w dU tbU:=⟨_,nU,lU,.cons ⟨hh1,⟨_,rfl⟩,rfl⟩ (.cons ⟨hh2,⟨_,rfl⟩,rfl⟩ (.cons ⟨hh3,⟨_,rfl⟩,rfl⟩ (.cons ⟨hh4,⟨_,rfl⟩,⟨_,rfl⟩⟩ (.cons ⟨hh5,⟨_,rfl⟩,⟨_,rfl⟩⟩ (.cons ⟨hh6,⟨_,rfl⟩,rfl⟩ (.cons ⟨hh7,⟨_,rfl⟩,⟨_,rfl⟩⟩ (.nil))))))),by decide +kernel⟩
 have CU:Cal l.prog w K mg base "usual" 1 qq:=lQ F_usual m_usual b_usual (zg6 X G aU) DU
 have OW:∀u∈words,xI l.prog w K mg base ((⟨CPrice,CCome,CGo,CLeast,CMost,CDeal,CFee⟩:Cs).of u) "word" 1 (pP ((⟨CPrice,CCome,CGo,CLeast,CMost,CDeal,CFee⟩:Cs).of u) u):=eB (by rw[wu];exact yH RPrice b_wPrice (sr F_wPrice)) (by rw[vh];exact yH RCome b_wCome (qL F_wCome)) (by rw[qE];exact yH RGo b_wGo (kT F_wGo)) (by rw[wx];exact yH RLeast b_wLeast (sC F_wLeast)) (by rw[vj];exact yH RMost b_wMost (qW F_wMost)) (by rw[vA];exact yH RDeal b_wDeal (qX F_wDeal)) (by rw[uG];exact yH RFee b_wFee (nh F_wFee))
 have ORT:∀u∈words,xI l.prog w K mg base ((⟨CPrice,CCome,CGo,CLeast,CMost,CDeal,CFee⟩:Cs).of u) "tells" 1 (uH ((⟨CPrice,CCome,CGo,CLeast,CMost,CDeal,CFee⟩:Cs).of u)):=eB (by rw[wu];exact yq RPrice b_tells (yY F_tells RPrice)) (by rw[vh];exact yq RCome b_tells (yY F_tells RCome)) (by rw[qE];exact yq RGo b_tells (yY F_tells RGo)) (by rw[wx];exact yq RLeast b_tells (yY F_tells RLeast)) (by rw[vj];exact yq RMost b_tells (yY F_tells RMost)) (by rw[vA];exact yq RDeal b_tells (yY F_tells RDeal)) (by rw[uG];exact yq RFee b_tells (yY F_tells RFee))
 have OC:∀u∈words,Cls K ((⟨CPrice,CCome,CGo,CLeast,CMost,CDeal,CFee⟩:Cs).of u)∧yt K ((⟨CPrice,CCome,CGo,CLeast,CMost,CDeal,CFee⟩:Cs).of u) "worth":=eB (by rw[wu];exact⟨RPrice.cl,RPrice.nw⟩) (by rw[vh];exact⟨RCome.cl,RCome.nw⟩) (by rw[qE];exact⟨RGo.cl,RGo.nw⟩) (by rw[wx];exact⟨RLeast.cl,RLeast.nw⟩) (by rw[vj];exact⟨RMost.cl,RMost.nw⟩) (by rw[vA];exact⟨RDeal.cl,RDeal.nw⟩) (by rw[uG];exact⟨RFee.cl,RFee.nw⟩)
 have MTe:xI l.prog w K mg base CB "tells_of" 2 (qm CB ⟨CPrice,CCome,CGo,CLeast,CMost,CDeal,CFee⟩):=⟨g_btells,_,_,cB,⟨fi_btells,is_btells,F_btells.kp⟩,b_btells,lS F_btells cB noB nb CU OW ORT OC⟩
 have MR:xI l.prog w K mg base CB "rules" 3 (vg CB ⟨CPrice,CCome,CGo,CLeast,CMost,CDeal,CFee⟩):=⟨g_brules,_,_,cB,⟨fi_brules,is_brules,F_brules.kp⟩,b_brules,mZ F_brules cB noB b_brules OT⟩
 have CB:=km (P:=l.prog) (w:=w) (base:=base) F__law_begin m__law_begin b__law_begin
 have CD:Cal l.prog w K mg base "_law_take" 1 xE:=kG m__law_take F__law_take.kp b__law_take (fg F__law_take)
 have CCo:=mI F__law_coins m__law_coins b__law_coins CD
 have CW:=lF F__law_worth m__law_worth b__law_worth CD CCo
 have CRl:=iM F__law_rule m__law_rule b__law_rule nb CD CW
 have CY:=fG F__law_day m__law_day b__law_day CD
 have CEd:=ke (P:=l.prog) (w:=w) (base:=base) F_edges m_edges b_edges nb n_set
 obtain⟨_,DN⟩:∃n,tY K w dU tbU n:=by
  obtain⟨es,n,h⟩:=DU
  exact⟨n,es,h⟩
 have CUn:=fJ F_unlike m_unlike b_unlike (zg6 X G aU) DN nsU CEd MR MTe
 have CTi:=kK F_tidied m_tidied b_tidied nb CUn CBk MR
 have CTl:=og (P:=l.prog) (w:=w) (base:=base) F__law_tells m__law_tells b__law_tells
 have CAk:=fm F__law_tells_alike m__law_tells_alike b__law_tells_alike nb n_set CTl
 have CI:=gH F__law_is_tidy m__law_is_tidy b__law_is_tidy nb CAk
 have CM:=iG F__law_many m__law_many b__law_many nb CD CRl
 exact dS F_law nb CB CD CY CM CTi CI CBk MR m_Book ⟨cB,haB,hnB,htB,hmB⟩ kBB
theorem walk {l:PySem.W.OpenLaw}{q:Program}{loose:List Str}{XP:(Str→Option Value)→Heap→Prop}{YP:World→Heap→Prop}{d:DefRec}{K:Params→PySem.W.Frag}(hn:l.most=some 63)(hdf:d.params.defaults=[])
  (hY:∀(w:World) (h:Heap),YP w h→(K w.params).In h)
  (F:∀(w:World) (mg:Str→Option Value) (fa:Addr) (h:Heap),(K w.params).In h→h.Ns mainGlobals mg→mg d.name=some (.ref fa)→
   ∃fd:FuncData,(∀(s:Shared) (u:Value),BindsTo s fd ⟨[u],[]⟩ [("_law_script",u)])∧∀base:Heap,(K w.params).In base→base.Ns mainGlobals mg→zB l.prog w (K w.params) mg base CX0 12 fa fd ["_law_script"] (pB (K w.params))):
  PySem.W.WalkO q loose XP YP l.row.toRowW d [] (fun f vs=>PySem.call f vs):=
 L2.gW (n:=63) (k:=12) (x:="_law_script") (CX:=fun _=>CX0) (sp:=fun w=>pB (K w.params)) hn (by decide) hdf ⟨rfl,by decide,by decide,rfl⟩ hY F (fun _ _ a ns hl _ hS=>⟨a,ns,rfl,hS,hl,trivial,fun _=>rfl⟩) fun _ _ _ _ _ z=>z
end K73
def PySem.W.Fast.tw5683639319757691783 :Nat:=0
def PySem.W.Fast.tw2382698803489353966 :Nat:=0
def PySem.W.Fast.tw10544386421346837407 :Nat:=0
def PySem.W.Fast.tw3282389899986191361 :Nat:=0
def PySem.W.Fast.tw9156249462250225123 :Nat:=0
def PySem.W.Fast.tw5360441406258960255 :Nat:=0
def PySem.W.Fast.tw9413202672743483274 :Nat:=0
def PySem.W.Fast.tw16158578974082393878 :Nat:=0
def PySem.W.Fast.tw17938932460418694350 :Nat:=0
def PySem.W.Fast.tw6603042146662540790 :Nat:=0
def PySem.W.Fast.tw11147719162888571550 :Nat:=0
def PySem.W.Fast.tw9411846526688756879 :Nat:=0
def PySem.W.Fast.tw8689372469418801517 :Nat:=0
def PySem.W.Fast.tw5247773050648950100 :Nat:=0
def PySem.W.Fast.tw10144391319415105040 :Nat:=0
def PySem.W.Fast.tw7997853308166785241 :Nat:=0
def PySem.W.Fast.tw12201135310971784470 :Nat:=0
def PySem.W.Fast.tw7384975366367250060 :Nat:=0
def PySem.W.Fast.tw12004619466497861500 :Nat:=0
def PySem.W.Fast.tw13068701979358710984 :Nat:=0
def PySem.W.Fast.tw2738687067396583613 :Nat:=0
def PySem.W.Fast.tw3038136203558013631 :Nat:=0
def PySem.W.Fast.tw14455266301003082514 :Nat:=0
def PySem.W.Fast.tw2685931306433291947 :Nat:=0
def PySem.W.Fast.tw12835154395157786603 :Nat:=0
def PySem.W.Fast.tw2893855734548145786 :Nat:=0
def PySem.W.Fast.tw18429286136263836616 :Nat:=0
def PySem.W.Fast.tw1506576162899493030 :Nat:=0
def PySem.W.Fast.tw9514121835440697328 :Nat:=0
def PySem.W.Fast.tw1582350293844076094 :Nat:=0
def PySem.W.Fast.tw10508112924992052255 :Nat:=0
def PySem.W.Fast.tw10583418952171709789 :Nat:=0
def PySem.W.Fast.tw4110559292555308491 :Nat:=0
def PySem.W.Fast.tw17903558698145571178 :Nat:=0
def PySem.W.Fast.tw11909544611828591808 :Nat:=0
def PySem.W.Fast.tw11323644694823152143 :Nat:=0
def PySem.W.Fast.tw2179000456827511380 :Nat:=0
def PySem.W.Fast.tw8028612465436489393 :Nat:=0
def PySem.W.Fast.tw14475208215597893041 :Nat:=0
def PySem.W.Fast.tw15017424062646234797 :Nat:=0
def PySem.W.Fast.tw11529836670085964447 :Nat:=0
def PySem.W.Fast.tw15539347126745497687 :Nat:=0
def PySem.W.Fast.tw7433003834746593061 :Nat:=0
def PySem.W.Fast.tw9044142124037948965 :Nat:=0
def PySem.W.Fast.tw16564483999614403907 :Nat:=0
def PySem.W.Fast.tw14320917195551942701 :Nat:=0
def PySem.W.Fast.tw18110229429497304222 :Nat:=0
def PySem.W.Fast.tw16953930055740125421 :Nat:=0
def PySem.W.Fast.tw347731013474451465 :Nat:=0
def PySem.W.Fast.tw11668453370806827134 :Nat:=0
def PySem.W.Fast.tw6430011061053540837 :Nat:=0
def PySem.W.Fast.tw12488888243242840070 :Nat:=0
def PySem.W.Fast.tw12689565856104198502 :Nat:=0
def PySem.W.Fast.tw18006046246901428150 :Nat:=0
def PySem.W.Fast.tw12811193504345665993 :Nat:=0
def PySem.W.Fast.tw13009761174169245766 :Nat:=0
def PySem.W.Fast.tw13903132262863719523 :Nat:=0
def PySem.W.Fast.tw6036568143943814492 :Nat:=0
def PySem.W.Fast.tw8902220105328700283 :Nat:=0
def PySem.W.Fast.tw7884762633751038888 :Nat:=0
def PySem.W.Fast.tw3235834698823278845 :Nat:=0
def PySem.W.Fast.tw17131647400995448534 :Nat:=0
def PySem.W.Fast.tw9717108794626641494 :Nat:=0
def PySem.W.Fast.tw9049395378108416278 :Nat:=0
def PySem.W.Fast.tw10044900943614969874 :Nat:=0
def PySem.W.Fast.tw16431871080038044392 :Nat:=0
def PySem.W.Fast.tw2004301603434991723 :Nat:=0
def PySem.W.Fast.tw369197065801179915 :Nat:=0
def PySem.W.Fast.tw10336322530846490000 :Nat:=0
def PySem.W.Fast.tw17440154167433347111 :Nat:=0
def PySem.W.Fast.tw2094782367171216813 :Nat:=0
def PySem.W.Fast.tw6402437563338061845 :Nat:=0
def PySem.W.Fast.tw12047122744568633952 :Nat:=0
def PySem.W.Fast.tw5970318186791243239 :Nat:=0
def PySem.W.Fast.tw17538262243024302910 :Nat:=0
def PySem.W.Fast.tw210984128896560898 :Nat:=0
def PySem.W.Fast.tw4590196952387750558 :Nat:=0
def PySem.W.Fast.tw1707400861949601135 :Nat:=0
def PySem.W.Fast.tw15698718224843546191 :Nat:=0
def PySem.W.Fast.tw10846139758052146366 :Nat:=0
def PySem.W.Fast.tw5743760505186857738 :Nat:=0
def PySem.W.Fast.tw1383101846757191655 :Nat:=0
def PySem.W.Fast.tw15607781485687725203 :Nat:=0
def PySem.W.Fast.tw13021012457433299860 :Nat:=0
def PySem.W.Fast.tw10686039615388949927 :Nat:=0
def PySem.W.Fast.tw5397826617931276527 :Nat:=0
def PySem.W.Fast.tw9120081928898388959 :Nat:=0
def PySem.W.Fast.tw7742288526817141158 :Nat:=0
def PySem.W.Fast.tw10858697879022268784 :Nat:=0
def PySem.W.Fast.tw21936256570592685 :Nat:=0
def PySem.W.Fast.tw13951189678989112905 :Nat:=0
def PySem.W.Fast.tw15580594785233176565 :Nat:=0
def PySem.W.Fast.tw4128000042542774642 :Nat:=0
def PySem.W.Fast.tw5372021053149336291 :Nat:=0
def PySem.W.Fast.tw14979928228699131203 :Nat:=0
def PySem.W.Fast.tw888274716477610149 :Nat:=0
def PySem.W.Fast.tw11770537732496324392 :Nat:=0
def PySem.W.Fast.tw14719893123945734885 :Nat:=0
def PySem.W.Fast.tw11095944263199260791 :Nat:=0
def PySem.W.Fast.tw16063431240418719739 :Nat:=0
def PySem.W.Fast.tw1435779853855641973 :Nat:=0
def PySem.W.Fast.tw9555826910686353520 :Nat:=0
def PySem.W.Fast.tw2193032477876126319 :Nat:=0
def PySem.W.Fast.tw979621165067260934 :Nat:=0
def PySem.W.Fast.tw3601152447860610958 :Nat:=0
def PySem.W.Fast.tw7080821434909370910 :Nat:=0
def PySem.W.Fast.tw12589955976497779869 :Nat:=0
def PySem.W.Fast.tw5622247777584085956 :Nat:=0
def PySem.W.Fast.tw13630271523370620310 :Nat:=0
def PySem.W.Fast.tw13241048877145621817 :Nat:=0
def PySem.W.Fast.tw16874902017396207409 :Nat:=0
def PySem.W.Fast.tw11057132694382237100 :Nat:=0
def PySem.W.Fast.tw17393792718603762141 :Nat:=0
def PySem.W.Fast.tw15949495158875131984 :Nat:=0
def PySem.W.Fast.tw8592712652541233122 :Nat:=0
def PySem.W.Fast.tw10344429098550362059 :Nat:=0
def PySem.W.Fast.tw9192457992869534539 :Nat:=0
def PySem.W.Fast.tw11709384062480653001 :Nat:=0
def PySem.W.Fast.tw17733588200456746023 :Nat:=0
def PySem.W.Fast.tw4533414390321595674 :Nat:=0
def PySem.W.Fast.tw5981945466408962062 :Nat:=0
def PySem.W.Fast.tw1837195299121772798 :Nat:=0
def PySem.W.Fast.tw2874760935499193353 :Nat:=0
def PySem.W.Fast.tw10504386988376027929 :Nat:=0
def PySem.W.Fast.tw6141788734148561372 :Nat:=0
def PySem.W.Fast.tw2711316258025026030 :Nat:=0
def PySem.W.Fast.tw10106497809302744430 :Nat:=0
def PySem.W.Fast.tw16657210313614785069 :Nat:=0
def PySem.W.Fast.tw13805955342583928103 :Nat:=0
def PySem.W.Fast.tw11116477120028542142 :Nat:=0
def PySem.W.Fast.tw4246729364649862494 :Nat:=0
def PySem.W.Fast.tw2671666867279320320 :Nat:=0
def PySem.W.Fast.tw7689773940056713171 :Nat:=0
def PySem.W.Fast.tw2262422955884024015 :Nat:=0
def PySem.W.Fast.tw10049650553226571476 :Nat:=0
def PySem.W.Fast.tw9042197123105556258 :Nat:=0
def PySem.W.Fast.tw974683306278416646 :Nat:=0
def PySem.W.Fast.tw12543615027103120960 :Nat:=0
def PySem.W.Fast.tw11889442008363684395 :Nat:=0
def PySem.W.Fast.tw16495137629853478059 :Nat:=0
def PySem.W.Fast.tw8005663717428586267 :Nat:=0
def PySem.W.Fast.tw4729042276318542569 :Nat:=0
def PySem.W.Fast.tw18174421793735064554 :Nat:=0
def PySem.W.Fast.tw13827903363789534126 :Nat:=0
def PySem.W.Fast.tw374242042314773782 :Nat:=0
def PySem.W.Fast.tw1735170697328742120 :Nat:=0
def PySem.W.Fast.tw876120076682397913 :Nat:=0
def PySem.W.Fast.tw10504321578744425119 :Nat:=0
def PySem.W.Fast.tw3608735401272642775 :Nat:=0
def PySem.W.Fast.tw5297677019162495416 :Nat:=0
def PySem.W.Fast.tw16073071369658640771 :Nat:=0
def PySem.W.Fast.tw17517746970146711059 :Nat:=0
def PySem.W.Fast.tw18336379941799616638 :Nat:=0
def PySem.W.Fast.tw8324708868183703613 :Nat:=0
def PySem.W.Fast.tw263005149208042065 :Nat:=0
def PySem.W.Fast.tw1905730338300718345 :Nat:=0
def PySem.W.Fast.tw4875032490028299745 :Nat:=0
def PySem.W.Fast.tw18162030675994827404 :Nat:=0
def PySem.W.Fast.tw3452107030320568625 :Nat:=0
def PySem.W.Fast.tw2910588117137490450 :Nat:=0
def PySem.W.Fast.tw5040721894247547880 :Nat:=0
def PySem.W.Fast.tw16469063919056537809 :Nat:=0
def PySem.W.Fast.tw10212767414340143868 :Nat:=0
def PySem.W.Fast.tw18349083613983053941 :Nat:=0
def PySem.W.Fast.tw5123538896427696997 :Nat:=0
def PySem.W.Fast.tw4704885877436018323 :Nat:=0
def PySem.W.Fast.tw3134822383899405201 :Nat:=0
def PySem.W.Fast.tw11508871597720745687 :Nat:=0
def PySem.W.Fast.tw3115875063148336616 :Nat:=0
def PySem.W.Fast.tw11793943685045141111 :Nat:=0
def PySem.W.Fast.tw5451974895419400802 :Nat:=0
def PySem.W.Fast.tw7124538325728442092 :Nat:=0
def PySem.W.Fast.tw11193023136206122550 :Nat:=0
def PySem.W.Fast.tw17836110266194275810 :Nat:=0
def PySem.W.Fast.tw4423364283773728982 :Nat:=0
def PySem.W.Fast.tw3793947471967118741 :Nat:=0
def PySem.W.Fast.tw10811137123493698931 :Nat:=0
def PySem.W.Fast.tw4821193038360019832 :Nat:=0
def PySem.W.Fast.tw16423943819922092474 :Nat:=0
def PySem.W.Fast.tw10385422834485968622 :Nat:=0
def PySem.W.Fast.tw18194752805905760655 :Nat:=0
def PySem.W.Fast.tw12433599541970170038 :Nat:=0
def PySem.W.Fast.tw18421241148517815319 :Nat:=0
def PySem.W.Fast.tw1991365128382540861 :Nat:=0
def PySem.W.Fast.tw717978431976241636 :Nat:=0
def PySem.W.Fast.tw5664082588960548825 :Nat:=0
def PySem.W.Fast.tw13694456567477691609 :Nat:=0
def PySem.W.Fast.tw1295382487813181862 :Nat:=0
def PySem.W.Fast.tw2284229616397679659 :Nat:=0
def PySem.W.Fast.tw7719507757201548245 :Nat:=0
def PySem.W.Fast.tw4595045099532237804 :Nat:=0
def PySem.W.Fast.tw5342017452100135813 :Nat:=0
def PySem.W.Fast.tw3254932090403281898 :Nat:=0
def PySem.W.Fast.tw17673874754187135286 :Nat:=0
def PySem.W.Fast.tw7545733134192080920 :Nat:=0
def PySem.W.Fast.tw11701541548841440525 :Nat:=0
def PySem.W.Fast.tw710787638774441201 :Nat:=0
def PySem.W.Fast.tw14861570775342437660 :Nat:=0
def PySem.W.Fast.tw9140944201001638070 :Nat:=0
def PySem.W.Fast.tw1663107288986585744 :Nat:=0
def PySem.W.Fast.tw16774820630297003119 :Nat:=0
def PySem.W.Fast.tw5733110833417591103 :Nat:=0
def PySem.W.Fast.tw12277940215476619423 :Nat:=0
def PySem.W.Fast.tw5918756133646284183 :Nat:=0
def PySem.W.Fast.tw10918637017002488282 :Nat:=0
open PySem PySem.W PyProof.Rows
set_option maxRecDepth 100000 in
set_option maxHeartbeats 0 in
theorem PySem.Challenge.cw_stayprice_k73_tidied_holds : PySem.Challenge.rw_stayprice_k73_tidied.Holds := by
 w_on;o_law;k_head;(case hw=>w_witness2)
 k_fill
 refine K73.walk (l:=PySem.Challenge.rw_stayprice_k73_tidied) rfl rfl (fun w h Y=>PySem.W.kIn_of Y) ?hF
 case hF=>
  intro w mg fa h KX G hmg
  refine' K73.all_mk KX G hmg (K73.mkG ?_ ?_ ?_ ?_) (K73.mkG ?_ ?_ ?_ ?_) (K73.mkG ?_ ?_ ?_ ?_) (K73.mkG ?_ ?_ ?_ ?_) (K73.mkG ?_ ?_ ?_ ?_) (K73.mkG ?_ ?_ ?_ ?_) (K73.mkG ?_ ?_ ?_ ?_) (K73.mkG ?_ ?_ ?_ ?_) (K73.mkG ?_ ?_ ?_ ?_) (K73.mkG ?_ ?_ ?_ ?_) (K73.mkG ?_ ?_ ?_ ?_) (K73.mkG ?_ ?_ ?_ ?_) (K73.mkG ?_ ?_ ?_ ?_) (K73.mkG ?_ ?_ ?_ ?_) (K73.mkG ?_ ?_ ?_ ?_) (K73.mkG ?_ ?_ ?_ ?_) (K73.mkG ?_ ?_ ?_ ?_) (K73.mkG ?_ ?_ ?_ ?_) (K73.mkG ?_ ?_ ?_ ?_) (K73.mkG ?_ ?_ ?_ ?_) (K73.mkG ?_ ?_ ?_ ?_) (K73.mkG ?_ ?_ ?_ ?_) (K73.mkG ?_ ?_ ?_ ?_) (K73.mkG ?_ ?_ ?_ ?_) (K73.mkG ?_ ?_ ?_ ?_) (K73.mkG ?_ ?_ ?_ ?_) (K73.mkG ?_ ?_ ?_ ?_) ?_ ?_ ?_ ?_ ?_ ?_ ?_ ?_ ?_ ?_ ?_ (K73.mkR ?_ ?_ ?_ ?_ ?_ ?_ ?_ ?_ ?_ ?_ ?_ ?_ ?_ ?_ ?_ ?_ ?_ ?_ ?_ ?_) (K73.mkR ?_ ?_ ?_ ?_ ?_ ?_ ?_ ?_ ?_ ?_ ?_ ?_ ?_ ?_ ?_ ?_ ?_ ?_ ?_ ?_) (K73.mkR ?_ ?_ ?_ ?_ ?_ ?_ ?_ ?_ ?_ ?_ ?_ ?_ ?_ ?_ ?_ ?_ ?_ ?_ ?_ ?_) (K73.mkR ?_ ?_ ?_ ?_ ?_ ?_ ?_ ?_ ?_ ?_ ?_ ?_ ?_ ?_ ?_ ?_ ?_ ?_ ?_ ?_) (K73.mkR ?_ ?_ ?_ ?_ ?_ ?_ ?_ ?_ ?_ ?_ ?_ ?_ ?_ ?_ ?_ ?_ ?_ ?_ ?_ ?_) (K73.mkR ?_ ?_ ?_ ?_ ?_ ?_ ?_ ?_ ?_ ?_ ?_ ?_ ?_ ?_ ?_ ?_ ?_ ?_ ?_ ?_) (K73.mkR ?_ ?_ ?_ ?_ ?_ ?_ ?_ ?_ ?_ ?_ ?_ ?_ ?_ ?_ ?_ ?_ ?_ ?_ ?_ ?_) (K73.mkF ?_ ?_ ?_) (K73.mkF ?_ ?_ ?_) (K73.mkF ?_ ?_ ?_) (K73.mkF ?_ ?_ ?_) (K73.mkF ?_ ?_ ?_) (K73.mkF ?_ ?_ ?_) (K73.mkF ?_ ?_ ?_) (K73.mkF ?_ ?_ ?_) (K73.mkF ?_ ?_ ?_) (K73.mkF ?_ ?_ ?_) ?_ ?_ ?_ ?_ ?_ ?_ ?_ ?_ ?_ (K73.mkF ?_ ?_ ?_) ?_ ?_ (K73.mkF ?_ ?_ ?_) ?_ ?_ ?_ ?_ ?_ ?_ ?_ ?_ ?_ ?_ ?_ ?_ ?_ ?_ ?_ ?_ ?_ ?_ ?_ ?_ ?_ ?_ ?_ ?_ ?_ ?_ ?_ ?_ ?_ ?_ ?_ ?_ ?_ ?_ ?_ ?_ ?_ ?_ ?_ ?_ ?_ ?_ ?_ ?_ ?_ ?_
  all_goals try (show _=_;first|k_is|kernel_rfl)
