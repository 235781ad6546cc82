import PyProof.Rows.All
import Wide.All
import OpenK.AllK
import Wide.FinOn
import Lean
import PyProof.EqAt
import PyProof.EqKinds
import PyProof.TupleCall
import PyProof.AttrMissHeap
import PyProof.DictRoadsH
import KE.KDictOf
import PyProof.P3In
import PySem.Challenge.RW_stayprice_k63_why_is_least
set_option Elab.async false
set_option linter.all false
set_option maxRecDepth 100000
def zp2 := @_root_.List.length_map
def zp3 := @_root_.PySem.wpAny_bind
def zp4 := @_root_.Nat.le_of_ble_eq_true
def zp5 := @_root_.List.getElem?_eq_some_iff
def zp6 := @_root_.PySem.Heap.get?_push_of_some
def zp7 := @_root_.List.mem_cons
def zp8 := @_root_.Nat.le_refl
def zp9 := @_root_.PySem.Heap.lt_size
def zq0 := @_root_.List.mem_cons_of_mem
def zq1 := @_root_.List.mem_cons_self
def zq2 := @_root_.Bool.false_ne_true
def zq3 := @_root_.Option.map_eq_some_iff
def zq4 := @_root_.List.length_append
def zq5 := @_root_.List.not_mem_nil
def zq6 := @_root_.List.size_toArray
def zq7 := @_root_.List.getElem?_map
def zq8 := @_root_.Bool.and_eq_true
def zq9 := @_root_.PySem.wpAny_pure
def zr0 := @_root_.PySem.W.mg_none_of
def zr1 := @_root_.List.length_cons
def zr2 := @_root_.List.length_set
def zr3 := @_root_.Nat.lt_of_lt_of_le
def zr4 := @_root_.PySem.Heap.get?_update_other
def zr5 := @_root_.List.mem_singleton
def zr6 := @_root_.List.nil_append
def zr7 := @_root_.PySem.Heap.get?_push_size
def zr8 := @_root_.List.getElem?_append_left
def zr9 := @_root_.Nat.zero_le
def zs0 := @_root_.List.mem_append_right
def zs1 := @_root_.List.map_cons
def zs2 := @_root_.PySem.W.mg_of
def zs3 := @_root_.Nat.ne_of_lt
def zs4 := @_root_.decide_eq_true_eq
def zs5 := @_root_.Bool.eq_false_iff
def zs6 := @_root_.List.mem_append
def zs7 := @_root_.Option.some.inj
def zs8 := @_root_.List.getElem?_append_right
def zs9 := @_root_.decide_eq_false
def zt0 := @_root_.List.mem_of_getElem?
def zt1 := @_root_.List.getElem?_eq_getElem
def zt2 := @_root_.PySem.wpAny_mono
def zt3 := @_root_.or_false
def zt4 := @_root_.List.getElem?_set_ne
def zt5 := @_root_.decide_eq_true
def zt6 := @_root_.Nat.le_trans
def zt7 := @_root_.PySem.wpAny_truthy_bool
def zt8 := @_root_.PySem.W.kia_one
def zt9 := @_root_.List.getElem?_set_self
def zu0 := @_root_.List.mem_map
def zu1 := @_root_.List.mem_filter
def zu2 := @_root_.List.find?_cons
def zu3 := @_root_.PyProof.Rows.callWith_type1
def zu4 := @_root_.List.getElem?_replicate
def zu5 := @_root_.List.lookup_cons
def zu6 := @_root_.Bool.true_and
def zu7 := @_root_.Bool.false_and
def zu8 := @_root_.PySem.mem_of_lookup
def zu9 := @_root_.List.take_length
def zv0 := @_root_.List.any_cons
def zv1 := @_root_.PySem.wpAny_loadPart_at
def zv2 := @_root_.beq_eq_false_iff_ne
def zv3 := @_root_.Nat.le_of_lt
def zv4 := @_root_.PySem.wpAny_holding
def zv5 := @_root_.PySem.F.excBase_ValueError
def zv6 := @_root_.List.length_take
def zv7 := @_root_.PySem.wpAny_Call_Name_kw
def zv8 := @_root_.PySem.Heap.get?_update_self
def zv9 := @_root_.List.drop_eq_getElem_cons
def zw0 := @_root_.List.mem_append_left
def zw1 := @_root_.Bool.eq_iff_iff
def zw2 := @_root_.List.append_nil
def zw3 := @_root_.Bool.or_eq_false_iff
def zw4 := @_root_.PyProof.Rows.boot_isinstance
def zw5 := @_root_.PySem.PassesOwn.never
def zw6 := @_root_.Nat.lt_irrefl
def zw7 := @_root_.PySem.W.callWith_K
def zw8 := @_root_.PySem.Obj.data_mapFields
def zw9 := @_root_.Nat.sub_self
def zx0 := @_root_.Ne.symm
def zx1 := @_root_.PySem.Obj.isFreed_of_fields
def zx2 := @_root_.List.map_append
def zx3 := @_root_.List.length_filter_le
def zx4 := @_root_.Array.getElem?_eq_some_iff
def zx5 := @_root_.of_decide_eq_true
def zx6 := @_root_.List.take_add_one
def zx7 := @_root_.List.all_eq_true
def zx8 := @_root_.List.map_map
def zx9 := @_root_.beq_iff_eq
def zy0 := @_root_.PySem.wpAny_call
def zy1 := @_root_.Bool.or_eq_true
def zy2 := @_root_.Nat.ne_of_gt
def zy3 := @_root_.List.length_replicate
def zy4 := @_root_.List.drop_length
def zy5 := @_root_.List.filter_cons
def zy6 := @_root_.Option.bind_some
def zy7 := @_root_.Nat.le_succ
def zy8 := @_root_.List.length_reverse
def zy9 := @_root_.PySem.wpAny_passesOwn
def zz0 := @_root_.PySem.codeAny_mono
def zz1 := @_root_.PySem.F.slot_list_getattribute
def zz2 := @_root_.PySem.Code.quiet_builtin
def zz3 := @_root_.Int.emod_lt_of_pos
def zz4 := @_root_.List.getElem?_cons_succ
def zz5 := @_root_.decide_eq_false_iff_not
def zz6 := @_root_.PySem.wpAny_standAt
def zz7 := @_root_.PySem.strLen_append
def zz8 := @_root_.Bool.false_or
def zz9 := @_root_.Nat.lt_succ_self
def zA0 := @_root_.PySem.W.methodCall_KW
def zA1 := @_root_.List.set_append_right
def zA2 := @_root_.PySem.wpAny_execs_nil
def zA3 := @_root_.List.nodup_cons
def zA4 := @_root_.Bool.true_or
def zA5 := @_root_.Option.map_some
def zA6 := @_root_.Int.emod_nonneg
def zA7 := @_root_.List.any_map
def zA8 := @_root_.List.filterMap_cons
def zA9 := @_root_.PySem.W.plainGet_of
def zB0 := @_root_.List.filter_eq_self
def zB1 := @_root_.Nat.mul_le_mul
def zB2 := @_root_.List.all_cons
def zB3 := @_root_.Bool.and_self
namespace L2
open PySem PySem.Spec PyProof.Rows
abbrev Key :=Sum Int Str
def qp :Key→Value→Bool
 |.inl k,v=>Value.isInt k v
 |.inr x,v=>Value.isStrOf x v
def zm2 (w:World):Key→Int
 |.inl k=>hashInt k
 |.inr x=>hashStr w x
theorem ya :∀{k:Key} {v:Value},qp k v=true→(∃i t,k=Sum.inl i∧v=Value.int i t)∨(∃x t,k=Sum.inr x∧v=Value.str x t)
 |.inl i,v,h=>by
  obtain⟨t,e⟩:=Value.isInt_shape (k:=i) (v:=v) h
  exact .inl ⟨i,t,rfl,e⟩
 |.inr x,v,h=>by
  obtain⟨t,e⟩:=Value.isStrOf_shape (x:=x) (v:=v) h
  exact .inr ⟨x,t,rfl,e⟩
theorem jv (i:Int)(t:Tok):qp (.inl i) (.int i t)=true:=by simp[qp,Value.isInt]
theorem ig (x:Str)(t:Tok):qp (.inr x) (.str x t)=true:=by simp[qp,Value.isStrOf]
theorem ze1 (a b:Int):decide ((Sum.inl a:Key)=Sum.inl b)=(a == b):=by
 by_cases e:a=b
 ·subst e;simp
 ·have h:¬(Sum.inl a:Key)=Sum.inl b:=fun q=>e (Sum.inl.inj q)
  rw[zs9 h]
  exact (zv2.mpr e).symm
theorem zc5 (a b:Str):decide ((Sum.inr a:Key)=Sum.inr b)=decide (a=b):=by
 by_cases e:a=b
 ·subst e;simp
 ·have h:¬(Sum.inr a:Key)=Sum.inr b:=fun q=>e (Sum.inr.inj q)
  rw[zs9 h,zs9 e]
theorem zc6 (a:Int)(b:Str):decide ((Sum.inl a:Key)=Sum.inr b)=false:=zs9 (fun q=>nomatch q)
theorem zf5 (a:Str)(b:Int):decide ((Sum.inr a:Key)=Sum.inl b)=false:=zs9 (fun q=>nomatch q)
def yB (prog:Program)(w:World):PySem.KeyKind prog w Key where
 is:=qp
 hash:=zm2 w
 inj:=fun v a b ha hb=>by
  rcases ya ha with ⟨i,t,rfl,rfl⟩|⟨x,t,rfl,rfl⟩
  ·rcases ya hb with ⟨j,u,rfl,e⟩|⟨y,u,rfl,e⟩
   ·injection e with e1 _;rw[e1]
   ·exact nomatch e
  ·rcases ya hb with ⟨j,u,rfl,e⟩|⟨y,u,rfl,e⟩
   ·exact nomatch e
   ·injection e with e1 _;rw[e1]
 byValue:=fun k v h=>by
  rcases ya h with ⟨i,t,rfl,rfl⟩|⟨x,t,rfl,rfl⟩<;>rfl
 pyHash:=fun hv h=>by
  rcases ya hv with ⟨i,t,rfl,rfl⟩|⟨x,t,rfl,rfl⟩
  ·exact wpAny_pyHash_int h
  ·exact wpAny_pyHash_str h
 eqBool:=fun hu hv h=>by
  rcases ya hu with ⟨i,t,rfl,rfl⟩|⟨x,t,rfl,rfl⟩
  ·rcases ya hv with ⟨j,u,rfl,rfl⟩|⟨y,u,rfl,rfl⟩
   ·rw[ze1] at h;exact wpAny_eqBool_int h
   ·rw[zc6] at h;exact SeqAt.EqAt.int_str i t y u _ _ _ _ h
  ·rcases ya hv with ⟨j,u,rfl,rfl⟩|⟨y,u,rfl,rfl⟩
   ·rw[zf5] at h;exact SeqAt.EqAt.str_int x t j u _ _ _ _ h
   ·rw[zc5] at h;exact wpAny_eqBool_str h
 «strs»:=fun k x t v h=>by
  rcases ya h with ⟨i,u,rfl,e⟩|⟨y,u,rfl,e⟩
  ·exact nomatch e
  ·injection e with e1 _
   subst e1
   cases v<;>rfl
theorem oh (prog:Program)(w:World)(i:Int)(t:Tok):(yB prog w).is (.inl i) (.int i t)=true:=jv i t
theorem oA (prog:Program)(w:World)(x:Str)(t:Tok):(yB prog w).is (.inr x) (.str x t)=true:=ig x t
inductive V where
 |non|bl (b:Bool)|int (i:Int)|str (x:Str)|byt (b:Array UInt8)|flt (b:UInt64)|ref (a:Addr)|ty (n:String)
 deriving DecidableEq
def RelV :V→Value→Prop
 |.non,u=>u=Value.none
 |.bl b,u=>u=Value.bool b
 |.int i,u=>∃t,u=Value.int i t
 |.str x,u=>∃t,u=Value.str x t
 |.byt b,u=>∃t,u=Value.bytes b t
 |.flt b,u=>∃t,u=Value.float b t
 |.ref a,u=>u=Value.ref a
 |.ty n,u=>u=Value.type n
abbrev Vals :List V→List Value→Prop:=Paired RelV
theorem Vals.length {xs:List V}{us:List Value}(r:Vals xs us):xs.length=us.length:=Paired.length r
theorem Vals.get :∀{xs:List V} {us:List Value} {i:Nat} {x:V},Vals xs us→xs[i]?=some x→∃u,us[i]?=some u∧RelV x u
 |_,_,_,_,.nil,e=>by simp at e
 |_,_,0,_,.cons r _,e=>by simp at e;subst e;exact⟨_,rfl,r⟩
 |_,_,i+1,x,.cons _ t,e=>by
  obtain⟨u,h1,h2⟩:=Vals.get (i:=i) (x:=x) t (by simpa using e)
  exact⟨u,by simpa using h1,h2⟩
theorem Vals.set {x:V}{u:Value}(r:RelV x u):∀{xs:List V} {us:List Value} (i:Nat),Vals xs us→Vals (xs.set i x) (us.set i u)
 |_,_,_,.nil=>.nil
 |_,_,0,.cons _ t=>.cons r t
 |_,_,i+1,.cons q t=>.cons q (Vals.set r i t)
theorem Vals.append :∀{xs ys:List V} {us ws:List Value},Vals xs us→Vals ys ws→Vals (xs++ys) (us++ws)
 |_,_,_,_,.nil,s=>s
 |_,_,_,_,.cons r t,s=>.cons r (Vals.append t s)
theorem Vals.take :∀{xs:List V} {us:List Value} (n:Nat),Vals xs us→Vals (xs.take n) (us.take n)
 |_,_,0,_=>.nil
 |_,_,_+1,.nil=>.nil
 |_,_,n+1,.cons r t=>.cons r (Vals.take n t)
theorem Vals.drop :∀{xs:List V} {us:List Value} (n:Nat),Vals xs us→Vals (xs.drop n) (us.drop n)
 |_,_,0,r=>r
 |_,_,_+1,.nil=>.nil
 |_,_,n+1,.cons _ t=>Vals.drop n t
def vF :Option V→Option Value→Prop
 |some v,some u=>RelV v u
 |none,none=>True
 |_,_=>False
def KV {κ:Type}:List (κ×V)→List (κ×Value)→Prop:=Paired fun (p:κ×V) (q:κ×Value)=>p.1=q.1∧RelV p.2 q.2
def kV :Key→V
 |.inl i=>.int i
 |.inr x=>.str x
inductive HO where
  |lst (xs:List V)
  |tup (xs:List V)
  |dK (kvs:List (Key×V))|dT (kvs:List (List Key×V))
  |set (S:Int→Bool) (n:Nat)
  |ins (C dx:Addr) (fs:List (Str×V))
  |own (x:Addr)
  |xd (fs:List (Str×V))
  |met (f x:Addr)
  |rng (lo hi:Int)
  |frz (o:Obj) (u:HO)
  |tbl (ps:Array Value)
  |ext (φ:Heap→Prop)
abbrev Hp :=Addr→Option HO
def upd (H:Hp)(a:Addr)(o:HO):Hp:=fun b=>if b=a then some o else H b
theorem zh {H:Hp}{a:Addr}{o:HO}:upd H a o a=some o:=by unfold upd;rw[if_pos rfl]
theorem zl {H:Hp}{a b:Addr}{o:HO}(h:b≠a):upd H a o b=H b:=by unfold upd;rw[if_neg h]
theorem tE {H:Hp}{a:Addr}{o u:HO}:upd (upd H a o) a u=upd H a u:=by
 funext b;unfold upd;split<;>rfl
theorem zm {H:Hp}{a b:Addr}{o:HO}(h:H a=some o)(h':H b=none):a≠b:=by
 intro e;subst e;rw[h] at h';cases h'
section
variable (P:Program)(w:World)
def yc (H:Hp)(h:Heap)(a:Addr):HO→Prop
 |.lst xs=>xs.length≤sizeLine∧∃(its:List Value) (n:Nat),Vals xs its∧h.get? a=some {cls:=.type "list",data:=.seq its.toArray n}
 |.tup xs=>xs.length≤sizeLine∧∃its:List Value,Vals xs its∧IsTup h a its.toArray
 |.dK kvs=>kvs.length≤sizeLine∧(a == sysModules)=false∧∃vs,KV kvs vs∧h.DictOf (yB P w) a vs
 |.dT kvs=>kvs.length≤sizeLine∧(a == sysModules)=false∧∃xs:List (List Key×Addr×Value),
   Paired (fun (p:List Key×V) (q:List Key×Addr×Value)=>p.1=q.1∧H q.2.1=some (.tup (p.1.map kV))∧RelV p.2 q.2.2) kvs xs∧
   ∃o es ep,h.get? a=some o∧o.ExactDict∧o.data=.dict es ep∧es.toList=xs.map (entryOfKey (tupleKind (yB P w)))∧(xs.map (·.1)).Nodup
 |.set S n=>h.SetOf (intKind P w) a S n
 |.ins C dx fs=>H dx=some (.own a)∧fs.length≤1000∧dx≠a∧h.get? a=some (PySem.W.instObj C dx)∧
   ∃mA,h.Ns1 dx mA∧(∀f,vF (fs.lookup f) (mA f))∧PySem.Within mA (fs.map (·.1))
 |.own _=>∃o,h.get? a=some o
 |.xd fs=>∃mA,h.Ns1 a mA∧∀f,vF (fs.lookup f) (mA f)
 |.rng lo hi=>∃t u v,h.get? a=some {cls:=.type "range",data:=.fields #[.int lo t,.int hi u,.int 1 v]}
 |.frz o u=>h.get? a=some o∧yc H h a u
 |.tbl ps=>h.get? a=some {cls:=.none,data:=.fields ps}
 |.met f x=>h.get? a=some (PySem.W.methodObj (.ref f) (.ref x))
 |.ext φ=>φ h∧(∃o,h.get? a=some o)∧∀h1 h2:Heap,φ h1→(∀o,h1.get? a=some o→h2.get? a=some o)→φ h2
def HOk (H:Hp)(h:Heap):Prop:=∀a o,H a=some o→yc P w H h a o
end
section
variable {P:Program}{w:World}{H H':Hp}{h h':Heap}{a:Addr}{o:HO}
theorem yc.lt (x:yc P w H h a o):a<h.objs.size:=by
 cases o with
 |lst xs=>obtain⟨_,_,_,_,e⟩:=x;exact zp9 e
 |tup xs=>obtain⟨_,_,_,p⟩:=x;exact p.lt
 |dK kvs=>obtain⟨_,_,_,_,o,_,_,e,_⟩:=x;exact zp9 e
 |dT kvs=>obtain⟨_,_,_,_,o,_,_,e,_⟩:=x;exact zp9 e
 |set S n=>obtain⟨o,_,_,_,e,_⟩:=x;exact zp9 e
 |ins C dx fs=>obtain⟨_,_,_,e,_⟩:=x;exact zp9 e
 |own y=>obtain⟨_,e⟩:=x;exact zp9 e
 |xd fs=>obtain⟨_,⟨_,_,_,e,_⟩,_⟩:=x;exact zp9 e
 |rng lo hi=>obtain⟨_,_,_,e⟩:=x;exact zp9 e
 |frz ob u=>obtain⟨e,_⟩:=x;exact zp9 e
 |tbl ps=>exact zp9 (show h.get? a=some _ from x)
 |met f y=>exact zp9 (show h.get? a=some _ from x)
 |ext φ=>obtain⟨_,⟨_,e⟩,_⟩:=x;exact zp9 e
theorem Paired.mapP {α β:Type}{F G:α→β→Prop}:∀{l₁:List α} {l₂:List β},Paired F l₁ l₂→(∀a b,F a b→G a b)→Paired G l₁ l₂
 |_,_,.nil,_=>.nil
 |_,_,.cons r t,f=>.cons (f _ _ r) (Paired.mapP t f)
theorem yc.stay (x:yc P w H h a o)(k:∀b u,(b=a∨H b=some (.own a))→h.get? b=some u→h'.get? b=some u)
  (ho:∀b,H b=some (.own a)→H' b=some (.own a)) (ht:∀b xs,H b=some (.tup xs)→H' b=some (.tup xs)):yc P w H' h' a o:=by
 induction o with
 |lst xs=>obtain⟨z,its,n,r,e⟩:=x;exact⟨z,its,n,r,k _ _ (.inl rfl) e⟩
 |tup xs=>obtain⟨z,its,r,ob,e,c⟩:=x;exact⟨z,its,r,ob,k _ _ (.inl rfl) e,c⟩
 |dK kvs=>obtain⟨z,y,vs,r,ob,es,ep,e,c⟩:=x;exact⟨z,y,vs,r,ob,es,ep,k _ _ (.inl rfl) e,c⟩
 |dT kvs=>
  obtain⟨z,y,xs,r,ob,es,ep,e,c⟩:=x
  exact⟨z,y,xs,Paired.mapP r fun p q z=>⟨z.1,ht _ _ z.2.1,z.2.2⟩,ob,es,ep,k _ _ (.inl rfl) e,c⟩
 |set S n=>obtain⟨ob,es,ep,t,e,c⟩:=x;exact⟨ob,es,ep,t,k _ _ (.inl rfl) e,c⟩
 |ins C dx fs=>
  obtain⟨d,z,ne,e,mA,⟨od,es,ep,e2,c⟩,r⟩:=x
  exact⟨ho _ d,z,ne,k _ _ (.inl rfl) e,mA,⟨od,es,ep,k _ _ (.inr d) e2,c⟩,r⟩
 |own y=>obtain⟨ob,e⟩:=x;exact⟨ob,k _ _ (.inl rfl) e⟩
 |xd fs=>obtain⟨mA,⟨od,es,ep,e,c⟩,r⟩:=x;exact⟨mA,⟨od,es,ep,k _ _ (.inl rfl) e,c⟩,r⟩
 |rng lo hi=>obtain⟨t,u,v,e⟩:=x;exact⟨t,u,v,k _ _ (.inl rfl) e⟩
 |frz ob u ih=>obtain⟨e,q⟩:=x;exact⟨k _ _ (.inl rfl) e,ih q⟩
 |tbl ps=>
  have e:h.get? a=some {cls:=.none,data:=.fields ps}:=x
  show h'.get? a=some {cls:=.none,data:=.fields ps}
  exact k a _ (.inl rfl) e
 |met f y=>
  have e:h.get? a=some (PySem.W.methodObj (.ref f) (.ref y)):=x
  show h'.get? a=some (PySem.W.methodObj (.ref f) (.ref y))
  exact k a _ (.inl rfl) e
 |ext φ=>obtain⟨p,⟨o,e⟩,st⟩:=x;exact⟨st _ _ p fun o q=>k _ _ (.inl rfl) q,⟨o,k _ _ (.inl rfl) e⟩,st⟩
theorem HOk.lt (x:HOk P w H h)(e:H a=some o):a<h.objs.size:=(x a o e).lt
theorem HOk.fresh (x:HOk P w H h)(e:h.objs.size≤a):H a=none:=by
 cases q:H a with
 |none=>rfl
 |some u=>exact absurd (zr3 (x.lt q) e) (zw6 _)
theorem HOk.kept (x:HOk P w H h)(k:∀b u,h.get? b=some u→h'.get? b=some u):HOk P w H h':=fun a o e=>
 (x a o e).stay (fun b u _ q=>k b u q) (fun _ q=>q) fun _ _ q=>q
theorem HOk.laid (x:HOk P w H h)(k:∀b u,h.get? b=some u→h'.get? b=some u)(hp:h.objs.size≤a)(new:yc P w (upd H a o) h' a o):HOk P w (upd H a o) h':=fun b u e=>by
 have hn:=x.fresh hp
 by_cases hb:b=a
 ·subst hb;rw[zh] at e;cases e;exact new
 ·rw[zl hb] at e
  exact (x b u e).stay (fun c v _ q=>k c v q) (fun c q=>by rw[zl (zm q hn)];exact q) fun c xs q=>by rw[zl (zm q hn)];exact q
end
def Rd (H:Hp)(a:Addr)(u:HO):Prop:=H a=some u∨∃o,H a=some (.frz o u)
theorem Rd.ok {P:Program}{w:World}{H:Hp}{h:Heap}{a:Addr}{u:HO}(r:Rd H a u)(x:HOk P w H h):yc P w H h a u:=by
 rcases r with r|⟨o,r⟩
 ·exact x a u r
 ·obtain⟨_,q⟩:=x a _ r
  exact q
def Mut :Option HO→Prop
 |some (.lst _)=>True
 |some (.dK _)=>True
 |some (.dT _)=>True
 |some (.set _ _)=>True
 |some (.ins _ _ _)=>True
 |some (.ext _)=>True
 |_=>False
section
variable {P:Program}{w:World}{H:Hp}{h h':Heap}{x e:Addr}{o':HO}
theorem HOk.write (ok:HOk P w H h)(mu:Mut (H x))(he:e=x∨H e=some (.own x))(k:∀b u,b≠e→h.get? b=some u→h'.get? b=some u)(heo:∃u,h'.get? e=some u)
  (new:yc P w (upd H x o') h' x o'):HOk P w (upd H x o') h':=fun b u q=>by
 have nown:∀c y,H c=some (.own y)→c≠x:=fun c y r z=>by subst z;rw[r] at mu;exact mu
 have ntup:∀c xs,H c=some (.tup xs)→c≠x:=fun c xs r z=>by subst z;rw[r] at mu;exact mu
 by_cases hb:b=x
 ·subst hb;rw[zh] at q;cases q;exact new
 ·rw[zl hb] at q
  by_cases hbe:b=e
  ·have q':H b=some (.own x):=by
    rcases he with z|z
    ·exact absurd (hbe.trans z) hb
    ·rw[hbe];exact z
   rw[q] at q';cases q'
   obtain⟨v,hv⟩:=heo
   exact⟨v,by rw[hbe];exact hv⟩
  ·refine (ok b u q).stay (fun c v hc r=>k c v ?_ r) (fun c r=>by rw[zl (nown c b r)];exact r) fun c xs r=>by rw[zl (ntup c xs r)];exact r
   rcases hc with rfl|hc
   ·exact hbe
   ·rintro rfl
    rcases he with z|z
    ·exact nown c b hc z
    ·rw[hc] at z;cases z;exact hb rfl
end
structure Un (fs ex:List Addr)(H H':Hp)(h h':Heap):Prop where
 keep:∀b o,h.get? b=some o→H b=none→b∉fs→b∉ex→h'.get? b=some o
 slot:∀b o,h.get? b=some o→H b=none→b∈fs→b∉ex→∃sl,h'.get? b=some {o with slots:=sl}
 free:∀b o,h.get? b=some o→H b=none→b∉ex→H' b=none
 there:∀b o,h.get? b=some o→b∉ex→∃o',h'.get? b=some o'
 tups:∀b xs,H b=some (.tup xs)→H' b=some (.tup xs)
 frzs:∀b o u,H b=some (.frz o u)→H' b=some (.frz o u)
 tbls:∀b ps,H b=some (.tbl ps)→∃more,H' b=some (.tbl (ps++more))
section
variable {fs fs' ex ex':List Addr}{H H1 H2:Hp}{h h1 h2 h':Heap}{a x e:Addr}{o:HO}
theorem Un.any (u:Un fs ex H H1 h h1){b:Addr}{ob:Obj}(q:h.get? b=some ob)(n:H b=none)(hx:b∉ex):∃sl,h1.get? b=some {ob with slots:=sl}:=by
 by_cases hb:b∈fs
 ·exact u.slot b ob q n hb hx
 ·exact⟨ob.slots,u.keep b ob q n hb hx⟩
theorem Un.kept (k:∀b u,h.get? b=some u→h'.get? b=some u):Un fs ex H H h h':=
 ⟨fun b ob q _ _ _=>k b ob q,fun b ob q _ _ _=>⟨ob.slots,k b ob q⟩,fun _ _ _ n _=>n,fun b ob q _=>⟨ob,k b ob q⟩,fun _ _ q=>q,fun _ _ _ q=>q,fun _ ps q=>⟨#[],by rw[q];simp⟩⟩
theorem Un.refl :Un fs ex H H h h:=Un.kept fun _ _ q=>q
theorem Un.laid (k:∀b u,h.get? b=some u→h'.get? b=some u)(hp:h.objs.size≤a)(hn:H a=none):Un fs ex H (upd H a o) h h' where
 keep:=fun b u q _ _ _=>k b u q
 slot:=fun b u q _ _ _=>⟨u.slots,k b u q⟩
 free:=fun b u q n _=>by rw[zl (zs3 (zr3 (zp9 q) hp))];exact n
 there:=fun b u q _=>⟨u,k b u q⟩
 tups:=fun b xs q=>by rw[zl (zm q hn)];exact q
 frzs:=fun b u xs q=>by rw[zl (zm q hn)];exact q
 tbls:=fun b ps q=>⟨#[],by rw[zl (zm q hn),q];simp⟩
theorem Un.write (mu:Mut (H x))(he:e=x∨H e=some (.own x))(k:∀b u,b≠e→h.get? b=some u→h'.get? b=some u)(heo:∃u,h'.get? e=some u):Un fs ex H (upd H x o) h h':=by
 have hx:∀b,H b=none→b≠x:=fun b n z=>by subst z;rw[n] at mu;exact mu
 have hb:∀b,H b=none→b≠e:=fun b n z=>by
  subst z
  rcases he with r|r
  ·exact hx b n r
  ·rw[n] at r;cases r
 have hm:∀b u,H b=some u→¬Mut (some u)→b≠x:=fun b u q nm z=>by subst z;rw[q] at mu;exact nm mu
 refine⟨fun b u q n _ _=>k b u (hb b n) q,fun b u q n _ _=>⟨u.slots,k b u (hb b n) q⟩,fun b u q n _=>by rw[zl (hx b n)];exact n,fun b u q _=>?_,
  fun b xs q=>by rw[zl (hm b _ q fun z=>z)];exact q,fun b u xs q=>by rw[zl (hm b _ q fun z=>z)];exact q,fun b ps q=>⟨#[],by rw[zl (hm b _ q fun z=>z),q];simp⟩⟩
 by_cases hbe:b=e
 ·subst hbe;exact heo
 ·exact⟨u,k b u hbe q⟩
end
def trk (h:Heap)(H:Hp):List Addr:=(List.range h.objs.size).filter fun a=>(H a).isSome
def pN (h:Heap)(H:Hp):Heap:=PySem.W.hideAll h (trk h H)
theorem jT (h:Heap)(H:Hp):(pN h H).objs.size=h.objs.size:=PySem.W.hideAll_size _ _
theorem eo {h:Heap}{H:Hp}{b:Addr}{o:Obj}(e:h.get? b=some o)(n:H b=none):(pN h H).get? b=some o:=
 PySem.W.hideAll_get _ e fun hm=>by
  have q:(H b).isSome=true:=(zu1.mp hm).2
  rw[n] at q;simp at q
theorem cE {h:Heap}{H:Hp}{b:Addr}{o:Obj}(e:(pN h H).get? b=some o):h.get? b=some o∧H b=none:=by
 have e':h.get? b=some o:=PySem.W.of_hideAll (trk h H) e
 refine⟨e',?_⟩
 cases q:H b with
 |none=>rfl
 |some x=>
  have hm:b∈trk h H:=zu1.mpr ⟨List.mem_range.mpr (zp9 e'),by simp[q]⟩
  have z:(pN h H).get? b=none:=PySem.W.hideAll_none (trk h H) hm
  rw[z] at e;cases e
structure Mod (K:PySem.W.Frag)(mg:Str→Option Value)(base:Heap):Prop where
 kin:K.In base
 glob:base.Ns mainGlobals mg
 blt:∃mb,base.Ns builtinsNs mb∧∀x:Str,x≠"__name__"→mb x=bootBuiltins x
 nolimit:base.NoLimit
structure Cx where
 prog:Program
 w:World
 K:PySem.W.Frag
 mg:Str→Option Value
 base:Heap
 A:Around
 N:List Str
 s₀:Shared
 H₀:Hp
 env:Env
 outer:List Env
 stack:List Env
 ex:List Addr
 fn:Str→Bool
 calm:Bool
 pn:List (Addr×Obj)
 xe:Value→Shared→Prop
def frs (l:List Env):List Addr:=l.filterMap (·.frame)
abbrev Cx.fs (X:Cx):List Addr:=frs X.outer
def Vis (sc:Scope)(x:Str):Prop:=sc.names.lookup x=some .local∨sc.names.lookup x=some .cell∨sc.names.lookup x=some .free
def Loc (sc:Scope)(x:Str):Prop:=sc.names.lookup x=some .local∨sc.names.lookup x=some .cell
def Look (env:Env)(h:Heap)(m:Str→Option Value)(x:Str)(u:Value):Prop:=
 (env.kindOf x=some .local∧m x=some u)∨((env.kindOf x=some .cell∨env.kindOf x=some .free)∧∃c,env.cells.lookup x=some c∧h.IsCell c (some u))
structure Cx.Ok (X:Cx):Prop where
 mod:Mod X.K X.mg X.base
 kind:X.env.scope.kind=.function
 glob:X.env.globals=mainGlobals
 blt:X.env.builtins=builtinsNs
 above:X.s₀.heap.objs.size≤X.env.locals
 inj:∀x y c,X.env.cells.lookup x=some c→X.env.cells.lookup y=some c→x=y
 has:∀x,(X.env.kindOf x=some .cell∨X.env.kindOf x=some .free)→∃c,X.env.cells.lookup x=some c
 cab:∀x c,X.fn x=true→X.env.cells.lookup x=some c→X.s₀.heap.objs.size≤c
 hd:X.calm=true→X.A.handled=none
 frames:X.A.frames=some X.stack
 stk:X.stack=X.outer∨(X.stack=X.env::X.outer∧X.env.frame=some X.env.locals)
 exf:∀b∈X.ex,b≠X.env.locals∧∀x c,X.env.cells.lookup x=some c→c≠b
 bs:∀b o,X.base.get? b=some o→X.s₀.heap.get? b=some o∧X.H₀ b=none
 bsz:X.base.objs.size≤X.s₀.heap.objs.size
 noex:∀b o,X.base.get? b=some o→b∉X.ex
 exfs:∀b∈X.ex,b∉X.fs
 funs:X.s₀.heap.FunFrames X.base X.outer
 frf:∀b∈X.fs,X.H₀ b=none
structure Inv (X:Cx)(pins:List (Addr×Obj))(σ:List (Option V))(H:Hp)(s:Shared):Prop where
 ok:X.Ok
 os:s.os=X.s₀.os
 bare:AllBare s.gens
 base:Un X.fs X.ex X.H₀ H X.s₀.heap s.heap
 loc:∃m,s.heap.Ns X.env.locals m∧∀(i:Nat) (x:Str) (v:V),X.N[i]?=some x→σ[i]?=some (some v)→Vis X.env.scope x→∃u,RelV v u∧Look X.env s.heap m x u
 cell:∀x c,X.env.cells.lookup x=some c→∃v,s.heap.IsCell c v
 free:H X.env.locals=none
 freeC:∀x c,X.env.cells.lookup x=some c→H c=none
 pin:∀p∈X.pn++pins,s.heap.get? p.1=some p.2∧H p.1=none∧p.1≠X.env.locals∧p.1∉X.fs∧∀v,p.2.data≠.cell v
 hok:HOk X.prog X.w H s.heap
 len:σ.length=X.N.length
section
variable {X:Cx}{pins:List (Addr×Obj)}{σ:List (Option V)}{H H':Hp}{s:Shared}{h':Heap}
theorem Cx.Ok.nofr (ok:X.Ok){b:Addr}{o:Obj}(e:X.base.get? b=some o):b∉X.fs:=fun hb=>by
 have:=(ok.funs.mem hb).1
 rw[e] at this;cases this
theorem Inv.bs (I:Inv X pins σ H s):∀b o,X.base.get? b=some o→s.heap.get? b=some o∧H b=none:=fun b o e=>
 ⟨I.base.keep b o (I.ok.bs b o e).1 (I.ok.bs b o e).2 (I.ok.nofr e) (I.ok.noex b o e),I.base.free b o (I.ok.bs b o e).1 (I.ok.bs b o e).2 (I.ok.noex b o e)⟩
theorem Inv.bk (I:Inv X pins σ H s):∀b o,X.base.get? b=some o→s.heap.get? b=some o:=fun b o e=>(I.bs b o e).1
theorem Inv.mod (I:Inv X pins σ H s):Mod X.K X.mg X.base:=I.ok.mod
theorem Inv.kIn (I:Inv X pins σ H s):X.K.In s.heap:=I.ok.mod.kin.keeps I.bk
theorem Inv.lt (I:Inv X pins σ H s):X.env.locals<s.heap.objs.size:=let ⟨_,hn,_⟩:=I.loc;hn.lt
theorem Inv.sz (I:Inv X pins σ H s):X.s₀.heap.objs.size≤s.heap.objs.size:=zt6 I.ok.above (zv3 I.lt)
theorem Inv.nofs (I:Inv X pins σ H s){a:Addr}(h:s.heap.objs.size≤a):a∉X.fs:=fun hb=>by
 obtain⟨_,o,ho,_⟩:=I.ok.funs.mem hb
 exact absurd (zr3 (zp9 ho) (zt6 I.sz h)) (zw6 _)
theorem Inv.cne (I:Inv X pins σ H s):∀x c,X.env.cells.lookup x=some c→c≠X.env.locals:=fun x c e z=>by
 obtain⟨v,o,ho,hd⟩:=I.cell x c e
 obtain⟨m,⟨o',es,ep,ho',hd',_⟩,_⟩:=I.loc
 rw[z,ho'] at ho;cases ho;rw[hd'] at hd;cases hd
theorem Inv.funs (I:Inv X pins σ H s):s.heap.FunFrames X.base X.outer:=by
 have all:∀(l:List Env),(∀b∈frs l,b∈X.fs)→X.s₀.heap.FunFrames X.base l→s.heap.FunFrames X.base l:=by
  intro l
  induction l with
  |nil=>intro _ _;trivial
  |cons env r ih=>
   intro hs hl
   obtain⟨hk,⟨L,o,hf,hn,ho,hd⟩,hr⟩:=hl
   have hL:L∈X.fs:=hs L (by unfold frs;rw[zA8,hf];exact zq1)
   obtain⟨sl,e⟩:=I.base.slot L o ho (I.ok.frf L hL) hL fun z=>I.ok.exfs L z hL
   exact⟨hk,⟨L,_,hf,hn,e,hd⟩,ih (fun b hb=>hs b (by unfold frs;rw[zA8,hf];exact zq0 _ hb)) hr⟩
 exact all X.outer (fun _ hb=>hb) I.ok.funs
theorem Inv.stack (I:Inv X pins σ H s):s.heap.FunFrames X.base X.stack:=by
 rcases I.ok.stk with e|⟨e,hf⟩
 ·rw[e];exact I.funs
 ·rw[e]
  obtain⟨m,hn,_⟩:=I.loc
  refine .cons (by rw[I.ok.kind];decide) hf hn ?_ I.funs
  exact Heap.get?_none_of_le (zt6 I.ok.bsz I.ok.above)
theorem Inv.stkSub (I:Inv X pins σ H s):∀b∈frs X.stack,b∈X.env.locals::X.fs:=fun b hb=>by
 rcases I.ok.stk with e|⟨e,hf⟩
 ·rw[e] at hb;exact zq0 _ hb
 ·rw[e] at hb
  unfold frs at hb
  rw[zA8,hf] at hb
  exact hb
theorem Inv.stkFree (I:Inv X pins σ H s):∀b∈frs X.stack,H b=none:=fun b hb=>by
 rcases zp7.mp (I.stkSub b hb) with e|hb
 ·rw[e];exact I.free
 ·obtain⟨_,o,ho,_⟩:=I.ok.funs.mem hb
  exact I.base.free b o ho (I.ok.frf b hb) fun z=>I.ok.exfs b z hb
theorem Inv.step {g':Array GenState}{t':Nat}{d':Drawn}{ch:List Addr}(I:Inv X pins σ H s)
  (hch:∀b∈ch,(b∈X.ex∨X.s₀.heap.objs.size≤b)∧b≠X.env.locals∧(∀x c,X.env.cells.lookup x=some c→c≠b)∧∀p∈X.pn++pins,p.1≠b)
  (keep:∀b o,b≠X.env.locals→b∉X.fs→b∉ch→s.heap.get? b=some o→H b=none→h'.get? b=some o)
  (slot:∀b o,b≠X.env.locals→b∈X.fs→b∉ch→s.heap.get? b=some o→H b=none→∃sl,h'.get? b=some {o with slots:=sl}) (free:∀b o,b∉ch→s.heap.get? b=some o→H b=none→H' b=none)
  (there:∀b o,b∉ch→s.heap.get? b=some o→∃o',h'.get? b=some o')
  (tups:∀b xs,H b=some (.tup xs)→H' b=some (.tup xs)) (frzs:∀b o u,H b=some (.frz o u)→H' b=some (.frz o u)) (tbls:∀b ps,H b=some (.tbl ps)→∃more,H' b=some (.tbl (ps++more)))
  (ns:∀m,s.heap.Ns X.env.locals m→h'.Ns X.env.locals m) (hok:HOk X.prog X.w H' h') (hg:AllBare g'):
  Inv X pins σ H' {s with heap:=h',gens:=g',drawn:=d',toks:=t'}:=by
 have neL:∀b o,X.s₀.heap.get? b=some o→b≠X.env.locals:=fun b o e=>zs3 (zr3 (zp9 e) I.ok.above)
 have neC:∀b o,X.s₀.heap.get? b=some o→b∉X.ex→b∉ch:=fun b o e hx hb=>by
  rcases (hch b hb).1 with z|z
  ·exact hx z
  ·exact absurd (zr3 (zp9 e) z) (zw6 _)
 have cellK:∀x c,X.env.cells.lookup x=some c→∀v,s.heap.IsCell c v→h'.IsCell c v:=fun x c e v ⟨o,ho,hd⟩=>by
  have nch:c∉ch:=fun z=>(hch c z).2.2.1 x c e rfl
  by_cases hc:c∈X.fs
  ·obtain⟨sl,q⟩:=slot c o (I.cne x c e) hc nch ho (I.freeC x c e)
   exact⟨_,q,hd⟩
  ·exact⟨o,keep c o (I.cne x c e) hc nch ho (I.freeC x c e),hd⟩
 refine⟨I.ok,I.os,hg,⟨fun b o e n hb hx=>?_,fun b o e n hb hx=>?_,fun b o e n hx=>?_,fun b o e hx=>?_,fun b xs e=>tups b xs (I.base.tups b xs e),fun b o xs e=>frzs b o xs (I.base.frzs b o xs e),fun b ps e=>?_⟩,?_,fun x c e=>?_,?_,fun x c e=>?_,fun p hp=>?_,hok,I.len⟩
 ·exact keep b o (neL b o e) hb (neC b o e hx) (I.base.keep b o e n hb hx) (I.base.free b o e n hx)
 ·obtain⟨sl,e1⟩:=I.base.slot b o e n hb hx
  obtain⟨sl',e2⟩:=slot b _ (neL b o e) hb (neC b o e hx) e1 (I.base.free b o e n hx)
  exact⟨sl',e2⟩
 ·obtain⟨o',e1⟩:=I.base.there b o e hx
  exact free b o' (neC b o e hx) e1 (I.base.free b o e n hx)
 ·obtain⟨o',e1⟩:=I.base.there b o e hx
  exact there b o' (neC b o e hx) e1
 ·obtain⟨m1,e1⟩:=I.base.tbls b ps e
  obtain⟨m2,e2⟩:=tbls b _ e1
  exact⟨m1++m2,by rw[e2,Array.append_assoc]⟩
 ·obtain⟨m,hn,hl⟩:=I.loc
  refine⟨m,ns m hn,fun i x v e1 e2 e3=>?_⟩
  obtain⟨u,r,l⟩:=hl i x v e1 e2 e3
  refine⟨u,r,?_⟩
  rcases l with l|⟨k,c,e,z⟩
  ·exact .inl l
  ·exact .inr ⟨k,c,e,cellK x c e _ z⟩
 ·obtain⟨v,z⟩:=I.cell x c e
  exact⟨v,cellK x c e v z⟩
 ·obtain⟨m,⟨o,_,_,ho,_⟩,_⟩:=I.loc
  exact free _ o (fun z=>(hch _ z).2.1 rfl) ho I.free
 ·obtain⟨v,o,ho,hd⟩:=I.cell x c e
  exact free c o (fun z=>(hch c z).2.2.1 x c e rfl) ho (I.freeC x c e)
 ·obtain⟨e,n,ne,nf,d⟩:=I.pin p hp
  have nch:p.1∉ch:=fun z=>(hch p.1 z).2.2.2 p hp rfl
  exact⟨keep p.1 p.2 ne nf nch e n,free p.1 p.2 nch e n,ne,nf,d⟩
theorem Inv.un {t':Nat}(I:Inv X pins σ H s)(u:Un X.fs [] H H' s.heap h')(hok:HOk X.prog X.w H' h'):Inv X pins σ H' {s with heap:=h',toks:=t'}:=by
 obtain⟨m,⟨o,es,ep,ho,r⟩,_⟩:=id I.loc
 obtain⟨sl,hL⟩:=u.any ho I.free (by simp)
 exact I.step (g':=s.gens) (d':=s.drawn) (ch:=[]) (fun _ z=>nomatch z) (fun b o _ hb _ e n=>u.keep b o e n hb (by simp)) (fun b o _ hb _ e n=>u.slot b o e n hb (by simp)) (fun b o _ e n=>u.free b o e n (by simp)) (fun b o _ e=>u.there b o e (by simp)) u.tups u.frzs u.tbls (fun m' hm=>by
  obtain⟨o',es',ep',ho',r'⟩:=hm
  rw[ho] at ho';cases ho'
  exact⟨_,es',ep',hL,r'⟩) hok I.bare
theorem Inv.call {g':Array GenState}{t':Nat}{d':Drawn}{ch:List Addr}(I:Inv X pins σ H s)(u:Un (frs X.stack) ch H H' s.heap h')(hok:HOk X.prog X.w H' h')(hg:AllBare g')
  (hch:∀b∈ch,(b∈X.ex∨X.s₀.heap.objs.size≤b)∧b≠X.env.locals∧(∀x c,X.env.cells.lookup x=some c→c≠b)∧∀p∈X.pn++pins,p.1≠b):
  Inv X pins σ H' {s with heap:=h',gens:=g',drawn:=d',toks:=t'}:=by
 obtain⟨m,⟨o,es,ep,ho,r⟩,_⟩:=id I.loc
 obtain⟨sl,hL⟩:=u.any ho I.free fun z=>(hch _ z).2.1 rfl
 exact I.step (ch:=ch) hch (fun b o hL hb hc e n=>u.keep b o e n (fun z=>(zp7.mp (I.stkSub b z)).elim hL hb) hc) (fun b o _ _ hc e n=>u.any e n hc) (fun b o hc e n=>u.free b o e n hc) (fun b o hc e=>u.there b o e hc) u.tups u.frzs u.tbls (fun m' hm=>by
  obtain⟨o',es',ep',ho',r'⟩:=hm
  rw[ho] at ho';cases ho'
  exact⟨_,es',ep',hL,r'⟩) hok hg
theorem Inv.turned {t':Nat}{it:Addr}(I:Inv X pins σ H s)(k:∀b o,b≠it→s.heap.get? b=some o→h'.get? b=some o)(hn:H it=none)(hL:it≠X.env.locals)
  (h1:it∈X.ex∨X.s₀.heap.objs.size≤it) (h2:∀x c,X.env.cells.lookup x=some c→c≠it) (h3:∀p∈X.pn++pins,p.1≠it):Inv X pins σ H {s with heap:=h',toks:=t'}:=by
 have nit:∀b u,H b=some u→b≠it:=fun b u e z=>by rw[z,hn] at e;cases e
 refine I.step (g':=s.gens) (d':=s.drawn) (ch:=[it]) (fun b hb=>?_) (fun b o _ _ hc e _=>k b o (fun z=>hc (by simp[z])) e) (fun b o _ _ hc e _=>⟨o.slots,k b o (fun z=>hc (by simp[z])) e⟩) (fun _ _ _ _ n=>n)
  (fun b o hc e=>⟨o,k b o (fun z=>hc (by simp[z])) e⟩) (fun _ _ e=>e) (fun _ _ _ e=>e) (fun b ps e=>⟨#[],by rw[e];simp⟩) (fun m hm=>?_) (fun b u e=>?_) I.bare
 ·have e:b=it:=by simpa using hb
  subst e
  exact⟨h1,hL,h2,h3⟩
 ·obtain⟨o,es,ep,ho,r⟩:=hm
  exact⟨o,es,ep,k _ o (zx0 hL) ho,r⟩
 ·refine (I.hok b u e).stay (fun c v hc q=>k c v ?_ q) (fun _ q=>q) fun _ _ q=>q
  rcases hc with z|z
  ·rw[z];exact nit b u e
  ·exact nit c _ z
theorem Inv.tok (I:Inv X pins σ H s)(t:Nat):Inv X pins σ H {s with toks:=t}:=I.un (h':=s.heap) (t':=t) Un.refl I.hok
theorem Inv.kept {t':Nat}(I:Inv X pins σ H s)(k:∀b u,s.heap.get? b=some u→h'.get? b=some u):Inv X pins σ H {s with heap:=h',toks:=t'}:=I.un (Un.kept k) (I.hok.kept k)
theorem Inv.laid {a:Addr}{o:HO}{t':Nat}(I:Inv X pins σ H s)(k:∀b u,s.heap.get? b=some u→h'.get? b=some u)(hp:s.heap.objs.size≤a)(new:yc X.prog X.w (upd H a o) h' a o):
  Inv X pins σ (upd H a o) {s with heap:=h',toks:=t'}:=I.un (Un.laid k hp (I.hok.fresh hp)) (I.hok.laid k hp new)
theorem Inv.write {x e:Addr}{o:HO}{t':Nat}(I:Inv X pins σ H s)(mu:Mut (H x))(he:e=x∨H e=some (.own x))(k:∀b u,b≠e→s.heap.get? b=some u→h'.get? b=some u)(heo:∃u,h'.get? e=some u)
  (new:yc X.prog X.w (upd H x o) h' x o):Inv X pins σ (upd H x o) {s with heap:=h',toks:=t'}:=I.un (Un.write mu he k heo) (I.hok.write mu he k heo new)
theorem Inv.pins_of {pins':List (Addr×Obj)}(I:Inv X pins σ H s)(h:∀p∈pins',s.heap.get? p.1=some p.2∧H p.1=none∧p.1≠X.env.locals∧p.1∉X.fs∧∀v,p.2.data≠.cell v):Inv X pins' σ H s:=
 ⟨I.ok,I.os,I.bare,I.base,I.loc,I.cell,I.free,I.freeC,fun p hp=>(zs6.mp hp).elim (fun z=>I.pin p (zw0 _ z)) (h p),I.hok,I.len⟩
theorem sg {N:List Str}(hN:N.Nodup){i j:Nat}{x:Str}(a:N[i]?=some x)(b:N[j]?=some x):i=j:=by
 obtain⟨h1,e1⟩:=zp5.mp a
 obtain⟨h2,e2⟩:=zp5.mp b
 exact (List.getElem_inj hN).mp (e1.trans e2.symm)
theorem rR {M:Model}{A:Around}{E:Value→Shared→Prop}{i:Nat}{x:Str}{v:V}{u:Value}{Q:Unit→Shared→Prop}(I:Inv X pins σ H s)(hN:X.N.Nodup)(hi:X.N[i]?=some x)(hx:Loc X.env.scope x)(r:RelV v u)
  (h:∀s',Inv X pins (σ.set i (some v)) H s'→(∃a,Heap.SameBut a s.heap s'.heap∧(a=X.env.locals∨X.env.cells.lookup x=some a))→Q () s') (hf:X.fn x=true∨X.env.scope.names.lookup x=some .local:=by first|exact .inl rfl|exact .inr rfl|assumption):wpAny M A (storeName X.env x u) Q E s:=by
 obtain⟨m,hn,hl⟩:=id I.loc
 have hcls:(X.env.scope.kind == .class||(X.env.scope.kind == .module&&X.env.locals != X.env.globals))=false:=by rw[I.ok.kind];rfl
 have hiσ:i<σ.length:=by rw[I.len];exact (zp5.mp hi).1
 have cne:=I.cne
 have tracked:∀{a:Addr} {h':Heap},(∃o,s.heap.get? a=some o∧H a=none)→Heap.SameBut a s.heap h'→HOk X.prog X.w H h':=fun {a h'} ha hs b ob e=>by
  obtain⟨_,_,hfree⟩:=ha
  refine (I.hok b ob e).stay (fun c w' hc q=>(hs.2 c ?_).trans q) (fun _ q=>q) fun _ _ q=>q
  rintro rfl
  rcases hc with rfl|hc
  ·rw[hfree] at e;cases e
  ·rw[hfree] at hc;cases hc
 rcases hx with hk|hk
 ·refine wpAny_storeName_local hk hn (fun h' hn' hs=>?_) hcls
  obtain⟨oL,_,_,hoL,_⟩:=id hn
  refine h _ ⟨I.ok,I.os,I.bare,⟨fun b o e n hb hx=>?_,fun b o e n hb hx=>?_,I.base.free,fun b o e hx=>?_,I.base.tups,I.base.frzs,I.base.tbls⟩,⟨_,hn',fun j y v' e1 e2 e3=>?_⟩,fun y c e=>?_,I.free,I.freeC,fun p hp=>?_,tracked ⟨oL,hoL,I.free⟩ hs,by simpa using I.len⟩ ⟨_,hs,.inl rfl⟩
  ·exact (hs.2 b (zs3 (zr3 (zp9 e) I.ok.above))).trans (I.base.keep b o e n hb hx)
  ·obtain⟨sl,e1⟩:=I.base.slot b o e n hb hx
   exact⟨sl,(hs.2 b (zs3 (zr3 (zp9 e) I.ok.above))).trans e1⟩
  ·obtain⟨o',e1⟩:=I.base.there b o e hx
   exact⟨o',(hs.2 b (zs3 (zr3 (zp9 e) I.ok.above))).trans e1⟩
  ·by_cases hj:j=i
   ·subst hj
    rw[hi] at e1;cases e1
    rw[zt9 hiσ] at e2
    cases e2
    exact⟨u,r,.inl ⟨hk,by simp⟩⟩
   ·rw[zt4 (zx0 hj)] at e2
    obtain⟨u',r',q⟩:=hl j y v' e1 e2 e3
    refine⟨u',r',?_⟩
    rcases q with ⟨k,e⟩|⟨k,c,e,z⟩
    ·refine .inl ⟨k,?_⟩
     have:y≠x:=fun e=>hj (sg hN e1 (e▸hi))
     simp[this,e]
    ·exact .inr ⟨k,c,e,z.sameBut hs (cne y c e)⟩
  ·obtain⟨w',z⟩:=I.cell y c e
   exact⟨w',z.sameBut hs (cne y c e)⟩
  ·obtain⟨e,n,ne,nf,d⟩:=I.pin p hp
   exact⟨(hs.2 p.1 ne).trans e,n,ne,nf,d⟩
 ·have hfn:X.fn x=true:=by
   rcases hf with z|z
   ·exact z
   ·rw[z] at hk;cases hk
  obtain⟨c,hc⟩:=I.ok.has x (.inl hk)
  obtain⟨w',z⟩:=I.cell x c hc
  refine wpAny_storeName_cell I.ok.kind hk hc z (fun h' hc' hs=>?_)
  obtain⟨oc,hoc,hocd⟩:=id z
  refine h {s with heap:=h'} ⟨I.ok,I.os,I.bare,⟨fun b o e n hb hx=>?_,fun b o e n hb hx=>?_,I.base.free,fun b o e hx=>?_,I.base.tups,I.base.frzs,I.base.tbls⟩,⟨m,hn.sameBut hs (zx0 (cne x c hc)),fun j y v' e1 e2 e3=>?_⟩,fun y c' e=>?_,I.free,I.freeC,fun p hp=>?_,tracked ⟨oc,hoc,I.freeC x c hc⟩ hs,by simpa using I.len⟩ ⟨c,hs,.inr hc⟩
  ·exact (hs.2 b (zs3 (zr3 (zp9 e) (I.ok.cab x c hfn hc)))).trans (I.base.keep b o e n hb hx)
  ·obtain⟨sl,e1⟩:=I.base.slot b o e n hb hx
   exact⟨sl,(hs.2 b (zs3 (zr3 (zp9 e) (I.ok.cab x c hfn hc)))).trans e1⟩
  ·obtain⟨o',e1⟩:=I.base.there b o e hx
   exact⟨o',(hs.2 b (zs3 (zr3 (zp9 e) (I.ok.cab x c hfn hc)))).trans e1⟩
  ·by_cases hj:j=i
   ·subst hj
    rw[hi] at e1;cases e1
    rw[zt9 hiσ] at e2
    cases e2
    exact⟨u,r,.inr ⟨.inl hk,c,hc,hc'⟩⟩
   ·rw[zt4 (zx0 hj)] at e2
    obtain⟨u',r',q⟩:=hl j y v' e1 e2 e3
    refine⟨u',r',?_⟩
    rcases q with q|⟨k,c',e,z'⟩
    ·exact .inl q
    ·refine .inr ⟨k,c',e,z'.sameBut hs ?_⟩
     rintro rfl
     exact hj (sg hN e1 (I.ok.inj _ _ _ e hc▸hi))
  ·by_cases hcc:c'=c
   ·subst hcc;exact⟨_,hc'⟩
   ·obtain⟨w2,z2⟩:=I.cell y c' e
    exact⟨w2,z2.sameBut hs hcc⟩
  ·obtain⟨e,n,ne,nf,d⟩:=I.pin p hp
   refine⟨(hs.2 p.1 ?_).trans e,n,ne,nf,d⟩
   intro q
   rw[q,hoc] at e
   have q':oc=p.2:=zs7 e
   exact d w' (by rw[←q'];exact hocd)
theorem so {M:Model}{A:Around}{E:Value→Shared→Prop}{i:Nat}{x:Str}{v:V}{u:Value}{Q:Unit→Shared→Prop}(I:Inv X pins σ H s)(hN:X.N.Nodup)(hi:X.N[i]?=some x)(hx:Loc X.env.scope x)(r:RelV v u)
  (h:∀s',Inv X pins (σ.set i (some v)) H s'→Q () s') (hf:X.fn x=true∨X.env.scope.names.lookup x=some .local:=by first|exact .inl rfl|exact .inr rfl|assumption):wpAny M A (storeName X.env x u) Q E s:=
 rR I hN hi hx r (fun s' I' _=>h s' I') hf
theorem Inv.call' {s':Shared}{ch:List Addr}(I:Inv X pins σ H s)(ho:s'.os=s.os)(u:Un (frs X.stack) ch H H' s.heap s'.heap)(hok:HOk X.prog X.w H' s'.heap)(hg:AllBare s'.gens)
  (hch:∀b∈ch,(b∈X.ex∨X.s₀.heap.objs.size≤b)∧b≠X.env.locals∧(∀x c,X.env.cells.lookup x=some c→c≠b)∧∀p∈X.pn++pins,p.1≠b):Inv X pins σ H' s':=by
 obtain⟨h',g',d',t',o'⟩:=s'
 have e:o'=s.os:=ho
 subst e
 exact I.call (g':=g') (t':=t') (d':=d') u hok hg hch
end
abbrev XK :=Value→Option Addr→Hp→Prop
abbrev St :=List (Option V)
abbrev VK :=V→Hp→Prop
abbrev TE :=St→Hp→VK→Prop
abbrev TT :=St→Hp→(Bool→Hp→Prop)→Prop
abbrev TA :=St→Hp→(List V→Hp→Prop)→Prop
structure Ends where
 nx:St→Hp→Prop
 rt:VK
 bk:St→Hp→Prop:=fun _ _=>False
 ct:St→Hp→Prop:=fun _ _=>False
abbrev TS :=Ends→St→Hp→Prop
def EP (X:Cx)(pins:List (Addr×Obj))(σ:St)(Q:VK)(u:Value)(s':Shared):Prop:=∃v H',Inv X pins σ H' s'∧RelV v u∧Q v H'
def TP (X:Cx)(pins:List (Addr×Obj))(σ:St)(Q:Bool→Hp→Prop)(b:Bool)(s':Shared):Prop:=∃H',Inv X pins σ H' s'∧Q b H'
def AP (X:Cx)(pins:List (Addr×Obj))(σ:St)(Q:List V→Hp→Prop)(us:List Value)(s':Shared):Prop:=∃vs H',Inv X pins σ H' s'∧Vals vs us∧Q vs H'
def SP (X:Cx)(pins:List (Addr×Obj))(D:Ends)(f:Flow)(s':Shared):Prop:=
 match f with
 |.next=>∃σ' H',Inv X pins σ' H' s'∧D.nx σ' H'
 |.brk=>∃σ' H',Inv X pins σ' H' s'∧D.bk σ' H'
 |.cont=>∃σ' H',Inv X pins σ' H' s'∧D.ct σ' H'
 |.ret u=>∃v σ' H',Inv X pins σ' H' s'∧RelV v u∧D.rt v H'
def PE (X:Cx)(e:Expr)(t:TE):Prop:=
 ∀(pins:List (Addr×Obj)) (s:Shared) (σ:St) (H:Hp) (Q:VK),Inv X pins σ H s→t σ H Q→wpAny (model X.prog X.w) X.A (eval e X.env) (EP X pins σ Q) X.xe s
def PT (X:Cx)(e:Expr)(t:TT):Prop:=
 ∀(pins:List (Addr×Obj)) (s:Shared) (σ:St) (H:Hp) (Q:Bool→Hp→Prop),Inv X pins σ H s→t σ H Q→wpAny (model X.prog X.w) X.A (isTrue e X.env (eval e X.env)) (TP X pins σ Q) X.xe s
def PW (X:Cx)(e:Expr)(t:TT):Prop:=
 ∀(whole:Sem Value) (pins:List (Addr×Obj)) (s:Shared) (σ:St) (H:Hp) (Q:Bool→Hp→Prop),Inv X pins σ H s→t σ H Q→wpAny (model X.prog X.w) X.A (isTrue e X.env whole) (TP X pins σ Q) X.xe s
theorem PW.pt {X:Cx}{e:Expr}{t:TT}(h:PW X e t):PT X e t:=h _
def PA (X:Cx)(es:List Expr)(t:TA):Prop:=
 ∀(pos:Pos) (pins:List (Addr×Obj)) (s:Shared) (σ:St) (H:Hp) (Q:List V→Hp→Prop),Inv X pins σ H s→t σ H Q→wpAny (model X.prog X.w) X.A (spliced (backTo pos (starEach es X.env))) (AP X pins σ Q) X.xe s
def PS (X:Cx)(st:Stmt)(t:TS):Prop:=
 ∀(pins:List (Addr×Obj)) (s:Shared) (σ:St) (H:Hp) (D:Ends),Inv X pins σ H s→t D σ H→wpAny (model X.prog X.w) X.A (exec st X.env) (SP X pins D) X.xe s
def PSs (X:Cx)(st:List Stmt)(t:TS):Prop:=
 ∀(pins:List (Addr×Obj)) (s:Shared) (σ:St) (H:Hp) (D:Ends),Inv X pins σ H s→t D σ H→wpAny (model X.prog X.w) X.A (execs st X.env) (SP X pins D) X.xe s
theorem thn {α:Type}{t:Sem α}{Q Q':α→Shared→Prop}{M:Model}{A:Around}{E:Value→Shared→Prop}{s:Shared}(h:wpAny M A t Q E s)(hQ:∀a s,Q a s→Q' a s):wpAny M A t Q' E s:=zt2 h hQ fun _ _ x=>x
section
variable {X:Cx}
theorem bin {a b:Expr}{ta tb:TE}(ha:PE X a ta)(hb:PE X b tb){pins:List (Addr×Obj)}{s:Shared}{σ:St}{H:Hp}{R:V→V→Hp→Prop}(I:Inv X pins σ H s)(h:ta σ H fun x H1=>tb σ H1 fun y H2=>R x y H2)
  {α:Type} {Q:α→Shared→Prop} {f:Value→Value→Sem α}
  (hf:∀v u s2 x y H2,Inv X pins σ H2 s2→RelV x v→RelV y u→R x y H2→wpAny (model X.prog X.w) X.A (f v u) Q X.xe s2):
  wpAny (model X.prog X.w) X.A (eval a X.env) (fun v s₁=>wpAny (model X.prog X.w) X.A (eval b X.env) (fun u s₂=>wpAny (model X.prog X.w) X.A (f v u) Q X.xe s₂) X.xe s₁) X.xe s:=by
 refine thn (ha pins s σ H _ I h) fun v s1 ⟨x,H1,I1,r1,q1⟩=>?_
 refine thn (hb pins s1 σ H1 _ I1 q1) fun u s2 ⟨y,H2,I2,r2,q2⟩=>?_
 exact hf v u s2 x y H2 I2 r1 r2 q2
def zi8 (i:Nat):TE:=fun σ H Q=>∃v,σ[i]?=some (some v)∧Q v H
def tC (v:V):TE:=fun _ H Q=>Q v H
theorem wC {i:Nat}{x:Str}{pos:Pos}(hN:X.N[i]?=some x)(hv:Vis X.env.scope x)(hd:(x == ("__debug__":Str))=false:=by decide)(hcd:(x == ("__classdict__":Str))=false:=by decide):PE X (.Name x pos) (zi8 i):=by
 intro pins s σ H Q I h
 obtain⟨v,e,h⟩:=h
 obtain⟨m,hn,hl⟩:=I.loc
 obtain⟨u,r,l⟩:=hl i x v hN e hv
 have fin:EP X pins σ Q u s:=⟨v,H,I,r,h⟩
 rcases l with ⟨hk,hm⟩|⟨hk,c,hc,hcell⟩
 ·exact wpAny_Name (wpAny_loadName_local I.ok.kind hk hn hm fin) hd
 ·rcases hk with hk|hk
  ·exact wpAny_Name (wpAny_loadName_cell I.ok.kind hk hc hcell fin) hd
  ·exact wpAny_Name (wpAny_loadName_free I.ok.kind hk hc hcell fin hcd) hd
theorem zx {i j pos}:PE X (.Constant (.int i) j pos) (tC (.int i)):=fun _ _ _ H _ I h=>wpAny_Constant_int ⟨.int i,H,I.tok _,⟨_,rfl⟩,h⟩
theorem zj7 {b j pos}:PE X (.Constant (.bool b) j pos) (tC (.bl b)):=fun _ _ _ H _ I h=>Constant_bool ⟨.bl b,H,I,rfl,h⟩
theorem pG {j pos}:PE X (.Constant .none j pos) (tC .non):=fun _ _ _ H _ I h=>Constant_none ⟨.non,H,I,rfl,h⟩
theorem yb {x j pos}:PE X (.Constant (.str x) j pos) (tC (.str x)):=fun _ _ _ H _ I h=>Calls.Constant_str ⟨.str x,H,I.tok _,⟨_,rfl⟩,h⟩
def Gl (X:Cx)(x:Str):Prop:=X.env.kindOf x=some .globalImplicit
theorem xX {E:Value→Shared→Prop}{pins:List (Addr×Obj)}{s:Shared}{σ:St}{H:Hp}{x:Str}{u:Value}{pos:Pos}{Q:Value→Shared→Prop}(I:Inv X pins σ H s)(hg:Gl X x)(hm:X.mg x=some u)(h:Q u s)
  (hd:(x == ("__debug__":Str))=false:=by decide):wpAny (model X.prog X.w) X.A (eval (.Name x pos) X.env) Q E s:=
 Calls.Name_function_global I.ok.kind hg (Calls.loadGlobal_global (by rw[I.ok.glob];exact I.mod.glob.keeps I.bk) hm h) hd
theorem vk {E:Value→Shared→Prop}{pins:List (Addr×Obj)}{s:Shared}{σ:St}{H:Hp}{x:Str}{u:Value}{pos:Pos}{Q:Value→Shared→Prop}(I:Inv X pins σ H s)(hg:Gl X x)(hm:X.mg x=none)(hv:bootBuiltins x=some u)(h:Q u s)
  (hn:x≠"__name__":=by decide) (hd:(x == ("__debug__":Str))=false:=by decide):wpAny (model X.prog X.w) X.A (eval (.Name x pos) X.env) Q E s:=by
 obtain⟨mb,h1,h2⟩:=I.mod.blt
 exact Calls.Name_function_global I.ok.kind hg (Calls.loadGlobal_builtin (by rw[I.ok.glob];exact I.mod.glob.keeps I.bk) hm (by rw[I.ok.blt];exact h1.keeps I.bk) ((h2 x hn).trans hv) h) hd
theorem vv {x:Str}{v:V}{u:Value}{pos:Pos}(hg:Gl X x)(hm:X.mg x=some u)(r:RelV v u)(hd:(x == ("__debug__":Str))=false:=by decide):PE X (.Name x pos) (tC v):=
 fun _ _ _ H _ I h=>xX I hg hm ⟨v,H,I,r,h⟩ hd
theorem wM {x:Str}{v:V}{u:Value}{pos:Pos}(hg:Gl X x)(hm:X.mg x=none)(hv:bootBuiltins x=some u)(r:RelV v u)(hn:x≠"__name__":=by decide)(hd:(x == ("__debug__":Str))=false:=by decide):PE X (.Name x pos) (tC v):=
 fun _ _ _ H _ I h=>vk I hg hm hv ⟨v,H,I,r,h⟩ hn hd
variable {a b:Expr}{ta tb:TE}{pos:Pos}
def PC (X:Cx)(op:CmpOp)(a b:Expr)(t:TE):Prop:=
 ∀(pins:List (Addr×Obj)) (s:Shared) (σ:St) (H:Hp) (Q:VK),Inv X pins σ H s→t σ H Q→
  wpAny (model X.prog X.w) X.A (eval a X.env) (fun v s₁=>wpAny (model X.prog X.w) X.A (eval b X.env) (fun u s₂=>wpAny (model X.prog X.w) X.A (compareOp op v u) (EP X pins σ Q) X.xe s₂) X.xe s₁) X.xe s
def tB (t:TE):TT:=fun σ H Q=>t σ H fun x H1=>∃c,x=.bl c∧Q c H1
theorem zm0 {op:CmpOp}{t:TE}(h:PC X op a b t)(h1:behindInMarks op b=false:=by first|exact nobehind _ (by decide) (by decide)|rfl):PT X (.Compare a [op] [b] pos) (tB t):=by
 intro pins s σ H Q I hw
 refine wpAny_isTrue_Compare1 (thn (h pins s σ H _ I hw) fun v s1 h1=>thn h1 fun u s2 h2=>thn h2 fun c s3 ⟨x,H1,I1,r1,q1⟩=>?_) h1
 obtain⟨d,rfl,q⟩:=q1
 cases r1
 exact zt7 ⟨H1,I1,q⟩
theorem gL {e:Expr}{t:TE}(h:PE X e t)(he:∀whole,isTrue e X.env whole=(do let v ←whole;standAt e.pos;holding [v] (truthy v)):=by intro _;rfl):PT X e (tB t):=by
 intro pins s σ H Q I hw
 refine isTrue_plain (thn (h pins s σ H _ I hw) fun v s1 ⟨x,H1,I1,r1,q1⟩=>?_) (he _)
 obtain⟨d,rfl,q⟩:=q1
 cases r1
 exact zt7 ⟨H1,I1,q⟩
variable {tA tB':TT}{rest:List Expr}
def zo4 (t u:TT):TT:=fun σ H Q=>t σ H fun c H1=>if c=true then u σ H1 Q else Q false H1
def tOr (t u:TT):TT:=fun σ H Q=>t σ H fun c H1=>if c=true then Q true H1 else u σ H1 Q
def zo9 (t:TT):TT:=fun σ H Q=>t σ H fun c H1=>Q (!c) H1
theorem dB (ha:PT X a tA):PW X (.BoolOp .And [a] pos) tA:=by
 intro wh pins s σ H Q I h
 refine isTrue_and (thn (ha pins s σ H Q I h) fun c s1 e=>?_)
 cases c with
 |true=>exact isTrue_and_nil e
 |false=>exact e
theorem nY (ha:PT X a tA):PW X (.BoolOp .Or [a] pos) tA:=by
 intro wh pins s σ H Q I h
 refine isTrue_or (thn (ha pins s σ H Q I h) fun c s1 e=>?_)
 cases c with
 |false=>exact isTrue_or_nil e
 |true=>exact e
theorem aM (ha:PT X a tA)(hb:PW X (.BoolOp .And (b::rest) pos) tB'):PW X (.BoolOp .And (a::b::rest) pos) (zo4 tA tB'):=by
 intro wh pins s σ H Q I h
 refine isTrue_and (thn (ha pins s σ H _ I h) fun c s1 ⟨H1,I1,q1⟩=>?_)
 cases c with
 |true=>exact hb wh pins s1 σ H1 Q I1 q1
 |false=>exact⟨H1,I1,q1⟩
theorem iW (ha:PT X a tA)(hb:PW X (.BoolOp .Or (b::rest) pos) tB'):PW X (.BoolOp .Or (a::b::rest) pos) (tOr tA tB'):=by
 intro wh pins s σ H Q I h
 refine isTrue_or (thn (ha pins s σ H _ I h) fun c s1 ⟨H1,I1,q1⟩=>?_)
 cases c with
 |true=>exact⟨H1,I1,q1⟩
 |false=>exact hb wh pins s1 σ H1 Q I1 q1
theorem fL (ha:PT X a tA):PT X (.UnaryOp .Not a pos) (zo9 tA):=by
 intro pins s σ H Q I h
 exact isTrue_not (ha pins s σ H (fun c H1=>Q (!c) H1) I h)
def zh2 (ta tb:TE):TE:=fun σ H Q=>ta σ H fun x H1=>∃c,x=.bl c∧if c=true then tb σ H1 Q else Q (.bl false) H1
def zn7 (ta tb:TE):TE:=fun σ H Q=>ta σ H fun x H1=>∃c,x=.bl c∧if c=true then Q (.bl true) H1 else tb σ H1 Q
def zl8 (ta:TE):TE:=fun σ H Q=>ta σ H fun x H1=>∃c,x=.bl c∧Q (.bl (!c)) H1
theorem xK {op}{t:TE}(h:PE X a t):PE X (.BoolOp op [a] pos) t:=fun pins s σ H Q I hw=>BoolOp_one (h pins s σ H Q I hw)
theorem xq (ha:PE X a ta)(hb:PE X (.BoolOp .And (b::rest) pos) tb):PE X (.BoolOp .And (a::b::rest) pos) (zh2 ta tb):=by
 intro pins s σ H Q I h
 refine BoolOp_and (thn (ha pins s σ H _ I h) fun v s1 ⟨x,H1,I1,r1,q1⟩=>?_)
 obtain⟨c,rfl,q1⟩:=q1
 cases r1
 refine zt7 ?_
 cases c with
 |true=>exact hb pins s1 σ H1 Q I1 q1
 |false=>exact⟨.bl false,H1,I1,rfl,q1⟩
theorem gD (ha:PE X a ta)(hb:PE X (.BoolOp .Or (b::rest) pos) tb):PE X (.BoolOp .Or (a::b::rest) pos) (zn7 ta tb):=by
 intro pins s σ H Q I h
 refine BoolOp_or (thn (ha pins s σ H _ I h) fun v s1 ⟨x,H1,I1,r1,q1⟩=>?_)
 obtain⟨c,rfl,q1⟩:=q1
 cases r1
 refine zt7 ?_
 cases c with
 |false=>exact hb pins s1 σ H1 Q I1 q1
 |true=>exact⟨.bl true,H1,I1,rfl,q1⟩
theorem gf (ha:PE X a ta):PE X (.UnaryOp .Not a pos) (zl8 ta):=by
 intro pins s σ H Q I h
 refine UnaryOp_ (thn (ha pins s σ H _ I h) fun v s1 ⟨x,H1,I1,r1,q1⟩=>?_)
 obtain⟨c,rfl,q1⟩:=q1
 cases r1
 exact not_of (zt7 ⟨.bl (!c),H1,I1,rfl,q1⟩)
def tIf (t:TT)(ta tb:TE):TE:=fun σ H Q=>t σ H fun c H1=>if c=true then ta σ H1 Q else tb σ H1 Q
theorem eE {c:Expr}(hc:PT X c tA)(ha:PE X a ta)(hb:PE X b tb):PE X (.IfExp c a b pos) (tIf tA ta tb):=by
 intro pins s σ H Q I h
 refine wpAny_IfExp (thn (hc pins s σ H _ I h) fun d s1 ⟨H1,I1,q1⟩=>?_)
 cases d with
 |true=>exact ha pins s1 σ H1 Q I1 q1
 |false=>exact hb pins s1 σ H1 Q I1 q1
end
def SqL (K:PySem.W.Frag)(H:Hp)(a:Addr)(xs:List V):Prop:=
 Rd H a (.lst xs)∨
  ∃(o:Obj) (its:Array Value) (n:Nat),K.lookup a=some o∧o.cls=.type "list"∧o.dict=none∧o.data=.seq its n∧its.size≤sizeLine∧Vals xs its.toList
def SqT (K:PySem.W.Frag)(H:Hp)(a:Addr)(xs:List V):Prop:=
 Rd H a (.tup xs)∨
  ∃(o:Obj) (its:Array Value) (n:Nat),K.lookup a=some o∧o.cls=.type "tuple"∧o.data=.seq its n∧its.size≤sizeLine∧Vals xs its.toList
def zn8 :Value→Option V
 |.none=>some .non
 |.bool b=>some (.bl b)
 |.int i _=>some (.int i)
 |.str x _=>some (.str x)
 |.bytes b _=>some (.byt b)
 |.float b _=>some (.flt b)
 |.ref a=>some (.ref a)
 |.type n=>some (.ty n)
 |_=>none
theorem RelV.abs {x:V}{u:Value}(r:RelV x u):zn8 u=some x:=by
 cases x with
 |non=>cases r;rfl
 |bl _=>cases r;rfl
 |int _=>obtain⟨t,rfl⟩:=r;rfl
 |str _=>obtain⟨t,rfl⟩:=r;rfl
 |byt _=>obtain⟨t,rfl⟩:=r;rfl
 |flt _=>obtain⟨t,rfl⟩:=r;rfl
 |ref _=>cases r;rfl
 |ty _=>cases r;rfl
theorem RelV.inj {x y:V}{u:Value}(r:RelV x u)(q:RelV y u):x=y:=zs7 (r.abs.symm.trans q.abs)
theorem Vals.inj :∀{xs ys:List V} {us:List Value},Vals xs us→Vals ys us→xs=ys
 |_,_,_,.nil,.nil=>rfl
 |_,_,_,.cons r t,.cons r' t'=>by rw[r.inj r',Vals.inj t t']
section
variable {X:Cx}{pins:List (Addr×Obj)}{σ:St}{H:Hp}{s:Shared}{a:Addr}{xs ys:List V}
theorem SqL.of {K:PySem.W.Frag}(h:H a=some (.lst xs)):SqL K H a xs:=.inl (.inl h)
theorem SqT.of {K:PySem.W.Frag}(h:H a=some (.tup xs)):SqT K H a xs:=.inl (.inl h)
theorem Inv.list (I:Inv X pins σ H s)(h:SqL X.K H a xs):∃its:List Value,Vals xs its∧PlainL s.heap a its.toArray∧xs.length≤sizeLine:=by
 rcases h with h|⟨o,its,n,hk,hc,hd,hs,hz,r⟩
 ·obtain⟨z,its,n,r,e⟩:=h.ok I.hok
  exact⟨its,r,⟨_,n,e,rfl,rfl,rfl⟩,z⟩
 ·refine⟨its.toList,r,⟨o,n,I.kIn a o hk,hc,hd,by simpa using hs⟩,?_⟩
  have e:=r.length
  simp only[Array.length_toList] at e
  omega
theorem Inv.tuple (I:Inv X pins σ H s)(h:SqT X.K H a xs):∃its:List Value,Vals xs its∧IsTup s.heap a its.toArray∧xs.length≤sizeLine:=by
 rcases h with h|⟨o,its,n,hk,hc,hs,hz,r⟩
 ·obtain⟨z,its,r,p⟩:=h.ok I.hok
  exact⟨its,r,p,z⟩
 ·refine⟨its.toList,r,⟨o,I.kIn a o hk,hc,n,by simpa using hs⟩,?_⟩
  have e:=r.length
  simp only[Array.length_toList] at e
  omega
theorem Inv.list_inj (I:Inv X pins σ H s)(h:SqL X.K H a xs)(h':SqL X.K H a ys):xs=ys:=by
 obtain⟨its,r,⟨o,n,e,_,_,d⟩,_⟩:=I.list h
 obtain⟨its',r',⟨o',n',e',_,_,d'⟩,_⟩:=I.list h'
 rw[e] at e';cases e'
 rw[d] at d'
 injection d' with d1 _
 have:its=its':=by simpa using congrArg Array.toList d1
 subst this
 exact r.inj r'
end
abbrev Cx.wish (X:Cx)(E:Value→Shared→Prop):Cx:={X with xe:=E}
abbrev Cx.nox (X:Cx):Cx:=X.wish fun _ _=>False
theorem Cx.Ok.wish {X:Cx}(ok:X.Ok)(E:Value→Shared→Prop):(X.wish E).Ok:=
 ⟨ok.mod,ok.kind,ok.glob,ok.blt,ok.above,ok.inj,ok.has,ok.cab,ok.hd,ok.frames,ok.stk,ok.exf,ok.bs,ok.bsz,ok.noex,ok.exfs,ok.funs,ok.frf⟩
theorem Cx.Ok.unwish {X:Cx}{E:Value→Shared→Prop}(ok:(X.wish E).Ok):X.Ok:=
 ⟨ok.mod,ok.kind,ok.glob,ok.blt,ok.above,ok.inj,ok.has,ok.cab,ok.hd,ok.frames,ok.stk,ok.exf,ok.bs,ok.bsz,ok.noex,ok.exfs,ok.funs,ok.frf⟩
section
variable {X:Cx}{pins:List (Addr×Obj)}{σ:St}{H:Hp}{s:Shared}{E:Value→Shared→Prop}
theorem Inv.wish (I:Inv X pins σ H s)(E:Value→Shared→Prop):Inv (X.wish E) pins σ H s:=⟨I.ok.wish E,I.os,I.bare,I.base,I.loc,I.cell,I.free,I.freeC,I.pin,I.hok,I.len⟩
theorem Inv.unwish (I:Inv (X.wish E) pins σ H s):Inv X pins σ H s:=⟨I.ok.unwish,I.os,I.bare,I.base,I.loc,I.cell,I.free,I.freeC,I.pin,I.hok,I.len⟩
theorem SP.unwish {D:Ends}{f:Flow}{s':Shared}(h:SP (X.wish E) pins D f s'):SP X pins D f s':=by
 cases f with
 |next=>obtain⟨σ',H',I,q⟩:=h;exact⟨σ',H',I.unwish,q⟩
 |brk=>obtain⟨σ',H',I,q⟩:=h;exact⟨σ',H',I.unwish,q⟩
 |cont=>obtain⟨σ',H',I,q⟩:=h;exact⟨σ',H',I.unwish,q⟩
 |ret u=>obtain⟨v,σ',H',I,r,q⟩:=h;exact⟨v,σ',H',I.unwish,r,q⟩
theorem PSs.nox {st:List Stmt}{t:TS}(h:PSs X.nox st t):PSs X st t:=fun pins s σ H D I hw=>
 zt2 (h pins s σ H D (I.wish _) hw) (fun _ _ q=>q.unwish) fun _ _ z=>False.elim z
end
section
variable {X:Cx}{st:Stmt}{rest:List Stmt}{t u:TS}{e:Expr}{te:TE}{pos:Pos}
def zl6 :TS:=fun D σ H=>D.nx σ H
def zj9 (t u:TS):TS:=fun D σ H=>t {D with nx:=u D} σ H
theorem yD :PSs X [] zl6:=fun _ _ σ H _ I h=>zA2 ⟨σ,H,I,h⟩
theorem zE (h1:PS X st t)(h2:PSs X rest u):PSs X (st::rest) (zj9 t u):=by
 intro pins s σ H D I h
 refine wpAny_execs_cons (thn (h1 pins s σ H {D with nx:=u D} I h) fun f s1 q=>?_)
 cases f with
 |next=>
  obtain⟨σ',H',I',q⟩:=q
  exact h2 pins s1 σ' H' D I' q
 |ret v=>exact q
 |brk=>exact q
 |cont=>exact q
theorem zu (h1:PS X st t):PSs X [st] t:=by
 intro pins s σ H D I h
 refine wpAny_execs_cons (thn (h1 pins s σ H D I h) fun f s1 q=>?_)
 cases f with
 |next=>exact zA2 q
 |ret v=>exact q
 |brk=>exact q
 |cont=>exact q
theorem Inv.quiet {pins:List (Addr×Obj)}{σ:St}{H:Hp}{s:Shared}(I:Inv X pins σ H s):interactive X.env=false:=by simp[interactive,I.ok.kind]
def zg0 (te:TE):TS:=fun D σ H=>te σ H fun _ H1=>D.nx σ H1
theorem ke (he:PE X e te)(hs:swapsWith e none pos.line X.env=pure false:=by rfl):PS X (.Expr e pos) (zg0 te):=by
 intro pins s σ H D I h
 exact wpAny_Expr_any (thn (he pins s σ H _ I h) fun v s1 ⟨x,H1,I1,r1,q1⟩=>⟨σ,H1,I1,q1⟩) I.quiet hs
def zp0 (te:TE):TS:=fun D σ H=>te σ H D.rt
theorem zB (he:PE X e te):PS X (.Return (some e) pos) (zp0 te):=by
 intro pins s σ H D I h
 exact wpAny_Return_some (thn (he pins s σ H _ I h) fun v s1 ⟨x,H1,I1,r1,q1⟩=>⟨x,σ,H1,I1,r1,q1⟩)
def zo5 (c:TT)(t u:TS):TS:=fun D σ H=>c σ H fun b H1=>if b=true then t D σ H1 else u D σ H1
theorem wm {c:Expr}{a b:List Stmt}{tc:TT}(hc:PT X c tc)(ha:PSs X a t)(hb:PSs X b u):PS X (.If c a b pos) (zo5 tc t u):=by
 intro pins s σ H D I h
 refine wpAny_If (thn (hc pins s σ H _ I h) fun d s1 ⟨H1,I1,q1⟩=>?_)
 cases d with
 |true=>exact ha pins s1 σ H1 D I1 q1
 |false=>exact hb pins s1 σ H1 D I1 q1
end
abbrev TG :=V→St→Hp→(St→Hp→Prop)→Prop
abbrev TGs :=List V→St→Hp→(St→Hp→Prop)→Prop
def PG (X:Cx)(target:Expr)(t:TG):Prop:=
 ∀(pins:List (Addr×Obj)) (s:Shared) (σ:St) (H:Hp) (v:V) (u:Value) (Q:St→Hp→Prop),Inv X pins σ H s→RelV v u→t v σ H Q→
  wpAny (model X.prog X.w) X.A (assign target X.env u) (fun _ s'=>∃σ' H',Inv X pins σ' H' s'∧Q σ' H') X.xe s
def PGs (X:Cx)(ts:List Expr)(t:TGs):Prop:=
 ∀(pins:List (Addr×Obj)) (s:Shared) (σ:St) (H:Hp) (vs:List V) (us:List Value) (Q:St→Hp→Prop),Inv X pins σ H s→Vals vs us→t vs σ H Q→
  wpAny (model X.prog X.w) X.A (assignInOrder ((assignEach ts X.env).map (·.2)) us) (fun _ s'=>∃σ' H',Inv X pins σ' H' s'∧Q σ' H') X.xe s
abbrev zc1 :=V→V→V→Hp→(Hp→Prop)→Prop
def zj6 (X:Cx)(t:zc1):Prop:=
 ∀(pins:List (Addr×Obj)) (s:Shared) (σ:St) (H:Hp) (o i v:V) (ov iv u:Value) (Q:Hp→Prop),Inv X pins σ H s→RelV o ov→RelV i iv→RelV v u→t o i v H Q→
  wpAny (model X.prog X.w) X.A (setItem ov iv u) (fun _ s'=>∃H',Inv X pins σ H' s'∧Q H') X.xe s
section
variable {X:Cx}{pos:Pos}
def rS (i:Nat):TG:=fun v σ H Q=>Q (σ.set i (some v)) H
theorem zr {i:Nat}{x:Str}(hN:X.N.Nodup)(hi:X.N[i]?=some x)(hx:Loc X.env.scope x)(hf:X.fn x=true∨X.env.scope.names.lookup x=some .local:=by first|exact .inl rfl|exact .inr rfl|assumption):PG X (.Name x pos) (rS i):=by
 intro pins s σ H v u Q I r h
 exact wpAny_assign_Name (so I hN hi hx r (fun s' I'=>⟨_,H,I',h⟩) hf)
def zk1 :TGs:=fun vs σ H Q=>vs=[]∧Q σ H
def aD (t:TG)(u:TGs):TGs:=fun vs σ H Q=>∃v r,vs=v::r∧t v σ H fun σ' H'=>u r σ' H' Q
theorem yY :PGs X [] zk1:=by
 intro pins s σ H vs us Q I r h
 obtain⟨e,h⟩:=h
 subst e
 cases r
 exact assignInOrder_nil ⟨σ,H,I,h⟩
theorem zS {e:Expr}{es:List Expr}{t:TG}{u:TGs}(h1:PG X e t)(h2:PGs X es u)
  (hs:(assignEach (e::es) X.env).map (·.2)=assign e X.env::(assignEach es X.env).map (·.2):=by rfl):PGs X (e::es) (aD t u):=by
 intro pins s σ H vs us Q I r h
 obtain⟨v,vr,e1,h⟩:=h
 subst e1
 cases r with
 |cons r rr=>
  rw[hs]
  refine assignInOrder_cons (thn (h1 pins s σ H _ _ _ I r h) fun _ s1 ⟨σ1,H1,I1,q1⟩=>?_)
  exact h2 pins s1 σ1 H1 _ _ Q I1 rr q1
def aX (K:PySem.W.Frag)(n:Nat)(t:TGs):TG:=fun v σ H Q=>∃a xs,v=.ref a∧SqT K H a xs∧xs.length=n∧t xs σ H Q
theorem za3 {es:List Expr}{k:Nat}{t:TGs}{n:Nat}(hc:X.calm=true)(h:PGs X es t)
  (hn:(assignEach es X.env).length=n:=by rfl) (hst:(assignEach es X.env).findIdx? (·.1)=none:=by rfl):PG X (.Tuple es k pos) (aX X.K n t):=by
 intro pins s σ H v u Q I r hw
 obtain⟨a,xs,e1,hq,hl,hw⟩:=hw
 subst e1
 cases r
 obtain⟨its,rv,ht,hz⟩:=I.tuple hq
 refine assign_Tuple_tuple (I.ok.hd hc) ht (by simp[hn,←hl,rv.length]) hst fun h' hx=>?_
 have I1:Inv X pins σ H {s with heap:=h'}:=I.kept (t':=s.toks) fun b o e=>hx b o (zs3 (zp9 e)) e
 exact h pins _ σ H xs _ Q I1 (by simpa using rv) hw
def zo1 (to ti:TE)(t:zc1):TG:=fun v σ H Q=>to σ H fun o H1=>ti σ H1 fun i H2=>t o i v H2 fun H3=>Q σ H3
theorem gG {o i:Expr}{to ti:TE}{t:zc1}(ho:PE X o to)(hi:PE X i ti)(hs:zj6 X t)
  (ha:∀v,assign (.Subscript o i pos) X.env v=(do
   let ov ←holding [v] (eval o X.env)
   let iv ←holding [v,ov] (eval i X.env)
   standAt pos
   holding [v,ov,iv] (setItem ov iv v)
   release [v,ov,iv] []):=by intro _;rfl):PG X (.Subscript o i pos) (zo1 to ti t):=by
 intro pins s σ H v u Q I r h
 rw[ha]
 refine zp3 (zv4 (thn (ho pins s σ H _ I h) fun ov s1 ⟨x,H1,I1,r1,q1⟩=>?_))
 refine zp3 (zv4 (thn (hi pins s1 σ H1 _ I1 q1) fun iv s2 ⟨y,H2,I2,r2,q2⟩=>?_))
 refine zp3 (zz6 (zp3 (zv4 (thn (hs pins s2 σ H2 x y v ov iv u _ I2 r1 r2 r q2) fun _ s3 ⟨H3,I3,q3⟩=>?_))))
 exact wpAny_release ⟨σ,H3,I3,q3⟩
def aW (te:TE)(g:TG):TS:=fun D σ H=>te σ H fun x H1=>g x σ H1 D.nx
theorem nL {tg e:Expr}{te:TE}{g:TG}(he:PE X e te)(hg:PG X tg g)(hs:swapsWithSole [tg] e pos.line X.env=pure false:=by rfl)(hw:swappedStores [tg] e X.env=pure none:=by rfl)
  (h1:(assignEach [tg] X.env).map (·.2)=[assign tg X.env]:=by rfl):PS X (.Assign [tg] e pos) (aW te g):=by
 intro pins s σ H D I h
 refine wpAny_Assign_stores (thn (he pins s σ H _ I h) fun v s1 ⟨x,H1,I1,r1,q1⟩=>?_) hs hw
 rw[h1]
 exact thn (hg pins s1 σ H1 x v _ I1 r1 q1) fun _ s2 q=>q
theorem sZ {i:Nat}{x:Str}{e:Expr}{te:TE}{pos':Pos}(hN:X.N.Nodup)(hi:X.N[i]?=some x)(hx:Loc X.env.scope x)(he:PE X e te)(hs:swapsWith e (some (.Name x pos')) pos.line X.env=pure false:=by rfl)(hf:X.fn x=true∨X.env.scope.names.lookup x=some .local:=by first|exact .inl rfl|exact .inr rfl|assumption):
  PS X (.Assign [.Name x pos'] e pos) (aW te (rS i)):=by
 intro pins s σ H D I h
 refine wpAny_Assign_Name (thn (he pins s σ H _ I h) fun v s1 ⟨y,H1,I1,r1,q1⟩=>?_) hs
 exact so I1 hN hi hx r1 (fun s2 I2=>⟨_,H1,I2,q1⟩) hf
end
section
variable {X:Cx}{pos:Pos}
end
structure It where
 go:Nat→Hp→Prop
 yld:Nat→Hp→V→Hp→Prop
 stop:Nat→Hp→Prop
def uO (X:Cx)(pins:List (Addr×Obj))(H:Hp)(b:Addr):Prop:=
 H b=none∧b≠X.env.locals∧b∉X.fs∧(b∈X.ex∨X.s₀.heap.objs.size≤b)∧(∀x c,X.env.cells.lookup x=some c→c≠b)∧∀p∈X.pn++pins,p.1≠b
theorem Inv.fpOk {X:Cx}{pins:List (Addr×Obj)}{σ:St}{H H':Hp}{s:Shared}{b:Addr}(I:Inv X pins σ H s)(hb:s.heap.objs.size≤b)(hn:H' b=none):uO X pins H' b:=by
 refine⟨hn,zy2 (zr3 I.lt hb),I.nofs hb,.inr (zt6 I.sz hb),fun x c e z=>?_,fun p hp z=>?_⟩
 ·obtain⟨v,q⟩:=I.cell x c e
  exact absurd (zr3 q.lt (by rw[z];exact hb)) (zw6 _)
 ·exact absurd (zr3 (zp9 (I.pin p hp).1) (by rw[z];exact hb)) (zw6 _)
structure Turn (P:Program)(w:World)(K:PySem.W.Frag)(tg:Expr)(J:It)(fp:List Addr)(it:Addr)(tn:Nat→Heap→Prop):Prop where
 mem:it∈fp
 obj:∀i h,tn i h→∀b∈fp,∃o,h.get? b=some o∧∀v,o.data≠.cell v
 keep:∀i h h',tn i h→(∀b∈fp,∀o,h.get? b=some o→h'.get? b=some o)→tn i h'
 item:∀(X:Cx),X.prog=P→X.w=w→X.K=K→X.calm=true→∀(i:Nat) (pins:List (Addr×Obj)) (s:Shared) (σ:St) (H:Hp) (E:Value→Shared→Prop),Inv X pins σ H s→(∀b∈fp,uO X pins H b)→tn i s.heap→J.go i H→
  wpAny (model P w) X.A (pyNext (.ref it)) (fun r s1=>∃u,r=some u∧
   wpAny (model P w) X.A (letOwnedTupleGo tg (.ref it) u) (fun _ s2=>∃x H',Inv X pins σ H' s2∧RelV x u∧J.yld i H x H'∧tn (i+1) s2.heap∧∀b∈fp,H' b=none) E s1) E s
 done:∀(X:Cx),X.prog=P→X.w=w→X.K=K→X.calm=true→∀(i:Nat) (pins:List (Addr×Obj)) (s:Shared) (σ:St) (H:Hp) (E:Value→Shared→Prop),Inv X pins σ H s→(∀b∈fp,uO X pins H b)→tn i s.heap→J.stop i H→
  wpAny (model P w) X.A (pyNext (.ref it)) (fun r s1=>r=none∧Inv X pins σ H s1) E s
 self:∀(A:Around) (i:Nat) (s:Shared) (Q:Value→Shared→Prop) (E:Value→Shared→Prop),tn i s.heap→Q (.ref it) s→wpAny (model P w) A (pyIter (.ref it)) Q E s
abbrev TI :=St→Hp→(It→Hp→Prop)→Prop
def PIE (X:Cx)(pins:List (Addr×Obj))(σ:St)(tg:Expr)(R:It→Hp→Prop)(itv:Value)(s2:Shared):Prop:=
 ∃(it:Addr) (fp:List Addr) (tn:Nat→Heap→Prop) (J:It) (H':Hp),itv=.ref it∧Inv X pins σ H' s2∧Turn X.prog X.w X.K tg J fp it tn∧tn 0 s2.heap∧(∀b∈fp,uO X pins H' b)∧R J H'
def PI (X:Cx)(tg iter:Expr)(wi:TI):Prop:=
 ∀(pins:List (Addr×Obj)) (s:Shared) (σ:St) (H:Hp) (R:It→Hp→Prop),Inv X pins σ H s→wi σ H R→
  wpAny (model X.prog X.w) X.A (eval iter X.env) (fun v s1=>wpAny (model X.prog X.w) X.A (pyIter v) (PIE X pins σ tg R) X.xe s1) X.xe s
theorem ku {M:Model}{A:Around}{E:Value→Shared→Prop}{s:Shared}{tg:Expr}{it:Addr}{u:Value}{o:Obj}{n:String}{vs:Array Value}{Q:Unit→Shared→Prop}(ho:s.heap.get? it=some o)(hc:o.cls=.type n)(hd:o.data=.fields vs)
  (hn:["enumerate","zip","dict_itemiterator","dict_reverseitemiterator","odict_iterator","itertools.zip_longest","itertools.pairwise"].contains n=false) (hQ:Q () s):wpAny M A (letOwnedTupleGo tg (.ref it) u) Q E s:=by
 unfold letOwnedTupleGo
 cases tg<;>first
  |exact zq9 hQ
  |(cases u<;>first
    |exact zq9 hQ
    |(refine zp3 (wpAny_load ho ?_)
      rw[hc,hd]
      show wpAny M A (if (["enumerate","zip","dict_itemiterator","dict_reverseitemiterator","odict_iterator","itertools.zip_longest","itertools.pairwise"].contains n&&vs[0]? == some (rawInt _))=true then _ else _) Q E s
      rw[if_neg (by intro h;rw[hn,zu7] at h;cases h)]
      exact zq9 hQ))
def Itl (K:PySem.W.Frag)(a:Addr):It:=
 ⟨fun i H=>∃xs x,SqL K H a xs∧xs[i]?=some x,fun i H x H'=>H'=H∧∀xs,SqL K H a xs→xs[i]?=some x,fun i H=>∃xs,SqL K H a xs∧xs.length≤i⟩
def Itr (lo:Int)(n:Nat):It:=⟨fun i _=>i<n,fun i H x H'=>H'=H∧x=.int (lo+i),fun i _=>n≤i⟩
theorem jy {P:Program}{w:World}{K:PySem.W.Frag}{tg:Expr}(a it:Addr):Turn P w K tg (Itl K a) [it] it (fun i h=>h.IsListIter it a i) where
 mem:=by simp
 obj:=fun i h st b hb=>by
  have e:b=it:=by simpa using hb
  subst e
  obtain⟨o,e,c,d⟩:=st
  exact⟨o,e,fun v z=>by rw[d] at z;cases z⟩
 keep:=fun i h h' st k=>st.at fun o e=>k it (by simp) o e
 item:=by
  intro X hP hw hK hc i pins s σ H E I hf st hg
  subst hP hw hK
  obtain⟨xs,x,hq,hx⟩:=hg
  obtain⟨its,rv,p,hz⟩:=I.list hq
  obtain⟨u,hu,ru⟩:=rv.get hx
  obtain⟨f0,f1,f2,f3,f4,f5⟩:=hf it (by simp)
  refine wpAny_pyNext_list_item st p.isList (x:=u) (by simpa using hu) fun h' st' sb=>?_
  have I1:Inv X pins σ H {s with heap:=h'}:=I.turned (t':=s.toks) (fun b o hb e=>(sb.2 b hb).trans e) f0 f1 f3 f4 f5
  obtain⟨o,e,c,d⟩:=id st'
  exact⟨u,rfl,ku (s:={s with heap:=h'}) e c d (by decide) ⟨x,H,I1,ru,⟨rfl,fun ys hy=>by rw[I.list_inj hy hq];exact hx⟩,st',fun b hb=>(hf b hb).1⟩⟩
 done:=by
  intro X hP hw hK hc i pins s σ H E I hf st hg
  subst hP hw hK
  obtain⟨xs,hq,hx⟩:=hg
  obtain⟨its,rv,p,hz⟩:=I.list hq
  obtain⟨f0,f1,f2,f3,f4,f5⟩:=hf it (by simp)
  have hl:=rv.length
  exact wpAny_pyNext_list_end (I.ok.hd hc) st p.isList (by simp;omega) fun h' eb=>⟨rfl,I.turned (t':=s.toks) (fun b o hb e=>eb b o hb e) f0 f1 f3 f4 f5⟩
 self:=fun _ _ _ _ _ st h=>wpAny_pyIter_listiter st h
theorem nM {P:Program}{w:World}{K:PySem.W.Frag}{tg:Expr}(it:Addr)(lo:Int)(n:Nat):Turn P w K tg (Itr lo n) [it] it (fun i h=>IsRangeIter h it (lo+(i:Nat)*1) ((n:Int)-(i:Nat)) 1) where
 mem:=by simp
 obj:=fun i h st b hb=>by
  have e:b=it:=by simpa using hb
  subst e
  exact⟨_,st,fun v z=>by
   have z':Data.fields _=Data.cell v:=z
   cases z'⟩
 keep:=fun i h h' st k=>k it (by simp) _ st
 item:=by
  intro X hP hw hK hc i pins s σ H E I hf st hg
  subst hP hw hK
  obtain⟨f0,f1,f2,f3,f4,f5⟩:=hf it (by simp)
  have W:=Walks.range (prog:=X.prog) (w:=X.w) (I.ok.hd hc) it lo 1 n
  refine W.item i s _ _ hg st fun v h' tk hv st' kk=>?_
  obtain⟨t,rfl⟩:=hv
  have I1:Inv X pins σ H {s with heap:=h',toks:=tk}:=I.turned (fun b o hb e=>kk b o (by simpa using hb) e) f0 f1 f3 f4 f5
  refine⟨_,rfl,ku (s:={s with heap:=h',toks:=tk}) (n:="range_iterator") st' rfl rfl (by decide) ⟨.int (lo+i),H,I1,⟨t,?_⟩,⟨rfl,rfl⟩,st',fun b hb=>(hf b hb).1⟩⟩
  rw[Int.mul_one]
 done:=by
  intro X hP hw hK hc i pins s σ H E I hf st hg
  subst hP hw hK
  obtain⟨f0,f1,f2,f3,f4,f5⟩:=hf it (by simp)
  exact wpAny_pyNext_range_end (I.ok.hd hc) st (by have:n≤i:=hg;omega) fun h' eb=>⟨rfl,I.turned (t':=s.toks) (fun b o hb e=>eb b o hb e) f0 f1 f3 f4 f5⟩
 self:=fun _ _ _ _ _ st h=>wpAny_pyIter_rangeiter st h
section
variable {X:Cx}{tg:Expr}
def zg2 (K:PySem.W.Frag)(tl:TE):TI:=fun σ H R=>tl σ H fun x H1=>∃a,x=.ref a∧(∃xs,SqL K H1 a xs)∧R (Itl K a) H1
theorem ki {l:Expr}{tl:TE}(hl:PE X l tl):PI X tg l (zg2 X.K tl):=by
 intro pins s σ H R I h
 refine thn (hl pins s σ H _ I h) fun v s1 ⟨x,H1,I1,r1,q1⟩=>?_
 obtain⟨a,e,⟨xs,hq⟩,q⟩:=q1
 subst e
 cases r1
 obtain⟨its,rv,p,hz⟩:=I1.list hq
 refine wpAny_pyIter_list p.isList ?_
 refine⟨s1.heap.objs.size,[s1.heap.objs.size],_,_,H1,rfl,I1.kept (t':=s1.toks) fun b o e=>zp6 _ e,jy a _,⟨_,zr7 _ rfl,rfl,rfl⟩,fun b hb=>?_,q⟩
 have e:b=s1.heap.objs.size:=by simpa using hb
 subst e
 exact I1.fpOk (zp8 _) (I1.hok.fresh (zp8 _))
theorem oU {pins:List (Addr×Obj)}{σ:St}{H:Hp}{s:Shared}{R:It→Hp→Prop}{E:Value→Shared→Prop}{lo hi:Int}{t u v:Tok}{tk:Nat}(I:Inv X pins σ H s)(h1:-(2 ^ 62)≤lo)(h2:lo<2 ^ 62)(h3:-(2 ^ 62)≤hi)(h4:hi<2 ^ 62)
  (q:R (Itr lo (hi-lo).toNat) H):wpAny (model X.prog X.w) X.A (pyIter (.ref s.heap.objs.size)) (PIE X pins σ tg R) E {s with heap:=s.heap.push {cls:=.type "range",data:=.fields #[.int lo t,.int hi u,.int 1 v]},toks:=tk}:=by
 refine wpAny_pyIter_range (IsRange.new ..) (small_one h1 h2 h3 h4) ?_
 have I1:Inv X pins σ H {s with heap:=s.heap.push {cls:=.type "range",data:=.fields #[.int lo t,.int hi u,.int 1 v]},toks:=tk}:=I.kept fun b o e=>zp6 _ e
 refine⟨(s.heap.push {cls:=.type "range",data:=.fields #[.int lo t,.int hi u,.int 1 v]}).objs.size,[(s.heap.push {cls:=.type "range",data:=.fields #[.int lo t,.int hi u,.int 1 v]}).objs.size],_,_,H,rfl,
  I1.kept (t':=tk) fun b o e=>zp6 _ e,nM _ lo (hi-lo).toNat,?_,fun b hb=>?_,q⟩
 ·have e1:lo+((0:Nat):Int)*1=lo:=by simp
  have e2:(((hi-lo).toNat:Nat):Int)-((0:Nat):Int)=Builtin.Range.rangeSize lo hi 1:=by rw[rangeSize_one];split<;>omega
  show IsRangeIter _ _ (lo+((0:Nat):Int)*1) ((((hi-lo).toNat:Nat):Int)-((0:Nat):Int)) 1
  rw[e1,e2]
  exact zr7 _ rfl
 ·have e:b=(s.heap.push {cls:=.type "range",data:=.fields #[.int lo t,.int hi u,.int 1 v]}).objs.size:=by simpa using hb
  subst e
  exact I1.fpOk (zp8 _) (I1.hok.fresh (zp8 _))
def zi0 (ta:TA):TI:=fun σ H R=>ta σ H fun vs H1=>∃j:Int,vs=[.int j]∧-(2 ^ 62)≤j∧j<2 ^ 62∧R (Itr 0 j.toNat) H1
def zh4 (ta:TA):TI:=fun σ H R=>ta σ H fun vs H1=>∃i j:Int,vs=[.int i,.int j]∧(-(2 ^ 62)≤i∧i<2 ^ 62∧-(2 ^ 62)≤j∧j<2 ^ 62)∧R (Itr i (j-i).toNat) H1
theorem ic {a:Expr}{ta:TA}{p pos:Pos}(hg:Gl X "range")(hm:X.mg "range"=none)(ha:PA X [a] ta)(hs:starEach [a] X.env=[(false,eval a X.env)]:=by rfl):PI X tg (.Call (.Name "range" p) [a] [] pos) (zi0 ta):=by
 intro pins s σ H R I h
 refine Call_ (vk I hg hm boot_range (zu3 (thn (ha pos pins s σ H _ I h) fun us s1 ⟨vs,H1,I1,r1,q1⟩=>?_) hs rfl))
 obtain⟨j,e,q1,q2,q⟩:=q1
 subst e
 cases r1 with
 |cons r rr=>
  cases rr
  obtain⟨t,rfl⟩:=r
  exact call_range_1 (oU I1 (by omega) (by omega) q1 q2 (by simpa using q))
theorem jz {a b:Expr}{ta:TA}{p pos:Pos}(hg:Gl X "range")(hm:X.mg "range"=none)(ha:PA X [a,b] ta)(hs:starEach [a,b] X.env=[(false,eval a X.env),(false,eval b X.env)]:=by rfl)(hs2:starEach [b] X.env=[(false,eval b X.env)]:=by rfl):
  PI X tg (.Call (.Name "range" p) [a,b] [] pos) (zh4 ta):=by
 intro pins s σ H R I h
 refine Call_ (vk I hg hm boot_range (zu3 (thn (ha pos pins s σ H _ I h) fun us s1 ⟨vs,H1,I1,r1,q1⟩=>?_) (by rw[hs,hs2]) (by rw[hs2];rfl)))
 obtain⟨i,j,e,⟨q1,q2,q3,q4⟩,q⟩:=q1
 subst e
 cases r1 with
 |cons r rr=>
  cases rr with
  |cons r' rr=>
   cases rr
   obtain⟨t,rfl⟩:=r
   obtain⟨t',rfl⟩:=r'
   exact call_range_2 (oU I1 q1 q2 q3 q4 q)
def zn3 (wi:TI)(g:TG)(tb:TS):TS:=fun D σ H=>wi σ H fun J H1=>∃W:Nat→Nat→St→Hp→Prop,(∃m,W 0 m σ H1)∧∀i m σ H,W i m σ H→
 (J.stop i H∧D.nx σ H)∨(J.go i H∧∃N:St→Hp→Prop,(∀σ' H',N σ' H'→∃m',m'<m∧W (i+1) m' σ' H')∧∀x H',J.yld i H x H'→g x σ H' fun σ2 H2=>tb {D with nx:=N,ct:=N,bk:=D.nx} σ2 H2)
def tV (fp:List Addr)(h:Heap):List (Addr×Obj):=fp.filterMap fun b=>(h.get? b).map fun o=>(b,o)
theorem wz {fp:List Addr}{h:Heap}{b:Addr}{o:Obj}(hb:b∈fp)(e:h.get? b=some o):(b,o)∈tV fp h:=List.mem_filterMap.mpr ⟨b,hb,by rw[e];rfl⟩
theorem jH {fp:List Addr}{h:Heap}{p:Addr×Obj}(hp:p∈tV fp h):p.1∈fp∧h.get? p.1=some p.2:=by
 obtain⟨b,hb,e⟩:=List.mem_filterMap.mp hp
 cases q:h.get? b with
 |none=>rw[q] at e;cases e
 |some o=>
  rw[q] at e
  have e':(b,o)=p:=zs7 e
  subst e'
  exact⟨hb,q⟩
theorem Inv.pinned {pins:List (Addr×Obj)}{σ:St}{H:Hp}{s:Shared}{fp:List Addr}(I:Inv X pins σ H s)(hf:∀b∈fp,uO X pins H b)(ho:∀b∈fp,∃o,s.heap.get? b=some o∧∀v,o.data≠.cell v):Inv X (pins++tV fp s.heap) σ H s:=
 I.pins_of fun p hp=>(zs6.mp hp).elim (fun z=>I.pin p (zs0 _ z)) fun z=>by
  obtain⟨hb,e⟩:=jH z
  obtain⟨f0,f1,f2,_⟩:=hf p.1 hb
  obtain⟨o,e',d⟩:=ho p.1 hb
  rw[e] at e';cases e'
  exact⟨e,f0,f1,f2,d⟩
theorem Inv.unpinned {pins pl:List (Addr×Obj)}{σ:St}{H:Hp}{s:Shared}(I:Inv X (pins++pl) σ H s):Inv X pins σ H s:=I.pins_of fun p hp=>I.pin p (zs0 _ (zw0 _ hp))
theorem eO {iter:Expr}{body:List Stmt}{wi:TI}{g:TG}{tb:TS}{pos:Pos}(hp:PassesOwn (model X.prog X.w) X.A X.env X.xe)(hc:X.calm=true)(hi:PI X tg iter wi)(hg:PG X tg g)(hb:PSs X body tb)
  (hs:∀x,foldedSetIterable iter X.env x=pure x:=by intro _;rfl):PS X (.For tg iter body [] pos) (zn3 wi g tb):=by
 intro pins s σ H D I h
 refine wpAny_For (thn (hi pins s σ H _ I h) fun v s1 h1=>thn h1 fun itv s2 h2=>?_) hs
 obtain⟨it,fp,tn,J,H2,e,I2,T,st2,f2,W,⟨m0,w0⟩,turn⟩:=h2
 subst e
 -- what stays true of the iterator's objects through the loop
 have stat:∀{H':Hp},(∀b∈fp,H' b=none)→∀b∈fp,uO X pins H' b:=fun hn b hb=>⟨hn b hb,(f2 b hb).2⟩
 refine codeAny_forLoop_any (fun n s'=>∃i σ' H',Inv X pins σ' H' s'∧tn i s'.heap∧(∀b∈fp,H' b=none)∧W i n σ' H') ?_ m0 ⟨0,σ,H2,I2,st2,fun b hb=>(f2 b hb).1,w0⟩
 rintro n s3 ⟨i,σ3,H3,I3,st3,fr3,w3⟩
 rcases turn i n σ3 H3 w3 with ⟨stop,qn⟩|⟨go,N,hN,step⟩
 ·refine zy9 hp (thn (T.done X rfl rfl rfl hc i pins s3 σ3 H3 X.xe I3 (stat fr3) st3 stop) fun r s4 ⟨hr,I4⟩=>?_)
  subst hr
  exact zA2 ⟨σ3,H3,I4,qn⟩
 ·refine zy9 hp (thn (T.item X rfl rfl rfl hc i pins s3 σ3 H3 X.xe I3 (stat fr3) st3 go) fun r s4 ⟨u,hr,h4⟩=>?_)
  subst hr
  refine zy9 hp (thn h4 fun _ s5 ⟨x,H5,I5,r5,y5,st5,fr5⟩=>?_)
  have I5':=I5.pinned (stat fr5) (T.obj _ _ st5)
  refine zy9 hp (thn (hg _ s5 σ3 H5 x u _ I5' r5 (step x H5 y5)) fun _ s6 ⟨σ6,H6,I6,q6⟩=>?_)
  refine zy9 hp (thn (hb _ s6 σ6 H6 _ I6 q6) fun f s7 q7=>?_)
  have again:∀{σ7:St} {H7:Hp},Inv X (pins++tV fp s5.heap) σ7 H7 s7→N σ7 H7→∃m,m<n∧∃i σ' H',Inv X pins σ' H' s7∧tn i s7.heap∧(∀b∈fp,H' b=none)∧W i m σ' H':=fun {σ7 H7} I7 n7=>by
   obtain⟨m',hm,w7⟩:=hN σ7 H7 n7
   refine⟨m',hm,i+1,σ7,H7,I7.unpinned,T.keep _ _ _ st5 fun b hb o e=>(I7.pin (b,o) (zs0 _ (zs0 _ (wz hb e)))).1,fun b hb=>?_,w7⟩
   obtain⟨o,e,d⟩:=T.obj _ _ st5 b hb
   exact (I7.pin (b,o) (zs0 _ (zs0 _ (wz hb e)))).2.1
  cases f with
  |next=>obtain⟨σ7,H7,I7,n7⟩:=q7;exact again I7 n7
  |cont=>obtain⟨σ7,H7,I7,n7⟩:=q7;exact again I7 n7
  |brk=>obtain⟨σ7,H7,I7,q7⟩:=q7;exact⟨σ7,H7,I7.unpinned,q7⟩
  |ret v=>obtain⟨x7,σ7,H7,I7,r7,q7⟩:=q7;exact⟨x7,σ7,H7,I7.unpinned,r7,q7⟩
end
abbrev R2 :=V→V→Hp→VK→Prop
def OpR (X:Cx)(f:Value→Value→Sem Value)(r:R2):Prop:=
 ∀(pins:List (Addr×Obj)) (s:Shared) (σ:St) (H:Hp) (x y:V) (v u:Value) (Q:VK),Inv X pins σ H s→RelV x v→RelV y u→r x y H Q→
  wpAny (model X.prog X.w) X.A (f v u) (EP X pins σ Q) X.xe s
def UnR (X:Cx)(f:Value→Sem Value)(r:V→Hp→VK→Prop):Prop:=
 ∀(pins:List (Addr×Obj)) (s:Shared) (σ:St) (H:Hp) (x:V) (v:Value) (Q:VK),Inv X pins σ H s→RelV x v→r x H Q→
  wpAny (model X.prog X.w) X.A (f v) (EP X pins σ Q) X.xe s
def xQ (X:Cx)(f:Value)(r:List V→Hp→VK→Prop):Prop:=
 ∀(pins:List (Addr×Obj)) (s:Shared) (σ:St) (H:Hp) (xs:List V) (us:List Value) (Q:VK),Inv X pins σ H s→Vals xs us→r xs H Q→
  wpAny (model X.prog X.w) X.A (call f us) (EP X pins σ Q) X.xe s
def zo8 (X:Cx)(r:V→Hp→(Bool→Hp→Prop)→Prop):Prop:=
 ∀(pins:List (Addr×Obj)) (s:Shared) (σ:St) (H:Hp) (x:V) (v:Value) (Q:Bool→Hp→Prop),Inv X pins σ H s→RelV x v→r x H Q→
  wpAny (model X.prog X.w) X.A (truthy v) (TP X pins σ Q) X.xe s
def tOp (r:R2)(ta tb:TE):TE:=fun σ H Q=>ta σ H fun x H1=>tb σ H1 fun y H2=>r x y H2 Q
def tUn (r:V→Hp→VK→Prop)(ta:TE):TE:=fun σ H Q=>ta σ H fun x H1=>r x H1 Q
def rI (C:Int→Int→Prop)(g:Int→Int→V):R2:=fun x y H Q=>∃i j,x=.int i∧y=.int j∧C i j∧Q (g i j) H
def rI0 (g:Int→Int→V):R2:=fun x y H Q=>∃i j,x=.int i∧y=.int j∧Q (g i j) H
def rU (g:Int→V):V→Hp→VK→Prop:=fun x H Q=>∃i,x=.int i∧Q (g i) H
section
variable {X:Cx}{a b c:Expr}{ta tb tc:TE}{pos:Pos}
theorem zb1 (ha:PE X a ta)(hb:PE X b tb){pins:List (Addr×Obj)}{s:Shared}{σ:St}{H:Hp}{R:V→V→Hp→Prop}(I:Inv X pins σ H s)
  (h:ta σ H fun x H1=>tb σ H1 fun y H2=>R x y H2) {Q:Value→Shared→Prop} {f:Value→Value→Sem Value}
  (hf:∀v u s2 x y H2,Inv X pins σ H2 s2→RelV x v→RelV y u→R x y H2→wpAny (model X.prog X.w) X.A (f v u) Q X.xe s2):
  wpAny (model X.prog X.w) X.A (eval a X.env) (fun v s₁=>wpAny (model X.prog X.w) X.A (eval b X.env) (fun u s₂=>wpAny (model X.prog X.w) X.A (f v u) Q X.xe s₂) X.xe s₁) X.xe s:=by
 refine thn (ha pins s σ H _ I h) fun v s1 ⟨x,H1,I1,r1,q1⟩=>?_
 refine thn (hb pins s1 σ H1 _ I1 q1) fun u s2 ⟨y,H2,I2,r2,q2⟩=>?_
 exact hf v u s2 x y H2 I2 r1 r2 q2
theorem xl {op:Operator}{r:R2}(ho:OpR X (binaryOp op) r)(ha:PE X a ta)(hb:PE X b tb):PE X (.BinOp a op b pos) (tOp r ta tb):=by
 intro pins s σ H Q I h
 exact wpAny_BinOp (zb1 ha hb I h fun v u s2 x y H2 I2 rx ry q=>ho pins s2 σ H2 x y v u Q I2 rx ry q)
theorem zj3 {op:UnaryOp}{r:V→Hp→VK→Prop}(ho:UnR X (unaryOp op) r)(ha:PE X a ta):PE X (.UnaryOp op a pos) (tUn r ta):=by
 intro pins s σ H Q I h
 exact UnaryOp_ (thn (ha pins s σ H _ I h) fun v s1 ⟨x,H1,I1,r1,q1⟩=>ho pins s1 σ H1 x v Q I1 r1 q1)
theorem opI {f:Value→Value→Sem Value}{C:Int→Int→Prop}{g:Int→Int→Int}
  (rule:∀(i j:Int) (t u:Tok) (s:Shared) (Q:Value→Shared→Prop) (E:Value→Shared→Prop),C i j→Q (.int (g i j) s.toks) {s with toks:=s.toks+1}→wpAny (model X.prog X.w) X.A (f (.int i t) (.int j u)) Q E s):
  OpR X f (rI C fun i j=>.int (g i j)):=by
 intro pins s σ H x y v u Q I rx ry h
 obtain⟨i,j,rfl,rfl,hc,q⟩:=h
 obtain⟨t,rfl⟩:=rx
 obtain⟨t',rfl⟩:=ry
 exact rule i j t t' s _ _ hc ⟨.int (g i j),H,I.tok _,⟨_,rfl⟩,q⟩
theorem zl4 {f:Value→Value→Sem Value}{g:Int→Int→Int}
  (rule:∀(i j:Int) (t u:Tok) (s:Shared) (Q:Value→Shared→Prop) (E:Value→Shared→Prop),Q (.int (g i j) s.toks) {s with toks:=s.toks+1}→wpAny (model X.prog X.w) X.A (f (.int i t) (.int j u)) Q E s):
  OpR X f (rI0 fun i j=>.int (g i j)):=by
 intro pins s σ H x y v u Q I rx ry h
 obtain⟨i,j,rfl,rfl,q⟩:=h
 obtain⟨t,rfl⟩:=rx
 obtain⟨t',rfl⟩:=ry
 exact rule i j t t' s _ _ ⟨.int (g i j),H,I.tok _,⟨_,rfl⟩,q⟩
theorem cZ {f:Value→Value→Sem Value}{g:Int→Int→Bool}
  (rule:∀(i j:Int) (t u:Tok) (s:Shared) (Q:Value→Shared→Prop) (E:Value→Shared→Prop),Q (.bool (g i j)) s→wpAny (model X.prog X.w) X.A (f (.int i t) (.int j u)) Q E s):
  OpR X f (rI0 fun i j=>.bl (g i j)):=by
 intro pins s σ H x y v u Q I rx ry h
 obtain⟨i,j,rfl,rfl,q⟩:=h
 obtain⟨t,rfl⟩:=rx
 obtain⟨t',rfl⟩:=ry
 exact rule i j t t' s _ _ ⟨.bl (g i j),H,I,rfl,q⟩
def za7 (i j:Int):Prop:=0≤j∧j≤1000000∧i.natAbs<2 ^ 64
def cb (i j:Int):Prop:=(-(2 ^ 64)<i∧i<2 ^ 64)∨(-(2 ^ 64)<j∧j<2 ^ 64)
theorem cb.ok {i j:Int}(h:cb i j):IntMulOk i j:=by
 rcases h with ⟨h1,h2⟩|⟨h1,h2⟩
 ·exact .of_left (intBits_le_64 h1 h2)
 ·exact .of_right (intBits_le_64 h1 h2)
theorem qD :OpR X (binaryOp .Add) (rI0 fun i j=>.int (i+j)):=zl4 fun _ _ _ _ _ _ _ q=>add_int q
theorem iN :OpR X (binaryOp .Sub) (rI0 fun i j=>.int (i-j)):=zl4 fun _ _ _ _ _ _ _ q=>sub_int q
theorem pJ :OpR X (binaryOp .Mult) (rI cb fun i j=>.int (i*j)):=opI fun _ _ _ _ _ _ _ hc q=>mul_int q hc.ok
theorem sy :OpR X (binaryOp .Mod) (rI (fun _ j=>0<j) fun i j=>.int (i % j)):=opI fun i j _ _ _ _ _ hc q=>by
 have h1:(0:Int)<j:=hc
 exact mod_int' (by omega) (by rw[Int.fmod_eq_emod_of_nonneg i (by omega)];exact q)
theorem aY :OpR X (binaryOp .Pow) (rI za7 fun i j=>.int (i ^ j.toNat)):=opI fun _ _ _ _ _ _ _ hc q=>pow_int_small hc.1 hc.2.1 hc.2.2 q
theorem unI {f:Value→Sem Value}{g:Int→Int}
  (rule:∀(i:Int) (t:Tok) (s:Shared) (Q:Value→Shared→Prop) (E:Value→Shared→Prop),Q (.int (g i) s.toks) {s with toks:=s.toks+1}→wpAny (model X.prog X.w) X.A (f (.int i t)) Q E s):
  UnR X f (rU fun i=>.int (g i)):=by
 intro pins s σ H x v Q I rx h
 obtain⟨i,rfl,q⟩:=h
 obtain⟨t,rfl⟩:=rx
 exact rule i t s _ _ ⟨.int (g i),H,I.tok _,⟨_,rfl⟩,q⟩
theorem za9 :UnR X (unaryOp .USub) (rU fun i=>.int (-i)):=unI fun _ _ _ _ _ q=>neg_int q
end
def zl1 :V→V→Bool
 |.non,.non=>true|.non,.int _=>true|.int _,.non=>true|.non,.bl _=>true|.bl _,.non=>true|.non,.str _=>true|.str _,.non=>true
 |.int _,.int _=>true|.bl _,.bl _=>true|.str _,.str _=>true|.byt _,.byt _=>true
 |.int _,.str _=>true|.str _,.int _=>true|.bl _,.str _=>true|.str _,.bl _=>true
 |_,_=>false
def rEq :R2:=fun x y H Q=>zl1 x y=true∧Q (.bl (decide (x=y))) H
def rNe :R2:=fun x y H Q=>zl1 x y=true∧Q (.bl (!decide (x=y))) H
theorem kF {i j:Int}:decide (V.int i=V.int j)=(i == j):=by
 rw[zw1]
 simp
theorem di {i j:Bool}:decide (V.bl i=V.bl j)=(i == j):=by
 rw[zw1]
 simp
theorem km {i j:Str}:decide (V.str i=V.str j)=(i == j):=by
 rw[zw1]
 simp
theorem lF {i j:Array UInt8}:decide (V.byt i=V.byt j)=(i.toList == j.toList):=by
 rw[zw1]
 cases i
 cases j
 simp
section
variable {X:Cx}{a b c:Expr}{ta tb tc:TE}{pos:Pos}
theorem zF {pins:List (Addr×Obj)}{σ:St}{H:Hp}{s:Shared}{Q:VK}{k k':Bool}(I:Inv X pins σ H s)(q:Q (.bl k) H)(e:k=k'):EP X pins σ Q (.bool k') s:=by
 subst e
 exact⟨.bl k,H,I,rfl,q⟩
theorem wR :OpR X (compareOp .Eq) rEq:=by
 intro pins s σ H x y v u Q I rx ry h
 obtain⟨hs,q⟩:=h
 cases x with
 |non=>
  cases rx
  cases y with
  |non=>cases ry;exact PySem.EqNone.eq_none_none (zF I q (by simp))
  |bl j=>cases ry;exact PySem.EqNone.eq_none_bool (zF I q (by simp))
  |int j=>obtain⟨t',rfl⟩:=ry;exact PySem.EqNone.eq_none_int (zF I q (by simp))
  |str j=>obtain⟨t',rfl⟩:=ry;exact PySem.EqNone.eq_none_str (zF I q (by simp))
  |_=>exact absurd (show false=true from hs) zq2
 |bl i=>
  cases rx
  cases y with
  |non=>cases ry;exact PySem.EqNone.eq_bool_none (zF I q (by simp))
  |bl j=>cases ry;exact eq_bool (zF I q di)
  |str j=>obtain⟨t',rfl⟩:=ry;exact PySem.EqMixed.eq_bool_str (zF I q (by simp))
  |_=>exact absurd (show false=true from hs) zq2
 |int i=>
  obtain⟨t,rfl⟩:=rx
  cases y with
  |non=>cases ry;exact PySem.EqNone.eq_int_none (zF I q (by simp))
  |int j=>obtain⟨t',rfl⟩:=ry;exact eq_int (zF I q kF)
  |str j=>obtain⟨t',rfl⟩:=ry;exact PySem.EqMixed.eq_int_str (zF I q (by simp))
  |_=>exact absurd (show false=true from hs) zq2
 |str i=>
  obtain⟨t,rfl⟩:=rx
  cases y with
  |non=>cases ry;exact PySem.EqNone.eq_str_none (zF I q (by simp))
  |bl j=>cases ry;exact PySem.EqMixed.eq_str_bool (zF I q (by simp))
  |int j=>obtain⟨t',rfl⟩:=ry;exact PySem.EqMixed.eq_str_int (zF I q (by simp))
  |str j=>obtain⟨t',rfl⟩:=ry;exact eq_str (zF I q km)
  |_=>exact absurd (show false=true from hs) zq2
 |byt i=>
  obtain⟨t,rfl⟩:=rx
  cases y with
  |byt j=>obtain⟨t',rfl⟩:=ry;exact PySem.W.eq_bytes (zF I q lF)
  |_=>exact absurd (show false=true from hs) zq2
 |_=>cases y<;>exact absurd (show false=true from hs) zq2
theorem zg5 :OpR X (compareOp .NotEq) rNe:=by
 intro pins s σ H x y v u Q I rx ry h
 obtain⟨hs,q⟩:=h
 cases x with
 |non=>
  cases rx
  cases y with
  |non=>cases ry;exact PySem.EqNone.ne_none_none (zF I q (by simp))
  |bl j=>cases ry;exact PySem.EqNone.ne_none_bool (zF I q (by simp))
  |int j=>obtain⟨t',rfl⟩:=ry;exact PySem.EqNone.ne_none_int (zF I q (by simp))
  |str j=>obtain⟨t',rfl⟩:=ry;exact PySem.EqNone.ne_none_str (zF I q (by simp))
  |_=>exact absurd (show false=true from hs) zq2
 |bl i=>
  cases rx
  cases y with
  |non=>cases ry;exact PySem.EqNone.ne_bool_none (zF I q (by simp))
  |bl j=>cases ry;exact ne_bool (zF I q (congrArg not di))
  |str j=>obtain⟨t',rfl⟩:=ry;exact PySem.EqMixed.ne_bool_str (zF I q (by simp))
  |_=>exact absurd (show false=true from hs) zq2
 |int i=>
  obtain⟨t,rfl⟩:=rx
  cases y with
  |non=>cases ry;exact PySem.EqNone.ne_int_none (zF I q (by simp))
  |int j=>obtain⟨t',rfl⟩:=ry;exact ne_int (zF I q (congrArg not kF))
  |str j=>obtain⟨t',rfl⟩:=ry;exact PySem.EqMixed.ne_int_str (zF I q (by simp))
  |_=>exact absurd (show false=true from hs) zq2
 |str i=>
  obtain⟨t,rfl⟩:=rx
  cases y with
  |non=>cases ry;exact PySem.EqNone.ne_str_none (zF I q (by simp))
  |bl j=>cases ry;exact PySem.EqMixed.ne_str_bool (zF I q (by simp))
  |int j=>obtain⟨t',rfl⟩:=ry;exact PySem.EqMixed.ne_str_int (zF I q (by simp))
  |str j=>obtain⟨t',rfl⟩:=ry;exact ne_str (zF I q (congrArg not km))
  |_=>exact absurd (show false=true from hs) zq2
 |byt i=>
  obtain⟨t,rfl⟩:=rx
  cases y with
  |byt j=>obtain⟨t',rfl⟩:=ry;exact PySem.W.ne_bytes (zF I q (congrArg not lF))
  |_=>exact absurd (show false=true from hs) zq2
 |_=>cases y<;>exact absurd (show false=true from hs) zq2
theorem zh1 :OpR X (compareOp .Lt) (rI0 fun i j=>.bl (decide (i<j))):=cZ fun _ _ _ _ _ _ _ q=>lt_int q
theorem uV :OpR X (compareOp .LtE) (rI0 fun i j=>.bl (decide (i≤j))):=cZ fun _ _ _ _ _ _ _ q=>le_int q
theorem ar :OpR X (compareOp .Gt) (rI0 fun i j=>.bl (decide (j<i))):=cZ fun _ _ _ _ _ _ _ q=>gt_int q
theorem zk3 :OpR X (compareOp .GtE) (rI0 fun i j=>.bl (decide (j≤i))):=cZ fun _ _ _ _ _ _ _ q=>ge_int q
theorem mQ :OpR X (compareOp .Is) (fun x y H Q=>y=.non∧Q (.bl (decide (x=.non))) H):=by
 intro pins s σ H x y v u Q I rx ry h
 obtain⟨rfl,q⟩:=h
 cases ry
 refine is_none_gen (zF I q ?_)
 cases x<;>first
  |(cases rx;rfl)
  |(obtain⟨t,rfl⟩:=rx;rfl)
theorem zK (b:Expr){op:CmpOp}(h:op≠.In:=by decide)(h2:op≠.NotIn:=by decide):behindInMarks op b=false:=by
 have e1:(op == CmpOp.In)=false:=by cases op<;>first|rfl|exact absurd rfl h
 have e2:(op == CmpOp.NotIn)=false:=by cases op<;>first|rfl|exact absurd rfl h2
 cases b<;>simp[behindInMarks,e1,e2]
theorem xU {op:CmpOp}{r:R2}(ho:OpR X (compareOp op) r)(ha:PE X a ta)(hb:PE X b tb)(hm:behindInMarks op b=false):PE X (.Compare a [op] [b] pos) (tOp r ta tb):=by
 intro pins s σ H Q I h
 exact wpAny_Compare1 (zb1 ha hb I h fun v u s2 x y H2 I2 rx ry q=>ho pins s2 σ H2 x y v u Q I2 rx ry q) hm
def aJ (t:TE):TT:=fun σ H Q=>t σ H fun x H'=>∃k,x=.bl k∧Q k H'
theorem yu {op:CmpOp}{r:R2}(ho:OpR X (compareOp op) r)(ha:PE X a ta)(hb:PE X b tb)(hm:behindInMarks op b=false):PT X (.Compare a [op] [b] pos) (aJ (tOp r ta tb)):=by
 intro pins s σ H Q I h
 refine wpAny_isTrue_Compare1 (thn (ha pins s σ H _ I h) fun v s1 ⟨x,H1,I1,r1,q1⟩=>thn (hb pins s1 σ H1 _ I1 q1) fun u s2 ⟨y,H2,I2,r2,q2⟩=>
  thn (ho pins s2 σ H2 x y v u _ I2 r1 r2 q2) fun c s3 ⟨z,H3,I3,r3,k,e,q3⟩=>?_) hm
 subst e
 cases r3
 exact zt7 ⟨H3,I3,q3⟩
def fF (r r':R2)(ta tb tc:TE):TE:=fun σ H Q=>ta σ H fun x H1=>tb σ H1 fun y H2=>r x y H2 fun z H3=>∃k,z=.bl k∧
 (if k=true then tc σ H3 fun w' H4=>r' y w' H4 Q else Q (.bl false) H3)
theorem nv {op op':CmpOp}{r r':R2}(ho:OpR X (compareOp op) r)(ho':OpR X (compareOp op') r')(ha:PE X a ta)(hb:PE X b tb)(hc:PE X c tc)
  (hm:lastMarks [op,op'] [b,c]=false:=by with_unfolding_all rfl):PE X (.Compare a [op,op'] [b,c] pos) (fF r r' ta tb tc):=by
 intro pins s σ H Q I h
 refine Compare_chain (thn (ha pins s σ H _ I h) fun v s1 ⟨x,H1,I1,r1,q1⟩=>chain_link (thn (hb pins s1 σ H1 _ I1 q1) fun u s2 ⟨y,H2,I2,r2,q2⟩=>
  thn (ho pins s2 σ H2 x y v u _ I2 r1 r2 q2) fun d s3 ⟨z,H3,I3,r3,k,e,q3⟩=>?_)) hm
 subst e
 cases r3
 refine zt7 ?_
 cases k with
 |false=>exact ite_ff ⟨.bl false,H3,I3,rfl,q3⟩
 |true=>exact ite_tt (chain_last (thn (hc pins s3 σ H3 _ I3 q3) fun w' s4 ⟨z',H4,I4,r4,q4⟩=>ho' pins s4 σ H4 y z' u w' Q I4 r2 r4 q4))
theorem iX {op op':CmpOp}{r r':R2}(ho:OpR X (compareOp op) r)(ho':OpR X (compareOp op') r')(ha:PE X a ta)(hb:PE X b tb)(hc:PE X c tc)
  (hm:lastMarks [op,op'] [b,c]=false:=by with_unfolding_all rfl):PT X (.Compare a [op,op'] [b,c] pos) (aJ (fF r r' ta tb tc)):=by
 intro pins s σ H Q I h
 refine isTrue_chain (thn (ha pins s σ H _ I h) fun v s1 ⟨x,H1,I1,r1,q1⟩=>test_link (thn (hb pins s1 σ H1 _ I1 q1) fun u s2 ⟨y,H2,I2,r2,q2⟩=>
  thn (ho pins s2 σ H2 x y v u _ I2 r1 r2 q2) fun d s3 ⟨z,H3,I3,r3,k,e,q3⟩=>?_)) hm
 subst e
 cases r3
 refine zt7 ?_
 cases k with
 |false=>
  obtain⟨k',e',q'⟩:=q3
  cases e'
  exact ite_ff ⟨H3,I3,q'⟩
 |true=>
  refine ite_tt (test_last (thn (hc pins s3 σ H3 _ I3 q3) fun w' s4 ⟨z',H4,I4,r4,q4⟩=>thn (ho' pins s4 σ H4 y z' u w' _ I4 r2 r4 q4) fun d' s5 ⟨z2,H5,I5,r5,k2,e2,q5⟩=>?_))
  subst e2
  cases r5
  exact zt7 ⟨H5,I5,q5⟩
def zg8 (K:PySem.W.Frag)(x:V)(H:Hp)(k:Bool):Prop:=
 match x with
 |.non=>k=false
 |.bl b=>k=b
 |.int i=>k=(i != 0)
 |.str y=>y.length≤sizeLine∧k=((y.length:Int) != 0)
 |.byt y=>y.size≤sizeLine∧k=((y.size:Int) != 0)
 |.ref p=>(∃xs,SqL K H p xs∧k=!xs.isEmpty)∨(∃xs,SqT K H p xs∧k=!xs.isEmpty)∨∃kvs,H p=some (.dK kvs)∧k=!kvs.isEmpty
 |_=>False
theorem mn {κ:Type}{kvs:List (κ×V)}{vs:List (κ×Value)}(r:KV kvs vs):(!vs.isEmpty)=!kvs.isEmpty:=by
 cases r<;>rfl
theorem rh {xs:List V}{its:List Value}(r:Vals xs its):(!its.toArray.isEmpty)=!xs.isEmpty:=by
 cases r<;>simp
theorem uL :(sizeLine:Nat)<2 ^ 63:=by rw[sizeLine_eq];decide
theorem ze4 :zo8 X (fun x H Q=>∃k,zg8 X.K x H k∧Q k H):=by
 intro pins s σ H x v Q I rx h
 obtain⟨k,e,q⟩:=h
 have hl:=uL
 have hs:sizeLine=16777216:=sizeLine_eq
 cases x with
 |non=>
  cases rx
  have e':k=false:=e
  subst e'
  exact truthy_none ⟨H,I,q⟩
 |bl b=>
  cases rx
  have e':k=b:=e
  subst e'
  exact zt7 ⟨H,I,q⟩
 |int i=>
  obtain⟨t,rfl⟩:=rx
  have e':k=(i != 0):=e
  subst e'
  exact PySem.P.truthy_int ⟨H,I,q⟩
 |str y=>
  obtain⟨t,rfl⟩:=rx
  obtain⟨hy,e'⟩:y.length≤sizeLine∧k=((y.length:Int) != 0):=e
  subst e'
  exact PySem.P.truthy_str (by omega) ⟨H,I.tok _,q⟩
 |byt y=>
  obtain⟨t,rfl⟩:=rx
  obtain⟨hy,e'⟩:y.size≤sizeLine∧k=((y.size:Int) != 0):=e
  subst e'
  exact PySem.W.truthy_bytes (by omega) ⟨H,I.tok _,q⟩
 |ref p=>
  cases rx
  have e':(∃xs,SqL X.K H p xs∧k=!xs.isEmpty)∨(∃xs,SqT X.K H p xs∧k=!xs.isEmpty)∨∃kvs,H p=some (.dK kvs)∧k=!kvs.isEmpty:=e
  rcases e' with ⟨xs,hx,e'⟩|⟨xs,hx,e'⟩|⟨kvs,hx,e'⟩
  ·subst e'
   obtain⟨its,r,pl,hz⟩:=I.list hx
   have hlen:=r.length
   exact wpAny_truthy_list pl.isList (by simp only[zq6];omega) ⟨H,I.tok _,by rw[rh r];exact q⟩
  ·subst e'
   obtain⟨its,r,pl,hz⟩:=I.tuple hx
   have hlen:=r.length
   exact truthy_tuple pl (by simp only[zq6];omega) ⟨H,I.tok _,by rw[rh r];exact q⟩
  ·subst e'
   obtain⟨hz,hS,vs,r,m⟩:kvs.length≤sizeLine∧(p == sysModules)=false∧∃vs,KV kvs vs∧s.heap.DictOf (yB X.prog X.w) p vs:=I.hok p _ hx
   have hlen:kvs.length=vs.length:=Paired.length r
   exact wpAny_truthy_dict hS m (by omega) ⟨H,I.tok _,by rw[mn r];exact q⟩
 |_=>exact (show False from e).elim
theorem iC (ha:PE X a ta)(he:∀whole,isTrue a X.env whole=(do let v ←whole;standAt a.pos;holding [v] (truthy v))):
  PT X a (fun σ H Q=>ta σ H fun x H'=>∃k,zg8 X.K x H' k∧Q k H'):=by
 intro pins s σ H Q I h
 exact isTrue_plain (thn (ha pins s σ H _ I h) fun v s1 ⟨x,H1,I1,r1,q1⟩=>ze4 pins s1 σ H1 x v Q I1 r1 q1) (he _)
theorem vals1 {x:V}{us:List Value}(r:Vals [x] us):∃u,us=[u]∧RelV x u:=by
 cases r with
 |cons r1 r2=>cases r2;exact⟨_,rfl,r1⟩
theorem vals2 {x y:V}{us:List Value}(r:Vals [x,y] us):∃u w',us=[u,w']∧RelV x u∧RelV y w':=by
 cases r with
 |cons r1 r2=>
  cases r2 with
  |cons r3 r4=>cases r4;exact⟨_,_,rfl,r1,r3⟩
theorem jJ (hc:X.calm=true):xQ X (.builtin "max") (fun xs H Q=>∃i j,xs=[.int i,.int j]∧Q (.int (if j > i then j else i)) H):=by
 intro pins s σ H xs us Q I r h
 obtain⟨i,j,rfl,q⟩:=h
 obtain⟨u,w',rfl,⟨t,rfl⟩,⟨t',rfl⟩⟩:=vals2 r
 refine max_two_ints (I.ok.hd hc) fun h' tk k=>⟨_,H,I.kept k,?_,q⟩
 by_cases hj:j > i
 ·rw[if_pos hj,if_pos hj];exact⟨_,rfl⟩
 ·rw[if_neg hj,if_neg hj];exact⟨_,rfl⟩
theorem jR (hc:X.calm=true):xQ X (.builtin "min") (fun xs H Q=>∃i j,xs=[.int i,.int j]∧Q (.int (if j<i then j else i)) H):=by
 intro pins s σ H xs us Q I r h
 obtain⟨i,j,rfl,q⟩:=h
 obtain⟨u,w',rfl,⟨t,rfl⟩,⟨t',rfl⟩⟩:=vals2 r
 refine min_two_ints (I.ok.hd hc) fun h' tk k=>⟨_,H,I.kept k,?_,q⟩
 by_cases hj:j<i
 ·rw[if_pos hj,if_pos hj];exact⟨_,rfl⟩
 ·rw[if_neg hj,if_neg hj];exact⟨_,rfl⟩
end
structure mE (h:Heap)(x dx C:Addr)(mA:Str→Option Value):Prop where
 obj:h.get? x=some (PySem.W.instObj C dx)
 ns:h.Ns1 dx mA
 ne:dx≠x
theorem kZ {h:Heap}{dx:Addr}{mA:Str→Option Value}(n:h.Ns1 dx mA):∃od,h.get? dx=some od∧∀name,PySem.W.lookIn name od=some (mA name):=by
 obtain⟨o,es,ep,ho,hd,hk,_,hm⟩:=n
 refine⟨o,ho,fun name=>?_⟩
 have e:=hm name
 unfold nsFind findBy at e
 rw[←Array.find?_toList] at e
 unfold PySem.W.lookIn
 rw[hd]
 dsimp only
 split
 ·rename_i y q
  rw[q] at e
  exact congrArg some e
 ·rename_i q
  rw[q] at e
  have a:es.toList.any (·.refKey)=false:=by
   rw[List.any_eq_false]
   intro y hy
   obtain⟨z,t,hkey⟩:=hk y (Array.mem_toList_iff.mp hy)
   simp[DictEntry.refKey,hkey]
  have a':¬es.toList.any (·.refKey)=true:=by rw[a];exact zq2
  rw[if_neg a']
  exact congrArg some e
theorem mE.look {h:Heap}{x dx C:Addr}{mA:Str→Option Value}(I:mE h x dx C mA):∃od,PySem.W.InstAt h x (PySem.W.instObj C dx) C (some od)∧∀name,PySem.W.lookIn name od=some (mA name):=
 let ⟨od,ho,hl⟩:=kZ I.ns
 ⟨od,⟨I.obj,rfl,rfl,ho⟩,hl⟩
section
variable {prog:Program}{w:World}{A:Around}{E:Value→Shared→Prop}{s:Shared}{K:PySem.W.Frag}{x dx C f:Addr}{mA:Str→Option Value}{name:Str}{v:Value}
theorem get_map {expr:Bool}{Q:Value→Shared→Prop}(X:K.In s.heap)(I:mE s.heap x dx C mA)(hg:PySem.W.plainGet K C name=true)(hh:PySem.W.hasDictIn K C=true)
  (ha:PySem.W.findIn K (.ref C) name=some none) (hv:mA name=some v) (hv':PySem.W.handedIn v=true) (h:Q v {s with toks:=s.toks+1}):
  wpAny (model prog w) A (getAttr (.ref x) name expr) Q E s:=by
 obtain⟨od,J,hl⟩:=I.look
 exact PySem.W.get_value X J (zA9 hg).1 (PySem.W.findObj_own hh ha rfl (by rw[hl,hv])) hv' h
theorem fG {pl:Sem Bool}{Q:Value×List Value→Shared→Prop}(X:K.In s.heap)(I:mE s.heap x dx C mA)(hg:PySem.W.plainGet K C name=true)
  (hf:PySem.W.findIn K (.ref C) name=some (some (.ref f))) (ht:PySem.W.isFn K (.ref f)=true) (hv:mA name=none) (h:Q (.ref f,[.ref x]) s):
  wpAny (model prog w) A (getMethod (.ref x) name pl) Q E s:=by
 obtain⟨od,J,hl⟩:=I.look
 exact PySem.W.method_fn X J (zA9 hg).1 (zA9 hg).2 hf (zx9.mp ht) (by show (PySem.W.lookIn name od).map (·.isSome)=some false;rw[hl,hv];rfl) h
theorem cq {ns:List Str}{Q:Unit→Shared→Prop}(X:K.In s.heap)(I:mE s.heap x dx C mA)
  (hs:PySem.W.findIn K (.ref C) "__setattr__"=some (some (.builtin "object.__setattr__"))) (hp:PySem.W.plainOver K C=true) (ht:PySem.W.takerIn K C name=some none) (hh:PySem.W.hasDictIn K C=true)
  (hw:PySem.Within mA ns) (hsz:ns.length≤sizeLine)
  (h:∀h',mE h' x dx C (fun y=>if y=name then some v else mA y)→Heap.SameBut dx s.heap h'→Q () {s with heap:=h',toks:=s.toks+2}):
  wpAny (model prog w) A (setAttr (.ref x) name v) Q E s:=by
 obtain⟨od,J,hl⟩:=I.look
 refine PySem.W.set_plain X J hs (PySem.W.osa_open (s:={s with toks:=s.toks+1}) (r:=none) X J hp ht fun b=>?_)
 obtain⟨cd,hc,hd'⟩:=PySem.W.any_some hh
 have hx:s.heap.get? x=some ⟨.ref C,some dx,.plain,#[]⟩:=I.obj
 refine zp3 (zq9 (zp3 (zp3 (wpAny_loadPart hx (zp3 (PySem.W.Looks.here (s:={s with toks:=s.toks+1}) (PySem.W.looks_clsIn X hc) ?_))))))
 rw[hd']
 refine zq9 (a:=some dx) (zp3 (zq9 (zp3 ?_)))
 refine wpAny_nsSet1 (s:={s with toks:=s.toks+1}) I.ns fun h' hn2 hs2=>?_
 obtain⟨oD,esD,epD,hoD,hdD,hcD⟩:=hn2.count (PySem.Within.cons name v hw)
 refine zp3 (wpAny_lookBehind hoD (by rw[hdD];exact pastItsLine_dict (zt6 hcD (by rw[zr1];omega))) ?_)
 exact zq9 (h _ ⟨(hs2.2 _ (zx0 I.ne)).trans I.obj,hn2,I.ne⟩ hs2)
theorem eN {R:Result→Shared→Prop}{vs:List Value}{kw:List (Str×Value)}(X:K.In s.heap)(hm:PySem.W.makesIn K C=true)
  (hi:PySem.W.findIn K (.ref C) "__init__"=some (some (.ref f))) (hf:PySem.W.typeIn K (.ref f)=some (.type "function"))
  (h:codeAny (model prog w) (A.under (.builtin "type.__call__" ⟨.ref C::vs,kw⟩)) (.call (.ref f) ⟨.ref (s.heap.objs.size+1)::vs,kw⟩) (PySem.W.InitBack (s.heap.objs.size+1) R)
   {s with heap:=(s.heap.push PySem.W.emptyDict).push (PySem.W.instObj C s.heap.objs.size)}):
  codeAny (model prog w) A (.call (.ref C) ⟨vs,kw⟩) R s:=by
 obtain⟨hh,g,d,t,os⟩:=s
 exact PySem.W.make_core (PySem.W.makes_of X hm) (PySem.W.looks_findIn X hi) (fun self=>PySem.W.bind_fn X self hf) (.inl rfl) h
end
def xS (f:Str)(v:V):List (Str×V)→List (Str×V)
 |[]=>[(f,v)]
 |(g,x)::r=>if g=f then (g,v)::r else (g,x)::xS f v r
theorem zO (f g:Str)(v:V):∀fs:List (Str×V),(xS f v fs).lookup g=if g=f then some v else fs.lookup g
 |[]=>by
  show List.lookup g [(f,v)]=_
  by_cases h:g=f
  ·have hb:(g == f)=true:=zx9.mpr h
   simp only[List.lookup,hb,if_pos h]
  ·have hb:(g == f)=false:=zv2.mpr h
   simp only[List.lookup,hb,if_neg h]
 |(k,x)::r=>by
  have ih:=zO f g v r
  rw[show xS f v ((k,x)::r)=(if k=f then (k,v)::r else (k,x)::xS f v r) from rfl]
  by_cases hk:k=f
  ·rw[if_pos hk]
   by_cases h:g=k
   ·have hb:(g == k)=true:=zx9.mpr h
    simp only[List.lookup,hb,if_pos (h.trans hk)]
   ·have hb:(g == k)=false:=zv2.mpr h
    simp only[List.lookup,hb,if_neg (fun e:g=f=>h (e.trans hk.symm))]
  ·rw[if_neg hk]
   by_cases h:g=k
   ·have hb:(g == k)=true:=zx9.mpr h
    simp only[List.lookup,hb,if_neg (fun e:g=f=>hk (h.symm.trans e))]
   ·have hb:(g == k)=false:=zv2.mpr h
    simp only[List.lookup,hb]
    exact ih
theorem uD (f:Str)(v:V):∀fs:List (Str×V),f∈(xS f v fs).map (·.1)∧∀g,g∈fs.map (·.1)→g∈(xS f v fs).map (·.1)
 |[]=>⟨by simp[xS],fun g h=>by simp at h⟩
 |(k,x)::r=>by
  obtain⟨i1,i2⟩:=uD f v r
  rw[show xS f v ((k,x)::r)=(if k=f then (k,v)::r else (k,x)::xS f v r) from rfl]
  by_cases hk:k=f
  ·rw[if_pos hk]
   subst hk
   exact⟨by simp,fun g h=>by simpa using h⟩
  ·rw[if_neg hk]
   refine⟨?_,fun g h=>?_⟩
   ·rw[zs1]
    exact zq0 _ i1
   ·rw[zs1] at h ⊢
    rcases zp7.mp h with e|e
    ·exact zp7.mpr (.inl e)
    ·exact zq0 _ (i2 g e)
theorem uW (f:Str)(v:V):∀fs:List (Str×V),(xS f v fs).length≤fs.length+1
 |[]=>by simp[xS]
 |(k,x)::r=>by
  have ih:=uW f v r
  rw[show xS f v ((k,x)::r)=(if k=f then (k,v)::r else (k,x)::xS f v r) from rfl]
  by_cases hk:k=f
  ·rw[if_pos hk,zr1,zr1];omega
  ·rw[if_neg hk,zr1,zr1];omega
theorem vF.some_of {v:V}{o:Option Value}(r:vF (some v) o):∃u,o=some u∧RelV v u:=by
 cases o with
 |none=>exact (show False from r).elim
 |some u=>exact⟨u,rfl,r⟩
theorem vF.none_of {o:Option Value}(r:vF none o):o=none:=by
 cases o with
 |none=>rfl
 |some u=>exact (show False from r).elim
theorem jK {v:V}{u:Value}(r:RelV v u):PySem.W.handedIn u=true:=by
 cases v with
 |non=>cases (show u=Value.none from r);rfl
 |bl b=>cases (show u=Value.bool b from r);rfl
 |int i=>obtain⟨t,e⟩:=(show ∃t,u=Value.int i t from r);cases e;rfl
 |str x=>obtain⟨t,e⟩:=(show ∃t,u=Value.str x t from r);cases e;rfl
 |byt b=>obtain⟨t,e⟩:=(show ∃t,u=Value.bytes b t from r);cases e;rfl
 |flt b=>obtain⟨t,e⟩:=(show ∃t,u=Value.float b t from r);cases e;rfl
 |ref a=>cases (show u=Value.ref a from r);rfl
 |ty n=>cases (show u=Value.type n from r);rfl
section
variable {P:Program}{w:World}{H H':Hp}{h h':Heap}{a C dx:Addr}{fs fs':List (Str×V)}
theorem tI (hok:HOk P w H h)(e:H a=some (.ins C dx fs)):∃mA,mE h a dx C mA∧(∀f,vF (fs.lookup f) (mA f))∧PySem.Within mA (fs.map (·.1))∧fs.length≤1000∧H dx=some (.own a):=by
 obtain⟨d,z,ne,ob,mA,n,r,q⟩:=(show yc P w H h a (.ins C dx fs) from hok a _ e)
 exact⟨mA,⟨ob,n,ne⟩,r,q,z,d⟩
end
structure Cls (K:PySem.W.Frag)(C:Addr):Prop where
 pg:PySem.W.plainGet K C Str.empty=true
 hd:PySem.W.hasDictIn K C=true
 po:PySem.W.plainOver K C=true
 sa:PySem.W.findIn K (.ref C) "__setattr__"=some (some (.builtin "object.__setattr__"))
theorem Cls.get {K:PySem.W.Frag}{C:Addr}(c:Cls K C)(f:Str):PySem.W.plainGet K C f=true:=c.pg
def yF (K:PySem.W.Frag)(C:Addr)(f:Str):Prop:=PySem.W.findIn K (.ref C) f=some none
theorem yF.taker {K:PySem.W.Frag}{C:Addr}{f:Str}(n:yF K C f):PySem.W.takerIn K C f=some none:=by
 unfold PySem.W.takerIn
 rw[show PySem.W.findIn K (.ref C) f=some none from n]
 rfl
structure Meth (K:PySem.W.Frag)(C:Addr)(m:Str)(f:Addr):Prop where
 at_:PySem.W.findIn K (.ref C) m=some (some (.ref f))
 fn:PySem.W.isFn K (.ref f)=true
 kp:PySem.W.keepIn K (.ref f)=true
section
variable {X:Cx}{pins:List (Addr×Obj)}{σ:St}{H:Hp}{s:Shared}{a C dx:Addr}{fs:List (Str×V)}{f:Str}{v:V}{A:Around}{E:Value→Shared→Prop}
theorem nR {b:Bool}{Q:Value→Shared→Prop}(I:Inv X pins σ H s)(e:H a=some (.ins C dx fs))(c:Cls X.K C)(n:yF X.K C f)(l:fs.lookup f=some v)
  (h:∀u s',Inv X pins σ H s'→RelV v u→Q u s'):wpAny (model X.prog X.w) A (getAttr (.ref a) f b) Q E s:=by
 obtain⟨mA,O,r,_,_,_⟩:=tI I.hok e
 obtain⟨u,hu,ru⟩:=vF.some_of (v:=v) (o:=mA f) (by rw[←l];exact r f)
 exact get_map I.kIn O (c.get f) c.hd n hu (jK ru) (h u _ (I.tok _) ru)
theorem vO {m:Str}{g:Addr}{pl:Sem Bool}{Q:Value×List Value→Shared→Prop}(I:Inv X pins σ H s)(e:H a=some (.ins C dx fs))(c:Cls X.K C)(k:Meth X.K C m g)(l:fs.lookup m=none)
  (h:Q (.ref g,[.ref a]) s):wpAny (model X.prog X.w) A (getMethod (.ref a) m pl) Q E s:=by
 obtain⟨mA,O,r,_,_,_⟩:=tI I.hok e
 have hn:mA m=none:=vF.none_of (by rw[←l];exact r m)
 exact fG I.kIn O (c.get m) k.at_ k.fn hn h
theorem mT {y:V}{u:Value}{Q:Unit→Shared→Prop}(I:Inv X pins σ H s)(e:H a=some (.ins C dx fs))(c:Cls X.K C)(n:yF X.K C f)(hl:fs.length<1000)(ry:RelV y u)
  (h:∀s',Inv X pins σ (upd H a (.ins C dx (xS f y fs))) s'→Q () s'):wpAny (model X.prog X.w) A (setAttr (.ref a) f u) Q E s:=by
 obtain⟨mA,O,r,wi,_,ho⟩:=tI I.hok e
 have hz:(fs.map (·.1)).length≤sizeLine:=by rw[zp2,sizeLine_eq];omega
 refine cq I.kIn O c.sa c.po n.taker c.hd wi hz fun h' O' sb=>h _ ?_
 have hd:∃o,h'.get? dx=some o:=let ⟨o,_,_,e',_⟩:=O'.ns;⟨o,e'⟩
 refine I.write (x:=a) (e:=dx) (by rw[e];exact True.intro) (.inr ho) (fun b q hb z=>(sb.2 b hb).trans z) hd ?_
 refine⟨by rw[zl O.ne];exact ho,?_,O.ne,O'.obj,_,O'.ns,fun g=>?_,fun g hg=>?_⟩
 ·have:=uW f y fs;omega
 ·show vF ((xS f y fs).lookup g) (if g=f then some u else mA g)
  rw[zO]
  by_cases q:g=f
  ·rw[if_pos q,if_pos q];exact ry
  ·rw[if_neg q,if_neg q];exact r g
 ·by_cases q:g=f
  ·rw[q];exact (uD f y fs).1
  ·refine (uD f y fs).2 g (wi g fun z=>hg ?_)
   show (if g=f then some u else mA g)=none
   rw[if_neg q];exact z
theorem Inv.made (I:Inv X pins σ H s):Inv X pins σ (upd (upd H s.heap.objs.size (.own (s.heap.objs.size+1))) (s.heap.objs.size+1) (.ins C s.heap.objs.size []))
  {s with heap:=(s.heap.push PySem.W.emptyDict).push (PySem.W.instObj C s.heap.objs.size)}:=by
 have e1:(s.heap.push PySem.W.emptyDict).get? s.heap.objs.size=some PySem.W.emptyDict:=zr7 s.heap rfl
 have e2:((s.heap.push PySem.W.emptyDict).push (PySem.W.instObj C s.heap.objs.size)).get? (s.heap.objs.size+1)=some (PySem.W.instObj C s.heap.objs.size):=by
  have:=zr7 (s.heap.push PySem.W.emptyDict) (o:=PySem.W.instObj C s.heap.objs.size) rfl
  rwa [Heap.size_push] at this
 have e3:(s.heap.push PySem.W.emptyDict).Ns s.heap.objs.size (fun _=>none):=⟨PySem.W.emptyDict,#[],_,e1,rfl,(fun e he=>absurd he (by simp)),fun _=>rfl⟩
 have I1:=I.laid (a:=s.heap.objs.size) (o:=.own (s.heap.objs.size+1)) (h':=s.heap.push PySem.W.emptyDict) (t':=s.toks) (fun b u q=>zp6 _ q) (zp8 _) ⟨_,e1⟩
 refine I1.laid (a:=s.heap.objs.size+1) (o:=.ins C s.heap.objs.size []) (t':=s.toks) (fun b u q=>zp6 _ q) (Nat.le_of_eq (Heap.size_push _ _)) ?_
 have ne:s.heap.objs.size≠s.heap.objs.size+1:=zs3 (zz9 _)
 refine⟨by rw[zl ne,zh],zr9 _,ne,e2,fun _=>none,(Heap.Ns1.of_empty e3).at fun o q=>zp6 _ q,fun _=>True.intro,fun y hy=>absurd rfl hy⟩
theorem cF {prog:Program}{w:World}{env:Env}{e:Expr}{f:Str}{pos:Pos}{s:Shared}{Q:Value→Shared→Prop}(hb:attributeBase e f env (eval e env)=eval e env)
  (h:wpAny (model prog w) A (eval e env) (fun o s₁=>wpAny (model prog w) A (getAttr o f true) Q E s₁) E s):wpAny (model prog w) A (eval (.Attribute e f pos) env) Q E s:=
 Attribute_any_ h (by rw[arm_eval_Attribute,hb])
end
def zo7 (K:PySem.W.Frag)(ta:TE)(f:Str):TE:=fun σ H Q=>ta σ H fun x H1=>∃a C dx fs v,x=.ref a∧H1 a=some (.ins C dx fs)∧Cls K C∧yF K C f∧fs.lookup f=some v∧Q v H1
def zo3 (K:PySem.W.Frag)(ta tv:TE)(f:Str):TS:=fun D σ H=>tv σ H fun y H1=>ta σ H1 fun x H2=>∃a C dx fs,x=.ref a∧H2 a=some (.ins C dx fs)∧Cls K C∧yF K C f∧fs.length<1000∧
 D.nx σ (upd H2 a (.ins C dx (xS f y fs)))
section
variable {X:Cx}{o e value:Expr}{f:Str}{pos pos' tpos:Pos}{ta tv:TE}
theorem uQ (he:PE X e ta)(hb:attributeBase e f X.env (eval e X.env)=eval e X.env):PE X (.Attribute e f pos) (zo7 X.K ta f):=by
 intro pins s σ H Q I h
 refine cF hb (thn (he pins s σ H _ I h) fun u s1 ⟨x,H1,I1,rx,a,C,dx,fs,v,ex,ea,c,n,l,q⟩=>?_)
 subst ex
 obtain rfl:u=Value.ref a:=rx
 exact nR I1 ea c n l fun u' s2 I2 ru=>⟨v,H1,I2,ru,q⟩
theorem qR (ha:PE X o ta)(hv:PE X value tv)(hs:swapsWith value (some (.Attribute o f pos')) pos.line X.env=pure false):PS X (.Assign [.Attribute o f pos'] value pos) (zo3 X.K ta tv f):=by
 intro pins s σ H D I h
 refine plainObj_wpAny_Assign_Attribute (thn (hv pins s σ H _ I h) fun u s1 ⟨y,H1,I1,ry,q⟩=>thn (ha pins s1 σ H1 _ I1 q) fun ov s2 ⟨x,H2,I2,rx,a,C,dx,fs,ex,ea,c,n,l,q2⟩=>?_) hs
 subst ex
 obtain rfl:ov=Value.ref a:=rx
 exact mT I2 ea c n l ry fun s3 I3=>⟨σ,_,I3,q2⟩
theorem aI {pl:Sem Bool}{m:Str}{apos:Pos}{args:List Expr}{pins:List (Addr×Obj)}{s:Shared}{σ:St}{H:Hp}{Q:Value→Shared→Prop}{te:TE}(he:PE X e te)(I:Inv X pins σ H s)
  (h:te σ H fun x H1=>∃a C dx fs g,x=.ref a∧H1 a=some (.ins C dx fs)∧Cls X.K C∧Meth X.K C m g∧fs.lookup m=none∧
   ∀s1,Inv X pins σ H1 s1→wpAny (model X.prog X.w) X.A (callWith pos (.ref g) [.ref a] (backTo pos (starEach args X.env)) (backToKw pos (keywordEach [] X.env))) Q X.xe s1)
  (ht:eval (.Call (.Attribute e m apos) args [] pos) X.env=(do
   let ov ←eval e X.env
   standAt apos.atName
   let (f,first) ←holding [ov] (getMethod ov m pl)
   callWith pos f first (backTo pos (starEach args X.env)) (backToKw pos (keywordEach [] X.env)))):
  wpAny (model X.prog X.w) X.A (eval (.Call (.Attribute e m apos) args [] pos) X.env) Q X.xe s:=by
 refine zA0 (pl:=pl) (thn (he pins s σ H _ I h) fun u s1 ⟨x,H1,I1,rx,a,C,dx,fs,g,ex,ea,c,k,l,q⟩=>?_) ht
 subst ex
 obtain rfl:u=Value.ref a:=rx
 exact vO I1 ea c k l (q s1 I1)
end
section
variable {X:Cx}{pins:List (Addr×Obj)}{σ:St}{H:Hp}{s:Shared}{A:Around}{E:Value→Shared→Prop}{Q:Value→Shared→Prop}{c:Value}{b:Bool}
inductive uv (K:PySem.W.Frag)(H:Hp):V→Value→Prop where
 |non:uv K H .non (.type "NoneType")
 |bl (x:Bool):uv K H (.bl x) (.type "bool")
 |int (i:Int):uv K H (.int i) (.type "int")
 |str (x:Str):uv K H (.str x) (.type "str")
 |flt (x:UInt64):uv K H (.flt x) (.type "float")
 |lst {a:Addr} {xs:List V} (e:H a=some (.lst xs)):uv K H (.ref a) (.type "list")
 |frz {a:Addr} {o:Obj} {xs:List V} (e:H a=some (.frz o (.lst xs))):uv K H (.ref a) (.type "list")
 |tup {a:Addr} {xs:List V} (e:H a=some (.tup xs)):uv K H (.ref a) (.type "tuple")
 |dK {a:Addr} {kvs:List (Key×V)} (e:H a=some (.dK kvs)):uv K H (.ref a) (.type "dict")
 |dT {a:Addr} {kvs:List (List Key×V)} (e:H a=some (.dT kvs)):uv K H (.ref a) (.type "dict")
 |ins {a C dx:Addr} {fs:List (Str×V)} (e:H a=some (.ins C dx fs)) (cl:Cls K C) (ha:PySem.W.findIn K (.ref C) "__class__"=some (some (.builtin "object.__class__")))
   (hn:PySem.W.specialIn K (.builtin "object.__class__") "__get__"=some (some (.builtin "getset_descriptor.__get__"))) (htk:PySem.W.takesIn K (.builtin "object.__class__")=some true)
   (hm:PySem.W.mroIn K C (.type "object")=some true):uv K H (.ref a) (.ref C)
theorem je {x:V}{u t:Value}(I:Inv X pins σ H s)(rx:RelV x u)(ty:uv X.K H x t)(e:PySem.W.kitOne X.K t c=some b)(h:∀tk,Q (.bool b) {s with toks:=tk}):
  wpAny (model X.prog X.w) A (call (.builtin "isinstance") [u,c]) Q E s:=by
 cases ty with
 |non=>cases (show u=Value.none from rx);exact zt8 PySem.W.kitx_none I.kIn True.intro e (fun z=>nomatch z) h
 |bl y=>cases (show u=Value.bool y from rx);exact zt8 PySem.W.kitx_bool I.kIn True.intro e (fun z=>nomatch z) h
 |int i=>obtain⟨t,q⟩:=(show ∃t,u=Value.int i t from rx);cases q;exact zt8 PySem.W.kitx_int I.kIn True.intro e (fun z=>nomatch z) h
 |str y=>obtain⟨t,q⟩:=(show ∃t,u=Value.str y t from rx);cases q;exact zt8 PySem.W.kitx_str I.kIn True.intro e (fun z=>nomatch z) h
 |flt y=>obtain⟨t,q⟩:=(show ∃t,u=Value.float y t from rx);cases q;exact zt8 PySem.W.kitx_float I.kIn True.intro e (fun z=>nomatch z) h
 |@lst a xs ea=>
  cases (show u=Value.ref a from rx)
  obtain⟨_,_,n,_,h1⟩:=(show yc X.prog X.w H s.heap a (.lst xs) from I.hok a _ ea)
  exact zt8 PySem.W.kitx_list I.kIn ⟨_,h1,rfl⟩ e (fun z=>nomatch z) h
 |@frz a ob xs ea=>
  cases (show u=Value.ref a from rx)
  obtain⟨_,_,_,n,_,h1⟩:=(show yc X.prog X.w H s.heap a (.frz ob (.lst xs)) from I.hok a _ ea)
  exact zt8 PySem.W.kitx_list I.kIn ⟨_,h1,rfl⟩ e (fun z=>nomatch z) h
 |@tup a xs ea=>
  cases (show u=Value.ref a from rx)
  obtain⟨_,_,_,p⟩:=(show yc X.prog X.w H s.heap a (.tup xs) from I.hok a _ ea)
  obtain⟨o,h1,h2,_⟩:=p
  exact zt8 PySem.W.kitx_tuple I.kIn ⟨o,h1,h2⟩ e (fun z=>nomatch z) h
 |@dK a kvs ea=>
  cases (show u=Value.ref a from rx)
  obtain⟨_,_,vs,_,p⟩:=(show yc X.prog X.w H s.heap a (.dK kvs) from I.hok a _ ea)
  obtain⟨o,es,ep,h1,h2,_⟩:=p
  exact zt8 PySem.W.kitx_dict I.kIn ⟨o,h1,h2.1⟩ e (fun z=>nomatch z) h
 |@dT a kvs ea=>
  cases (show u=Value.ref a from rx)
  obtain⟨_,_,xs,_,o,es,ep,h1,h2,_⟩:=(show yc X.prog X.w H s.heap a (.dT kvs) from I.hok a _ ea)
  exact zt8 PySem.W.kitx_dict I.kIn ⟨o,h1,h2.1⟩ e (fun z=>nomatch z) h
 |@ins a C dx fs ea cl ha hn htk hm=>
  cases (show u=Value.ref a from rx)
  obtain⟨mA,O,_⟩:=tI I.hok ea
  obtain⟨od,J,_⟩:=O.look
  exact zt8 (PySem.W.kitx_own (cl.get _) cl.hd ha hn htk hm) I.kIn J e (fun z=>nomatch z) h
end
structure zR (k:Nat)(A:Around):Prop where
 hd:A.handled=none
 dp:A.depth+3*k+5<recursionLimit
 un:A.units+16*k+200<cLine
 gd:A.guards=some []
theorem zR.mono {j k:Nat}{A:Around}(r:zR k A)(h:j≤k):zR j A:=⟨r.hd,by have:=r.dp;omega,by have:=r.un;omega,r.gd⟩
theorem zR.deeper {k:Nat}{A:Around}(r:zR (k+1) A)(env:Env):zR k (A.deeper env):=
 ⟨r.hd,by have:=r.dp;show A.depth+1+3*k+5<_;omega,by have:=r.un;show A.units+3+16*k+200<_;omega,r.gd⟩
theorem mW {A:Around}{C:Addr}{us:List Value}{kw:List (Str×Value)}:(A.under (.builtin "type.__call__" ⟨.ref C::us,kw⟩)).depth=A.depth+1:=by
 first|rfl|simp[Around.under,Code.weight,Code.isCreation,Code.isGuard,Code.isCaller,Code.frames,Code.isFrame,guardIds]
theorem lA {A:Around}{C:Addr}{us:List Value}{kw:List (Str×Value)}:(A.under (.builtin "type.__call__" ⟨.ref C::us,kw⟩)).units=A.units+1:=by
 first|rfl|simp[Around.under,Code.cUnits,Code.frames,Code.isFrame]
theorem nr {A:Around}{C:Addr}{us:List Value}{kw:List (Str×Value)}:(A.under (.builtin "type.__call__" ⟨.ref C::us,kw⟩)).guards=A.guards:=by
 first|rfl|simp[Around.under,Code.guards,Code.isGuard,guardIds,pushGuards]
theorem zR.make {k:Nat}{A:Around}(r:zR (k+1) A)(C:Addr)(us:List Value)(kw:List (Str×Value)):zR k (A.under (.builtin "type.__call__" ⟨.ref C::us,kw⟩)):=
 ⟨r.hd,by have:=r.dp;rw[mW];omega,by have:=r.un;rw[lA];omega,(nr (A:=A)).trans r.gd⟩
theorem zR.depth {k:Nat}{A:Around}(r:zR k A):A.depth<recursionLimit:=by have:=r.dp;omega
theorem zR.units {k:Nat}{A:Around}(r:zR k A):A.units+64<cLine:=by have:=r.un;omega
def zg4 :TA:=fun _ H Q=>Q [] H
def zl0 (ta:TE)(tr:TA):TA:=fun σ H Q=>ta σ H fun x H1=>tr σ H1 fun xs H2=>Q (x::xs) H2
section
variable {X:Cx}{e:Expr}{es:List Expr}{te:TE}{t:TA}{pos:Pos}
theorem zp :PA X [] zg4:=fun _ _ _ _ H Q I h=>Calls.spliced_nil ⟨[],H,I,.nil,h⟩
theorem zd (ha:PE X e te)(hr:PA X es t)(hs:starEach (e::es) X.env=(false,eval e X.env)::starEach es X.env:=by rfl):PA X (e::es) (zl0 te t):=by
 intro pos pins s σ H Q I h
 rw[hs]
 show wpAny _ _ (spliced ((false,eval e X.env)::backTo pos (starEach es X.env))) _ _ s
 refine Calls.spliced_cons (thn (ha pins s σ H _ I h) fun u s1 ⟨x,H1,I1,r1,q1⟩=>?_)
 exact thn (hr pos pins s1 σ H1 _ I1 q1) fun us s2 ⟨xs,H2,I2,r2,q2⟩=>⟨x::xs,H2,I2,.cons r1 r2,q2⟩
def zn5 (t:TA):TE:=fun σ H Q=>t σ H fun xs H1=>xs.length≤sizeLine∧∀p,H1 p=none→Q (.ref p) (upd H1 p (.tup xs))
def zm4 (t:TA):TE:=fun σ H Q=>t σ H fun xs H1=>xs.length≤sizeLine∧∀p,H1 p=none→Q (.ref p) (upd H1 p (.lst xs))
theorem nQ {x1}(h:PA X es t):PE X (.Tuple es x1 pos) (zn5 t):=by
 intro pins s σ H Q I hq
 refine wpAny_Tuple_spliced (thn (h pos pins s σ H _ I hq) fun us s1 ⟨xs,H1,I1,r,z,q⟩=>⟨by rw[←r.length];exact z,?_⟩)
 have hf:H1 s1.heap.objs.size=none:=I1.hok.fresh (zp8 _)
 refine⟨.ref s1.heap.objs.size,upd H1 s1.heap.objs.size (.tup xs),I1.laid (t':=s1.toks) (fun b u e=>zp6 _ e) (zp8 _) ?_,rfl,q _ hf⟩
 exact⟨z,us,r,⟨_,zr7 _ rfl,rfl,_,rfl⟩⟩
theorem gS (h:PA X es t):PE X (.List es pos) (zm4 t):=by
 intro pins s σ H Q I hq
 refine wpAny_List_spliced (thn (h pos pins s σ H _ I hq) fun us s1 ⟨xs,H1,I1,r,z,q⟩=>⟨by rw[←r.length];exact z,?_⟩)
 have hf:H1 s1.heap.objs.size=none:=I1.hok.fresh (zp8 _)
 refine⟨.ref s1.heap.objs.size,upd H1 s1.heap.objs.size (.lst xs),I1.laid (t':=s1.toks) (fun b u e=>zp6 _ e) (zp8 _) ?_,rfl,q _ hf⟩
 exact⟨z,us,0,r,zr7 _ rfl⟩
end
abbrev Sp :=List V→Hp→VK→XK→Prop
abbrev CXT :=List Env→Hp→Shared→XK→Value→Shared→Prop
structure lE (P:Program)(w:World)(K:PySem.W.Frag)(mg:Str→Option Value)(base:Heap)(A:Around)(outer:List Env)(s:Shared)(H:Hp):Prop where
 frames:A.frames=some outer
 mod:Mod K mg base
 bs:∀b o,base.get? b=some o→s.heap.get? b=some o∧H b=none
 bsz:base.objs.size≤s.heap.objs.size
 funs:s.heap.FunFrames base outer
 frf:∀b∈frs outer,H b=none
 hok:HOk P w H s.heap
 bare:AllBare s.gens
def CE (outer:List Env)(P:Program)(w:World)(H:Hp)(s:Shared)(Q:VK)(u:Value)(s':Shared):Prop:=
 ∃v H',s'.os=s.os∧AllBare s'.gens∧Un (frs outer) [] H H' s.heap s'.heap∧HOk P w H' s'.heap∧RelV v u∧Q v H'
def CR (CX:CXT)(outer:List Env)(P:Program)(w:World)(H:Hp)(s:Shared)(Q:VK)(E:XK)(r:Result)(s':Shared):Prop:=
 match r with
 |.ok (.ret u)=>CE outer P w H s Q u s'
 |.ok _=>False
 |.error e=>CX outer H s E e s'
structure zA (P:Program)(w:World)(K:PySem.W.Frag)(mg:Str→Option Value)(base:Heap)(CX:CXT)(k:Nat)(f:Addr)(fd:FuncData)(ps:List Str)(sp:Sp):Prop where
 len:∀vs H Q E,sp vs H Q E→vs.length=ps.length
 run:∀(A:Around) (outer:List Env) (s:Shared) (H:Hp) (args:Args) (us:List Value) (vs:List V) (Q:VK) (E:XK),zR k A→lE P w K mg base A outer s H→BindsTo s fd args (ps.zip us)→Vals vs us→sp vs H Q E→
  codeAny (model P w) A (.call (.ref f) args) (CR CX outer P w H s Q E) s
theorem zA.imp {P:Program}{w:World}{K:PySem.W.Frag}{mg:Str→Option Value}{base:Heap}{CX:CXT}{k:Nat}{f:Addr}{fd:FuncData}{ps:List Str}{sp sp':Sp}(F:zA P w K mg base CX k f fd ps sp)
  (h:∀vs H Q E,sp' vs H Q E→sp vs H Q E):zA P w K mg base CX k f fd ps sp':=
 ⟨fun vs H Q E q=>F.len vs H Q E (h _ _ _ _ q),fun A outer s H args us vs Q E hr he hb hv hs=>F.run A outer s H args us vs Q E hr he hb hv (h _ _ _ _ hs)⟩
theorem lE.make {P:Program}{w:World}{K:PySem.W.Frag}{mg:Str→Option Value}{base:Heap}{A:Around}{outer:List Env}{s:Shared}{H:Hp}(e:lE P w K mg base A outer s H)(C:Addr)(us:List Value)(kw:List (Str×Value)):
  lE P w K mg base (A.under (.builtin "type.__call__" ⟨.ref C::us,kw⟩)) outer s H:=⟨by first|exact e.frames|(simpa[Around.under,Code.envs,Code.isFrame,pushEnvs] using e.frames),e.mod,e.bs,e.bsz,e.funs,e.frf,e.hok,e.bare⟩
section
variable {X:Cx}{pins:List (Addr×Obj)}{σ:St}{H:Hp}{s s':Shared}
theorem Inv.env0 (I:Inv X pins σ H s):lE X.prog X.w X.K X.mg X.base X.A X.stack s H:=
 ⟨I.ok.frames,I.ok.mod,I.bs,zt6 I.ok.bsz I.sz,I.stack,I.stkFree,I.hok,I.bare⟩
theorem Inv.after {Q:VK}{u:Value}(I:Inv X pins σ H s)(h:CE X.stack X.prog X.w H s Q u s'):EP X pins σ Q u s':=by
 obtain⟨v,H',os,bare,un,hok,r,q⟩:=h
 obtain⟨hh,g,d,t,os'⟩:=s'
 obtain rfl:os'=s.os:=os
 exact⟨v,H',I.call (h':=hh) (g':=g) (d':=d) (t':=t) (ch:=[]) un hok bare (fun b z=>absurd z (by simp)),r,q⟩
end
def zg1 (sp:Sp)(dvs:List V)(E:XK)(t:TA):TE:=fun σ H Q=>t σ H fun vs H1=>sp (vs++dvs) H1 Q E
def ae (C:Addr)(m:Str)(sp:Sp)(dvs:List V)(E:XK)(ta:TE)(t:TA):TE:=fun σ H Q=>ta σ H fun x H1=>∃a dx fs,x=.ref a∧H1 a=some (.ins C dx fs)∧fs.lookup m=none∧
 t σ H1 fun vs H2=>sp (x::(vs++dvs)) H2 Q E
def zi1 (C:Addr)(sp:Sp)(dvs:List V)(E:XK)(t:TA):TE:=fun σ H Q=>t σ H fun vs H1=>∀x dx,H1 x=none→H1 dx=none→dx≠x→
 sp (.ref x::(vs++dvs)) (upd (upd H1 dx (.own x)) x (.ins C dx [])) (fun v H2=>v=.non∧Q (.ref x) H2) E
def Binds (K:PySem.W.Frag)(fd:FuncData)(ps:List Str)(ds:List Value):Prop:=
 ∀(s:Shared) (us:List Value),K.In s.heap→(us++ds).length=ps.length→BindsTo s fd ⟨us,[]⟩ (ps.zip (us++ds))
theorem Binds.all {K:PySem.W.Frag}{fd:FuncData}{ps:List Str}(h:∀us:List Value,us.length=ps.length→bindArgs fd ⟨us,[]⟩=pure (ps.zip us)):Binds K fd ps []:=fun s us _ hl=>by
 rw[zw2] at hl ⊢
 exact .of_eq (h us hl)
def Passes (CX:CXT)(X:Cx)(E:XK):Prop:=∀(pins:List (Addr×Obj)) (σ:St) (H:Hp) (s:Shared) (e:Value) (s':Shared),Inv X pins σ H s→CX X.stack H s E e s'→X.xe e s'
section
variable {X:Cx}{CX:CXT}{k:Nat}{f C:Addr}{fd:FuncData}{ps:List Str}{sp:Sp}{dvs:List V}{ds:List Value}{E:XK}{x m:Str}{p pos apos:Pos}{e o:Expr}{es:List Expr}{ta:TE}{t:TA}
theorem lp {pins:List (Addr×Obj)}{σ:St}{H:Hp}{s:Shared}{Q:VK}{us:List Value}{vs:List V}(F:zA X.prog X.w X.K X.mg X.base CX k f fd ps sp)(hr:zR k X.A)(hb:Binds X.K fd ps ds)(hd:Vals dvs ds)(hx:Passes CX X E)
  (I:Inv X pins σ H s) (r:Vals vs us) (h:sp (vs++dvs) H Q E):wpAny (model X.prog X.w) X.A (call (.ref f) us) (EP X pins σ Q) X.xe s:=by
 have r2:Vals (vs++dvs) (us++ds):=r.append hd
 have hl:(us++ds).length=ps.length:=by rw[←r2.length];exact F.len _ _ _ _ h
 refine zy0 (zz0 (F.run X.A X.stack s H ⟨us,[]⟩ (us++ds) (vs++dvs) Q E hr I.env0 (hb s us I.kIn hl) r2 h) fun r s' hq=>?_)
 cases r with
 |error e=>exact hx pins σ H s e s' I hq
 |ok fl=>
  cases fl with
  |ret u=>exact I.after hq
  |next=>exact False.elim hq
  |brk=>exact False.elim hq
  |cont=>exact False.elim hq
theorem zQ (F:zA X.prog X.w X.K X.mg X.base CX k f fd ps sp)(hr:zR k X.A)(hg:Gl X x)(hm:X.mg x=some (.ref f))(hk:PySem.W.keepIn X.K (.ref f)=true)(hb:Binds X.K fd ps ds)(hd:Vals dvs ds)(hx:Passes CX X E)
  (ha:PA X (e::es) t) (hdb:(x == ("__debug__":Str))=false:=by decide) (he:starEach (e::es) X.env=(false,eval e X.env)::starEach es X.env:=by rfl) (hpl:(backTo pos (starEach es X.env)).any (·.1)=false:=by rfl):
  PE X (.Call (.Name x p) (e::es) [] pos) (zg1 sp dvs E t):=by
 intro pins s σ H Q I h
 refine zv7 (xX I hg hm ?_ hdb)
 refine zw7 (h₀:=X.base) I.ok.mod.kin hk (thn (ha pos pins s σ H _ I h) fun us s1 ⟨vs,H1,I1,r,q⟩=>⟨I1.kIn,?_⟩) he hpl
 exact lp F hr hb hd hx I1 r q
theorem cc {pl:Sem Bool}(he:PE X o ta)(c:Cls X.K C)(hm:Meth X.K C m f)(F:zA X.prog X.w X.K X.mg X.base CX k f fd ps sp)(hr:zR k X.A)(hb:Binds X.K fd ps ds)(hd:Vals dvs ds)(hx:Passes CX X E)(ha:PA X (e::es) t)
  (hst:starEach (e::es) X.env=(false,eval e X.env)::starEach es X.env:=by rfl) (hpl:(backTo pos (starEach es X.env)).any (·.1)=false:=by rfl)
  (ht:eval (.Call (.Attribute o m apos) (e::es) [] pos) X.env=(do
   let ov ←eval o X.env
   standAt apos.atName
   let (f,first) ←holding [ov] (getMethod ov m pl)
   callWith pos f first (backTo pos (starEach (e::es) X.env)) (backToKw pos (keywordEach [] X.env))):=by rfl):
  PE X (.Call (.Attribute o m apos) (e::es) [] pos) (ae C m sp dvs E ta t):=by
 intro pins s σ H Q I h
 refine zA0 (pl:=pl) (thn (he pins s σ H _ I h) fun u s1 ⟨x,H1,I1,rx,a,dx,fs,ex,ea,l,q⟩=>?_) ht
 subst ex
 obtain rfl:u=Value.ref a:=rx
 refine vO I1 ea c hm l ?_
 refine zw7 (first:=[.ref a]) (h₀:=X.base) I.ok.mod.kin hm.kp (thn (ha pos pins s1 σ H1 _ I1 q) fun us s2 ⟨vs,H2,I2,r,q2⟩=>⟨I2.kIn,?_⟩) hst hpl
 exact lp (us:=.ref a::us) (vs:=.ref a::vs) F hr hb hd hx I2 (.cons rfl r) q2
theorem pZ {pl:Sem Bool}(he:PE X o ta)(c:Cls X.K C)(hm:Meth X.K C m f)(F:zA X.prog X.w X.K X.mg X.base CX k f fd ps sp)(hr:zR k X.A)(hb:Binds X.K fd ps ds)(hd:Vals dvs ds)(hx:Passes CX X E)
  (ht:eval (.Call (.Attribute o m apos) [] [] pos) X.env=(do
   let ov ←eval o X.env
   standAt apos.atName
   let (f,first) ←holding [ov] (getMethod ov m pl)
   callWith pos f first (backTo pos (starEach [] X.env)) (backToKw pos (keywordEach [] X.env))):=by rfl):
  PE X (.Call (.Attribute o m apos) [] [] pos) (ae C m sp dvs E ta zg4):=by
 intro pins s σ H Q I h
 refine zA0 (pl:=pl) (thn (he pins s σ H _ I h) fun u s1 ⟨x,H1,I1,rx,a,dx,fs,ex,ea,l,q⟩=>?_) ht
 subst ex
 obtain rfl:u=Value.ref a:=rx
 refine vO I1 ea c hm l ?_
 exact PySem.W.callWith_K0 (first:=[.ref a]) I1.kIn hm.kp (lp (us:=[.ref a]) (vs:=[.ref a]) F hr hb hd hx I1 (.cons rfl .nil) q)
structure Mk (K:PySem.W.Frag)(C f:Addr):Prop where
 makes:PySem.W.makesIn K C=true
 init:PySem.W.findIn K (.ref C) "__init__"=some (some (.ref f))
 fn:PySem.W.isFn K (.ref f)=true
 kp:PySem.W.keepIn K (.ref C)=true
theorem fb {pins:List (Addr×Obj)}{σ:St}{H:Hp}{s:Shared}{Q:VK}{us:List Value}{vs:List V}(M:Mk X.K C f)(F:zA X.prog X.w X.K X.mg X.base CX k f fd ps sp)(hr:zR (k+1) X.A)(hb:Binds X.K fd ps ds)(hd:Vals dvs ds)
  (hx:Passes CX X E) (I:Inv X pins σ H s) (r:Vals vs us)
  (h:∀x dx,H x=none→H dx=none→dx≠x→sp (.ref x::(vs++dvs)) (upd (upd H dx (.own x)) x (.ins C dx [])) (fun v H2=>v=.non∧Q (.ref x) H2) E):
  wpAny (model X.prog X.w) X.A (call (.ref C) us) (EP X pins σ Q) X.xe s:=by
 have hq:=h (s.heap.objs.size+1) s.heap.objs.size (I.hok.fresh (zy7 _)) (I.hok.fresh (zp8 _)) (zs3 (zz9 _))
 have I2:=Inv.made (C:=C) I
 have r2:Vals (V.ref (s.heap.objs.size+1)::(vs++dvs)) (Value.ref (s.heap.objs.size+1)::(us++ds)):=.cons rfl (r.append hd)
 have hl:(Value.ref (s.heap.objs.size+1)::us++ds).length=ps.length:=by
  have e:=r2.length
  rw[F.len _ _ _ _ hq] at e
  exact e.symm
 refine zy0 (eN (f:=f) I.kIn M.makes M.init (zx9.mp M.fn) (zz0 (F.run _ X.stack _ _ ⟨Value.ref (s.heap.objs.size+1)::us,[]⟩ (Value.ref (s.heap.objs.size+1)::(us++ds)) _ _ E (hr.make C us [])
  (I2.env0.make C us []) (hb _ (Value.ref (s.heap.objs.size+1)::us) I2.kIn hl) r2 hq) fun r s' hq'=>?_))
 cases r with
 |error e=>exact hx pins σ _ _ e s' I2 hq'
 |ok fl=>
  cases fl with
  |ret u=>
   obtain⟨v,H',I3,rv,ev,q3⟩:=I2.after hq'
   subst ev
   exact⟨rv,⟨V.ref (s.heap.objs.size+1),H',I3,rfl,q3⟩⟩
  |next=>exact False.elim hq'
  |brk=>exact False.elim hq'
  |cont=>exact False.elim hq'
theorem xW (M:Mk X.K C f)(F:zA X.prog X.w X.K X.mg X.base CX k f fd ps sp)(hr:zR (k+1) X.A)(hg:Gl X x)(hm:X.mg x=some (.ref C))(hb:Binds X.K fd ps ds)(hd:Vals dvs ds)(hx:Passes CX X E)
  (ha:PA X (e::es) t) (hdb:(x == ("__debug__":Str))=false:=by decide) (he:starEach (e::es) X.env=(false,eval e X.env)::starEach es X.env:=by rfl) (hpl:(backTo pos (starEach es X.env)).any (·.1)=false:=by rfl):
  PE X (.Call (.Name x p) (e::es) [] pos) (zi1 C sp dvs E t):=by
 intro pins s σ H Q I h
 refine zv7 (xX I hg hm ?_ hdb)
 refine zw7 (h₀:=X.base) I.ok.mod.kin M.kp (thn (ha pos pins s σ H _ I h) fun us s1 ⟨vs,H1,I1,r,q⟩=>⟨I1.kIn,?_⟩) he hpl
 exact fb M F hr hb hd hx I1 r q
end
section
variable {X:Cx}{CX:CXT}{k:Nat}{f C:Addr}{fd:FuncData}{ps ks:List Str}{sp:Sp}{E:XK}{x m:Str}{p pos apos kpos:Pos}{e o:Expr}{es:List Expr}{kws:List Keyword}{te ta:TE}{t tk:TA}{nm:Option Str}
variable {g:List Value→List Value→List Value}{gV:List V→List V→List V}
end
structure zi (N P:List Str)(sc:Scope):Prop where
 kind:sc.kind=.function
 co:sc.isCoroutine=false
 gen:sc.isGenerator=false
 nd:N.Nodup
 pre:N.take P.length=P
 par:∀x∈P,sc.names.lookup x=some .local∨sc.names.lookup x=some .cell
 nofree:∀y∈sc.names,y.2≠.free
theorem rY {kindOf:Str→Option NameKind}{x:Str}:∀{binds:List (Str×Value)} {m:Str→Option Value},(∀v,(x,v)∉binds)→bindL kindOf binds m x=m x
 |[],_,_=>rfl
 |(n,v)::r,m,h=>by
  unfold bindL
  rw[rY fun w hw=>h w (zq0 _ hw)]
  split
  ·have:x≠n:=by rintro rfl;exact h v zq1
   simp[this]
  ·rfl
theorem qi {kindOf:Str→Option NameKind}{x:Str}:∀{binds:List (Str×Value)} {m:Str→Option Value},(∀v,(x,v)∉binds)→bindC kindOf binds m x=m x
 |[],_,_=>rfl
 |(n,v)::r,m,h=>by
  unfold bindC
  rw[qi fun w hw=>h w (zq0 _ hw)]
  split
  ·rfl
  ·have:x≠n:=by rintro rfl;exact h v zq1
   simp[this]
theorem qu {kindOf:Str→Option NameKind}{x:Str}{v:Value}:∀{P:List Str} {vs:List Value} {i:Nat} {m:Str→Option Value},P.Nodup→P[i]?=some x→vs[i]?=some v→kindOf x=some .local→
  bindL kindOf (P.zip vs) m x=some v
 |[],_,_,_,_,h,_,_=>by simp at h
 |_::_,[],_,_,_,_,h,_=>by simp at h
 |p::P,w::vs,0,m,nd,h1,h2,hk=>by
  simp at h1 h2;subst h1;subst h2
  show bindL kindOf ((p,w)::P.zip vs) m p=_
  unfold bindL
  rw[rY fun v hv=>(zA3.mp nd).1 (List.of_mem_zip hv).1,if_pos hk]
  simp
 |p::P,w::vs,i+1,m,nd,h1,h2,hk=>by
  show bindL kindOf ((p,w)::P.zip vs) m x=_
  unfold bindL
  exact qu (i:=i) (zA3.mp nd).2 (by simpa using h1) (by simpa using h2) hk
theorem qf {kindOf:Str→Option NameKind}{x:Str}{v:Value}:∀{P:List Str} {vs:List Value} {i:Nat} {m:Str→Option Value},P.Nodup→P[i]?=some x→vs[i]?=some v→kindOf x≠some .local→
  bindC kindOf (P.zip vs) m x=some v
 |[],_,_,_,_,h,_,_=>by simp at h
 |_::_,[],_,_,_,_,h,_=>by simp at h
 |p::P,w::vs,0,m,nd,h1,h2,hk=>by
  simp at h1 h2;subst h1;subst h2
  show bindC kindOf ((p,w)::P.zip vs) m p=_
  unfold bindC
  rw[qi fun v hv=>(zA3.mp nd).1 (List.of_mem_zip hv).1,if_neg hk]
  simp
 |p::P,w::vs,i+1,m,nd,h1,h2,hk=>by
  show bindC kindOf ((p,w)::P.zip vs) m x=_
  unfold bindC
  exact qf (i:=i) (zA3.mp nd).2 (by simpa using h1) (by simpa using h2) hk
def start (N:List Str)(vs:List V):St:=vs.map some++List.replicate (N.length-vs.length) none
def wq (CX:CXT)(P:Program)(w:World)(K:PySem.W.Frag)(mg:Str→Option Value)(base:Heap)(N:List Str)(qual:Str)(scope:Scope)(f:Addr)(cd:Value)(A:Around)(outer:List Env)(s:Shared)(H:Hp)(E:XK):Cx where
 prog:=P
 w:=w
 K:=K
 mg:=mg
 base:=base
 A:=A.deeper (envOfC qual scope s.heap.objs.size f cd)
 N:=N
 s₀:=s
 H₀:=H
 env:=envOfC qual scope s.heap.objs.size f cd
 outer:=outer
 stack:=envOfC qual scope s.heap.objs.size f cd::outer
 ex:=[]
 calm:=true
 fn:=fun _=>true
 pn:=[]
 xe:=fun e s'=>wpAny (model P w) (A.deeper (envOfC qual scope s.heap.objs.size f cd)) (leaving (envOfC qual scope s.heap.objs.size f cd) e) (fun _ s''=>CX outer H s E e s'') (fun e' s''=>CX outer H s E e' s'') s'
theorem nC {sc:Scope}{n:Nat}{x:Str}(h:sc.names.lookup x=some .cell):∃c,(cellsFrom n sc.names []).lookup x=some c:=by
 have q:=PySem.W.cellsFrom_some sc.names n [] (.inl h)
 exact Option.isSome_iff_exists.mp q
theorem jx {CX:CXT}{P:Program}{w:World}{K:PySem.W.Frag}{mg:Str→Option Value}{base:Heap}{N ps:List Str}{qual:Str}{scope:Scope}{f:Addr}{cd:Value}{A:Around}{outer:List Env}{s s1:Shared}{H:Hp}{E:XK}{us:List Value}{vs:List V}
  (S:zi N ps scope) (hd:A.handled=none) (e0:lE P w K mg base A outer s H) (hl:vs.length=ps.length) (r:Vals vs us)
  (x:InCallC s s.heap.objs.size (bindL (envOfC qual scope s.heap.objs.size f cd).kindOf (ps.zip us) fun _=>none) (cellsFrom (s.heap.objs.size+1) scope.names []) (bindC (envOfC qual scope s.heap.objs.size f cd).kindOf (ps.zip us) fun _=>none) s1):
  Inv (wq CX P w K mg base N qual scope f cd A outer s H E) [] (start N vs) H s1:=by
 have hpl:ps.length≤N.length:=by have:=congrArg List.length S.pre;rw[zv6] at this;omega
 obtain⟨h1,tk,rfl,hk⟩:=x.done
 have noA:∀b:Addr,b∉(wq CX P w K mg base N qual scope f cd A outer s H E).ex:=fun b z=>absurd (show b∈([]:List Addr) from z) (by simp)
 refine⟨⟨e0.mod,S.kind,rfl,rfl,zp8 _,fun y z c h1 h2=>?_,fun y hy=>?_,fun y c _ h=>?_,fun _=>hd,Around.frames_deeper e0.frames,.inr ⟨rfl,rfl⟩,fun b z=>absurd z (noA b),e0.bs,e0.bsz,fun b _ _=>noA b,fun b z=>absurd z (noA b),e0.funs,e0.frf⟩,
  rfl,e0.bare,Un.kept hk,⟨_,x.toInCall.ns,fun i y v h1 h2 h3=>?_⟩,fun y c h=>⟨_,x.cell y c h⟩,e0.hok.fresh (zp8 _),fun y c h=>?_,fun p hp=>absurd (show p∈([]:List (Addr×Obj)) from hp) (by simp),e0.hok.kept hk,?_⟩
 ·exact name_of_addr x.apart (zu8 h1) (zu8 h2)
 ·have hy:scope.names.lookup y=some .cell∨scope.names.lookup y=some .free:=hy
  rcases hy with hy|hy
  ·exact nC hy
  ·exact absurd rfl (S.nofree _ (zu8 hy))
 ·exact zv3 (x.above y c (zu8 h))
 ·have hi:i<vs.length:=by
   unfold start at h2
   by_cases hi:i<vs.length
   ·exact hi
   ·rw[zs8 (by simpa using hi)] at h2
    rw[zu4] at h2
    split at h2<;>cases h2
  have ha:vs[i]?=some v:=by
   unfold start at h2
   rw[zr8 (by simpa using hi),zq7] at h2
   cases e:vs[i]? with
   |none=>rw[e] at h2;cases h2
   |some a=>rw[e] at h2;cases h2;rfl
  obtain⟨u,hu,rv⟩:=r.get ha
  have hp:ps[i]?=some y:=by
   rw[←S.pre,List.getElem?_take_of_lt (by omega)];exact h1
  have ndP:ps.Nodup:=by rw[←S.pre];exact S.nd.sublist (List.take_sublist _ _)
  refine⟨u,rv,?_⟩
  rcases S.par y (zt0 hp) with k|k
  ·exact .inl ⟨k,qu ndP hp hu k⟩
  ·obtain⟨c,e⟩:=nC (n:=s.heap.objs.size+1) k
   refine .inr ⟨.inl k,c,e,?_⟩
   have q:=x.cell y c e
   rw[qf ndP hp hu (by show scope.names.lookup y≠_;rw[k];decide)] at q
   exact q
 ·exact e0.hok.fresh (zv3 (x.above y c (zu8 h)))
 ·unfold start
  show _=N.length
  rw[zq4,zp2,zy3]
  omega
theorem eP {CX:CXT}{P:Program}{w:World}{K:PySem.W.Frag}{mg:Str→Option Value}{base:Heap}{k:Nat}{f:Addr}{name qual:Str}{params:Arguments}{body:List Stmt}{scope:Scope}{dV kV doc pm cdv ct oc:Value}{an od:Option Addr}
  {osl:Array (Option Value)} {N ps:List Str} {sp:Sp} (lk:K.lookup f=some ⟨oc,od,.func (PySem.W.fnOf name qual params body scope dV kV doc pm an cdv ct),osl⟩) (hcd:PySem.W.codeIn K cdv qual=true) (S:zi N ps scope)
  (len:∀vs H Q E,sp vs H Q E→vs.length=ps.length)
  (hbody:∀(A:Around) (outer:List Env) (s:Shared) (H:Hp) (vs:List V) (Q:VK) (E:XK),zR k (A.deeper (envOfC qual scope s.heap.objs.size f cdv))→sp vs H Q E→
   ∃t,PSs (wq CX P w K mg base N qual scope f cdv A outer s H E) body t∧t {nx:=fun _ H'=>Q .non H',rt:=Q} (start N vs) H):
  zA P w K mg base CX (k+1) f (PySem.W.fnOf name qual params body scope dV kV doc pm an cdv ct) ps sp:=by
 refine⟨len,fun A outer s H args us vs Q E hr e0 hb r hsp=>?_⟩
 have hl:=len _ _ _ _ hsp
 have KX:K.In s.heap:=e0.mod.kin.keeps fun b o e=>(e0.bs b o e).1
 have lim:s.heap.NoLimit:=e0.mod.nolimit.keeps fun b o e=>(e0.bs b o e).1
 have hkind:∀y∈ps.zip us,scope.names.lookup y.1=some .local∨(scope.names.lookup y.1=some .cell∧((cellsFrom (s.heap.objs.size+1) scope.names []).lookup y.1).isSome=true):=fun⟨n,v⟩ hy=>by
  rcases S.par n (List.of_mem_zip hy).1 with q|q
  ·exact .inl q
  ·exact .inr ⟨q,PySem.W.cellsFrom_some _ _ _ (.inl q)⟩
 refine codeAny_call_function hr.depth (KX _ _ lk) rfl S.co S.gen rfl (PySem.W.codeRec_of KX hcd) (hb _ _ _ _ ?_)
 refine wpAny_newFunctionEnv_cells S.kind hkind fun env he s1 x=>?_
 subst he
 refine⟨lim.keeps x.toInCall.keep,codeAny_func ?_⟩
 obtain⟨t,ht,hq⟩:=hbody A outer s H vs Q E (hr.deeper _) hsp
 have I:Inv (wq CX P w K mg base N qual scope f cdv A outer s H E) [] (start N vs) H s1:=jx S hr.hd e0 hl r x
 refine zt2 (ht [] s1 (start N vs) H _ I hq) (fun fl s' hs=>?_) fun e s' hs=>hs
 have fin:∀{σ':St} {H':Hp} {v:V} {u:Value},Inv (wq CX P w K mg base N qual scope f cdv A outer s H E) [] σ' H' s'→RelV v u→Q v H'→CE outer P w H s Q u s':=
  fun {σ' H' v u} J rv q=>⟨v,H',J.os,J.bare,J.base,J.hok,rv,q⟩
 cases fl with
 |ret u=>
  obtain⟨v,σ',H',J,rv,q⟩:=hs
  exact fin J rv q
 |next=>
  obtain⟨σ',H',J,q⟩:=hs
  exact fin (v:=V.non) (u:=Value.none) J rfl q
 |brk=>
  obtain⟨_,_,_,q⟩:=hs
  exact False.elim q
 |cont=>
  obtain⟨_,_,_,q⟩:=hs
  exact False.elim q
section
variable {X:Cx}{x:Str}{p pos:Pos}{e:Expr}{es:List Expr}{t:TA}{id T:String}{r:List V→Hp→VK→Prop}
def tCB (r:List V→Hp→VK→Prop)(t:TA):TE:=fun σ H Q=>t σ H fun vs H1=>r vs H1 Q
theorem yz (hc:xQ X (.builtin id) r)(hg:Gl X x)(hm:X.mg x=none)(hv:bootBuiltins x=some (.builtin id))(ha:PA X (e::es) t)(hn:x≠"__name__":=by decide)(hdb:(x == ("__debug__":Str))=false:=by decide)
  (he:starEach (e::es) X.env=(false,eval e X.env)::starEach es X.env:=by rfl) (hpl:(backTo pos (starEach es X.env)).any (·.1)=false:=by rfl):PE X (.Call (.Name x p) (e::es) [] pos) (tCB r t):=by
 intro pins s σ H Q I h
 refine zv7 (vk I hg hm hv ?_ hn hdb)
 exact PyProof.Rows.callWith_builtin1 (thn (ha pos pins s σ H _ I h) fun us s1 ⟨vs,H1,I1,r1,q1⟩=>hc pins s1 σ H1 vs us Q I1 r1 q1) he hpl
theorem vp (hc:xQ X (.type T) r)(hg:Gl X x)(hm:X.mg x=none)(hv:bootBuiltins x=some (.type T))(ha:PA X (e::es) t)(hn:x≠"__name__":=by decide)(hdb:(x == ("__debug__":Str))=false:=by decide)
  (he:starEach (e::es) X.env=(false,eval e X.env)::starEach es X.env:=by rfl) (hpl:(backTo pos (starEach es X.env)).any (·.1)=false:=by rfl):PE X (.Call (.Name x p) (e::es) [] pos) (tCB r t):=by
 intro pins s σ H Q I h
 refine zv7 (vk I hg hm hv ?_ hn hdb)
 exact zu3 (thn (ha pos pins s σ H _ I h) fun us s1 ⟨vs,H1,I1,r1,q1⟩=>hc pins s1 σ H1 vs us Q I1 r1 q1) he hpl
end
end L2
namespace HT
open PySem PyProof.Rows
section
open PySem.SeqAt
open PySem.AutoSeq1 (wpAny_loadPart')
open PySem.MeetsSeq PySem.MeetsSeq2 PySem.MeetsSeq3
end
section
variable {prog:Program}{w:World}{A:Around}{E:Value→Shared→Prop}{s:Shared}
def sIx (n d:Nat):Option Int→Nat
 |none=>d
 |some v=>if v<0 then (v+(n:Int)).toNat else min v.toNat n
end
end HT
namespace L2
open PySem PySem.Spec PyProof.Rows
abbrev TO :=St→Hp→(Option Int→Hp→Prop)→Prop
def PO (X:Cx)(e:Option Expr)(t:TO):Prop:=
 ∀(pins:List (Addr×Obj)) (s:Shared) (σ:St) (H:Hp) (Q:Option Int→Hp→Prop),Inv X pins σ H s→t σ H Q→
  wpAny (model X.prog X.w) X.A (evalPart e X.env) (fun u s'=>∃o H',Inv X pins σ H' s'∧IsPart u o∧Q o H') X.xe s
def dY :TO:=fun _ H Q=>Q none H
def zh7 (t:TE):TO:=fun σ H Q=>t σ H fun x H1=>∃i,x=.int i∧Q (some i) H1
section
variable {X:Cx}{e:Expr}{te:TE}{lo hi:Option Expr}{tl th:TO}{pos p2:Pos}
theorem cy :PO X none dY:=by
 intro pins s σ H Q I h
 rw[evalPart_none]
 exact zq9 ⟨none,H,I,.none,h⟩
theorem bG (h:PE X e te):PO X (some e) (zh7 te):=by
 intro pins s σ H Q I hw
 rw[evalPart_some]
 refine thn (h pins s σ H _ I hw) fun u s1 ⟨x,H1,I1,r1,q1⟩=>?_
 obtain⟨i,rfl,q⟩:=q1
 obtain⟨t,rfl⟩:=r1
 exact⟨some i,H1,I1,.int i t,q⟩
def SlR (X:Cx)(r:V→Option Int→Option Int→Hp→VK→Prop):Prop:=
 ∀(pins:List (Addr×Obj)) (s:Shared) (σ:St) (H:Hp) (x:V) (v vl vu:Value) (lo hi:Option Int) (sl:Addr) (Q:VK),Inv X pins σ H s→RelV x v→s.heap.IsSliceOf sl vl vu .none→IsPart vl lo→IsPart vu hi→r x lo hi H Q→
  ∃T id,typeLookup (.type T) "__getitem__"=pure (some (.builtin id))∧s.TypeIs v T∧wpAny (model X.prog X.w) X.A (getItem v (.ref sl)) (EP X pins σ Q) X.xe s
def tSl (r:V→Option Int→Option Int→Hp→VK→Prop)(te:TE)(tl th:TO):TE:=fun σ H Q=>te σ H fun x H1=>tl σ H1 fun l H2=>th σ H2 fun u H3=>r x l u H3 Q
theorem eZ {r:V→Option Int→Option Int→Hp→VK→Prop}(hr:SlR X r)(he:PE X e te)(hl:PO X lo tl)(hu:PO X hi th):PE X (.Subscript e (.Slice lo hi none p2) pos) (tSl r te tl th):=by
 intro pins s σ H Q I h
 refine Subscript_ (thn (he pins s σ H _ I h) fun v s1 ⟨x,H1,I1,r1,q1⟩=>?_)
 refine wpAny_Slice (thn (hl pins s1 σ H1 _ I1 q1) fun vl s2 ⟨l,H2,I2,pl,q2⟩=>thn (hu pins s2 σ H2 _ I2 q2) fun vu s3 ⟨u,H3,I3,pu,q3⟩=>?_)
 rw[evalPart_none]
 refine zq9 ?_
 have I4:Inv X pins σ H3 {s3 with heap:=s3.heap.push {cls:=.type "slice",data:=.fields #[vl,vu,.none]}}:=I3.kept (t':=s3.toks) fun b ob q=>zp6 _ q
 obtain⟨T,id,hT,ht,hg⟩:=hr pins {s3 with heap:=s3.heap.push {cls:=.type "slice",data:=.fields #[vl,vu,.none]}} σ H3 x v vl vu l u s3.heap.objs.size Q I4 r1 (Heap.IsSliceOf.new ..) pl pu q3
 show wpAny (model X.prog X.w) X.A (subscriptTail e (.Slice lo hi none p2) v (.ref s3.heap.objs.size)) (EP X pins σ Q) X.xe {s3 with heap:=s3.heap.push {cls:=.type "slice",data:=.fields #[vl,vu,.none]}}
 exact tail_any (ops:=[.ref s3.heap.objs.size,v]) ht hT hg (by with_unfolding_all rfl)
def iw (xs:List V)(lo hi:Option Int):List V:=(xs.drop (HT.sIx xs.length 0 lo)).take (HT.sIx xs.length xs.length hi-HT.sIx xs.length 0 lo)
theorem oW (xs:List V)(lo hi:Option Int):(iw xs lo hi).length≤xs.length:=by
 unfold iw
 rw[zv6,List.length_drop]
 omega
end
def ixN (n:Nat)(i:Int):Option Nat:=if 0≤i then (if i<n then some i.toNat else none) else if -(n:Int)≤i then some (i+n).toNat else none
def atI {α:Type}(xs:List α)(i:Int):Option α:=(ixN xs.length i).bind fun j=>xs[j]?
theorem kh {n:Nat}{i:Int}{j:Nat}(h:ixN n i=some j):seqIndex? i n=some j∧j<n∧-(n:Int)≤i∧i<n:=by
 unfold ixN at h
 by_cases h0:0≤i
 ·rw[if_pos h0] at h
  by_cases h1:i<n
  ·rw[if_pos h1] at h
   have e:i.toNat=j:=zs7 h
   exact⟨by rw[seqIndex_of h0 h1,e],by omega,by omega,h1⟩
  ·rw[if_neg h1] at h;cases h
 ·rw[if_neg h0] at h
  by_cases h1:-(n:Int)≤i
  ·rw[if_pos h1] at h
   have e:(i+n).toNat=j:=zs7 h
   exact⟨by rw[seqIndex_neg (by omega) h1,e],by omega,h1,by omega⟩
  ·rw[if_neg h1] at h;cases h
theorem pQ {α:Type}{xs:List α}{i:Int}{v:α}(h:atI xs i=some v):∃j,seqIndex? i xs.length=some j∧xs[j]?=some v∧j<xs.length∧-(xs.length:Int)≤i∧i<xs.length:=by
 unfold atI at h
 cases e:ixN xs.length i with
 |none=>rw[e] at h;cases h
 |some j=>
  rw[e] at h
  obtain⟨h1,h2,h3,h4⟩:=kh e
  exact⟨j,h1,h,h2,h3,h4⟩
theorem dD {α:Type}{xs:List α}{j:Nat}{v:α}(h:xs[j]?=some v):atI xs (j:Int)=some v:=by
 have hj:j<xs.length:=(zp5.mp h).1
 have e:ixN xs.length (j:Int)=some j:=by
  unfold ixN
  rw[if_pos (by omega),if_pos (by omega)];simp
 unfold atI;rw[e];exact h
def tH (b:Expr):Prop:=∀o i,subscripted b false o i=operate [o,i] (getItem o i)
def IxR (X:Cx)(r:R2):Prop:=
 ∀(value slice:Expr) (pins:List (Addr×Obj)) (s:Shared) (σ:St) (H:Hp) (x y:V) (v u:Value) (Q:VK),Inv X pins σ H s→RelV x v→RelV y u→r x y H Q→
  subscripted slice false v u=operate [v,u] (getItem v u)→wpAny (model X.prog X.w) X.A (subscriptTail value slice v u) (EP X pins σ Q) X.xe s
def MtR (X:Cx)(id:String)(r:V→List V→Hp→VK→Prop):Prop:=
 ∀(pins:List (Addr×Obj)) (s:Shared) (σ:St) (H:Hp) (x:V) (xs:List V) (v:Value) (us:List Value) (Q:VK),Inv X pins σ H s→RelV x v→Vals xs us→r x xs H Q→
  wpAny (model X.prog X.w) X.A (call (.builtin id) (v::us)) (EP X pins σ Q) X.xe s
section
variable {X:Cx}{a b:Expr}{ta tb:TE}{pos:Pos}
theorem IxR.or {r r':R2}(h:IxR X r)(h':IxR X r'):IxR X (fun x y H Q=>r x y H Q∨r' x y H Q):=by
 intro value slice pins s σ H x y v u Q I rx ry q hs
 rcases q with q|q
 ·exact h value slice pins s σ H x y v u Q I rx ry q hs
 ·exact h' value slice pins s σ H x y v u Q I rx ry q hs
theorem yn {r:R2}(hr:IxR X r)(ha:PE X a ta)(hb:PE X b tb)(hs:tH b):PE X (.Subscript a b pos) (tOp r ta tb):=by
 intro pins s σ H Q I h
 exact Subscript_ (zb1 ha hb I h fun v u s2 x y H2 I2 rx ry q=>hr a b pins s2 σ H2 x y v u Q I2 rx ry q (hs _ _))
def zd3 (K:PySem.W.Frag):R2:=fun x y H Q=>∃p xs i v,x=.ref p∧y=.int i∧SqL K H p xs∧atI xs i=some v∧Q v H
def zc7 (K:PySem.W.Frag):R2:=fun x y H Q=>∃p xs i v,x=.ref p∧y=.int i∧SqT K H p xs∧atI xs i=some v∧Q v H
def zi2 :R2:=fun x y H Q=>∃z i c,x=.str z∧y=.int i∧z.length≤sizeLine∧atI z.cps.toList i=some c∧Q (.str ⟨#[c]⟩) H
theorem xx :IxR X (zd3 X.K):=by
 intro value slice pins s σ H x y v u Q I rx ry h hs
 obtain⟨p,xs,i,z,rfl,rfl,hq,he,q⟩:=h
 cases rx
 obtain⟨t,rfl⟩:=ry
 obtain⟨its,r,pl,hz⟩:=I.list hq
 obtain⟨j,h1,h2,h3,h4,h5⟩:=pQ he
 obtain⟨w,ew,rw'⟩:=r.get h2
 have hl:=r.length
 have hn:=uL
 have fin:EP X pins σ Q w s:=⟨z,H,I,rw',q⟩
 by_cases h0:0≤i
 ·have hj:i.toNat=j:=by
   rw[seqIndex_of h0 h5] at h1
   exact zs7 h1
  exact item_listR pl.isList h0 (by omega) (by rw[hj];simpa using ew) fin hs
 ·have hj:(i+(its.toArray.size:Int)).toNat=j:=by
   rw[seqIndex_neg (by omega) h4] at h1
   rw[zq6,←hl]
   exact zs7 h1
  exact subscriptTail_builtinR (x:=w) pl.isList.typeIs slot_list_getitem.lookup
   (wpAny_getItem_list_neg (Q:=fun r s'=>r=w∧EP X pins σ Q r s') pl.isList (by omega) (by rw[zq6]<;>omega) (by omega) (by rw[hj];simpa using ew) ⟨rfl,fin⟩) hs
theorem yv :IxR X (zc7 X.K):=by
 intro value slice pins s σ H x y v u Q I rx ry h hs
 obtain⟨p,xs,i,z,rfl,rfl,hq,he,q⟩:=h
 cases rx
 obtain⟨t,rfl⟩:=ry
 obtain⟨its,r,pl,hz⟩:=I.tuple hq
 obtain⟨j,h1,h2,h3,h4,h5⟩:=pQ he
 obtain⟨w,ew,rw'⟩:=r.get h2
 have hl:=r.length
 have hn:=uL
 have fin:EP X pins σ Q w s:=⟨z,H,I,rw',q⟩
 exact subscriptTail_builtinR (x:=w) pl.typeIs slot_tuple_getitem.lookup
  (getItem_tuple (j:=j) (Q:=fun r s'=>r=w∧EP X pins σ Q r s') pl (by omega) (by omega) (by rw[zq6,←hl];exact h1) (by simpa using ew) ⟨rfl,fin⟩) hs
theorem aQ :IxR X zi2:=by
 intro value slice pins s σ H x y v u Q I rx ry h hs
 obtain⟨z,i,c,rfl,rfl,hz,he,q⟩:=h
 obtain⟨t,rfl⟩:=rx
 obtain⟨t',rfl⟩:=ry
 obtain⟨j,h1,h2,h3,h4,h5⟩:=pQ he
 have hl:z.cps.toList.length=z.length:=by simp[Str.length]
 rw[hl] at h1 h4 h5
 have hn:=uL
 exact tail_any (typeIs_str s z t) slot_str_getitem.lookup (getItem_str (c:=c) (by
  have e1:decide (i < -(2 ^ 63:Int))=false:=zs9 (by omega)
  have e2:decide (i≥2 ^ 63)=false:=zs9 (by omega)
  rw[e1,e2,Bool.or_false]) (by rw[h1];simpa using h2) ⟨.str ⟨#[c]⟩,H,I.tok _,⟨_,rfl⟩,q⟩) hs
def rIx (K:PySem.W.Frag):R2:=fun x y H Q=>zd3 K x y H Q∨zc7 K x y H Q∨zi2 x y H Q
theorem zd1 :IxR X (rIx X.K):=xx.or (yv.or aQ)
theorem nS (its:List Value)(n j:Nat)(u:Value):Obj.mapSeq (·.setIfInBounds j u) {cls:=.type "list",data:=.seq its.toArray n}={cls:=.type "list",data:=.seq (its.set j u).toArray n}:=by
 simp[Obj.mapSeq]
theorem Inv.lst {pins:List (Addr×Obj)}{σ:St}{H:Hp}{s:Shared}{p:Addr}{xs:List V}(I:Inv X pins σ H s)(h:H p=some (.lst xs)):
  ∃(its:List Value) (n:Nat),Vals xs its∧s.heap.get? p=some {cls:=.type "list",data:=.seq its.toArray n}∧xs.length≤sizeLine:=by
 obtain⟨z,its,n,r,e⟩:=I.hok p _ h
 exact⟨its,n,r,e,z⟩
theorem Inv.lstUpd {pins:List (Addr×Obj)}{σ:St}{H:Hp}{s:Shared}{p:Addr}{xs ys:List V}{its its':List Value}{n n':Nat}{f:Obj→Obj}(I:Inv X pins σ H s)(h:H p=some (.lst xs))
  (ho:s.heap.get? p=some {cls:=.type "list",data:=.seq its.toArray n}) (hf:f {cls:=.type "list",data:=.seq its.toArray n}={cls:=.type "list",data:=.seq its'.toArray n'}) (r:Vals ys its') (hz:ys.length≤sizeLine) (t:Nat):
  Inv X pins σ (upd H p (.lst ys)) {s with heap:=s.heap.update p f,toks:=t}:=by
 have e:(s.heap.update p f).get? p=some {cls:=.type "list",data:=.seq its'.toArray n'}:=by
  rw[zv8 f ho (by rw[hf]<;>rfl),hf]
 refine I.write (x:=p) (e:=p) (by rw[h];trivial) (.inl rfl) (fun b u hb q=>(zr4 _ _ (zx0 hb)).trans q) ⟨_,e⟩ ?_
 exact⟨hz,its',n',r,e⟩
def zh8 :V→V→V→Hp→(Hp→Prop)→Prop:=fun o i v H Q=>∃p xs k j,o=.ref p∧i=.int k∧H p=some (.lst xs)∧ixN xs.length k=some j∧Q (upd H p (.lst (xs.set j v)))
theorem set_list :zj6 X zh8:=by
 intro pins s σ H o i v ov iv u Q I ro ri rv h
 obtain⟨p,xs,k,j,rfl,rfl,hp,hj,q⟩:=h
 cases ro
 obtain⟨t,rfl⟩:=ri
 obtain⟨its,n,r,ho,hz⟩:=I.lst hp
 obtain⟨h1,h2,h3,h4⟩:=kh hj
 have hl:=r.length
 have hn:=uL
 have I':Inv X pins σ (upd H p (.lst (xs.set j v))) {s with heap:=s.heap.update p (Obj.mapSeq (·.setIfInBounds j u))}:=
  I.lstUpd hp ho (nS its n j u) (r.set rv j) (by rw[zr2];exact hz) s.toks
 by_cases h0:0≤k
 ·have hk:k.toNat=j:=by
   rw[seqIndex_of h0 h4] at h1
   exact zs7 h1
  exact PySem.W.ki_setAt ho h0 (by omega) (by rw[zq6,←hl];exact h4) (by rw[hk];exact⟨_,I',q⟩)
 ·have hk:(k+(its.toArray.size:Int)).toNat=j:=by
   rw[seqIndex_neg (by omega) h3] at h1
   rw[zq6,←hl]
   exact zs7 h1
  exact PySem.W.ki_setBack ho (by omega) (by rw[zq6,←hl];exact h3) (by omega) (by rw[hk];exact⟨_,I',q⟩)
theorem qI (lo hi:Option Int)(n:Nat):(sliceBounds lo hi none n).1=((HT.sIx n 0 lo:Nat):Int)∧(sliceBounds lo hi none n).2.1=((HT.sIx n n hi:Nat):Int)∧(sliceBounds lo hi none n).2.2=1:=by
 refine⟨?_,?_,rfl⟩
 ·cases lo with
  |none=>simp[sliceBounds,HT.sIx]
  |some i=>
   simp only[sliceBounds,HT.sIx,Option.getD_none,show (1:Int) > 0 by decide,if_true]
   by_cases h:i<0
   ·simp only[h,if_true]<;>omega
   ·simp only[h,if_false]<;>omega
 ·cases hi with
  |none=>simp[sliceBounds,HT.sIx]
  |some i=>
   simp only[sliceBounds,HT.sIx,Option.getD_none,show (1:Int) > 0 by decide,if_true]
   by_cases h:i<0
   ·simp only[h,if_true]<;>omega
   ·simp only[h,if_false]<;>omega
theorem rz (its:List Value)(lo hi:Option Int):slicePick its.toArray lo hi none=((its.drop (HT.sIx its.length 0 lo)).take (HT.sIx its.length its.length hi-HT.sIx its.length 0 lo)).toArray:=by
 obtain⟨h1,h2,h3⟩:=qI lo hi its.toArray.size
 unfold slicePick
 rw[h1,h2,h3]
 simp only[sliceRange_one,pick_run,zq6]<;>rfl
def zm3 (K:PySem.W.Frag):V→Option Int→Option Int→Hp→VK→Prop:=fun x lo hi H Q=>∃a xs,x=.ref a∧SqL K H a xs∧∀p,H p=none→Q (.ref p) (upd H p (.lst (iw xs lo hi)))
theorem dr :SlR X (zm3 X.K):=by
 intro pins s σ H x v vl vu lo hi sl Q I rx hs pl pu h
 obtain⟨a,xs,rfl,hx,q⟩:=h
 cases rx
 obtain⟨its,r,ht,hz⟩:=I.list hx
 have hlen:=r.length
 refine⟨"list",_,slot_list_getitem.lookup,ht.isList.typeIs,?_⟩
 refine wpAny_getItem_list_slice ht.isList hs pl pu .none (by simp) ?_ (by rw[zq6]<;>omega)
 rw[rz,←hlen]
 refine⟨.ref s.heap.objs.size,_,I.laid (t':=s.toks) (o:=.lst (iw xs lo hi)) (fun b ob q=>zp6 _ q) (zp8 _) ?_,rfl,q _ (I.hok.fresh (zp8 _))⟩
 exact⟨zt6 (oW xs lo hi) hz,_,0,(r.drop (HT.sIx xs.length 0 lo)).take (HT.sIx xs.length xs.length hi-HT.sIx xs.length 0 lo),zr7 _ rfl⟩
def vJ :V→Bool
 |.non=>true
 |.bl _=>true
 |.int _=>true
 |.str _=>true
 |_=>false
def eqV :V→V→Bool
 |.non,.non=>true
 |.bl a,.bl b=>a == b
 |.bl a,.int b=>(if a then 1 else 0)==b
 |.int a,.bl b=>a == (if b then 1 else 0)
 |.int a,.int b=>a == b
 |.str a,.str b=>a == b
 |_,_=>false
theorem za8 {A:Around}{s:Shared}{y x:V}{u v:Value}(ry:RelV y u)(rx:RelV x v)(fy:vJ y=true)(fx:vJ x=true):SeqAt.EqAt A s u v (eqV y x):=by
 cases y with
 |non=>
  cases ry
  cases x with
  |non=>cases rx;exact SeqAt.EqAt.same _
  |bl b=>cases rx;exact SeqAt.EqAt.none_bool b
  |int b=>obtain⟨t,rfl⟩:=rx;exact SeqAt.EqAt.none_int b t
  |str b=>obtain⟨t,rfl⟩:=rx;exact SeqAt.EqAt.none_str b t
  |_=>exact absurd (show false=true from fx) zq2
 |bl a=>
  cases ry
  cases x with
  |non=>cases rx;exact SeqAt.EqAt.bool_none a
  |bl b=>cases rx;exact SeqAt.EqAt.bool_bool a b
  |int b=>obtain⟨t,rfl⟩:=rx;exact SeqAt.EqAt.bool_int a b t
  |str b=>obtain⟨t,rfl⟩:=rx;exact SeqAt.EqAt.bool_str a b t
  |_=>exact absurd (show false=true from fx) zq2
 |int a=>
  obtain⟨t',rfl⟩:=ry
  cases x with
  |non=>cases rx;exact SeqAt.EqAt.int_none a t'
  |bl b=>cases rx;exact SeqAt.EqAt.int_bool a t' b
  |int b=>obtain⟨t,rfl⟩:=rx;exact SeqAt.EqAt.int_int a t' b t
  |str b=>obtain⟨t,rfl⟩:=rx;exact SeqAt.EqAt.int_str a t' b t
  |_=>exact absurd (show false=true from fx) zq2
 |str a=>
  obtain⟨t',rfl⟩:=ry
  cases x with
  |non=>cases rx;exact SeqAt.EqAt.str_none a t'
  |bl b=>cases rx;exact SeqAt.EqAt.str_bool a t' b
  |int b=>obtain⟨t,rfl⟩:=rx;exact SeqAt.EqAt.str_int a t' b t
  |str b=>obtain⟨t,rfl⟩:=rx;exact SeqAt.EqAt.str_str a t' b t
  |_=>exact absurd (show false=true from fx) zq2
 |_=>exact absurd (show false=true from fy) zq2
def eqU (x:V)(u:Value):Bool:=match u with
 |.none=>eqV .non x
 |.bool b=>eqV (.bl b) x
 |.int i _=>eqV (.int i) x
 |.str z _=>eqV (.str z) x
 |_=>false
theorem iH {x y:V}{u:Value}(r:RelV y u)(f:vJ y=true):eqU x u=eqV y x:=by
 cases y with
 |non=>cases r;rfl
 |bl b=>cases r;rfl
 |int i=>obtain⟨t,rfl⟩:=r;rfl
 |str z=>obtain⟨t,rfl⟩:=r;rfl
 |_=>exact absurd (show false=true from f) zq2
theorem uB {x:V}:∀{xs:List V} {us:List Value},Vals xs us→xs.all vJ=true→us.any (eqU x)=xs.any fun y=>eqV y x
 |_,_,.nil,_=>rfl
 |y::xs,u::us,.cons r t,f=>by
  rw[zB2,zq8] at f
  rw[zv0,zv0,iH r f.1,uB t f.2]
theorem vo {A:Around}{s:Shared}{x:V}{v:Value}(rx:RelV x v)(fx:vJ x=true):∀{xs:List V} {us:List Value},Vals xs us→xs.all vJ=true→∀u∈us,SeqAt.EqAt A s u v (eqU x u)
 |_,_,.nil,_=>fun u hu=>by cases hu
 |y::xs,u::us,.cons r t,f=>fun u' hu=>by
  rw[zB2,zq8] at f
  rcases zp7.mp hu with rfl|hu
  ·rw[iH r f.1];exact za8 r rx f.1 fx
  ·exact vo rx fx t f.2 u' hu
def inV (x:V)(xs:List V):Bool:=xs.any fun y=>eqV y x
def rIn (K:PySem.W.Frag)(neg:Bool):R2:=fun x y H Q=>∃p xs,y=.ref p∧(SqL K H p xs∨SqT K H p xs)∧vJ x=true∧xs.all vJ=true∧Q (.bl (if neg then !inV x xs else inV x xs)) H
theorem qv :OpR X (compareOp .In) (rIn X.K false):=by
 intro pins s σ H x y v u Q I rx ry h
 obtain⟨p,xs,rfl,hq,fx,fs,q⟩:=h
 cases ry
 rcases hq with hq|hq
 ·obtain⟨its,r,pl,hz⟩:=I.list hq
  refine SeqAt.in_listAt (eqU x) pl.isList (fun w hw=>vo rx fx r fs w (by simpa using hw)) ⟨.bl _,H,I,rfl,?_⟩
  rw[show its.toArray.any (eqU x)=its.any (eqU x) by simp,uB r fs]
  exact q
 ·obtain⟨its,r,pl,hz⟩:=I.tuple hq
  refine SeqAt.in_tupleAt (eqU x) pl (fun w hw=>vo rx fx r fs w (by simpa using hw)) ⟨.bl _,H,I,rfl,?_⟩
  rw[show its.toArray.any (eqU x)=its.any (eqU x) by simp,uB r fs]
  exact q
theorem qC :OpR X (compareOp .NotIn) (rIn X.K true):=by
 intro pins s σ H x y v u Q I rx ry h
 obtain⟨p,xs,rfl,hq,fx,fs,q⟩:=h
 cases ry
 rcases hq with hq|hq
 ·obtain⟨its,r,pl,hz⟩:=I.list hq
  refine SeqAt.notIn_listAt (eqU x) pl.isList (fun w hw=>vo rx fx r fs w (by simpa using hw)) ⟨.bl _,H,I,rfl,?_⟩
  rw[show its.toArray.any (eqU x)=its.any (eqU x) by simp,uB r fs]
  exact q
 ·obtain⟨its,r,pl,hz⟩:=I.tuple hq
  refine SeqAt.notIn_tupleAt (eqU x) pl (fun w hw=>vo rx fx r fs w (by simpa using hw)) ⟨.bl _,H,I,rfl,?_⟩
  rw[show its.toArray.any (eqU x)=its.any (eqU x) by simp,uB r fs]
  exact q
theorem wL :xQ X (.builtin "len") (fun xs H Q=>∃p ys,xs=[.ref p]∧(SqL X.K H p ys∨SqT X.K H p ys)∧Q (.int ys.length) H):=by
 intro pins s σ H xs us Q I r h
 obtain⟨p,ys,rfl,hq,q⟩:=h
 obtain⟨u,rfl,rx⟩:=vals1 r
 cases rx
 have hn:=uL
 rcases hq with hq|hq
 ·obtain⟨its,r',pl,hz⟩:=I.list hq
  have hlen:=r'.length
  exact Calls.call_len_list pl.isList (by simp only[zq6]<;>omega) ⟨.int ys.length,H,I.tok _,⟨s.toks+1,by rw[zq6,hlen]⟩,q⟩
 ·obtain⟨its,r',pl,hz⟩:=I.tuple hq
  have hlen:=r'.length
  exact len_tuple pl (by simp only[zq6]<;>omega) ⟨.int ys.length,H,I.tok _,⟨s.toks+1,by rw[zq6,hlen]⟩,q⟩
theorem qE :xQ X (.type "list") (fun xs H Q=>∃p ys,xs=[.ref p]∧(SqL X.K H p ys∨SqT X.K H p ys)∧∀l,H l=none→Q (.ref l) (upd H l (.lst ys))):=by
 intro pins s σ H xs us Q I r h
 obtain⟨p,ys,rfl,hq,q⟩:=h
 obtain⟨u,rfl,rx⟩:=vals1 r
 cases rx
 have fin:∀(its:List Value),Vals ys its→ys.length≤sizeLine→∀(h':Heap) (c':Nat),(∀b o',s.heap.get? b=some o'→h'.get? b=some o')→
   h'.get? s.heap.objs.size=some {cls:=.type "list",dict:=none,data:=.seq its.toArray c',slots:=#[]}→EP X pins σ Q (.ref s.heap.objs.size) {s with heap:=h'}:=fun its r' hz h' c' kp e=>
  ⟨.ref s.heap.objs.size,_,I.laid (t':=s.toks) kp (zp8 _) (show yc X.prog X.w _ h' _ (.lst ys) from ⟨hz,its,c',r',e⟩),rfl,q _ (I.hok.fresh (zp8 _))⟩
 rcases hq with hq|hq
 ·obtain⟨its,r',pl,hz⟩:=I.list hq
  have hlen:=r'.length
  obtain⟨o,ho,hc,n,hd⟩:=pl.isList
  exact call_list_seq p (.inl rfl) ho hc hd (fun h' c' kp e=>fin its r' hz h' c' kp e) (by simp only[zq6]<;>omega)
 ·obtain⟨its,r',pl,hz⟩:=I.tuple hq
  have hlen:=r'.length
  obtain⟨o,ho,hc,n,hd⟩:=pl
  exact call_list_seq p (.inr rfl) ho hc hd (fun h' c' kp e=>fin its r' hz h' c' kp e) (by simp only[zq6]<;>omega)
def tyV (K:PySem.W.Frag)(T:String)(x:V)(H:Hp):Prop:=match x with
 |.str _=>T="str"
 |.int _=>T="int"
 |.ref p=>(T="list"∧∃xs,SqL K H p xs)∨(T="tuple"∧∃o,K.lookup p=some o∧o.cls=.type "tuple"∧o.dict=none)∨
   (T="dict"∧((∃kvs,H p=some (.dK kvs))∨∃kvs,H p=some (.dT kvs)))∨(T="set"∧∃S n,H p=some (.set S n))
 |_=>False
theorem ze7 {pins:List (Addr×Obj)}{σ:St}{H:Hp}{s:Shared}{T:String}{x:V}{v:Value}(I:Inv X pins σ H s)(r:RelV x v)(ty:tyV X.K T x H):
  s.TypeIs v T∧∀a,v=.ref a→∃ob,s.heap.get? a=some ob∧ob.dict=none:=by
 cases x with
 |str z=>
  obtain⟨t,rfl⟩:=r
  cases (show T="str" from ty)
  exact⟨typeIs_str s z t,fun _ e=>nomatch e⟩
 |int i=>
  obtain⟨t,rfl⟩:=r
  cases (show T="int" from ty)
  exact⟨typeIs_int s i t,fun _ e=>nomatch e⟩
 |ref p=>
  cases r
  rcases ty with ⟨rfl,xs,hq⟩|⟨rfl,o,hk,hc,hd⟩|⟨rfl,hk⟩|⟨rfl,S,n,hk⟩
  ·obtain⟨its,_,pl,_⟩:=I.list hq
   refine⟨pl.isList.typeIs,fun a e=>?_⟩
   cases e
   obtain⟨o,n,e,c,hd,_⟩:=pl
   exact⟨o,e,hd⟩
  ·refine⟨⟨o,I.kIn p o hk,hc⟩,fun a e=>?_⟩
   cases e
   exact⟨o,I.kIn _ o hk,hd⟩
  ·have z:∃o,s.heap.get? p=some o∧o.ExactDict:=by
    rcases hk with ⟨kvs,hk⟩|⟨kvs,hk⟩
    ·obtain⟨_,_,_,_,o,_,_,e,ex,_⟩:=I.hok p _ hk
     exact⟨o,e,ex⟩
    ·obtain⟨_,_,_,_,o,_,_,e,ex,_⟩:=I.hok p _ hk
     exact⟨o,e,ex⟩
   obtain⟨o,e,ex⟩:=z
   refine⟨⟨o,e,ex.1⟩,fun a e2=>?_⟩
   cases e2
   exact⟨o,e,ex.2.1⟩
  ·obtain⟨o,_,_,_,e,ex,_⟩:=I.hok p _ hk
   refine⟨⟨o,e,ex.1⟩,fun a e2=>?_⟩
   cases e2
   exact⟨o,e,ex.2.1⟩
 |_=>exact False.elim ty
def tBM (K:PySem.W.Frag)(T:String)(r:V→List V→Hp→VK→Prop)(to:TE)(t:TA):TE:=fun σ H Q=>to σ H fun x H1=>tyV K T x H1∧t σ H1 fun xs H2=>r x xs H2 Q
variable {o e:Expr}{es:List Expr}{to:TE}{t:TA}{name:Str}{apos cpos:Pos}{T id:String}{r:V→List V→Hp→VK→Prop}
theorem bQ (pa:PlainAttrs T)(slot:Slot T name id)(hty:typeOf (.builtin id)=pure (.type "method_descriptor"))(hm:MtR X id r)(ho:PE X o to)(ha:PA X (e::es) t)
  (hbase:attributeBase o name X.env (eval o X.env)=eval o X.env:=by rfl)
  (hfew:((backTo cpos (starEach (e::es) X.env)).all (fun x=>!x.1)&&(backToKw cpos (keywordEach [] X.env)).all (fun x=>x.1.isSome)
   &&decide ((e::es).length+([]:List Keyword).length+(if ([]:List Keyword).isEmpty then 0 else 1)<30))=true:=by rfl)
  (hline:(apos.endLine == cpos.line)=true:=by rfl) (hs:starEach (e::es) X.env=(false,eval e X.env)::starEach es X.env:=by rfl) (hplain:(backTo cpos (starEach es X.env)).any (·.1)=false:=by rfl):
  PE X (.Call (.Attribute o name apos) (e::es) [] cpos) (tBM X.K T r to t):=by
 intro pins s σ H Q I h
 refine wpAny_Call_method_late hbase hfew hline rfl (thn (ho pins s σ H _ I h) fun v s1 ⟨x,H1,I1,r1,ty,q1⟩=>?_)
 obtain⟨h1,h2⟩:=ze7 I1 r1 ty
 refine⟨T,id,pa,slot,hty,h1,h2,?_⟩
 have hA:=ha cpos pins s1 σ H1 _ I1 q1
 rw[hs] at hA ⊢
 refine Calls.callWith_builtin (by show (false||(backTo cpos (starEach es X.env)).any (·.1))=false;rw[hplain]<;>rfl) (Calls.evalArgs_plain ?_)
 exact thn hA fun us s2 ⟨vs,H2,I2,r2,q2⟩=>hm pins s2 σ H2 x vs v us Q I2 r1 r2 q2
/- xs.append(e),list.index on a module's tuple .. are MtR facts of 06m -/
end
def MtM (X:Cx)(id:String)(r:V→List V→Hp→VK→Prop):Prop:=
 ∀(pins:List (Addr×Obj)) (s:Shared) (σ:St) (H:Hp) (x:V) (xs:List V) (v:Value) (us:List Value) (Q:VK),Inv X pins σ H s→RelV x v→Vals xs us→r x xs H Q→
  wpAny (model X.prog X.w) X.A (call (.builtin id) (v::us)) (EP X pins σ Q) X.xe s
theorem Vals.one :∀{x:V} {us:List Value},Vals [x] us→∃u,us=[u]∧RelV x u
 |_,_,.cons r .nil=>⟨_,rfl,r⟩
theorem Vals.two :∀{x y:V} {us:List Value},Vals [x,y] us→∃u v,us=[u,v]∧RelV x u∧RelV y v
 |_,_,_,.cons r (.cons q .nil)=>⟨_,_,rfl,r,q⟩
section
variable {X:Cx}{pins:List (Addr×Obj)}{σ:St}{H:Hp}{s:Shared}{l b:Addr}{xs ys zs:List V}
theorem Inv.lset {its its':List Value}{n:Nat}{f:Array Value→Array Value}{t':Nat}(I:Inv X pins σ H s)(hH:H l=some (.lst xs))
  (e:s.heap.get? l=some {cls:=.type "list",data:=.seq its.toArray n}) (hf:f its.toArray=its'.toArray) (hv:Vals ys its') (hz:ys.length≤sizeLine):
  Inv X pins σ (upd H l (.lst ys)) {s with heap:=s.heap.update l (Obj.mapSeq f),toks:=t'}:=by
 have q:=PySem.IsL.update e f
 rw[hf] at q
 refine I.write (x:=l) (e:=l) (by rw[hH];exact trivial) (.inl rfl) (fun b' u hb hu=>(zr4 s.heap (Obj.mapSeq f) (zx0 hb)).trans hu) ⟨_,q⟩ ?_
 exact⟨hz,its',_,hv,q⟩
theorem Inv.lnew {its:List Value}{t':Nat}(I:Inv X pins σ H s)(hv:Vals ys its)(hz:ys.length≤sizeLine):
  Inv X pins σ (upd H s.heap.objs.size (.lst ys)) {s with heap:=s.heap.push {cls:=.type "list",data:=.seq its.toArray},toks:=t'}:=
 I.laid (fun _ _ q=>zp6 _ q) (zp8 _) ⟨hz,its,0,hv,zr7 _ rfl⟩
theorem Inv.fresh (I:Inv X pins σ H s):H s.heap.objs.size=none:=I.hok.fresh (zp8 _)
theorem Inv.lstM (I:Inv X pins σ H s)(hH:H l=some (.lst xs)):xs.length≤sizeLine∧∃(its:List Value) (n:Nat),Vals xs its∧xs.length=its.length∧s.heap.get? l=some {cls:=.type "list",data:=.seq its.toArray n}:=by
 obtain⟨z,its,n,r,e⟩:=I.hok l _ hH
 exact⟨z,its,n,r,r.length,e⟩
theorem fZ {n:Nat}(h:n≤sizeLine):Builtin.List.listTooLong n=false:=by
 unfold Builtin.List.listTooLong
 exact zs9 (by omega)
end
section
variable {X:Cx}
def cv :V→List V→Hp→VK→Prop:=fun x vs H Q=>∃l xs y,x=.ref l∧vs=[y]∧H l=some (.lst xs)∧xs.length<sizeLine∧Q .non (upd H l (.lst (xs++[y])))
theorem rN :MtM X "list.append" cv:=by
 intro pins s σ H x vs v us Q I rx rv h
 obtain⟨l,xs,y,rfl,rfl,hH,hz,q⟩:=h
 cases rx
 obtain⟨u,rfl,ru⟩:=rv.one
 obtain⟨z,its,n,r,hl,e⟩:=I.lstM hH
 refine call_meets F.slot_list_append ⟨_,e,rfl⟩ F.entry_list_append (F.args_list_append_2 _ _) (PySem.list_append l its.toArray n u (by rw[zq6];omega)) ⟨e,?_⟩
 refine⟨.non,_,I.lset (its':=its++[u]) hH e (by simp) (r.append (.cons ru .nil)) ?_,rfl,q⟩
 rw[zq4,List.length_singleton]
 omega
def cL :V→List V→Hp→VK→Prop:=fun x vs H Q=>∃l b xs zs,x=.ref l∧vs=[.ref b]∧H l=some (.lst xs)∧H b=some (.lst zs)∧xs.length+zs.length≤sizeLine∧Q .non (upd H l (.lst (xs++zs)))
theorem jN :MtM X "list.extend" cL:=by
 intro pins s σ H x vs v us Q I rx rv h
 obtain⟨l,b,xs,zs,rfl,rfl,hH,hB,hz,q⟩:=h
 cases rx
 obtain⟨u,rfl,ru⟩:=rv.one
 cases ru
 obtain⟨z,its,n,r,hl,e⟩:=I.lstM hH
 obtain⟨z2,its2,n2,r2,hl2,e2⟩:=I.lstM hB
 have hsz:its.toArray.size+its2.toArray.size≤sizeLine:=by rw[zq6,zq6];omega
 have hlong:¬(!its.toArray.isEmpty&&Builtin.List.listTooLong (its.toArray.size+its2.toArray.size))=true:=by
  rw[fZ hsz,Bool.and_false]
  exact zq2
 refine call_meets F.slot_list_extend ⟨_,e,rfl⟩ F.entry_list_extend (F.args_list_extend_2 _ _)
  (AutoSeq1.list_extend_list_list_0 l its.toArray n b its2.toArray n2 hlong (by rw[zq6];omega) (by omega)) ⟨e,e2,?_⟩
 refine⟨.non,_,I.lset (its':=its++its2) hH e (by simp) (r.append r2) ?_,rfl,q⟩
 rw[zq4]
 omega
def zn1 :R2:=fun x y H Q=>∃l b xs zs,x=.ref l∧y=.ref b∧H l=some (.lst xs)∧H b=some (.lst zs)∧xs.length+zs.length≤sizeLine∧∀p,H p=none→Q (.ref p) (upd H p (.lst (xs++zs)))
theorem gX :OpR X (binaryOp .Add) zn1:=by
 intro pins s σ H x y v u Q I rx ry h
 obtain⟨l,b,xs,zs,rfl,rfl,hH,hB,hz,q⟩:=h
 cases rx
 cases ry
 obtain⟨z,its,n,r,hl,e⟩:=I.lstM hH
 obtain⟨z2,its2,n2,r2,hl2,e2⟩:=I.lstM hB
 refine PySem.P.add_list e e2 ?_ (by rw[zq6,zq6];omega)
 have ea:its.toArray++its2.toArray=(its++its2).toArray:=by simp
 rw[ea]
 exact⟨.ref _,_,I.lnew (t':=s.toks) (r.append r2) (by rw[zq4];omega),rfl,q _ I.fresh⟩
end
section
variable {prog:Program}{w:World}{A:Around}{E:Value→Shared→Prop}{s:Shared}
end
section
variable {X:Cx}
end
end L2
namespace Att
open PySem PySem.W PySem.Calls PyProof.Rows
theorem tu {P:Params}{h:Heap}:∀(ns:List Int) (vs:List Value),WellAll P h vs (ns.map WData.int)→IntsAre vs ns:=by
 intro ns
 induction ns with
 |nil=>
  intro vs w
  rw[List.map_nil] at w
  cases w
  exact .nil
 |cons n ns ih=>
  intro vs w
  rw[zs1] at w
  cases w with
  |cons a b=>
   cases a
   exact .cons _ _ (ih _ b)
theorem jE {l:OpenLaw}{n:Nat}(hn:l.most=some n){P:Params}{h:Heap}{args:List WData}{vals:List Value}
  (hpre:l.row.toRowW.claim.pre args=true) (hwl:WellAll P h vals args):
  ∃a vs ns,vals=[Value.ref a]∧args=[WData.list (ns.map WData.int)]∧h.get? a=some {cls:=.type "list",data:=.seq vs.toArray}∧IntsAre vs ns∧ns.length≤n:=by
 have hsh:WShape.hasAll [] args [.list .int]=true:=(pre_splitW hpre).1
 have hc:l.pre.holds [] {args:=args}=true:=(pre_splitW hpre).2
 obtain⟨d,r,rfl,h1,h2⟩:=hasAllW_cons hsh
 obtain rfl:=hasAllW_nil h2
 obtain⟨xs,rfl,h3⟩:=hasW_list h1
 obtain⟨ns,rfl⟩:=items_int h3
 have hlen:ns.length≤n:=by
  unfold OpenLaw.pre at hc
  have h4:(WTm.not (.lt (.lit (.int (n:Int))) (.len (.arg 0)))).holds [] {args:=[.list (ns.map .int)]}=true:=by
   have h4:=(holds_andW hc).1
   rw[hn] at h4
   exact h4
  have h5:=condW_of h4 (w_not (w_lt w_lit (w_len_list (w_arg rfl))))
  rw[zp2] at h5
  refine Nat.le_of_not_lt fun q=>?_
  have q':(n:Int)<((ns.length:Nat):Int):=by omega
  first
   |(rw[zt5 q'] at h5;exact absurd h5 (by decide))
   |(simp at h5;omega)
 cases hwl with
 |cons w1 w2=>
  cases w2
  cases w1 with
  |list ho hall=>exact⟨_,_,ns,rfl,rfl,ho,tu ns _ hall,hlen⟩
theorem jM (l:OpenLaw)(args:List WData):l.row.toRowW.claim.post args (.bool true) args=true:=
 postW_of (r:=l.row.toRowW) (X:=(true == true))
  (show WShape.has [] (.bool true) .bool=true by first|rfl|decide|simp[WShape.has,WShape.arms,WShape.armsAll])
  (show (WTm.eq .res (.lit (.bool true))).value [] {args:=args,res:=some (.bool true),after:=args}=some (.bool (true == true)) from w_eq_bool (w_res rfl) w_lit) rfl
theorem attach_call {l:OpenLaw}{n:Nat}{q:Program}{loose:List Str}{XP:(Str→Option Value)→Heap→Prop}{YP:World→Heap→Prop}{d:DefRec}
  (hn:l.most=some n) (hdf:d.params.defaults=[])
  (call:∀(w:World) (s₀ s₁:Shared) (mg mb:Str→Option Value) (fa:Addr) (o:Obj) (pm cd doc:Value) (a:Addr) (vs:List Value) (ns:List Int),
   Ground q loose [] XP w s₀ mg mb s₁.heap→YP w s₁.heap→
   s₁.heap.get? fa=some o→o.data=.func (docDef d.name d.params d.body d.scope pm cd doc)→s₁.heap.CodeRec cd d.name→mg d.name=some (.ref fa)→
   s₁.heap.get? a=some {cls:=.type "list",data:=.seq vs.toArray}→IntsAre vs ns→ns.length≤n→s₁.gens=#[]→
   codeAny (model l.prog w) callerA (.call (.ref fa) ⟨[.ref a],[]⟩) (fun r s'=>r=.ok (.ret (.bool true))∧OldK s₁.heap s'.heap∧s'.os=s₁.os∧AllBare s'.gens) s₁):
  WalkO q loose XP YP l.row.toRowW d [] (fun f vs=>PySem.call f vs):=by
 intro w s₀ s₁ mg mb G Y fa o pm cd doc dV kV ho hd hcd hD hmg hg args vals as hpre hlay hrd hwl hlo
 obtain rfl:dV=.none:=Dflts.none hD hdf
 obtain rfl:kV=.none:=Dflts.noKw hD
 obtain⟨a,vs,ns,rfl,rfl,hobj,hints,hlen⟩:=jE hn hpre hwl
 refine enter_call (zz0 (call w s₀ s₁ mg mb fa o pm cd doc a vs ns G Y ho (fd_plain hd) hcd hmg hobj hints hlen hg) fun r s' hq=>?_)
 obtain⟨rfl,h2,h3,h4⟩:=hq
 exact⟨.inl ⟨.bool true,.bool true,[],rfl,fun _=>rfl,.bool true,jM l _,fun _=>⟨List.Pairwise.nil,fun _ hm=>(nomatch hm)⟩⟩,h2,h3,h4⟩
section
variable {prog:Program}{w:World}{A:Around}{E:Value→Shared→Prop}{s:Shared}{K:Frag}
end
end Att
namespace L2
open PySem PySem.Spec PyProof.Rows
theorem rX :∀{vs:List Value} {ns:List Int},IntsAre vs ns→Vals (ns.map V.int) vs
 |_,_,.nil=>.nil
 |_,_,.cons n t h=>.cons ⟨t,rfl⟩ (rX h)
def zb4 (H:Hp):Prop:=∀b,H b=none∨∃o xs,H b=some (.frz o (.lst xs))
theorem iE {P:Program}{w:World}{K:PySem.W.Frag}{mg mb:Str→Option Value}{CX:CXT}{k:Nat}{fa a:Addr}{fd:FuncData}{x:Str}{sp:Sp}{s₁:Shared}{vs:List Value}{ns:List Int}
  (KX:K.In s₁.heap) (hns:s₁.heap.Ns mainGlobals mg) (hb:s₁.heap.Ns builtinsNs mb) (hbb:∀x:Str,x≠"__name__"→mb x=bootBuiltins x) (hlim:s₁.heap.NoLimit) (hg:s₁.gens=#[])
  (ha:s₁.heap.get? a=some {cls:=.type "list",data:=.seq vs.toArray}) (hi:IntsAre vs ns) (hl:ns.length≤sizeLine) (hr:zR k callerA)
  (F:∀base:Heap,K.In base→base.Ns mainGlobals mg→zA P w K mg base CX k fa fd [x] sp) (hbind:∀(s:Shared) (u:Value),BindsTo s fd ⟨[u],[]⟩ [(x,u)])
  (hsp:∀H:Hp,zb4 H→SqL K H a (ns.map V.int)→sp [.ref a] H (fun v _=>v=.bl true) fun _ _ _=>False)
  (hCX:∀H e s',CX [] H s₁ (fun _ _ _=>False) e s'→False):
  codeAny (model P w) callerA (.call (.ref fa) ⟨[.ref a],[]⟩) (fun r s'=>r=.ok (.ret (.bool true))∧OldK s₁.heap s'.heap∧s'.os=s₁.os∧AllBare s'.gens) s₁:=by
 have rv:=rX hi
 have lenV:=hi.length
 -- from an abstract heap in which nothing but the script may be tracked
 have core:∀H:Hp,zb4 H→SqL K H a (ns.map V.int)→HOk P w H s₁.heap→(∀b,H b≠none→b=a)→(H a≠none→K.lookup a=none)→
   codeAny (model P w) callerA (.call (.ref fa) ⟨[.ref a],[]⟩) (fun r s'=>r=.ok (.ret (.bool true))∧OldK s₁.heap s'.heap∧s'.os=s₁.os∧AllBare s'.gens) s₁:=by
  intro H hO hS hok hA hK
  have base_of:∀{b:Addr} {o:Obj},s₁.heap.get? b=some o→H b=none→(pN s₁.heap H).get? b=some o:=fun e n=>eo e n
  have noA:∀{b:Addr} {o:Obj} {es:Array DictEntry} {ep:Nat},s₁.heap.get? b=some o→o.data=.dict es ep→H b=none:=fun {b o es ep} e d=>by
   cases q:H b with
   |none=>rfl
   |some u=>
    have e':b=a:=hA b (by rw[q];simp)
    subst e'
    rw[ha] at e;cases e
    have d':Data.seq vs.toArray _=Data.dict es ep:=d
    cases d'
  have nsK:∀{b:Addr} {m:Str→Option Value},s₁.heap.Ns b m→(pN s₁.heap H).Ns b m:=fun {b m} ⟨o,es,ep,e,d,r⟩=>⟨o,es,ep,base_of e (noA e d),d,r⟩
  have hKb:K.In (pN s₁.heap H):=fun b o e=>base_of (KX b o e) (by
   cases q:H b with
   |none=>rfl
   |some u=>
    have e':b=a:=hA b (by rw[q];simp)
    subst e'
    rw[hK (by rw[q];simp)] at e;cases e)
  have hM:Mod K mg (pN s₁.heap H):=⟨hKb,nsK hns,⟨mb,nsK hb,hbb⟩,let ⟨mc,h1,h2⟩:=hlim;⟨mc,nsK h1,h2⟩⟩
  have e0:lE P w K mg (pN s₁.heap H) callerA [] s₁ H:=⟨rfl,hM,fun b o e=>cE e,Nat.le_of_eq (jT _ _),trivial,fun b hb=>absurd (show b∈([]:List Addr) from hb) (by simp),hok,.of_eq hg⟩
  refine zz0 ((F _ hKb (nsK hns)).run callerA [] s₁ H ⟨[.ref a],[]⟩ [.ref a] [.ref a] _ _ hr e0 (hbind s₁ (.ref a)) (.cons rfl .nil) (hsp H hO hS)) fun r s' h=>?_
  cases r with
  |error e=>exact (hCX H e s' h).elim
  |ok fl=>
   cases fl with
   |next=>exact False.elim h
   |brk=>exact False.elim h
   |cont=>exact False.elim h
   |ret u=>
    obtain⟨v,H',os,bare,un,hok',r',q⟩:=h
    have q':v=.bl true:=q
    subst q'
    obtain rfl:u=Value.bool true:=r'
    refine⟨rfl,OldK.of_keep fun b o e=>?_,os,bare⟩
    cases q:H b with
    |none=>exact un.keep b o e q (by intro z;exact absurd (show b∈([]:List Addr) from z) (by simp)) (by simp)
    |some u=>
     rcases hO b with z|⟨ob,xs,z⟩
     ·rw[q] at z;cases z
     ·have z2:=un.frzs b ob _ z
      obtain⟨e1,_⟩:=hok b _ z
      obtain⟨e2,_⟩:=hok' b _ z2
      rw[e] at e1;cases e1
      exact e2
 cases hk:K.lookup a with
 |some o=>
  -- the script is one of the module's own objects
  have e:=KX a o hk
  rw[ha] at e
  cases e
  refine core (fun _=>none) (fun _=>.inl rfl) (.inr ⟨_,vs.toArray,_,hk,rfl,rfl,rfl,by rw[zq6,lenV];exact hl,by simpa using rv⟩) (fun b u z=>by have z':(none:Option HO)=some u:=z;cases z') (fun b z=>absurd rfl z) fun z=>absurd rfl z
 |none=>
  refine core (fun b=>if b=a then some (.frz {cls:=.type "list",data:=.seq vs.toArray} (.lst (ns.map V.int))) else none) (fun b=>?_) (.inl (.inr ⟨{cls:=.type "list",data:=.seq vs.toArray},if_pos rfl⟩)) (fun b u z=>?_) (fun b z=>?_) fun _=>hk
  ·by_cases hb:b=a
   ·exact .inr ⟨_,_,if_pos hb⟩
   ·exact .inl (if_neg hb)
  ·by_cases hb:b=a
   ·have z':=(if_pos hb).symm.trans z
    cases z'
    subst hb
    exact⟨ha,by rw[zp2];exact hl,vs,_,rv,ha⟩
   ·have z':=(if_neg hb).symm.trans z
    cases z'
  ·by_cases hb:b=a
   ·exact hb
   ·exact absurd (if_neg hb) z
theorem dH {l:PySem.W.OpenLaw}{n k:Nat}{q:Program}{loose:List Str}{XP:(Str→Option Value)→Heap→Prop}{YP:World→Heap→Prop}{d:DefRec}{K:Params→PySem.W.Frag}{CX:World→CXT}{sp:World→Sp}{x:Str}
  (hn:l.most=some n) (hn2:n≤sizeLine) (hdf:d.params.defaults=[]) (hr:zR k callerA)
  (hY:∀(w:World) (h:Heap),YP w h→(K w.params).In h)
  (F:∀(w:World) (mg:Str→Option Value) (fa:Addr) (h:Heap),(K w.params).In h→h.Ns mainGlobals mg→mg d.name=some (.ref fa)→
   ∃fd:FuncData,(∀(s:Shared) (u:Value),BindsTo s fd ⟨[u],[]⟩ [(x,u)])∧
    ∀base:Heap,(K w.params).In base→base.Ns mainGlobals mg→zA l.prog w (K w.params) mg base (CX w) k fa fd [x] (sp w))
  (hsp:∀(w:World) (H:Hp) (a:Addr) (ns:List Int),ns.length≤n→zb4 H→SqL (K w.params) H a (ns.map V.int)→sp w [.ref a] H (fun v _=>v=.bl true) fun _ _ _=>False)
  (hCX:∀(w:World) (H:Hp) (s:Shared) (e:Value) (s':Shared),CX w [] H s (fun _ _ _=>False) e s'→False):
  PySem.W.WalkO q loose XP YP l.row.toRowW d [] (fun f vs=>PySem.call f vs):=by
 refine Att.attach_call hn hdf fun w s₀ s₁ mg mb fa o pm cd doc a vs ns G Y ho hd hcd hmg hobj hints hlen hg=>?_
 have KX:=hY w _ Y
 obtain⟨fd,hb,hF⟩:=F w mg fa _ KX G.T.g hmg
 exact iE KX G.T.g G.T.b G.T.builtins G.T.nolimit hg hobj hints (zt6 hlen hn2) hr hF hb (fun H hO hS=>hsp w H a ns hlen hO hS) fun H e s'=>hCX w H s₁ e s'
def inClass (s:Stmt)(j:Nat):Stmt:=match s with
 |.ClassDef _ _ _ body _ _ _ _ _ _ _=>body.getD j (.Pass ⟨0,0,0,0⟩)
 |_=>.Pass ⟨0,0,0,0⟩
def yd (s:Stmt):Arguments:=match s with
 |.FunctionDef _ a _ _ _ _ _ _ _ _=>a
 |_=>{posonlyargs:=[],args:=[],vararg:=none,kwonlyargs:=[],kw_defaults:=[],kwarg:=none,defaults:=[]}
def zC (s:Stmt):List Stmt:=match s with
 |.FunctionDef _ _ b _ _ _ _ _ _ _=>b
 |_=>[]
def zc (s:Stmt):Scope:=match s with
 |.FunctionDef _ _ _ _ _ _ sc _ _ _=>sc
 |_=>{kind:=.function,names:=[],isGenerator:=false,isCoroutine:=false}
abbrev CX0 :CXT:=fun _ _ _ _ _ _=>False
abbrev E0 :XK:=fun _ _ _=>False
theorem zW {X:Cx}:Passes CX0 X E0:=fun _ _ _ _ _ _ _ h=>h.elim
structure Fun (K:PySem.W.Frag)(x qual:Str)(st:Stmt)(f:Addr)(fd:FuncData):Prop where
 ex:∃(oc:Value) (od:Option Addr) (kV doc pm:Value) (an:Option Addr) (cdv ct:Value) (osl:Array (Option Value)),
  fd=PySem.W.fnOf x qual (yd st) (zC st) (zc st) .none kV doc pm an cdv ct∧K.lookup f=some ⟨oc,od,.func fd,osl⟩∧PySem.W.codeIn K cdv qual=true
 kp:PySem.W.keepIn K (.ref f)=true
section
variable {P:Program}{w:World}{K:PySem.W.Frag}{mg:Str→Option Value}{base:Heap}
theorem Fun.ok {x qual:Str}{st:Stmt}{f:Addr}{fd:FuncData}{N ps:List Str}{k:Nat}{sp:Sp}(F:Fun K x qual st f fd)(S:zi N ps (zc st))(len:∀vs H Q E,sp vs H Q E→vs.length=ps.length)
  (hbody:∀(cdv:Value) (A:Around) (outer:List Env) (s:Shared) (H:Hp) (vs:List V) (Q:VK) (E:XK),zR k (A.deeper (envOfC qual (zc st) s.heap.objs.size f cdv))→sp vs H Q E→
   ∃t,PSs (wq CX0 P w K mg base N qual (zc st) f cdv A outer s H E).nox (zC st) t∧t {nx:=fun _ H'=>Q .non H',rt:=Q} (start N vs) H):zA P w K mg base CX0 (k+1) f fd ps sp:=by
 obtain⟨oc,od,kV,doc,pm,an,cdv,ct,osl,rfl,lk,hcd⟩:=F.ex
 refine eP lk hcd S len fun A outer s H vs Q E hr hsp=>?_
 obtain⟨t,h,q⟩:=hbody cdv A outer s H vs Q E hr hsp
 exact⟨t,h.nox,q⟩
theorem Fun.binds {x qual:Str}{st:Stmt}{f:Addr}{fd:FuncData}{ps:List Str}(F:Fun K x qual st f fd)
  (h:∀(kV doc pm:Value) (an:Option Addr) (cdv ct:Value) (us:List Value),us.length=ps.length→bindArgs (PySem.W.fnOf x qual (yd st) (zC st) (zc st) .none kV doc pm an cdv ct) ⟨us,[]⟩=pure (ps.zip us)):Binds K fd ps []:=by
 obtain⟨oc,od,kV,doc,pm,an,cdv,ct,osl,rfl,lk,hcd⟩:=F.ex
 exact .all (h kV doc pm an cdv ct)
theorem iD {x qual:Str}{st:Stmt}{f:Addr}{oc:Value}{od an:Option Addr}{osl:Array (Option Value)}{kV doc pm cdv ct:Value}(l:K.lookup f=some ⟨oc,od,.func (PySem.W.fnOf x qual (yd st) (zC st) (zc st) .none kV doc pm an cdv ct),osl⟩)
  (c:PySem.W.codeIn K cdv qual=true) (k:PySem.W.keepIn K (.ref f)=true):Fun K x qual st f (PySem.W.fnOf x qual (yd st) (zC st) (zc st) .none kV doc pm an cdv ct):=⟨⟨oc,od,kV,doc,pm,an,cdv,ct,osl,rfl,l,c⟩,k⟩
end
theorem yP {n:Nat}(h:n≤1000):n<sizeLine:=Nat.lt_of_le_of_lt h (by decide)
section
variable {X:Cx}
theorem pv (i:Nat){x:Str}{pos:Pos}(hN:X.N[i]?=some x:=by rfl)(hv:Vis X.env.scope x:=by first|exact Or.inl rfl|exact Or.inr (Or.inl rfl)|exact Or.inr (Or.inr rfl))(hd:(x == ("__debug__":Str))=false:=by decide)
  (hcd:(x == ("__classdict__":Str))=false:=by decide):PE X (.Name x pos) (zi8 i):=wC hN hv hd hcd
end
theorem tD {A B:Prop}(h:B):if false=true then A else B:=by
 rw[if_neg zq2]
 exact h
theorem uF {A B:Prop}(h:A):if true=true then A else B:=by
 rw[if_pos rfl]
 exact h
theorem yH {c A B:Prop}[Decidable c](h1:c→A)(h2:¬c→B):if c then A else B:=by
 by_cases h:c
 ·rw[if_pos h]
  exact h1 h
 ·rw[if_neg h]
  exact h2 h
def zw (H H':Hp):Prop:=∀b o,H b=some o→H' b=some o
theorem zw.refl (H:Hp):zw H H:=fun _ _ h=>h
theorem zw.trans {H H1 H2:Hp}(a:zw H H1)(b:zw H1 H2):zw H H2:=fun c o h=>b c o (a c o h)
theorem zw.free {H H':Hp}(e:zw H H'){l:Addr}(h:H' l=Option.none):H l=Option.none:=by
 cases q:H l with
 |none=>rfl
 |some o=>
  rw[e l o q] at h
  cases h
def ub (cells:List (Str×Addr)):List (Str×NameKind)→List (Str×Addr)→List (Str×Addr)
 |[],acc=>acc
 |(n,k)::r,acc=>ub cells r (if k=.free then (n,(cells.lookup n).getD 0)::acc else acc)
theorem vH {env:Env}{scope:Scope}(h:∀y∈scope.names,y.2=.free→∃c,env.cells.lookup y.1=some c):
  closureFor scope env=pure (ub env.cells scope.names []):=by
 have key:∀(ns:List (Str×NameKind)) (acc:List (Str×Addr)),(∀y∈ns,y.2=.free→∃c,env.cells.lookup y.1=some c)→
   (forIn ns acc fun (x:Str×NameKind) (r:List (Str×Addr))=>(if (x.2 == NameKind.free)=true then (do let a ←cellOf env x.1;pure (ForInStep.yield ((x.1,a)::r))) else pure (ForInStep.yield r):Sem (ForInStep (List (Str×Addr)))))=pure (ub env.cells ns acc):=by
  intro ns
  induction ns with
  |nil=>intro acc _;rfl
  |cons y r ih=>
   intro acc hy
   obtain⟨n,k⟩:=y
   rw[List.forIn_cons]
   have hr:∀z∈r,z.2=.free→∃c,env.cells.lookup z.1=some c:=fun z hz=>hy z (zq0 _ hz)
   by_cases hk:k=.free
   ·subst hk
    obtain⟨c,hc⟩:=hy (n,.free) zq1 rfl
    have e1:cellOf env n=pure c:=by
     unfold cellOf
     rw[hc]
    have e2:((NameKind.free == NameKind.free)=true):=rfl
    simp only[e2,if_true,e1,pure_bind]
    rw[ih _ hr]
    show _=pure (ub env.cells r (if NameKind.free=NameKind.free then (n,(env.cells.lookup n).getD 0)::acc else acc))
    rw[if_pos rfl,hc]
    rfl
   ·have e2:(k == NameKind.free)=false:=by simpa using hk
    simp only[e2,Bool.false_eq_true,if_false,pure_bind]
    rw[ih _ hr]
    show _=pure (ub env.cells r (if k=NameKind.free then (n,(env.cells.lookup n).getD 0)::acc else acc))
    rw[if_neg hk]
 have q:=key scope.names [] h
 unfold closureFor
 simp only[] at q ⊢
 rw[show (forIn scope.names ([]:List (Str×Addr)) fun (x:Str×NameKind) (r:List (Str×Addr))=>_)=_ from q]
 rfl
theorem oX {cells:List (Str×Addr)}:∀(ns:List (Str×NameKind)) (acc:List (Str×Addr)),(∀y∈ns,y.2=.free→∃c,cells.lookup y.1=some c)→
  ∀x c,(x,c)∈ub cells ns acc→(x,c)∈acc∨((x,NameKind.free)∈ns∧cells.lookup x=some c)
 |[],acc,_,x,c,h=>.inl h
 |(n,k)::r,acc,hy,x,c,h=>by
  have hr:∀z∈r,z.2=.free→∃c,cells.lookup z.1=some c:=fun z hz=>hy z (zq0 _ hz)
  have h':(x,c)∈ub cells r (if k=.free then (n,(cells.lookup n).getD 0)::acc else acc):=h
  rcases oX r _ hr x c h' with q|⟨q1,q2⟩
  ·by_cases hk:k=.free
   ·rw[if_pos hk] at q
    rcases zp7.mp q with e|q
    ·obtain⟨c',hc⟩:=hy (n,k) zq1 hk
     have e1:x=n:=congrArg Prod.fst e
     have e2:c=(cells.lookup n).getD 0:=congrArg Prod.snd e
     have hc':cells.lookup n=some c':=hc
     rw[hc'] at e2
     have e3:c=c':=e2
     subst e1 e3 hk
     exact .inr ⟨zq1,hc'⟩
    ·exact .inl q
   ·rw[if_neg hk] at q
    exact .inl q
  ·exact .inr ⟨zq0 _ q1,q2⟩
theorem oK {cells:List (Str×Addr)}:∀(ns:List (Str×NameKind)) (acc:List (Str×Addr)) (p:Str×Addr),p∈acc→p∈ub cells ns acc
 |[],_,_,h=>h
 |(n,k)::r,acc,p,h=>by
  show p∈ub cells r (if k=.free then (n,(cells.lookup n).getD 0)::acc else acc)
  refine oK r _ p ?_
  split
  ·exact zq0 _ h
  ·exact h
theorem oP {cells:List (Str×Addr)}:∀(ns:List (Str×NameKind)) (acc:List (Str×Addr)) (x:Str),(x,NameKind.free)∈ns→∃c,(x,c)∈ub cells ns acc
 |[],_,_,h=>by simp at h
 |(n,k)::r,acc,x,h=>by
  show ∃c,(x,c)∈ub cells r (if k=.free then (n,(cells.lookup n).getD 0)::acc else acc)
  rcases zp7.mp h with e|h
  ·have e1:x=n:=congrArg Prod.fst e
   have e2:NameKind.free=k:=congrArg Prod.snd e
   subst e1 e2
   rw[if_pos rfl]
   exact⟨_,oK r _ _ zq1⟩
  ·exact oP r _ x h
theorem mem_lookup {x:Str}{c:Addr}:∀{l:List (Str×Addr)},(x,c)∈l→∃d,l.lookup x=some d
 |[],h=>by simp at h
 |(n,a)::r,h=>by
  rw[zu5]
  cases e:x == n with
  |true=>exact⟨a,rfl⟩
  |false=>
   rcases zp7.mp h with q|q
   ·have e1:x=n:=congrArg Prod.fst q
    rw[e1] at e
    simp at e
   ·exact mem_lookup q
structure zy (XN:List Str)(xs:Scope)(N:List Str)(imp:List (Option Nat))(scope:Scope):Prop where
 kind:scope.kind=.function
 nd:N.Nodup
 nocell:∀y∈scope.names,y.2≠.cell
 locs:∀y∈scope.names,y.2=.local→scope.names.lookup y.1=some .local
 frees:∀y∈scope.names,y.2=.free→xs.names.lookup y.1=some .cell∨xs.names.lookup y.1=some .free
 len:imp.length=N.length
 impsB:((imp.zip N).all fun p=>match p.1 with|none=>true|some j=>XN[j]? == some p.2&&scope.names.lookup p.2 == some .free)=true
theorem zy.imps {XN N:List Str}{xs scope:Scope}{imp:List (Option Nat)}(S:zy XN xs N imp scope):∀(i j:Nat),imp[i]?=some (some j)→∃x,N[i]?=some x∧XN[j]?=some x∧scope.names.lookup x=some .free:=by
 intro i j h
 have hi:i<imp.length:=(zp5.mp h).1
 have hn:i<N.length:=by rw[←S.len];exact hi
 have hx:N[i]?=some N[i]:=zt1 hn
 have hm:(some j,N[i])∈imp.zip N:=by
  have hz:(imp.zip N)[i]?=some (some j,N[i]):=by
   rw[List.getElem?_zip_eq_some]
   exact⟨h,hx⟩
  exact zt0 hz
 have q:=zx7.mp S.impsB _ hm
 have q':(XN[j]? == some N[i]&&scope.names.lookup N[i]==some .free)=true:=q
 rw[zq8] at q'
 exact⟨N[i],hx,eq_of_beq q'.1,eq_of_beq q'.2⟩
def wg (imp:List (Option Nat))(σ:St):St:=imp.map fun o=>o.bind fun j=>(σ[j]?).bind id
theorem ji {imp:List (Option Nat)}{σ:St}{i:Nat}{v:V}(h:(wg imp σ)[i]?=some (some v)):∃j,imp[i]?=some (some j)∧σ[j]?=some (some v):=by
 unfold wg at h
 rw[zq7] at h
 cases e:imp[i]? with
 |none=>rw[e] at h;cases h
 |some o=>
  rw[e] at h
  have h':(o.bind fun j=>(σ[j]?).bind id)=some v:=zs7 h
  cases o with
  |none=>cases h'
  |some j=>
   have h2:(σ[j]?).bind id=some v:=h'
   cases e2:σ[j]? with
   |none=>rw[e2] at h2;cases h2
   |some w=>
    rw[e2] at h2
    have h3:w=some v:=h2
    exact⟨j,rfl,by rw[e2,h3]⟩
def Cx.comp (X:Cx)(N:List Str)(scope:Scope)(C:Addr)(s2:Shared)(H2:Hp)(fp:List Addr):Cx where
 prog:=X.prog
 w:=X.w
 K:=X.K
 mg:=X.mg
 base:=X.base
 A:=X.A
 N:=N
 s₀:=s2
 H₀:=H2
 env:=compEnvC scope (ub X.env.cells scope.names []) C X.env
 outer:=X.stack
 stack:=X.stack
 ex:=fp
 fn:=fun _=>false
 calm:=X.calm
 pn:=[]
 xe:=fun _ _=>False
theorem ui {env:Env}:∀{names:List (Str×NameKind)} {x:Str},
  (names.map fun (n,k)=>if (k == NameKind.free&&env.scope.kind == .function&&env.kindOf n == some .cell) then (n,NameKind.cell) else (n,k)).lookup x=some .cell∨
  (names.map fun (n,k)=>if (k == NameKind.free&&env.scope.kind == .function&&env.kindOf n == some .cell) then (n,NameKind.cell) else (n,k)).lookup x=some .free→
  (∀y∈names,y.2≠.cell)→(x,NameKind.free)∈names
 |[],x,h,_=>by simp at h
 |(n,k)::r,x,h,hc=>by
  have ih:=@ui env r x
  rw[zs1] at h
  dsimp only at h
  by_cases hx:x=n
  ·subst hx
   by_cases hk:k=.free
   ·subst hk;exact zq1
   ·have hk':(k == NameKind.free)=false:=by simpa using hk
    simp only[hk',zu7,Bool.false_eq_true,if_false,zu5,beq_self_eq_true,if_true] at h
    rcases h with h|h
    ·have e:k=.cell:=zs7 h
     exact absurd e (hc (x,k) zq1)
    ·have e:k=.free:=zs7 h
     exact absurd e hk
  ·have hxn:(x == n)=false:=by simpa using hx
   have step:∀(b:Bool) (l:List (Str×NameKind)),List.lookup x ((if b=true then (n,NameKind.cell) else (n,k))::l)=l.lookup x:=fun b l=>by
    cases b<;>simp[zu5,hxn]
   rw[step] at h
   exact zq0 _ (ih h fun y hy=>hc y (zq0 _ hy))
theorem uS {env:Env}:∀{names:List (Str×NameKind)} {x:Str},names.lookup x=some .free→
  (names.map fun (n,k)=>if (k == NameKind.free&&env.scope.kind == .function&&env.kindOf n == some .cell) then (n,NameKind.cell) else (n,k)).lookup x=some .cell∨
  (names.map fun (n,k)=>if (k == NameKind.free&&env.scope.kind == .function&&env.kindOf n == some .cell) then (n,NameKind.cell) else (n,k)).lookup x=some .free
 |[],x,h=>by simp at h
 |(n,k)::r,x,h=>by
  have ih:=@uS env r x
  rw[zs1]
  dsimp only
  rw[zu5] at h
  cases hx:x == n with
  |true=>
   rw[hx] at h
   have e:k=.free:=zs7 h
   subst e
   by_cases hb:(NameKind.free == NameKind.free&&env.scope.kind == .function&&env.kindOf n == some .cell)=true
   ·left;rw[if_pos hb];simp[zu5,hx]
   ·right;rw[if_neg hb];simp[zu5,hx]
  |false=>
   rw[hx] at h
   have step:∀(b:Bool) (l:List (Str×NameKind)),List.lookup x ((if b=true then (n,NameKind.cell) else (n,k))::l)=l.lookup x:=fun b l=>by
    cases b<;>simp[zu5,hx]
   rw[step]
   exact ih h
section
variable {X:Cx}{pins:List (Addr×Obj)}{σ:St}{H2 H':Hp}{s2 s':Shared}{fp:List Addr}{N:List Str}{imp:List (Option Nat)}{scope:Scope}{C acc:Addr}
theorem vS (I:Inv X pins σ H2 s2)(S:zy X.N X.env.scope N imp scope):∀y∈scope.names,y.2=.free→∃c,X.env.cells.lookup y.1=some c:=fun y hy hk=>I.ok.has y.1 (S.frees y hy hk)
theorem xA (I:Inv X pins σ H2 s2)(S:zy X.N X.env.scope N imp scope){x:Str}{c:Addr}(h:(ub X.env.cells scope.names []).lookup x=some c):(x,NameKind.free)∈scope.names∧X.env.cells.lookup x=some c:=by
 rcases oX scope.names [] (vS I S) x c (zu8 h) with q|q
 ·exact absurd q (by simp)
 ·exact q
theorem uw (I:Inv X pins σ H2 s2)(S:zy X.N X.env.scope N imp scope){x:Str}(h:(x,NameKind.free)∈scope.names):∃c,(ub X.env.cells scope.names []).lookup x=some c:=by
 obtain⟨c,hc⟩:=oP (cells:=X.env.cells) scope.names [] x h
 exact mem_lookup hc
theorem iO {h1:Heap}{tk:Nat}{m:Str→Option Value}{n0:Nat}(I:Inv X pins σ H2 s2)(S:zy X.N X.env.scope N imp scope)(hf:∀b∈fp,uO X pins H2 b)(ho:∀b∈fp,∃o,s2.heap.get? b=some o)
  (hacc:acc=s2.heap.objs.size) (hC:C=s2.heap.objs.size+1) (old:∀b o,s2.heap.get? b=some o→h1.get? b=some o) (hn:h1.Ns C m)
  (hl:h1.get? acc=some {cls:=.type "list",data:=.seq ([]:List Value).toArray n0}):
  Inv (X.comp N scope C s2 H2 fp) [] (wg imp σ) (upd H2 acc (.lst [])) {s2 with heap:=h1,toks:=tk}:=by
 have fa:H2 acc=none:=I.hok.fresh (by rw[hacc];exact zp8 _)
 have cac:C≠acc:=by rw[hC,hacc];exact Nat.succ_ne_self _
 have clt:∀x c,X.env.cells.lookup x=some c→c<s2.heap.objs.size:=fun x c e=>by
  obtain⟨v,q⟩:=I.cell x c e
  exact q.lt
 refine⟨⟨I.ok.mod,S.kind,I.ok.glob,I.ok.blt,?above,?inj,?has,?cab,I.ok.hd,I.ok.frames,.inl rfl,?exf,fun b o e=>I.bs b o e,zt6 I.ok.bsz I.sz,?noex,?exfs,I.stack,I.stkFree⟩,
  rfl,I.bare,Un.laid old (by rw[hacc];exact zp8 _) fa,⟨m,hn,?loc⟩,?cell,?free,?freeC,fun p hp=>absurd (show p∈([]:List (Addr×Obj)) from hp) (by simp),I.hok.laid old (by rw[hacc];exact zp8 _) ⟨zr9 _,[],n0,.nil,hl⟩,?len⟩
 case above=>show s2.heap.objs.size≤C;rw[hC];exact zy7 _
 case inj=>exact fun x y c h1 h2=>I.ok.inj x y c (xA I S h1).2 (xA I S h2).2
 case has=>exact fun x hx=>uw I S (ui (env:=X.env) hx S.nocell)
 case cab=>exact fun x c h _=>absurd h (by show ¬(false=true);simp)
 case exf=>
  intro b hb
  obtain⟨o,hob⟩:=ho b hb
  refine⟨?_,fun x c e=>(hf b hb).2.2.2.2.1 x c (xA I S e).2⟩
  show b≠C
  rw[hC]
  exact zs3 (Nat.lt_succ_of_lt (zp9 hob))
 case noex=>
  intro b o e hb
  rcases (hf b hb).2.2.2.1 with z|z
  ·exact I.ok.noex b o e z
  ·exact absurd (zr3 (zp9 e) (zt6 I.ok.bsz z)) (zw6 _)
 case exfs=>
  intro b hb hz
  rcases zp7.mp (I.stkSub b hz) with e|e
  ·exact (hf b hb).2.1 e
  ·exact (hf b hb).2.2.1 e
 case loc=>
  intro i x v e1 e2 e3
  obtain⟨j,q1,q2⟩:=ji e2
  obtain⟨y,n1,n2,n3⟩:=S.imps i j q1
  have n1':(X.comp N scope C s2 H2 fp).N[i]?=some y:=n1
  rw[n1'] at e1
  have exy:y=x:=zs7 e1
  subst exy
  have hfr:=S.frees (y,.free) (zu8 n3) rfl
  obtain⟨mX,hnX,hlX⟩:=I.loc
  obtain⟨u,r,l⟩:=hlX j y v n2 q2 (.inr hfr)
  refine⟨u,r,?_⟩
  rcases l with ⟨k,_⟩|⟨k,c,e,z⟩
  ·have k':X.env.scope.names.lookup y=some .local:=k
   rcases hfr with z|z
   ·have z':X.env.scope.names.lookup y=some .cell:=z
    rw[k'] at z';cases z'
   ·have z':X.env.scope.names.lookup y=some .free:=z
    rw[k'] at z';cases z'
  ·obtain⟨d,hd⟩:=uw I S (zu8 n3)
   have hd2:=(xA I S hd).2
   rw[e] at hd2
   have edc:c=d:=zs7 hd2
   subst edc
   exact .inr ⟨uS (env:=X.env) n3,c,hd,z.keeps old⟩
 case cell=>
  intro x c e
  obtain⟨v,q⟩:=I.cell x c (xA I S e).2
  exact⟨v,q.keeps old⟩
 case free=>
  show upd H2 acc _ C=none
  rw[zl cac]
  exact I.hok.fresh (by rw[hC];exact zy7 _)
 case freeC=>
  intro x c e
  have e':=(xA I S e).2
  have hlt:=clt x c e'
  show upd H2 acc _ c=none
  rw[zl (by rw[hacc];exact zs3 hlt)]
  exact I.freeC x c e'
 case len=>
  show (wg imp σ).length=N.length
  unfold wg
  rw[zp2]
  exact S.len
theorem il {pl:List (Addr×Obj)}{τ:St}(I:Inv X pins σ H2 s2)(hf:∀b∈fp,uO X pins H2 b)(J:Inv (X.comp N scope C s2 H2 fp) pl τ H' s'):Inv X pins σ H' s':=
 I.call' (ch:=fp) J.os J.base J.hok J.bare fun b hb=>⟨(hf b hb).2.2.2.1,(hf b hb).2.1,(hf b hb).2.2.2.2.1,(hf b hb).2.2.2.2.2⟩
end
section
variable {prog:Program}{w:World}{A:Around}{R:Result→Shared→Prop}{s:Shared}
theorem qO {elt target iter:Expr}{ifs:List Expr}{scope:Scope}{pos:Pos}{it acc:Value}{env:Env}(I:Nat→Shared→Prop)
  (turn:∀n s,I n s→wpAny (model prog w) A (pyNext it) (fun r s1=>match r with
   |none=>R (.ok .next) s1
   |some v=>wpAny (model prog w) A (letOwnedTupleGo target it v) (fun _ s2=>wpAny (model prog w) A (assign target env v) (fun _ s3=>
     wpAny (model prog w) A (forIn ifs true fun c r=>if r=true then do let ok ←isTrue c env (eval c env);pure (ForInStep.yield ok) else pure (ForInStep.yield r)) (fun ok s4=>
      if ok=true then wpAny (model prog w) A (eval elt env) (fun x s5=>
       wpAny (model prog w) A (call (.builtin "list.append") [acc,x]) (fun _ s6=>∃m,m<n∧I m s6) (fun _ _=>False) s5) (fun _ _=>False) s4
      else ∃m,m<n∧I m s4) (fun _ _=>False) s3) (fun _ _=>False) s2) (fun _ _=>False) s1) (fun _ _=>False) s)
  (n:Nat) (h:I n s):codeAny (model prog w) A (.compLoop (.ListComp elt [⟨target,iter,ifs,0⟩] scope pos) 0 it acc env) R s:=by
 refine codeAny_loop rfl I (fun n s hI=>?_) n h
 show wpAny _ A ((compTurn (.ListComp elt [⟨target,iter,ifs,0⟩] scope pos) 0 it acc env).onRaise (fun x=>do noteFrame x env;theTreesLotGoes x)) _ _ s
 refine wpAny_noted ?_
 rw[compTurn_list]
 refine zp3 (zz6 (zp3 (zt2 (turn n s hI) (fun r s1 h1=>?_) fun _ _ h'=>False.elim h')))
 cases r with
 |none=>exact zq9 h1
 |some v=>
  refine zp3 (zt2 h1 (fun _ s2 h2=>?_) fun _ _ h'=>False.elim h')
  refine zp3 (zt2 h2 (fun _ s3 h3=>zp3 (zt2 h3 (fun ok s4 h4=>?_) fun _ _ h'=>False.elim h')) fun _ _ h'=>False.elim h')
  cases ok with
  |false=>exact zq9 ⟨rfl,h4⟩
  |true=>
   exact zp3 (zp3 (zt2 h4 (fun x s5 h5=>zp3 (zt2 h5 (fun _ s6 h6=>zq9 (zq9 ⟨rfl,h6⟩)) fun _ _ h'=>False.elim h')) fun _ _ h'=>False.elim h'))
end
def vf (Y:Cx)(ifs:List Expr)(t:TT):Prop:=
 ∀(pins:List (Addr×Obj)) (s:Shared) (σ:St) (H:Hp) (Q:Bool→Hp→Prop),Inv Y pins σ H s→t σ H Q→
  wpAny (model Y.prog Y.w) Y.A (forIn ifs true fun c r=>if r=true then do let ok ←isTrue c Y.env (eval c Y.env);pure (ForInStep.yield ok) else pure (ForInStep.yield r)) (TP Y pins σ Q) Y.xe s
def zm5 :TT:=fun _ H Q=>Q true H
theorem cj {Y:Cx}:vf Y [] zm5:=fun _ _ _ H _ I h=>wpAny_tests_nil ⟨H,I,h⟩
theorem bz {Y:Cx}{c:Expr}{t:TT}(h:PT Y c t):vf Y [c] t:=fun pins s σ H Q I q=>wpAny_tests_one (h pins s σ H Q I q)
def lP (J:It)(acc:Addr)(g:TG)(tt:TT)(te:TE)(τ0:St)(H0:Hp)(Q:VK):Prop:=
 ∃W:Nat→Nat→List V→St→Hp→Prop,(∃m,W 0 m [] τ0 H0)∧∀i m ys τ H2,W i m ys τ H2→
  (J.stop i H2∧Q (.ref acc) H2)∨(J.go i H2∧∃N:List V→St→Hp→Prop,(∀ys' τ' H',N ys' τ' H'→∃m',m'<m∧W (i+1) m' ys' τ' H')∧
   ∀x H3,J.yld i H2 x H3→g x τ H3 fun τ2 H4=>tt τ2 H4 fun c H5=>
    if c=true then te τ2 H5 fun y H6=>H6 acc=some (.lst ys)∧ys.length<sizeLine∧N (ys++[y]) τ2 (upd H6 acc (.lst (ys++[y]))) else N ys τ2 H5)
def iz (wi:TI)(imp:List (Option Nat))(g:TG)(tt:TT)(te:TE):TE:=fun σ H Q=>wi σ H fun J H1=>∀acc,H1 acc=none→lP J acc g tt te (wg imp σ) (upd H1 acc (.lst [])) Q
section
variable {X:Cx}{pins:List (Addr×Obj)}{σ:St}{elt iter tg:Expr}{ifs:List Expr}{scope:Scope}{pos:Pos}{wi:TI}{g:TG}{tt:TT}{te:TE}{N:List Str}{imp:List (Option Nat)}
theorem sr {H2:Hp}{s2:Shared}{it:Addr}{fp:List Addr}{tn:Nat→Heap→Prop}{J:It}{RR:Value→Addr→Result→Shared→Prop}{E:Value→Shared→Prop}{Q:VK}
  (hc:X.calm=true) (S:zy X.N X.env.scope N imp scope) (hg:∀C s2 H2 fp,PG (X.comp N scope C s2 H2 fp) tg g) (ht:∀C s2 H2 fp,vf (X.comp N scope C s2 H2 fp) ifs tt) (he:∀C s2 H2 fp,PE (X.comp N scope C s2 H2 fp) elt te)
  (I2:Inv X pins σ H2 s2) (T:Turn X.prog X.w X.K tg J fp it tn) (st2:tn 0 s2.heap) (f2:∀b∈fp,uO X pins H2 b)
  (hW:∀acc,H2 acc=none→lP J acc g tt te (wg imp σ) (upd H2 acc (.lst [])) Q)
  (hRR:∀a C H' s' m,Inv X pins σ H' s'→s'.heap.Ns C m→uO X pins H' C→Q (.ref a) H'→RR (.ref a) C (.ok .next) s'):
  wpAny (model X.prog X.w) X.A (newList []) (fun acc s3=>wpAny (model X.prog X.w) X.A (newFunctionEnv scope X.env.globals (ub X.env.cells scope.names []) [] X.env.qual none .none (some X.env)) (fun cenv s4=>
   codeAny (model X.prog X.w) X.A (.compStart (.ListComp elt [⟨tg,iter,ifs,0⟩] scope pos) 0 (.ref it) acc {cenv with scope:=relabel scope X.env}) (RR acc cenv.locals) s4) E s3) E s2:=by
 refine wpAny_newObj_type (wpAny_newFunctionEnv S.nocell (by intro y hy;simp at hy) (fun h1 hns1 hsb1=>?_) S.kind)
 dsimp only at hns1 hsb1 ⊢
 generalize hHH:s2.heap.push {cls:=.type "list",dict:=none,data:=.seq ([]:List Value).toArray}=HH at hns1 hsb1 ⊢
 have hC:HH.objs.size=s2.heap.objs.size+1:=by rw[←hHH,Heap.size_push]
 have hDC:s2.heap.objs.size≠HH.objs.size:=by rw[hC];exact zs3 (zz9 _)
 have old:∀b o,s2.heap.get? b=some o→h1.get? b=some o:=fun b o e=>hsb1.extBut b o (by rw[hC];exact zs3 (Nat.lt_succ_of_lt (zp9 e))) (zp6 _ (hHH▸zp6 _ e))
 have hacc:h1.get? s2.heap.objs.size=some {cls:=.type "list",data:=.seq ([]:List Value).toArray}:=hsb1.extBut _ _ hDC (zp6 _ (hHH▸zr7 _ rfl))
 obtain⟨W,⟨m0,w0⟩,turn⟩:=hW s2.heap.objs.size I2.fresh
 generalize hCC:HH.objs.size=C at hns1 hsb1 hC hDC ⊢
 have ho:∀b∈fp,∃o,s2.heap.get? b=some o:=fun b hb=>let ⟨o,e,_⟩:=T.obj 0 _ st2 b hb;⟨o,e⟩
 generalize hacc0:s2.heap.objs.size=acc at *
 have loop:∀s3:Shared,s3={s2 with heap:=h1,toks:=s2.toks+([]:List (Str×Value)).length}→
   codeAny (model X.prog X.w) X.A (.compLoop (.ListComp elt [⟨tg,iter,ifs,0⟩] scope pos) 0 (.ref it) (.ref acc) (X.comp N scope C s2 H2 fp).env) (RR (.ref acc) C) s3:=by
  rintro s3 rfl
  have I3:Inv (X.comp N scope C s2 H2 fp) [] (wg imp σ) (upd H2 acc (.lst [])) {s2 with heap:=h1,toks:=s2.toks+([]:List (Str×Value)).length}:=
   iO I2 S f2 ho hacc0.symm (by rw[hC,hacc0]) old hns1 hacc
  have fpn:∀b∈fp,upd H2 acc (.lst []) b=none:=fun b hb=>by
   obtain⟨o,e⟩:=ho b hb
   rw[zl (by rw[←hacc0];exact zs3 (zp9 e))]
   exact (f2 b hb).1
  have stat:∀{H':Hp},(∀b∈fp,H' b=none)→∀b∈fp,uO (X.comp N scope C s2 H2 fp) [] H' b:=fun hn b hb=>by
   obtain⟨e1,e2⟩:=I3.ok.exf b hb
   exact⟨hn b hb,e1,I3.ok.exfs b hb,.inl hb,e2,fun p hp=>absurd (show p∈([]:List (Addr×Obj)) from hp) (by simp)⟩
  refine qO (fun n s'=>∃i ys τ H',Inv (X.comp N scope C s2 H2 fp) [] τ H' s'∧tn i s'.heap∧(∀b∈fp,H' b=none)∧W i n ys τ H') ?_ m0
   ⟨0,[],_,_,I3,T.keep _ _ _ st2 fun b _ o e=>old b o e,fpn,w0⟩
  rintro n s4 ⟨i,ys,τ,H4,I4,st4,fr4,w4⟩
  rcases turn i n ys τ H4 w4 with ⟨stop,qn⟩|⟨go,NN,hN,step⟩
  ·refine zt2 (T.done (X.comp N scope C s2 H2 fp) rfl rfl rfl hc i [] s4 τ H4 (fun _ _=>False) I4 (stat fr4) st4 stop) (fun r s5 ⟨hr,I5⟩=>?_) fun _ _ z=>z
   subst hr
   obtain⟨m5,hn5,_⟩:=id I5.loc
   exact hRR acc C H4 s5 m5 (il I2 f2 I5) hn5 (I2.fpOk (by rw[hC,hacc0];exact zy7 _) I5.free) qn
  ·refine zt2 (T.item (X.comp N scope C s2 H2 fp) rfl rfl rfl hc i [] s4 τ H4 (fun _ _=>False) I4 (stat fr4) st4 go) (fun r s5 ⟨u,hr,h5⟩=>?_) fun _ _ z=>z
   subst hr
   refine zt2 h5 (fun _ s6 ⟨x,H6,I6,r6,y6,st6,fr6⟩=>?_) fun _ _ z=>z
   have I6':=I6.pinned (stat fr6) (T.obj _ _ st6)
   refine zt2 (hg C s2 H2 fp _ s6 τ H6 x u _ I6' r6 (step x H6 y6)) (fun _ s7 ⟨τ7,H7,I7,q7⟩=>?_) fun _ _ z=>z
   refine zt2 (ht C s2 H2 fp _ s7 τ7 H7 _ I7 q7) (fun ok s8 ⟨H8,I8,q8⟩=>?_) fun _ _ z=>z
   have again:∀{ys9:List V} {H9:Hp} {s9:Shared},Inv (X.comp N scope C s2 H2 fp) ([]++tV fp s6.heap) τ7 H9 s9→NN ys9 τ7 H9→∃m,m<n∧∃i ys τ H',Inv (X.comp N scope C s2 H2 fp) [] τ H' s9∧tn i s9.heap∧(∀b∈fp,H' b=none)∧W i m ys τ H':=fun {ys9 H9 s9} I9 n9=>by
    obtain⟨m',hm,w9⟩:=hN ys9 τ7 H9 n9
    refine⟨m',hm,i+1,ys9,τ7,H9,I9.unpinned,T.keep _ _ _ st6 fun b hb o e=>(I9.pin (b,o) (zs0 _ (zs0 _ (wz hb e)))).1,fun b hb=>?_,w9⟩
    obtain⟨o,e,d⟩:=T.obj _ _ st6 b hb
    exact (I9.pin (b,o) (zs0 _ (zs0 _ (wz hb e)))).2.1
   cases ok with
   |false=>
    have q8':NN ys τ7 H8:=by
     have z:=q8
     rw[if_neg zq2] at z
     exact z
    rw[if_neg zq2]
    exact again I8 q8'
   |true=>
    rw[if_pos rfl] at q8 ⊢
    refine zt2 (he C s2 H2 fp _ s8 τ7 H8 _ I8 q8) (fun v s9 ⟨y,H9,I9,r9,a9,z9,q9⟩=>?_) fun _ _ z=>z
    refine zt2 (rN (X:=X.comp N scope C s2 H2 fp) _ s9 τ7 H9 (.ref acc) [y] (.ref acc) [v] (fun _ H10=>H10=upd H9 acc (.lst (ys++[y]))) I9 rfl (.cons r9 .nil) ⟨acc,ys,y,rfl,rfl,a9,z9,rfl⟩) (fun _ s10 ⟨_,H10,I10,_,e10⟩=>?_) fun _ _ z=>z
    subst e10
    exact again I10 q9
 exact codeAny_compStart_list (loop _ rfl) (T.self X.A 0 _ _ _ (T.keep _ _ _ st2 fun b _ o e=>old b o e) (loop _ rfl))
theorem zg6 (hc:X.calm=true)(S:zy X.N X.env.scope N imp scope)(hi:PI X tg iter wi)(hg:∀C s2 H2 fp,PG (X.comp N scope C s2 H2 fp) tg g)(ht:∀C s2 H2 fp,vf (X.comp N scope C s2 H2 fp) ifs tt)
  (he:∀C s2 H2 fp,PE (X.comp N scope C s2 H2 fp) elt te) (hs:∀x,foldedSetIterable iter X.env x=pure x:=by intro _;rfl):
  PE X (.ListComp elt [⟨tg,iter,ifs,0⟩] scope pos) (iz wi imp g tt te):=by
 intro pins s σ H Q I h
 rw[eval_ListComp]
 refine wpAny_comprehension_free (use:=none) rfl hs (vH (vS I S)) S.kind S.locs (thn (hi pins s σ H _ I h) fun v s1 h1=>thn h1 fun itv s2 h2=>?_)
 obtain⟨it,fp,tn,J,H2,e,I2,T,st2,f2,hW⟩:=h2
 subst e
 refine sr (RR:=fun acc C=>compPost (model X.prog X.w) X.A X.xe none (EP X pins σ Q) acc C) hc S hg ht he I2 T st2 f2 hW fun a C H' s' m I' hn f q=>?_
 refine⟨m,hn,fun h' sb=>?_⟩
 obtain⟨g0,g1,g2,g3,g4,g5⟩:=f
 exact⟨.ref a,H',I'.turned (t':=s'.toks) (it:=C) (fun b o hb e=>(sb.2 b hb).trans e) g0 g1 g3 g4 g5,rfl,q⟩
theorem og {i:Nat}{x:Str}{px:Pos}{spos:Pos}(hc:X.calm=true)(S:zy X.N X.env.scope N imp scope)(hi:PI X tg iter wi)(hg:∀C s2 H2 fp,PG (X.comp N scope C s2 H2 fp) tg g)(ht:∀C s2 H2 fp,vf (X.comp N scope C s2 H2 fp) ifs tt)
  (he:∀C s2 H2 fp,PE (X.comp N scope C s2 H2 fp) elt te) (hN:X.N.Nodup) (hx:X.N[i]?=some x) (hl:Loc X.env.scope x) (hsw:swapsWith (.ListComp elt [⟨tg,iter,ifs,0⟩] scope pos) (some (.Name x px)) spos.line X.env=pure true:=by rfl)
  (hf:X.fn x=true∨X.env.scope.names.lookup x=some .local:=by first|exact .inl rfl|exact .inr rfl|assumption) (hs:∀x,foldedSetIterable iter X.env x=pure x:=by intro _;rfl):
  PS X (.Assign [.Name x px] (.ListComp elt [⟨tg,iter,ifs,0⟩] scope pos) spos) (aW (iz wi imp g tt te) (rS i)):=by
 intro pins s σ H D I h
 rw[exec_Assign_Name_used _ _ _ _ hsw]
 refine zp3 (zz6 (zp3 ?_))
 show wpAny _ X.A (do let _ ←comprehension (.ListComp elt [⟨tg,iter,ifs,0⟩] scope pos) scope X.env _ (newList []) false (eval iter X.env) (some (assign (.Name x px) X.env))) _ _ s
 refine zp3 (zt2 (wpAny_comprehension_free (use:=some (assign (.Name x px) X.env)) (Q:=fun _ s'=>SP X pins D .next s') rfl hs (vH (vS I S)) S.kind S.locs (thn (hi pins s σ H _ I h) fun v s1 h1=>thn h1 fun itv s2 h2=>?_))
  (fun _ s' hq=>zq9 (zq9 hq)) fun _ _ e=>e)
 obtain⟨it,fp,tn,J,H2,e,I2,T,st2,f2,hW⟩:=h2
 subst e
 refine sr (Q:=fun x H1=>rS i x σ H1 D.nx) (RR:=fun acc C=>compPost (model X.prog X.w) X.A X.xe (some (assign (.Name x px) X.env)) (fun _ s'=>SP X pins D .next s') acc C) hc S hg ht he I2 T st2 f2 hW fun a C H' s' m I' hn f q=>?_
 show wpAny _ X.A (assign (.Name x px) X.env (.ref a)) _ _ _
 obtain⟨g0,g1,g2,g3,g4,g5⟩:=f
 refine wpAny_assign_Name (rR I' hN hx hl (show RelV (.ref a) (.ref a) from rfl) (fun s4 I4 hch=>?_) hf)
 obtain⟨ad,sb,had⟩:=hch
 have hCa:C≠ad:=by
  rcases had with e|e
  ·rw[e];exact g1
  ·exact (g4 x ad e).symm
 refine⟨m,hn.sameBut sb hCa,fun h' sb2=>?_⟩
 exact⟨_,H',I4.turned (t':=s4.toks) (it:=C) (fun b o hb e=>(sb2.2 b hb).trans e) g0 g1 g3 g4 g5,q⟩
end
mutual
inductive DV (H:Hp):V→PyData→Prop where
 |non:DV H .non .none
 |bl (b:Bool):DV H (.bl b) (.bool b)
 |int (i:Int):DV H (.int i) (.int i)
 |str (x:Str):DV H (.str x) (.str x)
 |lst {a:Addr} {xs:List V} {ds:List PyData}:H a=some (.lst xs)→DVs H xs ds→DV H (.ref a) (.list ds)
 |tup {a:Addr} {xs:List V} {ds:List PyData}:H a=some (.tup xs)→DVs H xs ds→DV H (.ref a) (.tuple ds)
inductive DVs (H:Hp):List V→List PyData→Prop where
 |nil:DVs H [] []
 |cons {x:V} {xs:List V} {d:PyData} {ds:List PyData}:DV H x d→DVs H xs ds→DVs H (x::xs) (d::ds)
end
section
variable {X:Cx}{pins:List (Addr×Obj)}{σ:St}{H:Hp}{s:Shared}
mutual
theorem DV.reads (I:Inv X pins σ H s):∀{x:V} {d:PyData} {u:Value},DV H x d→RelV x u→∃as,Reads s.heap u d as
 |_,_,u,.non,r=>by cases (show u=Value.none from r);exact⟨_,.none⟩
 |_,_,u,.bl b,r=>by cases (show u=Value.bool b from r);exact⟨_,.bool b⟩
 |_,_,u,.int i,r=>by obtain⟨t,rfl⟩:=(show ∃t,u=Value.int i t from r);exact⟨_,.int i t⟩
 |_,_,u,.str x,r=>by obtain⟨t,rfl⟩:=(show ∃t,u=Value.str x t from r);exact⟨_,.str x t⟩
 |_,_,u,.lst (a:=a) hq hs,r=>by
  cases (show u=Value.ref a from r)
  obtain⟨its,rv,p,hz⟩:=I.list (SqL.of hq)
  obtain⟨o,ho,hc,n,hd⟩:=p.isList
  obtain⟨as,ra⟩:=DVs.reads I hs rv
  exact⟨_,.list ho hc hd (by simpa using ra)⟩
 |_,_,u,.tup (a:=a) hq hs,r=>by
  cases (show u=Value.ref a from r)
  obtain⟨its,rv,p,hz⟩:=I.tuple (SqT.of hq)
  obtain⟨o,ho,hc,n,hd⟩:=p
  obtain⟨as,ra⟩:=DVs.reads I hs rv
  exact⟨_,.tuple ho hc hd (by simpa using ra)⟩
theorem DVs.reads (I:Inv X pins σ H s):∀{xs:List V} {ds:List PyData} {us:List Value},DVs H xs ds→Vals xs us→∃as,ReadsAll s.heap us ds as
 |_,_,_,.nil,.nil=>⟨_,.nil⟩
 |_,_,_,.cons h hs,.cons r rs=>by
  obtain⟨as,ra⟩:=DV.reads I h r
  obtain⟨bs,rb⟩:=DVs.reads I hs rs
  exact⟨_,.cons ra rb⟩
end
end
mutual
theorem DV.same {H H':Hp}(e:zw H H'):∀{x:V} {d:PyData},DV H x d→DV H' x d
 |_,_,.non=>.non
 |_,_,.bl b=>.bl b
 |_,_,.int i=>.int i
 |_,_,.str x=>.str x
 |_,_,.lst hq hs=>.lst (e _ _ hq) (DVs.same e hs)
 |_,_,.tup hq hs=>.tup (e _ _ hq) (DVs.same e hs)
theorem DVs.same {H H':Hp}(e:zw H H'):∀{xs:List V} {ds:List PyData},DVs H xs ds→DVs H' xs ds
 |_,_,.nil=>.nil
 |_,_,.cons h hs=>.cons (DV.same e h) (DVs.same e hs)
end
theorem DVs.length {H:Hp}:∀{xs:List V} {ds:List PyData},DVs H xs ds→xs.length=ds.length
 |_,_,.nil=>rfl
 |_,_,.cons _ hs=>by rw[zr1,zr1,DVs.length hs]
def tyD :PyData→String
 |.none=>"NoneType"
 |.bool _=>"bool"
 |.int _=>"int"
 |.str _=>"str"
 |.list _=>"list"
 |.tuple _=>"tuple"
 |.dict _=>"dict"
theorem DV.ty {K:PySem.W.Frag}{H:Hp}{x:V}{d:PyData}(h:DV H x d):uv K H x (.type (tyD d)):=by
 cases h with
 |non=>exact .non
 |bl b=>exact .bl b
 |int i=>exact .int i
 |str x=>exact .str x
 |lst e _=>exact .lst e
 |tup e _=>exact .tup e
def isInt :PyData→Bool
 |.int _=>true
 |.bool _=>true
 |_=>false
def isBool :PyData→Bool
 |.bool _=>true
 |_=>false
def isStr :PyData→Bool
 |.str _=>true
 |_=>false
def isList :PyData→Bool
 |.list _=>true
 |_=>false
def kg :PyData→Bool
 |.tuple _=>true
 |_=>false
def rB (T:String)(d:PyData):Option Bool:=
 if T="int" then some (isInt d) else if T="bool" then some (isBool d) else if T="str" then some (isStr d) else if T="list" then some (isList d) else if T="tuple" then some (kg d) else none
def ze2 (t T:String):Option Bool:=if (Value.type t == Value.type T)=true then some true else if PySem.W.kitMeta T=true then (fastBuiltinMro t).map (·.contains (Value.type T)) else none
theorem gH (K:PySem.W.Frag)(t T:String):PySem.W.kitOne K (.type t) (.type T)=ze2 t T:=rfl
theorem gC :(["NoneType","bool","int","str","list","tuple"].all fun t=>["int","bool","str","list","tuple"].all fun T=>
  ze2 t T == some (if T="int" then t == "int"||t == "bool" else t == T))=true:=by decide +kernel
theorem zj8 (K:PySem.W.Frag){H:Hp}{x:V}{d:PyData}(h:DV H x d){T:String}{b:Bool}(e:rB T d=some b):PySem.W.kitOne K (.type (tyD d)) (.type T)=some b:=by
 rw[gH]
 have key:∀t∈["NoneType","bool","int","str","list","tuple"],∀T∈["int","bool","str","list","tuple"],ze2 t T=some (if T="int" then t == "int"||t == "bool" else t == T):=fun t ht T hT=>
  eq_of_beq (zx7.mp (zx7.mp gC t ht) T hT)
 have hd:tyD d∈["NoneType","bool","int","str","list","tuple"]:=by cases h<;>simp[tyD]
 unfold rB at e
 split at e
 ·rename_i eT
  subst eT
  rw[key _ hd "int" (by decide)]
  cases e
  cases h<;>rfl
 ·split at e
  ·rename_i eT
   subst eT
   rw[key _ hd "bool" (by decide)]
   cases e
   cases h<;>rfl
  ·split at e
   ·rename_i eT
    subst eT
    rw[key _ hd "str" (by decide)]
    cases e
    cases h<;>rfl
   ·split at e
    ·rename_i eT
     subst eT
     rw[key _ hd "list" (by decide)]
     cases e
     cases h<;>rfl
    ·split at e
     ·rename_i eT
      subst eT
      rw[key _ hd "tuple" (by decide)]
      cases e
      cases h<;>rfl
     ·cases e
section
variable {X:Cx}
def zl2 :R2:=fun x y H Q=>∃d e,DV H x d∧DV H y e∧SeqAt.shaped d=true∧SeqAt.shaped e=true∧Q (.bl (PyData.eqv d e)) H
def zg9 :R2:=fun x y H Q=>∃d e,DV H x d∧DV H y e∧SeqAt.shaped d=true∧SeqAt.shaped e=true∧Q (.bl (!PyData.eqv d e)) H
theorem va (hu:X.A.units+64<cLine):OpR X (compareOp .Eq) zl2:=by
 intro pins s σ H x y v u Q I rx ry h
 obtain⟨d,e,hd,he,sd,se,q⟩:=h
 obtain⟨as,ra⟩:=hd.reads I rx
 obtain⟨bs,rb⟩:=he.reads I ry
 exact SeqAt.compareEq_shaped ra rb sd se hu ⟨.bl _,H,I,rfl,q⟩
theorem zb0 (hu:X.A.units+64<cLine):OpR X (compareOp .NotEq) zg9:=by
 intro pins s σ H x y v u Q I rx ry h
 obtain⟨d,e,hd,he,sd,se,q⟩:=h
 obtain⟨as,ra⟩:=hd.reads I rx
 obtain⟨bs,rb⟩:=he.reads I ry
 exact SeqAt.compareNe_shaped ra rb sd se hu ⟨.bl _,H,I,rfl,q⟩
theorem eF :xQ X (.builtin "isinstance") (fun xs H Q=>∃x T t b,xs=[x,.ty T]∧uv X.K H x t∧PySem.W.kitOne X.K t (.type T)=some b∧Q (.bl b) H):=by
 intro pins s σ H xs us Q I r h
 obtain⟨x,T,t,b,rfl,ty,e,q⟩:=h
 obtain⟨u,v,rfl,rx,ry⟩:=Vals.two r
 cases (show v=Value.type T from ry)
 exact je I rx ty e fun tk=>⟨.bl b,H,I.tok tk,rfl,q⟩
theorem xC :xQ X (.builtin "isinstance") (fun xs H Q=>∃x T d b,xs=[x,.ty T]∧DV H x d∧rB T d=some b∧Q (.bl b) H):=by
 intro pins s σ H xs us Q I r h
 obtain⟨x,T,d,b,e,hd,ht,q⟩:=h
 exact eF pins s σ H xs us Q I r ⟨x,T,_,b,e,hd.ty,zj8 X.K hd ht,q⟩
def aF (i j:Int):Prop:=0<j∧j.natAbs.log2<9000
theorem sk :OpR X (binaryOp .FloorDiv) (rI aF fun i j=>.int (i / j)):=opI fun i j _ _ _ _ _ hc q=>by
 have h1:(0:Int)<j:=hc.1
 refine floordiv_int (Int.ne_of_gt h1) ?_ (.inl (PyProof.noPylong_of_log2 hc.2))
 rw[Int.fdiv_eq_ediv_of_nonneg _ (Int.le_of_lt h1)]
 exact q
abbrev big :Int:=115792089237316195423570985008687907853269984665640564039457584007913129639936
theorem log2_small {j:Int}(h0:0<j)(h:j<big):j.natAbs.log2<9000:=by
 have hn:j.natAbs≠0:=by omega
 have h2:j.natAbs<2 ^ 256:=by
  have e:(2:Nat) ^ 256=115792089237316195423570985008687907853269984665640564039457584007913129639936:=by decide +kernel
  rw[e]
  unfold big at h
  omega
 have h3:j.natAbs.log2<256:=(Nat.log2_lt hn).mpr h2
 omega
theorem nu :xQ X (.type "range") (fun xs H Q=>∃i j:Int,xs=[.int i,.int j]∧∀p,H p=none→Q (.ref p) (upd H p (.rng i j))):=by
 intro pins s σ H xs us Q I r h
 obtain⟨i,j,rfl,q⟩:=h
 obtain⟨u,v,rfl,⟨t,rfl⟩,⟨t',rfl⟩⟩:=Vals.two r
 refine call_range_2 ⟨.ref s.heap.objs.size,_,I.laid (o:=.rng i j) (fun b u e=>zp6 _ e) (zp8 _) ⟨t,t',s.toks,zr7 _ rfl⟩,rfl,q _ (I.hok.fresh (zp8 _))⟩
def zY (lo:Int)(n:Nat):List Int:=(List.range n).map fun i=>lo+(i:Nat)
theorem zj (lo:Int)(n:Nat):(zY lo n).length=n:=by simp[zY]
theorem vY {lo:Int}{n i:Nat}(h:i<n):(zY lo n)[i]?=some (lo+(i:Nat)):=by simp[zY,h]
theorem rD {lo:Int}{n:Nat}{acc:Array Value}(h:ItemsOf (fun i v=>∃t,v=.int (lo+i*1) t) acc n):Vals ((zY lo n).map V.int) acc.toList:=by
 obtain⟨h1,h2⟩:=h
 have key:∀(xs:List V) (us:List Value),xs.length=us.length→(∀(i:Nat) (x:V) (u:Value),xs[i]?=some x→us[i]?=some u→RelV x u)→Vals xs us:=by
  intro xs
  induction xs with
  |nil=>intro us hl _;cases us with|nil=>exact .nil|cons _ _=>simp at hl
  |cons x xs ih=>
   intro us hl hr
   cases us with
   |nil=>simp at hl
   |cons u us=>exact .cons (hr 0 x u rfl rfl) (ih us (by simpa using hl) fun i x' u' e1 e2=>hr (i+1) x' u' (by simpa using e1) (by simpa using e2))
 refine key _ _ ?_ fun i x u e1 e2=>?_
 ·rw[zp2,zj]
  simp[h1]
 ·rw[zq7] at e1
  have hi:i<n:=by
   have:=(zp5.mp e2).1
   simp[h1] at this
   exact this
  rw[vY hi] at e1
  have e1':V.int (lo+(i:Nat))=x:=zs7 e1
  subst e1'
  obtain⟨t,ht⟩:=h2 i u (by simpa using e2)
  refine⟨t,?_⟩
  rw[ht,Int.mul_one]
theorem rA (hc:X.calm=true):xQ X (.type "list") (fun xs H Q=>∃(p:Addr) (lo hi:Int),xs=[.ref p]∧H p=some (.rng lo hi)∧(-(2 ^ 62)≤lo∧lo<2 ^ 62∧-(2 ^ 62)≤hi∧hi<2 ^ 62)∧(hi-lo).toNat≤sizeLine∧(hi-lo).toNat≤2 ^ 24∧
  ∀l,H l=none→Q (.ref l) (upd H l (.lst ((zY lo (hi-lo).toNat).map V.int)))):=by
 intro pins s σ H xs us Q I r h
 obtain⟨p,lo,hi,rfl,hp,⟨b1,b2,b3,b4⟩,hz,hz2,q⟩:=h
 obtain⟨u,rfl,rx⟩:=Vals.one r
 cases (show u=Value.ref p from rx)
 obtain⟨t,t',t'',e⟩:=(show yc X.prog X.w H s.heap p (.rng lo hi) from I.hok p _ hp)
 refine call_list_range (I.ok.hd hc) e (small_one b1 b2 b3 b4) (n:=(hi-lo).toNat) (by rw[rangeSize_one];split<;>omega) hz2 fun h' tk acc' c' hk hl hit=>?_
 refine⟨.ref s.heap.objs.size,_,I.laid (o:=.lst ((zY lo (hi-lo).toNat).map V.int)) (t':=tk) hk (zp8 _) ⟨by rw[zp2,zj];exact hz,acc'.toList,c',rD hit,by simpa using hl⟩,rfl,q _ (I.hok.fresh (zp8 _))⟩
theorem iT {bs:List Bool}:∀{us:List Value},Vals (bs.map V.bl) us→LSm.BoolsAre us bs:=by
 induction bs with
 |nil=>intro us h;cases h;exact .nil
 |cons b bs ih=>
  intro us h
  cases h with
  |cons r rr=>
   cases (show _=Value.bool b from r)
   exact .cons b (ih rr)
end
def ni (X:Cx)(body:List Stmt):TS:=fun D σ H=>∃t,PSs X body t∧t D σ H
theorem zP {X:Cx}{body:List Stmt}:PSs X body (ni X body):=fun pins s σ H D I ⟨t,p,q⟩=>p pins s σ H D I q
theorem yj {X:Cx}{st:Stmt}{rest:List Stmt}{D:Ends}{σ:St}{H:Hp}(M:St→Hp→Prop)(h1:∃t,PS X st t∧t {D with nx:=M} σ H)(h2:∀σ' H',M σ' H'→∃t,PSs X rest t∧t D σ' H'):
  ∃t,PSs X (st::rest) t∧t D σ H:=by
 obtain⟨t1,p1,q1⟩:=h1
 refine⟨fun D' σ' H'=>D'=D∧σ'=σ∧H'=H,?_,rfl,rfl,rfl⟩
 intro pins s σ' H' D' I h
 obtain⟨e1,e2,e3⟩:=h
 subst e1 e2 e3
 have step:PSs X (st::rest) (zj9 t1 fun D2 σ2 H2=>D2=D'∧M σ2 H2):=zE p1 fun pins s σ2 H2 D2 I2 ⟨e,m⟩=>by
  subst e
  obtain⟨t2,p2,q2⟩:=h2 σ2 H2 m
  exact p2 pins s σ2 H2 _ I2 q2
 refine step pins s _ _ _ I ?_
 show t1 {D' with nx:=fun σ2 H2=>D'=D'∧M σ2 H2} _ _
 have e:(fun (σ2:St) (H2:Hp)=>D'=D'∧M σ2 H2)=M:=by
  funext σ2 H2
  exact propext ⟨fun z=>z.2,fun z=>⟨rfl,z⟩⟩
 rw[e]
 exact q1
theorem fK (ns:List Int)(lo hi:Option Int):∃ms:List Int,iw (ns.map V.int) lo hi=ms.map V.int∧ms.length≤ns.length:=by
 refine⟨(ns.drop (HT.sIx (ns.map V.int).length 0 lo)).take (HT.sIx (ns.map V.int).length (ns.map V.int).length hi-HT.sIx (ns.map V.int).length 0 lo),?_,?_⟩
 ·unfold iw
  rw[List.map_take,List.map_drop]
 ·rw[zv6,List.length_drop]
  omega
def zh6 (bs:List Int):Prop:=∃x y:Int,bs=[x,y]∧0≤y∧y<4294967296
structure yX (H:Hp)(t b c:Addr):Prop where
 ex:∃(n:Int) (bs cs:List Int),(b=t∧c=t)∧H t=some (.lst (bs.map V.int))∧H b=some (.lst (bs.map V.int))∧H c=some (.lst (cs.map V.int))∧zh6 bs∧n=0
def aL (t b:Addr)(H H':Hp):Prop:=∀a,a≠t→a≠b→H' a=H a
def eG :Sp:=fun vs H Q _=>∃(t b c:Addr) (many:Int),vs=[.ref t,.int many]∧yX H t b c∧0<many∧many<big∧
 ∀(v:Int) (H':Hp),0≤v→v<many→yX H' t b c→aL t b H H'→Q (.int v) H'
theorem yX.free {H:Hp}{t b c l:Addr}(T:yX H t b c)(h:H l=none):l≠t∧l≠b∧l≠c:=by
 obtain⟨n,bs,cs,n1,e1,e2,e3,l1,l2⟩:=T.ex
 exact⟨(zm e1 h).symm,(zm e2 h).symm,(zm e3 h).symm⟩
theorem yX.off {H H':Hp}{t b c:Addr}(T:yX H t b c)(h:∀a,a=t∨a=b∨a=c→H' a=H a):yX H' t b c:=by
 obtain⟨n,bs,cs,n1,e1,e2,e3,l1,l2⟩:=T.ex
 exact⟨n,bs,cs,n1,by rw[h t (.inl rfl)];exact e1,by rw[h b (.inr (.inl rfl))];exact e2,by rw[h c (.inr (.inr rfl))];exact e3,l1,l2⟩
theorem gp {H:Hp}{t b c l:Addr}{o:HO}(T:yX H t b c)(h:l≠t∧l≠b∧l≠c):yX (upd H l o) t b c:=
 T.off fun a ha=>zl (ha.elim (fun e=>e▸h.1.symm) fun ha=>ha.elim (fun e=>e▸h.2.1.symm) fun e=>e▸h.2.2.symm)
theorem jU {H H':Hp}{t b c:Addr}(T:yX H t b c)(s:zw H H'):yX H' t b c:=by
 obtain⟨n,bs,cs,n1,e1,e2,e3,l1,l2⟩:=T.ex
 exact⟨n,bs,cs,n1,s _ _ e1,s _ _ e2,s _ _ e3,l1,l2⟩
theorem zM {H:Hp}{p:Addr}{o:HO}(h:H p=none):zw H (upd H p o):=fun b u e=>by rw[zl (zm e h)];exact e
theorem shaped_ints (ns:List Int):SeqAt.shaped (.list (ns.map PyData.int))=true∧SeqAt.shaped (.tuple (ns.map PyData.int))=true:=by
 have h1:PyData.canLayAll0 (ns.map PyData.int)=true:=by
  induction ns with
  |nil=>rfl
  |cons n r ih=>simp only[zs1,PyData.canLayAll0,PyData.canLay0,ih,zB3]
 have h2:PyData.depthAll (ns.map PyData.int)=0:=by
  clear h1
  induction ns with
  |nil=>rfl
  |cons n r ih=>simp only[zs1,PyData.depthAll,PyData.depth,ih,Nat.max_self]
 constructor<;>simp[SeqAt.shaped,PyData.canLay0,PyData.depth,h1,h2]
def uY (x:Addr):Prop:=False
def TabAt (H:Hp):Prop:=True
def Plain (H:Hp)(l:Addr):Prop:=True
theorem ng {H H':Hp}(T:TabAt H)(h:∀a o,(∀xs,o≠.lst xs)→H a=some o→H' a=some o):TabAt H':=trivial
theorem bp {H:Hp}{l:Addr}{o:HO}(T:TabAt H)(h:Plain H l):TabAt (upd H l o):=trivial
theorem tF {H:Hp}{x:Addr}(T:TabAt H)(h:uY x):∃o,H x=some o∧(∀ts,o≠.tup ts)∧∀xs,o≠.lst xs:=h.elim
theorem rG {H:Hp}{l:Addr}{xs:List V}(h:H l=some (.lst xs)):Plain H l:=trivial
theorem hU {H:Hp}{l:Addr}{xs:List (Key×V)}(h:H l=some (.dK xs)):Plain H l:=trivial
theorem ik {H:Hp}{l C dx:Addr}{fs:List (Str×V)}(h:H l=some (.ins C dx fs)):Plain H l:=trivial
theorem uc {H:Hp}{l:Addr}(T:TabAt H)(h:H l=none):¬uY l:=fun z=>by
 obtain⟨o,e,_⟩:=tF T z
 rw[h] at e;cases e
theorem cx {H H':Hp}{t b:Addr}{xs ys:List V}(T:TabAt H)(ht:H t=some (.lst xs))(hb:H b=some (.lst ys))(off:aL t b H H'):TabAt H':=ng T fun a o no e=>by
 have n1:a≠t:=fun z=>by rw[z,ht] at e;cases e;exact no _ rfl
 have n2:a≠b:=fun z=>by rw[z,hb] at e;cases e;exact no _ rfl
 rw[off a n1 n2];exact e
theorem zb2 {H H':Hp}(T:TabAt H)(h:zw H H'):TabAt H':=ng T fun a o _ e=>h a o e
def nc (K:PySem.W.Frag):Sp:=fun vs H Q _=>∃(a:Addr) (ns:List Int),vs=[.ref a]∧SqL K H a (ns.map V.int)∧ns.length≤63∧TabAt H∧∀H',Q (.bl true) H'
theorem bA (d:PyData):rB "int" d=some (isInt d):=by unfold rB;rw[if_pos rfl]
theorem sW (d:PyData):rB "bool" d=some (isBool d):=by unfold rB;rw[if_neg (by decide),if_pos rfl]
theorem qr (d:PyData):rB "tuple" d=some (kg d):=by unfold rB;rw[if_neg (by decide),if_neg (by decide),if_neg (by decide),if_neg (by decide),if_pos rfl]
structure yC (n:Nat)(d:PyData):Prop where
 shw:d.showable=true
 nod:d.hasDict=false
 dep:d.depth≤8
 len:d.shown.length≤n
 lay:d.canLay0=true
theorem yC.mono {m n:Nat}{d:PyData}(h:yC m d)(e:m≤n):yC n d:=⟨h.shw,h.nod,h.dep,zt6 h.len e,h.lay⟩
theorem uT :∀(ts:List Str) (k:Nat) (acc:Str),(textFrom k acc ts).length≤acc.length+piled ts
 |[],_,acc=>by rw[piled_nil];exact zp8 _
 |t::r,k,acc=>by
  have h:=uT r (k+1) (acc++(if k > 0 then ", " else "":String)++t)
  rw[piled_cons]
  have e2:(Str.ofString (if k > 0 then ", " else "":String)).length≤2:=by
   split
   ·exact Nat.le_of_eq rfl
   ·exact zr9 _
  have e3:=zz7 (acc++Str.ofString (if k > 0 then ", " else "":String)) t
  have e4:=zz7 acc (Str.ofString (if k > 0 then ", " else "":String))
  show (textFrom (k+1) (acc++Str.ofString (if k > 0 then ", " else "":String)++t) r).length≤_
  have h':(textFrom (k+1) (acc++Str.ofString (if k > 0 then ", " else "":String)++t) r).length≤(acc++Str.ofString (if k > 0 then ", " else "":String)++t).length+piled r:=h
  omega
theorem pY (ts:List Str):(listText ts).length≤piled ts+2:=by
 unfold listText
 rw[zz7]
 have h:=uT ts 0 (Str.ofString "[")
 have e1:(Str.ofString "[").length=1:=rfl
 have e2:(Str.ofString "]").length=1:=rfl
 show (textFrom 0 (Str.ofString "[") ts).length+(Str.ofString "]").length≤_
 omega
theorem ph (ts:List Str):(tupleText ts).length≤piled ts+3:=by
 cases ts with
 |nil=>decide +kernel
 |cons t r=>
  have h:=join_length_add (t::r) (by simp)
  unfold tupleText
  rw[zz7,zz7]
  have e1:(Str.ofString "(").length=1:=rfl
  have e2:(Str.ofString (if (t::r).length == 1 then ",)" else ")":String)).length≤2:=by
   split
   ·exact Nat.le_of_eq rfl
   ·exact zv3 (show 1<2 by decide)
  show (Str.ofString "(").length+(Str.join ", " (t::r)).length+(Str.ofString (if (t::r).length == 1 then ",)" else ")":String)).length≤_
  omega
theorem vg {n:Nat}:∀(ds:List PyData),(∀d∈ds,yC n d)→piled (PyData.shownAll ds)≤ds.length*(n+2)
 |[],_=>zr9 _
 |d::r,h=>by
  have h1:=(h d zq1).len
  have h2:=vg r fun e he=>h e (zq0 _ he)
  show piled (d.shown::PyData.shownAll r)≤_
  rw[piled_cons,zr1,Nat.succ_mul]
  omega
structure yk (n:Nat)(ds:List PyData):Prop where
 all:∀d∈ds,yC n d
 dep:∀d∈ds,d.depth≤7
theorem yk.parts {n:Nat}:∀{ds:List PyData},yk n ds→PyData.showableAll ds=true∧PyData.hasDictAll ds=false∧PyData.depthAll ds≤7∧PyData.canLayAll0 ds=true
 |[],_=>⟨rfl,rfl,zr9 _,rfl⟩
 |d::r,h=>by
  obtain⟨a,b,c,e⟩:=yk.parts (ds:=r) ⟨fun x hx=>h.all x (zq0 _ hx),fun x hx=>h.dep x (zq0 _ hx)⟩
  have hd:=h.all d zq1
  have hp:=h.dep d zq1
  refine⟨?_,?_,?_,?_⟩
  ·simp only[PyData.showableAll,hd.shw,a,zB3]
  ·simp only[PyData.hasDictAll,hd.nod,b,Bool.or_self]
  ·simp only[PyData.depthAll];omega
  ·simp only[PyData.canLayAll0,hd.lay,e,zB3]
theorem yC.list {n m:Nat}{ds:List PyData}(h:yk n ds)(e:ds.length*(n+2)+2≤m):yC m (.list ds):=by
 obtain⟨a,b,c,f⟩:=h.parts
 refine⟨by simp only[PyData.showable,a],by simp only[PyData.hasDict,b],by simp only[PyData.depth];omega,?_,by simp only[PyData.canLay0,f]⟩
 show (listText (PyData.shownAll ds)).length≤m
 have h1:=pY (PyData.shownAll ds)
 have h2:=vg ds h.all
 omega
theorem yC.tuple {n m:Nat}{ds:List PyData}(h:yk n ds)(e:ds.length*(n+2)+3≤m):yC m (.tuple ds):=by
 obtain⟨a,b,c,f⟩:=h.parts
 refine⟨by simp only[PyData.showable,a],by simp only[PyData.hasDict,b],by simp only[PyData.depth];omega,?_,by simp only[PyData.canLay0,f]⟩
 show (tupleText (PyData.shownAll ds)).length≤m
 have h1:=ph (PyData.shownAll ds)
 have h2:=vg ds h.all
 omega
theorem eg {i:Int}(h0:-big<i)(h1:i<big):i.natAbs.log2<1920:=by
 by_cases hn:i.natAbs=0
 ·rw[hn];decide
 ·have h2:i.natAbs<2 ^ 256:=by
   have e:(2:Nat) ^ 256=115792089237316195423570985008687907853269984665640564039457584007913129639936:=by decide +kernel
   rw[e]
   unfold big at h0 h1
   omega
  have h3:i.natAbs.log2<256:=(Nat.log2_lt hn).mpr h2
  omega
theorem yC.int {i:Int}(h0:-big<i)(h1:i<big):yC 2000 (.int i):=by
 have hl:=eg h0 h1
 refine⟨by simp only[PyData.showable,zs4];exact hl,rfl,zr9 _,?_,rfl⟩
 have:=int_text_len_1921 hl
 show (Str.ofString (toString i)).length≤2000
 omega
theorem yC.none :yC 2000 .none:=⟨rfl,rfl,zr9 _,by decide +kernel,rfl⟩
theorem yC.bool (b:Bool):yC 2000 (.bool b):=⟨rfl,rfl,zr9 _,by cases b<;>decide +kernel,rfl⟩
theorem yC.shaped {n:Nat}{d:PyData}(h:yC n d):SeqAt.shaped d=true:=by
 unfold SeqAt.shaped
 rw[h.lay,zu6,zs4]
 have:=h.dep
 omega
section
variable {X:Cx}
theorem js {s:Shared}{h':Heap}{o:Obj}{q:Addr}(hq:q=s.heap.objs.size)(hk:∀b x,b∉[q]→(s.heap.push o).get? b=some x→h'.get? b=some x):∀b x,s.heap.get? b=some x→h'.get? b=some x:=fun b x e=>by
 refine hk b x (fun hm=>?_) (zp6 _ e)
 have e2:b=q:=by simpa using hm
 rw[e2,hq] at e
 exact zw6 _ (zp9 e)
theorem ia (hc:X.calm=true):xQ X (.builtin "any") (fun xs H Q=>∃(p:Addr) (bs:List Bool),xs=[.ref p]∧H p=some (.lst (bs.map V.bl))∧Q (.bl (bs.any id)) H):=by
 intro pins s σ H xs us Q I r h
 obtain⟨p,bs,rfl,hp,q⟩:=h
 obtain⟨u,rfl,rx⟩:=Vals.one r
 cases (show u=Value.ref p from rx)
 obtain⟨its,rv,pl,hz⟩:=I.list (SqL.of hp)
 have hB:=iT rv
 have hL:=pl.isList
 have hlt:p<s.heap.objs.size:=I.hok.lt hp
 refine call_any_walk (wpAny_pyIter_list hL ⟨s.heap.objs.size,[s.heap.objs.size,p],[s.heap.objs.size],its.toArray.size,_,_,fun i=>(bs[i]?).getD false,rfl,
  Walks.list (A:=X.A.in1) (I.ok.hd hc) _ p (zs3 hlt) its.toArray,⟨⟨_,zr7 _ rfl,rfl,rfl⟩,hL.push _⟩,fun i v s' Q' E' hP hQ=>?_,fun h' tk hk=>?_⟩)
 ·obtain⟨b,eb,rfl⟩:=hB.get i v (by simpa using hP)
  dsimp only at hQ
  rw[eb] at hQ
  exact zt7 hQ
 ·have ee:((List.range its.toArray.size).any fun i=>(bs[i]?).getD false)=bs.any id:=by
   rw[zq6,hB.length]
   exact LSm.range_any bs
  rw[ee]
  exact⟨.bl _,H,I.kept (t':=tk) (js rfl hk),rfl,q⟩
end
def nX :PyData→Bool
 |.int _=>true
 |_=>false
def zU (lo hi:Int):PyData→Bool
 |.int i=>decide (lo≤i)&&decide (i≤hi)
 |_=>false
def pairD :PyData→Bool
 |.tuple ds=>decide ((ds.length:Int)=2)
 |_=>false
abbrev um :PyData→Bool:=zU 0 1000000
def sj :PyData→Bool
 |.tuple [a,b]=>um a&&um b
 |_=>false
def rE :PyData→Option Int
 |.tuple [.int a,.int b]=>if um (.int a)&&um (.int b) then some (b-a) else none
 |_=>none
def yf (d:PyData):Bool:=match rE d with
 |some k=>decide (0≤k)
 |none=>false
theorem jq (d:PyData):nX d=(isInt d&&!isBool d):=by cases d<;>rfl
theorem uU {d:PyData}(h:pairD d=true):∃a b,d=.tuple [a,b]:=by
 cases d with
 |tuple ds=>
  have h':(ds.length:Int)=2:=zx5 h
  match ds,h' with
  |[a,b],_=>exact⟨a,b,rfl⟩
  |[],z=>simp at z
  |[_],z=>simp at z
  |_::_::_::_,z=>simp at z;omega
 |_=>cases h
theorem sA (d:PyData):sj d=(rE d).isSome:=by
 unfold sj rE
 split
 ·rename_i a b
  cases a with
  |int i=>
   cases b with
   |int j=>
    show (um (.int i)&&um (.int j))=_
    cases e:(um (.int i)&&um (.int j))<;>simp[e]
   |_=>simp[zU]
  |_=>simp[zU]
 ·rename_i h
  split
  ·rename_i a b
   exact absurd rfl (h (.int a) (.int b))
  ·rfl
theorem mM {d:PyData}(h:sj d=true):∃a b:Int,d=.tuple [.int a,.int b]∧rE d=some (b-a):=by
 rw[sA] at h
 unfold rE at h ⊢
 split at h
 ·rename_i a b
  split at h
  ·rename_i hc
   exact⟨a,b,rfl,by simp[hc]⟩
  ·cases h
 ·cases h
def yM (g:PyData→Bool):Sp:=fun vs H Q _=>∃x d,vs=[x]∧DV H x d∧Q (.bl (g d)) H
def vc :Sp:=fun vs H Q _=>∃x d lo hi,vs=[x,.int lo,.int hi]∧DV H x d∧Q (.bl (zU lo hi d)) H
theorem bE {n:Nat}:decide (V.int (n:Int)=V.int 2)=decide ((n:Int)=2):=by simp
noncomputable def sub (p:Addr→Prop)(H:Hp):Hp:=fun a=>open Classical in if p a then H a else none
theorem zf {p:Addr→Prop}{H:Hp}{a:Addr}{o:HO}(h:sub p H a=some o):p a∧H a=some o:=by
 unfold sub at h
 split at h
 ·rename_i hp;exact⟨hp,h⟩
 ·cases h
theorem zJ {p:Addr→Prop}{H:Hp}{a:Addr}{o:HO}(hp:p a)(h:H a=some o):sub p H a=some o:=by
 unfold sub
 rw[if_pos hp]
 exact h
theorem zo {p q:Addr→Prop}{H H':Hp}(h:∀a o,p a→H a=some o→q a∧H' a=some o):zw (sub p H) (sub q H'):=fun a o e=>by
 obtain⟨hp,he⟩:=zf e
 obtain⟨hq,he'⟩:=h a o hp he
 exact zJ hq he'
theorem xh {p:Addr→Prop}{H:Hp}:zw (sub p H) H:=fun _ _ e=>(zf e).2
theorem yk.snoc {n:Nat}{ds:List PyData}{d:PyData}(h:yk n ds)(hd:yC n d)(hp:d.depth≤7):yk n (ds++[d]):=
 ⟨fun e he=>(zs6.mp he).elim (h.all e) fun z=>by rw[zr5.mp z];exact hd,fun e he=>(zs6.mp he).elim (h.dep e) fun z=>by rw[zr5.mp z];exact hp⟩
theorem yk.nil {n:Nat}:yk n []:=⟨fun d hd=>by simp at hd,fun d hd=>by simp at hd⟩
theorem yk.two {n:Nat}{d e:PyData}(hd:yC n d)(he:yC n e)(h1:d.depth≤7)(h2:e.depth≤7):yk n [d,e]:=(yk.nil.snoc hd h1).snoc he h2
section
variable {X:Cx}{e:Expr}{es:List Expr}
def tT (X:Cx)(e:Expr):TE:=fun σ H Q=>∃t,PE X e t∧t σ H Q
theorem zg :PE X e (tT X e):=fun pins s σ H Q I ⟨t,p,q⟩=>p pins s σ H Q I q
def zh3 (X:Cx)(e:Expr):TT:=fun σ H Q=>∃t,PT X e t∧t σ H Q
theorem xV :PT X e (zh3 X e):=fun pins s σ H Q I ⟨t,p,q⟩=>p pins s σ H Q I q
def zk7 (X:Cx)(es:List Expr):TA:=fun σ H Q=>∃t,PA X es t∧t σ H Q
theorem yZ :PA X es (zk7 X es):=fun pos pins s σ H Q I ⟨t,p,q⟩=>p pos pins s σ H Q I q
end
def rq :Key→PyData
 |.inl i=>.int i
 |.inr x=>.str x
def xcO (a C:Addr)(d:Option Addr):HO:=.ext fun h=>∃o vs,h.get? a=some o∧o.cls=.ref C∧o.dict=d∧o.data=.fields vs
mutual
inductive AV (H:Hp):V→PyData→Prop where
 |non:AV H .non .none
 |bl (b:Bool):AV H (.bl b) (.bool b)
 |int (i:Int):AV H (.int i) (.int i)
 |str (x:Str):AV H (.str x) (.str x)
 |lst {a:Addr} {xs:List V} {ds:List PyData}:H a=some (.lst xs)→AVs H xs ds→AV H (.ref a) (.list ds)
 |tup {a:Addr} {xs:List V} {ds:List PyData}:H a=some (.tup xs)→AVs H xs ds→AV H (.ref a) (.tuple ds)
 |ins {a C dx:Addr} {fs:List (Str×V)} {ds:List (PyData×PyData)}:H a=some (.ins C dx fs)→AVf H fs ds→AV H (.ref a) (.dict ((.int (C:Nat),.none)::ds))
 |dk {a:Addr} {o:Obj} {kvs:List (Key×V)} {ds:List (PyData×PyData)}:H a=some (.frz o (.dK kvs))→AVk H kvs ds→AV H (.ref a) (.dict ((.none,.none)::ds))
 |dt {a:Addr} {o:Obj} {kvs:List (List Key×V)} {ds:List (PyData×PyData)}:H a=some (.frz o (.dT kvs))→AVt H kvs ds→AV H (.ref a) (.dict ((.none,.bool true)::ds))
 |xc {a C dx:Addr} {fs:List (Str×V)} {ds:List (PyData×PyData)}:H a=some (xcO a C (some dx))→H dx=some (.xd fs)→AVf H fs ds→AV H (.ref a) (.dict ((.int (C:Nat),.bool true)::ds))
 |xn {a C:Addr}:H a=some (xcO a C none)→AV H (.ref a) (.dict [(.int (C:Nat),.bool false)])
inductive AVs (H:Hp):List V→List PyData→Prop where
 |nil:AVs H [] []
 |cons {x:V} {xs:List V} {d:PyData} {ds:List PyData}:AV H x d→AVs H xs ds→AVs H (x::xs) (d::ds)
inductive AVf (H:Hp):List (Str×V)→List (PyData×PyData)→Prop where
 |nil:AVf H [] []
 |cons {f:Str} {x:V} {fs:List (Str×V)} {d:PyData} {ds:List (PyData×PyData)}:AV H x d→AVf H fs ds→AVf H ((f,x)::fs) ((.str f,d)::ds)
inductive AVk (H:Hp):List (Key×V)→List (PyData×PyData)→Prop where
 |nil:AVk H [] []
 |cons {k:Key} {x:V} {fs:List (Key×V)} {d:PyData} {ds:List (PyData×PyData)}:AV H x d→AVk H fs ds→AVk H ((k,x)::fs) ((rq k,d)::ds)
inductive AVt (H:Hp):List (List Key×V)→List (PyData×PyData)→Prop where
 |nil:AVt H [] []
 |cons {k:List Key} {x:V} {fs:List (List Key×V)} {d:PyData} {ds:List (PyData×PyData)}:AV H x d→AVt H fs ds→AVt H ((k,x)::fs) ((.tuple (k.map rq),d)::ds)
end
mutual
theorem AV.same {H H':Hp}(e:zw H H'):∀{x:V} {d:PyData},AV H x d→AV H' x d
 |_,_,.non=>.non
 |_,_,.bl b=>.bl b
 |_,_,.int i=>.int i
 |_,_,.str x=>.str x
 |_,_,.lst hq hs=>.lst (e _ _ hq) (AVs.same e hs)
 |_,_,.tup hq hs=>.tup (e _ _ hq) (AVs.same e hs)
 |_,_,.ins hq hs=>.ins (e _ _ hq) (AVf.same e hs)
 |_,_,.dk hq hs=>.dk (e _ _ hq) (AVk.same e hs)
 |_,_,.dt hq hs=>.dt (e _ _ hq) (AVt.same e hs)
 |_,_,.xc hq hd hs=>.xc (e _ _ hq) (e _ _ hd) (AVf.same e hs)
 |_,_,.xn hq=>.xn (e _ _ hq)
theorem AVs.same {H H':Hp}(e:zw H H'):∀{xs:List V} {ds:List PyData},AVs H xs ds→AVs H' xs ds
 |_,_,.nil=>.nil
 |_,_,.cons h hs=>.cons (AV.same e h) (AVs.same e hs)
theorem AVf.same {H H':Hp}(e:zw H H'):∀{fs:List (Str×V)} {ds:List (PyData×PyData)},AVf H fs ds→AVf H' fs ds
 |_,_,.nil=>.nil
 |_,_,.cons h hs=>.cons (AV.same e h) (AVf.same e hs)
theorem AVk.same {H H':Hp}(e:zw H H'):∀{fs:List (Key×V)} {ds:List (PyData×PyData)},AVk H fs ds→AVk H' fs ds
 |_,_,.nil=>.nil
 |_,_,.cons h hs=>.cons (AV.same e h) (AVk.same e hs)
theorem AVt.same {H H':Hp}(e:zw H H'):∀{fs:List (List Key×V)} {ds:List (PyData×PyData)},AVt H fs ds→AVt H' fs ds
 |_,_,.nil=>.nil
 |_,_,.cons h hs=>.cons (AV.same e h) (AVt.same e hs)
end
mutual
theorem AV.dv {H:Hp}:∀{x:V} {d:PyData},AV H x d→d.hasDict=false→DV H x d
 |_,_,.non,_=>.non
 |_,_,.bl b,_=>.bl b
 |_,_,.int i,_=>.int i
 |_,_,.str x,_=>.str x
 |_,_,.lst hq hs,h=>.lst hq (AVs.dv hs (by simpa only[PyData.hasDict] using h))
 |_,_,.tup hq hs,h=>.tup hq (AVs.dv hs (by simpa only[PyData.hasDict] using h))
 |_,_,.ins hq hs,h=>by simp[PyData.hasDict] at h
 |_,_,.dk hq hs,h=>by simp[PyData.hasDict] at h
 |_,_,.dt hq hs,h=>by simp[PyData.hasDict] at h
 |_,_,.xc hq _ hs,h=>by simp[PyData.hasDict] at h
 |_,_,.xn hq,h=>by simp[PyData.hasDict] at h
theorem AVs.dv {H:Hp}:∀{xs:List V} {ds:List PyData},AVs H xs ds→PyData.hasDictAll ds=false→DVs H xs ds
 |_,_,.nil,_=>.nil
 |_,_,.cons h hs,e=>by
  simp only[PyData.hasDictAll,zw3] at e
  exact .cons (AV.dv h e.1) (AVs.dv hs e.2)
end
mutual
theorem DV.av {H:Hp}:∀{x:V} {d:PyData},DV H x d→AV H x d
 |_,_,.non=>.non
 |_,_,.bl b=>.bl b
 |_,_,.int i=>.int i
 |_,_,.str x=>.str x
 |_,_,.lst hq hs=>.lst hq (DVs.av hs)
 |_,_,.tup hq hs=>.tup hq (DVs.av hs)
theorem DVs.av {H:Hp}:∀{xs:List V} {ds:List PyData},DVs H xs ds→AVs H xs ds
 |_,_,.nil=>.nil
 |_,_,.cons h hs=>.cons (DV.av h) (DVs.av hs)
end
theorem AVs.length {H:Hp}:∀{xs:List V} {ds:List PyData},AVs H xs ds→xs.length=ds.length
 |_,_,.nil=>rfl
 |_,_,.cons _ hs=>by rw[zr1,zr1,AVs.length hs]
theorem AVs.append {H:Hp}:∀{xs ys:List V} {ds es:List PyData},AVs H xs ds→AVs H ys es→AVs H (xs++ys) (ds++es)
 |_,_,_,_,.nil,h=>h
 |_,_,_,_,.cons a r,h=>.cons a (AVs.append r h)
theorem AVs.get {H:Hp}:∀{xs:List V} {ds:List PyData} {i:Nat} {d:PyData},AVs H xs ds→ds[i]?=some d→∃x,xs[i]?=some x∧AV H x d
 |_,_,_,_,.nil,e=>by simp at e
 |_,_,0,_,.cons a _,e=>by simp at e;subst e;exact⟨_,rfl,a⟩
 |_,_,i+1,d,.cons _ r,e=>by
  obtain⟨x,h1,h2⟩:=AVs.get (i:=i) (d:=d) r (by simpa using e)
  exact⟨x,by simpa using h1,h2⟩
theorem AVs.atI {H:Hp}{xs:List V}{ds:List PyData}{i:Int}{d:PyData}(h:AVs H xs ds)(e:atI ds i=some d):∃x,L2.atI xs i=some x∧AV H x d:=by
 unfold L2.atI at e ⊢
 rw[h.length]
 cases q:ixN ds.length i with
 |none=>rw[q] at e;cases e
 |some j=>
  rw[q] at e
  exact h.get (i:=j) e
mutual
def noL :PyData→Bool
 |.list _=>false
 |.dict ((.none,_)::_)=>false
 |.dict kvs=>mO kvs
 |.tuple ds=>vM ds
 |_=>true
def vM :List PyData→Bool
 |[]=>true
 |d::r=>noL d&&vM r
def mO :List (PyData×PyData)→Bool
 |[]=>true
 |(_,d)::r=>noL d&&mO r
end
def Ob :HO→Prop
 |.lst _=>True
 |.dK _=>True
 |.frz _ _=>True
 |_=>False
mutual
theorem AV.noL {H H':Hp}(e:∀a o,¬Ob o→H a=some o→H' a=some o):∀{x:V} {d:PyData},AV H x d→noL d=true→AV H' x d
 |_,_,.non,_=>.non
 |_,_,.bl b,_=>.bl b
 |_,_,.int i,_=>.int i
 |_,_,.str x,_=>.str x
 |_,_,.lst _ _,h=>by simp[L2.noL] at h
 |_,_,.tup hq hs,h=>.tup (e _ _ (fun z=>z) hq) (AVs.noL e hs (by simpa only[L2.noL] using h))
 |_,_,.ins hq hs,h=>.ins (e _ _ (fun z=>z) hq) (AVf.noL e hs (by simpa[L2.noL,L2.mO] using h))
 |_,_,.dk _ _,h=>by simp[L2.noL] at h
 |_,_,.dt _ _,h=>by simp[L2.noL] at h
 |_,_,.xc hq hd hs,h=>.xc (e _ _ (fun z=>z) hq) (e _ _ (fun z=>z) hd) (AVf.noL e hs (by simpa[L2.noL,L2.mO] using h))
 |_,_,.xn hq,h=>.xn (e _ _ (fun z=>z) hq)
theorem AVs.noL {H H':Hp}(e:∀a o,¬Ob o→H a=some o→H' a=some o):∀{xs:List V} {ds:List PyData},AVs H xs ds→vM ds=true→AVs H' xs ds
 |_,_,.nil,_=>.nil
 |_,_,.cons h hs,q=>by
  simp only[L2.vM,zq8] at q
  exact .cons (AV.noL e h q.1) (AVs.noL e hs q.2)
theorem AVf.noL {H H':Hp}(e:∀a o,¬Ob o→H a=some o→H' a=some o):∀{fs:List (Str×V)} {ds:List (PyData×PyData)},AVf H fs ds→mO ds=true→AVf H' fs ds
 |_,_,.nil,_=>.nil
 |_,_,.cons h hs,q=>by
  simp only[L2.mO,zq8] at q
  exact .cons (AV.noL e h q.1) (AVf.noL e hs q.2)
end
structure Fr where
 H0:Hp
 O0:Addr→Prop
 tp:Option (Addr×Addr×Addr)
inductive A where
 |dat (d:PyData)
 |ow (c:PyData)
 |deep (d:PyData) (S:Addr→Prop)
 |tape
 |at (l:Addr)
 |exc (r:Fr) (q:PyData→Prop)
 |pin (l:Addr) (vs:List V) (ds:List PyData)
@[reducible] def A.own (ds:List PyData):A:=.ow (.list ds)
abbrev dZ (ds:List (PyData×PyData)):PyData:=.dict ((.none,.none)::ds)
abbrev Ev :=List (Option A)
def wQ (o:HO):Prop:=∀ts,o≠.tup ts
theorem we {xs:List V}:wQ (.lst xs):=fun _ z=>by cases z
theorem Ob.notup {o:HO}(h:Ob o):wQ o:=fun ts z=>by subst z;exact h
def NT (F:Fr)(x:Addr):Prop:=(∀t b c,F.tp=some (t,b,c)→x≠t∧x≠b)∧¬uY x
def Kz (F:Fr)(H H':Hp):Prop:=∀x o,H x=some o→NT F x→H' x=some o
structure zH (F:Fr)(H:Hp):Prop where
 tab:TabAt H
 ot:∀x,uY x→F.O0 x
 all:∀t b c,F.tp=some (t,b,c)→yX H t b c∧F.O0 t∧F.O0 b∧F.O0 c
instance {F:Fr} {H:Hp}:CoeFun (zH F H) (fun _=>∀t b c,F.tp=some (t,b,c)→yX H t b c∧F.O0 t∧F.O0 b∧F.O0 c):=⟨zH.all⟩
theorem zH.to {F F':Fr}{H:Hp}(t:zH F H)(hp:F'.tp=F.tp)(ho:∀x,F.O0 x→F'.O0 x):zH F' H:=⟨t.tab,fun x h=>ho x (t.ot x h),fun a b c e=>by
 obtain⟨h1,h2,h3,h4⟩:=t a b c (hp▸e)
 exact⟨h1,ho _ h2,ho _ h3,ho _ h4⟩⟩
theorem zH.re {F F':Fr}{H H':Hp}(t:zH F H)(t':zH F' H')(hp:F'.tp=F.tp):zH F H':=⟨t'.tab,t.ot,fun a b c e=>⟨(t' a b c (hp▸e)).1,(t a b c e).2⟩⟩
theorem zH.upd {F:Fr}{H:Hp}{l:Addr}{o:HO}(t:zH F H)(h:∀a b c,F.tp=some (a,b,c)→l≠a∧l≠b∧l≠c)(hp:Plain H l):zH F (upd H l o):=⟨bp t.tab hp,t.ot,fun a b c e=>⟨gp (t a b c e).1 (h a b c e),(t a b c e).2⟩⟩
theorem zH.updO {F:Fr}{H:Hp}{l:Addr}{o:HO}(t:zH F H)(h:¬F.O0 l)(hp:Plain H l):zH F (L2.upd H l o):=t.upd (fun a b c e=>⟨fun z=>h (by rw[z];exact (t a b c e).2.1),fun z=>h (by rw[z];exact (t a b c e).2.2.1),fun z=>h (by rw[z];exact (t a b c e).2.2.2)⟩) hp
def foot (s:Option V):A→Addr→Prop
 |.ow _,x=>s=some (.ref x)
 |.deep _ S,x=>S x
 |_,_=>False
def Ow (F:Fr)(α:Ev)(σ:St)(x:Addr):Prop:=F.O0 x∨∃(i:Nat) (a:A) (s:Option V),α[i]?=some (some a)∧σ[i]?=some s∧foot s a x
noncomputable abbrev Gz (F:Fr)(α:Ev)(σ:St)(H:Hp):Hp:=sub (fun x=>¬Ow F α σ x) H
noncomputable def tq (S:Addr→Prop)(G H:Hp):Hp:=fun x=>open Classical in if S x then H x else match G x with
 |some (.lst _)=>none
 |o=>o
theorem vw {S:Addr→Prop}{G G' H H':Hp}(h:zw G G')(hS:∀x o,S x→H x=some o→H' x=some o):zw (tq S G H) (tq S G' H'):=fun x o e=>by
 unfold tq at e ⊢
 by_cases z:S x
 ·rw[if_pos z] at e ⊢;exact hS x o z e
 ·rw[if_neg z] at e ⊢
  cases q:G x with
  |none=>rw[q] at e;cases e
  |some u=>
   rw[h _ _ q]
   rw[q] at e
   exact e
theorem sE {S:Addr→Prop}{G H:Hp}{x:Addr}{o:HO}(h:tq S G H x=some o):(S x∧H x=some o)∨(¬S x∧G x=some o):=by
 unfold tq at h
 by_cases z:S x
 ·rw[if_pos z] at h;exact .inl ⟨z,h⟩
 ·rw[if_neg z] at h
  split at h
  ·cases h
  ·exact .inr ⟨z,h⟩
inductive xi (G:Hp):HO→PyData→Prop where
 |lst {xs:List V} {ds:List PyData}:AVs G xs ds→xi G (.lst xs) (.list ds)
 |dk {kvs:List (Key×V)} {ds:List (PyData×PyData)}:AVk G kvs ds→xi G (.dK kvs) (dZ ds)
theorem xi.ob {G:Hp}{o:HO}{c:PyData}(h:xi G o c):Ob o:=by cases h<;>trivial
theorem xi.same {G G':Hp}{o:HO}{c:PyData}(h:xi G o c)(s:zw G G'):xi G' o c:=by
 cases h with
 |lst h=>exact .lst (h.same s)
 |dk h=>exact .dk (h.same s)
theorem xi.av {G:Hp}{o:HO}{ds:List PyData}{l:Addr}(h:xi G o (.list ds))(e:G l=some o):AV G (.ref l) (.list ds):=by
 cases h with
 |lst h=>exact .lst e h
theorem xi.lst_inv {G:Hp}{o:HO}{ds:List PyData}(h:xi G o (.list ds)):∃xs,o=.lst xs∧AVs G xs ds:=by cases h;exact⟨_,rfl,by assumption⟩
theorem xi.plain {G H:Hp}{o:HO}{c:PyData}{l:Addr}(h:xi G o c)(e:H l=some o):Plain H l:=by
 cases h with
 |lst h=>exact rG e
 |dk h=>exact hU e
structure Lnk (r F:Fr)(H:Hp):Prop where
 tp:r.tp=F.tp
 o:∀x,r.O0 x→F.O0 x
 ok:zH r H
 k:Kz r r.H0 H
def xP (G:Hp)(F:Fr)(H:Hp)(s:Option V):A→Prop
 |.dat d=>∃v,s=some v∧AV G v d
 |.ow c=>∃l o,s=some (.ref l)∧H l=some o∧xi G o c∧¬F.O0 l∧F.H0 l=none
 |.deep d S=>∃v,s=some v∧AV (tq S G H) v d∧∀x,S x→¬F.O0 x∧F.H0 x=none∧∃xs,H x=some (.lst xs)
 |.tape=>∃t b c,F.tp=some (t,b,c)∧s=some (.ref t)
 |.at l=>s=some (.ref l)
 |.exc r _=>Lnk r F H
 |.pin l vs ds=>s=some (.ref l)∧G l=some (.lst vs)∧AVs G vs ds
structure M (F:Fr)(α:Ev)(σ:St)(H:Hp):Prop where
 len:α.length=σ.length
 ok:∀(i:Nat) (a:A) (s:Option V),α[i]?=some (some a)→σ[i]?=some s→xP (Gz F α σ H) F H s a
 dj:∀(i j:Nat) (a b:A) (s t:Option V) (x:Addr),α[i]?=some (some a)→α[j]?=some (some b)→σ[i]?=some s→σ[j]?=some t→foot s a x→foot t b x→i=j
 xd:∀(i:Nat) (r:Fr) (q:PyData→Prop),α[i]?=some (some (.exc r q))→∀(j:Nat) (a:A) (s:Option V) (x:Addr),α[j]?=some (some a)→σ[j]?=some s→foot s a x→r.H0 x=none
 tp:zH F H
 keep:Kz F F.H0 H
 oex:∀x,F.O0 x→∃o,H x=some o∧wQ o
theorem M.at' {F:Fr}{α:Ev}{σ:St}{H:Hp}(m:M F α σ H){i:Nat}{a:Option A}(e:α[i]?=some a):∃s,σ[i]?=some s:=by
 have:i<σ.length:=by rw[←m.len];exact (zp5.mp e).1
 exact⟨_,zt1 this⟩
theorem tJ {G:Hp}{F:Fr}{H:Hp}{s:Option V}{a:A}{x:Addr}(h:xP G F H s a)(f:foot s a x):¬F.O0 x∧F.H0 x=none∧∃o,H x=some o∧Ob o:=by
 cases a with
 |ow c=>
  obtain⟨l,o,h1,h2,h3,h4,h5⟩:=h
  have f':s=some (.ref x):=f
  rw[f'] at h1;cases h1
  exact⟨h4,h5,o,h2,h3.ob⟩
 |deep d S=>
  obtain⟨v,h1,h2,h3⟩:=h
  obtain⟨z1,z2,xs,z3⟩:=h3 x f
  exact⟨z1,z2,_,z3,trivial⟩
 |dat d=>exact f.elim
 |tape=>exact f.elim
 |«at» l=>exact f.elim
 |exc r q=>exact f.elim
 |pin l vs ds=>exact f.elim
theorem Lnk.kz {r F:Fr}{H H':Hp}(l:Lnk r F H)(k:Kz F H H')(t:zH F H'):Lnk r F H':=⟨l.tp,l.o,l.ok.re t l.tp.symm,fun x o e n=>k x o (l.k x o e n) ⟨fun a b c z=>n.1 a b c (l.tp.trans z),n.2⟩⟩
theorem Lnk.none {r F:Fr}{H:Hp}(l:Lnk r F H){x:Addr}(h:H x=Option.none):r.H0 x=Option.none:=by
 cases q:r.H0 x with
 |none=>rfl
 |some o=>rw[l.k x o q ⟨fun a b c e=>⟨((l.ok a b c e).1.free h).1,((l.ok a b c e).1.free h).2.1⟩,uc l.ok.tab h⟩] at h;cases h
def noX :A→Prop
 |.exc _ _=>False
 |_=>True
theorem xP.stay {G G':Hp}{F F':Fr}{H H':Hp}{s:Option V}{a:A}(h:xP G F H s a)(g:zw G G')(hf:∀x o,foot s a x→H x=some o→H' x=some o∧¬F'.O0 x∧F'.H0 x=none)(hp:F'.tp=F.tp)(hl:∀r q,a=.exc r q→Lnk r F H→Lnk r F' H'):xP G' F' H' s a:=by
 cases a with
 |dat d=>obtain⟨v,h1,h2⟩:=h;exact⟨v,h1,h2.same g⟩
 |ow c=>
  obtain⟨l,o,h1,h2,h3,h4,h5⟩:=h
  obtain⟨z1,z2,z3⟩:=hf l o h1 h2
  exact⟨l,o,h1,z1,h3.same g,z2,z3⟩
 |deep d S=>
  obtain⟨v,h1,h2,h3⟩:=h
  refine⟨v,h1,h2.same (vw g fun x o z e=>(hf x o z e).1),fun x z=>?_⟩
  obtain⟨_,_,xs,e⟩:=h3 x z
  obtain⟨z1,z2,z3⟩:=hf x _ z e
  exact⟨z2,z3,xs,z1⟩
 |tape=>obtain⟨t,b,c,e,z⟩:=h;exact⟨t,b,c,hp.trans e,z⟩
 |«at» l=>exact h
 |exc r q=>exact hl r q rfl h
 |pin l vs ds=>exact⟨h.1,g _ _ h.2.1,h.2.2.same g⟩
section
variable {F:Fr}{α:Ev}{σ:St}{H H' H'':Hp}
theorem M.dat (m:M F α σ H)(i:Nat)(d:PyData)(e:α[i]?=some (some (.dat d))):∃v,σ[i]?=some (some v)∧AV (Gz F α σ H) v d:=by
 obtain⟨s,hs⟩:=m.at' e
 obtain⟨v,rfl,h⟩:=m.ok i _ s e hs
 exact⟨v,hs,h⟩
theorem M.owc (m:M F α σ H)(i:Nat)(c:PyData)(e:α[i]?=some (some (.ow c))):∃l o,σ[i]?=some (some (.ref l))∧H l=some o∧xi (Gz F α σ H) o c∧¬F.O0 l∧F.H0 l=none:=by
 obtain⟨s,hs⟩:=m.at' e
 obtain⟨l,o,rfl,h⟩:=m.ok i _ s e hs
 exact⟨l,o,hs,h⟩
theorem M.own (m:M F α σ H)(i:Nat)(ds:List PyData)(e:α[i]?=some (some (.own ds))):∃l xs,σ[i]?=some (some (.ref l))∧H l=some (.lst xs)∧AVs (Gz F α σ H) xs ds∧¬F.O0 l∧F.H0 l=none:=by
 obtain⟨l,o,h1,h2,h3,h4⟩:=m.owc i _ e
 obtain⟨xs,rfl,h5⟩:=h3.lst_inv
 exact⟨l,xs,h1,h2,h5,h4⟩
theorem M.deep (m:M F α σ H)(i:Nat)(d:PyData)(S:Addr→Prop)(e:α[i]?=some (some (.deep d S))):∃v,σ[i]?=some (some v)∧AV (tq S (Gz F α σ H) H) v d∧∀x,S x→¬F.O0 x∧F.H0 x=none∧∃xs,H x=some (.lst xs):=by
 obtain⟨s,hs⟩:=m.at' e
 obtain⟨v,rfl,h⟩:=m.ok i _ s e hs
 exact⟨v,hs,h⟩
theorem M.tvar (m:M F α σ H)(i:Nat)(e:α[i]?=some (some .tape)):∃t b c,F.tp=some (t,b,c)∧σ[i]?=some (some (.ref t)):=by
 obtain⟨s,hs⟩:=m.at' e
 obtain⟨t,b,c,h,rfl⟩:=m.ok i _ s e hs
 exact⟨t,b,c,h,hs⟩
theorem M.lnk (m:M F α σ H){i:Nat}{r:Fr}{q:PyData→Prop}(e:α[i]?=some (some (.exc r q))):Lnk r F H:=by
 obtain⟨s,hs⟩:=m.at' e
 exact m.ok i _ s e hs
theorem Kz.refl :Kz F H H:=fun _ _ e _=>e
theorem Kz.trans (h:Kz F H H')(k:Kz F H' H''):Kz F H H'':=fun x o e n=>k x o (h x o e n) n
theorem Kz.of_same (h:zw H H'):Kz F H H':=fun x o e _=>h x o e
theorem zH.same (t:zH F H)(h:zw H H'):zH F H':=⟨zb2 t.tab h,t.ot,fun a b c e=>⟨jU (t a b c e).1 h,(t a b c e).2⟩⟩
theorem zH.nt (t:zH F H){x:Addr}(h:¬F.O0 x):NT F x:=⟨fun a b c e=>⟨fun z=>h (z▸(t a b c e).2.1),fun z=>h (z▸(t a b c e).2.2.1)⟩,fun z=>h (t.ot x z)⟩
theorem ow0 {x:Addr}(h:¬Ow F α σ x):¬F.O0 x:=fun z=>h (.inl z)
theorem Kz.gz (k:Kz F H H')(t:zH F H):zw (Gz F α σ H) (Gz F α σ H'):=zo fun a o h e=>⟨h,k a o e (t.nt (ow0 h))⟩
theorem M.oex' (t:zH F H')(k:Kz F H H')(h:∀x,F.O0 x→∃o,H x=some o∧wQ o):∀x,F.O0 x→∃o,H' x=some o∧wQ o:=fun x hx=>by
 by_cases n:NT F x
 ·obtain⟨o,ho,hn⟩:=h x hx
  exact⟨o,k _ _ ho n,hn⟩
 ·by_cases z:uY x
  ·obtain⟨o,ho,hn,_⟩:=tF t.tab z
   exact⟨o,ho,hn⟩
  ·have:∃a b c,F.tp=some (a,b,c)∧¬(x≠a∧x≠b):=by
    refine Classical.byContradiction fun q=>n ⟨fun a b c e=>?_,z⟩
    exact Classical.byContradiction fun w=>q ⟨a,b,c,e,w⟩
   obtain⟨a,b,c,e,w⟩:=this
   obtain⟨n,bs,cs,_,e1,e2,e3,_⟩:=(t a b c e).1.ex
   by_cases xa:x=a
   ·exact⟨_,xa▸e1,we⟩
   ·by_cases xb:x=b
    ·exact⟨_,xb▸e2,we⟩
    ·exact absurd ⟨xa,xb⟩ w
theorem M.kz (m:M F α σ H)(k:Kz F H H')(t:zH F H'):M F α σ H' where
 len:=m.len
 ok:=fun i a s e1 e2=>(m.ok i a s e1 e2).stay (k.gz m.tp) (fun x o hf e=>by
  obtain⟨h1,h2,_⟩:=tJ (m.ok i a s e1 e2) hf
  exact⟨k x o e (m.tp.nt h1),h1,h2⟩) rfl fun r _ _ l=>l.kz k t
 dj:=m.dj
 xd:=m.xd
 tp:=t
 keep:=m.keep.trans k
 oex:=M.oex' t k m.oex
theorem M.ft (m:M F α σ H){i:Nat}{a:A}{s:Option V}{x:Addr}(e1:α[i]?=some (some a))(e2:σ[i]?=some s)(f:foot s a x):¬F.O0 x∧F.H0 x=none∧∃o,H x=some o∧Ob o:=tJ (m.ok i a s e1 e2) f
theorem M.owEx (m:M F α σ H){x:Addr}(h:Ow F α σ x):∃o,H x=some o∧wQ o:=by
 rcases h with z|⟨i,a,s,e1,e2,f⟩
 ·exact m.oex x z
 ·obtain⟨_,_,o,ho,hb⟩:=m.ft e1 e2 f
  exact⟨o,ho,hb.notup⟩
theorem M.fresh (m:M F α σ H){l:Addr}(h:H l=none):¬Ow F α σ l:=fun z=>by
 obtain⟨o,ho,_⟩:=m.owEx z
 rw[h] at ho;cases ho
theorem M.fresh0 (m:M F α σ H){l:Addr}(h:H l=none):F.H0 l=none:=by
 cases q:F.H0 l with
 |none=>rfl
 |some o=>rw[m.keep l o q (m.tp.nt fun z=>m.fresh h (.inl z))] at h;cases h
theorem M.old (m:M F α σ H):zw (sub (fun x=>¬F.O0 x) F.H0) (Gz F α σ H):=fun a o e=>by
 obtain⟨h1,h2⟩:=zf e
 refine zJ ?_ (m.keep a o h2 (m.tp.nt h1))
 rintro (z|⟨i,b,s,e1,e2,f⟩)
 ·exact h1 z
 ·obtain⟨_,z,_⟩:=m.ft e1 e2 f
  rw[h2] at z;cases z
noncomputable def Fr.up (F:Fr)(G:Hp):Fr:={F with H0:=fun x=>(F.H0 x).or (G x)}
theorem qA {G:Hp}{x:Addr}{o:HO}(h:F.H0 x=some o):(F.up G).H0 x=some o:=by show (F.H0 x).or (G x)=some o;rw[h];rfl
theorem kK {G:Hp}{x:Addr}(h:(F.up G).H0 x=none):F.H0 x=none:=by
 cases q:F.H0 x with
 |none=>rfl
 |some o=>rw[qA q] at h;cases h
theorem M.up (m:M F α σ H):M (F.up (Gz F α σ H)) α σ H where
 len:=m.len
 ok:=fun i a s e1 e2=>(m.ok i a s e1 e2).stay (fun _ _ e=>e) (fun x o hf e=>by
  obtain⟨h1,h2,_⟩:=m.ft e1 e2 hf
  refine⟨e,h1,?_⟩
  show (F.H0 x).or (Gz F α σ H x)=none
  rw[h2]
  show Gz F α σ H x=none
  cases q:Gz F α σ H x with
  |none=>rfl
  |some o=>exact absurd (.inr ⟨i,a,s,e1,e2,hf⟩) (zf q).1) rfl fun r _ _ l=>⟨l.tp,l.o,l.ok,l.k⟩
 dj:=m.dj
 xd:=m.xd
 tp:=m.tp.to rfl fun _ z=>z
 keep:=fun x o e n=>by
  have e':(F.H0 x).or (Gz F α σ H x)=some o:=e
  cases q:F.H0 x with
  |none=>rw[q,Option.none_or] at e';exact (zf e').2
  |some o'=>rw[q] at e';cases e';exact m.keep x _ q n
 oex:=m.oex
theorem M.down {G:Hp}(m:M (F.up G) α σ H):M F α σ H where
 len:=m.len
 ok:=fun i a s e1 e2=>(m.ok i a s e1 e2).stay (fun _ _ e=>e) (fun x o hf e=>by
  obtain⟨h1,h2,_⟩:=m.ft e1 e2 hf
  exact⟨e,h1,kK h2⟩) rfl fun r _ _ l=>⟨l.tp,l.o,l.ok,l.k⟩
 dj:=m.dj
 xd:=m.xd
 tp:=m.tp.to rfl fun _ z=>z
 keep:=fun x o e n=>m.keep x o (qA e) n
 oex:=m.oex
theorem M.upold {α0:Ev}{σ0:St}{H1:Hp}(m0:M F α0 σ0 H1)(m:M (F.up (Gz F α0 σ0 H1)) α σ H):zw (Gz F α0 σ0 H1) (Gz F α σ H):=fun a o e=>by
 obtain⟨h1,h2⟩:=zf e
 have e0:(F.up (Gz F α0 σ0 H1)).H0 a=some o:=by
  show (F.H0 a).or (Gz F α0 σ0 H1 a)=some o
  cases q:F.H0 a with
  |none=>exact e
  |some o'=>
   have:=m0.keep a o' q (m0.tp.nt (ow0 h1))
   rw[h2] at this;cases this;rfl
 exact m.old a o (zJ (p:=fun x=>¬F.O0 x) (ow0 h1) e0)
end
def yR (F:Fr)(α:Ev)(σ:St)(H:Hp)(v:V)(H':Hp)(ds:List PyData):Prop:=
 ∃l xs,v=.ref l∧H l=none∧H' l=some (.lst xs)∧AVs (sub (fun x=>¬Ow F α σ x∧x≠l) H') xs ds
def fv (F:Fr)(α:Ev)(σ:St)(H:Hp)(v:V)(H':Hp)(c:PyData):Prop:=
 ∃l o,v=.ref l∧H l=none∧H' l=some o∧xi (sub (fun x=>¬Ow F α σ x∧x≠l) H') o c
theorem yR.c {F:Fr}{α:Ev}{σ:St}{H H':Hp}{v:V}{ds:List PyData}(h:yR F α σ H v H' ds):fv F α σ H v H' (.list ds):=by
 obtain⟨l,xs,h1,h2,h3,h4⟩:=h
 exact⟨l,_,h1,h2,h3,.lst h4⟩
theorem yR.av {F:Fr}{α:Ev}{σ:St}{H H':Hp}{v:V}{ds:List PyData}(m:M F α σ H)(h:yR F α σ H v H' ds):AV (Gz F α σ H') v (.list ds):=by
 obtain⟨l,xs,rfl,h1,h2,h3⟩:=h
 exact .lst (zJ (m.fresh h1) h2) (h3.same (zo fun a o h e=>⟨h.1,e⟩))
section
variable (X:Cx)(α:Ev)
def EvD (e:Expr)(Q:PyData→Prop):Prop:=∀(F:Fr) (σ:St) (H:Hp) (R:VK),M F α σ H→(∀d v H',Q d→zH F H'→Kz F H H'→AV (Gz F α σ H') v d→R v H')→tT X e σ H R
def EvL (e:Expr)(Q:List PyData→Prop):Prop:=∀(F:Fr) (σ:St) (H:Hp) (R:VK),M F α σ H→(∀ds v H',Q ds→zH F H'→Kz F H H'→yR F α σ H v H' ds→R v H')→tT X e σ H R
def EvT (e:Expr)(Q:Bool→Prop):Prop:=∀(F:Fr) (σ:St) (H:Hp) (R:Bool→Hp→Prop),M F α σ H→(∀b H',Q b→zH F H'→Kz F H H'→R b H')→zh3 X e σ H R
def jg (F:Fr)(G:Hp)(v:V):A→Prop
 |.dat d=>AV G v d
 |.tape=>∃t b c,F.tp=some (t,b,c)∧v=.ref t
 |_=>False
inductive zX (F:Fr)(G:Hp):List V→List A→Prop where
 |nil:zX F G [] []
 |cons {v:V} {vs:List V} {a:A} {as:List A}:jg F G v a→zX F G vs as→zX F G (v::vs) (a::as)
def EvA (es:List Expr)(Q:List A→Prop):Prop:=∀(F:Fr) (σ:St) (H:Hp) (R:List V→Hp→Prop),M F α σ H→(∀as vs H',Q as→zH F H'→Kz F H H'→zX F (Gz F α σ H') vs as→R vs H')→zk7 X es σ H R
end
theorem jg.to {F F':Fr}{G G':Hp}(s:zw G G')(hp:F'.tp=F.tp){v:V}:∀{a:A},jg F G v a→jg F' G' v a
 |.dat _,h=>AV.same s h
 |.tape,⟨t,b,c,e,z⟩=>⟨t,b,c,hp.trans e,z⟩
 |.ow _,h=>h
 |.deep _ _,h=>h
 |.at _,h=>h
 |.exc _ _,h=>h
 |.pin _ _ _,h=>h
theorem zX.to {F F':Fr}{G G':Hp}(s:zw G G')(hp:F'.tp=F.tp):∀{vs:List V} {as:List A},zX F G vs as→zX F' G' vs as
 |_,_,.nil=>.nil
 |_,_,.cons h r=>.cons (h.to s hp) (zX.to s hp r)
theorem zX.length {F:Fr}{G:Hp}:∀{vs:List V} {as:List A},zX F G vs as→vs.length=as.length
 |_,_,.nil=>rfl
 |_,_,.cons _ r=>by rw[zr1,zr1,zX.length r]
def A.d :A→PyData
 |.dat d=>d
 |.ow c=>c
 |.deep d _=>d
 |_=>.none
def iY (F:Fr)(v:V)(H':Hp):A→Prop
 |.dat d=>AV (sub (fun x=>¬F.O0 x) H') v d
 |.ow c=>∃l xs ds,v=.ref l∧c=.list ds∧F.H0 l=none∧¬F.O0 l∧H' l=some (.lst xs)∧AVs (sub (fun x=>¬F.O0 x∧x≠l) H') xs ds
 |.deep d S=>AV (tq S (sub (fun x=>¬F.O0 x) H') H') v d∧∀x,S x→¬F.O0 x∧F.H0 x=none∧∃xs,H' x=some (.lst xs)
 |_=>False
def xO (F:Fr)(v:V)(H':Hp)(a:A):Prop:=zH F H'∧Kz F F.H0 H'∧iY F v H' a
def spA (φ:List A→(A→Prop)→Prop):Sp:=fun vs H Qc _=>∃(F:Fr) (as:List A) (Q:A→Prop),F.H0=H∧zH F H∧(∀x,F.O0 x→∃o,H x=some o∧wQ o)∧zX F (sub (fun x=>¬F.O0 x) H) vs as∧φ as Q∧∀a v H',Q a→xO F v H' a→Qc v H'
theorem iY.to {F F':Fr}{v:V}{H':Hp}{a:A}(r:iY F v H' a)(ho:∀x,F'.O0 x→F.O0 x)(h0:∀x,F.H0 x=none→F'.H0 x=none):iY F' v H' a:=by
 have s:zw (sub (fun x=>¬F.O0 x) H') (sub (fun x=>¬F'.O0 x) H'):=zo fun a o h e=>⟨fun z=>h (ho _ z),e⟩
 cases a with
 |dat d=>exact AV.same s r
 |ow c=>
  obtain⟨l,xs,ds,h1,hc,h2,h3,h4,h5⟩:=r
  exact⟨l,xs,ds,h1,hc,h0 _ h2,fun z=>h3 (ho _ z),h4,h5.same (zo fun a o h e=>⟨⟨fun z=>h.1 (ho _ z),h.2⟩,e⟩)⟩
 |deep d S=>
  obtain⟨h1,h2⟩:=r
  refine⟨h1.same (vw s fun _ _ _ e=>e),fun x z=>?_⟩
  obtain⟨z1,z2,z3⟩:=h2 x z
  exact⟨fun w=>z1 (ho _ w),h0 _ z2,z3⟩
 |tape=>exact r
 |«at» _=>exact r
 |exc _ _=>exact r
 |pin _ _ _=>exact r
structure yE where
 nx:Ev→Prop
 rt:A→Prop
 bk:Ev→Prop:=fun _=>False
 ct:Ev→Prop:=fun _=>False
structure rC (F:Fr)(E:yE)(D:Ends):Prop where
 nx:∀α σ H,M F α σ H→E.nx α→D.nx σ H
 rt:∀a v H,xO F v H a→E.rt a→D.rt v H
 bk:∀α σ H,M F α σ H→E.bk α→D.bk σ H
 ct:∀α σ H,M F α σ H→E.ct α→D.ct σ H
def SvS (X:Cx)(α:Ev)(sts:List Stmt)(E:yE):Prop:=∀(F:Fr) (σ:St) (H:Hp) (D:Ends),M F α σ H→rC F E D→ni X sts D σ H
theorem rC.up {F:Fr}{G:Hp}{E:yE}{D:Ends}(e:rC F E D):rC (F.up G) E D where
 nx:=fun α σ H m q=>e.nx α σ H m.down q
 bk:=fun α σ H m q=>e.bk α σ H m.down q
 ct:=fun α σ H m q=>e.ct α σ H m.down q
 rt:=fun a v H r q=>e.rt a v H (by
  obtain⟨t,k,r⟩:=r
  exact⟨t.to rfl fun _ z=>z,fun x o e n=>k x o (qA e) n,r.to (fun _ z=>z) fun x z=>kK z⟩) q
section
variable {X:Cx}{α:Ev}{e a b c:Expr}{es:List Expr}{pos p q:Pos}{Q:PyData→Prop}
theorem EvL.d (h:EvL X α e (fun ds=>Q (.list ds))):EvD X α e Q:=fun F σ H R m k=>h F σ H R m fun ds v H' q t z f=>k _ v H' q t z (f.av m)
theorem EvD.imp {Q':PyData→Prop}(h:EvD X α e Q')(k:∀d,Q' d→Q d):EvD X α e Q:=fun F σ H R m r=>h F σ H R m fun d v H' q=>r d v H' (k d q)
theorem zb (i:Nat){x:Str}{d:PyData}(hi:α[i]?=some (some (.dat d)))(q:Q d)(hN:X.N[i]?=some x:=by rfl)(hv:Vis X.env.scope x:=by first|exact Or.inl rfl|exact Or.inr (Or.inl rfl)|exact Or.inr (Or.inr rfl))
  (hd:(x == ("__debug__":Str))=false:=by decide) (hcd:(x == ("__classdict__":Str))=false:=by decide):EvD X α (.Name x pos) Q:=fun F σ H R m k=>by
 obtain⟨v,h1,h2⟩:=m.dat i d hi
 exact⟨_,wC hN hv hd hcd,v,h1,k d v H q m.tp Kz.refl h2⟩
theorem zk {i:Int}{j:Nat}(q:Q (.int i)):EvD X α (.Constant (.int i) j pos) Q:=fun F σ H R m k=>⟨_,zx,k _ _ H q m.tp Kz.refl (.int i)⟩
theorem aa {i:Bool}{j:Nat}(q:Q (.bool i)):EvD X α (.Constant (.bool i) j pos) Q:=fun F σ H R m k=>⟨_,zj7,k _ _ H q m.tp Kz.refl (.bl i)⟩
theorem pz {j:Nat}(q:Q .none):EvD X α (.Constant .none j pos) Q:=fun F σ H R m k=>⟨_,pG,k _ _ H q m.tp Kz.refl .non⟩
theorem zz {x:Str}{j:Nat}(q:Q (.str x)):EvD X α (.Constant (.str x) j pos) Q:=fun F σ H R m k=>⟨_,yb,k _ _ H q m.tp Kz.refl (.str x)⟩
theorem iM {x:Str}{i:Int}(hg:Gl X x)(hm:∃t,X.mg x=some (.int i t))(q:Q (.int i))(hd:(x == ("__debug__":Str))=false:=by decide):EvD X α (.Name x pos) Q:=fun F σ H R m k=>by
 obtain⟨t,hm⟩:=hm
 exact⟨_,vv hg hm (show RelV (.int i) (.int i t) from ⟨t,rfl⟩) hd,k _ _ H q m.tp Kz.refl (.int i)⟩
theorem uH {f:TE→TE→TE}(hf:PE X e (f (tT X a) (tT X b)))(hr:∀σ H R,f (tT X a) (tT X b) σ H R↔tT X a σ H (fun x H1=>tT X b σ H1 fun y H2=>f (tC x) (tC y) σ H2 R))
  (h:EvD X α a fun x=>EvD X α b fun y=>∀(F:Fr) (σ:St) (H:Hp) (vx vy:V) (R:VK),M F α σ H→AV (Gz F α σ H) vx x→AV (Gz F α σ H) vy y→(∀d v H',Q d→zH F H'→Kz F H H'→AV (Gz F α σ H') v d→R v H')→f (tC vx) (tC vy) σ H R):
  EvD X α e Q:=fun F σ H R m k=>by
 refine⟨_,hf,(hr σ H R).mpr ?_⟩
 refine h F σ H _ m fun x vx H1 q1 t1 k1 r1=>?_
 have m1:=m.kz k1 t1
 refine q1 F σ H1 _ m1 fun y vy H2 q2 t2 k2 r2=>?_
 exact q2 F σ H2 vx vy R (m1.kz k2 t2) (r1.same (k2.gz m1.tp)) r2 fun d v H' qd t3 k3 r3=>k d v H' qd t3 ((k1.trans k2).trans k3) r3
theorem AV.int_inv {H:Hp}{v:V}{i:Int}(h:AV H v (.int i)):v=.int i:=by cases h;rfl
theorem AV.bl_inv {H:Hp}{v:V}{i:Bool}(h:AV H v (.bool i)):v=.bl i:=by cases h;rfl
theorem AV.str_inv {H:Hp}{v:V}{i:Str}(h:AV H v (.str i)):v=.str i:=by cases h;rfl
theorem AV.tup_inv {H:Hp}{v:V}{ds:List PyData}(h:AV H v (.tuple ds)):∃a xs,v=.ref a∧H a=some (.tup xs)∧AVs H xs ds:=by cases h;exact⟨_,_,rfl,by assumption,by assumption⟩
theorem AV.lst_inv {H:Hp}{v:V}{ds:List PyData}(h:AV H v (.list ds)):∃a xs,v=.ref a∧H a=some (.lst xs)∧AVs H xs ds:=by cases h;exact⟨_,_,rfl,by assumption,by assumption⟩
theorem AV.non_inv {H:Hp}{v:V}(h:AV H v .none):v=.non:=by cases h;rfl
theorem AV.isnon {H:Hp}{v:V}{d:PyData}(h:AV H v d):decide (v=.non)=(match d with|.none=>true|_=>false):=by cases h<;>simp
theorem qW {op:Operator}{C:Int→Int→Prop}{g:Int→Int→V}{gd:Int→Int→PyData}(ho:OpR X (binaryOp op) (rI C g))(hg:∀H i j,AV H (g i j) (gd i j))
  (h:EvD X α a fun x=>EvD X α b fun y=>∃i j,x=.int i∧y=.int j∧C i j∧Q (gd i j)):EvD X α (.BinOp a op b pos) Q:=by
 refine uH (f:=tOp (rI C g)) (xl ho zg zg) (fun _ _ _=>Iff.rfl) (h.imp fun x h=>h.imp fun y ⟨i,j,e1,e2,hc,hq⟩=>?_)
 subst e1 e2
 intro F σ H vx vy R m rx ry k
 cases rx.int_inv;cases ry.int_inv
 exact⟨i,j,rfl,rfl,hc,k _ _ H hq m.tp Kz.refl (hg _ i j)⟩
theorem ko {op:Operator}{g:Int→Int→V}{gd:Int→Int→PyData}(ho:OpR X (binaryOp op) (rI0 g))(hg:∀H i j,AV H (g i j) (gd i j))
  (h:EvD X α a fun x=>EvD X α b fun y=>∃i j,x=.int i∧y=.int j∧Q (gd i j)):EvD X α (.BinOp a op b pos) Q:=by
 refine uH (f:=tOp (rI0 g)) (xl ho zg zg) (fun _ _ _=>Iff.rfl) (h.imp fun x h=>h.imp fun y ⟨i,j,e1,e2,hq⟩=>?_)
 subst e1 e2
 intro F σ H vx vy R m rx ry k
 cases rx.int_inv;cases ry.int_inv
 exact⟨i,j,rfl,rfl,k _ _ H hq m.tp Kz.refl (hg _ i j)⟩
theorem yx (h:EvD X α a fun x=>EvD X α b fun y=>∃i j,x=.int i∧y=.int j∧Q (.int (i+j))):EvD X α (.BinOp a .Add b pos) Q:=ko (gd:=fun i j=>.int (i+j)) qD (fun _ _ _=>.int _) h
theorem vT (h:EvD X α a fun x=>EvD X α b fun y=>∃i j,x=.int i∧y=.int j∧Q (.int (i-j))):EvD X α (.BinOp a .Sub b pos) Q:=ko (gd:=fun i j=>.int (i-j)) iN (fun _ _ _=>.int _) h
theorem qG (h:EvD X α a fun x=>EvD X α b fun y=>∃i j,x=.int i∧y=.int j∧cb i j∧Q (.int (i*j))):EvD X α (.BinOp a .Mult b pos) Q:=qW (gd:=fun i j=>.int (i*j)) pJ (fun _ _ _=>.int _) h
theorem aZ (h:EvD X α a fun x=>EvD X α b fun y=>∃i j,x=.int i∧y=.int j∧za7 i j∧Q (.int (i ^ j.toNat))):EvD X α (.BinOp a .Pow b pos) Q:=qW (gd:=fun i j=>.int (i ^ j.toNat)) aY (fun _ _ _=>.int _) h
theorem iV (h:EvD X α a fun x=>EvD X α b fun y=>∃i j,x=.int i∧y=.int j∧0<j∧Q (.int (i % j))):EvD X α (.BinOp a .Mod b pos) Q:=qW (gd:=fun i j=>.int (i % j)) sy (fun _ _ _=>.int _) h
theorem kT (h:EvD X α a fun x=>EvD X α b fun y=>∃i j,x=.int i∧y=.int j∧aF i j∧Q (.int (i / j))):EvD X α (.BinOp a .FloorDiv b pos) Q:=qW (gd:=fun i j=>.int (i / j)) sk (fun _ _ _=>.int _) h
theorem yK {i j r:Int}{p1 p2:Pos}{n1 n2:Nat}(hc:za7 i j)(hr:i ^ j.toNat=r)(q:Q (.int r)):EvD X α (.BinOp (.Constant (.int i) n1 p1) .Pow (.Constant (.int j) n2 p2) pos) Q:=
 aZ (zk (zk ⟨i,j,rfl,rfl,hc,hr▸q⟩))
theorem iB (h:EvD X α a fun x=>∃i,x=.int i∧Q (.int (-i))):EvD X α (.UnaryOp .USub a pos) Q:=fun F σ H R m k=>by
 refine⟨_,zj3 za9 zg,?_⟩
 refine h F σ H _ m fun x vx H1 q1 t1 k1 r1=>?_
 obtain⟨i,rfl,q⟩:=q1
 cases r1.int_inv
 exact⟨i,rfl,k _ _ H1 q t1 k1 (.int _)⟩
theorem br {op:CmpOp}{g:Int→Int→Bool}(ho:OpR X (compareOp op) (rI0 fun i j=>.bl (g i j)))(hm:behindInMarks op b=false)
  (h:EvD X α a fun x=>EvD X α b fun y=>∃i j,x=.int i∧y=.int j∧Q (.bool (g i j))):EvD X α (.Compare a [op] [b] pos) Q:=by
 refine uH (f:=tOp (rI0 fun i j=>.bl (g i j))) (xU ho zg zg hm) (fun _ _ _=>Iff.rfl) (h.imp fun x h=>h.imp fun y ⟨i,j,e1,e2,hq⟩=>?_)
 subst e1 e2
 intro F σ H vx vy R m rx ry k
 cases rx.int_inv;cases ry.int_inv
 exact⟨i,j,rfl,rfl,k _ _ H hq m.tp Kz.refl (.bl _)⟩
theorem zf8 (h:EvD X α a fun x=>EvD X α b fun y=>∃i j,x=.int i∧y=.int j∧Q (.bool (decide (i≤j)))):EvD X α (.Compare a [.LtE] [b] pos) Q:=br uV (zK _) h
def kd :PyData→Bool
 |.none=>true
 |_=>false
theorem AV.non_iff {H:Hp}{v:V}{d:PyData}(h:AV H v d):decide (v=.non)=kd d:=by cases h<;>simp[kd]
theorem xr {Q:Bool→Prop}(h:EvD X α e fun x=>∃k,x=.bool k∧Q k)(he:∀whole,isTrue e X.env whole=(do let v ←whole;standAt e.pos;holding [v] (truthy v)):=by intro _;rfl):EvT X α e Q:=fun F σ H R m k=>by
 refine⟨_,gL zg he,?_⟩
 refine h F σ H _ m fun x vx H1 q1 t1 k1 r1=>?_
 obtain⟨b,rfl,q⟩:=q1
 cases r1.bl_inv
 exact⟨b,rfl,k b H1 q t1 k1⟩
def Cmp (r:R2)(x y:PyData)(k:Bool):Prop:=∀(p:Addr→Prop) (H:Hp) (vx vy:V) (R:VK),AV (sub p H) vx x→AV (sub p H) vy y→R (.bl k) H→r vx vy H R
theorem wa {op:CmpOp}{r:R2}{Q:Bool→Prop}(ho:OpR X (compareOp op) r)(hm:behindInMarks op b=false)(h:EvD X α a fun x=>EvD X α b fun y=>∃k,Cmp r x y k∧Q k):EvT X α (.Compare a [op] [b] pos) Q:=fun F σ H R m k=>by
 refine⟨_,yu ho zg zg hm,?_⟩
 refine h F σ H _ m fun x vx H1 q1 t1 k1 r1=>?_
 have m1:=m.kz k1 t1
 refine q1 F σ H1 _ m1 fun y vy H2 q2 t2 k2 r2=>?_
 obtain⟨b,hc,q⟩:=q2
 exact hc _ H2 vx vy _ (r1.same (k2.gz m1.tp)) r2 ⟨b,rfl,k b H2 q t2 (k1.trans k2)⟩
theorem bw {g:Int→Int→Bool}{i j:Int}:Cmp (rI0 fun i j=>.bl (g i j)) (.int i) (.int j) (g i j):=fun p H vx vy R rx ry h=>by
 cases rx.int_inv;cases ry.int_inv
 exact⟨i,j,rfl,rfl,h⟩
theorem pE {op:CmpOp}{g:Int→Int→Bool}{Q:Bool→Prop}(ho:OpR X (compareOp op) (rI0 fun i j=>.bl (g i j)))(hm:behindInMarks op b=false)
  (h:EvD X α a fun x=>EvD X α b fun y=>∃i j,x=.int i∧y=.int j∧Q (g i j)):EvT X α (.Compare a [op] [b] pos) Q:=
 wa ho hm (h.imp fun x h=>h.imp fun y ⟨i,j,e1,e2,q⟩=>⟨_,by subst e1 e2;exact bw,q⟩)
theorem eU {Q:Bool→Prop}(h:EvD X α a fun x=>EvD X α b fun y=>∃i j,x=.int i∧y=.int j∧Q (decide (i<j))):EvT X α (.Compare a [.Lt] [b] pos) Q:=pE zh1 (zK _) h
theorem rM {Q:Bool→Prop}(h:EvD X α a fun x=>EvD X α b fun y=>∃i j,x=.int i∧y=.int j∧Q (decide (j<i))):EvT X α (.Compare a [.Gt] [b] pos) Q:=pE ar (zK _) h
theorem bV {Q:Bool→Prop}(h:EvD X α a fun x=>EvD X α b fun y=>∃i j,x=.int i∧y=.int j∧Q (decide (j≤i))):EvT X α (.Compare a [.GtE] [b] pos) Q:=pE zk3 (zK _) h
theorem uG {j:Nat}{Q:Bool→Prop}(h:EvD X α a fun x=>Q (kd x)):EvT X α (.Compare a [.Is] [.Constant .none j p] pos) Q:=
 wa mQ (zK _) (h.imp fun x h=>pz ⟨_,fun p H vx vy R rx ry z=>⟨ry.non_inv,by rw[rx.non_iff];exact z⟩,h⟩)
def zm6 :PyData→Option Bool
 |.none=>some false
 |.bool b=>some b
 |.int i=>some (i != 0)
 |.list ds=>some (!ds.isEmpty)
 |.tuple ds=>some (!ds.isEmpty)
 |_=>none
theorem AVs.isEmpty {H:Hp}{xs:List V}{ds:List PyData}(h:AVs H xs ds):xs.isEmpty=ds.isEmpty:=by cases h<;>rfl
theorem oG {Q:Bool→Prop}(h:EvD X α e fun x=>∃k,zm6 x=some k∧Q k)(he:∀whole,isTrue e X.env whole=(do let v ←whole;standAt e.pos;holding [v] (truthy v)):=by intro _;rfl):EvT X α e Q:=fun F σ H R m k=>by
 refine⟨_,iC zg he,?_⟩
 refine h F σ H _ m fun x vx H1 q1 t1 k1 r1=>?_
 obtain⟨b,hb,q⟩:=q1
 refine⟨b,?_,k b H1 q t1 k1⟩
 cases r1 with
 |non=>cases hb;rfl
 |bl z=>cases hb;rfl
 |int i=>cases hb;rfl
 |str s=>cases hb
 |lst h1 h2=>cases hb;exact .inl ⟨_,SqL.of (zf h1).2,by rw[h2.isEmpty]⟩
 |tup h1 h2=>cases hb;exact .inr (.inl ⟨_,SqT.of (zf h1).2,by rw[h2.isEmpty]⟩)
 |ins _ _=>cases hb
 |dk _ _=>cases hb
 |dt _ _=>cases hb
 |xc _ _ _=>cases hb
 |xn _=>cases hb
theorem xt {Q:Bool→Prop}(h:EvT X α a fun k=>Q (!k)):EvT X α (.UnaryOp .Not a pos) Q:=fun F σ H R m k=>by
 refine⟨_,fL xV,?_⟩
 exact h F σ H _ m fun b H1 q1 t1 k1=>k _ H1 q1 t1 k1
def EvW (X:Cx)(α:Ev)(e:Expr)(Q:Bool→Prop):Prop:=∀(F:Fr) (σ:St) (H:Hp) (R:Bool→Hp→Prop),M F α σ H→(∀b H',Q b→zH F H'→Kz F H H'→R b H')→∃t,PW X e t∧t σ H R
def zo2 (X:Cx)(e:Expr):TT:=fun σ H Q=>∃t,PW X e t∧t σ H Q
theorem lV :PW X e (zo2 X e):=fun w pins s σ H Q I ⟨t,p,q⟩=>p w pins s σ H Q I q
theorem EvW.t {Q:Bool→Prop}(h:EvW X α e Q):EvT X α e Q:=fun F σ H R m k=>by
 obtain⟨t,p,q⟩:=h F σ H R m k
 exact⟨t,p.pt,q⟩
variable {rest:List Expr}
theorem tM {Q:Bool→Prop}(h:EvT X α a Q):EvW X α (.BoolOp .And [a] pos) Q:=fun F σ H R m k=>⟨_,dB xV,h F σ H R m k⟩
theorem za1 {Q:Bool→Prop}(h:EvT X α a Q):EvW X α (.BoolOp .Or [a] pos) Q:=fun F σ H R m k=>⟨_,nY xV,h F σ H R m k⟩
theorem mw {Q:Bool→Prop}(h:EvT X α a fun k=>if k=true then EvW X α (.BoolOp .And (b::rest) pos) Q else Q false):EvW X α (.BoolOp .And (a::b::rest) pos) Q:=fun F σ H R m k=>by
 refine⟨_,aM xV lV,?_⟩
 refine h F σ H _ m fun c H1 q1 t1 k1=>?_
 cases c with
 |true=>exact uF ((by simpa using q1:EvW X α _ Q) F σ H1 R (m.kz k1 t1) fun b H2 q2 t2 k2=>k b H2 q2 t2 (k1.trans k2))
 |false=>exact tD (k _ H1 (by simpa using q1) t1 k1)
theorem lM {Q:Bool→Prop}(h:EvT X α a fun k=>if k=true then Q true else EvW X α (.BoolOp .Or (b::rest) pos) Q):EvW X α (.BoolOp .Or (a::b::rest) pos) Q:=fun F σ H R m k=>by
 refine⟨_,iW xV lV,?_⟩
 refine h F σ H _ m fun c H1 q1 t1 k1=>?_
 cases c with
 |false=>exact tD ((by simpa using q1:EvW X α _ Q) F σ H1 R (m.kz k1 t1) fun b H2 q2 t2 k2=>k b H2 q2 t2 (k1.trans k2))
 |true=>exact uF (k _ H1 (by simpa using q1) t1 k1)
theorem zd5 {op}(h:EvD X α a Q):EvD X α (.BoolOp op [a] pos) Q:=fun F σ H R m k=>⟨_,xK zg,h F σ H R m k⟩
theorem zi7 (h:EvD X α a fun x=>∃k,x=.bool k∧if k=true then Q (.bool true) else EvD X α (.BoolOp .Or (b::rest) pos) Q):EvD X α (.BoolOp .Or (a::b::rest) pos) Q:=fun F σ H R m k=>by
 refine⟨_,gD zg zg,?_⟩
 refine h F σ H _ m fun x vx H1 q1 t1 k1 r1=>?_
 obtain⟨c,rfl,q1⟩:=q1
 cases r1.bl_inv
 refine⟨c,rfl,?_⟩
 cases c with
 |false=>exact tD ((by simpa using q1:EvD X α _ Q) F σ H1 R (m.kz k1 t1) fun d v H2 q2 t2 k2 r2=>k d v H2 q2 t2 (k1.trans k2) r2)
 |true=>exact uF (k _ _ H1 (by simpa using q1) t1 k1 (.bl _))
theorem gE (h:EvD X α a fun x=>∃k,x=.bool k∧Q (.bool (!k))):EvD X α (.UnaryOp .Not a pos) Q:=fun F σ H R m k=>by
 refine⟨_,gf zg,?_⟩
 refine h F σ H _ m fun x vx H1 q1 t1 k1 r1=>?_
 obtain⟨c,rfl,q⟩:=q1
 cases r1.bl_inv
 exact⟨c,rfl,k _ _ H1 q t1 k1 (.bl _)⟩
theorem lg (h:EvT X α c fun k=>if k=true then EvD X α a Q else EvD X α b Q):EvD X α (.IfExp c a b pos) Q:=fun F σ H R m k=>by
 refine⟨_,eE xV zg zg,?_⟩
 refine h F σ H _ m fun x H1 q1 t1 k1=>?_
 cases x with
 |true=>exact uF ((by simpa using q1:EvD X α _ Q) F σ H1 R (m.kz k1 t1) fun d v H2 q2 t2 k2 r2=>k d v H2 q2 t2 (k1.trans k2) r2)
 |false=>exact tD ((by simpa using q1:EvD X α _ Q) F σ H1 R (m.kz k1 t1) fun d v H2 q2 t2 k2 r2=>k d v H2 q2 t2 (k1.trans k2) r2)
theorem vi (hs:tH b)(h:EvD X α a fun x=>EvD X α b fun y=>∃ds i d,x=.list ds∧y=.int i∧atI ds i=some d∧Q d):EvD X α (.Subscript a b pos) Q:=by
 refine uH (f:=tOp (zd3 X.K)) (yn xx zg zg hs) (fun _ _ _=>Iff.rfl) (h.imp fun x h=>h.imp fun y ⟨ds,i,d,e1,e2,hat,hq⟩=>?_)
 subst e1 e2
 intro F σ H vx vy R m rx ry k
 obtain⟨a,xs,rfl,h1,h2⟩:=rx.lst_inv
 cases ry.int_inv
 obtain⟨v,hv,av⟩:=h2.atI hat
 exact⟨a,xs,i,v,rfl,rfl,SqL.of (zf h1).2,hv,k d v H hq m.tp Kz.refl av⟩
theorem vn (hs:tH b)(h:EvD X α a fun x=>EvD X α b fun y=>∃ds i d,x=.tuple ds∧y=.int i∧atI ds i=some d∧Q d):EvD X α (.Subscript a b pos) Q:=by
 refine uH (f:=tOp (zc7 X.K)) (yn yv zg zg hs) (fun _ _ _=>Iff.rfl) (h.imp fun x h=>h.imp fun y ⟨ds,i,d,e1,e2,hat,hq⟩=>?_)
 subst e1 e2
 intro F σ H vx vy R m rx ry k
 obtain⟨a,xs,rfl,h1,h2⟩:=rx.tup_inv
 cases ry.int_inv
 obtain⟨v,hv,av⟩:=h2.atI hat
 exact⟨a,xs,i,v,rfl,rfl,SqT.of (zf h1).2,hv,k d v H hq m.tp Kz.refl av⟩
theorem M.lay {F:Fr}{σ:St}{H:Hp}{l:Addr}{xs:List V}{ds:List PyData}(m:M F α σ H)(hl:H l=none)(h:AVs (Gz F α σ H) xs ds):zH F (upd H l (.lst xs))∧Kz F H (upd H l (.lst xs))∧yR F α σ H (.ref l) (upd H l (.lst xs)) ds:=by
 refine⟨m.tp.same (zM hl),Kz.of_same (zM hl),l,xs,rfl,hl,zh,h.same (zo fun a o ha e=>?_)⟩
 have:=zm e hl
 exact⟨⟨ha,this⟩,by rw[zl this];exact e⟩
theorem yR.back {F:Fr}{σ:St}{H H1 H':Hp}{v:V}{ds:List PyData}(m:M F α σ H)(k:Kz F H H1)(t1:zH F H1)(h:yR F α σ H1 v H' ds):yR F α σ H v H' ds:=by
 obtain⟨l',xs',e1,e2,e3,e4⟩:=h
 refine⟨l',xs',e1,?_,e3,e4⟩
 cases z:H l' with
 |none=>rfl
 |some o=>rw[k l' o z (m.tp.nt (ow0 ((m.kz k t1).fresh e2)))] at e2;cases e2
theorem ze {Q:List A→Prop}(q:Q []):EvA X α [] Q:=fun F σ H R m k=>⟨_,zp,k _ _ H q m.tp Kz.refl .nil⟩
theorem za {Q:List A→Prop}(h:EvD X α e fun d=>EvA X α es fun as=>Q (.dat d::as))(hs:starEach (e::es) X.env=(false,eval e X.env)::starEach es X.env:=by rfl):EvA X α (e::es) Q:=fun F σ H R m k=>by
 refine⟨_,zd zg yZ hs,?_⟩
 refine h F σ H _ m fun d v H1 q1 t1 k1 r1=>?_
 have m1:=m.kz k1 t1
 exact q1 F σ H1 _ m1 fun as vs H2 q2 t2 k2 r2=>k _ _ H2 q2 t2 (k1.trans k2) (.cons (r1.same (k2.gz m1.tp)) r2)
theorem zt {Q:List A→Prop}(i:Nat){x:Str}(hi:α[i]?=some (some .tape))(h:EvA X α es fun as=>Q (.tape::as))(hN:X.N[i]?=some x:=by rfl)(hv:Vis X.env.scope x:=by first|exact Or.inl rfl|exact Or.inr (Or.inl rfl)|exact Or.inr (Or.inr rfl))
  (hd:(x == ("__debug__":Str))=false:=by decide) (hcd:(x == ("__classdict__":Str))=false:=by decide) (hs:starEach (.Name x pos::es) X.env=(false,eval (.Name x pos) X.env)::starEach es X.env:=by rfl):EvA X α (.Name x pos::es) Q:=fun F σ H R m k=>by
 obtain⟨t,b,c,h1,h2⟩:=m.tvar i hi
 refine⟨_,zd (wC hN hv hd hcd) yZ hs,.ref t,h2,?_⟩
 exact h F σ H _ m fun as vs H2 q2 t2 k2 r2=>k _ _ H2 q2 t2 k2 (.cons ⟨t,b,c,h1,rfl⟩ r2)
def datas :List A→Option (List PyData)
 |[]=>some []
 |.dat d::r=>(datas r).map (d::·)
 |_::_=>none
theorem zX.datas {F:Fr}{G:Hp}:∀{vs:List V} {as:List A} {ds:List PyData},zX F G vs as→L2.datas as=some ds→AVs G vs ds
 |_,_,ds,.nil,h=>by cases h;exact .nil
 |_,_,ds,.cons (a:=.dat d) (as:=as) h r,e=>by
  simp only[L2.datas,zq3] at e
  obtain⟨es,e1,rfl⟩:=e
  exact .cons h (zX.datas r e1)
 |_,_,ds,.cons (a:=.ow _) h r,e=>by cases h
 |_,_,ds,.cons (a:=.deep _ _) h r,e=>by cases h
 |_,_,ds,.cons (a:=.exc _ _) h r,e=>by cases h
 |_,_,ds,.cons (a:=.pin _ _ _) h r,e=>by cases h
 |_,_,ds,.cons (a:=.tape) h r,e=>by cases e
 |_,_,ds,.cons (a:=.at _) h r,e=>by cases h
theorem yr {n:Nat}(h:EvA X α es fun as=>∃ds,datas as=some ds∧ds.length≤1000∧Q (.tuple ds)):EvD X α (.Tuple es n pos) Q:=fun F σ H R m k=>by
 refine⟨_,nQ yZ,?_⟩
 refine h F σ H _ m fun as vs H1 q1 t1 k1 r1=>?_
 obtain⟨ds,e,hl,q⟩:=q1
 have r:=r1.datas e
 have m1:=m.kz k1 t1
 refine⟨by rw[r.length];exact zv3 (yP hl),fun p hp=>?_⟩
 refine k _ _ _ q (t1.same (zM hp)) (k1.trans (Kz.of_same (zM hp))) (.tup (xs:=vs) (zJ (m1.fresh hp) zh) (r.same (zo fun a o ha e=>⟨ha,by rw[zl (zm e hp)];exact e⟩)))
theorem ym {Q:List PyData→Prop}(h:EvA X α es fun as=>∃ds,datas as=some ds∧ds.length≤1000∧Q ds):EvL X α (.List es pos) Q:=fun F σ H R m k=>by
 refine⟨_,gS yZ,?_⟩
 refine h F σ H _ m fun as vs H1 q1 t1 k1 r1=>?_
 obtain⟨ds,e,hl,q⟩:=q1
 have r:=r1.datas e
 have m1:=m.kz k1 t1
 refine⟨by rw[r.length];exact zv3 (yP hl),fun p hp=>?_⟩
 obtain⟨g1,g2,g3⟩:=m1.lay hp r
 exact k _ _ _ q g1 (k1.trans g2) (g3.back m k1 t1)
theorem ua {Q:List PyData→Prop}(h:EvD X α a fun x=>EvD X α b fun y=>∃ds es,x=.list ds∧y=.list es∧ds.length+es.length≤1000∧Q (ds++es)):EvL X α (.BinOp a .Add b pos) Q:=fun F σ H R m k=>by
 refine⟨_,xl gX zg zg,?_⟩
 refine h F σ H _ m fun x vx H1 q1 t1 k1 r1=>?_
 have m1:=m.kz k1 t1
 refine q1 F σ H1 _ m1 fun y vy H2 q2 t2 k2 r2=>?_
 have m2:=m1.kz k2 t2
 obtain⟨ds,es,rfl,rfl,hl,q⟩:=q2
 obtain⟨a,xs,rfl,h1,h2⟩:=(r1.same (k2.gz m1.tp)).lst_inv
 obtain⟨b,ys,rfl,h3,h4⟩:=r2.lst_inv
 refine⟨a,b,xs,ys,rfl,rfl,(zf h1).2,(zf h3).2,by rw[h2.length,h4.length];exact zv3 (yP hl),fun p hp=>?_⟩
 obtain⟨g1,g2,g3⟩:=m2.lay hp (h2.append h4)
 exact k _ _ _ q g1 ((k1.trans k2).trans g2) (g3.back m (k1.trans k2) t2)
theorem uz {id:String}{x:Str}{r:List V→Hp→VK→Prop}(hc:xQ X (.builtin id) r)(hg:Gl X x)(hm:X.mg x=none)(hv:bootBuiltins x=some (.builtin id))
  (h:EvA X α (e::es) fun as=>∀(F:Fr) (σ:St) (H:Hp) (vs:List V) (R:VK),M F α σ H→zX F (Gz F α σ H) vs as→(∀d v H',Q d→zH F H'→Kz F H H'→AV (Gz F α σ H') v d→R v H')→r vs H R)
  (hn:x≠"__name__":=by decide) (hdb:(x == ("__debug__":Str))=false:=by decide) (he:starEach (e::es) X.env=(false,eval e X.env)::starEach es X.env:=by rfl) (hpl:(backTo pos (starEach es X.env)).any (·.1)=false:=by rfl):
  EvD X α (.Call (.Name x p) (e::es) [] pos) Q:=fun F σ H R m k=>by
 refine⟨_,yz hc hg hm hv yZ hn hdb he hpl,?_⟩
 refine h F σ H _ m fun as vs H1 q1 t1 k1 r1=>?_
 exact q1 F σ H1 vs R (m.kz k1 t1) r1 fun d v H' qd t2 k2 r2=>k d v H' qd t2 (k1.trans k2) r2
end
section
variable {X:Cx}{α:Ev}{e a b c:Expr}{es:List Expr}{pos p q:Pos}{Q:PyData→Prop}
theorem zX.one {F:Fr}{G:Hp}{vs:List V}{d:PyData}(h:zX F G vs [.dat d]):∃v,vs=[v]∧AV G v d:=by
 cases h with|cons h r=>cases r;exact⟨_,rfl,h⟩
theorem zX.two {F:Fr}{G:Hp}{vs:List V}{d e:PyData}(h:zX F G vs [.dat d,.dat e]):∃v u,vs=[v,u]∧AV G v d∧AV G u e:=by
 cases h with|cons h r=>obtain⟨u,rfl,h2⟩:=r.one;exact⟨_,u,rfl,h,h2⟩
def zn6 :PyData→Option Int
 |.list ds=>some ds.length
 |.tuple ds=>some ds.length
 |_=>none
theorem mK (hg:Gl X "len")(hm:X.mg "len"=none)(h:EvD X α e fun x=>∃n,zn6 x=some n∧Q (.int n))(he:starEach [e] X.env=(false,eval e X.env)::starEach [] X.env:=by rfl):
  EvD X α (.Call (.Name "len" p) [e] [] pos) Q:=by
 refine uz wL hg hm PySem.boot_len (za (h.imp fun x ⟨n,e1,q⟩=>ze ?_) he) (he:=he)
 intro F σ H vs R m rv k
 obtain⟨v,rfl,av⟩:=rv.one
 cases av with
 |lst h1 h2=>cases e1;rw[←h2.length] at q;exact⟨_,_,rfl,.inl (SqL.of (zf h1).2),k _ _ H q m.tp Kz.refl (.int _)⟩
 |tup h1 h2=>cases e1;rw[←h2.length] at q;exact⟨_,_,rfl,.inr (SqT.of (zf h1).2),k _ _ H q m.tp Kz.refl (.int _)⟩
 |_=>cases e1
theorem gq (hc:X.calm=true)(hg:Gl X "max")(hm:X.mg "max"=none)(h:EvD X α a fun x=>EvD X α b fun y=>∃i j,x=.int i∧y=.int j∧Q (.int (if j > i then j else i)))
  (he:starEach [a,b] X.env=(false,eval a X.env)::starEach [b] X.env:=by rfl) (he2:starEach [b] X.env=(false,eval b X.env)::starEach [] X.env:=by rfl) (hpl:(backTo pos (starEach [b] X.env)).any (·.1)=false:=by rfl):
  EvD X α (.Call (.Name "max" p) [a,b] [] pos) Q:=by
 refine uz (jJ hc) hg hm boot_max (za (h.imp fun x h=>za (h.imp fun y ⟨i,j,e1,e2,q⟩=>ze ?_) he2) he) (he:=he) (hpl:=hpl)
 intro F σ H vs R m rv k
 subst e1 e2
 obtain⟨v,u,rfl,av,au⟩:=rv.two
 cases av.int_inv;cases au.int_inv
 exact⟨i,j,rfl,k _ _ H q m.tp Kz.refl (.int _)⟩
theorem qJ (hc:X.calm=true)(hg:Gl X "min")(hm:X.mg "min"=none)(h:EvD X α a fun x=>EvD X α b fun y=>∃i j,x=.int i∧y=.int j∧Q (.int (if j<i then j else i)))
  (he:starEach [a,b] X.env=(false,eval a X.env)::starEach [b] X.env:=by rfl) (he2:starEach [b] X.env=(false,eval b X.env)::starEach [] X.env:=by rfl) (hpl:(backTo pos (starEach [b] X.env)).any (·.1)=false:=by rfl):
  EvD X α (.Call (.Name "min" p) [a,b] [] pos) Q:=by
 refine uz (jR hc) hg hm boot_min (za (h.imp fun x h=>za (h.imp fun y ⟨i,j,e1,e2,q⟩=>ze ?_) he2) he) (he:=he) (hpl:=hpl)
 intro F σ H vs R m rv k
 subst e1 e2
 obtain⟨v,u,rfl,av,au⟩:=rv.two
 cases av.int_inv;cases au.int_inv
 exact⟨i,j,rfl,k _ _ H q m.tp Kz.refl (.int _)⟩
theorem si {T:String}{x:Str}{p1:Pos}(hg:Gl X "isinstance")(hm:X.mg "isinstance"=none)(hgT:Gl X x)(hmT:X.mg x=none)(hT:bootBuiltins x=some (.type T))
  (h:EvD X α a fun x=>∃k,x.hasDict=false∧rB T x=some k∧Q (.bool k)) (hnx:x≠"__name__":=by decide) (hdx:(x == ("__debug__":Str))=false:=by decide)
  (he:starEach [a,.Name x p1] X.env=(false,eval a X.env)::starEach [.Name x p1] X.env:=by rfl) (he2:starEach [.Name x p1] X.env=(false,eval (.Name x p1) X.env)::starEach [] X.env:=by rfl) (hpl:(backTo pos (starEach [.Name x p1] X.env)).any (·.1)=false:=by rfl):
  EvD X α (.Call (.Name "isinstance" p) [a,.Name x p1] [] pos) Q:=fun F σ H R m k=>by
 refine⟨_,yz xC hg hm zw4 (zd zg (zd (wM hgT hmT hT (show RelV (.ty T) (.type T) from rfl) hnx hdx) zp he2) he) (he:=he) (hpl:=hpl),?_⟩
 refine h F σ H _ m fun x vx H1 q1 t1 k1 r1=>?_
 obtain⟨b,hd,e,q⟩:=q1
 exact⟨vx,T,x,b,rfl,(r1.dv hd).same xh,e,k _ _ H1 q t1 k1 (.bl b)⟩
def mZ :PyData→Option (List PyData)
 |.list ds=>some ds
 |.tuple ds=>some ds
 |_=>none
theorem tP {Q:List PyData→Prop}(hg:Gl X "list")(hm:X.mg "list"=none)(h:EvD X α e fun x=>∃ds,mZ x=some ds∧Q ds)(he:starEach [e] X.env=(false,eval e X.env)::starEach [] X.env:=by rfl):
  EvL X α (.Call (.Name "list" p) [e] [] pos) Q:=fun F σ H R m k=>by
 refine⟨_,vp qE hg hm boot_list (zd zg zp he) (he:=he),?_⟩
 refine h F σ H _ m fun x vx H1 q1 t1 k1 r1=>?_
 obtain⟨ds,e1,q⟩:=q1
 have m1:=m.kz k1 t1
 have fin:∀{xs:List V},AVs (Gz F α σ H1) xs ds→∀l,H1 l=none→R (.ref l) (upd H1 l (.lst xs)):=fun {xs} h2 l hl=>by
  obtain⟨g1,g2,g3⟩:=m1.lay hl h2
  exact k _ _ _ q g1 (k1.trans g2) (g3.back m k1 t1)
 cases r1 with
 |lst h1 h2=>cases e1;exact⟨_,_,rfl,.inl (SqL.of (zf h1).2),fin h2⟩
 |tup h1 h2=>cases e1;exact⟨_,_,rfl,.inr (SqT.of (zf h1).2),fin h2⟩
 |_=>cases e1
theorem AVs.bools {H:Hp}:∀{xs:List V} {bs:List Bool},AVs H xs (bs.map .bool)→xs=bs.map V.bl
 |_,[],.nil=>rfl
 |_,b::bs,.cons h r=>by rw[h.bl_inv,AVs.bools r];rfl
theorem df (hc:X.calm=true)(hg:Gl X "any")(hm:X.mg "any"=none)(h:EvD X α e fun x=>∃bs:List Bool,x=.list (bs.map .bool)∧Q (.bool (bs.any id)))(he:starEach [e] X.env=(false,eval e X.env)::starEach [] X.env:=by rfl):
  EvD X α (.Call (.Name "any" p) [e] [] pos) Q:=by
 refine uz (ia hc) hg hm boot_any (za (h.imp fun x ⟨bs,e1,q⟩=>ze ?_) he) (he:=he)
 intro F σ H vs R m rv k
 subst e1
 obtain⟨v,rfl,av⟩:=rv.one
 obtain⟨a,xs,rfl,h1,h2⟩:=av.lst_inv
 exact⟨a,bs,rfl,by rw[(zf h1).2,h2.bools],k _ _ H q m.tp Kz.refl (.bl _)⟩
section
variable {k:Nat}{f:Addr}{fd:FuncData}{ps:List Str}{φ:List A→(A→Prop)→Prop}{x:Str}
theorem wI {F:Fr}{σ:St}{H:Hp}{vs:List V}{as:List A}{QA:A→Prop}{R:VK}(m:M F α σ H)(rv:zX F (Gz F α σ H) vs as)(hφ:φ as QA)
  (kk:∀a v H',QA a→xO ⟨H,Ow F α σ,F.tp⟩ v H' a→R v H') {E:XK}:spA φ (vs++[]) H R E:=by
 refine⟨⟨H,Ow F α σ,F.tp⟩,as,QA,rfl,?_,?_,?_,hφ,kk⟩
 ·exact m.tp.to rfl fun _ z=>.inl z
 ·exact fun y z=>m.owEx z
 ·rw[zw2]
  exact zX.to (F:=F) (F':=⟨H,Ow F α σ,F.tp⟩) (fun _ _ e=>e) rfl rv
theorem xO.back {F:Fr}{σ:St}{H H':Hp}{v:V}{a:A}(m:M F α σ H)(h:xO ⟨H,Ow F α σ,F.tp⟩ v H' a):zH F H'∧Kz F H H'∧AV (Gz F α σ H') v a.d:=by
 obtain⟨t,kz,r⟩:=h
 refine⟨m.tp.re t rfl,kz,?_⟩
 cases a with
 |dat d=>exact r
 |ow c=>
  obtain⟨l,xs,ds,rfl,rfl,h1,h2,h3,h4⟩:=r
  exact .lst (zJ h2 h3) (h4.same (zo fun a o h e=>⟨h.1,e⟩))
 |deep d S=>
  obtain⟨h1,h2⟩:=r
  refine h1.same fun x o e=>?_
  rcases sE e with ⟨z1,z2⟩|⟨_,z2⟩
  ·exact zJ (h2 x z1).1 z2
  ·exact z2
 |tape=>exact r.elim
 |«at» _=>exact r.elim
 |exc _ _=>exact r.elim
 |pin _ _ _=>exact r.elim
theorem cu (G:zA X.prog X.w X.K X.mg X.base CX0 k f fd ps (spA φ))(hr:zR k X.A)(hg:Gl X x)(hm:X.mg x=some (.ref f))(hk:PySem.W.keepIn X.K (.ref f)=true)(hb:Binds X.K fd ps [])
  (h:EvA X α (e::es) fun as=>φ as fun a=>Q a.d) (hdb:(x == ("__debug__":Str))=false:=by decide) (he:starEach (e::es) X.env=(false,eval e X.env)::starEach es X.env:=by rfl) (hpl:(backTo pos (starEach es X.env)).any (·.1)=false:=by rfl):
  EvD X α (.Call (.Name x p) (e::es) [] pos) Q:=fun F σ H R m kk=>by
 refine⟨_,zQ G hr hg hm hk hb .nil zW yZ hdb he hpl,?_⟩
 refine h F σ H _ m fun as vs H1 q1 t1 k1 r1=>?_
 have m1:=m.kz k1 t1
 refine wI m1 r1 q1 fun a v H' qa ra=>?_
 obtain⟨g1,g2,g3⟩:=ra.back m1
 exact kk _ v H' qa g1 (k1.trans g2) g3
theorem bH {Q:List PyData→Prop}(G:zA X.prog X.w X.K X.mg X.base CX0 k f fd ps (spA φ))(hr:zR k X.A)(hg:Gl X x)(hm:X.mg x=some (.ref f))(hk:PySem.W.keepIn X.K (.ref f)=true)(hb:Binds X.K fd ps [])
  (h:EvA X α (e::es) fun as=>φ as fun a=>∃ds,a=.own ds∧Q ds) (hdb:(x == ("__debug__":Str))=false:=by decide) (he:starEach (e::es) X.env=(false,eval e X.env)::starEach es X.env:=by rfl) (hpl:(backTo pos (starEach es X.env)).any (·.1)=false:=by rfl):
  EvL X α (.Call (.Name x p) (e::es) [] pos) Q:=fun F σ H R m kk=>by
 refine⟨_,zQ G hr hg hm hk hb .nil zW yZ hdb he hpl,?_⟩
 refine h F σ H _ m fun as vs H1 q1 t1 k1 r1=>?_
 have m1:=m.kz k1 t1
 refine wI m1 r1 q1 fun a v H' qa ra=>?_
 obtain⟨ds,rfl,q⟩:=qa
 obtain⟨g1,g2,_⟩:=ra.back m1
 obtain⟨_,_,l,xs,ds',rfl,hc,h1,h2,h3,h4⟩:=ra
 cases hc
 exact kk ds _ H' q g1 (k1.trans g2) (yR.back m k1 t1 ⟨l,xs,rfl,h1,h3,h4⟩)
end
theorem mB {i j:Nat}{x:Option A}(h:i≠j):(α.set i x)[j]?=α[j]?:=zt4 h
theorem zG {i:Nat}{x:Option A}{j:Nat}{y:Option A}(h:(α.set i x)[j]?=some y):(i=j∧x=y)∨(i≠j∧α[j]?=some y):=by
 by_cases hij:i=j
 ·subst hij
  left
  have hl:i<α.length:=by
   have:=(zp5.mp h).1
   rwa [zr2] at this
  rw[zt9 hl] at h
  exact⟨rfl,zs7 h⟩
 ·right
  rw[zt4 hij] at h
  exact⟨hij,h⟩
theorem M.put {F:Fr}{σ:St}{H:Hp}{i:Nat}{b:Option A}(m:M F α σ H)(hf:∀s c x,σ[i]?=some s→b=some c→foot s c x→∃a,α[i]?=some (some a)∧foot s a x)
  (hok:∀s c,i<α.length→σ[i]?=some s→b=some c→xP (Gz F (α.set i b) σ H) F H s c) (hx:∀c,b=some c→noX c:=by intro c z;cases z;trivial):zw (Gz F α σ H) (Gz F (α.set i b) σ H)∧M F (α.set i b) σ H:=by
 have gs:zw (Gz F α σ H) (Gz F (α.set i b) σ H):=zo fun a o h e=>⟨fun z=>h (by
  rcases z with z|⟨j,c,s,e1,e2,f⟩
  ·exact .inl z
  ·rcases zG e1 with ⟨rfl,z⟩|⟨hj,e1'⟩
   ·obtain⟨a',h1,h2⟩:=hf s c a e2 z f
    exact .inr ⟨i,a',s,h1,e2,h2⟩
   ·exact .inr ⟨j,c,s,e1',e2,f⟩),e⟩
 have old:∀{j:Nat} {c:A} {s:Option V} {x:Addr},(α.set i b)[j]?=some (some c)→σ[j]?=some s→foot s c x→∃a,α[j]?=some (some a)∧foot s a x:=fun {j c s x} e1 e2 f=>by
  rcases zG e1 with ⟨rfl,z⟩|⟨hj,e1'⟩
  ·exact hf s c x e2 z f
  ·exact⟨c,e1',f⟩
 refine⟨gs,by rw[zr2];exact m.len,fun j c s e1 e2=>?_,fun j k c d s t x e1 e2 h1 h2 f1 f2=>?_,fun j r q e j' c s x e1 e2 f=>?_,m.tp,m.keep,m.oex⟩
 ·rcases zG e1 with ⟨rfl,z⟩|⟨hj,e1'⟩
  ·refine hok s c ?_ e2 z
   have:=(zp5.mp e1).1
   rwa [zr2] at this
  ·exact (m.ok j c s e1' e2).stay gs (fun x o f e=>⟨e,(m.ft e1' e2 f).1,(m.ft e1' e2 f).2.1⟩) rfl fun _ _ _ l=>l
 ·obtain⟨a',g1,g2⟩:=old e1 h1 f1
  obtain⟨b',g3,g4⟩:=old e2 h2 f2
  exact m.dj j k a' b' s t x g1 g3 h1 h2 g2 g4
 ·obtain⟨a',g1,g2⟩:=old e1 e2 f
  rcases zG e with ⟨rfl,z⟩|⟨_,e'⟩
  ·exact (hx _ z).elim
  ·exact m.xd j r q e' j' a' s x g1 e2 g2
theorem M.gave {F:Fr}{σ:St}{H:Hp}{i:Nat}{a:A}{s:Option V}{b:Option A}{x:Addr}(m:M F α σ H)(e1:α[i]?=some (some a))(e2:σ[i]?=some s)(f:foot s a x)(hb:∀c,b=some c→¬foot s c x):¬Ow F (α.set i b) σ x:=by
 rintro (z|⟨j,c,t,h1,h2,g⟩)
 ·exact (m.ft e1 e2 f).1 z
 ·rcases zG h1 with ⟨rfl,z⟩|⟨hj,h1'⟩
  ·rw[e2] at h2;cases h2;exact hb c z g
  ·exact hj (m.dj i j a c s t x e1 h1' e2 h2 f g)
theorem za0 {F:Fr}{σ:St}{H:Hp}{i:Nat}{b:A}(hb:∀s x,¬foot s b x):zw (Gz F α σ H) (Gz F (α.set i (some b)) σ H):=zo fun a o h e=>⟨fun z=>h (by
 rcases z with z|⟨j,c,s,e1,e2,f⟩
 ·exact .inl z
 ·rcases zG e1 with ⟨rfl,z⟩|⟨hj,e1'⟩
  ·cases z;exact (hb _ _ f).elim
  ·exact .inr ⟨j,c,s,e1',e2,f⟩),e⟩
theorem M.frz {F:Fr}{σ:St}{H:Hp}{i:Nat}{ds:List PyData}(m:M F α σ H)(hi:α[i]?=some (some (.own ds))):M F (α.set i (some (.dat (.list ds)))) σ H:=
 (m.put (b:=some (.dat (.list ds))) (fun s c' x _ z f=>by cases z;exact f.elim) fun s c' _ e2 z=>by
  cases z
  obtain⟨l,o,h1,h2,h3,h4,h5⟩:=m.owc i _ hi
  rw[h1] at e2;cases e2
  exact⟨.ref l,rfl,(h3.same (za0 (b:=.dat (.list ds)) fun _ _ f=>f)).av (zJ (m.gave hi h1 rfl fun c z=>by cases z;exact id) h2)⟩).2
theorem M.frzd {F:Fr}{σ:St}{H:Hp}{i:Nat}{d:PyData}{S:Addr→Prop}(m:M F α σ H)(hi:α[i]?=some (some (.deep d S))):M F (α.set i (some (.dat d))) σ H:=
 (m.put (b:=some (.dat d)) (fun s c' x _ z f=>by cases z;exact f.elim) fun s c' _ e2 z=>by
  cases z
  obtain⟨v,h1,h2,h3⟩:=m.deep i d S hi
  rw[h1] at e2;cases e2
  refine⟨v,rfl,h2.same fun x o e=>?_⟩
  rcases sE e with ⟨z1,z2⟩|⟨_,z2⟩
  ·exact zJ (m.gave hi h1 z1 fun c z=>by cases z;exact id) z2
  ·obtain⟨w1,w2⟩:=zf z2
   refine zJ (fun q=>w1 ?_) w2
   rcases q with z|⟨j,c,s,e1,e2,f⟩
   ·exact .inl z
   ·rcases zG e1 with ⟨rfl,z⟩|⟨hj,e1'⟩
    ·cases z;exact f.elim
    ·exact .inr ⟨j,c,s,e1',e2,f⟩).2
theorem lj {F:Fr}{σ:St}{H H':Hp}{i:Nat}{a:A}{b:Option A}(m:M F α σ H)(k:Kz F H H')(hi:α[i]?=some (some a))(x:Addr)(o:HO)(ho:¬Ob o)(h:Gz F (α.set i b) σ H' x=some o):Gz F α σ H' x=some o:=by
 obtain⟨h1,h2⟩:=zf h
 refine zJ ?_ h2
 rintro (z|⟨j,c,s,e1,e2,f⟩)
 ·exact h1 (.inl z)
 ·by_cases hj:i=j
  ·subst hj
   obtain⟨g1,g2,o',g3,g4⟩:=m.ft e1 e2 f
   rw[k _ _ g3 (m.tp.nt g1)] at h2;cases h2;exact ho g4
  ·exact h1 (.inr ⟨j,c,s,by rw[mB hj];exact e1,e2,f⟩)
theorem lh {Q:List PyData→Prop}{i:Nat}{a:A}{b:Option A}(hi:α[i]?=some (some a))(hm:∀F σ H,M F α σ H→M F (α.set i b) σ H)(h:EvL X (α.set i b) e fun d=>vM d=true∧Q d):EvL X α e Q:=fun F σ H R m k=>
 h F σ H R (hm F σ H m) fun d v H' q t kz r=>by
  obtain⟨l,xs,h1,h2,h3,h4⟩:=r
  refine k d v H' q.2 t kz ⟨l,xs,h1,h2,h3,h4.noL (fun a ys hno z=>?_) q.1⟩
  obtain⟨z1,z2⟩:=zf z
  obtain⟨w1,w2⟩:=zf (lj m kz hi a ys hno (zJ z1.1 z2))
  exact zJ ⟨w1,z1.2⟩ w2
theorem lY (i:Nat){ds:List PyData}(hi:α[i]?=some (some (.own ds)))(h:EvD X (α.set i (some (.dat (.list ds)))) e fun d=>noL d=true∧Q d):EvD X α e Q:=fun F σ H R m k=>
 h F σ H R (m.frz hi) fun d v H' q t kz r=>k d v H' q.2 t kz (r.noL (lj m kz hi) q.1)
theorem wN {Q:Bool→Prop}(i:Nat){ds:List PyData}(hi:α[i]?=some (some (.own ds)))(h:EvT X (α.set i (some (.dat (.list ds)))) e Q):EvT X α e Q:=fun F σ H R m k=>h F σ H R (m.frz hi) k
theorem ky {Q:List PyData→Prop}(i:Nat){ds:List PyData}(hi:α[i]?=some (some (.own ds)))(h:EvL X (α.set i (some (.dat (.list ds)))) e fun d=>vM d=true∧Q d):EvL X α e Q:=lh hi (fun _ _ _ m=>m.frz hi) h
def ItW (p:Addr→Prop)(J:It)(ds:List PyData)(G:Hp):Prop:=∀(i:Nat) (H2:Hp) (q:Addr→Prop),zw G (sub q H2)→
 (∀d,ds[i]?=some d→J.go i H2∧∀x H3,J.yld i H2 x H3→zw H2 H3∧((∀a o,H3 a=some o→H2 a=none→q a)→AV (sub q H3) x d))∧(ds.length≤i→J.stop i H2)
def dX (X:Cx)(tg e:Expr):TI:=fun σ H R=>∃t,PI X tg e t∧t σ H R
theorem uh {tg e:Expr}:PI X tg e (dX X tg e):=fun pins s σ H R I ⟨t,p,q⟩=>p pins s σ H R I q
def EvI (X:Cx)(α:Ev)(tg e:Expr)(Q:List PyData→Prop):Prop:=∀(F:Fr) (σ:St) (H:Hp) (R:It→Hp→Prop),M F α σ H→
 (∀ds J H',Q ds→zH F H'→Kz F H H'→ItW (fun x=>¬Ow F α σ x) J ds (Gz F α σ H')→R J H')→dX X tg e σ H R
theorem zT {tg:Expr}{Q:List PyData→Prop}(h:EvD X α e fun x=>∃ds,x=.list ds∧Q ds):EvI X α tg e Q:=fun F σ H R m k=>by
 refine⟨_,ki zg,?_⟩
 refine h F σ H _ m fun x vx H1 q1 t1 k1 r1=>?_
 obtain⟨ds,rfl,q⟩:=q1
 obtain⟨a,xs,rfl,h1,h2⟩:=r1.lst_inv
 refine⟨a,rfl,⟨xs,SqL.of (zf h1).2⟩,k ds _ H1 q t1 k1 fun i H2 p s=>⟨fun d hd=>?_,fun hl=>?_⟩⟩
 ·obtain⟨x,hx,av⟩:=h2.get hd
  have ha:=SqL.of (K:=X.K) (zf (s _ _ h1)).2
  refine⟨⟨xs,x,ha,hx⟩,fun x' H3 y=>?_⟩
  obtain⟨e,y⟩:=y
  subst e
  have:=y xs ha
  rw[hx] at this;cases this
  exact⟨zw.refl _,fun _=>av.same s⟩
 ·exact⟨xs,SqL.of (zf (s _ _ h1)).2,by rw[h2.length];exact hl⟩
theorem qt {p:Addr→Prop}{lo:Int}{n:Nat}{G:Hp}:ItW p (Itr lo n) ((zY lo n).map .int) G:=fun i H2 q s=>⟨fun d hd=>by
  rw[zq7,zq3] at hd
  obtain⟨z,h1,rfl⟩:=hd
  have hi:i<n:=by
   have:=(zp5.mp h1).1
   rwa [zj] at this
  rw[vY hi] at h1
  cases h1
  refine⟨hi,fun x H3 y=>?_⟩
  obtain⟨rfl,rfl⟩:=y
  exact⟨zw.refl _,fun _=>.int _⟩,fun hl=>by
  rw[zp2,zj] at hl
  exact hl⟩
theorem qm {tg:Expr}{Q:List PyData→Prop}(hg:Gl X "range")(hm:X.mg "range"=none)(h:EvD X α a fun x=>∃j,x=.int j∧-(2 ^ 62)≤j∧j<2 ^ 62∧Q ((zY 0 j.toNat).map .int))(hs:starEach [a] X.env=[(false,eval a X.env)]:=by rfl):
  EvI X α tg (.Call (.Name "range" p) [a] [] pos) Q:=fun F σ H R m k=>by
 refine⟨_,ic hg hm (zd zg zp hs) hs,?_⟩
 refine h F σ H _ m fun x vx H1 q1 t1 k1 r1=>?_
 obtain⟨j,rfl,b1,b2,q⟩:=q1
 cases r1.int_inv
 exact⟨j,rfl,b1,b2,k _ _ H1 q t1 k1 qt⟩
theorem yQ {tg:Expr}{Q:List PyData→Prop}(hg:Gl X "range")(hm:X.mg "range"=none)(h:EvD X α a fun x=>EvD X α b fun y=>∃i j,x=.int i∧y=.int j∧(-(2 ^ 62)≤i∧i<2 ^ 62∧-(2 ^ 62)≤j∧j<2 ^ 62)∧Q ((zY i (j-i).toNat).map .int))
  (hs:starEach [a,b] X.env=[(false,eval a X.env),(false,eval b X.env)]:=by rfl) (hs2:starEach [b] X.env=[(false,eval b X.env)]:=by rfl) (hs3:starEach [a,b] X.env=(false,eval a X.env)::starEach [b] X.env:=by rfl):
  EvI X α tg (.Call (.Name "range" p) [a,b] [] pos) Q:=fun F σ H R m k=>by
 refine⟨_,jz hg hm (zd zg (zd zg zp hs2) hs3) hs hs2,?_⟩
 refine h F σ H _ m fun x vx H1 q1 t1 k1 r1=>?_
 have m1:=m.kz k1 t1
 refine q1 F σ H1 _ m1 fun y vy H2 q2 t2 k2 r2=>?_
 obtain⟨i,j,rfl,rfl,bb,q⟩:=q2
 cases r1.int_inv;cases r2.int_inv
 exact⟨i,j,rfl,bb,k _ _ H2 q t2 (k1.trans k2) qt⟩
end
inductive Pat where
 |one (i:Nat)
 |many (is:List Nat)
def vj :List Nat→List PyData→Ev→Option Ev
 |[],[],α=>some α
 |i::is,d::ds,α=>vj is ds (α.set i (some (.dat d)))
 |_,_,_=>none
def Pat.bind :Pat→PyData→Ev→Option Ev
 |.one i,d,α=>some (α.set i (some (.dat d)))
 |.many is,.tuple ds,α=>vj is ds α
 |_,_,_=>none
def gIs :List Nat→TGs
 |[]=>zk1
 |i::is=>aD (rS i) (gIs is)
def sf (K:PySem.W.Frag):Pat→TG
 |.one i=>rS i
 |.many is=>aX K is.length (gIs is)
def Pat.slots :Pat→List Nat
 |.one i=>[i]
 |.many is=>is
def isFree (α:Ev)(i:Nat):Bool:=match α[i]? with
 |some none=>true
 |_=>false
def Pat.free (p:Pat)(α:Ev):Bool:=p.slots.all (isFree α)
section
variable {X:Cx}{α α':Ev}{F:Fr}{σ:St}{H:Hp}
theorem M.store {i:Nat}{v:V}{b:A}{H':Hp}(m:M F α σ H)(t:zH F H')(k:Kz F H H')(hn:∀x,foot (some v) b x→H x=none)(hok:xP (sub (fun x=>¬Ow F α σ x∧¬foot (some v) b x) H') F H' (some v) b)(hx:noX b:=by trivial):M F (α.set i (some b)) (σ.set i (some v)) H':=by
 have m':=m.kz k t
 have hs:∀{j:Nat} {c:A} {s:Option V},(α.set i (some b))[j]?=some (some c)→(σ.set i (some v))[j]?=some s→(i=j∧c=b∧s=some v)∨(i≠j∧α[j]?=some (some c)∧σ[j]?=some s):=fun {j c s} e1 e2=>by
  rcases zG e1 with ⟨rfl,z⟩|⟨hj,e1'⟩
  ·cases z
   have hl:i<σ.length:=by
    have:=(zp5.mp e2).1
    rwa [zr2] at this
   rw[zt9 hl] at e2
   cases e2
   exact .inl ⟨rfl,rfl,rfl⟩
  ·rw[zt4 hj] at e2
   exact .inr ⟨hj,e1',e2⟩
 have ow:∀{y:Addr},Ow F (α.set i (some b)) (σ.set i (some v)) y→Ow F α σ y∨foot (some v) b y:=fun {y} h=>by
  rcases h with z|⟨j,c,s,e1,e2,f⟩
  ·exact .inl (.inl z)
  ·rcases hs e1 e2 with ⟨_,rfl,rfl⟩|⟨_,g1,g2⟩
   ·exact .inr f
   ·exact .inl (.inr ⟨j,c,s,g1,g2,f⟩)
 have g1:zw (sub (fun x=>¬Ow F α σ x∧¬foot (some v) b x) H') (Gz F (α.set i (some b)) (σ.set i (some v)) H'):=zo fun a o h e=>⟨fun z=>(ow z).elim h.1 h.2,e⟩
 have g0:zw (Gz F α σ H) (sub (fun x=>¬Ow F α σ x∧¬foot (some v) b x) H'):=zo fun a o h e=>⟨⟨h,fun z=>by rw[hn a z] at e;cases e⟩,k a o e (m.tp.nt (ow0 h))⟩
 refine⟨by rw[zr2,zr2];exact m.len,fun j c s e1 e2=>?_,fun j j' c d s s' x e1 e2 h1 h2 f1 f2=>?_,fun j r q e j' c s x e1 e2 f=>?_,t,m.keep.trans k,m'.oex⟩
 ·rcases hs e1 e2 with ⟨rfl,rfl,rfl⟩|⟨_,z1,z2⟩
  ·exact hok.stay g1 (fun x o f e=>by
    obtain⟨w1,w2,_⟩:=tJ hok f
    exact⟨e,w1,w2⟩) rfl fun _ _ _ l=>l
  ·exact (m.ok j c s z1 z2).stay (g0.trans g1) (fun x o f e=>by
    obtain⟨w1,w2,_⟩:=m.ft z1 z2 f
    exact⟨k x o e (m.tp.nt w1),w1,w2⟩) rfl fun _ _ _ l=>l.kz k t
 ·have nn:∀{j:Nat} {c:A} {s:Option V},α[j]?=some (some c)→σ[j]?=some s→foot s c x→¬foot (some v) b x:=fun {j c s} z1 z2 f g=>by
   obtain⟨_,_,o,w,_⟩:=m.ft z1 z2 f
   rw[hn x g] at w;cases w
  rcases hs e1 h1 with ⟨rfl,rfl,rfl⟩|⟨_,z1,z2⟩
  ·rcases hs e2 h2 with ⟨rfl,_⟩|⟨_,w1,w2⟩
   ·rfl
   ·exact absurd f1 (nn w1 w2 f2)
  ·rcases hs e2 h2 with ⟨rfl,rfl,rfl⟩|⟨_,w1,w2⟩
   ·exact absurd f2 (nn z1 z2 f1)
   ·exact m.dj j j' c d s s' x z1 w1 z2 w2 f1 f2
 ·rcases zG e with ⟨rfl,z⟩|⟨_,e'⟩
  ·cases z;exact hx.elim
  ·rcases hs e1 e2 with ⟨rfl,rfl,rfl⟩|⟨_,z1,z2⟩
   ·exact (m.lnk e').none (hn x f)
   ·exact m.xd j r q e' j' c s x z1 z2 f
theorem M.set {i:Nat}{v:V}{d:PyData}(m:M F α σ H)(av:AV (Gz F α σ H) v d):M F (α.set i (some (.dat d))) (σ.set i (some v)) H:=
 m.store m.tp Kz.refl (fun x z=>z.elim) ⟨v,rfl,av.same (zo fun a o h e=>⟨⟨h,fun z=>z⟩,e⟩)⟩
theorem M.setC {i:Nat}{v:V}{c:PyData}{H':Hp}(m:M F α σ H)(t:zH F H')(k:Kz F H H')(fl:fv F α σ H v H' c):M F (α.set i (some (.ow c))) (σ.set i (some v)) H':=by
 obtain⟨l,o,rfl,h1,h2,h3⟩:=fl
 have nl:¬Ow F α σ l:=m.fresh h1
 refine m.store t k (fun x z=>?_) ⟨l,o,rfl,h2,h3.same (zo fun a o h e=>⟨⟨h.1,fun z=>h.2 (by cases z;rfl)⟩,e⟩),ow0 nl,m.fresh0 h1⟩
 have z':some (V.ref l)=some (.ref x):=z
 cases z';exact h1
theorem M.setOwn {i:Nat}{v:V}{ds:List PyData}{H':Hp}(m:M F α σ H)(t:zH F H')(k:Kz F H H')(fl:yR F α σ H v H' ds):M F (α.set i (some (.own ds))) (σ.set i (some v)) H':=m.setC t k fl.c
theorem M.wr {x:Addr}{o:HO}(m:M F α σ H)(hno:wQ o)(ho:F.O0 x)(ht:∀t b c,F.tp=some (t,b,c)→x≠t∧x≠b∧x≠c)(h0:F.H0 x=none)(hpl:Plain H x)(hx:∀(i:Nat) r q,α[i]?=some (some (.exc r q))→r.H0 x=none):M F α σ (upd H x o):=by
 have gs:zw (Gz F α σ H) (Gz F α σ (upd H x o)):=zo fun a u h e=>⟨h,by rw[zl (fun z=>h (.inl (by rw[z];exact ho)))];exact e⟩
 refine⟨m.len,fun j c s e1 e2=>?_,m.dj,m.xd,m.tp.upd ht hpl,fun y u e n=>?_,fun y hy=>?_⟩
 ·have:=m.ok j c s e1 e2
  cases c with
  |exc r q=>
   have l:Lnk r F H:=this
   exact⟨l.tp,l.o,l.ok.upd (fun a b c e=>ht a b c (l.tp▸e)) hpl,fun y u e n=>by rw[zl (zm e (hx j r q e1))];exact l.k y u e n⟩
  |_=>exact this.stay gs (fun y u f e=>by
    obtain⟨w1,w2,_⟩:=m.ft e1 e2 f
    exact⟨by rw[zl (fun z=>w1 (by rw[z];exact ho))];exact e,w1,w2⟩) rfl fun _ _ z=>by cases z
 ·rw[zl (zm e h0)];exact m.keep y u e n
 ·by_cases z:y=x
  ·exact⟨o,by rw[z];exact zh,hno⟩
  ·obtain⟨u,hu,hn⟩:=m.oex y hy
   exact⟨u,by rw[zl z];exact hu,hn⟩
theorem M.forget {α0:Ev}(m:M F α σ H)(hl:α0.length=α.length)(le:∀(i:Nat) a,α0[i]?=some (some a)→α[i]?=some (some a)):M F α0 σ H:=by
 have ow:∀{y:Addr},Ow F α0 σ y→Ow F α σ y:=fun {y} h=>by
  rcases h with z|⟨j,c,s,e1,e2,f⟩
  ·exact .inl z
  ·exact .inr ⟨j,c,s,le _ _ e1,e2,f⟩
 have gs:zw (Gz F α σ H) (Gz F α0 σ H):=zo fun a o h e=>⟨fun z=>h (ow z),e⟩
 exact⟨hl.trans m.len,fun j c s e1 e2=>(m.ok j c s (le _ _ e1) e2).stay gs (fun x o f e=>⟨e,(m.ft (le _ _ e1) e2 f).1,(m.ft (le _ _ e1) e2 f).2.1⟩) rfl fun _ _ _ l=>l,fun j j' c d s s' x e1 e2=>m.dj j j' c d s s' x (le _ _ e1) (le _ _ e2),fun j r q e j' c s x e1=>m.xd j r q (le _ _ e) j' c s x (le _ _ e1),m.tp,m.keep,m.oex⟩
theorem qo {H:Hp}:∀{is:List Nat} {ds:List PyData} {α α':Ev} {σ:St} {xs:List V} {R:St→Hp→Prop},vj is ds α=some α'→M F α σ H→(∀G,zw (Gz F α σ H) G→AVs G xs ds)→(∀σ',M F α' σ' H→R σ' H)→gIs is xs σ H R
 |[],[],α,α',σ,xs,R,e,m,av,k=>by
  cases e
  cases av _ (zw.refl _)
  exact⟨rfl,k σ m⟩
 |i::is,d::ds,α,α',σ,xs,R,e,m,av,k=>by
  cases h:av _ (zw.refl _) with
  |@cons x xs _ _ h1 h2=>
   refine⟨x,xs,rfl,?_⟩
   have gs:zw (Gz F α σ H) (Gz F (α.set i (some (.dat d))) (σ.set i (some x)) H):=zo fun a o h e=>⟨fun z=>h (by
    rcases z with z|⟨j,c,s,e1,e2,f⟩
    ·exact .inl z
    ·rcases zG e1 with ⟨_,z⟩|⟨hj,e1'⟩
     ·cases z;exact f.elim
     ·rw[zt4 hj] at e2
      exact .inr ⟨j,c,s,e1',e2,f⟩),e⟩
   exact qo (is:=is) (ds:=ds) e (m.set (i:=i) h1) (fun G s=>h2.same (gs.trans s)) k
 |[],_::_,_,_,_,_,_,e,_,_,_=>by cases e
 |_::_,[],_,_,_,_,_,e,_,_,_=>by cases e
theorem tK {K:PySem.W.Frag}{pat:Pat}{d:PyData}{v:V}{R:St→Hp→Prop}(e:pat.bind d α=some α')(m:M F α σ H)(av:AV (Gz F α σ H) v d)(k:∀σ',M F α' σ' H→R σ' H):sf K pat v σ H R:=by
 cases pat with
 |one i=>cases e;exact k _ (m.set av)
 |many is=>
  cases d with
  |tuple ds=>
   obtain⟨a,xs,rfl,h1,h2⟩:=av.tup_inv
   have hl:∀{is:List Nat} {ds:List PyData} {α α':Ev},vj is ds α=some α'→ds.length=is.length:=by
    intro is
    induction is with
    |nil=>intro ds α α' h;cases ds with|nil=>rfl|cons _ _=>cases h
    |cons i is ih=>intro ds α α' h;cases ds with|nil=>cases h|cons d ds=>rw[zr1,zr1,ih h]
   exact⟨a,xs,rfl,SqT.of (zf h1).2,by rw[h2.length];exact hl e,qo e m (fun G s=>h2.same s) k⟩
  |_=>cases e
theorem tQ :∀{is:List Nat} {ds:List PyData} {α α':Ev},vj is ds α=some α'→α'.length=α.length
 |[],[],_,_,e=>by cases e;rfl
 |i::is,d::ds,α,α',e=>by
  have:=tQ (is:=is) (ds:=ds) e
  rwa [zr2] at this
 |[],_::_,_,_,e=>by cases e
 |_::_,[],_,_,e=>by cases e
theorem sI :∀{is:List Nat} {ds:List PyData} {α α':Ev} {j:Nat},vj is ds α=some α'→j∉is→α'[j]?=α[j]?
 |[],[],_,_,_,e,_=>by cases e;rfl
 |i::is,d::ds,α,α',j,e,h=>by
  rw[sI (is:=is) (ds:=ds) e fun z=>h (zq0 _ z)]
  exact zt4 fun (z:i=j)=>h (by rw[←z];exact zq1)
 |[],_::_,_,_,_,e,_=>by cases e
 |_::_,[],_,_,_,e,_=>by cases e
theorem sU :∀{is:List Nat} {ds:List PyData} {α α':Ev} {j:Nat} {a:A},vj is ds α=some α'→α'[j]?=some (some a)→(∀d,a≠.dat d)→α[j]?=some (some a)
 |[],[],_,_,_,_,e,h,_=>by cases e;exact h
 |i::is,d::ds,α,α',j,a,e,h,hn=>by
  rcases zG (sU (is:=is) (ds:=ds) e h hn) with ⟨_,z⟩|⟨_,z⟩
  ·cases z;exact absurd rfl (hn d)
  ·exact z
 |[],_::_,_,_,_,_,e,_,_=>by cases e
 |_::_,[],_,_,_,_,e,_,_=>by cases e
theorem Pat.is_ok {pat:Pat}{d:PyData}(e:pat.bind d α=some α'):∃is ds,pat.slots=is∧vj is ds α=some α':=by
 cases pat with
 |one i=>cases e;exact⟨_,[d],rfl,rfl⟩
 |many is=>
  cases d with
  |tuple ds=>exact⟨_,ds,rfl,e⟩
  |_=>cases e
theorem Pat.back {pat:Pat}{d:PyData}(e:pat.bind d α=some α')(fr:pat.free α=true)(m:M F α' σ H):M F α σ H:=by
 obtain⟨is,ds,rfl,e⟩:=Pat.is_ok e
 refine m.forget (tQ e).symm fun j a h=>?_
 by_cases hj:j∈pat.slots
 ·have:=zx7.mp fr j hj
  unfold isFree at this
  rw[h] at this
  cases this
 ·rw[sI e hj];exact h
end
section
variable {X:Cx}{α:Ev}
def ju (X:Cx)(α:Ev)(ifs:List Expr)(Q:Bool→Prop):Prop:=∀(F:Fr) (σ:St) (H:Hp) (R:Bool→Hp→Prop),M F α σ H→(∀b H',Q b→zH F H'→Kz F H H'→R b H')→∃t,vf X ifs t∧t σ H R
def ak (X:Cx)(ifs:List Expr):TT:=fun σ H R=>∃t,vf X ifs t∧t σ H R
theorem qN {ifs:List Expr}:vf X ifs (ak X ifs):=fun pins s σ H Q I ⟨t,p,q⟩=>p pins s σ H Q I q
theorem pU {Q:Bool→Prop}(q:Q true):ju X α [] Q:=fun F σ H R m k=>⟨_,cj,k _ H q m.tp Kz.refl⟩
theorem yG {c:Expr}{Q:Bool→Prop}(h:EvT X α c Q):ju X α [c] Q:=fun F σ H R m k=>⟨_,bz xV,h F σ H R m k⟩
def seen :Option A→Option A
 |some (.dat d)=>some (.dat d)
 |some .tape=>some .tape
 |_=>none
def yN (imp:List (Option Nat))(α:Ev):Ev:=imp.map fun o=>o.bind fun j=>(α[j]?).bind seen
theorem oE {imp:List (Option Nat)}{i:Nat}{a:A}(h:(yN imp α)[i]?=some (some a)):∃j,imp[i]?=some (some j)∧α[j]?=some (some a)∧((∃d,a=.dat d)∨a=.tape):=by
 unfold yN at h
 rw[zq7,zq3] at h
 obtain⟨o,h1,h2⟩:=h
 cases o with
 |none=>cases h2
 |some j=>
  have h2':(α[j]?).bind seen=some a:=h2
  cases q:α[j]? with
  |none=>rw[q] at h2';cases h2'
  |some b=>
   rw[q] at h2'
   cases b with
   |none=>cases h2'
   |some b=>
    cases b with
    |dat d=>cases h2';exact⟨j,h1,q,.inl ⟨d,rfl⟩⟩
    |tape=>cases h2';exact⟨j,h1,q,.inr rfl⟩
    |_=>cases h2'
theorem oV {imp:List (Option Nat)}{σ:St}{i j:Nat}{v:V}(h1:imp[i]?=some (some j))(h2:σ[j]?=some (some v)):(wg imp σ)[i]?=some (some v):=by
 unfold wg
 rw[zq7,h1]
 show some ((σ[j]?).bind id)=_
 rw[h2];rfl
def xm (Y:Addr→Shared→Hp→List Addr→Cx)(pat:Pat)(ifs:List Expr)(elt:Expr)(α0:Ev):List PyData→List PyData→(List PyData→Prop)→Prop
 |[],acc,Q=>Q acc
 |d::ds,acc,Q=>∃α1,pat.bind d α0=some α1∧∀C s2 H2 fp,ju (Y C s2 H2 fp) α1 ifs fun k=>if k=true then ∀C s2 H2 fp,EvD (Y C s2 H2 fp) α1 elt fun y=>xm Y pat ifs elt α0 ds (acc++[y]) Q else xm Y pat ifs elt α0 ds acc Q
def eC (Y:Addr→Shared→Hp→List Addr→Cx)(e:Expr):TE:=fun σ H Q=>∀C s2 H2 fp,tT (Y C s2 H2 fp) e σ H Q
def tsC (Y:Addr→Shared→Hp→List Addr→Cx)(ifs:List Expr):TT:=fun σ H Q=>∀C s2 H2 fp,ak (Y C s2 H2 fp) ifs σ H Q
theorem pK {N:List Str}{imp:List (Option Nat)}{scope:Scope}{tg iter elt:Expr}{ifs:List Expr}{pat:Pat}{Q:List PyData→Prop}(hfree:pat.free (yN imp α)=true)
  (h:EvI X α tg iter fun ds=>ds.length≤1000∧xm (fun C s2 H2 fp=>X.comp N scope C s2 H2 fp) pat ifs elt (yN imp α) ds [] Q)
  (F:Fr) (σ:St) (H:Hp) (R:VK) (m:M F α σ H) (k:∀ds v H',Q ds→zH F H'→Kz F H H'→yR F α σ H v H' ds→R v H'):
  ∃Y:Addr→Shared→Hp→List Addr→Cx,Y=(fun C s2 H2 fp=>X.comp N scope C s2 H2 fp)∧iz (dX X tg iter) imp (sf X.K pat) (tsC Y ifs) (eC Y elt) σ H R:=by
 refine⟨_,rfl,?_⟩
 refine h F σ H _ m fun ds J H1 ⟨hl,q1⟩ t1 k1 itw acc hacc=>?_
 have m1:=m.kz k1 t1
 have nacc:¬Ow F α σ acc:=m1.fresh hacc
 let Fc:Fr:=⟨H1,fun x=>Ow F α σ x∨x=acc,F.tp⟩
 let Nd:Ev→Prop:=fun α1=>∀(j:Nat) a,α1[j]?=some (some a)→(∃d,a=.dat d)∨a=.tape
 have no0:Nd (yN imp α):=fun j a z=>by
  obtain⟨_,_,_,n⟩:=oE z
  exact n
 have owc:∀{α1:Ev} {τ:St} {x:Addr},Nd α1→(Ow Fc α1 τ x↔Fc.O0 x):=fun {α1 τ x} hh=>⟨fun z=>z.elim id fun⟨j,a,s,e1,e2,f⟩=>by
  rcases hh j a e1 with ⟨d,rfl⟩|rfl
  ·exact f.elim
  ·exact f.elim,.inl⟩
 have gz:∀{α1 α2:Ev} {τ1 τ2:St} {H:Hp},Nd α1→Nd α2→zw (Gz Fc α1 τ1 H) (Gz Fc α2 τ2 H):=fun h1 h2=>zo fun a o h e=>⟨fun z=>h ((owc h1).mpr ((owc h2).mp z)),e⟩
 have tpc:∀{H2:Hp},zH F H2→zH Fc H2:=fun t=>t.to rfl fun x z=>.inl (.inl z)
 have s01:zw H1 (upd H1 acc (.lst [])):=zM hacc
 have mc0:M Fc (yN imp α) (wg imp σ) (upd H1 acc (.lst [])):=by
  have g1:zw (Gz F α σ H1) (Gz Fc (yN imp α) (wg imp σ) (upd H1 acc (.lst []))):=fun a o e=>by
   obtain⟨z1,z2⟩:=zf e
   have na:a≠acc:=zm z2 hacc
   exact zJ (fun z=>((owc no0).mp z).elim z1 na) (by rw[zl na];exact z2)
  refine⟨by unfold yN wg;rw[zp2,zp2],fun i a s e1 e2=>?_,fun i j a b s t x e1 e2 _ _ f=>?_,fun i r q e=>(by rcases no0 i _ e with ⟨d,w⟩|w<;>cases w),tpc (t1.same s01),fun x o e _=>s01 x o e,?_⟩
  ·obtain⟨j,w1,w2,w3⟩:=oE e1
   rcases w3 with ⟨d,rfl⟩|rfl
   ·obtain⟨v,g2,g3⟩:=m1.dat j d w2
    rw[oV w1 g2] at e2;cases e2
    exact⟨v,rfl,g3.same g1⟩
   ·obtain⟨t,b,c,g2,g3⟩:=m1.tvar j w2
    rw[oV w1 g3] at e2;cases e2
    exact⟨t,b,c,g2,rfl⟩
  ·rcases no0 i a e1 with ⟨d,rfl⟩|rfl
   ·exact f.elim
   ·exact f.elim
  ·rintro x (z|z)
   ·have:∃o,H1 x=some o∧wQ o:=m1.owEx z
    obtain⟨o,ho,hn⟩:=this
    exact⟨o,s01 _ _ ho,hn⟩
   ·exact⟨_,by rw[z];exact zh,we⟩
 refine⟨fun i n ys τ H2=>n=ds.length-i∧i≤ds.length∧∃ad:List PyData,M Fc (yN imp α) τ H2∧H2 acc=some (.lst ys)∧AVs (Gz Fc (yN imp α) τ H2) ys ad∧ad.length≤i∧xm (fun C s2 H2 fp=>X.comp N scope C s2 H2 fp) pat ifs elt (yN imp α) (ds.drop i) ad Q,
  ⟨ds.length,by simp,zr9 _,[],mc0,zh,.nil,zp8 _,q1⟩,?_⟩
 rintro i n ys τ H2 ⟨rfl,hi,ad,m2,ha,av,had,cw⟩
 have sG:zw (Gz F α σ H1) (Gz Fc (yN imp α) τ H2):=fun a o e=>by
  obtain⟨z1,z2⟩:=zf e
  exact m2.old a o (zJ (p:=fun x=>¬Fc.O0 x) (fun z=>z.elim z1 (zm z2 hacc)) z2)
 obtain⟨w1,w2⟩:=itw i H2 _ sG
 by_cases hlt:i<ds.length
 ·have hd:ds[i]?=some ds[i]:=zt1 hlt
  have hdr:ds.drop i=ds[i]::ds.drop (i+1):=zv9 hlt
  rw[hdr] at cw
  obtain⟨α1,eb,body⟩:=cw
  obtain⟨go,yl⟩:=w1 _ hd
  have no1:Nd α1:=fun j a z=>by
   obtain⟨is,ds',_,e⟩:=Pat.is_ok eb
   by_cases hn:∀d,a≠.dat d
   ·exact no0 j a (sU e z hn)
   ·simp only[Classical.not_forall,Classical.not_not] at hn
    exact .inl hn
  refine .inr ⟨go,fun ys' τ' H'=>∃ad:List PyData,M Fc (yN imp α) τ' H'∧H' acc=some (.lst ys')∧AVs (Gz Fc (yN imp α) τ' H') ys' ad∧ad.length≤i+1∧xm (fun C s2 H2 fp=>X.comp N scope C s2 H2 fp) pat ifs elt (yN imp α) (ds.drop (i+1)) ad Q,
   fun ys' τ' H' ⟨ad',r1,r2,r3,r4,r5⟩=>⟨ds.length-(i+1),by omega,rfl,hlt,ad',r1,r2,r3,r4,r5⟩,fun x H3 y=>?_⟩
  obtain⟨s23,avx⟩:=yl x H3 y
  have m3:M Fc (yN imp α) τ H3:=m2.kz (Kz.of_same s23) (m2.tp.same s23)
  have avx':=avx fun a o _ e=>m2.fresh e
  refine tK eb m3 avx' fun τ1 m4 C s2 H2' fp=>?_
  refine body C s2 H2' fp Fc τ1 H3 _ m4 fun b H5 qb t5 k5=>?_
  have m5:=m4.kz k5 t5
  have av5:AVs (Gz Fc (yN imp α) τ1 H5) ys ad:=av.same ((Kz.of_same s23).gz m2.tp |>.trans ((gz (τ2:=τ1) no0 no1).trans ((k5.gz m4.tp).trans (gz no1 no0))))
  have accN:NT Fc acc:=⟨fun t b c e=>by
   have:=(t1 t b c e).1.free hacc
   exact⟨this.1,this.2.1⟩,uc t1.tab hacc⟩
  have ha5:H5 acc=some (.lst ys):=k5 _ _ (s23 _ _ ha) accN
  cases b with
  |false=>
   have qb':xm (fun C s2 H2 fp=>X.comp N scope C s2 H2 fp) pat ifs elt (yN imp α) (ds.drop (i+1)) ad Q:=by simpa using qb
   exact tD ⟨ad,Pat.back eb hfree m5,ha5,av5,by omega,qb'⟩
  |true=>
   refine uF fun C s2 H2'' fp=>?_
   have qe:EvD (X.comp N scope C s2 H2'' fp) α1 elt fun y=>xm (fun C s2 H2 fp=>X.comp N scope C s2 H2 fp) pat ifs elt (yN imp α) (ds.drop (i+1)) (ad++[y]) Q:=by
    have z:=qb
    rw[if_pos rfl] at z
    exact z C s2 H2'' fp
   refine qe Fc τ1 H5 _ m5 fun y v H6 qy t6 k6 r6=>?_
   have m6:=m5.kz k6 t6
   have ha6:H6 acc=some (.lst ys):=k6 _ _ ha5 accN
   have hlen:ys.length≤i:=by rw[av.length];exact had
   have oacc:Fc.O0 acc:=.inr rfl
   have tacc:∀t b c,Fc.tp=some (t,b,c)→acc≠t∧acc≠b∧acc≠c:=fun t b c e=>(t1 t b c e).1.free hacc
   have m7:=(Pat.back eb hfree m6).wr (o:=.lst (ys++[v])) we oacc tacc hacc (rG ha6) (fun i r q z=>by rcases no0 i _ z with ⟨d,w⟩|w<;>cases w)
   refine⟨ha6,yP (by omega),ad++[y],m7,zh,?_,by simp;omega,qy⟩
   have g67:zw (Gz Fc (yN imp α) τ1 H6) (Gz Fc (yN imp α) τ1 (upd H6 acc (.lst (ys++[v])))):=zo fun a o h e=>⟨h,by rw[zl (fun z=>h (.inl (by rw[z];exact oacc)))];exact e⟩
   exact ((av5.same ((gz (τ2:=τ1) no0 no1).trans ((k6.gz m5.tp).trans (gz no1 no0)))).append (.cons (r6.same (gz no1 no0)) .nil)).same g67
 ·have e:i=ds.length:=by omega
  subst e
  rw[zy4] at cw
  refine .inl ⟨w2 (zp8 _),k ad _ H2 cw ?_ (k1.trans m2.keep) (yR.back m k1 t1 ⟨acc,ys,rfl,hacc,ha,av.same (zo fun a o h e=>⟨⟨fun z=>h (.inl (.inl z)),fun z=>h (.inl (.inr z))⟩,e⟩)⟩)⟩
  exact m.tp.re m2.tp rfl
theorem wV {N:List Str}{imp:List (Option Nat)}{scope:Scope}{tg iter elt:Expr}{ifs:List Expr}{pat:Pat}{Q:List PyData→Prop}{pos:Pos}(hc:X.calm=true)(S:zy X.N X.env.scope N imp scope)(hfree:pat.free (yN imp α)=true)
  (hg:∀C s2 H2 fp,PG (X.comp N scope C s2 H2 fp) tg (sf X.K pat))
  (h:EvI X α tg iter fun ds=>ds.length≤1000∧xm (fun C s2 H2 fp=>X.comp N scope C s2 H2 fp) pat ifs elt (yN imp α) ds [] Q) (hs:∀x,foldedSetIterable iter X.env x=pure x:=by intro _;rfl):
  EvL X α (.ListComp elt [⟨tg,iter,ifs,0⟩] scope pos) Q:=fun F σ H R m k=>by
 obtain⟨Y,rfl,h⟩:=pK hfree h F σ H R m k
 exact⟨_,zg6 hc S uh hg (fun C s2 H2 fp pins s σ H Q I h=>qN pins s σ H Q I (h C s2 H2 fp)) (fun C s2 H2 fp pins s σ H Q I h=>zg pins s σ H Q I (h C s2 H2 fp)) hs,h⟩
section
variable {E:yE}{rest body:List Stmt}{e c tg iter:Expr}{pos p:Pos}
theorem rC.then {F:Fr}{D:Ends}(h:rC F E D):rC F {E with nx:=fun α'=>SvS X α' rest E} {D with nx:=ni X rest D}:=
 ⟨fun α' σ' H' m q=>q F σ' H' D m h,h.rt,h.bk,h.ct⟩
theorem zD (q:E.nx α):SvS X α [] E:=fun F σ H D m h=>⟨_,yD,h.nx _ _ _ m q⟩
theorem SvS.imp {sts:List Stmt}{E':yE}(h:SvS X α sts E')(hn:∀α,E'.nx α→E.nx α)(hr:∀a,E'.rt a→E.rt a)(hb:∀α,E'.bk α→E.bk α)(hc:∀α,E'.ct α→E.ct α):SvS X α sts E:=fun F σ H D m r=>
 h F σ H D m ⟨fun α σ H m q=>r.nx α σ H m (hn _ q),fun a v H m q=>r.rt a v H m (hr _ q),fun α σ H m q=>r.bk α σ H m (hb _ q),fun α σ H m q=>r.ct α σ H m (hc _ q)⟩
theorem zN (i:Nat){x:Str}{pos':Pos}(hN:X.N.Nodup)(h:EvD X α e fun d=>SvS X (α.set i (some (.dat d))) rest E)(hi:X.N[i]?=some x:=by rfl)(hx:Loc X.env.scope x:=by first|exact Or.inl rfl|exact Or.inr rfl)
  (hs:swapsWith e (some (.Name x pos')) pos.line X.env=pure false:=by rfl) (hf:X.fn x=true∨X.env.scope.names.lookup x=some .local:=by first|exact .inl rfl|exact .inr rfl|assumption):SvS X α (.Assign [.Name x pos'] e pos::rest) E:=fun F σ H D m r=>by
 refine⟨_,zE (sZ hN hi hx zg hs hf) zP,?_⟩
 exact h F σ H _ m fun d v H1 q1 t1 k1 r1=>q1 F _ H1 D ((m.kz k1 t1).set r1) r
theorem yt (i:Nat){x:Str}{pos':Pos}(hN:X.N.Nodup)(h:EvL X α e fun ds=>SvS X (α.set i (some (.own ds))) rest E)(hi:X.N[i]?=some x:=by rfl)(hx:Loc X.env.scope x:=by first|exact Or.inl rfl|exact Or.inr rfl)
  (hs:swapsWith e (some (.Name x pos')) pos.line X.env=pure false:=by rfl) (hf:X.fn x=true∨X.env.scope.names.lookup x=some .local:=by first|exact .inl rfl|exact .inr rfl|assumption):SvS X α (.Assign [.Name x pos'] e pos::rest) E:=fun F σ H D m r=>by
 refine⟨_,zE (sZ hN hi hx zg hs hf) zP,?_⟩
 exact h F σ H _ m fun d v H1 q1 t1 k1 r1=>q1 F _ H1 D (m.setOwn t1 k1 r1) r
theorem aj (i:Nat){x:Str}{pos' cpos:Pos}{N:List Str}{imp:List (Option Nat)}{scope:Scope}{elt:Expr}{ifs:List Expr}{pat:Pat}(hN:X.N.Nodup)(hc:X.calm=true)(S:zy X.N X.env.scope N imp scope)(hfree:pat.free (yN imp α)=true)
  (hg:∀C s2 H2 fp,PG (X.comp N scope C s2 H2 fp) tg (sf X.K pat))
  (h:EvI X α tg iter fun ds=>ds.length≤1000∧xm (fun C s2 H2 fp=>X.comp N scope C s2 H2 fp) pat ifs elt (yN imp α) ds [] fun ds=>SvS X (α.set i (some (.own ds))) rest E)
  (hi:X.N[i]?=some x:=by rfl) (hx:Loc X.env.scope x:=by first|exact Or.inl rfl|exact Or.inr rfl) (hsw:swapsWith (.ListComp elt [⟨tg,iter,ifs,0⟩] scope cpos) (some (.Name x pos')) pos.line X.env=pure true:=by rfl)
  (hf:X.fn x=true∨X.env.scope.names.lookup x=some .local:=by first|exact .inl rfl|exact .inr rfl|assumption) (hs:∀x,foldedSetIterable iter X.env x=pure x:=by intro _;rfl):
  SvS X α (.Assign [.Name x pos'] (.ListComp elt [⟨tg,iter,ifs,0⟩] scope cpos) pos::rest) E:=fun F σ H D m r=>by
 obtain⟨Y,rfl,h⟩:=pK hfree h F σ H (fun v H'=>ni X rest D (σ.set i (some v)) H') m fun ds v H' q t k fl=>q F _ H' D (m.setOwn t k fl) r
 exact⟨_,zE (og hc S uh hg (fun C s2 H2 fp pins s σ H Q I h=>qN pins s σ H Q I (h C s2 H2 fp)) (fun C s2 H2 fp pins s σ H Q I h=>zg pins s σ H Q I (h C s2 H2 fp)) hN hi hx hsw hf hs) zP,h⟩
theorem xO.dat {F:Fr}{σ:St}{H:Hp}{v:V}{d:PyData}(m:M F α σ H)(r:AV (Gz F α σ H) v d):xO F v H (.dat d):=
 ⟨m.tp,m.keep,r.same (zo fun a o h e=>⟨ow0 h,e⟩)⟩
theorem yq (h:EvD X α e fun d=>E.rt (.dat d)):SvS X α (.Return (some e) pos::rest) E:=fun F σ H D m r=>by
 refine⟨_,zE (zB zg) zP,?_⟩
 exact h F σ H _ m fun d v H1 q1 t1 k1 r1=>r.rt _ _ _ (xO.dat (m.kz k1 t1) r1) q1
theorem uA (h:EvL X α e fun ds=>E.rt (.own ds)):SvS X α (.Return (some e) pos::rest) E:=fun F σ H D m r=>by
 refine⟨_,zE (zB zg) zP,?_⟩
 refine h F σ H _ m fun d v H1 q1 t1 k1 r1=>r.rt _ _ _ ?_ q1
 obtain⟨l,xs,h1,h2,h3,h4⟩:=r1
 exact⟨t1,m.keep.trans k1,l,xs,_,h1,rfl,m.fresh0 h2,ow0 (m.fresh h2),h3,h4.same (zo fun a o h e=>⟨⟨ow0 h.1,h.2⟩,e⟩)⟩
theorem wG (i:Nat){x:Str}{ds:List PyData}(hi:α[i]?=some (some (.own ds)))(q:E.rt (.own ds))(hN:X.N[i]?=some x:=by rfl)(hv:Vis X.env.scope x:=by first|exact Or.inl rfl|exact Or.inr (Or.inl rfl)|exact Or.inr (Or.inr rfl))
  (hd:(x == ("__debug__":Str))=false:=by decide) (hcd:(x == ("__classdict__":Str))=false:=by decide):SvS X α (.Return (some (.Name x p)) pos::rest) E:=fun F σ H D m r=>by
 obtain⟨l,xs,h1,h2,h3,h4,h5⟩:=m.own i ds hi
 refine⟨_,zE (zB (wC hN hv hd hcd)) zP,.ref l,h1,r.rt (.own ds) _ _ ⟨m.tp,m.keep,l,xs,_,rfl,rfl,h5,h4,h2,h3.same (zo fun a o h e=>⟨⟨ow0 h,fun z=>h (by rw[z];exact .inr ⟨i,_,_,hi,h1,rfl⟩)⟩,e⟩)⟩ q⟩
theorem yw {a b:List Stmt}(h:EvT X α c fun k=>SvS X α (if k=true then a else b) {E with nx:=fun α'=>SvS X α' rest E}):SvS X α (.If c a b pos::rest) E:=fun F σ H D m r=>by
 refine⟨_,zE (wm xV zP zP) zP,?_⟩
 refine h F σ H _ m fun k H1 q1 t1 k1=>?_
 cases k with
 |true=>exact uF ((by simpa using q1:SvS X α a _) F σ H1 _ (m.kz k1 t1) r.then)
 |false=>exact tD ((by simpa using q1:SvS X α b _) F σ H1 _ (m.kz k1 t1) r.then)
theorem cm (i:Nat){c:PyData}{S:Addr→Prop}{sts:List Stmt}(hi:α[i]?=some (some (.deep c S)))(h:SvS X (α.set i (some (.dat c))) sts E):SvS X α sts E:=fun F σ H D m r=>h F σ H D (m.frzd hi) r
theorem uP (i:Nat){ds:List PyData}{sts:List Stmt}(hi:α[i]?=some (some (.own ds)))(h:SvS X (α.set i (some (.dat (.list ds)))) sts E):SvS X α sts E:=fun F σ H D m r=>h F σ H D (m.frz hi) r
theorem M.wrC {F:Fr}{σ:St}{H:Hp}{i:Nat}{c c':PyData}{l:Addr}{o':HO}(m:M F α σ H)(hi:α[i]?=some (some (.ow c)))(hl:σ[i]?=some (some (.ref l)))(av:xi (Gz F α σ H) o' c'):
  M F (α.set i (some (.ow c'))) σ (upd H l o'):=by
 obtain⟨l',o,h1,h2,h3,h4,h5⟩:=m.owc i c hi
 rw[hl] at h1;cases h1
 have hs:∀{j:Nat} {a:A} {s:Option V},(α.set i (some (.ow c')))[j]?=some (some a)→σ[j]?=some s→(i=j∧a=.ow c'∧s=some (.ref l))∨(i≠j∧α[j]?=some (some a)):=fun {j a s} e1 e2=>by
  rcases zG e1 with ⟨rfl,z⟩|⟨hj,e1'⟩
  ·cases z;rw[hl] at e2;cases e2;exact .inl ⟨rfl,rfl,rfl⟩
  ·exact .inr ⟨hj,e1'⟩
 have oww:∀{y:Addr},Ow F (α.set i (some (.ow c'))) σ y→Ow F α σ y:=fun {y} h=>by
  rcases h with z|⟨j,a,s,e1,e2,f⟩
  ·exact .inl z
  ·rcases hs e1 e2 with ⟨rfl,rfl,rfl⟩|⟨hj,e1'⟩
   ·exact .inr ⟨i,_,_,hi,hl,f⟩
   ·exact .inr ⟨j,a,s,e1',e2,f⟩
 have ol:Ow F α σ l:=.inr ⟨i,_,_,hi,hl,rfl⟩
 have gs:zw (Gz F α σ H) (Gz F (α.set i (some (.ow c'))) σ (upd H l o')):=zo fun a o h e=>⟨fun z=>h (oww z),by rw[zl (fun z=>h (by rw[z];exact ol))];exact e⟩
 refine⟨by rw[zr2];exact m.len,fun j a s e1 e2=>?_,fun j j' a b s t x e1 e2 q1 q2 f1 f2=>?_,fun j r q e j' a s x e1 e2 f=>?_,m.tp.updO h4 (h3.plain h2),fun y o e n=>?_,fun y hy=>?_⟩
 ·rcases hs e1 e2 with ⟨rfl,rfl,rfl⟩|⟨hj,e1'⟩
  ·exact⟨l,o',rfl,zh,av.same gs,h4,h5⟩
  ·refine (m.ok j a s e1' e2).stay gs (fun y u f e=>?_) rfl fun r q ea k=>⟨k.tp,k.o,k.ok.updO (fun z=>h4 (k.o _ z)) (h3.plain h2),fun y u e n=>?_⟩
   ·obtain⟨w1,w2,_⟩:=m.ft e1' e2 f
    refine⟨?_,w1,w2⟩
    rw[zl fun z=>hj (m.dj i j _ a _ s l hi e1' hl e2 rfl (by rw[←z];exact f))]
    exact e
   ·rw[zl (zm e (m.xd j r q (by rw[←ea];exact e1') i _ _ l hi hl rfl))];exact k.k y u e n
 ·rcases hs e1 q1 with ⟨rfl,rfl,rfl⟩|⟨hj,e1'⟩
  ·rcases hs e2 q2 with ⟨rfl,_⟩|⟨hj',e2'⟩
   ·rfl
   ·exact m.dj i j' _ b _ t x hi e2' hl q2 f1 f2
  ·rcases hs e2 q2 with ⟨rfl,rfl,rfl⟩|⟨hj',e2'⟩
   ·exact m.dj j i a _ s _ x e1' hi q1 hl f1 f2
   ·exact m.dj j j' a b s t x e1' e2' q1 q2 f1 f2
 ·rcases zG e with ⟨_,z⟩|⟨_,e'⟩
  ·cases z
  ·rcases hs e1 e2 with ⟨rfl,rfl,rfl⟩|⟨_,e1'⟩
   ·exact m.xd j r q e' i _ _ x hi hl f
   ·exact m.xd j r q e' j' a s x e1' e2 f
 ·rw[zl (zm e h5)];exact m.keep y o e n
 ·rw[zl (fun z=>h4 (by rw[←z];exact hy))];exact m.oex y hy
theorem M.wrOwn {F:Fr}{σ:St}{H:Hp}{i:Nat}{ds es:List PyData}{l:Addr}{ys:List V}(m:M F α σ H)(hi:α[i]?=some (some (.own ds)))(hl:σ[i]?=some (some (.ref l)))(av:AVs (Gz F α σ H) ys es):
  M F (α.set i (some (.own es))) σ (upd H l (.lst ys)):=m.wrC hi hl (.lst av)
theorem wx (i:Nat){x:Str}{ds:List PyData}{p1 p2 p3:Pos}(hi:α[i]?=some (some (.own ds)))(h:EvD X α e fun d=>ds.length<1000∧SvS X (α.set i (some (.own (ds++[d])))) rest E)
  (hN:X.N[i]?=some x:=by rfl) (hv:Vis X.env.scope x:=by first|exact Or.inl rfl|exact Or.inr (Or.inl rfl)|exact Or.inr (Or.inr rfl)) (hd:(x == ("__debug__":Str))=false:=by decide) (hcd:(x == ("__classdict__":Str))=false:=by decide)
  (hbase:attributeBase (.Name x p1) "append" X.env (eval (.Name x p1) X.env)=eval (.Name x p1) X.env:=by rfl) (hs:starEach [e] X.env=(false,eval e X.env)::starEach [] X.env:=by rfl)
  (hpl:((((backTo p3 (starEach [e] X.env)).all fun x=>!x.fst)&&(backToKw p3 (keywordEach [] X.env)).all fun x=>x.fst.isSome)&&decide (([e].length+([]:List Keyword).length+if ([]:List Keyword).isEmpty=true then 0 else 1)<30))=true:=by rfl)
  (hline:(p2.endLine == p3.line)=true:=by rfl) (hsw:swapsWith (.Call (.Attribute (.Name x p1) "append" p2) [e] [] p3) none pos.line X.env=pure false:=by rfl):SvS X α (.Expr (.Call (.Attribute (.Name x p1) "append" p2) [e] [] p3) pos::rest) E:=fun F σ H D m r=>by
 obtain⟨l,xs,h1,h2,h3,h4,h5⟩:=m.own i ds hi
 refine⟨_,zE (ke (bQ PySem.F.plainAttrs_list PySem.F.slot_list_append PySem.F.type_list_append rN (wC hN hv hd hcd) (zd zg zp hs) hbase hpl hline hs) hsw) zP,?_⟩
 refine⟨.ref l,h1,.inl ⟨rfl,_,SqL.of h2⟩,?_⟩
 refine h F σ H _ m fun d v H1 q1 t1 k1 r1=>?_
 have m1:=m.kz k1 t1
 refine⟨l,xs,v,rfl,rfl,k1 _ _ h2 (m.tp.nt h4),by rw[h3.length];exact yP (zv3 q1.1),?_⟩
 exact q1.2 F σ _ D (m1.wrOwn hi h1 ((h3.same (k1.gz m.tp)).append (.cons r1 .nil))) r
theorem yo (i:Nat){x:Str}{ds:List PyData}{p1 p2 p3:Pos}(hi:α[i]?=some (some (.own ds)))(h:EvD X α e fun d=>∃es,d=.list es∧ds.length+es.length≤1000∧SvS X (α.set i (some (.own (ds++es)))) rest E)
  (hN:X.N[i]?=some x:=by rfl) (hv:Vis X.env.scope x:=by first|exact Or.inl rfl|exact Or.inr (Or.inl rfl)|exact Or.inr (Or.inr rfl)) (hd:(x == ("__debug__":Str))=false:=by decide) (hcd:(x == ("__classdict__":Str))=false:=by decide)
  (hbase:attributeBase (.Name x p1) "extend" X.env (eval (.Name x p1) X.env)=eval (.Name x p1) X.env:=by rfl) (hs:starEach [e] X.env=(false,eval e X.env)::starEach [] X.env:=by rfl)
  (hpl:((((backTo p3 (starEach [e] X.env)).all fun x=>!x.fst)&&(backToKw p3 (keywordEach [] X.env)).all fun x=>x.fst.isSome)&&decide (([e].length+([]:List Keyword).length+if ([]:List Keyword).isEmpty=true then 0 else 1)<30))=true:=by rfl)
  (hline:(p2.endLine == p3.line)=true:=by rfl) (hsw:swapsWith (.Call (.Attribute (.Name x p1) "extend" p2) [e] [] p3) none pos.line X.env=pure false:=by rfl):SvS X α (.Expr (.Call (.Attribute (.Name x p1) "extend" p2) [e] [] p3) pos::rest) E:=fun F σ H D m r=>by
 obtain⟨l,xs,h1,h2,h3,h4,h5⟩:=m.own i ds hi
 refine⟨_,zE (ke (bQ PySem.F.plainAttrs_list PySem.F.slot_list_extend PySem.F.type_list_extend jN (wC hN hv hd hcd) (zd zg zp hs) hbase hpl hline hs) hsw) zP,?_⟩
 refine⟨.ref l,h1,.inl ⟨rfl,_,SqL.of h2⟩,?_⟩
 refine h F σ H _ m fun d v H1 q1 t1 k1 r1=>?_
 have m1:=m.kz k1 t1
 obtain⟨es,rfl,hl,q⟩:=q1
 obtain⟨b,ys,rfl,g1,g2⟩:=r1.lst_inv
 refine⟨l,b,xs,ys,rfl,rfl,k1 _ _ h2 (m.tp.nt h4),(zf g1).2,by rw[h3.length,g2.length];exact zv3 (yP hl),?_⟩
 exact q F σ _ D (m1.wrOwn hi h1 ((h3.same (k1.gz m.tp)).append g2)) r
def wO (X:Cx)(pat:Pat)(body rest:List Stmt)(E:yE):List PyData→Ev→Prop
 |[],α=>SvS X α rest E
 |d::ds,α=>∃α1,pat.bind d α=some α1∧SvS X α1 body {nx:=wO X pat body rest E ds,ct:=wO X pat body rest E ds,bk:=fun α'=>SvS X α' rest E,rt:=E.rt}
theorem vU {pat:Pat}(hp:PassesOwn (model X.prog X.w) X.A X.env X.xe)(hc:X.calm=true)(hg:PG X tg (sf X.K pat))(h:EvI X α tg iter fun ds=>wO X pat body rest E ds α)
  (hs:∀x,foldedSetIterable iter X.env x=pure x:=by intro _;rfl):SvS X α (.For tg iter body [] pos::rest) E:=fun F σ H D m r=>by
 refine⟨_,zE (eO hp hc uh hg zP hs) zP,?_⟩
 refine h F σ H _ m fun ds J H1 q1 t1 k1 itw=>?_
 have m1:=m.kz k1 t1
 have mu:=m1.up
 have ru:rC (F.up (Gz F α σ H1)) E D:=r.up
 refine⟨fun i n σ' H'=>n=ds.length-i∧i≤ds.length∧∃α',M (F.up (Gz F α σ H1)) α' σ' H'∧wO X pat body rest E (ds.drop i) α',⟨ds.length,by simp,zr9 _,α,mu,q1⟩,?_⟩
 rintro i n σ' H' ⟨rfl,hi,α',m',lw⟩
 obtain⟨w1,w2⟩:=itw i H' _ (m1.upold m')
 by_cases hlt:i<ds.length
 ·have hd:ds[i]?=some ds[i]:=zt1 hlt
  rw[zv9 hlt] at lw
  obtain⟨α1,eb,body⟩:=lw
  obtain⟨go,yl⟩:=w1 _ hd
  refine .inr ⟨go,fun σ'' H''=>∃α',M (F.up (Gz F α σ H1)) α' σ'' H''∧wO X pat _ rest E (ds.drop (i+1)) α',fun σ'' H'' ⟨α'',r1,r2⟩=>⟨ds.length-(i+1),by omega,rfl,hlt,α'',r1,r2⟩,fun x H3 y=>?_⟩
  obtain⟨s23,avx⟩:=yl x H3 y
  have m3:=m'.kz (Kz.of_same s23) (m'.tp.same s23)
  refine tK eb m3 (avx fun a o _ e=>m'.fresh e) fun σ1 m4=>?_
  exact body _ σ1 H3 _ m4 ⟨fun α2 σ2 H2 m2 q=>⟨α2,m2,q⟩,ru.rt,fun α2 σ2 H2 m2 q=>q _ σ2 H2 D m2 ru,fun α2 σ2 H2 m2 q=>⟨α2,m2,q⟩⟩
 ·have e:i=ds.length:=by omega
  subst e
  rw[zy4] at lw
  exact .inl ⟨w2 (zp8 _),lw _ σ' H' D m' ru⟩
theorem yh {pat:Pat}{ds:List PyData}(P:Nat→Ev→Prop)(h0:P 0 α)(hs:∀i d α,ds[i]?=some d→P i α→∃α1,pat.bind d α=some α1∧SvS X α1 body {nx:=P (i+1),ct:=P (i+1),bk:=fun α'=>SvS X α' rest E,rt:=E.rt})
  (hd:∀α,P ds.length α→SvS X α rest E):wO X pat body rest E ds α:=by
 have key:∀n i α,n=ds.length-i→i≤ds.length→P i α→wO X pat body rest E (ds.drop i) α:=by
  intro n
  induction n with
  |zero=>
   intro i α hn hi p
   have e:i=ds.length:=by omega
   subst e
   rw[zy4]
   exact hd α p
  |succ n ih=>
   intro i α hn hi p
   have hlt:i<ds.length:=by omega
   rw[zv9 hlt]
   obtain⟨α1,e,b⟩:=hs i ds[i] α (zt1 hlt) p
   exact⟨α1,e,b.imp (fun α p=>ih (i+1) α (by omega) hlt p) (fun _ z=>z) (fun _ z=>z) (fun α p=>ih (i+1) α (by omega) hlt p)⟩
 exact key _ 0 α rfl (zr9 _) h0
end
end
section
variable {P:Program}{w:World}{K:PySem.W.Frag}{mg:Str→Option Value}{base:Heap}
theorem M.start {F:Fr}{N:List Str}{vs:List V}{as:List A}{H:Hp}(e:F.H0=H)(t:zH F H)(o:∀x,F.O0 x→∃u,H x=some u∧wQ u)(rv:zX F (sub (fun x=>¬F.O0 x) H) vs as):
  M F (as.map some++List.replicate (N.length-as.length) none) (L2.start N vs) H:=by
 have hl:=rv.length
 have g:∀{i:Nat} {a:A},(as.map some++List.replicate (N.length-as.length) none)[i]?=some (some a)→as[i]?=some a:=fun {i a} h=>by
  rcases Nat.lt_or_ge i as.length with z|z
  ·rw[zr8 (by rw[zp2];exact z),zq7,zq3] at h
   obtain⟨b,h1,h2⟩:=h
   cases h2;exact h1
  ·rw[zs8 (by rw[zp2];exact z),zu4] at h
   split at h<;>cases h
 have at':∀{vs:List V} {as:List A} {i:Nat} {a:A},zX F (sub (fun x=>¬F.O0 x) H) vs as→as[i]?=some a→∃v,vs[i]?=some v∧jg F (sub (fun x=>¬F.O0 x) H) v a:=by
  intro vs as i a h
  induction h generalizing i with
  |nil=>intro e;simp at e
  |cons h r ih=>
   intro e
   cases i with
   |zero=>simp at e;subst e;exact⟨_,rfl,h⟩
   |succ i=>obtain⟨v,h1,h2⟩:=ih (by simpa using e);exact⟨v,by simpa using h1,h2⟩
 have gv:∀{i:Nat} {v:V},vs[i]?=some v→(L2.start N vs)[i]?=some (some v):=fun {i v} h=>by
  have hi:i<vs.length:=(zp5.mp h).1
  unfold L2.start
  rw[zr8 (by rw[zp2];exact hi),zq7,h];rfl
 have no:∀(i:Nat) a,(as.map some++List.replicate (N.length-as.length) none)[i]?=some (some a)→(∃d,a=.dat d)∨a=.tape:=fun i a z=>by
  obtain⟨v,_,h⟩:=at' rv (g z)
  cases a with
  |dat d=>exact .inl ⟨d,rfl⟩
  |tape=>exact .inr rfl
  |_=>exact h.elim
 have gs:zw (sub (fun x=>¬F.O0 x) H) (Gz F (as.map some++List.replicate (N.length-as.length) none) (L2.start N vs) H):=zo fun a o h e=>⟨fun z=>z.elim h fun⟨i,b,s,e1,_,f⟩=>by
  rcases no i b e1 with ⟨d,rfl⟩|rfl
  ·exact f.elim
  ·exact f.elim,e⟩
 refine⟨by unfold L2.start;simp[hl],fun i a s e1 e2=>?_,fun i j a b s t x e1 _ _ _ f=>?_,fun i r q z=>(by rcases no i _ z with ⟨d,w⟩|w<;>cases w),t,fun x o' h _=>by rw[←e];exact h,o⟩
 ·obtain⟨v,h1,h2⟩:=at' rv (g e1)
  rw[gv h1] at e2;cases e2
  rcases no i a e1 with ⟨d,rfl⟩|rfl
  ·exact⟨v,rfl,AV.same gs h2⟩
  ·obtain⟨t',b,c,h3,rfl⟩:=h2
   exact⟨t',b,c,h3,rfl⟩
 ·rcases no i a e1 with ⟨d,rfl⟩|rfl
  ·exact f.elim
  ·exact f.elim
theorem fnA {x qual:Str}{st:Stmt}{f:Addr}{fd:FuncData}{N ps:List Str}{k:Nat}{φ:List A→(A→Prop)→Prop}(G:Fun K x qual st f fd)(S:zi N ps (zc st))(hlen:∀as Q,φ as Q→as.length=ps.length)
  (hbody:∀(cdv:Value) (A':Around) (outer:List Env) (s:Shared) (H:Hp) (E:XK) (as:List A) (Q:A→Prop),zR k (A'.deeper (envOfC qual (zc st) s.heap.objs.size f cdv))→φ as Q→
   SvS (wq CX0 P w K mg base N qual (zc st) f cdv A' outer s H E).nox (as.map some++List.replicate (N.length-as.length) none) (zC st) {nx:=fun _=>Q (.dat .none),rt:=Q}):zA P w K mg base CX0 (k+1) f fd ps (spA φ):=by
 refine G.ok S (fun vs H Q E h=>?_) (fun cdv A' outer s H vs Qc E hr h=>?_)
 ·obtain⟨F,as,Q',_,_,_,rv,hφ,_⟩:=h
  rw[rv.length,hlen as _ hφ]
 ·obtain⟨F,as,Q',e,t,o,rv,hφ,kk⟩:=h
  refine hbody cdv A' outer s H E as Q' hr hφ F _ H _ (M.start e t o rv) ⟨fun α σ H' m q=>?_,fun a v H' r q=>kk a v H' q r,fun _ _ _ _ z=>z.elim,fun _ _ _ _ z=>z.elim⟩
  exact kk _ _ _ q ⟨m.tp,m.keep,.non⟩
end
section
variable {X:Cx}{pins:List (Addr×Obj)}{σ:St}{H:Hp}{s:Shared}{h':Heap}
theorem Inv.turnL {t':Nat}{ch:List Addr}(I:Inv X pins σ H s)(k:∀b o,b∉ch→s.heap.get? b=some o→h'.get? b=some o)(hf:∀b∈ch,uO X pins H b):Inv X pins σ H {s with heap:=h',toks:=t'}:=by
 have nit:∀b u,H b=some u→b∉ch:=fun b u e z=>by rw[(hf b z).1] at e;cases e
 refine I.step (g':=s.gens) (d':=s.drawn) (ch:=ch) (fun b hb=>?_) (fun b o _ _ hc e _=>k b o hc e) (fun b o _ _ hc e _=>⟨o.slots,k b o hc e⟩) (fun _ _ _ _ n=>n)
  (fun b o hc e=>⟨o,k b o hc e⟩) (fun _ _ e=>e) (fun _ _ _ e=>e) (fun b ps e=>⟨#[],by rw[e];simp⟩) (fun m hm=>?_) (fun b u e=>?_) I.bare
 ·obtain⟨_,f1,_,f3,f4,f5⟩:=hf b hb
  exact⟨f3,f1,f4,f5⟩
 ·obtain⟨o,es,ep,ho,r⟩:=hm
  exact⟨o,es,ep,k _ o (fun z=>(hf _ z).2.1 rfl) ho,r⟩
 ·refine (I.hok b u e).stay (fun c v hc q=>k c v ?_ q) (fun _ q=>q) fun _ _ q=>q
  rcases hc with z|z
  ·rw[z];exact nit b u e
  ·exact nit c _ z
theorem Inv.turnLay {t':Nat}{ch:List Addr}{T:Addr}{o:HO}(I:Inv X pins σ H s)(k:∀b o,b∉ch→s.heap.get? b=some o→h'.get? b=some o)(hf:∀b∈ch,uO X pins H b)(hT:s.heap.objs.size≤T)(new:yc X.prog X.w (upd H T o) h' T o):
  Inv X pins σ (upd H T o) {s with heap:=h',toks:=t'}:=by
 have nit:∀b u,H b=some u→b∉ch:=fun b u e z=>by rw[(hf b z).1] at e;cases e
 have hn:H T=none:=I.hok.fresh hT
 have lt:∀{b:Addr} {u:Obj},s.heap.get? b=some u→b≠T:=fun e=>zs3 (zr3 (zp9 e) hT)
 refine I.step (g':=s.gens) (d':=s.drawn) (ch:=ch) (fun b hb=>?_) (fun b o _ _ hc e _=>k b o hc e) (fun b o _ _ hc e _=>⟨o.slots,k b o hc e⟩) (fun b u _ e n=>by rw[zl (lt e)];exact n)
  (fun b o hc e=>⟨o,k b o hc e⟩) (fun b xs e=>by rw[zl (zm e hn)];exact e) (fun b u xs e=>by rw[zl (zm e hn)];exact e) (fun b ps e=>⟨#[],by rw[zl (zm e hn),e];simp⟩) (fun m hm=>?_) (fun b u e=>?_) I.bare
 ·obtain⟨_,f1,_,f3,f4,f5⟩:=hf b hb
  exact⟨f3,f1,f4,f5⟩
 ·obtain⟨o,es,ep,ho,r⟩:=hm
  exact⟨o,es,ep,k _ o (fun z=>(hf _ z).2.1 rfl) ho,r⟩
 ·by_cases hb:b=T
  ·subst hb;rw[zh] at e;cases e;exact new
  ·rw[zl hb] at e
   refine (I.hok b u e).stay (fun c v hc q=>k c v ?_ q) (fun c q=>by rw[zl (zm q hn)];exact q) fun c xs q=>by rw[zl (zm q hn)];exact q
   rcases hc with z|z
   ·rw[z];exact nit b u e
   ·exact nit c _ z
end
theorem zn9 {a b:Nat}(h:b<a):(a:Addr)≠b:=zy2 h
def Itz (K:PySem.W.Frag)(l1 l2:Addr):It:=
 ⟨fun i H=>∃xs ys x y,SqL K H l1 xs∧SqL K H l2 ys∧xs[i]?=some x∧ys[i]?=some y,
  fun i H v H'=>∃T x y,v=.ref T∧H T=none∧H'=upd H T (.tup [x,y])∧(∀xs,SqL K H l1 xs→xs[i]?=some x)∧∀ys,SqL K H l2 ys→ys[i]?=some y,
  fun i H=>∃xs ys,SqL K H l1 xs∧SqL K H l2 ys∧(xs.length≤i∨ys.length≤i)⟩
def Ite (K:PySem.W.Frag)(l:Addr):It:=
 ⟨fun i H=>∃xs x,SqL K H l xs∧xs[i]?=some x,
  fun i H v H'=>∃T x,v=.ref T∧H T=none∧H'=upd H T (.tup [.int i,x])∧∀xs,SqL K H l xs→xs[i]?=some x,
  fun i H=>∃xs,SqL K H l xs∧xs.length≤i⟩
theorem zf6 {P:Program}{w:World}{K:PySem.W.Frag}{elts:List Expr}{kk:Nat}{pos:Pos}{z TI TO i1 i2 l1 l2:Addr}(D:ZipApart z TI TO i1 i2 l1 l2):
  Turn P w K (.Tuple elts kk pos) (Itz K l1 l2) [z,TI,TO,i1,i2] z (fun i h=>IsZip h z TI TO .none∧IsPair h TI (.ref i1) (.ref i2)∧(∃a b,IsPair h TO a b)∧h.IsListIter i1 l1 i∧h.IsListIter i2 l2 i) where
 mem:=by simp
 obj:=fun i h st b hb=>by
  obtain⟨h1,h2,⟨a,c,h3⟩,⟨o1,e1,_,d1⟩,⟨o2,e2,_,d2⟩⟩:=st
  simp only[zp7,zq5,zt3] at hb
  rcases hb with rfl|rfl|rfl|rfl|rfl
  ·exact⟨_,h1,fun v z=>by cases (show Data.fields _=Data.cell v from z)⟩
  ·exact⟨_,h2,fun v z=>by cases (show Data.seq _ _=Data.cell v from z)⟩
  ·exact⟨_,h3,fun v z=>by cases (show Data.seq _ _=Data.cell v from z)⟩
  ·exact⟨o1,e1,fun v z=>by rw[d1] at z;cases z⟩
  ·exact⟨o2,e2,fun v z=>by rw[d2] at z;cases z⟩
 keep:=fun i h h' st k=>by
  obtain⟨h1,h2,⟨a,c,h3⟩,h4,h5⟩:=st
  exact⟨k z (by simp) _ h1,k TI (by simp) _ h2,⟨a,c,k TO (by simp) _ h3⟩,h4.at fun o e=>k i1 (by simp) o e,h5.at fun o e=>k i2 (by simp) o e⟩
 item:=by
  intro X hP hw hK hc i pins s σ H E I hf st hg
  subst hP hw hK
  obtain⟨xs,ys,x,y,hq1,hq2,hx,hy⟩:=hg
  obtain⟨its1,rv1,p1,hz1⟩:=I.list hq1
  obtain⟨its2,rv2,p2,hz2⟩:=I.list hq2
  obtain⟨u,hu,ru⟩:=rv1.get hx
  obtain⟨v,hv,rv⟩:=rv2.get hy
  obtain⟨h1,h2,⟨a,c,h3⟩,h4,h5⟩:=st
  refine wpAny_pyNext_zip_item D h1 h2 h3 h4 h5 p1.isList p2.isList (x:=u) (y:=v) (by simpa using hu) (by simpa using hv) fun h' a1 a2 a3 a4 a5 a6 hk=>⟨_,rfl,?_⟩
  refine wpAny_letOwnedTupleGo_zip (s:={s with heap:=h'}) a1 fun h'' b1 b2=>?_
  have hTz:s.heap.objs.size≠z:=zy2 (zp9 h1)
  have hk2:∀b o,b∉[z,TI,TO,i1,i2]→s.heap.get? b=some o→h''.get? b=some o:=fun b o hb e=>by
   simp only[zp7,zq5,zt3,not_or] at hb
   exact b2.extBut _ _ hb.1 (hk b o hb.1 hb.2.2.1 hb.2.2.2.1 hb.2.2.2.2 e)
  have gT:h''.get? s.heap.objs.size=some {cls:=.type "tuple",data:=.seq #[u,v]}:=b2.extBut _ _ hTz a5
  have J:=I.turnLay (t':=s.toks) (T:=s.heap.objs.size) (o:=.tup [x,y]) hk2 hf (zp8 _) ⟨by show 2≤sizeLine;decide,[u,v],.cons ru (.cons rv .nil),_,gT,rfl,0,rfl⟩
  refine⟨.ref s.heap.objs.size,_,J,rfl,⟨_,x,y,rfl,I.hok.fresh (zp8 _),rfl,fun zs hz=>by rw[I.list_inj hz hq1];exact hx,fun zs hz=>by rw[I.list_inj hz hq2];exact hy⟩,⟨b1,b2.extBut _ _ D.TIz (hk _ _ D.TIz D.TITO D.TIi1 D.TIi2 h2),⟨u,v,b2.extBut _ _ D.TOz a2⟩,a3.extBut b2.extBut D.i1z,a4.extBut b2.extBut D.i2z⟩,fun b hb=>?_⟩
  rw[zl]
  ·exact (hf b hb).1
  ·obtain⟨o,e,_⟩:=(show ∃o,s.heap.get? b=some o∧True from by
    simp only[zp7,zq5,zt3] at hb
    obtain⟨o1,e1,_⟩:=h4
    obtain⟨o2,e2,_⟩:=h5
    rcases hb with rfl|rfl|rfl|rfl|rfl
    ·exact⟨_,h1,trivial⟩
    ·exact⟨_,h2,trivial⟩
    ·exact⟨_,h3,trivial⟩
    ·exact⟨_,e1,trivial⟩
    ·exact⟨_,e2,trivial⟩)
   exact zs3 (zp9 e)
 done:=by
  intro X hP hw hK hc i pins s σ H E I hf st hg
  subst hP hw hK
  obtain⟨xs,ys,hq1,hq2,hl⟩:=hg
  obtain⟨its1,rv1,p1,hz1⟩:=I.list hq1
  obtain⟨its2,rv2,p2,hz2⟩:=I.list hq2
  obtain⟨h1,h2,⟨a,c,h3⟩,h4,h5⟩:=st
  have e1:=rv1.length
  have e2:=rv2.length
  refine wpAny_pyNext_zip_end (I.ok.hd hc) D h1 h2 h3 h4 h5 p1.isList p2.isList (hl.imp (fun z=>by simp;omega) fun z=>by simp;omega) fun h' hk=>⟨rfl,?_⟩
  exact I.turnL (t':=s.toks) (ch:=[z,TI,TO,i1,i2]) (fun b o hb e=>by
   simp only[zp7,zq5,zt3,not_or] at hb
   exact hk b o hb.1 hb.2.2.1 hb.2.2.2.1 hb.2.2.2.2 e) hf
 self:=fun A i s Q E st h=>wpAny_pyIter_zip st.1 h
theorem jV {P:Program}{w:World}{K:PySem.W.Frag}{elts:List Expr}{kk:Nat}{pos:Pos}{e it l:Addr}(hne:e≠it):
  Turn P w K (.Tuple elts kk pos) (Ite K l) [e,it] e (fun i h=>(∃old,IsEnum h e it i old)∧h.IsListIter it l i) where
 mem:=by simp
 obj:=fun i h st b hb=>by
  obtain⟨⟨old,h1⟩,⟨o1,e1,_,d1⟩⟩:=st
  simp only[zp7,zq5,zt3] at hb
  rcases hb with rfl|rfl
  ·exact⟨_,h1,fun v z=>by cases (show Data.fields _=Data.cell v from z)⟩
  ·exact⟨o1,e1,fun v z=>by rw[d1] at z;cases z⟩
 keep:=fun i h h' st k=>by
  obtain⟨⟨old,h1⟩,h4⟩:=st
  exact⟨⟨old,k e (by simp) _ h1⟩,h4.at fun o q=>k it (by simp) o q⟩
 item:=by
  intro X hP hw hK hc i pins s σ H E I hf st hg
  subst hP hw hK
  obtain⟨xs,x,hq1,hx⟩:=hg
  obtain⟨its1,rv1,p1,hz1⟩:=I.list hq1
  obtain⟨u,hu,ru⟩:=rv1.get hx
  obtain⟨⟨old,h1⟩,h4⟩:=st
  refine wpAny_pyNext_enum_item h1 h4 p1.isList (x:=u) (by simpa using hu) hne fun h' a1 a3 a5 a6 hk=>⟨_,rfl,?_⟩
  refine wpAny_letOwnedTupleGo_enum (s:={s with heap:=h',toks:=s.toks+1}) a1 fun h'' b1 b2=>?_
  have hTz:s.heap.objs.size≠e:=zy2 (zp9 h1)
  have hk2:∀b o,b∉[e,it]→s.heap.get? b=some o→h''.get? b=some o:=fun b o hb q=>by
   simp only[zp7,zq5,zt3,not_or] at hb
   exact b2.extBut _ _ hb.1 (hk b o hb.1 hb.2 q)
  have gT:h''.get? s.heap.objs.size=some {cls:=.type "tuple",data:=.seq #[.int i s.toks,u]}:=b2.extBut _ _ hTz a5
  have J:=I.turnLay (t':=s.toks+1) (T:=s.heap.objs.size) (o:=.tup [.int i,x]) hk2 hf (zp8 _) ⟨by show 2≤sizeLine;decide,[.int i s.toks,u],.cons ⟨_,rfl⟩ (.cons ru .nil),_,gT,rfl,0,rfl⟩
  refine⟨.ref s.heap.objs.size,_,J,rfl,⟨_,x,rfl,I.hok.fresh (zp8 _),rfl,fun zs hz=>by rw[I.list_inj hz hq1];exact hx⟩,⟨⟨u,by simpa using b1⟩,a3.extBut b2.extBut hne.symm⟩,fun b hb=>?_⟩
  rw[zl]
  ·exact (hf b hb).1
  ·obtain⟨o,q,_⟩:=(show ∃o,s.heap.get? b=some o∧True from by
    simp only[zp7,zq5,zt3] at hb
    obtain⟨o1,e1,_⟩:=h4
    rcases hb with rfl|rfl
    ·exact⟨_,h1,trivial⟩
    ·exact⟨_,e1,trivial⟩)
   exact zs3 (zp9 q)
 done:=by
  intro X hP hw hK hc i pins s σ H E I hf st hg
  subst hP hw hK
  obtain⟨xs,hq1,hl⟩:=hg
  obtain⟨its1,rv1,p1,hz1⟩:=I.list hq1
  obtain⟨⟨old,h1⟩,h4⟩:=st
  have e1:=rv1.length
  refine wpAny_pyNext_enum_end (I.ok.hd hc) h1 h4 p1.isList (by simp;omega) fun h' hk=>⟨rfl,?_⟩
  exact I.turnL (t':=s.toks) (ch:=[e,it]) (fun b o hb q=>by
   simp only[zp7,zq5,zt3,not_or] at hb
   exact hk b o hb.2 q) hf
 self:=fun A i s Q E st h=>by
  obtain⟨⟨old,h1⟩,h4⟩:=st
  exact wpAny_pyIter_enum h1 h
section
variable {X:Cx}{α:Ev}{elts:List Expr}{kk:Nat}{tp p pos:Pos}{a b:Expr}
def zk2 (K:PySem.W.Frag)(ta:TA):TI:=fun σ H R=>ta σ H fun vs H1=>∃l,vs=[.ref l]∧(∃xs,SqL K H1 l xs)∧R (Ite K l) H1
theorem cW {ta:TA}(hg:Gl X "enumerate")(hm:X.mg "enumerate"=none)(ha:PA X [a] ta)(hs:starEach [a] X.env=[(false,eval a X.env)]:=by rfl):
  PI X (.Tuple elts kk tp) (.Call (.Name "enumerate" p) [a] [] pos) (zk2 X.K ta):=by
 intro pins s σ H R I h
 refine Call_ (vk I hg hm boot_enumerate (zu3 (thn (ha pos pins s σ H _ I h) fun us s1 ⟨vs,H1,I1,r1,q1⟩=>?_) hs rfl))
 obtain⟨l1,e,⟨xs,hq1⟩,q⟩:=q1
 subst e
 obtain⟨u,rfl,ru⟩:=Vals.one r1
 cases (show u=Value.ref l1 from ru)
 obtain⟨its1,rv1,p1,hz1⟩:=I1.list hq1
 refine call_enumerate_list p1.isList fun h' z1 z4 z6 hk=>?_
 refine wpAny_pyIter_enum (s:={s1 with heap:=h'}) z1 ?_
 refine⟨_,_,_,_,H1,rfl,I1.kept (t':=s1.toks) fun b o e=>hk b o e,jV (zn9 (a:=s1.heap.objs.size+1) (b:=s1.heap.objs.size) (zz9 _)),⟨⟨_,z1⟩,z4⟩,fun b hb=>?_,q⟩
 simp only[zp7,zq5,zt3] at hb
 have hb':s1.heap.objs.size≤b:=by
  have key:∀n b:Nat,n=s1.heap.objs.size→(b=n+1∨b=n)→n≤b:=fun n b _ h=>by omega
  exact key _ _ rfl hb
 exact I1.fpOk hb' (I1.hok.fresh hb')
def vI (n:Nat):List PyData→List PyData
 |[]=>[]
 |d::ds=>.tuple [.int n,d]::vI (n+1) ds
theorem xE :∀{ds:List PyData} {n i:Nat} {d:PyData},(vI n ds)[i]?=some d→∃e,ds[i]?=some e∧d=.tuple [.int ((n+i:Nat):Int),e]
 |[],n,i,d,h=>by simp[vI] at h
 |e::ds,n,0,d,h=>by simp[vI] at h;exact⟨e,rfl,by simp[←h]⟩
 |e::ds,n,i+1,d,h=>by
  simp only[vI,zz4] at h
  obtain⟨e',h1,h2⟩:=xE h
  exact⟨e',by simpa using h1,by rw[h2,Nat.add_assoc,Nat.add_comm 1 i]⟩
theorem xy :∀(ds:List PyData) (n:Nat),(vI n ds).length=ds.length
 |[],_=>rfl
 |_::ds,n=>by simp[vI,xy ds (n+1)]
theorem uk {Q:List PyData→Prop}(hg:Gl X "enumerate")(hm:X.mg "enumerate"=none)(h:EvD X α a fun x=>∃ds,x=.list ds∧Q (vI 0 ds))(hs:starEach [a] X.env=[(false,eval a X.env)]:=by rfl):
  EvI X α (.Tuple elts kk tp) (.Call (.Name "enumerate" p) [a] [] pos) Q:=fun F σ H R m k=>by
 refine⟨_,cW hg hm (zd zg zp hs) hs,?_⟩
 refine h F σ H _ m fun x vx H1 q1 t1 k1 r1=>?_
 obtain⟨ds,rfl,q⟩:=q1
 obtain⟨l1,xs,rfl,g1,g2⟩:=r1.lst_inv
 refine⟨l1,rfl,⟨xs,SqL.of (zf g1).2⟩,k _ _ H1 q t1 k1 fun i H3 p s=>⟨fun d hd=>?_,fun hl=>?_⟩⟩
 ·have s1:=SqL.of (K:=X.K) (zf (s _ _ g1)).2
  obtain⟨e,he,rfl⟩:=xE hd
  obtain⟨x1,hx1,av1⟩:=g2.get he
  refine⟨⟨xs,x1,s1,hx1⟩,fun v H4 y=>?_⟩
  obtain⟨T,x,rfl,hT,rfl,hx⟩:=y
  have hx:=hx _ s1
  rw[hx1] at hx;cases hx
  refine⟨zM hT,fun fr=>?_⟩
  have gs:zw (Gz F α σ H1) (sub p (upd H3 T (.tup [.int i,x1]))):=fun a o e=>by
   obtain⟨z1,z2⟩:=zf (s a o e)
   exact zJ z1 (by rw[zl (zm z2 hT)];exact z2)
  refine .tup (zJ (fr T _ zh hT) zh) (.cons ?_ (.cons (av1.same gs) .nil))
  rw[Nat.zero_add]
  exact .int _
 ·refine⟨xs,SqL.of (zf (s _ _ g1)).2,?_⟩
  rw[xy,←g2.length] at hl
  exact hl
end
structure Cal (P:Program)(w:World)(K:PySem.W.Frag)(mg:Str→Option Value)(base:Heap)(x:Str)(k:Nat)(φ:List A→(A→Prop)→Prop):Prop where
 ex:∃f fd ps,mg x=some (.ref f)∧PySem.W.keepIn K (.ref f)=true∧Binds K fd ps []∧zA P w K mg base CX0 k f fd ps (spA φ)
section
variable {X:Cx}{α:Ev}{e a b:Expr}{es:List Expr}{pos p:Pos}{Q:PyData→Prop}{k:Nat}{φ:List A→(A→Prop)→Prop}{x:Str}
theorem zq (C:Cal X.prog X.w X.K X.mg X.base x k φ)(hr:zR k X.A)(hg:Gl X x)(h:EvA X α (e::es) fun as=>φ as fun a=>Q a.d)
  (hdb:(x == ("__debug__":Str))=false:=by decide) (he:starEach (e::es) X.env=(false,eval e X.env)::starEach es X.env:=by rfl) (hpl:(backTo pos (starEach es X.env)).any (·.1)=false:=by rfl):EvD X α (.Call (.Name x p) (e::es) [] pos) Q:=by
 obtain⟨f,fd,ps,h1,h2,h3,h4⟩:=C.ex
 exact cu h4 hr hg h1 h2 h3 h hdb he hpl
theorem xJ {Q:List PyData→Prop}(C:Cal X.prog X.w X.K X.mg X.base x k φ)(hr:zR k X.A)(hg:Gl X x)(h:EvA X α (e::es) fun as=>φ as fun a=>∃ds,a=.own ds∧Q ds)
  (hdb:(x == ("__debug__":Str))=false:=by decide) (he:starEach (e::es) X.env=(false,eval e X.env)::starEach es X.env:=by rfl) (hpl:(backTo pos (starEach es X.env)).any (·.1)=false:=by rfl):EvL X α (.Call (.Name x p) (e::es) [] pos) Q:=by
 obtain⟨f,fd,ps,h1,h2,h3,h4⟩:=C.ex
 exact bH h4 hr hg h1 h2 h3 h hdb he hpl
end
section
variable {P:Program}{w:World}{K:PySem.W.Frag}{mg:Str→Option Value}{base:Heap}
theorem xR {x qual:Str}{st:Stmt}{f:Addr}{fd:FuncData}{N ps:List Str}{k:Nat}{φ:List A→(A→Prop)→Prop}(G:Fun K x qual st f fd)(hm:mg x=some (.ref f))(hb:Binds K fd ps [])(S:zi N ps (zc st))(hlen:∀as Q,φ as Q→as.length=ps.length)
  (hbody:∀(cdv:Value) (A':Around) (outer:List Env) (s:Shared) (H:Hp) (E:XK) (as:List A) (Q:A→Prop),zR k (A'.deeper (envOfC qual (zc st) s.heap.objs.size f cdv))→φ as Q→
   SvS (wq CX0 P w K mg base N qual (zc st) f cdv A' outer s H E).nox (as.map some++List.replicate (N.length-as.length) none) (zC st) {nx:=fun _=>Q (.dat .none),rt:=Q}):Cal P w K mg base x (k+1) φ:=
 ⟨f,fd,ps,hm,G.kp,hb,fnA G S hlen hbody⟩
def wb :List A→(A→Prop)→Prop:=fun as Q=>∃n:Int,as=[.tape,.dat (.int n)]∧0<n∧n<big∧∀v,0≤v→v<n→Q (.dat (.int v))
end
section
variable {Y:Addr→Shared→Hp→List Addr→Cx}{pat:Pat}{ifs:List Expr}{elt:Expr}{α0:Ev}
theorem rP {ds acc:List PyData}{Q:List PyData→Prop}(P:Nat→List PyData→Prop)(h0:P 0 acc)
  (hs:∀i d acc,ds[i]?=some d→P i acc→∃α1,pat.bind d α0=some α1∧∀C s2 H2 fp,ju (Y C s2 H2 fp) α1 ifs fun k=>if k=true then ∀C s2 H2 fp,EvD (Y C s2 H2 fp) α1 elt fun y=>P (i+1) (acc++[y]) else P (i+1) acc)
  (hd:∀acc,P ds.length acc→Q acc):xm Y pat ifs elt α0 ds acc Q:=by
 have key:∀n i acc,n=ds.length-i→i≤ds.length→P i acc→xm Y pat ifs elt α0 (ds.drop i) acc Q:=by
  intro n
  induction n with
  |zero=>
   intro i acc hn hi p
   have e:i=ds.length:=by omega
   subst e
   rw[zy4]
   exact hd acc p
  |succ n ih=>
   intro i acc hn hi p
   have hlt:i<ds.length:=by omega
   rw[zv9 hlt]
   obtain⟨α1,e,b⟩:=hs i ds[i] acc (zt1 hlt) p
   refine⟨α1,e,fun C s2 H2 fp F σ H R m kk=>b C s2 H2 fp F σ H R m fun k H' q=>kk k H' ?_⟩
   cases k with
   |true=>
    rw[if_pos rfl] at q ⊢
    exact fun C s2 H2 fp=>(q C s2 H2 fp).imp fun y p=>ih (i+1) _ (by omega) hlt p
   |false=>
    rw[if_neg (by decide)] at q ⊢
    exact ih (i+1) _ (by omega) hlt q
 exact key _ 0 acc rfl (zr9 _) h0
theorem zV {ds acc:List PyData}{Q:List PyData→Prop}(p:PyData→Bool)(f:PyData→PyData)
  (hs:∀d∈ds,∃α1,pat.bind d α0=some α1∧(∀C s2 H2 fp (Q:Bool→Prop),Q (p d)→ju (Y C s2 H2 fp) α1 ifs Q)∧(p d=true→∀C s2 H2 fp (Q:PyData→Prop),Q (f d)→EvD (Y C s2 H2 fp) α1 elt Q))
  (hd:Q (acc++(ds.filter p).map f)):xm Y pat ifs elt α0 ds acc Q:=by
 induction ds generalizing acc with
 |nil=>
  show Q acc
  simpa using hd
 |cons d ds ih=>
  obtain⟨α1,e,h1,h2⟩:=hs d zq1
  refine⟨α1,e,fun C s2 H2 fp=>h1 C s2 H2 fp _ ?_⟩
  have ih':=fun acc=>ih (acc:=acc) fun d hd=>hs d (zq0 _ hd)
  cases hp:p d with
  |true=>
   rw[if_pos rfl]
   refine fun C s2 H2 fp=>h2 hp C s2 H2 fp _ (ih' _ ?_)
   simpa[zy5,hp] using hd
  |false=>
   rw[if_neg (by decide)]
   refine ih' _ ?_
   simpa[zy5,hp] using hd
end
theorem uZ {ds:List PyData}{v:Int}(h0:0≤v)(h1:v<ds.length):∃d,d∈ds∧atI ds v=some d:=by
 obtain⟨j,rfl⟩:=Int.eq_ofNat_of_zero_le h0
 have hj:j<ds.length:=by omega
 exact⟨ds[j],List.getElem_mem hj,dD (zt1 hj)⟩
theorem nH (st:Stmt)(env:Env):execs [st] env=exec st env:=by
 rw[PySem.execs_cons]
 have:(fun f:Flow=>(match f with|.next=>execs [] env|f=>pure f:Sem Flow))=pure:=by
  funext f
  cases f<;>rfl
 exact (congrArg (fun g=>exec st env >>= g) this).trans (bind_pure _)
section
variable {X:Cx}{α:Ev}{e a b c:Expr}{es rest:List Expr}{pos p:Pos}{Q:PyData→Prop}{E:yE}{st:Stmt}{sts sts':List Stmt}
theorem wK (P:Ev→Prop)(h1:SvS X α [st] {E with nx:=P})(h2:∀α',P α'→SvS X α' sts E):SvS X α (st::sts) E:=fun F σ H D m r=>by
 refine yj (fun σ' H'=>∃α',M F α' σ' H'∧P α') ?_ ?_
 ·obtain⟨t,p,q⟩:=h1 F σ H {D with nx:=fun σ' H'=>∃α',M F α' σ' H'∧P α'} m ⟨fun α' σ' H' m' z=>⟨α',m',z⟩,r.rt,r.bk,r.ct⟩
  exact⟨t,fun pins s σ H D I h=>(by
   have:=p pins s σ H D I h
   rw[nH] at this
   exact this),q⟩
 ·rintro σ' H' ⟨α',m',z⟩
  exact h2 α' z F σ' H' D m' r
theorem pL {c:Prop}[Decidable c]{a b:List Stmt}(h1:c→SvS X α a E)(h2:¬c→SvS X α b E):SvS X α (if decide c=true then a else b) E:=by
 by_cases h:c
 ·rw[zt5 h];exact h1 h
 ·rw[zs9 h];exact h2 h
theorem zZ {k:Bool}{a b:List Stmt}(h1:k=true→SvS X α a E)(h2:k=false→SvS X α b E):SvS X α (if k=true then a else b) E:=by
 cases k with
 |true=>exact h1 rfl
 |false=>exact h2 rfl
theorem qP {i j:Int}:Cmp rEq (.int i) (.int j) (decide (i=j)):=fun p H vx vy R rx ry h=>by
 cases rx.int_inv;cases ry.int_inv
 refine⟨rfl,?_⟩
 rw[show decide (V.int i=V.int j)=decide (i=j) by simp]
 exact h
theorem cK {i j:Int}:Cmp rNe (.int i) (.int j) (!decide (i=j)):=fun p H vx vy R rx ry h=>by
 cases rx.int_inv;cases ry.int_inv
 refine⟨rfl,?_⟩
 rw[show decide (V.int i=V.int j)=decide (i=j) by simp]
 exact h
theorem kj {i j:Str}:Cmp rEq (.str i) (.str j) (decide (i=j)):=fun p H vx vy R rx ry h=>by
 cases rx.str_inv;cases ry.str_inv
 refine⟨rfl,?_⟩
 rw[show decide (V.str i=V.str j)=decide (i=j) by simp]
 exact h
theorem md {op:CmpOp}{r:R2}(ho:OpR X (compareOp op) r)(hm:behindInMarks op b=false)(h:EvD X α a fun x=>EvD X α b fun y=>∃k,Cmp r x y k∧Q (.bool k)):EvD X α (.Compare a [op] [b] pos) Q:=fun F σ H R m k=>by
 refine⟨_,xU ho zg zg hm,?_⟩
 refine h F σ H _ m fun x vx H1 q1 t1 k1 r1=>?_
 have m1:=m.kz k1 t1
 refine q1 F σ H1 _ m1 fun y vy H2 q2 t2 k2 r2=>?_
 obtain⟨b,hc,q⟩:=q2
 exact hc _ H2 vx vy _ (r1.same (k2.gz m1.tp)) r2 (k _ _ H2 q t2 (k1.trans k2) (.bl b))
theorem ze9 {Q:Bool→Prop}(h:EvD X α a fun x=>EvD X α b fun y=>∃i j,x=.int i∧y=.int j∧Q (decide (i=j))):EvT X α (.Compare a [.Eq] [b] pos) Q:=
 wa wR (zK _) (h.imp fun x h=>h.imp fun y ⟨i,j,e1,e2,q⟩=>⟨_,by subst e1 e2;exact qP,q⟩)
theorem zb5 (h:EvD X α a fun x=>EvD X α b fun y=>∃i j,x=.int i∧y=.int j∧Q (.bool (decide (i=j)))):EvD X α (.Compare a [.Eq] [b] pos) Q:=
 md wR (zK _) (h.imp fun x h=>h.imp fun y ⟨i,j,e1,e2,q⟩=>⟨_,by subst e1 e2;exact qP,q⟩)
theorem qM {Q:Bool→Prop}(h:EvD X α a fun x=>EvD X α b fun y=>∃i j,x=.str i∧y=.str j∧Q (decide (i=j))):EvT X α (.Compare a [.Eq] [b] pos) Q:=
 wa wR (zK _) (h.imp fun x h=>h.imp fun y ⟨i,j,e1,e2,q⟩=>⟨_,by subst e1 e2;exact kj,q⟩)
theorem kB {p q:Bool}{Q:Bool→Prop}(ha:∀Q:Bool→Prop,Q p→EvT X α a Q)(hb:p=true→∀Q:Bool→Prop,Q q→EvW X α (.BoolOp .And (b::rest) pos) Q)(k:Q (p&&q)):EvW X α (.BoolOp .And (a::b::rest) pos) Q:=by
 refine mw (ha _ ?_)
 cases p with
 |true=>rw[if_pos rfl];exact hb rfl _ (by simpa using k)
 |false=>rw[if_neg (by decide)];simpa using k
end
structure NbT (mg:Str→Option Value):Prop where
 abs:mg "abs"=none
 list:mg "list"=none
 len:mg "len"=none
 range:mg "range"=none
 min:mg "min"=none
 max:mg "max"=none
 sorted:mg "sorted"=none
 isinstance:mg "isinstance"=none
 int:mg "int"=none
 bool:mg "bool"=none
 str:mg "str"=none
 tuple:mg "tuple"=none
 all:mg "all"=none
 any:mg "any"=none
 repr:mg "repr"=none
 zip:mg "zip"=none
 enumerate:mg "enumerate"=none
 reversed:mg "reversed"=none
 sum:mg "sum"=none
theorem yI {X:Cx}{K:PySem.W.Frag}{es:List Expr}{k:Nat}{t:TGs}{n:Nat}{pos:Pos}(hK:X.K=K)(hc:X.calm=true)(h:PGs X es t)
  (hn:(assignEach es X.env).length=n:=by rfl) (hst:(assignEach es X.env).findIdx? (·.1)=none:=by rfl):PG X (.Tuple es k pos) (aX K n t):=by
 subst hK
 exact za3 hc h hn hst
end L2
namespace SortA
open PySem PySem.W PyProof.Rows
abbrev g (p:Array Nat)(i:Nat):Nat:=p.getD i 0
variable {lt:Nat→Nat→Bool}
end SortA
namespace SortA
open PySem PySem.W PyProof.Rows
end SortA
namespace L2
open PySem PySem.Spec PySem.Calls PySem.W PyProof.Rows SortA
section
variable {prog:Program}{w:World}{A:Around}{E:Value→Shared→Prop}{s:Shared}
end
section
variable {X:Cx}{pins:List (Addr×Obj)}{σ:St}{H H':Hp}{s:Shared}
end
end L2
namespace Days
end Days
namespace L2
open PySem PySem.Spec PyProof.Rows Days
section
variable {X:Cx}{α:Ev}{e a b c tg:Expr}{pos p:Pos}{Q:PyData→Prop}{E:yE}{sts:List Stmt}
theorem kf {pat:Pat}(hg:PG X tg (sf X.K pat))(h:EvD X α e fun d=>∃α1,pat.bind d α=some α1∧SvS X α1 sts E)
  (hs:swapsWithSole [tg] e pos.line X.env=pure false:=by rfl) (hw:swappedStores [tg] e X.env=pure none:=by rfl) (h1:(assignEach [tg] X.env).map (·.2)=[assign tg X.env]:=by rfl):SvS X α (.Assign [tg] e pos::sts) E:=fun F σ H D m r=>by
 refine⟨_,zE (nL zg hg hs hw h1) zP,?_⟩
 refine h F σ H _ m fun d v H1 q1 t1 k1 r1=>?_
 obtain⟨α1,eb,q⟩:=q1
 exact tK eb (m.kz k1 t1) r1 fun σ' m'=>q F σ' H1 D m' r
theorem ib {op op':CmpOp}{g g':Int→Int→Bool}{i j k:Int}{Q:Bool→Prop}(ho:OpR X (compareOp op) (rI0 fun i j=>.bl (g i j)))(ho':OpR X (compareOp op') (rI0 fun i j=>.bl (g' i j)))(hm:lastMarks [op,op'] [b,c]=false)
  (ha:∀Q:PyData→Prop,Q (.int i)→EvD X α a Q) (hb:∀Q:PyData→Prop,Q (.int j)→EvD X α b Q) (hc:∀Q:PyData→Prop,Q (.int k)→EvD X α c Q) (h:Q (g i j&&g' j k)):EvT X α (.Compare a [op,op'] [b,c] pos) Q:=fun F σ H R m kk=>by
 refine⟨_,iX ho ho' zg zg zg hm,?_⟩
 refine ha (fun d=>d=.int i) rfl F σ H _ m fun x vx H1 q1 t1 k1 r1=>?_
 have m1:=m.kz k1 t1
 refine hb (fun d=>d=.int j) rfl F σ H1 _ m1 fun y vy H2 q2 t2 k2 r2=>?_
 subst q1 q2
 cases r1.int_inv;cases r2.int_inv
 have m2:=m1.kz k2 t2
 refine⟨i,j,rfl,rfl,_,rfl,?_⟩
 cases hg:g i j with
 |true=>
  refine uF ?_
  refine hc (fun d=>d=.int k) rfl F σ H2 _ m2 fun z vz H3 q3 t3 k3 r3=>?_
  subst q3
  cases r3.int_inv
  rw[hg,zu6] at h
  exact⟨j,k,rfl,rfl,_,rfl,kk _ H3 h t3 ((k1.trans k2).trans k3)⟩
 |false=>
  rw[hg,zu7] at h
  exact tD ⟨_,rfl,kk _ H2 h t2 (k1.trans k2)⟩
end
theorem eH (ds:List PyData):ds.filter (fun _=>true)=ds:=zB0.mpr fun _ _=>rfl
section
variable {X:Cx}{α:Ev}{tg:Expr}{pos p:Pos}{E:yE}{sts body:List Stmt}
end
def isNone :PyData→Bool
 |.none=>true
 |_=>false
theorem DV.non_iff {H:Hp}{x:V}{d:PyData}(h:DV H x d):decide (x=.non)=isNone d:=by
 cases h<;>simp[isNone]
abbrev eqS (d:PyData)(s:Str):Bool:=PyData.eqv d (.str s)
abbrev uJ :PyData→Bool:=zU 0 1000000000000
def sN :PyData→Bool
 |.tuple [.int m,f]=>zU 2 14 (.int m)&&zU 1 (m-1) f
 |_=>false
def zI (w v:PyData):Bool:=
 if eqS w "price"=true then isNone v||uJ v
 else if (eqS w "come"||eqS w "go")=true then isBool v
 else if (eqS w "least"||eqS w "most")=true then zU 1 14 v
 else if eqS w "deal"=true then isNone v||sN v
 else eqS w "fee"&&uJ v
def yA :PyData→Bool
 |.tuple [w,a,b,v]=>yf (.tuple [a,b])&&zI w v
 |_=>false
abbrev words :List Str:=["price","come","go","least","most","deal","fee"]
theorem mH {x:Str}(h:(PyData.str x).canLay0=true):SeqAt.shaped (.str x)=true:=by
 unfold SeqAt.shaped
 rw[h]
 rfl
def lL :Sp:=fun vs H Q _=>∃x y dw dv,vs=[x,y]∧DV H x dw∧SeqAt.shaped dw=true∧DV H y dv∧Q (.bl (zI dw dv)) H
def gA :Sp:=fun vs H Q _=>∃x d,vs=[x]∧DV H x d∧SeqAt.shaped d=true∧∀H',zw H H'→Q (.bl (yA d)) H'
theorem pd {ds:List PyData}(h:SeqAt.shaped (.tuple ds)=true):∀d∈ds,SeqAt.shaped d=true:=by
 unfold SeqAt.shaped at h
 rw[zq8,zs4] at h
 obtain⟨h1,h2⟩:=h
 simp only[PyData.canLay0] at h1
 simp only[PyData.depth] at h2
 have key:∀(ds:List PyData),PyData.canLayAll0 ds=true→PyData.depthAll ds+1≤64→∀d∈ds,SeqAt.shaped d=true:=by
  intro ds
  induction ds with
  |nil=>intro _ _ d hd;simp at hd
  |cons e r ih=>
   intro a b d hd
   simp only[PyData.canLayAll0,zq8] at a
   simp only[PyData.depthAll] at b
   rcases zp7.mp hd with z|z
   ·subst z
    unfold SeqAt.shaped
    rw[a.1,zu6,zs4]
    omega
   ·exact ih a.2 (by omega) d z
 exact key ds h1 (by omega)
def wX (x y z:V):List (Str×V):=xS "worth" z (xS "last" y (xS "first" x []))
theorem gb :¬(("worth":Str)="last"):=by decide +kernel
theorem iA :¬(("worth":Str)="first"):=by decide +kernel
theorem eD :¬(("last":Str)="first"):=by decide +kernel
theorem tS (x y z:V):(wX x y z).lookup ("first":Str)=some x:=by
 unfold wX
 rw[zO,if_neg (fun e=>iA e.symm),zO,if_neg (fun e=>eD e.symm),zO,if_pos rfl]
theorem rZ (x y z:V):(wX x y z).lookup ("last":Str)=some y:=by
 unfold wX
 rw[zO,if_neg (fun e=>gb e.symm),zO,if_pos rfl]
theorem lC (x y z:V):(wX x y z).lookup ("worth":Str)=some z:=by
 unfold wX
 rw[zO,if_pos rfl]
theorem bx (x y z:V){m:Str}(h1:¬m="worth")(h2:¬m="last")(h3:¬m="first"):(wX x y z).lookup m=none:=by
 unfold wX
 rw[zO,if_neg h1,zO,if_neg h2,zO,if_neg h3]
 rfl
structure Cs where
 price:Addr
 come:Addr
 go:Addr
 least:Addr
 most:Addr
 deal:Addr
 fee:Addr
def Cs.of (c:Cs)(w:Str):Addr:=
 if w="price" then c.price else if w="come" then c.come else if w="go" then c.go else if w="least" then c.least else if w="most" then c.most else if w="deal" then c.deal else c.fee
structure wc (K:PySem.W.Frag)(C fI fT fE fW:Addr):Prop where
 cl:Cls K C
 nf:yF K C "first"
 nl:yF K C "last"
 nw:yF K C "worth"
 makes:Mk K C fI
 told:Meth K C "told" fT
 tells:Meth K C "tells" fE
 word:Meth K C "word" fW
def ze6 (C:Addr):Sp:=fun vs H Q _=>∃(p dx:Addr) (x y z:V),vs=[.ref p,x,y,z]∧H p=some (.ins C dx [])∧Q .non (upd H p (.ins C dx (wX x y z)))
def wH (w:Str):Sp:=fun vs H Q _=>∃p,vs=[.ref p]∧Q (.str w) H
def gP (C:Addr)(w:Str):Sp:=fun vs H Q _=>∃(p dx:Addr) (x y z:V),vs=[.ref p]∧H p=some (.ins C dx (wX x y z))∧∀q,H q=none→Q (.ref q) (upd H q (.tup [.str w,x,y,z]))
def kJ (C:Addr):Sp:=fun vs H Q _=>∃(p dx:Addr) (a b day:Int) (z:V),vs=[.ref p,.int day]∧H p=some (.ins C dx (wX (.int a) (.int b) z))∧Q (.bl (decide (a≤day)&&decide (day≤b))) H
def eQ (cs:Cs):Sp:=fun vs H Q _=>∃(w:Str) (x y z:V),vs=[.str w,x,y,z]∧w∈words∧∀(p dx:Addr) (H':Hp),H' p=some (.ins (cs.of w) dx (wX x y z))→H p=none→zw H H'→Q (.ref p) H'
def oC (cs:Cs):Sp:=fun vs H Q _=>∃x d,vs=[x]∧DV H x d∧SeqAt.shaped d=true∧(yA d=false→∀H',zw H H'→Q .non H')∧
 (∀(r:Addr) (w:Str) (x1 x2 x3:V) (p dx:Addr) (H':Hp),x=.ref r→yA d=true→w∈words→H r=some (.tup [.str w,x1,x2,x3])→H' p=some (.ins (cs.of w) dx (wX x1 x2 x3))→H p=none→zw H H'→Q (.ref p) H')
theorem wF {d:PyData}{s:Str}(h:eqS d s=true):d=.str s:=by
 cases d with
 |str x=>
  have h':(x == s)=true:=h
  rw[eq_of_beq h']
 |_=>simp[PyData.eqv] at h
theorem ny {w v:PyData}(h:zI w v=true):∃s∈words,w=.str s:=by
 unfold zI at h
 split at h
 ·rename_i e;exact⟨"price",by simp[words],wF e⟩
 ·split at h
  ·rename_i e
   rcases (zy1 _ _).mp e with e|e
   ·exact⟨"come",by simp[words],wF e⟩
   ·exact⟨"go",by simp[words],wF e⟩
  ·split at h
   ·rename_i e
    rcases (zy1 _ _).mp e with e|e
    ·exact⟨"least",by simp[words],wF e⟩
    ·exact⟨"most",by simp[words],wF e⟩
   ·split at h
    ·rename_i e;exact⟨"deal",by simp[words],wF e⟩
    ·rw[zq8] at h;exact⟨"fee",by simp[words],wF h.1⟩
theorem xY {d:PyData}(h:yA d=true):∃(s:Str) (a b v:PyData),s∈words∧d=.tuple [.str s,a,b,v]:=by
 unfold yA at h
 split at h
 ·rename_i w a b v
  rw[zq8] at h
  obtain⟨s,hs,rfl⟩:=ny h.2
  exact⟨s,a,b,v,hs,rfl⟩
 ·cases h
section
variable {X:Cx}
end
abbrev vR (C:Addr)(fs:List (PyData×PyData)):PyData:=.dict ((.int (C:Nat),.none)::fs)
def rn :List (PyData×PyData)→Str→Option PyData
 |[],_=>none
 |(.str g,d)::r,f=>if f=g then some d else rn r f
 |_::r,f=>rn r f
theorem AVf.get {H:Hp}:∀{fs:List (Str×V)} {ds:List (PyData×PyData)} {f:Str} {d:PyData},AVf H fs ds→rn ds f=some d→∃v,fs.lookup f=some v∧AV H v d
 |_,_,f,d,.nil,e=>by cases e
 |_,_,f,d,.cons (f:=g) h r,e=>by
  rw[zu5]
  unfold rn at e
  by_cases z:f=g
  ·subst z
   rw[if_pos rfl] at e
   cases e
   exact⟨_,by simp,h⟩
  ·rw[if_neg z] at e
   have z':(f == g)=false:=by simpa using z
   rw[z']
   exact AVf.get r e
theorem AVf.none {H:Hp}:∀{fs:List (Str×V)} {ds:List (PyData×PyData)} {f:Str},AVf H fs ds→rn ds f=Option.none→fs.lookup f=Option.none
 |_,_,f,.nil,e=>rfl
 |_,_,f,.cons (f:=g) h r,e=>by
  rw[zu5]
  unfold rn at e
  by_cases z:f=g
  ·subst z
   rw[if_pos rfl] at e
   cases e
  ·rw[if_neg z] at e
   have z':(f == g)=false:=by simpa using z
   rw[z']
   exact AVf.none r e
theorem AV.ins_inv {H:Hp}{v:V}{C:Addr}{ds:List (PyData×PyData)}(h:AV H v (vR C ds)):∃a dx fs,v=.ref a∧H a=some (.ins C dx fs)∧AVf H fs ds:=by
 generalize e:vR C ds=d at h
 cases h with
 |@ins a C' dx fs ds' h1 h2=>
  injection e with e
  injection e with e1 e2
  have e3:(C:Int)=(C':Int):=by
   have:=congrArg Prod.fst e1
   injection this
  have e4:C=C':=Int.ofNat.inj e3
  subst e4 e2
  exact⟨a,dx,fs,rfl,h1,h2⟩
 |_=>cases e
section
variable {X:Cx}{α:Ev}{o e:Expr}{es:List Expr}{pos apos p:Pos}{Q:PyData→Prop}{C:Addr}{f m:Str}
theorem mq (c:Cls X.K C)(na:yF X.K C f)(h:EvD X α o fun x=>∃fs d,x=vR C fs∧rn fs f=some d∧Q d)(hb:attributeBase o f X.env (eval o X.env)=eval o X.env:=by rfl):EvD X α (.Attribute o f pos) Q:=fun F σ H R m k=>by
 refine⟨_,uQ zg hb,?_⟩
 refine h F σ H _ m fun x vx H1 q1 t1 k1 r1=>?_
 obtain⟨fs,d,rfl,hf,q⟩:=q1
 obtain⟨a,dx,gs,rfl,h1,h2⟩:=r1.ins_inv
 obtain⟨v,hv,av⟩:=h2.get hf
 exact⟨a,C,dx,gs,v,rfl,(zf h1).2,c,na,hv,k d v H1 q t1 k1 av⟩
structure vG (P:Program)(w:World)(K:PySem.W.Frag)(mg:Str→Option Value)(base:Heap)(C:Addr)(m:Str)(k:Nat)(φ:List A→(A→Prop)→Prop):Prop where
 ex:∃f fd ps,Cls K C∧Meth K C m f∧Binds K fd ps []∧zA P w K mg base CX0 k f fd ps (spA φ)
theorem wB {k:Nat}{φ:List A→(A→Prop)→Prop}{pl:Sem Bool}(M':vG X.prog X.w X.K X.mg X.base C m k φ)(hr:zR k X.A)(h:EvD X α o fun x=>∃fs,x=vR C fs∧rn fs m=none∧EvA X α (e::es) fun as=>φ (.dat (vR C fs)::as) fun a=>Q a.d)
  (hst:starEach (e::es) X.env=(false,eval e X.env)::starEach es X.env:=by rfl) (hpl:(backTo pos (starEach es X.env)).any (·.1)=false:=by rfl)
  (ht:eval (.Call (.Attribute o m apos) (e::es) [] pos) X.env=(do
   let ov ←eval o X.env
   standAt apos.atName
   let (f,first) ←holding [ov] (getMethod ov m pl)
   callWith pos f first (backTo pos (starEach (e::es) X.env)) (backToKw pos (keywordEach [] X.env))):=by rfl):EvD X α (.Call (.Attribute o m apos) (e::es) [] pos) Q:=fun F σ H R m' kk=>by
 obtain⟨f,fd,ps,c,hm,hb,G⟩:=M'.ex
 refine⟨_,cc zg c hm G hr hb .nil zW yZ hst hpl ht,?_⟩
 refine h F σ H _ m' fun x vx H1 q1 t1 k1 r1=>?_
 obtain⟨fs,rfl,hf,q⟩:=q1
 have m1:=m'.kz k1 t1
 obtain⟨a,dx,gs,rfl,h1,h2⟩:=r1.ins_inv
 refine⟨a,dx,gs,rfl,(zf h1).2,h2.none hf,?_⟩
 refine q F σ H1 _ m1 fun as vs H2 q2 t2 k2 r2=>?_
 have m2:=m1.kz k2 t2
 have cf:=wI (vs:=.ref a::vs) (as:=.dat (vR C fs)::as) (R:=R) (E:=E0) m2 (.cons (r1.same (k2.gz m1.tp)) r2) q2 fun z v H' qa ra=>by
  obtain⟨g1,g2,g3⟩:=ra.back m2
  exact kk _ v H' qa g1 ((k1.trans k2).trans g2) g3
 exact cf
theorem pX {k:Nat}{φ:List A→(A→Prop)→Prop}{pl:Sem Bool}(M':vG X.prog X.w X.K X.mg X.base C m k φ)(hr:zR k X.A)(h:EvD X α o fun x=>∃fs,x=vR C fs∧rn fs m=none∧φ [.dat (vR C fs)] fun a=>Q a.d)
  (ht:eval (.Call (.Attribute o m apos) [] [] pos) X.env=(do
   let ov ←eval o X.env
   standAt apos.atName
   let (f,first) ←holding [ov] (getMethod ov m pl)
   callWith pos f first (backTo pos (starEach [] X.env)) (backToKw pos (keywordEach [] X.env))):=by rfl):EvD X α (.Call (.Attribute o m apos) [] [] pos) Q:=fun F σ H R m' kk=>by
 obtain⟨f,fd,ps,c,hm,hb,G⟩:=M'.ex
 refine⟨_,pZ zg c hm G hr hb .nil zW ht,?_⟩
 refine h F σ H _ m' fun x vx H1 q1 t1 k1 r1=>?_
 obtain⟨fs,rfl,hf,q⟩:=q1
 have m1:=m'.kz k1 t1
 obtain⟨a,dx,gs,rfl,h1,h2⟩:=r1.ins_inv
 refine⟨a,dx,gs,rfl,(zf h1).2,h2.none hf,?_⟩
 have cf:=wI (vs:=[.ref a]) (as:=[.dat (vR C fs)]) (R:=R) (E:=E0) m1 (.cons r1 .nil) q fun z v H' qa ra=>by
  obtain⟨g1,g2,g3⟩:=ra.back m1
  exact kk _ v H' qa g1 (k1.trans g2) g3
 exact cf
def bB (F:Fr)(v:V)(H':Hp)(d:PyData):Prop:=zH F H'∧Kz F F.H0 H'∧AV (sub (fun x=>¬F.O0 x∧∀xs,F.H0 x≠some (.lst xs)) H') v d
def EvN (X:Cx)(α:Ev)(e:Expr)(Q:PyData→Prop):Prop:=∀(F:Fr) (σ:St) (H:Hp) (R:VK),M F α σ H→(∀d v H',Q d→zH F H'→Kz F H H'→AV (sub (fun x=>¬Ow F α σ x∧∀xs,H x≠some (.lst xs)) H') v d→R v H')→tT X e σ H R
theorem EvN.d (h:EvN X α e Q):EvD X α e Q:=fun F σ H R m k=>h F σ H R m fun d v H' q t z r=>k d v H' q t z (r.same (zo fun a o h e=>⟨h.1,e⟩))
def spI (C:Addr)(φ:List A→(A→Prop)→Prop):Sp:=fun vs H Qc _=>∃(F:Fr) (as:List A) (Q:A→Prop) (x dx:Addr) (vs':List V) (H1:Hp),vs=.ref x::vs'∧H1 x=none∧H1 dx=none∧dx≠x∧H=upd (upd H1 dx (.own x)) x (.ins C dx [])∧
 F.H0=H1∧zH F H1∧(∀y,F.O0 y→∃u,H1 y=some u∧wQ u)∧zX F (sub (fun y=>¬F.O0 y) H1) vs' as∧φ as Q∧∀d H',Q (.dat d)→bB F (.ref x) H' d→Qc .non H'
structure dR (P:Program)(w:World)(K:PySem.W.Frag)(mg:Str→Option Value)(base:Heap)(x:Str)(k:Nat)(dvs:List V)(φ:List A→(A→Prop)→Prop):Prop where
 ex:∃C f fd ps ds,mg x=some (.ref C)∧Mk K C f∧Binds K fd ps ds∧Vals dvs ds∧zA P w K mg base CX0 k f fd ps (spI C φ)
theorem mI {F:Fr}{σ:St}{H:Hp}{vs:List V}{as:List A}{QA:A→Prop}{R:VK}{φ:List A→(A→Prop)→Prop}(m:M F α σ H)(rv:zX F (Gz F α σ H) vs as)(hφ:φ as QA)
  (kk:∀d v H',QA (.dat d)→bB ⟨H,Ow F α σ,F.tp⟩ v H' d→R v H') {E:XK} (x dx:Addr) (hx:H x=none) (hdx:H dx=none) (hne:dx≠x):spI C φ (.ref x::vs) (upd (upd H dx (.own x)) x (.ins C dx [])) (fun v H2=>v=.non∧R (.ref x) H2) E:=by
 refine⟨⟨H,Ow F α σ,F.tp⟩,as,QA,x,dx,vs,H,rfl,hx,hdx,hne,rfl,rfl,?_,?_,?_,hφ,fun d H' qa ra=>⟨rfl,kk d _ H' qa ra⟩⟩
 ·exact m.tp.to rfl fun _ z=>.inl z
 ·exact fun y z=>m.owEx z
 ·exact zX.to (F:=F) (F':=⟨H,Ow F α σ,F.tp⟩) (fun _ _ e=>e) rfl rv
theorem bB.back {F:Fr}{σ:St}{H H1 H':Hp}{v:V}{d:PyData}(m:M F α σ H)(k1:Kz F H H1)(h:bB ⟨H1,Ow F α σ,F.tp⟩ v H' d):zH F H'∧Kz F H1 H'∧AV (sub (fun x=>¬Ow F α σ x∧∀xs,H x≠some (.lst xs)) H') v d:=by
 obtain⟨t,kz,r⟩:=h
 refine⟨m.tp.re t rfl,kz,r.same (zo fun a o h e=>⟨⟨h.1,fun xs z=>h.2 xs (k1 _ _ z (m.tp.nt (ow0 h.1)))⟩,e⟩)⟩
theorem cH {k:Nat}{φ:List A→(A→Prop)→Prop}{x:Str}(M':dR X.prog X.w X.K X.mg X.base x k [] φ)(hr:zR (k+1) X.A)(hg:Gl X x)(h:EvA X α (e::es) fun as=>φ as fun a=>Q a.d)
  (hdb:(x == ("__debug__":Str))=false:=by decide) (he:starEach (e::es) X.env=(false,eval e X.env)::starEach es X.env:=by rfl) (hpl:(backTo pos (starEach es X.env)).any (·.1)=false:=by rfl):EvN X α (.Call (.Name x p) (e::es) [] pos) Q:=fun F σ H R m kk=>by
 obtain⟨C,f,fd,ps,ds,hm,hk,hb,hd,G⟩:=M'.ex
 cases hd
 refine⟨_,xW hk G hr hg hm hb .nil zW yZ hdb he hpl,?_⟩
 refine h F σ H _ m fun as vs H1 q1 t1 k1 r1=>?_
 have m1:=m.kz k1 t1
 intro y dx hy hdx hne
 rw[zw2]
 refine mI m1 r1 q1 (fun d v H' qa ra=>?_) y dx hy hdx hne
 obtain⟨g1,g2,g3⟩:=ra.back m k1
 exact kk d v H' qa g1 (k1.trans g2) g3
end
structure zf2 (K:PySem.W.Frag)(x qual:Str)(st:Stmt)(dV:Value)(f:Addr)(fd:FuncData):Prop where
 ex:∃(oc:Value) (od:Option Addr) (kV doc pm:Value) (an:Option Addr) (cdv ct:Value) (osl:Array (Option Value)),
  fd=PySem.W.fnOf x qual (yd st) (zC st) (zc st) dV kV doc pm an cdv ct∧K.lookup f=some ⟨oc,od,.func fd,osl⟩∧PySem.W.codeIn K cdv qual=true
 kp:PySem.W.keepIn K (.ref f)=true
theorem bF {K:PySem.W.Frag}{x qual:Str}{st:Stmt}{f:Addr}{oc:Value}{od an:Option Addr}{osl:Array (Option Value)}{dV kV doc pm cdv ct:Value}(l:K.lookup f=some ⟨oc,od,.func (PySem.W.fnOf x qual (yd st) (zC st) (zc st) dV kV doc pm an cdv ct),osl⟩)
  (c:PySem.W.codeIn K cdv qual=true) (k:PySem.W.keepIn K (.ref f)=true):zf2 K x qual st dV f (PySem.W.fnOf x qual (yd st) (zC st) (zc st) dV kV doc pm an cdv ct):=⟨⟨oc,od,kV,doc,pm,an,cdv,ct,osl,rfl,l,c⟩,k⟩
section
variable {P:Program}{w:World}{K:PySem.W.Frag}{mg:Str→Option Value}{base:Heap}
theorem zi3 {qual:Str}{st:Stmt}{f C:Addr}{dV:Value}{fd:FuncData}{N:List Str}{x:Str}{k:Nat}{φ:List A→(A→Prop)→Prop}{fl:Str}{e:Expr}{p1 p2 p3:Pos}(G:zf2 K "__init__" qual st dV f fd)(S:zi ("self"::x::N) ["self",x] (zc st))(c:Cls K C)(na:yF K C fl)
  (hb:zC st=[.Assign [.Attribute (.Name "self" p1) fl p2] e p3]) (hlen:∀as Q,φ as Q→as.length=1)
  (hbody:∀(cdv:Value) (A':Around) (outer:List Env) (s:Shared) (H:Hp) (E:XK) (as:List A) (Q:A→Prop),zR k (A'.deeper (envOfC qual (zc st) s.heap.objs.size f cdv))→φ as Q→
   EvL (wq CX0 P w K mg base ("self"::x::N) qual (zc st) f cdv A' outer s H E).nox (none::as.map some++List.replicate N.length none) e fun ds=>vM ds=true∧Q (.dat (vR C [(.str fl,.list ds)])))
  (hsw:∀(cdv:Value) (A':Around) (outer:List Env) (s:Shared) (H:Hp) (E:XK),swapsWith e (some (.Attribute (.Name "self" p1) fl p2)) p3.line (wq CX0 P w K mg base ("self"::x::N) qual (zc st) f cdv A' outer s H E).nox.env=pure false)
  (hv:Vis (zc st) "self"):zA P w K mg base CX0 (k+1) f fd ["self",x] (spI C φ):=by
 obtain⟨oc,od,kV,doc,pm,an,cdv,ct,osl,rfl,lk,hcd⟩:=G.ex
 refine eP lk hcd S (fun vs H Q E h=>?_) fun A' outer s H vs Qc E hr h=>?_
 ·obtain⟨F,as,Q',y,dx,vs',H1,rfl,_,_,_,_,_,_,_,rv,hφ,_⟩:=h
  rw[zr1,rv.length,hlen as _ hφ]
  rfl
 ·obtain⟨F,as,Q',y,dx,vs',H1,rfl,hy,hdx,hne,rfl,rfl,t,o,rv,hφ,kk⟩:=h
  have hl:=rv.length
  have hl1:=hlen as _ hφ
  rw[hb]
  refine⟨_,(show PSs _ _ _ from (zu (qR (X:=(wq CX0 P w K mg base ("self"::x::N) qual (zc st) f cdv A' outer s (upd (upd F.H0 dx (.own y)) y (.ins C dx [])) E).nox) (wC (i:=0) rfl hv) zg (hsw cdv A' outer s _ E))).nox),?_⟩
  let F2:Fr:=⟨F.H0,fun z=>F.O0 z∨z=y∨z=dx,F.tp⟩
  have s1:zw F.H0 (upd (upd F.H0 dx (.own y)) y (.ins C dx [])):=fun a u q=>by
   rw[zl (zm q hy),zl (zm q hdx)];exact q
  have noy:¬F.O0 y:=fun z=>by obtain⟨u,hu,_⟩:=o y z;rw[hy] at hu;cases hu
  have nodx:¬F.O0 dx:=fun z=>by obtain⟨u,hu,_⟩:=o dx z;rw[hdx] at hu;cases hu
  have t2:zH F2 (upd (upd F.H0 dx (.own y)) y (.ins C dx [])):=(t.same s1).to rfl fun _ z=>.inl z
  -- the names of the body
  have g:∀{i:Nat} {a:A},(none::as.map some++List.replicate N.length none:Ev)[i]?=some (some a)→∃j,i=j+1∧as[j]?=some a:=fun {i a} h=>by
   cases i with
   |zero=>simp at h
   |succ j=>
    refine⟨j,rfl,?_⟩
    have h':(as.map some++List.replicate N.length none:Ev)[j]?=some (some a):=by simpa using h
    rcases Nat.lt_or_ge j as.length with z|z
    ·rw[zr8 (by rw[zp2];exact z),zq7,zq3] at h'
     obtain⟨b,h1,h2⟩:=h'
     cases h2;exact h1
    ·rw[zs8 (by rw[zp2];exact z),zu4] at h'
     split at h'<;>cases h'
  have at':∀{vs:List V} {as:List A} {i:Nat} {a:A},zX F (sub (fun x=>¬F.O0 x) F.H0) vs as→as[i]?=some a→∃v,vs[i]?=some v∧jg F (sub (fun x=>¬F.O0 x) F.H0) v a:=by
   intro vs as i a h
   induction h generalizing i with
   |nil=>intro e;simp at e
   |cons h r ih=>
    intro e
    cases i with
    |zero=>simp at e;subst e;exact⟨_,rfl,h⟩
    |succ i=>obtain⟨v,h1,h2⟩:=ih (by simpa using e);exact⟨v,by simpa using h1,h2⟩
  have gv:∀{j:Nat} {v:V},vs'[j]?=some v→(L2.start ("self"::x::N) (.ref y::vs'))[j+1]?=some (some v):=fun {j v} h=>by
   have hj:j<vs'.length:=(zp5.mp h).1
   unfold L2.start
   rw[zr8 (by rw[zp2,zr1];omega),zq7,zz4,h];rfl
  have no:∀(i:Nat) a,(none::as.map some++List.replicate N.length none:Ev)[i]?=some (some a)→(∃d,a=.dat d)∨a=.tape:=fun i a z=>by
   obtain⟨j,_,hj⟩:=g z
   obtain⟨v,_,h⟩:=at' rv hj
   cases a with
   |dat d=>exact .inl ⟨d,rfl⟩
   |tape=>exact .inr rfl
   |_=>exact h.elim
  have gs:zw (sub (fun x=>¬F.O0 x) F.H0) (Gz F2 (none::as.map some++List.replicate N.length none) (L2.start ("self"::x::N) (.ref y::vs')) (upd (upd F.H0 dx (.own y)) y (.ins C dx []))):=fun a u q=>by
   obtain⟨z1,z2⟩:=zf q
   refine zJ ?_ (s1 _ _ z2)
   rintro ((z|z|z)|⟨i,b,s,e,_,f⟩)
   ·exact z1 z
   ·rw[z,hy] at z2;cases z2
   ·rw[z,hdx] at z2;cases z2
   ·rcases no i b e with ⟨d,rfl⟩|rfl
    ·exact f.elim
    ·exact f.elim
  have m2:M F2 (none::as.map some++List.replicate N.length none) (L2.start ("self"::x::N) (.ref y::vs')) (upd (upd F.H0 dx (.own y)) y (.ins C dx [])):=by
   refine⟨by unfold L2.start;simp[hl,hl1],fun i a s e1 e2=>?_,fun i j a b s t x e1 _ _ _ f=>?_,fun i r q z=>(by rcases no i _ z with ⟨d,w⟩|w<;>cases w),t2,fun z u h _=>s1 z u h,fun z hz=>?_⟩
   ·obtain⟨j,rfl,hj⟩:=g e1
    obtain⟨v,h1,h2⟩:=at' rv hj
    rw[gv h1] at e2;cases e2
    rcases no _ a e1 with ⟨d,rfl⟩|rfl
    ·exact⟨v,rfl,AV.same gs h2⟩
    ·obtain⟨t',b,c,h3,rfl⟩:=h2
     exact⟨t',b,c,h3,rfl⟩
   ·rcases no i a e1 with ⟨d,rfl⟩|rfl
    ·exact f.elim
    ·exact f.elim
   ·rcases hz with q|q|q
    ·obtain⟨u,hu,hn⟩:=o z q
     exact⟨u,s1 _ _ hu,hn⟩
    ·exact⟨_,by rw[q];exact zh,fun _ q=>by cases q⟩
    ·exact⟨_,by rw[q,zl hne];exact zh,fun _ q=>by cases q⟩
  refine hbody cdv A' outer s _ E as Q' hr hφ F2 _ _ _ m2 fun d v H2 qd t3 k3 r3=>?_
  obtain⟨l,xs,rfl,hl0,hl2,avl⟩:=r3
  obtain⟨nol,qd⟩:=qd
  have nly:l≠y:=fun z=>by rw[z,zh] at hl0;cases hl0
  have nldx:l≠dx:=fun z=>by rw[z,zl hne,zh] at hl0;cases hl0
  have hl00:F.H0 l=none:=by rw[zl nly,zl nldx] at hl0;exact hl0
  have nol0:¬F.O0 l:=fun z=>by obtain⟨u,hu,_⟩:=o l z;rw[hl00] at hu;cases hu
  have nty:NT F2 y:=t.nt noy
  have hy2:H2 y=some (.ins C dx []):=k3 _ _ zh nty
  refine⟨.ref y,rfl,y,C,dx,[],rfl,hy2,c,na,by show 0<1000;decide,?_⟩
  refine kk _ _ qd ⟨(t.re t3 rfl).updO noy (ik hy2),fun z u h n=>?_,?_⟩
  ·rw[zl (zm h hy)]
   exact k3 _ _ (s1 _ _ h) n
  ·refine AV.ins (zJ ⟨noy,fun xs z=>by rw[hy] at z;cases z⟩ zh) (.cons (.lst (zJ ⟨nol0,fun xs z=>by rw[hl00] at z;cases z⟩ (by rw[zl nly];exact hl2)) ?_) .nil)
   refine avl.noL (fun a u hno z=>?_) nol
   obtain⟨z1,z2⟩:=zf z
   have na:a≠y:=fun w=>z1.1 (.inl (.inr (.inl w)))
   refine zJ ⟨fun w=>z1.1 (.inl (.inl w)),fun xs w=>?_⟩ (by rw[zl na];exact z2)
   have:H2 a=some (.lst xs):=k3 _ _ (s1 _ _ w) (t.nt fun w=>z1.1 (.inl (.inl w)))
   rw[z2] at this
   cases this
   exact hno trivial
end
section
variable {X:Cx}{α:Ev}{e e':Expr}{pos:Pos}{E:yE}{sts:List Stmt}
end
def Itv (K:PySem.W.Frag)(a:Addr)(n:Nat):It:=
 ⟨fun i H=>∃xs x,SqL K H a xs∧xs.length=n∧i<n∧xs[n-1-i]?=some x,fun i H x H'=>H'=H∧∀xs,SqL K H a xs→xs[n-1-i]?=some x,fun i H=>n≤i⟩
theorem gy {P:Program}{w:World}{K:PySem.W.Frag}{tg:Expr}(a it:Addr)(n:Nat):Turn P w K tg (Itv K a n) [it] it (fun i h=>i≤n∧h.IsRevIter it a ((n:Int)-1-(i:Int))) where
 mem:=by simp
 obj:=fun i h st b hb=>by
  have e:b=it:=by simpa using hb
  subst e
  obtain⟨_,o,e,c,d⟩:=st
  exact⟨o,e,fun v z=>by rw[d] at z;cases z⟩
 keep:=fun i h h' st k=>⟨st.1,st.2.at fun o e=>k it (by simp) o e⟩
 item:=by
  intro X hP hw hK hc i pins s σ H E I hf st hg
  subst hP hw hK
  obtain⟨xs,x,hq,hl,hi,hx⟩:=hg
  obtain⟨its,rv,p,hz⟩:=I.list hq
  obtain⟨u,hu,ru⟩:=rv.get hx
  obtain⟨f0,f1,f2,f3,f4,f5⟩:=hf it (by simp)
  have e1:((n:Int)-1-(i:Int))=((n-1-i:Nat):Int):=by omega
  have st':=st.2
  rw[e1] at st'
  refine wpAny_pyNext_rev_item st' p.isList (x:=u) (by simpa using hu) fun h' st2 sb=>?_
  have I1:Inv X pins σ H {s with heap:=h'}:=I.turned (t':=s.toks) (fun b o hb e=>(sb.2 b hb).trans e) f0 f1 f3 f4 f5
  obtain⟨o,e,c,d⟩:=id st2
  have e2:(((n-1-i:Nat):Int)-1)=(n:Int)-1-((i+1:Nat):Int):=by omega
  rw[e2] at st2
  exact⟨u,rfl,ku (s:={s with heap:=h'}) e c d (by decide) ⟨x,H,I1,ru,⟨rfl,fun ys hy=>by rw[I.list_inj hy hq];exact hx⟩,⟨hi,st2⟩,fun b hb=>(hf b hb).1⟩⟩
 done:=by
  intro X hP hw hK hc i pins s σ H E I hf st hg
  subst hP hw hK
  have hi:i=n:=Nat.le_antisymm st.1 hg
  obtain⟨f0,f1,f2,f3,f4,f5⟩:=hf it (by simp)
  have st':=st.2
  rw[show ((n:Int)-1-(i:Int))=-1 by omega] at st'
  exact wpAny_pyNext_rev_end (I.ok.hd hc) st' fun h' eb=>⟨rfl,I.turned (t':=s.toks) (fun b o hb e=>eb b o hb e) f0 f1 f3 f4 f5⟩
 self:=fun A i s Q E st h=>wpAny_pyIter_revIter st.2 h
section
variable {X:Cx}{α:Ev}{tg:Expr}{p pos:Pos}{a:Expr}
def zo6 (K:PySem.W.Frag)(ta:TA):TI:=fun σ H R=>ta σ H fun vs H1=>∃l xs,vs=[.ref l]∧SqL K H1 l xs∧R (Itv K l xs.length) H1
theorem za6 {ta:TA}(hg:Gl X "reversed")(hm:X.mg "reversed"=none)(ha:PA X [a] ta)(hs:starEach [a] X.env=[(false,eval a X.env)]:=by rfl):PI X tg (.Call (.Name "reversed" p) [a] [] pos) (zo6 X.K ta):=by
 intro pins s σ H R I h
 refine Call_ (vk I hg hm boot_reversed (zu3 (thn (ha pos pins s σ H _ I h) fun us s1 ⟨vs,H1,I1,r1,q1⟩=>?_) hs rfl))
 obtain⟨l1,xs,e,hq1,q⟩:=q1
 subst e
 obtain⟨u,rfl,ru⟩:=Vals.one r1
 cases (show u=Value.ref l1 from ru)
 obtain⟨its1,rv1,p1,hz1⟩:=I1.list hq1
 have hlen:=rv1.length
 refine call_reversed_list p1.isList ?_
 have it0:({s1 with heap:=s1.heap.push (revObj l1 ((its1.toArray.size:Int)-1))}:Shared).heap.IsRevIter s1.heap.objs.size l1 ((xs.length:Int)-1-((0:Nat):Int)):=by
  refine⟨_,zr7 _ rfl,rfl,?_⟩
  show Data.fields _=_
  rw[zq6,hlen]
  simp
 refine wpAny_pyIter_revIter it0 ?_
 refine⟨_,_,_,_,H1,rfl,I1.kept (t':=s1.toks) fun b o e=>zp6 _ e,gy l1 _ xs.length,⟨zr9 _,it0⟩,fun b hb=>?_,q⟩
 have e:b=s1.heap.objs.size:=by simpa using hb
 subst e
 exact I1.fpOk (zp8 _) (I1.hok.fresh (zp8 _))
theorem aS {Q:List PyData→Prop}(hg:Gl X "reversed")(hm:X.mg "reversed"=none)(h:EvD X α a fun x=>∃ds,x=.list ds∧Q ds.reverse)(hs:starEach [a] X.env=[(false,eval a X.env)]:=by rfl):
  EvI X α tg (.Call (.Name "reversed" p) [a] [] pos) Q:=fun F σ H R m k=>by
 refine⟨_,za6 hg hm (zd zg zp hs) hs,?_⟩
 refine h F σ H _ m fun x vx H1 q1 t1 k1 r1=>?_
 obtain⟨ds,rfl,q⟩:=q1
 obtain⟨l1,xs,rfl,g1,g2⟩:=r1.lst_inv
 refine⟨l1,xs,rfl,SqL.of (zf g1).2,k _ _ H1 q t1 k1 fun i H3 p s=>⟨fun d hd=>?_,fun hl=>?_⟩⟩
 ·have s1:=SqL.of (K:=X.K) (zf (s _ _ g1)).2
  have hi:i<ds.length:=by
   have:=(zp5.mp hd).1
   rwa [zy8] at this
  rw[List.getElem?_reverse hi] at hd
  obtain⟨x1,hx1,av1⟩:=g2.get hd
  rw[←g2.length] at hx1
  refine⟨⟨xs,x1,s1,rfl,by rw[g2.length];exact hi,hx1⟩,fun v H4 y=>?_⟩
  obtain⟨rfl,hy⟩:=y
  have:=hy _ s1
  rw[hx1] at this;cases this
  exact⟨zw.refl _,fun _=>av1.same s⟩
 ·rw[zy8,←g2.length] at hl
  exact hl
end
def EnS (w:World):List DictEntry→List (Str×V)→Prop:=Paired fun e p=>e.hash=hashStr w p.1∧(∃t,e.key=.str p.1 t)∧RelV p.2 e.val
def kL (K:PySem.W.Frag)(w:World)(d:Addr)(tb:List (Str×V)):Prop:=
 ∃es n,K.lookup d=some ⟨.type "dict",none,.dict es n,#[]⟩∧EnS w es.toList tb∧(tb.map (·.1)).Nodup
theorem rV {P:Program}{w:World}:∀{es:List DictEntry} {tb:List (Str×V)},EnS w es tb→Pairs (PySem.strKind P w) es (List.zipWith (fun e (p:Str×V)=>(p.1,e.val)) es tb)
 |_,_,.nil=>.nil
 |e::_,p::_,.cons ⟨_,⟨t,ek⟩,_⟩ r=>.cons (by rw[ek];simp[PySem.strKind,Value.isStrOf]) rfl (rV r)
theorem lX {w:World}:∀{es:List DictEntry} {tb:List (Str×V)},EnS w es tb→(List.zipWith (fun e (p:Str×V)=>(p.1,e.val)) es tb).map (·.1)=tb.map (·.1)
 |_,_,.nil=>rfl
 |_,_,.cons _ r=>by simp only[List.zipWith_cons_cons,zs1,lX r]
theorem oQ {P:Program}{w:World}:∀{es:List DictEntry} {tb:List (Str×V)},EnS w es tb→∀e∈es,∃k,(PySem.strKind P w).is k e.key=true∧e.hash=(PySem.strKind P w).hash k
 |_,_,.nil,e,he=>by simp at he
 |_,_,.cons (b:=p) ⟨h1,⟨t,ek⟩,_⟩ r,e,he=>by
  rcases zp7.mp he with rfl|he
  ·exact⟨p.1,by rw[ek];simp[PySem.strKind,Value.isStrOf],h1⟩
  ·exact oQ r e he
theorem kO {w:World}{x:Str}{v:V}:∀{es:List DictEntry} {tb:List (Str×V)},EnS w es tb→tb.lookup x=some v→∃u,valueAt (List.zipWith (fun e (p:Str×V)=>(p.1,e.val)) es tb) x=some u∧RelV v u
 |_,_,.nil,e=>by simp at e
 |e::es,p::tb,.cons ⟨_,_,rv⟩ r,h=>by
  obtain⟨y,z⟩:=p
  by_cases q:x=y
  ·subst q
   simp only[List.lookup_cons_self,Option.some.injEq] at h
   subst h
   exact⟨e.val,by simp[valueAt],rv⟩
  ·rw[zu5,zv2.mpr q] at h
   obtain⟨u,h1,h2⟩:=kO r h
   refine⟨u,?_,h2⟩
   rw[←h1]
   simp[valueAt,zu2,zx0 q]
section
variable {X:Cx}{α:Ev}{p pos:Pos}{a:Expr}{g:Str}{Q:PyData→Prop}
def zd4 (i:Expr):Prop:=∀ov iv,subscripted i false ov iv=operate [ov,iv] (getItem ov iv)
theorem zl9 {prog:Program}{w:World}{A:Around}{E:Value→Shared→Prop}{s:Shared}{env:Env}{value slice:Expr}{pos:Pos}{T id:String}{Q:Value→Shared→Prop}
  (hl:typeLookup (.type T) "__getitem__"=pure (some (.builtin id))) (hs:zd4 slice)
  (h:wpAny (model prog w) A (eval value env) (fun o s₁=>wpAny (model prog w) A (eval slice env) (fun i s₂=>s₂.TypeIs o T∧wpAny (model prog w) A (getItem o i) Q E s₂) E s₁) E s):
  wpAny (model prog w) A (eval (.Subscript value slice pos) env) Q E s:=by
 refine Subscript_ (thn h fun o s₁ h₁=>thn h₁ fun i s₂ h₂=>?_)
 obtain⟨hT,h₂⟩:=h₂
 unfold subscriptTail
 refine zp3 ?_
 rw[getitemInPython_of_ne hT.not_modules]
 refine zp3 (wpAny_specialOf hT hl ?_)
 have fin:wpAny (model prog w) A (subscripted slice false o i) (fun r s₃=>wpAny (model prog w) A (letTemporaryGo value o r >>= fun _=>pure r) Q E s₃) E s₂:=by
  rw[hs o i]
  exact wpAny_operating (thn h₂ fun r s₃ h₃=>zp3 (wpAny_letTemporaryGo (zq9 h₃)))
 first
  |exact zq9 (zp3 fin)
  |exact zp3 (zq9 (zp3 fin))
  |exact zp3 fin
theorem et {d:Addr}{tb:List (Str×V)}{ty:TE}(hg:Gl X g)(hm:X.mg g=some (.ref d))(hd:kL X.K X.w d tb)(hi:PE X a ty)(hs:zd4 a)(hb:(g == ("__debug__":Str))=false:=by decide):
  PE X (.Subscript (.Name g p) a pos) (fun σ H Q=>ty σ H fun y H1=>∃x v,y=.str x∧tb.lookup x=some v∧Q v H1):=by
 intro pins s σ H Q I h
 refine zl9 PySem.F.slot_dict_getitem.lookup hs (xX I hg hm (thn (hi pins s σ H _ I h) fun iv s2 ⟨y,H2,I2,ry,x,v,ey,ex,q2⟩=>?_) hb)
 subst ey
 obtain⟨t,rfl⟩:=ry
 obtain⟨es,n,hl,he,hn⟩:=hd
 have dd:s2.heap.DictOf (PySem.strKind X.prog X.w) d (List.zipWith (fun e (p:Str×V)=>(p.1,e.val)) es.toList tb):=
  ⟨_,es,n,I2.kIn _ _ hl,⟨rfl,rfl,rfl⟩,rfl,fun e he'=>oQ he e (by simpa using he'),rV he,by rw[lX he];exact hn⟩
 obtain⟨u,h1,h2⟩:=kO he ex
 exact⟨dd.typeIs,wpAny_getItem_of (show (PySem.strKind X.prog X.w).is x (.str x t)=true by simp[PySem.strKind,Value.isStrOf]) dd.mapOf h1 ⟨v,H2,I2.tok _,h2,q2⟩⟩
def scV :PyData→Option V
 |.none=>some .non
 |.bool b=>some (.bl b)
 |.int i=>some (.int i)
 |.str x=>some (.str x)
 |_=>Option.none
theorem gB {H:Hp}{d:PyData}{v:V}(h:scV d=some v):AV H v d:=by
 cases d<;>simp[scV] at h<;>subst h<;>constructor
theorem de {d:Addr}{tb:List (Str×V)}(hg:Gl X g)(hm:X.mg g=some (.ref d))(hd:kL X.K X.w d tb)(h:EvD X α a fun y=>∃x d v,y=.str x∧tb.lookup x=some v∧scV d=some v∧Q d)(hs:zd4 a:=by exact fun _ _=>rfl)
  (hb:(g == ("__debug__":Str))=false:=by decide):EvD X α (.Subscript (.Name g p) a pos) Q:=fun F σ H R m k=>by
 refine⟨_,et hg hm hd zg hs hb,?_⟩
 refine h F σ H _ m fun y vy H1 q1 t1 k1 r1=>?_
 obtain⟨x,d',v,rfl,h1,h2,q⟩:=q1
 cases r1.str_inv
 exact⟨x,v,rfl,h1,k _ _ H1 q t1 k1 (gB h2)⟩
end
section
variable {X:Cx}{α:Ev}{p pos:Pos}{a b:Expr}{g:Str}{Q:PyData→Prop}
def uR :List (PyData×PyData)→Str→Option PyData
 |[],_=>none
 |(.str y,d)::r,x=>if y=x then some d else uR r x
 |_::r,x=>uR r x
theorem dA (h0:Heap){v:V}{d:PyData}{u:Value}(h:scV d=some v)(f:PyProof.V.Flat u d):RelV v u:=by
 have r:=f h0
 cases d with
 |none=>cases h;cases r;rfl
 |bool b=>cases h;cases r;rfl
 |int i=>cases h;cases r;exact⟨_,rfl⟩
 |str x=>cases h;cases r;exact⟨_,rfl⟩
 |_=>cases h
def vh :PyData→Bool
 |.none=>true
 |.bool _=>true
 |.int _=>true
 |.str _=>true
 |_=>false
theorem qU {H:Hp}{v:V}{d:PyData}(h:AV H v d)(f:vh d=true):vJ v=true∧scV d=some v:=by
 cases h<;>first|exact⟨rfl,rfl⟩|cases f
theorem sR {H:Hp}:∀{xs:List V} {ds:List PyData},AVs H xs ds→ds.all vh=true→xs.all vJ=true∧ds.map scV=xs.map some
 |_,_,.nil,_=>⟨rfl,rfl⟩
 |_,_,.cons h r,f=>by
  rw[zB2,zq8] at f
  obtain⟨h1,h2⟩:=qU h f.1
  obtain⟨h3,h4⟩:=sR r f.2
  exact⟨by rw[zB2,h1,h3];rfl,by rw[zs1,zs1,h2,h4]⟩
def inD (x:PyData)(ds:List PyData):Bool:=ds.any fun y=>match scV y,scV x with
 |some u,some v=>eqV u v
 |_,_=>false
theorem pA {v:V}{x:PyData}(hx:scV x=some v):∀{xs:List V} {ds:List PyData},ds.map scV=xs.map some→inV v xs=inD x ds
 |[],[],_=>rfl
 |[],_::_,e=>by cases e
 |_::_,[],e=>by cases e
 |u::xs,d::ds,e=>by
  rw[zs1,zs1] at e
  injection e with e1 e2
  have ih:=pA hx e2
  unfold inV inD at ih ⊢
  rw[zv0,zv0,ih,e1,hx]
theorem ma {neg:Bool}{x:PyData}{ds:List PyData}(fx:vh x=true)(fs:ds.all vh=true):Cmp (rIn X.K neg) x (.list ds) (if neg then !inD x ds else inD x ds):=fun p H vx vy R rx ry h=>by
 obtain⟨ad,xs,rfl,g1,g2⟩:=ry.lst_inv
 obtain⟨f1,s1⟩:=qU rx fx
 obtain⟨f2,s2⟩:=sR g2 fs
 refine⟨ad,xs,rfl,.inl (SqL.of (zf g1).2),f1,f2,?_⟩
 rw[pA s1 s2]
 exact h
theorem cp {neg:Bool}{x:PyData}{ds:List PyData}(fx:vh x=true)(fs:ds.all vh=true):Cmp (rIn X.K neg) x (.tuple ds) (if neg then !inD x ds else inD x ds):=fun p H vx vy R rx ry h=>by
 obtain⟨ad,xs,rfl,g1,g2⟩:=ry.tup_inv
 obtain⟨f1,s1⟩:=qU rx fx
 obtain⟨f2,s2⟩:=sR g2 fs
 refine⟨ad,xs,rfl,.inr (SqT.of (zf g1).2),f1,f2,?_⟩
 rw[pA s1 s2]
 exact h
theorem aE {Q:Bool→Prop}(h:EvD X α a fun x=>EvD X α b fun y=>∃ds,(y=.list ds∨y=.tuple ds)∧vh x=true∧ds.all vh=true∧Q (inD x ds))(hm:behindInMarks .In b=false:=by rfl):EvT X α (.Compare a [.In] [b] pos) Q:=
 wa qv hm (h.imp fun x h=>h.imp fun y ⟨ds,e,f1,f2,q⟩=>⟨inD x ds,by rcases e with rfl|rfl;exact ma (neg:=false) f1 f2;exact cp (neg:=false) f1 f2,q⟩)
end
section
variable {X:Cx}{α:Ev}{p pos:Pos}{a b:Expr}{Q:PyData→Prop}
end
section
variable {X:Cx}{α:Ev}{a e:Expr}{pos p2 p3 p4:Pos}{n1:Nat}{te:TE}
theorem cO {b c:Expr}{i j k:Int}{Q:Bool→Prop}(hm:lastMarks [.LtE,.LtE] [b,c]=false)(ha:∀Q:PyData→Prop,Q (.int i)→EvD X α a Q)(hb:∀Q:PyData→Prop,Q (.int j)→EvD X α b Q)(hc:∀Q:PyData→Prop,Q (.int k)→EvD X α c Q)(h:Q (decide (i≤j)&&decide (j≤k))):
  EvT X α (.Compare a [.LtE,.LtE] [b,c] pos) Q:=ib uV uV hm ha hb hc h
end
section
variable {X:Cx}{pins:List (Addr×Obj)}{σ:St}{H:Hp}{s:Shared}
end
section
variable {X:Cx}{α:Ev}{p q pos:Pos}{a b:Expr}
theorem sx {G:Hp}:∀ns:List Int,AVs G (ns.map V.int) (ns.map .int)
 |[]=>.nil
 |n::ns=>.cons (.int n) (sx ns)
theorem eB {Q:List PyData→Prop}(hc:X.calm=true)(hg:Gl X "list")(hm:X.mg "list"=none)(hg2:Gl X "range")(hm2:X.mg "range"=none)(h:EvD X α a fun x=>EvD X α b fun y=>∃i j,x=.int i∧y=.int j∧(-(2 ^ 62)≤i∧i<2 ^ 62∧-(2 ^ 62)≤j∧j<2 ^ 62)∧(j-i).toNat≤1000∧Q ((zY i (j-i).toNat).map .int))
  (he:starEach [.Call (.Name "range" q) [a,b] [] p] X.env=(false,eval (.Call (.Name "range" q) [a,b] [] p) X.env)::starEach [] X.env:=by rfl) (he2:starEach [a,b] X.env=(false,eval a X.env)::starEach [b] X.env:=by rfl) (he3:starEach [b] X.env=(false,eval b X.env)::starEach [] X.env:=by rfl)
  (hpl:(backTo p (starEach [b] X.env)).any (·.1)=false:=by rfl) {p0:Pos}:EvL X α (.Call (.Name "list" p0) [.Call (.Name "range" q) [a,b] [] p] [] pos) Q:=fun F σ H R m k=>by
 refine⟨_,vp (rA hc) hg hm boot_list (zd (vp nu hg2 hm2 boot_range (zd zg (zd zg zp he3) he2) (he:=he2) (hpl:=hpl)) zp he) (he:=he),?_⟩
 refine h F σ H _ m fun x vx H1 q1 t1 k1 r1=>?_
 have m1:=m.kz k1 t1
 refine q1 F σ H1 _ m1 fun y vy H2 q2 t2 k2 r2=>?_
 have m2:=m1.kz k2 t2
 obtain⟨i,j,rfl,rfl,⟨b1,b2,b3,b4⟩,hz,q⟩:=q2
 cases r1.int_inv;cases r2.int_inv
 refine⟨i,j,rfl,fun r hr=>?_⟩
 refine⟨r,i,j,rfl,zh,⟨b1,b2,b3,b4⟩,zv3 (yP hz),by omega,fun l hl=>?_⟩
 have nlr:l≠r:=fun z=>by rw[z,zh] at hl;cases hl
 have hl':H2 l=none:=by rw[zl nlr] at hl;exact hl
 have kk:=k1.trans k2
 have s1:zw H2 (upd (upd H2 r (.rng i j)) l (.lst ((zY i (j-i).toNat).map V.int))):=(zM hr).trans (zM hl)
 refine k _ _ _ q (t2.same s1) (kk.trans (Kz.of_same s1)) ⟨l,_,rfl,?_,zh,sx _⟩
 cases z:H l with
 |none=>rfl
 |some o=>rw[kk l o z (m.tp.nt (ow0 (m2.fresh hl')))] at hl';cases hl'
end
section
variable {X:Cx}{α:Ev}{p pos:Pos}{a b:Expr}{Q:PyData→Prop}
end
open PySem.W SortA
section
variable {P:Program}{w:World}{K:PySem.W.Frag}{mg:Str→Option Value}{base:Heap}
end
section
variable {X:Cx}{α:Ev}{Q:PyData→Prop}{a b:Expr}{pos:Pos}
end
open PySem (IsZip)
section
variable {prog:Program}{w:World}{A:Around}{E:Value→Shared→Prop}{s:Shared}
abbrev z3 (n:Nat):List Addr:=[(n:Nat),(n+1:Nat),(n+2:Nat),(n+3:Nat),(n+4:Nat),(n+5:Nat)]
end
section
variable {X:Cx}{pins:List (Addr×Obj)}{σ:St}{H:Hp}{s:Shared}
end
section
variable {prog:Program}{w:World}{A:Around}{E:Value→Shared→Prop}{s:Shared}
end
section
variable {X:Cx}{pins:List (Addr×Obj)}{σ:St}{H:Hp}{s:Shared}
end
section
variable {X:Cx}{pins:List (Addr×Obj)}{σ:St}{H:Hp}{s:Shared}
variable {a b c:Expr}{p p0 pos pos2:Pos}
end
section
variable {X:Cx}{α:Ev}{a b c:Expr}{p p0 pos pos2:Pos}
end
section
variable {κ:Type}[DecidableEq κ]
def xj (kvs:List (κ×V))(k:κ):Option V:=(kvs.find? fun kv=>decide (kv.1=k)).map (·.2)
def putK (kvs:List (κ×V))(k:κ)(v:V):List (κ×V):=
 if (kvs.any fun kv=>decide (kv.1=k))=true then kvs.map (fun kv=>if kv.1=k then (kv.1,v) else kv) else kvs++[(k,v)]
theorem ye {p:κ×V}{r:List (κ×V)}{k:κ}(e:p.1=k):xj (p::r) k=some p.2:=by simp[xj,zu2,e]
theorem yg {p:κ×V}{r:List (κ×V)}{k:κ}(e:¬p.1=k):xj (p::r) k=xj r k:=by simp[xj,zu2,e]
theorem uu (k:κ):∀kvs:List (κ×V),(kvs.any fun kv=>decide (kv.1=k))=(xj kvs k).isSome
 |[]=>rfl
 |p::r=>by
  rw[zv0]
  by_cases e:p.1=k
  ·simp only[ye e,zt5 e,zA4,Option.isSome_some]
  ·rw[yg e,zs9 e,zz8];exact uu k r
theorem nq (k j:κ)(y:V):∀kvs:List (κ×V),xj (kvs.map fun kv=>if kv.1=k then (kv.1,y) else kv) j=(xj kvs j).map fun x=>if j=k then y else x
 |[]=>rfl
 |p::r=>by
  have ih:=nq k j y r
  rw[zs1]
  by_cases h:p.1=k
  ·rw[if_pos h]
   by_cases e:p.1=j
   ·rw[ye (p:=(p.1,y)) e,ye e,zA5,if_pos (e.symm.trans h)]
   ·rw[yg (p:=(p.1,y)) e,yg e,ih]
  ·rw[if_neg h]
   by_cases e:p.1=j
   ·rw[ye (p:=p) e,ye e,zA5,if_neg (fun z=>h (e.trans z))]
   ·rw[yg (p:=p) e,yg e,ih]
theorem qg (k j:κ)(y:V):∀kvs:List (κ×V),xj kvs k=none→xj (kvs++[(k,y)]) j=if j=k then some y else xj kvs j
 |[],_=>by
  by_cases e:k=j
  ·rw[if_pos e.symm];exact ye (p:=(k,y)) e
  ·rw[if_neg (fun z=>e z.symm)];exact yg (p:=(k,y)) e
 |p::r,hn=>by
  rw[List.cons_append]
  have hk:¬p.1=k:=fun z=>by rw[ye z] at hn;cases hn
  rw[yg hk] at hn
  have ih:=qg k j y r hn
  by_cases e:p.1=j
  ·rw[ye e,ye e,if_neg (fun z=>hk (e.trans z))]
  ·rw[yg e,yg e,ih]
theorem hJ (kvs:List (κ×V))(k j:κ)(y:V):xj (putK kvs k y) j=if j=k then some y else xj kvs j:=by
 unfold putK
 by_cases a:(kvs.any fun kv=>decide (kv.1=k))=true
 ·rw[if_pos a,nq]
  rw[uu] at a
  by_cases e:j=k
  ·obtain⟨x,hx⟩:=Option.isSome_iff_exists.mp a
   rw[if_pos e,e,hx,zA5,if_pos rfl]
  ·rw[if_neg e]
   cases xj kvs j with
   |none=>rfl
   |some x=>rw[zA5,if_neg e]
 ·rw[if_neg a]
  refine qg k j y kvs ?_
  rw[uu] at a
  cases q:xj kvs k with
  |none=>rfl
  |some x=>rw[q] at a;exact (a rfl).elim
theorem oJ (kvs:List (κ×V))(k:κ)(v:V):(putK kvs k v).length≤kvs.length+1:=by
 unfold putK
 split
 ·rw[zp2];omega
 ·rw[zq4,zr1,List.length_nil];omega
theorem vF.isSome_eq {o:Option V}{u:Option Value}(r:vF o u):o.isSome=u.isSome:=by
 cases o with
 |none=>cases u with
  |none=>rfl
  |some _=>exact (show False from r).elim
 |some _=>cases u with
  |none=>exact (show False from r).elim
  |some _=>rfl
theorem KV.val {kvs:List (κ×V)}{vs:List (κ×Value)}(r:KV kvs vs)(k:κ):vF (xj kvs k) (valueAt vs k):=by
 unfold KV at r
 induction r with
 |nil=>exact True.intro
 |@cons p q ps qs h t ih=>
  obtain⟨h1,h2⟩:=h
  by_cases e:p.1=k
  ·have e':q.1=k:=h1.symm.trans e
   have b:valueAt (q::qs) k=some q.2:=by simp[valueAt,zu2,e']
   rw[ye e,b];exact h2
  ·have e':¬q.1=k:=fun z=>e (h1.trans z)
   have b:valueAt (q::qs) k=valueAt qs k:=by simp[valueAt,zu2,e']
   rw[yg e,b];exact ih
end
theorem lK {P:Program}{w:World}{k:Key}{u:Value}(r:RelV (kV k) u):(yB P w).is k u=true:=by
 cases k with
 |inl i=>obtain⟨t,e⟩:=(show ∃t,u=Value.int i t from r);subst e;exact oh P w i t
 |inr x=>obtain⟨t,e⟩:=(show ∃t,u=Value.str x t from r);subst e;exact oA P w x t
theorem rO {P:Program}{w:World}:∀{ks:List Key} {us:List Value},Vals (ks.map kV) us→ItemsAre (yB P w) ks us
 |[],_,r=>by rw[List.map_nil] at r;cases r;exact .nil
 |k::ks,_,r=>by
  rw[zs1] at r
  cases r with
  |cons h t=>exact .cons (lK h) (rO t)
abbrev KT (H:Hp):List (List Key×V)→List (List Key×Addr×Value)→Prop:=Paired fun p q=>p.1=q.1∧H q.2.1=some (.tup (p.1.map kV))∧RelV p.2 q.2.2
theorem KT.val {H:Hp}{kvs:List (List Key×V)}{xs:List (List Key×Addr×Value)}(r:KT H kvs xs)(k:List Key):vF (xj kvs k) ((atKey xs k).map (·.2)):=by
 induction r with
 |nil=>exact True.intro
 |@cons p q ps qs h t ih=>
  obtain⟨h1,_,h2⟩:=h
  by_cases e:p.1=k
  ·have e':q.1=k:=h1.symm.trans e
   have b:atKey (q::qs) k=some q.2:=by simp[atKey,zu2,e']
   rw[ye e,b];exact h2
  ·have e':¬q.1=k:=fun z=>e (h1.trans z)
   have b:atKey (q::qs) k=atKey qs k:=by simp[atKey,zu2,e']
   rw[yg e,b];exact ih
theorem KT.repl {H:Hp}{kvs:List (List Key×V)}{xs:List (List Key×Addr×Value)}(r:KT H kvs xs)(k:List Key){y:V}{u:Value}(ry:RelV y u):
  KT H (kvs.map fun kv=>if kv.1=k then (kv.1,y) else kv) (xs.map (putAt k u)):=by
 induction r with
 |nil=>exact .nil
 |@cons p q ps qs h t ih=>
  rw[zs1,zs1]
  refine .cons ?_ ih
  obtain⟨h1,h2,h3⟩:=h
  unfold putAt
  by_cases e:p.1=k
  ·rw[if_pos e,if_pos (h1.symm.trans e)];exact⟨h1,h2,ry⟩
  ·rw[if_neg e,if_neg (fun z=>e (h1.trans z))];exact⟨h1,h2,h3⟩
theorem KT.put {H:Hp}{kvs:List (List Key×V)}{xs:List (List Key×Addr×Value)}(r:KT H kvs xs)(k:List Key){b:Addr}{y:V}{u:Value}(hb:H b=some (.tup (k.map kV)))(ry:RelV y u):
  KT H (putK kvs k y) (storedH xs k b u):=by
 have e:(kvs.any fun kv=>decide (kv.1=k))=(atKey xs k).isSome:=by
  rw[uu,(r.val k).isSome_eq,Option.isSome_map]
 unfold putK storedH
 rw[e]
 by_cases q:(atKey xs k).isSome=true
 ·rw[if_pos q,if_pos q];exact r.repl k ry
 ·rw[if_neg q,if_neg q];exact Paired.snoc r ⟨rfl,hb,ry⟩
theorem KT.keeps {H H':Hp}{kvs:List (List Key×V)}{xs:List (List Key×Addr×Value)}(r:KT H kvs xs)(ht:∀b ys,H b=some (.tup ys)→H' b=some (.tup ys)):KT H' kvs xs:=
 Paired.mapP r fun _ _ z=>⟨z.1,ht _ _ z.2.1,z.2.2⟩
section
variable {P:Program}{w:World}{H:Hp}{h:Heap}{a:Addr}
theorem ag {u:HO}(ok:HOk P w H h)(e:Rd H a u):yc P w H h a u:=e.ok ok
theorem kr {kvs:List (Key×V)}(ok:HOk P w H h)(e:Rd H a (.dK kvs)):kvs.length≤sizeLine∧(a == sysModules)=false∧∃vs,KV kvs vs∧h.DictOf (yB P w) a vs:=
 show yc P w H h a (.dK kvs) from ag ok e
theorem tZ {ks:List Key}(ok:HOk P w H h)(e:H a=some (.tup (ks.map kV))):(tupleKind (yB P w)).is h ks a:=by
 obtain⟨_,its,r,o,h1,h2,n,h3⟩:=(show yc P w H h a (.tup (ks.map kV)) from ok a _ e)
 exact⟨o,its.toArray,n,h1,h2,h3,by simpa using rO r⟩
theorem lS {kvs:List (List Key×V)}(ok:HOk P w H h)(e:Rd H a (.dT kvs)):kvs.length≤sizeLine∧(a == sysModules)=false∧
  ∃xs,KT H kvs xs∧h.DictOfH (tupleKind (yB P w)) a xs:=by
 obtain⟨z,y,xs,r,o,es,ep,h1,h2,h3,h4,h5⟩:=(show yc P w H h a (.dT kvs) from ag ok e)
 refine⟨z,y,xs,r,o,es,ep,h1,h2,h3,h4,fun x hx=>?_,h5⟩
 have all:∀{l:List (List Key×V)} {m:List (List Key×Addr×Value)},KT H l m→∀x∈m,(tupleKind (yB P w)).is h x.1 x.2.1:=by
  intro l m q
  induction q with
  |nil=>intro x hx;exact nomatch hx
  |@cons p q ps qs hq t ih=>
   intro x hx
   rcases zp7.mp hx with e|hx
   ·subst e
    exact tZ ok (by rw[←hq.1];exact hq.2.1)
   ·exact ih x hx
 exact all r x hx
end
def mP (H:Hp)(a:Addr)(y:V)(r:Option V):Prop:=
 (∃kvs k,Rd H a (.dK kvs)∧y=kV k∧r=xj kvs k)∨∃kvs k b,Rd H a (.dT kvs)∧y=.ref b∧H b=some (.tup (k.map kV))∧r=xj kvs k
section
variable {X:Cx}{pins:List (Addr×Obj)}{σ:St}{H:Hp}{s:Shared}{a:Addr}{y v:V}{u r:Value}{o:Option V}{A:Around}{E:Value→Shared→Prop}
theorem Inv.big (I:Inv X pins σ H s):sysModules<s.heap.objs.size:=by
 have h:mainGlobals<s.heap.objs.size:=(I.mod.glob.keeps I.bk).lt
 exact Nat.lt_trans (by decide) h
theorem jC {Q:Value→Shared→Prop}(hu:A.units+1<cLine)(I:Inv X pins σ H s)(g:mP H a y (some v))(ry:RelV y u)(h:∀w' s',Inv X pins σ H s'→RelV v w'→Q w' s'):
  wpAny (model X.prog X.w) A (getItem (.ref a) u) Q E s:=by
 rcases g with ⟨kvs,k,e,ey,l⟩|⟨kvs,k,b,e,ey,eb,l⟩
 ·subst ey
  obtain⟨z,hd,vs,rel,dd⟩:=kr I.hok e
  obtain⟨w',hw,rw'⟩:=vF.some_of (v:=v) (o:=valueAt vs k) (by rw[l];exact rel.val k)
  exact wpAny_getItem_of (lK ry) dd.mapOf hw (h w' _ (I.tok _) rw')
 ·subst ey
  cases (show u=Value.ref b from ry)
  obtain⟨z,hd,xs,rel,dd⟩:=lS I.hok e
  obtain⟨w',hw,rw'⟩:=vF.some_of (v:=v) (o:=(atKey xs k).map (·.2)) (by rw[l];exact rel.val k)
  obtain⟨p,hp,hp2⟩:=zq3.mp hw
  refine wpAny_getItem_heap (tupleKind_room_in1 hu) (tZ I.hok eb) dd hp ?_
  rw[hp2]
  exact h w' _ (I.tok _) rw'
theorem zp1 {Q:Value→Shared→Prop}(hu:A.units+1<cLine)(I:Inv X pins σ H s)(g:mP H a y o)(ry:RelV y u)(h:∀s',Inv X pins σ H s'→Q (.bool o.isSome) s'):
  wpAny (model X.prog X.w) A (compareOp .In u (.ref a)) Q E s:=by
 rcases g with ⟨kvs,k,e,ey,l⟩|⟨kvs,k,b,e,ey,eb,l⟩
 ·subst ey
  obtain⟨z,hd,vs,rel,dd⟩:=kr I.hok e
  refine wpAny_in_of (lK ry) hd dd.mapOf ?_
  rw[←(rel.val k).isSome_eq,←l]
  exact h _ (I.tok _)
 ·subst ey
  cases (show u=Value.ref b from ry)
  obtain⟨z,hd,xs,rel,dd⟩:=lS I.hok e
  refine wpAny_in_heap (tupleKind_room_in1 hu) (tZ I.hok eb) hd dd ?_
  have q:=(rel.val k).isSome_eq
  rw[Option.isSome_map] at q
  rw[←q,←l]
  exact h _ (I.tok _)
theorem cT {Q:Value→Shared→Prop}(hu:A.units+1<cLine)(I:Inv X pins σ H s)(g:mP H a y o)(ry:RelV y u)(h:∀s',Inv X pins σ H s'→Q (.bool (!o.isSome)) s'):
  wpAny (model X.prog X.w) A (compareOp .NotIn u (.ref a)) Q E s:=by
 rcases g with ⟨kvs,k,e,ey,l⟩|⟨kvs,k,b,e,ey,eb,l⟩
 ·subst ey
  obtain⟨z,hd,vs,rel,dd⟩:=kr I.hok e
  refine wpAny_notIn_of (lK ry) hd dd.mapOf ?_
  rw[←(rel.val k).isSome_eq,←l]
  exact h _ (I.tok _)
 ·subst ey
  cases (show u=Value.ref b from ry)
  obtain⟨z,hd,xs,rel,dd⟩:=lS I.hok e
  refine wpAny_notIn_heap (tupleKind_room_in1 hu) (tZ I.hok eb) hd dd ?_
  have q:=(rel.val k).isSome_eq
  rw[Option.isSome_map] at q
  rw[←q,←l]
  exact h _ (I.tok _)
end
section
variable {X:Cx}{pins:List (Addr×Obj)}{σ:St}{H:Hp}{s:Shared}{a:Addr}{kvs:List (Key×V)}{k:Key}{u:Value}{A:Around}{E:Value→Shared→Prop}
end
theorem nz {X:Cx}{pins:List (Addr×Obj)}{σ:St}{H:Hp}{s:Shared}{a:Addr}{y:V}{o:Option V}(I:Inv X pins σ H s)(g:mP H a y o):s.TypeIs (.ref a) "dict":=by
 rcases g with ⟨kvs,k,e,_,_⟩|⟨kvs,k,b,e,_,_,_⟩
 ·obtain⟨_,_,vs,_,dd⟩:=kr I.hok e
  exact dd.typeIs
 ·obtain⟨_,_,xs,_,dd⟩:=lS I.hok e
  exact dd.typeIs
section
variable {X:Cx}{o i e value:Expr}{pos pos' tpos:Pos}{td ty tv:TE}
end
section
variable {X:Cx}{pos:Pos}
end
section
variable {X:Cx}{pins:List (Addr×Obj)}{σ:St}{H:Hp}{s:Shared}{a:Addr}{y d:V}{u r:Value}{o:Option V}{A:Around}{E:Value→Shared→Prop}
end
section
variable {X:Cx}{o e f:Expr}{apos cpos:Pos}{td ty tx:TE}
end
section
variable {X:Cx}{pins:List (Addr×Obj)}{σ:St}{H:Hp}{s:Shared}{a:Addr}{kvs:List (Key×V)}{A:Around}{E:Value→Shared→Prop}
end
section
variable {X:Cx}{pins:List (Addr×Obj)}{σ:St}{H:Hp}{s:Shared}{a:Addr}{y:V}{u:Value}{A:Around}{E:Value→Shared→Prop}
end
def kEq :PyData→Key→Bool
 |.int i,.inl j=>decide (i=j)
 |.str x,.inr y=>decide (x=y)
 |_,_=>false
theorem eJ (k j:Key):kEq (rq k) j=decide (k=j):=by
 cases k<;>cases j<;>simp[kEq,rq]
def dO :List (PyData×PyData)→Key→Option PyData
 |[],_=>none
 |(p,d)::r,k=>if kEq p k=true then some d else dO r k
theorem AVk.get {H:Hp}:∀{kvs:List (Key×V)} {ds:List (PyData×PyData)} {k:Key} {d:PyData},AVk H kvs ds→dO ds k=some d→∃v,xj kvs k=some v∧AV H v d
 |_,_,k,d,.nil,e=>by cases e
 |_,_,k,d,.cons (k:=j) h r,e=>by
  unfold dO at e
  rw[eJ] at e
  by_cases z:j=k
  ·rw[zt5 z,if_pos rfl] at e
   cases e
   exact⟨_,ye z,h⟩
  ·rw[zs9 z,if_neg (by decide)] at e
   rw[yg z]
   exact AVk.get r e
theorem kb {H:Hp}{v:V}{k:Key}(h:AV H v (rq k)):v=kV k:=by
 cases k with
 |inl i=>exact h.int_inv
 |inr x=>exact h.str_inv
theorem AV.dk_inv {H:Hp}{v:V}{ds:List (PyData×PyData)}(h:AV H v (dZ ds)):∃a o kvs,v=.ref a∧H a=some (.frz o (.dK kvs))∧AVk H kvs ds:=by
 generalize e:dZ ds=d at h
 cases h with
 |dk h1 h2=>cases e;exact⟨_,_,_,rfl,h1,h2⟩
 |_=>cases e
section
variable {X:Cx}{pins:List (Addr×Obj)}{σ:St}{H:Hp}{s:Shared}{l:Addr}{kvs:List (Key×V)}
end
section
variable {X:Cx}{e:Expr}{sts:List Stmt}
end
section
variable {X:Cx}{α:Ev}{e a b:Expr}{pos p:Pos}{Q:PyData→Prop}
end
section
variable {X:Cx}{α:Ev}{e a b:Expr}{pos p:Pos}{Q:PyData→Prop}
end
section
variable {X:Cx}{tg:Expr}
end
section
variable {X:Cx}{α:Ev}{e a b tg:Expr}{pos p:Pos}{Q:List PyData→Prop}
end
mutual
def ltD :PyData→PyData→Option Bool
 |.int a,.int b=>some (decide (a<b))
 |.str a,.str b=>some (decide (a.cps.toList<b.cps.toList))
 |.tuple xs,.tuple ys=>zf9 xs ys
 |_,_=>none
def zf9 :List PyData→List PyData→Option Bool
 |[],[]=>some false
 |[],_::_=>some true
 |_::_,[]=>some false
 |x::xs,y::ys=>if PyData.eqv x y=true then zf9 xs ys else ltD x y
end
section
open PySem.SeqAt
open PySem.AutoSeq1 (wpAny_loadPart')
open PySem.MeetsSeq PySem.MeetsSeq2 PySem.MeetsSeq3
end
section
variable {prog:Program}{w:World}{A:Around}{R:Result→Shared→Prop}{it:Addr}{fp wr:List Addr}{m:Nat}{P:Nat→Value→Prop}{St:Nat→Heap→Prop}
end
section
variable {prog:Program}{w:World}{A:Around}{E:Value→Shared→Prop}{s:Shared}
end
section
variable {X:Cx}{α:Ev}{e:Expr}{pos p:Pos}{Q:PyData→Prop}
end
section
variable {prog:Program}{w:World}{A:Around}{E:Value→Shared→Prop}{s:Shared}{it l:Addr}{items:Array Value}
end
section
variable {X:Cx}{α:Ev}{a e c:Expr}{p p0 pos pos2:Pos}{Q:List PyData→Prop}
end
theorem rf {k:Bool}{p q:Prop}(h1:k=true→p)(h2:k=false→q):if k=true then p else q:=by
 cases k with
 |true=>exact h1 rfl
 |false=>exact h2 rfl
section
variable {X:Cx}{α:Ev}{e a b:Expr}{pos p:Pos}{E:yE}{rest:List Stmt}
end
def zh9 :R2:=fun x y H R=>rEq x y H R∨zl2 x y H R
def zj2 :R2:=fun x y H R=>rNe x y H R∨zg9 x y H R
theorem aP {X:Cx}(hu:X.A.units+64<cLine):OpR X (compareOp .Eq) zh9:=fun pins s σ H x y v u Q I rx ry h=>h.elim (fun h=>wR _ _ _ _ _ _ _ _ _ I rx ry h) fun h=>va hu _ _ _ _ _ _ _ _ _ I rx ry h
theorem aN {X:Cx}(hu:X.A.units+64<cLine):OpR X (compareOp .NotEq) zj2:=fun pins s σ H x y v u Q I rx ry h=>h.elim (fun h=>zg5 _ _ _ _ _ _ _ _ _ I rx ry h) fun h=>zb0 hu _ _ _ _ _ _ _ _ _ I rx ry h
theorem cQ {i j:Str}:Cmp rNe (.str i) (.str j) (!decide (i=j)):=fun p H vx vy R rx ry h=>by
 cases rx.str_inv;cases ry.str_inv
 refine⟨rfl,?_⟩
 rw[show decide (V.str i=V.str j)=decide (i=j) by simp]
 exact h
def jo (x y:PyData)(Q:Bool→Prop):Prop:=∃k,Cmp zh9 x y k∧Cmp zj2 x y (!k)∧Q k
theorem dE {i j:Int}{Q:Bool→Prop}(h:Q (decide (i=j))):jo (.int i) (.int j) Q:=⟨_,fun p H vx vy R rx ry z=>.inl (qP p H vx vy R rx ry z),fun p H vx vy R rx ry z=>.inl (cK p H vx vy R rx ry z),h⟩
theorem pR {i j:Str}{Q:Bool→Prop}(h:Q (decide (i=j))):jo (.str i) (.str j) Q:=⟨_,fun p H vx vy R rx ry z=>.inl (kj p H vx vy R rx ry z),fun p H vx vy R rx ry z=>.inl (cQ p H vx vy R rx ry z),h⟩
theorem eqk {x y:PyData}{Q:Bool→Prop}(s1:SeqAt.shaped x=true)(s2:SeqAt.shaped y=true)(d1:x.hasDict=false)(d2:y.hasDict=false)(h:Q (PyData.eqv x y)):jo x y Q:=
 ⟨_,fun p H vx vy R rx ry z=>.inr ⟨x,y,(rx.dv d1).same xh,(ry.dv d2).same xh,s1,s2,z⟩,fun p H vx vy R rx ry z=>.inr ⟨x,y,(rx.dv d1).same xh,(ry.dv d2).same xh,s1,s2,z⟩,h⟩
section
variable {X:Cx}{α:Ev}{a b:Expr}{pos:Pos}{Q:PyData→Prop}{T:Bool→Prop}
theorem zc2 (hu:X.A.units+64<cLine)(h:EvD X α a fun x=>EvD X α b fun y=>jo x y T):EvT X α (.Compare a [.Eq] [b] pos) T:=wa (aP hu) (zK _) (h.imp fun x h=>h.imp fun y ⟨k,e,_,q⟩=>⟨k,e,q⟩)
theorem zb7 (hu:X.A.units+64<cLine)(h:EvD X α a fun x=>EvD X α b fun y=>jo x y fun k=>T (!k)):EvT X α (.Compare a [.NotEq] [b] pos) T:=wa (aN hu) (zK _) (h.imp fun x h=>h.imp fun y ⟨k,_,e,q⟩=>⟨!k,e,q⟩)
theorem zi4 {k:Bool}{p q:Prop}(e:k=true)(h:p):if k=true then p else q:=by rw[if_pos e];exact h
theorem eV {k:Bool}{p q:Prop}(e:k=false)(h:q):if k=true then p else q:=by rw[if_neg (by rw[e];decide)];exact h
variable {E:yE}{s t:List Stmt}
theorem qL {k:Bool}(e:k=true)(h:SvS X α s E):SvS X α (if k=true then s else t) E:=by rw[if_pos e];exact h
theorem uj {k:Bool}(e:k=false)(h:SvS X α t E):SvS X α (if k=true then s else t) E:=by rw[if_neg (by rw[e];decide)];exact h
end
section
variable {X:Cx}{α:Ev}{a b:Expr}{pos:Pos}{Q:PyData→Prop}{T:Bool→Prop}
def zh5 :R2:=fun x y H Q=>∃a v,x=.ref a∧mP H a y (some v)∧Q v H
theorem dQ (hu:X.A.units+1<cLine):IxR X zh5:=fun value slice pins s σ H x y v u Q I rx ry h hs=>by
 obtain⟨a,z,rfl,g,q⟩:=h
 cases rx
 exact tail_any (nz I g) PySem.F.slot_dict_getitem.lookup (jC hu I g ry fun w' s' I' r'=>⟨z,H,I',r',q⟩) hs
def zc0 (x y:PyData)(Q:PyData→Prop):Prop:=(∃ds i d,mZ x=some ds∧y=.int i∧atI ds i=some d∧Q d)∨∃ds k d,x=dZ ds∧y=rq k∧dO ds k=some d∧Q d
theorem ixk {x y:PyData}{ds:List PyData}{i:Int}{d:PyData}(h1:mZ x=some ds)(h2:y=.int i)(h3:atI ds i=some d)(h:Q d):zc0 x y Q:=.inl ⟨ds,i,d,h1,h2,h3,h⟩
theorem aV (hu:X.A.units+1<cLine)(hs:tH b)(h:EvD X α a fun x=>EvD X α b fun y=>zc0 x y Q):EvD X α (.Subscript a b pos) Q:=by
 refine uH (f:=tOp (fun x y H Q=>rIx X.K x y H Q∨zh5 x y H Q)) (yn (zd1.or (dQ hu)) zg zg hs) (fun _ _ _=>Iff.rfl) (h.imp fun x h=>h.imp fun y h=>?_)
 intro F σ H vx vy R m rx ry k
 rcases h with ⟨ds,i,d,e1,rfl,hat,hq⟩|⟨ds,kk,d,rfl,rfl,hv,hq⟩
 ·cases ry.int_inv
  cases x with
  |list ds'=>
   cases e1
   obtain⟨a,xs,rfl,h1,h2⟩:=rx.lst_inv
   obtain⟨v,hv,av⟩:=h2.atI hat
   exact .inl (.inl ⟨a,xs,i,v,rfl,rfl,SqL.of (zf h1).2,hv,k d v H hq m.tp Kz.refl av⟩)
  |tuple ds'=>
   cases e1
   obtain⟨a,xs,rfl,h1,h2⟩:=rx.tup_inv
   obtain⟨v,hv,av⟩:=h2.atI hat
   exact .inl (.inr (.inl ⟨a,xs,i,v,rfl,rfl,SqT.of (zf h1).2,hv,k d v H hq m.tp Kz.refl av⟩))
  |_=>cases e1
 ·obtain⟨a,o,kvs,rfl,g1,g2⟩:=rx.dk_inv
  obtain⟨v,w1,w2⟩:=g2.get hv
  cases kb ry
  exact .inr ⟨a,v,rfl,.inl ⟨kvs,kk,.inr ⟨o,(zf g1).2⟩,rfl,w1.symm⟩,k d v H hq m.tp Kz.refl w2⟩
def cN (K:PySem.W.Frag)(neg:Bool):R2:=fun x y H Q=>rIn K neg x y H Q∨∃a o,y=.ref a∧mP H a x o∧Q (.bl (if neg then !o.isSome else o.isSome)) H
theorem ej (hu:X.A.units+1<cLine):OpR X (compareOp .In) (cN X.K false):=fun pins s σ H x y v u Q I rx ry h=>by
 rcases h with h|⟨a,o,rfl,g,q⟩
 ·exact qv pins s σ H x y v u Q I rx ry h
 ·cases ry
  exact zp1 hu I g rx fun s' I'=>⟨.bl o.isSome,H,I',rfl,q⟩
theorem qq (hu:X.A.units+1<cLine):OpR X (compareOp .NotIn) (cN X.K true):=fun pins s σ H x y v u Q I rx ry h=>by
 rcases h with h|⟨a,o,rfl,g,q⟩
 ·exact qC pins s σ H x y v u Q I rx ry h
 ·cases ry
  exact cT hu I g rx fun s' I'=>⟨.bl (!o.isSome),H,I',rfl,q⟩
def oy (X:Cx)(x y:PyData)(Q:Bool→Prop):Prop:=∃k,Cmp (cN X.K false) x y k∧Cmp (cN X.K true) x y (!k)∧Q k
theorem ink {x:PyData}{ds:List PyData}(f1:vh x=true)(f2:ds.all vh=true)(q:T (inD x ds)):oy X x (.list ds) T:=
 ⟨_,fun p H vx vy R rx ry h=>.inl (ma (X:=X) (neg:=false) f1 f2 p H vx vy R rx ry h),fun p H vx vy R rx ry h=>.inl (ma (X:=X) (neg:=true) f1 f2 p H vx vy R rx ry h),q⟩
theorem zb6 (hu:X.A.units+1<cLine)(h:EvD X α a fun x=>EvD X α b fun y=>oy X x y T)(hm:behindInMarks .In b=false:=by rfl):EvT X α (.Compare a [.In] [b] pos) T:=
 wa (ej hu) hm (h.imp fun x h=>h.imp fun y ⟨k,e,_,q⟩=>⟨k,e,q⟩)
theorem cn (hu:X.A.units+1<cLine)(h:EvD X α a fun x=>EvD X α b fun y=>oy X x y fun k=>T (!k))(hm:behindInMarks .NotIn b=false:=by rfl):EvT X α (.Compare a [.NotIn] [b] pos) T:=
 wa (qq hu) hm (h.imp fun x h=>h.imp fun y ⟨k,_,e,q⟩=>⟨!k,e,q⟩)
theorem zf4 (hu:X.A.units+1<cLine)(h:EvD X α a fun x=>EvD X α b fun y=>oy X x y fun k=>Q (.bool k))(hm:behindInMarks .In b=false:=by rfl):EvD X α (.Compare a [.In] [b] pos) Q:=
 md (ej hu) hm (h.imp fun x h=>h.imp fun y ⟨k,e,_,q⟩=>⟨k,e,q⟩)
theorem cA (hu:X.A.units+1<cLine)(h:EvD X α a fun x=>EvD X α b fun y=>oy X x y fun k=>Q (.bool (!k)))(hm:behindInMarks .NotIn b=false:=by rfl):EvD X α (.Compare a [.NotIn] [b] pos) Q:=
 md (qq hu) hm (h.imp fun x h=>h.imp fun y ⟨k,_,e,q⟩=>⟨!k,e,q⟩)
end
theorem zR.one {k:Nat}{A:Around}(h:zR k A):A.units+1<cLine:=by have:=h.units;omega
section
variable {X:Cx}{α:Ev}{E:yE}{rest body:List Stmt}{e c tg iter:Expr}{pos p:Pos}
theorem vq (pat:Pat)(h:EvI X α tg iter fun ds=>wO X pat body rest E ds α)(hN:X.N.Nodup:=by assumption)(hp:PassesOwn (model X.prog X.w) X.A X.env X.xe:=by exact zw5)(hc:X.calm=true:=by rfl)
  (hg:PG X tg (sf X.K pat):=by first|exact zr (by assumption) rfl (Or.inl rfl)|exact zr (by assumption) rfl (Or.inr rfl)|exact yI rfl rfl (by repeat (first|exact yY|refine zS (by first|exact zr (by assumption) rfl (Or.inl rfl)|exact zr (by assumption) rfl (Or.inr rfl)) ?_)))
  (hs:∀x,foldedSetIterable iter X.env x=pure x:=by intro _;rfl):SvS X α (.For tg iter body [] pos::rest) E:=vU hp hc hg h hs
def freeOk (xs:Scope)(y:Str×NameKind):Bool:=match y.2 with
 |.free=>match xs.names.lookup y.1 with
  |some .cell=>true
  |some .free=>true
  |_=>false
 |_=>true
theorem sM {xs scope:Scope}(h:scope.names.all (freeOk xs)=true):∀y∈scope.names,y.2=.free→xs.names.lookup y.1=some .cell∨xs.names.lookup y.1=some .free:=fun y hy e=>by
 have:=zx7.mp h y hy
 unfold freeOk at this
 rw[e] at this
 cases z:xs.names.lookup y.1 with
 |none=>rw[z] at this;cases this
 |some k=>
  rw[z] at this
  cases k<;>first|exact .inl rfl|exact .inr rfl|cases this
theorem vK (N:List Str)(imp:List (Option Nat))(pat:Pat){scope:Scope}{elt:Expr}{ifs:List Expr}{Q:List PyData→Prop}(h:EvI X α tg iter fun ds=>ds.length≤1000∧xm (fun C s2 H2 fp=>X.comp N scope C s2 H2 fp) pat ifs elt (yN imp α) ds [] Q)
  (nd:N.Nodup:=by decide +kernel) (h1:scope.kind=.function:=by rfl) (h2:∀y∈scope.names,y.2≠.cell:=by decide +kernel) (h3:∀y∈scope.names,y.2=.local→scope.names.lookup y.1=some .local:=by decide +kernel) (h4:scope.names.all (freeOk X.env.scope)=true:=by rfl) (h5:imp.length=N.length:=by rfl)
  (h6:((imp.zip N).all fun p=>match p.1 with|none=>true|some j=>X.N[j]? == some p.2&&scope.names.lookup p.2 == some .free)=true:=by rfl) (hfree:pat.free (yN imp α)=true:=by rfl)
  (hg:∀C s2 H2 fp,N.Nodup→PG (X.comp N scope C s2 H2 fp) tg (sf X.K pat):=by intro _ _ _ _ hnd;first|exact zr hnd rfl (Or.inl rfl)|exact yI rfl rfl (by repeat (first|exact yY|refine zS (zr hnd rfl (Or.inl rfl)) ?_)))
  (hc:X.calm=true:=by rfl) (hs:∀x,foldedSetIterable iter X.env x=pure x:=by intro _;rfl):EvL X α (.ListComp elt [⟨tg,iter,ifs,0⟩] scope pos) Q:=wV hc ⟨h1,nd,h2,h3,sM h4,h5,h6⟩ hfree (fun C s2 H2 fp=>hg C s2 H2 fp nd) h hs
theorem mL (i:Nat)(N:List Str)(imp:List (Option Nat))(pat:Pat){x:Str}{pos' cpos:Pos}{scope:Scope}{elt:Expr}{ifs:List Expr}(h:EvI X α tg iter fun ds=>ds.length≤1000∧xm (fun C s2 H2 fp=>X.comp N scope C s2 H2 fp) pat ifs elt (yN imp α) ds [] fun ds=>SvS X (α.set i (some (.own ds))) rest E)
  (hN:X.N.Nodup:=by assumption)
  (nd:N.Nodup:=by decide +kernel) (h1:scope.kind=.function:=by rfl) (h2:∀y∈scope.names,y.2≠.cell:=by decide +kernel) (h3:∀y∈scope.names,y.2=.local→scope.names.lookup y.1=some .local:=by decide +kernel) (h4:scope.names.all (freeOk X.env.scope)=true:=by rfl) (h5:imp.length=N.length:=by rfl)
  (h6:((imp.zip N).all fun p=>match p.1 with|none=>true|some j=>X.N[j]? == some p.2&&scope.names.lookup p.2 == some .free)=true:=by rfl) (hfree:pat.free (yN imp α)=true:=by rfl)
  (hg:∀C s2 H2 fp,N.Nodup→PG (X.comp N scope C s2 H2 fp) tg (sf X.K pat):=by intro _ _ _ _ hnd;first|exact zr hnd rfl (Or.inl rfl)|exact yI rfl rfl (by repeat (first|exact yY|refine zS (zr hnd rfl (Or.inl rfl)) ?_)))
  (hc:X.calm=true:=by rfl)
  (hi:X.N[i]?=some x:=by rfl) (hx:Loc X.env.scope x:=by first|exact Or.inl rfl|exact Or.inr rfl) (hsw:swapsWith (.ListComp elt [⟨tg,iter,ifs,0⟩] scope cpos) (some (.Name x pos')) pos.line X.env=pure true:=by rfl)
  (hf:X.fn x=true∨X.env.scope.names.lookup x=some .local:=by first|exact .inl rfl|exact .inr rfl|assumption) (hs:∀x,foldedSetIterable iter X.env x=pure x:=by intro _;rfl):
  SvS X α (.Assign [.Name x pos'] (.ListComp elt [⟨tg,iter,ifs,0⟩] scope cpos) pos::rest) E:=aj i hN hc ⟨h1,nd,h2,h3,sM h4,h5,h6⟩ hfree (fun C s2 H2 fp=>hg C s2 H2 fp nd) h hi hx hsw hf hs
end
section
variable {Y:Addr→Shared→Hp→List Addr→Cx}{pat:Pat}{ifs:List Expr}{elt:Expr}{α0:Ev}{ι:Type}{g f:ι→PyData}{l:List ι}{acc:List PyData}{Q:List PyData→Prop}
theorem xM (p:ι→Bool)(f:ι→PyData)(hs:∀x∈l,∃α1,pat.bind (g x) α0=some α1∧(∀C s2 H2 fp (Q:Bool→Prop),Q (p x)→ju (Y C s2 H2 fp) α1 ifs Q)∧(p x=true→∀C s2 H2 fp (Q:PyData→Prop),Q (f x)→EvD (Y C s2 H2 fp) α1 elt Q))
  (hd:Q (acc++(l.filter p).map f)):xm Y pat ifs elt α0 (l.map g) acc Q:=by
 induction l generalizing acc with
 |nil=>
  show Q acc
  simpa using hd
 |cons d ds ih=>
  obtain⟨α1,e,h1,h2⟩:=hs d zq1
  refine⟨α1,e,fun C s2 H2 fp=>h1 C s2 H2 fp _ ?_⟩
  have ih':=fun acc=>ih (acc:=acc) fun d hd=>hs d (zq0 _ hd)
  cases hp:p d with
  |true=>
   rw[if_pos rfl]
   refine fun C s2 H2 fp=>h2 hp C s2 H2 fp _ (ih' _ ?_)
   simpa[zy5,hp] using hd
  |false=>
   rw[if_neg (by decide)]
   refine ih' _ ?_
   simpa[zy5,hp] using hd
theorem wt (f:ι→PyData)(hs:∀x∈l,∃α1,pat.bind (g x) α0=some α1∧∀C s2 H2 fp (Q:PyData→Prop),Q (f x)→EvD (Y C s2 H2 fp) α1 elt Q)(hd:Q (acc++l.map f)):xm Y pat [] elt α0 (l.map g) acc Q:=
 xM (fun _=>true) f (fun x hx=>by
  obtain⟨α1,h1,h2⟩:=hs x hx
  exact⟨α1,h1,fun _ _ _ _ _ k=>pU k,fun _=>h2⟩) (by rw[zB0.mpr fun _ _=>rfl];exact hd)
end
section
variable {co:Co}{N:Nat}
end
section
variable {co:Co}{N:Nat}
end
section
variable {X:Cx}{α:Ev}{a b e:Expr}{pos p:Pos}{Q:PyData→Prop}
end
section
variable {X:Cx}{α:Ev}{a b c e:Expr}{pos p:Pos}{Q:PyData→Prop}{T:Bool→Prop}
end
section
variable {X:Cx}{α:Ev}{a b c e:Expr}{pos p p2 pos2:Pos}{Q:PyData→Prop}{T:Bool→Prop}
end
section
variable {X:Cx}{α:Ev}{a b c d e:Expr}{pos p:Pos}{ta tb tc td:TE}{T:Bool→Prop}
end
section
variable {X:Cx}{α:Ev}{a b c d e:Expr}{pos p:Pos}{T:Bool→Prop}
end
abbrev fX (X:Cx)(P:Program)(w:World)(K:PySem.W.Frag)(mg:Str→Option Value)(base:Heap):Prop:=X.prog=P∧X.w=w∧X.K=K∧X.mg=mg∧X.base=base
section
variable {X:Cx}{α:Ev}{e o:Expr}{es:List Expr}{pos p apos:Pos}{Q:PyData→Prop}{k:Nat}{φ:List A→(A→Prop)→Prop}{x m:Str}{C:Addr}{pl:Sem Bool}{P:Program}{w:World}{K:PySem.W.Frag}{mg:Str→Option Value}{base:Heap}
theorem dW (D:Cal P w K mg base x k φ)(hX:fX X P w K mg base)(hr:zR k X.A)(hg:Gl X x)(h:EvA X α (e::es) fun as=>φ as fun a=>Q a.d)
  (hdb:(x == ("__debug__":Str))=false:=by decide) (he:starEach (e::es) X.env=(false,eval e X.env)::starEach es X.env:=by rfl) (hpl:(backTo pos (starEach es X.env)).any (·.1)=false:=by rfl):EvD X α (.Call (.Name x p) (e::es) [] pos) Q:=by
 obtain⟨rfl,rfl,rfl,rfl,rfl⟩:=hX
 exact zq D hr hg h hdb he hpl
theorem bf {Q:List PyData→Prop}(D:Cal P w K mg base x k φ)(hX:fX X P w K mg base)(hr:zR k X.A)(hg:Gl X x)(h:EvA X α (e::es) fun as=>φ as fun a=>∃ds,a=.own ds∧Q ds)
  (hdb:(x == ("__debug__":Str))=false:=by decide) (he:starEach (e::es) X.env=(false,eval e X.env)::starEach es X.env:=by rfl) (hpl:(backTo pos (starEach es X.env)).any (·.1)=false:=by rfl):EvL X α (.Call (.Name x p) (e::es) [] pos) Q:=by
 obtain⟨rfl,rfl,rfl,rfl,rfl⟩:=hX
 exact xJ D hr hg h hdb he hpl
theorem gx (D:vG P w K mg base C m k φ)(hX:fX X P w K mg base)(hr:zR k X.A)(h:EvD X α o fun x=>∃fs,x=vR C fs∧rn fs m=none∧EvA X α (e::es) fun as=>φ (.dat (vR C fs)::as) fun a=>Q a.d)
  (hst:starEach (e::es) X.env=(false,eval e X.env)::starEach es X.env:=by rfl) (hpl:(backTo pos (starEach es X.env)).any (·.1)=false:=by rfl)
  (ht:eval (.Call (.Attribute o m apos) (e::es) [] pos) X.env=(do
   let ov ←eval o X.env
   standAt apos.atName
   let (f,first) ←holding [ov] (getMethod ov m pl)
   callWith pos f first (backTo pos (starEach (e::es) X.env)) (backToKw pos (keywordEach [] X.env))):=by rfl):EvD X α (.Call (.Attribute o m apos) (e::es) [] pos) Q:=by
 obtain⟨rfl,rfl,rfl,rfl,rfl⟩:=hX
 exact wB D hr h hst hpl ht
end
section
variable {X:Cx}{α:Ev}{pos:Pos}{Q:PyData→Prop}
end
section
variable {X:Cx}{α:Ev}{e ix:Expr}{pos:Pos}{rest:List Stmt}{E:yE}
end
def bO (lo:Int)(n:Nat):It:=⟨fun i _=>i<n,fun i H x H'=>H'=H∧x=.int (lo-i),fun i _=>n≤i⟩
theorem jr {P:Program}{w:World}{K:PySem.W.Frag}{tg:Expr}(it:Addr)(lo:Int)(n:Nat):Turn P w K tg (bO lo n) [it] it (fun i h=>IsRangeIter h it (lo+(i:Nat)*(-1)) ((n:Int)-(i:Nat)) (-1)) where
 mem:=by simp
 obj:=fun i h st b hb=>by
  have e:b=it:=by simpa using hb
  subst e
  exact⟨_,st,fun v z=>by
   have z':Data.fields _=Data.cell v:=z
   cases z'⟩
 keep:=fun i h h' st k=>k it (by simp) _ st
 item:=by
  intro X hP hw hK hc i pins s σ H E I hf st hg
  subst hP hw hK
  obtain⟨f0,f1,f2,f3,f4,f5⟩:=hf it (by simp)
  have W:=Walks.range (prog:=X.prog) (w:=X.w) (I.ok.hd hc) it lo (-1) n
  refine W.item i s _ _ hg st fun v h' tk hv st' kk=>?_
  obtain⟨t,rfl⟩:=hv
  have I1:Inv X pins σ H {s with heap:=h',toks:=tk}:=I.turned (fun b o hb e=>kk b o (by simpa using hb) e) f0 f1 f3 f4 f5
  refine⟨_,rfl,ku (s:={s with heap:=h',toks:=tk}) (n:="range_iterator") st' rfl rfl (by decide) ⟨.int (lo-i),H,I1,⟨t,?_⟩,⟨rfl,rfl⟩,st',fun b hb=>(hf b hb).1⟩⟩
  rw[Int.mul_neg,Int.mul_one]
  rfl
 done:=by
  intro X hP hw hK hc i pins s σ H E I hf st hg
  subst hP hw hK
  obtain⟨f0,f1,f2,f3,f4,f5⟩:=hf it (by simp)
  exact wpAny_pyNext_range_end (I.ok.hd hc) st (by have:n≤i:=hg;omega) fun h' eb=>⟨rfl,I.turned (t':=s.toks) (fun b o hb e=>eb b o hb e) f0 f1 f3 f4 f5⟩
 self:=fun _ _ _ _ _ st h=>wpAny_pyIter_rangeiter st h
section
variable {X:Cx}{tg:Expr}
theorem jk {pins:List (Addr×Obj)}{σ:St}{H:Hp}{s:Shared}{R:It→Hp→Prop}{E:Value→Shared→Prop}{lo hi:Int}{t u v:Tok}{tk:Nat}(I:Inv X pins σ H s)(h1:-(2 ^ 62)≤lo)(h2:lo<2 ^ 62)(h3:-(2 ^ 62)≤hi)(h4:hi<2 ^ 62)
  (q:R (bO lo (lo-hi).toNat) H):wpAny (model X.prog X.w) X.A (pyIter (.ref s.heap.objs.size)) (PIE X pins σ tg R) E {s with heap:=s.heap.push {cls:=.type "range",data:=.fields #[.int lo t,.int hi u,.int (-1) v]},toks:=tk}:=by
 refine wpAny_pyIter_range (IsRange.new ..) (small_down h1 h2 h3 h4) ?_
 have I1:Inv X pins σ H {s with heap:=s.heap.push {cls:=.type "range",data:=.fields #[.int lo t,.int hi u,.int (-1) v]},toks:=tk}:=I.kept fun b o e=>zp6 _ e
 refine⟨(s.heap.push {cls:=.type "range",data:=.fields #[.int lo t,.int hi u,.int (-1) v]}).objs.size,[(s.heap.push {cls:=.type "range",data:=.fields #[.int lo t,.int hi u,.int (-1) v]}).objs.size],_,_,H,rfl,
  I1.kept (t':=tk) fun b o e=>zp6 _ e,jr _ lo (lo-hi).toNat,?_,fun b hb=>?_,q⟩
 ·have e1:lo+((0:Nat):Int)*(-1)=lo:=by simp
  have e2:(((lo-hi).toNat:Nat):Int)-((0:Nat):Int)=Builtin.Range.rangeSize lo hi (-1):=by rw[rangeSize_downNat];simp
  show IsRangeIter _ _ (lo+((0:Nat):Int)*(-1)) ((((lo-hi).toNat:Nat):Int)-((0:Nat):Int)) (-1)
  rw[e1,e2]
  exact zr7 _ rfl
 ·have e:b=(s.heap.push {cls:=.type "range",data:=.fields #[.int lo t,.int hi u,.int (-1) v]}).objs.size:=by simpa using hb
  subst e
  exact I1.fpOk (zp8 _) (I1.hok.fresh (zp8 _))
def zk8 (ta:TA):TI:=fun σ H R=>ta σ H fun vs H1=>∃i j:Int,vs=[.int i,.int j,.int (-1)]∧(-(2 ^ 62)≤i∧i<2 ^ 62∧-(2 ^ 62)≤j∧j<2 ^ 62)∧R (bO i (i-j).toNat) H1
theorem kU {a b c:Expr}{ta:TA}{p pos:Pos}(hg:Gl X "range")(hm:X.mg "range"=none)(ha:PA X [a,b,c] ta)(hs:starEach [a,b,c] X.env=[(false,eval a X.env),(false,eval b X.env),(false,eval c X.env)]:=by rfl)(hs2:starEach [b,c] X.env=[(false,eval b X.env),(false,eval c X.env)]:=by rfl):
  PI X tg (.Call (.Name "range" p) [a,b,c] [] pos) (zk8 ta):=by
 intro pins s σ H R I h
 refine Call_ (vk I hg hm boot_range (zu3 (thn (ha pos pins s σ H _ I h) fun us s1 ⟨vs,H1,I1,r1,q1⟩=>?_) (by rw[hs,hs2]) (by rw[hs2];rfl)))
 obtain⟨i,j,e,⟨q1,q2,q3,q4⟩,q⟩:=q1
 subst e
 cases r1 with
 |cons r rr=>
  cases rr with
  |cons r' rr=>
   cases rr with
   |cons r'' rr=>
    cases rr
    obtain⟨t,rfl⟩:=r
    obtain⟨t',rfl⟩:=r'
    obtain⟨t'',rfl⟩:=r''
    exact call_range_3 (by decide) (jk I1 q1 q2 q3 q4 q) (Or.inl (PyProof.noPylong_small (by omega)))
def wj (lo:Int)(n:Nat):List Int:=(List.range n).map fun i=>lo-(i:Nat)
theorem yJ (lo:Int)(n:Nat):(wj lo n).length=n:=by simp[wj]
theorem ux {lo:Int}{n i:Nat}(h:i<n):(wj lo n)[i]?=some (lo-(i:Nat)):=by simp[wj,h]
theorem iI {p:Addr→Prop}{lo:Int}{n:Nat}{G:Hp}:ItW p (bO lo n) ((wj lo n).map .int) G:=fun i H2 q s=>⟨fun d hd=>by
  rw[zq7,zq3] at hd
  obtain⟨z,h1,rfl⟩:=hd
  have hi:i<n:=by
   have:=(zp5.mp h1).1
   rwa [yJ] at this
  rw[ux hi] at h1
  cases h1
  refine⟨hi,fun x H3 y=>?_⟩
  obtain⟨rfl,rfl⟩:=y
  exact⟨zw.refl _,fun _=>.int _⟩,fun hl=>by
  rw[zp2,yJ] at hl
  exact hl⟩
variable {α:Ev}{a b c:Expr}{p pos:Pos}
theorem jS {tg:Expr}{Q:List PyData→Prop}(hg:Gl X "range")(hm:X.mg "range"=none)(h:EvD X α a fun x=>EvD X α b fun y=>EvD X α c fun z=>∃i j,x=.int i∧y=.int j∧z=.int (-1)∧(-(2 ^ 62)≤i∧i<2 ^ 62∧-(2 ^ 62)≤j∧j<2 ^ 62)∧Q ((wj i (i-j).toNat).map .int))
  (hs:starEach [a,b,c] X.env=[(false,eval a X.env),(false,eval b X.env),(false,eval c X.env)]:=by rfl) (hs2:starEach [b,c] X.env=[(false,eval b X.env),(false,eval c X.env)]:=by rfl) (hs3:starEach [a,b,c] X.env=(false,eval a X.env)::starEach [b,c] X.env:=by rfl) (hs4:starEach [b,c] X.env=(false,eval b X.env)::starEach [c] X.env:=by rfl) (hs5:starEach [c] X.env=(false,eval c X.env)::starEach [] X.env:=by rfl):
  EvI X α tg (.Call (.Name "range" p) [a,b,c] [] pos) Q:=fun F σ H R m k=>by
 refine⟨_,kU hg hm (zd zg (zd zg (zd zg zp hs5) hs4) hs3) hs hs2,?_⟩
 refine h F σ H _ m fun x vx H1 q1 t1 k1 r1=>?_
 have m1:=m.kz k1 t1
 refine q1 F σ H1 _ m1 fun y vy H2 q2 t2 k2 r2=>?_
 have m2:=m1.kz k2 t2
 refine q2 F σ H2 _ m2 fun z vz H3 q3 t3 k3 r3=>?_
 obtain⟨i,j,rfl,rfl,rfl,bb,q⟩:=q3
 cases r1.int_inv;cases r2.int_inv;cases r3.int_inv
 exact⟨i,j,rfl,bb,k _ _ H3 q t3 ((k1.trans k2).trans k3) iI⟩
end
theorem zh0 :typeLookup (.type "list") "keys"=pure none:=by rw[typeLookup_type,builtinLookup_eq_fast];kernel_rfl
theorem jD {prog:Program}{w:World}{A:Around}{E:Value→Shared→Prop}{s:Shared}{a:Addr}{xs:Array Value}{k:Nat}{Q:Option Value→Shared→Prop}
  (hx:s.heap.get? a=some {cls:=.type "list",data:=.seq xs k}) (hA:A.handled=none)
  (h:∀h' tk,(∀b o,s.heap.get? b=some o→h'.get? b=some o)→Q none {s with heap:=h',toks:=tk}):
  wpAny (model prog w) A (getAttr? (.ref a) "keys") Q E s:=by
 obtain⟨hp,g,d,tk,os⟩:=s
 have hT:∀tk',(⟨hp,g,d,tk',os⟩:Shared).TypeIs (.ref a) "list":=fun _=>⟨_,hx,rfl⟩
 have f1:=sub_AttributeError
 have f3:=zz1.lookup
 have f4:=zz1.bind (.ref a)
 have f5:=am_list_getattr_none
 unfold getAttr? getAttrBy? getAttrBy
 repeat (any_goals (first|assumption|exact hT _|((with_reducible show wpAny _ _ (call (Value.builtin "list.__getattribute__") _ _) _ _ _);refine call_meets zz1 (hT _) am_entry_list_getattribute (F.args_list_getattribute_2 _ _) (meets_getattribute_miss_list a xs k #[] "keys" _ zh0 (by decide +kernel) (by size_fits)) ⟨hx,hA,fun h' tk' e hx'=>?_⟩)|wp_step))
 obtain⟨t',u',he⟩:=hx'.there
 show wpAny _ _ (getattributeRaised _ _ _ _ _ _ _) _ _ _
 unfold getattributeRaised
 repeat (any_goals (first|assumption|wp_step))
 exact h _ _ hx'.of.keeps
theorem ud :plainId "dict.update.loop"=true:=by decide +kernel
theorem oH :entryFor table "dict.update.loop"=some Builtin.«dict.update.loop»:=entryFor_of_fast (by kernel_rfl)
section
variable {prog:Program}{w:World}{K:Type}[DecidableEq K](knd:KeyKind prog w K)
def mD (h:Heap)(u:Value)(x:List K×Addr×Value):Prop:=∃p o n,u=.ref p∧h.get? p=some o∧o.cls=.type "tuple"∧o.data=.seq #[.ref x.2.1,x.2.2] n∧IsTupleKey knd h x.1 x.2.1
variable {knd}
theorem gU {h h':Heap}{ks:List K}{a:Addr}(x:IsTupleKey knd h ks a)(k:∀b o,h.get? b=some o→h'.get? b=some o):IsTupleKey knd h' ks a:=by
 obtain⟨o,items,n,h1,h2⟩:=x
 exact⟨o,items,n,k _ _ h1,h2⟩
def kn (acc xs:List (List K×Addr×Value)):List (List K×Addr×Value):=xs.foldl (fun a x=>storedH a x.1 x.2.1 x.2.2) acc
theorem mR (xs:List (List K×Addr×Value))(k:List K)(a:Addr)(v:Value):(storedH xs k a v).length≤xs.length+1:=by
 unfold storedH;split<;>simp
theorem pW {h h':Heap}{d it l:Addr}{i:Nat}{acc:List (List K×Addr×Value)}(hd:h.DictOfH (tupleKind knd) d acc)(hne:it≠d)(hit:h.IsListIter it l i)(hk:∀b o,b≠it→h.get? b=some o→h'.get? b=some o):h'.DictOfH (tupleKind knd) d acc:=by
 obtain⟨q,es,ep,g1,g2,g3,g4,g5,g6⟩:=hd
 refine⟨q,es,ep,hk d q (zx0 hne) g1,g2,g3,g4,fun x hx=>?_,g6⟩
 obtain⟨o',items,n',k1,k2,k3,k4⟩:=g5 x hx
 refine⟨o',items,n',hk _ _ (fun z=>?_) k1,k2,k3,k4⟩
 obtain⟨oi,i1,i2,i3⟩:=hit
 rw[z,i1] at k1;cases k1
 rw[i2] at k2
 exact absurd (Value.type.inj k2) (by decide)
theorem dN {A:Around}{R:Result→Shared→Prop}{h₀:Heap}{d it l:Addr}{its:List Value}(hu:A.units+1<cLine)(hA:A.handled=none)(hl:h₀.IsList l its.toArray)(hi0:h₀.get? it=none)(hd0:h₀.get? d=none)(hne:it≠d):
  ∀(us:List Value) (xs:List (List K×Addr×Value)),Paired (mD knd h₀) us xs→∀(i:Nat) (s:Shared) (acc:List (List K×Addr×Value)) (t:Tok),its.drop i=us→s.heap.IsListIter it l i→(∀b o,h₀.get? b=some o→s.heap.get? b=some o)→
  s.heap.DictOfH (tupleKind knd) d acc→acc.length+us.length≤sizeLine→
  (∀h' tk,(∀b o,h₀.get? b=some o→h'.get? b=some o)→h'.DictOfH (tupleKind knd) d (kn acc xs)→R (.ok (.ret .none)) {s with heap:=h',toks:=tk})→
  codeAny (model prog w) A (.builtin "dict.update.loop" ⟨[.ref d,.ref it,.int i t,.none],[]⟩) R s:=by
 intro us xs hp
 induction hp with
 |nil=>
  intro i s acc t hus hit hk hd hsz hR
  refine codeAny_builtin oH ?_
  rw[Around.under_plainId ud _]
  show wpAny _ A.in1 (pyNext (.ref it) >>= _) _ _ s
  obtain⟨o,h1,h2,n,h3⟩:=hl
  refine zp3 (wpAny_pyNext_list_end (items:=its.toArray) hA hit ⟨o,hk _ _ h1,h2,n,h3⟩ (by
   rw[List.getElem?_toArray,List.getElem?_eq_none_iff];exact List.drop_eq_nil_iff.mp hus) fun h' he=>?_)
  show wpAny _ A.in1 (Builtin.Dict.addKeywords d [] >>= _) _ _ _
  refine zp3 (zq9 (zq9 ?_))
  have hk':∀b o,h₀.get? b=some o→h'.get? b=some o:=fun b o e=>he b o (fun z=>by rw[z,hi0] at e;cases e) (hk b o e)
  refine hR h' s.toks hk' ?_
  exact pW hd hne hit he
 |@cons u x us' xs' hpx _ ih=>
  intro i s acc t hus hit hk hd hsz hR
  obtain⟨p,o,n,rfl,e1,e2,e3,e4⟩:=hpx
  refine codeAny_builtin oH ?_
  rw[Around.under_plainId ud _]
  show wpAny _ A.in1 (pyNext (.ref it) >>= _) _ _ s
  obtain⟨ol,h1,h2,nl,h3⟩:=id hl
  refine zp3 (wpAny_pyNext_list_item (items:=its.toArray) hit ⟨ol,hk _ _ h1,h2,nl,h3⟩ (x:=.ref p) (by
   rw[List.getElem?_toArray]
   have:(its.drop i)[0]?=some (Value.ref p):=by rw[hus];rfl
   rw[List.getElem?_drop] at this
   simpa using this) fun h' hit' hs'=>?_)
  have hk':∀b o,h₀.get? b=some o→h'.get? b=some o:=fun b o e=>by rw[hs'.2 b (fun z=>by rw[z,hi0] at e;cases e)];exact hk b o e
  have hT:(⟨h',s.gens,s.drawn,s.toks,s.os⟩:Shared).TypeIs (.ref p) "tuple":=⟨o,hk' _ _ e1,e2⟩
  refine zp3 (zv4 ?_)
  refine zp3 (wpAny_tryCatch ?_)
  unfold Builtin.Dict.pairItems
  refine zp3 (wpAny_typeOf hT ?_)
  rw[if_pos (by decide)]
  refine zp3 (wpAny_seqItems (hk' _ _ e1) e3 (zq9 ?_))
  show wpAny _ A.in1 (holding _ (dictSet d (.ref x.2.1) x.2.2)) _ _ _
  refine zv4 ?_
  have hd':h'.DictOfH (tupleKind knd) d acc:=pW hd hne hit fun b o hb e=>by rw[hs'.2 b hb];exact e
  refine wpAny_dictSet_heap (knd:=tupleKind knd) (k:=x.1) (xs:=acc) (show A.units+1<cLine from hu) (gU e4 hk') hd' (fun h2 hd2 hs2=>?_) (by simp at hsz;omega)
  have hk2:∀b o,h₀.get? b=some o→h2.get? b=some o:=fun b o e=>by rw[hs2.2 b (fun z=>by rw[z,hd0] at e;cases e)];exact hk' b o e
  refine zq9 ⟨plainId_quiet ud _,?_⟩
  have hit2:h2.IsListIter it l (i+1):=by
   obtain⟨oi,i1,i2,i3⟩:=hit'
   exact⟨oi,by rw[hs2.2 it hne];exact i1,i2,i3⟩
  refine ih (i+1) _ (storedH acc x.1 x.2.1 x.2.2) _ ?_ hit2 hk2 hd2 ?_ fun h3 tk q1 q2=>hR h3 tk q1 q2
  ·rw[←List.drop_drop,hus];rfl
  ·have:=mR acc x.1 x.2.1 x.2.2
   simp at hsz;omega
theorem cz {A:Around}{E:Value→Shared→Prop}{s:Shared}{l:Addr}{its:List Value}{n:Nat}{xs:List (List K×Addr×Value)}{Q:Value→Shared→Prop}(hu:A.units+3<cLine)(hA:A.handled=none)
  (hl:s.heap.get? l=some {cls:=.type "list",data:=.seq its.toArray n}) (hp:Paired (mD knd s.heap) its xs) (hsz:its.length≤sizeLine)
  (h:∀p h' tk,s.heap.objs.size≤p→(∀b o,s.heap.get? b=some o→h'.get? b=some o)→h'.DictOfH (tupleKind knd) p (kn [] xs)→Q (.ref p) {s with heap:=h',toks:=tk}):
  wpAny (model prog w) A (call (.type "dict") [.ref l]) Q E s:=by
 refine callType_codes (Q₁:=fun obj s₁=>obj=.ref s.heap.objs.size∧s₁={s with heap:=s.heap.push {cls:=.type "dict",data:=.dict #[]}}) F.kt_called_dict (F.kt_typeCall_dict_1 _) F.entry_dict_init (kt_code_dict_new _ ⟨rfl,rfl⟩) ?_
 rintro obj s₁ ⟨rfl,rfl⟩
 have hnew:(s.heap.push {cls:=.type "dict",data:=.dict #[]}).DictOfH (tupleKind knd) s.heap.objs.size []:=Heap.DictOfH.new s.heap
 have kp:∀b o,s.heap.get? b=some o→(s.heap.push {cls:=.type "dict",data:=.dict #[]}).get? b=some o:=fun b o e=>zp6 _ e
 have hT:(⟨s.heap.push {cls:=.type "dict",data:=.dict #[]},s.gens,s.drawn,s.toks,s.os⟩:Shared).TypeIs (.ref l) "list":=⟨_,kp _ _ hl,rfl⟩
 refine⟨hnew.typeIs,F.args_dict_init_2 _ _,?_⟩
 unfold Builtin.«dict.__init__»
 refine zp3 ?_
 unfold Builtin.Dict.selfAndRest
 refine zp3 (wpAny_notOrdered_dict hnew.typeIs ?_)
 show wpAny _ _ (pure (s.heap.objs.size,[Value.ref l])) _ _ _
 refine zq9 ?_
 show wpAny _ _ (Builtin.Dict.updateFrom "dict.__init__" s.heap.objs.size (.ref l) [] .none) _ _ _
 unfold Builtin.Dict.updateFrom
 refine zp3 (wpAny_typeOf hT ?_)
 rw[if_pos (by decide)]
 refine zp3 (jD (kp _ _ hl) hA fun h1 tk1 k1=>?_)
 rw[if_pos (show (none:Option Value).isNone=true from rfl)]
 refine zp3 (wpAny_rule ?_)
 have k01:∀b o,s.heap.get? b=some o→h1.get? b=some o:=fun b o e=>k1 b o (kp b o e)
 refine zp3 (wpAny_pyIter_list (items:=its.toArray) ⟨_,k01 _ _ hl,rfl,n,rfl⟩ ?_)
 refine zq9 ⟨plainId_quiet ud _,?_⟩
 have fr:s.heap.get? s.heap.objs.size=none:=by
  cases q:s.heap.get? s.heap.objs.size with
  |none=>rfl
  |some o=>exact absurd (zp9 q) (zw6 _)
 have big:s.heap.objs.size<h1.objs.size:=zp9 (k1 _ _ (zr7 _ rfl))
 have fr1:s.heap.get? h1.objs.size=none:=by
  cases q:s.heap.get? h1.objs.size with
  |none=>rfl
  |some o=>exact absurd (Nat.lt_trans (zp9 q) big) (zw6 _)
 refine dN (h₀:=s.heap) (its:=its) (A:=A.in1) (by show A.units+1+1<cLine;omega) hA ⟨_,hl,rfl,n,rfl⟩ fr1 fr (zy2 big) its xs hp 0 _ [] _ rfl ⟨_,zr7 _ rfl,rfl,rfl⟩ (fun b o e=>zp6 _ (k01 b o e)) ?_ (by simpa using hsz) ?_
 ·obtain⟨q,es,ep,g1,g2,g3,g4,g5,g6⟩:=hnew
  exact⟨q,es,ep,zp6 _ (k1 _ _ g1),g2,g3,g4,(fun x hx=>by simp at hx),g6⟩
 ·intro h' tk hk hd
  exact⟨rfl,h _ h' tk (zp8 _) hk hd⟩
end
def vd (acc kvs:List (List Key×V)):List (List Key×V):=kvs.foldl (fun a kv=>putK a kv.1 kv.2) acc
def lH (H:Hp)(x:V)(kv:List Key×V):Prop:=∃p b,x=.ref p∧H p=some (.tup [.ref b,kv.2])∧H b=some (.tup (kv.1.map kV))
theorem qw :∀(kvs acc:List (List Key×V)),(vd acc kvs).length≤acc.length+kvs.length
 |[],acc=>zp8 _
 |kv::r,acc=>by
  have h1:=qw r (putK acc kv.1 kv.2)
  have h2:=oJ acc kv.1 kv.2
  show (vd (putK acc kv.1 kv.2) r).length≤_
  simp only[zr1]
  omega
def rp {β:Type}(kvs:List (List Key×β))(k:List Key):Bool:=kvs.any fun p=>decide (p.1=k)
theorem rW {β γ:Type}{k:List Key}:∀{xs:List (List Key×β)} {ys:List (List Key×γ)},xs.map Prod.fst=ys.map Prod.fst→rp xs k=rp ys k
 |[],[],_=>rfl
 |[],_::_,h=>by simp at h
 |_::_,[],h=>by simp at h
 |x::xs,y::ys,h=>by
  simp only[zs1,List.cons.injEq] at h
  have:=rW (k:=k) h.2
  unfold rp at this ⊢
  rw[zv0,zv0,this,h.1]
theorem qj (k:List Key):∀(kvs acc:List (List Key×V)),(xj (vd acc kvs) k).isSome=((xj acc k).isSome||rp kvs k)
 |[],acc=>by simp[vd,rp]
 |kv::r,acc=>by
  show (xj (vd (putK acc kv.1 kv.2) r) k).isSome=_
  rw[qj k r,hJ]
  by_cases e:k=kv.1
  ·rw[if_pos e];simp[e,rp]
  ·rw[if_neg e]
   have e':¬kv.1=k:=fun z=>e z.symm
   simp[rp,e']
theorem rT {P:V→Prop}:∀(kvs acc:List (List Key×V)),(∀kv∈acc,P kv.2)→(∀kv∈kvs,P kv.2)→∀kv∈vd acc kvs,P kv.2
 |[],acc,h,_=>h
 |kv::r,acc,h,h'=>by
  refine rT r (putK acc kv.1 kv.2) (fun q hq=>?_) fun q hq=>h' q (zq0 _ hq)
  unfold putK at hq
  split at hq
  ·obtain⟨z,hz,rfl⟩:=zu0.mp hq
   split
   ·exact h' kv zq1
   ·exact h z hz
  ·rcases zs6.mp hq with hq|hq
   ·exact h q hq
   ·cases zr5.mp hq
    exact h' kv zq1
theorem KT.fold {H:Hp}:∀{kvs:List (List Key×V)} {xs:List (List Key×Addr×Value)} {acc:List (List Key×V)} {ys:List (List Key×Addr×Value)},KT H kvs xs→KT H acc ys→KT H (vd acc kvs) (kn ys xs):=by
 intro kvs xs acc ys r
 induction r generalizing acc ys with
 |nil=>exact fun h=>h
 |@cons p q ps qs hq t ih=>
  intro h
  obtain⟨k,b,v⟩:=q
  obtain⟨e1,e2,e3⟩:=hq
  have e1':p.1=k:=e1
  subst e1'
  exact ih (KT.put h p.1 e2 e3)
section
variable {X:Cx}
theorem dq {pins:List (Addr×Obj)}{σ:St}{H:Hp}{s:Shared}(I:Inv X pins σ H s):∀{ps:List V} {kvs:List (List Key×V)} {its:List Value},Paired (lH H) ps kvs→Vals ps its→∃xs,KT H kvs xs∧Paired (mD (yB X.prog X.w) s.heap) its xs:=by
 intro ps kvs its r
 induction r generalizing its with
 |nil=>intro h;cases h;exact⟨[],.nil,.nil⟩
 |@cons x kv ps kvs hx t ih=>
  intro h
  cases h with
  |@cons _ u _ us r1 r2=>
   obtain⟨xs,h1,h2⟩:=ih r2
   obtain⟨p,b,rfl,e1,e2⟩:=hx
   cases r1
   obtain⟨_,its,rr,o,g1,g2,n,g3⟩:=(show yc X.prog X.w H s.heap p (.tup [.ref b,kv.2]) from I.hok p _ e1)
   cases rr with
   |@cons _ u1 _ us1 a1 a2=>
    cases a1
    cases a2 with
    |@cons _ u2 _ us2 a3 a4=>
     cases a4
     refine⟨(kv.1,b,u2)::xs,.cons ⟨rfl,e2,a3⟩ h1,.cons ⟨p,o,n,rfl,g1,g2,g3,?_⟩ h2⟩
     exact tZ I.hok e2
theorem nN (hc:X.calm=true)(hu:X.A.units+3<cLine):xQ X (.type "dict") (fun xs H Q=>∃(l:Addr) (ps:List V) (kvs:List (List Key×V)),xs=[.ref l]∧H l=some (.lst ps)∧Paired (lH H) ps kvs∧∀p,H p=none→∀o,Q (.ref p) (upd H p (.frz o (.dT (vd [] kvs))))):=by
 intro pins s σ H xs us Q I r h
 obtain⟨l,ps,kvs,rfl,hl,hp,q⟩:=h
 obtain⟨u,rfl,rx⟩:=vals1 r
 cases rx
 obtain⟨z,its,n,rv,hg⟩:=(show yc X.prog X.w H s.heap l (.lst ps) from I.hok l _ hl)
 obtain⟨xs,kt,pa⟩:=dq I hp rv
 have hlen:kvs.length=ps.length:=hp.length.symm
 refine cz (knd:=yB X.prog X.w) hu (I.ok.hd hc) hg pa (by rw[←rv.length];exact z) fun p h' tk hpn hk hd=>?_
 obtain⟨o,es,ep,g1,g2,g3,g4,g5,g6⟩:=hd
 have hn:H p=none:=I.hok.fresh hpn
 refine⟨.ref p,_,I.laid (a:=p) (o:=.frz o (.dT (vd [] kvs))) (t':=tk) hk hpn ⟨g1,?_,?_,kn [] xs,?_,o,es,ep,g1,g2,g3,g4,g6⟩,rfl,q p hn o⟩
 ·have:=qw kvs []
  simp at this
  omega
 ·exact zv2.mpr (zx0 (zs3 (zr3 I.big hpn)))
 ·exact KT.keeps (KT.fold kt .nil) fun b ys e=>by rw[zl (zm e hn)];exact e
end
abbrev vE (ds:List (PyData×PyData)):PyData:=.dict ((.none,.bool true)::ds)
def sJ (k:List Key):PyData:=.tuple (k.map rq)
noncomputable def inT (ds:List (PyData×PyData))(k:List Key):Bool:=open Classical in decide (∃d,(sJ k,d)∈ds)
theorem fh {a b:Key}(h:rq a=rq b):a=b:=by
 cases a<;>cases b<;>simp[rq] at h<;>rw[h]
theorem gJ {a b:List Key}(h:sJ a=sJ b):a=b:=by
 unfold sJ at h
 injection h with h
 induction a generalizing b with
 |nil=>cases b with
  |nil=>rfl
  |cons _ _=>simp at h
 |cons x a ih=>cases b with
  |nil=>simp at h
  |cons y b=>
   simp only[zs1,List.cons.injEq] at h
   rw[fh h.1,ih h.2]
theorem AVt.some_iff {H:Hp}:∀{kvs:List (List Key×V)} {ds:List (PyData×PyData)} (_:AVt H kvs ds) (k:List Key),(xj kvs k).isSome=inT ds k
 |_,_,.nil,k=>by simp[xj,inT]
 |_,_,.cons (k:=k') (x:=x) (fs:=fs) (d:=d) (ds:=ds) a r,k=>by
  have ih:=AVt.some_iff r k
  unfold inT at ih ⊢
  by_cases e:k'=k
  ·rw[ye (p:=(k',x)) e]
   subst e
   symm
   simp only[Option.isSome_some,zs4]
   exact⟨d,zq1⟩
  ·rw[yg (p:=(k',x)) e,ih]
   congr 1
   apply propext
   constructor
   ·rintro⟨d',h⟩;exact⟨d',zq0 _ h⟩
   ·rintro⟨d',h⟩
    rcases zp7.mp h with h|h
    ·have:=congrArg Prod.fst h
     exact absurd (gJ (show sJ k=sJ k' from this)).symm e
    ·exact⟨d',h⟩
theorem eh {G:Hp}:∀(kvs:List (List Key×V)),(∀kv∈kvs,∃d,AV G kv.2 d)→∃ds,AVt G kvs ds
 |[],_=>⟨[],.nil⟩
 |(k,v)::r,h=>by
  obtain⟨d,hd⟩:=h (k,v) zq1
  obtain⟨ds,hds⟩:=eh r fun kv hkv=>h kv (zq0 _ hkv)
  exact⟨_,.cons hd hds⟩
theorem AV.dt_inv {H:Hp}{v:V}{ds:List (PyData×PyData)}(h:AV H v (vE ds)):∃a o kvs,v=.ref a∧H a=some (.frz o (.dT kvs))∧AVt H kvs ds:=by
 cases h with
 |dt h1 h2=>exact⟨_,_,_,rfl,h1,h2⟩
theorem kQ {H:Hp}{v:V}{k:List Key}(h:AV H v (sJ k)):∃b,v=.ref b∧H b=some (.tup (k.map kV)):=by
 unfold sJ at h
 cases h with
 |@tup a xs _ h1 h2=>
  refine⟨a,rfl,?_⟩
  rw[h1]
  congr 2
  clear h1
  induction k generalizing xs with
  |nil=>cases h2;rfl
  |cons x k ih=>
   cases h2 with
   |cons z1 z2=>rw[kb z1,ih z2];rfl
def prD (p:List Key×PyData):PyData:=.tuple [sJ p.1,p.2]
theorem iy {G:Hp}:∀{vs:List V} {xs:List (List Key×PyData)},AVs G vs (xs.map prD)→∃kvs,Paired (lH G) vs kvs∧kvs.map Prod.fst=xs.map Prod.fst∧∀kv∈kvs,∃d,AV G kv.2 d
 |_,[],.nil=>⟨[],.nil,rfl,fun _ h=>nomatch h⟩
 |_,(k,d)::xs,.cons h r=>by
  obtain⟨kvs,h1,h2,h3⟩:=iy r
  unfold prD at h
  cases h with
  |tup e a=>
   cases a with
   |cons a1 a2=>
    cases a2 with
    |cons a3 a4=>
     cases a4
     obtain⟨b,rfl,hb⟩:=kQ a1
     refine⟨(k,_)::kvs,.cons ⟨_,b,rfl,e,hb⟩ h1,by simp[h2],fun kv hkv=>?_⟩
     rcases zp7.mp hkv with rfl|hkv
     ·exact⟨d,a3⟩
     ·exact h3 kv hkv
section
variable {X:Cx}{α:Ev}{e a b:Expr}{p pos:Pos}{Q:PyData→Prop}
theorem nj (hc:X.calm=true)(hu:X.A.units+64<cLine)(hg:Gl X "dict")(hm:X.mg "dict"=none)
  (h:EvD X α e fun x=>∃xs:List (List Key×PyData),x=.list (xs.map prD)∧∀ds,(∀k,inT ds k=rp xs k)→Q (vE ds))
  (he:starEach [e] X.env=(false,eval e X.env)::starEach [] X.env:=by rfl):EvD X α (.Call (.Name "dict" p) [e] [] pos) Q:=fun F σ H R m k=>by
 refine⟨_,vp (nN hc (by omega)) hg hm (by decide) (zd zg zp he) (he:=he),?_⟩
 refine h F σ H _ m fun x vx H1 q1 t1 k1 r1=>?_
 obtain⟨xs,rfl,q⟩:=q1
 have m1:=m.kz k1 t1
 cases r1 with
 |@lst l ps _ e1 e2=>
  obtain⟨kvs,w1,w2,w3⟩:=iy e2
  have w1':Paired (lH H1) ps kvs:=Paired.mapP w1 fun x kv ⟨p,b,z1,z2,z3⟩=>⟨p,b,z1,(zf z2).2,(zf z3).2⟩
  refine⟨l,ps,kvs,rfl,(zf e1).2,w1',fun pn hpn o=>?_⟩
  obtain⟨ds,hds⟩:=eh (G:=Gz F α σ H1) (vd [] kvs) (rT (P:=fun v=>∃d,AV (Gz F α σ H1) v d) kvs [] (fun _ h=>nomatch h) w3)
  have sm:zw (Gz F α σ H1) (Gz F α σ (upd H1 pn (.frz o (.dT (vd [] kvs))))):=zo fun a o' ha e=>⟨ha,by rw[zl (zm e hpn)];exact e⟩
  refine k (vE ds) (.ref pn) _ (q ds fun kk=>?_) (m1.tp.same (zM hpn)) (k1.trans (Kz.of_same (zM hpn))) (.dt (o:=o) (zJ (m1.fresh hpn) zh) (hds.same sm))
  rw[←hds.some_iff kk,qj,←rW w2]
  simp[xj]
def zm8 (neg:Bool):R2:=fun x y H Q=>∃d ds,DV H x d∧DV H y (.list ds)∧d.canLay0=true∧PyData.canLayAll0 ds=true∧d.depth≤60∧Q (.bl (if neg then !(ds.any fun y=>PyData.eqv y d) else ds.any fun y=>PyData.eqv y d)) H
theorem za4 (hu:X.A.units+64<cLine):OpR X (compareOp .In) (zm8 false):=by
 intro pins s σ H x y v u Q I rx ry h
 obtain⟨d,ds,hd,he,c1,c2,dp,q⟩:=h
 obtain⟨as,ra⟩:=hd.reads I rx
 obtain⟨bs,rb⟩:=he.reads I ry
 exact SeqAt.in_list_reads rb ra c2 c1 (by have:=Nat.min_le_right (PyData.depthAll ds) d.depth;omega) ⟨.bl _,H,I,rfl,q⟩
theorem eS {Q:Bool→Prop}(hu:X.A.units+64<cLine)(h:EvD X α a fun x=>EvD X α b fun y=>∃ds,y=.list ds∧x.canLay0=true∧PyData.canLayAll0 ds=true∧x.hasDict=false∧PyData.hasDictAll ds=false∧x.depth≤60∧Q (ds.any fun y=>PyData.eqv y x))(hm:behindInMarks .In b=false:=by rfl):EvT X α (.Compare a [.In] [b] pos) Q:=
 wa (za4 hu) hm (h.imp fun x h=>h.imp fun y ⟨ds,e,s1,s2,d1,d2,dp,hq⟩=>⟨_,fun p H vx vy R rx ry z=>⟨x,ds,(rx.dv d1).same xh,by subst e;exact (ry.dv (by simpa only[PyData.hasDict] using d2)).same xh,s1,s2,dp,z⟩,hq⟩)
theorem bh {x:PyData}{ds:List (PyData×PyData)}{k:List Key}{T:Bool→Prop}(e:x=sJ k)(q:T (inT ds k)):oy X x (vE ds) T:=by
 subst e
 have key:∀(p:Addr→Prop) (H:Hp) (vx vy:V),AV (sub p H) vx (sJ k)→AV (sub p H) vy (vE ds)→∃a o,vy=.ref a∧mP H a vx o∧o.isSome=inT ds k:=fun p H vx vy rx ry=>by
  obtain⟨a,o,kvs,rfl,g1,g2⟩:=ry.dt_inv
  obtain⟨b,rfl,hb⟩:=kQ rx
  exact⟨a,_,rfl,.inr ⟨kvs,k,b,.inr ⟨o,(zf g1).2⟩,rfl,(zf hb).2,rfl⟩,g2.some_iff k⟩
 refine⟨_,fun p H vx vy R rx ry h=>?_,fun p H vx vy R rx ry h=>?_,q⟩
 ·obtain⟨a,o,e1,e2,e3⟩:=key p H vx vy rx ry
  exact .inr ⟨a,o,e1,e2,by rw[if_neg (by decide),e3];exact h⟩
 ·obtain⟨a,o,e1,e2,e3⟩:=key p H vx vy rx ry
  exact .inr ⟨a,o,e1,e2,by rw[if_pos rfl,e3];exact h⟩
theorem gW {n z:Int}{x:Str}{ds:List (PyData×PyData)}{T:Bool→Prop}(q:T (inT ds [.inl n,.inr x,.inl z])):oy X (.tuple [.int n,.str x,.int z]) (vE ds) T:=bh rfl q
end
structure Moved (fs:List Addr)(e:Addr)(ts:List Addr)(h h':Heap):Prop where
 keep:∀b o,b≠e→b∉ts→b∉fs→h.get? b=some o→h'.get? b=some o
 slot:∀b o,b∈fs→h.get? b=some o→∃sl,h'.get? b=some {o with slots:=sl}
 exc:∀o vs,h.get? e=some o→o.data=.fields vs→∃o' vs',h'.get? e=some o'∧o'.cls=o.cls∧o'.dict=o.dict∧o'.data=.fields vs'
 there:∀b o,h.get? b=some o→∃o',h'.get? b=some o'
def Ent (h base:Heap)(e T:Addr)(fl:Value):Prop:=
 ∃oe vs oT tv,h.get? e=some oe∧oe.data=.fields vs∧vs[1]?=some (.ref T)∧T≠e∧base.get? T=none∧h.get? T=some oT∧oT.data=.fields tv∧tv[3]?=some fl
def Beg (h base:Heap)(e:Addr)(ts:List Addr):Prop:=
 (ts=[]∧∃oe vs,h.get? e=some oe∧oe.data=.fields vs∧vs[1]?=some .none)∨∃T,ts=[T]∧Ent h base e T .none
theorem tO {base h:Heap}{l:List Env}{b:Addr}(hl:h.FunFrames base l)(hb:b∈frs l):base.get? b=none∧∃o,h.get? b=some o∧∀vs,o.data≠.fields vs:=hl.mem hb
section
variable {M:Model}{A:Around}{E:Value→Shared→Prop}{s:Shared}
theorem vD (o:Obj)(f:Array Value→Array Value):(o.mapFields f).cls=o.cls∧(o.mapFields f).dict=o.dict:=by
 obtain⟨c,d,dt,sl⟩:=o
 cases dt<;>exact⟨rfl,rfl⟩
theorem qc {fs:List Addr}{e T:Addr}{h:Heap}{oT:Obj}{tv:Array Value}{f:Array Value→Array Value}(hT:h.get? T=some oT)(hd:oT.data=.fields tv)(hfs:∀b∈fs,b≠T):Moved fs e [T] h (h.update T (Obj.mapFields f)) where
 keep:=fun b o _ hb _ q=>by
  rw[zr4 _ _ (fun z=>hb (by rw[←z];exact zr5.mpr rfl))]
  exact q
 slot:=fun b o hb q=>⟨o.slots,by rw[zr4 _ _ (zx0 (hfs b hb))];exact q⟩
 exc:=fun o vs q d=>by
  by_cases z:T=e
  ·subst z
   rw[hT] at q;cases q
   refine⟨_,_,zv8 _ hT (zx1 (zw8 hd _)),(vD _ _).1,(vD _ _).2,zw8 hd _⟩
  ·exact⟨o,vs,by rw[zr4 _ _ z];exact q,rfl,rfl,d⟩
 there:=fun b o q=>by
  by_cases z:T=b
  ·subst z
   exact⟨_,zv8 _ hT (zx1 (zw8 hd _))⟩
  ·exact⟨o,by rw[zr4 _ _ z];exact q⟩
theorem cM {base:Heap}{l:List Env}{e T:Addr}{fl:Value}{fo:Option Addr}{Q:Unit→Shared→Prop}(hl:s.heap.FunFrames base l)(hk:base.StaysIn s.heap)(x:Ent s.heap base e T fl)
  (h:∀h',Moved (frs l) e [T] s.heap h'→Ent h' base e T (fo.elim .none fun f=>rawInt f)→h'.FunFrames base l→base.StaysIn h'→h'.objs.size=s.heap.objs.size→Q () {s with heap:=h'}):wpAny M A (setFlight (.ref e) fo) Q E s:=by
 obtain⟨oe,vs,oT,tv,he,hd,h1,hne,hb,hT,hdT,h3⟩:=x
 have hsz:3<tv.size:=(zx4.mp h3).1
 unfold setFlight
 refine zp3 (wpAny_field he hd h1 ?_)
 rw[if_pos (show (Value.ref T != Value.none)=true from by simp)]
 refine wpAny_setField hT hdT hsz (h _ (qc hT hdT fun b hb' z=>?_) ?_ ?_ ?_ (by simp))
 ·obtain⟨_,o,ho,hn⟩:=tO hl hb'
  rw[z,hT] at ho;cases ho
  exact hn _ hdT
 ·exact⟨oe,vs,_,_,by rw[zr4 _ _ hne];exact he,hd,h1,hne,hb,zv8 _ hT (zx1 (zw8 hdT _)),zw8 hdT _,by simp[hsz]⟩
 ·refine hl.of_keeps fun b o hb' hn=>⟨o,?_,rfl⟩
  rw[zr4 _ _ (fun z=>by subst z;rw[hT] at hb';cases hb';exact hn _ hdT)]
  exact hb'
 ·intro b o q
  rw[zr4 _ _ (fun z=>by subst z;rw[hb] at q;cases q)]
  exact hk b o q
theorem dm {base:Heap}{env:Env}{outer:List Env}{L e:Addr}{oe:Obj}{vs:Array Value}{head:Value}{hadNext:Bool}{Q:Unit→Shared→Prop}
  (hfr:A.frames=some (env::outer)) (hl:s.heap.FunFrames base (env::outer)) (hf:env.frame=some L) (he:s.heap.get? e=some oe) (hkb:base.StaysIn s.heap) (hen:base.get? e=none) (hd:oe.data=.fields vs) (hsz:1<vs.size)
  (h:∀h' T,Moved (frs (env::outer)) e [] s.heap h'→s.heap.objs.size≤T→Ent h' base e T (rawInt L)→h'.FunFrames base (env::outer)→base.StaysIn h'→Q () {s with heap:=h'}):
  wpAny M A (do let a ←frameOf env;let pl ←entryPlaceOf L hadNext;let b ←EntryCells.newEntry head a .none (rawInt L) .none pl;setField (.ref e) 1 b) Q E s:=by
 have hene:e∉frs (env::outer):=fun hm=>by
  obtain⟨_,o,ho,hnf⟩:=tO hl hm
  rw[he] at ho;injection ho with ho;subst ho;exact hnf vs hd
 refine zp3 (wpAny_frameOf_fun hfr hl hf fun h₁ hs₁=>?_)
 refine zp3 (wpAny_entryPlaceOf fun pl hpl=>?_)
 unfold EntryCells.newEntry newFields
 refine zp3 (wpAny_newObj_type ?_ (hpl.sizeOk5 _ _ _ _ _))
 have he₁:h₁.get? e=some oe:=(hs₁.2.1 e hene).trans he
 have kb₁:base.StaysIn h₁:=fun b o hbo=>(hs₁.2.1 b fun hm=>by rw[(tO hl hm).1] at hbo;cases hbo).trans (hkb b o hbo)
 generalize hob:({cls:=.type "traceback",dict:=none,data:=.fields ([head,.ref L,.none,rawInt L,.none]++(if pl.isEmpty then List.replicate 6 Value.none else pl)).toArray}:Obj)=ob
 have obd:ob.data=.fields ([head,.ref L,.none,rawInt L,.none]++(if pl.isEmpty then List.replicate 6 Value.none else pl)).toArray:=by rw[←hob]
 have he₂:=zp6 (h:=h₁) ob he₁
 refine wpAny_setField he₂ hd hsz ?_
 have hTe:h₁.objs.size≠e:=zy2 (zp9 he₁)
 have hd₃:=zw8 hd (·.setIfInBounds 1 (Value.ref h₁.objs.size))
 have he₃:=zv8 (Obj.mapFields (·.setIfInBounds 1 (Value.ref h₁.objs.size))) he₂ (zx1 hd₃)
 have hT₃:((h₁.push ob).update e (Obj.mapFields (·.setIfInBounds 1 (Value.ref h₁.objs.size)))).get? h₁.objs.size=some ob:=
  (zr4 (h₁.push ob) (Obj.mapFields (·.setIfInBounds 1 (Value.ref h₁.objs.size))) (zx0 hTe)).trans (zr7 h₁ (zx1 obd))
 have keep:∀b o,b≠e→h₁.get? b=some o→((h₁.push ob).update e (Obj.mapFields (·.setIfInBounds 1 (Value.ref h₁.objs.size)))).get? b=some o:=fun b o hbe hb=>by
  rw[zr4 _ _ (zx0 hbe)]
  exact zp6 _ hb
 refine h _ h₁.objs.size ⟨fun b o hb _ hf q=>keep b o hb ((hs₁.2.1 b hf).trans q),fun b o hb q=>?_,fun o vs' q d=>?_,fun b o q=>?_⟩ (by rw[hs₁.1];exact zp8 _) ⟨_,_,ob,_,he₃,hd₃,by simp[hsz],hTe,kb₁.fresh,hT₃,obd,by simp⟩ ?_ (fun b o q=>keep b o (fun z=>by rw[z,hen] at q;cases q) (kb₁ b o q))
 ·obtain⟨sl,hs⟩:=hs₁.2.2 b o q
  exact⟨sl,keep b _ (fun z=>hene (z▸hb)) hs⟩
 ·rw[he] at q;cases q
  exact⟨_,_,he₃,(vD _ _).1,(vD _ _).2,hd₃⟩
 ·by_cases z:b=e
  ·subst z;exact⟨_,he₃⟩
  ·obtain⟨sl,hs⟩:=hs₁.2.2 b o q
   exact⟨_,keep b _ z hs⟩
 ·refine hl.of_keeps fun b o hb hn=>?_
  obtain⟨sl,hs⟩:=hs₁.2.2 b o hb
  exact⟨_,keep b _ (fun z=>by subst z;rw[he] at hb;cases hb;exact hn _ hd) hs,rfl⟩
theorem zj5 {base:Heap}{env:Env}{outer:List Env}{L e:Addr}{ts:List Addr}{Q:Unit→Shared→Prop}
  (hfr:A.frames=some (env::outer)) (hl:s.heap.FunFrames base (env::outer)) (hf:env.frame=some L) (hkb:base.StaysIn s.heap) (hen:base.get? e=none) (x:Beg s.heap base e ts)
  (h:∀h' T,Moved (frs (env::outer)) e ts s.heap h'→s.heap.objs.size≤T→Ent h' base e T (rawInt L)→h'.FunFrames base (env::outer)→base.StaysIn h'→Q () {s with heap:=h'}):wpAny M A (noteFrame (.ref e) env) Q E s:=by
 rcases x with ⟨rfl,oe,vs,he,hd,h1⟩|⟨T,rfl,oe,vs,oT,tv,he,hd,h1,hne,hb,hT,hdT,h3⟩
 ·unfold noteFrame
  simp only[hf]
  refine zp3 (wpAny_field he hd h1 ?_)
  rw[if_neg (by decide)]
  exact dm hfr hl hf he hkb hen hd (zx4.mp h1).1 h
 ·unfold noteFrame
  simp only[hf]
  refine zp3 (wpAny_field he hd h1 ?_)
  rw[if_pos (show (Value.ref T != Value.none)=true from by simp)]
  refine zp3 (wpAny_field hT hdT h3 ?_)
  rw[if_neg (show ¬((Value.none == rawInt L)=true) from by simp[rawInt])]
  refine zp3 (wpAny_setField hT hdT (zx4.mp h3).1 ?_)
  have hfs:∀b∈frs (env::outer),b≠T:=fun b hb' z=>by
   obtain⟨_,o,ho,hn⟩:=tO hl hb'
   rw[z,hT] at ho;cases ho
   exact hn _ hdT
  have mv:Moved (frs (env::outer)) e [T] s.heap (s.heap.update T (Obj.mapFields (·.setIfInBounds 3 Value.none))):=qc hT hdT hfs
  refine dm (s:={s with heap:=s.heap.update T (Obj.mapFields (·.setIfInBounds 3 Value.none))}) hfr ?_ hf (show (s.heap.update T (Obj.mapFields (·.setIfInBounds 3 Value.none))).get? e=some oe by rw[zr4 _ _ hne];exact he) ?_ hen hd (zx4.mp h1).1 fun h' T' m1 m2 m3 m4 m5=>?_
  ·refine hl.of_keeps fun b o hb' hn=>⟨o,?_,rfl⟩
   rw[zr4 _ _ (fun z=>by subst z;rw[hT] at hb';cases hb';exact hn _ hdT)]
   exact hb'
  ·intro b o q
   show (s.heap.update T _).get? b=some o
   rw[zr4 _ _ (fun z=>by subst z;rw[hb] at q;cases q)]
   exact hkb b o q
  ·refine h h' T' ⟨fun b o q1 q2 q3 q=>m1.keep b o q1 (by simp) q3 (mv.keep b o q1 q2 q3 q),fun b o q1 q=>?_,fun o vs' q d=>?_,fun b o q=>?_⟩ (by have m2:(s.heap.update T _).objs.size≤T':=m2;simpa using m2) m3 m4 m5
   ·obtain⟨sl,e1⟩:=mv.slot b o q1 q
    obtain⟨sl',e2⟩:=m1.slot b _ q1 e1
    exact⟨sl',e2⟩
   ·obtain⟨o1,vs1,e1,c1,d1,f1⟩:=mv.exc o vs' q d
    obtain⟨o2,vs2,e2,c2,d2,f2⟩:=m1.exc o1 vs1 e1 f1
    exact⟨o2,vs2,e2,c2.trans c1,d2.trans d1,f2⟩
   ·obtain⟨o1,e1⟩:=mv.there b o q
    exact m1.there b o1 e1
theorem fJ {base:Heap}{env:Env}{L e T:Addr}{Q:Unit→Shared→Prop}(hf:env.frame=some L)(x:Ent s.heap base e T (rawInt L))(h:Q () s):wpAny M A (noteFrame (.ref e) env) Q E s:=by
 obtain⟨oe,vs,oT,tv,he,hd,h1,hne,hb,hT,hdT,h3⟩:=x
 exact wpAny_noteFrame_inFlight hf he hd h1 hT hdT h3 h
end
section
variable {P:Program}{w:World}{H H0:Hp}{h h' h0:Heap}{fs fs' ts:List Addr}{e:Addr}
theorem HOk.moved (x:HOk P w H h)(m:Moved fs e ts h h')(hfs:∀b∈fs,H b=none)(hts:∀b∈ts,H b=none)(he:∃C d,H e=some (xcO e C d)):HOk P w H h':=fun a o q=>by
 obtain⟨C,d,he⟩:=he
 by_cases z:a=e
 ·subst z
  rw[he] at q;cases q
  obtain⟨⟨o,vs,h1,h2,h3,h4⟩,_,st⟩:=x _ _ he
  obtain⟨o',vs',g1,g2,g3,g4⟩:=m.exc o vs h1 h4
  exact⟨⟨o',vs',g1,g2.trans h2,g3.trans h3,g4⟩,⟨o',g1⟩,st⟩
 ·have nf:∀{b:Addr} {u:HO},H b=some u→b∉fs:=fun {b u} hb q=>by rw[hfs b q] at hb;cases hb
  have nt:∀{b:Addr} {u:HO},H b=some u→b∉ts:=fun {b u} hb q=>by rw[hts b q] at hb;cases hb
  refine (x a o q).stay (fun b u hb e1=>?_) (fun _ q=>q) fun _ _ q=>q
  rcases hb with rfl|hb
  ·exact m.keep _ _ z (nt q) (nf q) e1
  ·refine m.keep _ _ (fun z=>?_) (nt hb) (nf hb) e1
   rw[z,he] at hb;cases hb
end
def CX1 (P:Program)(w:World)(base:Heap):CXT:=fun outer H s E e s'=>∃a T H',e=.ref a∧s'.os=s.os∧AllBare s'.gens∧Un (frs outer) [] H H' s.heap s'.heap∧HOk P w H' s'.heap∧(∃C d,H' a=some (xcO a C d))∧H' T=none∧s.heap.get? T=none∧Ent s'.heap base a T .none∧E (.ref a) none H'
inductive Fl (X:Cx)(H:Hp)(h:Heap)(a:Addr):Prop where
 |new {oe:Obj} {vs:Array Value}:h.get? a=some oe→oe.data=.fields vs→vs[1]?=some .none→Fl X H h a
 |old {T:Addr}:H T=none→X.s₀.heap.get? T=none→(∀p∈X.pn,p.1≠T)→Ent h X.base a T .none→Fl X H h a
 |here {T:Addr}:H T=none→X.s₀.heap.get? T=none→(∀p∈X.pn,p.1≠T)→Ent h X.base a T (rawInt X.env.locals)→Fl X H h a
def XE (X:Cx)(R:St→Addr→Hp→Prop):Value→Shared→Prop:=fun e s=>∃σ H a,e=.ref a∧Inv X [] σ H s∧(∃C d,H a=some (xcO a C d))∧Fl X H s.heap a∧R σ a H
section
variable {X:Cx}{pins:List (Addr×Obj)}{σ:St}{H H':Hp}{s s':Shared}{a:Addr}
theorem Inv.nopins (I:Inv X pins σ H s):Inv X [] σ H s:=I.pins_of fun p hp=>by cases hp
theorem Inv.basex (I:Inv X pins σ H s)(h:H a≠none):X.base.get? a=none:=by
 cases q:X.base.get? a with
 |none=>rfl
 |some o=>exact absurd (I.bs a o q).2 h
theorem Inv.moved {ts:List Addr}{h':Heap}(I:Inv X pins σ H s)(hst:X.stack=X.env::X.outer)(m:Moved (frs X.stack) a ts s.heap h')(ha:∃C d,H a=some (xcO a C d))(hts:∀T∈ts,H T=none∧X.s₀.heap.get? T=none∧(∀p∈X.pn++pins,p.1≠T)∧∃o vs,s.heap.get? T=some o∧o.data=.fields vs):Inv X pins σ H {s with heap:=h'}:=by
 have ha':H a≠none:=by obtain⟨C,d,z⟩:=ha;rw[z];simp
 have hf:X.env.frame=some X.env.locals:=by
  rcases I.ok.stk with z|⟨_,z⟩
  ·rw[hst] at z;exact absurd (congrArg List.length z) (by simp)
  ·exact z
 have mem:∀b∈frs X.stack,b=X.env.locals∨b∈X.fs:=fun b hb=>by
  rw[hst] at hb
  unfold frs at hb
  rw[List.filterMap_cons_some hf] at hb
  rcases zp7.mp hb with z|z
  ·exact .inl z
  ·exact .inr z
 have dat:∀{b:Addr} {o:Obj},s.heap.get? b=some o→(∀vs,o.data≠.fields vs)→b∉ts:=fun {b o} q n z=>by
  obtain⟨_,_,_,o',vs,q',d⟩:=hts b z
  rw[q] at q';cases q'
  exact n vs d
 obtain⟨mm,hn,hl⟩:=id I.loc
 obtain⟨oL,es,ep,hoL,hdL,hrL⟩:=id hn
 have hLL:∃sl,h'.get? X.env.locals=some {oL with slots:=sl}:=m.slot _ _ (by rw[hst];unfold frs;rw[List.filterMap_cons_some hf];exact zq1) hoL
 have hn':h'.Ns X.env.locals mm:=by obtain⟨sl,z⟩:=hLL;exact⟨_,es,ep,z,hdL,hrL⟩
 have cells:∀{x:Str} {c:Addr} {v:Option Value},X.env.cells.lookup x=some c→s.heap.IsCell c v→h'.IsCell c v:=fun {x c v} e ⟨oc,hoc,hd⟩=>by
  by_cases z:c∈frs X.stack
  ·obtain⟨sl,z'⟩:=m.slot c oc z hoc
   exact⟨_,z',hd⟩
  ·exact⟨oc,m.keep c oc (fun z=>ha' (z▸I.freeC x c e)) (dat hoc fun vs q=>by rw[hd] at q;cases q) z hoc,hd⟩
 have un:Un X.fs X.ex X.H₀ H X.s₀.heap h':=by
  have u:=I.base
  have ne:∀{b:Addr} {o:Obj},X.s₀.heap.get? b=some o→X.H₀ b=none→b∉X.ex→b≠a:=fun {b o} q n hx z=>ha' (z▸u.free b o q n hx)
  have nt:∀{b:Addr} {o:Obj},X.s₀.heap.get? b=some o→b∉ts:=fun {b o} q z=>by rw[(hts b z).2.1] at q;cases q
  have nl:∀{b:Addr} {o:Obj},X.s₀.heap.get? b=some o→b≠X.env.locals:=fun {b o} q=>zs3 (zr3 (zp9 q) I.ok.above)
  refine⟨fun b o q n hb hx=>m.keep b o (ne q n hx) (nt q) (fun z=>(mem b z).elim (nl q) hb) (u.keep b o q n hb hx),fun b o q n hb hx=>?_,u.free,fun b o q hx=>?_,u.tups,u.frzs,u.tbls⟩
  ·obtain⟨sl,e1⟩:=u.slot b o q n hb hx
   by_cases z:b∈frs X.stack
   ·obtain⟨sl',e2⟩:=m.slot b _ z e1
    exact⟨sl',e2⟩
   ·exact⟨sl,m.keep b _ (ne q n hx) (nt q) z e1⟩
  ·obtain⟨o',e1⟩:=u.there b o q hx
   exact m.there b o' e1
 refine⟨I.ok,I.os,I.bare,un,⟨mm,hn',fun i x v e1 e2 e3=>?_⟩,fun x c e=>?_,I.free,I.freeC,fun p hp=>?_,I.hok.moved m I.stkFree (fun b hb=>(hts b hb).1) ha,I.len⟩
 ·obtain⟨u,r,q⟩:=hl i x v e1 e2 e3
  refine⟨u,r,?_⟩
  rcases q with q|⟨k,c,e,z⟩
  ·exact .inl q
  ·exact .inr ⟨k,c,e,cells e z⟩
 ·obtain⟨v,z⟩:=I.cell x c e
  exact⟨v,cells e z⟩
 ·obtain⟨e,n,ne,nf,d⟩:=I.pin p hp
  exact⟨m.keep _ _ (fun z=>ha' (z▸n)) (fun z=>(hts _ z).2.2.1 p hp rfl) (fun z=>(mem _ z).elim ne nf) e,n,ne,nf,d⟩
theorem Fl.beg (f:Fl X H s.heap a):(∃ts,Beg s.heap X.base a ts∧∀T∈ts,H T=none∧X.s₀.heap.get? T=none∧(∀p∈X.pn,p.1≠T)∧∃o vs,s.heap.get? T=some o∧o.data=.fields vs)∨∃T,H T=none∧X.s₀.heap.get? T=none∧(∀p∈X.pn,p.1≠T)∧Ent s.heap X.base a T (rawInt X.env.locals):=by
 cases f with
 |new h1 h2 h3=>exact .inl ⟨[],.inl ⟨rfl,_,_,h1,h2,h3⟩,fun T hT=>by cases hT⟩
 |@old T h1 h2 h3 h4=>
  refine .inl ⟨[T],.inr ⟨T,rfl,h4⟩,fun T' hT=>?_⟩
  rw[zr5] at hT
  subst hT
  obtain⟨_,_,oT,tv,_,_,_,_,_,hT,hdT,_⟩:=h4
  exact⟨h1,h2,h3,oT,tv,hT,hdT⟩
 |@here T h1 h2 h3 h4=>exact .inr ⟨T,h1,h2,h3,h4⟩
theorem Inv.stkf (I:Inv X pins σ H s)(hst:X.stack=X.env::X.outer):X.env.frame=some X.env.locals:=by
 rcases I.ok.stk with z|⟨_,z⟩
 ·rw[hst] at z;exact absurd (congrArg List.length z) (by simp)
 ·exact z
theorem Inv.stays (I:Inv X pins σ H s):X.base.StaysIn s.heap:=I.bk
theorem Inv.note {M:Model}{Q:Unit→Shared→Prop}{E:Value→Shared→Prop}(I:Inv X [] σ H s)(hst:X.stack=X.env::X.outer)(ha:∃C d,H a=some (xcO a C d))(f:Fl X H s.heap a)
  (h:∀h' T,Inv X [] σ H {s with heap:=h'}→H T=none→X.s₀.heap.get? T=none→(∀p∈X.pn,p.1≠T)→Ent h' X.base a T (rawInt X.env.locals)→Q () {s with heap:=h'}):wpAny M X.A (noteFrame (.ref a) X.env) Q E s:=by
 have ha':H a≠none:=by obtain⟨C,d,z⟩:=ha;rw[z];simp
 have hf:=I.stkf hst
 rcases f.beg with ⟨ts,bg,ht⟩|⟨T,h1,h2,h3,h4⟩
 ·refine zj5 (by rw[←hst];exact I.ok.frames) (by rw[←hst];exact I.stack) hf I.stays (I.basex ha') bg fun h' T m1 m2 m3 _ _=>?_
  have I':Inv X [] σ H {s with heap:=h'}:=I.moved hst (by rw[hst];exact m1) ha fun T hT=>by
   obtain⟨q1,q2,q3,q4⟩:=ht T hT
   exact⟨q1,q2,fun p hp=>q3 p (by simpa using hp),q4⟩
  refine h h' T I' (I.hok.fresh m2) (Heap.get?_none_of_le (zt6 I.sz m2)) (fun p hp z=>?_) m3
  have:=zp9 (I.pin p (by simpa using hp)).1
  rw[z] at this
  exact absurd this (Nat.not_lt.mpr m2)
 ·exact fJ hf h4 (by have:=h s.heap T I h1 h2 h3 h4;exact this)
theorem Inv.flight {M:Model}{Q:Unit→Shared→Prop}{E:Value→Shared→Prop}{A:Around}{T:Addr}{fl:Value}{fo:Option Addr}(I:Inv X pins σ H s)(hst:X.stack=X.env::X.outer)(ha:∃C d,H a=some (xcO a C d))(h1:H T=none)(h2:X.s₀.heap.get? T=none)(h3:∀p∈X.pn++pins,p.1≠T)(x:Ent s.heap X.base a T fl)
  (h:∀h',Inv X pins σ H {s with heap:=h'}→Ent h' X.base a T (fo.elim .none fun f=>rawInt f)→Q () {s with heap:=h'}):wpAny M A (setFlight (.ref a) fo) Q E s:=by
 refine cM (l:=X.stack) I.stack I.stays x fun h' m1 m2 _ _ _=>h h' (I.moved hst m1 ha fun T' hT=>?_) m2
 rw[zr5] at hT
 subst hT
 obtain⟨_,_,oT,tv,_,_,_,_,_,hT,hdT,_⟩:=x
 exact⟨h1,h2,h3,oT,tv,hT,hdT⟩
theorem bu {R:St→Addr→Hp→Prop}{E:XK}{e:Value}(hex:X.ex=[])(I:Inv X pins σ H s)(h:CX1 X.prog X.w X.base X.stack H s E e s')(hE:∀a H',E (.ref a) none H'→R σ a H'):XE X R e s':=by
 obtain⟨a,T,H',rfl,ho,hg,u,hok,ha,h1,h2,h3,hE'⟩:=h
 have I':Inv X pins σ H' s':=I.call' (ch:=[]) ho u hok hg fun b hb=>by cases hb
 refine⟨σ,H',a,rfl,I'.nopins,ha,.old h1 ?_ (fun p hp z=>?_) h3,hE a H' hE'⟩
 ·cases q:X.s₀.heap.get? T with
  |none=>rfl
  |some o=>
   exfalso
   obtain⟨o',e1⟩:=I.base.there T o q (by rw[hex];simp)
   rw[h2] at e1;cases e1
 ·have:=(I.pin p (zw0 _ hp)).1
  rw[z,h2] at this;cases this
end
section
variable {X:Cx}{E':Value→Shared→Prop}
theorem PSs.wishx {st:List Stmt}{t:TS}(h:PSs (X.wish E') st t)(k:∀e s,E' e s→X.xe e s):PSs X st t:=fun pins s σ H D I hw=>
 zt2 (h pins s σ H D (I.wish _) hw) (fun _ _ q=>q.unwish) fun e s z=>k e s z
end
section
variable {P:Program}{w:World}{K:PySem.W.Frag}{mg:Str→Option Value}{base:Heap}
theorem dC {N:List Str}{qual:Str}{scope:Scope}{f:Addr}{cd:Value}{A:Around}{outer:List Env}{s₀ s:Shared}{H₀:Hp}{E:XK}{e:Value}
  (h:XE (wq (CX1 P w base) P w K mg base N qual scope f cd A outer s₀ H₀ E) (fun _ a H=>E (.ref a) none H) e s):(wq (CX1 P w base) P w K mg base N qual scope f cd A outer s₀ H₀ E).xe e s:=by
 obtain⟨σ,H,a,rfl,I,ha,f',r⟩:=h
 show wpAny _ _ (leaving _ _) _ _ _
 unfold leaving
 refine zp3 (I.note rfl ha f' fun h' T I' h1 h2 h3 h4=>?_)
 refine I'.flight (fo:=none) rfl ha h1 h2 (by simpa using h3) h4 fun h'' I'' e''=>?_
 exact⟨a,T,H,rfl,I''.os,I''.bare,I''.base,I''.hok,ha,h1,h2,e'',r⟩
theorem Fun.okX {x qual:Str}{st:Stmt}{f:Addr}{fd:FuncData}{N ps:List Str}{k:Nat}{sp:Sp}(F:Fun K x qual st f fd)(S:zi N ps (zc st))(len:∀vs H Q E,sp vs H Q E→vs.length=ps.length)
  (hbody:∀(cdv:Value) (A:Around) (outer:List Env) (s:Shared) (H:Hp) (vs:List V) (Q:VK) (E:XK),zR k (A.deeper (envOfC qual (zc st) s.heap.objs.size f cdv))→sp vs H Q E→
   ∃t,PSs ((wq (CX1 P w base) P w K mg base N qual (zc st) f cdv A outer s H E).wish (XE (wq (CX1 P w base) P w K mg base N qual (zc st) f cdv A outer s H E) fun _ a H=>E (.ref a) none H)) (zC st) t∧t {nx:=fun _ H'=>Q .non H',rt:=Q} (start N vs) H):zA P w K mg base (CX1 P w base) (k+1) f fd ps sp:=by
 obtain⟨oc,od,kV,doc,pm,an,cdv,ct,osl,rfl,lk,hcd⟩:=F.ex
 refine eP lk hcd S len fun A outer s H vs Q E hr hsp=>?_
 obtain⟨t,h,q⟩:=hbody cdv A outer s H vs Q E hr hsp
 exact⟨t,h.wishx fun e s z=>dC z,q⟩
end
section
variable {prog:Program}{w:World}{A:Around}{E:Value→Shared→Prop}{h:Heap}{g:Array GenState}{d:Drawn}{t:Nat}{os:OsState}
variable {nm q:Str}{C N:Addr}{bs bm bmB:List Value}{hdct:Bool}{sn:List Str}{sub:List Value}{ab:Bool}{col:Option Bool}{dd:Option Addr}{k0 k1 k2 k3 k5:Option Value}{B Bn newId nid initId inN:String}{bmN:List Value}
abbrev sO (C t:Addr)(d:Option Addr):Obj:={cls:=.ref C,dict:=d,data:=.fields #[.ref t,.none,.none,.none,.bool false,.none]}
def xg (h:Heap)(C:Addr)(rest:List Value):Heap:=(h.push {cls:=.type "tuple",data:=.seq rest.toArray}).push (sO C h.objs.size none)
theorem nK (Fn:ExcBaseFacts Bn newId inN bmN)(hBn:bmB.contains (.type Bn)=true)(F:ExcBaseFacts B nid initId bmB)(T:OwnTail h bmB bm){mN:Str→Option Value}{rest:List Value}{fI:Addr}{oI:Obj}{Q:Fin→Shared→Prop}
  (hC:h.get? C=some (excClassObj nm q C N bs bm hdct sn sub ab col dd k0 k1 k2 k3 k5 newId)) (hn:h.Ns N mN) (hi:mN "__init__"=some (.ref fI))
  (hfI:h.get? fI=some oI) (hfc:oI.cls=.type "function")
  (hq:wpAny (model prog w) A (call (.ref fI) (.ref (h.objs.size+1)::rest)) (fun r s'=>r=.none∧Q (.done (.ret (.ref (h.objs.size+1)))) s') E ⟨xg h C rest,g,d,t,os⟩) (hrest:rest.length≤sizeLine):
  wpAny (model prog w) A (Builtin.«type.__call__» ⟨.ref C::rest,[]⟩) Q E ⟨h,g,d,t,os⟩:=by
 repeat (first|with_reducible refine zv1 hC ?_|with_reducible refine wpAny_madeBy_exc hC ?_|wp_step)
 refine codeAny_call_builtin_code (zz2 _ Fn.quiet) (wpAny_check_new_subU Fn hBn T hC ?_)
 refine codeAny_exc_new_subU Fn hBn F T hC ?_ hrest
 show wpAny _ _ _ _ _ ⟨xg h C rest,g,d,t,os⟩
 have keep:∀b o,h.get? b=some o→(xg h C rest).get? b=some o:=fun b o e=>zp6 _ (zp6 _ e)
 have hC₁:=keep _ _ hC
 have hfI₁:=keep _ _ hfI
 have hn₁:(xg h C rest).Ns N mN:=let ⟨o,es,ep,e,r⟩:=hn;⟨o,es,ep,keep _ _ e,r⟩
 have hget:(xg h C rest).get? (h.objs.size+1)=some (sO C h.objs.size none):=by unfold xg;heap_get
 have hcC:(Value.ref C::bm).contains (.ref C)=true:=by simp
 have T₁:=T.keeps keep
 unfold isInstance
 repeat (first|with_reducible refine zv1 hget ?_|(with_reducible refine wpAny_isSubtype_exc hC₁ ?_;rw[hcC])|wp_step)
 show wpAny _ _ (typeLookup (.ref C) _) _ _ _
 refine wpAny_typeLookup_tail hC₁ hn₁ T₁ F.mroIs F.init.lookup ?_
 rw[hi]
 refine zv4 (zp3 ?_)
 unfold bindSpecial
 refine zp3 (wpAny_typeOf (T:="function") ⟨_,hfI₁,hfc⟩ ?_)
 rw[if_pos (by decide)]
 refine zq9 (zp3 (zt2 hq (fun r s' hr=>?_) fun _ _ x=>x))
 obtain⟨rfl,hQ⟩:=hr
 wp_walk
 exact hQ
theorem zk9 (Fn:ExcBaseFacts Bn newId inN bmN)(hBn:bmB.contains (.type Bn)=true)(F:ExcBaseFacts B nid initId bmB)(T:OwnTail h bmB bm){mN:Str→Option Value}{rest:List Value}{fI:Addr}{oI:Obj}{Q:Value→Shared→Prop}
  (hC:h.get? C=some (excClassObj nm q C N bs bm hdct sn sub ab col dd k0 k1 k2 k3 k5 newId)) (hn:h.Ns N mN) (hi:mN "__init__"=some (.ref fI))
  (hfI:h.get? fI=some oI) (hfc:oI.cls=.type "function")
  (hq:wpAny (model prog w) (A.under (.builtin "type.__call__" ⟨.ref C::rest,[]⟩)) (call (.ref fI) (.ref (h.objs.size+1)::rest)) (fun r s'=>r=.none∧Q (.ref (h.objs.size+1)) s') E ⟨xg h C rest,g,d,t,os⟩) (hrest:rest.length≤sizeLine):
  wpAny (model prog w) A (call (.ref C) rest) Q E ⟨h,g,d,t,os⟩:=by
 have f1:=tc_lookup
 have f2:=tc_bind (.ref C)
 have hT:(⟨h,g,d,t,os⟩:Shared).TypeIs (.ref C) "type":=⟨_,hC,rfl⟩
 refine zy0 (codeAny_of_tree ?_)
 show wpAny _ _ (callAny (.ref C) _) _ _ _
 repeat (any_goals (first|assumption|with_reducible refine zv1 hC ?_|wp_step))
 refine⟨rfl,?_⟩
 exact codeAny_call_builtin_at (zz2 _ (by decide +kernel)) entry_typeCall (wpAny_check_type_call_sub hC (nK Fn hBn F T hC hn hi hfI hfc hq hrest))
theorem za5 {M:Model}{s:Shared}{env:Env}{x:Sem Value}{Q:Flow→Shared→Prop}(hbase:bm.contains (.type "BaseException")=true)(hh:A.handled=none)
  (h:wpAny M A x (fun v s₁=>∃e t d,v=.ref e∧s₁.heap.get? C=some (excClassObj nm q C N bs bm hdct sn sub ab col dd k0 k1 k2 k3 k5 newId)∧s₁.heap.get? e=some (sO C t d)∧E (.ref e) s₁) E s):
  wpAny M A (raiseStmt env (some x) none) Q E s:=by
 have hcB:(Value.ref C::bm).contains (.type "BaseException")=true:=by rw[List.contains_cons,hbase,Bool.or_true]
 unfold raiseStmt
 refine zp3 (zt2 h (fun v s₁ h₁=>?_) fun _ _ x=>x)
 obtain⟨e,t,d,rfl,hC,he,hE⟩:=h₁
 obtain⟨hp,g,d,tk,os⟩:=s₁
 repeat (first|with_reducible refine zv1 he ?_|with_reducible refine zv1 hC ?_|(with_reducible refine wpAny_isSubtype_exc hC ?_;rw[hcB])|wp_step)
 exact wpAny_raiseNew_none hh hE
end
open Builtin Builtin.ObjectAttr
def bmV :List Value:=[.type "ValueError",.type "Exception",.type "BaseException",.type "object"]
def vm (K:Frag)(C S:Addr)(init:Option Value):Bool:=match K.lookup C with
 |some ⟨.type "type",_,.cls cd,sl⟩=>(match sl.toList with
  |[_,_,_,_,some (.builtin n),_]=>cd.mro == .ref C::.ref S::bmV&&n == "ValueError.__new__"&&!cd.hasDel&&cd.hasDict&&tailIn K bmV (.ref S::bmV)&&nsOkIn K cd.ns&&nsIn K cd.ns "__init__" == some init
  |_=>false)
 |_=>false
theorem dg {K:Frag}{h:Heap}{N:Addr}{mg:Str→Option Value}{n:Str}{v:Option Value}(X:K.In h)(G:h.Ns N mg)(e:nsIn K N n=some v):mg n=v:=by
 cases v with
 |none=>exact ns_none_of X G e
 |some v=>
  obtain⟨o,es,ep,ho,hd,_,hf⟩:=G
  unfold nsIn at e
  split at e
  ·rename_i c d es' n' sl q
   have:=X _ _ q
   rw[ho] at this
   cases this
   cases hd
   split at e
   ·rename_i en he
    cases e
    rw[←hf]
    unfold nsFind findBy
    rw[←Array.find?_toList,he]
    rfl
   ·split at e<;>cases e
  ·cases e
theorem xN {K:Frag}{h:Heap}{C S:Addr}{init:Option Value}(X:K.In h)(q:vm K C S init=true):
  ∃nm qn N bs sn sub ab col dd k0 k1 k2 k3 k5 mN,h.get? C=some (excClassObj nm qn C N bs (.ref S::bmV) true sn sub ab col dd k0 k1 k2 k3 k5 "ValueError.__new__")∧h.Ns N mN∧mN "__init__"=init∧OwnTail h bmV (.ref S::bmV)∧∃cd,clsIn K C=some cd∧cd.hasDict=true∧cd.mro=.ref C::.ref S::bmV∧K.lookup C=some (excClassObj nm qn C N bs (.ref S::bmV) true sn sub ab col dd k0 k1 k2 k3 k5 "ValueError.__new__"):=by
 unfold vm at q
 split at q
 ·rename_i dd cd sl ho
  split at q
  ·rename_i k0 k1 k2 k3 n k5 hs
   simp only[zq8,zx9,Bool.not_eq_true'] at q
   obtain⟨⟨⟨⟨⟨⟨hm,hn⟩,hdel⟩,hdd⟩,ht⟩,hok⟩,hni⟩:=q
   obtain⟨nm,bs,mro,ns,qn,hd,sn,sub,ab,col,del⟩:=cd
   dsimp only at hm hdel hok hni hdd
   subst hm hdel hn hdd
   have hsl:sl=#[k0,k1,k2,k3,some (.builtin "ValueError.__new__"),k5]:=by
    obtain⟨l⟩:=sl
    simp only at hs
    rw[hs]
   subst hsl
   have N:=Heap.Ns.of_isNs (isNs_of_in X hok)
   exact⟨nm,qn,ns,bs,sn,sub,ab,col,dd,k0,k1,k2,k3,k5,_,X _ _ ho,N,dg X N hni,tail_of_in X ht,_,by unfold clsIn;rw[ho],rfl,rfl,ho⟩
  ·cases q
 ·cases q
section
variable {prog:Program}{w:World}{A:Around}{E:Value→Shared→Prop}{h:Heap}{g:Array GenState}{d:Drawn}{t:Nat}{os:OsState}{K:Frag}{C S e t0:Addr}{dx:Option Addr}{init:Option Value}
theorem az {ox:Obj}(he:h.get? e=some ox)(hc:ox.cls=.ref C)(hd:∃vs,ox.data=.fields vs){od:Option Obj}(hdx:match ox.dict,od with
  |some dx,some o=>h.get? dx=some o
  |none,none=>True
  |_,_=>False):InstAt h e ox C od:=⟨he,hc,by obtain⟨vs,hd⟩:=hd;unfold notCls;rw[hd],hdx⟩
end
structure XC (K:Frag)(C S:Addr)(init:Option Value):Prop where
 ok:vm K C S init=true
 sa:findIn K (.ref C) "__setattr__"=some (some (.builtin "object.__setattr__"))
 ga:findIn K (.ref C) "__getattribute__"=some (some (.builtin "BaseException.__getattribute__"))
 gt:findIn K (.ref C) "__getattr__"=some none
 cl:findIn K (.ref C) "__class__"=some (some (.builtin "object.__class__"))
 cg:specialIn K (.builtin "object.__class__") "__get__"=some (some (.builtin "getset_descriptor.__get__"))
 ct:takesIn K (.builtin "object.__class__")=some true
section
variable {prog:Program}{w:World}{A:Around}{E:Value→Shared→Prop}{h:Heap}{g:Array GenState}{d:Drawn}{t:Nat}{os:OsState}{K:Frag}{C S e t0:Addr}{init:Option Value}
theorem fY {name:Str}{tk:Tok}{fill expr:Bool}{ox:Obj}{od:Option Obj}{Q:Value→Shared→Prop}(X:K.In h)(c:XC K C S init)(I:InstAt h e ox C od)
  (hq:wpAny (model prog w) A.in1 (Builtin.«object.__getattribute__» ⟨[.ref e,.str name tk],[]⟩) (fun fin s'=>match fin with|.done (.ret v)=>wpAny (model prog w) A (handedOut v) Q E s'|_=>False) (fun _ _=>False) ⟨h,g,d,t,os⟩):
  wpAny (model prog w) A (getAttrBy (.ref e) (.str name tk) fill expr) Q E ⟨h,g,d,t,os⟩:=by
 obtain⟨nm,qn,N,bs,sn,sub,ab,col,dd,k0,k1,k2,k3,k5,mN,hC,hN,hi,T,cd,hcd,hdict,hmro,_⟩:=xN X c.ok
 have FA:=PySem.F.attr_ValueError
 unfold getAttrBy
 refine zv4 (zp3 (I.type.at (zp3 ((looks_findIn X c.ga).at ?_))))
 have hx2:(Value.builtin "BaseException.__getattribute__" == Value.builtin "object.__getattribute__")=false:=by decide +kernel
 dsimp only
 rw[hx2,Bool.and_false,if_neg (by decide)]
 have hb:Looks (model prog w) h (hookBefore (.ref C)) none:=looks_hook X (by rw[if_pos (show onTheHeap (.ref C)=true from rfl)];exact c.gt)
 refine zp3 (hb.at (zp3 (wpAny_attempt (zv4 ?_))))
 unfold callGetattribute
 rw[show (expr&&onTheHeap (Value.builtin "BaseException.__getattribute__"))=false from Bool.and_false _,if_neg (by decide)]
 unfold boundAndCalled
 rw[FA.ga.bind]
 refine zp3 (zq9 ?_)
 have sub:Looks (model prog w) h (isInstance (.ref e) (.type "BaseException")) true:=I.type.andThen (looks_mroIn X (by unfold mroIn;rw[hcd,zy6,hmro]<;>rfl))
 show wpAny _ _ (call (.builtin "BaseException.__getattribute__") [.ref e,.str name tk]) _ _ _
 refine zy0 (codeAny_call_builtin FA.ga.plain PySem.F.entry_bexc_ga (@check_slot (model prog w) _ _ ⟨h,g,d,t,os⟩ "BaseException.__getattribute__" "BaseException" "__getattribute__" (.ref e) [.str name tk] [] _ (by decide +kernel) (by decide +kernel) sub (PySem.F.args_bexc_ga (.ref e) (.str name tk)) ?_))
 refine zt2 hq (fun fin s' z=>?_) fun _ _ z=>z.elim
 rcases fin with (_|_|_|_)|_<;>first|exact z|exact z.elim
theorem ze0 {ox:Obj}{od:Option Obj}{Q:Option Value→Shared→Prop}(X:K.In h)(c:XC K C S init)(I:InstAt h e ox C od)(hq:Q (some (.ref C)) ⟨h,g,d,t+1,os⟩):wpAny (model prog w) A (getAttr? (.ref e) "__class__") Q E ⟨h,g,d,t,os⟩:=by
 obtain⟨nm,qn,N,bs,sn,sub,ab,col,dd,k0,k1,k2,k3,k5,mN,hC,hN,hi,T,cd,hcd,hdict,hmro,_⟩:=xN X c.ok
 have hf:findObj K C od "__class__"=some (.bind (.builtin "getset_descriptor.__get__") (.builtin "object.__class__")):=by
  unfold findObj
  rw[hcd,zy6,c.cl,zy6]
  dsimp only
  rw[c.cg,zy6]
  dsimp only
  rw[c.ct]
  rfl
 unfold getAttr? getAttrBy?
 refine zp3 (wpAny_mkText (zp3 (wpAny_attempt (fY X c I ?_))))
 unfold Builtin.«object.__getattribute__»
 refine zp3 (zq9 (zp3 (zq9 (zp3 (I.type.at (zp3 ((looks_find X I hf).at ?_)))))))
 show wpAny _ _ (bindTo _ _ _ _) _ _ _
 have hm:mroIn K C (.type "object")=some true:=by unfold mroIn;rw[hcd,zy6,hmro]<;>rfl
 refine zp3 (zv4 (zy0 (class_get (s:=⟨h,g,d,t+1,os⟩) (ox:=ox) (od:=od) X I hm ?_)))
 refine zq9 ?_
 exact handed_on rfl (zq9 hq)
theorem gn {ox:Obj}{od:Option Obj}(c:XC K C S init):KitX K (.ref e) (.ref C) (fun h=>InstAt h e ox C od) where
 ty:=fun _ _ _ I=>I.type
 it:=fun _ _ X _=>by
  obtain⟨nm,qn,N,bs,sn,sub,ab,col,dd,k0,k1,k2,k3,k5,mN,hC,_⟩:=xN X c.ok
  intro A' Q' E' s' k q
  unfold isType loadHead
  exact zp3 (wpAny_loadPart (k _ _ hC) (zq9 q))
 ne:=fun h tp dd its n sl X htp=>by
  obtain⟨nm,qn,N,bs,sn,sub,ab,col,dd,k0,k1,k2,k3,k5,mN,hC,_⟩:=xN X c.ok
  refine zs5.mpr fun q=>?_
  have e:C=tp:=Value.ref.inj (zx9.mp q)
  subst e
  cases (show Data.cls _=Data.seq _ _ from congrArg Obj.data (zs7 (hC.symm.trans htp)))
 ca:=fun {_ _ _ _ _ s} X I k=>by obtain⟨h,g,d,t,os⟩:=s;exact ze0 X c I k
structure XB (K:Frag)(C B:Addr):Prop where
 ty:typeIn K (.ref B)=some (.type "type")
 be:mroIn K B (.type "BaseException")=some true
 sub:mroIn K C (.ref B)=some true
theorem zd7 {B:Addr}{ox:Obj}{od:Option Obj}{Q:Bool→Shared→Prop}(X:K.In h)(b:XB K C B)(I:InstAt h e ox C od)(hq:Q true ⟨h,g,d,t,os⟩):wpAny (model prog w) A (excMatches (.ref e) (.ref B)) Q E ⟨h,g,d,t,os⟩:=by
 have l1:Looks (model prog w) h (isType (.ref B)) true:=by
  obtain⟨cd,hcd,_⟩:=Option.bind_eq_some_iff.mp b.be
  unfold clsIn at hcd
  split at hcd
  ·rename_i c' d' cd' sl' ho
   intro A' Q' E' s' k q
   unfold isType loadHead
   exact zp3 (wpAny_loadPart (k _ _ (X _ _ ho)) (zq9 q))
  ·cases hcd
 have l2:Looks (model prog w) h (isExcClass (.ref B)) true:=l1.andThen (by rw[if_pos rfl];exact looks_mroIn X b.be)
 have l3:Looks (model prog w) h (isInstance (.ref B) (.type "tuple")) false:=(looks_typeIn X b.ty).andThen (Looks.of_pure tc_notTuple)
 have l4:=looks_mroIn (M:=model prog w) X b.sub
 have l5:=I.type (M:=model prog w)
 unfold excMatches
 refine zp3 (l3.at ?_)
 rw[if_neg (by decide)]
 refine zp3 (zq9 ?_)
 simp only[List.forIn_cons,List.forIn_nil]
 refine zp3 (zp3 (zp3 (l2.at ?_)))
 refine zq9 (zq9 (zp3 (l5.at (zp3 (zp3 (zp3 (l4.at ?_)))))))
 exact zq9 (zq9 (zq9 hq))
end
def xcF (a C:Addr)(d:Option Addr):HO:=.ext fun h=>∃t,h.get? a=some (sO C t d)
section
variable {X:Cx}{pins:List (Addr×Obj)}{σ:St}{H:Hp}{s:Shared}{a C:Addr}{d:Option Addr}{pos:Pos}
theorem zb8 {P:Program}{w:World}{H':Hp}{h:Heap}{t:Addr}(e:h.get? a=some (sO C t d)):yc P w H' h a (xcF a C d):=⟨⟨t,e⟩,⟨_,e⟩,fun _ _ ⟨t,e⟩ k=>⟨t,k _ e⟩⟩
theorem Inv.xat (I:Inv X pins σ H s)(e:H a=some (xcF a C d)):∃t,s.heap.get? a=some (sO C t d):=(I.hok a _ e).1
theorem Inv.xthaw (I:Inv X pins σ H s)(e:H a=some (xcF a C d)):Inv X pins σ (upd H a (xcO a C d)) s:=by
 obtain⟨t,h⟩:=I.xat e
 have:=I.write (x:=a) (e:=a) (o:=xcO a C d) (h':=s.heap) (t':=s.toks) (by rw[e];exact True.intro) (.inl rfl) (fun _ _ _ q=>q) ⟨_,h⟩ ⟨⟨_,_,h,rfl,rfl,rfl⟩,⟨_,h⟩,fun _ _ ⟨o,vs,h1,h2⟩ k=>⟨o,vs,k _ h1,h2⟩⟩
 exact this
end
section
variable {prog:Program}{w:World}{A:Around}{E:Value→Shared→Prop}{h:Heap}{g:Array GenState}{d:Drawn}{t:Nat}{os:OsState}
variable {nm q:Str}{C N:Addr}{bs bm bmB:List Value}{hdct:Bool}{sn:List Str}{sub:List Value}{ab:Bool}{col:Option Bool}{dd:Option Addr}{k0 k1 k2 k3 k5:Option Value}{B Bn newId nid initId inN:String}{bmN:List Value}
theorem oR (Fn:ExcBaseFacts Bn newId inN bmN)(hBn:bmB.contains (.type Bn)=true)(F:ExcBaseFacts B nid initId bmB)(T:OwnTail h bmB bm){mN:Str→Option Value}{rest:List Value}{Q:Fin→Shared→Prop}
  (hC:h.get? C=some (excClassObj nm q C N bs bm hdct sn sub ab col dd k0 k1 k2 k3 k5 newId)) (hn:h.Ns N mN) (hni:mN "__init__"=none)
  (hq:∀h' t',(∀b o,h.get? b=some o→h'.get? b=some o)→h'.get? (h.objs.size+1)=some (sO C t' none)→Q (.done (.ret (.ref (h.objs.size+1)))) ⟨h',g,d,t,os⟩) (hrest:rest.length≤sizeLine):
  wpAny (model prog w) A (Builtin.«type.__call__» ⟨.ref C::rest,[]⟩) Q E ⟨h,g,d,t,os⟩:=by
 repeat (first|with_reducible refine zv1 hC ?_|with_reducible refine wpAny_madeBy_exc hC ?_|wp_step)
 refine codeAny_call_builtin_code (zz2 _ Fn.quiet) (wpAny_check_new_subU Fn hBn T hC ?_)
 refine codeAny_exc_new_subU Fn hBn F T hC ?_ hrest
 show wpAny _ _ _ _ _ ⟨xg h C rest,g,d,t,os⟩
 have keep:∀b o,h.get? b=some o→(xg h C rest).get? b=some o:=fun b o e=>zp6 _ (zp6 _ e)
 have hC₁:=keep _ _ hC
 have hn₁:(xg h C rest).Ns N mN:=let ⟨o,es,ep,e,r⟩:=hn;⟨o,es,ep,keep _ _ e,r⟩
 have hget:(xg h C rest).get? (h.objs.size+1)=some (sO C h.objs.size none):=by unfold xg;heap_get
 have hcC:(Value.ref C::bm).contains (.ref C)=true:=by simp
 have T₁:=T.keeps keep
 unfold isInstance
 repeat (first|with_reducible refine zv1 hget ?_|(with_reducible refine wpAny_isSubtype_exc hC₁ ?_;rw[hcC])|wp_step)
 show wpAny _ _ (typeLookup (.ref C) _) _ _ _
 refine wpAny_typeLookup_tail hC₁ hn₁ T₁ F.mroIs F.init.lookup ?_
 rw[hni]
 refine zv4 (zp3 (wpAny_of_eq (F.init.bind _) ?_))
 refine zp3 (zy0 (codeAny_call_builtin F.init.plain F.initEntry (wpAny_check_init_subU F T₁ hC₁ hget rfl ?_)))
 wp_walk
 refine hq _ (xg h C rest).objs.size (fun b o hb=>?_) ?_
 ·rw[zr4 _ _ (zy2 (Nat.lt_succ_of_lt (zp9 hb)))]
  exact zp6 _ (keep _ _ hb)
 ·rw[zv8 _ (zp6 _ hget) rfl]
  rfl
theorem aT (Fn:ExcBaseFacts Bn newId inN bmN)(hBn:bmB.contains (.type Bn)=true)(F:ExcBaseFacts B nid initId bmB)(T:OwnTail h bmB bm){mN:Str→Option Value}{rest:List Value}{Q:Value→Shared→Prop}
  (hC:h.get? C=some (excClassObj nm q C N bs bm hdct sn sub ab col dd k0 k1 k2 k3 k5 newId)) (hn:h.Ns N mN) (hni:mN "__init__"=none)
  (hq:∀h' t',(∀b o,h.get? b=some o→h'.get? b=some o)→h'.get? (h.objs.size+1)=some (sO C t' none)→Q (.ref (h.objs.size+1)) ⟨h',g,d,t,os⟩) (hrest:rest.length≤sizeLine):
  wpAny (model prog w) A (call (.ref C) rest) Q E ⟨h,g,d,t,os⟩:=by
 have f1:=tc_lookup
 have f2:=tc_bind (.ref C)
 have hT:(⟨h,g,d,t,os⟩:Shared).TypeIs (.ref C) "type":=⟨_,hC,rfl⟩
 refine zy0 (codeAny_of_tree ?_)
 show wpAny _ _ (callAny (.ref C) _) _ _ _
 repeat (any_goals (first|assumption|with_reducible refine zv1 hC ?_|wp_step))
 refine⟨rfl,?_⟩
 exact codeAny_call_builtin_at (zz2 _ (by decide +kernel)) entry_typeCall (wpAny_check_type_call_sub hC (oR Fn hBn F T hC hn hni hq hrest))
end
section
variable {X:Cx}{pins:List (Addr×Obj)}{σ:St}{H:Hp}{s:Shared}{k:Nat}{f C S:Addr}{fd:FuncData}{ps:List Str}{sp:Sp}{x:Str}{p pos:Pos}{e:Expr}{es:List Expr}{t:TA}
theorem Inv.xmade {h':Heap}{t':Addr}(I:Inv X pins σ H s)(hk:∀b o,s.heap.get? b=some o→h'.get? b=some o)(he:h'.get? (s.heap.objs.size+1)=some (sO C t' none)):Inv X pins σ (upd H (s.heap.objs.size+1) (xcF (s.heap.objs.size+1) C none)) {s with heap:=h'}:=
 I.laid (t':=s.toks) hk (zy7 _) (zb8 he)
theorem zi6 (c:vm X.K C S (some (.ref f))=true)(hfn:PySem.W.typeIn X.K (.ref f)=some (.type "function"))(kp:PySem.W.keepIn X.K (.ref C)=true)(F:zA X.prog X.w X.K X.mg X.base CX0 k f fd ps sp)(hr:zR (k+1) X.A)(hg:Gl X x)(hm:X.mg x=some (.ref C))(hb:Binds X.K fd ps [])
  (ha:PA X (e::es) t) (hdb:(x == ("__debug__":Str))=false:=by decide) (he:starEach (e::es) X.env=(false,eval e X.env)::starEach es X.env:=by rfl) (hpl:(backTo pos (starEach es X.env)).any (·.1)=false:=by rfl):
  PE X (.Call (.Name x p) (e::es) [] pos) (fun σ H Q=>t σ H fun vs H1=>vs.length≤100∧∀a,H1 a=none→sp (.ref a::vs) (upd H1 a (xcF a C none)) (fun v H2=>v=.non∧Q (.ref a) H2) E0):=by
 intro pins s σ H Q I h
 refine zv7 (xX I hg hm ?_ hdb)
 refine zw7 (h₀:=X.base) I.ok.mod.kin kp (thn (ha pos pins s σ H _ I h) fun us s1 ⟨vs,H1,I1,r,lv,q⟩=>⟨I1.kIn,?_⟩) he hpl
 obtain⟨nm,qn,N,bs,sn,sub,ab,col,dd,k0,k1,k2,k3,k5,mN,hC,hN,hi,T,_⟩:=xN I1.kIn c
 obtain⟨oI,lI,cI⟩:=zq3.mp hfn
 have hfI:=I1.kIn _ _ lI
 have hl:=r.length
 have hq:=q (s1.heap.objs.size+1) (I1.hok.fresh (zy7 _))
 obtain⟨h0,g,d,tk,os⟩:=s1
 refine zk9 zv5 (by decide +kernel) zv5 T hC hN hi hfI cI ?_ (by show us.length≤_;rw[sizeLine_eq];omega)
 have keep:∀b o,h0.get? b=some o→(xg h0 C us).get? b=some o:=fun b o e=>zp6 _ (zp6 _ e)
 have hget:(xg h0 C us).get? (h0.objs.size+1)=some (sO C h0.objs.size none):=by unfold xg;heap_get
 have I2:=I1.xmade (h':=xg h0 C us) keep hget
 have r2:Vals (V.ref (h0.objs.size+1)::vs) (Value.ref (h0.objs.size+1)::us):=.cons rfl r
 have hl2:(Value.ref (h0.objs.size+1)::us++[]).length=ps.length:=by
  have e:=r2.length
  rw[F.len _ _ _ _ hq] at e
  rw[zw2]
  exact e.symm
 have hbb:=hb _ (Value.ref (h0.objs.size+1)::us) I2.kIn hl2
 rw[zw2] at hbb
 refine zy0 (zz0 (F.run _ X.stack _ _ ⟨Value.ref (h0.objs.size+1)::us,[]⟩ _ _ _ E0 (hr.make C us []) (I2.env0.make C us []) hbb r2 hq) fun r s' hq'=>?_)
 cases r with
 |error e=>exact (hq':False).elim
 |ok fl=>
  cases fl with
  |ret u=>
   obtain⟨v,H',I3,rv,ev,q3⟩:=I2.after hq'
   subst ev
   exact⟨rv,⟨V.ref (h0.objs.size+1),H',I3,rfl,q3⟩⟩
  |next=>exact False.elim hq'
  |brk=>exact False.elim hq'
  |cont=>exact False.elim hq'
theorem ir (c:vm X.K C S none=true)(kp:PySem.W.keepIn X.K (.ref C)=true)(hg:Gl X x)(hm:X.mg x=some (.ref C))
  (ha:PA X (e::es) t) (hdb:(x == ("__debug__":Str))=false:=by decide) (he:starEach (e::es) X.env=(false,eval e X.env)::starEach es X.env:=by rfl) (hpl:(backTo pos (starEach es X.env)).any (·.1)=false:=by rfl):
  PE X (.Call (.Name x p) (e::es) [] pos) (fun σ H Q=>t σ H fun vs H1=>vs.length≤100∧∀a,H1 a=none→Q (.ref a) (upd H1 a (xcF a C none))):=by
 intro pins s σ H Q I h
 refine zv7 (xX I hg hm ?_ hdb)
 refine zw7 (h₀:=X.base) I.ok.mod.kin kp (thn (ha pos pins s σ H _ I h) fun us s1 ⟨vs,H1,I1,r,lv,q⟩=>⟨I1.kIn,?_⟩) he hpl
 obtain⟨nm,qn,N,bs,sn,sub,ab,col,dd,k0,k1,k2,k3,k5,mN,hC,hN,hi,T,_⟩:=xN I1.kIn c
 have hl:=r.length
 have hq:=q (s1.heap.objs.size+1) (I1.hok.fresh (zy7 _))
 obtain⟨h0,g,d,tk,os⟩:=s1
 refine aT zv5 (by decide +kernel) zv5 T hC hN hi (fun h' t' hk he=>?_) (by show us.length≤_;rw[sizeLine_eq];omega)
 exact⟨.ref (h0.objs.size+1),_,I1.xmade hk he,rfl,hq⟩
theorem eA {X0:Cx}{R:St→Addr→Hp→Prop}{te:TE}{init:Option Value}(c:vm X0.K C S init=true)(hc:X0.calm=true)(he:PE (X0.wish (XE X0 R)) e te):
  PS (X0.wish (XE X0 R)) (.Raise (some e) none pos) (fun D σ H=>te σ H fun x H1=>∃a d,x=.ref a∧H1 a=some (xcF a C d)∧R σ a (upd H1 a (xcO a C d))):=by
 intro pins s σ H D I h
 show wpAny _ _ (do standAt pos;raiseStmt X0.env (some (do let v ←eval e X0.env;standAt pos;pure v)) none) _ _ _
 obtain⟨nm,qn,N,bs,sn,sub,ab,col,dd,k0,k1,k2,k3,k5,mN,hC,hN,hi,T,_,_,_,_,lk⟩:=xN I.kIn c
 refine zp3 (zz6 (za5 (C:=C) (nm:=nm) (q:=qn) (N:=N) (bs:=bs) (bm:=.ref S::bmV) (hdct:=true) (sn:=sn) (sub:=sub) (ab:=ab) (col:=col) (dd:=dd) (k0:=k0) (k1:=k1) (k2:=k2) (k3:=k3) (k5:=k5) (newId:="ValueError.__new__") (T.hasType zv5.hasBase) (I.ok.hd hc) (zp3 (thn (he pins s σ H _ I h) fun v s1 ⟨x,H1,I1,rx,a,d,ex,ea,r⟩=>zp3 (zz6 (zq9 ?_))))))
 subst ex
 obtain rfl:v=Value.ref a:=rx
 obtain⟨t',ha⟩:=I1.xat ea
 exact⟨a,t',d,rfl,I1.kIn _ _ lk,ha,⟨σ,_,a,rfl,(I1.xthaw ea).unwish.nopins,⟨C,d,zh⟩,.new ha rfl rfl,r⟩⟩
end
abbrev Cx.held (X:Cx)(pins:List (Addr×Obj)):Cx:={X with pn:=X.pn++pins}
abbrev Cx.suite (X:Cx)(a:Addr):Cx:={X with A:=X.A.mark (some (.ref a)),calm:=false,xe:=fun _ _=>False}
section
variable {X:Cx}{pins:List (Addr×Obj)}{σ:St}{H:Hp}{s:Shared}{a:Addr}{D:Ends}{f:Flow}
theorem Inv.held (I:Inv X pins σ H s):Inv (X.held pins) [] σ H s:=
 ⟨⟨I.ok.mod,I.ok.kind,I.ok.glob,I.ok.blt,I.ok.above,I.ok.inj,I.ok.has,I.ok.cab,I.ok.hd,I.ok.frames,I.ok.stk,I.ok.exf,I.ok.bs,I.ok.bsz,I.ok.noex,I.ok.exfs,I.ok.funs,I.ok.frf⟩,I.os,I.bare,I.base,I.loc,I.cell,I.free,I.freeC,fun p hp=>I.pin p (by simpa using hp),I.hok,I.len⟩
theorem Inv.unheld (I:Inv (X.held pins) [] σ H s):Inv X pins σ H s:=
 ⟨⟨I.ok.mod,I.ok.kind,I.ok.glob,I.ok.blt,I.ok.above,I.ok.inj,I.ok.has,I.ok.cab,I.ok.hd,I.ok.frames,I.ok.stk,I.ok.exf,I.ok.bs,I.ok.bsz,I.ok.noex,I.ok.exfs,I.ok.funs,I.ok.frf⟩,I.os,I.bare,I.base,I.loc,I.cell,I.free,I.freeC,fun p hp=>I.pin p (by simpa using hp),I.hok,I.len⟩
theorem Inv.suite (I:Inv X pins σ H s):Inv (X.suite a) pins σ H s:=
 ⟨⟨I.ok.mod,I.ok.kind,I.ok.glob,I.ok.blt,I.ok.above,I.ok.inj,I.ok.has,I.ok.cab,(fun z=>nomatch z),I.ok.frames,I.ok.stk,I.ok.exf,I.ok.bs,I.ok.bsz,I.ok.noex,I.ok.exfs,I.ok.funs,I.ok.frf⟩,I.os,I.bare,I.base,I.loc,I.cell,I.free,I.freeC,I.pin,I.hok,I.len⟩
theorem Inv.unsuite (J:Inv X [] σ H s){σ':St}{H':Hp}{s':Shared}(I:Inv (X.suite a) pins σ' H' s'):Inv X pins σ' H' s':=
 ⟨J.ok,I.os,I.bare,I.base,I.loc,I.cell,I.free,I.freeC,I.pin,I.hok,I.len⟩
theorem SP.held {E:Value→Shared→Prop}(h:SP ((X.held pins).wish E) [] D f s):SP X pins D f s:=by
 cases f with
 |next=>obtain⟨σ',H',I,q⟩:=h;exact⟨σ',H',I.unwish.unheld,q⟩
 |brk=>obtain⟨σ',H',I,q⟩:=h;exact⟨σ',H',I.unwish.unheld,q⟩
 |cont=>obtain⟨σ',H',I,q⟩:=h;exact⟨σ',H',I.unwish.unheld,q⟩
 |ret u=>obtain⟨v,σ',H',I,r,q⟩:=h;exact⟨v,σ',H',I.unwish.unheld,r,q⟩
theorem Inv.gone {M:Model}{A:Around}{E:Value→Shared→Prop}{Q:Unit→Shared→Prop}{i:Nat}{n:Str}{pos:Pos}(I:Inv X pins σ H s)(hN:X.N.Nodup)(hi:X.N[i]?=some n)(hl:X.env.scope.names.lookup n=some .local)
  (h:∀s',Inv X pins (σ.set i none) H s'→Q () s'):wpAny M A (do bindName X.env n .none;unbindBehindTheSuite X.env n pos) Q E s:=by
 obtain⟨m,hn,hlk⟩:=id I.loc
 have hcls:(X.env.scope.kind == .class||(X.env.scope.kind == .module&&X.env.locals != X.env.globals))=false:=by rw[I.ok.kind];rfl
 have hiσ:i<σ.length:=by rw[I.len];exact (zp5.mp hi).1
 have cne:=I.cne
 refine wpAny_nameGoes_keeps hl hn hcls fun h' v hn' hs=>?_
 obtain⟨oL,_,_,hoL,_⟩:=id hn
 have nl:∀{b:Addr} {o:Obj},X.s₀.heap.get? b=some o→b≠X.env.locals:=fun {b o} e=>zs3 (zr3 (zp9 e) I.ok.above)
 refine h _ ⟨I.ok,I.os,I.bare,⟨fun b o e n hb hx=>(hs.2 b (nl e)).trans (I.base.keep b o e n hb hx),fun b o e n hb hx=>?_,I.base.free,fun b o e hx=>?_,I.base.tups,I.base.frzs,I.base.tbls⟩,⟨_,hn',fun j y v' e1 e2 e3=>?_⟩,fun y c e=>?_,I.free,I.freeC,fun p hp=>?_,fun b ob e=>?_,by simpa using I.len⟩
 ·obtain⟨sl,e1⟩:=I.base.slot b o e n hb hx
  exact⟨sl,(hs.2 b (nl e)).trans e1⟩
 ·obtain⟨o',e1⟩:=I.base.there b o e hx
  exact⟨o',(hs.2 b (nl e)).trans e1⟩
 ·by_cases hj:j=i
  ·subst hj
   rw[zt9 hiσ] at e2
   cases e2
  ·rw[zt4 (zx0 hj)] at e2
   obtain⟨u',r',q⟩:=hlk j y v' e1 e2 e3
   refine⟨u',r',?_⟩
   rcases q with ⟨k,e⟩|⟨k,c,e,z⟩
   ·refine .inl ⟨k,?_⟩
    have:y≠n:=fun e=>hj (sg hN e1 (e▸hi))
    simp[this,e]
   ·exact .inr ⟨k,c,e,z.sameBut hs (cne y c e)⟩
 ·obtain⟨w',z⟩:=I.cell y c e
  exact⟨w',z.sameBut hs (cne y c e)⟩
 ·obtain⟨e,n,ne,nf,d⟩:=I.pin p hp
  exact⟨(hs.2 p.1 ne).trans e,n,ne,nf,d⟩
 ·refine (I.hok b ob e).stay (fun c w' hc q=>(hs.2 c ?_).trans q) (fun _ q=>q) fun _ _ q=>q
  rintro rfl
  rcases hc with rfl|hc
  ·rw[I.free] at e;cases e
  ·rw[I.free] at hc;cases hc
theorem Inv.caught {R:St→Addr→Hp→Prop}{E':Value→Shared→Prop}{Q:Flow→Shared→Prop}{e:Value}{hs:List ExceptHandler}(hst:X.stack=X.env::X.outer)(h:XE X R e s)
  (k:∀σ H a T s',Inv X [] σ H s'→(∃C d,H a=some (xcO a C d))→R σ a H→H T=none→X.s₀.heap.get? T=none→(∀p∈X.pn,p.1≠T)→Ent s'.heap X.base a T .none→wpAny (model X.prog X.w) X.A (handleBy (.ref a) X.env hs) Q E' s'):
  wpAny (model X.prog X.w) X.A (noteFrame e X.env) (fun _ s₂=>wpAny (model X.prog X.w) X.A (setFlight e none) (fun _ s₃=>wpAny (model X.prog X.w) X.A (handleBy e X.env hs) Q E' s₃) E' s₂) E' s:=by
 obtain⟨σ,H,a,rfl,I,ha,f,r⟩:=h
 refine I.note hst ha f fun h' T I' h1 h2 h3 h4=>?_
 refine I'.flight (fo:=none) hst ha h1 h2 (by simpa using h3) h4 fun h'' I'' e''=>?_
 exact k σ H a T _ I'' ha r h1 h2 h3 e''
theorem kG {P:Program}{w:World}{h:Heap}{C:Addr}{d:Option Addr}(hok:HOk P w H h)(e:H a=some (xcO a C d))(hd:∀dx,d=some dx→∃fs,H dx=some (.xd fs)):∃ox od,PySem.W.InstAt h a ox C od∧od.isSome=d.isSome:=by
 obtain⟨⟨o,vs,h1,h2,h3,h4⟩,_⟩:=hok a _ e
 cases d with
 |none=>exact⟨o,none,az h1 h2 ⟨vs,h4⟩ (by rw[h3];trivial),rfl⟩
 |some dx=>
  obtain⟨fs,hx⟩:=hd dx rfl
  obtain⟨mA,⟨od,es,ep,e1,_⟩,_⟩:=hok dx _ hx
  exact⟨o,some od,az h1 h2 ⟨vs,h4⟩ (by rw[h3];exact e1),rfl⟩
end
section
variable {X:Cx}{body suite:List Stmt}{b0:Stmt}{x n:Str}{np hpos pos:Pos}{B:Addr}
def kA (K:PySem.W.Frag)(B:Addr)(R:St→Addr→Hp→Prop):Prop:=∀σ a H,R σ a H→∃C d,H a=some (xcO a C d)∧(∀dx,d=some dx→∃fs,H dx=some (.xd fs))∧XB K C B
theorem fq {R:St→Addr→Hp→Prop}{i:Nat}(hst:X.stack=X.env::X.outer)(hN:X.N.Nodup)(hi:X.N[i]?=some n)(hl:X.env.scope.names.lookup n=some .local)(hg:Gl X x)(hm:X.mg x=some (.ref B))(hR:kA X.K B R)(hdb:(x == ("__debug__":Str))=false:=by decide):
  PS X (.Try body [.ExceptHandler (some (.Name x np)) (some n) (b0::suite) hpos] [] [] pos) (fun D σ H=>(∀pins,ni ((X.held pins).wish (XE (X.held pins) R)) body D σ H)∧
   ∀pins a σ' H',R σ' a H'→ni ((X.held pins).suite a) (b0::suite) {nx:=fun σ'' H''=>D.nx (σ''.set i none) H'',rt:=D.rt,bk:=fun σ'' H''=>D.bk (σ''.set i none) H'',ct:=fun σ'' H''=>D.ct (σ''.set i none) H''} (σ'.set i (some (.ref a))) H'):=by
 rintro pins s σ H D I ⟨h1,h2⟩
 obtain⟨tb,pb,qb⟩:=h1 pins
 refine wpAny_Try_except (zt2 (pb [] s σ H D (I.held.wish _) qb) (fun f s1 hf=>?_) fun e s1 hx=>?_)
 ·have hf:=SP.held hf
  cases f with
  |next=>exact zA2 hf
  |brk=>exact hf
  |cont=>exact hf
  |ret u=>exact hf
 ·refine Inv.caught (X:=X.held pins) hst hx fun σ' H' a T s' I' ha r t1 t2 t3 ent=>?_
  obtain⟨C,d,hc,hd,xb⟩:=hR σ' a H' r
  refine wpAny_handleBy_cons (codeAny_handlers_test (xX (I'.suite (a:=a)) hg hm ?_ hdb)) (by intro q;cases q)
  obtain⟨ox,od,J,_⟩:=kG I'.hok hc hd
  obtain⟨h',g',d',tk',os'⟩:=s'
  refine zd7 I'.kIn xb J (codeAny_handlers_suite_as ?_)
  refine I'.flight (fo:=none) hst ha t1 t2 (by simpa using t3) ent fun h'' I'' _=>?_
  refine so I'' hN hi (Or.inl hl) (v:=.ref a) rfl (fun s2 I2=>?_) (.inr hl)
  obtain⟨ts,p2,q2⟩:=h2 pins a σ' H' r
  refine zt2 (p2 [] s2 _ H' _ I2.suite q2) (fun f s3 hf=>?_) fun _ _ z=>(z:False).elim
  cases f with
  |next=>
   obtain⟨σ3,H3,I3,q3⟩:=hf
   exact (I''.unsuite I3).gone hN hi hl fun s4 I4=>⟨_,H3,I4.unheld,q3⟩
  |brk=>
   obtain⟨σ3,H3,I3,q3⟩:=hf
   exact (I''.unsuite I3).gone hN hi hl fun s4 I4=>⟨_,H3,I4.unheld,q3⟩
  |cont=>
   obtain⟨σ3,H3,I3,q3⟩:=hf
   exact (I''.unsuite I3).gone hN hi hl fun s4 I4=>⟨_,H3,I4.unheld,q3⟩
  |ret u=>
   obtain⟨v,σ3,H3,I3,r3,q3⟩:=hf
   exact (I''.unsuite I3).gone hN hi hl fun s4 I4=>⟨v,_,H3,I4.unheld,r3,q3⟩
end
def xD (C:Addr)(fs:List (PyData×PyData)):PyData:=.dict ((.int (C:Nat),.bool true)::fs)
def xD0 (C:Addr):PyData:=.dict [(.int (C:Nat),.bool false)]
section
variable {G:Hp}{v:V}{C:Addr}{ds:List (PyData×PyData)}
theorem AV.xc_inv (h:AV G v (xD C ds)):∃a dx fs,v=.ref a∧G a=some (xcO a C (some dx))∧G dx=some (.xd fs)∧AVf G fs ds:=by
 generalize e:xD C ds=d at h
 cases h with
 |@xc a C' dx fs ds' h1 h2 h3=>
  unfold xD at e
  injection e with e
  injection e with e1 e2
  injection e1 with e1 _
  injection e1 with e1
  have:C=C':=by exact_mod_cast e1
  subst this;subst e2
  exact⟨a,dx,fs,rfl,h1,h2,h3⟩
 |_=>simp[xD] at e
theorem AV.xn_inv (h:AV G v (xD0 C)):∃a,v=.ref a∧G a=some (xcO a C none):=by
 generalize e:xD0 C=d at h
 cases h with
 |@xn a C' h1=>
  unfold xD0 at e
  injection e with e
  injection e with e1 e2
  injection e1 with e1 _
  injection e1 with e1
  have:C=C':=by exact_mod_cast e1
  subst this
  exact⟨a,rfl,h1⟩
 |_=>simp[xD0] at e
end
def isX (C:Addr)(d:PyData):Prop:=(∃fs,d=xD C fs)∨d=xD0 C
theorem isX.at {G:Hp}{v:V}{C:Addr}{d:PyData}(x:isX C d)(h:AV G v d):∃a dx,v=.ref a∧G a=some (xcO a C dx)∧∀y,dx=some y→∃fs,G y=some (.xd fs):=by
 rcases x with ⟨fs,rfl⟩|rfl
 ·obtain⟨a,dx,gs,rfl,h1,h2,_⟩:=h.xc_inv
  exact⟨a,some dx,rfl,h1,fun y e=>by cases e;exact⟨gs,h2⟩⟩
 ·obtain⟨a,rfl,h1⟩:=h.xn_inv
  exact⟨a,none,rfl,h1,fun y e=>by cases e⟩
theorem M.reidx {F:Fr}{α α':Ev}{σ σ':St}{H:Hp}(m:M F α σ H)(f:Nat→Nat)(hl:α'.length=σ'.length)(hf:∀(k:Nat) a s,α'[k]?=some (some a)→σ'[k]?=some s→α[f k]?=some (some a)∧σ[f k]?=some s)(inj:∀(k k':Nat) a a',α'[k]?=some (some a)→α'[k']?=some (some a')→f k=f k'→k=k'):M F α' σ' H:=by
 have ow:∀{y:Addr},Ow F α' σ' y→Ow F α σ y:=fun {y} h=>by
  rcases h with z|⟨i,c,s,e1,e2,fo⟩
  ·exact .inl z
  ·obtain⟨g1,g2⟩:=hf i c s e1 e2
   exact .inr ⟨_,c,s,g1,g2,fo⟩
 have gs:zw (Gz F α σ H) (Gz F α' σ' H):=zo fun a o h e=>⟨fun z=>h (ow z),e⟩
 refine⟨hl,fun i c s e1 e2=>?_,fun i i' c d s s' x e1 e2 h1 h2 f1 f2=>?_,fun i r q e i' c s x e1 e2 fo=>?_,m.tp,m.keep,m.oex⟩
 ·obtain⟨g1,g2⟩:=hf i c s e1 e2
  exact (m.ok _ c s g1 g2).stay gs (fun x o fo e=>⟨e,(m.ft g1 g2 fo).1,(m.ft g1 g2 fo).2.1⟩) rfl fun _ _ _ l=>l
 ·obtain⟨g1,g2⟩:=hf i c s e1 h1
  obtain⟨k1,k2⟩:=hf i' d s' e2 h2
  exact inj i i' c d e1 e2 (m.dj _ _ c d s s' x g1 k1 g2 k2 f1 f2)
 ·have:i<σ'.length:=by rw[←hl];exact (zp5.mp e).1
  obtain⟨g1,_⟩:=hf i _ _ e (zt1 this)
  obtain⟨k1,k2⟩:=hf i' c s e1 e2
  exact m.xd _ r q g1 _ c s x k1 k2 fo
theorem sH {β:Ev}{b:Option A}{k:Nat}{a:A}(h:(β++[b])[k]?=some (some a)):(k<β.length∧β[k]?=some (some a))∨(k=β.length∧b=some a):=by
 rcases Nat.lt_or_ge k β.length with z|z
 ·rw[zr8 z] at h;exact .inl ⟨z,h⟩
 ·rw[zs8 z] at h
  obtain⟨j,hj⟩:∃j,k-β.length=j:=⟨_,rfl⟩
  rw[hj] at h
  cases j with
  |zero=>simp at h;exact .inr ⟨by omega,h⟩
  |succ j=>simp at h
section
variable {F:Fr}{α αh:Ev}{σ:St}{H:Hp}
theorem M.grow (m:M F α σ H):M F (α++[none]) (σ++[none]) H:=by
 have hl:=m.len
 refine m.reidx id (by rw[zq4,zq4,hl];rfl) (fun k a s e1 e2=>?_) fun _ _ _ _ _ _ e=>e
 rcases sH e1 with ⟨z,e⟩|⟨_,e⟩
 ·exact⟨e,by rw[zr8 (by omega)] at e2;exact e2⟩
 ·cases e
theorem M.snoc {v:V}{b:A}{H':Hp}(m:M F α σ H)(t:zH F H')(k:Kz F H H')(hn:∀x,foot (some v) b x→H x=none)(hok:xP (sub (fun x=>¬Ow F α σ x∧¬foot (some v) b x) H') F H' (some v) b)(hx:noX b:=by trivial):M F (α++[some b]) (σ++[some v]) H':=by
 have hl:=m.len
 have mg:=m.grow
 have ow:∀{y:Addr},Ow F (α++[none]) (σ++[none]) y→Ow F α σ y:=fun {y} h=>by
  rcases h with z|⟨i,c,s,e1,e2,fo⟩
  ·exact .inl z
  ·rcases sH e1 with ⟨z,e⟩|⟨_,e⟩
   ·exact .inr ⟨i,c,s,e,by rw[zr8 (by omega)] at e2;exact e2,fo⟩
   ·cases e
 have m2:=mg.store (i:=α.length) (v:=v) (b:=b) t k hn (hok.stay (zo fun a o h e=>⟨⟨fun z=>h.1 (ow z),h.2⟩,e⟩) (fun x o f e=>by
  obtain⟨w1,w2,_⟩:=tJ hok f
  exact⟨e,w1,w2⟩) rfl fun _ _ _ l=>l) hx
 have e1:(α++[none]).set α.length (some b)=α++[some b]:=by rw[zA1 _ _ (zp8 _),zw9]<;>rfl
 have e2:(σ++[none]).set α.length (some v)=σ++[some v]:=by rw[zA1 _ _ (by omega),hl,zw9]<;>rfl
 rw[e1,e2] at m2
 exact m2
theorem M.len' {b:Option A}{s:Option V}(m:M F (α++[b]) (σ++[s]) H):α.length=σ.length:=by
 have:=m.len
 rw[zq4,zq4] at this
 exact Nat.add_right_cancel this
theorem M.lastAt {b:A}{v:V}{i:Nat}(m:M F (α++[some b]) (σ++[some v]) H):M F (α.set i (some b)) (σ.set i (some v)) H:=by
 have hl:=m.len'
 have key:∀{k:Nat} {a:A},(α.set i (some b))[k]?=some (some a)→k<α.length∧((k=i∧a=b)∨(k≠i∧α[k]?=some (some a))):=fun {k a} e=>by
  have hk:=(zp5.mp e).1
  rw[zr2] at hk
  rcases zG e with ⟨rfl,z⟩|⟨z1,z2⟩
  ·cases z;exact⟨hk,.inl ⟨rfl,rfl⟩⟩
  ·exact⟨hk,.inr ⟨fun w=>z1 w.symm,z2⟩⟩
 refine m.reidx (fun k=>if k=i then α.length else k) (by rw[zr2,zr2];exact hl) (fun k a s e1 e2=>?_) fun k k' a a' e e' z=>?_
 ·obtain⟨hk,⟨rfl,rfl⟩|⟨hne,e⟩⟩:=key e1
  ·rw[if_pos rfl]
   rw[zt9 (by omega)] at e2
   cases e2
   exact⟨by rw[zs8 (zp8 _),zw9]<;>rfl,by rw[zs8 (by omega),hl,zw9]<;>rfl⟩
  ·rw[if_neg hne]
   rw[zt4 (fun w=>hne w.symm)] at e2
   exact⟨by rw[zr8 hk];exact e,by rw[zr8 (by omega)];exact e2⟩
 ·have h1:=(key e).1
  have h2:=(key e').1
  by_cases z1:k=i
  ·by_cases z2:k'=i
   ·omega
   ·rw[if_pos z1,if_neg z2] at z;omega
  ·by_cases z2:k'=i
   ·rw[if_neg z1,if_pos z2] at z;omega
   ·rw[if_neg z1,if_neg z2] at z;exact z
theorem dI {S:Addr→Prop}{G H:Hp}{x:Addr}{o:HO}(h:G x=some o)(hs:¬S x)(hn:∀xs,o≠.lst xs):tq S G H x=some o:=by
 unfold tq
 rw[if_neg hs,h]
 cases o<;>first|rfl|exact absurd rfl (hn _)
theorem iJ {S:Addr→Prop}{p:Addr→Prop}{H:Hp}{x:Addr}{o:HO}(h:tq S (sub p H) H x=some o):H x=some o:=by
 rcases sE h with ⟨_,z⟩|⟨_,z⟩
 ·exact z
 ·exact (zf z).2
end
structure Xok (X:Cx)(r:Fr)(αh:Ev)(q:PyData→Prop):Prop where
 ex:∃(X0:Cx) (R:St→Addr→Hp→Prop),X=X0.wish (XE X0 R)∧X0.stack=X0.env::X0.outer∧X0.ex=[]∧∀σ d S a H',M r (αh++[some (.deep d S)]) (σ++[some (.ref a)]) H'→q d→R σ a H'
section
variable {F:Fr}{α αh:Ev}{σ:St}{H:Hp}
theorem M.exc {j:Nat}{q:PyData→Prop}(m:M F α σ H)(hj:α[j]?=some none):M F (α.set j (some (.exc F q))) σ H:=by
 have hs:∀{i:Nat} {c:A},(α.set j (some (.exc F q)))[i]?=some (some c)→(i=j∧c=.exc F q)∨α[i]?=some (some c):=fun {i c} e=>by
  rcases zG e with ⟨rfl,z⟩|⟨_,e'⟩
  ·cases z;exact .inl ⟨rfl,rfl⟩
  ·exact .inr e'
 have ow:∀{y:Addr},Ow F (α.set j (some (.exc F q))) σ y→Ow F α σ y:=fun {y} h=>by
  rcases h with z|⟨i,c,s,e1,e2,f⟩
  ·exact .inl z
  ·rcases hs e1 with ⟨_,rfl⟩|e1
   ·exact f.elim
   ·exact .inr ⟨i,c,s,e1,e2,f⟩
 have gs:zw (Gz F α σ H) (Gz F (α.set j (some (.exc F q))) σ H):=zo fun a o h e=>⟨fun z=>h (ow z),e⟩
 refine⟨by rw[zr2];exact m.len,fun i c s e1 e2=>?_,fun i i' c c' s s' x e1 e2 h1 h2 f1 f2=>?_,fun i r' q' e i' c s x e1 e2 f=>?_,m.tp,m.keep,m.oex⟩
 ·rcases hs e1 with ⟨_,rfl⟩|e1
  ·exact⟨rfl,fun _ z=>z,m.tp,m.keep⟩
  ·exact (m.ok i c s e1 e2).stay gs (fun x o f e=>⟨e,(m.ft e1 e2 f).1,(m.ft e1 e2 f).2.1⟩) rfl fun _ _ _ l=>l
 ·rcases hs e1 with ⟨_,rfl⟩|e1
  ·exact f1.elim
  ·rcases hs e2 with ⟨_,rfl⟩|e2
   ·exact f2.elim
   ·exact m.dj i i' c c' s s' x e1 e2 h1 h2 f1 f2
 ·rcases hs e1 with ⟨_,rfl⟩|e1
  ·exact f.elim
  ·rcases hs e with ⟨_,z⟩|e
   ·cases z;exact (m.ft e1 e2 f).2.1
   ·exact m.xd i r' q' e i' c s x e1 e2 f
theorem M.back {j:Nat}{r:Fr}{q:PyData→Prop}(m:M F α σ H)(hj:α[j]?=some (some (.exc r q)))(hl:αh.length=α.length)(le:∀(i:Nat) a,αh[i]?=some (some a)→α[i]?=some (some a)∧noX a):M r αh σ H:=by
 have l:=m.lnk hj
 have ow:∀{y:Addr},Ow r αh σ y→Ow F α σ y:=fun {y} h=>by
  rcases h with z|⟨i,c,s,e1,e2,f⟩
  ·exact .inl (l.o y z)
  ·exact .inr ⟨i,c,s,(le _ _ e1).1,e2,f⟩
 have gs:zw (Gz F α σ H) (Gz r αh σ H):=zo fun a o h e=>⟨fun z=>h (ow z),e⟩
 refine⟨hl.trans m.len,fun i c s e1 e2=>?_,fun i i' c d s s' x e1 e2=>m.dj i i' c d s s' x (le _ _ e1).1 (le _ _ e2).1,fun i r' q' e=>((le _ _ e).2:False).elim,l.ok,l.k,fun x hx=>m.oex x (l.o x hx)⟩
 refine (m.ok i c s (le _ _ e1).1 e2).stay gs (fun x o f e=>⟨e,fun z=>(m.ft (le _ _ e1).1 e2 f).1 (l.o x z),m.xd j r q hj i c s x (le _ _ e1).1 e2 f⟩) l.tp fun r' q' z=>?_
 subst z
 exact ((le _ _ e1).2:False).elim
end
def leX :Ev→Ev→Prop:=fun αh α=>αh.length=α.length∧∀(i:Nat) a,αh[i]?=some (some a)→α[i]?=some (some a)∧noX a
theorem leX.nil {n:Nat}{α:Ev}(h:n=α.length):leX (List.replicate n none) α:=⟨by rw[zy3];exact h,fun i a e=>by
 rw[zu4] at e
 split at e<;>cases e⟩
theorem leX.cons {x y:Option A}{αh α:Ev}(h:x=none∨(x=y∧∀a,x=some a→noX a))(r:leX αh α):leX (x::αh) (y::α):=⟨by rw[zr1,zr1,r.1],fun i a e=>by
 cases i with
 |zero=>
  simp at e
  rcases h with h|⟨h1,h2⟩
  ·rw[h] at e;cases e
  ·subst h1;subst e;exact⟨rfl,h2 _ rfl⟩
 |succ i=>simpa using r.2 i a (by simpa using e)⟩
theorem leX.nil' :leX [] []:=⟨rfl,fun i a e=>by simp at e⟩
theorem leX.snoc {αh α:Ev}{b:A}(h:leX αh α)(hb:noX b):leX (αh++[some b]) (α++[some b]):=⟨by rw[zq4,zq4,h.1],fun i a e=>by
 rcases sH e with ⟨z,e⟩|⟨z,e⟩
 ·rw[zr8 (by rw[←h.1];exact z)]
  exact h.2 i a e
 ·cases e
  rw[z,h.1,zs8 (zp8 _),zw9]
  exact⟨rfl,hb⟩⟩
theorem M.backS {F:Fr}{α αh:Ev}{σ:St}{H:Hp}{j:Nat}{r:Fr}{q:PyData→Prop}{b:A}{v:V}(m:M F (α++[some b]) (σ++[some v]) H)(hj:α[j]?=some (some (.exc r q)))(le:leX αh α)(hb:noX b):M r (αh++[some b]) (σ++[some v]) H:=by
 have hj':(α++[some b])[j]?=some (some (.exc r q)):=by rw[zr8 (zp5.mp hj).1];exact hj
 exact m.back hj' (le.snoc hb).1 (le.snoc hb).2
theorem rK {r:Fr}{αh:Ev}{σ:St}{H':Hp}{d:PyData}{S:Addr→Prop}{a:Addr}(m:M r (αh++[some (.deep d S)]) (σ++[some (.ref a)]) H'):iY r (.ref a) H' (.deep d S):=by
 obtain⟨v,h1,h2,h3⟩:=m.deep αh.length d S (by rw[zs8 (zp8 _),zw9]<;>rfl)
 rw[m.len',zs8 (zp8 _),zw9] at h1
 cases h1
 exact⟨h2.same (vw (zo fun a o h e=>⟨ow0 h,e⟩) fun _ _ _ e=>e),h3⟩
def spX (φ:List A→(A→Prop)→(PyData→Prop)→Prop):Sp:=fun vs H Qc E=>∃(F:Fr) (as:List A) (Q:A→Prop) (q:PyData→Prop),F.H0=H∧zH F H∧(∀x,F.O0 x→∃o,H x=some o∧wQ o)∧zX F (sub (fun x=>¬F.O0 x) H) vs as∧φ as Q q∧(∀a v H',Q a→xO F v H' a→Qc v H')∧∀d S a H',q d→xO F (.ref a) H' (.deep d S)→E (.ref a) none H'
section
variable {P:Program}{w:World}{K:PySem.W.Frag}{mg:Str→Option Value}{base:Heap}
theorem fnX {x qual:Str}{st:Stmt}{f:Addr}{fd:FuncData}{N ps:List Str}{z:Str}{k:Nat}{φ:List A→(A→Prop)→(PyData→Prop)→Prop}(G:Fun K x qual st f fd)(S:zi (N++[z]) ps (zc st))(hpn:ps.length≤N.length)(hlen:∀as Q q,φ as Q q→as.length=ps.length)
  (hbody:∀(cdv:Value) (A':Around) (outer:List Env) (s:Shared) (H:Hp) (E:XK) (as:List A) (Q:A→Prop) (q:PyData→Prop) (r:Fr) (xe:Value→Shared→Prop),zR k (A'.deeper (envOfC qual (zc st) s.heap.objs.size f cdv))→φ as Q q→Xok ((wq (CX1 P w base) P w K mg base (N++[z]) qual (zc st) f cdv A' outer s H E).wish xe) r (List.replicate (N.length+1) none) q→
   SvS ((wq (CX1 P w base) P w K mg base (N++[z]) qual (zc st) f cdv A' outer s H E).wish xe) ((as.map some++List.replicate (N.length-as.length) none)++[some (.exc r fun _=>True)]) (zC st) {nx:=fun _=>Q (.dat .none),rt:=Q}):zA P w K mg base (CX1 P w base) (k+1) f fd ps (spX φ):=by
 refine G.okX S (fun vs H Q E h=>?_) (fun cdv A' outer s H vs Qc E hr h=>?_)
 ·obtain⟨F,as,Q',q,_,_,_,rv,hφ,_⟩:=h
  rw[rv.length,hlen as _ _ hφ]
 ·obtain⟨F,as,Q',q,e,t,o,rv,hφ,kk,kx⟩:=h
  have hl:=hlen as _ _ hφ
  have m:=M.start (N:=N++[z]) e t o rv
  have ea:as.map some++List.replicate ((N++[z]).length-as.length) none=(as.map some++List.replicate (N.length-as.length) none)++[none]:=by
   rw[zq4,List.length_singleton,show N.length+1-as.length=(N.length-as.length)+1 by omega,List.replicate_succ',List.append_assoc]
  rw[ea] at m
  have el:(as.map some++List.replicate (N.length-as.length) (none:Option A)).length=N.length:=by rw[zq4,zp2,zy3];omega
  have mx:=m.exc (j:=N.length) (q:=fun _=>True) (by rw[zs8 (by omega),el,zw9]<;>rfl)
  have es:((as.map some++List.replicate (N.length-as.length) (none:Option A))++[none]).set N.length (some (A.exc F fun _=>True))=(as.map some++List.replicate (N.length-as.length) none)++[some (.exc F fun _=>True)]:=by
   rw[zA1 _ _ (by omega),el,zw9]<;>rfl
  rw[es] at mx
  refine hbody cdv A' outer s H E as Q' q F _ hr hφ ⟨_,_,rfl,rfl,rfl,fun σ d S a H' mr qd=>kx d S a H' qd ⟨mr.tp,mr.keep,rK mr⟩⟩ F _ H _ mx ⟨fun α σ H' m q=>?_,fun a v H' r q=>kk a v H' q r,fun _ _ _ _ z=>z.elim,fun _ _ _ _ z=>z.elim⟩
  exact kk _ _ _ q ⟨m.tp,m.keep,.non⟩
end
structure cR (P:Program)(w:World)(K:PySem.W.Frag)(mg:Str→Option Value)(base:Heap)(x:Str)(k:Nat)(φ:List A→(A→Prop)→(PyData→Prop)→Prop):Prop where
 ex:∃f fd ps,mg x=some (.ref f)∧PySem.W.keepIn K (.ref f)=true∧Binds K fd ps []∧zA P w K mg base (CX1 P w base) k f fd ps (spX φ)
structure zc9 (K:PySem.W.Frag)(mg:Str→Option Value)(x:Str)(C:Addr):Prop where
 m:mg x=some (.ref C)
 kp:PySem.W.keepIn K (.ref C)=true
 ex:∃S,vm K C S none=true
section
variable {X:Cx}{α αh:Ev}{r:Fr}{q q0:PyData→Prop}{j k:Nat}{x fl:Str}{C:Addr}{e:Expr}{es:List Expr}{p pos pos':Pos}{rest:List Stmt}{E:yE}
theorem jl (xo:Xok X r αh q)(hc:X.calm=true)(ck:zc9 X.K X.mg x C)(hg:Gl X x)(hj:α[j]?=some (some (.exc r q0)))(le:leX αh α)(h:EvD X α e fun _=>q (xD0 C))
  (hdb:(x == ("__debug__":Str))=false:=by decide) (he:starEach [e] X.env=(false,eval e X.env)::starEach [] X.env:=by rfl):SvS X α (.Raise (some (.Call (.Name x p) [e] [] pos)) none pos'::rest) E:=fun F σ H D m rr=>by
 obtain⟨X0,R,rfl,h1,h2,h3⟩:=xo.ex
 obtain⟨S,c⟩:=ck.ex
 refine⟨_,zE (eA c hc (ir (X:=X0.wish (XE X0 R)) c ck.kp hg ck.m (zd zg zp he) hdb he)) zP,?_⟩
 refine h F σ H _ m fun d v H1 q1 t1 k1 r1=>?_
 refine⟨zp4 rfl,fun a ha=>⟨a,none,rfl,zh,?_⟩⟩
 have m1:=m.kz k1 t1
 rw[tE]
 have sm:zw H1 (upd H1 a (xcO a C none)):=fun y o e=>by rw[zl (fun z=>by rw[z,ha] at e;cases e)];exact e
 have m3:=m1.snoc (v:=.ref a) (b:=.deep (xD0 C) fun _=>False) (H':=upd H1 a (xcO a C none)) (m1.tp.same sm) (Kz.of_same sm) (fun x z=>z.elim) ⟨_,rfl,.xn (dI (zJ ⟨m1.fresh ha,fun z=>z⟩ zh) (fun z=>z) fun xs z=>by cases z),fun x z=>z.elim⟩
 exact h3 σ _ _ a _ (m3.backS hj le trivial) q1
theorem gc {X0:Cx}{R:St→Addr→Hp→Prop}{f:Addr}{fd:FuncData}{ps:List Str}{sp:Sp}{t:TA}(hex:X0.ex=[])(F:zA X0.prog X0.w X0.K X0.mg X0.base (CX1 X0.prog X0.w X0.base) k f fd ps sp)(hr:zR k X0.A)(hg:Gl X0 x)(hm:X0.mg x=some (.ref f))(hk:PySem.W.keepIn X0.K (.ref f)=true)(hb:Binds X0.K fd ps [])
  (ha:PA (X0.wish (XE X0 R)) (e::es) t) (hdb:(x == ("__debug__":Str))=false:=by decide) (he:starEach (e::es) X0.env=(false,eval e X0.env)::starEach es X0.env:=by rfl) (hpl:(backTo pos (starEach es X0.env)).any (·.1)=false:=by rfl):
  PE (X0.wish (XE X0 R)) (.Call (.Name x p) (e::es) [] pos) (fun σ H Q=>t σ H fun vs H1=>∃E:XK,(∀a H',E (.ref a) none H'→R σ a H')∧sp vs H1 Q E):=by
 intro pins s σ H Q I h
 refine zv7 (xX I hg hm ?_ hdb)
 refine zw7 (h₀:=X0.base) I.ok.mod.kin hk (thn (ha pos pins s σ H _ I h) fun us s1 ⟨vs,H1,I1,r,E,hE,q⟩=>⟨I1.kIn,?_⟩) he hpl
 have hl:(us++[]).length=ps.length:=by rw[zw2,←r.length];exact F.len _ _ _ _ q
 have hbb:=hb s1 us I1.kIn hl
 rw[zw2] at hbb
 refine zy0 (zz0 (F.run X0.A X0.stack s1 H1 ⟨us,[]⟩ us vs Q E hr I1.env0 hbb r q) fun r s' hq=>?_)
 cases r with
 |error e=>exact bu hex I1.unwish hq hE
 |ok fl=>
  cases fl with
  |ret u=>exact I1.after hq
  |next=>exact False.elim hq
  |brk=>exact False.elim hq
  |cont=>exact False.elim hq
variable {φ:List A→(A→Prop)→(PyData→Prop)→Prop}{Q:PyData→Prop}
theorem nA {F:Fr}{σ:St}{H:Hp}{vs:List V}{as:List A}{QA:A→Prop}{Rk:VK}{R:St→Addr→Hp→Prop}(m:M F α σ H)(hj:α[j]?=some (some (.exc r q0)))(le:leX αh α)(h3:∀σ d S a H',M r (αh++[some (.deep d S)]) (σ++[some (.ref a)]) H'→q d→R σ a H')(rv:zX F (Gz F α σ H) vs as)(hφ:φ as QA q)
  (kk:∀a v H',QA a→xO ⟨H,Ow F α σ,F.tp⟩ v H' a→Rk v H'):∃E:XK,(∀a H',E (.ref a) none H'→R σ a H')∧spX φ vs H Rk E:=by
 refine⟨fun v _ H'=>∃a,v=.ref a∧∃d S,q d∧xO ⟨H,Ow F α σ,F.tp⟩ (.ref a) H' (.deep d S),fun a H' ⟨a',e,d,S,qd,ra⟩=>?_,⟨⟨H,Ow F α σ,F.tp⟩,as,QA,q,rfl,m.tp.to rfl fun _ z=>.inl z,fun y z=>m.owEx z,zX.to (F:=F) (F':=⟨H,Ow F α σ,F.tp⟩) (fun _ _ e=>e) rfl rv,hφ,kk,fun d S a H' qd ra=>⟨a,rfl,d,S,qd,ra⟩⟩⟩
 cases e
 obtain⟨g1,g2,_⟩:=ra.back m
 obtain⟨_,_,g3,g4⟩:=ra
 have m3:=m.snoc (v:=.ref a) (b:=.deep d S) (H':=H') g1 g2 (fun x z=>(g4 x z).2.1) ⟨_,rfl,g3.same fun x o e=>?_,fun x z=>⟨ow0 (g4 x z).1,m.fresh0 (g4 x z).2.1,(g4 x z).2.2⟩⟩
 ·exact h3 σ d S a H' (m3.backS hj le trivial) qd
 ·unfold tq at e ⊢
  by_cases z:S x
  ·rw[if_pos z] at e ⊢;exact e
  ·rw[if_neg z] at e ⊢
   cases q:sub (fun x=>¬Ow F α σ x) H' x with
   |none=>rw[q] at e;cases e
   |some u=>
    obtain⟨w1,w2⟩:=zf q
    rw[zJ (p:=fun x=>¬Ow F α σ x∧¬foot (some (V.ref a)) (.deep d S) x) ⟨w1,z⟩ w2]
    rw[q] at e
    exact e
theorem bN {Q:List PyData→Prop}(xo:Xok X r αh q)(hj:α[j]?=some (some (.exc r q0)))(le:leX αh α)(C:cR X.prog X.w X.K X.mg X.base x k φ)(hr:zR k X.A)(hg:Gl X x)(h:EvA X α (e::es) fun as=>φ as (fun a=>∃ds,a=.own ds∧Q ds) q)
  (hdb:(x == ("__debug__":Str))=false:=by decide) (he:starEach (e::es) X.env=(false,eval e X.env)::starEach es X.env:=by rfl) (hpl:(backTo pos (starEach es X.env)).any (·.1)=false:=by rfl):EvL X α (.Call (.Name x p) (e::es) [] pos) Q:=fun F σ H Rk m kk=>by
 obtain⟨X0,R,rfl,h1,h2,h3⟩:=xo.ex
 obtain⟨f,fd,ps,c1,c2,c3,c4⟩:=C.ex
 refine⟨_,gc h2 c4 hr hg c1 c2 c3 yZ hdb he hpl,?_⟩
 refine h F σ H _ m fun as vs H1 q1 t1 k1 r1=>?_
 have m1:=m.kz k1 t1
 refine nA m1 hj le h3 r1 q1 fun a v H' qa ra=>?_
 obtain⟨ds,rfl,qd⟩:=qa
 obtain⟨g1,g2,_⟩:=ra.back m1
 obtain⟨_,_,l,xs,ds',rfl,hc,w1,w2,w3,w4⟩:=ra
 cases hc
 exact kk ds _ H' qd g1 (k1.trans g2) (yR.back m k1 t1 ⟨l,xs,rfl,w1,w3,w4⟩)
end
section
variable {P:Program}{w:World}{K:PySem.W.Frag}{mg:Str→Option Value}{base:Heap}
theorem zn2 {x qual:Str}{st:Stmt}{f:Addr}{fd:FuncData}{N ps:List Str}{z:Str}{k:Nat}{φ:List A→(A→Prop)→(PyData→Prop)→Prop}(G:Fun K x qual st f fd)(hm:mg x=some (.ref f))(hb:Binds K fd ps [])(S:zi (N++[z]) ps (zc st))(hpn:ps.length≤N.length)(hlen:∀as Q q,φ as Q q→as.length=ps.length)
  (hbody:∀(cdv:Value) (A':Around) (outer:List Env) (s:Shared) (H:Hp) (E:XK) (as:List A) (Q:A→Prop) (q:PyData→Prop) (r:Fr) (xe:Value→Shared→Prop),zR k (A'.deeper (envOfC qual (zc st) s.heap.objs.size f cdv))→φ as Q q→Xok ((wq (CX1 P w base) P w K mg base (N++[z]) qual (zc st) f cdv A' outer s H E).wish xe) r (List.replicate (N.length+1) none) q→
   SvS ((wq (CX1 P w base) P w K mg base (N++[z]) qual (zc st) f cdv A' outer s H E).wish xe) ((as.map some++List.replicate (N.length-as.length) none)++[some (.exc r fun _=>True)]) (zC st) {nx:=fun _=>Q (.dat .none),rt:=Q}):cR P w K mg base x (k+1) φ:=
 ⟨f,fd,ps,hm,G.kp,hb,fnX G S hpn hlen hbody⟩
end
section
variable {X:Cx}{α αh:Ev}{q:PyData→Prop}{i j:Nat}{x n:Str}{B:Addr}{body suite rest:List Stmt}{b0:Stmt}{np hpos pos:Pos}{E:yE}
theorem mF {K:PySem.W.Frag}{r:Fr}{αh:Ev}(hq:∀d,q d→∃C,isX C d∧XB K C B):kA K B (fun σ a H=>∃d S,M r (αh++[some (.deep d S)]) (σ++[some (.ref a)]) H∧q d):=fun σ a H ⟨d,S,m,qd⟩=>by
 obtain⟨C,x,b⟩:=hq d qd
 obtain⟨av,_⟩:=rK m
 obtain⟨a',dx,e,h1,h2⟩:=x.at av
 cases e
 exact⟨C,dx,iJ h1,fun y e=>by obtain⟨fs,h⟩:=h2 y e;exact⟨fs,iJ h⟩,b⟩
theorem pj {β:Ev}{j:Nat}{a:A}{i:Nat}(e:(β.set j none)[i]?=some (some a)):β[i]?=some (some a):=by
 rcases zG e with ⟨_,z⟩|⟨_,z⟩
 ·cases z
 ·exact z
theorem M.drop {F:Fr}{β:Ev}{σ:St}{H:Hp}{j:Nat}(m:M F β σ H):M F (β.set j none) σ H:=m.forget (by rw[zr2]) fun i a e=>pj e
theorem M.dropS {F:Fr}{β:Ev}{σ:St}{H:Hp}{j:Nat}(m:M F β σ H):M F (β.set j none) (σ.set j none) H:=by
 have m':=m.drop (j:=j)
 have gs:∀{i:Nat} {a:A} {s:Option V},(β.set j none)[i]?=some (some a)→(σ.set j none)[i]?=some s→σ[i]?=some s:=fun {i a s} e1 e2=>by
  by_cases z:j=i
  ·subst z
   rcases zG e1 with ⟨_,z⟩|⟨z,_⟩
   ·cases z
   ·exact absurd rfl z
  ·rw[zt4 z] at e2;exact e2
 have ow:∀{y:Addr},Ow F (β.set j none) (σ.set j none) y→Ow F (β.set j none) σ y:=fun {y} h=>by
  rcases h with z|⟨i,c,s,e1,e2,f⟩
  ·exact .inl z
  ·exact .inr ⟨i,c,s,e1,gs e1 e2,f⟩
 have gz:zw (Gz F (β.set j none) σ H) (Gz F (β.set j none) (σ.set j none) H):=zo fun a o h e=>⟨fun z=>h (ow z),e⟩
 exact⟨by rw[zr2,zr2];exact m.len,fun i c s e1 e2=>(m'.ok i c s e1 (gs e1 e2)).stay gz (fun x o f e=>⟨e,(m'.ft e1 (gs e1 e2) f).1,(m'.ft e1 (gs e1 e2) f).2.1⟩) rfl fun _ _ _ l=>l,fun i i' c d s s' x e1 e2 h1 h2=>m'.dj i i' c d s s' x e1 e2 (gs e1 h1) (gs e2 h2),fun i r' q' e i' c s x e1 e2=>m'.xd i r' q' e i' c s x e1 (gs e1 e2),m'.tp,m'.keep,m'.oex⟩
theorem nE (i j:Nat)(αh:Ev)(q:PyData→Prop)(hst:X.stack=X.env::X.outer)(hex:X.ex=[])(hN:X.N.Nodup)(hj:α[j]?=some none)(le:leX αh α)(hg:Gl X x)(hm:X.mg x=some (.ref B))(hq:∀d,q d→∃C,isX C d∧XB X.K C B)
  (h1:∀(pins:List (Addr×Obj)) (xe:Value→Shared→Prop) (r:Fr),Xok ((X.held pins).wish xe) r αh q→SvS ((X.held pins).wish xe) (α.set j (some (.exc r fun _=>True))) body {nx:=fun α'=>SvS X (α'.set j none) rest E,rt:=E.rt,bk:=fun α'=>E.bk (α'.set j none),ct:=fun α'=>E.ct (α'.set j none)})
  (h2:∀(pins:List (Addr×Obj)) (a:Addr) d S,q d→SvS ((X.held pins).suite a) (αh.set i (some (.deep d S))) (b0::suite) {nx:=fun α'=>SvS X (α'.set i none) rest E,rt:=E.rt,bk:=fun α'=>E.bk (α'.set i none),ct:=fun α'=>E.ct (α'.set i none)})
  (hi:X.N[i]?=some n:=by rfl) (hl:X.env.scope.names.lookup n=some .local:=by rfl) (hdb:(x == ("__debug__":Str))=false:=by decide):
  SvS X α (.Try body [.ExceptHandler (some (.Name x np)) (some n) (b0::suite) hpos] [] [] pos::rest) E:=fun F σ H D m rr=>by
 refine⟨_,zE (fq (R:=fun σ a H=>∃d S,M F (αh++[some (.deep d S)]) (σ++[some (.ref a)]) H∧q d) hst hN hi hl hg hm (mF hq) hdb) zP,fun pins=>?_,fun pins a σ' H' hR=>?_⟩
 ·refine h1 pins _ F ⟨_,_,rfl,hst,hex,fun σ d S a H' mr qd=>⟨d,S,mr,qd⟩⟩ F σ H _ (m.exc hj) ⟨fun α' σ' H' m' z=>?_,rr.rt,fun α' σ' H' m' z=>rr.bk _ _ _ m'.drop z,fun α' σ' H' m' z=>rr.ct _ _ _ m'.drop z⟩
  exact z F σ' H' D m'.drop rr
 ·obtain⟨d,S,mr,qd⟩:=hR
  refine h2 pins a d S qd F _ H' _ mr.lastAt ⟨fun α' σ' H' m' z=>?_,rr.rt,fun α' σ' H' m' z=>rr.bk _ _ _ m'.dropS z,fun α' σ' H' m' z=>rr.ct _ _ _ m'.dropS z⟩
  exact z F _ H' D m'.dropS rr
end
section
variable {X:Cx}{α:Ev}{p p1 pos:Pos}{a:Expr}{Q:PyData→Prop}{C S:Addr}{init:Option Value}
inductive TyX (K:PySem.W.Frag)(H:Hp):V→Addr→Prop where
 |mk {a C S:Addr} {d:Option Addr} {init:Option Value} (e:H a=some (xcO a C d)) (hd:∀dx,d=some dx→∃fs,H dx=some (.xd fs)) (c:XC K C S init):TyX K H (.ref a) C
theorem sV {pins:List (Addr×Obj)}{σ:St}{H:Hp}{s:Shared}{A:Around}{E:Value→Shared→Prop}{Q:Value→Shared→Prop}{c:Value}{b:Bool}{x:V}{u:Value}(I:Inv X pins σ H s)(rx:RelV x u)(ty:TyX X.K H x C)(e:PySem.W.kitOne X.K (.ref C) c=some b)(h:∀tk,Q (.bool b) {s with toks:=tk}):
  wpAny (model X.prog X.w) A (call (.builtin "isinstance") [u,c]) Q E s:=by
 cases ty with
 |@mk a C S d init ea hd xc=>
  cases (show u=Value.ref a from rx)
  obtain⟨ox,od,J,_⟩:=kG I.hok ea hd
  exact zt8 (gn xc) I.kIn J e (fun z=>nomatch z) h
theorem jF :xQ X (.builtin "isinstance") (fun xs H Q=>∃x B C b,xs=[x,.ref B]∧TyX X.K H x C∧PySem.W.kitOne X.K (.ref C) (.ref B)=some b∧Q (.bl b) H):=by
 intro pins s σ H xs us Q I r h
 obtain⟨x,B,C,b,rfl,ty,e,q⟩:=h
 obtain⟨u,v,rfl,rx,ry⟩:=Vals.two r
 cases (show v=Value.ref B from ry)
 exact sV I rx ty e fun tk=>⟨.bl b,H,I.tok tk,rfl,q⟩
theorem lD :xQ X (.builtin "isinstance") (fun xs H Q=>∃x T C b,xs=[x,.ty T]∧TyX X.K H x C∧PySem.W.kitOne X.K (.ref C) (.type T)=some b∧Q (.bl b) H):=by
 intro pins s σ H xs us Q I r h
 obtain⟨x,T,C,b,rfl,ty,e,q⟩:=h
 obtain⟨u,v,rfl,rx,ry⟩:=Vals.two r
 cases (show v=Value.type T from ry)
 exact sV I rx ty e fun tk=>⟨.bl b,H,I.tok tk,rfl,q⟩
theorem ed {G H:Hp}{pr:Addr→Prop}{v:V}{d:PyData}(x:isX C d)(c:XC X.K C S init)(h:AV (sub pr H) v d):TyX X.K H v C:=by
 obtain⟨a,dx,rfl,h1,h2⟩:=x.at h
 exact .mk (zf h1).2 (fun y e=>by obtain⟨fs,z⟩:=h2 y e;exact⟨fs,(zf z).2⟩) c
theorem vC {B:Addr}{x:Str}(hg:Gl X "isinstance")(hm:X.mg "isinstance"=none)(hgC:Gl X x)(hmC:X.mg x=some (.ref B))(h:EvD X α a fun d=>∃C S init b,isX C d∧XC X.K C S init∧PySem.W.kitOne X.K (.ref C) (.ref B)=some b∧Q (.bool b))
  (hdx:(x == ("__debug__":Str))=false:=by decide) (he:starEach [a,.Name x p1] X.env=(false,eval a X.env)::starEach [.Name x p1] X.env:=by rfl) (he2:starEach [.Name x p1] X.env=(false,eval (.Name x p1) X.env)::starEach [] X.env:=by rfl) (hpl:(backTo pos (starEach [.Name x p1] X.env)).any (·.1)=false:=by rfl):
  EvD X α (.Call (.Name "isinstance" p) [a,.Name x p1] [] pos) Q:=fun F σ H R m k=>by
 refine⟨_,yz jF hg hm zw4 (zd zg (zd (vv (v:=.ref B) hgC hmC rfl hdx) zp he2) he) (he:=he) (hpl:=hpl),?_⟩
 refine h F σ H _ m fun d vx H1 q1 t1 k1 r1=>?_
 obtain⟨C,S,init,b,x,c,e,q⟩:=q1
 exact⟨vx,B,C,b,rfl,ed (G:=H1) x c r1,e,k _ _ H1 q t1 k1 (.bl b)⟩
theorem gI {T:String}{x:Str}(hg:Gl X "isinstance")(hm:X.mg "isinstance"=none)(hgC:Gl X x)(hmC:X.mg x=none)(hv:bootBuiltins x=some (.type T))(h:EvD X α a fun d=>∃C S init b,isX C d∧XC X.K C S init∧PySem.W.kitOne X.K (.ref C) (.type T)=some b∧Q (.bool b))(hn:x≠"__name__":=by decide)
  (hdx:(x == ("__debug__":Str))=false:=by decide) (he:starEach [a,.Name x p1] X.env=(false,eval a X.env)::starEach [.Name x p1] X.env:=by rfl) (he2:starEach [.Name x p1] X.env=(false,eval (.Name x p1) X.env)::starEach [] X.env:=by rfl) (hpl:(backTo pos (starEach [.Name x p1] X.env)).any (·.1)=false:=by rfl):
  EvD X α (.Call (.Name "isinstance" p) [a,.Name x p1] [] pos) Q:=fun F σ H R m k=>by
 refine⟨_,yz lD hg hm zw4 (zd zg (zd (wM hgC hmC hv (show RelV (.ty T) (.type T) from rfl) hn hdx) zp he2) he) (he:=he) (hpl:=hpl),?_⟩
 refine h F σ H _ m fun d vx H1 q1 t1 k1 r1=>?_
 obtain⟨C,S,init,b,x,c,e,q⟩:=q1
 exact⟨vx,T,C,b,rfl,ed (G:=H1) x c r1,e,k _ _ H1 q t1 k1 (.bl b)⟩
end
section
variable {X:Cx}{α:Ev}{pos:Pos}{o:Expr}{f:Str}{Q:PyData→Prop}{C S:Addr}{init:Option Value}
end
section
variable {P:Program}{w:World}{K:PySem.W.Frag}{mg:Str→Option Value}{base:Heap}
end
section
variable {X:Cx}{α αh:Ev}{r:Fr}{q q0:PyData→Prop}{j k:Nat}{x fl:Str}{C:Addr}{e:Expr}{es:List Expr}{p pos pos':Pos}{rest:List Stmt}{E:yE}
end
section
variable {P:Program}{w:World}{K:PySem.W.Frag}{mg:Str→Option Value}{base:Heap}
end
def nF (K:Frag)(C S:Addr)(init:Option Value):Bool:=vm K C S init&&findIn K (.ref C) "__setattr__" == some (some (.builtin "object.__setattr__"))&&findIn K (.ref C) "__getattribute__" == some (some (.builtin "BaseException.__getattribute__"))&&findIn K (.ref C) "__getattr__" == some none&&findIn K (.ref C) "__class__" == some (some (.builtin "object.__class__"))&&specialIn K (.builtin "object.__class__") "__get__" == some (some (.builtin "getset_descriptor.__get__"))&&takesIn K (.builtin "object.__class__")==some true
theorem XC.of {K:Frag}{C S:Addr}{init:Option Value}(h:nF K C S init=true):XC K C S init:=by
 simp only[nF,zq8,zx9] at h
 obtain⟨⟨⟨⟨⟨⟨h1,h2⟩,h3⟩,h4⟩,h5⟩,h6⟩,h7⟩:=h
 exact⟨h1,h2,h3,h4,h5,h6,h7⟩
def fj (K:Frag)(C B:Addr):Bool:=typeIn K (.ref B)==some (.type "type")&&mroIn K B (.type "BaseException")==some true&&mroIn K C (.ref B)==some true
theorem XB.of {K:Frag}{C B:Addr}(h:fj K C B=true):XB K C B:=by
 simp only[fj,zq8,zx9] at h
 exact⟨h.1.1,h.1.2,h.2⟩
section
variable {P:Program}{w:World}{K:PySem.W.Frag}{mg:Str→Option Value}{base:Heap}
end
section
variable {X:Cx}{α αh:Ev}{r:Fr}{q q0:PyData→Prop}{j k:Nat}{x fl:Str}{C:Addr}{e:Expr}{es:List Expr}{p pos pos':Pos}{rest:List Stmt}{E:yE}{Q:PyData→Prop}{φ:List A→(PyData→Prop)→Prop}
end
def zk0 :Option A→Option A
 |some .tape=>none
 |some (.exc _ _)=>none
 |a=>a
def xk (α:Ev):Ev:=α.map zk0
def gZ :A→Prop
 |.tape=>False
 |.exc _ _=>False
 |_=>True
theorem xF {α:Ev}{i:Nat}{a:A}(h:(xk α)[i]?=some (some a)):α[i]?=some (some a)∧gZ a:=by
 unfold xk at h
 rw[zq7,zq3] at h
 obtain⟨b,h1,h2⟩:=h
 cases b with
 |none=>cases h2
 |some b=>cases b<;>cases h2<;>exact⟨h1,trivial⟩
theorem xP.to {G G':Hp}{F F':Fr}{H H':Hp}{s:Option V}{a:A}(ka:gZ a)(h:xP G F H s a)(g:zw G G')(hf:∀x o,foot s a x→H x=some o→H' x=some o∧¬F'.O0 x∧F'.H0 x=none):xP G' F' H' s a:=by
 cases a with
 |dat d=>obtain⟨v,h1,h2⟩:=h;exact⟨v,h1,h2.same g⟩
 |ow c=>
  obtain⟨l,o,h1,h2,h3,h4,h5⟩:=h
  obtain⟨z1,z2,z3⟩:=hf l o h1 h2
  exact⟨l,o,h1,z1,h3.same g,z2,z3⟩
 |deep d S=>
  obtain⟨v,h1,h2,h3⟩:=h
  refine⟨v,h1,h2.same (vw g fun x o z e=>(hf x o z e).1),fun x z=>?_⟩
  obtain⟨_,_,xs,e⟩:=h3 x z
  obtain⟨z1,z2,z3⟩:=hf x _ z e
  exact⟨z2,z3,xs,z1⟩
 |tape=>exact ka.elim
 |«at» l=>exact h
 |exc r q=>exact ka.elim
 |pin l vs ds=>exact⟨h.1,g _ _ h.2.1,h.2.2.same g⟩
def Tp (F:Fr)(x:Addr):Prop:=∃t b c,F.tp=some (t,b,c)∧(x=t∨x=b∨x=c)
noncomputable instance tpDec (F:Fr)(x:Addr):Decidable (Tp F x):=Classical.propDecidable _
noncomputable def Fr.row (F:Fr)(H:Hp)(l:Addr):Fr:=⟨fun x=>if Tp F x then H x else F.H0 x,fun x=>F.O0 x∨x=l,some (l,l,l)⟩
section
variable {F:Fr}{α α':Ev}{σ σ':St}{H H':Hp}{l:Addr}
theorem Tp.own (t:zH F H){x:Addr}(h:Tp F x):F.O0 x:=by
 obtain⟨a,b,c,e,z⟩:=h
 obtain⟨_,h1,h2,h3⟩:=t a b c e
 rcases z with z|z|z
 ·rw[z];exact h1
 ·rw[z];exact h2
 ·rw[z];exact h3
theorem Tp.lst (t:zH F H){x:Addr}(h:Tp F x):∃xs,H x=some (.lst xs):=by
 obtain⟨a,b,c,e,z⟩:=h
 obtain⟨n,bs,cs,n1,e1,e2,e3,_⟩:=(t a b c e).1.ex
 rcases z with z|z|z
 ·rw[z];exact⟨_,e1⟩
 ·rw[z];exact⟨_,e2⟩
 ·rw[z];exact⟨_,e3⟩
theorem Tp.noTab (t:zH F H){x:Addr}(h:Tp F x):¬uY x:=fun z=>by
 obtain⟨o,e,_,n⟩:=tF t.tab z
 obtain⟨xs,e2⟩:=Tp.lst t h
 rw[e] at e2;cases e2
 exact n _ rfl
theorem oY (t:zH F H){x:Addr}(h:(F.row H l).H0 x=none):F.H0 x=none:=by
 have h':(if Tp F x then H x else F.H0 x)=none:=h
 split at h'
 ·rename_i q
  obtain⟨xs,e⟩:=Tp.lst t q
  rw[e] at h';cases h'
 ·exact h'
theorem M.row {i:Nat}{x y:Int}(m:M F α σ H)(hi:α[i]?=some (some (.own [.int x,.int y])))(h0:0≤y)(h1:y<4294967296):∃l,F.H0 l=none∧¬F.O0 l∧M (F.row H l) ((xk α).set i (some .tape)) σ H:=by
 obtain⟨l,xs,e1,e2,e3,e4,e5⟩:=m.own i _ hi
 have ex:xs=[.int x,.int y]:=by
  cases e3 with
  |cons a r=>
   cases r with
   |cons b r=>
    cases r
    rw[a.int_inv,b.int_inv]
 subst ex
 have old:∀{j:Nat} {a:A},((xk α).set i (some .tape))[j]?=some (some a)→(i=j∧a=.tape)∨(i≠j∧α[j]?=some (some a)∧gZ a):=fun {j a} e=>by
  rcases zG e with ⟨z,w⟩|⟨z,w⟩
  ·cases w;exact .inl ⟨z,rfl⟩
  ·obtain⟨w1,w2⟩:=xF w
   exact .inr ⟨z,w1,w2⟩
 have ow:∀{z:Addr},Ow (F.row H l) ((xk α).set i (some .tape)) σ z→Ow F α σ z:=fun {z} h=>by
  rcases h with (h|h)|⟨j,a,s,w1,w2,w3⟩
  ·exact .inl h
  ·rw[h];exact .inr ⟨i,_,_,hi,e1,rfl⟩
  ·rcases old w1 with ⟨_,q⟩|⟨_,q,_⟩
   ·subst q;exact w3.elim
   ·exact .inr ⟨j,a,s,q,w2,w3⟩
 have gs:zw (Gz F α σ H) (Gz (F.row H l) ((xk α).set i (some .tape)) σ H):=zo fun a o h e=>⟨fun z=>h (ow z),e⟩
 refine⟨l,e5,e4,?_,fun j a s q1 q2=>?_,fun j j' a b s t z q1 q2 q3 q4 f1 f2=>?_,fun j r q e=>?_,⟨m.tp.tab,fun x h=>.inl (m.tp.ot x h),fun t b c e=>?_⟩,fun z o e n=>?_,fun z hz=>?_⟩
 ·rw[zr2]
  unfold xk
  rw[zp2]
  exact m.len
 ·rcases old q1 with ⟨z,q⟩|⟨hj,q,ka⟩
  ·subst z q
   rw[e1] at q2;cases q2
   exact⟨l,l,l,rfl,rfl⟩
  ·refine (m.ok j a s q q2).to ka gs fun x o f e=>?_
   obtain⟨g1,g2,_⟩:=m.ft q q2 f
   refine⟨e,fun z=>z.elim g1 fun z=>hj (m.dj i j _ _ _ _ x hi q e1 q2 (by rw[z];exact rfl) f),?_⟩
   show (if Tp F x then H x else F.H0 x)=none
   rw[if_neg fun z=>g1 (Tp.own m.tp z)]
   exact g2
 ·rcases old q1 with ⟨_,q⟩|⟨_,w1,_⟩
  ·subst q;exact f1.elim
  ·rcases old q2 with ⟨_,q⟩|⟨_,w2,_⟩
   ·subst q;exact f2.elim
   ·exact m.dj j j' a b s t z w1 w2 q3 q4 f1 f2
 ·rcases old e with ⟨_,q⟩|⟨_,_,ka⟩
  ·cases q
  ·exact ka.elim
 ·cases e
  exact⟨⟨0,[x,y],[x,y],⟨rfl,rfl⟩,e2,e2,e2,⟨x,y,rfl,h0,h1⟩,rfl⟩,.inr rfl,.inr rfl,.inr rfl⟩
 ·have e':(if Tp F z then H z else F.H0 z)=some o:=e
  split at e'
  ·exact e'
  ·rename_i q
   exact m.keep z o e' ⟨fun t b c w=>⟨fun y=>q ⟨t,b,c,w,.inl y⟩,fun y=>q ⟨t,b,c,w,.inr (.inl y)⟩⟩,n.2⟩
 ·rcases hz with z|z
  ·exact m.oex _ z
  ·exact⟨_,by rw[z];exact e2,we⟩
theorem zH.unrow (t:zH F H)(hl:¬F.O0 l)(tb:TabAt H')(k:Kz (F.row H l) (F.row H l).H0 H'):zH F H':=⟨tb,t.ot,fun a b c e=>by
 obtain⟨h1,h2,h3,h4⟩:=t a b c e
 refine⟨h1.off fun z hz=>?_,h2,h3,h4⟩
 have tz:Tp F z:=⟨a,b,c,e,hz⟩
 have oz:F.O0 z:=Tp.own t tz
 have nl:z≠l:=fun q=>hl (by rw[←q];exact oz)
 obtain⟨xs,ho⟩:=Tp.lst t tz
 rw[ho]
 refine k z _ ?_ ⟨fun t' b' c' w=>by cases w;exact⟨nl,nl⟩,Tp.noTab t tz⟩
 show (if Tp F z then H z else F.H0 z)=some _
 rw[if_pos tz];exact ho⟩
theorem Kz.unrow (m:M F α σ H)(h0:F.H0 l=none)(k:Kz (F.row H l) (F.row H l).H0 H'):Kz F F.H0 H':=fun x o e n=>by
 have nl:x≠l:=fun q=>by rw[q,h0] at e;cases e
 refine k x o ?_ ⟨fun t' b' c' w=>by cases w;exact⟨nl,nl⟩,n.2⟩
 show (if Tp F x then H x else F.H0 x)=some o
 split
 ·exact m.keep x o e n
 ·exact e
theorem M.unrow (m:M F α σ H)(h0:F.H0 l=none)(hl:¬F.O0 l)(m':M (F.row H l) α' σ' H'):M F (xk α') σ' H':=by
 have ow:∀{z:Addr},Ow F (xk α') σ' z→Ow (F.row H l) α' σ' z:=fun {z} h=>by
  rcases h with h|⟨j,a,s,w1,w2,w3⟩
  ·exact .inl (.inl h)
  ·exact .inr ⟨j,a,s,(xF w1).1,w2,w3⟩
 have gs:zw (Gz (F.row H l) α' σ' H') (Gz F (xk α') σ' H'):=zo fun a o h e=>⟨fun z=>h (ow z),e⟩
 refine⟨?_,fun j a s q1 q2=>?_,fun j j' a b s t z q1 q2=>m'.dj j j' a b s t z (xF q1).1 (xF q2).1,fun j r q e=>?_,m.tp.unrow hl m'.tp.tab m'.keep,Kz.unrow m h0 m'.keep,fun z hz=>m'.oex z (.inl hz)⟩
 ·unfold xk
  rw[zp2]
  exact m'.len
 ·obtain⟨w1,ka⟩:=xF q1
  refine (m'.ok j a s w1 q2).to ka gs fun x o f e=>?_
  obtain⟨g1,g2,_⟩:=m'.ft w1 q2 f
  exact⟨e,fun z=>g1 (.inl z),oY m.tp g2⟩
 ·exact (xF e).2.elim
theorem xO.unrow {v:V}{a:A}(m:M F α σ H)(h0:F.H0 l=none)(hl:¬F.O0 l)(r:xO (F.row H l) v H' a):xO F v H' a:=by
 obtain⟨t,k,r⟩:=r
 exact⟨m.tp.unrow hl t.tab k,Kz.unrow m h0 k,r.to (fun _ z=>.inl z) fun x z=>oY m.tp z⟩
end
section
variable {X:Cx}{α:Ev}{E:yE}{sts rest body:List Stmt}{tg iter:Expr}{pos:Pos}
theorem zc8 (i:Nat){x y:Int}(hi:α[i]?=some (some (.own [.int x,.int y])))(h0:0≤y)(h1:y<4294967296)
  (h:SvS X ((xk α).set i (some .tape)) sts {nx:=fun α'=>E.nx (xk α'),rt:=E.rt,bk:=fun α'=>E.bk (xk α'),ct:=fun α'=>E.ct (xk α')}):SvS X α sts E:=fun F σ H D m r=>by
 obtain⟨l,e5,e4,mr⟩:=m.row hi h0 h1
 refine h _ σ H D mr ⟨fun α' σ' H' m' q=>r.nx _ _ _ (m.unrow e5 e4 m') q,fun a v H' z q=>r.rt a v H' (z.unrow m e5 e4) q,fun α' σ' H' m' q=>r.bk _ _ _ (m.unrow e5 e4 m') q,fun α' σ' H' m' q=>r.ct _ _ _ (m.unrow e5 e4 m') q⟩
theorem zc3 {pat:Pat}{F:Fr}{σ:St}{H:Hp}{D:Ends}(hp:PassesOwn (model X.prog X.w) X.A X.env X.xe)(hc:X.calm=true)(hg:PG X tg (sf X.K pat))(m:M F α σ H)(r:rC F E D)
  (h:∀R:It→Hp→Prop,(∀ds J H',wO X pat body rest E ds α→zH F H'→Kz F H H'→ItW (fun x=>¬Ow F α σ x) J ds (Gz F α σ H')→R J H')→dX X tg iter σ H R)
  (hs:∀x,foldedSetIterable iter X.env x=pure x):ni X (.For tg iter body [] pos::rest) D σ H:=by
 refine⟨_,zE (eO hp hc uh hg zP hs) zP,?_⟩
 refine h _ fun ds J H1 q1 t1 k1 itw=>?_
 have m1:=m.kz k1 t1
 have mu:=m1.up
 have ru:rC (F.up (Gz F α σ H1)) E D:=r.up
 refine⟨fun i n σ' H'=>n=ds.length-i∧i≤ds.length∧∃α',M (F.up (Gz F α σ H1)) α' σ' H'∧wO X pat body rest E (ds.drop i) α',⟨ds.length,by simp,zr9 _,α,mu,q1⟩,?_⟩
 rintro i n σ' H' ⟨rfl,hi,α',m',lw⟩
 obtain⟨w1,w2⟩:=itw i H' _ (m1.upold m')
 by_cases hlt:i<ds.length
 ·have hd:ds[i]?=some ds[i]:=zt1 hlt
  rw[zv9 hlt] at lw
  obtain⟨α1,eb,body⟩:=lw
  obtain⟨go,yl⟩:=w1 _ hd
  refine .inr ⟨go,fun σ'' H''=>∃α',M (F.up (Gz F α σ H1)) α' σ'' H''∧wO X pat _ rest E (ds.drop (i+1)) α',fun σ'' H'' ⟨α'',r1,r2⟩=>⟨ds.length-(i+1),by omega,rfl,hlt,α'',r1,r2⟩,fun x H3 y=>?_⟩
  obtain⟨s23,avx⟩:=yl x H3 y
  have m3:=m'.kz (Kz.of_same s23) (m'.tp.same s23)
  refine tK eb m3 (avx fun a o _ e=>m'.fresh e) fun σ1 m4=>?_
  exact body _ σ1 H3 _ m4 ⟨fun α2 σ2 H2 m2 q=>⟨α2,m2,q⟩,ru.rt,fun α2 σ2 H2 m2 q=>q _ σ2 H2 D m2 ru,fun α2 σ2 H2 m2 q=>⟨α2,m2,q⟩⟩
 ·have e:i=ds.length:=by omega
  subst e
  rw[zy4] at lw
  exact .inl ⟨w2 (zp8 _),lw _ σ' H' D m' ru⟩
end
section
variable {P:Program}{w:World}{K:PySem.W.Frag}{mg:Str→Option Value}{base:Heap}
def fr0 (H:Hp):Fr:=⟨H,uY,none⟩
theorem M.zero {H:Hp}{σ:St}{n:Nat}(tb:TabAt H)(hl:n=σ.length):M (fr0 H) (List.replicate n none) σ H:=by
 have no:∀(i:Nat) a,(List.replicate n (none:Option A))[i]?≠some (some a):=fun i a z=>by
  rw[zu4] at z
  split at z<;>cases z
 exact⟨by rw[zy3];exact hl,fun i a s e=>absurd e (no i _),fun i j a b s t l e=>absurd e (no i _),fun i r q e=>absurd e (no i _),⟨tb,fun _ h=>h,fun t b c e=>by (cases e)⟩,fun _ _ e _=>e,fun x hx=>by
  obtain⟨o,ho,hn,_⟩:=tF tb hx
  exact⟨o,ho,hn⟩⟩
theorem SqL.same {H H':Hp}{a:Addr}{xs:List V}(h:SqL K H a xs)(s:zw H H'):SqL K H' a xs:=by
 rcases h with (h|⟨o,h⟩)|h
 ·exact .inl (.inl (s _ _ h))
 ·exact .inl (.inr ⟨o,s _ _ h⟩)
 ·exact .inr h
theorem zo0 {st:Stmt}{f:Addr}{fd:FuncData}{N':List Str}{k:Nat}{x:Str}{pt:Pos}{p0 p1 p2 p3 p4 p5 p6 p7:Pos}{n0 n1:Nat}{kk:Int}{body rest:List Stmt}{j:Nat}(G:Fun K "law" "law" st f fd)(S:zi ("_law_script"::N') ["_law_script"] (zc st))
  (hb:zC st=.For (.Name x pt) (.BinOp (.List [.Constant (.int 0) n0 p0] p1) .Add (.Subscript (.Name "_law_script" p2) (.Slice none (some (.Constant (.int kk) n1 p3)) none p4) p5) p6) body [] p7::rest)
  (hv:Vis (zc st) "_law_script") (hj:(("_law_script":Str)::N')[j]?=some x) (hx:Loc (zc st) x)
  (hbody:∀(cdv:Value) (A':Around) (outer:List Env) (s:Shared) (H:Hp) (E:XK) (zs:List Int),zR k (A'.deeper (envOfC "law" (zc st) s.heap.objs.size f cdv))→zs.length≤64→
   wO (wq CX0 P w K mg base ("_law_script"::N') "law" (zc st) f cdv A' outer s H E).nox (.one j) body rest {nx:=fun _=>False,rt:=fun a=>a=.dat (.bool true)} (zs.map .int) (List.replicate (N'.length+1) none)):
  zA P w K mg base CX0 (k+1) f fd ["_law_script"] (nc K):=by
 refine G.ok S (fun vs H Q E h=>?_) (fun cdv A' outer s H vs Qc E hr h=>?_)
 ·obtain⟨a,ns,rfl,_⟩:=h
  rfl
 ·obtain⟨a,ns,rfl,hS,hn,tb,kq⟩:=h
  rw[hb]
  have mz:M (fr0 H) (List.replicate (N'.length+1) none) (L2.start ("_law_script"::N') [.ref a]) H:=M.zero tb (by unfold L2.start;simp)
  have no3:∀{l3:Addr},¬uY l3→¬Ow (fr0 H) (List.replicate (N'.length+1) none) (L2.start ("_law_script"::N') [.ref a]) l3:=fun {l3} hn=>by
   rintro (z|⟨i,ds,s,e1,e2,_⟩)
   ·exact hn z
   ·rw[zu4] at e1
    split at e1<;>cases e1
  refine zc3 (E:={nx:=fun _=>False,rt:=fun a=>a=.dat (.bool true)}) (pat:=.one j) zw5 rfl (zr (i:=j) S.nd hj hx) mz ⟨fun _ _ _ _ z=>z.elim,fun z v H' r e=>?_,fun _ _ _ _ z=>z.elim,fun _ _ _ _ z=>z.elim⟩ (fun R hR=>?_) (fun _=>rfl)
  ·cases e
   obtain⟨_,_,r⟩:=r
   rw[AV.bl_inv r]
   exact kq H'
  ·refine⟨_,ki (xl gX (gS (zd zx zp)) (eZ dr (wC (i:=0) rfl hv) cy (bG zx))),?_⟩
   obtain⟨ms,em,lm⟩:=fK ns none (some kk)
   refine⟨(by show 1≤sizeLine;decide),fun l1 hl1=>⟨_,rfl,kk,rfl,a,ns.map V.int,rfl,SqL.same hS (zM hl1),fun l2 hl2=>?_⟩⟩
   rw[em] at *
   have n12:l1≠l2:=fun z=>by rw[←z,zh] at hl2;cases hl2
   have hl2':H l2=none:=by rw[zl n12.symm] at hl2;exact hl2
   refine⟨l1,l2,[.int 0],ms.map V.int,rfl,rfl,by rw[zl n12];exact zh,zh,by rw[zp2];exact zv3 (yP (by simp;omega)),fun l3 hl3=>?_⟩
   have e3:([V.int 0]++ms.map V.int)=((0::ms).map V.int):=rfl
   rw[e3]
   have s3:zw H (upd (upd (upd H l1 (.lst [.int 0])) l2 (.lst (ms.map V.int))) l3 (.lst ((0::ms).map V.int))):=((zM hl1).trans (zM hl2)).trans (zM hl3)
   have hl3':H l3=none:=by
    have n13:l3≠l2:=fun z=>by rw[z,zh] at hl3;cases hl3
    have n11:l3≠l1:=fun z=>by rw[z,zl n12,zh] at hl3;cases hl3
    rw[zl n13,zl n11] at hl3;exact hl3
   refine⟨l3,rfl,⟨_,SqL.of zh⟩,hR ((0::ms).map .int) _ _ (hbody cdv A' outer s H E (0::ms) hr (by simp;omega)) (mz.tp.same s3) (Kz.of_same s3) fun i H2 p' sm=>⟨fun d hd=>?_,fun hl=>?_⟩⟩
   ·have ha:=SqL.of (K:=K) (zf (sm l3 _ (zJ (no3 (uc tb hl3')) zh))).2
    obtain⟨v,hx,av⟩:=(sx (G:=H) (0::ms)).get hd
    refine⟨⟨_,v,ha,hx⟩,fun x' H3 y=>?_⟩
    obtain⟨e,y⟩:=y
    subst e
    have:=y _ ha
    rw[hx] at this;cases this
    rw[zq7,zq3] at hd hx
    obtain⟨z1,q1,rfl⟩:=hd
    obtain⟨z2,q2,rfl⟩:=hx
    rw[q1] at q2;cases q2
    exact⟨zw.refl _,fun _=>.int _⟩
   ·exact⟨_,SqL.of (zf (sm l3 _ (zJ (no3 (uc tb hl3')) zh))).2,by rw[zp2] at hl ⊢;exact hl⟩
end
section
variable {X:Cx}{α:Ev}{p pos ap:Pos}{a b c:Expr}{Q:PyData→Prop}
theorem sF (h0:Heap){x:Str}:∀{kvs:List (Str×Value)} {D:List (PyData×PyData)},PyProof.V.FlatPairs PyData.str kvs D→(∀q∈D,∃v,scV q.2=some v)→∃v,scV ((uR D x).getD .none)=some v∧RelV v ((valueAt kvs x).getD .none)
 |_,_,.nil,_=>⟨.non,rfl,rfl⟩
 |_,_,.cons (k:=k) (v:=u) (d:=d') (kvs:=kvs) (D:=D) f r,hs=>by
  unfold uR
  by_cases q:k=x
  ·rw[if_pos q]
   obtain⟨v,hv⟩:=hs (.str k,d') zq1
   refine⟨v,hv,?_⟩
   have e:valueAt ((k,u)::kvs) x=some u:=by simp[valueAt,q]
   rw[e]
   exact dA h0 hv f
  ·rw[if_neg q]
   obtain⟨v,h1,h2⟩:=sF h0 (x:=x) r fun z hz=>hs z (zq0 _ hz)
   refine⟨v,h1,?_⟩
   have e:valueAt ((k,u)::kvs) x=valueAt kvs x:=by simp[valueAt,zu2,q]
   rw[e]
   exact h2
theorem fk {keys:List (Option Expr)}{values:List Expr}{D:List (PyData×PyData)}{ty:TE}(hD:litPairs keys values=some D)(h1:strKeyed D=true)(h2:(strKeysOf D).Nodup)(h3:keys.all (·.isSome)=true)(h4:keys.length=values.length)(h5:keys≠[])(h6:keys.length≤15)(hsc:∀q∈D,∃v,scV q.2=some v)(hi:PE X a ty)
  (hbase:attributeBase (.Dict keys values p) "get" X.env (eval (.Dict keys values p) X.env)=eval (.Dict keys values p) X.env)
  (hfew:((backTo pos (starEach [a] X.env)).all (fun x=>!x.1)&&(backToKw pos (keywordEach [] X.env)).all (fun x=>x.1.isSome)&&decide (([a]:List Expr).length+([]:List Keyword).length+(if ([]:List Keyword).isEmpty then 0 else 1)<30))=true)
  (hline:(ap.endLine == pos.line)=true) (htr:backTo pos (starEach [a] X.env)=[(false,eval a X.env)]):
  PE X (.Call (.Attribute (.Dict keys values p) "get" ap) [a] [] pos) (fun σ H Q=>ty σ H fun y H1=>∃x v,y=.str x∧scV ((uR D x).getD .none)=some v∧Q v H1):=by
 intro pins s σ H Q I h
 refine wpAny_Call_method hbase hfew hline PySem.F.plainAttrs_dict PySem.F.slot_dict_get PySem.F.type_dict_get (Dict_lits_str hD h1 h2 h3 h4 h5 h6 fun ad o h₁ tk hsz ho tab kp=>?_)
 obtain⟨kvs,isd,fl⟩:=tab
 have I1:Inv X pins σ H {s with heap:=h₁,toks:=tk}:=I.kept kp
 have hcell:∀v,o.data≠.cell v:=fun v z=>by
  obtain⟨es,ep,_,e,_⟩:=isd
  rw[e] at z;cases z
 have I1':Inv X ((ad,o)::pins) σ H {s with heap:=h₁,toks:=tk}:=I1.pins_of fun q hq=>by
  rcases zp7.mp hq with rfl|hq
  ·exact⟨ho,I.hok.fresh hsz,fun z=>absurd I.lt (by rw[←z];exact Nat.not_lt.mpr hsz),I.nofs hsz,hcell⟩
  ·exact I1.pin q (by first|exact hq|exact zs0 _ hq|exact zw0 _ hq)
 obtain⟨es,ep,a1,a2,a3,a4,a5⟩:=isd
 have dd1:h₁.DictOf (PySem.strKind X.prog X.w) ad kvs:=⟨o,es,ep,ho,a1,a2,a3,a4,a5⟩
 refine⟨dd1.typeIs,fun z hz=>?_,?_⟩
 ·cases hz
  exact⟨o,ho,a1.2.1⟩
 rw[htr]
 refine Calls.callWith_builtin rfl (Calls.evalArgs_plain (Calls.spliced_cons (thn (hi _ _ σ H _ I1' h) fun iv s2 ⟨y,H2,I2,ry,x,v,ey,hv,q2⟩=>Calls.spliced_nil ?_)))
 subst ey
 obtain⟨t,rfl⟩:=ry
 have hp:=I2.pin (ad,o) (by first|exact zq1|exact zs0 _ zq1|exact zw0 _ zq1)
 have dd:s2.heap.DictOf (PySem.strKind X.prog X.w) ad kvs:=⟨o,es,ep,hp.1,a1,a2,a3,a4,a5⟩
 have I3:Inv X pins σ H2 s2:=I2.pins_of fun q hq=>I2.pin q (by rcases zs6.mp (zs0 X.pn hq) with z|z;exact zw0 _ z;exact zs0 _ (zq0 _ z))
 have hsys:(ad == sysModules)=false:=by
  have hb:sysModules<s.heap.objs.size:=Nat.lt_trans (by decide) (I.mod.glob.keeps I.bk).lt
  exact zv2.mpr fun z=>absurd hb (by rw[←z];exact Nat.not_lt.mpr hsz)
 refine call_meetsIn PySem.F.slot_dict_get dd.typeIs PySem.F.entry_dict_get (PySem.F.args_dict_get_2 _ _) (meets_dict_get (PySem.strKind X.prog X.w) ad (show (PySem.strKind X.prog X.w).is x (.str x t)=true by simp[PySem.strKind,Value.isStrOf]) hsys) ⟨_,dd.mapOf,?_⟩
 obtain⟨v',g1,g2⟩:=sF s.heap (x:=x) fl hsc
 rw[hv] at g1;cases g1
 exact⟨v,H2,I3.tok _,g2,q2⟩
theorem fw {keys:List (Option Expr)}{values:List Expr}{D:List (PyData×PyData)}(hD:litPairs keys values=some D)(h1:strKeyed D=true)(h2:(strKeysOf D).Nodup)(hsc:∀q∈D,∃v,scV q.2=some v)(h:EvD X α a fun y=>∃x v,y=.str x∧scV ((uR D x).getD .none)=some v∧Q ((uR D x).getD .none))
  (h3:keys.all (·.isSome)=true:=by rfl) (h4:keys.length=values.length:=by rfl) (h5:keys≠[]:=by exact List.cons_ne_nil _ _) (h6:keys.length≤15:=by decide)
  (hbase:attributeBase (.Dict keys values p) "get" X.env (eval (.Dict keys values p) X.env)=eval (.Dict keys values p) X.env:=by rfl)
  (hfew:((backTo pos (starEach [a] X.env)).all (fun x=>!x.1)&&(backToKw pos (keywordEach [] X.env)).all (fun x=>x.1.isSome)&&decide (([a]:List Expr).length+([]:List Keyword).length+(if ([]:List Keyword).isEmpty then 0 else 1)<30))=true:=by rfl)
  (hline:(ap.endLine == pos.line)=true:=by rfl) (htr:backTo pos (starEach [a] X.env)=[(false,eval a X.env)]:=by rfl):EvD X α (.Call (.Attribute (.Dict keys values p) "get" ap) [a] [] pos) Q:=fun F σ H R m k=>by
 refine⟨_,fk hD h1 h2 h3 h4 h5 h6 hsc zg hbase hfew hline htr,?_⟩
 refine h F σ H _ m fun y vy H1 q1 t1 k1 r1=>?_
 obtain⟨x,v,rfl,g2,q⟩:=q1
 cases r1.str_inv
 exact⟨x,v,rfl,g2,k _ _ H1 q t1 k1 (gB g2)⟩
end
section
variable {X:Cx}{α:Ev}{E:yE}{rest:List Stmt}{tg iter:Expr}{pos:Pos}
theorem iS (k i:Nat)(N:List Str)(imp:List (Option Nat))(pat:Pat){ds0:List PyData}{x:Str}{pos' cpos:Pos}{scope:Scope}{elt:Expr}{ifs:List Expr}(hk:α[k]?=some (some (.own ds0)))
  (h:EvI X (α.set k (some (.dat (.list ds0)))) tg iter fun ds=>ds.length≤1000∧xm (fun C s2 H2 fp=>X.comp N scope C s2 H2 fp) pat ifs elt (yN imp (α.set k (some (.dat (.list ds0))))) ds [] fun ds=>vM ds=true∧SvS X (α.set i (some (.own ds))) rest E)
  (hN:X.N.Nodup:=by assumption)
  (nd:N.Nodup:=by decide +kernel) (h1:scope.kind=.function:=by rfl) (h2:∀y∈scope.names,y.2≠.cell:=by decide +kernel) (h3:∀y∈scope.names,y.2=.local→scope.names.lookup y.1=some .local:=by decide +kernel) (h4:scope.names.all (freeOk X.env.scope)=true:=by rfl) (h5:imp.length=N.length:=by rfl)
  (h6:((imp.zip N).all fun p=>match p.1 with|none=>true|some j=>X.N[j]? == some p.2&&scope.names.lookup p.2 == some .free)=true:=by rfl) (hfree:pat.free (yN imp (α.set k (some (.dat (.list ds0)))))=true:=by rfl)
  (hg:∀C s2 H2 fp,N.Nodup→PG (X.comp N scope C s2 H2 fp) tg (sf X.K pat):=by intro _ _ _ _ hnd;first|exact zr hnd rfl (Or.inl rfl)|exact yI rfl rfl (by repeat (first|exact yY|refine zS (zr hnd rfl (Or.inl rfl)) ?_)))
  (hc:X.calm=true:=by rfl)
  (hi:X.N[i]?=some x:=by rfl) (hx:Loc X.env.scope x:=by first|exact Or.inl rfl|exact Or.inr rfl) (hsw:swapsWith (.ListComp elt [⟨tg,iter,ifs,0⟩] scope cpos) (some (.Name x pos')) pos.line X.env=pure true:=by rfl)
  (hf:X.fn x=true∨X.env.scope.names.lookup x=some .local:=by first|exact .inl rfl|exact .inr rfl|assumption) (hs:∀x,foldedSetIterable iter X.env x=pure x:=by intro _;rfl):
  SvS X α (.Assign [.Name x pos'] (.ListComp elt [⟨tg,iter,ifs,0⟩] scope cpos) pos::rest) E:=fun F σ H D m r=>by
 obtain⟨Y,rfl,h⟩:=pK hfree h F σ H (fun v H'=>ni X rest D (σ.set i (some v)) H') (m.frz hk) fun ds v H' q t kz fl=>q.2 F _ H' D (m.setOwn t kz (by
  obtain⟨l,xs,g1,g2,g3,g4⟩:=fl
  refine⟨l,xs,g1,g2,g3,g4.noL (fun a ys hno z=>?_) q.1⟩
  obtain⟨z1,z2⟩:=zf z
  obtain⟨w1,w2⟩:=zf (lj m kz hk a ys hno (zJ z1.1 z2))
  exact zJ ⟨w1,z1.2⟩ w2)) r
 exact⟨_,zE (og hc ⟨h1,nd,h2,h3,sM h4,h5,h6⟩ uh (fun C s2 H2 fp=>hg C s2 H2 fp nd) (fun C s2 H2 fp pins s σ H Q I h=>qN pins s σ H Q I (h C s2 H2 fp)) (fun C s2 H2 fp pins s σ H Q I h=>zg pins s σ H Q I (h C s2 H2 fp)) hN hi hx hsw hf hs) zP,h⟩
end
end L2
set_option maxHeartbeats 4000000
namespace K63
open PySem PySem.Spec PyProof.Rows L2
def top (i:Nat):Stmt:=PySem.Challenge.pw_stayprice_k63_why_is_least.main.body.getD i (.Pass ⟨0,0,0,0⟩)
abbrev dh :Stmt:=top 51
abbrev lq :Stmt:=top 50
def lN :List A→(A→Prop)→Prop:=fun as Q=>∃c:Int,as=[.dat (.int c)]∧∀x y:Int,0≤y→y<4294967296→Q (.own [.int x,.int y])
section
variable {P:Program}{w:World}{K:PySem.W.Frag}{mg:Str→Option Value}{base:Heap}
theorem mh :zi ["_law_row","_law_base","_law_found","_law_number"] ["_law_row","_law_base"] (zc dh):=⟨rfl,rfl,rfl,by decide +kernel,rfl,by decide +kernel,by decide +kernel⟩
theorem bt {f:Addr}{fd:FuncData}(F:Fun K "_law_take" "_law_take" dh f fd):zA P w K mg base CX0 1 f fd ["_law_row","_law_base"] eG:=by
 refine F.ok mh (fun vs H Q E h=>?_) (fun cdv A outer s H vs Q E hr h=>?_)
 ·obtain⟨t,b,c,many,rfl,_⟩:=h
  rfl
 ·obtain⟨t,b,c,many,rfl,⟨n,bs,cs,⟨eb,ec⟩,ht,hb,hc,⟨x,y,rfl,y0,y1⟩,hn⟩,hm0,hm1,k⟩:=h
  rw[eb,ec] at k
  have hlog:many.natAbs.log2<9000:=log2_small hm0 hm1
  have ht:H t=some (.lst [.int x,.int y]):=ht
  refine yj (fun σ H3=>σ=[some (.ref t),some (.int many),none,none]∧H=H3)
   ⟨_,wm (yu ar (yn xx (pv 0) zx (fun _ _=>rfl)) zx (zK _))
    (zE (sZ (i:=2) mh.nd rfl (Or.inl rfl) (xl sy (yn xx (pv 0) zx (fun _ _=>rfl)) (pv 1)))
    (zE (nL (xl sk (yn xx (pv 0) zx (fun _ _=>rfl)) (pv 1)) (gG (pv 0) zx set_list))
    (zu (zB (pv 2))))) yD,?_⟩ ?_
  ·refine⟨_,rfl,t,_,0,_,rfl,rfl,SqL.of ht,rfl,_,_,rfl,rfl,_,rfl,?_⟩
   refine yH (fun _=>?_) (fun _=>⟨rfl,rfl⟩)
   refine⟨_,rfl,t,_,0,_,rfl,rfl,SqL.of ht,rfl,_,rfl,_,_,rfl,rfl,hm0,?_⟩
   refine⟨_,rfl,t,_,0,_,rfl,rfl,SqL.of ht,rfl,_,rfl,_,_,rfl,rfl,⟨hm0,hlog⟩,?_⟩
   refine⟨_,rfl,t,_,0,0,rfl,rfl,ht,rfl,_,rfl,?_⟩
   refine k _ _ (zA6 _ (Int.ne_of_gt hm0)) (zz3 _ hm0) ⟨0,[x / many,y],[x / many,y],⟨rfl,rfl⟩,zh,zh,zh,⟨_,_,rfl,y0,y1⟩,rfl⟩ fun a h1 h2=>by rw[zl h1]
  rintro σ H3 ⟨rfl,rfl⟩
  refine yj (fun σ H1=>∃z:Int,0≤z∧z<2147483647∧σ=[some (.ref t),some (.int many),none,none]∧H1=upd H t (.lst [.int x,.int z]))
   ⟨_,nL (xl sy (xl qD (xl pJ (yn xx (pv 0) zx (fun _ _=>rfl)) zx) zx) zx) (gG (pv 0) zx set_list),?_⟩ ?_
  ·refine⟨_,rfl,t,_,1,_,rfl,rfl,SqL.of ht,rfl,_,_,rfl,rfl,.inl ⟨by omega,by omega⟩,_,_,rfl,rfl,_,_,rfl,rfl,(by show (0:Int)<2147483647;decide),?_⟩
   exact⟨_,rfl,t,_,1,1,rfl,rfl,ht,rfl,_,zA6 _ (by decide),zz3 _ (by decide),rfl,rfl⟩
  rintro σ H1 ⟨z,z0,z1,rfl,hH1⟩
  have ht1:H1 t=some (.lst [.int x,.int z]):=by rw[hH1];exact zh
  have off:aL t t H H1:=fun a h1 _=>by rw[hH1,zl h1]
  clear hH1
  refine yj (fun σ H2=>∃u:Int,σ=[some (.ref t),some (.int many),none,some (.int u)]∧H1=H2)
   ⟨_,sZ (i:=3) mh.nd rfl (Or.inl rfl) (xl sy (xl qD (xl qD (xl pJ (yn xx (pv 0) zx (fun _ _=>rfl)) (yn xx (pv 0) zx (fun _ _=>rfl))) (xl pJ zx (yn xx (pv 0) zx (fun _ _=>rfl)))) zx) zx),?_⟩ ?_
  ·exact⟨_,rfl,t,_,1,_,rfl,rfl,SqL.of ht1,rfl,_,rfl,t,_,1,_,rfl,rfl,SqL.of ht1,rfl,_,_,rfl,rfl,.inl ⟨by omega,by omega⟩,_,rfl,t,_,1,_,rfl,rfl,SqL.of ht1,rfl,_,_,rfl,rfl,.inl ⟨by decide,by decide⟩,_,_,rfl,rfl,_,_,rfl,rfl,_,_,rfl,rfl,(by show (0:Int)<2147483629;decide),_,rfl,rfl⟩
  rintro σ H2 ⟨u,rfl,rfl⟩
  refine⟨_,zu (zB (xl sy (xl sk (pv 3) zx) (pv 1))),?_⟩
  refine⟨_,rfl,_,_,rfl,rfl,⟨by decide,by decide +kernel⟩,_,rfl,_,_,rfl,rfl,hm0,?_⟩
  exact k _ _ (zA6 _ (Int.ne_of_gt hm0)) (zz3 _ hm0) ⟨0,[x,z],[x,z],⟨rfl,rfl⟩,ht1,ht1,ht1,⟨_,_,rfl,z0,by omega⟩,rfl⟩ off
theorem eM {f:Addr}{fd:FuncData}(hm:mg "_law_take"=some (.ref f))(hk:PySem.W.keepIn K (.ref f)=true)(hb:Binds K fd ["_law_row","_law_base"] [])(G:zA P w K mg base CX0 1 f fd ["_law_row","_law_base"] eG):Cal P w K mg base "_law_take" 1 wb:=by
 refine⟨f,fd,_,hm,hk,hb,G.imp fun vs H Q E h=>?_⟩
 obtain⟨F,as,Q',rfl,t,o,rv,⟨n,rfl,h0,h1,hq⟩,kk⟩:=h
 cases rv with
 |cons a1 r=>
  obtain⟨ta,b,c,e,rfl⟩:=a1
  obtain⟨v,rfl,av⟩:=r.one
  cases av.int_inv
  refine⟨ta,b,c,n,rfl,(t ta b c e).1,h0,h1,fun z H' z0 z1 TA off=>kk _ _ _ (hq z z0 z1) ⟨⟨(by
   obtain⟨_,_,_,_,e1,e2,_⟩:=(t ta b c e).1.ex
   exact cx t.tab e1 e2 off),t.ot,fun t' b' c' e'=>?_⟩,fun y u hy n=>?_,.int z⟩⟩
  ·rw[e] at e';cases e'
   exact⟨TA,(t ta b c e).2⟩
  ·rw[off y (n.1 _ _ _ e).1 (n.1 _ _ _ e).2];exact hy
theorem cD :zi ["_law_cell"] ["_law_cell"] (zc lq):=⟨rfl,rfl,rfl,by decide +kernel,rfl,by decide +kernel,by decide +kernel⟩
theorem iu {f:Addr}{fd:FuncData}(F:Fun K "_law_begin" "_law_begin" lq f fd)(hm:mg "_law_begin"=some (.ref f))(hb:Binds K fd ["_law_cell"] []):Cal P w K mg base "_law_begin" 1 lN:=by
 refine xR F hm hb cD (fun as Q h=>?_) (fun cdv A' outer s H E as Q hr h=>?_)
 ·obtain⟨c,rfl,_⟩:=h
  rfl
 ·obtain⟨c,rfl,q⟩:=h
  refine yw (bV (zb 0 rfl (yK (r:=1000000000000000000) ⟨by decide,by decide,by decide⟩ (by decide) ⟨_,_,rfl,rfl,?_⟩)))
  refine pL (fun _=>?_) (fun _=>zD ?_)
  ·exact uA (ym (za (vT (zb 0 rfl (yK (r:=1000000000000000000) ⟨by decide,by decide,by decide⟩ (by decide) ⟨_,_,rfl,rfl,za (zk (ze ⟨_,rfl,zp4 rfl,q _ _ (by decide) (by decide)⟩))⟩)))))
  ·refine uA (ym (za (zk (za (yx (iV (zb 0 rfl (zk ⟨_,_,rfl,rfl,by decide,zk ⟨_,_,rfl,rfl,ze ⟨_,rfl,zp4 rfl,?_⟩⟩⟩))))))))
   have h1:=zA6 c (show (2147483629:Int)≠0 by decide)
   have h2:=zz3 c (show (0:Int)<2147483629 by decide)
   exact q _ _ (by omega) (by omega)
end
abbrev pe :Stmt:=top 3
abbrev qx :Stmt:=top 4
abbrev fB :Stmt:=top 5
abbrev zd8 :Stmt:=top 6
abbrev fU :Stmt:=top 7
abbrev tW :Stmt:=top 8
structure oF (mg:Str→Option Value)(fW fI fP fD fPD:Addr):Prop where
 isi:mg "isinstance"=none
 int:mg "int"=none
 bool:mg "bool"=none
 tuple:mg "tuple"=none
 len:mg "len"=none
 last:∃t,mg "LAST_DAY"=some (.int 1000000 t)
 most:∃t,mg "MOST_NIGHTS"=some (.int 14 t)
 whole:mg "is_whole"=some (.ref fW)
 within:mg "is_whole_within"=some (.ref fI)
 pair:mg "is_pair"=some (.ref fP)
 day:mg "is_day"=some (.ref fD)
 days:mg "is_pair_of_days"=some (.ref fPD)
section
variable {P:Program}{w:World}{K:PySem.W.Frag}{mg:Str→Option Value}{base:Heap}{fW fI fP fD fPD:Addr}
theorem cC :zi ["thing"] ["thing"] (zc pe):=⟨rfl,rfl,rfl,by decide +kernel,rfl,by decide +kernel,by decide +kernel⟩
theorem fc {f:Addr}{fd:FuncData}(F:Fun K "is_whole" "is_whole" pe f fd)(T:oF mg fW fI fP fD fPD):zA P w K mg base CX0 1 f fd ["thing"] (yM nX):=by
 refine F.ok cC (fun vs H Q E h=>?_) (fun cdv A outer s H vs Q E hr h=>?_)
 ·obtain⟨x,d,rfl,_⟩:=h
  rfl
 ·obtain⟨x,d,rfl,hd,q⟩:=h
  refine⟨_,zu (zB (xq (yz xC (by rfl) T.isi zw4 (zd (pv 0) (zd (wM (v:=.ty "int") (by rfl) T.int boot_int rfl) zp)))
   (xK (gf (yz xC (by rfl) T.isi zw4 (zd (pv 0) (zd (wM (v:=.ty "bool") (by rfl) T.bool boot_bool rfl) zp))))))),?_⟩
  rw[jq] at q
  refine⟨_,rfl,x,"int",d,_,rfl,hd,bA d,_,rfl,?_⟩
  refine yH (fun h=>?_) (fun h=>?_)
  ·rw[h,zu6] at q
   exact⟨_,rfl,x,"bool",d,_,rfl,hd,sW d,_,rfl,q⟩
  ·rw[zs5.mpr h,zu7] at q
   exact q
theorem eK :zi ["thing","lowest","highest"] ["thing","lowest","highest"] (zc qx):=⟨rfl,rfl,rfl,by decide +kernel,rfl,by decide +kernel,by decide +kernel⟩
theorem ja {f:Addr}{fd fdW:FuncData}(F:Fun K "is_whole_within" "is_whole_within" qx f fd)(T:oF mg fW fI fP fD fPD)(FW:Fun K "is_whole" "is_whole" pe fW fdW)(bW:Binds K fdW ["thing"] []):
  zA P w K mg base CX0 2 f fd ["thing","lowest","highest"] vc:=by
 have GW:zA P w K mg base CX0 1 fW fdW ["thing"] (yM nX):=fc FW T
 refine F.ok eK (fun vs H Q E h=>?_) (fun cdv A outer s H vs Q E hr h=>?_)
 ·obtain⟨x,d,lo,hi,rfl,_⟩:=h
  rfl
 ·obtain⟨x,d,lo,hi,rfl,hd,q⟩:=h
  refine⟨_,zu (zB (xq (zQ GW hr (by rfl) T.whole FW.kp bW .nil zW (zd (pv 0) zp)) (xK (nv uV uV (pv 1) (pv 0) (pv 2))))),?_⟩
  refine⟨_,rfl,x,d,rfl,hd,_,rfl,?_⟩
  cases hd with
  |int i=>
   have q':Q (.bl (decide (lo≤i)&&decide (i≤hi))) H:=q
   refine uF ⟨_,rfl,_,rfl,_,_,rfl,rfl,_,rfl,?_⟩
   refine yH (fun h=>?_) (fun h=>?_)
   ·rw[h,zu6] at q'
    exact⟨_,rfl,_,_,rfl,rfl,q'⟩
   ·rw[zs5.mpr h,zu7] at q'
    exact q'
  |_=>exact tD q
theorem zb3 :zi ["thing"] ["thing"] (zc fB):=⟨rfl,rfl,rfl,by decide +kernel,rfl,by decide +kernel,by decide +kernel⟩
theorem cX {f:Addr}{fd:FuncData}(F:Fun K "is_pair" "is_pair" fB f fd)(T:oF mg fW fI fP fD fPD):zA P w K mg base CX0 1 f fd ["thing"] (yM pairD):=by
 refine F.ok zb3 (fun vs H Q E h=>?_) (fun cdv A outer s H vs Q E hr h=>?_)
 ·obtain⟨x,d,rfl,_⟩:=h
  rfl
 ·obtain⟨x,d,rfl,hd,q⟩:=h
  refine⟨_,zu (zB (xq (yz xC (by rfl) T.isi zw4 (zd (pv 0) (zd (wM (v:=.ty "tuple") (by rfl) T.tuple boot_tuple rfl) zp)))
   (xK (xU wR (yz wL (by rfl) T.len PySem.boot_len (zd (pv 0) zp)) zx (zK _))))),?_⟩
  refine⟨_,rfl,x,"tuple",d,_,rfl,hd,qr d,_,rfl,?_⟩
  cases hd with
  |@tup a xs ds e hs=>
   refine uF ⟨_,rfl,a,_,rfl,.inr (SqT.of e),rfl,?_⟩
   rw[bE,hs.length]
   exact q
  |_=>exact tD q
theorem zl7 :zi ["thing"] ["thing"] (zc zd8):=⟨rfl,rfl,rfl,by decide +kernel,rfl,by decide +kernel,by decide +kernel⟩
theorem zf1 {f:Addr}{fd fdI:FuncData}(F:Fun K "is_day" "is_day" zd8 f fd)(T:oF mg fW fI fP fD fPD)(GI:zA P w K mg base CX0 2 fI fdI ["thing","lowest","highest"] vc)(kI:PySem.W.keepIn K (.ref fI)=true)(bI:Binds K fdI ["thing","lowest","highest"] []):
  zA P w K mg base CX0 3 f fd ["thing"] (yM um):=by
 obtain⟨tl,hl⟩:=T.last
 refine F.ok zl7 (fun vs H Q E h=>?_) (fun cdv A outer s H vs Q E hr h=>?_)
 ·obtain⟨x,d,rfl,_⟩:=h
  rfl
 ·obtain⟨x,d,rfl,hd,q⟩:=h
  refine⟨_,zu (zB (zQ GI hr (by rfl) T.within kI bI .nil zW (zd (pv 0) (zd zx (zd (vv (v:=.int 1000000) (by rfl) hl ⟨tl,rfl⟩) zp))))),?_⟩
  exact⟨_,rfl,x,d,_,_,rfl,hd,q⟩
theorem zf0 :zi ["thing"] ["thing"] (zc fU):=⟨rfl,rfl,rfl,by decide +kernel,rfl,by decide +kernel,by decide +kernel⟩
theorem bL {f:Addr}{fd fdP fdD:FuncData}(F:Fun K "is_pair_of_days" "is_pair_of_days" fU f fd)(T:oF mg fW fI fP fD fPD)(GP:zA P w K mg base CX0 1 fP fdP ["thing"] (yM pairD))(kP:PySem.W.keepIn K (.ref fP)=true)(bP:Binds K fdP ["thing"] [])
  (GD:zA P w K mg base CX0 3 fD fdD ["thing"] (yM um)) (kD:PySem.W.keepIn K (.ref fD)=true) (bD:Binds K fdD ["thing"] []):zA P w K mg base CX0 4 f fd ["thing"] (yM sj):=by
 refine F.ok zf0 (fun vs H Q E h=>?_) (fun cdv A outer s H vs Q E hr h=>?_)
 ·obtain⟨x,d,rfl,_⟩:=h
  rfl
 ·obtain⟨x,d,rfl,hd,q⟩:=h
  have hr1:zR 1 _:=hr.mono (by decide)
  refine⟨_,zu (zB (xq (zQ GP hr1 (by rfl) T.pair kP bP .nil zW (zd (pv 0) zp))
   (xq (zQ GD hr (by rfl) T.day kD bD .nil zW (zd (yn yv (pv 0) zx (fun _ _=>rfl)) zp))
   (xK (zQ GD hr (by rfl) T.day kD bD .nil zW (zd (yn yv (pv 0) zx (fun _ _=>rfl)) zp)))))),?_⟩
  refine⟨_,rfl,x,d,rfl,hd,_,rfl,?_⟩
  refine yH (fun h=>?_) (fun h=>?_)
  ·obtain⟨a,b,rfl⟩:=uU h
   cases hd with
   |tup e hs=>
    cases hs with
    |cons ha hs=>
     cases hs with
     |cons hb hs=>
      cases hs
      have q':Q (.bl (um a&&um b)) H:=q
      refine⟨_,rfl,_,_,0,_,rfl,rfl,SqT.of e,rfl,_,_,rfl,ha,_,rfl,?_⟩
      refine yH (fun h=>?_) (fun h=>?_)
      ·rw[h,zu6] at q'
       exact⟨_,rfl,_,_,1,_,rfl,rfl,SqT.of e,rfl,_,_,rfl,hb,q'⟩
      ·rw[zs5.mpr h,zu7] at q'
       exact q'
  ·have e:sj d=false:=by
    unfold sj
    split
    ·exact absurd rfl h
    ·rfl
   rw[e] at q
   exact q
theorem jY :zi ["thing"] ["thing"] (zc tW):=⟨rfl,rfl,rfl,by decide +kernel,rfl,by decide +kernel,by decide +kernel⟩
theorem mj {f:Addr}{fd fdP:FuncData}(F:Fun K "is_stretch" "is_stretch" tW f fd)(T:oF mg fW fI fP fD fPD)(G:zA P w K mg base CX0 4 fPD fdP ["thing"] (yM sj))(kP:PySem.W.keepIn K (.ref fPD)=true)(bP:Binds K fdP ["thing"] []):
  zA P w K mg base CX0 5 f fd ["thing"] (yM yf):=by
 refine F.ok jY (fun vs H Q E h=>?_) (fun cdv A outer s H vs Q E hr h=>?_)
 ·obtain⟨x,d,rfl,_⟩:=h
  rfl
 ·obtain⟨x,d,rfl,hd,q⟩:=h
  refine⟨_,zu (zB (xq (zQ G hr (by rfl) T.days kP bP .nil zW (zd (pv 0) zp))
   (xK (xU uV (yn yv (pv 0) zx (fun _ _=>rfl)) (yn yv (pv 0) zx (fun _ _=>rfl)) (zK _))))),?_⟩
  refine⟨_,rfl,x,d,rfl,hd,_,rfl,?_⟩
  refine yH (fun h=>?_) (fun h=>?_)
  ·obtain⟨a,b,rfl,ef⟩:=mM h
   unfold yf at q
   rw[ef] at q
   have q':Q (.bl (decide (0≤b-a))) H:=q
   have eq1:decide (0≤b-a)=decide (a≤b):=by
    rw[decide_eq_decide]
    omega
   rw[eq1] at q'
   cases hd with
   |tup e hs=>
    cases hs with
    |cons ha hs=>
     cases ha
     cases hs with
     |cons hb hs=>
      cases hb
      cases hs
      exact⟨_,rfl,_,_,0,_,rfl,rfl,SqT.of e,rfl,_,rfl,_,_,1,_,rfl,rfl,SqT.of e,rfl,_,_,rfl,rfl,q'⟩
  ·rw[sA] at h
   unfold yf at q
   cases ef:rE d with
   |some k=>rw[ef] at h;exact absurd rfl h
   |none=>
    rw[ef] at q
    exact q
end
abbrev lO :Stmt:=inClass (top 29) 0
abbrev fH :Stmt:=inClass (top 29) 2
abbrev mf :Stmt:=inClass (top 29) 3
abbrev pD :Stmt:=inClass (top 30) 0
abbrev nG :Stmt:=inClass (top 31) 0
abbrev ze3 :Stmt:=inClass (top 32) 0
abbrev pI :Stmt:=inClass (top 33) 0
abbrev nI :Stmt:=inClass (top 34) 0
abbrev me :Stmt:=inClass (top 35) 0
abbrev eL :Stmt:=inClass (top 36) 0
abbrev my :Stmt:=top 38
abbrev qV :Stmt:=top 39
abbrev nO :Stmt:=top 40
abbrev qT :Stmt:=top 41
abbrev fO :Stmt:=top 42
abbrev pM :Stmt:=top 43
structure nV (mg:Str→Option Value)(fW fI fP fD fPD fS fC fDl fWo fR fM:Addr)(cs:Cs):Prop where
 d:oF mg fW fI fP fD fPD
 coinsMost:∃t,mg "MOST_COINS"=some (.int 1000000000000 t)
 stretch:mg "is_stretch"=some (.ref fS)
 coins:mg "is_coins"=some (.ref fC)
 deal:mg "is_deal"=some (.ref fDl)
 worth:mg "is_worth"=some (.ref fWo)
 rule:mg "is_rule"=some (.ref fR)
 made:mg "made"=some (.ref fM)
 cPrice:mg "Price"=some (.ref cs.price)
 cCome:mg "Come"=some (.ref cs.come)
 cGo:mg "Go"=some (.ref cs.go)
 cLeast:mg "Least"=some (.ref cs.least)
 cMost:mg "Most"=some (.ref cs.most)
 cDeal:mg "Deal"=some (.ref cs.deal)
 cFee:mg "Fee"=some (.ref cs.fee)
section
variable {P:Program}{w:World}{K:PySem.W.Frag}{mg:Str→Option Value}{base:Heap}{fW fI fP fD fPD fS fC fDl fWo fR fM:Addr}{cs:Cs}
theorem zf3 :zi ["self","first","last","worth"] ["self","first","last","worth"] (zc lO):=⟨rfl,rfl,rfl,by decide +kernel,rfl,by decide +kernel,by decide +kernel⟩
theorem wJ {f C fT fE fWd:Addr}{fd:FuncData}(F:Fun K "__init__" "Rule.__init__" lO f fd)(R:wc K C f fT fE fWd):zA P w K mg base CX0 1 f fd ["self","first","last","worth"] (ze6 C):=by
 refine F.ok zf3 (fun vs H Q E h=>?_) (fun cdv A outer s H vs Q E hr h=>?_)
 ·obtain⟨p,dx,x,y,z,rfl,_⟩:=h
  rfl
 ·obtain⟨p,dx,x,y,z,rfl,hp,q⟩:=h
  refine⟨_,zE (qR (pv 0) (pv 1) rfl) (zE (qR (pv 0) (pv 2) rfl) (zu (qR (pv 0) (pv 3) rfl))),?_⟩
  refine⟨_,rfl,_,rfl,p,C,dx,[],rfl,hp,R.cl,R.nf,(by show 0<1000;decide),?_⟩
  refine⟨_,rfl,_,rfl,p,C,dx,_,rfl,zh,R.cl,R.nl,(by show 1<1000;decide),?_⟩
  refine⟨_,rfl,_,rfl,p,C,dx,xS "last" y (xS "first" x []),rfl,zh,R.cl,R.nw,?_,?_⟩
  ·show (if ("first":Str)="last" then _ else _:List (Str×V)).length<1000
   rw[if_neg (fun e=>eD e.symm)]
   show 2<1000
   decide
  ·rw[tE,tE]
   exact q
theorem fz :zi ["self"] ["self"] (zc pD):=⟨rfl,rfl,rfl,by decide +kernel,rfl,by decide +kernel,by decide +kernel⟩
theorem bj :zi ["self"] ["self"] (zc nG):=⟨rfl,rfl,rfl,by decide +kernel,rfl,by decide +kernel,by decide +kernel⟩
theorem zk6 :zi ["self"] ["self"] (zc ze3):=⟨rfl,rfl,rfl,by decide +kernel,rfl,by decide +kernel,by decide +kernel⟩
theorem fe :zi ["self"] ["self"] (zc pI):=⟨rfl,rfl,rfl,by decide +kernel,rfl,by decide +kernel,by decide +kernel⟩
theorem du :zi ["self"] ["self"] (zc nI):=⟨rfl,rfl,rfl,by decide +kernel,rfl,by decide +kernel,by decide +kernel⟩
theorem dS :zi ["self"] ["self"] (zc me):=⟨rfl,rfl,rfl,by decide +kernel,rfl,by decide +kernel,by decide +kernel⟩
theorem ze8 :zi ["self"] ["self"] (zc eL):=⟨rfl,rfl,rfl,by decide +kernel,rfl,by decide +kernel,by decide +kernel⟩
theorem rL {f:Addr}{fd:FuncData}(F:Fun K "word" "Price.word" pD f fd):zA P w K mg base CX0 1 f fd ["self"] (wH "price"):=by
 refine F.ok fz (fun vs H Q E h=>?_) (fun cdv A outer s H vs Q E hr h=>?_)
 ·obtain⟨p,rfl,_⟩:=h;rfl
 ·obtain⟨p,rfl,q⟩:=h;exact⟨_,zu (zB yb),q⟩
theorem oj {f:Addr}{fd:FuncData}(F:Fun K "word" "Come.word" nG f fd):zA P w K mg base CX0 1 f fd ["self"] (wH "come"):=by
 refine F.ok bj (fun vs H Q E h=>?_) (fun cdv A outer s H vs Q E hr h=>?_)
 ·obtain⟨p,rfl,_⟩:=h;rfl
 ·obtain⟨p,rfl,q⟩:=h;exact⟨_,zu (zB yb),q⟩
theorem iL {f:Addr}{fd:FuncData}(F:Fun K "word" "Go.word" ze3 f fd):zA P w K mg base CX0 1 f fd ["self"] (wH "go"):=by
 refine F.ok zk6 (fun vs H Q E h=>?_) (fun cdv A outer s H vs Q E hr h=>?_)
 ·obtain⟨p,rfl,_⟩:=h;rfl
 ·obtain⟨p,rfl,q⟩:=h;exact⟨_,zu (zB yb),q⟩
theorem qk {f:Addr}{fd:FuncData}(F:Fun K "word" "Least.word" pI f fd):zA P w K mg base CX0 1 f fd ["self"] (wH "least"):=by
 refine F.ok fe (fun vs H Q E h=>?_) (fun cdv A outer s H vs Q E hr h=>?_)
 ·obtain⟨p,rfl,_⟩:=h;rfl
 ·obtain⟨p,rfl,q⟩:=h;exact⟨_,zu (zB yb),q⟩
theorem om {f:Addr}{fd:FuncData}(F:Fun K "word" "Most.word" nI f fd):zA P w K mg base CX0 1 f fd ["self"] (wH "most"):=by
 refine F.ok du (fun vs H Q E h=>?_) (fun cdv A outer s H vs Q E hr h=>?_)
 ·obtain⟨p,rfl,_⟩:=h;rfl
 ·obtain⟨p,rfl,q⟩:=h;exact⟨_,zu (zB yb),q⟩
theorem nD {f:Addr}{fd:FuncData}(F:Fun K "word" "Deal.word" me f fd):zA P w K mg base CX0 1 f fd ["self"] (wH "deal"):=by
 refine F.ok dS (fun vs H Q E h=>?_) (fun cdv A outer s H vs Q E hr h=>?_)
 ·obtain⟨p,rfl,_⟩:=h;rfl
 ·obtain⟨p,rfl,q⟩:=h;exact⟨_,zu (zB yb),q⟩
theorem lJ {f:Addr}{fd:FuncData}(F:Fun K "word" "Fee.word" eL f fd):zA P w K mg base CX0 1 f fd ["self"] (wH "fee"):=by
 refine F.ok ze8 (fun vs H Q E h=>?_) (fun cdv A outer s H vs Q E hr h=>?_)
 ·obtain⟨p,rfl,_⟩:=h;rfl
 ·obtain⟨p,rfl,q⟩:=h;exact⟨_,zu (zB yb),q⟩
theorem zd2 :zi ["self"] ["self"] (zc fH):=⟨rfl,rfl,rfl,by decide +kernel,rfl,by decide +kernel,by decide +kernel⟩
theorem bc (x y z:V):(wX x y z).lookup ("word":Str)=none:=bx x y z (by decide +kernel) (by decide +kernel) (by decide +kernel)
theorem wA {f C fIn fE fWd:Addr}{fd fdW:FuncData}{wd:Str}(F:Fun K "told" "Rule.told" fH f fd)(R:wc K C fIn f fE fWd)(GW:zA P w K mg base CX0 1 fWd fdW ["self"] (wH wd))(bW:Binds K fdW ["self"] []):
  zA P w K mg base CX0 2 f fd ["self"] (gP C wd):=by
 refine F.ok zd2 (fun vs H Q E h=>?_) (fun cdv A outer s H vs Q E hr h=>?_)
 ·obtain⟨p,dx,x,y,z,rfl,_⟩:=h
  rfl
 ·obtain⟨p,dx,x,y,z,rfl,hp,q⟩:=h
  refine⟨_,zu (zB (nQ (zd (pZ (pv 0) R.cl R.word GW hr bW .nil zW) (zd (uQ (pv 0) rfl) (zd (uQ (pv 0) rfl) (zd (uQ (pv 0) rfl) zp)))))),?_⟩
  refine⟨_,rfl,p,dx,_,rfl,hp,bc _ _ _,p,rfl,?_⟩
  exact⟨_,rfl,p,C,dx,_,_,rfl,hp,R.cl,R.nf,tS _ _ _,_,rfl,p,C,dx,_,_,rfl,hp,R.cl,R.nl,rZ _ _ _,_,rfl,p,C,dx,_,_,rfl,hp,R.cl,R.nw,lC _ _ _,(by show 4≤sizeLine;decide),q⟩
theorem dG :zi ["self","day"] ["self","day"] (zc mf):=⟨rfl,rfl,rfl,by decide +kernel,rfl,by decide +kernel,by decide +kernel⟩
theorem xI {f C fIn fT fWd:Addr}{fd:FuncData}(F:Fun K "tells" "Rule.tells" mf f fd)(R:wc K C fIn fT f fWd):zA P w K mg base CX0 1 f fd ["self","day"] (kJ C):=by
 refine F.ok dG (fun vs H Q E h=>?_) (fun cdv A outer s H vs Q E hr h=>?_)
 ·obtain⟨p,dx,a,b,day,z,rfl,_⟩:=h
  rfl
 ·obtain⟨p,dx,a,b,day,z,rfl,hp,q⟩:=h
  refine⟨_,zu (zB (nv uV uV (uQ (pv 0) rfl) (pv 1) (uQ (pv 0) rfl))),?_⟩
  refine⟨_,rfl,p,C,dx,_,_,rfl,hp,R.cl,R.nf,tS _ _ _,_,rfl,_,_,rfl,rfl,_,rfl,?_⟩
  refine yH (fun h=>?_) (fun h=>?_)
  ·rw[h,zu6] at q
   exact⟨_,rfl,p,C,dx,_,_,rfl,hp,R.cl,R.nl,rZ _ _ _,_,_,rfl,rfl,q⟩
  ·rw[zs5.mpr h,zu7] at q
   exact q
theorem dF :zi ["thing"] ["thing"] (zc my):=⟨rfl,rfl,rfl,by decide +kernel,rfl,by decide +kernel,by decide +kernel⟩
theorem fQ {f:Addr}{fd fdI:FuncData}(F:Fun K "is_coins" "is_coins" my f fd)(T:nV mg fW fI fP fD fPD fS fC fDl fWo fR fM cs)(GI:zA P w K mg base CX0 2 fI fdI ["thing","lowest","highest"] vc)(kI:PySem.W.keepIn K (.ref fI)=true)(bI:Binds K fdI ["thing","lowest","highest"] []):
  zA P w K mg base CX0 3 f fd ["thing"] (yM uJ):=by
 obtain⟨tl,hl⟩:=T.coinsMost
 refine F.ok dF (fun vs H Q E h=>?_) (fun cdv A outer s H vs Q E hr h=>?_)
 ·obtain⟨x,d,rfl,_⟩:=h
  rfl
 ·obtain⟨x,d,rfl,hd,q⟩:=h
  refine⟨_,zu (zB (zQ GI hr (by rfl) T.d.within kI bI .nil zW (zd (pv 0) (zd zx (zd (vv (v:=.int 1000000000000) (by rfl) hl ⟨tl,rfl⟩) zp))))),?_⟩
  exact⟨_,rfl,x,d,_,_,rfl,hd,q⟩
theorem eI :zi ["thing"] ["thing"] (zc qV):=⟨rfl,rfl,rfl,by decide +kernel,rfl,by decide +kernel,by decide +kernel⟩
theorem jn {f:Addr}{fd fdI fdP:FuncData}(F:Fun K "is_deal" "is_deal" qV f fd)(T:nV mg fW fI fP fD fPD fS fC fDl fWo fR fM cs)(GI:zA P w K mg base CX0 2 fI fdI ["thing","lowest","highest"] vc)(kI:PySem.W.keepIn K (.ref fI)=true)(bI:Binds K fdI ["thing","lowest","highest"] [])
  (GP:zA P w K mg base CX0 1 fP fdP ["thing"] (yM pairD)) (kP:PySem.W.keepIn K (.ref fP)=true) (bP:Binds K fdP ["thing"] []):zA P w K mg base CX0 3 f fd ["thing"] (yM sN):=by
 obtain⟨tm,hm⟩:=T.d.most
 refine F.ok eI (fun vs H Q E h=>?_) (fun cdv A outer s H vs Q E hr h=>?_)
 ·obtain⟨x,d,rfl,_⟩:=h
  rfl
 ·obtain⟨x,d,rfl,hd,q⟩:=h
  have hr1:zR 1 _:=hr.mono (by decide)
  refine⟨_,zu (zB (xq (zQ GP hr1 (by rfl) T.d.pair kP bP .nil zW (zd (pv 0) zp))
   (xq (zQ GI hr (by rfl) T.d.within kI bI .nil zW (zd (yn yv (pv 0) zx (fun _ _=>rfl)) (zd zx (zd (vv (v:=.int 14) (by rfl) hm ⟨tm,rfl⟩) zp))))
   (xK (zQ GI hr (by rfl) T.d.within kI bI .nil zW (zd (yn yv (pv 0) zx (fun _ _=>rfl)) (zd zx (zd (xl iN (yn yv (pv 0) zx (fun _ _=>rfl)) zx) zp)))))))),?_⟩
  refine⟨_,rfl,x,d,rfl,hd,_,rfl,?_⟩
  refine yH (fun h=>?_) (fun h=>?_)
  ·obtain⟨a,b,rfl⟩:=uU h
   cases hd with
   |tup e hs=>
    cases hs with
    |cons ha hs=>
     cases hs with
     |cons hb hs=>
      cases hs
      refine⟨_,rfl,_,_,0,_,rfl,rfl,SqT.of e,rfl,_,_,_,_,rfl,ha,_,rfl,?_⟩
      cases ha with
      |int m=>
       have q':Q (.bl (zU 2 14 (.int m)&&zU 1 (m-1) b)) H:=q
       refine yH (fun h=>?_) (fun h=>?_)
       ·rw[h,zu6] at q'
        exact⟨_,rfl,_,_,1,_,rfl,rfl,SqT.of e,rfl,_,rfl,_,_,0,_,rfl,rfl,SqT.of e,rfl,_,_,rfl,rfl,_,_,_,_,rfl,hb,q'⟩
       ·rw[zs5.mpr h,zu7] at q'
        exact q'
      |_=>exact tD q
  ·have e:sN d=false:=by
    unfold sN
    split
    ·exact absurd rfl h
    ·rfl
   rw[e] at q
   exact q
theorem dz :zi ["word","thing"] ["word","thing"] (zc nO):=⟨rfl,rfl,rfl,by decide +kernel,rfl,by decide +kernel,by decide +kernel⟩
theorem hV {f:Addr}{fd fdI fdC fdDl:FuncData}(F:Fun K "is_worth" "is_worth" nO f fd)(T:nV mg fW fI fP fD fPD fS fC fDl fWo fR fM cs)(GI:zA P w K mg base CX0 2 fI fdI ["thing","lowest","highest"] vc)(kI:PySem.W.keepIn K (.ref fI)=true)(bI:Binds K fdI ["thing","lowest","highest"] [])
  (GC:zA P w K mg base CX0 3 fC fdC ["thing"] (yM uJ)) (kC:PySem.W.keepIn K (.ref fC)=true) (bC:Binds K fdC ["thing"] []) (GDl:zA P w K mg base CX0 3 fDl fdDl ["thing"] (yM sN)) (kDl:PySem.W.keepIn K (.ref fDl)=true) (bDl:Binds K fdDl ["thing"] []):
  zA P w K mg base CX0 4 f fd ["word","thing"] lL:=by
 obtain⟨tm,hm⟩:=T.d.most
 refine F.ok dz (fun vs H Q E h=>?_) (fun cdv A outer s H vs Q E hr h=>?_)
 ·obtain⟨x,y,dw,dv,rfl,_⟩:=h
  rfl
 ·obtain⟨x,y,dw,dv,rfl,hx,sw,hy,q⟩:=h
  have hr2:zR 2 _:=hr.mono (by decide)
  have hu:=hr.units
  have st:∀{z:Str},z∈words→SeqAt.shaped (.str z)=true:=fun {z} hz=>mH (by
   simp only[words,zp7,zq5,zt3] at hz
   rcases hz with rfl|rfl|rfl|rfl|rfl|rfl|rfl<;>decide +kernel)
  unfold zI at q
  -- if word == 'price'
  refine yj (fun σ H1=>σ=[some x,some y]∧eqS dw "price"=false∧H=H1)
   ⟨_,wm (yu (va hu) (pv 0) yb (zK _)) (zu (zB (gD (xU mQ (pv 1) pG (zK _)) (xK (zQ GC hr (by rfl) T.coins kC bC .nil zW (zd (pv 1) zp)))))) yD,?_⟩ ?_
  ·refine⟨_,rfl,dw,.str "price",hx,.str _,sw,st (by simp[words]),_,rfl,?_⟩
   refine yH (fun h=>?_) (fun h=>⟨rfl,zs5.mpr h,rfl⟩)
   rw[if_pos h] at q
   refine⟨_,rfl,rfl,_,rfl,?_⟩
   rw[hy.non_iff]
   refine yH (fun h2=>?_) (fun h2=>?_)
   ·rw[h2,zA4] at q
    exact q
   ·rw[zs5.mpr h2,zz8] at q
    exact⟨_,rfl,y,dv,rfl,hy,q⟩
  rintro σ H1 ⟨rfl,e1,rfl⟩
  rw[e1,if_neg zq2] at q
  -- if word == 'come' or word == 'go'
  refine yj (fun σ H1=>σ=[some x,some y]∧(eqS dw "come"||eqS dw "go")=false∧H=H1)
   ⟨_,wm (PW.pt (iW (yu (va hu) (pv 0) yb (zK _)) (nY (yu (va hu) (pv 0) yb (zK _))))) (zu (zB (yz xC (by rfl) T.d.isi zw4 (zd (pv 1) (zd (wM (v:=.ty "bool") (by rfl) T.d.bool boot_bool rfl) zp))))) yD,?_⟩ ?_
  ·refine⟨_,rfl,dw,.str "come",hx,.str _,sw,st (by simp[words]),_,rfl,?_⟩
   refine yH (fun h=>?_) (fun h=>?_)
   ·have h':eqS dw "come"=true:=h
    rw[h',zA4,if_pos rfl] at q
    exact uF ⟨_,rfl,y,"bool",dv,_,rfl,hy,sW dv,q⟩
   ·have h':eqS dw "come"=false:=zs5.mpr h
    refine⟨_,rfl,dw,.str "go",hx,.str _,sw,st (by simp[words]),_,rfl,?_⟩
    refine yH (fun h2=>?_) (fun h2=>?_)
    ·have h2':eqS dw "go"=true:=h2
     rw[h',h2',zz8,if_pos rfl] at q
     exact⟨_,rfl,y,"bool",dv,_,rfl,hy,sW dv,q⟩
    ·have h2':eqS dw "go"=false:=zs5.mpr h2
     exact⟨rfl,by rw[h',h2'];rfl,rfl⟩
  rintro σ H1 ⟨rfl,e2,rfl⟩
  rw[e2,if_neg zq2] at q
  -- if word == 'least' or word == 'most'
  refine yj (fun σ H1=>σ=[some x,some y]∧(eqS dw "least"||eqS dw "most")=false∧H=H1)
   ⟨_,wm (PW.pt (iW (yu (va hu) (pv 0) yb (zK _)) (nY (yu (va hu) (pv 0) yb (zK _))))) (zu (zB (zQ GI hr2 (by rfl) T.d.within kI bI .nil zW (zd (pv 1) (zd zx (zd (vv (v:=.int 14) (by rfl) hm ⟨tm,rfl⟩) zp)))))) yD,?_⟩ ?_
  ·refine⟨_,rfl,dw,.str "least",hx,.str _,sw,st (by simp[words]),_,rfl,?_⟩
   refine yH (fun h=>?_) (fun h=>?_)
   ·have h':eqS dw "least"=true:=h
    rw[h',zA4,if_pos rfl] at q
    exact uF ⟨_,rfl,y,dv,_,_,rfl,hy,q⟩
   ·have h':eqS dw "least"=false:=zs5.mpr h
    refine⟨_,rfl,dw,.str "most",hx,.str _,sw,st (by simp[words]),_,rfl,?_⟩
    refine yH (fun h2=>?_) (fun h2=>?_)
    ·have h2':eqS dw "most"=true:=h2
     rw[h',h2',zz8,if_pos rfl] at q
     exact⟨_,rfl,y,dv,_,_,rfl,hy,q⟩
    ·have h2':eqS dw "most"=false:=zs5.mpr h2
     exact⟨rfl,by rw[h',h2'];rfl,rfl⟩
  rintro σ H1 ⟨rfl,e3,rfl⟩
  rw[e3,if_neg zq2] at q
  -- if word == 'deal'
  refine yj (fun σ H1=>σ=[some x,some y]∧eqS dw "deal"=false∧H=H1)
   ⟨_,wm (yu (va hu) (pv 0) yb (zK _)) (zu (zB (gD (xU mQ (pv 1) pG (zK _)) (xK (zQ GDl hr (by rfl) T.deal kDl bDl .nil zW (zd (pv 1) zp)))))) yD,?_⟩ ?_
  ·refine⟨_,rfl,dw,.str "deal",hx,.str _,sw,st (by simp[words]),_,rfl,?_⟩
   refine yH (fun h=>?_) (fun h=>⟨rfl,zs5.mpr h,rfl⟩)
   rw[if_pos h] at q
   refine⟨_,rfl,rfl,_,rfl,?_⟩
   rw[hy.non_iff]
   refine yH (fun h2=>?_) (fun h2=>?_)
   ·rw[h2,zA4] at q
    exact q
   ·rw[zs5.mpr h2,zz8] at q
    exact⟨_,rfl,y,dv,rfl,hy,q⟩
  rintro σ H1 ⟨rfl,e4,rfl⟩
  rw[e4,if_neg zq2] at q
  refine⟨_,zu (zB (xq (xU (va hu) (pv 0) yb (zK _)) (xK (zQ GC hr (by rfl) T.coins kC bC .nil zW (zd (pv 1) zp))))),?_⟩
  refine⟨_,rfl,dw,.str "fee",hx,.str _,sw,st (by simp[words]),_,rfl,?_⟩
  refine yH (fun h=>?_) (fun h=>?_)
  ·have h':eqS dw "fee"=true:=h
   rw[h',zu6] at q
   exact⟨_,rfl,y,dv,rfl,hy,q⟩
  ·have h':eqS dw "fee"=false:=zs5.mpr h
   rw[h',zu7] at q
   exact q
theorem gj :zi ["thing"] ["thing"] (zc qT):=⟨rfl,rfl,rfl,by decide +kernel,rfl,by decide +kernel,by decide +kernel⟩
theorem jG {f:Addr}{fd fdS fdWo:FuncData}(F:Fun K "is_rule" "is_rule" qT f fd)(T:nV mg fW fI fP fD fPD fS fC fDl fWo fR fM cs)(GS:zA P w K mg base CX0 5 fS fdS ["thing"] (yM yf))(kS:PySem.W.keepIn K (.ref fS)=true)(bS:Binds K fdS ["thing"] [])
  (GW:zA P w K mg base CX0 4 fWo fdWo ["word","thing"] lL) (kW:PySem.W.keepIn K (.ref fWo)=true) (bW:Binds K fdWo ["word","thing"] []):zA P w K mg base CX0 6 f fd ["thing"] gA:=by
 refine F.ok gj (fun vs H Q E h=>?_) (fun cdv A outer s H vs Q E hr h=>?_)
 ·obtain⟨x,d,rfl,_⟩:=h
  rfl
 ·obtain⟨x,d,rfl,hd,sd,q⟩:=h
  have hr4:zR 4 _:=hr.mono (by decide)
  refine⟨_,zu (zB (xq (yz xC (by rfl) T.d.isi zw4 (zd (pv 0) (zd (wM (v:=.ty "tuple") (by rfl) T.d.tuple boot_tuple rfl) zp)))
   (xq (xU wR (yz wL (by rfl) T.d.len PySem.boot_len (zd (pv 0) zp)) zx (zK _))
   (xq (zQ GS hr (by rfl) T.stretch kS bS .nil zW (zd (nQ (zd (yn yv (pv 0) zx (fun _ _=>rfl)) (zd (yn yv (pv 0) zx (fun _ _=>rfl)) zp))) zp))
   (xK (zQ GW hr4 (by rfl) T.worth kW bW .nil zW (zd (yn yv (pv 0) zx (fun _ _=>rfl)) (zd (yn yv (pv 0) zx (fun _ _=>rfl)) zp)))))))),?_⟩
  refine⟨_,rfl,x,"tuple",d,_,rfl,hd,qr d,_,rfl,?_⟩
  cases hd with
  |@tup a xs ds e hs=>
   refine uF ⟨_,rfl,a,_,rfl,.inr (SqT.of e),rfl,_,rfl,?_⟩
   cases hs with
   |nil=>exact yH (fun h=>absurd h (by simp)) (fun _=>q H (zw.refl H))
   |@cons xw _ dw _ hw hs=>
   cases hs with
   |nil=>exact yH (fun h=>absurd h (by simp)) (fun _=>q H (zw.refl H))
   |@cons xa _ da _ ha hs=>
   cases hs with
   |nil=>exact yH (fun h=>absurd h (by simp)) (fun _=>q H (zw.refl H))
   |@cons xb _ db _ hb hs=>
   cases hs with
   |nil=>exact yH (fun h=>absurd h (by simp)) (fun _=>q H (zw.refl H))
   |@cons xv _ dv _ hv hs=>
   cases hs with
   |cons _ _=>exact yH (fun h=>absurd h (by simp;omega)) (fun _=>q H (zw.refl H))
   |nil=>
    refine yH (fun _=>?_) (fun h=>absurd rfl h)
    refine⟨_,rfl,a,_,1,_,rfl,rfl,SqT.of e,rfl,_,rfl,a,_,2,_,rfl,rfl,SqT.of e,rfl,(by show 2≤sizeLine;decide),fun p hp=>?_⟩
    have s1:zw H (upd H p (.tup [xa,xb])):=zM hp
    refine⟨_,.tuple [da,db],rfl,.tup zh (.cons (ha.same s1) (.cons (hb.same s1) .nil)),_,rfl,?_⟩
    have q':Q (.bl (yf (.tuple [da,db])&&zI dw dv)) (upd H p (.tup [xa,xb])):=q _ s1
    refine yH (fun h=>?_) (fun h=>?_)
    ·rw[h,zu6] at q'
     exact⟨_,rfl,a,_,0,_,rfl,rfl,SqT.of (s1 _ _ e),rfl,_,rfl,a,_,3,_,rfl,rfl,SqT.of (s1 _ _ e),rfl,_,_,_,_,rfl,hw.same s1,pd sd dw (by simp),hv.same s1,q'⟩
    ·rw[zs5.mpr h,zu7] at q'
     exact q'
  |_=>exact tD (q H (zw.refl H))
end
section
variable {P:Program}{w:World}{K:PySem.W.Frag}{mg:Str→Option Value}{base:Heap}{fW fI fP fD fPD fS fC fDl fWo fR fM:Addr}{cs:Cs}
structure gN (K:PySem.W.Frag)(cs:Cs)(fIn fTo fTe w1 w2 w3 w4 w5 w6 w7:Addr):Prop where
 price:wc K cs.price fIn fTo fTe w1
 come:wc K cs.come fIn fTo fTe w2
 go:wc K cs.go fIn fTo fTe w3
 least:wc K cs.least fIn fTo fTe w4
 most:wc K cs.most fIn fTo fTe w5
 deal:wc K cs.deal fIn fTo fTe w6
 fee:wc K cs.fee fIn fTo fTe w7
theorem wY (cs:Cs):cs.of "price"=cs.price:=by unfold Cs.of;rw[if_pos rfl]
theorem ug (cs:Cs):cs.of "come"=cs.come:=by unfold Cs.of;rw[if_neg (by decide +kernel),if_pos rfl]
theorem nk (cs:Cs):cs.of "go"=cs.go:=by unfold Cs.of;rw[if_neg (by decide +kernel),if_neg (by decide +kernel),if_pos rfl]
theorem ve (cs:Cs):cs.of "least"=cs.least:=by unfold Cs.of;rw[if_neg (by decide +kernel),if_neg (by decide +kernel),if_neg (by decide +kernel),if_pos rfl]
theorem uy (cs:Cs):cs.of "most"=cs.most:=by unfold Cs.of;rw[if_neg (by decide +kernel),if_neg (by decide +kernel),if_neg (by decide +kernel),if_neg (by decide +kernel),if_pos rfl]
theorem ur (cs:Cs):cs.of "deal"=cs.deal:=by unfold Cs.of;rw[if_neg (by decide +kernel),if_neg (by decide +kernel),if_neg (by decide +kernel),if_neg (by decide +kernel),if_neg (by decide +kernel),if_pos rfl]
theorem tU (cs:Cs):cs.of "fee"=cs.fee:=by unfold Cs.of;rw[if_neg (by decide +kernel),if_neg (by decide +kernel),if_neg (by decide +kernel),if_neg (by decide +kernel),if_neg (by decide +kernel),if_neg (by decide +kernel)]
theorem uE {x y:Str}(h:decide (V.str x=V.str y)=true):x=y:=by
 have:=zx5 h
 injection this
theorem uM {x y:Str}(h:¬decide (V.str x=V.str y)=true):x≠y:=fun e=>h (by rw[e];exact zt5 rfl)
theorem xG {C p dx:Addr}{H:Hp}{x y z:V}{Q:VK}(k:∀(p dx:Addr) (H':Hp),H' p=some (.ins C dx (wX x y z))→H p=none→zw H H'→Q (.ref p) H')(hp:H p=none)(hx:H dx=none)(n:dx≠p):
  Q (.ref p) (upd (upd (upd H dx (.own p)) p (.ins C dx [])) p (.ins C dx (wX x y z))):=by
 refine k p dx _ zh hp fun a o e=>?_
 rw[tE,zl (zm e hp),zl (zm e hx)]
 exact e
theorem zd0 :zi ["word","first","last","worth"] ["word","first","last","worth"] (zc fO):=⟨rfl,rfl,rfl,by decide +kernel,rfl,by decide +kernel,by decide +kernel⟩
set_option maxHeartbeats 4000000 in
theorem bq {f fIn fTo fTe w1 w2 w3 w4 w5 w6 w7:Addr}{fd fdIn:FuncData}(F:Fun K "made" "made" fO f fd)(T:nV mg fW fI fP fD fPD fS fC fDl fWo fR fM cs)(A7:gN K cs fIn fTo fTe w1 w2 w3 w4 w5 w6 w7)
  (FI:Fun K "__init__" "Rule.__init__" lO fIn fdIn) (bI:Binds K fdIn ["self","first","last","worth"] []):zA P w K mg base CX0 3 f fd ["word","first","last","worth"] (eQ cs):=by
 refine F.ok zd0 (fun vs H Q E h=>?_) (fun cdv A outer s H vs Q E hr h=>?_)
 ·obtain⟨wd,x,y,z,rfl,_⟩:=h
  rfl
 ·obtain⟨wd,x,y,z,rfl,hw,k⟩:=h
  refine yj (fun σ H1=>σ=[some (.str wd),some x,some y,some z]∧wd≠"price"∧H=H1)
   ⟨_,wm (yu wR (pv 0) yb (zK _)) (zu (zB (xW A7.price.makes (wJ FI A7.price) hr (by rfl) T.cPrice bI .nil zW (zd (pv 1) (zd (pv 2) (zd (pv 3) zp)))))) yD,?_⟩ ?_
  ·refine⟨_,rfl,rfl,_,rfl,yH (fun h=>?_) (fun h=>⟨rfl,uM h,rfl⟩)⟩
   rw[uE h,wY] at k
   exact⟨_,rfl,_,rfl,_,rfl,fun p dx hp hx n=>⟨p,dx,_,_,_,rfl,zh,rfl,xG k hp hx n⟩⟩
  rintro σ H1 ⟨rfl,n1,rfl⟩
  refine yj (fun σ H1=>σ=[some (.str wd),some x,some y,some z]∧wd≠"come"∧H=H1)
   ⟨_,wm (yu wR (pv 0) yb (zK _)) (zu (zB (xW A7.come.makes (wJ FI A7.come) hr (by rfl) T.cCome bI .nil zW (zd (pv 1) (zd (pv 2) (zd (pv 3) zp)))))) yD,?_⟩ ?_
  ·refine⟨_,rfl,rfl,_,rfl,yH (fun h=>?_) (fun h=>⟨rfl,uM h,rfl⟩)⟩
   rw[uE h,ug] at k
   exact⟨_,rfl,_,rfl,_,rfl,fun p dx hp hx n=>⟨p,dx,_,_,_,rfl,zh,rfl,xG k hp hx n⟩⟩
  rintro σ H1 ⟨rfl,n2,rfl⟩
  refine yj (fun σ H1=>σ=[some (.str wd),some x,some y,some z]∧wd≠"go"∧H=H1)
   ⟨_,wm (yu wR (pv 0) yb (zK _)) (zu (zB (xW A7.go.makes (wJ FI A7.go) hr (by rfl) T.cGo bI .nil zW (zd (pv 1) (zd (pv 2) (zd (pv 3) zp)))))) yD,?_⟩ ?_
  ·refine⟨_,rfl,rfl,_,rfl,yH (fun h=>?_) (fun h=>⟨rfl,uM h,rfl⟩)⟩
   rw[uE h,nk] at k
   exact⟨_,rfl,_,rfl,_,rfl,fun p dx hp hx n=>⟨p,dx,_,_,_,rfl,zh,rfl,xG k hp hx n⟩⟩
  rintro σ H1 ⟨rfl,n3,rfl⟩
  refine yj (fun σ H1=>σ=[some (.str wd),some x,some y,some z]∧wd≠"least"∧H=H1)
   ⟨_,wm (yu wR (pv 0) yb (zK _)) (zu (zB (xW A7.least.makes (wJ FI A7.least) hr (by rfl) T.cLeast bI .nil zW (zd (pv 1) (zd (pv 2) (zd (pv 3) zp)))))) yD,?_⟩ ?_
  ·refine⟨_,rfl,rfl,_,rfl,yH (fun h=>?_) (fun h=>⟨rfl,uM h,rfl⟩)⟩
   rw[uE h,ve] at k
   exact⟨_,rfl,_,rfl,_,rfl,fun p dx hp hx n=>⟨p,dx,_,_,_,rfl,zh,rfl,xG k hp hx n⟩⟩
  rintro σ H1 ⟨rfl,n4,rfl⟩
  refine yj (fun σ H1=>σ=[some (.str wd),some x,some y,some z]∧wd≠"most"∧H=H1)
   ⟨_,wm (yu wR (pv 0) yb (zK _)) (zu (zB (xW A7.most.makes (wJ FI A7.most) hr (by rfl) T.cMost bI .nil zW (zd (pv 1) (zd (pv 2) (zd (pv 3) zp)))))) yD,?_⟩ ?_
  ·refine⟨_,rfl,rfl,_,rfl,yH (fun h=>?_) (fun h=>⟨rfl,uM h,rfl⟩)⟩
   rw[uE h,uy] at k
   exact⟨_,rfl,_,rfl,_,rfl,fun p dx hp hx n=>⟨p,dx,_,_,_,rfl,zh,rfl,xG k hp hx n⟩⟩
  rintro σ H1 ⟨rfl,n5,rfl⟩
  refine yj (fun σ H1=>σ=[some (.str wd),some x,some y,some z]∧wd≠"deal"∧H=H1)
   ⟨_,wm (yu wR (pv 0) yb (zK _)) (zu (zB (xW A7.deal.makes (wJ FI A7.deal) hr (by rfl) T.cDeal bI .nil zW (zd (pv 1) (zd (pv 2) (zd (pv 3) zp)))))) yD,?_⟩ ?_
  ·refine⟨_,rfl,rfl,_,rfl,yH (fun h=>?_) (fun h=>⟨rfl,uM h,rfl⟩)⟩
   rw[uE h,ur] at k
   exact⟨_,rfl,_,rfl,_,rfl,fun p dx hp hx n=>⟨p,dx,_,_,_,rfl,zh,rfl,xG k hp hx n⟩⟩
  rintro σ H1 ⟨rfl,n6,rfl⟩
  have e7:wd="fee":=by
   simp only[words,zp7,zq5,zt3] at hw
   rcases hw with e|e|e|e|e|e|e
   ·exact absurd e n1
   ·exact absurd e n2
   ·exact absurd e n3
   ·exact absurd e n4
   ·exact absurd e n5
   ·exact absurd e n6
   ·exact e
  rw[e7,tU] at k
  refine⟨_,zu (zB (xW A7.fee.makes (wJ FI A7.fee) hr (by rfl) T.cFee bI .nil zW (zd (pv 1) (zd (pv 2) (zd (pv 3) zp))))),?_⟩
  exact⟨_,rfl,_,rfl,_,rfl,fun p dx hp hx n=>⟨p,dx,_,_,_,rfl,zh,rfl,xG k hp hx n⟩⟩
theorem gF :zi ["thing"] ["thing"] (zc pM):=⟨rfl,rfl,rfl,by decide +kernel,rfl,by decide +kernel,by decide +kernel⟩
theorem jd {f:Addr}{fd fdR fdM:FuncData}(F:Fun K "rule_of" "rule_of" pM f fd)(T:nV mg fW fI fP fD fPD fS fC fDl fWo fR fM cs)(GR:zA P w K mg base CX0 6 fR fdR ["thing"] gA)(kR:PySem.W.keepIn K (.ref fR)=true)(bR:Binds K fdR ["thing"] [])
  (GM:zA P w K mg base CX0 3 fM fdM ["word","first","last","worth"] (eQ cs)) (kM:PySem.W.keepIn K (.ref fM)=true) (bM:Binds K fdM ["word","first","last","worth"] []):zA P w K mg base CX0 7 f fd ["thing"] (oC cs):=by
 refine F.ok gF (fun vs H Q E h=>?_) (fun cdv A outer s H vs Q E hr h=>?_)
 ·obtain⟨x,d,rfl,_⟩:=h
  rfl
 ·obtain⟨x,d,rfl,hd,sd,k0,k1⟩:=h
  have hr3:zR 3 _:=hr.mono (by decide)
  refine yj (fun σ H1=>σ=[some x]∧yA d=true∧zw H H1)
   ⟨_,wm (fL (gL (zQ GR hr (by rfl) T.rule kR bR .nil zW (zd (pv 0) zp)))) (zu (zB pG)) yD,?_⟩ ?_
  ·refine⟨_,rfl,x,d,rfl,hd,sd,fun H1 s1=>⟨_,rfl,?_⟩⟩
   refine yH (fun h=>?_) (fun h=>?_)
   ·exact k0 (by simpa using h) H1 s1
   ·exact⟨rfl,by simpa using h,s1⟩
  rintro σ H1 ⟨rfl,er,s1⟩
  obtain⟨sw,da,db,dv,hsw,rfl⟩:=xY er
  cases hd with
  |@tup r xs ds e hs=>
   cases hs with
   |@cons xw _ _ _ hw hs=>
    cases hw
    cases hs with
    |@cons xa _ _ _ ha hs=>
     cases hs with
     |@cons xb _ _ _ hb hs=>
      cases hs with
      |@cons xv _ _ _ hv hs=>
       cases hs
       have e1:=s1 _ _ e
       refine⟨_,zu (zB (zQ GM hr3 (by rfl) T.made kM bM .nil zW (zd (yn yv (pv 0) zx (fun _ _=>rfl)) (zd (yn yv (pv 0) zx (fun _ _=>rfl)) (zd (yn yv (pv 0) zx (fun _ _=>rfl)) (zd (yn yv (pv 0) zx (fun _ _=>rfl)) zp)))))),?_⟩
       refine⟨_,rfl,r,_,0,_,rfl,rfl,SqT.of e1,rfl,_,rfl,r,_,1,_,rfl,rfl,SqT.of e1,rfl,_,rfl,r,_,2,_,rfl,rfl,SqT.of e1,rfl,_,rfl,r,_,3,_,rfl,rfl,SqT.of e1,rfl,sw,_,_,_,rfl,hsw,fun p dx H2 h2 hp s2=>?_⟩
       exact k1 r sw xa xb xv p dx H2 rfl er hsw e h2 (s1.free hp) (s1.trans s2)
end
abbrev eu :Stmt:=top 47
abbrev xp :Stmt:=inClass (top 46) 0
abbrev vB :Stmt:=inClass (top 46) 1
def tR (C:Addr)(a b v:PyData):PyData:=vR C [(.str "first",a),(.str "last",b),(.str "worth",v)]
def tf (cs:Cs):PyData→PyData
 |.tuple [.str w,a,b,v]=>tR (cs.of w) a b v
 |_=>.none
def wU (C:Addr)(cs:Cs)(ds:List PyData):PyData:=vR C [(.str "kept",.list (ds.map (tf cs)))]
def Rules (ds:List PyData):Prop:=∀d∈ds,yA d=true∧SeqAt.shaped d=true∧d.hasDict=false
def su (cs:Cs):List A→(A→Prop)→Prop:=fun as Q=>∃d,as=[.dat d]∧d.hasDict=false∧SeqAt.shaped d=true∧(yA d=false→Q (.dat .none))∧(yA d=true→Q (.dat (tf cs d)))
def mi (cs:Cs):List A→(A→Prop)→Prop:=fun as Q=>∃ds,as=[.dat (.list ds)]∧Rules ds∧ds.length≤24∧Q (.own (ds.map (tf cs)))
def pT (C:Addr)(cs:Cs):List A→(A→Prop)→Prop:=fun as Q=>∃ds,(as=[.dat (.list ds)]∨(as=[.dat .none]∧ds=[]))∧Rules ds∧ds.length≤24∧Q (.dat (wU C cs ds))
def mC (C:Addr)(w:Str):List A→(A→Prop)→Prop:=fun as Q=>∃a b v,as=[.dat (tR C a b v)]∧Q (.dat (.tuple [.str w,a,b,v]))
def kl (C:Addr)(cs:Cs):List A→(A→Prop)→Prop:=fun as Q=>∃ds,as=[.dat (wU C cs ds)]∧Rules ds∧ds.length≤1000∧Q (.own ds)
theorem qB (x y z:V):wX x y z=[(("first":Str),x),(("last":Str),y),(("worth":Str),z)]:=by
 unfold wX
 show xS "worth" z (if ("first":Str)="last" then _ else _)=_
 rw[if_neg (fun e=>eD e.symm)]
 show (if ("first":Str)="worth" then _ else _)=_
 rw[if_neg (fun e=>iA e.symm)]
 show _::(if ("last":Str)="worth" then _ else _)=_
 rw[if_neg (fun e=>gb e.symm)]
 rfl
theorem vL {cs:Cs}{d:PyData}(h:yA d=true):∃(s:Str) (a b v:PyData),s∈words∧d=.tuple [.str s,a,b,v]∧tf cs d=tR (cs.of s) a b v:=by
 obtain⟨s,a,b,v,hs,rfl⟩:=xY h
 exact⟨s,a,b,v,hs,rfl,rfl⟩
def gm :Scope:=match zC vB with
 |[.Return (some (.ListComp _ _ sc _)) _]=>sc
 |_=>zc vB
section
variable {P:Program}{w:World}{K:PySem.W.Frag}{mg:Str→Option Value}{base:Heap}{cs:Cs}
theorem ml {k:Nat}{f:Addr}{fd:FuncData}{ps:List Str}(hm:mg "rule_of"=some (.ref f))(hk:PySem.W.keepIn K (.ref f)=true)(hb:Binds K fd ps [])(G:zA P w K mg base CX0 k f fd ps (oC cs)):Cal P w K mg base "rule_of" k (su cs):=by
 refine⟨f,fd,_,hm,hk,hb,G.imp fun vs H Q E h=>?_⟩
 obtain⟨F,as,Q',rfl,t,o,rv,⟨d,rfl,nd,sh,q0,q1⟩,kk⟩:=h
 obtain⟨x,rfl,av⟩:=rv.one
 have oo:∀{a:Addr},F.H0 a=none→¬F.O0 a:=fun {a} e z=>by
  obtain⟨u,hu,_⟩:=o a z
  rw[e] at hu;cases hu
 refine⟨x,d,rfl,(av.dv nd).same xh,sh,fun hr H' s=>kk _ _ _ (q0 hr) ⟨t.same s,Kz.of_same s,.non⟩,fun r wd x1 x2 x3 p dx H' hx hr hw he hp' hp s=>kk _ _ _ (q1 hr) ⟨t.same s,Kz.of_same s,?_⟩⟩
 subst hx
 obtain⟨s',a,b,v,_,rfl⟩:=xY hr
 obtain⟨r',xs,e1,e2,e3⟩:=av.tup_inv
 cases e1
 have e4:=(zf e2).2
 rw[he] at e4
 cases e4
 have gs:zw (sub (fun x=>¬F.O0 x) F.H0) (sub (fun x=>¬F.O0 x) H'):=zo fun a u h e=>⟨h,s _ _ e⟩
 cases e3 with
 |cons g1 e3=>
  cases g1.str_inv
  cases e3 with
  |cons g2 e3=>
   cases e3 with
   |cons g3 e3=>
    cases e3 with
    |cons g4 e3=>
     cases e3
     rw[qB] at hp'
     exact .ins (zJ (oo hp) hp') (.cons (g2.same gs) (.cons (g3.same gs) (.cons (g4.same gs) .nil)))
theorem yV {C f fIn fE fWd:Addr}{fd:FuncData}{wd:Str}(R:wc K C fIn f fE fWd)(hb:Binds K fd ["self"] [])(G:zA P w K mg base CX0 2 f fd ["self"] (gP C wd)):vG P w K mg base C "told" 2 (mC C wd):=by
 refine⟨f,fd,_,R.cl,R.told,hb,G.imp fun vs H Q E h=>?_⟩
 obtain⟨F,as,Q',rfl,t,o,rv,⟨a,b,v,rfl,q⟩,kk⟩:=h
 obtain⟨x,rfl,av⟩:=rv.one
 obtain⟨p,dx,fs,rfl,h1,h2⟩:=av.ins_inv
 cases h2 with
 |cons g1 h2=>
  cases h2 with
  |cons g2 h2=>
   cases h2 with
   |cons g3 h2=>
    cases h2
    refine⟨p,dx,_,_,_,rfl,by rw[qB];exact (zf h1).2,fun r hr=>kk _ _ _ q ⟨t.same (zM hr),Kz.of_same (zM hr),?_⟩⟩
    have gs:∀o':HO,zw (sub (fun x=>¬F.O0 x) F.H0) (sub (fun x=>¬F.O0 x) (upd F.H0 r o')):=fun o'=>zo fun a u h e=>⟨h,by rw[zl (zm e hr)];exact e⟩
    refine .tup (zJ (fun z=>?_) zh) (.cons (.str _) (.cons (g1.same (gs _)) (.cons (g2.same (gs _)) (.cons (g3.same (gs _)) .nil))))
    obtain⟨u,hu,_⟩:=o r z
    rw[hr] at hu;cases hu
theorem gO :zi ["things","kept","number","thing","rule"] ["things"] (zc eu):=⟨rfl,rfl,rfl,by decide +kernel,rfl,by decide +kernel,by decide +kernel⟩
set_option maxHeartbeats 4000000 in
theorem ff {f:Addr}{fd:FuncData}(F:Fun K "kept_rules" "kept_rules" eu f fd)(hm:mg "kept_rules"=some (.ref f))(hb:Binds K fd ["things"] [])(nb:NbT mg)(gM:∃t,mg "MOST_RULES"=some (.int 24 t))(CRO:Cal P w K mg base "rule_of" 7 (su cs)):Cal P w K mg base "kept_rules" 8 (mi cs):=by
 refine xR F hm hb gO (fun as Q h=>?_) (fun cdv A' outer s H E as Q hr h=>?_)
 ·obtain⟨ds,rfl,_⟩:=h
  rfl
 ·obtain⟨ds,rfl,rd,hl,q⟩:=h
  refine yt 1 gO.nd (ym (ze (⟨_,rfl,zp4 rfl,?_⟩)))
  refine vU (pat:=.many [2,3]) zw5 rfl (yI (n:=2) (K:=K) rfl rfl (zS (zr (i:=2) gO.nd rfl (Or.inl rfl)) (zS (zr (i:=3) gO.nd rfl (Or.inl rfl)) (yY)))) (uk (by rfl) nb.enumerate (zb 0 rfl (⟨_,rfl,?_⟩)))
  refine yh (fun i α=>∃v2 v3 v4,α=[some (.dat (.list ds)),some (.own ((ds.take i).map (tf cs))),v2,v3,v4]) ⟨none,none,none,rfl⟩ ?_ ?_
  ·rintro i d α hd ⟨v2,v3,v4,rfl⟩
   obtain⟨e,he,rfl⟩:=xE hd
   obtain⟨r1,r2,r3⟩:=rd e (zt0 he)
   have hi:i<ds.length:=(zp5.mp he).1
   refine⟨_,rfl,?_⟩
   refine zN 4 gO.nd (zq CRO hr (by rfl) (za (zb 3 rfl (ze (⟨_,rfl,r3,r2,fun z=>(by rw[r1] at z;cases z),fun _=>?_⟩)))))
   refine yw (uG (zb 4 rfl ?_))
   obtain⟨s',a,b,v,hs,rfl,ei⟩:=vL (cs:=cs) r1
   refine zZ (fun h=>by rw[show (A.dat (tf cs (.tuple [.str s',a,b,v]))).d=tR (cs.of s') a b v from rfl] at h;cases h) (fun _=>zD ?_)
   refine wx 1 rfl (zb 4 rfl ⟨by rw[zp2,zv6];omega,?_⟩)
   refine zD ⟨some (.dat (.int ((0+i:Nat):Int))),some (.dat (.tuple [.str s',a,b,v])),some (.dat (tf cs (.tuple [.str s',a,b,v]))),?_⟩
   rw[zx6,he,zx2]
   rfl
  ·rintro α ⟨v2,v3,v4,rfl⟩
   rw[xy,zu9]
   refine yw (wN 1 rfl (rM (mK (by rfl) nb.len (zb 1 rfl ⟨_,rfl,iM (by rfl) gM ⟨_,_,rfl,rfl,?_⟩⟩))))
   refine pL (fun h=>?_) (fun _=>zD ?_)
   ·rw[zp2] at h
    omega
   ·exact wG 1 rfl q
theorem zm9 :zi ["self","rules"] ["self","rules"] (zc xp):=⟨rfl,rfl,rfl,by decide +kernel,rfl,by decide +kernel,by decide +kernel⟩
theorem jw {w' v:PyData}(h:zI w' v=true):noL v=true:=by
 have wi:∀{lo hi:Int} {x:PyData},zU lo hi x=true→noL x=true:=fun {lo hi x} h=>by
  cases x with
  |int i=>rfl
  |_=>cases h
 have nn:∀{x:PyData},isNone x=true→noL x=true:=fun {x} h=>by
  cases x with
  |none=>rfl
  |_=>cases h
 unfold zI at h
 split at h
 ·rcases (zy1 _ _).mp h with h|h
  ·exact nn h
  ·exact wi h
 ·split at h
  ·cases v with
   |bool b=>rfl
   |_=>cases h
  ·split at h
   ·exact wi h
   ·split at h
    ·rcases (zy1 _ _).mp h with h|h
     ·exact nn h
     ·unfold sN at h
      split at h
      ·rw[zq8] at h
       simp only[noL,vM,wi h.2,zB3]
      ·cases h
    ·rw[zq8] at h
     exact wi h.2
theorem fg {s':Str}{a b v:PyData}(h:yA (.tuple [.str s',a,b,v])=true):noL a=true∧noL b=true∧noL v=true:=by
 have h':(yf (.tuple [a,b])&&zI (.str s') v)=true:=h
 rw[zq8] at h'
 refine⟨?_,?_,jw h'.2⟩
 ·have:=h'.1
  unfold yf rE at this
  split at this
  ·rename_i k e
   split at e
   ·rename_i z;cases z;rfl
   ·cases e
  ·cases this
 ·have:=h'.1
  unfold yf rE at this
  split at this
  ·rename_i k e
   split at e
   ·rename_i z;cases z;rfl
   ·cases e
  ·cases this
theorem ou {ds:List PyData}(rd:Rules ds):vM (ds.map (tf cs))=true:=by
 induction ds with
 |nil=>rfl
 |cons d r ih=>
  have ih':=ih fun x hx=>rd x (zq0 _ hx)
  have h1:=(rd d zq1).1
  obtain⟨s',a,b,v,hs,rfl,ei⟩:=vL (cs:=cs) h1
  obtain⟨z1,z2,z3⟩:=fg h1
  rw[zs1,ei]
  simp only[vM,ih',Bool.and_true]
  simp[tR,vR,noL,mO,z1,z2,z3]
theorem gY {f C:Addr}{dV:Value}{fd:FuncData}(F:zf2 K "__init__" "Book.__init__" xp dV f fd)(c:Cls K C)(na:yF K C "kept")(CK:Cal P w K mg base "kept_rules" 8 (mi cs)):zA P w K mg base CX0 9 f fd ["self","rules"] (spI C (pT C cs)):=by
 refine zi3 (N:=[]) F zm9 c na rfl (fun as Q h=>?_) (fun cdv A' outer s H E as Q hr h=>?_) (fun _ _ _ _ _ _=>rfl) (Or.inl rfl)
 ·obtain⟨ds,h|⟨h,_⟩,_⟩:=h<;>rw[h]<;>rfl
 ·obtain⟨ds,h|⟨h,hz⟩,rd,hl,q⟩:=h
  ·subst h
   exact xJ CK hr (by rfl) (za (lg (uG (zb 1 rfl (tD (zb 1 rfl (ze ⟨_,rfl,rd,hl,_,rfl,ou rd,q⟩)))))))
  ·subst h hz
   exact xJ CK hr (by rfl) (za (lg (uG (zb 1 rfl (uF (EvL.d (ym (ze ⟨_,rfl,zp4 rfl,ze ⟨[],rfl,rd,hl,_,rfl,ou rd,q⟩⟩))))))))
theorem zm1 :zi ["self"] ["self"] (zc vB):=⟨rfl,rfl,rfl,by decide +kernel,rfl,by decide +kernel,by decide +kernel⟩
theorem zg7 :zy ["self"] (zc vB) ["rule"] [none] gm:=⟨rfl,by decide +kernel,by decide +kernel,by decide +kernel,by decide +kernel,rfl,by decide +kernel⟩
set_option maxHeartbeats 4000000 in
theorem jZ {f C:Addr}{fd:FuncData}(F:Fun K "rules" "Book.rules" vB f fd)(c:Cls K C)(na:yF K C "kept")(hb:Binds K fd ["self"] [])(O:∀w'∈words,vG P w K mg base (cs.of w') "told" 2 (mC (cs.of w') w')):zA P w K mg base CX0 3 f fd ["self"] (spA (kl C cs)):=by
 refine fnA F zm1 (fun as Q h=>?_) (fun cdv A' outer s H E as Q hr h=>?_)
 ·obtain⟨ds,rfl,_⟩:=h
  rfl
 ·obtain⟨ds,rfl,rd,hl,q⟩:=h
  refine uA (wV (pat:=.one 0) rfl zg7 rfl (fun _ _ _ _=>zr (i:=0) zg7.nd rfl (Or.inl rfl)) (zT (mq c na (zb 0 rfl ⟨_,_,rfl,rfl,⟨_,rfl,by rw[zp2];exact hl,?comp⟩⟩))))
  case comp=>
   refine rP (fun i acc=>acc=ds.take i) rfl ?_ (fun acc h=>?_)
   ·rintro i d acc hd rfl
    rw[zq7,zq3] at hd
    obtain⟨e,he,rfl⟩:=hd
    obtain⟨s',a,b,v,hs,rfl,ei⟩:=vL (cs:=cs) (rd e (zt0 he)).1
    refine⟨_,rfl,fun C s2 H2 fp=>pU ?_⟩
    rw[if_pos rfl]
    refine fun C s2 H2 fp=>pX (O s' hs) hr (zb 0 rfl ⟨_,rfl,rfl,_,_,_,rfl,?_⟩)
    show ds.take i++[_]=ds.take (i+1)
    rw[zx6,he]
    rfl
   ·rw[zp2,zu9] at h
    rw[h]
    exact q
end
abbrev pP :Stmt:=inClass (top 46) 2
abbrev nJ :Stmt:=top 37
def tbU :List (Str×V):=[("price",.non),("come",.bl true),("go",.bl true),("least",.int 1),("most",.int 14),("deal",.non),("fee",.int 0)]
def jB (x:Str):PyData:=if x="price"∨x="deal" then .none else if x="come"∨x="go" then .bool true else if x="least" then .int 1 else if x="most" then .int 14 else .int 0
theorem eY {x:Str}(h:x∈words):∃v,tbU.lookup x=some v∧scV (jB x)=some v:=by
 simp only[words,zp7,zq5,zt3] at h
 rcases h with rfl|rfl|rfl|rfl|rfl|rfl|rfl
 ·exact⟨.non,by decide +kernel,by decide +kernel⟩
 ·exact⟨.bl true,by decide +kernel,by decide +kernel⟩
 ·exact⟨.bl true,by decide +kernel,by decide +kernel⟩
 ·exact⟨.int 1,by decide +kernel,by decide +kernel⟩
 ·exact⟨.int 14,by decide +kernel,by decide +kernel⟩
 ·exact⟨.non,by decide +kernel,by decide +kernel⟩
 ·exact⟨.int 0,by decide +kernel,by decide +kernel⟩
def oq (w:Str)(day:Int):PyData→Bool
 |.tuple [.str x,.int a,.int b,_]=>decide (x=w)&&(decide (a≤day)&&decide (day≤b))
 |_=>false
def pk :PyData→PyData
 |.tuple [_,_,_,v]=>v
 |_=>.none
def zL (ds:List PyData)(w:Str)(day:Int):PyData:=match ds.reverse.find? (oq w day) with
 |some d=>pk d
 |none=>jB w
theorem nB (ds:List PyData)(d:PyData)(w:Str)(day:Int):zL (ds++[d]) w day=if oq w day d=true then pk d else zL ds w day:=by
 unfold zL
 rw[List.reverse_append,List.reverse_singleton,List.singleton_append,zu2]
 cases oq w day d<;>simp
theorem rm {p:PyData→Bool}{e:PyData}:∀{l:List PyData} {i:Nat},(∀j<i,∀d,l[j]?=some d→p d=false)→l[i]?=some e→p e=true→l.find? p=some e
 |[],i,_,h,_=>by simp at h
 |d::l,0,_,h,q=>by
  simp at h;subst h
  simp[zu2,q]
 |d::l,i+1,a,h,q=>by
  have hd:=a 0 (Nat.succ_pos _) d rfl
  rw[zu2,hd]
  exact rm (i:=i) (fun j hj x hx=>a (j+1) (Nat.succ_lt_succ hj) x (by simpa using hx)) (by simpa using h) q
theorem cJ {p:PyData→Bool}{l:List PyData}(h:∀(j:Nat) d,l[j]?=some d→p d=false):l.find? p=none:=by
 rw[List.find?_eq_none]
 intro x hx
 obtain⟨j,hj⟩:=List.mem_iff_getElem?.mp hx
 rw[h j x hj];simp
theorem vN {d:PyData}(h:yA d=true):∃(s:Str) (i j:Int) (v:PyData),s∈words∧d=.tuple [.str s,.int i,.int j,v]∧0≤i∧i≤j∧j≤1000000∧zI (.str s) v=true:=by
 obtain⟨s,a,b,v,hs,rfl⟩:=xY h
 have h':(yf (.tuple [a,b])&&zI (.str s) v)=true:=h
 rw[zq8] at h'
 have h1:=h'.1
 unfold yf rE at h1
 split at h1
 ·rename_i k e
  split at e
  ·rename_i z
   cases z
   split at e
   ·rename_i q
    cases e
    rw[zq8] at q
    rename_i a' b'
    have qa:(decide (0≤a')&&decide (a'≤1000000))=true:=q.1
    have qb:(decide (0≤b')&&decide (b'≤1000000))=true:=q.2
    rw[zq8,zs4,zs4] at qa qb
    have h2:=zx5 h1
    exact⟨s,a',b',v,hs,rfl,qa.1,by omega,qb.2,h'.2⟩
   ·cases e
  ·cases e
 ·cases h1
theorem jL (a b v:PyData):rn [(.str "first",a),(.str "last",b),(.str "worth",v)] "worth"=some v:=by
 show (if ("worth":Str)="first" then _ else _)=_
 rw[if_neg iA]
 show (if ("worth":Str)="last" then _ else _)=_
 rw[if_neg gb]
 show (if ("worth":Str)="worth" then _ else _)=_
 rw[if_pos rfl]
def pf :List A→(A→Prop)→Prop:=fun as Q=>∃x,as=[.dat (.str x)]∧x∈words∧Q (.dat (jB x))
def nZ (C:Addr)(w:Str):List A→(A→Prop)→Prop:=fun as Q=>∃a b v,as=[.dat (tR C a b v)]∧Q (.dat (.str w))
def sS (C:Addr):List A→(A→Prop)→Prop:=fun as Q=>∃(a b day:Int) (v:PyData),as=[.dat (tR C (.int a) (.int b) v),.dat (.int day)]∧Q (.dat (.bool (decide (a≤day)&&decide (day≤b))))
def tL (C:Addr)(cs:Cs):List A→(A→Prop)→Prop:=fun as Q=>∃ds x day,as=[.dat (wU C cs ds),.dat (.str x),.dat (.int day)]∧Rules ds∧x∈words∧Q (.dat (zL ds x day))
section
variable {P:Program}{w:World}{K:PySem.W.Frag}{mg:Str→Option Value}{base:Heap}{cs:Cs}
theorem zn4 :zi ["word"] ["word"] (zc nJ):=⟨rfl,rfl,rfl,by decide +kernel,rfl,by decide +kernel,by decide +kernel⟩
theorem jt {f dU:Addr}{fd:FuncData}(F:Fun K "usual" "usual" nJ f fd)(hm:mg "usual"=some (.ref f))(hb:Binds K fd ["word"] [])(mU:mg "USUAL"=some (.ref dU))(DU:kL K w dU tbU):Cal P w K mg base "usual" 1 pf:=by
 refine xR F hm hb zn4 (fun as Q h=>?_) (fun cdv A' outer s H E as Q hr h=>?_)
 ·obtain⟨x,rfl,_⟩:=h
  rfl
 ·obtain⟨x,rfl,hx,q⟩:=h
  obtain⟨v,h1,h2⟩:=eY hx
  exact yq (de (by rfl) mU DU (zb 0 rfl ⟨x,jB x,v,rfl,h1,h2,q⟩))
theorem yW {C f fIn fT fE:Addr}{fd:FuncData}{wd:Str}(R:wc K C fIn fT fE f)(hb:Binds K fd ["self"] [])(G:zA P w K mg base CX0 1 f fd ["self"] (wH wd)):vG P w K mg base C "word" 1 (nZ C wd):=by
 refine⟨f,fd,_,R.cl,R.word,hb,G.imp fun vs H Q E h=>?_⟩
 obtain⟨F,as,Q',rfl,t,o,rv,⟨a,b,v,rfl,q⟩,kk⟩:=h
 obtain⟨x,rfl,av⟩:=rv.one
 obtain⟨p,dx,fs,rfl,h1,h2⟩:=av.ins_inv
 exact⟨p,rfl,kk _ _ _ q ⟨t,Kz.refl,.str _⟩⟩
theorem yy {C f fIn fT fWd:Addr}{fd:FuncData}(R:wc K C fIn fT f fWd)(hb:Binds K fd ["self","day"] [])(G:zA P w K mg base CX0 1 f fd ["self","day"] (kJ C)):vG P w K mg base C "tells" 1 (sS C):=by
 refine⟨f,fd,_,R.cl,R.tells,hb,G.imp fun vs H Q E h=>?_⟩
 obtain⟨F,as,Q',rfl,t,o,rv,⟨a,b,day,v,rfl,q⟩,kk⟩:=h
 obtain⟨x,y,rfl,av,ay⟩:=rv.two
 cases ay.int_inv
 obtain⟨p,dx,fs,rfl,h1,h2⟩:=av.ins_inv
 cases h2 with
 |cons g1 h2=>
  cases h2 with
  |cons g2 h2=>
   cases h2 with
   |cons g3 h2=>
    cases h2
    cases g1.int_inv
    cases g2.int_inv
    exact⟨p,dx,a,b,day,_,rfl,by rw[qB];exact (zf h1).2,kk _ _ _ q ⟨t,Kz.refl,.bl _⟩⟩
theorem zk5 :zi ["self","word","day","rule"] ["self","word","day"] (zc pP):=⟨rfl,rfl,rfl,by decide +kernel,rfl,by decide +kernel,by decide +kernel⟩
set_option maxHeartbeats 4000000 in
theorem kX {f C:Addr}{fd:FuncData}(F:Fun K "tells_of" "Book.tells_of" pP f fd)(c:Cls K C)(na:yF K C "kept")(nb:NbT mg)(CU:Cal P w K mg base "usual" 1 pf)(OW:∀u∈words,vG P w K mg base (cs.of u) "word" 1 (nZ (cs.of u) u))(OR:∀u∈words,vG P w K mg base (cs.of u) "tells" 1 (sS (cs.of u)))
  (OC:∀u∈words,Cls K (cs.of u)∧yF K (cs.of u) "worth"):zA P w K mg base CX0 2 f fd ["self","word","day"] (spA (tL C cs)):=by
 refine fnA F zk5 (fun as Q h=>?_) (fun cdv A' outer s H E as Q hr h=>?_)
 ·obtain⟨ds,x,d,rfl,_⟩:=h
  rfl
 ·obtain⟨ds,x,day,rfl,rd,hx,q⟩:=h
  refine vU (pat:=.one 3) zw5 rfl (zr (i:=3) zk5.nd rfl (Or.inl rfl)) (aS (by rfl) nb.reversed (mq c na (zb 0 rfl ⟨_,_,rfl,rfl,⟨_,rfl,?_⟩⟩)))
  refine yh (fun i α=>(∃v3,α=[some (.dat (wU C cs ds)),some (.dat (.str x)),some (.dat (.int day)),v3])∧∀j<i,∀d,ds.reverse[j]?=some d→oq x day d=false) ⟨⟨none,rfl⟩,fun j hj=>absurd hj (Nat.not_lt_zero _)⟩ ?_ ?_
  ·rintro i d α hd ⟨⟨v3,rfl⟩,hno⟩
   rw[←List.map_reverse,zq7,zq3] at hd
   obtain⟨e,he,rfl⟩:=hd
   have hme:e∈ds:=List.mem_reverse.mp (zt0 he)
   obtain⟨u,a,b,v,hu,rfl,_,_,_,_⟩:=vN (rd e hme).1
   refine⟨_,rfl,?_⟩
   refine yw (EvW.t (kB (fun _ k=>qM (pX (OW u hu) hr (zb 3 rfl ⟨_,rfl,rfl,_,_,_,rfl,zb 1 rfl ⟨_,_,rfl,rfl,k⟩⟩)))
    (fun hp _ k=>tM (xr (wB (OR u hu) hr (zb 3 rfl ⟨_,rfl,rfl,za (zb 2 rfl (ze ⟨_,_,_,_,rfl,_,rfl,k⟩))⟩)))) ?_))
   refine zZ (fun h=>?_) (fun h=>?_)
   ·refine yq (mq (OC u hu).1 (OC u hu).2 (zb 3 rfl ⟨_,_,rfl,jL _ _ _,?_⟩))
    have e1:ds.reverse.find? (oq x day)=some (.tuple [.str u,.int a,.int b,v]):=rm hno he h
    unfold zL at q
    rw[e1] at q
    exact q
   ·refine zD (zD ⟨⟨_,rfl⟩,fun j hj d' hd'=>?_⟩)
    rcases Nat.lt_or_ge j i with z|z
    ·exact hno j z d' hd'
    ·have:j=i:=by omega
     subst this
     rw[he] at hd';cases hd'
     exact h
  ·rintro α ⟨⟨v3,rfl⟩,hno⟩
   refine yq (zq CU (hr.mono (by decide)) (by rfl) (za (zb 1 rfl (ze ⟨x,rfl,hx,?_⟩))))
   have e1:ds.reverse.find? (oq x day)=none:=cJ fun j d hd=>hno j (by
    have:=(zp5.mp hd).1
    rw[zy8,zp2]
    rwa [zy8] at this) d hd
   unfold zL at q
   rw[e1] at q
   exact q
end
structure vQ (d:PyData):Prop where
 rule:yA d=true
 nice:yC 20011 d
 dep:d.depth≤2
 wn:yC 5000 (pk d)
def xu (ds:List PyData):Prop:=∀d∈ds,vQ d
theorem jb {s:Str}(h:s∈words):yC 2000 (.str s):=by
 simp only[words,zp7,zq5,zt3] at h
 rcases h with rfl|rfl|rfl|rfl|rfl|rfl|rfl<;>exact⟨rfl,rfl,zr9 _,by decide +kernel,by decide +kernel⟩
theorem vQ.of {s:Str}{i j:Int}{d:PyData}(hs:s∈words)(i0:0≤i)(ij:i≤j)(j1:j≤1000000)(hw:zI (.str s) d=true)(hn:yC 5000 d)(hd:d.depth≤1):vQ (.tuple [.str s,.int i,.int j,d]):=by
 have hbig:(1000001:Int)<big:=by decide
 have hneg:-big<(0:Int):=by decide
 have na:yk 5000 [.str s,.int i,.int j,d]:=by
  constructor
  ·intro x hx
   simp only[zp7,zq5,zt3] at hx
   rcases hx with rfl|rfl|rfl|rfl
   ·exact (jb hs).mono (by decide)
   ·exact (yC.int (by omega) (by omega)).mono (by decide)
   ·exact (yC.int (by omega) (by omega)).mono (by decide)
   ·exact hn
  ·intro x hx
   simp only[zp7,zq5,zt3] at hx
   rcases hx with rfl|rfl|rfl|rfl
   ·exact zr9 _
   ·exact zr9 _
   ·exact zr9 _
   ·omega
 refine⟨?_,yC.tuple na (by show 4*(5000+2)+3≤20011;decide),?_,hn⟩
 ·show (yf (.tuple [.int i,.int j])&&zI (.str s) d)=true
  rw[hw,Bool.and_true]
  unfold yf rE
  have h1:(um (.int i)&&um (.int j))=true:=by
   show ((decide (0≤i)&&decide (i≤1000000))&&(decide (0≤j)&&decide (j≤1000000)))=true
   simp only[zq8,zs4]
   omega
  simp only[h1,if_true,zs4]
  omega
 ·simp only[PyData.depth,PyData.depthAll]
  omega
theorem xu.rules {ds:List PyData}(h:xu ds):Rules ds:=fun d hd=>⟨(h d hd).rule,(h d hd).nice.shaped,(h d hd).nice.nod⟩
abbrev pO :Stmt:=top 52
abbrev pS :Stmt:=top 53
abbrev lb :Stmt:=top 54
abbrev iG :Stmt:=top 56
abbrev lB :Stmt:=top 57
theorem vb (d:PyData):zI (.str "price") d=(isNone d||uJ d):=by unfold zI;rw[if_pos (by decide +kernel)]
theorem sX (d:PyData):zI (.str "come") d=isBool d:=by unfold zI;rw[if_neg (by decide +kernel),if_pos (by decide +kernel)]
theorem oO (d:PyData):zI (.str "go") d=isBool d:=by unfold zI;rw[if_neg (by decide +kernel),if_pos (by decide +kernel)]
theorem uX (d:PyData):zI (.str "least") d=zU 1 14 d:=by unfold zI;rw[if_neg (by decide +kernel),if_neg (by decide +kernel),if_pos (by decide +kernel)]
theorem rg (d:PyData):zI (.str "most") d=zU 1 14 d:=by unfold zI;rw[if_neg (by decide +kernel),if_neg (by decide +kernel),if_pos (by decide +kernel)]
theorem tX (d:PyData):zI (.str "deal") d=(isNone d||sN d):=by unfold zI;rw[if_neg (by decide +kernel),if_neg (by decide +kernel),if_neg (by decide +kernel),if_pos (by decide +kernel)]
theorem jh (d:PyData):zI (.str "fee") d=uJ d:=by
 unfold zI;rw[if_neg (by decide +kernel),if_neg (by decide +kernel),if_neg (by decide +kernel),if_neg (by decide +kernel)]
 have:eqS (.str "fee") "fee"=true:=by decide +kernel
 rw[this,zu6]
theorem within_int {lo hi i:Int}(h1:lo≤i)(h2:i≤hi):zU lo hi (.int i)=true:=by
 show (decide (lo≤i)&&decide (i≤hi))=true
 rw[zt5 h1,zt5 h2];rfl
theorem wZ {i:Int}(h0:-2000000000000≤i)(h1:i≤2000000000000):yC 2000 (.int i):=yC.int (by unfold big;omega) (by unfold big;omega)
def qK :List A→(A→Prop)→Prop:=fun as Q=>as=[.tape]∧∀z:Int,0≤z→z≤1000000000000→Q (.dat (.int z))
def oN :List A→(A→Prop)→Prop:=fun as Q=>∃wd,as=[.tape,.dat (.str wd)]∧wd∈words∧∀d,zI (.str wd) d=true→yC 5000 d→d.depth≤1→Q (.dat d)
def lZ :List A→(A→Prop)→Prop:=fun as Q=>∃y:Int,as=[.tape,.dat (.int y)]∧0≤y∧y≤1000000∧∀d,vQ d→Q (.dat d)
def fu :List A→(A→Prop)→Prop:=fun as Q=>as=[.tape]∧∀z:Int,0≤z→z≤999990→Q (.dat (.int z))
def lQ :List A→(A→Prop)→Prop:=fun as Q=>∃y:Int,as=[.tape,.dat (.int y)]∧0≤y∧y≤999990∧∀c g:Int,0≤c→c<g→g≤c+14→g≤1000000→Q (.dat (.tuple [.int c,.int g]))
section
variable {P:Program}{w:World}{K:PySem.W.Frag}{mg:Str→Option Value}{base:Heap}
theorem cV :zi ["_law_row","_law_few","_law_many","_law_great"] ["_law_row"] (zc pO):=⟨rfl,rfl,rfl,by decide +kernel,rfl,by decide +kernel,by decide +kernel⟩
set_option maxHeartbeats 4000000 in
theorem jA {f:Addr}{fd:FuncData}(F:Fun K "_law_coins" "_law_coins" pO f fd)(hm:mg "_law_coins"=some (.ref f))(hb:Binds K fd ["_law_row"] [])(CD:Cal P w K mg base "_law_take" 1 wb):Cal P w K mg base "_law_coins" 2 qK:=by
 refine xR F hm hb cV (fun as Q h=>?_) (fun cdv A' outer s H E as Q hr h=>?_)
 ·obtain⟨rfl,_⟩:=h
  rfl
 ·obtain⟨rfl,q⟩:=h
  refine zN 1 cV.nd (zq CD hr (by rfl) (zt 0 rfl (za (zk (ze (⟨_,rfl,by decide,by decide,fun v1 h1 g1=>?_⟩))))))
  refine zN 2 cV.nd (qG (zk (zq CD hr (by rfl) (zt 0 rfl (za (zk (ze (⟨_,rfl,by decide,by decide,fun v2 h2 g2=>⟨_,_,rfl,rfl,.inl ⟨by decide,by decide⟩,?_⟩⟩))))))))
  refine zN 3 cV.nd (yx (qG (zq CD hr (by rfl) (zt 0 rfl (za (yK (r:=1000000) ⟨by decide,by decide,by decide⟩ (by decide) (ze (⟨_,rfl,by decide,by decide,fun v4 h4 g4=>yK (r:=1000000) ⟨by decide,by decide,by decide⟩ (by decide) (⟨_,_,rfl,rfl,.inr ⟨by decide,by decide⟩,zq CD hr (by rfl) (zt 0 rfl (za (yK (r:=1000000) ⟨by decide,by decide,by decide⟩ (by decide) (ze (⟨_,rfl,by decide,by decide,fun v3 h3 g3=>⟨_,_,rfl,rfl,?_⟩⟩)))))⟩)⟩))))))))
  refine yq (vi (fun _ _=>rfl) (EvL.d (ym (za (zb 1 rfl (za (zb 2 rfl (za (yx (zb 1 rfl (qG (zk (zb 2 rfl (⟨_,_,rfl,rfl,.inl ⟨by decide,by decide⟩,⟨_,_,rfl,rfl,za (zb 3 rfl (za (yK (r:=1000000000000) ⟨by decide,by decide,by decide⟩ (by decide) (ze (⟨_,rfl,zp4 rfl,kT (zq CD hr (by rfl) (zt 0 rfl (za (zk (ze (⟨_,rfl,by decide,by decide,fun v5 h5 g5=>zk (⟨_,_,rfl,rfl,⟨by decide,by decide +kernel⟩,?_⟩)⟩))))))⟩)))))⟩⟩))))))))))))))
  obtain⟨z,hz,e⟩:=uZ (ds:=[PyData.int v1,.int (10*v2),.int (v1+10*(10*v2)),.int (v4*1000000+v3),.int 1000000000000]) (v:=v5 / 2) (by omega) (by show v5 / 2<5;omega)
  refine⟨_,_,z,rfl,rfl,e,?_⟩
  simp only[zp7,zq5,zt3] at hz
  rcases hz with rfl|rfl|rfl|rfl|rfl
  ·exact q _ (by omega) (by omega)
  ·exact q _ (by omega) (by omega)
  ·exact q _ (by omega) (by omega)
  ·exact q _ (by omega) (by omega)
  ·exact q _ (by omega) (by omega)
theorem bJ :zi ["_law_row","_law_word","_law_many","_law_free","_law_coins_here"] ["_law_row","_law_word"] (zc pS):=⟨rfl,rfl,rfl,by decide +kernel,rfl,by decide +kernel,by decide +kernel⟩
theorem ez (s a b:Str):inD (.str s) [.str a,.str b]=(decide (a=s)||decide (b=s)):=by
 show ((a == s)||((b == s)||false))=_
 rw[Bool.or_false]
 by_cases h1:a=s<;>by_cases h2:b=s<;>simp[h1,h2]
set_option maxHeartbeats 4000000 in
theorem jf {f:Addr}{fd:FuncData}(F:Fun K "_law_worth" "_law_worth" pS f fd)(hm:mg "_law_worth"=some (.ref f))(hb:Binds K fd ["_law_row","_law_word"] [])(CD:Cal P w K mg base "_law_take" 1 wb)(CC:Cal P w K mg base "_law_coins" 2 qK):Cal P w K mg base "_law_worth" 3 oN:=by
 refine xR F hm hb bJ (fun as Q h=>?_) (fun cdv A' outer s H E as Q hr h=>?_)
 ·obtain⟨wd,rfl,_⟩:=h
  rfl
 ·obtain⟨wd,rfl,hw,q⟩:=h
  have hr1:=hr.mono (show 1≤2 by decide)
  have hbig:(1000001:Int)<big:=by decide
  refine yw (aE (zb 1 rfl (yr (za (zz (za (zz (ze (⟨_,rfl,zp4 rfl,⟨_,.inr rfl,rfl,rfl,?_⟩⟩)))))))))
  rw[ez]
  refine zZ (fun hc=>?_) (fun hc=>zD ?_)
  ·refine yq (zb5 (zq CD hr1 (by rfl) (zt 0 rfl (za (zk (ze (⟨_,rfl,by decide,by decide,fun v1 h1 g1=>zk (⟨_,_,rfl,rfl,?_⟩)⟩)))))))
   refine q _ ?_ ((yC.bool _).mono (by decide)) (zr9 _)
   simp only[zy1,zs4] at hc
   rcases hc with rfl|rfl
   ·rw[sX];rfl
   ·rw[oO];rfl
  simp only[zw3,zz5] at hc
  refine yw (aE (zb 1 rfl (yr (za (zz (za (zz (ze (⟨_,rfl,zp4 rfl,⟨_,.inr rfl,rfl,rfl,?_⟩⟩)))))))))
  rw[ez]
  refine zZ (fun h2=>?_) (fun h2=>zD ?_)
  ·refine yq (yx (zk (zq CD hr1 (by rfl) (zt 0 rfl (za (EvD.imp (Q':=fun d=>∃z:Int,d=.int z∧0<z∧z≤14) (vi (fun _ _=>rfl) (EvL.d (ym (za (zk (za (zk (ze (⟨_,rfl,zp4 rfl,zq CD hr1 (by rfl) (zt 0 rfl (za (zk (ze (⟨_,rfl,by decide,by decide,fun v3 h3 g3=>?pick⟩)))))⟩))))))))) ?_))))))
   case pick=>
    obtain⟨z,hz,e⟩:=uZ (ds:=[PyData.int 4,.int 14]) h3 g3
    refine⟨_,_,z,rfl,rfl,e,?_⟩
    simp only[zp7,zq5,zt3] at hz
    rcases hz with rfl|rfl
    ·exact⟨_,rfl,by decide,by decide⟩
    ·exact⟨_,rfl,by decide,by decide⟩
   rintro _ ⟨z,rfl,z0,z1⟩
   refine ze ⟨_,rfl,z0,by omega,fun v2 h2' g2=>⟨_,_,rfl,rfl,?_⟩⟩
   refine q _ ?_ ((wZ (by omega) (by omega)).mono (by decide)) (zr9 _)
   simp only[zy1,zs4] at h2
   rcases h2 with rfl|rfl
   ·rw[uX];exact within_int (by omega) (by omega)
   ·rw[rg];exact within_int (by omega) (by omega)
  simp only[zw3,zz5] at h2
  refine yw (qM (zb 1 rfl (zz (⟨_,_,rfl,rfl,?_⟩))))
  refine zZ (fun h3=>?_) (fun h3=>zD ?_)
  ·rw[zs4] at h3
   subst h3
   refine zN 2 bJ.nd (yx (zk (zq CD hr1 (by rfl) (zt 0 rfl (za (EvD.imp (Q':=fun d=>∃z:Int,d=.int z∧0<z∧z≤13) (vi (fun _ _=>rfl) (EvL.d (ym (za (zk (za (zk (ze (⟨_,rfl,zp4 rfl,zq CD hr1 (by rfl) (zt 0 rfl (za (zk (ze (⟨_,rfl,by decide,by decide,fun v3 h3 g3=>?pick⟩)))))⟩))))))))) ?_))))))
   case pick=>
    obtain⟨z,hz,e⟩:=uZ (ds:=[PyData.int 3,.int 13]) h3 g3
    refine⟨_,_,z,rfl,rfl,e,?_⟩
    simp only[zp7,zq5,zt3] at hz
    rcases hz with rfl|rfl
    ·exact⟨_,rfl,by decide,by decide⟩
    ·exact⟨_,rfl,by decide,by decide⟩
   rintro _ ⟨z,rfl,z0,z1⟩
   refine ze ⟨_,rfl,z0,by omega,fun v4 h4 g4=>⟨_,_,rfl,rfl,?_⟩⟩
   refine zN 3 bJ.nd (yx (zk (zq CD hr1 (by rfl) (zt 0 rfl (za (vT (zb 2 rfl (zk (⟨_,_,rfl,rfl,ze (⟨_,rfl,by omega,by omega,fun v6 h6 g6=>⟨_,_,rfl,rfl,?_⟩⟩)⟩)))))))))
   refine yq (vi (fun _ _=>rfl) (EvL.d (ym (za (yr (za (zb 2 rfl (za (zb 3 rfl (ze (⟨_,rfl,zp4 rfl,za (yr (za (zb 2 rfl (za (zb 3 rfl (ze (⟨_,rfl,zp4 rfl,za (pz (ze (⟨_,rfl,zp4 rfl,zq CD hr1 (by rfl) (zt 0 rfl (za (zk (ze (⟨_,rfl,by decide,by decide,fun v7 h7 g7=>?_⟩)))))⟩)))⟩)))))))⟩)))))))))))
   obtain⟨u,hu,e⟩:=uZ (ds:=[PyData.tuple [.int (2+v4),.int (1+v6)],.tuple [.int (2+v4),.int (1+v6)],.none]) h7 g7
   refine⟨_,_,u,rfl,rfl,e,?_⟩
   have dl:Q (.dat (.tuple [.int (2+v4),.int (1+v6)])):=by
    refine q _ ?_ (yC.tuple (n:=2000) (yk.two (wZ (by omega) (by omega)) (wZ (by omega) (by omega)) (zr9 _) (zr9 _)) (by show 2*(2000+2)+3≤5000;decide)) (zp8 _)
    rw[tX]
    show (false||(zU 2 14 (.int (2+v4))&&zU 1 (2+v4-1) (.int (1+v6))))=true
    rw[within_int (by omega) (by omega),within_int (by omega) (by omega)];rfl
   simp only[zp7,zq5,zt3] at hu
   rcases hu with rfl|rfl|rfl
   ·exact dl
   ·exact dl
   ·exact q _ (by rw[tX];rfl) (yC.none.mono (by decide)) (zr9 _)
  rw[zz5] at h3
  have hs:wd="price"∨wd="fee":=by
   simp only[words,zp7,zq5,zt3] at hw
   rcases hw with z|z|z|z|z|z|z
   ·exact .inl z
   ·exact absurd z.symm hc.1
   ·exact absurd z.symm hc.2
   ·exact absurd z.symm h2.1
   ·exact absurd z.symm h2.2
   ·exact absurd z h3
   ·exact .inr z
  refine zN 4 bJ.nd (zq CC hr (by rfl) (zt 0 rfl (ze (⟨rfl,fun c8 p8 q8=>?_⟩))))
  have last:Q (.dat (.int c8)):=by
   refine q _ ?_ ((wZ (by omega) (by omega)).mono (by decide)) (zr9 _)
   rcases hs with rfl|rfl
   ·rw[vb];show (false||zU 0 1000000000000 (.int c8))=true;rw[within_int p8 q8];rfl
   ·rw[jh];exact within_int p8 q8
  refine yw (EvW.t (mw (qM (zb 1 rfl (zz (⟨_,_,rfl,rfl,?_⟩))))))
  refine yH (fun h9=>?_) (fun h9=>?_)
  ·rw[zs4] at h9
   subst h9
   refine tM (ze9 (zq CD hr1 (by rfl) (zt 0 rfl (za (zk (ze (⟨_,rfl,by decide,by decide,fun v9 h9 g9=>zk (⟨_,_,rfl,rfl,?_⟩)⟩)))))))
   refine pL (fun _=>yq (pz ?_)) (fun _=>zD (yq (zb 4 rfl last)))
   exact q _ (by rw[vb];rfl) (yC.none.mono (by decide)) (zr9 _)
  ·exact zZ (fun z=>nomatch z) (fun _=>zD (yq (zb 4 rfl last)))
theorem iF :zi ["_law_row","_law_day_here","_law_word","_law_ahead","_law_first","_law_last"] ["_law_row","_law_day_here"] (zc lb):=⟨rfl,rfl,rfl,by decide +kernel,rfl,by decide +kernel,by decide +kernel⟩
set_option maxHeartbeats 8000000 in
theorem fA {f:Addr}{fd:FuncData}(F:Fun K "_law_rule" "_law_rule" lb f fd)(hm:mg "_law_rule"=some (.ref f))(hb:Binds K fd ["_law_row","_law_day_here"] [])(nb:NbT mg)(CD:Cal P w K mg base "_law_take" 1 wb)(CW:Cal P w K mg base "_law_worth" 3 oN):Cal P w K mg base "_law_rule" 4 lZ:=by
 refine xR F hm hb iF (fun as Q h=>?_) (fun cdv A' outer s H E as Q hr h=>?_)
 ·obtain⟨y,rfl,_⟩:=h
  rfl
 ·obtain⟨y,rfl,y0,y1,q⟩:=h
  have hr1:=hr.mono (show 1≤3 by decide)
  refine zN 2 iF.nd (EvD.imp (Q':=fun d=>∃x,d=.str x∧x∈words) (vi (fun _ _=>rfl) (EvL.d (ym (za (zz (za (zz (za (zz (za (zz (za (zz (za (zz (za (zz (za (zz (za (zz (ze (⟨_,rfl,zp4 rfl,zq CD hr1 (by rfl) (zt 0 rfl (za (zk (ze (⟨_,rfl,by decide,by decide,fun v1 h1 g1=>?pick⟩)))))⟩))))))))))))))))))))))) ?_)
  case pick=>
   obtain⟨z,hz,e⟩:=uZ (ds:=[PyData.str "price",.str "price",.str "price",.str "come",.str "go",.str "least",.str "most",.str "deal",.str "fee"]) h1 g1
   refine⟨_,_,z,rfl,rfl,e,?_⟩
   simp only[zp7,zq5,zt3] at hz
   rcases hz with rfl|rfl|rfl|rfl|rfl|rfl|rfl|rfl|rfl<;>exact⟨_,rfl,by simp[words]⟩
  rintro _ ⟨wd,rfl,hw⟩
  refine zN 3 iF.nd (EvD.imp (Q':=fun d=>∃z:Int,d=.int z) (vi (fun _ _=>rfl) (EvL.d (ym (za (vT (zq CD hr1 (by rfl) (zt 0 rfl (za (zk (ze (⟨_,rfl,by decide,by decide,fun v4 h4 g4=>zk (⟨_,_,rfl,rfl,za (zq CD hr1 (by rfl) (zt 0 rfl (za (zk (ze (⟨_,rfl,by decide,by decide,fun v3 h3 g3=>za (iB (zb 1 rfl (⟨_,rfl,za (zk (ze (⟨_,rfl,zp4 rfl,zq CD hr1 (by rfl) (zt 0 rfl (za (zk (ze (⟨_,rfl,by decide,by decide,fun v2 h2 g2=>?pick⟩)))))⟩)))⟩)))⟩))))))⟩)⟩))))))))))) ?_)
  case pick=>
   obtain⟨z,hz,e⟩:=uZ (ds:=[PyData.int (v4-3),.int v3,.int (-y),.int 0]) h2 g2
   refine⟨_,_,z,rfl,rfl,e,?_⟩
   simp only[zp7,zq5,zt3] at hz
   rcases hz with rfl|rfl|rfl|rfl<;>exact⟨_,rfl⟩
  rintro _ ⟨ah,rfl⟩
  refine wK (fun α=>∃fi:Int,0≤fi∧fi≤1000000∧α=[some .tape,some (.dat (.int y)),some (.dat (.str wd)),some (.dat (.int ah)),some (.dat (.int fi)),none]) ?_ ?_
  ·refine zN 4 iF.nd (qJ rfl (by rfl) nb.min (yK (r:=1000000) ⟨by decide,by decide,by decide⟩ (by decide) (gq rfl (by rfl) nb.max (zk (yx (zb 1 rfl (zb 3 rfl (⟨_,_,rfl,rfl,⟨_,_,rfl,rfl,⟨_,_,rfl,rfl,zD ⟨_,?_,?_,rfl⟩⟩⟩⟩))))))))
   ·split<;>split<;>omega
   ·split<;>split<;>omega
  rintro α ⟨fi,f0,f1,rfl⟩
  refine wK (fun α=>∃la:Int,fi≤la∧α=[some .tape,some (.dat (.int y)),some (.dat (.str wd)),some (.dat (.int ah)),some (.dat (.int fi)),some (.dat (.int la))]) ?_ ?_
  ·refine zN 5 iF.nd (yx (zb 4 rfl (EvD.imp (Q':=fun d=>∃z:Int,d=.int z∧0≤z) (vi (fun _ _=>rfl) (EvL.d (ym (za (zk (za (zq CD hr1 (by rfl) (zt 0 rfl (za (zk (ze (⟨_,rfl,by decide,by decide,fun v7 h7 g7=>za (zq CD hr1 (by rfl) (zt 0 rfl (za (zk (ze (⟨_,rfl,by decide,by decide,fun v6 h6 g6=>za (zk (za (yK (r:=1000000) ⟨by decide,by decide,by decide⟩ (by decide) (ze (⟨_,rfl,zp4 rfl,zq CD hr1 (by rfl) (zt 0 rfl (za (zk (ze (⟨_,rfl,by decide,by decide,fun v5 h5 g5=>?pick⟩)))))⟩)))))⟩))))))⟩)))))))))))) ?_)))
   case pick=>
    obtain⟨z,hz,e⟩:=uZ (ds:=[PyData.int 0,.int v7,.int v6,.int 60,.int 1000000]) h5 g5
    refine⟨_,_,z,rfl,rfl,e,?_⟩
    simp only[zp7,zq5,zt3] at hz
    rcases hz with rfl|rfl|rfl|rfl|rfl<;>exact⟨_,rfl,by omega⟩
   rintro _ ⟨z,rfl,z0⟩
   exact⟨_,_,rfl,rfl,zD ⟨fi+z,by omega,rfl⟩⟩
  rintro α ⟨la,hla,rfl⟩
  refine yq (yr (za (zb 2 rfl (za (zb 4 rfl (za (qJ rfl (by rfl) nb.min (yK (r:=1000000) ⟨by decide,by decide,by decide⟩ (by decide) (zb 5 rfl (⟨_,_,rfl,rfl,za (zq CW hr (by rfl) (zt 0 rfl (za (zb 2 rfl (ze (⟨_,rfl,hw,fun d8 a8 b8 c8=>ze (⟨_,rfl,zp4 rfl,?_⟩)⟩))))))⟩))))))))))
  refine q _ (vQ.of hw f0 ?_ ?_ a8 b8 c8)
  ·split<;>omega
  ·split<;>omega
theorem zm7 :zi ["_law_row"] ["_law_row"] (zc iG):=⟨rfl,rfl,rfl,by decide +kernel,rfl,by decide +kernel,by decide +kernel⟩
set_option maxHeartbeats 4000000 in
theorem cG {f:Addr}{fd:FuncData}(F:Fun K "_law_day" "_law_day" iG f fd)(hm:mg "_law_day"=some (.ref f))(hb:Binds K fd ["_law_row"] [])(CD:Cal P w K mg base "_law_take" 1 wb):Cal P w K mg base "_law_day" 2 fu:=by
 refine xR F hm hb zm7 (fun as Q h=>?_) (fun cdv A' outer s H E as Q hr h=>?_)
 ·obtain⟨rfl,_⟩:=h
  rfl
 ·obtain⟨rfl,q⟩:=h
  refine yq (vi (fun _ _=>rfl) (EvL.d (ym (za (zk (za (zq CD hr (by rfl) (zt 0 rfl (za (zk (ze (⟨_,rfl,by decide,by decide,fun v4 h4 g4=>za (zk (za (yx (zk (zq CD hr (by rfl) (zt 0 rfl (za (zk (ze (⟨_,rfl,by decide,by decide,fun v3 h3 g3=>⟨_,_,rfl,rfl,za (zq CD hr (by rfl) (zt 0 rfl (za (zk (ze (⟨_,rfl,by decide,by decide,fun v2 h2 g2=>ze (⟨_,rfl,zp4 rfl,zq CD hr (by rfl) (zt 0 rfl (za (zk (ze (⟨_,rfl,by decide,by decide,fun v1 h1 g1=>?_⟩)))))⟩)⟩))))))⟩⟩))))))))))⟩))))))))))))
  obtain⟨z,hz,e⟩:=uZ (ds:=[PyData.int 0,.int v4,.int 40,.int (999980+v3),.int v2]) h1 g1
  refine⟨_,_,z,rfl,rfl,e,?_⟩
  simp only[zp7,zq5,zt3] at hz
  rcases hz with rfl|rfl|rfl|rfl|rfl
  ·exact q _ (by omega) (by omega)
  ·exact q _ (by omega) (by omega)
  ·exact q _ (by omega) (by omega)
  ·exact q _ (by omega) (by omega)
  ·exact q _ (by omega) (by omega)
end
end K63
set_option compiler.extract_closed false
set_option hygiene false in
local macro_rules
 |`(tactic| exists $f,$a)=>`(tactic| first|refine $f 0 $a ?_|refine $f 1 $a ?_|refine $f 2 $a ?_|refine $f 3 $a ?_|refine $f 4 $a ?_|refine $f 5 $a ?_|refine $f 6 $a ?_|refine $f 7 $a ?_|refine $f 8 $a ?_|refine $f 9 $a ?_|refine $f 10 $a ?_|refine $f 11 $a ?_|refine $f 12 $a ?_|refine $f 13 $a ?_|refine $f 14 $a ?_|refine $f 15 $a ?_|refine $f 16 $a ?_|refine $f 17 $a ?_)
set_option hygiene false in
local macro_rules
 |`(tactic| and_intros)=>`(tactic| repeat (first
  |((with_reducible show EvD _ _ _ _);first
   |((with_reducible show EvD _ _ (.Name _ _) _);exists zb,rfl)
   |((with_reducible show EvD _ _ (.Constant _ _ _) _);first|with_reducible refine zk ?_|with_reducible refine zz ?_|with_reducible refine aa ?_|with_reducible refine pz ?_)
   |((with_reducible show EvD _ _ (.BinOp (.Constant (.int 10) _ _) .Pow (.Constant (.int 6) _ _) _) _);refine yK (r:=1000000) ⟨by decide,by decide,by decide⟩ (by decide) ?_)
   |((with_reducible show EvD _ _ (.BinOp (.Constant (.int 10) _ _) .Pow (.Constant (.int 12) _ _) _) _);refine yK (r:=1000000000000) ⟨by decide,by decide,by decide⟩ (by decide) ?_)
   |((with_reducible show EvD _ _ (.BinOp (.Constant (.int 10) _ _) .Pow (.Constant (.int 9) _ _) _) _);refine yK (r:=1000000000) ⟨by decide,by decide,by decide⟩ (by decide) ?_)
   |((with_reducible show EvD _ _ (.BinOp (.Constant (.int 10) _ _) .Pow (.Constant (.int 11) _ _) _) _);refine yK (r:=100000000000) ⟨by decide,by decide,by decide⟩ (by decide) ?_)
   |((with_reducible show EvD _ _ (.BinOp _ .Add (.List _ _) _) _);refine EvL.d (ua ?_))
   |((with_reducible show EvD _ _ (.BinOp (.List _ _) .Add _ _) _);refine EvL.d (ua ?_))
   |((with_reducible show EvD _ _ (.BinOp (.Subscript _ (.Slice _ _ none _) _) .Add _ _) _);refine EvL.d (ua ?_))
   |((with_reducible show EvD _ _ (.BinOp _ .Add (.Subscript _ (.Slice _ _ none _) _) _) _);refine EvL.d (ua ?_))
   |((with_reducible show EvD _ _ (.BinOp (.Call (.Attribute _ "rules" _) _ _ _) .Add _ _) _);refine EvL.d (ua ?_))
   |with_reducible refine yx ?_
   |with_reducible refine vT ?_
   |with_reducible refine iV ?_
   |with_reducible refine kT ?_
   |with_reducible refine qG ?_
   |with_reducible refine ev_shl ?_
   |with_reducible refine iB ?_
   |with_reducible refine gE ?_
   |with_reducible refine yr ?_
   |((with_reducible show EvD _ _ (.Subscript _ (.Slice _ _ none _) _) _);refine EvL.d (el_sl ?_))
   |((with_reducible show EvD _ _ (.Subscript _ _ _) _);refine aV hr.one (fun _ _=>rfl) ?_)
   |((with_reducible show EvD _ _ (.List _ _) _);refine EvL.d (ym ?_))
   |((with_reducible show EvD _ _ (.Call (.Name "len" _) [.Call (.Name "set" _) _ _ _] _ _) _);refine ev_lenSet rfl (by rfl) nb.len (by rfl) (by assumption) ?_)
   |((with_reducible show EvD _ _ (.Call (.Name "len" _) _ _ _) _);refine mK (by rfl) nb.len ?_)
   |((with_reducible show EvD _ _ (.Call (.Name "min" _) [_,_] _ _) _);refine qJ rfl (by rfl) nb.min ?_)
   |((with_reducible show EvD _ _ (.Call (.Name "max" _) [_,_] _ _) _);refine gq rfl (by rfl) nb.max ?_)
   |((with_reducible show EvD _ _ (.Call (.Name "list" _) _ _ _) _);refine EvL.d (tP (by rfl) nb.list ?_))
   |((with_reducible show EvD _ _ (.Call (.Name "repr" _) _ _ _) _);refine ev_repr hr.gd hr.units (by rfl) nb.repr ?_)
   |((with_reducible show EvD _ _ (.Call (.Name "min" _) [_] _ _) _);refine ev_minI rfl hr.few (by rfl) nb.min ?_)
   |((with_reducible show EvD _ _ (.Call (.Name "isinstance" _) _ _ _) _);first|refine si (by rfl) nb.isinstance (by rfl) nb.int boot_int ?_|refine si (by rfl) nb.isinstance (by rfl) nb.bool boot_bool ?_|refine si (by rfl) nb.isinstance (by rfl) nb.str boot_str ?_|refine si (by rfl) nb.isinstance (by rfl) nb.list boot_list ?_|refine si (by rfl) nb.isinstance (by rfl) nb.tuple boot_tuple ?_)
   |((with_reducible show EvD _ _ (.Call (.Name "int" _) _ _ _) _);refine ev_intB (by rfl) nb.int ?_)
   |((with_reducible show EvD _ _ (.Call (.Name _ _) _ _ _) _);first|refine dW (by with_reducible assumption) (by exact⟨rfl,rfl,rfl,rfl,rfl⟩) (hr.mono (by decide)) (by rfl) ?_|refine EvN.d (en_makeR (by with_reducible assumption) (by exact⟨rfl,rfl,rfl,rfl,rfl⟩) (hr.mono (by decide)) (by rfl) ?_))
   |((with_reducible show EvD _ _ (.Call (.Attribute _ _ _) (_::_) _ _) _);refine gx (by with_reducible assumption) (by exact⟨rfl,rfl,rfl,rfl,rfl⟩) (hr.mono (by decide)) ?_)
   |((with_reducible show EvD _ _ (.Call (.Attribute _ _ _) [] _ _) _);refine ev_meth0R (by with_reducible assumption) (by exact⟨rfl,rfl,rfl,rfl,rfl⟩) (hr.mono (by decide)) ?_)
   |((with_reducible show EvD _ _ (.Compare _ [_] _ _) _);first|with_reducible refine ev_lt ?_|with_reducible refine zf8 ?_|with_reducible refine ev_gt ?_|with_reducible refine ev_ge ?_|with_reducible refine ev_isN ?_|with_reducible refine ev_notN ?_|((with_reducible show EvD _ _ (.Compare _ [.Eq] _ _) _);refine ev_eqk hr.units ?_)|((with_reducible show EvD _ _ (.Compare _ [.NotEq] _ _) _);refine ev_nek hr.units ?_)|((with_reducible show EvD _ _ (.Compare _ [.In] _ _) _);refine zf4 hr.one ?_)|((with_reducible show EvD _ _ (.Compare _ [.NotIn] _ _) _);refine cA hr.one ?_)|((with_reducible show EvD _ _ (.Compare _ [.Is] [.Constant (.bool _) _ _] _) _);refine ev_isB ?_))
   |((with_reducible show EvD _ _ (.Compare _ [_,_] _ _) _);first|refine ev_lelt ?_|refine ev_ltle ?_|refine ev_lele' ?_)
   |((with_reducible show EvD _ _ (.BoolOp _ _ _) _);first|with_reducible refine ev_and ?_|with_reducible refine zi7 ?_|with_reducible refine zd5 ?_)
   |with_reducible refine lg ?_)
  |((with_reducible show EvA _ _ _ _);first
   |with_reducible refine ze ?_
   |((with_reducible show EvA _ _ (.Name "_law_row" _::_) _);exists zt,rfl)
   |refine za ?_)
  |((with_reducible show EvT _ _ _ _);first
   |((with_reducible show EvT _ _ (.Compare _ [_] _ _) _);first|with_reducible refine eU ?_|with_reducible refine et_le ?_|with_reducible refine rM ?_|with_reducible refine bV ?_|with_reducible refine uG ?_|with_reducible refine et_notN ?_|((with_reducible show EvT _ _ (.Compare _ [.Eq] _ _) _);refine zc2 hr.units ?_)|((with_reducible show EvT _ _ (.Compare _ [.NotEq] _ _) _);refine zb7 hr.units ?_)|((with_reducible show EvT _ _ (.Compare _ [.In] _ _) _);refine zb6 hr.one ?_)|((with_reducible show EvT _ _ (.Compare _ [.NotIn] _ _) _);refine cn hr.one ?_)|((with_reducible show EvT _ _ (.Compare _ [.Is] [.Constant (.bool _) _ _] _) _);refine et_isB ?_)|((with_reducible show EvT _ _ (.Compare _ [.IsNot] [.Constant (.bool _) _ _] _) _);refine et_isntB ?_))
   |((with_reducible show EvT _ _ (.Compare _ [_,_] _ _) _);first|refine et_lelt ?_|refine et_ltle ?_|refine et_lele' ?_)
   |with_reducible refine xt ?_
   |((with_reducible show EvT _ _ (.BoolOp _ _ _) _);with_reducible refine EvW.t ?_)
   |refine oG ?_)
  |((with_reducible show EvL _ _ _ _);first
   |with_reducible refine ym ?_
   |((with_reducible show EvL _ _ (.Call (.Name "list" _) _ _ _) _);refine tP (by rfl) nb.list ?_)
   |((with_reducible show EvL _ _ (.Call (.Name _ _) _ _ _) _);refine bf (by with_reducible assumption) (by exact⟨rfl,rfl,rfl,rfl,rfl⟩) (hr.mono (by decide)) (by rfl) ?_)
   |((with_reducible show EvL _ _ (.Call (.Attribute _ _ _) [] _ _) _);refine el_meth0R (by with_reducible assumption) (by exact⟨rfl,rfl,rfl,rfl,rfl⟩) (hr.mono (by decide)) ?_)
   |((with_reducible show EvL _ _ (.Subscript _ (.Slice _ _ none _) _) _);refine el_sl ?_)
   |((with_reducible show EvL _ _ (.BinOp _ .Add _ _) _);refine ua ?_))
  |((with_reducible show EvW _ _ _ _);first
   |with_reducible refine mw ?_
   |with_reducible refine lM ?_
   |with_reducible refine tM ?_
   |with_reducible refine za1 ?_)
  |((with_reducible show EvO _ _ _ _);first
   |with_reducible refine eo_none ?_
   |with_reducible refine eo_some ?_)
  |((with_reducible show zc0 _ _ _);first
   |refine ixk rfl rfl rfl ?_
   |refine ixk_0 ?_
   |refine ixk_1 ?_)
  |((with_reducible show oy _ _ _ _);first
   |refine ink rfl rfl ?_
   |refine gW ?_
   |refine inkT rfl rfl ?_)
  |((with_reducible show jo _ _ _);first
   |with_reducible refine dE ?_
   |with_reducible refine pR ?_
   |with_reducible refine eqk_bool ?_
   |refine eqk rfl rfl rfl rfl ?_)
  |((with_reducible show SvS _ _ _ _);first
   |((with_reducible show SvS _ (List.set _ _ _) _ _);dsimp only[List.set])
   |((with_reducible show SvS _ _ (zC _) _);show SvS _ _ (_::_) _)
   |((with_reducible show SvS _ _ (.Assign [.Name _ _] (.List [] _) _::_) _);exists yt,nd)
   |((with_reducible show SvS _ _ (.Assign [.Name _ _] _ _::_) _);exists zN,nd)
   |((with_reducible show SvS _ _ (.Expr (.Call (.Attribute _ "append" _) _ _ _) _::_) _);exists wx,rfl)
   |((with_reducible show SvS _ _ (.Return (some (.Name _ _)) _::_) _);exists wG,rfl)
   |with_reducible refine yq ?_
   |with_reducible refine sv_cont ?_
   |with_reducible refine sv_pass ?_
   |with_reducible refine yw ?_
   |with_reducible refine zD ?_
   |((with_reducible refine qL ?hk ?_);case hk=>first|rfl|decide +kernel)
   |((with_reducible refine uj ?hk ?_);case hk=>first|rfl|decide +kernel))
  |((with_reducible show wb _ _);refine⟨_,rfl,by first|decide|omega,by first|decide|(show _<big;unfold big;omega),fun _ _ _=>?_⟩)
  |((with_reducible refine zi4 ?hk ?_);case hk=>first|rfl|decide +kernel)
  |((with_reducible refine eV ?hk ?_);case hk=>first|rfl|decide +kernel)
  |refine⟨_,_,rfl,rfl,?_⟩
  |refine⟨_,_,_,rfl,rfl,rfl,?_⟩
  |refine⟨_,rfl,zp4 rfl,?_⟩
  |refine⟨_,rfl,rfl,?_⟩
  |refine⟨_,rfl,?_⟩))
namespace K63
open PySem PySem.Spec PyProof.Rows L2
section
variable {P:Program}{w:World}{K:PySem.W.Frag}{mg:Str→Option Value}{base:Heap}
theorem zk4 :zi ["_law_row","_law_day_here","_law_come"] ["_law_row","_law_day_here"] (zc lB):=⟨rfl,rfl,rfl,by decide +kernel,rfl,by decide +kernel,by decide +kernel⟩
theorem jj {f:Addr}{fd:FuncData}(F:Fun K "_law_stay" "_law_stay" lB f fd)(hm:mg "_law_stay"=some (.ref f))(hb:Binds K fd ["_law_row","_law_day_here"] [])(nb:NbT mg)(CD:Cal P w K mg base "_law_take" 1 wb):Cal P w K mg base "_law_stay" 2 lQ:=by
 refine xR F hm hb zk4 (fun as Q h=>?_) (fun cdv A' outer s H E as Q hr h=>?_)
 ·obtain⟨y,rfl,_⟩:=h
  rfl
 ·obtain⟨y,rfl,y0,y1,q⟩:=h
  refine wK (fun α=>∃c:Int,0≤c∧c≤999999∧α=[some .tape,some (.dat (.int y)),some (.dat (.int c))]) ?_ ?_
  ·refine zN 2 zk4.nd (qJ rfl (by rfl) nb.min (vT (yK (r:=1000000) ⟨by decide,by decide,by decide⟩ (by decide) (zk (⟨_,_,rfl,rfl,yx (zb 1 rfl (zq CD hr (by rfl) (zt 0 rfl (za (zk (ze (⟨_,rfl,by decide,by decide,fun v1 h1 g1=>⟨_,_,rfl,rfl,⟨_,_,rfl,rfl,zD ⟨_,?_,?_,rfl⟩⟩⟩⟩)))))))⟩)))))
   ·split<;>omega
   ·split<;>omega
  rintro α ⟨c,c0,c1,rfl⟩
  and_intros
  refine q _ _ c0 ?_ ?_ ?_
  ·split<;>omega
  ·split<;>omega
  ·split<;>omega
end
abbrev qS :Stmt:=top 9
def rj :List A→(A→Prop)→Prop:=fun as Q=>∃c g:Int,as=[.dat (.tuple [.int c,.int g])]∧-100≤c∧c<g∧g≤c+500∧c≤1000100∧Q (.own ((zY c (g-c).toNat).map .int))
theorem jO {x:Str}(h:x∈words):zI (.str x) (jB x)=true:=by
 simp only[words,zp7,zq5,zt3] at h
 rcases h with rfl|rfl|rfl|rfl|rfl|rfl|rfl<;>decide +kernel
theorem xT {ds:List PyData}(h:∀d∈ds,yA d=true){x:Str}(hx:x∈words)(day:Int):zI (.str x) (zL ds x day)=true:=by
 unfold zL
 split
 ·rename_i d e
  obtain⟨u,i,j,v,hu,rfl,_,_,_,hw⟩:=vN (h d (List.mem_reverse.mp (List.mem_of_find?_eq_some e)))
  have:=List.find?_some e
  have h2:(decide (u=x)&&(decide (i≤day)&&decide (day≤j)))=true:=this
  rw[zq8,zs4] at h2
  rw[←h2.1]
  exact hw
 ·exact jO hx
def isF :PyData→Bool
 |.bool b=>!b
 |_=>false
def intOf :PyData→Int
 |.int i=>i
 |_=>0
theorem sY {lo hi:Int}{d:PyData}(h:zU lo hi d=true):∃i,d=.int i∧lo≤i∧i≤hi:=by
 cases d with
 |int i=>
  have h':(decide (lo≤i)&&decide (i≤hi))=true:=h
  rw[zq8,zs4,zs4] at h'
  exact⟨i,rfl,h'⟩
 |_=>cases h
theorem bool_inv {d:PyData}(h:isBool d=true):∃b,d=.bool b:=by
 cases d with
 |bool b=>exact⟨b,rfl⟩
 |_=>cases h
section
variable {ds:List PyData}(h:∀d∈ds,yA d=true)(day:Int)
include h
theorem iP :∃b,zL ds "come" day=.bool b:=bool_inv (by rw[←sX];exact xT h (by simp[words]) day)
theorem zg3 :∃b,zL ds "go" day=.bool b:=bool_inv (by rw[←oO];exact xT h (by simp[words]) day)
theorem tN :∃i,zL ds "least" day=.int i∧1≤i∧i≤14:=sY (by rw[←uX];exact xT h (by simp[words]) day)
theorem qY :∃i,zL ds "most" day=.int i∧1≤i∧i≤14:=sY (by rw[←rg];exact xT h (by simp[words]) day)
end
section
variable {P:Program}{w:World}{K:PySem.W.Frag}{mg:Str→Option Value}{base:Heap}
theorem zn0 :zi ["stay"] ["stay"] (zc qS):=⟨rfl,rfl,rfl,by decide +kernel,rfl,by decide +kernel,by decide +kernel⟩
theorem nW {f:Addr}{fd:FuncData}(F:Fun K "nights_of" "nights_of" qS f fd)(hm:mg "nights_of"=some (.ref f))(hb:Binds K fd ["stay"] [])(nb:NbT mg):Cal P w K mg base "nights_of" 1 rj:=by
 refine xR F hm hb zn0 (fun as Q h=>?_) (fun cdv A' outer s H E as Q hr h=>?_)
 ·obtain⟨c,g,rfl,_⟩:=h
  rfl
 ·obtain⟨c,g,rfl,h1,h2,h3,h4,q⟩:=h
  exact uA (eB rfl (by rfl) nb.list (by rfl) nb.range (vn (fun _ _=>rfl) (zb 0 rfl (zk (⟨_,_,_,rfl,rfl,rfl,vn (fun _ _=>rfl) (zb 0 rfl (zk (⟨_,_,_,rfl,rfl,rfl,⟨_,_,rfl,rfl,⟨by omega,by omega,by omega,by omega⟩,by omega,q⟩⟩)))⟩)))))
end
abbrev qX :Stmt:=top 58
abbrev pC :Stmt:=top 55
def oS :List A→(A→Prop)→Prop:=fun as Q=>∃y m:Int,as=[.tape,.dat (.int y),.dat (.int m)]∧0≤y∧y≤999990∧0≤m∧m≤20∧∀ds,xu ds→(ds.length:Int)≤m+1→Q (.own ds)
def sQ :List A→(A→Prop)→Prop:=fun as Q=>∃ds x day,as=[.dat (.list ds),.dat (.str x),.dat (.int day)]∧(∀d∈ds,yA d=true)∧x∈words∧Q (.dat (zL ds x day))
def tbL :List (PyData×PyData):=[(.str "come",.bool true),(.str "go",.bool true),(.str "least",.int 1),(.str "most",.int 14),(.str "fee",.int 0)]
theorem kE {x:Str}(h:x∈words):(uR tbL x).getD .none=jB x:=by
 simp only[words,zp7,zq5,zt3] at h
 rcases h with rfl|rfl|rfl|rfl|rfl|rfl|rfl<;>with_unfolding_all rfl
theorem xu.snoc {ds:List PyData}{d:PyData}(h:xu ds)(hd:vQ d):xu (ds++[d]):=fun e he=>by
 rcases zs6.mp he with z|z
 ·exact h e z
 ·rw[zr5.mp z];exact hd
theorem take_snoc {β:Type}{l:List β}{i:Nat}{d:β}(h:l[i]?=some d):l.take (i+1)=l.take i++[d]:=by
 rw[zx6,h];rfl
section
variable {P:Program}{w:World}{K:PySem.W.Frag}{mg:Str→Option Value}{base:Heap}
theorem za2 :zi ["_law_row","_law_day_here","_law_most","_law_rules_here","_law_k"] ["_law_row","_law_day_here","_law_most"] (zc qX):=⟨rfl,rfl,rfl,by decide +kernel,rfl,by decide +kernel,by decide +kernel⟩
set_option maxHeartbeats 4000000 in
theorem sC {f:Addr}{fd:FuncData}(F:Fun K "_law_rules" "_law_rules" qX f fd)(hm:mg "_law_rules"=some (.ref f))(hb:Binds K fd ["_law_row","_law_day_here","_law_most"] [])(nb:NbT mg)(CD:Cal P w K mg base "_law_take" 1 wb)(CC:Cal P w K mg base "_law_coins" 2 qK)(CR:Cal P w K mg base "_law_rule" 4 lZ):Cal P w K mg base "_law_rules" 5 oS:=by
 refine xR F hm hb za2 (fun as Q h=>?_) (fun cdv A' outer s H E as Q hr h=>?_)
 ·obtain⟨y,m,rfl,_⟩:=h
  rfl
 ·obtain⟨y,m,rfl,y0,y1,m0,m1,q⟩:=h
  have hbig:(1000001:Int)<big:=by decide
  refine yt 3 za2.nd (ym (ze (⟨_,rfl,zp4 rfl,?_⟩)))
  refine wK (fun α=>∃ds,xu ds∧ds.length≤1∧α=[some .tape,some (.dat (.int y)),some (.dat (.int m)),some (.own ds),none]) ?_ ?_
  ·refine yw (rM (zq CD (hr.mono (by decide)) (by rfl) (zt 0 rfl (za (zk (ze (⟨_,rfl,by decide,by decide,fun v1 h1 g1=>zk ⟨_,_,rfl,rfl,?_⟩⟩)))))))
   refine pL (fun hc=>?_) (fun hc=>?_)
   ·refine wx 3 rfl (yr (za (zz (za (zk (za (yK (r:=1000000) ⟨by decide,by decide,by decide⟩ (by decide) (za (zq CC (hr.mono (by decide)) (by rfl) (zt 0 rfl (ze ⟨rfl,fun z z0 z1=>ze ⟨_,rfl,zp4 rfl,⟨by simp,?_⟩⟩⟩)))))))))))
    refine zD (zD ⟨_,?_,?_,rfl⟩)
    ·intro d hd
     rw[zr6] at hd
     rw[zr5.mp hd]
     refine vQ.of (by simp[words]) (by decide) (by decide) (by decide) ?_ ((wZ (by omega) (by omega)).mono (by decide)) (zr9 _)
     rw[vb];show (false||zU 0 1000000000000 (.int z))=true;rw[within_int z0 z1];rfl
    ·simp
   ·exact zD (zD ⟨[],fun d hd=>by simp at hd,by simp,rfl⟩)
  rintro α ⟨ds0,ro0,l0,rfl⟩
  refine vU (pat:=.one 4) zw5 rfl (zr (i:=4) za2.nd rfl (by first|exact Or.inl rfl|exact Or.inr rfl)) (qm (by rfl) nb.range (zq CD (hr.mono (by decide)) (by rfl) (zt 0 rfl (za (yx (zb 2 rfl (zk ⟨_,_,rfl,rfl,ze (⟨_,rfl,by omega,by omega,fun v1 h1 g1=>⟨_,rfl,by omega,by omega,?_⟩⟩)⟩)))))))
  refine yh (fun i α=>∃ds v4,xu ds∧ds.length≤1+i∧α=[some .tape,some (.dat (.int y)),some (.dat (.int m)),some (.own ds),v4]) ⟨ds0,none,ro0,l0,rfl⟩ ?_ ?_
  ·rintro i d α hd ⟨ds,v4,ro,ld,rfl⟩
   have hi:=(zp5.mp hd).1
   rw[zp2,zj] at hi
   refine⟨_,rfl,?_⟩
   refine wx 3 rfl (zq CR hr (by rfl) (zt 0 rfl (za (zb 1 rfl (ze ⟨y,rfl,y0,by omega,fun e he=>⟨by omega,?_⟩⟩)))))
   exact zD ⟨_,_,ro.snoc he,by simp;omega,rfl⟩
  ·rintro α ⟨ds,v4,ro,ld,rfl⟩
   rw[zp2,zj] at ld
   exact wG 3 rfl (q ds ro (by omega))
theorem ba :zi ["_law_rules_here","_law_word","_law_day_here","_law_found","_law_rule_here"] ["_law_rules_here","_law_word","_law_day_here"] (zc pC):=⟨rfl,rfl,rfl,by decide +kernel,rfl,by decide +kernel,by decide +kernel⟩
set_option maxHeartbeats 4000000 in
theorem lu {f:Addr}{fd:FuncData}(F:Fun K "_law_tells" "_law_tells" pC f fd)(hm:mg "_law_tells"=some (.ref f))(hb:Binds K fd ["_law_rules_here","_law_word","_law_day_here"] []):Cal P w K mg base "_law_tells" 1 sQ:=by
 refine xR F hm hb ba (fun as Q h=>?_) (fun cdv A' outer s H E as Q hr h=>?_)
 ·obtain⟨ds,x,day,rfl,_⟩:=h
  rfl
 ·obtain⟨ds,x,day,rfl,rd,hx,q⟩:=h
  obtain⟨v,_,hv⟩:=eY hx
  refine zN 3 ba.nd (fw (D:=tbL) (by rfl) (by rfl) (by decide +kernel) (by unfold tbL;simp[scV]) (zb 1 rfl ⟨x,v,rfl,by rw[kE hx];exact hv,?_⟩))
  rw[kE hx]
  refine vU (pat:=.one 4) zw5 rfl (zr (i:=4) ba.nd rfl (by first|exact Or.inl rfl|exact Or.inr rfl)) (zT (zb 0 rfl (⟨_,rfl,?_⟩)))
  refine yh (fun i α=>∃v4,α=[some (.dat (.list ds)),some (.dat (.str x)),some (.dat (.int day)),some (.dat (zL (ds.take i) x day)),v4]) ⟨none,rfl⟩ ?_ ?_
  ·rintro i d α hd ⟨v4,rfl⟩
   obtain⟨u,a,b,e,hu,rfl,_,_,_,_⟩:=vN (rd d (zt0 hd))
   refine⟨_,rfl,?_⟩
   refine yw (EvW.t (kB (fun _ k=>qM (vn (fun _ _=>rfl) (zb 4 rfl (zk (⟨_,_,_,rfl,rfl,rfl,zb 1 rfl ⟨_,_,rfl,rfl,k⟩⟩)))))
    (fun hp _ k=>tM (cO (by with_unfolding_all rfl) (fun _ k=>vn (fun _ _=>rfl) (zb 4 rfl (zk (⟨_,_,_,rfl,rfl,rfl,k⟩)))) (fun _ k=>zb 2 rfl (k)) (fun _ k=>vn (fun _ _=>rfl) (zb 4 rfl (zk (⟨_,_,_,rfl,rfl,rfl,k⟩)))) (k))) ?_))
   have es:=nB (ds.take i) (.tuple [.str u,.int a,.int b,e]) x day
   rw[←take_snoc hd] at es
   refine zZ (fun h=>?_) (fun h=>?_)
   ·refine zN 3 ba.nd (vn (fun _ _=>rfl) (zb 4 rfl (zk (⟨_,_,_,rfl,rfl,rfl,?_⟩))))
    rw[if_pos (show oq x day (.tuple [.str u,.int a,.int b,e])=true from h)] at es
    refine zD (zD ⟨some (.dat (.tuple [.str u,.int a,.int b,e])),?_⟩)
    rw[es];rfl
   ·rw[if_neg (by rw[show oq x day (.tuple [.str u,.int a,.int b,e])=false from h];decide)] at es
    refine zD (zD ⟨some (.dat (.tuple [.str u,.int a,.int b,e])),?_⟩)
    rw[es];rfl
  ·rintro α ⟨v4,rfl⟩
   rw[zu9]
   exact yq (zb 3 rfl q)
end
abbrev yT :Stmt:=top 59
abbrev vZ :Stmt:=top 20
abbrev gK :Stmt:=top 21
def hT (n:Int)(x:Str)(z:Int):PyData:=.tuple [.int n,.str x,.int z]
def pB (x:Str)(d:Int):PyData:=.tuple [.str x,.int d]
def pPr (ds:List PyData)(z:Int):Bool:=kd (zL ds "price" z)
def pF (ds:List PyData)(x:Str)(z:Int):Bool:=isF (zL ds x z)
def pLe (ds:List PyData)(z:Int):Bool:=decide (1<intOf (zL ds "least" z))
def pMo (ds:List PyData)(g z:Int):Bool:=decide (intOf (zL ds "most" z)<g-z)
def sel (p:Int→Bool)(lo hi:Int):List Int:=(zY lo (hi-lo).toNat).filter p
def vW (h:Str→Int→PyData)(ds:List PyData)(c g:Int):List PyData:=
 (sel (pPr ds) c g).map (h "price")++(sel (pF ds "come") c g).map (h "come")++(sel (pF ds "go") (c+1) (g+1)).map (h "go")++(sel (pLe ds) c g).map (h "least")++(sel (pMo ds g) c g).map (h "most")
def xH (n:Nat):List (List PyData)→Int→Int→List PyData
 |[],_,_=>[]
 |ds::r,c,g=>vW (hT n) ds c g++xH (n+1) r c g
theorem yi (p:Int→Bool)(lo hi:Int):(sel p lo hi).length≤(hi-lo).toNat:=by
 unfold sel
 have:=zx3 p (zY lo (hi-lo).toNat)
 rw[zj] at this
 exact this
theorem sq (h:Str→Int→PyData)(ds:List PyData)(c g:Int):(vW h ds c g).length≤5*(g-c).toNat:=by
 unfold vW
 simp only[zq4,zp2]
 have h1:=yi (pPr ds) c g
 have h2:=yi (pF ds "come") c g
 have h3:=yi (pF ds "go") (c+1) (g+1)
 have h4:=yi (pLe ds) c g
 have h5:=yi (pMo ds g) c g
 omega
theorem wy (c g:Int):∀(told:List (List PyData)) (n:Nat),(xH n told c g).length≤told.length*(5*(g-c).toNat)
 |[],n=>by simp[xH]
 |ds::r,n=>by
  have:=wy c g r (n+1)
  have h2:=sq (hT n) ds c g
  simp only[xH,zq4,zr1]
  rw[Nat.add_mul]
  omega
theorem vV (c g:Int)(ds:List PyData):∀(told:List (List PyData)) (n:Nat),xH n (told++[ds]) c g=xH n told c g++vW (hT ((n+told.length:Nat):Int)) ds c g
 |[],n=>by simp[xH]
 |e::r,n=>by
  simp only[List.cons_append,xH]
  rw[vV c g ds r (n+1),List.append_assoc,zr1,show n+1+r.length=n+(r.length+1) by omega]
theorem yp (ns:List Int){f:PyData→Bool}{p:Int→Bool}(hf:∀z,f (.int z)=p z){g:PyData→PyData}{h:Int→PyData}(hg:∀z,g (.int z)=h z):((ns.map PyData.int).filter f).map g=(ns.filter p).map h:=by
 rw[List.filter_map,zx8]
 have e1:(f∘PyData.int)=p:=funext hf
 have e2:(g∘PyData.int)=h:=funext hg
 rw[e1,e2]
def wu :PyData→Int
 |.int z=>z
 |_=>0
def pq :List A→(A→Prop)→Prop:=fun as Q=>∃(told:List (List PyData)) (c g:Int),as=[.dat (.list (told.map .list)),.dat (.tuple [.int c,.int g])]∧(∀ds∈told,∀d∈ds,yA d=true)∧told.length≤4∧0≤c∧c<g∧g≤c+14∧g≤1000000∧Q (.own (xH 0 told c g))
def bZ (C:Addr)(cs:Cs):List A→(A→Prop)→Prop:=fun as Q=>∃(n:Int) (ds:List PyData) (c g:Int),as=[.dat (.int n),.dat (wU C cs ds),.dat (.tuple [.int c,.int g])]∧Rules ds∧0≤c∧c<g∧g≤c+14∧g≤1000000∧Q (.own (vW (hT n) ds c g))
def mG (C:Addr)(cs:Cs):List A→(A→Prop)→Prop:=fun as Q=>∃(told:List (List PyData)) (c g:Int),as=[.dat (.list (told.map (wU C cs))),.dat (.tuple [.int c,.int g])]∧(∀ds∈told,Rules ds)∧told.length≤4∧0≤c∧c<g∧g≤c+14∧g≤1000000∧Q (.own (xH 0 told c g))
def yS :Stmt→Scope
 |.Assign _ (.ListComp _ _ sc _) _=>sc
 |.Expr (.Call _ [.ListComp _ _ sc _] _ _) _=>sc
 |.Return (some (.ListComp _ _ sc _)) _=>sc
 |_=>zc yT
def oZ (i j:Nat)(st:Stmt):Stmt:=match (zC st)[i]? with
 |some (.For _ _ body _ _)=>body.getD j st
 |_=>st
def uN (i:Nat)(st:Stmt):Stmt:=(zC st).getD i st
section
variable {P:Program}{w:World}{K:PySem.W.Frag}{mg:Str→Option Value}{base:Heap}{cs:Cs}
abbrev nLH :List Str:=["_law_books","_law_stay_here","_law_come","_law_go","_law_found","_law_number","_law_rules_here"]
theorem jI :zi nLH ["_law_books","_law_stay_here"] (zc yT):=⟨rfl,rfl,rfl,by decide +kernel,rfl,by decide +kernel,by decide +kernel⟩
theorem aC :zy nLH (zc yT) ["_law_d","_law_number","_law_rules_here"] [none,some 5,some 6] (yS (oZ 2 0 yT)):=⟨rfl,by decide +kernel,by decide +kernel,by decide +kernel,by decide +kernel,rfl,by decide +kernel⟩
theorem aB :zy nLH (zc yT) ["_law_d","_law_number","_law_rules_here"] [none,some 5,some 6] (yS (oZ 2 1 yT)):=⟨rfl,by decide +kernel,by decide +kernel,by decide +kernel,by decide +kernel,rfl,by decide +kernel⟩
theorem aG :zy nLH (zc yT) ["_law_d","_law_number","_law_rules_here"] [none,some 5,some 6] (yS (oZ 2 2 yT)):=⟨rfl,by decide +kernel,by decide +kernel,by decide +kernel,by decide +kernel,rfl,by decide +kernel⟩
theorem aw :zy nLH (zc yT) ["_law_d","_law_number","_law_rules_here"] [none,some 5,some 6] (yS (oZ 2 3 yT)):=⟨rfl,by decide +kernel,by decide +kernel,by decide +kernel,by decide +kernel,rfl,by decide +kernel⟩
theorem bU :zy nLH (zc yT) ["_law_d","_law_number","_law_rules_here","_law_go"] [none,some 5,some 6,some 3] (yS (oZ 2 4 yT)):=⟨rfl,by decide +kernel,by decide +kernel,by decide +kernel,by decide +kernel,rfl,by decide +kernel⟩
set_option maxHeartbeats 8000000 in
theorem jX {f:Addr}{fd:FuncData}(F:Fun K "_law_hindrances" "_law_hindrances" yT f fd)(hm:mg "_law_hindrances"=some (.ref f))(hb:Binds K fd ["_law_books","_law_stay_here"] [])(nb:NbT mg)(CT:Cal P w K mg base "_law_tells" 1 sQ):Cal P w K mg base "_law_hindrances" 2 pq:=by
 refine xR F hm hb jI (fun as Q h=>?_) (fun cdv A' outer s H E as Q hr h=>?_)
 ·obtain⟨told,c,g,rfl,_⟩:=h
  rfl
 ·obtain⟨told,c,g,rfl,rd,lt,c0,cg,g1,g2,q⟩:=h
  refine kf (pat:=.many [2,3]) (yI (n:=2) (K:=K) rfl rfl (zS (zr (i:=2) jI.nd rfl (by first|exact Or.inl rfl|exact Or.inr rfl)) (zS (zr (i:=3) jI.nd rfl (by first|exact Or.inl rfl|exact Or.inr rfl)) (yY)))) (zb 1 rfl ⟨_,rfl,?_⟩)
  refine yt 4 jI.nd (ym (ze (⟨_,rfl,zp4 rfl,?_⟩)))
  refine vU (pat:=.many [5,6]) zw5 rfl (yI (n:=2) (K:=K) rfl rfl (zS (zr (i:=5) jI.nd rfl (by first|exact Or.inl rfl|exact Or.inr rfl)) (zS (zr (i:=6) jI.nd rfl (by first|exact Or.inl rfl|exact Or.inr rfl)) (yY)))) (uk (by rfl) nb.enumerate (zb 0 rfl (⟨_,rfl,?_⟩)))
  refine yh (fun i α=>∃v5 v6,α=[some (.dat (.list (told.map .list))),some (.dat (.tuple [.int c,.int g])),some (.dat (.int c)),some (.dat (.int g)),some (.own (xH 0 (told.take i) c g)),v5,v6]) ⟨none,none,rfl⟩ ?_ ?_
  ·rintro i d α hd ⟨v5,v6,rfl⟩
   obtain⟨e,he,rfl⟩:=xE hd
   rw[zq7,zq3] at he
   obtain⟨ds,hds,rfl⟩:=he
   have hi:=(zp5.mp hds).1
   have rr:∀d∈ds,yA d=true:=rd ds (zt0 hds)
   have es:=vV c g ds (told.take i) 0
   rw[←take_snoc hds,zv6,Nat.min_eq_left (by omega)] at es
   have l0:=wy c g (told.take i) 0
   have l00:(told.take i).length*(5*(g-c).toNat)≤4*70:=zB1 (by rw[zv6];omega) (by omega)
   rw[es]
   unfold vW
   have s1:=yi (pPr ds) c g
   have s2:=yi (pF ds "come") c g
   have s3:=yi (pF ds "go") (c+1) (g+1)
   have s4:=yi (pLe ds) c g
   have s5:=yi (pMo ds g) c g
   simp only[←List.append_assoc]
   generalize xH 0 (told.take i) c g=a0 at l0
   generalize hn:((0+i:Nat):Int)=n
   refine⟨_,rfl,?_⟩
   refine yo 4 rfl (EvL.d (wV (pat:=.one 0) rfl aC rfl (fun _ _ _ _=>zr (i:=0) aC.nd rfl (by first|exact Or.inl rfl|exact Or.inr rfl)) (yQ (by rfl) nb.range (zb 2 rfl (zb 3 rfl (⟨_,_,rfl,rfl,⟨by omega,by omega,by omega,by omega⟩,⟨by rw[zp2,zj];omega,?_⟩⟩))))))
   refine zV (fun d=>pPr ds (wu d)) (fun d=>hT n "price" (wu d)) (fun d hd=>?_) ?_
   ·obtain⟨z,_,rfl⟩:=zu0.mp hd
    exact⟨_,rfl,fun C s2 H2 fp Q k=>yG (uG (zq CT (hr.mono (by decide)) (by rfl) (za (zb 2 rfl (za (zz (za (zb 0 rfl (ze (⟨ds,_,_,rfl,rr,by simp[words],k⟩)))))))))),fun _ C s2 H2 fp Q k=>yr (za (zb 1 rfl (za (zz (za (zb 0 rfl (ze (⟨_,rfl,zp4 rfl,k⟩))))))))⟩
   rw[zr6,yp (p:=pPr ds) (h:=hT n "price") _ (fun _=>rfl) (fun _=>rfl)]
   refine⟨_,rfl,by simp only[zq4,zp2];unfold sel at s1 s2 s3 s4 s5;omega,?_⟩
   refine yo 4 rfl (EvL.d (wV (pat:=.one 0) rfl aB rfl (fun _ _ _ _=>zr (i:=0) aB.nd rfl (by first|exact Or.inl rfl|exact Or.inr rfl)) (yQ (by rfl) nb.range (zb 2 rfl (zb 3 rfl (⟨_,_,rfl,rfl,⟨by omega,by omega,by omega,by omega⟩,⟨by rw[zp2,zj];omega,?_⟩⟩))))))
   refine zV (fun d=>pF ds "come" (wu d)) (fun d=>hT n "come" (wu d)) (fun d hd=>?_) ?_
   ·obtain⟨z,_,rfl⟩:=zu0.mp hd
    obtain⟨b,eb⟩:=iP rr z
    exact⟨_,rfl,fun C s2 H2 fp Q k=>yG (xt (xr (zq CT (hr.mono (by decide)) (by rfl) (za (zb 2 rfl (za (zz (za (zb 0 rfl (ze (⟨ds,_,_,rfl,rr,by simp[words],⟨b,eb,by have k1:Q (isF (zL ds "come" z)):=k;rw[eb] at k1;exact k1⟩⟩))))))))))),fun _ C s2 H2 fp Q k=>yr (za (zb 1 rfl (za (zz (za (zb 0 rfl (ze (⟨_,rfl,zp4 rfl,k⟩))))))))⟩
   rw[zr6,yp (p:=pF ds "come") (h:=hT n "come") _ (fun _=>rfl) (fun _=>rfl)]
   refine⟨_,rfl,by simp only[zq4,zp2];unfold sel at s1 s2 s3 s4 s5;omega,?_⟩
   refine yo 4 rfl (EvL.d (wV (pat:=.one 0) rfl aG rfl (fun _ _ _ _=>zr (i:=0) aG.nd rfl (by first|exact Or.inl rfl|exact Or.inr rfl)) (yQ (by rfl) nb.range (yx (zb 2 rfl (zk (⟨_,_,rfl,rfl,yx (zb 3 rfl (zk (⟨_,_,rfl,rfl,⟨_,_,rfl,rfl,⟨by omega,by omega,by omega,by omega⟩,⟨by rw[zp2,zj];omega,?_⟩⟩⟩)))⟩)))))))
   refine zV (fun d=>pF ds "go" (wu d)) (fun d=>hT n "go" (wu d)) (fun d hd=>?_) ?_
   ·obtain⟨z,_,rfl⟩:=zu0.mp hd
    obtain⟨b,eb⟩:=zg3 rr z
    exact⟨_,rfl,fun C s2 H2 fp Q k=>yG (xt (xr (zq CT (hr.mono (by decide)) (by rfl) (za (zb 2 rfl (za (zz (za (zb 0 rfl (ze (⟨ds,_,_,rfl,rr,by simp[words],⟨b,eb,by have k1:Q (isF (zL ds "go" z)):=k;rw[eb] at k1;exact k1⟩⟩))))))))))),fun _ C s2 H2 fp Q k=>yr (za (zb 1 rfl (za (zz (za (zb 0 rfl (ze (⟨_,rfl,zp4 rfl,k⟩))))))))⟩
   rw[zr6,yp (p:=pF ds "go") (h:=hT n "go") _ (fun _=>rfl) (fun _=>rfl)]
   refine⟨_,rfl,by simp only[zq4,zp2];unfold sel at s1 s2 s3 s4 s5;omega,?_⟩
   refine yo 4 rfl (EvL.d (wV (pat:=.one 0) rfl aw rfl (fun _ _ _ _=>zr (i:=0) aw.nd rfl (by first|exact Or.inl rfl|exact Or.inr rfl)) (yQ (by rfl) nb.range (zb 2 rfl (zb 3 rfl (⟨_,_,rfl,rfl,⟨by omega,by omega,by omega,by omega⟩,⟨by rw[zp2,zj];omega,?_⟩⟩))))))
   refine zV (fun d=>pLe ds (wu d)) (fun d=>hT n "least" (wu d)) (fun d hd=>?_) ?_
   ·obtain⟨z,_,rfl⟩:=zu0.mp hd
    obtain⟨b,eb,_,_⟩:=tN rr z
    exact⟨_,rfl,fun C s2 H2 fp Q k=>yG (rM (zq CT (hr.mono (by decide)) (by rfl) (za (zb 2 rfl (za (zz (za (zb 0 rfl (ze (⟨ds,_,_,rfl,rr,by simp[words],zk (⟨b,_,eb,rfl,by have k1:Q (decide (1<intOf (zL ds "least" z))):=k;rw[eb] at k1;exact k1⟩)⟩)))))))))),fun _ C s2 H2 fp Q k=>yr (za (zb 1 rfl (za (zz (za (zb 0 rfl (ze (⟨_,rfl,zp4 rfl,k⟩))))))))⟩
   rw[zr6,yp (p:=pLe ds) (h:=hT n "least") _ (fun _=>rfl) (fun _=>rfl)]
   refine⟨_,rfl,by simp only[zq4,zp2];unfold sel at s1 s2 s3 s4 s5;omega,?_⟩
   refine yo 4 rfl (EvL.d (wV (pat:=.one 0) rfl bU rfl (fun _ _ _ _=>zr (i:=0) bU.nd rfl (by first|exact Or.inl rfl|exact Or.inr rfl)) (yQ (by rfl) nb.range (zb 2 rfl (zb 3 rfl (⟨_,_,rfl,rfl,⟨by omega,by omega,by omega,by omega⟩,⟨by rw[zp2,zj];omega,?_⟩⟩))))))
   refine zV (fun d=>pMo ds g (wu d)) (fun d=>hT n "most" (wu d)) (fun d hd=>?_) ?_
   ·obtain⟨z,_,rfl⟩:=zu0.mp hd
    obtain⟨b,eb,_,_⟩:=qY rr z
    exact⟨_,rfl,fun C s2 H2 fp Q k=>yG (eU (zq CT (hr.mono (by decide)) (by rfl) (za (zb 2 rfl (za (zz (za (zb 0 rfl (ze (⟨ds,_,_,rfl,rr,by simp[words],vT (zb 3 rfl (zb 0 rfl (⟨_,_,rfl,rfl,⟨b,_,eb,rfl,by have k1:Q (decide (intOf (zL ds "most" z)<g-z)):=k;rw[eb] at k1;exact k1⟩⟩)))⟩)))))))))),fun _ C s2 H2 fp Q k=>yr (za (zb 1 rfl (za (zz (za (zb 0 rfl (ze (⟨_,rfl,zp4 rfl,k⟩))))))))⟩
   rw[zr6,yp (p:=pMo ds g) (h:=hT n "most") _ (fun _=>rfl) (fun _=>rfl)]
   refine⟨_,rfl,by simp only[zq4,zp2];unfold sel at s1 s2 s3 s4 s5;omega,?_⟩
   exact zD ⟨_,_,rfl⟩
  ·rintro α ⟨v5,v6,rfl⟩
   rw[xy,zp2,zu9]
   exact wG 4 rfl q
end
def re3 (n:Int):PyData→PyData
 |.tuple [.str x,.int z]=>hT n x z
 |d=>d
theorem eX (n:Int)(ds:List PyData)(c g:Int):(vW pB ds c g).map (re3 n)=vW (hT n) ds c g:=by
 unfold vW
 simp only[zx2,zx8]
 rfl
theorem dM {p:Int→Bool}{lo hi z:Int}(h:z∈sel p lo hi):lo≤z∧z<hi:=by
 obtain⟨i,hi',rfl⟩:=zu0.mp (zu1.mp h).1
 have:=List.mem_range.mp hi'
 omega
theorem gh {h:Str→Int→PyData}{ds:List PyData}{c g:Int}{d:PyData}(m:d∈vW h ds c g):∃x z,d=h x z∧x∈words∧c≤z∧z≤g:=by
 unfold vW at m
 simp only[zs6] at m
 rcases m with (((m|m)|m)|m)|m<;>
 ·obtain⟨z,hz,rfl⟩:=zu0.mp m
  have:=dM hz
  exact⟨_,z,rfl,by simp[words],by omega,by omega⟩
section
variable {P:Program}{w:World}{K:PySem.W.Frag}{mg:Str→Option Value}{base:Heap}{cs:Cs}
abbrev nHB :List Str:=["number","book","stay","come","go","nights","found"]
theorem gr :zi nHB ["number","book","stay"] (zc vZ):=⟨rfl,rfl,rfl,by decide +kernel,rfl,by decide +kernel,by decide +kernel⟩
theorem ax :zy nHB (zc vZ) ["day","book"] [none,some 1] (yS (uN 3 vZ)):=⟨rfl,by decide +kernel,by decide +kernel,by decide +kernel,by decide +kernel,rfl,by decide +kernel⟩
theorem ai :zy nHB (zc vZ) ["day","book"] [none,some 1] (yS (uN 4 vZ)):=⟨rfl,by decide +kernel,by decide +kernel,by decide +kernel,by decide +kernel,rfl,by decide +kernel⟩
theorem ao :zy nHB (zc vZ) ["day","book"] [none,some 1] (yS (uN 5 vZ)):=⟨rfl,by decide +kernel,by decide +kernel,by decide +kernel,by decide +kernel,rfl,by decide +kernel⟩
theorem aK :zy nHB (zc vZ) ["day","book"] [none,some 1] (yS (uN 6 vZ)):=⟨rfl,by decide +kernel,by decide +kernel,by decide +kernel,by decide +kernel,rfl,by decide +kernel⟩
theorem aA :zy nHB (zc vZ) ["day","book","go"] [none,some 1,some 4] (yS (uN 7 vZ)):=⟨rfl,by decide +kernel,by decide +kernel,by decide +kernel,by decide +kernel,rfl,by decide +kernel⟩
theorem gk :zy nHB (zc vZ) ["word","day","number"] [none,none,some 0] (yS (uN 8 vZ)):=⟨rfl,by decide +kernel,by decide +kernel,by decide +kernel,by decide +kernel,rfl,by decide +kernel⟩
set_option maxHeartbeats 8000000 in
theorem dJ {f C:Addr}{fd:FuncData}(F:Fun K "hindrances_by" "hindrances_by" vZ f fd)(hm:mg "hindrances_by"=some (.ref f))(hb:Binds K fd ["number","book","stay"] [])(nb:NbT mg)(CN:Cal P w K mg base "nights_of" 1 rj)(MT:vG P w K mg base C "tells_of" 2 (tL C cs)):Cal P w K mg base "hindrances_by" 3 (bZ C cs):=by
 refine xR F hm hb gr (fun as Q h=>?_) (fun cdv A' outer s H E as Q hr h=>?_)
 ·obtain⟨n,ds,c,g,rfl,_⟩:=h
  rfl
 ·obtain⟨n,ds,c,g,rfl,rd,c0,cg,g1,g2,q⟩:=h
  have rr:∀d∈ds,yA d=true:=fun d hd=>(rd d hd).1
  refine zN 3 gr.nd (vn (fun _ _=>rfl) (zb 2 rfl (zk (⟨_,_,_,rfl,rfl,rfl,?_⟩))))
  refine zN 4 gr.nd (vn (fun _ _=>rfl) (zb 2 rfl (zk (⟨_,_,_,rfl,rfl,rfl,?_⟩))))
  refine zN 5 gr.nd (EvL.d (xJ CN (hr.mono (by decide)) (by rfl) (za (zb 2 rfl (ze (⟨c,g,rfl,by omega,by omega,by omega,by omega,⟨_,rfl,?_⟩⟩))))))
  have s1:=yi (pPr ds) c g
  have s2:=yi (pF ds "come") c g
  have s3:=yi (pF ds "go") (c+1) (g+1)
  have s4:=yi (pLe ds) c g
  have s5:=yi (pMo ds g) c g
  refine aj 6 (pat:=.one 0) gr.nd rfl ax rfl (fun _ _ _ _=>zr (i:=0) ax.nd rfl (by first|exact Or.inl rfl|exact Or.inr rfl)) (zT (zb 5 rfl ⟨_,rfl,⟨by rw[zp2,zj];omega,?_⟩⟩))
  refine zV (fun d=>pPr ds (wu d)) (fun d=>pB "price" (wu d)) (fun d hd=>?_) ?_
  ·obtain⟨z,_,rfl⟩:=zu0.mp hd
   exact⟨_,rfl,fun C s2 H2 fp Q k=>yG (uG (wB MT (hr.mono (by decide)) (zb 1 rfl ⟨_,rfl,rfl,za (zz (za (zb 0 rfl (ze (⟨ds,_,_,rfl,rd,by simp[words],k⟩)))))⟩))),fun _ C s2 H2 fp Q k=>yr (za (zz (za (zb 0 rfl (ze (⟨_,rfl,zp4 rfl,k⟩))))))⟩
  rw[zr6,yp (p:=pPr ds) (h:=pB "price") _ (fun _=>rfl) (fun _=>rfl)]
  refine yo 6 rfl (EvL.d (wV (pat:=.one 0) rfl ai rfl (fun _ _ _ _=>zr (i:=0) ai.nd rfl (by first|exact Or.inl rfl|exact Or.inr rfl)) (zT (zb 5 rfl ⟨_,rfl,⟨by rw[zp2,zj];omega,?_⟩⟩))))
  refine zV (fun d=>pF ds "come" (wu d)) (fun d=>pB "come" (wu d)) (fun d hd=>?_) ?_
  ·obtain⟨z,_,rfl⟩:=zu0.mp hd
   obtain⟨b,eb⟩:=iP rr z
   exact⟨_,rfl,fun C s2 H2 fp Q k=>yG (xt (xr (wB MT (hr.mono (by decide)) (zb 1 rfl ⟨_,rfl,rfl,za (zz (za (zb 0 rfl (ze (⟨ds,_,_,rfl,rd,by simp[words],⟨b,eb,by have k1:Q (isF (zL ds "come" z)):=k;rw[eb] at k1;exact k1⟩⟩)))))⟩)))),fun _ C s2 H2 fp Q k=>yr (za (zz (za (zb 0 rfl (ze (⟨_,rfl,zp4 rfl,k⟩))))))⟩
  rw[zr6,yp (p:=pF ds "come") (h:=pB "come") _ (fun _=>rfl) (fun _=>rfl)]
  refine⟨_,rfl,by simp only[zq4,zp2];unfold sel at s1 s2 s3 s4 s5;omega,?_⟩
  refine yo 6 rfl (EvL.d (wV (pat:=.one 0) rfl ao rfl (fun _ _ _ _=>zr (i:=0) ao.nd rfl (by first|exact Or.inl rfl|exact Or.inr rfl)) (yQ (by rfl) nb.range (yx (zb 3 rfl (zk (⟨_,_,rfl,rfl,yx (zb 4 rfl (zk (⟨_,_,rfl,rfl,⟨_,_,rfl,rfl,⟨by omega,by omega,by omega,by omega⟩,⟨by rw[zp2,zj];omega,?_⟩⟩⟩)))⟩)))))))
  refine zV (fun d=>pF ds "go" (wu d)) (fun d=>pB "go" (wu d)) (fun d hd=>?_) ?_
  ·obtain⟨z,_,rfl⟩:=zu0.mp hd
   obtain⟨b,eb⟩:=zg3 rr z
   exact⟨_,rfl,fun C s2 H2 fp Q k=>yG (xt (xr (wB MT (hr.mono (by decide)) (zb 1 rfl ⟨_,rfl,rfl,za (zz (za (zb 0 rfl (ze (⟨ds,_,_,rfl,rd,by simp[words],⟨b,eb,by have k1:Q (isF (zL ds "go" z)):=k;rw[eb] at k1;exact k1⟩⟩)))))⟩)))),fun _ C s2 H2 fp Q k=>yr (za (zz (za (zb 0 rfl (ze (⟨_,rfl,zp4 rfl,k⟩))))))⟩
  rw[zr6,yp (p:=pF ds "go") (h:=pB "go") _ (fun _=>rfl) (fun _=>rfl)]
  refine⟨_,rfl,by simp only[zq4,zp2];unfold sel at s1 s2 s3 s4 s5;omega,?_⟩
  refine yo 6 rfl (EvL.d (wV (pat:=.one 0) rfl aK rfl (fun _ _ _ _=>zr (i:=0) aK.nd rfl (by first|exact Or.inl rfl|exact Or.inr rfl)) (zT (zb 5 rfl ⟨_,rfl,⟨by rw[zp2,zj];omega,?_⟩⟩))))
  refine zV (fun d=>pLe ds (wu d)) (fun d=>pB "least" (wu d)) (fun d hd=>?_) ?_
  ·obtain⟨z,_,rfl⟩:=zu0.mp hd
   obtain⟨b,eb,_,_⟩:=tN rr z
   exact⟨_,rfl,fun C s2 H2 fp Q k=>yG (rM (wB MT (hr.mono (by decide)) (zb 1 rfl ⟨_,rfl,rfl,za (zz (za (zb 0 rfl (ze (⟨ds,_,_,rfl,rd,by simp[words],zk (⟨b,_,eb,rfl,by have k1:Q (decide (1<intOf (zL ds "least" z))):=k;rw[eb] at k1;exact k1⟩)⟩)))))⟩))),fun _ C s2 H2 fp Q k=>yr (za (zz (za (zb 0 rfl (ze (⟨_,rfl,zp4 rfl,k⟩))))))⟩
  rw[zr6,yp (p:=pLe ds) (h:=pB "least") _ (fun _=>rfl) (fun _=>rfl)]
  refine⟨_,rfl,by simp only[zq4,zp2];unfold sel at s1 s2 s3 s4 s5;omega,?_⟩
  refine yo 6 rfl (EvL.d (wV (pat:=.one 0) rfl aA rfl (fun _ _ _ _=>zr (i:=0) aA.nd rfl (by first|exact Or.inl rfl|exact Or.inr rfl)) (zT (zb 5 rfl ⟨_,rfl,⟨by rw[zp2,zj];omega,?_⟩⟩))))
  refine zV (fun d=>pMo ds g (wu d)) (fun d=>pB "most" (wu d)) (fun d hd=>?_) ?_
  ·obtain⟨z,_,rfl⟩:=zu0.mp hd
   obtain⟨b,eb,_,_⟩:=qY rr z
   exact⟨_,rfl,fun C s2 H2 fp Q k=>yG (eU (wB MT (hr.mono (by decide)) (zb 1 rfl ⟨_,rfl,rfl,za (zz (za (zb 0 rfl (ze (⟨ds,_,_,rfl,rd,by simp[words],vT (zb 2 rfl (zb 0 rfl (⟨_,_,rfl,rfl,⟨b,_,eb,rfl,by have k1:Q (decide (intOf (zL ds "most" z)<g-z)):=k;rw[eb] at k1;exact k1⟩⟩)))⟩)))))⟩))),fun _ C s2 H2 fp Q k=>yr (za (zz (za (zb 0 rfl (ze (⟨_,rfl,zp4 rfl,k⟩))))))⟩
  rw[zr6,yp (p:=pMo ds g) (h:=pB "most") _ (fun _=>rfl) (fun _=>rfl)]
  refine⟨_,rfl,by simp only[zq4,zp2];unfold sel at s1 s2 s3 s4 s5;omega,?_⟩
  refine uP 6 rfl ?_
  refine uA (wV (pat:=.many [0,1]) rfl gk rfl (fun _ _ _ _=>yI (n:=2) (K:=K) rfl rfl (zS (zr (i:=0) gk.nd rfl (by first|exact Or.inl rfl|exact Or.inr rfl)) (zS (zr (i:=1) gk.nd rfl (by first|exact Or.inl rfl|exact Or.inr rfl)) (yY)))) (zT (zb 6 rfl ⟨vW pB ds c g,rfl,⟨?_,?_⟩⟩)))
  ·have:=sq pB ds c g
   omega
  refine zV (fun _=>true) (re3 n) (fun d hd=>?_) ?_
  ·obtain⟨x,z,rfl,_⟩:=gh hd
   exact⟨_,rfl,fun C s2 H2 fp Q k=>pU k,fun _ C s2 H2 fp Q k=>yr (za (zb 2 rfl (za (zb 0 rfl (za (zb 1 rfl (ze (⟨_,rfl,zp4 rfl,k⟩))))))))⟩
  ·rw[zr6,eH,eX]
   exact q
abbrev nHi :List Str:=["books","stay","found","number","book"]
theorem cU :zi nHi ["books","stay"] (zc gK):=⟨rfl,rfl,rfl,by decide +kernel,rfl,by decide +kernel,by decide +kernel⟩
set_option maxHeartbeats 8000000 in
theorem iQ {f C:Addr}{fd:FuncData}(F:Fun K "hindrances" "hindrances" gK f fd)(hm:mg "hindrances"=some (.ref f))(hb:Binds K fd ["books","stay"] [])(nb:NbT mg)(CH:Cal P w K mg base "hindrances_by" 3 (bZ C cs)):Cal P w K mg base "hindrances" 4 (mG C cs):=by
 refine xR F hm hb cU (fun as Q h=>?_) (fun cdv A' outer s H E as Q hr h=>?_)
 ·obtain⟨told,c,g,rfl,_⟩:=h
  rfl
 ·obtain⟨told,c,g,rfl,rd,lt,c0,cg,g1,g2,q⟩:=h
  refine yt 2 cU.nd (ym (ze (⟨_,rfl,zp4 rfl,?_⟩)))
  refine vU (pat:=.many [3,4]) zw5 rfl (yI (n:=2) (K:=K) rfl rfl (zS (zr (i:=3) cU.nd rfl (by first|exact Or.inl rfl|exact Or.inr rfl)) (zS (zr (i:=4) cU.nd rfl (by first|exact Or.inl rfl|exact Or.inr rfl)) (yY)))) (uk (by rfl) nb.enumerate (zb 0 rfl (⟨_,rfl,?_⟩)))
  refine yh (fun i α=>∃v3 v4,α=[some (.dat (.list (told.map (wU C cs)))),some (.dat (.tuple [.int c,.int g])),some (.own (xH 0 (told.take i) c g)),v3,v4]) ⟨none,none,rfl⟩ ?_ ?_
  ·rintro i d α hd ⟨v3,v4,rfl⟩
   obtain⟨e,he,rfl⟩:=xE hd
   rw[zq7,zq3] at he
   obtain⟨ds,hds,rfl⟩:=he
   have hi:=(zp5.mp hds).1
   have es:=vV c g ds (told.take i) 0
   rw[←take_snoc hds,zv6,Nat.min_eq_left (by omega)] at es
   have l0:=wy c g (told.take i) 0
   have l00:(told.take i).length*(5*(g-c).toNat)≤4*70:=zB1 (by rw[zv6];omega) (by omega)
   have l1:=sq (hT ((0+i:Nat):Int)) ds c g
   rw[es]
   refine⟨_,rfl,?_⟩
   refine yo 2 rfl (EvL.d (xJ CH (hr.mono (by decide)) (by rfl) (za (zb 3 rfl (za (zb 4 rfl (za (zb 1 rfl (ze ⟨_,ds,c,g,rfl,rd ds (zt0 hds),c0,cg,g1,g2,⟨_,rfl,⟨_,rfl,by omega,?_⟩⟩⟩)))))))))
   exact zD ⟨_,_,rfl⟩
  ·rintro α ⟨v3,v4,rfl⟩
   rw[xy,zp2,zu9]
   exact wG 2 rfl q
end
abbrev H3 :=Int×Str×Int
def hD (h:H3):PyData:=hT h.1 h.2.1 h.2.2
def hK (h:H3):List Key:=[.inl h.1,.inr h.2.1,.inl h.2.2]
theorem zd9 {a b:H3}(e:hK a=hK b):a=b:=by
 obtain⟨a1,a2,a3⟩:=a
 obtain⟨b1,b2,b3⟩:=b
 simp only[hK,List.cons.injEq,Sum.inl.injEq,Sum.inr.injEq,and_true] at e
 obtain⟨e1,e2,e3⟩:=e
 subst e1 e2 e3
 rfl
def yU (hs:List H3)(n:Int)(x:Str)(z:Int):Bool:=hs.any fun h=>decide (h=(n,x,z))
theorem uC {hs:List H3}{n:Int}{x:Str}{z:Int}:yU hs n x z=true↔(n,x,z)∈hs:=by
 unfold yU
 rw[List.any_eq_true]
 constructor
 ·rintro⟨h,hm,e⟩
  rw[←zx5 e];exact hm
 ·intro hm
  exact⟨_,hm,zt5 rfl⟩
abbrev Fo :=Int→Str→Int→Bool
theorem lG {hs:List H3}{ds:List (PyData×PyData)}(h:∀k,inT ds k=rp (hs.map fun h=>(hK h,PyData.bool true)) k)(n:Int)(x:Str)(z:Int):inT ds [.inl n,.inr x,.inl z]=yU hs n x z:=by
 rw[h]
 unfold rp yU
 rw[zA7]
 congr 1
 funext q
 show decide (hK q=hK (n,x,z))=decide (q=(n,x,z))
 by_cases e:q=(n,x,z)
 ·subst e;simp
 ·rw[zs9 e,zs9 fun w=>e (zd9 w)]
def leD (ds:List PyData)(b:Int):Int:=intOf (zL ds "least" b)
def moD (ds:List PyData)(b:Int):Int:=intOf (zL ds "most" b)
def xZ (fo:Fo)(n:Int)(ds:List PyData)(b e:Int):Bool:=
 !(fo n "come" b||fo n "go" e)&&(!(fo n "least" b&&decide (e-b<leD ds b))&&(!(fo n "most" b&&decide (moD ds b<e-b))&&!((zY b (e-b).toNat).any fun z=>fo n "price" z)))
def edB (fo:Fo)(told:List (List PyData))(b e:Int):Prop:=∃(n:Nat) (ds:List PyData),told[n]?=some ds∧xZ fo (n:Int) ds b e=true
inductive Way (E:Int→Int→Prop)(a:Int):Int→Prop
 |nil:Way E a a
 |snoc {x y:Int}:Way E a x→E x y→Way E a y
theorem Way.cons {E:Int→Int→Prop}{x y z:Int}(e:E x y)(h:Way E y z):Way E x z:=by
 induction h with
 |nil=>exact .snoc .nil e
 |snoc _ e2 ih=>exact .snoc ih e2
theorem Way.head {E:Int→Int→Prop}{x z:Int}(h:Way E x z):x=z∨∃y,E x y∧Way E y z:=by
 induction h with
 |nil=>exact .inl rfl
 |@snoc u v _ e ih=>
  rcases ih with rfl|⟨y,h1,h2⟩
  ·exact .inr ⟨v,e,.nil⟩
  ·exact .inr ⟨y,h1,.snoc h2 e⟩
theorem Way.last {E:Int→Int→Prop}{x z:Int}(h:Way E x z):x=z∨∃y,Way E x y∧E y z:=by
 cases h with
 |nil=>exact .inl rfl
 |snoc h e=>exact .inr ⟨_,h,e⟩
def upE (fo:Fo)(told:List (List PyData))(x y:Int):Prop:=x<y∧edB fo told x y
abbrev wD (fo:Fo)(told:List (List PyData))(c g:Int):Prop:=Way (upE fo told) c g
theorem Way.le {fo:Fo}{told:List (List PyData)}{c g:Int}(h:wD fo told c g):c≤g:=by
 induction h with
 |nil=>exact Int.le_refl _
 |snoc _ e ih=>have:=e.1;omega
noncomputable def tr (p:Prop):Bool:=@decide p (Classical.propDecidable p)
theorem sT {p:Prop}:tr p=true↔p:=@decide_eq_true_iff p (Classical.propDecidable p)
theorem zb9 {p:Prop}(h:p):tr p=true:=sT.mpr h
theorem zl3 {p:Prop}(h:¬p):tr p=false:=by
 cases e:tr p with
 |false=>rfl
 |true=>exact absurd (sT.mp e) h
def th (n:Int)(x:Str)(z:Int):H3:=(n,x,z)
def qh (n:Int)(ds:List PyData)(c g:Int):List H3:=
 (sel (pPr ds) c g).map (th n "price")++(sel (pF ds "come") c g).map (th n "come")++(sel (pF ds "go") (c+1) (g+1)).map (th n "go")++(sel (pLe ds) c g).map (th n "least")++(sel (pMo ds g) c g).map (th n "most")
def zv (n:Nat):List (List PyData)→Int→Int→List H3
 |[],_,_=>[]
 |ds::r,c,g=>qh n ds c g++zv (n+1) r c g
theorem jW (n:Int)(ds:List PyData)(c g:Int):(qh n ds c g).map hD=vW (hT n) ds c g:=by
 unfold vW qh
 simp only[zx2,zx8]
 rfl
theorem yL (c g:Int):∀(told:List (List PyData)) (n:Nat),(zv n told c g).map hD=xH n told c g
 |[],n=>rfl
 |ds::r,n=>by
  show (qh n ds c g++zv (n+1) r c g).map hD=vW (hT n) ds c g++xH (n+1) r c g
  rw[zx2,jW,yL c g r (n+1)]
def Wd (hs:List H3):Prop:=∀h∈hs,h.2.1∈words
theorem iU (n:Int)(ds:List PyData)(c g:Int):∀h∈qh n ds c g,h.2.1∈words∧h.1=n:=by
 intro h hm
 unfold qh at hm
 simp only[zs6] at hm
 rcases hm with (((m|m)|m)|m)|m<;>
 ·obtain⟨z,hz,rfl⟩:=zu0.mp m
  exact⟨by simp[words,th],rfl⟩
theorem xB (c g:Int):∀(told:List (List PyData)) (n:Nat),Wd (zv n told c g)
 |[],n=>fun h hm=>by simp[zv] at hm
 |ds::r,n=>fun h hm=>by
  rcases zs6.mp hm with hm|hm
  ·exact (iU _ _ _ _ h hm).1
  ·exact xB c g r (n+1) h hm
theorem mJ {x:Str}(h:x∈words):PySem.PyData.strOk x=true:=by
 simp only[words,zp7,zq5,zt3] at h
 rcases h with rfl|rfl|rfl|rfl|rfl|rfl|rfl<;>decide +kernel
theorem pH {h:H3}(w:h.2.1∈words):(hD h).canLay0=true:=by
 show (true&&(PySem.PyData.strOk h.2.1&&(true&&true)))=true
 rw[mJ w];rfl
theorem rk (h:H3):(hD h).depth≤60:=by
 show PyData.depth (.tuple [.int h.1,.str h.2.1,.int h.2.2])≤60
 simp[PyData.depth,PyData.depthAll]
theorem vX (h:H3):(hD h).hasDict=false:=rfl
theorem vt :∀{hs:List H3},Wd hs→PyData.canLayAll0 (hs.map hD)=true
 |[],_=>rfl
 |h::r,w=>by
  show ((hD h).canLay0&&PyData.canLayAll0 (r.map hD))=true
  rw[pH (w h zq1),vt fun q hq=>w q (zq0 _ hq)];rfl
theorem tG :∀(hs:List H3),PyData.hasDictAll (hs.map hD)=false
 |[]=>rfl
 |h::r=>by
  show ((hD h).hasDict||PyData.hasDictAll (r.map hD))=false
  rw[vX,tG r];rfl
theorem ly (a b:H3):PyData.eqv (hD a) (hD b)=decide (a=b):=by
 obtain⟨a1,a2,a3⟩:=a
 obtain⟨b1,b2,b3⟩:=b
 show PyData.eqv (.tuple [.int a1,.str a2,.int a3]) (.tuple [.int b1,.str b2,.int b3])=_
 by_cases e1:a1=b1
 ·by_cases e2:a2=b2
  ·by_cases e3:a3=b3
   ·subst e1 e2 e3;simp[PyData.eqv,PyData.eqvAll]
   ·simp[PyData.eqv,PyData.eqvAll,e1,e2,e3]
  ·simp[PyData.eqv,PyData.eqvAll,e1,e2]
 ·simp[PyData.eqv,PyData.eqvAll,e1]
def inH (hs:List H3)(h:H3):Bool:=hs.any fun y=>decide (y=h)
theorem iK (hs:List H3)(h:H3):((hs.map hD).any fun y=>PyData.eqv y (hD h))=inH hs h:=by
 unfold inH
 rw[zA7]
 congr 1
 funext q
 exact ly q h
theorem kN {hs:List H3}{h:H3}:inH hs h=true↔h∈hs:=by
 unfold inH
 rw[List.any_eq_true]
 constructor
 ·rintro⟨y,hm,e⟩;rw[←zx5 e];exact hm
 ·intro hm;exact⟨h,hm,zt5 rfl⟩
def vP (told:List (List PyData))(c g:Int)(ss:List H3):List H3:=(zv 0 told c g).filter fun h=>inH ss h
abbrev aO :Stmt:=top 22
abbrev sD :Stmt:=top 23
abbrev tY :Stmt:=top 24
structure SB (b e:Int):Prop where
 b0:0≤b
 lt:b<e
 e14:e≤b+14
 e1:e≤1000000
noncomputable def foT (D:List (PyData×PyData)):Fo:=fun n x z=>inT D [.inl n,.inr x,.inl z]
def tj (C:Addr)(cs:Cs)(told:List (List PyData)):PyData:=.list (told.map (wU C cs))
def bT (C:Addr)(cs:Cs):List A→(A→Prop)→Prop:=fun as Q=>∃(n:Int) (ds:List PyData) (b e:Int) (D:List (PyData×PyData)),as=[.dat (.int n),.dat (wU C cs ds),.dat (.tuple [.int b,.int e]),.dat (vE D)]∧Rules ds∧SB b e∧Q (.dat (.bool (xZ (foT D) n ds b e)))
def rF (C:Addr)(cs:Cs):List A→(A→Prop)→Prop:=fun as Q=>∃(told:List (List PyData)) (bs:List Int) (y:Int) (D:List (PyData×PyData)),as=[.dat (tj C cs told),.dat (.list (bs.map .int)),.dat (.int y),.dat (vE D)]∧(∀ds∈told,Rules ds)∧told.length≤4∧(∀b∈bs,SB b y)∧Q (.dat (.bool (tr (∃b∈bs,edB (foT D) told b y))))
def uK (C:Addr)(cs:Cs):List A→(A→Prop)→Prop:=fun as Q=>∃(told:List (List PyData)) (c g:Int) (hs:List H3),as=[.dat (tj C cs told),.dat (.tuple [.int c,.int g]),.dat (.list (hs.map hD))]∧(∀ds∈told,Rules ds)∧told.length≤4∧SB c g∧hs.length≤300∧Q (.dat (.bool (!tr (wD (yU hs) told c g))))
theorem rH {ι:Type}(g:ι→PyData):∀(l:List ι) (n:Nat),vI n (l.map g)=(l.zipIdx n).map fun p=>.tuple [.int (p.2:Nat),g p.1]
 |[],n=>rfl
 |x::l,n=>by
  rw[zs1,List.zipIdx_cons,zs1]
  show _::vI (n+1) (l.map g)=_
  rw[rH g l (n+1)]
theorem gg {fo:Fo}{told:List (List PyData)}{b e:Int}:(told.zipIdx.any fun p=>xZ fo (p.2:Nat) p.1 b e)=true↔edB fo told b e:=by
 rw[List.any_eq_true]
 constructor
 ·rintro⟨⟨ds,n⟩,hm,h⟩
  exact⟨n,ds,(List.mk_mem_zipIdx_iff_getElem?).mp hm,h⟩
 ·rintro⟨n,ds,h1,h2⟩
  exact⟨(ds,n),(List.mk_mem_zipIdx_iff_getElem?).mpr h1,h2⟩
section
variable {P:Program}{w:World}{K:PySem.W.Frag}{mg:Str→Option Value}{base:Heap}{cs:Cs}
theorem af :zi ["number","book","stay","force","come","many"] ["number","book","stay","force"] (zc aO):=⟨rfl,rfl,rfl,by decide +kernel,rfl,by decide +kernel,by decide +kernel⟩
theorem cP {f C:Addr}{fd:FuncData}(F:Fun K "lets" "lets" aO f fd)(hm:mg "lets"=some (.ref f))(hb:Binds K fd ["number","book","stay","force"] [])(nb:NbT mg)(CN:Cal P w K mg base "nights_of" 1 rj)(MT:vG P w K mg base C "tells_of" 2 (tL C cs)):Cal P w K mg base "lets" 3 (bT C cs):=by
 refine xR F hm hb af (fun as Q h=>?_) (fun cdv A' outer s H E as Q hr h=>?_)
 ·obtain⟨n,ds,b,e,D,rfl,_⟩:=h
  rfl
 ·obtain⟨n,ds,b,e,D,rfl,ro,sb,q⟩:=h
  obtain⟨b0,bl,e14,e1⟩:=id sb
  have nd:=af.nd
  obtain⟨le,hle,_,_⟩:=tN (fun d hd=>(ro d hd).1) b
  obtain⟨mo,hmo,_,_⟩:=qY (fun d hd=>(ro d hd).1) b
  have ele:leD ds b=le:=by unfold leD;rw[hle];rfl
  have emo:moD ds b=mo:=by unfold moD;rw[hmo];rfl
  unfold xZ at q
  rw[ele,emo] at q
  and_intros
  have sm:∀{x y:Bool},x=y→Q (.dat (.bool x))→Q (.dat (.bool y)):=fun e z=>e▸z
  refine rf (fun h1=>?_) (fun h1=>?_)
  ·have h1:foT D n "come" b=true:=h1
   and_intros
   exact sm (by rw[h1];rfl) q
  have h1:foT D n "come" b=false:=h1
  and_intros
  refine zZ (fun h2=>?_) (fun h2=>?_)
  ·have h2:foT D n "go" e=true:=h2
   and_intros
   exact sm (by rw[h1,h2];rfl) q
  have h2:foT D n "go" e=false:=h2
  rw[h1,h2] at q
  refine zD ?_
  refine wK (fun α=>α=[some (.dat (.int n)),some (.dat (wU C cs ds)),some (.dat (.tuple [.int b,.int e])),some (.dat (vE D)),some (.dat (.int b)),some (.dat (.int (e-b)))]∧(foT D n "least" b&&decide (e-b<le))=false) ?_ ?_
  ·and_intros
   refine rf (fun h3=>?_) (fun h3=>?_)
   ·have h3:foT D n "least" b=true:=h3
    and_intros
    refine⟨ds,"least",b,rfl,ro,by simp[words],?_⟩
    rw[hle]
    and_intros
    refine zZ (fun h4=>?_) (fun h4=>?_)
    ·and_intros
     exact sm (by rw[h3,h4];rfl) q
    ·and_intros
     exact⟨rfl,by rw[h3,h4];rfl⟩
   ·have h3:foT D n "least" b=false:=h3
    and_intros
    exact⟨rfl,by rw[h3];rfl⟩
  rintro α ⟨rfl,h3⟩
  rw[h3] at q
  refine wK (fun α=>α=[some (.dat (.int n)),some (.dat (wU C cs ds)),some (.dat (.tuple [.int b,.int e])),some (.dat (vE D)),some (.dat (.int b)),some (.dat (.int (e-b)))]∧(foT D n "most" b&&decide (mo<e-b))=false) ?_ ?_
  ·and_intros
   refine rf (fun h4=>?_) (fun h4=>?_)
   ·have h4:foT D n "most" b=true:=h4
    and_intros
    refine⟨ds,"most",b,rfl,ro,by simp[words],?_⟩
    rw[hmo]
    and_intros
    refine zZ (fun h5=>?_) (fun h5=>?_)
    ·and_intros
     exact sm (by rw[h4,h5];rfl) q
    ·and_intros
     exact⟨rfl,by rw[h4,h5];rfl⟩
   ·have h4:foT D n "most" b=false:=h4
    and_intros
    exact⟨rfl,by rw[h4];rfl⟩
  rintro α ⟨rfl,h4⟩
  rw[h4] at q
  refine yq (gE (df rfl (by rfl) nb.any (EvL.d (vK ["night","number","force"] [none,some 0,some 3] (.one 0) (zT (EvL.d ?_))))))
  and_intros
  refine⟨b,e,rfl,by omega,bl,by omega,by omega,?_⟩
  and_intros
  refine⟨by rw[zp2,zj];omega,?_⟩
  refine wt (fun z=>.bool (foT D n "price" z)) (fun z hz=>⟨_,rfl,fun _ _ _ _ _ k=>?_⟩) ?_
  ·and_intros
   exact k
  rw[zr6,show (zY b (e-b).toNat).map (fun z=>PyData.bool (foT D n "price" z))=((zY b (e-b).toNat).map fun z=>foT D n "price" z).map .bool by rw[zx8]<;>rfl]
  and_intros
  rw[zA7]
  exact q
theorem aq :zi ["books","begins","day","force","begin"] ["books","begins","day","force"] (zc sD):=⟨rfl,rfl,rfl,by decide +kernel,rfl,by decide +kernel,by decide +kernel⟩
theorem oM {f C:Addr}{fd:FuncData}(F:Fun K "leads_to" "leads_to" sD f fd)(hm:mg "leads_to"=some (.ref f))(hb:Binds K fd ["books","begins","day","force"] [])(nb:NbT mg)(CL:Cal P w K mg base "lets" 3 (bT C cs)):Cal P w K mg base "leads_to" 4 (rF C cs):=by
 refine xR F hm hb aq (fun as Q h=>?_) (fun cdv A' outer s H E as Q hr h=>?_)
 ·obtain⟨told,bs,y,D,rfl,_⟩:=h
  rfl
 ·obtain⟨told,bs,y,D,rfl,ro,tl,sb,q⟩:=h
  have nd:=aq.nd
  refine vq (.one 4) (zT (zb 1 rfl ⟨_,rfl,?_⟩))
  refine yh (fun i α=>∃o4:Option A,α=[some (.dat (tj C cs told)),some (.dat (.list (bs.map .int))),some (.dat (.int y)),some (.dat (vE D)),o4]∧∀b∈bs.take i,¬edB (foT D) told b y) ⟨none,rfl,fun b hb=>by simp at hb⟩ ?_ ?_
  ·rintro i x α hx ⟨o4,rfl,hi0⟩
   rw[zq7,zq3] at hx
   obtain⟨b,hu,rfl⟩:=hx
   have bm:=zt0 hu
   refine⟨_,rfl,?_⟩
   refine yw (oG (df rfl (by rfl) nb.any (EvL.d (vK ["number","book","begin","day","force"] [none,none,some 4,some 2,some 3] (.many [0,1]) (uk (by rfl) nb.enumerate (zb 0 rfl ⟨_,rfl,?_⟩))))))
   rw[rH]
   refine⟨by rw[zp2,List.length_zipIdx];omega,?_⟩
   refine wt (fun p=>.bool (xZ (foT D) (p.2:Nat) p.1 b y)) (fun p hp=>⟨_,rfl,fun _ _ _ _ _ k=>?_⟩) ?_
   ·and_intros
    exact⟨_,p.1,b,y,D,rfl,ro p.1 (List.fst_mem_of_mem_zipIdx hp),sb b bm,k⟩
   rw[zr6,show told.zipIdx.map (fun p=>PyData.bool (xZ (foT D) (p.2:Nat) p.1 b y))=(told.zipIdx.map fun p=>xZ (foT D) (p.2:Nat) p.1 b y).map .bool by rw[zx8]<;>rfl]
   and_intros
   rw[zA7]
   refine zZ (fun h2=>?_) (fun h2=>?_)
   ·have h2:=gg.mp (show (told.zipIdx.any fun p=>xZ (foT D) (p.2:Nat) p.1 b y)=true from h2)
    rw[zb9 (p:=∃b∈bs,edB (foT D) told b y) ⟨b,bm,h2⟩] at q
    and_intros
    exact q
   ·and_intros
    intro b' hb'
    rw[take_snoc hu] at hb'
    rcases zs6.mp hb' with hb'|hb'
    ·exact hi0 b' hb'
    ·rw[zr5.mp hb']
     intro z
     have:=gg.mpr z
     rw[show (told.zipIdx.any fun p=>xZ (foT D) (p.2:Nat) p.1 b y)=false from h2] at this
     cases this
  ·rintro α ⟨o4,rfl,hi0⟩
   rw[zp2,zu9] at hi0
   rw[zl3 (p:=∃b∈bs,edB (foT D) told b y) fun⟨b,hb,z⟩=>hi0 b hb z] at q
   and_intros
   exact q
theorem zi9 :zi ["books","stay","some","force","reached","day"] ["books","stay","some"] (zc tY):=⟨rfl,rfl,rfl,by decide +kernel,rfl,by decide +kernel,by decide +kernel⟩
theorem inI (ns:List Int)(z:Int):inD (.int z) (ns.map .int)=decide (z∈ns):=by
 induction ns with
 |nil=>rfl
 |cons d ds ih=>
  rw[zs1]
  unfold inD at ih ⊢
  rw[zv0,ih]
  by_cases h:z=d
  ·subst h;simp[scV,eqV]
  ·simp[scV,eqV,h,zx0 h]
theorem iR (ds:List Int):(ds.map PyData.int).all vh=true:=by
 rw[List.all_map,zx7]
 intro z _
 rfl
theorem jP {fo:Fo}{told:List (List PyData)}{c y:Int}{rs:List Int}{i:Nat}(hy:y=c+1+i)(hr:∀x,x∈rs↔x≤c+i∧wD fo told c x):wD fo told c y↔∃b∈rs,edB fo told b y:=by
 constructor
 ·intro h
  rcases h.last with e|⟨x,h1,h2⟩
  ·omega
  ·have:=h2.1
   exact⟨x,(hr x).mpr ⟨by omega,h1⟩,h2.2⟩
 ·rintro⟨b,hb,he⟩
  obtain⟨h1,h2⟩:=(hr b).mp hb
  exact .snoc h2 ⟨by omega,he⟩
theorem oB {f C:Addr}{fd:FuncData}(F:Fun K "is_held_off" "is_held_off" tY f fd)(hm:mg "is_held_off"=some (.ref f))(hb:Binds K fd ["books","stay","some"] [])(nb:NbT mg)(hdi:mg "dict"=none)(CL:Cal P w K mg base "leads_to" 4 (rF C cs)):Cal P w K mg base "is_held_off" 5 (uK C cs):=by
 refine xR F hm hb zi9 (fun as Q h=>?_) (fun cdv A' outer s H E as Q hr h=>?_)
 ·obtain⟨told,c,g,hs,rfl,_⟩:=h
  rfl
 ·obtain⟨told,c,g,hs,rfl,ro,tl,sb,hl,q⟩:=h
  obtain⟨c0,cg,g14,g1⟩:=id sb
  have nd:=zi9.nd
  refine zN 3 nd (nj rfl hr.units (by rfl) hdi (EvL.d (vK ["hindrance"] [none] (.one 0) (zT (zb 2 rfl ⟨_,rfl,?_⟩)))))
  refine⟨by rw[zp2];omega,?_⟩
  refine wt (fun h=>prD (hK h,.bool true)) (fun h hh=>⟨_,rfl,fun _ _ _ _ _ k=>?_⟩) ?_
  ·and_intros
   exact k
  refine⟨hs.map fun h=>(hK h,.bool true),by rw[zx8]<;>rfl,fun D hDD=>?_⟩
  have ef:foT D=yU hs:=by funext n x z;exact lG hDD n x z
  refine yt 4 nd ?_
  and_intros
  refine vq (.one 5) (yQ (by rfl) nb.range ?_)
  and_intros
  refine⟨⟨by omega,by omega,by omega,by omega⟩,?_⟩
  refine yh (fun i α=>∃(o5:Option A) (rs:List Int),α=[some (.dat (tj C cs told)),some (.dat (.tuple [.int c,.int g])),some (.dat (.list (hs.map hD))),some (.dat (vE D)),some (.own (rs.map .int)),o5]∧rs.length≤1+i∧∀x,x∈rs↔x≤c+i∧wD (yU hs) told c x) ⟨none,[c],rfl,by simp,fun x=>?_⟩ ?_ ?_
  ·constructor
   ·intro h
    rw[zr5.mp h]
    exact⟨by omega,.nil⟩
   ·rintro⟨h1,h2⟩
    have:=h2.le
    rw[show x=c by omega]
    exact zr5.mpr rfl
  ·rintro i x α hx ⟨o5,rs,rfl,rl,hi0⟩
   rw[zq7,zq3] at hx
   obtain⟨u,hu,rfl⟩:=hx
   have hi:=(zp5.mp hu).1
   rw[zj] at hi
   rw[vY hi] at hu
   cases hu
   have ts:=jP (fo:=yU hs) (told:=told) (c:=c) (y:=c+1+(i:Int)) rfl hi0
   refine⟨_,rfl,?_⟩
   refine yw (wN 4 rfl ?_)
   and_intros
   refine⟨told,rs,c+1+(i:Int),D,rfl,ro,tl,fun b hb=>?_,?_⟩
   ·obtain⟨h1,h2⟩:=(hi0 b).mp hb
    have:=h2.le
    exact⟨by omega,by omega,by omega,by omega⟩
   rw[ef]
   and_intros
   refine zZ (fun h2=>?_) (fun h2=>?_)
   ·have h2:=ts.mpr (sT.mp h2)
    and_intros
    refine⟨by rw[zp2];omega,?_⟩
    and_intros
    refine⟨_,rs++[c+1+(i:Int)],by rw[zx2]<;>rfl,by simp;omega,fun x=>?_⟩
    rw[zs6,zr5,hi0]
    constructor
    ·rintro (⟨h3,h4⟩|rfl)
     ·exact⟨by omega,h4⟩
     ·exact⟨by omega,h2⟩
    ·rintro⟨h3,h4⟩
     by_cases e:x=c+1+(i:Int)
     ·exact .inr e
     ·exact .inl ⟨by omega,h4⟩
   ·and_intros
    refine⟨_,rs,rfl,by omega,fun x=>?_⟩
    rw[hi0]
    constructor
    ·rintro⟨h3,h4⟩;exact⟨by omega,h4⟩
    ·rintro⟨h3,h4⟩
     by_cases e:x=c+1+(i:Int)
     ·subst e
      rw[zb9 (ts.mp h4)] at h2
      cases h2
     ·exact⟨by omega,h4⟩
  ·rintro α ⟨o5,rs,rfl,rl,hi0⟩
   rw[zp2,zj] at hi0
   refine yq (lY 4 rfl ?_)
   and_intros
   refine ink rfl (iR _) ?_
   rw[inI]
   refine⟨rfl,?_⟩
   rw[show decide (g∈rs)=tr (wD (yU hs) told c g) by
    rw[zw1,decide_eq_true_iff,sT,hi0]
    exact⟨fun z=>z.2,fun z=>⟨by omega,z⟩⟩]
   exact q
end
abbrev hZ :Stmt:=top 60
abbrev nP :Stmt:=top 61
def sP (told:List (List PyData)):PyData:=.list (told.map .list)
def iZ :List A→(A→Prop)→Prop:=fun as Q=>∃(n:Int) (ds:List PyData) (b e:Int) (D:List (PyData×PyData)),as=[.dat (.list ds),.dat (.int n),.dat (vE D),.dat (.int b),.dat (.int e)]∧(∀d∈ds,yA d=true)∧SB b e∧Q (.dat (.bool (xZ (foT D) n ds b e)))
def qZ :List A→(A→Prop)→Prop:=fun as Q=>∃(told:List (List PyData)) (c g:Int) (ss:List H3),as=[.dat (sP told),.dat (.tuple [.int c,.int g]),.dat (.list (ss.map hD))]∧(∀ds∈told,∀d∈ds,yA d=true)∧told.length≤4∧SB c g∧Wd ss∧Q (.dat (.bool (!tr (wD (yU (vP told c g ss)) told c g))))
theorem zc4 {ds:List PyData}:PyData.eqv (.list ds) (.list [])=ds.isEmpty:=by
 cases ds<;>simp[PyData.eqv,PyData.eqvAll]
theorem zj1 :∀(zs:List Int),PyData.hasDictAll (zs.map .int)=false
 |[]=>rfl
 |z::zs=>by
  show (false||PyData.hasDictAll (zs.map .int))=false
  rw[zj1 zs];rfl
theorem zj0 :∀(zs:List Int),vM (zs.map .int)=true
 |[]=>rfl
 |z::zs=>by
  show (true&&vM (zs.map .int))=true
  rw[zj0 zs];rfl
def ExJ (fo:Fo)(told:List (List PyData))(ds:List Int)(b:Int)(j:Nat):Prop:=∃(n:Nat) (dn:List PyData),n<j∧told[n]?=some dn∧∃e∈ds,xZ fo (n:Int) dn b e=true
theorem jm {fo:Fo}{told:List (List PyData)}{g b:Int}{ds:List Int}{i:Nat}(hb:b=g-1-i)(hr:∀x,x∈ds↔g-i≤x∧wD fo told x g):wD fo told b g↔ExJ fo told ds b told.length:=by
 constructor
 ·intro h
  rcases h.head with e|⟨x,⟨h1,n,dn,h2,h3⟩,h4⟩
  ·omega
  ·exact⟨n,dn,(zp5.mp h2).1,h2,x,(hr x).mpr ⟨by omega,h4⟩,h3⟩
 ·rintro⟨n,dn,_,h2,x,hx,h3⟩
  obtain⟨h4,h5⟩:=(hr x).mp hx
  exact Way.cons ⟨by omega,n,dn,h2,h3⟩ h5
theorem bK {ι:Type}(p:ι→Bool)(f:ι→PyData)(l:List ι):decide ((0:Int)<(((l.filter p).map f).length:Int))=l.any p:=by
 rw[zp2]
 induction l with
 |nil=>rfl
 |cons x l ih=>
  rw[zy5,zv0]
  cases h:p x with
  |true=>simp
  |false=>simpa using ih
section
variable {P:Program}{w:World}{K:PySem.W.Frag}{mg:Str→Option Value}{base:Heap}{cs:Cs}
theorem zf7 :zi ["_law_rules_here","_law_number","_law_force","_law_begin_here","_law_end","_law_rows"] ["_law_rules_here","_law_number","_law_force","_law_begin_here","_law_end"] (zc hZ):=⟨rfl,rfl,rfl,by decide +kernel,rfl,by decide +kernel,by decide +kernel⟩
theorem hG {f:Addr}{fd:FuncData}(F:Fun K "_law_lets" "_law_lets" hZ f fd)(hm:mg "_law_lets"=some (.ref f))(hb:Binds K fd ["_law_rules_here","_law_number","_law_force","_law_begin_here","_law_end"] [])(nb:NbT mg)(CT:Cal P w K mg base "_law_tells" 1 sQ):Cal P w K mg base "_law_lets" 2 iZ:=by
 refine xR F hm hb zf7 (fun as Q h=>?_) (fun cdv A' outer s H E as Q hr h=>?_)
 ·obtain⟨n,ds,b,e,D,rfl,_⟩:=h
  rfl
 ·obtain⟨n,ds,b,e,D,rfl,ro,sb,q⟩:=h
  obtain⟨b0,bl,e14,e1⟩:=id sb
  have nd:=zf7.nd
  obtain⟨le,hle,_,_⟩:=tN ro b
  obtain⟨mo,hmo,_,_⟩:=qY ro b
  have ele:leD ds b=le:=by unfold leD;rw[hle];rfl
  have emo:moD ds b=mo:=by unfold moD;rw[hmo];rfl
  have sm:∀{x y:Bool},x=y→Q (.dat (.bool x))→Q (.dat (.bool y)):=fun e z=>e▸z
  unfold xZ at q
  rw[ele,emo] at q
  refine zN 5 nd (EvL.d (ua ?_))
  refine EvL.d (ym ?_)
  and_intros
  refine EvL.d (vK ["_law_d","_law_number"] [none,some 1] (.one 0) (yQ (by rfl) nb.range ?_))
  and_intros
  refine⟨⟨by omega,by omega,by omega,by omega⟩,by rw[zp2,zj];omega,?_⟩
  refine wt (fun z=>hD (th n "price" z)) (fun z hz=>⟨_,rfl,fun _ _ _ _ _ k=>?_⟩) ?_
  ·and_intros
   exact k
  rw[zr6]
  refine⟨_,_,rfl,rfl,by rw[zp2,zj];simp;omega,?_⟩
  generalize hR:[th n "come" b,th n "go" e]++(zY b (e-b).toNat).map (th n "price")=R
  have eR:([hD (th n "come" b),hD (th n "go" e)]++(zY b (e-b).toNat).map fun z=>hD (th n "price" z))=R.map hD:=by
   rw[←hR,zx2,zx8];rfl
  have lR:R.length≤20:=by rw[←hR];simp[zj];omega
  have aR:(R.any fun h=>foT D h.1 h.2.1 h.2.2)=(foT D n "come" b||(foT D n "go" e||(zY b (e-b).toNat).any fun z=>foT D n "price" z)):=by
   rw[←hR,List.any_append,zA7,zv0,zv0,List.any_nil,Bool.or_false,Bool.or_assoc];rfl
  show SvS _ (List.set _ 5 (some (.dat (.list ([hD (th n "come" b),hD (th n "go" e)]++(zY b (e-b).toNat).map fun z=>hD (th n "price" z)))))) _ _
  rw[eR]
  refine yw (rM (mK (by rfl) nb.len (EvL.d (vK ["_law_row","_law_force"] [none,some 2] (.one 0) (zT (zb 5 rfl ⟨_,rfl,?_⟩))))))
  refine⟨by rw[zp2];omega,?_⟩
  refine xM (fun h=>foT D h.1 h.2.1 h.2.2) hD (fun h hh=>⟨_,rfl,fun _ _ _ _ _ k=>?_,fun _ _ _ _ _ _ k=>?_⟩) ?_
  ·refine yG ?_
   and_intros
   exact k
  ·and_intros
   exact k
  rw[zr6]
  and_intros
  rw[bK,aR]
  refine zZ (fun h1=>?_) (fun h1=>?_)
  ·and_intros
   refine sm ?_ q
   revert h1
   cases foT D n "come" b<;>cases foT D n "go" e<;>simp
   intro x hx hp _ _
   exact⟨x,hx,hp⟩
  have h1':foT D n "come" b=false∧foT D n "go" e=false∧((zY b (e-b).toNat).any fun z=>foT D n "price" z)=false:=by
   rw[zw3,zw3] at h1
   exact h1
  rw[h1'.1,h1'.2.1,h1'.2.2] at q
  refine zD ?_
  refine wK (fun α=>α=[some (.dat (.list ds)),some (.dat (.int n)),some (.dat (vE D)),some (.dat (.int b)),some (.dat (.int e)),some (.dat (.list (R.map hD)))]∧(foT D n "least" b&&decide (e-b<le))=false) ?_ ?_
  ·and_intros
   refine rf (fun h3=>?_) (fun h3=>?_)
   ·have h3:foT D n "least" b=true:=h3
    and_intros
    refine⟨ds,"least",b,rfl,ro,by simp[words],?_⟩
    rw[hle]
    and_intros
    refine zZ (fun h4=>?_) (fun h4=>?_)
    ·and_intros
     exact sm (by rw[h3,h4];rfl) q
    ·and_intros
     exact⟨rfl,by rw[h3,h4];rfl⟩
   ·have h3:foT D n "least" b=false:=h3
    and_intros
    exact⟨rfl,by rw[h3];rfl⟩
  rintro α ⟨rfl,h3⟩
  rw[h3] at q
  and_intros
  refine rf (fun h4=>?_) (fun h4=>?_)
  ·have h4:(!foT D n "most" b)=true:=h4
   have h4:foT D n "most" b=false:=by simpa using h4
   exact sm (by rw[h4];rfl) q
  ·have h4:(!foT D n "most" b)=false:=h4
   have h4:foT D n "most" b=true:=by simpa using h4
   and_intros
   refine⟨ds,"most",b,rfl,ro,by simp[words],?_⟩
   rw[hmo]
   and_intros
   refine sm ?_ q
   rw[h4]
   by_cases z:e-b≤mo
   ·rw[zt5 z,zs9 (by omega:¬mo<e-b)];rfl
   ·rw[zs9 z,zt5 (by omega:mo<e-b)];rfl
theorem bY :zi ["_law_books","_law_stay_here","_law_some","_law_force","_law_come","_law_go","_law_days","_law_begin_here","_law_number","_law_rules_here","_law_ends"] ["_law_books","_law_stay_here","_law_some"] (zc nP):=⟨rfl,rfl,rfl,by decide +kernel,rfl,by decide +kernel,by decide +kernel⟩
theorem ip {f:Addr}{fd:FuncData}(F:Fun K "_law_held" "_law_held" nP f fd)(hm:mg "_law_held"=some (.ref f))(hb:Binds K fd ["_law_books","_law_stay_here","_law_some"] [])(nb:NbT mg)(hdi:mg "dict"=none)(CH:Cal P w K mg base "_law_hindrances" 2 pq)(CL:Cal P w K mg base "_law_lets" 2 iZ):Cal P w K mg base "_law_held" 3 qZ:=by
 refine xR F hm hb bY (fun as Q h=>?_) (fun cdv A' outer s H E as Q hr h=>?_)
 ·obtain⟨told,c,g,ss,rfl,_⟩:=h
  rfl
 ·obtain⟨told,c,g,ss,rfl,ro,tl,sb,ws,q⟩:=h
  obtain⟨c0,cg,g14,g1⟩:=id sb
  have nd:=bY.nd
  refine zN 3 nd (nj rfl hr.units (by rfl) hdi (EvL.d (vK ["_law_row","_law_some"] [none,some 2] (.one 0) (zT (EvL.d ?_)))))
  and_intros
  refine⟨told,c,g,rfl,ro,tl,c0,cg,g14,g1,?_⟩
  and_intros
  rw[←yL]
  refine⟨?_,?_⟩
  ·have h2:=wy c g told 0
   rw[←yL] at h2
   have h3:told.length*(5*(g-c).toNat)≤4*70:=zB1 tl (by omega)
   omega
  refine xM (fun h=>inH ss h) (fun h=>prD (hK h,.bool true)) (fun h hh=>⟨_,rfl,fun _ _ _ _ _ k=>?_,fun _ _ _ _ _ _ k=>?_⟩) ?_
  ·refine yG (eS hr.units (zb 0 rfl (zb 1 rfl ⟨_,rfl,pH (xB c g told 0 h hh),vt ws,vX h,tG ss,rk h,?_⟩)))
   rw[iK]
   exact k
  ·and_intros
   exact k
  refine⟨(vP told c g ss).map fun h=>(hK h,.bool true),by rw[zx8]<;>rfl,fun D hDD=>?_⟩
  have ef:foT D=yU (vP told c g ss):=by funext n x z;exact lG hDD n x z
  generalize vP told c g ss=hs at ef q
  refine kf (pat:=.many [4,5]) (yI (n:=2) (K:=K) rfl rfl (zS (zr (i:=4) nd rfl (by first|exact Or.inl rfl|exact Or.inr rfl)) (zS (zr (i:=5) nd rfl (by first|exact Or.inl rfl|exact Or.inr rfl)) (yY)))) (zb 1 rfl ⟨_,rfl,?_⟩)
  refine yt 6 nd ?_
  and_intros
  refine vq (.one 7) (jS (by rfl) nb.range ?_)
  and_intros
  refine⟨rfl,⟨by omega,by omega,by omega,by omega⟩,?_⟩
  refine yh (fun i α=>∃(o7 o8 o9 o10:Option A) (ds:List Int),α=[some (.dat (sP told)),some (.dat (.tuple [.int c,.int g])),some (.dat (.list (ss.map hD))),some (.dat (vE D)),some (.dat (.int c)),some (.dat (.int g)),some (.own (ds.map .int)),o7,o8,o9,o10]∧ds.length≤1+i∧∀x,x∈ds↔g-i≤x∧wD (yU hs) told x g) ⟨none,none,none,none,[g],rfl,by simp,fun x=>?_⟩ ?_ ?_
  ·constructor
   ·intro h
    rw[zr5.mp h]
    exact⟨by omega,.nil⟩
   ·rintro⟨h1,h2⟩
    have:=h2.le
    rw[show x=g by omega]
    exact zr5.mpr rfl
  ·rintro i x α hx ⟨o7,o8,o9,o10,ds,rfl,rl,hi0⟩
   rw[zq7,zq3] at hx
   obtain⟨u,hu,rfl⟩:=hx
   have hi:=(zp5.mp hu).1
   rw[yJ] at hi
   rw[ux hi] at hu
   cases hu
   generalize hb0:g-1-(i:Int)=b
   have tc:=jm (fo:=yU hs) (told:=told) (g:=g) (b:=b) hb0.symm hi0
   have hgt:∀e∈ds,b<e∧e≤g:=fun e he=>by
    obtain⟨h1,h2⟩:=(hi0 e).mp he
    have:=h2.le
    omega
   have hnb:¬b∈ds:=fun z=>by have:=hgt b z;omega
   refine⟨_,rfl,?_⟩
   refine vq (.many [8,9]) (uk (by rfl) nb.enumerate (zb 0 rfl ⟨_,rfl,?_⟩))
   refine yh (fun j α=>∃(o8 o9 o10:Option A) (ds':List Int),α=[some (.dat (sP told)),some (.dat (.tuple [.int c,.int g])),some (.dat (.list (ss.map hD))),some (.dat (vE D)),some (.dat (.int c)),some (.dat (.int g)),some (.own (ds'.map .int)),some (.dat (.int b)),o8,o9,o10]∧((ds'=ds∧¬ExJ (yU hs) told ds b j)∨(ds'=ds++[b]∧ExJ (yU hs) told ds b j))) ⟨o8,o9,o10,ds,rfl,.inl ⟨rfl,fun⟨n,_,h,_⟩=>by omega⟩⟩ ?_ ?_
   ·rintro j d α hd ⟨o8,o9,o10,ds',rfl,hj⟩
    obtain⟨e,he,rfl⟩:=xE hd
    rw[zq7,zq3] at he
    obtain⟨dn,hdn,rfl⟩:=he
    rw[Nat.zero_add]
    have hle:ds'.length≤2+i:=by
     rcases hj with ⟨rfl,_⟩|⟨rfl,_⟩
     ·omega
     ·simp;omega
    have hge:∀e∈ds',e≤g:=fun e he=>by
     rcases hj with ⟨rfl,_⟩|⟨rfl,_⟩
     ·exact (hgt e he).2
     ·rcases zs6.mp he with he|he
      ·exact (hgt e he).2
      ·rw[zr5.mp he];omega
    refine⟨_,rfl,?_⟩
    refine iS 6 10 ["_law_end","_law_begin_here","_law_rules_here","_law_number","_law_force"] [none,some 7,some 9,some 8,some 3] (.one 0) rfl (zT (zb 6 rfl ⟨_,rfl,?_⟩))
    refine⟨by rw[zp2];omega,?_⟩
    refine xM (fun e=>decide (b<e)&&xZ (yU hs) (j:Int) dn b e) PyData.int (fun e he=>⟨_,rfl,fun _ _ _ _ _ k=>?_,fun _ _ _ _ _ _ k=>?_⟩) ?_
    ·refine yG ?_
     and_intros
     refine rf (fun h1=>?_) (fun h1=>?_)
     ·have h1':b<e:=zx5 h1
      have h2:=hge e he
      and_intros
      refine⟨(j:Int),dn,b,e,D,rfl,ro dn (zt0 hdn),⟨by omega,by omega,by omega,by omega⟩,?_⟩
      rw[ef]
      and_intros
      rw[h1,zu6] at k
      exact k
     ·rw[h1,zu7] at k
      exact k
    ·and_intros
     exact k
    rw[zr6]
    refine⟨zj0 _,?_⟩
    refine uP 10 rfl ?_
    refine yw (wN 6 rfl ?_)
    and_intros
    refine ink rfl (iR _) ?_
    rw[inI]
    rcases hj with ⟨rfl,hno⟩|⟨rfl,hex⟩
    ·rw[zs9 hnb]
     and_intros
     refine eqk (shaped_ints _).1 rfl (by simpa only[PyData.hasDict] using zj1 _) rfl ?_
     rw[zc4]
     refine zZ (fun h2=>?_) (fun h2=>?_)
     ·have hx:∃e,e∈ds'∧xZ (yU hs) (j:Int) dn b e=true:=by
       cases hf:ds'.filter (fun e=>decide (b<e)&&xZ (yU hs) (j:Int) dn b e) with
       |nil=>rw[hf] at h2;cases h2
       |cons e r=>
        have he:e∈ds'.filter (fun e=>decide (b<e)&&xZ (yU hs) (j:Int) dn b e):=by rw[hf];exact zq1
        obtain⟨h3,h4⟩:=zu1.mp he
        rw[zq8] at h4
        exact⟨e,h3,h4.2⟩
      obtain⟨e,he,hl⟩:=hx
      and_intros
      refine⟨by rw[zp2];omega,?_⟩
      and_intros
      exact⟨_,_,_,ds'++[b],by rw[zx2]<;>rfl,.inr ⟨rfl,j,dn,by omega,hdn,e,he,hl⟩⟩
     ·and_intros
      refine⟨_,_,_,_,rfl,.inl ⟨rfl,?_⟩⟩
      rintro⟨n,dn',hn,h1,e,he,hl⟩
      by_cases hnj:n=j
      ·subst hnj
       rw[hdn] at h1;cases h1
       have hm:e∈ds'.filter (fun e=>decide (b<e)&&xZ (yU hs) (n:Int) dn b e):=zu1.mpr ⟨he,by rw[zq8];exact⟨zt5 (hgt e he).1,hl⟩⟩
       cases hf:ds'.filter (fun e=>decide (b<e)&&xZ (yU hs) (n:Int) dn b e) with
       |nil=>rw[hf] at hm;cases hm
       |cons e' r=>rw[hf] at h2;cases h2
      ·exact hno ⟨n,dn',by omega,h1,e,he,hl⟩
    ·rw[zt5 (zs6.mpr (.inr (zr5.mpr rfl)))]
     and_intros
     exact⟨_,_,_,_,rfl,.inr ⟨rfl,by obtain⟨n,dn',h1,h2⟩:=hex;exact⟨n,dn',by omega,h2⟩⟩⟩
   ·rintro α ⟨o8,o9,o10,ds',rfl,hj⟩
    rw[xy,zp2] at hj
    and_intros
    rcases hj with ⟨rfl,hno⟩|⟨rfl,hex⟩
    ·refine⟨_,_,_,_,_,rfl,by omega,fun x=>?_⟩
     rw[hi0]
     constructor
     ·rintro⟨h3,h4⟩;exact⟨by omega,h4⟩
     ·rintro⟨h3,h4⟩
      by_cases e:x=b
      ·subst e;exact absurd (tc.mp h4) hno
      ·exact⟨by omega,h4⟩
    ·refine⟨_,_,_,_,_,rfl,by simp;omega,fun x=>?_⟩
     rw[zs6,zr5,hi0]
     constructor
     ·rintro (⟨h3,h4⟩|rfl)
      ·exact⟨by omega,h4⟩
      ·exact⟨by omega,tc.mpr hex⟩
     ·rintro⟨h3,h4⟩
      by_cases e:x=b
      ·exact .inr e
      ·exact .inl ⟨by omega,h4⟩
  ·rintro α ⟨o7,o8,o9,o10,ds,rfl,rl,hi0⟩
   rw[zp2,yJ] at hi0
   refine yq (lY 6 rfl ?_)
   and_intros
   refine ink rfl (iR _) ?_
   rw[inI]
   refine⟨rfl,?_⟩
   rw[show decide (c∈ds)=tr (wD (yU hs) told c g) by
    rw[zw1,decide_eq_true_iff,sT,hi0]
    exact⟨fun z=>z.2,fun z=>⟨by omega,z⟩⟩]
   exact q
end
end K63
namespace L2
open PySem PySem.Spec PyProof.Rows
theorem zd6 {X:Cx}{α:Ev}{E:yE}{rest:List Stmt}{pos p p':Pos}(i y:Nat){x n:Str}{ds:List PyData}(hN:X.N.Nodup)(hy:α[y]?=some (some (.own ds)))(hne:y≠i)(h:SvS X ((α.set y none).set i (some (.own ds))) rest E)(hn:X.N[y]?=some n:=by rfl)(hv:Vis X.env.scope n:=by first|exact Or.inl rfl|exact Or.inr (Or.inl rfl)|exact Or.inr (Or.inr rfl))
  (hdb:(n == ("__debug__":Str))=false:=by decide) (hcd:(n == ("__classdict__":Str))=false:=by decide) (hi:X.N[i]?=some x:=by rfl) (hx:Loc X.env.scope x:=by first|exact Or.inl rfl|exact Or.inr rfl)
  (hs:swapsWith (.Name n p) (some (.Name x p')) pos.line X.env=pure false:=by rfl) (hf:X.fn x=true∨X.env.scope.names.lookup x=some .local:=by first|exact .inl rfl|exact .inr rfl|assumption):SvS X α (.Assign [.Name x p'] (.Name n p) pos::rest) E:=fun F σ H D m r=>by
 refine⟨_,zE (sZ hN hi hx (wC hn hv hdb hcd) hs hf) zP,?_⟩
 obtain⟨l,xs,h1,_⟩:=m.own y ds hy
 refine⟨.ref l,h1,h F _ H D ?_ r⟩
 have hl:=m.len
 have key:∀{k:Nat} {a:A},((α.set y none).set i (some (.own ds)))[k]?=some (some a)→k<α.length∧((k=i∧a=.own ds)∨(k≠i∧k≠y∧α[k]?=some (some a))):=fun {k a} e=>by
  have hk:=(zp5.mp e).1
  rw[zr2,zr2] at hk
  rcases zG e with ⟨rfl,z⟩|⟨z1,z2⟩
  ·cases z;exact⟨hk,.inl ⟨rfl,rfl⟩⟩
  ·rcases zG z2 with ⟨_,z⟩|⟨z3,z4⟩
   ·cases z
   ·exact⟨hk,.inr ⟨fun w=>z1 w.symm,fun w=>z3 w.symm,z4⟩⟩
 refine m.reidx (fun k=>if k=i then y else k) (by rw[zr2,zr2,zr2];exact hl) (fun k a s e1 e2=>?_) fun k k' a a' e e' z=>?_
 ·obtain⟨hk,⟨rfl,rfl⟩|⟨hne,hny,e⟩⟩:=key e1
  ·rw[if_pos rfl]
   rw[zt9 (by omega)] at e2
   cases e2
   exact⟨hy,h1⟩
  ·rw[if_neg hne]
   rw[zt4 (fun w=>hne w.symm)] at e2
   exact⟨e,e2⟩
 ·rcases (key e).2 with ⟨z1,_⟩|⟨z1,y1,_⟩
  ·rcases (key e').2 with ⟨z2,_⟩|⟨z2,y2,_⟩
   ·omega
   ·rw[if_pos z1,if_neg z2] at z;exact absurd z.symm y2
  ·rcases (key e').2 with ⟨z2,_⟩|⟨z2,y2,_⟩
   ·rw[if_neg z1,if_pos z2] at z;exact absurd z y1
   ·rw[if_neg z1,if_neg z2] at z;exact z
end L2
namespace K63
open PySem PySem.Spec PyProof.Rows L2
abbrev gR :Stmt:=top 25
noncomputable def yO (told:List (List PyData))(c g:Int)(hs:List H3):Bool:=!tr (wD (yU hs) told c g)
def wo (h:H3)(hs:List H3):List H3:=hs.filter fun x=>!decide (x=h)
noncomputable def tw (held:List H3→Bool)(left:List H3):List H3→List H3
 |[]=>left
 |h::r=>tw held (if held (wo h left) then wo h left else left) r
noncomputable def uo (told:List (List PyData))(c g:Int):List H3:=tw (yO told c g) (zv 0 told c g) (zv 0 told c g)
theorem uI (held:List H3→Bool)(h:H3):∀(r:List H3) (left:List H3),tw held left (r++[h])=(if held (wo h (tw held left r)) then wo h (tw held left r) else tw held left r)
 |[],left=>rfl
 |x::r,left=>by
  show tw held _ (r++[h])=_
  rw[uI held h r]
  rfl
theorem wD.mono {fo fo':Fo}{told:List (List PyData)}{c g:Int}(h:∀n x z,fo n x z=true→fo' n x z=true)(t:wD fo' told c g):wD fo told c g:=by
 have lt:∀n ds b e,xZ fo' n ds b e=true→xZ fo n ds b e=true:=by
  intro n ds b e q
  have im:∀n x z,fo' n x z=false→fo n x z=false:=fun n x z e=>by
   cases w:fo n x z with
   |false=>rfl
   |true=>rw[h n x z w] at e;cases e
  unfold xZ at q ⊢
  simp only[zq8,Bool.not_eq_true',zw3,Bool.and_eq_false_iff,List.any_eq_false] at q ⊢
  obtain⟨⟨q1,q2⟩,q3,q4,q5⟩:=q
  refine⟨⟨im _ _ _ q1,im _ _ _ q2⟩,q3.imp (im _ _ _) id,q4.imp (im _ _ _) id,fun z hz=>?_⟩
  have:=q5 z hz
  rw[Bool.not_eq_true] at this ⊢
  exact im _ _ _ this
 induction t with
 |nil=>exact .nil
 |snoc _ e ih=>
  obtain⟨e1,n,ds,e2,e3⟩:=e
  exact .snoc ih ⟨e1,n,ds,e2,lt _ _ _ _ e3⟩
theorem rJ {told:List (List PyData)}{c g:Int}{hs hs':List H3}(h:∀x∈hs,x∈hs')(e:yO told c g hs=true):yO told c g hs'=true:=by
 unfold yO at e ⊢
 rw[Bool.not_eq_true'] at e ⊢
 refine zl3 fun t=>?_
 rw[zb9 (wD.mono (fun n x z q=>uC.mpr (h _ (uC.mp q))) t)] at e
 cases e
theorem sL {h x:H3}{hs:List H3}:x∈wo h hs↔x∈hs∧x≠h:=by
 unfold wo
 rw[zu1]
 simp
structure rQ (hf:List H3→Bool)(all left:List H3)(i:Nat):Prop where
 sub:∃p:H3→Bool,left=all.filter p
 held:hf left=true
 need:∀h∈all.take i,h∈left→hf (wo h left)=false
theorem gQ {held:List H3→Bool}(mono:∀{a b:List H3},(∀x∈a,x∈b)→held a=true→held b=true){all left:List H3}{i:Nat}{h:H3}(hi:all[i]?=some h)(w:rQ held all left i):rQ held all (if held (wo h left) then wo h left else left) (i+1):=by
 obtain⟨⟨p,hp⟩,w2,w3⟩:=w
 have nf:∀{a b:List H3},(∀x∈a,x∈b)→held b=false→held a=false:=fun {a b} s e=>by
  cases q:held a with
  |false=>rfl
  |true=>rw[mono s q] at e;cases e
 by_cases c:held (wo h left)=true
 ·rw[if_pos c]
  refine⟨⟨fun x=>p x&&!decide (x=h),?_⟩,c,fun x hx hm=>?_⟩
  ·rw[hp];unfold wo;rw[List.filter_filter]
   congr 1;funext x;rw[Bool.and_comm]
  ·rw[zx6,hi] at hx
   obtain⟨m1,m2⟩:=sL.mp hm
   rcases zs6.mp hx with hx|hx
   ·exact nf (fun y hy=>by
     obtain⟨y1,y2⟩:=sL.mp hy
     exact sL.mpr ⟨(sL.mp y1).1,y2⟩) (w3 x hx m1)
   ·have:x=h:=by simpa using hx
    exact absurd this m2
 ·rw[if_neg c]
  refine⟨⟨p,hp⟩,w2,fun x hx hm=>?_⟩
  rw[zx6,hi] at hx
  rcases zs6.mp hx with hx|hx
  ·exact w3 x hx hm
  ·have:x=h:=by simpa using hx
   rw[this]
   cases q:held (wo h left) with
   |false=>rfl
   |true=>exact absurd q c
theorem pw {held:List H3→Bool}(mono:∀{a b:List H3},(∀x∈a,x∈b)→held a=true→held b=true)(all:List H3)(h0:held all=true):∀i,i≤all.length→rQ held all (tw held all (all.take i)) i
 |0,_=>⟨⟨fun _=>true,by rw[List.take_zero];show all=_;rw[zB0.mpr fun _ _=>rfl]⟩,h0,fun h hm=>by simp at hm⟩
 |i+1,hi=>by
  have ih:=pw mono all h0 i (by omega)
  have e:all[i]?=some all[i]:=zt1 (by omega)
  have:=gQ mono e ih
  rw[zx6,e]
  show rQ held all (tw held all (all.take i++[all[i]])) (i+1)
  rw[uI]
  exact this
theorem fm {told:List (List PyData)}{c g:Int}(h0:yO told c g (zv 0 told c g)=true):rQ (yO told c g) (zv 0 told c g) (uo told c g) (zv 0 told c g).length:=by
 have:=pw (held:=yO told c g) (fun {a b}=>rJ) (zv 0 told c g) h0 _ (zp8 _)
 rw[zu9] at this
 exact this
def aH (C:Addr)(cs:Cs):List A→(A→Prop)→Prop:=fun as Q=>∃(told:List (List PyData)) (c g:Int),as=[.dat (tj C cs told),.dat (.tuple [.int c,.int g])]∧(∀ds∈told,Rules ds)∧told.length≤4∧SB c g∧yO told c g (zv 0 told c g)=true∧Q (.own ((uo told c g).map hD))
def fN (C:Addr)(cs:Cs)(CH:Addr):List A→(A→Prop)→(PyData→Prop)→Prop:=fun as _ q=>∃(told:List (List PyData)) (c g:Int),as=[.dat (tj C cs told),.dat (.tuple [.int c,.int g])]∧(∀ds∈told,Rules ds)∧told.length≤4∧SB c g∧yO told c g (zv 0 told c g)=false∧q (xD0 CH)
theorem qF :∀(hs:List H3),vM (hs.map hD)=true
 |[]=>rfl
 |h::r=>by
  show (noL (hD h)&&vM (r.map hD))=true
  rw[qF r];rfl
theorem uq {told:List (List PyData)}{c g:Int}(tl:told.length≤4)(h:g≤c+14):(zv 0 told c g).length≤300:=by
 have h2:=wy c g told 0
 rw[←yL,zp2] at h2
 have h3:told.length*(5*(g-c).toNat)≤4*70:=zB1 tl (by omega)
 omega
theorem ue {h:H3}(w:h.2.1∈words):SeqAt.shaped (hD h)=true:=by
 have h1:=pH w
 have h2:=rk h
 unfold SeqAt.shaped
 rw[h1,zt5 (by omega:(hD h).depth≤64)];rfl
section
variable {P:Program}{w:World}{K:PySem.W.Frag}{mg:Str→Option Value}{base:Heap}{cs:Cs}
theorem zl5 :zi ["books","stay","left","hindrance","fewer"] ["books","stay"] (zc gR):=⟨rfl,rfl,rfl,by decide +kernel,rfl,by decide +kernel,by decide +kernel⟩
theorem cS {f C:Addr}{fd:FuncData}(F:Fun K "why" "why" gR f fd)(hm:mg "why"=some (.ref f))(hb:Binds K fd ["books","stay"] [])(nb:NbT mg)(CH:Cal P w K mg base "hindrances" 4 (mG C cs))(CL:Cal P w K mg base "is_held_off" 5 (uK C cs)):Cal P w K mg base "why" 6 (aH C cs):=by
 refine xR F hm hb zl5 (fun as Q h=>?_) (fun cdv A' outer s H E as Q hr h=>?_)
 ·obtain⟨told,c,g,rfl,_⟩:=h
  rfl
 ·obtain⟨told,c,g,rfl,ro,tl,sb,hh,q⟩:=h
  obtain⟨c0,cg,g14,g1⟩:=id sb
  have nd:=zl5.nd
  have hlen:=uq (told:=told) tl g14
  refine yt 2 nd ?_
  and_intros
  refine⟨told,c,g,rfl,ro,tl,c0,cg,g14,g1,_,rfl,?_⟩
  rw[←yL]
  refine yw (wN 2 rfl ?_)
  and_intros
  refine⟨told,c,g,zv 0 told c g,rfl,ro,tl,sb,hlen,?_⟩
  rw[show (!tr (wD (yU (zv 0 told c g)) told c g))=true from hh]
  refine⟨_,rfl,?_⟩
  refine uj rfl (zD ?_)
  refine vq (.one 3) (zT (EvL.d (ky 2 rfl (tP (by rfl) nb.list (zb 2 rfl ⟨_,rfl,qF _,_,rfl,?_⟩)))))
  have wk:∀i,i≤(zv 0 told c g).length→rQ (yO told c g) (zv 0 told c g) (tw (yO told c g) (zv 0 told c g) ((zv 0 told c g).take i)) i:=pw (fun {a b}=>rJ) _ hh
  refine yh (fun i α=>∃(o3 o4:Option A),α=[some (.dat (tj C cs told)),some (.dat (.tuple [.int c,.int g])),some (.own ((tw (yO told c g) (zv 0 told c g) ((zv 0 told c g).take i)).map hD)),o3,o4]) ⟨none,none,rfl⟩ ?_ ?_
  ·rintro i x α hx ⟨o3,o4,rfl⟩
   rw[zq7,zq3] at hx
   obtain⟨h,hu,rfl⟩:=hx
   have hi:=(zp5.mp hu).1
   have w:=wk i (by omega)
   have sn:=uI (yO told c g) h ((zv 0 told c g).take i) (zv 0 told c g)
   rw[←take_snoc hu] at sn
   rw[sn]
   generalize tw (yO told c g) (zv 0 told c g) ((zv 0 told c g).take i)=left at w
   obtain⟨⟨p,hp⟩,_,_⟩:=w
   have wl:Wd left:=fun y hy=>by rw[hp] at hy;exact xB c g told 0 y (zu1.mp hy).1
   have ll:left.length≤300:=by rw[hp];exact zt6 (zx3 _ _) hlen
   have wh:=xB c g told 0 h (zt0 hu)
   refine⟨_,rfl,?_⟩
   refine iS 2 4 ["other","hindrance"] [none,some 3] (.one 0) rfl (zT (zb 2 rfl ⟨_,rfl,?_⟩))
   refine⟨by rw[zp2];omega,?_⟩
   refine xM (fun y=>!decide (y=h)) hD (fun y hy=>⟨_,rfl,fun _ _ _ _ _ k=>?_,fun _ _ _ _ _ _ k=>?_⟩) ?_
   ·refine yG ?_
    and_intros
    refine eqk (ue (wl y hy)) (ue wh) (vX y) (vX h) ?_
    rw[ly]
    exact k
   ·and_intros
    exact k
   rw[zr6]
   refine⟨qF _,?_⟩
   show SvS _ (List.set _ 4 (some (.own ((wo h left).map hD)))) _ _
   have lw:(wo h left).length≤300:=zt6 (zx3 _ _) ll
   refine yw (wN 4 rfl ?_)
   and_intros
   refine⟨told,c,g,wo h left,rfl,ro,tl,sb,lw,?_⟩
   refine⟨_,rfl,?_⟩
   show SvS _ _ (if yO told c g (wo h left)=true then _ else _) _
   refine zZ (fun h2=>?_) (fun h2=>?_)
   ·rw[if_pos h2]
    refine zd6 2 4 nd rfl (by decide) (zD (zD ?_))
    exact⟨_,_,rfl⟩
   ·rw[if_neg (by rw[h2];decide)]
    and_intros
    exact⟨_,_,rfl⟩
  ·rintro α ⟨o3,o4,rfl⟩
   rw[zp2,zu9]
   exact wG 2 rfl q
theorem bX :zi ((["books","stay","left","hindrance","fewer"]:List Str)++[("":Str)]) ["books","stay"] (zc gR):=⟨rfl,rfl,rfl,by decide +kernel,rfl,by decide +kernel,by decide +kernel⟩
theorem fV {f C CT:Addr}{fd:FuncData}(F:Fun K "why" "why" gR f fd)(hm:mg "why"=some (.ref f))(hb:Binds K fd ["books","stay"] [])(nb:NbT mg)(CH:Cal P w K mg base "hindrances" 4 (mG C cs))(CL:Cal P w K mg base "is_held_off" 5 (uK C cs))(XT:zc9 K mg "Had" CT):cR P w K mg base "why" 6 (fN C cs CT):=by
 refine zn2 F hm hb bX (by decide) (fun as Q q h=>?_) (fun cdv A' outer s H E as Q q r xe hr h xo=>?_)
 ·obtain⟨told,c,g,rfl,_⟩:=h
  rfl
 ·obtain⟨told,c,g,rfl,ro,tl,sb,hh,qz⟩:=h
  obtain⟨c0,cg,g14,g1⟩:=id sb
  have nd:=bX.nd
  have hlen:=uq (told:=told) tl g14
  refine yt 2 nd (xJ CH (hr.mono (by decide)) (by rfl) (za (zb 0 rfl (za (zb 1 rfl (ze ⟨told,c,g,rfl,ro,tl,c0,cg,g14,g1,_,rfl,?_⟩))))))
  rw[←yL]
  refine yw (wN 2 rfl (xt (xr (zq CL (hr.mono (by decide)) (by rfl) (za (zb 0 rfl (za (zb 1 rfl (za (zb 2 rfl (ze ⟨told,c,g,zv 0 told c g,rfl,ro,tl,sb,hlen,?_⟩)))))))))))
  rw[show (!tr (wD (yU (zv 0 told c g)) told c g))=false from hh]
  refine⟨_,rfl,?_⟩
  refine qL rfl ?_
  exact jl (j:=5) xo rfl XT (by rfl) rfl (leX.nil rfl) (zz qz)
end
theorem iq (h:H3):(hD h).depth≤1:=by
 show PyData.depth (.tuple [.int h.1,.str h.2.1,.int h.2.2])≤1
 simp[PyData.depth,PyData.depthAll]
theorem pV :∀(hs:List H3),PyData.depthAll (hs.map hD)≤1
 |[]=>zr9 _
 |h::r=>Nat.max_le.mpr ⟨iq h,pV r⟩
theorem vA {hs:List H3}(w:Wd hs):SeqAt.shaped (.list (hs.map hD))=true:=by
 have h1:PyData.canLay0 (.list (hs.map hD))=true:=by simpa only[PyData.canLay0] using vt w
 have h2:PyData.depth (.list (hs.map hD))≤64:=by
  have:=pV hs
  simp only[PyData.depth]
  omega
 unfold SeqAt.shaped
 rw[h1,zt5 h2];rfl
theorem sv (hs:List H3):(PyData.list (hs.map hD)).hasDict=false:=by simpa only[PyData.hasDict] using tG hs
abbrev mY :Stmt:=top 62
abbrev qQ :Stmt:=top 63
def Kit (K:PySem.W.Frag)(mg:Str→Option Value)(C:Addr)(x:Str)(b:Bool):Prop:=∃B,mg x=some (.ref B)∧PySem.W.kitOne K (.ref C) (.ref B)=some b
structure XH (K:PySem.W.Frag)(mg:Str→Option Value)(CH S:Addr):Prop where
 mS:mg "StayError"=some (.ref S)
 b:XB K CH S
 xc:∃init,XC K CH S init
 k1:Kit K mg CH "Barred" false
 k2:Kit K mg CH "NoName" false
 k3:Kit K mg CH "NotSold" false
 k4:Kit K mg CH "Off" false
 k5:Kit K mg CH "Had" true
 k6:Kit K mg CH "TooMany" false
 mV:mg "ValueError"=none
 v:PySem.W.kitOne K (.ref CH) (.type "ValueError")=some true
def kH (C:Addr)(cs:Cs):List A→(A→Prop)→Prop:=fun as Q=>∃(told:List (List PyData)) (c g:Int),as=[.dat (tj C cs told),.dat (.tuple [.int c,.int g])]∧(∀ds∈told,Rules ds)∧told.length≤4∧SB c g∧((yO told c g (zv 0 told c g)=true∧Q (.own ((uo told c g).map hD)))∨(yO told c g (zv 0 told c g)=false∧Q (.dat (.str "had"))))
section
variable {P:Program}{w:World}{K:PySem.W.Frag}{mg:Str→Option Value}{base:Heap}{cs:Cs}
theorem zi5 :zi ((["_law_books","_law_stay_here","_law_found","e","_law_kinds"]:List Str)++[("":Str)]) ["_law_books","_law_stay_here"] (zc mY):=⟨rfl,rfl,rfl,by decide +kernel,rfl,by decide +kernel,by decide +kernel⟩
theorem jQ {f C CH S:Addr}{fd:FuncData}(F:Fun K "_law_told" "_law_told" mY f fd)(hm:mg "_law_told"=some (.ref f))(hb:Binds K fd ["_law_books","_law_stay_here"] [])(nb:NbT mg)(xf:XH K mg CH S)(CW:Cal P w K mg base "why" 6 (aH C cs))(CX:cR P w K mg base "why" 6 (fN C cs CH)):Cal P w K mg base "_law_told" 7 (kH C cs):=by
 refine xR F hm hb zi5 (fun as Q h=>?_) (fun cdv A' outer s H E as Q hr h=>?_)
 ·obtain⟨told,c,g,rfl,_⟩:=h
  rfl
 ·obtain⟨told,c,g,rfl,ro,tl,sb,hq⟩:=h
  have nd:=zi5.nd
  obtain⟨init,xc⟩:=xf.xc
  have lx:leX [some (.dat (tj C cs told)),some (.dat (.tuple [.int c,.int g])),none,none,none,none] [some (.dat (tj C cs told)),some (.dat (.tuple [.int c,.int g])),none,none,none,none]:=leX.cons (.inr ⟨rfl,fun a e=>by cases e;trivial⟩) (leX.cons (.inr ⟨rfl,fun a e=>by cases e;trivial⟩) (leX.cons (.inl rfl) (leX.cons (.inl rfl) (leX.cons (.inl rfl) (leX.cons (.inl rfl) leX.nil')))))
  rcases hq with ⟨hh,q⟩|⟨hh,q⟩
  ·refine nE 3 5 [some (.dat (tj C cs told)),some (.dat (.tuple [.int c,.int g])),none,none,none,none] (fun _=>False) rfl rfl nd rfl lx (by rfl) xf.mS (fun _ z=>z.elim) (fun pins xe r xo=>?_) (fun pins a d S z=>z.elim)
   refine yt 2 nd (xJ CW (hr.mono (by decide)) (by rfl) (za (zb 0 rfl (za (zb 1 rfl (ze ⟨told,c,g,rfl,ro,tl,sb,hh,_,rfl,zD ?_⟩))))))
   exact wG 2 rfl q
  ·refine nE 3 5 [some (.dat (tj C cs told)),some (.dat (.tuple [.int c,.int g])),none,none,none,none] (fun d=>d=xD0 CH) rfl rfl nd rfl lx (by rfl) xf.mS (fun d e=>⟨CH,.inr e,xf.b⟩) (fun pins xe r xo=>?_) (fun pins a d S e=>?_)
   ·exact yt 2 nd (bN (j:=5) xo rfl (leX.cons (.inr ⟨rfl,fun a e=>by cases e;trivial⟩) (leX.cons (.inr ⟨rfl,fun a e=>by cases e;trivial⟩) (leX.cons (.inl rfl) (leX.cons (.inl rfl) (leX.cons (.inl rfl) (leX.cons (.inl rfl) leX.nil')))))) CX (hr.mono (by decide)) (by rfl) (za (zb 0 rfl (za (zb 1 rfl (ze ⟨told,c,g,rfl,ro,tl,sb,hh,rfl⟩))))))
   ·subst e
    have ix:isX CH (xD0 CH):=.inr rfl
    obtain⟨B1,m1,e1⟩:=xf.k1
    obtain⟨B2,m2,e2⟩:=xf.k2
    obtain⟨B3,m3,e3⟩:=xf.k3
    obtain⟨B4,m4,e4⟩:=xf.k4
    obtain⟨B5,m5,e5⟩:=xf.k5
    obtain⟨B6,m6,e6⟩:=xf.k6
    refine cm 3 rfl ?_
    refine zN 4 nd (EvL.d (ym (za (vC (by rfl) nb.isinstance (by rfl) m1 (zb 3 rfl ⟨CH,_,init,false,ix,xc,e1,?_⟩)))))
    refine za (vC (by rfl) nb.isinstance (by rfl) m2 (zb 3 rfl ⟨CH,_,init,false,ix,xc,e2,?_⟩))
    refine za (vC (by rfl) nb.isinstance (by rfl) m3 (zb 3 rfl ⟨CH,_,init,false,ix,xc,e3,?_⟩))
    refine za (vC (by rfl) nb.isinstance (by rfl) m4 (zb 3 rfl ⟨CH,_,init,false,ix,xc,e4,?_⟩))
    refine ze ⟨_,rfl,zp4 rfl,?_⟩
    refine yw (EvW.t (lM (xt (xr (vC (by rfl) nb.isinstance (by rfl) m5 (zb 3 rfl ⟨CH,_,init,true,ix,xc,e5,⟨_,rfl,?_⟩⟩))))))
    refine eV rfl (lM (xt (xr (gI (by rfl) nb.isinstance (by rfl) xf.mV PyProof.Rows.Boot.«ValueError» (zb 3 rfl ⟨CH,_,init,true,ix,xc,xf.v,⟨_,rfl,?_⟩⟩)))))
    refine eV rfl (lM ?_)
    and_intros
    refine vC (by rfl) nb.isinstance (by rfl) m6 (zb 3 rfl ⟨CH,_,init,false,ix,xc,e6,?_⟩)
    and_intros
    exact q
theorem gu {told:List (List PyData)}{c g:Int}{ss:List H3}(h:∀x∈ss,x∈zv 0 told c g):yU (vP told c g ss)=yU ss:=by
 funext n x z
 rw[zw1,uC,uC]
 unfold vP
 rw[zu1,kN]
 exact⟨fun y=>y.2,fun y=>⟨h _ y,y⟩⟩
theorem uf {told:List (List PyData)}{c g:Int}{ss:List H3}(h:∀x∈ss,x∈zv 0 told c g):(!tr (wD (yU (vP told c g ss)) told c g))=yO told c g ss:=by
 rw[gu h];rfl
def oa :List A→(A→Prop)→Prop:=fun as Q=>∃(told:List (List PyData)) (c g:Int),as=[.dat (sP told),.dat (.tuple [.int c,.int g]),.dat (.list ((zv 0 told c g).map hD)),.dat (.list ((uo told c g).map hD))]∧(∀ds∈told,∀d∈ds,yA d=true)∧told.length≤4∧SB c g∧yO told c g (zv 0 told c g)=true∧Q (.dat (.bool true))
theorem zj4 :zi ["_law_told_here","_law_stay_here","_law_rows","_law_found","_law_row","_law_fewer"] ["_law_told_here","_law_stay_here","_law_rows","_law_found"] (zc qQ):=⟨rfl,rfl,rfl,by decide +kernel,rfl,by decide +kernel,by decide +kernel⟩
theorem lr {f:Addr}{fd:FuncData}(F:Fun K "_law_right" "_law_right" qQ f fd)(hm:mg "_law_right"=some (.ref f))(hb:Binds K fd ["_law_told_here","_law_stay_here","_law_rows","_law_found"] [])(nb:NbT mg)(CHe:Cal P w K mg base "_law_held" 3 qZ):Cal P w K mg base "_law_right" 4 oa:=by
 refine xR F hm hb zj4 (fun as Q h=>?_) (fun cdv A' outer s H E as Q hr h=>?_)
 ·obtain⟨told,c,g,rfl,_⟩:=h
  rfl
 ·obtain⟨told,c,g,rfl,ro,tl,sb,hh,q⟩:=h
  obtain⟨c0,cg,g14,g1⟩:=id sb
  have nd:=zj4.nd
  have hlen:=uq (told:=told) tl g14
  obtain⟨⟨p,hp⟩,hw,need⟩:=fm hh
  rw[zu9] at need
  have wall:=xB c g told 0
  generalize hW:uo told c g=W at hp hw need
  have sub:∀x∈W,x∈zv 0 told c g:=fun x hx=>by rw[hp] at hx;exact (zu1.mp hx).1
  have wW:Wd W:=fun x hx=>wall x (sub x hx)
  have lW:W.length≤300:=by rw[hp];exact zt6 (zx3 _ _) hlen
  have eW:(zv 0 told c g).filter (fun h=>inH W h)=W:=by
   conv=>rhs;rw[hp]
   refine List.filter_congr fun x hx=>?_
   rw[zw1,kN,hp,zu1]
   exact⟨fun y=>y.2,fun y=>⟨hx,y⟩⟩
  refine wK (fun α=>α=[some (.dat (sP told)),some (.dat (.tuple [.int c,.int g])),some (.dat (.list ((zv 0 told c g).map hD))),some (.dat (.list (W.map hD))),none,none]) ?_ ?_
  ·and_intros
   refine⟨true,sv W,rfl,true,rfl,?_⟩
   and_intros
   refine EvL.d (vK ["_law_row","_law_found"] [none,some 3] (.one 0) (zT (zb 2 rfl ⟨_,rfl,?_⟩)))
   refine⟨by rw[zp2];omega,?_⟩
   refine xM (fun h=>inH W h) hD (fun h hh=>⟨_,rfl,fun _ _ _ _ _ k=>?_,fun _ _ _ _ _ _ k=>?_⟩) ?_
   ·refine yG (eS hr.units (zb 0 rfl (zb 1 rfl ⟨_,rfl,pH (wall h hh),vt wW,vX h,tG W,rk h,?_⟩)))
    rw[iK]
    exact k
   ·and_intros
    exact k
   rw[zr6,eW]
   refine eqk (vA wW) (vA wW) (sv W) (sv W) ?_
   rw[SeqAt.eqv_refl _ (by simpa only[PyData.canLay0] using vt wW)]
   and_intros
   rfl
  rintro α rfl
  refine yw (xt (xr (zq CHe (hr.mono (by decide)) (by rfl) (za (zb 0 rfl (za (zb 1 rfl (za (zb 3 rfl (ze ⟨told,c,g,W,rfl,ro,tl,sb,wW,?_⟩))))))))))
  rw[uf sub,hw]
  refine⟨_,rfl,?_⟩
  refine uj rfl (zD ?_)
  refine vq (.one 4) (zT (zb 3 rfl ⟨_,rfl,?_⟩))
  refine yh (fun i α=>∃(o4 o5:Option A),α=[some (.dat (sP told)),some (.dat (.tuple [.int c,.int g])),some (.dat (.list ((zv 0 told c g).map hD))),some (.dat (.list (W.map hD))),o4,o5]) ⟨none,none,rfl⟩ ?_ ?_
  ·rintro i x α hx ⟨o4,o5,rfl⟩
   rw[zq7,zq3] at hx
   obtain⟨h,hu,rfl⟩:=hx
   have hm:=zt0 hu
   have nh:=need h (sub h hm) hm
   refine⟨_,rfl,?_⟩
   refine mL 5 ["_law_other","_law_row"] [none,some 4] (.one 0) (zT (zb 3 rfl ⟨_,rfl,?_⟩))
   refine⟨by rw[zp2];omega,?_⟩
   refine xM (fun y=>!decide (y=h)) hD (fun y hy=>⟨_,rfl,fun _ _ _ _ _ k=>?_,fun _ _ _ _ _ _ k=>?_⟩) ?_
   ·refine yG ?_
    and_intros
    refine eqk (ue (wW y hy)) (ue (wW h hm)) (vX y) (vX h) ?_
    rw[ly]
    exact k
   ·and_intros
    exact k
   rw[zr6]
   show SvS _ (List.set _ 5 (some (.own ((wo h W).map hD)))) _ _
   refine uP 5 rfl ?_
   have sw:∀x∈wo h W,x∈zv 0 told c g:=fun x hx=>sub x (sL.mp hx).1
   have ww:Wd (wo h W):=fun x hx=>wall x (sw x hx)
   and_intros
   refine⟨told,c,g,wo h W,rfl,ro,tl,sb,ww,?_⟩
   rw[uf sw,nh]
   and_intros
   exact⟨_,_,rfl⟩
  ·rintro α ⟨o4,o5,rfl⟩
   and_intros
   exact q
end
abbrev qH :Stmt:=top 64
def Told (told:List (List PyData)):Prop:=∀ds∈told,xu ds∧ds.length≤7
section
variable {P:Program}{w:World}{K:PySem.W.Frag}{mg:Str→Option Value}{base:Heap}{cs:Cs}
abbrev nLa :List Str:=["_law_script","_law_cell","_law_row","_law_day_here","_law_told_here","_law_stay_here","_law_books","_law_rows","_law_found","_law_kept"]
theorem cY :zi nLa ["_law_script"] (zc qH):=⟨rfl,rfl,rfl,by decide +kernel,rfl,by decide +kernel,by decide +kernel⟩
theorem ie {X:Cx}{α α0:Ev}{E:yE}{sts:List Stmt}(hl:α0.length=α.length)(le:∀(i:Nat) a,α0[i]?=some (some a)→α[i]?=some (some a))(h:SvS X α0 sts E):SvS X α sts E:=fun F σ H D m r=>h F σ H D (m.forget hl le) r
theorem dP {α:Ev}{n:Nat}{a:A}(hl:α.length=n+2):∀(i:Nat) b,((none:Option A)::some a::List.replicate n none)[i]?=some (some b)→(α.set 1 (some a))[i]?=some (some b):=by
 intro i b h
 rcases i with _|_|i
 ·cases h
 ·rw[zt9 (by omega)];exact h
 ·simp only[zz4,zu4] at h
  split at h<;>cases h
set_option maxHeartbeats 8000000 in
theorem ze5 {f C:Addr}{fd:FuncData}(F:Fun K "law" "law" qH f fd)(nb:NbT mg)(CB:Cal P w K mg base "_law_begin" 1 lN)(CD:Cal P w K mg base "_law_take" 1 wb)(CY:Cal P w K mg base "_law_day" 2 fu)(CR:Cal P w K mg base "_law_rules" 5 oS)(CS:Cal P w K mg base "_law_stay" 2 lQ)
  (CL:Cal P w K mg base "_law_hindrances" 2 pq) (CHe:Cal P w K mg base "_law_held" 3 qZ) (CTo:Cal P w K mg base "_law_told" 7 (kH C cs)) (CRi:Cal P w K mg base "_law_right" 4 oa) (CK:dR P w K mg base "Book" 9 [] (pT C cs)):zA P w K mg base CX0 11 f fd ["_law_script"] (nc K):=by
 refine zo0 (k:=10) (j:=1) F cY rfl (Or.inl rfl) rfl (Or.inl rfl) (fun cdv A' outer s H E zs hr lz=>?_)
 have nd:=cY.nd
 refine yh (fun i α=>α.length=10) (by simp) ?_ ?_
 ·intro i d α hd hl
  rw[zq7,zq3] at hd
  obtain⟨z,hz,rfl⟩:=hd
  refine⟨_,rfl,?_⟩
  refine ie (α0:=none::some (.dat (.int z))::List.replicate 8 none) (by rw[zr2,hl];rfl) (dP hl) ?_
  refine yt 2 cY.nd (xJ CB (hr.mono (by decide)) (by rfl) (za (zb 1 rfl (ze ⟨z,rfl,fun x y y0 y1=>⟨_,rfl,?_⟩⟩))))
  refine zc8 2 rfl y0 y1 ?_
  refine zN 3 cY.nd (zq CY (hr.mono (by decide)) (by rfl) (zt 2 rfl (ze ⟨rfl,fun dy d0 d1=>?_⟩)))
  refine mL 4 ["_law_k","_law_row","_law_day_here"] [none,some 2,some 3] (.one 0) (qm (by rfl) nb.range (yx (zk (zq CD (hr.mono (by decide)) (by rfl) (zt 2 rfl (za (zk (ze ⟨_,rfl,by decide,by decide,fun v h g=>⟨_,_,rfl,rfl,⟨_,rfl,by omega,by omega,⟨by rw[zp2,zj];omega,?_⟩⟩⟩⟩))))))))
  refine rP (fun i acc=>∃told:List (List PyData),acc=told.map .list∧told.length=i∧Told told) ⟨[],rfl,rfl,fun ds hd=>by simp at hd⟩ ?_ ?_
  ·rintro i d acc hd ⟨told,rfl,rfl,ht⟩
   refine⟨_,rfl,fun C s2 H2 fp=>pU ?_⟩
   rw[if_pos rfl]
   intro C s2 H2 fp
   refine EvL.d (xJ CR (hr.mono (by decide)) (by rfl) (zt 1 rfl (za (zb 2 rfl (za (zk (ze ⟨dy,6,rfl,d0,d1,by decide,by decide,fun ds ro ld=>⟨_,rfl,⟨told++[ds],by simp,by simp,fun e he=>?_⟩⟩⟩)))))))
   rcases zs6.mp he with q|q
   ·exact ht e q
   ·rw[zr5.mp q];exact⟨ro,by omega⟩
  rintro acc ⟨told,rfl,lt,ht⟩
  have lt4:told.length≤4:=by rw[lt,zp2,zj];omega
  have lt1:1≤told.length:=by rw[lt,zp2,zj];omega
  clear lt
  refine uP 4 rfl ?_
  refine zN 5 nd (zq CS (hr.mono (by decide)) (by rfl) (zt 2 rfl (za (zb 3 rfl (ze ⟨dy,rfl,d0,d1,fun c g c0 cg g1 g2=>?_⟩)))))
  refine wK (fun α=>∃c g:Int,SB c g∧α=[none,some (.dat (.int z)),some .tape,some (.dat (.int dy)),some (.dat (sP told)),some (.dat (.tuple [.int c,.int g])),none,none,none,none]) ?_ ?_
  ·have lm:((told.map PyData.list).length:Int)=told.length:=by rw[zp2]
   and_intros
   rw[lm]
   refine rf (fun h3=>?_) (fun h3=>?_)
   ·and_intros
    refine zZ (fun _=>?_) (fun _=>?_)
    ·and_intros
     refine⟨c,_,⟨c0,?_,?_,?_⟩,rfl⟩<;>split<;>omega
    ·and_intros
     exact⟨c,g,⟨c0,cg,g1,g2⟩,rfl⟩
   ·and_intros
    exact⟨c,g,⟨c0,cg,g1,g2⟩,rfl⟩
  clear c0 cg g1 g2 c g
  rintro α ⟨c,g,sb,rfl⟩
  obtain⟨c0,cg,g14,g1⟩:=id sb
  have rd:∀ds∈told,∀d∈ds,yA d=true:=fun ds hds d hd=>((ht ds hds).1 d hd).rule
  have rr:∀ds∈told,Rules ds:=fun ds hds=>(ht ds hds).1.rules
  refine mL 6 ["_law_rules_here"] [none] (.one 0) (zT (zb 4 rfl ⟨_,rfl,⟨by rw[zp2];omega,?_⟩⟩))
  refine wt (wU C cs) (fun ds hds=>⟨_,rfl,fun _ _ _ _ _ k=>?_⟩) ?_
  ·exact EvN.d (cH CK hr (by rfl) (za (zb 0 rfl (ze ⟨ds,.inl rfl,rr ds hds,by have:=(ht ds hds).2;omega,k⟩))))
  rw[zr6]
  refine uP 6 rfl ?_
  refine zN 7 nd (EvL.d (xJ CL (hr.mono (by decide)) (by rfl) (za (zb 4 rfl (za (zb 5 rfl (ze ⟨told,c,g,rfl,rd,lt4,c0,cg,g14,g1,⟨_,rfl,?_⟩⟩)))))))
  rw[←yL]
  have hlen:=uq (told:=told) lt4 g14
  have wall:=xB c g told 0
  have ln:∀α':Ev,α'.length=10→(xk α').length=10:=fun α' h=>by unfold xk;rw[zp2];exact h
  cases hh:yO told c g (zv 0 told c g) with
  |true=>
   obtain⟨⟨p,hp⟩,hw,need⟩:=fm hh
   have sub:∀x∈uo told c g,x∈zv 0 told c g:=fun x hx=>by rw[hp] at hx;exact (zu1.mp hx).1
   have wW:Wd (uo told c g):=fun x hx=>wall x (sub x hx)
   have lW:((uo told c g).map hD).length≤300:=by rw[zp2,hp];exact zt6 (zx3 _ _) hlen
   refine yt 8 nd (xJ CTo (hr.mono (by decide)) (by rfl) (za (zb 6 rfl (za (zb 5 rfl (ze ⟨told,c,g,rfl,rr,lt4,sb,.inl ⟨hh,_,rfl,?_⟩⟩))))))
   refine yw (xt (xr (zq CHe (hr.mono (by decide)) (by rfl) (za (zb 4 rfl (za (zb 5 rfl (za (zb 7 rfl (ze ⟨told,c,g,zv 0 told c g,rfl,rd,lt4,sb,wall,?_⟩))))))))))
   rw[uf (fun _ h=>h),hh]
   refine⟨_,rfl,?_⟩
   refine uj rfl ?_
   refine yw (wN 8 rfl (xt (xr (zq CRi (hr.mono (by decide)) (by rfl) (za (zb 4 rfl (za (zb 5 rfl (za (zb 7 rfl (za (zb 8 rfl (ze ⟨told,c,g,rfl,rd,lt4,sb,hh,_,rfl,?_⟩)))))))))))))
   refine uj rfl (zD ?_)
   refine yt 9 nd (ky 8 rfl (tP (by rfl) nb.list (zb 8 rfl ⟨_,rfl,qF _,?_⟩)))
   refine uP 9 rfl ?_
   refine wx 8 rfl ?_
   and_intros
   refine⟨by omega,?_⟩
   and_intros
   refine⟨told,c,g,rfl,rr,lt4,sb,.inl ⟨hh,?_⟩⟩
   and_intros
   refine eqk (x:=.list ((uo told c g).map hD)) (vA wW) (vA wW) (sv _) (sv _) ?_
   rw[SeqAt.eqv_refl _ (by simpa only[PyData.canLay0] using vt wW)]
   and_intros
   exact ln _ rfl
  |false=>
   refine zN 8 nd (zq CTo (hr.mono (by decide)) (by rfl) (za (zb 6 rfl (za (zb 5 rfl (ze ⟨told,c,g,rfl,rr,lt4,sb,.inr ⟨hh,?_⟩⟩))))))
   refine yw (xt (xr (zq CHe (hr.mono (by decide)) (by rfl) (za (zb 4 rfl (za (zb 5 rfl (za (zb 7 rfl (ze ⟨told,c,g,zv 0 told c g,rfl,rd,lt4,sb,wall,?_⟩))))))))))
   rw[uf (fun _ h=>h),hh]
   refine⟨_,rfl,?_⟩
   refine qL rfl ?_
   and_intros
   refine pR (i:="had") ?_
   and_intros
   refine⟨told,c,g,rfl,rr,lt4,sb,.inr ⟨hh,?_⟩⟩
   and_intros
   refine pR (i:="had") ?_
   and_intros
   exact ln _ rfl
 ·intro α _
  exact yq (aa rfl)
end
def FnF (K:PySem.W.Frag)(f:Addr)(nm ql:Str)(st:Stmt):Prop:=∃fd,Fun K nm ql st f fd
theorem mkF {K:PySem.W.Frag}{f:Addr}{nm ql:Str}{st:Stmt}{oc kV dc pm cd ct:Value}{od an:Option Addr}{sl:Array (Option Value)}(l:K.lookup f=some ⟨oc,od,.func (PySem.W.fnOf nm ql (yd st) (zC st) (zc st) .none kV dc pm an cd ct),sl⟩)(c:PySem.W.codeIn K cd ql=true)(k:PySem.W.keepIn K (.ref f)=true):FnF K f nm ql st:=⟨_,iD l c k⟩
def FnG (K:PySem.W.Frag)(f:Addr)(nm:Str)(st:Stmt):Prop:=PySem.W.nsIn K mainGlobals nm=some (some (.ref f))∧FnF K f nm nm st
theorem mkG {K:PySem.W.Frag}{f:Addr}{nm:Str}{st:Stmt}{oc kV dc pm cd ct:Value}{od an:Option Addr}{sl:Array (Option Value)}(a:PySem.W.nsIn K mainGlobals nm=some (some (.ref f)))(l:K.lookup f=some ⟨oc,od,.func (PySem.W.fnOf nm nm (yd st) (zC st) (zc st) .none kV dc pm an cd ct),sl⟩)(c:PySem.W.codeIn K cd nm=true)(k:PySem.W.keepIn K (.ref f)=true):FnG K f nm st:=⟨a,mkF l c k⟩
theorem FnF.get {K:PySem.W.Frag}{f:Addr}{nm ql:Str}{st:Stmt}(ps:List Str)(h:FnF K f nm ql st)(hb:∀(kV doc pm:Value) (an:Option Addr) (cdv ct:Value) (us:List Value),us.length=ps.length→bindArgs (PySem.W.fnOf nm ql (yd st) (zC st) (zc st) .none kV doc pm an cdv ct) ⟨us,[]⟩=pure (ps.zip us)):∃fd,Fun K nm ql st f fd∧Binds K fd ps []:=by
 obtain⟨fd,F⟩:=h
 exact⟨fd,F,F.binds hb⟩
theorem FnG.get {K:PySem.W.Frag}{h0:Heap}{mg:Str→Option Value}{f:Addr}{nm:Str}{st:Stmt}(ps:List Str)(h:FnG K f nm st)(X:K.In h0)(G:h0.Ns mainGlobals mg)(hb:∀(kV doc pm:Value) (an:Option Addr) (cdv ct:Value) (us:List Value),us.length=ps.length→bindArgs (PySem.W.fnOf nm nm (yd st) (zC st) (zc st) .none kV doc pm an cdv ct) ⟨us,[]⟩=pure (ps.zip us)):∃fd,mg nm=some (.ref f)∧Fun K nm nm st f fd∧Binds K fd ps []:=by
 obtain⟨a,fd,F⟩:=h
 exact⟨fd,zs2 X G a,F,F.binds hb⟩
theorem mkR {K:PySem.W.Frag}{C gi gt ge gw:Addr}(pg:PySem.W.plainGet K C Str.empty=true)(hd:PySem.W.hasDictIn K C=true)(po:PySem.W.plainOver K C=true)(sa:PySem.W.findIn K (.ref C) "__setattr__"=some (some (.builtin "object.__setattr__")))(n1:PySem.W.findIn K (.ref C) "first"=some none)(n2:PySem.W.findIn K (.ref C) "last"=some none)(n3:PySem.W.findIn K (.ref C) "worth"=some none)(mk:PySem.W.makesIn K C=true)(f1:PySem.W.findIn K (.ref C) "__init__"=some (some (.ref gi)))(i1:PySem.W.isFn K (.ref gi)=true)(kc:PySem.W.keepIn K (.ref C)=true)(f2:PySem.W.findIn K (.ref C) "told"=some (some (.ref gt)))(i2:PySem.W.isFn K (.ref gt)=true)(k2:PySem.W.keepIn K (.ref gt)=true)(f3:PySem.W.findIn K (.ref C) "tells"=some (some (.ref ge)))(i3:PySem.W.isFn K (.ref ge)=true)(k3:PySem.W.keepIn K (.ref ge)=true)(f4:PySem.W.findIn K (.ref C) "word"=some (some (.ref gw)))(i4:PySem.W.isFn K (.ref gw)=true)(k4:PySem.W.keepIn K (.ref gw)=true):wc K C gi gt ge gw:=⟨⟨pg,hd,po,sa⟩,n1,n2,n3,⟨mk,f1,i1,kc⟩,⟨f2,i2,k2⟩,⟨f3,i3,k3⟩,⟨f4,i4,k4⟩⟩
theorem jc {K:PySem.W.Frag}{dT:Addr}{oc kV doc pm cdv ct:Value}{od an:Option Addr}{n:Nat}{sl:Array (Option Value)}(lk:K.lookup dT=some ⟨oc,od,.seq #[.none] n,sl⟩):
  Binds K (PySem.W.fnOf "__init__" "Book.__init__" (yd xp) (zC xp) (zc xp) (.ref dT) kV doc pm an cdv ct) ["self","rules"] [.none]:=fun s us hk hl=>by
 match us,(show us.length=1 by rw[zq4] at hl;simpa using hl) with
 |[u],_=>exact BindsTo.of_defaults (T:=dT) rfl (hk _ _ lk) rfl rfl rfl
theorem kY {K:PySem.W.Frag}{dT:Addr}{oc kV doc pm cdv ct:Value}{od an:Option Addr}{n:Nat}{sl:Array (Option Value)}(lk:K.lookup dT=some ⟨oc,od,.seq #[.none] n,sl⟩):
  Binds K (PySem.W.fnOf "__init__" "Book.__init__" (yd xp) (zC xp) (zc xp) (.ref dT) kV doc pm an cdv ct) ["self","rules"] []:=fun s us hk hl=>by
 rw[zw2] at hl ⊢
 match us,hl with
 |[u,v],_=>exact BindsTo.of_defaults (T:=dT) rfl (hk _ _ lk) rfl rfl rfl
theorem bo {P:Str→Prop}(h1:P "price")(h2:P "come")(h3:P "go")(h4:P "least")(h5:P "most")(h6:P "deal")(h7:P "fee"):∀u∈words,P u:=by
 intro u hu
 simp only[words,zp7,zq5,zt3] at hu
 rcases hu with rfl|rfl|rfl|rfl|rfl|rfl|rfl<;>assumption
set_option maxHeartbeats 8000000 in
theorem us1 {α:Type}{p:List α→Prop}(h:∀a,p [a])(us:List α)(hl:us.length=1):p us:=by
 obtain⟨a,rfl⟩:=List.length_eq_one_iff.mp hl
 exact h a
theorem us2 {α:Type}{p:List α→Prop}(h:∀a b,p [a,b])(us:List α)(hl:us.length=2):p us:=by
 cases us with
 |nil=>cases hl
 |cons a us=>exact us1 (p:=fun us=>p (a::us)) (h a) us (Nat.succ.inj hl)
theorem us3 {α:Type}{p:List α→Prop}(h:∀a b c,p [a,b,c])(us:List α)(hl:us.length=3):p us:=by
 cases us with
 |nil=>cases hl
 |cons a us=>exact us2 (p:=fun us=>p (a::us)) (h a) us (Nat.succ.inj hl)
theorem us4 {α:Type}{p:List α→Prop}(h:∀a b c d,p [a,b,c,d])(us:List α)(hl:us.length=4):p us:=by
 cases us with
 |nil=>cases hl
 |cons a us=>exact us3 (p:=fun us=>p (a::us)) (h a) us (Nat.succ.inj hl)
theorem us5 {α:Type}{p:List α→Prop}(h:∀a b c d e,p [a,b,c,d,e])(us:List α)(hl:us.length=5):p us:=by
 cases us with
 |nil=>cases hl
 |cons a us=>exact us4 (p:=fun us=>p (a::us)) (h a) us (Nat.succ.inj hl)
set_option maxHeartbeats 0 in
theorem all_mk {l:PySem.W.OpenLaw}{w:World}{K:PySem.W.Frag}{h:Heap}{mg:Str→Option Value}{fa f1 f2 f3 f4 f5 f6 f7 f8 f9 f10 f11 f12 f13 f14 f15 f16 f17 f18 f19 f20 f21 f22 f23 f24 f25 f26 f27 f28 f29 f30 f31 f32 f33 f34 f35 f36 g_init g_told g_tells g_wPrice g_wCome g_wGo g_wLeast g_wMost g_wDeal g_wFee CPrice CCome CGo CLeast CMost CDeal CFee CB dT g_binit g_brules g_btells dU CSt CX_Barred CX_NoName CX_NotSold CX_Off CX_Had CX_TooMany:Addr}(X:K.In h)(G:h.Ns mainGlobals mg)(hfa:mg "law"=some (.ref fa))
  {od36 an36 odB anB odT:Option Addr} {sl36 slB slT:Array (Option Value)} {oc36 kV36 dc36 pm36 ct36 cd36 ocB kVB dcB pmB ctB cdB ocT:Value} {tk1 tk2 tk3 tk4 tu1 tu2 tu3 tu4 tu5 tu6 tu7 tu8 tu9 tu10:Tok} {hu1 hu2 hu3 hu4 hu5 hu6 hu7:Int} {nT nU:Nat}
  (q1:FnG K f1 "is_whole" pe)
  (q2:FnG K f2 "is_whole_within" qx)
  (q3:FnG K f3 "is_pair" fB)
  (q4:FnG K f4 "is_day" zd8)
  (q5:FnG K f5 "is_pair_of_days" fU)
  (q6:FnG K f6 "is_stretch" tW)
  (q7:FnG K f7 "is_coins" my)
  (q8:FnG K f8 "is_deal" qV)
  (q9:FnG K f9 "is_worth" nO)
  (q10:FnG K f10 "is_rule" qT)
  (q11:FnG K f11 "made" fO)
  (q12:FnG K f12 "rule_of" pM)
  (q13:FnG K f13 "nights_of" qS)
  (q14:FnG K f14 "hindrances_by" vZ)
  (q15:FnG K f15 "hindrances" gK)
  (q16:FnG K f16 "lets" aO)
  (q17:FnG K f17 "leads_to" sD)
  (q18:FnG K f18 "is_held_off" tY)
  (q19:FnG K f19 "why" gR)
  (q20:FnG K f20 "usual" nJ)
  (q21:FnG K f21 "kept_rules" eu)
  (q22:FnG K f22 "_law_begin" lq)
  (q23:FnG K f23 "_law_take" dh)
  (q24:FnG K f24 "_law_coins" pO)
  (q25:FnG K f25 "_law_worth" pS)
  (q26:FnG K f26 "_law_rule" lb)
  (q27:FnG K f27 "_law_tells" pC)
  (q28:FnG K f28 "_law_day" iG)
  (q29:FnG K f29 "_law_stay" lB)
  (q30:FnG K f30 "_law_rules" qX)
  (q31:FnG K f31 "_law_hindrances" yT)
  (q32:FnG K f32 "_law_lets" hZ)
  (q33:FnG K f33 "_law_held" nP)
  (q34:FnG K f34 "_law_told" mY)
  (q35:FnG K f35 "_law_right" qQ)
  (a36:PySem.W.nsIn K mainGlobals "law"=some (some (.ref f36)))
  (l36:K.lookup f36=some ⟨oc36,od36,.func (PySem.W.fnOf "law" "law" (yd qH) (zC qH) (zc qH) .none kV36 dc36 pm36 an36 cd36 ct36),sl36⟩)
  (c36:PySem.W.codeIn K cd36 "law"=true)
  (k36:PySem.W.keepIn K (.ref f36)=true)
  (aCPrice:PySem.W.nsIn K mainGlobals "Price"=some (some (.ref CPrice)))
  (aCCome:PySem.W.nsIn K mainGlobals "Come"=some (some (.ref CCome)))
  (aCGo:PySem.W.nsIn K mainGlobals "Go"=some (some (.ref CGo)))
  (aCLeast:PySem.W.nsIn K mainGlobals "Least"=some (some (.ref CLeast)))
  (aCMost:PySem.W.nsIn K mainGlobals "Most"=some (some (.ref CMost)))
  (aCDeal:PySem.W.nsIn K mainGlobals "Deal"=some (some (.ref CDeal)))
  (aCFee:PySem.W.nsIn K mainGlobals "Fee"=some (some (.ref CFee)))
  (RPrice:wc K CPrice g_init g_told g_tells g_wPrice)
  (RCome:wc K CCome g_init g_told g_tells g_wCome)
  (RGo:wc K CGo g_init g_told g_tells g_wGo)
  (RLeast:wc K CLeast g_init g_told g_tells g_wLeast)
  (RMost:wc K CMost g_init g_told g_tells g_wMost)
  (RDeal:wc K CDeal g_init g_told g_tells g_wDeal)
  (RFee:wc K CFee g_init g_told g_tells g_wFee)
  (q_init:FnF K g_init "__init__" "Rule.__init__" lO)
  (q_told:FnF K g_told "told" "Rule.told" fH)
  (q_tells:FnF K g_tells "tells" "Rule.tells" mf)
  (q_wPrice:FnF K g_wPrice "word" "Price.word" pD)
  (q_wCome:FnF K g_wCome "word" "Come.word" nG)
  (q_wGo:FnF K g_wGo "word" "Go.word" ze3)
  (q_wLeast:FnF K g_wLeast "word" "Least.word" pI)
  (q_wMost:FnF K g_wMost "word" "Most.word" nI)
  (q_wDeal:FnF K g_wDeal "word" "Deal.word" me)
  (q_wFee:FnF K g_wFee "word" "Fee.word" eL)
  (aCB:PySem.W.nsIn K mainGlobals "Book"=some (some (.ref CB)))
  (fi_binit:PySem.W.findIn K (.ref CB) "__init__"=some (some (.ref g_binit)))
  (is_binit:PySem.W.isFn K (.ref g_binit)=true)
  (l_binit:K.lookup g_binit=some ⟨ocB,odB,.func (PySem.W.fnOf "__init__" "Book.__init__" (yd xp) (zC xp) (zc xp) (.ref dT) kVB dcB pmB anB cdB ctB),slB⟩)
  (c_binit:PySem.W.codeIn K cdB "Book.__init__"=true)
  (k_binit:PySem.W.keepIn K (.ref g_binit)=true)
  (lT:K.lookup dT=some ⟨ocT,odT,.seq #[.none] nT,slT⟩)
  (fi_brules:PySem.W.findIn K (.ref CB) "rules"=some (some (.ref g_brules)))
  (is_brules:PySem.W.isFn K (.ref g_brules)=true)
  (q_brules:FnF K g_brules "rules" "Book.rules" vB)
  (fi_btells:PySem.W.findIn K (.ref CB) "tells_of"=some (some (.ref g_btells)))
  (is_btells:PySem.W.isFn K (.ref g_btells)=true)
  (q_btells:FnF K g_btells "tells_of" "Book.tells_of" pP)
  (pgB:PySem.W.plainGet K CB Str.empty=true)
  (hdB:PySem.W.hasDictIn K CB=true)
  (poB:PySem.W.plainOver K CB=true)
  (saB:PySem.W.findIn K (.ref CB) "__setattr__"=some (some (.builtin "object.__setattr__")))
  (mkB:PySem.W.makesIn K CB=true)
  (kcB:PySem.W.keepIn K (.ref CB)=true)
  (noB:PySem.W.findIn K (.ref CB) "kept"=some none)
  (z1:PySem.W.nsIn K mainGlobals "abs"=some none)
  (z2:PySem.W.nsIn K mainGlobals "list"=some none)
  (z3:PySem.W.nsIn K mainGlobals "len"=some none)
  (z4:PySem.W.nsIn K mainGlobals "range"=some none)
  (z5:PySem.W.nsIn K mainGlobals "min"=some none)
  (z6:PySem.W.nsIn K mainGlobals "max"=some none)
  (z7:PySem.W.nsIn K mainGlobals "sorted"=some none)
  (z8:PySem.W.nsIn K mainGlobals "isinstance"=some none)
  (z9:PySem.W.nsIn K mainGlobals "int"=some none)
  (z10:PySem.W.nsIn K mainGlobals "bool"=some none)
  (z11:PySem.W.nsIn K mainGlobals "str"=some none)
  (z12:PySem.W.nsIn K mainGlobals "tuple"=some none)
  (z13:PySem.W.nsIn K mainGlobals "all"=some none)
  (z14:PySem.W.nsIn K mainGlobals "any"=some none)
  (z15:PySem.W.nsIn K mainGlobals "repr"=some none)
  (z16:PySem.W.nsIn K mainGlobals "zip"=some none)
  (z17:PySem.W.nsIn K mainGlobals "enumerate"=some none)
  (z18:PySem.W.nsIn K mainGlobals "reversed"=some none)
  (z19:PySem.W.nsIn K mainGlobals "sum"=some none)
  (z20:PySem.W.nsIn K mainGlobals "dict"=some none)
  (z21:PySem.W.nsIn K mainGlobals "ValueError"=some none)
  (gi1:PySem.W.nsIn K mainGlobals "LAST_DAY"=some (some (.int 1000000 tk1)))
  (gi2:PySem.W.nsIn K mainGlobals "MOST_NIGHTS"=some (some (.int 14 tk2)))
  (gi3:PySem.W.nsIn K mainGlobals "MOST_COINS"=some (some (.int 1000000000000 tk3)))
  (gi4:PySem.W.nsIn K mainGlobals "MOST_RULES"=some (some (.int 24 tk4)))
  (aU:PySem.W.nsIn K mainGlobals "USUAL"=some (some (.ref dU)))
  (lU:K.lookup dU=some ⟨.type "dict",none,.dict #[⟨hu1,.str "price" tu1,.none⟩,⟨hu2,.str "come" tu2,.bool true⟩,⟨hu3,.str "go" tu3,.bool true⟩,⟨hu4,.str "least" tu4,.int 1 tu8⟩,⟨hu5,.str "most" tu5,.int 14 tu9⟩,⟨hu6,.str "deal" tu6,.none⟩,⟨hu7,.str "fee" tu7,.int 0 tu10⟩] nU,#[]⟩)
  (hh1:hu1=hashStr w "price")
  (hh2:hu2=hashStr w "come")
  (hh3:hu3=hashStr w "go")
  (hh4:hu4=hashStr w "least")
  (hh5:hu5=hashStr w "most")
  (hh6:hu6=hashStr w "deal")
  (hh7:hu7=hashStr w "fee")
  (aSt:PySem.W.nsIn K mainGlobals "StayError"=some (some (.ref CSt)))
  (aX_Barred:PySem.W.nsIn K mainGlobals "Barred"=some (some (.ref CX_Barred)))
  (aX_NoName:PySem.W.nsIn K mainGlobals "NoName"=some (some (.ref CX_NoName)))
  (aX_NotSold:PySem.W.nsIn K mainGlobals "NotSold"=some (some (.ref CX_NotSold)))
  (aX_Off:PySem.W.nsIn K mainGlobals "Off"=some (some (.ref CX_Off)))
  (aX_Had:PySem.W.nsIn K mainGlobals "Had"=some (some (.ref CX_Had)))
  (aX_TooMany:PySem.W.nsIn K mainGlobals "TooMany"=some (some (.ref CX_TooMany)))
  (eX_Had:nF K CX_Had CSt none=true)
  (kX_Had:PySem.W.keepIn K (.ref CX_Had)=true)
  (bX_Had_StayError:fj K CX_Had CSt=true)
  (kt_Had_Barred:PySem.W.kitOne K (.ref CX_Had) (.ref CX_Barred)=some false)
  (kt_Had_NoName:PySem.W.kitOne K (.ref CX_Had) (.ref CX_NoName)=some false)
  (kt_Had_NotSold:PySem.W.kitOne K (.ref CX_Had) (.ref CX_NotSold)=some false)
  (kt_Had_Off:PySem.W.kitOne K (.ref CX_Had) (.ref CX_Off)=some false)
  (kt_Had_Had:PySem.W.kitOne K (.ref CX_Had) (.ref CX_Had)=some true)
  (kt_Had_TooMany:PySem.W.kitOne K (.ref CX_Had) (.ref CX_TooMany)=some false)
  (kt_Had_ValueError:PySem.W.kitOne K (.ref CX_Had) (.type "ValueError")=some true):
  ∃fd:FuncData,(∀(s:Shared) (v:Value),BindsTo s fd ⟨[v],[]⟩ [("_law_script",v)])∧∀base:Heap,K.In base→base.Ns mainGlobals mg→zA l.prog w K mg base CX0 11 fa fd ["_law_script"] (nc K):=by
 have e:=hfa.symm.trans (zs2 X G a36)
 cases e
 have nb:NbT mg:=⟨zr0 X G z1,zr0 X G z2,zr0 X G z3,zr0 X G z4,zr0 X G z5,zr0 X G z6,zr0 X G z7,zr0 X G z8,zr0 X G z9,zr0 X G z10,zr0 X G z11,zr0 X G z12,zr0 X G z13,zr0 X G z14,zr0 X G z15,zr0 X G z16,zr0 X G z17,zr0 X G z18,zr0 X G z19⟩
 have n_dict:mg "dict"=none:=zr0 X G z20
 have n_ValueError:mg "ValueError"=none:=zr0 X G z21
 obtain⟨_,m_is_whole,F_is_whole,b_is_whole⟩:=q1.get ["thing"] X G fun _ _ _ _ _ _=>us1 fun _=>rfl
 obtain⟨_,m_is_whole_within,F_is_whole_within,b_is_whole_within⟩:=q2.get ["thing","lowest","highest"] X G fun _ _ _ _ _ _=>us3 fun _ _ _=>rfl
 obtain⟨_,m_is_pair,F_is_pair,b_is_pair⟩:=q3.get ["thing"] X G fun _ _ _ _ _ _=>us1 fun _=>rfl
 obtain⟨_,m_is_day,F_is_day,b_is_day⟩:=q4.get ["thing"] X G fun _ _ _ _ _ _=>us1 fun _=>rfl
 obtain⟨_,m_is_pair_of_days,F_is_pair_of_days,b_is_pair_of_days⟩:=q5.get ["thing"] X G fun _ _ _ _ _ _=>us1 fun _=>rfl
 obtain⟨_,m_is_stretch,F_is_stretch,b_is_stretch⟩:=q6.get ["thing"] X G fun _ _ _ _ _ _=>us1 fun _=>rfl
 obtain⟨_,m_is_coins,F_is_coins,b_is_coins⟩:=q7.get ["thing"] X G fun _ _ _ _ _ _=>us1 fun _=>rfl
 obtain⟨_,m_is_deal,F_is_deal,b_is_deal⟩:=q8.get ["thing"] X G fun _ _ _ _ _ _=>us1 fun _=>rfl
 obtain⟨_,m_is_worth,F_is_worth,b_is_worth⟩:=q9.get ["word","thing"] X G fun _ _ _ _ _ _=>us2 fun _ _=>rfl
 obtain⟨_,m_is_rule,F_is_rule,b_is_rule⟩:=q10.get ["thing"] X G fun _ _ _ _ _ _=>us1 fun _=>rfl
 obtain⟨_,m_made,F_made,b_made⟩:=q11.get ["word","first","last","worth"] X G fun _ _ _ _ _ _=>us4 fun _ _ _ _=>rfl
 obtain⟨_,m_rule_of,F_rule_of,b_rule_of⟩:=q12.get ["thing"] X G fun _ _ _ _ _ _=>us1 fun _=>rfl
 obtain⟨_,m_nights_of,F_nights_of,b_nights_of⟩:=q13.get ["stay"] X G fun _ _ _ _ _ _=>us1 fun _=>rfl
 obtain⟨_,m_hindrances_by,F_hindrances_by,b_hindrances_by⟩:=q14.get ["number","book","stay"] X G fun _ _ _ _ _ _=>us3 fun _ _ _=>rfl
 obtain⟨_,m_hindrances,F_hindrances,b_hindrances⟩:=q15.get ["books","stay"] X G fun _ _ _ _ _ _=>us2 fun _ _=>rfl
 obtain⟨_,m_lets,F_lets,b_lets⟩:=q16.get ["number","book","stay","force"] X G fun _ _ _ _ _ _=>us4 fun _ _ _ _=>rfl
 obtain⟨_,m_leads_to,F_leads_to,b_leads_to⟩:=q17.get ["books","begins","day","force"] X G fun _ _ _ _ _ _=>us4 fun _ _ _ _=>rfl
 obtain⟨_,m_is_held_off,F_is_held_off,b_is_held_off⟩:=q18.get ["books","stay","some"] X G fun _ _ _ _ _ _=>us3 fun _ _ _=>rfl
 obtain⟨_,m_why,F_why,b_why⟩:=q19.get ["books","stay"] X G fun _ _ _ _ _ _=>us2 fun _ _=>rfl
 obtain⟨_,m_usual,F_usual,b_usual⟩:=q20.get ["word"] X G fun _ _ _ _ _ _=>us1 fun _=>rfl
 obtain⟨_,m_kept_rules,F_kept_rules,b_kept_rules⟩:=q21.get ["things"] X G fun _ _ _ _ _ _=>us1 fun _=>rfl
 obtain⟨_,m__law_begin,F__law_begin,b__law_begin⟩:=q22.get ["_law_cell"] X G fun _ _ _ _ _ _=>us1 fun _=>rfl
 obtain⟨_,m__law_take,F__law_take,b__law_take⟩:=q23.get ["_law_row","_law_base"] X G fun _ _ _ _ _ _=>us2 fun _ _=>rfl
 obtain⟨_,m__law_coins,F__law_coins,b__law_coins⟩:=q24.get ["_law_row"] X G fun _ _ _ _ _ _=>us1 fun _=>rfl
 obtain⟨_,m__law_worth,F__law_worth,b__law_worth⟩:=q25.get ["_law_row","_law_word"] X G fun _ _ _ _ _ _=>us2 fun _ _=>rfl
 obtain⟨_,m__law_rule,F__law_rule,b__law_rule⟩:=q26.get ["_law_row","_law_day_here"] X G fun _ _ _ _ _ _=>us2 fun _ _=>rfl
 obtain⟨_,m__law_tells,F__law_tells,b__law_tells⟩:=q27.get ["_law_rules_here","_law_word","_law_day_here"] X G fun _ _ _ _ _ _=>us3 fun _ _ _=>rfl
 obtain⟨_,m__law_day,F__law_day,b__law_day⟩:=q28.get ["_law_row"] X G fun _ _ _ _ _ _=>us1 fun _=>rfl
 obtain⟨_,m__law_stay,F__law_stay,b__law_stay⟩:=q29.get ["_law_row","_law_day_here"] X G fun _ _ _ _ _ _=>us2 fun _ _=>rfl
 obtain⟨_,m__law_rules,F__law_rules,b__law_rules⟩:=q30.get ["_law_row","_law_day_here","_law_most"] X G fun _ _ _ _ _ _=>us3 fun _ _ _=>rfl
 obtain⟨_,m__law_hindrances,F__law_hindrances,b__law_hindrances⟩:=q31.get ["_law_books","_law_stay_here"] X G fun _ _ _ _ _ _=>us2 fun _ _=>rfl
 obtain⟨_,m__law_lets,F__law_lets,b__law_lets⟩:=q32.get ["_law_rules_here","_law_number","_law_force","_law_begin_here","_law_end"] X G fun _ _ _ _ _ _=>us5 fun _ _ _ _ _=>rfl
 obtain⟨_,m__law_held,F__law_held,b__law_held⟩:=q33.get ["_law_books","_law_stay_here","_law_some"] X G fun _ _ _ _ _ _=>us3 fun _ _ _=>rfl
 obtain⟨_,m__law_told,F__law_told,b__law_told⟩:=q34.get ["_law_books","_law_stay_here"] X G fun _ _ _ _ _ _=>us2 fun _ _=>rfl
 obtain⟨_,m__law_right,F__law_right,b__law_right⟩:=q35.get ["_law_told_here","_law_stay_here","_law_rows","_law_found"] X G fun _ _ _ _ _ _=>us4 fun _ _ _ _=>rfl
 have F_law:=iD (st:=qH) l36 c36 k36
 have b_law:=F_law.binds (ps:=["_law_script"]) fun _ _ _ _ _ _=>us1 fun _=>rfl
 obtain⟨_,F_init,b_init⟩:=q_init.get ["self","first","last","worth"] fun _ _ _ _ _ _=>us4 fun _ _ _ _=>rfl
 obtain⟨_,F_told,b_told⟩:=q_told.get ["self"] fun _ _ _ _ _ _=>us1 fun _=>rfl
 obtain⟨_,F_tells,b_tells⟩:=q_tells.get ["self","day"] fun _ _ _ _ _ _=>us2 fun _ _=>rfl
 obtain⟨_,F_wPrice,b_wPrice⟩:=q_wPrice.get ["self"] fun _ _ _ _ _ _=>us1 fun _=>rfl
 obtain⟨_,F_wCome,b_wCome⟩:=q_wCome.get ["self"] fun _ _ _ _ _ _=>us1 fun _=>rfl
 obtain⟨_,F_wGo,b_wGo⟩:=q_wGo.get ["self"] fun _ _ _ _ _ _=>us1 fun _=>rfl
 obtain⟨_,F_wLeast,b_wLeast⟩:=q_wLeast.get ["self"] fun _ _ _ _ _ _=>us1 fun _=>rfl
 obtain⟨_,F_wMost,b_wMost⟩:=q_wMost.get ["self"] fun _ _ _ _ _ _=>us1 fun _=>rfl
 obtain⟨_,F_wDeal,b_wDeal⟩:=q_wDeal.get ["self"] fun _ _ _ _ _ _=>us1 fun _=>rfl
 obtain⟨_,F_wFee,b_wFee⟩:=q_wFee.get ["self"] fun _ _ _ _ _ _=>us1 fun _=>rfl
 obtain⟨_,F_brules,b_brules⟩:=q_brules.get ["self"] fun _ _ _ _ _ _=>us1 fun _=>rfl
 obtain⟨_,F_btells,b_btells⟩:=q_btells.get ["self","word","day"] fun _ _ _ _ _ _=>us3 fun _ _ _=>rfl
 have TD:oF mg f1 f2 f3 f4 f5:=⟨nb.isinstance,nb.int,nb.bool,nb.tuple,nb.len,⟨tk1,zs2 X G gi1⟩,⟨tk2,zs2 X G gi2⟩,m_is_whole,m_is_whole_within,m_is_pair,m_is_day,m_is_pair_of_days⟩
 have TR:nV mg f1 f2 f3 f4 f5 f6 f7 f8 f9 f10 f11 ⟨CPrice,CCome,CGo,CLeast,CMost,CDeal,CFee⟩:=⟨TD,⟨tk3,zs2 X G gi3⟩,m_is_stretch,m_is_coins,m_is_deal,m_is_worth,m_is_rule,m_made,zs2 X G aCPrice,zs2 X G aCCome,zs2 X G aCGo,zs2 X G aCLeast,zs2 X G aCMost,zs2 X G aCDeal,zs2 X G aCFee⟩
 have A7:gN K ⟨CPrice,CCome,CGo,CLeast,CMost,CDeal,CFee⟩ g_init g_told g_tells g_wPrice g_wCome g_wGo g_wLeast g_wMost g_wDeal g_wFee:=⟨RPrice,RCome,RGo,RLeast,RMost,RDeal,RFee⟩
 refine⟨PySem.W.fnOf "law" "law" (yd qH) (zC qH) (zc qH) .none kV36 dc36 pm36 an36 cd36 ct36,fun s v=>.of_eq rfl,fun base KX _=>?_⟩
 have G_in:=ja (P:=l.prog) (w:=w) (base:=base) F_is_whole_within TD F_is_whole b_is_whole
 have G_pair:=cX (P:=l.prog) (w:=w) (base:=base) F_is_pair TD
 have G_day:=zf1 F_is_day TD G_in F_is_whole_within.kp b_is_whole_within
 have G_days:=bL F_is_pair_of_days TD G_pair F_is_pair.kp b_is_pair G_day F_is_day.kp b_is_day
 have G_stretch:=mj F_is_stretch TD G_days F_is_pair_of_days.kp b_is_pair_of_days
 have G_coins:=fQ F_is_coins TR G_in F_is_whole_within.kp b_is_whole_within
 have G_deal:=jn F_is_deal TR G_in F_is_whole_within.kp b_is_whole_within G_pair F_is_pair.kp b_is_pair
 have G_worth:=hV F_is_worth TR G_in F_is_whole_within.kp b_is_whole_within G_coins F_is_coins.kp b_is_coins G_deal F_is_deal.kp b_is_deal
 have G_rule:=jG F_is_rule TR G_stretch F_is_stretch.kp b_is_stretch G_worth F_is_worth.kp b_is_worth
 have G_made:=bq (P:=l.prog) (w:=w) (base:=base) F_made TR A7 F_init b_init
 have G_ruleOf:=jd F_rule_of TR G_rule F_is_rule.kp b_is_rule G_made F_made.kp b_made
 have CRO:Cal l.prog w K mg base "rule_of" 7 (su ⟨CPrice,CCome,CGo,CLeast,CMost,CDeal,CFee⟩):=ml m_rule_of F_rule_of.kp b_rule_of G_ruleOf
 have CKe:Cal l.prog w K mg base "kept_rules" 8 (mi ⟨CPrice,CCome,CGo,CLeast,CMost,CDeal,CFee⟩):=ff F_kept_rules m_kept_rules b_kept_rules nb ⟨tk4,zs2 X G gi4⟩ CRO
 have cB:Cls K CB:=⟨pgB,hdB,poB,saB⟩
 have GBI:=gY (bF (st:=xp) l_binit c_binit k_binit) cB noB CKe
 have m_Book:mg "Book"=some (.ref CB):=zs2 X G aCB
 have MkB:Mk K CB g_binit:=⟨mkB,fi_binit,is_binit,kcB⟩
 have CBk:dR l.prog w K mg base "Book" 9 [] (pT CB ⟨CPrice,CCome,CGo,CLeast,CMost,CDeal,CFee⟩):=⟨CB,g_binit,_,_,_,m_Book,MkB,kY lT,.nil,GBI⟩
 have CBk0:dR l.prog w K mg base "Book" 9 [.non] (pT CB ⟨CPrice,CCome,CGo,CLeast,CMost,CDeal,CFee⟩):=⟨CB,g_binit,_,_,_,m_Book,MkB,jc lT,.cons rfl .nil,GBI⟩
 have OT:∀u∈words,vG l.prog w K mg base ((⟨CPrice,CCome,CGo,CLeast,CMost,CDeal,CFee⟩:Cs).of u) "told" 2 (mC ((⟨CPrice,CCome,CGo,CLeast,CMost,CDeal,CFee⟩:Cs).of u) u):=bo (by rw[wY];exact yV RPrice b_told (wA F_told RPrice (rL F_wPrice) b_wPrice)) (by rw[ug];exact yV RCome b_told (wA F_told RCome (oj F_wCome) b_wCome)) (by rw[nk];exact yV RGo b_told (wA F_told RGo (iL F_wGo) b_wGo)) (by rw[ve];exact yV RLeast b_told (wA F_told RLeast (qk F_wLeast) b_wLeast)) (by rw[uy];exact yV RMost b_told (wA F_told RMost (om F_wMost) b_wMost)) (by rw[ur];exact yV RDeal b_told (wA F_told RDeal (nD F_wDeal) b_wDeal)) (by rw[tU];exact yV RFee b_told (wA F_told RFee (lJ F_wFee) b_wFee))
 have DU:kL K w dU tbU:=⟨_,nU,lU,.cons ⟨hh1,⟨_,rfl⟩,rfl⟩ (.cons ⟨hh2,⟨_,rfl⟩,rfl⟩ (.cons ⟨hh3,⟨_,rfl⟩,rfl⟩ (.cons ⟨hh4,⟨_,rfl⟩,⟨_,rfl⟩⟩ (.cons ⟨hh5,⟨_,rfl⟩,⟨_,rfl⟩⟩ (.cons ⟨hh6,⟨_,rfl⟩,rfl⟩ (.cons ⟨hh7,⟨_,rfl⟩,⟨_,rfl⟩⟩ (.nil))))))),by decide +kernel⟩
 have CU:Cal l.prog w K mg base "usual" 1 pf:=jt F_usual m_usual b_usual (zs2 X G aU) DU
 have OW:∀u∈words,vG l.prog w K mg base ((⟨CPrice,CCome,CGo,CLeast,CMost,CDeal,CFee⟩:Cs).of u) "word" 1 (nZ ((⟨CPrice,CCome,CGo,CLeast,CMost,CDeal,CFee⟩:Cs).of u) u):=bo (by rw[wY];exact yW RPrice b_wPrice (rL F_wPrice)) (by rw[ug];exact yW RCome b_wCome (oj F_wCome)) (by rw[nk];exact yW RGo b_wGo (iL F_wGo)) (by rw[ve];exact yW RLeast b_wLeast (qk F_wLeast)) (by rw[uy];exact yW RMost b_wMost (om F_wMost)) (by rw[ur];exact yW RDeal b_wDeal (nD F_wDeal)) (by rw[tU];exact yW RFee b_wFee (lJ F_wFee))
 have ORT:∀u∈words,vG l.prog w K mg base ((⟨CPrice,CCome,CGo,CLeast,CMost,CDeal,CFee⟩:Cs).of u) "tells" 1 (sS ((⟨CPrice,CCome,CGo,CLeast,CMost,CDeal,CFee⟩:Cs).of u)):=bo (by rw[wY];exact yy RPrice b_tells (xI F_tells RPrice)) (by rw[ug];exact yy RCome b_tells (xI F_tells RCome)) (by rw[nk];exact yy RGo b_tells (xI F_tells RGo)) (by rw[ve];exact yy RLeast b_tells (xI F_tells RLeast)) (by rw[uy];exact yy RMost b_tells (xI F_tells RMost)) (by rw[ur];exact yy RDeal b_tells (xI F_tells RDeal)) (by rw[tU];exact yy RFee b_tells (xI F_tells RFee))
 have OC:∀u∈words,Cls K ((⟨CPrice,CCome,CGo,CLeast,CMost,CDeal,CFee⟩:Cs).of u)∧yF K ((⟨CPrice,CCome,CGo,CLeast,CMost,CDeal,CFee⟩:Cs).of u) "worth":=bo (by rw[wY];exact⟨RPrice.cl,RPrice.nw⟩) (by rw[ug];exact⟨RCome.cl,RCome.nw⟩) (by rw[nk];exact⟨RGo.cl,RGo.nw⟩) (by rw[ve];exact⟨RLeast.cl,RLeast.nw⟩) (by rw[uy];exact⟨RMost.cl,RMost.nw⟩) (by rw[ur];exact⟨RDeal.cl,RDeal.nw⟩) (by rw[tU];exact⟨RFee.cl,RFee.nw⟩)
 have MTe:vG l.prog w K mg base CB "tells_of" 2 (tL CB ⟨CPrice,CCome,CGo,CLeast,CMost,CDeal,CFee⟩):=⟨g_btells,_,_,cB,⟨fi_btells,is_btells,F_btells.kp⟩,b_btells,kX F_btells cB noB nb CU OW ORT OC⟩
 have MR:vG l.prog w K mg base CB "rules" 3 (kl CB ⟨CPrice,CCome,CGo,CLeast,CMost,CDeal,CFee⟩):=⟨g_brules,_,_,cB,⟨fi_brules,is_brules,F_brules.kp⟩,b_brules,jZ F_brules cB noB b_brules OT⟩
 have m_StayError:mg "StayError"=some (.ref CSt):=zs2 X G aSt
 have mX_Barred:mg "Barred"=some (.ref CX_Barred):=zs2 X G aX_Barred
 have mX_NoName:mg "NoName"=some (.ref CX_NoName):=zs2 X G aX_NoName
 have mX_NotSold:mg "NotSold"=some (.ref CX_NotSold):=zs2 X G aX_NotSold
 have mX_Off:mg "Off"=some (.ref CX_Off):=zs2 X G aX_Off
 have mX_Had:mg "Had"=some (.ref CX_Had):=zs2 X G aX_Had
 have mX_TooMany:mg "TooMany"=some (.ref CX_TooMany):=zs2 X G aX_TooMany
 have XC_Had:=XC.of eX_Had
 have CB:=iu (P:=l.prog) (w:=w) (base:=base) F__law_begin m__law_begin b__law_begin
 have CD:Cal l.prog w K mg base "_law_take" 1 wb:=eM m__law_take F__law_take.kp b__law_take (bt F__law_take)
 have CCo:=jA F__law_coins m__law_coins b__law_coins CD
 have CW:=jf F__law_worth m__law_worth b__law_worth CD CCo
 have CRl:=fA F__law_rule m__law_rule b__law_rule nb CD CW
 have CY:=cG F__law_day m__law_day b__law_day CD
 have CSt:=jj F__law_stay m__law_stay b__law_stay nb CD
 have CN:=nW (P:=l.prog) (w:=w) (base:=base) F_nights_of m_nights_of b_nights_of nb
 have CRs:=sC F__law_rules m__law_rules b__law_rules nb CD CCo CRl
 have CHB:=dJ F_hindrances_by m_hindrances_by b_hindrances_by nb CN MTe
 have CHi:=iQ F_hindrances m_hindrances b_hindrances nb CHB
 have CLt:=cP F_lets m_lets b_lets nb CN MTe
 have CLo:=oM F_leads_to m_leads_to b_leads_to nb CLt
 have CIH:=oB F_is_held_off m_is_held_off b_is_held_off nb n_dict CLo
 have CWh:=cS F_why m_why b_why nb CHi CIH
 have XH0:zc9 K mg "Had" CX_Had:=⟨mX_Had,kX_Had,⟨_,XC_Had.ok⟩⟩
 have CWX:=fV F_why m_why b_why nb CHi CIH XH0
 have CTl:=lu (P:=l.prog) (w:=w) (base:=base) F__law_tells m__law_tells b__law_tells
 have CRs:=sC F__law_rules m__law_rules b__law_rules nb CD CCo CRl
 have CLH:=jX F__law_hindrances m__law_hindrances b__law_hindrances nb CTl
 have CLL:=hG F__law_lets m__law_lets b__law_lets nb CTl
 have CLHe:=ip F__law_held m__law_held b__law_held nb n_dict CLH CLL
 have CTo:=jQ F__law_told m__law_told b__law_told nb ⟨m_StayError,XB.of bX_Had_StayError,⟨_,XC_Had⟩,⟨_,mX_Barred,kt_Had_Barred⟩,⟨_,mX_NoName,kt_Had_NoName⟩,⟨_,mX_NotSold,kt_Had_NotSold⟩,⟨_,mX_Off,kt_Had_Off⟩,⟨_,mX_Had,kt_Had_Had⟩,⟨_,mX_TooMany,kt_Had_TooMany⟩,n_ValueError,kt_Had_ValueError⟩ CWh CWX
 have CRi:=lr F__law_right m__law_right b__law_right nb CLHe
 exact ze5 F_law nb CB CD CY CRs CSt CLH CLHe CTo CRi CBk
theorem walk {l:PySem.W.OpenLaw}{q:Program}{loose:List Str}{XP:(Str→Option Value)→Heap→Prop}{YP:World→Heap→Prop}{d:DefRec}{K:Params→PySem.W.Frag}(hn:l.most=some 63)(hdf:d.params.defaults=[])
  (hY:∀(w:World) (h:Heap),YP w h→(K w.params).In h)
  (F:∀(w:World) (mg:Str→Option Value) (fa:Addr) (h:Heap),(K w.params).In h→h.Ns mainGlobals mg→mg d.name=some (.ref fa)→
   ∃fd:FuncData,(∀(s:Shared) (u:Value),BindsTo s fd ⟨[u],[]⟩ [("_law_script",u)])∧∀base:Heap,(K w.params).In base→base.Ns mainGlobals mg→zA l.prog w (K w.params) mg base CX0 11 fa fd ["_law_script"] (nc (K w.params))):
  PySem.W.WalkO q loose XP YP l.row.toRowW d [] (fun f vs=>PySem.call f vs):=
 L2.dH (n:=63) (k:=11) (x:="_law_script") (CX:=fun _=>CX0) (sp:=fun w=>nc (K w.params)) hn (by decide) hdf ⟨rfl,by decide,by decide,rfl⟩ hY F (fun _ _ a ns hl _ hS=>⟨a,ns,rfl,hS,hl,trivial,fun _=>rfl⟩) fun _ _ _ _ _ z=>z
end K63
def PySem.W.Fast.tw18268199584857924971 :Nat:=0
def PySem.W.Fast.tw11428888524277982661 :Nat:=0
def PySem.W.Fast.tw18243574808810539450 :Nat:=0
def PySem.W.Fast.tw393692480641142101 :Nat:=0
def PySem.W.Fast.tw10861209324898003581 :Nat:=0
def PySem.W.Fast.tw11202911260066351365 :Nat:=0
def PySem.W.Fast.tw16967578210413510909 :Nat:=0
def PySem.W.Fast.tw4472677274490082401 :Nat:=0
def PySem.W.Fast.tw12900995485625670067 :Nat:=0
def PySem.W.Fast.tw9561400031518498525 :Nat:=0
def PySem.W.Fast.tw16157021948644389746 :Nat:=0
def PySem.W.Fast.tw1210305392262314898 :Nat:=0
def PySem.W.Fast.tw795782370590967240 :Nat:=0
def PySem.W.Fast.tw7655361207356581652 :Nat:=0
def PySem.W.Fast.tw5212100996498345224 :Nat:=0
def PySem.W.Fast.tw11866416907189538954 :Nat:=0
def PySem.W.Fast.tw3749510519888191052 :Nat:=0
def PySem.W.Fast.tw2947821306573078959 :Nat:=0
def PySem.W.Fast.tw1966489625395810006 :Nat:=0
def PySem.W.Fast.tw8723857319299167363 :Nat:=0
def PySem.W.Fast.tw11743203118288969596 :Nat:=0
def PySem.W.Fast.tw9010686790563476207 :Nat:=0
def PySem.W.Fast.tw6555166416340012923 :Nat:=0
def PySem.W.Fast.tw821008167285693591 :Nat:=0
def PySem.W.Fast.tw7567791559065828305 :Nat:=0
def PySem.W.Fast.tw1251838346149982493 :Nat:=0
def PySem.W.Fast.tw2859105220341542810 :Nat:=0
def PySem.W.Fast.tw13603100299698210149 :Nat:=0
def PySem.W.Fast.tw12037024461768461065 :Nat:=0
def PySem.W.Fast.tw2519099922959474621 :Nat:=0
def PySem.W.Fast.tw2889720139115566570 :Nat:=0
def PySem.W.Fast.tw14454190252629897736 :Nat:=0
def PySem.W.Fast.tw12355532455015077506 :Nat:=0
def PySem.W.Fast.tw12503755607769333593 :Nat:=0
def PySem.W.Fast.tw17831888077518042566 :Nat:=0
def PySem.W.Fast.tw7798505226070427989 :Nat:=0
def PySem.W.Fast.tw13729963831385607214 :Nat:=0
def PySem.W.Fast.tw7231020027255302333 :Nat:=0
def PySem.W.Fast.tw15486743674763772498 :Nat:=0
def PySem.W.Fast.tw7068739055789268051 :Nat:=0
def PySem.W.Fast.tw10615246584836189528 :Nat:=0
def PySem.W.Fast.tw7795521624199847028 :Nat:=0
def PySem.W.Fast.tw2091125938193864917 :Nat:=0
def PySem.W.Fast.tw1843695322807001258 :Nat:=0
def PySem.W.Fast.tw18001691904273316994 :Nat:=0
def PySem.W.Fast.tw9358132188667249665 :Nat:=0
def PySem.W.Fast.tw12172351991040839653 :Nat:=0
def PySem.W.Fast.tw16546418186263963394 :Nat:=0
def PySem.W.Fast.tw3891300548064783349 :Nat:=0
def PySem.W.Fast.tw979225327154104731 :Nat:=0
def PySem.W.Fast.tw4623284001473764529 :Nat:=0
def PySem.W.Fast.tw4221696327679871069 :Nat:=0
def PySem.W.Fast.tw12514915683700335218 :Nat:=0
def PySem.W.Fast.tw9468475166755757170 :Nat:=0
def PySem.W.Fast.tw13114874270836441938 :Nat:=0
def PySem.W.Fast.tw1720377556169803185 :Nat:=0
def PySem.W.Fast.tw9389091059810890539 :Nat:=0
def PySem.W.Fast.tw14387863524283210941 :Nat:=0
def PySem.W.Fast.tw10157275937249155136 :Nat:=0
def PySem.W.Fast.tw205115378252901872 :Nat:=0
def PySem.W.Fast.tw7936325000343573083 :Nat:=0
def PySem.W.Fast.tw4050835126852234643 :Nat:=0
def PySem.W.Fast.tw7949290295667125764 :Nat:=0
def PySem.W.Fast.tw13151866964507353185 :Nat:=0
def PySem.W.Fast.tw16970572555513845130 :Nat:=0
def PySem.W.Fast.tw14223504924174317466 :Nat:=0
def PySem.W.Fast.tw11759935056187742947 :Nat:=0
def PySem.W.Fast.tw11251167406474672455 :Nat:=0
def PySem.W.Fast.tw13401903708053050551 :Nat:=0
def PySem.W.Fast.tw5487648253376533143 :Nat:=0
def PySem.W.Fast.tw10450733612484803751 :Nat:=0
def PySem.W.Fast.tw13256680190200735283 :Nat:=0
def PySem.W.Fast.tw13814405811725259311 :Nat:=0
def PySem.W.Fast.tw9467692630867532380 :Nat:=0
def PySem.W.Fast.tw3450441734620687209 :Nat:=0
def PySem.W.Fast.tw10417639069912222023 :Nat:=0
def PySem.W.Fast.tw5706369887127769000 :Nat:=0
def PySem.W.Fast.tw12555750816747090930 :Nat:=0
def PySem.W.Fast.tw991213958034584685 :Nat:=0
def PySem.W.Fast.tw4509898791280162918 :Nat:=0
def PySem.W.Fast.tw6877448747915311864 :Nat:=0
def PySem.W.Fast.tw2154270963820966678 :Nat:=0
def PySem.W.Fast.tw16834860902074074500 :Nat:=0
def PySem.W.Fast.tw10829135874883522741 :Nat:=0
def PySem.W.Fast.tw4566283247741173956 :Nat:=0
def PySem.W.Fast.tw240110197402782823 :Nat:=0
def PySem.W.Fast.tw6960857211203886078 :Nat:=0
def PySem.W.Fast.tw1270633557416917890 :Nat:=0
def PySem.W.Fast.tw5330791458951688373 :Nat:=0
def PySem.W.Fast.tw14002791641397942799 :Nat:=0
def PySem.W.Fast.tw18053053384317680125 :Nat:=0
def PySem.W.Fast.tw12692296024808570668 :Nat:=0
def PySem.W.Fast.tw8814463517043898410 :Nat:=0
def PySem.W.Fast.tw10183108410500413412 :Nat:=0
def PySem.W.Fast.tw10733319858426466124 :Nat:=0
def PySem.W.Fast.tw7239274418084297962 :Nat:=0
def PySem.W.Fast.tw14718457802717583603 :Nat:=0
def PySem.W.Fast.tw16280930628206305710 :Nat:=0
def PySem.W.Fast.tw14321324463814312088 :Nat:=0
def PySem.W.Fast.tw10512204365187287195 :Nat:=0
def PySem.W.Fast.tw8743273690964188583 :Nat:=0
def PySem.W.Fast.tw14614424401277442843 :Nat:=0
def PySem.W.Fast.tw5675113110938298064 :Nat:=0
def PySem.W.Fast.tw17005811306372289281 :Nat:=0
def PySem.W.Fast.tw6704854055927317838 :Nat:=0
def PySem.W.Fast.tw16153335074040018335 :Nat:=0
def PySem.W.Fast.tw7012438953044815922 :Nat:=0
def PySem.W.Fast.tw1144077591801238106 :Nat:=0
def PySem.W.Fast.tw4628006494987967821 :Nat:=0
def PySem.W.Fast.tw5471000301734148317 :Nat:=0
def PySem.W.Fast.tw497100156646001512 :Nat:=0
def PySem.W.Fast.tw9302039802234341146 :Nat:=0
def PySem.W.Fast.tw17641892810056894479 :Nat:=0
def PySem.W.Fast.tw3526975339291547091 :Nat:=0
def PySem.W.Fast.tw5660676793886968729 :Nat:=0
def PySem.W.Fast.tw2305804554490933839 :Nat:=0
def PySem.W.Fast.tw12026172566130574175 :Nat:=0
def PySem.W.Fast.tw4089925149076710585 :Nat:=0
def PySem.W.Fast.tw1640801269292316685 :Nat:=0
def PySem.W.Fast.tw6740189456721805230 :Nat:=0
def PySem.W.Fast.tw18075598482540410819 :Nat:=0
def PySem.W.Fast.tw546563864365532367 :Nat:=0
def PySem.W.Fast.tw6048660009983322380 :Nat:=0
def PySem.W.Fast.tw15096141406299023074 :Nat:=0
def PySem.W.Fast.tw11145220839524091234 :Nat:=0
def PySem.W.Fast.tw13011186155484757940 :Nat:=0
def PySem.W.Fast.tw6092224548937205111 :Nat:=0
def PySem.W.Fast.tw1208087843510980299 :Nat:=0
def PySem.W.Fast.tw3034326883732607014 :Nat:=0
def PySem.W.Fast.tw845663010926380226 :Nat:=0
def PySem.W.Fast.tw7569710618722248968 :Nat:=0
def PySem.W.Fast.tw5259612539845733099 :Nat:=0
def PySem.W.Fast.tw8681982043168209271 :Nat:=0
def PySem.W.Fast.tw2805019277431693969 :Nat:=0
def PySem.W.Fast.tw17168532651271147327 :Nat:=0
def PySem.W.Fast.tw780745129981003164 :Nat:=0
def PySem.W.Fast.tw8786736938500113478 :Nat:=0
def PySem.W.Fast.tw13502094265529517944 :Nat:=0
def PySem.W.Fast.tw11853835173167691254 :Nat:=0
def PySem.W.Fast.tw10868756238518707453 :Nat:=0
def PySem.W.Fast.tw7922272624402264822 :Nat:=0
def PySem.W.Fast.tw14048762800868231031 :Nat:=0
def PySem.W.Fast.tw2456178518718275451 :Nat:=0
def PySem.W.Fast.tw17488954893223914208 :Nat:=0
def PySem.W.Fast.tw13655604203119412907 :Nat:=0
def PySem.W.Fast.tw8664905429949979133 :Nat:=0
def PySem.W.Fast.tw3765387429960539778 :Nat:=0
def PySem.W.Fast.tw11893094407295577658 :Nat:=0
def PySem.W.Fast.tw1626270273641009108 :Nat:=0
def PySem.W.Fast.tw1050686921539607642 :Nat:=0
def PySem.W.Fast.tw2977208773517617816 :Nat:=0
def PySem.W.Fast.tw4731969915172398734 :Nat:=0
def PySem.W.Fast.tw12168407115642834442 :Nat:=0
def PySem.W.Fast.tw6543032697991847798 :Nat:=0
def PySem.W.Fast.tw5404148801629968339 :Nat:=0
def PySem.W.Fast.tw10758500505537563077 :Nat:=0
def PySem.W.Fast.tw3508782675875980653 :Nat:=0
def PySem.W.Fast.tw4984407384258549271 :Nat:=0
def PySem.W.Fast.tw717489693967702457 :Nat:=0
def PySem.W.Fast.tw3220328670450860598 :Nat:=0
def PySem.W.Fast.tw14803618138456374632 :Nat:=0
def PySem.W.Fast.tw17878227881351171999 :Nat:=0
def PySem.W.Fast.tw10345210342425171817 :Nat:=0
def PySem.W.Fast.tw6037522534158974678 :Nat:=0
def PySem.W.Fast.tw14569806795263441961 :Nat:=0
def PySem.W.Fast.tw15122019444114878038 :Nat:=0
def PySem.W.Fast.tw2585078355682502702 :Nat:=0
def PySem.W.Fast.tw13813259981134538413 :Nat:=0
def PySem.W.Fast.tw14745314253924761043 :Nat:=0
def PySem.W.Fast.tw1117789409951608316 :Nat:=0
def PySem.W.Fast.tw14714018284288353073 :Nat:=0
def PySem.W.Fast.tw13401829120558512995 :Nat:=0
def PySem.W.Fast.tw2479605954642011469 :Nat:=0
def PySem.W.Fast.tw3625635992104658357 :Nat:=0
def PySem.W.Fast.tw12468236339454883190 :Nat:=0
def PySem.W.Fast.tw2640274402705426976 :Nat:=0
def PySem.W.Fast.tw2680223506366238195 :Nat:=0
def PySem.W.Fast.tw14007483214717022755 :Nat:=0
def PySem.W.Fast.tw13866696020528473251 :Nat:=0
def PySem.W.Fast.tw12698663368234428004 :Nat:=0
def PySem.W.Fast.tw3288407599871240743 :Nat:=0
def PySem.W.Fast.tw11818953072294249560 :Nat:=0
def PySem.W.Fast.tw7838503514398701072 :Nat:=0
def PySem.W.Fast.tw7671488343561978850 :Nat:=0
def PySem.W.Fast.tw16826423556935002956 :Nat:=0
def PySem.W.Fast.tw15522272561997942417 :Nat:=0
def PySem.W.Fast.tw3362284996035939619 :Nat:=0
def PySem.W.Fast.tw5800234227916581351 :Nat:=0
def PySem.W.Fast.tw15049638084140589862 :Nat:=0
def PySem.W.Fast.tw10371124106595973540 :Nat:=0
def PySem.W.Fast.tw17097999968058052211 :Nat:=0
def PySem.W.Fast.tw3205138888314048325 :Nat:=0
def PySem.W.Fast.tw6956395584568853539 :Nat:=0
def PySem.W.Fast.tw15362771478120393767 :Nat:=0
def PySem.W.Fast.tw2057323232584021959 :Nat:=0
def PySem.W.Fast.tw11718578646248007196 :Nat:=0
def PySem.W.Fast.tw12850434456048702233 :Nat:=0
def PySem.W.Fast.tw15716458789136373961 :Nat:=0
def PySem.W.Fast.tw6958514784793214024 :Nat:=0
def PySem.W.Fast.tw10538154765831503231 :Nat:=0
def PySem.W.Fast.tw14738516866420484433 :Nat:=0
def PySem.W.Fast.tw16371926051118838327 :Nat:=0
def PySem.W.Fast.tw14614831600189979624 :Nat:=0
def PySem.W.Fast.tw14034885379303644260 :Nat:=0
def PySem.W.Fast.tw11835465085440241517 :Nat:=0
def PySem.W.Fast.tw17559137771637951426 :Nat:=0
def PySem.W.Fast.tw13710828575490545067 :Nat:=0
def PySem.W.Fast.tw18062844685459925969 :Nat:=0
def PySem.W.Fast.tw14567784302863034866 :Nat:=0
def PySem.W.Fast.tw14815445150337928773 :Nat:=0
def PySem.W.Fast.tw9301744343385261959 :Nat:=0
def PySem.W.Fast.tw13012350541821244196 :Nat:=0
def PySem.W.Fast.tw1969084737655918844 :Nat:=0
def PySem.W.Fast.tw4474300859262553692 :Nat:=0
def PySem.W.Fast.tw1459758814321653111 :Nat:=0
def PySem.W.Fast.tw3842171752144563214 :Nat:=0
def PySem.W.Fast.tw10196003417122008288 :Nat:=0
def PySem.W.Fast.tw1986484703945547336 :Nat:=0
def PySem.W.Fast.tw9035116641400238896 :Nat:=0
def PySem.W.Fast.tw5998056794626270815 :Nat:=0
def PySem.W.Fast.tw422059111947236466 :Nat:=0
def PySem.W.Fast.tw13217035508945257573 :Nat:=0
def PySem.W.Fast.tw15245580814952469116 :Nat:=0
def PySem.W.Fast.tw6266541603842580425 :Nat:=0
def PySem.W.Fast.tw15824116417606288673 :Nat:=0
def PySem.W.Fast.tw3216201963407637698 :Nat:=0
def PySem.W.Fast.tw8137564192276024353 :Nat:=0
def PySem.W.Fast.tw16022716345472785826 :Nat:=0
def PySem.W.Fast.tw15461074222140730465 :Nat:=0
def PySem.W.Fast.tw10109438116328224097 :Nat:=0
def PySem.W.Fast.tw10556676662154287096 :Nat:=0
def PySem.W.Fast.tw3054696457078709205 :Nat:=0
def PySem.W.Fast.tw8860316010782411198 :Nat:=0
def PySem.W.Fast.tw11597305019416470968 :Nat:=0
def PySem.W.Fast.tw14427359224131177427 :Nat:=0
def PySem.W.Fast.tw17868283992067380617 :Nat:=0
def PySem.W.Fast.tw16421162175548966940 :Nat:=0
def PySem.W.Fast.tw11780579399310337969 :Nat:=0
def PySem.W.Fast.tw2341782796125495891 :Nat:=0
def PySem.W.Fast.tw1856809747110401120 :Nat:=0
def PySem.W.Fast.tw11156843296184221464 :Nat:=0
def PySem.W.Fast.tw4614161472110637485 :Nat:=0
def PySem.W.Fast.tw1835331312045237857 :Nat:=0
def PySem.W.Fast.tw4249304330940219329 :Nat:=0
def PySem.W.Fast.tw16980964224903537661 :Nat:=0
def PySem.W.Fast.tw5352034583360844042 :Nat:=0
def PySem.W.Fast.tw7437374939054039950 :Nat:=0
def PySem.W.Fast.tw5270046178740918158 :Nat:=0
def PySem.W.Fast.tw3561858946987830912 :Nat:=0
def PySem.W.Fast.tw9230710879951694074 :Nat:=0
def PySem.W.Fast.tw18199749479003425825 :Nat:=0
def PySem.W.Fast.tw458396837179694163 :Nat:=0
def PySem.W.Fast.tw17244946742012763044 :Nat:=0
def PySem.W.Fast.tw13216079693796690923 :Nat:=0
def PySem.W.Fast.tw228020315219507868 :Nat:=0
def PySem.W.Fast.tw11869511094352099623 :Nat:=0
def PySem.W.Fast.tw5380800698533513716 :Nat:=0
def PySem.W.Fast.tw10693219980246411865 :Nat:=0
def PySem.W.Fast.tw12702020385489750569 :Nat:=0
def PySem.W.Fast.tw3828851876417185261 :Nat:=0
def PySem.W.Fast.tw10296192419732843908 :Nat:=0
def PySem.W.Fast.tw15606370556090907082 :Nat:=0
def PySem.W.Fast.tw6135463618616903439 :Nat:=0
def PySem.W.Fast.tw1365898332729720594 :Nat:=0
def PySem.W.Fast.tw13335376921036899738 :Nat:=0
def PySem.W.Fast.tw11261352510641528243 :Nat:=0
def PySem.W.Fast.tw161007738512229783 :Nat:=0
def PySem.W.Fast.tw15139851528724053803 :Nat:=0
def PySem.W.Fast.tw7879427749507724820 :Nat:=0
def PySem.W.Fast.tw16972052150097422581 :Nat:=0
def PySem.W.Fast.tw3443245034139539912 :Nat:=0
def PySem.W.Fast.tw4980112103862219951 :Nat:=0
def PySem.W.Fast.tw14210685057655116668 :Nat:=0
def PySem.W.Fast.tw8170325287033662188 :Nat:=0
def PySem.W.Fast.tw5949861992191700214 :Nat:=0
def PySem.W.Fast.tw15607569318109382725 :Nat:=0
def PySem.W.Fast.tw14444545494849487511 :Nat:=0
def PySem.W.Fast.tw13865449641496105129 :Nat:=0
def PySem.W.Fast.tw14904501933191333784 :Nat:=0
open PySem PySem.W PyProof.Rows
set_option maxRecDepth 100000 in
set_option maxHeartbeats 0 in
theorem PySem.Challenge.cw_stayprice_k63_why_is_least_holds : PySem.Challenge.rw_stayprice_k63_why_is_least.Holds := by
 w_on;o_law;k_head;(case hw=>w_witness2)
 k_fill
 refine K63.walk (l:=PySem.Challenge.rw_stayprice_k63_why_is_least) rfl rfl (fun w h Y=>PySem.W.kIn_of Y) ?hF
 case hF=>
  intro w mg fa h KX G hmg
  refine' K63.all_mk KX G hmg (K63.mkG ?_ ?_ ?_ ?_) (K63.mkG ?_ ?_ ?_ ?_) (K63.mkG ?_ ?_ ?_ ?_) (K63.mkG ?_ ?_ ?_ ?_) (K63.mkG ?_ ?_ ?_ ?_) (K63.mkG ?_ ?_ ?_ ?_) (K63.mkG ?_ ?_ ?_ ?_) (K63.mkG ?_ ?_ ?_ ?_) (K63.mkG ?_ ?_ ?_ ?_) (K63.mkG ?_ ?_ ?_ ?_) (K63.mkG ?_ ?_ ?_ ?_) (K63.mkG ?_ ?_ ?_ ?_) (K63.mkG ?_ ?_ ?_ ?_) (K63.mkG ?_ ?_ ?_ ?_) (K63.mkG ?_ ?_ ?_ ?_) (K63.mkG ?_ ?_ ?_ ?_) (K63.mkG ?_ ?_ ?_ ?_) (K63.mkG ?_ ?_ ?_ ?_) (K63.mkG ?_ ?_ ?_ ?_) (K63.mkG ?_ ?_ ?_ ?_) (K63.mkG ?_ ?_ ?_ ?_) (K63.mkG ?_ ?_ ?_ ?_) (K63.mkG ?_ ?_ ?_ ?_) (K63.mkG ?_ ?_ ?_ ?_) (K63.mkG ?_ ?_ ?_ ?_) (K63.mkG ?_ ?_ ?_ ?_) (K63.mkG ?_ ?_ ?_ ?_) (K63.mkG ?_ ?_ ?_ ?_) (K63.mkG ?_ ?_ ?_ ?_) (K63.mkG ?_ ?_ ?_ ?_) (K63.mkG ?_ ?_ ?_ ?_) (K63.mkG ?_ ?_ ?_ ?_) (K63.mkG ?_ ?_ ?_ ?_) (K63.mkG ?_ ?_ ?_ ?_) (K63.mkG ?_ ?_ ?_ ?_) ?_ ?_ ?_ ?_ ?_ ?_ ?_ ?_ ?_ ?_ ?_ (K63.mkR ?_ ?_ ?_ ?_ ?_ ?_ ?_ ?_ ?_ ?_ ?_ ?_ ?_ ?_ ?_ ?_ ?_ ?_ ?_ ?_) (K63.mkR ?_ ?_ ?_ ?_ ?_ ?_ ?_ ?_ ?_ ?_ ?_ ?_ ?_ ?_ ?_ ?_ ?_ ?_ ?_ ?_) (K63.mkR ?_ ?_ ?_ ?_ ?_ ?_ ?_ ?_ ?_ ?_ ?_ ?_ ?_ ?_ ?_ ?_ ?_ ?_ ?_ ?_) (K63.mkR ?_ ?_ ?_ ?_ ?_ ?_ ?_ ?_ ?_ ?_ ?_ ?_ ?_ ?_ ?_ ?_ ?_ ?_ ?_ ?_) (K63.mkR ?_ ?_ ?_ ?_ ?_ ?_ ?_ ?_ ?_ ?_ ?_ ?_ ?_ ?_ ?_ ?_ ?_ ?_ ?_ ?_) (K63.mkR ?_ ?_ ?_ ?_ ?_ ?_ ?_ ?_ ?_ ?_ ?_ ?_ ?_ ?_ ?_ ?_ ?_ ?_ ?_ ?_) (K63.mkR ?_ ?_ ?_ ?_ ?_ ?_ ?_ ?_ ?_ ?_ ?_ ?_ ?_ ?_ ?_ ?_ ?_ ?_ ?_ ?_) (K63.mkF ?_ ?_ ?_) (K63.mkF ?_ ?_ ?_) (K63.mkF ?_ ?_ ?_) (K63.mkF ?_ ?_ ?_) (K63.mkF ?_ ?_ ?_) (K63.mkF ?_ ?_ ?_) (K63.mkF ?_ ?_ ?_) (K63.mkF ?_ ?_ ?_) (K63.mkF ?_ ?_ ?_) (K63.mkF ?_ ?_ ?_) ?_ ?_ ?_ ?_ ?_ ?_ ?_ ?_ ?_ (K63.mkF ?_ ?_ ?_) ?_ ?_ (K63.mkF ?_ ?_ ?_) ?_ ?_ ?_ ?_ ?_ ?_ ?_ ?_ ?_ ?_ ?_ ?_ ?_ ?_ ?_ ?_ ?_ ?_ ?_ ?_ ?_ ?_ ?_ ?_ ?_ ?_ ?_ ?_ ?_ ?_ ?_ ?_ ?_ ?_ ?_ ?_ ?_ ?_ ?_ ?_ ?_ ?_ ?_ ?_ ?_ ?_ ?_ ?_ ?_ ?_ ?_ ?_ ?_ ?_ ?_ ?_ ?_ ?_
  all_goals try (show _=_;first|k_is|kernel_rfl)
